import PyProof.Rows.All
import Wide.All
import OpenK.AllK
import Wide.FinOn
import Lean
import PyProof.EqAt
import PyProof.EqKinds
import PyProof.TupleCall
import KE.KSortTup
import PyProof.JoinWalk
import PyProof.DictIter
import PyProof.SeqI3
import PyProof.WalkInts
import PyProof.DictTruth
import PyProof.ListRange
import PyProof.DictWalks
import PyProof.Rows.SortWalk
import PySem.Challenge.RW_dialecthall_k85_trees_least_deep
set_option Elab.async false
set_option linter.all false
set_option maxRecDepth 100000
set_option hygiene false
local macro_rules
|`('a')=>`((λcdv A outer s H vs Q E hr h=>?_))
|`('b')=>`((by decide))
|`('c')=>`((by omega))
|`('d')=>`(model X.prog X.w)
|`('e')=>`((λvs H Q E h=>?_))
|`('f')=>`(Addr×Obj)
|`('g')=>`((by decide +kernel))
|`('h')=>`((λσ' H'=>aD H H'/\σ'=[some (.ref t),some (.int n),some (.int w),some (.ref l)]/\∃y:fW,xY y/\H' l=some (.lst (jf y))))
theorem aah:type_of% @if_neg:=@if_neg
theorem aai:type_of% @PySem.wpAny_bind:=@PySem.wpAny_bind
theorem aaj:type_of% @List.length_map:=@List.length_map
theorem aak:type_of% @List.size_toArray:=@List.size_toArray
theorem aal:type_of% @if_pos:=@if_pos
theorem aam:type_of% @List.getElem?_eq_some_iff:=@List.getElem?_eq_some_iff
theorem aan:type_of% @List.mem_singleton:=@List.mem_singleton
theorem aao:type_of% @Nat.le_refl:=@Nat.le_refl
theorem aap:type_of% @PySem.Heap.get?_push_of_some:=@PySem.Heap.get?_push_of_some
theorem aaq:type_of% @List.mem_cons_of_mem:=@List.mem_cons_of_mem
theorem aar:type_of% @List.mem_of_getElem?:=@List.mem_of_getElem?
theorem aas:type_of% @List.mem_cons:=@List.mem_cons
theorem aat:type_of% @List.mem_cons_self:=@List.mem_cons_self
theorem aau:type_of% @List.getElem?_eq_getElem:=@List.getElem?_eq_getElem
theorem aav:type_of% @Nat.lt_of_le_of_lt:=@Nat.lt_of_le_of_lt
theorem aaw:type_of% @PySem.Heap.lt_size:=@PySem.Heap.lt_size
theorem aax:type_of% @decide_eq_false:=@decide_eq_false
theorem aay:type_of% @decide_eq_true:=@decide_eq_true
theorem aaz:type_of% @Nat.le_trans:=@Nat.le_trans
theorem aaA:type_of% @Option.some.inj:=@Option.some.inj
theorem aaB:type_of% @PySem.wpAny_pure:=@PySem.wpAny_pure
theorem aaC:type_of% @Bool.false_ne_true:=@Bool.false_ne_true
theorem aaD:type_of% @List.take_of_length_le:=@List.take_of_length_le
theorem aaE:type_of% @Array.length_toList:=@Array.length_toList
theorem aaF:type_of% @Nat.lt_of_lt_of_le:=@Nat.lt_of_lt_of_le
theorem aaG:type_of% @PySem.Heap.get?_push_size:=@PySem.Heap.get?_push_size
theorem aaH:type_of% @List.mem_append:=@List.mem_append
theorem aaI:type_of% @List.map_append:=@List.map_append
theorem aaJ:type_of% @List.length_append:=@List.length_append
theorem aaK:type_of% @PySem.F.plainAttrs_list:=@PySem.F.plainAttrs_list
theorem aaL:type_of% @List.length_take:=@List.length_take
theorem aaM:type_of% @PySem.F.slot_list_append:=@PySem.F.slot_list_append
theorem aaN:type_of% @PySem.F.type_list_append:=@PySem.F.type_list_append
theorem aaO:type_of% @List.all_eq_true:=@List.all_eq_true
theorem aaP:type_of% @List.mem_append_right:=@List.mem_append_right
theorem aaQ:type_of% @List.mem_map:=@List.mem_map
theorem aaR:type_of% @List.length_cons:=@List.length_cons
theorem aaS:type_of% @Nat.ne_of_lt:=@Nat.ne_of_lt
theorem aaT:type_of% @List.getElem?_map:=@List.getElem?_map
theorem aaU:type_of% @PySem.mem_of_lookup:=@PySem.mem_of_lookup
theorem aaV:type_of% @Int.emod_lt_of_pos:=@Int.emod_lt_of_pos
theorem aaW:type_of% @PySem.Heap.get?_update_other:=@PySem.Heap.get?_update_other
theorem aaX:type_of% @PySem.PassesOwn.never:=@PySem.PassesOwn.never
theorem aaY:type_of% @Int.emod_nonneg:=@Int.emod_nonneg
theorem aaZ:type_of% @Nat.zero_le:=@Nat.zero_le
theorem aa0:type_of% @of_decide_eq_true:=@of_decide_eq_true
theorem aa1:type_of% @decide_eq_true_iff:=@decide_eq_true_iff
theorem aa2:type_of% @Bool.eq_iff_iff:=@Bool.eq_iff_iff
theorem aa3:type_of% @PySem.Heap.size_push:=@PySem.Heap.size_push
theorem aa4:type_of% @Option.map_some:=@Option.map_some
theorem aa5:type_of% @Array.getElem?_eq_some_iff:=@Array.getElem?_eq_some_iff
theorem aa6:type_of% @List.getD_eq_getElem?_getD:=@List.getD_eq_getElem?_getD
theorem aa7:type_of% @Bool.false_eq_true:=@Bool.false_eq_true
theorem aa8:type_of% @List.nodup_cons:=@List.nodup_cons
theorem aa9:type_of% @PyProof.Rows.callWith_type1:=@PyProof.Rows.callWith_type1
theorem abb:type_of% @PySem.Obj.data_mapFields:=@PySem.Obj.data_mapFields
theorem abd:type_of% @List.mem_nil_iff:=@List.mem_nil_iff
theorem abe:type_of% @List.mem_flatten:=@List.mem_flatten
theorem abf:type_of% @PySem.wpAny_field:=@PySem.wpAny_field
theorem abg:type_of% @List.length_replicate:=@List.length_replicate
theorem abh:type_of% @List.lookup_cons:=@List.lookup_cons
theorem abi:type_of% @List.map_cons:=@List.map_cons
theorem abj:type_of% @List.mem_append_left:=@List.mem_append_left
theorem abk:type_of% @PySem.wpAny_mono:=@PySem.wpAny_mono
theorem abl:type_of% @List.nodup_append:=@List.nodup_append
theorem abm:type_of% @Ne.symm:=@Ne.symm
theorem abn:type_of% @PySem.Heap.get?_update_self:=@PySem.Heap.get?_update_self
theorem abo:type_of% @PySem.Obj.isFreed_of_fields:=@PySem.Obj.isFreed_of_fields
theorem abp:type_of% @Array.getElem?_setIfInBounds_ne:=@Array.getElem?_setIfInBounds_ne
theorem abq:type_of% @PySem.Heap.get?_none_of_le:=@PySem.Heap.get?_none_of_le
theorem abr:type_of% @List.append_nil:=@List.append_nil
theorem abt:type_of% @List.mem_of_mem_take:=@List.mem_of_mem_take
theorem abu:type_of% @PySem.wpAny_truthy_bool:=@PySem.wpAny_truthy_bool
theorem abv:type_of% @PySem.W.kia_one:=@PySem.W.kia_one
theorem abw:type_of% @PySem.wpAny_getItem_str_slice:=@PySem.wpAny_getItem_str_slice
theorem abx:type_of% @if_true:=@if_true
theorem aby:type_of% @PySem.wpAny_Call_Name_kw:=@PySem.wpAny_Call_Name_kw
theorem abz:type_of% @PySem.SeqAt.EqAt.of_refs:=@PySem.SeqAt.EqAt.of_refs
theorem abA:type_of% @PySem.wpAny_setField_rec:=@PySem.wpAny_setField_rec
theorem abB:type_of% @PySem.wpAny_passesOwn:=@PySem.wpAny_passesOwn
theorem abC:type_of% @PySem.SeqAt.EqAt.same:=@PySem.SeqAt.EqAt.same
theorem abD:type_of% @List.mem_iff_getElem?:=@List.mem_iff_getElem?
theorem abE:type_of% @PySem.F.excBase_ValueError:=@PySem.F.excBase_ValueError
theorem abF:type_of% @List.nodup_nil:=@List.nodup_nil
theorem abG:type_of% @Nat.ne_of_gt:=@Nat.ne_of_gt
theorem abH:type_of% @if_false:=@if_false
theorem abI:type_of% @List.getElem_mem:=@List.getElem_mem
theorem abJ:type_of% @List.flatten_append:=@List.flatten_append
theorem abK:type_of% @Nat.lt_irrefl:=@Nat.lt_irrefl
theorem O{α:Sort _}{a:α}:a=a:=rfl
namespace L2
open PySem PySem.Spec PyProof.Rows
abbrev Key:=Sum Int Str
def sf:Key->Value->Bool
 | .inl k,v=>Value.isInt k v
 | .inr x,v=>Value.isStrOf x v
def M9(w:World):Key->Int
 | .inl k=>hashInt k
 | .inr x=>hashStr w x
theorem bT:∀{k:Key}{v:Value},sf k v=true->(∃i t,k=Sum.inl i/\v=Value.int i t)\/(∃x t,k=Sum.inr x/\v=Value.str x t)
 | .inl i,v,h=>by
  obtain⟨t,e⟩:=Value.isInt_shape (k:=i) (v:=v) h
  exact .inl ⟨i,t,rfl,e⟩
 | .inr x,v,h=>by
  obtain⟨t,e⟩:=Value.isStrOf_shape (x:=x) (v:=v) h
  exact .inr ⟨x,t,rfl,e⟩
theorem DR(i:Int)(t:Tok):sf (.inl i) (.int i t)=true:=by simp[sf,Value.isInt]
theorem DS(x:Str)(t:Tok):sf (.inr x) (.str x t)=true:=by simp[sf,Value.isStrOf]
theorem Fd(a b:Int):decide ((Sum.inl a:Key)=Sum.inl b)=(a==b):=by
 by_cases e:a=b
 ·subst e;simp
 ·have h:¬(Sum.inl a:Key)=Sum.inl b:=λq=>e (Sum.inl.inj q)
  rw[aax h]
  exact(beq_eq_false_iff_ne.mpr e).symm
theorem Fe(a b:Str):decide ((Sum.inr a:Key)=Sum.inr b)=decide (a=b):=by
 by_cases e:a=b
 ·subst e;simp
 ·have h:¬(Sum.inr a:Key)=Sum.inr b:=λq=>e (Sum.inr.inj q)
  rw[aax h,aax e]
theorem Ff(a:Int)(b:Str):decide ((Sum.inl a:Key)=Sum.inr b)=false:=aax (λq=>nomatch q)
theorem Fg(a:Str)(b:Int):decide ((Sum.inr a:Key)=Sum.inl b)=false:=aax (λq=>nomatch q)
def ju(prog:Program)(w:World):PySem.KeyKind prog w Key where
 is:=sf
 hash:=M9 w
 inj:=λv a b ha hb=>by
  rcases bT ha with ⟨i,t,rfl,rfl⟩|⟨x,t,rfl,rfl⟩
  ·rcases bT hb with ⟨j,u,rfl,e⟩|⟨y,u,rfl,e⟩
   ·injection e with e1 _;rw[e1]
   ·exact nomatch e
  ·rcases bT hb with ⟨j,u,rfl,e⟩|⟨y,u,rfl,e⟩
   ·exact nomatch e
   ·injection e with e1 _;rw[e1]
 byValue:=λk v h=>by
  rcases bT h with ⟨i,t,rfl,rfl⟩|⟨x,t,rfl,rfl⟩<;>rfl
 pyHash:=λhv h=>by
  rcases bT hv with ⟨i,t,rfl,rfl⟩|⟨x,t,rfl,rfl⟩
  ·exact wpAny_pyHash_int h
  ·exact wpAny_pyHash_str h
 eqBool:=λhu hv h=>by
  rcases bT hu with ⟨i,t,rfl,rfl⟩|⟨x,t,rfl,rfl⟩
  ·rcases bT hv with ⟨j,u,rfl,rfl⟩|⟨y,u,rfl,rfl⟩
   ·rw[Fd]at h;exact wpAny_eqBool_int h
   ·rw[Ff]at h;exact SeqAt.EqAt.int_str i t y u _ _ _ _ h
  ·rcases bT hv with ⟨j,u,rfl,rfl⟩|⟨y,u,rfl,rfl⟩
   ·rw[Fg]at h;exact SeqAt.EqAt.str_int x t j u _ _ _ _ h
   ·rw[Fe]at h;exact wpAny_eqBool_str h
 «strs» := λk x t v h=>by
  rcases bT h with ⟨i,u,rfl,e⟩|⟨y,u,rfl,e⟩
  ·exact nomatch e
  ·injection e with e1 _
   subst e1
   cases v<;>rfl
theorem zY(prog:Program)(w:World)(i:Int)(t:Tok):(ju prog w).is (.inl i) (.int i t)=true:=DR i t
theorem zZ(prog:Program)(w:World)(x:Str)(t:Tok):(ju prog w).is (.inr x) (.str x t)=true:=DS x t
inductive V where
 |non|bl (b:Bool)|int (i:Int)|str (x:Str)|E4 (b:Array UInt8)|qG (b:UInt64)|ref (a:Addr)|ty (n:String)
 deriving DecidableEq
def RelV:V->Value->Prop
 | .non,u=>u=Value.none
 | .bl b,u=>u=Value.bool b
 | .int i,u=>∃t,u=Value.int i t
 | .str x,u=>∃t,u=Value.str x t
 | .E4 b,u=>∃t,u=Value.bytes b t
 | .qG b,u=>∃t,u=Value.float b t
 | .ref a,u=>u=Value.ref a
 | .ty n,u=>u=Value.type n
abbrev Vals:List V->List Value->Prop:=Paired RelV
theorem Vals.length{xs:List V}{us:List Value}(r:Vals xs us):xs.length=us.length:=Paired.length r
theorem Vals.get:∀{xs:List V}{us:List Value}{i:Nat}{x:V},Vals xs us->xs[i]?=some x->∃u,us[i]?=some u/\RelV x u
 |_,_,_,_,.nil,e=>by simp at e
 |_,_,0,_,.cons r _,e=>by simp at e;subst e;exact⟨_,rfl,r⟩
 |_,_,i+1,x,.cons _ t,e=>by
  obtain⟨u,h1,h2⟩:=Vals.get (i:=i) (x:=x) t (by simpa using e)
  exact⟨u,by simpa using h1,h2⟩
theorem Vals.set{x:V}{u:Value}(r:RelV x u):∀{xs:List V}{us:List Value}(i:Nat),Vals xs us->Vals (xs.set i x) (us.set i u)
 |_,_,_,.nil=>.nil
 |_,_,0,.cons _ t=>.cons r t
 |_,_,i+1,.cons q t=>.cons q (Vals.set r i t)
theorem Vals.append:∀{xs ys:List V}{us ws:List Value},Vals xs us->Vals ys ws->Vals (xs++ys) (us++ws)
 |_,_,_,_,.nil,s=>s
 |_,_,_,_,.cons r t,s=>.cons r (Vals.append t s)
theorem Vals.take:∀{xs:List V}{us:List Value}(n:Nat),Vals xs us->Vals (xs.take n) (us.take n)
 |_,_,0,_=>.nil
 |_,_,_+1,.nil=>.nil
 |_,_,n+1,.cons r t=>.cons r (Vals.take n t)
theorem Vals.drop:∀{xs:List V}{us:List Value}(n:Nat),Vals xs us->Vals (xs.drop n) (us.drop n)
 |_,_,0,r=>r
 |_,_,_+1,.nil=>.nil
 |_,_,n+1,.cons _ t=>Vals.drop n t
def qH:Option V->Option Value->Prop
 |some v,some u=>RelV v u
 |none,none=>True
 |_,_=>False
def KV{κ:Type}:List (κ×V)->List (κ×Value)->Prop:=Paired λ(p:κ×V)(q:κ×Value)=>p.1=q.1/\RelV p.2 q.2
def kV:Key->V
 | .inl i=>.int i
 | .inr x=>.str x
inductive HO where
 |lst (xs:List V)
 |tup (xs:List V)
 |dK (kvs:List (Key×V))|dT (kvs:List (List Key×V))
 |set (S:Int->Bool) (n:Nat)
 |ins (C dx:Addr) (fs:List (Str×V))
 |own (x:Addr)
 |xd (fs:List (Str×V))
 |met (f x:Addr)
 |PX (lo hi:Int)
 |BG (o:Obj) (u:HO)
 |JP (ps:Array Value)
 |ext (φ:Heap->Prop)
abbrev Hp:=Addr->Option HO
def upd(H:Hp)(a:Addr)(o:HO):Hp:=λb=>if b=a then some o else H b
theorem aj{H:Hp}{a:Addr}{o:HO}:upd H a o a=some o:=by unfold upd;rw[aal rfl]
theorem aB{H:Hp}{a b:Addr}{o:HO}(h:b≠a):upd H a o b=H b:=by unfold upd;rw[aah h]
theorem xG{H:Hp}{a b:Addr}{o u:HO}(h:H a=some o)(h':H b=some u)(d:o≠u):a≠b:=by
 intro e;subst e;rw[h]at h';exact d (aaA h')
theorem aU{H:Hp}{a b:Addr}{o:HO}(h:H a=some o)(h':H b=none):a≠b:=by
 intro e;subst e;rw[h]at h';cases h'
section
variable(P:Program)(w:World)
def cY(H:Hp)(h:Heap)(a:Addr):HO->Prop
 | .lst xs=>xs.length<=sizeLine/\∃(its:List Value)(n:Nat),Vals xs its/\h.get? a=some {cls:=.type "list",data:=.seq its.toArray n}
 | .tup xs=>xs.length<=sizeLine/\∃its:List Value,Vals xs its/\IsTup h a its.toArray
 | .dK kvs=>kvs.length<=sizeLine/\(a==sysModules)=false/\∃vs,KV kvs vs/\h.DictOf (ju P w) a vs
 | .dT kvs=>kvs.length<=sizeLine/\(a==sysModules)=false/\∃xs:List (List Key×Addr×Value),Paired (λ(p:List Key×V)(q:List Key×Addr×Value)=>p.1=q.1/\H q.2.1=some (.tup (p.1.map kV))/\RelV p.2 q.2.2) kvs xs/\∃o es ep,h.get? a=some o/\o.ExactDict/\o.data=.dict es ep/\es.toList=xs.map (entryOfKey (tupleKind (ju P w)))/\(xs.map (·.1)).Nodup
 | .set S n=>h.SetOf (intKind P w) a S n
 | .ins C dx fs=>H dx=some (.own a)/\fs.length<=1000/\dx≠a/\h.get? a=some (W.instObj C dx)/\∃mA,h.Ns1 dx mA/\(∀f,qH (fs.lookup f) (mA f))/\PySem.Within mA (fs.map (·.1))
 | .own _=>∃o,h.get? a=some o
 | .xd fs=>∃mA,h.Ns1 a mA/\∀f,qH (fs.lookup f) (mA f)
 | .PX lo hi=>∃t u v,h.get? a=some {cls:=.type "range",data:=.fields #[.int lo t,.int hi u,.int 1 v]}
 | .BG o u=>h.get? a=some o/\cY H h a u
 | .JP ps=>h.get? a=some {cls:=.none,data:=.fields ps}
 | .met f x=>h.get? a=some (W.methodObj (.ref f) (.ref x))
 | .ext φ=>φ h/\(∃o,h.get? a=some o)/\∀h1 h2:Heap,φ h1->(∀o,h1.get? a=some o->h2.get? a=some o)->φ h2
def qI(H:Hp)(h:Heap):Prop:=∀a o,H a=some o->cY P w H h a o
end
section
variable{P:Program}{w:World}{H H':Hp}{h h':Heap}{a:Addr}{o:HO}
theorem cY.lt(x:cY P w H h a o):a<h.objs.size:=by
 cases o with
 |lst xs=>obtain⟨_,_,_,_,e⟩:=x;exact aaw e
 |tup xs=>obtain⟨_,_,_,p⟩:=x;exact p.lt
 |dK kvs=>obtain⟨_,_,_,_,o,_,_,e,_⟩:=x;exact aaw e
 |dT kvs=>obtain⟨_,_,_,_,o,_,_,e,_⟩:=x;exact aaw e
 |set S n=>obtain⟨o,_,_,_,e,_⟩:=x;exact aaw e
 |ins C dx fs=>obtain⟨_,_,_,e,_⟩:=x;exact aaw e
 |own y=>obtain⟨_,e⟩:=x;exact aaw e
 |xd fs=>obtain⟨_,⟨_,_,_,e,_⟩,_⟩:=x;exact aaw e
 |PX lo hi=>obtain⟨_,_,_,e⟩:=x;exact aaw e
 |BG ob u=>obtain⟨e,_⟩:=x;exact aaw e
 |JP ps=>exact aaw (show h.get? a=some _ from x)
 |met f y=>exact aaw (show h.get? a=some _ from x)
 |ext φ=>obtain⟨_,⟨_,e⟩,_⟩:=x;exact aaw e
theorem Paired.Fi{α β:Type}{F G:α->β->Prop}:∀{l₁:List α}{l₂:List β},Paired F l₁ l₂->(∀a b,F a b->G a b)->Paired G l₁ l₂
 |_,_,.nil,_=>.nil
 |_,_,.cons r t,f=>.cons (f _ _ r) (Paired.Fi t f)
theorem cY.stay(x:cY P w H h a o)(k:∀b u,(b=a\/H b=some (.own a))->h.get? b=some u->h'.get? b=some u)(ho:∀b,H b=some (.own a)->H' b=some (.own a))(ht:∀b xs,H b=some (.tup xs)->H' b=some (.tup xs)):cY P w H' h' a o:=by
 induction o with
 |lst xs=>obtain⟨z,its,n,r,e⟩:=x;exact⟨z,its,n,r,k _ _ (.inl rfl) e⟩
 |tup xs=>obtain⟨z,its,r,ob,e,c⟩:=x;exact⟨z,its,r,ob,k _ _ (.inl rfl) e,c⟩
 |dK kvs=>obtain⟨z,y,vs,r,ob,es,ep,e,c⟩:=x;exact⟨z,y,vs,r,ob,es,ep,k _ _ (.inl rfl) e,c⟩
 |dT kvs =>
  obtain⟨z,y,xs,r,ob,es,ep,e,c⟩:=x
  exact⟨z,y,xs,Paired.Fi r λp q z=>⟨z.1,ht _ _ z.2.1,z.2.2⟩,ob,es,ep,k _ _ (.inl rfl) e,c⟩
 |set S n=>obtain⟨ob,es,ep,t,e,c⟩:=x;exact⟨ob,es,ep,t,k _ _ (.inl rfl) e,c⟩
 |ins C dx fs =>
  obtain⟨d,z,ne,e,mA,⟨od,es,ep,e2,c⟩,r⟩:=x
  exact⟨ho _ d,z,ne,k _ _ (.inl rfl) e,mA,⟨od,es,ep,k _ _ (.inr d) e2,c⟩,r⟩
 |own y=>obtain⟨ob,e⟩:=x;exact⟨ob,k _ _ (.inl rfl) e⟩
 |xd fs=>obtain⟨mA,⟨od,es,ep,e,c⟩,r⟩:=x;exact⟨mA,⟨od,es,ep,k _ _ (.inl rfl) e,c⟩,r⟩
 |PX lo hi=>obtain⟨t,u,v,e⟩:=x;exact⟨t,u,v,k _ _ (.inl rfl) e⟩
 |BG ob u ih=>obtain⟨e,q⟩:=x;exact⟨k _ _ (.inl rfl) e,ih q⟩
 |JP ps =>
  have e:h.get? a=some {cls:=.none,data:=.fields ps}:=x
  show h'.get? a=some {cls:=.none,data:=.fields ps}
  exact k a _ (.inl rfl) e
 |met f y =>
  have e:h.get? a=some (W.methodObj (.ref f) (.ref y)):=x
  show h'.get? a=some (W.methodObj (.ref f) (.ref y))
  exact k a _ (.inl rfl) e
 |ext φ=>obtain⟨p,⟨o,e⟩,st⟩:=x;exact⟨st _ _ p λo q=>k _ _ (.inl rfl) q,⟨o,k _ _ (.inl rfl) e⟩,st⟩
theorem qI.lt(x:qI P w H h)(e:H a=some o):a<h.objs.size:=(x a o e).lt
theorem qI.fresh(x:qI P w H h)(e:h.objs.size<=a):H a=none:=by
 cases q:H a with
 |none=>rfl
 |some u=>exact absurd (aaF (x.lt q) e) (abK _)
theorem qI.kept(x:qI P w H h)(k:∀b u,h.get? b=some u->h'.get? b=some u):qI P w H h':=λa o e =>
 (x a o e).stay (λb u _ q=>k b u q) (λ_ q=>q) λ_ _ q=>q
theorem qI.laid(x:qI P w H h)(k:∀b u,h.get? b=some u->h'.get? b=some u)(hp:h.objs.size<=a)(new:cY P w (upd H a o) h' a o):qI P w (upd H a o) h':=λb u e=>by
 have hn:=x.fresh hp
 by_cases hb:b=a
 ·subst hb;rw[aj]at e;cases e;exact new
 ·rw[aB hb]at e
  exact(x b u e).stay (λc v _ q=>k c v q) (λc q=>by rw[aB (aU q hn)];exact q) λc xs q=>by rw[aB (aU q hn)];exact q
end
def Rd(H:Hp)(a:Addr)(u:HO):Prop:=H a=some u\/∃o,H a=some (.BG o u)
theorem Rd.ok{P:Program}{w:World}{H:Hp}{h:Heap}{a:Addr}{u:HO}(r:Rd H a u)(x:qI P w H h):cY P w H h a u:=by
 rcases r with r|⟨o,r⟩
 ·exact x a u r
 ·obtain⟨_,q⟩:=x a _ r
  exact q
def PY:Option HO->Prop
 |some (.lst _)=>True
 |some (.dK _)=>True
 |some (.dT _)=>True
 |some (.set _ _)=>True
 |some (.ins _ _ _)=>True
 |some (.ext _)=>True
 |_=>False
section
variable{P:Program}{w:World}{H:Hp}{h h':Heap}{x e:Addr}{o':HO}
theorem qI.write(ok:qI P w H h)(mu:PY (H x))(he:e=x\/H e=some (.own x))(k:∀b u,b≠e->h.get? b=some u->h'.get? b=some u)(MN:∃u,h'.get? e=some u)(new:cY P w (upd H x o') h' x o'):qI P w (upd H x o') h':=λb u q=>by
 have Na:∀c y,H c=some (.own y)->c≠x:=λc y r z=>by subst z;rw[r]at mu;exact mu
 have Qy:∀c xs,H c=some (.tup xs)->c≠x:=λc xs r z=>by subst z;rw[r]at mu;exact mu
 by_cases hb:b=x
 ·subst hb;rw[aj]at q;cases q;exact new
 ·rw[aB hb]at q
  by_cases KC:b=e
  ·have q':H b=some (.own x):=by
    rcases he with z|z
    ·exact absurd (KC.trans z) hb
    ·rw[KC];exact z
   rw[q]at q';cases q'
   obtain⟨v,hv⟩:=MN
   exact⟨v,by rw[KC];exact hv⟩
  ·refine(ok b u q).stay (λc v hc r=>k c v ?_ r) (λc r=>by rw[aB (Na c b r)];exact r) λc xs r=>by rw[aB (Qy c xs r)];exact r
   rcases hc with rfl|hc
   ·exact KC
   ·rintro rfl
    rcases he with z|z
    ·exact Na c b hc z
    ·rw[hc]at z;cases z;exact hb rfl
end
structure Un(fs ex:List Addr)(H H':Hp)(h h':Heap):Prop where
 keep:∀b o,h.get? b=some o->H b=none->b∉fs->b∉ex->h'.get? b=some o
 slot:∀b o,h.get? b=some o->H b=none->b∈fs->b∉ex->∃sl,h'.get? b=some {o with slots:=sl}
 free:∀b o,h.get? b=some o->H b=none->b∉ex->H' b=none
 there:∀b o,h.get? b=some o->b∉ex->∃o',h'.get? b=some o'
 tups:∀b xs,H b=some (.tup xs)->H' b=some (.tup xs)
 ou:∀b o u,H b=some (.BG o u)->H' b=some (.BG o u)
 pe:∀b ps,H b=some (.JP ps)->∃more,H' b=some (.JP (ps++more))
section
variable{fs fs' ex ex':List Addr}{H H1 H2:Hp}{h h1 h2 h':Heap}{a x e:Addr}{o:HO}
theorem Un.any(u:Un fs ex H H1 h h1){b:Addr}{ob:Obj}(q:h.get? b=some ob)(n:H b=none)(hx:b∉ex):∃sl,h1.get? b=some {ob with slots:=sl}:=by
 by_cases hb:b∈fs
 ·exact u.slot b ob q n hb hx
 ·exact⟨ob.slots,u.keep b ob q n hb hx⟩
theorem Un.trans(a:Un fs ex H H1 h h1)(b:Un fs ex H1 H2 h1 h2):Un fs ex H H2 h h2 where
 keep:=λc ob q n hc hx=>b.keep c ob (a.keep c ob q n hc hx) (a.free c ob q n hx) hc hx
 slot:=λc ob q n hc hx=>by
  obtain⟨sl,e1⟩:=a.slot c ob q n hc hx
  obtain⟨Qz,e2⟩:=b.slot c _ e1 (a.free c ob q n hx) hc hx
  exact⟨Qz,e2⟩
 free:=λc ob q n hx=>by
  obtain⟨o',e1⟩:=a.there c ob q hx
  exact b.free c o' e1 (a.free c ob q n hx) hx
 there:=λc ob q hx=>by
  obtain⟨o',e1⟩:=a.there c ob q hx
  exact b.there c o' e1 hx
 tups:=λc xs q=>b.tups c xs (a.tups c xs q)
 ou:=λc ob xs q=>b.ou c ob xs (a.ou c ob xs q)
 pe:=λc ps q=>by
  obtain⟨m1,e1⟩:=a.pe c ps q
  obtain⟨m2,e2⟩:=b.pe c _ e1
  exact⟨m1++m2,by rw[e2,Array.append_assoc]⟩
theorem Un.kept(k:∀b u,h.get? b=some u->h'.get? b=some u):Un fs ex H H h h' :=
 ⟨λb ob q _ _ _=>k b ob q,λb ob q _ _ _=>⟨ob.slots,k b ob q⟩,λ_ _ _ n _=>n,λb ob q _=>⟨ob,k b ob q⟩,λ_ _ q=>q,λ_ _ _ q=>q,λ_ ps q=>⟨#[],by rw[q];simp⟩⟩
theorem Un.refl:Un fs ex H H h h:=Un.kept λ_ _ q=>q
theorem Un.laid(k:∀b u,h.get? b=some u->h'.get? b=some u)(hp:h.objs.size<=a)(hn:H a=none):Un fs ex H (upd H a o) h h' where
 keep:=λb u q _ _ _=>k b u q
 slot:=λb u q _ _ _=>⟨u.slots,k b u q⟩
 free:=λb u q n _=>by rw[aB (aaS (aaF (aaw q) hp))];exact n
 there:=λb u q _=>⟨u,k b u q⟩
 tups:=λb xs q=>by rw[aB (aU q hn)];exact q
 ou:=λb u xs q=>by rw[aB (aU q hn)];exact q
 pe:=λb ps q=>⟨#[],by rw[aB (aU q hn),q];simp⟩
theorem Un.write(mu:PY (H x))(he:e=x\/H e=some (.own x))(k:∀b u,b≠e->h.get? b=some u->h'.get? b=some u)(MN:∃u,h'.get? e=some u):Un fs ex H (upd H x o) h h':=by
 have hx:∀b,H b=none->b≠x:=λb n z=>by subst z;rw[n]at mu;exact mu
 have hb:∀b,H b=none->b≠e:=λb n z=>by
  subst z
  rcases he with r|r
  ·exact hx b n r
  ·rw[n]at r;cases r
 have hm:∀b u,H b=some u->¬PY (some u)->b≠x:=λb u q nm z=>by subst z;rw[q]at mu;exact nm mu
 refine⟨λb u q n _ _=>k b u (hb b n) q,λb u q n _ _=>⟨u.slots,k b u (hb b n) q⟩,λb u q n _=>by rw[aB (hx b n)];exact n,λb u q _=>?_,λb xs q=>by rw[aB (hm b _ q λz=>z)];exact q,λb u xs q=>by rw[aB (hm b _ q λz=>z)];exact q,λb ps q=>⟨#[],by rw[aB (hm b _ q λz=>z),q];simp⟩⟩
 by_cases KC:b=e
 ·subst KC;exact MN
 ·exact⟨u,k b u KC q⟩
end
def PZ(h:Heap)(H:Hp):List Addr:=(List.range h.objs.size).filter λa=>(H a).isSome
def yi(h:Heap)(H:Hp):Heap:=W.hideAll h (PZ h H)
theorem DT(h:Heap)(H:Hp):(yi h H).objs.size=h.objs.size:=W.hideAll_size _ _
theorem Fj{h:Heap}{H:Hp}{b:Addr}{o:Obj}(e:h.get? b=some o)(n:H b=none):(yi h H).get? b=some o :=
 W.hideAll_get _ e λhm=>by
  have q:(H b).isSome=true:=(List.mem_filter.mp hm).2
  rw[n]at q;simp at q
theorem HQ{h:Heap}{H:Hp}{b:Addr}{o:Obj}(e:(yi h H).get? b=some o):h.get? b=some o/\H b=none:=by
 have e':h.get? b=some o:=W.of_hideAll (PZ h H) e
 refine⟨e',?_⟩
 cases q:H b with
 |none=>rfl
 |some x =>
  have hm:b∈PZ h H:=List.mem_filter.mpr ⟨List.mem_range.mpr (aaw e'),by simp[q]⟩
  have z:(yi h H).get? b=none:=W.hideAll_none (PZ h H) hm
  rw[z]at e;cases e
def HR(g h:Heap)(L:Addr):List 'f':=(List.range h.objs.size).filterMap λa=>if a=L\/(g.get? a).isSome=true then none else (h.get? a).map λo=>(a,o)
def rest(g h:Heap)(L d:Addr):List 'f':=(HR g h L).filter λp=>decide (p.1≠d)
structure Mod(K:W.Frag)(mg:Str->Option Value)(base:Heap):Prop where
 jr:K.In base
 glob:base.Ns mainGlobals mg
 blt:∃mb,base.Ns builtinsNs mb/\∀x:Str,x ≠ "__name__"->mb x=bootBuiltins x
 nolimit:base.NoLimit
structure Cx where
 prog:Program
 w:World
 K:W.Frag
 mg:Str->Option Value
 base:Heap
 A:Around
 N:List Str
 s₀:Shared
 H₀:Hp
 env:Env
 outer:List Env
 stack:List Env
 ex:List Addr
 fn:Str->Bool
 calm:Bool
 pn:List 'f'
 xe:Value->Shared->Prop
def frs(l:List Env):List Addr:=l.filterMap (·.frame)
abbrev Cx.fs(X:Cx):List Addr:=frs X.outer
def QA(sc:Scope)(x:Str):Prop:=sc.names.lookup x=some .local\/sc.names.lookup x=some .cell\/sc.names.lookup x=some .free
def Loc(sc:Scope)(x:Str):Prop:=sc.names.lookup x=some .local\/sc.names.lookup x=some .cell
def Look(env:Env)(h:Heap)(m:Str->Option Value)(x:Str)(u:Value):Prop :=
 (env.kindOf x=some .local/\m x=some u)\/((env.kindOf x=some .cell\/env.kindOf x=some .free)/\∃c,env.cells.lookup x=some c/\h.IsCell c (some u))
structure Cx.Ok(X:Cx):Prop where
 mod:Mod X.K X.mg X.base
 kind:X.env.scope.kind=.function
 glob:X.env.globals=mainGlobals
 blt:X.env.builtins=builtinsNs
 above:X.s₀.heap.objs.size<=X.env.locals
 inj:∀x y c,X.env.cells.lookup x=some c->X.env.cells.lookup y=some c->x=y
 has:∀x,(X.env.kindOf x=some .cell\/X.env.kindOf x=some .free)->∃c,X.env.cells.lookup x=some c
 Nb:∀x c,X.fn x=true->X.env.cells.lookup x=some c->X.s₀.heap.objs.size<=c
 hd:X.calm=true->X.A.handled=none
 frames:X.A.frames=some X.stack
 stk:X.stack=X.outer\/(X.stack=X.env::X.outer/\X.env.frame=some X.env.locals)
 V4:∀b∈X.ex,b≠X.env.locals/\∀x c,X.env.cells.lookup x=some c->c≠b
 bs:∀b o,X.base.get? b=some o->X.s₀.heap.get? b=some o/\X.H₀ b=none
 E6:X.base.objs.size<=X.s₀.heap.objs.size
 DU:∀b o,X.base.get? b=some o->b∉X.ex
 HS:∀b∈X.ex,b∉X.fs
 qJ:X.s₀.heap.FunFrames X.base X.outer
 JQ:∀b∈X.fs,X.H₀ b=none
structure Inv(X:Cx)(pins:List 'f')(σ:List (Option V))(H:Hp)(s:Shared):Prop where
 ok:X.Ok
 os:s.os=X.s₀.os
 bare:AllBare s.gens
 base:Un X.fs X.ex X.H₀ H X.s₀.heap s.heap
 loc:∃m,s.heap.Ns X.env.locals m/\∀(i:Nat)(x:Str)(v:V),X.N[i]?=some x->σ[i]?=some (some v)->QA X.env.scope x->∃u,RelV v u/\Look X.env s.heap m x u
 cell:∀x c,X.env.cells.lookup x=some c->∃v,s.heap.IsCell c v
 free:H X.env.locals=none
 iA:∀x c,X.env.cells.lookup x=some c->H c=none
 pin:∀p∈X.pn++pins,s.heap.get? p.1=some p.2/\H p.1=none/\p.1≠X.env.locals/\p.1∉X.fs/\∀v,p.2.data≠.cell v
 hok:qI X.prog X.w H s.heap
 len:σ.length=X.N.length
section
variable{X:Cx}{pins:List 'f'}{σ:List (Option V)}{H H':Hp}{s:Shared}{h':Heap}
theorem Cx.Ok.QB(ok:X.Ok){b:Addr}{o:Obj}(e:X.base.get? b=some o):b∉X.fs:=λhb=>by
 have:=(ok.qJ.mem hb).1
 rw[e]at this;cases this
theorem Inv.bs(I:Inv X pins σ H s):∀b o,X.base.get? b=some o->s.heap.get? b=some o/\H b=none:=λb o e =>
 ⟨I.base.keep b o (I.ok.bs b o e).1 (I.ok.bs b o e).2 (I.ok.QB e) (I.ok.DU b o e),I.base.free b o (I.ok.bs b o e).1 (I.ok.bs b o e).2 (I.ok.DU b o e)⟩
theorem Inv.bk(I:Inv X pins σ H s):∀b o,X.base.get? b=some o->s.heap.get? b=some o:=λb o e=>(I.bs b o e).1
theorem Inv.mod(I:Inv X pins σ H s):Mod X.K X.mg X.base:=I.ok.mod
theorem Inv.kN(I:Inv X pins σ H s):X.K.In s.heap:=I.ok.mod.jr.keeps I.bk
theorem Inv.lt(I:Inv X pins σ H s):X.env.locals<s.heap.objs.size:=let ⟨_,hn,_⟩:=I.loc;hn.lt
theorem Inv.sz(I:Inv X pins σ H s):X.s₀.heap.objs.size<=s.heap.objs.size:=aaz I.ok.above (Nat.le_of_lt I.lt)
theorem Inv.QC(I:Inv X pins σ H s){a:Addr}(h:s.heap.objs.size<=a):a∉X.fs:=λhb=>by
 obtain⟨_,o,ho,_⟩:=I.ok.qJ.mem hb
 exact absurd (aaF (aaw ho) (aaz I.sz h)) (abK _)
theorem Inv.KD(I:Inv X pins σ H s):∀x c,X.env.cells.lookup x=some c->c≠X.env.locals:=λx c e z=>by
 obtain⟨v,o,ho,hd⟩:=I.cell x c e
 obtain⟨m,⟨o',es,ep,ho',hd',_⟩,_⟩:=I.loc
 rw[z,ho']at ho;cases ho;rw[hd']at hd;cases hd
theorem Inv.qJ(I:Inv X pins σ H s):s.heap.FunFrames X.base X.outer:=by
 have all:∀(l:List Env),(∀b∈frs l,b∈X.fs)->X.s₀.heap.FunFrames X.base l->s.heap.FunFrames X.base l:=by
  intro l
  induction l with
  |nil=>intro _ _;trivial
  |cons env r ih =>
   intro hs hl
   obtain⟨hk,⟨L,o,hf,hn,ho,hd⟩,hr⟩:=hl
   have hL:L∈X.fs:=hs L (by unfold frs;rw[List.filterMap_cons,hf];exact aat)
   obtain⟨sl,e⟩:=I.base.slot L o ho (I.ok.JQ L hL) hL λz=>I.ok.HS L z hL
   exact⟨hk,⟨L,_,hf,hn,e,hd⟩,ih (λb hb=>hs b (by unfold frs;rw[List.filterMap_cons,hf];exact aaq _ hb)) hr⟩
 exact all X.outer (λ_ hb=>hb) I.ok.qJ
theorem Inv.stack(I:Inv X pins σ H s):s.heap.FunFrames X.base X.stack:=by
 rcases I.ok.stk with e|⟨e,hf⟩
 ·rw[e];exact I.qJ
 ·rw[e]
  obtain⟨m,hn,_⟩:=I.loc
  refine .cons (by rw[I.ok.kind];decide) hf hn ?_ I.qJ
  exact abq (aaz I.ok.E6 I.ok.above)
theorem Inv.ow(I:Inv X pins σ H s):∀b∈frs X.stack,b∈X.env.locals::X.fs:=λb hb=>by
 rcases I.ok.stk with e|⟨e,hf⟩
 ·rw[e]at hb;exact aaq _ hb
 ·rw[e]at hb
  unfold frs at hb
  rw[List.filterMap_cons,hf]at hb
  exact hb
theorem Inv.uB(I:Inv X pins σ H s):∀b∈frs X.stack,H b=none:=λb hb=>by
 rcases aas.mp (I.ow b hb) with e|hb
 ·rw[e];exact I.free
 ·obtain⟨_,o,ho,_⟩:=I.ok.qJ.mem hb
  exact I.base.free b o ho (I.ok.JQ b hb) λz=>I.ok.HS b z hb
theorem Inv.step{g':Array GenState}{t':Nat}{d':Drawn}{ch:List Addr}(I:Inv X pins σ H s)(hch:∀b∈ch,(b∈X.ex\/X.s₀.heap.objs.size<=b)/\b≠X.env.locals/\(∀x c,X.env.cells.lookup x=some c->c≠b)/\∀p∈X.pn++pins,p.1≠b)(keep:∀b o,b≠X.env.locals->b∉X.fs->b∉ch->s.heap.get? b=some o->H b=none->h'.get? b=some o)(slot:∀b o,b≠X.env.locals->b∈X.fs->b∉ch->s.heap.get? b=some o->H b=none->∃sl,h'.get? b=some {o with slots:=sl})(free:∀b o,b∉ch->s.heap.get? b=some o->H b=none->H' b=none)(there:∀b o,b∉ch->s.heap.get? b=some o->∃o',h'.get? b=some o')(tups:∀b xs,H b=some (.tup xs)->H' b=some (.tup xs))(ou:∀b o u,H b=some (.BG o u)->H' b=some (.BG o u))(pe:∀b ps,H b=some (.JP ps)->∃more,H' b=some (.JP (ps++more)))(ns:∀m,s.heap.Ns X.env.locals m->h'.Ns X.env.locals m)(hok:qI X.prog X.w H' h')(hg:AllBare g'):Inv X pins σ H' {s with heap:=h',gens:=g',drawn:=d',toks:=t'}:=by
 have P0:∀b o,X.s₀.heap.get? b=some o->b≠X.env.locals:=λb o e=>aaS (aaF (aaw e) I.ok.above)
 have P4:∀b o,X.s₀.heap.get? b=some o->b∉X.ex->b∉ch:=λb o e hx hb=>by
  rcases(hch b hb).1 with z|z
  ·exact hx z
  ·exact absurd (aaF (aaw e) z) (abK _)
 have cellK:∀x c,X.env.cells.lookup x=some c->∀v,s.heap.IsCell c v->h'.IsCell c v:=λx c e v ⟨o,ho,hd⟩=>by
  have HJ:c∉ch:=λz=>(hch c z).2.2.1 x c e rfl
  by_cases hc:c∈X.fs
  ·obtain⟨sl,q⟩:=slot c o (I.KD x c e) hc HJ ho (I.iA x c e)
   exact⟨_,q,hd⟩
  ·exact⟨o,keep c o (I.KD x c e) hc HJ ho (I.iA x c e),hd⟩
 refine⟨I.ok,I.os,hg,⟨λb o e n hb hx=>?_,λb o e n hb hx=>?_,λb o e n hx=>?_,λb o e hx=>?_,λb xs e=>tups b xs (I.base.tups b xs e),λb o xs e=>ou b o xs (I.base.ou b o xs e),λb ps e=>?_⟩,?_,λx c e=>?_,?_,λx c e=>?_,λp hp=>?_,hok,I.len⟩
 ·exact keep b o (P0 b o e) hb (P4 b o e hx) (I.base.keep b o e n hb hx) (I.base.free b o e n hx)
 ·obtain⟨sl,e1⟩:=I.base.slot b o e n hb hx
  obtain⟨Qz,e2⟩:=slot b _ (P0 b o e) hb (P4 b o e hx) e1 (I.base.free b o e n hx)
  exact⟨Qz,e2⟩
 ·obtain⟨o',e1⟩:=I.base.there b o e hx
  exact free b o' (P4 b o e hx) e1 (I.base.free b o e n hx)
 ·obtain⟨o',e1⟩:=I.base.there b o e hx
  exact there b o' (P4 b o e hx) e1
 ·obtain⟨m1,e1⟩:=I.base.pe b ps e
  obtain⟨m2,e2⟩:=pe b _ e1
  exact⟨m1++m2,by rw[e2,Array.append_assoc]⟩
 ·obtain⟨m,hn,hl⟩:=I.loc
  refine⟨m,ns m hn,λi x v e1 e2 e3=>?_⟩
  obtain⟨u,r,l⟩:=hl i x v e1 e2 e3
  refine⟨u,r,?_⟩
  rcases l with l|⟨k,c,e,z⟩
  ·exact .inl l
  ·exact .inr ⟨k,c,e,cellK x c e _ z⟩
 ·obtain⟨v,z⟩:=I.cell x c e
  exact⟨v,cellK x c e v z⟩
 ·obtain⟨m,⟨o,_,_,ho,_⟩,_⟩:=I.loc
  exact free _ o (λz=>(hch _ z).2.1 rfl) ho I.free
 ·obtain⟨v,o,ho,hd⟩:=I.cell x c e
  exact free c o (λz=>(hch c z).2.2.1 x c e rfl) ho (I.iA x c e)
 ·obtain⟨e,n,ne,nf,d⟩:=I.pin p hp
  have HJ:p.1∉ch:=λz=>(hch p.1 z).2.2.2 p hp rfl
  exact⟨keep p.1 p.2 ne nf HJ e n,free p.1 p.2 HJ e n,ne,nf,d⟩
theorem Inv.un{t':Nat}(I:Inv X pins σ H s)(u:Un X.fs [] H H' s.heap h')(hok:qI X.prog X.w H' h'):Inv X pins σ H' {s with heap:=h',toks:=t'}:=by
 obtain⟨m,⟨o,es,ep,ho,r⟩,_⟩:=id I.loc
 obtain⟨sl,hL⟩:=u.any ho I.free (by simp)
 exact I.step (g':=s.gens) (d':=s.drawn) (ch:=[]) (λ_ z=>nomatch z) (λb o _ hb _ e n=>u.keep b o e n hb (by simp)) (λb o _ hb _ e n=>u.slot b o e n hb (by simp)) (λb o _ e n=>u.free b o e n (by simp)) (λb o _ e=>u.there b o e (by simp)) u.tups u.ou u.pe (λm' hm=>by
  obtain⟨o',es',QD,ho',r'⟩:=hm
  rw[ho]at ho';cases ho'
  exact⟨_,es',QD,hL,r'⟩) hok I.bare
theorem Inv.call{g':Array GenState}{t':Nat}{d':Drawn}{ch:List Addr}(I:Inv X pins σ H s)(u:Un (frs X.stack) ch H H' s.heap h')(hok:qI X.prog X.w H' h')(hg:AllBare g')(hch:∀b∈ch,(b∈X.ex\/X.s₀.heap.objs.size<=b)/\b≠X.env.locals/\(∀x c,X.env.cells.lookup x=some c->c≠b)/\∀p∈X.pn++pins,p.1≠b):Inv X pins σ H' {s with heap:=h',gens:=g',drawn:=d',toks:=t'}:=by
 obtain⟨m,⟨o,es,ep,ho,r⟩,_⟩:=id I.loc
 obtain⟨sl,hL⟩:=u.any ho I.free λz=>(hch _ z).2.1 rfl
 exact I.step (ch:=ch) hch (λb o hL hb hc e n=>u.keep b o e n (λz=>(aas.mp (I.ow b z)).elim hL hb) hc) (λb o _ _ hc e n=>u.any e n hc) (λb o hc e n=>u.free b o e n hc) (λb o hc e=>u.there b o e hc) u.tups u.ou u.pe (λm' hm=>by
  obtain⟨o',es',QD,ho',r'⟩:=hm
  rw[ho]at ho';cases ho'
  exact⟨_,es',QD,hL,r'⟩) hok hg
theorem Inv.turned{t':Nat}{it:Addr}(I:Inv X pins σ H s)(k:∀b o,b≠it->s.heap.get? b=some o->h'.get? b=some o)(hn:H it=none)(hL:it≠X.env.locals)(h1:it∈X.ex\/X.s₀.heap.objs.size<=it)(h2:∀x c,X.env.cells.lookup x=some c->c≠it)(h3:∀p∈X.pn++pins,p.1≠it):Inv X pins σ H {s with heap:=h',toks:=t'}:=by
 have Nc:∀b u,H b=some u->b≠it:=λb u e z=>by rw[z,hn]at e;cases e
 refine I.step (g':=s.gens) (d':=s.drawn) (ch:=[it]) (λb hb=>?_) (λb o _ _ hc e _=>k b o (λz=>hc (by simp[z])) e) (λb o _ _ hc e _=>⟨o.slots,k b o (λz=>hc (by simp[z])) e⟩) (λ_ _ _ _ n=>n)
  (λb o hc e=>⟨o,k b o (λz=>hc (by simp[z])) e⟩) (λ_ _ e=>e) (λ_ _ _ e=>e) (λb ps e=>⟨#[],by rw[e];simp⟩) (λm hm=>?_) (λb u e=>?_) I.bare
 ·have e:b=it:=by simpa using hb
  subst e
  exact⟨h1,hL,h2,h3⟩
 ·obtain⟨o,es,ep,ho,r⟩:=hm
  exact⟨o,es,ep,k _ o (abm hL) ho,r⟩
 ·refine(I.hok b u e).stay (λc v hc q=>k c v ?_ q) (λ_ q=>q) λ_ _ q=>q
  rcases hc with z|z
  ·rw[z];exact Nc b u e
  ·exact Nc c _ z
theorem Inv.tok(I:Inv X pins σ H s)(t:Nat):Inv X pins σ H {s with toks:=t}:=I.un (h':=s.heap) (t':=t) Un.refl I.hok
theorem Inv.kept{t':Nat}(I:Inv X pins σ H s)(k:∀b u,s.heap.get? b=some u->h'.get? b=some u):Inv X pins σ H {s with heap:=h',toks:=t'}:=I.un (Un.kept k) (I.hok.kept k)
theorem Inv.laid{a:Addr}{o:HO}{t':Nat}(I:Inv X pins σ H s)(k:∀b u,s.heap.get? b=some u->h'.get? b=some u)(hp:s.heap.objs.size<=a)(new:cY X.prog X.w (upd H a o) h' a o):Inv X pins σ (upd H a o) {s with heap:=h',toks:=t'}:=I.un (Un.laid k hp (I.hok.fresh hp)) (I.hok.laid k hp new)
theorem Inv.write{x e:Addr}{o:HO}{t':Nat}(I:Inv X pins σ H s)(mu:PY (H x))(he:e=x\/H e=some (.own x))(k:∀b u,b≠e->s.heap.get? b=some u->h'.get? b=some u)(MN:∃u,h'.get? e=some u)(new:cY X.prog X.w (upd H x o) h' x o):Inv X pins σ (upd H x o) {s with heap:=h',toks:=t'}:=I.un (Un.write mu he k MN) (I.hok.write mu he k MN new)
theorem Inv.C6{JR:List 'f'}(I:Inv X pins σ H s)(h:∀p∈JR,s.heap.get? p.1=some p.2/\H p.1=none/\p.1≠X.env.locals/\p.1∉X.fs/\∀v,p.2.data≠.cell v):Inv X JR σ H s :=
 ⟨I.ok,I.os,I.bare,I.base,I.loc,I.cell,I.free,I.iA,λp hp=>(aaH.mp hp).elim (λz=>I.pin p (abj _ z)) (h p),I.hok,I.len⟩
theorem Aa{N:List Str}(hN:N.Nodup){i j:Nat}{x:Str}(a:N[i]?=some x)(b:N[j]?=some x):i=j:=by
 obtain⟨h1,e1⟩:=aam.mp a
 obtain⟨h2,e2⟩:=aam.mp b
 exact(List.getElem_inj hN).mp (e1.trans e2.symm)
theorem qK{M:Model}{A:Around}{E:Value->Shared->Prop}{i:Nat}{x:Str}{v:V}{u:Value}{Q:Unit->Shared->Prop}(I:Inv X pins σ H s)(hN:X.N.Nodup)(hi:X.N[i]?=some x)(hx:Loc X.env.scope x)(r:RelV v u)(h:∀s',Inv X pins (σ.set i (some v)) H s'->(∃a,Heap.SameBut a s.heap s'.heap/\(a=X.env.locals\/X.env.cells.lookup x=some a))->Q () s')(hf:X.fn x=true\/X.env.scope.names.lookup x=some .local:=by first|exact .inl rfl|exact .inr rfl|assumption):wpAny M A (storeName X.env x u) Q E s:=by
 obtain⟨m,hn,hl⟩:=id I.loc
 have hcls:(X.env.scope.kind==.class||(X.env.scope.kind==.module&&X.env.locals != X.env.globals))=false:=by rw[I.ok.kind];rfl
 have Nd:i<σ.length:=by rw[I.len];exact(aam.mp hi).1
 have KD:=I.KD
 have tracked:∀{a:Addr}{h':Heap},(∃o,s.heap.get? a=some o/\H a=none)->Heap.SameBut a s.heap h'->qI X.prog X.w H h':=λ{a h'} ha hs b ob e=>by
  obtain⟨_,_,hfree⟩:=ha
  refine(I.hok b ob e).stay (λc w' hc q=>(hs.2 c ?_).trans q) (λ_ q=>q) λ_ _ q=>q
  rintro rfl
  rcases hc with rfl|hc
  ·rw[hfree]at e;cases e
  ·rw[hfree]at hc;cases hc
 rcases hx with hk|hk
 ·refine wpAny_storeName_local hk hn (λh' hn' hs=>?_) hcls
  obtain⟨oL,_,_,XH,_⟩:=id hn
  refine h _ ⟨I.ok,I.os,I.bare,⟨λb o e n hb hx=>?_,λb o e n hb hx=>?_,I.base.free,λb o e hx=>?_,I.base.tups,I.base.ou,I.base.pe⟩,⟨_,hn',λj y v' e1 e2 e3=>?_⟩,λy c e=>?_,I.free,I.iA,λp hp=>?_,tracked ⟨oL,XH,I.free⟩ hs,by simpa using I.len⟩ ⟨_,hs,.inl rfl⟩
  ·exact(hs.2 b (aaS (aaF (aaw e) I.ok.above))).trans (I.base.keep b o e n hb hx)
  ·obtain⟨sl,e1⟩:=I.base.slot b o e n hb hx
   exact⟨sl,(hs.2 b (aaS (aaF (aaw e) I.ok.above))).trans e1⟩
  ·obtain⟨o',e1⟩:=I.base.there b o e hx
   exact⟨o',(hs.2 b (aaS (aaF (aaw e) I.ok.above))).trans e1⟩
  ·by_cases hj:j=i
   ·subst hj
    rw[hi]at e1;cases e1
    rw[List.getElem?_set_self Nd]at e2
    cases e2
    exact⟨u,r,.inl ⟨hk,by simp⟩⟩
   ·rw[List.getElem?_set_ne (abm hj)]at e2
    obtain⟨u',r',q⟩:=hl j y v' e1 e2 e3
    refine⟨u',r',?_⟩
    rcases q with ⟨k,e⟩|⟨k,c,e,z⟩
    ·refine .inl ⟨k,?_⟩
     have:y≠x:=λe=>hj (Aa hN e1 (e▸hi))
     simp[this,e]
    ·exact .inr ⟨k,c,e,z.sameBut hs (KD y c e)⟩
  ·obtain⟨w',z⟩:=I.cell y c e
   exact⟨w',z.sameBut hs (KD y c e)⟩
  ·obtain⟨e,n,ne,nf,d⟩:=I.pin p hp
   exact⟨(hs.2 p.1 ne).trans e,n,ne,nf,d⟩
 ·have hfn:X.fn x=true:=by
   rcases hf with z|z
   ·exact z
   ·rw[z]at hk;cases hk
  obtain⟨c,hc⟩:=I.ok.has x (.inl hk)
  obtain⟨w',z⟩:=I.cell x c hc
  refine wpAny_storeName_cell I.ok.kind hk hc z (λh' hc' hs=>?_)
  obtain⟨oc,hoc,QE⟩:=id z
  refine h {s with heap:=h'} ⟨I.ok,I.os,I.bare,⟨λb o e n hb hx=>?_,λb o e n hb hx=>?_,I.base.free,λb o e hx=>?_,I.base.tups,I.base.ou,I.base.pe⟩,⟨m,hn.sameBut hs (abm (KD x c hc)),λj y v' e1 e2 e3=>?_⟩,λy c' e=>?_,I.free,I.iA,λp hp=>?_,tracked ⟨oc,hoc,I.iA x c hc⟩ hs,by simpa using I.len⟩ ⟨c,hs,.inr hc⟩
  ·exact(hs.2 b (aaS (aaF (aaw e) (I.ok.Nb x c hfn hc)))).trans (I.base.keep b o e n hb hx)
  ·obtain⟨sl,e1⟩:=I.base.slot b o e n hb hx
   exact⟨sl,(hs.2 b (aaS (aaF (aaw e) (I.ok.Nb x c hfn hc)))).trans e1⟩
  ·obtain⟨o',e1⟩:=I.base.there b o e hx
   exact⟨o',(hs.2 b (aaS (aaF (aaw e) (I.ok.Nb x c hfn hc)))).trans e1⟩
  ·by_cases hj:j=i
   ·subst hj
    rw[hi]at e1;cases e1
    rw[List.getElem?_set_self Nd]at e2
    cases e2
    exact⟨u,r,.inr ⟨.inl hk,c,hc,hc'⟩⟩
   ·rw[List.getElem?_set_ne (abm hj)]at e2
    obtain⟨u',r',q⟩:=hl j y v' e1 e2 e3
    refine⟨u',r',?_⟩
    rcases q with q|⟨k,c',e,z'⟩
    ·exact .inl q
    ·refine .inr ⟨k,c',e,z'.sameBut hs ?_⟩
     rintro rfl
     exact hj (Aa hN e1 (I.ok.inj _ _ _ e hc▸hi))
  ·by_cases hcc:c'=c
   ·subst hcc;exact⟨_,hc'⟩
   ·obtain⟨w2,z2⟩:=I.cell y c' e
    exact⟨w2,z2.sameBut hs hcc⟩
  ·obtain⟨e,n,ne,nf,d⟩:=I.pin p hp
   refine⟨(hs.2 p.1 ?_).trans e,n,ne,nf,d⟩
   intro q
   rw[q,hoc]at e
   have q':oc=p.2:=aaA e
   exact d w' (by rw[←q'];exact QE)
theorem Ab{M:Model}{A:Around}{E:Value->Shared->Prop}{i:Nat}{x:Str}{v:V}{u:Value}{Q:Unit->Shared->Prop}(I:Inv X pins σ H s)(hN:X.N.Nodup)(hi:X.N[i]?=some x)(hx:Loc X.env.scope x)(r:RelV v u)(h:∀s',Inv X pins (σ.set i (some v)) H s'->Q () s')(hf:X.fn x=true\/X.env.scope.names.lookup x=some .local:=by first|exact .inl rfl|exact .inr rfl|assumption):wpAny M A (storeName X.env x u) Q E s :=
 qK I hN hi hx r (λs' I' _=>h s' I') hf
theorem Inv.C7{s':Shared}{ch:List Addr}(I:Inv X pins σ H s)(ho:s'.os=s.os)(u:Un (frs X.stack) ch H H' s.heap s'.heap)(hok:qI X.prog X.w H' s'.heap)(hg:AllBare s'.gens)(hch:∀b∈ch,(b∈X.ex\/X.s₀.heap.objs.size<=b)/\b≠X.env.locals/\(∀x c,X.env.cells.lookup x=some c->c≠b)/\∀p∈X.pn++pins,p.1≠b):Inv X pins σ H' s':=by
 obtain⟨h',g',d',t',o'⟩:=s'
 have e:o'=s.os:=ho
 subst e
 exact I.call (g':=g') (t':=t') (d':=d') u hok hg hch
end
abbrev XK:=Value->Option Addr->Hp->Prop
abbrev St:=List (Option V)
abbrev VK:=V->Hp->Prop
abbrev TE:=St->Hp->VK->Prop
abbrev TT:=St->Hp->(Bool->Hp->Prop)->Prop
abbrev TA:=St->Hp->(List V->Hp->Prop)->Prop
structure Ends where
 nx:St->Hp->Prop
 rt:VK
 bk:St->Hp->Prop:=λ_ _=>False
 ct:St->Hp->Prop:=λ_ _=>False
abbrev TS:=Ends->St->Hp->Prop
def EP(X:Cx)(pins:List 'f')(σ:St)(Q:VK)(u:Value)(s':Shared):Prop:=∃v H',Inv X pins σ H' s'/\RelV v u/\Q v H'
def TP(X:Cx)(pins:List 'f')(σ:St)(Q:Bool->Hp->Prop)(b:Bool)(s':Shared):Prop:=∃H',Inv X pins σ H' s'/\Q b H'
def AP(X:Cx)(pins:List 'f')(σ:St)(Q:List V->Hp->Prop)(us:List Value)(s':Shared):Prop:=∃vs H',Inv X pins σ H' s'/\Vals vs us/\Q vs H'
def SP(X:Cx)(pins:List 'f')(D:Ends)(f:Flow)(s':Shared):Prop :=
 match f with
 | .next=>∃σ' H',Inv X pins σ' H' s'/\D.nx σ' H'
 | .brk=>∃σ' H',Inv X pins σ' H' s'/\D.bk σ' H'
 | .cont=>∃σ' H',Inv X pins σ' H' s'/\D.ct σ' H'
 | .ret u=>∃v σ' H',Inv X pins σ' H' s'/\RelV v u/\D.rt v H'
def PE(X:Cx)(e:Expr)(t:TE):Prop :=
 ∀(pins:List 'f')(s:Shared)(σ:St)(H:Hp)(Q:VK),Inv X pins σ H s->t σ H Q->wpAny 'd' X.A (eval e X.env) (EP X pins σ Q) X.xe s
def PT(X:Cx)(e:Expr)(t:TT):Prop :=
 ∀(pins:List 'f')(s:Shared)(σ:St)(H:Hp)(Q:Bool->Hp->Prop),Inv X pins σ H s->t σ H Q->wpAny 'd' X.A (isTrue e X.env (eval e X.env)) (TP X pins σ Q) X.xe s
def PW(X:Cx)(e:Expr)(t:TT):Prop :=
 ∀(whole:Sem Value)(pins:List 'f')(s:Shared)(σ:St)(H:Hp)(Q:Bool->Hp->Prop),Inv X pins σ H s->t σ H Q->wpAny 'd' X.A (isTrue e X.env whole) (TP X pins σ Q) X.xe s
theorem PW.pt{X:Cx}{e:Expr}{t:TT}(h:PW X e t):PT X e t:=h _
def PA(X:Cx)(es:List Expr)(t:TA):Prop :=
 ∀(pos:Pos)(pins:List 'f')(s:Shared)(σ:St)(H:Hp)(Q:List V->Hp->Prop),Inv X pins σ H s->t σ H Q->wpAny 'd' X.A (spliced (backTo pos (starEach es X.env))) (AP X pins σ Q) X.xe s
def PS(X:Cx)(st:Stmt)(t:TS):Prop :=
 ∀(pins:List 'f')(s:Shared)(σ:St)(H:Hp)(D:Ends),Inv X pins σ H s->t D σ H->wpAny 'd' X.A (exec st X.env) (SP X pins D) X.xe s
def BH(X:Cx)(st:List Stmt)(t:TS):Prop :=
 ∀(pins:List 'f')(s:Shared)(σ:St)(H:Hp)(D:Ends),Inv X pins σ H s->t D σ H->wpAny 'd' X.A (execs st X.env) (SP X pins D) X.xe s
theorem cC{α:Type}{t:Sem α}{Q Q':α->Shared->Prop}{M:Model}{A:Around}{E:Value->Shared->Prop}{s:Shared}(h:wpAny M A t Q E s)(hQ:∀a s,Q a s->Q' a s):wpAny M A t Q' E s:=abk h hQ λ_ _ x=>x
section
variable{X:Cx}
def HU(i:Nat):TE:=λσ H Q=>∃v,σ[i]?=some (some v)/\Q v H
def tC(v:V):TE:=λ_ H Q=>Q v H
theorem KG{i:Nat}{x:Str}{pos:Pos}(hN:X.N[i]?=some x)(hv:QA X.env.scope x)(hd:(x==("__debug__":Str))=false:=by decide)(hcd:(x==("__classdict__":Str))=false:=by decide):PE X (.Name x pos) (HU i):=by
 intro pins s σ H Q I h
 obtain⟨v,e,h⟩:=h
 obtain⟨m,hn,hl⟩:=I.loc
 obtain⟨u,r,l⟩:=hl i x v hN e hv
 have fin:EP X pins σ Q u s:=⟨v,H,I,r,h⟩
 rcases l with ⟨hk,hm⟩|⟨hk,c,hc,hcell⟩
 ·exact wpAny_Name (wpAny_loadName_local I.ok.kind hk hn hm fin) hd
 ·rcases hk with hk|hk
  ·exact wpAny_Name (wpAny_loadName_cell I.ok.kind hk hc hcell fin) hd
  ·exact wpAny_Name (wpAny_loadName_free I.ok.kind hk hc hcell fin hcd) hd
theorem ao{i j pos}:PE X (.Constant (.int i) j pos) (tC (.int i)):=λ_ _ _ H _ I h=>wpAny_Constant_int ⟨.int i,H,I.tok _,⟨_,rfl⟩,h⟩
theorem C8{b j pos}:PE X (.Constant (.bool b) j pos) (tC (.bl b)):=λ_ _ _ H _ I h=>Constant_bool ⟨.bl b,H,I,rfl,h⟩
theorem cD{j pos}:PE X (.Constant .none j pos) (tC .non):=λ_ _ _ H _ I h=>Constant_none ⟨.non,H,I,rfl,h⟩
theorem au{x j pos}:PE X (.Constant (.str x) j pos) (tC (.str x)):=λ_ _ _ H _ I h=>Calls.Constant_str ⟨.str x,H,I.tok _,⟨_,rfl⟩,h⟩
def Gl(X:Cx)(x:Str):Prop:=X.env.kindOf x=some .globalImplicit
theorem mF{E:Value->Shared->Prop}{pins:List 'f'}{s:Shared}{σ:St}{H:Hp}{x:Str}{u:Value}{pos:Pos}{Q:Value->Shared->Prop}(I:Inv X pins σ H s)(hg:Gl X x)(hm:X.mg x=some u)(h:Q u s)(hd:(x==("__debug__":Str))=false:=by decide):wpAny 'd' X.A (eval (.Name x pos) X.env) Q E s :=
 Calls.Name_function_global I.ok.kind hg (Calls.loadGlobal_global (by rw[I.ok.glob];exact I.mod.glob.keeps I.bk) hm h) hd
theorem kP{E:Value->Shared->Prop}{pins:List 'f'}{s:Shared}{σ:St}{H:Hp}{x:Str}{u:Value}{pos:Pos}{Q:Value->Shared->Prop}(I:Inv X pins σ H s)(hg:Gl X x)(hm:X.mg x=none)(hv:bootBuiltins x=some u)(h:Q u s)(hn:x ≠ "__name__":=by decide)(hd:(x==("__debug__":Str))=false:=by decide):wpAny 'd' X.A (eval (.Name x pos) X.env) Q E s:=by
 obtain⟨mb,h1,h2⟩:=I.mod.blt
 exact Calls.Name_function_global I.ok.kind hg (Calls.loadGlobal_builtin (by rw[I.ok.glob];exact I.mod.glob.keeps I.bk) hm (by rw[I.ok.blt];exact h1.keeps I.bk) ((h2 x hn).trans hv) h) hd
theorem yj{x:Str}{v:V}{u:Value}{pos:Pos}(hg:Gl X x)(hm:X.mg x=some u)(r:RelV v u)(hd:(x==("__debug__":Str))=false:=by decide):PE X (.Name x pos) (tC v) :=
 λ_ _ _ H _ I h=>mF I hg hm ⟨v,H,I,r,h⟩ hd
theorem HV{x:Str}{v:V}{u:Value}{pos:Pos}(hg:Gl X x)(hm:X.mg x=none)(hv:bootBuiltins x=some u)(r:RelV v u)(hn:x ≠ "__name__":=by decide)(hd:(x==("__debug__":Str))=false:=by decide):PE X (.Name x pos) (tC v) :=
 λ_ _ _ H _ I h=>kP I hg hm hv ⟨v,H,I,r,h⟩ hn hd
variable{a b:Expr}{ta tb:TE}{pos:Pos}
def tB(t:TE):TT:=λσ H Q=>t σ H λx H1=>∃c,x=.bl c/\Q c H1
theorem bP{e:Expr}{t:TE}(h:PE X e t)(he:∀whole,isTrue e X.env whole=(do let v ←whole;standAt e.pos;holding [v] (truthy v)):=by intro _;rfl):PT X e (tB t):=by
 intro pins s σ H Q I hw
 refine isTrue_plain (cC (h pins s σ H _ I hw) λv s1 ⟨x,H1,I1,r1,q1⟩=>?_) (he _)
 obtain⟨d,rfl,q⟩:=q1
 cases r1
 exact abu ⟨H1,I1,q⟩
variable{tA P5:TT}{rest:List Expr}
def QF(t u:TT):TT:=λσ H Q=>t σ H λc H1=>if c=true then u σ H1 Q else Q false H1
def XI(t u:TT):TT:=λσ H Q=>t σ H λc H1=>if c=true then Q true H1 else u σ H1 Q
def QG(t:TT):TT:=λσ H Q=>t σ H λc H1=>Q (!c) H1
theorem cy(ha:PT X a tA):PW X (.BoolOp .And [a] pos) tA:=by
 intro wh pins s σ H Q I h
 refine isTrue_and (cC (ha pins s σ H Q I h) λc s1 e=>?_)
 cases c with
 |true=>exact isTrue_and_nil e
 |false=>exact e
theorem gJ(ha:PT X a tA):PW X (.BoolOp .Or [a] pos) tA:=by
 intro wh pins s σ H Q I h
 refine isTrue_or (cC (ha pins s σ H Q I h) λc s1 e=>?_)
 cases c with
 |false=>exact isTrue_or_nil e
 |true=>exact e
theorem cL(ha:PT X a tA)(hb:PW X (.BoolOp .And (b::rest) pos) P5):PW X (.BoolOp .And (a::b::rest) pos) (QF tA P5):=by
 intro wh pins s σ H Q I h
 refine isTrue_and (cC (ha pins s σ H _ I h) λc s1 ⟨H1,I1,q1⟩=>?_)
 cases c with
 |true=>exact hb wh pins s1 σ H1 Q I1 q1
 |false=>exact⟨H1,I1,q1⟩
theorem fU(ha:PT X a tA)(hb:PW X (.BoolOp .Or (b::rest) pos) P5):PW X (.BoolOp .Or (a::b::rest) pos) (XI tA P5):=by
 intro wh pins s σ H Q I h
 refine isTrue_or (cC (ha pins s σ H _ I h) λc s1 ⟨H1,I1,q1⟩=>?_)
 cases c with
 |true=>exact⟨H1,I1,q1⟩
 |false=>exact hb wh pins s1 σ H1 Q I1 q1
theorem dh(ha:PT X a tA):PT X (.UnaryOp .Not a pos) (QG tA):=by
 intro pins s σ H Q I h
 exact isTrue_not (ha pins s σ H (λc H1=>Q (!c) H1) I h)
def Nf(ta tb:TE):TE:=λσ H Q=>ta σ H λx H1=>∃c,x=.bl c/\if c=true then tb σ H1 Q else Q (.bl false) H1
def QH(ta tb:TE):TE:=λσ H Q=>ta σ H λx H1=>∃c,x=.bl c/\if c=true then Q (.bl true) H1 else tb σ H1 Q
def Ng(ta:TE):TE:=λσ H Q=>ta σ H λx H1=>∃c,x=.bl c/\Q (.bl (!c)) H1
theorem yk{op}{t:TE}(h:PE X a t):PE X (.BoolOp op [a] pos) t:=λpins s σ H Q I hw=>BoolOp_one (h pins s σ H Q I hw)
theorem yl(ha:PE X a ta)(hb:PE X (.BoolOp .And (b::rest) pos) tb):PE X (.BoolOp .And (a::b::rest) pos) (Nf ta tb):=by
 intro pins s σ H Q I h
 refine BoolOp_and (cC (ha pins s σ H _ I h) λv s1 ⟨x,H1,I1,r1,q1⟩=>?_)
 obtain⟨c,rfl,q1⟩:=q1
 cases r1
 refine abu ?_
 cases c with
 |true=>exact hb pins s1 σ H1 Q I1 q1
 |false=>exact⟨.bl false,H1,I1,rfl,q1⟩
theorem Nh(ha:PE X a ta)(hb:PE X (.BoolOp .Or (b::rest) pos) tb):PE X (.BoolOp .Or (a::b::rest) pos) (QH ta tb):=by
 intro pins s σ H Q I h
 refine BoolOp_or (cC (ha pins s σ H _ I h) λv s1 ⟨x,H1,I1,r1,q1⟩=>?_)
 obtain⟨c,rfl,q1⟩:=q1
 cases r1
 refine abu ?_
 cases c with
 |false=>exact hb pins s1 σ H1 Q I1 q1
 |true=>exact⟨.bl true,H1,I1,rfl,q1⟩
theorem ym(ha:PE X a ta):PE X (.UnaryOp .Not a pos) (Ng ta):=by
 intro pins s σ H Q I h
 refine UnaryOp_ (cC (ha pins s σ H _ I h) λv s1 ⟨x,H1,I1,r1,q1⟩=>?_)
 obtain⟨c,rfl,q1⟩:=q1
 cases r1
 exact not_of (abu ⟨.bl (!c),H1,I1,rfl,q1⟩)
def XJ(t:TT)(ta tb:TE):TE:=λσ H Q=>t σ H λc H1=>if c=true then ta σ H1 Q else tb σ H1 Q
theorem uI{c:Expr}(hc:PT X c tA)(ha:PE X a ta)(hb:PE X b tb):PE X (.IfExp c a b pos) (XJ tA ta tb):=by
 intro pins s σ H Q I h
 refine wpAny_IfExp (cC (hc pins s σ H _ I h) λd s1 ⟨H1,I1,q1⟩=>?_)
 cases d with
 |true=>exact ha pins s1 σ H1 Q I1 q1
 |false=>exact hb pins s1 σ H1 Q I1 q1
end
def aK(K:W.Frag)(H:Hp)(a:Addr)(xs:List V):Prop :=
 Rd H a (.lst xs)\/
  ∃(o:Obj)(its:Array Value)(n:Nat),K.lookup a=some o/\o.cls=.type "list"/\o.dict=none/\o.data=.seq its n/\its.size<=sizeLine/\Vals xs its.toList
def bH(K:W.Frag)(H:Hp)(a:Addr)(xs:List V):Prop :=
 Rd H a (.tup xs)\/
  ∃(o:Obj)(its:Array Value)(n:Nat),K.lookup a=some o/\o.cls=.type "tuple"/\o.data=.seq its n/\its.size<=sizeLine/\Vals xs its.toList
def Ni:Value->Option V
 | .none=>some .non
 | .bool b=>some (.bl b)
 | .int i _=>some (.int i)
 | .str x _=>some (.str x)
 | .bytes b _=>some (.E4 b)
 | .float b _=>some (.qG b)
 | .ref a=>some (.ref a)
 | .type n=>some (.ty n)
 |_=>none
theorem RelV.abs{x:V}{u:Value}(r:RelV x u):Ni u=some x:=by
 cases x with
 |non=>cases r;rfl
 |bl _=>cases r;rfl
 |int _=>obtain⟨t,rfl⟩:=r;rfl
 |str _=>obtain⟨t,rfl⟩:=r;rfl
 |E4 _=>obtain⟨t,rfl⟩:=r;rfl
 |qG _=>obtain⟨t,rfl⟩:=r;rfl
 |ref _=>cases r;rfl
 |ty _=>cases r;rfl
theorem RelV.inj{x y:V}{u:Value}(r:RelV x u)(q:RelV y u):x=y:=aaA (r.abs.symm.trans q.abs)
theorem Vals.inj:∀{xs ys:List V}{us:List Value},Vals xs us->Vals ys us->xs=ys
 |_,_,_,.nil,.nil=>rfl
 |_,_,_,.cons r t,.cons r' t'=>by rw[r.inj r',Vals.inj t t']
section
variable{X:Cx}{pins:List 'f'}{σ:St}{H:Hp}{s:Shared}{a:Addr}{xs ys:List V}
theorem aK.of{K:W.Frag}(h:H a=some (.lst xs)):aK K H a xs:=.inl (.inl h)
theorem bH.of{K:W.Frag}(h:H a=some (.tup xs)):bH K H a xs:=.inl (.inl h)
theorem Inv.list(I:Inv X pins σ H s)(h:aK X.K H a xs):∃its:List Value,Vals xs its/\PlainL s.heap a its.toArray/\xs.length<=sizeLine:=by
 rcases h with h|⟨o,its,n,hk,hc,hd,hs,hz,r⟩
 ·obtain⟨z,its,n,r,e⟩:=h.ok I.hok
  exact⟨its,r,⟨_,n,e,O,O,O⟩,z⟩
 ·refine⟨its.toList,r,⟨o,n,I.kN a o hk,hc,hd,by simpa using hs⟩,?_⟩
  have e:=r.length
  simp only[aaE]at e
  omega
theorem Inv.tuple(I:Inv X pins σ H s)(h:bH X.K H a xs):∃its:List Value,Vals xs its/\IsTup s.heap a its.toArray/\xs.length<=sizeLine:=by
 rcases h with h|⟨o,its,n,hk,hc,hs,hz,r⟩
 ·obtain⟨z,its,r,p⟩:=h.ok I.hok
  exact⟨its,r,p,z⟩
 ·refine⟨its.toList,r,⟨o,I.kN a o hk,hc,n,by simpa using hs⟩,?_⟩
  have e:=r.length
  simp only[aaE]at e
  omega
theorem Inv.uJ(I:Inv X pins σ H s)(h:aK X.K H a xs)(h':aK X.K H a ys):xs=ys:=by
 obtain⟨its,r,⟨o,n,e,_,_,d⟩,_⟩:=I.list h
 obtain⟨its',r',⟨o',n',e',_,_,d'⟩,_⟩:=I.list h'
 rw[e]at e';cases e'
 rw[d]at d'
 injection d' with d1 _
 have:its=its':=by simpa using congrArg Array.toList d1
 subst this
 exact r.inj r'
theorem Inv.DV(I:Inv X pins σ H s)(h:bH X.K H a xs)(h':bH X.K H a ys):xs=ys:=by
 obtain⟨its,r,⟨o,e,_,n,d⟩,_⟩:=I.tuple h
 obtain⟨its',r',⟨o',e',_,n',d'⟩,_⟩:=I.tuple h'
 rw[e]at e';cases e'
 rw[d]at d'
 injection d' with d1 _
 have:its=its':=by simpa using congrArg Array.toList d1
 subst this
 exact r.inj r'
end
abbrev Cx.vZ(X:Cx)(E:Value->Shared->Prop):Cx:={X with xe:=E}
abbrev Cx.MO(X:Cx):Cx:=X.vZ λ_ _=>False
theorem Cx.Ok.vZ{X:Cx}(ok:X.Ok)(E:Value->Shared->Prop):(X.vZ E).Ok :=
 ⟨ok.mod,ok.kind,ok.glob,ok.blt,ok.above,ok.inj,ok.has,ok.Nb,ok.hd,ok.frames,ok.stk,ok.V4,ok.bs,ok.E6,ok.DU,ok.HS,ok.qJ,ok.JQ⟩
theorem Cx.Ok.kQ{X:Cx}{E:Value->Shared->Prop}(ok:(X.vZ E).Ok):X.Ok :=
 ⟨ok.mod,ok.kind,ok.glob,ok.blt,ok.above,ok.inj,ok.has,ok.Nb,ok.hd,ok.frames,ok.stk,ok.V4,ok.bs,ok.E6,ok.DU,ok.HS,ok.qJ,ok.JQ⟩
section
variable{X:Cx}{pins:List 'f'}{σ:St}{H:Hp}{s:Shared}{E:Value->Shared->Prop}
theorem Inv.vZ(I:Inv X pins σ H s)(E:Value->Shared->Prop):Inv (X.vZ E) pins σ H s:=⟨I.ok.vZ E,I.os,I.bare,I.base,I.loc,I.cell,I.free,I.iA,I.pin,I.hok,I.len⟩
theorem Inv.kQ(I:Inv (X.vZ E) pins σ H s):Inv X pins σ H s:=⟨I.ok.kQ,I.os,I.bare,I.base,I.loc,I.cell,I.free,I.iA,I.pin,I.hok,I.len⟩
theorem SP.kQ{D:Ends}{f:Flow}{s':Shared}(h:SP (X.vZ E) pins D f s'):SP X pins D f s':=by
 cases f with
 |next=>obtain⟨σ',H',I,q⟩:=h;exact⟨σ',H',I.kQ,q⟩
 |brk=>obtain⟨σ',H',I,q⟩:=h;exact⟨σ',H',I.kQ,q⟩
 |cont=>obtain⟨σ',H',I,q⟩:=h;exact⟨σ',H',I.kQ,q⟩
 |ret u=>obtain⟨v,σ',H',I,r,q⟩:=h;exact⟨v,σ',H',I.kQ,r,q⟩
theorem BH.MO{st:List Stmt}{t:TS}(h:BH X.MO st t):BH X st t:=λpins s σ H D I hw =>
 abk (h pins s σ H D (I.vZ _) hw) (λ_ _ q=>q.kQ) λ_ _ z=>False.elim z
end
section
variable{X:Cx}{st:Stmt}{rest:List Stmt}{t u:TS}{e:Expr}{te:TE}{pos:Pos}
def Fl:TS:=λD σ H=>D.nx σ H
def Nj(t u:TS):TS:=λD σ H=>t {D with nx:=u D} σ H
theorem ay:BH X [] Fl:=λ_ _ σ H _ I h=>wpAny_execs_nil ⟨σ,H,I,h⟩
theorem ah(h1:PS X st t)(h2:BH X rest u):BH X (st::rest) (Nj t u):=by
 intro pins s σ H D I h
 refine wpAny_execs_cons (cC (h1 pins s σ H {D with nx:=u D} I h) λf s1 q=>?_)
 cases f with
 |next =>
  obtain⟨σ',H',I',q⟩:=q
  exact h2 pins s1 σ' H' D I' q
 |ret v=>exact q
 |brk=>exact q
 |cont=>exact q
theorem ak(h1:PS X st t):BH X [st] t:=by
 intro pins s σ H D I h
 refine wpAny_execs_cons (cC (h1 pins s σ H D I h) λf s1 q=>?_)
 cases f with
 |next=>exact wpAny_execs_nil q
 |ret v=>exact q
 |brk=>exact q
 |cont=>exact q
theorem Inv.quiet{pins:List 'f'}{σ:St}{H:Hp}{s:Shared}(I:Inv X pins σ H s):interactive X.env=false:=by simp[interactive,I.ok.kind]
def Nk(te:TE):TS:=λD σ H=>te σ H λ_ H1=>D.nx σ H1
theorem bK(he:PE X e te)(hs:swapsWith e none pos.line X.env=pure false:=by rfl):PS X (.Expr e pos) (Nk te):=by
 intro pins s σ H D I h
 exact wpAny_Expr_any (cC (he pins s σ H _ I h) λv s1 ⟨x,H1,I1,r1,q1⟩=>⟨σ,H1,I1,q1⟩) I.quiet hs
def QI(te:TE):TS:=λD σ H=>te σ H D.rt
theorem az(he:PE X e te):PS X (.Return (some e) pos) (QI te):=by
 intro pins s σ H D I h
 exact wpAny_Return_some (cC (he pins s σ H _ I h) λv s1 ⟨x,H1,I1,r1,q1⟩=>⟨x,σ,H1,I1,r1,q1⟩)
def v9(c:TT)(t u:TS):TS:=λD σ H=>c σ H λb H1=>if b=true then t D σ H1 else u D σ H1
theorem aH{c:Expr}{a b:List Stmt}{tc:TT}(hc:PT X c tc)(ha:BH X a t)(hb:BH X b u):PS X (.If c a b pos) (v9 tc t u):=by
 intro pins s σ H D I h
 refine wpAny_If (cC (hc pins s σ H _ I h) λd s1 ⟨H1,I1,q1⟩=>?_)
 cases d with
 |true=>exact ha pins s1 σ H1 D I1 q1
 |false=>exact hb pins s1 σ H1 D I1 q1
def KH:TS:=λ_ _ _=>False
theorem kR:PS X st KH:=λ_ _ _ _ _ _ h=>h.elim
end
abbrev TG:=V->St->Hp->(St->Hp->Prop)->Prop
abbrev JS:=List V->St->Hp->(St->Hp->Prop)->Prop
def PG(X:Cx)(target:Expr)(t:TG):Prop :=
 ∀(pins:List 'f')(s:Shared)(σ:St)(H:Hp)(v:V)(u:Value)(Q:St->Hp->Prop),Inv X pins σ H s->RelV v u->t v σ H Q->wpAny 'd' X.A (assign target X.env u) (λ_ s'=>∃σ' H',Inv X pins σ' H' s'/\Q σ' H') X.xe s
def Nl(X:Cx)(ts:List Expr)(t:JS):Prop :=
 ∀(pins:List 'f')(s:Shared)(σ:St)(H:Hp)(vs:List V)(us:List Value)(Q:St->Hp->Prop),Inv X pins σ H s->Vals vs us->t vs σ H Q->wpAny 'd' X.A (assignInOrder ((assignEach ts X.env).map (·.2)) us) (λ_ s'=>∃σ' H',Inv X pins σ' H' s'/\Q σ' H') X.xe s
abbrev KI:=V->V->V->Hp->(Hp->Prop)->Prop
def Nm(X:Cx)(t:KI):Prop :=
 ∀(pins:List 'f')(s:Shared)(σ:St)(H:Hp)(o i v:V)(ov iv u:Value)(Q:Hp->Prop),Inv X pins σ H s->RelV o ov->RelV i iv->RelV v u->t o i v H Q->wpAny 'd' X.A (setItem ov iv u) (λ_ s'=>∃H',Inv X pins σ H' s'/\Q H') X.xe s
section
variable{X:Cx}{pos:Pos}
def bU(i:Nat):TG:=λv σ H Q=>Q (σ.set i (some v)) H
theorem HW{i:Nat}{x:Str}(hN:X.N.Nodup)(hi:X.N[i]?=some x)(hx:Loc X.env.scope x)(hf:X.fn x=true\/X.env.scope.names.lookup x=some .local:=by first|exact .inl rfl|exact .inr rfl|assumption):PG X (.Name x pos) (bU i):=by
 intro pins s σ H v u Q I r h
 exact wpAny_assign_Name (Ab I hN hi hx r (λs' I'=>⟨_,H,I',h⟩) hf)
def QJ:JS:=λvs σ H Q=>vs=[]/\Q σ H
def Np(t:TG)(u:JS):JS:=λvs σ H Q=>∃v r,vs=v::r/\t v σ H λσ' H'=>u r σ' H' Q
theorem fK:Nl X [] QJ:=by
 intro pins s σ H vs us Q I r h
 obtain⟨e,h⟩:=h
 subst e
 cases r
 exact assignInOrder_nil ⟨σ,H,I,h⟩
theorem aQ{e:Expr}{es:List Expr}{t:TG}{u:JS}(h1:PG X e t)(h2:Nl X es u)(hs:(assignEach (e::es) X.env).map (·.2)=assign e X.env::(assignEach es X.env).map (·.2):=by rfl):Nl X (e::es) (Np t u):=by
 intro pins s σ H vs us Q I r h
 obtain⟨v,vr,e1,h⟩:=h
 subst e1
 cases r with
 |cons r rr =>
  rw[hs]
  refine assignInOrder_cons (cC (h1 pins s σ H _ _ _ I r h) λ_ s1 ⟨σ1,H1,I1,q1⟩=>?_)
  exact h2 pins s1 σ1 H1 _ _ Q I1 rr q1
def Nq(K:W.Frag)(n:Nat)(t:JS):TG:=λv σ H Q=>∃a xs,v=.ref a/\bH K H a xs/\xs.length=n/\t xs σ H Q
theorem KJ{es:List Expr}{k:Nat}{t:JS}{n:Nat}(hc:X.calm=true)(h:Nl X es t)(hn:(assignEach es X.env).length=n:=by rfl)(hst:(assignEach es X.env).findIdx? (·.1)=none:=by rfl):PG X (.Tuple es k pos) (Nq X.K n t):=by
 intro pins s σ H v u Q I r hw
 obtain⟨a,xs,e1,hq,hl,hw⟩:=hw
 subst e1
 cases r
 obtain⟨its,rv,ht,hz⟩:=I.tuple hq
 refine assign_Tuple_tuple (I.ok.hd hc) ht (by simp[hn,←hl,rv.length]) hst λh' hx=>?_
 have I1:Inv X pins σ H {s with heap:=h'}:=I.kept (t':=s.toks) λb o e=>hx b o (aaS (aaw e)) e
 exact h pins _ σ H xs _ Q I1 (by simpa using rv) hw
def QK(to ti:TE)(t:KI):TG:=λv σ H Q=>to σ H λo H1=>ti σ H1 λi H2=>t o i v H2 λH3=>Q σ H3
theorem kT{o i:Expr}{to ti:TE}{t:KI}(ho:PE X o to)(hi:PE X i ti)(hs:Nm X t)(ha:∀v,assign (.Subscript o i pos) X.env v=(do
   let ov ←holding [v] (eval o X.env)
   let iv ←holding [v,ov] (eval i X.env)
   standAt pos
   holding [v,ov,iv] (setItem ov iv v)
   release [v,ov,iv] []):=by intro _;rfl):PG X (.Subscript o i pos) (QK to ti t):=by
 intro pins s σ H v u Q I r h
 rw[ha]
 refine aai (wpAny_holding (cC (ho pins s σ H _ I h) λov s1 ⟨x,H1,I1,r1,q1⟩=>?_))
 refine aai (wpAny_holding (cC (hi pins s1 σ H1 _ I1 q1) λiv s2 ⟨y,H2,I2,r2,q2⟩=>?_))
 refine aai (wpAny_standAt (aai (wpAny_holding (cC (hs pins s2 σ H2 x y v ov iv u _ I2 r1 r2 r q2) λ_ s3 ⟨H3,I3,q3⟩=>?_))))
 exact wpAny_release ⟨σ,H3,I3,q3⟩
def Fo(te:TE)(g:TG):TS:=λD σ H=>te σ H λx H1=>g x σ H1 D.nx
theorem dU{tg e:Expr}{te:TE}{g:TG}(he:PE X e te)(hg:PG X tg g)(hs:swapsWithSole [tg] e pos.line X.env=pure false:=by rfl)(hw:swappedStores [tg] e X.env=pure none:=by rfl)(h1:(assignEach [tg] X.env).map (·.2)=[assign tg X.env]:=by rfl):PS X (.Assign [tg] e pos) (Fo te g):=by
 intro pins s σ H D I h
 refine wpAny_Assign_stores (cC (he pins s σ H _ I h) λv s1 ⟨x,H1,I1,r1,q1⟩=>?_) hs hw
 rw[h1]
 exact cC (hg pins s1 σ H1 x v _ I1 r1 q1) λ_ s2 q=>q
theorem KL{i:Nat}{x:Str}{e:Expr}{te:TE}{pos':Pos}(hN:X.N.Nodup)(hi:X.N[i]?=some x)(hx:Loc X.env.scope x)(he:PE X e te)(hs:swapsWith e (some (.Name x pos')) pos.line X.env=pure false:=by rfl)(hf:X.fn x=true\/X.env.scope.names.lookup x=some .local:=by first|exact .inl rfl|exact .inr rfl|assumption):PS X (.Assign [.Name x pos'] e pos) (Fo te (bU i)):=by
 intro pins s σ H D I h
 refine wpAny_Assign_Name (cC (he pins s σ H _ I h) λv s1 ⟨y,H1,I1,r1,q1⟩=>?_) hs
 exact Ab I1 hN hi hx r1 (λs2 I2=>⟨_,H1,I2,q1⟩) hf
end
section
variable{X:Cx}{pos:Pos}
def KN(c:TT)(tb:TS):TS:=λD σ H=>∃W:Nat->St->Hp->Prop,(∃m,W m σ H)/\∀m σ H,W m σ H->c σ H λb H1=>if b=true then ∃N:St->Hp->Prop,(∀σ' H',N σ' H'->∃m',m'<m/\W m' σ' H')/\tb {D with nx:=N,ct:=N,bk:=D.nx} σ H1 else D.nx σ H1
theorem Fp{c:Expr}{body:List Stmt}{tc:TT}{tb:TS}(hp:PassesOwn 'd' X.A X.env X.xe)(hc:PT X c tc)(hb:BH X body tb):PS X (.While c body [] pos) (KN tc tb):=by
 intro pins s σ H D I h
 obtain⟨W,⟨m0,w0⟩,turn⟩:=h
 refine wpAny_While (codeAny_whileLoop (λn s'=>∃σ' H',Inv X pins σ' H' s'/\W n σ' H') ?_ m0 ⟨σ,H,I,w0⟩)
 rintro n s1 ⟨σ1,H1,I1,w1⟩
 refine abB hp (cC (hc pins s1 σ1 H1 _ I1 (turn n σ1 H1 w1)) λb s2 ⟨H2,I2,q2⟩=>?_)
 cases b with
 |true =>
  obtain⟨N,hN,q2⟩:=q2
  rw[aal rfl]
  refine abB hp (cC (hb pins s2 σ1 H2 _ I2 q2) λf s3 q3=>?_)
  cases f with
  |next =>
   obtain⟨σ3,H3,I3,n3⟩:=q3
   obtain⟨m',hm,w3⟩:=hN σ3 H3 n3
   exact⟨m',hm,σ3,H3,I3,w3⟩
  |cont =>
   obtain⟨σ3,H3,I3,n3⟩:=q3
   obtain⟨m',hm,w3⟩:=hN σ3 H3 n3
   exact⟨m',hm,σ3,H3,I3,w3⟩
  |brk=>exact q3
  |ret v=>exact q3
 |false =>
  rw[aah aaC]
  exact wpAny_execs_nil ⟨σ1,H2,I2,q2⟩
end
structure It where
 go:Nat->Hp->Prop
 Fq:Nat->Hp->V->Hp->Prop
 stop:Nat->Hp->Prop
def jv(X:Cx)(pins:List 'f')(H:Hp)(b:Addr):Prop :=
 H b=none/\b≠X.env.locals/\b∉X.fs/\(b∈X.ex\/X.s₀.heap.objs.size<=b)/\(∀x c,X.env.cells.lookup x=some c->c≠b)/\∀p∈X.pn++pins,p.1≠b
theorem Inv.uK{X:Cx}{pins:List 'f'}{σ:St}{H H':Hp}{s:Shared}{b:Addr}(I:Inv X pins σ H s)(hb:s.heap.objs.size<=b)(hn:H' b=none):jv X pins H' b:=by
 refine⟨hn,abG (aaF I.lt hb),I.QC hb,.inr (aaz I.sz hb),λx c e z=>?_,λp hp z=>?_⟩
 ·obtain⟨v,q⟩:=I.cell x c e
  exact absurd (aaF q.lt (by rw[z];exact hb)) (abK _)
 ·exact absurd (aaF (aaw (I.pin p hp).1) (by rw[z];exact hb)) (abK _)
structure Turn(P:Program)(w:World)(K:W.Frag)(tg:Expr)(J:It)(fp:List Addr)(it:Addr)(tn:Nat->Heap->Prop):Prop where
 mem:it∈fp
 obj:∀i h,tn i h->∀b∈fp,∃o,h.get? b=some o/\∀v,o.data≠.cell v
 keep:∀i h h',tn i h->(∀b∈fp,∀o,h.get? b=some o->h'.get? b=some o)->tn i h'
 item:∀(X:Cx),X.prog=P->X.w=w->X.K=K->X.calm=true->∀(i:Nat)(pins:List 'f')(s:Shared)(σ:St)(H:Hp)(E:Value->Shared->Prop),Inv X pins σ H s->(∀b∈fp,jv X pins H b)->tn i s.heap->J.go i H->wpAny (model P w) X.A (pyNext (.ref it)) (λr s1=>∃u,r=some u/\wpAny (model P w) X.A (letOwnedTupleGo tg (.ref it) u) (λ_ s2=>∃x H',Inv X pins σ H' s2/\RelV x u/\J.Fq i H x H'/\tn (i+1) s2.heap/\∀b∈fp,H' b=none) E s1) E s
 done:∀(X:Cx),X.prog=P->X.w=w->X.K=K->X.calm=true->∀(i:Nat)(pins:List 'f')(s:Shared)(σ:St)(H:Hp)(E:Value->Shared->Prop),Inv X pins σ H s->(∀b∈fp,jv X pins H b)->tn i s.heap->J.stop i H->wpAny (model P w) X.A (pyNext (.ref it)) (λr s1=>r=none/\Inv X pins σ H s1) E s
 self:∀(A:Around)(i:Nat)(s:Shared)(Q:Value->Shared->Prop)(E:Value->Shared->Prop),tn i s.heap->Q (.ref it) s->wpAny (model P w) A (pyIter (.ref it)) Q E s
abbrev TI:=St->Hp->(It->Hp->Prop)->Prop
def V5(X:Cx)(pins:List 'f')(σ:St)(tg:Expr)(R:It->Hp->Prop)(itv:Value)(s2:Shared):Prop :=
 ∃(it:Addr)(fp:List Addr)(tn:Nat->Heap->Prop)(J:It)(H':Hp),itv=.ref it/\Inv X pins σ H' s2/\Turn X.prog X.w X.K tg J fp it tn/\tn 0 s2.heap/\(∀b∈fp,jv X pins H' b)/\R J H'
def PI(X:Cx)(tg iter:Expr)(wi:TI):Prop :=
 ∀(pins:List 'f')(s:Shared)(σ:St)(H:Hp)(R:It->Hp->Prop),Inv X pins σ H s->wi σ H R->wpAny 'd' X.A (eval iter X.env) (λv s1=>wpAny 'd' X.A (pyIter v) (V5 X pins σ tg R) X.xe s1) X.xe s
theorem Ac{M:Model}{A:Around}{E:Value->Shared->Prop}{s:Shared}{tg:Expr}{it:Addr}{u:Value}{o:Obj}{n:String}{vs:Array Value}{Q:Unit->Shared->Prop}(ho:s.heap.get? it=some o)(hc:o.cls=.type n)(hd:o.data=.fields vs)(hn:["enumerate","zip","dict_itemiterator","dict_reverseitemiterator","odict_iterator","itertools.zip_longest","itertools.pairwise"].contains n=false)(hQ:Q () s):wpAny M A (letOwnedTupleGo tg (.ref it) u) Q E s:=by
 unfold letOwnedTupleGo
 cases tg<;>first
   |exact aaB hQ
   | (cases u<;>first
       |exact aaB hQ
       | (refine aai (wpAny_load ho ?_)
          rw[hc,hd]
          show wpAny M A (if (["enumerate","zip","dict_itemiterator","dict_reverseitemiterator","odict_iterator","itertools.zip_longest","itertools.pairwise"].contains n&&vs[0]?==some (rawInt _))=true then _ else _) Q E s
          rw[aah (by intro h;rw[hn,Bool.false_and]at h;cases h)]
          exact aaB hQ))
def MP(K:W.Frag)(a:Addr):It :=
 ⟨λi H=>∃xs x,aK K H a xs/\xs[i]?=some x,λi H x H'=>H'=H/\∀xs,aK K H a xs->xs[i]?=some x,λi H=>∃xs,aK K H a xs/\xs.length<=i⟩
def Nr(K:W.Frag)(a:Addr):It :=
 ⟨λi H=>∃xs x,bH K H a xs/\xs[i]?=some x,λi H x H'=>H'=H/\∀xs,bH K H a xs->xs[i]?=some x,λi H=>∃xs,bH K H a xs/\xs.length<=i⟩
def JT(lo:Int)(n:Nat):It:=⟨λi _=>i<n,λi H x H'=>H'=H/\x=.int (lo+i),λi _=>n<=i⟩
theorem DW{P:Program}{w:World}{K:W.Frag}{tg:Expr}(a it:Addr):Turn P w K tg (MP K a) [it] it (λi h=>h.IsListIter it a i) where
 mem:=by simp
 obj:=λi h st b hb=>by
  have e:b=it:=by simpa using hb
  subst e
  obtain⟨o,e,c,d⟩:=st
  exact⟨o,e,λv z=>by rw[d]at z;cases z⟩
 keep:=λi h h' st k=>st.at λo e=>k it (by simp) o e
 item:=by
  intro X hP hw hK hc i pins s σ H E I hf st hg
  subst hP hw hK
  obtain⟨xs,x,hq,hx⟩:=hg
  obtain⟨its,rv,p,hz⟩:=I.list hq
  obtain⟨u,hu,ru⟩:=rv.get hx
  obtain⟨f0,f1,f2,f3,f4,f5⟩:=hf it (by simp)
  refine wpAny_pyNext_list_item st p.isList (x:=u) (by simpa using hu) λh' st' sb=>?_
  have I1:Inv X pins σ H {s with heap:=h'}:=I.turned (t':=s.toks) (λb o hb e=>(sb.2 b hb).trans e) f0 f1 f3 f4 f5
  obtain⟨o,e,c,d⟩:=id st'
  exact⟨u,rfl,Ac (s:={s with heap:=h'}) e c d 'b' ⟨x,H,I1,ru,⟨rfl,λys hy=>by rw[I.uJ hy hq];exact hx⟩,st',λb hb=>(hf b hb).1⟩⟩
 done:=by
  intro X hP hw hK hc i pins s σ H E I hf st hg
  subst hP hw hK
  obtain⟨xs,hq,hx⟩:=hg
  obtain⟨its,rv,p,hz⟩:=I.list hq
  obtain⟨f0,f1,f2,f3,f4,f5⟩:=hf it (by simp)
  have hl:=rv.length
  exact wpAny_pyNext_list_end (I.ok.hd hc) st p.isList (by simp;omega) λh' eb=>⟨rfl,I.turned (t':=s.toks) (λb o hb e=>eb b o hb e) f0 f1 f3 f4 f5⟩
 self:=λ_ _ _ _ _ st h=>wpAny_pyIter_listiter st h
theorem BI{P:Program}{w:World}{K:W.Frag}{tg:Expr}(a it:Addr):Turn P w K tg (Nr K a) [it] it (λi h=>h.IsTupleIter it a i) where
 mem:=by simp
 obj:=λi h st b hb=>by
  have e:b=it:=by simpa using hb
  subst e
  obtain⟨o,e,c,d⟩:=st
  exact⟨o,e,λv z=>by rw[d]at z;cases z⟩
 keep:=λi h h' st k=>st.at λo e=>k it (by simp) o e
 item:=by
  intro X hP hw hK hc i pins s σ H E I hf st hg
  subst hP hw hK
  obtain⟨xs,x,hq,hx⟩:=hg
  obtain⟨its,rv,p,hz⟩:=I.tuple hq
  obtain⟨u,hu,ru⟩:=rv.get hx
  obtain⟨f0,f1,f2,f3,f4,f5⟩:=hf it (by simp)
  refine wpAny_pyNext_tuple_item st (show s.heap.IsTuple a its.toArray from p) (x:=u) (by simpa using hu) λh' st' sb=>?_
  have I1:Inv X pins σ H {s with heap:=h'}:=I.turned (t':=s.toks) (λb o hb e=>(sb.2 b hb).trans e) f0 f1 f3 f4 f5
  obtain⟨o,e,c,d⟩:=id st'
  exact⟨u,rfl,Ac (s:={s with heap:=h'}) e c d 'b' ⟨x,H,I1,ru,⟨rfl,λys hy=>by rw[I.DV hy hq];exact hx⟩,st',λb hb=>(hf b hb).1⟩⟩
 done:=by
  intro X hP hw hK hc i pins s σ H E I hf st hg
  subst hP hw hK
  obtain⟨xs,hq,hx⟩:=hg
  obtain⟨its,rv,p,hz⟩:=I.tuple hq
  obtain⟨f0,f1,f2,f3,f4,f5⟩:=hf it (by simp)
  have hl:=rv.length
  exact wpAny_pyNext_tuple_end (I.ok.hd hc) st (show s.heap.IsTuple a its.toArray from p) (by simp;omega) λh' eb=>⟨rfl,I.turned (t':=s.toks) (λb o hb e=>eb b o hb e) f0 f1 f3 f4 f5⟩
 self:=λ_ _ _ _ _ st h=>wpAny_pyIter_tupleiter st h
theorem BJ{P:Program}{w:World}{K:W.Frag}{tg:Expr}(it:Addr)(lo:Int)(n:Nat):Turn P w K tg (JT lo n) [it] it (λi h=>IsRangeIter h it (lo+(i:Nat)*1) ((n:Int)-(i:Nat)) 1) where
 mem:=by simp
 obj:=λi h st b hb=>by
  have e:b=it:=by simpa using hb
  subst e
  exact⟨_,st,λv z=>by
   have z':Data.fields _=Data.cell v:=z
   cases z'⟩
 keep:=λi h h' st k=>k it (by simp) _ st
 item:=by
  intro X hP hw hK hc i pins s σ H E I hf st hg
  subst hP hw hK
  obtain⟨f0,f1,f2,f3,f4,f5⟩:=hf it (by simp)
  have W:=Walks.range (prog:=X.prog) (w:=X.w) (I.ok.hd hc) it lo 1 n
  refine W.item i s _ _ hg st λv h' tk hv st' kk=>?_
  obtain⟨t,rfl⟩:=hv
  have I1:Inv X pins σ H {s with heap:=h',toks:=tk}:=I.turned (λb o hb e=>kk b o (by simpa using hb) e) f0 f1 f3 f4 f5
  refine⟨_,rfl,Ac (s:={s with heap:=h',toks:=tk}) (n:="range_iterator") st' rfl rfl 'b' ⟨.int (lo+i),H,I1,⟨t,?_⟩,⟨rfl,rfl⟩,st',λb hb=>(hf b hb).1⟩⟩
  rw[Int.mul_one]
 done:=by
  intro X hP hw hK hc i pins s σ H E I hf st hg
  subst hP hw hK
  obtain⟨f0,f1,f2,f3,f4,f5⟩:=hf it (by simp)
  exact wpAny_pyNext_range_end (I.ok.hd hc) st (by have:n<=i:=hg;omega) λh' eb=>⟨rfl,I.turned (t':=s.toks) (λb o hb e=>eb b o hb e) f0 f1 f3 f4 f5⟩
 self:=λ_ _ _ _ _ st h=>wpAny_pyIter_rangeiter st h
section
variable{X:Cx}{tg:Expr}
def JU(K:W.Frag)(tl:TE):TI:=λσ H R=>tl σ H λx H1=>∃a,x=.ref a/\(∃xs,aK K H1 a xs)/\R (MP K a) H1
def Nt(K:W.Frag)(tl:TE):TI:=λσ H R=>tl σ H λx H1=>∃a,x=.ref a/\(∃xs,bH K H1 a xs)/\R (Nr K a) H1
theorem HX{l:Expr}{tl:TE}(hl:PE X l tl):PI X tg l (JU X.K tl):=by
 intro pins s σ H R I h
 refine cC (hl pins s σ H _ I h) λv s1 ⟨x,H1,I1,r1,q1⟩=>?_
 obtain⟨a,e,⟨xs,hq⟩,q⟩:=q1
 subst e
 cases r1
 obtain⟨its,rv,p,hz⟩:=I1.list hq
 refine wpAny_pyIter_list p.isList ?_
 refine⟨s1.heap.objs.size,[s1.heap.objs.size],_,_,H1,rfl,I1.kept (t':=s1.toks) λb o e=>aap _ e,DW a _,⟨_,aaG _ rfl,rfl,rfl⟩,λb hb=>?_,q⟩
 have e:b=s1.heap.objs.size:=by simpa using hb
 subst e
 exact I1.uK (aao _) (I1.hok.fresh (aao _))
theorem KO{l:Expr}{tl:TE}(hl:PE X l tl):PI X tg l (Nt X.K tl):=by
 intro pins s σ H R I h
 refine cC (hl pins s σ H _ I h) λv s1 ⟨x,H1,I1,r1,q1⟩=>?_
 obtain⟨a,e,⟨xs,hq⟩,q⟩:=q1
 subst e
 cases r1
 obtain⟨its,rv,p,hz⟩:=I1.tuple hq
 refine wpAny_pyIter_tuple (show s1.heap.IsTuple a its.toArray from p) ?_
 refine⟨s1.heap.objs.size,[s1.heap.objs.size],_,_,H1,rfl,I1.kept (t':=s1.toks) λb o e=>aap _ e,BI a _,⟨_,aaG _ rfl,rfl,rfl⟩,λb hb=>?_,q⟩
 have e:b=s1.heap.objs.size:=by simpa using hb
 subst e
 exact I1.uK (aao _) (I1.hok.fresh (aao _))
theorem Ft{pins:List 'f'}{σ:St}{H:Hp}{s:Shared}{R:It->Hp->Prop}{E:Value->Shared->Prop}{lo hi:Int}{t u v:Tok}{tk:Nat}(I:Inv X pins σ H s)(h1 : -(2 ^ 62)<=lo)(h2:lo<2 ^ 62)(h3 : -(2 ^ 62)<=hi)(h4:hi<2 ^ 62)(q:R (JT lo (hi-lo).toNat) H):wpAny 'd' X.A (pyIter (.ref s.heap.objs.size)) (V5 X pins σ tg R) E {s with heap:=s.heap.push {cls:=.type "range",data:=.fields #[.int lo t,.int hi u,.int 1 v]},toks:=tk}:=by
 refine wpAny_pyIter_range (IsRange.new ..) (small_one h1 h2 h3 h4) ?_
 have I1:Inv X pins σ H {s with heap:=s.heap.push {cls:=.type "range",data:=.fields #[.int lo t,.int hi u,.int 1 v]},toks:=tk}:=I.kept λb o e=>aap _ e
 refine⟨(s.heap.push {cls:=.type "range",data:=.fields #[.int lo t,.int hi u,.int 1 v]}).objs.size,[(s.heap.push {cls:=.type "range",data:=.fields #[.int lo t,.int hi u,.int 1 v]}).objs.size],_,_,H,rfl,I1.kept (t':=tk) λb o e=>aap _ e,BJ _ lo (hi-lo).toNat,?_,λb hb=>?_,q⟩
 ·have e1:lo+((0:Nat):Int)*1=lo:=by simp
  have e2:(((hi-lo).toNat:Nat):Int)-((0:Nat):Int)=Builtin.Range.rangeSize lo hi 1:=by rw[rangeSize_one];split<;>omega
  show IsRangeIter _ _ (lo+((0:Nat):Int)*1) ((((hi-lo).toNat:Nat):Int)-((0:Nat):Int)) 1
  rw[e1,e2]
  exact aaG _ rfl
 ·have e:b=(s.heap.push {cls:=.type "range",data:=.fields #[.int lo t,.int hi u,.int 1 v]}).objs.size:=by simpa using hb
  subst e
  exact I1.uK (aao _) (I1.hok.fresh (aao _))
def Nu(ta:TA):TI:=λσ H R=>ta σ H λvs H1=>∃j:Int,vs=[.int j]/\-(2 ^ 62)<=j/\j<2 ^ 62/\R (JT 0 j.toNat) H1
theorem dO{a:Expr}{ta:TA}{p pos:Pos}(hg:Gl X "range")(hm:X.mg "range"=none)(ha:PA X [a] ta)(hs:starEach [a] X.env=[(false,eval a X.env)]:=by rfl):PI X tg (.Call (.Name "range" p) [a] [] pos) (Nu ta):=by
 intro pins s σ H R I h
 refine Call_ (kP I hg hm boot_range (aa9 (cC (ha pos pins s σ H _ I h) λus s1 ⟨vs,H1,I1,r1,q1⟩=>?_) hs rfl))
 obtain⟨j,e,q1,q2,q⟩:=q1
 subst e
 cases r1 with
 |cons r rr =>
  cases rr
  obtain⟨t,rfl⟩:=r
  exact call_range_1 (Ft I1 'c' 'c' q1 q2 (by simpa using q))
def QL(wi:TI)(g:TG)(tb:TS):TS:=λD σ H=>wi σ H λJ H1=>∃W:Nat->Nat->St->Hp->Prop,(∃m,W 0 m σ H1)/\∀i m σ H,W i m σ H->(J.stop i H/\D.nx σ H)\/(J.go i H/\∃N:St->Hp->Prop,(∀σ' H',N σ' H'->∃m',m'<m/\W (i+1) m' σ' H')/\∀x H',J.Fq i H x H'->g x σ H' λσ2 H2=>tb {D with nx:=N,ct:=N,bk:=D.nx} σ2 H2)
def qL(fp:List Addr)(h:Heap):List 'f':=fp.filterMap λb=>(h.get? b).map λo=>(b,o)
theorem fD{fp:List Addr}{h:Heap}{b:Addr}{o:Obj}(hb:b∈fp)(e:h.get? b=some o):(b,o)∈qL fp h:=List.mem_filterMap.mpr ⟨b,hb,by rw[e];rfl⟩
theorem DX{fp:List Addr}{h:Heap}{p:Addr×Obj}(hp:p∈qL fp h):p.1∈fp/\h.get? p.1=some p.2:=by
 obtain⟨b,hb,e⟩:=List.mem_filterMap.mp hp
 cases q:h.get? b with
 |none=>rw[q]at e;cases e
 |some o =>
  rw[q]at e
  have e':(b,o)=p:=aaA e
  subst e'
  exact⟨hb,q⟩
theorem Inv.pinned{pins:List 'f'}{σ:St}{H:Hp}{s:Shared}{fp:List Addr}(I:Inv X pins σ H s)(hf:∀b∈fp,jv X pins H b)(ho:∀b∈fp,∃o,s.heap.get? b=some o/\∀v,o.data≠.cell v):Inv X (pins++qL fp s.heap) σ H s :=
 I.C6 λp hp=>(aaH.mp hp).elim (λz=>I.pin p (aaP _ z)) λz=>by
  obtain⟨hb,e⟩:=DX z
  obtain⟨f0,f1,f2,_⟩:=hf p.1 hb
  obtain⟨o,e',d⟩:=ho p.1 hb
  rw[e]at e';cases e'
  exact⟨e,f0,f1,f2,d⟩
theorem Inv.kU{pins pl:List 'f'}{σ:St}{H:Hp}{s:Shared}(I:Inv X (pins++pl) σ H s):Inv X pins σ H s:=I.C6 λp hp=>I.pin p (aaP _ (abj _ hp))
theorem dm{iter:Expr}{body:List Stmt}{wi:TI}{g:TG}{tb:TS}{pos:Pos}(hp:PassesOwn 'd' X.A X.env X.xe)(hc:X.calm=true)(hi:PI X tg iter wi)(hg:PG X tg g)(hb:BH X body tb)(hs:∀x,foldedSetIterable iter X.env x=pure x:=by intro _;rfl):PS X (.For tg iter body [] pos) (QL wi g tb):=by
 intro pins s σ H D I h
 refine wpAny_For (cC (hi pins s σ H _ I h) λv s1 h1=>cC h1 λitv s2 h2=>?_) hs
 obtain⟨it,fp,tn,J,H2,e,I2,T,st2,f2,W,⟨m0,w0⟩,turn⟩:=h2
 subst e
 have uL:∀{H':Hp},(∀b∈fp,H' b=none)->∀b∈fp,jv X pins H' b:=λhn b hb=>⟨hn b hb,(f2 b hb).2⟩
 refine codeAny_forLoop_any (λn s'=>∃i σ' H',Inv X pins σ' H' s'/\tn i s'.heap/\(∀b∈fp,H' b=none)/\W i n σ' H') ?_ m0 ⟨0,σ,H2,I2,st2,λb hb=>(f2 b hb).1,w0⟩
 rintro n s3 ⟨i,σ3,H3,I3,st3,V6,w3⟩
 rcases turn i n σ3 H3 w3 with ⟨stop,qn⟩|⟨go,N,hN,step⟩
 ·refine abB hp (cC (T.done X rfl rfl rfl hc i pins s3 σ3 H3 X.xe I3 (uL V6) st3 stop) λr s4 ⟨hr,I4⟩=>?_)
  subst hr
  exact wpAny_execs_nil ⟨σ3,H3,I4,qn⟩
 ·refine abB hp (cC (T.item X rfl rfl rfl hc i pins s3 σ3 H3 X.xe I3 (uL V6) st3 go) λr s4 ⟨u,hr,h4⟩=>?_)
  subst hr
  refine abB hp (cC h4 λ_ s5 ⟨x,H5,I5,r5,y5,QM,XM⟩=>?_)
  have XO:=I5.pinned (uL XM) (T.obj _ _ QM)
  refine abB hp (cC (hg _ s5 σ3 H5 x u _ XO r5 (step x H5 y5)) λ_ s6 ⟨σ6,H6,I6,q6⟩=>?_)
  refine abB hp (cC (hb _ s6 σ6 H6 _ I6 q6) λf s7 q7=>?_)
  have again:∀{σ7:St}{H7:Hp},Inv X (pins++qL fp s5.heap) σ7 H7 s7->N σ7 H7->∃m,m<n/\∃i σ' H',Inv X pins σ' H' s7/\tn i s7.heap/\(∀b∈fp,H' b=none)/\W i m σ' H':=λ{σ7 H7} I7 n7=>by
   obtain⟨m',hm,w7⟩:=hN σ7 H7 n7
   refine⟨m',hm,i+1,σ7,H7,I7.kU,T.keep _ _ _ QM λb hb o e=>(I7.pin (b,o) (aaP _ (aaP _ (fD hb e)))).1,λb hb=>?_,w7⟩
   obtain⟨o,e,d⟩:=T.obj _ _ QM b hb
   exact(I7.pin (b,o) (aaP _ (aaP _ (fD hb e)))).2.1
  cases f with
  |next=>obtain⟨σ7,H7,I7,n7⟩:=q7;exact again I7 n7
  |cont=>obtain⟨σ7,H7,I7,n7⟩:=q7;exact again I7 n7
  |brk=>obtain⟨σ7,H7,I7,q7⟩:=q7;exact⟨σ7,H7,I7.kU,q7⟩
  |ret v=>obtain⟨x7,σ7,H7,I7,r7,q7⟩:=q7;exact⟨x7,σ7,H7,I7.kU,r7,q7⟩
end
theorem kW{K:W.Frag}{a:Addr}{xs:List V}{g:TG}{tb:TS}{D:Ends}{σ:St}{H:Hp}(Pv:Nat->St->Hp->Prop)(h0:Pv 0 σ H)(hl:∀i σ H,i<=xs.length->Pv i σ H->aK K H a xs)(hs:∀i x σ H,xs[i]?=some x->Pv i σ H->g x σ H λσ2 H2=>tb {D with nx:=Pv (i+1),ct:=Pv (i+1),bk:=D.nx} σ2 H2)(hd:∀σ H,Pv xs.length σ H->D.nx σ H):∃W:Nat->Nat->St->Hp->Prop,(∃m,W 0 m σ H)/\∀i m σ H,W i m σ H->((MP K a).stop i H/\D.nx σ H)\/((MP K a).go i H/\∃N:St->Hp->Prop,(∀σ' H',N σ' H'->∃m',m'<m/\W (i+1) m' σ' H')/\∀x H',(MP K a).Fq i H x H'->g x σ H' λσ2 H2=>tb {D with nx:=N,ct:=N,bk:=D.nx} σ2 H2):=by
 refine⟨λi m σ H=>m=xs.length-i/\i<=xs.length/\Pv i σ H,⟨xs.length,by simp,aaZ _,h0⟩,?_⟩
 rintro i m σ H ⟨rfl,hi,p⟩
 have q:=hl i σ H hi p
 by_cases hlt:i<xs.length
 ·refine .inr ⟨⟨xs,xs[i],q,by simp[hlt]⟩,Pv (i+1),λσ' H' p'=>⟨xs.length-(i+1),by omega,rfl,hlt,p'⟩,λx H' y=>?_⟩
  obtain⟨e,y⟩:=y
  subst e
  exact hs i x σ _ (y xs q) p
 ·have e:i=xs.length:=by omega
  subst e
  exact .inl ⟨⟨xs,q,aao _⟩,hd σ H p⟩
theorem HY{K:W.Frag}{a:Addr}{xs:List V}{g:TG}{tb:TS}{D:Ends}{σ:St}{H:Hp}(Pv:Nat->St->Hp->Prop)(h0:Pv 0 σ H)(hl:∀i σ H,i<=xs.length->Pv i σ H->bH K H a xs)(hs:∀i x σ H,xs[i]?=some x->Pv i σ H->g x σ H λσ2 H2=>tb {D with nx:=Pv (i+1),ct:=Pv (i+1),bk:=D.nx} σ2 H2)(hd:∀σ H,Pv xs.length σ H->D.nx σ H):∃W:Nat->Nat->St->Hp->Prop,(∃m,W 0 m σ H)/\∀i m σ H,W i m σ H->((Nr K a).stop i H/\D.nx σ H)\/((Nr K a).go i H/\∃N:St->Hp->Prop,(∀σ' H',N σ' H'->∃m',m'<m/\W (i+1) m' σ' H')/\∀x H',(Nr K a).Fq i H x H'->g x σ H' λσ2 H2=>tb {D with nx:=N,ct:=N,bk:=D.nx} σ2 H2):=by
 refine⟨λi m σ H=>m=xs.length-i/\i<=xs.length/\Pv i σ H,⟨xs.length,by simp,aaZ _,h0⟩,?_⟩
 rintro i m σ H ⟨rfl,hi,p⟩
 have q:=hl i σ H hi p
 by_cases hlt:i<xs.length
 ·refine .inr ⟨⟨xs,xs[i],q,by simp[hlt]⟩,Pv (i+1),λσ' H' p'=>⟨xs.length-(i+1),by omega,rfl,hlt,p'⟩,λx H' y=>?_⟩
  obtain⟨e,y⟩:=y
  subst e
  exact hs i x σ _ (y xs q) p
 ·have e:i=xs.length:=by omega
  subst e
  exact .inl ⟨⟨xs,q,aao _⟩,hd σ H p⟩
theorem fE{lo:Int}{n:Nat}{g:TG}{tb:TS}{D:Ends}{σ:St}{H:Hp}(Pv:Nat->St->Hp->Prop)(h0:Pv 0 σ H)(hs:∀i σ H,i<n->Pv i σ H->g (.int (lo+i)) σ H λσ2 H2=>tb {D with nx:=Pv (i+1),ct:=Pv (i+1),bk:=D.nx} σ2 H2)(hd:∀σ H,Pv n σ H->D.nx σ H):∃W:Nat->Nat->St->Hp->Prop,(∃m,W 0 m σ H)/\∀i m σ H,W i m σ H->((JT lo n).stop i H/\D.nx σ H)\/((JT lo n).go i H/\∃N:St->Hp->Prop,(∀σ' H',N σ' H'->∃m',m'<m/\W (i+1) m' σ' H')/\∀x H',(JT lo n).Fq i H x H'->g x σ H' λσ2 H2=>tb {D with nx:=N,ct:=N,bk:=D.nx} σ2 H2):=by
 refine⟨λi m σ H=>m=n-i/\i<=n/\Pv i σ H,⟨n,by simp,aaZ _,h0⟩,?_⟩
 rintro i m σ H ⟨rfl,hi,p⟩
 by_cases hlt:i<n
 ·refine .inr ⟨hlt,Pv (i+1),λσ' H' p'=>⟨n-(i+1),by omega,rfl,hlt,p'⟩,λx H' y=>?_⟩
  obtain⟨e,y⟩:=y
  subst e y
  exact hs i σ _ hlt p
 ·have e:i=n:=by omega
  subst e
  exact .inl ⟨aao _,hd σ H p⟩
abbrev R2:=V->V->Hp->VK->Prop
def mG(X:Cx)(f:Value->Value->Sem Value)(r:R2):Prop :=
 ∀(pins:List 'f')(s:Shared)(σ:St)(H:Hp)(x y:V)(v u:Value)(Q:VK),Inv X pins σ H s->RelV x v->RelV y u->r x y H Q->wpAny 'd' X.A (f v u) (EP X pins σ Q) X.xe s
def QN(X:Cx)(f:Value->Sem Value)(r:V->Hp->VK->Prop):Prop :=
 ∀(pins:List 'f')(s:Shared)(σ:St)(H:Hp)(x:V)(v:Value)(Q:VK),Inv X pins σ H s->RelV x v->r x H Q->wpAny 'd' X.A (f v) (EP X pins σ Q) X.xe s
def dw(X:Cx)(f:Value)(r:List V->Hp->VK->Prop):Prop :=
 ∀(pins:List 'f')(s:Shared)(σ:St)(H:Hp)(xs:List V)(us:List Value)(Q:VK),Inv X pins σ H s->Vals xs us->r xs H Q->wpAny 'd' X.A (call f us) (EP X pins σ Q) X.xe s
def HK(r:R2)(ta tb:TE):TE:=λσ H Q=>ta σ H λx H1=>tb σ H1 λy H2=>r x y H2 Q
def XQ(r:V->Hp->VK->Prop)(ta:TE):TE:=λσ H Q=>ta σ H λx H1=>r x H1 Q
def rI(C:Int->Int->Prop)(g:Int->Int->V):R2:=λx y H Q=>∃i j,x=.int i/\y=.int j/\C i j/\Q (g i j) H
def HZ(g:Int->Int->V):R2:=λx y H Q=>∃i j,x=.int i/\y=.int j/\Q (g i j) H
def rU(g:Int->V):V->Hp->VK->Prop:=λx H Q=>∃i,x=.int i/\Q (g i) H
section
variable{X:Cx}{a b c:Expr}{ta tb tc:TE}{pos:Pos}
theorem KP(ha:PE X a ta)(hb:PE X b tb){pins:List 'f'}{s:Shared}{σ:St}{H:Hp}{R:V->V->Hp->Prop}(I:Inv X pins σ H s)(h:ta σ H λx H1=>tb σ H1 λy H2=>R x y H2){Q:Value->Shared->Prop}{f:Value->Value->Sem Value}(hf:∀v u s2 x y H2,Inv X pins σ H2 s2->RelV x v->RelV y u->R x y H2->wpAny 'd' X.A (f v u) Q X.xe s2):wpAny 'd' X.A (eval a X.env) (λv s₁=>wpAny 'd' X.A (eval b X.env) (λu s₂=>wpAny 'd' X.A (f v u) Q X.xe s₂) X.xe s₁) X.xe s:=by
 refine cC (ha pins s σ H _ I h) λv s1 ⟨x,H1,I1,r1,q1⟩=>?_
 refine cC (hb pins s1 σ H1 _ I1 q1) λu s2 ⟨y,H2,I2,r2,q2⟩=>?_
 exact hf v u s2 x y H2 I2 r1 r2 q2
theorem aI{op:Operator}{r:R2}(ho:mG X (binaryOp op) r)(ha:PE X a ta)(hb:PE X b tb):PE X (.BinOp a op b pos) (HK r ta tb):=by
 intro pins s σ H Q I h
 exact wpAny_BinOp (KP ha hb I h λv u s2 x y H2 I2 rx ry q=>ho pins s2 σ H2 x y v u Q I2 rx ry q)
theorem Fv{op:UnaryOp}{r:V->Hp->VK->Prop}(ho:QN X (unaryOp op) r)(ha:PE X a ta):PE X (.UnaryOp op a pos) (XQ r ta):=by
 intro pins s σ H Q I h
 exact UnaryOp_ (cC (ha pins s σ H _ I h) λv s1 ⟨x,H1,I1,r1,q1⟩=>ho pins s1 σ H1 x v Q I1 r1 q1)
theorem P6{f:Value->Value->Sem Value}{C:Int->Int->Prop}{g:Int->Int->Int}(rule:∀(i j:Int)(t u:Tok)(s:Shared)(Q:Value->Shared->Prop)(E:Value->Shared->Prop),C i j->Q (.int (g i j) s.toks) {s with toks:=s.toks+1}->wpAny 'd' X.A (f (.int i t) (.int j u)) Q E s):mG X f (rI C λi j=>.int (g i j)):=by
 intro pins s σ H x y v u Q I rx ry h
 obtain⟨i,j,rfl,rfl,hc,q⟩:=h
 obtain⟨t,rfl⟩:=rx
 obtain⟨t',rfl⟩:=ry
 exact rule i j t t' s _ _ hc ⟨.int (g i j),H,I.tok _,⟨_,rfl⟩,q⟩
theorem Nv{f:Value->Value->Sem Value}{g:Int->Int->Int}(rule:∀(i j:Int)(t u:Tok)(s:Shared)(Q:Value->Shared->Prop)(E:Value->Shared->Prop),Q (.int (g i j) s.toks) {s with toks:=s.toks+1}->wpAny 'd' X.A (f (.int i t) (.int j u)) Q E s):mG X f (HZ λi j=>.int (g i j)):=by
 intro pins s σ H x y v u Q I rx ry h
 obtain⟨i,j,rfl,rfl,q⟩:=h
 obtain⟨t,rfl⟩:=rx
 obtain⟨t',rfl⟩:=ry
 exact rule i j t t' s _ _ ⟨.int (g i j),H,I.tok _,⟨_,rfl⟩,q⟩
theorem Ia{f:Value->Value->Sem Value}{g:Int->Int->Bool}(rule:∀(i j:Int)(t u:Tok)(s:Shared)(Q:Value->Shared->Prop)(E:Value->Shared->Prop),Q (.bool (g i j)) s->wpAny 'd' X.A (f (.int i t) (.int j u)) Q E s):mG X f (HZ λi j=>.bl (g i j)):=by
 intro pins s σ H x y v u Q I rx ry h
 obtain⟨i,j,rfl,rfl,q⟩:=h
 obtain⟨t,rfl⟩:=rx
 obtain⟨t',rfl⟩:=ry
 exact rule i j t t' s _ _ ⟨.bl (g i j),H,I,rfl,q⟩
def QO(i j:Int):Prop:=0<j/\j<1073741824
def Nx(i j:Int):Prop:=0<=j/\j<=1000000/\i.natAbs<2 ^ 64
def Ib(i j:Int):Prop:=(-(2 ^ 64)<i/\i<2 ^ 64)\/(-(2 ^ 64)<j/\j<2 ^ 64)
theorem Ib.ok{i j:Int}(h:Ib i j):IntMulOk i j:=by
 rcases h with ⟨h1,h2⟩|⟨h1,h2⟩
 ·exact .of_left (intBits_le_64 h1 h2)
 ·exact .of_right (intBits_le_64 h1 h2)
theorem cP:mG X (binaryOp .Add) (HZ λi j=>.int (i+j)):=Nv λ_ _ _ _ _ _ _ q=>add_int q
theorem uM:mG X (binaryOp .Sub) (HZ λi j=>.int (i-j)):=Nv λ_ _ _ _ _ _ _ q=>sub_int q
theorem gK:mG X (binaryOp .Mult) (rI Ib λi j=>.int (i*j)):=P6 λ_ _ _ _ _ _ _ hc q=>mul_int q hc.ok
theorem cJ:mG X (binaryOp .FloorDiv) (rI QO λi j=>.int (i / j)):=P6 λi j _ _ _ _ _ hc q=>by
 have h1:(0:Int)<j:=hc.1
 have h2:j<1073741824:=hc.2
 exact floordiv_int 'c' (by rw[Int.fdiv_eq_ediv_of_nonneg i 'c'];exact q) (.inl (PyProof.noPylong_small 'c'))
theorem bI:mG X (binaryOp .Mod) (rI (λ_ j=>0<j) λi j=>.int (i % j)):=P6 λi j _ _ _ _ _ hc q=>by
 have h1:(0:Int)<j:=hc
 exact mod_int' 'c' (by rw[Int.fmod_eq_emod_of_nonneg i 'c'];exact q)
theorem yo:mG X (binaryOp .Pow) (rI Nx λi j=>.int (i ^ j.toNat)):=P6 λ_ _ _ _ _ _ _ hc q=>pow_int_small hc.1 hc.2.1 hc.2.2 q
theorem XR{f:Value->Sem Value}{g:Int->Int}(rule:∀(i:Int)(t:Tok)(s:Shared)(Q:Value->Shared->Prop)(E:Value->Shared->Prop),Q (.int (g i) s.toks) {s with toks:=s.toks+1}->wpAny 'd' X.A (f (.int i t)) Q E s):QN X f (rU λi=>.int (g i)):=by
 intro pins s σ H x v Q I rx h
 obtain⟨i,rfl,q⟩:=h
 obtain⟨t,rfl⟩:=rx
 exact rule i t s _ _ ⟨.int (g i),H,I.tok _,⟨_,rfl⟩,q⟩
theorem BK:QN X (unaryOp .USub) (rU λi=>.int (-i)):=XR λ_ _ _ _ _ q=>neg_int q
end
def Ny:V->V->Bool
 | .non,.non=>true | .non,.int _=>true | .int _,.non=>true | .non,.bl _=>true | .bl _,.non=>true | .non,.str _=>true | .str _,.non=>true
 | .int _,.int _=>true | .bl _,.bl _=>true | .str _,.str _=>true | .E4 _,.E4 _=>true
 | .int _,.str _=>true | .str _,.int _=>true | .bl _,.str _=>true | .str _,.bl _=>true
 |_,_=>false
def XS:R2:=λx y H Q=>Ny x y=true/\Q (.bl (decide (x=y))) H
def XT:R2:=λx y H Q=>Ny x y=true/\Q (.bl (!decide (x=y))) H
theorem C9{i j:Int}:decide (V.int i=V.int j)=(i==j):=by
 rw[aa2]
 simp
theorem Fw{i j:Bool}:decide (V.bl i=V.bl j)=(i==j):=by
 rw[aa2]
 simp
theorem Dc{i j:Str}:decide (V.str i=V.str j)=(i==j):=by
 rw[aa2]
 simp
theorem Dd{i j:Array UInt8}:decide (V.E4 i=V.E4 j)=(i.toList==j.toList):=by
 rw[aa2]
 cases i
 cases j
 simp
section
variable{X:Cx}{a b c:Expr}{ta tb tc:TE}{pos:Pos}
theorem br{pins:List 'f'}{σ:St}{H:Hp}{s:Shared}{Q:VK}{k k':Bool}(I:Inv X pins σ H s)(q:Q (.bl k) H)(e:k=k'):EP X pins σ Q (.bool k') s:=by
 subst e
 exact⟨.bl k,H,I,O,q⟩
theorem aP:mG X (compareOp .Eq) XS:=by
 intro pins s σ H x y v u Q I rx ry h
 obtain⟨hs,q⟩:=h
 cases x with
 |non =>
  cases rx
  cases y with
  |non=>cases ry;exact PySem.EqNone.eq_none_none (br I q (by simp))
  |bl j=>cases ry;exact PySem.EqNone.eq_none_bool (br I q (by simp))
  |int j=>obtain⟨t',rfl⟩:=ry;exact PySem.EqNone.eq_none_int (br I q (by simp))
  |str j=>obtain⟨t',rfl⟩:=ry;exact PySem.EqNone.eq_none_str (br I q (by simp))
  |_=>exact absurd (show false=true from hs) aaC
 |bl i =>
  cases rx
  cases y with
  |non=>cases ry;exact PySem.EqNone.eq_bool_none (br I q (by simp))
  |bl j=>cases ry;exact eq_bool (br I q Fw)
  |str j=>obtain⟨t',rfl⟩:=ry;exact PySem.EqMixed.eq_bool_str (br I q (by simp))
  |_=>exact absurd (show false=true from hs) aaC
 |int i =>
  obtain⟨t,rfl⟩:=rx
  cases y with
  |non=>cases ry;exact PySem.EqNone.eq_int_none (br I q (by simp))
  |int j=>obtain⟨t',rfl⟩:=ry;exact eq_int (br I q C9)
  |str j=>obtain⟨t',rfl⟩:=ry;exact PySem.EqMixed.eq_int_str (br I q (by simp))
  |_=>exact absurd (show false=true from hs) aaC
 |str i =>
  obtain⟨t,rfl⟩:=rx
  cases y with
  |non=>cases ry;exact PySem.EqNone.eq_str_none (br I q (by simp))
  |bl j=>cases ry;exact PySem.EqMixed.eq_str_bool (br I q (by simp))
  |int j=>obtain⟨t',rfl⟩:=ry;exact PySem.EqMixed.eq_str_int (br I q (by simp))
  |str j=>obtain⟨t',rfl⟩:=ry;exact eq_str (br I q Dc)
  |_=>exact absurd (show false=true from hs) aaC
 |E4 i =>
  obtain⟨t,rfl⟩:=rx
  cases y with
  |E4 j=>obtain⟨t',rfl⟩:=ry;exact W.eq_bytes (br I q Dd)
  |_=>exact absurd (show false=true from hs) aaC
 |_=>cases y<;>exact absurd (show false=true from hs) aaC
theorem ki:mG X (compareOp .NotEq) XT:=by
 intro pins s σ H x y v u Q I rx ry h
 obtain⟨hs,q⟩:=h
 cases x with
 |non =>
  cases rx
  cases y with
  |non=>cases ry;exact PySem.EqNone.ne_none_none (br I q (by simp))
  |bl j=>cases ry;exact PySem.EqNone.ne_none_bool (br I q (by simp))
  |int j=>obtain⟨t',rfl⟩:=ry;exact PySem.EqNone.ne_none_int (br I q (by simp))
  |str j=>obtain⟨t',rfl⟩:=ry;exact PySem.EqNone.ne_none_str (br I q (by simp))
  |_=>exact absurd (show false=true from hs) aaC
 |bl i =>
  cases rx
  cases y with
  |non=>cases ry;exact PySem.EqNone.ne_bool_none (br I q (by simp))
  |bl j=>cases ry;exact ne_bool (br I q (congrArg not Fw))
  |str j=>obtain⟨t',rfl⟩:=ry;exact PySem.EqMixed.ne_bool_str (br I q (by simp))
  |_=>exact absurd (show false=true from hs) aaC
 |int i =>
  obtain⟨t,rfl⟩:=rx
  cases y with
  |non=>cases ry;exact PySem.EqNone.ne_int_none (br I q (by simp))
  |int j=>obtain⟨t',rfl⟩:=ry;exact ne_int (br I q (congrArg not C9))
  |str j=>obtain⟨t',rfl⟩:=ry;exact PySem.EqMixed.ne_int_str (br I q (by simp))
  |_=>exact absurd (show false=true from hs) aaC
 |str i =>
  obtain⟨t,rfl⟩:=rx
  cases y with
  |non=>cases ry;exact PySem.EqNone.ne_str_none (br I q (by simp))
  |bl j=>cases ry;exact PySem.EqMixed.ne_str_bool (br I q (by simp))
  |int j=>obtain⟨t',rfl⟩:=ry;exact PySem.EqMixed.ne_str_int (br I q (by simp))
  |str j=>obtain⟨t',rfl⟩:=ry;exact ne_str (br I q (congrArg not Dc))
  |_=>exact absurd (show false=true from hs) aaC
 |E4 i =>
  obtain⟨t,rfl⟩:=rx
  cases y with
  |E4 j=>obtain⟨t',rfl⟩:=ry;exact W.ne_bytes (br I q (congrArg not Dd))
  |_=>exact absurd (show false=true from hs) aaC
 |_=>cases y<;>exact absurd (show false=true from hs) aaC
theorem m9:mG X (compareOp .Lt) (HZ λi j=>.bl (decide (i<j))):=Ia λ_ _ _ _ _ _ _ q=>lt_int q
theorem Nz:mG X (compareOp .LtE) (HZ λi j=>.bl (decide (i<=j))):=Ia λ_ _ _ _ _ _ _ q=>le_int q
theorem sj:mG X (compareOp .Gt) (HZ λi j=>.bl (decide (j<i))):=Ia λ_ _ _ _ _ _ _ q=>gt_int q
theorem JV:mG X (compareOp .GtE) (HZ λi j=>.bl (decide (j<=i))):=Ia λ_ _ _ _ _ _ _ q=>ge_int q
theorem bQ:mG X (compareOp .In) (λx y H Q=>∃i j,x=.str i/\y=.str j/\Q (.bl (!(Builtin.Str.occurrences j i 0 j.length 1).isEmpty)) H):=by
 intro pins s σ H x y v u Q I rx ry h
 obtain⟨i,j,rfl,rfl,q⟩:=h
 obtain⟨t,rfl⟩:=rx
 obtain⟨t',rfl⟩:=ry
 exact in_str (br I q rfl)
theorem uN:mG X (compareOp .Is) (λx y H Q=>y=.non/\Q (.bl (decide (x=.non))) H):=by
 intro pins s σ H x y v u Q I rx ry h
 obtain⟨rfl,q⟩:=h
 cases ry
 refine is_none_gen (br I q ?_)
 cases x<;>first
  | (cases rx;rfl)
  | (obtain⟨t,rfl⟩:=rx;rfl)
theorem Ic:mG X (compareOp .IsNot) (λx y H Q=>y=.non/\Q (.bl (!decide (x=.non))) H):=by
 intro pins s σ H x y v u Q I rx ry h
 obtain⟨rfl,q⟩:=h
 cases ry
 refine isnot_none_gen (br I q ?_)
 cases x<;>first
  | (cases rx;rfl)
  | (obtain⟨t,rfl⟩:=rx;rfl)
theorem Fx(b:Expr){op:CmpOp}(h:op≠.In:=by decide)(h2:op≠.NotIn:=by decide):behindInMarks op b=false:=by
 have e1:(op==CmpOp.In)=false:=by cases op<;>first|rfl|exact absurd rfl h
 have e2:(op==CmpOp.NotIn)=false:=by cases op<;>first|rfl|exact absurd rfl h2
 cases b<;>simp[behindInMarks,e1,e2]
theorem Ie{op:CmpOp}{r:R2}(ho:mG X (compareOp op) r)(ha:PE X a ta)(hb:PE X b tb)(hm:behindInMarks op b=false):PE X (.Compare a [op] [b] pos) (HK r ta tb):=by
 intro pins s σ H Q I h
 exact wpAny_Compare1 (KP ha hb I h λv u s2 x y H2 I2 rx ry q=>ho pins s2 σ H2 x y v u Q I2 rx ry q) hm
def JW(t:TE):TT:=λσ H Q=>t σ H λx H'=>∃k,x=.bl k/\Q k H'
theorem cz{op:CmpOp}{r:R2}(ho:mG X (compareOp op) r)(ha:PE X a ta)(hb:PE X b tb)(hm:behindInMarks op b=false):PT X (.Compare a [op] [b] pos) (JW (HK r ta tb)):=by
 intro pins s σ H Q I h
 refine wpAny_isTrue_Compare1 (cC (ha pins s σ H _ I h) λv s1 ⟨x,H1,I1,r1,q1⟩=>cC (hb pins s1 σ H1 _ I1 q1) λu s2 ⟨y,H2,I2,r2,q2⟩ =>
  cC (ho pins s2 σ H2 x y v u _ I2 r1 r2 q2) λc s3 ⟨z,H3,I3,r3,k,e,q3⟩=>?_) hm
 subst e
 cases r3
 exact abu ⟨H3,I3,q3⟩
theorem qM:(sizeLine:Nat)<2 ^ 63:=by rw[sizeLine_eq];decide
theorem dz:mG X (binaryOp .Add) (λx y H Q=>∃i j,x=.str i/\y=.str j/\i.length+j.length<=sizeLine/\Q (.str (i++j)) H):=by
 intro pins s σ H x y v u Q I rx ry h
 obtain⟨i,j,rfl,rfl,hz,q⟩:=h
 obtain⟨t,rfl⟩:=rx
 obtain⟨t',rfl⟩:=ry
 exact add_str (λt' tk=>⟨.str (i++j),H,I.tok _,⟨_,rfl⟩,q⟩) hz
theorem vals1{x:V}{us:List Value}(r:Vals [x] us):∃u,us=[u]/\RelV x u:=by
 cases r with
 |cons r1 r2=>cases r2;exact⟨_,rfl,r1⟩
theorem vals2{x y:V}{us:List Value}(r:Vals [x,y] us):∃u w',us=[u,w']/\RelV x u/\RelV y w':=by
 cases r with
 |cons r1 r2 =>
  cases r2 with
  |cons r3 r4=>cases r4;exact⟨_,_,rfl,r1,r3⟩
theorem DY(hc:X.calm=true):dw X (.builtin "max") (λxs H Q=>∃i j,xs=[.int i,.int j]/\Q (.int (if j>i then j else i)) H):=by
 intro pins s σ H xs us Q I r h
 obtain⟨i,j,rfl,q⟩:=h
 obtain⟨u,w',rfl,⟨t,rfl⟩,⟨t',rfl⟩⟩:=vals2 r
 refine max_two_ints (I.ok.hd hc) λh' tk k=>⟨_,H,I.kept k,?_,q⟩
 by_cases hj:j>i
 ·rw[aal hj,aal hj];exact⟨_,rfl⟩
 ·rw[aah hj,aah hj];exact⟨_,rfl⟩
theorem qN:dw X (.type "int") (λxs H Q=>(∃i,xs=[.int i]/\Q (.int i) H)\/∃k,xs=[.bl k]/\Q (.int (if k then 1 else 0)) H):=by
 intro pins s σ H xs us Q I r h
 rcases h with ⟨i,rfl,q⟩|⟨k,rfl,q⟩
 ·obtain⟨u,rfl,t,rfl⟩:=vals1 r
  exact call_int_int ⟨.int i,H,I,⟨_,rfl⟩,q⟩
 ·obtain⟨u,rfl,r1⟩:=vals1 r
  cases r1
  exact call_int_bool ⟨.int (if k then 1 else 0),H,I.tok _,⟨_,rfl⟩,q⟩
theorem Fy:dw X (.builtin "ord") (λxs H Q=>∃x,xs=[.str x]/\x.length=1/\Q (.int (x.cps.getD 0 0:Nat)) H):=by
 intro pins s σ H xs us Q I r h
 obtain⟨x,rfl,hz,q⟩:=h
 obtain⟨u,rfl,t,rfl⟩:=vals1 r
 exact ord_of_one hz ⟨.int _,H,I.tok _,⟨_,rfl⟩,q⟩
end
structure BL(h:Heap)(x dx C:Addr)(mA:Str->Option Value):Prop where
 obj:h.get? x=some (W.instObj C dx)
 ns:h.Ns1 dx mA
 ne:dx≠x
theorem DZ{h:Heap}{dx:Addr}{mA:Str->Option Value}(n:h.Ns1 dx mA):∃od,h.get? dx=some od/\∀name,W.lookIn name od=some (mA name):=by
 obtain⟨o,es,ep,ho,hd,hk,_,hm⟩:=n
 refine⟨o,ho,λname=>?_⟩
 have e:=hm name
 unfold nsFind findBy at e
 rw[←Array.find?_toList]at e
 unfold W.lookIn
 rw[hd]
 dsimp only
 split
 ·rename_i y q
  rw[q]at e
  exact congrArg some e
 ·rename_i q
  rw[q]at e
  have a:es.toList.any (·.refKey)=false:=by
   rw[List.any_eq_false]
   intro y hy
   obtain⟨z,t,hkey⟩:=hk y (Array.mem_toList_iff.mp hy)
   simp[DictEntry.refKey,hkey]
  have a':¬es.toList.any (·.refKey)=true:=by rw[a];exact aaC
  rw[aah a']
  exact congrArg some e
theorem BL.look{h:Heap}{x dx C:Addr}{mA:Str->Option Value}(I:BL h x dx C mA):∃od,W.InstAt h x (W.instObj C dx) C (some od)/\∀name,W.lookIn name od=some (mA name) :=
 let ⟨od,ho,hl⟩:=DZ I.ns
 ⟨od,⟨I.obj,rfl,rfl,ho⟩,hl⟩
section
variable{prog:Program}{w:World}{A:Around}{E:Value->Shared->Prop}{s:Shared}{K:W.Frag}{x dx C f:Addr}{mA:Str->Option Value}{name:Str}{v:Value}
theorem get_map{expr:Bool}{Q:Value->Shared->Prop}(X:K.In s.heap)(I:BL s.heap x dx C mA)(hg:W.plainGet K C name=true)(hh:W.hasDictIn K C=true)(ha:W.findIn K (.ref C) name=some none)(hv:mA name=some v)(hv':W.handedIn v=true)(h:Q v {s with toks:=s.toks+1}):wpAny (model prog w) A (getAttr (.ref x) name expr) Q E s:=by
 obtain⟨od,J,hl⟩:=I.look
 exact W.get_value X J (W.plainGet_of hg).1 (W.findObj_own hh ha rfl (by rw[hl,hv])) hv' h
theorem Fz{pl:Sem Bool}{Q:Value×List Value->Shared->Prop}(X:K.In s.heap)(I:BL s.heap x dx C mA)(hg:W.plainGet K C name=true)(hf:W.findIn K (.ref C) name=some (some (.ref f)))(ht:W.isFn K (.ref f)=true)(hv:mA name=none)(h:Q (.ref f,[.ref x]) s):wpAny (model prog w) A (getMethod (.ref x) name pl) Q E s:=by
 obtain⟨od,J,hl⟩:=I.look
 exact W.method_fn X J (W.plainGet_of hg).1 (W.plainGet_of hg).2 hf (beq_iff_eq.mp ht) (by show(W.lookIn name od).map (·.isSome)=some false;rw[hl,hv];rfl) h
theorem Ig{ns:List Str}{Q:Unit->Shared->Prop}(X:K.In s.heap)(I:BL s.heap x dx C mA)(hs:W.findIn K (.ref C) "__setattr__"=some (some (.builtin "object.__setattr__")))(hp:W.plainOver K C=true)(ht:W.takerIn K C name=some none)(hh:W.hasDictIn K C=true)(hw:PySem.Within mA ns)(hsz:ns.length<=sizeLine)(h:∀h',BL h' x dx C (λy=>if y=name then some v else mA y)->Heap.SameBut dx s.heap h'->Q () {s with heap:=h',toks:=s.toks+2}):wpAny (model prog w) A (setAttr (.ref x) name v) Q E s:=by
 obtain⟨od,J,hl⟩:=I.look
 refine W.set_plain X J hs (W.osa_open (s:={s with toks:=s.toks+1}) (r:=none) X J hp ht λb=>?_)
 obtain⟨cd,hc,hd'⟩:=W.any_some hh
 have hx:s.heap.get? x=some ⟨.ref C,some dx,.plain,#[]⟩:=I.obj
 refine aai (aaB (aai (aai (wpAny_loadPart hx (aai (W.Looks.here (s:={s with toks:=s.toks+1}) (W.looks_clsIn X hc) ?_))))))
 rw[hd']
 refine aaB (a:=some dx) (aai (aaB (aai ?_)))
 refine wpAny_nsSet1 (s:={s with toks:=s.toks+1}) I.ns λh' hn2 hs2=>?_
 obtain⟨oD,esD,XU,QS,QT,QU⟩:=hn2.count (PySem.Within.cons name v hw)
 refine aai (wpAny_lookBehind QS (by rw[QT];exact pastItsLine_dict (aaz QU (by rw[aaR];omega))) ?_)
 exact aaB (h _ ⟨(hs2.2 _ (abm I.ne)).trans I.obj,hn2,I.ne⟩ hs2)
theorem FA{R:Result->Shared->Prop}{vs:List Value}{kw:List (Str×Value)}(X:K.In s.heap)(hm:W.makesIn K C=true)(hi:W.findIn K (.ref C) "__init__"=some (some (.ref f)))(hf:W.typeIn K (.ref f)=some (.type "function"))(h:codeAny (model prog w) (A.under (.builtin "type.__call__" ⟨.ref C::vs,kw⟩)) (.call (.ref f) ⟨.ref (s.heap.objs.size+1)::vs,kw⟩) (W.InitBack (s.heap.objs.size+1) R)
   {s with heap:=(s.heap.push W.emptyDict).push (W.instObj C s.heap.objs.size)}):codeAny (model prog w) A (.call (.ref C) ⟨vs,kw⟩) R s:=by
 obtain⟨hh,g,d,t,os⟩:=s
 exact W.make_core (W.makes_of X hm) (W.looks_findIn X hi) (λself=>W.bind_fn X self hf) (.inl rfl) h
end
def mT(f:Str)(v:V):List (Str×V)->List (Str×V)
 |[]=>[(f,v)]
 | (g,x)::r=>if g=f then (g,v)::r else (g,x)::mT f v r
theorem sq(f g:Str)(v:V):∀fs:List (Str×V),(mT f v fs).lookup g=if g=f then some v else fs.lookup g
 |[]=>by
  show List.lookup g [(f,v)]=_
  by_cases h:g=f
  ·have hb:(g==f)=true:=beq_iff_eq.mpr h
   simp only[List.lookup,hb,aal h]
  ·have hb:(g==f)=false:=beq_eq_false_iff_ne.mpr h
   simp only[List.lookup,hb,aah h]
 | (k,x)::r=>by
  have ih:=sq f g v r
  rw[show mT f v ((k,x)::r)=(if k=f then (k,v)::r else (k,x)::mT f v r) from rfl]
  by_cases hk:k=f
  ·rw[aal hk]
   by_cases h:g=k
   ·have hb:(g==k)=true:=beq_iff_eq.mpr h
    simp only[List.lookup,hb,aal (h.trans hk)]
   ·have hb:(g==k)=false:=beq_eq_false_iff_ne.mpr h
    simp only[List.lookup,hb,aah (λe:g=f=>h (e.trans hk.symm))]
  ·rw[aah hk]
   by_cases h:g=k
   ·have hb:(g==k)=true:=beq_iff_eq.mpr h
    simp only[List.lookup,hb,aah (λe:g=f=>hk (h.symm.trans e))]
   ·have hb:(g==k)=false:=beq_eq_false_iff_ne.mpr h
    simp only[List.lookup,hb]
    exact ih
theorem qO(f:Str)(v:V):∀fs:List (Str×V),f∈(mT f v fs).map (·.1)/\∀g,g∈fs.map (·.1)->g∈(mT f v fs).map (·.1)
 |[]=>⟨by simp[mT],λg h=>by simp at h⟩
 | (k,x)::r=>by
  obtain⟨i1,i2⟩:=qO f v r
  rw[show mT f v ((k,x)::r)=(if k=f then (k,v)::r else (k,x)::mT f v r) from rfl]
  by_cases hk:k=f
  ·rw[aal hk]
   subst hk
   exact⟨by simp,λg h=>by simpa using h⟩
  ·rw[aah hk]
   refine⟨?_,λg h=>?_⟩
   ·rw[abi]
    exact aaq _ i1
   ·rw[abi]at h⊢
    rcases aas.mp h with e|e
    ·exact aas.mpr (.inl e)
    ·exact aaq _ (i2 g e)
theorem sr(f:Str)(v:V):∀fs:List (Str×V),(mT f v fs).length<=fs.length+1
 |[]=>by simp[mT]
 | (k,x)::r=>by
  have ih:=sr f v r
  rw[show mT f v ((k,x)::r)=(if k=f then (k,v)::r else (k,x)::mT f v r) from rfl]
  by_cases hk:k=f
  ·rw[aal hk,aaR,aaR];omega
  ·rw[aah hk,aaR,aaR];omega
theorem qH.some_of{v:V}{o:Option Value}(r:qH (some v) o):∃u,o=some u/\RelV v u:=by
 cases o with
 |none=>exact(show False from r).elim
 |some u=>exact⟨u,rfl,r⟩
theorem qH.none_of{o:Option Value}(r:qH none o):o=none:=by
 cases o with
 |none=>rfl
 |some u=>exact(show False from r).elim
theorem D0{v:V}{u:Value}(r:RelV v u):W.handedIn u=true:=by
 cases v with
 |non=>cases(show u=Value.none from r);rfl
 |bl b=>cases(show u=Value.bool b from r);rfl
 |int i=>obtain⟨t,e⟩:=(show ∃t,u=Value.int i t from r);cases e;rfl
 |str x=>obtain⟨t,e⟩:=(show ∃t,u=Value.str x t from r);cases e;rfl
 |E4 b=>obtain⟨t,e⟩:=(show ∃t,u=Value.bytes b t from r);cases e;rfl
 |qG b=>obtain⟨t,e⟩:=(show ∃t,u=Value.float b t from r);cases e;rfl
 |ref a=>cases(show u=Value.ref a from r);rfl
 |ty n=>cases(show u=Value.type n from r);rfl
section
variable{P:Program}{w:World}{H H':Hp}{h h':Heap}{a C dx:Addr}{fs fs':List (Str×V)}
theorem uC(hok:qI P w H h)(e:H a=some (.ins C dx fs)):∃mA,BL h a dx C mA/\(∀f,qH (fs.lookup f) (mA f))/\PySem.Within mA (fs.map (·.1))/\fs.length<=1000/\H dx=some (.own a):=by
 obtain⟨d,z,ne,ob,mA,n,r,q⟩:=(show cY P w H h a (.ins C dx fs) from hok a _ e)
 exact⟨mA,⟨ob,n,ne⟩,r,q,z,d⟩
end
structure E7(K:W.Frag)(C:Addr):Prop where
 pg:W.plainGet K C Str.empty=true
 hd:W.hasDictIn K C=true
 po:W.plainOver K C=true
 sa:W.findIn K (.ref C) "__setattr__"=some (some (.builtin "object.__setattr__"))
theorem E7.get{K:W.Frag}{C:Addr}(c:E7 K C)(f:Str):W.plainGet K C f=true:=c.pg
def eX(K:W.Frag)(C:Addr)(f:Str):Prop:=W.findIn K (.ref C) f=some none
theorem eX.NB{K:W.Frag}{C:Addr}{f:Str}(n:eX K C f):W.takerIn K C f=some none:=by
 unfold W.takerIn
 rw[show W.findIn K (.ref C) f=some none from n]
 rfl
structure Meth(K:W.Frag)(C:Addr)(m:Str)(f:Addr):Prop where
 at_:W.findIn K (.ref C) m=some (some (.ref f))
 fn:W.isFn K (.ref f)=true
 kp:W.keepIn K (.ref f)=true
section
variable{X:Cx}{pins:List 'f'}{σ:St}{H:Hp}{s:Shared}{a C dx:Addr}{fs:List (Str×V)}{f:Str}{v:V}{A:Around}{E:Value->Shared->Prop}
theorem BN{b:Bool}{Q:Value->Shared->Prop}(I:Inv X pins σ H s)(e:H a=some (.ins C dx fs))(c:E7 X.K C)(n:eX X.K C f)(l:fs.lookup f=some v)(h:∀u s',Inv X pins σ H s'->RelV v u->Q u s'):wpAny 'd' A (getAttr (.ref a) f b) Q E s:=by
 obtain⟨mA,O,r,_,_,_⟩:=uC I.hok e
 obtain⟨u,hu,ru⟩:=qH.some_of (v:=v) (o:=mA f) (by rw[←l];exact r f)
 exact get_map I.kN O (c.get f) c.hd n hu (D0 ru) (h u _ (I.tok _) ru)
theorem uO{m:Str}{g:Addr}{pl:Sem Bool}{Q:Value×List Value->Shared->Prop}(I:Inv X pins σ H s)(e:H a=some (.ins C dx fs))(c:E7 X.K C)(k:Meth X.K C m g)(l:fs.lookup m=none)(h:Q (.ref g,[.ref a]) s):wpAny 'd' A (getMethod (.ref a) m pl) Q E s:=by
 obtain⟨mA,O,r,_,_,_⟩:=uC I.hok e
 have hn:mA m=none:=qH.none_of (by rw[←l];exact r m)
 exact Fz I.kN O (c.get m) k.at_ k.fn hn h
theorem BO{y:V}{u:Value}{Q:Unit->Shared->Prop}(I:Inv X pins σ H s)(e:H a=some (.ins C dx fs))(c:E7 X.K C)(n:eX X.K C f)(hl:fs.length<1000)(ry:RelV y u)(h:∀s',Inv X pins σ (upd H a (.ins C dx (mT f y fs))) s'->Q () s'):wpAny 'd' A (setAttr (.ref a) f u) Q E s:=by
 obtain⟨mA,O,r,wi,_,ho⟩:=uC I.hok e
 have hz:(fs.map (·.1)).length<=sizeLine:=by rw[aaj,sizeLine_eq];omega
 refine Ig I.kN O c.sa c.po n.NB c.hd wi hz λh' O' sb=>h _ ?_
 have hd:∃o,h'.get? dx=some o:=let ⟨o,_,_,e',_⟩:=O'.ns;⟨o,e'⟩
 refine I.write (x:=a) (e:=dx) (by rw[e];exact True.intro) (.inr ho) (λb q hb z=>(sb.2 b hb).trans z) hd ?_
 refine⟨by rw[aB O.ne];exact ho,?_,O.ne,O'.obj,_,O'.ns,λg=>?_,λg hg=>?_⟩
 ·have:=sr f y fs;omega
 ·show qH ((mT f y fs).lookup g) (if g=f then some u else mA g)
  rw[sq]
  by_cases q:g=f
  ·rw[aal q,aal q];exact ry
  ·rw[aah q,aah q];exact r g
 ·by_cases q:g=f
  ·rw[q];exact(qO f y fs).1
  ·refine(qO f y fs).2 g (wi g λz=>hg ?_)
   show(if g=f then some u else mA g)=none
   rw[aah q];exact z
theorem Inv.made(I:Inv X pins σ H s):Inv X pins σ (upd (upd H s.heap.objs.size (.own (s.heap.objs.size+1))) (s.heap.objs.size+1) (.ins C s.heap.objs.size []))
  {s with heap:=(s.heap.push W.emptyDict).push (W.instObj C s.heap.objs.size)}:=by
 have e1:(s.heap.push W.emptyDict).get? s.heap.objs.size=some W.emptyDict:=aaG s.heap rfl
 have e2:((s.heap.push W.emptyDict).push (W.instObj C s.heap.objs.size)).get? (s.heap.objs.size+1)=some (W.instObj C s.heap.objs.size):=by
  have:=aaG (s.heap.push W.emptyDict) (o:=W.instObj C s.heap.objs.size) rfl
  rwa [aa3]at this
 have e3:(s.heap.push W.emptyDict).Ns s.heap.objs.size (λ_=>none):=⟨W.emptyDict,#[],_,e1,rfl,(λe he=>absurd he (by simp)),λ_=>rfl⟩
 have I1:=I.laid (a:=s.heap.objs.size) (o:=.own (s.heap.objs.size+1)) (h':=s.heap.push W.emptyDict) (t':=s.toks) (λb u q=>aap _ q) (aao _) ⟨_,e1⟩
 refine I1.laid (a:=s.heap.objs.size+1) (o:=.ins C s.heap.objs.size []) (t':=s.toks) (λb u q=>aap _ q) (Nat.le_of_eq (aa3 _ _)) ?_
 have ne:s.heap.objs.size≠s.heap.objs.size+1:=aaS (Nat.lt_succ_self _)
 refine⟨by rw[aB ne,aj],aaZ _,ne,e2,λ_=>none,(Heap.Ns1.of_empty e3).at λo q=>aap _ q,λ_=>True.intro,λy hy=>absurd rfl hy⟩
theorem Ih{prog:Program}{w:World}{env:Env}{e:Expr}{f:Str}{pos:Pos}{s:Shared}{Q:Value->Shared->Prop}(hb:attributeBase e f env (eval e env)=eval e env)(h:wpAny (model prog w) A (eval e env) (λo s₁=>wpAny (model prog w) A (getAttr o f true) Q E s₁) E s):wpAny (model prog w) A (eval (.Attribute e f pos) env) Q E s :=
 Attribute_any_ h (by rw[arm_eval_Attribute,hb])
end
def NC(K:W.Frag)(ta:TE)(f:Str):TE:=λσ H Q=>ta σ H λx H1=>∃a C dx fs v,x=.ref a/\H1 a=some (.ins C dx fs)/\E7 K C/\eX K C f/\fs.lookup f=some v/\Q v H1
def QV(K:W.Frag)(ta tv:TE)(f:Str):TS:=λD σ H=>tv σ H λy H1=>ta σ H1 λx H2=>∃a C dx fs,x=.ref a/\H2 a=some (.ins C dx fs)/\E7 K C/\eX K C f/\fs.length<1000/\D.nx σ (upd H2 a (.ins C dx (mT f y fs)))
section
variable{X:Cx}{o e value:Expr}{f:Str}{pos pos' tpos:Pos}{ta tv:TE}
theorem KQ(he:PE X e ta)(hb:attributeBase e f X.env (eval e X.env)=eval e X.env):PE X (.Attribute e f pos) (NC X.K ta f):=by
 intro pins s σ H Q I h
 refine Ih hb (cC (he pins s σ H _ I h) λu s1 ⟨x,H1,I1,rx,a,C,dx,fs,v,ex,ea,c,n,l,q⟩=>?_)
 subst ex
 obtain rfl:u=Value.ref a:=rx
 exact BN I1 ea c n l λu' s2 I2 ru=>⟨v,H1,I2,ru,q⟩
theorem kX(ha:PE X o ta)(hv:PE X value tv)(hs:swapsWith value (some (.Attribute o f pos')) pos.line X.env=pure false):PS X (.Assign [.Attribute o f pos'] value pos) (QV X.K ta tv f):=by
 intro pins s σ H D I h
 refine plainObj_wpAny_Assign_Attribute (cC (hv pins s σ H _ I h) λu s1 ⟨y,H1,I1,ry,q⟩=>cC (ha pins s1 σ H1 _ I1 q) λov s2 ⟨x,H2,I2,rx,a,C,dx,fs,ex,ea,c,n,l,q2⟩=>?_) hs
 subst ex
 obtain rfl:ov=Value.ref a:=rx
 exact BO I2 ea c n l ry λs3 I3=>⟨σ,_,I3,q2⟩
end
section
variable{X:Cx}{pins:List 'f'}{σ:St}{H:Hp}{s:Shared}{A:Around}{E:Value->Shared->Prop}{Q:Value->Shared->Prop}{c:Value}{b:Bool}
inductive pq(K:W.Frag)(H:Hp):V->Value->Prop where
 |non:pq K H .non (.type "NoneType")
 |bl (x:Bool):pq K H (.bl x) (.type "bool")
 |int (i:Int):pq K H (.int i) (.type "int")
 |str (x:Str):pq K H (.str x) (.type "str")
 |qG (x:UInt64):pq K H (.qG x) (.type "float")
 |lst {a:Addr}{xs:List V} (e:H a=some (.lst xs)):pq K H (.ref a) (.type "list")
 |BG {a:Addr}{o:Obj}{xs:List V} (e:H a=some (.BG o (.lst xs))):pq K H (.ref a) (.type "list")
 |tup {a:Addr}{xs:List V} (e:H a=some (.tup xs)):pq K H (.ref a) (.type "tuple")
 |dK {a:Addr}{kvs:List (Key×V)} (e:H a=some (.dK kvs)):pq K H (.ref a) (.type "dict")
 |dT {a:Addr}{kvs:List (List Key×V)} (e:H a=some (.dT kvs)):pq K H (.ref a) (.type "dict")
 |ins {a C dx:Addr}{fs:List (Str×V)} (e:H a=some (.ins C dx fs)) (cl:E7 K C) (ha:W.findIn K (.ref C) "__class__"=some (some (.builtin "object.__class__")))
   (hn:W.specialIn K (.builtin "object.__class__") "__get__"=some (some (.builtin "getset_descriptor.__get__"))) (htk:W.takesIn K (.builtin "object.__class__")=some true)
   (hm:W.mroIn K C (.type "object")=some true):pq K H (.ref a) (.ref C)
theorem xH{x:V}{u t:Value}(I:Inv X pins σ H s)(rx:RelV x u)(ty:pq X.K H x t)(e:W.kitOne X.K t c=some b)(h:∀tk,Q (.bool b) {s with toks:=tk}):wpAny 'd' A (call (.builtin "isinstance") [u,c]) Q E s:=by
 cases ty with
 |non=>cases(show u=Value.none from rx);exact abv W.kitx_none I.kN True.intro e (λz=>nomatch z) h
 |bl y=>cases(show u=Value.bool y from rx);exact abv W.kitx_bool I.kN True.intro e (λz=>nomatch z) h
 |int i=>obtain⟨t,q⟩:=(show ∃t,u=Value.int i t from rx);cases q;exact abv W.kitx_int I.kN True.intro e (λz=>nomatch z) h
 |str y=>obtain⟨t,q⟩:=(show ∃t,u=Value.str y t from rx);cases q;exact abv W.kitx_str I.kN True.intro e (λz=>nomatch z) h
 |qG y=>obtain⟨t,q⟩:=(show ∃t,u=Value.float y t from rx);cases q;exact abv W.kitx_float I.kN True.intro e (λz=>nomatch z) h
 |@lst a xs ea =>
  cases(show u=Value.ref a from rx)
  obtain⟨_,_,n,_,h1⟩:=(show cY X.prog X.w H s.heap a (.lst xs) from I.hok a _ ea)
  exact abv W.kitx_list I.kN ⟨_,h1,rfl⟩ e (λz=>nomatch z) h
 |@BG a ob xs ea =>
  cases(show u=Value.ref a from rx)
  obtain⟨_,_,_,n,_,h1⟩:=(show cY X.prog X.w H s.heap a (.BG ob (.lst xs)) from I.hok a _ ea)
  exact abv W.kitx_list I.kN ⟨_,h1,rfl⟩ e (λz=>nomatch z) h
 |@tup a xs ea =>
  cases(show u=Value.ref a from rx)
  obtain⟨_,_,_,p⟩:=(show cY X.prog X.w H s.heap a (.tup xs) from I.hok a _ ea)
  obtain⟨o,h1,h2,_⟩:=p
  exact abv W.kitx_tuple I.kN ⟨o,h1,h2⟩ e (λz=>nomatch z) h
 |@dK a kvs ea =>
  cases(show u=Value.ref a from rx)
  obtain⟨_,_,vs,_,p⟩:=(show cY X.prog X.w H s.heap a (.dK kvs) from I.hok a _ ea)
  obtain⟨o,es,ep,h1,h2,_⟩:=p
  exact abv W.kitx_dict I.kN ⟨o,h1,h2.1⟩ e (λz=>nomatch z) h
 |@dT a kvs ea =>
  cases(show u=Value.ref a from rx)
  obtain⟨_,_,xs,_,o,es,ep,h1,h2,_⟩:=(show cY X.prog X.w H s.heap a (.dT kvs) from I.hok a _ ea)
  exact abv W.kitx_dict I.kN ⟨o,h1,h2.1⟩ e (λz=>nomatch z) h
 |@ins a C dx fs ea cl ha hn htk hm =>
  cases(show u=Value.ref a from rx)
  obtain⟨mA,O,_⟩:=uC I.hok ea
  obtain⟨od,J,_⟩:=O.look
  exact abv (W.kitx_own (cl.get _) cl.hd ha hn htk hm) I.kN J e (λz=>nomatch z) h
end
structure cM(k:Nat)(A:Around):Prop where
 hd:A.handled=none
 dp:A.depth+3*k+5<recursionLimit
 un:A.units+16*k+200<cLine
theorem cM.mono{j k:Nat}{A:Around}(r:cM k A)(h:j<=k):cM j A:=⟨r.hd,by have:=r.dp;omega,by have:=r.un;omega⟩
theorem cM.deeper{k:Nat}{A:Around}(r:cM (k+1) A)(env:Env):cM k (A.deeper env) :=
 ⟨r.hd,by have:=r.dp;show A.depth+1+3*k+5<_;omega,by have:=r.un;show A.units+3+16*k+200<_;omega⟩
theorem cM.in1{k:Nat}{A:Around}(r:cM (k+1) A):cM k A.in1 :=
 ⟨r.hd,by have:=r.dp;show A.depth+3*k+5<_;omega,by have:=r.un;show A.units+1+16*k+200<_;omega⟩
theorem BP{A:Around}{C:Addr}{us:List Value}{kw:List (Str×Value)}:(A.under (.builtin "type.__call__" ⟨.ref C::us,kw⟩)).depth=A.depth+1:=by
 first|rfl|simp[Around.under,Code.weight,Code.isCreation,Code.isGuard,Code.isCaller,Code.frames,Code.isFrame,guardIds]
theorem BQ{A:Around}{C:Addr}{us:List Value}{kw:List (Str×Value)}:(A.under (.builtin "type.__call__" ⟨.ref C::us,kw⟩)).units=A.units+1:=by
 first|rfl|simp[Around.under,Code.cUnits,Code.frames,Code.isFrame]
theorem cM.make{k:Nat}{A:Around}(r:cM (k+1) A)(C:Addr)(us:List Value)(kw:List (Str×Value)):cM k (A.under (.builtin "type.__call__" ⟨.ref C::us,kw⟩)) :=
 ⟨r.hd,by have:=r.dp;rw[BP];omega,by have:=r.un;rw[BQ];omega⟩
theorem cM.depth{k:Nat}{A:Around}(r:cM k A):A.depth<recursionLimit:=by have:=r.dp;omega
theorem cM.units{k:Nat}{A:Around}(r:cM k A):A.units+64<cLine:=by have:=r.un;omega
theorem cM.aO{k:Nat}{A:Around}(r:cM k A):A.units<cLine:=by have:=r.un;omega
def KR:TA:=λ_ H Q=>Q [] H
def FD(ta:TE)(tr:TA):TA:=λσ H Q=>ta σ H λx H1=>tr σ H1 λxs H2=>Q (x::xs) H2
section
variable{X:Cx}{e:Expr}{es:List Expr}{te:TE}{t:TA}{pos:Pos}
theorem ai:PA X [] KR:=λ_ _ _ _ H Q I h=>Calls.spliced_nil ⟨[],H,I,.nil,h⟩
theorem af(ha:PE X e te)(hr:PA X es t)(hs:starEach (e::es) X.env=(false,eval e X.env)::starEach es X.env:=by rfl):PA X (e::es) (FD te t):=by
 intro pos pins s σ H Q I h
 rw[hs]
 show wpAny _ _ (spliced ((false,eval e X.env)::backTo pos (starEach es X.env))) _ _ s
 refine Calls.spliced_cons (cC (ha pins s σ H _ I h) λu s1 ⟨x,H1,I1,r1,q1⟩=>?_)
 exact cC (hr pos pins s1 σ H1 _ I1 q1) λus s2 ⟨xs,H2,I2,r2,q2⟩=>⟨x::xs,H2,I2,.cons r1 r2,q2⟩
def QW(t:TA):TE:=λσ H Q=>t σ H λxs H1=>xs.length<=sizeLine/\∀p,H1 p=none->Q (.ref p) (upd H1 p (.tup xs))
def QX(t:TA):TE:=λσ H Q=>t σ H λxs H1=>xs.length<=sizeLine/\∀p,H1 p=none->Q (.ref p) (upd H1 p (.lst xs))
theorem aC{x1}(h:PA X es t):PE X (.Tuple es x1 pos) (QW t):=by
 intro pins s σ H Q I hq
 refine wpAny_Tuple_spliced (cC (h pos pins s σ H _ I hq) λus s1 ⟨xs,H1,I1,r,z,q⟩=>⟨by rw[←r.length];exact z,?_⟩)
 have hf:H1 s1.heap.objs.size=none:=I1.hok.fresh (aao _)
 refine⟨.ref s1.heap.objs.size,upd H1 s1.heap.objs.size (.tup xs),I1.laid (t':=s1.toks) (λb u e=>aap _ e) (aao _) ?_,rfl,q _ hf⟩
 exact⟨z,us,r,⟨_,aaG _ rfl,O,_,O⟩⟩
theorem bJ(h:PA X es t):PE X (.List es pos) (QX t):=by
 intro pins s σ H Q I hq
 refine wpAny_List_spliced (cC (h pos pins s σ H _ I hq) λus s1 ⟨xs,H1,I1,r,z,q⟩=>⟨by rw[←r.length];exact z,?_⟩)
 have hf:H1 s1.heap.objs.size=none:=I1.hok.fresh (aao _)
 refine⟨.ref s1.heap.objs.size,upd H1 s1.heap.objs.size (.lst xs),I1.laid (t':=s1.toks) (λb u e=>aap _ e) (aao _) ?_,rfl,q _ hf⟩
 exact⟨z,us,0,r,aaG _ rfl⟩
end
abbrev Sp:=List V->Hp->VK->XK->Prop
abbrev D3:=List Env->Hp->Shared->XK->Value->Shared->Prop
structure wc(P:Program)(w:World)(K:W.Frag)(mg:Str->Option Value)(base:Heap)(A:Around)(outer:List Env)(s:Shared)(H:Hp):Prop where
 frames:A.frames=some outer
 mod:Mod K mg base
 bs:∀b o,base.get? b=some o->s.heap.get? b=some o/\H b=none
 E6:base.objs.size<=s.heap.objs.size
 qJ:s.heap.FunFrames base outer
 JQ:∀b∈frs outer,H b=none
 hok:qI P w H s.heap
 bare:AllBare s.gens
def CE(outer:List Env)(P:Program)(w:World)(H:Hp)(s:Shared)(Q:VK)(u:Value)(s':Shared):Prop :=
 ∃v H',s'.os=s.os/\AllBare s'.gens/\Un (frs outer) [] H H' s.heap s'.heap/\qI P w H' s'.heap/\RelV v u/\Q v H'
def CR(CX:D3)(outer:List Env)(P:Program)(w:World)(H:Hp)(s:Shared)(Q:VK)(E:XK)(r:Result)(s':Shared):Prop :=
 match r with
 | .ok (.ret u)=>CE outer P w H s Q u s'
 | .ok _=>False
 | .error e=>CX outer H s E e s'
structure aW(P:Program)(w:World)(K:W.Frag)(mg:Str->Option Value)(base:Heap)(CX:D3)(k:Nat)(f:Addr)(fd:FuncData)(ps:List Str)(sp:Sp):Prop where
 len:∀vs H Q E,sp vs H Q E->vs.length=ps.length
 run:∀(A:Around)(outer:List Env)(s:Shared)(H:Hp)(args:Args)(us:List Value)(vs:List V)(Q:VK)(E:XK),cM k A->wc P w K mg base A outer s H->BindsTo s fd args (ps.zip us)->Vals vs us->sp vs H Q E->codeAny (model P w) A (.call (.ref f) args) (CR CX outer P w H s Q E) s
theorem wc.make{P:Program}{w:World}{K:W.Frag}{mg:Str->Option Value}{base:Heap}{A:Around}{outer:List Env}{s:Shared}{H:Hp}(e:wc P w K mg base A outer s H)(C:Addr)(us:List Value)(kw:List (Str×Value)):wc P w K mg base (A.under (.builtin "type.__call__" ⟨.ref C::us,kw⟩)) outer s H:=⟨by first|exact e.frames | (simpa [Around.under,Code.envs,Code.isFrame,pushEnvs]using e.frames),e.mod,e.bs,e.E6,e.qJ,e.JQ,e.hok,e.bare⟩
theorem wc.in1{P:Program}{w:World}{K:W.Frag}{mg:Str->Option Value}{base:Heap}{A:Around}{outer:List Env}{s:Shared}{H:Hp}(e:wc P w K mg base A outer s H):wc P w K mg base A.in1 outer s H:=⟨e.frames,e.mod,e.bs,e.E6,e.qJ,e.JQ,e.hok,e.bare⟩
section
variable{X:Cx}{pins:List 'f'}{σ:St}{H:Hp}{s s':Shared}
theorem Inv.KS(I:Inv X pins σ H s):wc X.prog X.w X.K X.mg X.base X.A X.stack s H :=
 ⟨I.ok.frames,I.ok.mod,I.bs,aaz I.ok.E6 I.sz,I.stack,I.uB,I.hok,I.bare⟩
theorem Inv.after{Q:VK}{u:Value}(I:Inv X pins σ H s)(h:CE X.stack X.prog X.w H s Q u s'):EP X pins σ Q u s':=by
 obtain⟨v,H',os,bare,un,hok,r,q⟩:=h
 obtain⟨hh,g,d,t,os'⟩:=s'
 obtain rfl:os'=s.os:=os
 exact⟨v,H',I.call (h':=hh) (g':=g) (d':=d) (t':=t) (ch:=[]) un hok bare (λb z=>absurd z (by simp)),r,q⟩
end
def FF(sp:Sp)(vW:List V)(E:XK)(t:TA):TE:=λσ H Q=>t σ H λvs H1=>sp (vs++vW) H1 Q E
def JX(C:Addr)(m:Str)(sp:Sp)(vW:List V)(E:XK)(ta:TE)(t:TA):TE:=λσ H Q=>ta σ H λx H1=>∃a dx fs,x=.ref a/\H1 a=some (.ins C dx fs)/\fs.lookup m=none/\t σ H1 λvs H2=>sp (x::(vs++vW)) H2 Q E
def NF(C:Addr)(sp:Sp)(vW:List V)(E:XK)(t:TA):TE:=λσ H Q=>t σ H λvs H1=>∀x dx,H1 x=none->H1 dx=none->dx≠x->sp (.ref x::(vs++vW)) (upd (upd H1 dx (.own x)) x (.ins C dx [])) (λv H2=>v=.non/\Q (.ref x) H2) E
def Binds(K:W.Frag)(fd:FuncData)(ps:List Str)(ds:List Value):Prop :=
 ∀(s:Shared)(us:List Value),K.In s.heap->(us++ds).length=ps.length->BindsTo s fd ⟨us,[]⟩ (ps.zip (us++ds))
theorem Binds.all{K:W.Frag}{fd:FuncData}{ps:List Str}(h:∀us:List Value,us.length=ps.length->bindArgs fd ⟨us,[]⟩=pure (ps.zip us)):Binds K fd ps []:=λs us _ hl=>by
 rw[abr]at hl⊢
 exact .of_eq (h us hl)
def Passes(CX:D3)(X:Cx)(E:XK):Prop:=∀(pins:List 'f')(σ:St)(H:Hp)(s:Shared)(e:Value)(s':Shared),Inv X pins σ H s->CX X.stack H s E e s'->X.xe e s'
section
variable{X:Cx}{CX:D3}{k:Nat}{f C:Addr}{fd:FuncData}{ps:List Str}{sp:Sp}{vW:List V}{ds:List Value}{E:XK}{x m:Str}{p pos apos:Pos}{e o:Expr}{es:List Expr}{ta:TE}{t:TA}
theorem BR{pins:List 'f'}{σ:St}{H:Hp}{s:Shared}{Q:VK}{us:List Value}{vs:List V}(F:aW X.prog X.w X.K X.mg X.base CX k f fd ps sp)(hr:cM k X.A)(hb:Binds X.K fd ps ds)(hd:Vals vW ds)(hx:Passes CX X E)(I:Inv X pins σ H s)(r:Vals vs us)(h:sp (vs++vW) H Q E):wpAny 'd' X.A (call (.ref f) us) (EP X pins σ Q) X.xe s:=by
 have r2:Vals (vs++vW) (us++ds):=r.append hd
 have hl:(us++ds).length=ps.length:=by rw[←r2.length];exact F.len _ _ _ _ h
 refine wpAny_call (codeAny_mono (F.run X.A X.stack s H ⟨us,[]⟩ (us++ds) (vs++vW) Q E hr I.KS (hb s us I.kN hl) r2 h) λr s' hq=>?_)
 cases r with
 |error e=>exact hx pins σ H s e s' I hq
 |ok fl =>
  cases fl with
  |ret u=>exact I.after hq
  |next=>exact False.elim hq
  |brk=>exact False.elim hq
  |cont=>exact False.elim hq
theorem pA(F:aW X.prog X.w X.K X.mg X.base CX k f fd ps sp)(hr:cM k X.A)(hg:Gl X x)(hm:X.mg x=some (.ref f))(hk:W.keepIn X.K (.ref f)=true)(hb:Binds X.K fd ps ds)(hd:Vals vW ds)(hx:Passes CX X E)(ha:PA X (e::es) t)(hdb:(x==("__debug__":Str))=false:=by decide)(he:starEach (e::es) X.env=(false,eval e X.env)::starEach es X.env:=by rfl)(hpl:(backTo pos (starEach es X.env)).any (·.1)=false:=by rfl):PE X (.Call (.Name x p) (e::es) [] pos) (FF sp vW E t):=by
 intro pins s σ H Q I h
 refine aby (mF I hg hm ?_ hdb)
 refine W.callWith_K (h₀:=X.base) I.ok.mod.jr hk (cC (ha pos pins s σ H _ I h) λus s1 ⟨vs,H1,I1,r,q⟩=>⟨I1.kN,?_⟩) he hpl
 exact BR F hr hb hd hx I1 r q
theorem Ii{pl:Sem Bool}(he:PE X o ta)(c:E7 X.K C)(hm:Meth X.K C m f)(F:aW X.prog X.w X.K X.mg X.base CX k f fd ps sp)(hr:cM k X.A)(hb:Binds X.K fd ps ds)(hd:Vals vW ds)(hx:Passes CX X E)(ha:PA X (e::es) t)(hst:starEach (e::es) X.env=(false,eval e X.env)::starEach es X.env:=by rfl)(hpl:(backTo pos (starEach es X.env)).any (·.1)=false:=by rfl)(ht:eval (.Call (.Attribute o m apos) (e::es) [] pos) X.env=(do
   let ov ←eval o X.env
   standAt apos.atName
   let (f,first) ←holding [ov] (getMethod ov m pl)
   callWith pos f first (backTo pos (starEach (e::es) X.env)) (backToKw pos (keywordEach [] X.env))):=by rfl):PE X (.Call (.Attribute o m apos) (e::es) [] pos) (JX C m sp vW E ta t):=by
 intro pins s σ H Q I h
 refine W.methodCall_KW (pl:=pl) (cC (he pins s σ H _ I h) λu s1 ⟨x,H1,I1,rx,a,dx,fs,ex,ea,l,q⟩=>?_) ht
 subst ex
 obtain rfl:u=Value.ref a:=rx
 refine uO I1 ea c hm l ?_
 refine W.callWith_K (first:=[.ref a]) (h₀:=X.base) I.ok.mod.jr hm.kp (cC (ha pos pins s1 σ H1 _ I1 q) λus s2 ⟨vs,H2,I2,r,q2⟩=>⟨I2.kN,?_⟩) hst hpl
 exact BR (us:=.ref a::us) (vs:=.ref a::vs) F hr hb hd hx I2 (.cons rfl r) q2
theorem Ad{pl:Sem Bool}(he:PE X o ta)(c:E7 X.K C)(hm:Meth X.K C m f)(F:aW X.prog X.w X.K X.mg X.base CX k f fd ps sp)(hr:cM k X.A)(hb:Binds X.K fd ps ds)(hd:Vals vW ds)(hx:Passes CX X E)(ht:eval (.Call (.Attribute o m apos) [] [] pos) X.env=(do
   let ov ←eval o X.env
   standAt apos.atName
   let (f,first) ←holding [ov] (getMethod ov m pl)
   callWith pos f first (backTo pos (starEach [] X.env)) (backToKw pos (keywordEach [] X.env))):=by rfl):PE X (.Call (.Attribute o m apos) [] [] pos) (JX C m sp vW E ta KR):=by
 intro pins s σ H Q I h
 refine W.methodCall_KW (pl:=pl) (cC (he pins s σ H _ I h) λu s1 ⟨x,H1,I1,rx,a,dx,fs,ex,ea,l,q⟩=>?_) ht
 subst ex
 obtain rfl:u=Value.ref a:=rx
 refine uO I1 ea c hm l ?_
 exact W.callWith_K0 (first:=[.ref a]) I1.kN hm.kp (BR (us:=[.ref a]) (vs:=[.ref a]) F hr hb hd hx I1 (.cons rfl .nil) q)
structure Mk(K:W.Frag)(C f:Addr):Prop where
 makes:W.makesIn K C=true
 init:W.findIn K (.ref C) "__init__"=some (some (.ref f))
 fn:W.isFn K (.ref f)=true
 kp:W.keepIn K (.ref C)=true
theorem FG{pins:List 'f'}{σ:St}{H:Hp}{s:Shared}{Q:VK}{us:List Value}{vs:List V}(M:Mk X.K C f)(F:aW X.prog X.w X.K X.mg X.base CX k f fd ps sp)(hr:cM (k+1) X.A)(hb:Binds X.K fd ps ds)(hd:Vals vW ds)(hx:Passes CX X E)(I:Inv X pins σ H s)(r:Vals vs us)(h:∀x dx,H x=none->H dx=none->dx≠x->sp (.ref x::(vs++vW)) (upd (upd H dx (.own x)) x (.ins C dx [])) (λv H2=>v=.non/\Q (.ref x) H2) E):wpAny 'd' X.A (call (.ref C) us) (EP X pins σ Q) X.xe s:=by
 have hq:=h (s.heap.objs.size+1) s.heap.objs.size (I.hok.fresh (Nat.le_succ _)) (I.hok.fresh (aao _)) (aaS (Nat.lt_succ_self _))
 have I2:=Inv.made (C:=C) I
 have r2:Vals (V.ref (s.heap.objs.size+1)::(vs++vW)) (Value.ref (s.heap.objs.size+1)::(us++ds)):=.cons rfl (r.append hd)
 have hl:(Value.ref (s.heap.objs.size+1)::us++ds).length=ps.length:=by
  have e:=r2.length
  rw[F.len _ _ _ _ hq]at e
  exact e.symm
 refine wpAny_call (FA (f:=f) I.kN M.makes M.init (beq_iff_eq.mp M.fn) (codeAny_mono (F.run _ X.stack _ _ ⟨Value.ref (s.heap.objs.size+1)::us,[]⟩ (Value.ref (s.heap.objs.size+1)::(us++ds)) _ _ E (hr.make C us [])
  (I2.KS.make C us []) (hb _ (Value.ref (s.heap.objs.size+1)::us) I2.kN hl) r2 hq) λr s' hq'=>?_))
 cases r with
 |error e=>exact hx pins σ _ _ e s' I2 hq'
 |ok fl =>
  cases fl with
  |ret u =>
   obtain⟨v,H',I3,rv,ev,q3⟩:=I2.after hq'
   subst ev
   exact⟨rv,⟨V.ref (s.heap.objs.size+1),H',I3,O,q3⟩⟩
  |next=>exact False.elim hq'
  |brk=>exact False.elim hq'
  |cont=>exact False.elim hq'
theorem De(M:Mk X.K C f)(F:aW X.prog X.w X.K X.mg X.base CX k f fd ps sp)(hr:cM (k+1) X.A)(hg:Gl X x)(hm:X.mg x=some (.ref C))(hb:Binds X.K fd ps ds)(hd:Vals vW ds)(hx:Passes CX X E)(ha:PA X (e::es) t)(hdb:(x==("__debug__":Str))=false:=by decide)(he:starEach (e::es) X.env=(false,eval e X.env)::starEach es X.env:=by rfl)(hpl:(backTo pos (starEach es X.env)).any (·.1)=false:=by rfl):PE X (.Call (.Name x p) (e::es) [] pos) (NF C sp vW E t):=by
 intro pins s σ H Q I h
 refine aby (mF I hg hm ?_ hdb)
 refine W.callWith_K (h₀:=X.base) I.ok.mod.jr M.kp (cC (ha pos pins s σ H _ I h) λus s1 ⟨vs,H1,I1,r,q⟩=>⟨I1.kN,?_⟩) he hpl
 exact FG M F hr hb hd hx I1 r q
end
section
variable{X:Cx}{CX:D3}{k:Nat}{f C:Addr}{fd:FuncData}{ps ks:List Str}{sp:Sp}{E:XK}{x m:Str}{p pos apos kpos:Pos}{e o:Expr}{es:List Expr}{kws:List Keyword}{te ta:TE}{t tk:TA}{nm:Option Str}
variable{g:List Value->List Value->List Value}{gV:List V->List V->List V}
end
structure aJ(N P:List Str)(sc:Scope):Prop where
 kind:sc.kind=.function
 co:sc.isCoroutine=false
 gen:sc.isGenerator=false
 nd:N.Nodup
 pre:N.take P.length=P
 par:∀x∈P,sc.names.lookup x=some .local\/sc.names.lookup x=some .cell
 KU:∀y∈sc.names,y.2≠.free
theorem xJ{kindOf:Str->Option NameKind}{x:Str}:∀{binds:List (Str×Value)}{m:Str->Option Value},(∀v,(x,v)∉binds)->bindL kindOf binds m x=m x
 |[],_,_=>rfl
 | (n,v)::r,m,h=>by
  unfold bindL
  rw[xJ λw hw=>h w (aaq _ hw)]
  split
  ·have:x≠n:=by rintro rfl;exact h v aat
   simp[this]
  ·rfl
theorem xK{kindOf:Str->Option NameKind}{x:Str}:∀{binds:List (Str×Value)}{m:Str->Option Value},(∀v,(x,v)∉binds)->bindC kindOf binds m x=m x
 |[],_,_=>rfl
 | (n,v)::r,m,h=>by
  unfold bindC
  rw[xK λw hw=>h w (aaq _ hw)]
  split
  ·rfl
  ·have:x≠n:=by rintro rfl;exact h v aat
   simp[this]
theorem xM{kindOf:Str->Option NameKind}{x:Str}{v:Value}:∀{P:List Str}{vs:List Value}{i:Nat}{m:Str->Option Value},P.Nodup->P[i]?=some x->vs[i]?=some v->kindOf x=some .local->bindL kindOf (P.zip vs) m x=some v
 |[],_,_,_,_,h,_,_=>by simp at h
 |_::_,[],_,_,_,_,h,_=>by simp at h
 |p::P,w::vs,0,m,nd,h1,h2,hk=>by
  simp at h1 h2;subst h1;subst h2
  show bindL kindOf ((p,w)::P.zip vs) m p=_
  unfold bindL
  rw[xJ λv hv=>(aa8.mp nd).1 (List.of_mem_zip hv).1,aal hk]
  simp
 |p::P,w::vs,i+1,m,nd,h1,h2,hk=>by
  show bindL kindOf ((p,w)::P.zip vs) m x=_
  unfold bindL
  exact xM (i:=i) (aa8.mp nd).2 (by simpa using h1) (by simpa using h2) hk
theorem xN{kindOf:Str->Option NameKind}{x:Str}{v:Value}:∀{P:List Str}{vs:List Value}{i:Nat}{m:Str->Option Value},P.Nodup->P[i]?=some x->vs[i]?=some v->kindOf x≠some .local->bindC kindOf (P.zip vs) m x=some v
 |[],_,_,_,_,h,_,_=>by simp at h
 |_::_,[],_,_,_,_,h,_=>by simp at h
 |p::P,w::vs,0,m,nd,h1,h2,hk=>by
  simp at h1 h2;subst h1;subst h2
  show bindC kindOf ((p,w)::P.zip vs) m p=_
  unfold bindC
  rw[xK λv hv=>(aa8.mp nd).1 (List.of_mem_zip hv).1,aah hk]
  simp
 |p::P,w::vs,i+1,m,nd,h1,h2,hk=>by
  show bindC kindOf ((p,w)::P.zip vs) m x=_
  unfold bindC
  exact xN (i:=i) (aa8.mp nd).2 (by simpa using h1) (by simpa using h2) hk
def start(N:List Str)(vs:List V):St:=vs.map some++List.replicate (N.length-vs.length) none
def tE(CX:D3)(P:Program)(w:World)(K:W.Frag)(mg:Str->Option Value)(base:Heap)(N:List Str)(qual:Str)(scope:Scope)(f:Addr)(cd:Value)(A:Around)(outer:List Env)(s:Shared)(H:Hp)(E:XK):Cx where
 prog:=P
 w:=w
 K:=K
 mg:=mg
 base:=base
 A:=A.deeper (envOfC qual scope s.heap.objs.size f cd)
 N:=N
 s₀:=s
 H₀:=H
 env:=envOfC qual scope s.heap.objs.size f cd
 outer:=outer
 stack:=envOfC qual scope s.heap.objs.size f cd::outer
 ex:=[]
 calm:=true
 fn:=λ_=>true
 pn:=[]
 xe:=λe s'=>wpAny (model P w) (A.deeper (envOfC qual scope s.heap.objs.size f cd)) (leaving (envOfC qual scope s.heap.objs.size f cd) e) (λ_ s''=>CX outer H s E e s'') (λe' s''=>CX outer H s E e' s'') s'
theorem Ae{sc:Scope}{n:Nat}{x:Str}(h:sc.names.lookup x=some .cell):∃c,(cellsFrom n sc.names []).lookup x=some c:=by
 have q:=W.cellsFrom_some sc.names n [] (.inl h)
 exact Option.isSome_iff_exists.mp q
theorem D4{CX:D3}{P:Program}{w:World}{K:W.Frag}{mg:Str->Option Value}{base:Heap}{N ps:List Str}{qual:Str}{scope:Scope}{f:Addr}{cd:Value}{A:Around}{outer:List Env}{s s1:Shared}{H:Hp}{E:XK}{us:List Value}{vs:List V}(S:aJ N ps scope)(hd:A.handled=none)(e0:wc P w K mg base A outer s H)(hl:vs.length=ps.length)(r:Vals vs us)(x:InCallC s s.heap.objs.size (bindL (envOfC qual scope s.heap.objs.size f cd).kindOf (ps.zip us) λ_=>none) (cellsFrom (s.heap.objs.size+1) scope.names []) (bindC (envOfC qual scope s.heap.objs.size f cd).kindOf (ps.zip us) λ_=>none) s1):Inv (tE CX P w K mg base N qual scope f cd A outer s H E) [] (start N vs) H s1:=by
 have hpl:ps.length<=N.length:=by have:=congrArg List.length S.pre;rw[aaL]at this;omega
 obtain⟨h1,tk,rfl,hk⟩:=x.done
 have NG:∀b:Addr,b∉(tE CX P w K mg base N qual scope f cd A outer s H E).ex:=λb z=>absurd (show b∈([]:List Addr) from z) (by simp)
 refine⟨⟨e0.mod,S.kind,O,O,aao _,λy z c h1 h2=>?_,λy hy=>?_,λy c _ h=>?_,λ_=>hd,Around.frames_deeper e0.frames,.inr ⟨O,O⟩,λb z=>absurd z (NG b),e0.bs,e0.E6,λb _ _=>NG b,λb z=>absurd z (NG b),e0.qJ,e0.JQ⟩,O,e0.bare,Un.kept hk,⟨_,x.toInCall.ns,λi y v h1 h2 h3=>?_⟩,λy c h=>⟨_,x.cell y c h⟩,e0.hok.fresh (aao _),λy c h=>?_,λp hp=>absurd (show p∈([]:List 'f') from hp) (by simp),e0.hok.kept hk,?_⟩
 ·exact name_of_addr x.apart (aaU h1) (aaU h2)
 ·have hy:scope.names.lookup y=some .cell\/scope.names.lookup y=some .free:=hy
  rcases hy with hy|hy
  ·exact Ae hy
  ·exact absurd rfl (S.KU _ (aaU hy))
 ·exact Nat.le_of_lt (x.above y c (aaU h))
 ·have hi:i<vs.length:=by
   unfold start at h2
   by_cases hi:i<vs.length
   ·exact hi
   ·rw[List.getElem?_append_right (by simpa using hi)]at h2
    rw[List.getElem?_replicate]at h2
    split at h2<;>cases h2
  have ha:vs[i]?=some v:=by
   unfold start at h2
   rw[List.getElem?_append_left (by simpa using hi),aaT]at h2
   cases e:vs[i]? with
   |none=>rw[e]at h2;cases h2
   |some a=>rw[e]at h2;cases h2;rfl
  obtain⟨u,hu,rv⟩:=r.get ha
  have hp:ps[i]?=some y:=by
   rw[←S.pre,List.getElem?_take_of_lt 'c'];exact h1
  have V7:ps.Nodup:=by rw[←S.pre];exact S.nd.sublist (List.take_sublist _ _)
  refine⟨u,rv,?_⟩
  rcases S.par y (aar hp) with k|k
  ·exact .inl ⟨k,xM V7 hp hu k⟩
  ·obtain⟨c,e⟩:=Ae (n:=s.heap.objs.size+1) k
   refine .inr ⟨.inl k,c,e,?_⟩
   have q:=x.cell y c e
   rw[xN V7 hp hu (by show scope.names.lookup y≠_;rw[k];decide)]at q
   exact q
 ·exact e0.hok.fresh (Nat.le_of_lt (x.above y c (aaU h)))
 ·unfold start
  show _=N.length
  rw[aaJ,aaj,abg]
  omega
theorem FH{CX:D3}{P:Program}{w:World}{K:W.Frag}{mg:Str->Option Value}{base:Heap}{k:Nat}{f:Addr}{name qual:Str}{params:Arguments}{body:List Stmt}{scope:Scope}{dV kV doc pm cdv ct oc:Value}{an od:Option Addr}{osl:Array (Option Value)}{N ps:List Str}{sp:Sp}(lk:K.lookup f=some ⟨oc,od,.func (W.fnOf name qual params body scope dV kV doc pm an cdv ct),osl⟩)(hcd:W.codeIn K cdv qual=true)(S:aJ N ps scope)(len:∀vs H Q E,sp vs H Q E->vs.length=ps.length)(hbody:∀(A:Around)(outer:List Env)(s:Shared)(H:Hp)(vs:List V)(Q:VK)(E:XK),cM k (A.deeper (envOfC qual scope s.heap.objs.size f cdv))->sp vs H Q E->∃t,BH (tE CX P w K mg base N qual scope f cdv A outer s H E) body t/\t {nx:=λ_ H'=>Q .non H',rt:=Q} (start N vs) H):aW P w K mg base CX (k+1) f (W.fnOf name qual params body scope dV kV doc pm an cdv ct) ps sp:=by
 refine⟨len,λA outer s H args us vs Q E hr e0 hb r E8=>?_⟩
 have hl:=len _ _ _ _ E8
 have KX:K.In s.heap:=e0.mod.jr.keeps λb o e=>(e0.bs b o e).1
 have lim:s.heap.NoLimit:=e0.mod.nolimit.keeps λb o e=>(e0.bs b o e).1
 have hkind:∀y∈ps.zip us,scope.names.lookup y.1=some .local\/(scope.names.lookup y.1=some .cell/\((cellsFrom (s.heap.objs.size+1) scope.names []).lookup y.1).isSome=true):=λ⟨n,v⟩ hy=>by
  rcases S.par n (List.of_mem_zip hy).1 with q|q
  ·exact .inl q
  ·exact .inr ⟨q,W.cellsFrom_some _ _ _ (.inl q)⟩
 refine codeAny_call_function hr.depth (KX _ _ lk) rfl S.co S.gen rfl (W.codeRec_of KX hcd) (hb _ _ _ _ ?_)
 refine wpAny_newFunctionEnv_cells S.kind hkind λenv he s1 x=>?_
 subst he
 refine⟨lim.keeps x.toInCall.keep,codeAny_func ?_⟩
 obtain⟨t,ht,hq⟩:=hbody A outer s H vs Q E (hr.deeper _) E8
 have I:Inv (tE CX P w K mg base N qual scope f cdv A outer s H E) [] (start N vs) H s1:=D4 S hr.hd e0 hl r x
 refine abk (ht [] s1 (start N vs) H _ I hq) (λfl s' hs=>?_) λe s' hs=>hs
 have fin:∀{σ':St}{H':Hp}{v:V}{u:Value},Inv (tE CX P w K mg base N qual scope f cdv A outer s H E) [] σ' H' s'->RelV v u->Q v H'->CE outer P w H s Q u s' :=
  λ{σ' H' v u} J rv q=>⟨v,H',J.os,J.bare,J.base,J.hok,rv,q⟩
 cases fl with
 |ret u =>
  obtain⟨v,σ',H',J,rv,q⟩:=hs
  exact fin J rv q
 |next =>
  obtain⟨σ',H',J,q⟩:=hs
  exact fin (v:=V.non) (u:=Value.none) J rfl q
 |brk =>
  obtain⟨_,_,_,q⟩:=hs
  exact False.elim q
 |cont =>
  obtain⟨_,_,_,q⟩:=hs
  exact False.elim q
section
variable{X:Cx}{x:Str}{p pos:Pos}{e:Expr}{es:List Expr}{t:TA}{id T:String}{r:List V->Hp->VK->Prop}
def P7(r:List V->Hp->VK->Prop)(t:TA):TE:=λσ H Q=>t σ H λvs H1=>r vs H1 Q
theorem FI(hc:dw X (.builtin id) r)(hg:Gl X x)(hm:X.mg x=none)(hv:bootBuiltins x=some (.builtin id))(ha:PA X (e::es) t)(hn:x ≠ "__name__":=by decide)(hdb:(x==("__debug__":Str))=false:=by decide)(he:starEach (e::es) X.env=(false,eval e X.env)::starEach es X.env:=by rfl)(hpl:(backTo pos (starEach es X.env)).any (·.1)=false:=by rfl):PE X (.Call (.Name x p) (e::es) [] pos) (P7 r t):=by
 intro pins s σ H Q I h
 refine aby (kP I hg hm hv ?_ hn hdb)
 exact PyProof.Rows.callWith_builtin1 (cC (ha pos pins s σ H _ I h) λus s1 ⟨vs,H1,I1,r1,q1⟩=>hc pins s1 σ H1 vs us Q I1 r1 q1) he hpl
theorem D5(hc:dw X (.type T) r)(hg:Gl X x)(hm:X.mg x=none)(hv:bootBuiltins x=some (.type T))(ha:PA X (e::es) t)(hn:x ≠ "__name__":=by decide)(hdb:(x==("__debug__":Str))=false:=by decide)(he:starEach (e::es) X.env=(false,eval e X.env)::starEach es X.env:=by rfl)(hpl:(backTo pos (starEach es X.env)).any (·.1)=false:=by rfl):PE X (.Call (.Name x p) (e::es) [] pos) (P7 r t):=by
 intro pins s σ H Q I h
 refine aby (kP I hg hm hv ?_ hn hdb)
 exact aa9 (cC (ha pos pins s σ H _ I h) λus s1 ⟨vs,H1,I1,r1,q1⟩=>hc pins s1 σ H1 vs us Q I1 r1 q1) he hpl
end
end L2
namespace HT
open PySem PyProof.Rows
section
open PySem.SeqAt
open PySem.AutoSeq1 (wpAny_loadPart')
open PySem.MeetsSeq PySem.MeetsSeq2 PySem.MeetsSeq3
end
section
variable{prog:Program}{w:World}{A:Around}{E:Value->Shared->Prop}{s:Shared}
def wg(n d:Nat):Option Int->Nat
 |none=>d
 |some v=>if v<0 then (v+(n:Int)).toNat else min v.toNat n
theorem FJ(n d:Nat):wg n d none=d:=rfl
theorem uD(n d k:Nat):wg n d (some (k:Int))=min k n:=by
 show(if (k:Int)<0 then ((k:Int)+(n:Int)).toNat else min (k:Int).toNat n)=min k n
 rw[aah 'c',Int.toNat_natCast]
end
end HT
namespace L2
open PySem PySem.Spec PyProof.Rows
abbrev TO:=St->Hp->(Option Int->Hp->Prop)->Prop
def PO(X:Cx)(e:Option Expr)(t:TO):Prop :=
 ∀(pins:List 'f')(s:Shared)(σ:St)(H:Hp)(Q:Option Int->Hp->Prop),Inv X pins σ H s->t σ H Q->wpAny 'd' X.A (evalPart e X.env) (λu s'=>∃o H',Inv X pins σ H' s'/\IsPart u o/\Q o H') X.xe s
def Ij:TO:=λ_ H Q=>Q none H
def NH(t:TE):TO:=λσ H Q=>t σ H λx H1=>∃i,x=.int i/\Q (some i) H1
section
variable{X:Cx}{e:Expr}{te:TE}{lo hi:Option Expr}{tl th:TO}{pos p2:Pos}
theorem uE:PO X none Ij:=by
 intro pins s σ H Q I h
 rw[evalPart_none]
 exact aaB ⟨none,H,I,.none,h⟩
theorem fL(h:PE X e te):PO X (some e) (NH te):=by
 intro pins s σ H Q I hw
 rw[evalPart_some]
 refine cC (h pins s σ H _ I hw) λu s1 ⟨x,H1,I1,r1,q1⟩=>?_
 obtain⟨i,rfl,q⟩:=q1
 obtain⟨t,rfl⟩:=r1
 exact⟨some i,H1,I1,.int i t,q⟩
def P8(X:Cx)(r:V->Option Int->Option Int->Hp->VK->Prop):Prop :=
 ∀(pins:List 'f')(s:Shared)(σ:St)(H:Hp)(x:V)(v vl vu:Value)(lo hi:Option Int)(sl:Addr)(Q:VK),Inv X pins σ H s->RelV x v->s.heap.IsSliceOf sl vl vu .none->IsPart vl lo->IsPart vu hi->r x lo hi H Q->∃T id,typeLookup (.type T) "__getitem__"=pure (some (.builtin id))/\s.TypeIs v T/\wpAny 'd' X.A (getItem v (.ref sl)) (EP X pins σ Q) X.xe s
def XW(r:V->Option Int->Option Int->Hp->VK->Prop)(te:TE)(tl th:TO):TE:=λσ H Q=>te σ H λx H1=>tl σ H1 λl H2=>th σ H2 λu H3=>r x l u H3 Q
theorem gM{r:V->Option Int->Option Int->Hp->VK->Prop}(hr:P8 X r)(he:PE X e te)(hl:PO X lo tl)(hu:PO X hi th):PE X (.Subscript e (.Slice lo hi none p2) pos) (XW r te tl th):=by
 intro pins s σ H Q I h
 refine Subscript_ (cC (he pins s σ H _ I h) λv s1 ⟨x,H1,I1,r1,q1⟩=>?_)
 refine wpAny_Slice (cC (hl pins s1 σ H1 _ I1 q1) λvl s2 ⟨l,H2,I2,pl,q2⟩=>cC (hu pins s2 σ H2 _ I2 q2) λvu s3 ⟨u,H3,I3,pu,q3⟩=>?_)
 rw[evalPart_none]
 refine aaB ?_
 have I4:Inv X pins σ H3 {s3 with heap:=s3.heap.push {cls:=.type "slice",data:=.fields #[vl,vu,.none]}}:=I3.kept (t':=s3.toks) λb ob q=>aap _ q
 obtain⟨T,id,hT,ht,hg⟩:=hr pins {s3 with heap:=s3.heap.push {cls:=.type "slice",data:=.fields #[vl,vu,.none]}} σ H3 x v vl vu l u s3.heap.objs.size Q I4 r1 (Heap.IsSliceOf.new ..) pl pu q3
 show wpAny 'd' X.A (subscriptTail e (.Slice lo hi none p2) v (.ref s3.heap.objs.size)) (EP X pins σ Q) X.xe {s3 with heap:=s3.heap.push {cls:=.type "slice",data:=.fields #[vl,vu,.none]}}
 exact tail_any (ops:=[.ref s3.heap.objs.size,v]) ht hT hg (by with_unfolding_all rfl)
def oz(xs:List V)(lo hi:Option Int):List V:=(xs.drop (HT.wg xs.length 0 lo)).take (HT.wg xs.length xs.length hi-HT.wg xs.length 0 lo)
theorem Af(xs:List V)(lo hi:Option Int):(oz xs lo hi).length<=xs.length:=by
 unfold oz
 rw[aaL,List.length_drop]
 omega
end
def HL(n:Nat)(i:Int):Option Nat:=if 0<=i then (if i<n then some i.toNat else none) else if -(n:Int)<=i then some (i+n).toNat else none
def iB{α:Type}(xs:List α)(i:Int):Option α:=(HL xs.length i).bind λj=>xs[j]?
theorem Df{n:Nat}{i:Int}{j:Nat}(h:HL n i=some j):seqIndex? i n=some j/\j<n/\-(n:Int)<=i/\i<n:=by
 unfold HL at h
 by_cases h0:0<=i
 ·rw[aal h0]at h
  by_cases h1:i<n
  ·rw[aal h1]at h
   have e:i.toNat=j:=aaA h
   exact⟨by rw[seqIndex_of h0 h1,e],by omega,by omega,h1⟩
  ·rw[aah h1]at h;cases h
 ·rw[aah h0]at h
  by_cases h1 : -(n:Int)<=i
  ·rw[aal h1]at h
   have e:(i+n).toNat=j:=aaA h
   exact⟨by rw[seqIndex_neg 'c' h1,e],by omega,h1,by omega⟩
  ·rw[aah h1]at h;cases h
theorem yp{α:Type}{xs:List α}{i:Int}{v:α}(h:iB xs i=some v):∃j,seqIndex? i xs.length=some j/\xs[j]?=some v/\j<xs.length/\-(xs.length:Int)<=i/\i<xs.length:=by
 unfold iB at h
 cases e:HL xs.length i with
 |none=>rw[e]at h;cases h
 |some j =>
  rw[e]at h
  obtain⟨h1,h2,h3,h4⟩:=Df e
  exact⟨j,h1,h,h2,h3,h4⟩
theorem bL{α:Type}{xs:List α}{j:Nat}{v:α}(h:xs[j]?=some v):iB xs (j:Int)=some v:=by
 have hj:j<xs.length:=(aam.mp h).1
 have e:HL xs.length (j:Int)=some j:=by
  unfold HL
  rw[aal 'c',aal 'c'];simp
 unfold iB;rw[e];exact h
theorem FL{α:Type}(xs:List α)(v:α):iB (xs++[v]) (-1)=some v:=by
 have hl:(xs++[v]).length=xs.length+1:=by simp
 have e:HL (xs++[v]).length (-1)=some xs.length:=by
  unfold HL
  rw[hl,aah 'b',aal 'c']
  congr 1
  omega
 unfold iB
 rw[e]
 show(xs++[v])[xs.length]?=some v
 simp
def yq(b:Expr):Prop:=∀o i,subscripted b false o i=operate [o,i] (getItem o i)
def MQ(X:Cx)(r:R2):Prop :=
 ∀(value slice:Expr)(pins:List 'f')(s:Shared)(σ:St)(H:Hp)(x y:V)(v u:Value)(Q:VK),Inv X pins σ H s->RelV x v->RelV y u->r x y H Q->subscripted slice false v u=operate [v,u] (getItem v u)->wpAny 'd' X.A (subscriptTail value slice v u) (EP X pins σ Q) X.xe s
def Ik(X:Cx)(id:String)(r:V->List V->Hp->VK->Prop):Prop :=
 ∀(pins:List 'f')(s:Shared)(σ:St)(H:Hp)(x:V)(xs:List V)(v:Value)(us:List Value)(Q:VK),Inv X pins σ H s->RelV x v->Vals xs us->r x xs H Q->wpAny 'd' X.A (call (.builtin id) (v::us)) (EP X pins σ Q) X.xe s
section
variable{X:Cx}{a b:Expr}{ta tb:TE}{pos:Pos}
theorem xO{r:R2}(hr:MQ X r)(ha:PE X a ta)(hb:PE X b tb)(hs:yq b):PE X (.Subscript a b pos) (HK r ta tb):=by
 intro pins s σ H Q I h
 exact Subscript_ (KP ha hb I h λv u s2 x y H2 I2 rx ry q=>hr a b pins s2 σ H2 x y v u Q I2 rx ry q (hs _ _))
def KW(K:W.Frag):R2:=λx y H Q=>∃p xs i v,x=.ref p/\y=.int i/\aK K H p xs/\iB xs i=some v/\Q v H
def KY(K:W.Frag):R2:=λx y H Q=>∃p xs i v,x=.ref p/\y=.int i/\bH K H p xs/\iB xs i=some v/\Q v H
def QY:R2:=λx y H Q=>∃z i c,x=.str z/\y=.int i/\z.length<=sizeLine/\iB z.cps.toList i=some c/\Q (.str ⟨#[c]⟩) H
theorem Il:MQ X (KW X.K):=by
 intro value slice pins s σ H x y v u Q I rx ry h hs
 obtain⟨p,xs,i,z,rfl,rfl,hq,he,q⟩:=h
 cases rx
 obtain⟨t,rfl⟩:=ry
 obtain⟨its,r,pl,hz⟩:=I.list hq
 obtain⟨j,h1,h2,h3,h4,h5⟩:=yp he
 obtain⟨w,ew,rw'⟩:=r.get h2
 have hl:=r.length
 have hn:=qM
 have fin:EP X pins σ Q w s:=⟨z,H,I,rw',q⟩
 by_cases h0:0<=i
 ·have hj:i.toNat=j:=by
   rw[seqIndex_of h0 h5]at h1
   exact aaA h1
  exact item_listR pl.isList h0 'c' (by rw[hj];simpa using ew) fin hs
 ·have hj:(i+(its.toArray.size:Int)).toNat=j:=by
   rw[seqIndex_neg 'c' h4]at h1
   rw[aak,←hl]
   exact aaA h1
  exact subscriptTail_builtinR (x:=w) pl.isList.typeIs slot_list_getitem.lookup
   (wpAny_getItem_list_neg (Q:=λr s'=>r=w/\EP X pins σ Q r s') pl.isList 'c' (by rw[aak]<;>omega) 'c' (by rw[hj];simpa using ew) ⟨rfl,fin⟩) hs
theorem KZ:MQ X (KY X.K):=by
 intro value slice pins s σ H x y v u Q I rx ry h hs
 obtain⟨p,xs,i,z,rfl,rfl,hq,he,q⟩:=h
 cases rx
 obtain⟨t,rfl⟩:=ry
 obtain⟨its,r,pl,hz⟩:=I.tuple hq
 obtain⟨j,h1,h2,h3,h4,h5⟩:=yp he
 obtain⟨w,ew,rw'⟩:=r.get h2
 have hl:=r.length
 have hn:=qM
 have fin:EP X pins σ Q w s:=⟨z,H,I,rw',q⟩
 exact subscriptTail_builtinR (x:=w) pl.typeIs slot_tuple_getitem.lookup
  (getItem_tuple (j:=j) (Q:=λr s'=>r=w/\EP X pins σ Q r s') pl 'c' 'c' (by rw[aak,←hl];exact h1) (by simpa using ew) ⟨rfl,fin⟩) hs
theorem yr:MQ X QY:=by
 intro value slice pins s σ H x y v u Q I rx ry h hs
 obtain⟨z,i,c,rfl,rfl,hz,he,q⟩:=h
 obtain⟨t,rfl⟩:=rx
 obtain⟨t',rfl⟩:=ry
 obtain⟨j,h1,h2,h3,h4,h5⟩:=yp he
 have hl:z.cps.toList.length=z.length:=by simp[Str.length]
 rw[hl]at h1 h4 h5
 have hn:=qM
 exact tail_any (typeIs_str s z t) slot_str_getitem.lookup (getItem_str (c:=c) (by
  have e1:decide (i < -(2 ^ 63:Int))=false:=aax 'c'
  have e2:decide (i>=2 ^ 63)=false:=aax 'c'
  rw[e1,e2,Bool.or_false]) (by rw[h1];simpa using h2) ⟨.str ⟨#[c]⟩,H,I.tok _,⟨_,rfl⟩,q⟩) hs
theorem BS(its:List Value)(n j:Nat)(u:Value):Obj.mapSeq (·.setIfInBounds j u) {cls:=.type "list",data:=.seq its.toArray n}={cls:=.type "list",data:=.seq (its.set j u).toArray n}:=by
 simp[Obj.mapSeq]
theorem Inv.lst{pins:List 'f'}{σ:St}{H:Hp}{s:Shared}{p:Addr}{xs:List V}(I:Inv X pins σ H s)(h:H p=some (.lst xs)):∃(its:List Value)(n:Nat),Vals xs its/\s.heap.get? p=some {cls:=.type "list",data:=.seq its.toArray n}/\xs.length<=sizeLine:=by
 obtain⟨z,its,n,r,e⟩:=I.hok p _ h
 exact⟨its,n,r,e,z⟩
theorem Inv.K0{pins:List 'f'}{σ:St}{H:Hp}{s:Shared}{p:Addr}{xs ys:List V}{its its':List Value}{n n':Nat}{f:Obj->Obj}(I:Inv X pins σ H s)(h:H p=some (.lst xs))(ho:s.heap.get? p=some {cls:=.type "list",data:=.seq its.toArray n})(hf:f {cls:=.type "list",data:=.seq its.toArray n}={cls:=.type "list",data:=.seq its'.toArray n'})(r:Vals ys its')(hz:ys.length<=sizeLine)(t:Nat):Inv X pins σ (upd H p (.lst ys)) {s with heap:=s.heap.update p f,toks:=t}:=by
 have e:(s.heap.update p f).get? p=some {cls:=.type "list",data:=.seq its'.toArray n'}:=by
  rw[abn f ho (by rw[hf]<;>rfl),hf]
 refine I.write (x:=p) (e:=p) (by rw[h];trivial) (.inl rfl) (λb u hb q=>(aaW _ _ (abm hb)).trans q) ⟨_,e⟩ ?_
 exact⟨hz,its',n',r,e⟩
def NI:V->V->V->Hp->(Hp->Prop)->Prop:=λo i v H Q=>∃p xs k j,o=.ref p/\i=.int k/\H p=some (.lst xs)/\HL xs.length k=some j/\Q (upd H p (.lst (xs.set j v)))
theorem set_list:Nm X NI:=by
 intro pins s σ H o i v ov iv u Q I ro ri rv h
 obtain⟨p,xs,k,j,rfl,rfl,hp,hj,q⟩:=h
 cases ro
 obtain⟨t,rfl⟩:=ri
 obtain⟨its,n,r,ho,hz⟩:=I.lst hp
 obtain⟨h1,h2,h3,h4⟩:=Df hj
 have hl:=r.length
 have hn:=qM
 have I':Inv X pins σ (upd H p (.lst (xs.set j v))) {s with heap:=s.heap.update p (Obj.mapSeq (·.setIfInBounds j u))} :=
  I.K0 hp ho (BS its n j u) (r.set rv j) (by rw[List.length_set];exact hz) s.toks
 by_cases h0:0<=k
 ·have hk:k.toNat=j:=by
   rw[seqIndex_of h0 h4]at h1
   exact aaA h1
  exact W.ki_setAt ho h0 'c' (by rw[aak,←hl];exact h4) (by rw[hk];exact⟨_,I',q⟩)
 ·have hk:(k+(its.toArray.size:Int)).toNat=j:=by
   rw[seqIndex_neg 'c' h3]at h1
   rw[aak,←hl]
   exact aaA h1
  exact W.ki_setBack ho 'c' (by rw[aak,←hl];exact h3) 'c' (by rw[hk];exact⟨_,I',q⟩)
theorem yt(lo hi:Option Int)(n:Nat):(sliceBounds lo hi none n).1=((HT.wg n 0 lo:Nat):Int)/\(sliceBounds lo hi none n).2.1=((HT.wg n n hi:Nat):Int)/\(sliceBounds lo hi none n).2.2=1:=by
 refine⟨?_,?_,O⟩
 ·cases lo with
  |none=>simp[sliceBounds,HT.wg]
  |some i =>
   simp only[sliceBounds,HT.wg,Option.getD_none,show(1:Int)>0 by decide,abx]
   by_cases h:i<0
   ·simp only[h,abx]<;>omega
   ·simp only[h,abH]<;>omega
 ·cases hi with
  |none=>simp[sliceBounds,HT.wg]
  |some i =>
   simp only[sliceBounds,HT.wg,Option.getD_none,show(1:Int)>0 by decide,abx]
   by_cases h:i<0
   ·simp only[h,abx]<;>omega
   ·simp only[h,abH]<;>omega
theorem wj(its:List Value)(lo hi:Option Int):slicePick its.toArray lo hi none=((its.drop (HT.wg its.length 0 lo)).take (HT.wg its.length its.length hi-HT.wg its.length 0 lo)).toArray:=by
 obtain⟨h1,h2,h3⟩:=yt lo hi its.toArray.size
 unfold slicePick
 rw[h1,h2,h3]
 simp only[sliceRange_one,pick_run,aak]<;>rfl
def NJ(K:W.Frag):V->Option Int->Option Int->Hp->VK->Prop:=λx lo hi H Q=>∃a xs,x=.ref a/\aK K H a xs/\∀p,H p=none->Q (.ref p) (upd H p (.lst (oz xs lo hi)))
theorem Im:P8 X (NJ X.K):=by
 intro pins s σ H x v vl vu lo hi sl Q I rx hs pl pu h
 obtain⟨a,xs,rfl,hx,q⟩:=h
 cases rx
 obtain⟨its,r,ht,hz⟩:=I.list hx
 have hlen:=r.length
 refine⟨"list",_,slot_list_getitem.lookup,ht.isList.typeIs,?_⟩
 refine wpAny_getItem_list_slice ht.isList hs pl pu .none (by simp) ?_ (by rw[aak]<;>omega)
 rw[wj,←hlen]
 refine⟨.ref s.heap.objs.size,_,I.laid (t':=s.toks) (o:=.lst (oz xs lo hi)) (λb ob q=>aap _ q) (aao _) ?_,rfl,q _ (I.hok.fresh (aao _))⟩
 exact⟨aaz (Af xs lo hi) hz,_,0,(r.drop (HT.wg xs.length 0 lo)).take (HT.wg xs.length xs.length hi-HT.wg xs.length 0 lo),aaG _ rfl⟩
def dB:V->Bool
 | .non=>true
 | .bl _=>true
 | .int _=>true
 | .str _=>true
 |_=>false
def xP:V->V->Bool
 | .non,.non=>true
 | .bl a,.bl b=>a==b
 | .bl a,.int b=>(if a then 1 else 0)==b
 | .int a,.bl b=>a==(if b then 1 else 0)
 | .int a,.int b=>a==b
 | .str a,.str b=>a==b
 |_,_=>false
theorem yw{A:Around}{s:Shared}{y x:V}{u v:Value}(ry:RelV y u)(rx:RelV x v)(fy:dB y=true)(fx:dB x=true):SeqAt.EqAt A s u v (xP y x):=by
 cases y with
 |non =>
  cases ry
  cases x with
  |non=>cases rx;exact abC _
  |bl b=>cases rx;exact SeqAt.EqAt.none_bool b
  |int b=>obtain⟨t,rfl⟩:=rx;exact SeqAt.EqAt.none_int b t
  |str b=>obtain⟨t,rfl⟩:=rx;exact SeqAt.EqAt.none_str b t
  |_=>exact absurd (show false=true from fx) aaC
 |bl a =>
  cases ry
  cases x with
  |non=>cases rx;exact SeqAt.EqAt.bool_none a
  |bl b=>cases rx;exact SeqAt.EqAt.bool_bool a b
  |int b=>obtain⟨t,rfl⟩:=rx;exact SeqAt.EqAt.bool_int a b t
  |str b=>obtain⟨t,rfl⟩:=rx;exact SeqAt.EqAt.bool_str a b t
  |_=>exact absurd (show false=true from fx) aaC
 |int a =>
  obtain⟨t',rfl⟩:=ry
  cases x with
  |non=>cases rx;exact SeqAt.EqAt.int_none a t'
  |bl b=>cases rx;exact SeqAt.EqAt.int_bool a t' b
  |int b=>obtain⟨t,rfl⟩:=rx;exact SeqAt.EqAt.int_int a t' b t
  |str b=>obtain⟨t,rfl⟩:=rx;exact SeqAt.EqAt.int_str a t' b t
  |_=>exact absurd (show false=true from fx) aaC
 |str a =>
  obtain⟨t',rfl⟩:=ry
  cases x with
  |non=>cases rx;exact SeqAt.EqAt.str_none a t'
  |bl b=>cases rx;exact SeqAt.EqAt.str_bool a t' b
  |int b=>obtain⟨t,rfl⟩:=rx;exact SeqAt.EqAt.str_int a t' b t
  |str b=>obtain⟨t,rfl⟩:=rx;exact SeqAt.EqAt.str_str a t' b t
  |_=>exact absurd (show false=true from fx) aaC
 |_=>exact absurd (show false=true from fy) aaC
def P9(x:V)(u:Value):Bool:=match u with
 | .none=>xP .non x
 | .bool b=>xP (.bl b) x
 | .int i _=>xP (.int i) x
 | .str z _=>xP (.str z) x
 |_=>false
theorem FP{x y:V}{u:Value}(r:RelV y u)(f:dB y=true):P9 x u=xP y x:=by
 cases y with
 |non=>cases r;rfl
 |bl b=>cases r;rfl
 |int i=>obtain⟨t,rfl⟩:=r;rfl
 |str z=>obtain⟨t,rfl⟩:=r;rfl
 |_=>exact absurd (show false=true from f) aaC
theorem Ag{A:Around}{s:Shared}{x:V}{v:Value}(rx:RelV x v)(fx:dB x=true):∀{xs:List V}{us:List Value},Vals xs us->xs.all dB=true->∀u∈us,SeqAt.EqAt A s u v (P9 x u)
 |_,_,.nil,_=>λu hu=>by cases hu
 |y::xs,u::us,.cons r t,f=>λu' hu=>by
  rw[List.all_cons,Bool.and_eq_true]at f
  rcases aas.mp hu with rfl|hu
  ·rw[FP r f.1];exact yw r rx f.1 fx
  ·exact Ag rx fx t f.2 u' hu
theorem yx:mG X (compareOp .NotIn) (λx y H Q=>∃i j,x=.str i/\y=.str j/\Q (.bl (!(!(Builtin.Str.occurrences j i 0 j.length 1).isEmpty))) H):=by
 intro pins s σ H x y v u Q I rx ry h
 obtain⟨i,j,rfl,rfl,q⟩:=h
 obtain⟨t,rfl⟩:=rx
 obtain⟨t',rfl⟩:=ry
 exact notIn_str ⟨.bl _,H,I,rfl,q⟩
theorem yy:dw X (.builtin "len") (λxs H Q=>∃p ys,xs=[.ref p]/\(aK X.K H p ys\/bH X.K H p ys)/\Q (.int ys.length) H):=by
 intro pins s σ H xs us Q I r h
 obtain⟨p,ys,rfl,hq,q⟩:=h
 obtain⟨u,rfl,rx⟩:=vals1 r
 cases rx
 have hn:=qM
 rcases hq with hq|hq
 ·obtain⟨its,r',pl,hz⟩:=I.list hq
  have hlen:=r'.length
  exact Calls.call_len_list pl.isList (by simp only[aak]<;>omega) ⟨.int ys.length,H,I.tok _,⟨s.toks+1,by rw[aak,hlen]⟩,q⟩
 ·obtain⟨its,r',pl,hz⟩:=I.tuple hq
  have hlen:=r'.length
  exact len_tuple pl (by simp only[aak]<;>omega) ⟨.int ys.length,H,I.tok _,⟨s.toks+1,by rw[aak,hlen]⟩,q⟩
theorem cQ:dw X (.builtin "len") (λxs H Q=>∃z,xs=[.str z]/\z.length<=sizeLine/\Q (.int z.length) H):=by
 intro pins s σ H xs us Q I r h
 obtain⟨z,rfl,hz,q⟩:=h
 obtain⟨u,rfl,t,rfl⟩:=vals1 r
 have hn:=qM
 exact len_str 'c' ⟨.int z.length,H,I.tok _,⟨_,rfl⟩,q⟩
theorem yz:dw X (.type "list") (λxs H Q=>∃p ys,xs=[.ref p]/\(aK X.K H p ys\/bH X.K H p ys)/\∀l,H l=none->Q (.ref l) (upd H l (.lst ys))):=by
 intro pins s σ H xs us Q I r h
 obtain⟨p,ys,rfl,hq,q⟩:=h
 obtain⟨u,rfl,rx⟩:=vals1 r
 cases rx
 have fin:∀(its:List Value),Vals ys its->ys.length<=sizeLine->∀(h':Heap)(c':Nat),(∀b o',s.heap.get? b=some o'->h'.get? b=some o')->h'.get? s.heap.objs.size=some {cls:=.type "list",dict:=none,data:=.seq its.toArray c',slots:=#[]}->EP X pins σ Q (.ref s.heap.objs.size) {s with heap:=h'}:=λits r' hz h' c' kp e =>
  ⟨.ref s.heap.objs.size,_,I.laid (t':=s.toks) kp (aao _) (show cY X.prog X.w _ h' _ (.lst ys) from⟨hz,its,c',r',e⟩),rfl,q _ (I.hok.fresh (aao _))⟩
 rcases hq with hq|hq
 ·obtain⟨its,r',pl,hz⟩:=I.list hq
  have hlen:=r'.length
  obtain⟨o,ho,hc,n,hd⟩:=pl.isList
  exact call_list_seq p (.inl rfl) ho hc hd (λh' c' kp e=>fin its r' hz h' c' kp e) (by simp only[aak]<;>omega)
 ·obtain⟨its,r',pl,hz⟩:=I.tuple hq
  have hlen:=r'.length
  obtain⟨o,ho,hc,n,hd⟩:=pl
  exact call_list_seq p (.inr rfl) ho hc hd (λh' c' kp e=>fin its r' hz h' c' kp e) (by simp only[aak]<;>omega)
theorem wk:dw X (.type "tuple") (λxs H Q=>∃p ys,xs=[.ref p]/\((aK X.K H p ys/\∀l,H l=none->Q (.ref l) (upd H l (.tup ys)))\/(bH X.K H p ys/\Q (.ref p) H))):=by
 intro pins s σ H xs us Q I r h
 obtain⟨p,ys,rfl,h⟩:=h
 obtain⟨u,rfl,rx⟩:=vals1 r
 cases rx
 rcases h with ⟨hq,q⟩|⟨hq,q⟩
 ·obtain⟨its,r',pl,hz⟩:=I.list hq
  have hlen:=r'.length
  refine call_tuple_list pl.isList (λh' kp=>?_) (by simp only[aak]<;>omega)
  have I1:Inv X pins σ H {s with heap:=h'}:=I.kept (t':=s.toks) kp
  have I2:Inv X pins σ (upd H h'.objs.size (.tup ys)) {s with heap:=h'.push {cls:=.type "tuple",data:=.seq its.toArray}} :=
   I1.laid (t':=s.toks) (λb o e=>aap _ e) (aao _) (show cY X.prog X.w _ _ _ (.tup ys) from⟨hz,its,r',IsTup.new _ _⟩)
  exact⟨.ref h'.objs.size,_,I2,O,q _ (I1.hok.fresh (aao _))⟩
 ·obtain⟨its,r',pl,hz⟩:=I.tuple hq
  exact call_tuple_same pl ⟨.ref p,H,I,rfl,q⟩
def V8(K:W.Frag)(T:String)(x:V)(H:Hp):Prop:=match x with
 | .str _=>T="str"
 | .int _=>T="int"
 | .ref p=>(T="list"/\∃xs,aK K H p xs)\/(T="tuple"/\∃o,K.lookup p=some o/\o.cls=.type "tuple"/\o.dict=none)\/
   (T="dict"/\((∃kvs,H p=some (.dK kvs))\/∃kvs,H p=some (.dT kvs)))\/(T="set"/\∃S n,H p=some (.set S n))
 |_=>False
theorem K5{pins:List 'f'}{σ:St}{H:Hp}{s:Shared}{T:String}{x:V}{v:Value}(I:Inv X pins σ H s)(r:RelV x v)(ty:V8 X.K T x H):s.TypeIs v T/\∀a,v=.ref a->∃ob,s.heap.get? a=some ob/\ob.dict=none:=by
 cases x with
 |str z =>
  obtain⟨t,rfl⟩:=r
  cases(show T="str" from ty)
  exact⟨typeIs_str s z t,λ_ e=>nomatch e⟩
 |int i =>
  obtain⟨t,rfl⟩:=r
  cases(show T="int" from ty)
  exact⟨typeIs_int s i t,λ_ e=>nomatch e⟩
 |ref p =>
  cases r
  rcases ty with ⟨rfl,xs,hq⟩|⟨rfl,o,hk,hc,hd⟩|⟨rfl,hk⟩|⟨rfl,S,n,hk⟩
  ·obtain⟨its,_,pl,_⟩:=I.list hq
   refine⟨pl.isList.typeIs,λa e=>?_⟩
   cases e
   obtain⟨o,n,e,c,hd,_⟩:=pl
   exact⟨o,e,hd⟩
  ·refine⟨⟨o,I.kN p o hk,hc⟩,λa e=>?_⟩
   cases e
   exact⟨o,I.kN _ o hk,hd⟩
  ·have z:∃o,s.heap.get? p=some o/\o.ExactDict:=by
    rcases hk with ⟨kvs,hk⟩|⟨kvs,hk⟩
    ·obtain⟨_,_,_,_,o,_,_,e,ex,_⟩:=I.hok p _ hk
     exact⟨o,e,ex⟩
    ·obtain⟨_,_,_,_,o,_,_,e,ex,_⟩:=I.hok p _ hk
     exact⟨o,e,ex⟩
   obtain⟨o,e,ex⟩:=z
   refine⟨⟨o,e,ex.1⟩,λa e2=>?_⟩
   cases e2
   exact⟨o,e,ex.2.1⟩
  ·obtain⟨o,_,_,_,e,ex,_⟩:=I.hok p _ hk
   refine⟨⟨o,e,ex.1⟩,λa e2=>?_⟩
   cases e2
   exact⟨o,e,ex.2.1⟩
 |_=>exact False.elim ty
def V9(K:W.Frag)(T:String)(r:V->List V->Hp->VK->Prop)(to:TE)(t:TA):TE:=λσ H Q=>to σ H λx H1=>V8 K T x H1/\t σ H1 λxs H2=>r x xs H2 Q
variable{o e:Expr}{es:List Expr}{to:TE}{t:TA}{name:Str}{apos cpos:Pos}{T id:String}{r:V->List V->Hp->VK->Prop}
theorem NK(pa:PlainAttrs T)(slot:Slot T name id)(hty:typeOf (.builtin id)=pure (.type "method_descriptor"))(hm:Ik X id r)(ho:PE X o to)(ha:PA X (e::es) t)(hbase:attributeBase o name X.env (eval o X.env)=eval o X.env:=by rfl)(hfew:((backTo cpos (starEach (e::es) X.env)).all (λx=>!x.1)&&(backToKw cpos (keywordEach [] X.env)).all (λx=>x.1.isSome)
   && decide ((e::es).length+([]:List Keyword).length+(if ([]:List Keyword).isEmpty then 0 else 1)<30))=true:=by rfl)(hline:(apos.endLine==cpos.line)=true:=by rfl)(hs:starEach (e::es) X.env=(false,eval e X.env)::starEach es X.env:=by rfl)(hplain:(backTo cpos (starEach es X.env)).any (·.1)=false:=by rfl):PE X (.Call (.Attribute o name apos) (e::es) [] cpos) (V9 X.K T r to t):=by
 intro pins s σ H Q I h
 refine wpAny_Call_method_late hbase hfew hline rfl (cC (ho pins s σ H _ I h) λv s1 ⟨x,H1,I1,r1,ty,q1⟩=>?_)
 obtain⟨h1,h2⟩:=K5 I1 r1 ty
 refine⟨T,id,pa,slot,hty,h1,h2,?_⟩
 have hA:=ha cpos pins s1 σ H1 _ I1 q1
 rw[hs]at hA⊢
 refine Calls.callWith_builtin (by show(false||(backTo cpos (starEach es X.env)).any (·.1))=false;rw[hplain]<;>rfl) (Calls.evalArgs_plain ?_)
 exact cC hA λus s2 ⟨vs,H2,I2,r2,q2⟩=>hm pins s2 σ H2 x vs v us Q I2 r1 r2 q2
end
def XX(X:Cx)(id:String)(r:V->List V->Hp->VK->Prop):Prop :=
 ∀(pins:List 'f')(s:Shared)(σ:St)(H:Hp)(x:V)(xs:List V)(v:Value)(us:List Value)(Q:VK),Inv X pins σ H s->RelV x v->Vals xs us->r x xs H Q->wpAny 'd' X.A (call (.builtin id) (v::us)) (EP X pins σ Q) X.xe s
theorem Vals.one:∀{x:V}{us:List Value},Vals [x] us->∃u,us=[u]/\RelV x u
 |_,_,.cons r .nil=>⟨_,rfl,r⟩
section
variable{X:Cx}{pins:List 'f'}{σ:St}{H:Hp}{s:Shared}{l b:Addr}{xs ys zs:List V}
theorem Inv.QZ{its its':List Value}{n:Nat}{f:Array Value->Array Value}{t':Nat}(I:Inv X pins σ H s)(hH:H l=some (.lst xs))(e:s.heap.get? l=some {cls:=.type "list",data:=.seq its.toArray n})(hf:f its.toArray=its'.toArray)(hv:Vals ys its')(hz:ys.length<=sizeLine):Inv X pins σ (upd H l (.lst ys)) {s with heap:=s.heap.update l (Obj.mapSeq f),toks:=t'}:=by
 have q:=PySem.IsL.update e f
 rw[hf]at q
 refine I.write (x:=l) (e:=l) (by rw[hH];exact trivial) (.inl rfl) (λb' u hb hu=>(aaW s.heap (Obj.mapSeq f) (abm hb)).trans hu) ⟨_,q⟩ ?_
 exact⟨hz,its',_,hv,q⟩
theorem Inv.K6{its:List Value}{t':Nat}(I:Inv X pins σ H s)(hv:Vals ys its)(hz:ys.length<=sizeLine):Inv X pins σ (upd H s.heap.objs.size (.lst ys)) {s with heap:=s.heap.push {cls:=.type "list",data:=.seq its.toArray},toks:=t'} :=
 I.laid (λ_ _ q=>aap _ q) (aao _) ⟨hz,its,0,hv,aaG _ rfl⟩
theorem Inv.fresh(I:Inv X pins σ H s):H s.heap.objs.size=none:=I.hok.fresh (aao _)
theorem Inv.K7(I:Inv X pins σ H s)(hH:H l=some (.lst xs)):xs.length<=sizeLine/\∃(its:List Value)(n:Nat),Vals xs its/\xs.length=its.length/\s.heap.get? l=some {cls:=.type "list",data:=.seq its.toArray n}:=by
 obtain⟨z,its,n,r,e⟩:=I.hok l _ hH
 exact⟨z,its,n,r,r.length,e⟩
end
section
variable{X:Cx}
def Io:V->List V->Hp->VK->Prop:=λx vs H Q=>∃l xs y,x=.ref l/\vs=[y]/\H l=some (.lst xs)/\xs.length<sizeLine/\Q .non (upd H l (.lst (xs++[y])))
theorem bu:XX X "list.append" Io:=by
 intro pins s σ H x vs v us Q I rx rv h
 obtain⟨l,xs,y,rfl,rfl,hH,hz,q⟩:=h
 cases rx
 obtain⟨u,rfl,ru⟩:=rv.one
 obtain⟨z,its,n,r,hl,e⟩:=I.K7 hH
 refine call_meets F.slot_list_append ⟨_,e,rfl⟩ F.entry_list_append (F.args_list_append_2 _ _) (PySem.list_append l its.toArray n u (by rw[aak];omega)) ⟨e,?_⟩
 refine⟨.non,_,I.QZ (its':=its++[u]) hH e (by simp) (r.append (.cons ru .nil)) ?_,rfl,q⟩
 rw[aaJ,List.length_singleton]
 omega
def Q0:R2:=λx y H Q=>∃l b xs zs,x=.ref l/\y=.ref b/\H l=some (.lst xs)/\H b=some (.lst zs)/\xs.length+zs.length<=sizeLine/\∀p,H p=none->Q (.ref p) (upd H p (.lst (xs++zs)))
theorem FT:mG X (binaryOp .Add) Q0:=by
 intro pins s σ H x y v u Q I rx ry h
 obtain⟨l,b,xs,zs,rfl,rfl,hH,hB,hz,q⟩:=h
 cases rx
 cases ry
 obtain⟨z,its,n,r,hl,e⟩:=I.K7 hH
 obtain⟨z2,its2,n2,r2,hl2,e2⟩:=I.K7 hB
 refine PySem.P.add_list e e2 ?_ (by rw[aak,aak];omega)
 have ea:its.toArray++its2.toArray=(its++its2).toArray:=by simp
 rw[ea]
 exact⟨.ref _,_,I.K6 (t':=s.toks) (r.append r2) (by rw[aaJ];omega),rfl,q _ I.fresh⟩
end
section
variable{prog:Program}{w:World}{A:Around}{E:Value->Shared->Prop}{s:Shared}
set_option maxRecDepth 100000 in
end
section
variable{X:Cx}
end
end L2
namespace Att
open PySem PySem.W PySem.Calls PyProof.Rows
theorem tF{P:Params}{h:Heap}:∀(ns:List Int)(vs:List Value),WellAll P h vs (ns.map WData.int)->IntsAre vs ns:=by
 intro ns
 induction ns with
 |nil =>
  intro vs w
  rw[List.map_nil]at w
  cases w
  exact .nil
 |cons n ns ih =>
  intro vs w
  rw[abi]at w
  cases w with
  |cons a b =>
   cases a
   exact .cons _ _ (ih _ b)
theorem D6{l:OpenLaw}{n:Nat}(hn:l.most=some n){P:Params}{h:Heap}{args:List WData}{vals:List Value}(hpre:l.row.toRowW.claim.pre args=true)(hwl:WellAll P h vals args):∃a vs ns,vals=[Value.ref a]/\args=[WData.list (ns.map WData.int)]/\h.get? a=some {cls:=.type "list",data:=.seq vs.toArray}/\IntsAre vs ns/\ns.length<=n:=by
 have hsh:WShape.hasAll [] args [.list .int]=true:=(pre_splitW hpre).1
 have hc:l.pre.holds [] {args:=args}=true:=(pre_splitW hpre).2
 obtain⟨d,r,rfl,h1,h2⟩:=hasAllW_cons hsh
 obtain rfl:=hasAllW_nil h2
 obtain⟨xs,rfl,h3⟩:=hasW_list h1
 obtain⟨ns,rfl⟩:=items_int h3
 have hlen:ns.length<=n:=by
  unfold OpenLaw.pre at hc
  have h4:(WTm.not (.lt (.lit (.int (n:Int))) (.len (.arg 0)))).holds [] {args:=[.list (ns.map .int)]}=true:=by
   have h4:=(holds_andW hc).1
   rw[hn]at h4
   exact h4
  have h5:=condW_of h4 (w_not (w_lt w_lit (w_len_list (w_arg rfl))))
  rw[aaj]at h5
  refine Nat.le_of_not_lt λq=>?_
  have q':(n:Int)<((ns.length:Nat):Int):=by omega
  first
   | (rw[aay q']at h5;exact absurd h5 'b')
   | (simp at h5;omega)
 cases hwl with
 |cons w1 w2 =>
  cases w2
  cases w1 with
  |list ho hall=>exact⟨_,_,ns,rfl,rfl,ho,tF ns _ hall,hlen⟩
theorem D7(l:OpenLaw)(args:List WData):l.row.toRowW.claim.post args (.bool true) args=true :=
 postW_of (r:=l.row.toRowW) (X:=(true==true))
  (show WShape.has [] (.bool true) .bool=true by first|rfl|decide|simp[WShape.has,WShape.arms,WShape.armsAll])
  (show(WTm.eq .res (.lit (.bool true))).value [] {args:=args,res:=some (.bool true),after:=args}=some (.bool (true==true)) from w_eq_bool (w_res rfl) w_lit) rfl
theorem Ah{l:OpenLaw}{n:Nat}{q:Program}{loose:List Str}{XP:(Str->Option Value)->Heap->Prop}{YP:World->Heap->Prop}{d:DefRec}(hn:l.most=some n)(hdf:d.params.defaults=[])(call:∀(w:World)(s₀ s₁:Shared)(mg mb:Str->Option Value)(fa:Addr)(o:Obj)(pm cd doc:Value)(a:Addr)(vs:List Value)(ns:List Int),Ground q loose [] XP w s₀ mg mb s₁.heap->YP w s₁.heap->s₁.heap.get? fa=some o->o.data=.func (docDef d.name d.params d.body d.scope pm cd doc)->s₁.heap.CodeRec cd d.name->mg d.name=some (.ref fa)->s₁.heap.get? a=some {cls:=.type "list",data:=.seq vs.toArray}->IntsAre vs ns->ns.length<=n->s₁.gens = #[]->codeAny (model l.prog w) callerA (.call (.ref fa) ⟨[.ref a],[]⟩) (λr s'=>r=.ok (.ret (.bool true))/\OldK s₁.heap s'.heap/\s'.os=s₁.os/\AllBare s'.gens) s₁):WalkO q loose XP YP l.row.toRowW d [] (λf vs=>PySem.call f vs):=by
 intro w s₀ s₁ mg mb G Y fa o pm cd doc dV kV ho hd hcd hD hmg hg args vals as hpre hlay hrd hwl hlo
 obtain rfl:dV=.none:=Dflts.none hD hdf
 obtain rfl:kV=.none:=Dflts.noKw hD
 obtain⟨a,vs,ns,rfl,rfl,hobj,hints,hlen⟩:=D6 hn hpre hwl
 refine enter_call (codeAny_mono (call w s₀ s₁ mg mb fa o pm cd doc a vs ns G Y ho (fd_plain hd) hcd hmg hobj hints hlen hg) λr s' hq=>?_)
 obtain⟨rfl,h2,h3,h4⟩:=hq
 exact⟨.inl ⟨.bool true,.bool true,[],rfl,λ_=>rfl,.bool true,D7 l _,λ_=>⟨List.Pairwise.nil,λ_ hm=>(nomatch hm)⟩⟩,h2,h3,h4⟩
section
variable{prog:Program}{w:World}{A:Around}{E:Value->Shared->Prop}{s:Shared}{K:Frag}
end
end Att
namespace L2
open PySem PySem.Spec PyProof.Rows
theorem xQ:∀{vs:List Value}{ns:List Int},IntsAre vs ns->Vals (ns.map V.int) vs
 |_,_,.nil=>.nil
 |_,_,.cons n t h=>.cons ⟨t,rfl⟩ (xQ h)
def K8(H:Hp):Prop:=∀b,H b=none\/∃o xs,H b=some (.BG o (.lst xs))
theorem FU{P:Program}{w:World}{K:W.Frag}{mg mb:Str->Option Value}{CX:D3}{k:Nat}{fa a:Addr}{fd:FuncData}{x:Str}{sp:Sp}{s₁:Shared}{vs:List Value}{ns:List Int}(KX:K.In s₁.heap)(hns:s₁.heap.Ns mainGlobals mg)(hb:s₁.heap.Ns builtinsNs mb)(XY:∀x:Str,x ≠ "__name__"->mb x=bootBuiltins x)(hlim:s₁.heap.NoLimit)(hg:s₁.gens = #[])(ha:s₁.heap.get? a=some {cls:=.type "list",data:=.seq vs.toArray})(hi:IntsAre vs ns)(hl:ns.length<=sizeLine)(hr:cM k callerA)(F:∀base:Heap,K.In base->base.Ns mainGlobals mg->aW P w K mg base CX k fa fd [x] sp)(hbind:∀(s:Shared)(u:Value),BindsTo s fd ⟨[u],[]⟩ [(x,u)])(E8:∀H:Hp,K8 H->aK K H a (ns.map V.int)->sp [.ref a] H (λv _=>v=.bl true) λ_ _ _=>False)(Q2:∀H e s',CX [] H s₁ (λ_ _ _=>False) e s'->False):codeAny (model P w) callerA (.call (.ref fa) ⟨[.ref a],[]⟩) (λr s'=>r=.ok (.ret (.bool true))/\OldK s₁.heap s'.heap/\s'.os=s₁.os/\AllBare s'.gens) s₁:=by
 have rv:=xQ hi
 have Q3:=hi.length
 have core:∀H:Hp,K8 H->aK K H a (ns.map V.int)->qI P w H s₁.heap->(∀b,H b≠none->b=a)->(H a≠none->K.lookup a=none)->codeAny (model P w) callerA (.call (.ref fa) ⟨[.ref a],[]⟩) (λr s'=>r=.ok (.ret (.bool true))/\OldK s₁.heap s'.heap/\s'.os=s₁.os/\AllBare s'.gens) s₁:=by
  intro H hO hS hok hA hK
  have Dg:∀{b:Addr}{o:Obj},s₁.heap.get? b=some o->H b=none->(yi s₁.heap H).get? b=some o:=λe n=>Fj e n
  have NG:∀{b:Addr}{o:Obj}{es:Array DictEntry}{ep:Nat},s₁.heap.get? b=some o->o.data=.dict es ep->H b=none:=λ{b o es ep} e d=>by
   cases q:H b with
   |none=>rfl
   |some u =>
    have e':b=a:=hA b (by rw[q];simp)
    subst e'
    rw[ha]at e;cases e
    have d':Data.seq vs.toArray _=Data.dict es ep:=d
    cases d'
  have Qa:∀{b:Addr}{m:Str->Option Value},s₁.heap.Ns b m->(yi s₁.heap H).Ns b m:=λ{b m} ⟨o,es,ep,e,d,r⟩=>⟨o,es,ep,Dg e (NG e d),d,r⟩
  have Wa:K.In (yi s₁.heap H):=λb o e=>Dg (KX b o e) (by
   cases q:H b with
   |none=>rfl
   |some u =>
    have e':b=a:=hA b (by rw[q];simp)
    subst e'
    rw[hK (by rw[q];simp)]at e;cases e)
  have hM:Mod K mg (yi s₁.heap H):=⟨Wa,Qa hns,⟨mb,Qa hb,XY⟩,let ⟨mc,h1,h2⟩:=hlim;⟨mc,Qa h1,h2⟩⟩
  have e0:wc P w K mg (yi s₁.heap H) callerA [] s₁ H:=⟨rfl,hM,λb o e=>HQ e,Nat.le_of_eq (DT _ _),trivial,λb hb=>absurd (show b∈([]:List Addr) from hb) (by simp),hok,.of_eq hg⟩
  refine codeAny_mono ((F _ Wa (Qa hns)).run callerA [] s₁ H ⟨[.ref a],[]⟩ [.ref a] [.ref a] _ _ hr e0 (hbind s₁ (.ref a)) (.cons rfl .nil) (E8 H hO hS)) λr s' h=>?_
  cases r with
  |error e=>exact(Q2 H e s' h).elim
  |ok fl =>
   cases fl with
   |next=>exact False.elim h
   |brk=>exact False.elim h
   |cont=>exact False.elim h
   |ret u =>
    obtain⟨v,H',os,bare,un,Q4,r',q⟩:=h
    have q':v=.bl true:=q
    subst q'
    obtain rfl:u=Value.bool true:=r'
    refine⟨O,OldK.of_keep λb o e=>?_,os,bare⟩
    cases q:H b with
    |none=>exact un.keep b o e q (by intro z;exact absurd (show b∈([]:List Addr) from z) (by simp)) (by simp)
    |some u =>
     rcases hO b with z|⟨ob,xs,z⟩
     ·rw[q]at z;cases z
     ·have z2:=un.ou b ob _ z
      obtain⟨e1,_⟩:=hok b _ z
      obtain⟨e2,_⟩:=Q4 b _ z2
      rw[e]at e1;cases e1
      exact e2
 cases hk:K.lookup a with
 |some o =>
  have e:=KX a o hk
  rw[ha]at e
  cases e
  refine core (λ_=>none) (λ_=>.inl rfl) (.inr ⟨_,vs.toArray,_,hk,rfl,rfl,rfl,by rw[aak,Q3];exact hl,by simpa using rv⟩) (λb u z=>by have z':(none:Option HO)=some u:=z;cases z') (λb z=>absurd rfl z) λz=>absurd rfl z
 |none =>
  refine core (λb=>if b=a then some (.BG {cls:=.type "list",data:=.seq vs.toArray} (.lst (ns.map V.int))) else none) (λb=>?_) (.inl (.inr ⟨{cls:=.type "list",data:=.seq vs.toArray},aal rfl⟩)) (λb u z=>?_) (λb z=>?_) λ_=>hk
  ·by_cases hb:b=a
   ·exact .inr ⟨_,_,aal hb⟩
   ·exact .inl (aah hb)
  ·by_cases hb:b=a
   ·have z':=(aal hb).symm.trans z
    cases z'
    subst hb
    exact⟨ha,by rw[aaj];exact hl,vs,_,rv,ha⟩
   ·have z':=(aah hb).symm.trans z
    cases z'
  ·by_cases hb:b=a
   ·exact hb
   ·exact absurd (aah hb) z
theorem Ip{l:W.OpenLaw}{n k:Nat}{q:Program}{loose:List Str}{XP:(Str->Option Value)->Heap->Prop}{YP:World->Heap->Prop}{d:DefRec}{K:Params->W.Frag}{CX:World->D3}{sp:World->Sp}{x:Str}(hn:l.most=some n)(hn2:n<=sizeLine)(hdf:d.params.defaults=[])(hr:cM k callerA)(hY:∀(w:World)(h:Heap),YP w h->(K w.params).In h)(F:∀(w:World)(mg:Str->Option Value)(fa:Addr)(h:Heap),(K w.params).In h->h.Ns mainGlobals mg->mg d.name=some (.ref fa)->∃fd:FuncData,(∀(s:Shared)(u:Value),BindsTo s fd ⟨[u],[]⟩ [(x,u)])/\∀base:Heap,(K w.params).In base->base.Ns mainGlobals mg->aW l.prog w (K w.params) mg base (CX w) k fa fd [x] (sp w))(E8:∀(w:World)(H:Hp)(a:Addr)(ns:List Int),ns.length<=n->K8 H->aK (K w.params) H a (ns.map V.int)->sp w [.ref a] H (λv _=>v=.bl true) λ_ _ _=>False)(Q2:∀(w:World)(H:Hp)(s:Shared)(e:Value)(s':Shared),CX w [] H s (λ_ _ _=>False) e s'->False):W.WalkO q loose XP YP l.row.toRowW d [] (λf vs=>PySem.call f vs):=by
 refine Att.Ah hn hdf λw s₀ s₁ mg mb fa o pm cd doc a vs ns G Y ho hd hcd hmg hobj hints hlen hg=>?_
 have KX:=hY w _ Y
 obtain⟨fd,hb,hF⟩:=F w mg fa _ KX G.T.g hmg
 exact FU KX G.T.g G.T.b G.T.builtins G.T.nolimit hg hobj hints (aaz hlen hn2) hr hF hb (λH hO hS=>E8 w H a ns hlen hO hS) λH e s'=>Q2 w H s₁ e s'
def inClass(s:Stmt)(j:Nat):Stmt:=match s with
 | .ClassDef _ _ _ body _ _ _ _ _ _ _=>body.getD j (.Pass ⟨0,0,0,0⟩)
 |_=>.Pass ⟨0,0,0,0⟩
def cR(s:Stmt):Arguments:=match s with
 | .FunctionDef _ a _ _ _ _ _ _ _ _=>a
 |_=>{posonlyargs:=[],args:=[],vararg:=none,kwonlyargs:=[],kw_defaults:=[],kwarg:=none,defaults:=[]}
def cA(s:Stmt):List Stmt:=match s with
 | .FunctionDef _ _ b _ _ _ _ _ _ _=>b
 |_=>[]
def av(s:Stmt):Scope:=match s with
 | .FunctionDef _ _ _ _ _ _ sc _ _ _=>sc
 |_=>{kind:=.function,names:=[],isGenerator:=false,isCoroutine:=false}
abbrev dW:D3:=λ_ _ _ _ _ _=>False
abbrev E0:XK:=λ_ _ _=>False
theorem xR{X:Cx}:Passes dW X E0:=λ_ _ _ _ _ _ _ h=>h.elim
structure eB(K:W.Frag)(x qual:Str)(st:Stmt)(f:Addr)(fd:FuncData):Prop where
 ex:∃(oc:Value)(od:Option Addr)(kV doc pm:Value)(an:Option Addr)(cdv ct:Value)(osl:Array (Option Value)),fd=W.fnOf x qual (cR st) (cA st) (av st) .none kV doc pm an cdv ct/\K.lookup f=some ⟨oc,od,.func fd,osl⟩/\W.codeIn K cdv qual=true
 kp:W.keepIn K (.ref f)=true
section
variable{P:Program}{w:World}{K:W.Frag}{mg:Str->Option Value}{base:Heap}
theorem eB.ok{x qual:Str}{st:Stmt}{f:Addr}{fd:FuncData}{N ps:List Str}{k:Nat}{sp:Sp}(F:eB K x qual st f fd)(S:aJ N ps (av st))(len:∀vs H Q E,sp vs H Q E->vs.length=ps.length)(hbody:∀(cdv:Value)(A:Around)(outer:List Env)(s:Shared)(H:Hp)(vs:List V)(Q:VK)(E:XK),cM k (A.deeper (envOfC qual (av st) s.heap.objs.size f cdv))->sp vs H Q E->∃t,BH (tE dW P w K mg base N qual (av st) f cdv A outer s H E).MO (cA st) t/\t {nx:=λ_ H'=>Q .non H',rt:=Q} (start N vs) H):aW P w K mg base dW (k+1) f fd ps sp:=by
 obtain⟨oc,od,kV,doc,pm,an,cdv,ct,osl,rfl,lk,hcd⟩:=F.ex
 refine FH lk hcd S len λA outer s H vs Q E hr E8=>?_
 obtain⟨t,h,q⟩:=hbody cdv A outer s H vs Q E hr E8
 exact⟨t,h.MO,q⟩
theorem eB.binds{x qual:Str}{st:Stmt}{f:Addr}{fd:FuncData}{ps:List Str}(F:eB K x qual st f fd)(h:∀(kV doc pm:Value)(an:Option Addr)(cdv ct:Value)(us:List Value),us.length=ps.length->bindArgs (W.fnOf x qual (cR st) (cA st) (av st) .none kV doc pm an cdv ct) ⟨us,[]⟩=pure (ps.zip us)):Binds K fd ps []:=by
 obtain⟨oc,od,kV,doc,pm,an,cdv,ct,osl,rfl,lk,hcd⟩:=F.ex
 exact .all (h kV doc pm an cdv ct)
theorem FW{x qual:Str}{st:Stmt}{f:Addr}{oc:Value}{od an:Option Addr}{osl:Array (Option Value)}{kV doc pm cdv ct:Value}(l:K.lookup f=some ⟨oc,od,.func (W.fnOf x qual (cR st) (cA st) (av st) .none kV doc pm an cdv ct),osl⟩)(c:W.codeIn K cdv qual=true)(k:W.keepIn K (.ref f)=true):eB K x qual st f (W.fnOf x qual (cR st) (cA st) (av st) .none kV doc pm an cdv ct):=⟨⟨oc,od,kV,doc,pm,an,cdv,ct,osl,rfl,l,c⟩,k⟩
end
theorem aY{A:Around}{k:Nat}(hr:cM k A):A.units+1<cLine:=aav (Nat.add_le_add_left (by decide:1<=64) _) hr.units
section
variable{X:Cx}
theorem pv(i:Nat){x:Str}{pos:Pos}(hN:X.N[i]?=some x:=by rfl)(hv:QA X.env.scope x:=by first|exact Or.inl rfl|exact Or.inr (Or.inl rfl)|exact Or.inr (Or.inr rfl))(hd:(x==("__debug__":Str))=false:=by decide)(hcd:(x==("__classdict__":Str))=false:=by decide):PE X (.Name x pos) (HU i):=KG hN hv hd hcd
end
theorem bW{A B:Prop}(h:B):if false=true then A else B:=by
 rw[aah aaC]
 exact h
theorem kL{A B:Prop}(h:A):if true=true then A else B:=by
 rw[aal rfl]
 exact h
theorem aS{c A B:Prop}[Decidable c](h1:c->A)(h2:¬c->B):if c then A else B:=by
 by_cases h:c
 ·rw[aal h]
  exact h1 h
 ·rw[aah h]
  exact h2 h
theorem NL{c A B:Prop}[Decidable c](hc:c)(h:B):if (!decide c)=true then A else B:=by
 rw[aay hc]
 exact bW h
def aD(H H':Hp):Prop:=∀b o,H b=some o->H' b=some o
theorem aD.refl(H:Hp):aD H H:=λ_ _ h=>h
theorem aD.trans{H H1 H2:Hp}(a:aD H H1)(b:aD H1 H2):aD H H2:=λc o h=>b c o (a c o h)
theorem aD.free{H H':Hp}(e:aD H H'){l:Addr}(h:H' l=Option.none):H l=Option.none:=by
 cases q:H l with
 |none=>rfl
 |some o =>
  rw[e l o q]at h
  cases h
theorem aD.seq{K:W.Frag}{H H':Hp}{a:Addr}{xs:List V}(e:aD H H')(h:aK K H a xs):aK K H' a xs:=by
 rcases h with (h|⟨o,h⟩)|h
 ·exact .inl (.inl (e _ _ h))
 ·exact .inl (.inr ⟨o,e _ _ h⟩)
 ·exact .inr h
end L2
set_option maxHeartbeats 4000000
namespace L2
open PySem PySem.Spec PyProof.Rows
def cS(env:Env):List (Str×NameKind)->List (Str×Addr)->List (Str×Addr)
 |[],cs=>cs
 | (n,k)::r,cs=>cS env r (if k==.free then (n,(env.cells.lookup n).getD 0)::cs else cs)
theorem iQ{scope:Scope}{env:Env}(h:∀n,(n,NameKind.free)∈scope.names->∃c,env.cells.lookup n=some c):closureFor scope env=pure (cS env scope.names []):=by
 simp only[closureFor]
 have key:∀(l:List (Str×NameKind))(cs:List (Str×Addr)),(∀n,(n,NameKind.free)∈l->∃c,env.cells.lookup n=some c)->(forIn l cs (λx r=>if (x.2==NameKind.free)=true then (cellOf env x.1 >>= λa=>pure (ForInStep.yield ((x.1,a)::r))) else pure (ForInStep.yield r)):Sem (List (Str×Addr)))=pure (cS env l cs):=by
  intro l
  induction l with
  |nil=>intro cs _;rfl
  |cons x l ih =>
   intro cs hl
   obtain⟨n,k⟩:=x
   have hl':∀n,(n,NameKind.free)∈l->∃c,env.cells.lookup n=some c:=λn hn=>hl n (aaq _ hn)
   rw[List.forIn_cons]
   by_cases hk:k=.free
   ·subst hk
    obtain⟨c,hc⟩:=hl n aat
    have e1:cellOf env n=pure c:=by unfold cellOf;rw[hc]
    simp only[beq_self_eq_true,abx,e1,pure_bind]
    rw[ih _ hl']
    simp only[cS,beq_self_eq_true,abx,hc,Option.getD_some]
   ·have hb:(k==NameKind.free)=false:=by simpa using hk
    simp only[hb,aa7,abH,pure_bind]
    rw[ih _ hl']
    simp only[cS,hb,aa7,abH]
 exact(congrArg (λz=>z >>= λr=>pure r) (key scope.names [] h)).trans rfl
theorem gO{env:Env}:∀(l:List (Str×NameKind))(cs:List (Str×Addr)),(∀n,(n,NameKind.free)∈l->∃c,env.cells.lookup n=some c)->(∀x c,cs.lookup x=some c->env.cells.lookup x=some c)->∀x c,(cS env l cs).lookup x=some c->env.cells.lookup x=some c
 |[],cs,_,h,x,c,e=>h x c e
 | (n,k)::r,cs,hl,h,x,c,e=>by
  refine gO r _ (λn hn=>hl n (aaq _ hn)) ?_ x c e
  intro y d hy
  by_cases hk:(k==NameKind.free)=true
  ·rw[aal hk]at hy
   have hk':k=.free:=by simpa using hk
   subst hk'
   obtain⟨c',hc'⟩:=hl n aat
   rw[hc',Option.getD_some,abh]at hy
   cases Q5:y==n with
   |true =>
    rw[Q5]at hy
    have:y=n:=by simpa using Q5
    subst this
    rw[hc'];exact hy
   |false=>rw[Q5]at hy;exact h y d hy
  ·rw[aah hk]at hy;exact h y d hy
theorem fV{env:Env}:∀(l:List (Str×NameKind))(cs:List (Str×Addr))(x:Str),((x,NameKind.free)∈l\/∃c,cs.lookup x=some c)->∃c,(cS env l cs).lookup x=some c
 |[],cs,x,h=>by
  rcases h with h|h
  ·cases h
  ·exact h
 | (n,k)::r,cs,x,h=>by
  refine fV r _ x ?_
  rcases h with h|⟨c,h⟩
  ·rcases aas.mp h with e|h
   ·cases e
    refine .inr ⟨(env.cells.lookup n).getD 0,?_⟩
    simp[abh]
   ·exact .inl h
  ·right
   by_cases hk:(k==NameKind.free)=true
   ·rw[aal hk,abh]
    cases x==n with
    |true=>exact⟨_,rfl⟩
    |false=>exact⟨c,h⟩
   ·rw[aah hk];exact⟨c,h⟩
theorem bZ{env:Env}(x:Str):∀(names:List (Str×NameKind)),(names.map λ(n,k)=>if (k==NameKind.free&&env.scope.kind==.function&&env.kindOf n==some .cell) then (n,NameKind.cell) else (n,k)).lookup x =
   (names.lookup x).map λk=>if (k==NameKind.free&&env.scope.kind==.function&&env.kindOf x==some .cell) then NameKind.cell else k
 |[]=>rfl
 | (n,k)::r=>by
  have ih:=bZ (env:=env) x r
  show List.lookup x ((if (k==NameKind.free&&env.scope.kind==.function&&env.kindOf n==some .cell)=true then (n,NameKind.cell) else (n,k))::_)=_
  cases hx:x==n with
  |true =>
   have e:x=n:=by simpa using hx
   subst e
   by_cases hc:(k==NameKind.free&&env.scope.kind==.function&&env.kindOf x==some .cell)=true
   ·rw[aal hc];simp only[abh,beq_self_eq_true,aa4,aal hc]
   ·rw[aah hc];simp only[abh,beq_self_eq_true,aa4,aah hc]
  |false =>
   by_cases hc:(k==NameKind.free&&env.scope.kind==.function&&env.kindOf n==some .cell)=true
   ·rw[aal hc];simp only[abh,hx];exact ih
   ·rw[aah hc];simp only[abh,hx];exact ih
structure aR(XN:List Str)(D8:Scope)(N:List Str)(nv:Nat)(js:List Nat)(scope:Scope):Prop where
 kind:scope.kind=.function
 cell:∀y∈scope.names,y.2≠.cell
 loc:∀y∈scope.names,y.2=.local->scope.names.lookup y.1=some .local
 free:∀y∈scope.names,y.2=.free->(D8.names.lookup y.1=some .cell\/D8.names.lookup y.1=some .free)
 nd:N.Nodup
 len:N.length=nv+js.length
 pl:js.map (λj=>XN[j]?)=(N.drop nv).map some
 fr:∀x∈N.drop nv,scope.names.lookup x=some .free
abbrev gP(X:Cx)(N:List Str)(scope:Scope)(C:Addr)(s:Shared)(H:Hp)(fp:List Addr):Cx where
 prog:=X.prog
 w:=X.w
 K:=X.K
 mg:=X.mg
 base:=X.base
 A:=X.A
 N:=N
 s₀:=s
 H₀:=H
 env:=compEnvC scope (cS X.env scope.names []) C X.env
 outer:=X.stack
 stack:=X.stack
 ex:=fp
 fn:=λ_=>false
 calm:=X.calm
 pn:=[]
 xe:=λ_ _=>False
def gQ(nv:Nat)(js:List Nat)(σ:St):St:=List.replicate nv none++js.map λj=>(σ[j]?).getD none
section
variable{X:Cx}{pins:List 'f'}{σ:St}{H:Hp}{s:Shared}
theorem BU{N:List Str}{nv:Nat}{js:List Nat}{scope:Scope}{fp:List Addr}{h1:Heap}{tk:Nat}(I:Inv X pins σ H s)(S:aR X.N X.env.scope N nv js scope)(hf:∀b∈fp,jv X pins H b)(hfl:∀b∈fp,b<s.heap.objs.size)(keep:∀b o,s.heap.get? b=some o->h1.get? b=some o)(ns:h1.Ns s.heap.objs.size λ_=>none):Inv (gP X N scope s.heap.objs.size s H fp) [] (gQ nv js σ) H {s with heap:=h1,toks:=tk}:=by
 have hfr:∀n,(n,NameKind.free)∈scope.names->∃c,X.env.cells.lookup n=some c:=λn hn=>I.ok.has n (S.free _ hn rfl)
 have sub:∀x c,(cS X.env scope.names []).lookup x=some c->X.env.cells.lookup x=some c:=gO scope.names [] hfr (λx c z=>by cases z)
 have K9:∀x,scope.names.lookup x≠some .cell:=λx z=>S.cell _ (aaU z) rfl
 have La:∀x,(relabel scope X.env).names.lookup x=some .cell\/(relabel scope X.env).names.lookup x=some .free->scope.names.lookup x=some .free:=by
  intro x hx
  have e:=bZ (env:=X.env) x scope.names
  have hx':(relabel scope X.env).names.lookup x=_:=e
  rw[hx']at hx
  cases q:scope.names.lookup x with
  |none=>rw[q]at hx;rcases hx with hx|hx<;>cases hx
  |some k =>
   rw[q,aa4]at hx
   cases k<;>first|rfl | (exact absurd q (K9 x)) | (exfalso;rcases hx with hx|hx<;>simp at hx)
 refine⟨⟨I.ok.mod,S.kind,I.ok.glob,I.ok.blt,aao _,λx y c h1 h2=>I.ok.inj x y c (sub _ _ h1) (sub _ _ h2),λx hx=>?_,λx c z=>(by cases z),I.ok.hd,I.ok.frames,.inl rfl,λb hb=>?_,λb o e=>?_,?_,λb o e hb=>?_,λb hb z=>?_,I.stack,I.uB⟩,O,I.bare,Un.kept keep,⟨_,ns,λi x v e1 e2 e3=>?_⟩,λx c e=>?_,I.hok.fresh (aao _),λx c e=>I.iA x c (sub _ _ e),λp hp=>absurd (show p∈([]:List 'f') from hp) (by simp),I.hok.kept keep,?_⟩
 ·exact fV _ _ _ (.inl (aaU (La x hx)))
 ·obtain⟨f0,f1,f2,f3,f4,f5⟩:=hf b hb
  exact⟨aaS (hfl b hb),λx c e=>f4 x c (sub x c e)⟩
 ·exact I.bs b o e
 ·exact aaz I.ok.E6 I.sz
 ·obtain⟨f0,f1,f2,f3,f4,f5⟩:=hf b hb
  rcases f3 with z|z
  ·exact I.ok.DU b o e z
  ·exact absurd (aaF (aaw e) (aaz I.ok.E6 z)) (abK _)
 ·obtain⟨f0,f1,f2,f3,f4,f5⟩:=hf b hb
  rcases aas.mp (I.ow b z) with q|q
  ·exact f1 q
  ·exact f2 q
 ·
  have hi:¬i<nv:=λhlt=>by
   unfold gQ at e2
   rw[List.getElem?_append_left (by simpa using hlt),List.getElem?_replicate,aal hlt]at e2
   cases e2
  obtain⟨k,rfl⟩:∃k,i=nv+k:=⟨i-nv,by omega⟩
  unfold gQ at e2
  rw[List.getElem?_append_right (by simp),abg,Nat.add_sub_cancel_left,aaT]at e2
  cases hj:js[k]? with
  |none=>rw[hj]at e2;cases e2
  |some j =>
   rw[hj,aa4]at e2
   have D9:(σ[j]?).getD none=some v:=aaA e2
   have hσ:σ[j]?=some (some v):=by
    cases q:σ[j]? with
    |none=>rw[q]at D9;cases D9
    |some z=>rw[q]at D9;exact congrArg some D9
   have hd:(N.drop nv)[k]?=some x:=by rw[List.getElem?_drop];exact e1
   have hX:X.N[j]?=some x:=by
    have q:=congrArg (λl=>l[k]?) S.pl
    simp only[aaT,hj,hd,aa4]at q
    exact aaA q
   have hfx:=S.fr x (aar hd)
   have kx:=S.free _ (aaU hfx) rfl
   obtain⟨m,_,hl⟩:=I.loc
   obtain⟨u,r,l⟩:=hl j x v hX hσ (.inr kx)
   refine⟨u,r,?_⟩
   rcases l with ⟨k1,_⟩|⟨_,c,hc,hcell⟩
   ·exfalso
    have Q6:X.env.scope.names.lookup x=some .local:=k1
    rcases kx with z|z<;>(rw[Q6]at z;cases z)
   ·obtain⟨c',hc'⟩:=fV (env:=X.env) scope.names [] x (.inl (aaU hfx))
    have e:=sub _ _ hc'
    rw[hc]at e;cases e
    refine .inr ⟨?_,c,hc',hcell.keeps keep⟩
    have e:=bZ (env:=X.env) x scope.names
    have e':(relabel scope X.env).names.lookup x=_:=e
    rw[hfx,aa4]at e'
    show(relabel scope X.env).names.lookup x=some .cell\/(relabel scope X.env).names.lookup x=some .free
    rw[e']
    split
    ·exact .inl rfl
    ·exact .inr rfl
 ·obtain⟨v,q⟩:=I.cell x c (sub _ _ e)
  exact⟨v,q.keeps keep⟩
 ·unfold gQ
  show _=N.length
  rw[aaJ,abg,aaj,S.len]
end
def yC(X:Cx)(ifs:List Expr)(t:TT):Prop :=
 ∀(pins:List 'f')(s:Shared)(σ:St)(H:Hp)(Q:Bool->Hp->Prop),Inv X pins σ H s->t σ H Q->wpAny 'd' X.A (forIn ifs true λc r=>if r=true then do let ok ←isTrue c X.env (eval c X.env);pure (ForInStep.yield ok) else pure (ForInStep.yield r)) (TP X pins σ Q) X.xe s
def Lb:TT:=λ_ H Q=>Q true H
theorem cB{X:Cx}:yC X [] Lb:=λ_ _ _ H _ I h=>wpAny_tests_nil ⟨H,I,h⟩
theorem yD{X:Cx}{c:Expr}{t:TT}(h:PT X c t):yC X [c] t:=λpins s σ H Q I q=>wpAny_tests_one (h pins s σ H Q I q)
def uP(J:It)(g:TG)(tt:TT)(te:TE)(Q:VK)(D:Addr)(τ:St)(H:Hp):Prop :=
 ∃W:Nat->Nat->List V->St->Hp->Prop,(∃m,W 0 m [] τ (upd H D (.lst [])))/\∀i m ys τ H,W i m ys τ H->H D=some (.lst ys)/\((J.stop i H/\Q (.ref D) H)\/(J.go i H/\∃N:List V->St->Hp->Prop,(∀zs σ' H',N zs σ' H'->∃m',m'<m/\W (i+1) m' zs σ' H')/\∀x H',J.Fq i H x H'->g x τ H' λτ2 H2=>tt τ2 H2 λb H3 =>
   if b=true then te τ2 H3 λy H4=>H4 D=some (.lst ys)/\ys.length<sizeLine/\N (ys++[y]) τ2 (upd H4 D (.lst (ys++[y])))
   else N ys τ2 H3))
def FY(wi:TI)(g:TG)(tt:TT)(te:TE)(nv:Nat)(js:List Nat):TE:=λσ H Q=>wi σ H λJ H1=>∀D,H1 D=none->uP J g tt te Q D (gQ nv js σ) H1
theorem uQ{prog:Program}{w:World}{A:Around}{R:Result->Shared->Prop}{s:Shared}{elt target iter:Expr}{ifs:List Expr}{scope:Scope}{pos:Pos}{it acc:Value}{env:Env}(I:Nat->Shared->Prop)(turn:∀n s,I n s->wpAny (model prog w) A (pyNext it) (λr s₁=>match r with
   |none=>R (.ok .next) s₁
   |some v=>wpAny (model prog w) A (letOwnedTupleGo target it v) (λ_ s₁'=>wpAny (model prog w) A (assign target env v) (λ_ s₂ =>
     wpAny (model prog w) A (forIn ifs true λc r=>if r=true then do let ok ←isTrue c env (eval c env);pure (ForInStep.yield ok) else pure (ForInStep.yield r)) (λok s₃ =>
      if ok=true then wpAny (model prog w) A (eval elt env) (λx s₄ =>
       wpAny (model prog w) A (call (.builtin "list.append") [acc,x]) (λ_ s₅=>∃m,m<n/\I m s₅) (λ_ _=>False) s₄) (λ_ _=>False) s₃
      else ∃m,m<n/\I m s₃) (λ_ _=>False) s₂) (λ_ _=>False) s₁') (λ_ _=>False) s₁) (λ_ _=>False) s)(n:Nat)(h:I n s):codeAny (model prog w) A (.compLoop (.ListComp elt [⟨target,iter,ifs,0⟩] scope pos) 0 it acc env) R s:=by
 refine codeAny_loop rfl I (λn s hI=>?_) n h
 show wpAny _ A ((compTurn (.ListComp elt [⟨target,iter,ifs,0⟩] scope pos) 0 it acc env).onRaise (λx=>do noteFrame x env;theTreesLotGoes x)) _ _ s
 refine wpAny_noted (abk (E:=λ_ _=>False) ?_ (λ_ _ q=>q) λ_ _ q=>q.elim)
 rw[compTurn_list]
 refine aai (wpAny_standAt (aai (abk (turn n s hI) (λr s₁ h₁=>?_) λ_ _ h'=>h')))
 cases r with
 |none=>exact aaB h₁
 |some v =>
  refine aai (abk h₁ (λ_ s₁' h₁'=>?_) λ_ _ h'=>h')
  refine aai (abk h₁' (λ_ s₂ h₂=>aai (abk h₂ (λok s₃ h₃=>?_) λ_ _ h'=>h')) λ_ _ h'=>h')
  cases ok with
  |false=>exact aaB ⟨rfl,h₃⟩
  |true =>
   exact aai (aai (abk h₃ (λx s₄ h₄=>aai (abk h₄ (λ_ s₅ h₅=>aaB (aaB ⟨rfl,h₅⟩)) λ_ _ h'=>h')) λ_ _ h'=>h'))
section
variable{X:Cx}{elt tg iter:Expr}{ifs:List Expr}{scope:Scope}{pos:Pos}{N:List Str}{nv:Nat}{js:List Nat}{wi:TI}{g:TG}{tt:TT}{te:TE}
theorem uR{pins:List 'f'}{σ:St}{H:Hp}{s:Shared}{Q:VK}{it:Addr}{fp:List Addr}{tn:Nat->Heap->Prop}{J:It}{E:Value->Shared->Prop}{RR:Value->Addr->Result->Shared->Prop}(hc:X.calm=true)(S:aR X.N X.env.scope N nv js scope)(hg:∀C s H fp,PG (gP X N scope C s H fp) tg g)(ht:∀C s H fp,yC (gP X N scope C s H fp) ifs tt)(he:∀C s H fp,PE (gP X N scope C s H fp) elt te)(I:Inv X pins σ H s)(T:Turn X.prog X.w X.K tg J fp it tn)(st:tn 0 s.heap)(hf:∀b∈fp,jv X pins H b)(hR:∀D,H D=none->uP J g tt te Q D (gQ nv js σ) H)(hRR:∀D C H' s' m,Inv X pins σ H' s'->jv X pins H' C->s'.heap.Ns C m->Q (.ref D) H'->RR (.ref D) C (.ok .next) s'):wpAny 'd' X.A (newList []) (λacc s₃=>wpAny 'd' X.A (newFunctionEnv scope X.env.globals (cS X.env scope.names []) [] X.env.qual none .none (some X.env)) (λcenv s₄ =>
   codeAny 'd' X.A (.compStart (.ListComp elt [⟨tg,iter,ifs,0⟩] scope pos) 0 (.ref it) acc {cenv with scope:=relabel scope X.env}) (RR acc cenv.locals) s₄) E s₃) E s:=by
 refine wpAny_newObj_type (wpAny_newFunctionEnv S.cell (by intro y hy;simp at hy) (λh₁ uS FZ=>?_) S.kind)
 have I3:Inv X pins σ (upd H s.heap.objs.size (.lst [])) {s with heap:=s.heap.push {cls:=.type "list",data:=.seq ([]:List Value).toArray}}:=I.K6 (t':=s.toks) (its:=[]) .nil (aaZ _)
 have hD:=I.fresh
 obtain⟨W,⟨m0,w0⟩,turn⟩:=hR s.heap.objs.size hD
 have ho:=T.obj 0 s.heap st
 have Ga:∀b∈fp,b<s.heap.objs.size:=λb hb=>let ⟨o,e,_⟩:=ho b hb;aaw e
 have BV:∀b∈fp,jv X pins (upd H s.heap.objs.size (.lst [])) b:=λb hb=>⟨by rw[aB (aaS (Ga b hb))];exact(hf b hb).1,(hf b hb).2⟩
 generalize NN:({s with heap:=s.heap.push {cls:=.type "list",data:=.seq ([]:List Value).toArray}}:Shared)=s3 at I3 uS FZ
 have e3:s3.heap=s.heap.push {cls:=.type "list",data:=.seq ([]:List Value).toArray}:=by rw[←NN]
 have hfl:∀b∈fp,b<s3.heap.objs.size:=λb hb=>by rw[e3,aa3];exact Nat.lt_succ_of_lt (Ga b hb)
 have keep:∀b o,s3.heap.get? b=some o->h₁.get? b=some o:=λb o e=>FZ.extBut b o (aaS (aaw e)) (aap _ e)
 have J0:=BU (tk:=s3.toks+([]:List (Str×Value)).length) I3 S BV hfl keep uS
 have st1:tn 0 h₁:=T.keep 0 s.heap h₁ st λb hb o e=>keep b o (by rw[e3];exact aap _ e)
 generalize XZ:upd H s.heap.objs.size (.lst [])=H3 at *
 generalize hY:gP X N scope s3.heap.objs.size s3 H3 fp=Y at *
 have sub:∀x c,(cS X.env scope.names []).lookup x=some c->X.env.cells.lookup x=some c :=
  gO scope.names [] (λn hn=>I.ok.has n (S.free _ hn rfl)) (λx c z=>by cases z)
 have uL:∀{H':Hp},(∀b∈fp,H' b=none)->∀b∈fp,jv Y [] H' b:=λ{H'} hn b hb=>by
  subst hY
  obtain⟨f0,f1,f2,f3,f4,f5⟩:=BV b hb
  refine⟨hn b hb,aaS (hfl b hb),λz=>?_,.inl hb,λx c e=>f4 x c (sub x c e),λp hp=>absurd (show p∈([]:List 'f') from hp) (by simp)⟩
  rcases aas.mp (I3.ow b z) with q|q
  ·exact f1 q
  ·exact f2 q
 have eA:Y.A=X.A:=by subst hY;rfl
 have eP:Y.prog=X.prog:=by subst hY;rfl
 have eW:Y.w=X.w:=by subst hY;rfl
 have eK:Y.K=X.K:=by subst hY;rfl
 have eC:Y.calm=true:=by subst hY;exact hc
 have eE:Y.env=compEnvC scope (cS X.env scope.names []) s3.heap.objs.size X.env:=by subst hY;rfl
 have Iq:Y.xe=λ_ _=>False:=by subst hY;rfl
 have Q7:PG Y tg g:=by subst hY;exact hg _ _ _ _
 have Q8:yC Y ifs tt:=by subst hY;exact ht _ _ _ _
 have Q9:PE Y elt te:=by subst hY;exact he _ _ _ _
 have loop:codeAny 'd' X.A (.compLoop (.ListComp elt [⟨tg,iter,ifs,0⟩] scope pos) 0 (.ref it) (.ref s.heap.objs.size) (compEnvC scope (cS X.env scope.names []) s3.heap.objs.size X.env))
   (RR (.ref s.heap.objs.size) s3.heap.objs.size) {s3 with heap:=h₁,toks:=s3.toks+([]:List (Str×Value)).length}:=by
  refine uQ (λn s'=>∃i ys τ H',Inv Y [] τ H' s'/\tn i s'.heap/\(∀b∈fp,H' b=none)/\W i n ys τ H') ?_ m0 ⟨0,[],_,H3,J0,st1,λb hb=>(BV b hb).1,w0⟩
  rintro n s4 ⟨i,ys,τ,H4,I4,NO,NP,w4⟩
  obtain⟨X0,tr⟩:=turn i n ys τ H4 w4
  rcases tr with ⟨stop,qn⟩|⟨go,Nn,NQ,step⟩
  ·have d:=T.done Y eP eW eK eC i [] s4 τ H4 (λ_ _=>False) I4 (uL NP) NO stop
   rw[eA]at d
   refine cC d λr s5 ⟨hr,I5⟩=>?_
   subst hr
   have u:Inv X pins σ H4 s5:=by
    subst hY
    exact I3.C7 (ch:=fp) I5.os I5.base I5.hok I5.bare λb hb=>⟨(BV b hb).2.2.2.1,(BV b hb).2.1,(BV b hb).2.2.2.2.1,(BV b hb).2.2.2.2.2⟩
   have hC:H4 s3.heap.objs.size=none:=by have z:=I5.free;rw[eE]at z;exact z
   obtain⟨m,hn,_⟩:=I5.loc
   rw[eE]at hn
   exact hRR _ _ H4 s5 m u (I3.uK (aao _) hC) hn qn
  ·have d:=T.item Y eP eW eK eC i [] s4 τ H4 (λ_ _=>False) I4 (uL NP) NO go
   rw[eA]at d
   refine cC d λr s5 ⟨u,hr,h5⟩=>?_
   subst hr
   refine cC h5 λ_ s6 ⟨x,H6,I6,r6,y6,Lc,Ra⟩=>?_
   have Rb:=I6.pinned (uL Ra) (T.obj _ _ Lc)
   have q6:=Q7 _ s6 τ H6 x u _ Rb r6 (step x H6 y6)
   rw[eP,eW,eA,eE,Iq]at q6
   refine cC q6 λ_ s7 ⟨σ7,H7,I7,q7⟩=>?_
   have q8:=Q8 _ s7 σ7 H7 _ I7 q7
   rw[eP,eW,eA,eE,Iq]at q8
   refine cC q8 λok s8 ⟨H8,I8,q8⟩=>?_
   have again:∀{σ9:St}{H9:Hp}{s9:Shared}{zs:List V},Inv Y ([]++qL fp s6.heap) σ9 H9 s9->(∃m',m'<n/\W (i+1) m' zs σ9 H9)->∃m,m<n/\∃i ys τ H',Inv Y [] τ H' s9/\tn i s9.heap/\(∀b∈fp,H' b=none)/\W i m ys τ H':=λ{σ9 H9 s9 zs} I9 n9=>by
    obtain⟨m',hm,w9⟩:=n9
    refine⟨m',hm,i+1,zs,σ9,H9,I9.kU,T.keep _ _ _ Lc λb hb o e=>(I9.pin (b,o) (aaP _ (aaP _ (fD hb e)))).1,λb hb=>?_,w9⟩
    obtain⟨o,e,d⟩:=T.obj _ _ Lc b hb
    exact(I9.pin (b,o) (aaP _ (aaP _ (fD hb e)))).2.1
   cases ok with
   |false =>
    rw[aah aaC]
    rw[aah aaC]at q8
    exact again I8 (NQ _ _ _ q8)
   |true =>
    rw[aal rfl]
    rw[aal rfl]at q8
    have q9:=Q9 _ s8 σ7 H8 _ I8 q8
    rw[eP,eW,eA,eE,Iq]at q9
    refine cC q9 λy s9 ⟨yv,H9,I9,r9,Rc,Rf,q9⟩=>?_
    have ap:=bu (X:=Y) _ s9 σ7 H9 (.ref s.heap.objs.size) [yv] (.ref s.heap.objs.size) [y] (λ_ NR=>Nn (ys++[yv]) σ7 NR) I9 rfl (.cons r9 .nil) ⟨_,ys,yv,rfl,rfl,Rc,Rf,q9⟩
    rw[eP,eW,eA,Iq]at ap
    exact cC ap λ_ Ir ⟨_,NR,Rg,_,Rh⟩=>again Rg (NQ _ _ _ Rh)
 subst NN
 exact codeAny_compStart_list loop (T.self _ 0 _ _ _ st1 loop)
theorem cT(hc:X.calm=true)(S:aR X.N X.env.scope N nv js scope)(hi:PI X tg iter wi)(hg:∀C s H fp,PG (gP X N scope C s H fp) tg g)(ht:∀C s H fp,yC (gP X N scope C s H fp) ifs tt)(he:∀C s H fp,PE (gP X N scope C s H fp) elt te)(hs:∀x,foldedSetIterable iter X.env x=pure x:=by intro _;rfl):PE X (.ListComp elt [⟨tg,iter,ifs,0⟩] scope pos) (FY wi g tt te nv js):=by
 intro pins s σ H Q I h
 rw[eval_ListComp]
 refine wpAny_comprehension_free (use:=none) rfl hs (iQ λn hn=>I.ok.has n (S.free _ hn rfl)) S.kind S.loc (cC (hi pins s σ H _ I h) λv s1 h1=>cC h1 λitv s2 h2=>?_)
 obtain⟨it,fp,tn,J,H2,e,I2,T,st2,f2,hR⟩:=h2
 subst e
 refine uR (RR:=λacc C=>compPost 'd' X.A X.xe none (EP X pins σ Q) acc C) hc S hg ht he I2 T st2 f2 hR ?_
 intro D C H' s' m I' fC hn q
 refine⟨m,hn,λh' sb=>⟨.ref D,H',?_,O,q⟩⟩
 exact I'.turned (t':=s'.toks) (λb o hb e=>(sb.2 b hb).trans e) fC.1 fC.2.1 fC.2.2.2.1 fC.2.2.2.2.1 fC.2.2.2.2.2
theorem pB{i:Nat}{x:Str}{pos' spos:Pos}(hc:X.calm=true)(hN:X.N.Nodup)(hi':X.N[i]?=some x)(hx:X.env.scope.names.lookup x=some .local)(S:aR X.N X.env.scope N nv js scope)(hi:PI X tg iter wi)(hg:∀C s H fp,PG (gP X N scope C s H fp) tg g)(ht:∀C s H fp,yC (gP X N scope C s H fp) ifs tt)(he:∀C s H fp,PE (gP X N scope C s H fp) elt te)(hsw:swapsWith (.ListComp elt [⟨tg,iter,ifs,0⟩] scope pos) (some (.Name x pos')) spos.line X.env=pure true:=by rfl)(hs:∀x,foldedSetIterable iter X.env x=pure x:=by intro _;rfl):PS X (.Assign [.Name x pos'] (.ListComp elt [⟨tg,iter,ifs,0⟩] scope pos) spos) (Fo (FY wi g tt te nv js) (bU i)):=by
 intro pins s σ H D I h
 rw[exec_Assign_Name_used _ _ _ _ hsw]
 refine aai (wpAny_standAt (aai ?_))
 show wpAny _ X.A (do let _ ←comprehension (.ListComp elt [⟨tg,iter,ifs,0⟩] scope pos) scope X.env _ (newList []) false (eval iter X.env) (some (assign (.Name x pos') X.env))) _ _ s
 refine aai (abk (wpAny_comprehension_free (use:=some (assign (.Name x pos') X.env)) (Q:=λ_ s'=>SP X pins D .next s') rfl hs (iQ λn hn=>I.ok.has n (S.free _ hn rfl)) S.kind S.loc
  (cC (hi pins s σ H _ I h) λv s1 h1=>cC h1 λitv s2 h2=>?_)) (λ_ s' hq=>aaB (aaB hq)) λ_ _ e=>e)
 obtain⟨it,fp,tn,J,H2,e,I2,T,st2,f2,hR⟩:=h2
 subst e
 refine uR (RR:=λacc C=>compPost 'd' X.A X.xe (some (assign (.Name x pos') X.env)) (λ_ s'=>SP X pins D .next s') acc C) hc S hg ht he I2 T st2 f2 hR ?_
 intro Dl C H' s' m I' fC hn q
 show wpAny _ X.A (assign (.Name x pos') X.env (.ref Dl)) _ _ _
 refine wpAny_assign_Name (qK I' hN hi' (.inl hx) (v:=.ref Dl) rfl (λs2 I3 ch=>?_) (.inr hx))
 obtain⟨a,sb,ha⟩:=ch
 have Ri:C≠a:=by
  rcases ha with rfl|ha
  ·exact fC.2.1
  ·exact(fC.2.2.2.2.1 x a ha).symm
 refine⟨m,hn.sameBut sb Ri,λh' sb'=>⟨_,H',?_,q⟩⟩
 exact I3.turned (t':=s2.toks) (λb o hb e=>(sb'.2 b hb).trans e) fC.1 fC.2.1 fC.2.2.2.1 fC.2.2.2.2.1 fC.2.2.2.2.2
end
section
variable{prog:Program}{w:World}{A:Around}{E:Value->Shared->Prop}{s:Shared}
end
section
variable{X:Cx}{e:Expr}{te:TE}
end
def sg(c:Nat):Str:=⟨#[c]⟩
def MR(z:Str):It:=⟨λi _=>i<z.cps.size,λi H x H'=>H'=H/\∃c,z.cps[i]?=some c/\x=.str (sg c),λi _=>z.cps.size<=i⟩
theorem Gb{P:Program}{w:World}{K:W.Frag}{tg:Expr}(it:Addr)(z:Str)(t:Tok):Turn P w K tg (MR z) [it] it (λi h=>h.IsStrIter it (strIterType z) z t i) where
 mem:=by simp
 obj:=λi h st b hb=>by
  have e:b=it:=by simpa using hb
  subst e
  obtain⟨o,e,c,d⟩:=st
  exact⟨o,e,λv z=>by rw[d]at z;cases z⟩
 keep:=λi h h' st k=>by
  obtain⟨o,e,r⟩:=st
  exact⟨o,k it (by simp) o e,r⟩
 item:=by
  intro X hP hw hK hc i pins s σ H E I hf st hg
  subst hP hw hK
  obtain⟨f0,f1,f2,f3,f4,f5⟩:=hf it (by simp)
  have hi:i<z.cps.size:=hg
  have hx:z.cps[i]?=some z.cps[i]:=by simp[hi]
  cases ha:z.cps.all (· < 128) with
  |true =>
   have et:strIterType z="str_ascii_iterator":=by simp only[strIterType,ha,abx]
   rw[et]at st⊢
   refine wpAny_pyNext_ascii_item st hx λh' st' sb=>?_
   have I1:Inv X pins σ H {s with heap:=h',toks:=s.toks+1}:=I.turned (λb o hb e=>(sb.2 b hb).trans e) f0 f1 f3 f4 f5
   obtain⟨o,e,c,d⟩:=id st'
   exact⟨_,rfl,Ac (s:={s with heap:=h',toks:=s.toks+1}) e c d 'b' ⟨.str (sg z.cps[i]),H,I1,⟨_,rfl⟩,⟨rfl,_,hx,rfl⟩,st',λb hb=>(hf b hb).1⟩⟩
  |false =>
   have et:strIterType z="str_iterator":=by simp only[strIterType,ha,aa7,abH]
   rw[et]at st⊢
   refine wpAny_pyNext_wide_item st hx λh' st' sb=>?_
   have I1:Inv X pins σ H {s with heap:=h',toks:=s.toks+1}:=I.turned (λb o hb e=>(sb.2 b hb).trans e) f0 f1 f3 f4 f5
   obtain⟨o,e,c,d⟩:=id st'
   exact⟨_,rfl,Ac (s:={s with heap:=h',toks:=s.toks+1}) e c d 'b' ⟨.str (sg z.cps[i]),H,I1,⟨_,rfl⟩,⟨rfl,_,hx,rfl⟩,st',λb hb=>(hf b hb).1⟩⟩
 done:=by
  intro X hP hw hK hc i pins s σ H E I hf st hg
  subst hP hw hK
  obtain⟨f0,f1,f2,f3,f4,f5⟩:=hf it (by simp)
  have hi:z.cps.size<=i:=hg
  have hx:z.cps[i]?=none:=by simp[hi]
  cases ha:z.cps.all (· < 128) with
  |true =>
   have et:strIterType z="str_ascii_iterator":=by simp only[strIterType,ha,abx]
   rw[et]at st
   exact wpAny_pyNext_ascii_end (I.ok.hd hc) st hx λh' eb=>⟨rfl,I.turned (t':=s.toks) (λb o hb e=>eb b o hb e) f0 f1 f3 f4 f5⟩
  |false =>
   have et:strIterType z="str_iterator":=by simp only[strIterType,ha,aa7,abH]
   rw[et]at st
   exact wpAny_pyNext_wide_end (I.ok.hd hc) st hx λh' eb=>⟨rfl,I.turned (t':=s.toks) (λb o hb e=>eb b o hb e) f0 f1 f3 f4 f5⟩
 self:=by
  intro A i s Q E st h
  cases ha:z.cps.all (· < 128) with
  |true =>
   have et:strIterType z="str_ascii_iterator":=by simp only[strIterType,ha,abx]
   rw[et]at st
   exact wpAny_pyIter_striter_ascii st h
  |false =>
   have et:strIterType z="str_iterator":=by simp only[strIterType,ha,aa7,abH]
   rw[et]at st
   exact wpAny_pyIter_striter_wide st h
section
variable{X:Cx}{tg:Expr}
def Rj(tl:TE):TI:=λσ H R=>tl σ H λx H1=>∃z,x=.str z/\R (MR z) H1
theorem yE{l:Expr}{tl:TE}(hl:PE X l tl):PI X tg l (Rj tl):=by
 intro pins s σ H R I h
 refine cC (hl pins s σ H _ I h) λv s1 ⟨x,H1,I1,r1,q1⟩=>?_
 obtain⟨z,e,q⟩:=q1
 subst e
 obtain⟨t,rfl⟩:=r1
 refine wpAny_pyIter_strU ?_
 refine⟨s1.heap.objs.size,[s1.heap.objs.size],_,_,H1,rfl,I1.kept (t':=s1.toks) λb o e=>aap _ e,Gb _ z t,⟨_,aaG _ rfl,rfl,rfl⟩,λb hb=>?_,q⟩
 have e:b=s1.heap.objs.size:=by simpa using hb
 subst e
 exact I1.uK (aao _) (I1.hok.fresh (aao _))
end
theorem Dh{z:Str}{g:TG}{tb:TS}{D:Ends}{σ:St}{H:Hp}(Pv:Nat->St->Hp->Prop)(h0:Pv 0 σ H)(hs:∀i c σ H,z.cps.toList[i]?=some c->Pv i σ H->g (.str (sg c)) σ H λσ2 H2=>tb {D with nx:=Pv (i+1),ct:=Pv (i+1),bk:=D.nx} σ2 H2)(hd:∀σ H,Pv z.cps.toList.length σ H->D.nx σ H):∃W:Nat->Nat->St->Hp->Prop,(∃m,W 0 m σ H)/\∀i m σ H,W i m σ H->((MR z).stop i H/\D.nx σ H)\/((MR z).go i H/\∃N:St->Hp->Prop,(∀σ' H',N σ' H'->∃m',m'<m/\W (i+1) m' σ' H')/\∀x H',(MR z).Fq i H x H'->g x σ H' λσ2 H2=>tb {D with nx:=N,ct:=N,bk:=D.nx} σ2 H2):=by
 refine⟨λi m σ H=>m=z.cps.size-i/\i<=z.cps.size/\Pv i σ H,⟨z.cps.size,by simp,aaZ _,h0⟩,?_⟩
 rintro i m σ H ⟨rfl,hi,p⟩
 by_cases hlt:i<z.cps.size
 ·refine .inr ⟨hlt,Pv (i+1),λσ' H' p'=>⟨z.cps.size-(i+1),by omega,rfl,hlt,p'⟩,λx H' y=>?_⟩
  obtain⟨e,c,hc,ex⟩:=y
  subst e ex
  exact hs i c σ _ (by simpa using hc) p
 ·have e:i=z.cps.size:=by omega
  subst e
  exact .inl ⟨aao _,hd σ H (by simpa using p)⟩
theorem bB{K:W.Frag}{a:Addr}{xs:List V}{g:TG}{tt:TT}{te:TE}{Q:VK}{D:Addr}{τ:St}{H:Hp}(Pv:Nat->List V->St->Hp->Prop)(h0:Pv 0 [] τ (upd H D (.lst [])))(hl:∀i ys τ H,i<=xs.length->Pv i ys τ H->aK K H a xs/\H D=some (.lst ys))(hs:∀i x ys τ H,xs[i]?=some x->Pv i ys τ H->g x τ H λτ2 H2=>tt τ2 H2 λb H3=>if b=true then te τ2 H3 λy H4=>H4 D=some (.lst ys)/\ys.length<sizeLine/\Pv (i+1) (ys++[y]) τ2 (upd H4 D (.lst (ys++[y]))) else Pv (i+1) ys τ2 H3)(hd:∀ys τ H,Pv xs.length ys τ H->Q (.ref D) H):uP (MP K a) g tt te Q D τ H:=by
 refine⟨λi m ys τ H=>m=xs.length-i/\i<=xs.length/\Pv i ys τ H,⟨xs.length,by simp,aaZ _,h0⟩,?_⟩
 rintro i m ys τ H ⟨rfl,hi,p⟩
 obtain⟨q,hD⟩:=hl i ys τ H hi p
 refine⟨hD,?_⟩
 by_cases hlt:i<xs.length
 ·refine .inr ⟨⟨xs,xs[i],q,by simp[hlt]⟩,Pv (i+1),λzs σ' H' p'=>⟨xs.length-(i+1),by omega,rfl,hlt,p'⟩,λx H' y=>?_⟩
  obtain⟨e,y⟩:=y
  subst e
  exact hs i x ys τ _ (y xs q) p
 ·have e:i=xs.length:=by omega
  subst e
  exact .inl ⟨⟨xs,q,aao _⟩,hd ys τ H p⟩
theorem Ai{z:Str}{g:TG}{tt:TT}{te:TE}{Q:VK}{D:Addr}{τ:St}{H:Hp}(Pv:Nat->List V->St->Hp->Prop)(h0:Pv 0 [] τ (upd H D (.lst [])))(hl:∀i ys τ H,i<=z.cps.toList.length->Pv i ys τ H->H D=some (.lst ys))(hs:∀i c ys τ H,z.cps.toList[i]?=some c->Pv i ys τ H->g (.str (sg c)) τ H λτ2 H2=>tt τ2 H2 λb H3=>if b=true then te τ2 H3 λy H4=>H4 D=some (.lst ys)/\ys.length<sizeLine/\Pv (i+1) (ys++[y]) τ2 (upd H4 D (.lst (ys++[y]))) else Pv (i+1) ys τ2 H3)(hd:∀ys τ H,Pv z.cps.toList.length ys τ H->Q (.ref D) H):uP (MR z) g tt te Q D τ H:=by
 have hz:z.cps.toList.length=z.cps.size:=by simp
 refine⟨λi m ys τ H=>m=z.cps.size-i/\i<=z.cps.size/\Pv i ys τ H,⟨z.cps.size,by simp,aaZ _,h0⟩,?_⟩
 rintro i m ys τ H ⟨rfl,hi,p⟩
 refine⟨hl i ys τ H 'c' p,?_⟩
 by_cases hlt:i<z.cps.size
 ·refine .inr ⟨hlt,Pv (i+1),λzs σ' H' p'=>⟨z.cps.size-(i+1),by omega,rfl,hlt,p'⟩,λx H' y=>?_⟩
  obtain⟨e,c,hc,ex⟩:=y
  subst e ex
  exact hs i c ys τ _ (by simpa using hc) p
 ·have e:i=z.cps.size:=by omega
  subst e
  exact .inl ⟨aao _,hd ys τ H (by rw[hz];exact p)⟩
theorem uT{lo:Int}{n:Nat}{g:TG}{tt:TT}{te:TE}{Q:VK}{D:Addr}{τ:St}{H:Hp}(Pv:Nat->List V->St->Hp->Prop)(h0:Pv 0 [] τ (upd H D (.lst [])))(hl:∀i ys τ H,i<=n->Pv i ys τ H->H D=some (.lst ys))(hs:∀i ys τ H,i<n->Pv i ys τ H->g (.int (lo+i)) τ H λτ2 H2=>tt τ2 H2 λb H3=>if b=true then te τ2 H3 λy H4=>H4 D=some (.lst ys)/\ys.length<sizeLine/\Pv (i+1) (ys++[y]) τ2 (upd H4 D (.lst (ys++[y]))) else Pv (i+1) ys τ2 H3)(hd:∀ys τ H,Pv n ys τ H->Q (.ref D) H):uP (JT lo n) g tt te Q D τ H:=by
 refine⟨λi m ys τ H=>m=n-i/\i<=n/\Pv i ys τ H,⟨n,by simp,aaZ _,h0⟩,?_⟩
 rintro i m ys τ H ⟨rfl,hi,p⟩
 refine⟨hl i ys τ H hi p,?_⟩
 by_cases hlt:i<n
 ·refine .inr ⟨hlt,Pv (i+1),λzs σ' H' p'=>⟨n-(i+1),by omega,rfl,hlt,p'⟩,λx H' y=>?_⟩
  obtain⟨e,y⟩:=y
  subst e y
  exact hs i ys τ _ hlt p
 ·have e:i=n:=by omega
  subst e
  exact .inl ⟨aao _,hd ys τ H p⟩
theorem Di:∀{zs:List Str}{us:List Value},Vals (zs.map V.str) us->StrsAre us zs
 |[],_,r=>by cases r;exact .nil
 |z::zs,_,r=>by
  cases r with
  |cons r1 r2 =>
   obtain⟨t,e⟩:=r1
   subst e
   exact .cons z t (Di r2)
section
variable{X:Cx}
def rJoin(K:W.Frag):V->List V->Hp->VK->Prop:=λx vs H Q=>∃z p zs,x=.str z/\vs=[.ref p]/\aK K H p (zs.map V.str)/\(zs.map (·.length)).sum+zs.length*z.length<=16777216/\Q (.str (Txt.join z zs)) H
theorem Iu:Ik X "str.join" (rJoin X.K):=by
 intro pins s σ H x vs v us Q I rx rv h
 obtain⟨z,p,zs,rfl,rfl,hq,hz,q⟩:=h
 obtain⟨t,rfl⟩:=rx
 obtain⟨u,rfl,ru⟩:=rv.one
 cases ru
 obtain⟨its,r,pl,_⟩:=I.list hq
 exact join_list pl.isList (by simpa using Di r) hz λt' k=>⟨.str _,H,I.tok k,⟨t',rfl⟩,q⟩
theorem Aj:dw X (.builtin "isinstance") (λxs H Q=>∃x c t b,xs=[x,c]/\pq X.K H x t/\((∃n,c=.ty n/\W.kitOne X.K t (.type n)=some b)\/(∃a,c=.ref a/\W.kitOne X.K t (.ref a)=some b))/\Q (.bl b) H):=by
 intro pins s σ H xs us Q I r h
 obtain⟨x,c,t,b,rfl,ty,hc,q⟩:=h
 obtain⟨u,w',rfl,ru,rw'⟩:=vals2 r
 rcases hc with ⟨n,rfl,e⟩|⟨a,rfl,e⟩
 ·cases rw'
  exact xH I ru ty e λtk=>⟨.bl b,H,I.tok tk,rfl,q⟩
 ·cases rw'
  exact xH I ru ty e λtk=>⟨.bl b,H,I.tok tk,rfl,q⟩
end
section
variable{X:Cx}
end
section
variable{X:Cx}(K:W.Frag)(h:X.K=K)
include h
theorem Ge:MQ X (KW K):=by subst h;exact Il
theorem Iv:MQ X (KY K):=by subst h;exact KZ
theorem kY:P8 X (NJ K):=by subst h;exact Im
theorem Gf:Ik X "str.join" (rJoin K):=by subst h;exact Iu
theorem aL:dw X (.builtin "len") (λxs H Q=>∃p ys,xs=[.ref p]/\(aK K H p ys\/bH K H p ys)/\Q (.int ys.length) H):=by subst h;exact yy
theorem bM:dw X (.builtin "isinstance") (λxs H Q=>∃x c t b,xs=[x,c]/\pq K H x t/\((∃n,c=.ty n/\W.kitOne K t (.type n)=some b)\/(∃a,c=.ref a/\W.kitOne K t (.ref a)=some b))/\Q (.bl b) H):=by subst h;exact Aj
theorem iR:dw X (.type "list") (λxs H Q=>∃p ys,xs=[.ref p]/\(aK K H p ys\/bH K H p ys)/\∀l,H l=none->Q (.ref l) (upd H l (.lst ys))):=by subst h;exact yz
theorem uU:dw X (.type "tuple") (λxs H Q=>∃p ys,xs=[.ref p]/\((aK K H p ys/\∀l,H l=none->Q (.ref l) (upd H l (.tup ys)))\/(bH K H p ys/\Q (.ref p) H))):=by subst h;exact wk
theorem bq{tg l:Expr}{tl:TE}(hl:PE X l tl):PI X tg l (JU K tl):=by subst h;exact HX hl
theorem Iw{tg l:Expr}{tl:TE}(hl:PE X l tl):PI X tg l (Nt K tl):=by subst h;exact KO hl
theorem fM{es:List Expr}{k:Nat}{pos:Pos}{t:JS}(n:Nat)(hc:X.calm=true)(hh:Nl X es t)(hn:(assignEach es X.env).length=n:=by rfl)(hst:(assignEach es X.env).findIdx? (·.1)=none:=by rfl):PG X (.Tuple es k pos) (Nq K n t):=by subst h;exact KJ hc hh hn hst
theorem bh{e:Expr}{ta:TE}{f:Str}{pos:Pos}(he:PE X e ta)(hb:attributeBase e f X.env (eval e X.env)=eval e X.env):PE X (.Attribute e f pos) (NC K ta f):=by subst h;exact KQ he hb
theorem cI{o e:Expr}{es:List Expr}{to:TE}{t:TA}{name:Str}{apos cpos:Pos}{T id:String}{r:V->List V->Hp->VK->Prop}(pa:PlainAttrs T)(slot:Slot T name id)(hty:typeOf (.builtin id)=pure (.type "method_descriptor"))(hm:Ik X id r)(ho:PE X o to)(ha:PA X (e::es) t)(hbase:attributeBase o name X.env (eval o X.env)=eval o X.env:=by rfl)(hfew:((backTo cpos (starEach (e::es) X.env)).all (λx=>!x.1)&&(backToKw cpos (keywordEach [] X.env)).all (λx=>x.1.isSome)
  && decide ((e::es).length+([]:List Keyword).length+(if ([]:List Keyword).isEmpty then 0 else 1)<30))=true:=by rfl)(hline:(apos.endLine==cpos.line)=true:=by rfl)(hs:starEach (e::es) X.env=(false,eval e X.env)::starEach es X.env:=by rfl)(hplain:(backTo cpos (starEach es X.env)).any (·.1)=false:=by rfl):PE X (.Call (.Attribute o name apos) (e::es) [] cpos) (V9 K T r to t):=by subst h;exact NK pa slot hty hm ho ha hbase hfew hline hs hplain
end
section
variable{X:Cx}
theorem mH{x:Str}{z:Str}{t:Tok}{pos:Pos}(hg:Gl X x)(hm:X.mg x=some (.str z t))(hd:(x==("__debug__":Str))=false:=by decide):PE X (.Name x pos) (tC (.str z)):=yj hg hm ⟨t,rfl⟩ hd
theorem pC{x:Str}{a:Addr}{pos:Pos}(hg:Gl X x)(hm:X.mg x=some (.ref a))(hd:(x==("__debug__":Str))=false:=by decide):PE X (.Name x pos) (tC (.ref a)):=yj hg hm rfl hd
theorem Ld(n:String){x:Str}{pos:Pos}(hg:Gl X x)(hm:X.mg x=none)(hv:bootBuiltins x=some (.type n))(hn:x ≠ "__name__":=by decide)(hd:(x==("__debug__":Str))=false:=by decide):PE X (.Name x pos) (tC (.ty n)):=HV hg hm hv rfl hn hd
end
structure Iz(K:W.Frag)(x qual:Str)(st:Stmt)(f:Addr)(fd:FuncData)(dV:Value):Prop where
 ex:∃(oc:Value)(od:Option Addr)(kV doc pm:Value)(an:Option Addr)(cdv ct:Value)(osl:Array (Option Value)),fd=W.fnOf x qual (cR st) (cA st) (av st) dV kV doc pm an cdv ct/\K.lookup f=some ⟨oc,od,.func fd,osl⟩/\W.codeIn K cdv qual=true
 kp:W.keepIn K (.ref f)=true
section
variable{P:Program}{w:World}{K:W.Frag}{mg:Str->Option Value}{base:Heap}
theorem Iz.ok{x qual:Str}{st:Stmt}{f:Addr}{fd:FuncData}{dV:Value}{N ps:List Str}{k:Nat}{sp:Sp}(F:Iz K x qual st f fd dV)(S:aJ N ps (av st))(len:∀vs H Q E,sp vs H Q E->vs.length=ps.length)(hbody:∀(cdv:Value)(A:Around)(outer:List Env)(s:Shared)(H:Hp)(vs:List V)(Q:VK)(E:XK),cM k (A.deeper (envOfC qual (av st) s.heap.objs.size f cdv))->sp vs H Q E->∃t,BH (tE dW P w K mg base N qual (av st) f cdv A outer s H E).MO (cA st) t/\t {nx:=λ_ H'=>Q .non H',rt:=Q} (start N vs) H):aW P w K mg base dW (k+1) f fd ps sp:=by
 obtain⟨oc,od,kV,doc,pm,an,cdv,ct,osl,rfl,lk,hcd⟩:=F.ex
 refine FH lk hcd S len λA outer s H vs Q E hr E8=>?_
 obtain⟨t,h,q⟩:=hbody cdv A outer s H vs Q E hr E8
 exact⟨t,h.MO,q⟩
theorem IA{x qual:Str}{st:Stmt}{f:Addr}{oc dV:Value}{od an:Option Addr}{osl:Array (Option Value)}{kV doc pm cdv ct:Value}(l:K.lookup f=some ⟨oc,od,.func (W.fnOf x qual (cR st) (cA st) (av st) dV kV doc pm an cdv ct),osl⟩)(c:W.codeIn K cdv qual=true)(k:W.keepIn K (.ref f)=true):Iz K x qual st f (W.fnOf x qual (cR st) (cA st) (av st) dV kV doc pm an cdv ct) dV:=⟨⟨oc,od,kV,doc,pm,an,cdv,ct,osl,rfl,l,c⟩,k⟩
end
section
variable{X:Cx}
theorem kZ:∀{bs:List Bool}{us:List Value}{i:Nat}{u:Value},Vals (bs.map V.bl) us->us[i]?=some u->u=.bool (bs.getD i true)
 |[],_,_,_,r,e=>by cases r;simp at e
 |b::bs,_,i,u,r,e=>by
  cases r with
  |cons r1 r2 =>
   cases i with
   |zero=>simp at e;subst e;exact r1
   |succ i=>simp at e;simpa using kZ r2 e
theorem all_range(bs:List Bool):((List.range bs.length).all λi=>bs.getD i true)=bs.all id:=by
 rw[aa2,aaO,aaO]
 constructor
 ·intro h b hb
  obtain⟨i,hi,rfl⟩:=List.mem_iff_getElem.mp hb
  have:=h i (by simpa using hi)
  simpa [List.getD,hi]using this
 ·intro h i hi
  have hi':i<bs.length:=by simpa using hi
  have:=h bs[i] (abI hi')
  simpa [List.getD,hi']using this
def NS(K:W.Frag):List V->Hp->VK->Prop:=λxs H Q=>∃(p:Addr)(bs:List Bool),xs=[.ref p]/\aK K H p (bs.map V.bl)/\Q (.bl (bs.all id)) H
theorem Gg(hc:X.calm=true):dw X (.builtin "all") (NS X.K):=by
 intro pins s σ H xs us Q I r h
 obtain⟨p,bs,rfl,hq,q⟩:=h
 obtain⟨u,rfl,ru⟩:=vals1 r
 cases ru
 obtain⟨its,rv,pl,hz⟩:=I.list hq
 have hlen:=rv.length
 rw[aaj]at hlen
 have hpl:p<s.heap.objs.size:=by obtain⟨o,ho,_⟩:=pl.isList;exact aaw ho
 refine call_all_walk (wpAny_pyIter_list pl.isList ⟨s.heap.objs.size,_,_,_,_,_,λi=>bs.getD i true,rfl,Walks.list (A:=X.A.in1) (show X.A.in1.handled=none from I.ok.hd hc) s.heap.objs.size p (aaS hpl) its.toArray,⟨⟨_,aaG _ rfl,rfl,rfl⟩,pl.isList.at λo e=>aap _ e⟩,?_,?_⟩)
 ·intro i v s' Q' E' hv hq'
  have e:its[i]?=some v:=by simpa using hv
  rw[kZ rv e]
  exact abu hq'
 ·intro h' tk hk
  have f0:=I.uK (aao s.heap.objs.size) (I.hok.fresh (aao _))
  have I2:Inv X pins σ H {s with heap:=s.heap.push {cls:=.type "list_iterator",data:=.fields #[.ref p,rawInt 0]}}:=I.kept (t':=s.toks) λb o e=>aap _ e
  have I3:=I2.turned (h':=h') (t':=tk) (it:=s.heap.objs.size) (λb o hb e=>hk b o (by simpa using hb) e) f0.1 f0.2.1 f0.2.2.2.1 f0.2.2.2.2.1 f0.2.2.2.2.2
  refine⟨.bl (bs.all id),H,I3,?_,q⟩
  show Value.bool _=Value.bool _
  rw[aak,←hlen,all_range]
theorem qP(K:W.Frag)(h:X.K=K)(hc:X.calm=true):dw X (.builtin "all") (NS K):=by subst h;exact Gg hc
def Le:V->List V->Hp->VK->Prop:=λx vs H Q=>∃(z:Str)(c:Nat),x=.str z/\vs=[.str (sg c)]/\Q (.int (PyProof.Rows.cnt c z.cps.toList)) H
theorem Ak:Ik X "str.count" Le:=by
 intro pins s σ H x vs v us Q I rx rv h
 obtain⟨z,c,rfl,rfl,q⟩:=h
 obtain⟨t,rfl⟩:=rx
 obtain⟨u,rfl,ru⟩:=rv.one
 obtain⟨t',rfl⟩:=ru
 exact SC.count ⟨.int _,H,I.tok _,⟨_,rfl⟩,by
  have e:Txt.count z (sg c)=PyProof.Rows.cnt c z.cps.toList:=PyProof.Rows.count_is z c
  rw[e];exact q⟩
theorem Dj:∀{l:List Nat}{c:Nat},l.Nodup->c∈l->PyProof.Rows.cnt c l=1
 |[],_,_,h=>by cases h
 |n::r,c,nd,h=>by
  rw[PyProof.Rows.cnt_cons]
  obtain⟨n1,n2⟩:=aa8.mp nd
  by_cases e:n=c
  ·subst e
   rw[aal rfl,PyProof.Rows.cnt_none _ _ n1];rfl
  ·rw[aah e,Dj n2 ((aas.mp h).resolve_left (abm e))];rfl
def BW:List V->List V->Bool
 |[],[]=>true
 |x::xs,y::ys=>xP x y&&BW xs ys
 |_,_=>false
theorem Gh:∀{x:V},dB x=true->xP x x=true
 | .non,_=>rfl
 | .bl b,_=>by cases b<;>rfl
 | .int i,_=>by simp[xP]
 | .str z,_=>by simp[xP]
def JY(xs ys:List V)(j:Nat):Bool:=match xs[j]?,ys[j]? with
 |some x,some y=>xP x y
 |_,_=>true
theorem uV:∀(xs ys:List V),((List.range (min xs.length ys.length)).all (JY xs ys)&&xs.length==ys.length)=BW xs ys
 |[],[]=>rfl
 |[],_::_=>by simp[BW]
 |_::_,[]=>by simp[BW]
 |x::xs,y::ys=>by
  have ih:=uV xs ys
  have e:min (x::xs).length (y::ys).length=min xs.length ys.length+1:=by rw[aaR,aaR];omega
  rw[e,List.range_succ_eq_map,List.all_cons,List.all_map]
  have e2:(JY (x::xs) (y::ys)∘Nat.succ)=JY xs ys:=by funext j;simp[JY]
  rw[e2]
  unfold BW
  rw[←ih]
  have e3:((x::xs).length==(y::ys).length)=(xs.length==ys.length):=by simp
  rw[e3]
  show(xP x y&&_&&_)=_
  rw[Bool.and_assoc]
def Rk(K:W.Frag):R2:=λx y H Q=>∃a b xs ys,x=.ref a/\y=.ref b/\bH K H a xs/\bH K H b ys/\xs.all dB=true/\ys.all dB=true/\Q (.bl (BW xs ys)) H
theorem items_eqAt{A:Around}{s:Shared}{xs ys:List V}{us ws:List Value}(r1:Vals xs us)(r2:Vals ys ws)(f1:xs.all dB=true)(f2:ys.all dB=true)(j:Nat)(h1:j<us.toArray.size)(h2:j<ws.toArray.size):SeqAt.EqAt A s us.toArray[j] ws.toArray[j] (JY xs ys j):=by
 have hl1:=r1.length
 have hl2:=r2.length
 have hj1:j<xs.length:=by rw[hl1];simpa using h1
 have hj2:j<ys.length:=by rw[hl2];simpa using h2
 obtain⟨u,eu,ru⟩:=r1.get (i:=j) (x:=xs[j]) (by simp[hj1])
 obtain⟨w,ew,rw'⟩:=r2.get (i:=j) (x:=ys[j]) (by simp[hj2])
 have e1:us.toArray[j]=u:=by
  have:=aam.mp eu
  obtain⟨_,q⟩:=this
  simpa using q
 have e2:ws.toArray[j]=w:=by
  have:=aam.mp ew
  obtain⟨_,q⟩:=this
  simpa using q
 rw[e1,e2]
 have e3:JY xs ys j=xP xs[j] ys[j]:=by simp[JY,hj1,hj2]
 rw[e3]
 exact yw ru rw' (aaO.mp f1 _ (abI hj1)) (aaO.mp f2 _ (abI hj2))
theorem Gi(K:W.Frag)(hK:X.K=K)(hu:X.A.units<cLine):mG X (compareOp .Eq) (Rk K):=by
 subst hK
 intro pins s σ H x y v u Q I rx ry h
 obtain⟨a,b,xs,ys,rfl,rfl,ha,hb,f1,f2,q⟩:=h
 cases rx
 cases ry
 obtain⟨its,r1,p1,_⟩:=I.tuple ha
 obtain⟨its2,r2,p2,_⟩:=I.tuple hb
 refine SeqAt.eq_tupleAt (e:=JY xs ys) p1 p2 hu (λj h1 h2=>items_eqAt r1 r2 f1 f2 j h1 h2) ⟨.bl _,H,I,?_,q⟩
 show Value.bool _=Value.bool _
 rw[aak,aak,←r1.length,←r2.length,uV]
end
inductive nc(K:W.Frag)(H:Hp):Nat->V->V->Prop where
 |flat {n:Nat}{x y:V}:dB x=true->dB y=true->xP x y=true->nc K H n x y
 |ref {n:Nat}{a:Addr}:nc K H n (.ref a) (.ref a)
 |tup {n:Nat}{a b:Addr}{xs ys:List V}:bH K H a xs->bH K H b ys->xs.length=ys.length->(∀(j:Nat) x y,xs[j]?=some x->ys[j]?=some y->nc K H n x y)->nc K H (n+1) (.ref a) (.ref b)
 |lst {n:Nat}{a b:Addr}{xs ys:List V}:aK K H a xs->aK K H b ys->xs.length=ys.length->(∀(j:Nat) x y,xs[j]?=some x->ys[j]?=some y->nc K H n x y)->nc K H (n+1) (.ref a) (.ref b)
theorem all_true(n:Nat):(List.range n).all (λ_=>true)=true:=by rw[aaO];intro _ _;rfl
section
variable{X:Cx}{pins:List 'f'}{σ:St}{H:Hp}{s:Shared}
theorem fF{A:Around}{R:V->V->Prop}{xs ys:List V}{us ws:List Value}(r1:Vals xs us)(r2:Vals ys ws)(h:∀(j:Nat) x y u w,xs[j]?=some x->ys[j]?=some y->RelV x u->RelV y w->SeqAt.EqAt A s u w true)(j:Nat)(h1:j<us.toArray.size)(h2:j<ws.toArray.size):SeqAt.EqAt A s us.toArray[j] ws.toArray[j] true:=by
 have hl1:=r1.length
 have hl2:=r2.length
 have hj1:j<xs.length:=by rw[hl1];simpa using h1
 have hj2:j<ys.length:=by rw[hl2];simpa using h2
 obtain⟨u,eu,ru⟩:=r1.get (i:=j) (x:=xs[j]) (by simp[hj1])
 obtain⟨w,ew,rw'⟩:=r2.get (i:=j) (x:=ys[j]) (by simp[hj2])
 have e1:us.toArray[j]=u:=by
  obtain⟨_,q⟩:=aam.mp eu
  simpa using q
 have e2:ws.toArray[j]=w:=by
  obtain⟨_,q⟩:=aam.mp ew
  simpa using q
 rw[e1,e2]
 exact h j _ _ u w (by simp[hj1]) (by simp[hj2]) ru rw'
theorem mJ(I:Inv X pins σ H s){n:Nat}{x y:V}(h:nc X.K H n x y):∀{A:Around}{u v:Value},A.units+n<cLine->RelV x u->RelV y v->SeqAt.EqAt A s u v true:=by
 induction h with
 |flat f1 f2 e=>intro A u v _ ru rv;rw[←e];exact yw ru rv f1 f2
 |ref=>intro A u v _ ru rv;cases ru;cases rv;exact abC _
 |@tup n a b xs ys ha hb hl _ ih =>
  intro A u v hu ru rv
  cases ru;cases rv
  by_cases e:a=b
  ·subst e;exact abC _
  ·obtain⟨its,r1,p1,_⟩:=I.tuple ha
   obtain⟨its2,r2,p2,_⟩:=I.tuple hb
   refine abz e ?_
   have q:=SeqAt.RcAt.tuples (A:=A) (e:=λ_=>true) p1 p2 'c' λj h1 h2=>fF (R:=λ_ _=>True) r1 r2 (λj x y u w ex ey ru rw'=>ih j x y ex ey (by show A.units+1+n<cLine;omega) ru rw') j h1 h2
   have e2:((List.range (min its.toArray.size its2.toArray.size)).all (λ_=>true)&&its.toArray.size==its2.toArray.size)=true:=by
    rw[all_true,aak,aak,←r1.length,←r2.length,hl];simp
   rw[e2]at q
   exact q
 |@lst n a b xs ys ha hb hl _ ih =>
  intro A u v hu ru rv
  cases ru;cases rv
  by_cases e:a=b
  ·subst e;exact abC _
  ·obtain⟨its,r1,p1,_⟩:=I.list ha
   obtain⟨its2,r2,p2,_⟩:=I.list hb
   refine abz e ?_
   have q:=SeqAt.RcAt.lists (A:=A) (e:=λ_=>true) p1.isList p2.isList (by rw[aak,aak,←r1.length,←r2.length,hl]) 'c' λj h1 h2=>fF (R:=λ_ _=>True) r1 r2 (λj x y u w ex ey ru rw'=>ih j x y ex ey (by show A.units+1+n<cLine;omega) ru rw') j h1 h2
   rw[all_true]at q
   exact q
end
section
variable{X:Cx}
def TopD(K:W.Frag)(H:Hp)(x y:V):Prop:=∃(n:Nat)(a b:Addr)(xs ys:List V),x=.ref a/\y=.ref b/\n<=50/\xs.length=ys.length/\((bH K H a xs/\bH K H b ys)\/(aK K H a xs/\aK K H b ys))/\∀(j:Nat) x y,xs[j]?=some x->ys[j]?=some y->nc K H n x y
def Rl(K:W.Frag):R2:=λx y H Q=>TopD K H x y/\Q (.bl true) H
def Rm(K:W.Frag):R2:=λx y H Q=>TopD K H x y/\Q (.bl false) H
theorem Lg(K:W.Frag)(hK:X.K=K)(hu:X.A.units+64<cLine):mG X (compareOp .Eq) (Rl K):=by
 subst hK
 intro pins s σ H x y v u Q I rx ry h
 obtain⟨⟨n,a,b,xs,ys,rfl,rfl,hn,hl,hk,hs⟩,q⟩:=h
 cases rx;cases ry
 rcases hk with ⟨ha,hb⟩|⟨ha,hb⟩
 ·obtain⟨its,r1,p1,_⟩:=I.tuple ha
  obtain⟨its2,r2,p2,_⟩:=I.tuple hb
  refine SeqAt.eq_tupleAt (e:=λ_=>true) p1 p2 'c' (λj h1 h2=>fF (R:=λ_ _=>True) r1 r2 (λj x y u w ex ey ru rw'=>mJ I (hs j x y ex ey) (by show X.A.units+1+n<cLine;omega) ru rw') j h1 h2) ⟨.bl true,H,I,?_,q⟩
  show Value.bool _=Value.bool _
  rw[all_true,aak,aak,←r1.length,←r2.length,hl];simp
 ·obtain⟨its,r1,p1,_⟩:=I.list ha
  obtain⟨its2,r2,p2,_⟩:=I.list hb
  refine SeqAt.eq_listAt (e:=λ_=>true) p1.isList p2.isList (by rw[aak,aak,←r1.length,←r2.length,hl]) 'c' (λj h1 h2=>fF (R:=λ_ _=>True) r1 r2 (λj x y u w ex ey ru rw'=>mJ I (hs j x y ex ey) (by show X.A.units+1+n<cLine;omega) ru rw') j h1 h2) ⟨.bl true,H,I,?_,q⟩
  show Value.bool _=Value.bool _
  rw[all_true]
theorem Gj(K:W.Frag)(hK:X.K=K)(hu:X.A.units+64<cLine):mG X (compareOp .NotEq) (Rm K):=by
 subst hK
 intro pins s σ H x y v u Q I rx ry h
 obtain⟨⟨n,a,b,xs,ys,rfl,rfl,hn,hl,hk,hs⟩,q⟩:=h
 cases rx;cases ry
 show wpAny _ _ (richCompare .NotEq (.ref a) (.ref b)) _ _ _
 rcases hk with ⟨ha,hb⟩|⟨ha,hb⟩
 ·obtain⟨its,r1,p1,_⟩:=I.tuple ha
  obtain⟨its2,r2,p2,_⟩:=I.tuple hb
  refine SeqAt.RcNeAt.tuples (e:=λ_=>true) p1 p2 'c' (λj h1 h2=>fF (R:=λ_ _=>True) r1 r2 (λj x y u w ex ey ru rw'=>mJ I (hs j x y ex ey) (by show X.A.units+1+n<cLine;omega) ru rw') j h1 h2) _ _ _ _ ⟨.bl false,H,I,?_,q⟩
  show Value.bool _=Value.bool _
  rw[all_true,aak,aak,←r1.length,←r2.length,hl];simp
 ·obtain⟨its,r1,p1,_⟩:=I.list ha
  obtain⟨its2,r2,p2,_⟩:=I.list hb
  refine SeqAt.RcNeAt.lists (e:=λ_=>true) p1.isList p2.isList (by rw[aak,aak,←r1.length,←r2.length,hl]) 'c' (λj h1 h2=>fF (R:=λ_ _=>True) r1 r2 (λj x y u w ex ey ru rw'=>mJ I (hs j x y ex ey) (by show X.A.units+1+n<cLine;omega) ru rw') j h1 h2) _ _ _ _ ⟨.bl false,H,I,?_,q⟩
  show Value.bool _=Value.bool _
  rw[all_true];rfl
def Lh(K:W.Frag):List V->Hp->VK->Prop:=λxs H Q=>∃(a:Addr)(c:String)(ys:List V)(b:Bool),xs=[.ref a,.ty c]/\((bH K H a ys/\W.kitOne K (.type "tuple") (.type c)=some b)\/(aK K H a ys/\W.kitOne K (.type "list") (.type c)=some b))/\Q (.bl b) H
theorem Al(K:W.Frag)(hK:X.K=K):dw X (.builtin "isinstance") (Lh K):=by
 subst hK
 intro pins s σ H xs us Q I r h
 obtain⟨a,c,ys,b,rfl,hk,q⟩:=h
 obtain⟨u,w',rfl,ru,rw'⟩:=vals2 r
 cases ru;cases rw'
 have fin:∀tk,EP X pins σ Q (.bool b) {s with toks:=tk}:=λtk=>⟨.bl b,H,I.tok tk,rfl,q⟩
 rcases hk with ⟨ha,e⟩|⟨ha,e⟩
 ·obtain⟨its,r1,p1,_⟩:=I.tuple ha
  obtain⟨o,h1,h2,_⟩:=p1
  exact abv W.kitx_tuple I.kN ⟨o,h1,h2⟩ e (λz=>nomatch z) fin
 ·obtain⟨its,r1,p1,_⟩:=I.list ha
  obtain⟨o,h1,h2,_⟩:=p1.isList
  exact abv W.kitx_list I.kN ⟨o,h1,h2⟩ e (λz=>nomatch z) fin
end
section
variable{X:Cx}
theorem pD{x:Str}{z:Int}{t:Tok}{pos:Pos}(hg:Gl X x)(hm:X.mg x=some (.int z t))(hd:(x==("__debug__":Str))=false:=by decide):PE X (.Name x pos) (tC (.int z)):=yj hg hm ⟨t,rfl⟩ hd
end
section
variable{X:Cx}{CX:D3}{k:Nat}{f C:Addr}{fd:FuncData}{ps ks:List Str}{sp:Sp}{E:XK}{x m:Str}{p pos apos kpos:Pos}{e o:Expr}{es:List Expr}{kws:List Keyword}{te ta:TE}{t tk:TA}{nm:Option Str}{g:List Value->List Value->List Value}{gV:List V->List V->List V}
end
section
variable{X:Cx}{pins:List 'f'}{σ:St}{H:Hp}{s:Shared}
end
section
variable{X:Cx}
end
theorem Gk{X:Cx}:P8 X (λx lo hi H Q=>∃z,x=.str z/\z.length<=sizeLine/\Q (.str (Txt.slice z lo hi)) H):=by
 intro pins s σ H x v vl vu lo hi sl Q I rx hs pl pu h
 obtain⟨z,rfl,hz,q⟩:=h
 obtain⟨t,rfl⟩:=rx
 refine⟨"str",_,F.slot_str_getitem.lookup,typeIs_str _ _ _,?_⟩
 cases pl with
 |none =>
  cases pu with
  |none=>exact abw (l:=none) (u:=none) (st:=none) hs rfl (post_val_or_str ⟨aaz (Txt.slice_le z _ _) hz,λt' k=>⟨.str _,H,I.tok _,⟨_,rfl⟩,q⟩⟩)
  |int j uj=>exact abw (l:=none) (u:=some (j,uj)) (st:=none) hs rfl (post_val_or_str ⟨aaz (Txt.slice_le z _ _) hz,λt' k=>⟨.str _,H,I.tok _,⟨_,rfl⟩,q⟩⟩)
 |int i ui =>
  cases pu with
  |none=>exact abw (l:=some (i,ui)) (u:=none) (st:=none) hs rfl (post_val_or_str ⟨aaz (Txt.slice_le z _ _) hz,λt' k=>⟨.str _,H,I.tok _,⟨_,rfl⟩,q⟩⟩)
  |int j uj=>exact abw (l:=some (i,ui)) (u:=some (j,uj)) (st:=none) hs rfl (post_val_or_str ⟨aaz (Txt.slice_le z _ _) hz,λt' k=>⟨.str _,H,I.tok _,⟨_,rfl⟩,q⟩⟩)
section
variable{X:Cx}{pins:List 'f'}{σ:St}{H:Hp}{s:Shared}{h':Heap}
theorem Inv.Dk{t':Nat}{wr:List Addr}(I:Inv X pins σ H s)(k:∀b o,b∉wr->s.heap.get? b=some o->h'.get? b=some o)(hf:∀it∈wr,jv X pins H it):Inv X pins σ H {s with heap:=h',toks:=t'}:=by
 have Nc:∀b u,H b=some u->b∉wr:=λb u e z=>by rw[(hf b z).1]at e;cases e
 have hL:X.env.locals∉wr:=λz=>(hf _ z).2.1 rfl
 refine I.step (g':=s.gens) (d':=s.drawn) (ch:=wr) (λb hb=>?_) (λb o _ _ hc e _=>k b o hc e) (λb o _ _ hc e _=>⟨o.slots,k b o hc e⟩) (λ_ _ _ _ n=>n)
  (λb o hc e=>⟨o,k b o hc e⟩) (λ_ _ e=>e) (λ_ _ _ e=>e) (λb ps e=>⟨#[],by rw[e];simp⟩) (λm hm=>?_) (λb u e=>?_) I.bare
 ·obtain⟨f0,f1,f2,f3,f4,f5⟩:=hf b hb
  exact⟨f3,f1,f4,f5⟩
 ·obtain⟨o,es,ep,ho,r⟩:=hm
  exact⟨o,es,ep,k _ o hL ho,r⟩
 ·refine(I.hok b u e).stay (λc v hc q=>k c v ?_ q) (λ_ q=>q) λ_ _ q=>q
  rcases hc with z|z
  ·rw[z];exact Nc b u e
  ·exact Nc c _ z
end
def hmid(h h2:Heap):Heap:=⟨h.objs++(h2.objs.toList.drop h.objs.size).toArray,h2.life⟩
theorem Gm{h h2:Heap}{a:Addr}(ha:a<h.objs.size):(hmid h h2).get? a=h.get? a:=by
 have e:(hmid h h2).objs[a]?=h.objs[a]?:=Array.getElem?_append_left ha
 unfold Heap.get?
 rw[e]
theorem Gn{h h2:Heap}{a:Addr}(ha:h.objs.size<=a):(hmid h h2).get? a=h2.get? a:=by
 have e:(hmid h h2).objs[a]?=h2.objs[a]?:=by
  show(h.objs++(h2.objs.toList.drop h.objs.size).toArray)[a]?=_
  rw[Array.getElem?_append_right ha,List.getElem?_toArray,List.getElem?_drop,Array.getElem?_toList]
  congr 1
  omega
 unfold Heap.get?
 rw[e]
theorem xS{X:Cx}{pins:List 'f'}{σ:St}{H:Hp}{s:Shared}{E:Value->Shared->Prop}{it:Addr}{Rn wr fp:List Addr}{n:Nat}{Pt:Nat->Array Value->Prop}{MS:Nat->Heap->Prop}{Mid:Nat->Addr->Heap->Prop}{elts:List Expr}{k:Nat}{pos:Pos}{J:It}{tn:Nat->Heap->Prop}{i:Nat}(W:WalksT X.prog X.w X.A it Rn wr n Pt MS Mid)(I:Inv X pins σ H s)(hfp:∀b∈fp,jv X pins H b)(hwr:∀b∈wr,b∈fp)(hsz:∀b∈fp,b<s.heap.objs.size)(hi:i<n)(hst:MS i s.heap)(hv:∀vals,Pt i vals->∃vs:List V,vs.length<=sizeLine/\Vals vs vals.toList/\∀T,H T=none->J.Fq i H (.ref T) (upd H T (.tup vs)))(X3:∀h,MS (i+1) h->tn (i+1) h):wpAny 'd' X.A (pyNext (.ref it)) (λr s1=>∃u,r=some u/\wpAny 'd' X.A (letOwnedTupleGo (.Tuple elts k pos) (.ref it) u) (λ_ s2=>∃x H',Inv X pins σ H' s2/\RelV x u/\J.Fq i H x H'/\tn (i+1) s2.heap/\∀b∈fp,H' b=none) E s1) E s:=by
 refine W.item i s _ E hi hst λT vals h1 tk X4 hT Ro NT hk=>⟨.ref T,rfl,?_⟩
 have hap:=W.apart i T h1 NT
 refine W.go elts k pos i T _ _ E NT λh2 hSt hk2=>?_
 obtain⟨vs,hlen,NU,hy⟩:=hv vals X4
 have X6:H T=none:=I.hok.fresh hT
 obtain⟨o,ho,hoc,m,hod⟩:=Ro
 have ho2:h2.get? T=some o:=hk2 T o hap ho
 have I1:Inv X pins σ (upd H T (.tup vs)) {s with heap:=hmid s.heap h2,toks:=tk}:=by
  refine I.laid (λb u e=>(Gm (aaw e)).trans e) hT ?_
  refine⟨hlen,vals.toList,NU,⟨o,(Gn hT).trans ho2,hoc,m,?_⟩⟩
  rw[hod]
 have hne:∀b∈fp,b≠T:=λb hb e=>by
  have:=hsz b hb
  rw[e]at this
  exact absurd this (Nat.not_lt.mpr hT)
 have I2:=I1.Dk (h':=h2) (t':=tk) (wr:=wr) (λb ob hb e=>?_) (λb hb=>?_)
 ·exact⟨.ref T,_,I2,O,hy T X6,X3 _ hSt,λb hb=>(aB (hne b hb)).trans (hfp b hb).1⟩
 ·by_cases hlt:b<s.heap.objs.size
  ·have e:s.heap.get? b=some ob:=(Gm hlt).symm.trans e
   exact hk2 b ob hb (hk b ob hb e)
  ·exact(Gn (Nat.le_of_not_lt hlt)).symm.trans e
 ·have f:=hfp b (hwr b hb)
  exact⟨(aB (hne b (hwr b hb))).trans f.1,f.2⟩
theorem xT{X:Cx}{pins:List 'f'}{σ:St}{H:Hp}{s:Shared}{E:Value->Shared->Prop}{it:Addr}{Rn wr fp:List Addr}{n:Nat}{Pt:Nat->Array Value->Prop}{MS:Nat->Heap->Prop}{Mid:Nat->Addr->Heap->Prop}(W:WalksT X.prog X.w X.A it Rn wr n Pt MS Mid)(I:Inv X pins σ H s)(hfp:∀b∈fp,jv X pins H b)(hwr:∀b∈wr,b∈fp)(hst:MS n s.heap):wpAny 'd' X.A (pyNext (.ref it)) (λr s1=>r=none/\Inv X pins σ H s1) E s :=
 W.done s _ E hst λh1 tk hk=>⟨rfl,I.Dk (h':=h1) (t':=tk) (wr:=wr) hk λb hb=>hfp b (hwr b hb)⟩
theorem Li(I l1 l2:Nat)(h1:@LT.lt Nat _ l1 I)(h2:@LT.lt Nat _ l2 I):ZipApart (I+4) (I+2) (I+3) I (I+1) l1 l2:=by
 constructor<;>(intro e;have e':=@id (@Eq Nat _ _) e;omega)
def MT(K:W.Frag)(a:Addr):It :=
 ⟨λi H=>∃xs x,aK K H a xs/\xs[i]?=some x,λi H v H'=>∃t x,H t=none/\v=.ref t/\H'=upd H t (.tup [.int i,x])/\∀xs,aK K H a xs->xs[i]?=some x,λi H=>∃xs,aK K H a xs/\xs.length=i⟩
theorem Ea{P:Program}{w:World}{K:W.Frag}{elts:List Expr}{k:Nat}{pos:Pos}{e it l:Addr}(hei:e≠it)(hle:l≠e)(hli:l≠it):Turn P w K (.Tuple elts k pos) (MT K l) [e,it] e (λi h=>(∃old,IsEnum h e it i old)/\h.IsListIter it l i) where
 mem:=by simp
 obj:=λi h st b hb=>by
  obtain⟨⟨old,he⟩,⟨o1,e1,c1,d1⟩⟩:=st
  simp only[aas,abd,or_false]at hb
  rcases hb with rfl|rfl
  ·exact⟨_,he,λv q=>by cases q⟩
  ·exact⟨_,e1,λv q=>by rw[d1]at q;cases q⟩
 keep:=λi h h' st k=>by
  obtain⟨⟨old,he⟩,q1⟩:=st
  exact⟨⟨old,k e (by simp) _ he⟩,q1.at λo x=>k it (by simp) o x⟩
 item:=by
  intro X hP hw hK hc i pins s σ H E I hf st hg
  subst hP hw hK
  obtain⟨xs,x,hx,ex⟩:=hg
  obtain⟨its,rv,p,hz⟩:=I.list hx
  obtain⟨u,hu,ru⟩:=rv.get ex
  obtain⟨s1,s2⟩:=id st
  have W:=WalksT.enumerate (prog:=X.prog) (w:=X.w) (A:=X.A) (I.ok.hd hc) e it l hei hle hli its.toArray
  refine xS (J:=MT X.K l) (tn:=λi h=>(∃old,IsEnum h e it i old)/\h.IsListIter it l i) W I hf (λb hb=>hb) ?_ ?_ ?_ ?_ ?_
  ·intro b hb
   simp only[aas,abd,or_false]at hb
   obtain⟨old,s1⟩:=s1
   obtain⟨o1,e1,_⟩:=s2
   rcases hb with rfl|rfl
   ·exact aaw s1
   ·exact aaw e1
  ·have h1:=(aam.mp hu).1
   simpa using h1
  ·exact⟨s1,s2,p.isList⟩
  ·intro vals hp
   obtain⟨t,v1,e1,rfl⟩:=hp
   have e1:its[i]?=some v1:=by simpa using e1
   rw[hu]at e1;cases e1
   exact⟨[.int i,x],(by show 2<=sizeLine;decide),.cons ⟨_,O⟩ (.cons ru .nil),λT hT=>⟨T,x,hT,O,O,λzs hz=>by rw[I.uJ hz hx];exact ex⟩⟩
  ·exact λh q=>⟨q.1,q.2.1⟩
 done:=by
  intro X hP hw hK hc i pins s σ H E I hf st hg
  subst hP hw hK
  obtain⟨xs,hx,hlen⟩:=hg
  obtain⟨its,rv,p,hz⟩:=I.list hx
  obtain⟨s1,s2⟩:=id st
  have e':i=its.toArray.size:=by rw[aak,←rv.length,hlen]
  subst e'
  have W:=WalksT.enumerate (prog:=X.prog) (w:=X.w) (A:=X.A) (I.ok.hd hc) e it l hei hle hli its.toArray
  exact xT W I hf (λb hb=>hb) ⟨s1,s2,p.isList⟩
 self:=λ_ _ _ _ _ st h=>by
  obtain⟨⟨old,he⟩,_⟩:=st
  exact wpAny_pyIter_enum he h
def NV(K:W.Frag)(ta:TA):TI:=λσ H R=>ta σ H λvs H1=>∃a,vs=[.ref a]/\(∃xs,aK K H1 a xs)/\R (MT K a) H1
theorem Gp{X:Cx}{elts:List Expr}{k:Nat}{tpos:Pos}{a:Expr}{ta:TA}{p pos:Pos}(K:W.Frag)(hK:X.K=K)(hg:Gl X "enumerate")(hm:X.mg "enumerate"=none)(ha:PA X [a] ta)(hs:starEach [a] X.env=[(false,eval a X.env)]:=by rfl):PI X (.Tuple elts k tpos) (.Call (.Name "enumerate" p) [a] [] pos) (NV K ta):=by
 subst hK
 intro pins s σ H R I h
 refine Call_ (kP I hg hm (u:=.type "enumerate") 'g' (aa9 (cC (ha pos pins s σ H _ I h) λus s1 ⟨vs,H1,I1,r1,q1⟩=>?_) hs rfl))
 obtain⟨l,e,⟨xs,hx⟩,q⟩:=q1
 subst e
 cases r1 with
 |cons r rr =>
  cases rr
  cases r
  obtain⟨its,rv,pl,hz⟩:=I1.list hx
  have hlt:l<s1.heap.objs.size:=by obtain⟨o,ho,_⟩:=pl.isList;exact aaw ho
  refine call_enumerate_list pl.isList λh' hE hI hsz hk=>?_
  refine wpAny_pyIter_enum hE ?_
  have I2:Inv X pins σ H1 {s1 with heap:=h'}:=I1.kept (t':=s1.toks) λb o e=>hk b o e
  refine⟨s1.heap.objs.size+1,_,_,_,H1,O,I2,Ea (Nat.succ_ne_self _) (aaS (Nat.lt_succ_of_lt hlt)) (aaS hlt),⟨⟨_,hE⟩,hI⟩,λb hb=>?_,q⟩
  have hb':s1.heap.objs.size<=b:=by
   simp only[aas,abd,or_false]at hb
   rcases hb with rfl|rfl
   ·exact Nat.le_add_right _ _
   ·exact aao _
  exact I1.uK hb' (I1.hok.fresh hb')
theorem Gq{K:W.Frag}{a:Addr}{xs:List V}{g:TG}{tb:TS}{D:Ends}{σ:St}{H:Hp}(Pv:Nat->St->Hp->Prop)(h0:Pv 0 σ H)(hl:∀i σ H,i<=xs.length->Pv i σ H->aK K H a xs)(hs:∀i x t σ H,xs[i]?=some x->H t=none->Pv i σ H->g (.ref t) σ (upd H t (.tup [.int i,x])) λσ2 H2=>tb {D with nx:=Pv (i+1),ct:=Pv (i+1),bk:=D.nx} σ2 H2)(hd:∀σ H,Pv xs.length σ H->D.nx σ H):∃W:Nat->Nat->St->Hp->Prop,(∃m,W 0 m σ H)/\∀i m σ H,W i m σ H->((MT K a).stop i H/\D.nx σ H)\/((MT K a).go i H/\∃N:St->Hp->Prop,(∀σ' H',N σ' H'->∃m',m'<m/\W (i+1) m' σ' H')/\∀x H',(MT K a).Fq i H x H'->g x σ H' λσ2 H2=>tb {D with nx:=N,ct:=N,bk:=D.nx} σ2 H2):=by
 refine⟨λi m σ H=>m=xs.length-i/\i<=xs.length/\Pv i σ H,⟨xs.length,by simp,aaZ _,h0⟩,?_⟩
 rintro i m σ H ⟨rfl,hi,p⟩
 have q:=hl i σ H hi p
 by_cases hlt:i<xs.length
 ·refine .inr ⟨⟨xs,xs[i],q,by simp[hlt]⟩,Pv (i+1),λσ' H' p'=>⟨xs.length-(i+1),by omega,rfl,hlt,p'⟩,λv H' y=>?_⟩
  obtain⟨t,x,ht,e1,e2,ex⟩:=y
  subst e1 e2
  exact hs i x t σ _ (ex xs q) ht p
 ·have e:i=xs.length:=by omega
  subst e
  exact .inl ⟨⟨xs,q,rfl⟩,hd σ H p⟩
theorem jw:∀{ns:List Nat}{us:List Value}{i:Nat}{v:Value},Vals (ns.map λn:Nat=>V.int n) us->us[i]?=some v->∃t,v=.int (ns.getD i 0:Nat) t
 |[],_,i,v,r,e=>by cases r;simp at e
 |n::ns,_,0,v,r,e=>by
  cases r with
  |cons r1 r2 =>
   simp at e
   subst e
   obtain⟨t,e⟩:=r1
   exact⟨t,by simpa using e⟩
 |n::ns,_,i+1,v,r,e=>by
  cases r with
  |cons r1 r2 =>
   obtain⟨t,e2⟩:=jw r2 (i:=i) (v:=v) (by simpa using e)
   exact⟨t,by simpa using e2⟩
theorem uW{y:V}:∀{xs:List V}{us:List Value},Vals xs us->xs.all dB=true->us.countP (P9 y)=xs.countP (λz=>xP z y)
 |_,_,.nil,_=>rfl
 |x::xs,u::us,.cons r t,f=>by
  rw[List.all_cons,Bool.and_eq_true]at f
  rw[List.countP_cons,List.countP_cons,uW t f.2,FP r f.1]
section
variable{X:Cx}
def Dm(K:W.Frag):V->List V->Hp->VK->Prop:=λx vs H Q=>∃(p:Addr)(xs:List V)(y:V),x=.ref p/\vs=[y]/\aK K H p xs/\dB y=true/\xs.all dB=true/\Q (.int (xs.countP λz=>xP z y:Nat)) H
theorem Eb:Ik X "list.count" (Dm X.K):=by
 intro pins s σ H x vs v us Q I rx rv h
 obtain⟨p,xs,y,rfl,rfl,hq,fy,fs,q⟩:=h
 cases rx
 obtain⟨u,rfl,ru⟩:=rv.one
 obtain⟨its,r,pl,_⟩:=I.list hq
 obtain⟨⟨cls,dd,data,sl⟩,ho,hc,n,hd⟩:=pl.isList
 simp only at hc hd
 subst hc hd
 refine call_meets F.slot_list_count ⟨_,ho,rfl⟩ F.entry_list_count (F.args_list_count_2 _ _) (SeqAt.list_countAt p its.toArray n dd sl u (P9 y)) ⟨ho,λw hw=>Ag ru fy r fs w (by simpa using hw),?_⟩
 refine⟨.int _,H,I.tok _,⟨_,O⟩,?_⟩
 rw[show its.toArray.toList=its from rfl,uW r fs]
 exact q
theorem BX(K:W.Frag)(h:X.K=K):Ik X "list.count" (Dm K):=by subst h;exact Eb
def Rp(K:W.Frag):R2:=λx y H Q=>∃a b xs,x=.ref a/\y=.ref b/\aK K H a xs/\aK K H b []/\Q (.bl xs.isEmpty) H
theorem yF(K:W.Frag)(hK:X.K=K)(hu:X.A.units<cLine):mG X (compareOp .Eq) (Rp K):=by
 subst hK
 intro pins s σ H x y v u Q I rx ry h
 obtain⟨a,b,xs,rfl,rfl,ha,hb,q⟩:=h
 cases rx
 cases ry
 obtain⟨its,r1,p1,_⟩:=I.list ha
 obtain⟨its2,r2,p2,_⟩:=I.list hb
 cases r2
 show wpAny _ _ (richCompare .Eq (.ref a) (.ref b)) _ _ _
 cases xs with
 |nil =>
  cases r1
  refine SeqAt.RcAt.lists (e:=λ_=>true) p1.isList p2.isList rfl hu (λj h1 _=>absurd h1 (by simp)) _ _ _ _ ⟨.bl true,H,I,?_,q⟩
  simp[RelV]
 |cons x xs =>
  cases r1 with
  |cons r rr =>
   exact SeqAt.RcAt.lists_lengths p1.isList p2.isList (by simp) hu _ _ _ _ ⟨.bl false,H,I,rfl,q⟩
end
def Ec(i:Int)(n:Nat):List V:=(List.range n).map λ(k:Nat)=>V.int (i+k)
theorem Ed{a:Int}{n:Nat}{acc:Array Value}(h:ItemsOf (λi v=>∃t,v=.int (a+i*1) t) acc n):Vals (Ec a n) acc.toList:=by
 have key:∀(m:Nat),m<=n->Vals ((List.range m).map λ(k:Nat)=>V.int (a+k)) (acc.toList.take m):=by
  intro m
  induction m with
  |zero=>intro _;exact .nil
  |succ m ih =>
   intro hm
   have hsz:m<acc.size:=by rw[h.1];omega
   have hx:acc.toList[m]?=some acc[m]:=by simp[hsz]
   obtain⟨t,et⟩:=h.2 m acc[m] (by simp[hsz])
   rw[List.range_succ,aaI,List.take_succ,hx]
   refine(ih 'c').append (.cons ⟨t,?_⟩ .nil)
   rw[et,Int.mul_one]
 have:=key n (aao _)
 rw[aaD (by rw[aaE,h.1];exact aao _)]at this
 exact this
section
variable{X:Cx}
end
section
variable{prog:Program}{w:World}{A:Around}{E:Value->Shared->Prop}{s:Shared}
theorem IB{z TI TO i1 i2 l:Addr}{n1 n2 k:Nat}{P1 P2:Nat->Value->Prop}{S1 S2:Nat->Heap->Prop}{a b:Value}{Q:Value->Shared->Prop}(D:ZipApart z TI TO i1 i2 l l)(G1:Draws prog w A i1 [i1] n1 P1 S1)(G2:Draws prog w A i2 [i2,l] n2 P2 S2)(hz:IsZip s.heap z TI TO .none)(hTI:IsPair s.heap TI (.ref i1) (.ref i2))(hTO:IsPair s.heap TO a b)(g1:S1 k s.heap)(g2:S2 k s.heap)(k1:k<n1)(k2:k<n2)(hQ:∀h' tk x y,P1 k x->P2 k y->IsZip h' z TI TO (rawInt s.heap.objs.size)->IsPair h' TO x y->S1 (k+1) h'->S2 (k+1) h'->IsPair h' s.heap.objs.size x y->(∀c o,c≠z->c≠TO->c≠i1->c≠i2->s.heap.get? c=some o->h'.get? c=some o)->Q (.ref s.heap.objs.size) {s with heap:=h',toks:=tk}):wpAny (model prog w) A (Builtin.«zip.__next__» ⟨[.ref z],[]⟩) (λfin s'=>∃v,fin=.done (.ret v)/\Q v s') E s:=by
 have e1:∀{i:Nat}{h h':Heap}{c:Addr},Heap.SameBut c h h'->i1≠c->S1 i h->S1 i h':=λhs hn g=>G1.frame _ _ _ g λb hb o e=>by
  rw[aan.mp hb]at e⊢;exact hs.extBut _ _ hn e
 have e2:∀{i:Nat}{h h':Heap}{c:Addr},Heap.SameBut c h h'->i2≠c->l≠c->S2 i h->S2 i h':=λhs hn hl g=>G2.frame _ _ _ g λb hb o e=>by
  rcases aas.mp hb with q|q
  ·rw[q]at e⊢;exact hs.extBut _ _ hn e
  ·rw[aan.mp q]at e⊢;exact hs.extBut _ _ hl e
 show wpAny _ _ (field (.ref z) 2 >>= _) _ _ _
 refine aai (abf hz rfl (x:=.bool false) rfl ?_)
 show wpAny _ _ (field (.ref z) 3 >>= _) _ _ _
 refine aai (abf hz rfl (x:=.ref TI) rfl (aai (wpAny_seqItems hTI rfl ?_)))
 show wpAny _ _ (Builtin.SmallTypes.ownedTupleIsFree (.ref z) >>= _) _ _ _
 refine aai ?_
 unfold Builtin.SmallTypes.ownedTupleIsFree
 refine aai (abf hz rfl (x:=.none) rfl (aaB ?_))
 simp only[abx]
 refine aai (wpAny_rule (aai (abf hz rfl (x:=.ref TO) rfl (aai (abA hz (by simp) λA1 z1 q1=>?_)))))
 replace z1:IsZip A1 z TI TO .ellipsis:=z1
 refine aai ?_
 simp only[List.zipIdx_cons,List.zipIdx_nil,List.forIn_cons,List.forIn_nil]
 refine aai (aai (wpAny_onRaise ?_))
 show wpAny _ _ (Builtin.SmallTypes.nextOf (.ref i1) >>= _) _ _ _
 refine aai (G1.item k _ _ _ k1 (e1 q1 D.i1z g1) λx A2 tk px Wb q2=>aaB ?_)
 have o2:IsPair A2 TO a b:=q2.extBut _ _ D.TOi1 (q1.extBut _ _ D.TOz hTO)
 refine aai (wpAny_seqItems o2 rfl (aai (wpAny_updateSeq_pair o2 λA3 o3 q3=>?_)))
 replace o3:IsPair A3 TO x b:=o3
 refine aai (wpAny_letGo (aaB (aai (aai (wpAny_onRaise ?_)))))
 show wpAny _ _ (Builtin.SmallTypes.nextOf (.ref i2) >>= _) _ _ _
 refine aai (G2.item k _ _ _ k2 (e2 q3 D.TOi2.symm D.l2TO (e2 q2 D.i12.symm D.l2i1 (e2 q1 D.i2z D.l2z g2))) λy A4 tk2 py X7 q4=>aaB ?_)
 have o4:IsPair A4 TO x b:=q4.extBut _ _ D.TOi2 o3
 refine aai (wpAny_seqItems o4 rfl (aai (wpAny_updateSeq_pair o4 λA5 o5 q5=>?_)))
 replace o5:IsPair A5 TO x y:=o5
 refine aai (wpAny_letGo (aaB (aaB (aai (wpAny_seqItems o5 rfl (aai (wpAny_newTuple ?_)))))))
 have sz:A5.objs.size=s.heap.objs.size:=by rw[q5.1,q4.1,q3.1,q2.1,q1.1]
 have z5:IsZip A5 z TI TO .ellipsis:=q5.extBut _ _ D.TOz.symm (q4.extBut _ _ D.i2z.symm (q3.extBut _ _ D.TOz.symm (q2.extBut _ _ D.i1z.symm z1)))
 have w1:S1 (k+1) A5:=e1 q5 D.TOi1.symm (e1 q4 D.i12 (e1 q3 D.TOi1.symm Wb))
 have w2:S2 (k+1) A5:=e2 q5 D.TOi2.symm D.l2TO X7
 have kp:∀c o,c≠z->c≠TO->c≠i1->c≠i2->s.heap.get? c=some o->A5.get? c=some o:=λc o c1 c2 c3 c4 e=>q5.extBut _ _ c2 (q4.extBut _ _ c4 (q3.extBut _ _ c2 (q2.extBut _ _ c3 (q1.extBut _ _ c1 e))))
 have lz:z<A5.objs.size:=aaw z5
 have z6:IsZip (A5.push {cls:=.type "tuple",data:=.seq #[x,y]}) z TI TO .ellipsis:=aap _ z5
 show wpAny _ _ (Builtin.SmallTypes.ownedTupleHandOut (.ref z) (.ref A5.objs.size) >>= _) _ _ _
 refine aai ?_
 unfold Builtin.SmallTypes.ownedTupleHandOut
 refine aai (abA z6 (by simp) λA7 z7 q7=>?_)
 replace z7:IsZip A7 z TI TO (rawInt A5.objs.size):=z7
 refine abA z7 (by simp) λA8 z8 q8=>?_
 replace z8:IsZip A8 z TI TO (rawInt A5.objs.size):=z8
 have up:∀c o,c≠z->A5.get? c=some o->A8.get? c=some o:=λc o c1 e=>q8.extBut _ _ c1 (q7.extBut _ _ c1 (aap _ e))
 have t8:IsPair A8 A5.objs.size x y:=q8.extBut _ _ (abG lz) (q7.extBut _ _ (abG lz) (aaG _ rfl))
 have v1:S1 (k+1) A8:=G1.frame _ _ _ w1 λb hb o e=>by
  rw[aan.mp hb]at e⊢;exact up _ o D.i1z e
 have v2:S2 (k+1) A8:=G2.frame _ _ _ w2 λb hb o e=>by
  rcases aas.mp hb with q|q
  ·rw[q]at e⊢;exact up _ o D.i2z e
  ·rw[aan.mp q]at e⊢;exact up _ o D.l2z e
 rw[sz]at z8 t8
 refine aaB ⟨_,rfl,?_⟩
 show Q (.ref A5.objs.size) _
 rw[sz]
 exact hQ A8 _ x y px py z8 (up _ _ D.TOz o5) v1 v2 t8 λc o c1 c2 c3 c4 e=>up c o c1 (kp c o c1 c2 c3 c4 e)
theorem Lj{z TI TO i1 i2 l:Addr}{n1 n2 k:Nat}{P1 P2:Nat->Value->Prop}{S1 S2:Nat->Heap->Prop}{a b:Value}{Q:Fin->Shared->Prop}(D:ZipApart z TI TO i1 i2 l l)(G1:Draws prog w A i1 [i1] n1 P1 S1)(G2:Draws prog w A i2 [i2,l] n2 P2 S2)(hz:IsZip s.heap z TI TO .none)(hTI:IsPair s.heap TI (.ref i1) (.ref i2))(hTO:IsPair s.heap TO a b)(g1:S1 k s.heap)(g2:S2 k s.heap)(hk:k=n1\/(k<n1/\k=n2))(hE:∀h' tk e,(∀c o,c≠z->c≠TO->c≠i1->c≠i2->s.heap.get? c=some o->h'.get? c=some o)->(∃o,h'.get? e=some o/\o.cls=.type "StopIteration")->E (.ref e) {s with heap:=h',toks:=tk}):wpAny (model prog w) A (Builtin.«zip.__next__» ⟨[.ref z],[]⟩) Q E s:=by
 have e1:∀{i:Nat}{h h':Heap}{c:Addr},Heap.SameBut c h h'->i1≠c->S1 i h->S1 i h':=λhs hn g=>G1.frame _ _ _ g λb hb o e=>by
  rw[aan.mp hb]at e⊢;exact hs.extBut _ _ hn e
 have e2:∀{i:Nat}{h h':Heap}{c:Addr},Heap.SameBut c h h'->i2≠c->l≠c->S2 i h->S2 i h':=λhs hn hl g=>G2.frame _ _ _ g λb hb o e=>by
  rcases aas.mp hb with q|q
  ·rw[q]at e⊢;exact hs.extBut _ _ hn e
  ·rw[aan.mp q]at e⊢;exact hs.extBut _ _ hl e
 show wpAny _ _ (field (.ref z) 2 >>= _) _ _ _
 refine aai (abf hz rfl (x:=.bool false) rfl ?_)
 show wpAny _ _ (field (.ref z) 3 >>= _) _ _ _
 refine aai (abf hz rfl (x:=.ref TI) rfl (aai (wpAny_seqItems hTI rfl ?_)))
 show wpAny _ _ (Builtin.SmallTypes.ownedTupleIsFree (.ref z) >>= _) _ _ _
 refine aai ?_
 unfold Builtin.SmallTypes.ownedTupleIsFree
 refine aai (abf hz rfl (x:=.none) rfl (aaB ?_))
 simp only[abx]
 refine aai (wpAny_rule (aai (abf hz rfl (x:=.ref TO) rfl (aai (abA hz (by simp) λA1 z1 q1=>?_)))))
 replace z1:IsZip A1 z TI TO .ellipsis:=z1
 refine aai ?_
 simp only[List.zipIdx_cons,List.zipIdx_nil,List.forIn_cons,List.forIn_nil]
 refine aai (aai (wpAny_onRaise ?_))
 show wpAny _ _ (Builtin.SmallTypes.nextOf (.ref i1) >>= _) _ _ _
 rcases hk with rfl|⟨k1,rfl⟩
 ·refine aai (G1.done _ _ _ (e1 q1 D.i1z g1) λA2 e q2 he=>?_)
  obtain⟨oe,Lk,hce⟩:=he
  have z2:IsZip A2 z TI TO .ellipsis:=q2 _ _ D.i1z.symm z1
  have ez:e≠z:=λq=>by rw[q,z2]at Lk;cases Lk;exact absurd (show Value.type "zip"=Value.type "StopIteration" from hce) 'b'
  exact abA z2 (by simp) λA3 _ q3=>hE A3 _ e (λc o c1 _ c3 _ p=>q3.extBut _ _ c1 (q2 _ _ c3 (q1.extBut _ _ c1 p))) ⟨oe,q3.extBut _ _ ez Lk,hce⟩
 ·refine aai (G1.item k _ _ _ k1 (e1 q1 D.i1z g1) λx A2 tk px Wb q2=>aaB ?_)
  have o2:IsPair A2 TO a b:=q2.extBut _ _ D.TOi1 (q1.extBut _ _ D.TOz hTO)
  refine aai (wpAny_seqItems o2 rfl (aai (wpAny_updateSeq_pair o2 λA3 o3 q3=>?_)))
  refine aai (wpAny_letGo (aaB (aai (aai (wpAny_onRaise ?_)))))
  show wpAny _ _ (Builtin.SmallTypes.nextOf (.ref i2) >>= _) _ _ _
  refine aai (G2.done _ _ _ (e2 q3 D.TOi2.symm D.l2TO (e2 q2 D.i12.symm D.l2i1 (e2 q1 D.i2z D.l2z g2))) λA4 e q4 he=>?_)
  obtain⟨oe,Lk,hce⟩:=he
  have z4:IsZip A4 z TI TO .ellipsis:=q4 _ _ D.i2z.symm (q3.extBut _ _ D.TOz.symm (q2.extBut _ _ D.i1z.symm z1))
  have ez:e≠z:=λq=>by rw[q,z4]at Lk;cases Lk;exact absurd (show Value.type "zip"=Value.type "StopIteration" from hce) 'b'
  exact abA z4 (by simp) λA5 _ q5=>hE A5 _ e (λc o c1 c2 c3 c4 p=>q5.extBut _ _ c1 (q4 _ _ c4 (q3.extBut _ _ c2 (q2.extBut _ _ c3 (q1.extBut _ _ c1 p))))) ⟨oe,q5.extBut _ _ ez Lk,hce⟩
def tG(h:Heap)(it:Addr)(x:Str)(t:Tok)(i:Nat):Prop:=h.IsStrIter it "str_ascii_iterator" x t i\/h.IsStrIter it "str_iterator" x t i
theorem Am(hh:A.handled=none)(it:Addr)(x:Str)(t:Tok):Draws prog w A it [it] x.cps.size (λi v=>∃c u,x.cps[i]?=some c/\v=.str ⟨#[c]⟩ u) (λi h=>tG h it x t i) where
 live:=λi h st=>by
  rcases st with st|st
  ·exact(Draws.strAscii (prog:=prog) (w:=w) hh it x t).live i h st
  ·exact(Draws.strWide (prog:=prog) (w:=w) hh it x t).live i h st
 frame:=λi h h' st hk=>by
  rcases st with st|st
  ·exact .inl ((Draws.strAscii (prog:=prog) (w:=w) hh it x t).frame i h h' st hk)
  ·exact .inr ((Draws.strWide (prog:=prog) (w:=w) hh it x t).frame i h h' st hk)
 item:=λi s Q E hi st hQ=>by
  rcases st with st|st
  ·exact(Draws.strAscii (prog:=prog) (w:=w) hh it x t).item i s Q E hi st λv h' tk p q r=>hQ v h' tk p (.inl q) r
  ·exact(Draws.strWide (prog:=prog) (w:=w) hh it x t).item i s Q E hi st λv h' tk p q r=>hQ v h' tk p (.inr q) r
 done:=λs Q E st hE=>by
  rcases st with st|st
  ·exact(Draws.strAscii (prog:=prog) (w:=w) hh it x t).done s Q E st hE
  ·exact(Draws.strWide (prog:=prog) (w:=w) hh it x t).done s Q E st hE
theorem Gr{h h':Heap}{it:Addr}{x:Str}{t:Tok}{i:Nat}(q:tG h it x t i)(e:∀o,h.get? it=some o->h'.get? it=some o):tG h' it x t i:=by
 rcases q with ⟨o,ho,r⟩|⟨o,ho,r⟩
 ·exact .inl ⟨o,e _ ho,r⟩
 ·exact .inr ⟨o,e _ ho,r⟩
theorem BY{h:Heap}{it:Addr}{x:Str}{t:Tok}{i:Nat}(q:tG h it x t i):∃o,h.get? it=some o/\∃vs,o.data=.fields vs:=by
 rcases q with ⟨o,ho,_,r⟩|⟨o,ho,_,r⟩
 ·exact⟨o,ho,_,r⟩
 ·exact⟨o,ho,_,r⟩
theorem An(hh:A.handled=none)(z TI TO i1 i2 l:Addr)(D:ZipApart z TI TO i1 i2 l l)(x:Str)(t:Tok)(ys:Array Value):WalksT prog w A z [z,TI,TO,i1,i2,l] [z,TO,i1,i2] (min x.cps.size ys.size)
   (λi vals=>∃c u y,x.cps[i]?=some c/\ys[i]?=some y/\vals = #[.str ⟨#[c]⟩ u,y])
   (λi h=>IsZip h z TI TO .none/\IsPair h TI (.ref i1) (.ref i2)/\(∃a b,IsPair h TO a b)/\tG h i1 x t i/\h.IsListIter i2 l i/\h.IsList l ys)
   (λi T h=>IsZip h z TI TO (rawInt T)/\IsPair h TI (.ref i1) (.ref i2)/\(∃a b,IsPair h TO a b)/\tG h i1 x t (i+1)/\h.IsListIter i2 l (i+1)/\h.IsList l ys/\T≠z/\T≠TO/\T≠i1/\T≠i2) where
 sub:=λc hc=>by
  simp only[aas,abd,or_false]at hc⊢
  rcases hc with q|q|q|q<;>simp[q]
 frame:=λi h h' st hk=>by
  obtain⟨p1,p2,⟨a,b,p3⟩,p4,p5,p6⟩:=st
  exact⟨hk z (by simp) _ p1,hk TI (by simp) _ p2,⟨a,b,hk TO (by simp) _ p3⟩,Gr p4 λo e=>hk i1 (by simp) o e,p5.at λo e=>hk i2 (by simp) o e,p6.at λo e=>hk l (by simp) o e⟩
 item:=λi s Q E hi st hQ=>by
  obtain⟨p1,p2,⟨a,b,p3⟩,p4,p5,p6⟩:=st
  have hT:s.TypeIs (.ref z) "zip":=⟨_,p1,rfl⟩
  unfold pyNext
  refine aai (wpAny_attempt (wpAny_callSpecial?_slot (name:=("__next__":Str)) hT F.slot_zip_next (wpAny_call_entry F.slot_zip_next hT F.entry_zip_next ?_ (F.args_zip_next_1 _))))
  refine IB (S1:=λi h=>tG h i1 x t i) (S2:=λi h=>h.IsListIter i2 l i/\h.IsList l ys) D (Am (A:=A.in1) hh i1 x t) (Draws.list (A:=A.in1) hh i2 l D.l2i2 ys) p1 p2 p3 p4 ⟨p5,p6⟩ (aaF hi (Nat.min_le_left ..)) (aaF hi (Nat.min_le_right ..)) λh' tk u y pu py r1 r2 r3 r4 r5 kp=>?_
  obtain⟨c,tu,hc,rfl⟩:=pu
  have lt:∀{c o},s.heap.get? c=some o->s.heap.objs.size≠c:=λe=>abG (aaw e)
  refine aaB (hQ s.heap.objs.size #[.str ⟨#[c]⟩ tu,y] h' tk ⟨c,tu,y,hc,py,rfl⟩ (aao _) ⟨_,r5,rfl,_,rfl⟩ ⟨r1,kp _ _ D.TIz D.TITO D.TIi1 D.TIi2 p2,⟨_,_,r2⟩,r3,r4.1,r4.2,lt p1,lt p3,?_,?_⟩ λc o hc e=>kp c o (λq=>hc (by simp[q])) (λq=>hc (by simp[q])) (λq=>hc (by simp[q])) (λq=>hc (by simp[q])) e)
  ·obtain⟨o,ho,_⟩:=BY p4;exact lt ho
  ·obtain⟨o,ho,_⟩:=p5;exact lt ho
 go:=λelts k pos i T s Q E hm hQ=>by
  obtain⟨p1,p2,⟨a,b,p3⟩,p4,p5,p6,_⟩:=hm
  refine wpAny_letOwnedTupleGo_zip p1 λh' z' q=>hQ h' ⟨z',q.extBut _ _ D.TIz p2,⟨a,b,q.extBut _ _ D.TOz p3⟩,Gr p4 λo e=>q.extBut _ _ D.i1z e,p5.extBut q.extBut D.i2z,p6.extBut q.extBut D.l2z⟩ λc o hc e=>q.extBut _ _ (λy=>hc (by simp[y])) e
 apart:=λi T h hm hT=>by
  obtain⟨_,_,_,_,_,_,t1,t2,t3,t4⟩:=hm
  simp only[aas,abd,or_false]at hT
  rcases hT with q|q|q|q
  ·exact t1 q
  ·exact t2 q
  ·exact t3 q
  ·exact t4 q
 done:=λs Q E st hQ=>by
  obtain⟨p1,p2,⟨a,b,p3⟩,p4,p5,p6⟩:=st
  have hT:s.TypeIs (.ref z) "zip":=⟨_,p1,rfl⟩
  unfold pyNext
  refine aai (wpAny_attempt (wpAny_callSpecial?_slot (name:=("__next__":Str)) hT F.slot_zip_next (wpAny_call_entry F.slot_zip_next hT F.entry_zip_next ?_ (F.args_zip_next_1 _))))
  refine Lj (S1:=λi h=>tG h i1 x t i) (S2:=λi h=>h.IsListIter i2 l i/\h.IsList l ys) D (Am (A:=A.in1) hh i1 x t) (Draws.list (A:=A.in1) hh i2 l D.l2i2 ys) p1 p2 p3 p4 ⟨p5,p6⟩ ?_ λh' tk e kp he=>?_
  ·by_cases q:x.cps.size<=ys.size
   ·exact .inl (Nat.min_eq_left q)
   ·exact .inr ⟨by omega,Nat.min_eq_right 'c'⟩
  ·obtain⟨o,ho,hc⟩:=he
   refine aai (wpAny_isInstance (T:="StopIteration") (b:=true) ⟨o,ho,hc⟩ isSubtype_stop (aaB (hQ _ _ λc o hc e=>kp c o (λq=>hc (by simp[q])) (λq=>hc (by simp[q])) (λq=>hc (by simp[q])) (λq=>hc (by simp[q])) e)))
 self:=λi s Q E st hQ=>wpAny_pyIter_zip st.1 hQ
end
def Ef(K:W.Frag)(z:Str)(b:Addr):It :=
 ⟨λi H=>∃ys c y,aK K H b ys/\z.cps[i]?=some c/\ys[i]?=some y,λi H v H'=>∃t c y,H t=none/\v=.ref t/\H'=upd H t (.tup [.str (sg c),y])/\z.cps[i]?=some c/\(∀ys,aK K H b ys->ys[i]?=some y),λi H=>∃ys,aK K H b ys/\min z.cps.size ys.length=i⟩
theorem Eg{P:Program}{w:World}{K:W.Frag}{elts:List Expr}{k:Nat}{pos:Pos}{z TI TO i1 i2 l:Addr}{x:Str}{t:Tok}(D:ZipApart z TI TO i1 i2 l l):Turn P w K (.Tuple elts k pos) (Ef K x l) [z,TI,TO,i1,i2] z (λi h=>IsZip h z TI TO .none/\IsPair h TI (.ref i1) (.ref i2)/\(∃a b,IsPair h TO a b)/\tG h i1 x t i/\h.IsListIter i2 l i) where
 mem:=by simp
 obj:=λi h st b hb=>by
  obtain⟨p1,p2,⟨a,c,p3⟩,p4,⟨o2,e2,c2,d2⟩⟩:=st
  simp only[aas,abd,or_false]at hb
  rcases hb with rfl|rfl|rfl|rfl|rfl
  ·exact⟨_,p1,λv q=>by cases q⟩
  ·exact⟨_,p2,λv q=>by cases q⟩
  ·exact⟨_,p3,λv q=>by cases q⟩
  ·obtain⟨o,ho,vs,hv⟩:=BY p4;exact⟨o,ho,λv q=>by rw[hv]at q;cases q⟩
  ·exact⟨_,e2,λv q=>by rw[d2]at q;cases q⟩
 keep:=λi h h' st k=>by
  obtain⟨p1,p2,⟨a,c,p3⟩,p4,p5⟩:=st
  exact⟨k z (by simp) _ p1,k TI (by simp) _ p2,⟨a,c,k TO (by simp) _ p3⟩,Gr p4 λo e=>k i1 (by simp) o e,p5.at λo e=>k i2 (by simp) o e⟩
 item:=by
  intro X hP hw hK hc i pins s σ H E I hf st hg
  subst hP hw hK
  obtain⟨ys,c,y,hy,ec,ey⟩:=hg
  obtain⟨its,rv,p,hz⟩:=I.list hy
  obtain⟨u,hu,ru⟩:=rv.get ey
  obtain⟨p1,p2,p3,p4,p5⟩:=id st
  have W:=An (prog:=X.prog) (w:=X.w) (A:=X.A) (I.ok.hd hc) z TI TO i1 i2 l D x t its.toArray
  have hsub:∀b∈[z,TO,i1,i2],b∈[z,TI,TO,i1,i2]:=by
   intro b hb
   simp only[aas,abd,or_false]at hb⊢
   rcases hb with q|q|q|q<;>simp[q]
  refine xS (J:=Ef X.K x l) (tn:=λi h=>IsZip h z TI TO .none/\IsPair h TI (.ref i1) (.ref i2)/\(∃a b,IsPair h TO a b)/\tG h i1 x t i/\h.IsListIter i2 l i) W I hf hsub ?_ ?_ ?_ ?_ ?_
  ·intro b hb
   obtain⟨a',b',p3⟩:=p3
   obtain⟨o1,e1,_⟩:=BY p4
   obtain⟨o2,e2,_⟩:=p5
   simp only[aas,abd,or_false]at hb
   rcases hb with rfl|rfl|rfl|rfl|rfl
   ·exact aaw p1
   ·exact aaw p2
   ·exact aaw p3
   ·exact aaw e1
   ·exact aaw e2
  ·have h1:=(aa5.mp ec).1
   have h2:=(aam.mp hu).1
   simp only[aak]
   omega
  ·exact⟨p1,p2,p3,p4,p5,p.isList⟩
  ·rintro vals ⟨c',tu,v2,q1,q2,rfl⟩
   rw[ec]at q1;cases q1
   have q2:its[i]?=some v2:=by simpa using q2
   rw[hu]at q2;cases q2
   exact⟨[.str (sg c),y],(by show 2<=sizeLine;decide),.cons ⟨tu,O⟩ (.cons ru .nil),λT hT=>⟨T,c,y,hT,O,O,ec,λzs hz=>by rw[I.uJ hz hy];exact ey⟩⟩
  ·exact λh q=>⟨q.1,q.2.1,q.2.2.1,q.2.2.2.1,q.2.2.2.2.1⟩
 done:=by
  intro X hP hw hK hc i pins s σ H E I hf st hg
  subst hP hw hK
  obtain⟨ys,hy,hmin⟩:=hg
  obtain⟨its,rv,p,hz⟩:=I.list hy
  obtain⟨p1,p2,p3,p4,p5⟩:=id st
  have e2:its.toArray.size=ys.length:=by rw[rv.length];exact aak ..
  have e:i=min x.cps.size its.toArray.size:=by rw[e2,hmin]
  subst e
  have W:=An (prog:=X.prog) (w:=X.w) (A:=X.A) (I.ok.hd hc) z TI TO i1 i2 l D x t its.toArray
  have hsub:∀b∈[z,TO,i1,i2],b∈[z,TI,TO,i1,i2]:=by
   intro b hb
   simp only[aas,abd,or_false]at hb⊢
   rcases hb with q|q|q|q<;>simp[q]
  exact xT W I hf hsub ⟨p1,p2,p3,p4,p5,p.isList⟩
 self:=λ_ _ _ _ _ st h=>wpAny_pyIter_zip st.1 h
def d9(x:Str)(t:Tok):Obj:={cls:=.type (if x.cps.all (· < 128)=true then "str_ascii_iterator" else "str_iterator"),data:=.fields #[.str x t,.int 0 0]}
theorem Ll{h:Heap}{it:Addr}{x:Str}{t:Tok}(e:h.get? it=some (d9 x t)):tG h it x t 0:=by
 unfold d9 at e
 cases ha:x.cps.all (· < 128)
 ·rw[ha,aah 'b']at e;exact .inr ⟨_,e,rfl,rfl⟩
 ·rw[ha,aal rfl]at e;exact .inl ⟨_,e,rfl,rfl⟩
section
variable{prog:Program}{w:World}{A:Around}{E:Value->Shared->Prop}{s:Shared}
theorem IC{x:Str}{t:Tok}{Q:Value->Shared->Prop}(hQ:Q (.ref s.heap.objs.size) {s with heap:=s.heap.push (d9 x t)}):wpAny (model prog w) A (pyIter (.str x t)) Q E s:=by
 unfold d9 at hQ
 cases ha:x.cps.all (· < 128)
 ·rw[ha,aah 'b']at hQ;exact wpAny_pyIter_wide ha hQ
 ·rw[ha,aal rfl]at hQ;exact wpAny_pyIter_ascii ha hQ
end
abbrev Qc(h:Heap)(o:Obj):Heap:=h.push o
abbrev zs2(h:Heap)(o:Obj)(l:Addr):Heap:=(Qc h o).push {cls:=.type "list_iterator",data:=.fields #[.ref l,.int 0 0]}
abbrev Qd(h:Heap)(o:Obj)(l:Addr):Heap:=(zs2 h o l).push {cls:=.type "tuple",data:=.seq #[.ref h.objs.size,.ref (Qc h o).objs.size]}
abbrev Qe(h:Heap)(o:Obj)(l:Addr):Heap:=(Qd h o l).push {cls:=.type "tuple",data:=.seq #[.none,.none]}
abbrev MU(h:Heap)(o:Obj)(l:Addr):Heap:=(Qe h o l).push {cls:=.type "zip",data:=.fields #[.none,.bool false,.bool false,.ref (zs2 h o l).objs.size,.ref (Qd h o l).objs.size]}
theorem Gs(x:Str)(t:Tok)(l:Addr)(ys:Array Value):Meets (Builtin.«zip.__new__» ⟨[.type "zip",.str x t,.ref l],[]⟩) (λ_ R s=>s.heap.IsList l ys/\R (.ok (.ret (.ref (Qe s.heap (d9 x t) l).objs.size))) {s with heap:=MU s.heap (d9 x t) l}) :=
 .of_wp λprog w A R s h=>by
  obtain⟨hp,g,d,tk,os⟩:=s
  obtain⟨hl,h⟩:=h
  have hsub:=sub_zip
  have hL:Heap.IsList (Shared.heap ⟨hp.push (d9 x t),g,d,tk,os⟩) l ys:=Heap.IsList.push hl _
  wp_walk using IC,wpAny_pyIter_list hL
  exact⟨_,O,h⟩
section
variable{prog:Program}{w:World}{A:Around}{E:Value->Shared->Prop}{s:Shared}
theorem Eh{x:Str}{t:Tok}{l:Addr}{ys:Array Value}{Q:Value->Shared->Prop}(hl:s.heap.IsList l ys)(h:∀h',IsZip h' (s.heap.objs.size+4) (s.heap.objs.size+2) (s.heap.objs.size+3) .none->IsPair h' (s.heap.objs.size+2) (.ref s.heap.objs.size) (.ref (s.heap.objs.size+1))->IsPair h' (s.heap.objs.size+3) .none .none->tG h' s.heap.objs.size x t 0->h'.IsListIter (s.heap.objs.size+1) l 0->(∀c o,s.heap.get? c=some o->h'.get? c=some o)->Q (.ref (s.heap.objs.size+4)) {s with heap:=h'}):wpAny (model prog w) A (call (.type "zip") [.str x t,.ref l]) Q E s:=by
 refine callType_new F.called_zip 'b' (F.typeCall_zip_2 _ _) (F.newCall_zip_2 _ _) (λobj=>F.args_object_init_3 obj _ _) F.entry_zip_new (Gs x t l ys) ⟨hl,?_⟩
 have n1:(Qc s.heap (d9 x t)).objs.size=s.heap.objs.size+1:=aa3 ..
 have n2:(zs2 s.heap (d9 x t) l).objs.size=s.heap.objs.size+2:=by rw[aa3,n1]
 have n3:(Qd s.heap (d9 x t) l).objs.size=s.heap.objs.size+3:=by rw[aa3,n2]
 have n4:(Qe s.heap (d9 x t) l).objs.size=s.heap.objs.size+4:=by rw[aa3,n3]
 have up:∀{h:Heap}{c:Addr}{u o:Obj},h.get? c=some o->(h.push u).get? c=some o:=λe=>aap _ e
 have r5:(MU s.heap (d9 x t) l).get? (Qe s.heap (d9 x t) l).objs.size=some _:=aaG _ rfl
 have r4:(MU s.heap (d9 x t) l).get? (Qd s.heap (d9 x t) l).objs.size=some _:=up (aaG _ rfl)
 have r3:(MU s.heap (d9 x t) l).get? (zs2 s.heap (d9 x t) l).objs.size=some _:=up (up (aaG _ rfl))
 have r2:(MU s.heap (d9 x t) l).get? (Qc s.heap (d9 x t)).objs.size=some _:=up (up (up (aaG _ rfl)))
 have r1:(MU s.heap (d9 x t) l).get? s.heap.objs.size=some (d9 x t):=up (up (up (up (aaG _ rfl))))
 show _/\_
 rw[n2,n3,n4]at r5
 rw[n1,n2]at r3
 rw[n3]at r4
 rw[n1]at r2
 rw[n4]
 exact⟨⟨_,r5,O⟩,h _ r5 r3 r4 (Ll r1) ⟨_,r2,O,O⟩ λc o q=>up (up (up (up (up q))))⟩
end
def NW(K:W.Frag)(ta:TA):TI:=λσ H R=>ta σ H λvs H1=>∃z b,vs=[.str z,.ref b]/\(∃ys,aK K H1 b ys)/\R (Ef K z b) H1
theorem Gu{X:Cx}{elts:List Expr}{k:Nat}{tpos:Pos}{a b:Expr}{ta:TA}{p pos:Pos}(K:W.Frag)(hK:X.K=K)(hg:Gl X "zip")(hm:X.mg "zip"=none)(ha:PA X [a,b] ta)(hs:starEach [a,b] X.env=[(false,eval a X.env),(false,eval b X.env)]:=by rfl)(hs2:starEach [b] X.env=[(false,eval b X.env)]:=by rfl):PI X (.Tuple elts k tpos) (.Call (.Name "zip" p) [a,b] [] pos) (NW K ta):=by
 subst hK
 intro pins s σ H R I h
 refine Call_ (kP I hg hm (u:=.type "zip") 'g' (aa9 (cC (ha pos pins s σ H _ I h) λus s1 ⟨vs,H1,I1,r1,q1⟩=>?_) (by rw[hs,hs2]) (by rw[hs2];rfl)))
 obtain⟨z,l,e,⟨ys,hy⟩,q⟩:=q1
 subst e
 cases r1 with
 |cons r rr =>
  cases rr with
  |cons r' rr =>
   cases rr
   obtain⟨t,rfl⟩:=r
   cases r'
   obtain⟨its,rv,pl,hz⟩:=I1.list hy
   have hlt:l<s1.heap.objs.size:=by obtain⟨o,ho,_⟩:=pl.isList;exact aaw ho
   refine Eh pl.isList λh' hz' hTI hTO hi1 hi2 hk=>?_
   refine wpAny_pyIter_zip hz' ?_
   have I2:Inv X pins σ H1 {s1 with heap:=h'}:=I1.kept (t':=s1.toks) λb o e=>hk b o e
   refine⟨s1.heap.objs.size+4,_,_,_,H1,rfl,I2,Eg (x:=z) (t:=t) (Li s1.heap.objs.size l l hlt hlt),⟨hz',hTI,⟨_,_,hTO⟩,hi1,hi2⟩,λb hb=>?_,q⟩
   have hb':s1.heap.objs.size<=b:=by
    simp only[aas,abd,or_false]at hb
    rcases hb with rfl|rfl|rfl|rfl|rfl
    ·exact Nat.le_add_right _ _
    ·exact Nat.le_add_right _ _
    ·exact Nat.le_add_right _ _
    ·exact aao _
    ·exact Nat.le_add_right _ _
   exact I1.uK hb' (I1.hok.fresh hb')
theorem Gv{K:W.Frag}{z:Str}{b:Addr}{ys:List V}{g:TG}{tb:TS}{D:Ends}{σ:St}{H:Hp}(Pv:Nat->St->Hp->Prop)(h0:Pv 0 σ H)(hl:∀i σ H,i<=min z.cps.size ys.length->Pv i σ H->aK K H b ys)(hs:∀i c y t σ H,z.cps[i]?=some c->ys[i]?=some y->H t=none->Pv i σ H->g (.ref t) σ (upd H t (.tup [.str (sg c),y])) λσ2 H2=>tb {D with nx:=Pv (i+1),ct:=Pv (i+1),bk:=D.nx} σ2 H2)(hd:∀σ H,Pv (min z.cps.size ys.length) σ H->D.nx σ H):∃W:Nat->Nat->St->Hp->Prop,(∃m,W 0 m σ H)/\∀i m σ H,W i m σ H->((Ef K z b).stop i H/\D.nx σ H)\/((Ef K z b).go i H/\∃N:St->Hp->Prop,(∀σ' H',N σ' H'->∃m',m'<m/\W (i+1) m' σ' H')/\∀x H',(Ef K z b).Fq i H x H'->g x σ H' λσ2 H2=>tb {D with nx:=N,ct:=N,bk:=D.nx} σ2 H2):=by
 refine⟨λi m σ H=>m=min z.cps.size ys.length-i/\i<=min z.cps.size ys.length/\Pv i σ H,⟨_,O,aaZ _,h0⟩,?_⟩
 rintro i m σ H ⟨rfl,hi,p⟩
 have q:=hl i σ H hi p
 by_cases hlt:i<min z.cps.size ys.length
 ·have h1:i<z.cps.size:=by omega
  have h2:i<ys.length:=by omega
  refine .inr ⟨⟨ys,z.cps[i],ys[i],q,by simp[h1],by simp[h2]⟩,Pv (i+1),λσ' H' p'=>⟨_,(by omega:min z.cps.size ys.length-(i+1)<_),rfl,hlt,p'⟩,λv H' y=>?_⟩
  obtain⟨t,c,y,ht,e1,e2,ec,ey⟩:=y
  subst e1 e2
  exact hs i c y t σ _ ec (ey ys q) ht p
 ·have e:i=min z.cps.size ys.length:=by omega
  subst e
  exact .inl ⟨⟨ys,q,rfl⟩,hd σ H p⟩
section
variable{X:Cx}
theorem any_range(bs:List Bool):((List.range bs.length).any λi=>bs.getD i true)=bs.any id:=by
 rw[aa2,List.any_eq_true,List.any_eq_true]
 constructor
 ·rintro⟨i,hi,h⟩
  have hi':i<bs.length:=by simpa using hi
  exact⟨bs[i],abI hi',by simpa [List.getD,hi']using h⟩
 ·rintro⟨b,hb,h⟩
  obtain⟨i,hi,rfl⟩:=List.mem_iff_getElem.mp hb
  exact⟨i,by simpa using hi,by simpa [List.getD,hi]using h⟩
def NX(K:W.Frag):List V->Hp->VK->Prop:=λxs H Q=>∃(p:Addr)(bs:List Bool),xs=[.ref p]/\aK K H p (bs.map V.bl)/\Q (.bl (bs.any id)) H
theorem Gw(hc:X.calm=true):dw X (.builtin "any") (NX X.K):=by
 intro pins s σ H xs us Q I r h
 obtain⟨p,bs,rfl,hq,q⟩:=h
 obtain⟨u,rfl,ru⟩:=vals1 r
 cases ru
 obtain⟨its,rv,pl,hz⟩:=I.list hq
 have hlen:=rv.length
 rw[aaj]at hlen
 have hpl:p<s.heap.objs.size:=by obtain⟨o,ho,_⟩:=pl.isList;exact aaw ho
 refine call_any_walk (wpAny_pyIter_list pl.isList ⟨s.heap.objs.size,_,_,_,_,_,λi=>bs.getD i true,rfl,Walks.list (A:=X.A.in1) (show X.A.in1.handled=none from I.ok.hd hc) s.heap.objs.size p (aaS hpl) its.toArray,⟨⟨_,aaG _ rfl,rfl,rfl⟩,pl.isList.at λo e=>aap _ e⟩,?_,?_⟩)
 ·intro i v s' Q' E' hv hq'
  have e:its[i]?=some v:=by simpa using hv
  rw[kZ rv e]
  exact abu hq'
 ·intro h' tk hk
  have f0:=I.uK (aao s.heap.objs.size) (I.hok.fresh (aao _))
  have I2:Inv X pins σ H {s with heap:=s.heap.push {cls:=.type "list_iterator",data:=.fields #[.ref p,rawInt 0]}}:=I.kept (t':=s.toks) λb o e=>aap _ e
  have I3:=I2.turned (h':=h') (t':=tk) (it:=s.heap.objs.size) (λb o hb e=>hk b o (by simpa using hb) e) f0.1 f0.2.1 f0.2.2.2.1 f0.2.2.2.2.1 f0.2.2.2.2.2
  refine⟨.bl (bs.any id),H,I3,?_,q⟩
  show Value.bool _=Value.bool _
  rw[aak,←hlen,any_range]
theorem Ei(K:W.Frag)(h:X.K=K)(hc:X.calm=true):dw X (.builtin "any") (NX K):=by subst h;exact Gw hc
end
inductive pF(K:W.Frag)(H:Hp):Nat->V->V->Bool->Prop where
 |flat {n:Nat}{x y:V}:dB x=true->dB y=true->pF K H n x y (xP x y)
 |same {n:Nat}{a:Addr}:pF K H n (.ref a) (.ref a) true
 |tup {n:Nat}{a b:Addr}{xs ys:List V}{e:Nat->Bool}:a≠b->bH K H a xs->bH K H b ys->(∀(j:Nat) x y,xs[j]?=some x->ys[j]?=some y->pF K H n x y (e j))->pF K H (n+1) (.ref a) (.ref b) ((List.range (min xs.length ys.length)).all e&&xs.length==ys.length)
 |lst {n:Nat}{a b:Addr}{xs ys:List V}{e:Nat->Bool}:a≠b->aK K H a xs->aK K H b ys->xs.length=ys.length->(∀(j:Nat) x y,xs[j]?=some x->ys[j]?=some y->pF K H n x y (e j))->pF K H (n+1) (.ref a) (.ref b) ((List.range xs.length).all e)
 |len {n:Nat}{a b:Addr}{xs ys:List V}:a≠b->aK K H a xs->aK K H b ys->xs.length≠ys.length->pF K H (n+1) (.ref a) (.ref b) false
section
variable{X:Cx}{pins:List 'f'}{σ:St}{H:Hp}{s:Shared}
theorem mK{A:Around}{e:Nat->Bool}{xs ys:List V}{us ws:List Value}(r1:Vals xs us)(r2:Vals ys ws)(h:∀(j:Nat) x y u w,xs[j]?=some x->ys[j]?=some y->RelV x u->RelV y w->SeqAt.EqAt A s u w (e j))(j:Nat)(h1:j<us.toArray.size)(h2:j<ws.toArray.size):SeqAt.EqAt A s us.toArray[j] ws.toArray[j] (e j):=by
 have hl1:=r1.length
 have hl2:=r2.length
 have hj1:j<xs.length:=by rw[hl1];simpa using h1
 have hj2:j<ys.length:=by rw[hl2];simpa using h2
 obtain⟨u,eu,ru⟩:=r1.get (i:=j) (x:=xs[j]) (by simp[hj1])
 obtain⟨w,ew,rw'⟩:=r2.get (i:=j) (x:=ys[j]) (by simp[hj2])
 have e1:us.toArray[j]=u:=by
  obtain⟨_,q⟩:=aam.mp eu
  simpa using q
 have e2:ws.toArray[j]=w:=by
  obtain⟨_,q⟩:=aam.mp ew
  simpa using q
 rw[e1,e2]
 exact h j _ _ u w (by simp[hj1]) (by simp[hj2]) ru rw'
theorem Gx(I:Inv X pins σ H s){n:Nat}{x y:V}{b:Bool}(h:pF X.K H n x y b):∀{A:Around}{u v:Value},A.units+n<cLine->RelV x u->RelV y v->SeqAt.EqAt A s u v b:=by
 induction h with
 |flat f1 f2=>intro A u v _ ru rv;exact yw ru rv f1 f2
 |same=>intro A u v _ ru rv;cases ru;cases rv;exact abC _
 |@tup n a b xs ys e ne ha hb _ ih =>
  intro A u v hu ru rv
  cases ru;cases rv
  obtain⟨its,r1,p1,_⟩:=I.tuple ha
  obtain⟨its2,r2,p2,_⟩:=I.tuple hb
  refine abz ne ?_
  have q:=SeqAt.RcAt.tuples (A:=A) (e:=e) p1 p2 'c' λj h1 h2=>mK r1 r2 (λj x y u w ex ey ru rw'=>ih j x y ex ey (by show A.units+1+n<cLine;omega) ru rw') j h1 h2
  rw[aak,aak,←r1.length,←r2.length]at q
  exact q
 |@lst n a b xs ys e ne ha hb hl _ ih =>
  intro A u v hu ru rv
  cases ru;cases rv
  obtain⟨its,r1,p1,_⟩:=I.list ha
  obtain⟨its2,r2,p2,_⟩:=I.list hb
  refine abz ne ?_
  have q:=SeqAt.RcAt.lists (A:=A) (e:=e) p1.isList p2.isList (by rw[aak,aak,←r1.length,←r2.length,hl]) 'c' λj h1 h2=>mK r1 r2 (λj x y u w ex ey ru rw'=>ih j x y ex ey (by show A.units+1+n<cLine;omega) ru rw') j h1 h2
  rw[aak,←r1.length]at q
  exact q
 |@len n a b xs ys ne ha hb hl =>
  intro A u v hu ru rv
  cases ru;cases rv
  obtain⟨its,r1,p1,_⟩:=I.list ha
  obtain⟨its2,r2,p2,_⟩:=I.list hb
  refine abz ne ?_
  exact SeqAt.RcAt.lists_lengths (A:=A) p1.isList p2.isList (by rw[aak,aak,←r1.length,←r2.length];simpa using hl) 'c'
end
section
variable{X:Cx}
end
section
variable{X:Cx}
end
open PySem PySem.Spec PyProof.Rows PySem.W
section
variable(key:Nat->Int)
end
section
variable{prog:Program}{w:World}{A:Around}{s:Shared}{Q:Bool->Shared->Prop}{fin:Bool}
end
theorem cY.ex{P:Program}{w:World}{H:Hp}{h:Heap}{a:Addr}{o:HO}(x:cY P w H h a o):∃ob,h.get? a=some ob:=by
 cases o with
 |lst xs=>obtain⟨_,_,_,_,e⟩:=x;exact⟨_,e⟩
 |tup xs=>obtain⟨_,_,_,o,e,_⟩:=x;exact⟨_,e⟩
 |dK kvs=>obtain⟨_,_,_,_,o,_,_,e,_⟩:=x;exact⟨_,e⟩
 |dT kvs=>obtain⟨_,_,_,_,o,_,_,e,_⟩:=x;exact⟨_,e⟩
 |set S n=>obtain⟨o,_,_,_,e,_⟩:=x;exact⟨_,e⟩
 |ins C dx fs=>obtain⟨_,_,_,e,_⟩:=x;exact⟨_,e⟩
 |own y=>obtain⟨_,e⟩:=x;exact⟨_,e⟩
 |xd fs=>obtain⟨_,⟨_,_,_,e,_⟩,_⟩:=x;exact⟨_,e⟩
 |PX lo hi=>obtain⟨_,_,_,e⟩:=x;exact⟨_,e⟩
 |BG ob u=>obtain⟨e,_⟩:=x;exact⟨_,e⟩
 |JP ps=>exact⟨_,(show h.get? a=some _ from x)⟩
 |met f y=>exact⟨_,(show h.get? a=some _ from x)⟩
 |ext φ=>obtain⟨_,⟨_,e⟩,_⟩:=x;exact⟨_,e⟩
section
variable{prog:Program}{w:World}{A:Around}{E:Value->Shared->Prop}{s:Shared}
end
section
variable{X:Cx}
end
open PySem
theorem Wc{A B:Prop}{b:Bool}(hb:b=true)(h:A):if b=true then A else B:=by rw[aal hb];exact h
theorem Wd{A B:Prop}{b:Bool}(hb:b=false)(h:B):if b=true then A else B:=by rw[aah (by rw[hb];decide)];exact h
theorem Ao{p A B:Prop}[Decidable p](hp:p)(h:A):if decide p=true then A else B:=Wc (aay hp) h
theorem tH{p A B:Prop}[Decidable p](hp:¬p)(h:B):if decide p=true then A else B:=Wd (aax hp) h
theorem Rq{p A B:Prop}[Decidable p](hp:p)(h:B):if (!decide p)=true then A else B:=Wd (by rw[aay hp];rfl) h
theorem Rr{p A B:Prop}[Decidable p](hp:¬p)(h:A):if (!decide p)=true then A else B:=Wc (by rw[aax hp];rfl) h
theorem Qf{A B:Prop}{a b:Int}(hp:a=b)(h:A):if decide (V.int a=V.int b)=true then A else B:=Ao (by rw[hp]) h
theorem ID{A B:Prop}{a b:Int}(hp:¬a=b)(h:B):if decide (V.int a=V.int b)=true then A else B:=tH (λe=>hp (V.int.inj e)) h
theorem NY{A B:Prop}{a b:Int}(hp:a=b)(h:B):if (!decide (V.int a=V.int b))=true then A else B:=Rq (by rw[hp]) h
theorem X8{A B:Prop}{b:Bool}(h1:b=true->A)(h2:b=false->B):if b=true then A else B:=by
 cases b with
 |true=>exact kL (h1 rfl)
 |false=>exact bW (h2 rfl)
theorem JZ{p A B:Prop}[Decidable p](h1:p->A)(h2:¬p->B):if decide p=true then A else B:=by
 by_cases h:p
 ·exact Ao h (h1 h)
 ·exact tH h (h2 h)
theorem Rt{p A B:Prop}[Decidable p](h1:¬p->A)(h2:p->B):if (!decide p)=true then A else B:=by
 by_cases h:p
 ·exact Rq h (h2 h)
 ·exact Rr h (h1 h)
theorem NZ{A B:Prop}{a b:Int}(h1:a=b->A)(h2:¬a=b->B):if decide (V.int a=V.int b)=true then A else B:=by
 by_cases h:a=b
 ·exact Qf h (h1 h)
 ·exact ID h (h2 h)
theorem N1{A B:Prop}{a b:Str}(h1:a=b->A)(h2:¬a=b->B):if decide (V.str a=V.str b)=true then A else B :=
 JZ (λh=>h1 (V.str.inj h)) (λh=>h2 λe=>h (by rw[e]))
theorem N2{A B:Prop}{a b:Str}(h1:¬a=b->A)(h2:a=b->B):if (!decide (V.str a=V.str b))=true then A else B :=
 Rt (λh=>h1 λe=>h (by rw[e])) (λh=>h2 (V.str.inj h))
section
variable{prog:Program}{w:World}{A:Around}{E:Value->Shared->Prop}{s:Shared}
end
section
variable{X:Cx}{e:Expr}{te:TE}
end
section
variable{prog:Program}{w:World}{A:Around}{E:Value->Shared->Prop}{s:Shared}
end
theorem uX(x:Str)(t:Tok):slicePicked x none none (some (-1,t))=(List.range x.length).map λk=>x.length-1-k:=by
 show Builtin.Str.strSliceIndices none none (-1) x.length=_
 unfold Builtin.Str.strSliceIndices
 exact W.krv_sliceRange x.length
theorem yG(x:Str)(t u:Tok):sliceMade x t none none (some (-1,u))=.str ⟨x.cps.toList.reverse.toArray⟩:=by
 unfold sliceMade
 have e:((Option.map (λx:Int×Tok=>x.fst) (some (-1,u))).getD 1==1)=false:=rfl
 rw[e,Bool.false_and,aah 'b',uX,W.krv_range]
 rw[List.filterMap_reverse]
 have:=W.krv_all x.cps
 rw[show x.length=x.cps.size from rfl,this]
def pG(z:Str):Str:=⟨z.cps.toList.reverse.toArray⟩
def IE(te Qg:TE):TE:=λσ H Q=>te σ H λx H1=>Qg σ H1 λy H2=>∃z,y=.int (-1)/\x=.str z/\z.length<=sizeLine/\Q (.str (pG z)) H2
theorem Ej{X:Cx}{e st:Expr}{te Qg:TE}{p2 pos:Pos}(he:PE X e te)(hst:PE X st Qg):PE X (.Subscript e (.Slice none none (some st) p2) pos) (IE te Qg):=by
 intro pins s σ H Q I h
 refine Subscript_ (cC (he pins s σ H _ I h) λv s1 ⟨x,H1,I1,r1,q1⟩=>?_)
 refine wpAny_Slice ?_
 rw[evalPart_none]
 refine aaB ?_
 refine aaB ?_
 rw[evalPart_some]
 refine cC (hst pins s1 σ H1 _ I1 q1) λvs s3 ⟨y,H3,I3,r3,q3⟩=>?_
 obtain⟨z,rfl,rfl,hz,q⟩:=q3
 obtain⟨tz,rfl⟩:=r1
 obtain⟨t,rfl⟩:=r3
 have I4:Inv X pins σ H3 {s3 with heap:=s3.heap.push {cls:=.type "slice",data:=.fields #[.none,.none,.int (-1) t]}}:=I3.kept (t':=s3.toks) λb ob q=>aap _ q
 show wpAny 'd' X.A (subscriptTail e (.Slice none none (some st) p2) (.str z tz) (.ref s3.heap.objs.size)) (EP X pins σ Q) X.xe {s3 with heap:=s3.heap.push {cls:=.type "slice",data:=.fields #[.none,.none,.int (-1) t]}}
 refine tail_any (ops:=[.str z tz,.ref s3.heap.objs.size]) (typeIs_str _ _ _) F.slot_str_getitem.lookup ?_ (by with_unfolding_all rfl)
 refine abw (l:=none) (u:=none) (st:=some (-1,t)) ⟨_,aaG _ rfl,rfl,rfl⟩ rfl ?_
 rw[yG]
 exact⟨by show z.cps.toList.reverse.toArray.size<=sizeLine;rw[aak,List.length_reverse,aaE];exact hz,.str _,H3,I4.tok _,⟨_,O⟩,q⟩
def Ru(h₀:Heap)(H:Hp)(h:Heap)(e:Addr)(vs:Array Value):Option Value->Prop
 |none=>vs[1]?=some .none/\vs[2]?=some .none
 |some v=>∃T oT ts,vs[1]?=some (.ref T)/\H T=none/\h₀.get? T=none/\T≠e/\h.get? T=some oT/\oT.data=.fields ts/\ts[3]?=some v/\vs[2]?=some .none
structure Exc(h₀:Heap)(H:Hp)(h:Heap)(e:Addr)(C:Value)(od:Option Addr)(fl:Option Value):Prop where
 fr:H e=none
 nw:h₀.get? e=none
 tr:∃oe vs,h.get? e=some oe/\oe.cls=C/\oe.dict=od/\oe.data=.fields vs/\Ru h₀ H h e vs fl
structure Mv(fs ch:List Addr)(h h':Heap):Prop where
 keep:∀b o,b∉ch->b∉fs->h.get? b=some o->h'.get? b=some o
 slot:∀b o,b∉ch->h.get? b=some o->∃sl,h'.get? b=some {o with slots:=sl}
 there:∀b o,h.get? b=some o->∃o',h'.get? b=some o'
theorem Mv.trans{fs ch:List Addr}{h h1 h2:Heap}(a:Mv fs ch h h1)(b:Mv fs ch h1 h2):Mv fs ch h h2 :=
 ⟨λc o n1 n2 q=>b.keep c o n1 n2 (a.keep c o n1 n2 q),λc o n q=>let ⟨sl,q1⟩:=a.slot c o n q;let ⟨sl2,q2⟩:=b.slot c _ n q1;⟨sl2,q2⟩,λc o q=>let ⟨o1,q1⟩:=a.there c o q;b.there c o1 q1⟩
theorem Mv.mono{fs fs' ch ch':List Addr}{h h':Heap}(a:Mv fs ch h h')(hf:∀b∈fs,b∈fs')(hc:∀b∈ch,b∈ch'):Mv fs' ch' h h' :=
 ⟨λc o n1 n2 q=>a.keep c o (λz=>n1 (hc c z)) (λz=>n2 (hf c z)) q,λc o n q=>a.slot c o (λz=>n (hc c z)) q,a.there⟩
theorem Mv.refl{fs ch:List Addr}{h:Heap}:Mv fs ch h h:=⟨λ_ _ _ _ q=>q,λ_ o _ q=>⟨o.slots,q⟩,λ_ o q=>⟨o,q⟩⟩
theorem Mv.of_slots{fs ch:List Addr}{h h':Heap}(x:Heap.SlotsOnly fs h h'):Mv fs ch h h' :=
 ⟨λb o _ n q=>(x.2.1 b n).trans q,λb o _ q=>x.2.2 b o q,λb o q=>let ⟨sl,e⟩:=x.2.2 b o q;⟨_,e⟩⟩
theorem Mv.push{fs ch:List Addr}{h:Heap}(o:Obj):Mv fs ch h (h.push o) :=
 ⟨λb u _ _ q=>aap _ q,λb u _ q=>⟨u.slots,aap _ q⟩,λb u q=>⟨u,aap _ q⟩⟩
theorem Mv.upd{fs ch:List Addr}{h:Heap}{a:Addr}{f:Obj->Obj}{o:Obj}(ha:a∈ch)(q:h.get? a=some o)(hf:(f o).isFreed=false):Mv fs ch h (h.update a f):=by
 have ne:∀b,b∉ch->a≠b:=λb n z=>n (z▸ha)
 refine⟨λb u n _ e=>(aaW _ _ (ne b n)).trans e,λb u n e=>⟨u.slots,(aaW _ _ (ne b n)).trans e⟩,λb u e=>?_⟩
 by_cases hb:a=b
 ·subst hb;exact⟨_,abn _ q hf⟩
 ·exact⟨u,(aaW _ _ hb).trans e⟩
theorem Mv.frames{fs ch:List Addr}{h h' base:Heap}(x:Mv fs ch h h'){l:List Env}(hl:h.FunFrames base l)(hc:∀b∈ch,∀o,h.get? b=some o->∃vs,o.data=.fields vs):h'.FunFrames base l :=
 hl.of_keeps λb o q nf=>by
  have n:b∉ch:=λz=>let ⟨vs,e⟩:=hc b z o q;nf vs e
  obtain⟨sl,e⟩:=x.slot b o n q
  exact⟨_,e,O⟩
section
variable{M:Model}{A:Around}{E:Value->Shared->Prop}{s:Shared}{base:Heap}{env:Env}{outer:List Env}{L e:Addr}{Q:Unit->Shared->Prop}
theorem xU{oe:Obj}{vs:Array Value}{head:Value}{hn:Bool}(hfr:A.frames=some (env::outer))(hl:s.heap.FunFrames base (env::outer))(hf:env.frame=some L)(he:s.heap.get? e=some oe)(hd:oe.data=.fields vs)(hsz:1<vs.size)(k:∀h' T oT ts,Mv (frs (env::outer)) [e] s.heap h'->s.heap.objs.size<=T->T≠e->h'.get? e=some (oe.mapFields (·.setIfInBounds 1 (.ref T)))->h'.get? T=some oT->oT.data=.fields ts->ts[3]?=some (rawInt L)->Q () {s with heap:=h'}):wpAny M A (do let a ←frameOf env;let pl ←entryPlaceOf L hn;let b ←EntryCells.newEntry head a .none (rawInt L) .none pl;setField (.ref e) 1 b) Q E s:=by
 have hnf:e∉(env::outer).filterMap (·.frame):=λz=>by
  obtain⟨_,o,ho,nf⟩:=hl.mem z
  rw[he]at ho
  cases ho
  exact nf vs hd
 refine aai (wpAny_frameOf_fun hfr hl hf λh1 s1=>aai (wpAny_entryPlaceOf λpl hpl=>?_))
 unfold EntryCells.newEntry newFields
 refine aai (wpAny_newObj_type ?_ (hpl.sizeOk5 _ _ _ _ _))
 have e1:h1.get? e=some oe:=(s1.2.1 e hnf).trans he
 have e2:=λo=>aap (h:=h1) o e1
 refine wpAny_setField (e2 _) hd hsz ?_
 have hne:h1.objs.size≠e:=abG (aaw e1)
 have fd:=abb hd (·.setIfInBounds 1 (Value.ref h1.objs.size))
 have m1:Mv (frs (env::outer)) [e] s.heap h1:=Mv.of_slots s1
 refine k _ h1.objs.size _ _ ((m1.trans (Mv.push _)).trans (Mv.upd (aan.mpr rfl) (e2 _) (abo fd))) ?_ hne (abn _ (e2 _) (abo fd)) ((aaW _ _ (abm hne)).trans (aaG h1 rfl)) rfl ?_
 ·rw[s1.1];exact aao _
 ·first | (simp;done) | (rcases hpl with rfl|⟨_,_,_,_,_,_,_,rfl⟩<;>simp)
end
section
variable{M:Model}{A:Around}{E:Value->Shared->Prop}{s:Shared}{base h₀:Heap}{H:Hp}{env:Env}{outer:List Env}{L e:Addr}{C:Value}{od:Option Addr}{Q:Unit->Shared->Prop}
def Lm(h₀:Heap)(H:Hp)(ch:List Addr):Prop:=∀b∈ch,H b=none/\h₀.get? b=none
theorem uY(oe:Obj)(f:Array Value->Array Value):(oe.mapFields f).cls=oe.cls:=Obj.cls_mapFields _ _
theorem qQ(oe:Obj)(f:Array Value->Array Value):(oe.mapFields f).dict=oe.dict:=by
 obtain⟨c,d,dt,sl⟩:=oe
 cases dt<;>rfl
theorem Gy{fl:Option Value}(hfr:A.frames=some (env::outer))(hl:s.heap.FunFrames base (env::outer))(hf:env.frame=some L)(x:Exc h₀ H s.heap e C od fl)(hfl:fl=none\/fl=some .none\/fl=some (rawInt L))(ht:∀b o,h₀.get? b=some o->∃o',s.heap.get? b=some o')(hH:∀b,s.heap.objs.size<=b->H b=none)(k:∀h' ch,Lm h₀ H ch->Mv (frs (env::outer)) ch s.heap h'->Exc h₀ H h' e C od (some (rawInt L))->Q () {s with heap:=h'}):wpAny M A (noteFrame (.ref e) env) Q E s:=by
 obtain⟨fr,nw,oe,vs,he,hc,hdi,hd,fa⟩:=x
 have N4:∀T,s.heap.get? T=none->h₀.get? T=none:=λT hT=>by
  cases q:h₀.get? T with
  |none=>rfl
  |some o=>obtain⟨o',z⟩:=ht T o q;rw[hT]at z;cases z
 unfold noteFrame
 simp only[hf]
 rcases hfl with rfl|rfl|rfl
 ·obtain⟨h1,Gz⟩:=fa
  refine aai (abf he hd h1 ?_)
  rw[aah 'b']
  have hsz:=(aa5.mp h1).1
  refine xU hfr hl hf he hd hsz λh' T oT ts m zT hne e1 eT dT t3=>?_
  have nT:s.heap.get? T=none:=abq zT
  have hT:H T=none:=hH T zT
  refine k h' [e] (λb hb=>?_) m ⟨fr,nw,_,_,e1,(uY _ _).trans hc,(qQ _ _).trans hdi,abb hd _,T,oT,ts,by simp[hsz],hT,N4 T nT,hne,eT,dT,t3,by rw[abp 'b'];exact Gz⟩
  rw[aan.mp hb]
  exact⟨fr,nw⟩
 ·obtain⟨T0,o0,t0,h1,n0,w0,J4,q0,d0,z3,Gz⟩:=fa
  refine aai (abf he hd h1 ?_)
  rw[aal (show(Value.ref T0 != Value.none)=true from by simp)]
  refine aai (abf q0 d0 z3 ?_)
  rw[aah (show ¬((Value.none==rawInt L)=true) from by simp[rawInt])]
  have Yb:=(aa5.mp z3).1
  refine aai (wpAny_setField q0 d0 Yb ?_)
  have hsz:=(aa5.mp h1).1
  have m0:Mv (frs (env::outer)) [e,T0] s.heap (s.heap.update T0 (Obj.mapFields (·.setIfInBounds 3 Value.none))) :=
   Mv.upd (aaq _ (aan.mpr rfl)) q0 (abo (abb d0 _))
  have MV:(s.heap.update T0 (Obj.mapFields (·.setIfInBounds 3 Value.none))).get? e=some oe:=(aaW _ _ J4).trans he
  have hl1:(s.heap.update T0 (Obj.mapFields (·.setIfInBounds 3 Value.none))).FunFrames base (env::outer):=m0.frames hl λb hb o q=>by
   rcases aas.mp hb with rfl|hb
   ·rw[he]at q;cases q;exact⟨vs,hd⟩
   ·rw[aan.mp hb,q0]at q;cases q;exact⟨t0,d0⟩
  have zs:(s.heap.update T0 (Obj.mapFields (·.setIfInBounds 3 Value.none))).objs.size=s.heap.objs.size:=Heap.size_after_update ..
  refine xU (s:={s with heap:=s.heap.update T0 (Obj.mapFields (·.setIfInBounds 3 Value.none))}) hfr hl1 hf MV hd hsz λh' T oT ts m zT hne e1 eT dT t3=>?_
  have zT:s.heap.objs.size<=T:=by rw[←zs];exact zT
  have nT:s.heap.get? T=none:=abq zT
  refine k h' [e,T0] (λb hb=>?_) (m0.trans (m.mono (λ_ z=>z) λb z=>by rw[aan.mp z];exact aat)) ⟨fr,nw,_,_,e1,(uY _ _).trans hc,(qQ _ _).trans hdi,abb hd _,T,oT,ts,by simp[hsz],hH T zT,N4 T nT,hne,eT,dT,t3,by rw[abp 'b'];exact Gz⟩
  rcases aas.mp hb with rfl|hb
  ·exact⟨fr,nw⟩
  ·rw[aan.mp hb];exact⟨n0,w0⟩
 ·obtain⟨T0,o0,t0,h1,n0,w0,J4,q0,d0,z3,Gz⟩:=fa
  refine aai (abf he hd h1 ?_)
  rw[aal (show(Value.ref T0 != Value.none)=true from by simp)]
  refine aai (abf q0 d0 z3 ?_)
  rw[aal (show(rawInt L==rawInt L)=true from by simp)]
  refine aaB ?_
  exact k s.heap [] (λb hb=>nomatch hb) Mv.refl ⟨fr,nw,oe,vs,he,hc,hdi,hd,T0,o0,t0,h1,n0,w0,J4,q0,d0,z3,Gz⟩
theorem GA{v:Value}(x:Exc h₀ H s.heap e C od (some v))(k:∀h' ch,Lm h₀ H ch->Mv [] ch s.heap h'->Exc h₀ H h' e C od (some .none)->Q () {s with heap:=h'}):wpAny M A (setFlight (.ref e) none) Q E s:=by
 obtain⟨fr,nw,oe,vs,he,hc,hdi,hd,T,oT,ts,h1,n0,w0,J4,q0,d0,z3,Gz⟩:=x
 have hsz:=(aa5.mp z3).1
 refine wpAny_setFlight_none he hd h1 q0 d0 hsz (k _ [T] (λb hb=>?_) (Mv.upd (aan.mpr rfl) q0 (abo (abb d0 _))) ⟨fr,nw,oe,vs,(aaW _ _ J4).trans he,hc,hdi,hd,T,_,_,h1,n0,w0,J4,abn _ q0 (abo (abb d0 _)),abb d0 _,by simp[hsz],Gz⟩)
 rw[aan.mp hb]
 exact⟨n0,w0⟩
theorem Ek{fl:Option Value}(hfr:A.frames=some (env::outer))(hl:s.heap.FunFrames base (env::outer))(hf:env.frame=some L)(x:Exc h₀ H s.heap e C od fl)(hfl:fl=none\/fl=some .none\/fl=some (rawInt L))(ht:∀b o,h₀.get? b=some o->∃o',s.heap.get? b=some o')(hH:∀b,s.heap.objs.size<=b->H b=none)(k:∀h' ch,Lm h₀ H ch->Mv (frs (env::outer)) ch s.heap h'->Exc h₀ H h' e C od (some .none)->Q () {s with heap:=h'}):wpAny M A (leaving env (.ref e)) Q E s:=by
 unfold leaving
 refine aai (Gy hfr hl hf x hfl ht hH λh1 c1 k1 m1 x1=>?_)
 refine GA x1 λh2 c2 k2 m2 x2=>?_
 refine k h2 (c1++c2) (λb hb=>(aaH.mp hb).elim (k1 b) (k2 b)) ((m1.mono (λ_ z=>z) λb z=>abj _ z).trans (m2.mono (λb z=>nomatch z) λb z=>aaP _ z)) x2
end
section
variable{X:Cx}{pins:List 'f'}{σ σ':St}{H H':Hp}{s s1:Shared}
theorem Inv.mv{h':Heap}{ch:List Addr}(I:Inv X pins σ H s)(J:Inv X pins σ' H' s1)(m:Mv (frs X.stack) ch s1.heap h')(hc:∀b∈ch,H' b=none/\s.heap.get? b=none):Inv X pins σ' H' {s1 with heap:=h'}:=by
 have HJ:∀b o,s.heap.get? b=some o->b∉ch:=λb o e z=>by rw[(hc b z).2]at e;cases e
 have n0:∀b o,X.s₀.heap.get? b=some o->b∉X.ex->b∉ch:=λb o e hx=>let ⟨o',e'⟩:=I.base.there b o e hx;HJ b o' e'
 have P0:∀b o,X.s₀.heap.get? b=some o->b≠X.env.locals:=λb o e=>aaS (aaF (aaw e) I.ok.above)
 have We:∀b,b≠X.env.locals->b∉X.fs->b∉frs X.stack:=λb h1 h2 z=>(aas.mp (I.ow b z)).elim h1 h2
 have cellK:∀x c,X.env.cells.lookup x=some c->∀v,s1.heap.IsCell c v->Heap.IsCell h' c v:=λx c e v ⟨o,ho,hd⟩=>by
  obtain⟨v0,o0,e0,_⟩:=I.cell x c e
  obtain⟨sl,q⟩:=m.slot c o (HJ c o0 e0) ho
  exact⟨_,q,hd⟩
 have Rv:∃o,s.heap.get? X.env.locals=some o:=let ⟨m',⟨o,_,_,ho,_⟩,_⟩:=I.loc;⟨o,ho⟩
 obtain⟨oL,eL⟩:=Rv
 refine⟨J.ok,J.os,J.bare,⟨λb o e n hb hx=>m.keep b o (n0 b o e hx) (We b (P0 b o e) hb) (J.base.keep b o e n hb hx),λb o e n hb hx=>?_,J.base.free,λb o e hx=>?_,J.base.tups,J.base.ou,J.base.pe⟩,?_,λx c e=>?_,J.free,J.iA,λp hp=>?_,λa o e=>?_,J.len⟩
 ·obtain⟨sl,e1⟩:=J.base.slot b o e n hb hx
  obtain⟨sl2,e2⟩:=m.slot b _ (n0 b o e hx) e1
  exact⟨sl2,e2⟩
 ·obtain⟨o',e1⟩:=J.base.there b o e hx
  exact m.there b o' e1
 ·obtain⟨mm,⟨o,es,ep,ho,r⟩,hl⟩:=J.loc
  obtain⟨sl,q⟩:=m.slot _ o (HJ _ oL eL) ho
  refine⟨mm,⟨_,es,ep,q,r⟩,λi x v e1 e2 e3=>?_⟩
  obtain⟨u,r1,l⟩:=hl i x v e1 e2 e3
  refine⟨u,r1,?_⟩
  rcases l with l|⟨k,c,e,z⟩
  ·exact .inl l
  ·exact .inr ⟨k,c,e,cellK x c e _ z⟩
 ·obtain⟨v,z⟩:=J.cell x c e
  exact⟨v,cellK x c e v z⟩
 ·obtain⟨e0,_,_,_,_⟩:=I.pin p hp
  obtain⟨e,n,ne,nf,d⟩:=J.pin p hp
  exact⟨m.keep p.1 p.2 (HJ _ _ e0) (We _ ne nf) e,n,ne,nf,d⟩
 ·refine(J.hok a o e).stay (λb u hb q=>m.keep b u (λz=>?_) (λz=>?_) q) (λ_ q=>q) λ_ _ q=>q
  ·have:=(hc b z).1
   rcases hb with rfl|hb
   ·rw[this]at e;cases e
   ·rw[this]at hb;cases hb
  ·have:=J.uB b z
   rcases hb with rfl|hb
   ·rw[this]at e;cases e
   ·rw[this]at hb;cases hb
def BD(P:Program)(w:World):D3:=λouter H s E e s'=>∃ea C od H',e=.ref ea/\s'.os=s.os/\AllBare s'.gens/\Un (frs outer) [] H H' s.heap s'.heap/\qI P w H' s'.heap/\Exc s.heap H' s'.heap ea C od (some .none)/\E C od H'
theorem Exc.older{h₀ h1 h:Heap}{H:Hp}{e:Addr}{C:Value}{od:Option Addr}{fl:Option Value}(x:Exc h1 H h e C od fl)(ht:∀b,h1.get? b=none->h₀.get? b=none):Exc h₀ H h e C od fl:=by
 obtain⟨fr,nw,oe,vs,he,hc,hdi,hd,fa⟩:=x
 refine⟨fr,ht _ nw,oe,vs,he,hc,hdi,hd,?_⟩
 cases fl with
 |none=>exact fa
 |some v=>obtain⟨T,oT,ts,h1,n0,w0,r⟩:=fa;exact⟨T,oT,ts,h1,n0,ht _ w0,r⟩
theorem leaveX{E:XK}{E':Value->Shared->Prop}{ea:Addr}{C:Value}{od:Option Addr}{fl:Option Value}(hst:X.stack=X.env::X.outer)(hfm:X.env.frame=some X.env.locals)(hex:X.ex=[])(I:Inv X pins σ H s)(J:Inv X pins σ' H' s1)(ht:∀b o,s.heap.get? b=some o->∃o',s1.heap.get? b=some o')(x:Exc s.heap H' s1.heap ea C od fl)(hfl:fl=none\/fl=some .none\/fl=some (rawInt X.env.locals))(hE:E C od H'):wpAny 'd' X.A (leaving X.env (.ref ea)) (λ_ s''=>BD X.prog X.w X.outer X.H₀ X.s₀ E (.ref ea) s'') E' s1:=by
 have hl:=J.stack
 rw[hst]at hl
 refine Ek (J.ok.frames.trans (by rw[hst])) hl hfm x hfl ht (λb hb=>J.hok.fresh hb) λh' ch hc m x'=>?_
 have K:=I.mv J (h':=h') (by rw[hst];exact m) hc
 have old:∀b,s.heap.get? b=none->X.s₀.heap.get? b=none:=λb hb=>by
  cases q:X.s₀.heap.get? b with
  |none=>rfl
  |some o=>obtain⟨o',z⟩:=I.base.there b o q (by rw[hex];simp);rw[hb]at z;cases z
 have U:=K.base
 rw[hex]at U
 exact⟨ea,C,od,H',O,J.os,J.bare,U,K.hok,x'.older old,hE⟩
end
section
variable{P:Program}{w:World}{K:W.Frag}{mg:Str->Option Value}{base:Heap}{N:List Str}{qual:Str}{scope:Scope}{f:Addr}{cd:Value}{A:Around}{outer:List Env}{s:Shared}{H:Hp}{E:XK}
theorem J6:Passes (BD P w) (tE (BD P w) P w K mg base N qual scope f cd A outer s H E) E:=by
 rintro pins σ H1 s1 e s' I ⟨ea,C,od,H',rfl,os,bare,un,hok,x,hE⟩
 have J:=I.C7 os un hok bare (λb z=>nomatch z)
 exact leaveX (X:=tE (BD P w) P w K mg base N qual scope f cd A outer s H E) rfl rfl rfl I J (λb o q=>un.there b o q (by simp)) x (.inr (.inl rfl)) hE
theorem eB.Rw{x:Str}{st:Stmt}{fd:FuncData}{ps:List Str}{k:Nat}{sp:Sp}(F:eB K x qual st f fd)(S:aJ N ps (av st))(len:∀vs H Q E,sp vs H Q E->vs.length=ps.length)(hbody:∀(cdv:Value)(A:Around)(outer:List Env)(s:Shared)(H:Hp)(vs:List V)(Q:VK)(E:XK),cM k (A.deeper (envOfC qual (av st) s.heap.objs.size f cdv))->sp vs H Q E->∃t,BH (tE (BD P w) P w K mg base N qual (av st) f cdv A outer s H E) (cA st) t/\t {nx:=λ_ H'=>Q .non H',rt:=Q} (start N vs) H):aW P w K mg base (BD P w) (k+1) f fd ps sp:=by
 obtain⟨oc,od,kV,doc,pm,an,cdv,ct,osl,rfl,lk,hcd⟩:=F.ex
 exact FH lk hcd S len λA outer s H vs Q E hr E8=>hbody cdv A outer s H vs Q E hr E8
end
theorem qI.none{P:Program}{w:World}{H:Hp}{h:Heap}{a:Addr}(x:qI P w H h)(e:h.get? a=Option.none):H a=Option.none:=by
 cases q:H a with
 |none=>rfl
 |some u=>obtain⟨o,z⟩:=(x a u q).ex;rw[e]at z;cases z
abbrev qR:List Value:=[.type "ValueError",.type "Exception",.type "BaseException",.type "object"]
structure wm(K:W.Frag)(C N:Addr)(bm:List Value)(ini:Option Value):Prop where
 ob:∃nm q bs hdct sn sub ab col dd k0 k1 k2 k3 k5,K.lookup C=some (excClassObj nm q C N bs bm hdct sn sub ab col dd k0 k1 k2 k3 k5 "ValueError.__new__")
 ns:∃oc od es n sl,K.lookup N=some ⟨oc,od,.dict es n,sl⟩/\(es.toList.all λe=>match e.key with | .str _ _=>true|_=>false)=true
 ini:W.nsIn K N "__init__"=some ini
def BZ(K:W.Frag)(bm:List Value):Prop:=bm=qR\/∃D ND,bm=.ref D::qR/\wm K D ND qR none
section
variable{K:W.Frag}{h:Heap}{C N:Addr}{bm:List Value}{ini:Option Value}
theorem wm.names(x:wm K C N bm ini):∃m:Str->Option Value,m "__init__"=ini/\∀h,K.In h->h.Ns N m:=by
 obtain⟨oc,od,es,n,sl,lk,al⟩:=x.ns
 have sk:StrKeys es:=λe he=>by
  have z:=aaO.mp al e (by simpa using he)
  revert z
  cases e.key<;>intro z<;>first|exact⟨_,_,rfl⟩|cases z
 refine⟨nsFind es,?_,λh jr=>⟨_,es,n,jr _ _ lk,O,sk,λ_=>rfl⟩⟩
 have e:=x.ini
 unfold W.nsIn at e
 rw[lk]at e
 dsimp only at e
 unfold nsFind findBy
 rw[←Array.find?_toList]
 cases q:es.toList.find? (·.key.isStr "__init__") with
 |some en =>
  rw[q]at e
  exact aaA e
 |none =>
  rw[q]at e
  dsimp only at e
  split at e
  ·cases e
  ·exact aaA e
theorem wm.obj(x:wm K C N bm ini)(jr:K.In h):∃nm q bs hdct sn sub ab col dd k0 k1 k2 k3 k5,h.get? C=some (excClassObj nm q C N bs bm hdct sn sub ab col dd k0 k1 k2 k3 k5 "ValueError.__new__"):=by
 obtain⟨nm,q,bs,hdct,sn,sub,ab,col,dd,k0,k1,k2,k3,k5,e⟩:=x.ob
 exact⟨nm,q,bs,hdct,sn,sub,ab,col,dd,k0,k1,k2,k3,k5,jr _ _ e⟩
theorem BZ.tail(x:BZ K bm)(jr:K.In h):OwnTail h qR bm:=by
 rcases x with rfl|⟨D,ND,rfl,d⟩
 ·exact .base
 ·obtain⟨nm,q,bs,hdct,sn,sub,ab,col,dd,k0,k1,k2,k3,k5,e⟩:=d.obj jr
  obtain⟨m,mi,mn⟩:=d.names
  exact .own e (mn h jr) mi .base
theorem BZ.base(x:BZ K bm):bm.contains (.type "BaseException")=true:=by
 rcases x with rfl|⟨D,ND,rfl,d⟩
 ·decide
 ·rw[List.contains_cons];rfl
end
section
variable{P:Program}{w:World}{K:W.Frag}{mg:Str->Option Value}{base:Heap}{N0:List Str}{qual:Str}{scope:Scope}{f:Addr}{cd:Value}{A:Around}{outer:List Env}{s0:Shared}{H0:Hp}{E:XK}
def Ln(E:XK)(C:Addr)(t:TA):TS:=λ_ σ H=>t σ H λvs H1=>vs.length<=sizeLine/\E (.ref C) none H1
theorem GB{X:Cx}(hX:X=tE (BD P w) P w K mg base N0 qual scope f cd A outer s0 H0 E){C N:Addr}{bm:List Value}{x:Str}{np cpos pos:Pos}{e:Expr}{es:List Expr}{t:TA}(c:wm K C N bm none)(tl:BZ K bm)(hg:Gl X x)(hm:mg x=some (.ref C))(ha:PA X (e::es) t)(hdb:(x==("__debug__":Str))=false:=by decide)(he:starEach (e::es) X.env=(false,eval e X.env)::starEach es X.env:=by rfl)(hpl:(backTo cpos (starEach es X.env)).any (·.1)=false:=by rfl):PS X (.Raise (some (.Call (.Name x np) (e::es) [] cpos)) none pos) (Ln E C t):=by
 intro pins s σ H D I h
 obtain⟨nm,q,bs,hdct,sn,sub,ab,col,dd,k0,k1,k2,k3,k5,lk⟩:=c.ob
 obtain⟨m,mi,mn⟩:=c.names
 have hx:X.xe=λ(e:Value)(s':Shared)=>wpAny 'd' X.A (leaving X.env e) (λ_ s''=>BD X.prog X.w X.outer X.H₀ X.s₀ E e s'') (λe' s''=>BD X.prog X.w X.outer X.H₀ X.s₀ E e' s'') s':=by subst hX;rfl
 have Rx:(backTo cpos (starEach (e::es) X.env)).any (·.1)=false:=by rw[he];exact hpl
 have hst:X.stack=X.env::X.outer:=by subst hX;rfl
 have hfm:X.env.frame=some X.env.locals:=by subst hX;rfl
 have hex:X.ex=[]:=by subst hX;rfl
 have hmg:X.mg x=some (.ref C):=by subst hX;exact hm
 have Ry:X.calm=true:=by subst hX;rfl
 have hK:X.K=K:=by subst hX;rfl
 refine wpAny_Raise_call_subU (C:=C) (nm:=nm) (q:=q) (N:=N) (bs:=bs) (bm:=bm) (hdct:=hdct) (sn:=sn) (sub:=sub) (ab:=ab) (col:=col) (dd:=dd) (k0:=k0) (k1:=k1) (k2:=k2) (k3:=k3) (k5:=k5) (newId:="ValueError.__new__")
  abE 'b' abE (mN:=m) tl.base (I.ok.hd Ry) Rx mi (mF I hg hmg ⟨rfl,?_⟩ hdb)
 have z:=ha cpos pins s σ H _ I h
 rw[he]at z⊢
 refine Calls.evalArgs_plain (cC z λus s1 ⟨vs,H1,I1,r,hl,hE⟩=>?_)
 have jr:K.In s1.heap:=by rw[←hK];exact I1.kN
 refine⟨O,by show us.length<=sizeLine;rw[←r.length];exact hl,jr _ _ lk,mn _ jr,tl.tail jr,λh' ea md=>?_⟩
 obtain⟨ta,q1,_,_⟩:=md.there
 rw[hx]
 exact leaveX (fl:=none) hst hfm hex I1 (I1.kept (t':=s1.toks) md.keeps) (λb o q=>⟨o,md.keeps b o q⟩) ⟨I1.hok.none md.new,md.new,_,_,q1,rfl,rfl,rfl,rfl,rfl⟩ (.inl rfl) hE
end
section
abbrev Yc:=St->Hp->VK->XK->Prop
def XP(X:Cx)(pins:List 'f')(σ:St)(Ex:XK)(e:Value)(s':Shared):Prop :=
 ∃ea C od H' s2 H2,e=.ref ea/\Inv X pins σ H2 s2/\Inv X pins σ H' s'/\(∀b o,s2.heap.get? b=some o->∃o',s'.heap.get? b=some o')/\Exc s2.heap H' s'.heap ea C od (some .none)/\Ex C od H'
variable{X:Cx}{k:Nat}{f C:Addr}{fd:FuncData}{ps:List Str}{sp:Sp}{vW:List V}{ds:List Value}{x m:Str}{p pos apos:Pos}{e o:Expr}{es:List Expr}{ta:TE}{t:TA}{te:Yc}
end
section
variable{X:Cx}{pins:List 'f'}{σ σ':St}{H H':Hp}{s s1:Shared}
theorem Inv.J7{a:Addr}{o:HO}(I:Inv X pins σ H s)(J:Inv X pins σ' H' s1)(hex:X.ex=[])(hn:H' a=none)(hw:s.heap.get? a=none)(new:cY X.prog X.w (upd H' a o) s1.heap a o):Inv X pins σ' (upd H' a o) s1:=by
 have ne:∀b u,s.heap.get? b=some u->b≠a:=λb u e z=>by rw[z,hw]at e;cases e
 have J4:∀b u,X.s₀.heap.get? b=some u->b≠a:=λb u e=>let ⟨o',e'⟩:=I.base.there b u e (by rw[hex];simp);ne b o' e'
 refine⟨J.ok,J.os,J.bare,⟨J.base.keep,J.base.slot,λb u e n hx=>?_,J.base.there,λb xs e=>?_,λb u v e=>?_,λb ps e=>?_⟩,J.loc,J.cell,?_,λx c e=>?_,λp hp=>?_,λb u e=>?_,J.len⟩
 ·rw[aB (J4 b u e)];exact J.base.free b u e n hx
 ·have z:=J.base.tups b xs e
  rw[aB (aU z hn)];exact z
 ·have z:=J.base.ou b u v e
  rw[aB (aU z hn)];exact z
 ·obtain⟨more,z⟩:=J.base.pe b ps e
  exact⟨more,by rw[aB (aU z hn)];exact z⟩
 ·obtain⟨m,⟨oL,_,_,eL,_⟩,_⟩:=I.loc
  rw[aB (ne _ _ eL)];exact J.free
 ·obtain⟨v,oc,ec,_⟩:=I.cell x c e
  rw[aB (ne _ _ ec)];exact J.iA x c e
 ·obtain⟨e0,_⟩:=I.pin p hp
  obtain⟨e1,n1,r⟩:=J.pin p hp
  exact⟨e1,by rw[aB (ne _ _ e0)];exact n1,r⟩
 ·by_cases hb:b=a
  ·subst hb;rw[aj]at e;cases e;exact new
  ·rw[aB hb]at e
   exact(J.hok b u e).stay (λc v _ q=>q) (λc q=>by rw[aB (aU q hn)];exact q) λc xs q=>by rw[aB (aU q hn)];exact q
end
section
variable{M:Model}{A:Around}{E:Value->Shared->Prop}{K:W.Frag}{s:Shared}{C D N N' ea:Addr}{bm bm':List Value}{ini Rz:Option Value}{Q:Bool->Shared->Prop}
end
section
variable{X:Cx}{pins:List 'f'}{σ:St}{H:Hp}{s:Shared}{ea:Addr}
end
end L2
set_option maxHeartbeats 1000000
namespace L2
open PySem PySem.Spec PyProof.Rows PySem.Builtin PySem.Builtin.ObjectAttr
theorem xV(self:Value):refuseLoop self "__setattr__" qR=pure ():=by kernel_rfl
theorem Aq{K:W.Frag}{bm:List Value}(tl:BZ K bm)(self:Value):refuseLoop self "__setattr__" bm=pure ():=by
 rcases tl with rfl|⟨D,ND,rfl,d⟩
 ·exact xV self
 ·rw[refuseLoop_ref];exact xV self
structure Qh(K:W.Frag)(C:Addr)(f:Str):Prop where
 no:W.findIn K (.ref C) f=some none
 sa:W.findIn K (.ref C) "__setattr__"=some (some (.builtin "object.__setattr__"))
 ga:W.findIn K (.ref C) "__getattribute__"=some (some (.builtin "BaseException.__getattribute__"))
 gx:W.findIn K (.ref C) "__getattr__"=some none
 hd:W.hasDictIn K C=true
section
variable{P:Program}{w:World}{A:Around}{E:Value->Shared->Prop}{s:Shared}{K:W.Frag}{C N x:Addr}{bm:List Value}{ini:Option Value}{f:Str}{v:Value}{ox:Obj}{vs:Array Value}
theorem wm.cls(c:wm K C N bm ini)(h:W.hasDictIn K C=true):∃cd,W.clsIn K C=some cd/\cd.mro=.ref C::bm/\cd.hasDict=true:=by
 obtain⟨nm,q,bs,hdct,sn,sub,ab,col,dd,k0,k1,k2,k3,k5,lk⟩:=c.ob
 obtain⟨cd,hc,hd⟩:=W.any_some h
 refine⟨cd,hc,?_,hd⟩
 unfold W.clsIn at hc
 rw[lk]at hc
 cases hc
 rfl
theorem IF{od:Option Obj}{tk:Tok}{R:Result->Shared->Prop}(jr:K.In s.heap)(c:wm K C N bm ini)(tl:BZ K bm)(a:Qh K C f)(J:W.InstAt s.heap x ox C od)(h:∀b,wpAny (model P w) A.in1 (storeInOwnDict (.ref x) (.ref C) (.str f tk) f v b) (λfin s'=>match fin with | .done g=>R (.ok g) s' | .again c'=>c'.quiet=true/\codeAny (model P w) A c' R s') (λe s'=>R (.error e) s') s):codeAny (model P w) A (.call (.builtin "object.__setattr__") ⟨[.ref x,.str f tk,v],[]⟩) R s:=by
 obtain⟨cd,hc,hm,hd⟩:=c.cls a.hd
 have SF:=PySem.F.store_object
 have RA:W.Looks (model P w) s.heap (mroOf (.ref C)) cd.mro:=(W.looks_clsIn jr hc).andThen .now
 have hob:(cd.mro.contains (.type "object"))=true:=by
  rw[hm,List.contains_cons]
  rcases tl with rfl|⟨D,ND,rfl,d⟩
  ·rfl
  ·rw[List.contains_cons];rfl
 have ne:cd.mro.isEmpty=false:=by rw[hm];rfl
 have sub:W.Looks (model P w) s.heap (isInstance (.ref x) (.type "object")) true :=
  J.type.andThen (W.looks_mroIn jr (by unfold W.mroIn;rw[hc,Option.bind_some,aah (by rw[ne];decide),hob]))
 refine codeAny_call_builtin SF.slot.plain SF.entry (W.check_slot (M:=model P w) (s:=s) (i:="object.__setattr__") (owner:="object") (n:="__setattr__") (self:=.ref x) (rest:=[.str f tk,v]) (kw:=[]) SF.kind SF.split sub (SF.args (.ref x) (.str f tk) v) ?_)
 rw[W.osa_eq,refuse_eq]
 refine aai (aai (J.type.here (aai (RA.here ?_))))
 rw[hm,refuseLoop_ref,Aq tl]
 have L3:W.Looks (model P w) s.heap (storeTaker? none) none:=.now
 refine aaB (aai (J.type.here (aai ((W.looks_findIn jr a.no).here (aai (L3.here ?_))))))
 exact h _
theorem IG{h:Heap}{d:Addr}{o:Obj}(e:h.get? d=some o)(hd:o.data=.dict #[] 0):h.Ns1 d (λ_=>none) :=
 ⟨o,#[],0,e,hd,λe he=>absurd he (by simp),(by first|exact λi j e e' h1=>absurd h1 (by simp)|simp[UniqKeys]),λ_=>rfl⟩
theorem GC{Q:Unit->Shared->Prop}(jr:K.In s.heap)(c:wm K C N bm ini)(tl:BZ K bm)(a:Qh K C f)(hx:s.heap.get? x=some ox)(hc:ox.cls=.ref C)(hdi:ox.dict=none)(hd:ox.data=.fields vs)(h:∀h' tk,h'.get? x=some {ox with dict:=some s.heap.objs.size}->h'.Ns1 s.heap.objs.size (λy=>if y=f then some v else none)->(∀b o,b≠x->s.heap.get? b=some o->h'.get? b=some o)->Q () {s with heap:=h',toks:=tk}):wpAny (model P w) A (setAttr (.ref x) f v) Q E s:=by
 have J:W.InstAt s.heap x ox C none:=⟨hx,hc,by obtain⟨oc,Yd,Ye,osl⟩:=ox;cases hd;rfl,by rw[hdi];exact True.intro⟩
 refine W.set_plain jr J a.sa (IF (s:={s with toks:=s.toks+1}) jr c tl a J λb=>?_)
 obtain⟨cd,hcd,hm,Yg⟩:=c.cls a.hd
 obtain⟨oc,Yd,Ye,osl⟩:=ox
 dsimp only at hc hdi hd
 subst hc hdi hd
 refine aai (aaB (aai (aai (wpAny_loadPart hx (aai (W.Looks.here (s:={s with toks:=s.toks+1}) (W.looks_clsIn jr hcd) ?_))))))
 rw[Yg]
 refine aai (wpAny_alloc ?_)
 have x1:(s.heap.push {cls:=.type "dict",data:=.dict #[]}).get? x=some ⟨.ref C,none,.fields vs,osl⟩:=aap _ hx
 refine aai (wpAny_update x1 ?_)
 refine aaB (a:=some s.heap.objs.size) ?_
 show wpAny _ _ (storeInDict s.heap.objs.size (Value.str f s.toks) f v) _ _ _
 unfold storeInDict
 refine aai (m:=newKeyGuard _ _ _) ?_
 refine aaB (aai ?_)
 have ne:s.heap.objs.size≠x:=abG (aaw hx)
 have d1:((s.heap.push {cls:=.type "dict",data:=.dict #[]}).update x λo=>{o with dict:=some s.heap.objs.size}).get? s.heap.objs.size=some {cls:=.type "dict",data:=.dict #[]} :=
  (aaW _ _ (abm ne)).trans (aaG s.heap rfl)
 have x2:((s.heap.push {cls:=.type "dict",data:=.dict #[]}).update x λo=>{o with dict:=some s.heap.objs.size}).get? x=some ⟨.ref C,some s.heap.objs.size,.fields vs,osl⟩:=abn _ x1 rfl
 refine wpAny_nsSet1 (IG d1 rfl) λh' hn2 hs2=>?_
 obtain⟨oD,esD,XU,QS,QT,QU⟩:=hn2.count (ns:=[f]) (PySem.Within.cons f v (ns:=[]) (λy hy=>absurd rfl hy))
 refine aai (wpAny_lookBehind QS (by rw[QT];exact pastItsLine_dict (aaz QU (Nat.le_add_left 1 sizeLine))) ?_)
 refine aaB (h _ _ ((hs2.2 _ (abm ne)).trans x2) hn2 λb o hb q=>?_)
 have nb:b≠s.heap.objs.size:=aaS (aaw q)
 exact(hs2.2 b nb).trans ((aaW _ _ (abm hb)).trans (aap _ q))
end
section
variable{P:Program}{w:World}{A:Around}{E:Value->Shared->Prop}{K:W.Frag}{C N fI:Addr}{bm:List Value}{us:List Value}
theorem wo{h:Heap}{g:Array GenState}{dr:Drawn}{tk:Nat}{os:OsState}{oI:Obj}{Q:Fin->Shared->Prop}(jr:K.In h)(c:wm K C N bm (some (.ref fI)))(tl:BZ K bm)(lf:h.get? fI=some oI)(cf:oI.cls=.type "function")(k:∀h' e,Heap.MadeExcOf h h' e (.ref C) us->wpAny (model P w) A (call (.ref fI) (.ref e::us)) (λr s'=>r=.none/\Q (.done (.ret (.ref e))) s') E ⟨h',g,dr,tk,os⟩)(hu:us.length<=sizeLine):wpAny (model P w) A (Builtin.«type.__call__» ⟨.ref C::us,[]⟩) Q E ⟨h,g,dr,tk,os⟩:=by
 obtain⟨nm,q,bs,hdct,sn,sub,ab,col,dd,k0,k1,k2,k3,k5,lc⟩:=c.obj jr
 obtain⟨m,mi,mn⟩:=c.names
 have T:=tl.tail jr
 have VE:=abE
 repeat (first|with_reducible refine wpAny_loadPart_at lc ?_|with_reducible refine wpAny_madeBy_exc lc ?_|wp_step)
 refine codeAny_call_builtin_code (Code.quiet_builtin _ VE.quiet) (wpAny_check_new_subU VE 'b' T lc (codeAny_exc_new_subU VE 'b' VE T lc ?_ hu))
 show wpAny _ _ _ _ _ _
 generalize Wf:({cls:=.type "tuple",data:=.seq us.toArray}:Obj)=o1
 generalize ho2:({cls:=.ref C,data:=.fields #[.ref h.objs.size,.none,.none,.none,.bool false,.none]}:Obj)=o2
 have up:∀b o,h.get? b=some o->((h.push o1).push o2).get? b=some o:=λb o z=>aap _ (aap _ z)
 have Wg:=up _ _ lc
 have Wh:=up _ _ lf
 have n1:=mn _ (jr.keeps up)
 have T1:=T.keeps up
 have z2:(h.push o1).objs.size=h.objs.size+1:=aa3 ..
 have ge:((h.push o1).push o2).get? (h.objs.size+1)=some o2:=by rw[←z2];exact aaG _ (by rw[←ho2];rfl)
 have oc:o2.cls=.ref C:=by rw[←ho2]
 have cc:(Value.ref C::bm).contains (.ref C)=true:=by simp
 unfold isInstance
 repeat (first | (with_reducible refine wpAny_loadPart_at ge ?_;rw[oc]) | (with_reducible refine wpAny_isSubtype_exc Wg ?_;rw[cc])|wp_step)
 show wpAny _ _ (typeLookup (.ref C) _) _ _ _
 refine wpAny_typeLookup_tail Wg n1 T1 VE.mroIs VE.init.lookup ?_
 rw[mi]
 refine wpAny_holding (aai ?_)
 unfold bindSpecial
 refine aai (wpAny_typeOf (T:="function") ⟨_,Wh,cf⟩ ?_)
 rw[aal 'b']
 have hm:Heap.MadeExcOf h ((h.push o1).push o2) (h.objs.size+1) (.ref C) us :=
  ⟨up,abq (Nat.le_succ _),h.objs.size,by rw[ge,←ho2],abq (aao _),by rw[aap _ (Heap.get?_push_at rfl (by rw[←Wf];rfl)),←Wf]⟩
 refine aaB (aai (abk (k _ _ hm) (λr s' hr=>?_) λ_ _ z=>z))
 obtain⟨rfl,hQ⟩:=hr
 wp_walk
 exact hQ
theorem GD{s:Shared}{oI:Obj}{Q:Value->Shared->Prop}(jr:K.In s.heap)(c:wm K C N bm (some (.ref fI)))(tl:BZ K bm)(lf:s.heap.get? fI=some oI)(cf:oI.cls=.type "function")(k:∀h' e,Heap.MadeExcOf s.heap h' e (.ref C) us->wpAny (model P w) (A.under (.builtin "type.__call__" ⟨.ref C::us,[]⟩)) (call (.ref fI) (.ref e::us)) (λr s'=>r=.none/\Q (.ref e) s') E {s with heap:=h'})(hu:us.length<=sizeLine):wpAny (model P w) A (call (.ref C) us) Q E s:=by
 obtain⟨nm,q,bs,hdct,sn,sub,ab,col,dd,k0,k1,k2,k3,k5,lc⟩:=c.obj jr
 obtain⟨h,g,dr,tk,os⟩:=s
 have t1:=tc_lookup
 have t2:=tc_bind (.ref C)
 have tT:(⟨h,g,dr,tk,os⟩:Shared).TypeIs (.ref C) "type":=⟨_,lc,rfl⟩
 refine wpAny_call (codeAny_of_tree ?_)
 show wpAny _ _ (callAny (.ref C) _) _ _ _
 repeat (any_goals (first|assumption|with_reducible refine wpAny_loadPart_at lc ?_|wp_step))
 exact⟨O,codeAny_call_builtin_at (Code.quiet_builtin _ 'g') entry_typeCall (wpAny_check_type_call_sub lc (wo jr c tl lf cf k hu))⟩
theorem GF{s:Shared}{ea:Addr}{oe:Obj}{vs:Array Value}{v:Value}{ini:Option Value}{Q:Value->Shared->Prop}(jr:K.In s.heap)(c:wm K C N bm ini)(tl:BZ K bm)(he:s.heap.get? ea=some oe)(hc:oe.cls=.ref C)(hd:oe.data=.fields vs)(hz:0<vs.size)(k:∀h' t,(∀b o,b≠ea->s.heap.get? b=some o->h'.get? b=some o)->h'.get? ea=some (oe.mapFields (·.setIfInBounds 0 (.ref t)))->Q .none {s with heap:=h'}):wpAny (model P w) A (call (.builtin "ValueError.__init__") [.ref ea,v]) Q E s:=by
 obtain⟨nm,q,bs,hdct,sn,sub,ab,col,dd,k0,k1,k2,k3,k5,lc⟩:=c.obj jr
 have VE:=abE
 obtain⟨h,g,dr,tk,os⟩:=s
 refine wpAny_call (codeAny_call_builtin VE.init.plain VE.initEntry (wpAny_check_init_subU VE (tl.tail jr) lc he hc ?_))
 wp_walk
 obtain⟨x0,Yh⟩:∃x0,vs[0]?=some x0:=⟨vs[0],Array.getElem?_eq_getElem hz⟩
 have MV:(h.push {cls:=.type "tuple",data:=.seq #[v]}).get? ea=some oe:=aap _ he
 have fin:=k ((h.push {cls:=.type "tuple",data:=.seq #[v]}).update ea (Obj.mapFields (·.setIfInBounds 0 (.ref h.objs.size)))) h.objs.size (λb o hb q=>(aaW _ _ (abm hb)).trans (aap _ q))
  (abn _ MV (abo (abb hd _)))
 rw[hd]
 refine aaB ?_
 rw[Yh]
 refine aaB (aai (wpAny_setField MV hd hz ?_))
 cases x0<;>(wp_walk;exact fin)
theorem B3{M:Model}{s:Shared}{env:Env}{ex:Expr}{pos:Pos}{ini:Option Value}{Q:Flow->Shared->Prop}(c:wm K C N bm ini)(tl:BZ K bm)(hh:A.handled=none)(h:wpAny M A (eval ex env) (λv s1=>∃e oe vs,v=.ref e/\K.In s1.heap/\s1.heap.get? e=some oe/\oe.cls=.ref C/\oe.data=.fields vs/\vs[1]?=some .none/\E (.ref e) s1) E s):wpAny M A (exec (.Raise (some ex) none pos) env) Q E s:=by
 have bc:(Value.ref C::bm).contains (.type "BaseException")=true:=by rw[List.contains_cons,tl.base,Bool.or_true]
 rw[arm_exec_Raise]
 refine aai (wpAny_standAt ?_)
 show wpAny M A (raiseStmt env (some _) none) Q E s
 unfold raiseStmt
 refine aai (aai (abk h (λv s1 h1=>?_) λ_ _ z=>z))
 obtain⟨e,oe,vs,rfl,jr,he,hc,hd,h1,hE⟩:=h1
 refine aai (wpAny_standAt (aaB ?_))
 obtain⟨nm,q,bs,hdct,sn,sub,ab,col,dd,k0,k1,k2,k3,k5,lc⟩:=c.obj jr
 obtain⟨hp,g,dr,tk,os⟩:=s1
 repeat (first | (with_reducible refine wpAny_loadPart_at he ?_;rw[hc])|with_reducible refine wpAny_loadPart_at lc ?_ | (with_reducible refine wpAny_isSubtype_exc lc ?_;rw[bc])|with_reducible refine abf he hd h1 ?_|wp_step)
 exact wpAny_raiseNew_none hh hE
end
def GG(e:Addr)(C:Value)(od:Option Addr):HO:=.ext λh=>∃o vs,h.get? e=some o/\o.cls=C/\o.dict=od/\o.data=.fields vs/\vs[1]?=some .none/\vs[2]?=some .none
theorem GH{P:Program}{w:World}{H:Hp}{h:Heap}{e:Addr}{C:Value}{od:Option Addr}(x:∃o vs,h.get? e=some o/\o.cls=C/\o.dict=od/\o.data=.fields vs/\vs[1]?=some .none/\vs[2]?=some .none):cY P w H h e (GG e C od) :=
 ⟨x,(let ⟨o,_,q,_⟩:=x;⟨o,q⟩),λ_ _ ⟨o,vs,q,r⟩ k=>⟨o,vs,k o q,r⟩⟩
def J8(d:Addr)(fs:List (Str×V)):HO:=.ext λh=>∃mA,h.Ns1 d mA/\(∀g,qH (fs.lookup g) (mA g))/\PySem.Within mA (fs.map (·.1))
theorem N5{P:Program}{w:World}{H:Hp}{h:Heap}{d:Addr}{fs:List (Str×V)}(x:∃mA,h.Ns1 d mA/\(∀g,qH (fs.lookup g) (mA g))/\PySem.Within mA (fs.map (·.1))):cY P w H h d (J8 d fs) :=
 ⟨x,(let ⟨_,⟨o,_,_,q,_⟩,_⟩:=x;⟨o,q⟩),λ_ _ ⟨m,n,r⟩ k=>⟨m,n.at k,r⟩⟩
def del(H:Hp)(a:Addr):Hp:=λb=>if b=a then none else H b
theorem Ar{H:Hp}{a:Addr}:del H a a=none:=aal rfl
theorem uZ{H:Hp}{a b:Addr}(h:b≠a):del H a b=H b:=aah h
theorem Lo{H:Hp}{a:Addr}{o:HO}(h:H a=some o):upd H a o=H:=by
 funext b
 unfold upd
 split
 ·rename_i z;rw[z,h]
 ·rfl
section
variable{X:Cx}{pins:List 'f'}{σ:St}{H:Hp}{s:Shared}{a:Addr}{φ:Heap->Prop}
theorem Inv.II(I:Inv X pins σ H s)(e:H a=some (.ext φ)):Inv X pins σ (del H a) s:=by
 have nn:∀b,H b=none->del H a b=none:=λb z=>by unfold del;split<;>first|rfl|exact z
 have nx:∀b u,H b=some u->(∀ψ,u≠.ext ψ)->del H a b=some u:=λb u z k=>by
  rw[uZ]
  ·exact z
  ·rintro rfl;rw[e]at z;cases z;exact k φ rfl
 refine⟨I.ok,I.os,I.bare,⟨I.base.keep,I.base.slot,λb u q n hx=>nn b (I.base.free b u q n hx),I.base.there,λb xs q=>nx b _ (I.base.tups b xs q) (λ_ z=>nomatch z),λb u v q=>nx b _ (I.base.ou b u v q) (λ_ z=>nomatch z),λb ps q=>?_⟩,I.loc,I.cell,nn _ I.free,λx c q=>nn _ (I.iA x c q),λp hp=>?_,λb u q=>?_,I.len⟩
 ·obtain⟨more,z⟩:=I.base.pe b ps q
  exact⟨more,nx b _ z (λ_ z=>nomatch z)⟩
 ·obtain⟨e1,n1,r⟩:=I.pin p hp
  exact⟨e1,nn _ n1,r⟩
 ·by_cases hb:b=a
  ·subst hb;rw[Ar]at q;cases q
  ·rw[uZ hb]at q
   exact(I.hok b u q).stay (λc v _ z=>z) (λc z=>nx c _ z (λ_ y=>nomatch y)) λc xs z=>nx c _ z (λ_ y=>nomatch y)
end
def RB(v:V):Prop:=(∃a:Int,v=.int a/\a.natAbs.log2<1920)\/∃x:Str,v=.str x/\x.length<=2000
section
variable{X:Cx}{e:Expr}{te:TE}{pos:Pos}
def RC(te:TE):TE:=λσ H Q=>te σ H λv H1=>RB v/\∀z:Str,z.length<=2000->Q (.str z) H1
theorem Lp(he:PE X e te):PE X (.FormattedValue e (-1) none pos) (RC te):=by
 intro pins s σ H Q I h
 refine wpAny_FormattedValue_plain (cC (he pins s σ H _ I h) λu s1 ⟨v,H1,I1,r,f,q⟩=>?_)
 rcases f with ⟨a,rfl,ha⟩|⟨x,rfl,hx⟩
 ·obtain⟨t,rfl⟩:=(show ∃t,u=Value.int a t from r)
  exact wpAny_formatField_int ha ⟨.str (Str.ofString (toString a)),H1,I1.tok _,⟨_,rfl⟩,q _ (aaz (int_text_len_1921 ha) 'b')⟩
 ·obtain⟨t,rfl⟩:=(show ∃t,u=Value.str x t from r)
  exact wpAny_formatField_str ⟨.str x,H1,I1,⟨_,rfl⟩,q _ hx⟩ ⟨.str x,H1,I1.tok _,⟨_,rfl⟩,q _ hx⟩ (aaz hx 'b')
abbrev TJ:=St->Hp->(Hp->Prop)->Prop
def PJ(X:Cx)(parts:List Expr)(t:TJ):Prop:=∀(pins:List 'f')(s:Shared)(σ:St)(H:Hp)(out:Str)(Q:Hp->Prop),Inv X pins σ H s->t σ H Q->out.length+2000*parts.length<=100000->wpAny 'd' X.A (joinParts out (evalEach parts X.env)) (λu s'=>∃z H',RelV (.str z) u/\Inv X pins σ H' s'/\Q H') X.xe s
theorem Lq:PJ X [] (λ_ H Q=>Q H):=λpins s σ H out Q I h hl=>joinParts_nil ⟨out,H,⟨_,rfl⟩,I.tok _,h⟩ (aaz (show out.length<=100000 by simp at hl;exact hl) 'b')
theorem Dn{rest:List Expr}{t:TJ}(he:PE X e te)(hr:PJ X rest t)(hs:evalEach (e::rest) X.env=eval e X.env::evalEach rest X.env:=by rfl):PJ X (e::rest) (λσ H Q=>te σ H λv H1=>∃y:Str,v=.str y/\y.length<=2000/\t σ H1 Q):=by
 intro pins s σ H out Q I h hl
 rw[hs]
 refine joinParts_cons (cC (he pins s σ H _ I h) λu s1 ⟨v,H1,I1,r,y,ev,hy,q⟩=>?_)
 subst ev
 obtain⟨t,rfl⟩:=(show ∃t,u=Value.str y t from r)
 have el:(out++y).length=out.length+y.length:=Str.length_append ..
 rw[aaR]at hl
 exact⟨aaz (show(out++y).length<=100000 by omega) 'b',hr pins s1 σ H1 (out++y) Q I1 q 'c'⟩
theorem El{v1 v2:Expr}{rest:List Expr}{t:TJ}(h:PJ X (v1::v2::rest) t)(hn:2000*(v1::v2::rest).length<=100000:=by decide):PE X (.JoinedStr (v1::v2::rest) pos) (λσ H Q=>t σ H λH'=>∀z:Str,Q (.str z) H'):=by
 intro pins s σ H Q I hq
 refine JoinedStr_many ?_
 exact cC (h pins s σ H Str.empty _ I hq (by show 0+_<=_;omega)) λu s1 ⟨z,H1,r,I1,q⟩=>⟨.str z,H1,I1,r,q z⟩
end
section
variable{X:Cx}{C N D fI:Addr}{bm:List Value}{ini:Option Value}{x f:Str}{np ap pos cpos pos':Pos}{e o value a1 a2:Expr}{es:List Expr}{t:TA}{ta tv te:TE}
structure Wi(K:W.Frag)(D:Addr):Prop where
 sp:W.specialIn K (.ref D) "__getattribute__"=some (some (.builtin "type.__getattribute__"))
 rd:W.readsIn K D (.type "type")=true
 fc:W.findCls K (.ref D) (.type "type") "__init__"=some (.val (.builtin "ValueError.__init__"))
def Lr(C:Addr)(t:TA):TE:=λσ H Q=>t σ H λvs H1=>∃ea od z,vs=[.ref ea,z]/\H1 ea=some (GG ea (.ref C) od)/\Q .non H1
theorem GI{pl:Sem Bool}(hg:Gl X x)(hm:X.mg x=some (.ref D))(i:Wi X.K D)(c:wm X.K C N bm ini)(tl:BZ X.K bm)(ha:PA X [a1,a2] t)(hdb:(x==("__debug__":Str))=false:=by decide)(hst:starEach [a1,a2] X.env=(false,eval a1 X.env)::starEach [a2] X.env:=by rfl)(hpl:(backTo pos (starEach [a2] X.env)).any (·.1)=false:=by rfl)(ht:eval (.Call (.Attribute (.Name x np) "__init__" ap) [a1,a2] [] pos) X.env=(do
   let ov ←eval (.Name x np) X.env
   standAt ap.atName
   let (f,first) ←holding [ov] (getMethod ov "__init__" pl)
   callWith pos f first (backTo pos (starEach [a1,a2] X.env)) (backToKw pos (keywordEach [] X.env))):=by rfl):PE X (.Call (.Attribute (.Name x np) "__init__" ap) [a1,a2] [] pos) (Lr C t):=by
 intro pins s σ H Q I h
 refine W.methodCall_KW (pl:=pl) (mF I hg hm ?_ hdb) ht
 refine W.method_cls I.kN i.sp (W.cls_value I.kN i.rd i.fc 'g' ?_)
 have I0:=I.tok (s.toks+1)
 refine PyProof.Rows.callWith_builtin1 (cC (ha pos pins _ σ H _ I0 h) λus s1 ⟨vs,H1,I1,r,ea,od,z,ev,vX,q⟩=>?_) hst hpl
 subst ev
 obtain⟨⟨oe,ws,he,hc,hdi,hd,h1⟩,_⟩:=I1.hok ea _ vX
 cases r with
 |cons r1 r' =>
  cases r' with
  |cons r2 r'' =>
   cases r''
   obtain rfl:=(show _=Value.ref ea from r1)
   have hz:=(aa5.mp h1.1).1
   refine GF I1.kN c tl he hc hd 'c' λh' ta kp he'=>?_
   have W:=I1.write (x:=ea) (e:=ea) (o:=GG ea (.ref C) od) (h':=h') (t':=s1.toks) (by rw[vX];exact True.intro) (.inl rfl) kp ⟨_,he'⟩ (GH ⟨_,_,he',(uY _ _).trans hc,(qQ _ _).trans hdi,abb hd _,by rw[abp 'b'];exact h1.1,by rw[abp 'b'];exact h1.2⟩)
   rw[Lo vX]at W
   exact⟨.non,H1,W,O,q⟩
def Ls(C:Addr)(ta tv:TE)(f:Str):TS:=λD σ H=>tv σ H λy H1=>ta σ H1 λx H2=>∃ea,x=.ref ea/\H2 ea=some (GG ea (.ref C) none)/\∀d,H2 d=none->D.nx σ (upd (upd H2 ea (GG ea (.ref C) (some d))) d (J8 d [(f,y)]))
theorem GJ(hex:X.ex=[])(c:wm X.K C N bm ini)(tl:BZ X.K bm)(a:Qh X.K C f)(ha:PE X o ta)(hv:PE X value tv)(hs:swapsWith value (some (.Attribute o f pos')) pos.line X.env=pure false):PS X (.Assign [.Attribute o f pos'] value pos) (Ls C ta tv f):=by
 intro pins s σ H D I h
 refine plainObj_wpAny_Assign_Attribute (cC (hv pins s σ H _ I h) λu s1 ⟨y,H1,I1,ry,q⟩=>cC (ha pins s1 σ H1 _ I1 q) λov s2 ⟨x,H2,I2,rx,ea,ex,vX,q2⟩=>?_) hs
 subst ex
 obtain rfl:ov=Value.ref ea:=rx
 obtain⟨⟨oe,ws,he,hc,hdi,hd,h1⟩,_⟩:=I2.hok ea _ vX
 refine GC I2.kN c tl a he hc hdi hd λh' tk x1 n1 kp=>?_
 have nd:H2 s2.heap.objs.size=none:=I2.hok.fresh (aao _)
 have W:=I2.write (x:=ea) (e:=ea) (o:=GG ea (.ref C) (some s2.heap.objs.size)) (h':=h') (t':=tk) (by rw[vX];exact True.intro) (.inl rfl) kp ⟨_,x1⟩ (GH ⟨_,_,x1,hc,rfl,hd,h1⟩)
 have ne:s2.heap.objs.size≠ea:=λz=>by rw[z,vX]at nd;cases nd
 have T:=I2.J7 W (a:=s2.heap.objs.size) (o:=J8 s2.heap.objs.size [(f,y)]) hex (by rw[aB ne];exact nd) (abq (aao _)) (N5 ⟨_,n1,λg=>?_,λg hg=>?_⟩)
 ·exact⟨σ,_,T,q2 _ nd⟩
 ·show qH (List.lookup g [(f,y)]) (if g=f then some u else none)
  by_cases z:g=f
  ·subst z;simp[List.lookup];exact ry
  ·rw[aah z];simp[List.lookup,beq_false_of_ne z];exact True.intro
 ·by_cases z:g=f
  ·rw[z];exact aan.mpr rfl
  ·exact absurd (aah z) hg
end
section
variable{P:Program}{w:World}{K:W.Frag}{mg:Str->Option Value}{base:Heap}{N0:List Str}{qual:Str}{scope:Scope}{f:Addr}{cd:Value}{A:Around}{outer:List Env}{s0:Shared}{H0:Hp}{E:XK}
def IJ(E:XK)(C:Addr)(sp:Sp)(t:TA):TS:=λ_ σ H=>t σ H λvs H1=>vs.length<=sizeLine/\∀ea,H1 ea=none->sp (.ref ea::vs) (upd H1 ea (GG ea (.ref C) none)) (λv H2=>v=.non/\∃od,H2 ea=some (GG ea (.ref C) od)/\E (.ref C) od (del H2 ea)) E0
theorem xW{X:Cx}(hX:X=tE (BD P w) P w K mg base N0 qual scope f cd A outer s0 H0 E){C N fI:Addr}{bm:List Value}{x:Str}{np cpos pos:Pos}{e:Expr}{es:List Expr}{t:TA}{k:Nat}{fd:FuncData}{ps:List Str}{sp:Sp}{oI:Obj}(c:wm K C N bm (some (.ref fI)))(tl:BZ K bm)(lf:K.lookup fI=some oI)(cf:oI.cls=.type "function")(F:aW P w K mg base dW k fI fd ps sp)(hr:cM (k+1) X.A)(hb:Binds K fd ps [])(hk:W.keepIn K (.ref C)=true)(hg:Gl X x)(hm:mg x=some (.ref C))(ha:PA X (e::es) t)(hdb:(x==("__debug__":Str))=false:=by decide)(he:starEach (e::es) X.env=(false,eval e X.env)::starEach es X.env:=by rfl)(hpl:(backTo cpos (starEach es X.env)).any (·.1)=false:=by rfl):PS X (.Raise (some (.Call (.Name x np) (e::es) [] cpos)) none pos) (IJ E C sp t):=by
 intro pins s σ H D I h
 have hx:X.xe=λ(e:Value)(s':Shared)=>wpAny 'd' X.A (leaving X.env e) (λ_ s''=>BD X.prog X.w X.outer X.H₀ X.s₀ E e s'') (λe' s''=>BD X.prog X.w X.outer X.H₀ X.s₀ E e' s'') s':=by subst hX;rfl
 have hst:X.stack=X.env::X.outer:=by subst hX;rfl
 have hfm:X.env.frame=some X.env.locals:=by subst hX;rfl
 have hex:X.ex=[]:=by subst hX;rfl
 have hmg:X.mg x=some (.ref C):=by subst hX;exact hm
 have Ry:X.calm=true:=by subst hX;rfl
 have hK:X.K=K:=by subst hX;rfl
 have F':aW X.prog X.w X.K X.mg X.base dW k fI fd ps sp:=by subst hX;exact F
 refine B3 (K:=K) c tl (I.ok.hd Ry) (aby (mF I hg hmg ?_ hdb))
 refine W.callWith_K (K:=X.K) (h₀:=X.base) I.ok.mod.jr (by rw[hK];exact hk) (cC (ha cpos pins s σ H _ I h) λus s1 ⟨vs,H1,I1,r,hl,q⟩=>⟨I1.kN,?_⟩) he hpl
 have jr:K.In s1.heap:=by rw[←hK];exact I1.kN
 refine GD jr c tl (jr _ _ lf) cf (λh' ea md=>?_) (by show us.length<=sizeLine;rw[←r.length];exact hl)
 obtain⟨tt,q1,_,_⟩:=md.there
 have Wj:H1 ea=none:=I1.hok.none md.new
 have I2:=I1.kept (t':=s1.toks) (h':=h') md.keeps
 have I3:=I1.J7 I2 (a:=ea) (o:=GG ea (.ref C) none) hex Wj md.new (GH ⟨_,_,q1,rfl,rfl,rfl,rfl,rfl⟩)
 have hq:=q ea Wj
 have r2:Vals (V.ref ea::vs) (Value.ref ea::us):=.cons rfl r
 have hlen:(Value.ref ea::us++[]).length=ps.length:=by rw[abr,←r2.length];exact F'.len _ _ _ _ hq
 have hb':=hb {s1 with heap:=h'} (Value.ref ea::us) (by rw[←hK];exact I3.kN) hlen
 rw[abr]at hb'
 refine wpAny_call (codeAny_mono (F'.run _ X.stack _ _ ⟨Value.ref ea::us,[]⟩ (Value.ref ea::us) _ _ E0 (hr.make C us []) (I3.KS.make C us []) hb' r2 hq) λrr s' hq'=>?_)
 cases rr with
 |error e=>exact hq'.elim
 |ok fl =>
  cases fl with
  |next=>exact hq'.elim
  |brk=>exact hq'.elim
  |cont=>exact hq'.elim
  |ret u =>
   obtain⟨v,H',os,bare,un,hok,rv,ev,od,vX,hE⟩:=hq'
   subst ev
   have J:=I3.C7 os un hok bare (λb z=>nomatch z)
   obtain⟨⟨oe,ws,Qi,hc2,RD,hd2,h12⟩,_⟩:=J.hok ea _ vX
   refine⟨rv,ea,oe,ws,O,by rw[←hK];exact J.kN,Qi,hc2,hd2,h12.1,?_⟩
   rw[hx]
   exact leaveX (fl:=none) hst hfm hex I1 (J.II vX) (λb o z=>un.there b o (md.keeps b o z) (by simp)) ⟨Ar,md.new,oe,ws,Qi,hc2,RD,hd2,h12⟩ (.inl rfl) hE
end
section
variable{P:Program}{w:World}{A:Around}{E:Value->Shared->Prop}{s:Shared}{K:W.Frag}{C N x:Addr}{bm:List Value}{ini:Option Value}{f:Str}{v:Value}{ox:Obj}{vs:Array Value}
end
section
variable{X:Cx}{K:W.Frag}
end
section
variable{X:Cx}{C N fI:Addr}{bm:List Value}{x:Str}{np cpos:Pos}{e:Expr}{es:List Expr}{t:TA}
end
section
variable{K:W.Frag}{C D N N':Addr}{bm bm':List Value}{ini Rz:Option Value}{b:Bool}
end
open PySem PySem.Spec PyProof.Rows PySem.Builtin
section
variable{prog:Program}{w:World}{A:Around}{E:Value->Shared->Prop}{s:Shared}{α:Type}
end
end L2
set_option maxHeartbeats 4000000
namespace L2
open PySem PySem.Spec PyProof.Rows
section
variable{X:Cx}{tg:Expr}{ea:Addr}
end
section
variable{X:Cx}{elt tg iter:Expr}{ifs:List Expr}{scope:Scope}{pos:Pos}{N:List Str}{nv:Nat}{js:List Nat}{wi:TI}{g:TG}{tt:TT}{te:TE}
end
theorem J9{P:Program}{w:World}{X:Cx}:Passes (BD P w) X E0:=λ_ _ _ _ _ _ _ h=>by
 obtain⟨_,_,_,_,_,_,_,_,_,_,h⟩:=h
 exact h.elim
section
variable{X:Cx}{K:W.Frag}
end
section
variable{κ:Type}[DecidableEq κ]
theorem KV.length{kvs:List (κ×V)}{vs:List (κ×Value)}(r:KV kvs vs):kvs.length=vs.length:=Paired.length r
end
theorem N6{P:Program}{w:World}{k:Key}{u:Value}(r:RelV (kV k) u):(ju P w).is k u=true:=by
 cases k with
 |inl i=>obtain⟨t,e⟩:=(show ∃t,u=Value.int i t from r);subst e;exact zY P w i t
 |inr x=>obtain⟨t,e⟩:=(show ∃t,u=Value.str x t from r);subst e;exact zZ P w x t
section
variable{P:Program}{w:World}{H:Hp}{h:Heap}{a:Addr}
end
section
variable{X:Cx}{pins:List 'f'}{σ:St}{H:Hp}{s:Shared}{a:Addr}{y v:V}{u r:Value}{o:Option V}{A:Around}{E:Value->Shared->Prop}
end
section
variable{X:Cx}{pins:List 'f'}{σ:St}{H:Hp}{s:Shared}{a:Addr}{kvs:List (Key×V)}{k:Key}{u:Value}{A:Around}{E:Value->Shared->Prop}
end
section
variable{X:Cx}{o i e value:Expr}{pos pos' tpos:Pos}{td ty tv:TE}
end
section
variable{X:Cx}{pos:Pos}
end
section
variable{X:Cx}{pins:List 'f'}{σ:St}{H:Hp}{s:Shared}{a:Addr}{y d:V}{u r:Value}{o:Option V}{A:Around}{E:Value->Shared->Prop}
end
section
variable{X:Cx}{o e f:Expr}{apos cpos:Pos}{td ty tx:TE}
end
section
variable{X:Cx}{pins:List 'f'}{σ:St}{H:Hp}{s:Shared}{a:Addr}{kvs:List (Key×V)}{A:Around}{E:Value->Shared->Prop}
end
section
variable{X:Cx}{pins:List 'f'}{σ:St}{H:Hp}{s:Shared}{a:Addr}{y:V}{u:Value}{A:Around}{E:Value->Shared->Prop}
end
end L2
set_option maxHeartbeats 1000000
namespace L2
open PySem PySem.Spec PyProof.Rows
section
variable{X:Cx}
end
structure GK(k:Nat)(A:Around):Prop where
 dp:A.depth+3*k+5<recursionLimit
 un:A.units+16*k+200<cLine
theorem cM.m{k:Nat}{A:Around}(r:cM k A):GK k A:=⟨r.dp,r.un⟩
theorem GK.hu{k:Nat}{A:Around}(r:GK k A):A.units+1<cLine:=by have:=r.un;omega
section
variable{P:Program}{w:World}{K:W.Frag}{mg:Str->Option Value}{base:Heap}
end
section
variable{X:Cx}{k:Nat}{f:Addr}{fd:FuncData}{ps:List Str}{sp:Sp}{x:Str}{p pos:Pos}{e:Expr}{es:List Expr}{t:TA}
end
end L2
set_option maxHeartbeats 4000000
namespace L2
open PySem PySem.Spec PyProof.Rows
inductive qS(K:W.Frag)(H:Hp):V->V->Bool->Prop where
 |cmp {n:Nat}{x y:V}{b:Bool}:n<=50->pF K H n x y b->qS K H x y b
 |nl {a:Addr}{xs:List V}:aK K H a xs->qS K H .non (.ref a) false
 |ln {a:Addr}{xs:List V}:aK K H a xs->qS K H (.ref a) .non false
 |nt {a:Addr}{xs:List V}:bH K H a xs->qS K H .non (.ref a) false
 |tn {a:Addr}{xs:List V}:bH K H a xs->qS K H (.ref a) .non false
section
variable{X:Cx}{pins:List 'f'}{σ:St}{H:Hp}{s:Shared}
theorem B5(I:Inv X pins σ H s){x y:V}{b:Bool}(h:qS X.K H x y b){A:Around}{u v:Value}(hu:A.units+50<cLine)(ru:RelV x u)(rv:RelV y v):SeqAt.EqAt A s u v b:=by
 cases h with
 |cmp hn h=>exact Gx I h 'c' ru rv
 |nl ha=>cases ru;cases rv;obtain⟨its,r1,p1,_⟩:=I.list ha;exact SeqAt.EqAt.none_list p1.isList 'c'
 |ln ha=>cases ru;cases rv;obtain⟨its,r1,p1,_⟩:=I.list ha;exact SeqAt.EqAt.list_none p1.isList 'c'
 |nt ha=>cases ru;cases rv;obtain⟨its,r1,p1,_⟩:=I.tuple ha;exact SeqAt.EqAt.none_tuple p1 'c'
 |tn ha=>cases ru;cases rv;obtain⟨its,r1,p1,_⟩:=I.tuple ha;exact SeqAt.EqAt.tuple_none p1 'c'
def GL(f:V->Bool)(u:Value):Bool:=match Ni u with
 |some x=>f x
 |none=>false
theorem yH{f:V->Bool}{x:V}{u:Value}(r:RelV x u):GL f u=f x:=by unfold GL;rw[r.abs]
theorem yI{f:V->Bool}:∀{xs:List V}{us:List Value},Vals xs us->us.any (GL f)=xs.any f
 |_,_,.nil=>rfl
 |x::xs,u::us,.cons r t=>by rw[List.any_cons,List.any_cons,yI t,yH r]
theorem uF(I:Inv X pins σ H s){A:Around}{f:V->Bool}{y:V}{v:Value}(hu:A.units+50<cLine)(rv:RelV y v):∀{xs:List V}{us:List Value},Vals xs us->(∀z∈xs,qS X.K H z y (f z))->∀w∈us,SeqAt.EqAt A s w v (GL f w)
 |_,_,.nil,_,w,hw=>by cases hw
 |x::xs,u::us,.cons r t,h,w,hw=>by
  rcases aas.mp hw with rfl|hw
  ·rw[yH r];exact B5 I (h x (aat ..)) hu r rv
  ·exact uF I hu rv t (λz hz=>h z (aaq _ hz)) w hw
end
section
variable{X:Cx}
def Ka(K:W.Frag):V->List V->Hp->VK->Prop:=λx vs H Q=>∃(p:Addr)(xs:List V)(y:V)(f:V->Bool)(j:Nat),x=.ref p/\vs=[y]/\aK K H p xs/\(∀z∈xs,qS K H z y (f z))/\j<1000000/\(∃z,xs[j]?=some z/\f z=true)/\(∀(i:Nat) z,i<j->xs[i]?=some z->f z=false)/\Q (.int (j:Nat)) H
theorem IK(hu:X.A.units+64<cLine):Ik X "list.index" (Ka X.K):=by
 intro pins s σ H x vs v us Q I rx rv h
 obtain⟨p,xs,y,f,j,rfl,rfl,hq,hc,hj,⟨z,hz,fz⟩,hno,q⟩:=h
 cases rx
 obtain⟨u,rfl,ru⟩:=rv.one
 obtain⟨its,r,pl,_⟩:=I.list hq
 obtain⟨⟨cls,dd,data,sl⟩,ho,hc2,n,hd⟩:=pl.isList
 simp only at hc2 hd
 subst hc2 hd
 obtain⟨w,hw,rw'⟩:=r.get hz
 have hjl:j<its.length:=(aam.mp hw).1
 refine call_meets F.slot_list_index ⟨_,ho,rfl⟩ F.entry_list_index (F.args_list_index_2 _ _) (SeqAt.list_indexAt p its.toArray n dd sl u (GL f) j (by simpa using hjl) 'c' ?_ ?_) ⟨ho,λw hw=>uF I (by show X.A.units+1+50<cLine;omega) ru r hc w (by simpa using hw),?_⟩
 ·have e:its.toArray[j]'(by simpa using hjl)=w:=by
   obtain⟨_,q⟩:=aam.mp hw
   simpa using q
  rw[e,yH rw',fz]
 ·intro m hm Yi
  have hml:m<its.length:=by simpa using hm
  obtain⟨x,hx⟩:∃x,xs[m]?=some x:=⟨_,aau (by rw[r.length];exact hml)⟩
  obtain⟨w2,Em,r2⟩:=r.get hx
  have e:its.toArray[m]'hm=w2:=by
   obtain⟨_,q⟩:=aam.mp Em
   simpa using q
  rw[e,yH r2,hno m x Yi hx]
 ·exact⟨.int _,H,I.tok _,⟨_,O⟩,q⟩
theorem GN(K:W.Frag)(h:X.K=K)(hu:X.A.units+64<cLine):Ik X "list.index" (Ka K):=by subst h;exact IK hu
def RE(K:W.Frag):R2:=λx y H Q=>∃(p:Addr)(xs:List V)(f:V->Bool),y=.ref p/\aK K H p xs/\(∀z∈xs,qS K H z x (f z))/\Q (.bl (xs.any f)) H
theorem Lu(K:W.Frag)(hK:X.K=K)(hu:X.A.units+64<cLine):mG X (compareOp .In) (RE K):=by
 subst hK
 intro pins s σ H x y v u Q I rx ry h
 obtain⟨p,xs,f,rfl,hp,hc,q⟩:=h
 cases ry
 obtain⟨its,r,pl,hz⟩:=I.list hp
 refine SeqAt.in_listAt (GL f) pl.isList (λw RG=>uF I (by show X.A.units+1+50<cLine;omega) rx r hc w (by simpa using RG)) ⟨.bl _,H,I,rfl,?_⟩
 rw[show its.toArray.any (GL f)=its.any (GL f) by simp,yI r]
 exact q
def RH(K:W.Frag):R2:=λx y H Q=>∃(p:Addr)(xs:List V)(f:V->Bool),y=.ref p/\aK K H p xs/\(∀z∈xs,qS K H z x (f z))/\Q (.bl (!xs.any f)) H
theorem Lv(K:W.Frag)(hK:X.K=K)(hu:X.A.units+64<cLine):mG X (compareOp .NotIn) (RH K):=by
 subst hK
 intro pins s σ H x y v u Q I rx ry h
 obtain⟨p,xs,f,rfl,hp,hc,q⟩:=h
 cases ry
 obtain⟨its,r,pl,hz⟩:=I.list hp
 refine SeqAt.notIn_listAt (GL f) pl.isList (λw RG=>uF I (by show X.A.units+1+50<cLine;omega) rx r hc w (by simpa using RG)) ⟨.bl _,H,I,rfl,?_⟩
 rw[show its.toArray.any (GL f)=its.any (GL f) by simp,yI r]
 exact q
end
section
variable{prog:Program}{w:World}{A:Around}{E:Value->Shared->Prop}{s:Shared}
end
section
variable{prog:Program}{w:World}{A:Around}{E:Value->Shared->Prop}{s:Shared}
end
structure xX(prog:Program)(w:World)(K:Type)[DecidableEq K] where
 is:Heap->K->Value->Prop
 hash:K->Int
 draws:K->Nat
 yJ:Nat
 inj:∀{h:Heap}{v:Value}{x y:K},is h x v->is h y v->x=y
 keeps:∀{h h':Heap}{k:K}{v:Value}{d:Addr}{o:Obj}{es ep},is h k v->h.get? d=some o->o.data=.dict es ep->Heap.SameBut d h h'->is h' k v
 pyHash:∀{A:Around}{E:Value->Shared->Prop}{s:Shared}{k:K}{v:Value}{Q:Int->Shared->Prop},A.units+yJ<cLine->is s.heap k v->Q (hash k) {s with toks:=s.toks+draws k}->wpAny (model prog w) A (PySem.pyHash v) Q E s
 eq:∀{A:Around}{s:Shared}{x y:K}{u v:Value},A.units+yJ<cLine->is s.heap x u->is s.heap y v->SeqAt.EqAt A s u v (decide (x=y))
 quiet:∀{A:Around}{E:Value->Shared->Prop}{s:Shared}{k:K}{v:Value}{Q:Bool->Shared->Prop}{n:Nat},yJ<=n->is s.heap k v->Q true s->wpAny (model prog w) A (eqIsQuiet n v) Q E s
section
variable{prog:Program}{w:World}{K:Type}[DecidableEq K](V:xX prog w K)
def TupIs(h:Heap)(ks:List K)(a:Addr):Prop:=∃o items n,h.get? a=some o/\o.cls=.type "tuple"/\o.data=.seq items n/\Paired (λk v=>V.is h k v) ks items.toList
def yK(ks:List K):Int:=reduceHash (Builtin.Tuple.tupleHashOf (ks.map V.hash))
variable{V}
theorem TupIs.ty{s:Shared}{ks:List K}{a:Addr}(x:TupIs V s.heap ks a):s.TypeIs (.ref a) "tuple":=by obtain⟨o,_,_,ho,hc,_⟩:=x;exact⟨o,ho,hc⟩
theorem u0{h:Heap}:∀{x y:List K}{vs:List Value},Paired (λk v=>V.is h k v) x vs->Paired (λk v=>V.is h k v) y vs->x=y
 |_,_,_,.nil,.nil=>rfl
 |_,_,_,.cons a r,.cons b q=>by rw[V.inj a b,u0 r q]
theorem TupIs.inj{h:Heap}{a:Addr}{x y:List K}(hx:TupIs V h x a)(hy:TupIs V h y a):x=y:=by
 obtain⟨o,items,n,ho,_,hd,hi⟩:=hx
 obtain⟨o',items',n',ho',_,hd',hi'⟩:=hy
 rw[ho]at ho'
 cases ho'
 rw[hd]at hd'
 cases hd'
 exact u0 hi hi'
theorem TupIs.keeps{h h':Heap}{ks:List K}{a d:Addr}{o:Obj}{es ep}(x:TupIs V h ks a)(ho:h.get? d=some o)(hd:o.data=.dict es ep)(hs:Heap.SameBut d h h'):TupIs V h' ks a:=by
 obtain⟨o',items,n,e1,e2,e3,e4⟩:=x
 have hne:a≠d:=λe=>by
  subst e
  rw[e1]at ho
  cases ho
  rw[hd]at e3;cases e3
 exact⟨o',items,n,(hs.2 a hne).trans e1,e2,e3,Paired.Fi e4 λk v q=>V.keeps q ho hd hs⟩
variable{A:Around}{E:Value->Shared->Prop}{s:Shared}
theorem GO{ks:List K}{a:Addr}{Q:Int->Shared->Prop}(hu:A.units+(V.yJ+1)<cLine)(hk:TupIs V s.heap ks a)(h:Q (yK V ks) {s with toks:=s.toks+((ks.map V.draws).sum+1)}):wpAny (model prog w) A (pyHash (.ref a)) Q E s:=by
 have hT:=hk.ty
 have fu:A.units<cLine:=by omega
 obtain⟨o,items,n,ho,_,hd,hi⟩:=hk
 unfold pyHash
 first|unfold pyHashByItsType|skip
 first|refine aai (wpAny_cRoomFor_or (.inr fu) ?_)|skip
 refine aai (wpAny_specialOf hT F.slot_tuple_hash.lookup ?_);show wpAny _ _ (if (some (Value.builtin "tuple.__hash__")==some Value.none)=true then _ else _) Q E s
 rw[aah (by rw[beq_builtin_none];exact aaC)];refine aai (wpAny_specialOf hT F.slot_tuple_hash.lookup ?_)
 show wpAny _ _ (callSpecialIfBoundUnlessNone? (.ref a) "__hash__" _ >>= _) Q E s;refine aai (wpAny_callSpecialIfBoundUnlessNone?_slot hT F.slot_tuple_hash (wpAny_call_entry F.slot_tuple_hash hT F.entry_tuple_hash ?_ (F.args_tuple_hash_1 _)))
 have hu1:A.in1.units+V.yJ<cLine:=by show A.units+1+V.yJ<cLine;omega
 show wpAny _ _ (Builtin.Tuple.tupleItemsOf (.ref a) >>= _) _ _ s
 refine aai (wpAny_tupleItemsOf ho hd (aai ?_))
 rw[←Array.forIn_toList]
 refine wpAny_forIn_list _ (λrest (b:Array Int) s'=>∃done left,ks=done++left/\Paired (λk v=>V.is s.heap k v) left rest/\b.toList=done.map V.hash/\s'={s with toks:=s.toks+(done.map V.draws).sum}) _ ?_ ?_ _ _ ⟨[],ks,rfl,hi,rfl,rfl⟩
 ·rintro x rest b s' ⟨done,left,rfl,hl,hb,rfl⟩
  cases hl with
  |@cons k _ ks' _ h1 hl' =>
   have fin:∃d l,done++k::ks'=d++l/\Paired (λk v=>V.is s.heap k v) l rest/\(b.push (V.hash k)).toList=d.map V.hash/\({s with toks:=s.toks+(done.map V.draws).sum+V.draws k}:Shared)={s with toks:=s.toks+(d.map V.draws).sum}:=⟨done++[k],ks',by simp,hl',by simp[hb],by simp[Nat.add_assoc]⟩
   refine aai (V.pyHash hu1 h1 ?_)
   first
    |exact aaB fin
    |exact aai (aaB (aaB fin))
 ·rintro b s' ⟨done,left,rfl,hl,hb,rfl⟩
  cases hl
  rw[abr]at h
  show wpAny _ _ (retInt (Builtin.Tuple.tupleHashOf b.toList)) _ _ _
  rw[hb]
  refine wpAny_ret_mkInt ?_
  generalize hz:Builtin.Tuple.tupleHashOf (done.map V.hash)=z
  unfold yK reduceHash at h
  rw[hz]at h
  show wpAny _ _ (if (decide (-(2:Int) ^ 63<=z)&&decide (z<2 ^ 63))=true then _ else _) Q E _
  by_cases hr:(decide (-(2:Int) ^ 63<=z)&&decide (z<2 ^ 63))=true
  ·rw[aal hr]at h⊢
   exact aaB (by simpa [Nat.add_assoc]using h)
  ·rw[aah hr]at h⊢
   exact aai (wpAny_rule (aaB (by simpa [Nat.add_assoc]using h)))
theorem B6{x y:List K}:((List.range (min x.length y.length)).all (λj=>decide (x[j]?=y[j]?))&&x.length==y.length)=decide (x=y):=by
 rw[aa2,Bool.and_eq_true,aaO,aa1,beq_iff_eq]
 constructor
 ·rintro⟨q,hl⟩
  refine List.ext_getElem? λi=>?_
  by_cases hi:i<x.length
  ·exact aa0 (q i (List.mem_range.mpr 'c'))
  ·rw[List.getElem?_eq_none 'c',List.getElem?_eq_none 'c']
 ·rintro rfl
  exact⟨λi _=>aay rfl,O⟩
theorem oA{F:K->Value->Prop}:∀{ks:List K}{vs:List Value},Paired F ks vs->∀(j:Nat) v,vs[j]?=some v->∃k,ks[j]?=some k/\F k v
 |_,_,.nil,j,v,h=>by simp at h
 |_,_,.cons a r,0,v,h=>by cases h;exact⟨_,rfl,a⟩
 |_,_,.cons a r,j+1,v,h=>by
  rw[List.getElem?_cons_succ]at h
  obtain⟨k,e,q⟩:=oA r j v h
  exact⟨k,by rw[List.getElem?_cons_succ];exact e,q⟩
theorem Lw{x y:List K}{a b:Addr}(hu:A.units+(V.yJ+1)<cLine)(hx:TupIs V s.heap x a)(hy:TupIs V s.heap y b):SeqAt.EqAt A s (.ref a) (.ref b) (decide (x=y)):=by
 by_cases e:a=b
 ·subst e
  rw[aay (hx.inj hy)]
  exact abC _
 ·obtain⟨o,items,n,h1,h2,h3,h4⟩:=hx
  obtain⟨o',items',n',Yj,h2',h3',Wk⟩:=hy
  have l1:x.length=items.size:=by rw[Paired.length h4,aaE]
  have l2:y.length=items'.size:=by rw[Paired.length Wk,aaE]
  refine abz e ?_
  rw[←B6,l1,l2]
  refine SeqAt.RcAt.tuples ⟨o,h1,h2,n,h3⟩ ⟨o',Yj,h2',n',h3'⟩ 'c' λj j1 j2=>?_
  obtain⟨k,ek,hk⟩:=oA h4 j items[j] (by simp[j1])
  obtain⟨k',Yk,hk'⟩:=oA Wk j items'[j] (by simp[j2])
  rw[ek,Yk,show decide (some k=some k')=decide (k=k') by simp]
  exact V.eq (by show A.units+1+V.yJ<cLine;omega) hk hk'
theorem En{ks:List K}{a:Addr}{Q:Bool->Shared->Prop}{n:Nat}(hn:V.yJ+1<=n)(hk:TupIs V s.heap ks a)(h:Q true s):wpAny (model prog w) A (eqIsQuiet n (.ref a)) Q E s:=by
 have hT:=hk.ty
 obtain⟨o,items,m,ho,_,hd,hi⟩:=hk
 obtain⟨n,rfl⟩:∃n',n=n'+1:=⟨n-1,by omega⟩
 unfold eqIsQuiet
 refine aai (wpAny_specialOf hT F.slot_tuple_eq.lookup ?_);show wpAny _ _ (isInstance (.ref a) (.type "tuple") >>= _) _ _ s
 refine aai (wpAny_isInstance hT isSubtype_tuple_tuple ?_)
 simp only[Bool.not_true,aa7,abH]
 refine aai (wpAny_seqItems ho hd (aai ?_))
 show wpAny _ _ (forIn items _ _) _ _ s
 rw[←Array.forIn_toList]
 refine wpAny_forIn_list _ (λrest r s'=>r.1=none/\s'=s/\∃l,Paired (λk v=>V.is s.heap k v) l rest) _ ?_ ?_ _ _ ⟨rfl,rfl,ks,hi⟩
 ·rintro v rest r s' ⟨hr,rfl,l,hl⟩
  cases hl with
  |@cons k _ ks' _ h1 hl' =>
   refine aai (V.quiet 'c' h1 ?_)
   simp only[Bool.not_true,aa7,abH]
   exact aaB ⟨rfl,rfl,ks',hl'⟩
 ·rintro⟨r1,r2⟩ s' ⟨hr,rfl,_⟩
  simp only at hr
  subst hr
  exact aaB h
end
abbrev Lf:=Option Key
def As:Lf->Value->Prop
 |none,v=>v=.none
 |some k,v=>sf k v=true
section
variable{prog:Program}{w:World}{A:Around}{E:Value->Shared->Prop}{s:Shared}
theorem Eo{Q:Int->Shared->Prop}(hu:A.units<cLine)(h:Q 4238894112 {s with toks:=s.toks+1}):wpAny (model prog w) A (pyHash .none) Q E s:=by
 have hT:s.TypeIs .none "NoneType":=rfl
 unfold pyHash
 first|unfold pyHashByItsType|skip
 first|refine aai (wpAny_cRoomFor_or (.inr hu) ?_)|skip
 refine aai (wpAny_specialOf hT F.slot_NoneType_hash.lookup ?_)
 show wpAny _ _ (if (some (Value.builtin "NoneType.__hash__")==some Value.none)=true then _ else _) Q E s
 rw[aah (by rw[beq_builtin_none];exact aaC)];refine aai (wpAny_specialOf hT F.slot_NoneType_hash.lookup ?_)
 show wpAny _ _ (callSpecialIfBoundUnlessNone? .none "__hash__" _ >>= _) Q E s
 refine aai (wpAny_callSpecialIfBoundUnlessNone?_slot hT F.slot_NoneType_hash (wpAny_call_entry F.slot_NoneType_hash hT F.entry_NoneType_hash ?_ (F.args_NoneType_hash_1 _)))
 show wpAny _ _ (retInt 4238894112) _ _ _
 refine wpAny_ret_mkInt ?_
 show wpAny _ _ (if (decide (-(2:Int) ^ 63<=4238894112)&&decide ((4238894112:Int)<2 ^ 63))=true then _ else _) Q E _
 rw[aal 'b']
 exact aaB h
theorem iS{k:Key}{v:Value}(h:sf k v=true):(∃i t,k=.inl i/\v=.int i t)\/∃z t,k=.inr z/\v=.str z t:=bT h
theorem GP(prog:Program)(w:World){v:Value}{x y:Lf}(hx:As x v)(hy:As y v):x=y:=by
 cases x with
 |none =>
  cases y with
  |none=>rfl
  |some k=>rcases iS hy with ⟨i,t,rfl,e⟩|⟨z,t,rfl,e⟩<;>(rw[show v=.none from hx]at e;cases e)
 |some k =>
  cases y with
  |none=>rcases iS hx with ⟨i,t,rfl,e⟩|⟨z,t,rfl,e⟩<;>(rw[show v=.none from hy]at e;cases e)
  |some k'=>rw[(ju prog w).inj v k k' hx hy]
theorem Kc{x y:Lf}{u v:Value}(hx:As x u)(hy:As y v):SeqAt.EqAt A s u v (decide (x=y)):=by
 cases x with
 |none =>
  have hx:u=.none:=hx
  subst hx
  cases y with
  |none =>
   have hy:v=.none:=hy
   subst hy
   rw[aay rfl];exact abC _
  |some k =>
   rw[aax (by simp)]
   rcases iS hy with ⟨i,t,rfl,rfl⟩|⟨z,t,rfl,rfl⟩
   ·exact SeqAt.EqAt.none_int _ _
   ·exact SeqAt.EqAt.none_str _ _
 |some k =>
  cases y with
  |none =>
   have hy:v=.none:=hy
   subst hy
   rw[aax (by simp)]
   rcases iS hx with ⟨i,t,rfl,rfl⟩|⟨z,t,rfl,rfl⟩
   ·exact SeqAt.EqAt.int_none _ _
   ·exact SeqAt.EqAt.str_none _ _
  |some k' =>
   rw[show decide (some k=some k')=decide (k=k') by simp]
   rcases iS hx with ⟨i,t,rfl,rfl⟩|⟨z,t,rfl,rfl⟩<;>rcases iS hy with ⟨i',t',rfl,rfl⟩|⟨z',t',rfl,rfl⟩
   ·rw[Fd];exact SeqAt.EqAt.int_int _ _ _ _
   ·rw[Ff];exact SeqAt.EqAt.int_str _ _ _ _
   ·rw[Fg];exact SeqAt.EqAt.str_int _ _ _ _
   ·rw[Fe,show decide (z=z')=(z==z') by rw[aa2,aa1,beq_iff_eq]];exact SeqAt.EqAt.str_str _ _ _ _
theorem B7{x:Lf}{v:Value}(h:As x v):carriedByValue v=true:=by
 cases x with
 |none=>rw[show v=.none from h];rfl
 |some k=>rcases iS h with ⟨i,t,rfl,rfl⟩|⟨z,t,rfl,rfl⟩<;>rfl
end
def GQ(w:World):Lf->Int
 |none=>4238894112
 |some k=>M9 w k
def Au(prog:Program)(w:World):xX prog w Lf where
 is:=λ_ k v=>As k v
 hash:=GQ w
 draws:=λ_=>1
 yJ:=0
 inj:=λhx hy=>GP prog w hx hy
 keeps:=λh _ _ _=>h
 pyHash:=λ{A E s k v Q} hu h q=>by
  cases k with
  |none =>
   have h:v=.none:=h
   subst h
   exact Eo hu q
  |some k=>exact(ju prog w).pyHash h q
 eq:=λ_ hx hy=>Kc hx hy
 quiet:=λ{A E s k v Q n} _ h q=>by rw[eqIsQuiet_byValue n (B7 h)];exact aaB q
section
variable{prog:Program}{w:World}{K:Type}[DecidableEq K](V:xX prog w K)
def Lx(h:Heap):Lf⊕List K->Value->Prop
 | .inl k,v=>As k v
 | .inr ks,v=>∃a,v=.ref a/\TupIs V h ks a
def Ly:Lf⊕List K->Int
 | .inl k=>GQ w k
 | .inr ks=>yK V ks
def IL:Lf⊕List K->Nat
 | .inl _=>1
 | .inr ks=>(ks.map V.draws).sum+1
variable{V}
theorem GR{k:Lf}{a:Addr}(h:As k (.ref a)):False:=by
 cases k with
 |none=>cases(show Value.ref a=.none from h)
 |some k=>rcases iS h with ⟨i,t,rfl,e⟩|⟨z,t,rfl,e⟩<;>cases e
theorem N7{A:Around}{s:Shared}{x y:Lf⊕List K}{u v:Value}(hu:A.units+(V.yJ+1)<cLine)(hx:Lx V s.heap x u)(hy:Lx V s.heap y v):SeqAt.EqAt A s u v (decide (x=y)):=by
 cases x with
 |inl k =>
  cases y with
  |inl k' =>
   rw[show decide ((Sum.inl k:Lf⊕List K)=.inl k')=decide (k=k') by simp]
   exact Kc hx hy
  |inr ks =>
   obtain⟨a,rfl,o,items,n,h1,h2,h3,h4⟩:=hy
   rw[aax (λq=>nomatch q)]
   cases k with
   |none =>
    have hx:u=.none:=hx
    subst hx
    exact SeqAt.EqAt.none_tuple ⟨o,h1,h2,n,h3⟩ 'c'
   |some k =>
    rcases iS hx with ⟨i,t,rfl,rfl⟩|⟨z,t,rfl,rfl⟩
    ·exact SeqAt.EqAt.int_tuple _ _ ⟨o,h1,h2,n,h3⟩ 'c'
    ·exact SeqAt.EqAt.str_tuple _ _ ⟨o,h1,h2,n,h3⟩ 'c'
 |inr ks =>
  obtain⟨a,rfl,hxa⟩:=hx
  cases y with
  |inl k' =>
   obtain⟨o,items,n,h1,h2,h3,h4⟩:=hxa
   rw[aax (λq=>nomatch q)]
   cases k' with
   |none =>
    have hy:v=.none:=hy
    subst hy
    exact SeqAt.EqAt.tuple_none ⟨o,h1,h2,n,h3⟩ 'c'
   |some k =>
    rcases iS hy with ⟨i,t,rfl,rfl⟩|⟨z,t,rfl,rfl⟩
    ·exact SeqAt.EqAt.tuple_int _ _ ⟨o,h1,h2,n,h3⟩ 'c'
    ·exact SeqAt.EqAt.tuple_str _ _ ⟨o,h1,h2,n,h3⟩ 'c'
  |inr ks' =>
   obtain⟨b,rfl,RI⟩:=hy
   rw[show decide ((Sum.inr ks:Lf⊕List K)=.inr ks')=decide (ks=ks') by simp]
   exact Lw hu hxa RI
def stepK(V:xX prog w K):xX prog w (Lf⊕List K) where
 is:=Lx V
 hash:=Ly V
 draws:=IL V
 yJ:=V.yJ+1
 inj:=λ{h v x y} hx hy=>by
  cases x with
  |inl k =>
   cases y with
   |inl k'=>rw[GP prog w hx hy]
   |inr ks=>obtain⟨a,rfl,_⟩:=hy;exact(GR hx).elim
  |inr ks =>
   obtain⟨a,rfl,hxa⟩:=hx
   cases y with
   |inl k'=>exact(GR hy).elim
   |inr ks'=>obtain⟨b,e,RI⟩:=hy;cases e;rw[hxa.inj RI]
 keeps:=λ{h h' k v d o es ep} hx ho hd hs=>by
  cases k with
  |inl k=>exact hx
  |inr ks=>obtain⟨a,rfl,hxa⟩:=hx;exact⟨a,rfl,hxa.keeps ho hd hs⟩
 pyHash:=λ{A E s k v Q} hu hx q=>by
  cases k with
  |inl k=>exact(Au prog w).pyHash (by show A.units+0<cLine;omega) hx q
  |inr ks=>obtain⟨a,rfl,hxa⟩:=hx;exact GO hu hxa q
 eq:=λhu hx hy=>N7 hu hx hy
 quiet:=λ{A E s k v Q n} hn hx q=>by
  cases k with
  |inl k=>exact(Au prog w).quiet (aaZ _) hx q
  |inr ks=>obtain⟨a,rfl,hxa⟩:=hx;exact En hn hxa q
end
def Wl:Lf->V
 |none=>.non
 |some k=>kV k
theorem su{α β γ:Type}{F:α->β->Prop}{G:β->γ->Prop}:∀{xs:List α}{ys:List β}{zs:List γ},Paired F xs ys->Paired G ys zs->Paired (λa c=>∃b,F a b/\G b c) xs zs
 |_,_,_,.nil,.nil=>.nil
 |_,_,_,.cons a r,.cons b q=>.cons ⟨_,a,b⟩ (su r q)
section
variable{P:Program}{w:World}{K:Type}[DecidableEq K]
structure HM(F:W.Frag)(Z:xX P w K) where
 on:Hp->K->V->Prop
 ok:∀{X:Cx}{pins:List 'f'}{σ:St}{H:Hp}{s:Shared}{k:K}{v:V}{u:Value},X.K=F->Inv X pins σ H s->RelV v u->on H k v->Z.is s.heap k u
 keep:∀{H H':Hp}{k:K}{v:V},(∀b xs,bH F H b xs->bH F H' b xs)->on H k v->on H' k v
def MW{F:W.Frag}{Z:xX P w K}(Y:HM F Z)(H:Hp)(ks:List K)(b:Addr):Prop:=∃vs,bH F H b vs/\Paired (λk v=>Y.on H k v) ks vs
variable{F:W.Frag}{Z:xX P w K}{Y:HM F Z}{H H':Hp}{ks:List K}{b:Addr}
theorem MW.is{X:Cx}{pins:List 'f'}{σ:St}{s:Shared}(hF:X.K=F)(I:Inv X pins σ H s)(e:MW Y H ks b):TupIs Z s.heap ks b:=by
 obtain⟨vs,e,r⟩:=e
 obtain⟨its,rv,⟨o,h1,h2,n,h3⟩,_⟩:=I.tuple (by rw[hF];exact e)
 exact⟨o,its.toArray,n,h1,h2,h3,by simpa using Paired.Fi (su r rv) (λk u ⟨v,a,c⟩=>Y.ok hF I c a)⟩
theorem MW.keep(t:∀b xs,bH F H b xs->bH F H' b xs)(e:MW Y H ks b):MW Y H' ks b:=by
 obtain⟨vs,e,r⟩:=e
 exact⟨vs,t _ _ e,Paired.Fi r λk v q=>Y.keep t q⟩
end
def Kd(P:Program)(w:World)(F:W.Frag):HM F (Au P w) where
 on:=λ_ k v=>v=Wl k
 ok:=λ{X pins σ H s k v u} _ _ r e=>by
  subst e
  cases k with
  |none=>cases r;rfl
  |some k=>exact N6 (P:=P) (w:=w) r
 keep:=λ_ e=>e
section
variable{P:Program}{w:World}{K:Type}[DecidableEq K]
def RJ{F:W.Frag}{Z:xX P w K}(Y:HM F Z)(H:Hp):Lf⊕List K->V->Prop
 | .inl k,v=>v=Wl k
 | .inr ks,v=>∃b,v=.ref b/\MW Y H ks b
def GS{F:W.Frag}{Z:xX P w K}(Y:HM F Z):HM F (stepK Z) where
 on:=RJ Y
 ok:=λ{X pins σ H s k v u} hF I r e=>by
  cases k with
  |inl k=>exact(Kd P w F).ok hF I r e
  |inr ks =>
   obtain⟨b,rfl,e⟩:=e
   cases r
   exact⟨b,O,e.is hF I⟩
 keep:=λ{H H' k v} t e=>by
  cases k with
  |inl k=>exact e
  |inr ks=>obtain⟨b,rfl,e⟩:=e;exact⟨b,rfl,e.keep t⟩
abbrev N3(K:Type):=List K×Addr×V
variable{F:W.Frag}{Z:xX P w K}{Y:HM F Z}{hl:Z.yJ+1<=8}{H H':Hp}{h:Heap}{a b:Addr}{kvs:List (N3 K)}
end
section
variable{X:Cx}{K:Type}[DecidableEq K]{F:W.Frag}{Z:xX X.prog X.w K}{Y:HM F Z}{hl:Z.yJ+1<=8}{pins:List 'f'}{σ:St}{H:Hp}{s:Shared}{a b:Addr}{kvs:List (N3 K)}{k:List K}{v:V}{r:Value}{A:Around}{E:Value->Shared->Prop}
variable{o i value kx:Expr}{pos pos':Pos}{td ty tv:TE}
end
section
variable{X:Cx}{K:Type}[DecidableEq K]{F:W.Frag}{Z:xX X.prog X.w K}
end
abbrev ZM(P:Program)(w:World):=stepK (Au P w)
abbrev YM(P:Program)(w:World)(F:W.Frag):HM F (ZM P w):=GS (Kd P w F)
theorem hn0{A:Around}{P:Program}{w:World}(h:A.units+64<cLine):A.units+((Au P w).yJ+1)<cLine:=by show A.units+1<cLine;omega
theorem hn2{A:Around}{P:Program}{w:World}(h:A.units+64<cLine):A.units+1+((ZM P w).yJ+1)<cLine:=by show A.units+1+2<cLine;omega
section
variable{P:Program}{w:World}{F:W.Frag}{H:Hp}
end
section
variable{X:Cx}{P:Program}{w:World}{K:Type}[DecidableEq K]{F:W.Frag}{Z:xX P w K}{o i value kx:Expr}{pos pos':Pos}{td ty tv tk:TE}
end
section
variable{X:Cx}
end
section
variable{X:Cx}{K:Type}[DecidableEq K]{F:W.Frag}{Z:xX X.prog X.w K}
end
section
variable{prog:Program}{w:World}{A:Around}{E:Value->Shared->Prop}{s:Shared}
end
section
variable{X:Cx}{e:Expr}
end
section
variable{prog:Program}{w:World}{A:Around}{E:Value->Shared->Prop}{s:Shared}{d it i ep:Nat}{od:Obj}{es:Array DictEntry}
end
section
variable{P:Program}{w:World}{K:Type}[DecidableEq K]
variable{Z:xX P w K}{hl:Z.yJ+1<=8}
end
section
variable{X:Cx}{K:Type}[DecidableEq K]{F:W.Frag}{Z:xX X.prog X.w K}
end
def N8(K:W.Frag):List V->Hp->VK->Prop:=λxs H Q=>∃(p:Addr)(ns:List Nat),xs=[.ref p]/\aK K H p (ns.map λn:Nat=>V.int n)/\ns≠[]/\∀n:Nat,n∈ns->(∀m∈ns,m<=n)->Q (.int n) H
theorem Ep{X:Cx}(hc:X.calm=true):dw X (.builtin "max") (N8 X.K):=by
 intro pins s σ H xs us Q I r h
 obtain⟨p,ns,rfl,hq,hne,q⟩:=h
 obtain⟨u,rfl,ru⟩:=vals1 r
 cases ru
 obtain⟨its,rv,pl,hz⟩:=I.list hq
 have hlen:=rv.length
 rw[aaj]at hlen
 have hpl:p<s.heap.objs.size:=by obtain⟨o,ho,_⟩:=pl.isList;exact aaw ho
 have hpos:=List.length_pos_iff.mpr hne
 refine call_max_walk (wpAny_pyIter_list pl.isList ⟨s.heap.objs.size,_,_,_,_,_,λi j=>decide (((ns.getD i 0:Nat):Int)>((ns.getD j 0:Nat):Int)),rfl,Walks.list (A:=X.A.in1) (show X.A.in1.handled=none from I.ok.hd hc) s.heap.objs.size p (aaS hpl) its.toArray,⟨⟨_,aaG _ rfl,rfl,rfl⟩,pl.isList.at λo e=>aap _ e⟩,?_,?_,?_,?_⟩)
 ·intro b hb
  have e:b=s.heap.objs.size\/b=p:=by simpa using hb
  show b<(s.heap.push _).objs.size
  rw[aa3]
  rcases e with rfl|rfl
  ·exact Nat.lt_succ_self _
  ·exact Nat.lt_succ_of_lt hpl
 ·simp;omega
 ·exact CmpOf.ints_gt (λi=>((ns.getD i 0:Nat):Int)) λi v hv=>jw rv (by simpa using hv)
 ·intro v h' tk hv hk
  have f0:=I.uK (aao s.heap.objs.size) (I.hok.fresh (aao _))
  have I2:Inv X pins σ H {s with heap:=s.heap.push {cls:=.type "list_iterator",data:=.fields #[.ref p,rawInt 0]}}:=I.kept (t':=s.toks) λb o e=>aap _ e
  have I3:=I2.turned (h':=h') (t':=tk) (it:=s.heap.objs.size) (λb o hb e=>hk b o (by simpa using hb) e) f0.1 f0.2.1 f0.2.2.2.1 f0.2.2.2.2.1 f0.2.2.2.2.2
  obtain⟨h1,h2⟩:=argBest_gt (λi=>((ns.getD i 0:Nat):Int)) (its.toArray.size-1)
  rw[aak]at h1 h2
  rw[aak]at hv
  generalize argBest (λi j=>decide (((ns.getD i 0:Nat):Int)>((ns.getD j 0:Nat):Int))) (its.length-1)=b at h1 h2 hv
  obtain⟨t,rfl⟩:=jw rv (i:=b) (by rw[←hv];simp)
  have hb:b<ns.length:=by omega
  refine⟨.int (ns.getD b 0:Nat),H,I3,⟨t,O⟩,q _ ?_ λm hm=>?_⟩
  ·rw[aa6,aau hb];exact abI hb
  ·obtain⟨j,hj,rfl⟩:=List.getElem_of_mem hm
   have:=h2 j 'c'
   have e:ns.getD j 0=ns[j]:=by rw[aa6,aau hj];rfl
   rw[e]at this
   omega
theorem qT{X:Cx}(K:W.Frag)(h:X.K=K)(hc:X.calm=true):dw X (.builtin "max") (N8 K):=by subst h;exact Ep hc
end L2
set_option synthInstance.maxSize 100000
set_option synthInstance.maxHeartbeats 400000
namespace L2
open PySem PySem.Spec PyProof.Rows
section
variable{X:Cx}{K:Type}[DecidableEq K]{F:W.Frag}{Z:xX X.prog X.w K}
end
abbrev ZP(P:Program)(w:World):=stepK (stepK (ZM P w))
abbrev YP(P:Program)(w:World)(F:W.Frag):HM F (ZP P w):=GS (GS (YM P w F))
theorem hp1{A:Around}{P:Program}{w:World}(h:A.units+64<cLine):A.units+((ZP P w).yJ+1)<cLine:=by show A.units+4<cLine;omega
section
variable{P:Program}{w:World}{F:W.Frag}{H:Hp}
end
section
variable{prog:Program}{w:World}{A:Around}{E:Value->Shared->Prop}{s:Shared}{d ep:Nat}{od:Obj}{es:Array DictEntry}
end
section
variable{X:Cx}{P:Program}{w:World}{K:Type}[DecidableEq K]{F:W.Frag}{Z:xX P w K}
end
section
variable{prog:Program}{w:World}{A:Around}{E:Value->Shared->Prop}{s:Shared}{d ep:Nat}{od:Obj}{es:Array DictEntry}
end
section
variable{prog:Program}{w:World}{A:Around}{E:Value->Shared->Prop}{s:Shared}{d ep:Nat}{od:Obj}{es:Array DictEntry}
end
section
variable{X:Cx}{P:Program}{w:World}{K:Type}[DecidableEq K]{F:W.Frag}{Z:xX P w K}
end
def Er(ta:TA):TE:=λσ H Q=>ta σ H λvs H1=>∃j:Int,vs=[.int j]/\0<=j/\j<=100000/\∀l,H1 l=none->Q (.ref l) (upd H1 l (.lst (Ec 0 j.toNat)))
theorem sy{X:Cx}{b:Expr}{p1 p2 pos1 pos2:Pos}{ta:TA}(hc:X.calm=true)(hg:Gl X "list")(hm:X.mg "list"=none)(Yl:Gl X "range")(hm2:X.mg "range"=none)(ha:PA X [b] ta)(h1:starEach [.Call (.Name "range" p2) [b] [] pos2] X.env=[(false,eval (.Call (.Name "range" p2) [b] [] pos2) X.env)]:=by rfl)(hs2:starEach [b] X.env=[(false,eval b X.env)]:=by rfl):PE X (.Call (.Name "list" p1) [.Call (.Name "range" p2) [b] [] pos2] [] pos1) (Er ta):=by
 intro pins s σ H Q I h
 refine aby (kP I hg hm boot_list ?_ 'b' 'b')
 refine aa9 ?_ h1 rfl
 rw[h1]
 show wpAny _ _ (spliced [(false,eval (.Call (.Name "range" p2) [b] [] pos2) X.env)]) _ _ s
 refine Calls.spliced_cons ?_
 refine Call_ (kP I Yl hm2 boot_range (aa9 (cC (ha pos2 pins s σ H _ I h) λus s1 ⟨vs,H1,I1,r1,q1⟩=>?_) hs2 rfl))
 obtain⟨j,rfl,b1,b2,q⟩:=q1
 obtain⟨u1,rfl,rr⟩:=vals1 r1
 obtain⟨t2,e⟩:=(show ∃t,u1=Value.int j t from rr)
 subst e
 refine call_range_1 ?_
 refine Calls.spliced_nil ?_
 have hn:Builtin.Range.rangeSize 0 j 1=(j.toNat:Nat):=by rw[rangeSize_one];split<;>omega
 refine call_list_range (n:=j.toNat) (I.ok.hd hc) (IsRange.new ..) (small_one 'b' 'b' 'c' 'c') hn (aaz (show j.toNat<=100000 by omega) 'b') λh' tk acc' c' hk hS hacc=>?_
 have hv:=Ed hacc
 have hle:s1.heap.objs.size<=(s1.heap.push {cls:=.type "range",data:=.fields #[.int 0 s1.toks,.int j t2,.int 1 (s1.toks+1)]}).objs.size:=by rw[aa3];exact Nat.le_succ _
 refine⟨.ref _,_,I1.laid (t':=tk) (o:=.lst (Ec 0 j.toNat)) (λb u e=>hk b u (aap _ e)) hle ⟨?_,acc'.toList,c',hv,?_⟩,rfl,q _ (I1.hok.fresh hle)⟩
 ·unfold Ec
  rw[aaj,List.length_range]
  exact aaz (show j.toNat<=100000 by omega) 'b'
 ·rw[hS]
inductive TopE(K:W.Frag)(H:Hp):V->V->Bool->Prop where
 |lst {a b:Addr}{xs ys:List V}{e:Nat->Bool}:aK K H a xs->aK K H b ys->xs.length=ys.length->(∀(j:Nat) x y,xs[j]?=some x->ys[j]?=some y->qS K H x y (e j))->TopE K H (.ref a) (.ref b) ((List.range xs.length).all e)
 |len {a b:Addr}{xs ys:List V}:aK K H a xs->aK K H b ys->xs.length≠ys.length->TopE K H (.ref a) (.ref b) false
 |nn:TopE K H .non .non true
 |nl {b:Addr}{ys:List V}:aK K H b ys->TopE K H .non (.ref b) false
 |ln {a:Addr}{xs:List V}:aK K H a xs->TopE K H (.ref a) .non false
def RK(K:W.Frag):R2:=λx y H Q=>∃b,TopE K H x y b/\Q (.bl b) H
def RL(K:W.Frag):R2:=λx y H Q=>∃b,TopE K H x y b/\Q (.bl (!b)) H
section
variable{X:Cx}
theorem Lz(K:W.Frag)(hK:X.K=K)(hu:X.A.units+64<cLine):mG X (compareOp .Eq) (RK K):=by
 subst hK
 intro pins s σ H x y v u Q I rx ry h
 obtain⟨b,hk,q⟩:=h
 cases hk with
 |@lst a b xs ys e ha hb hl hs =>
  cases rx;cases ry
  obtain⟨its,r1,p1,_⟩:=I.list ha
  obtain⟨its2,r2,p2,_⟩:=I.list hb
  refine SeqAt.eq_listAt (e:=e) p1.isList p2.isList (by rw[aak,aak,←r1.length,←r2.length,hl]) 'c' (λj h1 h2=>mK r1 r2 (λj x y u w ex ey ru rw'=>B5 I (hs j x y ex ey) (by show X.A.units+1+50<cLine;omega) ru rw') j h1 h2) ⟨.bl _,H,I,?_,q⟩
  show Value.bool _=Value.bool _
  rw[aak,←r1.length]
 |@len a b xs ys ha hb hl =>
  cases rx;cases ry
  obtain⟨its,r1,p1,_⟩:=I.list ha
  obtain⟨its2,r2,p2,_⟩:=I.list hb
  show wpAny _ _ (richCompare .Eq (.ref a) (.ref b)) _ _ _
  exact SeqAt.RcAt.lists_lengths p1.isList p2.isList (by rw[aak,aak,←r1.length,←r2.length];simpa using hl) 'c' _ _ _ _ ⟨.bl false,H,I,rfl,q⟩
 |nn=>exact aP pins s σ H _ _ v u Q I rx ry ⟨rfl,q⟩
 |nl hb =>
  cases rx;cases ry
  obtain⟨its,r1,p1,_⟩:=I.list hb
  show wpAny _ _ (richCompare .Eq _ _) _ _ _
  exact SeqAt.RcAt.none_list p1.isList 'c' _ _ _ _ ⟨.bl false,H,I,rfl,q⟩
 |ln ha =>
  cases rx;cases ry
  obtain⟨its,r1,p1,_⟩:=I.list ha
  show wpAny _ _ (richCompare .Eq _ _) _ _ _
  exact SeqAt.RcAt.list_none p1.isList 'c' _ _ _ _ ⟨.bl false,H,I,rfl,q⟩
theorem LA(K:W.Frag)(hK:X.K=K)(hu:X.A.units+64<cLine):mG X (compareOp .NotEq) (RL K):=by
 subst hK
 intro pins s σ H x y v u Q I rx ry h
 obtain⟨b,hk,q⟩:=h
 cases hk with
 |@lst a b xs ys e ha hb hl hs =>
  cases rx;cases ry
  obtain⟨its,r1,p1,_⟩:=I.list ha
  obtain⟨its2,r2,p2,_⟩:=I.list hb
  show wpAny _ _ (richCompare .NotEq (.ref a) (.ref b)) _ _ _
  refine SeqAt.RcNeAt.lists (e:=e) p1.isList p2.isList (by rw[aak,aak,←r1.length,←r2.length,hl]) 'c' (λj h1 h2=>mK r1 r2 (λj x y u w ex ey ru rw'=>B5 I (hs j x y ex ey) (by show X.A.units+1+50<cLine;omega) ru rw') j h1 h2) _ _ _ _ ⟨.bl _,H,I,?_,q⟩
  show Value.bool _=Value.bool _
  rw[aak,←r1.length]
 |@len a b xs ys ha hb hl =>
  cases rx;cases ry
  obtain⟨its,r1,p1,_⟩:=I.list ha
  obtain⟨its2,r2,p2,_⟩:=I.list hb
  show wpAny _ _ (richCompare .NotEq (.ref a) (.ref b)) _ _ _
  exact SeqAt.RcNeAt.lists_lengths p1.isList p2.isList (by rw[aak,aak,←r1.length,←r2.length];simpa using hl) 'c' _ _ _ _ ⟨.bl true,H,I,rfl,q⟩
 |nn=>exact ki pins s σ H _ _ v u Q I rx ry ⟨rfl,q⟩
 |nl hb =>
  cases rx;cases ry
  obtain⟨its,r1,p1,_⟩:=I.list hb
  show wpAny _ _ (richCompare .NotEq _ _) _ _ _
  exact SeqAt.RcNeAt.none_list p1.isList 'c' _ _ _ _ ⟨.bl true,H,I,rfl,q⟩
 |ln ha =>
  cases rx;cases ry
  obtain⟨its,r1,p1,_⟩:=I.list ha
  show wpAny _ _ (richCompare .NotEq _ _) _ _ _
  exact SeqAt.RcNeAt.list_none p1.isList 'c' _ _ _ _ ⟨.bl true,H,I,rfl,q⟩
end
theorem GU{scope:Scope}{env:Env}{x:Str}(h:scope.names.lookup x=some .free):(relabel scope env).names.lookup x=some .cell\/(relabel scope env).names.lookup x=some .free:=by
 have e:(relabel scope env).names.lookup x=(scope.names.lookup x).map λk=>if (k==NameKind.free&&env.scope.kind==.function&&env.kindOf x==some .cell) then NameKind.cell else k:=bZ x scope.names
 rw[e,h,aa4]
 by_cases hc:(NameKind.free==NameKind.free&&env.scope.kind==.function&&env.kindOf x==some .cell)=true
 ·rw[aal hc];exact .inl rfl
 ·rw[aah hc];exact .inr rfl
theorem LB{scope:Scope}{env:Env}{x:Str}(h:scope.names.lookup x=some .cell\/scope.names.lookup x=some .free):(relabel scope env).names.lookup x=some .cell\/(relabel scope env).names.lookup x=some .free:=by
 rcases h with h|h
 ·have e:(relabel scope env).names.lookup x=(scope.names.lookup x).map λk=>if (k==NameKind.free&&env.scope.kind==.function&&env.kindOf x==some .cell) then NameKind.cell else k:=bZ x scope.names
  rw[e,h,aa4]
  exact .inl rfl
 ·exact GU h
structure gR(XN:List Str)(D8:Scope)(N:List Str)(nv:Nat)(js:List Nat)(scope:Scope):Prop where
 kind:scope.kind=.function
 cell:∀y∈scope.names,y.2=.cell->scope.names.lookup y.1=some .cell
 loc:∀y∈scope.names,y.2=.local->scope.names.lookup y.1=some .local
 free:∀y∈scope.names,y.2=.free->scope.names.lookup y.1=some .free/\(D8.names.lookup y.1=some .cell\/D8.names.lookup y.1=some .free)
 nd:N.Nodup
 len:N.length=nv+js.length
 pl:js.map (λj=>XN[j]?)=(N.drop nv).map some
 fr:∀x∈N.drop nv,scope.names.lookup x=some .free
abbrev mU(scope:Scope)(C:Addr):List (Str×Addr):=cellsFrom (C+1) scope.names []
abbrev yL(X:Cx)(scope:Scope)(C:Addr):List (Str×Addr):=mU scope C++cS X.env scope.names []
theorem iT:∀(r:List (Str×NameKind))(n:Nat)(a b:List (Str×Addr)),cellsFrom n r (a++b)=cellsFrom n r a++b
 |[],_,_,_=>rfl
 | (x,k)::r,n,a,b=>by
  unfold cellsFrom
  split
  ·exact iT r (n+1) ((x,n)::a) b
  ·exact iT r n a b
theorem iU{x:Str}{c:Addr}:∀(r:List (Str×NameKind))(n:Nat)(a:List (Str×Addr)),(x,c)∈cellsFrom n r a->(x,NameKind.cell)∈r\/(x,c)∈a
 |[],_,_,h=>.inr h
 | (y,k)::r,n,a,h=>by
  unfold cellsFrom at h
  split at h
  ·rename_i hk
   have hk:k=.cell:=by simpa using hk
   rcases iU r (n+1) _ h with q|q
   ·exact .inl (aaq _ q)
   ·rcases aas.mp q with q|q
    ·cases q;rw[hk];exact .inl aat
    ·exact .inr q
  ·rcases iU r n _ h with q|q
   ·exact .inl (aaq _ q)
   ·exact .inr q
theorem gS{α:Type}{x:Str}:∀(a b:List (Str×α)),(a++b).lookup x=(match a.lookup x with|some c=>some c|none=>b.lookup x)
 |[],_=>rfl
 | (y,c)::a,b=>by
  rw[List.cons_append,abh,abh]
  cases x==y with
  |true=>rfl
  |false=>exact gS a b
abbrev iC(X:Cx)(N:List Str)(scope:Scope)(C:Addr)(s:Shared)(H:Hp)(fp:List Addr):Cx where
 prog:=X.prog
 w:=X.w
 K:=X.K
 mg:=X.mg
 base:=X.base
 A:=X.A
 N:=N
 s₀:=s
 H₀:=H
 env:=compEnvC scope (yL X scope C) C X.env
 outer:=X.stack
 stack:=X.stack
 ex:=fp
 fn:=λx=>(mU scope C).lookup x != none
 calm:=X.calm
 pn:=[]
 xe:=λ_ _=>False
theorem IM{M:Model}{A:Around}{E:Value->Shared->Prop}{s:Shared}{scope:Scope}{globals:Addr}{cl:List (Str×Addr)}{qual:Str}{env:Env}{Q:Env->Shared->Prop}(hQ:∀h1,(∀b o,s.heap.get? b=some o->h1.get? b=some o)->h1.Ns s.heap.objs.size (λ_=>none)->CellsOk h1 (s.heap.objs.size+1) (mU scope s.heap.objs.size)->Q (newEnv scope s.heap.objs.size globals (mU scope s.heap.objs.size++cl) qual none .none (some env) builtinsNs) {s with heap:=h1}):wpAny M A (newFunctionEnv scope globals cl [] qual none .none (some env)) Q E s:=by
 simp only[newFunctionEnv,Option.isSome_some,abx]
 refine aai (wpAny_alloc ?_)
 refine aai (wpAny_layCells _ (λname kind cells=>by cases hkc:kind==NameKind.cell<;>simp[hkc]) _ _ _ _ ?_)
 have ok:=cellsFrom_ok scope.names (s.heap.push {cls:=.type "dict",data:=.dict #[]}) (s.heap.objs.size+1) [] ⟨λ_ _ hm=>(nomatch hm),List.Pairwise.nil⟩ (by rw[aa3];exact aao _)
 rw[aa3]at ok
 rw[show({s with heap:=s.heap.push {cls:=.type "dict",data:=.dict #[]}}:Shared).heap.objs.size=s.heap.objs.size+1 from aa3 ..]
 have e:=iT scope.names (s.heap.objs.size+1) [] cl
 rw[List.nil_append]at e
 rw[e,List.forIn_nil]
 refine aai (aaB (aaB ?_))
 exact hQ _ (λb o e=>pushCells_keeps _ _ b o (aap _ e)) ((Heap.Ns.new s.heap (.type "dict")).keeps (pushCells_keeps _ _)) ok
section
variable{X:Cx}{pins:List 'f'}{σ:St}{H:Hp}{s:Shared}
theorem Ke{scope:Scope}{C:Addr}{h1:Heap}(hfr:∀n,(n,NameKind.free)∈scope.names->∃c,X.env.cells.lookup n=some c)(ck:CellsOk h1 (C+1) (mU scope C)){x:Str}{c:Addr}(e:(yL X scope C).lookup x=some c):((x,c)∈mU scope C/\C<c/\h1.IsCell c none)\/(X.env.cells.lookup x=some c/\(cS X.env scope.names []).lookup x=some c):=by
 rw[gS]at e
 cases q:(mU scope C).lookup x with
 |some d =>
  rw[q]at e;cases e
  have hm:=aaU q
  exact .inl ⟨hm,(ck.empty _ _ hm).2,(ck.empty _ _ hm).1⟩
 |none =>
  rw[q]at e
  exact .inr ⟨gO scope.names [] hfr (λx c z=>by cases z) _ _ e,e⟩
theorem Av{N:List Str}{nv:Nat}{js:List Nat}{scope:Scope}{fp:List Addr}{h1:Heap}{tk:Nat}(I:Inv X pins σ H s)(S:gR X.N X.env.scope N nv js scope)(hf:∀b∈fp,jv X pins H b)(hfl:∀b∈fp,b<s.heap.objs.size)(keep:∀b o,s.heap.get? b=some o->h1.get? b=some o)(ns:h1.Ns s.heap.objs.size λ_=>none)(ck:CellsOk h1 (s.heap.objs.size+1) (mU scope s.heap.objs.size)):Inv (iC X N scope s.heap.objs.size s H fp) [] (gQ nv js σ) H {s with heap:=h1,toks:=tk}:=by
 have hfr:∀n,(n,NameKind.free)∈scope.names->∃c,X.env.cells.lookup n=some c:=λn hn=>I.ok.has n (S.free _ hn rfl).2
 have sub:∀x c,(cS X.env scope.names []).lookup x=some c->X.env.cells.lookup x=some c:=gO scope.names [] hfr (λx c z=>by cases z)
 have hlt:∀x c,X.env.cells.lookup x=some c->c<s.heap.objs.size:=λx c e=>by
  obtain⟨v,q⟩:=I.cell x c e
  exact q.lt
 have inv:∀x c,(yL X scope s.heap.objs.size).lookup x=some c->((x,c)∈mU scope s.heap.objs.size/\s.heap.objs.size<c/\h1.IsCell c none)\/(X.env.cells.lookup x=some c/\(cS X.env scope.names []).lookup x=some c):=λx c e=>Ke hfr ck e
 have La:∀x,(relabel scope X.env).names.lookup x=some .cell\/(relabel scope X.env).names.lookup x=some .free->scope.names.lookup x=some .free\/scope.names.lookup x=some .cell:=by
  intro x hx
  have e:=bZ (env:=X.env) x scope.names
  have hx':(relabel scope X.env).names.lookup x=_:=e
  rw[hx']at hx
  cases q:scope.names.lookup x with
  |none=>rw[q]at hx;rcases hx with hx|hx<;>cases hx
  |some k =>
   rw[q,aa4]at hx
   cases k<;>first|exact .inl rfl|exact .inr rfl | (exfalso;rcases hx with hx|hx<;>simp at hx)
 refine⟨⟨I.ok.mod,S.kind,I.ok.glob,I.ok.blt,aao _,λx y c e1 e2=>?_,λx hx=>?_,λx c z e=>?_,I.ok.hd,I.ok.frames,.inl rfl,λb hb=>?_,λb o e=>?_,?_,λb o e hb=>?_,λb hb z=>?_,I.stack,I.uB⟩,O,I.bare,Un.kept keep,⟨_,ns,λi x v e1 e2 e3=>?_⟩,λx c e=>?_,I.hok.fresh (aao _),λx c e=>?_,λp hp=>absurd (show p∈([]:List 'f') from hp) (by simp),I.hok.kept keep,?_⟩
 ·rcases inv x c e1 with ⟨m1,l1,_⟩|⟨o1,_⟩<;>rcases inv y c e2 with ⟨m2,l2,_⟩|⟨o2,_⟩
  ·exact name_of_addr ck.apart m1 m2
  ·exact absurd (hlt _ _ o2) (Nat.not_lt.mpr (Nat.le_of_lt l1))
  ·exact absurd (hlt _ _ o1) (Nat.not_lt.mpr (Nat.le_of_lt l2))
  ·exact I.ok.inj x y c o1 o2
 ·show ∃c,(yL X scope s.heap.objs.size).lookup x=some c
  rw[gS]
  cases q:(mU scope s.heap.objs.size).lookup x with
  |some d=>exact⟨d,rfl⟩
  |none =>
   rcases La x hx with z|z
   ·exact fV _ _ _ (.inl (aaU z))
   ·have:=W.cellsFrom_some (x:=x) scope.names (s.heap.objs.size+1) [] (.inl z)
    rw[show cellsFrom (s.heap.objs.size+1) scope.names []=mU scope s.heap.objs.size from rfl,q]at this
    cases this
 ·have e:(yL X scope s.heap.objs.size).lookup x=some c:=e
  rw[gS]at e
  cases q:(mU scope s.heap.objs.size).lookup x with
  |some d=>rw[q]at e;cases e;exact Nat.le_of_lt (ck.empty _ _ (aaU q)).2
  |none =>
   have z:((mU scope s.heap.objs.size).lookup x != none)=true:=z
   rw[q]at z;cases z
 ·obtain⟨f0,f1,f2,f3,f4,f5⟩:=hf b hb
  refine⟨aaS (hfl b hb),λx c e=>?_⟩
  rcases inv x c e with ⟨m1,l1,_⟩|⟨o1,_⟩
  ·exact abG (Nat.lt_trans (hfl b hb) l1)
  ·exact f4 x c o1
 ·exact I.bs b o e
 ·exact aaz I.ok.E6 I.sz
 ·obtain⟨f0,f1,f2,f3,f4,f5⟩:=hf b hb
  rcases f3 with z|z
  ·exact I.ok.DU b o e z
  ·exact absurd (aaF (aaw e) (aaz I.ok.E6 z)) (abK _)
 ·obtain⟨f0,f1,f2,f3,f4,f5⟩:=hf b hb
  rcases aas.mp (I.ow b z) with q|q
  ·exact f1 q
  ·exact f2 q
 ·
  have hi:¬i<nv:=λhlt=>by
   unfold gQ at e2
   rw[List.getElem?_append_left (by simpa using hlt),List.getElem?_replicate,aal hlt]at e2
   cases e2
  obtain⟨k,rfl⟩:∃k,i=nv+k:=⟨i-nv,by omega⟩
  unfold gQ at e2
  rw[List.getElem?_append_right (by simp),abg,Nat.add_sub_cancel_left,aaT]at e2
  cases hj:js[k]? with
  |none=>rw[hj]at e2;cases e2
  |some j =>
   rw[hj,aa4]at e2
   have D9:(σ[j]?).getD none=some v:=aaA e2
   have hσ:σ[j]?=some (some v):=by
    cases q:σ[j]? with
    |none=>rw[q]at D9;cases D9
    |some z=>rw[q]at D9;exact congrArg some D9
   have hd:(N.drop nv)[k]?=some x:=by rw[List.getElem?_drop];exact e1
   have hX:X.N[j]?=some x:=by
    have q:=congrArg (λl=>l[k]?) S.pl
    simp only[aaT,hj,hd,aa4]at q
    exact aaA q
   have hfx:=S.fr x (aar hd)
   have kx:=(S.free _ (aaU hfx) rfl).2
   obtain⟨m,_,hl⟩:=I.loc
   obtain⟨u,r,l⟩:=hl j x v hX hσ (.inr kx)
   refine⟨u,r,?_⟩
   rcases l with ⟨k1,_⟩|⟨_,c,hc,hcell⟩
   ·exfalso
    have Q6:X.env.scope.names.lookup x=some .local:=k1
    rcases kx with z|z<;>(rw[Q6]at z;cases z)
   ·obtain⟨c',hc'⟩:=fV (env:=X.env) scope.names [] x (.inl (aaU hfx))
    have e:=sub _ _ hc'
    rw[hc]at e;cases e
    have hno:(mU scope s.heap.objs.size).lookup x=none:=by
     cases q:(mU scope s.heap.objs.size).lookup x with
     |none=>rfl
     |some d =>
      rcases iU _ _ _ (aaU q) with z|z
      ·have:=S.cell _ z rfl
       rw[hfx]at this;cases this
      ·cases z
    refine .inr ⟨?_,c,?_,hcell.keeps keep⟩
    rotate_left
    ·show(yL X scope s.heap.objs.size).lookup x=some c
     rw[gS,hno];exact hc'
    have e:=bZ (env:=X.env) x scope.names
    have e':(relabel scope X.env).names.lookup x=_:=e
    rw[hfx,aa4]at e'
    show(relabel scope X.env).names.lookup x=some .cell\/(relabel scope X.env).names.lookup x=some .free
    rw[e']
    split
    ·exact .inl rfl
    ·exact .inr rfl
 ·rcases inv x c e with ⟨_,_,q⟩|⟨o1,_⟩
  ·exact⟨none,q⟩
  ·obtain⟨v,q⟩:=I.cell x c o1
   exact⟨v,q.keeps keep⟩
 ·rcases inv x c e with ⟨_,q,_⟩|⟨o1,_⟩
  ·exact I.hok.fresh (Nat.le_of_lt q)
  ·exact I.iA x c o1
 ·unfold gQ
  show _=N.length
  rw[aaJ,abg,aaj,S.len]
end
section
variable{X:Cx}{elt tg iter:Expr}{ifs:List Expr}{scope:Scope}{pos:Pos}{N:List Str}{nv:Nat}{js:List Nat}{wi:TI}{g:TG}{tt:TT}{te:TE}
theorem Aw{pins:List 'f'}{σ:St}{H:Hp}{s:Shared}{Q:VK}{it:Addr}{fp:List Addr}{tn:Nat->Heap->Prop}{J:It}{E:Value->Shared->Prop}{RR:Value->Addr->Result->Shared->Prop}(hc:X.calm=true)(S:gR X.N X.env.scope N nv js scope)(hg:∀C s H fp,PG (iC X N scope C s H fp) tg g)(ht:∀C s H fp,yC (iC X N scope C s H fp) ifs tt)(he:∀C s H fp,PE (iC X N scope C s H fp) elt te)(I:Inv X pins σ H s)(T:Turn X.prog X.w X.K tg J fp it tn)(st:tn 0 s.heap)(hf:∀b∈fp,jv X pins H b)(hR:∀D,H D=none->uP J g tt te Q D (gQ nv js σ) H)(hRR:∀D C H' s' m,Inv X pins σ H' s'->jv X pins H' C->s'.heap.Ns C m->Q (.ref D) H'->RR (.ref D) C (.ok .next) s'):wpAny 'd' X.A (newList []) (λacc s₃=>wpAny 'd' X.A (newFunctionEnv scope X.env.globals (cS X.env scope.names []) [] X.env.qual none .none (some X.env)) (λcenv s₄ =>
   codeAny 'd' X.A (.compStart (.ListComp elt [⟨tg,iter,ifs,0⟩] scope pos) 0 (.ref it) acc {cenv with scope:=relabel scope X.env}) (RR acc cenv.locals) s₄) E s₃) E s:=by
 refine wpAny_newObj_type (IM λh₁ Dp uS GV=>?_)
 have I3:Inv X pins σ (upd H s.heap.objs.size (.lst [])) {s with heap:=s.heap.push {cls:=.type "list",data:=.seq ([]:List Value).toArray}}:=I.K6 (t':=s.toks) (its:=[]) .nil (aaZ _)
 have hD:=I.fresh
 obtain⟨W,⟨m0,w0⟩,turn⟩:=hR s.heap.objs.size hD
 have ho:=T.obj 0 s.heap st
 have Ga:∀b∈fp,b<s.heap.objs.size:=λb hb=>let ⟨o,e,_⟩:=ho b hb;aaw e
 have BV:∀b∈fp,jv X pins (upd H s.heap.objs.size (.lst [])) b:=λb hb=>⟨by rw[aB (aaS (Ga b hb))];exact(hf b hb).1,(hf b hb).2⟩
 generalize NN:({s with heap:=s.heap.push {cls:=.type "list",data:=.seq ([]:List Value).toArray}}:Shared)=s3 at I3 uS Dp GV
 have e3:s3.heap=s.heap.push {cls:=.type "list",data:=.seq ([]:List Value).toArray}:=by rw[←NN]
 have hfl:∀b∈fp,b<s3.heap.objs.size:=λb hb=>by rw[e3,aa3];exact Nat.lt_succ_of_lt (Ga b hb)
 have keep:=Dp
 have J0:=Av (tk:=s3.toks) I3 S BV hfl keep uS GV
 have st1:tn 0 h₁:=T.keep 0 s.heap h₁ st λb hb o e=>keep b o (by rw[e3];exact aap _ e)
 generalize XZ:upd H s.heap.objs.size (.lst [])=H3 at *
 generalize hY:iC X N scope s3.heap.objs.size s3 H3 fp=Y at *
 have inv:∀x c,(yL X scope s3.heap.objs.size).lookup x=some c->((x,c)∈mU scope s3.heap.objs.size/\s3.heap.objs.size<c/\h₁.IsCell c none)\/(X.env.cells.lookup x=some c/\(cS X.env scope.names []).lookup x=some c):=λx c e=>Ke (λn hn=>I.ok.has n (S.free _ hn rfl).2) GV e
 have uL:∀{H':Hp},(∀b∈fp,H' b=none)->∀b∈fp,jv Y [] H' b:=λ{H'} hn b hb=>by
  subst hY
  obtain⟨f0,f1,f2,f3,f4,f5⟩:=BV b hb
  refine⟨hn b hb,aaS (hfl b hb),λz=>?_,.inl hb,λx c e=>?_,λp hp=>absurd (show p∈([]:List 'f') from hp) (by simp)⟩
  ·rcases aas.mp (I3.ow b z) with q|q
   ·exact f1 q
   ·exact f2 q
  ·rcases inv x c e with ⟨_,q,_⟩|⟨o1,_⟩
   ·exact abG (Nat.lt_trans (hfl b hb) q)
   ·exact f4 x c o1
 have eA:Y.A=X.A:=by subst hY;rfl
 have eP:Y.prog=X.prog:=by subst hY;rfl
 have eW:Y.w=X.w:=by subst hY;rfl
 have eK:Y.K=X.K:=by subst hY;rfl
 have eC:Y.calm=true:=by subst hY;exact hc
 have eE:Y.env=compEnvC scope (yL X scope s3.heap.objs.size) s3.heap.objs.size X.env:=by subst hY;rfl
 have Iq:Y.xe=λ_ _=>False:=by subst hY;rfl
 have Q7:PG Y tg g:=by subst hY;exact hg _ _ _ _
 have Q8:yC Y ifs tt:=by subst hY;exact ht _ _ _ _
 have Q9:PE Y elt te:=by subst hY;exact he _ _ _ _
 have loop:codeAny 'd' X.A (.compLoop (.ListComp elt [⟨tg,iter,ifs,0⟩] scope pos) 0 (.ref it) (.ref s.heap.objs.size) (compEnvC scope (yL X scope s3.heap.objs.size) s3.heap.objs.size X.env))
   (RR (.ref s.heap.objs.size) s3.heap.objs.size) {s3 with heap:=h₁,toks:=s3.toks}:=by
  refine uQ (λn s'=>∃i ys τ H',Inv Y [] τ H' s'/\tn i s'.heap/\(∀b∈fp,H' b=none)/\W i n ys τ H') ?_ m0 ⟨0,[],_,H3,J0,st1,λb hb=>(BV b hb).1,w0⟩
  rintro n s4 ⟨i,ys,τ,H4,I4,NO,NP,w4⟩
  obtain⟨X0,tr⟩:=turn i n ys τ H4 w4
  rcases tr with ⟨stop,qn⟩|⟨go,Nn,NQ,step⟩
  ·have d:=T.done Y eP eW eK eC i [] s4 τ H4 (λ_ _=>False) I4 (uL NP) NO stop
   rw[eA]at d
   refine cC d λr s5 ⟨hr,I5⟩=>?_
   subst hr
   have u:Inv X pins σ H4 s5:=by
    subst hY
    exact I3.C7 (ch:=fp) I5.os I5.base I5.hok I5.bare λb hb=>⟨(BV b hb).2.2.2.1,(BV b hb).2.1,(BV b hb).2.2.2.2.1,(BV b hb).2.2.2.2.2⟩
   have hC:H4 s3.heap.objs.size=none:=by have z:=I5.free;rw[eE]at z;exact z
   obtain⟨m,hn,_⟩:=I5.loc
   rw[eE]at hn
   exact hRR _ _ H4 s5 m u (I3.uK (aao _) hC) hn qn
  ·have d:=T.item Y eP eW eK eC i [] s4 τ H4 (λ_ _=>False) I4 (uL NP) NO go
   rw[eA]at d
   refine cC d λr s5 ⟨u,hr,h5⟩=>?_
   subst hr
   refine cC h5 λ_ s6 ⟨x,H6,I6,r6,y6,Lc,Ra⟩=>?_
   have Rb:=I6.pinned (uL Ra) (T.obj _ _ Lc)
   have q6:=Q7 _ s6 τ H6 x u _ Rb r6 (step x H6 y6)
   rw[eP,eW,eA,eE,Iq]at q6
   refine cC q6 λ_ s7 ⟨σ7,H7,I7,q7⟩=>?_
   have q8:=Q8 _ s7 σ7 H7 _ I7 q7
   rw[eP,eW,eA,eE,Iq]at q8
   refine cC q8 λok s8 ⟨H8,I8,q8⟩=>?_
   have again:∀{σ9:St}{H9:Hp}{s9:Shared}{zs:List V},Inv Y ([]++qL fp s6.heap) σ9 H9 s9->(∃m',m'<n/\W (i+1) m' zs σ9 H9)->∃m,m<n/\∃i ys τ H',Inv Y [] τ H' s9/\tn i s9.heap/\(∀b∈fp,H' b=none)/\W i m ys τ H':=λ{σ9 H9 s9 zs} I9 n9=>by
    obtain⟨m',hm,w9⟩:=n9
    refine⟨m',hm,i+1,zs,σ9,H9,I9.kU,T.keep _ _ _ Lc λb hb o e=>(I9.pin (b,o) (aaP _ (aaP _ (fD hb e)))).1,λb hb=>?_,w9⟩
    obtain⟨o,e,d⟩:=T.obj _ _ Lc b hb
    exact(I9.pin (b,o) (aaP _ (aaP _ (fD hb e)))).2.1
   cases ok with
   |false =>
    rw[aah aaC]
    rw[aah aaC]at q8
    exact again I8 (NQ _ _ _ q8)
   |true =>
    rw[aal rfl]
    rw[aal rfl]at q8
    have q9:=Q9 _ s8 σ7 H8 _ I8 q8
    rw[eP,eW,eA,eE,Iq]at q9
    refine cC q9 λy s9 ⟨yv,H9,I9,r9,Rc,Rf,q9⟩=>?_
    have ap:=bu (X:=Y) _ s9 σ7 H9 (.ref s.heap.objs.size) [yv] (.ref s.heap.objs.size) [y] (λ_ NR=>Nn (ys++[yv]) σ7 NR) I9 rfl (.cons r9 .nil) ⟨_,ys,yv,rfl,rfl,Rc,Rf,q9⟩
    rw[eP,eW,eA,Iq]at ap
    exact cC ap λ_ Ir ⟨_,NR,Rg,_,Rh⟩=>again Rg (NQ _ _ _ Rh)
 subst NN
 exact codeAny_compStart_list loop (T.self _ 0 _ _ _ st1 loop)
theorem GW{i:Nat}{x:Str}{pos' spos:Pos}(hc:X.calm=true)(hN:X.N.Nodup)(hi':X.N[i]?=some x)(hx:X.env.scope.names.lookup x=some .local)(S:gR X.N X.env.scope N nv js scope)(hi:PI X tg iter wi)(hg:∀C s H fp,PG (iC X N scope C s H fp) tg g)(ht:∀C s H fp,yC (iC X N scope C s H fp) ifs tt)(he:∀C s H fp,PE (iC X N scope C s H fp) elt te)(hsw:swapsWith (.ListComp elt [⟨tg,iter,ifs,0⟩] scope pos) (some (.Name x pos')) spos.line X.env=pure true:=by rfl)(hs:∀x,foldedSetIterable iter X.env x=pure x:=by intro _;rfl):PS X (.Assign [.Name x pos'] (.ListComp elt [⟨tg,iter,ifs,0⟩] scope pos) spos) (Fo (FY wi g tt te nv js) (bU i)):=by
 intro pins s σ H D I h
 rw[exec_Assign_Name_used _ _ _ _ hsw]
 refine aai (wpAny_standAt (aai ?_))
 show wpAny _ X.A (do let _ ←comprehension (.ListComp elt [⟨tg,iter,ifs,0⟩] scope pos) scope X.env _ (newList []) false (eval iter X.env) (some (assign (.Name x pos') X.env))) _ _ s
 refine aai (abk (wpAny_comprehension_free (use:=some (assign (.Name x pos') X.env)) (Q:=λ_ s'=>SP X pins D .next s') rfl hs (iQ λn hn=>I.ok.has n (S.free _ hn rfl).2) S.kind S.loc
  (cC (hi pins s σ H _ I h) λv s1 h1=>cC h1 λitv s2 h2=>?_)) (λ_ s' hq=>aaB (aaB hq)) λ_ _ e=>e)
 obtain⟨it,fp,tn,J,H2,e,I2,T,st2,f2,hR⟩:=h2
 subst e
 refine Aw (RR:=λacc C=>compPost 'd' X.A X.xe (some (assign (.Name x pos') X.env)) (λ_ s'=>SP X pins D .next s') acc C) hc S hg ht he I2 T st2 f2 hR ?_
 intro Dl C H' s' m I' fC hn q
 show wpAny _ X.A (assign (.Name x pos') X.env (.ref Dl)) _ _ _
 refine wpAny_assign_Name (qK I' hN hi' (.inl hx) (v:=.ref Dl) rfl (λs2 I3 ch=>?_) (.inr hx))
 obtain⟨a,sb,ha⟩:=ch
 have Ri:C≠a:=by
  rcases ha with rfl|ha
  ·exact fC.2.1
  ·exact(fC.2.2.2.2.1 x a ha).symm
 refine⟨m,hn.sameBut sb Ri,λh' sb'=>⟨_,H',?_,q⟩⟩
 exact I3.turned (t':=s2.toks) (λb o hb e=>(sb'.2 b hb).trans e) fC.1 fC.2.1 fC.2.2.2.1 fC.2.2.2.2.1 fC.2.2.2.2.2
end
theorem RM{XN:List Str}{D8:Scope}{N:List Str}{nv:Nat}{js:List Nat}{scope:Scope}(kind:scope.kind=.function:=by rfl)(cell:∀y∈scope.names,y.2=.cell->scope.names.lookup y.1=some .cell:=by decide +kernel)(loc:∀y∈scope.names,y.2=.local->scope.names.lookup y.1=some .local:=by decide +kernel)(free:∀y∈scope.names,y.2=.free->scope.names.lookup y.1=some .free/\(D8.names.lookup y.1=some .cell\/D8.names.lookup y.1=some .free):=by decide +kernel)(nd:N.Nodup:=by decide +kernel)(len:N.length=nv+js.length:=by rfl)(pl:js.map (λj=>XN[j]?)=(N.drop nv).map some:=by rfl)(fr:∀x∈N.drop nv,scope.names.lookup x=some .free:=by decide +kernel):gR XN D8 N nv js scope:=⟨kind,cell,loc,free,nd,len,pl,fr⟩
theorem N9{x:Str}:[x].Nodup:=.cons (λy hy=>nomatch hy) .nil
section
variable{X:Cx}
theorem d8(i:Nat){x:Str}{pos:Pos}(hN:X.N.Nodup)(hi:X.N[i]?=some x:=by rfl)(hx:Loc X.env.scope x:=by first|exact .inl rfl|exact .inr rfl)(hf:X.fn x=true\/X.env.scope.names.lookup x=some .local:=by first|exact .inl rfl|exact .inr rfl|assumption):PG X (.Name x pos) (bU i):=HW hN hi hx hf
theorem di(i:Nat){x:Str}{e:Expr}{te:TE}{pos pos':Pos}(hN:X.N.Nodup)(he:PE X e te)(hi:X.N[i]?=some x:=by rfl)(hx:Loc X.env.scope x:=by first|exact .inl rfl|exact .inr rfl)(hs:swapsWith e (some (.Name x pos')) pos.line X.env=pure false:=by rfl)(hf:X.fn x=true\/X.env.scope.names.lookup x=some .local:=by first|exact .inl rfl|exact .inr rfl|assumption):PS X (.Assign [.Name x pos'] e pos) (Fo te (bU i)):=KL hN hi hx he hs hf
theorem yM{XN:List Str}{D8:Scope}{N:List Str}{nv:Nat}{js:List Nat}{scope:Scope}(kind:scope.kind=.function:=by rfl)(cell:∀y∈scope.names,y.2≠.cell:=by decide +kernel)(loc:∀y∈scope.names,y.2=.local->scope.names.lookup y.1=some .local:=by decide +kernel)(free:∀y∈scope.names,y.2=.free->(D8.names.lookup y.1=some .cell\/D8.names.lookup y.1=some .free):=by decide +kernel)(nd:N.Nodup:=by decide +kernel)(len:N.length=nv+js.length:=by rfl)(pl:js.map (λj=>XN[j]?)=(N.drop nv).map some:=by rfl)(fr:∀x∈N.drop nv,scope.names.lookup x=some .free:=by decide +kernel):aR XN D8 N nv js scope:=⟨kind,cell,loc,free,nd,len,pl,fr⟩
theorem gA{id:String}{r:List V->Hp->VK->Prop}{x:Str}{e:Expr}{es:List Expr}{t:TA}{p pos:Pos}(hc:dw X (.builtin id) r)(hm:X.mg x=none)(ha:PA X (e::es) t)(hg:Gl X x:=by rfl)(hv:bootBuiltins x=some (.builtin id):=by decide +kernel)(hn:x ≠ "__name__":=by decide)(hdb:(x==("__debug__":Str))=false:=by decide)(he:starEach (e::es) X.env=(false,eval e X.env)::starEach es X.env:=by rfl)(hpl:(backTo pos (starEach es X.env)).any (·.1)=false:=by rfl):PE X (.Call (.Name x p) (e::es) [] pos) (P7 r t):=FI hc hg hm hv ha hn hdb he hpl
theorem LC{T:String}{r:List V->Hp->VK->Prop}{x:Str}{e:Expr}{es:List Expr}{t:TA}{p pos:Pos}(hc:dw X (.type T) r)(hm:X.mg x=none)(ha:PA X (e::es) t)(hg:Gl X x:=by rfl)(hv:bootBuiltins x=some (.type T):=by decide +kernel)(hn:x ≠ "__name__":=by decide)(hdb:(x==("__debug__":Str))=false:=by decide)(he:starEach (e::es) X.env=(false,eval e X.env)::starEach es X.env:=by rfl)(hpl:(backTo pos (starEach es X.env)).any (·.1)=false:=by rfl):PE X (.Call (.Name x p) (e::es) [] pos) (P7 r t):=D5 hc hg hm hv ha hn hdb he hpl
theorem GX(n:String){x:Str}{pos:Pos}(hm:X.mg x=none)(hg:Gl X x:=by rfl)(hv:bootBuiltins x=some (.type n):=by decide +kernel)(hn:x ≠ "__name__":=by decide)(hd:(x==("__debug__":Str))=false:=by decide):PE X (.Name x pos) (tC (.ty n)):=Ld n hg hm hv hn hd
theorem eU{k kk:Nat}{f:Addr}{fd:FuncData}{ps:List Str}{sp:Sp}{x:Str}{e:Expr}{es:List Expr}{t:TA}{p pos:Pos}(F:aW X.prog X.w X.K X.mg X.base dW k f fd ps sp)(hr:cM kk X.A)(hm:X.mg x=some (.ref f))(hk:W.keepIn X.K (.ref f)=true)(hb:Binds X.K fd ps [])(ha:PA X (e::es) t)(hkk:k<=kk:=by decide)(hg:Gl X x:=by rfl)(hdb:(x==("__debug__":Str))=false:=by decide)(he:starEach (e::es) X.env=(false,eval e X.env)::starEach es X.env:=by rfl)(hpl:(backTo pos (starEach es X.env)).any (·.1)=false:=by rfl):PE X (.Call (.Name x p) (e::es) [] pos) (FF sp [] E0 t):=pA F (hr.mono hkk) hg hm hk hb .nil xR ha hdb he hpl
theorem jt(K:W.Frag){a b:Expr}{ta tb:TE}{pos:Pos}(ha:PE X a ta)(hb:PE X b tb)(hs:yq b:=by exact λ_ _=>rfl)(h:X.K=K:=by rfl):PE X (.Subscript a b pos) (HK (KY K) ta tb):=xO (Iv K h) ha hb hs
theorem fN(K:W.Frag){a b:Expr}{ta tb:TE}{pos:Pos}(ha:PE X a ta)(hb:PE X b tb)(hs:yq b:=by exact λ_ _=>rfl)(h:X.K=K:=by rfl):PE X (.Subscript a b pos) (HK (KW K) ta tb):=xO (Ge K h) ha hb hs
theorem bX{op:CmpOp}{r:R2}{a b:Expr}{ta tb:TE}{pos:Pos}(ho:mG X (compareOp op) r)(ha:PE X a ta)(hb:PE X b tb)(h:op≠.In:=by decide)(h2:op≠.NotIn:=by decide):PT X (.Compare a [op] [b] pos) (JW (HK r ta tb)):=cz ho ha hb (Fx b h h2)
theorem Es{op:CmpOp}{r:R2}{a b:Expr}{ta tb:TE}{pos:Pos}(ho:mG X (compareOp op) r)(ha:PE X a ta)(hb:PE X b tb)(h:op≠.In:=by decide)(h2:op≠.NotIn:=by decide):PE X (.Compare a [op] [b] pos) (HK r ta tb):=Ie ho ha hb (Fx b h h2)
end
abbrev FO(n q:Str)(s:Stmt)(d oc:Value)(od:Option Addr)(kV dc pm:Value)(an:Option Addr)(cd ct:Value)(sl:Array (Option Value)):Option Obj:=some ⟨oc,od,.func (W.fnOf n q (cR s) (cA s) (av s) d kV dc pm an cd ct),sl⟩
abbrev FN(n q:Str)(s:Stmt)(d kV dc pm:Value)(an:Option Addr)(cd ct:Value):FuncData:=W.fnOf n q (cR s) (cA s) (av s) d kV dc pm an cd ct
abbrev RF(a:Addr):Option (Option Value):=some (some (.ref a))
theorem eB.qU{K:W.Frag}{x qual:Str}{st:Stmt}{f:Addr}{fd:FuncData}{ps:List Str}(F:eB K x qual st f fd)(hp:ps.length=1:=by rfl)(h:∀(kV doc pm:Value)(an:Option Addr)(cdv ct a0:Value),bindArgs (W.fnOf x qual (cR st) (cA st) (av st) .none kV doc pm an cdv ct) ⟨[a0],[]⟩=pure (ps.zip [a0]):=by intros;rfl):Binds K fd ps [] :=
 F.binds λkV doc pm an cdv ct us hl=>by
  rw[hp]at hl
  match us,hl with
  |[a0],_=>exact h kV doc pm an cdv ct a0
theorem eB.iV{K:W.Frag}{x qual:Str}{st:Stmt}{f:Addr}{fd:FuncData}{ps:List Str}(F:eB K x qual st f fd)(hp:ps.length=2:=by rfl)(h:∀(kV doc pm:Value)(an:Option Addr)(cdv ct a0 a1:Value),bindArgs (W.fnOf x qual (cR st) (cA st) (av st) .none kV doc pm an cdv ct) ⟨[a0,a1],[]⟩=pure (ps.zip [a0,a1]):=by intros;rfl):Binds K fd ps [] :=
 F.binds λkV doc pm an cdv ct us hl=>by
  rw[hp]at hl
  match us,hl with
  |[a0,a1],_=>exact h kV doc pm an cdv ct a0 a1
theorem eB.qV{K:W.Frag}{x qual:Str}{st:Stmt}{f:Addr}{fd:FuncData}{ps:List Str}(F:eB K x qual st f fd)(hp:ps.length=3:=by rfl)(h:∀(kV doc pm:Value)(an:Option Addr)(cdv ct a0 a1 a2:Value),bindArgs (W.fnOf x qual (cR st) (cA st) (av st) .none kV doc pm an cdv ct) ⟨[a0,a1,a2],[]⟩=pure (ps.zip [a0,a1,a2]):=by intros;rfl):Binds K fd ps [] :=
 F.binds λkV doc pm an cdv ct us hl=>by
  rw[hp]at hl
  match us,hl with
  |[a0,a1,a2],_=>exact h kV doc pm an cdv ct a0 a1 a2
theorem eB.RN{K:W.Frag}{x qual:Str}{st:Stmt}{f:Addr}{fd:FuncData}{ps:List Str}(F:eB K x qual st f fd)(hp:ps.length=4:=by rfl)(h:∀(kV doc pm:Value)(an:Option Addr)(cdv ct a0 a1 a2 a3:Value),bindArgs (W.fnOf x qual (cR st) (cA st) (av st) .none kV doc pm an cdv ct) ⟨[a0,a1,a2,a3],[]⟩=pure (ps.zip [a0,a1,a2,a3]):=by intros;rfl):Binds K fd ps [] :=
 F.binds λkV doc pm an cdv ct us hl=>by
  rw[hp]at hl
  match us,hl with
  |[a0,a1,a2,a3],_=>exact h kV doc pm an cdv ct a0 a1 a2 a3
def FE(K:W.Frag)(x q:Str)(st:Stmt)(f:Addr):Prop:=∃fd,eB K x q st f fd
structure FQ(K:W.Frag)(x:Str)(st:Stmt)(f:Addr):Prop where
 a:W.nsIn K mainGlobals x=RF f
 e:FE K x x st f
structure FV(K:W.Frag)(C:Addr)(x q:Str)(st:Stmt)(f:Addr):Prop where
 a:W.findIn K (.ref C) x=RF f
 i:W.isFn K (.ref f)=true
 e:FE K x q st f
theorem FE.of{K:W.Frag}{x q:Str}{st:Stmt}{f:Addr}{oc:Value}{od an:Option Addr}{sl:Array (Option Value)}{kV dc pm cd ct:Value}(l:K.lookup f=FO x q st .none oc od kV dc pm an cd ct sl)(c:W.codeIn K cd q=true)(k:W.keepIn K (.ref f)=true):FE K x q st f:=⟨_,FW l c k⟩
theorem FQ.of{K:W.Frag}{x:Str}{st:Stmt}{f:Addr}{oc:Value}{od an:Option Addr}{sl:Array (Option Value)}{kV dc pm cd ct:Value}(a:W.nsIn K mainGlobals x=RF f)(l:K.lookup f=FO x x st .none oc od kV dc pm an cd ct sl)(c:W.codeIn K cd x=true)(k:W.keepIn K (.ref f)=true):FQ K x st f:=⟨a,.of l c k⟩
theorem FV.of{K:W.Frag}{C:Addr}{x q:Str}{st:Stmt}{f:Addr}{oc:Value}{od an:Option Addr}{sl:Array (Option Value)}{kV dc pm cd ct:Value}(a:W.findIn K (.ref C) x=RF f)(i:W.isFn K (.ref f)=true)(l:K.lookup f=FO x q st .none oc od kV dc pm an cd ct sl)(c:W.codeIn K cd q=true)(k:W.keepIn K (.ref f)=true):FV K C x q st f:=⟨a,i,.of l c k⟩
end L2
namespace My
open PySem L2
def top(i:Nat):Stmt:=PySem.Challenge.pw_dialecthall_k85_trees_least_deep.main.body.getD i (.Pass ⟨0,0,0,0⟩)
abbrev gT:Stmt:=top 9
abbrev cU:Stmt:=top 14
abbrev bf:Stmt:=inClass (top 15) 0
abbrev gU:Stmt:=inClass (top 15) 1
abbrev jx:Stmt:=top 16
abbrev fY:Stmt:=inClass (top 24) 0
abbrev eF:Stmt:=inClass (top 5) 0
abbrev dj:Stmt:=top 10
abbrev qW:Stmt:=top 11
abbrev dX:Stmt:=top 18
abbrev fZ:Stmt:=top 19
abbrev iW:Stmt:=top 20
abbrev iX:Stmt:=top 21
abbrev f6:Stmt:=top 22
abbrev jy:Stmt:=top 23
abbrev k6:Stmt:=inClass (top 24) 1
abbrev jz:Stmt:=top 26
abbrev B8:Stmt:=top 27
abbrev u5:Stmt:=top 28
abbrev oB:Stmt:=top 29
abbrev jA:Stmt:=top 30
abbrev iY:Stmt:=top 34
abbrev ef:Stmt:=top 35
abbrev jB:Stmt:=top 36
abbrev dP:Stmt:=top 37
abbrev fO:Stmt:=top 38
abbrev mL:Stmt:=top 39
abbrev jC:Stmt:=top 40
abbrev gW:Stmt:=top 42
abbrev jD:Stmt:=top 43
abbrev iZ:Stmt:=top 44
abbrev k7:Stmt:=top 45
abbrev jE:Stmt:=top 46
abbrev k8:Stmt:=top 47
abbrev gB:Stmt:=top 48
abbrev k9:Stmt:=top 50
abbrev lg:Stmt:=top 49
abbrev i0:Stmt:=top 51
abbrev jF:Stmt:=top 52
abbrev oE:Stmt:=top 53
abbrev jG:Stmt:=top 54
abbrev i6:Stmt:=top 55
abbrev gC:Stmt:=top 56
abbrev lu:Stmt:=top 57
abbrev iD:Stmt:=top 58
abbrev gD:Stmt:=top 59
abbrev dQ:Stmt:=top 60
abbrev jH:Stmt:=top 61
abbrev kj:Stmt:=top 62
theorem aq{H:Hp}{l:Addr}{o:HO}(h:H l=none):aD H (upd H l o):=λb u e=>by rw[aB (aU e h)];exact e
theorem aG{H H2:Hp}{l:Addr}{o:HO}(h:H l=none)(s:aD H H2):aD H (upd H2 l o):=λb u e=>by rw[aB (aU e h)];exact s b u e
theorem kM{i:Nat}{x:V}{σ:St}{H:Hp}{A B:St->Hp->Prop}(h:A (σ.set i (some x)) H):bU i x σ H (λτ2 H2=>Lb τ2 H2 λb H3=>if b=true then A τ2 H3 else B τ2 H3):=by
 show(if true=true then A (σ.set i (some x)) H else B (σ.set i (some x)) H)
 exact kL h
theorem Kf{p A B:Prop}[Decidable p](hp:¬p)(h:B):if decide p=true then A else B:=by rw[aah (by simpa using hp)];exact h
theorem Dq{A B:Prop}{b:Bool}(hb:b=true)(h:B):if (!b)=true then A else B:=by rw[hb];exact bW h
theorem B9{α:Type}{xs:List α}{i:Int}(h0:0<=i)(h:i<xs.length):∃c,iB xs i=some c/\c∈xs:=by
 obtain⟨j,rfl⟩:∃j:Nat,i=j:=⟨i.toNat,by omega⟩
 have hj:j<xs.length:=by omega
 exact⟨xs[j],bL (by simp[hj]),abI hj⟩
def Pn(c:Nat):Prop:=32<=c/\c<=126/\c≠37
instance(c:Nat):Decidable (Pn c):=by unfold Pn;exact inferInstance
structure Sg(z:Str):Prop where
 nd:z.cps.toList.Nodup
 pr:∀c∈z.cps.toList,Pn c
def Mn(z:Str):Prop:=0<z.length/\z.length<=100/\∀c∈z.cps.toList,Pn c
instance(z:Str):Decidable (Mn z):=by unfold Mn;exact inferInstance
structure Gd(p q f:Str):Prop where
 gp:Sg p
 gq:Sg q
 gf:Sg f
 p1:1<=p.length
 p3:p.length<=3
 q2:q.length<=2
 f2:f.length<=2
def ng(p q f:Str)(b1 b2 b3 b4:Bool):List V:=[.str p,.str q,.str f,.bl b1,.bl b2,.bl b3,.bl b4]
def Dr(p q f:Str)(b1 b2 b3 b4:Bool):List (Str×V):=[("parts",.str p),("quotes",.str q),("frees",.str f),("twin",.bl b1),("wide",.bl b2),("thin",.bl b3),("stray",.bl b4)]
def away(t:Str)(c:Nat):Bool:=!(!(Builtin.Str.occurrences t (sg c) 0 t.length 1).isEmpty)
theorem Ax(t:Str)(c:Nat):away t c=true↔c∉t.cps.toList:=by
 unfold away
 have e:(!(Builtin.Str.occurrences t (sg c) 0 t.length 1).isEmpty)=decide (c∈t.cps.toList):=StrLaws.found_one t c
 rw[e]
 simp
theorem LD{z:Str}{c:Nat}(h:Sg z)(hc:Pn c)(ha:away z c=true):Sg (z++sg c):=by
 have e:(z++sg c).cps.toList=z.cps.toList++[c]:=by
  show(z.cps ++ #[c]).toList=_
  simp
 have hn:=(Ax z c).mp ha
 refine⟨?_,?_⟩
 ·rw[e,abl]
  refine⟨h.nd,by simp,λa ha b hb=>?_⟩
  rw[aan.mp hb]
  intro q;exact hn (q▸ha)
 ·rw[e]
  intro d hd
  rcases aaH.mp hd with z'|z'
  ·exact h.pr d z'
  ·rw[aan.mp z'];exact hc
theorem LF:Sg ("":Str):=by
 have e:("":Str).cps.toList=[]:=by decide +kernel
 refine⟨?_,?_⟩
 ·rw[e];exact abF
 ·rw[e];intro c hc;cases hc
theorem jI(a b:Str):(a++b).length=a.length+b.length:=by
 show(a.cps++b.cps).size=_
 rw[Array.size_append];rfl
theorem dD{K:W.Frag}{H H':Hp}{a:Addr}{xs:List V}(e:aD H H')(h:bH K H a xs):bH K H' a xs:=by
 rcases h with (h|⟨o,h⟩)|h
 ·exact .inl (.inl (e _ _ h))
 ·exact .inl (.inr ⟨o,e _ _ h⟩)
 ·exact .inr h
theorem Ds{A B:Prop}{b:Bool}(hb:b=false)(h:A):if (!b)=true then A else B:=by rw[hb];exact kL h
theorem u6{A B:Prop}{b:Bool}(hb:b=true)(h:A):if b=true then A else B:=by rw[hb];exact kL h
theorem u7{A B:Prop}{b:Bool}(hb:b=false)(h:B):if b=true then A else B:=by rw[hb];exact bW h
def iz(c:Nat)(z:Str):Bool:=!(Builtin.Str.occurrences z (sg c) 0 z.length 1).isEmpty
def aZ(a b:Str):Bool:=decide (V.str a=V.str b)
theorem ly{a b:Str}(h:aZ a b=true):a=b:=by have:=aa0 h;cases this;rfl
theorem je(a:Str):aZ a a=true:=aay rfl
inductive Res where
 |go (k w u:Str)
 |qG (w:Str)
def tK(K:W.Frag)(H:Hp)(v:V):Res->Prop
 | .go k w u=>aZ k ("fault":Str)=false/\∃a b,v=.ref a/\bH K H a [.str k,.ref b]/\bH K H b [.str w,.str u]
 | .qG w=>∃a,v=.ref a/\bH K H a [.str ("fault":Str),.str w]
theorem bD{K:W.Frag}{H:Hp}{Q:VK}{k w u:Str}{r:Res}(e:r=.go k w u)(hk:aZ k ("fault":Str)=false)(h:∀v H',aD H H'->tK K H' v r->Q v H'):[V.str w,V.str u].length<=sizeLine/\∀b,H b=none->([V.str k,V.ref b].length<=sizeLine/\∀a,(upd H b (.tup [.str w,.str u])) a=none->Q (.ref a) (upd (upd H b (.tup [.str w,.str u])) a (.tup [.str k,.ref b]))):=by
 refine⟨(by show 2<=sizeLine;decide),λb hb=>⟨(by show 2<=sizeLine;decide),λa ha=>?_⟩⟩
 have s1:=aq (o:=HO.tup [.str w,.str u]) hb
 have s2:=aq (o:=HO.tup [.str k,.ref b]) ha
 refine h _ _ (s1.trans s2) ?_
 rw[e]
 exact⟨hk,a,b,O,bH.of aj,dD s2 (bH.of aj)⟩
theorem fG{K:W.Frag}{H H0:Hp}{Q:VK}{k w u:Str}{r:Res}{b:Addr}(e:r=.go k w u)(hk:aZ k ("fault":Str)=false)(s0:aD H0 H)(hb:bH K H b [.str w,.str u])(h:∀v H',aD H0 H'->tK K H' v r->Q v H'):[V.str k,V.ref b].length<=sizeLine/\∀a,H a=none->Q (.ref a) (upd H a (.tup [.str k,.ref b])):=by
 refine⟨(by show 2<=sizeLine;decide),λa ha=>?_⟩
 have s2:=aq (o:=HO.tup [.str k,.ref b]) ha
 refine h _ _ (s0.trans s2) ?_
 rw[e]
 exact⟨hk,a,b,O,bH.of aj,dD s2 hb⟩
theorem f7{K:W.Frag}{H:Hp}{Q:VK}{w:Str}{r:Res}(e:r=.qG w)(h:∀v H',aD H H'->tK K H' v r->Q v H'):[V.str ("fault":Str),V.str w].length<=sizeLine/\∀a,H a=none->Q (.ref a) (upd H a (.tup [.str ("fault":Str),.str w])):=by
 refine⟨(by show 2<=sizeLine;decide),λa ha=>?_⟩
 have s2:=aq (o:=HO.tup [.str ("fault":Str),.str w]) ha
 refine h _ _ s2 ?_
 rw[e]
 exact⟨a,O,bH.of aj⟩
theorem cG:aZ ("skip":Str) ("fault":Str)=false:=by decide +kernel
theorem oF:aZ ("end":Str) ("fault":Str)=false:=by decide +kernel
theorem jJ:aZ ("part":Str) ("fault":Str)=false:=by decide +kernel
theorem cE:aZ ("put":Str) ("fault":Str)=false:=by decide +kernel
def dF(p q f:Str)(b3:Bool)(w u:Str)(c:Nat):Res :=
 if iz c f=true then .go ("skip":Str) ("freed":Str) ("":Str) else
 if aZ (sg c) (Str.ofString "\n")=true then .go ("end":Str) ("row":Str) ("":Str) else
 if iz c q=true then .go ("skip":Str) ("within":Str) (sg c) else
 if iz c p=true then .go ("part":Str) ("cell":Str) ("":Str) else
 if aZ (sg c) (" ":Str)=true then (if b3=true then .go ("skip":Str) w u else .go ("put":Str) ("plain":Str) ("":Str)) else
 .go ("put":Str) ("plain":Str) ("":Str)
def dY(p q f:Str)(b4:Bool)(c:Nat):Res :=
 if iz c f=true then .go ("skip":Str) ("freed":Str) ("":Str) else
 if aZ (sg c) (Str.ofString "\n")=true then .go ("end":Str) ("row":Str) ("":Str) else
 if iz c p=true then .go ("part":Str) ("cell":Str) ("":Str) else
 if iz c q=true then (if (!b4)=true then .qG ("quote":Str) else .go ("put":Str) ("plain":Str) ("":Str)) else
 .go ("put":Str) ("plain":Str) ("":Str)
def cK(f:Str)(b1 b2:Bool)(u:Str)(c:Nat):Res :=
 if iz c f=true then .go ("skip":Str) ("freed":Str) u else
 if aZ (sg c) u=true then (if b1=true then .go ("skip":Str) ("doubt":Str) u else .go ("skip":Str) ("behind":Str) ("":Str)) else
 if aZ (sg c) (Str.ofString "\n")=true then (if (!b2)=true then .qG ("line":Str) else .go ("put":Str) ("within":Str) u) else
 .go ("put":Str) ("within":Str) u
def bN(p:Str)(b3:Bool)(c:Nat):Res :=
 if aZ (sg c) (Str.ofString "\n")=true then .go ("end":Str) ("row":Str) ("":Str) else
 if iz c p=true then .go ("part":Str) ("cell":Str) ("":Str) else
 if aZ (sg c) (" ":Str)=true then (if b3=true then .go ("skip":Str) ("behind":Str) ("":Str) else .qG ("behind":Str)) else
 .qG ("behind":Str)
def f9(p:Str)(b3:Bool)(u:Str)(c:Nat):Res:=if aZ (sg c) u=true then .go ("put":Str) ("within":Str) u else bN p b3 c
def eY(u:Str):Res:=if aZ u ("":Str)=true then .go ("put":Str) ("plain":Str) ("":Str) else .go ("put":Str) ("within":Str) u
def gb(b2:Bool)(u:Str)(c:Nat):Res :=
 if aZ (sg c) (Str.ofString "\n")=true then (if (!b2)=true then .qG ("line":Str) else eY u) else eY u
def eZ(p q f:Str)(b3 b4:Bool)(w u:Str)(c:Nat):Res:=if aZ w ("plain":Str)=true then dY p q f b4 c else dF p q f b3 w u c
def cg(p q f:Str)(b1 b2 b3 b4:Bool)(w u:Str)(c:Nat):Res :=
 if aZ w ("within":Str)=true then cK f b1 b2 u c else
 if aZ w ("freed":Str)=true then gb b2 u c else
 if aZ w ("doubt":Str)=true then f9 p b3 u c else
 if aZ w ("behind":Str)=true then bN p b3 c else
 eZ p q f b3 b4 w u c
theorem ns{a b:String}(h:aZ (Str.ofString a) (Str.ofString b)=false):¬aZ (Str.ofString a) (Str.ofString b)=true:=by rw[h];decide
theorem GY{p q f:Str}{b1 b2 b3 b4:Bool}{w u:Str}{c:Nat}(h:aZ w ("plain":Str)=true):cg p q f b1 b2 b3 b4 w u c=dY p q f b4 c:=by
 cases ly h
 unfold cg eZ
 rw[aah (ns 'g'),aah (ns 'g'),aah (ns 'g'),aah (ns 'g'),aal (je _)]
theorem fH{p q f:Str}{b1 b2 b3 b4:Bool}{w u:Str}{c:Nat}(h:aZ w ("within":Str)=true):cg p q f b1 b2 b3 b4 w u c=cK f b1 b2 u c:=by
 unfold cg
 rw[aal h]
theorem gY{p q f:Str}{b1 b2 b3 b4:Bool}{w u:Str}{c:Nat}(h:aZ w ("doubt":Str)=true):cg p q f b1 b2 b3 b4 w u c=f9 p b3 u c:=by
 cases ly h
 unfold cg
 rw[aah (ns 'g'),aah (ns 'g'),aal (je _)]
theorem gG{p q f:Str}{b1 b2 b3 b4:Bool}{w u:Str}{c:Nat}(h:aZ w ("behind":Str)=true):cg p q f b1 b2 b3 b4 w u c=bN p b3 c:=by
 cases ly h
 unfold cg
 rw[aah (ns 'g'),aah (ns 'g'),aah (ns 'g'),aal (je _)]
theorem pH{p q f:Str}{b1 b2 b3 b4:Bool}{w u:Str}{c:Nat}(h:aZ w ("freed":Str)=true):cg p q f b1 b2 b3 b4 w u c=gb b2 u c:=by
 cases ly h
 unfold cg
 rw[aah (ns 'g'),aal (je _)]
theorem Dt{p q f:Str}{b1 b2 b3 b4:Bool}{w u:Str}{c:Nat}(h1:aZ w ("within":Str)=false)(h2:aZ w ("freed":Str)=false)(h3:aZ w ("doubt":Str)=false)(h4:aZ w ("behind":Str)=false):cg p q f b1 b2 b3 b4 w u c=eZ p q f b3 b4 w u c:=by
 unfold cg
 rw[h1,h2,h3,h4]
 rfl
theorem fB{b:Bool}(h:¬b=true):b=false:=by cases b<;>simp_all
def Ym(d:Addr):List (Str×V):=[("dialect",.ref d)]
structure Tn(C CT:Addr)(H:Hp)(y:Addr)(p q f:Str)(b1 b2 b3 b4:Bool):Prop where
 ok:∃dy d dd,H y=some (.ins CT dy (Ym d))/\H d=some (.ins C dd (Dr p q f b1 b2 b3 b4))
theorem Tn.mono{C CT:Addr}{H H':Hp}{y:Addr}{p q f:Str}{b1 b2 b3 b4:Bool}(s:aD H H')(h:Tn C CT H y p q f b1 b2 b3 b4):Tn C CT H' y p q f b1 b2 b3 b4:=by
 obtain⟨dy,d,dd,e1,e2⟩:=h.ok
 exact⟨dy,d,dd,s _ _ e1,s _ _ e2⟩
theorem Et{H H':Hp}{y dy:Addr}{o:HO}(hy:H y=none)(MX:H dy=none)(kp:∀b o',upd (upd H dy (.own y)) y o b=some o'->b≠y->H' b=some o'):aD H H':=λb o' e=>kp b o' (by rw[aB (aU e hy),aB (aU e MX)];exact e) (aU e hy)
theorem GZ{H:Hp}{y dy b:Addr}{o o':HO}(hy:H y=none)(MX:H dy=none)(e:H b=some o'):upd (upd H dy (.own y)) y o b=some o':=by rw[aB (aU e hy),aB (aU e MX)];exact e
theorem bg{α β:Type}{F G:α->β->Prop}(h:∀a b,F a b->G a b):∀{xs:List α}{ys:List β},Paired F xs ys->Paired G xs ys
 |_,_,.nil=>.nil
 |_,_,.cons q r=>.cons (h _ _ q) (bg h r)
theorem bA{α β:Type}{F:α->β->Prop}:∀{xs xs':List α}{ys ys':List β},Paired F xs ys->Paired F xs' ys'->Paired F (xs++xs') (ys++ys')
 |_,_,_,_,.nil,r=>r
 |_,_,_,_,.cons q t,r=>.cons q (bA t r)
theorem aE{α β:Type}{F:α->β->Prop}:∀{xs:List α}{ys:List β},Paired F xs ys->∀(j:Nat) x,xs[j]?=some x->∃y,ys[j]?=some y/\F x y
 |_,_,.nil,j,x,h=>by simp at h
 |_,_,.cons q t,0,x,h=>by simp at h;subst h;exact⟨_,rfl,q⟩
 |_,_,.cons q t,j+1,x,h=>by
  obtain⟨y,h1,h2⟩:=aE t j x (by simpa using h)
  exact⟨y,by simpa using h1,h2⟩
def c5:List (Str×Str):=[(Str.ofString "row",("":Str)),(Str.ofString "cell",("":Str)),(Str.ofString "plain",("":Str)),(Str.ofString "behind",("":Str)),(Str.ofString "freed",("":Str))]
def c3(c:Nat):List (Str×Str):=[(Str.ofString "within",sg c),(Str.ofString "doubt",sg c),(Str.ofString "freed",sg c)]
def cont(l:List Nat):List (Str×Str):=c5++l.flatMap c3
def Qj(u f:Str):Bool:=!(!(Builtin.Str.occurrences f u 0 f.length 1).isEmpty)
def sA(w u:Str):Bool:=BW [.str w,.str u] [.str ("row":Str),.str ("":Str)]
theorem IP(c:Nat)(z:Str):iz c z=decide (c∈z.cps.toList):=StrLaws.found_one z c
theorem LG{c:Nat}{z:Str}(h:c∉z.cps.toList):¬iz c z=true:=by rw[IP];simpa using h
theorem Wm{z:Str}(g:Sg z):¬iz 10 z=true:=LG λh=>by have:=(g.pr 10 h).1;omega
theorem Yn:Str.ofString "\n"=sg 10:=by decide +kernel
theorem la:Str.ofString "a"=sg 97:=by decide +kernel
theorem app_list(a b:Str):(a++b).cps.toList=a.cps.toList++b.cps.toList:=by
 show(a.cps++b.cps).toList=_
 simp
theorem yN{K:W.Frag}{H:Hp}{a l:Addr}{xs ys:List V}{o:HO}(hl:H l=some (.lst ys))(e2:bH K H a xs):bH K (upd H l o) a xs:=by
 rcases e2 with (h|⟨ob,h⟩)|h
 ·exact .inl (.inl ((aB (xG h hl (by intro z;cases z))).trans h))
 ·exact .inl (.inr ⟨ob,(aB (xG h hl (by intro z;cases z))).trans h⟩)
 ·exact .inr h
theorem aX{α:Type}{l:List α}{i:Nat}{c:α}(h:l[i]?=some c):l.take (i+1)=l.take i++[c]:=by
 rw[List.take_succ,h];rfl
def dZ(z:Str):Prop:=∀k∈z.cps.toList,k=10\/Pn k
theorem Yo{c:Nat}{z:Str}(e:z=("\n":Str))(h:¬decide (V.str (sg c)=V.str z)=true):c≠10:=λe2=>h (by
 have:Str.ofString "\n"=sg 10:=by decide +kernel
 rw[e,e2,this];exact aay rfl)
theorem dR{t u:TS}{D:Ends}{σ:St}{H:Hp}(N:St->Hp->Prop)(hu:∀σ' H',N σ' H'->u D σ' H')(ht:(∀σ' H',N σ' H'->u D σ' H')->t {D with nx:=u D} σ H):Nj t u D σ H:=ht hu
theorem Ca:("":Str).length=0:=by decide +kernel
def runM(p q f:Str)(b1 b2 b3 b4:Bool):Str->Str->List Nat->List Str×Str×Str×Option Str
 |w,u,[]=>([],w,u,none)
 |w,u,c::cs=>match cg p q f b1 b2 b3 b4 w u c with
  | .qG e=>([],w,u,some e)
  | .go k w' u'=>(k::(runM p q f b1 b2 b3 b4 w' u' cs).1,(runM p q f b1 b2 b3 b4 w' u' cs).2)
def Ay(ks:List Str)(r:List Str×Str×Str×Option Str):List Str×Str×Str×Option Str:=(ks++r.1,r.2)
theorem G0{p q f:Str}{b1 b2 b3 b4:Bool}{w u k w' u':Str}{c:Nat}{cs:List Nat}{ks:List Str}(h:cg p q f b1 b2 b3 b4 w u c=.go k w' u'):Ay ks (runM p q f b1 b2 b3 b4 w u (c::cs))=Ay (ks++[k]) (runM p q f b1 b2 b3 b4 w' u' cs):=by
 have e:runM p q f b1 b2 b3 b4 w u (c::cs)=(k::(runM p q f b1 b2 b3 b4 w' u' cs).1,(runM p q f b1 b2 b3 b4 w' u' cs).2):=by
  show(match cg p q f b1 b2 b3 b4 w u c with | .qG e=>([],w,u,some e) | .go k w' u'=>(k::(runM p q f b1 b2 b3 b4 w' u' cs).1,(runM p q f b1 b2 b3 b4 w' u' cs).2))=_
  rw[h]
 rw[e]
 unfold Ay
 rw[List.append_assoc]
 rfl
theorem Du{p q f:Str}{b1 b2 b3 b4:Bool}{w u e:Str}{c:Nat}{cs:List Nat}{ks:List Str}(h:cg p q f b1 b2 b3 b4 w u c=.qG e):Ay ks (runM p q f b1 b2 b3 b4 w u (c::cs))=(ks,w,u,some e):=by
 have e2:runM p q f b1 b2 b3 b4 w u (c::cs)=([],w,u,some e):=by
  show(match cg p q f b1 b2 b3 b4 w u c with | .qG e=>([],w,u,some e) | .go k w' u'=>(k::(runM p q f b1 b2 b3 b4 w' u' cs).1,(runM p q f b1 b2 b3 b4 w' u' cs).2))=_
  rw[h]
 rw[e2]
 unfold Ay
 rw[abr]
theorem Dv{p q f:Str}{b1 b2 b3 b4:Bool}{w u:Str}{ks:List Str}:Ay ks (runM p q f b1 b2 b3 b4 w u [])=(ks,w,u,none):=by
 show(ks++[],w,u,none)=_
 rw[abr]
def G4:Option Str->V
 |none=>.non
 |some e=>.str e
def wu(r:List Str×Str×Str×Option Str):Str:=match r.2.2.2 with
 |some e=>e
 |none=>if sA r.2.1 r.2.2.1=true then Str.ofString "" else Str.ofString "cut"
theorem Tn.but{C CT:Addr}{H:Hp}{y:Addr}{p q f:Str}{b1 b2 b3 b4:Bool}{l:Addr}{ys:List V}{o:HO}(hl:H l=some (.lst ys))(h:Tn C CT H y p q f b1 b2 b3 b4):Tn C CT (upd H l o) y p q f b1 b2 b3 b4:=by
 obtain⟨dy,d,dd,e1,e2⟩:=h.ok
 exact⟨dy,d,dd,(aB (xG e1 hl (by intro z;cases z))).trans e1,(aB (xG e2 hl (by intro z;cases z))).trans e2⟩
theorem drop_cons{l:List Nat}{i c:Nat}(h:l[i]?=some c):l.drop i=c::l.drop (i+1):=by
 obtain⟨h1,h2⟩:=aam.mp h
 rw[List.drop_eq_getElem_cons h1,h2]
def RO(ks:List Str):Nat:=(ks.map V.str).countP λz=>xP z (.str ("end":Str))
theorem qX(ks:List Str):(ks.map V.str).all dB=true:=by rw[List.all_map,aaO];intro _ _;rfl
theorem G5{p q f:Str}{b1 b2 b3 b4:Bool}{w u e:Str}{c:Nat}(h:cg p q f b1 b2 b3 b4 w u c=.qG e):e=Str.ofString "line"\/e=Str.ofString "quote"\/e=("behind":Str):=by
 have hb:∀{p:Str}{b3:Bool},bN p b3 c=.qG e->e=Str.ofString "line"\/e=Str.ofString "quote"\/e=("behind":Str):=by
  intro p b3 h
  unfold bN at h
  split at h
  ·cases h
  split at h
  ·cases h
  split at h
  ·split at h
   ·cases h
   ·cases h;exact .inr (.inr rfl)
  ·cases h;exact .inr (.inr rfl)
 unfold cg at h
 split at h
 ·unfold cK at h
  split at h
  ·cases h
  split at h
  ·split at h<;>cases h
  split at h
  ·split at h
   ·cases h;exact .inl rfl
   ·cases h
  ·cases h
 split at h
 ·unfold gb eY at h
  split at h
  ·split at h
   ·cases h;exact .inl rfl
   ·split at h<;>cases h
  ·split at h<;>cases h
 split at h
 ·unfold f9 at h
  split at h
  ·cases h
  ·exact hb h
 split at h
 ·exact hb h
 unfold eZ at h
 split at h
 ·unfold dY at h
  split at h
  ·cases h
  split at h
  ·cases h
  split at h
  ·cases h
  split at h
  ·split at h
   ·cases h;exact .inr (.inl rfl)
   ·cases h
  ·cases h
 ·unfold dF at h
  split at h
  ·cases h
  split at h
  ·cases h
  split at h
  ·cases h
  split at h
  ·cases h
  split at h
  ·split at h<;>cases h
  ·cases h
theorem Dw{p q f:Str}{b1 b2 b3 b4:Bool}{w u k w' u':Str}{c:Nat}{cs:List Nat}(h:cg p q f b1 b2 b3 b4 w u c=.go k w' u'):runM p q f b1 b2 b3 b4 w u (c::cs)=(k::(runM p q f b1 b2 b3 b4 w' u' cs).1,(runM p q f b1 b2 b3 b4 w' u' cs).2):=by
 show(match cg p q f b1 b2 b3 b4 w u c with | .qG e=>([],w,u,some e) | .go k w' u'=>(k::(runM p q f b1 b2 b3 b4 w' u' cs).1,(runM p q f b1 b2 b3 b4 w' u' cs).2))=_
 rw[h]
theorem Az{p q f:Str}{b1 b2 b3 b4:Bool}{w u e:Str}{c:Nat}{cs:List Nat}(h:cg p q f b1 b2 b3 b4 w u c=.qG e):runM p q f b1 b2 b3 b4 w u (c::cs)=([],w,u,some e):=by
 show(match cg p q f b1 b2 b3 b4 w u c with | .qG e=>([],w,u,some e) | .go k w' u'=>(k::(runM p q f b1 b2 b3 b4 w' u' cs).1,(runM p q f b1 b2 b3 b4 w' u' cs).2))=_
 rw[h]
theorem G6{p q f:Str}{b1 b2 b3 b4:Bool}{w u e:Str}{cs:List Nat}(h:(runM p q f b1 b2 b3 b4 w u cs).2.2.2=some e):e≠Str.ofString ""/\e≠Str.ofString "cut":=by
 induction cs generalizing w u with
 |nil=>cases h
 |cons c cs ih =>
  cases hs:cg p q f b1 b2 b3 b4 w u c with
  |go k w' u' =>
   rw[Dw hs]at h
   exact ih h
  |qG e2 =>
   rw[Az hs]at h
   cases h
   rcases G5 hs with rfl|rfl|rfl
   ·exact⟨λz=>absurd (congrArg (λz=>aZ z ("line":Str)) z) 'g',λz=>absurd (congrArg (λz=>aZ z ("line":Str)) z) 'g'⟩
   ·exact⟨λz=>absurd (congrArg (λz=>aZ z ("quote":Str)) z) 'g',λz=>absurd (congrArg (λz=>aZ z ("quote":Str)) z) 'g'⟩
   ·exact⟨λz=>absurd (congrArg (λz=>aZ z ("behind":Str)) z) 'g',λz=>absurd (congrArg (λz=>aZ z ("behind":Str)) z) 'g'⟩
structure B4 where
 a:Bool
 b:Bool
 c:Bool
 d:Bool
def B4.vs(b:B4):List V:=[.bl b.a,.bl b.b,.bl b.c,.bl b.d]
abbrev fW:=Str×Str×Str×B4
def jf(x:fW):List V:=ng x.1 x.2.1 x.2.2.1 x.2.2.2.a x.2.2.2.b x.2.2.2.c x.2.2.2.d
def RP(x:fW):List (Str×V):=Dr x.1 x.2.1 x.2.2.1 x.2.2.2.a x.2.2.2.b x.2.2.2.c x.2.2.2.d
theorem pI{l:List Str}{i:Nat}{e:V}(h:(l.map V.str)[i]?=some e):∃z,l[i]?=some z/\e=.str z:=by
 rw[aaT]at h
 cases hz:l[i]? with
 |none=>rw[hz]at h;cases h
 |some z=>rw[hz]at h;exact⟨z,rfl,(aaA h).symm⟩
theorem Dy{p q f:Str}{b1 b2 b3 b4:Bool}:∀{cs:List Nat}{w u:Str},(runM p q f b1 b2 b3 b4 w u cs).1.length<=cs.length
 |[],w,u=>aao _
 |c::cs,w,u=>by
  cases hs:cg p q f b1 b2 b3 b4 w u c with
  |go k w' u'=>rw[Dw hs];show _+1<=_+1;exact Nat.succ_le_succ Dy
  |qG e=>rw[Az hs];exact aaZ _
abbrev xY(x:fW):Prop:=Gd x.1 x.2.1 x.2.2.1
abbrev ko(H:Hp):List V->List fW->Prop:=Paired λe x=>∃t,e=V.ref t/\H t=some (.tup (jf x))
theorem ko.mono{H H':Hp}(s:aD H H'):∀{es:List V}{xs:List fW},ko H es xs->ko H' es xs
 |_,_,.nil=>.nil
 |_,_,.cons ⟨t,e,h⟩ r=>.cons ⟨t,e,s _ _ h⟩ (ko.mono s r)
abbrev tL(C:Addr)(H:Hp):List V->List fW->Prop:=Paired λe x=>∃y dy,e=V.ref y/\H y=some (.ins C dy (RP x))
theorem tL.mono{C:Addr}{H H':Hp}(s:aD H H'):∀{es:List V}{xs:List fW},tL C H es xs->tL C H' es xs
 |_,_,.nil=>.nil
 |_,_,.cons ⟨y,dy,e,h⟩ r=>.cons ⟨y,dy,e,s _ _ h⟩ (tL.mono s r)
theorem Oa{α:Type}{l:List α}{i:Nat}{c:α}(h:l[i]?=some c):l.drop i=c::l.drop (i+1):=by
 obtain⟨h1,h2⟩:=aam.mp h
 rw[List.drop_eq_getElem_cons h1,h2]
def runC(x:fW)(z:Str):List Str×Str×Str×Option Str:=runM x.1 x.2.1 x.2.2.1 x.2.2.2.a x.2.2.2.b x.2.2.2.c x.2.2.2.d ("row":Str) ("":Str) z.cps.toList
theorem Eu{z:Str}{lo hi:Option Int}{c:Nat}(h:c∈(Txt.slice z lo hi).cps.toList):c∈z.cps.toList:=by
 unfold Txt.slice at h
 split at h
 ·exact h
 ·have h:c∈List.filterMap (λx=>z.cps[x]?) (Builtin.Str.strSliceIndices lo hi 1 z.length):=h
  obtain⟨k,_,hk⟩:=List.mem_filterMap.mp h
  exact Array.mem_toList_iff.mpr (Array.mem_of_getElem? hk)
theorem u9{z:Str}{n:Int}(h0:0<=n):((Txt.slice z none (some n)).length:Int)<=n:=by
 have key:((Builtin.Str.strSliceIndices none (some n) 1 z.length).length:Int)<=n:=by
  unfold Builtin.Str.strSliceIndices sliceRange
  simp only[show(1:Int)>0 by decide,abx,aaj,List.length_range]
  split<;>(try split)<;>(try simp only[Int.ediv_one])<;>omega
 unfold Txt.slice
 split
 ·rename_i e
  have e2:(Builtin.Str.strSliceIndices none (some n) 1 z.length).length=z.length:=by simpa using e
  omega
 ·have:(List.filterMap (λx=>z.cps[x]?) (Builtin.Str.strSliceIndices none (some n) 1 z.length)).toArray.size<=(Builtin.Str.strSliceIndices none (some n) 1 z.length).length:=by
   rw[aak];exact List.length_filterMap_le _ _
  show(((List.filterMap (λx=>z.cps[x]?) (Builtin.Str.strSliceIndices none (some n) 1 z.length)).toArray.size:Nat):Int)<=n
  omega
theorem AA{z:Str}(g:Sg z):Sg (Txt.slice z none (some 1)):=by
 have h:=u9 (z:=z) (n:=1) 'b'
 have e:(Txt.slice z none (some 1)).cps.toList.length=(Txt.slice z none (some 1)).length:=by rw[aaE];rfl
 refine⟨?_,λc hc=>g.pr c (Eu hc)⟩
 cases q:(Txt.slice z none (some 1)).cps.toList with
 |nil=>exact abF
 |cons a l =>
  cases l with
  |nil=>simp
  |cons b l=>rw[q]at e;simp only[aaR]at e;omega
theorem Cb{z:Str}(g:Sg z):Sg (pG z):=by
 have e:(pG z).cps.toList=z.cps.toList.reverse:=by unfold pG;simp
 exact⟨by rw[e];exact List.pairwise_reverse.mpr (List.Pairwise.imp (λh=>abm h) g.nd),λc hc=>g.pr c (by rw[e]at hc;exact List.mem_reverse.mp hc)⟩
theorem yO(z:Str):(pG z).length=z.length:=by
 have e:(pG z).cps.toList=z.cps.toList.reverse:=by unfold pG;simp
 have:=congrArg List.length e
 rw[List.length_reverse,aaE,aaE]at this
 exact this
theorem vd{H:Hp}{l:Addr}{o:HO}:∀{es:List V}{xs:List fW},(V.ref l∉es)->ko H es xs->ko (upd H l o) es xs
 |_,_,_,.nil=>.nil
 |_,_,hn,.cons ⟨a,e,h⟩ r=>by
  subst e
  have:a≠l:=λq=>hn (by rw[q];exact aat ..)
  exact .cons ⟨a,rfl,(aB this).trans h⟩ (vd (λq=>hn (aaq _ q)) r)
theorem join_list(zs:List Str):(Txt.join ("":Str) zs).cps.toList=zs.flatMap (λz=>z.cps.toList):=by
 have ee:("":Str).cps.toList=[]:=by decide +kernel
 show(Builtin.Str.glued ("":Str) zs).cps.toList=_
 rw[StrLaws.glued_eq_join]
 induction zs with
 |nil=>exact ee
 |cons c cs ih =>
  cases cs with
  |nil =>
   show c.cps.toList=_
   simp
  |cons d cs =>
   show(c++("":Str)++Str.join ("":Str) (d::cs)).cps.toList=_
   rw[app_list,app_list,ee,abr,ih]
   simp[List.flatMap_cons]
theorem IQ{zs:List Str}{m:Nat}(h:∀z∈zs,z.length<=m):(zs.map (·.length)).sum+zs.length*("":Str).length<=m*zs.length:=by
 have e:("":Str).length=0:=by decide +kernel
 rw[e,Nat.mul_zero,Nat.add_zero]
 induction zs with
 |nil=>exact aaZ _
 |cons z zs ih =>
  have h1:=h z (aat ..)
  have h2:=ih λy hy=>h y (aaq _ hy)
  rw[abi,List.sum_cons,aaR,Nat.mul_succ]
  omega
theorem LH{zs:List Str}{m:Nat}(h:∀z∈zs,z.length<=m):(zs.flatMap (λz=>z.cps.toList)).length<=m*zs.length:=by
 induction zs with
 |nil=>exact aaZ _
 |cons z zs ih =>
  have h1:=h z (aat ..)
  have h2:=ih λy hy=>h y (aaq _ hy)
  rw[List.flatMap_cons,aaJ,aaR,Nat.mul_succ,aaE]
  have:z.cps.size<=m:=h1
  omega
theorem oG{K:W.Frag}{H:Hp}{n:Nat}{xs:List V}(h:xs.all dB=true):∀(j:Nat) x y,xs[j]?=some x->xs[j]?=some y->nc K H n x y:=λj x y ex ey=>by
 rw[ex]at ey;cases ey
 have:=aaO.mp h x (aar ex)
 exact .flat this this (Gh this)
theorem lA{α β:Type}{F:α->β->Prop}:∀{xs:List α}{ys:List β}(n:Nat),Paired F xs ys->Paired F (xs.take n) (ys.take n)
 |_,_,0,_=>.nil
 |_,_,_+1,.nil=>.nil
 |_,_,n+1,.cons r t=>.cons r (lA n t)
theorem IS{xs:List V}{n:Nat}(h:n<=xs.length):oz xs none (some (n:Int))=xs.take n:=by
 unfold oz
 rw[HT.uD,HT.FJ,Nat.min_eq_left h]
 rfl
theorem AB{α:Type}(f:α->V)(xs:List α)(lo hi:Option Int):∃ys:List α,oz (xs.map f) lo hi=ys.map f/\ys.length<=xs.length/\∀y∈ys,y∈xs:=by
 refine⟨(xs.drop (HT.wg (xs.map f).length 0 lo)).take (HT.wg (xs.map f).length (xs.map f).length hi-HT.wg (xs.map f).length 0 lo),?_,?_,λy hy=>List.mem_of_mem_drop (abt hy)⟩
 ·unfold oz;rw[List.map_take,List.map_drop]
 ·rw[aaL,List.length_drop];omega
theorem tL.but{C:Addr}{H:Hp}{l:Addr}{o:HO}{ws:List V}(hl:H l=some (.lst ws)):∀{es:List V}{xs:List fW},tL C H es xs->tL C (upd H l o) es xs
 |_,_,.nil=>.nil
 |_,_,.cons ⟨y,dy,e,h⟩ r=>.cons ⟨y,dy,e,(aB (xG h hl (by intro z;cases z))).trans h⟩ (tL.but hl r)
theorem ko.IT{H:Hp}{l:Addr}{o:HO}{ws:List V}(hl:H l=some (.lst ws)):∀{es:List V}{xs:List fW},ko H es xs->ko (upd H l o) es xs
 |_,_,.nil=>.nil
 |_,_,.cons ⟨y,e,h⟩ r=>.cons ⟨y,e,(aB (xG h hl (by intro z;cases z))).trans h⟩ (ko.IT hl r)
structure Kg where
 rows:List (List Str)
 row:List Str
 cell:Str
def IU(g:Kg)(c:Nat)(k:Str):Kg :=
 if aZ k ("put":Str)=true then ⟨g.rows,g.row,g.cell++sg c⟩
 else if aZ k ("part":Str)=true then ⟨g.rows,g.row++[g.cell],("":Str)⟩
 else if aZ k ("end":Str)=true then ⟨g.rows++[g.row++[g.cell]],[],("":Str)⟩
 else g
def tM:Kg->List Nat->List Str->Kg
 |g,c::cs,k::ks=>tM (IU g c k) cs ks
 |g,_,_=>g
def G7:Kg:=⟨[],[],("":Str)⟩
def Cc(z:Str)(ks:List Str):List (List Str):=(tM G7 z.cps.toList ks).rows
theorem qY:∀(g:Kg)(cs:List Nat)(ks:List Str)(i:Nat)(c:Nat)(k:Str),cs[i]?=some c->ks[i]?=some k->tM g (cs.take (i+1)) (ks.take (i+1))=IU (tM g (cs.take i) (ks.take i)) c k
 |g,[],_,i,c,k,h,_=>by simp at h
 |g,_::_,[],i,c,k,_,h=>by simp at h
 |g,d::cs,j::ks,0,c,k,h1,h2=>by cases h1;cases h2;rfl
 |g,d::cs,j::ks,i+1,c,k,h1,h2=>by
  show tM (IU g d j) (cs.take (i+1)) (ks.take (i+1))=IU (tM (IU g d j) (cs.take i) (ks.take i)) c k
  exact qY _ cs ks i c k h1 h2
theorem ve:∀(g:Kg)(cs:List Nat)(ks:List Str),tM g (cs.take (min cs.length ks.length)) (ks.take (min cs.length ks.length))=tM g cs ks
 |g,[],ks=>by simp[tM]
 |g,_::_,[]=>by simp[tM]
 |g,d::cs,j::ks=>by
  have e:min (d::cs).length (j::ks).length=min cs.length ks.length+1:=by rw[aaR,aaR];omega
  rw[e]
  exact ve (IU g d j) cs ks
abbrev iE(H0 H:Hp):List V->List (List Str)->Prop:=Paired λe r=>∃a,e=V.ref a/\H0 a=none/\H a=some (.lst (r.map V.str))
theorem iE.mono{H0 H H':Hp}(s:aD H H'):∀{es:List V}{rs:List (List Str)},iE H0 H es rs->iE H0 H' es rs
 |_,_,.nil=>.nil
 |_,_,.cons ⟨a,e,n,h⟩ r=>.cons ⟨a,e,n,s _ _ h⟩ (iE.mono s r)
theorem iE.but{H0 H:Hp}{l:Addr}{o:HO}:∀{es:List V}{rs:List (List Str)},(V.ref l∉es)->iE H0 H es rs->iE H0 (upd H l o) es rs
 |_,_,_,.nil=>.nil
 |_,_,hn,.cons ⟨a,e,n,h⟩ r=>by
  subst e
  have:a≠l:=λq=>hn (by rw[q];exact aat ..)
  exact .cons ⟨a,rfl,n,(aB this).trans h⟩ (iE.but (λq=>hn (aaq _ q)) r)
theorem iE.app{H0 H:Hp}:∀{es es':List V}{rs rs':List (List Str)},iE H0 H es rs->iE H0 H es' rs'->iE H0 H (es++es') (rs++rs')
 |_,_,_,_,.nil,h=>h
 |_,_,_,_,.cons r t,h=>.cons r (iE.app t h)
theorem iE.has{H0 H:Hp}:∀{es:List V}{rs:List (List Str)},iE H0 H es rs->∀{a:Addr},V.ref a∈es->H0 a=none/\∃ys,H a=some (.lst ys)
 |_,_,.nil,_,h=>by cases h
 |_,_,.cons ⟨b,e,n,h⟩ r,a,ha=>by
  rcases aas.mp ha with q|q
  ·subst e;cases q;exact⟨n,_,h⟩
  ·exact iE.has r q
structure RQ(H0 H:Hp)(v:V)(T:List (List Str)):Prop where
 ok:∃(l:Addr)(es:List V),v=.ref l/\H0 l=none/\H l=some (.lst es)/\V.ref l∉es/\es.Nodup/\iE H0 H es T
theorem iE.old{H0 H1 H:Hp}(s:aD H0 H1):∀{es:List V}{T:List (List Str)},iE H1 H es T->iE H0 H es T
 |_,_,.nil=>.nil
 |_,_,.cons ⟨a,e,n,h⟩ r=>.cons ⟨a,e,s.free n,h⟩ (iE.old s r)
theorem Cd{α:Type}[DecidableEq α]{r r':List α}(h:r.length=r'.length):((List.range r.length).all λj=>decide (r[j]?=r'[j]?))=decide (r=r'):=by
 rw[aa2,aaO,aa1]
 constructor
 ·intro q
  refine List.ext_getElem? λi=>?_
  by_cases hi:i<r.length
  ·exact aa0 (q i (List.mem_range.mpr hi))
  ·rw[List.getElem?_eq_none 'c',List.getElem?_eq_none 'c']
 ·rintro rfl i _
  exact aay rfl
theorem IV(z z':Str):xP (.str z) (.str z')=decide (z=z'):=by
 show(z==z')=_
 rw[aa2,beq_iff_eq,aa1]
theorem Dz{K:W.Frag}{H:Hp}{a b:Addr}{r r':List Str}(ha:H a=some (.lst (r.map V.str)))(hb:H b=some (.lst (r'.map V.str))):pF K H 1 (.ref a) (.ref b) (decide (r=r')):=by
 by_cases hne:a=b
 ·subst hne
  rw[ha]at hb
  have e:r=r':=by
   have:=HO.lst.inj (aaA hb)
   exact(List.map_inj_right (λx y h=>V.str.inj h)).mp this
  rw[aay e]
  exact .same
 by_cases hl:r.length=r'.length
 ·rw[←Cd hl]
  have e:r.length=(r.map V.str).length:=(aaj _).symm
  rw[e]
  refine pF.lst hne (aK.of ha) (aK.of hb) (by rw[aaj,aaj,hl]) λj x y ex ey=>?_
  obtain⟨z,hz,rfl⟩:=pI ex
  obtain⟨z',hz',rfl⟩:=pI ey
  have e2:decide (r[j]?=r'[j]?)=xP (.str z) (.str z'):=by
   rw[hz,hz',IV,aa2,aa1,aa1]
   exact⟨λq=>aaA q,λq=>by rw[q]⟩
  rw[e2]
  exact .flat rfl rfl
 ·rw[aax (λq=>hl (by rw[q]))]
  exact pF.len hne (aK.of ha) (aK.of hb) (by rw[aaj,aaj];exact hl)
theorem RS{g:Kg}{d:Nat}{kd:Str}{c1 c2:Str}{Ew:List Str}(h1:(aZ kd ("put":Str)=true/\c1=g.cell++sg d)\/(aZ kd ("put":Str)=false/\c1=g.cell))(h2:(aZ kd ("part":Str)=true/\Ew=g.row++[c1]/\c2=("":Str))\/(aZ kd ("part":Str)=false/\Ew=g.row/\c2=c1)):IU g d kd=if aZ kd ("end":Str)=true then ⟨g.rows++[Ew++[c2]],[],("":Str)⟩ else ⟨g.rows,Ew,c2⟩:=by
 unfold IU
 rcases h1 with ⟨p1,rfl⟩|⟨p1,rfl⟩
 ·have ek:=ly p1
  have n2:aZ kd ("part":Str)=false:=by rw[ek];decide +kernel
  have n3:¬aZ kd ("end":Str)=true:=by rw[ek];decide +kernel
  rw[aal p1,aah n3]
  rcases h2 with ⟨p2,_⟩|⟨_,rfl,rfl⟩
  ·rw[n2]at p2;cases p2
  ·rfl
 ·rw[aah (by rw[p1];decide)]
  rcases h2 with ⟨p2,rfl,rfl⟩|⟨p2,rfl,rfl⟩
  ·have ek:=ly p2
   have n3:¬aZ kd ("end":Str)=true:=by rw[ek];decide +kernel
   rw[aal p2,aah n3]
  ·rw[aah (by rw[p2];decide)]
theorem Ey{K:W.Frag}{H:Hp}{es ts:List V}{cs:List fW}(h1:ko H es cs)(h2:ko H ts cs):∀(j:Nat) x y,es[j]?=some x->ts[j]?=some y->nc K H 2 x y:=λj x y ex ey=>by
 obtain⟨r,hr,a,rfl,ha⟩:=aE h1 j x ex
 obtain⟨r',hr',b,rfl,hb⟩:=aE h2 j y ey
 rw[hr]at hr';cases hr'
 exact .tup (bH.of ha) (bH.of hb) rfl (oG rfl)
abbrev F4:=Nat×Nat×Nat×Str
theorem vf{H H1 H':Hp}{ea d:Addr}{o:HO}(s:aD H H1)(vX:H1 ea=none)(hd:(upd H1 ea o) d=none)(MY:∀b,b≠ea->b≠d->H' b=upd H1 ea o b):aD H (del H' ea):=λb u hb=>by
 have hb1:=s b u hb
 have n1:b≠ea:=λz=>by rw[z,vX]at hb1;cases hb1
 have n2:b≠d:=λz=>by rw[←z,aB n1,hb1]at hd;cases hd
 rw[uZ n1,MY b n1 n2,aB n1];exact hb1
def MY:List Nat:=("a7ZbXq9KwM":Str).cps.toList
abbrev Ob(p q f:Str)(b1 b2 b3 b4:Bool)(z:Str):=runM p q f b1 b2 b3 b4 ("row":Str) ("":Str) z.cps.toList
def DA(c:Nat):Bool:=decide (c=10\/Pn c)
def textOk(z:Str):Bool:=z.cps.toList.all DA
theorem IW{z:Str}(h:dZ z):textOk z=true:=by
 unfold textOk
 rw[aaO]
 exact λc hc=>aay (h c hc)
def E9:V->Bool
 | .str z=>decide (z.length<=2000)&&textOk z
 |_=>false
inductive DB(H:Hp):V->Prop where
 |str (z:Str):DB H (.str z)
 |non:DB H .non
 |bl (b:Bool):DB H (.bl b)
 |int (n:Int):DB H (.int n)
 |lst {a:Addr}{xs:List V}:H a=some (.lst xs)->xs.all dB=true->DB H (.ref a)
 |tup {a:Addr}{xs:List V}:H a=some (.tup xs)->xs.all dB=true->DB H (.ref a)
 |RT {a:Addr}{k:Key}{v:V}:H a=some (.dK [(k,v)])->dB v=true->DB H (.ref a)
theorem DB.mono{H H':Hp}{v:V}(s:aD H H')(h:DB H v):DB H' v:=by
 cases h with
 |str z=>exact .str z
 |non=>exact .non
 |bl b=>exact .bl b
 |int n=>exact .int n
 |lst e f=>exact .lst (s _ _ e) f
 |tup e f=>exact .tup (s _ _ e) f
 |RT e f=>exact .RT (s _ _ e) f
theorem G8{z:Str}(h:dZ z)(h2:z.length<=2000):E9 (.str z)=true:=by
 show(decide (z.length<=2000)&&textOk z)=true
 rw[IW h,aay h2];rfl
theorem Ez{xs:List V}{hi:Option Int}(h:2<=xs.length):(oz xs (some 2) hi).length<=xs.length-2:=by
 unfold oz
 have e:HT.wg xs.length 0 (some 2)=2:=by rw[show(some (2:Int))=some ((2:Nat):Int) from rfl,HT.uD];omega
 rw[e,aaL,List.length_drop]
 omega
def zV(r:List Str×Str×Str×Option Str)(z:Str):Option (List (List Str)):=if wu r=("":Str) then some (Cc z r.1) else none
def mV(A H:Hp)(v:V):Option (List (List Str))->Prop
 |none=>v=.non
 |some T=>∃l es,v=.ref l/\A l=none/\H l=some (.lst es)/\iE A H es T
theorem mV.mono{A H H':Hp}{v:V}{o:Option (List (List Str))}(s:aD H H')(h:mV A H v o):mV A H' v o:=by
 cases o with
 |none=>exact h
 |some T=>obtain⟨l,es,e1,e2,e3,e4⟩:=h;exact⟨l,es,e1,e2,s _ _ e3,iE.mono s e4⟩
def K4(k:Str):Prop:=k=Str.ofString "put"\/k=Str.ofString "skip"\/k=Str.ofString "part"\/k=("end":Str)
abbrev nV(n:Nat):V:=.int (n:Int)
def gc(r:List Nat)(p:Nat):List (List Nat)->List (List Nat)
 |[]=>[[p]]
 |q::qs=>if r.getD (q.headD 0) 0=r.getD p 0 then (q++[p])::qs else q::gc r p qs
def aA(r:List Nat)(ps:List Nat):List (List Nat):=ps.foldl (λa p=>gc r p a) []
theorem vg{r ps:List Nat}{i p:Nat}(h:ps[i]?=some p):aA r (ps.take (i+1))=gc r p (aA r (ps.take i)):=by
 unfold aA
 rw[aX h,List.foldl_append];rfl
theorem DC{r:List Nat}{p:Nat}:∀{qs:List (List Nat)}{q:List Nat},q∈gc r p qs->q=[p]\/q∈qs\/∃q0∈qs,q=q0++[p]
 |[],q,h=>.inl (aan.mp h)
 |q0::qs,q,h=>by
  unfold gc at h
  by_cases e:r.getD (q0.headD 0) 0=r.getD p 0
  ·rw[aal e]at h
   rcases aas.mp h with rfl|h
   ·exact .inr (.inr ⟨q0,aat ..,rfl⟩)
   ·exact .inr (.inl (aaq _ h))
  ·rw[aah e]at h
   rcases aas.mp h with rfl|h
   ·exact .inr (.inl (aat ..))
   ·rcases DC h with h|h|⟨q1,h1,h2⟩
    ·exact .inl h
    ·exact .inr (.inl (aaq _ h))
    ·exact .inr (.inr ⟨q1,aaq _ h1,h2⟩)
theorem xZ{r ps:List Nat}(P:List (List Nat)->Prop)(h0:P [])(hs:∀a p,p∈ps->P a->P (gc r p a)):P (aA r ps):=by
 have key:∀(l:List Nat) a,(∀p∈l,p∈ps)->P a->P (l.foldl (λa p=>gc r p a) a):=by
  intro l
  induction l with
  |nil=>intro a _ h;exact h
  |cons p l ih=>intro a hl h;exact ih _ (λq hq=>hl q (aaq _ hq)) (hs a p (hl p (aat ..)) h)
 exact key ps [] (λ_ h=>h) h0
theorem eG{r ps:List Nat}:∀q∈aA r ps,q≠[]/\∀x∈q,x∈ps:=by
 refine xZ (P:=λa=>∀q∈a,q≠[]/\∀x∈q,x∈ps) (λq h=>nomatch h) ?_
 intro a p hp h q hq
 rcases DC hq with rfl|hq|⟨q0,h0,rfl⟩
 ·exact⟨(λe=>nomatch e),λx hx=>by rw[aan.mp hx];exact hp⟩
 ·exact h q hq
 ·refine⟨by simp,λx hx=>?_⟩
  rcases aaH.mp hx with hx|hx
  ·exact(h q0 h0).2 x hx
  ·rw[aan.mp hx];exact hp
theorem DE{r:List Nat}{p:Nat}:∀{qs:List (List Nat)},((gc r p qs).map List.length).sum=(qs.map List.length).sum+1
 |[]=>rfl
 |q0::qs=>by
  unfold gc
  split
  ·simp only[abi,List.sum_cons,aaJ,aaR,List.length_nil];omega
  ·have:=DE (r:=r) (p:=p) (qs:=qs)
   simp only[abi,List.sum_cons,this];omega
theorem qZ{r ps:List Nat}:((aA r ps).map List.length).sum=ps.length:=by
 have key:∀(l:List Nat)(a:List (List Nat)),((l.foldl (λa p=>gc r p a) a).map List.length).sum=(a.map List.length).sum+l.length:=by
  intro l
  induction l with
  |nil=>intro a;rfl
  |cons p l ih =>
   intro a
   show((l.foldl (λa p=>gc r p a) (gc r p a)).map List.length).sum=_
   rw[ih,DE,aaR];omega
 have:=key ps []
 rw[show(([]:List (List Nat)).map List.length).sum=0 from rfl,Nat.zero_add]at this
 exact this
theorem yP{q:List Nat}:∀{l:List (List Nat)},q∈l->q.length<=(l.map List.length).sum
 |[],h=>by cases h
 |c::l,h=>by
  rw[abi,List.sum_cons]
  rcases aas.mp h with rfl|h
  ·omega
  ·have:=yP h;omega
theorem LI{q:List Nat}:∀{qs:List (List Nat)},q∈qs->1<qs.length->(∀x∈qs,x≠[])->q.length<(qs.map List.length).sum
 |a::b::l,h,_,hn=>by
  have hb:=List.length_pos_iff.mpr (hn b (aaq _ (aat ..)))
  have ha:=List.length_pos_iff.mpr (hn a (aat ..))
  have e:((a::b::l).map List.length).sum=a.length+(b.length+(l.map List.length).sum):=by simp
  rw[e]
  rcases aas.mp h with rfl|h
  ·omega
  rcases aas.mp h with rfl|h
  ·omega
  have:=yP h
  omega
theorem AD{r ps q:List Nat}(h:1<(aA r ps).length)(hq:q∈aA r ps):q.length<ps.length:=by
 have:=LI hq h λx hx=>(eG x hx).1
 rw[qZ]at this
 exact this
theorem gH{r ps:List Nat}:(aA r ps).length<=ps.length:=by
 have key:∀qs:List (List Nat),(∀x∈qs,x≠[])->qs.length<=(qs.map List.length).sum:=by
  intro qs
  induction qs with
  |nil=>intro _;exact aao _
  |cons a l ih =>
   intro h
   have:=ih λx hx=>h x (aaq _ hx)
   have ha:=List.length_pos_iff.mpr (h a (aat ..))
   rw[abi,List.sum_cons,aaR];omega
 have:=key (aA r ps) λx hx=>(eG x hx).1
 rw[qZ]at this
 exact this
theorem mO{r ps q:List Nat}(hq:q∈aA r ps):q.length<=ps.length:=by
 have:=yP hq
 rw[qZ]at this
 exact this
def oH(r:List Nat)(p:Nat)(Z:List (V×List Nat)):List V:=(Z.filter λx=>decide (r.getD (x.2.headD 0) 0=r.getD p 0)).map Prod.fst
theorem AE{r:List Nat}{p j:Nat}{Z:List (V×List Nat)}{x:V×List Nat}(h:Z[j]?=some x):oH r p (Z.take (j+1))=if r.getD (x.2.headD 0) 0=r.getD p 0 then oH r p (Z.take j)++[x.1] else oH r p (Z.take j):=by
 unfold oH
 rw[aX h,List.filter_append,List.filter_cons]
 by_cases e:r.getD (x.2.headD 0) 0=r.getD p 0
 ·rw[aal (aay e),aal e,aaI];rfl
 ·rw[aah (by rw[aax e];decide),aah e,List.filter_nil,abr]
theorem DF{r:List Nat}{p:Nat}{Z:List (V×List Nat)}:(oH r p Z).length<=Z.length:=by
 unfold oH;rw[aaj];exact List.length_filter_le _ _
theorem rj{r:List Nat}{p:Nat}:∀{es:List V}{qs:List (List Nat)},es.length=qs.length->(oH r p (es.zip qs)=[]/\gc r p qs=qs++[[p]])\/∃e ws j q,oH r p (es.zip qs)=e::ws/\es[j]?=some e/\qs[j]?=some q/\gc r p qs=qs.set j (q++[p])
 |[],[],_=>.inl ⟨rfl,rfl⟩
 |e::es,q::qs,h=>by
  by_cases c:r.getD (q.headD 0) 0=r.getD p 0
  ·refine .inr ⟨e,oH r p (es.zip qs),0,q,?_,rfl,rfl,?_⟩
   ·unfold oH
    rw[List.zip_cons_cons,List.filter_cons,aal (aay c)];rfl
   ·unfold gc;rw[aal c];rfl
  ·have e1:oH r p ((e::es).zip (q::qs))=oH r p (es.zip qs):=by
    unfold oH
    rw[List.zip_cons_cons,List.filter_cons,aah (by rw[aax c];decide)]
   have e2:gc r p (q::qs)=q::gc r p qs:=by rw[show gc r p (q::qs)=if r.getD (q.headD 0) 0=r.getD p 0 then (q++[p])::qs else q::gc r p qs from rfl,aah c]
   rw[e1,e2]
   rcases rj (r:=r) (p:=p) (es:=es) (qs:=qs) (by simpa using h) with ⟨a,b⟩|⟨e',ws,j,q',a,b,c',d⟩
   ·exact .inl ⟨a,by rw[b];rfl⟩
   ·exact .inr ⟨e',ws,j+1,q',a,b,c',by rw[d];rfl⟩
 |[],_::_,h=>by simp at h
 |_::_,[],h=>by simp at h
abbrev aV(A H:Hp):List V->List (List Nat)->Prop:=Paired λe p=>∃a,e=V.ref a/\A a=none/\H a=some (.lst (p.map nV))
theorem aV.mono{A H H':Hp}(s:aD H H'):∀{es:List V}{qs:List (List Nat)},aV A H es qs->aV A H' es qs
 |_,_,.nil=>.nil
 |_,_,.cons ⟨a,e,n,h⟩ r=>.cons ⟨a,e,n,s _ _ h⟩ (aV.mono s r)
theorem aV.but{A H:Hp}{l:Addr}{o:HO}:∀{es:List V}{qs:List (List Nat)},V.ref l∉es->aV A H es qs->aV A (upd H l o) es qs
 |_,_,_,.nil=>.nil
 |_,_,hn,.cons ⟨a,e,n,h⟩ r=>.cons ⟨a,e,n,(aB (λq=>hn (by rw[e,q];exact aat ..))).trans h⟩ (aV.but (λq=>hn (aaq _ q)) r)
theorem aV.LJ{A H:Hp}{a:Addr}{q':List Nat}:∀{es:List V}{qs:List (List Nat)}{j:Nat},aV A H es qs->es.Nodup->es[j]?=some (.ref a)->aV A (upd H a (.lst (q'.map nV))) es (qs.set j q')
 |_,_,0,.cons ⟨b,e,n,h⟩ r,nd,hj=>by
  subst e
  have e:b=a:=V.ref.inj (aaA hj)
  subst e
  rw[aa8]at nd
  exact .cons ⟨b,rfl,n,aj⟩ (aV.but nd.1 r)
 |_,_,j+1,.cons ⟨b,e,n,h⟩ r,nd,hj=>by
  subst e
  rw[aa8]at nd
  have hj:_=some (V.ref a):=hj
  refine .cons ⟨b,rfl,n,(aB λq=>nd.1 ?_).trans h⟩ (aV.LJ r nd.2 hj)
  rw[q];exact aar hj
abbrev vh(H:Hp):List V->List (List Nat)->Prop:=Paired λe r=>∃a,e=V.ref a/\H a=some (.lst (r.map nV))
theorem vh.mono{H H':Hp}(s:aD H H'):∀{es:List V}{qs:List (List Nat)},vh H es qs->vh H' es qs
 |_,_,.nil=>.nil
 |_,_,.cons ⟨a,e,h⟩ r=>.cons ⟨a,e,s _ _ h⟩ (vh.mono s r)
def cF(R:List (List Nat))(ps:List Nat):Bool:=R.all λr=>decide ((aA r ps).length<2)
inductive PT where
 |leaf (ps:List Nat)
 |ask (i:Nat) (bs:List PT)
def jg{α:Type}:List (Option α)->Option (List α)
 |[]=>some []
 |none::_=>none
 |some x::l=>(jg l).map (x :: ·)
def oJ(f:List Nat->Option PT)(ps:List Nat):Nat->List (List Nat)->Option PT
 |_,[]=>none
 |i,r::rs=>if 1<(aA r ps).length then (match jg ((aA r ps).map f) with
  |some bs=>some (.ask i bs)
  |none=>oJ f ps (i+1) rs) else oJ f ps (i+1) rs
def aT(R:List (List Nat)):Nat->List Nat->Option PT
 | 0,ps=>if cF R ps then some (.leaf ps) else none
 |d+1,ps=>if cF R ps then some (.leaf ps) else oJ (aT R d) ps 0 R
theorem rm{α:Type}:∀{l:List (Option α)},jg l=none->none∈l
 |none::l,_=>aat ..
 |some x::l,h=>by
  refine aaq _ (rm ?_)
  cases e:jg l with
  |none=>rfl
  |some y=>rw[show jg (some x::l)=(jg l).map (x :: ·) from rfl,e]at h;cases h
 |[],h=>by cases h
theorem rq{α:Type}:∀{l:List (Option α)}{bs:List α},jg l=some bs->l=bs.map some
 |[],bs,h=>by cases h;rfl
 |none::l,_,h=>by cases h
 |some x::l,bs,h=>by
  rw[show jg (some x::l)=(jg l).map (x :: ·) from rfl]at h
  cases e:jg l with
  |none=>rw[e]at h;cases h
  |some y=>rw[e]at h;cases h;rw[rq e];rfl
theorem AF{f:List Nat->Option PT}{ps:List Nat}:∀{R:List (List Nat)}{i:Nat},(∃r∈R,1<(aA r ps).length)->(∀r∈R,1<(aA r ps).length->∀q∈aA r ps,f q≠none)->oJ f ps i R≠none
 |[],_,⟨r,h,_⟩,_=>by cases h
 |r::R,i,⟨r',h,h2⟩,hf=>by
  unfold oJ
  by_cases c:1<(aA r ps).length
  ·rw[aal c]
   cases e:jg ((aA r ps).map f) with
   |some bs=>intro z;cases z
   |none =>
    obtain⟨q,hq,e2⟩:=aaQ.mp (rm e)
    exact absurd e2 (hf r (aat ..) c q hq)
  ·rw[aah c]
   refine AF ⟨r',?_,h2⟩ λx hx=>hf x (aaq _ hx)
   rcases aas.mp h with rfl|h
   ·exact absurd h2 c
   ·exact h
theorem EA{R:List (List Nat)}{ps:List Nat}(h:¬cF R ps=true):∃r∈R,1<(aA r ps).length:=by
 refine Classical.byContradiction λq=>h ?_
 unfold cF
 rw[aaO]
 intro r hr
 refine aay ?_
 refine Nat.lt_of_not_le λhl=>q ⟨r,hr,hl⟩
theorem ya{R:List (List Nat)}:∀{d:Nat}{ps:List Nat},ps.length<=d+1->aT R d ps≠none
 | 0,ps,h=>by
  have:cF R ps=true:=by
   unfold cF
   rw[aaO]
   intro r _
   have:=gH (r:=r) (ps:=ps)
   exact aay 'c'
  unfold aT;rw[aal this];intro z;cases z
 |d+1,ps,h=>by
  unfold aT
  by_cases c:cF R ps=true
  ·rw[aal c];intro z;cases z
  ·rw[aah c]
   exact AF (EA c) λr _ hl q hq=>ya (by have:=AD hl hq;omega)
def Ce(A H:Hp):Nat->V->PT->Prop
 |_,v,.leaf ps=>∃t l,v=.ref t/\A t=none/\A l=none/\H t=some (.tup [.str ("leaf":Str),.ref l])/\H l=some (.lst (ps.map nV))
 |n+1,v,.ask i bs=>∃t l es,v=.ref t/\A t=none/\A l=none/\H t=some (.tup [.str ("ask":Str),nV i,.ref l])/\H l=some (.lst es)/\Paired (Ce A H n) es bs
 | 0,_,.ask _ _=>False
theorem Ce.mono{A H H':Hp}(s:aD H H'):∀{n:Nat}{v:V}{t:PT},Ce A H n v t->Ce A H' n v t
 | 0,_,.leaf ps,⟨t,l,a,b,c,d,e⟩=>⟨t,l,a,b,c,s _ _ d,s _ _ e⟩
 |n+1,_,.leaf ps,⟨t,l,a,b,c,d,e⟩=>⟨t,l,a,b,c,s _ _ d,s _ _ e⟩
 |n+1,_,.ask i bs,⟨t,l,es,a,b,c,d,e,f⟩=>⟨t,l,es,a,b,c,s _ _ d,s _ _ e,bg (λ_ _ h=>Ce.mono s h) f⟩
inductive Th where
 |at (v:V)
 |tup (ts:List Th)
 |lst (ts:List Th)
theorem uG{ps:List Nat}{i:Nat}{e:V}(h:(ps.map nV)[i]?=some e):∃p,ps[i]?=some p/\e=nV p:=by
 rw[aaT]at h
 cases q:ps[i]? with
 |none=>rw[q]at h;cases h
 |some p=>rw[q]at h;cases h;exact⟨p,rfl,rfl⟩
theorem Oc{r:List Nat}{p:Nat}(h:p<r.length):(r.map nV)[p]?=some (nV (r.getD p 0)):=by
 rw[aaT,aau h]
 show some (nV _)=_
 rw[aa6,aau h];rfl
def OT(A H:Hp)(d:Nat)(v:V):Option PT->Prop
 |none=>v=.non
 |some T=>Ce A H d v T
def Od:V->Bool
 | .non=>true
 |_=>false
theorem OT.Wn{A H:Hp}{d:Nat}{v:V}{o:Option PT}(h:OT A H d v o):Od v=o.isNone:=by
 cases o with
 |none=>cases h;rfl
 |some T =>
  cases T with
  |leaf ps=>cases d<;>(obtain⟨t,l,rfl,_⟩:=h;rfl)
  |ask i bs =>
   cases d with
   |zero=>exact h.elim
   |succ d=>obtain⟨t,l,es,rfl,_⟩:=h;rfl
theorem OT.cmp{K:W.Frag}{A H:Hp}{d:Nat}{v:V}{o:Option PT}(h:OT A H d v o):qS K H v .non (Od v):=by
 cases o with
 |none=>cases h;exact .cmp (n:=0) 'b' (.flat rfl rfl)
 |some T =>
  cases T with
  |leaf ps=>cases d<;>(obtain⟨t,l,rfl,_,_,e,_⟩:=h;exact .tn (bH.of e))
  |ask i bs =>
   cases d with
   |zero=>exact h.elim
   |succ d=>obtain⟨t,l,es,rfl,_,_,e,_⟩:=h;exact .tn (bH.of e)
theorem OT.any{A H:Hp}{d:Nat}:∀{es:List V}{os:List (Option PT)},Paired (OT A H d) es os->es.any Od=os.any Option.isNone
 |_,_,.nil=>rfl
 |_,_,.cons h r=>by rw[List.any_cons,List.any_cons,h.Wn,OT.any r]
theorem AG{α:Type}:∀{os:List (Option α)},(os.any Option.isNone=true->jg os=none)/\(os.any Option.isNone=false->∃bs,jg os=some bs/\os=bs.map some)
 |[]=>⟨λh=>by simp at h,λ_=>⟨[],rfl,rfl⟩⟩
 |none::os=>⟨λ_=>rfl,λh=>by simp at h⟩
 |some x::os=>by
  obtain⟨h1,h2⟩:=AG (os:=os)
  refine⟨λh=>?_,λh=>?_⟩
  ·rw[List.any_cons]at h
   show(jg os).map _=none
   rw[h1 h];rfl
  ·rw[List.any_cons]at h
   obtain⟨bs,e1,e2⟩:=h2 h
   exact⟨x::bs,by show(jg os).map _=_;rw[e1];rfl,by rw[e2];rfl⟩
theorem lB{f:List Nat->Option PT}{ps r:List Nat}{rs:List (List Nat)}{i:Nat}:oJ f ps i (r::rs)=if 1<(aA r ps).length then (match jg ((aA r ps).map f) with
 |some bs=>some (.ask i bs)
 |none=>oJ f ps (i+1) rs) else oJ f ps (i+1) rs:=rfl
theorem AH:∀{ws:List V},ws.all E9=true->∃zs:List Str,ws=zs.map V.str/\∀z∈zs,dZ z/\z.length<=2000
 |[],_=>⟨[],rfl,λz h=>nomatch h⟩
 |w::ws,h=>by
  rw[List.all_cons,Bool.and_eq_true]at h
  obtain⟨zs,rfl,hz⟩:=AH h.2
  cases w with
  |str z =>
   have h1:(decide (z.length<=2000)&&textOk z)=true:=h.1
   rw[Bool.and_eq_true]at h1
   refine⟨z::zs,O,λy hy=>?_⟩
   rcases aas.mp hy with rfl|hy
   ·exact⟨λc hc=>aa0 (aaO.mp h1.2 c hc),aa0 h1.1⟩
   ·exact hz y hy
  |_=>cases h.1
def LK(ps:List Nat):Th:=.tup [.at (.str ("leaf":Str)),.lst (ps.map λp=>.at (nV p))]
def RU:Nat->PT->Th
 |_,.leaf ps=>LK ps
 | 0,.ask _ _=>.at .non
 |n+1,.ask i bs=>.tup [.at (.str ("ask":Str)),.at (nV i),.lst (bs.map (RU n))]
theorem aV.set{A H:Hp}{l:Addr}{o:HO}(hl:A l≠none):∀{es:List V}{qs:List (List Nat)},aV A H es qs->aV A (upd H l o) es qs
 |_,_,.nil=>.nil
 |_,_,.cons ⟨a,e,n,h⟩ r=>.cons ⟨a,e,n,(aB (λq=>hl (by rw[←q];exact n))).trans h⟩ (aV.set hl r)
theorem aV.Wo{A H:Hp}:∀{es:List V}{qs:List (List Nat)},aV A H es qs->vh H es qs
 |_,_,.nil=>.nil
 |_,_,.cons ⟨a,e,_,h⟩ r=>.cons ⟨a,e,h⟩ (aV.Wo r)
def lC(cs:List fW)(z:Str):List (Option (List (List Str))):=cs.map λx=>zV (runC x z) z
def rA{α:Type}[DecidableEq α](x:α):List α->Nat
 |[]=>0
 |y::l=>if y=x then 0 else rA x l+1
def readM{α:Type}[DecidableEq α](ts:List α):List Nat:=ts.map λt=>rA t ts
abbrev Yp(A H:Hp):List V->List (Option (List (List Str)))->Prop:=Paired (mV A H)
theorem mV.old{A B H:Hp}{v:V}{o:Option (List (List Str))}(f:∀b,B b=none->A b=none)(h:mV B H v o):mV A H v o:=by
 cases o with
 |none=>exact h
 |some T=>obtain⟨l,es,e1,e2,e3,e4⟩:=h;exact⟨l,es,e1,f _ e2,e3,bg (λa b ⟨c,q1,q2,q3⟩=>⟨c,q1,f _ q2,q3⟩) e4⟩
theorem mV.set{A H:Hp}{v:V}{o:Option (List (List Str))}{l:Addr}{ob:HO}(hl:A l≠none)(h:mV A H v o):mV A (upd H l ob) v o:=by
 cases o with
 |none=>exact h
 |some T=>obtain⟨m,es,e1,e2,e3,e4⟩:=h;exact⟨m,es,e1,e2,(aB (λq=>hl (by rw[←q];exact e2))).trans e3,bg (λa b ⟨c,q1,q2,q3⟩=>⟨c,q1,q2,(aB (λq=>hl (by rw[←q];exact q2))).trans q3⟩) e4⟩
theorem vj{A B H:Hp}:∀{es:List V}{T T':List (List Str)},iE A H es T->iE B H es T'->T=T'
 |_,_,_,.nil,.nil=>rfl
 |_,_,_,.cons ⟨a,e,_,h⟩ r,.cons ⟨b,e',_,h'⟩ r'=>by
  subst e
  cases e'
  rw[h]at h'
  have q:=(List.map_inj_right (λx y h=>V.str.inj h)).mp (HO.lst.inj (aaA h'))
  rw[q,vj r r']
theorem G9{K:W.Frag}{A B H:Hp}{v w:V}{o o':Option (List (List Str))}(h1:mV A H v o)(h2:mV B H w o'):qS K H v w (decide (o=o')):=by
 cases o with
 |none =>
  cases h1
  cases o' with
  |none=>cases h2;rw[aay rfl];exact .cmp (n:=0) 'b' (.flat rfl rfl)
  |some T =>
   obtain⟨l,es,rfl,_,e3,_⟩:=h2
   rw[aax (by intro z;cases z)]
   exact .nl (aK.of e3)
 |some T =>
  obtain⟨l,es,rfl,_,e3,e4⟩:=h1
  cases o' with
  |none =>
   cases h2
   rw[aax (by intro z;cases z)]
   exact .ln (aK.of e3)
  |some T' =>
   obtain⟨l',es',rfl,_,Fb,Kh⟩:=h2
   have e:decide (some T=some T')=decide (T=T'):=by
    by_cases h:T=T'
    ·rw[h,aay rfl,aay rfl]
    ·rw[aax h,aax λz=>h (aaA z)]
   rw[e]
   refine .cmp (n:=2) 'b' ?_
   by_cases ne:l=l'
   ·subst ne
    rw[e3]at Fb
    have Fb:=HO.lst.inj (aaA Fb)
    subst Fb
    have:T=T':=vj e4 Kh
    rw[aay this]
    exact .same
   have l1:=e4.length
   have l2:=Kh.length
   by_cases hl:T.length=T'.length
   ·rw[←Cd hl,←l1]
    refine pF.lst ne (aK.of e3) (aK.of Fb) 'c' λj x y ex ey=>?_
    obtain⟨r,hr,a,rfl,_,ha⟩:=aE e4 j x ex
    obtain⟨r',hr',b,rfl,_,hb⟩:=aE Kh j y ey
    have e2:decide (T[j]?=T'[j]?)=decide (r=r'):=by
     rw[hr,hr',aa2,aa1,aa1]
     exact⟨λq=>aaA q,λq=>by rw[q]⟩
    rw[e2]
    exact Dz ha hb
   ·rw[aax (λq=>hl (by rw[q]))]
    exact pF.len ne (aK.of e3) (aK.of Fb) 'c'
theorem yQ{α:Type}[DecidableEq α]{x:α}:∀{l:List α},x∈l->rA x l<l.length/\l[rA x l]?=some x
 |y::l,h=>by
  unfold rA
  by_cases e:y=x
  ·rw[aal e,e];exact⟨by simp,rfl⟩
  ·have h2:x∈l:=by
    rcases aas.mp h with q|q
    ·exact absurd q.symm e
    ·exact q
   rw[aah e]
   have:=yQ h2
   exact⟨by simp;omega,this.2⟩
theorem Hf{α:Type}[DecidableEq α]{x:α}:∀{l:List α}{i:Nat},i<rA x l->l[i]?≠some x
 |[],i,h=>by simp
 |y::l,i,h=>by
  unfold rA at h
  by_cases e:y=x
  ·rw[aal e]at h;omega
  ·rw[aah e]at h
   cases i with
   |zero=>intro q;exact e (aaA q)
   |succ i=>exact Hf (l:=l) 'c'
theorem IX{A B H:Hp}{v:V}{o o':Option (List (List Str))}(h:mV A H v o)(h':mV B H v o'):o=o':=by
 cases o with
 |none =>
  cases h
  cases o' with
  |none=>rfl
  |some T=>obtain⟨l,_,e,_⟩:=h';cases e
 |some T =>
  obtain⟨l,es,rfl,_,e3,e4⟩:=h
  cases o' with
  |none=>cases h'
  |some T' =>
   obtain⟨l',es',e,_,Fb,Kh⟩:=h'
   cases e
   rw[e3]at Fb
   cases HO.lst.inj (aaA Fb)
   rw[vj e4 Kh]
noncomputable def LL(A H:Hp)(o:Option (List (List Str)))(z:V):Bool:=@decide (mV A H z o) (Classical.propDecidable _)
theorem yR{A H:Hp}{o o':Option (List (List Str))}{z:V}(h:mV A H z o'):LL A H o z=decide (o'=o):=by
 unfold LL
 by_cases e:o'=o
 ·subst e;rw[aay rfl];exact@decide_eq_true _ (Classical.propDecidable _) h
 ·rw[aax e];exact@decide_eq_false _ (Classical.propDecidable _) λq=>e (IX h q)
def lE(n:Nat)(ws:List V):Nat:=if 8<n then 0 else if 6<ws.length then 1 else if ws.all E9=true then 3 else 2
def iF(cs:List fW)(zs:List Str):List (List Nat):=zs.map λz=>readM (lC cs z)
theorem IY{cs:List fW}{zs:List Str}:∀r∈iF cs zs,r.length=cs.length:=λr hr=>by
 obtain⟨z,_,rfl⟩:=aaQ.mp hr
 unfold readM lC
 rw[aaj,aaj]
theorem AI{n:Nat}:Ec 0 ((n:Int)).toNat=(List.range n).map nV:=by
 unfold Ec
 rw[Int.toNat_natCast]
 refine List.map_congr_left λi _=>?_
 show V.int _=V.int (i:Int)
 rw[Int.zero_add]
theorem LM{K:W.Frag}{A B H:Hp}{v w:V}{o o':Option (List (List Str))}(h1:mV A H v o)(h2:mV B H w o'):TopE K H v w (decide (o=o')):=by
 cases o with
 |none =>
  cases h1
  cases o' with
  |none=>cases h2;exact .nn
  |some T =>
   obtain⟨l,es,rfl,_,e3,_⟩:=h2
   rw[aax (by intro z;cases z)]
   exact .nl (aK.of e3)
 |some T =>
  obtain⟨l,es,rfl,_,e3,e4⟩:=h1
  cases o' with
  |none =>
   cases h2
   rw[aax (by intro z;cases z)]
   exact .ln (aK.of e3)
  |some T' =>
   obtain⟨l',es',rfl,_,Fb,Kh⟩:=h2
   have e:decide (some T=some T')=decide (T=T'):=by
    by_cases h:T=T'
    ·rw[h,aay rfl,aay rfl]
    ·rw[aax h,aax λz=>h (aaA z)]
   rw[e]
   have l1:=e4.length
   have l2:=Kh.length
   by_cases hl:T.length=T'.length
   ·rw[←Cd hl,←l1]
    refine TopE.lst (aK.of e3) (aK.of Fb) 'c' λj x y ex ey=>?_
    obtain⟨r,hr,a,rfl,_,ha⟩:=aE e4 j x ex
    obtain⟨r',hr',b,rfl,_,hb⟩:=aE Kh j y ey
    have e2:decide (T[j]?=T'[j]?)=decide (r=r'):=by
     rw[hr,hr',aa2,aa1,aa1]
     exact⟨λq=>aaA q,λq=>by rw[q]⟩
    rw[e2]
    exact .cmp (n:=1) 'b' (Dz ha hb)
   ·rw[aax (λq=>hl (by rw[q]))]
    exact TopE.len (aK.of e3) (aK.of Fb) 'c'
abbrev yS(A H:Hp)(zs:List Str)(e:V)(x:fW):Prop:=∃a es,e=V.ref a/\H a=some (.lst es)/\Paired (λv z=>mV A H v (zV (runC x z) z)) es zs
abbrev oK(A H:Hp)(zs:List Str):List V->List fW->Prop:=Paired (yS A H zs)
theorem yS.mono{A H H':Hp}{zs:List Str}{e:V}{x:fW}(s:aD H H')(h:yS A H zs e x):yS A H' zs e x:=by
 obtain⟨a,es,e1,e2,e3⟩:=h
 exact⟨a,es,e1,s _ _ e2,bg (λ_ _ q=>mV.mono s q) e3⟩
theorem oK.mono{A H H':Hp}{zs:List Str}{iG:List V}{cs:List fW}(s:aD H H')(h:oK A H zs iG cs):oK A H' zs iG cs:=bg (λ_ _ q=>yS.mono s q) h
def Qk(zs:List Str)(x y:fW)(j:Nat):Bool:=match zs[j]? with
 |some z=>decide (zV (runC x z) z=zV (runC y z) z)
 |none=>true
theorem Hg{zs:List Str}{x y:fW}{j:Nat}{z:Str}(h:zs[j]?=some z):Qk zs x y j=decide (zV (runC x z) z=zV (runC y z) z):=by unfold Qk;rw[h]
theorem IZ{K:W.Frag}{A H:Hp}{zs:List Str}{v w:V}{x y:fW}(h1:yS A H zs v x)(h2:yS A H zs w y):TopE K H v w ((List.range zs.length).all (Qk zs x y)):=by
 obtain⟨a,es,rfl,ha,pa⟩:=h1
 obtain⟨b,fs,rfl,hb,pb⟩:=h2
 have l1:=pa.length
 have l2:=pb.length
 rw[←l1]
 refine TopE.lst (aK.of ha) (aK.of hb) 'c' λj u w eu ew=>?_
 obtain⟨z,hz,r1⟩:=aE pa j u eu
 obtain⟨z',hz',r2⟩:=aE pb j w ew
 rw[hz]at hz';cases hz'
 rw[Hg hz]
 exact G9 r1 r2
theorem Ja{α:Type}[DecidableEq α]{x y:α}{l:List α}(hx:x∈l)(hy:y∈l):rA x l=rA y l↔x=y:=by
 refine⟨λe=>?_,λe=>by rw[e]⟩
 have h1:=(yQ hx).2
 have h2:=(yQ hy).2
 rw[e,h2]at h1
 exact(aaA h1).symm
theorem Hh{cs:List fW}{zs:List Str}{i p q:Nat}{z:Str}{x y:fW}(hz:zs[i]?=some z)(hp:cs[p]?=some x)(hq:cs[q]?=some y):((iF cs zs).getD i []).getD p 0=((iF cs zs).getD i []).getD q 0↔zV (runC x z) z=zV (runC y z) z:=by
 have e:(iF cs zs).getD i []=readM (lC cs z):=by
  rw[aa6]
  unfold iF
  rw[aaT,hz];rfl
 have e2:∀{p:Nat}{x:fW},cs[p]?=some x->(readM (lC cs z)).getD p 0=rA (zV (runC x z) z) (lC cs z)/\zV (runC x z) z∈lC cs z:=λ{p x} hp=>by
  have h1:(lC cs z)[p]?=some (zV (runC x z) z):=by unfold lC;rw[aaT,hp];rfl
  refine⟨?_,aar h1⟩
  rw[aa6]
  unfold readM
  rw[aaT,h1];rfl
 rw[e,(e2 hp).1,(e2 hq).1]
 exact Ja (e2 hp).2 (e2 hq).2
theorem Kl{cs:List fW}{zs:List Str}{i:Nat}{z:Str}(hz:zs[i]?=some z):(iF cs zs)[i]?=some ((iF cs zs).getD i []):=by
 have:(iF cs zs)[i]?=some (readM (lC cs z)):=by unfold iF;rw[aaT,hz];rfl
 rw[aa6,this];rfl
def fit(R:List (List Nat))(d:Nat)(ps:List Nat):Prop:=aT R d ps≠none
theorem gI{R:List (List Nat)}{d:Nat}{ps:List Nat}(h:cF R ps=true):fit R d ps:=by
 unfold fit;cases d<;>(unfold aT;rw[aal h];intro z;cases z)
theorem vm{R:List (List Nat)}{ps:List Nat}:fit R 0 ps↔cF R ps=true:=by
 refine⟨λh=>?_,gI⟩
 unfold fit aT at h
 by_cases c:cF R ps=true
 ·exact c
 ·rw[aah c]at h;exact absurd rfl h
theorem vn{f:List Nat->Option PT}{ps:List Nat}:∀{R:List (List Nat)}{i:Nat},oJ f ps i R≠none->∃r∈R,1<(aA r ps).length/\∀q∈aA r ps,f q≠none
 |[],_,h=>absurd rfl h
 |r::R,i,h=>by
  rw[lB]at h
  by_cases c:1<(aA r ps).length
  ·rw[aal c]at h
   cases e:jg ((aA r ps).map f) with
   |some bs =>
    refine⟨r,aat ..,c,λq hq e2=>?_⟩
    have h2:=rq e
    have h3:f q∈(aA r ps).map f:=aaQ.mpr ⟨q,hq,rfl⟩
    rw[h2,e2]at h3
    obtain⟨b,_,hb⟩:=aaQ.mp h3
    cases hb
   |none =>
    rw[e]at h
    obtain⟨r',h1,h2⟩:=vn h
    exact⟨r',aaq _ h1,h2⟩
  ·rw[aah c]at h
   obtain⟨r',h1,h2⟩:=vn h
   exact⟨r',aaq _ h1,h2⟩
theorem yT{f:List Nat->Option PT}{ps:List Nat}:∀{R:List (List Nat)}{i:Nat}{r:List Nat},r∈R->1<(aA r ps).length->(∀q∈aA r ps,f q≠none)->oJ f ps i R≠none
 |[],_,_,h,_,_=>by cases h
 |r0::R,i,r,h,h1,h2=>by
  rw[lB]
  by_cases c:1<(aA r0 ps).length
  ·rw[aal c]
   cases e:jg ((aA r0 ps).map f) with
   |some bs=>intro z;cases z
   |none =>
    rcases aas.mp h with rfl|h
    ·obtain⟨q,hq,e2⟩:=aaQ.mp (rm e)
     exact absurd e2 (h2 q hq)
    ·exact yT h h1 h2
  ·rw[aah c]
   rcases aas.mp h with rfl|h
   ·exact absurd h1 c
   ·exact yT h h1 h2
theorem lF{R:List (List Nat)}{d:Nat}{ps:List Nat}:fit R (d+1) ps↔cF R ps=true\/∃r∈R,1<(aA r ps).length/\∀q∈aA r ps,fit R d q:=by
 constructor
 ·intro h
  by_cases c:cF R ps=true
  ·exact .inl c
  ·unfold fit aT at h
   rw[aah c]at h
   exact .inr (vn h)
 ·rintro(h|⟨r,hr,h1,h2⟩)
  ·exact gI h
  ·by_cases c:cF R ps=true
   ·exact gI c
   ·unfold fit aT
    rw[aah c]
    exact yT hr h1 h2
theorem Hi{R:List (List Nat)}:∀{d:Nat}{ps:List Nat},fit R d ps->fit R (d+1) ps
 | 0,ps,h=>gI (vm.mp h)
 |d+1,ps,h=>by
  rcases lF.mp h with h|⟨r,hr,h1,h2⟩
  ·exact gI h
  ·exact lF.mpr (.inr ⟨r,hr,h1,λq hq=>Hi (h2 q hq)⟩)
theorem AJ{R:List (List Nat)}{ps:List Nat}{d e:Nat}(h:fit R d ps)(l:d<=e):fit R e ps:=by
 induction e with
 |zero=>rw[show d=0 by omega]at h;exact h
 |succ e ih =>
  by_cases c:d=e+1
  ·rw[←c];exact h
  ·exact Hi (ih 'c')
def LN(R:List (List Nat))(ps:List Nat)(n:Nat):Prop:=fit R n ps/\∀d,fit R d ps->n<=d
theorem LN.one{R:List (List Nat)}{ps:List Nat}{m n:Nat}(h1:LN R ps m)(h2:LN R ps n):m=n:=Nat.le_antisymm (h1.2 n h2.1) (h2.2 m h1.1)
def eV(l:List Nat):Nat:=l.foldr max 0
theorem DG{l:List Nat}{n:Nat}(h:n∈l):n<=eV l:=by
 induction l with
 |nil=>cases h
 |cons a l ih =>
  show n<=max a (eV l)
  rcases aas.mp h with rfl|h
  ·omega
  ·have:=ih h;omega
theorem yU{l:List Nat}{m:Nat}(h:∀n∈l,n<=m):eV l<=m:=by
 induction l with
 |nil=>exact aaZ _
 |cons a l ih =>
  show max a (eV l)<=m
  have h1:=h a (aat ..)
  have h2:=ih λn hn=>h n (aaq _ hn)
  omega
theorem Jb{R:List (List Nat)}{qs:List (List Nat)}{ns:List Nat}(h:Paired (LN R) qs ns)(d:Nat):(∀q∈qs,fit R d q)↔eV ns<=d:=by
 constructor
 ·intro hf
  refine yU λn hn=>?_
  induction h with
  |nil=>cases hn
  |@cons q n0 qs ns a r ih =>
   rcases aas.mp hn with rfl|hn
   ·exact a.2 d (hf q (aat ..))
   ·exact ih (λq hq=>hf q (aaq _ hq)) hn
 ·intro hm q hq
  induction h with
  |nil=>cases hq
  |@cons q0 n0 qs ns a r ih =>
   have hm:max n0 (eV ns)<=d:=hm
   rcases aas.mp hq with rfl|hq
   ·exact AJ a.1 'c'
   ·exact ih 'c' hq
def DH(R:List (List Nat))(ps:List Nat)(rs:List (List Nat)):Option Nat->Prop
 |none=>∀r∈rs,¬1<(aA r ps).length
 |some b=>1<=b/\(∃r∈rs,1<(aA r ps).length/\∀q∈aA r ps,fit R (b-1) q)/\∀r∈rs,1<(aA r ps).length->∀d,(∀q∈aA r ps,fit R d q)->b<=d+1
theorem DH.skip{R:List (List Nat)}{ps r:List Nat}{rs:List (List Nat)}{o:Option Nat}(h:DH R ps rs o)(c:¬1<(aA r ps).length):DH R ps (rs++[r]) o:=by
 cases o with
 |none =>
  intro r' hr'
  rcases aaH.mp hr' with q|q
  ·exact h r' q
  ·rw[aan.mp q];exact c
 |some b =>
  obtain⟨h1,⟨r0,h2,h3⟩,h4⟩:=h
  refine⟨h1,⟨r0,abj _ h2,h3⟩,λr' hr' hl=>?_⟩
  rcases aaH.mp hr' with q|q
  ·exact h4 r' q hl
  ·rw[aan.mp q]at hl;exact absurd hl c
theorem DH.take{R:List (List Nat)}{ps r:List Nat}{rs:List (List Nat)}{o:Option Nat}{ns:List Nat}(h:DH R ps rs o)(c:1<(aA r ps).length)(p:Paired (LN R) (aA r ps) ns):DH R ps (rs++[r]) (match o with
  |none=>some (1+eV ns)
  |some b=>some (if 1+eV ns<b then 1+eV ns else b)):=by
 have hf:=Jb p
 have new:(∃r'∈rs++[r],1<(aA r' ps).length/\∀q∈aA r' ps,fit R (1+eV ns-1) q):=⟨r,aaP _ (aan.mpr rfl),c,(hf _).mpr 'c'⟩
 cases o with
 |none =>
  refine⟨by omega,new,λr' hr' hl d hd=>?_⟩
  rcases aaH.mp hr' with q|q
  ·exact absurd hl (h r' q)
  ·rw[aan.mp q]at hd
   have:=(hf d).mp hd;omega
 |some b =>
  obtain⟨h1,⟨r0,h2,h3⟩,h4⟩:=h
  show DH R ps (rs++[r]) (some (if 1+eV ns<b then 1+eV ns else b))
  by_cases cc:1+eV ns<b
  ·rw[aal cc]
   refine⟨by omega,new,λr' hr' hl d hd=>?_⟩
   rcases aaH.mp hr' with q|q
   ·have:=h4 r' q hl d hd;omega
   ·rw[aan.mp q]at hd
    have:=(hf d).mp hd;omega
  ·rw[aah cc]
   refine⟨h1,⟨r0,abj _ h2,h3⟩,λr' hr' hl d hd=>?_⟩
   rcases aaH.mp hr' with q|q
   ·exact h4 r' q hl d hd
   ·rw[aan.mp q]at hd
    have:=(hf d).mp hd;omega
theorem DH.ln{R:List (List Nat)}{ps:List Nat}{o:Option Nat}(h:DH R ps R o):LN R ps (o.getD 0):=by
 cases o with
 |none =>
  have h:∀r∈R,¬1<(aA r ps).length:=h
  refine⟨vm.mpr ?_,λd _=>aaZ _⟩
  unfold cF
  rw[aaO]
  intro r hr
  exact aay (by have:=h r hr;omega)
 |some b =>
  obtain⟨h1,⟨r0,h2,h3,h5⟩,h4⟩:=h
  have na:¬cF R ps=true:=λq=>by
   have:=aa0 (aaO.mp q r0 h2)
   omega
  refine⟨?_,λd hd=>?_⟩
  ·show fit R b ps
   obtain⟨c,rfl⟩:∃c,b=c+1:=⟨b-1,by omega⟩
   exact lF.mpr (.inr ⟨r0,h2,h3,h5⟩)
  ·show b<=d
   cases d with
   |zero=>exact absurd (vm.mp hd) na
   |succ d =>
    rcases lF.mp hd with h|⟨r,hr,hl,hq⟩
    ·exact absurd h na
    ·exact h4 r hr hl d hq
theorem Oe{R:List (List Nat)}{ps:List Nat}{d:Nat}{T:PT}(h:aT R d ps=some T)(hno:∀d'<d,aT R d' ps=none):LN R ps d:=by
 refine⟨(by unfold fit;rw[h];intro z;cases z),λe he=>?_⟩
 refine Classical.byContradiction λq=>he (hno e 'c')
def d7:Nat->PT->Nat
 |_,.leaf _=>0
 | 0,.ask _ _=>0
 |n+1,.ask _ bs=>1+eV (bs.map (d7 n))
theorem pJ{R:List (List Nat)}{d:Nat}{ps:List Nat}{i:Nat}{bs:List PT}(h:aT R (d+1) ps=some (.ask i bs)):∃r,R[i]?=some r/\1<(aA r ps).length/\(aA r ps).map (aT R d)=bs.map some:=by
 unfold aT at h
 by_cases c:cF R ps=true
 ·rw[aal c]at h;cases h
 rw[aah c]at h
 have key:∀(rs:List (List Nat))(j:Nat),R.drop j=rs->oJ (aT R d) ps j rs=some (.ask i bs)->∃r,R[i]?=some r/\1<(aA r ps).length/\(aA r ps).map (aT R d)=bs.map some:=by
  intro rs
  induction rs with
  |nil=>intro j _ h;cases h
  |cons r rs ih =>
   intro j hj h
   have Yq:R[j]?=some r:=by
    have:=List.head?_drop (l:=R) (i:=j);rw[hj]at this;exact this.symm
   have hj2:R.drop (j+1)=rs:=by rw[←List.tail_drop,hj];rfl
   rw[lB]at h
   by_cases c2:1<(aA r ps).length
   ·rw[aal c2]at h
    cases e:jg ((aA r ps).map (aT R d)) with
    |none=>rw[e]at h;exact ih _ hj2 h
    |some bs'=>rw[e]at h;cases h;exact⟨r,Yq,c2,rq e⟩
   ·rw[aah c2]at h;exact ih _ hj2 h
 exact key R 0 rfl h
theorem mP{R:List (List Nat)}{d:Nat}{ps qs:List Nat}(h:aT R d ps=some (.leaf qs)):qs=ps/\cF R ps=true:=by
 have nl:∀(rs:List (List Nat))(f:List Nat->Option PT)(i:Nat),oJ f ps i rs≠some (.leaf qs):=by
  intro rs f
  induction rs with
  |nil=>intro i h;cases h
  |cons r rs ih =>
   intro i h
   rw[lB]at h
   by_cases c2:1<(aA r ps).length
   ·rw[aal c2]at h
    cases e:jg ((aA r ps).map f) with
    |none=>rw[e]at h;exact ih _ h
    |some bs=>rw[e]at h;cases h
   ·rw[aah c2]at h;exact ih _ h
 by_cases c:cF R ps=true
 ·cases d<;>(unfold aT at h;rw[aal c]at h;cases h;exact⟨rfl,c⟩)
 ·cases d with
  |zero=>unfold aT at h;rw[aah c]at h;cases h
  |succ d=>unfold aT at h;rw[aah c]at h;exact absurd h (nl _ _ _)
theorem rB{R:List (List Nat)}:∀{d:Nat}{ps:List Nat}{T:PT},aT R d ps=some T->d7 d T<=d/\fit R (d7 d T) ps
 |d,ps,.leaf qs,h=>by
  obtain⟨_,h2⟩:=mP h
  cases d<;>exact⟨aaZ _,gI h2⟩
 | 0,ps,.ask i bs,h=>by
  unfold aT at h
  by_cases c:cF R ps=true
  ·rw[aal c]at h;cases h
  ·rw[aah c]at h;cases h
 |d+1,ps,.ask i bs,h=>by
  obtain⟨r,hr,hl,hm⟩:=pJ h
  have hb:∀b∈bs,∃q∈aA r ps,aT R d q=some b:=λb hb=>by
   have:some b∈(aA r ps).map (aT R d):=by rw[hm];exact aaQ.mpr ⟨b,hb,rfl⟩
   obtain⟨q,hq,e⟩:=aaQ.mp this
   exact⟨q,hq,e⟩
  have hq:∀q∈aA r ps,∃b∈bs,aT R d q=some b:=λq hq=>by
   have:aT R d q∈bs.map some:=by rw[←hm];exact aaQ.mpr ⟨q,hq,rfl⟩
   obtain⟨b,hb,e⟩:=aaQ.mp this
   exact⟨b,hb,e.symm⟩
  show 1+eV (bs.map (d7 d))<=d+1/\fit R (1+eV (bs.map (d7 d))) ps
  have hle:eV (bs.map (d7 d))<=d:=yU λn hn=>by
   obtain⟨b,hb2,rfl⟩:=aaQ.mp hn
   obtain⟨q,_,e⟩:=hb b hb2
   exact(rB e).1
  refine⟨by omega,?_⟩
  rw[Nat.add_comm]
  refine lF.mpr (.inr ⟨r,aar hr,hl,λq hq2=>?_⟩)
  obtain⟨b,hb2,e⟩:=hq q hq2
  exact AJ (rB e).2 (DG (aaQ.mpr ⟨b,hb2,rfl⟩))
theorem Hj{R:List (List Nat)}{ps:List Nat}{d n:Nat}{T:PT}(h:aT R d ps=some T)(hno:∀d'<d,aT R d' ps=none)(hn:LN R ps n):d7 d T=n/\n=d:=by
 have h1:=rB h
 have h2:=Oe h hno
 have e:=hn.one h2
 have:=h2.2 _ h1.2
 exact⟨by omega,e⟩
theorem yb{r ps:List Nat}:∀q∈aA r ps,∀x∈q,r.getD x 0=r.getD (q.headD 0) 0:=by
 suffices hh:∀q∈aA r ps,q≠[]/\∀x∈q,r.getD x 0=r.getD (q.headD 0) 0 from λq hq=>(hh q hq).2
 refine xZ (P:=λa=>∀q∈a,q≠[]/\∀x∈q,r.getD x 0=r.getD (q.headD 0) 0) (λq h=>nomatch h) ?_
 intro a p _ h
 have key:∀(l:List (List Nat)),(∀q∈l,q≠[]/\∀x∈q,r.getD x 0=r.getD (q.headD 0) 0)->∀q∈gc r p l,q≠[]/\∀x∈q,r.getD x 0=r.getD (q.headD 0) 0:=by
  intro l
  induction l with
  |nil =>
   intro _ q hq
   rw[aan.mp hq]
   exact⟨by simp,λx hx=>by rw[aan.mp hx];rfl⟩
  |cons q0 l ih =>
   intro hl q hq
   unfold gc at hq
   by_cases c:r.getD (q0.headD 0) 0=r.getD p 0
   ·rw[aal c]at hq
    rcases aas.mp hq with rfl|hq
    ·obtain⟨n0,h0⟩:=hl q0 (aat ..)
     have eh:(q0++[p]).headD 0=q0.headD 0:=by cases q0 with
      |nil=>exact absurd rfl n0
      |cons _ _=>rfl
     refine⟨by simp,λx hx=>?_⟩
     rw[eh]
     rcases aaH.mp hx with hx|hx
     ·exact h0 x hx
     ·rw[aan.mp hx];exact c.symm
    ·exact hl q (aaq _ hq)
   ·rw[aah c]at hq
    rcases aas.mp hq with rfl|hq
    ·exact hl _ (aat ..)
    ·exact ih (λq hq=>hl q (aaq _ hq)) q hq
 exact key a h
theorem Cf{r:List Nat}{p:Nat}:∀{l:List (List Nat)},(∃q∈gc r p l,p∈q)/\∀x,(∃q∈l,x∈q)->∃q∈gc r p l,x∈q
 |[]=>⟨⟨[p],aat ..,aat ..⟩,λx ⟨q,h,_⟩=>nomatch h⟩
 |q0::l=>by
  obtain⟨⟨q1,h1,h2⟩,h3⟩:=Cf (r:=r) (p:=p) (l:=l)
  unfold gc
  by_cases c:r.getD (q0.headD 0) 0=r.getD p 0
  ·rw[aal c]
   refine⟨⟨_,aat ..,by simp⟩,λx ⟨q,hq,hx⟩=>?_⟩
   rcases aas.mp hq with rfl|hq
   ·exact⟨_,aat ..,abj _ hx⟩
   ·exact⟨q,aaq _ hq,hx⟩
  ·rw[aah c]
   refine⟨⟨q1,aaq _ h1,h2⟩,λx ⟨q,hq,hx⟩=>?_⟩
   rcases aas.mp hq with rfl|hq
   ·exact⟨_,aat ..,hx⟩
   ·obtain⟨q',a,b⟩:=h3 x ⟨q,hq,hx⟩
    exact⟨q',aaq _ a,b⟩
theorem AK{r ps:List Nat}{x:Nat}(h:x∈ps):∃q∈aA r ps,x∈q:=by
 have key:∀(l:List Nat)(a:List (List Nat)),(x∈l\/∃q∈a,x∈q)->∃q∈l.foldl (λa p=>gc r p a) a,x∈q:=by
  intro l
  induction l with
  |nil=>rintro a (h|h);cases h;exact h
  |cons p l ih =>
   rintro a (h|h)
   ·rcases aas.mp h with rfl|h
    ·exact ih _ (.inr Cf.1)
    ·exact ih _ (.inl h)
   ·exact ih _ (.inr (Cf.2 x h))
 exact key ps [] (.inl h)
theorem Hl{r ps:List Nat}(h:(aA r ps).length<2){x y:Nat}(hx:x∈ps)(hy:y∈ps):r.getD x 0=r.getD y 0:=by
 obtain⟨q,hq,Yr⟩:=AK (r:=r) hx
 obtain⟨q',hq',Ys⟩:=AK (r:=r) hy
 have e:q=q':=by
  match hp:aA r ps,h,hq,hq' with
  |[a],_,hq,hq'=>rw[aan.mp hq,aan.mp hq']
  |_::_::_,h,_,_=>simp at h;omega
 subst e
 rw[yb q hq x Yr,yb q hq y Ys]
theorem yV{ns:List Nat}{n:Nat}(h:n∈ns)(hm:∀m∈ns,m<=n):n=eV ns:=Nat.le_antisymm (DG h) (yU hm)
theorem fJ{α β:Type}{F G:α->β->Prop}:∀{xs:List α}{ys:List β},(∀a b,b∈ys->F a b->G a b)->Paired F xs ys->Paired G xs ys
 |_,_,_,.nil=>.nil
 |_,_,f,.cons q r=>.cons (f _ _ (aat ..) q) (fJ (λa b hb=>f a b (aaq _ hb)) r)
theorem oM{α β γ:Type}{G:α->β->Prop}:∀{xs:List α}{ys:List (β×γ)},Paired (λe (x:β×γ)=>G e x.1) xs ys->Paired G xs (ys.map Prod.fst)
 |_,_,.nil=>.nil
 |_,_,.cons q r=>.cons q (oM r)
theorem jK{α β:Type}{F:α->β->Prop}:∀{xs:List α}{ys:List β}{y:β},Paired F xs ys->y∈ys->∃x,F x y
 |_,_,_,.cons q r,h=>by
  rcases aas.mp h with rfl|h
  ·exact⟨_,q⟩
  ·exact jK r h
 |_,_,_,.nil,h=>by cases h
def wz(H:Hp):Nat->V->PT->List Addr->Prop
 |_,v,.leaf ps,kO=>∃t l,v=.ref t/\kO=[t,l]/\H t=some (.tup [.str ("leaf":Str),.ref l])/\H l=some (.lst (ps.map nV))
 |n+1,v,.ask i bs,kO=>∃(t l:Addr)(es:List V)(xs:List (PT×List Addr)),v=.ref t/\kO=t::l::(xs.map Prod.snd).flatten/\H t=some (.tup [.str ("ask":Str),nV i,.ref l])/\H l=some (.lst es)/\bs=xs.map Prod.fst/\Paired (λe x=>wz H n e x.1 x.2) es xs
 | 0,_,.ask _ _,_=>False
theorem wz.keep{H J:Hp}:∀{n:Nat}{v:V}{T:PT}{kO:List Addr},(∀b o,b∈kO->H b=some o->J b=some o)->wz H n v T kO->wz J n v T kO
 | 0,_,.leaf ps,_,f,⟨t,l,a,e,b,c⟩=>⟨t,l,a,e,f _ _ (by rw[e];simp) b,f _ _ (by rw[e];simp) c⟩
 |n+1,_,.leaf ps,_,f,⟨t,l,a,e,b,c⟩=>⟨t,l,a,e,f _ _ (by rw[e];simp) b,f _ _ (by rw[e];simp) c⟩
 |n+1,_,.ask i bs,_,f,⟨t,l,es,xs,a,e,b,c,d,p⟩=>by
  refine⟨t,l,es,xs,a,e,f _ _ (by rw[e];simp) b,f _ _ (by rw[e];simp) c,d,?_⟩
  have g:∀x∈xs,∀b o,b∈x.2->H b=some o->J b=some o:=λx hx b o hb h=>f b o (by rw[e];exact aaq _ (aaq _ (abe.mpr ⟨x.2,aaQ.mpr ⟨x,hx,rfl⟩,hb⟩))) h
  exact fJ (λa x hx q=>wz.keep (g x hx) q) p
theorem wz.live{H:Hp}:∀{n:Nat}{v:V}{T:PT}{kO:List Addr},wz H n v T kO->∀b∈kO,H b≠none
 | 0,_,.leaf ps,_,⟨t,l,a,e,b,c⟩,x,hx=>by
  rw[e]at hx
  rcases aas.mp hx with rfl|hx
  ·rw[b];intro z;cases z
  ·rw[aan.mp hx,c];intro z;cases z
 |n+1,_,.leaf ps,_,⟨t,l,a,e,b,c⟩,x,hx=>by
  rw[e]at hx
  rcases aas.mp hx with rfl|hx
  ·rw[b];intro z;cases z
  ·rw[aan.mp hx,c];intro z;cases z
 |n+1,_,.ask i bs,_,⟨t,l,es,xs,a,e,b,c,d,p⟩,x,hx=>by
  rw[e]at hx
  rcases aas.mp hx with rfl|hx
  ·rw[b];intro z;cases z
  rcases aas.mp hx with rfl|hx
  ·rw[c];intro z;cases z
  obtain⟨as,has,hx⟩:=abe.mp hx
  obtain⟨y,hy,rfl⟩:=aaQ.mp has
  obtain⟨w,q⟩:=jK p hy
  exact wz.live q x hx
theorem wz.MZ{A H:Hp}:∀{n:Nat}{v:V}{T:PT}{kO:List Addr},wz H n v T kO->(∀b∈kO,A b=none)->Ce A H n v T
 | 0,_,.leaf ps,_,⟨t,l,a,e,b,c⟩,f=>⟨t,l,a,f _ (by rw[e];simp),f _ (by rw[e];simp),b,c⟩
 |n+1,_,.leaf ps,_,⟨t,l,a,e,b,c⟩,f=>⟨t,l,a,f _ (by rw[e];simp),f _ (by rw[e];simp),b,c⟩
 |n+1,_,.ask i bs,_,⟨t,l,es,xs,a,e,b,c,d,p⟩,f=>by
  refine⟨t,l,es,a,f _ (by rw[e];simp),f _ (by rw[e];simp),b,c,?_⟩
  have g:∀x∈xs,∀b∈x.2,A b=none:=λx hx b hb=>f b (by rw[e];exact aaq _ (aaq _ (abe.mpr ⟨x.2,aaQ.mpr ⟨x,hx,rfl⟩,hb⟩)))
  subst d
  have p2:Paired (λe (x:PT×List Addr)=>Ce A H n e x.1) es xs:=fJ (λa x hx q=>wz.MZ q (g x hx)) p
  exact oM p2
def Cg(A H:Hp)(d:Nat)(v:V)(T:PT):Prop:=∃kO,wz H d v T kO/\kO.Nodup/\∀b∈kO,A b=none
theorem Cg.MZ{A H:Hp}{d:Nat}{v:V}{T:PT}(h:Cg A H d v T):Ce A H d v T:=by
 obtain⟨kO,h1,_,h3⟩:=h
 exact h1.MZ h3
theorem Cg.mono{A H H':Hp}{d:Nat}{v:V}{T:PT}(s:aD H H')(h:Cg A H d v T):Cg A H' d v T:=by
 obtain⟨kO,h1,h2,h3⟩:=h
 exact⟨kO,h1.keep λb o _ h=>s b o h,h2,h3⟩
theorem Cg.old{A B H:Hp}{d:Nat}{v:V}{T:PT}(f:∀b,B b=none->A b=none)(h:Cg B H d v T):Cg A H d v T:=by
 obtain⟨kO,h1,h2,h3⟩:=h
 exact⟨kO,h1,h2,λb hb=>f b (h3 b hb)⟩
def OF(A H:Hp)(d:Nat)(v:V):Option PT->Prop
 |none=>v=.non
 |some T=>Cg A H d v T
def OD(H:Hp)(d:Nat)(v:V)(x:Option PT×List Addr):Prop:=match x.1 with
 |none=>v=.non/\x.2=[]
 |some T=>wz H d v T x.2
def zW(A H:Hp)(d:Nat)(ys:List V)(os:List (Option PT)):Prop:=∃as:List (List Addr),as.length=os.length/\Paired (OD H d) ys (os.zip as)/\as.flatten.Nodup/\∀b∈as.flatten,A b=none
theorem OD.keep{H J:Hp}{d:Nat}{v:V}{x:Option PT×List Addr}(f:∀b o,b∈x.2->H b=some o->J b=some o)(h:OD H d v x):OD J d v x:=by
 obtain⟨o,as⟩:=x
 cases o with
 |none=>exact h
 |some T=>exact wz.keep f h
theorem zW.keep{A H J:Hp}{d:Nat}{ys:List V}{os:List (Option PT)}(f:∀b o,A b=none->H b=some o->J b=some o)(h:zW A H d ys os):zW A J d ys os:=by
 obtain⟨as,h1,h2,h3,h4⟩:=h
 refine⟨as,h1,?_,h3,h4⟩
 have g:∀x∈os.zip as,∀b o,b∈x.2->H b=some o->J b=some o:=λx hx b o hb h=>f b o (h4 b (abe.mpr ⟨x.2,(List.of_mem_zip hx).2,hb⟩)) h
 exact fJ (λa x hx q=>OD.keep (g x hx) q) h2
theorem DI{α β:Type}{xs:List α}{ys:List β}{x:α}{y:β}(h:ys.length=xs.length):(xs++[x]).zip (ys++[y])=xs.zip ys++[(x,y)]:=by
 rw[List.zip_append 'c'];rfl
theorem OD.live{H:Hp}{d:Nat}{v:V}{x:Option PT×List Addr}(h:OD H d v x):∀b∈x.2,H b≠none:=by
 obtain⟨o,as⟩:=x
 cases o with
 |none=>intro b hb;rw[show as=[]from h.2]at hb;cases hb
 |some T=>exact wz.live h
theorem zW.snoc{A B H:Hp}{d:Nat}{ys:List V}{os:List (Option PT)}{v:V}{o:Option PT}(h:zW A B d ys os)(s:aD B H)(hl:∀b,B b=none->A b=none)(hv:OF B H d v o):zW A H d (ys++[v]) (os++[o]):=by
 obtain⟨as,e1,e2,e3,e4⟩:=h
 have live:∀b∈as.flatten,B b≠none:=λb hb=>by
  obtain⟨x,hx,hb⟩:=abe.mp hb
  obtain⟨j,hj⟩:=abD.mp hx
  have hjl:=(aam.mp hj).1
  have hz:(os.zip as)[j]?=some (os[j]' 'c',x):=by rw[List.getElem?_zip_eq_some];exact⟨aau 'c',hj⟩
  obtain⟨w,q⟩:=jK e2 (aar hz)
  exact OD.live q b hb
 have e2:=fJ (λa x _ q=>OD.keep (J:=H) (λb o _ h=>s b o h) q) e2
 cases o with
 |none =>
  refine⟨as++[[]],by simp[e1],?_,by rw[abJ];simpa using e3,λb hb=>e4 b (by rw[abJ]at hb;simpa using hb)⟩
  rw[DI e1]
  exact bA e2 (.cons ⟨hv,rfl⟩ .nil)
 |some T =>
  obtain⟨kO,t1,t2,t3⟩:=hv
  refine⟨as++[kO],by simp[e1],?_,?_,λb hb=>?_⟩
  ·rw[DI e1];exact bA e2 (.cons t1 .nil)
  ·rw[abJ,abl]
   refine⟨e3,by simpa using t2,λa ha b hb e=>?_⟩
   have hb:b∈kO:=by simpa using hb
   rw[e]at ha
   exact live b ha (t3 b hb)
  ·rw[abJ]at hb
   rcases aaH.mp hb with q|q
   ·exact e4 b q
   ·exact hl b (t3 b (by simpa using q))
theorem zW.ot{A H:Hp}{d:Nat}{ys:List V}{os:List (Option PT)}(h:zW A H d ys os):Paired (OT A H d) ys os:=by
 obtain⟨as,e1,e2,_,e4⟩:=h
 have g:∀x∈os.zip as,∀b∈x.2,A b=none:=λx hx b hb=>e4 b (abe.mpr ⟨x.2,(List.of_mem_zip hx).2,hb⟩)
 have p2:Paired (λe (x:Option PT×List Addr)=>OT A H d e x.1) ys (os.zip as):=fJ (λa x hx q=>by
  obtain⟨o,as'⟩:=x
  cases o with
  |none=>exact q.1
  |some T=>exact wz.MZ q (g _ hx)) e2
 have:os=(os.zip as).map Prod.fst:=(List.map_fst_zip 'c').symm
 rw[this]
 exact oM p2
theorem zW.trees{A H:Hp}{d:Nat}{ys:List V}{bs:List PT}(h:zW A H d ys (bs.map some)):∃xs:List (PT×List Addr),bs=xs.map Prod.fst/\Paired (λe x=>wz H d e x.1 x.2) ys xs/\(xs.map Prod.snd).flatten.Nodup/\∀b∈(xs.map Prod.snd).flatten,A b=none:=by
 obtain⟨as,e1,e2,e3,e4⟩:=h
 have e1:as.length=bs.length:=by simpa using e1
 have ea:(bs.zip as).map Prod.snd=as:=List.map_snd_zip 'c'
 refine⟨bs.zip as,(List.map_fst_zip 'c').symm,?_,by rw[ea];exact e3,by rw[ea];exact e4⟩
 have ez:(bs.map some).zip as=(bs.zip as).map λx=>(some x.1,x.2):=by rw[List.zip_map_left];rfl
 rw[ez]at e2
 generalize bs.zip as=zs at e2
 clear ea e3 e4 e1 ez
 induction zs generalizing ys with
 |nil=>cases e2;exact .nil
 |cons z zs ih =>
  cases e2 with
  |cons q r=>exact .cons q (ih r)
theorem Ho{α β:Type}{xs:List (α×List β)}{j:Nat}{b:β}(h:b∈((xs.take j).map Prod.snd).flatten):b∈(xs.map Prod.snd).flatten:=by
 obtain⟨as,has,hb⟩:=abe.mp h
 obtain⟨x,hx,rfl⟩:=aaQ.mp has
 exact abe.mpr ⟨x.2,aaQ.mpr ⟨x,abt hx,rfl⟩,hb⟩
theorem DJ{α β:Type}:∀{xs:List (α×List β)}{j:Nat}{x:α×List β},(xs.map Prod.snd).flatten.Nodup->xs[j]?=some x->x.2.Nodup/\∀b∈((xs.take j).map Prod.snd).flatten,b∉x.2
 |y::xs,0,x,nd,h=>by
  cases h
  rw[abi,List.flatten_cons,abl]at nd
  exact⟨nd.1,λb hb=>by simp at hb⟩
 |y::xs,j+1,x,nd,h=>by
  rw[abi,List.flatten_cons,abl]at nd
  obtain⟨n1,n2,n3⟩:=nd
  have h:xs[j]?=some x:=h
  obtain⟨i1,i2⟩:=DJ n2 h
  refine⟨i1,λb hb Wq=>?_⟩
  rw[List.take_succ_cons,abi,List.flatten_cons]at hb
  rcases aaH.mp hb with q|q
  ·exact n3 b q b (abe.mpr ⟨x.2,aaQ.mpr ⟨x,aar h,rfl⟩,Wq⟩) rfl
  ·exact i2 b q Wq
 |[],_,_,_,h=>by cases h
abbrev Wr(A H:Hp)(x:fW):List V->List Str->Prop:=Paired λv z=>mV A H v (zV (runC x z) z)
abbrev rC(A H:Hp)(zs:List Str):List V->List fW->Prop:=Paired λe x=>∃a es,e=V.ref a/\A a=none/\H a=some (.lst es)/\Wr A H x es zs
theorem rC.mono{A H H':Hp}{zs:List Str}{iG:List V}{cs:List fW}(s:aD H H')(h:rC A H zs iG cs):rC A H' zs iG cs:=bg (λ_ _ ⟨a,es,e1,e2,e3,e4⟩=>⟨a,es,e1,e2,s _ _ e3,bg (λ_ _ q=>mV.mono s q) e4⟩) h
theorem rC.set{A H:Hp}{zs:List Str}{l:Addr}{o:HO}{iG:List V}{cs:List fW}(hl:A l≠none)(h:rC A H zs iG cs):rC A (upd H l o) zs iG cs:=bg (λ_ _ ⟨a,es,e1,e2,e3,e4⟩=>⟨a,es,e1,e2,(aB (λq=>hl (by rw[←q];exact e2))).trans e3,bg (λ_ _ q=>mV.set hl q) e4⟩) h
theorem rC.DK{A H:Hp}{zs:List Str}{iG:List V}{cs:List fW}(h:rC A H zs iG cs):oK A H zs iG cs:=bg (λ_ _ ⟨a,es,e1,_,e3,e4⟩=>⟨a,es,e1,e3,e4⟩) h
def neT:Nat->PT->Prop
 |_,.leaf _=>True
 | 0,.ask _ _=>True
 |n+1,.ask _ bs=>bs≠[]/\bs.length<=100/\∀b∈bs,neT n b
theorem DL{R:List (List Nat)}:∀{d:Nat}{ps:List Nat}{T:PT},ps.length<=100->aT R d ps=some T->neT d T
 | 0,ps,.leaf qs,_,_=>trivial
 |d+1,ps,.leaf qs,_,_=>trivial
 | 0,ps,.ask i bs,_,_=>trivial
 |d+1,ps,.ask i bs,hl,h=>by
  obtain⟨r,hr,h1,hm⟩:=pJ h
  have e:(aA r ps).length=bs.length:=by have:=congrArg List.length hm;simpa using this
  have hpl:=gH (r:=r) (ps:=ps)
  refine⟨λq=>by rw[q]at e;simp at e;rw[e]at h1;simp at h1,by omega,λb hb=>?_⟩
  have:some b∈(aA r ps).map (aT R d):=by rw[hm];exact aaQ.mpr ⟨b,hb,rfl⟩
  obtain⟨q,hq,e2⟩:=aaQ.mp this
  exact DL (aaz (mO hq) hl) e2
def oV:Option Nat->V
 |none=>.non
 |some b=>.int (b:Int)
theorem Hq{xs:List V}{k:Int}(h0:0<=k):((oz xs (some 3) (some (3+k))).length:Int)<=k:=by
 obtain⟨n,rfl⟩:=Int.eq_ofNat_of_zero_le h0
 unfold oz
 rw[show(3:Int)+(n:Int)=((3+n:Nat):Int) by omega,show(some (3:Int))=some ((3:Nat):Int) from rfl,HT.uD,HT.uD,aaL,List.length_drop]
 omega
theorem EB{ps:List Nat}:(ps.map nV).all dB=true:=by rw[List.all_map,aaO];exact λ_ _=>rfl
def RV:Nat->PT->Prop
 |_,.leaf ps=>ps.length<=100
 | 0,.ask _ _=>True
 |n+1,.ask _ bs=>bs.length<=100/\∀b∈bs,RV n b
theorem DM{R:List (List Nat)}:∀{d:Nat}{ps:List Nat}{T:PT},ps.length<=100->aT R d ps=some T->RV d T
 | 0,ps,.leaf qs,hl,h=>by obtain⟨rfl,_⟩:=mP h;exact hl
 |d+1,ps,.leaf qs,hl,h=>by obtain⟨rfl,_⟩:=mP h;exact hl
 | 0,ps,.ask i bs,_,_=>trivial
 |d+1,ps,.ask i bs,hl,h=>by
  obtain⟨r,hr,h1,hm⟩:=pJ h
  have e:(aA r ps).length=bs.length:=by have:=congrArg List.length hm;simpa using this
  have hpl:=gH (r:=r) (ps:=ps)
  refine⟨by omega,λb hb=>?_⟩
  have:some b∈(aA r ps).map (aT R d):=by rw[hm];exact aaQ.mpr ⟨b,hb,rfl⟩
  obtain⟨q,hq,e2⟩:=aaQ.mp this
  exact DM (aaz (mO hq) hl) e2
theorem kq:aJ ["sign","number"] ["sign"] (av gT):=⟨rfl,rfl,rfl,by decide +kernel,rfl,by decide +kernel,by decide +kernel⟩
theorem mW:aJ ["thing","least","most"] ["thing","least","most"] (av cU):=⟨rfl,rfl,rfl,by decide +kernel,rfl,by decide +kernel,by decide +kernel⟩
theorem gk:aJ ["self","parts","quotes","frees","twin","wide","thin","stray","truth"] ["self","parts","quotes","frees","twin","wide","thin","stray"] (av bf):=⟨rfl,rfl,rfl,by decide +kernel,rfl,by decide +kernel,by decide +kernel⟩
theorem tN:aJ ["self"] ["self"] (av gU):=⟨rfl,rfl,rfl,by decide +kernel,rfl,by decide +kernel,by decide +kernel⟩
theorem wA:aJ ["told"] ["told"] (av jx):=⟨rfl,rfl,rfl,by decide +kernel,rfl,by decide +kernel,by decide +kernel⟩
theorem rD:aJ ["self","dialect"] ["self","dialect"] (av fY):=⟨rfl,rfl,rfl,by decide +kernel,rfl,by decide +kernel,by decide +kernel⟩
theorem mX:aJ ["self","most"] ["self","most"] (av eF):=⟨rfl,rfl,rfl,by decide +kernel,rfl,by decide +kernel,by decide +kernel⟩
theorem oN:aJ ["text"] ["text"] (av dj):=⟨rfl,rfl,rfl,by decide +kernel,rfl,by decide +kernel,by decide +kernel⟩
theorem Ci:aJ ["thing"] ["thing"] (av qW):=⟨rfl,rfl,rfl,by decide +kernel,rfl,by decide +kernel,by decide +kernel⟩
theorem lG:aJ ["dialect","state","sign"] ["dialect","state","sign"] (av dX):=⟨rfl,rfl,rfl,by decide +kernel,rfl,by decide +kernel,by decide +kernel⟩
theorem rE:aJ ["dialect","sign"] ["dialect","sign"] (av fZ):=⟨rfl,rfl,rfl,by decide +kernel,rfl,by decide +kernel,by decide +kernel⟩
theorem vo:aJ ["dialect","quote","sign"] ["dialect","quote","sign"] (av iW):=⟨rfl,rfl,rfl,by decide +kernel,rfl,by decide +kernel,by decide +kernel⟩
theorem vp:aJ ["dialect","sign"] ["dialect","sign"] (av iX):=⟨rfl,rfl,rfl,by decide +kernel,rfl,by decide +kernel,by decide +kernel⟩
theorem rF:aJ ["dialect","quote","sign"] ["dialect","quote","sign"] (av f6):=⟨rfl,rfl,rfl,by decide +kernel,rfl,by decide +kernel,by decide +kernel⟩
theorem wB:aJ ["dialect","quote","sign"] ["dialect","quote","sign"] (av jy):=⟨rfl,rfl,rfl,by decide +kernel,rfl,by decide +kernel,by decide +kernel⟩
theorem jL:aJ ["self","state","sign","word","quote"] ["self","state","sign"] (av k6):=⟨rfl,rfl,rfl,by decide +kernel,rfl,by decide +kernel,by decide +kernel⟩
theorem wC:aJ ["thing"] ["thing"] (av jz):=⟨rfl,rfl,rfl,by decide +kernel,rfl,by decide +kernel,by decide +kernel⟩
theorem jM:aJ ["dialect","text","turn","kinds","state","sign","step"] ["dialect","text"] (av B8):=⟨rfl,rfl,rfl,by decide +kernel,rfl,by decide +kernel,by decide +kernel⟩
theorem rG:aJ ["walked","kinds","word"] ["walked"] (av u5):=⟨rfl,rfl,rfl,by decide +kernel,rfl,by decide +kernel,by decide +kernel⟩
theorem bV:aJ ["text","kinds","table","row","cell","sign","kind"] ["text","kinds"] (av oB):=⟨rfl,rfl,rfl,by decide +kernel,rfl,by decide +kernel,by decide +kernel⟩
theorem nh:aJ ["dialect","text","walked"] ["dialect","text"] (av jA):=⟨rfl,rfl,rfl,by decide +kernel,rfl,by decide +kernel,by decide +kernel⟩
theorem lH:aJ ["dialects","texts","text"] ["dialects","texts"] (av iY):=⟨rfl,rfl,rfl,by decide +kernel,rfl,by decide +kernel,by decide +kernel⟩
theorem lI:aJ ["dialects","text","tables"] ["dialects","text"] (av ef):=⟨rfl,rfl,rfl,by decide +kernel,rfl,by decide +kernel,by decide +kernel⟩
theorem iH:aJ ["readings","places","parts","place","beside"] ["readings","places"] (av jB):=⟨rfl,rfl,rfl,by decide +kernel,rfl,by decide +kernel,by decide +kernel⟩
theorem pK:aJ ["all_readings","places"] ["all_readings","places"] (av dP):=⟨rfl,rfl,rfl,by decide +kernel,rfl,by decide +kernel,by decide +kernel⟩
theorem dG:aJ ["all_readings","places","depth","at","readings","parts","branches"] ["all_readings","places","depth"] (av fO):=⟨rfl,rfl,rfl,by decide +kernel,rfl,by decide +kernel,by decide +kernel⟩
theorem eH:aJ ["dialects","texts","all_readings","places","depth","tree"] ["dialects","texts"] (av mL):=⟨rfl,rfl,rfl,by decide +kernel,rfl,by decide +kernel,by decide +kernel⟩
theorem AL:aJ ["tree"] ["tree"] (av jC):=⟨rfl,rfl,rfl,by decide +kernel,rfl,by decide +kernel,by decide +kernel⟩
theorem tO:aJ ["_law_script","_law_k"] ["_law_script","_law_k"] (av gW):=⟨rfl,rfl,rfl,by decide +kernel,rfl,by decide +kernel,by decide +kernel⟩
theorem i7:aJ ["_law_number_here","_law_salt","_law_one","_law_two"] ["_law_number_here","_law_salt"] (av jD):=⟨rfl,rfl,rfl,by decide +kernel,rfl,by decide +kernel,by decide +kernel⟩
theorem gZ:aJ ["_law_cell","_law_salt","_law_number_here","_law_high"] ["_law_cell","_law_salt"] (av iZ):=⟨rfl,rfl,rfl,by decide +kernel,rfl,by decide +kernel,by decide +kernel⟩
theorem dS:aJ ["_law_number_here","_law_many","_law_menu_here","_law_found","_law_k","_law_sign"] ["_law_number_here","_law_many","_law_menu_here"] (av k7):=⟨rfl,rfl,rfl,by decide +kernel,rfl,by decide +kernel,by decide +kernel⟩
theorem ni:aJ ["_law_way","_law_every"] ["_law_way"] (av jE):=⟨rfl,rfl,rfl,by decide +kernel,rfl,by decide +kernel,by decide +kernel⟩
theorem bz:aJ ["_law_cell","_law_number_here","_law_flags","_law_sizes","_law_menus_here","_law_parts_here","_law_quotes","_law_frees","_law_truths"] ["_law_cell"] (av k8):=⟨rfl,rfl,rfl,by decide +kernel,rfl,by decide +kernel,by decide +kernel⟩
theorem c7:aJ ["_law_cell","_law_many","_law_number_here","_law_found","_law_k"] ["_law_cell","_law_many"] (av gB):=⟨rfl,rfl,rfl,by decide +kernel,rfl,by decide +kernel,by decide +kernel⟩
theorem cH:aJ ["_law_told_here","_law_state","_law_sign","_law_parts_here","_law_quotes","_law_frees","_law_twin","_law_wide","_law_thin","_law_stray"] ["_law_told_here","_law_state","_law_sign"] (av k9):=⟨rfl,rfl,rfl,by decide +kernel,rfl,by decide +kernel,by decide +kernel⟩
theorem bO:aJ ["_law_told_here","_law_state","_law_sign","_law_parts_here","_law_quotes","_law_frees","_law_twin","_law_wide","_law_thin","_law_stray","_law_word","_law_quote"] ["_law_told_here","_law_state","_law_sign"] (av lg):=⟨rfl,rfl,rfl,by decide +kernel,rfl,by decide +kernel,by decide +kernel⟩
theorem cj:aJ ["_law_told_here","_law_text_here","_law_state","_law_kinds","_law_k","_law_kind","_law_then"] ["_law_told_here","_law_text_here"] (av i0):=⟨rfl,rfl,rfl,by decide +kernel,rfl,by decide +kernel,by decide +kernel⟩
theorem eg:aJ ["_law_text_here","_law_kinds","_law_table_here","_law_row","_law_k"] ["_law_text_here","_law_kinds"] (av jF):=⟨rfl,rfl,rfl,by decide +kernel,rfl,by decide +kernel,by decide +kernel⟩
theorem lJ:aJ ["_law_told_here","_law_x","_law_way","_law_some_here"] ["_law_told_here","_law_x"] (av oE):=⟨rfl,rfl,rfl,by decide +kernel,rfl,by decide +kernel,by decide +kernel⟩
theorem eo:aJ ["_law_cells","_law_many","_law_tolds_here","_law_k","_law_cell","_law_xs"] ["_law_cells","_law_many"] (av jG):=⟨rfl,rfl,rfl,by decide +kernel,rfl,by decide +kernel,by decide +kernel⟩
theorem g8:aJ ["_law_told_here","_law_text_here","_law_kinds","_law_word"] ["_law_told_here","_law_text_here"] (av i6):=⟨rfl,rfl,rfl,by decide +kernel,rfl,by decide +kernel,by decide +kernel⟩
theorem fP:aJ ["_law_answers","_law_at","_law_places","_law_parts_here","_law_place","_law_same"] ["_law_answers","_law_at","_law_places"] (av gC):=⟨rfl,rfl,rfl,by decide +kernel,rfl,by decide +kernel,by decide +kernel⟩
theorem e7:aJ ["_law_tolds_here","_law_menu_here","_law_told_here","_law_sign"] ["_law_tolds_here"] (av lu):=⟨rfl,rfl,rfl,by decide +kernel,rfl,by decide +kernel,by decide +kernel⟩
theorem e9:aJ ["_law_cell","_law_tolds_here","_law_most","_law_xs","_law_menu_here","_law_text_here"] ["_law_cell","_law_tolds_here","_law_most"] (av iD):=⟨rfl,rfl,rfl,by decide +kernel,rfl,by decide +kernel,by decide +kernel⟩
theorem c9:aJ ["_law_answers","_law_many","_law_places","_law_least_here","_law_at","_law_parts_here","_law_deep"] ["_law_answers","_law_many","_law_places"] (av gD):=⟨rfl,rfl,rfl,by decide +kernel,rfl,by decide +kernel,by decide +kernel⟩
theorem fQ:aJ ["_law_answers","_law_many","_law_tree","_law_places","_law_alike","_law_parts_here","_law_depths"] ["_law_answers","_law_many","_law_tree","_law_places"] (av dQ):=⟨rfl,rfl,rfl,by decide +kernel,rfl,by decide +kernel,by decide +kernel⟩
theorem nj:aJ ["_law_tree","_law_branch"] ["_law_tree"] (av jH):=⟨rfl,rfl,rfl,by decide +kernel,rfl,by decide +kernel,by decide +kernel⟩
theorem i8:aJ ["_law_script","_law_tolds_here","_law_texts","_law_lent","_law_answers","_law_places","_law_due","_law_turn","_law_tree"] ["_law_script"] (av kj):=⟨rfl,rfl,rfl,by decide +kernel,rfl,by decide +kernel,by decide +kernel⟩
structure Txt(P:Program)(w:World)(base:Heap)(K:W.Frag)(mg:Str->Option Value)(aF:Nat->Addr)(aN:Nat->FuncData)(cV:Nat->Str):Prop where
 g9:eB K "is_printable" "is_printable" gT (aF 0) (aN 0)
 lK:Binds K (aN 0) ["sign"] []
 lM:mg "is_printable"=some (.ref (aF 0))
 cW:eB K "are_unlike_signs" "are_unlike_signs" cU (aF 1) (aN 1)
 eN:Binds K (aN 1) ["thing","least","most"] []
 eO:mg "are_unlike_signs"=some (.ref (aF 1))
 oO:Iz K "__init__" "Dialect.__init__" bf (aF 2) (aN 2) (.ref (aF 60))
 oQ:Binds K (aN 2) ["self","parts","quotes","frees","twin","wide","thin","stray"] []
 vq:eB K "told" "Dialect.told" gU (aF 3) (aN 3)
 lN:Binds K (aN 3) ["self"] []
 lO:Meth K (aF 49) "told" (aF 3)
 jN:eB K "dialect_of" "dialect_of" jx (aF 4) (aN 4)
 pL:Binds K (aN 4) ["told"] []
 pM:mg "dialect_of"=some (.ref (aF 4))
 tP:eB K "__init__" "Turn.__init__" fY (aF 5) (aN 5)
 tQ:Binds K (aN 5) ["self","dialect"] []
 oR:eB K "__init__" "TooMany.__init__" eF (aF 6) (aN 6)
 ia:Binds K (aN 6) ["self","most"] []
 iI:eB K "has_signs_alone" "has_signs_alone" dj (aF 7) (aN 7)
 pN:Binds K (aN 7) ["text"] []
 pO:mg "has_signs_alone"=some (.ref (aF 7))
 yc:eB K "is_text" "is_text" qW (aF 8) (aN 8)
 EC:Binds K (aN 8) ["thing"] []
 ED:mg "is_text"=some (.ref (aF 8))
 gm:eB K "step_at_beginning" "step_at_beginning" dX (aF 9) (aN 9)
 mY:Binds K (aN 9) ["dialect","state","sign"] []
 mZ:mg "step_at_beginning"=some (.ref (aF 9))
 kr:eB K "step_in_plain" "step_in_plain" fZ (aF 10) (aN 10)
 tR:Binds K (aN 10) ["dialect","sign"] []
 tS:mg "step_in_plain"=some (.ref (aF 10))
 nk:eB K "step_within" "step_within" iW (aF 11) (aN 11)
 wD:Binds K (aN 11) ["dialect","quote","sign"] []
 wF:mg "step_within"=some (.ref (aF 11))
 i9:eB K "step_behind" "step_behind" iX (aF 12) (aN 12)
 nq:Binds K (aN 12) ["dialect","sign"] []
 nu:mg "step_behind"=some (.ref (aF 12))
 ku:eB K "step_in_doubt" "step_in_doubt" f6 (aF 13) (aN 13)
 tU:Binds K (aN 13) ["dialect","quote","sign"] []
 tV:mg "step_in_doubt"=some (.ref (aF 13))
 pP:eB K "step_freed" "step_freed" jy (aF 14) (aN 14)
 yW:Binds K (aN 14) ["dialect","quote","sign"] []
 yX:mg "step_freed"=some (.ref (aF 14))
 AM:eB K "step" "Turn.step" k6 (aF 15) (aN 15)
 AO:Binds K (aN 15) ["self","state","sign"] []
 AQ:Meth K (aF 50) "step" (aF 15)
 jO:eB K "check_text" "check_text" jz (aF 16) (aN 16)
 pQ:Binds K (aN 16) ["thing"] []
 pR:mg "check_text"=some (.ref (aF 16))
 Hr:eB K "walk" "walk" B8 (aF 17) (aN 17)
 LO:Binds K (aN 17) ["dialect","text"] []
 LP:mg "walk"=some (.ref (aF 17))
 AR:eB K "end_of" "end_of" u5 (aF 18) (aN 18)
 Hs:Binds K (aN 18) ["walked"] []
 Ht:mg "end_of"=some (.ref (aF 18))
 vt:eB K "table_of" "table_of" oB (aF 19) (aN 19)
 Cj:Binds K (aN 19) ["text","kinds"] []
 Ck:mg "table_of"=some (.ref (aF 19))
 pS:eB K "reading_of" "reading_of" jA (aF 20) (aN 20)
 yY:Binds K (aN 20) ["dialect","text"] []
 yZ:mg "reading_of"=some (.ref (aF 20))
 ny:eB K "check_asked" "check_asked" iY (aF 21) (aN 21)
 wG:Binds K (aN 21) ["dialects","texts"] []
 wH:mg "check_asked"=some (.ref (aF 21))
 nA:eB K "readings_of" "readings_of" ef (aF 22) (aN 22)
 wI:Binds K (aN 22) ["dialects","text"] []
 wJ:mg "readings_of"=some (.ref (aF 22))
 oS:eB K "parts_of" "parts_of" jB (aF 23) (aN 23)
 vv:Binds K (aN 23) ["readings","places"] []
 vz:mg "parts_of"=some (.ref (aF 23))
 jh:eB K "are_read_alike" "are_read_alike" dP (aF 24) (aN 24)
 rH:Binds K (aN 24) ["all_readings","places"] []
 rJ:mg "are_read_alike"=some (.ref (aF 24))
 ja:eB K "tree_within" "tree_within" fO (aF 25) (aN 25)
 nB:Binds K (aN 25) ["all_readings","places","depth"] []
 nC:mg "tree_within"=some (.ref (aF 25))
 yd:eB K "tree_of" "tree_of" mL (aF 26) (aN 26)
 EE:Binds K (aN 26) ["dialects","texts"] []
 EF:mg "tree_of"=some (.ref (aF 26))
 jP:eB K "depth_of" "depth_of" jC (aF 27) (aN 27)
 oU:Binds K (aN 27) ["tree"] []
 oW:mg "depth_of"=some (.ref (aF 27))
 dH:eB K "_law_cell_at" "_law_cell_at" gW (aF 28) (aN 28)
 ff:Binds K (aN 28) ["_law_script","_law_k"] []
 fh:mg "_law_cell_at"=some (.ref (aF 28))
 fj:eB K "_law_mixed" "_law_mixed" jD (aF 29) (aN 29)
 gE:Binds K (aN 29) ["_law_number_here","_law_salt"] []
 gF:mg "_law_mixed"=some (.ref (aF 29))
 nD:eB K "_law_number" "_law_number" iZ (aF 30) (aN 30)
 wK:Binds K (aN 30) ["_law_cell","_law_salt"] []
 wL:mg "_law_number"=some (.ref (aF 30))
 iJ:eB K "_law_some" "_law_some" k7 (aF 31) (aN 31)
 lP:Binds K (aN 31) ["_law_number_here","_law_many","_law_menu_here"] []
 lQ:mg "_law_some"=some (.ref (aF 31))
 pT:eB K "_law_menus" "_law_menus" jE (aF 32) (aN 32)
 za:Binds K (aN 32) ["_law_way"] []
 zb:mg "_law_menus"=some (.ref (aF 32))
 sC:eB K "_law_told" "_law_told" k8 (aF 33) (aN 33)
 AS:Binds K (aN 33) ["_law_cell"] []
 AU:mg "_law_told"=some (.ref (aF 33))
 jQ:eB K "_law_drawn" "_law_drawn" gB (aF 34) (aN 34)
 pU:Binds K (aN 34) ["_law_cell","_law_many"] []
 pV:mg "_law_drawn"=some (.ref (aF 34))
 sE:eB K "_law_open" "_law_open" k9 (aF 35) (aN 35)
 AV:Binds K (aN 35) ["_law_told_here","_law_state","_law_sign"] []
 AW:mg "_law_open"=some (.ref (aF 35))
 sF:eB K "_law_step" "_law_step" lg (aF 36) (aN 36)
 AX:Binds K (aN 36) ["_law_told_here","_law_state","_law_sign"] []
 AY:mg "_law_step"=some (.ref (aF 36))
 nE:eB K "_law_walked" "_law_walked" i0 (aF 37) (aN 37)
 wM:Binds K (aN 37) ["_law_told_here","_law_text_here"] []
 wN:mg "_law_walked"=some (.ref (aF 37))
 pW:eB K "_law_table" "_law_table" jF (aF 38) (aN 38)
 zc:Binds K (aN 38) ["_law_text_here","_law_kinds"] []
 zd:mg "_law_table"=some (.ref (aF 38))
 vA:eB K "_law_kin" "_law_kin" oE (aF 39) (aN 39)
 Cm:Binds K (aN 39) ["_law_told_here","_law_x"] []
 Cn:mg "_law_kin"=some (.ref (aF 39))
 pX:eB K "_law_tolds" "_law_tolds" jG (aF 40) (aN 40)
 ze:Binds K (aN 40) ["_law_cells","_law_many"] []
 zf:mg "_law_tolds"=some (.ref (aF 40))
 nF:eB K "_law_answer" "_law_answer" i6 (aF 41) (aN 41)
 wO:Binds K (aN 41) ["_law_told_here","_law_text_here"] []
 wQ:mg "_law_answer"=some (.ref (aF 41))
 jR:eB K "_law_parts" "_law_parts" gC (aF 42) (aN 42)
 pY:Binds K (aN 42) ["_law_answers","_law_at","_law_places"] []
 pZ:mg "_law_parts"=some (.ref (aF 42))
 sI:eB K "_law_menu" "_law_menu" lu (aF 43) (aN 43)
 AZ:Binds K (aN 43) ["_law_tolds_here"] []
 A6:mg "_law_menu"=some (.ref (aF 43))
 sL:eB K "_law_text" "_law_text" iD (aF 44) (aN 44)
 A9:Binds K (aN 44) ["_law_cell","_law_tolds_here","_law_most"] []
 Ba:mg "_law_text"=some (.ref (aF 44))
 jS:eB K "_law_least" "_law_least" gD (aF 45) (aN 45)
 p7:Binds K (aN 45) ["_law_answers","_law_many","_law_places"] []
 p8:mg "_law_least"=some (.ref (aF 45))
 jT:eB K "_law_depth" "_law_depth" dQ (aF 46) (aN 46)
 p9:Binds K (aN 46) ["_law_answers","_law_many","_law_tree","_law_places"] []
 qa:mg "_law_depth"=some (.ref (aF 46))
 jU:eB K "_law_spoil" "_law_spoil" jH (aF 47) (aN 47)
 qb:Binds K (aN 47) ["_law_tree"] []
 qc:mg "_law_spoil"=some (.ref (aF 47))
 Og:eB K "law" "law" kj (aF 48) (aN 48)
 Ws:Binds K (aN 48) ["_law_script"] []
 Wt:mg "law"=some (.ref (aF 48))
 aM:E7 K (aF 49)
 EG:mg "Dialect"=some (.ref (aF 49))
 EH:Mk K (aF 49) (aF 2)
 bR:eX K (aF 49) "parts"
 bY:eX K (aF 49) "quotes"
 bS:eX K (aF 49) "frees"
 dI:eX K (aF 49) "twin"
 cN:eX K (aF 49) "wide"
 cO:eX K (aF 49) "thin"
 cZ:eX K (aF 49) "stray"
 iK:E7 K (aF 50)
 LQ:mg "Turn"=some (.ref (aF 50))
 LR:Mk K (aF 50) (aF 5)
 bE:eX K (aF 50) "dialect"
 vB:mg "DialectError"=some (.ref (aF 51))
 dJ:wm K (aF 51) (aF 52) qR none
 tW:Wi K (aF 51)
 Hu:mg "NoText"=some (.ref (aF 53))
 Hv:wm K (aF 53) (aF 54) (.ref (aF 51)::qR) none
 Km:mg "NoDialect"=some (.ref (aF 55))
 Kn:wm K (aF 55) (aF 56) (.ref (aF 51)::qR) none
 ye:mg "TooMany"=some (.ref (aF 57))
 mQ:wm K (aF 57) (aF 58) (.ref (aF 51)::qR) (some (.ref (aF 6)))
 sM:W.keepIn K (.ref (aF 57))=true
 jV:∃oI:Obj,K.lookup (aF 6)=some oI/\oI.cls=.type "function"
 tX:Qh K (aF 57) "most"
 Co:mg "all"=none
 LS:mg "any"=none
 uH:mg "bool"=none
 zg:mg "enumerate"=none
 Cp:mg "int"=none
 bw:mg "isinstance"=none
 bF:mg "len"=none
 jW:mg "list"=none
 zh:mg "max"=none
 LU:mg "ord"=none
 dM:mg "range"=none
 Cq:mg "str"=none
 vC:mg "tuple"=none
 LV:mg "zip"=none
 mR:∃t,mg "LINE"=some (.str (cV 0) t)
 jX:(cV 0)=("\n":Str)
 wR:∃t,mg "MOST_SIGNS"=some (.int 2000 t)
 lR:∃t,mg "MOST_SORTED"=some (.int 8 t)
 nG:∃t,mg "MOST_TEXTS"=some (.int 6 t)
 lS:mg "START"=some (.ref (aF 59))
 lT:∃(o:Obj)(its:Array Value)(n:Nat),K.lookup (aF 59)=some o/\o.cls=.type "tuple"/\o.data=.seq its n/\its.size<=sizeLine/\Vals [.str ("row":Str),.str ("":Str)] its.toList
section
variable{P:Program}{w:World}{K:W.Frag}{mg:Str->Option Value}{base:Heap}{aF:Nat->Addr}{aN:Nat->FuncData}{cV:Nat->Str}
inductive kB(vs:List V)(H:Hp)(Q:VK)(E_:XK):Prop where
 |mk (c:Nat):(vs=[.str (sg c)])->(Q (.bl (decide (Pn c))) H)->kB vs H Q E_
section
variable(T:Txt P w base K mg aF aN cV)
include T
abbrev zzz(_:Txt P w base K mg aF aN cV)(e)(n i:Nat)(a b):=aW P w K mg base e n (aF i) (aN i) a b
theorem kC:zzz T dW 1 0 ["sign"] kB:=by
 refine T.g9.ok kq 'e' 'a'
 ·obtain⟨c,rfl,_⟩:=h;rfl
 ·have hu:=aY hr
  obtain⟨c,rfl,k⟩:=h
  refine⟨_,(ah (di 1 kq.nd (gA Fy T.LU (af (pv 0) ai)))
   (ak (az (yl (Es JV (pv 1) ao) (yl (Es Nz (pv 1) ao) (yk (Es ki (pv 1) ao))))))),?_⟩
  refine⟨_,O,_,O,O,?_⟩
  refine⟨_,O,_,_,O,O,_,O,aS (λh1=>?_) (λh1=>?_)⟩
  ·have h1:(32:Int)<=((c:Nat):Int):=aa0 h1
   refine⟨_,O,_,_,O,O,_,O,aS (λh2=>?_) (λh2=>?_)⟩
   ·have h2:((c:Nat):Int)<=126:=aa0 h2
    refine⟨_,O,O,?_⟩
    have e:(!decide (V.int ((c:Nat):Int)=V.int 37))=decide (Pn c):=by
     by_cases h3:c=37
     ·subst h3;decide
     ·have n1:¬(V.int ((c:Nat):Int)=V.int 37):=λz=>h3 (by injection z with z;omega)
      rw[aax n1,aay (show Pn c from⟨by omega,by omega,h3⟩)];rfl
    show Q (.bl (!decide (V.int ((c:Nat):Int)=V.int 37))) H
    rw[e];exact k
   ·have e:decide (((c:Nat):Int)<=126)=decide (Pn c):=by
     have n1:¬((c:Nat):Int)<=126:=λz=>h2 (aay z)
     rw[aax n1,aax (λz:Pn c=>n1 (by have:=z.2.1;omega))]
    rw[←e,show decide (((c:Nat):Int)<=126)=false from Bool.eq_false_iff.mpr h2]at k
    exact k
  ·have e:decide ((32:Int)<=((c:Nat):Int))=decide (Pn c):=by
    have n1:¬(32:Int)<=((c:Nat):Int):=λz=>h1 (aay z)
    rw[aax n1,aax (λz:Pn c=>n1 (by have:=z.1;omega))]
   rw[←e,show decide ((32:Int)<=((c:Nat):Int))=false from Bool.eq_false_iff.mpr h1]at k
   exact k
inductive gn(vs:List V)(H:Hp)(Q:VK)(E_:XK):Prop where
 |mk (z:Str) (lo hi:Int):(vs=[.str z,.int lo,.int hi])->(Sg z)->(lo<=z.length)->((z.length:Int)<=hi)->(z.length<=1000)->(∀H',aD H H'->Q (.bl true) H')->gn vs H Q E_
theorem m5:zzz T dW 2 1 ["thing","least","most"] gn:=by
 have ic:=kC T
 refine T.cW.ok mW 'e' 'a'
 ·obtain⟨z,lo,hi,rfl,_⟩:=h;rfl
 ·have hu:=aY hr
  obtain⟨z,lo,hi,rfl,g,hlo,hhi,hz,k⟩:=h
  have vY:z.length<=sizeLine:=aaz hz 'b'
  refine⟨_,(ah (aH (PW.pt (fU (dh (bP (gA (bM K rfl) T.bw (af (pv 0) (af (GX "str" T.Cq) ai))))) (fU (bX m9 (gA cQ T.bF (af (pv 0) ai)) (pv 1)) (gJ (bX sj (gA cQ T.bF (af (pv 0) ai)) (pv 2)))))) (ak (az C8)) ay)
   (ak (az (gA (qP K rfl rfl) T.Co (af (cT rfl (show aR ["thing","least","most"] (av cU) ["sign","thing"] 1 [0] _ from yM) (yE (pv 0)) (λ_ _ _ _=>(d8 0 (show(["sign","thing"]:List Str).Nodup by decide +kernel))) (λ_ _ _ _=>cB) (λ_ _ _ _=>(yl (eU ic hr T.lM T.g9.kp T.lK (af (pv 0) ai)) (yk (Es aP (cI K rfl PySem.F.plainAttrs_str PySem.F.slot_str_count PySem.F.type_str_count Ak (pv 1) (af (pv 0) ai)) ao))))) ai))))),?_⟩
  refine⟨_,O,_,_,_,true,O,.str _,.inl ⟨_,O,O⟩,true,O,bW ?_⟩
  refine⟨_,O,z,O,vY,_,O,_,_,O,O,_,O,Kf 'c' ?_⟩
  refine⟨_,O,z,O,vY,_,O,_,_,O,O,_,O,Kf 'c' ?_⟩
  refine⟨_,O,z,O,λD hD=>?_⟩
  have hsz:z.cps.toList.length=z.length:=by rw[aaE];rfl
  refine Ai (λi ys τ H2=>(∃v,τ=[v,some (.str z)])/\aD H H2/\H2 D=some (.lst ys)/\ys=(List.replicate i true).map V.bl) ⟨⟨_,rfl⟩,aq hD,aj,rfl⟩ (λi ys τ H2 _ p=>p.2.2.1) ?_ ?_
  ·rintro i c ys τ H2 hi ⟨⟨v,rfl⟩,s2,hl,rfl⟩
   have hc:c∈z.cps.toList:=aar hi
   have hil:i<z.cps.toList.length:=(aam.mp hi).1
   refine kM ?_
   refine⟨_,O,c,O,_,O,u6 (aay (g.pr c hc)) ?_⟩
   refine⟨_,O,O,_,O,z,c,O,O,O,?_⟩
   have e:decide (V.int (PyProof.Rows.cnt c z.cps.toList)=V.int 1)=true:=by rw[Dj g.nd hc];exact aay rfl
   rw[e]
   refine⟨hl,?_,⟨_,O⟩,aG hD s2,aj,?_⟩
   ·rw[aaj,abg]
    exact aaF (show i<1001 by omega) 'b'
   ·rw[List.replicate_succ',aaI];rfl
  ·rintro ys τ H2 ⟨⟨v,rfl⟩,s2,hl,rfl⟩
   refine⟨D,List.replicate _ true,O,aK.of hl,?_⟩
   have e:(List.replicate z.cps.toList.length true).all id=true:=by
    rw[aaO]
    intro b hb
    exact(List.mem_replicate.mp hb).2
   rw[e]
   exact k H2 s2
inductive gu(C:Addr)(vs:List V)(H:Hp)(Q:VK)(E_:XK):Prop where
 |mk (x dx:Addr) (p q f:Str) (b1 b2 b3 b4:Bool):(vs=.ref x::ng p q f b1 b2 b3 b4)->(H x=some (.ins C dx []))->(Gd p q f)->(∀H',H' x=some (.ins C dx (Dr p q f b1 b2 b3 b4))->(∀b o,H b=some o->b≠x->H' b=some o)->Q .non H')->gu C vs H Q E_
theorem m6:zzz T dW 3 2 ["self","parts","quotes","frees","twin","wide","thin","stray"] (gu (aF 49)):=by
 have eS:=m5 T
 refine T.oO.ok gk 'e' 'a'
 ·obtain⟨x,dx,p,q,f,b1,b2,b3,b4,rfl,_⟩:=h;rfl
 ·have hu:=aY hr
  obtain⟨x,dx,p,q,f,b1,b2,b3,b4,rfl,hx,g,k⟩:=h
  have hp1:=g.p1;have hp3:=g.p3;have hq2:=g.q2;have hf2:=g.f2
  refine⟨_,(ah (aH (dh (bP (eU eS hr T.eO T.cW.kp T.eN (af (pv 1) (af ao (af ao ai)))))) (ak kR) ay)
   (ah (aH (dh (bP (eU eS hr T.eO T.cW.kp T.eN (af (pv 2) (af ao (af ao ai)))))) (ak kR) ay)
   (ah (aH (dh (bP (eU eS hr T.eO T.cW.kp T.eN (af (pv 3) (af ao (af ao ai)))))) (ak kR) ay)
   (ah (dm aaX rfl (Iw K rfl (aC (af (pv 4) (af (pv 5) (af (pv 6) (af (pv 7) ai)))))) (d8 8 gk.nd)
   (ak (aH (dh (bP (gA (bM K rfl) T.bw (af (pv 8) (af (GX "bool" T.uH) ai))))) (ak kR) ay)))
   (ah (kX (pv 0) (pv 1) rfl)
   (ah (kX (pv 0) (pv 2) rfl)
   (ah (kX (pv 0) (pv 3) rfl)
   (ah (kX (pv 0) (pv 4) rfl)
   (ah (kX (pv 0) (pv 5) rfl)
   (ah (kX (pv 0) (pv 6) rfl)
   (ak (kX (pv 0) (pv 7) rfl)))))))))))),?_⟩
  refine⟨_,O,p,1,3,O,g.gp,by omega,by omega,by omega,λH1 s1=>⟨true,O,bW ?_⟩⟩
  refine⟨_,O,q,0,2,O,g.gq,by omega,by omega,by omega,λH2 s2=>⟨true,O,bW ?_⟩⟩
  refine⟨_,O,f,0,2,O,g.gf,by omega,by omega,by omega,λH3 s3=>⟨true,O,bW ?_⟩⟩
  refine⟨_,O,_,O,_,O,_,O,(by show 4<=sizeLine;decide),λt ht=>⟨t,O,⟨_,bH.of aj⟩,?_⟩⟩
  have RW:aD H (upd H3 t (.tup [.bl b1,.bl b2,.bl b3,.bl b4])):=((s1.trans s2).trans s3).trans (aq ht)
  have Ql:(upd H3 t (.tup [.bl b1,.bl b2,.bl b3,.bl b4])) t=some (.tup [.bl b1,.bl b2,.bl b3,.bl b4]):=aj
  generalize upd H3 t (.tup [.bl b1,.bl b2,.bl b3,.bl b4])=H4 at RW Ql⊢
  refine HY (K:=K) (a:=t) (xs:=[.bl b1,.bl b2,.bl b3,.bl b4]) (λi σ H5=>H5=H4/\∃v,σ=[some (.ref x),some (.str p),some (.str q),some (.str f),some (.bl b1),some (.bl b2),some (.bl b3),some (.bl b4),v]) ⟨rfl,_,rfl⟩ (λi σ H5 _ q=>by rw[q.1];exact bH.of Ql) ?_ ?_
  ·rintro i y σ H5 hi ⟨rfl,v,rfl⟩
   obtain⟨b,rfl⟩:∃b,y=V.bl b:=by
    have Yt:i<4:=(aam.mp hi).1
    match i,Yt,hi with
    | 0,_,hi=>exact⟨_,(aaA hi).symm⟩
    | 1,_,hi=>exact⟨_,(aaA hi).symm⟩
    | 2,_,hi=>exact⟨_,(aaA hi).symm⟩
    | 3,_,hi=>exact⟨_,(aaA hi).symm⟩
   refine⟨_,O,_,_,_,true,O,.bl _,.inl ⟨_,O,O⟩,true,O,bW ?_⟩
   exact⟨O,_,O⟩
  ·rintro σ H5 ⟨rfl,v,rfl⟩
   have Yu:=RW _ _ hx
   refine⟨_,O,_,O,x,(aF 49),dx,_,O,Yu,T.aM,T.bR,(by show 0<1000;decide),_,O,_,O,x,(aF 49),dx,_,O,aj,T.aM,T.bY,(by show 1<1000;decide),_,O,_,O,x,(aF 49),dx,_,O,aj,T.aM,T.bS,(by show 2<1000;decide),_,O,_,O,x,(aF 49),dx,_,O,aj,T.aM,T.dI,(by show 3<1000;decide),_,O,_,O,x,(aF 49),dx,_,O,aj,T.aM,T.cN,(by show 4<1000;decide),_,O,_,O,x,(aF 49),dx,_,O,aj,T.aM,T.cO,(by show 5<1000;decide),_,O,_,O,x,(aF 49),dx,_,O,aj,T.aM,T.cZ,(by show 6<1000;decide),?_⟩
   refine k _ aj λb o e hb=>?_
   rw[aB hb,aB hb,aB hb,aB hb,aB hb,aB hb,aB hb]
   exact RW _ _ e
inductive kD(C:Addr)(vs:List V)(H:Hp)(Q:VK)(E_:XK):Prop where
 |mk (x dx:Addr) (p q f:Str) (b1 b2 b3 b4:Bool):(vs=[.ref x])->(H x=some (.ins C dx (Dr p q f b1 b2 b3 b4)))->(∀t,H t=none->Q (.ref t) (upd H t (.tup (ng p q f b1 b2 b3 b4))))->kD C vs H Q E_
theorem kF:zzz T dW 1 3 ["self"] (kD (aF 49)):=by
 refine T.vq.ok tN 'e' 'a'
 ·obtain⟨x,dx,p,q,f,b1,b2,b3,b4,rfl,_⟩:=h;rfl
 ·have hu:=aY hr
  obtain⟨x,dx,p,q,f,b1,b2,b3,b4,rfl,hx,k⟩:=h
  refine⟨_,(ak (az (aC (af (bh K rfl (pv 0) rfl) (af (bh K rfl (pv 0) rfl) (af (bh K rfl (pv 0) rfl) (af (bh K rfl (pv 0) rfl) (af (bh K rfl (pv 0) rfl) (af (bh K rfl (pv 0) rfl) (af (bh K rfl (pv 0) rfl) ai)))))))))),?_⟩
  refine⟨_,O,x,(aF 49),dx,_,_,O,hx,T.aM,T.bR,O,_,O,x,(aF 49),dx,_,_,O,hx,T.aM,T.bY,O,_,O,x,(aF 49),dx,_,_,O,hx,T.aM,T.bS,O,_,O,x,(aF 49),dx,_,_,O,hx,T.aM,T.dI,O,_,O,x,(aF 49),dx,_,_,O,hx,T.aM,T.cN,O,_,O,x,(aF 49),dx,_,_,O,hx,T.aM,T.cO,O,_,O,x,(aF 49),dx,_,_,O,hx,T.aM,T.cZ,O,(by show 7<=sizeLine;decide),λt ht=>?_⟩
  exact k t ht
inductive nH(C:Addr)(vs:List V)(H:Hp)(Q:VK)(E_:XK):Prop where
 |mk (t:Addr) (p q f:Str) (b1 b2 b3 b4:Bool):(vs=[.ref t])->(H t=some (.tup (ng p q f b1 b2 b3 b4)))->(Gd p q f)->(∀(x dx:Addr)(H':Hp),H x=none->H' x=some (.ins C dx (Dr p q f b1 b2 b3 b4))->aD H H'->Q (.ref x) H')->nH C vs H Q E_
theorem nI:zzz T dW 5 4 ["told"] (nH (aF 49)):=by
 have oX:=m6 T
 refine T.jN.ok wA 'e' 'a'
 ·obtain⟨t,p,q,f,b1,b2,b3,b4,rfl,_⟩:=h;rfl
 ·have hu:=aY hr
  obtain⟨t,p,q,f,b1,b2,b3,b4,rfl,ht,g,k⟩:=h
  have hS:bH K H t (ng p q f b1 b2 b3 b4):=bH.of ht
  refine⟨_,(ah (aH (PW.pt (fU (dh (bP (gA (Al K rfl) T.bw (af (pv 0) (af (GX "tuple" T.vC) ai))))) (gJ (bX ki (gA (aL K rfl) T.bF (af (pv 0) ai)) ao)))) (ak kR) ay)
   (ak (az (De (k:=3) T.EH oX (hr.mono 'b') rfl T.EG T.oQ .nil xR (af (jt K (pv 0) ao) (af (jt K (pv 0) ao) (af (jt K (pv 0) ao) (af (jt K (pv 0) ao) (af (jt K (pv 0) ao) (af (jt K (pv 0) ao) (af (jt K (pv 0) ao) ai))))))))))),?_⟩
  refine⟨_,O,t,_,_,true,O,.inl ⟨hS,O⟩,true,O,bW ?_⟩
  refine⟨_,O,t,_,O,.inr hS,O,_,O,NL rfl ?_⟩
  refine⟨_,O,t,_,_,_,O,O,hS,O,_,O,t,_,_,_,O,O,hS,O,_,O,t,_,_,_,O,O,hS,O,_,O,t,_,_,_,O,O,hS,O,_,O,t,_,_,_,O,O,hS,O,_,O,t,_,_,_,O,O,hS,O,_,O,t,_,_,_,O,O,hS,O,λx dx hx hdx ne=>?_⟩
  refine⟨x,dx,p,q,f,b1,b2,b3,b4,O,aj,g,λH2 h2 kp=>⟨O,k x dx H2 hx h2 λb o e=>kp b o ?_ (aU e hx)⟩⟩
  rw[aB (aU e hx),aB (aU e hdx)]
  exact e
inductive ji(C CT:Addr)(vs:List V)(H:Hp)(Q:VK)(E_:XK):Prop where
 |mk (y dy x dx:Addr) (p q f:Str) (b1 b2 b3 b4:Bool):(vs=[.ref y,.ref x])->(H y=some (.ins CT dy []))->(H x=some (.ins C dx (Dr p q f b1 b2 b3 b4)))->(Gd p q f)->(∀H',Tn C CT H' y p q f b1 b2 b3 b4->(∀b o,H b=some o->b≠y->H' b=some o)->Q .non H')->ji C CT vs H Q E_
theorem rK:zzz T dW 6 5 ["self","dialect"] (ji (aF 49) (aF 50)):=by
 have ie:=kF T
 have jY:=nI T
 refine T.tP.ok rD 'e' 'a'
 ·obtain⟨y,dy,x,dx,p,q,f,b1,b2,b3,b4,rfl,_⟩:=h;rfl
 ·have hu:=aY hr
  obtain⟨y,dy,x,dx,p,q,f,b1,b2,b3,b4,rfl,hy,hx,g,k⟩:=h
  refine⟨_,(ak (kX (pv 0) (eU jY hr T.pM T.jN.kp T.pL (af (Ad (k:=1) (pv 1) T.aM T.lO ie (hr.mono 'b') T.lN .nil xR) ai)) rfl)),?_⟩
  refine⟨_,O,x,dx,_,O,hx,O,x,dx,p,q,f,b1,b2,b3,b4,O,hx,λt ht=>?_⟩
  have s1:=aq (o:=HO.tup (ng p q f b1 b2 b3 b4)) ht
  refine⟨t,p,q,f,b1,b2,b3,b4,O,aj,g,λd dd H2 hd h2 s2=>?_⟩
  have s12:=s1.trans s2
  have Yv:d≠y:=λe=>by subst e;rw[s1 _ _ hy]at hd;cases hd
  refine⟨_,O,y,(aF 50),dy,_,O,s12 _ _ hy,T.iK,T.bE,(by show 0<1000;decide),?_⟩
  refine k _ ⟨⟨dy,d,dd,aj,(aB Yv).trans h2⟩⟩ λb o e hb=>(aB hb).trans (s12 _ _ e)
inductive gv(CB:Addr)(vs:List V)(H:Hp)(Q:VK)(E_:XK):Prop where
 |mk (ea:Addr) (r:Int):(vs=[.ref ea,.int r])->(H ea=some (GG ea (.ref CB) none))->(r.natAbs.log2<1920)->(∀d H',H d=none->d≠ea->H' ea=some (GG ea (.ref CB) (some d))->H' d=some (J8 d [(Str.ofString "most",.int r)])->(∀b,b≠ea->b≠d->H' b=H b)->Q .non H')->gv CB vs H Q E_
theorem m7:zzz T dW 1 6 ["self","most"] (gv (aF 57)):=by
 refine T.oR.ok mX 'e' 'a'
 ·obtain⟨ea,r,rfl,_⟩:=h;rfl
 ·have hu:=aY hr
  obtain⟨ea,r,rfl,vX,hr0,k⟩:=h
  refine⟨_,(ah (bK (GI rfl T.vB T.tW T.mQ (.inr ⟨_,_,O,T.dJ⟩) (af (pv 0) (af (El (Dn au (Dn (Lp (pv 1)) Lq))) ai))))
   (ak (GJ rfl T.mQ (.inr ⟨_,_,rfl,T.dJ⟩) T.tX (pv 0) (pv 1) rfl))),?_⟩
  refine⟨_,O,_,O,by decide +kernel,_,O,.inl ⟨r,O,hr0⟩,λz1 l1=>⟨_,O,l1,λzz=>?_⟩⟩
  refine⟨ea,none,_,O,vX,?_⟩
  refine⟨_,O,_,O,ea,O,vX,λd hd=>?_⟩
  have nd:d≠ea:=λz=>by rw[z,vX]at hd;cases hd
  refine k d _ hd nd ((aB (abm nd)).trans aj) aj λb h1 h2=>?_
  rw[aB h2,aB h1]
inductive ig(vs:List V)(H:Hp)(Q:VK)(E_:XK):Prop where
 |mk (z:Str):(vs=[.str z])->(z.length<=2000)->(∀H',aD H H'->Q (.bl (textOk z)) H')->ig vs H Q E_
theorem oY:zzz T dW 2 7 ["text"] ig:=by
 have ic:=kC T
 refine T.iI.ok oN 'e' 'a'
 ·obtain⟨z,rfl,_⟩:=h;rfl
 ·have hu:=aY hr
  obtain⟨z,rfl,hz,k⟩:=h
  refine⟨_,(ak (az (gA (qP K rfl rfl) T.Co (af (cT rfl (show aR ["text"] (av dj) ["sign"] 1 [] _ from yM) (yE (pv 0)) (λ_ _ _ _=>(d8 0 N9)) (λ_ _ _ _=>cB) (λ_ _ _ _=>(Nh (Es aP (pv 0) (mH rfl T.mR.choose_spec)) (yk (eU ic hr T.lM T.g9.kp T.lK (af (pv 0) ai)))))) ai)))),?_⟩
  refine⟨_,O,z,O,λD hD=>?_⟩
  have hsz:z.cps.toList.length=z.length:=by rw[aaE];rfl
  refine Ai (λi ys τ H2=>(∃v,τ=[v])/\aD H H2/\H2 D=some (.lst ys)/\ys=((z.cps.toList.take i).map DA).map V.bl) ⟨⟨_,rfl⟩,aq hD,aj,rfl⟩ (λi ys τ H2 _ p=>p.2.2.1) ?_ ?_
  ·rintro i c ys τ H2 hi ⟨⟨v,rfl⟩,s2,hl,rfl⟩
   have hil:i<z.cps.toList.length:=(aam.mp hi).1
   have hlen:(((z.cps.toList.take i).map DA).map V.bl).length<sizeLine:=by
    rw[aaj,aaj,aaL]
    exact aav (show min i z.cps.toList.length<=2000 by omega) 'b'
   have fin:∀b,b=DA c->H2 D=some (.lst (((z.cps.toList.take i).map DA).map V.bl))/\(((z.cps.toList.take i).map DA).map V.bl).length<sizeLine/\(∃v,[some (V.str (sg c))]=[v])/\aD H (upd H2 D (.lst (((z.cps.toList.take i).map DA).map V.bl++[.bl b])))/\(upd H2 D (.lst (((z.cps.toList.take i).map DA).map V.bl++[.bl b]))) D=some (.lst (((z.cps.toList.take i).map DA).map V.bl++[.bl b]))/\((z.cps.toList.take i).map DA).map V.bl++[.bl b]=((z.cps.toList.take (i+1)).map DA).map V.bl:=λb hb=>by
    refine⟨hl,hlen,⟨_,O⟩,aG hD s2,aj,?_⟩
    rw[aX hi,aaI,aaI,hb];rfl
   refine kM ?_
   refine⟨_,O,O,_,O,aS (λh=>?_) (λh=>?_)⟩
   ·have h:decide (V.str (sg c)=V.str (cV 0))=true:=h
    have hc:c=10:=by
     have e:=aa0 h
     rw[T.jX]at e
     have e2:sg c=sg 10:=(V.str.inj e).trans 'g'
     have:=congrArg (λz:Str=>z.cps.toList) e2
     exact(List.cons.inj (show [c]=[10]from this)).1
    exact fin true (by rw[hc];exact(aay (.inl rfl)).symm)
   ·have hc:c≠10:=Yo T.jX h
    refine⟨_,O,c,O,fin _ ?_⟩
    unfold DA
    by_cases hp:Pn c
    ·rw[aay hp,aay (.inr hp)]
    ·rw[aax hp,aax (λz=>z.elim hc hp)]
  ·rintro ys τ H2 ⟨⟨v,rfl⟩,s2,hl,rfl⟩
   refine⟨D,(z.cps.toList.take z.cps.toList.length).map DA,O,aK.of hl,?_⟩
   have e:((z.cps.toList.take z.cps.toList.length).map DA).all id=textOk z:=by
    rw[aaD (aao _),List.all_map];rfl
   rw[e]
   exact k H2 s2
inductive vD(K:W.Frag)(vs:List V)(H:Hp)(Q:VK)(E_:XK):Prop where
 |mk (v:V):(vs=[v])->(DB H v)->((∀z,v=.str z->z.length<=10000))->(∀H',aD H H'->Q (.bl (E9 v)) H')->vD K vs H Q E_
theorem Cr:zzz T dW 3 8 ["thing"] (vD K):=by
 have qd:=oY T
 refine T.yc.ok Ci 'e' 'a'
 ·obtain⟨v,rfl,_⟩:=h;rfl
 ·have hu:=aY hr
  obtain⟨v,rfl,hk,hb,k⟩:=h
  refine⟨_,(ah (aH (PW.pt (fU (dh (bP (gA (bM K rfl) T.bw (af (pv 0) (af (GX "str" T.Cq) ai))))) (gJ (bX sj (gA cQ T.bF (af (pv 0) ai)) (pD rfl T.wR.choose_spec))))) (ak (az C8)) ay)
   (ak (az (eU qd hr T.pO T.iI.kp T.pN (af (pv 0) ai))))),?_⟩
  cases hk with
  |str z =>
   have hb:=hb z rfl
   refine⟨_,O,_,_,_,true,O,.str _,.inl ⟨_,O,O⟩,true,O,bW ⟨_,O,z,O,aaz hb 'b',_,_,O,O,_,O,aS (λh1=>?_) (λh1=>?_)⟩⟩
   ·have e:E9 (.str z)=false:=by
     have n1:¬z.length<=2000:=λh2=>by have:=aa0 h1;omega
     show(decide (z.length<=2000)&&textOk z)=false
     rw[aax n1];rfl
    have kk:=k H (aD.refl H)
    rw[e]at kk
    exact kk
   ·have n1:z.length<=2000:=by
     rcases Nat.lt_or_ge 2000 z.length with h2|h2
     ·exact absurd (aay (show(2000:Int)<(z.length:Int) by omega)) h1
     ·exact h2
    have e:E9 (.str z)=textOk z:=by
     show(decide (z.length<=2000)&&textOk z)=_
     rw[aay n1];rfl
    rw[e]at k
    exact⟨_,O,z,O,n1,k⟩
  |non=>exact⟨_,rfl,_,_,_,false,rfl,.non,.inl ⟨_,rfl,rfl⟩,false,rfl,kL (k H (aD.refl H))⟩
  |bl b=>exact⟨_,rfl,_,_,_,false,rfl,.bl _,.inl ⟨_,rfl,rfl⟩,false,rfl,kL (k H (aD.refl H))⟩
  |int n=>exact⟨_,rfl,_,_,_,false,rfl,.int _,.inl ⟨_,rfl,rfl⟩,false,rfl,kL (k H (aD.refl H))⟩
  |lst e f=>exact⟨_,rfl,_,_,_,false,rfl,.lst e,.inl ⟨_,rfl,rfl⟩,false,rfl,kL (k H (aD.refl H))⟩
  |tup e f=>exact⟨_,rfl,_,_,_,false,rfl,.tup e,.inl ⟨_,rfl,rfl⟩,false,rfl,kL (k H (aD.refl H))⟩
  |RT e f=>exact⟨_,rfl,_,_,_,false,rfl,.dK e,.inl ⟨_,rfl,rfl⟩,false,rfl,kL (k H (aD.refl H))⟩
inductive fX(K:W.Frag)(C:Addr)(vs:List V)(H:Hp)(Q:VK)(E_:XK):Prop where
 |mk (x dx:Addr) (p q f:Str) (b1 b2 b3 b4:Bool) (s:Addr) (w u:Str) (c:Nat):(vs=[.ref x,.ref s,.str (sg c)])->(H x=some (.ins C dx (Dr p q f b1 b2 b3 b4)))->(bH K H s [.str w,.str u])->(∀v H',aD H H'->tK K H' v (dF p q f b3 w u c)->Q v H')->fX K C vs H Q E_
theorem lU:zzz T dW 1 9 ["dialect","state","sign"] (fX K (aF 49)):=by
 refine T.gm.ok lG 'e' 'a'
 ·obtain⟨x,dx,p,q,f,b1,b2,b3,b4,s,w,u,c,rfl,_⟩:=h;rfl
 ·have hu:=aY hr
  obtain⟨x,dx,p,q,f,b1,b2,b3,b4,s,w,u,c,rfl,hx,hs,k⟩:=h
  refine'⟨_,?aa,?bb⟩
  case aa =>
   refine' ah ?s0 ?r0
   case s0 =>
    refine' aH ?c1 ?b1 ?e1
    case c1=>exact(cz bQ (pv 2) (bh K rfl (pv 0) rfl) rfl)
    case b1 =>
     refine' ak ?s2
     case s2 =>
      refine' az ?v3
      case v3 =>
       refine' aC ?a4
       case a4 =>
        refine' af ?x5 ?y5 ?z5
        case z5=>exact rfl
        case x5 =>
         exact au
        case y5 =>
         refine' af ?x6 ?y6 ?z6
         case z6=>exact rfl
         case x6 =>
          refine' aC ?a7
          case a7 =>
           refine' af ?x8 ?y8 ?z8
           case z8=>exact rfl
           case x8 =>
            exact au
           case y8 =>
            refine' af ?x9 ?y9 ?z9
            case z9=>exact rfl
            case x9 =>
             exact au
            case y9 =>
             exact ai
         case y6 =>
          exact ai
    case e1 =>
     exact ay
   case r0 =>
    refine' ah ?Ir ?Oh
    case Ir =>
     refine' aH ?Oi ?LW ?Oj
     case Oi=>exact(bX aP (pv 2) (mH rfl T.mR.choose_spec))
     case LW =>
      refine' ak ?s12
      case s12 =>
       refine' az ?Ol
       case Ol =>
        refine' aC ?Jc
        case Jc =>
         refine' af ?Jd ?Je ?Jf
         case Jf=>exact rfl
         case Jd =>
          exact au
         case Je =>
          refine' af ?Jg ?Jh ?Ji
          case Ji=>exact rfl
          case Jg =>
           exact(pC rfl T.lS)
          case Jh =>
           exact ai
     case Oj =>
      exact ay
    case Oh =>
     refine' ah ?Jj ?LX
     case Jj =>
      refine' aH ?LY ?Jk ?LZ
      case LY=>exact(cz bQ (pv 2) (bh K rfl (pv 0) rfl) rfl)
      case Jk =>
       refine' ak ?Jl
       case Jl =>
        refine' az ?v20
        case v20 =>
         refine' aC ?Jm
         case Jm =>
          refine' af ?L0 ?L1 ?L4
          case L4=>exact rfl
          case L0 =>
           exact au
          case L1 =>
           refine' af ?Jo ?Jp ?Jq
           case Jq=>exact rfl
           case Jo =>
            refine' aC ?Jr
            case Jr =>
             refine' af ?L6 ?L7 ?L8
             case L8=>exact rfl
             case L6 =>
              exact au
             case L7 =>
              refine' af ?Js ?Jt ?Ju
              case Ju=>exact rfl
              case Js =>
               exact(pv 2)
              case Jt =>
               exact ai
           case Jp =>
            exact ai
      case LZ =>
       exact ay
     case LX =>
      refine' ah ?Om ?RX
      case Om =>
       refine' aH ?RY ?Oo ?RZ
       case RY=>exact(cz bQ (pv 2) (bh K rfl (pv 0) rfl) rfl)
       case Oo =>
        refine' ak ?R0
        case R0 =>
         refine' az ?v30
         case v30 =>
          refine' aC ?Oq
          case Oq =>
           refine' af ?R1 ?R3 ?R4
           case R4=>exact rfl
           case R1 =>
            exact au
           case R3 =>
            refine' af ?R5 ?R6 ?R7
            case R7=>exact rfl
            case R5 =>
             refine' aC ?R8
             case R8 =>
              refine' af ?Yw ?Yx ?Yy
              case Yy=>exact rfl
              case Yw =>
               exact au
              case Yx =>
               refine' af ?Ot ?Ou ?Ov
               case Ov=>exact rfl
               case Ot =>
                exact au
               case Ou =>
                exact ai
            case R6 =>
             exact ai
       case RZ =>
        exact ay
      case RX =>
       refine' ah ?Yz ?YA
       case Yz =>
        refine' aH ?YB ?R9 ?YC
        case YB=>exact(PW.pt (cL (bX aP (pv 2) au) (cy (bP (bh K rfl (pv 0) rfl)))))
        case R9 =>
         refine' ak ?YD
         case YD =>
          refine' az ?YE
          case YE =>
           refine' aC ?Sa
           case Sa =>
            refine' af ?Sb ?Sd ?Se
            case Se=>exact rfl
            case Sb =>
             exact au
            case Sd =>
             refine' af ?YF ?YG ?YH
             case YH=>exact rfl
             case YF =>
              exact(pv 1)
             case YG =>
              exact ai
        case YC =>
         exact ay
       case YA =>
        refine' ak ?YI
        case YI =>
         refine' az ?YJ
         case YJ =>
          refine' aC ?Sf
          case Sf =>
           refine' af ?Sh ?Si ?Sj
           case Sj=>exact rfl
           case Sh =>
            exact au
           case Si =>
            refine' af ?YK ?YL ?YN
            case YN=>exact rfl
            case YK =>
             refine' aC ?Sk
             case Sk =>
              refine' af ?Sl ?Sm ?Sn
              case Sn=>exact rfl
              case Sl =>
               exact au
              case Sm =>
               refine' af ?So ?Sq ?Ss
               case Ss=>exact rfl
               case So =>
                exact au
               case Sq =>
                exact ai
            case YL =>
             exact ai
  have e2:aZ (sg c) (cV 0)=aZ (sg c) (Str.ofString "\n"):=by rw[T.jX]
  refine⟨_,O,_,O,x,(aF 49),dx,_,_,O,hx,T.aM,T.bS,O,_,_,O,O,_,O,aS (λ(h1:iz c f=true)=>?_) (λ(h1:¬iz c f=true)=>?_)⟩
  ·exact bD (by unfold dF;rw[aal h1]) cG k
  refine⟨_,O,O,_,O,aS (λ(h2:aZ (sg c) (cV 0)=true)=>?_) (λ(h2:¬aZ (sg c) (cV 0)=true)=>?_)⟩
  ·rw[e2]at h2
   exact fG (by unfold dF;rw[aah h1,aal h2]) oF (aD.refl _) (.inr T.lT) k
  rw[e2]at h2
  refine⟨_,O,_,O,x,(aF 49),dx,_,_,O,hx,T.aM,T.bY,O,_,_,O,O,_,O,aS (λ(h3:iz c q=true)=>?_) (λ(h3:¬iz c q=true)=>?_)⟩
  ·exact⟨_,O,bD (by unfold dF;rw[aah h1,aah h2,aal h3]) cG k⟩
  refine⟨_,O,_,O,x,(aF 49),dx,_,_,O,hx,T.aM,T.bR,O,_,_,O,O,_,O,aS (λ(h4:iz c p=true)=>?_) (λ(h4:¬iz c p=true)=>?_)⟩
  ·exact bD (by unfold dF;rw[aah h1,aah h2,aah h3,aal h4]) jJ k
  refine⟨_,O,O,_,O,aS (λ(h5:aZ (sg c) (" ":Str)=true)=>?_) (λ(h5:¬aZ (sg c) (" ":Str)=true)=>?_)⟩
  ·refine⟨_,O,x,(aF 49),dx,_,_,O,hx,T.aM,T.cO,O,_,O,aS (λ(h6:b3=true)=>?_) (λ(h6:¬b3=true)=>?_)⟩
   ·exact⟨_,O,fG (by unfold dF;rw[aah h1,aah h2,aah h3,aah h4,aal h5,aal h6]) cG (aD.refl _) hs k⟩
   exact bD (by unfold dF;rw[aah h1,aah h2,aah h3,aah h4,aal h5,aah h6]) cE k
  refine bW ?_
  exact bD (by unfold dF;rw[aah h1,aah h2,aah h3,aah h4,aah h5]) cE k
inductive jj(K:W.Frag)(C:Addr)(vs:List V)(H:Hp)(Q:VK)(E_:XK):Prop where
 |mk (x dx:Addr) (p q f:Str) (b1 b2 b3 b4:Bool) (c:Nat):(vs=[.ref x,.str (sg c)])->(H x=some (.ins C dx (Dr p q f b1 b2 b3 b4)))->(∀v H',aD H H'->tK K H' v (dY p q f b4 c)->Q v H')->jj K C vs H Q E_
theorem rL:zzz T dW 1 10 ["dialect","sign"] (jj K (aF 49)):=by
 refine T.kr.ok rE 'e' 'a'
 ·obtain⟨x,dx,p,q,f,b1,b2,b3,b4,c,rfl,_⟩:=h;rfl
 ·have hu:=aY hr
  obtain⟨x,dx,p,q,f,b1,b2,b3,b4,c,rfl,hx,k⟩:=h
  refine'⟨_,?aa,?bb⟩
  case aa =>
   refine' ah ?s0 ?r0
   case s0 =>
    refine' aH ?c1 ?b1 ?e1
    case c1=>exact(cz bQ (pv 1) (bh K rfl (pv 0) rfl) rfl)
    case b1 =>
     refine' ak ?s2
     case s2 =>
      refine' az ?v3
      case v3 =>
       refine' aC ?a4
       case a4 =>
        refine' af ?x5 ?y5 ?z5
        case z5=>exact rfl
        case x5 =>
         exact au
        case y5 =>
         refine' af ?x6 ?y6 ?z6
         case z6=>exact rfl
         case x6 =>
          refine' aC ?a7
          case a7 =>
           refine' af ?x8 ?y8 ?z8
           case z8=>exact rfl
           case x8 =>
            exact au
           case y8 =>
            refine' af ?x9 ?y9 ?z9
            case z9=>exact rfl
            case x9 =>
             exact au
            case y9 =>
             exact ai
         case y6 =>
          exact ai
    case e1 =>
     exact ay
   case r0 =>
    refine' ah ?Ir ?Oh
    case Ir =>
     refine' aH ?Oi ?LW ?Oj
     case Oi=>exact(bX aP (pv 1) (mH rfl T.mR.choose_spec))
     case LW =>
      refine' ak ?s12
      case s12 =>
       refine' az ?Ol
       case Ol =>
        refine' aC ?Jc
        case Jc =>
         refine' af ?Jd ?Je ?Jf
         case Jf=>exact rfl
         case Jd =>
          exact au
         case Je =>
          refine' af ?Jg ?Jh ?Ji
          case Ji=>exact rfl
          case Jg =>
           exact(pC rfl T.lS)
          case Jh =>
           exact ai
     case Oj =>
      exact ay
    case Oh =>
     refine' ah ?Jj ?LX
     case Jj =>
      refine' aH ?LY ?Jk ?LZ
      case LY=>exact(cz bQ (pv 1) (bh K rfl (pv 0) rfl) rfl)
      case Jk =>
       refine' ak ?Jl
       case Jl =>
        refine' az ?v20
        case v20 =>
         refine' aC ?Jm
         case Jm =>
          refine' af ?L0 ?L1 ?L4
          case L4=>exact rfl
          case L0 =>
           exact au
          case L1 =>
           refine' af ?Jo ?Jp ?Jq
           case Jq=>exact rfl
           case Jo =>
            refine' aC ?Jr
            case Jr =>
             refine' af ?L6 ?L7 ?L8
             case L8=>exact rfl
             case L6 =>
              exact au
             case L7 =>
              refine' af ?Js ?Jt ?Ju
              case Ju=>exact rfl
              case Js =>
               exact au
              case Jt =>
               exact ai
           case Jp =>
            exact ai
      case LZ =>
       exact ay
     case LX =>
      refine' ah ?Om ?RX
      case Om =>
       refine' aH ?RY ?Oo ?RZ
       case RY=>exact(PW.pt (cL (cz bQ (pv 1) (bh K rfl (pv 0) rfl) rfl) (cy (dh (bP (bh K rfl (pv 0) rfl))))))
       case Oo =>
        refine' ak ?R0
        case R0 =>
         refine' az ?v30
         case v30 =>
          refine' aC ?Oq
          case Oq =>
           refine' af ?R1 ?R3 ?R4
           case R4=>exact rfl
           case R1 =>
            exact au
           case R3 =>
            refine' af ?R5 ?R6 ?R7
            case R7=>exact rfl
            case R5 =>
             exact au
            case R6 =>
             exact ai
       case RZ =>
        exact ay
      case RX =>
       refine' ak ?YO
       case YO =>
        refine' az ?YQ
        case YQ =>
         refine' aC ?Su
         case Su =>
          refine' af ?Ow ?Ox ?Oz
          case Oz=>exact rfl
          case Ow =>
           exact au
          case Ox =>
           refine' af ?YR ?YS ?YT
           case YT=>exact rfl
           case YR =>
            refine' aC ?Sv
            case Sv =>
             refine' af ?Sw ?Sx ?Sy
             case Sy=>exact rfl
             case Sw =>
              exact au
             case Sx =>
              refine' af ?Sz ?SA ?SD
              case SD=>exact rfl
              case Sz =>
               exact au
              case SA =>
               exact ai
           case YS =>
            exact ai
  have e2:aZ (sg c) (cV 0)=aZ (sg c) (Str.ofString "\n"):=by rw[T.jX]
  refine⟨_,O,_,O,x,(aF 49),dx,_,_,O,hx,T.aM,T.bS,O,_,_,O,O,_,O,aS (λ(h1:iz c f=true)=>?_) (λ(h1:¬iz c f=true)=>?_)⟩
  ·exact bD (by unfold dY;rw[aal h1]) cG k
  refine⟨_,O,O,_,O,aS (λ(h2:aZ (sg c) (cV 0)=true)=>?_) (λ(h2:¬aZ (sg c) (cV 0)=true)=>?_)⟩
  ·rw[e2]at h2
   exact fG (by unfold dY;rw[aah h1,aal h2]) oF (aD.refl _) (.inr T.lT) k
  rw[e2]at h2
  refine⟨_,O,_,O,x,(aF 49),dx,_,_,O,hx,T.aM,T.bR,O,_,_,O,O,_,O,aS (λ(h3:iz c p=true)=>?_) (λ(h3:¬iz c p=true)=>?_)⟩
  ·exact bD (by unfold dY;rw[aah h1,aah h2,aal h3]) jJ k
  refine⟨_,O,_,O,x,(aF 49),dx,_,_,O,hx,T.aM,T.bY,O,_,_,O,O,_,O,aS (λ(h4:iz c q=true)=>?_) (λ(h4:¬iz c q=true)=>?_)⟩
  ·refine⟨_,O,x,(aF 49),dx,_,_,O,hx,T.aM,T.cZ,O,_,O,aS (λ(h5:(!b4)=true)=>?_) (λ(h5:¬(!b4)=true)=>?_)⟩
   ·exact f7 (by unfold dY;rw[aah h1,aah h2,aah h3,aal h4,aal h5]) k
   exact bD (by unfold dY;rw[aah h1,aah h2,aah h3,aal h4,aah h5]) cE k
  refine bW ?_
  exact bD (by unfold dY;rw[aah h1,aah h2,aah h3,aah h4]) cE k
inductive lV(K:W.Frag)(C:Addr)(vs:List V)(H:Hp)(Q:VK)(E_:XK):Prop where
 |mk (x dx:Addr) (p q f:Str) (b1 b2 b3 b4:Bool) (u:Str) (c:Nat):(vs=[.ref x,.str u,.str (sg c)])->(H x=some (.ins C dx (Dr p q f b1 b2 b3 b4)))->(∀v H',aD H H'->tK K H' v (cK f b1 b2 u c)->Q v H')->lV K C vs H Q E_
theorem vE:zzz T dW 1 11 ["dialect","quote","sign"] (lV K (aF 49)):=by
 refine T.nk.ok vo 'e' 'a'
 ·obtain⟨x,dx,p,q,f,b1,b2,b3,b4,u,c,rfl,_⟩:=h;rfl
 ·have hu:=aY hr
  obtain⟨x,dx,p,q,f,b1,b2,b3,b4,u,c,rfl,hx,k⟩:=h
  refine'⟨_,?aa,?bb⟩
  case aa =>
   refine' ah ?s0 ?r0
   case s0 =>
    refine' aH ?c1 ?b1 ?e1
    case c1=>exact(cz bQ (pv 2) (bh K rfl (pv 0) rfl) rfl)
    case b1 =>
     refine' ak ?s2
     case s2 =>
      refine' az ?v3
      case v3 =>
       refine' aC ?a4
       case a4 =>
        refine' af ?x5 ?y5 ?z5
        case z5=>exact rfl
        case x5 =>
         exact au
        case y5 =>
         refine' af ?x6 ?y6 ?z6
         case z6=>exact rfl
         case x6 =>
          refine' aC ?a7
          case a7 =>
           refine' af ?x8 ?y8 ?z8
           case z8=>exact rfl
           case x8 =>
            exact au
           case y8 =>
            refine' af ?x9 ?y9 ?z9
            case z9=>exact rfl
            case x9 =>
             exact(pv 1)
            case y9 =>
             exact ai
         case y6 =>
          exact ai
    case e1 =>
     exact ay
   case r0 =>
    refine' ah ?Ir ?Oh
    case Ir =>
     refine' aH ?Oi ?LW ?Oj
     case Oi=>exact(bX aP (pv 2) (pv 1))
     case LW =>
      refine' ak ?s12
      case s12 =>
       refine' az ?Ol
       case Ol =>
        refine' aC ?Jc
        case Jc =>
         refine' af ?Jd ?Je ?Jf
         case Jf=>exact rfl
         case Jd =>
          exact au
         case Je =>
          refine' af ?Jg ?Jh ?Ji
          case Ji=>exact rfl
          case Jg =>
           exact(uI (bP (bh K rfl (pv 0) rfl)) (aC (af au (af (pv 1) ai))) (aC (af au (af au ai))))
          case Jh =>
           exact ai
     case Oj =>
      exact ay
    case Oh =>
     refine' ah ?Jj ?LX
     case Jj =>
      refine' aH ?LY ?Jk ?LZ
      case LY=>exact(PW.pt (cL (bX aP (pv 2) (mH rfl T.mR.choose_spec)) (cy (dh (bP (bh K rfl (pv 0) rfl))))))
      case Jk =>
       refine' ak ?Jl
       case Jl =>
        refine' az ?v20
        case v20 =>
         refine' aC ?Jm
         case Jm =>
          refine' af ?L0 ?L1 ?L4
          case L4=>exact rfl
          case L0 =>
           exact au
          case L1 =>
           refine' af ?Jo ?Jp ?Jq
           case Jq=>exact rfl
           case Jo =>
            exact au
           case Jp =>
            exact ai
      case LZ =>
       exact ay
     case LX =>
      refine' ak ?YU
      case YU =>
       refine' az ?YV
       case YV =>
        refine' aC ?SE
        case SE =>
         refine' af ?OA ?OB ?OC
         case OC=>exact rfl
         case OA =>
          exact au
         case OB =>
          refine' af ?YW ?YX ?YY
          case YY=>exact rfl
          case YW =>
           refine' aC ?OE
           case OE =>
            refine' af ?Ma ?Mb ?Mc
            case Mc=>exact rfl
            case Ma =>
             exact au
            case Mb =>
             refine' af ?SG ?SH ?SI
             case SI=>exact rfl
             case SG =>
              exact(pv 1)
             case SH =>
              exact ai
          case YX =>
           exact ai
  have e2:aZ (sg c) (cV 0)=aZ (sg c) (Str.ofString "\n"):=by rw[T.jX]
  refine⟨_,O,_,O,x,(aF 49),dx,_,_,O,hx,T.aM,T.bS,O,_,_,O,O,_,O,aS (λ(h1:iz c f=true)=>?_) (λ(h1:¬iz c f=true)=>?_)⟩
  ·exact⟨_,O,bD (by unfold cK;rw[aal h1]) cG k⟩
  refine⟨_,O,_,O,O,_,O,aS (λ(h2:aZ (sg c) u=true)=>?_) (λ(h2:¬aZ (sg c) u=true)=>?_)⟩
  ·refine⟨_,O,x,(aF 49),dx,_,_,O,hx,T.aM,T.dI,O,_,O,aS (λ(h3:b1=true)=>?_) (λ(h3:¬b1=true)=>?_)⟩
   ·exact⟨_,O,bD (by unfold cK;rw[aah h1,aal h2,aal h3]) cG k⟩
   exact bD (by unfold cK;rw[aah h1,aal h2,aah h3]) cG k
  refine⟨_,O,O,_,O,aS (λ(h3:aZ (sg c) (cV 0)=true)=>?_) (λ(h3:¬aZ (sg c) (cV 0)=true)=>?_)⟩
  ·rw[e2]at h3
   refine⟨_,O,x,(aF 49),dx,_,_,O,hx,T.aM,T.cN,O,_,O,aS (λ(h4:(!b2)=true)=>?_) (λ(h4:¬(!b2)=true)=>?_)⟩
   ·exact f7 (by unfold cK;rw[aah h1,aah h2,aal h3,aal h4]) k
   exact⟨_,O,bD (by unfold cK;rw[aah h1,aah h2,aal h3,aah h4]) cE k⟩
  rw[e2]at h3
  refine bW ?_
  exact⟨_,O,bD (by unfold cK;rw[aah h1,aah h2,aah h3]) cE k⟩
inductive lW(K:W.Frag)(C:Addr)(vs:List V)(H:Hp)(Q:VK)(E_:XK):Prop where
 |mk (x dx:Addr) (p q f:Str) (b1 b2 b3 b4:Bool) (c:Nat):(vs=[.ref x,.str (sg c)])->(H x=some (.ins C dx (Dr p q f b1 b2 b3 b4)))->(∀v H',aD H H'->tK K H' v (bN p b3 c)->Q v H')->lW K C vs H Q E_
theorem lX:zzz T dW 1 12 ["dialect","sign"] (lW K (aF 49)):=by
 refine T.i9.ok vp 'e' 'a'
 ·obtain⟨x,dx,p,q,f,b1,b2,b3,b4,c,rfl,_⟩:=h;rfl
 ·have hu:=aY hr
  obtain⟨x,dx,p,q,f,b1,b2,b3,b4,c,rfl,hx,k⟩:=h
  refine'⟨_,?aa,?bb⟩
  case aa =>
   refine' ah ?s0 ?r0
   case s0 =>
    refine' aH ?c1 ?b1 ?e1
    case c1=>exact(bX aP (pv 1) (mH rfl T.mR.choose_spec))
    case b1 =>
     refine' ak ?s2
     case s2 =>
      refine' az ?v3
      case v3 =>
       refine' aC ?a4
       case a4 =>
        refine' af ?x5 ?y5 ?z5
        case z5=>exact rfl
        case x5 =>
         exact au
        case y5 =>
         refine' af ?x6 ?y6 ?z6
         case z6=>exact rfl
         case x6 =>
          exact(pC rfl T.lS)
         case y6 =>
          exact ai
    case e1 =>
     exact ay
   case r0 =>
    refine' ah ?s7 ?r7
    case s7 =>
     refine' aH ?c8 ?b8 ?e8
     case c8=>exact(cz bQ (pv 1) (bh K rfl (pv 0) rfl) rfl)
     case b8 =>
      refine' ak ?s9
      case s9 =>
       refine' az ?v10
       case v10 =>
        refine' aC ?OG
        case OG =>
         refine' af ?OH ?OI ?OJ
         case OJ=>exact rfl
         case OH =>
          exact au
         case OI =>
          refine' af ?OL ?OM ?ON
          case ON=>exact rfl
          case OL =>
           refine' aC ?Jc
           case Jc =>
            refine' af ?Jd ?Je ?Jf
            case Jf=>exact rfl
            case Jd =>
             exact au
            case Je =>
             refine' af ?Jg ?Jh ?Ji
             case Ji=>exact rfl
             case Jg =>
              exact au
             case Jh =>
              exact ai
          case OM =>
           exact ai
     case e8 =>
      exact ay
    case r7 =>
     refine' ah ?Jj ?LX
     case Jj =>
      refine' aH ?LY ?Jk ?LZ
      case LY=>exact(PW.pt (cL (bX aP (pv 1) au) (cy (bP (bh K rfl (pv 0) rfl)))))
      case Jk =>
       refine' ak ?Jl
       case Jl =>
        refine' az ?v20
        case v20 =>
         refine' aC ?Jm
         case Jm =>
          refine' af ?L0 ?L1 ?L4
          case L4=>exact rfl
          case L0 =>
           exact au
          case L1 =>
           refine' af ?Jo ?Jp ?Jq
           case Jq=>exact rfl
           case Jo =>
            refine' aC ?Jr
            case Jr =>
             refine' af ?L6 ?L7 ?L8
             case L8=>exact rfl
             case L6 =>
              exact au
             case L7 =>
              refine' af ?Js ?Jt ?Ju
              case Ju=>exact rfl
              case Js =>
               exact au
              case Jt =>
               exact ai
           case Jp =>
            exact ai
      case LZ =>
       exact ay
     case LX =>
      refine' ak ?Om
      case Om =>
       refine' az ?YZ
       case YZ =>
        refine' aC ?OE
        case OE =>
         refine' af ?Ma ?Mb ?Mc
         case Mc=>exact rfl
         case Ma =>
          exact au
         case Mb =>
          refine' af ?SG ?SH ?SI
          case SI=>exact rfl
          case SG =>
           exact au
          case SH =>
           exact ai
  have e2:aZ (sg c) (cV 0)=aZ (sg c) (Str.ofString "\n"):=by rw[T.jX]
  refine⟨_,O,O,_,O,aS (λ(h1:aZ (sg c) (cV 0)=true)=>?_) (λ(h1:¬aZ (sg c) (cV 0)=true)=>?_)⟩
  ·rw[e2]at h1
   exact fG (by unfold bN;rw[aal h1]) oF (aD.refl _) (.inr T.lT) k
  rw[e2]at h1
  refine⟨_,O,_,O,x,(aF 49),dx,_,_,O,hx,T.aM,T.bR,O,_,_,O,O,_,O,aS (λ(h2:iz c p=true)=>?_) (λ(h2:¬iz c p=true)=>?_)⟩
  ·exact bD (by unfold bN;rw[aah h1,aal h2]) jJ k
  refine⟨_,O,O,_,O,aS (λ(h3:aZ (sg c) (" ":Str)=true)=>?_) (λ(h3:¬aZ (sg c) (" ":Str)=true)=>?_)⟩
  ·refine⟨_,O,x,(aF 49),dx,_,_,O,hx,T.aM,T.cO,O,_,O,aS (λ(h4:b3=true)=>?_) (λ(h4:¬b3=true)=>?_)⟩
   ·exact bD (by unfold bN;rw[aah h1,aah h2,aal h3,aal h4]) cG k
   exact f7 (by unfold bN;rw[aah h1,aah h2,aal h3,aah h4]) k
  refine bW ?_
  exact f7 (by unfold bN;rw[aah h1,aah h2,aah h3]) k
inductive jk(K:W.Frag)(C:Addr)(vs:List V)(H:Hp)(Q:VK)(E_:XK):Prop where
 |mk (x dx:Addr) (p q f:Str) (b1 b2 b3 b4:Bool) (u:Str) (c:Nat):(vs=[.ref x,.str u,.str (sg c)])->(H x=some (.ins C dx (Dr p q f b1 b2 b3 b4)))->(∀v H',aD H H'->tK K H' v (f9 p b3 u c)->Q v H')->jk K C vs H Q E_
theorem rM:zzz T dW 2 13 ["dialect","quote","sign"] (jk K (aF 49)):=by
 have jb:=lX T
 refine T.ku.ok rF 'e' 'a'
 ·obtain⟨x,dx,p,q,f,b1,b2,b3,b4,u,c,rfl,_⟩:=h;rfl
 ·have hu:=aY hr
  obtain⟨x,dx,p,q,f,b1,b2,b3,b4,u,c,rfl,hx,k⟩:=h
  refine⟨_,(ah (aH (bX aP (pv 2) (pv 1)) (ak (az (aC (af au (af (aC (af au (af (pv 1) ai))) ai))))) ay)
   (ak (az (eU jb hr T.nu T.i9.kp T.nq (af (pv 0) (af (pv 2) ai)))))),?_⟩
  refine⟨_,O,_,O,O,_,O,aS (λ(h1:aZ (sg c) u=true)=>?_) (λ(h1:¬aZ (sg c) u=true)=>?_)⟩
  ·exact⟨_,O,bD (by unfold f9;rw[aal h1]) cE k⟩
  refine⟨_,O,_,O,x,dx,p,q,f,b1,b2,b3,b4,c,O,hx,λv H2 s2 r=>k v H2 s2 ?_⟩
  unfold f9
  rw[aah h1]
  exact r
inductive nJ(K:W.Frag)(C:Addr)(vs:List V)(H:Hp)(Q:VK)(E_:XK):Prop where
 |mk (x dx:Addr) (p q f:Str) (b1 b2 b3 b4:Bool) (u:Str) (c:Nat):(vs=[.ref x,.str u,.str (sg c)])->(H x=some (.ins C dx (Dr p q f b1 b2 b3 b4)))->(∀v H',aD H H'->tK K H' v (gb b2 u c)->Q v H')->nJ K C vs H Q E_
theorem wU:zzz T dW 1 14 ["dialect","quote","sign"] (nJ K (aF 49)):=by
 refine T.pP.ok wB 'e' 'a'
 ·obtain⟨x,dx,p,q,f,b1,b2,b3,b4,u,c,rfl,_⟩:=h;rfl
 ·have hu:=aY hr
  obtain⟨x,dx,p,q,f,b1,b2,b3,b4,u,c,rfl,hx,k⟩:=h
  refine'⟨_,?aa,?bb⟩
  case aa =>
   refine' ah ?s0 ?r0
   case s0 =>
    refine' aH ?c1 ?b1 ?e1
    case c1=>exact(PW.pt (cL (bX aP (pv 2) (mH rfl T.mR.choose_spec)) (cy (dh (bP (bh K rfl (pv 0) rfl))))))
    case b1 =>
     refine' ak ?s2
     case s2 =>
      refine' az ?v3
      case v3 =>
       refine' aC ?a4
       case a4 =>
        refine' af ?x5 ?y5 ?z5
        case z5=>exact rfl
        case x5 =>
         exact au
        case y5 =>
         refine' af ?x6 ?y6 ?z6
         case z6=>exact rfl
         case x6 =>
          exact au
         case y6 =>
          exact ai
    case e1 =>
     exact ay
   case r0 =>
    refine' ak ?s7
    case s7 =>
     refine' az ?v8
     case v8 =>
      refine' aC ?a9
      case a9 =>
       refine' af ?Me ?Mf ?Mg
       case Mg=>exact rfl
       case Me =>
        exact au
       case Mf =>
        refine' af ?SJ ?SK ?SM
        case SM=>exact rfl
        case SJ =>
         exact(uI (bX aP (pv 1) au) (aC (af au (af au ai))) (aC (af au (af (pv 1) ai))))
        case SK =>
         exact ai
  have e2:aZ (sg c) (cV 0)=aZ (sg c) (Str.ofString "\n"):=by rw[T.jX]
  refine⟨_,O,O,_,O,aS (λ(h1:aZ (sg c) (cV 0)=true)=>?_) (λ(h1:¬aZ (sg c) (cV 0)=true)=>?_)⟩
  ·rw[e2]at h1
   refine⟨_,O,x,(aF 49),dx,_,_,O,hx,T.aM,T.cN,O,_,O,aS (λ(h2:(!b2)=true)=>?_) (λ(h2:¬(!b2)=true)=>?_)⟩
   ·exact f7 (by unfold gb;rw[aal h1,aal h2]) k
   refine⟨_,O,O,_,O,aS (λ(h9:aZ u ("":Str)=true)=>?_) (λ(h9:¬aZ u ("":Str)=true)=>?_)⟩
   ·exact bD (by unfold gb eY;rw[aal h1,aah h2,aal h9]) cE k
   exact⟨_,O,bD (by unfold gb eY;rw[aal h1,aah h2,aah h9]) cE k⟩
  rw[e2]at h1
  refine bW ?_
  refine⟨_,O,O,_,O,aS (λ(h9:aZ u ("":Str)=true)=>?_) (λ(h9:¬aZ u ("":Str)=true)=>?_)⟩
  ·exact bD (by unfold gb eY;rw[aah h1,aal h9]) cE k
  exact⟨_,O,bD (by unfold gb eY;rw[aah h1,aah h9]) cE k⟩
inductive qe(K:W.Frag)(C CT:Addr)(vs:List V)(H:Hp)(Q:VK)(E_:XK):Prop where
 |mk (y s:Addr) (w u:Str) (c:Nat) (p q f:Str) (b1 b2 b3 b4:Bool):(vs=[.ref y,.ref s,.str (sg c)])->(Tn C CT H y p q f b1 b2 b3 b4)->(bH K H s [.str w,.str u])->(∀v H',aD H H'->tK K H' v (cg p q f b1 b2 b3 b4 w u c)->Q v H')->qe K C CT vs H Q E_
theorem zj:zzz T dW 3 15 ["self","state","sign"] (qe K (aF 49) (aF 50)):=by
 have m8:=lU T
 have jb:=lX T
 have zk:=wU T
 have tY:=rM T
 have tZ:=rL T
 have wV:=vE T
 refine T.AM.ok jL 'e' 'a'
 ·obtain⟨y,s,w,u,c,p,q,f,b1,b2,b3,b4,rfl,_⟩:=h;rfl
 ·have hu:=aY hr
  obtain⟨y,s,w,u,c,p,q,f,b1,b2,b3,b4,rfl,hT,hs,k⟩:=h
  obtain⟨dy,d,dd,hy,hd⟩:=hT.ok
  refine⟨_,(ah (di 3 jL.nd (jt K (pv 1) ao))
   (ah (di 4 jL.nd (jt K (pv 1) ao))
   (ah (aH (bX aP (pv 3) au) (ak (az (eU tZ hr T.tS T.kr.kp T.tR (af (bh K rfl (pv 0) rfl) (af (pv 2) ai))))) ay)
   (ah (aH (bX aP (pv 3) au) (ak (az (eU wV hr T.wF T.nk.kp T.wD (af (bh K rfl (pv 0) rfl) (af (pv 4) (af (pv 2) ai)))))) ay)
   (ah (aH (bX aP (pv 3) au) (ak (az (eU tY hr T.tV T.ku.kp T.tU (af (bh K rfl (pv 0) rfl) (af (pv 4) (af (pv 2) ai)))))) ay)
   (ah (aH (bX aP (pv 3) au) (ak (az (eU jb hr T.nu T.i9.kp T.nq (af (bh K rfl (pv 0) rfl) (af (pv 2) ai))))) ay)
   (ah (aH (bX aP (pv 3) au) (ak (az (eU zk hr T.yX T.pP.kp T.yW (af (bh K rfl (pv 0) rfl) (af (pv 4) (af (pv 2) ai)))))) ay)
   (ak (az (eU m8 hr T.mZ T.gm.kp T.mY (af (bh K rfl (pv 0) rfl) (af (pv 1) (af (pv 2) ai))))))))))))),?_⟩
  refine⟨_,O,s,_,_,_,O,O,hs,O,_,O,s,_,_,_,O,O,hs,O,?_⟩
  refine⟨_,O,O,_,O,aS (λ(h1:aZ w ("plain":Str)=true)=>?_) (λ(h1:¬aZ w ("plain":Str)=true)=>?_)⟩
  ·refine⟨_,O,y,(aF 50),dy,_,_,O,hy,T.iK,T.bE,O,_,O,d,dd,p,q,f,b1,b2,b3,b4,c,O,hd,λv H2 s2 r=>k v H2 s2 ?_⟩
   rw[GY h1]
   exact r
  refine⟨_,O,O,_,O,aS (λ(h2:aZ w ("within":Str)=true)=>?_) (λ(h2:¬aZ w ("within":Str)=true)=>?_)⟩
  ·refine⟨_,O,y,(aF 50),dy,_,_,O,hy,T.iK,T.bE,O,_,O,_,O,d,dd,p,q,f,b1,b2,b3,b4,u,c,O,hd,λv H2 s2 r=>k v H2 s2 ?_⟩
   rw[fH h2]
   exact r
  refine⟨_,O,O,_,O,aS (λ(h3:aZ w ("doubt":Str)=true)=>?_) (λ(h3:¬aZ w ("doubt":Str)=true)=>?_)⟩
  ·refine⟨_,O,y,(aF 50),dy,_,_,O,hy,T.iK,T.bE,O,_,O,_,O,d,dd,p,q,f,b1,b2,b3,b4,u,c,O,hd,λv H2 s2 r=>k v H2 s2 ?_⟩
   rw[gY h3]
   exact r
  refine⟨_,O,O,_,O,aS (λ(h4:aZ w ("behind":Str)=true)=>?_) (λ(h4:¬aZ w ("behind":Str)=true)=>?_)⟩
  ·refine⟨_,O,y,(aF 50),dy,_,_,O,hy,T.iK,T.bE,O,_,O,d,dd,p,q,f,b1,b2,b3,b4,c,O,hd,λv H2 s2 r=>k v H2 s2 ?_⟩
   rw[gG h4]
   exact r
  refine⟨_,O,O,_,O,aS (λ(h5:aZ w ("freed":Str)=true)=>?_) (λ(h5:¬aZ w ("freed":Str)=true)=>?_)⟩
  ·refine⟨_,O,y,(aF 50),dy,_,_,O,hy,T.iK,T.bE,O,_,O,_,O,d,dd,p,q,f,b1,b2,b3,b4,u,c,O,hd,λv H2 s2 r=>k v H2 s2 ?_⟩
   rw[pH h5]
   exact r
  refine⟨_,O,y,(aF 50),dy,_,_,O,hy,T.iK,T.bE,O,_,O,_,O,d,dd,p,q,f,b1,b2,b3,b4,s,w,u,c,O,hd,hs,λv H2 s2 r=>k v H2 s2 ?_⟩
  rw[Dt (fB h2) (fB h5) (fB h3) (fB h4)]
  unfold eZ
  rw[aah h1]
  exact r
inductive nK(K:W.Frag)(CN:Addr)(vs:List V)(H:Hp)(Q:VK)(E:XK):Prop where
 |mk (v:V):(vs=[v])->(DB H v)->((∀z,v=.str z->z.length<=10000))->((E9 v=true->∀H',aD H H'->Q .non H'))->((E9 v=false->∀H',aD H H'->E (.ref CN) none H'))->nK K CN vs H Q E
theorem nL:zzz T (BD P w) 4 16 ["thing"] (nK K (aF 53)):=by
 have EI:=Cr T
 refine T.jO.Rw wC 'e' 'a'
 ·obtain⟨v,rfl,_⟩:=h;rfl
 ·have hu:=aY hr
  obtain⟨v,rfl,hk,hb,k,kE⟩:=h
  refine⟨_,(ak (aH (dh (bP (eU EI hr T.ED T.yc.kp T.EC (af (pv 0) ai)))) (ak (GB rfl T.Hv (.inr ⟨_,_,O,T.dJ⟩) rfl T.Hu (af au ai))) ay)),?_⟩
  refine⟨_,O,v,O,hk,hb,λH1 s1=>⟨_,O,?_⟩⟩
  by_cases hT:E9 v=true
  ·exact Dq hT (k hT H1 s1)
  ·exact Ds (fB hT) ⟨by decide,kE (fB hT) H1 s1⟩
inductive DN(K:W.Frag)(C:Addr)(vs:List V)(H:Hp)(Q:VK)(E_:XK):Prop where
 |mk (x dx:Addr) (z:Str) (p q f:Str) (b1 b2 b3 b4:Bool):(vs=[.ref x,.str z])->(H x=some (.ins C dx (Dr p q f b1 b2 b3 b4)))->(Gd p q f)->(dZ z)->(z.length<=2000)->(∀(tw lk s:Addr) H',H' tw=some (.tup [.ref lk,.ref s,G4 (runM p q f b1 b2 b3 b4 ("row":Str) ("":Str) z.cps.toList).2.2.2])->H lk=none->H' lk=some (.lst ((runM p q f b1 b2 b3 b4 ("row":Str) ("":Str) z.cps.toList).1.map V.str))->bH K H' s [.str (runM p q f b1 b2 b3 b4 ("row":Str) ("":Str) z.cps.toList).2.1,.str (runM p q f b1 b2 b3 b4 ("row":Str) ("":Str) z.cps.toList).2.2.1]->aD H H'->Q (.ref tw) H')->DN K C vs H Q E_
theorem Jv:zzz T dW 8 17 ["dialect","text"] (DN K (aF 49)):=by
 have t7:=rK T
 have Bb:=zj T
 have jZ:=nL T
 refine T.Hr.ok jM 'e' 'a'
 ·obtain⟨x,dx,z,p,q,f,b1,b2,b3,b4,rfl,_⟩:=h;rfl
 ·have hu:=aY hr
  obtain⟨x,dx,z,p,q,f,b1,b2,b3,b4,rfl,hx,g,hz,hz2,k⟩:=h
  refine'⟨_,?aa,?bb⟩
  case aa =>
   refine' ah ?s0 ?r0
   case s0 =>
    exact(bK (pA (k:=4) jZ (hr.mono 'b') rfl T.pR T.jO.kp T.pQ .nil J9 (af (pv 1) ai)))
   case r0 =>
    refine' ah ?s1 ?r1
    case s1 =>
     exact(di 2 jM.nd (De (k:=6) T.LR t7 (hr.mono 'b') rfl T.LQ T.tQ .nil xR (af (pv 0) ai)))
    case r1 =>
     refine' ah ?s2 ?r2
     case s2 =>
      refine' di 3 jM.nd ?v3
      case v3 =>
       refine' bJ ?a4
       case a4 =>
        exact ai
     case r2 =>
      refine' ah ?s5 ?r5
      case s5 =>
       exact(di 4 jM.nd (pC rfl T.lS))
      case r5 =>
       refine' ah ?s6 ?r6
       case s6 =>
        exact(dm aaX rfl (yE (pv 1)) (d8 5 jM.nd)
     (ah (di 6 jM.nd (Ii (k:=3) (pv 2) T.iK T.AQ Bb (hr.mono 'b') T.AO .nil xR (af (pv 4) (af (pv 5) ai))))
     (ah (aH (bX aP (jt K (pv 6) ao) au) (ak (az (aC (af (pv 3) (af (pv 4) (af (jt K (pv 6) ao) ai)))))) ay)
     (ah (bK (cI K rfl aaK aaM aaN bu (pv 3) (af (jt K (pv 6) ao) ai)))
     (ak (di 4 jM.nd (jt K (pv 6) ao)))))))
       case r6 =>
        refine' ak ?s7
        case s7 =>
         refine' az ?v8
         case v8 =>
          refine' aC ?a9
          case a9 =>
           refine' af ?Me ?Mf ?Mg
           case Mg=>exact rfl
           case Me =>
            exact(pv 3)
           case Mf =>
            refine' af ?SJ ?SK ?SM
            case SM=>exact rfl
            case SJ =>
             exact(pv 4)
            case SK =>
             refine' af ?OH ?OI ?OJ
             case OJ=>exact rfl
             case OH =>
              exact cD
             case OI =>
              exact ai
  refine⟨_,O,.str z,O,.str z,(λz' e=>by cases e;omega),(λ_ H1 s1=>?_),(λe=>by rw[G8 hz hz2]at e;cases e)⟩
  refine⟨_,O,λy dy hy MX ne=>⟨y,dy,x,dx,p,q,f,b1,b2,b3,b4,O,aj,GZ hy MX (s1 _ _ hx),g,λH2 hT kp=>⟨O,?_⟩⟩⟩
  have s2:=s1.trans (Et hy MX kp)
  refine⟨by decide,λlk hlk=>?_⟩
  have s3:=aq (o:=HO.lst []) hlk
  have Fc:H lk=none:=s2.free hlk
  refine⟨_,O,z,O,?_⟩
  refine Dh (λi σ H4=>aD H H4/\∃(w u:Str)(s:Addr)(ks:List Str)(v1 v2:Option V),σ=[some (.ref x),some (.str z),some (.ref y),some (.ref lk),some (.ref s),v1,v2]/\Tn (aF 49) (aF 50) H4 y p q f b1 b2 b3 b4/\H4 lk=some (.lst (ks.map V.str))/\bH K H4 s [.str w,.str u]/\ks.length=i/\runM p q f b1 b2 b3 b4 ("row":Str) ("":Str) z.cps.toList=Ay ks (runM p q f b1 b2 b3 b4 w u (z.cps.toList.drop i))) ⟨s2.trans s3,_,_,(aF 59),[],_,_,rfl,hT.mono s3,aj,.inr T.lT,rfl,rfl⟩ ?_ ?_
  ·rintro i c σ H4 hi ⟨s4,w,u,s,ks,v1,v2,rfl,Qm,h4,hs,OO,er⟩
   rw[drop_cons hi]at er
   have hil:=(aam.mp hi).1
   rw[aaE]at hil
   have hil:i<z.length:=hil
   obtain⟨Y0,d4,dd4,Y3,ed4⟩:=Qm.ok
   refine⟨_,O,y,Y0,_,O,Y3,O,_,O,_,O,y,s,w,u,c,p,q,f,b1,b2,b3,b4,O,Qm,hs,λv H5 s5 r=>?_⟩
   have h5:=s5 _ _ h4
   cases Jw:cg p q f b1 b2 b3 b4 w u c with
   |go kd w3 u3 =>
    rw[Jw]at r
    obtain⟨hk,a,b,rfl,ha,hb⟩:=r
    refine⟨_,O,a,_,_,_,O,O,ha,O,O,_,O,u7 hk ?_⟩
    refine⟨_,O,.inl ⟨O,_,aK.of h5⟩,_,O,a,_,_,_,O,O,ha,O,lk,_,_,O,O,h5,?_,?_⟩
    ·rw[aaj];exact aav (show ks.length<=2000 by omega) 'b'
    refine⟨_,O,a,_,_,_,O,O,yN h5 ha,O,aG Fc (s4.trans s5),w3,u3,b,ks++[kd],_,_,O,Tn.but h5 (Qm.mono s5),?_,yN h5 hb,by rw[aaJ,OO];rfl,er.trans (G0 Jw)⟩
    rw[aaI];exact aj
   |qG e =>
    rw[Jw]at r
    obtain⟨a,rfl,ha⟩:=r
    refine⟨_,O,a,_,_,_,O,O,ha,O,O,_,O,u6 (je _) ?_⟩
    refine⟨_,O,_,O,_,O,a,_,_,_,O,O,ha,O,(by show 3<=sizeLine;decide),λt ht=>?_⟩
    have st:=aq (o:=HO.tup [.ref lk,.ref s,.str e]) ht
    rw[Du Jw]at er
    refine k t lk s _ ?_ Fc ?_ ?_ ((s4.trans s5).trans st)
    ·rw[er];exact aj
    ·rw[er];exact st _ _ h5
    ·rw[er];exact dD (s5.trans st) hs
  ·rintro σ H4 ⟨s4,w,u,s,ks,v1,v2,rfl,Qm,h4,hs,OO,er⟩
   rw[List.drop_length,Dv]at er
   refine⟨_,O,_,O,(by show 3<=sizeLine;decide),λt ht=>?_⟩
   have st:=aq (o:=HO.tup [.ref lk,.ref s,.non]) ht
   refine k t lk s _ ?_ Fc ?_ ?_ (s4.trans st)
   ·rw[er];exact aj
   ·rw[er];exact st _ _ h4
   ·rw[er];exact dD st hs
inductive yf(K:W.Frag)(vs:List V)(H:Hp)(Q:VK)(E_:XK):Prop where
 |mk (tw lk s:Addr) (ks:List Str) (w u:Str) (o:Option Str):(vs=[.ref tw])->(H tw=some (.tup [.ref lk,.ref s,G4 o]))->(H lk=some (.lst (ks.map V.str)))->(bH K H s [.str w,.str u])->((o=none->sA w u=true->Q .non H))->(((o=none->sA w u=false)->∀t,H t=none->Q (.ref t) (upd H t (.tup [.int ks.length,.int (RO ks),.str (o.getD ("cut":Str))]))))->yf K vs H Q E_
theorem EJ:zzz T dW 1 18 ["walked"] (yf K):=by
 refine T.AR.ok rG 'e' 'a'
 ·obtain⟨tw,lk,s,ks,w,u,o,rfl,_⟩:=h;rfl
 ·have hu:=aY hr
  have fu:=hr.aO
  obtain⟨tw,lk,s,ks,w,u,o,rfl,ht,hk,hs,k1,k2⟩:=h
  have hT:bH K H tw [.ref lk,.ref s,G4 o]:=bH.of ht
  refine⟨_,(ah (di 1 rG.nd (jt K (pv 0) ao))
   (ah (di 2 rG.nd (jt K (pv 0) ao))
   (ah (aH (PW.pt (cL (bX uN (pv 2) cD) (cy (bX (Gi K rfl fu) (jt K (pv 0) ao) (pC rfl T.lS))))) (ak (az cD)) ay)
   (ak (az (aC (af (gA (aL K rfl) T.bF (af (pv 1) ai)) (af (cI K rfl aaK PySem.F.slot_list_count PySem.F.type_list_count (BX K rfl) (pv 1) (af au ai)) (af (uI (bX uN (pv 2) cD) au (pv 2)) ai))))))))),?_⟩
  refine⟨_,O,tw,_,_,_,O,O,hT,O,_,O,tw,_,_,_,O,O,hT,O,?_⟩
  cases o with
  |none =>
   refine⟨_,O,O,_,O,u6 (aay rfl) ?_⟩
   refine⟨_,O,tw,_,_,_,O,O,hT,O,s,(aF 59),_,_,O,O,hs,.inr T.lT,O,O,_,O,aS (λ(h1:sA w u=true)=>?_) (λ(h1:¬sA w u=true)=>?_)⟩
   ·exact k1 rfl h1
   ·refine⟨_,O,lk,_,O,.inl (aK.of hk),_,O,.inl ⟨O,_,aK.of hk⟩,lk,_,_,O,O,aK.of hk,O,qX ks,_,O,O,_,O,u6 (aay rfl) ?_⟩
    rw[aaj]
    exact⟨(by show 3<=sizeLine;decide),λt ht=>k2 (λ_=>fB h1) t ht⟩
  |some e =>
   refine⟨_,O,O,_,O,u7 (aax (by intro z;cases z)) (bW ?_)⟩
   refine⟨_,O,lk,_,O,.inl (aK.of hk),_,O,.inl ⟨O,_,aK.of hk⟩,lk,_,_,O,O,aK.of hk,O,qX ks,_,O,O,_,O,u7 (aax (by intro z;cases z)) ?_⟩
   rw[aaj]
   exact⟨_,O,(by show 3<=sizeLine;decide),λt ht=>k2 (λz=>by cases z) t ht⟩
inductive sN(K:W.Frag)(vs:List V)(H:Hp)(Q:VK)(E_:XK):Prop where
 |mk (z:Str) (lk:Addr) (ks:List Str):(vs=[.str z,.ref lk])->(H lk=some (.lst (ks.map V.str)))->(z.length<=2000)->(∀(l:Addr)(es:List V)(H':Hp),H l=none->H' l=some (.lst es)->V.ref l∉es->es.Nodup->iE H H' es (Cc z ks)->aD H H'->Q (.ref l) H')->sN K vs H Q E_
theorem Bc:zzz T dW 1 19 ["text","kinds"] (sN K):=by
 refine T.vt.ok bV 'e' 'a'
 ·obtain⟨z,lk,ks,rfl,_⟩:=h;rfl
 ·have hu:=aY hr
  obtain⟨z,lk,ks,rfl,hk,hz,k⟩:=h
  refine⟨_,(ah (di 2 bV.nd (bJ ai))
   (ah (di 3 bV.nd (bJ ai))
   (ah (di 4 bV.nd au)
   (ah (dm aaX rfl (Gu K rfl rfl T.LV (af (pv 0) (af (pv 1) ai))) (fM K rfl 2 rfl (aQ (d8 5 bV.nd) (aQ (d8 6 bV.nd) fK)))
   (ak (aH (bX aP (pv 6) au) (ak (di 4 bV.nd (aI dz (pv 4) (pv 5)))) (ak (aH (bX aP (pv 6) au) (ah (bK (cI K rfl aaK aaM aaN bu (pv 3) (af (pv 4) ai)))
   (ak (di 4 bV.nd au))) (ak (aH (bX aP (pv 6) au) (ah (bK (cI K rfl aaK aaM aaN bu (pv 3) (af (pv 4) ai)))
   (ah (bK (cI K rfl aaK aaM aaN bu (pv 2) (af (pv 3) ai)))
   (ah (di 3 bV.nd (bJ ai))
   (ak (di 4 bV.nd au))))) ay)))))))
   (ak (az (pv 2))))))),?_⟩
  refine⟨by decide,λlt hlt=>?_⟩
  have s1:=aq (o:=HO.lst []) hlt
  refine⟨by decide,λr0 hr0=>?_⟩
  have s2:=aq (o:=HO.lst []) hr0
  have a1:(upd (upd H lt (.lst [])) r0 (.lst [])) lt=some (.lst []):=s2 _ _ aj
  have a2:(upd (upd H lt (.lst [])) r0 (.lst [])) r0=some (.lst []):=aj
  have n0:r0≠lt:=λq=>by rw[q,aj]at hr0;cases hr0
  have fr:=s1.free hr0
  have s12:=s1.trans s2
  generalize upd (upd H lt (.lst [])) r0 (.lst [])=H1 at a1 a2 s12⊢
  refine⟨_,O,_,O,z,lk,O,⟨_,aK.of (s12 _ _ hk)⟩,?_⟩
  have hz':z.cps.size<=2000:=hz
  have e0:("":Str).length=0:=by decide +kernel
  refine Gv (K:=K) (z:=z) (b:=lk) (ys:=ks.map V.str) (λi σ H2=>aD H H2/\∃rr es row cell v5 v6,σ=[some (.str z),some (.ref lk),some (.ref lt),some (.ref rr),some (.str cell),v5,v6]/\H rr=none/\H2 lt=some (.lst es)/\H2 rr=some (.lst (row.map V.str))/\rr≠lt/\V.ref lt∉es/\V.ref rr∉es/\es.Nodup/\∃rows,iE H H2 es rows/\tM G7 (z.cps.toList.take i) (ks.take i)=⟨rows,row,cell⟩/\cell.length<=i/\row.length<=i/\es.length<=i) ⟨s12,r0,[],[],_,_,_,rfl,fr,a1,a2,n0,by simp,by simp,abF,[],.nil,rfl,by rw[e0];exact aao _,aao _,aao _⟩ (λi σ H2 _ q=>aK.of (q.1 _ _ hk)) ?_ ?_
  ·rintro i c y t σ H2 hc hy ht ⟨s3,rr,es,row,cell,v5,v6,rfl,EK,b1,b2,nr,n1,n2,nd,rows,rw',hg,l1,l2,l3⟩
   obtain⟨kd,hkd,rfl⟩:=pI hy
   have hil:=(aa5.mp hc).1
   have hc':z.cps.toList[i]?=some c:=by simpa using hc
   have zm:=qY G7 z.cps.toList ks i c kd hc' hkd
   rw[hg]at zm
   have st:=aq (o:=HO.tup [.str (sg c),.str kd]) ht
   refine⟨t,_,O,bH.of aj,O,_,_,O,_,_,O,O,?_⟩
   have s4:=s3.trans st
   replace b1:=st _ _ b1
   replace b2:=st _ _ b2
   replace rw':=iE.mono st rw'
   generalize upd H2 t (.tup [.str (sg c),.str kd])=H3 at s4 b1 b2 rw'⊢
   clear st ht s3
   unfold IU at zm
   refine⟨_,O,O,_,O,aS (λh1=>?_) (λh1=>?_)⟩
   ·have h1:aZ kd ("put":Str)=true:=h1
    rw[aal h1]at zm
    refine⟨_,O,_,O,_,_,O,O,aaz (show cell.length+1<=2001 by omega) 'b',?_⟩
    exact⟨s4,rr,es,row,_,_,_,O,EK,b1,b2,nr,n1,n2,nd,rows,rw',zm,by rw[jI];show cell.length+1<=_;omega,by omega,by omega⟩
   have h1:¬aZ kd ("put":Str)=true:=h1
   rw[aah h1]at zm
   refine⟨_,O,O,_,O,aS (λh2=>?_) (λh2=>?_)⟩
   ·have h2:aZ kd ("part":Str)=true:=h2
    rw[aal h2]at zm
    refine⟨_,O,.inl ⟨O,_,aK.of b2⟩,_,O,rr,_,_,O,O,b2,by rw[aaj];exact aav l2 (aaF (show i<2001 by omega) 'b'),?_⟩
    refine⟨aG EK s4,rr,es,row++[cell],_,_,_,O,EK,(aB (abm nr)).trans b1,by rw[aj,aaI];rfl,nr,n1,n2,nd,rows,iE.but n2 rw',zm,by rw[e0];omega,by rw[aaJ];show row.length+1<=_;omega,by omega⟩
   have h2:¬aZ kd ("part":Str)=true:=h2
   rw[aah h2]at zm
   refine⟨_,O,O,_,O,aS (λh3=>?_) (λh3=>?_)⟩
   ·have h3:aZ kd ("end":Str)=true:=h3
    rw[aal h3]at zm
    refine⟨_,O,.inl ⟨O,_,aK.of b2⟩,_,O,rr,_,_,O,O,b2,by rw[aaj];exact aav l2 (aaF (show i<2001 by omega) 'b'),?_⟩
    have c1:(upd H3 rr (.lst (row.map V.str++[.str cell]))) lt=some (.lst es):=(aB (abm nr)).trans b1
    refine⟨_,O,.inl ⟨O,_,aK.of c1⟩,_,O,lt,es,_,O,O,c1,aav l3 (aaF (show i<2001 by omega) 'b'),?_⟩
    have s5:aD H (upd (upd H3 rr (.lst (row.map V.str++[.str cell]))) lt (.lst (es++[.ref rr]))):=aG hlt (aG EK s4)
    have d1:(upd (upd H3 rr (.lst (row.map V.str++[.str cell]))) lt (.lst (es++[.ref rr]))) lt=some (.lst (es++[.ref rr])):=aj
    have d2:(upd (upd H3 rr (.lst (row.map V.str++[.str cell]))) lt (.lst (es++[.ref rr]))) rr=some (.lst ((row++[cell]).map V.str)):=by rw[aB nr,aj,aaI];rfl
    have nl:V.ref lt∉es++[V.ref rr]:=λq=>by
     rcases aaH.mp q with q|q
     ·exact n1 q
     ·exact nr (V.ref.inj (aan.mp q)).symm
    have SN:iE H (upd (upd H3 rr (.lst (row.map V.str++[.str cell]))) lt (.lst (es++[.ref rr]))) (es++[.ref rr]) (rows++[row++[cell]]):=iE.app (iE.but n1 (iE.but n2 rw')) (.cons ⟨rr,rfl,EK,d2⟩ .nil)
    have Y4:(es++[V.ref rr]).Nodup:=abl.mpr ⟨nd,by simp,λx hx y hy e=>n2 (by rw[aan.mp hy]at e;exact e▸hx)⟩
    generalize upd (upd H3 rr (.lst (row.map V.str++[.str cell]))) lt (.lst (es++[.ref rr]))=H5 at s5 d1 d2 SN⊢
    refine⟨by decide,λr2 hr2=>?_⟩
    have sn:=aq (o:=HO.lst []) hr2
    have Y5:r2≠lt:=λq=>by rw[q,d1]at hr2;cases hr2
    refine⟨s5.trans sn,r2,es++[.ref rr],[],_,_,_,O,s5.free hr2,sn _ _ d1,aj,Y5,nl,λq=>?_,Y4,_,iE.mono sn SN,zm,by rw[e0];omega,aaZ _,by rw[aaJ];show es.length+1<=_;omega⟩
    obtain⟨_,ys,hys⟩:=SN.has q
    rw[hys]at hr2;cases hr2
   have h3:¬aZ kd ("end":Str)=true:=h3
   rw[aah h3]at zm
   exact⟨s4,rr,es,row,cell,_,_,O,EK,b1,b2,nr,n1,n2,nd,rows,rw',zm,by omega,by omega,by omega⟩
  ·rintro σ H2 ⟨s3,rr,es,row,cell,v5,v6,rfl,EK,b1,b2,nr,n1,n2,nd,rows,rw',hg,l1,l2,l3⟩
   refine⟨_,O,k lt es H2 hlt b1 n1 nd ?_ s3⟩
   have e:min z.cps.size (ks.map V.str).length=min z.cps.toList.length ks.length:=by
    have ez:z.cps.toList.length=z.cps.size:=aaE
    rw[aaj,ez]
   rw[e,ve]at hg
   have:Cc z ks=rows:=by unfold Cc;rw[hg]
   rw[this]
   exact rw'
inductive nM(K:W.Frag)(C:Addr)(vs:List V)(H:Hp)(Q:VK)(E_:XK):Prop where
 |mk (x dx:Addr) (z:Str) (p q f:Str) (b1 b2 b3 b4:Bool):(vs=[.ref x,.str z])->(H x=some (.ins C dx (Dr p q f b1 b2 b3 b4)))->(Gd p q f)->(dZ z)->(z.length<=2000)->(∀v H',mV H H' v (zV (Ob p q f b1 b2 b3 b4 z) z)->aD H H'->Q v H')->nM K C vs H Q E_
theorem wW:zzz T dW 9 20 ["dialect","text"] (nM K (aF 49)):=by
 have Hw:=EJ T
 have Cs:=Bc T
 have Mh:=Jv T
 refine T.pS.ok nh 'e' 'a'
 ·obtain⟨x,dx,z,p,q,f,b1,b2,b3,b4,rfl,_⟩:=h;rfl
 ·have hu:=aY hr
  obtain⟨x,dx,z,p,q,f,b1,b2,b3,b4,rfl,hx,g,hz,hz2,k⟩:=h
  have hw:=λe=>G6 (p:=p) (q:=q) (f:=f) (b1:=b1) (b2:=b2) (b3:=b3) (b4:=b4) (w:=("row":Str)) (u:=("":Str)) (cs:=z.cps.toList) (e:=e)
  refine⟨_,(ah (di 2 nh.nd (eU Mh hr T.LP T.Hr.kp T.LO (af (pv 0) (af (pv 1) ai))))
   (ah (aH (bX Ic (eU Hw hr T.Ht T.AR.kp T.Hs (af (pv 2) ai)) cD) (ak (az cD)) ay)
   (ak (az (eU Cs hr T.Ck T.vt.kp T.Cj (af (pv 1) (af (jt K (pv 2) ao) ai))))))),?_⟩
  refine⟨_,O,_,O,x,dx,z,p,q,f,b1,b2,b3,b4,O,hx,g,hz,hz2,λtw lk s H1 ht Fc hk hs s1=>?_⟩
  unfold Ob at k
  generalize runM p q f b1 b2 b3 b4 ("row":Str) ("":Str) z.cps.toList=r at ht hk hs hw k
  refine⟨_,O,tw,lk,s,r.1,r.2.1,r.2.2.1,r.2.2.2,O,ht,hk,hs,λh1 h2=>?_,λh1 t zo=>?_⟩
  ·refine⟨O,_,O,Dq (aay rfl) ?_⟩
   have hW:wu r=("":Str):=by unfold wu;rw[h1];exact aal h2
   refine⟨_,O,_,O,tw,_,_,_,O,O,bH.of ht,O,z,lk,r.1,O,hk,hz2,λl es H2 hl hl2 nl nd Y6 s2=>?_⟩
   refine k (.ref l) H2 ?_ (s1.trans s2)
   unfold zV
   rw[aal hW]
   exact⟨l,es,O,s1.free hl,hl2,bg (λa b ⟨c,e1,e2,e3⟩=>⟨c,e1,s1.free e2,e3⟩) Y6⟩
  have hW:wu r≠Str.ofString "":=by
   unfold wu
   cases ho:r.2.2.2 with
   |some e=>exact(hw e ho).1
   |none =>
    show(if sA r.2.1 r.2.2.1=true then Str.ofString "" else Str.ofString "cut")≠_
    rw[aah (by rw[h1 ho];decide)]
    exact λq=>absurd (congrArg (λz=>aZ z ("":Str)) q) 'g'
  refine⟨O,_,O,Ds (aax (by intro z;cases z)) ?_⟩
  refine k .non _ ?_ (s1.trans (aq zo))
  unfold zV
  rw[aah hW]
  rfl
inductive lY(K:W.Frag)(CM CN:Addr)(vs:List V)(H:Hp)(Q:VK)(E:XK):Prop where
 |mk (ld lt:Addr) (xs ws:List V):(vs=[.ref ld,.ref lt])->(H ld=some (.lst xs))->(H lt=some (.lst ws))->((∀v∈ws,DB H v/\(∀z,v=.str z->z.length<=10000)))->((lE xs.length ws=0->∀d H',H d=none->H' d=some (J8 d [(Str.ofString "most",.int 8)])->aD H H'->E (.ref CM) (some d) H'))->((lE xs.length ws=1->∀d H',H d=none->H' d=some (J8 d [(Str.ofString "most",.int 6)])->aD H H'->E (.ref CM) (some d) H'))->((lE xs.length ws=2->∀H',aD H H'->E (.ref CN) none H'))->((lE xs.length ws=3->∀H',aD H H'->Q .non H'))->lY K CM CN vs H Q E
theorem vF:zzz T (BD P w) 5 21 ["dialects","texts"] (lY K (aF 57) (aF 53)):=by
 have iu:=m7 T
 have jZ:=nL T
 refine T.ny.Rw lH 'e' 'a'
 ·obtain⟨ld,lt,xs,ws,rfl,_⟩:=h;rfl
 ·have hu:=aY hr
  obtain⟨ld,lt,xs,ws,rfl,hd,hw,hk,k0,k1,k2,k3⟩:=h
  refine⟨_,(ah (aH (bX sj (gA (aL K rfl) T.bF (af (pv 0) ai)) (pD rfl T.lR.choose_spec)) (ak (xW rfl T.mQ (.inr ⟨_,_,O,T.dJ⟩) T.jV.choose_spec.1 T.jV.choose_spec.2 iu (hr.mono 'b') T.ia T.sM rfl T.ye (af (pD rfl T.lR.choose_spec) ai))) ay)
   (ah (aH (bX sj (gA (aL K rfl) T.bF (af (pv 1) ai)) (pD rfl T.nG.choose_spec)) (ak (xW rfl T.mQ (.inr ⟨_,_,rfl,T.dJ⟩) T.jV.choose_spec.1 T.jV.choose_spec.2 iu (hr.mono 'b') T.ia T.sM rfl T.ye (af (pD rfl T.nG.choose_spec) ai))) ay)
   (ak (dm PassesOwn.leaving rfl (bq K rfl (pv 1)) (d8 2 lH.nd)
   (ak (bK (pA (k:=4) jZ (hr.mono 'b') rfl T.pR T.jO.kp T.pQ .nil J6 (af (pv 2) ai)))))))),?_⟩
  refine⟨_,O,_,_,O,.inl (aK.of hd),_,_,O,O,_,O,?_⟩
  refine JZ (λc1=>?_) (λc1=>?_)
  ·have e:lE xs.length ws=0:=by unfold lE;rw[aal 'c']
   have k0:=k0 e
   refine⟨'b',λea vX=>⟨_,_,O,aj,'b',λd H' hd nd e1 e2 MY=>⟨O,_,e1,k0 _ _ ((aG vX (aD.refl _)).free hd) ?_ ?_⟩⟩⟩
   ·rw[uZ nd];exact e2
   ·exact vf (aD.refl _) vX hd MY
  refine⟨_,O,_,_,O,.inl (aK.of hw),_,_,O,O,_,O,?_⟩
  refine JZ (λc2=>?_) (λc2=>?_)
  ·have e:lE xs.length ws=1:=by unfold lE;rw[aah 'c',aal 'c']
   have k1:=k1 e
   refine⟨'b',λea vX=>⟨_,_,O,aj,'b',λd H' hd nd e1 e2 MY=>⟨O,_,e1,k1 _ _ ((aG vX (aD.refl _)).free hd) ?_ ?_⟩⟩⟩
   ·rw[uZ nd];exact e2
   ·exact vf (aD.refl _) vX hd MY
  refine⟨_,O,lt,O,⟨_,aK.of hw⟩,?_⟩
  refine kW (K:=K) (a:=lt) (xs:=ws) (λi σ J=>aD H J/\(∀v∈ws.take i,E9 v=true)/\∃v,σ=[some (.ref ld),some (.ref lt),v]) ⟨aD.refl _,(λv hv=>nomatch hv),_,rfl⟩ (λi σ J _ q=>aK.of (q.1 _ _ hw)) ?_ ?_
  ·rintro i e σ J hi ⟨sJ,hall,v,rfl⟩
   obtain⟨ke,be⟩:=hk e (aar hi)
   refine⟨_,O,e,O,ke.mono sJ,be,(λhT H3 s3=>⟨sJ.trans s3,λw Em=>?_,_,O⟩),λhT H3 s3=>?_⟩
   ·rw[aX hi]at Em
    rcases aaH.mp Em with q|q
    ·exact hall w q
    ·rw[aan.mp q];exact hT
   ·refine k2 ?_ H3 (sJ.trans s3)
    unfold lE
    rw[aah 'c',aah 'c',aah]
    intro q
    rw[aaO.mp q e (aar hi)]at hT;cases hT
  ·rintro σ J ⟨sJ,hall,v,rfl⟩
   rw[aaD (aao _)]at hall
   refine k3 ?_ J sJ
   unfold lE
   rw[aah 'c',aah 'c',aal (aaO.mpr hall)]
inductive lZ(K:W.Frag)(C:Addr)(vs:List V)(H:Hp)(Q:VK)(E_:XK):Prop where
 |mk (ld:Addr) (z:Str) (xs:List V) (cs:List fW):(vs=[.ref ld,.str z])->(H ld=some (.lst xs))->(tL C H xs cs)->((∀c∈cs,xY c))->(cs.length<=100)->(dZ z)->(z.length<=2000)->(∀l H',H l=none->H' l=some (.lst ((readM (lC cs z)).map nV))->aD H H'->Q (.ref l) H')->lZ K C vs H Q E_
theorem vG:zzz T dW 10 22 ["dialects","text"] (lZ K (aF 49)):=by
 have zp:=wW T
 refine T.nA.ok lI 'e' 'a'
 ·obtain⟨ld,z,xs,cs,rfl,_⟩:=h;rfl
 ·have hu:=aY hr
  obtain⟨ld,z,xs,cs,rfl,hd,mk,gd,hc,hz,vY,k⟩:=h
  have t9:=hr.units
  have OP:=mk.length
  have hrl:(lC cs z).length=cs.length:=by unfold lC;exact aaj _
  refine⟨_,(ah (di 2 lI.nd (cT rfl (show aR ["dialects","text","tables"] (av ef) ["dialect","text"] 1 [1] _ from yM) (bq K rfl (pv 0)) (λ_ _ _ _=>(d8 0 (show(["dialect","text"]:List Str).Nodup by decide +kernel))) (λ_ _ _ _=>cB) (λ_ _ _ _=>(eU zp hr T.yZ T.pS.kp T.yY (af (pv 0) (af (pv 1) ai))))))
   (ak (az (cT rfl (show aR ["dialects","text","tables"] (av ef) ["table","tables"] 1 [2] _ from yM) (bq K rfl (pv 2)) (λ_ _ _ _=>(d8 0 (show(["table","tables"]:List Str).Nodup by decide +kernel))) (λ_ _ _ _=>cB) (λ_ _ _ _=>(cI K rfl aaK PySem.F.slot_list_index PySem.F.type_list_index (GN K rfl t9) (pv 1) (af (pv 0) ai))))))),?_⟩
  refine⟨_,O,ld,O,⟨_,aK.of hd⟩,λD hD=>?_⟩
  have BE:(upd H D (.lst [])) D≠none:=by rw[aj];intro q;cases q
  have EL:∀{J:Hp}{ys:List V},aD H J->J D=some (.lst ys)->∀b,J b=none->(upd H D (.lst [])) b=none:=λsJ hJ b hb=>(aB (λq=>by rw[q,hJ]at hb;cases hb)).trans (sJ.free hb)
  generalize Qn:upd H D (.lst [])=A0 at BE EL
  refine bB (K:=K) (a:=ld) (xs:=xs) (λi ys τ J=>(∃v,τ=[v,some (.str z)])/\aD H J/\J D=some (.lst ys)/\Yp A0 J ys ((lC cs z).take i)) ⟨⟨_,rfl⟩,aq hD,aj,.nil⟩ (λi ys τ J _ p=>⟨aK.of (p.2.1 _ _ hd),p.2.2.1⟩) ?_ ?_
  ·rintro i e ys τ J hi ⟨⟨v,rfl⟩,sJ,hJ,rs⟩
   obtain⟨x,hx,y,dy,rfl,hy⟩:=aE mk i e hi
   have hil:i<cs.length:=(aam.mp hx).1
   have hyl:=rs.length
   rw[aaL]at hyl
   refine kM ?_
   refine⟨_,O,_,O,y,dy,z,x.1,x.2.1,x.2.2.1,x.2.2.2.a,x.2.2.2.b,x.2.2.2.c,x.2.2.2.d,O,sJ _ _ hy,gd x (aar hx),hz,vY,λv H1 rv s1=>?_⟩
   have Ko:=s1 _ _ hJ
   refine⟨Ko,aav (show ys.length<=100 by omega) 'b',⟨_,O⟩,aG hD (sJ.trans s1),aj,?_⟩
   rw[aX (l:=lC cs z) (c:=zV (runC x z) z) (by unfold lC;rw[aaT,hx];rfl)]
   exact bA (bg (λ_ _ h=>(h.mono s1).set BE) rs) (.cons ((rv.old (EL sJ hJ)).set BE) .nil)
  rintro ys τ J ⟨⟨v,rfl⟩,sJ,hJ,rs⟩
  rw[OP,aaD (by rw[hrl];exact aao _)]at rs
  have hyl:=rs.length
  generalize lC cs z=os at rs hyl hrl k
  refine⟨_,O,D,O,⟨_,aK.of hJ⟩,λD2 Hx=>?_⟩
  refine bB (K:=K) (a:=D) (xs:=ys) (λi zs τ G=>(∃v,τ=[v,some (.ref D)])/\aD J G/\G D2=some (.lst zs)/\zs=((readM os).take i).map nV) ⟨⟨_,rfl⟩,aq Hx,aj,rfl⟩ (λi zs τ G _ p=>⟨aK.of (p.2.1 _ _ hJ),p.2.2.1⟩) ?_ ?_
  ·rintro i e zs τ G hi ⟨⟨v,rfl⟩,sG,hG,rfl⟩
   obtain⟨o,ho,ro⟩:=aE rs i e hi
   have hil:i<os.length:=(aam.mp ho).1
   have Y7:=aar ho
   refine kM ?_
   obtain⟨Y8,hxa⟩:=yQ Y7
   have SO:=bg (λ_ _ h=>mV.mono sG h) rs
   refine⟨_,O,.inl ⟨O,_,aK.of (sG _ _ hJ)⟩,_,O,D,ys,e,LL A0 G o,rA o os,O,O,aK.of (sG _ _ hJ),λz hz=>?_,by omega,?_,λj z hj hz=>?_,?_⟩
   ·obtain⟨j,hj⟩:=abD.mp hz
    obtain⟨o',_,M0⟩:=aE SO j z hj
    rw[yR M0]
    exact G9 M0 (ro.mono sG)
   ·obtain⟨z,hz⟩:∃z,ys[rA o os]?=some z:=⟨_,aau 'c'⟩
    obtain⟨o',ho',M0⟩:=aE SO _ z hz
    rw[hxa]at ho'
    exact⟨z,hz,by rw[yR M0];exact aay (aaA ho').symm⟩
   ·obtain⟨o',ho',M0⟩:=aE SO j z hz
    rw[yR M0]
    exact aax λq=>Hf hj (by rw[ho',q])
   ·refine⟨hG,?_,⟨_,O⟩,aG Hx sG,aj,?_⟩
    ·rw[aaj,aaL]
     exact aav (show min i (readM os).length<=100 by omega) 'b'
    ·rw[aX (l:=readM os) (c:=rA o os) (by unfold readM;rw[aaT,ho];rfl),aaI];rfl
  rintro zs τ G ⟨⟨v,rfl⟩,sG,hG,rfl⟩
  have e:(readM os).take ys.length=readM os:=aaD (by unfold readM;rw[aaj];omega)
  rw[e]at hG
  exact k D2 G (sJ.free Hx) hG (sJ.trans sG)
inductive sO(K:W.Frag)(vs:List V)(H:Hp)(Q:VK)(E_:XK):Prop where
 |mk (lr lp:Addr) (r ps:List Nat):(vs=[.ref lr,.ref lp])->(H lr=some (.lst (r.map nV)))->(H lp=some (.lst (ps.map nV)))->((∀p∈ps,p<r.length))->(ps.length<=100)->(∀l es H',H l=none->H' l=some (.lst es)->aV H H' es (aA r ps)->aD H H'->Q (.ref l) H')->sO K vs H Q E_
theorem sP:zzz T dW 1 23 ["readings","places"] (sO K):=by
 refine T.oS.ok iH 'e' 'a'
 ·obtain⟨lr,lp,r,ps,rfl,_⟩:=h;rfl
 ·have hu:=aY hr
  have fu:=hr.aO
  obtain⟨lr,lp,r,ps,rfl,hlr,wX,hlt,hpl,k⟩:=h
  refine⟨_,(ah (di 2 iH.nd (bJ ai))
   (ah (dm aaX rfl (bq K rfl (pv 1)) (d8 3 iH.nd)
   (ah (pB (i:=4) rfl iH.nd rfl rfl (show aR ["readings","places","parts","place","beside"] (av jB) ["part","readings","place"] 1 [0,3] _ from yM) (bq K rfl (pv 2)) (λ_ _ _ _=>(d8 0 (show(["part","readings","place"]:List Str).Nodup by decide +kernel))) (λ_ _ _ _=>(yD (bX aP (fN K (pv 1) (fN K (pv 0) ao)) (fN K (pv 1) (pv 2))))) (λ_ _ _ _=>(pv 0)))
   (ak (aH (bX (yF K rfl fu) (pv 4) (bJ ai)) (ak (bK (cI K rfl aaK aaM aaN bu (pv 2) (af (bJ (af (pv 3) ai)) ai)))) (ak (bK (cI K rfl aaK aaM aaN bu (fN K (pv 4) ao) (af (pv 3) ai))))))))
   (ak (az (pv 2))))),?_⟩
  refine⟨by decide,λl hl=>?_⟩
  have s1:=aq (o:=HO.lst []) hl
  refine⟨_,O,lp,O,⟨_,aK.of (s1 _ _ wX)⟩,?_⟩
  refine kW (K:=K) (a:=lp) (xs:=ps.map nV) (λi σ J=>aD H J/\∃es v1 v2,σ=[some (.ref lr),some (.ref lp),some (.ref l),v1,v2]/\J l=some (.lst es)/\V.ref l∉es/\es.Nodup/\aV H J es (aA r (ps.take i))/\(aA r (ps.take i)).length<=i) ⟨s1,[],_,_,rfl,aj,by simp,abF,.nil,aao _⟩ (λi σ J _ q=>aK.of (q.1 _ _ wX)) ?_ ?_
  ·rintro i e σ J hi ⟨sJ,es,v1,v2,rfl,hJ,hn,nd,pa,pl⟩
   obtain⟨p,hp,rfl⟩:=uG hi
   have Mi:=aar hp
   have hp1:=hlt p Mi
   have hil:i<ps.length:=(aam.mp hp).1
   have good:=eG (r:=r) (ps:=ps.take i)
   have SQ:=vg (r:=r) hp
   have OQ:∀q∈aA r (ps.take i),q.headD 0<r.length:=λq hq=>by
    obtain⟨h1,h2⟩:=good q hq
    cases q with
    |nil=>exact absurd rfl h1
    |cons x q=>exact hlt x (abt (h2 x (aat ..)))
   have hne:∀q∈aA r (ps.take i),q≠[]:=λq hq=>(good q hq).1
   have Hy:=pa.length
   have OR:∀q∈aA r (ps.take i),q.length<=i:=λq hq=>by
    have:=mO hq;rw[aaL]at this;omega
   rw[SQ]
   generalize aA r (ps.take i)=qs at pa pl OQ hne Hy OR
   have SR:iB (r.map nV) (p:Int)=some (nV (r.getD p 0)):=bL (Oc hp1)
   refine⟨_,O,l,O,⟨_,aK.of hJ⟩,λD hD=>?_⟩
   refine bB (K:=K) (a:=l) (xs:=es) (λj ys τ G=>(∃v,τ=[v,some (.ref lr),some (nV p)])/\aD J G/\G D=some (.lst ys)/\ys=oH r p ((es.zip qs).take j)) ⟨⟨_,rfl⟩,aq hD,aj,rfl⟩ (λj ys τ G _ q=>⟨aK.of (q.2.1 _ _ hJ),q.2.2.1⟩) ?_ ?_
   ·rintro j e ys τ G hj ⟨⟨v,rfl⟩,sG,hG,rfl⟩
    obtain⟨q,hq,a,rfl,ha0,ha⟩:=aE pa j e hj
    have DO:=aar hq
    have SS:=sG _ _ ha
    have hqn:=hne q DO
    have Wu:=OQ q DO
    have Mj:iB (q.map nV) 0=some (nV (q.headD 0)):=by
     cases q with
     |nil=>exact absurd rfl hqn
     |cons x q=>exact(show iB _ ((0:Nat):Int)=_ from bL rfl)
    have SV:iB (r.map nV) ((q.headD 0:Nat):Int)=some (nV (r.getD (q.headD 0) 0)):=bL (Oc Wu)
    have Wv:=sG _ _ (sJ _ _ hlr)
    have SW:(es.zip qs)[j]?=some (.ref a,q):=by rw[List.getElem?_zip_eq_some];exact⟨hj,hq⟩
    have Y9:=DF (r:=r) (p:=p) (Z:=(es.zip qs).take j)
    have vY:((es.zip qs).take j).length<=100:=by rw[aaL,List.length_zip];omega
    rw[AE SW]
    refine⟨_,O,_,O,_,_,_,_,O,O,aK.of SS,Mj,_,_,_,_,O,O,aK.of Wv,SV,_,O,_,O,_,_,_,_,O,O,aK.of Wv,SR,O,_,O,?_⟩
    refine NZ (λc=>?_) (λc=>?_)
    ·have c:r.getD (q.headD 0) 0=r.getD p 0:=by omega
     rw[aal c]
     refine⟨_,O,hG,aav (show _<=200 by omega) 'b',⟨_,O⟩,aG hD sG,aj,O⟩
    ·have c:¬r.getD (q.headD 0) 0=r.getD p 0:=λe=>c 'c'
     rw[aah c]
     exact⟨⟨_,O⟩,sG,hG,O⟩
   rintro ys τ G ⟨⟨v,rfl⟩,sG,hG,rfl⟩
   have hel:es.length=qs.length:=Hy
   rw[aaD (by rw[List.length_zip];omega)]at hG
   have Ml:=sG _ _ hJ
   have lD:l≠D:=λq=>by rw[q]at hJ;rw[hD]at hJ;cases hJ
   rcases rj (r:=r) (p:=p) hel with ⟨e1,e2⟩|⟨e,ws,j,q,e1,e2,e3,e4⟩
   ·rw[e1]at hG
    rw[e2]
    dsimp only[bU]
    refine⟨_,O,'b',λq0 sQ=>⟨_,_,_,O,O,aK.of (aq sQ _ _ hG),aK.of aj,_,O,kL (⟨_,O,.inl ⟨O,⟨_,aK.of (aq sQ _ _ Ml)⟩⟩,_,O,(by show(1:Nat)<=sizeLine;decide),?_⟩)⟩⟩
    (have u1:=aq (o:=HO.lst []) sQ;have g1:=aj (H:=G) (a:=q0) (o:=HO.lst []);generalize upd G q0 (HO.lst [])=G1 at u1 g1⊢)
    have Hz:=u1 _ _ Ml
    have DP:=sJ.trans (sG.trans u1)
    have OS:=aV.mono (sG.trans u1) pa
    intro n hn0
    have OU:n≠l:=λq=>by rw[q,Hz]at hn0;cases hn0
    have s2:=aq (o:=HO.lst [nV p]) hn0
    have Qj:V.ref n∉es:=λq=>by
     obtain⟨j,hj⟩:=abD.mp q
     obtain⟨_,_,a,e,_,ha⟩:=aE OS j _ hj
     cases e;rw[ha]at hn0;cases hn0
    refine⟨_,_,_,O,O,s2 _ _ Hz,aav (show es.length<=200 by omega) 'b',aG hl (DP.trans s2),es++[.ref n],_,_,O,aj,?_,?_,?_,?_⟩
    ·intro q
     rcases aaH.mp q with q|q
     ·exact hn q
     ·exact OU (V.ref.inj (aan.mp q)).symm
    ·exact abl.mpr ⟨nd,by simp,λx hx y hy e=>Qj (by rw[aan.mp hy]at e;exact e▸hx)⟩
    ·exact bA (aV.but hn (aV.mono s2 OS)) (.cons ⟨n,rfl,DP.free hn0,(aB OU).trans aj⟩ .nil)
    ·rw[aaJ];show qs.length+1<=i+1;omega
   ·rw[e1]at hG
    rw[e4]
    obtain⟨q',hq',a,rfl,ha0,ha⟩:=aE pa j e e2
    rw[e3]at hq';cases hq'
    dsimp only[bU]
    have Za:=OR q (aar e3)
    refine⟨_,O,'b',λq0 sQ=>⟨_,_,_,O,O,aK.of (aq sQ _ _ hG),aK.of aj,_,O,bW (⟨_,O,_,_,_,_,O,O,aK.of (aq sQ _ _ hG),(show iB _ ((0:Nat):Int)=_ from bL rfl),.inl ⟨O,⟨_,aK.of (aq sQ _ _ (sG _ _ ha))⟩⟩,_,O,_,_,_,O,O,(aq sQ _ _ (sG _ _ ha)),?_,(aG ha0 (aG ((sJ.trans sG).free sQ) (sJ.trans sG))),?_⟩)⟩⟩
    ·rw[aaj];exact aav (show q.length<=100 by omega) 'b'
    have sn:=aq (o:=HO.lst []) sQ
    have Mm:=sG.trans sn
    have el:q++[p]=q++[p]:=rfl
    have al:l≠a:=λq=>hn (by rw[q];exact aar e2)
    refine⟨es,_,_,O,(aB al).trans (sn _ _ Ml),hn,nd,?_,by rw[List.length_set];omega⟩
    rw[show q.map nV++[nV p]=(q++[p]).map nV by rw[aaI];rfl]
    exact aV.LJ (aV.mono Mm pa) nd e2
  ·rintro σ J ⟨sJ,es,v1,v2,rfl,hJ,hn,nd,pa,pl⟩
   rw[aaD (by rw[aaj];exact aao _)]at pa
   exact⟨_,O,k l es J hl hJ pa sJ⟩
inductive iL(K:W.Frag)(vs:List V)(H:Hp)(Q:VK)(E_:XK):Prop where
 |mk (la lp:Addr) (Ct:List V) (R:List (List Nat)) (ps:List Nat):(vs=[.ref la,.ref lp])->(H la=some (.lst Ct))->(vh H Ct R)->(R.length<=100)->(H lp=some (.lst (ps.map nV)))->(ps.length<=100)->((∀r∈R,∀p∈ps,p<r.length))->(∀H',aD H H'->Q (.bl (cF R ps)) H')->iL K vs H Q E_
theorem qf:zzz T dW 2 24 ["all_readings","places"] (iL K):=by
 have oZ:=sP T
 refine T.jh.ok pK 'e' 'a'
 ·obtain⟨la,lp,Ct,R,ps,rfl,_⟩:=h;rfl
 ·have hu:=aY hr
  obtain⟨la,lp,Ct,R,ps,rfl,hla,rg,hR,wX,hps,hb,k⟩:=h
  have hrl:=rg.length
  refine⟨_,(ak (az (gA (qP K rfl rfl) T.Co (af (cT rfl (show aR ["all_readings","places"] (av dP) ["readings","places"] 1 [1] _ from yM) (bq K rfl (pv 0)) (λ_ _ _ _=>(d8 0 (show(["readings","places"]:List Str).Nodup by decide +kernel))) (λ_ _ _ _=>cB) (λ_ _ _ _=>(Es m9 (gA (aL K rfl) T.bF (af (eU oZ hr T.vz T.oS.kp T.vv (af (pv 0) (af (pv 1) ai))) ai)) ao))) ai)))),?_⟩
  refine⟨_,O,la,O,⟨_,aK.of hla⟩,λD hD=>?_⟩
  refine bB (K:=K) (a:=la) (xs:=Ct) (λi ys τ J=>(∃v,τ=[v,some (.ref lp)])/\aD H J/\J D=some (.lst ys)/\ys=((R.take i).map λr=>decide ((aA r ps).length<2)).map V.bl) ⟨⟨_,rfl⟩,aq hD,aj,rfl⟩ (λi ys τ J _ p=>⟨aK.of (p.2.1 _ _ hla),p.2.2.1⟩) ?_ ?_
  ·rintro i e ys τ J hi ⟨⟨v,rfl⟩,sJ,hJ,rfl⟩
   obtain⟨r,Kp,a,rfl,ha⟩:=aE rg i e hi
   have hrm:=aar Kp
   have hil:i<R.length:=(aam.mp Kp).1
   refine kM ?_
   have SX:=hb r hrm
   have Zb:=sJ _ _ ha
   have Zc:=sJ _ _ wX
   refine⟨_,O,_,O,a,lp,r,ps,O,Zb,Zc,SX,hps,λl es H1 Fc hl pa s1=>?_⟩
   have OV:=pa.length
   have Ko:=s1 _ _ hJ
   have e2:((((R.take i).map λr=>decide ((aA r ps).length<2)).map V.bl)++[.bl (decide ((aA r ps).length<2))])=((R.take (i+1)).map λr=>decide ((aA r ps).length<2)).map V.bl:=by
    rw[aX Kp,aaI,aaI];rfl
   have e3:decide (((aA r ps).length:Int)<2)=decide ((aA r ps).length<2):=by
    rw[aa2,aa1,aa1];omega
   refine⟨l,es,O,.inl (aK.of hl),_,_,O,O,Ko,?_,⟨_,O⟩,aG hD (sJ.trans s1),aj,?_⟩
   ·rw[aaj,aaj,aaL];exact aav (show min i R.length<=100 by omega) 'b'
   ·rw[OV];show _++[V.bl (decide (((aA r ps).length:Int)<2))]=_;rw[e3];exact e2
  rintro ys τ J ⟨⟨v,rfl⟩,sJ,hJ,rfl⟩
  rw[hrl,aaD (aao _)]at hJ
  have e4:((R.map λr=>decide ((aA r ps).length<2)).all id)=cF R ps:=by unfold cF;rw[List.all_map];rfl
  refine⟨D,R.map λr=>decide ((aA r ps).length<2),O,aK.of hJ,?_⟩
  rw[e4]
  exact k J sJ
inductive fk(K:W.Frag)(D:Nat)(vs:List V)(H:Hp)(Q:VK)(E_:XK):Prop where
 |mk (la lp:Addr) (Ct:List V) (R:List (List Nat)) (ps:List Nat) (d:Nat):(vs=[.ref la,.ref lp,.int (d:Int)])->(d<D)->(H la=some (.lst Ct))->(vh H Ct R)->(R.length<=100)->(H lp=some (.lst (ps.map nV)))->(ps.length<=100)->((∀r∈R,∀p∈ps,p<r.length))->(∀v H',OF H H' d v (aT R d ps)->aD H H'->Q v H')->fk K D vs H Q E_
theorem qg:∀d:Nat,aW P w K mg base dW (2+1*d) (aF 25) (aN 25) ["all_readings","places","depth"] (fk K d):=by
 intro d
 induction d with
 |zero=>exact⟨λvs H Q E h=>by exfalso;obtain⟨la,lp,Ct,R,ps,d,rfl,hd,_⟩:=h;omega,λA outer s H args us vs Q E _ _ _ _ h=>by exfalso;obtain⟨la,lp,Ct,R,ps,d,rfl,hd,_⟩:=h;omega⟩
 |succ d ih =>
  have jc:=ih
  show aW P w K mg base dW (2+1*d+1) (aF 25) (aN 25) ["all_readings","places","depth"] (fk K (d+1))
  have rN:=qf T
  have oZ:=sP T
  refine T.ja.ok dG 'e' 'a'
  ·obtain⟨la,lp,Ct,R,ps,d,rfl,_⟩:=h;rfl
  ·have Jx:=hr
   have hr:cM 2 _:=hr.mono 'c'
   obtain⟨la,lp,Ct,R,ps,k,rfl,hkd,hla,rg,hR,wX,hps,hb,kk⟩:=h
   have t9:=hr.units
   have hrl:=rg.length
   have hpl:(ps.map nV).length=ps.length:=aaj _
   refine⟨_,(ah (aH (bP (eU rN hr T.rJ T.jh.kp T.rH (af (pv 0) (af (pv 1) ai)))) (ak (az (aC (af au (af (LC (iR K rfl) T.jW (af (pv 1) ai)) ai))))) ay)
   (ah (aH (bX aP (pv 2) ao) (ak (az cD)) ay)
   (ah (dm aaX rfl (Gp K rfl rfl T.zg (af (pv 0) ai)) (fM K rfl 2 rfl (aQ (d8 3 dG.nd) (aQ (d8 4 dG.nd) fK)))
   (ah (di 5 dG.nd (eU oZ hr T.vz T.oS.kp T.vv (af (pv 4) (af (pv 1) ai))))
   (ak (aH (bX sj (gA (aL K rfl) T.bF (af (pv 5) ai)) ao) (ah (pB (i:=6) rfl dG.nd rfl rfl (show aR ["all_readings","places","depth","at","readings","parts","branches"] (av fO) ["part","all_readings","depth"] 1 [0,2] _ from yM) (bq K rfl (pv 5)) (λ_ _ _ _=>(d8 0 (show(["part","all_readings","depth"]:List Str).Nodup by decide +kernel))) (λ_ _ _ _=>cB) (λ_ _ _ _=>(eU jc Jx T.nC T.ja.kp T.nB (af (pv 1) (af (pv 0) (af (aI uM (pv 2) ao) ai))) (hkk:=aao _))))
   (ak (aH (cz (Lv K rfl t9) cD (pv 6) rfl) (ak (az (aC (af au (af (pv 3) (af (pv 6) ai)))))) ay))) ay))))
   (ak (az cD))))),?_⟩
   refine⟨_,O,_,O,la,lp,Ct,R,ps,O,hla,rg,hR,wX,hps,hb,λH1 s1=>?_⟩
   refine⟨_,O,X8 (λc1=>?_) (λc1=>?_)⟩
   ·have et:aT R k ps=some (.leaf ps):=by cases k<;>(unfold aT;rw[aal c1])
    rw[et]at kk
    have hp1:=s1 _ _ wX
    refine⟨_,O,_,_,O,.inl (aK.of hp1),λl hl=>⟨(by show(2:Nat)<=sizeLine;decide),λt ht=>kk _ _ ?_ (aG ((aG (s1.free hl) s1).free ht) (aG (s1.free hl) s1))⟩⟩
    have sl:=aq (o:=HO.lst (ps.map nV)) hl
    have st:=aq (o:=HO.tup [.str ("leaf":Str),.ref l]) ht
    have tl:t≠l:=λq=>by rw[q,aj]at ht;cases ht
    have nd:[t,l].Nodup:=by simp[tl]
    have fr:∀b∈[t,l],H b=none:=λb hb=>by
     rcases aas.mp hb with rfl|hb
     ·exact s1.free (sl.free ht)
     ·rw[aan.mp hb];exact s1.free hl
    have q:∃t' l',V.ref t=.ref t'/\[t,l]=[t',l']/\(upd (upd H1 l (.lst (ps.map nV))) t (.tup [.str ("leaf":Str),.ref l])) t'=some (.tup [.str ("leaf":Str),.ref l'])/\(upd (upd H1 l (.lst (ps.map nV))) t (.tup [.str ("leaf":Str),.ref l])) l'=some (.lst (ps.map nV)):=⟨t,l,rfl,rfl,aj,st _ _ aj⟩
    cases k<;>exact⟨[t,l],q,nd,fr⟩
   have et:aT R 0 ps=none:=by unfold aT;rw[aah (by rw[c1];decide)]
   dsimp only[Fl]
   cases k with
   |zero =>
    rw[et]at kk
    have kk:=kk .non H1 rfl s1
    refine⟨_,O,O,_,O,Qf 'g' (kk)⟩
   |succ k =>
   have Zd:aT R (k+1) ps=oJ (aT R k) ps 0 R:=by unfold aT;rw[aah (by rw[c1];decide)]
   rw[Zd]at kk
   have nz:¬(((k+1:Nat):Int)=0):=by omega
   have SY:=s1 _ _ hla
   refine⟨_,O,O,_,O,ID nz (⟨_,O,_,O,⟨_,aK.of SY⟩,?_⟩)⟩
   refine Gq (K:=K) (a:=la) (xs:=Ct) (λi σ J=>aD H J/\oJ (aT R k) ps 0 R=oJ (aT R k) ps i (R.drop i)/\∃v3 v4 v5 v6,σ=[some (.ref la),some (.ref lp),some (.int ((k+1:Nat):Int)),v3,v4,v5,v6]) ⟨s1,rfl,_,_,_,_,rfl⟩ (λi σ J _ q=>aK.of (q.1 _ _ hla)) ?_ ?_
   ·rintro i e t σ J hi ht ⟨sJ,ua,v3,v4,v5,v6,rfl⟩
    obtain⟨r,Kp,ra,rfl,Ze⟩:=aE rg i e hi
    have hrm:=aar Kp
    rw[Oa Kp,lB]at ua
    have st:=aq (o:=HO.tup [.int i,.ref ra]) ht
    refine⟨t,_,O,bH.of aj,O,_,_,O,_,_,O,O,?_⟩
    have Jy:=sJ.trans st
    generalize upd J t (.tup [.int i,.ref ra])=J2 at Jy⊢
    clear st ht
    have SX:=hb r hrm
    have S0:=Jy _ _ Ze
    have S3:=Jy _ _ wX
    refine⟨_,O,_,O,ra,lp,r,ps,O,S0,S3,SX,hps,λl5 Kq J3 S4 Mp Mq s3=>?_⟩
    have Zf:=Mq.length
    have Kr:=Jy.trans s3
    dsimp only[bU]
    refine⟨_,O,l5,Kq,O,.inl (aK.of Mp),_,_,O,O,_,O,JZ (λc=>?_) (λc=>?_)⟩
    rotate_left
    ·rw[aah 'c']at ua
     exact⟨Kr,ua,_,_,_,_,O⟩
    rw[aal 'c']at ua
    have good:=eG (r:=r) (ps:=ps)
    have OW:∀q∈aA r ps,q.length<=ps.length:=λq hq=>mO hq
    have Zg:=gH (r:=r) (ps:=ps)
    generalize aA r ps=qs at Mq Zf c ua good OW Zg
    have S5:=Kr _ _ hla
    have Zh:=vh.mono Kr rg
    refine⟨_,O,l5,O,⟨_,aK.of Mp⟩,λB hB=>?_⟩
    have BE:(upd J3 B (.lst [])) B≠none:=by rw[aj];intro q;cases q
    have EL:∀{J:Hp}{ys:List V},aD J3 J->J B=some (.lst ys)->∀b,J b=none->(upd J3 B (.lst [])) b=none:=λsJ hJ b hb=>(aB (λq=>by rw[q,hJ]at hb;cases hb)).trans (sJ.free hb)
    have Ww:∀b,(upd J3 B (.lst [])) b=none->H b=none:=λb hb=>Kr.free ((aq hB).free hb)
    generalize Qn:upd J3 B (.lst [])=A0 at BE EL Ww
    refine bB (K:=K) (a:=l5) (xs:=Kq) (λj ys τ G=>(∃v,τ=[v,some (.ref la),some (.int ((k+1:Nat):Int))])/\aD J3 G/\G B=some (.lst ys)/\zW A0 G k ys ((qs.take j).map (aT R k))) ⟨⟨_,rfl⟩,aq hB,aj,[],rfl,.nil,abF,λb h=>nomatch h⟩ (λj ys τ G _ q=>⟨aK.of (q.2.1 _ _ Mp),q.2.2.1⟩) ?_ ?_
    ·rintro j e ys τ G hj ⟨⟨v,rfl⟩,sG,hG,ot⟩
     obtain⟨q,hq,b,rfl,hb0,hbv⟩:=aE Mq j e hj
     have DO:=aar hq
     have hyl:=(zW.ot ot).length
     rw[aaj,aaL]at hyl
     refine kM ?_
     refine⟨_,O,_,O,_,O,_,_,O,O,la,b,Ct,R,q,k,?_,by omega,sG _ _ S5,vh.mono sG Zh,hR,sG _ _ hbv,?_,λr' hr' p hp=>hb r' hr' p ((good q DO).2 p hp),λv G2 hv s2=>?_⟩
     ·show [V.ref la,V.ref b,V.int (((k+1:Nat):Int)-1)]++[]=_
      rw[show((k+1:Nat):Int)-1=(k:Int) by omega];rfl
     ·have:=OW q DO;omega
     have Ks:=s2 _ _ hG
     refine⟨Ks,aav (show ys.length<=100 by omega) 'b',⟨_,O⟩,aG hB (sG.trans s2),aj,?_⟩
     rw[aX hq,aaI]
     exact zW.keep (λb o hA h=>(aB (λq=>BE (by rw[←q];exact hA))).trans h) (zW.snoc ot s2 (EL sG hG) hv)
    rintro ys τ G ⟨⟨v,rfl⟩,sG,hG,ot⟩
    rw[aaD 'c']at ot
    dsimp only[bU]
    have han:=OT.any (zW.ot ot)
    have DQ:=Kr.trans sG
    obtain⟨y1,y2⟩:=AG (os:=qs.map (aT R k))
    refine⟨_,O,B,ys,Od,O,aK.of hG,λz hz=>?_,?_⟩
    ·obtain⟨j,hj⟩:=abD.mp hz
     obtain⟨o,_,ho⟩:=aE (zW.ot ot) j z hj
     exact ho.cmp
    rw[han]
    refine⟨_,O,?_⟩
    cases hc:(qs.map (aT R k)).any Option.isNone with
    |true =>
     rw[y1 hc]at ua
     exact bW ⟨DQ,ua,_,_,_,_,rfl⟩
    |false =>
     obtain⟨bs,e1,e2⟩:=y2 hc
     rw[e1]at ua
     rw[e2]at ot
     refine kL ?_
     refine⟨_,O,_,O,(by show(3:Nat)<=sizeLine;decide),λt5 zo=>kk _ _ ?_ (aG (DQ.free zo) DQ)⟩
     have st:=aq (o:=HO.tup [.str ("ask":Str),.int i,.ref B]) zo
     rw[ua]
     obtain⟨xs,ex,pp,nd,fr⟩:=zW.trees ot
     have ot2:zW A0 G k ys (bs.map some):=ot
     have live:∀b∈(xs.map Prod.snd).flatten,G b≠none:=λb hb=>by
      obtain⟨as,has,hb⟩:=abe.mp hb
      obtain⟨y,hy,rfl⟩:=aaQ.mp has
      obtain⟨w,q⟩:=jK pp hy
      exact wz.live q b hb
     have tB:t5≠B:=λq=>by rw[q,hG]at zo;cases zo
     have n1:t5∉(xs.map Prod.snd).flatten:=λq=>live _ q zo
     have n2:B∉(xs.map Prod.snd).flatten:=λq=>BE (fr _ q)
     refine⟨t5::B::(xs.map Prod.snd).flatten,⟨t5,B,ys,xs,O,O,aj,st _ _ hG,ex,bg (λ_ _ q=>wz.keep (λb o _ h=>st b o h) q) pp⟩,?_,λb hb=>?_⟩
     ·rw[aa8,aa8]
      exact⟨λq=>by rcases aas.mp q with q|q;exact tB q;exact n1 q,n2,nd⟩
     ·rcases aas.mp hb with rfl|hb
      ·exact DQ.free zo
      rcases aas.mp hb with rfl|hb
      ·exact Kr.free hB
      ·exact Ww b (fr b hb)
   rintro σ J ⟨sJ,ua,v3,v4,v5,v6,rfl⟩
   rw[hrl,List.drop_length]at ua
   refine kk .non J ?_ sJ
   rw[ua]
   rfl
theorem vH:zzz T dW 10 25 ["all_readings","places","depth"] (fk K 8):=qg T 8
inductive vI(K:W.Frag)(C CM CN:Addr)(vs:List V)(H:Hp)(Q:VK)(E:XK):Prop where
 |mk (ld lt:Addr) (xs ws:List V) (cs:List fW):(vs=[.ref ld,.ref lt])->(H ld=some (.lst xs))->(tL C H xs cs)->((∀c∈cs,xY c))->(cs.length<=100)->(H lt=some (.lst ws))->((∀v∈ws,DB H v/\(∀z,v=.str z->z.length<=10000)))->((lE xs.length ws=0->∀d H',H d=none->H' d=some (J8 d [(Str.ofString "most",.int 8)])->aD H H'->E (.ref CM) (some d) H'))->((lE xs.length ws=1->∀d H',H d=none->H' d=some (J8 d [(Str.ofString "most",.int 6)])->aD H H'->E (.ref CM) (some d) H'))->((lE xs.length ws=2->∀H',aD H H'->E (.ref CN) none H'))->((lE xs.length ws=3->∀zs:List Str,ws=zs.map V.str->(∀z∈zs,dZ z/\z.length<=2000)->∀d T v H',d<8->aT (iF cs zs) d (List.range cs.length)=some T->(∀d'<d,aT (iF cs zs) d' (List.range cs.length)=none)->Cg H H' d v T->aD H H'->Q v H'))->vI K C CM CN vs H Q E
theorem Cu:zzz T (BD P w) 11 26 ["dialects","texts"] (vI K (aF 49) (aF 57) (aF 53)):=by
 have wY:=vF T
 have wZ:=vG T
 have jc:=vH T
 refine T.yd.Rw eH 'e' 'a'
 ·obtain⟨ld,lt,xs,ws,cs,rfl,_⟩:=h;rfl
 ·have hu:=aY hr
  obtain⟨ld,lt,xs,ws,cs,rfl,hd,mk,gd,hc,hw,hk,k0,k1,k2,k3⟩:=h
  have OP:=mk.length
  refine⟨_,(ah (bK (pA (k:=5) wY (hr.mono 'b') rfl T.wH T.ny.kp T.wG .nil J6 (af (pv 0) (af (pv 1) ai))))
   (ah (pB (i:=2) rfl eH.nd rfl rfl (show aR ["dialects","texts","all_readings","places","depth","tree"] (av mL) ["text","dialects"] 1 [0] _ from yM) (bq K rfl (pv 1)) (λ_ _ _ _=>(d8 0 (show(["text","dialects"]:List Str).Nodup by decide +kernel))) (λ_ _ _ _=>cB) (λ_ _ _ _=>(eU wZ hr T.wJ T.nA.kp T.wI (af (pv 1) (af (pv 0) ai)))))
   (ah (di 3 eH.nd (sy rfl rfl T.jW rfl T.dM (af (gA (aL K rfl) T.bF (af (pv 0) ai)) ai)))
   (ah (di 4 eH.nd ao)
   (ah (di 5 eH.nd cD)
   (ah (Fp PassesOwn.leaving (bX uN (pv 5) cD)
   (ah (di 5 eH.nd (eU jc hr T.nC T.ja.kp T.nB (af (pv 2) (af (pv 3) (af (pv 4) ai)))))
   (ak (di 4 eH.nd (aI cP (pv 4) ao)))))
   (ak (az (pv 5))))))))),?_⟩
  refine⟨_,O,_,O,ld,lt,xs,ws,O,hd,hw,hk,k0,k1,k2,λh3 H1 s1=>?_⟩
  have h3':xs.length<=8/\ws.length<=6/\ws.all E9=true:=by
   unfold lE at h3
   by_cases c1:8<xs.length
   ·rw[aal c1]at h3;cases h3
   ·rw[aah c1]at h3
    by_cases c2:6<ws.length
    ·rw[aal c2]at h3;cases h3
    ·rw[aah c2]at h3
     by_cases c3:ws.all E9=true
     ·exact⟨by omega,by omega,c3⟩
     ·rw[aah c3]at h3;cases h3
  obtain⟨n8,n6,hall⟩:=h3'
  obtain⟨zs,rfl,hz⟩:=AH hall
  replace k3:=k3 h3 zs rfl hz
  clear k0 k1 k2 hk h3 hall
  have Zi:(zs.map V.str).length=zs.length:=aaj _
  have M1:zs.length<=100:=by omega
  replace hd:=s1 _ _ hd
  replace mk:=tL.mono s1 mk
  have hlt:=s1 _ _ hw
  replace k3:∀d T v H',d<8->aT (iF cs zs) d (List.range cs.length)=some T->(∀d'<d,aT (iF cs zs) d' (List.range cs.length)=none)->Cg H1 H' d v T->aD H1 H'->Q v H':=λd T v H' a b c e f=>k3 d T v H' a b c (Cg.old (λb hb=>s1.free hb) e) (s1.trans f)
  refine⟨_,O,lt,O,⟨_,aK.of hlt⟩,λD hD=>?_⟩
  have BE:(upd H1 D (.lst [])) D≠none:=by rw[aj];intro q;cases q
  have EL:∀{J:Hp}{ys:List V},aD H1 J->J D=some (.lst ys)->∀b,J b=none->(upd H1 D (.lst [])) b=none:=λsJ hJ b hb=>(aB (λq=>by rw[q,hJ]at hb;cases hb)).trans (sJ.free hb)
  generalize Qn:upd H1 D (.lst [])=A0 at BE EL
  refine bB (K:=K) (a:=lt) (xs:=zs.map V.str) (λi ys τ J=>(∃v,τ=[v,some (.ref ld)])/\aD H1 J/\J D=some (.lst ys)/\aV A0 J ys ((iF cs zs).take i)) ⟨⟨_,rfl⟩,aq hD,aj,.nil⟩ (λi ys τ J _ p=>⟨aK.of (p.2.1 _ _ hlt),p.2.2.1⟩) ?_ ?_
  ·rintro i e ys τ J hi ⟨⟨v,rfl⟩,sJ,hJ,rs⟩
   obtain⟨z,S6,rfl⟩:=pI hi
   obtain⟨z1,z2⟩:=hz z (aar S6)
   have hil:i<zs.length:=(aam.mp S6).1
   have hyl:=rs.length
   rw[aaL]at hyl
   refine kM ?_
   refine⟨_,O,_,O,ld,z,xs,cs,O,sJ _ _ hd,tL.mono sJ mk,gd,hc,z1,z2,λl G hl Zj s1=>?_⟩
   have Ko:=s1 _ _ hJ
   refine⟨Ko,aav (show ys.length<=200 by omega) 'b',⟨_,O⟩,aG hD (sJ.trans s1),aj,?_⟩
   rw[aX (l:=iF cs zs) (c:=readM (lC cs z)) (by unfold iF;rw[aaT,S6];rfl)]
   exact bA (aV.set BE (aV.mono s1 rs)) (aV.set BE (.cons ⟨l,rfl,EL sJ hJ l hl,Zj⟩ .nil))
  rintro ys τ J ⟨⟨v,rfl⟩,sJ,hJ,rs⟩
  have vY:(zs.map V.str).length=zs.length:=aaj _
  have OX:(iF cs zs).length=zs.length:=aaj _
  rw[vY,aaD 'c']at rs
  have rg:=aV.Wo rs
  dsimp only[bU]
  have Zk:=sJ _ _ hd
  have hrb:∀r∈iF cs zs,∀p∈List.range cs.length,p<r.length:=λr hr p hp=>by rw[IY r hr];exact List.mem_range.mp hp
  refine⟨_,O,ld,xs,O,.inl (aK.of Zk),_,O,by omega,by omega,λl hl=>?_⟩
  rw[OP,AI]
  have sl:=aq (o:=HO.lst ((List.range cs.length).map nV)) hl
  have hl1:=aj (H:=J) (a:=l) (o:=HO.lst ((List.range cs.length).map nV))
  have Ko:=sl _ _ hJ
  have S7:=vh.mono sl rg
  have DP:=sJ.trans sl
  generalize upd J l (.lst ((List.range cs.length).map nV))=J1 at sl hl1 Ko S7 DP⊢
  have Wx:(List.range cs.length).length=cs.length:=List.length_range
  generalize List.range cs.length=ps at k3 hl1 hrb Wx⊢
  generalize iF cs zs=R at k3 S7 hrb OX⊢
  dsimp only[bU]
  refine⟨λm σ G=>aD J1 G/\∃(n:Nat)(v:V),σ=[some (.ref ld),some (.ref lt),some (.ref D),some (.ref l),some (.int (n:Int)),some v]/\((v=.non/\m+n=20/\∀d'<n,aT R d' ps=none)\/(m=0/\∃d T,d<8/\aT R d ps=some T/\(∀d'<d,aT R d' ps=none)/\Cg H1 G d v T)),⟨20,aD.refl _,0,.non,O,.inl ⟨O,O,λd' h=>absurd h (Nat.not_lt_zero _)⟩⟩,?_⟩
  rintro m σ G ⟨sG,n,v,rfl,⟨rfl,hmn,hno⟩|⟨rfl,d,T,Wy,hT,hno,tr⟩⟩
  ·have Zl:n<8:=by
    refine Classical.byContradiction λq=>?_
    refine ya (R:=R) (d:=7) (ps:=ps) 'c' (hno 7 'c')
   refine⟨_,O,O,_,O,Ao rfl ?_⟩
   refine⟨_,λ_ _ h=>h,?_⟩
   refine⟨_,O,_,O,_,O,D,l,ys,R,ps,n,O,by omega,sG _ _ Ko,vh.mono sG S7,by omega,sG _ _ hl1,by omega,hrb,λv H2 hv s2=>?_⟩
   dsimp only[bU]
   have zX:=sG.trans s2
   cases hT:aT R n ps with
   |none =>
    rw[hT]at hv
    have hv:v=.non:=hv
    subst hv
    refine⟨_,O,_,_,O,O,m-1,by omega,zX,n+1,.non,O,.inl ⟨O,by omega,λd' h=>?_⟩⟩
    by_cases e:d'=n
    ·rw[e];exact hT
    ·exact hno d' 'c'
   |some T =>
    rw[hT]at hv
    refine⟨_,O,_,_,O,O,0,by omega,zX,n+1,v,O,.inr ⟨O,n,T,Zl,hT,hno,?_⟩⟩
    exact Cg.old (λb hb=>DP.free (sG.free hb)) hv
  ·have hv:Od v=false:=OT.Wn (o:=some T) (Cg.MZ tr)
   refine⟨_,O,O,_,O,tH (λe=>by rw[e]at hv;cases hv) ?_⟩
   exact⟨_,O,k3 d T v G Wy hT hno tr (DP.trans sG)⟩
inductive iM(K:W.Frag)(D:Nat)(vs:List V)(H:Hp)(Q:VK)(E_:XK):Prop where
 |mk (A:Hp) (d:Nat) (v:V) (u:PT):(vs=[v])->(d<D)->(Ce A H d v u)->(neT d u)->(∀H',aD H H'->Q (.int (d7 d u:Nat)) H')->iM K D vs H Q E_
theorem vJ:∀d:Nat,aW P w K mg base dW (0+1*d) (aF 27) (aN 27) ["tree"] (iM K d):=by
 intro d
 induction d with
 |zero=>exact⟨λvs H Q E h=>by exfalso;obtain⟨A,d,v,u,rfl,hd,_⟩:=h;omega,λA outer s H args us vs Q E _ _ _ _ h=>by exfalso;obtain⟨A,d,v,u,rfl,hd,_⟩:=h;omega⟩
 |succ d ih =>
  have j3:=ih
  show aW P w K mg base dW (0+1*d+1) (aF 27) (aN 27) ["tree"] (iM K (d+1))
  refine T.jP.ok AL 'e' 'a'
  ·obtain⟨A,d,v,u,rfl,_⟩:=h;rfl
  ·have Jx:=hr
   have hr:cM 0 _:=hr.mono 'c'
   obtain⟨A,e,v,u,rfl,hd,tr,ne,k⟩:=h
   refine⟨_,(ah (aH (bX aP (jt K (pv 0) ao) au) (ak (az ao)) ay)
   (ak (az (aI cP ao (gA (qT K rfl rfl) T.zh (af (cT rfl (show aR ["tree"] (av jC) ["branch"] 1 [] _ from yM) (bq K rfl (jt K (pv 0) ao)) (λ_ _ _ _=>(d8 0 N9)) (λ_ _ _ _=>cB) (λ_ _ _ _=>(eU j3 Jx T.oW T.jP.kp T.oU (af (pv 0) ai) (hkk:=aao _)))) ai)))))),?_⟩
   cases u with
   |leaf ps =>
    have tr:∃t l,v=.ref t/\A t=none/\A l=none/\H t=some (.tup [.str ("leaf":Str),.ref l])/\H l=some (.lst (ps.map nV)):=by cases e<;>exact tr
    obtain⟨t,l,rfl,_,_,ht,hl⟩:=tr
    have k:∀H',aD H H'->Q (.int ((0:Nat):Int)) H':=by cases e<;>exact k
    refine⟨_,O,_,_,_,_,O,O,bH.of ht,O,O,_,O,Ao rfl (k _ (aD.refl _))⟩
   |ask i bs =>
   cases e with
   |zero=>exact tr.elim
   |succ e =>
   obtain⟨t,l,es,rfl,_,_,ht,hl,pr⟩:=tr
   obtain⟨n1,n2,n3⟩:=ne
   have OY:=pr.length
   have n4:¬(V.str ("ask":Str)=V.str ("leaf":Str)):=by decide +kernel
   refine⟨_,O,_,_,_,_,O,O,bH.of ht,O,O,_,O,tH n4 (⟨_,O,_,_,_,_,O,O,bH.of ht,O,_,O,⟨_,aK.of hl⟩,λD hD=>?_⟩)⟩
   refine bB (K:=K) (a:=l) (xs:=es) (λj ys τ G=>(∃v,τ=[v])/\aD H G/\G D=some (.lst ys)/\ys=((bs.take j).map (d7 e)).map λn:Nat=>V.int n) ⟨⟨_,rfl⟩,aq hD,aj,rfl⟩ (λj ys τ G _ q=>⟨aK.of (q.2.1 _ _ hl),q.2.2.1⟩) ?_ ?_
   ·rintro j e1 ys τ G hj ⟨⟨v,rfl⟩,sG,hG,rfl⟩
    obtain⟨b,hb,tb⟩:=aE pr j e1 hj
    refine kM ?_
    refine⟨_,O,A,e,e1,b,O,by omega,Ce.mono sG tb,n3 b (aar hb),λG2 s2=>?_⟩
    refine⟨s2 _ _ hG,?_,⟨_,O⟩,aG hD (sG.trans s2),aj,?_⟩
    ·rw[aaj,aaj,aaL];exact aav (show min j bs.length<=100 by omega) 'b'
    ·rw[aX hb,aaI,aaI];rfl
   rintro ys τ G ⟨⟨v,rfl⟩,sG,hG,rfl⟩
   rw[OY,aaD (aao _)]at hG
   refine⟨D,bs.map (d7 e),O,aK.of hG,by simpa using n1,λn hn hm=>?_⟩
   have en:=yV hn hm
   subst en
   have k:∀H',aD H H'->Q (.int ((1+eV (bs.map (d7 e)):Nat):Int)) H':=k
   rw[Int.natCast_add]at k
   exact⟨_,_,O,O,k G sG⟩
theorem Bd:zzz T dW 9 27 ["tree"] (iM K 9):=vJ T 9
inductive kG(K:W.Frag)(vs:List V)(H:Hp)(Q:VK)(E_:XK):Prop where
 |mk (a:Addr) (ns:List Int) (i:Int):(vs=[.ref a,.int i])->(aK K H a (ns.map V.int))->(0<=i)->(∀r:Int,Q (.int r) H)->kG K vs H Q E_
theorem kH:zzz T dW 1 28 ["_law_script","_law_k"] (kG K):=by
 refine T.dH.ok tO 'e' 'a'
 ·obtain⟨a,ns,i,rfl,_⟩:=h;rfl
 ·have hu:=aY hr
  obtain⟨a,ns,i,rfl,hS,hi,k⟩:=h
  refine⟨_,(ah (aH (bX m9 (pv 1) (gA (aL K rfl) T.bF (af (pv 0) ai))) (ak (az (fN K (pv 0) (pv 1)))) ay)
   (ak (az ao))),?_⟩
  refine⟨_,O,_,O,a,_,O,.inl hS,_,_,O,O,_,O,?_⟩
  refine aS (λhc=>?_) (λ_=>?_)
  ·have hlt:=aa0 hc
   obtain⟨v,ev,hv⟩:=B9 hi hlt
   obtain⟨r,_,rfl⟩:=aaQ.mp hv
   exact⟨_,O,_,O,a,_,_,_,O,O,hS,ev,k r⟩
  ·exact k 0
inductive jd(vs:List V)(H:Hp)(Q:VK)(E_:XK):Prop where
 |mk (a b:Int):(vs=[.int a,.int b])->(0<=a)->(a<4294967296)->(0<=b)->(b<65536)->(∀r:Int,0<=r->r<49979687->Q (.int r) H)->jd vs H Q E_
theorem nN:zzz T dW 1 29 ["_law_number_here","_law_salt"] jd:=by
 refine T.fj.ok i7 'e' 'a'
 ·obtain⟨a,b,rfl,_⟩:=h;rfl
 ·have hu:=aY hr
  obtain⟨a,b,rfl,ha,ha',hb,hb',k⟩:=h
  refine⟨_,(ah (di 2 i7.nd (aI bI (aI cP (aI gK (pv 0) (aI cP ao (aI gK ao (pv 1)))) (aI gK ao (pv 1))) ao))
   (ah (di 3 i7.nd (aI bI (aI cP (aI gK (pv 2) (pv 2)) (pv 1)) ao))
   (ak (az (aI bI (aI cP (aI gK (pv 3) (pv 3)) (pv 2)) ao))))),?_⟩
  refine⟨_,O,_,O,_,_,O,O,.inl ⟨by decide,by decide⟩,_,_,O,O,_,_,O,O,.inl ⟨by omega,by omega⟩,_,O,_,_,O,O,.inl ⟨by decide,by decide⟩,_,_,O,O,_,_,O,O,(by show(0:Int)<15485863;decide),?_⟩
  have h1:=aaY (a*(1299709+210*b)+7919*b) (show(15485863:Int)≠0 by decide)
  have h2:=aaV (a*(1299709+210*b)+7919*b) (show(0:Int)<15485863 by decide)
  refine⟨_,O,_,O,_,_,O,O,.inl ⟨by omega,by omega⟩,_,O,_,_,O,O,_,_,O,O,(by show(0:Int)<32452843;decide),?_⟩
  refine⟨_,O,_,O,_,_,O,O,.inl ⟨?_,?_⟩,_,O,_,_,O,O,_,_,O,O,(by show(0:Int)<49979687;decide),?_⟩
  ·exact Int.lt_of_lt_of_le 'b' (aaY _ 'b')
  ·exact Int.lt_trans (aaV _ 'b') 'b'
  ·exact k _ (aaY _ 'b') (aaV _ 'b')
inductive mh(vs:List V)(H:Hp)(Q:VK)(E_:XK):Prop where
 |mk (c s:Int):(vs=[.int c,.int s])->(0<=s)->(s<60000)->(∀r:Int,Q (.int r) H)->mh vs H Q E_
theorem vK:zzz T dW 2 30 ["_law_cell","_law_salt"] mh:=by
 have fm:=nN T
 refine T.nD.ok gZ 'e' 'a'
 ·obtain⟨c,s,rfl,_⟩:=h;rfl
 ·have hu:=aY hr
  obtain⟨c,sa,rfl,hs,hs',k⟩:=h
  refine⟨_,(ah (aH (PW.pt (cL (bX aP (aI bI (pv 0) ao) ao) (cy (bX JV (pv 0) (aI gK ao (aI yo ao ao)))))) (ak (az (aI uM (aI cJ (pv 0) ao) (aI yo ao ao)))) ay)
   (ah (di 2 gZ.nd (aI bI (pv 0) ao))
   (ah (di 3 gZ.nd (aI cP (aI gK (eU fm hr T.gF T.fj.kp T.gE (af (pv 2) (af (pv 1) ai))) ao) (eU fm hr T.gF T.fj.kp T.gE (af (pv 2) (af (aI cP (pv 1) ao) ai)))))
   (ak (az (aI cP (aI gK (pv 3) ao) (eU fm hr T.gF T.fj.kp T.gE (af (pv 2) (af (aI cP (pv 1) ao) ai))))))))),?_⟩
  have Wz:Nx 10 18:=⟨by decide,by decide,by decide⟩
  have n0:0<=c % 1000000007:=aaY _ 'b'
  have n1:c % 1000000007<4294967296:=Int.lt_trans (aaV _ 'b') 'b'
  refine⟨_,O,_,_,O,O,(by show(0:Int)<2;decide),O,_,O,?_⟩
  refine aS (λ_=>?_) (λ_=>?_)
  ·refine⟨_,O,_,_,O,O,Wz,_,_,O,O,.inl ⟨by decide,by decide⟩,_,_,O,O,_,O,?_⟩
   refine aS (λ_=>?_) (λ_=>?_)
   ·exact⟨_,O,_,_,O,O,⟨by decide,by decide⟩,_,_,O,O,Wz,_,_,O,O,k _⟩
   ·refine⟨_,O,_,_,O,O,(by show(0:Int)<1000000007;decide),?_⟩
    refine⟨_,O,_,O,_,_,O,n0,n1,by omega,by omega,λr1 _ _=>?_⟩
    refine⟨_,_,O,O,.inr ⟨by decide,by decide⟩,_,O,_,O,_,_,O,O,_,_,O,n0,n1,by omega,by omega,λr2 _ _=>⟨_,_,O,O,?_⟩⟩
    refine⟨_,O,_,_,O,O,.inr ⟨by decide,by decide⟩,_,O,_,O,_,_,O,O,_,_,O,n0,n1,by omega,by omega,λr3 _ _=>⟨_,_,O,O,k _⟩⟩
  ·refine⟨_,O,_,_,O,O,(by show(0:Int)<1000000007;decide),?_⟩
   refine⟨_,O,_,O,_,_,O,n0,n1,by omega,by omega,λr1 _ _=>?_⟩
   refine⟨_,_,O,O,.inr ⟨by decide,by decide⟩,_,O,_,O,_,_,O,O,_,_,O,n0,n1,by omega,by omega,λr2 _ _=>⟨_,_,O,O,?_⟩⟩
   refine⟨_,O,_,_,O,O,.inr ⟨by decide,by decide⟩,_,O,_,O,_,_,O,O,_,_,O,n0,n1,by omega,by omega,λr3 _ _=>⟨_,_,O,O,k _⟩⟩
inductive qh(vs:List V)(H:Hp)(Q:VK)(E_:XK):Prop where
 |mk (n m:Int) (me:Str):(vs=[.int n,.int m,.str me])->(Mn me)->(0<=m)->(m<=3)->(∀(t:Addr)(z:Str)(r:Int),Sg z->(z.length:Int)<=m->(1<=m->1<=z.length)->H t=none->Q (.ref t) (upd H t (.tup [.str z,.int r])))->qh vs H Q E_
theorem zq:zzz T dW 1 31 ["_law_number_here","_law_many","_law_menu_here"] qh:=by
 refine T.iJ.ok dS 'e' 'a'
 ·obtain⟨n,m,me,rfl,_⟩:=h;rfl
 ·have hu:=aY hr
  obtain⟨n,m,me,rfl,⟨hm1,hm2,Zm⟩,h0,h3,k⟩:=h
  have hml:me.length<=sizeLine:=aaz hm2 'b'
  refine⟨_,(ah (di 3 dS.nd au)
   (ah (dm aaX rfl (dO rfl T.dM (af (pv 1) ai)) (d8 4 dS.nd)
   (ah (di 5 dS.nd (xO yr (pv 2) (aI bI (pv 0) (gA cQ T.bF (af (pv 2) ai))) (λ_ _=>rfl)))
   (ah (di 0 dS.nd (aI cJ (pv 0) (gA cQ T.bF (af (pv 2) ai))))
   (ak (aH (cz yx (pv 5) (pv 3) rfl) (ak (di 3 dS.nd (aI dz (pv 3) (pv 5)))) ay)))))
   (ak (az (aC (af (pv 3) (af (pv 0) ai))))))),?_⟩
  refine⟨_,O,m,O,by omega,by omega,?_⟩
  refine fE (λi σ H2=>H2=H/\∃(r:Int)(z:Str)(v1 v2:Option V),σ=[some (.int r),some (.int m),some (.str me),some (.str z),v1,v2]/\Sg z/\z.length<=i/\(1<=i->1<=z.length)) ⟨rfl,n,_,_,_,rfl,LF,by decide,λz=>absurd z 'b'⟩ ?_ ?_
  ·rintro i σ H2 hi ⟨rfl,r,z,v1,v2,rfl,g,hz,hz1⟩
   have hlen:me.cps.toList.length=me.length:=by rw[aaE];rfl
   obtain⟨c,ec,hc⟩:=B9 (xs:=me.cps.toList) (aaY r (show(me.length:Int)≠0 by omega)) (by rw[hlen];exact aaV r 'c')
   refine⟨_,O,_,O,_,O,me,O,hml,_,_,O,O,(by show(0:Int)<me.length;omega),me,_,c,O,O,hml,ec,?_⟩
   refine⟨_,O,_,O,me,O,hml,_,_,O,O,⟨by show(0:Int)<me.length;omega,by show(me.length:Int)<1073741824;omega⟩,?_⟩
   refine⟨_,O,_,O,_,_,O,O,_,O,?_⟩
   refine aS (λha=>?_) (λha=>?_)
   ·have e1:(z++(⟨#[c]⟩:Str)).length=z.length+1:=jI _ _
    refine⟨_,O,_,O,_,_,O,O,?_,O,_,_,_,_,O,LD g (Zm c hc) ha,by rw[e1];omega,λ_=>by rw[e1];omega⟩
    exact aaz (show z.length+1<=5 by omega) 'b'
   ·refine⟨O,_,_,_,_,O,g,by omega,λ_=>?_⟩
    have hin:c∈z.cps.toList:=Classical.byContradiction λq=>ha ((Ax z c).mpr q)
    have:=List.length_pos_of_mem hin
    rw[aaE]at this
    exact this
  ·rintro σ H2 ⟨rfl,r,z,v1,v2,rfl,g,hz,hz1⟩
   exact⟨_,O,_,O,(by show 2<=sizeLine;decide),λt ht=>k t z r g 'c' (λq=>hz1 'c') ht⟩
inductive nO(vs:List V)(H:Hp)(Q:VK)(E_:XK):Prop where
 |mk (n:Int):(vs=[.int n])->(∀(l:Addr)(m1 m2 m3:Str),Mn m1->Mn m2->Mn m3->H l=none->Q (.ref l) (upd H l (.lst [.str m1,.str m2,.str m3])))->nO vs H Q E_
theorem w5:zzz T dW 1 32 ["_law_way"] nO:=by
 refine T.pT.ok ni 'e' 'a'
 ·obtain⟨n,rfl,_⟩:=h;rfl
 ·have hu:=aY hr
  obtain⟨n,rfl,k⟩:=h
  refine⟨_,(ah (di 1 ni.nd au)
   (ah (aH (bX aP (pv 0) ao) (ak (az (bJ (af au (af au (af au ai)))))) ay)
   (ah (aH (bX aP (pv 0) ao) (ak (az (bJ (af au (af au (af au ai)))))) ay)
   (ak (az (bJ (af (pv 1) (af (pv 1) (af (pv 1) ai))))))))),?_⟩
  refine⟨_,O,O,_,O,?_⟩
  refine aS (λ_=>?_) (λ_=>?_)
  ·exact⟨by decide,λl hl=>k l _ _ _ 'g' 'g' 'g' hl⟩
  ·refine⟨_,O,O,_,O,?_⟩
   refine aS (λ_=>?_) (λ_=>?_)
   ·exact⟨by decide,λl hl=>k l _ _ _ 'g' 'g' 'g' hl⟩
   ·exact⟨_,O,_,O,_,O,by decide,λl hl=>k l _ _ _ 'g' 'g' 'g' hl⟩
inductive qi(vs:List V)(H:Hp)(Q:VK)(E_:XK):Prop where
 |mk (c:Int):(vs=[.int c])->(∀(t:Addr)(p q f:Str)(b1 b2 b3 b4:Bool)(H':Hp),Gd p q f->H t=none->H' t=some (.tup (ng p q f b1 b2 b3 b4))->aD H H'->Q (.ref t) H')->qi vs H Q E_
theorem zu:zzz T dW 3 33 ["_law_cell"] qi:=by
 have zv:=w5 T
 have w6:=vK T
 have mj:=zq T
 refine T.sC.ok bz 'e' 'a'
 ·obtain⟨c,rfl,_⟩:=h;rfl
 ·have hu:=aY hr
  obtain⟨c,rfl,k⟩:=h
  refine⟨_,(ah (di 1 bz.nd (eU w6 hr T.wL T.nD.kp T.wK (af (pv 0) (af ao ai))))
   (ah (di 2 bz.nd (aI bI (pv 1) ao))
   (ah (di 3 bz.nd (bJ (af (aI cP ao (aI bI (aI cJ (pv 1) ao) ao)) (af (aI bI (aI cJ (pv 1) ao) ao) (af (aI bI (aI cJ (pv 1) ao) ao) ai)))))
   (ah (di 4 bz.nd (eU zv hr T.zb T.pT.kp T.za (af (aI bI (aI cJ (pv 1) ao) ao) ai)))
   (ah (dU (eU mj hr T.lQ T.iJ.kp T.lP (af (aI cJ (pv 1) ao) (af (fN K (pv 3) ao) (af (fN K (pv 4) ao) ai)))) (fM K rfl 2 rfl (aQ (d8 5 bz.nd) (aQ (d8 1 bz.nd) fK))))
   (ah (dU (eU mj hr T.lQ T.iJ.kp T.lP (af (pv 1) (af (fN K (pv 3) ao) (af (fN K (pv 4) ao) ai)))) (fM K rfl 2 rfl (aQ (d8 6 bz.nd) (aQ (d8 1 bz.nd) fK))))
   (ah (dU (eU mj hr T.lQ T.iJ.kp T.lP (af (pv 1) (af (fN K (pv 3) ao) (af (fN K (pv 4) ao) ai)))) (fM K rfl 2 rfl (aQ (d8 7 bz.nd) (aQ (d8 1 bz.nd) fK))))
   (ah (di 8 bz.nd (bJ (af (Es aP (aI bI (pv 2) ao) ao) (af (Es aP (aI bI (aI cJ (pv 2) ao) ao) ao) (af (Es aP (aI bI (aI cJ (pv 2) ao) ao) ao) (af (Es aP (aI bI (aI cJ (pv 2) ao) ao) ao) ai))))))
   (ak (az (aC (af (pv 5) (af (pv 6) (af (pv 7) (af (fN K (pv 8) ao) (af (fN K (pv 8) ao) (af (fN K (pv 8) ao) (af (fN K (pv 8) ao) ai)))))))))))))))))),?_⟩
  refine⟨_,O,_,_,O,by decide,by decide,λn=>?_⟩
  refine⟨_,O,_,_,O,O,(by show(0:Int)<16;decide),?_⟩
  refine⟨_,O,_,_,O,O,⟨by decide,by decide⟩,_,_,O,O,(by show(0:Int)<3;decide),_,_,O,O,_,O,_,_,O,O,⟨by decide,by decide⟩,_,_,O,O,(by show(0:Int)<3;decide),_,O,_,_,O,O,⟨by decide,by decide⟩,_,_,O,O,(by show(0:Int)<3;decide),(by show 3<=sizeLine;decide),λl hl=>?_⟩
  have m1:=aaY (n / 16) (show(3:Int)≠0 by decide)
  have m1':=aaV (n / 16) (show(0:Int)<3 by decide)
  have m2:=aaY (n / 48) (show(3:Int)≠0 by decide)
  have m2':=aaV (n / 48) (show(0:Int)<3 by decide)
  have m3:=aaY (n / 144) (show(3:Int)≠0 by decide)
  have m3':=aaV (n / 144) (show(0:Int)<3 by decide)
  have h1:(upd H l (.lst [.int (1+n / 16 % 3),.int (n / 48 % 3),.int (n / 144 % 3)])) l=some (.lst [.int (1+n / 16 % 3),.int (n / 48 % 3),.int (n / 144 % 3)]):=aj
  have s1:aD H (upd H l (.lst [.int (1+n / 16 % 3),.int (n / 48 % 3),.int (n / 144 % 3)])):=aq hl
  generalize upd H l (.lst [.int (1+n / 16 % 3),.int (n / 48 % 3),.int (n / 144 % 3)])=H1 at h1 s1⊢
  refine⟨_,O,_,_,O,O,⟨by decide,by decide⟩,_,_,O,O,(by show(0:Int)<3;decide),_,O,λl2 e1 e2 e3 g1 g2 g3 hl2=>?_⟩
  have h2:(upd H1 l2 (.lst [.str e1,.str e2,.str e3])) l2=some (.lst [.str e1,.str e2,.str e3]):=aj
  have s2:aD H1 (upd H1 l2 (.lst [.str e1,.str e2,.str e3])):=aq hl2
  generalize upd H1 l2 (.lst [.str e1,.str e2,.str e3])=H2 at h2 s2⊢
  have h12:=s2 _ _ h1
  refine⟨_,O,_,_,O,O,⟨by decide,by decide⟩,_,O,l,_,_,_,O,O,aK.of h12,O,_,O,l2,_,_,_,O,O,aK.of h2,O,_,_,_,O,g1,by omega,by omega,λt1 p r1 gp lp Zn ht1=>?_⟩
  refine⟨t1,_,O,bH.of aj,O,_,_,O,_,_,O,O,?_⟩
  have s3:aD H2 (upd H2 t1 (.tup [.str p,.int r1])):=aq ht1
  generalize upd H2 t1 (.tup [.str p,.int r1])=H3 at s3⊢
  refine⟨_,O,_,O,l,_,_,_,O,O,aK.of (s3 _ _ h12),O,_,O,l2,_,_,_,O,O,aK.of (s3 _ _ h2),O,_,_,_,O,g2,by omega,by omega,λt2 q r2 gq lq lq1 Jz=>?_⟩
  refine⟨t2,_,O,bH.of aj,O,_,_,O,_,_,O,O,?_⟩
  have s4:aD H3 (upd H3 t2 (.tup [.str q,.int r2])):=aq Jz
  generalize upd H3 t2 (.tup [.str q,.int r2])=H4 at s4⊢
  refine⟨_,O,_,O,l,_,_,_,O,O,aK.of (s4 _ _ (s3 _ _ h12)),O,_,O,l2,_,_,_,O,O,aK.of (s4 _ _ (s3 _ _ h2)),O,_,_,_,O,g3,by omega,by omega,λt3 f r3 gf lf Wh M3=>?_⟩
  refine⟨t3,_,O,bH.of aj,O,_,_,O,_,_,O,O,?_⟩
  have s5:aD H4 (upd H4 t3 (.tup [.str f,.int r3])):=aq M3
  generalize upd H4 t3 (.tup [.str f,.int r3])=H5 at s5⊢
  refine⟨_,O,_,_,O,O,(by show(0:Int)<2;decide),O,_,O,_,_,O,O,⟨by decide,by decide⟩,_,_,O,O,(by show(0:Int)<2;decide),O,_,O,_,_,O,O,⟨by decide,by decide⟩,_,_,O,O,(by show(0:Int)<2;decide),O,_,O,_,_,O,O,⟨by decide,by decide⟩,_,_,O,O,(by show(0:Int)<2;decide),O,(by show 4<=sizeLine;decide),λl6 Zo=>?_⟩
  have s6:=aq (o:=HO.lst [.bl (decide (V.int (n % 16 % 2)=V.int 1)),.bl (decide (V.int (n % 16 / 2 % 2)=V.int 1)),.bl (decide (V.int (n % 16 / 4 % 2)=V.int 1)),.bl (decide (V.int (n % 16 / 8 % 2)=V.int 1))]) Zo
  refine⟨_,O,_,O,_,O,_,O,l6,_,_,_,O,O,aK.of aj,O,_,O,l6,_,_,_,O,O,aK.of aj,O,_,O,l6,_,_,_,O,O,aK.of aj,O,_,O,l6,_,_,_,O,O,aK.of aj,O,(by show 7<=sizeLine;decide),λt ht=>?_⟩
  have OZ:=((((s1.trans s2).trans s3).trans s4).trans s5).trans s6
  exact k t p q f _ _ _ _ _ ⟨gp,gq,gf,Zn 'c',by omega,by omega,by omega⟩ (OZ.free ht) aj (OZ.trans (aq ht))
inductive nP(vs:List V)(H:Hp)(Q:VK)(E_:XK):Prop where
 |mk (c m:Int):(vs=[.int c,.int m])->(0<=m)->(m<=1000)->(∀(l:Addr)(ns:List Int)(H':Hp),ns.length=m.toNat->(∀n∈ns,0<=n)->H l=none->H' l=some (.lst (ns.map V.int))->aD H H'->Q (.ref l) H')->nP vs H Q E_
theorem nQ:zzz T dW 2 34 ["_law_cell","_law_many"] nP:=by
 have fm:=nN T
 refine T.jQ.ok c7 'e' 'a'
 ·obtain⟨c,m,rfl,_⟩:=h;rfl
 ·have hu:=aY hr
  obtain⟨c,m,rfl,hm,hm',k⟩:=h
  refine⟨_,(ah (aH (PW.pt (fU (bX aP (aI bI (pv 0) ao) ao) (gJ (bX m9 (pv 0) (aI gK ao (aI yo ao ao)))))) (ah (di 2 c7.nd (aI bI (pv 0) ao))
   (ak (az (cT rfl (show aR ["_law_cell","_law_many","_law_number_here","_law_found","_law_k"] (av gB) ["_law_k","_law_number_here"] 1 [2] _ from yM) (dO rfl T.dM (af (pv 1) ai)) (λ_ _ _ _=>(d8 0 (show(["_law_k","_law_number_here"]:List Str).Nodup by decide +kernel))) (λ_ _ _ _=>cB) (λ_ _ _ _=>(eU fm hr T.gF T.fj.kp T.gE (af (pv 1) (af (aI cP ao (aI gK ao (pv 0))) ai)))))))) ay)
   (ah (di 3 c7.nd (bJ ai))
   (ah (di 2 c7.nd (aI uM (aI cJ (pv 0) ao) (aI yo ao ao)))
   (ah (dm aaX rfl (dO rfl T.dM (af (pv 1) ai)) (d8 4 c7.nd)
   (ah (bK (cI K rfl aaK aaM aaN bu (pv 3) (af (aI bI (pv 2) ao) ai)))
   (ak (di 2 c7.nd (aI cJ (pv 2) ao)))))
   (ak (az (pv 3))))))),?_⟩
  refine⟨_,O,_,_,O,O,(by show(0:Int)<2;decide),O,_,O,?_⟩
  have O0:∀{D:Addr}{v:Option V},H D=none->uP (JT 0 m.toNat) (bU 0) Lb (FF jd [] E0 (FD (HU 1) (FD (HK (HZ λi j=>.int (i+j)) (tC (.int 71)) (HK (rI Ib λi j=>.int (i*j)) (tC (.int 2)) (HU 0))) KR))) Q D [none,some (.int (c % 1000000007))] H:=by
   intro D v hD
   refine uT (λi ys τ H2=>(∃v,τ=[v,some (.int (c % 1000000007))])/\aD H H2/\H2 D=some (.lst ys)/\∃ns:List Int,ys=ns.map V.int/\ns.length=i/\∀n∈ns,0<=n) ⟨⟨_,rfl⟩,aq hD,aj,[],rfl,rfl,λ_ z=>nomatch z⟩ (λi ys τ H2 _ p=>p.2.2.1) ?_ ?_
   ·rintro i ys τ H2 hi ⟨⟨v,rfl⟩,s2,hl,ns,rfl,hn,hp⟩
    refine kM ?_
    refine⟨_,O,_,O,_,_,O,O,.inl ⟨by decide,by decide⟩,_,_,O,O,_,_,O,aaY _ 'b',Int.lt_trans (aaV _ 'b') 'b',by omega,by omega,λr hr0 _=>?_⟩
    refine⟨hl,?_,⟨_,O⟩,aG hD s2,aj,ns++[r],by rw[aaI];rfl,by rw[aaJ,hn];rfl,λn hn'=>?_⟩
    ·rw[aaj,hn]
     exact aaF (show i<1000 by omega) 'b'
    ·rcases aaH.mp hn' with z|z
     ·exact hp n z
     ·rw[aan.mp z];exact hr0
   ·rintro ys τ H2 ⟨⟨v,rfl⟩,s2,hl,ns,rfl,hn,hp⟩
    exact k D ns H2 hn hp hD hl s2
  refine aS (λ_=>?_) (λ_=>?_)
  ·refine kL ?_
   refine⟨_,O,_,_,O,O,(by show(0:Int)<1000000007;decide),?_⟩
   exact⟨_,rfl,m,rfl,by omega,by omega,λD hD=>O0 (v:=none) hD⟩
  ·refine⟨_,O,_,_,O,O,⟨by decide,by decide,by decide⟩,_,_,O,O,.inl ⟨by decide,by decide⟩,_,_,O,O,_,O,?_⟩
   refine aS (λ_=>?_) (λ_=>?_)
   ·refine⟨_,O,_,_,O,O,(by show(0:Int)<1000000007;decide),?_⟩
    exact⟨_,rfl,m,rfl,by omega,by omega,λD hD=>O0 (v:=none) hD⟩
   ·refine⟨by decide,λl hl=>?_⟩
    refine⟨_,O,_,_,O,O,⟨by decide,by decide⟩,_,_,O,O,⟨by decide,by decide,by decide⟩,_,_,O,O,?_⟩
    refine⟨_,O,m,O,by omega,by omega,?_⟩
    refine fE (λi σ H2=>aD H H2/\∃(x:Int)(v:Option V)(ns:List Int),σ=[some (.int c),some (.int m),some (.int x),some (.ref l),v]/\H2 l=some (.lst (ns.map V.int))/\ns.length=i/\∀n∈ns,0<=n) ⟨aq hl,_,_,[],rfl,aj,rfl,λ_ z=>nomatch z⟩ ?_ ?_
    ·rintro i σ H2 hi ⟨s2,x,v,ns,rfl,hq,hn,hp⟩
     refine⟨_,O,.inl ⟨O,_,aK.of hq⟩,_,O,_,_,O,O,(by show(0:Int)<4096;decide),l,_,_,O,O,hq,?_,?_⟩
     ·rw[aaj,hn]
      exact aaF (show i<1000 by omega) 'b'
     ·refine⟨_,O,_,_,O,O,⟨by decide,by decide⟩,?_⟩
      refine⟨aG hl s2,_,_,ns++[x % 4096],O,?_,by rw[aaJ,hn];rfl,λn hn'=>?_⟩
      ·rw[aj,aaI];rfl
      ·rcases aaH.mp hn' with z|z
       ·exact hp n z
       ·rw[aan.mp z];exact aaY _ 'b'
    ·rintro σ H2 ⟨s2,x,v,ns,rfl,hq,hn,hp⟩
     exact⟨_,O,k l ns H2 hn hp hl hq s2⟩
inductive qj(K:W.Frag)(vs:List V)(H:Hp)(Q:VK)(E_:XK):Prop where
 |mk (t s:Addr) (w u:Str) (c:Nat) (p q f:Str) (b1 b2 b3 b4:Bool):(vs=[.ref t,.ref s,.str (sg c)])->(bH K H t (ng p q f b1 b2 b3 b4))->(bH K H s [.str w,.str u])->(∀v H',aD H H'->tK K H' v (eZ p q f b3 b4 w u c)->Q v H')->qj K vs H Q E_
theorem zw:zzz T dW 1 35 ["_law_told_here","_law_state","_law_sign"] (qj K):=by
 refine T.sE.ok cH 'e' 'a'
 ·obtain⟨t,s,w,u,c,p,q,f,b1,b2,b3,b4,rfl,_⟩:=h;rfl
 ·have hu:=aY hr
  obtain⟨t,s,w,u,c,p,q,f,b1,b2,b3,b4,rfl,ht,hs,k⟩:=h
  refine'⟨_,?aa,?bb⟩
  case aa =>
   refine' ah ?s0 ?r0
   case s0 =>
    exact(dU (pv 0) (fM K rfl 7 rfl (aQ (d8 3 cH.nd) (aQ (d8 4 cH.nd) (aQ (d8 5 cH.nd) (aQ (d8 6 cH.nd) (aQ (d8 7 cH.nd) (aQ (d8 8 cH.nd) (aQ (d8 9 cH.nd) fK)))))))))
   case r0 =>
    refine' ah ?s1 ?r1
    case s1 =>
     refine' aH ?c2 ?b2 ?e2
     case c2=>exact(cz bQ (pv 2) (pv 5) rfl)
     case b2 =>
      refine' ak ?s3
      case s3 =>
       refine' az ?v4
       case v4 =>
        refine' aC ?a5
        case a5 =>
         refine' af ?x6 ?y6 ?z6
         case z6=>exact rfl
         case x6 =>
          exact au
         case y6 =>
          refine' af ?x7 ?y7 ?z7
          case z7=>exact rfl
          case x7 =>
           refine' aC ?a8
           case a8 =>
            refine' af ?x9 ?y9 ?z9
            case z9=>exact rfl
            case x9 =>
             exact au
            case y9 =>
             refine' af ?Me ?Mf ?Mg
             case Mg=>exact rfl
             case Me =>
              exact au
             case Mf =>
              exact ai
          case y7 =>
           exact ai
     case e2 =>
      exact ay
    case r1 =>
     refine' ah ?O1 ?S8
     case O1 =>
      refine' aH ?c12 ?S9 ?Zp
      case c12=>exact(bX aP (pv 2) au)
      case S9 =>
       refine' ak ?HA
       case HA =>
        refine' az ?Zq
        case Zq =>
         refine' aC ?Tc
         case Tc =>
          refine' af ?Jg ?Jh ?Ji
          case Ji=>exact rfl
          case Jg =>
           exact au
          case Jh =>
           refine' af ?Zr ?Zs ?Zt
           case Zt=>exact rfl
           case Zr =>
            refine' aC ?Mr
            case Mr =>
             refine' af ?O2 ?O3 ?O4
             case O4=>exact rfl
             case O2 =>
              exact au
             case O3 =>
              refine' af ?O5 ?O6 ?O7
              case O7=>exact rfl
              case O5 =>
               exact au
              case O6 =>
               exact ai
           case Zs =>
            exact ai
      case Zp =>
       exact ay
     case S8 =>
      refine' ah ?Td ?Zu
      case Td =>
       refine' aH ?Zv ?Te ?Zw
       case Zv=>exact(PW.pt (cL (bX ki (jt K (pv 1) ao) au) (cy (cz bQ (pv 2) (pv 4) rfl))))
       case Te =>
        refine' ak ?O8
        case O8 =>
         refine' az ?Zx
         case Zx =>
          refine' aC ?Tf
          case Tf =>
           refine' af ?Js ?Jt ?Ju
           case Ju=>exact rfl
           case Js =>
            exact au
           case Jt =>
            refine' af ?OA ?OB ?OC
            case OC=>exact rfl
            case OA =>
             refine' aC ?O9
             case O9 =>
              refine' af ?Tg ?Ti ?Tj
              case Tj=>exact rfl
              case Tg =>
               exact au
              case Ti =>
               refine' af ?Ma ?Mb ?Mc
               case Mc=>exact rfl
               case Ma =>
                exact(pv 2)
               case Mb =>
                exact ai
            case OB =>
             exact ai
       case Zw =>
        exact ay
      case Zu =>
       refine' ah ?To ?Tp
       case To =>
        refine' aH ?Tq ?Pa ?Tr
        case Tq=>exact(cz bQ (pv 2) (pv 3) rfl)
        case Pa =>
         refine' ak ?Tt
         case Tt =>
          refine' az ?Tu
          case Tu =>
           refine' aC ?Pb
           case Pb =>
            refine' af ?Ot ?Ou ?Ov
            case Ov=>exact rfl
            case Ot =>
             exact au
            case Ou =>
             refine' af ?Ow ?Ox ?Oz
             case Oz=>exact rfl
             case Ow =>
              refine' aC ?Tv
              case Tv =>
               refine' af ?Zy ?Zz ?ZA
               case ZA=>exact rfl
               case Zy =>
                exact au
               case Zz =>
                refine' af ?Sw ?Sx ?Sy
                case Sy=>exact rfl
                case Sw =>
                 exact au
                case Sx =>
                 exact ai
             case Ox =>
              exact ai
        case Tr =>
         exact ay
       case Tp =>
        refine' ah ?ZC ?ZD
        case ZC =>
         refine' aH ?ZE ?Tw ?ZF
         case ZE=>exact(PW.pt (cL (bX ki (jt K (pv 1) ao) au) (cL (bP (pv 8)) (cy (bX aP (pv 2) au)))))
         case Tw =>
          refine' ak ?Tz
          case Tz =>
           refine' az ?ZG
           case ZG =>
            refine' aC ?TF
            case TF =>
             refine' af ?ZH ?ZI ?ZJ
             case ZJ=>exact rfl
             case ZH =>
              exact au
             case ZI =>
              refine' af ?Sh ?Si ?Sj
              case Sj=>exact rfl
              case Sh =>
               exact(pv 1)
              case Si =>
               exact ai
         case ZF =>
          exact ay
        case ZD =>
         refine' ah ?ZK ?ZL
         case ZK =>
          refine' aH ?ZN ?ZO ?ZQ
          case ZN=>exact(PW.pt (cL (cz bQ (pv 2) (pv 4) rfl) (cL (dh (bP (pv 9))) (cy (bX aP (jt K (pv 1) ao) au)))))
          case ZO =>
           refine' ak ?ZR
           case ZR =>
            refine' az ?ZS
            case ZS =>
             refine' aC ?ZT
             case ZT =>
              refine' af ?ZU ?ZV ?ZW
              case ZW=>exact rfl
              case ZU =>
               exact au
              case ZV =>
               refine' af ?ZX ?ZY ?ZZ
               case ZZ=>exact rfl
               case ZX =>
                exact au
               case ZY =>
                exact ai
          case ZQ =>
           exact ay
         case ZL =>
          refine' ak ?Z0
          case Z0 =>
           refine' az ?Z1
           case Z1 =>
            refine' aC ?Z2
            case Z2 =>
             refine' af ?Z3 ?Z4 ?Z5
             case Z5=>exact rfl
             case Z3 =>
              exact au
             case Z4 =>
              refine' af ?TH ?TL ?TM
              case TM=>exact rfl
              case TH =>
               refine' aC ?TN
               case TN =>
                refine' af ?TQ ?TR ?TU
                case TU=>exact rfl
                case TQ =>
                 exact au
                case TR =>
                 refine' af ?TV ?TX ?TY
                 case TY=>exact rfl
                 case TV =>
                  exact au
                 case TX =>
                  exact ai
              case TL =>
               exact ai
  refine⟨_,O,t,_,O,ht,O,_,_,O,_,_,O,_,_,O,_,_,O,_,_,O,_,_,O,_,_,O,O,?_⟩
  by_cases hw:aZ w ("plain":Str)=true
  ·refine⟨_,O,_,O,_,_,O,O,_,O,aS (λ(h1:iz c f=true)=>?_) (λ(h1:¬iz c f=true)=>?_)⟩
   ·exact bD (by unfold eZ dY;rw[aal hw,aal h1]) cG k
   refine⟨_,O,O,_,O,aS (λ(h2:aZ (sg c) (Str.ofString "\n")=true)=>?_) (λ(h2:¬aZ (sg c) (Str.ofString "\n")=true)=>?_)⟩
   ·exact bD (by unfold eZ dY;rw[aal hw,aah h1,aal h2]) oF k
   refine⟨_,O,s,_,_,_,O,O,hs,O,O,_,O,Dq hw (bW ?_)⟩
   refine⟨_,O,_,O,_,_,O,O,_,O,aS (λ(h3:iz c p=true)=>?_) (λ(h3:¬iz c p=true)=>?_)⟩
   ·exact bD (by unfold eZ dY;rw[aal hw,aah h1,aah h2,aal h3]) jJ k
   refine⟨_,O,s,_,_,_,O,O,hs,O,O,_,O,Dq hw (bW ?_)⟩
   refine⟨_,O,_,O,_,_,O,O,_,O,aS (λ(h4:iz c q=true)=>?_) (λ(h4:¬iz c q=true)=>?_)⟩
   ·refine⟨_,O,_,O,aS (λ(h5:(!b4)=true)=>?_) (λ(h5:¬(!b4)=true)=>?_)⟩
    ·refine⟨_,O,s,_,_,_,O,O,hs,O,O,_,O,u6 hw ?_⟩
     exact f7 (by unfold eZ dY;rw[aal hw,aah h1,aah h2,aah h3,aal h4,aal h5]) k
    refine bW ?_
    exact bD (by unfold eZ dY;rw[aal hw,aah h1,aah h2,aah h3,aal h4,aah h5]) cE k
   refine bW ?_
   exact bD (by unfold eZ dY;rw[aal hw,aah h1,aah h2,aah h3,aah h4]) cE k
  ·refine⟨_,O,_,O,_,_,O,O,_,O,aS (λ(h1:iz c f=true)=>?_) (λ(h1:¬iz c f=true)=>?_)⟩
   ·exact bD (by unfold eZ dF;rw[aah hw,aal h1]) cG k
   refine⟨_,O,O,_,O,aS (λ(h2:aZ (sg c) (Str.ofString "\n")=true)=>?_) (λ(h2:¬aZ (sg c) (Str.ofString "\n")=true)=>?_)⟩
   ·exact bD (by unfold eZ dF;rw[aah hw,aah h1,aal h2]) oF k
   refine⟨_,O,s,_,_,_,O,O,hs,O,O,_,O,Ds (fB hw) ?_⟩
   refine⟨_,O,_,O,_,_,O,O,_,O,aS (λ(h3:iz c q=true)=>?_) (λ(h3:¬iz c q=true)=>?_)⟩
   ·exact⟨_,O,bD (by unfold eZ dF;rw[aah hw,aah h1,aah h2,aal h3]) cG k⟩
   refine⟨_,O,_,O,_,_,O,O,_,O,aS (λ(h4:iz c p=true)=>?_) (λ(h4:¬iz c p=true)=>?_)⟩
   ·exact bD (by unfold eZ dF;rw[aah hw,aah h1,aah h2,aah h3,aal h4]) jJ k
   refine⟨_,O,s,_,_,_,O,O,hs,O,O,_,O,Ds (fB hw) ?_⟩
   refine⟨_,O,_,O,aS (λ(h5:b3=true)=>?_) (λ(h5:¬b3=true)=>?_)⟩
   ·refine⟨_,O,O,_,O,aS (λ(h6:aZ (sg c) (" ":Str)=true)=>?_) (λ(h6:¬aZ (sg c) (" ":Str)=true)=>?_)⟩
    ·exact⟨_,O,fG (by unfold eZ dF;rw[aah hw,aah h1,aah h2,aah h3,aah h4,aal h6,aal h5]) cG (aD.refl _) hs k⟩
    refine⟨_,O,_,O,_,_,O,O,_,O,u7 (fB h3) (bW ?_)⟩
    exact bD (by unfold eZ dF;rw[aah hw,aah h1,aah h2,aah h3,aah h4,aah h6]) cE k
   refine bW ?_
   refine⟨_,O,_,O,_,_,O,O,_,O,u7 (fB h3) (bW ?_)⟩
   exact bD (by unfold eZ dF;rw[aah hw,aah h1,aah h2,aah h3,aah h4];by_cases h6:aZ (sg c) (" ":Str)=true<;>simp only[h6,h5,abx,abH,aa7]) cE k
inductive qk(K:W.Frag)(vs:List V)(H:Hp)(Q:VK)(E_:XK):Prop where
 |mk (t s:Addr) (w u:Str) (c:Nat) (p q f:Str) (b1 b2 b3 b4:Bool):(vs=[.ref t,.ref s,.str (sg c)])->(bH K H t (ng p q f b1 b2 b3 b4))->(bH K H s [.str w,.str u])->(∀v H',aD H H'->tK K H' v (cg p q f b1 b2 b3 b4 w u c)->Q v H')->qk K vs H Q E_
theorem zx:zzz T dW 2 36 ["_law_told_here","_law_state","_law_sign"] (qk K):=by
 have Be:=zw T
 refine T.sF.ok bO 'e' 'a'
 ·obtain⟨t,s,w,u,c,p,q,f,b1,b2,b3,b4,rfl,_⟩:=h;rfl
 ·have hu:=aY hr
  obtain⟨t,s,w,u,c,p,q,f,b1,b2,b3,b4,rfl,ht,hs,k⟩:=h
  refine'⟨_,?aa,?bb⟩
  case aa =>
   refine' ah ?s0 ?r0
   case s0 =>
    exact(dU (pv 0) (fM K rfl 7 rfl (aQ (d8 3 bO.nd) (aQ (d8 4 bO.nd) (aQ (d8 5 bO.nd) (aQ (d8 6 bO.nd) (aQ (d8 7 bO.nd) (aQ (d8 8 bO.nd) (aQ (d8 9 bO.nd) fK)))))))))
   case r0 =>
    refine' ah ?s1 ?r1
    case s1 =>
     exact(dU (pv 1) (fM K rfl 2 rfl (aQ (d8 10 bO.nd) (aQ (d8 11 bO.nd) fK))))
    case r1 =>
     refine' ah ?s2 ?r2
     case s2 =>
      refine' aH ?c3 ?b3 ?e3
      case c3=>exact(bX aP (pv 10) au)
      case b3 =>
       refine' ah ?s4 ?r4
       case s4 =>
        refine' aH ?c5 ?b5 ?e5
        case c5=>exact(cz bQ (pv 2) (pv 5) rfl)
        case b5 =>
         refine' ak ?s6
         case s6 =>
          refine' az ?v7
          case v7 =>
           refine' aC ?a8
           case a8 =>
            refine' af ?x9 ?y9 ?z9
            case z9=>exact rfl
            case x9 =>
             exact au
            case y9 =>
             refine' af ?Me ?Mf ?Mg
             case Mg=>exact rfl
             case Me =>
              refine' aC ?OG
              case OG =>
               refine' af ?OH ?OI ?OJ
               case OJ=>exact rfl
               case OH =>
                exact au
               case OI =>
                refine' af ?OL ?OM ?ON
                case ON=>exact rfl
                case OL =>
                 exact(pv 11)
                case OM =>
                 exact ai
             case Mf =>
              exact ai
        case e5 =>
         exact ay
       case r4 =>
        refine' ah ?TZ ?T3
        case TZ =>
         refine' aH ?Z6 ?T4 ?Z7
         case Z6=>exact(bX aP (pv 2) (pv 11))
         case T4 =>
          refine' ak ?T5
          case T5 =>
           refine' az ?T6
           case T6 =>
            refine' aC ?Mr
            case Mr =>
             refine' af ?O2 ?O3 ?O4
             case O4=>exact rfl
             case O2 =>
              exact au
             case O3 =>
              refine' af ?O5 ?O6 ?O7
              case O7=>exact rfl
              case O5 =>
               refine' fN K ?Z8 ?Z9 ?h21 ?k21
               case h21=>exact λ_ _=>rfl
               case k21=>exact rfl
               case Z8 =>
                refine' bJ ?T7
                case T7 =>
                 refine' af ?Jo ?Jp ?Jq
                 case Jq=>exact rfl
                 case Jo =>
                  refine' aC ?Jr
                  case Jr =>
                   refine' af ?L6 ?L7 ?L8
                   case L8=>exact rfl
                   case L6 =>
                    exact au
                   case L7 =>
                    refine' af ?Js ?Jt ?Ju
                    case Ju=>exact rfl
                    case Js =>
                     exact au
                    case Jt =>
                     exact ai
                 case Jp =>
                  refine' af ?OA ?OB ?OC
                  case OC=>exact rfl
                  case OA =>
                   refine' aC ?O9
                   case O9 =>
                    refine' af ?Tg ?Ti ?Tj
                    case Tj=>exact rfl
                    case Tg =>
                     exact au
                    case Ti =>
                     refine' af ?Ma ?Mb ?Mc
                     case Mc=>exact rfl
                     case Ma =>
                      exact(pv 11)
                     case Mb =>
                      exact ai
                  case OB =>
                   exact ai
               case Z9=>exact(LC qN T.Cp (af (pv 6) ai))
              case O6 =>
               exact ai
         case Z7 =>
          exact ay
        case T3 =>
         refine' ah ?To ?Tp
         case To =>
          refine' aH ?Tq ?Pa ?Tr
          case Tq=>exact(PW.pt (cL (bX aP (pv 2) au) (cy (dh (bP (pv 7))))))
          case Pa =>
           refine' ak ?Tt
           case Tt =>
            refine' az ?Tu
            case Tu =>
             refine' aC ?Pb
             case Pb =>
              refine' af ?Ot ?Ou ?Ov
              case Ov=>exact rfl
              case Ot =>
               exact au
              case Ou =>
               refine' af ?Ow ?Ox ?Oz
               case Oz=>exact rfl
               case Ow =>
                exact au
               case Ox =>
                exact ai
          case Tr =>
           exact ay
         case Tp =>
          refine' ak ?s38
          case s38 =>
           refine' az ?v39
           case v39 =>
            refine' aC ?T8
            case T8 =>
             refine' af ?Sz ?SA ?SD
             case SD=>exact rfl
             case Sz =>
              exact au
             case SA =>
              refine' af ?Sb ?Sd ?Se
              case Se=>exact rfl
              case Sb =>
               exact(pv 1)
              case Sd =>
               exact ai
      case e3 =>
       exact ay
     case r2 =>
      refine' ah ?Tz ?r43
      case Tz =>
       refine' aH ?c44 ?T9 ?e44
       case c44=>exact(bX aP (pv 10) au)
       case T9 =>
        refine' ah ?s45 ?r45
        case s45 =>
         refine' aH ?c46 ?Ua ?e46
         case c46=>exact(PW.pt (cL (bX aP (pv 2) au) (cy (dh (bP (pv 7))))))
         case Ua =>
          refine' ak ?s47
          case s47 =>
           refine' az ?v48
           case v48 =>
            refine' aC ?Sk
            case Sk =>
             refine' af ?Sl ?Sm ?Sn
             case Sn=>exact rfl
             case Sl =>
              exact au
             case Sm =>
              refine' af ?So ?Sq ?Ss
              case Ss=>exact rfl
              case So =>
               exact au
              case Sq =>
               exact ai
         case e46 =>
          exact ay
        case r45 =>
         refine' ak ?s52
         case s52 =>
          refine' az ?v53
          case v53 =>
           refine' aC ?a54
           case a54 =>
            refine' af ?x55 ?y55 ?z55
            case z55=>exact rfl
            case x55 =>
             exact au
            case y55 =>
             refine' af ?x56 ?y56 ?z56
             case z56=>exact rfl
             case x56 =>
              refine' fN K ?o57 ?i57 ?h57 ?k57
              case h57=>exact λ_ _=>rfl
              case k57=>exact rfl
              case o57 =>
               refine' bJ ?a58
               case a58 =>
                refine' af ?TH ?TL ?TM
                case TM=>exact rfl
                case TH =>
                 refine' aC ?TN
                 case TN =>
                  refine' af ?TQ ?TR ?TU
                  case TU=>exact rfl
                  case TQ =>
                   exact au
                  case TR =>
                   refine' af ?TV ?TX ?TY
                   case TY=>exact rfl
                   case TV =>
                    exact(pv 11)
                   case TX =>
                    exact ai
                case TL =>
                 refine' af ?x63 ?y63 ?z63
                 case z63=>exact rfl
                 case x63 =>
                  refine' aC ?a64
                  case a64 =>
                   refine' af ?x65 ?y65 ?z65
                   case z65=>exact rfl
                   case x65 =>
                    exact au
                   case y65 =>
                    refine' af ?x66 ?y66 ?z66
                    case z66=>exact rfl
                    case x66 =>
                     exact au
                    case y66 =>
                     exact ai
                 case y63 =>
                  exact ai
              case i57=>exact(LC qN T.Cp (af (Es aP (pv 11) au) ai))
             case y56 =>
              exact ai
       case e44 =>
        exact ay
      case r43 =>
       refine' ah ?s67 ?r67
       case s67 =>
        refine' aH ?c68 ?b68 ?e68
        case c68=>exact(PW.pt (cL (bX aP (pv 10) au) (cy (bX aP (pv 2) (pv 11)))))
        case b68 =>
         refine' ak ?s69
         case s69 =>
          refine' az ?v70
          case v70 =>
           refine' aC ?a71
           case a71 =>
            refine' af ?x72 ?y72 ?z72
            case z72=>exact rfl
            case x72 =>
             exact au
            case y72 =>
             refine' af ?x73 ?y73 ?z73
             case z73=>exact rfl
             case x73 =>
              refine' aC ?a74
              case a74 =>
               refine' af ?x75 ?y75 ?z75
               case z75=>exact rfl
               case x75 =>
                exact au
               case y75 =>
                refine' af ?x76 ?y76 ?z76
                case z76=>exact rfl
                case x76 =>
                 exact(pv 11)
                case y76 =>
                 exact ai
             case y73 =>
              exact ai
        case e68 =>
         exact ay
       case r67 =>
        refine' ah ?s77 ?r77
        case s77 =>
         refine' aH ?c78 ?b78 ?e78
         case c78=>exact(PW.pt (fU (bX aP (pv 10) au) (gJ (bX aP (pv 10) au))))
         case b78 =>
          refine' ah ?s79 ?r79
          case s79 =>
           refine' aH ?c80 ?b80 ?e80
           case c80=>exact(bX aP (pv 2) au)
           case b80 =>
            refine' ak ?s81
            case s81 =>
             refine' az ?v82
             case v82 =>
              refine' aC ?a83
              case a83 =>
               refine' af ?x84 ?y84 ?z84
               case z84=>exact rfl
               case x84 =>
                exact au
               case y84 =>
                refine' af ?x85 ?y85 ?z85
                case z85=>exact rfl
                case x85 =>
                 refine' aC ?a86
                 case a86 =>
                  refine' af ?x87 ?y87 ?z87
                  case z87=>exact rfl
                  case x87 =>
                   exact au
                  case y87 =>
                   refine' af ?x88 ?y88 ?z88
                   case z88=>exact rfl
                   case x88 =>
                    exact au
                   case y88 =>
                    exact ai
                case y85 =>
                 exact ai
           case e80 =>
            exact ay
          case r79 =>
           refine' ah ?s89 ?r89
           case s89 =>
            refine' aH ?c90 ?b90 ?e90
            case c90=>exact(cz bQ (pv 2) (pv 3) rfl)
            case b90 =>
             refine' ak ?s91
             case s91 =>
              refine' az ?v92
              case v92 =>
               refine' aC ?a93
               case a93 =>
                refine' af ?x94 ?y94 ?z94
                case z94=>exact rfl
                case x94 =>
                 exact au
                case y94 =>
                 refine' af ?x95 ?y95 ?z95
                 case z95=>exact rfl
                 case x95 =>
                  refine' aC ?a96
                  case a96 =>
                   refine' af ?x97 ?y97 ?z97
                   case z97=>exact rfl
                   case x97 =>
                    exact au
                   case y97 =>
                    refine' af ?x98 ?y98 ?z98
                    case z98=>exact rfl
                    case x98 =>
                     exact au
                    case y98 =>
                     exact ai
                 case y95 =>
                  exact ai
            case e90 =>
             exact ay
           case r89 =>
            refine' ah ?s99 ?r99
            case s99 =>
             refine' aH ?Ub ?Uc ?Ud
             case Ub=>exact(PW.pt (cL (bP (pv 8)) (cy (bX aP (pv 2) au))))
             case Uc =>
              refine' ak ?Ue
              case Ue =>
               refine' az ?Ug
               case Ug =>
                refine' aC ?Uh
                case Uh =>
                 refine' af ?Ui ?Uj ?Uk
                 case Uk=>exact rfl
                 case Ui =>
                  exact au
                 case Uj =>
                  refine' af ?Ul ?Um ?Uo
                  case Uo=>exact rfl
                  case Ul =>
                   refine' aC ?Up
                   case Up =>
                    refine' af ?Uq ?Ur ?Us
                    case Us=>exact rfl
                    case Uq =>
                     exact au
                    case Ur =>
                     refine' af ?Ut ?Uu ?Uv
                     case Uv=>exact rfl
                     case Ut =>
                      exact au
                     case Uu =>
                      exact ai
                  case Um =>
                   exact ai
             case Ud =>
              exact ay
            case r99 =>
             refine' ak ?Uw
             case Uw =>
              refine' az ?Ux
              case Ux =>
               refine' aC ?Uy
               case Uy =>
                refine' af ?Uz ?UA ?UB
                case UB=>exact rfl
                case Uz =>
                 exact au
                case UA =>
                 refine' af ?UC ?UD ?UE
                 case UE=>exact rfl
                 case UC =>
                  exact au
                 case UD =>
                  exact ai
         case e78 =>
          exact ay
        case r77 =>
         refine' ak ?UG
         case UG =>
          exact(az (eU Be hr T.AW T.sE.kp T.AV (af (pv 0) (af (pv 1) (af (pv 2) ai)))))
  refine⟨_,O,t,_,O,ht,O,_,_,O,_,_,O,_,_,O,_,_,O,_,_,O,_,_,O,_,_,O,O,?_⟩
  refine⟨_,O,s,_,O,hs,O,_,_,O,_,_,O,O,?_⟩
  refine⟨_,O,O,_,O,aS (λ(h0:aZ w ("within":Str)=true)=>?_) (λ(h0:¬aZ w ("within":Str)=true)=>?_)⟩
  ·refine⟨_,O,_,O,_,_,O,O,_,O,aS (λ(h1:iz c f=true)=>?_) (λ(h1:¬iz c f=true)=>?_)⟩
   ·exact⟨_,O,bD (by rw[fH h0];unfold cK;rw[aal h1]) cG k⟩
   refine⟨_,O,_,O,O,_,O,aS (λ(h2:aZ (sg c) u=true)=>?_) (λ(h2:¬aZ (sg c) u=true)=>?_)⟩
   ·refine⟨(by show 2<=sizeLine;decide),λt1 g1=>⟨_,O,(by show 2<=sizeLine;decide),λt2 g2=>⟨(by show 2<=sizeLine;decide),λl gl=>?_⟩⟩⟩
    have z1:=aq (o:=HO.tup [.str ("behind":Str),.str ("":Str)]) g1
    have z2:=aq (o:=HO.tup [.str ("doubt":Str),.str u]) g2
    have z3:=aq (o:=HO.lst [.ref t1,.ref t2]) gl
    have y1:bH K _ t1 [.str ("behind":Str),.str ("":Str)]:=dD (z2.trans z3) (bH.of aj)
    have y2:bH K _ t2 [.str ("doubt":Str),.str u]:=dD z3 (bH.of aj)
    refine⟨_,O,.inr ⟨b1,O,?_⟩⟩
    cases b1 with
    |true=>exact⟨l,_,_,.ref t2,rfl,rfl,aK.of aj,rfl,fG (by rw[fH h0];unfold cK;rw[aah h1,aal h2];rfl) cG ((z1.trans z2).trans z3) y2 k⟩
    |false=>exact⟨l,_,_,.ref t1,rfl,rfl,aK.of aj,rfl,fG (by rw[fH h0];unfold cK;rw[aah h1,aal h2];rfl) cG ((z1.trans z2).trans z3) y1 k⟩
   refine⟨_,O,O,_,O,aS (λ(h3:aZ (sg c) (Str.ofString "\n")=true)=>?_) (λ(h3:¬aZ (sg c) (Str.ofString "\n")=true)=>?_)⟩
   ·refine⟨_,O,_,O,aS (λ(h4:(!b2)=true)=>?_) (λ(h4:¬(!b2)=true)=>?_)⟩
    ·exact f7 (by rw[fH h0];unfold cK;rw[aah h1,aah h2,aal h3,aal h4]) k
    cases ly h0
    exact⟨_,O,fG (by rw[fH h0];unfold cK;rw[aah h1,aah h2,aal h3,aah h4]) cE (aD.refl _) hs k⟩
   cases ly h0
   refine bW ?_
   exact⟨_,O,fG (by rw[fH h0];unfold cK;rw[aah h1,aah h2,aah h3]) cE (aD.refl _) hs k⟩
  have n0:=h0
  clear h0
  refine⟨_,O,O,_,O,aS (λ(h0:aZ w ("freed":Str)=true)=>?_) (λ(h0:¬aZ w ("freed":Str)=true)=>?_)⟩
  ·refine⟨_,O,O,_,O,aS (λ(h1:aZ (sg c) (Str.ofString "\n")=true)=>?_) (λ(h1:¬aZ (sg c) (Str.ofString "\n")=true)=>?_)⟩
   ·refine⟨_,O,_,O,aS (λ(h2:(!b2)=true)=>?_) (λ(h2:¬(!b2)=true)=>?_)⟩
    ·exact f7 (by rw[pH h0];unfold gb;rw[aal h1,aal h2]) k
    refine⟨_,O,(by show 2<=sizeLine;decide),λt1 g1=>⟨(by show 2<=sizeLine;decide),λt2 g2=>⟨(by show 2<=sizeLine;decide),λl gl=>?_⟩⟩⟩
    have z1:=aq (o:=HO.tup [.str ("within":Str),.str u]) g1
    have z2:=aq (o:=HO.tup [.str ("plain":Str),.str ("":Str)]) g2
    have z3:=aq (o:=HO.lst [.ref t1,.ref t2]) gl
    have y1:bH K _ t1 [.str ("within":Str),.str u]:=dD (z2.trans z3) (bH.of aj)
    have y2:bH K _ t2 [.str ("plain":Str),.str ("":Str)]:=dD z3 (bH.of aj)
    refine⟨_,O,O,.inr ⟨aZ u ("":Str),O,?_⟩⟩
    have ex:cg p q f b1 b2 b3 b4 w u c=eY u:=by rw[pH h0];unfold gb;rw[aal h1,aah h2]
    unfold eY at ex
    cases Pc:aZ u ("":Str) with
    |true=>exact⟨l,_,_,.ref t2,rfl,rfl,aK.of aj,rfl,fG (by rw[ex,aal Pc]) cE ((z1.trans z2).trans z3) y2 k⟩
    |false=>exact⟨l,_,_,.ref t1,rfl,rfl,aK.of aj,rfl,fG (by rw[ex,aah (by rw[Pc];decide)]) cE ((z1.trans z2).trans z3) y1 k⟩
   refine bW ?_
   refine⟨_,O,(by show 2<=sizeLine;decide),λt1 g1=>⟨(by show 2<=sizeLine;decide),λt2 g2=>⟨(by show 2<=sizeLine;decide),λl gl=>?_⟩⟩⟩
   have z1:=aq (o:=HO.tup [.str ("within":Str),.str u]) g1
   have z2:=aq (o:=HO.tup [.str ("plain":Str),.str ("":Str)]) g2
   have z3:=aq (o:=HO.lst [.ref t1,.ref t2]) gl
   have y1:bH K _ t1 [.str ("within":Str),.str u]:=dD (z2.trans z3) (bH.of aj)
   have y2:bH K _ t2 [.str ("plain":Str),.str ("":Str)]:=dD z3 (bH.of aj)
   refine⟨_,O,O,.inr ⟨aZ u ("":Str),O,?_⟩⟩
   have ex:cg p q f b1 b2 b3 b4 w u c=eY u:=by rw[pH h0];unfold gb;rw[aah h1]
   unfold eY at ex
   cases Pc:aZ u ("":Str) with
   |true=>exact⟨l,_,_,.ref t2,rfl,rfl,aK.of aj,rfl,fG (by rw[ex,aal Pc]) cE ((z1.trans z2).trans z3) y2 k⟩
   |false=>exact⟨l,_,_,.ref t1,rfl,rfl,aK.of aj,rfl,fG (by rw[ex,aah (by rw[Pc];decide)]) cE ((z1.trans z2).trans z3) y1 k⟩
  have n1:=h0
  clear h0
  refine⟨_,O,O,_,O,aS (λ(h0:aZ w ("doubt":Str)=true)=>?_) (λ(h0:¬aZ w ("doubt":Str)=true)=>?_)⟩
  ·refine⟨_,O,_,O,O,_,O,aS (λ(h1:aZ (sg c) u=true)=>?_) (λ(h1:¬aZ (sg c) u=true)=>?_)⟩
   ·exact⟨_,O,bD (by rw[gY h0];unfold f9;rw[aal h1]) cE k⟩
   refine⟨_,O,O,_,O,u6 h0 (kL ?_)⟩
   refine⟨_,O,O,_,O,aS (λ(g1:aZ (sg c) (Str.ofString "\n")=true)=>?_) (λ(g1:¬aZ (sg c) (Str.ofString "\n")=true)=>?_)⟩
   ·exact bD (by rw[gY h0];unfold f9 bN;rw[aah h1,aal g1]) oF k
   refine⟨_,O,_,O,_,_,O,O,_,O,aS (λ(g2:iz c p=true)=>?_) (λ(g2:¬iz c p=true)=>?_)⟩
   ·exact bD (by rw[gY h0];unfold f9 bN;rw[aah h1,aah g1,aal g2]) jJ k
   refine⟨_,O,_,O,aS (λ(g3:b3=true)=>?_) (λ(g3:¬b3=true)=>?_)⟩
   ·refine⟨_,O,O,_,O,aS (λ(g4:aZ (sg c) (" ":Str)=true)=>?_) (λ(g4:¬aZ (sg c) (" ":Str)=true)=>?_)⟩
    ·exact bD (by rw[gY h0];unfold f9 bN;rw[aah h1,aah g1,aah g2,aal g4,aal g3]) cG k
    exact f7 (by rw[gY h0];unfold f9 bN;rw[aah h1,aah g1,aah g2,aah g4]) k
   refine bW ?_
   exact f7 (by rw[gY h0];unfold f9 bN;rw[aah h1,aah g1,aah g2];by_cases g4:aZ (sg c) (" ":Str)=true<;>simp only[g4,g3,abx,abH,aa7]) k
  refine bW ?_
  refine⟨_,O,O,_,O,u7 (fB h0) ?_⟩
  refine⟨_,O,O,_,O,aS (λ(h9:aZ w ("behind":Str)=true)=>?_) (λ(h9:¬aZ w ("behind":Str)=true)=>?_)⟩
  ·refine⟨_,O,O,_,O,aS (λ(g1:aZ (sg c) (Str.ofString "\n")=true)=>?_) (λ(g1:¬aZ (sg c) (Str.ofString "\n")=true)=>?_)⟩
   ·exact bD (by rw[gG h9];unfold bN;rw[aal g1]) oF k
   refine⟨_,O,_,O,_,_,O,O,_,O,aS (λ(g2:iz c p=true)=>?_) (λ(g2:¬iz c p=true)=>?_)⟩
   ·exact bD (by rw[gG h9];unfold bN;rw[aah g1,aal g2]) jJ k
   refine⟨_,O,_,O,aS (λ(g3:b3=true)=>?_) (λ(g3:¬b3=true)=>?_)⟩
   ·refine⟨_,O,O,_,O,aS (λ(g4:aZ (sg c) (" ":Str)=true)=>?_) (λ(g4:¬aZ (sg c) (" ":Str)=true)=>?_)⟩
    ·exact bD (by rw[gG h9];unfold bN;rw[aah g1,aah g2,aal g4,aal g3]) cG k
    exact f7 (by rw[gG h9];unfold bN;rw[aah g1,aah g2,aah g4]) k
   refine bW ?_
   exact f7 (by rw[gG h9];unfold bN;rw[aah g1,aah g2];by_cases g4:aZ (sg c) (" ":Str)=true<;>simp only[g4,g3,abx,abH,aa7]) k
  refine⟨_,O,_,O,_,O,t,s,w,u,c,p,q,f,b1,b2,b3,b4,O,ht,hs,λv H2 s2 r=>k v H2 s2 ?_⟩
  rw[Dt (fB n0) (fB n1) (fB h0) (fB h9)]
  exact r
inductive mq(K:W.Frag)(vs:List V)(H:Hp)(Q:VK)(E_:XK):Prop where
 |mk (t:Addr) (z:Str) (p q f:Str) (b1 b2 b3 b4:Bool):(vs=[.ref t,.str z])->(H t=some (.tup (ng p q f b1 b2 b3 b4)))->(z.length<=3000)->(∀(tw lk:Addr) H',H' tw=some (.tup [.ref lk,.str (wu (runM p q f b1 b2 b3 b4 ("row":Str) ("":Str) z.cps.toList))])->H lk=none->H' lk=some (.lst ((runM p q f b1 b2 b3 b4 ("row":Str) ("":Str) z.cps.toList).1.map V.str))->aD H H'->Q (.ref tw) H')->mq K vs H Q E_
theorem vL:zzz T dW 3 37 ["_law_told_here","_law_text_here"] (mq K):=by
 have Bf:=zx T
 refine T.nE.ok cj 'e' 'a'
 ·obtain⟨t,z,p,q,f,b1,b2,b3,b4,rfl,_⟩:=h;rfl
 ·have hu:=aY hr
  have fu:=hr.aO
  obtain⟨t,z,p,q,f,b1,b2,b3,b4,rfl,ht,hz2,k⟩:=h
  refine'⟨_,?aa,?bb⟩
  case aa =>
   refine' ah ?s0 ?r0
   case s0 =>
    refine' di 2 cj.nd ?v1
    case v1 =>
     refine' aC ?a2
     case a2 =>
      refine' af ?x3 ?y3 ?z3
      case z3=>exact rfl
      case x3 =>
       exact au
      case y3 =>
       refine' af ?x4 ?y4 ?z4
       case z4=>exact rfl
       case x4 =>
        exact au
       case y4 =>
        exact ai
   case r0 =>
    refine' ah ?s5 ?r5
    case s5 =>
     refine' di 3 cj.nd ?v6
     case v6 =>
      refine' bJ ?a7
      case a7 =>
       exact ai
    case r5 =>
     refine' ah ?s8 ?r8
     case s8 =>
      exact(dm aaX rfl (dO rfl T.dM (af (gA cQ T.bF (af (pv 1) ai)) ai)) (d8 4 cj.nd)
     (ah (dU (eU Bf hr T.AY T.sF.kp T.AX (af (pv 0) (af (pv 2) (af (xO yr (pv 1) (pv 4) (λ_ _=>rfl)) ai)))) (fM K rfl 2 rfl (aQ (d8 5 cj.nd) (aQ (d8 6 cj.nd) fK))))
     (ah (aH (bX aP (pv 5) au) (ak (az (aC (af (pv 3) (af (pv 6) ai))))) ay)
     (ah (bK (cI K rfl aaK aaM aaN bu (pv 3) (af (pv 5) ai)))
     (ak (di 2 cj.nd (pv 6)))))))
     case r8 =>
      refine' ah ?s9 ?r9
      case s9 =>
       refine' aH ?c10 ?UH ?e10
       case c10=>exact(bX (Gi K rfl fu) (pv 2) (aC (af au (af au ai))))
       case UH =>
        refine' ak ?O1
        case O1 =>
         refine' az ?v12
         case v12 =>
          refine' aC ?UI
          case UI =>
           refine' af ?UJ ?UK ?UL
           case UL=>exact rfl
           case UJ =>
            exact(pv 3)
           case UK =>
            refine' af ?Jd ?Je ?Jf
            case Jf=>exact rfl
            case Jd =>
             exact au
            case Je =>
             exact ai
       case e10 =>
        exact ay
      case r9 =>
       refine' ak ?T5
       case T5 =>
        refine' az ?T6
        case T6 =>
         refine' aC ?Mr
         case Mr =>
          refine' af ?O2 ?O3 ?O4
          case O4=>exact rfl
          case O2 =>
           exact(pv 3)
          case O3 =>
           refine' af ?O5 ?O6 ?O7
           case O7=>exact rfl
           case O5 =>
            exact au
           case O6 =>
            exact ai
  refine⟨by decide,λs0 hs0=>?_⟩
  have z0:=aq (o:=HO.tup [.str ("row":Str),.str ("":Str)]) hs0
  refine⟨by decide,λlk hlk=>?_⟩
  have z1:=aq (o:=HO.lst []) hlk
  have Fc:H lk=none:=z0.free hlk
  have hzs:z.length<=sizeLine:=aaz hz2 'b'
  refine⟨_,O,z,O,hzs,_,O,by omega,by omega,?_⟩
  refine fE (λi σ H4=>aD H H4/\∃(w u:Str)(s:Addr)(ks:List Str)(v1 v2 v3:Option V),σ=[some (.ref t),some (.str z),some (.ref s),some (.ref lk),v1,v2,v3]/\H4 lk=some (.lst (ks.map V.str))/\bH K H4 s [.str w,.str u]/\ks.length=i/\runM p q f b1 b2 b3 b4 ("row":Str) ("":Str) z.cps.toList=Ay ks (runM p q f b1 b2 b3 b4 w u (z.cps.toList.drop i))) ⟨z0.trans z1,_,_,s0,[],_,_,_,rfl,aj,bH.of (z1 _ _ aj),rfl,rfl⟩ ?_ ?_
  ·rintro i σ H4 hi ⟨s4,w,u,s,ks,v1,v2,v3,rfl,h4,hs,OO,er⟩
   have hil:i<z.length:=by simpa using hi
   have vY:z.cps.toList.length=z.length:=by rw[aaE];rfl
   obtain⟨c,hc⟩:∃c,z.cps.toList[i]?=some c:=⟨_,aau 'c'⟩
   rw[drop_cons hc]at er
   have hac:iB z.cps.toList (0+(i:Int))=some c:=by rw[Int.zero_add];exact bL hc
   refine⟨_,O,_,O,_,O,_,O,z,_,c,O,O,hzs,hac,t,s,w,u,c,p,q,f,b1,b2,b3,b4,O,bH.of (s4 _ _ ht),hs,λv H5 s5 r=>?_⟩
   have h5:=s5 _ _ h4
   cases Jw:cg p q f b1 b2 b3 b4 w u c with
   |go kd w3 u3 =>
    rw[Jw]at r
    obtain⟨hk,a,b,rfl,ha,hb⟩:=r
    refine⟨a,_,O,ha,O,_,_,O,_,_,O,O,?_⟩
    refine⟨_,O,O,_,O,u7 hk ?_⟩
    refine⟨_,O,.inl ⟨O,_,aK.of h5⟩,_,O,lk,_,_,O,O,h5,?_,?_⟩
    ·rw[aaj];exact aav (show ks.length<=3000 by omega) 'b'
    refine⟨_,O,aG Fc (s4.trans s5),w3,u3,b,ks++[kd],_,_,_,O,?_,yN h5 hb,by rw[aaJ,OO];rfl,er.trans (G0 Jw)⟩
    rw[aaI];exact aj
   |qG e =>
    rw[Jw]at r
    obtain⟨a,rfl,ha⟩:=r
    refine⟨a,_,O,ha,O,_,_,O,_,_,O,O,?_⟩
    refine⟨_,O,O,_,O,u6 (je _) ?_⟩
    refine⟨_,O,_,O,(by show 2<=sizeLine;decide),λtw htw=>?_⟩
    have st:=aq (o:=HO.tup [.ref lk,.str e]) htw
    rw[Du Jw]at er
    refine k tw lk _ ?_ Fc ?_ ((s4.trans s5).trans st)
    ·rw[er];exact aj
    ·rw[er];exact st _ _ h5
  ·rintro σ H4 ⟨s4,w,u,s,ks,v1,v2,v3,rfl,h4,hs,OO,er⟩
   have ez:((z.length:Int)).toNat=z.cps.toList.length:=by rw[aaE];exact Int.toNat_natCast _
   rw[ez,List.drop_length,Dv]at er
   refine⟨_,O,(by show 2<=sizeLine;decide),λm hm=>?_⟩
   have y2:=aq (o:=HO.tup [.str ("row":Str),.str ("":Str)]) hm
   refine⟨s,m,_,_,O,O,dD y2 hs,bH.of aj,O,O,_,O,aS (λ(h1:sA w u=true)=>?_) (λ(h1:¬sA w u=true)=>?_)⟩
   ·refine⟨_,O,(by show 2<=sizeLine;decide),λtw htw=>?_⟩
    have st:=aq (o:=HO.tup [.ref lk,.str ("":Str)]) htw
    refine k tw lk _ ?_ Fc ?_ ((s4.trans y2).trans st)
    ·rw[er,show wu (ks,w,u,none)=("":Str) from aal h1];exact aj
    ·rw[er];exact(y2.trans st) _ _ h4
   ·refine⟨_,O,(by show 2<=sizeLine;decide),λtw htw=>?_⟩
    have st:=aq (o:=HO.tup [.ref lk,.str ("cut":Str)]) htw
    refine k tw lk _ ?_ Fc ?_ ((s4.trans y2).trans st)
    ·rw[er,show wu (ks,w,u,none)=("cut":Str) from aah h1];exact aj
    ·rw[er];exact(y2.trans st) _ _ h4
inductive nR(K:W.Frag)(vs:List V)(H:Hp)(Q:VK)(E_:XK):Prop where
 |mk (z:Str) (lk:Addr) (ks:List Str):(vs=[.str z,.ref lk])->(H lk=some (.lst (ks.map V.str)))->(z.length<=2000)->(ks.length<=z.length)->(∀v H',RQ H H' v (Cc z ks)->aD H H'->Q v H')->nR K vs H Q E_
theorem xg:zzz T dW 1 38 ["_law_text_here","_law_kinds"] (nR K):=by
 refine T.pW.ok eg 'e' 'a'
 ·obtain⟨z,lk,ks,rfl,_⟩:=h;rfl
 ·have hu:=aY hr
  obtain⟨z,lk,ks,rfl,hk,hz,hkz,k⟩:=h
  refine⟨_,(ah (di 2 eg.nd (bJ ai))
   (ah (di 3 eg.nd (bJ (af au ai)))
   (ah (dm aaX rfl (dO rfl T.dM (af (gA (aL K rfl) T.bF (af (pv 1) ai)) ai)) (d8 4 eg.nd)
   (ah (aH (bX aP (fN K (pv 1) (pv 4)) au) (ak (dU (aI dz (fN K (pv 3) (Fv BK ao)) (xO yr (pv 0) (pv 4) (λ_ _=>rfl))) (kT (pv 3) (Fv BK ao) set_list))) ay)
   (ah (aH (bX aP (fN K (pv 1) (pv 4)) au) (ak (bK (cI K rfl aaK aaM aaN bu (pv 3) (af au ai)))) ay)
   (ak (aH (bX aP (fN K (pv 1) (pv 4)) au) (ah (bK (cI K rfl aaK aaM aaN bu (pv 2) (af (pv 3) ai)))
   (ak (di 3 eg.nd (bJ (af au ai))))) ay)))))
   (ak (az (pv 2)))))),?_⟩
  refine⟨by decide,λlt hlt=>?_⟩
  have s1:=aq (o:=HO.lst []) hlt
  refine⟨(by show 1<=sizeLine;decide),λr0 hr0=>?_⟩
  have s2:=aq (o:=HO.lst [.str ("":Str)]) hr0
  have a1:(upd (upd H lt (.lst [])) r0 (.lst [.str ("":Str)])) lt=some (.lst []):=s2 _ _ aj
  have n0:r0≠lt:=λq=>by rw[q,aj]at hr0;cases hr0
  have fr:=s1.free hr0
  have s12:=s1.trans s2
  have hzs:z.length<=sizeLine:=aaz hz 'b'
  have WA:(ks.map V.str).length=ks.length:=aaj _
  refine⟨_,O,lk,_,O,.inl (aK.of (s12 _ _ hk)),_,O,by omega,by omega,?_⟩
  refine fE (λi σ H2=>aD H H2/\∃(rr:Addr)(es:List V)(rs:List Str)(c:Str)(v:Option V),σ=[some (.str z),some (.ref lk),some (.ref lt),some (.ref rr),v]/\H rr=none/\rr≠lt/\H2 lt=some (.lst es)/\H2 rr=some (.lst (rs.map V.str++[.str c]))/\es.length<=i/\rs.length<=i/\c.length<=i/\V.ref lt∉es/\V.ref rr∉es/\es.Nodup/\∃rows,iE H H2 es rows/\tM G7 (z.cps.toList.take i) (ks.take i)=⟨rows,rs,c⟩) ⟨s12,r0,[],[],("":Str),_,rfl,fr,n0,a1,aj,aao _,aao _,by rw[Ca];exact aao _,by simp,by simp,abF,[],.nil,rfl⟩ ?_ ?_
  ·rintro i σ H2 hi ⟨s3,rr,es,rs,c,v,rfl,EK,nr,b1,b2,l1,l2,l3,n1,n2,nd,rows,rw',hg⟩
   have hi:i<ks.length:=by rw[←WA];simpa using hi
   have vY:z.cps.toList.length=z.length:=by rw[aaE];rfl
   obtain⟨kd,hkd⟩:∃kd,ks[i]?=some kd:=⟨_,aau hi⟩
   obtain⟨d,hd⟩:∃d,z.cps.toList[i]?=some d:=⟨_,aau 'c'⟩
   have zm:=qY G7 z.cps.toList ks i d kd hd hkd
   rw[hg]at zm
   have hat:iB (ks.map V.str) (0+(i:Int))=some (.str kd):=by rw[Int.zero_add];exact bL (by rw[aaT,hkd];rfl)
   have hac:iB z.cps.toList (0+(i:Int))=some d:=by rw[Int.zero_add];exact bL hd
   have hk3:aK K H2 lk (ks.map V.str):=aK.of (s3 _ _ hk)
   refine dR (t:=v9 _ _ _) (λσ' H'=>aD H H'/\∃(c1:Str),σ'=[some (.str z),some (.ref lk),some (.ref lt),some (.ref rr),some (.int (0+(i:Int)))]/\H' lt=some (.lst es)/\H' rr=some (.lst (rs.map V.str++[.str c1]))/\iE H H' es rows/\c1.length<=i+1/\((aZ kd ("put":Str)=true/\c1=c++sg d)\/(aZ kd ("put":Str)=false/\c1=c))) ?_ (λgo=>?_)
   rotate_left
   ·refine⟨_,O,_,O,lk,_,_,.str kd,O,O,hk3,hat,O,_,O,aS (λ(p1:aZ kd ("put":Str)=true)=>?_) (λ(p1:¬aZ kd ("put":Str)=true)=>go _ _ ⟨s3,c,O,b1,b2,rw',by omega,.inr ⟨fB p1,O⟩⟩)⟩
    refine⟨_,O,_,O,rr,_,_,_,O,O,aK.of b2,FL _ _,_,O,_,O,z,_,d,O,O,hzs,hac,_,_,O,O,aaz (show c.length+1<=2001 by omega) 'b',?_⟩
    refine⟨_,O,_,O,rr,_,_,rs.length,O,O,b2,?_,go _ _ ⟨aG EK s3,c++sg d,O,(aB (abm nr)).trans b1,?_,iE.but n2 rw',by rw[jI];show c.length+1<=_;omega,.inl ⟨p1,O⟩⟩⟩
    ·unfold HL
     rw[aaJ,aaj,aah 'b',aal (by show -((rs.length+1:Nat):Int)<=-1;omega)]
     show some ((-1+((rs.length+1:Nat):Int)).toNat)=_
     congr 1
     omega
    ·rw[aj,List.set_append_right _ _ (by rw[aaj];exact aao _),aaj,Nat.sub_self]
     rfl
   rintro σ' H3 ⟨s4,c1,rfl,e1,e2,WB,l4,h1⟩
   have hk4:aK K H3 lk (ks.map V.str):=aK.of (s4 _ _ hk)
   refine dR (t:=v9 _ _ _) (λσ' H'=>aD H H'/\∃(Ew:List Str)(c2:Str),σ'=[some (.str z),some (.ref lk),some (.ref lt),some (.ref rr),some (.int (0+(i:Int)))]/\H' lt=some (.lst es)/\H' rr=some (.lst (Ew.map V.str++[.str c2]))/\iE H H' es rows/\Ew.length<=i+1/\c2.length<=i+1/\((aZ kd ("part":Str)=true/\Ew=rs++[c1]/\c2=("":Str))\/(aZ kd ("part":Str)=false/\Ew=rs/\c2=c1))) ?_ (λgo=>?_)
   rotate_left
   ·refine⟨_,O,_,O,lk,_,_,.str kd,O,O,hk4,hat,O,_,O,aS (λ(p2:aZ kd ("part":Str)=true)=>?_) (λ(p2:¬aZ kd ("part":Str)=true)=>go _ _ ⟨s4,rs,c1,O,e1,e2,WB,by omega,l4,.inr ⟨fB p2,O,O⟩⟩)⟩
    refine⟨_,O,.inl ⟨O,_,aK.of e2⟩,rr,_,_,O,O,e2,?_,go _ _ ⟨aG EK s4,rs++[c1],("":Str),O,(aB (abm nr)).trans e1,?_,iE.but n2 WB,by rw[aaJ];show rs.length+1<=_;omega,by rw[Ca];omega,.inl ⟨p2,O,O⟩⟩⟩
    ·rw[aaJ,aaj];exact aav (show rs.length+1<=2001 by omega) 'b'
    ·rw[aj,aaI];rfl
   rintro σ' H4 ⟨s5,Ew,c2,rfl,d1,d2,WC,l5,l6,h2⟩
   have hk5:aK K H4 lk (ks.map V.str):=aK.of (s5 _ _ hk)
   rw[RS h1 h2]at zm
   refine⟨_,O,_,O,lk,_,_,.str kd,O,O,hk5,hat,O,_,O,aS (λ(p3:aZ kd ("end":Str)=true)=>?_) (λ(p3:¬aZ kd ("end":Str)=true)=>?_)⟩
   ·rw[aal p3]at zm
    refine⟨_,O,.inl ⟨O,_,aK.of d1⟩,_,O,lt,es,_,O,O,d1,aav (show es.length<=2000 by omega) 'b',?_⟩
    have s6:aD H (upd H4 lt (.lst (es++[.ref rr]))):=aG hlt s5
    have e1:(upd H4 lt (.lst (es++[.ref rr]))) lt=some (.lst (es++[.ref rr])):=aj
    have g2:(upd H4 lt (.lst (es++[.ref rr]))) rr=some (.lst ((Ew++[c2]).map V.str)):=by rw[aB nr,d2,aaI];rfl
    have nl:V.ref lt∉es++[V.ref rr]:=λe=>by
     rcases aaH.mp e with e|e
     ·exact n1 e
     ·exact nr (V.ref.inj (aan.mp e)).symm
    have UM:iE H (upd H4 lt (.lst (es++[.ref rr]))) (es++[.ref rr]) (rows++[Ew++[c2]]):=iE.app (iE.but n1 WC) (.cons ⟨rr,rfl,EK,g2⟩ .nil)
    have nd6:(es++[V.ref rr]).Nodup:=abl.mpr ⟨nd,by simp,λx hx y hy e=>n2 (by rw[aan.mp hy]at e;exact e▸hx)⟩
    generalize upd H4 lt (.lst (es++[.ref rr]))=H5 at s6 e1 UM g2⊢
    refine⟨(by show 1<=sizeLine;decide),λr2 hr2=>?_⟩
    have sn:=aq (o:=HO.lst [.str ("":Str)]) hr2
    refine⟨s6.trans sn,r2,_,[],("":Str),_,O,s6.free hr2,λq=>?_,sn _ _ e1,aj,by rw[aaJ];show es.length+1<=_;omega,aaZ _,by rw[Ca];omega,nl,λq=>?_,nd6,_,iE.mono sn UM,zm⟩
    ·rw[q,e1]at hr2;cases hr2
    ·obtain⟨_,ys,hys⟩:=UM.has q
     rw[hys]at hr2;cases hr2
   ·rw[aah p3]at zm
    exact⟨s5,rr,es,Ew,c2,_,O,EK,nr,d1,d2,by omega,l5,l6,n1,n2,nd,rows,WC,zm⟩
  ·rintro σ H2 ⟨s3,rr,es,rs,c,v,rfl,EK,nr,b1,b2,l1,l2,l3,n1,n2,nd,rows,rw',hg⟩
   refine⟨_,O,k _ H2 ⟨lt,es,O,hlt,b1,n1,nd,?_⟩ s3⟩
   have e:((ks.map V.str).length:Int).toNat=min z.cps.toList.length ks.length:=by
    have vY:z.cps.toList.length=z.length:=by rw[aaE];rfl
    rw[Int.toNat_natCast,WA,vY];omega
   rw[e,ve]at hg
   have:Cc z ks=rows:=by unfold Cc;rw[hg]
   rw[this]
   exact rw'
inductive sR(K:W.Frag)(vs:List V)(H:Hp)(Q:VK)(E_:XK):Prop where
 |mk (t:Addr) (n:Int) (x:fW):(vs=[.ref t,.int n])->(H t=some (.tup (jf x)))->(xY x)->(∀t2 (y:fW) H',xY y->H' t2=some (.tup (jf y))->aD H H'->Q (.ref t2) H')->sR K vs H Q E_
theorem Bg:zzz T dW 1 39 ["_law_told_here","_law_x"] (sR K):=by
 refine T.vA.ok lJ 'e' 'a'
 ·obtain⟨t,n,x,rfl,_⟩:=h;rfl
 ·have hu:=aY hr
  obtain⟨t,n,x,rfl,ht,g,k⟩:=h
  refine⟨_,(ah (di 2 lJ.nd (aI bI (pv 1) ao))
   (ah (di 3 lJ.nd (LC (iR K rfl) T.jW (af (pv 0) ai)))
   (ah (aH (bX m9 (pv 2) ao) (ak (dU (Ej (fN K (pv 3) (pv 2)) (Fv BK ao)) (kT (pv 3) (pv 2) set_list))) ay)
   (ah (aH (PW.pt (cL (bX aP (pv 2) ao) (cy (bX aP (fN K (pv 3) ao) au)))) (ak (dU (ym (fN K (pv 3) ao)) (kT (pv 3) ao set_list))) ay)
   (ah (aH (PW.pt (cL (bX aP (pv 2) ao) (cy (bX aP (aI dz (fN K (pv 3) ao) (fN K (pv 3) ao)) au)))) (ak (dU (ym (fN K (pv 3) ao)) (kT (pv 3) ao set_list))) ay)
   (ah (aH (PW.pt (cL (bX sj (pv 2) ao) (cy (bX m9 (pv 2) ao)))) (ak (dU (ym (fN K (pv 3) (aI uM (pv 2) ao))) (kT (pv 3) (aI uM (pv 2) ao) set_list))) ay)
   (ah (aH (bX aP (pv 2) ao) (ak (dU (gM Gk (fN K (pv 3) ao) uE (fL ao)) (kT (pv 3) ao set_list))) ay)
   (ah (aH (bX aP (pv 2) ao) (ak (dU (gM Gk (fN K (pv 3) ao) uE (fL ao)) (kT (pv 3) ao set_list))) ay)
   (ak (az (LC (uU K rfl) T.vC (af (pv 3) ai)))))))))))),?_⟩
  refine⟨_,O,_,_,O,O,(by show(0:Int)<12;decide),?_⟩
  have w0:=aaY n (show(12:Int)≠0 by decide)
  have w1:=aaV n (show(0:Int)<12 by decide)
  dsimp only[bU]
  generalize n % 12=w at w0 w1⊢
  refine⟨_,O,t,_,O,.inr (bH.of ht),λl hl=>?_⟩
  have s1:=aq (o:=HO.lst (jf x)) hl
  have h1:(upd H l (.lst (jf x))) l=some (.lst (jf x)):=aj
  generalize upd H l (.lst (jf x))=H1 at s1 h1⊢
  dsimp only[bU]
  refine dR (t:=v9 _ _ _) 'h' ?_ (λgo=>?_)
  rotate_left
  ·refine⟨_,O,_,_,O,O,_,O,aS (λh4=>?_) (λ_=>go _ _ ⟨s1,O,x,g,h1⟩)⟩
   have h4:w<3:=aa0 h4
   have r1:=yO x.1;have r2:=yO x.2.1;have r3:=yO x.2.2.1
   have a1:=g.p1;have a2:=g.p3;have a3:=g.q2;have a4:=g.f2
   rcases(by omega:w=0\/w=1\/w=2) with rfl|rfl|rfl
   ·exact⟨_,O,_,O,l,_,_,_,O,O,aK.of h1,O,_,O,_,O,O,aaz a2 'b',_,O,_,O,l,_,_,0,O,O,h1,O,go _ _ ⟨aG hl s1,O,(pG x.1,x.2),⟨Cb g.gp,g.gq,g.gf,by show 1<=(pG x.1).length;omega,by show(pG x.1).length<=3;omega,a3,a4⟩,aj⟩⟩
   ·exact⟨_,O,_,O,l,_,_,_,O,O,aK.of h1,O,_,O,_,O,O,aaz a3 'b',_,O,_,O,l,_,_,1,O,O,h1,O,go _ _ ⟨aG hl s1,O,(x.1,pG x.2.1,x.2.2),⟨g.gp,Cb g.gq,g.gf,a1,a2,by show(pG x.2.1).length<=2;omega,a4⟩,aj⟩⟩
   ·exact⟨_,O,_,O,l,_,_,_,O,O,aK.of h1,O,_,O,_,O,O,aaz a4 'b',_,O,_,O,l,_,_,2,O,O,h1,O,go _ _ ⟨aG hl s1,O,(x.1,x.2.1,pG x.2.2.1,x.2.2.2),⟨g.gp,g.gq,Cb g.gf,a1,a2,a3,by show(pG x.2.2.1).length<=2;omega⟩,aj⟩⟩
  rintro σ' H2 ⟨s2,rfl,x2,g2,h2⟩
  refine dR (t:=v9 _ _ _) 'h' ?_ (λgo=>?_)
  rotate_left
  ·have go2:=λy (gy:xY y)=>go _ _ ⟨aG (o:=HO.lst (jf y)) hl s2,rfl,y,gy,aj⟩
   have Ku:=go _ _ ⟨s2,rfl,x2,g2,h2⟩
   by_cases h4:w=3
   ·refine⟨_,O,O,_,O,Qf h4 (⟨_,O,_,_,_,_,O,O,aK.of h2,O,O,_,O,N1 (λ_=>?_) (λ_=>Ku)⟩)⟩
    exact⟨_,O,_,_,_,_,O,O,aK.of h2,O,_,O,_,O,_,_,_,_,O,O,h2,O,go2 (x2.1,x2.2.1,x2.2.2.1,⟨!x2.2.2.2.a,x2.2.2.2.b,x2.2.2.2.c,x2.2.2.2.d⟩) g2⟩
   ·exact⟨_,O,O,_,O,ID h4 (bW Ku)⟩
  rintro σ' H3 ⟨s3,rfl,x3,g3,h3⟩
  refine dR (t:=v9 _ _ _) 'h' ?_ (λgo=>?_)
  rotate_left
  ·have go2:=λy (gy:xY y)=>go _ _ ⟨aG (o:=HO.lst (jf y)) hl s3,rfl,y,gy,aj⟩
   have Ku:=go _ _ ⟨s3,rfl,x3,g3,h3⟩
   have d3:=g3.q2;have d4:=g3.f2
   by_cases h4:w=4
   ·refine⟨_,O,O,_,O,Qf h4 (⟨_,O,_,_,_,_,O,O,aK.of h3,O,_,O,_,_,_,_,O,O,aK.of h3,O,_,_,O,O,aaz (show x3.2.1.length+x3.2.2.1.length<=100 by omega) 'b',O,_,O,N1 (λ_=>?_) (λ_=>Ku)⟩)⟩
    exact⟨_,O,_,_,_,_,O,O,aK.of h3,O,_,O,_,O,_,_,_,_,O,O,h3,O,go2 (x3.1,x3.2.1,x3.2.2.1,⟨x3.2.2.2.a,!x3.2.2.2.b,x3.2.2.2.c,x3.2.2.2.d⟩) g3⟩
   ·exact⟨_,O,O,_,O,ID h4 (bW Ku)⟩
  rintro σ' H4 ⟨s4,rfl,x4,g4,h4⟩
  refine dR (t:=v9 _ _ _) 'h' ?_ (λgo=>?_)
  rotate_left
  ·have go2:=λy (gy:xY y)=>go _ _ ⟨aG (o:=HO.lst (jf y)) hl s4,rfl,y,gy,aj⟩
   have Ku:=go _ _ ⟨s4,rfl,x4,g4,h4⟩
   by_cases h5:4<w
   ·by_cases h6:w<9
    ·rcases(by omega:w=5\/w=6\/w=7\/w=8) with rfl|rfl|rfl|rfl
     ·exact⟨_,O,_,_,O,O,_,O,Ao 'g' (⟨_,O,_,_,O,O,_,O,Ao 'g' (⟨_,O,_,O,_,_,O,O,_,_,_,_,O,O,aK.of h4,O,_,O,_,O,_,O,_,_,O,O,_,_,_,_,O,O,h4,O,go2 (x4.1,x4.2.1,x4.2.2.1,⟨!x4.2.2.2.a,x4.2.2.2.b,x4.2.2.2.c,x4.2.2.2.d⟩) g4⟩)⟩)⟩
     ·exact⟨_,O,_,_,O,O,_,O,Ao 'g' (⟨_,O,_,_,O,O,_,O,Ao 'g' (⟨_,O,_,O,_,_,O,O,_,_,_,_,O,O,aK.of h4,O,_,O,_,O,_,O,_,_,O,O,_,_,_,_,O,O,h4,O,go2 (x4.1,x4.2.1,x4.2.2.1,⟨x4.2.2.2.a,!x4.2.2.2.b,x4.2.2.2.c,x4.2.2.2.d⟩) g4⟩)⟩)⟩
     ·exact⟨_,O,_,_,O,O,_,O,Ao 'g' (⟨_,O,_,_,O,O,_,O,Ao 'g' (⟨_,O,_,O,_,_,O,O,_,_,_,_,O,O,aK.of h4,O,_,O,_,O,_,O,_,_,O,O,_,_,_,_,O,O,h4,O,go2 (x4.1,x4.2.1,x4.2.2.1,⟨x4.2.2.2.a,x4.2.2.2.b,!x4.2.2.2.c,x4.2.2.2.d⟩) g4⟩)⟩)⟩
     ·exact⟨_,O,_,_,O,O,_,O,Ao 'g' (⟨_,O,_,_,O,O,_,O,Ao 'g' (⟨_,O,_,O,_,_,O,O,_,_,_,_,O,O,aK.of h4,O,_,O,_,O,_,O,_,_,O,O,_,_,_,_,O,O,h4,O,go2 (x4.1,x4.2.1,x4.2.2.1,⟨x4.2.2.2.a,x4.2.2.2.b,x4.2.2.2.c,!x4.2.2.2.d⟩) g4⟩)⟩)⟩
    ·exact⟨_,O,_,_,O,O,_,O,Ao h5 (⟨_,O,_,_,O,O,_,O,tH h6 Ku⟩)⟩
   ·exact⟨_,O,_,_,O,O,_,O,tH h5 (bW Ku)⟩
  rintro σ' H5 ⟨s5,rfl,x5,g5,h5⟩
  have d1:=g5.p1;have d2:=g5.p3;have d3:=g5.q2;have d4:=g5.f2
  refine dR (t:=v9 _ _ _) 'h' ?_ (λgo=>?_)
  rotate_left
  ·refine⟨_,O,O,_,O,aS (λ_=>?_) (λ_=>go _ _ ⟨s5,O,x5,g5,h5⟩)⟩
   have c1:=u9 (z:=x5.2.1) (n:=1) 'b'
   exact⟨_,O,l,_,_,_,O,O,aK.of h5,O,_,O,_,O,aaz d3 'b',_,O,l,_,_,2,O,O,h5,O,go _ _ ⟨aG hl s5,O,(x5.1,x5.2.1,Txt.slice x5.2.1 none (some 1),x5.2.2.2),⟨g5.gp,g5.gq,AA g5.gq,d1,d2,d3,by show(Txt.slice x5.2.1 none (some 1)).length<=2;omega⟩,aj⟩⟩
  rintro σ' H6 ⟨s6,rfl,x6,g6,h6⟩
  have d1:=g6.p1;have d2:=g6.p3;have d3:=g6.q2;have d4:=g6.f2
  refine dR (t:=v9 _ _ _) 'h' ?_ (λgo=>?_)
  rotate_left
  ·refine⟨_,O,O,_,O,aS (λ_=>?_) (λ_=>go _ _ ⟨s6,O,x6,g6,h6⟩)⟩
   have c1:=u9 (z:=x6.2.1) (n:=1) 'b'
   exact⟨_,O,l,_,_,_,O,O,aK.of h6,O,_,O,_,O,aaz d3 'b',_,O,l,_,_,1,O,O,h6,O,go _ _ ⟨aG hl s6,O,(x6.1,Txt.slice x6.2.1 none (some 1),x6.2.2),⟨g6.gp,AA g6.gq,g6.gf,d1,d2,by show(Txt.slice x6.2.1 none (some 1)).length<=2;omega,d4⟩,aj⟩⟩
  rintro σ' H7 ⟨s7,rfl,x7,g7,h7⟩
  exact⟨_,O,l,_,O,.inl ⟨aK.of h7,λt2 Jz=>k t2 x7 _ g7 aj (s7.trans (aq Jz))⟩⟩
inductive nS(K:W.Frag)(vs:List V)(H:Hp)(Q:VK)(E_:XK):Prop where
 |mk (a:Addr) (ns:List Int) (m:Int):(vs=[.ref a,.int m])->(aK K H a (ns.map V.int))->(ns.length<=100)->(0<=m)->(m<=100)->(∀(l:Addr)(xs:List V)(cs:List fW) H',H l=none->H' l=some (.lst xs)->ko H' xs cs->(∀x∈cs,xY x)->(cs.length:Int)=m->aD H H'->Q (.ref l) H')->nS K vs H Q E_
theorem xh:zzz T dW 4 40 ["_law_cells","_law_many"] (nS K):=by
 have dN:=kH T
 have j4:=nQ T
 have Cv:=Bg T
 have Bh:=zu T
 refine T.pX.ok eo 'e' 'a'
 ·obtain⟨a,ns,m,rfl,_⟩:=h;rfl
 ·have hu:=aY hr
  have fu:=hr.aO
  obtain⟨a,ns,m,rfl,hS,hns,m0,m1,k⟩:=h
  refine⟨_,(ah (di 2 eo.nd (bJ ai))
   (ah (dm aaX rfl (dO rfl T.dM (af (pv 1) ai)) (d8 3 eo.nd)
   (ah (di 4 eo.nd (aI cP (eU dN hr T.fh T.dH.kp T.ff (af (pv 0) (af (aI bI (pv 3) (gA (DY rfl) T.zh (af ao (af (gA (aL K rfl) T.bF (af (pv 0) ai)) ai)))) ai))) (aI gK ao (pv 3))))
   (ah (di 5 eo.nd (eU j4 hr T.pV T.jQ.kp T.pU (af (pv 4) (af ao ai))))
   (ak (aH (PW.pt (fU (bX (yF K rfl fu) (pv 2) (bJ ai)) (gJ (bX aP (aI bI (fN K (pv 5) ao) ao) ao)))) (ak (bK (cI K rfl aaK aaM aaN bu (pv 2) (af (eU Bh hr T.AU T.sC.kp T.AS (af (aI cJ (pv 4) ao) ai)) ai)))) (ak (bK (cI K rfl aaK aaM aaN bu (pv 2) (af (eU Cv hr T.Cn T.vA.kp T.Cm (af (fN K (pv 2) (aI bI (fN K (pv 5) ao) (gA (aL K rfl) T.bF (af (pv 2) ai)))) (af (aI cJ (fN K (pv 5) ao) ao) ai))) ai)))))))))
   (ak (az (pv 2))))),?_⟩
  refine⟨by decide,λl hl=>?_⟩
  have s1:=aq (o:=HO.lst []) hl
  refine⟨_,O,_,O,by omega,by omega,?_⟩
  refine fE (λi σ H2=>aD H H2/\∃(xs:List V)(cs:List fW)(v1 v2 v3:Option V),σ=[some (.ref a),some (.int m),some (.ref l),v1,v2,v3]/\H2 l=some (.lst xs)/\ko H2 xs cs/\(∀x∈cs,xY x)/\cs.length=i/\V.ref l∉xs) ⟨s1,[],[],_,_,_,rfl,aj,.nil,(λx q=>nomatch q),rfl,by simp⟩ ?_ ?_
  ·rintro i σ H2 hi ⟨s2,xs,cs,v1,v2,v3,rfl,h2,tp,gd,hc,hn⟩
   have hi:(i:Int)<m:=by omega
   have WD:=s2.seq hS
   refine⟨_,O,_,O,_,O,a,_,O,.inl WD,_,_,O,_,_,O,O,?_,?_⟩
   ·show(0:Int)<(if ((ns.map V.int).length:Int)>1 then ((ns.map V.int).length:Int) else 1)
    split<;>omega
   refine⟨a,ns,_,O,WD,aaY _ ?_,λc=>?_⟩
   ·show(if ((ns.map V.int).length:Int)>1 then ((ns.map V.int).length:Int) else 1)≠0
    split<;>omega
   refine⟨_,O,_,_,O,O,.inl ⟨by decide,by decide⟩,_,_,O,O,?_⟩
   refine⟨_,O,_,_,O,by decide,by decide,λlx ds H3 hdl hd0 hlx h3 s3=>?_⟩
   have hdl:ds.length=2:=hdl
   obtain⟨e1,e2,rfl⟩:∃e1 e2,ds=[e1,e2]:=by
    cases ds with
    |nil=>cases hdl
    |cons a l=>cases l with
     |nil=>cases hdl
     |cons b l=>cases l with
      |nil=>exact⟨a,b,rfl⟩
      |cons c l=>simp at hdl
   have h23:=s3 _ _ h2
   have Ms:=ko.mono s3 tp
   have OP:=Ms.length
   have O8:=s2.trans s3
   have room:xs.length<sizeLine:=aav (show xs.length<=100 by omega) 'b'
   have fin:∀(tt:Addr)(x:fW)(H4:Hp),aD H3 H4->H4 tt=some (.tup (jf x))->xY x->∃l' xs' y,V.ref l=.ref l'/\[V.ref tt]=[y]/\H4 l'=some (.lst xs')/\xs'.length<sizeLine/\(aD H (upd H4 l' (.lst (xs'++[y])))/\∃(xs:List V)(cs:List fW)(v1 v2 v3:Option V),[some (.ref a),some (.int m),some (.ref l),some (.int (0+(i:Int))),some (.int (c+97*(0+(i:Int)))),some (.ref lx)]=[some (.ref a),some (.int m),some (.ref l),v1,v2,v3]/\(upd H4 l' (.lst (xs'++[y]))) l=some (.lst xs)/\ko (upd H4 l' (.lst (xs'++[y]))) xs cs/\(∀x∈cs,xY x)/\cs.length=i+1/\V.ref l∉xs):=by
    intro tt x H4 s4 ht gx
    have HN:=s4 _ _ h23
    have WE:tt≠l:=λq=>by rw[q,HN]at ht;cases ht
    refine⟨l,xs,.ref tt,O,O,HN,room,aG hl (O8.trans s4),xs++[.ref tt],cs++[x],_,_,_,O,aj,?_,?_,?_,?_⟩
    ·refine bA (vd hn (ko.mono s4 Ms)) (.cons ⟨tt,rfl,(aB WE).trans ht⟩ .nil)
    ·intro z hz
     rcases aaH.mp hz with q|q
     ·exact gd z q
     ·rw[aan.mp q];exact gx
    ·rw[aaJ];show cs.length+1=_;omega
    ·intro q
     rcases aaH.mp q with q|q
     ·exact hn q
     ·exact WE (V.ref.inj (aan.mp q)).symm
   refine⟨_,O,by decide,λe he=>?_⟩
   have s4:=aq (o:=HO.lst []) he
   have HN:=s4 _ _ h23
   have Qo:=s4 _ _ h3
   have M4:=ko.mono s4 Ms
   refine⟨l,e,xs,O,O,aK.of HN,aK.of aj,?_⟩
   generalize upd H3 e (.lst [])=H4 at s4 HN Qo M4⊢
   refine⟨_,O,aS (λ_=>kL ?_) (λhne=>?_)⟩
   ·exact⟨_,O,.inl ⟨O,_,aK.of HN⟩,_,O,_,_,O,O,⟨by decide,by decide⟩,_,O,λt p q f b1 b2 b3 b4 H5 g ht h5 s5=>fin t (p,q,f,⟨b1,b2,b3,b4⟩) H5 (s4.trans s5) h5 g⟩
   refine⟨_,O,lx,_,_,_,O,O,aK.of Qo,O,_,_,O,O,(by show(0:Int)<4;decide),O,_,O,aS (λ_=>?_) (λ_=>?_)⟩
   ·exact⟨_,O,.inl ⟨O,_,aK.of HN⟩,_,O,_,_,O,O,⟨by decide,by decide⟩,_,O,λt p q f b1 b2 b3 b4 H5 g ht h5 s5=>fin t (p,q,f,⟨b1,b2,b3,b4⟩) H5 (s4.trans s5) h5 g⟩
   ·have pos:(0:Int)<xs.length:=by
     cases xs with
     |nil=>exact absurd rfl hne
     |cons x xs=>rw[aaR];omega
    have j0:=aaY e2 (show(xs.length:Int)≠0 by omega)
    have j1:=aaV e2 pos
    obtain⟨j,ej⟩:=Int.eq_ofNat_of_zero_le j0
    have hjl:j<xs.length:=by omega
    obtain⟨x,hx,tt,ett,Ql⟩:=aE M4 j _ (aau hjl)
    have hat:iB xs (e2 % (xs.length:Int))=some (.ref tt):=by
     rw[ej]
     exact bL (by rw[aau hjl,ett])
    exact⟨_,O,.inl ⟨O,_,aK.of HN⟩,_,O,_,O,lx,_,_,_,O,O,aK.of Qo,O,_,O,l,_,O,.inl (aK.of HN),_,_,O,O,pos,l,_,_,.ref tt,O,O,aK.of HN,hat,_,O,lx,_,_,_,O,O,aK.of Qo,O,_,_,O,O,⟨by decide,by decide⟩,tt,_,x,O,Ql,gd x (aar hx),λt2 y H5 gy h5 s5=>fin t2 y H5 (s4.trans s5) h5 gy⟩
  ·rintro σ H2 ⟨s2,xs,cs,v1,v2,v3,rfl,h2,tp,gd,hc,hn⟩
   exact⟨_,O,k l xs cs H2 hl h2 tp gd 'c' s2⟩
inductive mw(K:W.Frag)(vs:List V)(H:Hp)(Q:VK)(E_:XK):Prop where
 |mk (t:Addr) (z:Str) (x:fW):(vs=[.ref t,.str z])->(H t=some (.tup (jf x)))->(z.length<=2000)->(∀v H',mV H H' v (zV (runC x z) z)->aD H H'->Q v H')->mw K vs H Q E_
theorem vM:zzz T dW 4 41 ["_law_told_here","_law_text_here"] (mw K):=by
 have zy:=xg T
 have xj:=vL T
 refine T.nF.ok g8 'e' 'a'
 ·obtain⟨t,z,x,rfl,_⟩:=h;rfl
 ·have hu:=aY hr
  obtain⟨t,z,x,rfl,ht,hz,k⟩:=h
  refine⟨_,(ah (dU (eU xj hr T.wN T.nE.kp T.wM (af (pv 0) (af (pv 1) ai))) (fM K rfl 2 rfl (aQ (d8 2 g8.nd) (aQ (d8 3 g8.nd) fK))))
   (ah (aH (bX ki (pv 3) au) (ak (az cD)) ay)
   (ak (az (eU zy hr T.zd T.pW.kp T.zc (af (pv 1) (af (pv 2) ai))))))),?_⟩
  have hrl:=Dy (p:=x.1) (q:=x.2.1) (f:=x.2.2.1) (b1:=x.2.2.2.a) (b2:=x.2.2.2.b) (b3:=x.2.2.2.c) (b4:=x.2.2.2.d) (cs:=z.cps.toList) (w:=("row":Str)) (u:=("":Str))
  have vY:z.cps.toList.length=z.length:=by rw[aaE];rfl
  refine⟨_,O,_,O,t,z,x.1,x.2.1,x.2.2.1,x.2.2.2.a,x.2.2.2.b,x.2.2.2.c,x.2.2.2.d,O,ht,by omega,λtw lk H1 htw Fc hk s1=>?_⟩
  refine⟨tw,_,O,bH.of htw,O,_,_,O,_,_,O,O,?_⟩
  unfold zV at k
  refine⟨_,O,O,_,O,N2 (λc=>?_) (λc=>?_)⟩
  ·have e:¬wu (runC x z)=("":Str):=c
   rw[aah e]at k
   exact k .non H1 rfl s1
  have e:wu (runC x z)=("":Str):=c
  rw[aal e]at k
  dsimp only[Fl]
  refine⟨_,O,_,O,z,lk,_,O,hk,hz,by rw[←vY];exact hrl,λv H2 tv s2=>?_⟩
  obtain⟨l,es,rfl,a,b,_,_,r⟩:=tv.ok
  refine k _ H2 ⟨l,es,rfl,s1.free a,b,iE.old s1 r⟩ (s1.trans s2)
inductive nU(K:W.Frag)(vs:List V)(H:Hp)(Q:VK)(E_:XK):Prop where
 |mk (la lp:Addr) (i:Nat) (iG:List V) (cs:List fW) (zs:List Str) (A:Hp) (ps:List Nat):(vs=[.ref la,.int (i:Int),.ref lp])->(H la=some (.lst iG))->(oK A H zs iG cs)->(cs.length<=100)->(zs.length<=100)->(i<zs.length)->(H lp=some (.lst (ps.map nV)))->((∀p∈ps,p<cs.length))->(ps.length<=100)->(∀l es H',H l=none->H' l=some (.lst es)->aV H H' es (aA ((iF cs zs).getD i []) ps)->aD H H'->Q (.ref l) H')->nU K vs H Q E_
theorem nW:zzz T dW 1 42 ["_law_answers","_law_at","_law_places"] (nU K):=by
 refine T.jR.ok fP 'e' 'a'
 ·obtain⟨la,lp,i,iG,cs,zs,A,ps,rfl,_⟩:=h;rfl
 ·have hu:=aY hr
  have fu:=hr.aO
  obtain⟨la,lp,Kv,iG,cs,zs,A,ps,rfl,hla,DK,hcl,M1,hat,wX,hlt,hpl,k⟩:=h
  have t9:=hr.units
  obtain⟨z5,Pd⟩:∃z,zs[Kv]?=some z:=⟨_,aau hat⟩
  have hal:=DK.length
  obtain⟨r,hrr⟩:∃r,r=(iF cs zs).getD Kv []:=⟨_,rfl⟩
  rw[←hrr]at k
  refine⟨_,(ah (di 3 fP.nd (bJ ai))
   (ah (dm aaX rfl (bq K rfl (pv 2)) (d8 4 fP.nd)
   (ah (pB (i:=5) rfl fP.nd rfl rfl (show aR ["_law_answers","_law_at","_law_places","_law_parts_here","_law_place","_law_same"] (av gC) ["_law_part","_law_at","_law_answers","_law_place"] 1 [1,0,4] _ from yM) (bq K rfl (pv 3)) (λ_ _ _ _=>(d8 0 (show(["_law_part","_law_at","_law_answers","_law_place"]:List Str).Nodup by decide +kernel))) (λ_ _ _ _=>(yD (bX (Lz K rfl t9) (fN K (fN K (pv 2) (fN K (pv 0) ao)) (pv 1)) (fN K (fN K (pv 2) (pv 3)) (pv 1))))) (λ_ _ _ _=>(pv 0)))
   (ak (aH (bX (yF K rfl fu) (pv 5) (bJ ai)) (ak (bK (cI K rfl aaK aaM aaN bu (pv 3) (af (bJ (af (pv 4) ai)) ai)))) (ak (bK (cI K rfl aaK aaM aaN bu (fN K (pv 5) ao) (af (pv 4) ai))))))))
   (ak (az (pv 3))))),?_⟩
  refine⟨by decide,λl hl=>?_⟩
  have s1:=aq (o:=HO.lst []) hl
  refine⟨_,O,lp,O,⟨_,aK.of (s1 _ _ wX)⟩,?_⟩
  refine kW (K:=K) (a:=lp) (xs:=ps.map nV) (λi σ J=>aD H J/\∃es v1 v2,σ=[some (.ref la),some (.int (Kv:Int)),some (.ref lp),some (.ref l),v1,v2]/\J l=some (.lst es)/\V.ref l∉es/\es.Nodup/\aV H J es (aA r (ps.take i))/\(aA r (ps.take i)).length<=i) ⟨s1,[],_,_,rfl,aj,by simp,abF,.nil,aao _⟩ (λi σ J _ q=>aK.of (q.1 _ _ wX)) ?_ ?_
  ·rintro i e σ J hi ⟨sJ,es,v1,v2,rfl,hJ,hn,nd,pa,pl⟩
   obtain⟨p,hp,rfl⟩:=uG hi
   have Mi:=aar hp
   have hp1:=hlt p Mi
   have hil:i<ps.length:=(aam.mp hp).1
   have good:=eG (r:=r) (ps:=ps.take i)
   have SQ:=vg (r:=r) hp
   have OQ:∀q∈aA r (ps.take i),q.headD 0<cs.length:=λq hq=>by
    obtain⟨h1,h2⟩:=good q hq
    cases q with
    |nil=>exact absurd rfl h1
    |cons x q=>exact hlt x (abt (h2 x (aat ..)))
   have hne:∀q∈aA r (ps.take i),q≠[]:=λq hq=>(good q hq).1
   have Hy:=pa.length
   have OR:∀q∈aA r (ps.take i),q.length<=i:=λq hq=>by
    have:=mO hq;rw[aaL]at this;omega
   rw[SQ]
   generalize aA r (ps.take i)=qs at pa pl OQ hne Hy OR
   obtain⟨w2,Em⟩:∃w2,iG[p]?=some w2:=⟨_,aau 'c'⟩
   obtain⟨x2,Gz,a2,WG,rfl,Qi,WH⟩:=aE DK _ _ Em
   obtain⟨v2',Pe⟩:∃v2',WG[Kv]?=some v2':=⟨_,aau (by have:=WH.length;omega)⟩
   obtain⟨z',hz',r2⟩:=aE WH _ _ Pe
   rw[Pd]at hz';cases hz'
   have SR:iB iG (p:Int)=some (.ref a2):=bL Em
   have atw:iB WG ((Kv:Nat):Int)=some v2':=bL Pe
   refine⟨_,O,l,O,⟨_,aK.of hJ⟩,λD hD=>?_⟩
   refine bB (K:=K) (a:=l) (xs:=es) (λj ys τ G=>(∃v,τ=[v,some (.int (Kv:Int)),some (.ref la),some (nV p)])/\aD J G/\G D=some (.lst ys)/\ys=oH r p ((es.zip qs).take j)) ⟨⟨_,rfl⟩,aq hD,aj,rfl⟩ (λj ys τ G _ q=>⟨aK.of (q.2.1 _ _ hJ),q.2.2.1⟩) ?_ ?_
   ·rintro j e ys τ G hj ⟨⟨v,rfl⟩,sG,hG,rfl⟩
    obtain⟨q,hq,a,rfl,ha0,ha⟩:=aE pa j e hj
    have DO:=aar hq
    have SS:=sG _ _ ha
    have hqn:=hne q DO
    have Wu:=OQ q DO
    have Mj:iB (q.map nV) 0=some (nV (q.headD 0)):=by
     cases q with
     |nil=>exact absurd rfl hqn
     |cons x q=>exact(show iB _ ((0:Nat):Int)=_ from bL rfl)
    have SW:(es.zip qs)[j]?=some (.ref a,q):=by rw[List.getElem?_zip_eq_some];exact⟨hj,hq⟩
    have Y9:=DF (r:=r) (p:=p) (Z:=(es.zip qs).take j)
    have vY:((es.zip qs).take j).length<=100:=by rw[aaL,List.length_zip];omega
    rw[AE SW]
    obtain⟨w1,hw1⟩:∃w1,iG[q.headD 0]?=some w1:=⟨_,aau 'c'⟩
    obtain⟨x1,UN,a1,es1,rfl,MV,WI⟩:=aE DK _ _ hw1
    obtain⟨v1',Pf⟩:∃v1',es1[Kv]?=some v1':=⟨_,aau (by have:=WI.length;omega)⟩
    obtain⟨z',hz',r1⟩:=aE WI _ _ Pf
    rw[Pd]at hz';cases hz'
    have DQ:=sJ.trans sG
    have SV:iB iG ((q.headD 0:Nat):Int)=some (.ref a1):=bL hw1
    have atv:iB es1 ((Kv:Nat):Int)=some v1':=bL Pf
    have UO:=DQ _ _ MV
    have UP:=DQ _ _ Qi
    have JA:=DQ _ _ hla
    have top:=LM (K:=K) (mV.mono DQ r1) (mV.mono DQ r2)
    have key:=Hh Pd UN Gz
    rw[←hrr]at key
    refine⟨_,O,_,O,_,_,_,_,O,O,aK.of SS,Mj,la,_,_,_,O,O,aK.of JA,SV,_,O,_,_,_,_,O,O,aK.of UO,atv,_,O,_,O,la,_,_,_,O,O,aK.of JA,SR,_,O,_,_,_,_,O,O,aK.of UP,atw,_,top,_,O,JZ (λc=>?_) (λc=>?_)⟩
    ·have c:r.getD (q.headD 0) 0=r.getD p 0:=key.mpr c
     rw[aal c]
     refine⟨_,O,hG,aav (show _<=200 by omega) 'b',⟨_,O⟩,aG hD sG,aj,O⟩
    ·have c:¬r.getD (q.headD 0) 0=r.getD p 0:=λe=>c (key.mp e)
     rw[aah c]
     exact⟨⟨_,O⟩,sG,hG,O⟩
   rintro ys τ G ⟨⟨v,rfl⟩,sG,hG,rfl⟩
   have hel:es.length=qs.length:=Hy
   rw[aaD (by rw[List.length_zip];omega)]at hG
   have Ml:=sG _ _ hJ
   have lD:l≠D:=λq=>by rw[q]at hJ;rw[hD]at hJ;cases hJ
   rcases rj (r:=r) (p:=p) hel with ⟨e1,e2⟩|⟨e,ws,j,q,e1,e2,e3,e4⟩
   ·rw[e1]at hG
    rw[e2]
    dsimp only[bU]
    refine⟨_,O,'b',λq0 sQ=>⟨_,_,_,O,O,aK.of (aq sQ _ _ hG),aK.of aj,_,O,kL (⟨_,O,.inl ⟨O,⟨_,aK.of (aq sQ _ _ Ml)⟩⟩,_,O,(by show(1:Nat)<=sizeLine;decide),?_⟩)⟩⟩
    (have u1:=aq (o:=HO.lst []) sQ;have g1:=aj (H:=G) (a:=q0) (o:=HO.lst []);generalize upd G q0 (HO.lst [])=G1 at u1 g1⊢)
    have Hz:=u1 _ _ Ml
    have DP:=sJ.trans (sG.trans u1)
    have OS:=aV.mono (sG.trans u1) pa
    intro n hn0
    have OU:n≠l:=λq=>by rw[q,Hz]at hn0;cases hn0
    have s2:=aq (o:=HO.lst [nV p]) hn0
    have Qj:V.ref n∉es:=λq=>by
     obtain⟨j,hj⟩:=abD.mp q
     obtain⟨_,_,a,e,_,ha⟩:=aE OS j _ hj
     cases e;rw[ha]at hn0;cases hn0
    refine⟨_,_,_,O,O,s2 _ _ Hz,aav (show es.length<=200 by omega) 'b',aG hl (DP.trans s2),es++[.ref n],_,_,O,aj,?_,?_,?_,?_⟩
    ·intro q
     rcases aaH.mp q with q|q
     ·exact hn q
     ·exact OU (V.ref.inj (aan.mp q)).symm
    ·exact abl.mpr ⟨nd,by simp,λx hx y hy e=>Qj (by rw[aan.mp hy]at e;exact e▸hx)⟩
    ·exact bA (aV.but hn (aV.mono s2 OS)) (.cons ⟨n,rfl,DP.free hn0,(aB OU).trans aj⟩ .nil)
    ·rw[aaJ];show qs.length+1<=i+1;omega
   ·rw[e1]at hG
    rw[e4]
    obtain⟨q',hq',a,rfl,ha0,ha⟩:=aE pa j e e2
    rw[e3]at hq';cases hq'
    dsimp only[bU]
    have Za:=OR q (aar e3)
    refine⟨_,O,'b',λq0 sQ=>⟨_,_,_,O,O,aK.of (aq sQ _ _ hG),aK.of aj,_,O,bW (⟨_,O,_,_,_,_,O,O,aK.of (aq sQ _ _ hG),(show iB _ ((0:Nat):Int)=_ from bL rfl),.inl ⟨O,⟨_,aK.of (aq sQ _ _ (sG _ _ ha))⟩⟩,_,O,_,_,_,O,O,(aq sQ _ _ (sG _ _ ha)),?_,(aG ha0 (aG ((sJ.trans sG).free sQ) (sJ.trans sG))),?_⟩)⟩⟩
    ·rw[aaj];exact aav (show q.length<=100 by omega) 'b'
    have sn:=aq (o:=HO.lst []) sQ
    have Mm:=sG.trans sn
    have el:q++[p]=q++[p]:=rfl
    have al:l≠a:=λq=>hn (by rw[q];exact aar e2)
    refine⟨es,_,_,O,(aB al).trans (sn _ _ Ml),hn,nd,?_,by rw[List.length_set];omega⟩
    rw[show q.map nV++[nV p]=(q++[p]).map nV by rw[aaI];rfl]
    exact aV.LJ (aV.mono Mm pa) nd e2
  ·rintro σ J ⟨sJ,es,v1,v2,rfl,hJ,hn,nd,pa,pl⟩
   rw[aaD (by rw[aaj];exact aao _)]at pa
   exact⟨_,O,k l es J hl hJ pa sJ⟩
inductive ql(K:W.Frag)(vs:List V)(H:Hp)(Q:VK)(E_:XK):Prop where
 |mk (l:Addr) (xs:List V) (cs:List fW):(vs=[.ref l])->(H l=some (.lst xs))->(ko H xs cs)->((∀x∈cs,xY x))->(cs.length<=101)->(∀z:Str,dZ z->1<=z.length->z.length<=1000->Q (.str z) H)->ql K vs H Q E_
theorem zA:zzz T dW 1 43 ["_law_tolds_here"] (ql K):=by
 refine T.sI.ok e7 'e' 'a'
 ·obtain⟨l,xs,cs,rfl,_⟩:=h;rfl
 ·have hu:=aY hr
  obtain⟨l,xs,cs,rfl,hl,tp,gd,hc,k⟩:=h
  have OP:=tp.length
  refine⟨_,(ah (di 1 e7.nd au)
   (ah (dm aaX rfl (bq K rfl (pv 0)) (d8 2 e7.nd)
   (ak (dm aaX rfl (yE (aI dz (aI dz (jt K (pv 2) ao) (jt K (pv 2) ao)) (jt K (pv 2) ao))) (d8 3 e7.nd)
   (ak (aH (bX m9 (cI K rfl PySem.F.plainAttrs_str PySem.F.slot_str_count PySem.F.type_str_count Ak (pv 1) (af (pv 3) ai)) ao) (ak (di 1 e7.nd (aI dz (pv 1) (pv 3)))) ay)))))
   (ak (az (pv 1))))),?_⟩
  refine⟨_,O,l,O,⟨_,aK.of hl⟩,?_⟩
  have m0:dZ (Str.ofString "\n\nab \n"):=(by decide +kernel:∀c∈(Str.ofString "\n\nab \n").cps.toList,c=10\/Pn c)
  have m1:(Str.ofString "\n\nab \n").length=6:=by decide +kernel
  refine kW (K:=K) (a:=l) (xs:=xs) (λi σ H2=>H2=H/\∃(z:Str)(v1 v2:Option V),σ=[some (.ref l),some (.str z),v1,v2]/\dZ z/\1<=z.length/\z.length<=6+7*i) ⟨rfl,_,_,_,rfl,m0,by omega,by omega⟩ (λi σ H2 _ q=>by rw[q.1];exact aK.of hl) ?_ ?_
  ·rintro i e σ H2 hi ⟨rfl,z,v1,v2,rfl,z1,z2,z3⟩
   obtain⟨x,hx,t,rfl,ht⟩:=aE tp i e hi
   have hil:i<xs.length:=(aam.mp hi).1
   have g:=gd x (aar hx)
   have hp3:=g.p3;have hq2:=g.q2;have hf2:=g.f2
   have hS:bH K H2 t (jf x):=bH.of ht
   have sl1:=jI x.1 x.2.1
   have sl2:=jI (x.1++x.2.1) x.2.2.1
   refine⟨_,O,t,_,_,_,O,O,hS,O,_,O,t,_,_,_,O,O,hS,O,_,_,O,O,aaz (show x.1.length+x.2.1.length<=5 by omega) 'b',_,O,t,_,_,_,O,O,hS,O,_,_,O,O,aaz (show(x.1++x.2.1).length+x.2.2.1.length<=7 by omega) 'b',_,O,?_⟩
   have szl:((x.1++x.2.1)++x.2.2.1).cps.toList.length<=7:=by
    rw[aaE];show((x.1++x.2.1)++x.2.2.1).length<=7;omega
   refine Dh (z:=(x.1++x.2.1)++x.2.2.1) (λj σ H3=>H3=H2/\∃(z:Str)(v2:Option V),σ=[some (.ref l),some (.str z),some (.ref t),v2]/\dZ z/\1<=z.length/\z.length<=6+7*i+j) ⟨rfl,z,_,rfl,z1,z2,by omega⟩ ?_ ?_
   ·rintro j c σ H3 hj ⟨rfl,y,v3,rfl,y1,y2,y3⟩
    have hjl:=(aam.mp hj).1
    have hc:c=10\/Pn c:=by
     have hm:=aar hj
     rw[app_list,app_list]at hm
     rcases aaH.mp hm with hm|hm
     ·rcases aaH.mp hm with hm|hm
      ·exact .inr (g.gp.pr c hm)
      ·exact .inr (g.gq.pr c hm)
     ·exact .inr (g.gf.pr c hm)
    refine⟨_,O,O,_,O,_,_,O,O,_,_,O,O,_,O,aS (λ_=>?_) (λ_=>⟨O,y,_,O,y1,y2,by omega⟩)⟩
    have al:=jI y (sg c)
    have c1:(sg c).length=1:=rfl
    refine⟨_,O,_,O,_,_,O,O,aaz (show y.length+(sg c).length<=1000 by omega) 'b',O,y++sg c,_,O,?_,by omega,by omega⟩
    intro d hd
    rw[app_list]at hd
    rcases aaH.mp hd with q|q
    ·exact y1 d q
    ·rw[aan.mp (show d∈[c]from q)];exact hc
   ·rintro σ H3 ⟨rfl,y,v3,rfl,y1,y2,y3⟩
    exact⟨O,y,_,_,O,y1,y2,by omega⟩
  ·rintro σ H2 ⟨rfl,z,v1,v2,rfl,z1,z2,z3⟩
   exact⟨_,O,k z z1 z2 'c'⟩
inductive qm(K:W.Frag)(vs:List V)(H:Hp)(Q:VK)(E_:XK):Prop where
 |mk (c m:Int) (l:Addr) (xs:List V) (cs:List fW):(vs=[.int c,.ref l,.int m])->(H l=some (.lst xs))->(ko H xs cs)->((∀x∈cs,xY x))->(cs.length<=101)->(0<=m)->(m<=100)->(∀(z:Str) H',dZ z->(z.length:Int)<=m+1->aD H H'->Q (.str z) H')->qm K vs H Q E_
theorem zB:zzz T dW 3 44 ["_law_cell","_law_tolds_here","_law_most"] (qm K):=by
 have j4:=nQ T
 have Bj:=zA T
 refine T.sL.ok e9 'e' 'a'
 ·obtain⟨c,m,l,xs,cs,rfl,_⟩:=h;rfl
 ·have hu:=aY hr
  obtain⟨c,m,l,xs,cs,rfl,hl,tp,gd,hc,m0,m1,k⟩:=h
  refine⟨_,(ah (di 3 e9.nd (eU j4 hr T.pV T.jQ.kp T.pU (af (pv 0) (af (aI cP (pv 2) ao) ai))))
   (ah (di 4 e9.nd (eU Bj hr T.A6 T.sI.kp T.AZ (af (pv 1) ai)))
   (ah (di 5 e9.nd (cI K rfl PySem.F.plainAttrs_str PySem.F.slot_str_join PySem.F.type_str_join (Gf K rfl) au (af (cT rfl (show aR ["_law_cell","_law_tolds_here","_law_most","_law_xs","_law_menu_here","_law_text_here"] (av iD) ["_law_x","_law_menu_here"] 1 [4] _ from yM) (bq K rfl (gM (kY K rfl) (pv 3) (fL ao) (fL (aI cP ao (aI bI (fN K (pv 3) ao) (aI cP (pv 2) ao)))))) (λ_ _ _ _=>(d8 0 (show(["_law_x","_law_menu_here"]:List Str).Nodup by decide +kernel))) (λ_ _ _ _=>cB) (λ_ _ _ _=>(xO yr (pv 1) (aI bI (pv 0) (gA cQ T.bF (af (pv 1) ai))) (λ_ _=>rfl)))) ai)))
   (ah (aH (bX sj (aI bI (fN K (pv 3) ao) ao) ao) (ak (di 5 e9.nd (aI dz (pv 5) au))) ay)
   (ak (az (pv 5))))))),?_⟩
  refine⟨_,O,_,O,_,_,O,O,_,_,O,by omega,by omega,λlx ds H1 hdl hd0 hlx h1 s1=>?_⟩
  refine⟨_,O,l,xs,cs,O,s1 _ _ hl,ko.mono s1 tp,gd,hc,λmz y1 y2 y3=>?_⟩
  have hdl:ds.length=(m+2).toNat:=hdl
  obtain⟨e0,e1,ds',rfl⟩:∃e0 e1 ds',ds=e0::e1::ds':=by
   cases ds with
   |nil=>simp at hdl;omega
   |cons a l=>cases l with
    |nil=>simp at hdl;omega
    |cons b l=>exact⟨a,b,l,rfl⟩
  have Mj:iB ((e0::e1::ds').map V.int) 0=some (.int e0):=(show iB _ ((0:Nat):Int)=_ from bL rfl)
  have Kw:iB ((e0::e1::ds').map V.int) 1=some (.int e1):=(show iB _ ((1:Nat):Int)=_ from bL rfl)
  have hml:mz.length<=sizeLine:=aaz y3 'b'
  refine⟨O,_,O,_,O,_,O,lx,_,_,_,O,O,aK.of h1,Mj,_,O,_,_,O,O,_,_,O,O,(by show 0<m+1;omega),_,_,O,O,_,O,lx,_,O,aK.of h1,λp hp=>?_⟩
  generalize WJ:oz ((e0::e1::ds').map V.int) (some 2) _=cv at hp⊢
  have hcl:(cv.length:Int)<=m:=by
   rw[←WJ]
   have q:=Ez (xs:=(e0::e1::ds').map V.int) (hi:=some (2+e0 % (m+1))) (by rw[aaj,aaR,aaR];omega)
   rw[aaj,hdl]at q
   omega
  have hci:∀v∈cv,∃n:Int,v=.int n:=λv hv=>by
   rw[←WJ]at hv
   obtain⟨n,_,rfl⟩:=aaQ.mp (List.mem_of_mem_drop (abt hv))
   exact⟨n,O⟩
  have s2:=aq (o:=HO.lst cv) hp
  have h2:(upd H1 p (.lst cv)) p=some (.lst cv):=aj
  have h12:=s2 _ _ h1
  have s12:=s1.trans s2
  generalize upd H1 p (.lst cv)=H2 at s2 h2 h12 s12⊢
  refine⟨p,O,⟨_,aK.of h2⟩,λD hD=>?_⟩
  refine bB (K:=K) (a:=p) (xs:=cv) (λi ys τ H3=>(∃v,τ=[v,some (.str mz)])/\aD H2 H3/\H3 D=some (.lst ys)/\∃zs:List Str,ys=zs.map V.str/\zs.length=i/\∀z∈zs,dZ z/\z.length<=1) ⟨⟨_,rfl⟩,aq hD,aj,[],rfl,rfl,λz q=>nomatch q⟩ (λi ys τ H3 _ q=>⟨aK.of (q.2.1 _ _ h2),q.2.2.1⟩) ?_ ?_
  ·rintro i e ys τ H3 hi ⟨⟨v,rfl⟩,s3,Pg,zs,rfl,vY,hzs⟩
   have hil:i<cv.length:=(aam.mp hi).1
   obtain⟨n,rfl⟩:=hci e (aar hi)
   have hlen:mz.cps.toList.length=mz.length:=by rw[aaE];rfl
   obtain⟨d,ed,hd⟩:=B9 (xs:=mz.cps.toList) (aaY n (show(mz.length:Int)≠0 by omega)) (by rw[hlen];exact aaV n 'c')
   refine kM ?_
   refine⟨_,O,_,O,_,O,mz,O,hml,_,_,O,O,(by show(0:Int)<(mz.length:Int);omega),mz,_,d,O,O,hml,ed,Pg,?_,⟨_,O⟩,aG hD s3,aj,zs++[sg d],?_,?_,?_⟩
   ·rw[aaj];exact aav (show zs.length<=102 by omega) 'b'
   ·rw[aaI];rfl
   ·rw[aaJ,vY];rfl
   ·intro z hz
    rcases aaH.mp hz with q|q
    ·exact hzs z q
    ·rw[aan.mp q]
     exact⟨λb hb=>by rw[aan.mp (show b∈[d]from hb)];exact y1 d hd,aao _⟩
  rintro ys τ H3 ⟨⟨v,rfl⟩,s3,Pg,zs,rfl,vY,hzs⟩
  have sl:=IQ (zs:=zs) (m:=1) λz hz=>(hzs z hz).2
  have fl:=LH (zs:=zs) (m:=1) λz hz=>(hzs z hz).2
  have jl:=join_list zs
  have jn:((Txt.join ("":Str) zs).length:Int)<=m:=by
   have:=congrArg List.length jl
   rw[aaE]at this
   have:(Txt.join ("":Str) zs).length=_:=this
   omega
  have jo:dZ (Txt.join ("":Str) zs):=λb hb=>by
   rw[jl]at hb
   obtain⟨z,hz,hb⟩:=List.mem_flatMap.mp hb
   exact(hzs z hz).1 b hb
  refine⟨_,D,zs,O,O,aK.of Pg,by omega,?_⟩
  have h13:=s3 _ _ h12
  have HA:=s12.trans s3
  refine⟨_,O,lx,_,_,_,O,O,aK.of h13,Kw,_,_,O,O,(by show(0:Int)<3;decide),_,_,O,O,_,O,aS (λ_=>?_) (λ_=>⟨_,O,k _ H3 jo 'c' HA⟩)⟩
  have nl1:(Str.ofString "\n").length=1:=by decide +kernel
  have al:=jI (Txt.join ("":Str) zs) (Str.ofString "\n")
  refine⟨_,O,_,_,O,O,aaz (show(Txt.join ("":Str) zs).length+(Str.ofString "\n").length<=200 by omega) 'b',_,O,k _ H3 (λb hb=>?_) 'c' HA⟩
  rw[app_list]at hb
  rcases aaH.mp hb with q|q
  ·exact jo b q
  ·rw[Yn]at q;exact .inl (aan.mp q)
inductive fR(K:W.Frag)(D:Nat)(vs:List V)(H:Hp)(Q:VK)(E_:XK):Prop where
 |mk (la lp:Addr) (iG:List V) (cs:List fW) (zs:List Str) (A:Hp) (ps:List Nat):(vs=[.ref la,.int (zs.length:Int),.ref lp])->(H la=some (.lst iG))->(oK A H zs iG cs)->(cs.length<=100)->(zs.length<=100)->(H lp=some (.lst (ps.map nV)))->((∀p∈ps,p<cs.length))->(ps.length<=100)->(ps.length<D)->(∀n H',LN (iF cs zs) ps n->aD H H'->Q (.int (n:Nat)) H')->fR K D vs H Q E_
theorem rO:∀d:Nat,aW P w K mg base dW (1+1*d) (aF 45) (aN 45) ["_law_answers","_law_many","_law_places"] (fR K d):=by
 intro d
 induction d with
 |zero=>exact⟨λvs H Q E h=>by exfalso;obtain⟨la,lp,iG,cs,zs,A,ps,rfl,_,_,_,_,_,_,_,hd,_⟩:=h;omega,λA outer s H args us vs Q E _ _ _ _ h=>by exfalso;obtain⟨la,lp,iG,cs,zs,A,ps,rfl,_,_,_,_,_,_,_,hd,_⟩:=h;omega⟩
 |succ d ih =>
  have j5:=ih
  show aW P w K mg base dW (1+1*d+1) (aF 45) (aN 45) ["_law_answers","_law_many","_law_places"] (fR K (d+1))
  have j6:=nW T
  refine T.jS.ok c9 'e' 'a'
  ·obtain⟨la,lp,iG,cs,zs,A,ps,rfl,_⟩:=h;rfl
  ·have Jx:=hr
   have hr:cM 1 _:=hr.mono 'c'
   obtain⟨la,lp,iG,cs,zs,A,ps,rfl,hla,DK,hcl,M1,wX,hlt,hpl,hd,k⟩:=h
   have OX:(iF cs zs).length=zs.length:=aaj _
   refine⟨_,(ah (di 3 c9.nd cD)
   (ah (dm aaX rfl (dO rfl T.dM (af (pv 1) ai)) (d8 4 c9.nd)
   (ah (di 5 c9.nd (eU j6 hr T.pZ T.jR.kp T.pY (af (pv 0) (af (pv 4) (af (pv 2) ai)))))
   (ak (aH (bX sj (gA (aL K rfl) T.bF (af (pv 5) ai)) ao) (ah (di 6 c9.nd (aI cP ao (gA (qT K rfl rfl) T.zh (af (cT rfl (show aR ["_law_answers","_law_many","_law_places","_law_least_here","_law_at","_law_parts_here","_law_deep"] (av gD) ["_law_part","_law_answers","_law_many"] 1 [0,1] _ from yM) (bq K rfl (pv 5)) (λ_ _ _ _=>(d8 0 (show(["_law_part","_law_answers","_law_many"]:List Str).Nodup by decide +kernel))) (λ_ _ _ _=>cB) (λ_ _ _ _=>(eU j5 Jx T.p8 T.jS.kp T.p7 (af (pv 1) (af (pv 2) (af (pv 0) ai))) (hkk:=aao _)))) ai))))
   (ak (aH (PW.pt (fU (bX uN (pv 3) cD) (gJ (bX m9 (pv 6) (pv 3))))) (ak (di 3 c9.nd (pv 6))) ay))) ay))))
   (ah (aH (bX uN (pv 3) cD) (ak (az ao)) ay)
   (ak (az (pv 3)))))),?_⟩
   refine⟨_,O,_,O,'c','c',?_⟩
   refine fE (λi σ J=>aD H J/\∃o v4 v5 v6,DH (iF cs zs) ps ((iF cs zs).take i) o/\σ=[some (.ref la),some (.int (zs.length:Int)),some (.ref lp),some (oV o),v4,v5,v6]) ⟨aD.refl _,none,_,_,_,(λr h=>nomatch h),rfl⟩ ?_ ?_
   ·rintro i σ J hi ⟨sJ,o,v4,v5,v6,hb,rfl⟩
    have hi:i<zs.length:=by simpa using hi
    obtain⟨z5,Pd⟩:∃z,zs[i]?=some z:=⟨_,aau hi⟩
    have Kp:=Kl (cs:=cs) Pd
    refine⟨_,O,_,O,_,O,la,lp,i,iG,cs,zs,A,ps,by rw[Int.zero_add];rfl,sJ _ _ hla,oK.mono sJ DK,hcl,M1,hi,sJ _ _ wX,hlt,hpl,λl es J2 Fc hl pa s2=>?_⟩
    have OV:=pa.length
    have good:=eG (r:=(iF cs zs).getD i []) (ps:=ps)
    have tk:=aX Kp
    have Jy:=sJ.trans s2
    dsimp only[bU]
    refine⟨_,O,l,es,O,.inl (aK.of hl),_,_,O,O,_,O,JZ (λc=>?_) (λc=>?_)⟩
    rotate_left
    ·exact⟨Jy,o,_,_,_,by rw[tk];exact DH.skip hb 'c',O⟩
    have c1:1<(aA ((iF cs zs).getD i []) ps).length:=by omega
    have Ph:∀q∈aA ((iF cs zs).getD i []) ps,q.length<ps.length:=λq hq=>AD c1 hq
    have lt:=λns pn=>DH.take (ns:=ns) hb c1 pn
    rw[←tk]at lt
    have pln:=gH (r:=(iF cs zs).getD i []) (ps:=ps)
    generalize aA ((iF cs zs).getD i []) ps=qs at pa OV good c1 Ph lt pln
    have UQ:=Jy _ _ hla
    have UR:=oK.mono Jy DK
    refine⟨_,O,_,O,⟨_,aK.of hl⟩,λD hD=>?_⟩
    refine bB (K:=K) (a:=l) (xs:=es) (λj ys τ G=>(∃v,τ=[v,some (.ref la),some (.int (zs.length:Int))])/\aD J2 G/\G D=some (.lst ys)/\∃ns:List Nat,ys=ns.map (λn:Nat=>V.int n)/\Paired (LN (iF cs zs)) (qs.take j) ns) ⟨⟨_,rfl⟩,aq hD,aj,[],rfl,.nil⟩ (λj ys τ G _ q=>⟨aK.of (q.2.1 _ _ hl),q.2.2.1⟩) ?_ ?_
    ·rintro j e ys τ G hj ⟨⟨v,rfl⟩,sG,hG,ns,rfl,pn⟩
     obtain⟨q,hq,b,rfl,_,hbv⟩:=aE pa j e hj
     have DO:=aar hq
     have q1:=Ph q DO
     have nl:=pn.length
     rw[aaL]at nl
     refine kM ?_
     refine⟨_,O,_,O,_,O,la,b,iG,cs,zs,A,q,O,sG _ _ UQ,oK.mono sG UR,hcl,M1,sG _ _ hbv,λp hp=>hlt p ((good q DO).2 p hp),by omega,by omega,λn G2 ln s3=>?_⟩
     refine⟨s3 _ _ hG,?_,⟨_,O⟩,aG hD (sG.trans s3),aj,ns++[n],by rw[aaI];rfl,?_⟩
     ·rw[aaj];exact aav (show ns.length<=100 by omega) 'b'
     ·rw[aX hq];exact bA pn (.cons ln .nil)
    rintro ys τ G ⟨⟨v,rfl⟩,sG,hG,ns,rfl,pn⟩
    rw[aaD 'c']at pn
    have nl:=pn.length
    have hb:=lt ns pn
    have DQ:=Jy.trans sG
    refine⟨D,ns,O,aK.of hG,λq=>by rw[q,List.length_nil]at nl;omega,λn hn hm=>?_⟩
    have en:=yV hn hm
    subst en
    have e5:(1:Int)+(eV ns:Nat)=((1+eV ns:Nat):Int):=by omega
    refine⟨_,_,O,O,?_⟩
    dsimp only[bU]
    rw[e5]
    cases o with
    |none =>
     refine⟨_,O,O,_,O,Ao rfl (kL ?_)⟩
     exact⟨_,O,DQ,some (1+eV ns),_,_,_,hb,O⟩
    |some b =>
     refine⟨_,rfl,rfl,_,rfl,tH (λz=>nomatch z) ?_⟩
     refine⟨_,O,_,O,_,_,O,O,_,O,JZ (λc5=>?_) (λc5=>?_)⟩
     ·have c5:1+eV ns<b:=by omega
      have hb:DH (iF cs zs) ps ((iF cs zs).take (i+1)) (some (if 1+eV ns<b then 1+eV ns else b)):=hb
      rw[aal c5]at hb
      exact⟨_,O,DQ,some (1+eV ns),_,_,_,hb,O⟩
     ·have c5:¬1+eV ns<b:=by omega
      have hb:DH (iF cs zs) ps ((iF cs zs).take (i+1)) (some (if 1+eV ns<b then 1+eV ns else b)):=hb
      rw[aah c5]at hb
      exact⟨DQ,some b,_,_,_,hb,O⟩
   rintro σ J ⟨sJ,o,v4,v5,v6,hb,rfl⟩
   rw[aaD (by rw[OX];simp)]at hb
   have ln:=hb.ln
   cases o with
   |none =>
    have k:=k 0 J ln sJ
    refine⟨_,O,O,_,O,Ao rfl ?_⟩
    exact k
   |some b =>
    have k:=k b J ln sJ
    refine⟨_,rfl,rfl,_,rfl,tH (λz=>nomatch z) ?_⟩
    exact⟨_,O,k⟩
theorem xm:zzz T dW 10 45 ["_law_answers","_law_many","_law_places"] (fR K 9):=rO T 9
inductive fS(K:W.Frag)(D:Nat)(vs:List V)(H:Hp)(Q:VK)(E_:XK):Prop where
 |mk (la lp:Addr) (iG:List V) (cs:List fW) (zs:List Str) (A:Hp) (ps:List Nat) (B:Hp) (d:Nat) (v:V) (u:PT):(vs=[.ref la,.int (zs.length:Int),v,.ref lp])->(d<D)->(H la=some (.lst iG))->(oK A H zs iG cs)->(cs.length<=100)->(zs.length<=100)->(H lp=some (.lst (ps.map nV)))->((∀p∈ps,p<cs.length))->(ps.length<=100)->(Ce B H d v u)->(aT (iF cs zs) d ps=some u)->(∀H',aD H H'->Q (.int (d7 d u:Nat)) H')->fS K D vs H Q E_
theorem rP:∀d:Nat,aW P w K mg base dW (1+1*d) (aF 46) (aN 46) ["_law_answers","_law_many","_law_tree","_law_places"] (fS K d):=by
 intro d
 induction d with
 |zero=>exact⟨λvs H Q E h=>by exfalso;obtain⟨la,lp,iG,cs,zs,A,ps,B,d,v,u,rfl,hd,_⟩:=h;omega,λA outer s H args us vs Q E _ _ _ _ h=>by exfalso;obtain⟨la,lp,iG,cs,zs,A,ps,B,d,v,u,rfl,hd,_⟩:=h;omega⟩
 |succ d ih =>
  have j7:=ih
  show aW P w K mg base dW (1+1*d+1) (aF 46) (aN 46) ["_law_answers","_law_many","_law_tree","_law_places"] (fS K (d+1))
  have j6:=nW T
  refine T.jT.ok fQ 'e' 'a'
  ·obtain⟨la,lp,iG,cs,zs,A,ps,B,d,v,u,rfl,_⟩:=h;rfl
  ·have Jx:=hr
   have hr:cM 1 _:=hr.mono 'c'
   have fu:=hr.aO
   obtain⟨la,lp,iG,cs,zs,A,ps,B,e,v,u,rfl,hd,hla,DK,hcl,M1,wX,hlt,hpl,tr,hT,k⟩:=h
   have t9:=hr.units
   have OX:(iF cs zs).length=zs.length:=aaj _
   refine'⟨_,?aa,?bb⟩
   case aa =>
    refine' ah ?s0 ?r0
    case s0 =>
     refine' aH ?c1 ?b1 ?e1
     case c1=>exact(PW.pt (fU (dh (bP (gA (bM K rfl) T.bw (af (pv 2) (af (GX "tuple" T.vC) ai))))) (fU (bX m9 (gA (aL K rfl) T.bF (af (pv 2) ai)) ao) (gJ (dh (bP (gA (bM K rfl) T.bw (af (jt K (pv 2) ao) (af (GX "str" T.Cq) ai)))))))))
     case b1 =>
      refine' ak ?s2
      case s2 =>
       exact(az cD)
     case e1 =>
      exact ay
    case r0 =>
     refine' ah ?s3 ?r3
     case s3 =>
      refine' aH ?c4 ?b4 ?e4
      case c4=>exact(bX aP (jt K (pv 2) ao) au)
      case b4 =>
       refine' ah ?s5 ?r5
       case s5 =>
        refine' aH ?c6 ?b6 ?e6
        case c6=>exact(PW.pt (fU (bX ki (gA (aL K rfl) T.bF (af (pv 2) ai)) ao) (fU (dh (bP (gA (bM K rfl) T.bw (af (jt K (pv 2) ao) (af (GX "list" T.jW) ai))))) (gJ (bX (Gj K rfl t9) (jt K (pv 2) ao) (pv 3))))))
        case b6 =>
         refine' ak ?s7
         case s7 =>
          exact(az cD)
        case e6 =>
         exact ay
       case r5 =>
        refine' ah ?s8 ?r8
        case s8 =>
         exact(di 4 fQ.nd (Es (yF K rfl fu) (cT rfl (show aR ["_law_answers","_law_many","_law_tree","_law_places","_law_alike","_law_parts_here","_law_depths"] (av dQ) ["_law_place","_law_answers","_law_places"] 1 [0,3] _ from yM) (bq K rfl (pv 3)) (λ_ _ _ _=>(d8 0 (show(["_law_place","_law_answers","_law_places"]:List Str).Nodup by decide +kernel))) (λ_ _ _ _=>(yD (bX (LA K rfl t9) (fN K (pv 1) (pv 0)) (fN K (pv 1) (fN K (pv 2) ao))))) (λ_ _ _ _=>(pv 0))) (bJ ai)))
        case r8 =>
         refine' ak ?s9
         case s9 =>
          refine' az ?v10
          case v10 =>
           refine' fN K ?o11 ?i11 ?h11 ?k11
           case h11=>exact λ_ _=>rfl
           case k11=>exact rfl
           case o11 =>
            refine' bJ ?US
            case US =>
             refine' af ?OL ?OM ?ON
             case ON=>exact rfl
             case OL =>
              exact cD
             case OM =>
              refine' af ?UJ ?UK ?UL
              case UL=>exact rfl
              case UJ =>
               exact ao
              case UK =>
               exact ai
           case i11=>exact(LC qN T.Cp (af (yl (pv 4) (yk (ym (gA (Ei K rfl rfl) T.LS (af (cT rfl (show aR ["_law_answers","_law_many","_law_tree","_law_places","_law_alike","_law_parts_here","_law_depths"] (av dQ) ["_law_place"] 1 [] _ from yM) (bq K rfl (jt K (pv 2) ao)) (λ_ _ _ _=>(d8 0 N9)) (λ_ _ _ _=>cB) (λ_ _ _ _=>(gA (bM K rfl) T.bw (af (pv 0) (af (GX "bool" T.uH) ai))))) ai))))) ai))
      case e4 =>
       exact ay
     case r3 =>
      refine' ah ?UT ?r15
      case UT =>
       refine' aH ?c16 ?UU ?e16
       case c16=>exact(PW.pt (fU (bX ki (jt K (pv 2) ao) au) (fU (bX ki (gA (aL K rfl) T.bF (af (pv 2) ai)) ao) (fU (bP (gA (bM K rfl) T.bw (af (jt K (pv 2) ao) (af (GX "bool" T.uH) ai)))) (gJ (dh (bP (gA (bM K rfl) T.bw (af (jt K (pv 2) ao) (af (GX "list" T.jW) ai))))))))))
       case UU =>
        refine' ak ?Jj
        case Jj =>
         exact(az cD)
       case e16 =>
        exact ay
      case r15 =>
       refine' ah ?s18 ?r18
       case s18 =>
        exact(di 5 fQ.nd (eU j6 hr T.pZ T.jR.kp T.pY (af (pv 0) (af (jt K (pv 2) ao) (af (pv 3) ai)))))
       case r18 =>
        refine' ah ?Jl ?r19
        case Jl =>
         refine' aH ?c20 ?UW ?e20
         case c20=>exact(bX ki (gA (aL K rfl) T.bF (af (pv 5) ai)) (gA (aL K rfl) T.bF (af (jt K (pv 2) ao) ai)))
         case UW =>
          refine' ak ?Td
          case Td =>
           exact(az cD)
         case e20 =>
          exact ay
        case r19 =>
         refine' ah ?s22 ?r22
         case s22 =>
          exact(pB (i:=6) rfl fQ.nd rfl rfl (show aR ["_law_answers","_law_many","_law_tree","_law_places","_law_alike","_law_parts_here","_law_depths"] (av dQ) ["_law_k","_law_answers","_law_many","_law_parts_here","_law_tree"] 1 [0,1,5,2] _ from yM) (dO rfl T.dM (af (gA (aL K rfl) T.bF (af (pv 5) ai)) ai)) (λ_ _ _ _=>(d8 0 (show(["_law_k","_law_answers","_law_many","_law_parts_here","_law_tree"]:List Str).Nodup by decide +kernel))) (λ_ _ _ _=>cB) (λ_ _ _ _=>(eU j7 Jx T.qa T.jT.kp T.p9 (af (pv 1) (af (pv 2) (af (fN K (jt K (pv 4) ao) (pv 0)) (af (fN K (pv 3) (pv 0)) ai)))) (hkk:=aao _))))
         case r22 =>
          refine' ah ?O8 ?r23
          case O8 =>
           refine' aH ?c24 ?UX ?e24
           case c24=>exact(cz (Lu K rfl t9) cD (pv 6) rfl)
           case UX =>
            refine' ak ?s25
            case s25 =>
             exact(az cD)
           case e24 =>
            exact ay
          case r23 =>
           refine' ak ?s26
           case s26 =>
            exact(az (aI cP ao (gA (qT K rfl rfl) T.zh (af (pv 6) ai))))
   cases u with
   |leaf qs =>
    have tr:∃t l,v=.ref t/\B t=none/\B l=none/\H t=some (.tup [.str ("leaf":Str),.ref l])/\H l=some (.lst (qs.map nV)):=by cases e<;>exact tr
    obtain⟨t,l,rfl,_,_,ht,hl⟩:=tr
    obtain⟨rfl,hal⟩:=mP hT
    have k:∀H',aD H H'->Q (.int ((0:Nat):Int)) H':=by cases e<;>exact k
    have td:TopD K H (.ref l) (.ref lp):=⟨1,l,lp,_,_,rfl,rfl,by decide,rfl,.inr ⟨aK.of hl,aK.of wX⟩,oG EB⟩
    have Kw:iB [V.str ("leaf":Str),V.ref l] 1=some (.ref l):=rfl
    refine⟨_,O,_,_,_,_,O,.tup ht,.inl ⟨_,⟨O,O⟩⟩,_,O,bW (⟨_,O,_,_,O,.inr (bH.of ht),_,_,O,O,_,O,tH (by simp) (⟨_,O,_,_,_,_,O,O,bH.of ht,O,_,_,_,_,O,.str _,.inl ⟨_,⟨O,O⟩⟩,_,O,bW (⟨_,O,_,_,_,_,O,O,bH.of ht,O,O,_,O,Ao rfl (⟨_,O,_,_,O,.inr (bH.of ht),O,_,O,NY (by simp) (⟨_,O,_,_,_,_,O,O,bH.of ht,Kw,_,_,_,_,O,.lst hl,.inl ⟨_,⟨O,O⟩⟩,_,O,bW (⟨_,O,_,_,_,_,O,O,bH.of ht,Kw,_,O,td,_,O,bW ?_⟩)⟩)⟩)⟩)⟩)⟩)⟩
    refine⟨_,O,lp,O,⟨_,aK.of wX⟩,λD hD=>?_⟩
    have key:∀p∈qs,∀q∈qs,∀(x y:fW),cs[p]?=some x->cs[q]?=some y->((List.range zs.length).all (Qk zs x y))=true:=λp hp q hq x y hx hy=>by
     rw[aaO]
     intro j hj
     have hj:=List.mem_range.mp hj
     obtain⟨z,hz⟩:∃z,zs[j]?=some z:=⟨_,aau hj⟩
     rw[Hg hz]
     have hr:=aar (Kl (cs:=cs) hz)
     have:=aa0 (aaO.mp hal _ hr)
     exact aay ((Hh hz hx hy).mp (Hl this hp hq))
    refine bB (K:=K) (a:=lp) (xs:=qs.map nV) (λj ys τ G=>(∃v,τ=[v,some (.ref la),some (.ref lp)])/\aD H G/\G D=some (.lst ys)/\ys=[]) ⟨⟨_,rfl⟩,aq hD,aj,rfl⟩ (λj ys τ G _ q=>⟨aK.of (q.2.1 _ _ wX),q.2.2.1⟩) ?_ ?_
    ·rintro j e1 ys τ G hj ⟨⟨v,rfl⟩,sG,hG,rfl⟩
     obtain⟨p,hp,rfl⟩:=uG hj
     have Mi:=aar hp
     obtain⟨p0,UY,rfl⟩:∃p0 UY,qs=p0::UY:=by
      cases qs with
      |nil=>cases Mi
      |cons a l=>exact⟨a,l,rfl⟩
     have aac:=DK.length
     have hpc:=hlt p Mi
     have aad:=hlt p0 (aat ..)
     obtain⟨w1,hw1⟩:∃w1,iG[p]?=some w1:=⟨_,aau 'c'⟩
     obtain⟨x1,UN,Pj⟩:=aE DK _ _ hw1
     obtain⟨w2,Em⟩:∃w2,iG[p0]?=some w2:=⟨_,aau 'c'⟩
     obtain⟨x2,Gz,Mt⟩:=aE DK _ _ Em
     have Kw:iB iG (p:Int)=some w1:=bL hw1
     have at2:iB iG (p0:Int)=some w2:=bL Em
     have Mj:iB ((p0::UY).map nV) 0=some (nV p0):=(show iB _ ((0:Nat):Int)=_ from bL rfl)
     have top:=IZ (K:=K) (yS.mono sG Pj) (yS.mono sG Mt)
     rw[key p Mi p0 (aat ..) x1 x2 UN Gz]at top
     exact⟨_,O,_,O,la,_,_,_,O,O,aK.of (sG _ _ hla),Kw,_,O,_,O,lp,_,_,_,O,O,aK.of (sG _ _ wX),Mj,la,_,_,_,O,O,aK.of (sG _ _ hla),at2,_,top,_,O,bW ⟨⟨_,O⟩,sG,hG,O⟩⟩
    rintro ys τ G ⟨⟨v,rfl⟩,sG,hG,rfl⟩
    have Ky:=sG _ _ ht
    have Qp:=sG _ _ hl
    refine⟨'b',λq0 sQ=>⟨_,_,_,O,O,aK.of (aq sQ _ _ hG),aK.of aj,'b',λp1 hp1=>⟨_,O,_,O,kL (⟨_,O,_,_,_,_,O,O,bH.of (aq hp1 _ _ (aq sQ _ _ Ky)),O,_,O,⟨_,aK.of (aq hp1 _ _ (aq sQ _ _ Qp))⟩,λD2 Hx=>?_⟩)⟩⟩⟩
    (have u2:=aq (o:=HO.lst []) sQ;have g2:=aj (H:=G) (a:=q0) (o:=HO.lst []);generalize upd G q0 (HO.lst [])=G2 at u2 g2 hp1 Hx⊢;have u3:=aq (o:=HO.lst [V.non,V.int 0]) hp1;have g3:=aj (H:=G2) (a:=p1) (o:=HO.lst [V.non,V.int 0]);generalize upd G2 p1 (HO.lst [V.non,V.int 0])=G3 at u3 g3 Hx⊢)
    have UZ:=u3 _ _ (u2 _ _ Qp)
    have g33:=g3
    refine bB (K:=K) (a:=l) (xs:=qs.map nV) (λj ys τ J=>(∃v,τ=[v])/\aD G3 J/\J D2=some (.lst ys)/\ys=(List.replicate j false).map V.bl) ⟨⟨_,rfl⟩,aq Hx,aj,rfl⟩ (λj ys τ J _ q=>⟨aK.of (q.2.1 _ _ UZ),q.2.2.1⟩) ?_ ?_
    ·rintro j e1 ys τ J hj ⟨⟨v,rfl⟩,sJ,hJ,rfl⟩
     obtain⟨p,hp,rfl⟩:=uG hj
     have hjl:=(aam.mp hp).1
     refine kM ?_
     refine⟨_,O,_,_,_,false,O,.int _,.inl ⟨_,O,O⟩,hJ,?_,⟨_,O⟩,aG Hx sJ,aj,?_⟩
     ·rw[aaj,abg];exact aav (show j<=100 by omega) 'b'
     ·rw[List.replicate_succ',aaI];rfl
    rintro ys τ J ⟨⟨v,rfl⟩,sJ,hJ,rfl⟩
    refine⟨D2,_,O,aK.of hJ,?_⟩
    have ea:(List.replicate (qs.map nV).length false).any id=false:=by
     rw[List.any_eq_false]
     intro x hx
     rw[(List.mem_replicate.mp hx).2];decide
    rw[ea]
    have sH:=sG.trans (u2.trans (u3.trans sJ))
    exact⟨_,O,.inr ⟨_,O,p1,_,_,_,O,O,aK.of (sJ _ _ g33),O,k J sH⟩⟩
   |ask i bs =>
   cases e with
   |zero=>exact tr.elim
   |succ e =>
   obtain⟨t,l,es,rfl,_,_,ht,hl,pr⟩:=tr
   obtain⟨r,hr0,h1,hm⟩:=pJ hT
   have n4:¬(V.str ("ask":Str)=V.str ("leaf":Str)):=by decide +kernel
   have Kw:iB [V.str ("ask":Str),nV i,V.ref l] 1=some (nV i):=rfl
   have at2:iB [V.str ("ask":Str),nV i,V.ref l] 2=some (.ref l):=rfl
   have hil:i<zs.length:=by rw[←OX];exact(aam.mp hr0).1
   have er:r=(iF cs zs).getD i []:=by rw[aa6,hr0];rfl
   subst er
   refine⟨_,O,_,_,_,_,O,.tup ht,.inl ⟨_,⟨O,O⟩⟩,_,O,bW (⟨_,O,_,_,O,.inr (bH.of ht),_,_,O,O,_,O,tH (by simp) (⟨_,O,_,_,_,_,O,O,bH.of ht,O,_,_,_,_,O,.str _,.inl ⟨_,⟨O,O⟩⟩,_,O,bW (⟨_,O,_,_,_,_,O,O,bH.of ht,O,O,_,O,tH n4 (⟨_,O,_,_,_,_,O,O,bH.of ht,O,O,_,O,Rq rfl (⟨_,O,_,_,O,.inr (bH.of ht),O,_,O,NY (by simp) (⟨_,O,_,_,_,_,O,O,bH.of ht,O,_,_,_,_,O,.int _,.inl ⟨_,⟨O,O⟩⟩,_,O,bW (⟨_,O,_,_,_,_,O,O,bH.of ht,O,_,_,_,_,O,.lst hl,.inl ⟨_,⟨O,O⟩⟩,_,O,bW (⟨_,O,_,O,_,_,_,_,O,O,bH.of ht,O,_,O,_,_,_,_,_,_,_,_,O,hla,DK,'c','c','c',wX,hlt,'c',λl5 Kq G1 S4 Mp Mq s5=>⟨_,O,_,_,O,.inl (aK.of Mp),_,O,_,_,_,_,O,O,bH.of (s5 _ _ ht),O,_,_,O,.inl (aK.of (s5 _ _ hl)),O,_,O,?_⟩⟩)⟩)⟩)⟩)⟩)⟩)⟩)⟩)⟩
   have OY:=pr.length
   have OV:=Mq.length
   have hml:(aA ((iF cs zs).getD i []) ps).length=bs.length:=by have:=congrArg List.length hm;simpa using this
   have Ky:=s5 _ _ ht
   have Qp:=s5 _ _ hl
   have ppl:=gH (r:=(iF cs zs).getD i []) (ps:=ps)
   have aae:Kq.length<=100:=by omega
   refine NY 'c' ?_
   refine⟨_,O,_,_,O,.inl (aK.of Mp),_,O,'c','c',λD hD=>?_⟩
   have good:=eG (r:=(iF cs zs).getD i []) (ps:=ps)
   have OW:∀q∈aA ((iF cs zs).getD i []) ps,q.length<=ps.length:=λq hq=>mO hq
   generalize aA ((iF cs zs).getD i []) ps=qs at Mq OV h1 hm hml ppl good OW
   have JA:=s5 _ _ hla
   have U0:=oK.mono s5 DK
   refine uT (λj ys τ J=>(∃v,τ=[v,some (.ref la),some (.int (zs.length:Int)),some (.ref l5),some (.ref t)])/\aD G1 J/\J D=some (.lst ys)/\ys=((bs.take j).map (d7 e)).map λn:Nat=>V.int n) ⟨⟨_,rfl⟩,aq hD,aj,rfl⟩ (λj ys τ J _ q=>q.2.2.1) ?_ ?_
   ·rintro j ys τ J hj ⟨⟨v,rfl⟩,sJ,hJ,rfl⟩
    have hj:j<Kq.length:=by simpa using hj
    obtain⟨b,U1⟩:∃b,bs[j]?=some b:=⟨_,aau 'c'⟩
    obtain⟨q,U3⟩:∃q,qs[j]?=some q:=⟨_,aau 'c'⟩
    obtain⟨w1,hw1⟩:∃w1,es[j]?=some w1:=⟨_,aau 'c'⟩
    obtain⟨w2,Em⟩:∃w2,Kq[j]?=some w2:=⟨_,aau 'c'⟩
    obtain⟨b',hb',tb⟩:=aE pr j w1 hw1
    rw[U1]at hb';cases hb'
    obtain⟨q',hq',c5,rfl,_,hc5⟩:=aE Mq j w2 Em
    rw[U3]at hq';cases hq'
    have hTq:aT (iF cs zs) e q=some b:=by
     have h4:=congrArg (λl=>l[j]?) hm
     simp only[aaT,U3,U1,aa4]at h4
     exact aaA h4
    have DO:=aar U3
    have q1:=OW q DO
    have aj1:iB es (0+(j:Int))=some w1:=by rw[Int.zero_add];exact bL hw1
    have aj2:iB Kq (0+(j:Int))=some (.ref c5):=by rw[Int.zero_add];exact bL Em
    refine kM ?_
    have Pk:=sJ _ _ Ky
    have Qq:=sJ _ _ Qp
    have U4:=sJ _ _ Mp
    refine⟨_,O,_,O,_,O,_,_,_,_,O,O,bH.of Pk,at2,_,O,l,_,_,_,O,O,aK.of Qq,aj1,_,O,_,O,l5,_,_,_,O,O,aK.of U4,aj2,la,c5,iG,cs,zs,A,q,B,e,w1,b,O,by omega,sJ _ _ JA,oK.mono sJ U0,hcl,M1,sJ _ _ hc5,λp hp=>hlt p ((good q DO).2 p hp),by omega,Ce.mono (s5.trans sJ) tb,hTq,λJ2 s6=>?_⟩
    refine⟨s6 _ _ hJ,?_,⟨_,O⟩,aG hD (sJ.trans s6),aj,?_⟩
    ·rw[aaj,aaj,aaL];exact aav (show min j bs.length<=100 by omega) 'b'
    ·rw[aX U1,aaI,aaI];rfl
   rintro ys τ J ⟨⟨v,rfl⟩,sJ,hJ,rfl⟩
   rw[aaD (show bs.length<=(Kq.length:Int).toNat by rw[Int.toNat_natCast];omega)]at hJ
   dsimp only[bU]
   refine⟨_,O,D,_,λ_=>false,O,aK.of hJ,λz hz=>?_,_,O,?_⟩
   ·obtain⟨n,_,rfl⟩:=aaQ.mp hz
    exact .cmp (n:=0) 'b' (.flat rfl rfl)
   rw[show(((bs.map (d7 e)).map λn:Nat=>V.int n).any λ_=>false)=false by rw[List.any_eq_false];intro _ _;decide]
   refine bW ?_
   refine⟨_,O,D,bs.map (d7 e),O,aK.of hJ,λq=>?_,λn hn hm=>?_⟩
   ·have:=congrArg List.length q;rw[aaj,List.length_nil]at this;omega
   have en:=yV hn hm
   subst en
   have k:∀H',aD H H'->Q (.int ((1+eV (bs.map (d7 e)):Nat):Int)) H':=k
   rw[Int.natCast_add]at k
   exact⟨_,_,O,O,k J (s5.trans sJ)⟩
theorem xo:zzz T dW 10 46 ["_law_answers","_law_many","_law_tree","_law_places"] (fS K 9):=rP T 9
inductive fT(K:W.Frag)(D:Nat)(vs:List V)(H:Hp)(Q:VK)(E_:XK):Prop where
 |mk (d:Nat) (v:V) (u:PT) (kO:List Addr):(vs=[v])->(d<D)->(wz H d v u kO)->(kO.Nodup)->(RV d u)->(∀H',(∀b o,b∉kO->H b=some o->H' b=some o)->Q .non H')->fT K D vs H Q E_
theorem rQ:∀d:Nat,aW P w K mg base dW (0+1*d) (aF 47) (aN 47) ["_law_tree"] (fT K d):=by
 intro d
 induction d with
 |zero=>exact⟨λvs H Q E h=>by exfalso;obtain⟨d,v,u,kO,rfl,hd,_⟩:=h;omega,λA outer s H args us vs Q E _ _ _ _ h=>by exfalso;obtain⟨d,v,u,kO,rfl,hd,_⟩:=h;omega⟩
 |succ d ih =>
  have j8:=ih
  show aW P w K mg base dW (0+1*d+1) (aF 47) (aN 47) ["_law_tree"] (fT K (d+1))
  refine T.jU.ok nj 'e' 'a'
  ·obtain⟨d,v,u,kO,rfl,_⟩:=h;rfl
  ·have Jx:=hr
   have hr:cM 0 _:=hr.mono 'c'
   obtain⟨e,v,u,kO,rfl,hd,tr,nd,sz,k⟩:=h
   refine⟨_,(ak (aH (bX aP (jt K (pv 0) ao) au) (ak (bK (cI K rfl aaK aaM aaN bu (jt K (pv 0) ao) (af ao ai)))) (ah (dm aaX rfl (bq K rfl (jt K (pv 0) ao)) (d8 1 nj.nd)
   (ak (bK (eU j8 Jx T.qc T.jU.kp T.qb (af (pv 1) ai) (hkk:=aao _)))))
   (ak (bK (cI K rfl aaK aaM aaN bu (jt K (pv 0) ao) (af (aC (af au (af (bJ ai) ai))) ai))))))),?_⟩
   cases u with
   |leaf ps =>
    have tr:∃t l,v=.ref t/\kO=[t,l]/\H t=some (.tup [.str ("leaf":Str),.ref l])/\H l=some (.lst (ps.map nV)):=by cases e<;>exact tr
    obtain⟨t,l,rfl,rfl,ht,hl⟩:=tr
    have sz:ps.length<=100:=by cases e<;>exact sz
    have Kw:iB [V.str ("leaf":Str),V.ref l] 1=some (.ref l):=rfl
    refine⟨_,O,_,_,_,_,O,O,bH.of ht,O,O,_,O,Ao rfl (⟨_,O,_,_,_,_,O,O,bH.of ht,O,.inl ⟨O,⟨_,aK.of hl⟩⟩,_,_,_,O,O,hl,?_,k _ ?_⟩)⟩
    ·rw[aaj];exact aav sz 'b'
    intro b o hb h
    exact(aB (λq=>hb (by rw[q];simp))).trans h
   |ask i bs =>
   cases e with
   |zero=>exact tr.elim
   |succ e =>
   obtain⟨t,l,es,xs,rfl,rfl,ht,hl,rfl,pr⟩:=tr
   have n4:¬(V.str ("ask":Str)=V.str ("leaf":Str)):=by decide +kernel
   have at2:iB [V.str ("ask":Str),nV i,V.ref l] 2=some (.ref l):=rfl
   obtain⟨z1,z2⟩:=sz
   have OY:=pr.length
   rw[aa8,aa8]at nd
   obtain⟨nt,nl,nd⟩:=nd
   refine⟨_,O,_,_,_,_,O,O,bH.of ht,O,O,_,O,tH n4 (⟨_,O,_,_,_,_,O,O,bH.of ht,O,_,O,⟨_,aK.of hl⟩,?_⟩)⟩
   refine kW (K:=K) (a:=l) (xs:=es) (λj σ J=>(∀b o,b∉((xs.take j).map Prod.snd).flatten->H b=some o->J b=some o)/\∃v,σ=[some (.ref t),v]) ⟨λb o _ h=>h,_,rfl⟩ (λj σ J _ q=>aK.of (q.1 _ _ (λz=>nl (Ho z)) hl)) ?_ ?_
   ·rintro j e1 σ J hj ⟨kp,v,rfl⟩
    obtain⟨x,hx,tx⟩:=aE pr j e1 hj
    have hxm:=aar hx
    have hjl:=(aam.mp hx).1
    have WK:=DJ nd hx
    dsimp only[bU]
    refine⟨_,O,e,e1,x.1,x.2,O,by omega,wz.keep (λb o hb h=>kp b o (λz=>WK.2 b z hb) h) tx,WK.1,z2 _ (aaQ.mpr ⟨x,hxm,O⟩),λJ2 k2=>⟨λb o hb h=>?_,_,O⟩⟩
    rw[aX hx,aaI,abJ]at hb
    have h1:b∉((xs.take j).map Prod.snd).flatten:=λq=>hb (abj _ q)
    have h2:b∉x.2:=λq=>hb (aaP _ (by simpa using q))
    exact k2 b o h2 (kp b o h1 h)
   rintro σ J ⟨kp,v,rfl⟩
   rw[OY,aaD (aao _)]at kp
   have Pk:=kp _ _ (λz=>nt (aaq _ z)) ht
   have Qq:=kp _ _ nl hl
   refine⟨_,O,_,_,_,_,O,O,bH.of Pk,O,.inl ⟨O,⟨_,aK.of Qq⟩⟩,'b',λq1 hq1=>⟨(by show(2:Nat)<=sizeLine;decide),λq2 hq2=>⟨_,_,_,O,O,(aq hq2 _ _ (aq hq1 _ _ Qq)),?_,k _ ?_⟩⟩⟩
   ·rw[OY];rw[aaj]at z1;exact aav z1 'b'
   intro b o hb h
   have h1:=kp b o (λz=>hb (aaq _ (aaq _ z))) h
   exact(aB (λq=>hb (by rw[q];simp))).trans (aq hq2 _ _ (aq hq1 _ _ h1))
theorem xq:zzz T dW 9 47 ["_law_tree"] (fT K 9):=rQ T 9
inductive vN(K:W.Frag)(vs:List V)(H:Hp)(Q:VK)(E_:XK):Prop where
 |mk (a:Addr) (ns:List Int):(vs=[.ref a])->(aK K H a (ns.map V.int))->(ns.length<=63)->(∀H',Q (.bl true) H')->vN K vs H Q E_
theorem Mu:zzz T dW 12 48 ["_law_script"] (vN K):=by
 have ie:=kF T
 have xr:=vM T
 have dN:=kH T
 have j7:=xo T
 have j5:=xm T
 have j8:=xq T
 have Bk:=zB T
 have zC:=xh T
 have j3:=Bd T
 have jY:=nI T
 have EM:=Cu T
 refine T.Og.ok i8 'e' 'a'
 ·obtain⟨a,ns,rfl,_⟩:=h;rfl
 ·have hu:=aY hr
  obtain⟨a,ns,rfl,hS,hlen,k⟩:=h
  have t9:=hr.units
  refine'⟨_,?aa,?bb⟩
  case aa =>
   refine' ah ?s0 ?r0
   case s0 =>
    exact(di 1 i8.nd (eU zC hr T.zf T.pX.kp T.ze (af (gM (kY K rfl) (pv 0) (fL ao) (fL ao)) (af (aI bI (eU dN hr T.fh T.dH.kp T.ff (af (pv 0) (af ao ai))) ao) ai))))
   case r0 =>
    refine' ah ?s1 ?r1
    case s1 =>
     exact(di 2 i8.nd (cT rfl (show aR ["_law_script","_law_tolds_here","_law_texts","_law_lent","_law_answers","_law_places","_law_due","_law_turn","_law_tree"] (av kj) ["_law_cell","_law_tolds_here"] 1 [1] _ from yM) (bq K rfl (gM (kY K rfl) (pv 0) (fL ao) (fL (aI cP ao (aI bI (aI cJ (eU dN hr T.fh T.dH.kp T.ff (af (pv 0) (af ao ai))) ao) ao))))) (λ_ _ _ _=>(d8 0 (show(["_law_cell","_law_tolds_here"]:List Str).Nodup by decide +kernel))) (λ_ _ _ _=>cB) (λ_ _ _ _=>(eU Bk hr T.Ba T.sL.kp T.A9 (af (pv 0) (af (pv 1) (af ao ai)))))))
    case r1 =>
     refine' ah ?s2 ?r2
     case s2 =>
      refine' di 3 i8.nd ?v3
      case v3 =>
       refine' bJ ?a4
       case a4 =>
        refine' af ?x5 ?y5 ?z5
        case z5=>exact rfl
        case x5 =>
         exact(cT rfl (show aR ["_law_script","_law_tolds_here","_law_texts","_law_lent","_law_answers","_law_places","_law_due","_law_turn","_law_tree"] (av kj) ["_law_told_here"] 1 [] _ from yM) (bq K rfl (pv 1)) (λ_ _ _ _=>(d8 0 N9)) (λ_ _ _ _=>cB) (λ_ _ _ _=>(eU jY hr T.pM T.jN.kp T.pL (af (pv 0) ai))))
        case y5 =>
         refine' af ?x6 ?y6 ?z6
         case z6=>exact rfl
         case x6 =>
          exact(LC (iR K rfl) T.jW (af (pv 2) ai))
         case y6 =>
          exact ai
     case r2 =>
      refine' ah ?s7 ?r7
      case s7 =>
       refine' aH ?c8 ?b8 ?e8
       case c8=>exact(PW.pt (cL (bX aP (aI bI (aI cJ (eU dN hr T.fh T.dH.kp T.ff (af (pv 0) (af ao ai))) ao) ao) ao) (cy (bX m9 (gA (aL K rfl) T.bF (af (pv 1) ai)) ao))))
       case b8 =>
        refine' ah ?s9 ?r9
        case s9 =>
         exact(di 1 i8.nd (aI FT (pv 1) (gM (kY K rfl) (pv 1) uE (fL ao))))
        case r9 =>
         refine' ak ?Ir
         case Ir =>
          exact(dU (aI FT (fN K (pv 3) ao) (gM (kY K rfl) (fN K (pv 3) ao) uE (fL ao))) (kT (pv 3) ao set_list))
       case e8 =>
        exact ay
      case r7 =>
       refine' ah ?O1 ?S8
       case O1 =>
        exact(GW (i:=4) rfl i8.nd rfl rfl (show gR ["_law_script","_law_tolds_here","_law_texts","_law_lent","_law_answers","_law_places","_law_due","_law_turn","_law_tree"] (av kj) ["_law_told_here","_law_texts"] 1 [2] _ from RM) (bq K rfl (pv 1)) (λ_ _ _ _=>(d8 0 (show(["_law_told_here","_law_texts"]:List Str).Nodup by decide +kernel))) (λ_ _ _ _=>cB) (λ_ _ _ _=>(cT rfl (show aR ["_law_told_here","_law_texts"] _ ["_law_text_here","_law_told_here"] 1 [0] _ from⟨rfl,by decide +kernel,by decide +kernel,λy hy hf=>LB ((by decide +kernel:∀y∈_,y.2=PySem.NameKind.free->(List.lookup y.1 _=some PySem.NameKind.cell\/List.lookup y.1 _=some PySem.NameKind.free)) y hy hf),by decide +kernel,rfl,rfl,by decide +kernel⟩) (bq K rfl (pv 1)) (λ_ _ _ _=>(d8 0 (show(["_law_text_here","_law_told_here"]:List Str).Nodup by decide +kernel))) (λ_ _ _ _=>cB) (λ_ _ _ _=>(eU xr hr T.wQ T.nF.kp T.wO (af (pv 1) (af (pv 0) ai)))))))
       case S8 =>
        refine' ah ?s12 ?r12
        case s12 =>
         exact(di 5 i8.nd (sy rfl rfl T.jW rfl T.dM (af (gA (aL K rfl) T.bF (af (pv 1) ai)) ai)))
        case r12 =>
         refine' ah ?HA ?r13
         case HA =>
          exact(di 6 i8.nd (eU j5 hr T.p8 T.jS.kp T.p7 (af (pv 4) (af (gA (aL K rfl) T.bF (af (pv 2) ai)) (af (pv 5) ai)))))
         case r13 =>
          refine' ah ?TZ ?T3
          case TZ =>
           exact(dm aaX rfl (dO rfl T.dM (af ao ai)) (d8 7 i8.nd)
     (ah (di 8 i8.nd (pA (k:=11) EM (hr.mono 'b') rfl T.EF T.yd.kp T.EE .nil J9 (af (fN K (pv 3) ao) (af (fN K (pv 3) ao) ai))))
     (ah (aH (PW.pt (fU (bX ki (eU j7 hr T.qa T.jT.kp T.p9 (af (pv 4) (af (gA (aL K rfl) T.bF (af (pv 2) ai)) (af (pv 8) (af (pv 5) ai))))) (pv 6)) (fU (bX ki (eU j3 hr T.oW T.jP.kp T.oU (af (pv 8) ai)) (pv 6)) (gJ (bX (Gj K rfl t9) (fN K (pv 3) ao) (pv 2)))))) (ak (az C8)) ay)
     (ah (aH (bP (gA (bM K rfl) T.bw (af (eU j3 hr T.oW T.jP.kp T.oU (af (pv 8) ai)) (af (GX "bool" T.uH) ai)))) (ak (az C8)) ay)
     (ak (bK (eU j8 hr T.qc T.jU.kp T.qb (af (pv 8) ai))))))))
          case T3 =>
           refine' ak ?UT
           case UT =>
            exact(az (Es (Lg K rfl t9) (cT rfl (show aR ["_law_script","_law_tolds_here","_law_texts","_law_lent","_law_answers","_law_places","_law_due","_law_turn","_law_tree"] (av kj) ["_law_one"] 1 [] _ from yM) (bq K rfl (fN K (pv 3) ao)) (λ_ _ _ _=>(d8 0 N9)) (λ_ _ _ _=>cB) (λ_ _ _ _=>(Ad (k:=1) (pv 0) T.aM T.lO ie (hr.mono 'b') T.lN .nil xR))) (pv 1)))
  refine⟨_,O,_,O,_,O,a,_,O,hS,λp0 hp0=>?_⟩
  obtain⟨n1,en1,ln1,_⟩:=AB V.int ns (some 1) (some 5)
  rw[en1]
  have s0:=aq (o:=HO.lst (n1.map V.int)) hp0
  have g0:=aj (H:=H) (a:=p0) (o:=HO.lst (n1.map V.int))
  generalize upd H p0 (.lst (n1.map V.int))=H0 at s0 g0⊢
  refine⟨_,O,a,_,_,O,s0.seq hS,by decide,λc0=>⟨_,_,O,O,(by show(0:Int)<7;decide),?_⟩⟩
  have w0:=aaY c0 (show(7:Int)≠0 by decide)
  have w1:=aaV c0 (show(0:Int)<7 by decide)
  refine⟨p0,n1,_,O,aK.of g0,by omega,w0,by omega,λKz BF Mw H1 aaf ht0 U5 Po hc0 s1=>?_⟩
  have hc6:Mw.length<=6:=by omega
  have t1:=s0.trans s1
  clear s0 s1 g0 hp0
  dsimp only[bU]
  have WL:=t1.seq hS
  refine⟨_,O,_,O,_,O,_,_,_,O,(aD.refl _).seq WL,'c',λc1=>⟨_,_,O,O,⟨'c','c'⟩,_,_,O,O,'c',_,_,O,O,_,O,_,_,O,(aD.refl _).seq WL,λq1 hq1=>⟨_,O,⟨_,aK.of aj⟩,λD hD=>?_⟩⟩⟩
  have kk0:=aaY (c1 / 7) (show(5:Int)≠0 by decide)
  have kk1:=aaV (c1 / 7) (show(0:Int)<5 by decide)
  obtain⟨n2,U6,ln2,_⟩:=AB V.int ns (some 3) (some (3+c1 / 7 % 5))
  have l4:=Hq (xs:=ns.map V.int) kk0
  rw[U6,aaj]at l4
  have n24:n2.length<=4:=by omega
  have D9:oz (ns.map V.int) (some 3) (some (3+c1 / 7 % 5))=n2.map V.int:=U6
  rw[D9]at hD
  rw[D9]
  (have u1:=aq (o:=HO.lst (List.map V.int n2)) hq1;have g1:=aj (H:=H1) (a:=q1) (o:=HO.lst (List.map V.int n2));generalize upd H1 q1 (HO.lst (List.map V.int n2))=I1 at u1 g1 hD⊢)
  clear l4
  have t2:=t1.trans u1
  have Jz:=u1 _ _ ht0
  have Pp:=ko.mono u1 U5
  have xl:=U5.length
  refine bB (K:=K) (a:=q1) (xs:=n2.map V.int) (λi ys τ G=>(∃v,τ=[v,some (.ref Kz)])/\aD I1 G/\G D=some (.lst ys)/\∃zs:List Str,ys=zs.map V.str/\zs.length=i/\∀z∈zs,dZ z/\z.length<=8) ⟨⟨_,rfl⟩,aq hD,aj,[],rfl,rfl,λz h=>nomatch h⟩ (λi ys τ G _ q=>⟨aK.of (q.2.1 _ _ g1),q.2.2.1⟩) ?_ ?_
  ·rintro i e ys τ G hi ⟨⟨v,rfl⟩,sG,hG,zs,rfl,vY,Pq⟩
   have hil:=(aam.mp hi).1
   rw[aaj]at hil
   obtain⟨c,_,rfl⟩:=aaQ.mp (aar hi)
   refine kM ?_
   refine⟨_,O,_,O,c,7,Kz,BF,Mw,O,sG _ _ Jz,ko.mono sG Pp,Po,by omega,by decide,by decide,λz G2 hz aag s2=>?_⟩
   refine⟨s2 _ _ hG,by rw[aaj];exact aav (show zs.length<=100 by omega) 'b',⟨_,O⟩,aG hD (sG.trans s2),aj,zs++[z],by rw[aaI];rfl,by rw[aaJ,vY];rfl,λy hy=>?_⟩
   rcases aaH.mp hy with q|q
   ·exact Pq y q
   ·rw[aan.mp q];exact⟨hz,by omega⟩
  rintro ys τ G ⟨⟨v,rfl⟩,sG,hG,zs,rfl,vY,Pq⟩
  rw[aaj]at vY
  have hz4:zs.length<=4:=by omega
  have Qs:∀z∈zs,dZ z/\z.length<=2000:=λz hz=>⟨(Pq z hz).1,by have:=(Pq z hz).2;omega⟩
  dsimp only[bU]
  have t3:=t2.trans sG
  have M3:=sG _ _ Jz
  have Ms:=ko.mono sG Pp
  clear Pq vY n24 U6 D9 ln2 g1 u1
  refine⟨_,O,Kz,O,⟨_,aK.of M3⟩,λHP U7=>?_⟩
  refine bB (K:=K) (a:=Kz) (xs:=BF) (λi ys τ J=>(∃v,τ=[v])/\aD G J/\J HP=some (.lst ys)/\tL (aF 49) J ys (Mw.take i)) ⟨⟨_,rfl⟩,aq U7,aj,.nil⟩ (λi ys τ J _ q=>⟨aK.of (q.2.1 _ _ M3),q.2.2.1⟩) ?_ ?_
  ·rintro i e ys τ J hi ⟨⟨v,rfl⟩,sJ,hJ,mk⟩
   obtain⟨x,hx,t5,rfl,zo⟩:=aE Ms i e hi
   have hil:i<Mw.length:=(aam.mp hx).1
   have hyl:=mk.length
   rw[aaL]at hyl
   refine kM ?_
   refine⟨_,O,t5,x.1,x.2.1,x.2.2.1,x.2.2.2.a,x.2.2.2.b,x.2.2.2.c,x.2.2.2.d,O,sJ _ _ zo,Po x (aar hx),λy dy J2 hy0 hy s2=>?_⟩
   have U8:=s2 _ _ hJ
   refine⟨U8,aav (show ys.length<=100 by omega) 'b',⟨_,O⟩,aG U7 (sJ.trans s2),aj,?_⟩
   rw[aX hx]
   exact bA (tL.but U8 (tL.mono s2 mk)) (tL.but U8 (.cons ⟨y,dy,rfl,hy⟩ .nil))
  rintro ys τ J ⟨⟨v,rfl⟩,sJ,hJ,mk⟩
  rw[xl,aaD (aao _)]at mk
  have U9:=sJ _ _ hG
  refine⟨_,O,D,_,O,.inl (aK.of U9),λX5 WM=>⟨(by show(2:Nat)<=sizeLine;decide),λL5 M5=>?_⟩⟩
  (have u2:=aq (o:=HO.lst (List.map V.str zs)) WM;have g2:=aj (H:=J) (a:=X5) (o:=HO.lst (List.map V.str zs));generalize upd J X5 (HO.lst (List.map V.str zs))=I2 at u2 g2 M5⊢;have u3:=aq (o:=HO.lst [V.ref HP,V.ref X5]) M5;have g3:=aj (H:=I2) (a:=L5) (o:=HO.lst [V.ref HP,V.ref X5]);generalize upd I2 L5 (HO.lst [V.ref HP,V.ref X5])=I3 at u3 g3⊢)
  have gX:=u3 _ _ g2
  have EN:=u2.trans u3
  dsimp only[bU]
  have t4:=t3.trans sJ
  have Qt:=sJ _ _ M3
  have M4:=ko.mono sJ Ms
  refine dR (t:=v9 _ _ _) (λσ' H'=>aD J H'/\∃(KA E5:Addr)(Pr M6:List V)(xu:List fW),σ'=[some (.ref a),some (.ref KA),some (.ref D),some (.ref L5),none,none,none,none,none]/\H' KA=some (.lst Pr)/\ko H' Pr xu/\H' E5=some (.lst M6)/\tL (aF 49) H' M6 xu/\(∀x∈xu,xY x)/\xu.length<=6/\H' L5=some (.lst [.ref E5,.ref X5])/\H' X5=some (.lst (zs.map V.str))) ?_ (λgo=>?_)
  rotate_left
  ·have hS3:=(t4.trans EN).seq hS
   have no:=go _ _ ⟨EN,Kz,HP,BF,ys,Mw,rfl,EN _ _ Qt,ko.mono EN M4,EN _ _ hJ,tL.mono EN mk,Po,by omega,g3,gX⟩
   refine⟨_,O,a,_,_,O,hS3,by decide,λc2=>⟨_,_,O,O,⟨by decide,by decide⟩,_,_,O,O,(by show(0:Int)<2;decide),O,_,O,NZ (λc=>?_) (λc=>bW no)⟩⟩
   refine⟨_,O,Kz,_,O,.inl (aK.of (EN _ _ Qt)),_,_,O,O,_,O,JZ (λc5=>?_) (λc5=>no)⟩
   have zo:=EN _ _ Qt
   have Qu:=EN _ _ hJ
   have Mx:=ko.mono EN M4
   have Pu:=tL.mono EN mk
   have WN:=mk.length
   have Pw:∀ws:List V,oz ws none (some 1)=ws.take 1:=λws=>by
    cases ws with
    |nil=>rfl
    |cons w ws=>exact IS (n:=1) (by simp)
   refine⟨_,O,_,O,_,O,Kz,_,O,aK.of zo,λr1 hr1=>?_⟩
   rw[Pw]
   (have w1:=aq (o:=HO.lst (List.take 1 BF)) hr1;have k1:=aj (H:=I3) (a:=r1) (o:=HO.lst (List.take 1 BF));generalize upd I3 r1 (HO.lst (List.take 1 BF))=K1 at w1 k1⊢)
   refine⟨Kz,r1,_,_,O,O,w1 _ _ zo,k1,aaz (show BF.length+(BF.take 1).length<=100 by rw[aaL];omega) 'b',λl1 hl1=>?_⟩
   (have w2:=aq (o:=HO.lst (BF++List.take 1 BF)) hl1;have k2:=aj (H:=K1) (a:=l1) (o:=HO.lst (BF++List.take 1 BF));generalize upd K1 l1 (HO.lst (BF++List.take 1 BF))=K2 at w2 k2⊢)
   dsimp only[bU]
   have Va:=w1.trans w2
   have Mz:=Va _ _ g3
   have Px:=Va _ _ Qu
   have Py:iB [V.ref HP,V.ref X5] 0=some (.ref HP):=rfl
   refine⟨_,O,L5,_,_,_,O,O,aK.of Mz,Py,_,O,L5,_,_,_,O,O,aK.of Mz,Py,_,O,HP,_,O,aK.of Px,λr2 hr2=>?_⟩
   rw[Pw]
   (have w3:=aq (o:=HO.lst (List.take 1 ys)) hr2;have k3:=aj (H:=K2) (a:=r2) (o:=HO.lst (List.take 1 ys));generalize upd K2 r2 (HO.lst (List.take 1 ys))=K3 at w3 k3⊢)
   refine⟨HP,r2,_,_,O,O,w3 _ _ Px,k3,aaz (show ys.length+(ys.take 1).length<=100 by rw[aaL];omega) 'b',λl2 hl2=>?_⟩
   (have w4:=aq (o:=HO.lst (ys++List.take 1 ys)) hl2;have k4:=aj (H:=K3) (a:=l2) (o:=HO.lst (ys++List.take 1 ys));generalize upd K3 l2 (HO.lst (ys++List.take 1 ys))=K4 at w4 k4⊢)
   have Vb:=w3.trans w4
   have M7:=Va.trans Vb
   have Qv:=Vb _ _ Mz
   have hLJ:=u2.free M5
   refine⟨_,O,L5,_,_,0,O,O,Qv,O,?_⟩
   have nl:∀{b:Addr}{o:HO},K4 b=some o->o≠.lst [.ref HP,.ref X5]->b≠L5:=λh n q=>by rw[q,Qv]at h;exact n (aaA h).symm
   have n1:l1≠L5:=λq=>by rw[q,w1 _ _ g3]at hl1;cases hl1
   have n2:l2≠L5:=λq=>by rw[q,w3 _ _ Mz]at hl2;cases hl2
   have n3:X5≠L5:=λq=>by rw[←q,g2]at M5;cases M5
   refine go _ _ ⟨aG hLJ ((EN.trans M7)),l1,l2,BF++BF.take 1,ys++ys.take 1,Mw++Mw.take 1,rfl,(aB n1).trans (Vb _ _ k2),?_,(aB n2).trans k4,?_,?_,?_,aj,(aB n3).trans (M7 _ _ gX)⟩
   ·exact ko.IT Qv (bA (ko.mono M7 Mx) (lA 1 (ko.mono M7 Mx)))
   ·exact tL.but Qv (bA (tL.mono M7 Pu) (lA 1 (tL.mono M7 Pu)))
   ·intro x hx
    rcases aaH.mp hx with q|q
    ·exact Po x q
    ·exact Po x (abt q)
   ·rw[aaJ,aaL];omega
  rintro σ' J5 ⟨s5,KA,E5,Pr,M6,xu,rfl,zo,Mx,Qu,Pu,gd5,hc5,WO,WQ⟩
  have Qw:=s5 _ _ U9
  have t5':=t4.trans s5
  clear mk gX g3 M4 Qt hJ U9 U7 u2 u3 EN M5 WM g2 sJ sG Ms M3 Pp Jz U5 ht0 hG hD
  have WR:=Mx.length
  have zl:(zs.map V.str).length=zs.length:=aaj _
  refine⟨_,O,KA,O,⟨_,aK.of zo⟩,λDa WS=>?_⟩
  have BE:(upd J5 Da (.lst [])) Da≠none:=by rw[aj];intro q;cases q
  have EL:∀{J:Hp}{ys:List V},aD J5 J->J Da=some (.lst ys)->∀b,J b=none->(upd J5 Da (.lst [])) b=none:=λsJ hJ b hb=>(aB (λq=>by rw[q,hJ]at hb;cases hb)).trans (sJ.free hb)
  generalize Qn:upd J5 Da (.lst [])=A0 at BE EL
  refine bB (K:=K) (a:=KA) (xs:=Pr) (λi ys τ G=>(∃v,τ=[v,some (.ref D)])/\aD J5 G/\G Da=some (.lst ys)/\rC A0 G zs ys (xu.take i)) ⟨⟨_,rfl⟩,aq WS,aj,.nil⟩ (λi ys τ G _ q=>⟨aK.of (q.2.1 _ _ zo),q.2.2.1⟩) ?_ ?_
  ·rintro i e ys τ G hi ⟨⟨v,rfl⟩,sG,hG,an⟩
   obtain⟨x,hx,t6,rfl,ht6⟩:=aE Mx i e hi
   have hil:i<xu.length:=(aam.mp hx).1
   have hyl:=an.length
   rw[aaL]at hyl
   have Ky:=sG _ _ ht6
   have WT:=sG _ _ Qw
   refine kM ?_
   refine⟨_,O,D,O,⟨_,aK.of WT⟩,λE1 MA=>?_⟩
   have Vc:(upd G E1 (.lst [])) E1≠none:=by rw[aj];intro q;cases q
   have WU:∀{J:Hp}{ys:List V},aD G J->J E1=some (.lst ys)->∀b,J b=none->(upd G E1 (.lst [])) b=none:=λsJ hJ b hb=>(aB (λq=>by rw[q,hJ]at hb;cases hb)).trans (sJ.free hb)
   have hB2:∀b,(upd G E1 (.lst [])) b=none->A0 b=none:=λb hb=>EL sG hG b ((aq MA).free hb)
   have Vd:=EL sG hG E1 MA
   generalize hBe:upd G E1 (.lst [])=B0 at Vc WU hB2
   refine bB (K:=K) (a:=D) (xs:=zs.map V.str) (λj ws τ G2=>(∃v,τ=[v,some (.ref t6)])/\aD G G2/\G2 E1=some (.lst ws)/\Wr B0 G2 x ws (zs.take j)) ⟨⟨_,rfl⟩,aq MA,aj,.nil⟩ (λj ws τ G2 _ q=>⟨aK.of (q.2.1 _ _ WT),q.2.2.1⟩) ?_ ?_
   ·rintro j e ws τ G2 hj ⟨⟨v,rfl⟩,zX,Ks,rz⟩
    obtain⟨z,hz,rfl⟩:=pI hj
    have hzb:=Qs z (aar hz)
    have hwl:=rz.length
    rw[aaL]at hwl
    refine kM ?_
    refine⟨_,O,_,O,t6,z,x,O,zX _ _ Ky,hzb.2,λv2 G3 rv s3=>?_⟩
    have Ve:=s3 _ _ Ks
    refine⟨Ve,aav (show ws.length<=100 by omega) 'b',⟨_,O⟩,aG MA (zX.trans s3),aj,?_⟩
    rw[aX hz]
    exact bA (bg (λ_ _ q=>mV.set Vc (mV.mono s3 q)) rz) (.cons (mV.set Vc (mV.old (WU zX Ks) rv)) .nil)
   rintro ws τ G2 ⟨⟨v,rfl⟩,zX,Ks,rz⟩
   rw[zl,aaD (aao _)]at rz
   have Ve:=zX _ _ hG
   refine⟨Ve,aav (show ys.length<=100 by omega) 'b',⟨_,O⟩,aG WS (sG.trans zX),aj,?_⟩
   rw[aX hx]
   exact bA (rC.set BE (rC.mono zX an)) (rC.set BE (.cons ⟨E1,ws,rfl,Vd,Ks,bg (λ_ _ q=>mV.old hB2 q) rz⟩ .nil))
  rintro iG τ G ⟨⟨v,rfl⟩,sG,hG,an⟩
  rw[WR,aaD (aao _)]at an
  have an:=rC.DK an
  dsimp only[bU]
  have Ky:=sG _ _ zo
  refine⟨_,O,KA,Pr,O,.inl (aK.of Ky),_,O,by omega,by omega,λlp wX=>?_⟩
  rw[WR,AI]
  (have w1:=aq (o:=HO.lst (List.map nV (List.range xu.length))) wX;have g1:=aj (H:=G) (a:=lp) (o:=HO.lst (List.map nV (List.range xu.length)));generalize upd G lp (HO.lst (List.map nV (List.range xu.length)))=G1 at w1 g1⊢)
  dsimp only[bU]
  have Mm:=sG.trans w1
  have Vf:=w1 _ _ hG
  have Pj:=oK.mono w1 an
  have Wx:(List.range xu.length).length=xu.length:=List.length_range
  have Ph:∀p∈List.range xu.length,p<xu.length:=λp hp=>List.mem_range.mp hp
  refine⟨_,O,_,O,D,_,O,.inl (aK.of (Mm _ _ Qw)),_,O,Da,lp,iG,xu,zs,A0,List.range xu.length,by rw[zl];rfl,Vf,Pj,by omega,by omega,g1,Ph,by omega,by omega,λn G2 ln s2=>?_⟩
  dsimp only[bU]
  have zX:=Mm.trans s2
  have Ks:=s2 _ _ Vf
  have Mt:=oK.mono s2 Pj
  have glp:=s2 _ _ g1
  have Hx:=zX _ _ Qw
  have Px:=zX _ _ Qu
  have mk2:=tL.mono zX Pu
  have Mz:=zX _ _ WO
  have gX2:=zX _ _ WQ
  have Jz:=zX _ _ zo
  have Pp:=ko.mono zX Mx
  clear Qn BE EL g1 w1 Pj Vf Mm an hG Ky WQ WO Pu Qu Qw Mx zo
  have WN:=mk2.length
  have MB:lE M6.length (zs.map V.str)=3:=by
   unfold lE
   rw[aah 'c',aah 'c',aal]
   rw[List.all_map,aaO]
   intro z hz
   exact G8 (Qs z hz).1 (Qs z hz).2
  have Py:iB [V.ref E5,V.ref X5] 0=some (.ref E5):=rfl
  have WV:iB [V.ref E5,V.ref X5] 1=some (.ref X5):=rfl
  refine⟨_,O,by decide,by decide,?_⟩
  refine fE (λi σ J=>aD G2 J/\∃v7 v8,σ=[some (.ref a),some (.ref KA),some (.ref D),some (.ref L5),some (.ref Da),some (.ref lp),some (.int (n:Int)),v7,v8]) ⟨aD.refl _,_,_,rfl⟩ ?_ ?_
  ·rintro i σ J hi ⟨sJ,v7,v8,rfl⟩
   have Pz:=sJ _ _ Mz
   have WW:=sJ _ _ gX2
   dsimp only[bU]
   refine⟨_,O,L5,_,_,_,O,O,aK.of Pz,Py,_,O,L5,_,_,_,O,O,aK.of Pz,WV,E5,X5,M6,zs.map V.str,xu,O,sJ _ _ Px,tL.mono sJ mk2,gd5,by omega,WW,λv hv=>?_,(λe=>by rw[MB]at e;cases e),(λe=>by rw[MB]at e;cases e),(λe=>by rw[MB]at e;cases e),λ_ zs' ez _ d u v H1 Wy hT hno tf s1=>?_⟩
   ·obtain⟨z,hz,rfl⟩:=aaQ.mp hv
    exact⟨.str z,λz' e=>by cases e;have:=(Qs z hz).2;omega⟩
   have ez:zs=zs':=(List.map_inj_right (λx y h=>V.str.inj h)).mp ez
   subst ez
   obtain⟨dn,dd⟩:=Hj hT hno ln
   have ra:=tf.MZ
   have ne:=DL 'c' hT
   have sz:=DM 'c' hT
   dsimp only[bU]
   have DP:=sJ.trans s1
   refine⟨_,O,_,O,D,_,O,.inl (aK.of (DP _ _ Hx)),_,O,_,O,Da,lp,iG,xu,zs,A0,List.range xu.length,J,d,v,u,by rw[zl];rfl,by omega,DP _ _ Ks,oK.mono DP Mt,by omega,by omega,DP _ _ glp,Ph,by omega,ra,hT,λH2 s2'=>?_⟩
   refine⟨_,O,O,_,O,NY (by rw[dn]) ?_⟩
   refine⟨_,O,J,d,v,u,O,by omega,Ce.mono s2' ra,ne,λH3 s3=>?_⟩
   refine⟨_,O,O,_,O,NY (by rw[dn]) ?_⟩
   have HA:=s1.trans (s2'.trans s3)
   have Kr:=sJ.trans HA
   have gL3:=HA _ _ Pz
   have gX3:=HA _ _ WW
   have Pg:=Kr _ _ Hx
   have td:TopD K H3 (.ref X5) (.ref D):=⟨1,X5,D,_,_,rfl,rfl,by decide,rfl,.inr ⟨aK.of gX3,aK.of Pg⟩,oG (qX _)⟩
   refine⟨_,O,L5,_,_,_,O,O,aK.of gL3,WV,_,O,td,_,O,bW ?_⟩
   refine⟨_,O,J,d,v,u,O,by omega,Ce.mono (s2'.trans s3) ra,ne,λH4 s4=>?_⟩
   refine⟨_,_,_,false,O,.int _,.inl ⟨_,O,O⟩,_,O,bW ?_⟩
   obtain⟨kO,td1,td2,td3⟩:=tf.mono (s2'.trans (s3.trans s4))
   refine⟨_,O,d,v,u,kO,O,by omega,td1,td2,sz,λH5 k5=>⟨?_,_,_,O⟩⟩
   intro b o hb
   have Vg:=sJ b o hb
   exact k5 b o (λq=>by rw[td3 b q]at Vg;cases Vg) ((HA.trans s4) b o Vg)
  rintro σ J ⟨sJ,v7,v8,rfl⟩
  have Pz:=sJ _ _ Mz
  have WX:=sJ _ _ Px
  have mkJ:=tL.mono sJ mk2
  have Pk:=sJ _ _ Jz
  have tpJ:=ko.mono sJ Pp
  refine⟨_,O,L5,_,_,_,O,O,aK.of Pz,Py,E5,O,⟨_,aK.of WX⟩,λE1 MA=>?_⟩
  refine bB (K:=K) (a:=E5) (xs:=M6) (λi ws τ HD=>(∃v,τ=[v])/\aD J HD/\HD E1=some (.lst ws)/\ko HD ws (xu.take i)) ⟨⟨_,rfl⟩,aq MA,aj,.nil⟩ (λi ws τ HD _ p=>⟨aK.of (p.2.1 _ _ WX),p.2.2.1⟩) ?_ ?_
  ·rintro i e ws τ HD hi ⟨⟨v,rfl⟩,sD,hE,M8⟩
   obtain⟨x,hx,y,dy,rfl,hy⟩:=aE mkJ i e hi
   have WY:=sD _ _ hy
   have hil:i<xu.length:=(aam.mp hx).1
   have hyl:=M8.length
   rw[aaL]at hyl
   refine kM ?_
   refine⟨_,O,y,dy,_,O,WY,O,y,dy,x.1,x.2.1,x.2.2.1,x.2.2.2.a,x.2.2.2.b,x.2.2.2.c,x.2.2.2.d,O,WY,λu hu5=>?_⟩
   have yu:=aq (o:=HO.tup (jf x)) hu5
   have MC:=yu _ _ hE
   refine⟨MC,aav (show ws.length<=100 by omega) 'b',⟨_,O⟩,aG MA (sD.trans yu),aj,?_⟩
   rw[aX hx]
   exact bA (ko.IT MC (ko.mono yu M8)) (ko.IT MC (.cons ⟨u,rfl,aj⟩ .nil))
  rintro wsE τ HD ⟨⟨v,rfl⟩,sD,hE,M8⟩
  rw[WN,aaD (aao _)]at M8
  have WZ:=ko.mono sD tpJ
  exact⟨_,O,⟨2,E1,KA,_,_,O,O,by decide,M8.length.trans WZ.length.symm,.inr ⟨aK.of hE,aK.of (sD _ _ Pk)⟩,Ey M8 WZ⟩,k _⟩
end
end
theorem all_mk{l:W.OpenLaw}{w:World}{K:W.Frag}{h:Heap}{mg:Str->Option Value}{fa mC iw cu mD qo kI cX iN yg gw kJ nX nY kK qp sS qq HB Bl vO qt nZ n5 vP jm oh yh vQ mE qu oi sU qv sV qw sW sX oj qx vR qy om qz sY sZ qA qB qC HC bC iy bx fq qD qE iO iP dg mS zD:Addr}{od2 Mt Vh MD:Option Addr}{sl2 Vi:Array (Option Value)}{oc2 Vj Vk Vl Qx Vm Vn ME MF MG JB MH:Value}{Cw:Str}{bG:Addr}(X:K.In h)(G:h.Ns mainGlobals mg)(hfa:mg "law"=some (.ref fa))(Cy:W.nsIn K mainGlobals "Dialect"=some (some (.ref bC)))(JC:W.nsIn K mainGlobals "Turn"=some (some (.ref iy)))(gg:W.nsIn K mainGlobals "DialectError"=some (some (.ref bx)))(rR:W.nsIn K mainGlobals "NoText"=some (some (.ref qD)))(j9:W.nsIn K mainGlobals "NoDialect"=some (some (.ref iO)))(o6:W.nsIn K mainGlobals "TooMany"=some (some (.ref dg)))(l0:FQ K "is_printable" gT mC)(l1:FQ K "are_unlike_signs" cU iw)(a2:W.findIn K (.ref bC) "__init__"=some (some (.ref cu)))(i2:W.isFn K (.ref cu)=true)(l2:K.lookup cu=FO "__init__" "Dialect.__init__" bf (.ref bG) oc2 od2 Vj Vk Vl Mt Qx Vm sl2)(c2:W.codeIn K Qx "Dialect.__init__"=true)(k2:W.keepIn K (.ref cu)=true){PB:Option Addr}{Vo:Nat}{PC:Array (Option Value)}{PD PF:Tok}(d2:K.lookup bG=some ⟨.type "tuple",PB,.seq #[.str ("":Str) PD,.str ("":Str) PF,.bool false,.bool false,.bool false,.bool false] Vo,PC⟩)(l3:FV K bC "told" "Dialect.told" gU mD)(l4:FQ K "dialect_of" jx qo)(l5:FV K iy "__init__" "Turn.__init__" fY kI)(l6:FE K "__init__" "TooMany.__init__" eF cX)(l7:FQ K "has_signs_alone" dj iN)(l8:FQ K "is_text" qW yg)(l9:FQ K "step_at_beginning" dX gw)(Wm:FQ K "step_in_plain" fZ kJ)(l11:FQ K "step_within" iW nX)(l12:FQ K "step_behind" iX nY)(l13:FQ K "step_in_doubt" f6 kK)(l14:FQ K "step_freed" jy qp)(l15:FV K iy "step" "Turn.step" k6 sS)(l16:FQ K "check_text" jz qq)(l17:FQ K "walk" B8 HB)(l18:FQ K "end_of" u5 Bl)(l19:FQ K "table_of" oB vO)(l20:FQ K "reading_of" jA qt)(l21:FQ K "check_asked" iY nZ)(l22:FQ K "readings_of" ef n5)(l23:FQ K "parts_of" jB vP)(l24:FQ K "are_read_alike" dP jm)(l25:FQ K "tree_within" fO oh)(l26:FQ K "tree_of" mL yh)(l27:FQ K "depth_of" jC vQ)(l28:FQ K "_law_cell_at" gW mE)(l29:FQ K "_law_mixed" jD qu)(l30:FQ K "_law_number" iZ oi)(l31:FQ K "_law_some" k7 sU)(l32:FQ K "_law_menus" jE qv)(l33:FQ K "_law_told" k8 sV)(l34:FQ K "_law_drawn" gB qw)(l35:FQ K "_law_open" k9 sW)(l36:FQ K "_law_step" lg sX)(l37:FQ K "_law_walked" i0 oj)(l38:FQ K "_law_table" jF qx)(l39:FQ K "_law_kin" oE vR)(l40:FQ K "_law_tolds" jG qy)(l41:FQ K "_law_answer" i6 om)(l42:FQ K "_law_parts" gC qz)(l43:FQ K "_law_menu" lu sY)(l44:FQ K "_law_text" iD sZ)(l45:FQ K "_law_least" gD qA)(l46:FQ K "_law_depth" dQ qB)(l47:FQ K "_law_spoil" jH qC)(W0:W.nsIn K mainGlobals "law"=RF HC)(l48:K.lookup HC=FO "law" "law" kj .none Vn Vh ME MF MG MD JB MH Vi)(c48:W.codeIn K JB "law"=true)(k48:W.keepIn K (.ref HC)=true)(Cz:W.plainGet K bC Str.empty=true)(CA:W.hasDictIn K bC=true)(CC:W.plainOver K bC=true)(CD:W.findIn K (.ref bC) "__setattr__"=some (some (.builtin "object.__setattr__")))(CF:W.makesIn K bC=true)(CG:W.keepIn K (.ref bC)=true)(bR:W.findIn K (.ref bC) "parts"=some none)(bY:W.findIn K (.ref bC) "quotes"=some none)(bS:W.findIn K (.ref bC) "frees"=some none)(dI:W.findIn K (.ref bC) "twin"=some none)(cN:W.findIn K (.ref bC) "wide"=some none)(cO:W.findIn K (.ref bC) "thin"=some none)(cZ:W.findIn K (.ref bC) "stray"=some none)(JD:W.plainGet K iy Str.empty=true)(JE:W.hasDictIn K iy=true)(JF:W.plainOver K iy=true)(JG:W.findIn K (.ref iy) "__setattr__"=some (some (.builtin "object.__setattr__")))(JH:W.makesIn K iy=true)(JI:W.keepIn K (.ref iy)=true)(bE:W.findIn K (.ref iy) "dialect"=some none){uc ud:Str}{uf rS:List Value}{rT ug:Bool}{uh:List Str}{rV:Option Bool}{um rW:Option Addr}{uo uq ur uu uv:Option Value}{rX:Value}{jq:Array DictEntry}{uw:Nat}{rY:Array (Option Value)}(gh:K.lookup bx=some (excClassObj uc ud bx fq uf qR rT uh rS ug rV um uo uq ur uu uv "ValueError.__new__"))(gi:K.lookup fq=some ⟨rX,rW,.dict jq uw,rY⟩)(qF:(jq.toList.all λe=>match e.key with | .str _ _=>true|_=>false)=true)(gj:W.nsIn K fq "__init__"=some none)(ux:W.specialIn K (.ref bx) "__getattribute__"=some (some (.builtin "type.__getattribute__")))(uy:W.readsIn K bx (.type "type")=true)(uz:W.findCls K (.ref bx) (.type "type") "__init__"=some (.val (.builtin "ValueError.__init__"))){EO ER:Str}{ES CH:List Value}{CI ET:Bool}{EU:List Str}{CJ:Option Bool}{EV CK:Option Addr}{EW EX EY EZ E2:Option Value}{CL:Value}{vS:Array DictEntry}{E3:Nat}{CO:Array (Option Value)}(rZ:K.lookup qD=some (excClassObj EO ER qD qE ES (.ref bx::qR) CI EU CH ET CJ EV EW EX EY EZ E2 "ValueError.__new__"))(sd:K.lookup qE=some ⟨CL,CK,.dict vS E3,CO⟩)(Bm:(vS.toList.all λe=>match e.key with | .str _ _=>true|_=>false)=true)(se:W.nsIn K qE "__init__"=some none){zE zF:Str}{zG xw:List Value}{xx zH:Bool}{zI:List Str}{xy:Option Bool}{zJ xA:Option Addr}{zK zL zM zN zO:Option Value}{xB:Value}{oq:Array DictEntry}{zP:Nat}{xC:Array (Option Value)}(kc:K.lookup iO=some (excClassObj zE zF iO iP zG (.ref bx::qR) xx zI xw zH xy zJ zK zL zM zN zO "ValueError.__new__"))(kg:K.lookup iP=some ⟨xB,xA,.dict oq zP,xC⟩)(vU:(oq.toList.all λe=>match e.key with | .str _ _=>true|_=>false)=true)(kh:W.nsIn K iP "__init__"=some none){CP CQ:Str}{CS Bo:List Value}{Bp CU:Bool}{CV:List Str}{Bq:Option Bool}{CW Br:Option Addr}{CY CZ C0 C1 C2:Option Value}{Bs:Value}{tD:Array DictEntry}{C3:Nat}{Bt:Array (Option Value)}(o7:K.lookup dg=some (excClassObj CP CQ dg mS CS (.ref bx::qR) Bp CV Bo CU Bq CW CY CZ C0 C1 C2 "ValueError.__new__"))(o8:K.lookup mS=some ⟨Bs,Br,.dict tD C3,Bt⟩)(zQ:(tD.toList.all λe=>match e.key with | .str _ _=>true|_=>false)=true)(o9:W.nsIn K mS "__init__"=some (some (.ref cX))){Bu:Option Addr}{Bv:Data}{Bw:Array (Option Value)}(C4:W.keepIn K (.ref dg)=true)(C5:K.lookup cX=some ⟨.type "function",Bu,Bv,Bw⟩)(Bx:W.findIn K (.ref dg) "__setattr__"=some (some (.builtin "object.__setattr__")))(By:W.findIn K (.ref dg) "__getattribute__"=some (some (.builtin "BaseException.__getattribute__")))(BA:W.findIn K (.ref dg) "__getattr__"=some none)(BB:W.hasDictIn K dg=true)(uA:W.findIn K (.ref dg) "most"=some none)(PK:W.nsIn K mainGlobals "all"=some none)(PL:W.nsIn K mainGlobals "any"=some none)(MI:W.nsIn K mainGlobals "bool"=some none)(BC:W.nsIn K mainGlobals "enumerate"=some none)(PM:W.nsIn K mainGlobals "int"=some none)(zR:W.nsIn K mainGlobals "isinstance"=some none)(PN:W.nsIn K mainGlobals "len"=some none)(MJ:W.nsIn K mainGlobals "list"=some none)(PR:W.nsIn K mainGlobals "max"=some none)(z_ord:W.nsIn K mainGlobals "ord"=some none)(JJ:W.nsIn K mainGlobals "range"=some none)(PU:W.nsIn K mainGlobals "str"=some none)(JK:W.nsIn K mainGlobals "tuple"=some none)(PV:W.nsIn K mainGlobals "zip"=some none){JL:Tok}(MK:W.nsIn K mainGlobals "LINE"=some (some (.str Cw JL)))(ML:Cw=("\n":Str)){xD:Tok}(zS:W.nsIn K mainGlobals "MOST_SIGNS"=some (some (.int 2000 xD))){vV:Tok}(xE:W.nsIn K mainGlobals "MOST_SORTED"=some (some (.int 8 vV))){xF:Tok}(zU:W.nsIn K mainGlobals "MOST_TEXTS"=some (some (.int 6 xF)))(JM:W.nsIn K mainGlobals "START"=some (some (.ref zD))){HE:Option Addr}{JN:Nat}{HF:Array (Option Value)}{HG HH:Tok}(JO:K.lookup zD=some ⟨.type "tuple",HE,.seq #[.str ("row":Str) HG,.str ("":Str) HH] JN,HF⟩):∃fd:FuncData,(∀(s:Shared)(v:Value),BindsTo s fd ⟨[v],[]⟩ [("_law_script",v)])/\∀base:Heap,K.In base->base.Ns mainGlobals mg->aW l.prog w K mg base dW 12 fa fd ["_law_script"] (vN K):=by
 have e:=hfa.symm.trans (W.mg_of X G W0)
 cases e
 have mo:∀{n:Str}{v:Value},W.nsIn K mainGlobals n=some (some v)->mg n=some v:=λe=>W.mg_of X G e
 have mz:∀{n:Str},W.nsIn K mainGlobals n=some none->mg n=none:=λe=>W.mg_none_of X G e
 obtain⟨a0,W2,F0⟩:=l0
 have b0:=F0.qU (ps:=["sign"])
 obtain⟨a1,fd1,F1⟩:=l1
 have b1:=F1.qV (ps:=["thing","least","most"])
 have F2:=IA (st:=bf) l2 c2 k2
 have b2:Binds K (W.fnOf "__init__" "Dialect.__init__" (cR bf) (cA bf) (av bf) (.ref bG) Vj Vk Vl Mt Qx Vm) ["self","parts","quotes","frees","twin","wide","thin","stray"] []:=λs us hK hl=>match us,hl with |[_,_,_,_,_,_,_,_],_=>BindsTo.of_defaults (T:=bG) rfl (hK _ _ d2) rfl rfl rfl
 obtain⟨a3,i3,fd3,F3⟩:=l3
 have b3:=F3.qU (ps:=["self"])
 obtain⟨a4,fd4,F4⟩:=l4
 have b4:=F4.qU (ps:=["told"])
 obtain⟨a5,i5,fd5,F5⟩:=l5
 have b5:=F5.iV (ps:=["self","dialect"])
 obtain⟨fd6,F6⟩:=l6
 have b6:=F6.iV (ps:=["self","most"])
 obtain⟨a7,fd7,F7⟩:=l7
 have b7:=F7.qU (ps:=["text"])
 obtain⟨a8,fd8,F8⟩:=l8
 have b8:=F8.qU (ps:=["thing"])
 obtain⟨a9,fd9,F9⟩:=l9
 have b9:=F9.qV (ps:=["dialect","state","sign"])
 obtain⟨a10,Vp,W3⟩:=Wm
 have UH:=W3.iV (ps:=["dialect","sign"])
 obtain⟨OG,Vq,W4⟩:=l11
 have LW:=W4.qV (ps:=["dialect","quote","sign"])
 obtain⟨US,Vr,W5⟩:=l12
 have S9:=W5.iV (ps:=["dialect","sign"])
 obtain⟨UI,Vs,W6⟩:=l13
 have b13:=W6.qV (ps:=["dialect","quote","sign"])
 obtain⟨Jc,Vt,W7⟩:=l14
 have b14:=W7.qV (ps:=["dialect","quote","sign"])
 obtain⟨Tc,i15,Vu,Vv⟩:=l15
 have T4:=Vv.qV (ps:=["self","state","sign"])
 obtain⟨a16,Vw,W8⟩:=l16
 have UU:=W8.qU (ps:=["thing"])
 obtain⟨a17,Vx,W9⟩:=l17
 have b17:=W9.iV (ps:=["dialect","text"])
 obtain⟨Mr,Vy,Xa⟩:=l18
 have Jk:=Xa.qU (ps:=["walked"])
 obtain⟨a19,Vz,Xb⟩:=l19
 have b19:=Xb.iV (ps:=["text","kinds"])
 obtain⟨a20,VA,Xc⟩:=l20
 have UW:=Xc.iV (ps:=["dialect","text"])
 obtain⟨Jm,VB,Xd⟩:=l21
 have b21:=Xd.iV (ps:=["dialects","texts"])
 obtain⟨T7,VC,Xe⟩:=l22
 have Te:=Xe.iV (ps:=["dialects","text"])
 obtain⟨a23,VD,Xf⟩:=l23
 have b23:=Xf.iV (ps:=["readings","places"])
 obtain⟨Jr,VF,Xg⟩:=l24
 have UX:=Xg.iV (ps:=["all_readings","places"])
 obtain⟨Tf,VG,Xh⟩:=l25
 have b25:=Xh.qV (ps:=["all_readings","places","depth"])
 obtain⟨SE,VH,Xi⟩:=l26
 have b26:=Xi.iV (ps:=["dialects","texts"])
 obtain⟨a27,VI,Xj⟩:=l27
 have b27:=Xj.qU (ps:=["tree"])
 obtain⟨O9,VJ,Xk⟩:=l28
 have Oo:=Xk.iV (ps:=["_law_script","_law_k"])
 obtain⟨OE,VL,Xl⟩:=l29
 have b29:=Xl.iV (ps:=["_law_number_here","_law_salt"])
 obtain⟨a30,VM,Xm⟩:=l30
 have b30:=Xm.iV (ps:=["_law_cell","_law_salt"])
 obtain⟨Oq,VN,Xn⟩:=l31
 have b31:=Xn.qV (ps:=["_law_number_here","_law_many","_law_menu_here"])
 obtain⟨a32,VO,Xo⟩:=l32
 have Pa:=Xo.qU (ps:=["_law_way"])
 obtain⟨a33,VP,Xp⟩:=l33
 have b33:=Xp.qU (ps:=["_law_cell"])
 obtain⟨R8,VQ,Xq⟩:=l34
 have b34:=Xq.iV (ps:=["_law_cell","_law_many"])
 obtain⟨Pb,VR,Xr⟩:=l35
 have b35:=Xr.qV (ps:=["_law_told_here","_law_state","_law_sign"])
 obtain⟨Su,VS,Xs⟩:=l36
 have b36:=Xs.qV (ps:=["_law_told_here","_law_state","_law_sign"])
 obtain⟨a37,VT,Xu⟩:=l37
 have b37:=Xu.iV (ps:=["_law_told_here","_law_text_here"])
 obtain⟨Tv,VU,Xv⟩:=l38
 have R9:=Xv.iV (ps:=["_law_text_here","_law_kinds"])
 obtain⟨Sv,VV,Xw⟩:=l39
 have b39:=Xw.iV (ps:=["_law_told_here","_law_x"])
 obtain⟨T8,VW,Xx⟩:=l40
 have b40:=Xx.iV (ps:=["_law_cells","_law_many"])
 obtain⟨Sa,VX,Xy⟩:=l41
 have b41:=Xy.iV (ps:=["_law_told_here","_law_text_here"])
 obtain⟨a42,VY,Xz⟩:=l42
 have Tw:=Xz.qV (ps:=["_law_answers","_law_at","_law_places"])
 obtain⟨a43,VZ,XA⟩:=l43
 have b43:=XA.qU (ps:=["_law_tolds_here"])
 obtain⟨a44,V0,XC⟩:=l44
 have T9:=XC.qV (ps:=["_law_cell","_law_tolds_here","_law_most"])
 obtain⟨TF,V1,XD⟩:=l45
 have b45:=XD.qV (ps:=["_law_answers","_law_many","_law_places"])
 obtain⟨Sf,V2,XE⟩:=l46
 have Ua:=XE.RN (ps:=["_law_answers","_law_many","_law_tree","_law_places"])
 obtain⟨a47,V3,XF⟩:=l47
 have b47:=XF.qU (ps:=["_law_tree"])
 have XG:=FW (st:=kj) l48 c48 k48
 have b48:=XG.qU (ps:=["_law_script"])
 exact⟨W.fnOf "law" "law" (cR kj) (cA kj) (av kj) .none ME MF MG MD JB MH,λs v=>.of_eq rfl,λbase _ _=>Mu (aF:=λi=>[mC,iw,cu,mD,qo,kI,cX,iN,yg,gw,kJ,nX,nY,kK,qp,sS,qq,HB,Bl,vO,qt,nZ,n5,vP,jm,oh,yh,vQ,mE,qu,oi,sU,qv,sV,qw,sW,sX,oj,qx,vR,qy,om,qz,sY,sZ,qA,qB,qC,fa,bC,iy,bx,fq,qD,qE,iO,iP,dg,mS,zD,bG].getD i fa) (aN:=λi=>[W2,fd1,FN "__init__" "Dialect.__init__" bf (.ref bG) Vj Vk Vl Mt Qx Vm,fd3,fd4,fd5,fd6,fd7,fd8,fd9,Vp,Vq,Vr,Vs,Vt,Vu,Vw,Vx,Vy,Vz,VA,VB,VC,VD,VF,VG,VH,VI,VJ,VL,VM,VN,VO,VP,VQ,VR,VS,VT,VU,VV,VW,VX,VY,VZ,V0,V1,V2,V3,FN "law" "law" kj .none ME MF MG MD JB MH].getD i (W2)) (cV:=λi=>[Cw].getD i "") ⟨F0,b0,mo a0,F1,b1,mo a1,F2,b2,F3,b3,⟨a3,i3,F3.kp⟩,F4,b4,mo a4,F5,b5,F6,b6,F7,b7,mo a7,F8,b8,mo a8,F9,b9,mo a9,W3,UH,mo a10,W4,LW,mo OG,W5,S9,mo US,W6,b13,mo UI,W7,b14,mo Jc,Vv,T4,⟨Tc,i15,Vv.kp⟩,W8,UU,mo a16,W9,b17,mo a17,Xa,Jk,mo Mr,Xb,b19,mo a19,Xc,UW,mo a20,Xd,b21,mo Jm,Xe,Te,mo T7,Xf,b23,mo a23,Xg,UX,mo Jr,Xh,b25,mo Tf,Xi,b26,mo SE,Xj,b27,mo a27,Xk,Oo,mo O9,Xl,b29,mo OE,Xm,b30,mo a30,Xn,b31,mo Oq,Xo,Pa,mo a32,Xp,b33,mo a33,Xq,b34,mo R8,Xr,b35,mo Pb,Xs,b36,mo Su,Xu,b37,mo a37,Xv,R9,mo Tv,Xw,b39,mo Sv,Xx,b40,mo T8,Xy,b41,mo Sa,Xz,Tw,mo a42,XA,b43,mo a43,XC,T9,mo a44,XD,b45,mo TF,XE,Ua,mo Sf,XF,b47,mo a47,XG,b48,mo W0,⟨Cz,CA,CC,CD⟩,mo Cy,⟨CF,a2,i2,CG⟩,bR,bY,bS,dI,cN,cO,cZ,⟨JD,JE,JF,JG⟩,mo JC,⟨JH,a5,i5,JI⟩,bE,mo gg,⟨⟨_,_,_,_,_,_,_,_,_,_,_,_,_,_,gh⟩,⟨_,_,_,_,_,gi,qF⟩,gj⟩,⟨ux,uy,uz⟩,mo rR,⟨⟨_,_,_,_,_,_,_,_,_,_,_,_,_,_,rZ⟩,⟨_,_,_,_,_,sd,Bm⟩,se⟩,mo j9,⟨⟨_,_,_,_,_,_,_,_,_,_,_,_,_,_,kc⟩,⟨_,_,_,_,_,kg,vU⟩,kh⟩,mo o6,⟨⟨_,_,_,_,_,_,_,_,_,_,_,_,_,_,o7⟩,⟨_,_,_,_,_,o8,zQ⟩,o9⟩,C4,⟨_,C5,rfl⟩,⟨uA,Bx,By,BA,BB⟩,mz PK,mz PL,mz MI,mz BC,mz PM,mz zR,mz PN,mz MJ,mz PR,mz z_ord,mz JJ,mz PU,mz JK,mz PV,⟨_,mo MK⟩,ML,⟨_,mo zS⟩,⟨_,mo xE⟩,⟨_,mo zU⟩,mo JM,⟨_,_,_,JO,rfl,rfl,(by show 2<=sizeLine;decide),(.cons ⟨_,rfl⟩ (.cons ⟨_,rfl⟩ .nil))⟩⟩⟩
theorem walk{l:W.OpenLaw}{q:Program}{loose:List Str}{XP:(Str->Option Value)->Heap->Prop}{YP:World->Heap->Prop}{d:DefRec}{K:Params->W.Frag}(hn:l.most=some 63)(hdf:d.params.defaults=[])(hY:∀(w:World)(h:Heap),YP w h->(K w.params).In h)(F:∀(w:World)(mg:Str->Option Value)(fa:Addr)(h:Heap),(K w.params).In h->h.Ns mainGlobals mg->mg d.name=some (.ref fa)->∃fd:FuncData,(∀(s:Shared)(u:Value),BindsTo s fd ⟨[u],[]⟩ [("_law_script",u)])/\∀base:Heap,(K w.params).In base->base.Ns mainGlobals mg->aW l.prog w (K w.params) mg base dW 12 fa fd ["_law_script"] (vN (K w.params))):W.WalkO q loose XP YP l.row.toRowW d [] (λf vs=>PySem.call f vs) :=
 L2.Ip (n:=63) (k:=12) (x:="_law_script") (CX:=λ_=>dW) (sp:=λw=>vN (K w.params)) hn 'b' hdf ⟨rfl,by decide,by decide⟩ hY F (λ_ _ a ns hl _ hS=>⟨a,ns,rfl,hS,hl,λ_=>rfl⟩) λ_ _ _ _ _ z=>z
end My
def PySem.W.Fast.tw2652956446394887660:Unit:=()
def PySem.W.Fast.tw9040979149525579420:Unit:=()
def PySem.W.Fast.tw3157686975956829341:Unit:=()
def PySem.W.Fast.tw2390922622663412747:Unit:=()
def PySem.W.Fast.tw14700795224894667530:Unit:=()
def PySem.W.Fast.tw3718094778347312918:Unit:=()
def PySem.W.Fast.tw17764219624254784198:Unit:=()
def PySem.W.Fast.tw8640208611727081906:Unit:=()
def PySem.W.Fast.tw4277748426629878842:Unit:=()
def PySem.W.Fast.tw6376219005661274280:Unit:=()
def PySem.W.Fast.tw13075607911547326353:Unit:=()
def PySem.W.Fast.tw14360909153295292161:Unit:=()
def PySem.W.Fast.tw7245608006651064608:Unit:=()
def PySem.W.Fast.tw7778102424218305449:Unit:=()
def PySem.W.Fast.tw16846147959974658972:Unit:=()
def PySem.W.Fast.tw1101941657608756764:Unit:=()
def PySem.W.Fast.tw16181962200380971989:Unit:=()
def PySem.W.Fast.tw5222434660474640296:Unit:=()
def PySem.W.Fast.tw12986887030870225017:Unit:=()
def PySem.W.Fast.tw7415691898029362830:Unit:=()
def PySem.W.Fast.tw3633571597860879158:Unit:=()
def PySem.W.Fast.tw8969817721502051925:Unit:=()
def PySem.W.Fast.tw5390548311575531451:Unit:=()
def PySem.W.Fast.tw306458357762339811:Unit:=()
def PySem.W.Fast.tw7549325306702925353:Unit:=()
def PySem.W.Fast.tw13965983846894907086:Unit:=()
def PySem.W.Fast.tw12237119281582632605:Unit:=()
def PySem.W.Fast.tw6896965846119961134:Unit:=()
def PySem.W.Fast.tw13300934229493084243:Unit:=()
def PySem.W.Fast.tw16491122082611288797:Unit:=()
def PySem.W.Fast.tw1509001524254544284:Unit:=()
def PySem.W.Fast.tw5288552921110417625:Unit:=()
def PySem.W.Fast.tw9118633100311748939:Unit:=()
def PySem.W.Fast.tw14683009245536460095:Unit:=()
def PySem.W.Fast.tw17300260748579654300:Unit:=()
def PySem.W.Fast.tw7449888691398802678:Unit:=()
def PySem.W.Fast.tw10154555018194955211:Unit:=()
def PySem.W.Fast.tw11748390413362386099:Unit:=()
def PySem.W.Fast.tw10259767755880174403:Unit:=()
def PySem.W.Fast.tw17616737298182403574:Unit:=()
def PySem.W.Fast.tw5199718920581518801:Unit:=()
def PySem.W.Fast.tw8894254743495936719:Unit:=()
def PySem.W.Fast.tw11615802132849597883:Unit:=()
def PySem.W.Fast.tw4283842005734702234:Unit:=()
def PySem.W.Fast.tw4408943001245063937:Unit:=()
def PySem.W.Fast.tw806242317152377951:Unit:=()
def PySem.W.Fast.tw13170542676148684491:Unit:=()
def PySem.W.Fast.tw18427106920107469412:Unit:=()
def PySem.W.Fast.tw15216830094931456743:Unit:=()
def PySem.W.Fast.tw2331333315205033831:Unit:=()
def PySem.W.Fast.tw5964104480656472588:Unit:=()
def PySem.W.Fast.tw5221280844957527665:Unit:=()
def PySem.W.Fast.tw7111849407433348350:Unit:=()
def PySem.W.Fast.tw3765980335188662621:Unit:=()
def PySem.W.Fast.tw4728387075330006884:Unit:=()
def PySem.W.Fast.tw11194108722760121417:Unit:=()
def PySem.W.Fast.tw9275566556747025170:Unit:=()
def PySem.W.Fast.tw591603188724342409:Unit:=()
def PySem.W.Fast.tw10509442205738919818:Unit:=()
def PySem.W.Fast.tw17945540954996754460:Unit:=()
def PySem.W.Fast.tw8873763516027783464:Unit:=()
def PySem.W.Fast.tw10387629294516128669:Unit:=()
def PySem.W.Fast.tw3638817171231475214:Unit:=()
def PySem.W.Fast.tw13899607912093545004:Unit:=()
def PySem.W.Fast.tw7062018319391438527:Unit:=()
def PySem.W.Fast.tw10371049249913224671:Unit:=()
def PySem.W.Fast.tw8929560437558849864:Unit:=()
def PySem.W.Fast.tw15412027641797243342:Unit:=()
def PySem.W.Fast.tw18248548837682372104:Unit:=()
def PySem.W.Fast.tw2800593876265478749:Unit:=()
def PySem.W.Fast.tw15381396076063627372:Unit:=()
def PySem.W.Fast.tw10525500616291199867:Unit:=()
def PySem.W.Fast.tw11555731562852334839:Unit:=()
def PySem.W.Fast.tw16198247683346498467:Unit:=()
def PySem.W.Fast.tw11253541020129235675:Unit:=()
def PySem.W.Fast.tw17884536180942274628:Unit:=()
def PySem.W.Fast.tw12686964980926012586:Unit:=()
def PySem.W.Fast.tw62689637736838614:Unit:=()
def PySem.W.Fast.tw10167774176200215693:Unit:=()
def PySem.W.Fast.tw14819406278511992024:Unit:=()
def PySem.W.Fast.tw12611622955631761606:Unit:=()
def PySem.W.Fast.tw2030978811104222200:Unit:=()
def PySem.W.Fast.tw15519941865854445759:Unit:=()
def PySem.W.Fast.tw9652701005571969615:Unit:=()
def PySem.W.Fast.tw3379503805884876452:Unit:=()
def PySem.W.Fast.tw3664836847744679979:Unit:=()
def PySem.W.Fast.tw17712420465793061165:Unit:=()
def PySem.W.Fast.tw16680384003145844375:Unit:=()
def PySem.W.Fast.tw11467957608146232376:Unit:=()
def PySem.W.Fast.tw12795287287316408054:Unit:=()
def PySem.W.Fast.tw8226665096066720185:Unit:=()
def PySem.W.Fast.tw16742178225476025622:Unit:=()
def PySem.W.Fast.tw8640243457234862315:Unit:=()
def PySem.W.Fast.tw7469725107596707395:Unit:=()
def PySem.W.Fast.tw2077393864500105921:Unit:=()
def PySem.W.Fast.tw7107014708292485253:Unit:=()
def PySem.W.Fast.tw17540793240885136487:Unit:=()
def PySem.W.Fast.tw9816507238623081164:Unit:=()
def PySem.W.Fast.tw14256542739927916874:Unit:=()
def PySem.W.Fast.tw1654393874399899475:Unit:=()
def PySem.W.Fast.tw7425649316113425974:Unit:=()
def PySem.W.Fast.tw7735607136634556352:Unit:=()
def PySem.W.Fast.tw13612054571783335073:Unit:=()
def PySem.W.Fast.tw10709949119377550783:Unit:=()
def PySem.W.Fast.tw12175733625288321909:Unit:=()
def PySem.W.Fast.tw3224408201968295368:Unit:=()
def PySem.W.Fast.tw17454428188389928793:Unit:=()
def PySem.W.Fast.tw1885655407957558757:Unit:=()
def PySem.W.Fast.tw8596242343879240191:Unit:=()
def PySem.W.Fast.tw12749746896411679104:Unit:=()
def PySem.W.Fast.tw15860231501840111939:Unit:=()
def PySem.W.Fast.tw4090564483794397011:Unit:=()
def PySem.W.Fast.tw16408183870690443341:Unit:=()
def PySem.W.Fast.tw5205118660319605280:Unit:=()
def PySem.W.Fast.tw2818538515053096894:Unit:=()
def PySem.W.Fast.tw16247545725147699865:Unit:=()
def PySem.W.Fast.tw5384623567904421536:Unit:=()
def PySem.W.Fast.tw1015966305878059679:Unit:=()
def PySem.W.Fast.tw17678595194067359808:Unit:=()
def PySem.W.Fast.tw2215311952767325104:Unit:=()
def PySem.W.Fast.tw3316023924947511678:Unit:=()
def PySem.W.Fast.tw5449455111297017932:Unit:=()
def PySem.W.Fast.tw13464111580896120035:Unit:=()
def PySem.W.Fast.tw13407989661140409825:Unit:=()
def PySem.W.Fast.tw6289665571086587166:Unit:=()
def PySem.W.Fast.tw16370978766165428708:Unit:=()
def PySem.W.Fast.tw9126937889128180950:Unit:=()
def PySem.W.Fast.tw1416246471582908292:Unit:=()
open PySem PySem.W PyProof.Rows
set_option maxRecDepth 100000 in
set_option maxHeartbeats 0 in
theorem PySem.Challenge.cw_dialecthall_k85_trees_least_deep_holds : PySem.Challenge.rw_dialecthall_k85_trees_least_deep.Holds := by
 w_on;o_law;k_head;(case hw=>w_witness2)
 k_fill
 refine My.walk (l:=PySem.Challenge.rw_dialecthall_k85_trees_least_deep) rfl rfl (fun w h Y=>W.kIn_of Y) ?F
 case F =>
  intro w mg fa h KX G hmg
  refine' My.all_mk KX G hmg ?_ ?_ ?gg ?rR ?j9 ?o6 ?_ ?_ ?_ ?_ ?_ ?_ ?_ ?_ ?_ ?_ ?_ ?_ ?_ ?_ ?_ ?_ ?_ ?_ ?_ ?_ ?_ ?_ ?_ ?_ ?_ ?_ ?_ ?_ ?_ ?_ ?_ ?_ ?_ ?_ ?_ ?_ ?_ ?_ ?_ ?_ ?_ ?_ ?_ ?_ ?_ ?_ ?_ ?_ ?_ ?_ ?_ ?_ ?_ ?_ ?_ ?_ ?_ ?_ ?_ ?_ ?_ ?_ ?_ ?_ ?_ ?_ ?_ ?_ ?_ ?_ ?_ ?_ ?_ ?_ ?_ ?_ ?_ ?gh ?gi ?_ ?gj ?_ ?_ ?_ ?rZ ?sd ?_ ?se ?kc ?kg ?_ ?kh ?o7 ?o8 ?_ ?o9 ?_ ?_ ?_ ?_ ?_ ?_ ?_ ?_ ?_ ?_ ?_ ?_ ?_ ?_ ?_ ?_ ?_ ?_ ?_ ?_ ?_ ?_ ?_ ?_ ?_ ?_ ?_ ?_
  (case gg=>k_is)
  (case rR=>k_is)
  (case j9=>k_is)
  (case o6=>k_is)
  (case gh=>k_is)
  (case gi=>k_is)
  (case gj=>k_is)
  (case rZ=>k_is)
  (case sd=>k_is)
  (case se=>k_is)
  (case kc=>k_is)
  (case kg=>k_is)
  (case kh=>k_is)
  (case o7=>k_is)
  (case o8=>k_is)
  (case o9=>k_is)
  all_goals try first | (refine' L2.FQ.of ?a ?l ?c ?k;(case a=>k_is);(case l=>k_is);(case c=>k_is);(case k=>k_is)) | (refine' L2.FV.of ?a ?i ?l ?c ?k;(case a=>k_is);(case i=>k_is);(case l=>k_is);(case c=>k_is);(case k=>k_is)) | (refine' L2.FE.of ?l ?c ?k;(case l=>k_is);(case c=>k_is);(case k=>k_is)) | k_is | rfl
