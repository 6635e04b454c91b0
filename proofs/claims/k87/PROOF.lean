import PyProof.Rows.All
import Wide.All
import OpenK.AllK
import Wide.FinOn
import Lean
import PyProof.EqAt
import PyProof.EqKinds
import PyProof.TupleCall
import KE.KSortTup
import PyProof.JoinWalk
import PyProof.DictIter
import PyProof.SeqI3
import PyProof.WalkInts
import PyProof.DictTruth
import PyProof.ListRange
import PyProof.DictWalks
import PyProof.Rows.SortWalk
import PySem.Challenge.RW_dialecthall_k87_trees_refused
set_option Elab.async false
set_option linter.all false
set_option maxRecDepth 100000
set_option hygiene false
local macro_rules
|`('a')=>`((λcdv A outer s H vs Q E hr h=>?_))
|`('b')=>`((by omega))
|`('c')=>`((by decide))
|`('d')=>`(model X.prog X.w)
|`('e')=>`((cB.mk ⟨_,_,_,_,_,_,_,_,_,_,_,_,_,_,bH⟩ ⟨_,_,_,_,_,bI,bq⟩ bJ))
|`('f')=>`((cB.mk ⟨_,_,_,_,_,_,_,_,_,_,_,_,_,_,br⟩ ⟨_,_,_,_,_,bu,aW⟩ bw))
|`('g')=>`(Addr×Obj)
|`('h')=>`((by decide +kernel))
theorem aaf:type_of% @PySem.wpAny_bind:=@PySem.wpAny_bind
theorem aag:type_of% @if_neg:=@if_neg
theorem aah:type_of% @Option.some.inj:=@Option.some.inj
theorem aai:type_of% @PySem.Heap.get?_push_of_some:=@PySem.Heap.get?_push_of_some
theorem aaj:type_of% @List.getElem?_eq_some_iff:=@List.getElem?_eq_some_iff
theorem aak:type_of% @List.length_map:=@List.length_map
theorem aal:type_of% @if_pos:=@if_pos
theorem aam:type_of% @List.size_toArray:=@List.size_toArray
theorem aan:type_of% @Nat.le_refl:=@Nat.le_refl
theorem aao:type_of% @PySem.Heap.lt_size:=@PySem.Heap.lt_size
theorem aap:type_of% @List.mem_singleton:=@List.mem_singleton
theorem aaq:type_of% @decide_eq_true:=@decide_eq_true
theorem aar:type_of% @PySem.wpAny_pure:=@PySem.wpAny_pure
theorem aas:type_of% @decide_eq_false:=@decide_eq_false
theorem aat:type_of% @List.mem_cons:=@List.mem_cons
theorem aau:type_of% @List.mem_of_getElem?:=@List.mem_of_getElem?
theorem aav:type_of% @Nat.lt_of_lt_of_le:=@Nat.lt_of_lt_of_le
theorem aaw:type_of% @Bool.false_ne_true:=@Bool.false_ne_true
theorem aax:type_of% @List.mem_cons_of_mem:=@List.mem_cons_of_mem
theorem aay:type_of% @Nat.le_trans:=@Nat.le_trans
theorem aaz:type_of% @PySem.Heap.get?_push_size:=@PySem.Heap.get?_push_size
theorem aaA:type_of% @List.length_cons:=@List.length_cons
theorem aaB:type_of% @List.all_eq_true:=@List.all_eq_true
theorem aaC:type_of% @List.mem_cons_self:=@List.mem_cons_self
theorem aaD:type_of% @Nat.lt_of_le_of_lt:=@Nat.lt_of_le_of_lt
theorem aaE:type_of% @Array.length_toList:=@Array.length_toList
theorem aaF:type_of% @List.map_append:=@List.map_append
theorem aaG:type_of% @List.mem_append_right:=@List.mem_append_right
theorem aaH:type_of% @Nat.ne_of_lt:=@Nat.ne_of_lt
theorem aaI:type_of% @List.mem_append:=@List.mem_append
theorem aaJ:type_of% @List.length_append:=@List.length_append
theorem aaK:type_of% @List.take_of_length_le:=@List.take_of_length_le
theorem aaL:type_of% @List.length_take:=@List.length_take
theorem aaM:type_of% @Int.emod_lt_of_pos:=@Int.emod_lt_of_pos
theorem aaN:type_of% @PySem.Heap.get?_update_other:=@PySem.Heap.get?_update_other
theorem aaO:type_of% @Int.emod_nonneg:=@Int.emod_nonneg
theorem aaP:type_of% @PySem.F.plainAttrs_list:=@PySem.F.plainAttrs_list
theorem aaQ:type_of% @PyProof.Rows.callWith_type1:=@PyProof.Rows.callWith_type1
theorem aaR:type_of% @List.getElem?_eq_getElem:=@List.getElem?_eq_getElem
theorem aaS:type_of% @decide_eq_true_iff:=@decide_eq_true_iff
theorem aaT:type_of% @PySem.F.slot_list_append:=@PySem.F.slot_list_append
theorem aaU:type_of% @PySem.F.type_list_append:=@PySem.F.type_list_append
theorem aaV:type_of% @List.mem_nil_iff:=@List.mem_nil_iff
theorem aaW:type_of% @List.getElem?_map:=@List.getElem?_map
theorem aaX:type_of% @of_decide_eq_true:=@of_decide_eq_true
theorem aaY:type_of% @Nat.zero_le:=@Nat.zero_le
theorem aaZ:type_of% @PySem.wpAny_field:=@PySem.wpAny_field
theorem aa0:type_of% @Bool.eq_iff_iff:=@Bool.eq_iff_iff
theorem aa1:type_of% @PySem.wpAny_mono:=@PySem.wpAny_mono
theorem aa2:type_of% @Array.getElem?_eq_some_iff:=@Array.getElem?_eq_some_iff
theorem aa3:type_of% @PySem.PassesOwn.never:=@PySem.PassesOwn.never
theorem aa4:type_of% @PySem.mem_of_lookup:=@PySem.mem_of_lookup
theorem aa5:type_of% @PySem.Heap.size_push:=@PySem.Heap.size_push
theorem aa6:type_of% @List.append_nil:=@List.append_nil
theorem aa7:type_of% @PySem.Obj.data_mapFields:=@PySem.Obj.data_mapFields
theorem aa8:type_of% @Bool.true_and:=@Bool.true_and
theorem aa9:type_of% @PySem.Heap.get?_update_self:=@PySem.Heap.get?_update_self
theorem abb:type_of% @PySem.wpAny_Call_Name_kw:=@PySem.wpAny_Call_Name_kw
theorem abd:type_of% @Nat.le_add_right:=@Nat.le_add_right
theorem abe:type_of% @Bool.false_and:=@Bool.false_and
theorem abf:type_of% @PySem.W.kia_one:=@PySem.W.kia_one
theorem abg:type_of% @PySem.wpAny_holding:=@PySem.wpAny_holding
theorem abh:type_of% @or_false:=@or_false
theorem abi:type_of% @Ne.symm:=@Ne.symm
theorem abj:type_of% @Bool.false_eq_true:=@Bool.false_eq_true
theorem abk:type_of% @PySem.Obj.isFreed_of_fields:=@PySem.Obj.isFreed_of_fields
theorem abl:type_of% @List.contains_cons:=@List.contains_cons
theorem abm:type_of% @Array.getElem?_setIfInBounds_ne:=@Array.getElem?_setIfInBounds_ne
theorem abn:type_of% @PySem.Heap.get?_none_of_le:=@PySem.Heap.get?_none_of_le
theorem abo:type_of% @List.all_map:=@List.all_map
theorem abp:type_of% @PySem.wpAny_loadPart_at:=@PySem.wpAny_loadPart_at
theorem abq:type_of% @List.length_range:=@List.length_range
theorem abr:type_of% @PySem.wpAny_getItem_str_slice:=@PySem.wpAny_getItem_str_slice
theorem abt:type_of% @List.lookup_cons:=@List.lookup_cons
theorem abu:type_of% @PySem.SeqAt.EqAt.of_refs:=@PySem.SeqAt.EqAt.of_refs
theorem abv:type_of% @PySem.wpAny_setField_rec:=@PySem.wpAny_setField_rec
theorem abw:type_of% @PySem.wpAny_passesOwn:=@PySem.wpAny_passesOwn
theorem abx:type_of% @List.nodup_cons:=@List.nodup_cons
theorem aby:type_of% @PySem.SeqAt.EqAt.same:=@PySem.SeqAt.EqAt.same
theorem abz:type_of% @Option.map_some:=@Option.map_some
theorem abA:type_of% @List.mem_iff_getElem?:=@List.mem_iff_getElem?
theorem abB:type_of% @List.map_cons:=@List.map_cons
theorem abC:type_of% @PySem.F.excBase_ValueError:=@PySem.F.excBase_ValueError
theorem abD:type_of% @beq_iff_eq:=@beq_iff_eq
theorem abE:type_of% @List.length_zip:=@List.length_zip
theorem O{α:Sort _}{a:α}:a=a:=rfl
namespace L2
open PySem PySem.Spec PyProof.Rows
abbrev Key:=Sum Int Str
def uo:Key->Value->Bool
 | .inl k,v=>Value.isInt k v
 | .inr x,v=>Value.isStrOf x v
def R8(w:World):Key->Int
 | .inl k=>hashInt k
 | .inr x=>hashStr w x
theorem ck:∀{k:Key}{v:Value},uo k v=true->(∃i t,k=Sum.inl i/\v=Value.int i t)\/(∃x t,k=Sum.inr x/\v=Value.str x t)
 | .inl i,v,h=>by
  obtain⟨t,e⟩:=Value.isInt_shape (k:=i) (v:=v) h
  exact .inl ⟨i,t,rfl,e⟩
 | .inr x,v,h=>by
  obtain⟨t,e⟩:=Value.isStrOf_shape (x:=x) (v:=v) h
  exact .inr ⟨x,t,rfl,e⟩
theorem HA(i:Int)(t:Tok):uo (.inl i) (.int i t)=true:=by simp[uo,Value.isInt]
theorem HB(x:Str)(t:Tok):uo (.inr x) (.str x t)=true:=by simp[uo,Value.isStrOf]
theorem Kc(a b:Int):decide ((Sum.inl a:Key)=Sum.inl b)=(a==b):=by
 by_cases e:a=b
 ·subst e;simp
 ·have h:¬(Sum.inl a:Key)=Sum.inl b:=λq=>e (Sum.inl.inj q)
  rw[aas h]
  exact(beq_eq_false_iff_ne.mpr e).symm
theorem Kd(a b:Str):decide ((Sum.inr a:Key)=Sum.inr b)=decide (a=b):=by
 by_cases e:a=b
 ·subst e;simp
 ·have h:¬(Sum.inr a:Key)=Sum.inr b:=λq=>e (Sum.inr.inj q)
  rw[aas h,aas e]
theorem Ke(a:Int)(b:Str):decide ((Sum.inl a:Key)=Sum.inr b)=false:=aas (λq=>nomatch q)
theorem Kf(a:Str)(b:Int):decide ((Sum.inr a:Key)=Sum.inl b)=false:=aas (λq=>nomatch q)
def kD(prog:Program)(w:World):PySem.KeyKind prog w Key where
 is:=uo
 hash:=R8 w
 inj:=λv a b ha hb=>by
  rcases ck ha with ⟨i,t,rfl,rfl⟩|⟨x,t,rfl,rfl⟩
  ·rcases ck hb with ⟨j,u,rfl,e⟩|⟨y,u,rfl,e⟩
   ·injection e with e1 _;rw[e1]
   ·exact nomatch e
  ·rcases ck hb with ⟨j,u,rfl,e⟩|⟨y,u,rfl,e⟩
   ·exact nomatch e
   ·injection e with e1 _;rw[e1]
 byValue:=λk v h=>by
  rcases ck h with ⟨i,t,rfl,rfl⟩|⟨x,t,rfl,rfl⟩<;>rfl
 pyHash:=λhv h=>by
  rcases ck hv with ⟨i,t,rfl,rfl⟩|⟨x,t,rfl,rfl⟩
  ·exact wpAny_pyHash_int h
  ·exact wpAny_pyHash_str h
 eqBool:=λhu hv h=>by
  rcases ck hu with ⟨i,t,rfl,rfl⟩|⟨x,t,rfl,rfl⟩
  ·rcases ck hv with ⟨j,u,rfl,rfl⟩|⟨y,u,rfl,rfl⟩
   ·rw[Kc]at h;exact wpAny_eqBool_int h
   ·rw[Ke]at h;exact SeqAt.EqAt.int_str i t y u _ _ _ _ h
  ·rcases ck hv with ⟨j,u,rfl,rfl⟩|⟨y,u,rfl,rfl⟩
   ·rw[Kf]at h;exact SeqAt.EqAt.str_int x t j u _ _ _ _ h
   ·rw[Kd]at h;exact wpAny_eqBool_str h
 «strs» := λk x t v h=>by
  rcases ck h with ⟨i,u,rfl,e⟩|⟨y,u,rfl,e⟩
  ·exact nomatch e
  ·injection e with e1 _
   subst e1
   cases v<;>rfl
theorem B3(prog:Program)(w:World)(i:Int)(t:Tok):(kD prog w).is (.inl i) (.int i t)=true:=HA i t
theorem B5(prog:Program)(w:World)(x:Str)(t:Tok):(kD prog w).is (.inr x) (.str x t)=true:=HB x t
inductive V where
 |non|bl (b:Bool)|int (i:Int)|str (x:Str)|JZ (b:Array UInt8)|uq (b:UInt64)|ref (a:Addr)|ty (n:String)
 deriving DecidableEq
def RelV:V->Value->Prop
 | .non,u=>u=Value.none
 | .bl b,u=>u=Value.bool b
 | .int i,u=>∃t,u=Value.int i t
 | .str x,u=>∃t,u=Value.str x t
 | .JZ b,u=>∃t,u=Value.bytes b t
 | .uq b,u=>∃t,u=Value.float b t
 | .ref a,u=>u=Value.ref a
 | .ty n,u=>u=Value.type n
abbrev Vals:List V->List Value->Prop:=Paired RelV
theorem Vals.length{xs:List V}{us:List Value}(r:Vals xs us):xs.length=us.length:=Paired.length r
theorem Vals.get:∀{xs:List V}{us:List Value}{i:Nat}{x:V},Vals xs us->xs[i]?=some x->∃u,us[i]?=some u/\RelV x u
 |_,_,_,_,.nil,e=>by simp at e
 |_,_,0,_,.cons r _,e=>by simp at e;subst e;exact⟨_,rfl,r⟩
 |_,_,i+1,x,.cons _ t,e=>by
  obtain⟨u,h1,h2⟩:=Vals.get (i:=i) (x:=x) t (by simpa using e)
  exact⟨u,by simpa using h1,h2⟩
theorem Vals.set{x:V}{u:Value}(r:RelV x u):∀{xs:List V}{us:List Value}(i:Nat),Vals xs us->Vals (xs.set i x) (us.set i u)
 |_,_,_,.nil=>.nil
 |_,_,0,.cons _ t=>.cons r t
 |_,_,i+1,.cons q t=>.cons q (Vals.set r i t)
theorem Vals.append:∀{xs ys:List V}{us ws:List Value},Vals xs us->Vals ys ws->Vals (xs++ys) (us++ws)
 |_,_,_,_,.nil,s=>s
 |_,_,_,_,.cons r t,s=>.cons r (Vals.append t s)
theorem Vals.take:∀{xs:List V}{us:List Value}(n:Nat),Vals xs us->Vals (xs.take n) (us.take n)
 |_,_,0,_=>.nil
 |_,_,_+1,.nil=>.nil
 |_,_,n+1,.cons r t=>.cons r (Vals.take n t)
theorem Vals.drop:∀{xs:List V}{us:List Value}(n:Nat),Vals xs us->Vals (xs.drop n) (us.drop n)
 |_,_,0,r=>r
 |_,_,_+1,.nil=>.nil
 |_,_,n+1,.cons _ t=>Vals.drop n t
def oB:Option V->Option Value->Prop
 |some v,some u=>RelV v u
 |none,none=>True
 |_,_=>False
def KV{κ:Type}:List (κ×V)->List (κ×Value)->Prop:=Paired λ(p:κ×V)(q:κ×Value)=>p.1=q.1/\RelV p.2 q.2
def kV:Key->V
 | .inl i=>.int i
 | .inr x=>.str x
inductive HO where
 |lst (xs:List V)
 |tup (xs:List V)
 |dK (kvs:List (Key×V))|dT (kvs:List (List Key×V))
 |set (S:Int->Bool) (n:Nat)
 |ins (C dx:Addr) (fs:List (Str×V))
 |own (x:Addr)
 |xd (fs:List (Str×V))
 |met (f x:Addr)
 |UD (lo hi:Int)
 |DZ (o:Obj) (u:HO)
 |OO (ps:Array Value)
 |ext (φ:Heap->Prop)
abbrev Hp:=Addr->Option HO
def upd(H:Hp)(a:Addr)(o:HO):Hp:=λb=>if b=a then some o else H b
theorem aj{H:Hp}{a:Addr}{o:HO}:upd H a o a=some o:=by unfold upd;rw[aal rfl]
theorem aB{H:Hp}{a b:Addr}{o:HO}(h:b≠a):upd H a o b=H b:=by unfold upd;rw[aag h]
theorem B6{H:Hp}{a b:Addr}{o u:HO}(h:H a=some o)(h':H b=some u)(d:o≠u):a≠b:=by
 intro e;subst e;rw[h]at h';exact d (aah h')
theorem aU{H:Hp}{a b:Addr}{o:HO}(h:H a=some o)(h':H b=none):a≠b:=by
 intro e;subst e;rw[h]at h';cases h'
section
variable(P:Program)(w:World)
def cS(H:Hp)(h:Heap)(a:Addr):HO->Prop
 | .lst xs=>xs.length<=sizeLine/\∃(its:List Value)(n:Nat),Vals xs its/\h.get? a=some {cls:=.type "list",data:=.seq its.toArray n}
 | .tup xs=>xs.length<=sizeLine/\∃its:List Value,Vals xs its/\IsTup h a its.toArray
 | .dK kvs=>kvs.length<=sizeLine/\(a==sysModules)=false/\∃vs,KV kvs vs/\h.DictOf (kD P w) a vs
 | .dT kvs=>kvs.length<=sizeLine/\(a==sysModules)=false/\∃xs:List (List Key×Addr×Value),Paired (λ(p:List Key×V)(q:List Key×Addr×Value)=>p.1=q.1/\H q.2.1=some (.tup (p.1.map kV))/\RelV p.2 q.2.2) kvs xs/\∃o es ep,h.get? a=some o/\o.ExactDict/\o.data=.dict es ep/\es.toList=xs.map (entryOfKey (tupleKind (kD P w)))/\(xs.map (·.1)).Nodup
 | .set S n=>h.SetOf (intKind P w) a S n
 | .ins C dx fs=>H dx=some (.own a)/\fs.length<=1000/\dx≠a/\h.get? a=some (W.instObj C dx)/\∃mA,h.Ns1 dx mA/\(∀f,oB (fs.lookup f) (mA f))/\PySem.Within mA (fs.map (·.1))
 | .own _=>∃o,h.get? a=some o
 | .xd fs=>∃mA,h.Ns1 a mA/\∀f,oB (fs.lookup f) (mA f)
 | .UD lo hi=>∃t u v,h.get? a=some {cls:=.type "range",data:=.fields #[.int lo t,.int hi u,.int 1 v]}
 | .DZ o u=>h.get? a=some o/\cS H h a u
 | .OO ps=>h.get? a=some {cls:=.none,data:=.fields ps}
 | .met f x=>h.get? a=some (W.methodObj (.ref f) (.ref x))
 | .ext φ=>φ h/\(∃o,h.get? a=some o)/\∀h1 h2:Heap,φ h1->(∀o,h1.get? a=some o->h2.get? a=some o)->φ h2
def sP(H:Hp)(h:Heap):Prop:=∀a o,H a=some o->cS P w H h a o
end
section
variable{P:Program}{w:World}{H H':Hp}{h h':Heap}{a:Addr}{o:HO}
theorem cS.lt(x:cS P w H h a o):a<h.objs.size:=by
 cases o with
 |lst xs=>obtain⟨_,_,_,_,e⟩:=x;exact aao e
 |tup xs=>obtain⟨_,_,_,p⟩:=x;exact p.lt
 |dK kvs=>obtain⟨_,_,_,_,o,_,_,e,_⟩:=x;exact aao e
 |dT kvs=>obtain⟨_,_,_,_,o,_,_,e,_⟩:=x;exact aao e
 |set S n=>obtain⟨o,_,_,_,e,_⟩:=x;exact aao e
 |ins C dx fs=>obtain⟨_,_,_,e,_⟩:=x;exact aao e
 |own y=>obtain⟨_,e⟩:=x;exact aao e
 |xd fs=>obtain⟨_,⟨_,_,_,e,_⟩,_⟩:=x;exact aao e
 |UD lo hi=>obtain⟨_,_,_,e⟩:=x;exact aao e
 |DZ ob u=>obtain⟨e,_⟩:=x;exact aao e
 |OO ps=>exact aao (show h.get? a=some _ from x)
 |met f y=>exact aao (show h.get? a=some _ from x)
 |ext φ=>obtain⟨_,⟨_,e⟩,_⟩:=x;exact aao e
theorem Paired.Kg{α β:Type}{F G:α->β->Prop}:∀{l₁:List α}{l₂:List β},Paired F l₁ l₂->(∀a b,F a b->G a b)->Paired G l₁ l₂
 |_,_,.nil,_=>.nil
 |_,_,.cons r t,f=>.cons (f _ _ r) (Paired.Kg t f)
theorem cS.stay(x:cS P w H h a o)(k:∀b u,(b=a\/H b=some (.own a))->h.get? b=some u->h'.get? b=some u)(ho:∀b,H b=some (.own a)->H' b=some (.own a))(ht:∀b xs,H b=some (.tup xs)->H' b=some (.tup xs)):cS P w H' h' a o:=by
 induction o with
 |lst xs=>obtain⟨z,its,n,r,e⟩:=x;exact⟨z,its,n,r,k _ _ (.inl rfl) e⟩
 |tup xs=>obtain⟨z,its,r,ob,e,c⟩:=x;exact⟨z,its,r,ob,k _ _ (.inl rfl) e,c⟩
 |dK kvs=>obtain⟨z,y,vs,r,ob,es,ep,e,c⟩:=x;exact⟨z,y,vs,r,ob,es,ep,k _ _ (.inl rfl) e,c⟩
 |dT kvs =>
  obtain⟨z,y,xs,r,ob,es,ep,e,c⟩:=x
  exact⟨z,y,xs,Paired.Kg r λp q z=>⟨z.1,ht _ _ z.2.1,z.2.2⟩,ob,es,ep,k _ _ (.inl rfl) e,c⟩
 |set S n=>obtain⟨ob,es,ep,t,e,c⟩:=x;exact⟨ob,es,ep,t,k _ _ (.inl rfl) e,c⟩
 |ins C dx fs =>
  obtain⟨d,z,ne,e,mA,⟨od,es,ep,e2,c⟩,r⟩:=x
  exact⟨ho _ d,z,ne,k _ _ (.inl rfl) e,mA,⟨od,es,ep,k _ _ (.inr d) e2,c⟩,r⟩
 |own y=>obtain⟨ob,e⟩:=x;exact⟨ob,k _ _ (.inl rfl) e⟩
 |xd fs=>obtain⟨mA,⟨od,es,ep,e,c⟩,r⟩:=x;exact⟨mA,⟨od,es,ep,k _ _ (.inl rfl) e,c⟩,r⟩
 |UD lo hi=>obtain⟨t,u,v,e⟩:=x;exact⟨t,u,v,k _ _ (.inl rfl) e⟩
 |DZ ob u ih=>obtain⟨e,q⟩:=x;exact⟨k _ _ (.inl rfl) e,ih q⟩
 |OO ps =>
  have e:h.get? a=some {cls:=.none,data:=.fields ps}:=x
  show h'.get? a=some {cls:=.none,data:=.fields ps}
  exact k a _ (.inl rfl) e
 |met f y =>
  have e:h.get? a=some (W.methodObj (.ref f) (.ref y)):=x
  show h'.get? a=some (W.methodObj (.ref f) (.ref y))
  exact k a _ (.inl rfl) e
 |ext φ=>obtain⟨p,⟨o,e⟩,st⟩:=x;exact⟨st _ _ p λo q=>k _ _ (.inl rfl) q,⟨o,k _ _ (.inl rfl) e⟩,st⟩
theorem sP.lt(x:sP P w H h)(e:H a=some o):a<h.objs.size:=(x a o e).lt
theorem sP.fresh(x:sP P w H h)(e:h.objs.size<=a):H a=none:=by
 cases q:H a with
 |none=>rfl
 |some u=>exact absurd (aav (x.lt q) e) (Nat.lt_irrefl _)
theorem sP.kept(x:sP P w H h)(k:∀b u,h.get? b=some u->h'.get? b=some u):sP P w H h':=λa o e =>
 (x a o e).stay (λb u _ q=>k b u q) (λ_ q=>q) λ_ _ q=>q
theorem sP.laid(x:sP P w H h)(k:∀b u,h.get? b=some u->h'.get? b=some u)(hp:h.objs.size<=a)(new:cS P w (upd H a o) h' a o):sP P w (upd H a o) h':=λb u e=>by
 have hn:=x.fresh hp
 by_cases hb:b=a
 ·subst hb;rw[aj]at e;cases e;exact new
 ·rw[aB hb]at e
  exact(x b u e).stay (λc v _ q=>k c v q) (λc q=>by rw[aB (aU q hn)];exact q) λc xs q=>by rw[aB (aU q hn)];exact q
end
def Rd(H:Hp)(a:Addr)(u:HO):Prop:=H a=some u\/∃o,H a=some (.DZ o u)
theorem Rd.ok{P:Program}{w:World}{H:Hp}{h:Heap}{a:Addr}{u:HO}(r:Rd H a u)(x:sP P w H h):cS P w H h a u:=by
 rcases r with r|⟨o,r⟩
 ·exact x a u r
 ·obtain⟨_,q⟩:=x a _ r
  exact q
def UE:Option HO->Prop
 |some (.lst _)=>True
 |some (.dK _)=>True
 |some (.dT _)=>True
 |some (.set _ _)=>True
 |some (.ins _ _ _)=>True
 |some (.ext _)=>True
 |_=>False
section
variable{P:Program}{w:World}{H:Hp}{h h':Heap}{x e:Addr}{o':HO}
theorem sP.write(ok:sP P w H h)(mu:UE (H x))(he:e=x\/H e=some (.own x))(k:∀b u,b≠e->h.get? b=some u->h'.get? b=some u)(RK:∃u,h'.get? e=some u)(new:cS P w (upd H x o') h' x o'):sP P w (upd H x o') h':=λb u q=>by
 have R9:∀c y,H c=some (.own y)->c≠x:=λc y r z=>by subst z;rw[r]at mu;exact mu
 have Vj:∀c xs,H c=some (.tup xs)->c≠x:=λc xs r z=>by subst z;rw[r]at mu;exact mu
 by_cases hb:b=x
 ·subst hb;rw[aj]at q;cases q;exact new
 ·rw[aB hb]at q
  by_cases Pj:b=e
  ·have q':H b=some (.own x):=by
    rcases he with z|z
    ·exact absurd (Pj.trans z) hb
    ·rw[Pj];exact z
   rw[q]at q';cases q'
   obtain⟨v,hv⟩:=RK
   exact⟨v,by rw[Pj];exact hv⟩
  ·refine(ok b u q).stay (λc v hc r=>k c v ?_ r) (λc r=>by rw[aB (R9 c b r)];exact r) λc xs r=>by rw[aB (Vj c xs r)];exact r
   rcases hc with rfl|hc
   ·exact Pj
   ·rintro rfl
    rcases he with z|z
    ·exact R9 c b hc z
    ·rw[hc]at z;cases z;exact hb rfl
end
structure Un(fs ex:List Addr)(H H':Hp)(h h':Heap):Prop where
 keep:∀b o,h.get? b=some o->H b=none->b∉fs->b∉ex->h'.get? b=some o
 slot:∀b o,h.get? b=some o->H b=none->b∈fs->b∉ex->∃sl,h'.get? b=some {o with slots:=sl}
 free:∀b o,h.get? b=some o->H b=none->b∉ex->H' b=none
 there:∀b o,h.get? b=some o->b∉ex->∃o',h'.get? b=some o'
 tups:∀b xs,H b=some (.tup xs)->H' b=some (.tup xs)
 oE:∀b o u,H b=some (.DZ o u)->H' b=some (.DZ o u)
 qf:∀b ps,H b=some (.OO ps)->∃more,H' b=some (.OO (ps++more))
section
variable{fs fs' ex ex':List Addr}{H H1 H2:Hp}{h h1 h2 h':Heap}{a x e:Addr}{o:HO}
theorem Un.any(u:Un fs ex H H1 h h1){b:Addr}{ob:Obj}(q:h.get? b=some ob)(n:H b=none)(hx:b∉ex):∃sl,h1.get? b=some {ob with slots:=sl}:=by
 by_cases hb:b∈fs
 ·exact u.slot b ob q n hb hx
 ·exact⟨ob.slots,u.keep b ob q n hb hx⟩
theorem Un.trans(a:Un fs ex H H1 h h1)(b:Un fs ex H1 H2 h1 h2):Un fs ex H H2 h h2 where
 keep:=λc ob q n hc hx=>b.keep c ob (a.keep c ob q n hc hx) (a.free c ob q n hx) hc hx
 slot:=λc ob q n hc hx=>by
  obtain⟨sl,e1⟩:=a.slot c ob q n hc hx
  obtain⟨Vk,e2⟩:=b.slot c _ e1 (a.free c ob q n hx) hc hx
  exact⟨Vk,e2⟩
 free:=λc ob q n hx=>by
  obtain⟨o',e1⟩:=a.there c ob q hx
  exact b.free c o' e1 (a.free c ob q n hx) hx
 there:=λc ob q hx=>by
  obtain⟨o',e1⟩:=a.there c ob q hx
  exact b.there c o' e1 hx
 tups:=λc xs q=>b.tups c xs (a.tups c xs q)
 oE:=λc ob xs q=>b.oE c ob xs (a.oE c ob xs q)
 qf:=λc ps q=>by
  obtain⟨m1,e1⟩:=a.qf c ps q
  obtain⟨m2,e2⟩:=b.qf c _ e1
  exact⟨m1++m2,by rw[e2,Array.append_assoc]⟩
theorem Un.kept(k:∀b u,h.get? b=some u->h'.get? b=some u):Un fs ex H H h h' :=
 ⟨λb ob q _ _ _=>k b ob q,λb ob q _ _ _=>⟨ob.slots,k b ob q⟩,λ_ _ _ n _=>n,λb ob q _=>⟨ob,k b ob q⟩,λ_ _ q=>q,λ_ _ _ q=>q,λ_ ps q=>⟨#[],by rw[q];simp⟩⟩
theorem Un.refl:Un fs ex H H h h:=Un.kept λ_ _ q=>q
theorem Un.laid(k:∀b u,h.get? b=some u->h'.get? b=some u)(hp:h.objs.size<=a)(hn:H a=none):Un fs ex H (upd H a o) h h' where
 keep:=λb u q _ _ _=>k b u q
 slot:=λb u q _ _ _=>⟨u.slots,k b u q⟩
 free:=λb u q n _=>by rw[aB (aaH (aav (aao q) hp))];exact n
 there:=λb u q _=>⟨u,k b u q⟩
 tups:=λb xs q=>by rw[aB (aU q hn)];exact q
 oE:=λb u xs q=>by rw[aB (aU q hn)];exact q
 qf:=λb ps q=>⟨#[],by rw[aB (aU q hn),q];simp⟩
theorem Un.write(mu:UE (H x))(he:e=x\/H e=some (.own x))(k:∀b u,b≠e->h.get? b=some u->h'.get? b=some u)(RK:∃u,h'.get? e=some u):Un fs ex H (upd H x o) h h':=by
 have hx:∀b,H b=none->b≠x:=λb n z=>by subst z;rw[n]at mu;exact mu
 have hb:∀b,H b=none->b≠e:=λb n z=>by
  subst z
  rcases he with r|r
  ·exact hx b n r
  ·rw[n]at r;cases r
 have hm:∀b u,H b=some u->¬UE (some u)->b≠x:=λb u q nm z=>by subst z;rw[q]at mu;exact nm mu
 refine⟨λb u q n _ _=>k b u (hb b n) q,λb u q n _ _=>⟨u.slots,k b u (hb b n) q⟩,λb u q n _=>by rw[aB (hx b n)];exact n,λb u q _=>?_,λb xs q=>by rw[aB (hm b _ q λz=>z)];exact q,λb u xs q=>by rw[aB (hm b _ q λz=>z)];exact q,λb ps q=>⟨#[],by rw[aB (hm b _ q λz=>z),q];simp⟩⟩
 by_cases Pj:b=e
 ·subst Pj;exact RK
 ·exact⟨u,k b u Pj q⟩
end
def UG(h:Heap)(H:Hp):List Addr:=(List.range h.objs.size).filter λa=>(H a).isSome
def zX(h:Heap)(H:Hp):Heap:=W.hideAll h (UG h H)
theorem HC(h:Heap)(H:Hp):(zX h H).objs.size=h.objs.size:=W.hideAll_size _ _
theorem Kh{h:Heap}{H:Hp}{b:Addr}{o:Obj}(e:h.get? b=some o)(n:H b=none):(zX h H).get? b=some o :=
 W.hideAll_get _ e λhm=>by
  have q:(H b).isSome=true:=(List.mem_filter.mp hm).2
  rw[n]at q;simp at q
theorem MY{h:Heap}{H:Hp}{b:Addr}{o:Obj}(e:(zX h H).get? b=some o):h.get? b=some o/\H b=none:=by
 have e':h.get? b=some o:=W.of_hideAll (UG h H) e
 refine⟨e',?_⟩
 cases q:H b with
 |none=>rfl
 |some x =>
  have hm:b∈UG h H:=List.mem_filter.mpr ⟨List.mem_range.mpr (aao e'),by simp[q]⟩
  have z:(zX h H).get? b=none:=W.hideAll_none (UG h H) hm
  rw[z]at e;cases e
def MZ(g h:Heap)(L:Addr):List 'g':=(List.range h.objs.size).filterMap λa=>if a=L\/(g.get? a).isSome=true then none else (h.get? a).map λo=>(a,o)
def rest(g h:Heap)(L d:Addr):List 'g':=(MZ g h L).filter λp=>decide (p.1≠d)
structure Mod(K:W.Frag)(mg:Str->Option Value)(base:Heap):Prop where
 gk:K.In base
 glob:base.Ns mainGlobals mg
 blt:∃mb,base.Ns builtinsNs mb/\∀x:Str,x ≠ "__name__"->mb x=bootBuiltins x
 nolimit:base.NoLimit
structure Cx where
 prog:Program
 w:World
 K:W.Frag
 mg:Str->Option Value
 base:Heap
 A:Around
 N:List Str
 s₀:Shared
 H₀:Hp
 env:Env
 outer:List Env
 stack:List Env
 ex:List Addr
 fn:Str->Bool
 calm:Bool
 pn:List 'g'
 xe:Value->Shared->Prop
def frs(l:List Env):List Addr:=l.filterMap (·.frame)
abbrev Cx.fs(X:Cx):List Addr:=frs X.outer
def Vl(sc:Scope)(x:Str):Prop:=sc.names.lookup x=some .local\/sc.names.lookup x=some .cell\/sc.names.lookup x=some .free
def Loc(sc:Scope)(x:Str):Prop:=sc.names.lookup x=some .local\/sc.names.lookup x=some .cell
def Look(env:Env)(h:Heap)(m:Str->Option Value)(x:Str)(u:Value):Prop :=
 (env.kindOf x=some .local/\m x=some u)\/((env.kindOf x=some .cell\/env.kindOf x=some .free)/\∃c,env.cells.lookup x=some c/\h.IsCell c (some u))
structure Cx.Ok(X:Cx):Prop where
 mod:Mod X.K X.mg X.base
 kind:X.env.scope.kind=.function
 glob:X.env.globals=mainGlobals
 blt:X.env.builtins=builtinsNs
 above:X.s₀.heap.objs.size<=X.env.locals
 inj:∀x y c,X.env.cells.lookup x=some c->X.env.cells.lookup y=some c->x=y
 has:∀x,(X.env.kindOf x=some .cell\/X.env.kindOf x=some .free)->∃c,X.env.cells.lookup x=some c
 Pk:∀x c,X.fn x=true->X.env.cells.lookup x=some c->X.s₀.heap.objs.size<=c
 hd:X.calm=true->X.A.handled=none
 frames:X.A.frames=some X.stack
 stk:X.stack=X.outer\/(X.stack=X.env::X.outer/\X.env.frame=some X.env.locals)
 UH:∀b∈X.ex,b≠X.env.locals/\∀x c,X.env.cells.lookup x=some c->c≠b
 bs:∀b o,X.base.get? b=some o->X.s₀.heap.get? b=some o/\X.H₀ b=none
 HD:X.base.objs.size<=X.s₀.heap.objs.size
 D0:∀b o,X.base.get? b=some o->b∉X.ex
 HE:∀b∈X.ex,b∉X.fs
 oF:X.s₀.heap.FunFrames X.base X.outer
 Kl:∀b∈X.fs,X.H₀ b=none
structure Inv(X:Cx)(pins:List 'g')(σ:List (Option V))(H:Hp)(s:Shared):Prop where
 ok:X.Ok
 os:s.os=X.s₀.os
 bare:AllBare s.gens
 base:Un X.fs X.ex X.H₀ H X.s₀.heap s.heap
 loc:∃m,s.heap.Ns X.env.locals m/\∀(i:Nat)(x:Str)(v:V),X.N[i]?=some x->σ[i]?=some (some v)->Vl X.env.scope x->∃u,RelV v u/\Look X.env s.heap m x u
 cell:∀x c,X.env.cells.lookup x=some c->∃v,s.heap.IsCell c v
 free:H X.env.locals=none
 gJ:∀x c,X.env.cells.lookup x=some c->H c=none
 pin:∀p∈X.pn++pins,s.heap.get? p.1=some p.2/\H p.1=none/\p.1≠X.env.locals/\p.1∉X.fs/\∀v,p.2.data≠.cell v
 hok:sP X.prog X.w H s.heap
 len:σ.length=X.N.length
section
variable{X:Cx}{pins:List 'g'}{σ:List (Option V)}{H H':Hp}{s:Shared}{h':Heap}
theorem Cx.Ok.Vm(ok:X.Ok){b:Addr}{o:Obj}(e:X.base.get? b=some o):b∉X.fs:=λhb=>by
 have:=(ok.oF.mem hb).1
 rw[e]at this;cases this
theorem Inv.bs(I:Inv X pins σ H s):∀b o,X.base.get? b=some o->s.heap.get? b=some o/\H b=none:=λb o e =>
 ⟨I.base.keep b o (I.ok.bs b o e).1 (I.ok.bs b o e).2 (I.ok.Vm e) (I.ok.D0 b o e),I.base.free b o (I.ok.bs b o e).1 (I.ok.bs b o e).2 (I.ok.D0 b o e)⟩
theorem Inv.bk(I:Inv X pins σ H s):∀b o,X.base.get? b=some o->s.heap.get? b=some o:=λb o e=>(I.bs b o e).1
theorem Inv.mod(I:Inv X pins σ H s):Mod X.K X.mg X.base:=I.ok.mod
theorem Inv.jd(I:Inv X pins σ H s):X.K.In s.heap:=I.ok.mod.gk.keeps I.bk
theorem Inv.lt(I:Inv X pins σ H s):X.env.locals<s.heap.objs.size:=let ⟨_,hn,_⟩:=I.loc;hn.lt
theorem Inv.sz(I:Inv X pins σ H s):X.s₀.heap.objs.size<=s.heap.objs.size:=aay I.ok.above (Nat.le_of_lt I.lt)
theorem Inv.Vn(I:Inv X pins σ H s){a:Addr}(h:s.heap.objs.size<=a):a∉X.fs:=λhb=>by
 obtain⟨_,o,ho,_⟩:=I.ok.oF.mem hb
 exact absurd (aav (aao ho) (aay I.sz h)) (Nat.lt_irrefl _)
theorem Inv.M0(I:Inv X pins σ H s):∀x c,X.env.cells.lookup x=some c->c≠X.env.locals:=λx c e z=>by
 obtain⟨v,o,ho,hd⟩:=I.cell x c e
 obtain⟨m,⟨o',es,ep,ho',hd',_⟩,_⟩:=I.loc
 rw[z,ho']at ho;cases ho;rw[hd']at hd;cases hd
theorem Inv.oF(I:Inv X pins σ H s):s.heap.FunFrames X.base X.outer:=by
 have all:∀(l:List Env),(∀b∈frs l,b∈X.fs)->X.s₀.heap.FunFrames X.base l->s.heap.FunFrames X.base l:=by
  intro l
  induction l with
  |nil=>intro _ _;trivial
  |cons env r ih =>
   intro hs hl
   obtain⟨hk,⟨L,o,hf,hn,ho,hd⟩,hr⟩:=hl
   have hL:L∈X.fs:=hs L (by unfold frs;rw[List.filterMap_cons,hf];exact aaC)
   obtain⟨sl,e⟩:=I.base.slot L o ho (I.ok.Kl L hL) hL λz=>I.ok.HE L z hL
   exact⟨hk,⟨L,_,hf,hn,e,hd⟩,ih (λb hb=>hs b (by unfold frs;rw[List.filterMap_cons,hf];exact aax _ hb)) hr⟩
 exact all X.outer (λ_ hb=>hb) I.ok.oF
theorem Inv.stack(I:Inv X pins σ H s):s.heap.FunFrames X.base X.stack:=by
 rcases I.ok.stk with e|⟨e,hf⟩
 ·rw[e];exact I.oF
 ·rw[e]
  obtain⟨m,hn,_⟩:=I.loc
  refine .cons (by rw[I.ok.kind];decide) hf hn ?_ I.oF
  exact abn (aay I.ok.HD I.ok.above)
theorem Inv.sR(I:Inv X pins σ H s):∀b∈frs X.stack,b∈X.env.locals::X.fs:=λb hb=>by
 rcases I.ok.stk with e|⟨e,hf⟩
 ·rw[e]at hb;exact aax _ hb
 ·rw[e]at hb
  unfold frs at hb
  rw[List.filterMap_cons,hf]at hb
  exact hb
theorem Inv.zY(I:Inv X pins σ H s):∀b∈frs X.stack,H b=none:=λb hb=>by
 rcases aat.mp (I.sR b hb) with e|hb
 ·rw[e];exact I.free
 ·obtain⟨_,o,ho,_⟩:=I.ok.oF.mem hb
  exact I.base.free b o ho (I.ok.Kl b hb) λz=>I.ok.HE b z hb
theorem Inv.step{g':Array GenState}{t':Nat}{d':Drawn}{ch:List Addr}(I:Inv X pins σ H s)(hch:∀b∈ch,(b∈X.ex\/X.s₀.heap.objs.size<=b)/\b≠X.env.locals/\(∀x c,X.env.cells.lookup x=some c->c≠b)/\∀p∈X.pn++pins,p.1≠b)(keep:∀b o,b≠X.env.locals->b∉X.fs->b∉ch->s.heap.get? b=some o->H b=none->h'.get? b=some o)(slot:∀b o,b≠X.env.locals->b∈X.fs->b∉ch->s.heap.get? b=some o->H b=none->∃sl,h'.get? b=some {o with slots:=sl})(free:∀b o,b∉ch->s.heap.get? b=some o->H b=none->H' b=none)(there:∀b o,b∉ch->s.heap.get? b=some o->∃o',h'.get? b=some o')(tups:∀b xs,H b=some (.tup xs)->H' b=some (.tup xs))(oE:∀b o u,H b=some (.DZ o u)->H' b=some (.DZ o u))(qf:∀b ps,H b=some (.OO ps)->∃more,H' b=some (.OO (ps++more)))(ns:∀m,s.heap.Ns X.env.locals m->h'.Ns X.env.locals m)(hok:sP X.prog X.w H' h')(hg:AllBare g'):Inv X pins σ H' {s with heap:=h',gens:=g',drawn:=d',toks:=t'}:=by
 have UI:∀b o,X.s₀.heap.get? b=some o->b≠X.env.locals:=λb o e=>aaH (aav (aao e) I.ok.above)
 have UJ:∀b o,X.s₀.heap.get? b=some o->b∉X.ex->b∉ch:=λb o e hx hb=>by
  rcases(hch b hb).1 with z|z
  ·exact hx z
  ·exact absurd (aav (aao e) z) (Nat.lt_irrefl _)
 have cellK:∀x c,X.env.cells.lookup x=some c->∀v,s.heap.IsCell c v->h'.IsCell c v:=λx c e v ⟨o,ho,hd⟩=>by
  have MN:c∉ch:=λz=>(hch c z).2.2.1 x c e rfl
  by_cases hc:c∈X.fs
  ·obtain⟨sl,q⟩:=slot c o (I.M0 x c e) hc MN ho (I.gJ x c e)
   exact⟨_,q,hd⟩
  ·exact⟨o,keep c o (I.M0 x c e) hc MN ho (I.gJ x c e),hd⟩
 refine⟨I.ok,I.os,hg,⟨λb o e n hb hx=>?_,λb o e n hb hx=>?_,λb o e n hx=>?_,λb o e hx=>?_,λb xs e=>tups b xs (I.base.tups b xs e),λb o xs e=>oE b o xs (I.base.oE b o xs e),λb ps e=>?_⟩,?_,λx c e=>?_,?_,λx c e=>?_,λp hp=>?_,hok,I.len⟩
 ·exact keep b o (UI b o e) hb (UJ b o e hx) (I.base.keep b o e n hb hx) (I.base.free b o e n hx)
 ·obtain⟨sl,e1⟩:=I.base.slot b o e n hb hx
  obtain⟨Vk,e2⟩:=slot b _ (UI b o e) hb (UJ b o e hx) e1 (I.base.free b o e n hx)
  exact⟨Vk,e2⟩
 ·obtain⟨o',e1⟩:=I.base.there b o e hx
  exact free b o' (UJ b o e hx) e1 (I.base.free b o e n hx)
 ·obtain⟨o',e1⟩:=I.base.there b o e hx
  exact there b o' (UJ b o e hx) e1
 ·obtain⟨m1,e1⟩:=I.base.qf b ps e
  obtain⟨m2,e2⟩:=qf b _ e1
  exact⟨m1++m2,by rw[e2,Array.append_assoc]⟩
 ·obtain⟨m,hn,hl⟩:=I.loc
  refine⟨m,ns m hn,λi x v e1 e2 e3=>?_⟩
  obtain⟨u,r,l⟩:=hl i x v e1 e2 e3
  refine⟨u,r,?_⟩
  rcases l with l|⟨k,c,e,z⟩
  ·exact .inl l
  ·exact .inr ⟨k,c,e,cellK x c e _ z⟩
 ·obtain⟨v,z⟩:=I.cell x c e
  exact⟨v,cellK x c e v z⟩
 ·obtain⟨m,⟨o,_,_,ho,_⟩,_⟩:=I.loc
  exact free _ o (λz=>(hch _ z).2.1 rfl) ho I.free
 ·obtain⟨v,o,ho,hd⟩:=I.cell x c e
  exact free c o (λz=>(hch c z).2.2.1 x c e rfl) ho (I.gJ x c e)
 ·obtain⟨e,n,ne,nf,d⟩:=I.pin p hp
  have MN:p.1∉ch:=λz=>(hch p.1 z).2.2.2 p hp rfl
  exact⟨keep p.1 p.2 ne nf MN e n,free p.1 p.2 MN e n,ne,nf,d⟩
theorem Inv.un{t':Nat}(I:Inv X pins σ H s)(u:Un X.fs [] H H' s.heap h')(hok:sP X.prog X.w H' h'):Inv X pins σ H' {s with heap:=h',toks:=t'}:=by
 obtain⟨m,⟨o,es,ep,ho,r⟩,_⟩:=id I.loc
 obtain⟨sl,hL⟩:=u.any ho I.free (by simp)
 exact I.step (g':=s.gens) (d':=s.drawn) (ch:=[]) (λ_ z=>nomatch z) (λb o _ hb _ e n=>u.keep b o e n hb (by simp)) (λb o _ hb _ e n=>u.slot b o e n hb (by simp)) (λb o _ e n=>u.free b o e n (by simp)) (λb o _ e=>u.there b o e (by simp)) u.tups u.oE u.qf (λm' hm=>by
  obtain⟨o',es',Vo,ho',r'⟩:=hm
  rw[ho]at ho';cases ho'
  exact⟨_,es',Vo,hL,r'⟩) hok I.bare
theorem Inv.call{g':Array GenState}{t':Nat}{d':Drawn}{ch:List Addr}(I:Inv X pins σ H s)(u:Un (frs X.stack) ch H H' s.heap h')(hok:sP X.prog X.w H' h')(hg:AllBare g')(hch:∀b∈ch,(b∈X.ex\/X.s₀.heap.objs.size<=b)/\b≠X.env.locals/\(∀x c,X.env.cells.lookup x=some c->c≠b)/\∀p∈X.pn++pins,p.1≠b):Inv X pins σ H' {s with heap:=h',gens:=g',drawn:=d',toks:=t'}:=by
 obtain⟨m,⟨o,es,ep,ho,r⟩,_⟩:=id I.loc
 obtain⟨sl,hL⟩:=u.any ho I.free λz=>(hch _ z).2.1 rfl
 exact I.step (ch:=ch) hch (λb o hL hb hc e n=>u.keep b o e n (λz=>(aat.mp (I.sR b z)).elim hL hb) hc) (λb o _ _ hc e n=>u.any e n hc) (λb o hc e n=>u.free b o e n hc) (λb o hc e=>u.there b o e hc) u.tups u.oE u.qf (λm' hm=>by
  obtain⟨o',es',Vo,ho',r'⟩:=hm
  rw[ho]at ho';cases ho'
  exact⟨_,es',Vo,hL,r'⟩) hok hg
theorem Inv.turned{t':Nat}{it:Addr}(I:Inv X pins σ H s)(k:∀b o,b≠it->s.heap.get? b=some o->h'.get? b=some o)(hn:H it=none)(hL:it≠X.env.locals)(h1:it∈X.ex\/X.s₀.heap.objs.size<=it)(h2:∀x c,X.env.cells.lookup x=some c->c≠it)(h3:∀p∈X.pn++pins,p.1≠it):Inv X pins σ H {s with heap:=h',toks:=t'}:=by
 have Sa:∀b u,H b=some u->b≠it:=λb u e z=>by rw[z,hn]at e;cases e
 refine I.step (g':=s.gens) (d':=s.drawn) (ch:=[it]) (λb hb=>?_) (λb o _ _ hc e _=>k b o (λz=>hc (by simp[z])) e) (λb o _ _ hc e _=>⟨o.slots,k b o (λz=>hc (by simp[z])) e⟩) (λ_ _ _ _ n=>n)
  (λb o hc e=>⟨o,k b o (λz=>hc (by simp[z])) e⟩) (λ_ _ e=>e) (λ_ _ _ e=>e) (λb ps e=>⟨#[],by rw[e];simp⟩) (λm hm=>?_) (λb u e=>?_) I.bare
 ·have e:b=it:=by simpa using hb
  subst e
  exact⟨h1,hL,h2,h3⟩
 ·obtain⟨o,es,ep,ho,r⟩:=hm
  exact⟨o,es,ep,k _ o (abi hL) ho,r⟩
 ·refine(I.hok b u e).stay (λc v hc q=>k c v ?_ q) (λ_ q=>q) λ_ _ q=>q
  rcases hc with z|z
  ·rw[z];exact Sa b u e
  ·exact Sa c _ z
theorem Inv.tok(I:Inv X pins σ H s)(t:Nat):Inv X pins σ H {s with toks:=t}:=I.un (h':=s.heap) (t':=t) Un.refl I.hok
theorem Inv.kept{t':Nat}(I:Inv X pins σ H s)(k:∀b u,s.heap.get? b=some u->h'.get? b=some u):Inv X pins σ H {s with heap:=h',toks:=t'}:=I.un (Un.kept k) (I.hok.kept k)
theorem Inv.laid{a:Addr}{o:HO}{t':Nat}(I:Inv X pins σ H s)(k:∀b u,s.heap.get? b=some u->h'.get? b=some u)(hp:s.heap.objs.size<=a)(new:cS X.prog X.w (upd H a o) h' a o):Inv X pins σ (upd H a o) {s with heap:=h',toks:=t'}:=I.un (Un.laid k hp (I.hok.fresh hp)) (I.hok.laid k hp new)
theorem Inv.write{x e:Addr}{o:HO}{t':Nat}(I:Inv X pins σ H s)(mu:UE (H x))(he:e=x\/H e=some (.own x))(k:∀b u,b≠e->s.heap.get? b=some u->h'.get? b=some u)(RK:∃u,h'.get? e=some u)(new:cS X.prog X.w (upd H x o) h' x o):Inv X pins σ (upd H x o) {s with heap:=h',toks:=t'}:=I.un (Un.write mu he k RK) (I.hok.write mu he k RK new)
theorem Inv.GI{OP:List 'g'}(I:Inv X pins σ H s)(h:∀p∈OP,s.heap.get? p.1=some p.2/\H p.1=none/\p.1≠X.env.locals/\p.1∉X.fs/\∀v,p.2.data≠.cell v):Inv X OP σ H s :=
 ⟨I.ok,I.os,I.bare,I.base,I.loc,I.cell,I.free,I.gJ,λp hp=>(aaI.mp hp).elim (λz=>I.pin p (List.mem_append_left _ z)) (h p),I.hok,I.len⟩
theorem vX{N:List Str}(hN:N.Nodup){i j:Nat}{x:Str}(a:N[i]?=some x)(b:N[j]?=some x):i=j:=by
 obtain⟨h1,e1⟩:=aaj.mp a
 obtain⟨h2,e2⟩:=aaj.mp b
 exact(List.getElem_inj hN).mp (e1.trans e2.symm)
theorem zd{M:Model}{A:Around}{E:Value->Shared->Prop}{i:Nat}{x:Str}{v:V}{u:Value}{Q:Unit->Shared->Prop}(I:Inv X pins σ H s)(hN:X.N.Nodup)(hi:X.N[i]?=some x)(hx:Loc X.env.scope x)(r:RelV v u)(h:∀s',Inv X pins (σ.set i (some v)) H s'->(∃a,Heap.SameBut a s.heap s'.heap/\(a=X.env.locals\/X.env.cells.lookup x=some a))->Q () s')(hf:X.fn x=true\/X.env.scope.names.lookup x=some .local:=by first|exact .inl rfl|exact .inr rfl|assumption):wpAny M A (storeName X.env x u) Q E s:=by
 obtain⟨m,hn,hl⟩:=id I.loc
 have hcls:(X.env.scope.kind==.class||(X.env.scope.kind==.module&&X.env.locals != X.env.globals))=false:=by rw[I.ok.kind];rfl
 have Sb:i<σ.length:=by rw[I.len];exact(aaj.mp hi).1
 have M0:=I.M0
 have tracked:∀{a:Addr}{h':Heap},(∃o,s.heap.get? a=some o/\H a=none)->Heap.SameBut a s.heap h'->sP X.prog X.w H h':=λ{a h'} ha hs b ob e=>by
  obtain⟨_,_,hfree⟩:=ha
  refine(I.hok b ob e).stay (λc w' hc q=>(hs.2 c ?_).trans q) (λ_ q=>q) λ_ _ q=>q
  rintro rfl
  rcases hc with rfl|hc
  ·rw[hfree]at e;cases e
  ·rw[hfree]at hc;cases hc
 rcases hx with hk|hk
 ·refine wpAny_storeName_local hk hn (λh' hn' hs=>?_) hcls
  obtain⟨oL,_,_,hoL,_⟩:=id hn
  refine h _ ⟨I.ok,I.os,I.bare,⟨λb o e n hb hx=>?_,λb o e n hb hx=>?_,I.base.free,λb o e hx=>?_,I.base.tups,I.base.oE,I.base.qf⟩,⟨_,hn',λj y v' e1 e2 e3=>?_⟩,λy c e=>?_,I.free,I.gJ,λp hp=>?_,tracked ⟨oL,hoL,I.free⟩ hs,by simpa using I.len⟩ ⟨_,hs,.inl rfl⟩
  ·exact(hs.2 b (aaH (aav (aao e) I.ok.above))).trans (I.base.keep b o e n hb hx)
  ·obtain⟨sl,e1⟩:=I.base.slot b o e n hb hx
   exact⟨sl,(hs.2 b (aaH (aav (aao e) I.ok.above))).trans e1⟩
  ·obtain⟨o',e1⟩:=I.base.there b o e hx
   exact⟨o',(hs.2 b (aaH (aav (aao e) I.ok.above))).trans e1⟩
  ·by_cases hj:j=i
   ·subst hj
    rw[hi]at e1;cases e1
    rw[List.getElem?_set_self Sb]at e2
    cases e2
    exact⟨u,r,.inl ⟨hk,by simp⟩⟩
   ·rw[List.getElem?_set_ne (abi hj)]at e2
    obtain⟨u',r',q⟩:=hl j y v' e1 e2 e3
    refine⟨u',r',?_⟩
    rcases q with ⟨k,e⟩|⟨k,c,e,z⟩
    ·refine .inl ⟨k,?_⟩
     have:y≠x:=λe=>hj (vX hN e1 (e▸hi))
     simp[this,e]
    ·exact .inr ⟨k,c,e,z.sameBut hs (M0 y c e)⟩
  ·obtain⟨w',z⟩:=I.cell y c e
   exact⟨w',z.sameBut hs (M0 y c e)⟩
  ·obtain⟨e,n,ne,nf,d⟩:=I.pin p hp
   exact⟨(hs.2 p.1 ne).trans e,n,ne,nf,d⟩
 ·have hfn:X.fn x=true:=by
   rcases hf with z|z
   ·exact z
   ·rw[z]at hk;cases hk
  obtain⟨c,hc⟩:=I.ok.has x (.inl hk)
  obtain⟨w',z⟩:=I.cell x c hc
  refine wpAny_storeName_cell I.ok.kind hk hc z (λh' hc' hs=>?_)
  obtain⟨oc,hoc,Vp⟩:=id z
  refine h {s with heap:=h'} ⟨I.ok,I.os,I.bare,⟨λb o e n hb hx=>?_,λb o e n hb hx=>?_,I.base.free,λb o e hx=>?_,I.base.tups,I.base.oE,I.base.qf⟩,⟨m,hn.sameBut hs (abi (M0 x c hc)),λj y v' e1 e2 e3=>?_⟩,λy c' e=>?_,I.free,I.gJ,λp hp=>?_,tracked ⟨oc,hoc,I.gJ x c hc⟩ hs,by simpa using I.len⟩ ⟨c,hs,.inr hc⟩
  ·exact(hs.2 b (aaH (aav (aao e) (I.ok.Pk x c hfn hc)))).trans (I.base.keep b o e n hb hx)
  ·obtain⟨sl,e1⟩:=I.base.slot b o e n hb hx
   exact⟨sl,(hs.2 b (aaH (aav (aao e) (I.ok.Pk x c hfn hc)))).trans e1⟩
  ·obtain⟨o',e1⟩:=I.base.there b o e hx
   exact⟨o',(hs.2 b (aaH (aav (aao e) (I.ok.Pk x c hfn hc)))).trans e1⟩
  ·by_cases hj:j=i
   ·subst hj
    rw[hi]at e1;cases e1
    rw[List.getElem?_set_self Sb]at e2
    cases e2
    exact⟨u,r,.inr ⟨.inl hk,c,hc,hc'⟩⟩
   ·rw[List.getElem?_set_ne (abi hj)]at e2
    obtain⟨u',r',q⟩:=hl j y v' e1 e2 e3
    refine⟨u',r',?_⟩
    rcases q with q|⟨k,c',e,z'⟩
    ·exact .inl q
    ·refine .inr ⟨k,c',e,z'.sameBut hs ?_⟩
     rintro rfl
     exact hj (vX hN e1 (I.ok.inj _ _ _ e hc▸hi))
  ·by_cases hcc:c'=c
   ·subst hcc;exact⟨_,hc'⟩
   ·obtain⟨w2,z2⟩:=I.cell y c' e
    exact⟨w2,z2.sameBut hs hcc⟩
  ·obtain⟨e,n,ne,nf,d⟩:=I.pin p hp
   refine⟨(hs.2 p.1 ?_).trans e,n,ne,nf,d⟩
   intro q
   rw[q,hoc]at e
   have q':oc=p.2:=aah e
   exact d w' (by rw[←q'];exact Vp)
theorem qN{M:Model}{A:Around}{E:Value->Shared->Prop}{i:Nat}{x:Str}{v:V}{u:Value}{Q:Unit->Shared->Prop}(I:Inv X pins σ H s)(hN:X.N.Nodup)(hi:X.N[i]?=some x)(hx:Loc X.env.scope x)(r:RelV v u)(h:∀s',Inv X pins (σ.set i (some v)) H s'->Q () s')(hf:X.fn x=true\/X.env.scope.names.lookup x=some .local:=by first|exact .inl rfl|exact .inr rfl|assumption):wpAny M A (storeName X.env x u) Q E s :=
 zd I hN hi hx r (λs' I' _=>h s' I') hf
theorem Inv.B7{s':Shared}{ch:List Addr}(I:Inv X pins σ H s)(ho:s'.os=s.os)(u:Un (frs X.stack) ch H H' s.heap s'.heap)(hok:sP X.prog X.w H' s'.heap)(hg:AllBare s'.gens)(hch:∀b∈ch,(b∈X.ex\/X.s₀.heap.objs.size<=b)/\b≠X.env.locals/\(∀x c,X.env.cells.lookup x=some c->c≠b)/\∀p∈X.pn++pins,p.1≠b):Inv X pins σ H' s':=by
 obtain⟨h',g',d',t',o'⟩:=s'
 have e:o'=s.os:=ho
 subst e
 exact I.call (g':=g') (t':=t') (d':=d') u hok hg hch
end
abbrev XK:=Value->Option Addr->Hp->Prop
abbrev St:=List (Option V)
abbrev VK:=V->Hp->Prop
abbrev TE:=St->Hp->VK->Prop
abbrev TT:=St->Hp->(Bool->Hp->Prop)->Prop
abbrev TA:=St->Hp->(List V->Hp->Prop)->Prop
structure Ends where
 nx:St->Hp->Prop
 rt:VK
 bk:St->Hp->Prop:=λ_ _=>False
 ct:St->Hp->Prop:=λ_ _=>False
abbrev TS:=Ends->St->Hp->Prop
def EP(X:Cx)(pins:List 'g')(σ:St)(Q:VK)(u:Value)(s':Shared):Prop:=∃v H',Inv X pins σ H' s'/\RelV v u/\Q v H'
def TP(X:Cx)(pins:List 'g')(σ:St)(Q:Bool->Hp->Prop)(b:Bool)(s':Shared):Prop:=∃H',Inv X pins σ H' s'/\Q b H'
def AP(X:Cx)(pins:List 'g')(σ:St)(Q:List V->Hp->Prop)(us:List Value)(s':Shared):Prop:=∃vs H',Inv X pins σ H' s'/\Vals vs us/\Q vs H'
def SP(X:Cx)(pins:List 'g')(D:Ends)(f:Flow)(s':Shared):Prop :=
 match f with
 | .next=>∃σ' H',Inv X pins σ' H' s'/\D.nx σ' H'
 | .brk=>∃σ' H',Inv X pins σ' H' s'/\D.bk σ' H'
 | .cont=>∃σ' H',Inv X pins σ' H' s'/\D.ct σ' H'
 | .ret u=>∃v σ' H',Inv X pins σ' H' s'/\RelV v u/\D.rt v H'
def PE(X:Cx)(e:Expr)(t:TE):Prop :=
 ∀(pins:List 'g')(s:Shared)(σ:St)(H:Hp)(Q:VK),Inv X pins σ H s->t σ H Q->wpAny 'd' X.A (eval e X.env) (EP X pins σ Q) X.xe s
def PT(X:Cx)(e:Expr)(t:TT):Prop :=
 ∀(pins:List 'g')(s:Shared)(σ:St)(H:Hp)(Q:Bool->Hp->Prop),Inv X pins σ H s->t σ H Q->wpAny 'd' X.A (isTrue e X.env (eval e X.env)) (TP X pins σ Q) X.xe s
def PW(X:Cx)(e:Expr)(t:TT):Prop :=
 ∀(whole:Sem Value)(pins:List 'g')(s:Shared)(σ:St)(H:Hp)(Q:Bool->Hp->Prop),Inv X pins σ H s->t σ H Q->wpAny 'd' X.A (isTrue e X.env whole) (TP X pins σ Q) X.xe s
theorem PW.pt{X:Cx}{e:Expr}{t:TT}(h:PW X e t):PT X e t:=h _
def PA(X:Cx)(es:List Expr)(t:TA):Prop :=
 ∀(pos:Pos)(pins:List 'g')(s:Shared)(σ:St)(H:Hp)(Q:List V->Hp->Prop),Inv X pins σ H s->t σ H Q->wpAny 'd' X.A (spliced (backTo pos (starEach es X.env))) (AP X pins σ Q) X.xe s
def PS(X:Cx)(st:Stmt)(t:TS):Prop :=
 ∀(pins:List 'g')(s:Shared)(σ:St)(H:Hp)(D:Ends),Inv X pins σ H s->t D σ H->wpAny 'd' X.A (exec st X.env) (SP X pins D) X.xe s
def BV(X:Cx)(st:List Stmt)(t:TS):Prop :=
 ∀(pins:List 'g')(s:Shared)(σ:St)(H:Hp)(D:Ends),Inv X pins σ H s->t D σ H->wpAny 'd' X.A (execs st X.env) (SP X pins D) X.xe s
theorem bY{α:Type}{t:Sem α}{Q Q':α->Shared->Prop}{M:Model}{A:Around}{E:Value->Shared->Prop}{s:Shared}(h:wpAny M A t Q E s)(hQ:∀a s,Q a s->Q' a s):wpAny M A t Q' E s:=aa1 h hQ λ_ _ x=>x
section
variable{X:Cx}
def M1(i:Nat):TE:=λσ H Q=>∃v,σ[i]?=some (some v)/\Q v H
def tC(v:V):TE:=λ_ H Q=>Q v H
theorem Po{i:Nat}{x:Str}{pos:Pos}(hN:X.N[i]?=some x)(hv:Vl X.env.scope x)(hd:(x==("__debug__":Str))=false:=by decide)(hcd:(x==("__classdict__":Str))=false:=by decide):PE X (.Name x pos) (M1 i):=by
 intro pins s σ H Q I h
 obtain⟨v,e,h⟩:=h
 obtain⟨m,hn,hl⟩:=I.loc
 obtain⟨u,r,l⟩:=hl i x v hN e hv
 have fin:EP X pins σ Q u s:=⟨v,H,I,r,h⟩
 rcases l with ⟨hk,hm⟩|⟨hk,c,hc,hcell⟩
 ·exact wpAny_Name (wpAny_loadName_local I.ok.kind hk hn hm fin) hd
 ·rcases hk with hk|hk
  ·exact wpAny_Name (wpAny_loadName_cell I.ok.kind hk hc hcell fin) hd
  ·exact wpAny_Name (wpAny_loadName_free I.ok.kind hk hc hcell fin hcd) hd
theorem ak{i j pos}:PE X (.Constant (.int i) j pos) (tC (.int i)):=λ_ _ _ H _ I h=>wpAny_Constant_int ⟨.int i,H,I.tok _,⟨_,rfl⟩,h⟩
theorem jX{b j pos}:PE X (.Constant (.bool b) j pos) (tC (.bl b)):=λ_ _ _ H _ I h=>Constant_bool ⟨.bl b,H,I,rfl,h⟩
theorem gS{j pos}:PE X (.Constant .none j pos) (tC .non):=λ_ _ _ H _ I h=>Constant_none ⟨.non,H,I,rfl,h⟩
theorem ay{x j pos}:PE X (.Constant (.str x) j pos) (tC (.str x)):=λ_ _ _ H _ I h=>Calls.Constant_str ⟨.str x,H,I.tok _,⟨_,rfl⟩,h⟩
def Gl(X:Cx)(x:Str):Prop:=X.env.kindOf x=some .globalImplicit
theorem iw{E:Value->Shared->Prop}{pins:List 'g'}{s:Shared}{σ:St}{H:Hp}{x:Str}{u:Value}{pos:Pos}{Q:Value->Shared->Prop}(I:Inv X pins σ H s)(hg:Gl X x)(hm:X.mg x=some u)(h:Q u s)(hd:(x==("__debug__":Str))=false:=by decide):wpAny 'd' X.A (eval (.Name x pos) X.env) Q E s :=
 Calls.Name_function_global I.ok.kind hg (Calls.loadGlobal_global (by rw[I.ok.glob];exact I.mod.glob.keeps I.bk) hm h) hd
theorem jz{E:Value->Shared->Prop}{pins:List 'g'}{s:Shared}{σ:St}{H:Hp}{x:Str}{u:Value}{pos:Pos}{Q:Value->Shared->Prop}(I:Inv X pins σ H s)(hg:Gl X x)(hm:X.mg x=none)(hv:bootBuiltins x=some u)(h:Q u s)(hn:x ≠ "__name__":=by decide)(hd:(x==("__debug__":Str))=false:=by decide):wpAny 'd' X.A (eval (.Name x pos) X.env) Q E s:=by
 obtain⟨mb,h1,h2⟩:=I.mod.blt
 exact Calls.Name_function_global I.ok.kind hg (Calls.loadGlobal_builtin (by rw[I.ok.glob];exact I.mod.glob.keeps I.bk) hm (by rw[I.ok.blt];exact h1.keeps I.bk) ((h2 x hn).trans hv) h) hd
theorem zZ{x:Str}{v:V}{u:Value}{pos:Pos}(hg:Gl X x)(hm:X.mg x=some u)(r:RelV v u)(hd:(x==("__debug__":Str))=false:=by decide):PE X (.Name x pos) (tC v) :=
 λ_ _ _ H _ I h=>iw I hg hm ⟨v,H,I,r,h⟩ hd
theorem M3{x:Str}{v:V}{u:Value}{pos:Pos}(hg:Gl X x)(hm:X.mg x=none)(hv:bootBuiltins x=some u)(r:RelV v u)(hn:x ≠ "__name__":=by decide)(hd:(x==("__debug__":Str))=false:=by decide):PE X (.Name x pos) (tC v) :=
 λ_ _ _ H _ I h=>jz I hg hm hv ⟨v,H,I,r,h⟩ hn hd
variable{a b:Expr}{ta tb:TE}{pos:Pos}
def tB(t:TE):TT:=λσ H Q=>t σ H λx H1=>∃c,x=.bl c/\Q c H1
theorem bO{e:Expr}{t:TE}(h:PE X e t)(he:∀whole,isTrue e X.env whole=(do let v ←whole;standAt e.pos;holding [v] (truthy v)):=by intro _;rfl):PT X e (tB t):=by
 intro pins s σ H Q I hw
 refine isTrue_plain (bY (h pins s σ H _ I hw) λv s1 ⟨x,H1,I1,r1,q1⟩=>?_) (he _)
 obtain⟨d,rfl,q⟩:=q1
 cases r1
 exact wpAny_truthy_bool ⟨H1,I1,q⟩
variable{tA UK:TT}{rest:List Expr}
def Vq(t u:TT):TT:=λσ H Q=>t σ H λc H1=>if c=true then u σ H1 Q else Q false H1
def tOr(t u:TT):TT:=λσ H Q=>t σ H λc H1=>if c=true then Q true H1 else u σ H1 Q
def Vr(t:TT):TT:=λσ H Q=>t σ H λc H1=>Q (!c) H1
theorem dH(ha:PT X a tA):PW X (.BoolOp .And [a] pos) tA:=by
 intro wh pins s σ H Q I h
 refine isTrue_and (bY (ha pins s σ H Q I h) λc s1 e=>?_)
 cases c with
 |true=>exact isTrue_and_nil e
 |false=>exact e
theorem kF(ha:PT X a tA):PW X (.BoolOp .Or [a] pos) tA:=by
 intro wh pins s σ H Q I h
 refine isTrue_or (bY (ha pins s σ H Q I h) λc s1 e=>?_)
 cases c with
 |false=>exact isTrue_or_nil e
 |true=>exact e
theorem fR(ha:PT X a tA)(hb:PW X (.BoolOp .And (b::rest) pos) UK):PW X (.BoolOp .And (a::b::rest) pos) (Vq tA UK):=by
 intro wh pins s σ H Q I h
 refine isTrue_and (bY (ha pins s σ H _ I h) λc s1 ⟨H1,I1,q1⟩=>?_)
 cases c with
 |true=>exact hb wh pins s1 σ H1 Q I1 q1
 |false=>exact⟨H1,I1,q1⟩
theorem lM(ha:PT X a tA)(hb:PW X (.BoolOp .Or (b::rest) pos) UK):PW X (.BoolOp .Or (a::b::rest) pos) (tOr tA UK):=by
 intro wh pins s σ H Q I h
 refine isTrue_or (bY (ha pins s σ H _ I h) λc s1 ⟨H1,I1,q1⟩=>?_)
 cases c with
 |true=>exact⟨H1,I1,q1⟩
 |false=>exact hb wh pins s1 σ H1 Q I1 q1
theorem dX(ha:PT X a tA):PT X (.UnaryOp .Not a pos) (Vr tA):=by
 intro pins s σ H Q I h
 exact isTrue_not (ha pins s σ H (λc H1=>Q (!c) H1) I h)
def Sd(ta tb:TE):TE:=λσ H Q=>ta σ H λx H1=>∃c,x=.bl c/\if c=true then tb σ H1 Q else Q (.bl false) H1
def Vs(ta tb:TE):TE:=λσ H Q=>ta σ H λx H1=>∃c,x=.bl c/\if c=true then Q (.bl true) H1 else tb σ H1 Q
def Se(ta:TE):TE:=λσ H Q=>ta σ H λx H1=>∃c,x=.bl c/\Q (.bl (!c)) H1
theorem sS{op}{t:TE}(h:PE X a t):PE X (.BoolOp op [a] pos) t:=λpins s σ H Q I hw=>BoolOp_one (h pins s σ H Q I hw)
theorem sU(ha:PE X a ta)(hb:PE X (.BoolOp .And (b::rest) pos) tb):PE X (.BoolOp .And (a::b::rest) pos) (Sd ta tb):=by
 intro pins s σ H Q I h
 refine BoolOp_and (bY (ha pins s σ H _ I h) λv s1 ⟨x,H1,I1,r1,q1⟩=>?_)
 obtain⟨c,rfl,q1⟩:=q1
 cases r1
 refine wpAny_truthy_bool ?_
 cases c with
 |true=>exact hb pins s1 σ H1 Q I1 q1
 |false=>exact⟨.bl false,H1,I1,rfl,q1⟩
theorem Sf(ha:PE X a ta)(hb:PE X (.BoolOp .Or (b::rest) pos) tb):PE X (.BoolOp .Or (a::b::rest) pos) (Vs ta tb):=by
 intro pins s σ H Q I h
 refine BoolOp_or (bY (ha pins s σ H _ I h) λv s1 ⟨x,H1,I1,r1,q1⟩=>?_)
 obtain⟨c,rfl,q1⟩:=q1
 cases r1
 refine wpAny_truthy_bool ?_
 cases c with
 |false=>exact hb pins s1 σ H1 Q I1 q1
 |true=>exact⟨.bl true,H1,I1,rfl,q1⟩
theorem D3(ha:PE X a ta):PE X (.UnaryOp .Not a pos) (Se ta):=by
 intro pins s σ H Q I h
 refine UnaryOp_ (bY (ha pins s σ H _ I h) λv s1 ⟨x,H1,I1,r1,q1⟩=>?_)
 obtain⟨c,rfl,q1⟩:=q1
 cases r1
 exact not_of (wpAny_truthy_bool ⟨.bl (!c),H1,I1,rfl,q1⟩)
def tIf(t:TT)(ta tb:TE):TE:=λσ H Q=>t σ H λc H1=>if c=true then ta σ H1 Q else tb σ H1 Q
theorem vY{c:Expr}(hc:PT X c tA)(ha:PE X a ta)(hb:PE X b tb):PE X (.IfExp c a b pos) (tIf tA ta tb):=by
 intro pins s σ H Q I h
 refine wpAny_IfExp (bY (hc pins s σ H _ I h) λd s1 ⟨H1,I1,q1⟩=>?_)
 cases d with
 |true=>exact ha pins s1 σ H1 Q I1 q1
 |false=>exact hb pins s1 σ H1 Q I1 q1
end
def aM(K:W.Frag)(H:Hp)(a:Addr)(xs:List V):Prop :=
 Rd H a (.lst xs)\/
  ∃(o:Obj)(its:Array Value)(n:Nat),K.lookup a=some o/\o.cls=.type "list"/\o.dict=none/\o.data=.seq its n/\its.size<=sizeLine/\Vals xs its.toList
def bR(K:W.Frag)(H:Hp)(a:Addr)(xs:List V):Prop :=
 Rd H a (.tup xs)\/
  ∃(o:Obj)(its:Array Value)(n:Nat),K.lookup a=some o/\o.cls=.type "tuple"/\o.data=.seq its n/\its.size<=sizeLine/\Vals xs its.toList
def Sh:Value->Option V
 | .none=>some .non
 | .bool b=>some (.bl b)
 | .int i _=>some (.int i)
 | .str x _=>some (.str x)
 | .bytes b _=>some (.JZ b)
 | .float b _=>some (.uq b)
 | .ref a=>some (.ref a)
 | .type n=>some (.ty n)
 |_=>none
theorem RelV.abs{x:V}{u:Value}(r:RelV x u):Sh u=some x:=by
 cases x with
 |non=>cases r;rfl
 |bl _=>cases r;rfl
 |int _=>obtain⟨t,rfl⟩:=r;rfl
 |str _=>obtain⟨t,rfl⟩:=r;rfl
 |JZ _=>obtain⟨t,rfl⟩:=r;rfl
 |uq _=>obtain⟨t,rfl⟩:=r;rfl
 |ref _=>cases r;rfl
 |ty _=>cases r;rfl
theorem RelV.inj{x y:V}{u:Value}(r:RelV x u)(q:RelV y u):x=y:=aah (r.abs.symm.trans q.abs)
theorem Vals.inj:∀{xs ys:List V}{us:List Value},Vals xs us->Vals ys us->xs=ys
 |_,_,_,.nil,.nil=>rfl
 |_,_,_,.cons r t,.cons r' t'=>by rw[r.inj r',Vals.inj t t']
section
variable{X:Cx}{pins:List 'g'}{σ:St}{H:Hp}{s:Shared}{a:Addr}{xs ys:List V}
theorem aM.of{K:W.Frag}(h:H a=some (.lst xs)):aM K H a xs:=.inl (.inl h)
theorem bR.of{K:W.Frag}(h:H a=some (.tup xs)):bR K H a xs:=.inl (.inl h)
theorem Inv.list(I:Inv X pins σ H s)(h:aM X.K H a xs):∃its:List Value,Vals xs its/\PlainL s.heap a its.toArray/\xs.length<=sizeLine:=by
 rcases h with h|⟨o,its,n,hk,hc,hd,hs,hz,r⟩
 ·obtain⟨z,its,n,r,e⟩:=h.ok I.hok
  exact⟨its,r,⟨_,n,e,O,O,O⟩,z⟩
 ·refine⟨its.toList,r,⟨o,n,I.jd a o hk,hc,hd,by simpa using hs⟩,?_⟩
  have e:=r.length
  simp only[aaE]at e
  omega
theorem Inv.tuple(I:Inv X pins σ H s)(h:bR X.K H a xs):∃its:List Value,Vals xs its/\IsTup s.heap a its.toArray/\xs.length<=sizeLine:=by
 rcases h with h|⟨o,its,n,hk,hc,hs,hz,r⟩
 ·obtain⟨z,its,r,p⟩:=h.ok I.hok
  exact⟨its,r,p,z⟩
 ·refine⟨its.toList,r,⟨o,I.jd a o hk,hc,n,by simpa using hs⟩,?_⟩
  have e:=r.length
  simp only[aaE]at e
  omega
theorem Inv.mq(I:Inv X pins σ H s)(h:aM X.K H a xs)(h':aM X.K H a ys):xs=ys:=by
 obtain⟨its,r,⟨o,n,e,_,_,d⟩,_⟩:=I.list h
 obtain⟨its',r',⟨o',n',e',_,_,d'⟩,_⟩:=I.list h'
 rw[e]at e';cases e'
 rw[d]at d'
 injection d' with d1 _
 have:its=its':=by simpa using congrArg Array.toList d1
 subst this
 exact r.inj r'
theorem Inv.HF(I:Inv X pins σ H s)(h:bR X.K H a xs)(h':bR X.K H a ys):xs=ys:=by
 obtain⟨its,r,⟨o,e,_,n,d⟩,_⟩:=I.tuple h
 obtain⟨its',r',⟨o',e',_,n',d'⟩,_⟩:=I.tuple h'
 rw[e]at e';cases e'
 rw[d]at d'
 injection d' with d1 _
 have:its=its':=by simpa using congrArg Array.toList d1
 subst this
 exact r.inj r'
end
abbrev Cx.vZ(X:Cx)(E:Value->Shared->Prop):Cx:={X with xe:=E}
abbrev Cx.Pp(X:Cx):Cx:=X.vZ λ_ _=>False
theorem Cx.Ok.vZ{X:Cx}(ok:X.Ok)(E:Value->Shared->Prop):(X.vZ E).Ok :=
 ⟨ok.mod,ok.kind,ok.glob,ok.blt,ok.above,ok.inj,ok.has,ok.Pk,ok.hd,ok.frames,ok.stk,ok.UH,ok.bs,ok.HD,ok.D0,ok.HE,ok.oF,ok.Kl⟩
theorem Cx.Ok.jA{X:Cx}{E:Value->Shared->Prop}(ok:(X.vZ E).Ok):X.Ok :=
 ⟨ok.mod,ok.kind,ok.glob,ok.blt,ok.above,ok.inj,ok.has,ok.Pk,ok.hd,ok.frames,ok.stk,ok.UH,ok.bs,ok.HD,ok.D0,ok.HE,ok.oF,ok.Kl⟩
section
variable{X:Cx}{pins:List 'g'}{σ:St}{H:Hp}{s:Shared}{E:Value->Shared->Prop}
theorem Inv.vZ(I:Inv X pins σ H s)(E:Value->Shared->Prop):Inv (X.vZ E) pins σ H s:=⟨I.ok.vZ E,I.os,I.bare,I.base,I.loc,I.cell,I.free,I.gJ,I.pin,I.hok,I.len⟩
theorem Inv.jA(I:Inv (X.vZ E) pins σ H s):Inv X pins σ H s:=⟨I.ok.jA,I.os,I.bare,I.base,I.loc,I.cell,I.free,I.gJ,I.pin,I.hok,I.len⟩
theorem SP.jA{D:Ends}{f:Flow}{s':Shared}(h:SP (X.vZ E) pins D f s'):SP X pins D f s':=by
 cases f with
 |next=>obtain⟨σ',H',I,q⟩:=h;exact⟨σ',H',I.jA,q⟩
 |brk=>obtain⟨σ',H',I,q⟩:=h;exact⟨σ',H',I.jA,q⟩
 |cont=>obtain⟨σ',H',I,q⟩:=h;exact⟨σ',H',I.jA,q⟩
 |ret u=>obtain⟨v,σ',H',I,r,q⟩:=h;exact⟨v,σ',H',I.jA,r,q⟩
theorem BV.Pp{st:List Stmt}{t:TS}(h:BV X.Pp st t):BV X st t:=λpins s σ H D I hw =>
 aa1 (h pins s σ H D (I.vZ _) hw) (λ_ _ q=>q.jA) λ_ _ z=>False.elim z
end
section
variable{X:Cx}{st:Stmt}{rest:List Stmt}{t u:TS}{e:Expr}{te:TE}{pos:Pos}
def Km:TS:=λD σ H=>D.nx σ H
def Si(t u:TS):TS:=λD σ H=>t {D with nx:=u D} σ H
theorem aA:BV X [] Km:=λ_ _ σ H _ I h=>wpAny_execs_nil ⟨σ,H,I,h⟩
theorem ai(h1:PS X st t)(h2:BV X rest u):BV X (st::rest) (Si t u):=by
 intro pins s σ H D I h
 refine wpAny_execs_cons (bY (h1 pins s σ H {D with nx:=u D} I h) λf s1 q=>?_)
 cases f with
 |next =>
  obtain⟨σ',H',I',q⟩:=q
  exact h2 pins s1 σ' H' D I' q
 |ret v=>exact q
 |brk=>exact q
 |cont=>exact q
theorem ao(h1:PS X st t):BV X [st] t:=by
 intro pins s σ H D I h
 refine wpAny_execs_cons (bY (h1 pins s σ H D I h) λf s1 q=>?_)
 cases f with
 |next=>exact wpAny_execs_nil q
 |ret v=>exact q
 |brk=>exact q
 |cont=>exact q
theorem Inv.quiet{pins:List 'g'}{σ:St}{H:Hp}{s:Shared}(I:Inv X pins σ H s):interactive X.env=false:=by simp[interactive,I.ok.kind]
def Sj(te:TE):TS:=λD σ H=>te σ H λ_ H1=>D.nx σ H1
theorem eF(he:PE X e te)(hs:swapsWith e none pos.line X.env=pure false:=by rfl):PS X (.Expr e pos) (Sj te):=by
 intro pins s σ H D I h
 exact wpAny_Expr_any (bY (he pins s σ H _ I h) λv s1 ⟨x,H1,I1,r1,q1⟩=>⟨σ,H1,I1,q1⟩) I.quiet hs
def Vt(te:TE):TS:=λD σ H=>te σ H D.rt
theorem az(he:PE X e te):PS X (.Return (some e) pos) (Vt te):=by
 intro pins s σ H D I h
 exact wpAny_Return_some (bY (he pins s σ H _ I h) λv s1 ⟨x,H1,I1,r1,q1⟩=>⟨x,σ,H1,I1,r1,q1⟩)
def B8(c:TT)(t u:TS):TS:=λD σ H=>c σ H λb H1=>if b=true then t D σ H1 else u D σ H1
theorem aK{c:Expr}{a b:List Stmt}{tc:TT}(hc:PT X c tc)(ha:BV X a t)(hb:BV X b u):PS X (.If c a b pos) (B8 tc t u):=by
 intro pins s σ H D I h
 refine wpAny_If (bY (hc pins s σ H _ I h) λd s1 ⟨H1,I1,q1⟩=>?_)
 cases d with
 |true=>exact ha pins s1 σ H1 D I1 q1
 |false=>exact hb pins s1 σ H1 D I1 q1
def Pq:TS:=λ_ _ _=>False
theorem mw:PS X st Pq:=λ_ _ _ _ _ _ h=>h.elim
end
abbrev TG:=V->St->Hp->(St->Hp->Prop)->Prop
abbrev OQ:=List V->St->Hp->(St->Hp->Prop)->Prop
def PG(X:Cx)(target:Expr)(t:TG):Prop :=
 ∀(pins:List 'g')(s:Shared)(σ:St)(H:Hp)(v:V)(u:Value)(Q:St->Hp->Prop),Inv X pins σ H s->RelV v u->t v σ H Q->wpAny 'd' X.A (assign target X.env u) (λ_ s'=>∃σ' H',Inv X pins σ' H' s'/\Q σ' H') X.xe s
def Sk(X:Cx)(ts:List Expr)(t:OQ):Prop :=
 ∀(pins:List 'g')(s:Shared)(σ:St)(H:Hp)(vs:List V)(us:List Value)(Q:St->Hp->Prop),Inv X pins σ H s->Vals vs us->t vs σ H Q->wpAny 'd' X.A (assignInOrder ((assignEach ts X.env).map (·.2)) us) (λ_ s'=>∃σ' H',Inv X pins σ' H' s'/\Q σ' H') X.xe s
abbrev Pr:=V->V->V->Hp->(Hp->Prop)->Prop
def Sl(X:Cx)(t:Pr):Prop :=
 ∀(pins:List 'g')(s:Shared)(σ:St)(H:Hp)(o i v:V)(ov iv u:Value)(Q:Hp->Prop),Inv X pins σ H s->RelV o ov->RelV i iv->RelV v u->t o i v H Q->wpAny 'd' X.A (setItem ov iv u) (λ_ s'=>∃H',Inv X pins σ H' s'/\Q H') X.xe s
section
variable{X:Cx}{pos:Pos}
def cT(i:Nat):TG:=λv σ H Q=>Q (σ.set i (some v)) H
theorem M4{i:Nat}{x:Str}(hN:X.N.Nodup)(hi:X.N[i]?=some x)(hx:Loc X.env.scope x)(hf:X.fn x=true\/X.env.scope.names.lookup x=some .local:=by first|exact .inl rfl|exact .inr rfl|assumption):PG X (.Name x pos) (cT i):=by
 intro pins s σ H v u Q I r h
 exact wpAny_assign_Name (qN I hN hi hx r (λs' I'=>⟨_,H,I',h⟩) hf)
def Vu:OQ:=λvs σ H Q=>vs=[]/\Q σ H
def Sm(t:TG)(u:OQ):OQ:=λvs σ H Q=>∃v r,vs=v::r/\t v σ H λσ' H'=>u r σ' H' Q
theorem kG:Sk X [] Vu:=by
 intro pins s σ H vs us Q I r h
 obtain⟨e,h⟩:=h
 subst e
 cases r
 exact assignInOrder_nil ⟨σ,H,I,h⟩
theorem cD{e:Expr}{es:List Expr}{t:TG}{u:OQ}(h1:PG X e t)(h2:Sk X es u)(hs:(assignEach (e::es) X.env).map (·.2)=assign e X.env::(assignEach es X.env).map (·.2):=by rfl):Sk X (e::es) (Sm t u):=by
 intro pins s σ H vs us Q I r h
 obtain⟨v,vr,e1,h⟩:=h
 subst e1
 cases r with
 |cons r rr =>
  rw[hs]
  refine assignInOrder_cons (bY (h1 pins s σ H _ _ _ I r h) λ_ s1 ⟨σ1,H1,I1,q1⟩=>?_)
  exact h2 pins s1 σ1 H1 _ _ Q I1 rr q1
def Sn(K:W.Frag)(n:Nat)(t:OQ):TG:=λv σ H Q=>∃a xs,v=.ref a/\bR K H a xs/\xs.length=n/\t xs σ H Q
theorem Pu{es:List Expr}{k:Nat}{t:OQ}{n:Nat}(hc:X.calm=true)(h:Sk X es t)(hn:(assignEach es X.env).length=n:=by rfl)(hst:(assignEach es X.env).findIdx? (·.1)=none:=by rfl):PG X (.Tuple es k pos) (Sn X.K n t):=by
 intro pins s σ H v u Q I r hw
 obtain⟨a,xs,e1,hq,hl,hw⟩:=hw
 subst e1
 cases r
 obtain⟨its,rv,ht,hz⟩:=I.tuple hq
 refine assign_Tuple_tuple (I.ok.hd hc) ht (by simp[hn,←hl,rv.length]) hst λh' hx=>?_
 have I1:Inv X pins σ H {s with heap:=h'}:=I.kept (t':=s.toks) λb o e=>hx b o (aaH (aao e)) e
 exact h pins _ σ H xs _ Q I1 (by simpa using rv) hw
def Vv(to ti:TE)(t:Pr):TG:=λv σ H Q=>to σ H λo H1=>ti σ H1 λi H2=>t o i v H2 λH3=>Q σ H3
theorem qg{o i:Expr}{to ti:TE}{t:Pr}(ho:PE X o to)(hi:PE X i ti)(hs:Sl X t)(ha:∀v,assign (.Subscript o i pos) X.env v=(do
   let ov ←holding [v] (eval o X.env)
   let iv ←holding [v,ov] (eval i X.env)
   standAt pos
   holding [v,ov,iv] (setItem ov iv v)
   release [v,ov,iv] []):=by intro _;rfl):PG X (.Subscript o i pos) (Vv to ti t):=by
 intro pins s σ H v u Q I r h
 rw[ha]
 refine aaf (abg (bY (ho pins s σ H _ I h) λov s1 ⟨x,H1,I1,r1,q1⟩=>?_))
 refine aaf (abg (bY (hi pins s1 σ H1 _ I1 q1) λiv s2 ⟨y,H2,I2,r2,q2⟩=>?_))
 refine aaf (wpAny_standAt (aaf (abg (bY (hs pins s2 σ H2 x y v ov iv u _ I2 r1 r2 r q2) λ_ s3 ⟨H3,I3,q3⟩=>?_))))
 exact wpAny_release ⟨σ,H3,I3,q3⟩
def Kn(te:TE)(g:TG):TS:=λD σ H=>te σ H λx H1=>g x σ H1 D.nx
theorem jB{tg e:Expr}{te:TE}{g:TG}(he:PE X e te)(hg:PG X tg g)(hs:swapsWithSole [tg] e pos.line X.env=pure false:=by rfl)(hw:swappedStores [tg] e X.env=pure none:=by rfl)(h1:(assignEach [tg] X.env).map (·.2)=[assign tg X.env]:=by rfl):PS X (.Assign [tg] e pos) (Kn te g):=by
 intro pins s σ H D I h
 refine wpAny_Assign_stores (bY (he pins s σ H _ I h) λv s1 ⟨x,H1,I1,r1,q1⟩=>?_) hs hw
 rw[h1]
 exact bY (hg pins s1 σ H1 x v _ I1 r1 q1) λ_ s2 q=>q
theorem Pw{i:Nat}{x:Str}{e:Expr}{te:TE}{pos':Pos}(hN:X.N.Nodup)(hi:X.N[i]?=some x)(hx:Loc X.env.scope x)(he:PE X e te)(hs:swapsWith e (some (.Name x pos')) pos.line X.env=pure false:=by rfl)(hf:X.fn x=true\/X.env.scope.names.lookup x=some .local:=by first|exact .inl rfl|exact .inr rfl|assumption):PS X (.Assign [.Name x pos'] e pos) (Kn te (cT i)):=by
 intro pins s σ H D I h
 refine wpAny_Assign_Name (bY (he pins s σ H _ I h) λv s1 ⟨y,H1,I1,r1,q1⟩=>?_) hs
 exact qN I1 hN hi hx r1 (λs2 I2=>⟨_,H1,I2,q1⟩) hf
end
section
variable{X:Cx}{pos:Pos}
def Px(c:TT)(tb:TS):TS:=λD σ H=>∃W:Nat->St->Hp->Prop,(∃m,W m σ H)/\∀m σ H,W m σ H->c σ H λb H1=>if b=true then ∃N:St->Hp->Prop,(∀σ' H',N σ' H'->∃m',m'<m/\W m' σ' H')/\tb {D with nx:=N,ct:=N,bk:=D.nx} σ H1 else D.nx σ H1
theorem Ko{c:Expr}{body:List Stmt}{tc:TT}{tb:TS}(hp:PassesOwn 'd' X.A X.env X.xe)(hc:PT X c tc)(hb:BV X body tb):PS X (.While c body [] pos) (Px tc tb):=by
 intro pins s σ H D I h
 obtain⟨W,⟨m0,w0⟩,turn⟩:=h
 refine wpAny_While (codeAny_whileLoop (λn s'=>∃σ' H',Inv X pins σ' H' s'/\W n σ' H') ?_ m0 ⟨σ,H,I,w0⟩)
 rintro n s1 ⟨σ1,H1,I1,w1⟩
 refine abw hp (bY (hc pins s1 σ1 H1 _ I1 (turn n σ1 H1 w1)) λb s2 ⟨H2,I2,q2⟩=>?_)
 cases b with
 |true =>
  obtain⟨N,hN,q2⟩:=q2
  rw[aal rfl]
  refine abw hp (bY (hb pins s2 σ1 H2 _ I2 q2) λf s3 q3=>?_)
  cases f with
  |next =>
   obtain⟨σ3,H3,I3,n3⟩:=q3
   obtain⟨m',hm,w3⟩:=hN σ3 H3 n3
   exact⟨m',hm,σ3,H3,I3,w3⟩
  |cont =>
   obtain⟨σ3,H3,I3,n3⟩:=q3
   obtain⟨m',hm,w3⟩:=hN σ3 H3 n3
   exact⟨m',hm,σ3,H3,I3,w3⟩
  |brk=>exact q3
  |ret v=>exact q3
 |false =>
  rw[aag aaw]
  exact wpAny_execs_nil ⟨σ1,H2,I2,q2⟩
end
structure It where
 go:Nat->Hp->Prop
 J4:Nat->Hp->V->Hp->Prop
 stop:Nat->Hp->Prop
def jC(X:Cx)(pins:List 'g')(H:Hp)(b:Addr):Prop :=
 H b=none/\b≠X.env.locals/\b∉X.fs/\(b∈X.ex\/X.s₀.heap.objs.size<=b)/\(∀x c,X.env.cells.lookup x=some c->c≠b)/\∀p∈X.pn++pins,p.1≠b
theorem Inv.wc{X:Cx}{pins:List 'g'}{σ:St}{H H':Hp}{s:Shared}{b:Addr}(I:Inv X pins σ H s)(hb:s.heap.objs.size<=b)(hn:H' b=none):jC X pins H' b:=by
 refine⟨hn,Nat.ne_of_gt (aav I.lt hb),I.Vn hb,.inr (aay I.sz hb),λx c e z=>?_,λp hp z=>?_⟩
 ·obtain⟨v,q⟩:=I.cell x c e
  exact absurd (aav q.lt (by rw[z];exact hb)) (Nat.lt_irrefl _)
 ·exact absurd (aav (aao (I.pin p hp).1) (by rw[z];exact hb)) (Nat.lt_irrefl _)
structure Turn(P:Program)(w:World)(K:W.Frag)(tg:Expr)(J:It)(fp:List Addr)(it:Addr)(tn:Nat->Heap->Prop):Prop where
 mem:it∈fp
 obj:∀i h,tn i h->∀b∈fp,∃o,h.get? b=some o/\∀v,o.data≠.cell v
 keep:∀i h h',tn i h->(∀b∈fp,∀o,h.get? b=some o->h'.get? b=some o)->tn i h'
 item:∀(X:Cx),X.prog=P->X.w=w->X.K=K->X.calm=true->∀(i:Nat)(pins:List 'g')(s:Shared)(σ:St)(H:Hp)(E:Value->Shared->Prop),Inv X pins σ H s->(∀b∈fp,jC X pins H b)->tn i s.heap->J.go i H->wpAny (model P w) X.A (pyNext (.ref it)) (λr s1=>∃u,r=some u/\wpAny (model P w) X.A (letOwnedTupleGo tg (.ref it) u) (λ_ s2=>∃x H',Inv X pins σ H' s2/\RelV x u/\J.J4 i H x H'/\tn (i+1) s2.heap/\∀b∈fp,H' b=none) E s1) E s
 done:∀(X:Cx),X.prog=P->X.w=w->X.K=K->X.calm=true->∀(i:Nat)(pins:List 'g')(s:Shared)(σ:St)(H:Hp)(E:Value->Shared->Prop),Inv X pins σ H s->(∀b∈fp,jC X pins H b)->tn i s.heap->J.stop i H->wpAny (model P w) X.A (pyNext (.ref it)) (λr s1=>r=none/\Inv X pins σ H s1) E s
 self:∀(A:Around)(i:Nat)(s:Shared)(Q:Value->Shared->Prop)(E:Value->Shared->Prop),tn i s.heap->Q (.ref it) s->wpAny (model P w) A (pyIter (.ref it)) Q E s
abbrev TI:=St->Hp->(It->Hp->Prop)->Prop
def YL(X:Cx)(pins:List 'g')(σ:St)(tg:Expr)(R:It->Hp->Prop)(itv:Value)(s2:Shared):Prop :=
 ∃(it:Addr)(fp:List Addr)(tn:Nat->Heap->Prop)(J:It)(H':Hp),itv=.ref it/\Inv X pins σ H' s2/\Turn X.prog X.w X.K tg J fp it tn/\tn 0 s2.heap/\(∀b∈fp,jC X pins H' b)/\R J H'
def PI(X:Cx)(tg iter:Expr)(wi:TI):Prop :=
 ∀(pins:List 'g')(s:Shared)(σ:St)(H:Hp)(R:It->Hp->Prop),Inv X pins σ H s->wi σ H R->wpAny 'd' X.A (eval iter X.env) (λv s1=>wpAny 'd' X.A (pyIter v) (YL X pins σ tg R) X.xe s1) X.xe s
theorem ze{M:Model}{A:Around}{E:Value->Shared->Prop}{s:Shared}{tg:Expr}{it:Addr}{u:Value}{o:Obj}{n:String}{vs:Array Value}{Q:Unit->Shared->Prop}(ho:s.heap.get? it=some o)(hc:o.cls=.type n)(hd:o.data=.fields vs)(hn:["enumerate","zip","dict_itemiterator","dict_reverseitemiterator","odict_iterator","itertools.zip_longest","itertools.pairwise"].contains n=false)(hQ:Q () s):wpAny M A (letOwnedTupleGo tg (.ref it) u) Q E s:=by
 unfold letOwnedTupleGo
 cases tg<;>first
   |exact aar hQ
   | (cases u<;>first
       |exact aar hQ
       | (refine aaf (wpAny_load ho ?_)
          rw[hc,hd]
          show wpAny M A (if (["enumerate","zip","dict_itemiterator","dict_reverseitemiterator","odict_iterator","itertools.zip_longest","itertools.pairwise"].contains n&&vs[0]?==some (rawInt _))=true then _ else _) Q E s
          rw[aag (by intro h;rw[hn,abe]at h;cases h)]
          exact aar hQ))
def RL(K:W.Frag)(a:Addr):It :=
 ⟨λi H=>∃xs x,aM K H a xs/\xs[i]?=some x,λi H x H'=>H'=H/\∀xs,aM K H a xs->xs[i]?=some x,λi H=>∃xs,aM K H a xs/\xs.length<=i⟩
def So(K:W.Frag)(a:Addr):It :=
 ⟨λi H=>∃xs x,bR K H a xs/\xs[i]?=some x,λi H x H'=>H'=H/\∀xs,bR K H a xs->xs[i]?=some x,λi H=>∃xs,bR K H a xs/\xs.length<=i⟩
def OR(lo:Int)(n:Nat):It:=⟨λi _=>i<n,λi H x H'=>H'=H/\x=.int (lo+i),λi _=>n<=i⟩
theorem HG{P:Program}{w:World}{K:W.Frag}{tg:Expr}(a it:Addr):Turn P w K tg (RL K a) [it] it (λi h=>h.IsListIter it a i) where
 mem:=by simp
 obj:=λi h st b hb=>by
  have e:b=it:=by simpa using hb
  subst e
  obtain⟨o,e,c,d⟩:=st
  exact⟨o,e,λv z=>by rw[d]at z;cases z⟩
 keep:=λi h h' st k=>st.at λo e=>k it (by simp) o e
 item:=by
  intro X hP hw hK hc i pins s σ H E I hf st hg
  subst hP hw hK
  obtain⟨xs,x,hq,hx⟩:=hg
  obtain⟨its,rv,p,hz⟩:=I.list hq
  obtain⟨u,hu,ru⟩:=rv.get hx
  obtain⟨f0,f1,f2,f3,f4,f5⟩:=hf it (by simp)
  refine wpAny_pyNext_list_item st p.isList (x:=u) (by simpa using hu) λh' st' sb=>?_
  have I1:Inv X pins σ H {s with heap:=h'}:=I.turned (t':=s.toks) (λb o hb e=>(sb.2 b hb).trans e) f0 f1 f3 f4 f5
  obtain⟨o,e,c,d⟩:=id st'
  exact⟨u,rfl,ze (s:={s with heap:=h'}) e c d 'c' ⟨x,H,I1,ru,⟨rfl,λys hy=>by rw[I.mq hy hq];exact hx⟩,st',λb hb=>(hf b hb).1⟩⟩
 done:=by
  intro X hP hw hK hc i pins s σ H E I hf st hg
  subst hP hw hK
  obtain⟨xs,hq,hx⟩:=hg
  obtain⟨its,rv,p,hz⟩:=I.list hq
  obtain⟨f0,f1,f2,f3,f4,f5⟩:=hf it (by simp)
  have hl:=rv.length
  exact wpAny_pyNext_list_end (I.ok.hd hc) st p.isList (by simp;omega) λh' eb=>⟨rfl,I.turned (t':=s.toks) (λb o hb e=>eb b o hb e) f0 f1 f3 f4 f5⟩
 self:=λ_ _ _ _ _ st h=>wpAny_pyIter_listiter st h
theorem D4{P:Program}{w:World}{K:W.Frag}{tg:Expr}(a it:Addr):Turn P w K tg (So K a) [it] it (λi h=>h.IsTupleIter it a i) where
 mem:=by simp
 obj:=λi h st b hb=>by
  have e:b=it:=by simpa using hb
  subst e
  obtain⟨o,e,c,d⟩:=st
  exact⟨o,e,λv z=>by rw[d]at z;cases z⟩
 keep:=λi h h' st k=>st.at λo e=>k it (by simp) o e
 item:=by
  intro X hP hw hK hc i pins s σ H E I hf st hg
  subst hP hw hK
  obtain⟨xs,x,hq,hx⟩:=hg
  obtain⟨its,rv,p,hz⟩:=I.tuple hq
  obtain⟨u,hu,ru⟩:=rv.get hx
  obtain⟨f0,f1,f2,f3,f4,f5⟩:=hf it (by simp)
  refine wpAny_pyNext_tuple_item st (show s.heap.IsTuple a its.toArray from p) (x:=u) (by simpa using hu) λh' st' sb=>?_
  have I1:Inv X pins σ H {s with heap:=h'}:=I.turned (t':=s.toks) (λb o hb e=>(sb.2 b hb).trans e) f0 f1 f3 f4 f5
  obtain⟨o,e,c,d⟩:=id st'
  exact⟨u,rfl,ze (s:={s with heap:=h'}) e c d 'c' ⟨x,H,I1,ru,⟨rfl,λys hy=>by rw[I.HF hy hq];exact hx⟩,st',λb hb=>(hf b hb).1⟩⟩
 done:=by
  intro X hP hw hK hc i pins s σ H E I hf st hg
  subst hP hw hK
  obtain⟨xs,hq,hx⟩:=hg
  obtain⟨its,rv,p,hz⟩:=I.tuple hq
  obtain⟨f0,f1,f2,f3,f4,f5⟩:=hf it (by simp)
  have hl:=rv.length
  exact wpAny_pyNext_tuple_end (I.ok.hd hc) st (show s.heap.IsTuple a its.toArray from p) (by simp;omega) λh' eb=>⟨rfl,I.turned (t':=s.toks) (λb o hb e=>eb b o hb e) f0 f1 f3 f4 f5⟩
 self:=λ_ _ _ _ _ st h=>wpAny_pyIter_tupleiter st h
theorem D5{P:Program}{w:World}{K:W.Frag}{tg:Expr}(it:Addr)(lo:Int)(n:Nat):Turn P w K tg (OR lo n) [it] it (λi h=>IsRangeIter h it (lo+(i:Nat)*1) ((n:Int)-(i:Nat)) 1) where
 mem:=by simp
 obj:=λi h st b hb=>by
  have e:b=it:=by simpa using hb
  subst e
  exact⟨_,st,λv z=>by
   have z':Data.fields _=Data.cell v:=z
   cases z'⟩
 keep:=λi h h' st k=>k it (by simp) _ st
 item:=by
  intro X hP hw hK hc i pins s σ H E I hf st hg
  subst hP hw hK
  obtain⟨f0,f1,f2,f3,f4,f5⟩:=hf it (by simp)
  have W:=Walks.range (prog:=X.prog) (w:=X.w) (I.ok.hd hc) it lo 1 n
  refine W.item i s _ _ hg st λv h' tk hv st' kk=>?_
  obtain⟨t,rfl⟩:=hv
  have I1:Inv X pins σ H {s with heap:=h',toks:=tk}:=I.turned (λb o hb e=>kk b o (by simpa using hb) e) f0 f1 f3 f4 f5
  refine⟨_,rfl,ze (s:={s with heap:=h',toks:=tk}) (n:="range_iterator") st' rfl rfl 'c' ⟨.int (lo+i),H,I1,⟨t,?_⟩,⟨rfl,rfl⟩,st',λb hb=>(hf b hb).1⟩⟩
  rw[Int.mul_one]
 done:=by
  intro X hP hw hK hc i pins s σ H E I hf st hg
  subst hP hw hK
  obtain⟨f0,f1,f2,f3,f4,f5⟩:=hf it (by simp)
  exact wpAny_pyNext_range_end (I.ok.hd hc) st (by have:n<=i:=hg;omega) λh' eb=>⟨rfl,I.turned (t':=s.toks) (λb o hb e=>eb b o hb e) f0 f1 f3 f4 f5⟩
 self:=λ_ _ _ _ _ st h=>wpAny_pyIter_rangeiter st h
section
variable{X:Cx}{tg:Expr}
def OS(K:W.Frag)(tl:TE):TI:=λσ H R=>tl σ H λx H1=>∃a,x=.ref a/\(∃xs,aM K H1 a xs)/\R (RL K a) H1
def Sq(K:W.Frag)(tl:TE):TI:=λσ H R=>tl σ H λx H1=>∃a,x=.ref a/\(∃xs,bR K H1 a xs)/\R (So K a) H1
theorem M5{l:Expr}{tl:TE}(hl:PE X l tl):PI X tg l (OS X.K tl):=by
 intro pins s σ H R I h
 refine bY (hl pins s σ H _ I h) λv s1 ⟨x,H1,I1,r1,q1⟩=>?_
 obtain⟨a,e,⟨xs,hq⟩,q⟩:=q1
 subst e
 cases r1
 obtain⟨its,rv,p,hz⟩:=I1.list hq
 refine wpAny_pyIter_list p.isList ?_
 refine⟨s1.heap.objs.size,[s1.heap.objs.size],_,_,H1,rfl,I1.kept (t':=s1.toks) λb o e=>aai _ e,HG a _,⟨_,aaz _ rfl,rfl,rfl⟩,λb hb=>?_,q⟩
 have e:b=s1.heap.objs.size:=by simpa using hb
 subst e
 exact I1.wc (aan _) (I1.hok.fresh (aan _))
theorem Py{l:Expr}{tl:TE}(hl:PE X l tl):PI X tg l (Sq X.K tl):=by
 intro pins s σ H R I h
 refine bY (hl pins s σ H _ I h) λv s1 ⟨x,H1,I1,r1,q1⟩=>?_
 obtain⟨a,e,⟨xs,hq⟩,q⟩:=q1
 subst e
 cases r1
 obtain⟨its,rv,p,hz⟩:=I1.tuple hq
 refine wpAny_pyIter_tuple (show s1.heap.IsTuple a its.toArray from p) ?_
 refine⟨s1.heap.objs.size,[s1.heap.objs.size],_,_,H1,rfl,I1.kept (t':=s1.toks) λb o e=>aai _ e,D4 a _,⟨_,aaz _ rfl,rfl,rfl⟩,λb hb=>?_,q⟩
 have e:b=s1.heap.objs.size:=by simpa using hb
 subst e
 exact I1.wc (aan _) (I1.hok.fresh (aan _))
theorem Kp{pins:List 'g'}{σ:St}{H:Hp}{s:Shared}{R:It->Hp->Prop}{E:Value->Shared->Prop}{lo hi:Int}{t u v:Tok}{tk:Nat}(I:Inv X pins σ H s)(h1 : -(2 ^ 62)<=lo)(h2:lo<2 ^ 62)(h3 : -(2 ^ 62)<=hi)(h4:hi<2 ^ 62)(q:R (OR lo (hi-lo).toNat) H):wpAny 'd' X.A (pyIter (.ref s.heap.objs.size)) (YL X pins σ tg R) E {s with heap:=s.heap.push {cls:=.type "range",data:=.fields #[.int lo t,.int hi u,.int 1 v]},toks:=tk}:=by
 refine wpAny_pyIter_range (IsRange.new ..) (small_one h1 h2 h3 h4) ?_
 have I1:Inv X pins σ H {s with heap:=s.heap.push {cls:=.type "range",data:=.fields #[.int lo t,.int hi u,.int 1 v]},toks:=tk}:=I.kept λb o e=>aai _ e
 refine⟨(s.heap.push {cls:=.type "range",data:=.fields #[.int lo t,.int hi u,.int 1 v]}).objs.size,[(s.heap.push {cls:=.type "range",data:=.fields #[.int lo t,.int hi u,.int 1 v]}).objs.size],_,_,H,rfl,I1.kept (t':=tk) λb o e=>aai _ e,D5 _ lo (hi-lo).toNat,?_,λb hb=>?_,q⟩
 ·have e1:lo+((0:Nat):Int)*1=lo:=by simp
  have e2:(((hi-lo).toNat:Nat):Int)-((0:Nat):Int)=Builtin.Range.rangeSize lo hi 1:=by rw[rangeSize_one];split<;>omega
  show IsRangeIter _ _ (lo+((0:Nat):Int)*1) ((((hi-lo).toNat:Nat):Int)-((0:Nat):Int)) 1
  rw[e1,e2]
  exact aaz _ rfl
 ·have e:b=(s.heap.push {cls:=.type "range",data:=.fields #[.int lo t,.int hi u,.int 1 v]}).objs.size:=by simpa using hb
  subst e
  exact I1.wc (aan _) (I1.hok.fresh (aan _))
def Ss(ta:TA):TI:=λσ H R=>ta σ H λvs H1=>∃j:Int,vs=[.int j]/\-(2 ^ 62)<=j/\j<2 ^ 62/\R (OR 0 j.toNat) H1
theorem gn{a:Expr}{ta:TA}{p pos:Pos}(hg:Gl X "range")(hm:X.mg "range"=none)(ha:PA X [a] ta)(hs:starEach [a] X.env=[(false,eval a X.env)]:=by rfl):PI X tg (.Call (.Name "range" p) [a] [] pos) (Ss ta):=by
 intro pins s σ H R I h
 refine Call_ (jz I hg hm boot_range (aaQ (bY (ha pos pins s σ H _ I h) λus s1 ⟨vs,H1,I1,r1,q1⟩=>?_) hs rfl))
 obtain⟨j,e,q1,q2,q⟩:=q1
 subst e
 cases r1 with
 |cons r rr =>
  cases rr
  obtain⟨t,rfl⟩:=r
  exact call_range_1 (Kp I1 'b' 'b' q1 q2 (by simpa using q))
def Vw(wi:TI)(g:TG)(tb:TS):TS:=λD σ H=>wi σ H λJ H1=>∃W:Nat->Nat->St->Hp->Prop,(∃m,W 0 m σ H1)/\∀i m σ H,W i m σ H->(J.stop i H/\D.nx σ H)\/(J.go i H/\∃N:St->Hp->Prop,(∀σ' H',N σ' H'->∃m',m'<m/\W (i+1) m' σ' H')/\∀x H',J.J4 i H x H'->g x σ H' λσ2 H2=>tb {D with nx:=N,ct:=N,bk:=D.nx} σ2 H2)
def sV(fp:List Addr)(h:Heap):List 'g':=fp.filterMap λb=>(h.get? b).map λo=>(b,o)
theorem gu{fp:List Addr}{h:Heap}{b:Addr}{o:Obj}(hb:b∈fp)(e:h.get? b=some o):(b,o)∈sV fp h:=List.mem_filterMap.mpr ⟨b,hb,by rw[e];rfl⟩
theorem HH{fp:List Addr}{h:Heap}{p:Addr×Obj}(hp:p∈sV fp h):p.1∈fp/\h.get? p.1=some p.2:=by
 obtain⟨b,hb,e⟩:=List.mem_filterMap.mp hp
 cases q:h.get? b with
 |none=>rw[q]at e;cases e
 |some o =>
  rw[q]at e
  have e':(b,o)=p:=aah e
  subst e'
  exact⟨hb,q⟩
theorem Inv.pinned{pins:List 'g'}{σ:St}{H:Hp}{s:Shared}{fp:List Addr}(I:Inv X pins σ H s)(hf:∀b∈fp,jC X pins H b)(ho:∀b∈fp,∃o,s.heap.get? b=some o/\∀v,o.data≠.cell v):Inv X (pins++sV fp s.heap) σ H s :=
 I.GI λp hp=>(aaI.mp hp).elim (λz=>I.pin p (aaG _ z)) λz=>by
  obtain⟨hb,e⟩:=HH z
  obtain⟨f0,f1,f2,_⟩:=hf p.1 hb
  obtain⟨o,e',d⟩:=ho p.1 hb
  rw[e]at e';cases e'
  exact⟨e,f0,f1,f2,d⟩
theorem Inv.mC{pins pl:List 'g'}{σ:St}{H:Hp}{s:Shared}(I:Inv X (pins++pl) σ H s):Inv X pins σ H s:=I.GI λp hp=>I.pin p (aaG _ (List.mem_append_left _ hp))
theorem gv{iter:Expr}{body:List Stmt}{wi:TI}{g:TG}{tb:TS}{pos:Pos}(hp:PassesOwn 'd' X.A X.env X.xe)(hc:X.calm=true)(hi:PI X tg iter wi)(hg:PG X tg g)(hb:BV X body tb)(hs:∀x,foldedSetIterable iter X.env x=pure x:=by intro _;rfl):PS X (.For tg iter body [] pos) (Vw wi g tb):=by
 intro pins s σ H D I h
 refine wpAny_For (bY (hi pins s σ H _ I h) λv s1 h1=>bY h1 λitv s2 h2=>?_) hs
 obtain⟨it,fp,tn,J,H2,e,I2,T,st2,f2,W,⟨m0,w0⟩,turn⟩:=h2
 subst e
 have wg:∀{H':Hp},(∀b∈fp,H' b=none)->∀b∈fp,jC X pins H' b:=λhn b hb=>⟨hn b hb,(f2 b hb).2⟩
 refine codeAny_forLoop_any (λn s'=>∃i σ' H',Inv X pins σ' H' s'/\tn i s'.heap/\(∀b∈fp,H' b=none)/\W i n σ' H') ?_ m0 ⟨0,σ,H2,I2,st2,λb hb=>(f2 b hb).1,w0⟩
 rintro n s3 ⟨i,σ3,H3,I3,st3,YN,w3⟩
 rcases turn i n σ3 H3 w3 with ⟨stop,qn⟩|⟨go,N,hN,step⟩
 ·refine abw hp (bY (T.done X rfl rfl rfl hc i pins s3 σ3 H3 X.xe I3 (wg YN) st3 stop) λr s4 ⟨hr,I4⟩=>?_)
  subst hr
  exact wpAny_execs_nil ⟨σ3,H3,I4,qn⟩
 ·refine abw hp (bY (T.item X rfl rfl rfl hc i pins s3 σ3 H3 X.xe I3 (wg YN) st3 go) λr s4 ⟨u,hr,h4⟩=>?_)
  subst hr
  refine abw hp (bY h4 λ_ s5 ⟨x,H5,I5,r5,y5,Vx,fr5⟩=>?_)
  have I5':=I5.pinned (wg fr5) (T.obj _ _ Vx)
  refine abw hp (bY (hg _ s5 σ3 H5 x u _ I5' r5 (step x H5 y5)) λ_ s6 ⟨σ6,H6,I6,q6⟩=>?_)
  refine abw hp (bY (hb _ s6 σ6 H6 _ I6 q6) λf s7 q7=>?_)
  have again:∀{σ7:St}{H7:Hp},Inv X (pins++sV fp s5.heap) σ7 H7 s7->N σ7 H7->∃m,m<n/\∃i σ' H',Inv X pins σ' H' s7/\tn i s7.heap/\(∀b∈fp,H' b=none)/\W i m σ' H':=λ{σ7 H7} I7 n7=>by
   obtain⟨m',hm,w7⟩:=hN σ7 H7 n7
   refine⟨m',hm,i+1,σ7,H7,I7.mC,T.keep _ _ _ Vx λb hb o e=>(I7.pin (b,o) (aaG _ (aaG _ (gu hb e)))).1,λb hb=>?_,w7⟩
   obtain⟨o,e,d⟩:=T.obj _ _ Vx b hb
   exact(I7.pin (b,o) (aaG _ (aaG _ (gu hb e)))).2.1
  cases f with
  |next=>obtain⟨σ7,H7,I7,n7⟩:=q7;exact again I7 n7
  |cont=>obtain⟨σ7,H7,I7,n7⟩:=q7;exact again I7 n7
  |brk=>obtain⟨σ7,H7,I7,q7⟩:=q7;exact⟨σ7,H7,I7.mC,q7⟩
  |ret v=>obtain⟨x7,σ7,H7,I7,r7,q7⟩:=q7;exact⟨x7,σ7,H7,I7.mC,r7,q7⟩
end
theorem qO{K:W.Frag}{a:Addr}{xs:List V}{g:TG}{tb:TS}{D:Ends}{σ:St}{H:Hp}(Pv:Nat->St->Hp->Prop)(h0:Pv 0 σ H)(hl:∀i σ H,i<=xs.length->Pv i σ H->aM K H a xs)(hs:∀i x σ H,xs[i]?=some x->Pv i σ H->g x σ H λσ2 H2=>tb {D with nx:=Pv (i+1),ct:=Pv (i+1),bk:=D.nx} σ2 H2)(hd:∀σ H,Pv xs.length σ H->D.nx σ H):∃W:Nat->Nat->St->Hp->Prop,(∃m,W 0 m σ H)/\∀i m σ H,W i m σ H->((RL K a).stop i H/\D.nx σ H)\/((RL K a).go i H/\∃N:St->Hp->Prop,(∀σ' H',N σ' H'->∃m',m'<m/\W (i+1) m' σ' H')/\∀x H',(RL K a).J4 i H x H'->g x σ H' λσ2 H2=>tb {D with nx:=N,ct:=N,bk:=D.nx} σ2 H2):=by
 refine⟨λi m σ H=>m=xs.length-i/\i<=xs.length/\Pv i σ H,⟨xs.length,by simp,aaY _,h0⟩,?_⟩
 rintro i m σ H ⟨rfl,hi,p⟩
 have q:=hl i σ H hi p
 by_cases hlt:i<xs.length
 ·refine .inr ⟨⟨xs,xs[i],q,by simp[hlt]⟩,Pv (i+1),λσ' H' p'=>⟨xs.length-(i+1),by omega,rfl,hlt,p'⟩,λx H' y=>?_⟩
  obtain⟨e,y⟩:=y
  subst e
  exact hs i x σ _ (y xs q) p
 ·have e:i=xs.length:=by omega
  subst e
  exact .inl ⟨⟨xs,q,aan _⟩,hd σ H p⟩
theorem M6{K:W.Frag}{a:Addr}{xs:List V}{g:TG}{tb:TS}{D:Ends}{σ:St}{H:Hp}(Pv:Nat->St->Hp->Prop)(h0:Pv 0 σ H)(hl:∀i σ H,i<=xs.length->Pv i σ H->bR K H a xs)(hs:∀i x σ H,xs[i]?=some x->Pv i σ H->g x σ H λσ2 H2=>tb {D with nx:=Pv (i+1),ct:=Pv (i+1),bk:=D.nx} σ2 H2)(hd:∀σ H,Pv xs.length σ H->D.nx σ H):∃W:Nat->Nat->St->Hp->Prop,(∃m,W 0 m σ H)/\∀i m σ H,W i m σ H->((So K a).stop i H/\D.nx σ H)\/((So K a).go i H/\∃N:St->Hp->Prop,(∀σ' H',N σ' H'->∃m',m'<m/\W (i+1) m' σ' H')/\∀x H',(So K a).J4 i H x H'->g x σ H' λσ2 H2=>tb {D with nx:=N,ct:=N,bk:=D.nx} σ2 H2):=by
 refine⟨λi m σ H=>m=xs.length-i/\i<=xs.length/\Pv i σ H,⟨xs.length,by simp,aaY _,h0⟩,?_⟩
 rintro i m σ H ⟨rfl,hi,p⟩
 have q:=hl i σ H hi p
 by_cases hlt:i<xs.length
 ·refine .inr ⟨⟨xs,xs[i],q,by simp[hlt]⟩,Pv (i+1),λσ' H' p'=>⟨xs.length-(i+1),by omega,rfl,hlt,p'⟩,λx H' y=>?_⟩
  obtain⟨e,y⟩:=y
  subst e
  exact hs i x σ _ (y xs q) p
 ·have e:i=xs.length:=by omega
  subst e
  exact .inl ⟨⟨xs,q,aan _⟩,hd σ H p⟩
theorem nW{lo:Int}{n:Nat}{g:TG}{tb:TS}{D:Ends}{σ:St}{H:Hp}(Pv:Nat->St->Hp->Prop)(h0:Pv 0 σ H)(hs:∀i σ H,i<n->Pv i σ H->g (.int (lo+i)) σ H λσ2 H2=>tb {D with nx:=Pv (i+1),ct:=Pv (i+1),bk:=D.nx} σ2 H2)(hd:∀σ H,Pv n σ H->D.nx σ H):∃W:Nat->Nat->St->Hp->Prop,(∃m,W 0 m σ H)/\∀i m σ H,W i m σ H->((OR lo n).stop i H/\D.nx σ H)\/((OR lo n).go i H/\∃N:St->Hp->Prop,(∀σ' H',N σ' H'->∃m',m'<m/\W (i+1) m' σ' H')/\∀x H',(OR lo n).J4 i H x H'->g x σ H' λσ2 H2=>tb {D with nx:=N,ct:=N,bk:=D.nx} σ2 H2):=by
 refine⟨λi m σ H=>m=n-i/\i<=n/\Pv i σ H,⟨n,by simp,aaY _,h0⟩,?_⟩
 rintro i m σ H ⟨rfl,hi,p⟩
 by_cases hlt:i<n
 ·refine .inr ⟨hlt,Pv (i+1),λσ' H' p'=>⟨n-(i+1),by omega,rfl,hlt,p'⟩,λx H' y=>?_⟩
  obtain⟨e,y⟩:=y
  subst e y
  exact hs i σ _ hlt p
 ·have e:i=n:=by omega
  subst e
  exact .inl ⟨aan _,hd σ H p⟩
abbrev R2:=V->V->Hp->VK->Prop
def nX(X:Cx)(f:Value->Value->Sem Value)(r:R2):Prop :=
 ∀(pins:List 'g')(s:Shared)(σ:St)(H:Hp)(x y:V)(v u:Value)(Q:VK),Inv X pins σ H s->RelV x v->RelV y u->r x y H Q->wpAny 'd' X.A (f v u) (EP X pins σ Q) X.xe s
def Vy(X:Cx)(f:Value->Sem Value)(r:V->Hp->VK->Prop):Prop :=
 ∀(pins:List 'g')(s:Shared)(σ:St)(H:Hp)(x:V)(v:Value)(Q:VK),Inv X pins σ H s->RelV x v->r x H Q->wpAny 'd' X.A (f v) (EP X pins σ Q) X.xe s
def fM(X:Cx)(f:Value)(r:List V->Hp->VK->Prop):Prop :=
 ∀(pins:List 'g')(s:Shared)(σ:St)(H:Hp)(xs:List V)(us:List Value)(Q:VK),Inv X pins σ H s->Vals xs us->r xs H Q->wpAny 'd' X.A (call f us) (EP X pins σ Q) X.xe s
def MO(r:R2)(ta tb:TE):TE:=λσ H Q=>ta σ H λx H1=>tb σ H1 λy H2=>r x y H2 Q
def tUn(r:V->Hp->VK->Prop)(ta:TE):TE:=λσ H Q=>ta σ H λx H1=>r x H1 Q
def rI(C:Int->Int->Prop)(g:Int->Int->V):R2:=λx y H Q=>∃i j,x=.int i/\y=.int j/\C i j/\Q (g i j) H
def M7(g:Int->Int->V):R2:=λx y H Q=>∃i j,x=.int i/\y=.int j/\Q (g i j) H
def rU(g:Int->V):V->Hp->VK->Prop:=λx H Q=>∃i,x=.int i/\Q (g i) H
section
variable{X:Cx}{a b c:Expr}{ta tb tc:TE}{pos:Pos}
theorem Pz(ha:PE X a ta)(hb:PE X b tb){pins:List 'g'}{s:Shared}{σ:St}{H:Hp}{R:V->V->Hp->Prop}(I:Inv X pins σ H s)(h:ta σ H λx H1=>tb σ H1 λy H2=>R x y H2){Q:Value->Shared->Prop}{f:Value->Value->Sem Value}(hf:∀v u s2 x y H2,Inv X pins σ H2 s2->RelV x v->RelV y u->R x y H2->wpAny 'd' X.A (f v u) Q X.xe s2):wpAny 'd' X.A (eval a X.env) (λv s₁=>wpAny 'd' X.A (eval b X.env) (λu s₂=>wpAny 'd' X.A (f v u) Q X.xe s₂) X.xe s₁) X.xe s:=by
 refine bY (ha pins s σ H _ I h) λv s1 ⟨x,H1,I1,r1,q1⟩=>?_
 refine bY (hb pins s1 σ H1 _ I1 q1) λu s2 ⟨y,H2,I2,r2,q2⟩=>?_
 exact hf v u s2 x y H2 I2 r1 r2 q2
theorem aD{op:Operator}{r:R2}(ho:nX X (binaryOp op) r)(ha:PE X a ta)(hb:PE X b tb):PE X (.BinOp a op b pos) (MO r ta tb):=by
 intro pins s σ H Q I h
 exact wpAny_BinOp (Pz ha hb I h λv u s2 x y H2 I2 rx ry q=>ho pins s2 σ H2 x y v u Q I2 rx ry q)
theorem Su{op:UnaryOp}{r:V->Hp->VK->Prop}(ho:Vy X (unaryOp op) r)(ha:PE X a ta):PE X (.UnaryOp op a pos) (tUn r ta):=by
 intro pins s σ H Q I h
 exact UnaryOp_ (bY (ha pins s σ H _ I h) λv s1 ⟨x,H1,I1,r1,q1⟩=>ho pins s1 σ H1 x v Q I1 r1 q1)
theorem UL{f:Value->Value->Sem Value}{C:Int->Int->Prop}{g:Int->Int->Int}(rule:∀(i j:Int)(t u:Tok)(s:Shared)(Q:Value->Shared->Prop)(E:Value->Shared->Prop),C i j->Q (.int (g i j) s.toks) {s with toks:=s.toks+1}->wpAny 'd' X.A (f (.int i t) (.int j u)) Q E s):nX X f (rI C λi j=>.int (g i j)):=by
 intro pins s σ H x y v u Q I rx ry h
 obtain⟨i,j,rfl,rfl,hc,q⟩:=h
 obtain⟨t,rfl⟩:=rx
 obtain⟨t',rfl⟩:=ry
 exact rule i j t t' s _ _ hc ⟨.int (g i j),H,I.tok _,⟨_,rfl⟩,q⟩
theorem Sv{f:Value->Value->Sem Value}{g:Int->Int->Int}(rule:∀(i j:Int)(t u:Tok)(s:Shared)(Q:Value->Shared->Prop)(E:Value->Shared->Prop),Q (.int (g i j) s.toks) {s with toks:=s.toks+1}->wpAny 'd' X.A (f (.int i t) (.int j u)) Q E s):nX X f (M7 λi j=>.int (g i j)):=by
 intro pins s σ H x y v u Q I rx ry h
 obtain⟨i,j,rfl,rfl,q⟩:=h
 obtain⟨t,rfl⟩:=rx
 obtain⟨t',rfl⟩:=ry
 exact rule i j t t' s _ _ ⟨.int (g i j),H,I.tok _,⟨_,rfl⟩,q⟩
theorem M8{f:Value->Value->Sem Value}{g:Int->Int->Bool}(rule:∀(i j:Int)(t u:Tok)(s:Shared)(Q:Value->Shared->Prop)(E:Value->Shared->Prop),Q (.bool (g i j)) s->wpAny 'd' X.A (f (.int i t) (.int j u)) Q E s):nX X f (M7 λi j=>.bl (g i j)):=by
 intro pins s σ H x y v u Q I rx ry h
 obtain⟨i,j,rfl,rfl,q⟩:=h
 obtain⟨t,rfl⟩:=rx
 obtain⟨t',rfl⟩:=ry
 exact rule i j t t' s _ _ ⟨.bl (g i j),H,I,rfl,q⟩
def Vz(i j:Int):Prop:=0<j/\j<1073741824
def Sw(i j:Int):Prop:=0<=j/\j<=1000000/\i.natAbs<2 ^ 64
def M9(i j:Int):Prop:=(-(2 ^ 64)<i/\i<2 ^ 64)\/(-(2 ^ 64)<j/\j<2 ^ 64)
theorem M9.ok{i j:Int}(h:M9 i j):IntMulOk i j:=by
 rcases h with ⟨h1,h2⟩|⟨h1,h2⟩
 ·exact .of_left (intBits_le_64 h1 h2)
 ·exact .of_right (intBits_le_64 h1 h2)
theorem cX:nX X (binaryOp .Add) (M7 λi j=>.int (i+j)):=Sv λ_ _ _ _ _ _ _ q=>add_int q
theorem sW:nX X (binaryOp .Sub) (M7 λi j=>.int (i-j)):=Sv λ_ _ _ _ _ _ _ q=>sub_int q
theorem gw:nX X (binaryOp .Mult) (rI M9 λi j=>.int (i*j)):=UL λ_ _ _ _ _ _ _ hc q=>mul_int q hc.ok
theorem dI:nX X (binaryOp .FloorDiv) (rI Vz λi j=>.int (i / j)):=UL λi j _ _ _ _ _ hc q=>by
 have h1:(0:Int)<j:=hc.1
 have h2:j<1073741824:=hc.2
 exact floordiv_int 'b' (by rw[Int.fdiv_eq_ediv_of_nonneg i 'b'];exact q) (.inl (PyProof.noPylong_small 'b'))
theorem bf:nX X (binaryOp .Mod) (rI (λ_ j=>0<j) λi j=>.int (i % j)):=UL λi j _ _ _ _ _ hc q=>by
 have h1:(0:Int)<j:=hc
 exact mod_int' 'b' (by rw[Int.fmod_eq_emod_of_nonneg i 'b'];exact q)
theorem Aa:nX X (binaryOp .Pow) (rI Sw λi j=>.int (i ^ j.toNat)):=UL λ_ _ _ _ _ _ _ hc q=>pow_int_small hc.1 hc.2.1 hc.2.2 q
theorem unI{f:Value->Sem Value}{g:Int->Int}(rule:∀(i:Int)(t:Tok)(s:Shared)(Q:Value->Shared->Prop)(E:Value->Shared->Prop),Q (.int (g i) s.toks) {s with toks:=s.toks+1}->wpAny 'd' X.A (f (.int i t)) Q E s):Vy X f (rU λi=>.int (g i)):=by
 intro pins s σ H x v Q I rx h
 obtain⟨i,rfl,q⟩:=h
 obtain⟨t,rfl⟩:=rx
 exact rule i t s _ _ ⟨.int (g i),H,I.tok _,⟨_,rfl⟩,q⟩
theorem PB:Vy X (unaryOp .USub) (rU λi=>.int (-i)):=unI λ_ _ _ _ _ q=>neg_int q
end
def Sx:V->V->Bool
 | .non,.non=>true | .non,.int _=>true | .int _,.non=>true | .non,.bl _=>true | .bl _,.non=>true | .non,.str _=>true | .str _,.non=>true
 | .int _,.int _=>true | .bl _,.bl _=>true | .str _,.str _=>true | .JZ _,.JZ _=>true
 | .int _,.str _=>true | .str _,.int _=>true | .bl _,.str _=>true | .str _,.bl _=>true
 |_,_=>false
def rEq:R2:=λx y H Q=>Sx x y=true/\Q (.bl (decide (x=y))) H
def rNe:R2:=λx y H Q=>Sx x y=true/\Q (.bl (!decide (x=y))) H
theorem GJ{i j:Int}:decide (V.int i=V.int j)=(i==j):=by
 rw[aa0]
 simp
theorem Kq{i j:Bool}:decide (V.bl i=V.bl j)=(i==j):=by
 rw[aa0]
 simp
theorem GK{i j:Str}:decide (V.str i=V.str j)=(i==j):=by
 rw[aa0]
 simp
theorem GL{i j:Array UInt8}:decide (V.JZ i=V.JZ j)=(i.toList==j.toList):=by
 rw[aa0]
 cases i
 cases j
 simp
section
variable{X:Cx}{a b c:Expr}{ta tb tc:TE}{pos:Pos}
theorem bA{pins:List 'g'}{σ:St}{H:Hp}{s:Shared}{Q:VK}{k k':Bool}(I:Inv X pins σ H s)(q:Q (.bl k) H)(e:k=k'):EP X pins σ Q (.bool k') s:=by
 subst e
 exact⟨.bl k,H,I,O,q⟩
theorem bg:nX X (compareOp .Eq) rEq:=by
 intro pins s σ H x y v u Q I rx ry h
 obtain⟨hs,q⟩:=h
 cases x with
 |non =>
  cases rx
  cases y with
  |non=>cases ry;exact PySem.EqNone.eq_none_none (bA I q (by simp))
  |bl j=>cases ry;exact PySem.EqNone.eq_none_bool (bA I q (by simp))
  |int j=>obtain⟨t',rfl⟩:=ry;exact PySem.EqNone.eq_none_int (bA I q (by simp))
  |str j=>obtain⟨t',rfl⟩:=ry;exact PySem.EqNone.eq_none_str (bA I q (by simp))
  |_=>exact absurd (show false=true from hs) aaw
 |bl i =>
  cases rx
  cases y with
  |non=>cases ry;exact PySem.EqNone.eq_bool_none (bA I q (by simp))
  |bl j=>cases ry;exact eq_bool (bA I q Kq)
  |str j=>obtain⟨t',rfl⟩:=ry;exact PySem.EqMixed.eq_bool_str (bA I q (by simp))
  |_=>exact absurd (show false=true from hs) aaw
 |int i =>
  obtain⟨t,rfl⟩:=rx
  cases y with
  |non=>cases ry;exact PySem.EqNone.eq_int_none (bA I q (by simp))
  |int j=>obtain⟨t',rfl⟩:=ry;exact eq_int (bA I q GJ)
  |str j=>obtain⟨t',rfl⟩:=ry;exact PySem.EqMixed.eq_int_str (bA I q (by simp))
  |_=>exact absurd (show false=true from hs) aaw
 |str i =>
  obtain⟨t,rfl⟩:=rx
  cases y with
  |non=>cases ry;exact PySem.EqNone.eq_str_none (bA I q (by simp))
  |bl j=>cases ry;exact PySem.EqMixed.eq_str_bool (bA I q (by simp))
  |int j=>obtain⟨t',rfl⟩:=ry;exact PySem.EqMixed.eq_str_int (bA I q (by simp))
  |str j=>obtain⟨t',rfl⟩:=ry;exact eq_str (bA I q GK)
  |_=>exact absurd (show false=true from hs) aaw
 |JZ i =>
  obtain⟨t,rfl⟩:=rx
  cases y with
  |JZ j=>obtain⟨t',rfl⟩:=ry;exact W.eq_bytes (bA I q GL)
  |_=>exact absurd (show false=true from hs) aaw
 |_=>cases y<;>exact absurd (show false=true from hs) aaw
theorem zf:nX X (compareOp .NotEq) rNe:=by
 intro pins s σ H x y v u Q I rx ry h
 obtain⟨hs,q⟩:=h
 cases x with
 |non =>
  cases rx
  cases y with
  |non=>cases ry;exact PySem.EqNone.ne_none_none (bA I q (by simp))
  |bl j=>cases ry;exact PySem.EqNone.ne_none_bool (bA I q (by simp))
  |int j=>obtain⟨t',rfl⟩:=ry;exact PySem.EqNone.ne_none_int (bA I q (by simp))
  |str j=>obtain⟨t',rfl⟩:=ry;exact PySem.EqNone.ne_none_str (bA I q (by simp))
  |_=>exact absurd (show false=true from hs) aaw
 |bl i =>
  cases rx
  cases y with
  |non=>cases ry;exact PySem.EqNone.ne_bool_none (bA I q (by simp))
  |bl j=>cases ry;exact ne_bool (bA I q (congrArg not Kq))
  |str j=>obtain⟨t',rfl⟩:=ry;exact PySem.EqMixed.ne_bool_str (bA I q (by simp))
  |_=>exact absurd (show false=true from hs) aaw
 |int i =>
  obtain⟨t,rfl⟩:=rx
  cases y with
  |non=>cases ry;exact PySem.EqNone.ne_int_none (bA I q (by simp))
  |int j=>obtain⟨t',rfl⟩:=ry;exact ne_int (bA I q (congrArg not GJ))
  |str j=>obtain⟨t',rfl⟩:=ry;exact PySem.EqMixed.ne_int_str (bA I q (by simp))
  |_=>exact absurd (show false=true from hs) aaw
 |str i =>
  obtain⟨t,rfl⟩:=rx
  cases y with
  |non=>cases ry;exact PySem.EqNone.ne_str_none (bA I q (by simp))
  |bl j=>cases ry;exact PySem.EqMixed.ne_str_bool (bA I q (by simp))
  |int j=>obtain⟨t',rfl⟩:=ry;exact PySem.EqMixed.ne_str_int (bA I q (by simp))
  |str j=>obtain⟨t',rfl⟩:=ry;exact ne_str (bA I q (congrArg not GK))
  |_=>exact absurd (show false=true from hs) aaw
 |JZ i =>
  obtain⟨t,rfl⟩:=rx
  cases y with
  |JZ j=>obtain⟨t',rfl⟩:=ry;exact W.ne_bytes (bA I q (congrArg not GL))
  |_=>exact absurd (show false=true from hs) aaw
 |_=>cases y<;>exact absurd (show false=true from hs) aaw
theorem ur:nX X (compareOp .Lt) (M7 λi j=>.bl (decide (i<j))):=M8 λ_ _ _ _ _ _ _ q=>lt_int q
theorem OU:nX X (compareOp .LtE) (M7 λi j=>.bl (decide (i<=j))):=M8 λ_ _ _ _ _ _ _ q=>le_int q
theorem qP:nX X (compareOp .Gt) (M7 λi j=>.bl (decide (j<i))):=M8 λ_ _ _ _ _ _ _ q=>gt_int q
theorem Kr:nX X (compareOp .GtE) (M7 λi j=>.bl (decide (j<=i))):=M8 λ_ _ _ _ _ _ _ q=>ge_int q
theorem fN:nX X (compareOp .In) (λx y H Q=>∃i j,x=.str i/\y=.str j/\Q (.bl (!(Builtin.Str.occurrences j i 0 j.length 1).isEmpty)) H):=by
 intro pins s σ H x y v u Q I rx ry h
 obtain⟨i,j,rfl,rfl,q⟩:=h
 obtain⟨t,rfl⟩:=rx
 obtain⟨t',rfl⟩:=ry
 exact in_str (bA I q rfl)
theorem D6:nX X (compareOp .Is) (λx y H Q=>y=.non/\Q (.bl (decide (x=.non))) H):=by
 intro pins s σ H x y v u Q I rx ry h
 obtain⟨rfl,q⟩:=h
 cases ry
 refine is_none_gen (bA I q ?_)
 cases x<;>first
  | (cases rx;rfl)
  | (obtain⟨t,rfl⟩:=rx;rfl)
theorem Na:nX X (compareOp .IsNot) (λx y H Q=>y=.non/\Q (.bl (!decide (x=.non))) H):=by
 intro pins s σ H x y v u Q I rx ry h
 obtain⟨rfl,q⟩:=h
 cases ry
 refine isnot_none_gen (bA I q ?_)
 cases x<;>first
  | (cases rx;rfl)
  | (obtain⟨t,rfl⟩:=rx;rfl)
theorem Ks(b:Expr){op:CmpOp}(h:op≠.In:=by decide)(h2:op≠.NotIn:=by decide):behindInMarks op b=false:=by
 have e1:(op==CmpOp.In)=false:=by cases op<;>first|rfl|exact absurd rfl h
 have e2:(op==CmpOp.NotIn)=false:=by cases op<;>first|rfl|exact absurd rfl h2
 cases b<;>simp[behindInMarks,e1,e2]
theorem Nb{op:CmpOp}{r:R2}(ho:nX X (compareOp op) r)(ha:PE X a ta)(hb:PE X b tb)(hm:behindInMarks op b=false):PE X (.Compare a [op] [b] pos) (MO r ta tb):=by
 intro pins s σ H Q I h
 exact wpAny_Compare1 (Pz ha hb I h λv u s2 x y H2 I2 rx ry q=>ho pins s2 σ H2 x y v u Q I2 rx ry q) hm
def OV(t:TE):TT:=λσ H Q=>t σ H λx H'=>∃k,x=.bl k/\Q k H'
theorem fS{op:CmpOp}{r:R2}(ho:nX X (compareOp op) r)(ha:PE X a ta)(hb:PE X b tb)(hm:behindInMarks op b=false):PT X (.Compare a [op] [b] pos) (OV (MO r ta tb)):=by
 intro pins s σ H Q I h
 refine wpAny_isTrue_Compare1 (bY (ha pins s σ H _ I h) λv s1 ⟨x,H1,I1,r1,q1⟩=>bY (hb pins s1 σ H1 _ I1 q1) λu s2 ⟨y,H2,I2,r2,q2⟩ =>
  bY (ho pins s2 σ H2 x y v u _ I2 r1 r2 q2) λc s3 ⟨z,H3,I3,r3,k,e,q3⟩=>?_) hm
 subst e
 cases r3
 exact wpAny_truthy_bool ⟨H3,I3,q3⟩
theorem sY:(sizeLine:Nat)<2 ^ 63:=by rw[sizeLine_eq];decide
theorem fE:nX X (binaryOp .Add) (λx y H Q=>∃i j,x=.str i/\y=.str j/\i.length+j.length<=sizeLine/\Q (.str (i++j)) H):=by
 intro pins s σ H x y v u Q I rx ry h
 obtain⟨i,j,rfl,rfl,hz,q⟩:=h
 obtain⟨t,rfl⟩:=rx
 obtain⟨t',rfl⟩:=ry
 exact add_str (λt' tk=>⟨.str (i++j),H,I.tok _,⟨_,rfl⟩,q⟩) hz
theorem vals1{x:V}{us:List Value}(r:Vals [x] us):∃u,us=[u]/\RelV x u:=by
 cases r with
 |cons r1 r2=>cases r2;exact⟨_,rfl,r1⟩
theorem vals2{x y:V}{us:List Value}(r:Vals [x,y] us):∃u w',us=[u,w']/\RelV x u/\RelV y w':=by
 cases r with
 |cons r1 r2 =>
  cases r2 with
  |cons r3 r4=>cases r4;exact⟨_,_,rfl,r1,r3⟩
theorem HJ(hc:X.calm=true):fM X (.builtin "max") (λxs H Q=>∃i j,xs=[.int i,.int j]/\Q (.int (if j>i then j else i)) H):=by
 intro pins s σ H xs us Q I r h
 obtain⟨i,j,rfl,q⟩:=h
 obtain⟨u,w',rfl,⟨t,rfl⟩,⟨t',rfl⟩⟩:=vals2 r
 refine max_two_ints (I.ok.hd hc) λh' tk k=>⟨_,H,I.kept k,?_,q⟩
 by_cases hj:j>i
 ·rw[aal hj,aal hj];exact⟨_,rfl⟩
 ·rw[aag hj,aag hj];exact⟨_,rfl⟩
theorem zg:fM X (.type "int") (λxs H Q=>(∃i,xs=[.int i]/\Q (.int i) H)\/∃k,xs=[.bl k]/\Q (.int (if k then 1 else 0)) H):=by
 intro pins s σ H xs us Q I r h
 rcases h with ⟨i,rfl,q⟩|⟨k,rfl,q⟩
 ·obtain⟨u,rfl,t,rfl⟩:=vals1 r
  exact call_int_int ⟨.int i,H,I,⟨_,rfl⟩,q⟩
 ·obtain⟨u,rfl,r1⟩:=vals1 r
  cases r1
  exact call_int_bool ⟨.int (if k then 1 else 0),H,I.tok _,⟨_,rfl⟩,q⟩
theorem Ku:fM X (.builtin "ord") (λxs H Q=>∃x,xs=[.str x]/\x.length=1/\Q (.int (x.cps.getD 0 0:Nat)) H):=by
 intro pins s σ H xs us Q I r h
 obtain⟨x,rfl,hz,q⟩:=h
 obtain⟨u,rfl,t,rfl⟩:=vals1 r
 exact ord_of_one hz ⟨.int _,H,I.tok _,⟨_,rfl⟩,q⟩
end
structure D7(h:Heap)(x dx C:Addr)(mA:Str->Option Value):Prop where
 obj:h.get? x=some (W.instObj C dx)
 ns:h.Ns1 dx mA
 ne:dx≠x
theorem zh{h:Heap}{dx:Addr}{mA:Str->Option Value}(n:h.Ns1 dx mA):∃od,h.get? dx=some od/\∀name,W.lookIn name od=some (mA name):=by
 obtain⟨o,es,ep,ho,hd,hk,_,hm⟩:=n
 refine⟨o,ho,λname=>?_⟩
 have e:=hm name
 unfold nsFind findBy at e
 rw[←Array.find?_toList]at e
 unfold W.lookIn
 rw[hd]
 dsimp only
 split
 ·rename_i y q
  rw[q]at e
  exact congrArg some e
 ·rename_i q
  rw[q]at e
  have a:es.toList.any (·.refKey)=false:=by
   rw[List.any_eq_false]
   intro y hy
   obtain⟨z,t,hkey⟩:=hk y (Array.mem_toList_iff.mp hy)
   simp[DictEntry.refKey,hkey]
  have a':¬es.toList.any (·.refKey)=true:=by rw[a];exact aaw
  rw[aag a']
  exact congrArg some e
theorem D7.look{h:Heap}{x dx C:Addr}{mA:Str->Option Value}(I:D7 h x dx C mA):∃od,W.InstAt h x (W.instObj C dx) C (some od)/\∀name,W.lookIn name od=some (mA name) :=
 let ⟨od,ho,hl⟩:=zh I.ns
 ⟨od,⟨I.obj,rfl,rfl,ho⟩,hl⟩
section
variable{prog:Program}{w:World}{A:Around}{E:Value->Shared->Prop}{s:Shared}{K:W.Frag}{x dx C f:Addr}{mA:Str->Option Value}{name:Str}{v:Value}
theorem get_map{expr:Bool}{Q:Value->Shared->Prop}(X:K.In s.heap)(I:D7 s.heap x dx C mA)(hg:W.plainGet K C name=true)(hh:W.hasDictIn K C=true)(ha:W.findIn K (.ref C) name=some none)(hv:mA name=some v)(hv':W.handedIn v=true)(h:Q v {s with toks:=s.toks+1}):wpAny (model prog w) A (getAttr (.ref x) name expr) Q E s:=by
 obtain⟨od,J,hl⟩:=I.look
 exact W.get_value X J (W.plainGet_of hg).1 (W.findObj_own hh ha rfl (by rw[hl,hv])) hv' h
theorem Kv{pl:Sem Bool}{Q:Value×List Value->Shared->Prop}(X:K.In s.heap)(I:D7 s.heap x dx C mA)(hg:W.plainGet K C name=true)(hf:W.findIn K (.ref C) name=some (some (.ref f)))(ht:W.isFn K (.ref f)=true)(hv:mA name=none)(h:Q (.ref f,[.ref x]) s):wpAny (model prog w) A (getMethod (.ref x) name pl) Q E s:=by
 obtain⟨od,J,hl⟩:=I.look
 exact W.method_fn X J (W.plainGet_of hg).1 (W.plainGet_of hg).2 hf (abD.mp ht) (by show(W.lookIn name od).map (·.isSome)=some false;rw[hl,hv];rfl) h
theorem Nc{ns:List Str}{Q:Unit->Shared->Prop}(X:K.In s.heap)(I:D7 s.heap x dx C mA)(hs:W.findIn K (.ref C) "__setattr__"=some (some (.builtin "object.__setattr__")))(hp:W.plainOver K C=true)(ht:W.takerIn K C name=some none)(hh:W.hasDictIn K C=true)(hw:PySem.Within mA ns)(hsz:ns.length<=sizeLine)(h:∀h',D7 h' x dx C (λy=>if y=name then some v else mA y)->Heap.SameBut dx s.heap h'->Q () {s with heap:=h',toks:=s.toks+2}):wpAny (model prog w) A (setAttr (.ref x) name v) Q E s:=by
 obtain⟨od,J,hl⟩:=I.look
 refine W.set_plain X J hs (W.osa_open (s:={s with toks:=s.toks+1}) (r:=none) X J hp ht λb=>?_)
 obtain⟨cd,hc,hd'⟩:=W.any_some hh
 have hx:s.heap.get? x=some ⟨.ref C,some dx,.plain,#[]⟩:=I.obj
 refine aaf (aar (aaf (aaf (wpAny_loadPart hx (aaf (W.Looks.here (s:={s with toks:=s.toks+1}) (W.looks_clsIn X hc) ?_))))))
 rw[hd']
 refine aar (a:=some dx) (aaf (aar (aaf ?_)))
 refine wpAny_nsSet1 (s:={s with toks:=s.toks+1}) I.ns λh' hn2 hs2=>?_
 obtain⟨oD,esD,epD,VA,VB,VC⟩:=hn2.count (PySem.Within.cons name v hw)
 refine aaf (wpAny_lookBehind VA (by rw[VB];exact pastItsLine_dict (aay VC (by rw[aaA];omega))) ?_)
 exact aar (h _ ⟨(hs2.2 _ (abi I.ne)).trans I.obj,hn2,I.ne⟩ hs2)
theorem Kw{R:Result->Shared->Prop}{vs:List Value}{kw:List (Str×Value)}(X:K.In s.heap)(hm:W.makesIn K C=true)(hi:W.findIn K (.ref C) "__init__"=some (some (.ref f)))(hf:W.typeIn K (.ref f)=some (.type "function"))(h:codeAny (model prog w) (A.under (.builtin "type.__call__" ⟨.ref C::vs,kw⟩)) (.call (.ref f) ⟨.ref (s.heap.objs.size+1)::vs,kw⟩) (W.InitBack (s.heap.objs.size+1) R)
   {s with heap:=(s.heap.push W.emptyDict).push (W.instObj C s.heap.objs.size)}):codeAny (model prog w) A (.call (.ref C) ⟨vs,kw⟩) R s:=by
 obtain⟨hh,g,d,t,os⟩:=s
 exact W.make_core (W.makes_of X hm) (W.looks_findIn X hi) (λself=>W.bind_fn X self hf) (.inl rfl) h
end
def oG(f:Str)(v:V):List (Str×V)->List (Str×V)
 |[]=>[(f,v)]
 | (g,x)::r=>if g=f then (g,v)::r else (g,x)::oG f v r
theorem uu(f g:Str)(v:V):∀fs:List (Str×V),(oG f v fs).lookup g=if g=f then some v else fs.lookup g
 |[]=>by
  show List.lookup g [(f,v)]=_
  by_cases h:g=f
  ·have hb:(g==f)=true:=abD.mpr h
   simp only[List.lookup,hb,aal h]
  ·have hb:(g==f)=false:=beq_eq_false_iff_ne.mpr h
   simp only[List.lookup,hb,aag h]
 | (k,x)::r=>by
  have ih:=uu f g v r
  rw[show oG f v ((k,x)::r)=(if k=f then (k,v)::r else (k,x)::oG f v r) from rfl]
  by_cases hk:k=f
  ·rw[aal hk]
   by_cases h:g=k
   ·have hb:(g==k)=true:=abD.mpr h
    simp only[List.lookup,hb,aal (h.trans hk)]
   ·have hb:(g==k)=false:=beq_eq_false_iff_ne.mpr h
    simp only[List.lookup,hb,aag (λe:g=f=>h (e.trans hk.symm))]
  ·rw[aag hk]
   by_cases h:g=k
   ·have hb:(g==k)=true:=abD.mpr h
    simp only[List.lookup,hb,aag (λe:g=f=>hk (h.symm.trans e))]
   ·have hb:(g==k)=false:=beq_eq_false_iff_ne.mpr h
    simp only[List.lookup,hb]
    exact ih
theorem sZ(f:Str)(v:V):∀fs:List (Str×V),f∈(oG f v fs).map (·.1)/\∀g,g∈fs.map (·.1)->g∈(oG f v fs).map (·.1)
 |[]=>⟨by simp[oG],λg h=>by simp at h⟩
 | (k,x)::r=>by
  obtain⟨i1,i2⟩:=sZ f v r
  rw[show oG f v ((k,x)::r)=(if k=f then (k,v)::r else (k,x)::oG f v r) from rfl]
  by_cases hk:k=f
  ·rw[aal hk]
   subst hk
   exact⟨by simp,λg h=>by simpa using h⟩
  ·rw[aag hk]
   refine⟨?_,λg h=>?_⟩
   ·rw[abB]
    exact aax _ i1
   ·rw[abB]at h⊢
    rcases aat.mp h with e|e
    ·exact aat.mpr (.inl e)
    ·exact aax _ (i2 g e)
theorem uv(f:Str)(v:V):∀fs:List (Str×V),(oG f v fs).length<=fs.length+1
 |[]=>by simp[oG]
 | (k,x)::r=>by
  have ih:=uv f v r
  rw[show oG f v ((k,x)::r)=(if k=f then (k,v)::r else (k,x)::oG f v r) from rfl]
  by_cases hk:k=f
  ·rw[aal hk,aaA,aaA];omega
  ·rw[aag hk,aaA,aaA];omega
theorem oB.some_of{v:V}{o:Option Value}(r:oB (some v) o):∃u,o=some u/\RelV v u:=by
 cases o with
 |none=>exact(show False from r).elim
 |some u=>exact⟨u,rfl,r⟩
theorem oB.none_of{o:Option Value}(r:oB none o):o=none:=by
 cases o with
 |none=>rfl
 |some u=>exact(show False from r).elim
theorem zj{v:V}{u:Value}(r:RelV v u):W.handedIn u=true:=by
 cases v with
 |non=>cases(show u=Value.none from r);rfl
 |bl b=>cases(show u=Value.bool b from r);rfl
 |int i=>obtain⟨t,e⟩:=(show ∃t,u=Value.int i t from r);cases e;rfl
 |str x=>obtain⟨t,e⟩:=(show ∃t,u=Value.str x t from r);cases e;rfl
 |JZ b=>obtain⟨t,e⟩:=(show ∃t,u=Value.bytes b t from r);cases e;rfl
 |uq b=>obtain⟨t,e⟩:=(show ∃t,u=Value.float b t from r);cases e;rfl
 |ref a=>cases(show u=Value.ref a from r);rfl
 |ty n=>cases(show u=Value.type n from r);rfl
section
variable{P:Program}{w:World}{H H':Hp}{h h':Heap}{a C dx:Addr}{fs fs':List (Str×V)}
theorem vR(hok:sP P w H h)(e:H a=some (.ins C dx fs)):∃mA,D7 h a dx C mA/\(∀f,oB (fs.lookup f) (mA f))/\PySem.Within mA (fs.map (·.1))/\fs.length<=1000/\H dx=some (.own a):=by
 obtain⟨d,z,ne,ob,mA,n,r,q⟩:=(show cS P w H h a (.ins C dx fs) from hok a _ e)
 exact⟨mA,⟨ob,n,ne⟩,r,q,z,d⟩
end
structure J5(K:W.Frag)(C:Addr):Prop where
 pg:W.plainGet K C Str.empty=true
 hd:W.hasDictIn K C=true
 po:W.plainOver K C=true
 sa:W.findIn K (.ref C) "__setattr__"=some (some (.builtin "object.__setattr__"))
theorem J5.get{K:W.Frag}{C:Addr}(c:J5 K C)(f:Str):W.plainGet K C f=true:=c.pg
def fT(K:W.Frag)(C:Addr)(f:Str):Prop:=W.findIn K (.ref C) f=some none
theorem fT.Sy{K:W.Frag}{C:Addr}{f:Str}(n:fT K C f):W.takerIn K C f=some none:=by
 unfold W.takerIn
 rw[show W.findIn K (.ref C) f=some none from n]
 rfl
structure Meth(K:W.Frag)(C:Addr)(m:Str)(f:Addr):Prop where
 at_:W.findIn K (.ref C) m=some (some (.ref f))
 fn:W.isFn K (.ref f)=true
 kp:W.keepIn K (.ref f)=true
section
variable{X:Cx}{pins:List 'g'}{σ:St}{H:Hp}{s:Shared}{a C dx:Addr}{fs:List (Str×V)}{f:Str}{v:V}{A:Around}{E:Value->Shared->Prop}
theorem D8{b:Bool}{Q:Value->Shared->Prop}(I:Inv X pins σ H s)(e:H a=some (.ins C dx fs))(c:J5 X.K C)(n:fT X.K C f)(l:fs.lookup f=some v)(h:∀u s',Inv X pins σ H s'->RelV v u->Q u s'):wpAny 'd' A (getAttr (.ref a) f b) Q E s:=by
 obtain⟨mA,O,r,_,_,_⟩:=vR I.hok e
 obtain⟨u,hu,ru⟩:=oB.some_of (v:=v) (o:=mA f) (by rw[←l];exact r f)
 exact get_map I.jd O (c.get f) c.hd n hu (zj ru) (h u _ (I.tok _) ru)
theorem wj{m:Str}{g:Addr}{pl:Sem Bool}{Q:Value×List Value->Shared->Prop}(I:Inv X pins σ H s)(e:H a=some (.ins C dx fs))(c:J5 X.K C)(k:Meth X.K C m g)(l:fs.lookup m=none)(h:Q (.ref g,[.ref a]) s):wpAny 'd' A (getMethod (.ref a) m pl) Q E s:=by
 obtain⟨mA,O,r,_,_,_⟩:=vR I.hok e
 have hn:mA m=none:=oB.none_of (by rw[←l];exact r m)
 exact Kv I.jd O (c.get m) k.at_ k.fn hn h
theorem D9{y:V}{u:Value}{Q:Unit->Shared->Prop}(I:Inv X pins σ H s)(e:H a=some (.ins C dx fs))(c:J5 X.K C)(n:fT X.K C f)(hl:fs.length<1000)(ry:RelV y u)(h:∀s',Inv X pins σ (upd H a (.ins C dx (oG f y fs))) s'->Q () s'):wpAny 'd' A (setAttr (.ref a) f u) Q E s:=by
 obtain⟨mA,O,r,wi,_,ho⟩:=vR I.hok e
 have hz:(fs.map (·.1)).length<=sizeLine:=by rw[aak,sizeLine_eq];omega
 refine Nc I.jd O c.sa c.po n.Sy c.hd wi hz λh' O' sb=>h _ ?_
 have hd:∃o,h'.get? dx=some o:=let ⟨o,_,_,e',_⟩:=O'.ns;⟨o,e'⟩
 refine I.write (x:=a) (e:=dx) (by rw[e];exact True.intro) (.inr ho) (λb q hb z=>(sb.2 b hb).trans z) hd ?_
 refine⟨by rw[aB O.ne];exact ho,?_,O.ne,O'.obj,_,O'.ns,λg=>?_,λg hg=>?_⟩
 ·have:=uv f y fs;omega
 ·show oB ((oG f y fs).lookup g) (if g=f then some u else mA g)
  rw[uu]
  by_cases q:g=f
  ·rw[aal q,aal q];exact ry
  ·rw[aag q,aag q];exact r g
 ·by_cases q:g=f
  ·rw[q];exact(sZ f y fs).1
  ·refine(sZ f y fs).2 g (wi g λz=>hg ?_)
   show(if g=f then some u else mA g)=none
   rw[aag q];exact z
theorem Inv.made(I:Inv X pins σ H s):Inv X pins σ (upd (upd H s.heap.objs.size (.own (s.heap.objs.size+1))) (s.heap.objs.size+1) (.ins C s.heap.objs.size []))
  {s with heap:=(s.heap.push W.emptyDict).push (W.instObj C s.heap.objs.size)}:=by
 have e1:(s.heap.push W.emptyDict).get? s.heap.objs.size=some W.emptyDict:=aaz s.heap rfl
 have e2:((s.heap.push W.emptyDict).push (W.instObj C s.heap.objs.size)).get? (s.heap.objs.size+1)=some (W.instObj C s.heap.objs.size):=by
  have:=aaz (s.heap.push W.emptyDict) (o:=W.instObj C s.heap.objs.size) rfl
  rwa [aa5]at this
 have e3:(s.heap.push W.emptyDict).Ns s.heap.objs.size (λ_=>none):=⟨W.emptyDict,#[],_,e1,rfl,(λe he=>absurd he (by simp)),λ_=>rfl⟩
 have I1:=I.laid (a:=s.heap.objs.size) (o:=.own (s.heap.objs.size+1)) (h':=s.heap.push W.emptyDict) (t':=s.toks) (λb u q=>aai _ q) (aan _) ⟨_,e1⟩
 refine I1.laid (a:=s.heap.objs.size+1) (o:=.ins C s.heap.objs.size []) (t':=s.toks) (λb u q=>aai _ q) (Nat.le_of_eq (aa5 _ _)) ?_
 have ne:s.heap.objs.size≠s.heap.objs.size+1:=aaH (Nat.lt_succ_self _)
 refine⟨by rw[aB ne,aj],aaY _,ne,e2,λ_=>none,(Heap.Ns1.of_empty e3).at λo q=>aai _ q,λ_=>True.intro,λy hy=>absurd rfl hy⟩
theorem GN{prog:Program}{w:World}{env:Env}{e:Expr}{f:Str}{pos:Pos}{s:Shared}{Q:Value->Shared->Prop}(hb:attributeBase e f env (eval e env)=eval e env)(h:wpAny (model prog w) A (eval e env) (λo s₁=>wpAny (model prog w) A (getAttr o f true) Q E s₁) E s):wpAny (model prog w) A (eval (.Attribute e f pos) env) Q E s :=
 Attribute_any_ h (by rw[arm_eval_Attribute,hb])
end
def Sz(K:W.Frag)(ta:TE)(f:Str):TE:=λσ H Q=>ta σ H λx H1=>∃a C dx fs v,x=.ref a/\H1 a=some (.ins C dx fs)/\J5 K C/\fT K C f/\fs.lookup f=some v/\Q v H1
def VD(K:W.Frag)(ta tv:TE)(f:Str):TS:=λD σ H=>tv σ H λy H1=>ta σ H1 λx H2=>∃a C dx fs,x=.ref a/\H2 a=some (.ins C dx fs)/\J5 K C/\fT K C f/\fs.length<1000/\D.nx σ (upd H2 a (.ins C dx (oG f y fs)))
section
variable{X:Cx}{o e value:Expr}{f:Str}{pos pos' tpos:Pos}{ta tv:TE}
theorem PC(he:PE X e ta)(hb:attributeBase e f X.env (eval e X.env)=eval e X.env):PE X (.Attribute e f pos) (Sz X.K ta f):=by
 intro pins s σ H Q I h
 refine GN hb (bY (he pins s σ H _ I h) λu s1 ⟨x,H1,I1,rx,a,C,dx,fs,v,ex,ea,c,n,l,q⟩=>?_)
 subst ex
 obtain rfl:u=Value.ref a:=rx
 exact D8 I1 ea c n l λu' s2 I2 ru=>⟨v,H1,I2,ru,q⟩
theorem mD(ha:PE X o ta)(hv:PE X value tv)(hs:swapsWith value (some (.Attribute o f pos')) pos.line X.env=pure false):PS X (.Assign [.Attribute o f pos'] value pos) (VD X.K ta tv f):=by
 intro pins s σ H D I h
 refine plainObj_wpAny_Assign_Attribute (bY (hv pins s σ H _ I h) λu s1 ⟨y,H1,I1,ry,q⟩=>bY (ha pins s1 σ H1 _ I1 q) λov s2 ⟨x,H2,I2,rx,a,C,dx,fs,ex,ea,c,n,l,q2⟩=>?_) hs
 subst ex
 obtain rfl:ov=Value.ref a:=rx
 exact D9 I2 ea c n l ry λs3 I3=>⟨σ,_,I3,q2⟩
end
section
variable{X:Cx}{pins:List 'g'}{σ:St}{H:Hp}{s:Shared}{A:Around}{E:Value->Shared->Prop}{Q:Value->Shared->Prop}{c:Value}{b:Bool}
inductive qh(K:W.Frag)(H:Hp):V->Value->Prop where
 |non:qh K H .non (.type "NoneType")
 |bl (x:Bool):qh K H (.bl x) (.type "bool")
 |int (i:Int):qh K H (.int i) (.type "int")
 |str (x:Str):qh K H (.str x) (.type "str")
 |uq (x:UInt64):qh K H (.uq x) (.type "float")
 |lst {a:Addr}{xs:List V} (e:H a=some (.lst xs)):qh K H (.ref a) (.type "list")
 |DZ {a:Addr}{o:Obj}{xs:List V} (e:H a=some (.DZ o (.lst xs))):qh K H (.ref a) (.type "list")
 |tup {a:Addr}{xs:List V} (e:H a=some (.tup xs)):qh K H (.ref a) (.type "tuple")
 |dK {a:Addr}{kvs:List (Key×V)} (e:H a=some (.dK kvs)):qh K H (.ref a) (.type "dict")
 |dT {a:Addr}{kvs:List (List Key×V)} (e:H a=some (.dT kvs)):qh K H (.ref a) (.type "dict")
 |ins {a C dx:Addr}{fs:List (Str×V)} (e:H a=some (.ins C dx fs)) (cl:J5 K C) (ha:W.findIn K (.ref C) "__class__"=some (some (.builtin "object.__class__")))
   (hn:W.specialIn K (.builtin "object.__class__") "__get__"=some (some (.builtin "getset_descriptor.__get__"))) (htk:W.takesIn K (.builtin "object.__class__")=some true)
   (hm:W.mroIn K C (.type "object")=some true):qh K H (.ref a) (.ref C)
theorem zk{x:V}{u t:Value}(I:Inv X pins σ H s)(rx:RelV x u)(ty:qh X.K H x t)(e:W.kitOne X.K t c=some b)(h:∀tk,Q (.bool b) {s with toks:=tk}):wpAny 'd' A (call (.builtin "isinstance") [u,c]) Q E s:=by
 cases ty with
 |non=>cases(show u=Value.none from rx);exact abf W.kitx_none I.jd True.intro e (λz=>nomatch z) h
 |bl y=>cases(show u=Value.bool y from rx);exact abf W.kitx_bool I.jd True.intro e (λz=>nomatch z) h
 |int i=>obtain⟨t,q⟩:=(show ∃t,u=Value.int i t from rx);cases q;exact abf W.kitx_int I.jd True.intro e (λz=>nomatch z) h
 |str y=>obtain⟨t,q⟩:=(show ∃t,u=Value.str y t from rx);cases q;exact abf W.kitx_str I.jd True.intro e (λz=>nomatch z) h
 |uq y=>obtain⟨t,q⟩:=(show ∃t,u=Value.float y t from rx);cases q;exact abf W.kitx_float I.jd True.intro e (λz=>nomatch z) h
 |@lst a xs ea =>
  cases(show u=Value.ref a from rx)
  obtain⟨_,_,n,_,h1⟩:=(show cS X.prog X.w H s.heap a (.lst xs) from I.hok a _ ea)
  exact abf W.kitx_list I.jd ⟨_,h1,rfl⟩ e (λz=>nomatch z) h
 |@DZ a ob xs ea =>
  cases(show u=Value.ref a from rx)
  obtain⟨_,_,_,n,_,h1⟩:=(show cS X.prog X.w H s.heap a (.DZ ob (.lst xs)) from I.hok a _ ea)
  exact abf W.kitx_list I.jd ⟨_,h1,rfl⟩ e (λz=>nomatch z) h
 |@tup a xs ea =>
  cases(show u=Value.ref a from rx)
  obtain⟨_,_,_,p⟩:=(show cS X.prog X.w H s.heap a (.tup xs) from I.hok a _ ea)
  obtain⟨o,h1,h2,_⟩:=p
  exact abf W.kitx_tuple I.jd ⟨o,h1,h2⟩ e (λz=>nomatch z) h
 |@dK a kvs ea =>
  cases(show u=Value.ref a from rx)
  obtain⟨_,_,vs,_,p⟩:=(show cS X.prog X.w H s.heap a (.dK kvs) from I.hok a _ ea)
  obtain⟨o,es,ep,h1,h2,_⟩:=p
  exact abf W.kitx_dict I.jd ⟨o,h1,h2.1⟩ e (λz=>nomatch z) h
 |@dT a kvs ea =>
  cases(show u=Value.ref a from rx)
  obtain⟨_,_,xs,_,o,es,ep,h1,h2,_⟩:=(show cS X.prog X.w H s.heap a (.dT kvs) from I.hok a _ ea)
  exact abf W.kitx_dict I.jd ⟨o,h1,h2.1⟩ e (λz=>nomatch z) h
 |@ins a C dx fs ea cl ha hn htk hm =>
  cases(show u=Value.ref a from rx)
  obtain⟨mA,O,_⟩:=vR I.hok ea
  obtain⟨od,J,_⟩:=O.look
  exact abf (W.kitx_own (cl.get _) cl.hd ha hn htk hm) I.jd J e (λz=>nomatch z) h
end
structure cM(k:Nat)(A:Around):Prop where
 hd:A.handled=none
 dp:A.depth+3*k+5<recursionLimit
 un:A.units+16*k+200<cLine
theorem cM.mono{j k:Nat}{A:Around}(r:cM k A)(h:j<=k):cM j A:=⟨r.hd,by have:=r.dp;omega,by have:=r.un;omega⟩
theorem cM.deeper{k:Nat}{A:Around}(r:cM (k+1) A)(env:Env):cM k (A.deeper env) :=
 ⟨r.hd,by have:=r.dp;show A.depth+1+3*k+5<_;omega,by have:=r.un;show A.units+3+16*k+200<_;omega⟩
theorem cM.in1{k:Nat}{A:Around}(r:cM (k+1) A):cM k A.in1 :=
 ⟨r.hd,by have:=r.dp;show A.depth+3*k+5<_;omega,by have:=r.un;show A.units+1+16*k+200<_;omega⟩
theorem Ea{A:Around}{C:Addr}{us:List Value}{kw:List (Str×Value)}:(A.under (.builtin "type.__call__" ⟨.ref C::us,kw⟩)).depth=A.depth+1:=by
 first|rfl|simp[Around.under,Code.weight,Code.isCreation,Code.isGuard,Code.isCaller,Code.frames,Code.isFrame,guardIds]
theorem Eb{A:Around}{C:Addr}{us:List Value}{kw:List (Str×Value)}:(A.under (.builtin "type.__call__" ⟨.ref C::us,kw⟩)).units=A.units+1:=by
 first|rfl|simp[Around.under,Code.cUnits,Code.frames,Code.isFrame]
theorem cM.make{k:Nat}{A:Around}(r:cM (k+1) A)(C:Addr)(us:List Value)(kw:List (Str×Value)):cM k (A.under (.builtin "type.__call__" ⟨.ref C::us,kw⟩)) :=
 ⟨r.hd,by have:=r.dp;rw[Ea];omega,by have:=r.un;rw[Eb];omega⟩
theorem cM.depth{k:Nat}{A:Around}(r:cM k A):A.depth<recursionLimit:=by have:=r.dp;omega
theorem cM.units{k:Nat}{A:Around}(r:cM k A):A.units+64<cLine:=by have:=r.un;omega
theorem cM.aO{k:Nat}{A:Around}(r:cM k A):A.units<cLine:=by have:=r.un;omega
def PD:TA:=λ_ H Q=>Q [] H
def Ky(ta:TE)(tr:TA):TA:=λσ H Q=>ta σ H λx H1=>tr σ H1 λxs H2=>Q (x::xs) H2
section
variable{X:Cx}{e:Expr}{es:List Expr}{te:TE}{t:TA}{pos:Pos}
theorem ah:PA X [] PD:=λ_ _ _ _ H Q I h=>Calls.spliced_nil ⟨[],H,I,.nil,h⟩
theorem af(ha:PE X e te)(hr:PA X es t)(hs:starEach (e::es) X.env=(false,eval e X.env)::starEach es X.env:=by rfl):PA X (e::es) (Ky te t):=by
 intro pos pins s σ H Q I h
 rw[hs]
 show wpAny _ _ (spliced ((false,eval e X.env)::backTo pos (starEach es X.env))) _ _ s
 refine Calls.spliced_cons (bY (ha pins s σ H _ I h) λu s1 ⟨x,H1,I1,r1,q1⟩=>?_)
 exact bY (hr pos pins s1 σ H1 _ I1 q1) λus s2 ⟨xs,H2,I2,r2,q2⟩=>⟨x::xs,H2,I2,.cons r1 r2,q2⟩
def VF(t:TA):TE:=λσ H Q=>t σ H λxs H1=>xs.length<=sizeLine/\∀p,H1 p=none->Q (.ref p) (upd H1 p (.tup xs))
def VG(t:TA):TE:=λσ H Q=>t σ H λxs H1=>xs.length<=sizeLine/\∀p,H1 p=none->Q (.ref p) (upd H1 p (.lst xs))
theorem aQ{x1}(h:PA X es t):PE X (.Tuple es x1 pos) (VF t):=by
 intro pins s σ H Q I hq
 refine wpAny_Tuple_spliced (bY (h pos pins s σ H _ I hq) λus s1 ⟨xs,H1,I1,r,z,q⟩=>⟨by rw[←r.length];exact z,?_⟩)
 have hf:H1 s1.heap.objs.size=none:=I1.hok.fresh (aan _)
 refine⟨.ref s1.heap.objs.size,upd H1 s1.heap.objs.size (.tup xs),I1.laid (t':=s1.toks) (λb u e=>aai _ e) (aan _) ?_,rfl,q _ hf⟩
 exact⟨z,us,r,⟨_,aaz _ rfl,O,_,O⟩⟩
theorem bM(h:PA X es t):PE X (.List es pos) (VG t):=by
 intro pins s σ H Q I hq
 refine wpAny_List_spliced (bY (h pos pins s σ H _ I hq) λus s1 ⟨xs,H1,I1,r,z,q⟩=>⟨by rw[←r.length];exact z,?_⟩)
 have hf:H1 s1.heap.objs.size=none:=I1.hok.fresh (aan _)
 refine⟨.ref s1.heap.objs.size,upd H1 s1.heap.objs.size (.lst xs),I1.laid (t':=s1.toks) (λb u e=>aai _ e) (aan _) ?_,rfl,q _ hf⟩
 exact⟨z,us,0,r,aaz _ rfl⟩
end
abbrev Sp:=List V->Hp->VK->XK->Prop
abbrev HK:=List Env->Hp->Shared->XK->Value->Shared->Prop
structure uW(P:Program)(w:World)(K:W.Frag)(mg:Str->Option Value)(base:Heap)(A:Around)(outer:List Env)(s:Shared)(H:Hp):Prop where
 frames:A.frames=some outer
 mod:Mod K mg base
 bs:∀b o,base.get? b=some o->s.heap.get? b=some o/\H b=none
 HD:base.objs.size<=s.heap.objs.size
 oF:s.heap.FunFrames base outer
 Kl:∀b∈frs outer,H b=none
 hok:sP P w H s.heap
 bare:AllBare s.gens
def CE(outer:List Env)(P:Program)(w:World)(H:Hp)(s:Shared)(Q:VK)(u:Value)(s':Shared):Prop :=
 ∃v H',s'.os=s.os/\AllBare s'.gens/\Un (frs outer) [] H H' s.heap s'.heap/\sP P w H' s'.heap/\RelV v u/\Q v H'
def CR(CX:HK)(outer:List Env)(P:Program)(w:World)(H:Hp)(s:Shared)(Q:VK)(E:XK)(r:Result)(s':Shared):Prop :=
 match r with
 | .ok (.ret u)=>CE outer P w H s Q u s'
 | .ok _=>False
 | .error e=>CX outer H s E e s'
structure bx(P:Program)(w:World)(K:W.Frag)(mg:Str->Option Value)(base:Heap)(CX:HK)(k:Nat)(f:Addr)(fd:FuncData)(ps:List Str)(sp:Sp):Prop where
 len:∀vs H Q E,sp vs H Q E->vs.length=ps.length
 run:∀(A:Around)(outer:List Env)(s:Shared)(H:Hp)(args:Args)(us:List Value)(vs:List V)(Q:VK)(E:XK),cM k A->uW P w K mg base A outer s H->BindsTo s fd args (ps.zip us)->Vals vs us->sp vs H Q E->codeAny (model P w) A (.call (.ref f) args) (CR CX outer P w H s Q E) s
theorem uW.make{P:Program}{w:World}{K:W.Frag}{mg:Str->Option Value}{base:Heap}{A:Around}{outer:List Env}{s:Shared}{H:Hp}(e:uW P w K mg base A outer s H)(C:Addr)(us:List Value)(kw:List (Str×Value)):uW P w K mg base (A.under (.builtin "type.__call__" ⟨.ref C::us,kw⟩)) outer s H:=⟨by first|exact e.frames | (simpa [Around.under,Code.envs,Code.isFrame,pushEnvs]using e.frames),e.mod,e.bs,e.HD,e.oF,e.Kl,e.hok,e.bare⟩
theorem uW.in1{P:Program}{w:World}{K:W.Frag}{mg:Str->Option Value}{base:Heap}{A:Around}{outer:List Env}{s:Shared}{H:Hp}(e:uW P w K mg base A outer s H):uW P w K mg base A.in1 outer s H:=⟨e.frames,e.mod,e.bs,e.HD,e.oF,e.Kl,e.hok,e.bare⟩
section
variable{X:Cx}{pins:List 'g'}{σ:St}{H:Hp}{s s':Shared}
theorem Inv.Kz(I:Inv X pins σ H s):uW X.prog X.w X.K X.mg X.base X.A X.stack s H :=
 ⟨I.ok.frames,I.ok.mod,I.bs,aay I.ok.HD I.sz,I.stack,I.zY,I.hok,I.bare⟩
theorem Inv.after{Q:VK}{u:Value}(I:Inv X pins σ H s)(h:CE X.stack X.prog X.w H s Q u s'):EP X pins σ Q u s':=by
 obtain⟨v,H',os,bare,un,hok,r,q⟩:=h
 obtain⟨hh,g,d,t,os'⟩:=s'
 obtain rfl:os'=s.os:=os
 exact⟨v,H',I.call (h':=hh) (g':=g) (d':=d) (t':=t) (ch:=[]) un hok bare (λb z=>absurd z (by simp)),r,q⟩
end
def GO(sp:Sp)(qM:List V)(E:XK)(t:TA):TE:=λσ H Q=>t σ H λvs H1=>sp (vs++qM) H1 Q E
def OW(C:Addr)(m:Str)(sp:Sp)(qM:List V)(E:XK)(ta:TE)(t:TA):TE:=λσ H Q=>ta σ H λx H1=>∃a dx fs,x=.ref a/\H1 a=some (.ins C dx fs)/\fs.lookup m=none/\t σ H1 λvs H2=>sp (x::(vs++qM)) H2 Q E
def SA(C:Addr)(sp:Sp)(qM:List V)(E:XK)(t:TA):TE:=λσ H Q=>t σ H λvs H1=>∀x dx,H1 x=none->H1 dx=none->dx≠x->sp (.ref x::(vs++qM)) (upd (upd H1 dx (.own x)) x (.ins C dx [])) (λv H2=>v=.non/\Q (.ref x) H2) E
def Binds(K:W.Frag)(fd:FuncData)(ps:List Str)(ds:List Value):Prop :=
 ∀(s:Shared)(us:List Value),K.In s.heap->(us++ds).length=ps.length->BindsTo s fd ⟨us,[]⟩ (ps.zip (us++ds))
theorem Binds.all{K:W.Frag}{fd:FuncData}{ps:List Str}(h:∀us:List Value,us.length=ps.length->bindArgs fd ⟨us,[]⟩=pure (ps.zip us)):Binds K fd ps []:=λs us _ hl=>by
 rw[aa6]at hl⊢
 exact .of_eq (h us hl)
def Passes(CX:HK)(X:Cx)(E:XK):Prop:=∀(pins:List 'g')(σ:St)(H:Hp)(s:Shared)(e:Value)(s':Shared),Inv X pins σ H s->CX X.stack H s E e s'->X.xe e s'
section
variable{X:Cx}{CX:HK}{k:Nat}{f C:Addr}{fd:FuncData}{ps:List Str}{sp:Sp}{qM:List V}{ds:List Value}{E:XK}{x m:Str}{p pos apos:Pos}{e o:Expr}{es:List Expr}{ta:TE}{t:TA}
theorem Ec{pins:List 'g'}{σ:St}{H:Hp}{s:Shared}{Q:VK}{us:List Value}{vs:List V}(F:bx X.prog X.w X.K X.mg X.base CX k f fd ps sp)(hr:cM k X.A)(hb:Binds X.K fd ps ds)(hd:Vals qM ds)(hx:Passes CX X E)(I:Inv X pins σ H s)(r:Vals vs us)(h:sp (vs++qM) H Q E):wpAny 'd' X.A (call (.ref f) us) (EP X pins σ Q) X.xe s:=by
 have r2:Vals (vs++qM) (us++ds):=r.append hd
 have hl:(us++ds).length=ps.length:=by rw[←r2.length];exact F.len _ _ _ _ h
 refine wpAny_call (codeAny_mono (F.run X.A X.stack s H ⟨us,[]⟩ (us++ds) (vs++qM) Q E hr I.Kz (hb s us I.jd hl) r2 h) λr s' hq=>?_)
 cases r with
 |error e=>exact hx pins σ H s e s' I hq
 |ok fl =>
  cases fl with
  |ret u=>exact I.after hq
  |next=>exact False.elim hq
  |brk=>exact False.elim hq
  |cont=>exact False.elim hq
theorem vS(F:bx X.prog X.w X.K X.mg X.base CX k f fd ps sp)(hr:cM k X.A)(hg:Gl X x)(hm:X.mg x=some (.ref f))(hk:W.keepIn X.K (.ref f)=true)(hb:Binds X.K fd ps ds)(hd:Vals qM ds)(hx:Passes CX X E)(ha:PA X (e::es) t)(hdb:(x==("__debug__":Str))=false:=by decide)(he:starEach (e::es) X.env=(false,eval e X.env)::starEach es X.env:=by rfl)(hpl:(backTo pos (starEach es X.env)).any (·.1)=false:=by rfl):PE X (.Call (.Name x p) (e::es) [] pos) (GO sp qM E t):=by
 intro pins s σ H Q I h
 refine abb (iw I hg hm ?_ hdb)
 refine W.callWith_K (h₀:=X.base) I.ok.mod.gk hk (bY (ha pos pins s σ H _ I h) λus s1 ⟨vs,H1,I1,r,q⟩=>⟨I1.jd,?_⟩) he hpl
 exact Ec F hr hb hd hx I1 r q
theorem Nd{pl:Sem Bool}(he:PE X o ta)(c:J5 X.K C)(hm:Meth X.K C m f)(F:bx X.prog X.w X.K X.mg X.base CX k f fd ps sp)(hr:cM k X.A)(hb:Binds X.K fd ps ds)(hd:Vals qM ds)(hx:Passes CX X E)(ha:PA X (e::es) t)(hst:starEach (e::es) X.env=(false,eval e X.env)::starEach es X.env:=by rfl)(hpl:(backTo pos (starEach es X.env)).any (·.1)=false:=by rfl)(ht:eval (.Call (.Attribute o m apos) (e::es) [] pos) X.env=(do
   let ov ←eval o X.env
   standAt apos.atName
   let (f,first) ←holding [ov] (getMethod ov m pl)
   callWith pos f first (backTo pos (starEach (e::es) X.env)) (backToKw pos (keywordEach [] X.env))):=by rfl):PE X (.Call (.Attribute o m apos) (e::es) [] pos) (OW C m sp qM E ta t):=by
 intro pins s σ H Q I h
 refine W.methodCall_KW (pl:=pl) (bY (he pins s σ H _ I h) λu s1 ⟨x,H1,I1,rx,a,dx,fs,ex,ea,l,q⟩=>?_) ht
 subst ex
 obtain rfl:u=Value.ref a:=rx
 refine wj I1 ea c hm l ?_
 refine W.callWith_K (first:=[.ref a]) (h₀:=X.base) I.ok.mod.gk hm.kp (bY (ha pos pins s1 σ H1 _ I1 q) λus s2 ⟨vs,H2,I2,r,q2⟩=>⟨I2.jd,?_⟩) hst hpl
 exact Ec (us:=.ref a::us) (vs:=.ref a::vs) F hr hb hd hx I2 (.cons rfl r) q2
theorem KA{pl:Sem Bool}(he:PE X o ta)(c:J5 X.K C)(hm:Meth X.K C m f)(F:bx X.prog X.w X.K X.mg X.base CX k f fd ps sp)(hr:cM k X.A)(hb:Binds X.K fd ps ds)(hd:Vals qM ds)(hx:Passes CX X E)(ht:eval (.Call (.Attribute o m apos) [] [] pos) X.env=(do
   let ov ←eval o X.env
   standAt apos.atName
   let (f,first) ←holding [ov] (getMethod ov m pl)
   callWith pos f first (backTo pos (starEach [] X.env)) (backToKw pos (keywordEach [] X.env))):=by rfl):PE X (.Call (.Attribute o m apos) [] [] pos) (OW C m sp qM E ta PD):=by
 intro pins s σ H Q I h
 refine W.methodCall_KW (pl:=pl) (bY (he pins s σ H _ I h) λu s1 ⟨x,H1,I1,rx,a,dx,fs,ex,ea,l,q⟩=>?_) ht
 subst ex
 obtain rfl:u=Value.ref a:=rx
 refine wj I1 ea c hm l ?_
 exact W.callWith_K0 (first:=[.ref a]) I1.jd hm.kp (Ec (us:=[.ref a]) (vs:=[.ref a]) F hr hb hd hx I1 (.cons rfl .nil) q)
structure Mk(K:W.Frag)(C f:Addr):Prop where
 makes:W.makesIn K C=true
 init:W.findIn K (.ref C) "__init__"=some (some (.ref f))
 fn:W.isFn K (.ref f)=true
 kp:W.keepIn K (.ref C)=true
theorem KC{pins:List 'g'}{σ:St}{H:Hp}{s:Shared}{Q:VK}{us:List Value}{vs:List V}(M:Mk X.K C f)(F:bx X.prog X.w X.K X.mg X.base CX k f fd ps sp)(hr:cM (k+1) X.A)(hb:Binds X.K fd ps ds)(hd:Vals qM ds)(hx:Passes CX X E)(I:Inv X pins σ H s)(r:Vals vs us)(h:∀x dx,H x=none->H dx=none->dx≠x->sp (.ref x::(vs++qM)) (upd (upd H dx (.own x)) x (.ins C dx [])) (λv H2=>v=.non/\Q (.ref x) H2) E):wpAny 'd' X.A (call (.ref C) us) (EP X pins σ Q) X.xe s:=by
 have hq:=h (s.heap.objs.size+1) s.heap.objs.size (I.hok.fresh (Nat.le_succ _)) (I.hok.fresh (aan _)) (aaH (Nat.lt_succ_self _))
 have I2:=Inv.made (C:=C) I
 have r2:Vals (V.ref (s.heap.objs.size+1)::(vs++qM)) (Value.ref (s.heap.objs.size+1)::(us++ds)):=.cons rfl (r.append hd)
 have hl:(Value.ref (s.heap.objs.size+1)::us++ds).length=ps.length:=by
  have e:=r2.length
  rw[F.len _ _ _ _ hq]at e
  exact e.symm
 refine wpAny_call (Kw (f:=f) I.jd M.makes M.init (abD.mp M.fn) (codeAny_mono (F.run _ X.stack _ _ ⟨Value.ref (s.heap.objs.size+1)::us,[]⟩ (Value.ref (s.heap.objs.size+1)::(us++ds)) _ _ E (hr.make C us [])
  (I2.Kz.make C us []) (hb _ (Value.ref (s.heap.objs.size+1)::us) I2.jd hl) r2 hq) λr s' hq'=>?_))
 cases r with
 |error e=>exact hx pins σ _ _ e s' I2 hq'
 |ok fl =>
  cases fl with
  |ret u =>
   obtain⟨v,H',I3,rv,ev,q3⟩:=I2.after hq'
   subst ev
   exact⟨rv,⟨V.ref (s.heap.objs.size+1),H',I3,O,q3⟩⟩
  |next=>exact False.elim hq'
  |brk=>exact False.elim hq'
  |cont=>exact False.elim hq'
theorem GP(M:Mk X.K C f)(F:bx X.prog X.w X.K X.mg X.base CX k f fd ps sp)(hr:cM (k+1) X.A)(hg:Gl X x)(hm:X.mg x=some (.ref C))(hb:Binds X.K fd ps ds)(hd:Vals qM ds)(hx:Passes CX X E)(ha:PA X (e::es) t)(hdb:(x==("__debug__":Str))=false:=by decide)(he:starEach (e::es) X.env=(false,eval e X.env)::starEach es X.env:=by rfl)(hpl:(backTo pos (starEach es X.env)).any (·.1)=false:=by rfl):PE X (.Call (.Name x p) (e::es) [] pos) (SA C sp qM E t):=by
 intro pins s σ H Q I h
 refine abb (iw I hg hm ?_ hdb)
 refine W.callWith_K (h₀:=X.base) I.ok.mod.gk M.kp (bY (ha pos pins s σ H _ I h) λus s1 ⟨vs,H1,I1,r,q⟩=>⟨I1.jd,?_⟩) he hpl
 exact KC M F hr hb hd hx I1 r q
end
section
variable{X:Cx}{CX:HK}{k:Nat}{f C:Addr}{fd:FuncData}{ps ks:List Str}{sp:Sp}{E:XK}{x m:Str}{p pos apos kpos:Pos}{e o:Expr}{es:List Expr}{kws:List Keyword}{te ta:TE}{t tk:TA}{nm:Option Str}
variable{g:List Value->List Value->List Value}{gV:List V->List V->List V}
end
structure aF(N P:List Str)(sc:Scope):Prop where
 kind:sc.kind=.function
 co:sc.isCoroutine=false
 gen:sc.isGenerator=false
 nd:N.Nodup
 pre:N.take P.length=P
 par:∀x∈P,sc.names.lookup x=some .local\/sc.names.lookup x=some .cell
 PF:∀y∈sc.names,y.2≠.free
theorem zl{kindOf:Str->Option NameKind}{x:Str}:∀{binds:List (Str×Value)}{m:Str->Option Value},(∀v,(x,v)∉binds)->bindL kindOf binds m x=m x
 |[],_,_=>rfl
 | (n,v)::r,m,h=>by
  unfold bindL
  rw[zl λw hw=>h w (aax _ hw)]
  split
  ·have:x≠n:=by rintro rfl;exact h v aaC
   simp[this]
  ·rfl
theorem zm{kindOf:Str->Option NameKind}{x:Str}:∀{binds:List (Str×Value)}{m:Str->Option Value},(∀v,(x,v)∉binds)->bindC kindOf binds m x=m x
 |[],_,_=>rfl
 | (n,v)::r,m,h=>by
  unfold bindC
  rw[zm λw hw=>h w (aax _ hw)]
  split
  ·rfl
  ·have:x≠n:=by rintro rfl;exact h v aaC
   simp[this]
theorem zo{kindOf:Str->Option NameKind}{x:Str}{v:Value}:∀{P:List Str}{vs:List Value}{i:Nat}{m:Str->Option Value},P.Nodup->P[i]?=some x->vs[i]?=some v->kindOf x=some .local->bindL kindOf (P.zip vs) m x=some v
 |[],_,_,_,_,h,_,_=>by simp at h
 |_::_,[],_,_,_,_,h,_=>by simp at h
 |p::P,w::vs,0,m,nd,h1,h2,hk=>by
  simp at h1 h2;subst h1;subst h2
  show bindL kindOf ((p,w)::P.zip vs) m p=_
  unfold bindL
  rw[zl λv hv=>(abx.mp nd).1 (List.of_mem_zip hv).1,aal hk]
  simp
 |p::P,w::vs,i+1,m,nd,h1,h2,hk=>by
  show bindL kindOf ((p,w)::P.zip vs) m x=_
  unfold bindL
  exact zo (i:=i) (abx.mp nd).2 (by simpa using h1) (by simpa using h2) hk
theorem zq{kindOf:Str->Option NameKind}{x:Str}{v:Value}:∀{P:List Str}{vs:List Value}{i:Nat}{m:Str->Option Value},P.Nodup->P[i]?=some x->vs[i]?=some v->kindOf x≠some .local->bindC kindOf (P.zip vs) m x=some v
 |[],_,_,_,_,h,_,_=>by simp at h
 |_::_,[],_,_,_,_,h,_=>by simp at h
 |p::P,w::vs,0,m,nd,h1,h2,hk=>by
  simp at h1 h2;subst h1;subst h2
  show bindC kindOf ((p,w)::P.zip vs) m p=_
  unfold bindC
  rw[zm λv hv=>(abx.mp nd).1 (List.of_mem_zip hv).1,aag hk]
  simp
 |p::P,w::vs,i+1,m,nd,h1,h2,hk=>by
  show bindC kindOf ((p,w)::P.zip vs) m x=_
  unfold bindC
  exact zq (i:=i) (abx.mp nd).2 (by simpa using h1) (by simpa using h2) hk
def start(N:List Str)(vs:List V):St:=vs.map some++List.replicate (N.length-vs.length) none
def oH(CX:HK)(P:Program)(w:World)(K:W.Frag)(mg:Str->Option Value)(base:Heap)(N:List Str)(qual:Str)(scope:Scope)(f:Addr)(cd:Value)(A:Around)(outer:List Env)(s:Shared)(H:Hp)(E:XK):Cx where
 prog:=P
 w:=w
 K:=K
 mg:=mg
 base:=base
 A:=A.deeper (envOfC qual scope s.heap.objs.size f cd)
 N:=N
 s₀:=s
 H₀:=H
 env:=envOfC qual scope s.heap.objs.size f cd
 outer:=outer
 stack:=envOfC qual scope s.heap.objs.size f cd::outer
 ex:=[]
 calm:=true
 fn:=λ_=>true
 pn:=[]
 xe:=λe s'=>wpAny (model P w) (A.deeper (envOfC qual scope s.heap.objs.size f cd)) (leaving (envOfC qual scope s.heap.objs.size f cd) e) (λ_ s''=>CX outer H s E e s'') (λe' s''=>CX outer H s E e' s'') s'
theorem B9{sc:Scope}{n:Nat}{x:Str}(h:sc.names.lookup x=some .cell):∃c,(cellsFrom n sc.names []).lookup x=some c:=by
 have q:=W.cellsFrom_some sc.names n [] (.inl h)
 exact Option.isSome_iff_exists.mp q
theorem zu{CX:HK}{P:Program}{w:World}{K:W.Frag}{mg:Str->Option Value}{base:Heap}{N ps:List Str}{qual:Str}{scope:Scope}{f:Addr}{cd:Value}{A:Around}{outer:List Env}{s s1:Shared}{H:Hp}{E:XK}{us:List Value}{vs:List V}(S:aF N ps scope)(hd:A.handled=none)(e0:uW P w K mg base A outer s H)(hl:vs.length=ps.length)(r:Vals vs us)(x:InCallC s s.heap.objs.size (bindL (envOfC qual scope s.heap.objs.size f cd).kindOf (ps.zip us) λ_=>none) (cellsFrom (s.heap.objs.size+1) scope.names []) (bindC (envOfC qual scope s.heap.objs.size f cd).kindOf (ps.zip us) λ_=>none) s1):Inv (oH CX P w K mg base N qual scope f cd A outer s H E) [] (start N vs) H s1:=by
 have hpl:ps.length<=N.length:=by have:=congrArg List.length S.pre;rw[aaL]at this;omega
 obtain⟨h1,tk,rfl,hk⟩:=x.done
 have SD:∀b:Addr,b∉(oH CX P w K mg base N qual scope f cd A outer s H E).ex:=λb z=>absurd (show b∈([]:List Addr) from z) (by simp)
 refine⟨⟨e0.mod,S.kind,O,O,aan _,λy z c h1 h2=>?_,λy hy=>?_,λy c _ h=>?_,λ_=>hd,Around.frames_deeper e0.frames,.inr ⟨O,O⟩,λb z=>absurd z (SD b),e0.bs,e0.HD,λb _ _=>SD b,λb z=>absurd z (SD b),e0.oF,e0.Kl⟩,O,e0.bare,Un.kept hk,⟨_,x.toInCall.ns,λi y v h1 h2 h3=>?_⟩,λy c h=>⟨_,x.cell y c h⟩,e0.hok.fresh (aan _),λy c h=>?_,λp hp=>absurd (show p∈([]:List 'g') from hp) (by simp),e0.hok.kept hk,?_⟩
 ·exact name_of_addr x.apart (aa4 h1) (aa4 h2)
 ·have hy:scope.names.lookup y=some .cell\/scope.names.lookup y=some .free:=hy
  rcases hy with hy|hy
  ·exact B9 hy
  ·exact absurd rfl (S.PF _ (aa4 hy))
 ·exact Nat.le_of_lt (x.above y c (aa4 h))
 ·have hi:i<vs.length:=by
   unfold start at h2
   by_cases hi:i<vs.length
   ·exact hi
   ·rw[List.getElem?_append_right (by simpa using hi)]at h2
    rw[List.getElem?_replicate]at h2
    split at h2<;>cases h2
  have ha:vs[i]?=some v:=by
   unfold start at h2
   rw[List.getElem?_append_left (by simpa using hi),aaW]at h2
   cases e:vs[i]? with
   |none=>rw[e]at h2;cases h2
   |some a=>rw[e]at h2;cases h2;rfl
  obtain⟨u,hu,rv⟩:=r.get ha
  have hp:ps[i]?=some y:=by
   rw[←S.pre,List.getElem?_take_of_lt 'b'];exact h1
  have YO:ps.Nodup:=by rw[←S.pre];exact S.nd.sublist (List.take_sublist _ _)
  refine⟨u,rv,?_⟩
  rcases S.par y (aau hp) with k|k
  ·exact .inl ⟨k,zo YO hp hu k⟩
  ·obtain⟨c,e⟩:=B9 (n:=s.heap.objs.size+1) k
   refine .inr ⟨.inl k,c,e,?_⟩
   have q:=x.cell y c e
   rw[zq YO hp hu (by show scope.names.lookup y≠_;rw[k];decide)]at q
   exact q
 ·exact e0.hok.fresh (Nat.le_of_lt (x.above y c (aa4 h)))
 ·unfold start
  show _=N.length
  rw[aaJ,aak,List.length_replicate]
  omega
theorem KD{CX:HK}{P:Program}{w:World}{K:W.Frag}{mg:Str->Option Value}{base:Heap}{k:Nat}{f:Addr}{name qual:Str}{params:Arguments}{body:List Stmt}{scope:Scope}{dV kV doc pm cdv ct oc:Value}{an od:Option Addr}{osl:Array (Option Value)}{N ps:List Str}{sp:Sp}(lk:K.lookup f=some ⟨oc,od,.func (W.fnOf name qual params body scope dV kV doc pm an cdv ct),osl⟩)(hcd:W.codeIn K cdv qual=true)(S:aF N ps scope)(len:∀vs H Q E,sp vs H Q E->vs.length=ps.length)(hbody:∀(A:Around)(outer:List Env)(s:Shared)(H:Hp)(vs:List V)(Q:VK)(E:XK),cM k (A.deeper (envOfC qual scope s.heap.objs.size f cdv))->sp vs H Q E->∃t,BV (oH CX P w K mg base N qual scope f cdv A outer s H E) body t/\t {nx:=λ_ H'=>Q .non H',rt:=Q} (start N vs) H):bx P w K mg base CX (k+1) f (W.fnOf name qual params body scope dV kV doc pm an cdv ct) ps sp:=by
 refine⟨len,λA outer s H args us vs Q E hr e0 hb r Ed=>?_⟩
 have hl:=len _ _ _ _ Ed
 have KX:K.In s.heap:=e0.mod.gk.keeps λb o e=>(e0.bs b o e).1
 have lim:s.heap.NoLimit:=e0.mod.nolimit.keeps λb o e=>(e0.bs b o e).1
 have hkind:∀y∈ps.zip us,scope.names.lookup y.1=some .local\/(scope.names.lookup y.1=some .cell/\((cellsFrom (s.heap.objs.size+1) scope.names []).lookup y.1).isSome=true):=λ⟨n,v⟩ hy=>by
  rcases S.par n (List.of_mem_zip hy).1 with q|q
  ·exact .inl q
  ·exact .inr ⟨q,W.cellsFrom_some _ _ _ (.inl q)⟩
 refine codeAny_call_function hr.depth (KX _ _ lk) rfl S.co S.gen rfl (W.codeRec_of KX hcd) (hb _ _ _ _ ?_)
 refine wpAny_newFunctionEnv_cells S.kind hkind λenv he s1 x=>?_
 subst he
 refine⟨lim.keeps x.toInCall.keep,codeAny_func ?_⟩
 obtain⟨t,ht,hq⟩:=hbody A outer s H vs Q E (hr.deeper _) Ed
 have I:Inv (oH CX P w K mg base N qual scope f cdv A outer s H E) [] (start N vs) H s1:=zu S hr.hd e0 hl r x
 refine aa1 (ht [] s1 (start N vs) H _ I hq) (λfl s' hs=>?_) λe s' hs=>hs
 have fin:∀{σ':St}{H':Hp}{v:V}{u:Value},Inv (oH CX P w K mg base N qual scope f cdv A outer s H E) [] σ' H' s'->RelV v u->Q v H'->CE outer P w H s Q u s' :=
  λ{σ' H' v u} J rv q=>⟨v,H',J.os,J.bare,J.base,J.hok,rv,q⟩
 cases fl with
 |ret u =>
  obtain⟨v,σ',H',J,rv,q⟩:=hs
  exact fin J rv q
 |next =>
  obtain⟨σ',H',J,q⟩:=hs
  exact fin (v:=V.non) (u:=Value.none) J rfl q
 |brk =>
  obtain⟨_,_,_,q⟩:=hs
  exact False.elim q
 |cont =>
  obtain⟨_,_,_,q⟩:=hs
  exact False.elim q
section
variable{X:Cx}{x:Str}{p pos:Pos}{e:Expr}{es:List Expr}{t:TA}{id T:String}{r:List V->Hp->VK->Prop}
def UM(r:List V->Hp->VK->Prop)(t:TA):TE:=λσ H Q=>t σ H λvs H1=>r vs H1 Q
theorem KG(hc:fM X (.builtin id) r)(hg:Gl X x)(hm:X.mg x=none)(hv:bootBuiltins x=some (.builtin id))(ha:PA X (e::es) t)(hn:x ≠ "__name__":=by decide)(hdb:(x==("__debug__":Str))=false:=by decide)(he:starEach (e::es) X.env=(false,eval e X.env)::starEach es X.env:=by rfl)(hpl:(backTo pos (starEach es X.env)).any (·.1)=false:=by rfl):PE X (.Call (.Name x p) (e::es) [] pos) (UM r t):=by
 intro pins s σ H Q I h
 refine abb (jz I hg hm hv ?_ hn hdb)
 exact PyProof.Rows.callWith_builtin1 (bY (ha pos pins s σ H _ I h) λus s1 ⟨vs,H1,I1,r1,q1⟩=>hc pins s1 σ H1 vs us Q I1 r1 q1) he hpl
theorem HL(hc:fM X (.type T) r)(hg:Gl X x)(hm:X.mg x=none)(hv:bootBuiltins x=some (.type T))(ha:PA X (e::es) t)(hn:x ≠ "__name__":=by decide)(hdb:(x==("__debug__":Str))=false:=by decide)(he:starEach (e::es) X.env=(false,eval e X.env)::starEach es X.env:=by rfl)(hpl:(backTo pos (starEach es X.env)).any (·.1)=false:=by rfl):PE X (.Call (.Name x p) (e::es) [] pos) (UM r t):=by
 intro pins s σ H Q I h
 refine abb (jz I hg hm hv ?_ hn hdb)
 exact aaQ (bY (ha pos pins s σ H _ I h) λus s1 ⟨vs,H1,I1,r1,q1⟩=>hc pins s1 σ H1 vs us Q I1 r1 q1) he hpl
end
end L2
namespace HT
open PySem PyProof.Rows
section
open PySem.SeqAt
open PySem.AutoSeq1 (wpAny_loadPart')
open PySem.MeetsSeq PySem.MeetsSeq2 PySem.MeetsSeq3
end
section
variable{prog:Program}{w:World}{A:Around}{E:Value->Shared->Prop}{s:Shared}
def yb(n d:Nat):Option Int->Nat
 |none=>d
 |some v=>if v<0 then (v+(n:Int)).toNat else min v.toNat n
theorem KH(n d:Nat):yb n d none=d:=rfl
theorem GQ(n d k:Nat):yb n d (some (k:Int))=min k n:=by
 show(if (k:Int)<0 then ((k:Int)+(n:Int)).toNat else min (k:Int).toNat n)=min k n
 rw[aag 'b',Int.toNat_natCast]
end
end HT
namespace L2
open PySem PySem.Spec PyProof.Rows
abbrev TO:=St->Hp->(Option Int->Hp->Prop)->Prop
def PO(X:Cx)(e:Option Expr)(t:TO):Prop :=
 ∀(pins:List 'g')(s:Shared)(σ:St)(H:Hp)(Q:Option Int->Hp->Prop),Inv X pins σ H s->t σ H Q->wpAny 'd' X.A (evalPart e X.env) (λu s'=>∃o H',Inv X pins σ H' s'/\IsPart u o/\Q o H') X.xe s
def Nf:TO:=λ_ H Q=>Q none H
def SE(t:TE):TO:=λσ H Q=>t σ H λx H1=>∃i,x=.int i/\Q (some i) H1
section
variable{X:Cx}{e:Expr}{te:TE}{lo hi:Option Expr}{tl th:TO}{pos p2:Pos}
theorem Ab:PO X none Nf:=by
 intro pins s σ H Q I h
 rw[evalPart_none]
 exact aar ⟨none,H,I,.none,h⟩
theorem iy(h:PE X e te):PO X (some e) (SE te):=by
 intro pins s σ H Q I hw
 rw[evalPart_some]
 refine bY (h pins s σ H _ I hw) λu s1 ⟨x,H1,I1,r1,q1⟩=>?_
 obtain⟨i,rfl,q⟩:=q1
 obtain⟨t,rfl⟩:=r1
 exact⟨some i,H1,I1,.int i t,q⟩
def UN(X:Cx)(r:V->Option Int->Option Int->Hp->VK->Prop):Prop :=
 ∀(pins:List 'g')(s:Shared)(σ:St)(H:Hp)(x:V)(v vl vu:Value)(lo hi:Option Int)(sl:Addr)(Q:VK),Inv X pins σ H s->RelV x v->s.heap.IsSliceOf sl vl vu .none->IsPart vl lo->IsPart vu hi->r x lo hi H Q->∃T id,typeLookup (.type T) "__getitem__"=pure (some (.builtin id))/\s.TypeIs v T/\wpAny 'd' X.A (getItem v (.ref sl)) (EP X pins σ Q) X.xe s
def tSl(r:V->Option Int->Option Int->Hp->VK->Prop)(te:TE)(tl th:TO):TE:=λσ H Q=>te σ H λx H1=>tl σ H1 λl H2=>th σ H2 λu H3=>r x l u H3 Q
theorem jY{r:V->Option Int->Option Int->Hp->VK->Prop}(hr:UN X r)(he:PE X e te)(hl:PO X lo tl)(hu:PO X hi th):PE X (.Subscript e (.Slice lo hi none p2) pos) (tSl r te tl th):=by
 intro pins s σ H Q I h
 refine Subscript_ (bY (he pins s σ H _ I h) λv s1 ⟨x,H1,I1,r1,q1⟩=>?_)
 refine wpAny_Slice (bY (hl pins s1 σ H1 _ I1 q1) λvl s2 ⟨l,H2,I2,pl,q2⟩=>bY (hu pins s2 σ H2 _ I2 q2) λvu s3 ⟨u,H3,I3,pu,q3⟩=>?_)
 rw[evalPart_none]
 refine aar ?_
 have I4:Inv X pins σ H3 {s3 with heap:=s3.heap.push {cls:=.type "slice",data:=.fields #[vl,vu,.none]}}:=I3.kept (t':=s3.toks) λb ob q=>aai _ q
 obtain⟨T,id,hT,ht,hg⟩:=hr pins {s3 with heap:=s3.heap.push {cls:=.type "slice",data:=.fields #[vl,vu,.none]}} σ H3 x v vl vu l u s3.heap.objs.size Q I4 r1 (Heap.IsSliceOf.new ..) pl pu q3
 show wpAny 'd' X.A (subscriptTail e (.Slice lo hi none p2) v (.ref s3.heap.objs.size)) (EP X pins σ Q) X.xe {s3 with heap:=s3.heap.push {cls:=.type "slice",data:=.fields #[vl,vu,.none]}}
 exact tail_any (ops:=[.ref s3.heap.objs.size,v]) ht hT hg (by with_unfolding_all rfl)
def tD(xs:List V)(lo hi:Option Int):List V:=(xs.drop (HT.yb xs.length 0 lo)).take (HT.yb xs.length xs.length hi-HT.yb xs.length 0 lo)
theorem uw(xs:List V)(lo hi:Option Int):(tD xs lo hi).length<=xs.length:=by
 unfold tD
 rw[aaL,List.length_drop]
 omega
end
def OX(n:Nat)(i:Int):Option Nat:=if 0<=i then (if i<n then some i.toNat else none) else if -(n:Int)<=i then some (i+n).toNat else none
def tE{α:Type}(xs:List α)(i:Int):Option α:=(OX xs.length i).bind λj=>xs[j]?
theorem GR{n:Nat}{i:Int}{j:Nat}(h:OX n i=some j):seqIndex? i n=some j/\j<n/\-(n:Int)<=i/\i<n:=by
 unfold OX at h
 by_cases h0:0<=i
 ·rw[aal h0]at h
  by_cases h1:i<n
  ·rw[aal h1]at h
   have e:i.toNat=j:=aah h
   exact⟨by rw[seqIndex_of h0 h1,e],by omega,by omega,h1⟩
  ·rw[aag h1]at h;cases h
 ·rw[aag h0]at h
  by_cases h1 : -(n:Int)<=i
  ·rw[aal h1]at h
   have e:(i+n).toNat=j:=aah h
   exact⟨by rw[seqIndex_neg 'b' h1,e],by omega,h1,by omega⟩
  ·rw[aag h1]at h;cases h
theorem Ac{α:Type}{xs:List α}{i:Int}{v:α}(h:tE xs i=some v):∃j,seqIndex? i xs.length=some j/\xs[j]?=some v/\j<xs.length/\-(xs.length:Int)<=i/\i<xs.length:=by
 unfold tE at h
 cases e:OX xs.length i with
 |none=>rw[e]at h;cases h
 |some j =>
  rw[e]at h
  obtain⟨h1,h2,h3,h4⟩:=GR e
  exact⟨j,h1,h,h2,h3,h4⟩
theorem eG{α:Type}{xs:List α}{j:Nat}{v:α}(h:xs[j]?=some v):tE xs (j:Int)=some v:=by
 have hj:j<xs.length:=(aaj.mp h).1
 have e:OX xs.length (j:Int)=some j:=by
  unfold OX
  rw[aal 'b',aal 'b'];simp
 unfold tE;rw[e];exact h
def Ad(b:Expr):Prop:=∀o i,subscripted b false o i=operate [o,i] (getItem o i)
def RM(X:Cx)(r:R2):Prop :=
 ∀(value slice:Expr)(pins:List 'g')(s:Shared)(σ:St)(H:Hp)(x y:V)(v u:Value)(Q:VK),Inv X pins σ H s->RelV x v->RelV y u->r x y H Q->subscripted slice false v u=operate [v,u] (getItem v u)->wpAny 'd' X.A (subscriptTail value slice v u) (EP X pins σ Q) X.xe s
def Ng(X:Cx)(id:String)(r:V->List V->Hp->VK->Prop):Prop :=
 ∀(pins:List 'g')(s:Shared)(σ:St)(H:Hp)(x:V)(xs:List V)(v:Value)(us:List Value)(Q:VK),Inv X pins σ H s->RelV x v->Vals xs us->r x xs H Q->wpAny 'd' X.A (call (.builtin id) (v::us)) (EP X pins σ Q) X.xe s
section
variable{X:Cx}{a b:Expr}{ta tb:TE}{pos:Pos}
theorem GS{r:R2}(hr:RM X r)(ha:PE X a ta)(hb:PE X b tb)(hs:Ad b):PE X (.Subscript a b pos) (MO r ta tb):=by
 intro pins s σ H Q I h
 exact Subscript_ (Pz ha hb I h λv u s2 x y H2 I2 rx ry q=>hr a b pins s2 σ H2 x y v u Q I2 rx ry q (hs _ _))
def PK(K:W.Frag):R2:=λx y H Q=>∃p xs i v,x=.ref p/\y=.int i/\aM K H p xs/\tE xs i=some v/\Q v H
def PL(K:W.Frag):R2:=λx y H Q=>∃p xs i v,x=.ref p/\y=.int i/\bR K H p xs/\tE xs i=some v/\Q v H
def VH:R2:=λx y H Q=>∃z i c,x=.str z/\y=.int i/\z.length<=sizeLine/\tE z.cps.toList i=some c/\Q (.str ⟨#[c]⟩) H
theorem Nh:RM X (PK X.K):=by
 intro value slice pins s σ H x y v u Q I rx ry h hs
 obtain⟨p,xs,i,z,rfl,rfl,hq,he,q⟩:=h
 cases rx
 obtain⟨t,rfl⟩:=ry
 obtain⟨its,r,pl,hz⟩:=I.list hq
 obtain⟨j,h1,h2,h3,h4,h5⟩:=Ac he
 obtain⟨w,ew,rw'⟩:=r.get h2
 have hl:=r.length
 have hn:=sY
 have fin:EP X pins σ Q w s:=⟨z,H,I,rw',q⟩
 by_cases h0:0<=i
 ·have hj:i.toNat=j:=by
   rw[seqIndex_of h0 h5]at h1
   exact aah h1
  exact item_listR pl.isList h0 'b' (by rw[hj];simpa using ew) fin hs
 ·have hj:(i+(its.toArray.size:Int)).toNat=j:=by
   rw[seqIndex_neg 'b' h4]at h1
   rw[aam,←hl]
   exact aah h1
  exact subscriptTail_builtinR (x:=w) pl.isList.typeIs slot_list_getitem.lookup
   (wpAny_getItem_list_neg (Q:=λr s'=>r=w/\EP X pins σ Q r s') pl.isList 'b' (by rw[aam]<;>omega) 'b' (by rw[hj];simpa using ew) ⟨rfl,fin⟩) hs
theorem PM:RM X (PL X.K):=by
 intro value slice pins s σ H x y v u Q I rx ry h hs
 obtain⟨p,xs,i,z,rfl,rfl,hq,he,q⟩:=h
 cases rx
 obtain⟨t,rfl⟩:=ry
 obtain⟨its,r,pl,hz⟩:=I.tuple hq
 obtain⟨j,h1,h2,h3,h4,h5⟩:=Ac he
 obtain⟨w,ew,rw'⟩:=r.get h2
 have hl:=r.length
 have hn:=sY
 have fin:EP X pins σ Q w s:=⟨z,H,I,rw',q⟩
 exact subscriptTail_builtinR (x:=w) pl.typeIs slot_tuple_getitem.lookup
  (getItem_tuple (j:=j) (Q:=λr s'=>r=w/\EP X pins σ Q r s') pl 'b' 'b' (by rw[aam,←hl];exact h1) (by simpa using ew) ⟨rfl,fin⟩) hs
theorem KI:RM X VH:=by
 intro value slice pins s σ H x y v u Q I rx ry h hs
 obtain⟨z,i,c,rfl,rfl,hz,he,q⟩:=h
 obtain⟨t,rfl⟩:=rx
 obtain⟨t',rfl⟩:=ry
 obtain⟨j,h1,h2,h3,h4,h5⟩:=Ac he
 have hl:z.cps.toList.length=z.length:=by simp[Str.length]
 rw[hl]at h1 h4 h5
 have hn:=sY
 exact tail_any (typeIs_str s z t) slot_str_getitem.lookup (getItem_str (c:=c) (by
  have e1:decide (i < -(2 ^ 63:Int))=false:=aas 'b'
  have e2:decide (i>=2 ^ 63)=false:=aas 'b'
  rw[e1,e2,Bool.or_false]) (by rw[h1];simpa using h2) ⟨.str ⟨#[c]⟩,H,I.tok _,⟨_,rfl⟩,q⟩) hs
theorem Ef(its:List Value)(n j:Nat)(u:Value):Obj.mapSeq (·.setIfInBounds j u) {cls:=.type "list",data:=.seq its.toArray n}={cls:=.type "list",data:=.seq (its.set j u).toArray n}:=by
 simp[Obj.mapSeq]
theorem Inv.lst{pins:List 'g'}{σ:St}{H:Hp}{s:Shared}{p:Addr}{xs:List V}(I:Inv X pins σ H s)(h:H p=some (.lst xs)):∃(its:List Value)(n:Nat),Vals xs its/\s.heap.get? p=some {cls:=.type "list",data:=.seq its.toArray n}/\xs.length<=sizeLine:=by
 obtain⟨z,its,n,r,e⟩:=I.hok p _ h
 exact⟨its,n,r,e,z⟩
theorem Inv.PN{pins:List 'g'}{σ:St}{H:Hp}{s:Shared}{p:Addr}{xs ys:List V}{its its':List Value}{n n':Nat}{f:Obj->Obj}(I:Inv X pins σ H s)(h:H p=some (.lst xs))(ho:s.heap.get? p=some {cls:=.type "list",data:=.seq its.toArray n})(hf:f {cls:=.type "list",data:=.seq its.toArray n}={cls:=.type "list",data:=.seq its'.toArray n'})(r:Vals ys its')(hz:ys.length<=sizeLine)(t:Nat):Inv X pins σ (upd H p (.lst ys)) {s with heap:=s.heap.update p f,toks:=t}:=by
 have e:(s.heap.update p f).get? p=some {cls:=.type "list",data:=.seq its'.toArray n'}:=by
  rw[aa9 f ho (by rw[hf]<;>rfl),hf]
 refine I.write (x:=p) (e:=p) (by rw[h];trivial) (.inl rfl) (λb u hb q=>(aaN _ _ (abi hb)).trans q) ⟨_,e⟩ ?_
 exact⟨hz,its',n',r,e⟩
def SG:V->V->V->Hp->(Hp->Prop)->Prop:=λo i v H Q=>∃p xs k j,o=.ref p/\i=.int k/\H p=some (.lst xs)/\OX xs.length k=some j/\Q (upd H p (.lst (xs.set j v)))
theorem set_list:Sl X SG:=by
 intro pins s σ H o i v ov iv u Q I ro ri rv h
 obtain⟨p,xs,k,j,rfl,rfl,hp,hj,q⟩:=h
 cases ro
 obtain⟨t,rfl⟩:=ri
 obtain⟨its,n,r,ho,hz⟩:=I.lst hp
 obtain⟨h1,h2,h3,h4⟩:=GR hj
 have hl:=r.length
 have hn:=sY
 have I':Inv X pins σ (upd H p (.lst (xs.set j v))) {s with heap:=s.heap.update p (Obj.mapSeq (·.setIfInBounds j u))} :=
  I.PN hp ho (Ef its n j u) (r.set rv j) (by rw[List.length_set];exact hz) s.toks
 by_cases h0:0<=k
 ·have hk:k.toNat=j:=by
   rw[seqIndex_of h0 h4]at h1
   exact aah h1
  exact W.ki_setAt ho h0 'b' (by rw[aam,←hl];exact h4) (by rw[hk];exact⟨_,I',q⟩)
 ·have hk:(k+(its.toArray.size:Int)).toNat=j:=by
   rw[seqIndex_neg 'b' h3]at h1
   rw[aam,←hl]
   exact aah h1
  exact W.ki_setBack ho 'b' (by rw[aam,←hl];exact h3) 'b' (by rw[hk];exact⟨_,I',q⟩)
theorem Ae(lo hi:Option Int)(n:Nat):(sliceBounds lo hi none n).1=((HT.yb n 0 lo:Nat):Int)/\(sliceBounds lo hi none n).2.1=((HT.yb n n hi:Nat):Int)/\(sliceBounds lo hi none n).2.2=1:=by
 refine⟨?_,?_,O⟩
 ·cases lo with
  |none=>simp[sliceBounds,HT.yb]
  |some i =>
   simp only[sliceBounds,HT.yb,Option.getD_none,show(1:Int)>0 by decide,if_true]
   by_cases h:i<0
   ·simp only[h,if_true]<;>omega
   ·simp only[h,if_false]<;>omega
 ·cases hi with
  |none=>simp[sliceBounds,HT.yb]
  |some i =>
   simp only[sliceBounds,HT.yb,Option.getD_none,show(1:Int)>0 by decide,if_true]
   by_cases h:i<0
   ·simp only[h,if_true]<;>omega
   ·simp only[h,if_false]<;>omega
theorem yc(its:List Value)(lo hi:Option Int):slicePick its.toArray lo hi none=((its.drop (HT.yb its.length 0 lo)).take (HT.yb its.length its.length hi-HT.yb its.length 0 lo)).toArray:=by
 obtain⟨h1,h2,h3⟩:=Ae lo hi its.toArray.size
 unfold slicePick
 rw[h1,h2,h3]
 simp only[sliceRange_one,pick_run,aam]<;>rfl
def SH(K:W.Frag):V->Option Int->Option Int->Hp->VK->Prop:=λx lo hi H Q=>∃a xs,x=.ref a/\aM K H a xs/\∀p,H p=none->Q (.ref p) (upd H p (.lst (tD xs lo hi)))
theorem Ni:UN X (SH X.K):=by
 intro pins s σ H x v vl vu lo hi sl Q I rx hs pl pu h
 obtain⟨a,xs,rfl,hx,q⟩:=h
 cases rx
 obtain⟨its,r,ht,hz⟩:=I.list hx
 have hlen:=r.length
 refine⟨"list",_,slot_list_getitem.lookup,ht.isList.typeIs,?_⟩
 refine wpAny_getItem_list_slice ht.isList hs pl pu .none (by simp) ?_ (by rw[aam]<;>omega)
 rw[yc,←hlen]
 refine⟨.ref s.heap.objs.size,_,I.laid (t':=s.toks) (o:=.lst (tD xs lo hi)) (λb ob q=>aai _ q) (aan _) ?_,rfl,q _ (I.hok.fresh (aan _))⟩
 exact⟨aay (uw xs lo hi) hz,_,0,(r.drop (HT.yb xs.length 0 lo)).take (HT.yb xs.length xs.length hi-HT.yb xs.length 0 lo),aaz _ rfl⟩
def cU:V->Bool
 | .non=>true
 | .bl _=>true
 | .int _=>true
 | .str _=>true
 |_=>false
def zv:V->V->Bool
 | .non,.non=>true
 | .bl a,.bl b=>a==b
 | .bl a,.int b=>(if a then 1 else 0)==b
 | .int a,.bl b=>a==(if b then 1 else 0)
 | .int a,.int b=>a==b
 | .str a,.str b=>a==b
 |_,_=>false
theorem Af{A:Around}{s:Shared}{y x:V}{u v:Value}(ry:RelV y u)(rx:RelV x v)(fy:cU y=true)(fx:cU x=true):SeqAt.EqAt A s u v (zv y x):=by
 cases y with
 |non =>
  cases ry
  cases x with
  |non=>cases rx;exact aby _
  |bl b=>cases rx;exact SeqAt.EqAt.none_bool b
  |int b=>obtain⟨t,rfl⟩:=rx;exact SeqAt.EqAt.none_int b t
  |str b=>obtain⟨t,rfl⟩:=rx;exact SeqAt.EqAt.none_str b t
  |_=>exact absurd (show false=true from fx) aaw
 |bl a =>
  cases ry
  cases x with
  |non=>cases rx;exact SeqAt.EqAt.bool_none a
  |bl b=>cases rx;exact SeqAt.EqAt.bool_bool a b
  |int b=>obtain⟨t,rfl⟩:=rx;exact SeqAt.EqAt.bool_int a b t
  |str b=>obtain⟨t,rfl⟩:=rx;exact SeqAt.EqAt.bool_str a b t
  |_=>exact absurd (show false=true from fx) aaw
 |int a =>
  obtain⟨t',rfl⟩:=ry
  cases x with
  |non=>cases rx;exact SeqAt.EqAt.int_none a t'
  |bl b=>cases rx;exact SeqAt.EqAt.int_bool a t' b
  |int b=>obtain⟨t,rfl⟩:=rx;exact SeqAt.EqAt.int_int a t' b t
  |str b=>obtain⟨t,rfl⟩:=rx;exact SeqAt.EqAt.int_str a t' b t
  |_=>exact absurd (show false=true from fx) aaw
 |str a =>
  obtain⟨t',rfl⟩:=ry
  cases x with
  |non=>cases rx;exact SeqAt.EqAt.str_none a t'
  |bl b=>cases rx;exact SeqAt.EqAt.str_bool a t' b
  |int b=>obtain⟨t,rfl⟩:=rx;exact SeqAt.EqAt.str_int a t' b t
  |str b=>obtain⟨t,rfl⟩:=rx;exact SeqAt.EqAt.str_str a t' b t
  |_=>exact absurd (show false=true from fx) aaw
 |_=>exact absurd (show false=true from fy) aaw
def UO(x:V)(u:Value):Bool:=match u with
 | .none=>zv .non x
 | .bool b=>zv (.bl b) x
 | .int i _=>zv (.int i) x
 | .str z _=>zv (.str z) x
 |_=>false
theorem KJ{x y:V}{u:Value}(r:RelV y u)(f:cU y=true):UO x u=zv y x:=by
 cases y with
 |non=>cases r;rfl
 |bl b=>cases r;rfl
 |int i=>obtain⟨t,rfl⟩:=r;rfl
 |str z=>obtain⟨t,rfl⟩:=r;rfl
 |_=>exact absurd (show false=true from f) aaw
theorem Ca{A:Around}{s:Shared}{x:V}{v:Value}(rx:RelV x v)(fx:cU x=true):∀{xs:List V}{us:List Value},Vals xs us->xs.all cU=true->∀u∈us,SeqAt.EqAt A s u v (UO x u)
 |_,_,.nil,_=>λu hu=>by cases hu
 |y::xs,u::us,.cons r t,f=>λu' hu=>by
  rw[List.all_cons,Bool.and_eq_true]at f
  rcases aat.mp hu with rfl|hu
  ·rw[KJ r f.1];exact Af r rx f.1 fx
  ·exact Ca rx fx t f.2 u' hu
theorem Ag:nX X (compareOp .NotIn) (λx y H Q=>∃i j,x=.str i/\y=.str j/\Q (.bl (!(!(Builtin.Str.occurrences j i 0 j.length 1).isEmpty))) H):=by
 intro pins s σ H x y v u Q I rx ry h
 obtain⟨i,j,rfl,rfl,q⟩:=h
 obtain⟨t,rfl⟩:=rx
 obtain⟨t',rfl⟩:=ry
 exact notIn_str ⟨.bl _,H,I,rfl,q⟩
theorem Ah:fM X (.builtin "len") (λxs H Q=>∃p ys,xs=[.ref p]/\(aM X.K H p ys\/bR X.K H p ys)/\Q (.int ys.length) H):=by
 intro pins s σ H xs us Q I r h
 obtain⟨p,ys,rfl,hq,q⟩:=h
 obtain⟨u,rfl,rx⟩:=vals1 r
 cases rx
 have hn:=sY
 rcases hq with hq|hq
 ·obtain⟨its,r',pl,hz⟩:=I.list hq
  have hlen:=r'.length
  exact Calls.call_len_list pl.isList (by simp only[aam]<;>omega) ⟨.int ys.length,H,I.tok _,⟨s.toks+1,by rw[aam,hlen]⟩,q⟩
 ·obtain⟨its,r',pl,hz⟩:=I.tuple hq
  have hlen:=r'.length
  exact len_tuple pl (by simp only[aam]<;>omega) ⟨.int ys.length,H,I.tok _,⟨s.toks+1,by rw[aam,hlen]⟩,q⟩
theorem eH:fM X (.builtin "len") (λxs H Q=>∃z,xs=[.str z]/\z.length<=sizeLine/\Q (.int z.length) H):=by
 intro pins s σ H xs us Q I r h
 obtain⟨z,rfl,hz,q⟩:=h
 obtain⟨u,rfl,t,rfl⟩:=vals1 r
 have hn:=sY
 exact len_str 'b' ⟨.int z.length,H,I.tok _,⟨_,rfl⟩,q⟩
theorem Ai:fM X (.type "list") (λxs H Q=>∃p ys,xs=[.ref p]/\(aM X.K H p ys\/bR X.K H p ys)/\∀l,H l=none->Q (.ref l) (upd H l (.lst ys))):=by
 intro pins s σ H xs us Q I r h
 obtain⟨p,ys,rfl,hq,q⟩:=h
 obtain⟨u,rfl,rx⟩:=vals1 r
 cases rx
 have fin:∀(its:List Value),Vals ys its->ys.length<=sizeLine->∀(h':Heap)(c':Nat),(∀b o',s.heap.get? b=some o'->h'.get? b=some o')->h'.get? s.heap.objs.size=some {cls:=.type "list",dict:=none,data:=.seq its.toArray c',slots:=#[]}->EP X pins σ Q (.ref s.heap.objs.size) {s with heap:=h'}:=λits r' hz h' c' kp e =>
  ⟨.ref s.heap.objs.size,_,I.laid (t':=s.toks) kp (aan _) (show cS X.prog X.w _ h' _ (.lst ys) from⟨hz,its,c',r',e⟩),rfl,q _ (I.hok.fresh (aan _))⟩
 rcases hq with hq|hq
 ·obtain⟨its,r',pl,hz⟩:=I.list hq
  have hlen:=r'.length
  obtain⟨o,ho,hc,n,hd⟩:=pl.isList
  exact call_list_seq p (.inl rfl) ho hc hd (λh' c' kp e=>fin its r' hz h' c' kp e) (by simp only[aam]<;>omega)
 ·obtain⟨its,r',pl,hz⟩:=I.tuple hq
  have hlen:=r'.length
  obtain⟨o,ho,hc,n,hd⟩:=pl
  exact call_list_seq p (.inr rfl) ho hc hd (λh' c' kp e=>fin its r' hz h' c' kp e) (by simp only[aam]<;>omega)
theorem yd:fM X (.type "tuple") (λxs H Q=>∃p ys,xs=[.ref p]/\((aM X.K H p ys/\∀l,H l=none->Q (.ref l) (upd H l (.tup ys)))\/(bR X.K H p ys/\Q (.ref p) H))):=by
 intro pins s σ H xs us Q I r h
 obtain⟨p,ys,rfl,h⟩:=h
 obtain⟨u,rfl,rx⟩:=vals1 r
 cases rx
 rcases h with ⟨hq,q⟩|⟨hq,q⟩
 ·obtain⟨its,r',pl,hz⟩:=I.list hq
  have hlen:=r'.length
  refine call_tuple_list pl.isList (λh' kp=>?_) (by simp only[aam]<;>omega)
  have I1:Inv X pins σ H {s with heap:=h'}:=I.kept (t':=s.toks) kp
  have I2:Inv X pins σ (upd H h'.objs.size (.tup ys)) {s with heap:=h'.push {cls:=.type "tuple",data:=.seq its.toArray}} :=
   I1.laid (t':=s.toks) (λb o e=>aai _ e) (aan _) (show cS X.prog X.w _ _ _ (.tup ys) from⟨hz,its,r',IsTup.new _ _⟩)
  exact⟨.ref h'.objs.size,_,I2,O,q _ (I1.hok.fresh (aan _))⟩
 ·obtain⟨its,r',pl,hz⟩:=I.tuple hq
  exact call_tuple_same pl ⟨.ref p,H,I,rfl,q⟩
def YQ(K:W.Frag)(T:String)(x:V)(H:Hp):Prop:=match x with
 | .str _=>T="str"
 | .int _=>T="int"
 | .ref p=>(T="list"/\∃xs,aM K H p xs)\/(T="tuple"/\∃o,K.lookup p=some o/\o.cls=.type "tuple"/\o.dict=none)\/
   (T="dict"/\((∃kvs,H p=some (.dK kvs))\/∃kvs,H p=some (.dT kvs)))\/(T="set"/\∃S n,H p=some (.set S n))
 |_=>False
theorem PR{pins:List 'g'}{σ:St}{H:Hp}{s:Shared}{T:String}{x:V}{v:Value}(I:Inv X pins σ H s)(r:RelV x v)(ty:YQ X.K T x H):s.TypeIs v T/\∀a,v=.ref a->∃ob,s.heap.get? a=some ob/\ob.dict=none:=by
 cases x with
 |str z =>
  obtain⟨t,rfl⟩:=r
  cases(show T="str" from ty)
  exact⟨typeIs_str s z t,λ_ e=>nomatch e⟩
 |int i =>
  obtain⟨t,rfl⟩:=r
  cases(show T="int" from ty)
  exact⟨typeIs_int s i t,λ_ e=>nomatch e⟩
 |ref p =>
  cases r
  rcases ty with ⟨rfl,xs,hq⟩|⟨rfl,o,hk,hc,hd⟩|⟨rfl,hk⟩|⟨rfl,S,n,hk⟩
  ·obtain⟨its,_,pl,_⟩:=I.list hq
   refine⟨pl.isList.typeIs,λa e=>?_⟩
   cases e
   obtain⟨o,n,e,c,hd,_⟩:=pl
   exact⟨o,e,hd⟩
  ·refine⟨⟨o,I.jd p o hk,hc⟩,λa e=>?_⟩
   cases e
   exact⟨o,I.jd _ o hk,hd⟩
  ·have z:∃o,s.heap.get? p=some o/\o.ExactDict:=by
    rcases hk with ⟨kvs,hk⟩|⟨kvs,hk⟩
    ·obtain⟨_,_,_,_,o,_,_,e,ex,_⟩:=I.hok p _ hk
     exact⟨o,e,ex⟩
    ·obtain⟨_,_,_,_,o,_,_,e,ex,_⟩:=I.hok p _ hk
     exact⟨o,e,ex⟩
   obtain⟨o,e,ex⟩:=z
   refine⟨⟨o,e,ex.1⟩,λa e2=>?_⟩
   cases e2
   exact⟨o,e,ex.2.1⟩
  ·obtain⟨o,_,_,_,e,ex,_⟩:=I.hok p _ hk
   refine⟨⟨o,e,ex.1⟩,λa e2=>?_⟩
   cases e2
   exact⟨o,e,ex.2.1⟩
 |_=>exact False.elim ty
def YR(K:W.Frag)(T:String)(r:V->List V->Hp->VK->Prop)(to:TE)(t:TA):TE:=λσ H Q=>to σ H λx H1=>YQ K T x H1/\t σ H1 λxs H2=>r x xs H2 Q
variable{o e:Expr}{es:List Expr}{to:TE}{t:TA}{name:Str}{apos cpos:Pos}{T id:String}{r:V->List V->Hp->VK->Prop}
theorem SI(pa:PlainAttrs T)(slot:Slot T name id)(hty:typeOf (.builtin id)=pure (.type "method_descriptor"))(hm:Ng X id r)(ho:PE X o to)(ha:PA X (e::es) t)(hbase:attributeBase o name X.env (eval o X.env)=eval o X.env:=by rfl)(hfew:((backTo cpos (starEach (e::es) X.env)).all (λx=>!x.1)&&(backToKw cpos (keywordEach [] X.env)).all (λx=>x.1.isSome)
   && decide ((e::es).length+([]:List Keyword).length+(if ([]:List Keyword).isEmpty then 0 else 1)<30))=true:=by rfl)(hline:(apos.endLine==cpos.line)=true:=by rfl)(hs:starEach (e::es) X.env=(false,eval e X.env)::starEach es X.env:=by rfl)(hplain:(backTo cpos (starEach es X.env)).any (·.1)=false:=by rfl):PE X (.Call (.Attribute o name apos) (e::es) [] cpos) (YR X.K T r to t):=by
 intro pins s σ H Q I h
 refine wpAny_Call_method_late hbase hfew hline rfl (bY (ho pins s σ H _ I h) λv s1 ⟨x,H1,I1,r1,ty,q1⟩=>?_)
 obtain⟨h1,h2⟩:=PR I1 r1 ty
 refine⟨T,id,pa,slot,hty,h1,h2,?_⟩
 have hA:=ha cpos pins s1 σ H1 _ I1 q1
 rw[hs]at hA⊢
 refine Calls.callWith_builtin (by show(false||(backTo cpos (starEach es X.env)).any (·.1))=false;rw[hplain]<;>rfl) (Calls.evalArgs_plain ?_)
 exact bY hA λus s2 ⟨vs,H2,I2,r2,q2⟩=>hm pins s2 σ H2 x vs v us Q I2 r1 r2 q2
end
def MtM(X:Cx)(id:String)(r:V->List V->Hp->VK->Prop):Prop :=
 ∀(pins:List 'g')(s:Shared)(σ:St)(H:Hp)(x:V)(xs:List V)(v:Value)(us:List Value)(Q:VK),Inv X pins σ H s->RelV x v->Vals xs us->r x xs H Q->wpAny 'd' X.A (call (.builtin id) (v::us)) (EP X pins σ Q) X.xe s
theorem Vals.one:∀{x:V}{us:List Value},Vals [x] us->∃u,us=[u]/\RelV x u
 |_,_,.cons r .nil=>⟨_,rfl,r⟩
section
variable{X:Cx}{pins:List 'g'}{σ:St}{H:Hp}{s:Shared}{l b:Addr}{xs ys zs:List V}
theorem Inv.VI{its its':List Value}{n:Nat}{f:Array Value->Array Value}{t':Nat}(I:Inv X pins σ H s)(hH:H l=some (.lst xs))(e:s.heap.get? l=some {cls:=.type "list",data:=.seq its.toArray n})(hf:f its.toArray=its'.toArray)(hv:Vals ys its')(hz:ys.length<=sizeLine):Inv X pins σ (upd H l (.lst ys)) {s with heap:=s.heap.update l (Obj.mapSeq f),toks:=t'}:=by
 have q:=PySem.IsL.update e f
 rw[hf]at q
 refine I.write (x:=l) (e:=l) (by rw[hH];exact trivial) (.inl rfl) (λb' u hb hu=>(aaN s.heap (Obj.mapSeq f) (abi hb)).trans hu) ⟨_,q⟩ ?_
 exact⟨hz,its',_,hv,q⟩
theorem Inv.PU{its:List Value}{t':Nat}(I:Inv X pins σ H s)(hv:Vals ys its)(hz:ys.length<=sizeLine):Inv X pins σ (upd H s.heap.objs.size (.lst ys)) {s with heap:=s.heap.push {cls:=.type "list",data:=.seq its.toArray},toks:=t'} :=
 I.laid (λ_ _ q=>aai _ q) (aan _) ⟨hz,its,0,hv,aaz _ rfl⟩
theorem Inv.fresh(I:Inv X pins σ H s):H s.heap.objs.size=none:=I.hok.fresh (aan _)
theorem Inv.PV(I:Inv X pins σ H s)(hH:H l=some (.lst xs)):xs.length<=sizeLine/\∃(its:List Value)(n:Nat),Vals xs its/\xs.length=its.length/\s.heap.get? l=some {cls:=.type "list",data:=.seq its.toArray n}:=by
 obtain⟨z,its,n,r,e⟩:=I.hok l _ hH
 exact⟨z,its,n,r,r.length,e⟩
end
section
variable{X:Cx}
def Nj:V->List V->Hp->VK->Prop:=λx vs H Q=>∃l xs y,x=.ref l/\vs=[y]/\H l=some (.lst xs)/\xs.length<sizeLine/\Q .non (upd H l (.lst (xs++[y])))
theorem cN:MtM X "list.append" Nj:=by
 intro pins s σ H x vs v us Q I rx rv h
 obtain⟨l,xs,y,rfl,rfl,hH,hz,q⟩:=h
 cases rx
 obtain⟨u,rfl,ru⟩:=rv.one
 obtain⟨z,its,n,r,hl,e⟩:=I.PV hH
 refine call_meets F.slot_list_append ⟨_,e,rfl⟩ F.entry_list_append (F.args_list_append_2 _ _) (PySem.list_append l its.toArray n u (by rw[aam];omega)) ⟨e,?_⟩
 refine⟨.non,_,I.VI (its':=its++[u]) hH e (by simp) (r.append (.cons ru .nil)) ?_,rfl,q⟩
 rw[aaJ,List.length_singleton]
 omega
def VJ:R2:=λx y H Q=>∃l b xs zs,x=.ref l/\y=.ref b/\H l=some (.lst xs)/\H b=some (.lst zs)/\xs.length+zs.length<=sizeLine/\∀p,H p=none->Q (.ref p) (upd H p (.lst (xs++zs)))
theorem Eg:nX X (binaryOp .Add) VJ:=by
 intro pins s σ H x y v u Q I rx ry h
 obtain⟨l,b,xs,zs,rfl,rfl,hH,hB,hz,q⟩:=h
 cases rx
 cases ry
 obtain⟨z,its,n,r,hl,e⟩:=I.PV hH
 obtain⟨z2,its2,n2,r2,hl2,e2⟩:=I.PV hB
 refine PySem.P.add_list e e2 ?_ (by rw[aam,aam];omega)
 have ea:its.toArray++its2.toArray=(its++its2).toArray:=by simp
 rw[ea]
 exact⟨.ref _,_,I.PU (t':=s.toks) (r.append r2) (by rw[aaJ];omega),rfl,q _ I.fresh⟩
end
section
variable{prog:Program}{w:World}{A:Around}{E:Value->Shared->Prop}{s:Shared}
set_option maxRecDepth 100000 in
end
section
variable{X:Cx}
end
end L2
namespace Att
open PySem PySem.W PySem.Calls PyProof.Rows
theorem uX{P:Params}{h:Heap}:∀(ns:List Int)(vs:List Value),WellAll P h vs (ns.map WData.int)->IntsAre vs ns:=by
 intro ns
 induction ns with
 |nil =>
  intro vs w
  rw[List.map_nil]at w
  cases w
  exact .nil
 |cons n ns ih =>
  intro vs w
  rw[abB]at w
  cases w with
  |cons a b =>
   cases a
   exact .cons _ _ (ih _ b)
theorem HM{l:OpenLaw}{n:Nat}(hn:l.most=some n){P:Params}{h:Heap}{args:List WData}{vals:List Value}(hpre:l.row.toRowW.claim.pre args=true)(hwl:WellAll P h vals args):∃a vs ns,vals=[Value.ref a]/\args=[WData.list (ns.map WData.int)]/\h.get? a=some {cls:=.type "list",data:=.seq vs.toArray}/\IntsAre vs ns/\ns.length<=n:=by
 have hsh:WShape.hasAll [] args [.list .int]=true:=(pre_splitW hpre).1
 have hc:l.pre.holds [] {args:=args}=true:=(pre_splitW hpre).2
 obtain⟨d,r,rfl,h1,h2⟩:=hasAllW_cons hsh
 obtain rfl:=hasAllW_nil h2
 obtain⟨xs,rfl,h3⟩:=hasW_list h1
 obtain⟨ns,rfl⟩:=items_int h3
 have hlen:ns.length<=n:=by
  unfold OpenLaw.pre at hc
  have h4:(WTm.not (.lt (.lit (.int (n:Int))) (.len (.arg 0)))).holds [] {args:=[.list (ns.map .int)]}=true:=by
   have h4:=(holds_andW hc).1
   rw[hn]at h4
   exact h4
  have h5:=condW_of h4 (w_not (w_lt w_lit (w_len_list (w_arg rfl))))
  rw[aak]at h5
  refine Nat.le_of_not_lt λq=>?_
  have q':(n:Int)<((ns.length:Nat):Int):=by omega
  first
   | (rw[aaq q']at h5;exact absurd h5 'c')
   | (simp at h5;omega)
 cases hwl with
 |cons w1 w2 =>
  cases w2
  cases w1 with
  |list ho hall=>exact⟨_,_,ns,rfl,rfl,ho,uX ns _ hall,hlen⟩
theorem HN(l:OpenLaw)(args:List WData):l.row.toRowW.claim.post args (.bool true) args=true :=
 postW_of (r:=l.row.toRowW) (X:=(true==true))
  (show WShape.has [] (.bool true) .bool=true by first|rfl|decide|simp[WShape.has,WShape.arms,WShape.armsAll])
  (show(WTm.eq .res (.lit (.bool true))).value [] {args:=args,res:=some (.bool true),after:=args}=some (.bool (true==true)) from w_eq_bool (w_res rfl) w_lit) rfl
theorem Cb{l:OpenLaw}{n:Nat}{q:Program}{loose:List Str}{XP:(Str->Option Value)->Heap->Prop}{YP:World->Heap->Prop}{d:DefRec}(hn:l.most=some n)(hdf:d.params.defaults=[])(call:∀(w:World)(s₀ s₁:Shared)(mg mb:Str->Option Value)(fa:Addr)(o:Obj)(pm cd doc:Value)(a:Addr)(vs:List Value)(ns:List Int),Ground q loose [] XP w s₀ mg mb s₁.heap->YP w s₁.heap->s₁.heap.get? fa=some o->o.data=.func (docDef d.name d.params d.body d.scope pm cd doc)->s₁.heap.CodeRec cd d.name->mg d.name=some (.ref fa)->s₁.heap.get? a=some {cls:=.type "list",data:=.seq vs.toArray}->IntsAre vs ns->ns.length<=n->s₁.gens = #[]->codeAny (model l.prog w) callerA (.call (.ref fa) ⟨[.ref a],[]⟩) (λr s'=>r=.ok (.ret (.bool true))/\OldK s₁.heap s'.heap/\s'.os=s₁.os/\AllBare s'.gens) s₁):WalkO q loose XP YP l.row.toRowW d [] (λf vs=>PySem.call f vs):=by
 intro w s₀ s₁ mg mb G Y fa o pm cd doc dV kV ho hd hcd hD hmg hg args vals as hpre hlay hrd hwl hlo
 obtain rfl:dV=.none:=Dflts.none hD hdf
 obtain rfl:kV=.none:=Dflts.noKw hD
 obtain⟨a,vs,ns,rfl,rfl,hobj,hints,hlen⟩:=HM hn hpre hwl
 refine enter_call (codeAny_mono (call w s₀ s₁ mg mb fa o pm cd doc a vs ns G Y ho (fd_plain hd) hcd hmg hobj hints hlen hg) λr s' hq=>?_)
 obtain⟨rfl,h2,h3,h4⟩:=hq
 exact⟨.inl ⟨.bool true,.bool true,[],rfl,λ_=>rfl,.bool true,HN l _,λ_=>⟨List.Pairwise.nil,λ_ hm=>(nomatch hm)⟩⟩,h2,h3,h4⟩
section
variable{prog:Program}{w:World}{A:Around}{E:Value->Shared->Prop}{s:Shared}{K:Frag}
end
end Att
namespace L2
open PySem PySem.Spec PyProof.Rows
theorem zw:∀{vs:List Value}{ns:List Int},IntsAre vs ns->Vals (ns.map V.int) vs
 |_,_,.nil=>.nil
 |_,_,.cons n t h=>.cons ⟨t,rfl⟩ (zw h)
def PX(H:Hp):Prop:=∀b,H b=none\/∃o xs,H b=some (.DZ o (.lst xs))
theorem KL{P:Program}{w:World}{K:W.Frag}{mg mb:Str->Option Value}{CX:HK}{k:Nat}{fa a:Addr}{fd:FuncData}{x:Str}{sp:Sp}{s₁:Shared}{vs:List Value}{ns:List Int}(KX:K.In s₁.heap)(hns:s₁.heap.Ns mainGlobals mg)(hb:s₁.heap.Ns builtinsNs mb)(hbb:∀x:Str,x ≠ "__name__"->mb x=bootBuiltins x)(hlim:s₁.heap.NoLimit)(hg:s₁.gens = #[])(ha:s₁.heap.get? a=some {cls:=.type "list",data:=.seq vs.toArray})(hi:IntsAre vs ns)(hl:ns.length<=sizeLine)(hr:cM k callerA)(F:∀base:Heap,K.In base->base.Ns mainGlobals mg->bx P w K mg base CX k fa fd [x] sp)(hbind:∀(s:Shared)(u:Value),BindsTo s fd ⟨[u],[]⟩ [(x,u)])(Ed:∀H:Hp,PX H->aM K H a (ns.map V.int)->sp [.ref a] H (λv _=>v=.bl true) λ_ _ _=>False)(VL:∀H e s',CX [] H s₁ (λ_ _ _=>False) e s'->False):codeAny (model P w) callerA (.call (.ref fa) ⟨[.ref a],[]⟩) (λr s'=>r=.ok (.ret (.bool true))/\OldK s₁.heap s'.heap/\s'.os=s₁.os/\AllBare s'.gens) s₁:=by
 have rv:=zw hi
 have VM:=hi.length
 have core:∀H:Hp,PX H->aM K H a (ns.map V.int)->sP P w H s₁.heap->(∀b,H b≠none->b=a)->(H a≠none->K.lookup a=none)->codeAny (model P w) callerA (.call (.ref fa) ⟨[.ref a],[]⟩) (λr s'=>r=.ok (.ret (.bool true))/\OldK s₁.heap s'.heap/\s'.os=s₁.os/\AllBare s'.gens) s₁:=by
  intro H hO hS hok hA hK
  have GU:∀{b:Addr}{o:Obj},s₁.heap.get? b=some o->H b=none->(zX s₁.heap H).get? b=some o:=λe n=>Kh e n
  have SD:∀{b:Addr}{o:Obj}{es:Array DictEntry}{ep:Nat},s₁.heap.get? b=some o->o.data=.dict es ep->H b=none:=λ{b o es ep} e d=>by
   cases q:H b with
   |none=>rfl
   |some u =>
    have e':b=a:=hA b (by rw[q];simp)
    subst e'
    rw[ha]at e;cases e
    have d':Data.seq vs.toArray _=Data.dict es ep:=d
    cases d'
  have UP:∀{b:Addr}{m:Str->Option Value},s₁.heap.Ns b m->(zX s₁.heap H).Ns b m:=λ{b m} ⟨o,es,ep,e,d,r⟩=>⟨o,es,ep,GU e (SD e d),d,r⟩
  have YS:K.In (zX s₁.heap H):=λb o e=>GU (KX b o e) (by
   cases q:H b with
   |none=>rfl
   |some u =>
    have e':b=a:=hA b (by rw[q];simp)
    subst e'
    rw[hK (by rw[q];simp)]at e;cases e)
  have hM:Mod K mg (zX s₁.heap H):=⟨YS,UP hns,⟨mb,UP hb,hbb⟩,let ⟨mc,h1,h2⟩:=hlim;⟨mc,UP h1,h2⟩⟩
  have e0:uW P w K mg (zX s₁.heap H) callerA [] s₁ H:=⟨rfl,hM,λb o e=>MY e,Nat.le_of_eq (HC _ _),trivial,λb hb=>absurd (show b∈([]:List Addr) from hb) (by simp),hok,.of_eq hg⟩
  refine codeAny_mono ((F _ YS (UP hns)).run callerA [] s₁ H ⟨[.ref a],[]⟩ [.ref a] [.ref a] _ _ hr e0 (hbind s₁ (.ref a)) (.cons rfl .nil) (Ed H hO hS)) λr s' h=>?_
  cases r with
  |error e=>exact(VL H e s' h).elim
  |ok fl =>
   cases fl with
   |next=>exact False.elim h
   |brk=>exact False.elim h
   |cont=>exact False.elim h
   |ret u =>
    obtain⟨v,H',os,bare,un,VN,r',q⟩:=h
    have q':v=.bl true:=q
    subst q'
    obtain rfl:u=Value.bool true:=r'
    refine⟨O,OldK.of_keep λb o e=>?_,os,bare⟩
    cases q:H b with
    |none=>exact un.keep b o e q (by intro z;exact absurd (show b∈([]:List Addr) from z) (by simp)) (by simp)
    |some u =>
     rcases hO b with z|⟨ob,xs,z⟩
     ·rw[q]at z;cases z
     ·have z2:=un.oE b ob _ z
      obtain⟨e1,_⟩:=hok b _ z
      obtain⟨e2,_⟩:=VN b _ z2
      rw[e]at e1;cases e1
      exact e2
 cases hk:K.lookup a with
 |some o =>
  have e:=KX a o hk
  rw[ha]at e
  cases e
  refine core (λ_=>none) (λ_=>.inl rfl) (.inr ⟨_,vs.toArray,_,hk,rfl,rfl,rfl,by rw[aam,VM];exact hl,by simpa using rv⟩) (λb u z=>by have z':(none:Option HO)=some u:=z;cases z') (λb z=>absurd rfl z) λz=>absurd rfl z
 |none =>
  refine core (λb=>if b=a then some (.DZ {cls:=.type "list",data:=.seq vs.toArray} (.lst (ns.map V.int))) else none) (λb=>?_) (.inl (.inr ⟨{cls:=.type "list",data:=.seq vs.toArray},aal rfl⟩)) (λb u z=>?_) (λb z=>?_) λ_=>hk
  ·by_cases hb:b=a
   ·exact .inr ⟨_,_,aal hb⟩
   ·exact .inl (aag hb)
  ·by_cases hb:b=a
   ·have z':=(aal hb).symm.trans z
    cases z'
    subst hb
    exact⟨ha,by rw[aak];exact hl,vs,_,rv,ha⟩
   ·have z':=(aag hb).symm.trans z
    cases z'
  ·by_cases hb:b=a
   ·exact hb
   ·exact absurd (aag hb) z
theorem Nk{l:W.OpenLaw}{n k:Nat}{q:Program}{loose:List Str}{XP:(Str->Option Value)->Heap->Prop}{YP:World->Heap->Prop}{d:DefRec}{K:Params->W.Frag}{CX:World->HK}{sp:World->Sp}{x:Str}(hn:l.most=some n)(hn2:n<=sizeLine)(hdf:d.params.defaults=[])(hr:cM k callerA)(hY:∀(w:World)(h:Heap),YP w h->(K w.params).In h)(F:∀(w:World)(mg:Str->Option Value)(fa:Addr)(h:Heap),(K w.params).In h->h.Ns mainGlobals mg->mg d.name=some (.ref fa)->∃fd:FuncData,(∀(s:Shared)(u:Value),BindsTo s fd ⟨[u],[]⟩ [(x,u)])/\∀base:Heap,(K w.params).In base->base.Ns mainGlobals mg->bx l.prog w (K w.params) mg base (CX w) k fa fd [x] (sp w))(Ed:∀(w:World)(H:Hp)(a:Addr)(ns:List Int),ns.length<=n->PX H->aM (K w.params) H a (ns.map V.int)->sp w [.ref a] H (λv _=>v=.bl true) λ_ _ _=>False)(VL:∀(w:World)(H:Hp)(s:Shared)(e:Value)(s':Shared),CX w [] H s (λ_ _ _=>False) e s'->False):W.WalkO q loose XP YP l.row.toRowW d [] (λf vs=>PySem.call f vs):=by
 refine Att.Cb hn hdf λw s₀ s₁ mg mb fa o pm cd doc a vs ns G Y ho hd hcd hmg hobj hints hlen hg=>?_
 have KX:=hY w _ Y
 obtain⟨fd,hb,hF⟩:=F w mg fa _ KX G.T.g hmg
 exact KL KX G.T.g G.T.b G.T.builtins G.T.nolimit hg hobj hints (aay hlen hn2) hr hF hb (λH hO hS=>Ed w H a ns hlen hO hS) λH e s'=>VL w H s₁ e s'
def inClass(s:Stmt)(j:Nat):Stmt:=match s with
 | .ClassDef _ _ _ body _ _ _ _ _ _ _=>body.getD j (.Pass ⟨0,0,0,0⟩)
 |_=>.Pass ⟨0,0,0,0⟩
def cY(s:Stmt):Arguments:=match s with
 | .FunctionDef _ a _ _ _ _ _ _ _ _=>a
 |_=>{posonlyargs:=[],args:=[],vararg:=none,kwonlyargs:=[],kw_defaults:=[],kwarg:=none,defaults:=[]}
def bZ(s:Stmt):List Stmt:=match s with
 | .FunctionDef _ _ b _ _ _ _ _ _ _=>b
 |_=>[]
def au(s:Stmt):Scope:=match s with
 | .FunctionDef _ _ _ _ _ _ sc _ _ _=>sc
 |_=>{kind:=.function,names:=[],isGenerator:=false,isCoroutine:=false}
abbrev fu:HK:=λ_ _ _ _ _ _=>False
abbrev E0:XK:=λ_ _ _=>False
theorem Cd{X:Cx}:Passes fu X E0:=λ_ _ _ _ _ _ _ h=>h.elim
structure eY(K:W.Frag)(x qual:Str)(st:Stmt)(f:Addr)(fd:FuncData):Prop where
 ex:∃(oc:Value)(od:Option Addr)(kV doc pm:Value)(an:Option Addr)(cdv ct:Value)(osl:Array (Option Value)),fd=W.fnOf x qual (cY st) (bZ st) (au st) .none kV doc pm an cdv ct/\K.lookup f=some ⟨oc,od,.func fd,osl⟩/\W.codeIn K cdv qual=true
 kp:W.keepIn K (.ref f)=true
section
variable{P:Program}{w:World}{K:W.Frag}{mg:Str->Option Value}{base:Heap}
theorem eY.ok{x qual:Str}{st:Stmt}{f:Addr}{fd:FuncData}{N ps:List Str}{k:Nat}{sp:Sp}(F:eY K x qual st f fd)(S:aF N ps (au st))(len:∀vs H Q E,sp vs H Q E->vs.length=ps.length)(hbody:∀(cdv:Value)(A:Around)(outer:List Env)(s:Shared)(H:Hp)(vs:List V)(Q:VK)(E:XK),cM k (A.deeper (envOfC qual (au st) s.heap.objs.size f cdv))->sp vs H Q E->∃t,BV (oH fu P w K mg base N qual (au st) f cdv A outer s H E).Pp (bZ st) t/\t {nx:=λ_ H'=>Q .non H',rt:=Q} (start N vs) H):bx P w K mg base fu (k+1) f fd ps sp:=by
 obtain⟨oc,od,kV,doc,pm,an,cdv,ct,osl,rfl,lk,hcd⟩:=F.ex
 refine KD lk hcd S len λA outer s H vs Q E hr Ed=>?_
 obtain⟨t,h,q⟩:=hbody cdv A outer s H vs Q E hr Ed
 exact⟨t,h.Pp,q⟩
theorem eY.binds{x qual:Str}{st:Stmt}{f:Addr}{fd:FuncData}{ps:List Str}(F:eY K x qual st f fd)(h:∀(kV doc pm:Value)(an:Option Addr)(cdv ct:Value)(us:List Value),us.length=ps.length->bindArgs (W.fnOf x qual (cY st) (bZ st) (au st) .none kV doc pm an cdv ct) ⟨us,[]⟩=pure (ps.zip us)):Binds K fd ps []:=by
 obtain⟨oc,od,kV,doc,pm,an,cdv,ct,osl,rfl,lk,hcd⟩:=F.ex
 exact .all (h kV doc pm an cdv ct)
theorem KN{x qual:Str}{st:Stmt}{f:Addr}{oc:Value}{od an:Option Addr}{osl:Array (Option Value)}{kV doc pm cdv ct:Value}(l:K.lookup f=some ⟨oc,od,.func (W.fnOf x qual (cY st) (bZ st) (au st) .none kV doc pm an cdv ct),osl⟩)(c:W.codeIn K cdv qual=true)(k:W.keepIn K (.ref f)=true):eY K x qual st f (W.fnOf x qual (cY st) (bZ st) (au st) .none kV doc pm an cdv ct):=⟨⟨oc,od,kV,doc,pm,an,cdv,ct,osl,rfl,l,c⟩,k⟩
end
theorem bz{A:Around}{k:Nat}(hr:cM k A):A.units+1<cLine:=aaD (Nat.add_le_add_left (by decide:1<=64) _) hr.units
section
variable{X:Cx}
theorem pv(i:Nat){x:Str}{pos:Pos}(hN:X.N[i]?=some x:=by rfl)(hv:Vl X.env.scope x:=by first|exact Or.inl rfl|exact Or.inr (Or.inl rfl)|exact Or.inr (Or.inr rfl))(hd:(x==("__debug__":Str))=false:=by decide)(hcd:(x==("__classdict__":Str))=false:=by decide):PE X (.Name x pos) (M1 i):=Po hN hv hd hcd
end
theorem bS{A B:Prop}(h:B):if false=true then A else B:=by
 rw[aag aaw]
 exact h
theorem dh{A B:Prop}(h:A):if true=true then A else B:=by
 rw[aal rfl]
 exact h
theorem bP{c A B:Prop}[Decidable c](h1:c->A)(h2:¬c->B):if c then A else B:=by
 by_cases h:c
 ·rw[aal h]
  exact h1 h
 ·rw[aag h]
  exact h2 h
theorem SJ{c A B:Prop}[Decidable c](hc:c)(h:B):if (!decide c)=true then A else B:=by
 rw[aaq hc]
 exact bS h
def aC(H H':Hp):Prop:=∀b o,H b=some o->H' b=some o
theorem aC.refl(H:Hp):aC H H:=λ_ _ h=>h
theorem aC.trans{H H1 H2:Hp}(a:aC H H1)(b:aC H1 H2):aC H H2:=λc o h=>b c o (a c o h)
theorem aC.free{H H':Hp}(e:aC H H'){l:Addr}(h:H' l=Option.none):H l=Option.none:=by
 cases q:H l with
 |none=>rfl
 |some o =>
  rw[e l o q]at h
  cases h
theorem aC.seq{K:W.Frag}{H H':Hp}{a:Addr}{xs:List V}(e:aC H H')(h:aM K H a xs):aM K H' a xs:=by
 rcases h with (h|⟨o,h⟩)|h
 ·exact .inl (.inl (e _ _ h))
 ·exact .inl (.inr ⟨o,e _ _ h⟩)
 ·exact .inr h
end L2
set_option maxHeartbeats 4000000
namespace L2
open PySem PySem.Spec PyProof.Rows
def dY(env:Env):List (Str×NameKind)->List (Str×Addr)->List (Str×Addr)
 |[],cs=>cs
 | (n,k)::r,cs=>dY env r (if k==.free then (n,(env.cells.lookup n).getD 0)::cs else cs)
theorem jD{scope:Scope}{env:Env}(h:∀n,(n,NameKind.free)∈scope.names->∃c,env.cells.lookup n=some c):closureFor scope env=pure (dY env scope.names []):=by
 simp only[closureFor]
 have key:∀(l:List (Str×NameKind))(cs:List (Str×Addr)),(∀n,(n,NameKind.free)∈l->∃c,env.cells.lookup n=some c)->(forIn l cs (λx r=>if (x.2==NameKind.free)=true then (cellOf env x.1 >>= λa=>pure (ForInStep.yield ((x.1,a)::r))) else pure (ForInStep.yield r)):Sem (List (Str×Addr)))=pure (dY env l cs):=by
  intro l
  induction l with
  |nil=>intro cs _;rfl
  |cons x l ih =>
   intro cs hl
   obtain⟨n,k⟩:=x
   have hl':∀n,(n,NameKind.free)∈l->∃c,env.cells.lookup n=some c:=λn hn=>hl n (aax _ hn)
   rw[List.forIn_cons]
   by_cases hk:k=.free
   ·subst hk
    obtain⟨c,hc⟩:=hl n aaC
    have e1:cellOf env n=pure c:=by unfold cellOf;rw[hc]
    simp only[beq_self_eq_true,if_true,e1,pure_bind]
    rw[ih _ hl']
    simp only[dY,beq_self_eq_true,if_true,hc,Option.getD_some]
   ·have hb:(k==NameKind.free)=false:=by simpa using hk
    simp only[hb,abj,if_false,pure_bind]
    rw[ih _ hl']
    simp only[dY,hb,abj,if_false]
 exact(congrArg (λz=>z >>= λr=>pure r) (key scope.names [] h)).trans rfl
theorem kH{env:Env}:∀(l:List (Str×NameKind))(cs:List (Str×Addr)),(∀n,(n,NameKind.free)∈l->∃c,env.cells.lookup n=some c)->(∀x c,cs.lookup x=some c->env.cells.lookup x=some c)->∀x c,(dY env l cs).lookup x=some c->env.cells.lookup x=some c
 |[],cs,_,h,x,c,e=>h x c e
 | (n,k)::r,cs,hl,h,x,c,e=>by
  refine kH r _ (λn hn=>hl n (aax _ hn)) ?_ x c e
  intro y d hy
  by_cases hk:(k==NameKind.free)=true
  ·rw[aal hk]at hy
   have hk':k=.free:=by simpa using hk
   subst hk'
   obtain⟨c',hc'⟩:=hl n aaC
   rw[hc',Option.getD_some,abt]at hy
   cases VO:y==n with
   |true =>
    rw[VO]at hy
    have:y=n:=by simpa using VO
    subst this
    rw[hc'];exact hy
   |false=>rw[VO]at hy;exact h y d hy
  ·rw[aag hk]at hy;exact h y d hy
theorem mE{env:Env}:∀(l:List (Str×NameKind))(cs:List (Str×Addr))(x:Str),((x,NameKind.free)∈l\/∃c,cs.lookup x=some c)->∃c,(dY env l cs).lookup x=some c
 |[],cs,x,h=>by
  rcases h with h|h
  ·cases h
  ·exact h
 | (n,k)::r,cs,x,h=>by
  refine mE r _ x ?_
  rcases h with h|⟨c,h⟩
  ·rcases aat.mp h with e|h
   ·cases e
    refine .inr ⟨(env.cells.lookup n).getD 0,?_⟩
    simp[abt]
   ·exact .inl h
  ·right
   by_cases hk:(k==NameKind.free)=true
   ·rw[aal hk,abt]
    cases x==n with
    |true=>exact⟨_,rfl⟩
    |false=>exact⟨c,h⟩
   ·rw[aag hk];exact⟨c,h⟩
theorem iD{env:Env}(x:Str):∀(names:List (Str×NameKind)),(names.map λ(n,k)=>if (k==NameKind.free&&env.scope.kind==.function&&env.kindOf n==some .cell) then (n,NameKind.cell) else (n,k)).lookup x =
   (names.lookup x).map λk=>if (k==NameKind.free&&env.scope.kind==.function&&env.kindOf x==some .cell) then NameKind.cell else k
 |[]=>rfl
 | (n,k)::r=>by
  have ih:=iD (env:=env) x r
  show List.lookup x ((if (k==NameKind.free&&env.scope.kind==.function&&env.kindOf n==some .cell)=true then (n,NameKind.cell) else (n,k))::_)=_
  cases hx:x==n with
  |true =>
   have e:x=n:=by simpa using hx
   subst e
   by_cases hc:(k==NameKind.free&&env.scope.kind==.function&&env.kindOf x==some .cell)=true
   ·rw[aal hc];simp only[abt,beq_self_eq_true,abz,aal hc]
   ·rw[aag hc];simp only[abt,beq_self_eq_true,abz,aag hc]
  |false =>
   by_cases hc:(k==NameKind.free&&env.scope.kind==.function&&env.kindOf n==some .cell)=true
   ·rw[aal hc];simp only[abt,hx];exact ih
   ·rw[aag hc];simp only[abt,hx];exact ih
structure aT(XN:List Str)(RN:Scope)(N:List Str)(nv:Nat)(js:List Nat)(scope:Scope):Prop where
 kind:scope.kind=.function
 cell:∀y∈scope.names,y.2≠.cell
 loc:∀y∈scope.names,y.2=.local->scope.names.lookup y.1=some .local
 free:∀y∈scope.names,y.2=.free->(RN.names.lookup y.1=some .cell\/RN.names.lookup y.1=some .free)
 nd:N.Nodup
 len:N.length=nv+js.length
 pl:js.map (λj=>XN[j]?)=(N.drop nv).map some
 fr:∀x∈N.drop nv,scope.names.lookup x=some .free
abbrev cO(X:Cx)(N:List Str)(scope:Scope)(C:Addr)(s:Shared)(H:Hp)(fp:List Addr):Cx where
 prog:=X.prog
 w:=X.w
 K:=X.K
 mg:=X.mg
 base:=X.base
 A:=X.A
 N:=N
 s₀:=s
 H₀:=H
 env:=compEnvC scope (dY X.env scope.names []) C X.env
 outer:=X.stack
 stack:=X.stack
 ex:=fp
 fn:=λ_=>false
 calm:=X.calm
 pn:=[]
 xe:=λ_ _=>False
def qi(nv:Nat)(js:List Nat)(σ:St):St:=List.replicate nv none++js.map λj=>(σ[j]?).getD none
section
variable{X:Cx}{pins:List 'g'}{σ:St}{H:Hp}{s:Shared}
theorem wk{N:List Str}{nv:Nat}{js:List Nat}{scope:Scope}{fp:List Addr}{h1:Heap}{tk:Nat}(I:Inv X pins σ H s)(S:aT X.N X.env.scope N nv js scope)(hf:∀b∈fp,jC X pins H b)(hfl:∀b∈fp,b<s.heap.objs.size)(keep:∀b o,s.heap.get? b=some o->h1.get? b=some o)(ns:h1.Ns s.heap.objs.size λ_=>none):Inv (cO X N scope s.heap.objs.size s H fp) [] (qi nv js σ) H {s with heap:=h1,toks:=tk}:=by
 have hfr:∀n,(n,NameKind.free)∈scope.names->∃c,X.env.cells.lookup n=some c:=λn hn=>I.ok.has n (S.free _ hn rfl)
 have sub:∀x c,(dY X.env scope.names []).lookup x=some c->X.env.cells.lookup x=some c:=kH scope.names [] hfr (λx c z=>by cases z)
 have PY:∀x,scope.names.lookup x≠some .cell:=λx z=>S.cell _ (aa4 z) rfl
 have VP:∀x,(relabel scope X.env).names.lookup x=some .cell\/(relabel scope X.env).names.lookup x=some .free->scope.names.lookup x=some .free:=by
  intro x hx
  have e:=iD (env:=X.env) x scope.names
  have hx':(relabel scope X.env).names.lookup x=_:=e
  rw[hx']at hx
  cases q:scope.names.lookup x with
  |none=>rw[q]at hx;rcases hx with hx|hx<;>cases hx
  |some k =>
   rw[q,abz]at hx
   cases k<;>first|rfl | (exact absurd q (PY x)) | (exfalso;rcases hx with hx|hx<;>simp at hx)
 refine⟨⟨I.ok.mod,S.kind,I.ok.glob,I.ok.blt,aan _,λx y c h1 h2=>I.ok.inj x y c (sub _ _ h1) (sub _ _ h2),λx hx=>?_,λx c z=>(by cases z),I.ok.hd,I.ok.frames,.inl rfl,λb hb=>?_,λb o e=>?_,?_,λb o e hb=>?_,λb hb z=>?_,I.stack,I.zY⟩,O,I.bare,Un.kept keep,⟨_,ns,λi x v e1 e2 e3=>?_⟩,λx c e=>?_,I.hok.fresh (aan _),λx c e=>I.gJ x c (sub _ _ e),λp hp=>absurd (show p∈([]:List 'g') from hp) (by simp),I.hok.kept keep,?_⟩
 ·exact mE _ _ _ (.inl (aa4 (VP x hx)))
 ·obtain⟨f0,f1,f2,f3,f4,f5⟩:=hf b hb
  exact⟨aaH (hfl b hb),λx c e=>f4 x c (sub x c e)⟩
 ·exact I.bs b o e
 ·exact aay I.ok.HD I.sz
 ·obtain⟨f0,f1,f2,f3,f4,f5⟩:=hf b hb
  rcases f3 with z|z
  ·exact I.ok.D0 b o e z
  ·exact absurd (aav (aao e) (aay I.ok.HD z)) (Nat.lt_irrefl _)
 ·obtain⟨f0,f1,f2,f3,f4,f5⟩:=hf b hb
  rcases aat.mp (I.sR b z) with q|q
  ·exact f1 q
  ·exact f2 q
 ·
  have hi:¬i<nv:=λhlt=>by
   unfold qi at e2
   rw[List.getElem?_append_left (by simpa using hlt),List.getElem?_replicate,aal hlt]at e2
   cases e2
  obtain⟨k,rfl⟩:∃k,i=nv+k:=⟨i-nv,by omega⟩
  unfold qi at e2
  rw[List.getElem?_append_right (by simp),List.length_replicate,Nat.add_sub_cancel_left,aaW]at e2
  cases hj:js[k]? with
  |none=>rw[hj]at e2;cases e2
  |some j =>
   rw[hj,abz]at e2
   have UQ:(σ[j]?).getD none=some v:=aah e2
   have hσ:σ[j]?=some (some v):=by
    cases q:σ[j]? with
    |none=>rw[q]at UQ;cases UQ
    |some z=>rw[q]at UQ;exact congrArg some UQ
   have hd:(N.drop nv)[k]?=some x:=by rw[List.getElem?_drop];exact e1
   have hX:X.N[j]?=some x:=by
    have q:=congrArg (λl=>l[k]?) S.pl
    simp only[aaW,hj,hd,abz]at q
    exact aah q
   have hfx:=S.fr x (aau hd)
   have kx:=S.free _ (aa4 hfx) rfl
   obtain⟨m,_,hl⟩:=I.loc
   obtain⟨u,r,l⟩:=hl j x v hX hσ (.inr kx)
   refine⟨u,r,?_⟩
   rcases l with ⟨k1,_⟩|⟨_,c,hc,hcell⟩
   ·exfalso
    have YT:X.env.scope.names.lookup x=some .local:=k1
    rcases kx with z|z<;>(rw[YT]at z;cases z)
   ·obtain⟨c',hc'⟩:=mE (env:=X.env) scope.names [] x (.inl (aa4 hfx))
    have e:=sub _ _ hc'
    rw[hc]at e;cases e
    refine .inr ⟨?_,c,hc',hcell.keeps keep⟩
    have e:=iD (env:=X.env) x scope.names
    have e':(relabel scope X.env).names.lookup x=_:=e
    rw[hfx,abz]at e'
    show(relabel scope X.env).names.lookup x=some .cell\/(relabel scope X.env).names.lookup x=some .free
    rw[e']
    split
    ·exact .inl rfl
    ·exact .inr rfl
 ·obtain⟨v,q⟩:=I.cell x c (sub _ _ e)
  exact⟨v,q.keeps keep⟩
 ·unfold qi
  show _=N.length
  rw[aaJ,List.length_replicate,aak,S.len]
end
def Aj(X:Cx)(ifs:List Expr)(t:TT):Prop :=
 ∀(pins:List 'g')(s:Shared)(σ:St)(H:Hp)(Q:Bool->Hp->Prop),Inv X pins σ H s->t σ H Q->wpAny 'd' X.A (forIn ifs true λc r=>if r=true then do let ok ←isTrue c X.env (eval c X.env);pure (ForInStep.yield ok) else pure (ForInStep.yield r)) (TP X pins σ Q) X.xe s
def KO:TT:=λ_ H Q=>Q true H
theorem cJ{X:Cx}:Aj X [] KO:=λ_ _ _ H _ I h=>wpAny_tests_nil ⟨H,I,h⟩
theorem Nl{X:Cx}{c:Expr}{t:TT}(h:PT X c t):Aj X [c] t:=λpins s σ H Q I q=>wpAny_tests_one (h pins s σ H Q I q)
def qQ(J:It)(g:TG)(tt:TT)(te:TE)(Q:VK)(D:Addr)(τ:St)(H:Hp):Prop :=
 ∃W:Nat->Nat->List V->St->Hp->Prop,(∃m,W 0 m [] τ (upd H D (.lst [])))/\∀i m ys τ H,W i m ys τ H->H D=some (.lst ys)/\((J.stop i H/\Q (.ref D) H)\/(J.go i H/\∃N:List V->St->Hp->Prop,(∀zs σ' H',N zs σ' H'->∃m',m'<m/\W (i+1) m' zs σ' H')/\∀x H',J.J4 i H x H'->g x τ H' λτ2 H2=>tt τ2 H2 λb H3 =>
   if b=true then te τ2 H3 λy H4=>H4 D=some (.lst ys)/\ys.length<sizeLine/\N (ys++[y]) τ2 (upd H4 D (.lst (ys++[y])))
   else N ys τ2 H3))
def KP(wi:TI)(g:TG)(tt:TT)(te:TE)(nv:Nat)(js:List Nat):TE:=λσ H Q=>wi σ H λJ H1=>∀D,H1 D=none->qQ J g tt te Q D (qi nv js σ) H1
theorem wm{prog:Program}{w:World}{A:Around}{R:Result->Shared->Prop}{s:Shared}{elt target iter:Expr}{ifs:List Expr}{scope:Scope}{pos:Pos}{it acc:Value}{env:Env}(I:Nat->Shared->Prop)(turn:∀n s,I n s->wpAny (model prog w) A (pyNext it) (λr s₁=>match r with
   |none=>R (.ok .next) s₁
   |some v=>wpAny (model prog w) A (letOwnedTupleGo target it v) (λ_ s₁'=>wpAny (model prog w) A (assign target env v) (λ_ s₂ =>
     wpAny (model prog w) A (forIn ifs true λc r=>if r=true then do let ok ←isTrue c env (eval c env);pure (ForInStep.yield ok) else pure (ForInStep.yield r)) (λok s₃ =>
      if ok=true then wpAny (model prog w) A (eval elt env) (λx s₄ =>
       wpAny (model prog w) A (call (.builtin "list.append") [acc,x]) (λ_ s₅=>∃m,m<n/\I m s₅) (λ_ _=>False) s₄) (λ_ _=>False) s₃
      else ∃m,m<n/\I m s₃) (λ_ _=>False) s₂) (λ_ _=>False) s₁') (λ_ _=>False) s₁) (λ_ _=>False) s)(n:Nat)(h:I n s):codeAny (model prog w) A (.compLoop (.ListComp elt [⟨target,iter,ifs,0⟩] scope pos) 0 it acc env) R s:=by
 refine codeAny_loop rfl I (λn s hI=>?_) n h
 show wpAny _ A ((compTurn (.ListComp elt [⟨target,iter,ifs,0⟩] scope pos) 0 it acc env).onRaise (λx=>do noteFrame x env;theTreesLotGoes x)) _ _ s
 refine wpAny_noted (aa1 (E:=λ_ _=>False) ?_ (λ_ _ q=>q) λ_ _ q=>q.elim)
 rw[compTurn_list]
 refine aaf (wpAny_standAt (aaf (aa1 (turn n s hI) (λr s₁ h₁=>?_) λ_ _ h'=>h')))
 cases r with
 |none=>exact aar h₁
 |some v =>
  refine aaf (aa1 h₁ (λ_ s₁' h₁'=>?_) λ_ _ h'=>h')
  refine aaf (aa1 h₁' (λ_ s₂ h₂=>aaf (aa1 h₂ (λok s₃ h₃=>?_) λ_ _ h'=>h')) λ_ _ h'=>h')
  cases ok with
  |false=>exact aar ⟨rfl,h₃⟩
  |true =>
   exact aaf (aaf (aa1 h₃ (λx s₄ h₄=>aaf (aa1 h₄ (λ_ s₅ h₅=>aar (aar ⟨rfl,h₅⟩)) λ_ _ h'=>h')) λ_ _ h'=>h'))
section
variable{X:Cx}{elt tg iter:Expr}{ifs:List Expr}{scope:Scope}{pos:Pos}{N:List Str}{nv:Nat}{js:List Nat}{wi:TI}{g:TG}{tt:TT}{te:TE}
theorem wo{pins:List 'g'}{σ:St}{H:Hp}{s:Shared}{Q:VK}{it:Addr}{fp:List Addr}{tn:Nat->Heap->Prop}{J:It}{E:Value->Shared->Prop}{RR:Value->Addr->Result->Shared->Prop}(hc:X.calm=true)(S:aT X.N X.env.scope N nv js scope)(hg:∀C s H fp,PG (cO X N scope C s H fp) tg g)(ht:∀C s H fp,Aj (cO X N scope C s H fp) ifs tt)(he:∀C s H fp,PE (cO X N scope C s H fp) elt te)(I:Inv X pins σ H s)(T:Turn X.prog X.w X.K tg J fp it tn)(st:tn 0 s.heap)(hf:∀b∈fp,jC X pins H b)(hR:∀D,H D=none->qQ J g tt te Q D (qi nv js σ) H)(hRR:∀D C H' s' m,Inv X pins σ H' s'->jC X pins H' C->s'.heap.Ns C m->Q (.ref D) H'->RR (.ref D) C (.ok .next) s'):wpAny 'd' X.A (newList []) (λacc s₃=>wpAny 'd' X.A (newFunctionEnv scope X.env.globals (dY X.env scope.names []) [] X.env.qual none .none (some X.env)) (λcenv s₄ =>
   codeAny 'd' X.A (.compStart (.ListComp elt [⟨tg,iter,ifs,0⟩] scope pos) 0 (.ref it) acc {cenv with scope:=relabel scope X.env}) (RR acc cenv.locals) s₄) E s₃) E s:=by
 refine wpAny_newObj_type (wpAny_newFunctionEnv S.cell (by intro y hy;simp at hy) (λh₁ wu wz=>?_) S.kind)
 have I3:Inv X pins σ (upd H s.heap.objs.size (.lst [])) {s with heap:=s.heap.push {cls:=.type "list",data:=.seq ([]:List Value).toArray}}:=I.PU (t':=s.toks) (its:=[]) .nil (aaY _)
 have hD:=I.fresh
 obtain⟨W,⟨m0,w0⟩,turn⟩:=hR s.heap.objs.size hD
 have ho:=T.obj 0 s.heap st
 have KQ:∀b∈fp,b<s.heap.objs.size:=λb hb=>let ⟨o,e,_⟩:=ho b hb;aao e
 have Eh:∀b∈fp,jC X pins (upd H s.heap.objs.size (.lst [])) b:=λb hb=>⟨by rw[aB (aaH (KQ b hb))];exact(hf b hb).1,(hf b hb).2⟩
 generalize SK:({s with heap:=s.heap.push {cls:=.type "list",data:=.seq ([]:List Value).toArray}}:Shared)=s3 at I3 wu wz
 have e3:s3.heap=s.heap.push {cls:=.type "list",data:=.seq ([]:List Value).toArray}:=by rw[←SK]
 have hfl:∀b∈fp,b<s3.heap.objs.size:=λb hb=>by rw[e3,aa5];exact Nat.lt_succ_of_lt (KQ b hb)
 have keep:∀b o,s3.heap.get? b=some o->h₁.get? b=some o:=λb o e=>wz.extBut b o (aaH (aao e)) (aai _ e)
 have J0:=wk (tk:=s3.toks+([]:List (Str×Value)).length) I3 S Eh hfl keep wu
 have st1:tn 0 h₁:=T.keep 0 s.heap h₁ st λb hb o e=>keep b o (by rw[e3];exact aai _ e)
 generalize hH3:upd H s.heap.objs.size (.lst [])=H3 at *
 generalize hY:cO X N scope s3.heap.objs.size s3 H3 fp=Y at *
 have sub:∀x c,(dY X.env scope.names []).lookup x=some c->X.env.cells.lookup x=some c :=
  kH scope.names [] (λn hn=>I.ok.has n (S.free _ hn rfl)) (λx c z=>by cases z)
 have wg:∀{H':Hp},(∀b∈fp,H' b=none)->∀b∈fp,jC Y [] H' b:=λ{H'} hn b hb=>by
  subst hY
  obtain⟨f0,f1,f2,f3,f4,f5⟩:=Eh b hb
  refine⟨hn b hb,aaH (hfl b hb),λz=>?_,.inl hb,λx c e=>f4 x c (sub x c e),λp hp=>absurd (show p∈([]:List 'g') from hp) (by simp)⟩
  rcases aat.mp (I3.sR b z) with q|q
  ·exact f1 q
  ·exact f2 q
 have eA:Y.A=X.A:=by subst hY;rfl
 have eP:Y.prog=X.prog:=by subst hY;rfl
 have eW:Y.w=X.w:=by subst hY;rfl
 have eK:Y.K=X.K:=by subst hY;rfl
 have eC:Y.calm=true:=by subst hY;exact hc
 have eE:Y.env=compEnvC scope (dY X.env scope.names []) s3.heap.objs.size X.env:=by subst hY;rfl
 have Nm:Y.xe=λ_ _=>False:=by subst hY;rfl
 have VQ:PG Y tg g:=by subst hY;exact hg _ _ _ _
 have VR:Aj Y ifs tt:=by subst hY;exact ht _ _ _ _
 have VS:PE Y elt te:=by subst hY;exact he _ _ _ _
 have loop:codeAny 'd' X.A (.compLoop (.ListComp elt [⟨tg,iter,ifs,0⟩] scope pos) 0 (.ref it) (.ref s.heap.objs.size) (compEnvC scope (dY X.env scope.names []) s3.heap.objs.size X.env))
   (RR (.ref s.heap.objs.size) s3.heap.objs.size) {s3 with heap:=h₁,toks:=s3.toks+([]:List (Str×Value)).length}:=by
  refine wm (λn s'=>∃i ys τ H',Inv Y [] τ H' s'/\tn i s'.heap/\(∀b∈fp,H' b=none)/\W i n ys τ H') ?_ m0 ⟨0,[],_,H3,J0,st1,λb hb=>(Eh b hb).1,w0⟩
  rintro n s4 ⟨i,ys,τ,H4,I4,SM,SN,w4⟩
  obtain⟨hDl,tr⟩:=turn i n ys τ H4 w4
  rcases tr with ⟨stop,qn⟩|⟨go,Nn,SO,step⟩
  ·have d:=T.done Y eP eW eK eC i [] s4 τ H4 (λ_ _=>False) I4 (wg SN) SM stop
   rw[eA]at d
   refine bY d λr s5 ⟨hr,I5⟩=>?_
   subst hr
   have u:Inv X pins σ H4 s5:=by
    subst hY
    exact I3.B7 (ch:=fp) I5.os I5.base I5.hok I5.bare λb hb=>⟨(Eh b hb).2.2.2.1,(Eh b hb).2.1,(Eh b hb).2.2.2.2.1,(Eh b hb).2.2.2.2.2⟩
   have hC:H4 s3.heap.objs.size=none:=by have z:=I5.free;rw[eE]at z;exact z
   obtain⟨m,hn,_⟩:=I5.loc
   rw[eE]at hn
   exact hRR _ _ H4 s5 m u (I3.wc (aan _) hC) hn qn
  ·have d:=T.item Y eP eW eK eC i [] s4 τ H4 (λ_ _=>False) I4 (wg SN) SM go
   rw[eA]at d
   refine bY d λr s5 ⟨u,hr,h5⟩=>?_
   subst hr
   refine bY h5 λ_ s6 ⟨x,H6,I6,r6,y6,PZ,VT⟩=>?_
   have VU:=I6.pinned (wg VT) (T.obj _ _ PZ)
   have q6:=VQ _ s6 τ H6 x u _ VU r6 (step x H6 y6)
   rw[eP,eW,eA,eE,Nm]at q6
   refine bY q6 λ_ s7 ⟨σ7,H7,I7,q7⟩=>?_
   have q8:=VR _ s7 σ7 H7 _ I7 q7
   rw[eP,eW,eA,eE,Nm]at q8
   refine bY q8 λok s8 ⟨H8,I8,q8⟩=>?_
   have again:∀{σ9:St}{H9:Hp}{s9:Shared}{zs:List V},Inv Y ([]++sV fp s6.heap) σ9 H9 s9->(∃m',m'<n/\W (i+1) m' zs σ9 H9)->∃m,m<n/\∃i ys τ H',Inv Y [] τ H' s9/\tn i s9.heap/\(∀b∈fp,H' b=none)/\W i m ys τ H':=λ{σ9 H9 s9 zs} I9 n9=>by
    obtain⟨m',hm,w9⟩:=n9
    refine⟨m',hm,i+1,zs,σ9,H9,I9.mC,T.keep _ _ _ PZ λb hb o e=>(I9.pin (b,o) (aaG _ (aaG _ (gu hb e)))).1,λb hb=>?_,w9⟩
    obtain⟨o,e,d⟩:=T.obj _ _ PZ b hb
    exact(I9.pin (b,o) (aaG _ (aaG _ (gu hb e)))).2.1
   cases ok with
   |false =>
    rw[aag aaw]
    rw[aag aaw]at q8
    exact again I8 (SO _ _ _ q8)
   |true =>
    rw[aal rfl]
    rw[aal rfl]at q8
    have q9:=VS _ s8 σ7 H8 _ I8 q8
    rw[eP,eW,eA,eE,Nm]at q9
    refine bY q9 λy s9 ⟨yv,H9,I9,r9,VV,VW,q9⟩=>?_
    have ap:=cN (X:=Y) _ s9 σ7 H9 (.ref s.heap.objs.size) [yv] (.ref s.heap.objs.size) [y] (λ_ SQ=>Nn (ys++[yv]) σ7 SQ) I9 rfl (.cons r9 .nil) ⟨_,ys,yv,rfl,rfl,VV,VW,q9⟩
    rw[eP,eW,eA,Nm]at ap
    exact bY ap λ_ Np ⟨_,SQ,VX,_,VY⟩=>again VX (SO _ _ _ VY)
 subst SK
 exact codeAny_compStart_list loop (T.self _ 0 _ _ _ st1 loop)
theorem iz(hc:X.calm=true)(S:aT X.N X.env.scope N nv js scope)(hi:PI X tg iter wi)(hg:∀C s H fp,PG (cO X N scope C s H fp) tg g)(ht:∀C s H fp,Aj (cO X N scope C s H fp) ifs tt)(he:∀C s H fp,PE (cO X N scope C s H fp) elt te)(hs:∀x,foldedSetIterable iter X.env x=pure x:=by intro _;rfl):PE X (.ListComp elt [⟨tg,iter,ifs,0⟩] scope pos) (KP wi g tt te nv js):=by
 intro pins s σ H Q I h
 rw[eval_ListComp]
 refine wpAny_comprehension_free (use:=none) rfl hs (jD λn hn=>I.ok.has n (S.free _ hn rfl)) S.kind S.loc (bY (hi pins s σ H _ I h) λv s1 h1=>bY h1 λitv s2 h2=>?_)
 obtain⟨it,fp,tn,J,H2,e,I2,T,st2,f2,hR⟩:=h2
 subst e
 refine wo (RR:=λacc C=>compPost 'd' X.A X.xe none (EP X pins σ Q) acc C) hc S hg ht he I2 T st2 f2 hR ?_
 intro D C H' s' m I' fC hn q
 refine⟨m,hn,λh' sb=>⟨.ref D,H',?_,O,q⟩⟩
 exact I'.turned (t':=s'.toks) (λb o hb e=>(sb.2 b hb).trans e) fC.1 fC.2.1 fC.2.2.2.1 fC.2.2.2.2.1 fC.2.2.2.2.2
theorem nY{i:Nat}{x:Str}{pos' spos:Pos}(hc:X.calm=true)(hN:X.N.Nodup)(hi':X.N[i]?=some x)(hx:X.env.scope.names.lookup x=some .local)(S:aT X.N X.env.scope N nv js scope)(hi:PI X tg iter wi)(hg:∀C s H fp,PG (cO X N scope C s H fp) tg g)(ht:∀C s H fp,Aj (cO X N scope C s H fp) ifs tt)(he:∀C s H fp,PE (cO X N scope C s H fp) elt te)(hsw:swapsWith (.ListComp elt [⟨tg,iter,ifs,0⟩] scope pos) (some (.Name x pos')) spos.line X.env=pure true:=by rfl)(hs:∀x,foldedSetIterable iter X.env x=pure x:=by intro _;rfl):PS X (.Assign [.Name x pos'] (.ListComp elt [⟨tg,iter,ifs,0⟩] scope pos) spos) (Kn (KP wi g tt te nv js) (cT i)):=by
 intro pins s σ H D I h
 rw[exec_Assign_Name_used _ _ _ _ hsw]
 refine aaf (wpAny_standAt (aaf ?_))
 show wpAny _ X.A (do let _ ←comprehension (.ListComp elt [⟨tg,iter,ifs,0⟩] scope pos) scope X.env _ (newList []) false (eval iter X.env) (some (assign (.Name x pos') X.env))) _ _ s
 refine aaf (aa1 (wpAny_comprehension_free (use:=some (assign (.Name x pos') X.env)) (Q:=λ_ s'=>SP X pins D .next s') rfl hs (jD λn hn=>I.ok.has n (S.free _ hn rfl)) S.kind S.loc
  (bY (hi pins s σ H _ I h) λv s1 h1=>bY h1 λitv s2 h2=>?_)) (λ_ s' hq=>aar (aar hq)) λ_ _ e=>e)
 obtain⟨it,fp,tn,J,H2,e,I2,T,st2,f2,hR⟩:=h2
 subst e
 refine wo (RR:=λacc C=>compPost 'd' X.A X.xe (some (assign (.Name x pos') X.env)) (λ_ s'=>SP X pins D .next s') acc C) hc S hg ht he I2 T st2 f2 hR ?_
 intro Dl C H' s' m I' fC hn q
 show wpAny _ X.A (assign (.Name x pos') X.env (.ref Dl)) _ _ _
 refine wpAny_assign_Name (zd I' hN hi' (.inl hx) (v:=.ref Dl) rfl (λs2 I3 ch=>?_) (.inr hx))
 obtain⟨a,sb,ha⟩:=ch
 have hCa:C≠a:=by
  rcases ha with rfl|ha
  ·exact fC.2.1
  ·exact(fC.2.2.2.2.1 x a ha).symm
 refine⟨m,hn.sameBut sb hCa,λh' sb'=>⟨_,H',?_,q⟩⟩
 exact I3.turned (t':=s2.toks) (λb o hb e=>(sb'.2 b hb).trans e) fC.1 fC.2.1 fC.2.2.2.1 fC.2.2.2.2.1 fC.2.2.2.2.2
end
section
variable{prog:Program}{w:World}{A:Around}{E:Value->Shared->Prop}{s:Shared}
end
section
variable{X:Cx}{e:Expr}{te:TE}
end
def sg(c:Nat):Str:=⟨#[c]⟩
def RO(z:Str):It:=⟨λi _=>i<z.cps.size,λi H x H'=>H'=H/\∃c,z.cps[i]?=some c/\x=.str (sg c),λi _=>z.cps.size<=i⟩
theorem KR{P:Program}{w:World}{K:W.Frag}{tg:Expr}(it:Addr)(z:Str)(t:Tok):Turn P w K tg (RO z) [it] it (λi h=>h.IsStrIter it (strIterType z) z t i) where
 mem:=by simp
 obj:=λi h st b hb=>by
  have e:b=it:=by simpa using hb
  subst e
  obtain⟨o,e,c,d⟩:=st
  exact⟨o,e,λv z=>by rw[d]at z;cases z⟩
 keep:=λi h h' st k=>by
  obtain⟨o,e,r⟩:=st
  exact⟨o,k it (by simp) o e,r⟩
 item:=by
  intro X hP hw hK hc i pins s σ H E I hf st hg
  subst hP hw hK
  obtain⟨f0,f1,f2,f3,f4,f5⟩:=hf it (by simp)
  have hi:i<z.cps.size:=hg
  have hx:z.cps[i]?=some z.cps[i]:=by simp[hi]
  cases ha:z.cps.all (· < 128) with
  |true =>
   have et:strIterType z="str_ascii_iterator":=by simp only[strIterType,ha,if_true]
   rw[et]at st⊢
   refine wpAny_pyNext_ascii_item st hx λh' st' sb=>?_
   have I1:Inv X pins σ H {s with heap:=h',toks:=s.toks+1}:=I.turned (λb o hb e=>(sb.2 b hb).trans e) f0 f1 f3 f4 f5
   obtain⟨o,e,c,d⟩:=id st'
   exact⟨_,rfl,ze (s:={s with heap:=h',toks:=s.toks+1}) e c d 'c' ⟨.str (sg z.cps[i]),H,I1,⟨_,rfl⟩,⟨rfl,_,hx,rfl⟩,st',λb hb=>(hf b hb).1⟩⟩
  |false =>
   have et:strIterType z="str_iterator":=by simp only[strIterType,ha,abj,if_false]
   rw[et]at st⊢
   refine wpAny_pyNext_wide_item st hx λh' st' sb=>?_
   have I1:Inv X pins σ H {s with heap:=h',toks:=s.toks+1}:=I.turned (λb o hb e=>(sb.2 b hb).trans e) f0 f1 f3 f4 f5
   obtain⟨o,e,c,d⟩:=id st'
   exact⟨_,rfl,ze (s:={s with heap:=h',toks:=s.toks+1}) e c d 'c' ⟨.str (sg z.cps[i]),H,I1,⟨_,rfl⟩,⟨rfl,_,hx,rfl⟩,st',λb hb=>(hf b hb).1⟩⟩
 done:=by
  intro X hP hw hK hc i pins s σ H E I hf st hg
  subst hP hw hK
  obtain⟨f0,f1,f2,f3,f4,f5⟩:=hf it (by simp)
  have hi:z.cps.size<=i:=hg
  have hx:z.cps[i]?=none:=by simp[hi]
  cases ha:z.cps.all (· < 128) with
  |true =>
   have et:strIterType z="str_ascii_iterator":=by simp only[strIterType,ha,if_true]
   rw[et]at st
   exact wpAny_pyNext_ascii_end (I.ok.hd hc) st hx λh' eb=>⟨rfl,I.turned (t':=s.toks) (λb o hb e=>eb b o hb e) f0 f1 f3 f4 f5⟩
  |false =>
   have et:strIterType z="str_iterator":=by simp only[strIterType,ha,abj,if_false]
   rw[et]at st
   exact wpAny_pyNext_wide_end (I.ok.hd hc) st hx λh' eb=>⟨rfl,I.turned (t':=s.toks) (λb o hb e=>eb b o hb e) f0 f1 f3 f4 f5⟩
 self:=by
  intro A i s Q E st h
  cases ha:z.cps.all (· < 128) with
  |true =>
   have et:strIterType z="str_ascii_iterator":=by simp only[strIterType,ha,if_true]
   rw[et]at st
   exact wpAny_pyIter_striter_ascii st h
  |false =>
   have et:strIterType z="str_iterator":=by simp only[strIterType,ha,abj,if_false]
   rw[et]at st
   exact wpAny_pyIter_striter_wide st h
section
variable{X:Cx}{tg:Expr}
def VZ(tl:TE):TI:=λσ H R=>tl σ H λx H1=>∃z,x=.str z/\R (RO z) H1
theorem Ak{l:Expr}{tl:TE}(hl:PE X l tl):PI X tg l (VZ tl):=by
 intro pins s σ H R I h
 refine bY (hl pins s σ H _ I h) λv s1 ⟨x,H1,I1,r1,q1⟩=>?_
 obtain⟨z,e,q⟩:=q1
 subst e
 obtain⟨t,rfl⟩:=r1
 refine wpAny_pyIter_strU ?_
 refine⟨s1.heap.objs.size,[s1.heap.objs.size],_,_,H1,rfl,I1.kept (t':=s1.toks) λb o e=>aai _ e,KR _ z t,⟨_,aaz _ rfl,rfl,rfl⟩,λb hb=>?_,q⟩
 have e:b=s1.heap.objs.size:=by simpa using hb
 subst e
 exact I1.wc (aan _) (I1.hok.fresh (aan _))
end
theorem GV{z:Str}{g:TG}{tb:TS}{D:Ends}{σ:St}{H:Hp}(Pv:Nat->St->Hp->Prop)(h0:Pv 0 σ H)(hs:∀i c σ H,z.cps.toList[i]?=some c->Pv i σ H->g (.str (sg c)) σ H λσ2 H2=>tb {D with nx:=Pv (i+1),ct:=Pv (i+1),bk:=D.nx} σ2 H2)(hd:∀σ H,Pv z.cps.toList.length σ H->D.nx σ H):∃W:Nat->Nat->St->Hp->Prop,(∃m,W 0 m σ H)/\∀i m σ H,W i m σ H->((RO z).stop i H/\D.nx σ H)\/((RO z).go i H/\∃N:St->Hp->Prop,(∀σ' H',N σ' H'->∃m',m'<m/\W (i+1) m' σ' H')/\∀x H',(RO z).J4 i H x H'->g x σ H' λσ2 H2=>tb {D with nx:=N,ct:=N,bk:=D.nx} σ2 H2):=by
 refine⟨λi m σ H=>m=z.cps.size-i/\i<=z.cps.size/\Pv i σ H,⟨z.cps.size,by simp,aaY _,h0⟩,?_⟩
 rintro i m σ H ⟨rfl,hi,p⟩
 by_cases hlt:i<z.cps.size
 ·refine .inr ⟨hlt,Pv (i+1),λσ' H' p'=>⟨z.cps.size-(i+1),by omega,rfl,hlt,p'⟩,λx H' y=>?_⟩
  obtain⟨e,c,hc,ex⟩:=y
  subst e ex
  exact hs i c σ _ (by simpa using hc) p
 ·have e:i=z.cps.size:=by omega
  subst e
  exact .inl ⟨aan _,hd σ H (by simpa using p)⟩
theorem fO{K:W.Frag}{a:Addr}{xs:List V}{g:TG}{tt:TT}{te:TE}{Q:VK}{D:Addr}{τ:St}{H:Hp}(Pv:Nat->List V->St->Hp->Prop)(h0:Pv 0 [] τ (upd H D (.lst [])))(hl:∀i ys τ H,i<=xs.length->Pv i ys τ H->aM K H a xs/\H D=some (.lst ys))(hs:∀i x ys τ H,xs[i]?=some x->Pv i ys τ H->g x τ H λτ2 H2=>tt τ2 H2 λb H3=>if b=true then te τ2 H3 λy H4=>H4 D=some (.lst ys)/\ys.length<sizeLine/\Pv (i+1) (ys++[y]) τ2 (upd H4 D (.lst (ys++[y]))) else Pv (i+1) ys τ2 H3)(hd:∀ys τ H,Pv xs.length ys τ H->Q (.ref D) H):qQ (RL K a) g tt te Q D τ H:=by
 refine⟨λi m ys τ H=>m=xs.length-i/\i<=xs.length/\Pv i ys τ H,⟨xs.length,by simp,aaY _,h0⟩,?_⟩
 rintro i m ys τ H ⟨rfl,hi,p⟩
 obtain⟨q,hD⟩:=hl i ys τ H hi p
 refine⟨hD,?_⟩
 by_cases hlt:i<xs.length
 ·refine .inr ⟨⟨xs,xs[i],q,by simp[hlt]⟩,Pv (i+1),λzs σ' H' p'=>⟨xs.length-(i+1),by omega,rfl,hlt,p'⟩,λx H' y=>?_⟩
  obtain⟨e,y⟩:=y
  subst e
  exact hs i x ys τ _ (y xs q) p
 ·have e:i=xs.length:=by omega
  subst e
  exact .inl ⟨⟨xs,q,aan _⟩,hd ys τ H p⟩
theorem Ce{z:Str}{g:TG}{tt:TT}{te:TE}{Q:VK}{D:Addr}{τ:St}{H:Hp}(Pv:Nat->List V->St->Hp->Prop)(h0:Pv 0 [] τ (upd H D (.lst [])))(hl:∀i ys τ H,i<=z.cps.toList.length->Pv i ys τ H->H D=some (.lst ys))(hs:∀i c ys τ H,z.cps.toList[i]?=some c->Pv i ys τ H->g (.str (sg c)) τ H λτ2 H2=>tt τ2 H2 λb H3=>if b=true then te τ2 H3 λy H4=>H4 D=some (.lst ys)/\ys.length<sizeLine/\Pv (i+1) (ys++[y]) τ2 (upd H4 D (.lst (ys++[y]))) else Pv (i+1) ys τ2 H3)(hd:∀ys τ H,Pv z.cps.toList.length ys τ H->Q (.ref D) H):qQ (RO z) g tt te Q D τ H:=by
 have hz:z.cps.toList.length=z.cps.size:=by simp
 refine⟨λi m ys τ H=>m=z.cps.size-i/\i<=z.cps.size/\Pv i ys τ H,⟨z.cps.size,by simp,aaY _,h0⟩,?_⟩
 rintro i m ys τ H ⟨rfl,hi,p⟩
 refine⟨hl i ys τ H 'b' p,?_⟩
 by_cases hlt:i<z.cps.size
 ·refine .inr ⟨hlt,Pv (i+1),λzs σ' H' p'=>⟨z.cps.size-(i+1),by omega,rfl,hlt,p'⟩,λx H' y=>?_⟩
  obtain⟨e,c,hc,ex⟩:=y
  subst e ex
  exact hs i c ys τ _ (by simpa using hc) p
 ·have e:i=z.cps.size:=by omega
  subst e
  exact .inl ⟨aan _,hd ys τ H (by rw[hz];exact p)⟩
theorem qj{lo:Int}{n:Nat}{g:TG}{tt:TT}{te:TE}{Q:VK}{D:Addr}{τ:St}{H:Hp}(Pv:Nat->List V->St->Hp->Prop)(h0:Pv 0 [] τ (upd H D (.lst [])))(hl:∀i ys τ H,i<=n->Pv i ys τ H->H D=some (.lst ys))(hs:∀i ys τ H,i<n->Pv i ys τ H->g (.int (lo+i)) τ H λτ2 H2=>tt τ2 H2 λb H3=>if b=true then te τ2 H3 λy H4=>H4 D=some (.lst ys)/\ys.length<sizeLine/\Pv (i+1) (ys++[y]) τ2 (upd H4 D (.lst (ys++[y]))) else Pv (i+1) ys τ2 H3)(hd:∀ys τ H,Pv n ys τ H->Q (.ref D) H):qQ (OR lo n) g tt te Q D τ H:=by
 refine⟨λi m ys τ H=>m=n-i/\i<=n/\Pv i ys τ H,⟨n,by simp,aaY _,h0⟩,?_⟩
 rintro i m ys τ H ⟨rfl,hi,p⟩
 refine⟨hl i ys τ H hi p,?_⟩
 by_cases hlt:i<n
 ·refine .inr ⟨hlt,Pv (i+1),λzs σ' H' p'=>⟨n-(i+1),by omega,rfl,hlt,p'⟩,λx H' y=>?_⟩
  obtain⟨e,y⟩:=y
  subst e y
  exact hs i ys τ _ hlt p
 ·have e:i=n:=by omega
  subst e
  exact .inl ⟨aan _,hd ys τ H p⟩
theorem GW:∀{zs:List Str}{us:List Value},Vals (zs.map V.str) us->StrsAre us zs
 |[],_,r=>by cases r;exact .nil
 |z::zs,_,r=>by
  cases r with
  |cons r1 r2 =>
   obtain⟨t,e⟩:=r1
   subst e
   exact .cons z t (GW r2)
section
variable{X:Cx}
def rJoin(K:W.Frag):V->List V->Hp->VK->Prop:=λx vs H Q=>∃z p zs,x=.str z/\vs=[.ref p]/\aM K H p (zs.map V.str)/\(zs.map (·.length)).sum+zs.length*z.length<=16777216/\Q (.str (Txt.join z zs)) H
theorem Nq:Ng X "str.join" (rJoin X.K):=by
 intro pins s σ H x vs v us Q I rx rv h
 obtain⟨z,p,zs,rfl,rfl,hq,hz,q⟩:=h
 obtain⟨t,rfl⟩:=rx
 obtain⟨u,rfl,ru⟩:=rv.one
 cases ru
 obtain⟨its,r,pl,_⟩:=I.list hq
 exact join_list pl.isList (by simpa using GW r) hz λt' k=>⟨.str _,H,I.tok k,⟨t',rfl⟩,q⟩
theorem Cf:fM X (.builtin "isinstance") (λxs H Q=>∃x c t b,xs=[x,c]/\qh X.K H x t/\((∃n,c=.ty n/\W.kitOne X.K t (.type n)=some b)\/(∃a,c=.ref a/\W.kitOne X.K t (.ref a)=some b))/\Q (.bl b) H):=by
 intro pins s σ H xs us Q I r h
 obtain⟨x,c,t,b,rfl,ty,hc,q⟩:=h
 obtain⟨u,w',rfl,ru,rw'⟩:=vals2 r
 rcases hc with ⟨n,rfl,e⟩|⟨a,rfl,e⟩
 ·cases rw'
  exact zk I ru ty e λtk=>⟨.bl b,H,I.tok tk,rfl,q⟩
 ·cases rw'
  exact zk I ru ty e λtk=>⟨.bl b,H,I.tok tk,rfl,q⟩
end
section
variable{X:Cx}
def SR(K:W.Frag):R2:=λx y H Q=>∃a b xs,x=.ref a/\y=.ref b/\aM K H a xs/\aM K H b []/\Q (.bl (!xs.isEmpty)) H
theorem P0(hu:X.A.units<cLine):nX X (compareOp .NotEq) (SR X.K):=by
 intro pins s σ H x y v u Q I rx ry h
 obtain⟨a,b,xs,rfl,rfl,ha,hb,q⟩:=h
 cases rx
 cases ry
 obtain⟨its,r1,p1,_⟩:=I.list ha
 obtain⟨its2,r2,p2,_⟩:=I.list hb
 cases r2
 show wpAny _ _ (richCompare .NotEq (.ref a) (.ref b)) _ _ _
 cases xs with
 |nil =>
  cases r1
  refine SeqAt.RcNeAt.lists (e:=λ_=>true) p1.isList p2.isList rfl hu (λj h1 _=>absurd h1 (by simp)) _ _ _ _ ⟨.bl false,H,I,?_,q⟩
  simp[RelV]
 |cons x xs =>
  cases r1 with
  |cons r rr =>
   exact SeqAt.RcNeAt.lists_lengths p1.isList p2.isList (by simp) hu _ _ _ _ ⟨.bl true,H,I,rfl,q⟩
end
section
variable{X:Cx}(K:W.Frag)(h:X.K=K)
include h
theorem KS:RM X (PK K):=by subst h;exact Nh
theorem Nr:RM X (PL K):=by subst h;exact PM
theorem qR:UN X (SH K):=by subst h;exact Ni
theorem KU:Ng X "str.join" (rJoin K):=by subst h;exact Nq
theorem aJ:fM X (.builtin "len") (λxs H Q=>∃p ys,xs=[.ref p]/\(aM K H p ys\/bR K H p ys)/\Q (.int ys.length) H):=by subst h;exact Ah
theorem cg:fM X (.builtin "isinstance") (λxs H Q=>∃x c t b,xs=[x,c]/\qh K H x t/\((∃n,c=.ty n/\W.kitOne K t (.type n)=some b)\/(∃a,c=.ref a/\W.kitOne K t (.ref a)=some b))/\Q (.bl b) H):=by subst h;exact Cf
theorem oU:fM X (.type "list") (λxs H Q=>∃p ys,xs=[.ref p]/\(aM K H p ys\/bR K H p ys)/\∀l,H l=none->Q (.ref l) (upd H l (.lst ys))):=by subst h;exact Ai
theorem wA:fM X (.type "tuple") (λxs H Q=>∃p ys,xs=[.ref p]/\((aM K H p ys/\∀l,H l=none->Q (.ref l) (upd H l (.tup ys)))\/(bR K H p ys/\Q (.ref p) H))):=by subst h;exact yd
theorem Nt(hu:X.A.units<cLine):nX X (compareOp .NotEq) (SR K):=by subst h;exact P0 hu
theorem di{tg l:Expr}{tl:TE}(hl:PE X l tl):PI X tg l (OS K tl):=by subst h;exact M5 hl
theorem Nu{tg l:Expr}{tl:TE}(hl:PE X l tl):PI X tg l (Sq K tl):=by subst h;exact Py hl
theorem kI{es:List Expr}{k:Nat}{pos:Pos}{t:OQ}(n:Nat)(hc:X.calm=true)(hh:Sk X es t)(hn:(assignEach es X.env).length=n:=by rfl)(hst:(assignEach es X.env).findIdx? (·.1)=none:=by rfl):PG X (.Tuple es k pos) (Sn K n t):=by subst h;exact Pu hc hh hn hst
theorem bB{e:Expr}{ta:TE}{f:Str}{pos:Pos}(he:PE X e ta)(hb:attributeBase e f X.env (eval e X.env)=eval e X.env):PE X (.Attribute e f pos) (Sz K ta f):=by subst h;exact PC he hb
theorem fU{o e:Expr}{es:List Expr}{to:TE}{t:TA}{name:Str}{apos cpos:Pos}{T id:String}{r:V->List V->Hp->VK->Prop}(pa:PlainAttrs T)(slot:Slot T name id)(hty:typeOf (.builtin id)=pure (.type "method_descriptor"))(hm:Ng X id r)(ho:PE X o to)(ha:PA X (e::es) t)(hbase:attributeBase o name X.env (eval o X.env)=eval o X.env:=by rfl)(hfew:((backTo cpos (starEach (e::es) X.env)).all (λx=>!x.1)&&(backToKw cpos (keywordEach [] X.env)).all (λx=>x.1.isSome)
  && decide ((e::es).length+([]:List Keyword).length+(if ([]:List Keyword).isEmpty then 0 else 1)<30))=true:=by rfl)(hline:(apos.endLine==cpos.line)=true:=by rfl)(hs:starEach (e::es) X.env=(false,eval e X.env)::starEach es X.env:=by rfl)(hplain:(backTo cpos (starEach es X.env)).any (·.1)=false:=by rfl):PE X (.Call (.Attribute o name apos) (e::es) [] cpos) (YR K T r to t):=by subst h;exact SI pa slot hty hm ho ha hbase hfew hline hs hplain
end
section
variable{X:Cx}
theorem nZ{x:Str}{z:Str}{t:Tok}{pos:Pos}(hg:Gl X x)(hm:X.mg x=some (.str z t))(hd:(x==("__debug__":Str))=false:=by decide):PE X (.Name x pos) (tC (.str z)):=zZ hg hm ⟨t,rfl⟩ hd
theorem cK{x:Str}{a:Addr}{pos:Pos}(hg:Gl X x)(hm:X.mg x=some (.ref a))(hd:(x==("__debug__":Str))=false:=by decide):PE X (.Name x pos) (tC (.ref a)):=zZ hg hm rfl hd
theorem P4(n:String){x:Str}{pos:Pos}(hg:Gl X x)(hm:X.mg x=none)(hv:bootBuiltins x=some (.type n))(hn:x ≠ "__name__":=by decide)(hd:(x==("__debug__":Str))=false:=by decide):PE X (.Name x pos) (tC (.ty n)):=M3 hg hm hv rfl hn hd
end
structure Nv(K:W.Frag)(x qual:Str)(st:Stmt)(f:Addr)(fd:FuncData)(dV:Value):Prop where
 ex:∃(oc:Value)(od:Option Addr)(kV doc pm:Value)(an:Option Addr)(cdv ct:Value)(osl:Array (Option Value)),fd=W.fnOf x qual (cY st) (bZ st) (au st) dV kV doc pm an cdv ct/\K.lookup f=some ⟨oc,od,.func fd,osl⟩/\W.codeIn K cdv qual=true
 kp:W.keepIn K (.ref f)=true
section
variable{P:Program}{w:World}{K:W.Frag}{mg:Str->Option Value}{base:Heap}
theorem Nv.ok{x qual:Str}{st:Stmt}{f:Addr}{fd:FuncData}{dV:Value}{N ps:List Str}{k:Nat}{sp:Sp}(F:Nv K x qual st f fd dV)(S:aF N ps (au st))(len:∀vs H Q E,sp vs H Q E->vs.length=ps.length)(hbody:∀(cdv:Value)(A:Around)(outer:List Env)(s:Shared)(H:Hp)(vs:List V)(Q:VK)(E:XK),cM k (A.deeper (envOfC qual (au st) s.heap.objs.size f cdv))->sp vs H Q E->∃t,BV (oH fu P w K mg base N qual (au st) f cdv A outer s H E).Pp (bZ st) t/\t {nx:=λ_ H'=>Q .non H',rt:=Q} (start N vs) H):bx P w K mg base fu (k+1) f fd ps sp:=by
 obtain⟨oc,od,kV,doc,pm,an,cdv,ct,osl,rfl,lk,hcd⟩:=F.ex
 refine KD lk hcd S len λA outer s H vs Q E hr Ed=>?_
 obtain⟨t,h,q⟩:=hbody cdv A outer s H vs Q E hr Ed
 exact⟨t,h.Pp,q⟩
theorem Nx{x qual:Str}{st:Stmt}{f:Addr}{oc dV:Value}{od an:Option Addr}{osl:Array (Option Value)}{kV doc pm cdv ct:Value}(l:K.lookup f=some ⟨oc,od,.func (W.fnOf x qual (cY st) (bZ st) (au st) dV kV doc pm an cdv ct),osl⟩)(c:W.codeIn K cdv qual=true)(k:W.keepIn K (.ref f)=true):Nv K x qual st f (W.fnOf x qual (cY st) (bZ st) (au st) dV kV doc pm an cdv ct) dV:=⟨⟨oc,od,kV,doc,pm,an,cdv,ct,osl,rfl,l,c⟩,k⟩
end
section
variable{X:Cx}
theorem ux:∀{bs:List Bool}{us:List Value}{i:Nat}{u:Value},Vals (bs.map V.bl) us->us[i]?=some u->u=.bool (bs.getD i true)
 |[],_,_,_,r,e=>by cases r;simp at e
 |b::bs,_,i,u,r,e=>by
  cases r with
  |cons r1 r2 =>
   cases i with
   |zero=>simp at e;subst e;exact r1
   |succ i=>simp at e;simpa using ux r2 e
theorem all_range(bs:List Bool):((List.range bs.length).all λi=>bs.getD i true)=bs.all id:=by
 rw[aa0,aaB,aaB]
 constructor
 ·intro h b hb
  obtain⟨i,hi,rfl⟩:=List.mem_iff_getElem.mp hb
  have:=h i (by simpa using hi)
  simpa [List.getD,hi]using this
 ·intro h i hi
  have hi':i<bs.length:=by simpa using hi
  have:=h bs[i] (List.getElem_mem hi')
  simpa [List.getD,hi']using this
def SS(K:W.Frag):List V->Hp->VK->Prop:=λxs H Q=>∃(p:Addr)(bs:List Bool),xs=[.ref p]/\aM K H p (bs.map V.bl)/\Q (.bl (bs.all id)) H
theorem KW(hc:X.calm=true):fM X (.builtin "all") (SS X.K):=by
 intro pins s σ H xs us Q I r h
 obtain⟨p,bs,rfl,hq,q⟩:=h
 obtain⟨u,rfl,ru⟩:=vals1 r
 cases ru
 obtain⟨its,rv,pl,hz⟩:=I.list hq
 have hlen:=rv.length
 rw[aak]at hlen
 have hpl:p<s.heap.objs.size:=by obtain⟨o,ho,_⟩:=pl.isList;exact aao ho
 refine call_all_walk (wpAny_pyIter_list pl.isList ⟨s.heap.objs.size,_,_,_,_,_,λi=>bs.getD i true,rfl,Walks.list (A:=X.A.in1) (show X.A.in1.handled=none from I.ok.hd hc) s.heap.objs.size p (aaH hpl) its.toArray,⟨⟨_,aaz _ rfl,rfl,rfl⟩,pl.isList.at λo e=>aai _ e⟩,?_,?_⟩)
 ·intro i v s' Q' E' hv hq'
  have e:its[i]?=some v:=by simpa using hv
  rw[ux rv e]
  exact wpAny_truthy_bool hq'
 ·intro h' tk hk
  have f0:=I.wc (aan s.heap.objs.size) (I.hok.fresh (aan _))
  have I2:Inv X pins σ H {s with heap:=s.heap.push {cls:=.type "list_iterator",data:=.fields #[.ref p,rawInt 0]}}:=I.kept (t':=s.toks) λb o e=>aai _ e
  have I3:=I2.turned (h':=h') (t':=tk) (it:=s.heap.objs.size) (λb o hb e=>hk b o (by simpa using hb) e) f0.1 f0.2.1 f0.2.2.2.1 f0.2.2.2.2.1 f0.2.2.2.2.2
  refine⟨.bl (bs.all id),H,I3,?_,q⟩
  show Value.bool _=Value.bool _
  rw[aam,←hlen,all_range]
theorem jZ(K:W.Frag)(h:X.K=K)(hc:X.calm=true):fM X (.builtin "all") (SS K):=by subst h;exact KW hc
def P5:V->List V->Hp->VK->Prop:=λx vs H Q=>∃(z:Str)(c:Nat),x=.str z/\vs=[.str (sg c)]/\Q (.int (PyProof.Rows.cnt c z.cps.toList)) H
theorem Cg:Ng X "str.count" P5:=by
 intro pins s σ H x vs v us Q I rx rv h
 obtain⟨z,c,rfl,rfl,q⟩:=h
 obtain⟨t,rfl⟩:=rx
 obtain⟨u,rfl,ru⟩:=rv.one
 obtain⟨t',rfl⟩:=ru
 exact SC.count ⟨.int _,H,I.tok _,⟨_,rfl⟩,by
  have e:Txt.count z (sg c)=PyProof.Rows.cnt c z.cps.toList:=PyProof.Rows.count_is z c
  rw[e];exact q⟩
theorem GX:∀{l:List Nat}{c:Nat},l.Nodup->c∈l->PyProof.Rows.cnt c l=1
 |[],_,_,h=>by cases h
 |n::r,c,nd,h=>by
  rw[PyProof.Rows.cnt_cons]
  obtain⟨n1,n2⟩:=abx.mp nd
  by_cases e:n=c
  ·subst e
   rw[aal rfl,PyProof.Rows.cnt_none _ _ n1];rfl
  ·rw[aag e,GX n2 ((aat.mp h).resolve_left (abi e))];rfl
def Ei:List V->List V->Bool
 |[],[]=>true
 |x::xs,y::ys=>zv x y&&Ei xs ys
 |_,_=>false
theorem KY:∀{x:V},cU x=true->zv x x=true
 | .non,_=>rfl
 | .bl b,_=>by cases b<;>rfl
 | .int i,_=>by simp[zv]
 | .str z,_=>by simp[zv]
def OY(xs ys:List V)(j:Nat):Bool:=match xs[j]?,ys[j]? with
 |some x,some y=>zv x y
 |_,_=>true
theorem wB:∀(xs ys:List V),((List.range (min xs.length ys.length)).all (OY xs ys)&&xs.length==ys.length)=Ei xs ys
 |[],[]=>rfl
 |[],_::_=>by simp[Ei]
 |_::_,[]=>by simp[Ei]
 |x::xs,y::ys=>by
  have ih:=wB xs ys
  have e:min (x::xs).length (y::ys).length=min xs.length ys.length+1:=by rw[aaA,aaA];omega
  rw[e,List.range_succ_eq_map,List.all_cons,abo]
  have e2:(OY (x::xs) (y::ys)∘Nat.succ)=OY xs ys:=by funext j;simp[OY]
  rw[e2]
  unfold Ei
  rw[←ih]
  have e3:((x::xs).length==(y::ys).length)=(xs.length==ys.length):=by simp
  rw[e3]
  show(zv x y&&_&&_)=_
  rw[Bool.and_assoc]
def V0(K:W.Frag):R2:=λx y H Q=>∃a b xs ys,x=.ref a/\y=.ref b/\bR K H a xs/\bR K H b ys/\xs.all cU=true/\ys.all cU=true/\Q (.bl (Ei xs ys)) H
theorem items_eqAt{A:Around}{s:Shared}{xs ys:List V}{us ws:List Value}(r1:Vals xs us)(r2:Vals ys ws)(f1:xs.all cU=true)(f2:ys.all cU=true)(j:Nat)(h1:j<us.toArray.size)(h2:j<ws.toArray.size):SeqAt.EqAt A s us.toArray[j] ws.toArray[j] (OY xs ys j):=by
 have hl1:=r1.length
 have hl2:=r2.length
 have hj1:j<xs.length:=by rw[hl1];simpa using h1
 have hj2:j<ys.length:=by rw[hl2];simpa using h2
 obtain⟨u,eu,ru⟩:=r1.get (i:=j) (x:=xs[j]) (by simp[hj1])
 obtain⟨w,ew,rw'⟩:=r2.get (i:=j) (x:=ys[j]) (by simp[hj2])
 have e1:us.toArray[j]=u:=by
  have:=aaj.mp eu
  obtain⟨_,q⟩:=this
  simpa using q
 have e2:ws.toArray[j]=w:=by
  have:=aaj.mp ew
  obtain⟨_,q⟩:=this
  simpa using q
 rw[e1,e2]
 have e3:OY xs ys j=zv xs[j] ys[j]:=by simp[OY,hj1,hj2]
 rw[e3]
 exact Af ru rw' (aaB.mp f1 _ (List.getElem_mem hj1)) (aaB.mp f2 _ (List.getElem_mem hj2))
theorem P6(K:W.Frag)(hK:X.K=K)(hu:X.A.units<cLine):nX X (compareOp .Eq) (V0 K):=by
 subst hK
 intro pins s σ H x y v u Q I rx ry h
 obtain⟨a,b,xs,ys,rfl,rfl,ha,hb,f1,f2,q⟩:=h
 cases rx
 cases ry
 obtain⟨its,r1,p1,_⟩:=I.tuple ha
 obtain⟨its2,r2,p2,_⟩:=I.tuple hb
 refine SeqAt.eq_tupleAt (e:=OY xs ys) p1 p2 hu (λj h1 h2=>items_eqAt r1 r2 f1 f2 j h1 h2) ⟨.bl _,H,I,?_,q⟩
 show Value.bool _=Value.bool _
 rw[aam,aam,←r1.length,←r2.length,wB]
end
inductive qS(K:W.Frag)(H:Hp):Nat->V->V->Prop where
 |flat {n:Nat}{x y:V}:cU x=true->cU y=true->zv x y=true->qS K H n x y
 |ref {n:Nat}{a:Addr}:qS K H n (.ref a) (.ref a)
 |tup {n:Nat}{a b:Addr}{xs ys:List V}:bR K H a xs->bR K H b ys->xs.length=ys.length->(∀(j:Nat) x y,xs[j]?=some x->ys[j]?=some y->qS K H n x y)->qS K H (n+1) (.ref a) (.ref b)
 |lst {n:Nat}{a b:Addr}{xs ys:List V}:aM K H a xs->aM K H b ys->xs.length=ys.length->(∀(j:Nat) x y,xs[j]?=some x->ys[j]?=some y->qS K H n x y)->qS K H (n+1) (.ref a) (.ref b)
theorem all_true(n:Nat):(List.range n).all (λ_=>true)=true:=by rw[aaB];intro _ _;rfl
section
variable{X:Cx}{pins:List 'g'}{σ:St}{H:Hp}{s:Shared}
theorem kJ{A:Around}{R:V->V->Prop}{xs ys:List V}{us ws:List Value}(r1:Vals xs us)(r2:Vals ys ws)(h:∀(j:Nat) x y u w,xs[j]?=some x->ys[j]?=some y->RelV x u->RelV y w->SeqAt.EqAt A s u w true)(j:Nat)(h1:j<us.toArray.size)(h2:j<ws.toArray.size):SeqAt.EqAt A s us.toArray[j] ws.toArray[j] true:=by
 have hl1:=r1.length
 have hl2:=r2.length
 have hj1:j<xs.length:=by rw[hl1];simpa using h1
 have hj2:j<ys.length:=by rw[hl2];simpa using h2
 obtain⟨u,eu,ru⟩:=r1.get (i:=j) (x:=xs[j]) (by simp[hj1])
 obtain⟨w,ew,rw'⟩:=r2.get (i:=j) (x:=ys[j]) (by simp[hj2])
 have e1:us.toArray[j]=u:=by
  obtain⟨_,q⟩:=aaj.mp eu
  simpa using q
 have e2:ws.toArray[j]=w:=by
  obtain⟨_,q⟩:=aaj.mp ew
  simpa using q
 rw[e1,e2]
 exact h j _ _ u w (by simp[hj1]) (by simp[hj2]) ru rw'
theorem zx(I:Inv X pins σ H s){n:Nat}{x y:V}(h:qS X.K H n x y):∀{A:Around}{u v:Value},A.units+n<cLine->RelV x u->RelV y v->SeqAt.EqAt A s u v true:=by
 induction h with
 |flat f1 f2 e=>intro A u v _ ru rv;rw[←e];exact Af ru rv f1 f2
 |ref=>intro A u v _ ru rv;cases ru;cases rv;exact aby _
 |@tup n a b xs ys ha hb hl _ ih =>
  intro A u v hu ru rv
  cases ru;cases rv
  by_cases e:a=b
  ·subst e;exact aby _
  ·obtain⟨its,r1,p1,_⟩:=I.tuple ha
   obtain⟨its2,r2,p2,_⟩:=I.tuple hb
   refine abu e ?_
   have q:=SeqAt.RcAt.tuples (A:=A) (e:=λ_=>true) p1 p2 'b' λj h1 h2=>kJ (R:=λ_ _=>True) r1 r2 (λj x y u w ex ey ru rw'=>ih j x y ex ey (by show A.units+1+n<cLine;omega) ru rw') j h1 h2
   have e2:((List.range (min its.toArray.size its2.toArray.size)).all (λ_=>true)&&its.toArray.size==its2.toArray.size)=true:=by
    rw[all_true,aam,aam,←r1.length,←r2.length,hl];simp
   rw[e2]at q
   exact q
 |@lst n a b xs ys ha hb hl _ ih =>
  intro A u v hu ru rv
  cases ru;cases rv
  by_cases e:a=b
  ·subst e;exact aby _
  ·obtain⟨its,r1,p1,_⟩:=I.list ha
   obtain⟨its2,r2,p2,_⟩:=I.list hb
   refine abu e ?_
   have q:=SeqAt.RcAt.lists (A:=A) (e:=λ_=>true) p1.isList p2.isList (by rw[aam,aam,←r1.length,←r2.length,hl]) 'b' λj h1 h2=>kJ (R:=λ_ _=>True) r1 r2 (λj x y u w ex ey ru rw'=>ih j x y ex ey (by show A.units+1+n<cLine;omega) ru rw') j h1 h2
   rw[all_true]at q
   exact q
end
section
variable{X:Cx}
def TopD(K:W.Frag)(H:Hp)(x y:V):Prop:=∃(n:Nat)(a b:Addr)(xs ys:List V),x=.ref a/\y=.ref b/\n<=50/\xs.length=ys.length/\((bR K H a xs/\bR K H b ys)\/(aM K H a xs/\aM K H b ys))/\∀(j:Nat) x y,xs[j]?=some x->ys[j]?=some y->qS K H n x y
def V1(K:W.Frag):R2:=λx y H Q=>TopD K H x y/\Q (.bl true) H
theorem KZ(K:W.Frag)(hK:X.K=K)(hu:X.A.units+64<cLine):nX X (compareOp .Eq) (V1 K):=by
 subst hK
 intro pins s σ H x y v u Q I rx ry h
 obtain⟨⟨n,a,b,xs,ys,rfl,rfl,hn,hl,hk,hs⟩,q⟩:=h
 cases rx;cases ry
 rcases hk with ⟨ha,hb⟩|⟨ha,hb⟩
 ·obtain⟨its,r1,p1,_⟩:=I.tuple ha
  obtain⟨its2,r2,p2,_⟩:=I.tuple hb
  refine SeqAt.eq_tupleAt (e:=λ_=>true) p1 p2 'b' (λj h1 h2=>kJ (R:=λ_ _=>True) r1 r2 (λj x y u w ex ey ru rw'=>zx I (hs j x y ex ey) (by show X.A.units+1+n<cLine;omega) ru rw') j h1 h2) ⟨.bl true,H,I,?_,q⟩
  show Value.bool _=Value.bool _
  rw[all_true,aam,aam,←r1.length,←r2.length,hl];simp
 ·obtain⟨its,r1,p1,_⟩:=I.list ha
  obtain⟨its2,r2,p2,_⟩:=I.list hb
  refine SeqAt.eq_listAt (e:=λ_=>true) p1.isList p2.isList (by rw[aam,aam,←r1.length,←r2.length,hl]) 'b' (λj h1 h2=>kJ (R:=λ_ _=>True) r1 r2 (λj x y u w ex ey ru rw'=>zx I (hs j x y ex ey) (by show X.A.units+1+n<cLine;omega) ru rw') j h1 h2) ⟨.bl true,H,I,?_,q⟩
  show Value.bool _=Value.bool _
  rw[all_true]
def P7(K:W.Frag):List V->Hp->VK->Prop:=λxs H Q=>∃(a:Addr)(c:String)(ys:List V)(b:Bool),xs=[.ref a,.ty c]/\((bR K H a ys/\W.kitOne K (.type "tuple") (.type c)=some b)\/(aM K H a ys/\W.kitOne K (.type "list") (.type c)=some b))/\Q (.bl b) H
theorem Ci(K:W.Frag)(hK:X.K=K):fM X (.builtin "isinstance") (P7 K):=by
 subst hK
 intro pins s σ H xs us Q I r h
 obtain⟨a,c,ys,b,rfl,hk,q⟩:=h
 obtain⟨u,w',rfl,ru,rw'⟩:=vals2 r
 cases ru;cases rw'
 have fin:∀tk,EP X pins σ Q (.bool b) {s with toks:=tk}:=λtk=>⟨.bl b,H,I.tok tk,rfl,q⟩
 rcases hk with ⟨ha,e⟩|⟨ha,e⟩
 ·obtain⟨its,r1,p1,_⟩:=I.tuple ha
  obtain⟨o,h1,h2,_⟩:=p1
  exact abf W.kitx_tuple I.jd ⟨o,h1,h2⟩ e (λz=>nomatch z) fin
 ·obtain⟨its,r1,p1,_⟩:=I.list ha
  obtain⟨o,h1,h2,_⟩:=p1.isList
  exact abf W.kitx_list I.jd ⟨o,h1,h2⟩ e (λz=>nomatch z) fin
end
section
variable{X:Cx}
theorem qT{x:Str}{z:Int}{t:Tok}{pos:Pos}(hg:Gl X x)(hm:X.mg x=some (.int z t))(hd:(x==("__debug__":Str))=false:=by decide):PE X (.Name x pos) (tC (.int z)):=zZ hg hm ⟨t,rfl⟩ hd
end
section
variable{X:Cx}{CX:HK}{k:Nat}{f C:Addr}{fd:FuncData}{ps ks:List Str}{sp:Sp}{E:XK}{x m:Str}{p pos apos kpos:Pos}{e o:Expr}{es:List Expr}{kws:List Keyword}{te ta:TE}{t tk:TA}{nm:Option Str}{g:List Value->List Value->List Value}{gV:List V->List V->List V}
end
section
variable{X:Cx}{pins:List 'g'}{σ:St}{H:Hp}{s:Shared}
end
section
variable{X:Cx}
end
theorem K0{X:Cx}:UN X (λx lo hi H Q=>∃z,x=.str z/\z.length<=sizeLine/\Q (.str (Txt.slice z lo hi)) H):=by
 intro pins s σ H x v vl vu lo hi sl Q I rx hs pl pu h
 obtain⟨z,rfl,hz,q⟩:=h
 obtain⟨t,rfl⟩:=rx
 refine⟨"str",_,F.slot_str_getitem.lookup,typeIs_str _ _ _,?_⟩
 cases pl with
 |none =>
  cases pu with
  |none=>exact abr (l:=none) (u:=none) (st:=none) hs rfl (post_val_or_str ⟨aay (Txt.slice_le z _ _) hz,λt' k=>⟨.str _,H,I.tok _,⟨_,rfl⟩,q⟩⟩)
  |int j uj=>exact abr (l:=none) (u:=some (j,uj)) (st:=none) hs rfl (post_val_or_str ⟨aay (Txt.slice_le z _ _) hz,λt' k=>⟨.str _,H,I.tok _,⟨_,rfl⟩,q⟩⟩)
 |int i ui =>
  cases pu with
  |none=>exact abr (l:=some (i,ui)) (u:=none) (st:=none) hs rfl (post_val_or_str ⟨aay (Txt.slice_le z _ _) hz,λt' k=>⟨.str _,H,I.tok _,⟨_,rfl⟩,q⟩⟩)
  |int j uj=>exact abr (l:=some (i,ui)) (u:=some (j,uj)) (st:=none) hs rfl (post_val_or_str ⟨aay (Txt.slice_le z _ _) hz,λt' k=>⟨.str _,H,I.tok _,⟨_,rfl⟩,q⟩⟩)
section
variable{X:Cx}{pins:List 'g'}{σ:St}{H:Hp}{s:Shared}{h':Heap}
theorem Inv.GY{t':Nat}{wr:List Addr}(I:Inv X pins σ H s)(k:∀b o,b∉wr->s.heap.get? b=some o->h'.get? b=some o)(hf:∀it∈wr,jC X pins H it):Inv X pins σ H {s with heap:=h',toks:=t'}:=by
 have Sa:∀b u,H b=some u->b∉wr:=λb u e z=>by rw[(hf b z).1]at e;cases e
 have hL:X.env.locals∉wr:=λz=>(hf _ z).2.1 rfl
 refine I.step (g':=s.gens) (d':=s.drawn) (ch:=wr) (λb hb=>?_) (λb o _ _ hc e _=>k b o hc e) (λb o _ _ hc e _=>⟨o.slots,k b o hc e⟩) (λ_ _ _ _ n=>n)
  (λb o hc e=>⟨o,k b o hc e⟩) (λ_ _ e=>e) (λ_ _ _ e=>e) (λb ps e=>⟨#[],by rw[e];simp⟩) (λm hm=>?_) (λb u e=>?_) I.bare
 ·obtain⟨f0,f1,f2,f3,f4,f5⟩:=hf b hb
  exact⟨f3,f1,f4,f5⟩
 ·obtain⟨o,es,ep,ho,r⟩:=hm
  exact⟨o,es,ep,k _ o hL ho,r⟩
 ·refine(I.hok b u e).stay (λc v hc q=>k c v ?_ q) (λ_ q=>q) λ_ _ q=>q
  rcases hc with z|z
  ·rw[z];exact Sa b u e
  ·exact Sa c _ z
end
def hmid(h h2:Heap):Heap:=⟨h.objs++(h2.objs.toList.drop h.objs.size).toArray,h2.life⟩
theorem K3{h h2:Heap}{a:Addr}(ha:a<h.objs.size):(hmid h h2).get? a=h.get? a:=by
 have e:(hmid h h2).objs[a]?=h.objs[a]?:=Array.getElem?_append_left ha
 unfold Heap.get?
 rw[e]
theorem K4{h h2:Heap}{a:Addr}(ha:h.objs.size<=a):(hmid h h2).get? a=h2.get? a:=by
 have e:(hmid h h2).objs[a]?=h2.objs[a]?:=by
  show(h.objs++(h2.objs.toList.drop h.objs.size).toArray)[a]?=_
  rw[Array.getElem?_append_right ha,List.getElem?_toArray,List.getElem?_drop,Array.getElem?_toList]
  congr 1
  omega
 unfold Heap.get?
 rw[e]
theorem tF{X:Cx}{pins:List 'g'}{σ:St}{H:Hp}{s:Shared}{E:Value->Shared->Prop}{it:Addr}{V2 wr fp:List Addr}{n:Nat}{Pt:Nat->Array Value->Prop}{RP:Nat->Heap->Prop}{Mid:Nat->Addr->Heap->Prop}{elts:List Expr}{k:Nat}{pos:Pos}{J:It}{tn:Nat->Heap->Prop}{i:Nat}(W:WalksT X.prog X.w X.A it V2 wr n Pt RP Mid)(I:Inv X pins σ H s)(hfp:∀b∈fp,jC X pins H b)(hwr:∀b∈wr,b∈fp)(hsz:∀b∈fp,b<s.heap.objs.size)(hi:i<n)(hst:RP i s.heap)(hv:∀vals,Pt i vals->∃vs:List V,vs.length<=sizeLine/\Vals vs vals.toList/\∀T,H T=none->J.J4 i H (.ref T) (upd H T (.tup vs)))(htn:∀h,RP (i+1) h->tn (i+1) h):wpAny 'd' X.A (pyNext (.ref it)) (λr s1=>∃u,r=some u/\wpAny 'd' X.A (letOwnedTupleGo (.Tuple elts k pos) (.ref it) u) (λ_ s2=>∃x H',Inv X pins σ H' s2/\RelV x u/\J.J4 i H x H'/\tn (i+1) s2.heap/\∀b∈fp,H' b=none) E s1) E s:=by
 refine W.item i s _ E hi hst λT vals h1 tk hPt hT V3 SV hk=>⟨.ref T,rfl,?_⟩
 have hap:=W.apart i T h1 SV
 refine W.go elts k pos i T _ _ E SV λh2 hSt hk2=>?_
 obtain⟨vs,hlen,SW,hy⟩:=hv vals hPt
 have hTn:H T=none:=I.hok.fresh hT
 obtain⟨o,ho,hoc,m,hod⟩:=V3
 have ho2:h2.get? T=some o:=hk2 T o hap ho
 have I1:Inv X pins σ (upd H T (.tup vs)) {s with heap:=hmid s.heap h2,toks:=tk}:=by
  refine I.laid (λb u e=>(K3 (aao e)).trans e) hT ?_
  refine⟨hlen,vals.toList,SW,⟨o,(K4 hT).trans ho2,hoc,m,?_⟩⟩
  rw[hod]
 have hne:∀b∈fp,b≠T:=λb hb e=>by
  have:=hsz b hb
  rw[e]at this
  exact absurd this (Nat.not_lt.mpr hT)
 have I2:=I1.GY (h':=h2) (t':=tk) (wr:=wr) (λb ob hb e=>?_) (λb hb=>?_)
 ·exact⟨.ref T,_,I2,O,hy T hTn,htn _ hSt,λb hb=>(aB (hne b hb)).trans (hfp b hb).1⟩
 ·by_cases hlt:b<s.heap.objs.size
  ·have e:s.heap.get? b=some ob:=(K3 hlt).symm.trans e
   exact hk2 b ob hb (hk b ob hb e)
  ·exact(K4 (Nat.le_of_not_lt hlt)).symm.trans e
 ·have f:=hfp b (hwr b hb)
  exact⟨(aB (hne b (hwr b hb))).trans f.1,f.2⟩
theorem tG{X:Cx}{pins:List 'g'}{σ:St}{H:Hp}{s:Shared}{E:Value->Shared->Prop}{it:Addr}{V2 wr fp:List Addr}{n:Nat}{Pt:Nat->Array Value->Prop}{RP:Nat->Heap->Prop}{Mid:Nat->Addr->Heap->Prop}(W:WalksT X.prog X.w X.A it V2 wr n Pt RP Mid)(I:Inv X pins σ H s)(hfp:∀b∈fp,jC X pins H b)(hwr:∀b∈wr,b∈fp)(hst:RP n s.heap):wpAny 'd' X.A (pyNext (.ref it)) (λr s1=>r=none/\Inv X pins σ H s1) E s :=
 W.done s _ E hst λh1 tk hk=>⟨rfl,I.GY (h':=h1) (t':=tk) (wr:=wr) hk λb hb=>hfp b (hwr b hb)⟩
def UR(K:W.Frag)(a b:Addr):It :=
 ⟨λi H=>∃xs ys x y,aM K H a xs/\aM K H b ys/\xs[i]?=some x/\ys[i]?=some y,λi H v H'=>∃t x y,H t=none/\v=.ref t/\H'=upd H t (.tup [x,y])/\(∀xs,aM K H a xs->xs[i]?=some x)/\(∀ys,aM K H b ys->ys[i]?=some y),λi H=>∃xs ys,aM K H a xs/\aM K H b ys/\min xs.length ys.length=i⟩
theorem K5{P:Program}{w:World}{K:W.Frag}{elts:List Expr}{k:Nat}{pos:Pos}{z TI TO i1 i2 l1 l2:Addr}(D:ZipApart z TI TO i1 i2 l1 l2):Turn P w K (.Tuple elts k pos) (UR K l1 l2) [z,TI,TO,i1,i2] z (λi h=>IsZip h z TI TO .none/\IsPair h TI (.ref i1) (.ref i2)/\(∃a b,IsPair h TO a b)/\h.IsListIter i1 l1 i/\h.IsListIter i2 l2 i) where
 mem:=by simp
 obj:=λi h st b hb=>by
  obtain⟨hz,hTI,⟨x,y,hTO⟩,⟨o1,e1,c1,d1⟩,⟨o2,e2,c2,d2⟩⟩:=st
  simp only[aat,aaV,abh]at hb
  rcases hb with rfl|rfl|rfl|rfl|rfl
  ·exact⟨_,hz,λv q=>by cases q⟩
  ·exact⟨_,hTI,λv q=>by cases q⟩
  ·exact⟨_,hTO,λv q=>by cases q⟩
  ·exact⟨_,e1,λv q=>by rw[d1]at q;cases q⟩
  ·exact⟨_,e2,λv q=>by rw[d2]at q;cases q⟩
 keep:=λi h h' st k=>by
  obtain⟨hz,hTI,⟨x,y,hTO⟩,q1,q2⟩:=st
  exact⟨k z (by simp) _ hz,k TI (by simp) _ hTI,⟨x,y,k TO (by simp) _ hTO⟩,q1.at λo e=>k i1 (by simp) o e,q2.at λo e=>k i2 (by simp) o e⟩
 item:=by
  intro X hP hw hK hc i pins s σ H E I hf st hg
  subst hP hw hK
  obtain⟨xs,ys,x,y,hx,hy,ex,ey⟩:=hg
  obtain⟨its,rv,p,hz⟩:=I.list hx
  obtain⟨its2,US,p2,hz2⟩:=I.list hy
  obtain⟨u,hu,ru⟩:=rv.get ex
  obtain⟨u2,YU,ru2⟩:=US.get ey
  obtain⟨s1,s2,s3,s4,s5⟩:=id st
  have W:=WalksT.zip2 (prog:=X.prog) (w:=X.w) (A:=X.A) (I.ok.hd hc) z TI TO i1 i2 l1 l2 D its.toArray its2.toArray
  have hsub:∀b∈[z,TO,i1,i2],b∈[z,TI,TO,i1,i2]:=by intro b hb;simp at hb⊢;rcases hb with h|h|h|h<;>simp[h]
  refine tF (J:=UR X.K l1 l2) (tn:=λi h=>IsZip h z TI TO .none/\IsPair h TI (.ref i1) (.ref i2)/\(∃a b,IsPair h TO a b)/\h.IsListIter i1 l1 i/\h.IsListIter i2 l2 i) W I hf hsub ?_ ?_ ?_ ?_ ?_
  ·intro b hb
   simp only[aat,aaV,abh]at hb
   obtain⟨x',y',s3⟩:=s3
   obtain⟨o1,e1,_⟩:=s4
   obtain⟨o2,e2,_⟩:=s5
   rcases hb with rfl|rfl|rfl|rfl|rfl
   ·exact aao s1
   ·exact aao s2
   ·exact aao s3
   ·exact aao e1
   ·exact aao e2
  ·have h1:=(aaj.mp hu).1
   have h2:=(aaj.mp YU).1
   simp only[aam]
   omega
  ·exact⟨s1,s2,s3,s4,s5,p.isList,p2.isList⟩
  ·intro vals hp
   obtain⟨v1,v2,e1,e2,rfl⟩:=hp
   have e1:its[i]?=some v1:=by simpa using e1
   have e2:its2[i]?=some v2:=by simpa using e2
   rw[hu]at e1;cases e1
   rw[YU]at e2;cases e2
   exact⟨[x,y],(by show 2<=sizeLine;decide),.cons ru (.cons ru2 .nil),λT hT=>⟨T,x,y,hT,O,O,λzs hz=>by rw[I.mq hz hx];exact ex,λzs hz=>by rw[I.mq hz hy];exact ey⟩⟩
  ·exact λh q=>⟨q.1,q.2.1,q.2.2.1,q.2.2.2.1,q.2.2.2.2.1⟩
 done:=by
  intro X hP hw hK hc i pins s σ H E I hf st hg
  subst hP hw hK
  obtain⟨xs,ys,hx,hy,hmin⟩:=hg
  obtain⟨its,rv,p,hz⟩:=I.list hx
  obtain⟨its2,US,p2,hz2⟩:=I.list hy
  obtain⟨s1,s2,s3,s4,s5⟩:=id st
  have e:i=min its.toArray.size its2.toArray.size:=by rw[aam,aam,←rv.length,←US.length,hmin]
  subst e
  have W:=WalksT.zip2 (prog:=X.prog) (w:=X.w) (A:=X.A) (I.ok.hd hc) z TI TO i1 i2 l1 l2 D its.toArray its2.toArray
  have hsub:∀b∈[z,TO,i1,i2],b∈[z,TI,TO,i1,i2]:=by intro b hb;simp at hb⊢;rcases hb with h|h|h|h<;>simp[h]
  exact tG W I hf hsub ⟨s1,s2,s3,s4,s5,p.isList,p2.isList⟩
 self:=λ_ _ _ _ _ st h=>wpAny_pyIter_zip st.1 h
theorem K6(I l1 l2:Nat)(h1:@LT.lt Nat _ l1 I)(h2:@LT.lt Nat _ l2 I):ZipApart (I+4) (I+2) (I+3) I (I+1) l1 l2:=by
 constructor<;>(intro e;have e':=@id (@Eq Nat _ _) e;omega)
def V4(K:W.Frag)(ta:TA):TI:=λσ H R=>ta σ H λvs H1=>∃a b,vs=[.ref a,.ref b]/\(∃xs,aM K H1 a xs)/\(∃ys,aM K H1 b ys)/\R (UR K a b) H1
theorem GZ{X:Cx}{elts:List Expr}{k:Nat}{tpos:Pos}{a b:Expr}{ta:TA}{p pos:Pos}(K:W.Frag)(hK:X.K=K)(hg:Gl X "zip")(hm:X.mg "zip"=none)(ha:PA X [a,b] ta)(hs:starEach [a,b] X.env=[(false,eval a X.env),(false,eval b X.env)]:=by rfl)(hs2:starEach [b] X.env=[(false,eval b X.env)]:=by rfl):PI X (.Tuple elts k tpos) (.Call (.Name "zip" p) [a,b] [] pos) (V4 K ta):=by
 subst hK
 intro pins s σ H R I h
 refine Call_ (jz I hg hm (u:=.type "zip") 'h' (aaQ (bY (ha pos pins s σ H _ I h) λus s1 ⟨vs,H1,I1,r1,q1⟩=>?_) (by rw[hs,hs2]) (by rw[hs2];rfl)))
 obtain⟨l1,l2,e,⟨xs,hx⟩,⟨ys,hy⟩,q⟩:=q1
 subst e
 cases r1 with
 |cons r rr =>
  cases rr with
  |cons r' rr =>
   cases rr
   cases r;cases r'
   obtain⟨its,rv,pl,hz⟩:=I1.list hx
   obtain⟨its2,US,YV,hz2⟩:=I1.list hy
   have V5:l1<s1.heap.objs.size:=by obtain⟨o,ho,_⟩:=pl.isList;exact aao ho
   have V6:l2<s1.heap.objs.size:=by obtain⟨o,ho,_⟩:=YV.isList;exact aao ho
   refine call_zip_2 pl.isList YV.isList λh' hz' hTI hTO hi1 hi2 hsz hk=>?_
   refine wpAny_pyIter_zip hz' ?_
   have D:=K6 s1.heap.objs.size l1 l2 V5 V6
   have I2:Inv X pins σ H1 {s1 with heap:=h'}:=I1.kept (t':=s1.toks) λb o e=>hk b o e
   refine⟨s1.heap.objs.size+4,_,_,_,H1,O,I2,K5 D,⟨hz',hTI,⟨_,_,hTO⟩,hi1,hi2⟩,λb hb=>?_,q⟩
   have hb':s1.heap.objs.size<=b:=by
    simp only[aat,aaV,abh]at hb
    rcases hb with rfl|rfl|rfl|rfl|rfl
    ·exact abd _ _
    ·exact abd _ _
    ·exact abd _ _
    ·exact aan _
    ·exact abd _ _
   exact I1.wc hb' (I1.hok.fresh hb')
def RQ(K:W.Frag)(a:Addr):It :=
 ⟨λi H=>∃xs x,aM K H a xs/\xs[i]?=some x,λi H v H'=>∃t x,H t=none/\v=.ref t/\H'=upd H t (.tup [.int i,x])/\∀xs,aM K H a xs->xs[i]?=some x,λi H=>∃xs,aM K H a xs/\xs.length=i⟩
theorem HP{P:Program}{w:World}{K:W.Frag}{elts:List Expr}{k:Nat}{pos:Pos}{e it l:Addr}(hei:e≠it)(hle:l≠e)(hli:l≠it):Turn P w K (.Tuple elts k pos) (RQ K l) [e,it] e (λi h=>(∃old,IsEnum h e it i old)/\h.IsListIter it l i) where
 mem:=by simp
 obj:=λi h st b hb=>by
  obtain⟨⟨old,he⟩,⟨o1,e1,c1,d1⟩⟩:=st
  simp only[aat,aaV,abh]at hb
  rcases hb with rfl|rfl
  ·exact⟨_,he,λv q=>by cases q⟩
  ·exact⟨_,e1,λv q=>by rw[d1]at q;cases q⟩
 keep:=λi h h' st k=>by
  obtain⟨⟨old,he⟩,q1⟩:=st
  exact⟨⟨old,k e (by simp) _ he⟩,q1.at λo x=>k it (by simp) o x⟩
 item:=by
  intro X hP hw hK hc i pins s σ H E I hf st hg
  subst hP hw hK
  obtain⟨xs,x,hx,ex⟩:=hg
  obtain⟨its,rv,p,hz⟩:=I.list hx
  obtain⟨u,hu,ru⟩:=rv.get ex
  obtain⟨s1,s2⟩:=id st
  have W:=WalksT.enumerate (prog:=X.prog) (w:=X.w) (A:=X.A) (I.ok.hd hc) e it l hei hle hli its.toArray
  refine tF (J:=RQ X.K l) (tn:=λi h=>(∃old,IsEnum h e it i old)/\h.IsListIter it l i) W I hf (λb hb=>hb) ?_ ?_ ?_ ?_ ?_
  ·intro b hb
   simp only[aat,aaV,abh]at hb
   obtain⟨old,s1⟩:=s1
   obtain⟨o1,e1,_⟩:=s2
   rcases hb with rfl|rfl
   ·exact aao s1
   ·exact aao e1
  ·have h1:=(aaj.mp hu).1
   simpa using h1
  ·exact⟨s1,s2,p.isList⟩
  ·intro vals hp
   obtain⟨t,v1,e1,rfl⟩:=hp
   have e1:its[i]?=some v1:=by simpa using e1
   rw[hu]at e1;cases e1
   exact⟨[.int i,x],(by show 2<=sizeLine;decide),.cons ⟨_,O⟩ (.cons ru .nil),λT hT=>⟨T,x,hT,O,O,λzs hz=>by rw[I.mq hz hx];exact ex⟩⟩
  ·exact λh q=>⟨q.1,q.2.1⟩
 done:=by
  intro X hP hw hK hc i pins s σ H E I hf st hg
  subst hP hw hK
  obtain⟨xs,hx,hlen⟩:=hg
  obtain⟨its,rv,p,hz⟩:=I.list hx
  obtain⟨s1,s2⟩:=id st
  have e':i=its.toArray.size:=by rw[aam,←rv.length,hlen]
  subst e'
  have W:=WalksT.enumerate (prog:=X.prog) (w:=X.w) (A:=X.A) (I.ok.hd hc) e it l hei hle hli its.toArray
  exact tG W I hf (λb hb=>hb) ⟨s1,s2,p.isList⟩
 self:=λ_ _ _ _ _ st h=>by
  obtain⟨⟨old,he⟩,_⟩:=st
  exact wpAny_pyIter_enum he h
def SX(K:W.Frag)(ta:TA):TI:=λσ H R=>ta σ H λvs H1=>∃a,vs=[.ref a]/\(∃xs,aM K H1 a xs)/\R (RQ K a) H1
theorem K7{X:Cx}{elts:List Expr}{k:Nat}{tpos:Pos}{a:Expr}{ta:TA}{p pos:Pos}(K:W.Frag)(hK:X.K=K)(hg:Gl X "enumerate")(hm:X.mg "enumerate"=none)(ha:PA X [a] ta)(hs:starEach [a] X.env=[(false,eval a X.env)]:=by rfl):PI X (.Tuple elts k tpos) (.Call (.Name "enumerate" p) [a] [] pos) (SX K ta):=by
 subst hK
 intro pins s σ H R I h
 refine Call_ (jz I hg hm (u:=.type "enumerate") 'h' (aaQ (bY (ha pos pins s σ H _ I h) λus s1 ⟨vs,H1,I1,r1,q1⟩=>?_) hs rfl))
 obtain⟨l,e,⟨xs,hx⟩,q⟩:=q1
 subst e
 cases r1 with
 |cons r rr =>
  cases rr
  cases r
  obtain⟨its,rv,pl,hz⟩:=I1.list hx
  have hlt:l<s1.heap.objs.size:=by obtain⟨o,ho,_⟩:=pl.isList;exact aao ho
  refine call_enumerate_list pl.isList λh' hE hI hsz hk=>?_
  refine wpAny_pyIter_enum hE ?_
  have I2:Inv X pins σ H1 {s1 with heap:=h'}:=I1.kept (t':=s1.toks) λb o e=>hk b o e
  refine⟨s1.heap.objs.size+1,_,_,_,H1,O,I2,HP (Nat.succ_ne_self _) (aaH (Nat.lt_succ_of_lt hlt)) (aaH hlt),⟨⟨_,hE⟩,hI⟩,λb hb=>?_,q⟩
  have hb':s1.heap.objs.size<=b:=by
   simp only[aat,aaV,abh]at hb
   rcases hb with rfl|rfl
   ·exact abd _ _
   ·exact aan _
  exact I1.wc hb' (I1.hok.fresh hb')
theorem K8{K:W.Frag}{a:Addr}{xs:List V}{g:TG}{tb:TS}{D:Ends}{σ:St}{H:Hp}(Pv:Nat->St->Hp->Prop)(h0:Pv 0 σ H)(hl:∀i σ H,i<=xs.length->Pv i σ H->aM K H a xs)(hs:∀i x t σ H,xs[i]?=some x->H t=none->Pv i σ H->g (.ref t) σ (upd H t (.tup [.int i,x])) λσ2 H2=>tb {D with nx:=Pv (i+1),ct:=Pv (i+1),bk:=D.nx} σ2 H2)(hd:∀σ H,Pv xs.length σ H->D.nx σ H):∃W:Nat->Nat->St->Hp->Prop,(∃m,W 0 m σ H)/\∀i m σ H,W i m σ H->((RQ K a).stop i H/\D.nx σ H)\/((RQ K a).go i H/\∃N:St->Hp->Prop,(∀σ' H',N σ' H'->∃m',m'<m/\W (i+1) m' σ' H')/\∀x H',(RQ K a).J4 i H x H'->g x σ H' λσ2 H2=>tb {D with nx:=N,ct:=N,bk:=D.nx} σ2 H2):=by
 refine⟨λi m σ H=>m=xs.length-i/\i<=xs.length/\Pv i σ H,⟨xs.length,by simp,aaY _,h0⟩,?_⟩
 rintro i m σ H ⟨rfl,hi,p⟩
 have q:=hl i σ H hi p
 by_cases hlt:i<xs.length
 ·refine .inr ⟨⟨xs,xs[i],q,by simp[hlt]⟩,Pv (i+1),λσ' H' p'=>⟨xs.length-(i+1),by omega,rfl,hlt,p'⟩,λv H' y=>?_⟩
  obtain⟨t,x,ht,e1,e2,ex⟩:=y
  subst e1 e2
  exact hs i x t σ _ (ex xs q) ht p
 ·have e:i=xs.length:=by omega
  subst e
  exact .inl ⟨⟨xs,q,rfl⟩,hd σ H p⟩
theorem wC{y:V}:∀{xs:List V}{us:List Value},Vals xs us->xs.all cU=true->us.countP (UO y)=xs.countP (λz=>zv z y)
 |_,_,.nil,_=>rfl
 |x::xs,u::us,.cons r t,f=>by
  rw[List.all_cons,Bool.and_eq_true]at f
  rw[List.countP_cons,List.countP_cons,wC t f.2,KJ r f.1]
section
variable{X:Cx}
def G0(K:W.Frag):V->List V->Hp->VK->Prop:=λx vs H Q=>∃(p:Addr)(xs:List V)(y:V),x=.ref p/\vs=[y]/\aM K H p xs/\cU y=true/\xs.all cU=true/\Q (.int (xs.countP λz=>zv z y:Nat)) H
theorem HQ:Ng X "list.count" (G0 X.K):=by
 intro pins s σ H x vs v us Q I rx rv h
 obtain⟨p,xs,y,rfl,rfl,hq,fy,fs,q⟩:=h
 cases rx
 obtain⟨u,rfl,ru⟩:=rv.one
 obtain⟨its,r,pl,_⟩:=I.list hq
 obtain⟨⟨cls,dd,data,sl⟩,ho,hc,n,hd⟩:=pl.isList
 simp only at hc hd
 subst hc hd
 refine call_meets F.slot_list_count ⟨_,ho,rfl⟩ F.entry_list_count (F.args_list_count_2 _ _) (SeqAt.list_countAt p its.toArray n dd sl u (UO y)) ⟨ho,λw hw=>Ca ru fy r fs w (by simpa using hw),?_⟩
 refine⟨.int _,H,I.tok _,⟨_,O⟩,?_⟩
 rw[show its.toArray.toList=its from rfl,wC r fs]
 exact q
theorem Ej(K:W.Frag)(h:X.K=K):Ng X "list.count" (G0 K):=by subst h;exact HQ
def V7(K:W.Frag):R2:=λx y H Q=>∃a b xs,x=.ref a/\y=.ref b/\aM K H a xs/\aM K H b []/\Q (.bl xs.isEmpty) H
theorem Ek(K:W.Frag)(hK:X.K=K)(hu:X.A.units<cLine):nX X (compareOp .Eq) (V7 K):=by
 subst hK
 intro pins s σ H x y v u Q I rx ry h
 obtain⟨a,b,xs,rfl,rfl,ha,hb,q⟩:=h
 cases rx
 cases ry
 obtain⟨its,r1,p1,_⟩:=I.list ha
 obtain⟨its2,r2,p2,_⟩:=I.list hb
 cases r2
 show wpAny _ _ (richCompare .Eq (.ref a) (.ref b)) _ _ _
 cases xs with
 |nil =>
  cases r1
  refine SeqAt.RcAt.lists (e:=λ_=>true) p1.isList p2.isList rfl hu (λj h1 _=>absurd h1 (by simp)) _ _ _ _ ⟨.bl true,H,I,?_,q⟩
  simp[RelV]
 |cons x xs =>
  cases r1 with
  |cons r rr =>
   exact SeqAt.RcAt.lists_lengths p1.isList p2.isList (by simp) hu _ _ _ _ ⟨.bl false,H,I,rfl,q⟩
def P8(z:Str)(n:Nat):Str:=⟨(List.replicate n z.cps).foldl (· ++ ·) #[]⟩
def SY:R2:=λx y H Q=>∃(z:Str)(k:Int),x=.str z/\y=.int k/\2<=k/\k<1000000/\1<=z.length/\z.length*k.toNat<=1000000/\Q (.str (P8 z k.toNat)) H
theorem Ny:nX X (binaryOp .Mult) SY:=by
 intro pins s σ H x y v u Q I rx ry h
 obtain⟨z,k,rfl,rfl,hk,hk2,hz,hl,q⟩:=h
 obtain⟨t,rfl⟩:=rx
 obtain⟨t',rfl⟩:=ry
 have e1:¬k<1:=by omega
 have e2:(k==1||z.length==0)=false:=by
  have h1:(k==1)=false:=by simp;omega
  have h2:(z.length==0)=false:=by simp;omega
  rw[h1,h2];rfl
 have tl:Builtin.Str.tooLong (z.length*k.toNat)=false:=by
  unfold Builtin.Str.tooLong
  have hsl:1000000<=sizeLine:=by decide
  simp
  omega
 refine P.mul_str (by simp;omega) (λ_ _=>?_) (λ_ _=>tl) ?_
 ·intro h
  have hzz:(z.length:Int)<=1000000:=by
   have:z.length*1<=z.length*k.toNat:=Nat.mul_le_mul_left _ 'b'
   omega
  have h3:(1000000:Int)<=(2 ^ 63-1) / k:=by
   rw[Int.le_ediv_iff_mul_le 'b']
   omega
  omega
 ·rw[aag e1,e2,aag 'c']
  exact⟨fits_reps tl,⟨.str _,H,I.tok _,⟨_,O⟩,q⟩⟩
end
def HR(i:Int)(n:Nat):List V:=(List.range n).map λ(k:Nat)=>V.int (i+k)
theorem HS{a:Int}{n:Nat}{acc:Array Value}(h:ItemsOf (λi v=>∃t,v=.int (a+i*1) t) acc n):Vals (HR a n) acc.toList:=by
 have key:∀(m:Nat),m<=n->Vals ((List.range m).map λ(k:Nat)=>V.int (a+k)) (acc.toList.take m):=by
  intro m
  induction m with
  |zero=>intro _;exact .nil
  |succ m ih =>
   intro hm
   have hsz:m<acc.size:=by rw[h.1];omega
   have hx:acc.toList[m]?=some acc[m]:=by simp[hsz]
   obtain⟨t,et⟩:=h.2 m acc[m] (by simp[hsz])
   rw[List.range_succ,aaF,List.take_succ,hx]
   refine(ih 'b').append (.cons ⟨t,?_⟩ .nil)
   rw[et,Int.mul_one]
 have:=key n (aan _)
 rw[aaK (by rw[aaE,h.1];exact aan _)]at this
 exact this
section
variable{X:Cx}
end
section
variable{prog:Program}{w:World}{A:Around}{E:Value->Shared->Prop}{s:Shared}
theorem Nz{z TI TO i1 i2 l:Addr}{n1 n2 k:Nat}{P1 P2:Nat->Value->Prop}{S1 S2:Nat->Heap->Prop}{a b:Value}{Q:Value->Shared->Prop}(D:ZipApart z TI TO i1 i2 l l)(G1:Draws prog w A i1 [i1] n1 P1 S1)(G2:Draws prog w A i2 [i2,l] n2 P2 S2)(hz:IsZip s.heap z TI TO .none)(hTI:IsPair s.heap TI (.ref i1) (.ref i2))(hTO:IsPair s.heap TO a b)(g1:S1 k s.heap)(g2:S2 k s.heap)(k1:k<n1)(k2:k<n2)(hQ:∀h' tk x y,P1 k x->P2 k y->IsZip h' z TI TO (rawInt s.heap.objs.size)->IsPair h' TO x y->S1 (k+1) h'->S2 (k+1) h'->IsPair h' s.heap.objs.size x y->(∀c o,c≠z->c≠TO->c≠i1->c≠i2->s.heap.get? c=some o->h'.get? c=some o)->Q (.ref s.heap.objs.size) {s with heap:=h',toks:=tk}):wpAny (model prog w) A (Builtin.«zip.__next__» ⟨[.ref z],[]⟩) (λfin s'=>∃v,fin=.done (.ret v)/\Q v s') E s:=by
 have e1:∀{i:Nat}{h h':Heap}{c:Addr},Heap.SameBut c h h'->i1≠c->S1 i h->S1 i h':=λhs hn g=>G1.frame _ _ _ g λb hb o e=>by
  rw[aap.mp hb]at e⊢;exact hs.extBut _ _ hn e
 have e2:∀{i:Nat}{h h':Heap}{c:Addr},Heap.SameBut c h h'->i2≠c->l≠c->S2 i h->S2 i h':=λhs hn hl g=>G2.frame _ _ _ g λb hb o e=>by
  rcases aat.mp hb with q|q
  ·rw[q]at e⊢;exact hs.extBut _ _ hn e
  ·rw[aap.mp q]at e⊢;exact hs.extBut _ _ hl e
 show wpAny _ _ (field (.ref z) 2 >>= _) _ _ _
 refine aaf (aaZ hz rfl (x:=.bool false) rfl ?_)
 show wpAny _ _ (field (.ref z) 3 >>= _) _ _ _
 refine aaf (aaZ hz rfl (x:=.ref TI) rfl (aaf (wpAny_seqItems hTI rfl ?_)))
 show wpAny _ _ (Builtin.SmallTypes.ownedTupleIsFree (.ref z) >>= _) _ _ _
 refine aaf ?_
 unfold Builtin.SmallTypes.ownedTupleIsFree
 refine aaf (aaZ hz rfl (x:=.none) rfl (aar ?_))
 simp only[if_true]
 refine aaf (wpAny_rule (aaf (aaZ hz rfl (x:=.ref TO) rfl (aaf (abv hz (by simp) λA1 z1 q1=>?_)))))
 replace z1:IsZip A1 z TI TO .ellipsis:=z1
 refine aaf ?_
 simp only[List.zipIdx_cons,List.zipIdx_nil,List.forIn_cons,List.forIn_nil]
 refine aaf (aaf (wpAny_onRaise ?_))
 show wpAny _ _ (Builtin.SmallTypes.nextOf (.ref i1) >>= _) _ _ _
 refine aaf (G1.item k _ _ _ k1 (e1 q1 D.i1z g1) λx A2 tk px YW q2=>aar ?_)
 have o2:IsPair A2 TO a b:=q2.extBut _ _ D.TOi1 (q1.extBut _ _ D.TOz hTO)
 refine aaf (wpAny_seqItems o2 rfl (aaf (wpAny_updateSeq_pair o2 λA3 o3 q3=>?_)))
 replace o3:IsPair A3 TO x b:=o3
 refine aaf (wpAny_letGo (aar (aaf (aaf (wpAny_onRaise ?_)))))
 show wpAny _ _ (Builtin.SmallTypes.nextOf (.ref i2) >>= _) _ _ _
 refine aaf (G2.item k _ _ _ k2 (e2 q3 D.TOi2.symm D.l2TO (e2 q2 D.i12.symm D.l2i1 (e2 q1 D.i2z D.l2z g2))) λy A4 tk2 py g2' q4=>aar ?_)
 have o4:IsPair A4 TO x b:=q4.extBut _ _ D.TOi2 o3
 refine aaf (wpAny_seqItems o4 rfl (aaf (wpAny_updateSeq_pair o4 λA5 o5 q5=>?_)))
 replace o5:IsPair A5 TO x y:=o5
 refine aaf (wpAny_letGo (aar (aar (aaf (wpAny_seqItems o5 rfl (aaf (wpAny_newTuple ?_)))))))
 have sz:A5.objs.size=s.heap.objs.size:=by rw[q5.1,q4.1,q3.1,q2.1,q1.1]
 have z5:IsZip A5 z TI TO .ellipsis:=q5.extBut _ _ D.TOz.symm (q4.extBut _ _ D.i2z.symm (q3.extBut _ _ D.TOz.symm (q2.extBut _ _ D.i1z.symm z1)))
 have w1:S1 (k+1) A5:=e1 q5 D.TOi1.symm (e1 q4 D.i12 (e1 q3 D.TOi1.symm YW))
 have w2:S2 (k+1) A5:=e2 q5 D.TOi2.symm D.l2TO g2'
 have kp:∀c o,c≠z->c≠TO->c≠i1->c≠i2->s.heap.get? c=some o->A5.get? c=some o:=λc o c1 c2 c3 c4 e=>q5.extBut _ _ c2 (q4.extBut _ _ c4 (q3.extBut _ _ c2 (q2.extBut _ _ c3 (q1.extBut _ _ c1 e))))
 have lz:z<A5.objs.size:=aao z5
 have z6:IsZip (A5.push {cls:=.type "tuple",data:=.seq #[x,y]}) z TI TO .ellipsis:=aai _ z5
 show wpAny _ _ (Builtin.SmallTypes.ownedTupleHandOut (.ref z) (.ref A5.objs.size) >>= _) _ _ _
 refine aaf ?_
 unfold Builtin.SmallTypes.ownedTupleHandOut
 refine aaf (abv z6 (by simp) λA7 z7 q7=>?_)
 replace z7:IsZip A7 z TI TO (rawInt A5.objs.size):=z7
 refine abv z7 (by simp) λA8 z8 q8=>?_
 replace z8:IsZip A8 z TI TO (rawInt A5.objs.size):=z8
 have up:∀c o,c≠z->A5.get? c=some o->A8.get? c=some o:=λc o c1 e=>q8.extBut _ _ c1 (q7.extBut _ _ c1 (aai _ e))
 have t8:IsPair A8 A5.objs.size x y:=q8.extBut _ _ (Nat.ne_of_gt lz) (q7.extBut _ _ (Nat.ne_of_gt lz) (aaz _ rfl))
 have v1:S1 (k+1) A8:=G1.frame _ _ _ w1 λb hb o e=>by
  rw[aap.mp hb]at e⊢;exact up _ o D.i1z e
 have v2:S2 (k+1) A8:=G2.frame _ _ _ w2 λb hb o e=>by
  rcases aat.mp hb with q|q
  ·rw[q]at e⊢;exact up _ o D.i2z e
  ·rw[aap.mp q]at e⊢;exact up _ o D.l2z e
 rw[sz]at z8 t8
 refine aar ⟨_,rfl,?_⟩
 show Q (.ref A5.objs.size) _
 rw[sz]
 exact hQ A8 _ x y px py z8 (up _ _ D.TOz o5) v1 v2 t8 λc o c1 c2 c3 c4 e=>up c o c1 (kp c o c1 c2 c3 c4 e)
theorem P9{z TI TO i1 i2 l:Addr}{n1 n2 k:Nat}{P1 P2:Nat->Value->Prop}{S1 S2:Nat->Heap->Prop}{a b:Value}{Q:Fin->Shared->Prop}(D:ZipApart z TI TO i1 i2 l l)(G1:Draws prog w A i1 [i1] n1 P1 S1)(G2:Draws prog w A i2 [i2,l] n2 P2 S2)(hz:IsZip s.heap z TI TO .none)(hTI:IsPair s.heap TI (.ref i1) (.ref i2))(hTO:IsPair s.heap TO a b)(g1:S1 k s.heap)(g2:S2 k s.heap)(hk:k=n1\/(k<n1/\k=n2))(hE:∀h' tk e,(∀c o,c≠z->c≠TO->c≠i1->c≠i2->s.heap.get? c=some o->h'.get? c=some o)->(∃o,h'.get? e=some o/\o.cls=.type "StopIteration")->E (.ref e) {s with heap:=h',toks:=tk}):wpAny (model prog w) A (Builtin.«zip.__next__» ⟨[.ref z],[]⟩) Q E s:=by
 have e1:∀{i:Nat}{h h':Heap}{c:Addr},Heap.SameBut c h h'->i1≠c->S1 i h->S1 i h':=λhs hn g=>G1.frame _ _ _ g λb hb o e=>by
  rw[aap.mp hb]at e⊢;exact hs.extBut _ _ hn e
 have e2:∀{i:Nat}{h h':Heap}{c:Addr},Heap.SameBut c h h'->i2≠c->l≠c->S2 i h->S2 i h':=λhs hn hl g=>G2.frame _ _ _ g λb hb o e=>by
  rcases aat.mp hb with q|q
  ·rw[q]at e⊢;exact hs.extBut _ _ hn e
  ·rw[aap.mp q]at e⊢;exact hs.extBut _ _ hl e
 show wpAny _ _ (field (.ref z) 2 >>= _) _ _ _
 refine aaf (aaZ hz rfl (x:=.bool false) rfl ?_)
 show wpAny _ _ (field (.ref z) 3 >>= _) _ _ _
 refine aaf (aaZ hz rfl (x:=.ref TI) rfl (aaf (wpAny_seqItems hTI rfl ?_)))
 show wpAny _ _ (Builtin.SmallTypes.ownedTupleIsFree (.ref z) >>= _) _ _ _
 refine aaf ?_
 unfold Builtin.SmallTypes.ownedTupleIsFree
 refine aaf (aaZ hz rfl (x:=.none) rfl (aar ?_))
 simp only[if_true]
 refine aaf (wpAny_rule (aaf (aaZ hz rfl (x:=.ref TO) rfl (aaf (abv hz (by simp) λA1 z1 q1=>?_)))))
 replace z1:IsZip A1 z TI TO .ellipsis:=z1
 refine aaf ?_
 simp only[List.zipIdx_cons,List.zipIdx_nil,List.forIn_cons,List.forIn_nil]
 refine aaf (aaf (wpAny_onRaise ?_))
 show wpAny _ _ (Builtin.SmallTypes.nextOf (.ref i1) >>= _) _ _ _
 rcases hk with rfl|⟨k1,rfl⟩
 ·refine aaf (G1.done _ _ _ (e1 q1 D.i1z g1) λA2 e q2 he=>?_)
  obtain⟨oe,Qa,hce⟩:=he
  have z2:IsZip A2 z TI TO .ellipsis:=q2 _ _ D.i1z.symm z1
  have ez:e≠z:=λq=>by rw[q,z2]at Qa;cases Qa;exact absurd (show Value.type "zip"=Value.type "StopIteration" from hce) 'c'
  exact abv z2 (by simp) λA3 _ q3=>hE A3 _ e (λc o c1 _ c3 _ p=>q3.extBut _ _ c1 (q2 _ _ c3 (q1.extBut _ _ c1 p))) ⟨oe,q3.extBut _ _ ez Qa,hce⟩
 ·refine aaf (G1.item k _ _ _ k1 (e1 q1 D.i1z g1) λx A2 tk px YW q2=>aar ?_)
  have o2:IsPair A2 TO a b:=q2.extBut _ _ D.TOi1 (q1.extBut _ _ D.TOz hTO)
  refine aaf (wpAny_seqItems o2 rfl (aaf (wpAny_updateSeq_pair o2 λA3 o3 q3=>?_)))
  refine aaf (wpAny_letGo (aar (aaf (aaf (wpAny_onRaise ?_)))))
  show wpAny _ _ (Builtin.SmallTypes.nextOf (.ref i2) >>= _) _ _ _
  refine aaf (G2.done _ _ _ (e2 q3 D.TOi2.symm D.l2TO (e2 q2 D.i12.symm D.l2i1 (e2 q1 D.i2z D.l2z g2))) λA4 e q4 he=>?_)
  obtain⟨oe,Qa,hce⟩:=he
  have z4:IsZip A4 z TI TO .ellipsis:=q4 _ _ D.i2z.symm (q3.extBut _ _ D.TOz.symm (q2.extBut _ _ D.i1z.symm z1))
  have ez:e≠z:=λq=>by rw[q,z4]at Qa;cases Qa;exact absurd (show Value.type "zip"=Value.type "StopIteration" from hce) 'c'
  exact abv z4 (by simp) λA5 _ q5=>hE A5 _ e (λc o c1 c2 c3 c4 p=>q5.extBut _ _ c1 (q4 _ _ c4 (q3.extBut _ _ c2 (q2.extBut _ _ c3 (q1.extBut _ _ c1 p))))) ⟨oe,q5.extBut _ _ ez Qa,hce⟩
def uY(h:Heap)(it:Addr)(x:Str)(t:Tok)(i:Nat):Prop:=h.IsStrIter it "str_ascii_iterator" x t i\/h.IsStrIter it "str_iterator" x t i
theorem Cj(hh:A.handled=none)(it:Addr)(x:Str)(t:Tok):Draws prog w A it [it] x.cps.size (λi v=>∃c u,x.cps[i]?=some c/\v=.str ⟨#[c]⟩ u) (λi h=>uY h it x t i) where
 live:=λi h st=>by
  rcases st with st|st
  ·exact(Draws.strAscii (prog:=prog) (w:=w) hh it x t).live i h st
  ·exact(Draws.strWide (prog:=prog) (w:=w) hh it x t).live i h st
 frame:=λi h h' st hk=>by
  rcases st with st|st
  ·exact .inl ((Draws.strAscii (prog:=prog) (w:=w) hh it x t).frame i h h' st hk)
  ·exact .inr ((Draws.strWide (prog:=prog) (w:=w) hh it x t).frame i h h' st hk)
 item:=λi s Q E hi st hQ=>by
  rcases st with st|st
  ·exact(Draws.strAscii (prog:=prog) (w:=w) hh it x t).item i s Q E hi st λv h' tk p q r=>hQ v h' tk p (.inl q) r
  ·exact(Draws.strWide (prog:=prog) (w:=w) hh it x t).item i s Q E hi st λv h' tk p q r=>hQ v h' tk p (.inr q) r
 done:=λs Q E st hE=>by
  rcases st with st|st
  ·exact(Draws.strAscii (prog:=prog) (w:=w) hh it x t).done s Q E st hE
  ·exact(Draws.strWide (prog:=prog) (w:=w) hh it x t).done s Q E st hE
theorem K9{h h':Heap}{it:Addr}{x:Str}{t:Tok}{i:Nat}(q:uY h it x t i)(e:∀o,h.get? it=some o->h'.get? it=some o):uY h' it x t i:=by
 rcases q with ⟨o,ho,r⟩|⟨o,ho,r⟩
 ·exact .inl ⟨o,e _ ho,r⟩
 ·exact .inr ⟨o,e _ ho,r⟩
theorem El{h:Heap}{it:Addr}{x:Str}{t:Tok}{i:Nat}(q:uY h it x t i):∃o,h.get? it=some o/\∃vs,o.data=.fields vs:=by
 rcases q with ⟨o,ho,_,r⟩|⟨o,ho,_,r⟩
 ·exact⟨o,ho,_,r⟩
 ·exact⟨o,ho,_,r⟩
theorem Ck(hh:A.handled=none)(z TI TO i1 i2 l:Addr)(D:ZipApart z TI TO i1 i2 l l)(x:Str)(t:Tok)(ys:Array Value):WalksT prog w A z [z,TI,TO,i1,i2,l] [z,TO,i1,i2] (min x.cps.size ys.size)
   (λi vals=>∃c u y,x.cps[i]?=some c/\ys[i]?=some y/\vals = #[.str ⟨#[c]⟩ u,y])
   (λi h=>IsZip h z TI TO .none/\IsPair h TI (.ref i1) (.ref i2)/\(∃a b,IsPair h TO a b)/\uY h i1 x t i/\h.IsListIter i2 l i/\h.IsList l ys)
   (λi T h=>IsZip h z TI TO (rawInt T)/\IsPair h TI (.ref i1) (.ref i2)/\(∃a b,IsPair h TO a b)/\uY h i1 x t (i+1)/\h.IsListIter i2 l (i+1)/\h.IsList l ys/\T≠z/\T≠TO/\T≠i1/\T≠i2) where
 sub:=λc hc=>by
  simp only[aat,aaV,abh]at hc⊢
  rcases hc with q|q|q|q<;>simp[q]
 frame:=λi h h' st hk=>by
  obtain⟨p1,p2,⟨a,b,p3⟩,p4,p5,p6⟩:=st
  exact⟨hk z (by simp) _ p1,hk TI (by simp) _ p2,⟨a,b,hk TO (by simp) _ p3⟩,K9 p4 λo e=>hk i1 (by simp) o e,p5.at λo e=>hk i2 (by simp) o e,p6.at λo e=>hk l (by simp) o e⟩
 item:=λi s Q E hi st hQ=>by
  obtain⟨p1,p2,⟨a,b,p3⟩,p4,p5,p6⟩:=st
  have hT:s.TypeIs (.ref z) "zip":=⟨_,p1,rfl⟩
  unfold pyNext
  refine aaf (wpAny_attempt (wpAny_callSpecial?_slot (name:=("__next__":Str)) hT F.slot_zip_next (wpAny_call_entry F.slot_zip_next hT F.entry_zip_next ?_ (F.args_zip_next_1 _))))
  refine Nz (S1:=λi h=>uY h i1 x t i) (S2:=λi h=>h.IsListIter i2 l i/\h.IsList l ys) D (Cj (A:=A.in1) hh i1 x t) (Draws.list (A:=A.in1) hh i2 l D.l2i2 ys) p1 p2 p3 p4 ⟨p5,p6⟩ (aav hi (Nat.min_le_left ..)) (aav hi (Nat.min_le_right ..)) λh' tk u y pu py r1 r2 r3 r4 r5 kp=>?_
  obtain⟨c,tu,hc,rfl⟩:=pu
  have lt:∀{c o},s.heap.get? c=some o->s.heap.objs.size≠c:=λe=>Nat.ne_of_gt (aao e)
  refine aar (hQ s.heap.objs.size #[.str ⟨#[c]⟩ tu,y] h' tk ⟨c,tu,y,hc,py,rfl⟩ (aan _) ⟨_,r5,rfl,_,rfl⟩ ⟨r1,kp _ _ D.TIz D.TITO D.TIi1 D.TIi2 p2,⟨_,_,r2⟩,r3,r4.1,r4.2,lt p1,lt p3,?_,?_⟩ λc o hc e=>kp c o (λq=>hc (by simp[q])) (λq=>hc (by simp[q])) (λq=>hc (by simp[q])) (λq=>hc (by simp[q])) e)
  ·obtain⟨o,ho,_⟩:=El p4;exact lt ho
  ·obtain⟨o,ho,_⟩:=p5;exact lt ho
 go:=λelts k pos i T s Q E hm hQ=>by
  obtain⟨p1,p2,⟨a,b,p3⟩,p4,p5,p6,_⟩:=hm
  refine wpAny_letOwnedTupleGo_zip p1 λh' z' q=>hQ h' ⟨z',q.extBut _ _ D.TIz p2,⟨a,b,q.extBut _ _ D.TOz p3⟩,K9 p4 λo e=>q.extBut _ _ D.i1z e,p5.extBut q.extBut D.i2z,p6.extBut q.extBut D.l2z⟩ λc o hc e=>q.extBut _ _ (λy=>hc (by simp[y])) e
 apart:=λi T h hm hT=>by
  obtain⟨_,_,_,_,_,_,t1,t2,t3,t4⟩:=hm
  simp only[aat,aaV,abh]at hT
  rcases hT with q|q|q|q
  ·exact t1 q
  ·exact t2 q
  ·exact t3 q
  ·exact t4 q
 done:=λs Q E st hQ=>by
  obtain⟨p1,p2,⟨a,b,p3⟩,p4,p5,p6⟩:=st
  have hT:s.TypeIs (.ref z) "zip":=⟨_,p1,rfl⟩
  unfold pyNext
  refine aaf (wpAny_attempt (wpAny_callSpecial?_slot (name:=("__next__":Str)) hT F.slot_zip_next (wpAny_call_entry F.slot_zip_next hT F.entry_zip_next ?_ (F.args_zip_next_1 _))))
  refine P9 (S1:=λi h=>uY h i1 x t i) (S2:=λi h=>h.IsListIter i2 l i/\h.IsList l ys) D (Cj (A:=A.in1) hh i1 x t) (Draws.list (A:=A.in1) hh i2 l D.l2i2 ys) p1 p2 p3 p4 ⟨p5,p6⟩ ?_ λh' tk e kp he=>?_
  ·by_cases q:x.cps.size<=ys.size
   ·exact .inl (Nat.min_eq_left q)
   ·exact .inr ⟨by omega,Nat.min_eq_right 'b'⟩
  ·obtain⟨o,ho,hc⟩:=he
   refine aaf (wpAny_isInstance (T:="StopIteration") (b:=true) ⟨o,ho,hc⟩ isSubtype_stop (aar (hQ _ _ λc o hc e=>kp c o (λq=>hc (by simp[q])) (λq=>hc (by simp[q])) (λq=>hc (by simp[q])) (λq=>hc (by simp[q])) e)))
 self:=λi s Q E st hQ=>wpAny_pyIter_zip st.1 hQ
end
def HU(K:W.Frag)(z:Str)(b:Addr):It :=
 ⟨λi H=>∃ys c y,aM K H b ys/\z.cps[i]?=some c/\ys[i]?=some y,λi H v H'=>∃t c y,H t=none/\v=.ref t/\H'=upd H t (.tup [.str (sg c),y])/\z.cps[i]?=some c/\(∀ys,aM K H b ys->ys[i]?=some y),λi H=>∃ys,aM K H b ys/\min z.cps.size ys.length=i⟩
theorem HV{P:Program}{w:World}{K:W.Frag}{elts:List Expr}{k:Nat}{pos:Pos}{z TI TO i1 i2 l:Addr}{x:Str}{t:Tok}(D:ZipApart z TI TO i1 i2 l l):Turn P w K (.Tuple elts k pos) (HU K x l) [z,TI,TO,i1,i2] z (λi h=>IsZip h z TI TO .none/\IsPair h TI (.ref i1) (.ref i2)/\(∃a b,IsPair h TO a b)/\uY h i1 x t i/\h.IsListIter i2 l i) where
 mem:=by simp
 obj:=λi h st b hb=>by
  obtain⟨p1,p2,⟨a,c,p3⟩,p4,⟨o2,e2,c2,d2⟩⟩:=st
  simp only[aat,aaV,abh]at hb
  rcases hb with rfl|rfl|rfl|rfl|rfl
  ·exact⟨_,p1,λv q=>by cases q⟩
  ·exact⟨_,p2,λv q=>by cases q⟩
  ·exact⟨_,p3,λv q=>by cases q⟩
  ·obtain⟨o,ho,vs,hv⟩:=El p4;exact⟨o,ho,λv q=>by rw[hv]at q;cases q⟩
  ·exact⟨_,e2,λv q=>by rw[d2]at q;cases q⟩
 keep:=λi h h' st k=>by
  obtain⟨p1,p2,⟨a,c,p3⟩,p4,p5⟩:=st
  exact⟨k z (by simp) _ p1,k TI (by simp) _ p2,⟨a,c,k TO (by simp) _ p3⟩,K9 p4 λo e=>k i1 (by simp) o e,p5.at λo e=>k i2 (by simp) o e⟩
 item:=by
  intro X hP hw hK hc i pins s σ H E I hf st hg
  subst hP hw hK
  obtain⟨ys,c,y,hy,ec,ey⟩:=hg
  obtain⟨its,rv,p,hz⟩:=I.list hy
  obtain⟨u,hu,ru⟩:=rv.get ey
  obtain⟨p1,p2,p3,p4,p5⟩:=id st
  have W:=Ck (prog:=X.prog) (w:=X.w) (A:=X.A) (I.ok.hd hc) z TI TO i1 i2 l D x t its.toArray
  have hsub:∀b∈[z,TO,i1,i2],b∈[z,TI,TO,i1,i2]:=by
   intro b hb
   simp only[aat,aaV,abh]at hb⊢
   rcases hb with q|q|q|q<;>simp[q]
  refine tF (J:=HU X.K x l) (tn:=λi h=>IsZip h z TI TO .none/\IsPair h TI (.ref i1) (.ref i2)/\(∃a b,IsPair h TO a b)/\uY h i1 x t i/\h.IsListIter i2 l i) W I hf hsub ?_ ?_ ?_ ?_ ?_
  ·intro b hb
   obtain⟨a',b',p3⟩:=p3
   obtain⟨o1,e1,_⟩:=El p4
   obtain⟨o2,e2,_⟩:=p5
   simp only[aat,aaV,abh]at hb
   rcases hb with rfl|rfl|rfl|rfl|rfl
   ·exact aao p1
   ·exact aao p2
   ·exact aao p3
   ·exact aao e1
   ·exact aao e2
  ·have h1:=(aa2.mp ec).1
   have h2:=(aaj.mp hu).1
   simp only[aam]
   omega
  ·exact⟨p1,p2,p3,p4,p5,p.isList⟩
  ·rintro vals ⟨c',tu,v2,q1,q2,rfl⟩
   rw[ec]at q1;cases q1
   have q2:its[i]?=some v2:=by simpa using q2
   rw[hu]at q2;cases q2
   exact⟨[.str (sg c),y],(by show 2<=sizeLine;decide),.cons ⟨tu,O⟩ (.cons ru .nil),λT hT=>⟨T,c,y,hT,O,O,ec,λzs hz=>by rw[I.mq hz hy];exact ey⟩⟩
  ·exact λh q=>⟨q.1,q.2.1,q.2.2.1,q.2.2.2.1,q.2.2.2.2.1⟩
 done:=by
  intro X hP hw hK hc i pins s σ H E I hf st hg
  subst hP hw hK
  obtain⟨ys,hy,hmin⟩:=hg
  obtain⟨its,rv,p,hz⟩:=I.list hy
  obtain⟨p1,p2,p3,p4,p5⟩:=id st
  have e2:its.toArray.size=ys.length:=by rw[rv.length];exact aam ..
  have e:i=min x.cps.size its.toArray.size:=by rw[e2,hmin]
  subst e
  have W:=Ck (prog:=X.prog) (w:=X.w) (A:=X.A) (I.ok.hd hc) z TI TO i1 i2 l D x t its.toArray
  have hsub:∀b∈[z,TO,i1,i2],b∈[z,TI,TO,i1,i2]:=by
   intro b hb
   simp only[aat,aaV,abh]at hb⊢
   rcases hb with q|q|q|q<;>simp[q]
  exact tG W I hf hsub ⟨p1,p2,p3,p4,p5,p.isList⟩
 self:=λ_ _ _ _ _ st h=>wpAny_pyIter_zip st.1 h
def fj(x:Str)(t:Tok):Obj:={cls:=.type (if x.cps.all (· < 128)=true then "str_ascii_iterator" else "str_iterator"),data:=.fields #[.str x t,.int 0 0]}
theorem Qc{h:Heap}{it:Addr}{x:Str}{t:Tok}(e:h.get? it=some (fj x t)):uY h it x t 0:=by
 unfold fj at e
 cases ha:x.cps.all (· < 128)
 ·rw[ha,aag 'c']at e;exact .inr ⟨_,e,rfl,rfl⟩
 ·rw[ha,aal rfl]at e;exact .inl ⟨_,e,rfl,rfl⟩
section
variable{prog:Program}{w:World}{A:Around}{E:Value->Shared->Prop}{s:Shared}
theorem NB{x:Str}{t:Tok}{Q:Value->Shared->Prop}(hQ:Q (.ref s.heap.objs.size) {s with heap:=s.heap.push (fj x t)}):wpAny (model prog w) A (pyIter (.str x t)) Q E s:=by
 unfold fj at hQ
 cases ha:x.cps.all (· < 128)
 ·rw[ha,aag 'c']at hQ;exact wpAny_pyIter_wide ha hQ
 ·rw[ha,aal rfl]at hQ;exact wpAny_pyIter_ascii ha hQ
end
abbrev UT(h:Heap)(o:Obj):Heap:=h.push o
abbrev zs2(h:Heap)(o:Obj)(l:Addr):Heap:=(UT h o).push {cls:=.type "list_iterator",data:=.fields #[.ref l,.int 0 0]}
abbrev UU(h:Heap)(o:Obj)(l:Addr):Heap:=(zs2 h o l).push {cls:=.type "tuple",data:=.seq #[.ref h.objs.size,.ref (UT h o).objs.size]}
abbrev UW(h:Heap)(o:Obj)(l:Addr):Heap:=(UU h o l).push {cls:=.type "tuple",data:=.seq #[.none,.none]}
abbrev RS(h:Heap)(o:Obj)(l:Addr):Heap:=(UW h o l).push {cls:=.type "zip",data:=.fields #[.none,.bool false,.bool false,.ref (zs2 h o l).objs.size,.ref (UU h o l).objs.size]}
theorem La(x:Str)(t:Tok)(l:Addr)(ys:Array Value):Meets (Builtin.«zip.__new__» ⟨[.type "zip",.str x t,.ref l],[]⟩) (λ_ R s=>s.heap.IsList l ys/\R (.ok (.ret (.ref (UW s.heap (fj x t) l).objs.size))) {s with heap:=RS s.heap (fj x t) l}) :=
 .of_wp λprog w A R s h=>by
  obtain⟨hp,g,d,tk,os⟩:=s
  obtain⟨hl,h⟩:=h
  have hsub:=sub_zip
  have hL:Heap.IsList (Shared.heap ⟨hp.push (fj x t),g,d,tk,os⟩) l ys:=Heap.IsList.push hl _
  wp_walk using NB,wpAny_pyIter_list hL
  exact⟨_,O,h⟩
section
variable{prog:Program}{w:World}{A:Around}{E:Value->Shared->Prop}{s:Shared}
theorem HW{x:Str}{t:Tok}{l:Addr}{ys:Array Value}{Q:Value->Shared->Prop}(hl:s.heap.IsList l ys)(h:∀h',IsZip h' (s.heap.objs.size+4) (s.heap.objs.size+2) (s.heap.objs.size+3) .none->IsPair h' (s.heap.objs.size+2) (.ref s.heap.objs.size) (.ref (s.heap.objs.size+1))->IsPair h' (s.heap.objs.size+3) .none .none->uY h' s.heap.objs.size x t 0->h'.IsListIter (s.heap.objs.size+1) l 0->(∀c o,s.heap.get? c=some o->h'.get? c=some o)->Q (.ref (s.heap.objs.size+4)) {s with heap:=h'}):wpAny (model prog w) A (call (.type "zip") [.str x t,.ref l]) Q E s:=by
 refine callType_new F.called_zip 'c' (F.typeCall_zip_2 _ _) (F.newCall_zip_2 _ _) (λobj=>F.args_object_init_3 obj _ _) F.entry_zip_new (La x t l ys) ⟨hl,?_⟩
 have n1:(UT s.heap (fj x t)).objs.size=s.heap.objs.size+1:=aa5 ..
 have n2:(zs2 s.heap (fj x t) l).objs.size=s.heap.objs.size+2:=by rw[aa5,n1]
 have n3:(UU s.heap (fj x t) l).objs.size=s.heap.objs.size+3:=by rw[aa5,n2]
 have n4:(UW s.heap (fj x t) l).objs.size=s.heap.objs.size+4:=by rw[aa5,n3]
 have up:∀{h:Heap}{c:Addr}{u o:Obj},h.get? c=some o->(h.push u).get? c=some o:=λe=>aai _ e
 have r5:(RS s.heap (fj x t) l).get? (UW s.heap (fj x t) l).objs.size=some _:=aaz _ rfl
 have r4:(RS s.heap (fj x t) l).get? (UU s.heap (fj x t) l).objs.size=some _:=up (aaz _ rfl)
 have r3:(RS s.heap (fj x t) l).get? (zs2 s.heap (fj x t) l).objs.size=some _:=up (up (aaz _ rfl))
 have r2:(RS s.heap (fj x t) l).get? (UT s.heap (fj x t)).objs.size=some _:=up (up (up (aaz _ rfl)))
 have r1:(RS s.heap (fj x t) l).get? s.heap.objs.size=some (fj x t):=up (up (up (up (aaz _ rfl))))
 show _/\_
 rw[n2,n3,n4]at r5
 rw[n1,n2]at r3
 rw[n3]at r4
 rw[n1]at r2
 rw[n4]
 exact⟨⟨_,r5,O⟩,h _ r5 r3 r4 (Qc r1) ⟨_,r2,O,O⟩ λc o q=>up (up (up (up (up q))))⟩
end
def S0(K:W.Frag)(ta:TA):TI:=λσ H R=>ta σ H λvs H1=>∃z b,vs=[.str z,.ref b]/\(∃ys,aM K H1 b ys)/\R (HU K z b) H1
theorem Lb{X:Cx}{elts:List Expr}{k:Nat}{tpos:Pos}{a b:Expr}{ta:TA}{p pos:Pos}(K:W.Frag)(hK:X.K=K)(hg:Gl X "zip")(hm:X.mg "zip"=none)(ha:PA X [a,b] ta)(hs:starEach [a,b] X.env=[(false,eval a X.env),(false,eval b X.env)]:=by rfl)(hs2:starEach [b] X.env=[(false,eval b X.env)]:=by rfl):PI X (.Tuple elts k tpos) (.Call (.Name "zip" p) [a,b] [] pos) (S0 K ta):=by
 subst hK
 intro pins s σ H R I h
 refine Call_ (jz I hg hm (u:=.type "zip") 'h' (aaQ (bY (ha pos pins s σ H _ I h) λus s1 ⟨vs,H1,I1,r1,q1⟩=>?_) (by rw[hs,hs2]) (by rw[hs2];rfl)))
 obtain⟨z,l,e,⟨ys,hy⟩,q⟩:=q1
 subst e
 cases r1 with
 |cons r rr =>
  cases rr with
  |cons r' rr =>
   cases rr
   obtain⟨t,rfl⟩:=r
   cases r'
   obtain⟨its,rv,pl,hz⟩:=I1.list hy
   have hlt:l<s1.heap.objs.size:=by obtain⟨o,ho,_⟩:=pl.isList;exact aao ho
   refine HW pl.isList λh' hz' hTI hTO hi1 hi2 hk=>?_
   refine wpAny_pyIter_zip hz' ?_
   have I2:Inv X pins σ H1 {s1 with heap:=h'}:=I1.kept (t':=s1.toks) λb o e=>hk b o e
   refine⟨s1.heap.objs.size+4,_,_,_,H1,rfl,I2,HV (x:=z) (t:=t) (K6 s1.heap.objs.size l l hlt hlt),⟨hz',hTI,⟨_,_,hTO⟩,hi1,hi2⟩,λb hb=>?_,q⟩
   have hb':s1.heap.objs.size<=b:=by
    simp only[aat,aaV,abh]at hb
    rcases hb with rfl|rfl|rfl|rfl|rfl
    ·exact abd _ _
    ·exact abd _ _
    ·exact abd _ _
    ·exact aan _
    ·exact abd _ _
   exact I1.wc hb' (I1.hok.fresh hb')
theorem Lc{K:W.Frag}{z:Str}{b:Addr}{ys:List V}{g:TG}{tb:TS}{D:Ends}{σ:St}{H:Hp}(Pv:Nat->St->Hp->Prop)(h0:Pv 0 σ H)(hl:∀i σ H,i<=min z.cps.size ys.length->Pv i σ H->aM K H b ys)(hs:∀i c y t σ H,z.cps[i]?=some c->ys[i]?=some y->H t=none->Pv i σ H->g (.ref t) σ (upd H t (.tup [.str (sg c),y])) λσ2 H2=>tb {D with nx:=Pv (i+1),ct:=Pv (i+1),bk:=D.nx} σ2 H2)(hd:∀σ H,Pv (min z.cps.size ys.length) σ H->D.nx σ H):∃W:Nat->Nat->St->Hp->Prop,(∃m,W 0 m σ H)/\∀i m σ H,W i m σ H->((HU K z b).stop i H/\D.nx σ H)\/((HU K z b).go i H/\∃N:St->Hp->Prop,(∀σ' H',N σ' H'->∃m',m'<m/\W (i+1) m' σ' H')/\∀x H',(HU K z b).J4 i H x H'->g x σ H' λσ2 H2=>tb {D with nx:=N,ct:=N,bk:=D.nx} σ2 H2):=by
 refine⟨λi m σ H=>m=min z.cps.size ys.length-i/\i<=min z.cps.size ys.length/\Pv i σ H,⟨_,O,aaY _,h0⟩,?_⟩
 rintro i m σ H ⟨rfl,hi,p⟩
 have q:=hl i σ H hi p
 by_cases hlt:i<min z.cps.size ys.length
 ·have h1:i<z.cps.size:=by omega
  have h2:i<ys.length:=by omega
  refine .inr ⟨⟨ys,z.cps[i],ys[i],q,by simp[h1],by simp[h2]⟩,Pv (i+1),λσ' H' p'=>⟨_,(by omega:min z.cps.size ys.length-(i+1)<_),rfl,hlt,p'⟩,λv H' y=>?_⟩
  obtain⟨t,c,y,ht,e1,e2,ec,ey⟩:=y
  subst e1 e2
  exact hs i c y t σ _ ec (ey ys q) ht p
 ·have e:i=min z.cps.size ys.length:=by omega
  subst e
  exact .inl ⟨⟨ys,q,rfl⟩,hd σ H p⟩
section
variable{X:Cx}
end
inductive qU(K:W.Frag)(H:Hp):Nat->V->V->Bool->Prop where
 |flat {n:Nat}{x y:V}:cU x=true->cU y=true->qU K H n x y (zv x y)
 |same {n:Nat}{a:Addr}:qU K H n (.ref a) (.ref a) true
 |tup {n:Nat}{a b:Addr}{xs ys:List V}{e:Nat->Bool}:a≠b->bR K H a xs->bR K H b ys->(∀(j:Nat) x y,xs[j]?=some x->ys[j]?=some y->qU K H n x y (e j))->qU K H (n+1) (.ref a) (.ref b) ((List.range (min xs.length ys.length)).all e&&xs.length==ys.length)
 |lst {n:Nat}{a b:Addr}{xs ys:List V}{e:Nat->Bool}:a≠b->aM K H a xs->aM K H b ys->xs.length=ys.length->(∀(j:Nat) x y,xs[j]?=some x->ys[j]?=some y->qU K H n x y (e j))->qU K H (n+1) (.ref a) (.ref b) ((List.range xs.length).all e)
 |len {n:Nat}{a b:Addr}{xs ys:List V}:a≠b->aM K H a xs->aM K H b ys->xs.length≠ys.length->qU K H (n+1) (.ref a) (.ref b) false
section
variable{X:Cx}{pins:List 'g'}{σ:St}{H:Hp}{s:Shared}
theorem zy{A:Around}{e:Nat->Bool}{xs ys:List V}{us ws:List Value}(r1:Vals xs us)(r2:Vals ys ws)(h:∀(j:Nat) x y u w,xs[j]?=some x->ys[j]?=some y->RelV x u->RelV y w->SeqAt.EqAt A s u w (e j))(j:Nat)(h1:j<us.toArray.size)(h2:j<ws.toArray.size):SeqAt.EqAt A s us.toArray[j] ws.toArray[j] (e j):=by
 have hl1:=r1.length
 have hl2:=r2.length
 have hj1:j<xs.length:=by rw[hl1];simpa using h1
 have hj2:j<ys.length:=by rw[hl2];simpa using h2
 obtain⟨u,eu,ru⟩:=r1.get (i:=j) (x:=xs[j]) (by simp[hj1])
 obtain⟨w,ew,rw'⟩:=r2.get (i:=j) (x:=ys[j]) (by simp[hj2])
 have e1:us.toArray[j]=u:=by
  obtain⟨_,q⟩:=aaj.mp eu
  simpa using q
 have e2:ws.toArray[j]=w:=by
  obtain⟨_,q⟩:=aaj.mp ew
  simpa using q
 rw[e1,e2]
 exact h j _ _ u w (by simp[hj1]) (by simp[hj2]) ru rw'
theorem Ld(I:Inv X pins σ H s){n:Nat}{x y:V}{b:Bool}(h:qU X.K H n x y b):∀{A:Around}{u v:Value},A.units+n<cLine->RelV x u->RelV y v->SeqAt.EqAt A s u v b:=by
 induction h with
 |flat f1 f2=>intro A u v _ ru rv;exact Af ru rv f1 f2
 |same=>intro A u v _ ru rv;cases ru;cases rv;exact aby _
 |@tup n a b xs ys e ne ha hb _ ih =>
  intro A u v hu ru rv
  cases ru;cases rv
  obtain⟨its,r1,p1,_⟩:=I.tuple ha
  obtain⟨its2,r2,p2,_⟩:=I.tuple hb
  refine abu ne ?_
  have q:=SeqAt.RcAt.tuples (A:=A) (e:=e) p1 p2 'b' λj h1 h2=>zy r1 r2 (λj x y u w ex ey ru rw'=>ih j x y ex ey (by show A.units+1+n<cLine;omega) ru rw') j h1 h2
  rw[aam,aam,←r1.length,←r2.length]at q
  exact q
 |@lst n a b xs ys e ne ha hb hl _ ih =>
  intro A u v hu ru rv
  cases ru;cases rv
  obtain⟨its,r1,p1,_⟩:=I.list ha
  obtain⟨its2,r2,p2,_⟩:=I.list hb
  refine abu ne ?_
  have q:=SeqAt.RcAt.lists (A:=A) (e:=e) p1.isList p2.isList (by rw[aam,aam,←r1.length,←r2.length,hl]) 'b' λj h1 h2=>zy r1 r2 (λj x y u w ex ey ru rw'=>ih j x y ex ey (by show A.units+1+n<cLine;omega) ru rw') j h1 h2
  rw[aam,←r1.length]at q
  exact q
 |@len n a b xs ys ne ha hb hl =>
  intro A u v hu ru rv
  cases ru;cases rv
  obtain⟨its,r1,p1,_⟩:=I.list ha
  obtain⟨its2,r2,p2,_⟩:=I.list hb
  refine abu ne ?_
  exact SeqAt.RcAt.lists_lengths (A:=A) p1.isList p2.isList (by rw[aam,aam,←r1.length,←r2.length];simpa using hl) 'b'
end
section
variable{X:Cx}
end
section
variable{X:Cx}
end
open PySem PySem.Spec PyProof.Rows PySem.W
section
variable(key:Nat->Int)
end
section
variable{prog:Program}{w:World}{A:Around}{s:Shared}{Q:Bool->Shared->Prop}{fin:Bool}
end
theorem cS.ex{P:Program}{w:World}{H:Hp}{h:Heap}{a:Addr}{o:HO}(x:cS P w H h a o):∃ob,h.get? a=some ob:=by
 cases o with
 |lst xs=>obtain⟨_,_,_,_,e⟩:=x;exact⟨_,e⟩
 |tup xs=>obtain⟨_,_,_,o,e,_⟩:=x;exact⟨_,e⟩
 |dK kvs=>obtain⟨_,_,_,_,o,_,_,e,_⟩:=x;exact⟨_,e⟩
 |dT kvs=>obtain⟨_,_,_,_,o,_,_,e,_⟩:=x;exact⟨_,e⟩
 |set S n=>obtain⟨o,_,_,_,e,_⟩:=x;exact⟨_,e⟩
 |ins C dx fs=>obtain⟨_,_,_,e,_⟩:=x;exact⟨_,e⟩
 |own y=>obtain⟨_,e⟩:=x;exact⟨_,e⟩
 |xd fs=>obtain⟨_,⟨_,_,_,e,_⟩,_⟩:=x;exact⟨_,e⟩
 |UD lo hi=>obtain⟨_,_,_,e⟩:=x;exact⟨_,e⟩
 |DZ ob u=>obtain⟨e,_⟩:=x;exact⟨_,e⟩
 |OO ps=>exact⟨_,(show h.get? a=some _ from x)⟩
 |met f y=>exact⟨_,(show h.get? a=some _ from x)⟩
 |ext φ=>obtain⟨_,⟨_,e⟩,_⟩:=x;exact⟨_,e⟩
section
variable{prog:Program}{w:World}{A:Around}{E:Value->Shared->Prop}{s:Shared}
end
section
variable{X:Cx}
theorem Qd:nX X (compareOp .Is) (λx y H Q=>∃a b,x=.bl a/\y=.bl b/\Q (.bl (a==b)) H):=by
 intro pins s σ H x y v u Q I rx ry h
 obtain⟨a,b,rfl,rfl,q⟩:=h
 cases rx
 cases ry
 refine wpAny_is_plain (by cases a<;>cases b<;>rfl) (bA I q ?_)
 cases a<;>cases b<;>rfl
end
open PySem
theorem YX{A B:Prop}{b:Bool}(hb:b=true)(h:A):if b=true then A else B:=by rw[aal hb];exact h
theorem YY{A B:Prop}{b:Bool}(hb:b=false)(h:B):if b=true then A else B:=by rw[aag (by rw[hb];decide)];exact h
theorem ye{p A B:Prop}[Decidable p](hp:p)(h:A):if decide p=true then A else B:=YX (aaq hp) h
theorem iE{p A B:Prop}[Decidable p](hp:¬p)(h:B):if decide p=true then A else B:=YY (aas hp) h
theorem V8{p A B:Prop}[Decidable p](hp:p)(h:B):if (!decide p)=true then A else B:=YY (by rw[aaq hp];rfl) h
theorem V9{p A B:Prop}[Decidable p](hp:¬p)(h:A):if (!decide p)=true then A else B:=YX (by rw[aas hp];rfl) h
theorem RU{A B:Prop}{a b:Int}(hp:a=b)(h:A):if decide (V.int a=V.int b)=true then A else B:=ye (by rw[hp]) h
theorem Em{A B:Prop}{a b:Int}(hp:¬a=b)(h:B):if decide (V.int a=V.int b)=true then A else B:=iE (λe=>hp (V.int.inj e)) h
theorem rdJ{A B:Prop}{a b:Int}(hp:a=b)(h:B):if (!decide (V.int a=V.int b))=true then A else B:=V8 (by rw[hp]) h
theorem Wa{A B:Prop}{a b:Int}(hp:¬a=b)(h:A):if (!decide (V.int a=V.int b))=true then A else B:=V9 (λe=>hp (V.int.inj e)) h
theorem Wb{A B:Prop}{b:Bool}(h1:b=true->A)(h2:b=false->B):if b=true then A else B:=by
 cases b with
 |true=>exact dh (h1 rfl)
 |false=>exact bS (h2 rfl)
theorem UX{p A B:Prop}[Decidable p](h1:p->A)(h2:¬p->B):if decide p=true then A else B:=by
 by_cases h:p
 ·exact ye h (h1 h)
 ·exact iE h (h2 h)
theorem S3{A B:Prop}{a b:Int}(h1:a=b->A)(h2:¬a=b->B):if decide (V.int a=V.int b)=true then A else B:=by
 by_cases h:a=b
 ·exact RU h (h1 h)
 ·exact Em h (h2 h)
theorem OZ{A B:Prop}{a b:Int}(h1:¬a=b->A)(h2:a=b->B):if (!decide (V.int a=V.int b))=true then A else B:=by
 by_cases h:a=b
 ·exact rdJ h (h2 h)
 ·exact Wa h (h1 h)
theorem S4{A B:Prop}{a b:Str}(h1:a=b->A)(h2:¬a=b->B):if decide (V.str a=V.str b)=true then A else B :=
 UX (λh=>h1 (V.str.inj h)) (λh=>h2 λe=>h (by rw[e]))
section
variable{prog:Program}{w:World}{A:Around}{E:Value->Shared->Prop}{s:Shared}
end
section
variable{X:Cx}{e:Expr}{te:TE}
end
section
variable{prog:Program}{w:World}{A:Around}{E:Value->Shared->Prop}{s:Shared}
end
theorem wD(x:Str)(t:Tok):slicePicked x none none (some (-1,t))=(List.range x.length).map λk=>x.length-1-k:=by
 show Builtin.Str.strSliceIndices none none (-1) x.length=_
 unfold Builtin.Str.strSliceIndices
 exact W.krv_sliceRange x.length
theorem Al(x:Str)(t u:Tok):sliceMade x t none none (some (-1,u))=.str ⟨x.cps.toList.reverse.toArray⟩:=by
 unfold sliceMade
 have e:((Option.map (λx:Int×Tok=>x.fst) (some (-1,u))).getD 1==1)=false:=rfl
 rw[e,abe,aag 'c',wD,W.krv_range]
 rw[List.filterMap_reverse]
 have:=W.krv_all x.cps
 rw[show x.length=x.cps.size from rfl,this]
def qV(z:Str):Str:=⟨z.cps.toList.reverse.toArray⟩
def NC(te UY:TE):TE:=λσ H Q=>te σ H λx H1=>UY σ H1 λy H2=>∃z,y=.int (-1)/\x=.str z/\z.length<=sizeLine/\Q (.str (qV z)) H2
theorem HX{X:Cx}{e st:Expr}{te UY:TE}{p2 pos:Pos}(he:PE X e te)(hst:PE X st UY):PE X (.Subscript e (.Slice none none (some st) p2) pos) (NC te UY):=by
 intro pins s σ H Q I h
 refine Subscript_ (bY (he pins s σ H _ I h) λv s1 ⟨x,H1,I1,r1,q1⟩=>?_)
 refine wpAny_Slice ?_
 rw[evalPart_none]
 refine aar ?_
 refine aar ?_
 rw[evalPart_some]
 refine bY (hst pins s1 σ H1 _ I1 q1) λvs s3 ⟨y,H3,I3,r3,q3⟩=>?_
 obtain⟨z,rfl,rfl,hz,q⟩:=q3
 obtain⟨tz,rfl⟩:=r1
 obtain⟨t,rfl⟩:=r3
 have I4:Inv X pins σ H3 {s3 with heap:=s3.heap.push {cls:=.type "slice",data:=.fields #[.none,.none,.int (-1) t]}}:=I3.kept (t':=s3.toks) λb ob q=>aai _ q
 show wpAny 'd' X.A (subscriptTail e (.Slice none none (some st) p2) (.str z tz) (.ref s3.heap.objs.size)) (EP X pins σ Q) X.xe {s3 with heap:=s3.heap.push {cls:=.type "slice",data:=.fields #[.none,.none,.int (-1) t]}}
 refine tail_any (ops:=[.str z tz,.ref s3.heap.objs.size]) (typeIs_str _ _ _) F.slot_str_getitem.lookup ?_ (by with_unfolding_all rfl)
 refine abr (l:=none) (u:=none) (st:=some (-1,t)) ⟨_,aaz _ rfl,rfl,rfl⟩ rfl ?_
 rw[Al]
 exact⟨by show z.cps.toList.reverse.toArray.size<=sizeLine;rw[aam,List.length_reverse,aaE];exact hz,.str _,H3,I4.tok _,⟨_,O⟩,q⟩
def Qe(h₀:Heap)(H:Hp)(h:Heap)(e:Addr)(vs:Array Value):Option Value->Prop
 |none=>vs[1]?=some .none/\vs[2]?=some .none
 |some v=>∃T oT ts,vs[1]?=some (.ref T)/\H T=none/\h₀.get? T=none/\T≠e/\h.get? T=some oT/\oT.data=.fields ts/\ts[3]?=some v/\vs[2]?=some .none
theorem Qe.cx{h₀:Heap}{H:Hp}{h:Heap}{e:Addr}{vs:Array Value}{fl:Option Value}(x:Qe h₀ H h e vs fl):vs[2]?=some .none:=by
 cases fl with
 |none=>exact x.2
 |some v=>obtain⟨_,_,_,_,_,_,_,_,_,_,z⟩:=x;exact z
structure Exc(h₀:Heap)(H:Hp)(h:Heap)(e:Addr)(C:Value)(od:Option Addr)(fl:Option Value):Prop where
 fr:H e=none
 nw:h₀.get? e=none
 tr:∃oe vs,h.get? e=some oe/\oe.cls=C/\oe.dict=od/\oe.data=.fields vs/\Qe h₀ H h e vs fl
structure Mv(fs ch:List Addr)(h h':Heap):Prop where
 keep:∀b o,b∉ch->b∉fs->h.get? b=some o->h'.get? b=some o
 slot:∀b o,b∉ch->h.get? b=some o->∃sl,h'.get? b=some {o with slots:=sl}
 there:∀b o,h.get? b=some o->∃o',h'.get? b=some o'
theorem Mv.trans{fs ch:List Addr}{h h1 h2:Heap}(a:Mv fs ch h h1)(b:Mv fs ch h1 h2):Mv fs ch h h2 :=
 ⟨λc o n1 n2 q=>b.keep c o n1 n2 (a.keep c o n1 n2 q),λc o n q=>let ⟨sl,q1⟩:=a.slot c o n q;let ⟨sl2,q2⟩:=b.slot c _ n q1;⟨sl2,q2⟩,λc o q=>let ⟨o1,q1⟩:=a.there c o q;b.there c o1 q1⟩
theorem Mv.mono{fs fs' ch ch':List Addr}{h h':Heap}(a:Mv fs ch h h')(hf:∀b∈fs,b∈fs')(hc:∀b∈ch,b∈ch'):Mv fs' ch' h h' :=
 ⟨λc o n1 n2 q=>a.keep c o (λz=>n1 (hc c z)) (λz=>n2 (hf c z)) q,λc o n q=>a.slot c o (λz=>n (hc c z)) q,a.there⟩
theorem Mv.refl{fs ch:List Addr}{h:Heap}:Mv fs ch h h:=⟨λ_ _ _ _ q=>q,λ_ o _ q=>⟨o.slots,q⟩,λ_ o q=>⟨o,q⟩⟩
theorem Mv.of_slots{fs ch:List Addr}{h h':Heap}(x:Heap.SlotsOnly fs h h'):Mv fs ch h h' :=
 ⟨λb o _ n q=>(x.2.1 b n).trans q,λb o _ q=>x.2.2 b o q,λb o q=>let ⟨sl,e⟩:=x.2.2 b o q;⟨_,e⟩⟩
theorem Mv.push{fs ch:List Addr}{h:Heap}(o:Obj):Mv fs ch h (h.push o) :=
 ⟨λb u _ _ q=>aai _ q,λb u _ q=>⟨u.slots,aai _ q⟩,λb u q=>⟨u,aai _ q⟩⟩
theorem Mv.upd{fs ch:List Addr}{h:Heap}{a:Addr}{f:Obj->Obj}{o:Obj}(ha:a∈ch)(q:h.get? a=some o)(hf:(f o).isFreed=false):Mv fs ch h (h.update a f):=by
 have ne:∀b,b∉ch->a≠b:=λb n z=>n (z▸ha)
 refine⟨λb u n _ e=>(aaN _ _ (ne b n)).trans e,λb u n e=>⟨u.slots,(aaN _ _ (ne b n)).trans e⟩,λb u e=>?_⟩
 by_cases hb:a=b
 ·subst hb;exact⟨_,aa9 _ q hf⟩
 ·exact⟨u,(aaN _ _ hb).trans e⟩
theorem Mv.frames{fs ch:List Addr}{h h' base:Heap}(x:Mv fs ch h h'){l:List Env}(hl:h.FunFrames base l)(hc:∀b∈ch,∀o,h.get? b=some o->∃vs,o.data=.fields vs):h'.FunFrames base l :=
 hl.of_keeps λb o q nf=>by
  have n:b∉ch:=λz=>let ⟨vs,e⟩:=hc b z o q;nf vs e
  obtain⟨sl,e⟩:=x.slot b o n q
  exact⟨_,e,O⟩
section
variable{M:Model}{A:Around}{E:Value->Shared->Prop}{s:Shared}{base:Heap}{env:Env}{outer:List Env}{L e:Addr}{Q:Unit->Shared->Prop}
theorem zA{oe:Obj}{vs:Array Value}{head:Value}{hn:Bool}(hfr:A.frames=some (env::outer))(hl:s.heap.FunFrames base (env::outer))(hf:env.frame=some L)(he:s.heap.get? e=some oe)(hd:oe.data=.fields vs)(hsz:1<vs.size)(k:∀h' T oT ts,Mv (frs (env::outer)) [e] s.heap h'->s.heap.objs.size<=T->T≠e->h'.get? e=some (oe.mapFields (·.setIfInBounds 1 (.ref T)))->h'.get? T=some oT->oT.data=.fields ts->ts[3]?=some (rawInt L)->Q () {s with heap:=h'}):wpAny M A (do let a ←frameOf env;let pl ←entryPlaceOf L hn;let b ←EntryCells.newEntry head a .none (rawInt L) .none pl;setField (.ref e) 1 b) Q E s:=by
 have hnf:e∉(env::outer).filterMap (·.frame):=λz=>by
  obtain⟨_,o,ho,nf⟩:=hl.mem z
  rw[he]at ho
  cases ho
  exact nf vs hd
 refine aaf (wpAny_frameOf_fun hfr hl hf λh1 s1=>aaf (wpAny_entryPlaceOf λpl hpl=>?_))
 unfold EntryCells.newEntry newFields
 refine aaf (wpAny_newObj_type ?_ (hpl.sizeOk5 _ _ _ _ _))
 have e1:h1.get? e=some oe:=(s1.2.1 e hnf).trans he
 have e2:=λo=>aai (h:=h1) o e1
 refine wpAny_setField (e2 _) hd hsz ?_
 have hne:h1.objs.size≠e:=Nat.ne_of_gt (aao e1)
 have fd:=aa7 hd (·.setIfInBounds 1 (Value.ref h1.objs.size))
 have m1:Mv (frs (env::outer)) [e] s.heap h1:=Mv.of_slots s1
 refine k _ h1.objs.size _ _ ((m1.trans (Mv.push _)).trans (Mv.upd (aap.mpr rfl) (e2 _) (abk fd))) ?_ hne (aa9 _ (e2 _) (abk fd)) ((aaN _ _ (abi hne)).trans (aaz h1 rfl)) rfl ?_
 ·rw[s1.1];exact aan _
 ·first | (simp;done) | (rcases hpl with rfl|⟨_,_,_,_,_,_,_,rfl⟩<;>simp)
end
section
variable{M:Model}{A:Around}{E:Value->Shared->Prop}{s:Shared}{base h₀:Heap}{H:Hp}{env:Env}{outer:List Env}{L e:Addr}{C:Value}{od:Option Addr}{Q:Unit->Shared->Prop}
def Qf(h₀:Heap)(H:Hp)(ch:List Addr):Prop:=∀b∈ch,H b=none/\h₀.get? b=none
theorem wF(oe:Obj)(f:Array Value->Array Value):(oe.mapFields f).cls=oe.cls:=Obj.cls_mapFields _ _
theorem tH(oe:Obj)(f:Array Value->Array Value):(oe.mapFields f).dict=oe.dict:=by
 obtain⟨c,d,dt,sl⟩:=oe
 cases dt<;>rfl
theorem Cm{fl:Option Value}(hfr:A.frames=some (env::outer))(hl:s.heap.FunFrames base (env::outer))(hf:env.frame=some L)(x:Exc h₀ H s.heap e C od fl)(hfl:fl=none\/fl=some .none\/fl=some (rawInt L))(ht:∀b o,h₀.get? b=some o->∃o',s.heap.get? b=some o')(hH:∀b,s.heap.objs.size<=b->H b=none)(k:∀h' ch,Qf h₀ H ch->Mv (frs (env::outer)) ch s.heap h'->Exc h₀ H h' e C od (some (rawInt L))->Q () {s with heap:=h'}):wpAny M A (noteFrame (.ref e) env) Q E s:=by
 obtain⟨fr,nw,oe,vs,he,hc,hdi,hd,fa⟩:=x
 have S5:∀T,s.heap.get? T=none->h₀.get? T=none:=λT hT=>by
  cases q:h₀.get? T with
  |none=>rfl
  |some o=>obtain⟨o',z⟩:=ht T o q;rw[hT]at z;cases z
 unfold noteFrame
 simp only[hf]
 rcases hfl with rfl|rfl|rfl
 ·obtain⟨h1,Qg⟩:=fa
  refine aaf (aaZ he hd h1 ?_)
  rw[aag 'c']
  have hsz:=(aa2.mp h1).1
  refine zA hfr hl hf he hd hsz λh' T oT ts m zT hne e1 eT dT t3=>?_
  have nT:s.heap.get? T=none:=abn zT
  have hT:H T=none:=hH T zT
  refine k h' [e] (λb hb=>?_) m ⟨fr,nw,_,_,e1,(wF _ _).trans hc,(tH _ _).trans hdi,aa7 hd _,T,oT,ts,by simp[hsz],hT,S5 T nT,hne,eT,dT,t3,by rw[abm 'c'];exact Qg⟩
  rw[aap.mp hb]
  exact⟨fr,nw⟩
 ·obtain⟨T0,o0,t0,h1,n0,w0,O0,q0,d0,z3,Qg⟩:=fa
  refine aaf (aaZ he hd h1 ?_)
  rw[aal (show(Value.ref T0 != Value.none)=true from by simp)]
  refine aaf (aaZ q0 d0 z3 ?_)
  rw[aag (show ¬((Value.none==rawInt L)=true) from by simp[rawInt])]
  have z3s:=(aa2.mp z3).1
  refine aaf (wpAny_setField q0 d0 z3s ?_)
  have hsz:=(aa2.mp h1).1
  have m0:Mv (frs (env::outer)) [e,T0] s.heap (s.heap.update T0 (Obj.mapFields (·.setIfInBounds 3 Value.none))) :=
   Mv.upd (aax _ (aap.mpr rfl)) q0 (abk (aa7 d0 _))
  have RV:(s.heap.update T0 (Obj.mapFields (·.setIfInBounds 3 Value.none))).get? e=some oe:=(aaN _ _ O0).trans he
  have hl1:(s.heap.update T0 (Obj.mapFields (·.setIfInBounds 3 Value.none))).FunFrames base (env::outer):=m0.frames hl λb hb o q=>by
   rcases aat.mp hb with rfl|hb
   ·rw[he]at q;cases q;exact⟨vs,hd⟩
   ·rw[aap.mp hb,q0]at q;cases q;exact⟨t0,d0⟩
  have zs:(s.heap.update T0 (Obj.mapFields (·.setIfInBounds 3 Value.none))).objs.size=s.heap.objs.size:=Heap.size_after_update ..
  refine zA (s:={s with heap:=s.heap.update T0 (Obj.mapFields (·.setIfInBounds 3 Value.none))}) hfr hl1 hf RV hd hsz λh' T oT ts m zT hne e1 eT dT t3=>?_
  have zT:s.heap.objs.size<=T:=by rw[←zs];exact zT
  have nT:s.heap.get? T=none:=abn zT
  refine k h' [e,T0] (λb hb=>?_) (m0.trans (m.mono (λ_ z=>z) λb z=>by rw[aap.mp z];exact aaC)) ⟨fr,nw,_,_,e1,(wF _ _).trans hc,(tH _ _).trans hdi,aa7 hd _,T,oT,ts,by simp[hsz],hH T zT,S5 T nT,hne,eT,dT,t3,by rw[abm 'c'];exact Qg⟩
  rcases aat.mp hb with rfl|hb
  ·exact⟨fr,nw⟩
  ·rw[aap.mp hb];exact⟨n0,w0⟩
 ·obtain⟨T0,o0,t0,h1,n0,w0,O0,q0,d0,z3,Qg⟩:=fa
  refine aaf (aaZ he hd h1 ?_)
  rw[aal (show(Value.ref T0 != Value.none)=true from by simp)]
  refine aaf (aaZ q0 d0 z3 ?_)
  rw[aal (show(rawInt L==rawInt L)=true from by simp)]
  refine aar ?_
  exact k s.heap [] (λb hb=>nomatch hb) Mv.refl ⟨fr,nw,oe,vs,he,hc,hdi,hd,T0,o0,t0,h1,n0,w0,O0,q0,d0,z3,Qg⟩
theorem wG{v:Value}(x:Exc h₀ H s.heap e C od (some v))(k:∀h' ch,Qf h₀ H ch->Mv [] ch s.heap h'->Exc h₀ H h' e C od (some .none)->Q () {s with heap:=h'}):wpAny M A (setFlight (.ref e) none) Q E s:=by
 obtain⟨fr,nw,oe,vs,he,hc,hdi,hd,T,oT,ts,h1,n0,w0,O0,q0,d0,z3,Qg⟩:=x
 have hsz:=(aa2.mp z3).1
 refine wpAny_setFlight_none he hd h1 q0 d0 hsz (k _ [T] (λb hb=>?_) (Mv.upd (aap.mpr rfl) q0 (abk (aa7 d0 _))) ⟨fr,nw,oe,vs,(aaN _ _ O0).trans he,hc,hdi,hd,T,_,_,h1,n0,w0,O0,aa9 _ q0 (abk (aa7 d0 _)),aa7 d0 _,by simp[hsz],Qg⟩)
 rw[aap.mp hb]
 exact⟨n0,w0⟩
theorem HY{fl:Option Value}(hfr:A.frames=some (env::outer))(hl:s.heap.FunFrames base (env::outer))(hf:env.frame=some L)(x:Exc h₀ H s.heap e C od fl)(hfl:fl=none\/fl=some .none\/fl=some (rawInt L))(ht:∀b o,h₀.get? b=some o->∃o',s.heap.get? b=some o')(hH:∀b,s.heap.objs.size<=b->H b=none)(k:∀h' ch,Qf h₀ H ch->Mv (frs (env::outer)) ch s.heap h'->Exc h₀ H h' e C od (some .none)->Q () {s with heap:=h'}):wpAny M A (leaving env (.ref e)) Q E s:=by
 unfold leaving
 refine aaf (Cm hfr hl hf x hfl ht hH λh1 c1 k1 m1 x1=>?_)
 refine wG x1 λh2 c2 k2 m2 x2=>?_
 refine k h2 (c1++c2) (λb hb=>(aaI.mp hb).elim (k1 b) (k2 b)) ((m1.mono (λ_ z=>z) λb z=>List.mem_append_left _ z).trans (m2.mono (λb z=>nomatch z) λb z=>aaG _ z)) x2
end
section
variable{X:Cx}{pins:List 'g'}{σ σ':St}{H H':Hp}{s s1:Shared}
theorem Inv.mv{h':Heap}{ch:List Addr}(I:Inv X pins σ H s)(J:Inv X pins σ' H' s1)(m:Mv (frs X.stack) ch s1.heap h')(hc:∀b∈ch,H' b=none/\s.heap.get? b=none):Inv X pins σ' H' {s1 with heap:=h'}:=by
 have MN:∀b o,s.heap.get? b=some o->b∉ch:=λb o e z=>by rw[(hc b z).2]at e;cases e
 have n0:∀b o,X.s₀.heap.get? b=some o->b∉X.ex->b∉ch:=λb o e hx=>let ⟨o',e'⟩:=I.base.there b o e hx;MN b o' e'
 have UI:∀b o,X.s₀.heap.get? b=some o->b≠X.env.locals:=λb o e=>aaH (aav (aao e) I.ok.above)
 have YZ:∀b,b≠X.env.locals->b∉X.fs->b∉frs X.stack:=λb h1 h2 z=>(aat.mp (I.sR b z)).elim h1 h2
 have cellK:∀x c,X.env.cells.lookup x=some c->∀v,s1.heap.IsCell c v->Heap.IsCell h' c v:=λx c e v ⟨o,ho,hd⟩=>by
  obtain⟨v0,o0,e0,_⟩:=I.cell x c e
  obtain⟨sl,q⟩:=m.slot c o (MN c o0 e0) ho
  exact⟨_,q,hd⟩
 have Wc:∃o,s.heap.get? X.env.locals=some o:=let ⟨m',⟨o,_,_,ho,_⟩,_⟩:=I.loc;⟨o,ho⟩
 obtain⟨oL,eL⟩:=Wc
 refine⟨J.ok,J.os,J.bare,⟨λb o e n hb hx=>m.keep b o (n0 b o e hx) (YZ b (UI b o e) hb) (J.base.keep b o e n hb hx),λb o e n hb hx=>?_,J.base.free,λb o e hx=>?_,J.base.tups,J.base.oE,J.base.qf⟩,?_,λx c e=>?_,J.free,J.gJ,λp hp=>?_,λa o e=>?_,J.len⟩
 ·obtain⟨sl,e1⟩:=J.base.slot b o e n hb hx
  obtain⟨sl2,e2⟩:=m.slot b _ (n0 b o e hx) e1
  exact⟨sl2,e2⟩
 ·obtain⟨o',e1⟩:=J.base.there b o e hx
  exact m.there b o' e1
 ·obtain⟨mm,⟨o,es,ep,ho,r⟩,hl⟩:=J.loc
  obtain⟨sl,q⟩:=m.slot _ o (MN _ oL eL) ho
  refine⟨mm,⟨_,es,ep,q,r⟩,λi x v e1 e2 e3=>?_⟩
  obtain⟨u,r1,l⟩:=hl i x v e1 e2 e3
  refine⟨u,r1,?_⟩
  rcases l with l|⟨k,c,e,z⟩
  ·exact .inl l
  ·exact .inr ⟨k,c,e,cellK x c e _ z⟩
 ·obtain⟨v,z⟩:=J.cell x c e
  exact⟨v,cellK x c e v z⟩
 ·obtain⟨e0,_,_,_,_⟩:=I.pin p hp
  obtain⟨e,n,ne,nf,d⟩:=J.pin p hp
  exact⟨m.keep p.1 p.2 (MN _ _ e0) (YZ _ ne nf) e,n,ne,nf,d⟩
 ·refine(J.hok a o e).stay (λb u hb q=>m.keep b u (λz=>?_) (λz=>?_) q) (λ_ q=>q) λ_ _ q=>q
  ·have:=(hc b z).1
   rcases hb with rfl|hb
   ·rw[this]at e;cases e
   ·rw[this]at hb;cases hb
  ·have:=J.zY b z
   rcases hb with rfl|hb
   ·rw[this]at e;cases e
   ·rw[this]at hb;cases hb
def BW(P:Program)(w:World):HK:=λouter H s E e s'=>∃ea C od H',e=.ref ea/\s'.os=s.os/\AllBare s'.gens/\Un (frs outer) [] H H' s.heap s'.heap/\sP P w H' s'.heap/\Exc s.heap H' s'.heap ea C od (some .none)/\E C od H'
theorem Exc.older{h₀ h1 h:Heap}{H:Hp}{e:Addr}{C:Value}{od:Option Addr}{fl:Option Value}(x:Exc h1 H h e C od fl)(ht:∀b,h1.get? b=none->h₀.get? b=none):Exc h₀ H h e C od fl:=by
 obtain⟨fr,nw,oe,vs,he,hc,hdi,hd,fa⟩:=x
 refine⟨fr,ht _ nw,oe,vs,he,hc,hdi,hd,?_⟩
 cases fl with
 |none=>exact fa
 |some v=>obtain⟨T,oT,ts,h1,n0,w0,r⟩:=fa;exact⟨T,oT,ts,h1,n0,ht _ w0,r⟩
theorem leaveX{E:XK}{E':Value->Shared->Prop}{ea:Addr}{C:Value}{od:Option Addr}{fl:Option Value}(hst:X.stack=X.env::X.outer)(hfm:X.env.frame=some X.env.locals)(hex:X.ex=[])(I:Inv X pins σ H s)(J:Inv X pins σ' H' s1)(ht:∀b o,s.heap.get? b=some o->∃o',s1.heap.get? b=some o')(x:Exc s.heap H' s1.heap ea C od fl)(hfl:fl=none\/fl=some .none\/fl=some (rawInt X.env.locals))(hE:E C od H'):wpAny 'd' X.A (leaving X.env (.ref ea)) (λ_ s''=>BW X.prog X.w X.outer X.H₀ X.s₀ E (.ref ea) s'') E' s1:=by
 have hl:=J.stack
 rw[hst]at hl
 refine HY (J.ok.frames.trans (by rw[hst])) hl hfm x hfl ht (λb hb=>J.hok.fresh hb) λh' ch hc m x'=>?_
 have K:=I.mv J (h':=h') (by rw[hst];exact m) hc
 have old:∀b,s.heap.get? b=none->X.s₀.heap.get? b=none:=λb hb=>by
  cases q:X.s₀.heap.get? b with
  |none=>rfl
  |some o=>obtain⟨o',z⟩:=I.base.there b o q (by rw[hex];simp);rw[hb]at z;cases z
 have U:=K.base
 rw[hex]at U
 exact⟨ea,C,od,H',O,J.os,J.bare,U,K.hok,x'.older old,hE⟩
end
section
variable{P:Program}{w:World}{K:W.Frag}{mg:Str->Option Value}{base:Heap}{N:List Str}{qual:Str}{scope:Scope}{f:Addr}{cd:Value}{A:Around}{outer:List Env}{s:Shared}{H:Hp}{E:XK}
theorem O1:Passes (BW P w) (oH (BW P w) P w K mg base N qual scope f cd A outer s H E) E:=by
 rintro pins σ H1 s1 e s' I ⟨ea,C,od,H',rfl,os,bare,un,hok,x,hE⟩
 have J:=I.B7 os un hok bare (λb z=>nomatch z)
 exact leaveX (X:=oH (BW P w) P w K mg base N qual scope f cd A outer s H E) rfl rfl rfl I J (λb o q=>un.there b o q (by simp)) x (.inr (.inl rfl)) hE
theorem eY.Wd{x:Str}{st:Stmt}{fd:FuncData}{ps:List Str}{k:Nat}{sp:Sp}(F:eY K x qual st f fd)(S:aF N ps (au st))(len:∀vs H Q E,sp vs H Q E->vs.length=ps.length)(hbody:∀(cdv:Value)(A:Around)(outer:List Env)(s:Shared)(H:Hp)(vs:List V)(Q:VK)(E:XK),cM k (A.deeper (envOfC qual (au st) s.heap.objs.size f cdv))->sp vs H Q E->∃t,BV (oH (BW P w) P w K mg base N qual (au st) f cdv A outer s H E) (bZ st) t/\t {nx:=λ_ H'=>Q .non H',rt:=Q} (start N vs) H):bx P w K mg base (BW P w) (k+1) f fd ps sp:=by
 obtain⟨oc,od,kV,doc,pm,an,cdv,ct,osl,rfl,lk,hcd⟩:=F.ex
 exact KD lk hcd S len λA outer s H vs Q E hr Ed=>hbody cdv A outer s H vs Q E hr Ed
end
theorem sP.none{P:Program}{w:World}{H:Hp}{h:Heap}{a:Addr}(x:sP P w H h)(e:h.get? a=Option.none):H a=Option.none:=by
 cases q:H a with
 |none=>rfl
 |some u=>obtain⟨o,z⟩:=(x a u q).ex;rw[e]at z;cases z
abbrev fV:List Value:=[.type "ValueError",.type "Exception",.type "BaseException",.type "object"]
structure cB(K:W.Frag)(C N:Addr)(bm:List Value)(ini:Option Value):Prop where
 ob:∃nm q bs hdct sn sub ab col dd k0 k1 k2 k3 k5,K.lookup C=some (excClassObj nm q C N bs bm hdct sn sub ab col dd k0 k1 k2 k3 k5 "ValueError.__new__")
 ns:∃oc od es n sl,K.lookup N=some ⟨oc,od,.dict es n,sl⟩/\(es.toList.all λe=>match e.key with | .str _ _=>true|_=>false)=true
 ini:W.nsIn K N "__init__"=some ini
def wH(K:W.Frag)(bm:List Value):Prop:=bm=fV\/∃D ND,bm=.ref D::fV/\cB K D ND fV none
section
variable{K:W.Frag}{h:Heap}{C N:Addr}{bm:List Value}{ini:Option Value}
theorem cB.names(x:cB K C N bm ini):∃m:Str->Option Value,m "__init__"=ini/\∀h,K.In h->h.Ns N m:=by
 obtain⟨oc,od,es,n,sl,lk,al⟩:=x.ns
 have sk:StrKeys es:=λe he=>by
  have z:=aaB.mp al e (by simpa using he)
  revert z
  cases e.key<;>intro z<;>first|exact⟨_,_,rfl⟩|cases z
 refine⟨nsFind es,?_,λh gk=>⟨_,es,n,gk _ _ lk,O,sk,λ_=>rfl⟩⟩
 have e:=x.ini
 unfold W.nsIn at e
 rw[lk]at e
 dsimp only at e
 unfold nsFind findBy
 rw[←Array.find?_toList]
 cases q:es.toList.find? (·.key.isStr "__init__") with
 |some en =>
  rw[q]at e
  exact aah e
 |none =>
  rw[q]at e
  dsimp only at e
  split at e
  ·cases e
  ·exact aah e
theorem cB.obj(x:cB K C N bm ini)(gk:K.In h):∃nm q bs hdct sn sub ab col dd k0 k1 k2 k3 k5,h.get? C=some (excClassObj nm q C N bs bm hdct sn sub ab col dd k0 k1 k2 k3 k5 "ValueError.__new__"):=by
 obtain⟨nm,q,bs,hdct,sn,sub,ab,col,dd,k0,k1,k2,k3,k5,e⟩:=x.ob
 exact⟨nm,q,bs,hdct,sn,sub,ab,col,dd,k0,k1,k2,k3,k5,gk _ _ e⟩
theorem wH.tail(x:wH K bm)(gk:K.In h):OwnTail h fV bm:=by
 rcases x with rfl|⟨D,ND,rfl,d⟩
 ·exact .base
 ·obtain⟨nm,q,bs,hdct,sn,sub,ab,col,dd,k0,k1,k2,k3,k5,e⟩:=d.obj gk
  obtain⟨m,mi,mn⟩:=d.names
  exact .own e (mn h gk) mi .base
theorem wH.base(x:wH K bm):bm.contains (.type "BaseException")=true:=by
 rcases x with rfl|⟨D,ND,rfl,d⟩
 ·decide
 ·rw[abl];rfl
end
section
variable{P:Program}{w:World}{K:W.Frag}{mg:Str->Option Value}{base:Heap}{N0:List Str}{qual:Str}{scope:Scope}{f:Addr}{cd:Value}{A:Around}{outer:List Env}{s0:Shared}{H0:Hp}{E:XK}
def Qh(E:XK)(C:Addr)(t:TA):TS:=λ_ σ H=>t σ H λvs H1=>vs.length<=sizeLine/\E (.ref C) none H1
theorem Le{X:Cx}(hX:X=oH (BW P w) P w K mg base N0 qual scope f cd A outer s0 H0 E){C N:Addr}{bm:List Value}{x:Str}{np cpos pos:Pos}{e:Expr}{es:List Expr}{t:TA}(c:cB K C N bm none)(tl:wH K bm)(hg:Gl X x)(hm:mg x=some (.ref C))(ha:PA X (e::es) t)(hdb:(x==("__debug__":Str))=false:=by decide)(he:starEach (e::es) X.env=(false,eval e X.env)::starEach es X.env:=by rfl)(hpl:(backTo cpos (starEach es X.env)).any (·.1)=false:=by rfl):PS X (.Raise (some (.Call (.Name x np) (e::es) [] cpos)) none pos) (Qh E C t):=by
 intro pins s σ H D I h
 obtain⟨nm,q,bs,hdct,sn,sub,ab,col,dd,k0,k1,k2,k3,k5,lk⟩:=c.ob
 obtain⟨m,mi,mn⟩:=c.names
 have hx:X.xe=λ(e:Value)(s':Shared)=>wpAny 'd' X.A (leaving X.env e) (λ_ s''=>BW X.prog X.w X.outer X.H₀ X.s₀ E e s'') (λe' s''=>BW X.prog X.w X.outer X.H₀ X.s₀ E e' s'') s':=by subst hX;rfl
 have We:(backTo cpos (starEach (e::es) X.env)).any (·.1)=false:=by rw[he];exact hpl
 have hst:X.stack=X.env::X.outer:=by subst hX;rfl
 have hfm:X.env.frame=some X.env.locals:=by subst hX;rfl
 have hex:X.ex=[]:=by subst hX;rfl
 have hmg:X.mg x=some (.ref C):=by subst hX;exact hm
 have Wf:X.calm=true:=by subst hX;rfl
 have hK:X.K=K:=by subst hX;rfl
 refine wpAny_Raise_call_subU (C:=C) (nm:=nm) (q:=q) (N:=N) (bs:=bs) (bm:=bm) (hdct:=hdct) (sn:=sn) (sub:=sub) (ab:=ab) (col:=col) (dd:=dd) (k0:=k0) (k1:=k1) (k2:=k2) (k3:=k3) (k5:=k5) (newId:="ValueError.__new__")
  abC 'c' abC (mN:=m) tl.base (I.ok.hd Wf) We mi (iw I hg hmg ⟨rfl,?_⟩ hdb)
 have z:=ha cpos pins s σ H _ I h
 rw[he]at z⊢
 refine Calls.evalArgs_plain (bY z λus s1 ⟨vs,H1,I1,r,hl,hE⟩=>?_)
 have gk:K.In s1.heap:=by rw[←hK];exact I1.jd
 refine⟨O,by show us.length<=sizeLine;rw[←r.length];exact hl,gk _ _ lk,mn _ gk,tl.tail gk,λh' ea md=>?_⟩
 obtain⟨ta,q1,_,_⟩:=md.there
 rw[hx]
 exact leaveX (fl:=none) hst hfm hex I1 (I1.kept (t':=s1.toks) md.keeps) (λb o q=>⟨o,md.keeps b o q⟩) ⟨I1.hok.none md.new,md.new,_,_,q1,rfl,rfl,rfl,rfl,rfl⟩ (.inl rfl) hE
end
section
abbrev Wg:=St->Hp->VK->XK->Prop
abbrev S6:=Ends->XK->St->Hp->Prop
def XP(X:Cx)(pins:List 'g')(σ:St)(Ex:XK)(e:Value)(s':Shared):Prop :=
 ∃ea C od H' s2 H2,e=.ref ea/\Inv X pins σ H2 s2/\Inv X pins σ H' s'/\(∀b o,s2.heap.get? b=some o->∃o',s'.heap.get? b=some o')/\Exc s2.heap H' s'.heap ea C od (some .none)/\Ex C od H'
def Y0(X:Cx)(e:Expr)(t:Wg):Prop :=
 ∀(pins:List 'g')(s:Shared)(σ:St)(H:Hp)(Q:VK)(Ex:XK),Inv X pins σ H s->t σ H Q Ex->wpAny 'd' X.A (eval e X.env) (EP X pins σ Q) (XP X pins σ Ex) s
def Y3(X:Cx)(st:Stmt)(t:S6):Prop :=
 ∀(pins:List 'g')(s:Shared)(σ:St)(H:Hp)(D:Ends)(Ex:XK),Inv X pins σ H s->t D Ex σ H->wpAny 'd' X.A (exec st X.env) (SP X pins D) (XP X pins σ Ex) s
def S7(X:Cx)(st:List Stmt)(t:S6):Prop :=
 ∀(pins:List 'g')(s:Shared)(σ:St)(H:Hp)(D:Ends)(Ex:XK),Inv X pins σ H s->t D Ex σ H->wpAny 'd' X.A (execs st X.env) (SP X pins D) (XP X pins σ Ex) s
variable{X:Cx}{k:Nat}{f C:Addr}{fd:FuncData}{ps:List Str}{sp:Sp}{qM:List V}{ds:List Value}{x m:Str}{p pos apos:Pos}{e o:Expr}{es:List Expr}{ta:TE}{t:TA}{te:Wg}
theorem Wh{α:Type}{u:Sem α}{Q Q':α->Shared->Prop}{M:Model}{A:Around}{E:Value->Shared->Prop}{s:Shared}(h:wpAny M A u Q (λ_ _=>False) s)(hQ:∀a s,Q a s->Q' a s):wpAny M A u Q' E s:=aa1 h hQ λ_ _ z=>z.elim
theorem NF{pins:List 'g'}{σ:St}{H:Hp}{s:Shared}{Q:VK}{Ex:XK}{us:List Value}{vs:List V}(F:bx X.prog X.w X.K X.mg X.base (BW X.prog X.w) k f fd ps sp)(hr:cM k X.A)(hb:Binds X.K fd ps ds)(hd:Vals qM ds)(I:Inv X pins σ H s)(r:Vals vs us)(h:sp (vs++qM) H Q Ex):wpAny 'd' X.A (call (.ref f) us) (EP X pins σ Q) (XP X pins σ Ex) s:=by
 have r2:Vals (vs++qM) (us++ds):=r.append hd
 have hl:(us++ds).length=ps.length:=by rw[←r2.length];exact F.len _ _ _ _ h
 refine wpAny_call (codeAny_mono (F.run X.A X.stack s H ⟨us,[]⟩ (us++ds) (vs++qM) Q Ex hr I.Kz (hb s us I.jd hl) r2 h) λr s' hq=>?_)
 cases r with
 |error e =>
  obtain⟨ea,C,od,H',rfl,os,bare,un,hok,y,hE⟩:=hq
  exact⟨ea,C,od,H',s,H,rfl,I,I.B7 os un hok bare (λb z=>nomatch z),λb o q=>un.there b o q (by simp),y,hE⟩
 |ok fl =>
  cases fl with
  |ret u=>exact I.after hq
  |next=>exact False.elim hq
  |brk=>exact False.elim hq
  |cont=>exact False.elim hq
def Qi(sp:Sp)(qM:List V)(t:TA):Wg:=λσ H Q Ex=>t σ H λvs H1=>sp (vs++qM) H1 Q Ex
theorem Lg(F:bx X.prog X.w X.K X.mg X.base (BW X.prog X.w) k f fd ps sp)(hr:cM k X.A)(hg:Gl X x)(hm:X.mg x=some (.ref f))(hk:W.keepIn X.K (.ref f)=true)(hb:Binds X.K fd ps ds)(hd:Vals qM ds)(ha:PA X.Pp (e::es) t)(hdb:(x==("__debug__":Str))=false:=by decide)(he:starEach (e::es) X.env=(false,eval e X.env)::starEach es X.env:=by rfl)(hpl:(backTo pos (starEach es X.env)).any (·.1)=false:=by rfl):Y0 X (.Call (.Name x p) (e::es) [] pos) (Qi sp qM t):=by
 intro pins s σ H Q Ex I h
 refine abb (iw I hg hm ?_ hdb)
 refine W.callWith_K (h₀:=X.base) I.ok.mod.gk hk (Wh (ha pos pins s σ H _ (I.vZ _) h) λus s1 ⟨vs,H1,I1,r,q⟩=>⟨I1.jA.jd,?_⟩) he hpl
 exact NF F hr hb hd I1.jA r q
theorem NG{i:Nat}{pos':Pos}(hN:X.N.Nodup)(hi:X.N[i]?=some x)(hx:Loc X.env.scope x)(he:Y0 X e te)(hs:swapsWith e (some (.Name x pos')) pos.line X.env=pure false:=by rfl)(hf:X.fn x=true\/X.env.scope.names.lookup x=some .local:=by first|exact .inl rfl|exact .inr rfl|assumption):Y3 X (.Assign [.Name x pos'] e pos) (λD Ex σ H=>te σ H (λv H1=>D.nx (σ.set i (some v)) H1) Ex):=by
 intro pins s σ H D Ex I h
 refine wpAny_Assign_Name (bY (he pins s σ H _ _ I h) λv s1 ⟨y,H1,I1,r1,q1⟩=>?_) hs
 exact qN I1 hN hi hx r1 (λs2 I2=>⟨_,H1,I2,q1⟩) hf
theorem Lh{st:Stmt}{ts:S6}(h1:Y3 X st ts):S7 X [st] ts:=by
 intro pins s σ H D Ex I h
 refine wpAny_execs_cons (bY (h1 pins s σ H D Ex I h) λf s1 q=>?_)
 cases f with
 |next=>exact wpAny_execs_nil q
 |ret v=>exact q
 |brk=>exact q
 |cont=>exact q
end
def Am(e:Addr)(C:Value)(od:Option Addr):HO:=.ext λh=>∃o vs,h.get? e=some o/\o.cls=C/\o.dict=od/\o.data=.fields vs/\vs[2]?=some .none
theorem HZ{e:Addr}{C:Value}{od:Option Addr}:∀h1 h2:Heap,(∃o vs,h1.get? e=some o/\o.cls=C/\o.dict=od/\o.data=.fields vs/\vs[2]?=some .none)->(∀o,h1.get? e=some o->h2.get? e=some o)->∃o vs,h2.get? e=some o/\o.cls=C/\o.dict=od/\o.data=.fields vs/\vs[2]?=some .none :=
 λ_ _ ⟨o,vs,q,r⟩ k=>⟨o,vs,k o q,r⟩
theorem S8{P:Program}{w:World}{H:Hp}{h:Heap}{e:Addr}{C:Value}{od:Option Addr}(x:∃o vs,h.get? e=some o/\o.cls=C/\o.dict=od/\o.data=.fields vs/\vs[2]?=some .none):cS P w H h e (Am e C od) :=
 ⟨x,(let ⟨o,_,q,_⟩:=x;⟨o,q⟩),HZ⟩
section
variable{X:Cx}{pins:List 'g'}{σ σ':St}{H H':Hp}{s s1:Shared}
theorem Inv.Li{a:Addr}{o:HO}(I:Inv X pins σ H s)(J:Inv X pins σ' H' s1)(hex:X.ex=[])(hn:H' a=none)(hw:s.heap.get? a=none)(new:cS X.prog X.w (upd H' a o) s1.heap a o):Inv X pins σ' (upd H' a o) s1:=by
 have ne:∀b u,s.heap.get? b=some u->b≠a:=λb u e z=>by rw[z,hw]at e;cases e
 have O0:∀b u,X.s₀.heap.get? b=some u->b≠a:=λb u e=>let ⟨o',e'⟩:=I.base.there b u e (by rw[hex];simp);ne b o' e'
 refine⟨J.ok,J.os,J.bare,⟨J.base.keep,J.base.slot,λb u e n hx=>?_,J.base.there,λb xs e=>?_,λb u v e=>?_,λb ps e=>?_⟩,J.loc,J.cell,?_,λx c e=>?_,λp hp=>?_,λb u e=>?_,J.len⟩
 ·rw[aB (O0 b u e)];exact J.base.free b u e n hx
 ·have z:=J.base.tups b xs e
  rw[aB (aU z hn)];exact z
 ·have z:=J.base.oE b u v e
  rw[aB (aU z hn)];exact z
 ·obtain⟨more,z⟩:=J.base.qf b ps e
  exact⟨more,by rw[aB (aU z hn)];exact z⟩
 ·obtain⟨m,⟨oL,_,_,eL,_⟩,_⟩:=I.loc
  rw[aB (ne _ _ eL)];exact J.free
 ·obtain⟨v,oc,ec,_⟩:=I.cell x c e
  rw[aB (ne _ _ ec)];exact J.gJ x c e
 ·obtain⟨e0,_⟩:=I.pin p hp
  obtain⟨e1,n1,r⟩:=J.pin p hp
  exact⟨e1,by rw[aB (ne _ _ e0)];exact n1,r⟩
 ·by_cases hb:b=a
  ·subst hb;rw[aj]at e;cases e;exact new
  ·rw[aB hb]at e
   exact(J.hok b u e).stay (λc v _ q=>q) (λc q=>by rw[aB (aU q hn)];exact q) λc xs q=>by rw[aB (aU q hn)];exact q
theorem Inv.gone{i:Nat}{n:Str}{h':Heap}{v:Option Value}{tk:Nat}{m:Str->Option Value}(I:Inv X pins σ H s)(hN:X.N.Nodup)(hi:X.N[i]?=some n)(hm:s.heap.Ns X.env.locals m)(hn:h'.Ns X.env.locals (λx=>if x=n then v else m x))(hs:Heap.SameBut X.env.locals s.heap h'):Inv X pins (σ.set i none) H {s with heap:=h',toks:=tk}:=by
 obtain⟨m0,hn0,hl⟩:=I.loc
 have em:m0=m:=by
  obtain⟨o1,es1,ep1,q1,d1,_,f1⟩:=hn0
  obtain⟨o2,es2,ep2,q2,d2,_,f2⟩:=hm
  rw[q1]at q2
  cases q2
  rw[d1]at d2
  cases d2
  funext x
  rw[←f1,←f2]
 subst em
 have hil:i<σ.length:=by rw[I.len];exact(aaj.mp hi).1
 have ab:∀b o,X.s₀.heap.get? b=some o->b≠X.env.locals:=λb o e=>aaH (aav (aao e) I.ok.above)
 have hk:sP X.prog X.w H h':=λb ob e=>by
  refine(I.hok b ob e).stay (λc w' hc q=>(hs.2 c ?_).trans q) (λ_ q=>q) λ_ _ q=>q
  rintro rfl
  rcases hc with rfl|hc
  ·rw[I.free]at e;cases e
  ·rw[I.free]at hc;cases hc
 refine⟨I.ok,I.os,I.bare,⟨λb o e n hb hx=>(hs.2 b (ab b o e)).trans (I.base.keep b o e n hb hx),λb o e n hb hx=>?_,I.base.free,λb o e hx=>?_,I.base.tups,I.base.oE,I.base.qf⟩,⟨_,hn,λj y u e1 e2 e3=>?_⟩,λy c e=>?_,I.free,I.gJ,λp hp=>?_,hk,by simpa using I.len⟩
 ·obtain⟨sl,e1⟩:=I.base.slot b o e n hb hx
  exact⟨sl,(hs.2 b (ab b o e)).trans e1⟩
 ·obtain⟨o',e1⟩:=I.base.there b o e hx
  exact⟨o',(hs.2 b (ab b o e)).trans e1⟩
 ·by_cases hj:j=i
  ·subst hj
   rw[List.getElem?_set_self hil]at e2
   cases e2
  ·rw[List.getElem?_set_ne (abi hj)]at e2
   obtain⟨u',r',q⟩:=hl j y u e1 e2 e3
   refine⟨u',r',?_⟩
   have hne:y≠n:=λz=>hj (vX hN e1 (z▸hi))
   rcases q with ⟨k,e⟩|⟨k,c,e,z⟩
   ·exact .inl ⟨k,by simp[hne,e]⟩
   ·exact .inr ⟨k,c,e,z.sameBut hs (I.M0 y c e)⟩
 ·obtain⟨w',z⟩:=I.cell y c e
  exact⟨w',z.sameBut hs (I.M0 y c e)⟩
 ·obtain⟨e,n,ne,nf,d⟩:=I.pin p hp
  exact⟨(hs.2 p.1 ne).trans e,n,ne,nf,d⟩
end
section
variable{M:Model}{A:Around}{E:Value->Shared->Prop}{K:W.Frag}{s:Shared}{C D N N' ea:Addr}{bm bm':List Value}{ini Qj:Option Value}{Q:Bool->Shared->Prop}
theorem Cn{oe:Obj}(gk:K.In s.heap)(c:cB K C N bm ini)(d:cB K D N' bm' Qj)(td:wH K bm')(he:s.heap.get? ea=some oe)(hc:oe.cls=.ref C)(h:Q ((Value.ref C::bm).contains (.ref D)) s):wpAny M A (excMatches (.ref ea) (.ref D)) Q E s:=by
 obtain⟨nm,q,bs,hdct,sn,sub,ab,col,dd,k0,k1,k2,k3,k5,lc⟩:=c.obj gk
 obtain⟨nm',q',bs',Y4,sn',sub',ab',col',dd',k0',YT,k2',k3',k5',ld⟩:=d.obj gk
 have hB:(Value.ref D::bm').contains (.type "BaseException")=true:=by rw[abl,td.base];rfl
 have f:=tc_notTuple
 obtain⟨hp,g,dr,tk,os⟩:=s
 unfold excMatches
 repeat (first | (with_reducible refine abp he ?_;rw[hc])|with_reducible refine abp ld ?_ | (with_reducible refine wpAny_isSubtype_exc ld ?_;rw[hB])|with_reducible refine wpAny_isSubtype_exc lc ?_|wp_step)
 cases hb:(Value.ref C::bm).contains (.ref D)<;>(rw[hb]at h;wp_walk;exact h)
end
abbrev Cx.han(X:Cx)(ea:Addr):Cx:={X with A:=X.A.mark (some (.ref ea)),calm:=false,xe:=λ_ _=>False}
section
variable{X:Cx}{pins:List 'g'}{σ:St}{H:Hp}{s:Shared}{ea:Addr}
theorem Cx.Ok.han(ok:X.Ok)(ea:Addr):(X.han ea).Ok :=
 ⟨ok.mod,ok.kind,ok.glob,ok.blt,ok.above,ok.inj,ok.has,ok.Pk,(λz=>nomatch (show false=true from z)),ok.frames,ok.stk,ok.UH,ok.bs,ok.HD,ok.D0,ok.HE,ok.oF,ok.Kl⟩
theorem Inv.han(I:Inv X pins σ H s)(ea:Addr):Inv (X.han ea) pins σ H s:=⟨I.ok.han ea,I.os,I.bare,I.base,I.loc,I.cell,I.free,I.gJ,I.pin,I.hok,I.len⟩
theorem Inv.S9(ok:X.Ok)(I:Inv (X.han ea) pins σ H s):Inv X pins σ H s:=⟨ok,I.os,I.bare,I.base,I.loc,I.cell,I.free,I.gJ,I.pin,I.hok,I.len⟩
abbrev TH:=Addr->Value->Option Addr->TS
def UZ(X:Cx)(hs:List ExceptHandler)(t:TH):Prop :=
 ∀(pins:List 'g')(s:Shared)(σ:St)(H:Hp)(D:Ends)(ea:Addr)(C:Value)(od:Option Addr)(s2:Shared)(H2:Hp),Inv X pins σ H2 s2->Inv X pins σ H s->(∀b o,s2.heap.get? b=some o->∃o',s.heap.get? b=some o')->Exc s2.heap H s.heap ea C od (some .none)->t ea C od D σ H->wpAny 'd' X.A (handleBy (.ref ea) X.env hs) (SP X pins D) X.xe s
theorem Qk:UZ X [] (λ_ _ _ _ _ _=>False):=λ_ _ _ _ _ _ _ _ _ _ _ _ _ _ h=>h.elim
def Tc(K:W.Frag)(Dc:Addr)(i:Nat)(tb:Addr->TS)(tr:TH):TH:=λea C od D σ H=>∃Cc N bm ini,C=.ref Cc/\cB K Cc N bm ini/\if (Value.ref Cc::bm).contains (.ref Dc)=true then tb ea {nx:=λσ' H'=>D.nx (σ'.set i none) H',rt:=D.rt,bk:=λσ' H'=>D.bk (σ'.set i none) H',ct:=λσ' H'=>D.ct (σ'.set i none) H'} (σ.set i (some (.ref ea))) (upd H ea (Am ea C od)) else tr ea C od D σ H
theorem O2{i:Nat}{x n:Str}{np hpos:Pos}{b₀:Stmt}{suite:List Stmt}{rest:List ExceptHandler}{Dc ND:Addr}{Y5:List Value}{Wi:Option Value}{tb:Addr->TS}{tr:TH}(hex:X.ex=[])(hg:Gl X x)(hm:X.mg x=some (.ref Dc))(d:cB X.K Dc ND Y5 Wi)(td:wH X.K Y5)(hN:X.N.Nodup)(hi:X.N[i]?=some n)(hl:X.env.scope.names.lookup n=some .local)(hb:∀ea,BV (X.han ea) (b₀::suite) (tb ea))(hr:UZ X rest tr)(hdb:(x==("__debug__":Str))=false:=by decide):UZ X (.ExceptHandler (some (.Name x np)) (some n) (b₀::suite) hpos::rest) (Tc X.K Dc i tb tr):=by
 rintro pins s σ H D ea C od s2 H2 I2 J ht y ⟨Cc,N,bm,ini,rfl,c,q⟩
 obtain⟨fr,nw,oe,vs,he,hc,hdi,hd,fa⟩:=id y
 refine wpAny_handleBy_cons (codeAny_handlers_test (iw (X:=X.han ea) (J.han ea) hg hm ?_ hdb)) (by intro z;cases z)
 refine Cn J.jd c d td he hc ?_
 cases hb2:(Value.ref Cc::bm).contains (.ref Dc) with
 |false =>
  rw[hb2,aag aaw]at q
  exact hr pins s σ H D ea _ od s2 H2 I2 J ht y q
 |true =>
  rw[hb2,aal rfl]at q
  refine codeAny_handlers_suite_as ?_
  refine wG y λh1 ch hch mv y1=>?_
  have J1:=I2.mv J (mv.mono (λb z=>nomatch z) λb z=>z) hch
  obtain⟨fr1,nw1,oe1,vs1,RV,hc1,Wj,hd1,fa1⟩:=id y1
  have J2:=I2.Li J1 (o:=Am ea (.ref Cc) od) hex fr1 nw1 (S8 ⟨oe1,vs1,RV,hc1,Wj,hd1,fa1.cx⟩)
  refine qN J2 hN hi (.inl hl) (show RelV (.ref ea) (.ref ea) from rfl) (λs3 J3=>?_) (.inr hl)
  refine aa1 (hb ea pins s3 _ _ _ (J3.han ea) q) (λf s4 r=>?_) λ_ _ z=>z.elim
  have hp:(X.env.scope.kind==.class||(X.env.scope.kind==.module&&X.env.locals != X.env.globals))=false:=by rw[J.ok.kind];rfl
  have go:∀{σ':St}{H':Hp}{Q:Unit->Shared->Prop},Inv (X.han ea) pins σ' H' s4->(∀s5,Inv X pins (σ'.set i none) H' s5->Q () s5)->wpAny 'd' X.A (do bindName X.env n .none;unbindBehindTheSuite X.env n hpos) Q X.xe s4:=λ{σ' H' Q} I4 k=>by
   have I5:=I4.S9 J.ok
   obtain⟨m,hn,_⟩:=id I5.loc
   exact wpAny_nameGoes_keeps hl hn hp λh' v hn' hs=>k _ (I5.gone hN hi hn hn' hs)
  cases f with
  |next=>obtain⟨σ',H',I4,q4⟩:=r;exact go I4 λs5 I5=>⟨_,H',I5,q4⟩
  |brk=>obtain⟨σ',H',I4,q4⟩:=r;exact go I4 λs5 I5=>⟨_,H',I5,q4⟩
  |cont=>obtain⟨σ',H',I4,q4⟩:=r;exact go I4 λs5 I5=>⟨_,H',I5,q4⟩
  |ret u=>obtain⟨v,σ',H',I4,rv,q4⟩:=r;exact go I4 λs5 I5=>⟨v,_,H',I5,rv,q4⟩
def Td(tb:S6)(th:TH)(to:TS):TS:=λD σ H=>tb {D with nx:=λσ1 H1=>to D σ1 H1} (λC od H'=>∀ea,H' ea=none->th ea C od D σ H') σ H
theorem NH{body orelse:List Stmt}{h₀:ExceptHandler}{hs:List ExceptHandler}{pos:Pos}{tb:S6}{th:TH}{to:TS}(hst:X.stack=X.env::X.outer)(hfm:X.env.frame=some X.env.locals)(hb:S7 X body tb)(hh:UZ X (h₀::hs) th)(ho:BV X orelse to):PS X (.Try body (h₀::hs) orelse [] pos) (Td tb th to):=by
 intro pins s σ H D I h
 refine wpAny_Try_except (aa1 (hb pins s σ H _ _ I h) (λf s1 q=>?_) λe s1 q=>?_)
 ·cases f with
  |next=>obtain⟨σ1,H1,I1,q1⟩:=q;exact ho pins s1 σ1 H1 D I1 q1
  |ret u=>exact q
  |brk=>exact q
  |cont=>exact q
 ·obtain⟨ea,C,od,H',s2,H2,rfl,I2,J,ht,y,hE⟩:=q
  have hl:=J.stack
  rw[hst]at hl
  refine Cm (J.ok.frames.trans (by rw[hst])) hl hfm y (.inr (.inl rfl)) ht (λb hb=>J.hok.fresh hb) λh1 ch hc m y1=>?_
  have J1:=I2.mv J (h':=h1) (by rw[hst];exact m) hc
  have ht1:∀b o,s2.heap.get? b=some o->∃o',h1.get? b=some o':=λb o q=>let ⟨o',q'⟩:=ht b o q;m.there b o' q'
  refine wG y1 λh2 ch2 hc2 m2 y2=>?_
  have J2:=I2.mv J1 (h':=h2) (m2.mono (λb z=>nomatch z) λb z=>z) hc2
  exact hh pins _ σ H' D ea C od s2 H2 I2 J2 (λb o q=>let ⟨o',q'⟩:=ht1 b o q;m2.there b o' q') y2 (hE ea y2.fr)
end
end L2
set_option maxHeartbeats 1000000
namespace L2
open PySem PySem.Spec PyProof.Rows PySem.Builtin PySem.Builtin.ObjectAttr
theorem zB(self:Value):refuseLoop self "__setattr__" fV=pure ():=by kernel_rfl
theorem Co{K:W.Frag}{bm:List Value}(tl:wH K bm)(self:Value):refuseLoop self "__setattr__" bm=pure ():=by
 rcases tl with rfl|⟨D,ND,rfl,d⟩
 ·exact zB self
 ·rw[refuseLoop_ref];exact zB self
structure J6(K:W.Frag)(C:Addr)(f:Str):Prop where
 no:W.findIn K (.ref C) f=some none
 sa:W.findIn K (.ref C) "__setattr__"=some (some (.builtin "object.__setattr__"))
 ga:W.findIn K (.ref C) "__getattribute__"=some (some (.builtin "BaseException.__getattribute__"))
 gx:W.findIn K (.ref C) "__getattr__"=some none
 hd:W.hasDictIn K C=true
section
variable{P:Program}{w:World}{A:Around}{E:Value->Shared->Prop}{s:Shared}{K:W.Frag}{C N x:Addr}{bm:List Value}{ini:Option Value}{f:Str}{v:Value}{ox:Obj}{vs:Array Value}
theorem cB.cls(c:cB K C N bm ini)(h:W.hasDictIn K C=true):∃cd,W.clsIn K C=some cd/\cd.mro=.ref C::bm/\cd.hasDict=true:=by
 obtain⟨nm,q,bs,hdct,sn,sub,ab,col,dd,k0,k1,k2,k3,k5,lk⟩:=c.ob
 obtain⟨cd,hc,hd⟩:=W.any_some h
 refine⟨cd,hc,?_,hd⟩
 unfold W.clsIn at hc
 rw[lk]at hc
 cases hc
 rfl
theorem NI{od:Option Obj}{tk:Tok}{R:Result->Shared->Prop}(gk:K.In s.heap)(c:cB K C N bm ini)(tl:wH K bm)(a:J6 K C f)(J:W.InstAt s.heap x ox C od)(h:∀b,wpAny (model P w) A.in1 (storeInOwnDict (.ref x) (.ref C) (.str f tk) f v b) (λfin s'=>match fin with | .done g=>R (.ok g) s' | .again c'=>c'.quiet=true/\codeAny (model P w) A c' R s') (λe s'=>R (.error e) s') s):codeAny (model P w) A (.call (.builtin "object.__setattr__") ⟨[.ref x,.str f tk,v],[]⟩) R s:=by
 obtain⟨cd,hc,hm,hd⟩:=c.cls a.hd
 have SF:=PySem.F.store_object
 have Wk:W.Looks (model P w) s.heap (mroOf (.ref C)) cd.mro:=(W.looks_clsIn gk hc).andThen .now
 have hob:(cd.mro.contains (.type "object"))=true:=by
  rw[hm,abl]
  rcases tl with rfl|⟨D,ND,rfl,d⟩
  ·rfl
  ·rw[abl];rfl
 have ne:cd.mro.isEmpty=false:=by rw[hm];rfl
 have sub:W.Looks (model P w) s.heap (isInstance (.ref x) (.type "object")) true :=
  J.type.andThen (W.looks_mroIn gk (by unfold W.mroIn;rw[hc,Option.bind_some,aag (by rw[ne];decide),hob]))
 refine codeAny_call_builtin SF.slot.plain SF.entry (W.check_slot (M:=model P w) (s:=s) (i:="object.__setattr__") (owner:="object") (n:="__setattr__") (self:=.ref x) (rest:=[.str f tk,v]) (kw:=[]) SF.kind SF.split sub (SF.args (.ref x) (.str f tk) v) ?_)
 rw[W.osa_eq,refuse_eq]
 refine aaf (aaf (J.type.here (aaf (Wk.here ?_))))
 rw[hm,refuseLoop_ref,Co tl]
 have L3:W.Looks (model P w) s.heap (storeTaker? none) none:=.now
 refine aar (aaf (J.type.here (aaf ((W.looks_findIn gk a.no).here (aaf (L3.here ?_))))))
 exact h _
theorem NJ{h:Heap}{d:Addr}{o:Obj}(e:h.get? d=some o)(hd:o.data=.dict #[] 0):h.Ns1 d (λ_=>none) :=
 ⟨o,#[],0,e,hd,λe he=>absurd he (by simp),(by first|exact λi j e e' h1=>absurd h1 (by simp)|simp[UniqKeys]),λ_=>rfl⟩
theorem Lj{Q:Unit->Shared->Prop}(gk:K.In s.heap)(c:cB K C N bm ini)(tl:wH K bm)(a:J6 K C f)(hx:s.heap.get? x=some ox)(hc:ox.cls=.ref C)(hdi:ox.dict=none)(hd:ox.data=.fields vs)(h:∀h' tk,h'.get? x=some {ox with dict:=some s.heap.objs.size}->h'.Ns1 s.heap.objs.size (λy=>if y=f then some v else none)->(∀b o,b≠x->s.heap.get? b=some o->h'.get? b=some o)->Q () {s with heap:=h',toks:=tk}):wpAny (model P w) A (setAttr (.ref x) f v) Q E s:=by
 have J:W.InstAt s.heap x ox C none:=⟨hx,hc,by obtain⟨oc,U0,U1,osl⟩:=ox;cases hd;rfl,by rw[hdi];exact True.intro⟩
 refine W.set_plain gk J a.sa (NI (s:={s with toks:=s.toks+1}) gk c tl a J λb=>?_)
 obtain⟨cd,hcd,hm,Wl⟩:=c.cls a.hd
 obtain⟨oc,U0,U1,osl⟩:=ox
 dsimp only at hc hdi hd
 subst hc hdi hd
 refine aaf (aar (aaf (aaf (wpAny_loadPart hx (aaf (W.Looks.here (s:={s with toks:=s.toks+1}) (W.looks_clsIn gk hcd) ?_))))))
 rw[Wl]
 refine aaf (wpAny_alloc ?_)
 have x1:(s.heap.push {cls:=.type "dict",data:=.dict #[]}).get? x=some ⟨.ref C,none,.fields vs,osl⟩:=aai _ hx
 refine aaf (wpAny_update x1 ?_)
 refine aar (a:=some s.heap.objs.size) ?_
 show wpAny _ _ (storeInDict s.heap.objs.size (Value.str f s.toks) f v) _ _ _
 unfold storeInDict
 refine aaf (m:=newKeyGuard _ _ _) ?_
 refine aar (aaf ?_)
 have ne:s.heap.objs.size≠x:=Nat.ne_of_gt (aao hx)
 have d1:((s.heap.push {cls:=.type "dict",data:=.dict #[]}).update x λo=>{o with dict:=some s.heap.objs.size}).get? s.heap.objs.size=some {cls:=.type "dict",data:=.dict #[]} :=
  (aaN _ _ (abi ne)).trans (aaz s.heap rfl)
 have x2:((s.heap.push {cls:=.type "dict",data:=.dict #[]}).update x λo=>{o with dict:=some s.heap.objs.size}).get? x=some ⟨.ref C,some s.heap.objs.size,.fields vs,osl⟩:=aa9 _ x1 rfl
 refine wpAny_nsSet1 (NJ d1 rfl) λh' hn2 hs2=>?_
 obtain⟨oD,esD,epD,VA,VB,VC⟩:=hn2.count (ns:=[f]) (PySem.Within.cons f v (ns:=[]) (λy hy=>absurd rfl hy))
 refine aaf (wpAny_lookBehind VA (by rw[VB];exact pastItsLine_dict (aay VC (Nat.le_add_left 1 sizeLine))) ?_)
 refine aar (h _ _ ((hs2.2 _ (abi ne)).trans x2) hn2 λb o hb q=>?_)
 have nb:b≠s.heap.objs.size:=aaH (aao q)
 exact(hs2.2 b nb).trans ((aaN _ _ (abi hb)).trans (aai _ q))
theorem NK{tk:Tok}{Q:Fin->Shared->Prop}{tp:Value}(L0:W.Looks (model P w) s.heap (typeOf (.ref x)) tp)(L1:W.Looks (model P w) s.heap (find (.ref x) tp f) (.value v))(h:Q (.done (.ret v)) s):wpAny (model P w) A (Builtin.«object.__getattribute__» ⟨[.ref x,.str f tk],[]⟩) Q E s:=by
 unfold Builtin.«object.__getattribute__»
 refine aaf (m:=slotArgs _ _ _) ?_
 refine aar (a:=(Value.ref x,[Value.str f tk])) ?_
 refine aaf (m:=attrName _) ?_
 refine aar (a:=f) ?_
 refine aaf (L0.here ?_)
 refine aaf (L1.here ?_)
 exact aar h
theorem NL{d:Addr}{mA:Str->Option Value}{expr:Bool}{Q:Value->Shared->Prop}(gk:K.In s.heap)(c:cB K C N bm ini)(tl:wH K bm)(a:J6 K C f)(hx:s.heap.get? x=some ox)(hc:ox.cls=.ref C)(hdi:ox.dict=some d)(hd:ox.data=.fields vs)(hn:s.heap.Ns1 d mA)(hv:mA f=some v)(hh:W.handedIn v=true)(h:Q v {s with toks:=s.toks+1}):wpAny (model P w) A (getAttr (.ref x) f expr) Q E s:=by
 obtain⟨od,ho,hl⟩:=zh hn
 have J:W.InstAt s.heap x ox C (some od):=⟨hx,hc,by obtain⟨oc,U0,U1,osl⟩:=ox;cases hd;rfl,by rw[hdi];exact ho⟩
 have FO:W.findObj K C (some od) f=some (.value v):=W.findObj_own a.hd a.no rfl (by rw[hl,hv])
 obtain⟨cd,hcd,hm,Wl⟩:=c.cls a.hd
 have hob:(cd.mro.contains (.type "BaseException"))=true:=by rw[hm,abl,tl.base];rfl
 have ne:cd.mro.isEmpty=false:=by rw[hm];rfl
 have sub:W.Looks (model P w) s.heap (isInstance (.ref x) (.type "BaseException")) true :=
  J.type.andThen (W.looks_mroIn gk (by unfold W.mroIn;rw[hcd,Option.bind_some,aag (by rw[ne];decide),hob]))
 have hk:W.Looks (model P w) s.heap (hookBefore (.ref C)) none:=W.looks_hook gk (by show(if onTheHeap (.ref C) then _ else _)=_;exact a.gx)
 refine aaf (wpAny_mkText (abg (aaf (J.type _ _ _ _ (λ_ _ e=>e) (aaf (W.looks_findIn gk a.ga _ _ _ _ (λ_ _ e=>e) ?_))))))
 dsimp only
 rw[show(onTheHeap (Value.ref C)&&Value.builtin "BaseException.__getattribute__"==Value.builtin "object.__getattribute__")=false from by rw[show(Value.builtin "BaseException.__getattribute__"==Value.builtin "object.__getattribute__")=false from by decide +kernel];exact Bool.and_false _,aag 'c']
 refine aaf (hk _ _ _ _ (λ_ _ e=>e) (aaf (wpAny_attempt (abg ?_))))
 unfold callGetattribute
 rw[show(expr&&onTheHeap (Value.builtin "BaseException.__getattribute__"))=false from Bool.and_false _,aag 'c']
 unfold boundAndCalled
 rw[PySem.F.attr_ValueError.ga.bind]
 refine aaf (aar ?_)
 show wpAny _ _ (call (.builtin "BaseException.__getattribute__") [.ref x,.str f s.toks]) _ _ _
 refine wpAny_call (codeAny_call_builtin PySem.F.attr_ValueError.ga.plain PySem.F.entry_bexc_ga (W.check_slot (M:=model P w) (s:={s with toks:=s.toks+1}) (i:="BaseException.__getattribute__") (owner:="BaseException") (n:="__getattribute__") (self:=.ref x) (rest:=[.str f s.toks]) (kw:=[]) 'h' 'h' sub (PySem.F.args_bexc_ga (.ref x) (.str f s.toks)) ?_))
 have L1:=W.looks_find (M:=model P w) gk J FO
 refine NK (s:={s with toks:=s.toks+1}) J.type L1 ?_
 show wpAny _ _ (handedOut v) _ _ _
 rw[W.handedOut_of hh]
 exact aar h
end
section
variable{P:Program}{w:World}{A:Around}{E:Value->Shared->Prop}{K:W.Frag}{C N fI:Addr}{bm:List Value}{us:List Value}
theorem yf{h:Heap}{g:Array GenState}{dr:Drawn}{tk:Nat}{os:OsState}{oI:Obj}{Q:Fin->Shared->Prop}(gk:K.In h)(c:cB K C N bm (some (.ref fI)))(tl:wH K bm)(lf:h.get? fI=some oI)(cf:oI.cls=.type "function")(k:∀h' e,Heap.MadeExcOf h h' e (.ref C) us->wpAny (model P w) A (call (.ref fI) (.ref e::us)) (λr s'=>r=.none/\Q (.done (.ret (.ref e))) s') E ⟨h',g,dr,tk,os⟩)(hu:us.length<=sizeLine):wpAny (model P w) A (Builtin.«type.__call__» ⟨.ref C::us,[]⟩) Q E ⟨h,g,dr,tk,os⟩:=by
 obtain⟨nm,q,bs,hdct,sn,sub,ab,col,dd,k0,k1,k2,k3,k5,lc⟩:=c.obj gk
 obtain⟨m,mi,mn⟩:=c.names
 have T:=tl.tail gk
 have VE:=abC
 repeat (first|with_reducible refine abp lc ?_|with_reducible refine wpAny_madeBy_exc lc ?_|wp_step)
 refine codeAny_call_builtin_code (Code.quiet_builtin _ VE.quiet) (wpAny_check_new_subU VE 'c' T lc (codeAny_exc_new_subU VE 'c' VE T lc ?_ hu))
 show wpAny _ _ _ _ _ _
 generalize Y6:({cls:=.type "tuple",data:=.seq us.toArray}:Obj)=o1
 generalize ho2:({cls:=.ref C,data:=.fields #[.ref h.objs.size,.none,.none,.none,.bool false,.none]}:Obj)=o2
 have up:∀b o,h.get? b=some o->((h.push o1).push o2).get? b=some o:=λb o z=>aai _ (aai _ z)
 have Y7:=up _ _ lc
 have Y8:=up _ _ lf
 have n1:=mn _ (gk.keeps up)
 have T1:=T.keeps up
 have z2:(h.push o1).objs.size=h.objs.size+1:=aa5 ..
 have ge:((h.push o1).push o2).get? (h.objs.size+1)=some o2:=by rw[←z2];exact aaz _ (by rw[←ho2];rfl)
 have oc:o2.cls=.ref C:=by rw[←ho2]
 have cc:(Value.ref C::bm).contains (.ref C)=true:=by simp
 unfold isInstance
 repeat (first | (with_reducible refine abp ge ?_;rw[oc]) | (with_reducible refine wpAny_isSubtype_exc Y7 ?_;rw[cc])|wp_step)
 show wpAny _ _ (typeLookup (.ref C) _) _ _ _
 refine wpAny_typeLookup_tail Y7 n1 T1 VE.mroIs VE.init.lookup ?_
 rw[mi]
 refine abg (aaf ?_)
 unfold bindSpecial
 refine aaf (wpAny_typeOf (T:="function") ⟨_,Y8,cf⟩ ?_)
 rw[aal 'c']
 have hm:Heap.MadeExcOf h ((h.push o1).push o2) (h.objs.size+1) (.ref C) us :=
  ⟨up,abn (Nat.le_succ _),h.objs.size,by rw[ge,←ho2],abn (aan _),by rw[aai _ (Heap.get?_push_at rfl (by rw[←Y6];rfl)),←Y6]⟩
 refine aar (aaf (aa1 (k _ _ hm) (λr s' hr=>?_) λ_ _ z=>z))
 obtain⟨rfl,hQ⟩:=hr
 wp_walk
 exact hQ
theorem Lk{s:Shared}{oI:Obj}{Q:Value->Shared->Prop}(gk:K.In s.heap)(c:cB K C N bm (some (.ref fI)))(tl:wH K bm)(lf:s.heap.get? fI=some oI)(cf:oI.cls=.type "function")(k:∀h' e,Heap.MadeExcOf s.heap h' e (.ref C) us->wpAny (model P w) (A.under (.builtin "type.__call__" ⟨.ref C::us,[]⟩)) (call (.ref fI) (.ref e::us)) (λr s'=>r=.none/\Q (.ref e) s') E {s with heap:=h'})(hu:us.length<=sizeLine):wpAny (model P w) A (call (.ref C) us) Q E s:=by
 obtain⟨nm,q,bs,hdct,sn,sub,ab,col,dd,k0,k1,k2,k3,k5,lc⟩:=c.obj gk
 obtain⟨h,g,dr,tk,os⟩:=s
 have t1:=tc_lookup
 have t2:=tc_bind (.ref C)
 have tT:(⟨h,g,dr,tk,os⟩:Shared).TypeIs (.ref C) "type":=⟨_,lc,rfl⟩
 refine wpAny_call (codeAny_of_tree ?_)
 show wpAny _ _ (callAny (.ref C) _) _ _ _
 repeat (any_goals (first|assumption|with_reducible refine abp lc ?_|wp_step))
 exact⟨O,codeAny_call_builtin_at (Code.quiet_builtin _ 'h') entry_typeCall (wpAny_check_type_call_sub lc (yf gk c tl lf cf k hu))⟩
theorem Ll{s:Shared}{ea:Addr}{oe:Obj}{vs:Array Value}{v:Value}{ini:Option Value}{Q:Value->Shared->Prop}(gk:K.In s.heap)(c:cB K C N bm ini)(tl:wH K bm)(he:s.heap.get? ea=some oe)(hc:oe.cls=.ref C)(hd:oe.data=.fields vs)(hz:0<vs.size)(k:∀h' t,(∀b o,b≠ea->s.heap.get? b=some o->h'.get? b=some o)->h'.get? ea=some (oe.mapFields (·.setIfInBounds 0 (.ref t)))->Q .none {s with heap:=h'}):wpAny (model P w) A (call (.builtin "ValueError.__init__") [.ref ea,v]) Q E s:=by
 obtain⟨nm,q,bs,hdct,sn,sub,ab,col,dd,k0,k1,k2,k3,k5,lc⟩:=c.obj gk
 have VE:=abC
 obtain⟨h,g,dr,tk,os⟩:=s
 refine wpAny_call (codeAny_call_builtin VE.init.plain VE.initEntry (wpAny_check_init_subU VE (tl.tail gk) lc he hc ?_))
 wp_walk
 obtain⟨x0,hx0⟩:∃x0,vs[0]?=some x0:=⟨vs[0],Array.getElem?_eq_getElem hz⟩
 have RV:(h.push {cls:=.type "tuple",data:=.seq #[v]}).get? ea=some oe:=aai _ he
 have fin:=k ((h.push {cls:=.type "tuple",data:=.seq #[v]}).update ea (Obj.mapFields (·.setIfInBounds 0 (.ref h.objs.size)))) h.objs.size (λb o hb q=>(aaN _ _ (abi hb)).trans (aai _ q))
  (aa9 _ RV (abk (aa7 hd _)))
 rw[hd]
 refine aar ?_
 rw[hx0]
 refine aar (aaf (wpAny_setField RV hd hz ?_))
 cases x0<;>(wp_walk;exact fin)
theorem En{M:Model}{s:Shared}{env:Env}{ex:Expr}{pos:Pos}{ini:Option Value}{Q:Flow->Shared->Prop}(c:cB K C N bm ini)(tl:wH K bm)(hh:A.handled=none)(h:wpAny M A (eval ex env) (λv s1=>∃e oe vs,v=.ref e/\K.In s1.heap/\s1.heap.get? e=some oe/\oe.cls=.ref C/\oe.data=.fields vs/\vs[1]?=some .none/\E (.ref e) s1) E s):wpAny M A (exec (.Raise (some ex) none pos) env) Q E s:=by
 have bc:(Value.ref C::bm).contains (.type "BaseException")=true:=by rw[abl,tl.base,Bool.or_true]
 rw[arm_exec_Raise]
 refine aaf (wpAny_standAt ?_)
 show wpAny M A (raiseStmt env (some _) none) Q E s
 unfold raiseStmt
 refine aaf (aaf (aa1 h (λv s1 h1=>?_) λ_ _ z=>z))
 obtain⟨e,oe,vs,rfl,gk,he,hc,hd,h1,hE⟩:=h1
 refine aaf (wpAny_standAt (aar ?_))
 obtain⟨nm,q,bs,hdct,sn,sub,ab,col,dd,k0,k1,k2,k3,k5,lc⟩:=c.obj gk
 obtain⟨hp,g,dr,tk,os⟩:=s1
 repeat (first | (with_reducible refine abp he ?_;rw[hc])|with_reducible refine abp lc ?_ | (with_reducible refine wpAny_isSubtype_exc lc ?_;rw[bc])|with_reducible refine aaZ he hd h1 ?_|wp_step)
 exact wpAny_raiseNew_none hh hE
end
def J7(e:Addr)(C:Value)(od:Option Addr):HO:=.ext λh=>∃o vs,h.get? e=some o/\o.cls=C/\o.dict=od/\o.data=.fields vs/\vs[1]?=some .none/\vs[2]?=some .none
theorem Lm{P:Program}{w:World}{H:Hp}{h:Heap}{e:Addr}{C:Value}{od:Option Addr}(x:∃o vs,h.get? e=some o/\o.cls=C/\o.dict=od/\o.data=.fields vs/\vs[1]?=some .none/\vs[2]?=some .none):cS P w H h e (J7 e C od) :=
 ⟨x,(let ⟨o,_,q,_⟩:=x;⟨o,q⟩),λ_ _ ⟨o,vs,q,r⟩ k=>⟨o,vs,k o q,r⟩⟩
def MP(d:Addr)(fs:List (Str×V)):HO:=.ext λh=>∃mA,h.Ns1 d mA/\(∀g,oB (fs.lookup g) (mA g))/\PySem.Within mA (fs.map (·.1))
theorem Te{P:Program}{w:World}{H:Hp}{h:Heap}{d:Addr}{fs:List (Str×V)}(x:∃mA,h.Ns1 d mA/\(∀g,oB (fs.lookup g) (mA g))/\PySem.Within mA (fs.map (·.1))):cS P w H h d (MP d fs) :=
 ⟨x,(let ⟨_,⟨o,_,_,q,_⟩,_⟩:=x;⟨o,q⟩),λ_ _ ⟨m,n,r⟩ k=>⟨m,n.at k,r⟩⟩
def del(H:Hp)(a:Addr):Hp:=λb=>if b=a then none else H b
theorem Cp{H:Hp}{a:Addr}:del H a a=none:=aal rfl
theorem wI{H:Hp}{a b:Addr}(h:b≠a):del H a b=H b:=aag h
theorem Ql{H:Hp}{a:Addr}{o:HO}(h:H a=some o):upd H a o=H:=by
 funext b
 unfold upd
 split
 ·rename_i z;rw[z,h]
 ·rfl
section
variable{X:Cx}{pins:List 'g'}{σ:St}{H:Hp}{s:Shared}{a:Addr}{φ:Heap->Prop}
theorem Inv.NN(I:Inv X pins σ H s)(e:H a=some (.ext φ)):Inv X pins σ (del H a) s:=by
 have nn:∀b,H b=none->del H a b=none:=λb z=>by unfold del;split<;>first|rfl|exact z
 have nx:∀b u,H b=some u->(∀ψ,u≠.ext ψ)->del H a b=some u:=λb u z k=>by
  rw[wI]
  ·exact z
  ·rintro rfl;rw[e]at z;cases z;exact k φ rfl
 refine⟨I.ok,I.os,I.bare,⟨I.base.keep,I.base.slot,λb u q n hx=>nn b (I.base.free b u q n hx),I.base.there,λb xs q=>nx b _ (I.base.tups b xs q) (λ_ z=>nomatch z),λb u v q=>nx b _ (I.base.oE b u v q) (λ_ z=>nomatch z),λb ps q=>?_⟩,I.loc,I.cell,nn _ I.free,λx c q=>nn _ (I.gJ x c q),λp hp=>?_,λb u q=>?_,I.len⟩
 ·obtain⟨more,z⟩:=I.base.qf b ps q
  exact⟨more,nx b _ z (λ_ z=>nomatch z)⟩
 ·obtain⟨e1,n1,r⟩:=I.pin p hp
  exact⟨e1,nn _ n1,r⟩
 ·by_cases hb:b=a
  ·subst hb;rw[Cp]at q;cases q
  ·rw[wI hb]at q
   exact(I.hok b u q).stay (λc v _ z=>z) (λc z=>nx c _ z (λ_ y=>nomatch y)) λc xs z=>nx c _ z (λ_ y=>nomatch y)
end
def Wm(v:V):Prop:=(∃a:Int,v=.int a/\a.natAbs.log2<1920)\/∃x:Str,v=.str x/\x.length<=2000
section
variable{X:Cx}{e:Expr}{te:TE}{pos:Pos}
def Wn(te:TE):TE:=λσ H Q=>te σ H λv H1=>Wm v/\∀z:Str,z.length<=2000->Q (.str z) H1
theorem Qm(he:PE X e te):PE X (.FormattedValue e (-1) none pos) (Wn te):=by
 intro pins s σ H Q I h
 refine wpAny_FormattedValue_plain (bY (he pins s σ H _ I h) λu s1 ⟨v,H1,I1,r,f,q⟩=>?_)
 rcases f with ⟨a,rfl,ha⟩|⟨x,rfl,hx⟩
 ·obtain⟨t,rfl⟩:=(show ∃t,u=Value.int a t from r)
  exact wpAny_formatField_int ha ⟨.str (Str.ofString (toString a)),H1,I1.tok _,⟨_,rfl⟩,q _ (aay (int_text_len_1921 ha) 'c')⟩
 ·obtain⟨t,rfl⟩:=(show ∃t,u=Value.str x t from r)
  exact wpAny_formatField_str ⟨.str x,H1,I1,⟨_,rfl⟩,q _ hx⟩ ⟨.str x,H1,I1.tok _,⟨_,rfl⟩,q _ hx⟩ (aay hx 'c')
abbrev TJ:=St->Hp->(Hp->Prop)->Prop
def PJ(X:Cx)(parts:List Expr)(t:TJ):Prop:=∀(pins:List 'g')(s:Shared)(σ:St)(H:Hp)(out:Str)(Q:Hp->Prop),Inv X pins σ H s->t σ H Q->out.length+2000*parts.length<=100000->wpAny 'd' X.A (joinParts out (evalEach parts X.env)) (λu s'=>∃z H',RelV (.str z) u/\Inv X pins σ H' s'/\Q H') X.xe s
theorem Qn:PJ X [] (λ_ H Q=>Q H):=λpins s σ H out Q I h hl=>joinParts_nil ⟨out,H,⟨_,rfl⟩,I.tok _,h⟩ (aay (show out.length<=100000 by simp at hl;exact hl) 'c')
theorem G4{rest:List Expr}{t:TJ}(he:PE X e te)(hr:PJ X rest t)(hs:evalEach (e::rest) X.env=eval e X.env::evalEach rest X.env:=by rfl):PJ X (e::rest) (λσ H Q=>te σ H λv H1=>∃y:Str,v=.str y/\y.length<=2000/\t σ H1 Q):=by
 intro pins s σ H out Q I h hl
 rw[hs]
 refine joinParts_cons (bY (he pins s σ H _ I h) λu s1 ⟨v,H1,I1,r,y,ev,hy,q⟩=>?_)
 subst ev
 obtain⟨t,rfl⟩:=(show ∃t,u=Value.str y t from r)
 have el:(out++y).length=out.length+y.length:=Str.length_append ..
 rw[aaA]at hl
 exact⟨aay (show(out++y).length<=100000 by omega) 'c',hr pins s1 σ H1 (out++y) Q I1 q 'b'⟩
theorem Ia{v1 v2:Expr}{rest:List Expr}{t:TJ}(h:PJ X (v1::v2::rest) t)(hn:2000*(v1::v2::rest).length<=100000:=by decide):PE X (.JoinedStr (v1::v2::rest) pos) (λσ H Q=>t σ H λH'=>∀z:Str,Q (.str z) H'):=by
 intro pins s σ H Q I hq
 refine JoinedStr_many ?_
 exact bY (h pins s σ H Str.empty _ I hq (by show 0+_<=_;omega)) λu s1 ⟨z,H1,r,I1,q⟩=>⟨.str z,H1,I1,r,q z⟩
end
section
variable{X:Cx}{C N D fI:Addr}{bm:List Value}{ini:Option Value}{x f:Str}{np ap pos cpos pos':Pos}{e o value a1 a2:Expr}{es:List Expr}{t:TA}{ta tv te:TE}
structure Y9(K:W.Frag)(D:Addr):Prop where
 sp:W.specialIn K (.ref D) "__getattribute__"=some (some (.builtin "type.__getattribute__"))
 rd:W.readsIn K D (.type "type")=true
 fc:W.findCls K (.ref D) (.type "type") "__init__"=some (.val (.builtin "ValueError.__init__"))
def Qo(C:Addr)(t:TA):TE:=λσ H Q=>t σ H λvs H1=>∃ea od z,vs=[.ref ea,z]/\H1 ea=some (J7 ea (.ref C) od)/\Q .non H1
theorem Ln{pl:Sem Bool}(hg:Gl X x)(hm:X.mg x=some (.ref D))(i:Y9 X.K D)(c:cB X.K C N bm ini)(tl:wH X.K bm)(ha:PA X [a1,a2] t)(hdb:(x==("__debug__":Str))=false:=by decide)(hst:starEach [a1,a2] X.env=(false,eval a1 X.env)::starEach [a2] X.env:=by rfl)(hpl:(backTo pos (starEach [a2] X.env)).any (·.1)=false:=by rfl)(ht:eval (.Call (.Attribute (.Name x np) "__init__" ap) [a1,a2] [] pos) X.env=(do
   let ov ←eval (.Name x np) X.env
   standAt ap.atName
   let (f,first) ←holding [ov] (getMethod ov "__init__" pl)
   callWith pos f first (backTo pos (starEach [a1,a2] X.env)) (backToKw pos (keywordEach [] X.env))):=by rfl):PE X (.Call (.Attribute (.Name x np) "__init__" ap) [a1,a2] [] pos) (Qo C t):=by
 intro pins s σ H Q I h
 refine W.methodCall_KW (pl:=pl) (iw I hg hm ?_ hdb) ht
 refine W.method_cls I.jd i.sp (W.cls_value I.jd i.rd i.fc 'h' ?_)
 have I0:=I.tok (s.toks+1)
 refine PyProof.Rows.callWith_builtin1 (bY (ha pos pins _ σ H _ I0 h) λus s1 ⟨vs,H1,I1,r,ea,od,z,ev,oV,q⟩=>?_) hst hpl
 subst ev
 obtain⟨⟨oe,ws,he,hc,hdi,hd,h1⟩,_⟩:=I1.hok ea _ oV
 cases r with
 |cons r1 r' =>
  cases r' with
  |cons r2 r'' =>
   cases r''
   obtain rfl:=(show _=Value.ref ea from r1)
   have hz:=(aa2.mp h1.1).1
   refine Ll I1.jd c tl he hc hd 'b' λh' ta kp he'=>?_
   have W:=I1.write (x:=ea) (e:=ea) (o:=J7 ea (.ref C) od) (h':=h') (t':=s1.toks) (by rw[oV];exact True.intro) (.inl rfl) kp ⟨_,he'⟩ (Lm ⟨_,_,he',(wF _ _).trans hc,(tH _ _).trans hdi,aa7 hd _,by rw[abm 'c'];exact h1.1,by rw[abm 'c'];exact h1.2⟩)
   rw[Ql oV]at W
   exact⟨.non,H1,W,O,q⟩
def Qp(C:Addr)(ta tv:TE)(f:Str):TS:=λD σ H=>tv σ H λy H1=>ta σ H1 λx H2=>∃ea,x=.ref ea/\H2 ea=some (J7 ea (.ref C) none)/\∀d,H2 d=none->D.nx σ (upd (upd H2 ea (J7 ea (.ref C) (some d))) d (MP d [(f,y)]))
theorem Lo(hex:X.ex=[])(c:cB X.K C N bm ini)(tl:wH X.K bm)(a:J6 X.K C f)(ha:PE X o ta)(hv:PE X value tv)(hs:swapsWith value (some (.Attribute o f pos')) pos.line X.env=pure false):PS X (.Assign [.Attribute o f pos'] value pos) (Qp C ta tv f):=by
 intro pins s σ H D I h
 refine plainObj_wpAny_Assign_Attribute (bY (hv pins s σ H _ I h) λu s1 ⟨y,H1,I1,ry,q⟩=>bY (ha pins s1 σ H1 _ I1 q) λov s2 ⟨x,H2,I2,rx,ea,ex,oV,q2⟩=>?_) hs
 subst ex
 obtain rfl:ov=Value.ref ea:=rx
 obtain⟨⟨oe,ws,he,hc,hdi,hd,h1⟩,_⟩:=I2.hok ea _ oV
 refine Lj I2.jd c tl a he hc hdi hd λh' tk x1 n1 kp=>?_
 have nd:H2 s2.heap.objs.size=none:=I2.hok.fresh (aan _)
 have W:=I2.write (x:=ea) (e:=ea) (o:=J7 ea (.ref C) (some s2.heap.objs.size)) (h':=h') (t':=tk) (by rw[oV];exact True.intro) (.inl rfl) kp ⟨_,x1⟩ (Lm ⟨_,_,x1,hc,rfl,hd,h1⟩)
 have ne:s2.heap.objs.size≠ea:=λz=>by rw[z,oV]at nd;cases nd
 have T:=I2.Li W (a:=s2.heap.objs.size) (o:=MP s2.heap.objs.size [(f,y)]) hex (by rw[aB ne];exact nd) (abn (aan _)) (Te ⟨_,n1,λg=>?_,λg hg=>?_⟩)
 ·exact⟨σ,_,T,q2 _ nd⟩
 ·show oB (List.lookup g [(f,y)]) (if g=f then some u else none)
  by_cases z:g=f
  ·subst z;simp[List.lookup];exact ry
  ·rw[aag z];simp[List.lookup,beq_false_of_ne z];exact True.intro
 ·by_cases z:g=f
  ·rw[z];exact aap.mpr rfl
  ·exact absurd (aag z) hg
def Tf(C:Addr)(te:TE)(f:Str):TE:=λσ H Q=>te σ H λx H1=>∃ea d fs v,x=.ref ea/\H1 ea=some (Am ea (.ref C) (some d))/\H1 d=some (MP d fs)/\fs.lookup f=some v/\Q v H1
theorem G7(c:cB X.K C N bm ini)(tl:wH X.K bm)(a:J6 X.K C f)(he:PE X e te)(hb:attributeBase e f X.env (eval e X.env)=eval e X.env):PE X (.Attribute e f pos) (Tf C te f):=by
 intro pins s σ H Q I h
 refine GN hb (bY (he pins s σ H _ I h) λu s1 ⟨x,H1,I1,rx,ea,d,fs,v,ex,oV,hed,l,q⟩=>?_)
 subst ex
 obtain rfl:u=Value.ref ea:=rx
 obtain⟨⟨oe,ws,he,hc,hdi,hd,_⟩,_⟩:=I1.hok ea _ oV
 obtain⟨⟨mA,hn,r,wi⟩,_⟩:=I1.hok d _ hed
 obtain⟨u,hu,ru⟩:=oB.some_of (v:=v) (o:=mA f) (by rw[←l];exact r f)
 exact NL I1.jd c tl a he hc hdi hd hn hu (zj ru) ⟨v,H1,I1.tok _,ru,q⟩
end
section
variable{P:Program}{w:World}{K:W.Frag}{mg:Str->Option Value}{base:Heap}{N0:List Str}{qual:Str}{scope:Scope}{f:Addr}{cd:Value}{A:Around}{outer:List Env}{s0:Shared}{H0:Hp}{E:XK}
def NO(E:XK)(C:Addr)(sp:Sp)(t:TA):TS:=λ_ σ H=>t σ H λvs H1=>vs.length<=sizeLine/\∀ea,H1 ea=none->sp (.ref ea::vs) (upd H1 ea (J7 ea (.ref C) none)) (λv H2=>v=.non/\∃od,H2 ea=some (J7 ea (.ref C) od)/\E (.ref C) od (del H2 ea)) E0
theorem zC{X:Cx}(hX:X=oH (BW P w) P w K mg base N0 qual scope f cd A outer s0 H0 E){C N fI:Addr}{bm:List Value}{x:Str}{np cpos pos:Pos}{e:Expr}{es:List Expr}{t:TA}{k:Nat}{fd:FuncData}{ps:List Str}{sp:Sp}{oI:Obj}(c:cB K C N bm (some (.ref fI)))(tl:wH K bm)(lf:K.lookup fI=some oI)(cf:oI.cls=.type "function")(F:bx P w K mg base fu k fI fd ps sp)(hr:cM (k+1) X.A)(hb:Binds K fd ps [])(hk:W.keepIn K (.ref C)=true)(hg:Gl X x)(hm:mg x=some (.ref C))(ha:PA X (e::es) t)(hdb:(x==("__debug__":Str))=false:=by decide)(he:starEach (e::es) X.env=(false,eval e X.env)::starEach es X.env:=by rfl)(hpl:(backTo cpos (starEach es X.env)).any (·.1)=false:=by rfl):PS X (.Raise (some (.Call (.Name x np) (e::es) [] cpos)) none pos) (NO E C sp t):=by
 intro pins s σ H D I h
 have hx:X.xe=λ(e:Value)(s':Shared)=>wpAny 'd' X.A (leaving X.env e) (λ_ s''=>BW X.prog X.w X.outer X.H₀ X.s₀ E e s'') (λe' s''=>BW X.prog X.w X.outer X.H₀ X.s₀ E e' s'') s':=by subst hX;rfl
 have hst:X.stack=X.env::X.outer:=by subst hX;rfl
 have hfm:X.env.frame=some X.env.locals:=by subst hX;rfl
 have hex:X.ex=[]:=by subst hX;rfl
 have hmg:X.mg x=some (.ref C):=by subst hX;exact hm
 have Wf:X.calm=true:=by subst hX;rfl
 have hK:X.K=K:=by subst hX;rfl
 have F':bx X.prog X.w X.K X.mg X.base fu k fI fd ps sp:=by subst hX;exact F
 refine En (K:=K) c tl (I.ok.hd Wf) (abb (iw I hg hmg ?_ hdb))
 refine W.callWith_K (K:=X.K) (h₀:=X.base) I.ok.mod.gk (by rw[hK];exact hk) (bY (ha cpos pins s σ H _ I h) λus s1 ⟨vs,H1,I1,r,hl,q⟩=>⟨I1.jd,?_⟩) he hpl
 have gk:K.In s1.heap:=by rw[←hK];exact I1.jd
 refine Lk gk c tl (gk _ _ lf) cf (λh' ea md=>?_) (by show us.length<=sizeLine;rw[←r.length];exact hl)
 obtain⟨tt,q1,_,_⟩:=md.there
 have Za:H1 ea=none:=I1.hok.none md.new
 have I2:=I1.kept (t':=s1.toks) (h':=h') md.keeps
 have I3:=I1.Li I2 (a:=ea) (o:=J7 ea (.ref C) none) hex Za md.new (Lm ⟨_,_,q1,rfl,rfl,rfl,rfl,rfl⟩)
 have hq:=q ea Za
 have r2:Vals (V.ref ea::vs) (Value.ref ea::us):=.cons rfl r
 have hlen:(Value.ref ea::us++[]).length=ps.length:=by rw[aa6,←r2.length];exact F'.len _ _ _ _ hq
 have hb':=hb {s1 with heap:=h'} (Value.ref ea::us) (by rw[←hK];exact I3.jd) hlen
 rw[aa6]at hb'
 refine wpAny_call (codeAny_mono (F'.run _ X.stack _ _ ⟨Value.ref ea::us,[]⟩ (Value.ref ea::us) _ _ E0 (hr.make C us []) (I3.Kz.make C us []) hb' r2 hq) λrr s' hq'=>?_)
 cases rr with
 |error e=>exact hq'.elim
 |ok fl =>
  cases fl with
  |next=>exact hq'.elim
  |brk=>exact hq'.elim
  |cont=>exact hq'.elim
  |ret u =>
   obtain⟨v,H',os,bare,un,hok,rv,ev,od,oV,hE⟩:=hq'
   subst ev
   have J:=I3.B7 os un hok bare (λb z=>nomatch z)
   obtain⟨⟨oe,ws,Zb,hc2,Wo,hd2,h12⟩,_⟩:=J.hok ea _ oV
   refine⟨rv,ea,oe,ws,O,by rw[←hK];exact J.jd,Zb,hc2,hd2,h12.1,?_⟩
   rw[hx]
   exact leaveX (fl:=none) hst hfm hex I1 (J.NN oV) (λb o z=>un.there b o (md.keeps b o z) (by simp)) ⟨Cp,md.new,oe,ws,Zb,hc2,Wo,hd2,h12⟩ (.inl rfl) hE
end
structure RW(K:W.Frag)(C:Addr):Prop where
 ga:W.findIn K (.ref C) "__getattribute__"=some (some (.builtin "BaseException.__getattribute__"))
 gx:W.findIn K (.ref C) "__getattr__"=some none
 hd:W.hasDictIn K C=true
 ha:W.findIn K (.ref C) "__class__"=some (some (.builtin "object.__class__"))
 hn:W.specialIn K (.builtin "object.__class__") "__get__"=some (some (.builtin "getset_descriptor.__get__"))
 tk:W.takesIn K (.builtin "object.__class__")=some true
 hm:W.mroIn K C (.type "object")=some true
section
variable{P:Program}{w:World}{A:Around}{E:Value->Shared->Prop}{s:Shared}{K:W.Frag}{C N x:Addr}{bm:List Value}{ini:Option Value}{f:Str}{v:Value}{ox:Obj}{vs:Array Value}
theorem Ib{a g:Value}{odo:Option Obj}(hc:(W.clsIn K C).isSome=true)(ha:W.findIn K (.ref C) f=some (some a))(hg:W.specialIn K a "__get__"=some (some g))(ht:W.takesIn K a=some true):W.findObj K C odo f=some (.bind g a):=by
 obtain⟨cd,hc⟩:=Option.isSome_iff_exists.mp hc
 unfold W.findObj
 rw[hc,Option.bind_some,ha,Option.bind_some]
 simp[hg,ht]
theorem Lp{tk:Tok}{Q:Fin->Shared->Prop}{tp g a:Value}(L0:W.Looks (model P w) s.heap (typeOf (.ref x)) tp)(L1:W.Looks (model P w) s.heap (find (.ref x) tp f) (.bind g a))(h:wpAny (model P w) A (call g [a,.ref x,tp]) (λv s'=>Q (.done (.ret v)) s') E s):wpAny (model P w) A (Builtin.«object.__getattribute__» ⟨[.ref x,.str f tk],[]⟩) Q E s:=by
 unfold Builtin.«object.__getattribute__»
 refine aaf (m:=slotArgs _ _ _) ?_
 refine aar (a:=(Value.ref x,[Value.str f tk])) ?_
 refine aaf (m:=attrName _) ?_
 refine aar (a:=f) ?_
 refine aaf (L0.here ?_)
 refine aaf (L1.here ?_)
 first
  |exact aaf (abg (aa1 h (λv s' z=>aar z) λ_ _ z=>z))
  |exact aaf (aa1 h (λv s' z=>aar z) λ_ _ z=>z)
theorem Ic{od:Option Obj}{Q:Option Value->Shared->Prop}(gk:K.In s.heap)(c:cB K C N bm ini)(tl:wH K bm)(k:RW K C)(J:W.InstAt s.heap x ox C od)(h:Q (some (.ref C)) {s with toks:=s.toks+1}):wpAny (model P w) A (getAttr? (.ref x) "__class__") Q E s:=by
 obtain⟨cd,hcd,hm,Wl⟩:=c.cls k.hd
 have FO:W.findObj K C od "__class__"=some (.bind (.builtin "getset_descriptor.__get__") (.builtin "object.__class__")):=Ib (by rw[hcd];rfl) k.ha k.hn k.tk
 have hob:(cd.mro.contains (.type "BaseException"))=true:=by rw[hm,abl,tl.base];rfl
 have ne:cd.mro.isEmpty=false:=by rw[hm];rfl
 have sub:W.Looks (model P w) s.heap (isInstance (.ref x) (.type "BaseException")) true :=
  J.type.andThen (W.looks_mroIn gk (by unfold W.mroIn;rw[hcd,Option.bind_some,aag (by rw[ne];decide),hob]))
 have hk:W.Looks (model P w) s.heap (hookBefore (.ref C)) none:=W.looks_hook gk (by show(if onTheHeap (.ref C) then _ else _)=_;exact k.gx)
 have L1:=W.looks_find (M:=model P w) gk J FO
 unfold getAttr? getAttrBy? getAttrBy
 refine aaf (wpAny_mkText (aaf (wpAny_attempt (abg (aaf (J.type _ _ _ _ (λ_ _ e=>e) (aaf (W.looks_findIn gk k.ga _ _ _ _ (λ_ _ e=>e) ?_))))))))
 dsimp only
 rw[show(onTheHeap (Value.ref C)&&Value.builtin "BaseException.__getattribute__"==Value.builtin "object.__getattribute__")=false from by rw[show(Value.builtin "BaseException.__getattribute__"==Value.builtin "object.__getattribute__")=false from by decide +kernel];exact Bool.and_false _,aag 'c']
 refine aaf (hk _ _ _ _ (λ_ _ e=>e) (aaf (wpAny_attempt (abg ?_))))
 unfold callGetattribute
 rw[show(false&&onTheHeap (Value.builtin "BaseException.__getattribute__"))=false from abe _,aag 'c']
 unfold boundAndCalled
 rw[PySem.F.attr_ValueError.ga.bind]
 refine aaf (aar ?_)
 show wpAny _ _ (call (.builtin "BaseException.__getattribute__") [.ref x,.str "__class__" s.toks]) _ _ _
 refine wpAny_call (codeAny_call_builtin PySem.F.attr_ValueError.ga.plain PySem.F.entry_bexc_ga (W.check_slot (M:=model P w) (s:={s with toks:=s.toks+1}) (i:="BaseException.__getattribute__") (owner:="BaseException") (n:="__getattribute__") (self:=.ref x) (rest:=[.str "__class__" s.toks]) (kw:=[]) 'h' 'h' sub (PySem.F.args_bexc_ga (.ref x) (.str "__class__" s.toks)) ?_))
 refine Lp (s:={s with toks:=s.toks+1}) J.type L1 (wpAny_call (W.class_get (s:={s with toks:=s.toks+1}) (ox:=ox) (od:=od) gk J k.hm ?_))
 show wpAny _ _ (handedOut (.ref C)) _ _ _
 rw[W.handedOut_of rfl]
 exact aar (aar h)
theorem Cq{x:Addr}{ox:Obj}{od:Option Obj}(c:cB K C N bm ini)(tl:wH K bm)(k:RW K C):W.KitX K (.ref x) (.ref C) (λh=>W.InstAt h x ox C od) where
 ty:=λ_ _ _ I=>I.type
 it:=λ_ _ X _=>by
  obtain⟨nm,q,bs,hdct,sn,sub,ab,col,dd,k0,k1,k2,k3,k5,lc⟩:=c.ob
  intro A' Q' E' s' k q
  unfold isType loadHead
  exact aaf (wpAny_loadPart (k _ _ (X _ _ lc)) (aar q))
 ne:=λh tp dd its n sl X htp=>by
  obtain⟨nm,q,bs,hdct,sn,sub,ab,col,dd,k0,k1,k2,k3,k5,lc⟩:=c.ob
  refine Bool.eq_false_iff.mpr λq=>?_
  have e:C=tp:=Value.ref.inj (abD.mp q)
  subst e
  have z:=congrArg Obj.cls (aah ((X _ _ lc).symm.trans htp))
  have z:Value.type "type"=Value.type "tuple":=z
  injection z with z
  exact absurd z 'c'
 ca:=λX I q=>Ic X c tl k I q
end
section
variable{X:Cx}{K:W.Frag}
def MQ(H:Hp)(ea C:Addr):Prop:=∃od,(H ea=some (J7 ea (.ref C) od)\/H ea=some (Am ea (.ref C) od))/\(od=none\/∃d fs,od=some d/\H d=some (MP d fs))
theorem MQ.at{pins:List 'g'}{σ:St}{H:Hp}{s:Shared}{ea C:Addr}(I:Inv X pins σ H s)(h:MQ H ea C):∃o od,W.InstAt s.heap ea o C od:=by
 obtain⟨od,e,d⟩:=h
 obtain⟨o,vs,q1,q2,q3,q4⟩:∃o vs,s.heap.get? ea=some o/\o.cls=.ref C/\o.dict=od/\o.data=.fields vs:=by
  rcases e with e|e
  ·obtain⟨⟨o,vs,q1,q2,q3,q4,_⟩,_⟩:=I.hok ea _ e
   exact⟨o,vs,q1,q2,q3,q4⟩
  ·obtain⟨⟨o,vs,q1,q2,q3,q4,_⟩,_⟩:=I.hok ea _ e
   exact⟨o,vs,q1,q2,q3,q4⟩
 have no:∀{P:Prop},P->P:=id
 rcases d with rfl|⟨d,fs,rfl,e2⟩
 ·exact⟨o,none,q1,q2,by obtain⟨oc,U0,U1,osl⟩:=o;cases q4;rfl,by rw[q3];exact True.intro⟩
 ·obtain⟨⟨mA,⟨od,es,n,ho,_⟩,_⟩,_⟩:=I.hok d _ e2
  exact⟨o,some od,q1,q2,by obtain⟨oc,U0,U1,osl⟩:=o;cases q4;rfl,by rw[q3];exact ho⟩
theorem MQ.mono{H H':Hp}{ea C:Addr}(s:aC H H')(h:MQ H ea C):MQ H' ea C:=by
 obtain⟨od,e,d⟩:=h
 refine⟨od,e.imp (s _ _) (s _ _),d.imp id λ⟨d,fs,e1,e2⟩=>⟨d,fs,e1,s _ _ e2⟩⟩
def Wq(K:W.Frag):List V->Hp->VK->Prop:=λxs H Q=>∃ea C N bm ini c b,xs=[.ref ea,c]/\MQ H ea C/\cB K C N bm ini/\wH K bm/\RW K C/\((∃n,c=.ty n/\W.kitOne K (.ref C) (.type n)=some b)\/(∃a,c=.ref a/\W.kitOne K (.ref C) (.ref a)=some b))/\Q (.bl b) H
theorem cP(h:X.K=K):fM X (.builtin "isinstance") (Wq K):=by
 subst h
 intro pins s σ H xs us Q I r h
 obtain⟨ea,C,N,bm,ini,c,b,rfl,xo,xc,tl,k,hc,q⟩:=h
 obtain⟨u,w',rfl,ru,rw'⟩:=vals2 r
 obtain⟨o,od,J⟩:=xo.at I
 cases(show u=Value.ref ea from ru)
 rcases hc with ⟨n,rfl,e⟩|⟨a,rfl,e⟩
 ·cases rw'
  exact abf (Cq xc tl k) I.jd J e (λz=>nomatch z) λtk=>⟨.bl b,H,I.tok tk,rfl,q⟩
 ·cases rw'
  exact abf (Cq xc tl k) I.jd J e (λz=>nomatch z) λtk=>⟨.bl b,H,I.tok tk,rfl,q⟩
end
section
variable{X:Cx}{C N fI:Addr}{bm:List Value}{x:Str}{np cpos:Pos}{e:Expr}{es:List Expr}{t:TA}
end
section
variable{K:W.Frag}{C D N N':Addr}{bm bm':List Value}{ini Qj:Option Value}{b:Bool}
theorem cB.kind(c:cB K C N bm ini):(W.clsIn K C).isSome=true/\W.typeIn K (.ref C)=some (.type "type"):=by
 obtain⟨nm,q,bs,hdct,sn,sub,ab,col,dd,k0,k1,k2,k3,k5,lc⟩:=c.ob
 constructor
 ·unfold W.clsIn;rw[lc];rfl
 ·show(K.lookup C).map (·.cls)=_;rw[lc];rfl
theorem cB.self(c:cB K C N bm ini):W.mroIn K C (.ref C)=some true:=by
 obtain⟨nm,q,bs,hdct,sn,sub,ab,col,dd,k0,k1,k2,k3,k5,lc⟩:=c.ob
 unfold W.mroIn W.clsIn
 rw[lc]
 show(if (Value.ref C::bm).isEmpty=true then none else some ((Value.ref C::bm).contains (.ref C)))=some true
 simp
theorem dJ(c:cB K C N bm ini)(d:cB K D N' bm' Qj)(m:W.mroIn K C (.ref D)=some b):W.kitOne K (.ref C) (.ref D)=some b:=by
 unfold W.kitOne
 by_cases e:C=D
 ·subst e
  rw[c.self]at m
  rw[aal (by simp)];exact m
 ·rw[aag (by simp;exact e)]
  unfold W.kitCls
  dsimp only
  rw[d.kind.1,d.kind.2,aal 'c']
  exact m
theorem O3(m:W.mroIn K C (.type "ValueError")=some b):W.kitOne K (.ref C) (.type "ValueError")=some b:=by
 unfold W.kitOne
 rw[aag (by simp)]
 unfold W.kitCls
 dsimp only
 rw[aal 'h']
 exact m
end
open PySem PySem.Spec PyProof.Rows PySem.Builtin
theorem yg:entryFor table "proto.unchain"=some Builtin.«proto.unchain» := entryFor_of_fast (by kernel_rfl)
section
variable{prog:Program}{w:World}{A:Around}{E:Value->Shared->Prop}{s:Shared}{α:Type}
theorem Cr{e ea:Addr}{o oe:Obj}{vs ws:Array Value}{Q:α->Shared->Prop}(hh:A.handled=some (.ref ea))(he:s.heap.get? ea=some o)(hd:o.data=.fields vs)(h2:vs[2]?=some .none)(hne:ea≠e)(hx:s.heap.get? e=some oe)(hxd:oe.data=.fields ws)(hz:2<ws.size)(h:E (.ref e) {s with heap:=s.heap.update e (Obj.mapFields (·.setIfInBounds 2 (.ref ea)))}):wpAny (model prog w) A (raiseNew (.ref e):Sem α) Q E s:=by
 unfold raiseNew
 refine aaf (wpAny_handled ?_)
 rw[hh]
 dsimp only
 rw[aal (show(Value.ref ea != Value.ref e)=true from by simp[hne])]
 refine aaf (abg (wpAny_runValue (codeAny_builtin yg ?_)))
 show wpAny _ _ (field (.ref ea) 2 >>= _) _ _ s
 refine aaf (aaZ he hd h2 ?_)
 rw[aal 'c']
 refine aar ?_
 show wpAny _ _ (setField (.ref e) 2 (.ref ea) >>= λ_=>throw (.ref e)) _ _ s
 exact aaf (wpAny_setField hx hxd hz (wpAny_throw h))
theorem An{it ea:Addr}{o:Obj}{vs:Array Value}{x left step:Int}{Q:Option Value->Shared->Prop}(hh:A.handled=some (.ref ea))(he:s.heap.get? ea=some o)(hd:o.data=.fields vs)(h2:vs[2]?=some .none)(hit:IsRangeIter s.heap it x left step)(hleft:left<=0)(hQ:∀h',Heap.ExtBut it s.heap h'->Q none {s with heap:=h'}):wpAny (model prog w) A (pyNext (.ref it)) Q E s:=by
 have hT:s.TypeIs (.ref it) "range_iterator":=⟨_,hit,rfl⟩
 unfold pyNext
 refine aaf (wpAny_attempt (wpAny_callSpecial?_slot (name:=("__next__":Str)) hT F.slot_range_iterator_next
  (wpAny_call_entry F.slot_range_iterator_next hT F.entry_range_iterator_next ?_ (F.args_range_iterator_next_1 _))))
 show wpAny _ _ (field (.ref it) 0 >>= _) _ _ s
 refine aaf (aaZ hit rfl (x:=rawInt x) rfl ?_)
 show wpAny _ _ (field (.ref it) 1 >>= _) _ _ s
 refine aaf (aaZ hit rfl (x:=rawInt left) rfl ?_)
 show wpAny _ _ (field (.ref it) 2 >>= _) _ _ s
 refine aaf (aaZ hit rfl (x:=rawInt step) rfl ?_)
 show wpAny _ _ (if left<=0 then _ else _) _ _ s
 rw[aal hleft]
 refine aaf (wpAny_rule ?_)
 refine aaf ?_
 show wpAny _ _ (newExc (.type "StopIteration") [] >>= _) _ _ _
 refine aaf ?_
 simp only[newExc,newTuple]
 refine aaf (wpAny_newObj_type ?_ (by size_fits))
 refine aaf (m:=firstArgMember _ _) (wpAny_of_eq (a:=Value.none) (by first|rfl | (simp only[firstArgMember];rfl)) ?_)
 refine wpAny_newObj_type ?_ (by size_fits)
 have up:∀(a b:Obj),((s.heap.push a).push b).get? ea=some o:=λa b=>aai _ (aai _ he)
 have ne:∀(a:Obj),ea≠(s.heap.push a).objs.size:=λa z=>by have l:=aao he;rw[aa5]at z;exact absurd z (aaH (Nat.lt_succ_of_lt l))
 refine Cr (A:=A.in1) hh (up _ _) hd h2 (ne _) (aaz _ rfl) rfl (by rw[Array.size_append];show 2<6+_;omega) ?_
 refine aaf (wpAny_isInstance (T:="StopIteration") (b:=true) ⟨_,aa9 _ (aaz _ rfl) rfl,rfl⟩ isSubtype_stop ?_)
 rw[aal rfl]
 refine aar (hQ _ λb q hb e=>?_)
 refine(aaN _ _ (λz=>?_)).trans (aai _ (aai _ e))
 have l:=aao e
 rw[←z]at l
 have l2:(s.heap.push _).objs.size<s.heap.objs.size:=l
 rw[aa5]at l2
 omega
end
end L2
set_option maxHeartbeats 4000000
namespace L2
open PySem PySem.Spec PyProof.Rows
structure Lq(G:Cx->Prop)(P:Program)(w:World)(K:W.Frag)(tg:Expr)(J:It)(fp:List Addr)(it:Addr)(tn:Nat->Heap->Prop):Prop where
 mem:it∈fp
 obj:∀i h,tn i h->∀b∈fp,∃o,h.get? b=some o/\∀v,o.data≠.cell v
 keep:∀i h h',tn i h->(∀b∈fp,∀o,h.get? b=some o->h'.get? b=some o)->tn i h'
 item:∀(X:Cx),X.prog=P->X.w=w->X.K=K->G X->∀(i:Nat)(pins:List 'g')(s:Shared)(σ:St)(H:Hp)(E:Value->Shared->Prop),Inv X pins σ H s->(∀b∈fp,jC X pins H b)->tn i s.heap->J.go i H->wpAny (model P w) X.A (pyNext (.ref it)) (λr s1=>∃u,r=some u/\wpAny (model P w) X.A (letOwnedTupleGo tg (.ref it) u) (λ_ s2=>∃x H',Inv X pins σ H' s2/\RelV x u/\J.J4 i H x H'/\tn (i+1) s2.heap/\∀b∈fp,H' b=none) E s1) E s
 done:∀(X:Cx),X.prog=P->X.w=w->X.K=K->G X->∀(i:Nat)(pins:List 'g')(s:Shared)(σ:St)(H:Hp)(E:Value->Shared->Prop),Inv X pins σ H s->(∀b∈fp,jC X pins H b)->tn i s.heap->J.stop i H->wpAny (model P w) X.A (pyNext (.ref it)) (λr s1=>r=none/\Inv X pins σ H s1) E s
 self:∀(A:Around)(i:Nat)(s:Shared)(Q:Value->Shared->Prop)(E:Value->Shared->Prop),tn i s.heap->Q (.ref it) s->wpAny (model P w) A (pyIter (.ref it)) Q E s
def Tg(G:Cx->Prop)(X:Cx)(pins:List 'g')(σ:St)(tg:Expr)(R:It->Hp->Prop)(itv:Value)(s2:Shared):Prop :=
 ∃(it:Addr)(fp:List Addr)(tn:Nat->Heap->Prop)(J:It)(H':Hp),itv=.ref it/\Inv X pins σ H' s2/\Lq G X.prog X.w X.K tg J fp it tn/\tn 0 s2.heap/\(∀b∈fp,jC X pins H' b)/\R J H'
def Zc(G:Cx->Prop)(X:Cx)(tg iter:Expr)(wi:TI):Prop :=
 ∀(pins:List 'g')(s:Shared)(σ:St)(H:Hp)(R:It->Hp->Prop),Inv X pins σ H s->wi σ H R->wpAny 'd' X.A (eval iter X.env) (λv s1=>wpAny 'd' X.A (pyIter v) (Tg G X pins σ tg R) X.xe s1) X.xe s
def NP(ea:Addr)(lo:Int)(n:Nat):It:=⟨λi _=>i<n,λi H x H'=>H'=H/\x=.int (lo+i),λi H=>n<=i/\∃C od,H ea=some (Am ea C od)⟩
def Hd(ea:Addr)(X:Cx):Prop:=X.A.handled=some (.ref ea)
theorem Cs{P:Program}{w:World}{K:W.Frag}{tg:Expr}(ea it:Addr)(lo:Int)(n:Nat):Lq (Hd ea) P w K tg (NP ea lo n) [it] it (λi h=>IsRangeIter h it (lo+(i:Nat)*1) ((n:Int)-(i:Nat)) 1) where
 mem:=by simp
 obj:=λi h st b hb=>by
  have e:b=it:=by simpa using hb
  subst e
  exact⟨_,st,λv z=>by
   have z':Data.fields _=Data.cell v:=z
   cases z'⟩
 keep:=λi h h' st k=>k it (by simp) _ st
 item:=by
  intro X hP hw hK hc i pins s σ H E I hf st hg
  subst hP hw hK
  obtain⟨f0,f1,f2,f3,f4,f5⟩:=hf it (by simp)
  have hg:i<n:=hg
  refine wpAny_pyNext_range_item st 'b' λh' st' sb=>?_
  have I1:Inv X pins σ H {s with heap:=h',toks:=s.toks+1}:=I.turned (λb o hb e=>(sb.2 b hb).trans e) f0 f1 f3 f4 f5
  have st2:IsRangeIter h' it (lo+((i+1:Nat):Int)*1) ((n:Int)-((i+1:Nat):Int)) 1:=by
   have e1:lo+((i+1:Nat):Int)*1=lo+(i:Nat)*1+1:=by omega
   have e2:(n:Int)-((i+1:Nat):Int)=(n:Int)-(i:Nat)-1:=by omega
   rw[e1,e2];exact st'
  refine⟨_,rfl,ze (s:={s with heap:=h',toks:=s.toks+1}) (n:="range_iterator") st' rfl rfl 'c' ⟨.int (lo+i),H,I1,⟨s.toks,?_⟩,⟨rfl,rfl⟩,st2,λb hb=>(hf b hb).1⟩⟩
  rw[Int.mul_one]
 done:=by
  intro X hP hw hK hc i pins s σ H E I hf st hg
  subst hP hw hK
  obtain⟨f0,f1,f2,f3,f4,f5⟩:=hf it (by simp)
  obtain⟨hn,C,od,oV⟩:=hg
  obtain⟨⟨o,vs,q1,q2,q3,q4,q5⟩,_⟩:=I.hok ea _ oV
  exact An hc q1 q4 q5 st 'b' λh' eb=>⟨rfl,I.turned (t':=s.toks) (λb o hb e=>eb b o hb e) f0 f1 f3 f4 f5⟩
 self:=λ_ _ _ _ _ st h=>wpAny_pyIter_rangeiter st h
section
variable{X:Cx}{tg:Expr}{ea:Addr}
theorem Ie{pins:List 'g'}{σ:St}{H:Hp}{s:Shared}{R:It->Hp->Prop}{E:Value->Shared->Prop}{lo hi:Int}{t u v:Tok}{tk:Nat}(I:Inv X pins σ H s)(h1 : -(2 ^ 62)<=lo)(h2:lo<2 ^ 62)(h3 : -(2 ^ 62)<=hi)(h4:hi<2 ^ 62)(q:R (NP ea lo (hi-lo).toNat) H):wpAny 'd' X.A (pyIter (.ref s.heap.objs.size)) (Tg (Hd ea) X pins σ tg R) E {s with heap:=s.heap.push {cls:=.type "range",data:=.fields #[.int lo t,.int hi u,.int 1 v]},toks:=tk}:=by
 refine wpAny_pyIter_range (IsRange.new ..) (small_one h1 h2 h3 h4) ?_
 have I1:Inv X pins σ H {s with heap:=s.heap.push {cls:=.type "range",data:=.fields #[.int lo t,.int hi u,.int 1 v]},toks:=tk}:=I.kept λb o e=>aai _ e
 refine⟨(s.heap.push {cls:=.type "range",data:=.fields #[.int lo t,.int hi u,.int 1 v]}).objs.size,[(s.heap.push {cls:=.type "range",data:=.fields #[.int lo t,.int hi u,.int 1 v]}).objs.size],_,_,H,rfl,I1.kept (t':=tk) λb o e=>aai _ e,Cs ea _ lo (hi-lo).toNat,?_,λb hb=>?_,q⟩
 ·have e1:lo+((0:Nat):Int)*1=lo:=by simp
  have e2:(((hi-lo).toNat:Nat):Int)-((0:Nat):Int)=Builtin.Range.rangeSize lo hi 1:=by rw[rangeSize_one];split<;>omega
  show IsRangeIter _ _ (lo+((0:Nat):Int)*1) ((((hi-lo).toNat:Nat):Int)-((0:Nat):Int)) 1
  rw[e1,e2]
  exact aaz _ rfl
 ·have e:b=(s.heap.push {cls:=.type "range",data:=.fields #[.int lo t,.int hi u,.int 1 v]}).objs.size:=by simpa using hb
  subst e
  exact I1.wc (aan _) (I1.hok.fresh (aan _))
def Ti(ea:Addr)(ta:TA):TI:=λσ H R=>ta σ H λvs H1=>∃j:Int,vs=[.int j]/\-(2 ^ 62)<=j/\j<2 ^ 62/\R (NP ea 0 j.toNat) H1
theorem zD{a:Expr}{ta:TA}{p pos:Pos}(hg:Gl X "range")(hm:X.mg "range"=none)(ha:PA X [a] ta)(hs:starEach [a] X.env=[(false,eval a X.env)]:=by rfl):Zc (Hd ea) X tg (.Call (.Name "range" p) [a] [] pos) (Ti ea ta):=by
 intro pins s σ H R I h
 refine Call_ (jz I hg hm boot_range (aaQ (bY (ha pos pins s σ H _ I h) λus s1 ⟨vs,H1,I1,r1,q1⟩=>?_) hs rfl))
 obtain⟨j,e,q1,q2,q⟩:=q1
 subst e
 cases r1 with
 |cons r rr =>
  cases rr
  obtain⟨t,rfl⟩:=r
  exact call_range_1 (Ie I1 'b' 'b' q1 q2 (by simpa using q))
end
section
variable{X:Cx}{elt tg iter:Expr}{ifs:List Expr}{scope:Scope}{pos:Pos}{N:List Str}{nv:Nat}{js:List Nat}{wi:TI}{g:TG}{tt:TT}{te:TE}
theorem Ct{G:Cx->Prop}{pins:List 'g'}{σ:St}{H:Hp}{s:Shared}{Q:VK}{it:Addr}{fp:List Addr}{tn:Nat->Heap->Prop}{J:It}{E:Value->Shared->Prop}{RR:Value->Addr->Result->Shared->Prop}(hc:∀C s H fp,G (cO X N scope C s H fp))(S:aT X.N X.env.scope N nv js scope)(hg:∀C s H fp,PG (cO X N scope C s H fp) tg g)(ht:∀C s H fp,Aj (cO X N scope C s H fp) ifs tt)(he:∀C s H fp,PE (cO X N scope C s H fp) elt te)(I:Inv X pins σ H s)(T:Lq G X.prog X.w X.K tg J fp it tn)(st:tn 0 s.heap)(hf:∀b∈fp,jC X pins H b)(hR:∀D,H D=none->qQ J g tt te Q D (qi nv js σ) H)(hRR:∀D C H' s' m,Inv X pins σ H' s'->jC X pins H' C->s'.heap.Ns C m->Q (.ref D) H'->RR (.ref D) C (.ok .next) s'):wpAny 'd' X.A (newList []) (λacc s₃=>wpAny 'd' X.A (newFunctionEnv scope X.env.globals (dY X.env scope.names []) [] X.env.qual none .none (some X.env)) (λcenv s₄ =>
   codeAny 'd' X.A (.compStart (.ListComp elt [⟨tg,iter,ifs,0⟩] scope pos) 0 (.ref it) acc {cenv with scope:=relabel scope X.env}) (RR acc cenv.locals) s₄) E s₃) E s:=by
 refine wpAny_newObj_type (wpAny_newFunctionEnv S.cell (by intro y hy;simp at hy) (λh₁ wu wz=>?_) S.kind)
 have I3:Inv X pins σ (upd H s.heap.objs.size (.lst [])) {s with heap:=s.heap.push {cls:=.type "list",data:=.seq ([]:List Value).toArray}}:=I.PU (t':=s.toks) (its:=[]) .nil (aaY _)
 have hD:=I.fresh
 obtain⟨W,⟨m0,w0⟩,turn⟩:=hR s.heap.objs.size hD
 have ho:=T.obj 0 s.heap st
 have KQ:∀b∈fp,b<s.heap.objs.size:=λb hb=>let ⟨o,e,_⟩:=ho b hb;aao e
 have Eh:∀b∈fp,jC X pins (upd H s.heap.objs.size (.lst [])) b:=λb hb=>⟨by rw[aB (aaH (KQ b hb))];exact(hf b hb).1,(hf b hb).2⟩
 generalize SK:({s with heap:=s.heap.push {cls:=.type "list",data:=.seq ([]:List Value).toArray}}:Shared)=s3 at I3 wu wz
 have e3:s3.heap=s.heap.push {cls:=.type "list",data:=.seq ([]:List Value).toArray}:=by rw[←SK]
 have hfl:∀b∈fp,b<s3.heap.objs.size:=λb hb=>by rw[e3,aa5];exact Nat.lt_succ_of_lt (KQ b hb)
 have keep:∀b o,s3.heap.get? b=some o->h₁.get? b=some o:=λb o e=>wz.extBut b o (aaH (aao e)) (aai _ e)
 have J0:=wk (tk:=s3.toks+([]:List (Str×Value)).length) I3 S Eh hfl keep wu
 have st1:tn 0 h₁:=T.keep 0 s.heap h₁ st λb hb o e=>keep b o (by rw[e3];exact aai _ e)
 generalize hH3:upd H s.heap.objs.size (.lst [])=H3 at *
 generalize hY:cO X N scope s3.heap.objs.size s3 H3 fp=Y at *
 have sub:∀x c,(dY X.env scope.names []).lookup x=some c->X.env.cells.lookup x=some c :=
  kH scope.names [] (λn hn=>I.ok.has n (S.free _ hn rfl)) (λx c z=>by cases z)
 have wg:∀{H':Hp},(∀b∈fp,H' b=none)->∀b∈fp,jC Y [] H' b:=λ{H'} hn b hb=>by
  subst hY
  obtain⟨f0,f1,f2,f3,f4,f5⟩:=Eh b hb
  refine⟨hn b hb,aaH (hfl b hb),λz=>?_,.inl hb,λx c e=>f4 x c (sub x c e),λp hp=>absurd (show p∈([]:List 'g') from hp) (by simp)⟩
  rcases aat.mp (I3.sR b z) with q|q
  ·exact f1 q
  ·exact f2 q
 have eA:Y.A=X.A:=by subst hY;rfl
 have eP:Y.prog=X.prog:=by subst hY;rfl
 have eW:Y.w=X.w:=by subst hY;rfl
 have eK:Y.K=X.K:=by subst hY;rfl
 have eC:G Y:=by subst hY;exact hc _ _ _ _
 have eE:Y.env=compEnvC scope (dY X.env scope.names []) s3.heap.objs.size X.env:=by subst hY;rfl
 have Nm:Y.xe=λ_ _=>False:=by subst hY;rfl
 have VQ:PG Y tg g:=by subst hY;exact hg _ _ _ _
 have VR:Aj Y ifs tt:=by subst hY;exact ht _ _ _ _
 have VS:PE Y elt te:=by subst hY;exact he _ _ _ _
 have loop:codeAny 'd' X.A (.compLoop (.ListComp elt [⟨tg,iter,ifs,0⟩] scope pos) 0 (.ref it) (.ref s.heap.objs.size) (compEnvC scope (dY X.env scope.names []) s3.heap.objs.size X.env))
   (RR (.ref s.heap.objs.size) s3.heap.objs.size) {s3 with heap:=h₁,toks:=s3.toks+([]:List (Str×Value)).length}:=by
  refine wm (λn s'=>∃i ys τ H',Inv Y [] τ H' s'/\tn i s'.heap/\(∀b∈fp,H' b=none)/\W i n ys τ H') ?_ m0 ⟨0,[],_,H3,J0,st1,λb hb=>(Eh b hb).1,w0⟩
  rintro n s4 ⟨i,ys,τ,H4,I4,SM,SN,w4⟩
  obtain⟨hDl,tr⟩:=turn i n ys τ H4 w4
  rcases tr with ⟨stop,qn⟩|⟨go,Nn,SO,step⟩
  ·have d:=T.done Y eP eW eK eC i [] s4 τ H4 (λ_ _=>False) I4 (wg SN) SM stop
   rw[eA]at d
   refine bY d λr s5 ⟨hr,I5⟩=>?_
   subst hr
   have u:Inv X pins σ H4 s5:=by
    subst hY
    exact I3.B7 (ch:=fp) I5.os I5.base I5.hok I5.bare λb hb=>⟨(Eh b hb).2.2.2.1,(Eh b hb).2.1,(Eh b hb).2.2.2.2.1,(Eh b hb).2.2.2.2.2⟩
   have hC:H4 s3.heap.objs.size=none:=by have z:=I5.free;rw[eE]at z;exact z
   obtain⟨m,hn,_⟩:=I5.loc
   rw[eE]at hn
   exact hRR _ _ H4 s5 m u (I3.wc (aan _) hC) hn qn
  ·have d:=T.item Y eP eW eK eC i [] s4 τ H4 (λ_ _=>False) I4 (wg SN) SM go
   rw[eA]at d
   refine bY d λr s5 ⟨u,hr,h5⟩=>?_
   subst hr
   refine bY h5 λ_ s6 ⟨x,H6,I6,r6,y6,PZ,VT⟩=>?_
   have VU:=I6.pinned (wg VT) (T.obj _ _ PZ)
   have q6:=VQ _ s6 τ H6 x u _ VU r6 (step x H6 y6)
   rw[eP,eW,eA,eE,Nm]at q6
   refine bY q6 λ_ s7 ⟨σ7,H7,I7,q7⟩=>?_
   have q8:=VR _ s7 σ7 H7 _ I7 q7
   rw[eP,eW,eA,eE,Nm]at q8
   refine bY q8 λok s8 ⟨H8,I8,q8⟩=>?_
   have again:∀{σ9:St}{H9:Hp}{s9:Shared}{zs:List V},Inv Y ([]++sV fp s6.heap) σ9 H9 s9->(∃m',m'<n/\W (i+1) m' zs σ9 H9)->∃m,m<n/\∃i ys τ H',Inv Y [] τ H' s9/\tn i s9.heap/\(∀b∈fp,H' b=none)/\W i m ys τ H':=λ{σ9 H9 s9 zs} I9 n9=>by
    obtain⟨m',hm,w9⟩:=n9
    refine⟨m',hm,i+1,zs,σ9,H9,I9.mC,T.keep _ _ _ PZ λb hb o e=>(I9.pin (b,o) (aaG _ (aaG _ (gu hb e)))).1,λb hb=>?_,w9⟩
    obtain⟨o,e,d⟩:=T.obj _ _ PZ b hb
    exact(I9.pin (b,o) (aaG _ (aaG _ (gu hb e)))).2.1
   cases ok with
   |false =>
    rw[aag aaw]
    rw[aag aaw]at q8
    exact again I8 (SO _ _ _ q8)
   |true =>
    rw[aal rfl]
    rw[aal rfl]at q8
    have q9:=VS _ s8 σ7 H8 _ I8 q8
    rw[eP,eW,eA,eE,Nm]at q9
    refine bY q9 λy s9 ⟨yv,H9,I9,r9,VV,VW,q9⟩=>?_
    have ap:=cN (X:=Y) _ s9 σ7 H9 (.ref s.heap.objs.size) [yv] (.ref s.heap.objs.size) [y] (λ_ SQ=>Nn (ys++[yv]) σ7 SQ) I9 rfl (.cons r9 .nil) ⟨_,ys,yv,rfl,rfl,VV,VW,q9⟩
    rw[eP,eW,eA,Nm]at ap
    exact bY ap λ_ Np ⟨_,SQ,VX,_,VY⟩=>again VX (SO _ _ _ VY)
 subst SK
 exact codeAny_compStart_list loop (T.self _ 0 _ _ _ st1 loop)
theorem Cu{G:Cx->Prop}(hc:∀C s H fp,G (cO X N scope C s H fp))(S:aT X.N X.env.scope N nv js scope)(hi:Zc G X tg iter wi)(hg:∀C s H fp,PG (cO X N scope C s H fp) tg g)(ht:∀C s H fp,Aj (cO X N scope C s H fp) ifs tt)(he:∀C s H fp,PE (cO X N scope C s H fp) elt te)(hs:∀x,foldedSetIterable iter X.env x=pure x:=by intro _;rfl):PE X (.ListComp elt [⟨tg,iter,ifs,0⟩] scope pos) (KP wi g tt te nv js):=by
 intro pins s σ H Q I h
 rw[eval_ListComp]
 refine wpAny_comprehension_free (use:=none) rfl hs (jD λn hn=>I.ok.has n (S.free _ hn rfl)) S.kind S.loc (bY (hi pins s σ H _ I h) λv s1 h1=>bY h1 λitv s2 h2=>?_)
 obtain⟨it,fp,tn,J,H2,e,I2,T,st2,f2,hR⟩:=h2
 subst e
 refine Ct (RR:=λacc C=>compPost 'd' X.A X.xe none (EP X pins σ Q) acc C) hc S hg ht he I2 T st2 f2 hR ?_
 intro D C H' s' m I' fC hn q
 refine⟨m,hn,λh' sb=>⟨.ref D,H',?_,O,q⟩⟩
 exact I'.turned (t':=s'.toks) (λb o hb e=>(sb.2 b hb).trans e) fC.1 fC.2.1 fC.2.2.2.1 fC.2.2.2.2.1 fC.2.2.2.2.2
end
theorem mF{ea:Addr}{lo:Int}{n:Nat}{g:TG}{tt:TT}{te:TE}{Q:VK}{D:Addr}{τ:St}{H:Hp}(Pv:Nat->List V->St->Hp->Prop)(h0:Pv 0 [] τ (upd H D (.lst [])))(hl:∀i ys τ H,i<=n->Pv i ys τ H->H D=some (.lst ys))(hs:∀i ys τ H,i<n->Pv i ys τ H->g (.int (lo+i)) τ H λτ2 H2=>tt τ2 H2 λb H3=>if b=true then te τ2 H3 λy H4=>H4 D=some (.lst ys)/\ys.length<sizeLine/\Pv (i+1) (ys++[y]) τ2 (upd H4 D (.lst (ys++[y]))) else Pv (i+1) ys τ2 H3)(hd:∀ys τ H,Pv n ys τ H->(∃C od,H ea=some (Am ea C od))/\Q (.ref D) H):qQ (NP ea lo n) g tt te Q D τ H:=by
 refine⟨λi m ys τ H=>m=n-i/\i<=n/\Pv i ys τ H,⟨n,by simp,aaY _,h0⟩,?_⟩
 rintro i m ys τ H ⟨rfl,hi,p⟩
 refine⟨hl i ys τ H hi p,?_⟩
 by_cases hlt:i<n
 ·refine .inr ⟨hlt,Pv (i+1),λzs σ' H' p'=>⟨n-(i+1),by omega,rfl,hlt,p'⟩,λx H' y=>?_⟩
  obtain⟨e,y⟩:=y
  subst e y
  exact hs i ys τ _ hlt p
 ·have e:i=n:=by omega
  subst e
  exact .inl ⟨⟨aan _,(hd ys τ H p).1⟩,(hd ys τ H p).2⟩
theorem Tj{P:Program}{w:World}{X:Cx}:Passes (BW P w) X E0:=λ_ _ _ _ _ _ _ h=>by
 obtain⟨_,_,_,_,_,_,_,_,_,_,h⟩:=h
 exact h.elim
section
variable{X:Cx}{K:W.Frag}
end
section
variable{κ:Type}[DecidableEq κ]
theorem oB.getD{o:Option V}{u:Option Value}{d:V}{d':Value}(r:oB o u)(rd:RelV d d'):RelV (o.getD d) (u.getD d'):=by
 cases o with
 |none=>cases u with
  |none=>exact rd
  |some _=>exact(show False from r).elim
 |some _=>cases u with
  |none=>exact(show False from r).elim
  |some _=>exact r
theorem KV.length{kvs:List (κ×V)}{vs:List (κ×Value)}(r:KV kvs vs):kvs.length=vs.length:=Paired.length r
end
theorem To{P:Program}{w:World}{k:Key}{u:Value}(r:RelV (kV k) u):(kD P w).is k u=true:=by
 cases k with
 |inl i=>obtain⟨t,e⟩:=(show ∃t,u=Value.int i t from r);subst e;exact B3 P w i t
 |inr x=>obtain⟨t,e⟩:=(show ∃t,u=Value.str x t from r);subst e;exact B5 P w x t
section
variable{P:Program}{w:World}{H:Hp}{h:Heap}{a:Addr}
end
section
variable{X:Cx}{pins:List 'g'}{σ:St}{H:Hp}{s:Shared}{a:Addr}{y v:V}{u r:Value}{o:Option V}{A:Around}{E:Value->Shared->Prop}
end
section
variable{X:Cx}{pins:List 'g'}{σ:St}{H:Hp}{s:Shared}{a:Addr}{kvs:List (Key×V)}{k:Key}{u:Value}{A:Around}{E:Value->Shared->Prop}
end
section
variable{X:Cx}{o i e value:Expr}{pos pos' tpos:Pos}{td ty tv:TE}
end
section
variable{X:Cx}{pos:Pos}
end
section
variable{X:Cx}{pins:List 'g'}{σ:St}{H:Hp}{s:Shared}{a:Addr}{y d:V}{u r:Value}{o:Option V}{A:Around}{E:Value->Shared->Prop}
end
section
variable{X:Cx}{o e f:Expr}{apos cpos:Pos}{td ty tx:TE}
end
section
variable{X:Cx}{pins:List 'g'}{σ:St}{H:Hp}{s:Shared}{a:Addr}{kvs:List (Key×V)}{A:Around}{E:Value->Shared->Prop}
end
section
variable{X:Cx}{pins:List 'g'}{σ:St}{H:Hp}{s:Shared}{a:Addr}{y:V}{u:Value}{A:Around}{E:Value->Shared->Prop}
end
end L2
set_option maxHeartbeats 1000000
namespace L2
open PySem PySem.Spec PyProof.Rows
section
variable{X:Cx}
end
structure je(k:Nat)(A:Around):Prop where
 dp:A.depth+3*k+5<recursionLimit
 un:A.units+16*k+200<cLine
theorem cM.m{k:Nat}{A:Around}(r:cM k A):je k A:=⟨r.dp,r.un⟩
theorem je.mark{k:Nat}{A:Around}(r:je k A)(h:Option Value):je k (A.mark h):=⟨r.dp,r.un⟩
theorem je.deeper{k:Nat}{A:Around}(r:je (k+1) A)(env:Env):je k (A.deeper env) :=
 ⟨by have:=r.dp;show A.depth+1+3*k+5<_;omega,by have:=r.un;show A.units+3+16*k+200<_;omega⟩
theorem je.aO{k:Nat}{A:Around}(r:je k A):A.units<cLine:=by have:=r.un;omega
theorem je.hu{k:Nat}{A:Around}(r:je k A):A.units+1<cLine:=by have:=r.un;omega
structure Lr(P:Program)(w:World)(K:W.Frag)(mg:Str->Option Value)(base:Heap)(k:Nat)(f:Addr)(fd:FuncData)(ps:List Str)(sp:Sp):Prop where
 len:∀vs H Q E,sp vs H Q E->vs.length=ps.length
 run:∀(A:Around)(outer:List Env)(s:Shared)(H:Hp)(args:Args)(us:List Value)(vs:List V)(Q:VK)(E:XK),je k A->uW P w K mg base A outer s H->BindsTo s fd args (ps.zip us)->Vals vs us->sp vs H Q E->codeAny (model P w) A (.call (.ref f) args) (CR fu outer P w H s Q E) s
abbrev Cx.Qq(X:Cx):Cx:={X with calm:=false,xe:=λ_ _=>False}
section
variable{P:Program}{w:World}{K:W.Frag}{mg:Str->Option Value}{base:Heap}
theorem eY.okM{x qual:Str}{st:Stmt}{f:Addr}{fd:FuncData}{N ps:List Str}{k:Nat}{sp:Sp}(F:eY K x qual st f fd)(S:aF N ps (au st))(len:∀vs H Q E,sp vs H Q E->vs.length=ps.length)(hbody:∀(cdv:Value)(A:Around)(outer:List Env)(s:Shared)(H:Hp)(vs:List V)(Q:VK)(E:XK),je k (A.deeper (envOfC qual (au st) s.heap.objs.size f cdv))->sp vs H Q E->∃t,BV (oH fu P w K mg base N qual (au st) f cdv A outer s H E).Qq (bZ st) t/\t {nx:=λ_ H'=>Q .non H',rt:=Q} (start N vs) H):Lr P w K mg base (k+1) f fd ps sp:=by
 obtain⟨oc,od,kV,doc,pm,an,cdv,ct,osl,rfl,lk,hcd⟩:=F.ex
 refine⟨len,λA outer s H args us vs Q E hr e0 hb r Ed=>?_⟩
 have hl:=len _ _ _ _ Ed
 have KX:K.In s.heap:=e0.mod.gk.keeps λb o e=>(e0.bs b o e).1
 have lim:s.heap.NoLimit:=e0.mod.nolimit.keeps λb o e=>(e0.bs b o e).1
 have hkind:∀y∈ps.zip us,(au st).names.lookup y.1=some .local\/((au st).names.lookup y.1=some .cell/\((cellsFrom (s.heap.objs.size+1) (au st).names []).lookup y.1).isSome=true):=λ⟨n,v⟩ hy=>by
  rcases S.par n (List.of_mem_zip hy).1 with q|q
  ·exact .inl q
  ·exact .inr ⟨q,W.cellsFrom_some _ _ _ (.inl q)⟩
 refine codeAny_call_function (show A.depth<recursionLimit by have:=hr.dp;omega) (KX _ _ lk) rfl S.co S.gen rfl (W.codeRec_of KX hcd) (hb _ _ _ _ ?_)
 refine wpAny_newFunctionEnv_cells S.kind hkind λenv he s1 x=>?_
 subst he
 refine⟨lim.keeps x.toInCall.keep,codeAny_func ?_⟩
 obtain⟨t,ht,hq⟩:=hbody cdv A outer s H vs Q E (hr.deeper _) Ed
 have e1:uW P w K mg base ({A with handled:=none}:Around) outer s H:=⟨e0.frames,e0.mod,e0.bs,e0.HD,e0.oF,e0.Kl,e0.hok,e0.bare⟩
 have I1:Inv (oH fu P w K mg base N qual (au st) f cdv ({A with handled:=none}:Around) outer s H E) [] (start N vs) H s1:=zu S rfl e1 hl r x
 have I:Inv (oH fu P w K mg base N qual (au st) f cdv A outer s H E).Qq [] (start N vs) H s1 :=
  ⟨⟨I1.ok.mod,I1.ok.kind,I1.ok.glob,I1.ok.blt,I1.ok.above,I1.ok.inj,I1.ok.has,I1.ok.Pk,(λz=>nomatch (show false=true from z)),Around.frames_deeper e0.frames,I1.ok.stk,I1.ok.UH,I1.ok.bs,I1.ok.HD,I1.ok.D0,I1.ok.HE,I1.ok.oF,I1.ok.Kl⟩,I1.os,I1.bare,I1.base,I1.loc,I1.cell,I1.free,I1.gJ,I1.pin,I1.hok,I1.len⟩
 refine aa1 (ht [] s1 (start N vs) H _ I hq) (λfl s' hs=>?_) λe s' hs=>hs.elim
 have fin:∀{σ':St}{H':Hp}{v:V}{u:Value},Inv (oH fu P w K mg base N qual (au st) f cdv A outer s H E).Qq [] σ' H' s'->RelV v u->Q v H'->CE outer P w H s Q u s' :=
  λ{σ' H' v u} J rv q=>⟨v,H',J.os,J.bare,J.base,J.hok,rv,q⟩
 cases fl with
 |ret u =>
  obtain⟨v,σ',H',J,rv,q⟩:=hs
  exact fin J rv q
 |next =>
  obtain⟨σ',H',J,q⟩:=hs
  exact fin (v:=V.non) (u:=Value.none) J rfl q
 |brk =>
  obtain⟨_,_,_,q⟩:=hs
  exact False.elim q
 |cont =>
  obtain⟨_,_,_,q⟩:=hs
  exact False.elim q
end
section
variable{X:Cx}{k:Nat}{f:Addr}{fd:FuncData}{ps:List Str}{sp:Sp}{x:Str}{p pos:Pos}{e:Expr}{es:List Expr}{t:TA}
theorem Cv(F:Lr X.prog X.w X.K X.mg X.base k f fd ps sp)(hr:je k X.A)(hg:Gl X x)(hm:X.mg x=some (.ref f))(hk:W.keepIn X.K (.ref f)=true)(hb:Binds X.K fd ps [])(ha:PA X (e::es) t)(hdb:(x==("__debug__":Str))=false:=by decide)(he:starEach (e::es) X.env=(false,eval e X.env)::starEach es X.env:=by rfl)(hpl:(backTo pos (starEach es X.env)).any (·.1)=false:=by rfl):PE X (.Call (.Name x p) (e::es) [] pos) (GO sp [] E0 t):=by
 intro pins s σ H Q I h
 refine abb (iw I hg hm ?_ hdb)
 refine W.callWith_K (h₀:=X.base) I.ok.mod.gk hk (bY (ha pos pins s σ H _ I h) λus s1 ⟨vs,H1,I1,r,q⟩=>⟨I1.jd,?_⟩) he hpl
 have q:sp (vs++[]) H1 Q E0:=q
 rw[aa6]at q
 have hl:us.length=ps.length:=by rw[←r.length];exact F.len _ _ _ _ q
 have hb':=hb s1 us I1.jd (by rw[aa6];exact hl)
 rw[aa6]at hb'
 refine wpAny_call (codeAny_mono (F.run X.A X.stack s1 H1 ⟨us,[]⟩ us vs Q E0 hr I1.Kz hb' r q) λrr s' hq=>?_)
 cases rr with
 |error e=>exact hq.elim
 |ok fl =>
  cases fl with
  |ret u=>exact I1.after hq
  |next=>exact False.elim hq
  |brk=>exact False.elim hq
  |cont=>exact False.elim hq
end
end L2
set_option maxHeartbeats 4000000
namespace L2
open PySem PySem.Spec PyProof.Rows
inductive wJ(K:W.Frag)(H:Hp):V->V->Bool->Prop where
 |cmp {n:Nat}{x y:V}{b:Bool}:n<=50->qU K H n x y b->wJ K H x y b
 |nl {a:Addr}{xs:List V}:aM K H a xs->wJ K H .non (.ref a) false
 |ln {a:Addr}{xs:List V}:aM K H a xs->wJ K H (.ref a) .non false
 |nt {a:Addr}{xs:List V}:bR K H a xs->wJ K H .non (.ref a) false
 |tn {a:Addr}{xs:List V}:bR K H a xs->wJ K H (.ref a) .non false
section
variable{X:Cx}{pins:List 'g'}{σ:St}{H:Hp}{s:Shared}
theorem Qs(I:Inv X pins σ H s){x y:V}{b:Bool}(h:wJ X.K H x y b){A:Around}{u v:Value}(hu:A.units+50<cLine)(ru:RelV x u)(rv:RelV y v):SeqAt.EqAt A s u v b:=by
 cases h with
 |cmp hn h=>exact Ld I h 'b' ru rv
 |nl ha=>cases ru;cases rv;obtain⟨its,r1,p1,_⟩:=I.list ha;exact SeqAt.EqAt.none_list p1.isList 'b'
 |ln ha=>cases ru;cases rv;obtain⟨its,r1,p1,_⟩:=I.list ha;exact SeqAt.EqAt.list_none p1.isList 'b'
 |nt ha=>cases ru;cases rv;obtain⟨its,r1,p1,_⟩:=I.tuple ha;exact SeqAt.EqAt.none_tuple p1 'b'
 |tn ha=>cases ru;cases rv;obtain⟨its,r1,p1,_⟩:=I.tuple ha;exact SeqAt.EqAt.tuple_none p1 'b'
def O4(f:V->Bool)(u:Value):Bool:=match Sh u with
 |some x=>f x
 |none=>false
theorem Ao{f:V->Bool}{x:V}{u:Value}(r:RelV x u):O4 f u=f x:=by unfold O4;rw[r.abs]
theorem G8{f:V->Bool}:∀{xs:List V}{us:List Value},Vals xs us->us.any (O4 f)=xs.any f
 |_,_,.nil=>rfl
 |x::xs,u::us,.cons r t=>by rw[List.any_cons,List.any_cons,G8 t,Ao r]
theorem Aq(I:Inv X pins σ H s){A:Around}{f:V->Bool}{y:V}{v:Value}(hu:A.units+50<cLine)(rv:RelV y v):∀{xs:List V}{us:List Value},Vals xs us->(∀z∈xs,wJ X.K H z y (f z))->∀w∈us,SeqAt.EqAt A s w v (O4 f w)
 |_,_,.nil,_,w,hw=>by cases hw
 |x::xs,u::us,.cons r t,h,w,hw=>by
  rcases aat.mp hw with rfl|hw
  ·rw[Ao r];exact Qs I (h x (aaC ..)) hu r rv
  ·exact Aq I hu rv t (λz hz=>h z (aax _ hz)) w hw
end
section
variable{X:Cx}
def O5(K:W.Frag):V->List V->Hp->VK->Prop:=λx vs H Q=>∃(p:Addr)(xs:List V)(y:V)(f:V->Bool)(j:Nat),x=.ref p/\vs=[y]/\aM K H p xs/\(∀z∈xs,wJ K H z y (f z))/\j<1000000/\(∃z,xs[j]?=some z/\f z=true)/\(∀(i:Nat) z,i<j->xs[i]?=some z->f z=false)/\Q (.int (j:Nat)) H
theorem NQ(hu:X.A.units+64<cLine):Ng X "list.index" (O5 X.K):=by
 intro pins s σ H x vs v us Q I rx rv h
 obtain⟨p,xs,y,f,j,rfl,rfl,hq,hc,hj,⟨z,hz,fz⟩,hno,q⟩:=h
 cases rx
 obtain⟨u,rfl,ru⟩:=rv.one
 obtain⟨its,r,pl,_⟩:=I.list hq
 obtain⟨⟨cls,dd,data,sl⟩,ho,hc2,n,hd⟩:=pl.isList
 simp only at hc2 hd
 subst hc2 hd
 obtain⟨w,hw,rw'⟩:=r.get hz
 have hjl:j<its.length:=(aaj.mp hw).1
 refine call_meets F.slot_list_index ⟨_,ho,rfl⟩ F.entry_list_index (F.args_list_index_2 _ _) (SeqAt.list_indexAt p its.toArray n dd sl u (O4 f) j (by simpa using hjl) 'b' ?_ ?_) ⟨ho,λw hw=>Aq I (by show X.A.units+1+50<cLine;omega) ru r hc w (by simpa using hw),?_⟩
 ·have e:its.toArray[j]'(by simpa using hjl)=w:=by
   obtain⟨_,q⟩:=aaj.mp hw
   simpa using q
  rw[e,Ao rw',fz]
 ·intro m hm hmj
  have hml:m<its.length:=by simpa using hm
  obtain⟨x,hx⟩:∃x,xs[m]?=some x:=⟨_,aaR (by rw[r.length];exact hml)⟩
  obtain⟨w2,U3,r2⟩:=r.get hx
  have e:its.toArray[m]'hm=w2:=by
   obtain⟨_,q⟩:=aaj.mp U3
   simpa using q
  rw[e,Ao r2,hno m x hmj hx]
 ·exact⟨.int _,H,I.tok _,⟨_,O⟩,q⟩
theorem Ls(K:W.Frag)(h:X.K=K)(hu:X.A.units+64<cLine):Ng X "list.index" (O5 K):=by subst h;exact NQ hu
def Wr(K:W.Frag):R2:=λx y H Q=>∃(p:Addr)(xs:List V)(f:V->Bool),y=.ref p/\aM K H p xs/\(∀z∈xs,wJ K H z x (f z))/\Q (.bl (!xs.any f)) H
theorem Qt(K:W.Frag)(hK:X.K=K)(hu:X.A.units+64<cLine):nX X (compareOp .NotIn) (Wr K):=by
 subst hK
 intro pins s σ H x y v u Q I rx ry h
 obtain⟨p,xs,f,rfl,hp,hc,q⟩:=h
 cases ry
 obtain⟨its,r,pl,hz⟩:=I.list hp
 refine SeqAt.notIn_listAt (O4 f) pl.isList (λw hwm=>Aq I (by show X.A.units+1+50<cLine;omega) rx r hc w (by simpa using hwm)) ⟨.bl _,H,I,rfl,?_⟩
 rw[show its.toArray.any (O4 f)=its.any (O4 f) by simp,G8 r]
 exact q
end
theorem Cw{K:W.Frag}{a b:Addr}{xs ys:List V}{g:TG}{tt:TT}{te:TE}{Q:VK}{D:Addr}{τ:St}{H:Hp}(Pv:Nat->List V->St->Hp->Prop)(h0:Pv 0 [] τ (upd H D (.lst [])))(hl:∀i ws τ H,i<=min xs.length ys.length->Pv i ws τ H->aM K H a xs/\aM K H b ys/\H D=some (.lst ws))(hs:∀i x y t ws τ H,xs[i]?=some x->ys[i]?=some y->H t=none->Pv i ws τ H->g (.ref t) τ (upd H t (.tup [x,y])) λτ2 H2=>tt τ2 H2 λb H3=>if b=true then te τ2 H3 λv H4=>H4 D=some (.lst ws)/\ws.length<sizeLine/\Pv (i+1) (ws++[v]) τ2 (upd H4 D (.lst (ws++[v]))) else Pv (i+1) ws τ2 H3)(hd:∀ws τ H,Pv (min xs.length ys.length) ws τ H->Q (.ref D) H):qQ (UR K a b) g tt te Q D τ H:=by
 refine⟨λi m ws τ H=>m=min xs.length ys.length-i/\i<=min xs.length ys.length/\Pv i ws τ H,⟨min xs.length ys.length,by simp,aaY _,h0⟩,?_⟩
 rintro i m ws τ H ⟨rfl,hi,p⟩
 obtain⟨q1,q2,hD⟩:=hl i ws τ H hi p
 refine⟨hD,?_⟩
 by_cases hlt:i<min xs.length ys.length
 ·have k1:i<xs.length:=by omega
  have k2:i<ys.length:=by omega
  refine .inr ⟨⟨xs,ys,xs[i],ys[i],q1,q2,by simp[k1],by simp[k2]⟩,Pv (i+1),λzs σ' H' p'=>⟨min xs.length ys.length-(i+1),by omega,rfl,hlt,p'⟩,λv H' y=>?_⟩
  obtain⟨t,x,y,ht,e1,e2,ex,ey⟩:=y
  subst e1 e2
  exact hs i x y t ws τ _ (ex xs q1) (ey ys q2) ht p
 ·have e:i=min xs.length ys.length:=by omega
  subst e
  exact .inl ⟨⟨xs,ys,q1,q2,rfl⟩,hd ws τ H p⟩
section
variable{prog:Program}{w:World}{A:Around}{E:Value->Shared->Prop}{s:Shared}
end
section
variable{prog:Program}{w:World}{A:Around}{E:Value->Shared->Prop}{s:Shared}
end
structure zE(prog:Program)(w:World)(K:Type)[DecidableEq K] where
 is:Heap->K->Value->Prop
 hash:K->Int
 draws:K->Nat
 zF:Nat
 inj:∀{h:Heap}{v:Value}{x y:K},is h x v->is h y v->x=y
 keeps:∀{h h':Heap}{k:K}{v:Value}{d:Addr}{o:Obj}{es ep},is h k v->h.get? d=some o->o.data=.dict es ep->Heap.SameBut d h h'->is h' k v
 pyHash:∀{A:Around}{E:Value->Shared->Prop}{s:Shared}{k:K}{v:Value}{Q:Int->Shared->Prop},A.units+zF<cLine->is s.heap k v->Q (hash k) {s with toks:=s.toks+draws k}->wpAny (model prog w) A (PySem.pyHash v) Q E s
 eq:∀{A:Around}{s:Shared}{x y:K}{u v:Value},A.units+zF<cLine->is s.heap x u->is s.heap y v->SeqAt.EqAt A s u v (decide (x=y))
 quiet:∀{A:Around}{E:Value->Shared->Prop}{s:Shared}{k:K}{v:Value}{Q:Bool->Shared->Prop}{n:Nat},zF<=n->is s.heap k v->Q true s->wpAny (model prog w) A (eqIsQuiet n v) Q E s
section
variable{prog:Program}{w:World}{K:Type}[DecidableEq K](V:zE prog w K)
def TupIs(h:Heap)(ks:List K)(a:Addr):Prop:=∃o items n,h.get? a=some o/\o.cls=.type "tuple"/\o.data=.seq items n/\Paired (λk v=>V.is h k v) ks items.toList
def Ar(ks:List K):Int:=reduceHash (Builtin.Tuple.tupleHashOf (ks.map V.hash))
variable{V}
theorem TupIs.ty{s:Shared}{ks:List K}{a:Addr}(x:TupIs V s.heap ks a):s.TypeIs (.ref a) "tuple":=by obtain⟨o,_,_,ho,hc,_⟩:=x;exact⟨o,ho,hc⟩
theorem wK{h:Heap}:∀{x y:List K}{vs:List Value},Paired (λk v=>V.is h k v) x vs->Paired (λk v=>V.is h k v) y vs->x=y
 |_,_,_,.nil,.nil=>rfl
 |_,_,_,.cons a r,.cons b q=>by rw[V.inj a b,wK r q]
theorem TupIs.inj{h:Heap}{a:Addr}{x y:List K}(hx:TupIs V h x a)(hy:TupIs V h y a):x=y:=by
 obtain⟨o,items,n,ho,_,hd,hi⟩:=hx
 obtain⟨o',items',n',ho',_,hd',hi'⟩:=hy
 rw[ho]at ho'
 cases ho'
 rw[hd]at hd'
 cases hd'
 exact wK hi hi'
theorem TupIs.keeps{h h':Heap}{ks:List K}{a d:Addr}{o:Obj}{es ep}(x:TupIs V h ks a)(ho:h.get? d=some o)(hd:o.data=.dict es ep)(hs:Heap.SameBut d h h'):TupIs V h' ks a:=by
 obtain⟨o',items,n,e1,e2,e3,e4⟩:=x
 have hne:a≠d:=λe=>by
  subst e
  rw[e1]at ho
  cases ho
  rw[hd]at e3;cases e3
 exact⟨o',items,n,(hs.2 a hne).trans e1,e2,e3,Paired.Kg e4 λk v q=>V.keeps q ho hd hs⟩
variable{A:Around}{E:Value->Shared->Prop}{s:Shared}
theorem Lu{ks:List K}{a:Addr}{Q:Int->Shared->Prop}(hu:A.units+(V.zF+1)<cLine)(hk:TupIs V s.heap ks a)(h:Q (Ar V ks) {s with toks:=s.toks+((ks.map V.draws).sum+1)}):wpAny (model prog w) A (pyHash (.ref a)) Q E s:=by
 have hT:=hk.ty
 have gK:A.units<cLine:=by omega
 obtain⟨o,items,n,ho,_,hd,hi⟩:=hk
 unfold pyHash
 first|unfold pyHashByItsType|skip
 first|refine aaf (wpAny_cRoomFor_or (.inr gK) ?_)|skip
 refine aaf (wpAny_specialOf hT F.slot_tuple_hash.lookup ?_);show wpAny _ _ (if (some (Value.builtin "tuple.__hash__")==some Value.none)=true then _ else _) Q E s
 rw[aag (by rw[beq_builtin_none];exact aaw)];refine aaf (wpAny_specialOf hT F.slot_tuple_hash.lookup ?_)
 show wpAny _ _ (callSpecialIfBoundUnlessNone? (.ref a) "__hash__" _ >>= _) Q E s;refine aaf (wpAny_callSpecialIfBoundUnlessNone?_slot hT F.slot_tuple_hash (wpAny_call_entry F.slot_tuple_hash hT F.entry_tuple_hash ?_ (F.args_tuple_hash_1 _)))
 have hu1:A.in1.units+V.zF<cLine:=by show A.units+1+V.zF<cLine;omega
 show wpAny _ _ (Builtin.Tuple.tupleItemsOf (.ref a) >>= _) _ _ s
 refine aaf (wpAny_tupleItemsOf ho hd (aaf ?_))
 rw[←Array.forIn_toList]
 refine wpAny_forIn_list _ (λrest (b:Array Int) s'=>∃done left,ks=done++left/\Paired (λk v=>V.is s.heap k v) left rest/\b.toList=done.map V.hash/\s'={s with toks:=s.toks+(done.map V.draws).sum}) _ ?_ ?_ _ _ ⟨[],ks,rfl,hi,rfl,rfl⟩
 ·rintro x rest b s' ⟨done,left,rfl,hl,hb,rfl⟩
  cases hl with
  |@cons k _ ks' _ h1 hl' =>
   have fin:∃d l,done++k::ks'=d++l/\Paired (λk v=>V.is s.heap k v) l rest/\(b.push (V.hash k)).toList=d.map V.hash/\({s with toks:=s.toks+(done.map V.draws).sum+V.draws k}:Shared)={s with toks:=s.toks+(d.map V.draws).sum}:=⟨done++[k],ks',by simp,hl',by simp[hb],by simp[Nat.add_assoc]⟩
   refine aaf (V.pyHash hu1 h1 ?_)
   first
    |exact aar fin
    |exact aaf (aar (aar fin))
 ·rintro b s' ⟨done,left,rfl,hl,hb,rfl⟩
  cases hl
  rw[aa6]at h
  show wpAny _ _ (retInt (Builtin.Tuple.tupleHashOf b.toList)) _ _ _
  rw[hb]
  refine wpAny_ret_mkInt ?_
  generalize hz:Builtin.Tuple.tupleHashOf (done.map V.hash)=z
  unfold Ar reduceHash at h
  rw[hz]at h
  show wpAny _ _ (if (decide (-(2:Int) ^ 63<=z)&&decide (z<2 ^ 63))=true then _ else _) Q E _
  by_cases hr:(decide (-(2:Int) ^ 63<=z)&&decide (z<2 ^ 63))=true
  ·rw[aal hr]at h⊢
   exact aar (by simpa [Nat.add_assoc]using h)
  ·rw[aag hr]at h⊢
   exact aaf (wpAny_rule (aar (by simpa [Nat.add_assoc]using h)))
theorem Eo{x y:List K}:((List.range (min x.length y.length)).all (λj=>decide (x[j]?=y[j]?))&&x.length==y.length)=decide (x=y):=by
 rw[aa0,Bool.and_eq_true,aaB,aaS,abD]
 constructor
 ·rintro⟨q,hl⟩
  refine List.ext_getElem? λi=>?_
  by_cases hi:i<x.length
  ·exact aaX (q i (List.mem_range.mpr 'b'))
  ·rw[List.getElem?_eq_none 'b',List.getElem?_eq_none 'b']
 ·rintro rfl
  exact⟨λi _=>aaq rfl,O⟩
theorem qk{F:K->Value->Prop}:∀{ks:List K}{vs:List Value},Paired F ks vs->∀(j:Nat) v,vs[j]?=some v->∃k,ks[j]?=some k/\F k v
 |_,_,.nil,j,v,h=>by simp at h
 |_,_,.cons a r,0,v,h=>by cases h;exact⟨_,rfl,a⟩
 |_,_,.cons a r,j+1,v,h=>by
  rw[List.getElem?_cons_succ]at h
  obtain⟨k,e,q⟩:=qk r j v h
  exact⟨k,by rw[List.getElem?_cons_succ];exact e,q⟩
theorem Qu{x y:List K}{a b:Addr}(hu:A.units+(V.zF+1)<cLine)(hx:TupIs V s.heap x a)(hy:TupIs V s.heap y b):SeqAt.EqAt A s (.ref a) (.ref b) (decide (x=y)):=by
 by_cases e:a=b
 ·subst e
  rw[aaq (hx.inj hy)]
  exact aby _
 ·obtain⟨o,items,n,h1,h2,h3,h4⟩:=hx
  obtain⟨o',items',n',h1',h2',h3',Zd⟩:=hy
  have l1:x.length=items.size:=by rw[Paired.length h4,aaE]
  have l2:y.length=items'.size:=by rw[Paired.length Zd,aaE]
  refine abu e ?_
  rw[←Eo,l1,l2]
  refine SeqAt.RcAt.tuples ⟨o,h1,h2,n,h3⟩ ⟨o',h1',h2',n',h3'⟩ 'b' λj j1 j2=>?_
  obtain⟨k,ek,hk⟩:=qk h4 j items[j] (by simp[j1])
  obtain⟨k',ek',hk'⟩:=qk Zd j items'[j] (by simp[j2])
  rw[ek,ek',show decide (some k=some k')=decide (k=k') by simp]
  exact V.eq (by show A.units+1+V.zF<cLine;omega) hk hk'
theorem Ig{ks:List K}{a:Addr}{Q:Bool->Shared->Prop}{n:Nat}(hn:V.zF+1<=n)(hk:TupIs V s.heap ks a)(h:Q true s):wpAny (model prog w) A (eqIsQuiet n (.ref a)) Q E s:=by
 have hT:=hk.ty
 obtain⟨o,items,m,ho,_,hd,hi⟩:=hk
 obtain⟨n,rfl⟩:∃n',n=n'+1:=⟨n-1,by omega⟩
 unfold eqIsQuiet
 refine aaf (wpAny_specialOf hT F.slot_tuple_eq.lookup ?_);show wpAny _ _ (isInstance (.ref a) (.type "tuple") >>= _) _ _ s
 refine aaf (wpAny_isInstance hT isSubtype_tuple_tuple ?_)
 simp only[Bool.not_true,abj,if_false]
 refine aaf (wpAny_seqItems ho hd (aaf ?_))
 show wpAny _ _ (forIn items _ _) _ _ s
 rw[←Array.forIn_toList]
 refine wpAny_forIn_list _ (λrest r s'=>r.1=none/\s'=s/\∃l,Paired (λk v=>V.is s.heap k v) l rest) _ ?_ ?_ _ _ ⟨rfl,rfl,ks,hi⟩
 ·rintro v rest r s' ⟨hr,rfl,l,hl⟩
  cases hl with
  |@cons k _ ks' _ h1 hl' =>
   refine aaf (V.quiet 'b' h1 ?_)
   simp only[Bool.not_true,abj,if_false]
   exact aar ⟨rfl,rfl,ks',hl'⟩
 ·rintro⟨r1,r2⟩ s' ⟨hr,rfl,_⟩
  simp only at hr
  subst hr
  exact aar h
end
abbrev Lf:=Option Key
def Cy:Lf->Value->Prop
 |none,v=>v=.none
 |some k,v=>uo k v=true
section
variable{prog:Program}{w:World}{A:Around}{E:Value->Shared->Prop}{s:Shared}
theorem Ih{Q:Int->Shared->Prop}(hu:A.units<cLine)(h:Q 4238894112 {s with toks:=s.toks+1}):wpAny (model prog w) A (pyHash .none) Q E s:=by
 have hT:s.TypeIs .none "NoneType":=rfl
 unfold pyHash
 first|unfold pyHashByItsType|skip
 first|refine aaf (wpAny_cRoomFor_or (.inr hu) ?_)|skip
 refine aaf (wpAny_specialOf hT F.slot_NoneType_hash.lookup ?_)
 show wpAny _ _ (if (some (Value.builtin "NoneType.__hash__")==some Value.none)=true then _ else _) Q E s
 rw[aag (by rw[beq_builtin_none];exact aaw)];refine aaf (wpAny_specialOf hT F.slot_NoneType_hash.lookup ?_)
 show wpAny _ _ (callSpecialIfBoundUnlessNone? .none "__hash__" _ >>= _) Q E s
 refine aaf (wpAny_callSpecialIfBoundUnlessNone?_slot hT F.slot_NoneType_hash (wpAny_call_entry F.slot_NoneType_hash hT F.entry_NoneType_hash ?_ (F.args_NoneType_hash_1 _)))
 show wpAny _ _ (retInt 4238894112) _ _ _
 refine wpAny_ret_mkInt ?_
 show wpAny _ _ (if (decide (-(2:Int) ^ 63<=4238894112)&&decide ((4238894112:Int)<2 ^ 63))=true then _ else _) Q E _
 rw[aal 'c']
 exact aar h
theorem jE{k:Key}{v:Value}(h:uo k v=true):(∃i t,k=.inl i/\v=.int i t)\/∃z t,k=.inr z/\v=.str z t:=ck h
theorem Lv(prog:Program)(w:World){v:Value}{x y:Lf}(hx:Cy x v)(hy:Cy y v):x=y:=by
 cases x with
 |none =>
  cases y with
  |none=>rfl
  |some k=>rcases jE hy with ⟨i,t,rfl,e⟩|⟨z,t,rfl,e⟩<;>(rw[show v=.none from hx]at e;cases e)
 |some k =>
  cases y with
  |none=>rcases jE hx with ⟨i,t,rfl,e⟩|⟨z,t,rfl,e⟩<;>(rw[show v=.none from hy]at e;cases e)
  |some k'=>rw[(kD prog w).inj v k k' hx hy]
theorem O6{x y:Lf}{u v:Value}(hx:Cy x u)(hy:Cy y v):SeqAt.EqAt A s u v (decide (x=y)):=by
 cases x with
 |none =>
  have hx:u=.none:=hx
  subst hx
  cases y with
  |none =>
   have hy:v=.none:=hy
   subst hy
   rw[aaq rfl];exact aby _
  |some k =>
   rw[aas (by simp)]
   rcases jE hy with ⟨i,t,rfl,rfl⟩|⟨z,t,rfl,rfl⟩
   ·exact SeqAt.EqAt.none_int _ _
   ·exact SeqAt.EqAt.none_str _ _
 |some k =>
  cases y with
  |none =>
   have hy:v=.none:=hy
   subst hy
   rw[aas (by simp)]
   rcases jE hx with ⟨i,t,rfl,rfl⟩|⟨z,t,rfl,rfl⟩
   ·exact SeqAt.EqAt.int_none _ _
   ·exact SeqAt.EqAt.str_none _ _
  |some k' =>
   rw[show decide (some k=some k')=decide (k=k') by simp]
   rcases jE hx with ⟨i,t,rfl,rfl⟩|⟨z,t,rfl,rfl⟩<;>rcases jE hy with ⟨i',t',rfl,rfl⟩|⟨z',t',rfl,rfl⟩
   ·rw[Kc];exact SeqAt.EqAt.int_int _ _ _ _
   ·rw[Ke];exact SeqAt.EqAt.int_str _ _ _ _
   ·rw[Kf];exact SeqAt.EqAt.str_int _ _ _ _
   ·rw[Kd,show decide (z=z')=(z==z') by rw[aa0,aaS,abD]];exact SeqAt.EqAt.str_str _ _ _ _
theorem Ep{x:Lf}{v:Value}(h:Cy x v):carriedByValue v=true:=by
 cases x with
 |none=>rw[show v=.none from h];rfl
 |some k=>rcases jE h with ⟨i,t,rfl,rfl⟩|⟨z,t,rfl,rfl⟩<;>rfl
end
def Lw(w:World):Lf->Int
 |none=>4238894112
 |some k=>R8 w k
def Cz(prog:Program)(w:World):zE prog w Lf where
 is:=λ_ k v=>Cy k v
 hash:=Lw w
 draws:=λ_=>1
 zF:=0
 inj:=λhx hy=>Lv prog w hx hy
 keeps:=λh _ _ _=>h
 pyHash:=λ{A E s k v Q} hu h q=>by
  cases k with
  |none =>
   have h:v=.none:=h
   subst h
   exact Ih hu q
  |some k=>exact(kD prog w).pyHash h q
 eq:=λ_ hx hy=>O6 hx hy
 quiet:=λ{A E s k v Q n} _ h q=>by rw[eqIsQuiet_byValue n (Ep h)];exact aar q
section
variable{prog:Program}{w:World}{K:Type}[DecidableEq K](V:zE prog w K)
def Qv(h:Heap):Lf⊕List K->Value->Prop
 | .inl k,v=>Cy k v
 | .inr ks,v=>∃a,v=.ref a/\TupIs V h ks a
def Qw:Lf⊕List K->Int
 | .inl k=>Lw w k
 | .inr ks=>Ar V ks
def NR:Lf⊕List K->Nat
 | .inl _=>1
 | .inr ks=>(ks.map V.draws).sum+1
variable{V}
theorem Lx{k:Lf}{a:Addr}(h:Cy k (.ref a)):False:=by
 cases k with
 |none=>cases(show Value.ref a=.none from h)
 |some k=>rcases jE h with ⟨i,t,rfl,e⟩|⟨z,t,rfl,e⟩<;>cases e
theorem Tp{A:Around}{s:Shared}{x y:Lf⊕List K}{u v:Value}(hu:A.units+(V.zF+1)<cLine)(hx:Qv V s.heap x u)(hy:Qv V s.heap y v):SeqAt.EqAt A s u v (decide (x=y)):=by
 cases x with
 |inl k =>
  cases y with
  |inl k' =>
   rw[show decide ((Sum.inl k:Lf⊕List K)=.inl k')=decide (k=k') by simp]
   exact O6 hx hy
  |inr ks =>
   obtain⟨a,rfl,o,items,n,h1,h2,h3,h4⟩:=hy
   rw[aas (λq=>nomatch q)]
   cases k with
   |none =>
    have hx:u=.none:=hx
    subst hx
    exact SeqAt.EqAt.none_tuple ⟨o,h1,h2,n,h3⟩ 'b'
   |some k =>
    rcases jE hx with ⟨i,t,rfl,rfl⟩|⟨z,t,rfl,rfl⟩
    ·exact SeqAt.EqAt.int_tuple _ _ ⟨o,h1,h2,n,h3⟩ 'b'
    ·exact SeqAt.EqAt.str_tuple _ _ ⟨o,h1,h2,n,h3⟩ 'b'
 |inr ks =>
  obtain⟨a,rfl,hxa⟩:=hx
  cases y with
  |inl k' =>
   obtain⟨o,items,n,h1,h2,h3,h4⟩:=hxa
   rw[aas (λq=>nomatch q)]
   cases k' with
   |none =>
    have hy:v=.none:=hy
    subst hy
    exact SeqAt.EqAt.tuple_none ⟨o,h1,h2,n,h3⟩ 'b'
   |some k =>
    rcases jE hy with ⟨i,t,rfl,rfl⟩|⟨z,t,rfl,rfl⟩
    ·exact SeqAt.EqAt.tuple_int _ _ ⟨o,h1,h2,n,h3⟩ 'b'
    ·exact SeqAt.EqAt.tuple_str _ _ ⟨o,h1,h2,n,h3⟩ 'b'
  |inr ks' =>
   obtain⟨b,rfl,Ws⟩:=hy
   rw[show decide ((Sum.inr ks:Lf⊕List K)=.inr ks')=decide (ks=ks') by simp]
   exact Qu hu hxa Ws
def stepK(V:zE prog w K):zE prog w (Lf⊕List K) where
 is:=Qv V
 hash:=Qw V
 draws:=NR V
 zF:=V.zF+1
 inj:=λ{h v x y} hx hy=>by
  cases x with
  |inl k =>
   cases y with
   |inl k'=>rw[Lv prog w hx hy]
   |inr ks=>obtain⟨a,rfl,_⟩:=hy;exact(Lx hx).elim
  |inr ks =>
   obtain⟨a,rfl,hxa⟩:=hx
   cases y with
   |inl k'=>exact(Lx hy).elim
   |inr ks'=>obtain⟨b,e,Ws⟩:=hy;cases e;rw[hxa.inj Ws]
 keeps:=λ{h h' k v d o es ep} hx ho hd hs=>by
  cases k with
  |inl k=>exact hx
  |inr ks=>obtain⟨a,rfl,hxa⟩:=hx;exact⟨a,rfl,hxa.keeps ho hd hs⟩
 pyHash:=λ{A E s k v Q} hu hx q=>by
  cases k with
  |inl k=>exact(Cz prog w).pyHash (by show A.units+0<cLine;omega) hx q
  |inr ks=>obtain⟨a,rfl,hxa⟩:=hx;exact Lu hu hxa q
 eq:=λhu hx hy=>Tp hu hx hy
 quiet:=λ{A E s k v Q n} hn hx q=>by
  cases k with
  |inl k=>exact(Cz prog w).quiet (aaY _) hx q
  |inr ks=>obtain⟨a,rfl,hxa⟩:=hx;exact Ig hn hxa q
end
def Ze:Lf->V
 |none=>.non
 |some k=>kV k
theorem uy{α β γ:Type}{F:α->β->Prop}{G:β->γ->Prop}:∀{xs:List α}{ys:List β}{zs:List γ},Paired F xs ys->Paired G ys zs->Paired (λa c=>∃b,F a b/\G b c) xs zs
 |_,_,_,.nil,.nil=>.nil
 |_,_,_,.cons a r,.cons b q=>.cons ⟨_,a,b⟩ (uy r q)
section
variable{P:Program}{w:World}{K:Type}[DecidableEq K]
structure MR(F:W.Frag)(Z:zE P w K) where
 on:Hp->K->V->Prop
 ok:∀{X:Cx}{pins:List 'g'}{σ:St}{H:Hp}{s:Shared}{k:K}{v:V}{u:Value},X.K=F->Inv X pins σ H s->RelV v u->on H k v->Z.is s.heap k u
 keep:∀{H H':Hp}{k:K}{v:V},(∀b xs,bR F H b xs->bR F H' b xs)->on H k v->on H' k v
def RX{F:W.Frag}{Z:zE P w K}(Y:MR F Z)(H:Hp)(ks:List K)(b:Addr):Prop:=∃vs,bR F H b vs/\Paired (λk v=>Y.on H k v) ks vs
variable{F:W.Frag}{Z:zE P w K}{Y:MR F Z}{H H':Hp}{ks:List K}{b:Addr}
theorem RX.is{X:Cx}{pins:List 'g'}{σ:St}{s:Shared}(hF:X.K=F)(I:Inv X pins σ H s)(e:RX Y H ks b):TupIs Z s.heap ks b:=by
 obtain⟨vs,e,r⟩:=e
 obtain⟨its,rv,⟨o,h1,h2,n,h3⟩,_⟩:=I.tuple (by rw[hF];exact e)
 exact⟨o,its.toArray,n,h1,h2,h3,by simpa using Paired.Kg (uy r rv) (λk u ⟨v,a,c⟩=>Y.ok hF I c a)⟩
theorem RX.keep(t:∀b xs,bR F H b xs->bR F H' b xs)(e:RX Y H ks b):RX Y H' ks b:=by
 obtain⟨vs,e,r⟩:=e
 exact⟨vs,t _ _ e,Paired.Kg r λk v q=>Y.keep t q⟩
end
def O7(P:Program)(w:World)(F:W.Frag):MR F (Cz P w) where
 on:=λ_ k v=>v=Ze k
 ok:=λ{X pins σ H s k v u} _ _ r e=>by
  subst e
  cases k with
  |none=>cases r;rfl
  |some k=>exact To (P:=P) (w:=w) r
 keep:=λ_ e=>e
section
variable{P:Program}{w:World}{K:Type}[DecidableEq K]
def Wt{F:W.Frag}{Z:zE P w K}(Y:MR F Z)(H:Hp):Lf⊕List K->V->Prop
 | .inl k,v=>v=Ze k
 | .inr ks,v=>∃b,v=.ref b/\RX Y H ks b
def Ly{F:W.Frag}{Z:zE P w K}(Y:MR F Z):MR F (stepK Z) where
 on:=Wt Y
 ok:=λ{X pins σ H s k v u} hF I r e=>by
  cases k with
  |inl k=>exact(O7 P w F).ok hF I r e
  |inr ks =>
   obtain⟨b,rfl,e⟩:=e
   cases r
   exact⟨b,O,e.is hF I⟩
 keep:=λ{H H' k v} t e=>by
  cases k with
  |inl k=>exact e
  |inr ks=>obtain⟨b,rfl,e⟩:=e;exact⟨b,rfl,e.keep t⟩
abbrev N3(K:Type):=List K×Addr×V
variable{F:W.Frag}{Z:zE P w K}{Y:MR F Z}{hl:Z.zF+1<=8}{H H':Hp}{h:Heap}{a b:Addr}{kvs:List (N3 K)}
end
section
variable{X:Cx}{K:Type}[DecidableEq K]{F:W.Frag}{Z:zE X.prog X.w K}{Y:MR F Z}{hl:Z.zF+1<=8}{pins:List 'g'}{σ:St}{H:Hp}{s:Shared}{a b:Addr}{kvs:List (N3 K)}{k:List K}{v:V}{r:Value}{A:Around}{E:Value->Shared->Prop}
variable{o i value kx:Expr}{pos pos':Pos}{td ty tv:TE}
end
section
variable{X:Cx}{K:Type}[DecidableEq K]{F:W.Frag}{Z:zE X.prog X.w K}
end
abbrev ZM(P:Program)(w:World):=stepK (Cz P w)
abbrev YM(P:Program)(w:World)(F:W.Frag):MR F (ZM P w):=Ly (O7 P w F)
theorem hn0{A:Around}{P:Program}{w:World}(h:A.units+64<cLine):A.units+((Cz P w).zF+1)<cLine:=by show A.units+1<cLine;omega
theorem hn2{A:Around}{P:Program}{w:World}(h:A.units+64<cLine):A.units+1+((ZM P w).zF+1)<cLine:=by show A.units+1+2<cLine;omega
section
variable{P:Program}{w:World}{F:W.Frag}{H:Hp}
end
section
variable{X:Cx}{P:Program}{w:World}{K:Type}[DecidableEq K]{F:W.Frag}{Z:zE P w K}{o i value kx:Expr}{pos pos':Pos}{td ty tv tk:TE}
end
section
variable{X:Cx}
end
section
variable{X:Cx}{K:Type}[DecidableEq K]{F:W.Frag}{Z:zE X.prog X.w K}
end
section
variable{prog:Program}{w:World}{A:Around}{E:Value->Shared->Prop}{s:Shared}
end
section
variable{X:Cx}{e:Expr}
end
section
variable{prog:Program}{w:World}{A:Around}{E:Value->Shared->Prop}{s:Shared}{d it i ep:Nat}{od:Obj}{es:Array DictEntry}
end
section
variable{P:Program}{w:World}{K:Type}[DecidableEq K]
variable{Z:zE P w K}{hl:Z.zF+1<=8}
end
section
variable{X:Cx}{K:Type}[DecidableEq K]{F:W.Frag}{Z:zE X.prog X.w K}
end
end L2
set_option synthInstance.maxSize 100000
set_option synthInstance.maxHeartbeats 400000
namespace L2
open PySem PySem.Spec PyProof.Rows
section
variable{X:Cx}{K:Type}[DecidableEq K]{F:W.Frag}{Z:zE X.prog X.w K}
end
abbrev ZP(P:Program)(w:World):=stepK (stepK (ZM P w))
abbrev YP(P:Program)(w:World)(F:W.Frag):MR F (ZP P w):=Ly (Ly (YM P w F))
theorem hp1{A:Around}{P:Program}{w:World}(h:A.units+64<cLine):A.units+((ZP P w).zF+1)<cLine:=by show A.units+4<cLine;omega
theorem hp2{A:Around}{P:Program}{w:World}(h:A.units+64<cLine):A.units+1+((ZP P w).zF+1)<cLine:=by show A.units+1+4<cLine;omega
section
variable{P:Program}{w:World}{F:W.Frag}{H:Hp}
end
section
variable{prog:Program}{w:World}{A:Around}{E:Value->Shared->Prop}{s:Shared}{d ep:Nat}{od:Obj}{es:Array DictEntry}
end
section
variable{X:Cx}{P:Program}{w:World}{K:Type}[DecidableEq K]{F:W.Frag}{Z:zE P w K}
end
section
variable{prog:Program}{w:World}{A:Around}{E:Value->Shared->Prop}{s:Shared}{d ep:Nat}{od:Obj}{es:Array DictEntry}
end
section
variable{prog:Program}{w:World}{A:Around}{E:Value->Shared->Prop}{s:Shared}{d ep:Nat}{od:Obj}{es:Array DictEntry}
end
section
variable{X:Cx}{P:Program}{w:World}{K:Type}[DecidableEq K]{F:W.Frag}{Z:zE P w K}
end
def Ii(ta:TA):TE:=λσ H Q=>ta σ H λvs H1=>∃j:Int,vs=[.int j]/\0<=j/\j<=100000/\∀l,H1 l=none->Q (.ref l) (upd H1 l (.lst (HR 0 j.toNat)))
theorem uz{X:Cx}{b:Expr}{p1 p2 pos1 pos2:Pos}{ta:TA}(hc:X.calm=true)(hg:Gl X "list")(hm:X.mg "list"=none)(hg2:Gl X "range")(hm2:X.mg "range"=none)(ha:PA X [b] ta)(h1:starEach [.Call (.Name "range" p2) [b] [] pos2] X.env=[(false,eval (.Call (.Name "range" p2) [b] [] pos2) X.env)]:=by rfl)(hs2:starEach [b] X.env=[(false,eval b X.env)]:=by rfl):PE X (.Call (.Name "list" p1) [.Call (.Name "range" p2) [b] [] pos2] [] pos1) (Ii ta):=by
 intro pins s σ H Q I h
 refine abb (jz I hg hm boot_list ?_ 'c' 'c')
 refine aaQ ?_ h1 rfl
 rw[h1]
 show wpAny _ _ (spliced [(false,eval (.Call (.Name "range" p2) [b] [] pos2) X.env)]) _ _ s
 refine Calls.spliced_cons ?_
 refine Call_ (jz I hg2 hm2 boot_range (aaQ (bY (ha pos2 pins s σ H _ I h) λus s1 ⟨vs,H1,I1,r1,q1⟩=>?_) hs2 rfl))
 obtain⟨j,rfl,b1,b2,q⟩:=q1
 obtain⟨u1,rfl,rr⟩:=vals1 r1
 obtain⟨t2,e⟩:=(show ∃t,u1=Value.int j t from rr)
 subst e
 refine call_range_1 ?_
 refine Calls.spliced_nil ?_
 have hn:Builtin.Range.rangeSize 0 j 1=(j.toNat:Nat):=by rw[rangeSize_one];split<;>omega
 refine call_list_range (n:=j.toNat) (I.ok.hd hc) (IsRange.new ..) (small_one 'c' 'c' 'b' 'b') hn (aay (show j.toNat<=100000 by omega) 'c') λh' tk acc' c' hk hS hacc=>?_
 have hv:=HS hacc
 have hle:s1.heap.objs.size<=(s1.heap.push {cls:=.type "range",data:=.fields #[.int 0 s1.toks,.int j t2,.int 1 (s1.toks+1)]}).objs.size:=by rw[aa5];exact Nat.le_succ _
 refine⟨.ref _,_,I1.laid (t':=tk) (o:=.lst (HR 0 j.toNat)) (λb u e=>hk b u (aai _ e)) hle ⟨?_,acc'.toList,c',hv,?_⟩,rfl,q _ (I1.hok.fresh hle)⟩
 ·unfold HR
  rw[aak,abq]
  exact aay (show j.toNat<=100000 by omega) 'c'
 ·rw[hS]
theorem Wu{x:Str}:[x].Nodup:=.cons (λy hy=>nomatch hy) .nil
section
variable{X:Cx}
theorem kC(i:Nat){x:Str}{pos:Pos}(hN:X.N.Nodup)(hi:X.N[i]?=some x:=by rfl)(hx:Loc X.env.scope x:=by first|exact .inl rfl|exact .inr rfl)(hf:X.fn x=true\/X.env.scope.names.lookup x=some .local:=by first|exact .inl rfl|exact .inr rfl|assumption):PG X (.Name x pos) (cT i):=M4 hN hi hx hf
theorem fB(i:Nat){x:Str}{e:Expr}{te:TE}{pos pos':Pos}(hN:X.N.Nodup)(he:PE X e te)(hi:X.N[i]?=some x:=by rfl)(hx:Loc X.env.scope x:=by first|exact .inl rfl|exact .inr rfl)(hs:swapsWith e (some (.Name x pos')) pos.line X.env=pure false:=by rfl)(hf:X.fn x=true\/X.env.scope.names.lookup x=some .local:=by first|exact .inl rfl|exact .inr rfl|assumption):PS X (.Assign [.Name x pos'] e pos) (Kn te (cT i)):=Pw hN hi hx he hs hf
theorem CA{XN:List Str}{RN:Scope}{N:List Str}{nv:Nat}{js:List Nat}{scope:Scope}(kind:scope.kind=.function:=by rfl)(cell:∀y∈scope.names,y.2≠.cell:=by decide +kernel)(loc:∀y∈scope.names,y.2=.local->scope.names.lookup y.1=some .local:=by decide +kernel)(free:∀y∈scope.names,y.2=.free->(RN.names.lookup y.1=some .cell\/RN.names.lookup y.1=some .free):=by decide +kernel)(nd:N.Nodup:=by decide +kernel)(len:N.length=nv+js.length:=by rfl)(pl:js.map (λj=>XN[j]?)=(N.drop nv).map some:=by rfl)(fr:∀x∈N.drop nv,scope.names.lookup x=some .free:=by decide +kernel):aT XN RN N nv js scope:=⟨kind,cell,loc,free,nd,len,pl,fr⟩
theorem gm{id:String}{r:List V->Hp->VK->Prop}{x:Str}{e:Expr}{es:List Expr}{t:TA}{p pos:Pos}(hc:fM X (.builtin id) r)(hm:X.mg x=none)(ha:PA X (e::es) t)(hg:Gl X x:=by rfl)(hv:bootBuiltins x=some (.builtin id):=by decide +kernel)(hn:x ≠ "__name__":=by decide)(hdb:(x==("__debug__":Str))=false:=by decide)(he:starEach (e::es) X.env=(false,eval e X.env)::starEach es X.env:=by rfl)(hpl:(backTo pos (starEach es X.env)).any (·.1)=false:=by rfl):PE X (.Call (.Name x p) (e::es) [] pos) (UM r t):=KG hc hg hm hv ha hn hdb he hpl
theorem Tq{T:String}{r:List V->Hp->VK->Prop}{x:Str}{e:Expr}{es:List Expr}{t:TA}{p pos:Pos}(hc:fM X (.type T) r)(hm:X.mg x=none)(ha:PA X (e::es) t)(hg:Gl X x:=by rfl)(hv:bootBuiltins x=some (.type T):=by decide +kernel)(hn:x ≠ "__name__":=by decide)(hdb:(x==("__debug__":Str))=false:=by decide)(he:starEach (e::es) X.env=(false,eval e X.env)::starEach es X.env:=by rfl)(hpl:(backTo pos (starEach es X.env)).any (·.1)=false:=by rfl):PE X (.Call (.Name x p) (e::es) [] pos) (UM r t):=HL hc hg hm hv ha hn hdb he hpl
theorem J8(n:String){x:Str}{pos:Pos}(hm:X.mg x=none)(hg:Gl X x:=by rfl)(hv:bootBuiltins x=some (.type n):=by decide +kernel)(hn:x ≠ "__name__":=by decide)(hd:(x==("__debug__":Str))=false:=by decide):PE X (.Name x pos) (tC (.ty n)):=P4 n hg hm hv hn hd
theorem fh{k kk:Nat}{f:Addr}{fd:FuncData}{ps:List Str}{sp:Sp}{x:Str}{e:Expr}{es:List Expr}{t:TA}{p pos:Pos}(F:bx X.prog X.w X.K X.mg X.base fu k f fd ps sp)(hr:cM kk X.A)(hm:X.mg x=some (.ref f))(hk:W.keepIn X.K (.ref f)=true)(hb:Binds X.K fd ps [])(ha:PA X (e::es) t)(hkk:k<=kk:=by decide)(hg:Gl X x:=by rfl)(hdb:(x==("__debug__":Str))=false:=by decide)(he:starEach (e::es) X.env=(false,eval e X.env)::starEach es X.env:=by rfl)(hpl:(backTo pos (starEach es X.env)).any (·.1)=false:=by rfl):PE X (.Call (.Name x p) (e::es) [] pos) (GO sp [] E0 t):=vS F (hr.mono hkk) hg hm hk hb .nil Cd ha hdb he hpl
theorem uA(K:W.Frag){a b:Expr}{ta tb:TE}{pos:Pos}(ha:PE X a ta)(hb:PE X b tb)(hs:Ad b:=by exact λ_ _=>rfl)(h:X.K=K:=by rfl):PE X (.Subscript a b pos) (MO (PL K) ta tb):=GS (Nr K h) ha hb hs
theorem mj(K:W.Frag){a b:Expr}{ta tb:TE}{pos:Pos}(ha:PE X a ta)(hb:PE X b tb)(hs:Ad b:=by exact λ_ _=>rfl)(h:X.K=K:=by rfl):PE X (.Subscript a b pos) (MO (PK K) ta tb):=GS (KS K h) ha hb hs
theorem eN{op:CmpOp}{r:R2}{a b:Expr}{ta tb:TE}{pos:Pos}(ho:nX X (compareOp op) r)(ha:PE X a ta)(hb:PE X b tb)(h:op≠.In:=by decide)(h2:op≠.NotIn:=by decide):PT X (.Compare a [op] [b] pos) (OV (MO r ta tb)):=fS ho ha hb (Ks b h h2)
theorem BX{op:CmpOp}{r:R2}{a b:Expr}{ta tb:TE}{pos:Pos}(ho:nX X (compareOp op) r)(ha:PE X a ta)(hb:PE X b tb)(h:op≠.In:=by decide)(h2:op≠.NotIn:=by decide):PE X (.Compare a [op] [b] pos) (MO r ta tb):=Nb ho ha hb (Ks b h h2)
end
abbrev FO(n q:Str)(s:Stmt)(d oc:Value)(od:Option Addr)(kV dc pm:Value)(an:Option Addr)(cd ct:Value)(sl:Array (Option Value)):Option Obj:=some ⟨oc,od,.func (W.fnOf n q (cY s) (bZ s) (au s) d kV dc pm an cd ct),sl⟩
abbrev FN(n q:Str)(s:Stmt)(d kV dc pm:Value)(an:Option Addr)(cd ct:Value):FuncData:=W.fnOf n q (cY s) (bZ s) (au s) d kV dc pm an cd ct
abbrev RF(a:Addr):Option (Option Value):=some (some (.ref a))
theorem eY.uZ{K:W.Frag}{x qual:Str}{st:Stmt}{f:Addr}{fd:FuncData}{ps:List Str}(F:eY K x qual st f fd)(hp:ps.length=1:=by rfl)(h:∀(kV doc pm:Value)(an:Option Addr)(cdv ct a0:Value),bindArgs (W.fnOf x qual (cY st) (bZ st) (au st) .none kV doc pm an cdv ct) ⟨[a0],[]⟩=pure (ps.zip [a0]):=by intros;rfl):Binds K fd ps [] :=
 F.binds λkV doc pm an cdv ct us hl=>by
  rw[hp]at hl
  match us,hl with
  |[a0],_=>exact h kV doc pm an cdv ct a0
theorem eY.jF{K:W.Frag}{x qual:Str}{st:Stmt}{f:Addr}{fd:FuncData}{ps:List Str}(F:eY K x qual st f fd)(hp:ps.length=2:=by rfl)(h:∀(kV doc pm:Value)(an:Option Addr)(cdv ct a0 a1:Value),bindArgs (W.fnOf x qual (cY st) (bZ st) (au st) .none kV doc pm an cdv ct) ⟨[a0,a1],[]⟩=pure (ps.zip [a0,a1]):=by intros;rfl):Binds K fd ps [] :=
 F.binds λkV doc pm an cdv ct us hl=>by
  rw[hp]at hl
  match us,hl with
  |[a0,a1],_=>exact h kV doc pm an cdv ct a0 a1
theorem eY.qW{K:W.Frag}{x qual:Str}{st:Stmt}{f:Addr}{fd:FuncData}{ps:List Str}(F:eY K x qual st f fd)(hp:ps.length=3:=by rfl)(h:∀(kV doc pm:Value)(an:Option Addr)(cdv ct a0 a1 a2:Value),bindArgs (W.fnOf x qual (cY st) (bZ st) (au st) .none kV doc pm an cdv ct) ⟨[a0,a1,a2],[]⟩=pure (ps.zip [a0,a1,a2]):=by intros;rfl):Binds K fd ps [] :=
 F.binds λkV doc pm an cdv ct us hl=>by
  rw[hp]at hl
  match us,hl with
  |[a0,a1,a2],_=>exact h kV doc pm an cdv ct a0 a1 a2
theorem eY.Tr{K:W.Frag}{x qual:Str}{st:Stmt}{f:Addr}{fd:FuncData}{ps:List Str}(F:eY K x qual st f fd)(hp:ps.length=4:=by rfl)(h:∀(kV doc pm:Value)(an:Option Addr)(cdv ct a0 a1 a2 a3:Value),bindArgs (W.fnOf x qual (cY st) (bZ st) (au st) .none kV doc pm an cdv ct) ⟨[a0,a1,a2,a3],[]⟩=pure (ps.zip [a0,a1,a2,a3]):=by intros;rfl):Binds K fd ps [] :=
 F.binds λkV doc pm an cdv ct us hl=>by
  rw[hp]at hl
  match us,hl with
  |[a0,a1,a2,a3],_=>exact h kV doc pm an cdv ct a0 a1 a2 a3
def FE(K:W.Frag)(x q:Str)(st:Stmt)(f:Addr):Prop:=∃fd,eY K x q st f fd
structure FQ(K:W.Frag)(x:Str)(st:Stmt)(f:Addr):Prop where
 a:W.nsIn K mainGlobals x=RF f
 e:FE K x x st f
structure FV(K:W.Frag)(C:Addr)(x q:Str)(st:Stmt)(f:Addr):Prop where
 a:W.findIn K (.ref C) x=RF f
 i:W.isFn K (.ref f)=true
 e:FE K x q st f
theorem FE.of{K:W.Frag}{x q:Str}{st:Stmt}{f:Addr}{oc:Value}{od an:Option Addr}{sl:Array (Option Value)}{kV dc pm cd ct:Value}(l:K.lookup f=FO x q st .none oc od kV dc pm an cd ct sl)(c:W.codeIn K cd q=true)(k:W.keepIn K (.ref f)=true):FE K x q st f:=⟨_,KN l c k⟩
theorem FQ.of{K:W.Frag}{x:Str}{st:Stmt}{f:Addr}{oc:Value}{od an:Option Addr}{sl:Array (Option Value)}{kV dc pm cd ct:Value}(a:W.nsIn K mainGlobals x=RF f)(l:K.lookup f=FO x x st .none oc od kV dc pm an cd ct sl)(c:W.codeIn K cd x=true)(k:W.keepIn K (.ref f)=true):FQ K x st f:=⟨a,.of l c k⟩
theorem FV.of{K:W.Frag}{C:Addr}{x q:Str}{st:Stmt}{f:Addr}{oc:Value}{od an:Option Addr}{sl:Array (Option Value)}{kV dc pm cd ct:Value}(a:W.findIn K (.ref C) x=RF f)(i:W.isFn K (.ref f)=true)(l:K.lookup f=FO x q st .none oc od kV dc pm an cd ct sl)(c:W.codeIn K cd q=true)(k:W.keepIn K (.ref f)=true):FV K C x q st f:=⟨a,i,.of l c k⟩
end L2
namespace My
open PySem L2
def top(i:Nat):Stmt:=PySem.Challenge.pw_dialecthall_k87_trees_refused.main.body.getD i (.Pass ⟨0,0,0,0⟩)
abbrev iF:Stmt:=top 18
abbrev cZ:Stmt:=top 23
abbrev bh:Stmt:=inClass (top 24) 0
abbrev iG:Stmt:=inClass (top 24) 1
abbrev kK:Stmt:=top 25
abbrev gT:Stmt:=inClass (top 33) 0
abbrev gM:Stmt:=inClass (top 13) 0
abbrev jf:Stmt:=inClass (top 12) 0
abbrev fF:Stmt:=inClass (top 11) 0
abbrev jg:Stmt:=inClass (top 10) 0
abbrev ql:Stmt:=top 17
abbrev dM:Stmt:=top 19
abbrev tK:Stmt:=top 20
abbrev eZ:Stmt:=top 27
abbrev gU:Stmt:=top 28
abbrev jG:Stmt:=top 29
abbrev jH:Stmt:=top 30
abbrev gW:Stmt:=top 31
abbrev kL:Stmt:=top 32
abbrev mG:Stmt:=inClass (top 33) 1
abbrev kM:Stmt:=top 35
abbrev Er:Stmt:=top 36
abbrev wL:Stmt:=top 37
abbrev qm:Stmt:=top 38
abbrev kN:Stmt:=top 39
abbrev jI:Stmt:=top 43
abbrev fk:Stmt:=top 44
abbrev kO:Stmt:=top 45
abbrev eO:Stmt:=top 46
abbrev gH:Stmt:=top 47
abbrev n5:Stmt:=top 48
abbrev iA:Stmt:=top 49
abbrev dN:Stmt:=top 50
abbrev iH:Stmt:=top 51
abbrev vU:Stmt:=top 52
abbrev iI:Stmt:=top 54
abbrev kP:Stmt:=top 55
abbrev jJ:Stmt:=top 56
abbrev mH:Stmt:=top 57
abbrev kQ:Stmt:=top 58
abbrev mJ:Stmt:=top 59
abbrev iB:Stmt:=top 60
abbrev qo:Stmt:=top 63
abbrev kR:Stmt:=top 64
abbrev mK:Stmt:=top 65
abbrev jh:Stmt:=top 66
abbrev kT:Stmt:=top 67
abbrev dZ:Stmt:=top 68
abbrev qp:Stmt:=top 69
abbrev oW:Stmt:=top 70
theorem aq{H:Hp}{l:Addr}{o:HO}(h:H l=none):aC H (upd H l o):=λb u e=>by rw[aB (aU e h)];exact e
theorem aE{H H2:Hp}{l:Addr}{o:HO}(h:H l=none)(s:aC H H2):aC H (upd H2 l o):=λb u e=>by rw[aB (aU e h)];exact s b u e
theorem qq{i:Nat}{x:V}{σ:St}{H:Hp}{A B:St->Hp->Prop}(h:A (σ.set i (some x)) H):cT i x σ H (λτ2 H2=>KO τ2 H2 λb H3=>if b=true then A τ2 H3 else B τ2 H3):=by
 show(if true=true then A (σ.set i (some x)) H else B (σ.set i (some x)) H)
 exact dh h
theorem O8{p A B:Prop}[Decidable p](hp:¬p)(h:B):if decide p=true then A else B:=by rw[aag (by simpa using hp)];exact h
theorem O9{A B:Prop}{b:Bool}(hb:b=true)(h:B):if (!b)=true then A else B:=by rw[hb];exact bS h
theorem As{α:Type}{xs:List α}{i:Int}(h0:0<=i)(h:i<xs.length):∃c,tE xs i=some c/\c∈xs:=by
 obtain⟨j,rfl⟩:∃j:Nat,i=j:=⟨i.toNat,by omega⟩
 have hj:j<xs.length:=by omega
 exact⟨xs[j],eG (by simp[hj]),List.getElem_mem hj⟩
def Pn(c:Nat):Prop:=32<=c/\c<=126/\c≠37
instance(c:Nat):Decidable (Pn c):=by unfold Pn;exact inferInstance
structure Sg(z:Str):Prop where
 nd:z.cps.toList.Nodup
 pr:∀c∈z.cps.toList,Pn c
def Mn(z:Str):Prop:=0<z.length/\z.length<=100/\∀c∈z.cps.toList,Pn c
instance(z:Str):Decidable (Mn z):=by unfold Mn;exact inferInstance
structure Gd(p q f:Str):Prop where
 gp:Sg p
 gq:Sg q
 gf:Sg f
 p1:1<=p.length
 p3:p.length<=3
 q2:q.length<=2
 f2:f.length<=2
def wM(p q f:Str)(b1 b2 b3 b4:Bool):List V:=[.str p,.str q,.str f,.bl b1,.bl b2,.bl b3,.bl b4]
def G9(p q f:Str)(b1 b2 b3 b4:Bool):List (Str×V):=[("parts",.str p),("quotes",.str q),("frees",.str f),("twin",.bl b1),("wide",.bl b2),("thin",.bl b3),("stray",.bl b4)]
def away(t:Str)(c:Nat):Bool:=!(!(Builtin.Str.occurrences t (sg c) 0 t.length 1).isEmpty)
theorem CC(t:Str)(c:Nat):away t c=true↔c∉t.cps.toList:=by
 unfold away
 have e:(!(Builtin.Str.occurrences t (sg c) 0 t.length 1).isEmpty)=decide (c∈t.cps.toList):=StrLaws.found_one t c
 rw[e]
 simp
theorem Qx{z:Str}{c:Nat}(h:Sg z)(hc:Pn c)(ha:away z c=true):Sg (z++sg c):=by
 have e:(z++sg c).cps.toList=z.cps.toList++[c]:=by
  show(z.cps ++ #[c]).toList=_
  simp
 have hn:=(CC z c).mp ha
 refine⟨?_,?_⟩
 ·rw[e,List.nodup_append]
  refine⟨h.nd,by simp,λa ha b hb=>?_⟩
  rw[aap.mp hb]
  intro q;exact hn (q▸ha)
 ·rw[e]
  intro d hd
  rcases aaI.mp hd with z'|z'
  ·exact h.pr d z'
  ·rw[aap.mp z'];exact hc
theorem Qy:Sg ("":Str):=by
 have e:("":Str).cps.toList=[]:=by decide +kernel
 refine⟨?_,?_⟩
 ·rw[e];exact List.nodup_nil
 ·rw[e];intro c hc;cases hc
theorem oh(a b:Str):(a++b).length=a.length+b.length:=by
 show(a.cps++b.cps).size=_
 rw[Array.size_append];rfl
theorem qX{K:W.Frag}{H H':Hp}{a:Addr}{xs:List V}(e:aC H H')(h:bR K H a xs):bR K H' a xs:=by
 rcases h with (h|⟨o,h⟩)|h
 ·exact .inl (.inl (e _ _ h))
 ·exact .inl (.inr ⟨o,e _ _ h⟩)
 ·exact .inr h
theorem Pa{A B:Prop}{b:Bool}(hb:b=false)(h:A):if (!b)=true then A else B:=by rw[hb];exact dh h
theorem wN{A B:Prop}{b:Bool}(hb:b=true)(h:A):if b=true then A else B:=by rw[hb];exact dh h
theorem Hf{A B:Prop}{b:Bool}(hb:b=false)(h:B):if b=true then A else B:=by rw[hb];exact bS h
def tL(c:Nat)(z:Str):Bool:=!(Builtin.Str.occurrences z (sg c) 0 z.length 1).isEmpty
def bU(a b:Str):Bool:=decide (V.str a=V.str b)
theorem tM{a b:Str}(h:bU a b=true):a=b:=by have:=aaX h;cases this;rfl
theorem d7(a:Str):bU a a=true:=aaq rfl
inductive Res where
 |go (k w u:Str)
 |uq (w:Str)
def yh(K:W.Frag)(H:Hp)(v:V):Res->Prop
 | .go k w u=>bU k ("fault":Str)=false/\∃a b,v=.ref a/\bR K H a [.str k,.ref b]/\bR K H b [.str w,.str u]
 | .uq w=>∃a,v=.ref a/\bR K H a [.str ("fault":Str),.str w]
theorem fm{K:W.Frag}{H:Hp}{Q:VK}{k w u:Str}{r:Res}(e:r=.go k w u)(hk:bU k ("fault":Str)=false)(h:∀v H',aC H H'->yh K H' v r->Q v H'):[V.str w,V.str u].length<=sizeLine/\∀b,H b=none->([V.str k,V.ref b].length<=sizeLine/\∀a,(upd H b (.tup [.str w,.str u])) a=none->Q (.ref a) (upd (upd H b (.tup [.str w,.str u])) a (.tup [.str k,.ref b]))):=by
 refine⟨(by show 2<=sizeLine;decide),λb hb=>⟨(by show 2<=sizeLine;decide),λa ha=>?_⟩⟩
 have s1:=aq (o:=HO.tup [.str w,.str u]) hb
 have s2:=aq (o:=HO.tup [.str k,.ref b]) ha
 refine h _ _ (s1.trans s2) ?_
 rw[e]
 exact⟨hk,a,b,O,bR.of aj,qX s2 (bR.of aj)⟩
theorem Au{K:W.Frag}{H H0:Hp}{Q:VK}{k w u:Str}{r:Res}{b:Addr}(e:r=.go k w u)(hk:bU k ("fault":Str)=false)(s0:aC H0 H)(hb:bR K H b [.str w,.str u])(h:∀v H',aC H0 H'->yh K H' v r->Q v H'):[V.str k,V.ref b].length<=sizeLine/\∀a,H a=none->Q (.ref a) (upd H a (.tup [.str k,.ref b])):=by
 refine⟨(by show 2<=sizeLine;decide),λa ha=>?_⟩
 have s2:=aq (o:=HO.tup [.str k,.ref b]) ha
 refine h _ _ (s0.trans s2) ?_
 rw[e]
 exact⟨hk,a,b,O,bR.of aj,qX s2 hb⟩
theorem wO{K:W.Frag}{H:Hp}{Q:VK}{w:Str}{r:Res}(e:r=.uq w)(h:∀v H',aC H H'->yh K H' v r->Q v H'):[V.str ("fault":Str),V.str w].length<=sizeLine/\∀a,H a=none->Q (.ref a) (upd H a (.tup [.str ("fault":Str),.str w])):=by
 refine⟨(by show 2<=sizeLine;decide),λa ha=>?_⟩
 have s2:=aq (o:=HO.tup [.str ("fault":Str),.str w]) ha
 refine h _ _ s2 ?_
 rw[e]
 exact⟨a,O,bR.of aj⟩
theorem ji:bU ("skip":Str) ("fault":Str)=false:=by decide +kernel
theorem Es:bU ("end":Str) ("fault":Str)=false:=by decide +kernel
theorem Av:bU ("part":Str) ("fault":Str)=false:=by decide +kernel
theorem iJ:bU ("put":Str) ("fault":Str)=false:=by decide +kernel
def jK(p q f:Str)(b3:Bool)(w u:Str)(c:Nat):Res :=
 if tL c f=true then .go ("skip":Str) ("freed":Str) ("":Str) else
 if bU (sg c) (Str.ofString "\n")=true then .go ("end":Str) ("row":Str) ("":Str) else
 if tL c q=true then .go ("skip":Str) ("within":Str) (sg c) else
 if tL c p=true then .go ("part":Str) ("cell":Str) ("":Str) else
 if bU (sg c) (" ":Str)=true then (if b3=true then .go ("skip":Str) w u else .go ("put":Str) ("plain":Str) ("":Str)) else
 .go ("put":Str) ("plain":Str) ("":Str)
def jL(p q f:Str)(b4:Bool)(c:Nat):Res :=
 if tL c f=true then .go ("skip":Str) ("freed":Str) ("":Str) else
 if bU (sg c) (Str.ofString "\n")=true then .go ("end":Str) ("row":Str) ("":Str) else
 if tL c p=true then .go ("part":Str) ("cell":Str) ("":Str) else
 if tL c q=true then (if (!b4)=true then .uq ("quote":Str) else .go ("put":Str) ("plain":Str) ("":Str)) else
 .go ("put":Str) ("plain":Str) ("":Str)
def gI(f:Str)(b1 b2:Bool)(u:Str)(c:Nat):Res :=
 if tL c f=true then .go ("skip":Str) ("freed":Str) u else
 if bU (sg c) u=true then (if b1=true then .go ("skip":Str) ("doubt":Str) u else .go ("skip":Str) ("behind":Str) ("":Str)) else
 if bU (sg c) (Str.ofString "\n")=true then (if (!b2)=true then .uq ("line":Str) else .go ("put":Str) ("within":Str) u) else
 .go ("put":Str) ("within":Str) u
def fW(p:Str)(b3:Bool)(c:Nat):Res :=
 if bU (sg c) (Str.ofString "\n")=true then .go ("end":Str) ("row":Str) ("":Str) else
 if tL c p=true then .go ("part":Str) ("cell":Str) ("":Str) else
 if bU (sg c) (" ":Str)=true then (if b3=true then .go ("skip":Str) ("behind":Str) ("":Str) else .uq ("behind":Str)) else
 .uq ("behind":Str)
def tN(p:Str)(b3:Bool)(u:Str)(c:Nat):Res:=if bU (sg c) u=true then .go ("put":Str) ("within":Str) u else fW p b3 c
def kU(u:Str):Res:=if bU u ("":Str)=true then .go ("put":Str) ("plain":Str) ("":Str) else .go ("put":Str) ("within":Str) u
def kW(b2:Bool)(u:Str)(c:Nat):Res :=
 if bU (sg c) (Str.ofString "\n")=true then (if (!b2)=true then .uq ("line":Str) else kU u) else kU u
def CD(p q f:Str)(b3 b4:Bool)(w u:Str)(c:Nat):Res:=if bU w ("plain":Str)=true then jL p q f b4 c else jK p q f b3 w u c
def cV(p q f:Str)(b1 b2 b3 b4:Bool)(w u:Str)(c:Nat):Res :=
 if bU w ("within":Str)=true then gI f b1 b2 u c else
 if bU w ("freed":Str)=true then kW b2 u c else
 if bU w ("doubt":Str)=true then tN p b3 u c else
 if bU w ("behind":Str)=true then fW p b3 c else
 CD p q f b3 b4 w u c
theorem ns{a b:String}(h:bU (Str.ofString a) (Str.ofString b)=false):¬bU (Str.ofString a) (Str.ofString b)=true:=by rw[h];decide
theorem Lz{p q f:Str}{b1 b2 b3 b4:Bool}{w u:Str}{c:Nat}(h:bU w ("plain":Str)=true):cV p q f b1 b2 b3 b4 w u c=jL p q f b4 c:=by
 cases tM h
 unfold cV CD
 rw[aag (ns 'h'),aag (ns 'h'),aag (ns 'h'),aag (ns 'h'),aal (d7 _)]
theorem Ij{p q f:Str}{b1 b2 b3 b4:Bool}{w u:Str}{c:Nat}(h:bU w ("within":Str)=true):cV p q f b1 b2 b3 b4 w u c=gI f b1 b2 u c:=by
 unfold cV
 rw[aal h]
theorem LA{p q f:Str}{b1 b2 b3 b4:Bool}{w u:Str}{c:Nat}(h:bU w ("doubt":Str)=true):cV p q f b1 b2 b3 b4 w u c=tN p b3 u c:=by
 cases tM h
 unfold cV
 rw[aag (ns 'h'),aag (ns 'h'),aal (d7 _)]
theorem Ik{p q f:Str}{b1 b2 b3 b4:Bool}{w u:Str}{c:Nat}(h:bU w ("behind":Str)=true):cV p q f b1 b2 b3 b4 w u c=fW p b3 c:=by
 cases tM h
 unfold cV
 rw[aag (ns 'h'),aag (ns 'h'),aag (ns 'h'),aal (d7 _)]
theorem LB{p q f:Str}{b1 b2 b3 b4:Bool}{w u:Str}{c:Nat}(h:bU w ("freed":Str)=true):cV p q f b1 b2 b3 b4 w u c=kW b2 u c:=by
 cases tM h
 unfold cV
 rw[aag (ns 'h'),aal (d7 _)]
theorem NS{p q f:Str}{b1 b2 b3 b4:Bool}{w u:Str}{c:Nat}(h1:bU w ("within":Str)=false)(h2:bU w ("freed":Str)=false)(h3:bU w ("doubt":Str)=false)(h4:bU w ("behind":Str)=false):cV p q f b1 b2 b3 b4 w u c=CD p q f b3 b4 w u c:=by
 unfold cV
 rw[h1,h2,h3,h4]
 rfl
theorem oX{b:Bool}(h:¬b=true):b=false:=by cases b<;>simp_all
def tfl(d:Addr):List (Str×V):=[("dialect",.ref d)]
structure Tn(C CT:Addr)(H:Hp)(y:Addr)(p q f:Str)(b1 b2 b3 b4:Bool):Prop where
 ok:∃dy d dd,H y=some (.ins CT dy (tfl d))/\H d=some (.ins C dd (G9 p q f b1 b2 b3 b4))
theorem Tn.mono{C CT:Addr}{H H':Hp}{y:Addr}{p q f:Str}{b1 b2 b3 b4:Bool}(s:aC H H')(h:Tn C CT H y p q f b1 b2 b3 b4):Tn C CT H' y p q f b1 b2 b3 b4:=by
 obtain⟨dy,d,dd,e1,e2⟩:=h.ok
 exact⟨dy,d,dd,s _ _ e1,s _ _ e2⟩
theorem Il{H H':Hp}{y dy:Addr}{o:HO}(hy:H y=none)(RY:H dy=none)(kp:∀b o',upd (upd H dy (.own y)) y o b=some o'->b≠y->H' b=some o'):aC H H':=λb o' e=>kp b o' (by rw[aB (aU e hy),aB (aU e RY)];exact e) (aU e hy)
theorem LC{H:Hp}{y dy b:Addr}{o o':HO}(hy:H y=none)(RY:H dy=none)(e:H b=some o'):upd (upd H dy (.own y)) y o b=some o':=by rw[aB (aU e hy),aB (aU e RY)];exact e
theorem bN{α β:Type}{F G:α->β->Prop}(h:∀a b,F a b->G a b):∀{xs:List α}{ys:List β},Paired F xs ys->Paired G xs ys
 |_,_,.nil=>.nil
 |_,_,.cons q r=>.cons (h _ _ q) (bN h r)
theorem d8{α β:Type}{F:α->β->Prop}:∀{xs xs':List α}{ys ys':List β},Paired F xs ys->Paired F xs' ys'->Paired F (xs++xs') (ys++ys')
 |_,_,_,_,.nil,r=>r
 |_,_,_,_,.cons q t,r=>.cons q (d8 t r)
theorem aS{α β:Type}{F:α->β->Prop}:∀{xs:List α}{ys:List β},Paired F xs ys->∀(j:Nat) x,xs[j]?=some x->∃y,ys[j]?=some y/\F x y
 |_,_,.nil,j,x,h=>by simp at h
 |_,_,.cons q t,0,x,h=>by simp at h;subst h;exact⟨_,rfl,q⟩
 |_,_,.cons q t,j+1,x,h=>by
  obtain⟨y,h1,h2⟩:=aS t j x (by simpa using h)
  exact⟨y,by simpa using h1,h2⟩
def c5:List (Str×Str):=[(Str.ofString "row",("":Str)),(Str.ofString "cell",("":Str)),(Str.ofString "plain",("":Str)),(Str.ofString "behind",("":Str)),(Str.ofString "freed",("":Str))]
def c3(c:Nat):List (Str×Str):=[(Str.ofString "within",sg c),(Str.ofString "doubt",sg c),(Str.ofString "freed",sg c)]
def cont(l:List Nat):List (Str×Str):=c5++l.flatMap c3
def Zf(u f:Str):Bool:=!(!(Builtin.Str.occurrences f u 0 f.length 1).isEmpty)
def zG(w u:Str):Bool:=Ei [.str w,.str u] [.str ("row":Str),.str ("":Str)]
theorem NT(c:Nat)(z:Str):tL c z=decide (c∈z.cps.toList):=StrLaws.found_one z c
theorem Qz{c:Nat}{z:Str}(h:c∉z.cps.toList):¬tL c z=true:=by rw[NT];simpa using h
theorem Zg{z:Str}(g:Sg z):¬tL 10 z=true:=Qz λh=>by have:=(g.pr 10 h).1;omega
theorem Zh:Str.ofString "\n"=sg 10:=by decide +kernel
theorem la:Str.ofString "a"=sg 97:=by decide +kernel
theorem app_list(a b:Str):(a++b).cps.toList=a.cps.toList++b.cps.toList:=by
 show(a.cps++b.cps).toList=_
 simp
theorem NU:("":Str).cps.toList=[]:=by decide +kernel
theorem Hg{K:W.Frag}{H:Hp}{a l:Addr}{xs ys:List V}{o:HO}(hl:H l=some (.lst ys))(e2:bR K H a xs):bR K (upd H l o) a xs:=by
 rcases e2 with (h|⟨ob,h⟩)|h
 ·exact .inl (.inl ((aB (B6 h hl (by intro z;cases z))).trans h))
 ·exact .inl (.inr ⟨ob,(aB (B6 h hl (by intro z;cases z))).trans h⟩)
 ·exact .inr h
theorem bV{α:Type}{l:List α}{i:Nat}{c:α}(h:l[i]?=some c):l.take (i+1)=l.take i++[c]:=by
 rw[List.take_succ,h];rfl
def d9(z:Str):Prop:=∀k∈z.cps.toList,k=10\/Pn k
theorem sgL{c:Nat}{z:Str}(e:z=("\n":Str))(h:¬decide (V.str (sg c)=V.str z)=true):c≠10:=λe2=>h (by
 have:Str.ofString "\n"=sg 10:=by decide +kernel
 rw[e,e2,this];exact aaq rfl)
theorem fP{t u:TS}{D:Ends}{σ:St}{H:Hp}(N:St->Hp->Prop)(hu:∀σ' H',N σ' H'->u D σ' H')(ht:(∀σ' H',N σ' H'->u D σ' H')->t {D with nx:=u D} σ H):Si t u D σ H:=ht hu
theorem QA:("":Str).length=0:=by decide +kernel
def runM(p q f:Str)(b1 b2 b3 b4:Bool):Str->Str->List Nat->List Str×Str×Str×Option Str
 |w,u,[]=>([],w,u,none)
 |w,u,c::cs=>match cV p q f b1 b2 b3 b4 w u c with
  | .uq e=>([],w,u,some e)
  | .go k w' u'=>(k::(runM p q f b1 b2 b3 b4 w' u' cs).1,(runM p q f b1 b2 b3 b4 w' u' cs).2)
def Et(ks:List Str)(r:List Str×Str×Str×Option Str):List Str×Str×Str×Option Str:=(ks++r.1,r.2)
theorem QB{p q f:Str}{b1 b2 b3 b4:Bool}{w u k w' u':Str}{c:Nat}{cs:List Nat}{ks:List Str}(h:cV p q f b1 b2 b3 b4 w u c=.go k w' u'):Et ks (runM p q f b1 b2 b3 b4 w u (c::cs))=Et (ks++[k]) (runM p q f b1 b2 b3 b4 w' u' cs):=by
 have e:runM p q f b1 b2 b3 b4 w u (c::cs)=(k::(runM p q f b1 b2 b3 b4 w' u' cs).1,(runM p q f b1 b2 b3 b4 w' u' cs).2):=by
  show(match cV p q f b1 b2 b3 b4 w u c with | .uq e=>([],w,u,some e) | .go k w' u'=>(k::(runM p q f b1 b2 b3 b4 w' u' cs).1,(runM p q f b1 b2 b3 b4 w' u' cs).2))=_
  rw[h]
 rw[e]
 unfold Et
 rw[List.append_assoc]
 rfl
theorem NV{p q f:Str}{b1 b2 b3 b4:Bool}{w u e:Str}{c:Nat}{cs:List Nat}{ks:List Str}(h:cV p q f b1 b2 b3 b4 w u c=.uq e):Et ks (runM p q f b1 b2 b3 b4 w u (c::cs))=(ks,w,u,some e):=by
 have e2:runM p q f b1 b2 b3 b4 w u (c::cs)=([],w,u,some e):=by
  show(match cV p q f b1 b2 b3 b4 w u c with | .uq e=>([],w,u,some e) | .go k w' u'=>(k::(runM p q f b1 b2 b3 b4 w' u' cs).1,(runM p q f b1 b2 b3 b4 w' u' cs).2))=_
  rw[h]
 rw[e2]
 unfold Et
 rw[aa6]
theorem NW{p q f:Str}{b1 b2 b3 b4:Bool}{w u:Str}{ks:List Str}:Et ks (runM p q f b1 b2 b3 b4 w u [])=(ks,w,u,none):=by
 show(ks++[],w,u,none)=_
 rw[aa6]
def LD:Option Str->V
 |none=>.non
 |some e=>.str e
def LF(r:List Str×Str×Str×Option Str):Str:=match r.2.2.2 with
 |some e=>e
 |none=>if zG r.2.1 r.2.2.1=true then Str.ofString "" else Str.ofString "cut"
theorem Tn.but{C CT:Addr}{H:Hp}{y:Addr}{p q f:Str}{b1 b2 b3 b4:Bool}{l:Addr}{ys:List V}{o:HO}(hl:H l=some (.lst ys))(h:Tn C CT H y p q f b1 b2 b3 b4):Tn C CT (upd H l o) y p q f b1 b2 b3 b4:=by
 obtain⟨dy,d,dd,e1,e2⟩:=h.ok
 exact⟨dy,d,dd,(aB (B6 e1 hl (by intro z;cases z))).trans e1,(aB (B6 e2 hl (by intro z;cases z))).trans e2⟩
theorem drop_cons{l:List Nat}{i c:Nat}(h:l[i]?=some c):l.drop i=c::l.drop (i+1):=by
 obtain⟨h1,h2⟩:=aaj.mp h
 rw[List.drop_eq_getElem_cons h1,h2]
def Wv(ks:List Str):Nat:=(ks.map V.str).countP λz=>zv z (.str ("end":Str))
theorem zH(ks:List Str):(ks.map V.str).all cU=true:=by rw[abo,aaB];intro _ _;rfl
theorem LG{p q f:Str}{b1 b2 b3 b4:Bool}{w u e:Str}{c:Nat}(h:cV p q f b1 b2 b3 b4 w u c=.uq e):e=Str.ofString "line"\/e=Str.ofString "quote"\/e=("behind":Str):=by
 have hb:∀{p:Str}{b3:Bool},fW p b3 c=.uq e->e=Str.ofString "line"\/e=Str.ofString "quote"\/e=("behind":Str):=by
  intro p b3 h
  unfold fW at h
  split at h
  ·cases h
  split at h
  ·cases h
  split at h
  ·split at h
   ·cases h
   ·cases h;exact .inr (.inr rfl)
  ·cases h;exact .inr (.inr rfl)
 unfold cV at h
 split at h
 ·unfold gI at h
  split at h
  ·cases h
  split at h
  ·split at h<;>cases h
  split at h
  ·split at h
   ·cases h;exact .inl rfl
   ·cases h
  ·cases h
 split at h
 ·unfold kW kU at h
  split at h
  ·split at h
   ·cases h;exact .inl rfl
   ·split at h<;>cases h
  ·split at h<;>cases h
 split at h
 ·unfold tN at h
  split at h
  ·cases h
  ·exact hb h
 split at h
 ·exact hb h
 unfold CD at h
 split at h
 ·unfold jL at h
  split at h
  ·cases h
  split at h
  ·cases h
  split at h
  ·cases h
  split at h
  ·split at h
   ·cases h;exact .inr (.inl rfl)
   ·cases h
  ·cases h
 ·unfold jK at h
  split at h
  ·cases h
  split at h
  ·cases h
  split at h
  ·cases h
  split at h
  ·cases h
  split at h
  ·split at h<;>cases h
  ·cases h
theorem NX{p q f:Str}{b1 b2 b3 b4:Bool}{w u k w' u':Str}{c:Nat}{cs:List Nat}(h:cV p q f b1 b2 b3 b4 w u c=.go k w' u'):runM p q f b1 b2 b3 b4 w u (c::cs)=(k::(runM p q f b1 b2 b3 b4 w' u' cs).1,(runM p q f b1 b2 b3 b4 w' u' cs).2):=by
 show(match cV p q f b1 b2 b3 b4 w u c with | .uq e=>([],w,u,some e) | .go k w' u'=>(k::(runM p q f b1 b2 b3 b4 w' u' cs).1,(runM p q f b1 b2 b3 b4 w' u' cs).2))=_
 rw[h]
theorem LH{p q f:Str}{b1 b2 b3 b4:Bool}{w u e:Str}{c:Nat}{cs:List Nat}(h:cV p q f b1 b2 b3 b4 w u c=.uq e):runM p q f b1 b2 b3 b4 w u (c::cs)=([],w,u,some e):=by
 show(match cV p q f b1 b2 b3 b4 w u c with | .uq e=>([],w,u,some e) | .go k w' u'=>(k::(runM p q f b1 b2 b3 b4 w' u' cs).1,(runM p q f b1 b2 b3 b4 w' u' cs).2))=_
 rw[h]
theorem LI{p q f:Str}{b1 b2 b3 b4:Bool}{w u e:Str}{cs:List Nat}(h:(runM p q f b1 b2 b3 b4 w u cs).2.2.2=some e):e≠Str.ofString ""/\e≠Str.ofString "cut":=by
 induction cs generalizing w u with
 |nil=>cases h
 |cons c cs ih =>
  cases hs:cV p q f b1 b2 b3 b4 w u c with
  |go k w' u' =>
   rw[NX hs]at h
   exact ih h
  |uq e2 =>
   rw[LH hs]at h
   cases h
   rcases LG hs with rfl|rfl|rfl
   ·exact⟨λz=>absurd (congrArg (λz=>bU z ("line":Str)) z) 'h',λz=>absurd (congrArg (λz=>bU z ("line":Str)) z) 'h'⟩
   ·exact⟨λz=>absurd (congrArg (λz=>bU z ("quote":Str)) z) 'h',λz=>absurd (congrArg (λz=>bU z ("quote":Str)) z) 'h'⟩
   ·exact⟨λz=>absurd (congrArg (λz=>bU z ("behind":Str)) z) 'h',λz=>absurd (congrArg (λz=>bU z ("behind":Str)) z) 'h'⟩
structure B4 where
 a:Bool
 b:Bool
 c:Bool
 d:Bool
def B4.vs(b:B4):List V:=[.bl b.a,.bl b.b,.bl b.c,.bl b.d]
abbrev oY:=Str×Str×Str×B4
def lZ(x:oY):List V:=wM x.1 x.2.1 x.2.2.1 x.2.2.2.a x.2.2.2.b x.2.2.2.c x.2.2.2.d
def Ww(x:oY):List (Str×V):=G9 x.1 x.2.1 x.2.2.1 x.2.2.2.a x.2.2.2.b x.2.2.2.c x.2.2.2.d
theorem qY{l:List Str}{i:Nat}{e:V}(h:(l.map V.str)[i]?=some e):∃z,l[i]?=some z/\e=.str z:=by
 rw[aaW]at h
 cases hz:l[i]? with
 |none=>rw[hz]at h;cases h
 |some z=>rw[hz]at h;exact⟨z,rfl,(aah h).symm⟩
abbrev ya(x:oY):Prop:=Gd x.1 x.2.1 x.2.2.1
abbrev Aw(H:Hp):List V->List oY->Prop:=Paired λe x=>∃t,e=V.ref t/\H t=some (.tup (lZ x))
theorem Aw.mono{H H':Hp}(s:aC H H'):∀{es:List V}{xs:List oY},Aw H es xs->Aw H' es xs
 |_,_,.nil=>.nil
 |_,_,.cons ⟨t,e,h⟩ r=>.cons ⟨t,e,s _ _ h⟩ (Aw.mono s r)
abbrev wQ(C:Addr)(H:Hp):List V->List oY->Prop:=Paired λe x=>∃y dy,e=V.ref y/\H y=some (.ins C dy (Ww x))
theorem wQ.mono{C:Addr}{H H':Hp}(s:aC H H'):∀{es:List V}{xs:List oY},wQ C H es xs->wQ C H' es xs
 |_,_,.nil=>.nil
 |_,_,.cons ⟨y,dy,e,h⟩ r=>.cons ⟨y,dy,e,s _ _ h⟩ (wQ.mono s r)
theorem Tt{α:Type}{l:List α}{i:Nat}{c:α}(h:l[i]?=some c):l.drop i=c::l.drop (i+1):=by
 obtain⟨h1,h2⟩:=aaj.mp h
 rw[List.drop_eq_getElem_cons h1,h2]
def runC(x:oY)(z:Str):List Str×Str×Str×Option Str:=runM x.1 x.2.1 x.2.2.1 x.2.2.2.a x.2.2.2.b x.2.2.2.c x.2.2.2.d ("row":Str) ("":Str) z.cps.toList
theorem Im{z:Str}{lo hi:Option Int}{c:Nat}(h:c∈(Txt.slice z lo hi).cps.toList):c∈z.cps.toList:=by
 unfold Txt.slice at h
 split at h
 ·exact h
 ·have h:c∈List.filterMap (λx=>z.cps[x]?) (Builtin.Str.strSliceIndices lo hi 1 z.length):=h
  obtain⟨k,_,hk⟩:=List.mem_filterMap.mp h
  exact Array.mem_toList_iff.mpr (Array.mem_of_getElem? hk)
theorem wR{z:Str}{n:Int}(h0:0<=n):((Txt.slice z none (some n)).length:Int)<=n:=by
 have key:((Builtin.Str.strSliceIndices none (some n) 1 z.length).length:Int)<=n:=by
  unfold Builtin.Str.strSliceIndices sliceRange
  simp only[show(1:Int)>0 by decide,if_true,aak,abq]
  split<;>(try split)<;>(try simp only[Int.ediv_one])<;>omega
 unfold Txt.slice
 split
 ·rename_i e
  have e2:(Builtin.Str.strSliceIndices none (some n) 1 z.length).length=z.length:=by simpa using e
  omega
 ·have:(List.filterMap (λx=>z.cps[x]?) (Builtin.Str.strSliceIndices none (some n) 1 z.length)).toArray.size<=(Builtin.Str.strSliceIndices none (some n) 1 z.length).length:=by
   rw[aam];exact List.length_filterMap_le _ _
  show(((List.filterMap (λx=>z.cps[x]?) (Builtin.Str.strSliceIndices none (some n) 1 z.length)).toArray.size:Nat):Int)<=n
  omega
theorem CF{z:Str}(g:Sg z):Sg (Txt.slice z none (some 1)):=by
 have h:=wR (z:=z) (n:=1) 'c'
 have e:(Txt.slice z none (some 1)).cps.toList.length=(Txt.slice z none (some 1)).length:=by rw[aaE];rfl
 refine⟨?_,λc hc=>g.pr c (Im hc)⟩
 cases q:(Txt.slice z none (some 1)).cps.toList with
 |nil=>exact List.nodup_nil
 |cons a l =>
  cases l with
  |nil=>simp
  |cons b l=>rw[q]at e;simp only[aaA]at e;omega
theorem Eu{z:Str}(g:Sg z):Sg (qV z):=by
 have e:(qV z).cps.toList=z.cps.toList.reverse:=by unfold qV;simp
 exact⟨by rw[e];exact List.pairwise_reverse.mpr (List.Pairwise.imp (λh=>abi h) g.nd),λc hc=>g.pr c (by rw[e]at hc;exact List.mem_reverse.mp hc)⟩
theorem Ax(z:Str):(qV z).length=z.length:=by
 have e:(qV z).cps.toList=z.cps.toList.reverse:=by unfold qV;simp
 have:=congrArg List.length e
 rw[List.length_reverse,aaE,aaE]at this
 exact this
theorem wU{H:Hp}{l:Addr}{o:HO}:∀{es:List V}{xs:List oY},(V.ref l∉es)->Aw H es xs->Aw (upd H l o) es xs
 |_,_,_,.nil=>.nil
 |_,_,hn,.cons ⟨a,e,h⟩ r=>by
  subst e
  have:a≠l:=λq=>hn (by rw[q];exact aaC ..)
  exact .cons ⟨a,rfl,(aB this).trans h⟩ (wU (λq=>hn (aax _ q)) r)
theorem join_list(zs:List Str):(Txt.join ("":Str) zs).cps.toList=zs.flatMap (λz=>z.cps.toList):=by
 have ee:("":Str).cps.toList=[]:=by decide +kernel
 show(Builtin.Str.glued ("":Str) zs).cps.toList=_
 rw[StrLaws.glued_eq_join]
 induction zs with
 |nil=>exact ee
 |cons c cs ih =>
  cases cs with
  |nil =>
   show c.cps.toList=_
   simp
  |cons d cs =>
   show(c++("":Str)++Str.join ("":Str) (d::cs)).cps.toList=_
   rw[app_list,app_list,ee,aa6,ih]
   simp[List.flatMap_cons]
theorem NY{zs:List Str}{m:Nat}(h:∀z∈zs,z.length<=m):(zs.map (·.length)).sum+zs.length*("":Str).length<=m*zs.length:=by
 have e:("":Str).length=0:=by decide +kernel
 rw[e,Nat.mul_zero,Nat.add_zero]
 induction zs with
 |nil=>exact aaY _
 |cons z zs ih =>
  have h1:=h z (aaC ..)
  have h2:=ih λy hy=>h y (aax _ hy)
  rw[abB,List.sum_cons,aaA,Nat.mul_succ]
  omega
theorem QC{zs:List Str}{m:Nat}(h:∀z∈zs,z.length<=m):(zs.flatMap (λz=>z.cps.toList)).length<=m*zs.length:=by
 induction zs with
 |nil=>exact aaY _
 |cons z zs ih =>
  have h1:=h z (aaC ..)
  have h2:=ih λy hy=>h y (aax _ hy)
  rw[List.flatMap_cons,aaJ,aaA,Nat.mul_succ,aaE]
  have:z.cps.size<=m:=h1
  omega
theorem uB{α β:Type}{F:α->β->Prop}:∀{xs:List α}{ys:List β}(n:Nat),Paired F xs ys->Paired F (xs.take n) (ys.take n)
 |_,_,0,_=>.nil
 |_,_,_+1,.nil=>.nil
 |_,_,n+1,.cons r t=>.cons r (uB n t)
theorem CG(a:Array Nat):∀(n:Nat)(acc:Array Nat),((List.replicate n a).foldl (· ++ ·) acc).size=acc.size+n*a.size/\∀c∈((List.replicate n a).foldl (· ++ ·) acc).toList,c∈acc.toList\/c∈a.toList
 | 0,acc=>⟨by simp,λc hc=>.inl hc⟩
 |n+1,acc=>by
  rw[List.replicate_succ,List.foldl_cons]
  obtain⟨h1,h2⟩:=CG a n (acc++a)
  refine⟨by rw[h1,Array.size_append,Nat.succ_mul];omega,λc hc=>?_⟩
  rcases h2 c hc with h|h
  ·rw[Array.toList_append]at h
   exact aaI.mp h
  ·exact .inr h
theorem NZ(z:Str)(n:Nat):(P8 z n).length=n*z.length:=by
 have:=(CG z.cps n #[]).1
 show((List.replicate n z.cps).foldl (· ++ ·) #[]).size=_
 rw[this];simp;rfl
theorem N1{xs:List V}{n:Nat}(h:n<=xs.length):tD xs none (some (n:Int))=xs.take n:=by
 unfold tD
 rw[HT.GQ,HT.KH,Nat.min_eq_left h]
 rfl
theorem CH{α:Type}(f:α->V)(xs:List α)(lo hi:Option Int):∃ys:List α,tD (xs.map f) lo hi=ys.map f/\ys.length<=xs.length/\∀y∈ys,y∈xs:=by
 refine⟨(xs.drop (HT.yb (xs.map f).length 0 lo)).take (HT.yb (xs.map f).length (xs.map f).length hi-HT.yb (xs.map f).length 0 lo),?_,?_,λy hy=>List.mem_of_mem_drop (List.mem_of_mem_take hy)⟩
 ·unfold tD;rw[List.map_take,List.map_drop]
 ·rw[aaL,List.length_drop];omega
theorem wQ.but{C:Addr}{H:Hp}{l:Addr}{o:HO}{ws:List V}(hl:H l=some (.lst ws)):∀{es:List V}{xs:List oY},wQ C H es xs->wQ C (upd H l o) es xs
 |_,_,.nil=>.nil
 |_,_,.cons ⟨y,dy,e,h⟩ r=>.cons ⟨y,dy,e,(aB (B6 h hl (by intro z;cases z))).trans h⟩ (wQ.but hl r)
structure QD where
 rows:List (List Str)
 row:List Str
 cell:Str
def QE(g:QD)(c:Nat)(k:Str):QD :=
 if bU k ("put":Str)=true then ⟨g.rows,g.row,g.cell++sg c⟩
 else if bU k ("part":Str)=true then ⟨g.rows,g.row++[g.cell],("":Str)⟩
 else if bU k ("end":Str)=true then ⟨g.rows++[g.row++[g.cell]],[],("":Str)⟩
 else g
def wV:QD->List Nat->List Str->QD
 |g,c::cs,k::ks=>wV (QE g c k) cs ks
 |g,_,_=>g
def QF:QD:=⟨[],[],("":Str)⟩
def N2(z:Str)(ks:List Str):List (List Str):=(wV QF z.cps.toList ks).rows
theorem zI:∀(g:QD)(cs:List Nat)(ks:List Str)(i:Nat)(c:Nat)(k:Str),cs[i]?=some c->ks[i]?=some k->wV g (cs.take (i+1)) (ks.take (i+1))=QE (wV g (cs.take i) (ks.take i)) c k
 |g,[],_,i,c,k,h,_=>by simp at h
 |g,_::_,[],i,c,k,_,h=>by simp at h
 |g,d::cs,j::ks,0,c,k,h1,h2=>by cases h1;cases h2;rfl
 |g,d::cs,j::ks,i+1,c,k,h1,h2=>by
  show wV (QE g d j) (cs.take (i+1)) (ks.take (i+1))=QE (wV (QE g d j) (cs.take i) (ks.take i)) c k
  exact zI _ cs ks i c k h1 h2
theorem CI:∀(g:QD)(cs:List Nat)(ks:List Str),wV g (cs.take (min cs.length ks.length)) (ks.take (min cs.length ks.length))=wV g cs ks
 |g,[],ks=>by simp[wV]
 |g,_::_,[]=>by simp[wV]
 |g,d::cs,j::ks=>by
  have e:min (d::cs).length (j::ks).length=min cs.length ks.length+1:=by rw[aaA,aaA];omega
  rw[e]
  exact CI (QE g d j) cs ks
abbrev qZ(H0 H:Hp):List V->List (List Str)->Prop:=Paired λe r=>∃a,e=V.ref a/\H0 a=none/\H a=some (.lst (r.map V.str))
theorem qZ.mono{H0 H H':Hp}(s:aC H H'):∀{es:List V}{rs:List (List Str)},qZ H0 H es rs->qZ H0 H' es rs
 |_,_,.nil=>.nil
 |_,_,.cons ⟨a,e,n,h⟩ r=>.cons ⟨a,e,n,s _ _ h⟩ (qZ.mono s r)
theorem qZ.but{H0 H:Hp}{l:Addr}{o:HO}:∀{es:List V}{rs:List (List Str)},(V.ref l∉es)->qZ H0 H es rs->qZ H0 (upd H l o) es rs
 |_,_,_,.nil=>.nil
 |_,_,hn,.cons ⟨a,e,n,h⟩ r=>by
  subst e
  have:a≠l:=λq=>hn (by rw[q];exact aaC ..)
  exact .cons ⟨a,rfl,n,(aB this).trans h⟩ (qZ.but (λq=>hn (aax _ q)) r)
theorem qZ.app{H0 H:Hp}:∀{es es':List V}{rs rs':List (List Str)},qZ H0 H es rs->qZ H0 H es' rs'->qZ H0 H (es++es') (rs++rs')
 |_,_,_,_,.nil,h=>h
 |_,_,_,_,.cons r t,h=>.cons r (qZ.app t h)
theorem qZ.has{H0 H:Hp}:∀{es:List V}{rs:List (List Str)},qZ H0 H es rs->∀{a:Addr},V.ref a∈es->H0 a=none/\∃ys,H a=some (.lst ys)
 |_,_,.nil,_,h=>by cases h
 |_,_,.cons ⟨b,e,n,h⟩ r,a,ha=>by
  rcases aat.mp ha with q|q
  ·subst e;cases q;exact⟨n,_,h⟩
  ·exact qZ.has r q
theorem LJ{α:Type}[DecidableEq α]{r r':List α}(h:r.length=r'.length):((List.range r.length).all λj=>decide (r[j]?=r'[j]?))=decide (r=r'):=by
 rw[aa0,aaB,aaS]
 constructor
 ·intro q
  refine List.ext_getElem? λi=>?_
  by_cases hi:i<r.length
  ·exact aaX (q i (List.mem_range.mpr hi))
  ·rw[List.getElem?_eq_none 'b',List.getElem?_eq_none 'b']
 ·rintro rfl i _
  exact aaq rfl
theorem N4(z z':Str):zv (.str z) (.str z')=decide (z=z'):=by
 show(z==z')=_
 rw[aa0,abD,aaS]
theorem N5{K:W.Frag}{H:Hp}{a b:Addr}{r r':List Str}(ha:H a=some (.lst (r.map V.str)))(hb:H b=some (.lst (r'.map V.str))):qU K H 1 (.ref a) (.ref b) (decide (r=r')):=by
 by_cases hne:a=b
 ·subst hne
  rw[ha]at hb
  have e:r=r':=by
   have:=HO.lst.inj (aah hb)
   exact(List.map_inj_right (λx y h=>V.str.inj h)).mp this
  rw[aaq e]
  exact .same
 by_cases hl:r.length=r'.length
 ·rw[←LJ hl]
  have e:r.length=(r.map V.str).length:=(aak _).symm
  rw[e]
  refine qU.lst hne (aM.of ha) (aM.of hb) (by rw[aak,aak,hl]) λj x y ex ey=>?_
  obtain⟨z,hz,rfl⟩:=qY ex
  obtain⟨z',hz',rfl⟩:=qY ey
  have e2:decide (r[j]?=r'[j]?)=zv (.str z) (.str z'):=by
   rw[hz,hz',N4,aa0,aaS,aaS]
   exact⟨λq=>aah q,λq=>by rw[q]⟩
  rw[e2]
  exact .flat rfl rfl
 ·rw[aas (λq=>hl (by rw[q]))]
  exact qU.len hne (aM.of ha) (aM.of hb) (by rw[aak,aak];exact hl)
theorem N6(ws:List V):tD ws none (some 2)=ws.take 2:=by
 by_cases h:2<=ws.length
 ·exact N1 (n:=2) h
 ·cases ws with
  |nil=>rfl
  |cons w ws=>cases ws with
   |nil=>rfl
   |cons v ws=>rw[aaA,aaA]at h;omega
abbrev F4:=Nat×Nat×Nat×Str
theorem wW{H H1 H':Hp}{ea d:Addr}{o:HO}(s:aC H H1)(oV:H1 ea=none)(hd:(upd H1 ea o) d=none)(RZ:∀b,b≠ea->b≠d->H' b=upd H1 ea o b):aC H (del H' ea):=λb u hb=>by
 have hb1:=s b u hb
 have n1:b≠ea:=λz=>by rw[z,oV]at hb1;cases hb1
 have n2:b≠d:=λz=>by rw[←z,aB n1,hb1]at hd;cases hd
 rw[wI n1,RZ b n1 n2,aB n1];exact hb1
theorem same_self{K:W.Frag}{H:Hp}{xs:List V}(h:xs.all cU=true):∀(j:Nat) x y,xs[j]?=some x->xs[j]?=some y->qS K H 1 x y:=λj x y ex ey=>by
 rw[ex]at ey;cases ey
 have:=aaB.mp h x (aau ex)
 exact .flat this this (KY this)
def RZ:List Nat:=("a7ZbXq9KwM":Str).cps.toList
abbrev Tu(p q f:Str)(b1 b2 b3 b4:Bool)(z:Str):=runM p q f b1 b2 b3 b4 ("row":Str) ("":Str) z.cps.toList
def Hh(c:Nat):Bool:=decide (c=10\/Pn c)
def textOk(z:Str):Bool:=z.cps.toList.all Hh
theorem N7{z:Str}(h:d9 z):textOk z=true:=by
 unfold textOk
 rw[aaB]
 exact λc hc=>aaq (h c hc)
def Ay:V->Bool
 | .str z=>decide (z.length<=2000)&&textOk z
 |_=>false
inductive BY(H:Hp):V->Prop where
 |str (z:Str):BY H (.str z)
 |non:BY H .non
 |bl (b:Bool):BY H (.bl b)
 |int (n:Int):BY H (.int n)
 |lst {a:Addr}{xs:List V}:H a=some (.lst xs)->xs.all cU=true->BY H (.ref a)
 |tup {a:Addr}{xs:List V}:H a=some (.tup xs)->xs.all cU=true->BY H (.ref a)
 |Tv {a:Addr}{k:Key}{v:V}:H a=some (.dK [(k,v)])->cU v=true->BY H (.ref a)
theorem BY.mono{H H':Hp}{v:V}(s:aC H H')(h:BY H v):BY H' v:=by
 cases h with
 |str z=>exact .str z
 |non=>exact .non
 |bl b=>exact .bl b
 |int n=>exact .int n
 |lst e f=>exact .lst (s _ _ e) f
 |tup e f=>exact .tup (s _ _ e) f
 |Tv e f=>exact .Tv (s _ _ e) f
theorem LK{z:Str}(h:2000<z.length):Ay (.str z)=false:=by
 show(decide (z.length<=2000)&&textOk z)=false
 rw[aas 'b'];rfl
def Ask(K:W.Frag)(C:Addr)(Ds:List Addr)(f:Nat->Bool):Prop:=∀(j:Nat)(D:Addr),Ds[j]?=some D->W.kitOne K (.ref C) (.ref D)=some (f j)
structure U4(K:W.Frag)(C B:Addr)(Ds:List Addr)(f:Nat->Bool):Prop where
 cl:∃N bm ini,cB K C N bm ini/\wH K bm
 xk:RW K C
 ask:Ask K C Ds f
 ba:W.kitOne K (.ref C) (.ref B)=some true
 ve:W.kitOne K (.ref C) (.type "ValueError")=some true
theorem Az{a b:Int}:decide (V.int a=V.int b)=decide (a=b):=by
 by_cases h:a=b
 ·rw[h,aaq rfl,aaq rfl]
 ·rw[aas h,aas λe=>h (by injection e)]
theorem LL{z:Str}(h:d9 z)(h2:z.length<=2000):Ay (.str z)=true:=by
 show(decide (z.length<=2000)&&textOk z)=true
 rw[N7 h,aaq h2];rfl
theorem Io{xs:List V}{hi:Option Int}(h:2<=xs.length):(tD xs (some 2) hi).length<=xs.length-2:=by
 unfold tD
 have e:HT.yb xs.length 0 (some 2)=2:=by rw[show(some (2:Int))=some ((2:Nat):Int) from rfl,HT.GQ];omega
 rw[e,aaL,List.length_drop]
 omega
def Tw(r:List Str×Str×Str×Option Str)(z:Str):Option (List (List Str)):=if LF r=("":Str) then some (N2 z r.1) else none
def BZ(A H:Hp)(v:V):Option (List (List Str))->Prop
 |none=>v=.non
 |some T=>∃l es,v=.ref l/\A l=none/\H l=some (.lst es)/\qZ A H es T
theorem BZ.mono{A H H':Hp}{v:V}{o:Option (List (List Str))}(s:aC H H')(h:BZ A H v o):BZ A H' v o:=by
 cases o with
 |none=>exact h
 |some T=>obtain⟨l,es,e1,e2,e3,e4⟩:=h;exact⟨l,es,e1,e2,s _ _ e3,qZ.mono s e4⟩
abbrev nV(n:Nat):V:=.int (n:Int)
def kX(r:List Nat)(p:Nat):List (List Nat)->List (List Nat)
 |[]=>[[p]]
 |q::qs=>if r.getD (q.headD 0) 0=r.getD p 0 then (q++[p])::qs else q::kX r p qs
def aL(r:List Nat)(ps:List Nat):List (List Nat):=ps.foldl (λa p=>kX r p a) []
theorem Ew{r ps:List Nat}{i p:Nat}(h:ps[i]?=some p):aL r (ps.take (i+1))=kX r p (aL r (ps.take i)):=by
 unfold aL
 rw[bV h,List.foldl_append];rfl
theorem Hi{r:List Nat}{p:Nat}:∀{qs:List (List Nat)}{q:List Nat},q∈kX r p qs->q=[p]\/q∈qs\/∃q0∈qs,q=q0++[p]
 |[],q,h=>.inl (aap.mp h)
 |q0::qs,q,h=>by
  unfold kX at h
  by_cases e:r.getD (q0.headD 0) 0=r.getD p 0
  ·rw[aal e]at h
   rcases aat.mp h with rfl|h
   ·exact .inr (.inr ⟨q0,aaC ..,rfl⟩)
   ·exact .inr (.inl (aax _ h))
  ·rw[aag e]at h
   rcases aat.mp h with rfl|h
   ·exact .inr (.inl (aaC ..))
   ·rcases Hi h with h|h|⟨q1,h1,h2⟩
    ·exact .inl h
    ·exact .inr (.inl (aax _ h))
    ·exact .inr (.inr ⟨q1,aax _ h1,h2⟩)
theorem Ip{r ps:List Nat}(P:List (List Nat)->Prop)(h0:P [])(hs:∀a p,p∈ps->P a->P (kX r p a)):P (aL r ps):=by
 have key:∀(l:List Nat) a,(∀p∈l,p∈ps)->P a->P (l.foldl (λa p=>kX r p a) a):=by
  intro l
  induction l with
  |nil=>intro a _ h;exact h
  |cons p l ih=>intro a hl h;exact ih _ (λq hq=>hl q (aax _ hq)) (hs a p (hl p (aaC ..)) h)
 exact key ps [] (λ_ h=>h) h0
theorem iK{r ps:List Nat}:∀q∈aL r ps,q≠[]/\∀x∈q,x∈ps:=by
 refine Ip (P:=λa=>∀q∈a,q≠[]/\∀x∈q,x∈ps) (λq h=>nomatch h) ?_
 intro a p hp h q hq
 rcases Hi hq with rfl|hq|⟨q0,h0,rfl⟩
 ·exact⟨(λe=>nomatch e),λx hx=>by rw[aap.mp hx];exact hp⟩
 ·exact h q hq
 ·refine⟨by simp,λx hx=>?_⟩
  rcases aaI.mp hx with hx|hx
  ·exact(h q0 h0).2 x hx
  ·rw[aap.mp hx];exact hp
theorem Hj{r:List Nat}{p:Nat}:∀{qs:List (List Nat)},((kX r p qs).map List.length).sum=(qs.map List.length).sum+1
 |[]=>rfl
 |q0::qs=>by
  unfold kX
  split
  ·simp only[abB,List.sum_cons,aaJ,aaA,List.length_nil];omega
  ·have:=Hj (r:=r) (p:=p) (qs:=qs)
   simp only[abB,List.sum_cons,this];omega
theorem tO{r ps:List Nat}:((aL r ps).map List.length).sum=ps.length:=by
 have key:∀(l:List Nat)(a:List (List Nat)),((l.foldl (λa p=>kX r p a) a).map List.length).sum=(a.map List.length).sum+l.length:=by
  intro l
  induction l with
  |nil=>intro a;rfl
  |cons p l ih =>
   intro a
   show((l.foldl (λa p=>kX r p a) (kX r p a)).map List.length).sum=_
   rw[ih,Hj,aaA];omega
 have:=key ps []
 rw[show(([]:List (List Nat)).map List.length).sum=0 from rfl,Nat.zero_add]at this
 exact this
theorem AA{q:List Nat}:∀{l:List (List Nat)},q∈l->q.length<=(l.map List.length).sum
 |[],h=>by cases h
 |c::l,h=>by
  rw[abB,List.sum_cons]
  rcases aat.mp h with rfl|h
  ·omega
  ·have:=AA h;omega
theorem QG{q:List Nat}:∀{qs:List (List Nat)},q∈qs->1<qs.length->(∀x∈qs,x≠[])->q.length<(qs.map List.length).sum
 |a::b::l,h,_,hn=>by
  have hb:=List.length_pos_iff.mpr (hn b (aax _ (aaC ..)))
  have ha:=List.length_pos_iff.mpr (hn a (aaC ..))
  have e:((a::b::l).map List.length).sum=a.length+(b.length+(l.map List.length).sum):=by simp
  rw[e]
  rcases aat.mp h with rfl|h
  ·omega
  rcases aat.mp h with rfl|h
  ·omega
  have:=AA h
  omega
theorem LM{r ps q:List Nat}(h:1<(aL r ps).length)(hq:q∈aL r ps):q.length<ps.length:=by
 have:=QG hq h λx hx=>(iK x hx).1
 rw[tO]at this
 exact this
theorem tP{r ps:List Nat}:(aL r ps).length<=ps.length:=by
 have key:∀qs:List (List Nat),(∀x∈qs,x≠[])->qs.length<=(qs.map List.length).sum:=by
  intro qs
  induction qs with
  |nil=>intro _;exact aan _
  |cons a l ih =>
   intro h
   have:=ih λx hx=>h x (aax _ hx)
   have ha:=List.length_pos_iff.mpr (h a (aaC ..))
   rw[abB,List.sum_cons,aaA];omega
 have:=key (aL r ps) λx hx=>(iK x hx).1
 rw[tO]at this
 exact this
theorem AB{r ps q:List Nat}(hq:q∈aL r ps):q.length<=ps.length:=by
 have:=AA hq
 rw[tO]at this
 exact this
def rj(r:List Nat)(p:Nat)(Z:List (V×List Nat)):List V:=(Z.filter λx=>decide (r.getD (x.2.headD 0) 0=r.getD p 0)).map Prod.fst
theorem LN{r:List Nat}{p j:Nat}{Z:List (V×List Nat)}{x:V×List Nat}(h:Z[j]?=some x):rj r p (Z.take (j+1))=if r.getD (x.2.headD 0) 0=r.getD p 0 then rj r p (Z.take j)++[x.1] else rj r p (Z.take j):=by
 unfold rj
 rw[bV h,List.filter_append,List.filter_cons]
 by_cases e:r.getD (x.2.headD 0) 0=r.getD p 0
 ·rw[aal (aaq e),aal e,aaF];rfl
 ·rw[aag (by rw[aas e];decide),aag e,List.filter_nil,aa6]
theorem N8{r:List Nat}{p:Nat}{Z:List (V×List Nat)}:(rj r p Z).length<=Z.length:=by
 unfold rj;rw[aak];exact List.length_filter_le _ _
theorem zJ{r:List Nat}{p:Nat}:∀{es:List V}{qs:List (List Nat)},es.length=qs.length->(rj r p (es.zip qs)=[]/\kX r p qs=qs++[[p]])\/∃e ws j q,rj r p (es.zip qs)=e::ws/\es[j]?=some e/\qs[j]?=some q/\kX r p qs=qs.set j (q++[p])
 |[],[],_=>.inl ⟨rfl,rfl⟩
 |e::es,q::qs,h=>by
  by_cases c:r.getD (q.headD 0) 0=r.getD p 0
  ·refine .inr ⟨e,rj r p (es.zip qs),0,q,?_,rfl,rfl,?_⟩
   ·unfold rj
    rw[List.zip_cons_cons,List.filter_cons,aal (aaq c)];rfl
   ·unfold kX;rw[aal c];rfl
  ·have e1:rj r p ((e::es).zip (q::qs))=rj r p (es.zip qs):=by
    unfold rj
    rw[List.zip_cons_cons,List.filter_cons,aag (by rw[aas c];decide)]
   have e2:kX r p (q::qs)=q::kX r p qs:=by rw[show kX r p (q::qs)=if r.getD (q.headD 0) 0=r.getD p 0 then (q++[p])::qs else q::kX r p qs from rfl,aag c]
   rw[e1,e2]
   rcases zJ (r:=r) (p:=p) (es:=es) (qs:=qs) (by simpa using h) with ⟨a,b⟩|⟨e',ws,j,q',a,b,c',d⟩
   ·exact .inl ⟨a,by rw[b];rfl⟩
   ·exact .inr ⟨e',ws,j+1,q',a,b,c',by rw[d];rfl⟩
 |[],_::_,h=>by simp at h
 |_::_,[],h=>by simp at h
abbrev aY(A H:Hp):List V->List (List Nat)->Prop:=Paired λe p=>∃a,e=V.ref a/\A a=none/\H a=some (.lst (p.map nV))
theorem aY.mono{A H H':Hp}(s:aC H H'):∀{es:List V}{qs:List (List Nat)},aY A H es qs->aY A H' es qs
 |_,_,.nil=>.nil
 |_,_,.cons ⟨a,e,n,h⟩ r=>.cons ⟨a,e,n,s _ _ h⟩ (aY.mono s r)
theorem aY.but{A H:Hp}{l:Addr}{o:HO}:∀{es:List V}{qs:List (List Nat)},V.ref l∉es->aY A H es qs->aY A (upd H l o) es qs
 |_,_,_,.nil=>.nil
 |_,_,hn,.cons ⟨a,e,n,h⟩ r=>.cons ⟨a,e,n,(aB (λq=>hn (by rw[e,q];exact aaC ..))).trans h⟩ (aY.but (λq=>hn (aax _ q)) r)
theorem aY.Tz{A H:Hp}{a:Addr}{q':List Nat}:∀{es:List V}{qs:List (List Nat)}{j:Nat},aY A H es qs->es.Nodup->es[j]?=some (.ref a)->aY A (upd H a (.lst (q'.map nV))) es (qs.set j q')
 |_,_,0,.cons ⟨b,e,n,h⟩ r,nd,hj=>by
  subst e
  have e:b=a:=V.ref.inj (aah hj)
  subst e
  rw[abx]at nd
  exact .cons ⟨b,rfl,n,aj⟩ (aY.but nd.1 r)
 |_,_,j+1,.cons ⟨b,e,n,h⟩ r,nd,hj=>by
  subst e
  rw[abx]at nd
  have hj:_=some (V.ref a):=hj
  refine .cons ⟨b,rfl,n,(aB λq=>nd.1 ?_).trans h⟩ (aY.Tz r nd.2 hj)
  rw[q];exact aau hj
abbrev mL(H:Hp):List V->List (List Nat)->Prop:=Paired λe r=>∃a,e=V.ref a/\H a=some (.lst (r.map nV))
theorem mL.mono{H H':Hp}(s:aC H H'):∀{es:List V}{qs:List (List Nat)},mL H es qs->mL H' es qs
 |_,_,.nil=>.nil
 |_,_,.cons ⟨a,e,h⟩ r=>.cons ⟨a,e,s _ _ h⟩ (mL.mono s r)
def e7(R:List (List Nat))(ps:List Nat):Bool:=R.all λr=>decide ((aL r ps).length<2)
inductive PT where
 |leaf (ps:List Nat)
 |ask (i:Nat) (bs:List PT)
def mO{α:Type}:List (Option α)->Option (List α)
 |[]=>some []
 |none::_=>none
 |some x::l=>(mO l).map (x :: ·)
def u0(f:List Nat->Option PT)(ps:List Nat):Nat->List (List Nat)->Option PT
 |_,[]=>none
 |i,r::rs=>if 1<(aL r ps).length then (match mO ((aL r ps).map f) with
  |some bs=>some (.ask i bs)
  |none=>u0 f ps (i+1) rs) else u0 f ps (i+1) rs
def cC(R:List (List Nat)):Nat->List Nat->Option PT
 | 0,ps=>if e7 R ps then some (.leaf ps) else none
 |d+1,ps=>if e7 R ps then some (.leaf ps) else u0 (cC R d) ps 0 R
theorem zK{α:Type}:∀{l:List (Option α)},mO l=none->none∈l
 |none::l,_=>aaC ..
 |some x::l,h=>by
  refine aax _ (zK ?_)
  cases e:mO l with
  |none=>rfl
  |some y=>rw[show mO (some x::l)=(mO l).map (x :: ·) from rfl,e]at h;cases h
 |[],h=>by cases h
theorem zL{α:Type}:∀{l:List (Option α)}{bs:List α},mO l=some bs->l=bs.map some
 |[],bs,h=>by cases h;rfl
 |none::l,_,h=>by cases h
 |some x::l,bs,h=>by
  rw[show mO (some x::l)=(mO l).map (x :: ·) from rfl]at h
  cases e:mO l with
  |none=>rw[e]at h;cases h
  |some y=>rw[e]at h;cases h;rw[zL e];rfl
theorem CJ{f:List Nat->Option PT}{ps:List Nat}:∀{R:List (List Nat)}{i:Nat},(∃r∈R,1<(aL r ps).length)->(∀r∈R,1<(aL r ps).length->∀q∈aL r ps,f q≠none)->u0 f ps i R≠none
 |[],_,⟨r,h,_⟩,_=>by cases h
 |r::R,i,⟨r',h,h2⟩,hf=>by
  unfold u0
  by_cases c:1<(aL r ps).length
  ·rw[aal c]
   cases e:mO ((aL r ps).map f) with
   |some bs=>intro z;cases z
   |none =>
    obtain⟨q,hq,e2⟩:=List.mem_map.mp (zK e)
    exact absurd e2 (hf r (aaC ..) c q hq)
  ·rw[aag c]
   refine CJ ⟨r',?_,h2⟩ λx hx=>hf x (aax _ hx)
   rcases aat.mp h with rfl|h
   ·exact absurd h2 c
   ·exact h
theorem Iq{R:List (List Nat)}{ps:List Nat}(h:¬e7 R ps=true):∃r∈R,1<(aL r ps).length:=by
 refine Classical.byContradiction λq=>h ?_
 unfold e7
 rw[aaB]
 intro r hr
 refine aaq ?_
 refine Nat.lt_of_not_le λhl=>q ⟨r,hr,hl⟩
theorem zM{R:List (List Nat)}:∀{d:Nat}{ps:List Nat},ps.length<=d+1->cC R d ps≠none
 | 0,ps,h=>by
  have:e7 R ps=true:=by
   unfold e7
   rw[aaB]
   intro r _
   have:=tP (r:=r) (ps:=ps)
   exact aaq 'b'
  unfold cC;rw[aal this];intro z;cases z
 |d+1,ps,h=>by
  unfold cC
  by_cases c:e7 R ps=true
  ·rw[aal c];intro z;cases z
  ·rw[aag c]
   exact CJ (Iq c) λr _ hl q hq=>zM (by have:=LM hl hq;omega)
def sQ(A H:Hp):Nat->V->PT->Prop
 |_,v,.leaf ps=>∃t l,v=.ref t/\A t=none/\A l=none/\H t=some (.tup [.str ("leaf":Str),.ref l])/\H l=some (.lst (ps.map nV))
 |n+1,v,.ask i bs=>∃t l es,v=.ref t/\A t=none/\A l=none/\H t=some (.tup [.str ("ask":Str),nV i,.ref l])/\H l=some (.lst es)/\Paired (sQ A H n) es bs
 | 0,_,.ask _ _=>False
theorem sQ.mono{A H H':Hp}(s:aC H H'):∀{n:Nat}{v:V}{t:PT},sQ A H n v t->sQ A H' n v t
 | 0,_,.leaf ps,⟨t,l,a,b,c,d,e⟩=>⟨t,l,a,b,c,s _ _ d,s _ _ e⟩
 |n+1,_,.leaf ps,⟨t,l,a,b,c,d,e⟩=>⟨t,l,a,b,c,s _ _ d,s _ _ e⟩
 |n+1,_,.ask i bs,⟨t,l,es,a,b,c,d,e,f⟩=>⟨t,l,es,a,b,c,s _ _ d,s _ _ e,bN (λ_ _ h=>sQ.mono s h) f⟩
theorem sQ.old{A B H:Hp}(f:∀b,B b=none->A b=none):∀{n:Nat}{v:V}{t:PT},sQ B H n v t->sQ A H n v t
 | 0,_,.leaf ps,⟨t,l,a,b,c,d,e⟩=>⟨t,l,a,f _ b,f _ c,d,e⟩
 |n+1,_,.leaf ps,⟨t,l,a,b,c,d,e⟩=>⟨t,l,a,f _ b,f _ c,d,e⟩
 |n+1,_,.ask i bs,⟨t,l,es,a,b,c,d,e,g⟩=>⟨t,l,es,a,f _ b,f _ c,d,e,bN (λ_ _ h=>sQ.old f h) g⟩
inductive Th where
 |at (v:V)
 |tup (ts:List Th)
 |lst (ts:List Th)
def RT(H:Hp):Nat->V->Th->Prop
 |_,v,.at w=>v=w/\cU w=true
 |n+1,v,.tup ts=>∃a es,v=.ref a/\H a=some (.tup es)/\Paired (RT H n) es ts
 |n+1,v,.lst ts=>∃a es,v=.ref a/\H a=some (.lst es)/\Paired (RT H n) es ts
 | 0,_,.tup _=>False
 | 0,_,.lst _=>False
theorem RT.mono{H H':Hp}(s:aC H H'):∀{n:Nat}{v:V}{t:Th},RT H n v t->RT H' n v t
 | 0,_,.at w,h=>h
 |n+1,_,.at w,h=>h
 |n+1,_,.tup ts,⟨a,es,e,b,r⟩=>⟨a,es,e,s _ _ b,bN (λ_ _ h=>RT.mono s h) r⟩
 |n+1,_,.lst ts,⟨a,es,e,b,r⟩=>⟨a,es,e,s _ _ b,bN (λ_ _ h=>RT.mono s h) r⟩
theorem RT.AD{H:Hp}{n:Nat}{v w:V}(h:RT H n v (.at w)):v=w/\cU w=true:=by cases n<;>exact h
theorem RT.CK{H:Hp}{n:Nat}{v w:V}(h:v=w/\cU w=true):RT H n v (.at w):=by cases n<;>exact h
def kY:Th->Int->Int->Bool
 | .at (.int n),a,b=>decide (a<=n/\n<=b)
 |_,_,_=>false
def rm(t:Th)(ps:List Nat):Bool:=match t with
 | .lst ts=>decide (ts.length=ps.length)&&(ts.zip ps).all λx=>kY x.1 x.2 x.2
 |_=>false
def Ey(f:List Nat->Th->Bool)(R:List (List Nat))(ps:List Nat):Th->Th->Bool
 | .at (.int i),.lst bs=>decide (0<=i/\i<=(R.length:Int)-1)&&(!bs.isEmpty&&(decide (bs.length=(aL (R.getD i.toNat []) ps).length)&&((aL (R.getD i.toNat []) ps).zip bs).all λx=>f x.1 x.2))
 |_,_=>false
def dG(R:List (List Nat)):Nat->List Nat->Th->Bool
 |d+1,ps,.tup [.at (.str w),b]=>bU w ("leaf":Str)&&(rm b ps&&e7 R ps)
 |d+1,ps,.tup [.at (.str w),b,c]=>bU w ("ask":Str)&&Ey (dG R d) R ps b c
 |_,_,_=>false
theorem Hl{ps:List Nat}{i:Nat}{e:V}(h:(ps.map nV)[i]?=some e):∃p,ps[i]?=some p/\e=nV p:=by
 rw[aaW]at h
 cases q:ps[i]? with
 |none=>rw[q]at h;cases h
 |some p=>rw[q]at h;cases h;exact⟨p,rfl,rfl⟩
theorem TF{r:List Nat}{p:Nat}(h:p<r.length):(r.map nV)[p]?=some (nV (r.getD p 0)):=by
 rw[aaW,aaR h]
 show some (nV _)=_
 rw[List.getD_eq_getElem?_getD,aaR h];rfl
def U5:Th->Bool
 | .lst _=>true
 |_=>false
def Wx:Th->Bool
 | .tup _=>true
 |_=>false
def Wy:Th->Bool
 | .at (.str _)=>true
 |_=>false
theorem RT.kind(K:W.Frag){H:Hp}{n:Nat}{v:V}{t:Th}(h:RT H n v t):∃ty,qh K H v ty/\W.kitOne K ty (.type "list")=some (U5 t)/\W.kitOne K ty (.type "tuple")=some (Wx t)/\W.kitOne K ty (.type "str")=some (Wy t):=by
 cases t with
 |«at» w =>
  obtain⟨rfl,f⟩:=RT.AD h
  cases v with
  |non=>exact⟨_,.non,rfl,rfl,rfl⟩
  |bl b=>exact⟨_,.bl b,rfl,rfl,rfl⟩
  |int i=>exact⟨_,.int i,rfl,rfl,rfl⟩
  |str z=>exact⟨_,.str z,rfl,rfl,rfl⟩
  |_=>cases f
 |tup ts =>
  cases n with
  |zero=>exact h.elim
  |succ n=>obtain⟨a,es,rfl,ha,_⟩:=h;exact⟨_,.tup ha,rfl,rfl,rfl⟩
 |lst ts =>
  cases n with
  |zero=>exact h.elim
  |succ n=>obtain⟨a,es,rfl,ha,_⟩:=h;exact⟨_,.lst ha,rfl,rfl,rfl⟩
theorem RT.three{H:Hp}{n:Nat}{v:V}{t:Th}(h:RT H n v t):(∃m a es ts,n=m+1/\v=V.ref a/\t=.lst ts/\H a=some (.lst es)/\Paired (RT H m) es ts)\/(∃m a es ts,n=m+1/\v=V.ref a/\t=.tup ts/\H a=some (.tup es)/\Paired (RT H m) es ts)\/(t=.at v/\cU v=true):=by
 cases t with
 |«at» w=>obtain⟨rfl,f⟩:=RT.AD h;exact .inr (.inr ⟨rfl,f⟩)
 |tup ts =>
  cases n with
  |zero=>exact h.elim
  |succ n=>obtain⟨a,es,e,ha,p⟩:=h;exact .inr (.inl ⟨n,a,es,ts,rfl,e,rfl,ha,p⟩)
 |lst ts =>
  cases n with
  |zero=>exact h.elim
  |succ n=>obtain⟨a,es,e,ha,p⟩:=h;exact .inl ⟨n,a,es,ts,rfl,e,rfl,ha,p⟩
def OT(A H:Hp)(d:Nat)(v:V):Option PT->Prop
 |none=>v=.non
 |some T=>sQ A H d v T
theorem OT.mono{A H H':Hp}{d:Nat}{v:V}{o:Option PT}(s:aC H H')(h:OT A H d v o):OT A H' d v o:=by
 cases o with
 |none=>exact h
 |some T=>exact sQ.mono s h
theorem OT.old{A B H:Hp}{d:Nat}{v:V}{o:Option PT}(f:∀b,B b=none->A b=none)(h:OT B H d v o):OT A H d v o:=by
 cases o with
 |none=>exact h
 |some T=>exact sQ.old f h
theorem sQ.set{A H:Hp}{l:Addr}{ob:HO}(hl:A l≠none):∀{n:Nat}{v:V}{t:PT},sQ A H n v t->sQ A (upd H l ob) n v t
 | 0,_,.leaf ps,⟨t,l',a,b,c,d,e⟩=>⟨t,l',a,b,c,(aB (λq=>hl (by rw[←q];exact b))).trans d,(aB (λq=>hl (by rw[←q];exact c))).trans e⟩
 |n+1,_,.leaf ps,⟨t,l',a,b,c,d,e⟩=>⟨t,l',a,b,c,(aB (λq=>hl (by rw[←q];exact b))).trans d,(aB (λq=>hl (by rw[←q];exact c))).trans e⟩
 |n+1,_,.ask i bs,⟨t,l',es,a,b,c,d,e,g⟩=>⟨t,l',es,a,b,c,(aB (λq=>hl (by rw[←q];exact b))).trans d,(aB (λq=>hl (by rw[←q];exact c))).trans e,bN (λ_ _ h=>sQ.set hl h) g⟩
theorem OT.set{A H:Hp}{l:Addr}{ob:HO}{d:Nat}{v:V}{o:Option PT}(hl:A l≠none)(h:OT A H d v o):OT A (upd H l ob) d v o:=by
 cases o with
 |none=>exact h
 |some T=>exact sQ.set hl h
def TL:V->Bool
 | .non=>true
 |_=>false
theorem OT.Zi{A H:Hp}{d:Nat}{v:V}{o:Option PT}(h:OT A H d v o):TL v=o.isNone:=by
 cases o with
 |none=>cases h;rfl
 |some T =>
  cases T with
  |leaf ps=>cases d<;>(obtain⟨t,l,rfl,_⟩:=h;rfl)
  |ask i bs =>
   cases d with
   |zero=>exact h.elim
   |succ d=>obtain⟨t,l,es,rfl,_⟩:=h;rfl
theorem OT.cmp{K:W.Frag}{A H:Hp}{d:Nat}{v:V}{o:Option PT}(h:OT A H d v o):wJ K H v .non (TL v):=by
 cases o with
 |none=>cases h;exact .cmp (n:=0) 'c' (.flat rfl rfl)
 |some T =>
  cases T with
  |leaf ps=>cases d<;>(obtain⟨t,l,rfl,_,_,e,_⟩:=h;exact .tn (bR.of e))
  |ask i bs =>
   cases d with
   |zero=>exact h.elim
   |succ d=>obtain⟨t,l,es,rfl,_,_,e,_⟩:=h;exact .tn (bR.of e)
theorem OT.any{A H:Hp}{d:Nat}:∀{es:List V}{os:List (Option PT)},Paired (OT A H d) es os->es.any TL=os.any Option.isNone
 |_,_,.nil=>rfl
 |_,_,.cons h r=>by rw[List.any_cons,List.any_cons,h.Zi,OT.any r]
theorem CL{α:Type}:∀{os:List (Option α)},(os.any Option.isNone=true->mO os=none)/\(os.any Option.isNone=false->∃bs,mO os=some bs/\os=bs.map some)
 |[]=>⟨λh=>by simp at h,λ_=>⟨[],rfl,rfl⟩⟩
 |none::os=>⟨λ_=>rfl,λh=>by simp at h⟩
 |some x::os=>by
  obtain⟨h1,h2⟩:=CL (os:=os)
  refine⟨λh=>?_,λh=>?_⟩
  ·rw[List.any_cons]at h
   show(mO os).map _=none
   rw[h1 h];rfl
  ·rw[List.any_cons]at h
   obtain⟨bs,e1,e2⟩:=h2 h
   exact⟨x::bs,by show(mO os).map _=_;rw[e1];rfl,by rw[e2];rfl⟩
theorem OT.trees{A H:Hp}{d:Nat}:∀{es:List V}{bs:List PT},Paired (OT A H d) es (bs.map some)->Paired (sQ A H d) es bs
 |[],[],_=>.nil
 |_::_,_::_,.cons h r=>.cons h (OT.trees r)
 |[],_::_,h=>by cases h
 |_::_,[],h=>by cases h
theorem CO{f:List Nat->Option PT}{ps r:List Nat}{rs:List (List Nat)}{i:Nat}:u0 f ps i (r::rs)=if 1<(aL r ps).length then (match mO ((aL r ps).map f) with
 |some bs=>some (.ask i bs)
 |none=>u0 f ps (i+1) rs) else u0 f ps (i+1) rs:=rfl
theorem CP:∀{ws:List V},ws.all Ay=true->∃zs:List Str,ws=zs.map V.str/\∀z∈zs,d9 z/\z.length<=2000
 |[],_=>⟨[],rfl,λz h=>nomatch h⟩
 |w::ws,h=>by
  rw[List.all_cons,Bool.and_eq_true]at h
  obtain⟨zs,rfl,hz⟩:=CP h.2
  cases w with
  |str z =>
   have h1:(decide (z.length<=2000)&&textOk z)=true:=h.1
   rw[Bool.and_eq_true]at h1
   refine⟨z::zs,O,λy hy=>?_⟩
   rcases aat.mp hy with rfl|hy
   ·exact⟨λc hc=>aaX (aaB.mp h1.2 c hc),aaX h1.1⟩
   ·exact hz y hy
  |_=>cases h.1
def LO(ps:List Nat):Th:=.tup [.at (.str ("leaf":Str)),.lst (ps.map λp=>.at (nV p))]
def tQ:Nat->PT->Th
 |_,.leaf ps=>LO ps
 | 0,.ask _ _=>.at .non
 |n+1,.ask i bs=>.tup [.at (.str ("ask":Str)),.at (nV i),.lst (bs.map (tQ n))]
theorem AE{H:Hp}{n:Nat}:∀{ps:List Nat},Paired (RT H n) (ps.map nV) (ps.map λp=>Th.at (nV p))
 |[]=>.nil
 |_::_=>.cons (RT.CK ⟨rfl,rfl⟩) AE
theorem sQ.rt{A H:Hp}:∀{n:Nat}{v:V}{T:PT},sQ A H n v T->RT H (2*n+2) v (tQ n T)
 | 0,_,.leaf ps,⟨t,l,e,_,_,a,b⟩=>⟨t,_,e,a,.cons (RT.CK ⟨rfl,rfl⟩) (.cons ⟨l,_,rfl,b,AE⟩ .nil)⟩
 |n+1,_,.leaf ps,⟨t,l,e,_,_,a,b⟩=>⟨t,_,e,a,.cons (RT.CK ⟨rfl,rfl⟩) (.cons ⟨l,_,rfl,b,AE⟩ .nil)⟩
 |n+1,_,.ask i bs,⟨t,l,es,e,_,_,a,b,p⟩=>by
  refine⟨t,_,e,a,.cons (RT.CK ⟨O,O⟩) (.cons (RT.CK ⟨O,O⟩) (.cons ⟨l,es,O,b,?_⟩ .nil))⟩
  have:∀{es:List V}{bs:List PT},Paired (sQ A H n) es bs->Paired (RT H (2*n+2)) es (bs.map (tQ n)):=by
   intro es bs h
   induction h with
   |nil=>exact .nil
   |cons a _ ih=>exact .cons a.rt ih
  exact this p
theorem Ez{R:List (List Nat)}:∀{d:Nat}{ps:List Nat}{T:PT}{m:Nat},cC R d ps=some T->d<m->dG R m ps (tQ d T)=true:=by
 have Pb:∀{ps:List Nat}{m:Nat}{d:Nat},e7 R ps=true->dG R (m+1) ps (tQ d (.leaf ps))=true:=by
  intro ps m d h
  have e:tQ d (.leaf ps)=LO ps:=by cases d<;>rfl
  rw[e]
  show(bU ("leaf":Str) ("leaf":Str)&&(rm (.lst (ps.map λp=>.at (nV p))) ps&&e7 R ps))=true
  rw[d7,h,Bool.and_true,aa8]
  show(decide ((ps.map λp=>Th.at (nV p)).length=ps.length)&&((ps.map λp=>Th.at (nV p)).zip ps).all λx=>kY x.1 x.2 x.2)=true
  rw[aaq (aak _),aa8,aaB]
  rintro⟨x,p⟩ hx
  have:x=Th.at (nV p):=by
   clear h e
   induction ps with
   |nil=>cases hx
   |cons q ps ih =>
    rcases aat.mp hx with e|hx
    ·cases e;rfl
    ·exact ih hx
  rw[this]
  exact aaq ⟨Int.le_refl _,Int.le_refl _⟩
 intro d
 induction d with
 |zero =>
  intro ps T m h hm
  obtain⟨m,rfl⟩:∃k,m=k+1:=⟨m-1,by omega⟩
  unfold cC at h
  by_cases c:e7 R ps=true
  ·rw[aal c]at h;cases h;exact Pb c
  ·rw[aag c]at h;cases h
 |succ d ih =>
  intro ps T m h hm
  obtain⟨m,rfl⟩:∃k,m=k+1:=⟨m-1,by omega⟩
  unfold cC at h
  by_cases c:e7 R ps=true
  ·rw[aal c]at h;cases h;exact Pb c
  rw[aag c]at h
  have key:∀(rs:List (List Nat))(i:Nat),R.drop i=rs->u0 (cC R d) ps i rs=some T->dG R (m+1) ps (tQ (d+1) T)=true:=by
   intro rs
   induction rs with
   |nil=>intro i _ h;cases h
   |cons r rs ih2 =>
    intro i hi h
    have Zj:R[i]?=some r:=by
     have:=List.head?_drop (l:=R) (i:=i);rw[hi]at this;exact this.symm
    have hi2:R.drop (i+1)=rs:=by rw[←List.tail_drop,hi];rfl
    rw[CO]at h
    by_cases c2:1<(aL r ps).length
    ·rw[aal c2]at h
     cases e:mO ((aL r ps).map (cC R d)) with
     |none=>rw[e]at h;exact ih2 _ hi2 h
     |some bs =>
      rw[e]at h
      cases h
      have hb:=zL e
      have hil:=(aaj.mp Zj).1
      have Zk:bs.length=(aL r ps).length:=by have:=congrArg List.length hb;simpa using this.symm
      show(bU ("ask":Str) ("ask":Str)&&Ey (dG R m) R ps (.at (.int (i:Int))) (.lst (bs.map (tQ d))))=true
      rw[d7,aa8]
      show(decide (0<=(i:Int)/\(i:Int)<=(R.length:Int)-1)&&(!(bs.map (tQ d)).isEmpty&&(decide ((bs.map (tQ d)).length=(aL (R.getD (i:Int).toNat []) ps).length)&&((aL (R.getD (i:Int).toNat []) ps).zip (bs.map (tQ d))).all λx=>dG R m x.1 x.2)))=true
      have er:R.getD (i:Int).toNat []=r:=by rw[Int.toNat_natCast,List.getD_eq_getElem?_getD,Zj];rfl
      rw[er,aaq (show 0<=(i:Int)/\(i:Int)<=(R.length:Int)-1 by omega),aa8,aak,aaq Zk,aa8]
      have ne:(bs.map (tQ d)).isEmpty=false:=by
       cases bs with
       |nil=>simp at Zk;omega
       |cons _ _=>rfl
      rw[ne]
      show(true&&_)=true
      rw[aa8,aaB]
      rintro⟨q,x⟩ hx
      obtain⟨j,hj⟩:=abA.mp hx
      rw[List.getElem?_zip_eq_some]at hj
      obtain⟨h1,h2⟩:=hj
      rw[aaW]at h2
      cases h3:bs[j]? with
      |none=>rw[h3]at h2;cases h2
      |some b =>
       rw[h3]at h2;cases h2
       have h4:=congrArg (λl=>l[j]?) hb
       simp only[aaW,h1,h3,abz]at h4
       exact ih (aah h4) 'b'
    ·rw[aag c2]at h
     exact ih2 _ hi2 h
  exact key R 0 rfl h
theorem QH{f:List Nat->Th->Bool}{R:List (List Nat)}{ps:List Nat}{t u:Th}(h:kY t 0 ((R.length:Int)-1)=false):Ey f R ps t u=false:=by
 cases t with
 |«at» v =>
  cases v with
  |int i =>
   cases u with
   |lst bs =>
    have h:decide (0<=i/\i<=(R.length:Int)-1)=false:=h
    show(decide (0<=i/\i<=(R.length:Int)-1)&&_)=false
    rw[h,abe]
   |_=>rfl
  |_=>cases u<;>rfl
 |_=>cases u<;>rfl
theorem QI{f:List Nat->Th->Bool}{R:List (List Nat)}{ps:List Nat}{t u:Th}(h:U5 u=false):Ey f R ps t u=false:=by
 cases u with
 |lst bs=>cases h
 |_ =>
  cases t with
  |«at» v=>cases v<;>rfl
  |_=>rfl
theorem Ir{t:Th}{n:Nat}(h:kY t 0 ((n:Int)-1)=true):∃i:Nat,t=.at (.int (i:Int))/\i<n:=by
 cases t with
 |«at» v =>
  cases v with
  |int i =>
   have h:decide (0<=i/\i<=(n:Int)-1)=true:=h
   have h:=aaX h
   exact⟨i.toNat,by rw[Int.toNat_of_nonneg h.1],by omega⟩
  |_=>cases h
 |_=>cases h
theorem QJ{f:List Nat->Th->Bool}{R:List (List Nat)}{ps:List Nat}{i:Nat}{ts:List Th}(h:i<R.length):Ey f R ps (.at (.int (i:Int))) (.lst ts)=(!ts.isEmpty&&(decide (ts.length=(aL (R.getD i []) ps).length)&&((aL (R.getD i []) ps).zip ts).all λx=>f x.1 x.2)):=by
 show(decide (0<=(i:Int)/\(i:Int)<=(R.length:Int)-1)&&_)=_
 rw[aaq (show 0<=(i:Int)/\(i:Int)<=(R.length:Int)-1 by omega),aa8,Int.toNat_natCast]
theorem LP{R:List (List Nat)}{d:Nat}{ps:List Nat}{t:Th}(h:Wx t=false):dG R d ps t=false:=by
 cases t with
 |tup ts=>cases h
 |_=>cases d<;>rfl
theorem CQ{R:List (List Nat)}{d:Nat}{ps:List Nat}{ts:List Th}(h:ts.length<2):dG R d ps (.tup ts)=false:=by
 match ts,h with
 |[],_=>cases d<;>rfl
 |[a],_ =>
  cases d with
  |zero=>rfl
  |succ d =>
   cases a with
   |«at» v=>cases v<;>rfl
   |_=>rfl
 |_::_::_,h=>simp at h;omega
theorem LQ{R:List (List Nat)}{d:Nat}{ps:List Nat}{x:Th}{ts:List Th}(h:Wy x=false):dG R d ps (.tup (x::ts))=false:=by
 cases x with
 |«at» v =>
  cases v with
  |str z=>cases h
  |_=>cases d<;>rcases ts with _|⟨_,_|⟨_,_|_⟩⟩<;>rfl
 |_=>cases d<;>rcases ts with _|⟨_,_|⟨_,_|_⟩⟩<;>rfl
theorem AF{R:List (List Nat)}{d:Nat}{ps:List Nat}{w:Str}{b:Th}:dG R (d+1) ps (.tup [.at (.str w),b])=(bU w ("leaf":Str)&&(rm b ps&&e7 R ps)):=rfl
theorem AG{R:List (List Nat)}{d:Nat}{ps:List Nat}{w:Str}{b c:Th}:dG R (d+1) ps (.tup [.at (.str w),b,c])=(bU w ("ask":Str)&&Ey (dG R d) R ps b c):=rfl
theorem AH{R:List (List Nat)}{d:Nat}{ps:List Nat}{w:Str}{ts:List Th}(h:ts.length≠1/\ts.length≠2):dG R d ps (.tup (.at (.str w)::ts))=false:=by
 match ts,h with
 |[],_=>cases d<;>rfl
 |[a],h=>exact absurd rfl h.1
 |[a,b],h=>exact absurd rfl h.2
 |_::_::_::_,_=>cases d<;>rfl
theorem aY.set{A H:Hp}{l:Addr}{o:HO}(hl:A l≠none):∀{es:List V}{qs:List (List Nat)},aY A H es qs->aY A (upd H l o) es qs
 |_,_,.nil=>.nil
 |_,_,.cons ⟨a,e,n,h⟩ r=>.cons ⟨a,e,n,(aB (λq=>hl (by rw[←q];exact n))).trans h⟩ (aY.set hl r)
theorem aY.Wz{A H:Hp}:∀{es:List V}{qs:List (List Nat)},aY A H es qs->mL H es qs
 |_,_,.nil=>.nil
 |_,_,.cons ⟨a,e,_,h⟩ r=>.cons ⟨a,e,h⟩ (aY.Wz r)
def wX(cs:List oY)(z:Str):List (Option (List (List Str))):=cs.map λx=>Tw (runC x z) z
def yi{α:Type}[DecidableEq α](x:α):List α->Nat
 |[]=>0
 |y::l=>if y=x then 0 else yi x l+1
def readM{α:Type}[DecidableEq α](ts:List α):List Nat:=ts.map λt=>yi t ts
abbrev Rds(A H:Hp):List V->List (Option (List (List Str)))->Prop:=Paired (BZ A H)
theorem BZ.old{A B H:Hp}{v:V}{o:Option (List (List Str))}(f:∀b,B b=none->A b=none)(h:BZ B H v o):BZ A H v o:=by
 cases o with
 |none=>exact h
 |some T=>obtain⟨l,es,e1,e2,e3,e4⟩:=h;exact⟨l,es,e1,f _ e2,e3,bN (λa b ⟨c,q1,q2,q3⟩=>⟨c,q1,f _ q2,q3⟩) e4⟩
theorem BZ.set{A H:Hp}{v:V}{o:Option (List (List Str))}{l:Addr}{ob:HO}(hl:A l≠none)(h:BZ A H v o):BZ A (upd H l ob) v o:=by
 cases o with
 |none=>exact h
 |some T=>obtain⟨m,es,e1,e2,e3,e4⟩:=h;exact⟨m,es,e1,e2,(aB (λq=>hl (by rw[←q];exact e2))).trans e3,bN (λa b ⟨c,q1,q2,q3⟩=>⟨c,q1,q2,(aB (λq=>hl (by rw[←q];exact q2))).trans q3⟩) e4⟩
theorem wY{A B H:Hp}:∀{es:List V}{T T':List (List Str)},qZ A H es T->qZ B H es T'->T=T'
 |_,_,_,.nil,.nil=>rfl
 |_,_,_,.cons ⟨a,e,_,h⟩ r,.cons ⟨b,e',_,h'⟩ r'=>by
  subst e
  cases e'
  rw[h]at h'
  have q:=(List.map_inj_right (λx y h=>V.str.inj h)).mp (HO.lst.inj (aah h'))
  rw[q,wY r r']
theorem QK{K:W.Frag}{A B H:Hp}{v w:V}{o o':Option (List (List Str))}(h1:BZ A H v o)(h2:BZ B H w o'):wJ K H v w (decide (o=o')):=by
 cases o with
 |none =>
  cases h1
  cases o' with
  |none=>cases h2;rw[aaq rfl];exact .cmp (n:=0) 'c' (.flat rfl rfl)
  |some T =>
   obtain⟨l,es,rfl,_,e3,_⟩:=h2
   rw[aas (by intro z;cases z)]
   exact .nl (aM.of e3)
 |some T =>
  obtain⟨l,es,rfl,_,e3,e4⟩:=h1
  cases o' with
  |none =>
   cases h2
   rw[aas (by intro z;cases z)]
   exact .ln (aM.of e3)
  |some T' =>
   obtain⟨l',es',rfl,_,N9,TM⟩:=h2
   have e:decide (some T=some T')=decide (T=T'):=by
    by_cases h:T=T'
    ·rw[h,aaq rfl,aaq rfl]
    ·rw[aas h,aas λz=>h (aah z)]
   rw[e]
   refine .cmp (n:=2) 'c' ?_
   by_cases ne:l=l'
   ·subst ne
    rw[e3]at N9
    have N9:=HO.lst.inj (aah N9)
    subst N9
    have:T=T':=wY e4 TM
    rw[aaq this]
    exact .same
   have l1:=e4.length
   have l2:=TM.length
   by_cases hl:T.length=T'.length
   ·rw[←LJ hl,←l1]
    refine qU.lst ne (aM.of e3) (aM.of N9) 'b' λj x y ex ey=>?_
    obtain⟨r,hr,a,rfl,_,ha⟩:=aS e4 j x ex
    obtain⟨r',hr',b,rfl,_,hb⟩:=aS TM j y ey
    have e2:decide (T[j]?=T'[j]?)=decide (r=r'):=by
     rw[hr,hr',aa0,aaS,aaS]
     exact⟨λq=>aah q,λq=>by rw[q]⟩
    rw[e2]
    exact N5 ha hb
   ·rw[aas (λq=>hl (by rw[q]))]
    exact qU.len ne (aM.of e3) (aM.of N9) 'b'
theorem LR{α:Type}[DecidableEq α]{x:α}:∀{l:List α},x∈l->yi x l<l.length/\l[yi x l]?=some x
 |y::l,h=>by
  unfold yi
  by_cases e:y=x
  ·rw[aal e,e];exact⟨by simp,rfl⟩
  ·have h2:x∈l:=by
    rcases aat.mp h with q|q
    ·exact absurd q.symm e
    ·exact q
   rw[aag e]
   have:=LR h2
   exact⟨by simp;omega,this.2⟩
theorem LS{α:Type}[DecidableEq α]{x:α}:∀{l:List α}{i:Nat},i<yi x l->l[i]?≠some x
 |[],i,h=>by simp
 |y::l,i,h=>by
  unfold yi at h
  by_cases e:y=x
  ·rw[aal e]at h;omega
  ·rw[aag e]at h
   cases i with
   |zero=>intro q;exact e (aah q)
   |succ i=>exact LS (l:=l) 'b'
theorem Oa{A B H:Hp}{v:V}{o o':Option (List (List Str))}(h:BZ A H v o)(h':BZ B H v o'):o=o':=by
 cases o with
 |none =>
  cases h
  cases o' with
  |none=>rfl
  |some T=>obtain⟨l,_,e,_⟩:=h';cases e
 |some T =>
  obtain⟨l,es,rfl,_,e3,e4⟩:=h
  cases o' with
  |none=>cases h'
  |some T' =>
   obtain⟨l',es',e,_,N9,TM⟩:=h'
   cases e
   rw[e3]at N9
   cases HO.lst.inj (aah N9)
   rw[wY e4 TM]
noncomputable def QL(A H:Hp)(o:Option (List (List Str)))(z:V):Bool:=@decide (BZ A H z o) (Classical.propDecidable _)
theorem AI{A H:Hp}{o o':Option (List (List Str))}{z:V}(h:BZ A H z o'):QL A H o z=decide (o'=o):=by
 unfold QL
 by_cases e:o'=o
 ·subst e;rw[aaq rfl];exact@decide_eq_true _ (Classical.propDecidable _) h
 ·rw[aas e];exact@decide_eq_false _ (Classical.propDecidable _) λq=>e (Oa h q)
def jc(n:Nat)(ws:List V):Nat:=if 8<n then 0 else if 6<ws.length then 1 else if ws.all Ay=true then 3 else 2
def B0(cs:List oY)(zs:List Str):List (List Nat):=zs.map λz=>readM (wX cs z)
theorem Ho{cs:List oY}{zs:List Str}:∀r∈B0 cs zs,r.length=cs.length:=λr hr=>by
 obtain⟨z,_,rfl⟩:=List.mem_map.mp hr
 unfold readM wX
 rw[aak,aak]
theorem CS{n:Nat}:HR 0 ((n:Int)).toNat=(List.range n).map nV:=by
 unfold HR
 rw[Int.toNat_natCast]
 refine List.map_congr_left λi _=>?_
 show V.int _=V.int (i:Int)
 rw[Int.zero_add]
def dS:Nat->Str
 | 0=>Str.ofString "eight"
 | 1=>Str.ofString "six"
 | 2=>Str.ofString "text"
 |_=>Str.ofString "told"
def LU(m:Int)(n:Nat)(b:Bool):Nat:=if 8<m then 0 else if 6<n then 1 else if b=true then 2 else 3
theorem Pc{x y r B:Int}(h1:0<=x)(h2:x<=B)(h3:0<=y)(h4:y<=B):∃m:Int,tE [V.int x,V.int y] (r % 2)=some (.int m)/\0<=m/\m<=B:=by
 rcases(by omega:r % 2=0\/r % 2=1) with e|e<;>rw[e]
 ·exact⟨x,O,h1,h2⟩
 ·exact⟨y,O,h3,h4⟩
theorem QM{n:Nat}{m:Int}{ws:List V}{b:Bool}(hn:(n:Int)=m)(h:ws.all Ay=!b):jc n ws=LU m ws.length b:=by
 unfold jc LU
 by_cases c1:8<n
 ·rw[aal c1,aal (show 8<m by omega)]
 rw[aag c1,aag (show ¬8<m by omega)]
 by_cases c2:6<ws.length
 ·rw[aal c2,aal c2]
 rw[aag c2,aag c2,h]
 cases b<;>rfl
theorem lN:aF ["sign","number"] ["sign"] (au iF):=⟨rfl,rfl,rfl,by decide +kernel,rfl,by decide +kernel,by decide +kernel⟩
theorem oJ:aF ["thing","least","most"] ["thing","least","most"] (au cZ):=⟨rfl,rfl,rfl,by decide +kernel,rfl,by decide +kernel,by decide +kernel⟩
theorem g9:aF ["self","parts","quotes","frees","twin","wide","thin","stray","truth"] ["self","parts","quotes","frees","twin","wide","thin","stray"] (au bh):=⟨rfl,rfl,rfl,by decide +kernel,rfl,by decide +kernel,by decide +kernel⟩
theorem u5:aF ["self"] ["self"] (au iG):=⟨rfl,rfl,rfl,by decide +kernel,rfl,by decide +kernel,by decide +kernel⟩
theorem yj:aF ["told"] ["told"] (au kK):=⟨rfl,rfl,rfl,by decide +kernel,rfl,by decide +kernel,by decide +kernel⟩
theorem tR:aF ["self","dialect"] ["self","dialect"] (au gT):=⟨rfl,rfl,rfl,by decide +kernel,rfl,by decide +kernel,by decide +kernel⟩
theorem oK:aF ["self","most"] ["self","most"] (au fF):=⟨rfl,rfl,rfl,by decide +kernel,rfl,by decide +kernel,by decide +kernel⟩
theorem CU:aF ["thing","least","most"] ["thing","least","most"] (au ql):=⟨rfl,rfl,rfl,by decide +kernel,rfl,by decide +kernel,by decide +kernel⟩
theorem qt:aF ["text"] ["text"] (au dM):=⟨rfl,rfl,rfl,by decide +kernel,rfl,by decide +kernel,by decide +kernel⟩
theorem EA:aF ["thing"] ["thing"] (au tK):=⟨rfl,rfl,rfl,by decide +kernel,rfl,by decide +kernel,by decide +kernel⟩
theorem mP:aF ["dialect","state","sign"] ["dialect","state","sign"] (au eZ):=⟨rfl,rfl,rfl,by decide +kernel,rfl,by decide +kernel,by decide +kernel⟩
theorem tS:aF ["dialect","sign"] ["dialect","sign"] (au gU):=⟨rfl,rfl,rfl,by decide +kernel,rfl,by decide +kernel,by decide +kernel⟩
theorem wZ:aF ["dialect","quote","sign"] ["dialect","quote","sign"] (au jG):=⟨rfl,rfl,rfl,by decide +kernel,rfl,by decide +kernel,by decide +kernel⟩
theorem xg:aF ["dialect","sign"] ["dialect","sign"] (au jH):=⟨rfl,rfl,rfl,by decide +kernel,rfl,by decide +kernel,by decide +kernel⟩
theorem tU:aF ["dialect","quote","sign"] ["dialect","quote","sign"] (au gW):=⟨rfl,rfl,rfl,by decide +kernel,rfl,by decide +kernel,by decide +kernel⟩
theorem yk:aF ["dialect","quote","sign"] ["dialect","quote","sign"] (au kL):=⟨rfl,rfl,rfl,by decide +kernel,rfl,by decide +kernel,by decide +kernel⟩
theorem kZ:aF ["self","state","sign","word","quote"] ["self","state","sign"] (au mG):=⟨rfl,rfl,rfl,by decide +kernel,rfl,by decide +kernel,by decide +kernel⟩
theorem yl:aF ["thing"] ["thing"] (au kM):=⟨rfl,rfl,rfl,by decide +kernel,rfl,by decide +kernel,by decide +kernel⟩
theorem k7:aF ["dialect","text","turn","kinds","state","sign","step"] ["dialect","text"] (au Er):=⟨rfl,rfl,rfl,by decide +kernel,rfl,by decide +kernel,by decide +kernel⟩
theorem tV:aF ["walked","kinds","word"] ["walked"] (au wL):=⟨rfl,rfl,rfl,by decide +kernel,rfl,by decide +kernel,by decide +kernel⟩
theorem cu:aF ["text","kinds","table","row","cell","sign","kind"] ["text","kinds"] (au qm):=⟨rfl,rfl,rfl,by decide +kernel,rfl,by decide +kernel,by decide +kernel⟩
theorem oZ:aF ["dialect","text","walked"] ["dialect","text"] (au kN):=⟨rfl,rfl,rfl,by decide +kernel,rfl,by decide +kernel,by decide +kernel⟩
theorem mQ:aF ["dialects","texts","text"] ["dialects","texts"] (au jI):=⟨rfl,rfl,rfl,by decide +kernel,rfl,by decide +kernel,by decide +kernel⟩
theorem mR:aF ["dialects","text","tables"] ["dialects","text"] (au fk):=⟨rfl,rfl,rfl,by decide +kernel,rfl,by decide +kernel,by decide +kernel⟩
theorem jj:aF ["readings","places","parts","place","beside"] ["readings","places"] (au kO):=⟨rfl,rfl,rfl,by decide +kernel,rfl,by decide +kernel,by decide +kernel⟩
theorem rq:aF ["all_readings","places"] ["all_readings","places"] (au eO):=⟨rfl,rfl,rfl,by decide +kernel,rfl,by decide +kernel,by decide +kernel⟩
theorem ef:aF ["all_readings","places","depth","at","readings","parts","branches"] ["all_readings","places","depth"] (au gH):=⟨rfl,rfl,rfl,by decide +kernel,rfl,by decide +kernel,by decide +kernel⟩
theorem fG:aF ["dialects","texts","all_readings","places","depth","tree"] ["dialects","texts"] (au n5):=⟨rfl,rfl,rfl,by decide +kernel,rfl,by decide +kernel,by decide +kernel⟩
theorem ym:aF ["thing","places"] ["thing","places"] (au iA):=⟨rfl,rfl,rfl,by decide +kernel,rfl,by decide +kernel,by decide +kernel⟩
theorem iL:aF ["all_readings","places","at","branches","parts"] ["all_readings","places","at","branches"] (au dN):=⟨rfl,rfl,rfl,by decide +kernel,rfl,by decide +kernel,by decide +kernel⟩
theorem u6:aF ["all_readings","places","thing"] ["all_readings","places","thing"] (au iH):=⟨rfl,rfl,rfl,by decide +kernel,rfl,by decide +kernel,by decide +kernel⟩
theorem CV:aF ["dialects","texts","tree","all_readings"] ["dialects","texts","tree"] (au vU):=⟨rfl,rfl,rfl,by decide +kernel,rfl,by decide +kernel,by decide +kernel⟩
theorem u7:aF ["_law_script","_law_k"] ["_law_script","_law_k"] (au iI):=⟨rfl,rfl,rfl,by decide +kernel,rfl,by decide +kernel,by decide +kernel⟩
theorem jM:aF ["_law_number_here","_law_salt","_law_one","_law_two"] ["_law_number_here","_law_salt"] (au kP):=⟨rfl,rfl,rfl,by decide +kernel,rfl,by decide +kernel,by decide +kernel⟩
theorem iM:aF ["_law_cell","_law_salt","_law_number_here","_law_high"] ["_law_cell","_law_salt"] (au jJ):=⟨rfl,rfl,rfl,by decide +kernel,rfl,by decide +kernel,by decide +kernel⟩
theorem eS:aF ["_law_number_here","_law_many","_law_menu_here","_law_found","_law_k","_law_sign"] ["_law_number_here","_law_many","_law_menu_here"] (au mH):=⟨rfl,rfl,rfl,by decide +kernel,rfl,by decide +kernel,by decide +kernel⟩
theorem o7:aF ["_law_way","_law_every"] ["_law_way"] (au kQ):=⟨rfl,rfl,rfl,by decide +kernel,rfl,by decide +kernel,by decide +kernel⟩
theorem bE:aF ["_law_cell","_law_number_here","_law_flags_here","_law_sizes","_law_menus_here","_law_parts","_law_quotes","_law_frees","_law_truths"] ["_law_cell"] (au mJ):=⟨rfl,rfl,rfl,by decide +kernel,rfl,by decide +kernel,by decide +kernel⟩
theorem dF:aF ["_law_cell","_law_many","_law_number_here","_law_found","_law_k"] ["_law_cell","_law_many"] (au iB):=⟨rfl,rfl,rfl,by decide +kernel,rfl,by decide +kernel,by decide +kernel⟩
theorem mS:aF ["_law_told_here","_law_x","_law_way","_law_some_here"] ["_law_told_here","_law_x"] (au qo):=⟨rfl,rfl,rfl,by decide +kernel,rfl,by decide +kernel,by decide +kernel⟩
theorem fq:aF ["_law_cells","_law_many","_law_tolds_here","_law_k","_law_cell","_law_xs"] ["_law_cells","_law_many"] (au kR):=⟨rfl,rfl,rfl,by decide +kernel,rfl,by decide +kernel,by decide +kernel⟩
theorem fX:aF ["_law_tolds_here","_law_menu_here","_law_told_here","_law_sign"] ["_law_tolds_here"] (au mK):=⟨rfl,rfl,rfl,by decide +kernel,rfl,by decide +kernel,by decide +kernel⟩
theorem fY:aF ["_law_cell","_law_tolds_here","_law_most","_law_xs","_law_menu_here","_law_text_here"] ["_law_cell","_law_tolds_here","_law_most"] (au jh):=⟨rfl,rfl,rfl,by decide +kernel,rfl,by decide +kernel,by decide +kernel⟩
theorem jN:aF ["_law_e","_law_flags_here"] ["_law_e"] (au kT):=⟨rfl,rfl,rfl,by decide +kernel,rfl,by decide +kernel,by decide +kernel⟩
theorem fD:aF ["_law_dialects","_law_texts","_law_tree","_law_e"] ["_law_dialects","_law_texts"] (au dZ):=⟨rfl,rfl,rfl,by decide +kernel,rfl,by decide +kernel,by decide +kernel⟩
theorem CW:aF ["_law_many","_law_texts","_law_spoilt"] ["_law_many","_law_texts","_law_spoilt"] (au qp):=⟨rfl,rfl,rfl,by decide +kernel,rfl,by decide +kernel,by decide +kernel⟩
theorem iN:aF ["_law_script","_law_tolds_here","_law_cell","_law_number_here","_law_many","_law_size","_law_texts","_law_spoilt","_law_odd","_law_dialects","_law_turn"] ["_law_script"] (au oW):=⟨rfl,rfl,rfl,by decide +kernel,rfl,by decide +kernel,by decide +kernel⟩
structure Txt(P:Program)(w:World)(base:Heap)(K:W.Frag)(mg:Str->Option Value)(av:Nat->Addr)(aN:Nat->FuncData)(cW:Nat->Str):Prop where
 iO:eY K "is_printable" "is_printable" iF (av 0) (aN 0)
 mT:Binds K (aN 0) ["sign"] []
 mU:mg "is_printable"=some (.ref (av 0))
 c6:eY K "are_unlike_signs" "are_unlike_signs" cZ (av 1) (aN 1)
 fH:Binds K (aN 1) ["thing","least","most"] []
 fJ:mg "are_unlike_signs"=some (.ref (av 1))
 qu:Nv K "__init__" "Dialect.__init__" bh (av 2) (aN 2) (.ref (av 77))
 qv:Binds K (aN 2) ["self","parts","quotes","frees","twin","wide","thin","stray"] []
 xh:eY K "told" "Dialect.told" iG (av 3) (aN 3)
 xj:Binds K (aN 3) ["self"] []
 xm:Meth K (av 50) "told" (av 3)
 k8:eY K "dialect_of" "dialect_of" kK (av 4) (aN 4)
 rz:Binds K (aN 4) ["told"] []
 rB:mg "dialect_of"=some (.ref (av 4))
 u9:eY K "__init__" "Turn.__init__" gT (av 5) (aN 5)
 vd:Binds K (aN 5) ["self","dialect"] []
 CY:eY K "__init__" "NoWriting.__init__" gM (av 6) (aN 6)
 CZ:Binds K (aN 6) ["self","row","cell"] []
 Hq:eY K "__init__" "Broken.__init__" jf (av 7) (aN 7)
 Hr:Binds K (aN 7) ["self","row","place","word"] []
 qw:eY K "__init__" "TooMany.__init__" fF (av 8) (aN 8)
 iP:Binds K (aN 8) ["self","most"] []
 Hs:eY K "__init__" "NoName.__init__" jg (av 9) (aN 9)
 Ht:Binds K (aN 9) ["self","name"] []
 qx:eY K "is_whole" "is_whole" ql (av 10) (aN 10)
 xr:Binds K (aN 10) ["thing","least","most"] []
 xu:mg "is_whole"=some (.ref (av 10))
 jk:eY K "has_signs_alone" "has_signs_alone" dM (av 11) (aN 11)
 rC:Binds K (aN 11) ["text"] []
 rD:mg "has_signs_alone"=some (.ref (av 11))
 zN:eY K "is_text" "is_text" tK (av 12) (aN 12)
 Iu:Binds K (aN 12) ["thing"] []
 Iv:mg "is_text"=some (.ref (av 12))
 ia:eY K "step_at_beginning" "step_at_beginning" eZ (av 13) (aN 13)
 oM:Binds K (aN 13) ["dialect","state","sign"] []
 oN:mg "step_at_beginning"=some (.ref (av 13))
 lO:eY K "step_in_plain" "step_in_plain" gU (av 14) (aN 14)
 vf:Binds K (aN 14) ["dialect","sign"] []
 vg:mg "step_in_plain"=some (.ref (av 14))
 o8:eY K "step_within" "step_within" jG (av 15) (aN 15)
 yo:Binds K (aN 15) ["dialect","quote","sign"] []
 yp:mg "step_within"=some (.ref (av 15))
 jO:eY K "step_behind" "step_behind" jH (av 16) (aN 16)
 o9:Binds K (aN 16) ["dialect","sign"] []
 pe:mg "step_behind"=some (.ref (av 16))
 lP:eY K "step_in_doubt" "step_in_doubt" gW (av 17) (aN 17)
 vh:Binds K (aN 17) ["dialect","quote","sign"] []
 vj:mg "step_in_doubt"=some (.ref (av 17))
 rE:eY K "step_freed" "step_freed" kL (av 18) (aN 18)
 AJ:Binds K (aN 18) ["dialect","quote","sign"] []
 AK:mg "step_freed"=some (.ref (av 18))
 C0:eY K "step" "Turn.step" mG (av 19) (aN 19)
 C1:Binds K (aN 19) ["self","state","sign"] []
 C2:Meth K (av 51) "step" (av 19)
 k9:eY K "check_text" "check_text" kM (av 20) (aN 20)
 rF:Binds K (aN 20) ["thing"] []
 rG:mg "check_text"=some (.ref (av 20))
 LV:eY K "walk" "walk" Er (av 21) (aN 21)
 QN:Binds K (aN 21) ["dialect","text"] []
 QO:mg "walk"=some (.ref (av 21))
 C3:eY K "end_of" "end_of" wL (av 22) (aN 22)
 LW:Binds K (aN 22) ["walked"] []
 LX:mg "end_of"=some (.ref (av 22))
 xw:eY K "table_of" "table_of" qm (av 23) (aN 23)
 EB:Binds K (aN 23) ["text","kinds"] []
 EC:mg "table_of"=some (.ref (av 23))
 rH:eY K "reading_of" "reading_of" kN (av 24) (aN 24)
 AL:Binds K (aN 24) ["dialect","text"] []
 AM:mg "reading_of"=some (.ref (av 24))
 pq:eY K "check_asked" "check_asked" jI (av 25) (aN 25)
 yq:Binds K (aN 25) ["dialects","texts"] []
 yr:mg "check_asked"=some (.ref (av 25))
 jP:eY K "readings_of" "readings_of" fk (av 26) (aN 26)
 pA:Binds K (aN 26) ["dialects","text"] []
 pB:mg "readings_of"=some (.ref (av 26))
 lg:eY K "parts_of" "parts_of" kO (av 27) (aN 27)
 qy:Binds K (aN 27) ["readings","places"] []
 qz:mg "parts_of"=some (.ref (av 27))
 gA:eY K "are_read_alike" "are_read_alike" eO (av 28) (aN 28)
 j3:Binds K (aN 28) ["all_readings","places"] []
 j4:mg "are_read_alike"=some (.ref (av 28))
 jQ:eY K "tree_within" "tree_within" gH (av 29) (aN 29)
 pC:Binds K (aN 29) ["all_readings","places","depth"] []
 pD:mg "tree_within"=some (.ref (av 29))
 zO:eY K "tree_of" "tree_of" n5 (av 30) (aN 30)
 Iw:Binds K (aN 30) ["dialects","texts"] []
 Iz:mg "tree_of"=some (.ref (av 30))
 rJ:eY K "are_places" "are_places" iA (av 31) (aN 31)
 AO:Binds K (aN 31) ["thing","places"] []
 AQ:mg "are_places"=some (.ref (av 31))
 jm:eY K "sorts_by_asking" "sorts_by_asking" dN (av 32) (aN 32)
 rK:Binds K (aN 32) ["all_readings","places","at","branches"] []
 rL:mg "sorts_by_asking"=some (.ref (av 32))
 iQ:eY K "sorts_places" "sorts_places" iH (av 33) (aN 33)
 mV:Binds K (aN 33) ["all_readings","places","thing"] []
 mW:mg "sorts_places"=some (.ref (av 33))
 Hu:eY K "sorts" "sorts" vU (av 34) (aN 34)
 Ob:Binds K (aN 34) ["dialects","texts","tree"] []
 Oc:mg "sorts"=some (.ref (av 34))
 iR:eY K "_law_cell_at" "_law_cell_at" iI (av 35) (aN 35)
 mX:Binds K (aN 35) ["_law_script","_law_k"] []
 mY:mg "_law_cell_at"=some (.ref (av 35))
 aZ:eY K "_law_mixed" "_law_mixed" kP (av 36) (aN 36)
 bC:Binds K (aN 36) ["_law_number_here","_law_salt"] []
 bD:mg "_law_mixed"=some (.ref (av 36))
 pF:eY K "_law_number" "_law_number" jJ (av 37) (aN 37)
 yt:Binds K (aN 37) ["_law_cell","_law_salt"] []
 yu:mg "_law_number"=some (.ref (av 37))
 jq:eY K "_law_some" "_law_some" mH (av 38) (aN 38)
 mZ:Binds K (aN 38) ["_law_number_here","_law_many","_law_menu_here"] []
 m5:mg "_law_some"=some (.ref (av 38))
 rM:eY K "_law_menus" "_law_menus" kQ (av 39) (aN 39)
 AR:Binds K (aN 39) ["_law_way"] []
 AS:mg "_law_menus"=some (.ref (av 39))
 uC:eY K "_law_told" "_law_told" mJ (av 40) (aN 40)
 C4:Binds K (aN 40) ["_law_cell"] []
 C5:mg "_law_told"=some (.ref (av 40))
 lu:eY K "_law_drawn" "_law_drawn" iB (av 41) (aN 41)
 rN:Binds K (aN 41) ["_law_cell","_law_many"] []
 rO:mg "_law_drawn"=some (.ref (av 41))
 xx:eY K "_law_kin" "_law_kin" qo (av 42) (aN 42)
 ED:Binds K (aN 42) ["_law_told_here","_law_x"] []
 EE:mg "_law_kin"=some (.ref (av 42))
 rP:eY K "_law_tolds" "_law_tolds" kR (av 43) (aN 43)
 AU:Binds K (aN 43) ["_law_cells","_law_many"] []
 AV:mg "_law_tolds"=some (.ref (av 43))
 uD:eY K "_law_menu" "_law_menu" mK (av 44) (aN 44)
 C6:Binds K (aN 44) ["_law_tolds_here"] []
 C7:mg "_law_menu"=some (.ref (av 44))
 uE:eY K "_law_text" "_law_text" jh (av 45) (aN 45)
 C8:Binds K (aN 45) ["_law_cell","_law_tolds_here","_law_most"] []
 C9:mg "_law_text"=some (.ref (av 45))
 ly:eY K "_law_flags" "_law_flags" kT (av 46) (aN 46)
 rQ:Binds K (aN 46) ["_law_e"] []
 rR:mg "_law_flags"=some (.ref (av 46))
 iS:eY K "_law_refusal" "_law_refusal" dZ (av 47) (aN 47)
 m6:Binds K (aN 47) ["_law_dialects","_law_texts"] []
 m7:mg "_law_refusal"=some (.ref (av 47))
 xy:eY K "_law_due" "_law_due" qp (av 48) (aN 48)
 EF:Binds K (aN 48) ["_law_many","_law_texts","_law_spoilt"] []
 EG:mg "_law_due"=some (.ref (av 48))
 TN:eY K "law" "law" oW (av 49) (aN 49)
 Zl:Binds K (aN 49) ["_law_script"] []
 Zm:mg "law"=some (.ref (av 49))
 aI:J5 K (av 50)
 IA:mg "Dialect"=some (.ref (av 50))
 IB:Mk K (av 50) (av 2)
 bW:fT K (av 50) "parts"
 cy:fT K (av 50) "quotes"
 bX:fT K (av 50) "frees"
 eg:fT K (av 50) "twin"
 cQ:fT K (av 50) "wide"
 cR:fT K (av 50) "thin"
 dj:fT K (av 50) "stray"
 jr:J5 K (av 51)
 QS:mg "Turn"=some (.ref (av 51))
 QT:Mk K (av 51) (av 5)
 bK:fT K (av 51) "dialect"
 m8:mg "DialectError"=some (.ref (av 52))
 aR:cB K (av 52) (av 53) fV none
 vm:Y9 K (av 52)
 Dd:mg "NoText"=some (.ref (av 54))
 m9:cB K (av 54) (av 55) (.ref (av 52)::fV) none
 IC:mg "NoTable"=some (.ref (av 56))
 R0:cB K (av 56) (av 57) (.ref (av 52)::fV) none
 De:mg "NoDialect"=some (.ref (av 58))
 Pd:cB K (av 58) (av 59) (.ref (av 52)::fV) none
 EH:mg "NoFamily"=some (.ref (av 60))
 QU:cB K (av 60) (av 61) (.ref (av 52)::fV) none
 LY:mg "NoMost"=some (.ref (av 62))
 TQ:cB K (av 62) (av 63) (.ref (av 52)::fV) none
 Od:mg "NoAsk"=some (.ref (av 64))
 U6:cB K (av 64) (av 65) (.ref (av 52)::fV) none
 Oe:mg "NoRow"=some (.ref (av 66))
 U7:cB K (av 66) (av 67) (.ref (av 52)::fV) none
 LZ:mg "NoName"=some (.ref (av 68))
 TR:cB K (av 68) (av 69) (.ref (av 52)::fV) (some (.ref (av 9)))
 QV:W.keepIn K (.ref (av 68))=true
 R1:∃oI:Obj,K.lookup (av 9)=some oI/\oI.cls=.type "function"
 L4:J6 K (av 68) "name"
 oi:mg "TooMany"=some (.ref (av 70))
 cz:cB K (av 70) (av 71) (.ref (av 52)::fV) (some (.ref (av 8)))
 uF:W.keepIn K (.ref (av 70))=true
 lA:∃oI:Obj,K.lookup (av 8)=some oI/\oI.cls=.type "function"
 gX:J6 K (av 70) "most"
 L5:mg "Broken"=some (.ref (av 72))
 TU:cB K (av 72) (av 73) (.ref (av 52)::fV) (some (.ref (av 7)))
 QW:W.keepIn K (.ref (av 72))=true
 R3:∃oI:Obj,K.lookup (av 7)=some oI/\oI.cls=.type "function"
 MS:J6 K (av 72) "row"
 J9:J6 K (av 72) "place"
 L6:J6 K (av 72) "word"
 Df:mg "NoWriting"=some (.ref (av 74))
 Pe:cB K (av 74) (av 75) (.ref (av 52)::fV) (some (.ref (av 6)))
 MT:W.keepIn K (.ref (av 74))=true
 Og:∃oI:Obj,K.lookup (av 6)=some oI/\oI.cls=.type "function"
 ID:J6 K (av 74) "row"
 Hv:J6 K (av 74) "cell"
 zP:RW K (av 54)
 QX:W.keepIn K (.ref (av 54))=true
 oj:W.kitOne K (.ref (av 54)) (.type "ValueError")=some true
 cj:W.kitOne K (.ref (av 54)) (.ref (av 52))=some true
 eU:W.kitOne K (.ref (av 54)) (.ref (av 54))=some true
 fZ:W.kitOne K (.ref (av 54)) (.ref (av 56))=some false
 e9:W.kitOne K (.ref (av 54)) (.ref (av 58))=some false
 fK:W.kitOne K (.ref (av 54)) (.ref (av 60))=some false
 gB:W.kitOne K (.ref (av 54)) (.ref (av 62))=some false
 gY:W.kitOne K (.ref (av 54)) (.ref (av 64))=some false
 gZ:W.kitOne K (.ref (av 54)) (.ref (av 66))=some false
 gC:W.kitOne K (.ref (av 54)) (.ref (av 68))=some false
 cE:W.kitOne K (.ref (av 54)) (.ref (av 70))=some false
 gD:W.kitOne K (.ref (av 54)) (.ref (av 72))=some false
 ff:W.kitOne K (.ref (av 54)) (.ref (av 74))=some false
 lB:RW K (av 70)
 gE:W.kitOne K (.ref (av 70)) (.type "ValueError")=some true
 bT:W.kitOne K (.ref (av 70)) (.ref (av 52))=some true
 dO:W.kitOne K (.ref (av 70)) (.ref (av 54))=some false
 c7:W.kitOne K (.ref (av 70)) (.ref (av 56))=some false
 cF:W.kitOne K (.ref (av 70)) (.ref (av 58))=some false
 cL:W.kitOne K (.ref (av 70)) (.ref (av 60))=some false
 dP:W.kitOne K (.ref (av 70)) (.ref (av 62))=some false
 eV:W.kitOne K (.ref (av 70)) (.ref (av 64))=some false
 eX:W.kitOne K (.ref (av 70)) (.ref (av 66))=some false
 dQ:W.kitOne K (.ref (av 70)) (.ref (av 68))=some false
 c9:W.kitOne K (.ref (av 70)) (.ref (av 70))=some true
 dR:W.kitOne K (.ref (av 70)) (.ref (av 72))=some false
 cG:W.kitOne K (.ref (av 70)) (.ref (av 74))=some false
 pG:mg "ValueError"=none
 xA:mg "all"=none
 Hw:mg "bool"=none
 AW:mg "enumerate"=none
 EI:mg "int"=none
 aG:mg "isinstance"=none
 bQ:mg "len"=none
 om:mg "list"=none
 QY:mg "max"=none
 QZ:mg "ord"=none
 eo:mg "range"=none
 EJ:mg "str"=none
 xB:mg "tuple"=none
 EK:mg "zip"=none
 oq:∃t,mg "LINE"=some (.str (cW 0) t)
 lC:(cW 0)=("\n":Str)
 yw:∃t,mg "MOST_SIGNS"=some (.int 2000 t)
 nc:∃t,mg "MOST_SORTED"=some (.int 8 t)
 pH:∃t,mg "MOST_TEXTS"=some (.int 6 t)
 ng:mg "START"=some (.ref (av 76))
 nh:∃(o:Obj)(its:Array Value)(n:Nat),K.lookup (av 76)=some o/\o.cls=.type "tuple"/\o.data=.seq its n/\its.size<=sizeLine/\Vals [.str ("row":Str),.str ("":Str)] its.toList
section
variable{P:Program}{w:World}{K:W.Frag}{mg:Str->Option Value}{base:Heap}{av:Nat->Addr}{aN:Nat->FuncData}{cW:Nat->Str}
inductive lQ(vs:List V)(H:Hp)(Q:VK)(E_:XK):Prop where
 |mk (c:Nat):(vs=[.str (sg c)])->(Q (.bl (decide (Pn c))) H)->lQ vs H Q E_
section
variable(T:Txt P w base K mg av aN cW)
include T
abbrev zzz(_:Txt P w base K mg av aN cW)(e)(n i:Nat)(a b):=bx P w K mg base e n (av i) (aN i) a b
theorem lR:zzz T fu 1 0 ["sign"] lQ:=by
 refine T.iO.ok lN (λvs H Q E h=>?_) 'a'
 ·obtain⟨c,rfl,_⟩:=h;rfl
 ·have hu:=bz hr
  obtain⟨c,rfl,k⟩:=h
  refine⟨_,(ai (fB 1 lN.nd (gm Ku T.QZ (af (pv 0) ah)))
   (ao (az (sU (BX Kr (pv 1) ak) (sU (BX OU (pv 1) ak) (sS (BX zf (pv 1) ak))))))),?_⟩
  refine⟨_,O,_,O,O,?_⟩
  refine⟨_,O,_,_,O,O,_,O,bP (λh1=>?_) (λh1=>?_)⟩
  ·have h1:(32:Int)<=((c:Nat):Int):=aaX h1
   refine⟨_,O,_,_,O,O,_,O,bP (λh2=>?_) (λh2=>?_)⟩
   ·have h2:((c:Nat):Int)<=126:=aaX h2
    refine⟨_,O,O,?_⟩
    have e:(!decide (V.int ((c:Nat):Int)=V.int 37))=decide (Pn c):=by
     by_cases h3:c=37
     ·subst h3;decide
     ·have n1:¬(V.int ((c:Nat):Int)=V.int 37):=λz=>h3 (by injection z with z;omega)
      rw[aas n1,aaq (show Pn c from⟨by omega,by omega,h3⟩)];rfl
    show Q (.bl (!decide (V.int ((c:Nat):Int)=V.int 37))) H
    rw[e];exact k
   ·have e:decide (((c:Nat):Int)<=126)=decide (Pn c):=by
     have n1:¬((c:Nat):Int)<=126:=λz=>h2 (aaq z)
     rw[aas n1,aas (λz:Pn c=>n1 (by have:=z.2.1;omega))]
    rw[←e,show decide (((c:Nat):Int)<=126)=false from Bool.eq_false_iff.mpr h2]at k
    exact k
  ·have e:decide ((32:Int)<=((c:Nat):Int))=decide (Pn c):=by
    have n1:¬(32:Int)<=((c:Nat):Int):=λz=>h1 (aaq z)
    rw[aas n1,aas (λz:Pn c=>n1 (by have:=z.1;omega))]
   rw[←e,show decide ((32:Int)<=((c:Nat):Int))=false from Bool.eq_false_iff.mpr h1]at k
   exact k
inductive ic(vs:List V)(H:Hp)(Q:VK)(E_:XK):Prop where
 |mk (z:Str) (lo hi:Int):(vs=[.str z,.int lo,.int hi])->(Sg z)->(lo<=z.length)->((z.length:Int)<=hi)->(z.length<=1000)->(∀H',aC H H'->Q (.bl true) H')->ic vs H Q E_
theorem oO:zzz T fu 2 1 ["thing","least","most"] ic:=by
 have iT:=lR T
 refine T.c6.ok oJ (λvs H Q E h=>?_) 'a'
 ·obtain⟨z,lo,hi,rfl,_⟩:=h;rfl
 ·have hu:=bz hr
  obtain⟨z,lo,hi,rfl,g,hlo,hhi,hz,k⟩:=h
  have yx:z.length<=sizeLine:=aay hz 'c'
  refine⟨_,(ai (aK (PW.pt (lM (dX (bO (gm (cg K rfl) T.aG (af (pv 0) (af (J8 "str" T.EJ) ah))))) (lM (eN ur (gm eH T.bQ (af (pv 0) ah)) (pv 1)) (kF (eN qP (gm eH T.bQ (af (pv 0) ah)) (pv 2)))))) (ao (az jX)) aA)
   (ao (az (gm (jZ K rfl rfl) T.xA (af (iz rfl (show aT ["thing","least","most"] (au cZ) ["sign","thing"] 1 [0] _ from CA) (Ak (pv 0)) (λ_ _ _ _=>(kC 0 (show(["sign","thing"]:List Str).Nodup by decide +kernel))) (λ_ _ _ _=>cJ) (λ_ _ _ _=>(sU (fh iT hr T.mU T.iO.kp T.mT (af (pv 0) ah)) (sS (BX bg (fU K rfl PySem.F.plainAttrs_str PySem.F.slot_str_count PySem.F.type_str_count Cg (pv 1) (af (pv 0) ah)) ak))))) ah))))),?_⟩
  refine⟨_,O,_,_,_,true,O,.str _,.inl ⟨_,O,O⟩,true,O,bS ?_⟩
  refine⟨_,O,z,O,yx,_,O,_,_,O,O,_,O,O8 'b' ?_⟩
  refine⟨_,O,z,O,yx,_,O,_,_,O,O,_,O,O8 'b' ?_⟩
  refine⟨_,O,z,O,λD hD=>?_⟩
  have hsz:z.cps.toList.length=z.length:=by rw[aaE];rfl
  refine Ce (λi ys τ H2=>(∃v,τ=[v,some (.str z)])/\aC H H2/\H2 D=some (.lst ys)/\ys=(List.replicate i true).map V.bl) ⟨⟨_,rfl⟩,aq hD,aj,rfl⟩ (λi ys τ H2 _ p=>p.2.2.1) ?_ ?_
  ·rintro i c ys τ H2 hi ⟨⟨v,rfl⟩,s2,hl,rfl⟩
   have hc:c∈z.cps.toList:=aau hi
   have hil:i<z.cps.toList.length:=(aaj.mp hi).1
   refine qq ?_
   refine⟨_,O,c,O,_,O,wN (aaq (g.pr c hc)) ?_⟩
   refine⟨_,O,O,_,O,z,c,O,O,O,?_⟩
   have e:decide (V.int (PyProof.Rows.cnt c z.cps.toList)=V.int 1)=true:=by rw[GX g.nd hc];exact aaq rfl
   rw[e]
   refine⟨hl,?_,⟨_,O⟩,aE hD s2,aj,?_⟩
   ·rw[aak,List.length_replicate]
    exact aav (show i<1001 by omega) 'c'
   ·rw[List.replicate_succ',aaF];rfl
  ·rintro ys τ H2 ⟨⟨v,rfl⟩,s2,hl,rfl⟩
   refine⟨D,List.replicate _ true,O,aM.of hl,?_⟩
   have e:(List.replicate z.cps.toList.length true).all id=true:=by
    rw[aaB]
    intro b hb
    exact(List.mem_replicate.mp hb).2
   rw[e]
   exact k H2 s2
inductive ie(C:Addr)(vs:List V)(H:Hp)(Q:VK)(E_:XK):Prop where
 |mk (x dx:Addr) (p q f:Str) (b1 b2 b3 b4:Bool):(vs=.ref x::wM p q f b1 b2 b3 b4)->(H x=some (.ins C dx []))->(Gd p q f)->(∀H',H' x=some (.ins C dx (G9 p q f b1 b2 b3 b4))->(∀b o,H b=some o->b≠x->H' b=some o)->Q .non H')->ie C vs H Q E_
theorem oQ:zzz T fu 3 2 ["self","parts","quotes","frees","twin","wide","thin","stray"] (ie (av 50)):=by
 have fL:=oO T
 refine T.qu.ok g9 (λvs H Q E h=>?_) 'a'
 ·obtain⟨x,dx,p,q,f,b1,b2,b3,b4,rfl,_⟩:=h;rfl
 ·have hu:=bz hr
  obtain⟨x,dx,p,q,f,b1,b2,b3,b4,rfl,hx,g,k⟩:=h
  have hp1:=g.p1;have hp3:=g.p3;have hq2:=g.q2;have hf2:=g.f2
  refine⟨_,(ai (aK (dX (bO (fh fL hr T.fJ T.c6.kp T.fH (af (pv 1) (af ak (af ak ah)))))) (ao mw) aA)
   (ai (aK (dX (bO (fh fL hr T.fJ T.c6.kp T.fH (af (pv 2) (af ak (af ak ah)))))) (ao mw) aA)
   (ai (aK (dX (bO (fh fL hr T.fJ T.c6.kp T.fH (af (pv 3) (af ak (af ak ah)))))) (ao mw) aA)
   (ai (gv aa3 rfl (Nu K rfl (aQ (af (pv 4) (af (pv 5) (af (pv 6) (af (pv 7) ah)))))) (kC 8 g9.nd)
   (ao (aK (dX (bO (gm (cg K rfl) T.aG (af (pv 8) (af (J8 "bool" T.Hw) ah))))) (ao mw) aA)))
   (ai (mD (pv 0) (pv 1) rfl)
   (ai (mD (pv 0) (pv 2) rfl)
   (ai (mD (pv 0) (pv 3) rfl)
   (ai (mD (pv 0) (pv 4) rfl)
   (ai (mD (pv 0) (pv 5) rfl)
   (ai (mD (pv 0) (pv 6) rfl)
   (ao (mD (pv 0) (pv 7) rfl)))))))))))),?_⟩
  refine⟨_,O,p,1,3,O,g.gp,by omega,by omega,by omega,λH1 s1=>⟨true,O,bS ?_⟩⟩
  refine⟨_,O,q,0,2,O,g.gq,by omega,by omega,by omega,λH2 s2=>⟨true,O,bS ?_⟩⟩
  refine⟨_,O,f,0,2,O,g.gf,by omega,by omega,by omega,λH3 s3=>⟨true,O,bS ?_⟩⟩
  refine⟨_,O,_,O,_,O,_,O,(by show 4<=sizeLine;decide),λt ht=>⟨t,O,⟨_,bR.of aj⟩,?_⟩⟩
  have WA:aC H (upd H3 t (.tup [.bl b1,.bl b2,.bl b3,.bl b4])):=((s1.trans s2).trans s3).trans (aq ht)
  have U8:(upd H3 t (.tup [.bl b1,.bl b2,.bl b3,.bl b4])) t=some (.tup [.bl b1,.bl b2,.bl b3,.bl b4]):=aj
  generalize upd H3 t (.tup [.bl b1,.bl b2,.bl b3,.bl b4])=H4 at WA U8⊢
  refine M6 (K:=K) (a:=t) (xs:=[.bl b1,.bl b2,.bl b3,.bl b4]) (λi σ H5=>H5=H4/\∃v,σ=[some (.ref x),some (.str p),some (.str q),some (.str f),some (.bl b1),some (.bl b2),some (.bl b3),some (.bl b4),v]) ⟨rfl,_,rfl⟩ (λi σ H5 _ q=>by rw[q.1];exact bR.of U8) ?_ ?_
  ·rintro i y σ H5 hi ⟨rfl,v,rfl⟩
   obtain⟨b,rfl⟩:∃b,y=V.bl b:=by
    have hi4:i<4:=(aaj.mp hi).1
    match i,hi4,hi with
    | 0,_,hi=>exact⟨_,(aah hi).symm⟩
    | 1,_,hi=>exact⟨_,(aah hi).symm⟩
    | 2,_,hi=>exact⟨_,(aah hi).symm⟩
    | 3,_,hi=>exact⟨_,(aah hi).symm⟩
   refine⟨_,O,_,_,_,true,O,.bl _,.inl ⟨_,O,O⟩,true,O,bS ?_⟩
   exact⟨O,_,O⟩
  ·rintro σ H5 ⟨rfl,v,rfl⟩
   have hx5:=WA _ _ hx
   refine⟨_,O,_,O,x,(av 50),dx,_,O,hx5,T.aI,T.bW,(by show 0<1000;decide),_,O,_,O,x,(av 50),dx,_,O,aj,T.aI,T.cy,(by show 1<1000;decide),_,O,_,O,x,(av 50),dx,_,O,aj,T.aI,T.bX,(by show 2<1000;decide),_,O,_,O,x,(av 50),dx,_,O,aj,T.aI,T.eg,(by show 3<1000;decide),_,O,_,O,x,(av 50),dx,_,O,aj,T.aI,T.cQ,(by show 4<1000;decide),_,O,_,O,x,(av 50),dx,_,O,aj,T.aI,T.cR,(by show 5<1000;decide),_,O,_,O,x,(av 50),dx,_,O,aj,T.aI,T.dj,(by show 6<1000;decide),?_⟩
   refine k _ aj λb o e hb=>?_
   rw[aB hb,aB hb,aB hb,aB hb,aB hb,aB hb,aB hb]
   exact WA _ _ e
inductive lS(C:Addr)(vs:List V)(H:Hp)(Q:VK)(E_:XK):Prop where
 |mk (x dx:Addr) (p q f:Str) (b1 b2 b3 b4:Bool):(vs=[.ref x])->(H x=some (.ins C dx (G9 p q f b1 b2 b3 b4)))->(∀t,H t=none->Q (.ref t) (upd H t (.tup (wM p q f b1 b2 b3 b4))))->lS C vs H Q E_
theorem vn:zzz T fu 1 3 ["self"] (lS (av 50)):=by
 refine T.xh.ok u5 (λvs H Q E h=>?_) 'a'
 ·obtain⟨x,dx,p,q,f,b1,b2,b3,b4,rfl,_⟩:=h;rfl
 ·have hu:=bz hr
  obtain⟨x,dx,p,q,f,b1,b2,b3,b4,rfl,hx,k⟩:=h
  refine⟨_,(ao (az (aQ (af (bB K rfl (pv 0) rfl) (af (bB K rfl (pv 0) rfl) (af (bB K rfl (pv 0) rfl) (af (bB K rfl (pv 0) rfl) (af (bB K rfl (pv 0) rfl) (af (bB K rfl (pv 0) rfl) (af (bB K rfl (pv 0) rfl) ah)))))))))),?_⟩
  refine⟨_,O,x,(av 50),dx,_,_,O,hx,T.aI,T.bW,O,_,O,x,(av 50),dx,_,_,O,hx,T.aI,T.cy,O,_,O,x,(av 50),dx,_,_,O,hx,T.aI,T.bX,O,_,O,x,(av 50),dx,_,_,O,hx,T.aI,T.eg,O,_,O,x,(av 50),dx,_,_,O,hx,T.aI,T.cQ,O,_,O,x,(av 50),dx,_,_,O,hx,T.aI,T.cR,O,_,O,x,(av 50),dx,_,_,O,hx,T.aI,T.dj,O,(by show 7<=sizeLine;decide),λt ht=>?_⟩
  exact k t ht
inductive pI(C:Addr)(vs:List V)(H:Hp)(Q:VK)(E_:XK):Prop where
 |mk (t:Addr) (p q f:Str) (b1 b2 b3 b4:Bool):(vs=[.ref t])->(H t=some (.tup (wM p q f b1 b2 b3 b4)))->(Gd p q f)->(∀(x dx:Addr)(H':Hp),H x=none->H' x=some (.ins C dx (G9 p q f b1 b2 b3 b4))->aC H H'->Q (.ref x) H')->pI C vs H Q E_
theorem pJ:zzz T fu 5 4 ["told"] (pI (av 50)):=by
 have qA:=oQ T
 refine T.k8.ok yj (λvs H Q E h=>?_) 'a'
 ·obtain⟨t,p,q,f,b1,b2,b3,b4,rfl,_⟩:=h;rfl
 ·have hu:=bz hr
  obtain⟨t,p,q,f,b1,b2,b3,b4,rfl,ht,g,k⟩:=h
  have hS:bR K H t (wM p q f b1 b2 b3 b4):=bR.of ht
  refine⟨_,(ai (aK (PW.pt (lM (dX (bO (gm (Ci K rfl) T.aG (af (pv 0) (af (J8 "tuple" T.xB) ah))))) (kF (eN zf (gm (aJ K rfl) T.bQ (af (pv 0) ah)) ak)))) (ao mw) aA)
   (ao (az (GP (k:=3) T.IB qA (hr.mono 'c') rfl T.IA T.qv .nil Cd (af (uA K (pv 0) ak) (af (uA K (pv 0) ak) (af (uA K (pv 0) ak) (af (uA K (pv 0) ak) (af (uA K (pv 0) ak) (af (uA K (pv 0) ak) (af (uA K (pv 0) ak) ah))))))))))),?_⟩
  refine⟨_,O,t,_,_,true,O,.inl ⟨hS,O⟩,true,O,bS ?_⟩
  refine⟨_,O,t,_,O,.inr hS,O,_,O,SJ rfl ?_⟩
  refine⟨_,O,t,_,_,_,O,O,hS,O,_,O,t,_,_,_,O,O,hS,O,_,O,t,_,_,_,O,O,hS,O,_,O,t,_,_,_,O,O,hS,O,_,O,t,_,_,_,O,O,hS,O,_,O,t,_,_,_,O,O,hS,O,_,O,t,_,_,_,O,O,hS,O,λx dx hx hdx ne=>?_⟩
  refine⟨x,dx,p,q,f,b1,b2,b3,b4,O,aj,g,λH2 h2 kp=>⟨O,k x dx H2 hx h2 λb o e=>kp b o ?_ (aU e hx)⟩⟩
  rw[aB (aU e hx),aB (aU e hdx)]
  exact e
inductive j5(C CT:Addr)(vs:List V)(H:Hp)(Q:VK)(E_:XK):Prop where
 |mk (y dy x dx:Addr) (p q f:Str) (b1 b2 b3 b4:Bool):(vs=[.ref y,.ref x])->(H y=some (.ins CT dy []))->(H x=some (.ins C dx (G9 p q f b1 b2 b3 b4)))->(Gd p q f)->(∀H',Tn C CT H' y p q f b1 b2 b3 b4->(∀b o,H b=some o->b≠y->H' b=some o)->Q .non H')->j5 C CT vs H Q E_
theorem tW:zzz T fu 6 5 ["self","dialect"] (j5 (av 50) (av 51)):=by
 have xC:=vn T
 have lE:=pJ T
 refine T.u9.ok tR (λvs H Q E h=>?_) 'a'
 ·obtain⟨y,dy,x,dx,p,q,f,b1,b2,b3,b4,rfl,_⟩:=h;rfl
 ·have hu:=bz hr
  obtain⟨y,dy,x,dx,p,q,f,b1,b2,b3,b4,rfl,hy,hx,g,k⟩:=h
  refine⟨_,(ao (mD (pv 0) (fh lE hr T.rB T.k8.kp T.rz (af (KA (k:=1) (pv 1) T.aI T.xm xC (hr.mono 'c') T.xj .nil Cd) ah)) rfl)),?_⟩
  refine⟨_,O,x,dx,_,O,hx,O,x,dx,p,q,f,b1,b2,b3,b4,O,hx,λt ht=>?_⟩
  have s1:=aq (o:=HO.tup (wM p q f b1 b2 b3 b4)) ht
  refine⟨t,p,q,f,b1,b2,b3,b4,O,aj,g,λd dd H2 hd h2 s2=>?_⟩
  have s12:=s1.trans s2
  have nyd:d≠y:=λe=>by subst e;rw[s1 _ _ hy]at hd;cases hd
  refine⟨_,O,y,(av 51),dy,_,O,s12 _ _ hy,T.jr,T.bK,(by show 0<1000;decide),?_⟩
  refine k _ ⟨⟨dy,d,dd,aj,(aB nyd).trans h2⟩⟩ λb o e hb=>(aB hb).trans (s12 _ _ e)
inductive ig(CB:Addr)(vs:List V)(H:Hp)(Q:VK)(E_:XK):Prop where
 |mk (ea:Addr) (r:Int):(vs=[.ref ea,.int r])->(H ea=some (J7 ea (.ref CB) none))->(r.natAbs.log2<1920)->(∀d H',H d=none->d≠ea->H' ea=some (J7 ea (.ref CB) (some d))->H' d=some (MP d [(Str.ofString "most",.int r)])->(∀b,b≠ea->b≠d->H' b=H b)->Q .non H')->ig CB vs H Q E_
theorem oR:zzz T fu 1 8 ["self","most"] (ig (av 70)):=by
 refine T.qw.ok oK (λvs H Q E h=>?_) 'a'
 ·obtain⟨ea,r,rfl,_⟩:=h;rfl
 ·have hu:=bz hr
  obtain⟨ea,r,rfl,oV,hr0,k⟩:=h
  refine⟨_,(ai (eF (Ln rfl T.m8 T.vm T.cz (.inr ⟨_,_,O,T.aR⟩) (af (pv 0) (af (Ia (G4 ay (G4 (Qm (pv 1)) Qn))) ah))))
   (ao (Lo rfl T.cz (.inr ⟨_,_,rfl,T.aR⟩) T.gX (pv 0) (pv 1) rfl))),?_⟩
  refine⟨_,O,_,O,by decide +kernel,_,O,.inl ⟨r,O,hr0⟩,λz1 l1=>⟨_,O,l1,λzz=>?_⟩⟩
  refine⟨ea,none,_,O,oV,?_⟩
  refine⟨_,O,_,O,ea,O,oV,λd hd=>?_⟩
  have nd:d≠ea:=λz=>by rw[z,oV]at hd;cases hd
  refine k d _ hd nd ((aB (abi nd)).trans aj) aj λb h1 h2=>?_
  rw[aB h2,aB h1]
inductive uG(K:W.Frag)(vs:List V)(H:Hp)(Q:VK)(E_:XK):Prop where
 |mk (n:Nat) (v:V) (t:Th) (a b:Int):(vs=[v,.int a,.int b])->(RT H n v t)->(Q (.bl (kY t a b)) H)->uG K vs H Q E_
theorem uH:zzz T fu 1 10 ["thing","least","most"] (uG K):=by
 refine T.qx.ok CU (λvs H Q E h=>?_) 'a'
 ·obtain⟨n,v,t,a,b,rfl,_⟩:=h;rfl
 ·have hu:=bz hr
  obtain⟨n,v,t,a,b,rfl,hv,k⟩:=h
  refine⟨_,(ai (aK (PW.pt (lM (dX (bO (gm (cg K rfl) T.aG (af (pv 0) (af (J8 "int" T.EI) ah))))) (kF (bO (gm (cg K rfl) T.aG (af (pv 0) (af (J8 "bool" T.Hw) ah))))))) (ao (az jX)) aA)
   (ao (az (sU (BX Kr (pv 0) (pv 1)) (sS (BX OU (pv 0) (pv 2))))))),?_⟩
  rcases hv.three with ⟨_,l,es,ts,_,rfl,rfl,ha,_⟩|⟨_,l,es,ts,_,rfl,rfl,ha,_⟩|⟨rfl,e⟩
  ·exact⟨_,O,_,_,_,false,O,.lst ha,.inl ⟨_,O,O⟩,false,O,dh k⟩
  ·exact⟨_,O,_,_,_,false,O,.tup ha,.inl ⟨_,O,O⟩,false,O,dh k⟩
  cases v with
  |non=>exact⟨_,rfl,_,_,_,false,rfl,.non,.inl ⟨_,rfl,rfl⟩,false,rfl,dh k⟩
  |str z=>exact⟨_,rfl,_,_,_,false,rfl,.str z,.inl ⟨_,rfl,rfl⟩,false,rfl,dh k⟩
  |bl x=>exact⟨_,rfl,_,_,_,true,rfl,.bl x,.inl ⟨_,rfl,rfl⟩,true,rfl,bS ⟨_,rfl,_,_,_,true,rfl,.bl x,.inl ⟨_,rfl,rfl⟩,true,rfl,dh k⟩⟩
  |int n =>
   refine⟨_,O,_,_,_,true,O,.int n,.inl ⟨_,O,O⟩,true,O,bS ⟨_,O,_,_,_,false,O,.int n,.inl ⟨_,O,O⟩,false,O,bS ?_⟩⟩
   have k:Q (.bl (decide (a<=n/\n<=b))) H:=k
   refine⟨_,O,_,O,_,_,O,O,_,O,?_⟩
   by_cases h1:a<=n
   ·rw[aal (aaq h1)]
    refine⟨_,O,_,O,_,_,O,O,?_⟩
    show Q (.bl (decide (n<=b))) H
    rw[show decide (n<=b)=decide (a<=n/\n<=b) by rw[aa0,aaS,aaS];exact⟨λz=>⟨h1,z⟩,λz=>z.2⟩]
    exact k
   ·rw[aag (by rw[aas h1];decide)]
    rw[show decide (a<=n/\n<=b)=false from aas λz=>h1 z.1]at k
    exact k
  |_=>cases e
inductive iU(vs:List V)(H:Hp)(Q:VK)(E_:XK):Prop where
 |mk (z:Str):(vs=[.str z])->(z.length<=2000)->(∀H',aC H H'->Q (.bl (textOk z)) H')->iU vs H Q E_
theorem qB:zzz T fu 2 11 ["text"] iU:=by
 have iT:=lR T
 refine T.jk.ok qt (λvs H Q E h=>?_) 'a'
 ·obtain⟨z,rfl,_⟩:=h;rfl
 ·have hu:=bz hr
  obtain⟨z,rfl,hz,k⟩:=h
  refine⟨_,(ao (az (gm (jZ K rfl rfl) T.xA (af (iz rfl (show aT ["text"] (au dM) ["sign"] 1 [] _ from CA) (Ak (pv 0)) (λ_ _ _ _=>(kC 0 Wu)) (λ_ _ _ _=>cJ) (λ_ _ _ _=>(Sf (BX bg (pv 0) (nZ rfl T.oq.choose_spec)) (sS (fh iT hr T.mU T.iO.kp T.mT (af (pv 0) ah)))))) ah)))),?_⟩
  refine⟨_,O,z,O,λD hD=>?_⟩
  have hsz:z.cps.toList.length=z.length:=by rw[aaE];rfl
  refine Ce (λi ys τ H2=>(∃v,τ=[v])/\aC H H2/\H2 D=some (.lst ys)/\ys=((z.cps.toList.take i).map Hh).map V.bl) ⟨⟨_,rfl⟩,aq hD,aj,rfl⟩ (λi ys τ H2 _ p=>p.2.2.1) ?_ ?_
  ·rintro i c ys τ H2 hi ⟨⟨v,rfl⟩,s2,hl,rfl⟩
   have hil:i<z.cps.toList.length:=(aaj.mp hi).1
   have hlen:(((z.cps.toList.take i).map Hh).map V.bl).length<sizeLine:=by
    rw[aak,aak,aaL]
    exact aaD (show min i z.cps.toList.length<=2000 by omega) 'c'
   have fin:∀b,b=Hh c->H2 D=some (.lst (((z.cps.toList.take i).map Hh).map V.bl))/\(((z.cps.toList.take i).map Hh).map V.bl).length<sizeLine/\(∃v,[some (V.str (sg c))]=[v])/\aC H (upd H2 D (.lst (((z.cps.toList.take i).map Hh).map V.bl++[.bl b])))/\(upd H2 D (.lst (((z.cps.toList.take i).map Hh).map V.bl++[.bl b]))) D=some (.lst (((z.cps.toList.take i).map Hh).map V.bl++[.bl b]))/\((z.cps.toList.take i).map Hh).map V.bl++[.bl b]=((z.cps.toList.take (i+1)).map Hh).map V.bl:=λb hb=>by
    refine⟨hl,hlen,⟨_,O⟩,aE hD s2,aj,?_⟩
    rw[bV hi,aaF,aaF,hb];rfl
   refine qq ?_
   refine⟨_,O,O,_,O,bP (λh=>?_) (λh=>?_)⟩
   ·have h:decide (V.str (sg c)=V.str (cW 0))=true:=h
    have hc:c=10:=by
     have e:=aaX h
     rw[T.lC]at e
     have e2:sg c=sg 10:=(V.str.inj e).trans 'h'
     have:=congrArg (λz:Str=>z.cps.toList) e2
     exact(List.cons.inj (show [c]=[10]from this)).1
    exact fin true (by rw[hc];exact(aaq (.inl rfl)).symm)
   ·have hc:c≠10:=sgL T.lC h
    refine⟨_,O,c,O,fin _ ?_⟩
    unfold Hh
    by_cases hp:Pn c
    ·rw[aaq hp,aaq (.inr hp)]
    ·rw[aas hp,aas (λz=>z.elim hc hp)]
  ·rintro ys τ H2 ⟨⟨v,rfl⟩,s2,hl,rfl⟩
   refine⟨D,(z.cps.toList.take z.cps.toList.length).map Hh,O,aM.of hl,?_⟩
   have e:((z.cps.toList.take z.cps.toList.length).map Hh).all id=textOk z:=by
    rw[aaK (aan _),abo];rfl
   rw[e]
   exact k H2 s2
inductive xD(K:W.Frag)(vs:List V)(H:Hp)(Q:VK)(E_:XK):Prop where
 |mk (v:V):(vs=[v])->(BY H v)->((∀z,v=.str z->z.length<=10000))->(∀H',aC H H'->Q (.bl (Ay v)) H')->xD K vs H Q E_
theorem EL:zzz T fu 3 12 ["thing"] (xD K):=by
 have rS:=qB T
 refine T.zN.ok EA (λvs H Q E h=>?_) 'a'
 ·obtain⟨v,rfl,_⟩:=h;rfl
 ·have hu:=bz hr
  obtain⟨v,rfl,hk,hb,k⟩:=h
  refine⟨_,(ai (aK (PW.pt (lM (dX (bO (gm (cg K rfl) T.aG (af (pv 0) (af (J8 "str" T.EJ) ah))))) (kF (eN qP (gm eH T.bQ (af (pv 0) ah)) (qT rfl T.yw.choose_spec))))) (ao (az jX)) aA)
   (ao (az (fh rS hr T.rD T.jk.kp T.rC (af (pv 0) ah))))),?_⟩
  cases hk with
  |str z =>
   have hb:=hb z rfl
   refine⟨_,O,_,_,_,true,O,.str _,.inl ⟨_,O,O⟩,true,O,bS ⟨_,O,z,O,aay hb 'c',_,_,O,O,_,O,bP (λh1=>?_) (λh1=>?_)⟩⟩
   ·have e:Ay (.str z)=false:=by
     have n1:¬z.length<=2000:=λh2=>by have:=aaX h1;omega
     show(decide (z.length<=2000)&&textOk z)=false
     rw[aas n1];rfl
    have kk:=k H (aC.refl H)
    rw[e]at kk
    exact kk
   ·have n1:z.length<=2000:=by
     rcases Nat.lt_or_ge 2000 z.length with h2|h2
     ·exact absurd (aaq (show(2000:Int)<(z.length:Int) by omega)) h1
     ·exact h2
    have e:Ay (.str z)=textOk z:=by
     show(decide (z.length<=2000)&&textOk z)=_
     rw[aaq n1];rfl
    rw[e]at k
    exact⟨_,O,z,O,n1,k⟩
  |non=>exact⟨_,rfl,_,_,_,false,rfl,.non,.inl ⟨_,rfl,rfl⟩,false,rfl,dh (k H (aC.refl H))⟩
  |bl b=>exact⟨_,rfl,_,_,_,false,rfl,.bl _,.inl ⟨_,rfl,rfl⟩,false,rfl,dh (k H (aC.refl H))⟩
  |int n=>exact⟨_,rfl,_,_,_,false,rfl,.int _,.inl ⟨_,rfl,rfl⟩,false,rfl,dh (k H (aC.refl H))⟩
  |lst e f=>exact⟨_,rfl,_,_,_,false,rfl,.lst e,.inl ⟨_,rfl,rfl⟩,false,rfl,dh (k H (aC.refl H))⟩
  |tup e f=>exact⟨_,rfl,_,_,_,false,rfl,.tup e,.inl ⟨_,rfl,rfl⟩,false,rfl,dh (k H (aC.refl H))⟩
  |Tv e f=>exact⟨_,rfl,_,_,_,false,rfl,.dK e,.inl ⟨_,rfl,rfl⟩,false,rfl,dh (k H (aC.refl H))⟩
inductive gO(K:W.Frag)(C:Addr)(vs:List V)(H:Hp)(Q:VK)(E_:XK):Prop where
 |mk (x dx:Addr) (p q f:Str) (b1 b2 b3 b4:Bool) (s:Addr) (w u:Str) (c:Nat):(vs=[.ref x,.ref s,.str (sg c)])->(H x=some (.ins C dx (G9 p q f b1 b2 b3 b4)))->(bR K H s [.str w,.str u])->(∀v H',aC H H'->yh K H' v (jK p q f b3 w u c)->Q v H')->gO K C vs H Q E_
theorem ni:zzz T fu 1 13 ["dialect","state","sign"] (gO K (av 50)):=by
 refine T.ia.ok mP (λvs H Q E h=>?_) 'a'
 ·obtain⟨x,dx,p,q,f,b1,b2,b3,b4,s,w,u,c,rfl,_⟩:=h;rfl
 ·have hu:=bz hr
  obtain⟨x,dx,p,q,f,b1,b2,b3,b4,s,w,u,c,rfl,hx,hs,k⟩:=h
  refine'⟨_,?aa,?bb⟩
  case aa =>
   refine' ai ?s0 ?r0
   case s0 =>
    refine' aK ?c1 ?b1 ?e1
    case c1=>exact(fS fN (pv 2) (bB K rfl (pv 0) rfl) rfl)
    case b1 =>
     refine' ao ?s2
     case s2 =>
      refine' az ?v3
      case v3 =>
       refine' aQ ?a4
       case a4 =>
        refine' af ?x5 ?y5 ?z5
        case z5=>exact rfl
        case x5 =>
         exact ay
        case y5 =>
         refine' af ?x6 ?y6 ?z6
         case z6=>exact rfl
         case x6 =>
          refine' aQ ?a7
          case a7 =>
           refine' af ?x8 ?y8 ?z8
           case z8=>exact rfl
           case x8 =>
            exact ay
           case y8 =>
            refine' af ?x9 ?y9 ?z9
            case z9=>exact rfl
            case x9 =>
             exact ay
            case y9 =>
             exact ah
         case y6 =>
          exact ah
    case e1 =>
     exact aA
   case r0 =>
    refine' ai ?Np ?Q0
    case Np =>
     refine' aK ?TV ?Q2 ?TX
     case TV=>exact(eN bg (pv 2) (nZ rfl T.oq.choose_spec))
     case Q2 =>
      refine' ao ?s12
      case s12 =>
       refine' az ?TY
       case TY =>
        refine' aQ ?Oh
        case Oh =>
         refine' af ?Oi ?Oj ?Ol
         case Ol=>exact rfl
         case Oi =>
          exact ay
         case Oj =>
          refine' af ?Q3 ?Q4 ?Q5
          case Q5=>exact rfl
          case Q3 =>
           exact(cK rfl T.ng)
          case Q4 =>
           exact ah
     case TX =>
      exact aA
    case Q0 =>
     refine' ai ?Om ?Oo
     case Om =>
      refine' aK ?Q6 ?Oq ?Q7
      case Q6=>exact(fS fN (pv 2) (bB K rfl (pv 0) rfl) rfl)
      case Oq =>
       refine' ao ?Q8
       case Q8 =>
        refine' az ?v20
        case v20 =>
         refine' aQ ?Ot
         case Ot =>
          refine' af ?Q9 ?Ra ?Rb
          case Rb=>exact rfl
          case Q9 =>
           exact ay
          case Ra =>
           refine' af ?Rc ?Rf ?Rg
           case Rg=>exact rfl
           case Rc =>
            refine' aQ ?Rh
            case Rh =>
             refine' af ?Ri ?Rj ?Rk
             case Rk=>exact rfl
             case Ri =>
              exact ay
             case Rj =>
              refine' af ?Rl ?Rm ?Rn
              case Rn=>exact rfl
              case Rl =>
               exact(pv 2)
              case Rm =>
               exact ah
           case Rf =>
            exact ah
      case Q7 =>
       exact aA
     case Oo =>
      refine' ai ?TZ ?WB
      case TZ =>
       refine' aK ?WC ?T3 ?WD
       case WC=>exact(fS fN (pv 2) (bB K rfl (pv 0) rfl) rfl)
       case T3 =>
        refine' ao ?WE
        case WE =>
         refine' az ?v30
         case v30 =>
          refine' aQ ?T4
          case T4 =>
           refine' af ?WG ?WH ?WI
           case WI=>exact rfl
           case WG =>
            exact ay
           case WH =>
            refine' af ?WJ ?WK ?WL
            case WL=>exact rfl
            case WJ =>
             refine' aQ ?WM
             case WM =>
              refine' af ?x35 ?y35 ?z35
              case z35=>exact rfl
              case x35 =>
               exact ay
              case y35 =>
               refine' af ?x36 ?y36 ?z36
               case z36=>exact rfl
               case x36 =>
                exact ay
               case y36 =>
                exact ah
            case WK =>
             exact ah
       case WD =>
        exact aA
      case WB =>
       refine' ai ?s37 ?r37
       case s37 =>
        refine' aK ?c38 ?WN ?e38
        case c38=>exact(PW.pt (fR (eN bg (pv 2) ay) (dH (bO (bB K rfl (pv 0) rfl)))))
        case WN =>
         refine' ao ?WO
         case WO =>
          refine' az ?v40
          case v40 =>
           refine' aQ ?WQ
           case WQ =>
            refine' af ?x42 ?y42 ?z42
            case z42=>exact rfl
            case x42 =>
             exact ay
            case y42 =>
             refine' af ?x43 ?y43 ?z43
             case z43=>exact rfl
             case x43 =>
              exact(pv 1)
             case y43 =>
              exact ah
        case e38 =>
         exact aA
       case r37 =>
        refine' ao ?s44
        case s44 =>
         refine' az ?v45
         case v45 =>
          refine' aQ ?WR
          case WR =>
           refine' af ?x47 ?y47 ?z47
           case z47=>exact rfl
           case x47 =>
            exact ay
           case y47 =>
            refine' af ?x48 ?y48 ?z48
            case z48=>exact rfl
            case x48 =>
             refine' aQ ?U9
             case U9 =>
              refine' af ?x50 ?y50 ?z50
              case z50=>exact rfl
              case x50 =>
               exact ay
              case y50 =>
               refine' af ?x51 ?y51 ?z51
               case z51=>exact rfl
               case x51 =>
                exact ay
               case y51 =>
                exact ah
            case y48 =>
             exact ah
  have e2:bU (sg c) (cW 0)=bU (sg c) (Str.ofString "\n"):=by rw[T.lC]
  refine⟨_,O,_,O,x,(av 50),dx,_,_,O,hx,T.aI,T.bX,O,_,_,O,O,_,O,bP (λ(h1:tL c f=true)=>?_) (λ(h1:¬tL c f=true)=>?_)⟩
  ·exact fm (by unfold jK;rw[aal h1]) ji k
  refine⟨_,O,O,_,O,bP (λ(h2:bU (sg c) (cW 0)=true)=>?_) (λ(h2:¬bU (sg c) (cW 0)=true)=>?_)⟩
  ·rw[e2]at h2
   exact Au (by unfold jK;rw[aag h1,aal h2]) Es (aC.refl _) (.inr T.nh) k
  rw[e2]at h2
  refine⟨_,O,_,O,x,(av 50),dx,_,_,O,hx,T.aI,T.cy,O,_,_,O,O,_,O,bP (λ(h3:tL c q=true)=>?_) (λ(h3:¬tL c q=true)=>?_)⟩
  ·exact⟨_,O,fm (by unfold jK;rw[aag h1,aag h2,aal h3]) ji k⟩
  refine⟨_,O,_,O,x,(av 50),dx,_,_,O,hx,T.aI,T.bW,O,_,_,O,O,_,O,bP (λ(h4:tL c p=true)=>?_) (λ(h4:¬tL c p=true)=>?_)⟩
  ·exact fm (by unfold jK;rw[aag h1,aag h2,aag h3,aal h4]) Av k
  refine⟨_,O,O,_,O,bP (λ(h5:bU (sg c) (" ":Str)=true)=>?_) (λ(h5:¬bU (sg c) (" ":Str)=true)=>?_)⟩
  ·refine⟨_,O,x,(av 50),dx,_,_,O,hx,T.aI,T.cR,O,_,O,bP (λ(h6:b3=true)=>?_) (λ(h6:¬b3=true)=>?_)⟩
   ·exact⟨_,O,Au (by unfold jK;rw[aag h1,aag h2,aag h3,aag h4,aal h5,aal h6]) ji (aC.refl _) hs k⟩
   exact fm (by unfold jK;rw[aag h1,aag h2,aag h3,aag h4,aal h5,aag h6]) iJ k
  refine bS ?_
  exact fm (by unfold jK;rw[aag h1,aag h2,aag h3,aag h4,aag h5]) iJ k
inductive j6(K:W.Frag)(C:Addr)(vs:List V)(H:Hp)(Q:VK)(E_:XK):Prop where
 |mk (x dx:Addr) (p q f:Str) (b1 b2 b3 b4:Bool) (c:Nat):(vs=[.ref x,.str (sg c)])->(H x=some (.ins C dx (G9 p q f b1 b2 b3 b4)))->(∀v H',aC H H'->yh K H' v (jL p q f b4 c)->Q v H')->j6 K C vs H Q E_
theorem tX:zzz T fu 1 14 ["dialect","sign"] (j6 K (av 50)):=by
 refine T.lO.ok tS (λvs H Q E h=>?_) 'a'
 ·obtain⟨x,dx,p,q,f,b1,b2,b3,b4,c,rfl,_⟩:=h;rfl
 ·have hu:=bz hr
  obtain⟨x,dx,p,q,f,b1,b2,b3,b4,c,rfl,hx,k⟩:=h
  refine'⟨_,?aa,?bb⟩
  case aa =>
   refine' ai ?s0 ?r0
   case s0 =>
    refine' aK ?c1 ?b1 ?e1
    case c1=>exact(fS fN (pv 1) (bB K rfl (pv 0) rfl) rfl)
    case b1 =>
     refine' ao ?s2
     case s2 =>
      refine' az ?v3
      case v3 =>
       refine' aQ ?a4
       case a4 =>
        refine' af ?x5 ?y5 ?z5
        case z5=>exact rfl
        case x5 =>
         exact ay
        case y5 =>
         refine' af ?x6 ?y6 ?z6
         case z6=>exact rfl
         case x6 =>
          refine' aQ ?a7
          case a7 =>
           refine' af ?x8 ?y8 ?z8
           case z8=>exact rfl
           case x8 =>
            exact ay
           case y8 =>
            refine' af ?x9 ?y9 ?z9
            case z9=>exact rfl
            case x9 =>
             exact ay
            case y9 =>
             exact ah
         case y6 =>
          exact ah
    case e1 =>
     exact aA
   case r0 =>
    refine' ai ?Np ?Q0
    case Np =>
     refine' aK ?TV ?Q2 ?TX
     case TV=>exact(eN bg (pv 1) (nZ rfl T.oq.choose_spec))
     case Q2 =>
      refine' ao ?s12
      case s12 =>
       refine' az ?TY
       case TY =>
        refine' aQ ?Oh
        case Oh =>
         refine' af ?Oi ?Oj ?Ol
         case Ol=>exact rfl
         case Oi =>
          exact ay
         case Oj =>
          refine' af ?Q3 ?Q4 ?Q5
          case Q5=>exact rfl
          case Q3 =>
           exact(cK rfl T.ng)
          case Q4 =>
           exact ah
     case TX =>
      exact aA
    case Q0 =>
     refine' ai ?Om ?Oo
     case Om =>
      refine' aK ?Q6 ?Oq ?Q7
      case Q6=>exact(fS fN (pv 1) (bB K rfl (pv 0) rfl) rfl)
      case Oq =>
       refine' ao ?Q8
       case Q8 =>
        refine' az ?v20
        case v20 =>
         refine' aQ ?Ot
         case Ot =>
          refine' af ?Q9 ?Ra ?Rb
          case Rb=>exact rfl
          case Q9 =>
           exact ay
          case Ra =>
           refine' af ?Rc ?Rf ?Rg
           case Rg=>exact rfl
           case Rc =>
            refine' aQ ?Rh
            case Rh =>
             refine' af ?Ri ?Rj ?Rk
             case Rk=>exact rfl
             case Ri =>
              exact ay
             case Rj =>
              refine' af ?Rl ?Rm ?Rn
              case Rn=>exact rfl
              case Rl =>
               exact ay
              case Rm =>
               exact ah
           case Rf =>
            exact ah
      case Q7 =>
       exact aA
     case Oo =>
      refine' ai ?TZ ?WB
      case TZ =>
       refine' aK ?WC ?T3 ?WD
       case WC=>exact(PW.pt (fR (fS fN (pv 1) (bB K rfl (pv 0) rfl) rfl) (dH (dX (bO (bB K rfl (pv 0) rfl))))))
       case T3 =>
        refine' ao ?WE
        case WE =>
         refine' az ?v30
         case v30 =>
          refine' aQ ?T4
          case T4 =>
           refine' af ?WG ?WH ?WI
           case WI=>exact rfl
           case WG =>
            exact ay
           case WH =>
            refine' af ?WJ ?WK ?WL
            case WL=>exact rfl
            case WJ =>
             exact ay
            case WK =>
             exact ah
       case WD =>
        exact aA
      case WB =>
       refine' ao ?WS
       case WS =>
        refine' az ?v35
        case v35 =>
         refine' aQ ?WT
         case WT =>
          refine' af ?x37 ?y37 ?z37
          case z37=>exact rfl
          case x37 =>
           exact ay
          case y37 =>
           refine' af ?x38 ?y38 ?z38
           case z38=>exact rfl
           case x38 =>
            refine' aQ ?WU
            case WU =>
             refine' af ?x40 ?y40 ?z40
             case z40=>exact rfl
             case x40 =>
              exact ay
             case y40 =>
              refine' af ?x41 ?y41 ?z41
              case z41=>exact rfl
              case x41 =>
               exact ay
              case y41 =>
               exact ah
           case y38 =>
            exact ah
  have e2:bU (sg c) (cW 0)=bU (sg c) (Str.ofString "\n"):=by rw[T.lC]
  refine⟨_,O,_,O,x,(av 50),dx,_,_,O,hx,T.aI,T.bX,O,_,_,O,O,_,O,bP (λ(h1:tL c f=true)=>?_) (λ(h1:¬tL c f=true)=>?_)⟩
  ·exact fm (by unfold jL;rw[aal h1]) ji k
  refine⟨_,O,O,_,O,bP (λ(h2:bU (sg c) (cW 0)=true)=>?_) (λ(h2:¬bU (sg c) (cW 0)=true)=>?_)⟩
  ·rw[e2]at h2
   exact Au (by unfold jL;rw[aag h1,aal h2]) Es (aC.refl _) (.inr T.nh) k
  rw[e2]at h2
  refine⟨_,O,_,O,x,(av 50),dx,_,_,O,hx,T.aI,T.bW,O,_,_,O,O,_,O,bP (λ(h3:tL c p=true)=>?_) (λ(h3:¬tL c p=true)=>?_)⟩
  ·exact fm (by unfold jL;rw[aag h1,aag h2,aal h3]) Av k
  refine⟨_,O,_,O,x,(av 50),dx,_,_,O,hx,T.aI,T.cy,O,_,_,O,O,_,O,bP (λ(h4:tL c q=true)=>?_) (λ(h4:¬tL c q=true)=>?_)⟩
  ·refine⟨_,O,x,(av 50),dx,_,_,O,hx,T.aI,T.dj,O,_,O,bP (λ(h5:(!b4)=true)=>?_) (λ(h5:¬(!b4)=true)=>?_)⟩
   ·exact wO (by unfold jL;rw[aag h1,aag h2,aag h3,aal h4,aal h5]) k
   exact fm (by unfold jL;rw[aag h1,aag h2,aag h3,aal h4,aag h5]) iJ k
  refine bS ?_
  exact fm (by unfold jL;rw[aag h1,aag h2,aag h3,aag h4]) iJ k
inductive nj(K:W.Frag)(C:Addr)(vs:List V)(H:Hp)(Q:VK)(E_:XK):Prop where
 |mk (x dx:Addr) (p q f:Str) (b1 b2 b3 b4:Bool) (u:Str) (c:Nat):(vs=[.ref x,.str u,.str (sg c)])->(H x=some (.ins C dx (G9 p q f b1 b2 b3 b4)))->(∀v H',aC H H'->yh K H' v (gI f b1 b2 u c)->Q v H')->nj K C vs H Q E_
theorem xE:zzz T fu 1 15 ["dialect","quote","sign"] (nj K (av 50)):=by
 refine T.o8.ok wZ (λvs H Q E h=>?_) 'a'
 ·obtain⟨x,dx,p,q,f,b1,b2,b3,b4,u,c,rfl,_⟩:=h;rfl
 ·have hu:=bz hr
  obtain⟨x,dx,p,q,f,b1,b2,b3,b4,u,c,rfl,hx,k⟩:=h
  refine'⟨_,?aa,?bb⟩
  case aa =>
   refine' ai ?s0 ?r0
   case s0 =>
    refine' aK ?c1 ?b1 ?e1
    case c1=>exact(fS fN (pv 2) (bB K rfl (pv 0) rfl) rfl)
    case b1 =>
     refine' ao ?s2
     case s2 =>
      refine' az ?v3
      case v3 =>
       refine' aQ ?a4
       case a4 =>
        refine' af ?x5 ?y5 ?z5
        case z5=>exact rfl
        case x5 =>
         exact ay
        case y5 =>
         refine' af ?x6 ?y6 ?z6
         case z6=>exact rfl
         case x6 =>
          refine' aQ ?a7
          case a7 =>
           refine' af ?x8 ?y8 ?z8
           case z8=>exact rfl
           case x8 =>
            exact ay
           case y8 =>
            refine' af ?x9 ?y9 ?z9
            case z9=>exact rfl
            case x9 =>
             exact(pv 1)
            case y9 =>
             exact ah
         case y6 =>
          exact ah
    case e1 =>
     exact aA
   case r0 =>
    refine' ai ?Np ?Q0
    case Np =>
     refine' aK ?TV ?Q2 ?TX
     case TV=>exact(eN bg (pv 2) (pv 1))
     case Q2 =>
      refine' ao ?s12
      case s12 =>
       refine' az ?TY
       case TY =>
        refine' aQ ?Oh
        case Oh =>
         refine' af ?Oi ?Oj ?Ol
         case Ol=>exact rfl
         case Oi =>
          exact ay
         case Oj =>
          refine' af ?Q3 ?Q4 ?Q5
          case Q5=>exact rfl
          case Q3 =>
           exact(vY (bO (bB K rfl (pv 0) rfl)) (aQ (af ay (af (pv 1) ah))) (aQ (af ay (af ay ah))))
          case Q4 =>
           exact ah
     case TX =>
      exact aA
    case Q0 =>
     refine' ai ?Om ?Oo
     case Om =>
      refine' aK ?Q6 ?Oq ?Q7
      case Q6=>exact(PW.pt (fR (eN bg (pv 2) (nZ rfl T.oq.choose_spec)) (dH (dX (bO (bB K rfl (pv 0) rfl))))))
      case Oq =>
       refine' ao ?Q8
       case Q8 =>
        refine' az ?v20
        case v20 =>
         refine' aQ ?Ot
         case Ot =>
          refine' af ?Q9 ?Ra ?Rb
          case Rb=>exact rfl
          case Q9 =>
           exact ay
          case Ra =>
           refine' af ?Rc ?Rf ?Rg
           case Rg=>exact rfl
           case Rc =>
            exact ay
           case Rf =>
            exact ah
      case Q7 =>
       exact aA
     case Oo =>
      refine' ao ?s24
      case s24 =>
       refine' az ?v25
       case v25 =>
        refine' aQ ?WV
        case WV =>
         refine' af ?WW ?WX ?WY
         case WY=>exact rfl
         case WW =>
          exact ay
         case WX =>
          refine' af ?x28 ?y28 ?z28
          case z28=>exact rfl
          case x28 =>
           refine' aQ ?T5
           case T5 =>
            refine' af ?T6 ?T7 ?T8
            case T8=>exact rfl
            case T6 =>
             exact ay
            case T7 =>
             refine' af ?T9 ?Ua ?Ub
             case Ub=>exact rfl
             case T9 =>
              exact(pv 1)
             case Ua =>
              exact ah
          case y28 =>
           exact ah
  have e2:bU (sg c) (cW 0)=bU (sg c) (Str.ofString "\n"):=by rw[T.lC]
  refine⟨_,O,_,O,x,(av 50),dx,_,_,O,hx,T.aI,T.bX,O,_,_,O,O,_,O,bP (λ(h1:tL c f=true)=>?_) (λ(h1:¬tL c f=true)=>?_)⟩
  ·exact⟨_,O,fm (by unfold gI;rw[aal h1]) ji k⟩
  refine⟨_,O,_,O,O,_,O,bP (λ(h2:bU (sg c) u=true)=>?_) (λ(h2:¬bU (sg c) u=true)=>?_)⟩
  ·refine⟨_,O,x,(av 50),dx,_,_,O,hx,T.aI,T.eg,O,_,O,bP (λ(h3:b1=true)=>?_) (λ(h3:¬b1=true)=>?_)⟩
   ·exact⟨_,O,fm (by unfold gI;rw[aag h1,aal h2,aal h3]) ji k⟩
   exact fm (by unfold gI;rw[aag h1,aal h2,aag h3]) ji k
  refine⟨_,O,O,_,O,bP (λ(h3:bU (sg c) (cW 0)=true)=>?_) (λ(h3:¬bU (sg c) (cW 0)=true)=>?_)⟩
  ·rw[e2]at h3
   refine⟨_,O,x,(av 50),dx,_,_,O,hx,T.aI,T.cQ,O,_,O,bP (λ(h4:(!b2)=true)=>?_) (λ(h4:¬(!b2)=true)=>?_)⟩
   ·exact wO (by unfold gI;rw[aag h1,aag h2,aal h3,aal h4]) k
   exact⟨_,O,fm (by unfold gI;rw[aag h1,aag h2,aal h3,aag h4]) iJ k⟩
  rw[e2]at h3
  refine bS ?_
  exact⟨_,O,fm (by unfold gI;rw[aag h1,aag h2,aag h3]) iJ k⟩
inductive nk(K:W.Frag)(C:Addr)(vs:List V)(H:Hp)(Q:VK)(E_:XK):Prop where
 |mk (x dx:Addr) (p q f:Str) (b1 b2 b3 b4:Bool) (c:Nat):(vs=[.ref x,.str (sg c)])->(H x=some (.ins C dx (G9 p q f b1 b2 b3 b4)))->(∀v H',aC H H'->yh K H' v (fW p b3 c)->Q v H')->nk K C vs H Q E_
theorem nq:zzz T fu 1 16 ["dialect","sign"] (nk K (av 50)):=by
 refine T.jO.ok xg (λvs H Q E h=>?_) 'a'
 ·obtain⟨x,dx,p,q,f,b1,b2,b3,b4,c,rfl,_⟩:=h;rfl
 ·have hu:=bz hr
  obtain⟨x,dx,p,q,f,b1,b2,b3,b4,c,rfl,hx,k⟩:=h
  refine'⟨_,?aa,?bb⟩
  case aa =>
   refine' ai ?s0 ?r0
   case s0 =>
    refine' aK ?c1 ?b1 ?e1
    case c1=>exact(eN bg (pv 1) (nZ rfl T.oq.choose_spec))
    case b1 =>
     refine' ao ?s2
     case s2 =>
      refine' az ?v3
      case v3 =>
       refine' aQ ?a4
       case a4 =>
        refine' af ?x5 ?y5 ?z5
        case z5=>exact rfl
        case x5 =>
         exact ay
        case y5 =>
         refine' af ?x6 ?y6 ?z6
         case z6=>exact rfl
         case x6 =>
          exact(cK rfl T.ng)
         case y6 =>
          exact ah
    case e1 =>
     exact aA
   case r0 =>
    refine' ai ?s7 ?r7
    case s7 =>
     refine' aK ?c8 ?b8 ?e8
     case c8=>exact(fS fN (pv 1) (bB K rfl (pv 0) rfl) rfl)
     case b8 =>
      refine' ao ?s9
      case s9 =>
       refine' az ?v10
       case v10 =>
        refine' aQ ?WZ
        case WZ =>
         refine' af ?W0 ?W2 ?W3
         case W3=>exact rfl
         case W0 =>
          exact ay
         case W2 =>
          refine' af ?x13 ?y13 ?z13
          case z13=>exact rfl
          case x13 =>
           refine' aQ ?Oh
           case Oh =>
            refine' af ?Oi ?Oj ?Ol
            case Ol=>exact rfl
            case Oi =>
             exact ay
            case Oj =>
             refine' af ?Q3 ?Q4 ?Q5
             case Q5=>exact rfl
             case Q3 =>
              exact ay
             case Q4 =>
              exact ah
          case y13 =>
           exact ah
     case e8 =>
      exact aA
    case r7 =>
     refine' ai ?Om ?Oo
     case Om =>
      refine' aK ?Q6 ?Oq ?Q7
      case Q6=>exact(PW.pt (fR (eN bg (pv 1) ay) (dH (bO (bB K rfl (pv 0) rfl)))))
      case Oq =>
       refine' ao ?Q8
       case Q8 =>
        refine' az ?v20
        case v20 =>
         refine' aQ ?Ot
         case Ot =>
          refine' af ?Q9 ?Ra ?Rb
          case Rb=>exact rfl
          case Q9 =>
           exact ay
          case Ra =>
           refine' af ?Rc ?Rf ?Rg
           case Rg=>exact rfl
           case Rc =>
            refine' aQ ?Rh
            case Rh =>
             refine' af ?Ri ?Rj ?Rk
             case Rk=>exact rfl
             case Ri =>
              exact ay
             case Rj =>
              refine' af ?Rl ?Rm ?Rn
              case Rn=>exact rfl
              case Rl =>
               exact ay
              case Rm =>
               exact ah
           case Rf =>
            exact ah
      case Q7 =>
       exact aA
     case Oo =>
      refine' ao ?TZ
      case TZ =>
       refine' az ?v28
       case v28 =>
        refine' aQ ?T5
        case T5 =>
         refine' af ?T6 ?T7 ?T8
         case T8=>exact rfl
         case T6 =>
          exact ay
         case T7 =>
          refine' af ?T9 ?Ua ?Ub
          case Ub=>exact rfl
          case T9 =>
           exact ay
          case Ua =>
           exact ah
  have e2:bU (sg c) (cW 0)=bU (sg c) (Str.ofString "\n"):=by rw[T.lC]
  refine⟨_,O,O,_,O,bP (λ(h1:bU (sg c) (cW 0)=true)=>?_) (λ(h1:¬bU (sg c) (cW 0)=true)=>?_)⟩
  ·rw[e2]at h1
   exact Au (by unfold fW;rw[aal h1]) Es (aC.refl _) (.inr T.nh) k
  rw[e2]at h1
  refine⟨_,O,_,O,x,(av 50),dx,_,_,O,hx,T.aI,T.bW,O,_,_,O,O,_,O,bP (λ(h2:tL c p=true)=>?_) (λ(h2:¬tL c p=true)=>?_)⟩
  ·exact fm (by unfold fW;rw[aag h1,aal h2]) Av k
  refine⟨_,O,O,_,O,bP (λ(h3:bU (sg c) (" ":Str)=true)=>?_) (λ(h3:¬bU (sg c) (" ":Str)=true)=>?_)⟩
  ·refine⟨_,O,x,(av 50),dx,_,_,O,hx,T.aI,T.cR,O,_,O,bP (λ(h4:b3=true)=>?_) (λ(h4:¬b3=true)=>?_)⟩
   ·exact fm (by unfold fW;rw[aag h1,aag h2,aal h3,aal h4]) ji k
   exact wO (by unfold fW;rw[aag h1,aag h2,aal h3,aag h4]) k
  refine bS ?_
  exact wO (by unfold fW;rw[aag h1,aag h2,aag h3]) k
inductive j7(K:W.Frag)(C:Addr)(vs:List V)(H:Hp)(Q:VK)(E_:XK):Prop where
 |mk (x dx:Addr) (p q f:Str) (b1 b2 b3 b4:Bool) (u:Str) (c:Nat):(vs=[.ref x,.str u,.str (sg c)])->(H x=some (.ins C dx (G9 p q f b1 b2 b3 b4)))->(∀v H',aC H H'->yh K H' v (tN p b3 u c)->Q v H')->j7 K C vs H Q E_
theorem tY:zzz T fu 2 17 ["dialect","quote","sign"] (j7 K (av 50)):=by
 have jR:=nq T
 refine T.lP.ok tU (λvs H Q E h=>?_) 'a'
 ·obtain⟨x,dx,p,q,f,b1,b2,b3,b4,u,c,rfl,_⟩:=h;rfl
 ·have hu:=bz hr
  obtain⟨x,dx,p,q,f,b1,b2,b3,b4,u,c,rfl,hx,k⟩:=h
  refine⟨_,(ai (aK (eN bg (pv 2) (pv 1)) (ao (az (aQ (af ay (af (aQ (af ay (af (pv 1) ah))) ah))))) aA)
   (ao (az (fh jR hr T.pe T.jO.kp T.o9 (af (pv 0) (af (pv 2) ah)))))),?_⟩
  refine⟨_,O,_,O,O,_,O,bP (λ(h1:bU (sg c) u=true)=>?_) (λ(h1:¬bU (sg c) u=true)=>?_)⟩
  ·exact⟨_,O,fm (by unfold tN;rw[aal h1]) iJ k⟩
  refine⟨_,O,_,O,x,dx,p,q,f,b1,b2,b3,b4,c,O,hx,λv H2 s2 r=>k v H2 s2 ?_⟩
  unfold tN
  rw[aag h1]
  exact r
inductive pK(K:W.Frag)(C:Addr)(vs:List V)(H:Hp)(Q:VK)(E_:XK):Prop where
 |mk (x dx:Addr) (p q f:Str) (b1 b2 b3 b4:Bool) (u:Str) (c:Nat):(vs=[.ref x,.str u,.str (sg c)])->(H x=some (.ins C dx (G9 p q f b1 b2 b3 b4)))->(∀v H',aC H H'->yh K H' v (kW b2 u c)->Q v H')->pK K C vs H Q E_
theorem yy:zzz T fu 1 18 ["dialect","quote","sign"] (pK K (av 50)):=by
 refine T.rE.ok yk (λvs H Q E h=>?_) 'a'
 ·obtain⟨x,dx,p,q,f,b1,b2,b3,b4,u,c,rfl,_⟩:=h;rfl
 ·have hu:=bz hr
  obtain⟨x,dx,p,q,f,b1,b2,b3,b4,u,c,rfl,hx,k⟩:=h
  refine'⟨_,?aa,?bb⟩
  case aa =>
   refine' ai ?s0 ?r0
   case s0 =>
    refine' aK ?c1 ?b1 ?e1
    case c1=>exact(PW.pt (fR (eN bg (pv 2) (nZ rfl T.oq.choose_spec)) (dH (dX (bO (bB K rfl (pv 0) rfl))))))
    case b1 =>
     refine' ao ?s2
     case s2 =>
      refine' az ?v3
      case v3 =>
       refine' aQ ?a4
       case a4 =>
        refine' af ?x5 ?y5 ?z5
        case z5=>exact rfl
        case x5 =>
         exact ay
        case y5 =>
         refine' af ?x6 ?y6 ?z6
         case z6=>exact rfl
         case x6 =>
          exact ay
         case y6 =>
          exact ah
    case e1 =>
     exact aA
   case r0 =>
    refine' ao ?s7
    case s7 =>
     refine' az ?v8
     case v8 =>
      refine' aQ ?a9
      case a9 =>
       refine' af ?W4 ?W5 ?W6
       case W6=>exact rfl
       case W4 =>
        exact ay
       case W5 =>
        refine' af ?W7 ?W8 ?W9
        case W9=>exact rfl
        case W7 =>
         exact(vY (eN bg (pv 1) ay) (aQ (af ay (af ay ah))) (aQ (af ay (af (pv 1) ah))))
        case W8 =>
         exact ah
  have e2:bU (sg c) (cW 0)=bU (sg c) (Str.ofString "\n"):=by rw[T.lC]
  refine⟨_,O,O,_,O,bP (λ(h1:bU (sg c) (cW 0)=true)=>?_) (λ(h1:¬bU (sg c) (cW 0)=true)=>?_)⟩
  ·rw[e2]at h1
   refine⟨_,O,x,(av 50),dx,_,_,O,hx,T.aI,T.cQ,O,_,O,bP (λ(h2:(!b2)=true)=>?_) (λ(h2:¬(!b2)=true)=>?_)⟩
   ·exact wO (by unfold kW;rw[aal h1,aal h2]) k
   refine⟨_,O,O,_,O,bP (λ(h9:bU u ("":Str)=true)=>?_) (λ(h9:¬bU u ("":Str)=true)=>?_)⟩
   ·exact fm (by unfold kW kU;rw[aal h1,aag h2,aal h9]) iJ k
   exact⟨_,O,fm (by unfold kW kU;rw[aal h1,aag h2,aag h9]) iJ k⟩
  rw[e2]at h1
  refine bS ?_
  refine⟨_,O,O,_,O,bP (λ(h9:bU u ("":Str)=true)=>?_) (λ(h9:¬bU u ("":Str)=true)=>?_)⟩
  ·exact fm (by unfold kW kU;rw[aag h1,aal h9]) iJ k
  exact⟨_,O,fm (by unfold kW kU;rw[aag h1,aag h9]) iJ k⟩
inductive rT(K:W.Frag)(C CT:Addr)(vs:List V)(H:Hp)(Q:VK)(E_:XK):Prop where
 |mk (y s:Addr) (w u:Str) (c:Nat) (p q f:Str) (b1 b2 b3 b4:Bool):(vs=[.ref y,.ref s,.str (sg c)])->(Tn C CT H y p q f b1 b2 b3 b4)->(bR K H s [.str w,.str u])->(∀v H',aC H H'->yh K H' v (cV p q f b1 b2 b3 b4 w u c)->Q v H')->rT K C CT vs H Q E_
theorem AX:zzz T fu 3 19 ["self","state","sign"] (rT K (av 50) (av 51)):=by
 have oS:=ni T
 have jR:=nq T
 have AY:=yy T
 have vo:=tY T
 have vp:=tX T
 have yz:=xE T
 refine T.C0.ok kZ (λvs H Q E h=>?_) 'a'
 ·obtain⟨y,s,w,u,c,p,q,f,b1,b2,b3,b4,rfl,_⟩:=h;rfl
 ·have hu:=bz hr
  obtain⟨y,s,w,u,c,p,q,f,b1,b2,b3,b4,rfl,hT,hs,k⟩:=h
  obtain⟨dy,d,dd,hy,hd⟩:=hT.ok
  refine⟨_,(ai (fB 3 kZ.nd (uA K (pv 1) ak))
   (ai (fB 4 kZ.nd (uA K (pv 1) ak))
   (ai (aK (eN bg (pv 3) ay) (ao (az (fh vp hr T.vg T.lO.kp T.vf (af (bB K rfl (pv 0) rfl) (af (pv 2) ah))))) aA)
   (ai (aK (eN bg (pv 3) ay) (ao (az (fh yz hr T.yp T.o8.kp T.yo (af (bB K rfl (pv 0) rfl) (af (pv 4) (af (pv 2) ah)))))) aA)
   (ai (aK (eN bg (pv 3) ay) (ao (az (fh vo hr T.vj T.lP.kp T.vh (af (bB K rfl (pv 0) rfl) (af (pv 4) (af (pv 2) ah)))))) aA)
   (ai (aK (eN bg (pv 3) ay) (ao (az (fh jR hr T.pe T.jO.kp T.o9 (af (bB K rfl (pv 0) rfl) (af (pv 2) ah))))) aA)
   (ai (aK (eN bg (pv 3) ay) (ao (az (fh AY hr T.AK T.rE.kp T.AJ (af (bB K rfl (pv 0) rfl) (af (pv 4) (af (pv 2) ah)))))) aA)
   (ao (az (fh oS hr T.oN T.ia.kp T.oM (af (bB K rfl (pv 0) rfl) (af (pv 1) (af (pv 2) ah))))))))))))),?_⟩
  refine⟨_,O,s,_,_,_,O,O,hs,O,_,O,s,_,_,_,O,O,hs,O,?_⟩
  refine⟨_,O,O,_,O,bP (λ(h1:bU w ("plain":Str)=true)=>?_) (λ(h1:¬bU w ("plain":Str)=true)=>?_)⟩
  ·refine⟨_,O,y,(av 51),dy,_,_,O,hy,T.jr,T.bK,O,_,O,d,dd,p,q,f,b1,b2,b3,b4,c,O,hd,λv H2 s2 r=>k v H2 s2 ?_⟩
   rw[Lz h1]
   exact r
  refine⟨_,O,O,_,O,bP (λ(h2:bU w ("within":Str)=true)=>?_) (λ(h2:¬bU w ("within":Str)=true)=>?_)⟩
  ·refine⟨_,O,y,(av 51),dy,_,_,O,hy,T.jr,T.bK,O,_,O,_,O,d,dd,p,q,f,b1,b2,b3,b4,u,c,O,hd,λv H2 s2 r=>k v H2 s2 ?_⟩
   rw[Ij h2]
   exact r
  refine⟨_,O,O,_,O,bP (λ(h3:bU w ("doubt":Str)=true)=>?_) (λ(h3:¬bU w ("doubt":Str)=true)=>?_)⟩
  ·refine⟨_,O,y,(av 51),dy,_,_,O,hy,T.jr,T.bK,O,_,O,_,O,d,dd,p,q,f,b1,b2,b3,b4,u,c,O,hd,λv H2 s2 r=>k v H2 s2 ?_⟩
   rw[LA h3]
   exact r
  refine⟨_,O,O,_,O,bP (λ(h4:bU w ("behind":Str)=true)=>?_) (λ(h4:¬bU w ("behind":Str)=true)=>?_)⟩
  ·refine⟨_,O,y,(av 51),dy,_,_,O,hy,T.jr,T.bK,O,_,O,d,dd,p,q,f,b1,b2,b3,b4,c,O,hd,λv H2 s2 r=>k v H2 s2 ?_⟩
   rw[Ik h4]
   exact r
  refine⟨_,O,O,_,O,bP (λ(h5:bU w ("freed":Str)=true)=>?_) (λ(h5:¬bU w ("freed":Str)=true)=>?_)⟩
  ·refine⟨_,O,y,(av 51),dy,_,_,O,hy,T.jr,T.bK,O,_,O,_,O,d,dd,p,q,f,b1,b2,b3,b4,u,c,O,hd,λv H2 s2 r=>k v H2 s2 ?_⟩
   rw[LB h5]
   exact r
  refine⟨_,O,y,(av 51),dy,_,_,O,hy,T.jr,T.bK,O,_,O,_,O,d,dd,p,q,f,b1,b2,b3,b4,s,w,u,c,O,hd,hs,λv H2 s2 r=>k v H2 s2 ?_⟩
  rw[NS (oX h2) (oX h5) (oX h3) (oX h4)]
  unfold CD
  rw[aag h1]
  exact r
inductive pL(K:W.Frag)(CN:Addr)(vs:List V)(H:Hp)(Q:VK)(E:XK):Prop where
 |mk (v:V):(vs=[v])->(BY H v)->((∀z,v=.str z->z.length<=10000))->((Ay v=true->∀H',aC H H'->Q .non H'))->((Ay v=false->∀H',aC H H'->E (.ref CN) none H'))->pL K CN vs H Q E
theorem pM:zzz T (BW P w) 4 20 ["thing"] (pL K (av 54)):=by
 have IE:=EL T
 refine T.k9.Wd yl (λvs H Q E h=>?_) 'a'
 ·obtain⟨v,rfl,_⟩:=h;rfl
 ·have hu:=bz hr
  obtain⟨v,rfl,hk,hb,k,kE⟩:=h
  refine⟨_,(ao (aK (dX (bO (fh IE hr T.Iv T.zN.kp T.Iu (af (pv 0) ah)))) (ao (Le rfl T.m9 (.inr ⟨_,_,O,T.aR⟩) rfl T.Dd (af ay ah))) aA)),?_⟩
  refine⟨_,O,v,O,hk,hb,λH1 s1=>⟨_,O,?_⟩⟩
  by_cases hT:Ay v=true
  ·exact O9 hT (k hT H1 s1)
  ·exact Pa (oX hT) ⟨by decide,kE (oX hT) H1 s1⟩
inductive Hx(K:W.Frag)(C:Addr)(vs:List V)(H:Hp)(Q:VK)(E_:XK):Prop where
 |mk (x dx:Addr) (z:Str) (p q f:Str) (b1 b2 b3 b4:Bool):(vs=[.ref x,.str z])->(H x=some (.ins C dx (G9 p q f b1 b2 b3 b4)))->(Gd p q f)->(d9 z)->(z.length<=2000)->(∀(tw lk s:Addr) H',H' tw=some (.tup [.ref lk,.ref s,LD (runM p q f b1 b2 b3 b4 ("row":Str) ("":Str) z.cps.toList).2.2.2])->H lk=none->H' lk=some (.lst ((runM p q f b1 b2 b3 b4 ("row":Str) ("":Str) z.cps.toList).1.map V.str))->bR K H' s [.str (runM p q f b1 b2 b3 b4 ("row":Str) ("":Str) z.cps.toList).2.1,.str (runM p q f b1 b2 b3 b4 ("row":Str) ("":Str) z.cps.toList).2.2.1]->aC H H'->Q (.ref tw) H')->Hx K C vs H Q E_
theorem Ou:zzz T fu 8 21 ["dialect","text"] (Hx K (av 50)):=by
 have vq:=tW T
 have Dg:=AX T
 have lF:=pM T
 refine T.LV.ok k7 (λvs H Q E h=>?_) 'a'
 ·obtain⟨x,dx,z,p,q,f,b1,b2,b3,b4,rfl,_⟩:=h;rfl
 ·have hu:=bz hr
  obtain⟨x,dx,z,p,q,f,b1,b2,b3,b4,rfl,hx,g,hz,hz2,k⟩:=h
  refine'⟨_,?aa,?bb⟩
  case aa =>
   refine' ai ?s0 ?r0
   case s0 =>
    exact(eF (vS (k:=4) lF (hr.mono 'c') rfl T.rG T.k9.kp T.rF .nil Tj (af (pv 1) ah)))
   case r0 =>
    refine' ai ?s1 ?r1
    case s1 =>
     exact(fB 2 k7.nd (GP (k:=6) T.QT vq (hr.mono 'c') rfl T.QS T.vd .nil Cd (af (pv 0) ah)))
    case r1 =>
     refine' ai ?s2 ?r2
     case s2 =>
      refine' fB 3 k7.nd ?v3
      case v3 =>
       refine' bM ?a4
       case a4 =>
        exact ah
     case r2 =>
      refine' ai ?s5 ?r5
      case s5 =>
       exact(fB 4 k7.nd (cK rfl T.ng))
      case r5 =>
       refine' ai ?s6 ?r6
       case s6 =>
        exact(gv aa3 rfl (Ak (pv 1)) (kC 5 k7.nd)
     (ai (fB 6 k7.nd (Nd (k:=3) (pv 2) T.jr T.C2 Dg (hr.mono 'c') T.C1 .nil Cd (af (pv 4) (af (pv 5) ah))))
     (ai (aK (eN bg (uA K (pv 6) ak) ay) (ao (az (aQ (af (pv 3) (af (pv 4) (af (uA K (pv 6) ak) ah)))))) aA)
     (ai (eF (fU K rfl aaP aaT aaU cN (pv 3) (af (uA K (pv 6) ak) ah)))
     (ao (fB 4 k7.nd (uA K (pv 6) ak)))))))
       case r6 =>
        refine' ao ?s7
        case s7 =>
         refine' az ?v8
         case v8 =>
          refine' aQ ?a9
          case a9 =>
           refine' af ?W4 ?W5 ?W6
           case W6=>exact rfl
           case W4 =>
            exact(pv 3)
           case W5 =>
            refine' af ?W7 ?W8 ?W9
            case W9=>exact rfl
            case W7 =>
             exact(pv 4)
            case W8 =>
             refine' af ?W0 ?W2 ?W3
             case W3=>exact rfl
             case W0 =>
              exact gS
             case W2 =>
              exact ah
  refine⟨_,O,.str z,O,.str z,(λz' e=>by cases e;omega),(λ_ H1 s1=>?_),(λe=>by rw[LL hz hz2]at e;cases e)⟩
  refine⟨_,O,λy dy hy RY ne=>⟨y,dy,x,dx,p,q,f,b1,b2,b3,b4,O,aj,LC hy RY (s1 _ _ hx),g,λH2 hT kp=>⟨O,?_⟩⟩⟩
  have s2:=s1.trans (Il hy RY kp)
  refine⟨by decide,λlk hlk=>?_⟩
  have s3:=aq (o:=HO.lst []) hlk
  have Uc:H lk=none:=s2.free hlk
  refine⟨_,O,z,O,?_⟩
  refine GV (λi σ H4=>aC H H4/\∃(w u:Str)(s:Addr)(ks:List Str)(v1 v2:Option V),σ=[some (.ref x),some (.str z),some (.ref y),some (.ref lk),some (.ref s),v1,v2]/\Tn (av 50) (av 51) H4 y p q f b1 b2 b3 b4/\H4 lk=some (.lst (ks.map V.str))/\bR K H4 s [.str w,.str u]/\ks.length=i/\runM p q f b1 b2 b3 b4 ("row":Str) ("":Str) z.cps.toList=Et ks (runM p q f b1 b2 b3 b4 w u (z.cps.toList.drop i))) ⟨s2.trans s3,_,_,(av 76),[],_,_,rfl,hT.mono s3,aj,.inr T.nh,rfl,rfl⟩ ?_ ?_
  ·rintro i c σ H4 hi ⟨s4,w,u,s,ks,v1,v2,rfl,Va,h4,hs,Zn,er⟩
   rw[drop_cons hi]at er
   have hil:=(aaj.mp hi).1
   rw[aaE]at hil
   have hil:i<z.length:=hil
   obtain⟨dy4,d4,dd4,ey4,ed4⟩:=Va.ok
   refine⟨_,O,y,dy4,_,O,ey4,O,_,O,_,O,y,s,w,u,c,p,q,f,b1,b2,b3,b4,O,Va,hs,λv H5 s5 r=>?_⟩
   have h5:=s5 _ _ h4
   cases Vb:cV p q f b1 b2 b3 b4 w u c with
   |go kd w3 u3 =>
    rw[Vb]at r
    obtain⟨hk,a,b,rfl,ha,hb⟩:=r
    refine⟨_,O,a,_,_,_,O,O,ha,O,O,_,O,Hf hk ?_⟩
    refine⟨_,O,.inl ⟨O,_,aM.of h5⟩,_,O,a,_,_,_,O,O,ha,O,lk,_,_,O,O,h5,?_,?_⟩
    ·rw[aak];exact aaD (show ks.length<=2000 by omega) 'c'
    refine⟨_,O,a,_,_,_,O,O,Hg h5 ha,O,aE Uc (s4.trans s5),w3,u3,b,ks++[kd],_,_,O,Tn.but h5 (Va.mono s5),?_,Hg h5 hb,by rw[aaJ,Zn];rfl,er.trans (QB Vb)⟩
    rw[aaF];exact aj
   |uq e =>
    rw[Vb]at r
    obtain⟨a,rfl,ha⟩:=r
    refine⟨_,O,a,_,_,_,O,O,ha,O,O,_,O,wN (d7 _) ?_⟩
    refine⟨_,O,_,O,_,O,a,_,_,_,O,O,ha,O,(by show 3<=sizeLine;decide),λt ht=>?_⟩
    have st:=aq (o:=HO.tup [.ref lk,.ref s,.str e]) ht
    rw[NV Vb]at er
    refine k t lk s _ ?_ Uc ?_ ?_ ((s4.trans s5).trans st)
    ·rw[er];exact aj
    ·rw[er];exact st _ _ h5
    ·rw[er];exact qX (s5.trans st) hs
  ·rintro σ H4 ⟨s4,w,u,s,ks,v1,v2,rfl,Va,h4,hs,Zn,er⟩
   rw[List.drop_length,NW]at er
   refine⟨_,O,_,O,(by show 3<=sizeLine;decide),λt ht=>?_⟩
   have st:=aq (o:=HO.tup [.ref lk,.ref s,.non]) ht
   refine k t lk s _ ?_ Uc ?_ ?_ (s4.trans st)
   ·rw[er];exact aj
   ·rw[er];exact st _ _ h4
   ·rw[er];exact qX st hs
inductive zQ(K:W.Frag)(vs:List V)(H:Hp)(Q:VK)(E_:XK):Prop where
 |mk (tw lk s:Addr) (ks:List Str) (w u:Str) (o:Option Str):(vs=[.ref tw])->(H tw=some (.tup [.ref lk,.ref s,LD o]))->(H lk=some (.lst (ks.map V.str)))->(bR K H s [.str w,.str u])->((o=none->zG w u=true->Q .non H))->(((o=none->zG w u=false)->∀t,H t=none->Q (.ref t) (upd H t (.tup [.int ks.length,.int (Wv ks),.str (o.getD ("cut":Str))]))))->zQ K vs H Q E_
theorem IF:zzz T fu 1 22 ["walked"] (zQ K):=by
 refine T.C3.ok tV (λvs H Q E h=>?_) 'a'
 ·obtain⟨tw,lk,s,ks,w,u,o,rfl,_⟩:=h;rfl
 ·have hu:=bz hr
  have gK:=hr.aO
  obtain⟨tw,lk,s,ks,w,u,o,rfl,ht,hk,hs,k1,k2⟩:=h
  have hT:bR K H tw [.ref lk,.ref s,LD o]:=bR.of ht
  refine⟨_,(ai (fB 1 tV.nd (uA K (pv 0) ak))
   (ai (fB 2 tV.nd (uA K (pv 0) ak))
   (ai (aK (PW.pt (fR (eN D6 (pv 2) gS) (dH (eN (P6 K rfl gK) (uA K (pv 0) ak) (cK rfl T.ng))))) (ao (az gS)) aA)
   (ao (az (aQ (af (gm (aJ K rfl) T.bQ (af (pv 1) ah)) (af (fU K rfl aaP PySem.F.slot_list_count PySem.F.type_list_count (Ej K rfl) (pv 1) (af ay ah)) (af (vY (eN D6 (pv 2) gS) ay (pv 2)) ah))))))))),?_⟩
  refine⟨_,O,tw,_,_,_,O,O,hT,O,_,O,tw,_,_,_,O,O,hT,O,?_⟩
  cases o with
  |none =>
   refine⟨_,O,O,_,O,wN (aaq rfl) ?_⟩
   refine⟨_,O,tw,_,_,_,O,O,hT,O,s,(av 76),_,_,O,O,hs,.inr T.nh,O,O,_,O,bP (λ(h1:zG w u=true)=>?_) (λ(h1:¬zG w u=true)=>?_)⟩
   ·exact k1 rfl h1
   ·refine⟨_,O,lk,_,O,.inl (aM.of hk),_,O,.inl ⟨O,_,aM.of hk⟩,lk,_,_,O,O,aM.of hk,O,zH ks,_,O,O,_,O,wN (aaq rfl) ?_⟩
    rw[aak]
    exact⟨(by show 3<=sizeLine;decide),λt ht=>k2 (λ_=>oX h1) t ht⟩
  |some e =>
   refine⟨_,O,O,_,O,Hf (aas (by intro z;cases z)) (bS ?_)⟩
   refine⟨_,O,lk,_,O,.inl (aM.of hk),_,O,.inl ⟨O,_,aM.of hk⟩,lk,_,_,O,O,aM.of hk,O,zH ks,_,O,O,_,O,Hf (aas (by intro z;cases z)) ?_⟩
   rw[aak]
   exact⟨_,O,(by show 3<=sizeLine;decide),λt ht=>k2 (λz=>by cases z) t ht⟩
inductive uI(K:W.Frag)(vs:List V)(H:Hp)(Q:VK)(E_:XK):Prop where
 |mk (z:Str) (lk:Addr) (ks:List Str):(vs=[.str z,.ref lk])->(H lk=some (.lst (ks.map V.str)))->(z.length<=2000)->(∀(l:Addr)(es:List V)(H':Hp),H l=none->H' l=some (.lst es)->V.ref l∉es->es.Nodup->qZ H H' es (N2 z ks)->aC H H'->Q (.ref l) H')->uI K vs H Q E_
theorem Dh:zzz T fu 1 23 ["text","kinds"] (uI K):=by
 refine T.xw.ok cu (λvs H Q E h=>?_) 'a'
 ·obtain⟨z,lk,ks,rfl,_⟩:=h;rfl
 ·have hu:=bz hr
  obtain⟨z,lk,ks,rfl,hk,hz,k⟩:=h
  refine⟨_,(ai (fB 2 cu.nd (bM ah))
   (ai (fB 3 cu.nd (bM ah))
   (ai (fB 4 cu.nd ay)
   (ai (gv aa3 rfl (Lb K rfl rfl T.EK (af (pv 0) (af (pv 1) ah))) (kI K rfl 2 rfl (cD (kC 5 cu.nd) (cD (kC 6 cu.nd) kG)))
   (ao (aK (eN bg (pv 6) ay) (ao (fB 4 cu.nd (aD fE (pv 4) (pv 5)))) (ao (aK (eN bg (pv 6) ay) (ai (eF (fU K rfl aaP aaT aaU cN (pv 3) (af (pv 4) ah)))
   (ao (fB 4 cu.nd ay))) (ao (aK (eN bg (pv 6) ay) (ai (eF (fU K rfl aaP aaT aaU cN (pv 3) (af (pv 4) ah)))
   (ai (eF (fU K rfl aaP aaT aaU cN (pv 2) (af (pv 3) ah)))
   (ai (fB 3 cu.nd (bM ah))
   (ao (fB 4 cu.nd ay))))) aA)))))))
   (ao (az (pv 2))))))),?_⟩
  refine⟨by decide,λlt hlt=>?_⟩
  have s1:=aq (o:=HO.lst []) hlt
  refine⟨by decide,λr0 hr0=>?_⟩
  have s2:=aq (o:=HO.lst []) hr0
  have a1:(upd (upd H lt (.lst [])) r0 (.lst [])) lt=some (.lst []):=s2 _ _ aj
  have a2:(upd (upd H lt (.lst [])) r0 (.lst [])) r0=some (.lst []):=aj
  have n0:r0≠lt:=λq=>by rw[q,aj]at hr0;cases hr0
  have fr:=s1.free hr0
  have s12:=s1.trans s2
  generalize upd (upd H lt (.lst [])) r0 (.lst [])=H1 at a1 a2 s12⊢
  refine⟨_,O,_,O,z,lk,O,⟨_,aM.of (s12 _ _ hk)⟩,?_⟩
  have hz':z.cps.size<=2000:=hz
  have e0:("":Str).length=0:=by decide +kernel
  refine Lc (K:=K) (z:=z) (b:=lk) (ys:=ks.map V.str) (λi σ H2=>aC H H2/\∃rr es row cell v5 v6,σ=[some (.str z),some (.ref lk),some (.ref lt),some (.ref rr),some (.str cell),v5,v6]/\H rr=none/\H2 lt=some (.lst es)/\H2 rr=some (.lst (row.map V.str))/\rr≠lt/\V.ref lt∉es/\V.ref rr∉es/\es.Nodup/\∃rows,qZ H H2 es rows/\wV QF (z.cps.toList.take i) (ks.take i)=⟨rows,row,cell⟩/\cell.length<=i/\row.length<=i/\es.length<=i) ⟨s12,r0,[],[],_,_,_,rfl,fr,a1,a2,n0,by simp,by simp,List.nodup_nil,[],.nil,rfl,by rw[e0];exact aan _,aan _,aan _⟩ (λi σ H2 _ q=>aM.of (q.1 _ _ hk)) ?_ ?_
  ·rintro i c y t σ H2 hc hy ht ⟨s3,rr,es,row,cell,v5,v6,rfl,Ro,b1,b2,nr,n1,n2,nd,rows,rw',hg,l1,l2,l3⟩
   obtain⟨kd,hkd,rfl⟩:=qY hy
   have hil:=(aa2.mp hc).1
   have hc':z.cps.toList[i]?=some c:=by simpa using hc
   have Ka:=zI QF z.cps.toList ks i c kd hc' hkd
   rw[hg]at Ka
   have st:=aq (o:=HO.tup [.str (sg c),.str kd]) ht
   refine⟨t,_,O,bR.of aj,O,_,_,O,_,_,O,O,?_⟩
   have s4:=s3.trans st
   replace b1:=st _ _ b1
   replace b2:=st _ _ b2
   replace rw':=qZ.mono st rw'
   generalize upd H2 t (.tup [.str (sg c),.str kd])=H3 at s4 b1 b2 rw'⊢
   clear st ht s3
   unfold QE at Ka
   refine⟨_,O,O,_,O,bP (λh1=>?_) (λh1=>?_)⟩
   ·have h1:bU kd ("put":Str)=true:=h1
    rw[aal h1]at Ka
    refine⟨_,O,_,O,_,_,O,O,aay (show cell.length+1<=2001 by omega) 'c',?_⟩
    exact⟨s4,rr,es,row,_,_,_,O,Ro,b1,b2,nr,n1,n2,nd,rows,rw',Ka,by rw[oh];show cell.length+1<=_;omega,by omega,by omega⟩
   have h1:¬bU kd ("put":Str)=true:=h1
   rw[aag h1]at Ka
   refine⟨_,O,O,_,O,bP (λh2=>?_) (λh2=>?_)⟩
   ·have h2:bU kd ("part":Str)=true:=h2
    rw[aal h2]at Ka
    refine⟨_,O,.inl ⟨O,_,aM.of b2⟩,_,O,rr,_,_,O,O,b2,by rw[aak];exact aaD l2 (aav (show i<2001 by omega) 'c'),?_⟩
    refine⟨aE Ro s4,rr,es,row++[cell],_,_,_,O,Ro,(aB (abi nr)).trans b1,by rw[aj,aaF];rfl,nr,n1,n2,nd,rows,qZ.but n2 rw',Ka,by rw[e0];omega,by rw[aaJ];show row.length+1<=_;omega,by omega⟩
   have h2:¬bU kd ("part":Str)=true:=h2
   rw[aag h2]at Ka
   refine⟨_,O,O,_,O,bP (λh3=>?_) (λh3=>?_)⟩
   ·have h3:bU kd ("end":Str)=true:=h3
    rw[aal h3]at Ka
    refine⟨_,O,.inl ⟨O,_,aM.of b2⟩,_,O,rr,_,_,O,O,b2,by rw[aak];exact aaD l2 (aav (show i<2001 by omega) 'c'),?_⟩
    have c1:(upd H3 rr (.lst (row.map V.str++[.str cell]))) lt=some (.lst es):=(aB (abi nr)).trans b1
    refine⟨_,O,.inl ⟨O,_,aM.of c1⟩,_,O,lt,es,_,O,O,c1,aaD l3 (aav (show i<2001 by omega) 'c'),?_⟩
    have s5:aC H (upd (upd H3 rr (.lst (row.map V.str++[.str cell]))) lt (.lst (es++[.ref rr]))):=aE hlt (aE Ro s4)
    have d1:(upd (upd H3 rr (.lst (row.map V.str++[.str cell]))) lt (.lst (es++[.ref rr]))) lt=some (.lst (es++[.ref rr])):=aj
    have d2:(upd (upd H3 rr (.lst (row.map V.str++[.str cell]))) lt (.lst (es++[.ref rr]))) rr=some (.lst ((row++[cell]).map V.str)):=by rw[aB nr,aj,aaF];rfl
    have nl:V.ref lt∉es++[V.ref rr]:=λq=>by
     rcases aaI.mp q with q|q
     ·exact n1 q
     ·exact nr (V.ref.inj (aap.mp q)).symm
    have Xa:qZ H (upd (upd H3 rr (.lst (row.map V.str++[.str cell]))) lt (.lst (es++[.ref rr]))) (es++[.ref rr]) (rows++[row++[cell]]):=qZ.app (qZ.but n1 (qZ.but n2 rw')) (.cons ⟨rr,rfl,Ro,d2⟩ .nil)
    have nd5:(es++[V.ref rr]).Nodup:=List.nodup_append.mpr ⟨nd,by simp,λx hx y hy e=>n2 (by rw[aap.mp hy]at e;exact e▸hx)⟩
    generalize upd (upd H3 rr (.lst (row.map V.str++[.str cell]))) lt (.lst (es++[.ref rr]))=H5 at s5 d1 d2 Xa⊢
    refine⟨by decide,λr2 hr2=>?_⟩
    have sn:=aq (o:=HO.lst []) hr2
    have nr2:r2≠lt:=λq=>by rw[q,d1]at hr2;cases hr2
    refine⟨s5.trans sn,r2,es++[.ref rr],[],_,_,_,O,s5.free hr2,sn _ _ d1,aj,nr2,nl,λq=>?_,nd5,_,qZ.mono sn Xa,Ka,by rw[e0];omega,aaY _,by rw[aaJ];show es.length+1<=_;omega⟩
    obtain⟨_,ys,hys⟩:=Xa.has q
    rw[hys]at hr2;cases hr2
   have h3:¬bU kd ("end":Str)=true:=h3
   rw[aag h3]at Ka
   exact⟨s4,rr,es,row,cell,_,_,O,Ro,b1,b2,nr,n1,n2,nd,rows,rw',Ka,by omega,by omega,by omega⟩
  ·rintro σ H2 ⟨s3,rr,es,row,cell,v5,v6,rfl,Ro,b1,b2,nr,n1,n2,nd,rows,rw',hg,l1,l2,l3⟩
   refine⟨_,O,k lt es H2 hlt b1 n1 nd ?_ s3⟩
   have e:min z.cps.size (ks.map V.str).length=min z.cps.toList.length ks.length:=by
    have ez:z.cps.toList.length=z.cps.size:=aaE
    rw[aak,ez]
   rw[e,CI]at hg
   have:N2 z ks=rows:=by unfold N2;rw[hg]
   rw[this]
   exact rw'
inductive pN(K:W.Frag)(C:Addr)(vs:List V)(H:Hp)(Q:VK)(E_:XK):Prop where
 |mk (x dx:Addr) (z:Str) (p q f:Str) (b1 b2 b3 b4:Bool):(vs=[.ref x,.str z])->(H x=some (.ins C dx (G9 p q f b1 b2 b3 b4)))->(Gd p q f)->(d9 z)->(z.length<=2000)->(∀v H',BZ H H' v (Tw (Tu p q f b1 b2 b3 b4 z) z)->aC H H'->Q v H')->pN K C vs H Q E_
theorem yC:zzz T fu 9 24 ["dialect","text"] (pN K (av 50)):=by
 have L7:=IF T
 have EM:=Dh T
 have Rp:=Ou T
 refine T.rH.ok oZ (λvs H Q E h=>?_) 'a'
 ·obtain⟨x,dx,z,p,q,f,b1,b2,b3,b4,rfl,_⟩:=h;rfl
 ·have hu:=bz hr
  obtain⟨x,dx,z,p,q,f,b1,b2,b3,b4,rfl,hx,g,hz,hz2,k⟩:=h
  have hw:=λe=>LI (p:=p) (q:=q) (f:=f) (b1:=b1) (b2:=b2) (b3:=b3) (b4:=b4) (w:=("row":Str)) (u:=("":Str)) (cs:=z.cps.toList) (e:=e)
  refine⟨_,(ai (fB 2 oZ.nd (fh Rp hr T.QO T.LV.kp T.QN (af (pv 0) (af (pv 1) ah))))
   (ai (aK (eN Na (fh L7 hr T.LX T.C3.kp T.LW (af (pv 2) ah)) gS) (ao (az gS)) aA)
   (ao (az (fh EM hr T.EC T.xw.kp T.EB (af (pv 1) (af (uA K (pv 2) ak) ah))))))),?_⟩
  refine⟨_,O,_,O,x,dx,z,p,q,f,b1,b2,b3,b4,O,hx,g,hz,hz2,λtw lk s H1 ht Uc hk hs s1=>?_⟩
  unfold Tu at k
  generalize runM p q f b1 b2 b3 b4 ("row":Str) ("":Str) z.cps.toList=r at ht hk hs hw k
  refine⟨_,O,tw,lk,s,r.1,r.2.1,r.2.2.1,r.2.2.2,O,ht,hk,hs,λh1 h2=>?_,λh1 t Rq=>?_⟩
  ·refine⟨O,_,O,O9 (aaq rfl) ?_⟩
   have hW:LF r=("":Str):=by unfold LF;rw[h1];exact aal h2
   refine⟨_,O,_,O,tw,_,_,_,O,O,bR.of ht,O,z,lk,r.1,O,hk,hz2,λl es H2 hl hl2 nl nd rw2 s2=>?_⟩
   refine k (.ref l) H2 ?_ (s1.trans s2)
   unfold Tw
   rw[aal hW]
   exact⟨l,es,O,s1.free hl,hl2,bN (λa b ⟨c,e1,e2,e3⟩=>⟨c,e1,s1.free e2,e3⟩) rw2⟩
  have hW:LF r≠Str.ofString "":=by
   unfold LF
   cases ho:r.2.2.2 with
   |some e=>exact(hw e ho).1
   |none =>
    show(if zG r.2.1 r.2.2.1=true then Str.ofString "" else Str.ofString "cut")≠_
    rw[aag (by rw[h1 ho];decide)]
    exact λq=>absurd (congrArg (λz=>bU z ("":Str)) q) 'h'
  refine⟨O,_,O,Pa (aas (by intro z;cases z)) ?_⟩
  refine k .non _ ?_ (s1.trans (aq Rq))
  unfold Tw
  rw[aag hW]
  rfl
inductive nu(K:W.Frag)(CM CN:Addr)(vs:List V)(H:Hp)(Q:VK)(E:XK):Prop where
 |mk (ld lt:Addr) (xs ws:List V):(vs=[.ref ld,.ref lt])->(H ld=some (.lst xs))->(H lt=some (.lst ws))->((∀v∈ws,BY H v/\(∀z,v=.str z->z.length<=10000)))->((jc xs.length ws=0->∀d H',H d=none->H' d=some (MP d [(Str.ofString "most",.int 8)])->aC H H'->E (.ref CM) (some d) H'))->((jc xs.length ws=1->∀d H',H d=none->H' d=some (MP d [(Str.ofString "most",.int 6)])->aC H H'->E (.ref CM) (some d) H'))->((jc xs.length ws=2->∀H',aC H H'->E (.ref CN) none H'))->((jc xs.length ws=3->∀H',aC H H'->Q .non H'))->nu K CM CN vs H Q E
theorem xF:zzz T (BW P w) 5 25 ["dialects","texts"] (nu K (av 70) (av 54)):=by
 have iV:=oR T
 have lF:=pM T
 refine T.pq.Wd mQ (λvs H Q E h=>?_) 'a'
 ·obtain⟨ld,lt,xs,ws,rfl,_⟩:=h;rfl
 ·have hu:=bz hr
  obtain⟨ld,lt,xs,ws,rfl,hd,hw,hk,k0,k1,k2,k3⟩:=h
  refine⟨_,(ai (aK (eN qP (gm (aJ K rfl) T.bQ (af (pv 0) ah)) (qT rfl T.nc.choose_spec)) (ao (zC rfl T.cz (.inr ⟨_,_,O,T.aR⟩) T.lA.choose_spec.1 T.lA.choose_spec.2 iV (hr.mono 'c') T.iP T.uF rfl T.oi (af (qT rfl T.nc.choose_spec) ah))) aA)
   (ai (aK (eN qP (gm (aJ K rfl) T.bQ (af (pv 1) ah)) (qT rfl T.pH.choose_spec)) (ao (zC rfl T.cz (.inr ⟨_,_,rfl,T.aR⟩) T.lA.choose_spec.1 T.lA.choose_spec.2 iV (hr.mono 'c') T.iP T.uF rfl T.oi (af (qT rfl T.pH.choose_spec) ah))) aA)
   (ao (gv PassesOwn.leaving rfl (di K rfl (pv 1)) (kC 2 mQ.nd)
   (ao (eF (vS (k:=4) lF (hr.mono 'c') rfl T.rG T.k9.kp T.rF .nil O1 (af (pv 2) ah)))))))),?_⟩
  refine⟨_,O,_,_,O,.inl (aM.of hd),_,_,O,O,_,O,?_⟩
  refine UX (λc1=>?_) (λc1=>?_)
  ·have e:jc xs.length ws=0:=by unfold jc;rw[aal 'b']
   have k0:=k0 e
   refine⟨'c',λea oV=>⟨_,_,O,aj,'c',λd H' hd nd e1 e2 RZ=>⟨O,_,e1,k0 _ _ ((aE oV (aC.refl _)).free hd) ?_ ?_⟩⟩⟩
   ·rw[wI nd];exact e2
   ·exact wW (aC.refl _) oV hd RZ
  refine⟨_,O,_,_,O,.inl (aM.of hw),_,_,O,O,_,O,?_⟩
  refine UX (λc2=>?_) (λc2=>?_)
  ·have e:jc xs.length ws=1:=by unfold jc;rw[aag 'b',aal 'b']
   have k1:=k1 e
   refine⟨'c',λea oV=>⟨_,_,O,aj,'c',λd H' hd nd e1 e2 RZ=>⟨O,_,e1,k1 _ _ ((aE oV (aC.refl _)).free hd) ?_ ?_⟩⟩⟩
   ·rw[wI nd];exact e2
   ·exact wW (aC.refl _) oV hd RZ
  refine⟨_,O,lt,O,⟨_,aM.of hw⟩,?_⟩
  refine qO (K:=K) (a:=lt) (xs:=ws) (λi σ J=>aC H J/\(∀v∈ws.take i,Ay v=true)/\∃v,σ=[some (.ref ld),some (.ref lt),v]) ⟨aC.refl _,(λv hv=>nomatch hv),_,rfl⟩ (λi σ J _ q=>aM.of (q.1 _ _ hw)) ?_ ?_
  ·rintro i e σ J hi ⟨sJ,hall,v,rfl⟩
   obtain⟨ke,be⟩:=hk e (aau hi)
   refine⟨_,O,e,O,ke.mono sJ,be,(λhT H3 s3=>⟨sJ.trans s3,λw U3=>?_,_,O⟩),λhT H3 s3=>?_⟩
   ·rw[bV hi]at U3
    rcases aaI.mp U3 with q|q
    ·exact hall w q
    ·rw[aap.mp q];exact hT
   ·refine k2 ?_ H3 (sJ.trans s3)
    unfold jc
    rw[aag 'b',aag 'b',aag]
    intro q
    rw[aaB.mp q e (aau hi)]at hT;cases hT
  ·rintro σ J ⟨sJ,hall,v,rfl⟩
   rw[aaK (aan _)]at hall
   refine k3 ?_ J sJ
   unfold jc
   rw[aag 'b',aag 'b',aal (aaB.mpr hall)]
inductive ny(K:W.Frag)(C:Addr)(vs:List V)(H:Hp)(Q:VK)(E_:XK):Prop where
 |mk (ld:Addr) (z:Str) (xs:List V) (cs:List oY):(vs=[.ref ld,.str z])->(H ld=some (.lst xs))->(wQ C H xs cs)->((∀c∈cs,ya c))->(cs.length<=100)->(d9 z)->(z.length<=2000)->(∀l H',H l=none->H' l=some (.lst ((readM (wX cs z)).map nV))->aC H H'->Q (.ref l) H')->ny K C vs H Q E_
theorem nA:zzz T fu 10 26 ["dialects","text"] (ny K (av 50)):=by
 have AZ:=yC T
 refine T.jP.ok mR (λvs H Q E h=>?_) 'a'
 ·obtain⟨ld,z,xs,cs,rfl,_⟩:=h;rfl
 ·have hu:=bz hr
  obtain⟨ld,z,xs,cs,rfl,hd,mk,gd,hc,hz,yx,k⟩:=h
  have EN:=hr.units
  have Rr:=mk.length
  have hrl:(wX cs z).length=cs.length:=by unfold wX;exact aak _
  refine⟨_,(ai (fB 2 mR.nd (iz rfl (show aT ["dialects","text","tables"] (au fk) ["dialect","text"] 1 [1] _ from CA) (di K rfl (pv 0)) (λ_ _ _ _=>(kC 0 (show(["dialect","text"]:List Str).Nodup by decide +kernel))) (λ_ _ _ _=>cJ) (λ_ _ _ _=>(fh AZ hr T.AM T.rH.kp T.AL (af (pv 0) (af (pv 1) ah))))))
   (ao (az (iz rfl (show aT ["dialects","text","tables"] (au fk) ["table","tables"] 1 [2] _ from CA) (di K rfl (pv 2)) (λ_ _ _ _=>(kC 0 (show(["table","tables"]:List Str).Nodup by decide +kernel))) (λ_ _ _ _=>cJ) (λ_ _ _ _=>(fU K rfl aaP PySem.F.slot_list_index PySem.F.type_list_index (Ls K rfl EN) (pv 1) (af (pv 0) ah))))))),?_⟩
  refine⟨_,O,ld,O,⟨_,aM.of hd⟩,λD hD=>?_⟩
  have EO:(upd H D (.lst [])) D≠none:=by rw[aj];intro q;cases q
  have L8:∀{J:Hp}{ys:List V},aC H J->J D=some (.lst ys)->∀b,J b=none->(upd H D (.lst [])) b=none:=λsJ hJ b hb=>(aB (λq=>by rw[q,hJ]at hb;cases hb)).trans (sJ.free hb)
  generalize Xb:upd H D (.lst [])=A0 at EO L8
  refine fO (K:=K) (a:=ld) (xs:=xs) (λi ys τ J=>(∃v,τ=[v,some (.str z)])/\aC H J/\J D=some (.lst ys)/\Rds A0 J ys ((wX cs z).take i)) ⟨⟨_,rfl⟩,aq hD,aj,.nil⟩ (λi ys τ J _ p=>⟨aM.of (p.2.1 _ _ hd),p.2.2.1⟩) ?_ ?_
  ·rintro i e ys τ J hi ⟨⟨v,rfl⟩,sJ,hJ,rs⟩
   obtain⟨x,hx,y,dy,rfl,hy⟩:=aS mk i e hi
   have hil:i<cs.length:=(aaj.mp hx).1
   have hyl:=rs.length
   rw[aaL]at hyl
   refine qq ?_
   refine⟨_,O,_,O,y,dy,z,x.1,x.2.1,x.2.2.1,x.2.2.2.a,x.2.2.2.b,x.2.2.2.c,x.2.2.2.d,O,sJ _ _ hy,gd x (aau hx),hz,yx,λv H1 rv s1=>?_⟩
   have MU:=s1 _ _ hJ
   refine⟨MU,aaD (show ys.length<=100 by omega) 'c',⟨_,O⟩,aE hD (sJ.trans s1),aj,?_⟩
   rw[bV (l:=wX cs z) (c:=Tw (runC x z) z) (by unfold wX;rw[aaW,hx];rfl)]
   exact d8 (bN (λ_ _ h=>(h.mono s1).set EO) rs) (.cons ((rv.old (L8 sJ hJ)).set EO) .nil)
  rintro ys τ J ⟨⟨v,rfl⟩,sJ,hJ,rs⟩
  rw[Rr,aaK (by rw[hrl];exact aan _)]at rs
  have hyl:=rs.length
  generalize wX cs z=os at rs hyl hrl k
  refine⟨_,O,D,O,⟨_,aM.of hJ⟩,λD2 Xc=>?_⟩
  refine fO (K:=K) (a:=D) (xs:=ys) (λi zs τ G=>(∃v,τ=[v,some (.ref D)])/\aC J G/\G D2=some (.lst zs)/\zs=((readM os).take i).map nV) ⟨⟨_,rfl⟩,aq Xc,aj,rfl⟩ (λi zs τ G _ p=>⟨aM.of (p.2.1 _ _ hJ),p.2.2.1⟩) ?_ ?_
  ·rintro i e zs τ G hi ⟨⟨v,rfl⟩,sG,hG,rfl⟩
   obtain⟨o,ho,ro⟩:=aS rs i e hi
   have hil:i<os.length:=(aaj.mp ho).1
   have Xd:=aau ho
   refine qq ?_
   obtain⟨aac,hxa⟩:=LR Xd
   have Xe:=bN (λ_ _ h=>BZ.mono sG h) rs
   refine⟨_,O,.inl ⟨O,_,aM.of (sG _ _ hJ)⟩,_,O,D,ys,e,QL A0 G o,yi o os,O,O,aM.of (sG _ _ hJ),λz hz=>?_,by omega,?_,λj z hj hz=>?_,?_⟩
   ·obtain⟨j,hj⟩:=abA.mp hz
    obtain⟨o',_,R4⟩:=aS Xe j z hj
    rw[AI R4]
    exact QK R4 (ro.mono sG)
   ·obtain⟨z,hz⟩:∃z,ys[yi o os]?=some z:=⟨_,aaR 'b'⟩
    obtain⟨o',ho',R4⟩:=aS Xe _ z hz
    rw[hxa]at ho'
    exact⟨z,hz,by rw[AI R4];exact aaq (aah ho').symm⟩
   ·obtain⟨o',ho',R4⟩:=aS Xe j z hz
    rw[AI R4]
    exact aas λq=>LS hj (by rw[ho',q])
   ·refine⟨hG,?_,⟨_,O⟩,aE Xc sG,aj,?_⟩
    ·rw[aak,aaL]
     exact aaD (show min i (readM os).length<=100 by omega) 'c'
    ·rw[bV (l:=readM os) (c:=yi o os) (by unfold readM;rw[aaW,ho];rfl),aaF];rfl
  rintro zs τ G ⟨⟨v,rfl⟩,sG,hG,rfl⟩
  have e:(readM os).take ys.length=readM os:=aaK (by unfold readM;rw[aak];omega)
  rw[e]at hG
  exact k D2 G (sJ.free Xc) hG (sJ.trans sG)
inductive uJ(K:W.Frag)(vs:List V)(H:Hp)(Q:VK)(E_:XK):Prop where
 |mk (lr lp:Addr) (r ps:List Nat):(vs=[.ref lr,.ref lp])->(H lr=some (.lst (r.map nV)))->(H lp=some (.lst (ps.map nV)))->((∀p∈ps,p<r.length))->(ps.length<=100)->(∀l es H',H l=none->H' l=some (.lst es)->aY H H' es (aL r ps)->aC H H'->Q (.ref l) H')->uJ K vs H Q E_
theorem nB:zzz T fu 1 27 ["readings","places"] (uJ K):=by
 refine T.lg.ok jj (λvs H Q E h=>?_) 'a'
 ·obtain⟨lr,lp,r,ps,rfl,_⟩:=h;rfl
 ·have hu:=bz hr
  have gK:=hr.aO
  obtain⟨lr,lp,r,ps,rfl,hlr,zR,hlt,hpl,k⟩:=h
  refine⟨_,(ai (fB 2 jj.nd (bM ah))
   (ai (gv aa3 rfl (di K rfl (pv 1)) (kC 3 jj.nd)
   (ai (nY (i:=4) rfl jj.nd rfl rfl (show aT ["readings","places","parts","place","beside"] (au kO) ["part","readings","place"] 1 [0,3] _ from CA) (di K rfl (pv 2)) (λ_ _ _ _=>(kC 0 (show(["part","readings","place"]:List Str).Nodup by decide +kernel))) (λ_ _ _ _=>(Nl (eN bg (mj K (pv 1) (mj K (pv 0) ak)) (mj K (pv 1) (pv 2))))) (λ_ _ _ _=>(pv 0)))
   (ao (aK (eN (Ek K rfl gK) (pv 4) (bM ah)) (ao (eF (fU K rfl aaP aaT aaU cN (pv 2) (af (bM (af (pv 3) ah)) ah)))) (ao (eF (fU K rfl aaP aaT aaU cN (mj K (pv 4) ak) (af (pv 3) ah))))))))
   (ao (az (pv 2))))),?_⟩
  refine⟨by decide,λl hl=>?_⟩
  have s1:=aq (o:=HO.lst []) hl
  refine⟨_,O,lp,O,⟨_,aM.of (s1 _ _ zR)⟩,?_⟩
  refine qO (K:=K) (a:=lp) (xs:=ps.map nV) (λi σ J=>aC H J/\∃es v1 v2,σ=[some (.ref lr),some (.ref lp),some (.ref l),v1,v2]/\J l=some (.lst es)/\V.ref l∉es/\es.Nodup/\aY H J es (aL r (ps.take i))/\(aL r (ps.take i)).length<=i) ⟨s1,[],_,_,rfl,aj,by simp,List.nodup_nil,.nil,aan _⟩ (λi σ J _ q=>aM.of (q.1 _ _ zR)) ?_ ?_
  ·rintro i e σ J hi ⟨sJ,es,v1,v2,rfl,hJ,hn,nd,pa,pl⟩
   obtain⟨p,hp,rfl⟩:=Hl hi
   have hpm:=aau hp
   have hp1:=hlt p hpm
   have hil:i<ps.length:=(aaj.mp hp).1
   have good:=iK (r:=r) (ps:=ps.take i)
   have hsn:=Ew (r:=r) hp
   have Zo:∀q∈aL r (ps.take i),q.headD 0<r.length:=λq hq=>by
    obtain⟨h1,h2⟩:=good q hq
    cases q with
    |nil=>exact absurd rfl h1
    |cons x q=>exact hlt x (List.mem_of_mem_take (h2 x (aaC ..)))
   have hne:∀q∈aL r (ps.take i),q≠[]:=λq hq=>(good q hq).1
   have Ud:=pa.length
   have Zp:∀q∈aL r (ps.take i),q.length<=i:=λq hq=>by
    have:=AB hq;rw[aaL]at this;omega
   rw[hsn]
   generalize aL r (ps.take i)=qs at pa pl Zo hne Ud Zp
   have atp:tE (r.map nV) (p:Int)=some (nV (r.getD p 0)):=eG (TF hp1)
   refine⟨_,O,l,O,⟨_,aM.of hJ⟩,λD hD=>?_⟩
   refine fO (K:=K) (a:=l) (xs:=es) (λj ys τ G=>(∃v,τ=[v,some (.ref lr),some (nV p)])/\aC J G/\G D=some (.lst ys)/\ys=rj r p ((es.zip qs).take j)) ⟨⟨_,rfl⟩,aq hD,aj,rfl⟩ (λj ys τ G _ q=>⟨aM.of (q.2.1 _ _ hJ),q.2.2.1⟩) ?_ ?_
   ·rintro j e ys τ G hj ⟨⟨v,rfl⟩,sG,hG,rfl⟩
    obtain⟨q,hq,a,rfl,ha0,ha⟩:=aS pa j e hj
    have Pf:=aau hq
    have haG:=sG _ _ ha
    have hqn:=hne q Pf
    have hql:=Zo q Pf
    have Hy:tE (q.map nV) 0=some (nV (q.headD 0)):=by
     cases q with
     |nil=>exact absurd rfl hqn
     |cons x q=>exact(show tE _ ((0:Nat):Int)=_ from eG rfl)
    have atq:tE (r.map nV) ((q.headD 0:Nat):Int)=some (nV (r.getD (q.headD 0) 0)):=eG (TF hql)
    have Zq:=sG _ _ (sJ _ _ hlr)
    have hzj:(es.zip qs)[j]?=some (.ref a,q):=by rw[List.getElem?_zip_eq_some];exact⟨hj,hq⟩
    have hhl:=N8 (r:=r) (p:=p) (Z:=(es.zip qs).take j)
    have yx:((es.zip qs).take j).length<=100:=by rw[aaL,abE];omega
    rw[LN hzj]
    refine⟨_,O,_,O,_,_,_,_,O,O,aM.of haG,Hy,_,_,_,_,O,O,aM.of Zq,atq,_,O,_,O,_,_,_,_,O,O,aM.of Zq,atp,O,_,O,?_⟩
    refine S3 (λc=>?_) (λc=>?_)
    ·have c:r.getD (q.headD 0) 0=r.getD p 0:=by omega
     rw[aal c]
     refine⟨_,O,hG,aaD (show _<=200 by omega) 'c',⟨_,O⟩,aE hD sG,aj,O⟩
    ·have c:¬r.getD (q.headD 0) 0=r.getD p 0:=λe=>c 'b'
     rw[aag c]
     exact⟨⟨_,O⟩,sG,hG,O⟩
   rintro ys τ G ⟨⟨v,rfl⟩,sG,hG,rfl⟩
   have hel:es.length=qs.length:=Ud
   rw[aaK (by rw[abE];omega)]at hG
   have Xf:=sG _ _ hJ
   have lD:l≠D:=λq=>by rw[q]at hJ;rw[hD]at hJ;cases hJ
   rcases zJ (r:=r) (p:=p) hel with ⟨e1,e2⟩|⟨e,ws,j,q,e1,e2,e3,e4⟩
   ·rw[e1]at hG
    rw[e2]
    dsimp only[cT]
    refine⟨_,O,'c',λq0 yD=>⟨_,_,_,O,O,aM.of (aq yD _ _ hG),aM.of aj,_,O,dh (⟨_,O,.inl ⟨O,⟨_,aM.of (aq yD _ _ Xf)⟩⟩,_,O,(by show(1:Nat)<=sizeLine;decide),?_⟩)⟩⟩
    (have u1:=aq (o:=HO.lst []) yD;have g1:=aj (H:=G) (a:=q0) (o:=HO.lst []);generalize upd G q0 (HO.lst [])=G1 at u1 g1⊢)
    have Ue:=u1 _ _ Xf
    have R5:=sJ.trans (sG.trans u1)
    have Zr:=aY.mono (sG.trans u1) pa
    intro n hn0
    have Zs:n≠l:=λq=>by rw[q,Ue]at hn0;cases hn0
    have s2:=aq (o:=HO.lst [nV p]) hn0
    have Zf:V.ref n∉es:=λq=>by
     obtain⟨j,hj⟩:=abA.mp q
     obtain⟨_,_,a,e,_,ha⟩:=aS Zr j _ hj
     cases e;rw[ha]at hn0;cases hn0
    refine⟨_,_,_,O,O,s2 _ _ Ue,aaD (show es.length<=200 by omega) 'c',aE hl (R5.trans s2),es++[.ref n],_,_,O,aj,?_,?_,?_,?_⟩
    ·intro q
     rcases aaI.mp q with q|q
     ·exact hn q
     ·exact Zs (V.ref.inj (aap.mp q)).symm
    ·exact List.nodup_append.mpr ⟨nd,by simp,λx hx y hy e=>Zf (by rw[aap.mp hy]at e;exact e▸hx)⟩
    ·exact d8 (aY.but hn (aY.mono s2 Zr)) (.cons ⟨n,rfl,R5.free hn0,(aB Zs).trans aj⟩ .nil)
    ·rw[aaJ];show qs.length+1<=i+1;omega
   ·rw[e1]at hG
    rw[e4]
    obtain⟨q',hq',a,rfl,ha0,ha⟩:=aS pa j e e2
    rw[e3]at hq';cases hq'
    dsimp only[cT]
    have hqi:=Zp q (aau e3)
    refine⟨_,O,'c',λq0 yD=>⟨_,_,_,O,O,aM.of (aq yD _ _ hG),aM.of aj,_,O,bS (⟨_,O,_,_,_,_,O,O,aM.of (aq yD _ _ hG),(show tE _ ((0:Nat):Int)=_ from eG rfl),.inl ⟨O,⟨_,aM.of (aq yD _ _ (sG _ _ ha))⟩⟩,_,O,_,_,_,O,O,(aq yD _ _ (sG _ _ ha)),?_,(aE ha0 (aE ((sJ.trans sG).free yD) (sJ.trans sG))),?_⟩)⟩⟩
    ·rw[aak];exact aaD (show q.length<=100 by omega) 'c'
    have sn:=aq (o:=HO.lst []) yD
    have sG1:=sG.trans sn
    have el:q++[p]=q++[p]:=rfl
    have al:l≠a:=λq=>hn (by rw[q];exact aau e2)
    refine⟨es,_,_,O,(aB al).trans (sn _ _ Xf),hn,nd,?_,by rw[List.length_set];omega⟩
    rw[show q.map nV++[nV p]=(q++[p]).map nV by rw[aaF];rfl]
    exact aY.Tz (aY.mono sG1 pa) nd e2
  ·rintro σ J ⟨sJ,es,v1,v2,rfl,hJ,hn,nd,pa,pl⟩
   rw[aaK (by rw[aak];exact aan _)]at pa
   exact⟨_,O,k l es J hl hJ pa sJ⟩
inductive jt(K:W.Frag)(vs:List V)(H:Hp)(Q:VK)(E_:XK):Prop where
 |mk (la lp:Addr) (pO:List V) (R:List (List Nat)) (ps:List Nat):(vs=[.ref la,.ref lp])->(H la=some (.lst pO))->(mL H pO R)->(R.length<=100)->(H lp=some (.lst (ps.map nV)))->(ps.length<=100)->((∀r∈R,∀p∈ps,p<r.length))->(∀H',aC H H'->Q (.bl (e7 R ps)) H')->jt K vs H Q E_
theorem ju:zzz T fu 2 28 ["all_readings","places"] (jt K):=by
 have iW:=nB T
 refine T.gA.ok rq (λvs H Q E h=>?_) 'a'
 ·obtain⟨la,lp,pO,R,ps,rfl,_⟩:=h;rfl
 ·have hu:=bz hr
  obtain⟨la,lp,pO,R,ps,rfl,hla,rg,hR,zR,hps,hb,k⟩:=h
  have hrl:=rg.length
  refine⟨_,(ao (az (gm (jZ K rfl rfl) T.xA (af (iz rfl (show aT ["all_readings","places"] (au eO) ["readings","places"] 1 [1] _ from CA) (di K rfl (pv 0)) (λ_ _ _ _=>(kC 0 (show(["readings","places"]:List Str).Nodup by decide +kernel))) (λ_ _ _ _=>cJ) (λ_ _ _ _=>(BX ur (gm (aJ K rfl) T.bQ (af (fh iW hr T.qz T.lg.kp T.qy (af (pv 0) (af (pv 1) ah))) ah)) ak))) ah)))),?_⟩
  refine⟨_,O,la,O,⟨_,aM.of hla⟩,λD hD=>?_⟩
  refine fO (K:=K) (a:=la) (xs:=pO) (λi ys τ J=>(∃v,τ=[v,some (.ref lp)])/\aC H J/\J D=some (.lst ys)/\ys=((R.take i).map λr=>decide ((aL r ps).length<2)).map V.bl) ⟨⟨_,rfl⟩,aq hD,aj,rfl⟩ (λi ys τ J _ p=>⟨aM.of (p.2.1 _ _ hla),p.2.2.1⟩) ?_ ?_
  ·rintro i e ys τ J hi ⟨⟨v,rfl⟩,sJ,hJ,rfl⟩
   obtain⟨r,Ov,a,rfl,ha⟩:=aS rg i e hi
   have hrm:=aau Ov
   have hil:i<R.length:=(aaj.mp Ov).1
   refine qq ?_
   have Ug:=hb r hrm
   have hhJ:=sJ _ _ ha
   have hhp:=sJ _ _ zR
   refine⟨_,O,_,O,a,lp,r,ps,O,hhJ,hhp,Ug,hps,λl es H1 Uc hl pa s1=>?_⟩
   have pal:=pa.length
   have MU:=s1 _ _ hJ
   have e2:((((R.take i).map λr=>decide ((aL r ps).length<2)).map V.bl)++[.bl (decide ((aL r ps).length<2))])=((R.take (i+1)).map λr=>decide ((aL r ps).length<2)).map V.bl:=by
    rw[bV Ov,aaF,aaF];rfl
   have e3:decide (((aL r ps).length:Int)<2)=decide ((aL r ps).length<2):=by
    rw[aa0,aaS,aaS];omega
   refine⟨l,es,O,.inl (aM.of hl),_,_,O,O,MU,?_,⟨_,O⟩,aE hD (sJ.trans s1),aj,?_⟩
   ·rw[aak,aak,aaL];exact aaD (show min i R.length<=100 by omega) 'c'
   ·rw[pal];show _++[V.bl (decide (((aL r ps).length:Int)<2))]=_;rw[e3];exact e2
  rintro ys τ J ⟨⟨v,rfl⟩,sJ,hJ,rfl⟩
  rw[hrl,aaK (aan _)]at hJ
  have e4:((R.map λr=>decide ((aL r ps).length<2)).all id)=e7 R ps:=by unfold e7;rw[abo];rfl
  refine⟨D,R.map λr=>decide ((aL r ps).length<2),O,aM.of hJ,?_⟩
  rw[e4]
  exact k J sJ
inductive f6(K:W.Frag)(D:Nat)(vs:List V)(H:Hp)(Q:VK)(E_:XK):Prop where
 |mk (la lp:Addr) (pO:List V) (R:List (List Nat)) (ps:List Nat) (d:Nat):(vs=[.ref la,.ref lp,.int (d:Int)])->(d<D)->(H la=some (.lst pO))->(mL H pO R)->(R.length<=100)->(H lp=some (.lst (ps.map nV)))->(ps.length<=100)->((∀r∈R,∀p∈ps,p<r.length))->(∀v H',OT H H' d v (cC R d ps)->aC H H'->Q v H')->f6 K D vs H Q E_
theorem rV:∀d:Nat,bx P w K mg base fu (2+1*d) (av 29) (aN 29) ["all_readings","places","depth"] (f6 K d):=by
 intro d
 induction d with
 |zero=>exact⟨λvs H Q E h=>by exfalso;obtain⟨la,lp,pO,R,ps,d,rfl,hd,_⟩:=h;omega,λA outer s H args us vs Q E _ _ _ _ h=>by exfalso;obtain⟨la,lp,pO,R,ps,d,rfl,hd,_⟩:=h;omega⟩
 |succ d ih =>
  have jS:=ih
  show bx P w K mg base fu (2+1*d+1) (av 29) (aN 29) ["all_readings","places","depth"] (f6 K (d+1))
  have gF:=ju T
  have iW:=nB T
  refine T.jQ.ok ef (λvs H Q E h=>?_) 'a'
  ·obtain⟨la,lp,pO,R,ps,d,rfl,_⟩:=h;rfl
  ·have Uh:=hr
   have hr:cM 2 _:=hr.mono 'b'
   obtain⟨la,lp,pO,R,ps,k,rfl,hkd,hla,rg,hR,zR,hps,hb,kk⟩:=h
   have EN:=hr.units
   have hrl:=rg.length
   have hpl:(ps.map nV).length=ps.length:=aak _
   refine⟨_,(ai (aK (bO (fh gF hr T.j4 T.gA.kp T.j3 (af (pv 0) (af (pv 1) ah)))) (ao (az (aQ (af ay (af (Tq (oU K rfl) T.om (af (pv 1) ah)) ah))))) aA)
   (ai (aK (eN bg (pv 2) ak) (ao (az gS)) aA)
   (ai (gv aa3 rfl (K7 K rfl rfl T.AW (af (pv 0) ah)) (kI K rfl 2 rfl (cD (kC 3 ef.nd) (cD (kC 4 ef.nd) kG)))
   (ai (fB 5 ef.nd (fh iW hr T.qz T.lg.kp T.qy (af (pv 4) (af (pv 1) ah))))
   (ao (aK (eN qP (gm (aJ K rfl) T.bQ (af (pv 5) ah)) ak) (ai (nY (i:=6) rfl ef.nd rfl rfl (show aT ["all_readings","places","depth","at","readings","parts","branches"] (au gH) ["part","all_readings","depth"] 1 [0,2] _ from CA) (di K rfl (pv 5)) (λ_ _ _ _=>(kC 0 (show(["part","all_readings","depth"]:List Str).Nodup by decide +kernel))) (λ_ _ _ _=>cJ) (λ_ _ _ _=>(fh jS Uh T.pD T.jQ.kp T.pC (af (pv 1) (af (pv 0) (af (aD sW (pv 2) ak) ah))) (hkk:=aan _))))
   (ao (aK (fS (Qt K rfl EN) gS (pv 6) rfl) (ao (az (aQ (af ay (af (pv 3) (af (pv 6) ah)))))) aA))) aA))))
   (ao (az gS))))),?_⟩
   refine⟨_,O,_,O,la,lp,pO,R,ps,O,hla,rg,hR,zR,hps,hb,λH1 s1=>?_⟩
   refine⟨_,O,Wb (λc1=>?_) (λc1=>?_)⟩
   ·have et:cC R k ps=some (.leaf ps):=by cases k<;>(unfold cC;rw[aal c1])
    rw[et]at kk
    have hp1:=s1 _ _ zR
    refine⟨_,O,_,_,O,.inl (aM.of hp1),λl hl=>⟨(by show(2:Nat)<=sizeLine;decide),λt ht=>kk _ _ ?_ (aE ((aE (s1.free hl) s1).free ht) (aE (s1.free hl) s1))⟩⟩
    have sl:=aq (o:=HO.lst (ps.map nV)) hl
    have st:=aq (o:=HO.tup [.str ("leaf":Str),.ref l]) ht
    have q:∃t' l',V.ref t=.ref t'/\H t'=none/\H l'=none/\(upd (upd H1 l (.lst (ps.map nV))) t (.tup [.str ("leaf":Str),.ref l])) t'=some (.tup [.str ("leaf":Str),.ref l'])/\(upd (upd H1 l (.lst (ps.map nV))) t (.tup [.str ("leaf":Str),.ref l])) l'=some (.lst (ps.map nV)):=⟨t,l,rfl,s1.free (sl.free ht),s1.free hl,aj,st _ _ aj⟩
    cases k<;>exact q
   have et:cC R 0 ps=none:=by unfold cC;rw[aag (by rw[c1];decide)]
   dsimp only[Km]
   cases k with
   |zero =>
    rw[et]at kk
    have kk:=kk .non H1 rfl s1
    refine⟨_,O,O,_,O,RU 'h' (kk)⟩
   |succ k =>
   have et2:cC R (k+1) ps=u0 (cC R k) ps 0 R:=by unfold cC;rw[aag (by rw[c1];decide)]
   rw[et2]at kk
   have nz:¬(((k+1:Nat):Int)=0):=by omega
   have Xg:=s1 _ _ hla
   refine⟨_,O,O,_,O,Em nz (⟨_,O,_,O,⟨_,aM.of Xg⟩,?_⟩)⟩
   refine K8 (K:=K) (a:=la) (xs:=pO) (λi σ J=>aC H J/\u0 (cC R k) ps 0 R=u0 (cC R k) ps i (R.drop i)/\∃v3 v4 v5 v6,σ=[some (.ref la),some (.ref lp),some (.int ((k+1:Nat):Int)),v3,v4,v5,v6]) ⟨s1,rfl,_,_,_,_,rfl⟩ (λi σ J _ q=>aM.of (q.1 _ _ hla)) ?_ ?_
   ·rintro i e t σ J hi ht ⟨sJ,vt,v3,v4,v5,v6,rfl⟩
    obtain⟨r,Ov,ra,rfl,Xh⟩:=aS rg i e hi
    have hrm:=aau Ov
    rw[Tt Ov,CO]at vt
    have st:=aq (o:=HO.tup [.int i,.ref ra]) ht
    refine⟨t,_,O,bR.of aj,O,_,_,O,_,_,O,O,?_⟩
    have ER:=sJ.trans st
    generalize upd J t (.tup [.int i,.ref ra])=J2 at ER⊢
    clear st ht
    have Ug:=hb r hrm
    have Xi:=ER _ _ Xh
    have Xj:=ER _ _ zR
    refine⟨_,O,_,O,ra,lp,r,ps,O,Xi,Xj,Ug,hps,λl5 Vc J3 Xk Rt Ru s3=>?_⟩
    have Xl:=Ru.length
    have R6:=ER.trans s3
    dsimp only[cT]
    refine⟨_,O,l5,Vc,O,.inl (aM.of Rt),_,_,O,O,_,O,UX (λc=>?_) (λc=>?_)⟩
    rotate_left
    ·rw[aag 'b']at vt
     exact⟨R6,vt,_,_,_,_,O⟩
    rw[aal 'b']at vt
    have good:=iK (r:=r) (ps:=ps)
    have Ui:∀q∈aL r ps,q.length<=ps.length:=λq hq=>AB hq
    have Xm:=tP (r:=r) (ps:=ps)
    generalize aL r ps=qs at Ru Xl c vt good Ui Xm
    have Xn:=R6 _ _ hla
    have rg3:=mL.mono R6 rg
    refine⟨_,O,l5,O,⟨_,aM.of Rt⟩,λB hB=>?_⟩
    have EO:(upd J3 B (.lst [])) B≠none:=by rw[aj];intro q;cases q
    have L8:∀{J:Hp}{ys:List V},aC J3 J->J B=some (.lst ys)->∀b,J b=none->(upd J3 B (.lst [])) b=none:=λsJ hJ b hb=>(aB (λq=>by rw[q,hJ]at hb;cases hb)).trans (sJ.free hb)
    have Zt:∀b,(upd J3 B (.lst [])) b=none->H b=none:=λb hb=>R6.free ((aq hB).free hb)
    generalize Xb:upd J3 B (.lst [])=A0 at EO L8 Zt
    refine fO (K:=K) (a:=l5) (xs:=Vc) (λj ys τ G=>(∃v,τ=[v,some (.ref la),some (.int ((k+1:Nat):Int))])/\aC J3 G/\G B=some (.lst ys)/\Paired (OT A0 G k) ys ((qs.take j).map (cC R k))) ⟨⟨_,rfl⟩,aq hB,aj,.nil⟩ (λj ys τ G _ q=>⟨aM.of (q.2.1 _ _ Rt),q.2.2.1⟩) ?_ ?_
    ·rintro j e ys τ G hj ⟨⟨v,rfl⟩,sG,hG,ot⟩
     obtain⟨q,hq,b,rfl,hb0,hbv⟩:=aS Ru j e hj
     have Pf:=aau hq
     have hyl:=ot.length
     rw[aak,aaL]at hyl
     refine qq ?_
     refine⟨_,O,_,O,_,O,_,_,O,O,la,b,pO,R,q,k,?_,by omega,sG _ _ Xn,mL.mono sG rg3,hR,sG _ _ hbv,?_,λr' hr' p hp=>hb r' hr' p ((good q Pf).2 p hp),λv G2 hv s2=>?_⟩
     ·show [V.ref la,V.ref b,V.int (((k+1:Nat):Int)-1)]++[]=_
      rw[show((k+1:Nat):Int)-1=(k:Int) by omega];rfl
     ·have:=Ui q Pf;omega
     have MV:=s2 _ _ hG
     refine⟨MV,aaD (show ys.length<=100 by omega) 'c',⟨_,O⟩,aE hB (sG.trans s2),aj,?_⟩
     rw[bV hq,aaF]
     exact d8 (bN (λ_ _ h=>(OT.mono s2 h).set EO) ot) (.cons ((OT.old (L8 sG hG) hv).set EO) .nil)
    rintro ys τ G ⟨⟨v,rfl⟩,sG,hG,ot⟩
    rw[aaK 'b']at ot
    dsimp only[cT]
    have han:=OT.any ot
    have Vd:=R6.trans sG
    obtain⟨y1,y2⟩:=CL (os:=qs.map (cC R k))
    refine⟨_,O,B,ys,TL,O,aM.of hG,λz hz=>?_,?_⟩
    ·obtain⟨j,hj⟩:=abA.mp hz
     obtain⟨o,_,ho⟩:=aS ot j z hj
     exact ho.cmp
    rw[han]
    refine⟨_,O,?_⟩
    cases hc:(qs.map (cC R k)).any Option.isNone with
    |true =>
     rw[y1 hc]at vt
     exact bS ⟨Vd,vt,_,_,_,_,rfl⟩
    |false =>
     obtain⟨bs,e1,e2⟩:=y2 hc
     rw[e1]at vt
     rw[e2]at ot
     refine dh ?_
     refine⟨_,O,_,O,(by show(3:Nat)<=sizeLine;decide),λt5 Rq=>kk _ _ ?_ (aE (Vd.free Rq) Vd)⟩
     have st:=aq (o:=HO.tup [.str ("ask":Str),.int i,.ref B]) Rq
     rw[vt]
     exact⟨t5,B,ys,O,Vd.free Rq,R6.free hB,aj,st _ _ hG,bN (λ_ _ h=>sQ.old Zt (sQ.mono st h)) (OT.trees ot)⟩
   rintro σ J ⟨sJ,vt,v3,v4,v5,v6,rfl⟩
   rw[hrl,List.drop_length]at vt
   refine kk .non J ?_ sJ
   rw[vt]
   rfl
theorem xG:zzz T fu 10 29 ["all_readings","places","depth"] (f6 K 8):=rV T 8
inductive xH(K:W.Frag)(C CM CN:Addr)(vs:List V)(H:Hp)(Q:VK)(E:XK):Prop where
 |mk (ld lt:Addr) (xs ws:List V) (cs:List oY):(vs=[.ref ld,.ref lt])->(H ld=some (.lst xs))->(wQ C H xs cs)->((∀c∈cs,ya c))->(cs.length<=100)->(H lt=some (.lst ws))->((∀v∈ws,BY H v/\(∀z,v=.str z->z.length<=10000)))->((jc xs.length ws=0->∀d H',H d=none->H' d=some (MP d [(Str.ofString "most",.int 8)])->aC H H'->E (.ref CM) (some d) H'))->((jc xs.length ws=1->∀d H',H d=none->H' d=some (MP d [(Str.ofString "most",.int 6)])->aC H H'->E (.ref CM) (some d) H'))->((jc xs.length ws=2->∀H',aC H H'->E (.ref CN) none H'))->((jc xs.length ws=3->∀zs:List Str,ws=zs.map V.str->(∀z∈zs,d9 z/\z.length<=2000)->∀d T v H',d<8->cC (B0 cs zs) d (List.range cs.length)=some T->(∀d'<d,cC (B0 cs zs) d' (List.range cs.length)=none)->sQ H H' d v T->aC H H'->Q v H'))->xH K C CM CN vs H Q E
theorem ES:zzz T (BW P w) 11 30 ["dialects","texts"] (xH K (av 50) (av 70) (av 54)):=by
 have yE:=xF T
 have jT:=nA T
 have jS:=xG T
 refine T.zO.Wd fG (λvs H Q E h=>?_) 'a'
 ·obtain⟨ld,lt,xs,ws,cs,rfl,_⟩:=h;rfl
 ·have hu:=bz hr
  obtain⟨ld,lt,xs,ws,cs,rfl,hd,mk,gd,hc,hw,hk,k0,k1,k2,k3⟩:=h
  have Rr:=mk.length
  refine⟨_,(ai (eF (vS (k:=5) yE (hr.mono 'c') rfl T.yr T.pq.kp T.yq .nil O1 (af (pv 0) (af (pv 1) ah))))
   (ai (nY (i:=2) rfl fG.nd rfl rfl (show aT ["dialects","texts","all_readings","places","depth","tree"] (au n5) ["text","dialects"] 1 [0] _ from CA) (di K rfl (pv 1)) (λ_ _ _ _=>(kC 0 (show(["text","dialects"]:List Str).Nodup by decide +kernel))) (λ_ _ _ _=>cJ) (λ_ _ _ _=>(fh jT hr T.pB T.jP.kp T.pA (af (pv 1) (af (pv 0) ah)))))
   (ai (fB 3 fG.nd (uz rfl rfl T.om rfl T.eo (af (gm (aJ K rfl) T.bQ (af (pv 0) ah)) ah)))
   (ai (fB 4 fG.nd ak)
   (ai (fB 5 fG.nd gS)
   (ai (Ko PassesOwn.leaving (eN D6 (pv 5) gS)
   (ai (fB 5 fG.nd (fh jS hr T.pD T.jQ.kp T.pC (af (pv 2) (af (pv 3) (af (pv 4) ah)))))
   (ao (fB 4 fG.nd (aD cX (pv 4) ak)))))
   (ao (az (pv 5))))))))),?_⟩
  refine⟨_,O,_,O,ld,lt,xs,ws,O,hd,hw,hk,k0,k1,k2,λh3 H1 s1=>?_⟩
  have h3':xs.length<=8/\ws.length<=6/\ws.all Ay=true:=by
   unfold jc at h3
   by_cases c1:8<xs.length
   ·rw[aal c1]at h3;cases h3
   ·rw[aag c1]at h3
    by_cases c2:6<ws.length
    ·rw[aal c2]at h3;cases h3
    ·rw[aag c2]at h3
     by_cases c3:ws.all Ay=true
     ·exact⟨by omega,by omega,c3⟩
     ·rw[aag c3]at h3;cases h3
  obtain⟨n8,n6,hall⟩:=h3'
  obtain⟨zs,rfl,hz⟩:=CP hall
  replace k3:=k3 h3 zs rfl hz
  clear k0 k1 k2 hk h3 hall
  have Xo:(zs.map V.str).length=zs.length:=aak _
  have hzn:zs.length<=100:=by omega
  replace hd:=s1 _ _ hd
  replace mk:=wQ.mono s1 mk
  have hlt:=s1 _ _ hw
  replace k3:∀d T v H',d<8->cC (B0 cs zs) d (List.range cs.length)=some T->(∀d'<d,cC (B0 cs zs) d' (List.range cs.length)=none)->sQ H1 H' d v T->aC H1 H'->Q v H':=λd T v H' a b c e f=>k3 d T v H' a b c (sQ.old (λb hb=>s1.free hb) e) (s1.trans f)
  refine⟨_,O,lt,O,⟨_,aM.of hlt⟩,λD hD=>?_⟩
  have EO:(upd H1 D (.lst [])) D≠none:=by rw[aj];intro q;cases q
  have L8:∀{J:Hp}{ys:List V},aC H1 J->J D=some (.lst ys)->∀b,J b=none->(upd H1 D (.lst [])) b=none:=λsJ hJ b hb=>(aB (λq=>by rw[q,hJ]at hb;cases hb)).trans (sJ.free hb)
  generalize Xb:upd H1 D (.lst [])=A0 at EO L8
  refine fO (K:=K) (a:=lt) (xs:=zs.map V.str) (λi ys τ J=>(∃v,τ=[v,some (.ref ld)])/\aC H1 J/\J D=some (.lst ys)/\aY A0 J ys ((B0 cs zs).take i)) ⟨⟨_,rfl⟩,aq hD,aj,.nil⟩ (λi ys τ J _ p=>⟨aM.of (p.2.1 _ _ hlt),p.2.2.1⟩) ?_ ?_
  ·rintro i e ys τ J hi ⟨⟨v,rfl⟩,sJ,hJ,rs⟩
   obtain⟨z,Rv,rfl⟩:=qY hi
   obtain⟨z1,z2⟩:=hz z (aau Rv)
   have hil:i<zs.length:=(aaj.mp Rv).1
   have hyl:=rs.length
   rw[aaL]at hyl
   refine qq ?_
   refine⟨_,O,_,O,ld,z,xs,cs,O,sJ _ _ hd,wQ.mono sJ mk,gd,hc,z1,z2,λl G hl Xp s1=>?_⟩
   have MU:=s1 _ _ hJ
   refine⟨MU,aaD (show ys.length<=200 by omega) 'c',⟨_,O⟩,aE hD (sJ.trans s1),aj,?_⟩
   rw[bV (l:=B0 cs zs) (c:=readM (wX cs z)) (by unfold B0;rw[aaW,Rv];rfl)]
   exact d8 (aY.set EO (aY.mono s1 rs)) (aY.set EO (.cons ⟨l,rfl,L8 sJ hJ l hl,Xp⟩ .nil))
  rintro ys τ J ⟨⟨v,rfl⟩,sJ,hJ,rs⟩
  have yx:(zs.map V.str).length=zs.length:=aak _
  have Zu:(B0 cs zs).length=zs.length:=aak _
  rw[yx,aaK 'b']at rs
  have rg:=aY.Wz rs
  dsimp only[cT]
  have Xq:=sJ _ _ hd
  have hrb:∀r∈B0 cs zs,∀p∈List.range cs.length,p<r.length:=λr hr p hp=>by rw[Ho r hr];exact List.mem_range.mp hp
  refine⟨_,O,ld,xs,O,.inl (aM.of Xq),_,O,by omega,by omega,λl hl=>?_⟩
  rw[Rr,CS]
  have sl:=aq (o:=HO.lst ((List.range cs.length).map nV)) hl
  have hl1:=aj (H:=J) (a:=l) (o:=HO.lst ((List.range cs.length).map nV))
  have MU:=sl _ _ hJ
  have Xr:=mL.mono sl rg
  have R5:=sJ.trans sl
  generalize upd J l (.lst ((List.range cs.length).map nV))=J1 at sl hl1 MU Xr R5⊢
  have psl:(List.range cs.length).length=cs.length:=abq
  generalize List.range cs.length=ps at k3 hl1 hrb psl⊢
  generalize B0 cs zs=R at k3 Xr hrb Zu⊢
  dsimp only[cT]
  refine⟨λm σ G=>aC J1 G/\∃(n:Nat)(v:V),σ=[some (.ref ld),some (.ref lt),some (.ref D),some (.ref l),some (.int (n:Int)),some v]/\((v=.non/\m+n=20/\∀d'<n,cC R d' ps=none)\/(m=0/\∃d T,d<8/\cC R d ps=some T/\(∀d'<d,cC R d' ps=none)/\sQ H1 G d v T)),⟨20,aC.refl _,0,.non,O,.inl ⟨O,O,λd' h=>absurd h (Nat.not_lt_zero _)⟩⟩,?_⟩
  rintro m σ G ⟨sG,n,v,rfl,⟨rfl,hmn,hno⟩|⟨rfl,d,T,Zv,hT,hno,tr⟩⟩
  ·have hn8:n<8:=by
    refine Classical.byContradiction λq=>?_
    refine zM (R:=R) (d:=7) (ps:=ps) 'b' (hno 7 'b')
   refine⟨_,O,O,_,O,ye rfl ?_⟩
   refine⟨_,λ_ _ h=>h,?_⟩
   refine⟨_,O,_,O,_,O,D,l,ys,R,ps,n,O,by omega,sG _ _ MU,mL.mono sG Xr,by omega,sG _ _ hl1,by omega,hrb,λv H2 hv s2=>?_⟩
   dsimp only[cT]
   have Rw:=sG.trans s2
   cases hT:cC R n ps with
   |none =>
    rw[hT]at hv
    have hv:v=.non:=hv
    subst hv
    refine⟨_,O,_,_,O,O,m-1,by omega,Rw,n+1,.non,O,.inl ⟨O,by omega,λd' h=>?_⟩⟩
    by_cases e:d'=n
    ·rw[e];exact hT
    ·exact hno d' 'b'
   |some T =>
    rw[hT]at hv
    refine⟨_,O,_,_,O,O,0,by omega,Rw,n+1,v,O,.inr ⟨O,n,T,hn8,hT,hno,?_⟩⟩
    exact sQ.old (λb hb=>R5.free (sG.free hb)) hv
  ·have hv:TL v=false:=OT.Zi (o:=some T) tr
   refine⟨_,O,O,_,O,iE (λe=>by rw[e]at hv;cases hv) ?_⟩
   exact⟨_,O,k3 d T v G Zv hT hno tr (R5.trans sG)⟩
inductive pP(K:W.Frag)(vs:List V)(H:Hp)(Q:VK)(E_:XK):Prop where
 |mk (n:Nat) (v:V) (t:Th) (lp:Addr) (ps:List Nat):(vs=[v,.ref lp])->(RT H n v t)->(H lp=some (.lst (ps.map nV)))->(ps.length<=100)->(∀H',aC H H'->Q (.bl (rm t ps)) H')->pP K vs H Q E_
theorem yF:zzz T fu 2 31 ["thing","places"] (pP K):=by
 have qC:=uH T
 refine T.rJ.ok ym (λvs H Q E h=>?_) 'a'
 ·obtain⟨n,v,t,lp,ps,rfl,_⟩:=h;rfl
 ·have hu:=bz hr
  obtain⟨n,v,t,lp,ps,rfl,hv,zR,hps,k⟩:=h
  obtain⟨ty,hty,hk,_⟩:=hv.kind K
  refine⟨_,(ai (aK (PW.pt (lM (dX (bO (gm (cg K rfl) T.aG (af (pv 0) (af (J8 "list" T.om) ah))))) (kF (eN zf (gm (aJ K rfl) T.bQ (af (pv 0) ah)) (gm (aJ K rfl) T.bQ (af (pv 1) ah)))))) (ao (az jX)) aA)
   (ao (az (gm (jZ K rfl rfl) T.xA (af (iz rfl (show aT ["thing","places"] (au iA) ["told","place"] 2 [] _ from CA) (GZ K rfl rfl T.EK (af (pv 0) (af (pv 1) ah))) (λ_ _ _ _=>(kI K rfl 2 rfl (cD (kC 0 (show(["told","place"]:List Str).Nodup by decide +kernel)) (cD (kC 1 (show(["told","place"]:List Str).Nodup by decide +kernel)) kG)))) (λ_ _ _ _=>cJ) (λ_ _ _ _=>(fh qC hr T.xu T.qx.kp T.xr (af (pv 0) (af (pv 1) (af (pv 1) ah)))))) ah))))),?_⟩
  have nl:(∃m a es ts,n=m+1/\v=V.ref a/\t=.lst ts/\H a=some (.lst es)/\Paired (RT H m) es ts)\/U5 t=false:=by
   rcases hv.three with h|⟨_,_,_,_,_,_,rfl,_⟩|⟨rfl,_⟩
   ·exact .inl h
   ·exact .inr rfl
   ·exact .inr rfl
  rcases nl with ⟨m,a,es,ts,rfl,rfl,rfl,ha,pr⟩|e
  rotate_left
  ·rw[e]at hk
   have e2:rm t ps=false:=by cases t<;>first|rfl|cases e
   rw[e2]at k
   refine⟨_,O,_,_,_,_,O,hty,.inl ⟨_,⟨O,hk⟩⟩,_,O,dh (dh (k _ (aC.refl _)))⟩
  have Uj:=pr.length
  have pml:(ps.map nV).length=ps.length:=aak _
  have k:∀H',aC H H'->Q (.bl (decide (ts.length=ps.length)&&(ts.zip ps).all λx=>kY x.1 x.2 x.2)) H':=k
  refine⟨_,O,_,_,_,_,O,.lst ha,.inl ⟨_,⟨O,O⟩⟩,_,O,bS (⟨_,O,_,_,O,.inl (aM.of ha),_,O,_,_,O,.inl (aM.of zR),O,_,O,?_⟩)⟩
  refine OZ (λc=>?_) (λc=>?_)
  ·have e:decide (ts.length=ps.length)=false:=aas 'b'
   rw[e,abe]at k
   exact k H (aC.refl _)
  have c:ts.length=ps.length:=by omega
  rw[aaq c,aa8]at k
  refine⟨_,O,_,O,a,lp,O,⟨_,aM.of ha⟩,⟨_,aM.of zR⟩,λD hD=>?_⟩
  refine Cw (K:=K) (a:=a) (b:=lp) (xs:=es) (ys:=ps.map nV) (λi ws τ J=>(∃v1 v2,τ=[v1,v2])/\aC H J/\J D=some (.lst ws)/\ws=(((ts.zip ps).take i).map λx=>kY x.1 x.2 x.2).map V.bl) ⟨⟨_,_,rfl⟩,aq hD,aj,rfl⟩ (λi ws τ J _ p=>⟨aM.of (p.2.1 _ _ ha),aM.of (p.2.1 _ _ zR),p.2.2.1⟩) ?_ ?_
  ·rintro i x y t ws τ J hx hy ht ⟨⟨v1,v2,rfl⟩,sJ,hJ,rfl⟩
   obtain⟨p,hp,rfl⟩:=Hl hy
   obtain⟨u,Ve,ru⟩:=aS pr i x hx
   have hil:i<ts.length:=(aaj.mp Ve).1
   have st:=aq (o:=HO.tup [x,nV p]) ht
   have hz:(ts.zip ps)[i]?=some (u,p):=by rw[List.getElem?_zip_eq_some];exact⟨Ve,hp⟩
   refine⟨t,_,O,bR.of aj,O,_,_,O,_,_,O,O,?_⟩
   dsimp only[KO]
   rw[aal rfl]
   have ER:=sJ.trans st
   refine⟨_,O,_,O,_,O,m,x,u,p,p,O,ru.mono ER,st _ _ hJ,?_,⟨_,_,O⟩,aE hD ER,aj,?_⟩
   ·rw[aak,aak,aaL];exact aaD (show min i (ts.zip ps).length<=100 by rw[abE];omega) 'c'
   ·rw[bV hz,aaF,aaF];rfl
  rintro ws τ J ⟨⟨v1,v2,rfl⟩,sJ,hJ,rfl⟩
  rw[aaK (by rw[abE];omega)]at hJ
  refine⟨D,_,O,aM.of hJ,?_⟩
  rw[abo]
  exact k J sJ
inductive iX(K:W.Frag)(D:Nat)(vs:List V)(H:Hp)(Q:VK)(E_:XK):Prop where
 |mk (la lp:Addr) (pO:List V) (R:List (List Nat)) (ps:List Nat) (v w:V) (t u:Th) (n:Nat):(vs=[.ref la,.ref lp,v,w])->(H la=some (.lst pO))->(mL H pO R)->(R.length<=100)->(H lp=some (.lst (ps.map nV)))->(ps.length<=100)->((∀r∈R,∀p∈ps,p<r.length))->(n<=2*D)->(RT H n v t)->(RT H n w u)->(∀H',aC H H'->Q (.bl (Ey (dG R D) R ps t u)) H')->iX K D vs H Q E_
inductive dm(K:W.Frag)(D:Nat)(vs:List V)(H:Hp)(Q:VK)(E_:XK):Prop where
 |mk (la lp:Addr) (pO:List V) (R:List (List Nat)) (ps:List Nat) (v:V) (t:Th) (n:Nat):(vs=[.ref la,.ref lp,v])->(H la=some (.lst pO))->(mL H pO R)->(R.length<=100)->(H lp=some (.lst (ps.map nV)))->(ps.length<=100)->((∀r∈R,∀p∈ps,p<r.length))->(n<2*D)->(RT H n v t)->(∀H',aC H H'->Q (.bl (dG R D ps t)) H')->dm K D vs H Q E_
theorem mh(d:Nat)(eB:bx P w K mg base fu (2+2*d) (av 33) (aN 33) ["all_readings","places","thing"] (dm K d)):bx P w K mg base fu (2+2*d+1) (av 32) (aN 32) ["all_readings","places","at","branches"] (iX K d):=by
 have qC:=uH T
 have iW:=nB T
 refine T.jm.ok iL (λvs H Q E h=>?_) 'a'
 ·obtain⟨la,lp,pO,R,ps,v,w,t,u,n,rfl,_⟩:=h;rfl
 ·have Uh:=hr
  have hr:cM 2 _:=hr.mono 'b'
  have gK:=hr.aO
  obtain⟨la,lp,pO,R,ps,v,w5,t,u,n,rfl,hla,rg,hR,zR,hps,hb,hn,hv,hw,k⟩:=h
  have hrl:=rg.length
  refine⟨_,(ai (aK (PW.pt (lM (dX (bO (fh qC hr T.xu T.qx.kp T.xr (af (pv 2) (af ak (af (aD sW (gm (aJ K rfl) T.bQ (af (pv 0) ah)) ak) ah)))))) (lM (dX (bO (gm (cg K rfl) T.aG (af (pv 3) (af (J8 "list" T.om) ah))))) (kF (eN (Ek K rfl gK) (pv 3) (bM ah)))))) (ao (az jX)) aA)
   (ai (fB 4 iL.nd (fh iW hr T.qz T.lg.kp T.qy (af (mj K (pv 0) (pv 2)) (af (pv 1) ah))))
   (ai (aK (eN zf (gm (aJ K rfl) T.bQ (af (pv 3) ah)) (gm (aJ K rfl) T.bQ (af (pv 4) ah))) (ao (az jX)) aA)
   (ao (az (gm (jZ K rfl rfl) T.xA (af (iz rfl (show aT ["all_readings","places","at","branches","parts"] (au dN) ["part","branch","all_readings"] 2 [0] _ from CA) (GZ K rfl rfl T.EK (af (pv 4) (af (pv 3) ah))) (λ_ _ _ _=>(kI K rfl 2 rfl (cD (kC 0 (show(["part","branch","all_readings"]:List Str).Nodup by decide +kernel)) (cD (kC 1 (show(["part","branch","all_readings"]:List Str).Nodup by decide +kernel)) kG)))) (λ_ _ _ _=>cJ) (λ_ _ _ _=>(fh eB Uh T.mW T.iQ.kp T.mV (af (pv 2) (af (pv 0) (af (pv 1) ah))) (hkk:=aan _)))) ah))))))),?_⟩
  obtain⟨ty,hty,hk,_⟩:=hw.kind K
  have nl:(∃m a es ts,n=m+1/\w5=V.ref a/\u=.lst ts/\H a=some (.lst es)/\Paired (RT H m) es ts)\/U5 u=false:=by
   rcases hw.three with h|⟨_,_,_,_,_,_,rfl,_⟩|⟨rfl,_⟩
   ·exact .inl h
   ·exact .inr rfl
   ·exact .inr rfl
  refine⟨_,O,_,O,_,_,O,.inl (aM.of hla),_,_,O,O,_,_,_,_,_,O,hv,_,O,?_⟩
  refine Wb (λc1=>?_) (λc1=>?_)
  ·have c1:kY t 0 ((R.length:Int)-1)=false:=by rw[←hrl];simpa using c1
   rw[QH c1]at k
   exact k H (aC.refl _)
  have c1:kY t 0 ((R.length:Int)-1)=true:=by rw[←hrl];simpa using c1
  obtain⟨i,rfl,hi⟩:=Ir c1
  rcases nl with ⟨m,a,es,ts,rfl,rfl,rfl,ha,pr⟩|e
  rotate_left
  ·rw[QI e]at k
   rw[e]at hk
   refine⟨_,O,_,_,_,_,O,hty,.inl ⟨_,⟨O,hk⟩⟩,_,O,dh (dh (k _ (aC.refl _)))⟩
  rw[QJ hi]at k
  have Uj:=pr.length
  obtain⟨rv,Zw⟩:∃rv,pO[i]?=some rv:=⟨_,aaR 'b'⟩
  obtain⟨r,Ov,ra,rfl,Xh⟩:=aS rg i rv Zw
  have hrm:=aau Ov
  have er:R.getD i []=r:=by rw[List.getD_eq_getElem?_getD,Ov];rfl
  rw[er]at k
  obtain⟨rfl,_⟩:=RT.AD hv
  have ati:tE pO (i:Int)=some (.ref ra):=eG Zw
  have Ug:=hb r hrm
  cases pr with
  |nil =>
   have k:∀H',aC H H'->Q (.bl false) H':=k
   refine⟨_,O,_,_,_,_,O,.lst ha,.inl ⟨_,⟨O,O⟩⟩,_,O,bS (⟨_,O,'c',λq0 yD=>⟨_,_,_,O,O,aM.of (aq yD _ _ ha),aM.of aj,_,O,dh (k _ (aE yD (aC.refl _)))⟩⟩)⟩
  |@cons e0 t0 es ts p0 pr =>
  have k:∀H',aC H H'->Q (.bl (decide ((t0::ts).length=(aL r ps).length)&&((aL r ps).zip (t0::ts)).all λx=>dG R d x.1 x.2)) H':=k
  have Vf:Paired (RT H m) (e0::es) (t0::ts):=.cons p0 pr
  have Uj:(e0::es).length=(t0::ts).length:=Vf.length
  refine⟨_,O,_,_,_,_,O,.lst ha,.inl ⟨_,⟨O,O⟩⟩,_,O,bS (⟨_,O,'c',λq0 yD=>⟨_,_,_,O,O,aM.of (aq yD _ _ ha),aM.of aj,_,O,bS (⟨_,O,_,O,_,_,_,_,O,O,aM.of (aq yD _ _ hla),ati,_,O,_,_,_,_,O,(aq yD _ _ Xh),(aq yD _ _ zR),Ug,'b',λl5 Vc H5 Xk Rt Ru s5=>⟨_,O,_,_,O,.inl (aM.of (s5 _ _ (aq yD _ _ ha))),_,O,_,_,O,.inl (aM.of Rt),O,_,O,?_⟩⟩)⟩⟩)⟩
  have Xl:=Ru.length
  refine OZ (λc=>?_) (λc=>?_)
  ·have e:decide ((t0::ts).length=(aL r ps).length)=false:=aas 'b'
   rw[e,abe]at k
   exact k _ ((aq yD).trans s5)
  have c:(t0::ts).length=(aL r ps).length:=by omega
  rw[aaq c,aa8]at k
  have Uk:=(aq (o:=HO.lst []) yD).trans s5
  have Xs:=Uk _ _ ha
  have Xu:=Uk _ _ hla
  have rg5:=mL.mono Uk rg
  have good:=iK (r:=r) (ps:=ps)
  have Ui:∀q∈aL r ps,q.length<=ps.length:=λq hq=>AB hq
  have Xm:=tP (r:=r) (ps:=ps)
  generalize aL r ps=qs at Ru Xl c k good Ui Xm
  generalize t0::ts=us at Vf Uj c k
  generalize e0::es=vs at Vf Uj Xs c k
  refine⟨_,O,_,O,l5,a,O,⟨_,aM.of Rt⟩,⟨_,aM.of Xs⟩,λD hD=>?_⟩
  refine Cw (K:=K) (a:=l5) (b:=a) (xs:=Vc) (ys:=vs) (λi ws τ J=>(∃v1 v2,τ=[v1,v2,some (.ref la)])/\aC H5 J/\J D=some (.lst ws)/\ws=(((qs.zip us).take i).map λx=>dG R d x.1 x.2).map V.bl) ⟨⟨_,_,rfl⟩,aq hD,aj,rfl⟩ (λi ws τ J _ p=>⟨aM.of (p.2.1 _ _ Rt),aM.of (p.2.1 _ _ Xs),p.2.2.1⟩) ?_ ?_
  ·rintro i x y t ws τ J hx hy ht ⟨⟨v1,v2,rfl⟩,sJ,hJ,rfl⟩
   obtain⟨q,hq,b,rfl,hb0,hbv⟩:=aS Ru i x hx
   obtain⟨u,Ve,ru⟩:=aS Vf i y hy
   have Pf:=aau hq
   have hil:i<qs.length:=(aaj.mp hq).1
   have st:=aq (o:=HO.tup [.ref b,y]) ht
   have hz:(qs.zip us)[i]?=some (q,u):=by rw[List.getElem?_zip_eq_some];exact⟨hq,Ve⟩
   refine⟨t,_,O,bR.of aj,O,_,_,O,_,_,O,O,?_⟩
   dsimp only[KO]
   rw[aal rfl]
   have ER:=sJ.trans st
   have Vg:=Uk.trans ER
   refine⟨_,O,_,O,_,O,la,b,pO,R,q,y,u,m,O,ER _ _ Xu,mL.mono ER rg5,hR,ER _ _ hbv,?_,λr' hr' p hp=>hb r' hr' p ((good q Pf).2 p hp),by omega,(ru.mono Vg),λH6 s6=>?_⟩
   ·have:=Ui q Pf;omega
   refine⟨s6 _ _ (st _ _ hJ),?_,⟨_,_,O⟩,aE hD (ER.trans s6),aj,?_⟩
   ·rw[aak,aak,aaL];exact aaD (show min i (qs.zip us).length<=100 by rw[abE];omega) 'c'
   ·rw[bV hz,aaF,aaF];rfl
  rintro ws τ J ⟨⟨v1,v2,rfl⟩,sJ,hJ,rfl⟩
  rw[aaK (by rw[abE];omega)]at hJ
  refine⟨D,_,O,aM.of hJ,?_⟩
  rw[abo]
  exact k J (Uk.trans sJ)
theorem qD:∀d:Nat,bx P w K mg base fu (2+2*d) (av 33) (aN 33) ["all_readings","places","thing"] (dm K d):=by
 intro d
 induction d with
 |zero=>exact⟨λvs H Q E h=>by exfalso;obtain⟨la,lp,pO,R,ps,v,t,n,rfl,hla,rg,hR,zR,hps,hb,hn,_⟩:=h;omega,λA outer s H args us vs Q E _ _ _ _ h=>by exfalso;obtain⟨la,lp,pO,R,ps,v,t,n,rfl,hla,rg,hR,zR,hps,hb,hn,_⟩:=h;omega⟩
 |succ d ih =>
  have eB:=ih
  show bx P w K mg base fu (2+2*d+1+1) (av 33) (aN 33) ["all_readings","places","thing"] (dm K (d+1))
  have A6:=yF T
  have gF:=ju T
  have rW:=mh T d eB
  refine T.iQ.ok u6 (λvs H Q E h=>?_) 'a'
  ·obtain⟨la,lp,pO,R,ps,v,t,n,rfl,_⟩:=h;rfl
  ·have Uh:=hr
   have hr:cM 2 _:=hr.mono 'b'
   obtain⟨la,lp,pO,R,ps,v,t,n,rfl,hla,rg,hR,zR,hps,hb,hn,hv,k⟩:=h
   refine⟨_,(ai (aK (PW.pt (lM (dX (bO (gm (cg K rfl) T.aG (af (pv 2) (af (J8 "tuple" T.xB) ah))))) (lM (eN ur (gm (aJ K rfl) T.bQ (af (pv 2) ah)) ak) (kF (dX (bO (gm (cg K rfl) T.aG (af (uA K (pv 2) ak) (af (J8 "str" T.EJ) ah))))))))) (ao (az jX)) aA)
   (ai (aK (PW.pt (fR (eN bg (uA K (pv 2) ak) ay) (dH (eN bg (gm (aJ K rfl) T.bQ (af (pv 2) ah)) ak)))) (ao (az (sU (fh A6 hr T.AQ T.rJ.kp T.AO (af (uA K (pv 2) ak) (af (pv 1) ah))) (sS (fh gF hr T.j4 T.gA.kp T.j3 (af (pv 0) (af (pv 1) ah))))))) aA)
   (ai (aK (PW.pt (fR (eN bg (uA K (pv 2) ak) ay) (dH (eN bg (gm (aJ K rfl) T.bQ (af (pv 2) ah)) ak)))) (ao (az (fh rW Uh T.rL T.jm.kp T.rK (af (pv 0) (af (pv 1) (af (uA K (pv 2) ak) (af (uA K (pv 2) ak) ah)))) (hkk:=aan _)))) aA)
   (ao (az jX))))),?_⟩
   obtain⟨ty,hty,_,hk,_⟩:=hv.kind K
   have nl:(∃m a es ts,n=m+1/\v=V.ref a/\t=.tup ts/\H a=some (.tup es)/\Paired (RT H m) es ts)\/Wx t=false:=by
    rcases hv.three with ⟨_,_,_,_,_,_,rfl,_⟩|h|⟨rfl,_⟩
    ·exact .inr rfl
    ·exact .inl h
    ·exact .inr rfl
   rcases nl with ⟨m,a,es,ts,rfl,rfl,rfl,ha,pr⟩|e
   rotate_left
   ·rw[LP e]at k
    rw[e]at hk
    refine⟨_,O,_,_,_,_,O,hty,.inl ⟨_,⟨O,hk⟩⟩,_,O,dh (dh (k _ (aC.refl _)))⟩
   have Uj:=pr.length
   cases pr with
   |nil=>rw[CQ (by simp)]at k;refine⟨_,rfl,_,_,_,_,rfl,.tup ha,.inl ⟨_,⟨rfl,rfl⟩⟩,_,rfl,bS (⟨_,rfl,_,_,rfl,.inr (bR.of ha),_,_,rfl,rfl,_,rfl,ye 'h' (dh (k _ (aC.refl _)))⟩)⟩
   |@cons e0 t0 es ts p0 pr =>
   cases pr with
   |nil=>rw[CQ (by simp)]at k;refine⟨_,rfl,_,_,_,_,rfl,.tup ha,.inl ⟨_,⟨rfl,rfl⟩⟩,_,rfl,bS (⟨_,rfl,_,_,rfl,.inr (bR.of ha),_,_,rfl,rfl,_,rfl,ye (by simp) (dh (k _ (aC.refl _)))⟩)⟩
   |@cons e1 t1 es ts p1 pr =>
   have Hy:tE (e0::e1::es) 0=some e0:=(show tE _ ((0:Nat):Int)=_ from eG rfl)
   have Zx:tE (e0::e1::es) 1=some e1:=(show tE _ ((1:Nat):Int)=_ from eG rfl)
   obtain⟨ty0,Xv,_,_,hk0⟩:=p0.kind K
   have hnl:¬(((e0::e1::es).length:Int)<2):=by rw[aaA,aaA];omega
   have nw:(∃w,e0=.str w/\t0=.at (.str w))\/Wy t0=false:=by
    cases t0 with
    |«at» x =>
     cases x with
     |str w=>exact .inl ⟨w,(RT.AD p0).1,rfl⟩
     |_=>exact .inr rfl
    |_=>exact .inr rfl
   rcases nw with ⟨w5,rfl,rfl⟩|e
   rotate_left
   ·rw[LQ e]at k
    rw[e]at hk0
    refine⟨_,O,_,_,_,_,O,.tup ha,.inl ⟨_,⟨O,O⟩⟩,_,O,bS (⟨_,O,_,_,O,.inr (bR.of ha),_,_,O,O,_,O,iE hnl (⟨_,O,_,_,_,_,O,O,bR.of ha,Hy,_,_,_,_,O,Xv,.inl ⟨_,⟨O,hk0⟩⟩,_,O,dh (k _ (aC.refl _))⟩)⟩)⟩
   by_cases c1:bU w5 ("leaf":Str)=true
   ·have e5:=tM c1
    subst e5
    cases pr with
    |nil =>
     rw[AF,d7,aa8]at k
     refine⟨_,O,_,_,_,_,O,.tup ha,.inl ⟨_,⟨O,O⟩⟩,_,O,bS (⟨_,O,_,_,O,.inr (bR.of ha),_,_,O,O,_,O,iE hnl (⟨_,O,_,_,_,_,O,O,bR.of ha,O,_,_,_,_,O,.str _,.inl ⟨_,⟨O,O⟩⟩,_,O,bS (⟨_,O,_,_,_,_,O,O,bR.of ha,O,O,_,O,ye rfl (⟨_,O,_,_,O,.inr (bR.of ha),O,_,O,RU (by simp) (⟨_,O,_,_,_,_,O,O,bR.of ha,O,_,O,_,_,_,_,_,O,p1,zR,'b',λH1 s1=>⟨_,O,?_⟩⟩)⟩)⟩)⟩)⟩)⟩
     refine Wb (λc3=>?_) (λc3=>?_)
     ·rw[c3,aa8]at k
      exact⟨_,O,_,O,la,lp,pO,R,ps,O,s1 _ _ hla,mL.mono s1 rg,hR,s1 _ _ zR,hps,hb,λH2 s2=>k H2 (s1.trans s2)⟩
     ·rw[c3,abe]at k
      exact k H1 s1
    |@cons e2 t2 es ts p2 pr =>
     have k:∀H',aC H H'->Q (.bl false) H':=by
      cases pr with
      |nil=>rw[AG,show bU ("leaf":Str) ("ask":Str)=false by decide +kernel]at k;exact k
      |@cons e3 t3 es ts p3 pr=>rw[AH (by simp)]at k;exact k
     have n2:¬(((V.str ("leaf":Str)::e1::e2::es).length:Int)=2):=by simp only[aaA];omega
     have n4:¬(V.str ("leaf":Str)=V.str ("ask":Str)):=by decide +kernel
     refine⟨_,O,_,_,_,_,O,.tup ha,.inl ⟨_,⟨O,O⟩⟩,_,O,bS (⟨_,O,_,_,O,.inr (bR.of ha),_,_,O,O,_,O,iE hnl (⟨_,O,_,_,_,_,O,O,bR.of ha,Hy,_,_,_,_,O,.str _,.inl ⟨_,⟨O,O⟩⟩,_,O,bS (⟨_,O,_,_,_,_,O,O,bR.of ha,Hy,O,_,O,ye rfl (⟨_,O,_,_,O,.inr (bR.of ha),O,_,O,Em n2 (⟨_,O,_,_,_,_,O,O,bR.of ha,Hy,O,_,O,iE n4 (bS (k _ (aC.refl _)))⟩)⟩)⟩)⟩)⟩)⟩
   have n1:¬(V.str w5=V.str ("leaf":Str)):=λq=>c1 (by rw[V.str.inj q];exact d7 _)
   by_cases c2:bU w5 ("ask":Str)=true
   ·have e5:=tM c2
    subst e5
    cases pr with
    |nil =>
     rw[AF,show bU ("ask":Str) ("leaf":Str)=false by decide +kernel,abe]at k
     have n2:¬(((V.str ("ask":Str)::[e1]).length:Int)=3):=by simp
     refine⟨_,O,_,_,_,_,O,.tup ha,.inl ⟨_,⟨O,O⟩⟩,_,O,bS (⟨_,O,_,_,O,.inr (bR.of ha),_,_,O,O,_,O,iE hnl (⟨_,O,_,_,_,_,O,O,bR.of ha,O,_,_,_,_,O,.str _,.inl ⟨_,⟨O,O⟩⟩,_,O,bS (⟨_,O,_,_,_,_,O,O,bR.of ha,O,O,_,O,iE n1 (bS (⟨_,O,_,_,_,_,O,O,bR.of ha,O,O,_,O,ye rfl (⟨_,O,_,_,O,.inr (bR.of ha),O,_,O,Em n2 (k _ (aC.refl _))⟩)⟩))⟩)⟩)⟩)⟩
    |@cons e2 t2 es ts p2 pr =>
    have at2:tE (.str ("ask":Str)::e1::e2::es) 2=some e2:=(show tE _ ((2:Nat):Int)=_ from eG rfl)
    cases pr with
    |nil =>
     rw[AG,d7,aa8]at k
     refine⟨_,O,_,_,_,_,O,.tup ha,.inl ⟨_,⟨O,O⟩⟩,_,O,bS (⟨_,O,_,_,O,.inr (bR.of ha),_,_,O,O,_,O,iE hnl (⟨_,O,_,_,_,_,O,O,bR.of ha,O,_,_,_,_,O,.str _,.inl ⟨_,⟨O,O⟩⟩,_,O,bS (⟨_,O,_,_,_,_,O,O,bR.of ha,O,O,_,O,iE n1 (bS (⟨_,O,_,_,_,_,O,O,bR.of ha,O,O,_,O,ye rfl (⟨_,O,_,_,O,.inr (bR.of ha),O,_,O,RU (by simp) (⟨_,O,_,O,_,O,_,_,_,_,O,O,bR.of ha,O,_,O,_,_,_,_,O,O,bR.of ha,O,?_⟩)⟩)⟩))⟩)⟩)⟩)⟩
     exact⟨la,lp,pO,R,ps,e1,e2,t1,t2,m,O,hla,rg,hR,zR,hps,hb,by omega,p1,p2,k⟩
    |@cons e3 t3 es ts p3 pr =>
     rw[AH (by simp)]at k
     have n2:¬(((V.str ("ask":Str)::e1::e2::e3::es).length:Int)=3):=by simp only[aaA];omega
     refine⟨_,O,_,_,_,_,O,.tup ha,.inl ⟨_,⟨O,O⟩⟩,_,O,bS (⟨_,O,_,_,O,.inr (bR.of ha),_,_,O,O,_,O,iE hnl (⟨_,O,_,_,_,_,O,O,bR.of ha,Hy,_,_,_,_,O,.str _,.inl ⟨_,⟨O,O⟩⟩,_,O,bS (⟨_,O,_,_,_,_,O,O,bR.of ha,Hy,O,_,O,iE n1 (bS (⟨_,O,_,_,_,_,O,O,bR.of ha,Hy,O,_,O,ye rfl (⟨_,O,_,_,O,.inr (bR.of ha),O,_,O,Em n2 (k _ (aC.refl _))⟩)⟩))⟩)⟩)⟩)⟩
   have n3:¬(V.str w5=V.str ("ask":Str)):=λq=>c2 (by rw[V.str.inj q];exact d7 _)
   have k:∀H',aC H H'->Q (.bl false) H':=by
    cases pr with
    |nil=>rw[AF,oX c1,abe]at k;exact k
    |@cons e2 t2 es ts p2 pr =>
     cases pr with
     |nil=>rw[AG,oX c2,abe]at k;exact k
     |@cons e3 t3 es ts p3 pr=>rw[AH (by simp)]at k;exact k
   refine⟨_,O,_,_,_,_,O,.tup ha,.inl ⟨_,⟨O,O⟩⟩,_,O,bS (⟨_,O,_,_,O,.inr (bR.of ha),_,_,O,O,_,O,iE hnl (⟨_,O,_,_,_,_,O,O,bR.of ha,Hy,_,_,_,_,O,.str _,.inl ⟨_,⟨O,O⟩⟩,_,O,bS (⟨_,O,_,_,_,_,O,O,bR.of ha,Hy,O,_,O,iE n1 (bS (⟨_,O,_,_,_,_,O,O,bR.of ha,Hy,O,_,O,iE n3 (bS (k _ (aC.refl _)))⟩))⟩)⟩)⟩)⟩
theorem vv:zzz T fu 20 33 ["all_readings","places","thing"] (dm K 9):=qD T 9
inductive Di(K:W.Frag)(C:Addr)(vs:List V)(H:Hp)(Q:VK)(E_:XK):Prop where
 |mk (ld lt:Addr) (xs:List V) (cs:List oY) (zs:List Str) (v:V) (t:Th) (n:Nat):(vs=[.ref ld,.ref lt,v])->(H ld=some (.lst xs))->(wQ C H xs cs)->((∀c∈cs,ya c))->(cs.length<=100)->(H lt=some (.lst (zs.map V.str)))->(zs.length<=100)->((∀z∈zs,d9 z/\z.length<=2000))->(n<18)->(RT H n v t)->(∀H',aC H H'->Q (.bl (dG (B0 cs zs) 9 (List.range cs.length) t)) H')->Di K C vs H Q E_
theorem Ma:zzz T fu 21 34 ["dialects","texts","tree"] (Di K (av 50)):=by
 have jT:=nA T
 have eB:=vv T
 refine T.Hu.ok CV (λvs H Q E h=>?_) 'a'
 ·obtain⟨ld,lt,xs,cs,zs,v,t,n,rfl,_⟩:=h;rfl
 ·have hu:=bz hr
  obtain⟨ld,lt,xs,cs,zs,v5,t,n,rfl,hd,mk,gd,hc,hlt,hzn,hz,hn,hv,k⟩:=h
  have Rr:=mk.length
  refine⟨_,(ai (nY (i:=3) rfl CV.nd rfl rfl (show aT ["dialects","texts","tree","all_readings"] (au vU) ["text","dialects"] 1 [0] _ from CA) (di K rfl (pv 1)) (λ_ _ _ _=>(kC 0 (show(["text","dialects"]:List Str).Nodup by decide +kernel))) (λ_ _ _ _=>cJ) (λ_ _ _ _=>(fh jT hr T.pB T.jP.kp T.pA (af (pv 1) (af (pv 0) ah)))))
   (ao (az (fh eB hr T.mW T.iQ.kp T.mV (af (pv 3) (af (uz rfl rfl T.om rfl T.eo (af (gm (aJ K rfl) T.bQ (af (pv 0) ah)) ah)) (af (pv 2) ah))))))),?_⟩
  refine⟨_,O,lt,O,⟨_,aM.of hlt⟩,λD hD=>?_⟩
  have EO:(upd H D (.lst [])) D≠none:=by rw[aj];intro q;cases q
  have L8:∀{J:Hp}{ys:List V},aC H J->J D=some (.lst ys)->∀b,J b=none->(upd H D (.lst [])) b=none:=λsJ hJ b hb=>(aB (λq=>by rw[q,hJ]at hb;cases hb)).trans (sJ.free hb)
  generalize Xb:upd H D (.lst [])=A0 at EO L8
  refine fO (K:=K) (a:=lt) (xs:=zs.map V.str) (λi ys τ J=>(∃v,τ=[v,some (.ref ld)])/\aC H J/\J D=some (.lst ys)/\aY A0 J ys ((B0 cs zs).take i)) ⟨⟨_,rfl⟩,aq hD,aj,.nil⟩ (λi ys τ J _ p=>⟨aM.of (p.2.1 _ _ hlt),p.2.2.1⟩) ?_ ?_
  ·rintro i e ys τ J hi ⟨⟨v,rfl⟩,sJ,hJ,rs⟩
   obtain⟨z,Rv,rfl⟩:=qY hi
   obtain⟨z1,z2⟩:=hz z (aau Rv)
   have hil:i<zs.length:=(aaj.mp Rv).1
   have hyl:=rs.length
   rw[aaL]at hyl
   refine qq ?_
   refine⟨_,O,_,O,ld,z,xs,cs,O,sJ _ _ hd,wQ.mono sJ mk,gd,hc,z1,z2,λl G hl Xp s1=>?_⟩
   have MU:=s1 _ _ hJ
   refine⟨MU,aaD (show ys.length<=200 by omega) 'c',⟨_,O⟩,aE hD (sJ.trans s1),aj,?_⟩
   rw[bV (l:=B0 cs zs) (c:=readM (wX cs z)) (by unfold B0;rw[aaW,Rv];rfl)]
   exact d8 (aY.set EO (aY.mono s1 rs)) (aY.set EO (.cons ⟨l,rfl,L8 sJ hJ l hl,Xp⟩ .nil))
  rintro ys τ J ⟨⟨v,rfl⟩,sJ,hJ,rs⟩
  have yx:(zs.map V.str).length=zs.length:=aak _
  have Zu:(B0 cs zs).length=zs.length:=aak _
  rw[yx,aaK 'b']at rs
  have rg:=aY.Wz rs
  dsimp only[cT]
  have Xq:=sJ _ _ hd
  have hrb:∀r∈B0 cs zs,∀p∈List.range cs.length,p<r.length:=λr hr p hp=>by rw[Ho r hr];exact List.mem_range.mp hp
  refine⟨_,O,_,O,ld,xs,O,.inl (aM.of Xq),_,O,by omega,by omega,λl hl=>?_⟩
  rw[Rr,CS]
  have sl:=aq (o:=HO.lst ((List.range cs.length).map nV)) hl
  refine⟨_,O,D,l,ys,B0 cs zs,List.range cs.length,v5,t,n,O,sl _ _ hJ,mL.mono sl rg,by omega,aj,by rw[abq];omega,hrb,hn,RT.mono (sJ.trans sl) hv,λH2 s2=>k H2 ((sJ.trans sl).trans s2)⟩
inductive lT(K:W.Frag)(vs:List V)(H:Hp)(Q:VK)(E_:XK):Prop where
 |mk (a:Addr) (ns:List Int) (i:Int):(vs=[.ref a,.int i])->(aM K H a (ns.map V.int))->(0<=i)->(∀r:Int,Q (.int r) H)->lT K vs H Q E_
theorem lU:zzz T fu 1 35 ["_law_script","_law_k"] (lT K):=by
 refine T.iR.ok u7 (λvs H Q E h=>?_) 'a'
 ·obtain⟨a,ns,i,rfl,_⟩:=h;rfl
 ·have hu:=bz hr
  obtain⟨a,ns,i,rfl,hS,hi,k⟩:=h
  refine⟨_,(ai (aK (eN ur (pv 1) (gm (aJ K rfl) T.bQ (af (pv 0) ah))) (ao (az (mj K (pv 0) (pv 1)))) aA)
   (ao (az ak))),?_⟩
  refine⟨_,O,_,O,a,_,O,.inl hS,_,_,O,O,_,O,?_⟩
  refine bP (λhc=>?_) (λ_=>?_)
  ·have hlt:=aaX hc
   obtain⟨v,ev,hv⟩:=As hi hlt
   obtain⟨r,_,rfl⟩:=List.mem_map.mp hv
   exact⟨_,O,_,O,a,_,_,_,O,O,hS,ev,k r⟩
  ·exact k 0
inductive jU(vs:List V)(H:Hp)(Q:VK)(E_:XK):Prop where
 |mk (a b:Int):(vs=[.int a,.int b])->(0<=a)->(a<4294967296)->(0<=b)->(b<65536)->(∀r:Int,0<=r->r<49979687->Q (.int r) H)->jU vs H Q E_
theorem jV:zzz T fu 1 36 ["_law_number_here","_law_salt"] jU:=by
 refine T.aZ.ok jM (λvs H Q E h=>?_) 'a'
 ·obtain⟨a,b,rfl,_⟩:=h;rfl
 ·have hu:=bz hr
  obtain⟨a,b,rfl,ha,ha',hb,hb',k⟩:=h
  refine⟨_,(ai (fB 2 jM.nd (aD bf (aD cX (aD gw (pv 0) (aD cX ak (aD gw ak (pv 1)))) (aD gw ak (pv 1))) ak))
   (ai (fB 3 jM.nd (aD bf (aD cX (aD gw (pv 2) (pv 2)) (pv 1)) ak))
   (ao (az (aD bf (aD cX (aD gw (pv 3) (pv 3)) (pv 2)) ak))))),?_⟩
  refine⟨_,O,_,O,_,_,O,O,.inl ⟨by decide,by decide⟩,_,_,O,O,_,_,O,O,.inl ⟨by omega,by omega⟩,_,O,_,_,O,O,.inl ⟨by decide,by decide⟩,_,_,O,O,_,_,O,O,(by show(0:Int)<15485863;decide),?_⟩
  have h1:=aaO (a*(1299709+210*b)+7919*b) (show(15485863:Int)≠0 by decide)
  have h2:=aaM (a*(1299709+210*b)+7919*b) (show(0:Int)<15485863 by decide)
  refine⟨_,O,_,O,_,_,O,O,.inl ⟨by omega,by omega⟩,_,O,_,_,O,O,_,_,O,O,(by show(0:Int)<32452843;decide),?_⟩
  refine⟨_,O,_,O,_,_,O,O,.inl ⟨?_,?_⟩,_,O,_,_,O,O,_,_,O,O,(by show(0:Int)<49979687;decide),?_⟩
  ·exact Int.lt_of_lt_of_le 'c' (aaO _ 'c')
  ·exact Int.lt_trans (aaM _ 'c') 'c'
  ·exact k _ (aaO _ 'c') (aaM _ 'c')
inductive nC(vs:List V)(H:Hp)(Q:VK)(E_:XK):Prop where
 |mk (c s:Int):(vs=[.int c,.int s])->(0<=s)->(s<60000)->(∀r:Int,Q (.int r) H)->nC vs H Q E_
theorem xJ:zzz T fu 2 37 ["_law_cell","_law_salt"] nC:=by
 have aV:=jV T
 refine T.pF.ok iM (λvs H Q E h=>?_) 'a'
 ·obtain⟨c,s,rfl,_⟩:=h;rfl
 ·have hu:=bz hr
  obtain⟨c,sa,rfl,hs,hs',k⟩:=h
  refine⟨_,(ai (aK (PW.pt (fR (eN bg (aD bf (pv 0) ak) ak) (dH (eN Kr (pv 0) (aD gw ak (aD Aa ak ak)))))) (ao (az (aD sW (aD dI (pv 0) ak) (aD Aa ak ak)))) aA)
   (ai (fB 2 iM.nd (aD bf (pv 0) ak))
   (ai (fB 3 iM.nd (aD cX (aD gw (fh aV hr T.bD T.aZ.kp T.bC (af (pv 2) (af (pv 1) ah))) ak) (fh aV hr T.bD T.aZ.kp T.bC (af (pv 2) (af (aD cX (pv 1) ak) ah)))))
   (ao (az (aD cX (aD gw (pv 3) ak) (fh aV hr T.bD T.aZ.kp T.bC (af (pv 2) (af (aD cX (pv 1) ak) ah))))))))),?_⟩
  have Zy:Sw 10 18:=⟨by decide,by decide,by decide⟩
  have n0:0<=c % 1000000007:=aaO _ 'c'
  have n1:c % 1000000007<4294967296:=Int.lt_trans (aaM _ 'c') 'c'
  refine⟨_,O,_,_,O,O,(by show(0:Int)<2;decide),O,_,O,?_⟩
  refine bP (λ_=>?_) (λ_=>?_)
  ·refine⟨_,O,_,_,O,O,Zy,_,_,O,O,.inl ⟨by decide,by decide⟩,_,_,O,O,_,O,?_⟩
   refine bP (λ_=>?_) (λ_=>?_)
   ·exact⟨_,O,_,_,O,O,⟨by decide,by decide⟩,_,_,O,O,Zy,_,_,O,O,k _⟩
   ·refine⟨_,O,_,_,O,O,(by show(0:Int)<1000000007;decide),?_⟩
    refine⟨_,O,_,O,_,_,O,n0,n1,by omega,by omega,λr1 _ _=>?_⟩
    refine⟨_,_,O,O,.inr ⟨by decide,by decide⟩,_,O,_,O,_,_,O,O,_,_,O,n0,n1,by omega,by omega,λr2 _ _=>⟨_,_,O,O,?_⟩⟩
    refine⟨_,O,_,_,O,O,.inr ⟨by decide,by decide⟩,_,O,_,O,_,_,O,O,_,_,O,n0,n1,by omega,by omega,λr3 _ _=>⟨_,_,O,O,k _⟩⟩
  ·refine⟨_,O,_,_,O,O,(by show(0:Int)<1000000007;decide),?_⟩
   refine⟨_,O,_,O,_,_,O,n0,n1,by omega,by omega,λr1 _ _=>?_⟩
   refine⟨_,_,O,O,.inr ⟨by decide,by decide⟩,_,O,_,O,_,_,O,O,_,_,O,n0,n1,by omega,by omega,λr2 _ _=>⟨_,_,O,O,?_⟩⟩
   refine⟨_,O,_,_,O,O,.inr ⟨by decide,by decide⟩,_,O,_,O,_,_,O,O,_,_,O,n0,n1,by omega,by omega,λr3 _ _=>⟨_,_,O,O,k _⟩⟩
inductive rX(vs:List V)(H:Hp)(Q:VK)(E_:XK):Prop where
 |mk (n m:Int) (me:Str):(vs=[.int n,.int m,.str me])->(Mn me)->(0<=m)->(m<=3)->(∀(t:Addr)(z:Str)(r:Int),Sg z->(z.length:Int)<=m->(1<=m->1<=z.length)->H t=none->Q (.ref t) (upd H t (.tup [.str z,.int r])))->rX vs H Q E_
theorem A9:zzz T fu 1 38 ["_law_number_here","_law_many","_law_menu_here"] rX:=by
 refine T.jq.ok eS (λvs H Q E h=>?_) 'a'
 ·obtain⟨n,m,me,rfl,_⟩:=h;rfl
 ·have hu:=bz hr
  obtain⟨n,m,me,rfl,⟨hm1,hm2,hm3⟩,h0,h3,k⟩:=h
  have hml:me.length<=sizeLine:=aay hm2 'c'
  refine⟨_,(ai (fB 3 eS.nd ay)
   (ai (gv aa3 rfl (gn rfl T.eo (af (pv 1) ah)) (kC 4 eS.nd)
   (ai (fB 5 eS.nd (GS KI (pv 2) (aD bf (pv 0) (gm eH T.bQ (af (pv 2) ah))) (λ_ _=>rfl)))
   (ai (fB 0 eS.nd (aD dI (pv 0) (gm eH T.bQ (af (pv 2) ah))))
   (ao (aK (fS Ag (pv 5) (pv 3) rfl) (ao (fB 3 eS.nd (aD fE (pv 3) (pv 5)))) aA)))))
   (ao (az (aQ (af (pv 3) (af (pv 0) ah))))))),?_⟩
  refine⟨_,O,m,O,by omega,by omega,?_⟩
  refine nW (λi σ H2=>H2=H/\∃(r:Int)(z:Str)(v1 v2:Option V),σ=[some (.int r),some (.int m),some (.str me),some (.str z),v1,v2]/\Sg z/\z.length<=i/\(1<=i->1<=z.length)) ⟨rfl,n,_,_,_,rfl,Qy,by decide,λz=>absurd z 'c'⟩ ?_ ?_
  ·rintro i σ H2 hi ⟨rfl,r,z,v1,v2,rfl,g,hz,hz1⟩
   have hlen:me.cps.toList.length=me.length:=by rw[aaE];rfl
   obtain⟨c,ec,hc⟩:=As (xs:=me.cps.toList) (aaO r (show(me.length:Int)≠0 by omega)) (by rw[hlen];exact aaM r 'b')
   refine⟨_,O,_,O,_,O,me,O,hml,_,_,O,O,(by show(0:Int)<me.length;omega),me,_,c,O,O,hml,ec,?_⟩
   refine⟨_,O,_,O,me,O,hml,_,_,O,O,⟨by show(0:Int)<me.length;omega,by show(me.length:Int)<1073741824;omega⟩,?_⟩
   refine⟨_,O,_,O,_,_,O,O,_,O,?_⟩
   refine bP (λha=>?_) (λha=>?_)
   ·have e1:(z++(⟨#[c]⟩:Str)).length=z.length+1:=oh _ _
    refine⟨_,O,_,O,_,_,O,O,?_,O,_,_,_,_,O,Qx g (hm3 c hc) ha,by rw[e1];omega,λ_=>by rw[e1];omega⟩
    exact aay (show z.length+1<=5 by omega) 'c'
   ·refine⟨O,_,_,_,_,O,g,by omega,λ_=>?_⟩
    have hin:c∈z.cps.toList:=Classical.byContradiction λq=>ha ((CC z c).mpr q)
    have:=List.length_pos_of_mem hin
    rw[aaE]at this
    exact this
  ·rintro σ H2 ⟨rfl,r,z,v1,v2,rfl,g,hz,hz1⟩
   exact⟨_,O,_,O,(by show 2<=sizeLine;decide),λt ht=>k t z r g 'b' (λq=>hz1 'b') ht⟩
inductive pQ(vs:List V)(H:Hp)(Q:VK)(E_:XK):Prop where
 |mk (n:Int):(vs=[.int n])->(∀(l:Addr)(m1 m2 m3:Str),Mn m1->Mn m2->Mn m3->H l=none->Q (.ref l) (upd H l (.lst [.str m1,.str m2,.str m3])))->pQ vs H Q E_
theorem yG:zzz T fu 1 39 ["_law_way"] pQ:=by
 refine T.rM.ok o7 (λvs H Q E h=>?_) 'a'
 ·obtain⟨n,rfl,_⟩:=h;rfl
 ·have hu:=bz hr
  obtain⟨n,rfl,k⟩:=h
  refine⟨_,(ai (fB 1 o7.nd ay)
   (ai (aK (eN bg (pv 0) ak) (ao (az (bM (af ay (af ay (af ay ah)))))) aA)
   (ai (aK (eN bg (pv 0) ak) (ao (az (bM (af ay (af ay (af ay ah)))))) aA)
   (ao (az (bM (af (pv 1) (af (pv 1) (af (pv 1) ah))))))))),?_⟩
  refine⟨_,O,O,_,O,?_⟩
  refine bP (λ_=>?_) (λ_=>?_)
  ·exact⟨by decide,λl hl=>k l _ _ _ 'h' 'h' 'h' hl⟩
  ·refine⟨_,O,O,_,O,?_⟩
   refine bP (λ_=>?_) (λ_=>?_)
   ·exact⟨by decide,λl hl=>k l _ _ _ 'h' 'h' 'h' hl⟩
   ·exact⟨_,O,_,O,_,O,by decide,λl hl=>k l _ _ _ 'h' 'h' 'h' hl⟩
inductive rY(vs:List V)(H:Hp)(Q:VK)(E_:XK):Prop where
 |mk (c:Int):(vs=[.int c])->(∀(t:Addr)(p q f:Str)(b1 b2 b3 b4:Bool)(H':Hp),Gd p q f->H t=none->H' t=some (.tup (wM p q f b1 b2 b3 b4))->aC H H'->Q (.ref t) H')->rY vs H Q E_
theorem Ba:zzz T fu 3 40 ["_law_cell"] rY:=by
 have Bb:=yG T
 have yH:=xJ T
 have nD:=A9 T
 refine T.uC.ok bE (λvs H Q E h=>?_) 'a'
 ·obtain⟨c,rfl,_⟩:=h;rfl
 ·have hu:=bz hr
  obtain⟨c,rfl,k⟩:=h
  refine⟨_,(ai (fB 1 bE.nd (fh yH hr T.yu T.pF.kp T.yt (af (pv 0) (af ak ah))))
   (ai (fB 2 bE.nd (aD bf (pv 1) ak))
   (ai (fB 3 bE.nd (bM (af (aD cX ak (aD bf (aD dI (pv 1) ak) ak)) (af (aD bf (aD dI (pv 1) ak) ak) (af (aD bf (aD dI (pv 1) ak) ak) ah)))))
   (ai (fB 4 bE.nd (fh Bb hr T.AS T.rM.kp T.AR (af (aD bf (aD dI (pv 1) ak) ak) ah)))
   (ai (jB (fh nD hr T.m5 T.jq.kp T.mZ (af (aD dI (pv 1) ak) (af (mj K (pv 3) ak) (af (mj K (pv 4) ak) ah)))) (kI K rfl 2 rfl (cD (kC 5 bE.nd) (cD (kC 1 bE.nd) kG))))
   (ai (jB (fh nD hr T.m5 T.jq.kp T.mZ (af (pv 1) (af (mj K (pv 3) ak) (af (mj K (pv 4) ak) ah)))) (kI K rfl 2 rfl (cD (kC 6 bE.nd) (cD (kC 1 bE.nd) kG))))
   (ai (jB (fh nD hr T.m5 T.jq.kp T.mZ (af (pv 1) (af (mj K (pv 3) ak) (af (mj K (pv 4) ak) ah)))) (kI K rfl 2 rfl (cD (kC 7 bE.nd) (cD (kC 1 bE.nd) kG))))
   (ai (fB 8 bE.nd (bM (af (BX bg (aD bf (pv 2) ak) ak) (af (BX bg (aD bf (aD dI (pv 2) ak) ak) ak) (af (BX bg (aD bf (aD dI (pv 2) ak) ak) ak) (af (BX bg (aD bf (aD dI (pv 2) ak) ak) ak) ah))))))
   (ao (az (aQ (af (pv 5) (af (pv 6) (af (pv 7) (af (mj K (pv 8) ak) (af (mj K (pv 8) ak) (af (mj K (pv 8) ak) (af (mj K (pv 8) ak) ah)))))))))))))))))),?_⟩
  refine⟨_,O,_,_,O,by decide,by decide,λn=>?_⟩
  refine⟨_,O,_,_,O,O,(by show(0:Int)<16;decide),?_⟩
  refine⟨_,O,_,_,O,O,⟨by decide,by decide⟩,_,_,O,O,(by show(0:Int)<3;decide),_,_,O,O,_,O,_,_,O,O,⟨by decide,by decide⟩,_,_,O,O,(by show(0:Int)<3;decide),_,O,_,_,O,O,⟨by decide,by decide⟩,_,_,O,O,(by show(0:Int)<3;decide),(by show 3<=sizeLine;decide),λl hl=>?_⟩
  have m1:=aaO (n / 16) (show(3:Int)≠0 by decide)
  have m1':=aaM (n / 16) (show(0:Int)<3 by decide)
  have m2:=aaO (n / 48) (show(3:Int)≠0 by decide)
  have m2':=aaM (n / 48) (show(0:Int)<3 by decide)
  have m3:=aaO (n / 144) (show(3:Int)≠0 by decide)
  have m3':=aaM (n / 144) (show(0:Int)<3 by decide)
  have h1:(upd H l (.lst [.int (1+n / 16 % 3),.int (n / 48 % 3),.int (n / 144 % 3)])) l=some (.lst [.int (1+n / 16 % 3),.int (n / 48 % 3),.int (n / 144 % 3)]):=aj
  have s1:aC H (upd H l (.lst [.int (1+n / 16 % 3),.int (n / 48 % 3),.int (n / 144 % 3)])):=aq hl
  generalize upd H l (.lst [.int (1+n / 16 % 3),.int (n / 48 % 3),.int (n / 144 % 3)])=H1 at h1 s1⊢
  refine⟨_,O,_,_,O,O,⟨by decide,by decide⟩,_,_,O,O,(by show(0:Int)<3;decide),_,O,λl2 e1 e2 e3 g1 g2 g3 hl2=>?_⟩
  have h2:(upd H1 l2 (.lst [.str e1,.str e2,.str e3])) l2=some (.lst [.str e1,.str e2,.str e3]):=aj
  have s2:aC H1 (upd H1 l2 (.lst [.str e1,.str e2,.str e3])):=aq hl2
  generalize upd H1 l2 (.lst [.str e1,.str e2,.str e3])=H2 at h2 s2⊢
  have h12:=s2 _ _ h1
  refine⟨_,O,_,_,O,O,⟨by decide,by decide⟩,_,O,l,_,_,_,O,O,aM.of h12,O,_,O,l2,_,_,_,O,O,aM.of h2,O,_,_,_,O,g1,by omega,by omega,λt1 p r1 gp lp lp1 ht1=>?_⟩
  refine⟨t1,_,O,bR.of aj,O,_,_,O,_,_,O,O,?_⟩
  have s3:aC H2 (upd H2 t1 (.tup [.str p,.int r1])):=aq ht1
  generalize upd H2 t1 (.tup [.str p,.int r1])=H3 at s3⊢
  refine⟨_,O,_,O,l,_,_,_,O,O,aM.of (s3 _ _ h12),O,_,O,l2,_,_,_,O,O,aM.of (s3 _ _ h2),O,_,_,_,O,g2,by omega,by omega,λt2 q r2 gq lq lq1 Rx=>?_⟩
  refine⟨t2,_,O,bR.of aj,O,_,_,O,_,_,O,O,?_⟩
  have s4:aC H3 (upd H3 t2 (.tup [.str q,.int r2])):=aq Rx
  generalize upd H3 t2 (.tup [.str q,.int r2])=H4 at s4⊢
  refine⟨_,O,_,O,l,_,_,_,O,O,aM.of (s4 _ _ (s3 _ _ h12)),O,_,O,l2,_,_,_,O,O,aM.of (s4 _ _ (s3 _ _ h2)),O,_,_,_,O,g3,by omega,by omega,λt3 f r3 gf lf Y8 ht3=>?_⟩
  refine⟨t3,_,O,bR.of aj,O,_,_,O,_,_,O,O,?_⟩
  have s5:aC H4 (upd H4 t3 (.tup [.str f,.int r3])):=aq ht3
  generalize upd H4 t3 (.tup [.str f,.int r3])=H5 at s5⊢
  refine⟨_,O,_,_,O,O,(by show(0:Int)<2;decide),O,_,O,_,_,O,O,⟨by decide,by decide⟩,_,_,O,O,(by show(0:Int)<2;decide),O,_,O,_,_,O,O,⟨by decide,by decide⟩,_,_,O,O,(by show(0:Int)<2;decide),O,_,O,_,_,O,O,⟨by decide,by decide⟩,_,_,O,O,(by show(0:Int)<2;decide),O,(by show 4<=sizeLine;decide),λl6 hl6=>?_⟩
  have s6:=aq (o:=HO.lst [.bl (decide (V.int (n % 16 % 2)=V.int 1)),.bl (decide (V.int (n % 16 / 2 % 2)=V.int 1)),.bl (decide (V.int (n % 16 / 4 % 2)=V.int 1)),.bl (decide (V.int (n % 16 / 8 % 2)=V.int 1))]) hl6
  refine⟨_,O,_,O,_,O,_,O,l6,_,_,_,O,O,aM.of aj,O,_,O,l6,_,_,_,O,O,aM.of aj,O,_,O,l6,_,_,_,O,O,aM.of aj,O,_,O,l6,_,_,_,O,O,aM.of aj,O,(by show 7<=sizeLine;decide),λt ht=>?_⟩
  have Ul:=((((s1.trans s2).trans s3).trans s4).trans s5).trans s6
  exact k t p q f _ _ _ _ _ ⟨gp,gq,gf,lp1 'b',by omega,by omega,by omega⟩ (Ul.free ht) aj (Ul.trans (aq ht))
inductive pR(vs:List V)(H:Hp)(Q:VK)(E_:XK):Prop where
 |mk (c m:Int):(vs=[.int c,.int m])->(0<=m)->(m<=1000)->(∀(l:Addr)(ns:List Int)(H':Hp),ns.length=m.toNat->(∀n∈ns,0<=n)->H l=none->H' l=some (.lst (ns.map V.int))->aC H H'->Q (.ref l) H')->pR vs H Q E_
theorem pS:zzz T fu 2 41 ["_law_cell","_law_many"] pR:=by
 have aV:=jV T
 refine T.lu.ok dF (λvs H Q E h=>?_) 'a'
 ·obtain⟨c,m,rfl,_⟩:=h;rfl
 ·have hu:=bz hr
  obtain⟨c,m,rfl,hm,hm',k⟩:=h
  refine⟨_,(ai (aK (PW.pt (lM (eN bg (aD bf (pv 0) ak) ak) (kF (eN ur (pv 0) (aD gw ak (aD Aa ak ak)))))) (ai (fB 2 dF.nd (aD bf (pv 0) ak))
   (ao (az (iz rfl (show aT ["_law_cell","_law_many","_law_number_here","_law_found","_law_k"] (au iB) ["_law_k","_law_number_here"] 1 [2] _ from CA) (gn rfl T.eo (af (pv 1) ah)) (λ_ _ _ _=>(kC 0 (show(["_law_k","_law_number_here"]:List Str).Nodup by decide +kernel))) (λ_ _ _ _=>cJ) (λ_ _ _ _=>(fh aV hr T.bD T.aZ.kp T.bC (af (pv 1) (af (aD cX ak (aD gw ak (pv 0))) ah)))))))) aA)
   (ai (fB 3 dF.nd (bM ah))
   (ai (fB 2 dF.nd (aD sW (aD dI (pv 0) ak) (aD Aa ak ak)))
   (ai (gv aa3 rfl (gn rfl T.eo (af (pv 1) ah)) (kC 4 dF.nd)
   (ai (eF (fU K rfl aaP aaT aaU cN (pv 3) (af (aD bf (pv 2) ak) ah)))
   (ao (fB 2 dF.nd (aD dI (pv 2) ak)))))
   (ao (az (pv 3))))))),?_⟩
  refine⟨_,O,_,_,O,O,(by show(0:Int)<2;decide),O,_,O,?_⟩
  have Um:∀{D:Addr}{v:Option V},H D=none->qQ (OR 0 m.toNat) (cT 0) KO (GO jU [] E0 (Ky (M1 1) (Ky (MO (M7 λi j=>.int (i+j)) (tC (.int 71)) (MO (rI M9 λi j=>.int (i*j)) (tC (.int 2)) (M1 0))) PD))) Q D [none,some (.int (c % 1000000007))] H:=by
   intro D v hD
   refine qj (λi ys τ H2=>(∃v,τ=[v,some (.int (c % 1000000007))])/\aC H H2/\H2 D=some (.lst ys)/\∃ns:List Int,ys=ns.map V.int/\ns.length=i/\∀n∈ns,0<=n) ⟨⟨_,rfl⟩,aq hD,aj,[],rfl,rfl,λ_ z=>nomatch z⟩ (λi ys τ H2 _ p=>p.2.2.1) ?_ ?_
   ·rintro i ys τ H2 hi ⟨⟨v,rfl⟩,s2,hl,ns,rfl,hn,hp⟩
    refine qq ?_
    refine⟨_,O,_,O,_,_,O,O,.inl ⟨by decide,by decide⟩,_,_,O,O,_,_,O,aaO _ 'c',Int.lt_trans (aaM _ 'c') 'c',by omega,by omega,λr hr0 _=>?_⟩
    refine⟨hl,?_,⟨_,O⟩,aE hD s2,aj,ns++[r],by rw[aaF];rfl,by rw[aaJ,hn];rfl,λn hn'=>?_⟩
    ·rw[aak,hn]
     exact aav (show i<1000 by omega) 'c'
    ·rcases aaI.mp hn' with z|z
     ·exact hp n z
     ·rw[aap.mp z];exact hr0
   ·rintro ys τ H2 ⟨⟨v,rfl⟩,s2,hl,ns,rfl,hn,hp⟩
    exact k D ns H2 hn hp hD hl s2
  refine bP (λ_=>?_) (λ_=>?_)
  ·refine dh ?_
   refine⟨_,O,_,_,O,O,(by show(0:Int)<1000000007;decide),?_⟩
   exact⟨_,rfl,m,rfl,by omega,by omega,λD hD=>Um (v:=none) hD⟩
  ·refine⟨_,O,_,_,O,O,⟨by decide,by decide,by decide⟩,_,_,O,O,.inl ⟨by decide,by decide⟩,_,_,O,O,_,O,?_⟩
   refine bP (λ_=>?_) (λ_=>?_)
   ·refine⟨_,O,_,_,O,O,(by show(0:Int)<1000000007;decide),?_⟩
    exact⟨_,rfl,m,rfl,by omega,by omega,λD hD=>Um (v:=none) hD⟩
   ·refine⟨by decide,λl hl=>?_⟩
    refine⟨_,O,_,_,O,O,⟨by decide,by decide⟩,_,_,O,O,⟨by decide,by decide,by decide⟩,_,_,O,O,?_⟩
    refine⟨_,O,m,O,by omega,by omega,?_⟩
    refine nW (λi σ H2=>aC H H2/\∃(x:Int)(v:Option V)(ns:List Int),σ=[some (.int c),some (.int m),some (.int x),some (.ref l),v]/\H2 l=some (.lst (ns.map V.int))/\ns.length=i/\∀n∈ns,0<=n) ⟨aq hl,_,_,[],rfl,aj,rfl,λ_ z=>nomatch z⟩ ?_ ?_
    ·rintro i σ H2 hi ⟨s2,x,v,ns,rfl,hq,hn,hp⟩
     refine⟨_,O,.inl ⟨O,_,aM.of hq⟩,_,O,_,_,O,O,(by show(0:Int)<4096;decide),l,_,_,O,O,hq,?_,?_⟩
     ·rw[aak,hn]
      exact aav (show i<1000 by omega) 'c'
     ·refine⟨_,O,_,_,O,O,⟨by decide,by decide⟩,?_⟩
      refine⟨aE hl s2,_,_,ns++[x % 4096],O,?_,by rw[aaJ,hn];rfl,λn hn'=>?_⟩
      ·rw[aj,aaF];rfl
      ·rcases aaI.mp hn' with z|z
       ·exact hp n z
       ·rw[aap.mp z];exact aaO _ 'c'
    ·rintro σ H2 ⟨s2,x,v,ns,rfl,hq,hn,hp⟩
     exact⟨_,O,k l ns H2 hn hp hl hq s2⟩
inductive uK(K:W.Frag)(vs:List V)(H:Hp)(Q:VK)(E_:XK):Prop where
 |mk (t:Addr) (n:Int) (x:oY):(vs=[.ref t,.int n])->(H t=some (.tup (lZ x)))->(ya x)->(∀t2 (y:oY) H',ya y->H' t2=some (.tup (lZ y))->aC H H'->Q (.ref t2) H')->uK K vs H Q E_
theorem Dj:zzz T fu 1 42 ["_law_told_here","_law_x"] (uK K):=by
 refine T.xx.ok mS (λvs H Q E h=>?_) 'a'
 ·obtain⟨t,n,x,rfl,_⟩:=h;rfl
 ·have hu:=bz hr
  obtain⟨t,n,x,rfl,ht,g,k⟩:=h
  refine⟨_,(ai (fB 2 mS.nd (aD bf (pv 1) ak))
   (ai (fB 3 mS.nd (Tq (oU K rfl) T.om (af (pv 0) ah)))
   (ai (aK (eN ur (pv 2) ak) (ao (jB (HX (mj K (pv 3) (pv 2)) (Su PB ak)) (qg (pv 3) (pv 2) set_list))) aA)
   (ai (aK (PW.pt (fR (eN bg (pv 2) ak) (dH (eN bg (mj K (pv 3) ak) ay)))) (ao (jB (D3 (mj K (pv 3) ak)) (qg (pv 3) ak set_list))) aA)
   (ai (aK (PW.pt (fR (eN bg (pv 2) ak) (dH (eN bg (aD fE (mj K (pv 3) ak) (mj K (pv 3) ak)) ay)))) (ao (jB (D3 (mj K (pv 3) ak)) (qg (pv 3) ak set_list))) aA)
   (ai (aK (PW.pt (fR (eN qP (pv 2) ak) (dH (eN ur (pv 2) ak)))) (ao (jB (D3 (mj K (pv 3) (aD sW (pv 2) ak))) (qg (pv 3) (aD sW (pv 2) ak) set_list))) aA)
   (ai (aK (eN bg (pv 2) ak) (ao (jB (jY K0 (mj K (pv 3) ak) Ab (iy ak)) (qg (pv 3) ak set_list))) aA)
   (ai (aK (eN bg (pv 2) ak) (ao (jB (jY K0 (mj K (pv 3) ak) Ab (iy ak)) (qg (pv 3) ak set_list))) aA)
   (ao (az (Tq (wA K rfl) T.xB (af (pv 3) ah)))))))))))),?_⟩
  refine⟨_,O,_,_,O,O,(by show(0:Int)<12;decide),?_⟩
  have w0:=aaO n (show(12:Int)≠0 by decide)
  have w1:=aaM n (show(0:Int)<12 by decide)
  dsimp only[cT]
  generalize n % 12=w at w0 w1⊢
  refine⟨_,O,t,_,O,.inr (bR.of ht),λl hl=>?_⟩
  have s1:=aq (o:=HO.lst (lZ x)) hl
  have h1:(upd H l (.lst (lZ x))) l=some (.lst (lZ x)):=aj
  generalize upd H l (.lst (lZ x))=H1 at s1 h1⊢
  dsimp only[cT]
  refine fP (t:=B8 _ _ _) (λσ' H'=>aC H H'/\σ'=[some (.ref t),some (.int n),some (.int w),some (.ref l)]/\∃y:oY,ya y/\H' l=some (.lst (lZ y))) ?_ (λgo=>?_)
  rotate_left
  ·refine⟨_,O,_,_,O,O,_,O,bP (λh4=>?_) (λ_=>go _ _ ⟨s1,O,x,g,h1⟩)⟩
   have h4:w<3:=aaX h4
   have r1:=Ax x.1;have r2:=Ax x.2.1;have r3:=Ax x.2.2.1
   have a1:=g.p1;have a2:=g.p3;have a3:=g.q2;have a4:=g.f2
   rcases(by omega:w=0\/w=1\/w=2) with rfl|rfl|rfl
   ·exact⟨_,O,_,O,l,_,_,_,O,O,aM.of h1,O,_,O,_,O,O,aay a2 'c',_,O,_,O,l,_,_,0,O,O,h1,O,go _ _ ⟨aE hl s1,O,(qV x.1,x.2),⟨Eu g.gp,g.gq,g.gf,by show 1<=(qV x.1).length;omega,by show(qV x.1).length<=3;omega,a3,a4⟩,aj⟩⟩
   ·exact⟨_,O,_,O,l,_,_,_,O,O,aM.of h1,O,_,O,_,O,O,aay a3 'c',_,O,_,O,l,_,_,1,O,O,h1,O,go _ _ ⟨aE hl s1,O,(x.1,qV x.2.1,x.2.2),⟨g.gp,Eu g.gq,g.gf,a1,a2,by show(qV x.2.1).length<=2;omega,a4⟩,aj⟩⟩
   ·exact⟨_,O,_,O,l,_,_,_,O,O,aM.of h1,O,_,O,_,O,O,aay a4 'c',_,O,_,O,l,_,_,2,O,O,h1,O,go _ _ ⟨aE hl s1,O,(x.1,x.2.1,qV x.2.2.1,x.2.2.2),⟨g.gp,g.gq,Eu g.gf,a1,a2,a3,by show(qV x.2.2.1).length<=2;omega⟩,aj⟩⟩
  rintro σ' H2 ⟨s2,rfl,x2,g2,h2⟩
  refine fP (t:=B8 _ _ _) (λσ' H'=>aC H H'/\σ'=[some (.ref t),some (.int n),some (.int w),some (.ref l)]/\∃y:oY,ya y/\H' l=some (.lst (lZ y))) ?_ (λgo=>?_)
  rotate_left
  ·have go2:=λy (gy:ya y)=>go _ _ ⟨aE (o:=HO.lst (lZ y)) hl s2,rfl,y,gy,aj⟩
   have Pg:=go _ _ ⟨s2,rfl,x2,g2,h2⟩
   by_cases h4:w=3
   ·refine⟨_,O,O,_,O,RU h4 (⟨_,O,_,_,_,_,O,O,aM.of h2,O,O,_,O,S4 (λ_=>?_) (λ_=>Pg)⟩)⟩
    exact⟨_,O,_,_,_,_,O,O,aM.of h2,O,_,O,_,O,_,_,_,_,O,O,h2,O,go2 (x2.1,x2.2.1,x2.2.2.1,⟨!x2.2.2.2.a,x2.2.2.2.b,x2.2.2.2.c,x2.2.2.2.d⟩) g2⟩
   ·exact⟨_,O,O,_,O,Em h4 (bS Pg)⟩
  rintro σ' H3 ⟨s3,rfl,x3,g3,h3⟩
  refine fP (t:=B8 _ _ _) (λσ' H'=>aC H H'/\σ'=[some (.ref t),some (.int n),some (.int w),some (.ref l)]/\∃y:oY,ya y/\H' l=some (.lst (lZ y))) ?_ (λgo=>?_)
  rotate_left
  ·have go2:=λy (gy:ya y)=>go _ _ ⟨aE (o:=HO.lst (lZ y)) hl s3,rfl,y,gy,aj⟩
   have Pg:=go _ _ ⟨s3,rfl,x3,g3,h3⟩
   have d3:=g3.q2;have d4:=g3.f2
   by_cases h4:w=4
   ·refine⟨_,O,O,_,O,RU h4 (⟨_,O,_,_,_,_,O,O,aM.of h3,O,_,O,_,_,_,_,O,O,aM.of h3,O,_,_,O,O,aay (show x3.2.1.length+x3.2.2.1.length<=100 by omega) 'c',O,_,O,S4 (λ_=>?_) (λ_=>Pg)⟩)⟩
    exact⟨_,O,_,_,_,_,O,O,aM.of h3,O,_,O,_,O,_,_,_,_,O,O,h3,O,go2 (x3.1,x3.2.1,x3.2.2.1,⟨x3.2.2.2.a,!x3.2.2.2.b,x3.2.2.2.c,x3.2.2.2.d⟩) g3⟩
   ·exact⟨_,O,O,_,O,Em h4 (bS Pg)⟩
  rintro σ' H4 ⟨s4,rfl,x4,g4,h4⟩
  refine fP (t:=B8 _ _ _) (λσ' H'=>aC H H'/\σ'=[some (.ref t),some (.int n),some (.int w),some (.ref l)]/\∃y:oY,ya y/\H' l=some (.lst (lZ y))) ?_ (λgo=>?_)
  rotate_left
  ·have go2:=λy (gy:ya y)=>go _ _ ⟨aE (o:=HO.lst (lZ y)) hl s4,rfl,y,gy,aj⟩
   have Pg:=go _ _ ⟨s4,rfl,x4,g4,h4⟩
   by_cases h5:4<w
   ·by_cases h6:w<9
    ·rcases(by omega:w=5\/w=6\/w=7\/w=8) with rfl|rfl|rfl|rfl
     ·exact⟨_,O,_,_,O,O,_,O,ye 'h' (⟨_,O,_,_,O,O,_,O,ye 'h' (⟨_,O,_,O,_,_,O,O,_,_,_,_,O,O,aM.of h4,O,_,O,_,O,_,O,_,_,O,O,_,_,_,_,O,O,h4,O,go2 (x4.1,x4.2.1,x4.2.2.1,⟨!x4.2.2.2.a,x4.2.2.2.b,x4.2.2.2.c,x4.2.2.2.d⟩) g4⟩)⟩)⟩
     ·exact⟨_,O,_,_,O,O,_,O,ye 'h' (⟨_,O,_,_,O,O,_,O,ye 'h' (⟨_,O,_,O,_,_,O,O,_,_,_,_,O,O,aM.of h4,O,_,O,_,O,_,O,_,_,O,O,_,_,_,_,O,O,h4,O,go2 (x4.1,x4.2.1,x4.2.2.1,⟨x4.2.2.2.a,!x4.2.2.2.b,x4.2.2.2.c,x4.2.2.2.d⟩) g4⟩)⟩)⟩
     ·exact⟨_,O,_,_,O,O,_,O,ye 'h' (⟨_,O,_,_,O,O,_,O,ye 'h' (⟨_,O,_,O,_,_,O,O,_,_,_,_,O,O,aM.of h4,O,_,O,_,O,_,O,_,_,O,O,_,_,_,_,O,O,h4,O,go2 (x4.1,x4.2.1,x4.2.2.1,⟨x4.2.2.2.a,x4.2.2.2.b,!x4.2.2.2.c,x4.2.2.2.d⟩) g4⟩)⟩)⟩
     ·exact⟨_,O,_,_,O,O,_,O,ye 'h' (⟨_,O,_,_,O,O,_,O,ye 'h' (⟨_,O,_,O,_,_,O,O,_,_,_,_,O,O,aM.of h4,O,_,O,_,O,_,O,_,_,O,O,_,_,_,_,O,O,h4,O,go2 (x4.1,x4.2.1,x4.2.2.1,⟨x4.2.2.2.a,x4.2.2.2.b,x4.2.2.2.c,!x4.2.2.2.d⟩) g4⟩)⟩)⟩
    ·exact⟨_,O,_,_,O,O,_,O,ye h5 (⟨_,O,_,_,O,O,_,O,iE h6 Pg⟩)⟩
   ·exact⟨_,O,_,_,O,O,_,O,iE h5 (bS Pg)⟩
  rintro σ' H5 ⟨s5,rfl,x5,g5,h5⟩
  have d1:=g5.p1;have d2:=g5.p3;have d3:=g5.q2;have d4:=g5.f2
  refine fP (t:=B8 _ _ _) (λσ' H'=>aC H H'/\σ'=[some (.ref t),some (.int n),some (.int w),some (.ref l)]/\∃y:oY,ya y/\H' l=some (.lst (lZ y))) ?_ (λgo=>?_)
  rotate_left
  ·refine⟨_,O,O,_,O,bP (λ_=>?_) (λ_=>go _ _ ⟨s5,O,x5,g5,h5⟩)⟩
   have c1:=wR (z:=x5.2.1) (n:=1) 'c'
   exact⟨_,O,l,_,_,_,O,O,aM.of h5,O,_,O,_,O,aay d3 'c',_,O,l,_,_,2,O,O,h5,O,go _ _ ⟨aE hl s5,O,(x5.1,x5.2.1,Txt.slice x5.2.1 none (some 1),x5.2.2.2),⟨g5.gp,g5.gq,CF g5.gq,d1,d2,d3,by show(Txt.slice x5.2.1 none (some 1)).length<=2;omega⟩,aj⟩⟩
  rintro σ' H6 ⟨s6,rfl,x6,g6,h6⟩
  have d1:=g6.p1;have d2:=g6.p3;have d3:=g6.q2;have d4:=g6.f2
  refine fP (t:=B8 _ _ _) (λσ' H'=>aC H H'/\σ'=[some (.ref t),some (.int n),some (.int w),some (.ref l)]/\∃y:oY,ya y/\H' l=some (.lst (lZ y))) ?_ (λgo=>?_)
  rotate_left
  ·refine⟨_,O,O,_,O,bP (λ_=>?_) (λ_=>go _ _ ⟨s6,O,x6,g6,h6⟩)⟩
   have c1:=wR (z:=x6.2.1) (n:=1) 'c'
   exact⟨_,O,l,_,_,_,O,O,aM.of h6,O,_,O,_,O,aay d3 'c',_,O,l,_,_,1,O,O,h6,O,go _ _ ⟨aE hl s6,O,(x6.1,Txt.slice x6.2.1 none (some 1),x6.2.2),⟨g6.gp,CF g6.gq,g6.gf,d1,d2,by show(Txt.slice x6.2.1 none (some 1)).length<=2;omega,d4⟩,aj⟩⟩
  rintro σ' H7 ⟨s7,rfl,x7,g7,h7⟩
  exact⟨_,O,l,_,O,.inl ⟨aM.of h7,λt2 Rx=>k t2 x7 _ g7 aj (s7.trans (aq Rx))⟩⟩
inductive pT(K:W.Frag)(vs:List V)(H:Hp)(Q:VK)(E_:XK):Prop where
 |mk (a:Addr) (ns:List Int) (m:Int):(vs=[.ref a,.int m])->(aM K H a (ns.map V.int))->(ns.length<=100)->(0<=m)->(m<=100)->(∀(l:Addr)(xs:List V)(cs:List oY) H',H l=none->H' l=some (.lst xs)->Aw H' xs cs->(∀x∈cs,ya x)->(cs.length:Int)=m->aC H H'->Q (.ref l) H')->pT K vs H Q E_
theorem yI:zzz T fu 4 43 ["_law_cells","_law_many"] (pT K):=by
 have iY:=lU T
 have lG:=pS T
 have ET:=Dj T
 have Dk:=Ba T
 refine T.rP.ok fq (λvs H Q E h=>?_) 'a'
 ·obtain⟨a,ns,m,rfl,_⟩:=h;rfl
 ·have hu:=bz hr
  have gK:=hr.aO
  obtain⟨a,ns,m,rfl,hS,hns,m0,m1,k⟩:=h
  refine⟨_,(ai (fB 2 fq.nd (bM ah))
   (ai (gv aa3 rfl (gn rfl T.eo (af (pv 1) ah)) (kC 3 fq.nd)
   (ai (fB 4 fq.nd (aD cX (fh iY hr T.mY T.iR.kp T.mX (af (pv 0) (af (aD bf (pv 3) (gm (HJ rfl) T.QY (af ak (af (gm (aJ K rfl) T.bQ (af (pv 0) ah)) ah)))) ah))) (aD gw ak (pv 3))))
   (ai (fB 5 fq.nd (fh lG hr T.rO T.lu.kp T.rN (af (pv 4) (af ak ah))))
   (ao (aK (PW.pt (lM (eN (Ek K rfl gK) (pv 2) (bM ah)) (kF (eN bg (aD bf (mj K (pv 5) ak) ak) ak)))) (ao (eF (fU K rfl aaP aaT aaU cN (pv 2) (af (fh Dk hr T.C5 T.uC.kp T.C4 (af (aD dI (pv 4) ak) ah)) ah)))) (ao (eF (fU K rfl aaP aaT aaU cN (pv 2) (af (fh ET hr T.EE T.xx.kp T.ED (af (mj K (pv 2) (aD bf (mj K (pv 5) ak) (gm (aJ K rfl) T.bQ (af (pv 2) ah)))) (af (aD dI (mj K (pv 5) ak) ak) ah))) ah)))))))))
   (ao (az (pv 2))))),?_⟩
  refine⟨by decide,λl hl=>?_⟩
  have s1:=aq (o:=HO.lst []) hl
  refine⟨_,O,_,O,by omega,by omega,?_⟩
  refine nW (λi σ H2=>aC H H2/\∃(xs:List V)(cs:List oY)(v1 v2 v3:Option V),σ=[some (.ref a),some (.int m),some (.ref l),v1,v2,v3]/\H2 l=some (.lst xs)/\Aw H2 xs cs/\(∀x∈cs,ya x)/\cs.length=i/\V.ref l∉xs) ⟨s1,[],[],_,_,_,rfl,aj,.nil,(λx q=>nomatch q),rfl,by simp⟩ ?_ ?_
  ·rintro i σ H2 hi ⟨s2,xs,cs,v1,v2,v3,rfl,h2,tp,gd,hc,hn⟩
   have hi:(i:Int)<m:=by omega
   have Zz:=s2.seq hS
   refine⟨_,O,_,O,_,O,a,_,O,.inl Zz,_,_,O,_,_,O,O,?_,?_⟩
   ·show(0:Int)<(if ((ns.map V.int).length:Int)>1 then ((ns.map V.int).length:Int) else 1)
    split<;>omega
   refine⟨a,ns,_,O,Zz,aaO _ ?_,λc=>?_⟩
   ·show(if ((ns.map V.int).length:Int)>1 then ((ns.map V.int).length:Int) else 1)≠0
    split<;>omega
   refine⟨_,O,_,_,O,O,.inl ⟨by decide,by decide⟩,_,_,O,O,?_⟩
   refine⟨_,O,_,_,O,by decide,by decide,λlx ds H3 hdl hd0 hlx h3 s3=>?_⟩
   have hdl:ds.length=2:=hdl
   obtain⟨e1,e2,rfl⟩:∃e1 e2,ds=[e1,e2]:=by
    cases ds with
    |nil=>cases hdl
    |cons a l=>cases l with
     |nil=>cases hdl
     |cons b l=>cases l with
      |nil=>exact⟨a,b,rfl⟩
      |cons c l=>simp at hdl
   have h23:=s3 _ _ h2
   have R7:=Aw.mono s3 tp
   have Rr:=R7.length
   have s23:=s2.trans s3
   have room:xs.length<sizeLine:=aaD (show xs.length<=100 by omega) 'c'
   have fin:∀(tt:Addr)(x:oY)(H4:Hp),aC H3 H4->H4 tt=some (.tup (lZ x))->ya x->∃l' xs' y,V.ref l=.ref l'/\[V.ref tt]=[y]/\H4 l'=some (.lst xs')/\xs'.length<sizeLine/\(aC H (upd H4 l' (.lst (xs'++[y])))/\∃(xs:List V)(cs:List oY)(v1 v2 v3:Option V),[some (.ref a),some (.int m),some (.ref l),some (.int (0+(i:Int))),some (.int (c+97*(0+(i:Int)))),some (.ref lx)]=[some (.ref a),some (.int m),some (.ref l),v1,v2,v3]/\(upd H4 l' (.lst (xs'++[y]))) l=some (.lst xs)/\Aw (upd H4 l' (.lst (xs'++[y]))) xs cs/\(∀x∈cs,ya x)/\cs.length=i+1/\V.ref l∉xs):=by
    intro tt x H4 s4 ht gx
    have MW:=s4 _ _ h23
    have ZA:tt≠l:=λq=>by rw[q,MW]at ht;cases ht
    refine⟨l,xs,.ref tt,O,O,MW,room,aE hl (s23.trans s4),xs++[.ref tt],cs++[x],_,_,_,O,aj,?_,?_,?_,?_⟩
    ·refine d8 (wU hn (Aw.mono s4 R7)) (.cons ⟨tt,rfl,(aB ZA).trans ht⟩ .nil)
    ·intro z hz
     rcases aaI.mp hz with q|q
     ·exact gd z q
     ·rw[aap.mp q];exact gx
    ·rw[aaJ];show cs.length+1=_;omega
    ·intro q
     rcases aaI.mp q with q|q
     ·exact hn q
     ·exact ZA (V.ref.inj (aap.mp q)).symm
   refine⟨_,O,by decide,λe he=>?_⟩
   have s4:=aq (o:=HO.lst []) he
   have MW:=s4 _ _ h23
   have Vh:=s4 _ _ h3
   have ZC:=Aw.mono s4 R7
   refine⟨l,e,xs,O,O,aM.of MW,aM.of aj,?_⟩
   generalize upd H3 e (.lst [])=H4 at s4 MW Vh ZC⊢
   refine⟨_,O,bP (λ_=>dh ?_) (λhne=>?_)⟩
   ·exact⟨_,O,.inl ⟨O,_,aM.of MW⟩,_,O,_,_,O,O,⟨by decide,by decide⟩,_,O,λt p q f b1 b2 b3 b4 H5 g ht h5 s5=>fin t (p,q,f,⟨b1,b2,b3,b4⟩) H5 (s4.trans s5) h5 g⟩
   refine⟨_,O,lx,_,_,_,O,O,aM.of Vh,O,_,_,O,O,(by show(0:Int)<4;decide),O,_,O,bP (λ_=>?_) (λ_=>?_)⟩
   ·exact⟨_,O,.inl ⟨O,_,aM.of MW⟩,_,O,_,_,O,O,⟨by decide,by decide⟩,_,O,λt p q f b1 b2 b3 b4 H5 g ht h5 s5=>fin t (p,q,f,⟨b1,b2,b3,b4⟩) H5 (s4.trans s5) h5 g⟩
   ·have pos:(0:Int)<xs.length:=by
     cases xs with
     |nil=>exact absurd rfl hne
     |cons x xs=>rw[aaA];omega
    have j0:=aaO e2 (show(xs.length:Int)≠0 by omega)
    have j1:=aaM e2 pos
    obtain⟨j,ej⟩:=Int.eq_ofNat_of_zero_le j0
    have hjl:j<xs.length:=by omega
    obtain⟨x,hx,tt,ett,U8⟩:=aS ZC j _ (aaR hjl)
    have hat:tE xs (e2 % (xs.length:Int))=some (.ref tt):=by
     rw[ej]
     exact eG (by rw[aaR hjl,ett])
    exact⟨_,O,.inl ⟨O,_,aM.of MW⟩,_,O,_,O,lx,_,_,_,O,O,aM.of Vh,O,_,O,l,_,O,.inl (aM.of MW),_,_,O,O,pos,l,_,_,.ref tt,O,O,aM.of MW,hat,_,O,lx,_,_,_,O,O,aM.of Vh,O,_,_,O,O,⟨by decide,by decide⟩,tt,_,x,O,U8,gd x (aau hx),λt2 y H5 gy h5 s5=>fin t2 y H5 (s4.trans s5) h5 gy⟩
  ·rintro σ H2 ⟨s2,xs,cs,v1,v2,v3,rfl,h2,tp,gd,hc,hn⟩
   exact⟨_,O,k l xs cs H2 hl h2 tp gd 'b' s2⟩
inductive rZ(K:W.Frag)(vs:List V)(H:Hp)(Q:VK)(E_:XK):Prop where
 |mk (l:Addr) (xs:List V) (cs:List oY):(vs=[.ref l])->(H l=some (.lst xs))->(Aw H xs cs)->((∀x∈cs,ya x))->(cs.length<=101)->(∀z:Str,d9 z->1<=z.length->z.length<=1000->Q (.str z) H)->rZ K vs H Q E_
theorem Bc:zzz T fu 1 44 ["_law_tolds_here"] (rZ K):=by
 refine T.uD.ok fX (λvs H Q E h=>?_) 'a'
 ·obtain⟨l,xs,cs,rfl,_⟩:=h;rfl
 ·have hu:=bz hr
  obtain⟨l,xs,cs,rfl,hl,tp,gd,hc,k⟩:=h
  have Rr:=tp.length
  refine⟨_,(ai (fB 1 fX.nd ay)
   (ai (gv aa3 rfl (di K rfl (pv 0)) (kC 2 fX.nd)
   (ao (gv aa3 rfl (Ak (aD fE (aD fE (uA K (pv 2) ak) (uA K (pv 2) ak)) (uA K (pv 2) ak))) (kC 3 fX.nd)
   (ao (aK (eN ur (fU K rfl PySem.F.plainAttrs_str PySem.F.slot_str_count PySem.F.type_str_count Cg (pv 1) (af (pv 3) ah)) ak) (ao (fB 1 fX.nd (aD fE (pv 1) (pv 3)))) aA)))))
   (ao (az (pv 1))))),?_⟩
  refine⟨_,O,l,O,⟨_,aM.of hl⟩,?_⟩
  have m0:d9 (Str.ofString "\n\nab \n"):=(by decide +kernel:∀c∈(Str.ofString "\n\nab \n").cps.toList,c=10\/Pn c)
  have m1:(Str.ofString "\n\nab \n").length=6:=by decide +kernel
  refine qO (K:=K) (a:=l) (xs:=xs) (λi σ H2=>H2=H/\∃(z:Str)(v1 v2:Option V),σ=[some (.ref l),some (.str z),v1,v2]/\d9 z/\1<=z.length/\z.length<=6+7*i) ⟨rfl,_,_,_,rfl,m0,by omega,by omega⟩ (λi σ H2 _ q=>by rw[q.1];exact aM.of hl) ?_ ?_
  ·rintro i e σ H2 hi ⟨rfl,z,v1,v2,rfl,z1,z2,z3⟩
   obtain⟨x,hx,t,rfl,ht⟩:=aS tp i e hi
   have hil:i<xs.length:=(aaj.mp hi).1
   have g:=gd x (aau hx)
   have hp3:=g.p3;have hq2:=g.q2;have hf2:=g.f2
   have hS:bR K H2 t (lZ x):=bR.of ht
   have sl1:=oh x.1 x.2.1
   have sl2:=oh (x.1++x.2.1) x.2.2.1
   refine⟨_,O,t,_,_,_,O,O,hS,O,_,O,t,_,_,_,O,O,hS,O,_,_,O,O,aay (show x.1.length+x.2.1.length<=5 by omega) 'c',_,O,t,_,_,_,O,O,hS,O,_,_,O,O,aay (show(x.1++x.2.1).length+x.2.2.1.length<=7 by omega) 'c',_,O,?_⟩
   have szl:((x.1++x.2.1)++x.2.2.1).cps.toList.length<=7:=by
    rw[aaE];show((x.1++x.2.1)++x.2.2.1).length<=7;omega
   refine GV (z:=(x.1++x.2.1)++x.2.2.1) (λj σ H3=>H3=H2/\∃(z:Str)(v2:Option V),σ=[some (.ref l),some (.str z),some (.ref t),v2]/\d9 z/\1<=z.length/\z.length<=6+7*i+j) ⟨rfl,z,_,rfl,z1,z2,by omega⟩ ?_ ?_
   ·rintro j c σ H3 hj ⟨rfl,y,v3,rfl,y1,y2,y3⟩
    have hjl:=(aaj.mp hj).1
    have hc:c=10\/Pn c:=by
     have hm:=aau hj
     rw[app_list,app_list]at hm
     rcases aaI.mp hm with hm|hm
     ·rcases aaI.mp hm with hm|hm
      ·exact .inr (g.gp.pr c hm)
      ·exact .inr (g.gq.pr c hm)
     ·exact .inr (g.gf.pr c hm)
    refine⟨_,O,O,_,O,_,_,O,O,_,_,O,O,_,O,bP (λ_=>?_) (λ_=>⟨O,y,_,O,y1,y2,by omega⟩)⟩
    have al:=oh y (sg c)
    have c1:(sg c).length=1:=rfl
    refine⟨_,O,_,O,_,_,O,O,aay (show y.length+(sg c).length<=1000 by omega) 'c',O,y++sg c,_,O,?_,by omega,by omega⟩
    intro d hd
    rw[app_list]at hd
    rcases aaI.mp hd with q|q
    ·exact y1 d q
    ·rw[aap.mp (show d∈[c]from q)];exact hc
   ·rintro σ H3 ⟨rfl,y,v3,rfl,y1,y2,y3⟩
    exact⟨O,y,_,_,O,y1,y2,by omega⟩
  ·rintro σ H2 ⟨rfl,z,v1,v2,rfl,z1,z2,z3⟩
   exact⟨_,O,k z z1 z2 'b'⟩
inductive r8(K:W.Frag)(vs:List V)(H:Hp)(Q:VK)(E_:XK):Prop where
 |mk (c m:Int) (l:Addr) (xs:List V) (cs:List oY):(vs=[.int c,.ref l,.int m])->(H l=some (.lst xs))->(Aw H xs cs)->((∀x∈cs,ya x))->(cs.length<=101)->(0<=m)->(m<=100)->(∀(z:Str) H',d9 z->(z.length:Int)<=m+1->aC H H'->Q (.str z) H')->r8 K vs H Q E_
theorem Bd:zzz T fu 3 45 ["_law_cell","_law_tolds_here","_law_most"] (r8 K):=by
 have lG:=pS T
 have Dm:=Bc T
 refine T.uE.ok fY (λvs H Q E h=>?_) 'a'
 ·obtain⟨c,m,l,xs,cs,rfl,_⟩:=h;rfl
 ·have hu:=bz hr
  obtain⟨c,m,l,xs,cs,rfl,hl,tp,gd,hc,m0,m1,k⟩:=h
  refine⟨_,(ai (fB 3 fY.nd (fh lG hr T.rO T.lu.kp T.rN (af (pv 0) (af (aD cX (pv 2) ak) ah))))
   (ai (fB 4 fY.nd (fh Dm hr T.C7 T.uD.kp T.C6 (af (pv 1) ah)))
   (ai (fB 5 fY.nd (fU K rfl PySem.F.plainAttrs_str PySem.F.slot_str_join PySem.F.type_str_join (KU K rfl) ay (af (iz rfl (show aT ["_law_cell","_law_tolds_here","_law_most","_law_xs","_law_menu_here","_law_text_here"] (au jh) ["_law_x","_law_menu_here"] 1 [4] _ from CA) (di K rfl (jY (qR K rfl) (pv 3) (iy ak) (iy (aD cX ak (aD bf (mj K (pv 3) ak) (aD cX (pv 2) ak)))))) (λ_ _ _ _=>(kC 0 (show(["_law_x","_law_menu_here"]:List Str).Nodup by decide +kernel))) (λ_ _ _ _=>cJ) (λ_ _ _ _=>(GS KI (pv 1) (aD bf (pv 0) (gm eH T.bQ (af (pv 1) ah))) (λ_ _=>rfl)))) ah)))
   (ai (aK (eN qP (aD bf (mj K (pv 3) ak) ak) ak) (ao (fB 5 fY.nd (aD fE (pv 5) ay))) aA)
   (ao (az (pv 5))))))),?_⟩
  refine⟨_,O,_,O,_,_,O,O,_,_,O,by omega,by omega,λlx ds H1 hdl hd0 hlx h1 s1=>?_⟩
  refine⟨_,O,l,xs,cs,O,s1 _ _ hl,Aw.mono s1 tp,gd,hc,λmz y1 y2 y3=>?_⟩
  have hdl:ds.length=(m+2).toNat:=hdl
  obtain⟨e0,e1,ds',rfl⟩:∃e0 e1 ds',ds=e0::e1::ds':=by
   cases ds with
   |nil=>simp at hdl;omega
   |cons a l=>cases l with
    |nil=>simp at hdl;omega
    |cons b l=>exact⟨a,b,l,rfl⟩
  have Hy:tE ((e0::e1::ds').map V.int) 0=some (.int e0):=(show tE _ ((0:Nat):Int)=_ from eG rfl)
  have Zx:tE ((e0::e1::ds').map V.int) 1=some (.int e1):=(show tE _ ((1:Nat):Int)=_ from eG rfl)
  have hml:mz.length<=sizeLine:=aay y3 'c'
  refine⟨O,_,O,_,O,_,O,lx,_,_,_,O,O,aM.of h1,Hy,_,O,_,_,O,O,_,_,O,O,(by show 0<m+1;omega),_,_,O,O,_,O,lx,_,O,aM.of h1,λp hp=>?_⟩
  generalize ZD:tD ((e0::e1::ds').map V.int) (some 2) _=cv at hp⊢
  have hcl:(cv.length:Int)<=m:=by
   rw[←ZD]
   have q:=Io (xs:=(e0::e1::ds').map V.int) (hi:=some (2+e0 % (m+1))) (by rw[aak,aaA,aaA];omega)
   rw[aak,hdl]at q
   omega
  have hci:∀v∈cv,∃n:Int,v=.int n:=λv hv=>by
   rw[←ZD]at hv
   obtain⟨n,_,rfl⟩:=List.mem_map.mp (List.mem_of_mem_drop (List.mem_of_mem_take hv))
   exact⟨n,O⟩
  have s2:=aq (o:=HO.lst cv) hp
  have h2:(upd H1 p (.lst cv)) p=some (.lst cv):=aj
  have h12:=s2 _ _ h1
  have s12:=s1.trans s2
  generalize upd H1 p (.lst cv)=H2 at s2 h2 h12 s12⊢
  refine⟨p,O,⟨_,aM.of h2⟩,λD hD=>?_⟩
  refine fO (K:=K) (a:=p) (xs:=cv) (λi ys τ H3=>(∃v,τ=[v,some (.str mz)])/\aC H2 H3/\H3 D=some (.lst ys)/\∃zs:List Str,ys=zs.map V.str/\zs.length=i/\∀z∈zs,d9 z/\z.length<=1) ⟨⟨_,rfl⟩,aq hD,aj,[],rfl,rfl,λz q=>nomatch q⟩ (λi ys τ H3 _ q=>⟨aM.of (q.2.1 _ _ h2),q.2.2.1⟩) ?_ ?_
  ·rintro i e ys τ H3 hi ⟨⟨v,rfl⟩,s3,Uo,zs,rfl,yx,hzs⟩
   have hil:i<cv.length:=(aaj.mp hi).1
   obtain⟨n,rfl⟩:=hci e (aau hi)
   have hlen:mz.cps.toList.length=mz.length:=by rw[aaE];rfl
   obtain⟨d,ed,hd⟩:=As (xs:=mz.cps.toList) (aaO n (show(mz.length:Int)≠0 by omega)) (by rw[hlen];exact aaM n 'b')
   refine qq ?_
   refine⟨_,O,_,O,_,O,mz,O,hml,_,_,O,O,(by show(0:Int)<(mz.length:Int);omega),mz,_,d,O,O,hml,ed,Uo,?_,⟨_,O⟩,aE hD s3,aj,zs++[sg d],?_,?_,?_⟩
   ·rw[aak];exact aaD (show zs.length<=102 by omega) 'c'
   ·rw[aaF];rfl
   ·rw[aaJ,yx];rfl
   ·intro z hz
    rcases aaI.mp hz with q|q
    ·exact hzs z q
    ·rw[aap.mp q]
     exact⟨λb hb=>by rw[aap.mp (show b∈[d]from hb)];exact y1 d hd,aan _⟩
  rintro ys τ H3 ⟨⟨v,rfl⟩,s3,Uo,zs,rfl,yx,hzs⟩
  have sl:=NY (zs:=zs) (m:=1) λz hz=>(hzs z hz).2
  have fl:=QC (zs:=zs) (m:=1) λz hz=>(hzs z hz).2
  have jl:=join_list zs
  have jn:((Txt.join ("":Str) zs).length:Int)<=m:=by
   have:=congrArg List.length jl
   rw[aaE]at this
   have:(Txt.join ("":Str) zs).length=_:=this
   omega
  have jo:d9 (Txt.join ("":Str) zs):=λb hb=>by
   rw[jl]at hb
   obtain⟨z,hz,hb⟩:=List.mem_flatMap.mp hb
   exact(hzs z hz).1 b hb
  refine⟨_,D,zs,O,O,aM.of Uo,by omega,?_⟩
  have h13:=s3 _ _ h12
  have ZE:=s12.trans s3
  refine⟨_,O,lx,_,_,_,O,O,aM.of h13,Zx,_,_,O,O,(by show(0:Int)<3;decide),_,_,O,O,_,O,bP (λ_=>?_) (λ_=>⟨_,O,k _ H3 jo 'b' ZE⟩)⟩
  have nl1:(Str.ofString "\n").length=1:=by decide +kernel
  have al:=oh (Txt.join ("":Str) zs) (Str.ofString "\n")
  refine⟨_,O,_,_,O,O,aay (show(Txt.join ("":Str) zs).length+(Str.ofString "\n").length<=200 by omega) 'c',_,O,k _ H3 (λb hb=>?_) 'b' ZE⟩
  rw[app_list]at hb
  rcases aaI.mp hb with q|q
  ·exact jo b q
  ·rw[Zh]at q;exact .inl (aap.mp q)
inductive pU(K:W.Frag)(Ds:List Addr)(vs:List V)(H:Hp)(Q:VK)(E_:XK):Prop where
 |mk (ea C B:Addr) (f:Nat->Bool):(vs=[.ref ea])->(MQ H ea C)->(U4 K C B Ds f)->(∀l H',aC H H'->H' l=some (.lst ((List.range 11).map λj=>.bl (f j)))->Q (.ref l) H')->pU K Ds vs H Q E_
theorem yJ:Lr P w K mg base 1 (av 46) (aN 46) ["_law_e"] (pU K [(av 54),(av 56),(av 58),(av 60),(av 62),(av 64),(av 66),(av 68),(av 70),(av 72),(av 74)]):=by
 refine T.ly.okM jN (λvs H Q E h=>?_) 'a'
 ·obtain⟨ea,C,B,f,rfl,_⟩:=h;rfl
 ·have hu:=hr.hu
  obtain⟨ea,C,B,f,rfl,xo,x1,k⟩:=h
  obtain⟨⟨N,bm,ini,xc,tl⟩,xk,ask,_,_⟩:=x1
  refine⟨_,(ai (fB 1 jN.nd (bM (af (gm (cP rfl) T.aG (af (pv 0) (af (cK rfl T.Dd) ah))) (af (gm (cP rfl) T.aG (af (pv 0) (af (cK rfl T.IC) ah))) (af (gm (cP rfl) T.aG (af (pv 0) (af (cK rfl T.De) ah))) (af (gm (cP rfl) T.aG (af (pv 0) (af (cK rfl T.EH) ah))) ah))))))
   (ai (fB 1 jN.nd (aD Eg (pv 1) (bM (af (gm (cP rfl) T.aG (af (pv 0) (af (cK rfl T.LY) ah))) (af (gm (cP rfl) T.aG (af (pv 0) (af (cK rfl T.Od) ah))) (af (gm (cP rfl) T.aG (af (pv 0) (af (cK rfl T.Oe) ah))) (af (gm (cP rfl) T.aG (af (pv 0) (af (cK rfl T.LZ) ah))) ah)))))))
   (ao (az (aD Eg (pv 1) (bM (af (gm (cP rfl) T.aG (af (pv 0) (af (cK rfl T.oi) ah))) (af (gm (cP rfl) T.aG (af (pv 0) (af (cK rfl T.L5) ah))) (af (gm (cP rfl) T.aG (af (pv 0) (af (cK rfl T.Df) ah))) ah))))))))),?_⟩
  refine⟨_,O,ea,C,N,bm,ini,_,f 0,O,xo,xc,tl,xk,.inr ⟨_,O,ask 0 _ rfl⟩,_,O,ea,C,N,bm,ini,_,f 1,O,xo,xc,tl,xk,.inr ⟨_,O,ask 1 _ rfl⟩,_,O,ea,C,N,bm,ini,_,f 2,O,xo,xc,tl,xk,.inr ⟨_,O,ask 2 _ rfl⟩,_,O,ea,C,N,bm,ini,_,f 3,O,xo,xc,tl,xk,.inr ⟨_,O,ask 3 _ rfl⟩,(by show(4:Nat)<=sizeLine;decide),λl1 h1=>?_⟩
  have e1:(upd H l1 (.lst [.bl (f 0),.bl (f 1),.bl (f 2),.bl (f 3)])) l1=some (.lst [.bl (f 0),.bl (f 1),.bl (f 2),.bl (f 3)]):=aj
  have s1:=aq (o:=HO.lst [.bl (f 0),.bl (f 1),.bl (f 2),.bl (f 3)]) h1
  generalize upd H l1 (.lst [.bl (f 0),.bl (f 1),.bl (f 2),.bl (f 3)])=H1 at e1 s1⊢
  have Up:=xo.mono s1
  refine⟨_,O,_,O,ea,C,N,bm,ini,_,f 4,O,Up,xc,tl,xk,.inr ⟨_,O,ask 4 _ rfl⟩,_,O,ea,C,N,bm,ini,_,f 5,O,Up,xc,tl,xk,.inr ⟨_,O,ask 5 _ rfl⟩,_,O,ea,C,N,bm,ini,_,f 6,O,Up,xc,tl,xk,.inr ⟨_,O,ask 6 _ rfl⟩,_,O,ea,C,N,bm,ini,_,f 7,O,Up,xc,tl,xk,.inr ⟨_,O,ask 7 _ rfl⟩,(by show(4:Nat)<=sizeLine;decide),λl2 h2=>?_⟩
  have e2:(upd H1 l2 (.lst [.bl (f 4),.bl (f 5),.bl (f 6),.bl (f 7)])) l2=some (.lst [.bl (f 4),.bl (f 5),.bl (f 6),.bl (f 7)]):=aj
  have s2:=aq (o:=HO.lst [.bl (f 4),.bl (f 5),.bl (f 6),.bl (f 7)]) h2
  generalize upd H1 l2 (.lst [.bl (f 4),.bl (f 5),.bl (f 6),.bl (f 7)])=H2 at e2 s2⊢
  refine⟨l1,l2,_,_,O,O,s2 _ _ e1,e2,(by show(8:Nat)<=sizeLine;decide),λl3 h3=>?_⟩
  have e3:(upd H2 l3 (.lst ([.bl (f 0),.bl (f 1),.bl (f 2),.bl (f 3)]++[.bl (f 4),.bl (f 5),.bl (f 6),.bl (f 7)]))) l3=some (.lst ([.bl (f 0),.bl (f 1),.bl (f 2),.bl (f 3)]++[.bl (f 4),.bl (f 5),.bl (f 6),.bl (f 7)])):=aj
  have s3:=aq (o:=HO.lst ([.bl (f 0),.bl (f 1),.bl (f 2),.bl (f 3)]++[.bl (f 4),.bl (f 5),.bl (f 6),.bl (f 7)])) h3
  generalize upd H2 l3 (.lst ([.bl (f 0),.bl (f 1),.bl (f 2),.bl (f 3)]++[.bl (f 4),.bl (f 5),.bl (f 6),.bl (f 7)]))=H3 at e3 s3⊢
  have Xw:=(Up.mono s2).mono s3
  refine⟨_,O,_,O,ea,C,N,bm,ini,_,f 8,O,Xw,xc,tl,xk,.inr ⟨_,O,ask 8 _ rfl⟩,_,O,ea,C,N,bm,ini,_,f 9,O,Xw,xc,tl,xk,.inr ⟨_,O,ask 9 _ rfl⟩,_,O,ea,C,N,bm,ini,_,f 10,O,Xw,xc,tl,xk,.inr ⟨_,O,ask 10 _ rfl⟩,(by show(3:Nat)<=sizeLine;decide),λl4 h4=>?_⟩
  have e4:(upd H3 l4 (.lst [.bl (f 8),.bl (f 9),.bl (f 10)])) l4=some (.lst [.bl (f 8),.bl (f 9),.bl (f 10)]):=aj
  have s4:=aq (o:=HO.lst [.bl (f 8),.bl (f 9),.bl (f 10)]) h4
  generalize upd H3 l4 (.lst [.bl (f 8),.bl (f 9),.bl (f 10)])=H4 at e4 s4⊢
  refine⟨l3,l4,_,_,O,O,s4 _ _ e3,e4,(by show(11:Nat)<=sizeLine;decide),λl5 h5=>?_⟩
  exact k l5 _ ((((s1.trans s2).trans s3).trans s4).trans (aq h5)) aj
inductive lV(K:W.Frag)(C:Addr)(vs:List V)(H:Hp)(Q:VK)(E_:XK):Prop where
 |mk (ld lt:Addr) (xs ws:List V) (cs:List oY):(vs=[.ref ld,.ref lt])->(H ld=some (.lst xs))->(wQ C H xs cs)->((∀c∈cs,ya c))->(cs.length<=100)->(H lt=some (.lst ws))->((∀v∈ws,BY H v/\(∀z,v=.str z->z.length<=10000)))->(∀H',aC H H'->Q (.str (dS (jc xs.length ws))) H')->lV K C vs H Q E_
theorem vz:zzz T fu 22 47 ["_law_dialects","_law_texts"] (lV K (av 50)):=by
 have sd:=yJ T
 have Ow:=Ma T
 have IG:=ES T
 refine T.iS.ok fD (λvs H Q E h=>?_) 'a'
 ·obtain⟨ld,lt,xs,ws,cs,rfl,_⟩:=h;rfl
 ·have hu:=bz hr
  obtain⟨ld,lt,xs,ws,cs,rfl,hd,mk,gd,hc,hw,hk,k⟩:=h
  have EN:=hr.units
  refine⟨_,(ai (NH rfl rfl (Lh (NG (i:=2) fD.nd rfl (by first|exact Or.inl rfl|exact Or.inr rfl) (Lg (k:=11) IG (hr.mono 'c') rfl T.Iz T.zO.kp T.Iw .nil (af (pv 0) (af (pv 1) ah))))) (O2 (i:=3) rfl rfl T.oi T.cz (.inr ⟨_,_,rfl,T.aR⟩) fD.nd rfl rfl (λea=>(ai (aK (PW.pt (fR (bO (gm (cP rfl) T.aG (af (pv 3) (af (J8 "ValueError" T.pG) ah)))) (dH (eN (KZ K rfl EN) (Cv (k:=1) sd ((hr.mono 'c').m.mark _) rfl T.rR T.ly.kp T.rQ (af (pv 3) ah)) (Cu (G:=Hd ea) (λ_ _ _ _=>rfl) (show aT ["_law_dialects","_law_texts","_law_tree","_law_e"] (au dZ) ["_law_k"] 1 [] _ from CA) (zD (ea:=ea) rfl T.eo (af ak ah)) (λ_ _ _ _=>(kC 0 Wu)) (λ_ _ _ _=>cJ) (λ_ _ _ _=>(BX bg (pv 0) ak))))))) (ao (az (mj K (bM (af ay (af ay (af ay ah)))) (aD cX (Tq zg T.EI (af (BX bg (G7 T.cz (.inr ⟨_,_,rfl,T.aR⟩) T.gX (pv 3) rfl) ak) ah)) (aD gw ak (Tq zg T.EI (af (BX bg (G7 T.cz (.inr ⟨_,_,rfl,T.aR⟩) T.gX (pv 3) rfl) ak) ah))))))) aA)
   (ao (az ay)))) (O2 (i:=3) rfl rfl T.m8 T.aR (.inl rfl) fD.nd rfl rfl (λea=>(ai (aK (PW.pt (fR (bO (gm (cP rfl) T.aG (af (pv 3) (af (J8 "ValueError" T.pG) ah)))) (dH (eN (KZ K rfl EN) (Cv (k:=1) sd ((hr.mono 'c').m.mark _) rfl T.rR T.ly.kp T.rQ (af (pv 3) ah)) (Cu (G:=Hd ea) (λ_ _ _ _=>rfl) (show aT ["_law_dialects","_law_texts","_law_tree","_law_e"] (au dZ) ["_law_k"] 1 [] _ from CA) (zD (ea:=ea) rfl T.eo (af ak ah)) (λ_ _ _ _=>(kC 0 Wu)) (λ_ _ _ _=>cJ) (λ_ _ _ _=>(BX bg (pv 0) ak))))))) (ao (az ay)) aA)
   (ao (az ay)))) Qk)) aA)
   (ai (aK (eN Qd (fh Ow hr T.Oc T.Hu.kp T.Ob (af (pv 0) (af (pv 1) (af (pv 2) ah)))) jX) (ao (az ay)) aA)
   (ao (az ay)))),?_⟩
  refine⟨_,O,_,O,ld,lt,xs,ws,cs,O,hd,mk,gd,hc,hw,hk,?_,?_,?_,?_⟩
  ·intro h0 d H1 hd0 hxd s1 ea oV
   rw[h0]at k
   have xq:U4 K (av 70) (av 52) [(av 54),(av 56),(av 58),(av 60),(av 62),(av 64),(av 66),(av 68),(av 70),(av 72),(av 74)] (λj=>decide ((j:Int)=8)):=⟨⟨_,_,_,T.cz,(.inr ⟨_,_,rfl,T.aR⟩)⟩,T.lB,(λj D hj=>match j,hj with | 0,hj=>by obtain rfl:(av 54)=D:=aah hj;exact T.dO | 1,hj=>by obtain rfl:(av 56)=D:=aah hj;exact T.c7 | 2,hj=>by obtain rfl:(av 58)=D:=aah hj;exact T.cF | 3,hj=>by obtain rfl:(av 60)=D:=aah hj;exact T.cL | 4,hj=>by obtain rfl:(av 62)=D:=aah hj;exact T.dP | 5,hj=>by obtain rfl:(av 64)=D:=aah hj;exact T.eV | 6,hj=>by obtain rfl:(av 66)=D:=aah hj;exact T.eX | 7,hj=>by obtain rfl:(av 68)=D:=aah hj;exact T.dQ | 8,hj=>by obtain rfl:(av 70)=D:=aah hj;exact T.c9 | 9,hj=>by obtain rfl:(av 72)=D:=aah hj;exact T.dR | 10,hj=>by obtain rfl:(av 74)=D:=aah hj;exact T.cG | (j+11),hj=>by simp at hj),T.bT,T.gE⟩
   refine⟨(av 70),(av 71),_,_,O,T.cz,wN (by simp) ?_⟩
   have he:(upd H1 ea (Am ea (.ref (av 70)) (some d))) ea=some (Am ea (.ref (av 70)) (some d)):=aj
   have s2:=aq (o:=Am ea (.ref (av 70)) (some d)) oV
   generalize upd H1 ea (Am ea (.ref (av 70)) (some d))=H2 at he s2⊢
   have xo:MQ H2 ea (av 70):=⟨_,.inr he,.inr ⟨d,_,rfl,s2 _ _ hxd⟩⟩
   refine⟨_,O,ea,(av 70),_,_,_,_,true,O,xo,T.cz,(.inr ⟨_,_,O,T.aR⟩),T.lB,.inl ⟨_,O,T.gE⟩,true,O,dh ?_⟩
   refine⟨_,O,ea,(av 70),(av 52),_,O,xo,xq,λl H3 s3 hl=>?_⟩
   refine⟨_,O,by decide,by decide,λD hD=>?_⟩
   refine mF (λi ys τ H4=>(∃v,τ=[v])/\aC H3 H4/\H4 D=some (.lst ys)/\ys=(List.range i).map λj:Nat=>V.bl (decide ((j:Int)=8))) ⟨⟨_,rfl⟩,aq hD,aj,rfl⟩ (λi ys τ H4 _ p=>p.2.2.1) ?_ ?_
   ·rintro i ys τ H4 hi ⟨⟨v,rfl⟩,s4,EU,rfl⟩
    have hi:i<11:=hi
    refine qq ?_
    refine⟨_,O,O,EU,?_,⟨_,O⟩,aE hD s4,aj,?_⟩
    ·rw[aak,abq];exact aav hi 'c'
    rw[List.range_succ,aaF]
    show _++[V.bl (decide (V.int (0+(i:Int))=V.int 8))]=_++[V.bl (decide ((i:Int)=8))]
    rw[Int.zero_add,Az]
   rintro ys τ H4 ⟨_,s4,EU,rfl⟩
   have sX:=s1.trans (s2.trans (s3.trans s4))
   refine⟨⟨_,_,(s3.trans s4) _ _ he⟩,⟨1,l,D,_,_,O,O,by decide,O,.inr ⟨aM.of (s4 _ _ hl),aM.of EU⟩,same_self ?_⟩,_,O,dh ?_⟩
   ·rw[abo,aaB];exact λ_ _=>rfl
   have Uq:=(s3.trans s4) _ _ he
   have Ur:=(s2.trans (s3.trans s4)) _ _ hxd
   refine⟨'c',λp hp=>⟨_,O,_,_,_,_,O,(aq hp _ _ Uq),(aq hp _ _ Ur),O,O,.inr (⟨_,O,_,O,_,_,_,_,O,(aq hp _ _ Uq),(aq hp _ _ Ur),O,O,.inr (⟨_,O,_,_,O,O,.inl ⟨'b','b'⟩,_,_,O,O,_,_,_,_,O,O,aM.of aj,O,k _ (aE (sX.free hp) sX)⟩)⟩)⟩⟩
  ·intro h0 d H1 hd0 hxd s1 ea oV
   rw[h0]at k
   have xq:U4 K (av 70) (av 52) [(av 54),(av 56),(av 58),(av 60),(av 62),(av 64),(av 66),(av 68),(av 70),(av 72),(av 74)] (λj=>decide ((j:Int)=8)):=⟨⟨_,_,_,T.cz,(.inr ⟨_,_,rfl,T.aR⟩)⟩,T.lB,(λj D hj=>match j,hj with | 0,hj=>by obtain rfl:(av 54)=D:=aah hj;exact T.dO | 1,hj=>by obtain rfl:(av 56)=D:=aah hj;exact T.c7 | 2,hj=>by obtain rfl:(av 58)=D:=aah hj;exact T.cF | 3,hj=>by obtain rfl:(av 60)=D:=aah hj;exact T.cL | 4,hj=>by obtain rfl:(av 62)=D:=aah hj;exact T.dP | 5,hj=>by obtain rfl:(av 64)=D:=aah hj;exact T.eV | 6,hj=>by obtain rfl:(av 66)=D:=aah hj;exact T.eX | 7,hj=>by obtain rfl:(av 68)=D:=aah hj;exact T.dQ | 8,hj=>by obtain rfl:(av 70)=D:=aah hj;exact T.c9 | 9,hj=>by obtain rfl:(av 72)=D:=aah hj;exact T.dR | 10,hj=>by obtain rfl:(av 74)=D:=aah hj;exact T.cG | (j+11),hj=>by simp at hj),T.bT,T.gE⟩
   refine⟨(av 70),(av 71),_,_,O,T.cz,wN (by simp) ?_⟩
   have he:(upd H1 ea (Am ea (.ref (av 70)) (some d))) ea=some (Am ea (.ref (av 70)) (some d)):=aj
   have s2:=aq (o:=Am ea (.ref (av 70)) (some d)) oV
   generalize upd H1 ea (Am ea (.ref (av 70)) (some d))=H2 at he s2⊢
   have xo:MQ H2 ea (av 70):=⟨_,.inr he,.inr ⟨d,_,rfl,s2 _ _ hxd⟩⟩
   refine⟨_,O,ea,(av 70),_,_,_,_,true,O,xo,T.cz,(.inr ⟨_,_,O,T.aR⟩),T.lB,.inl ⟨_,O,T.gE⟩,true,O,dh ?_⟩
   refine⟨_,O,ea,(av 70),(av 52),_,O,xo,xq,λl H3 s3 hl=>?_⟩
   refine⟨_,O,by decide,by decide,λD hD=>?_⟩
   refine mF (λi ys τ H4=>(∃v,τ=[v])/\aC H3 H4/\H4 D=some (.lst ys)/\ys=(List.range i).map λj:Nat=>V.bl (decide ((j:Int)=8))) ⟨⟨_,rfl⟩,aq hD,aj,rfl⟩ (λi ys τ H4 _ p=>p.2.2.1) ?_ ?_
   ·rintro i ys τ H4 hi ⟨⟨v,rfl⟩,s4,EU,rfl⟩
    have hi:i<11:=hi
    refine qq ?_
    refine⟨_,O,O,EU,?_,⟨_,O⟩,aE hD s4,aj,?_⟩
    ·rw[aak,abq];exact aav hi 'c'
    rw[List.range_succ,aaF]
    show _++[V.bl (decide (V.int (0+(i:Int))=V.int 8))]=_++[V.bl (decide ((i:Int)=8))]
    rw[Int.zero_add,Az]
   rintro ys τ H4 ⟨_,s4,EU,rfl⟩
   have sX:=s1.trans (s2.trans (s3.trans s4))
   refine⟨⟨_,_,(s3.trans s4) _ _ he⟩,⟨1,l,D,_,_,O,O,by decide,O,.inr ⟨aM.of (s4 _ _ hl),aM.of EU⟩,same_self ?_⟩,_,O,dh ?_⟩
   ·rw[abo,aaB];exact λ_ _=>rfl
   have Uq:=(s3.trans s4) _ _ he
   have Ur:=(s2.trans (s3.trans s4)) _ _ hxd
   refine⟨'c',λp hp=>⟨_,O,_,_,_,_,O,(aq hp _ _ Uq),(aq hp _ _ Ur),O,O,.inr (⟨_,O,_,O,_,_,_,_,O,(aq hp _ _ Uq),(aq hp _ _ Ur),O,O,.inr (⟨_,O,_,_,O,O,.inl ⟨'b','b'⟩,_,_,O,O,_,_,_,_,O,O,aM.of aj,O,k _ (aE (sX.free hp) sX)⟩)⟩)⟩⟩
  ·intro h0 H1 s1 ea oV
   rw[h0]at k
   have m1:(av 70)≠(av 54):=λe=>by have h:=T.cE;rw[e,T.eU]at h;cases h
   have m2:(av 70)≠(av 52):=λe=>by have h:=T.cE;rw[e,T.cj]at h;cases h
   have xq:U4 K (av 54) (av 52) [(av 54),(av 56),(av 58),(av 60),(av 62),(av 64),(av 66),(av 68),(av 70),(av 72),(av 74)] (λj=>decide ((j:Int)=0)):=⟨⟨_,_,_,T.m9,(.inr ⟨_,_,rfl,T.aR⟩)⟩,T.zP,(λj D hj=>match j,hj with | 0,hj=>by obtain rfl:(av 54)=D:=aah hj;exact T.eU | 1,hj=>by obtain rfl:(av 56)=D:=aah hj;exact T.fZ | 2,hj=>by obtain rfl:(av 58)=D:=aah hj;exact T.e9 | 3,hj=>by obtain rfl:(av 60)=D:=aah hj;exact T.fK | 4,hj=>by obtain rfl:(av 62)=D:=aah hj;exact T.gB | 5,hj=>by obtain rfl:(av 64)=D:=aah hj;exact T.gY | 6,hj=>by obtain rfl:(av 66)=D:=aah hj;exact T.gZ | 7,hj=>by obtain rfl:(av 68)=D:=aah hj;exact T.gC | 8,hj=>by obtain rfl:(av 70)=D:=aah hj;exact T.cE | 9,hj=>by obtain rfl:(av 72)=D:=aah hj;exact T.gD | 10,hj=>by obtain rfl:(av 74)=D:=aah hj;exact T.ff | (j+11),hj=>by simp at hj),T.cj,T.oj⟩
   refine⟨(av 54),(av 55),_,_,O,T.m9,Hf (by simp[m1,m2]) ?_⟩
   refine⟨(av 54),(av 55),_,_,O,T.m9,wN (by simp) ?_⟩
   have he:(upd H1 ea (Am ea (.ref (av 54)) none)) ea=some (Am ea (.ref (av 54)) none):=aj
   have s2:=aq (o:=Am ea (.ref (av 54)) none) oV
   generalize upd H1 ea (Am ea (.ref (av 54)) none)=H2 at he s2⊢
   have xo:MQ H2 ea (av 54):=⟨_,.inr he,.inl rfl⟩
   refine⟨_,O,ea,(av 54),_,_,_,_,true,O,xo,T.m9,(.inr ⟨_,_,O,T.aR⟩),T.zP,.inl ⟨_,O,T.oj⟩,true,O,dh ?_⟩
   refine⟨_,O,ea,(av 54),(av 52),_,O,xo,xq,λl H3 s3 hl=>?_⟩
   refine⟨_,O,by decide,by decide,λD hD=>?_⟩
   refine mF (λi ys τ H4=>(∃v,τ=[v])/\aC H3 H4/\H4 D=some (.lst ys)/\ys=(List.range i).map λj:Nat=>V.bl (decide ((j:Int)=0))) ⟨⟨_,rfl⟩,aq hD,aj,rfl⟩ (λi ys τ H4 _ p=>p.2.2.1) ?_ ?_
   ·rintro i ys τ H4 hi ⟨⟨v,rfl⟩,s4,EU,rfl⟩
    have hi:i<11:=hi
    refine qq ?_
    refine⟨_,O,O,EU,?_,⟨_,O⟩,aE hD s4,aj,?_⟩
    ·rw[aak,abq];exact aav hi 'c'
    rw[List.range_succ,aaF]
    show _++[V.bl (decide (V.int (0+(i:Int))=V.int 0))]=_++[V.bl (decide ((i:Int)=0))]
    rw[Int.zero_add,Az]
   rintro ys τ H4 ⟨_,s4,EU,rfl⟩
   have sX:=s1.trans (s2.trans (s3.trans s4))
   refine⟨⟨_,_,(s3.trans s4) _ _ he⟩,⟨1,l,D,_,_,O,O,by decide,O,.inr ⟨aM.of (s4 _ _ hl),aM.of EU⟩,same_self ?_⟩,_,O,dh ?_⟩
   ·rw[abo,aaB];exact λ_ _=>rfl
   exact k _ sX
  intro h0 zs ez hz d T v H1 Zv hT hno tr s1
  rw[h0]at k
  subst ez
  have Xo:(zs.map V.str).length=zs.length:=aak _
  have n6:zs.length<=6:=by
   unfold jc at h0
   by_cases c1:8<xs.length
   ·rw[aal c1]at h0;cases h0
   ·rw[aag c1]at h0
    by_cases c2:6<(zs.map V.str).length
    ·rw[aal c2]at h0;cases h0
    ·omega
  have hst:=Ez hT (show d<9 by omega)
  dsimp only[Km]
  refine⟨_,O,_,O,_,O,ld,lt,xs,cs,zs,v,tQ d T,2*d+2,O,s1 _ _ hd,wQ.mono s1 mk,gd,hc,s1 _ _ hw,by omega,hz,by omega,tr.rt,λH2 s2=>?_⟩
  rw[hst]
  exact⟨_,_,O,O,_,O,dh (k _ (s1.trans s2))⟩
inductive uL(K:W.Frag)(vs:List V)(H:Hp)(Q:VK)(E_:XK):Prop where
 |mk (m:Int) (lt:Addr) (ws:List V) (b:Bool):(vs=[.int m,.ref lt,.bl b])->(H lt=some (.lst ws))->(Q (.str (dS (LU m ws.length b))) H)->uL K vs H Q E_
theorem Dn:zzz T fu 1 48 ["_law_many","_law_texts","_law_spoilt"] (uL K):=by
 refine T.xy.ok CW (λvs H Q E h=>?_) 'a'
 ·obtain⟨m,lt,ws,b,rfl,_⟩:=h;rfl
 ·have hu:=bz hr
  obtain⟨m,lt,ws,b,rfl,hl,k⟩:=h
  unfold LU at k
  refine⟨_,(ai (aK (eN qP (pv 0) ak) (ao (az ay)) aA)
   (ai (aK (eN qP (gm (aJ K rfl) T.bQ (af (pv 1) ah)) ak) (ao (az ay)) aA)
   (ai (aK (bO (pv 2)) (ao (az ay)) aA)
   (ao (az ay))))),?_⟩
  by_cases c1:8<m
  ·rw[aal c1]at k
   have k:Q (.str ("eight":Str)) H:=k
   refine⟨_,O,_,_,O,O,_,O,ye c1 (k)⟩
  rw[aag c1]at k
  by_cases c2:6<ws.length
  ·rw[aal c2]at k
   have k:Q (.str ("six":Str)) H:=k
   refine⟨_,O,_,_,O,O,_,O,iE c1 (⟨_,O,_,_,O,.inl (aM.of hl),_,_,O,O,_,O,ye 'b' (k)⟩)⟩
  rw[aag c2]at k
  cases b with
  |true =>
   have k:Q (.str ("text":Str)) H:=k
   refine⟨_,O,_,_,O,O,_,O,iE c1 (⟨_,O,_,_,O,.inl (aM.of hl),_,_,O,O,_,O,iE 'b' (⟨_,O,_,O,dh (k)⟩)⟩)⟩
  |false =>
   have k:Q (.str ("told":Str)) H:=k
   refine⟨_,O,_,_,O,O,_,O,iE c1 (⟨_,O,_,_,O,.inl (aM.of hl),_,_,O,O,_,O,iE 'b' (⟨_,O,_,O,bS (k)⟩)⟩)⟩
inductive xK(K:W.Frag)(vs:List V)(H:Hp)(Q:VK)(E_:XK):Prop where
 |mk (a:Addr) (ns:List Int):(vs=[.ref a])->(aM K H a (ns.map V.int))->(ns.length<=63)->(∀H',Q (.bl true) H')->xK K vs H Q E_
theorem Ry:zzz T fu 23 49 ["_law_script"] (xK K):=by
 have iY:=lU T
 have EV:=Dn T
 have aV:=jV T
 have nE:=vz T
 have Dp:=Bd T
 have Be:=yI T
 have lE:=pJ T
 refine T.TN.ok iN (λvs H Q E h=>?_) 'a'
 ·obtain⟨a,ns,rfl,_⟩:=h;rfl
 ·have hu:=bz hr
  have gK:=hr.aO
  obtain⟨a,ns,rfl,hS,hlen,k⟩:=h
  refine'⟨_,?aa,?bb⟩
  case aa =>
   refine' ai ?s0 ?r0
   case s0 =>
    exact(fB 1 iN.nd (fh Be hr T.AV T.rP.kp T.AU (af (jY (qR K rfl) (pv 0) (iy ak) (iy ak)) (af ak ah))))
   case r0 =>
    refine' ai ?s1 ?r1
    case s1 =>
     refine' gv aa3 rfl ?i2 ?t2 ?b2
     case i2=>exact(di K rfl (aD Eg (bM (af (fh iY hr T.mY T.iR.kp T.mX (af (pv 0) (af ak ah))) ah)) (jY (qR K rfl) (pv 0) (iy ak) (iy ak))))
     case t2=>exact(kC 2 iN.nd)
     case b2 =>
      refine' ai ?s3 ?r3
      case s3 =>
       exact(fB 3 iN.nd (aD bf (pv 2) ak))
      case r3 =>
       refine' ai ?s4 ?r4
       case s4 =>
        refine' fB 4 iN.nd ?v5
        case v5 =>
         refine' mj K ?o6 ?i6 ?h6 ?k6
         case h6=>exact λ_ _=>rfl
         case k6=>exact rfl
         case o6 =>
          refine' bM ?a7
          case a7 =>
           refine' af ?x8 ?y8 ?z8
           case z8=>exact rfl
           case x8 =>
            exact(aD bf (fh aV hr T.bD T.aZ.kp T.bC (af (pv 3) (af ak ah))) ak)
           case y8 =>
            refine' af ?x9 ?y9 ?z9
            case z9=>exact rfl
            case x9 =>
             exact(aD cX ak (aD bf (fh aV hr T.bD T.aZ.kp T.bC (af (pv 3) (af ak ah))) ak))
            case y9 =>
             exact ah
         case i6=>exact(aD bf (fh aV hr T.bD T.aZ.kp T.bC (af (pv 3) (af ak ah))) ak)
       case r4 =>
        refine' ai ?Np ?Q0
        case Np =>
         refine' fB 5 iN.nd ?v11
         case v11 =>
          refine' mj K ?o12 ?i12 ?h12 ?Xx
          case h12=>exact λ_ _=>rfl
          case Xx=>exact rfl
          case o12 =>
           refine' bM ?Xy
           case Xy =>
            refine' af ?x14 ?y14 ?z14
            case z14=>exact rfl
            case x14 =>
             exact(aD bf (fh aV hr T.bD T.aZ.kp T.bC (af (pv 3) (af ak ah))) ak)
            case y14 =>
             refine' af ?Oi ?Oj ?Ol
             case Ol=>exact rfl
             case Oi =>
              exact(aD cX ak (aD bf (fh aV hr T.bD T.aZ.kp T.bC (af (pv 3) (af ak ah))) ak))
             case Oj =>
              exact ah
          case i12=>exact(aD bf (fh aV hr T.bD T.aZ.kp T.bC (af (pv 3) (af ak ah))) ak)
        case Q0 =>
         refine' ai ?s16 ?r16
         case s16 =>
          exact(nY (i:=6) rfl iN.nd rfl rfl (show aT ["_law_script","_law_tolds_here","_law_cell","_law_number_here","_law_many","_law_size","_law_texts","_law_spoilt","_law_odd","_law_dialects","_law_turn"] (au oW) ["_law_k","_law_tolds_here","_law_number_here"] 1 [1,3] _ from CA) (gn rfl T.eo (af (pv 5) ah)) (λ_ _ _ _=>(kC 0 (show(["_law_k","_law_tolds_here","_law_number_here"]:List Str).Nodup by decide +kernel))) (λ_ _ _ _=>cJ) (λ_ _ _ _=>(fh Dp hr T.C9 T.uE.kp T.C8 (af (aD cX (pv 2) (aD gw ak (pv 0))) (af (pv 1) (af ak ah))))))
         case r16 =>
          refine' ai ?Om ?Oo
          case Om =>
           exact(fB 7 iN.nd (sU (BX bg (aD bf (fh aV hr T.bD T.aZ.kp T.bC (af (pv 3) (af ak ah))) ak) ak) (sS (BX (Nt K rfl gK) (pv 6) (bM ah)))))
          case Oo =>
           refine' ai ?s18 ?r18
           case s18 =>
            refine' aK ?c19 ?Xz ?e19
            case c19=>exact(bO (pv 7))
            case Xz =>
             refine' ai ?s20 ?r20
             case s20 =>
              refine' fB 8 iN.nd ?v21
              case v21 =>
               refine' mj K ?o22 ?i22 ?h22 ?k22
               case h22=>exact λ_ _=>rfl
               case k22=>exact rfl
               case o22 =>
                refine' bM ?XA
                case XA =>
                 refine' af ?x24 ?y24 ?z24
                 case z24=>exact rfl
                 case x24 =>
                  exact gS
                 case y24 =>
                  refine' af ?Ri ?Rj ?Rk
                  case Rk=>exact rfl
                  case Ri =>
                   exact ay
                  case Rj =>
                   refine' af ?Rl ?Rm ?Rn
                   case Rn=>exact rfl
                   case Rl =>
                    exact ak
                   case Rm =>
                    refine' af ?WW ?WX ?WY
                    case WY=>exact rfl
                    case WW =>
                     refine' bM ?XC
                     case XC =>
                      refine' af ?x29 ?y29 ?z29
                      case z29=>exact rfl
                      case x29 =>
                       exact ay
                      case y29 =>
                       exact ah
                    case WX =>
                     refine' af ?T6 ?T7 ?T8
                     case T8=>exact rfl
                     case T6 =>
                      exact(aD Ny ay ak)
                     case T7 =>
                      refine' af ?T9 ?Ua ?Ub
                      case Ub=>exact rfl
                      case T9 =>
                       exact jX
                      case Ua =>
                       exact ah
               case i22=>exact(aD bf (fh aV hr T.bD T.aZ.kp T.bC (af (pv 3) (af ak ah))) ak)
             case r20 =>
              refine' ao ?s32
              case s32 =>
               exact(jB (pv 8) (qg (pv 6) (aD bf (fh aV hr T.bD T.aZ.kp T.bC (af (pv 3) (af ak ah))) (pv 5)) set_list))
            case e19 =>
             exact aA
           case r18 =>
            refine' ai ?s33 ?r33
            case s33 =>
             exact(nY (i:=9) rfl iN.nd rfl rfl (show aT ["_law_script","_law_tolds_here","_law_cell","_law_number_here","_law_many","_law_size","_law_texts","_law_spoilt","_law_odd","_law_dialects","_law_turn"] (au oW) ["_law_k","_law_tolds_here"] 1 [1] _ from CA) (gn rfl T.eo (af (pv 4) ah)) (λ_ _ _ _=>(kC 0 (show(["_law_k","_law_tolds_here"]:List Str).Nodup by decide +kernel))) (λ_ _ _ _=>cJ) (λ_ _ _ _=>(fh lE hr T.rB T.k8.kp T.rz (af (mj K (pv 1) (aD bf (pv 0) ak)) ah))))
            case r33 =>
             refine' ai ?WS ?r34
             case WS =>
              refine' gv aa3 rfl ?i35 ?t35 ?XD
              case i35=>exact(gn rfl T.eo (af ak ah))
              case t35=>exact(kC 10 iN.nd)
              case XD =>
               refine' ao ?s36
               case s36 =>
                refine' aK ?c37 ?XE ?e37
                case c37=>exact(eN zf (fh nE hr T.m7 T.iS.kp T.m6 (af (pv 9) (af (pv 6) ah))) (fh EV hr T.EG T.xy.kp T.EF (af (pv 4) (af (pv 6) (af (pv 7) ah)))))
                case XE =>
                 refine' ao ?s38
                 case s38 =>
                  exact(az jX)
                case e37 =>
                 exact aA
             case r34 =>
              refine' ao ?WO
              case WO =>
               refine' aK ?c40 ?XF ?e40
               case c40=>exact(eN zf (fh nE hr T.m7 T.iS.kp T.m6 (af (jY (qR K rfl) (pv 9) Ab (iy ak)) (af (bM (af ay (af ay ah))) ah))) ay)
               case XF =>
                refine' ao ?s41
                case s41 =>
                 exact(az jX)
               case e40 =>
                exact aA
    case r1 =>
     refine' ao ?s42
     case s42 =>
      exact(az jX)
  refine⟨_,O,_,O,_,O,a,_,O,hS,λp0 hp0=>?_⟩
  obtain⟨n1,en1,ln1,_⟩:=CH V.int ns (some 1) (some 5)
  rw[en1]
  have s0:=aq (o:=HO.lst (n1.map V.int)) hp0
  refine⟨p0,n1,3,O,aM.of aj,by omega,by decide,by decide,λPh XG XH H1 aad ht0 ZF XI hc0 s1=>?_⟩
  have hc0:XH.length=3:=by omega
  have t1:=s0.trans s1
  generalize upd H p0 (.lst (n1.map V.int))=H0 at s0 s1 t1⊢
  clear s0 s1 hp0
  dsimp only[cT]
  have ZG:=t1.seq hS
  refine⟨_,O,_,_,_,O,(aC.refl _).seq ZG,'b',λc0=>⟨(by show(1:Nat)<=sizeLine;decide),λp1 hp1=>⟨_,O,_,O,_,O,_,_,O,(aE hp1 (aC.refl _)).seq ZG,λp2 hp2=>⟨_,_,_,_,O,O,(aq hp2 _ _ aj),aj,?_,λp3 hp3=>⟨_,O,⟨_,aM.of aj⟩,?_⟩⟩⟩⟩⟩
  ·have:=uw (ns.map V.int) (some 1) (some 7)
   rw[aak]at this
   exact aay (show [V.int c0].length+(tD (ns.map V.int) (some 1) (some 7)).length<=200 by show 1+_<=_;omega) 'c'
  obtain⟨n2,en2,ln2,_⟩:=CH V.int ns (some 1) (some 7)
  rw[en2]at hp3⊢
  rw[show [V.int c0]++n2.map V.int=(c0::n2).map V.int from rfl]
  (have u1:=aq (o:=HO.lst [V.int c0]) hp1;have g1:=aj (H:=H1) (a:=p1) (o:=HO.lst [V.int c0]);generalize upd H1 p1 (HO.lst [V.int c0])=I1 at u1 g1 hp2 hp3⊢;have u2:=aq (o:=HO.lst (List.map V.int n2)) hp2;have g2:=aj (H:=I1) (a:=p2) (o:=HO.lst (List.map V.int n2));generalize upd I1 p2 (HO.lst (List.map V.int n2))=I2 at u2 g2 hp3⊢;have u3:=aq (o:=HO.lst (List.map V.int (c0::n2))) hp3;have g3:=aj (H:=I2) (a:=p3) (o:=HO.lst (List.map V.int (c0::n2)));generalize upd I2 p3 (HO.lst (List.map V.int (c0::n2)))=I3 at u3 g3⊢)
  have s1:=u1.trans (u2.trans u3)
  clear u1 u2 u3 g1 g2
  refine qO (K:=K) (a:=p3) (xs:=(c0::n2).map V.int) (λi σ J=>aC I3 J/\∃v2 v3 v4 v5 v6 v7 v8 v9 v10,σ=[some (.ref a),some (.ref Ph),v2,v3,v4,v5,v6,v7,v8,v9,v10]) ⟨aC.refl _,_,_,_,_,_,_,_,_,_,rfl⟩ (λi σ J _ q=>aM.of (q.1 _ _ g3)) ?_ ?_
  rotate_left
  ·rintro σ J ⟨sJ,v2,v3,v4,v5,v6,v7,v8,v9,v10,rfl⟩
   exact k _
  rintro i e σ J hi ⟨sJ,v2,v3,v4,v5,v6,v7,v8,v9,v10,rfl⟩
  obtain⟨c,_,rfl⟩:=List.mem_map.mp (aau hi)
  have Vg:=s1.trans sJ
  have Rx:=Vg _ _ ht0
  have XJ:=Aw.mono Vg ZF
  dsimp only[cT]
  have w0:=aaO c (show(1000000007:Int)≠0 by decide)
  have w1:=aaM c (show(0:Int)<1000000007 by decide)
  refine⟨_,O,_,_,O,O,(by show(0:Int)<1000000007;decide),?_⟩
  dsimp only[cT]
  generalize c % 1000000007=n at w0 w1⊢
  refine⟨_,O,_,_,O,'b','b','b','b',λr1 x1 y1=>⟨_,_,O,O,'b',_,O,_,_,O,'b','b','b','b',λr2 x2 y2=>⟨_,_,O,O,'b',_,_,O,O,(by show(2:Nat)<=sizeLine;decide),λq1 hq1=>⟨_,O,_,_,O,'b','b','b','b',λr3 x3 y3=>⟨_,_,O,O,'b',?_⟩⟩⟩⟩⟩
  obtain⟨m,hm,m0,m1⟩:=Pc (x:=r1 % 4) (y:=7+r2 % 4) (r:=r3) (B:=10) 'b' 'b' 'b' 'b'
  refine⟨q1,_,_,_,O,O,aM.of aj,hm,?_⟩
  (have u1:=aq (o:=HO.lst [(λi j=>V.int (i % j)) r1 4,(λi j=>V.int (i+j)) 7 (r2 % 4)]) hq1;have g1:=aj (H:=J) (a:=q1) (o:=HO.lst [(λi j=>V.int (i % j)) r1 4,(λi j=>V.int (i+j)) 7 (r2 % 4)]);generalize upd J q1 (HO.lst [(λi j=>V.int (i % j)) r1 4,(λi j=>V.int (i+j)) 7 (r2 % 4)])=J1 at u1 g1⊢)
  dsimp only[cT]
  clear x1 y1 x2 y2 x3 y3 hm
  refine⟨_,O,_,_,O,'b','b','b','b',λr4 x1 y1=>⟨_,_,O,O,'b',_,O,_,_,O,'b','b','b','b',λr5 x2 y2=>⟨_,_,O,O,'b',_,_,O,O,(by show(2:Nat)<=sizeLine;decide),λq2 hq2=>⟨_,O,_,_,O,'b','b','b','b',λr6 x3 y3=>⟨_,_,O,O,'b',?_⟩⟩⟩⟩⟩
  obtain⟨sz,hm,z0,z1⟩:=Pc (x:=r4 % 4) (y:=5+r5 % 4) (r:=r6) (B:=8) 'b' 'b' 'b' 'b'
  refine⟨q2,_,_,_,O,O,aM.of aj,hm,?_⟩
  (have u2:=aq (o:=HO.lst [(λi j=>V.int (i % j)) r4 4,(λi j=>V.int (i+j)) 5 (r5 % 4)]) hq2;have g2:=aj (H:=J1) (a:=q2) (o:=HO.lst [(λi j=>V.int (i % j)) r4 4,(λi j=>V.int (i+j)) 5 (r5 % 4)]);generalize upd J1 q2 (HO.lst [(λi j=>V.int (i % j)) r4 4,(λi j=>V.int (i+j)) 5 (r5 % 4)])=J2 at u2 g2⊢)
  dsimp only[cT]
  clear x1 y1 x2 y2 x3 y3 hm
  obtain⟨Mb,rfl⟩:=Int.eq_ofNat_of_zero_le z0
  have ER:=sJ.trans (u1.trans u2)
  have u12:=u1.trans u2
  have Us:=s1.trans ER
  replace Rx:=Us _ _ ht0
  replace XJ:=Aw.mono Us ZF
  clear g1 g2 u1 u2
  refine⟨_,O,_,O,by omega,by omega,λD hD=>?_⟩
  refine qj (λi ys τ G=>(∃v,τ=[v,some (.ref Ph),some (.int n)])/\aC J2 G/\G D=some (.lst ys)/\∃zs:List Str,ys=zs.map V.str/\zs.length=i/\∀z∈zs,d9 z/\z.length<=6) ⟨⟨_,rfl⟩,aq hD,aj,[],rfl,rfl,λz h=>nomatch h⟩ (λi ys τ G _ q=>q.2.2.1) ?_ ?_
  ·rintro i ys τ G hi ⟨⟨v,rfl⟩,sG,hG,zs,rfl,yx,Rz⟩
   have hi:i<Mb:=by simpa using hi
   refine qq ?_
   refine⟨_,O,_,O,_,_,O,O,.inl ⟨by decide,by decide⟩,_,_,O,O,_,O,_,5,Ph,XG,XH,O,sG _ _ Rx,Aw.mono sG XJ,XI,by omega,by decide,by decide,λz G2 hz aae s2=>?_⟩
   refine⟨s2 _ _ hG,by rw[aak];exact aaD (show zs.length<=100 by omega) 'c',⟨_,O⟩,aE hD (sG.trans s2),aj,zs++[z],by rw[aaF];rfl,by rw[aaJ,yx];rfl,λy hy=>?_⟩
   rcases aaI.mp hy with q|q
   ·exact Rz y q
   ·rw[aap.mp q];exact⟨hz,by omega⟩
  rintro ys τ G ⟨⟨v,rfl⟩,sG,hG,zs,rfl,yx,Rz⟩
  have yx:zs.length=Mb:=by simpa using yx
  dsimp only[cT]
  refine fP (t:=Kn _ _) (λσ' H'=>aC G H'/\∃b:Bool,σ'=[some (.ref a),some (.ref Ph),some (.int c),some (.int n),some (.int m),some (.int (Mb:Int)),some (.ref D),some (.bl b),v8,v9,v10]/\(b=true->zs≠[])) ?_ (λgo=>?_)
  rotate_left
  ·refine⟨_,O,_,_,O,by omega,by omega,by omega,by omega,λr1 x1 y1=>⟨_,_,O,O,(by show(0:Int)<2;decide),O,_,O,S3 (λc1=>?_) (λc1=>?_)⟩⟩
   ·refine⟨_,O,by decide,λq hq=>⟨D,q,_,O,O,aq hq _ _ hG |> aM.of,aM.of aj,?_⟩⟩
    exact go _ _ ⟨aq hq,_,rfl,λe q=>by subst q;cases e⟩
   ·exact go _ _ ⟨aC.refl _,_,rfl,λe=>nomatch e⟩
  rintro σ' G2 ⟨Rw,b,rfl,hb⟩
  have MV:=Rw _ _ hG
  refine fP (t:=B8 _ _ _) (λσ' H'=>aC J2 H'/\∃(v8:Option V)(ws:List V),σ'=[some (.ref a),some (.ref Ph),some (.int c),some (.int n),some (.int m),some (.int (Mb:Int)),some (.ref D),some (.bl b),v8,v9,v10]/\H' D=some (.lst ws)/\ws.length=Mb/\ws.all Ay=!b/\∀v∈ws,BY H' v/\(∀z,v=.str z->z.length<=10000)) ?_ (λgo=>?_)
  rotate_left
  ·refine⟨_,O,b,O,?_⟩
   have hall:(zs.map V.str).all Ay=true:=by
    rw[abo,aaB]
    intro z hz
    exact LL (Rz z hz).1 (by have:=(Rz z hz).2;omega)
   cases b with
   |false =>
    refine bS (go _ _ ⟨sG.trans Rw,_,_,rfl,MV,by rw[aak];exact yx,hall,λv hv=>?_⟩)
    obtain⟨z,hz,rfl⟩:=List.mem_map.mp hv
    exact⟨.str z,λz' e=>by cases e;have:=(Rz z hz).2;omega⟩
   |true =>
    refine dh ?_
    have zn:=hb rfl
    have zp:0<Mb:=by rw[←yx];exact List.length_pos_iff.mpr zn
    have qa:("a":Str).length=1:=by decide +kernel
    have rA:=NZ ("a":Str) 2001
    rw[qa]at rA
    refine⟨'c',λl1 hl1=>?_⟩
    (have w1:=aq (o:=HO.lst [V.str ("a":Str)]) hl1;have k1:=aj (H:=G2) (a:=l1) (o:=HO.lst [V.str ("a":Str)]);generalize upd G2 l1 (HO.lst [V.str ("a":Str)])=K1 at w1 k1⊢)
    refine⟨_,_,O,O,by decide,by decide,by rw[qa];exact aan _,(by rw[qa];decide),?_⟩
    rw[show(2001:Int).toNat=2001 from rfl]
    generalize P8 ("a":Str) 2001=sL at rA⊢
    refine⟨(by show 6<=sizeLine;decide),λl2 hl2=>?_⟩
    (have w2:=aq (o:=HO.lst [V.non,V.str (Str.ofString "a\tb"),V.int 7,V.ref l1,V.str sL,V.bl true]) hl2;have k2:=aj (H:=K1) (a:=l2) (o:=HO.lst [V.non,V.str (Str.ofString "a\tb"),V.int 7,V.ref l1,V.str sL,V.bl true]);generalize upd K1 l2 (HO.lst [V.non,V.str (Str.ofString "a\tb"),V.int 7,V.ref l1,V.str sL,V.bl true])=K2 at w2 k2⊢)
    have Xx:=w2 _ _ k1
    refine⟨_,O,_,_,O,by omega,by omega,by omega,by omega,λr1 x1 y1=>⟨_,_,O,O,(by show(0:Int)<6;decide),?_⟩⟩
    have p0:=aaO r1 (show(6:Int)≠0 by decide)
    have p1:=aaM r1 (show(0:Int)<6 by decide)
    have tA:Ay (.str ("a	b":Str))=false:=by decide +kernel
    have key:∀v∈([.non,.str ("a	b":Str),.int 7,.ref l1,.str sL,.bl true]:List V),BY K2 v/\(∀z,v=.str z->z.length<=10000)/\Ay v=false/\v≠.ref D:=by
     intro v hv
     simp only[aat,List.not_mem_nil,abh]at hv
     rcases hv with rfl|rfl|rfl|rfl|rfl|rfl
     ·exact⟨.non,(λz e=>by cases e),rfl,λe=>nomatch e⟩
     ·exact⟨.str _,(λz e=>by cases e;decide +kernel),tA,λe=>nomatch e⟩
     ·exact⟨.int _,(λz e=>by cases e),rfl,λe=>nomatch e⟩
     ·exact⟨.lst Xx rfl,(λz e=>by cases e),O,λe=>by cases e;rw[MV]at hl1;cases hl1⟩
     ·exact⟨.str _,(λz e=>by cases e;omega),LK 'b',λe=>nomatch e⟩
     ·exact⟨.bl _,(λz e=>by cases e),rfl,λe=>nomatch e⟩
    obtain⟨o,ho,Xd⟩:=As (xs:=([.non,.str ("a	b":Str),.int 7,.ref l1,.str sL,.bl true]:List V)) p0 p1
    obtain⟨o1,o2,o3,o4⟩:=key o Xd
    refine⟨l2,_,_,_,O,O,aM.of k2,ho,?_⟩
    dsimp only[cT]
    have sK:=w1.trans w2
    have EU:=sK _ _ MV
    refine⟨_,O,_,O,_,O,_,_,O,by omega,by omega,by omega,by omega,λr2 x2 y2=>⟨_,O,_,_,O,O,(by show(0:Int)<(Mb:Int);omega),?_⟩⟩
    have j0:=aaO r2 (show(Mb:Int)≠0 by omega)
    have j1:=aaM r2 (show(0:Int)<(Mb:Int) by omega)
    obtain⟨j,ej⟩:=Int.eq_ofNat_of_zero_le j0
    have tl:(zs.map V.str).length=Mb:=by rw[aak];exact yx
    refine⟨D,_,_,j,O,O,EU,?_,?_⟩
    ·rw[ej]
     unfold OX
     rw[aal 'b',aal 'b']
     rfl
    have sF:aC J2 (upd K2 D (.lst ((zs.map V.str).set j o))):=aE hD ((sG.trans Rw).trans sK)
    have hF:=aj (H:=K2) (a:=D) (o:=HO.lst ((zs.map V.str).set j o))
    refine go _ _ ⟨sF,_,_,rfl,hF,by rw[List.length_set];exact tl,?_,λv hv=>?_⟩
    ·refine oX λq=>?_
     have:=aaB.mp q o (abA.mpr ⟨j,by rw[List.getElem?_set_self 'b']⟩)
     rw[o3]at this;cases this
    ·rcases List.mem_or_eq_of_mem_set hv with q|rfl
     ·obtain⟨z,hz,rfl⟩:=List.mem_map.mp q
      exact⟨.str z,λz' e=>by cases e;have:=(Rz z hz).2;omega⟩
     ·refine⟨?_,o2⟩
      cases o1 with
      |str z=>exact .str z
      |non=>exact .non
      |bl b=>exact .bl b
      |int n=>exact .int n
      |@lst l xs e f =>
       exact .lst ((aB (λq=>o4 (by rw[q]))).trans e) f
      |@tup l xs e f=>exact .tup ((aB (λq=>by rw[q,EU]at e;cases e)).trans e) f
      |@Tv l k v e f=>exact .Tv ((aB (λq=>by rw[q,EU]at e;cases e)).trans e) f
  rintro σ' G3 ⟨XM,v8',ws,rfl,Uo,hwl,hwT,ZH⟩
  obtain⟨mn,rfl⟩:=Int.eq_ofNat_of_zero_le m0
  clear MV hb hG yx Rz sG Rw
  have XO:=XM _ _ Rx
  have R7:=Aw.mono XM XJ
  have tpl:=R7.length
  refine⟨_,O,_,O,by omega,by omega,λXQ ZI=>?_⟩
  refine qj (λi ys τ G=>(∃v,τ=[v,some (.ref Ph)])/\aC G3 G/\G XQ=some (.lst ys)/\∃cs:List oY,wQ (av 50) G ys cs/\cs.length=i/\∀x∈cs,ya x) ⟨⟨_,rfl⟩,aq ZI,aj,[],.nil,rfl,λz h=>nomatch h⟩ (λi ys τ G _ q=>q.2.2.1) ?_ ?_
  ·rintro i ys τ G hi ⟨⟨v,rfl⟩,sG,hG,cs,mk,hcl,gd⟩
   have hi:i<mn:=by simpa using hi
   have q0:(0:Int)<=(0+(i:Int)) % 3:=by omega
   obtain⟨x,hx⟩:∃x,XH[((0+(i:Int)) % 3).toNat]?=some x:=⟨_,aaR 'b'⟩
   have ZJ:=aau hx
   obtain⟨e5,ZK⟩:∃e5,XG[((0+(i:Int)) % 3).toNat]?=some e5:=⟨_,aaR 'b'⟩
   obtain⟨x',hx',t5,rfl,Rq⟩:=aS R7 _ _ ZK
   rw[hx]at hx';cases hx'
   have at5:tE XG ((0+(i:Int)) % 3)=some (.ref t5):=by
    have:=eG ZK
    rw[Int.toNat_of_nonneg q0]at this
    exact this
   have myl:=mk.length
   refine qq ?_
   refine⟨_,O,_,O,_,_,O,O,(by show(0:Int)<3;decide),Ph,_,_,_,O,O,aM.of (sG _ _ XO),at5,t5,x.1,x.2.1,x.2.2.1,x.2.2.2.a,x.2.2.2.b,x.2.2.2.c,x.2.2.2.d,O,sG _ _ Rq,XI x ZJ,λy dy G2 hy0 hy s2=>?_⟩
   have MV:=s2 _ _ hG
   refine⟨MV,aaD (show ys.length<=100 by omega) 'c',⟨_,O⟩,aE ZI (sG.trans s2),aj,cs++[x],?_,by rw[aaJ,hcl];rfl,λy hy=>?_⟩
   ·exact d8 (wQ.but MV (wQ.mono s2 mk)) (wQ.but MV (.cons ⟨y,dy,rfl,hy⟩ .nil))
   ·rcases aaI.mp hy with q|q
    ·exact gd y q
    ·rw[aap.mp q];exact XI x ZJ
  rintro ys τ G ⟨⟨v,rfl⟩,sG,hG,cs,mk,hcl,gd⟩
  have hcl:cs.length=mn:=by simpa using hcl
  dsimp only[cT]
  have myl:=mk.length
  have ZL:=sG _ _ Uo
  have ZN:∀v∈ws,BY G v/\(∀z,v=.str z->z.length<=10000):=λv hv=>⟨(ZH v hv).1.mono sG,(ZH v hv).2⟩
  have XR:jc ys.length ws=LU (mn:Int) ws.length b:=QM 'b' hwT
  have sIG:=XM.trans sG
  refine⟨_,O,by decide,by decide,?_⟩
  refine nW (λi σ J=>aC G J/\∃v:Option V,σ=[some (.ref a),some (.ref Ph),some (.int c),some (.int n),some (.int (mn:Int)),some (.int (Mb:Int)),some (.ref D),some (.bl b),v8',some (.ref XQ),v]) ⟨aC.refl _,_,rfl⟩ ?_ ?_
  ·rintro i σ J' hi ⟨MX,v',rfl⟩
   dsimp only[cT]
   refine⟨_,O,_,O,XQ,D,ys,ws,cs,O,MX _ _ hG,wQ.mono MX mk,gd,by omega,MX _ _ ZL,(λv hv=>⟨(ZN v hv).1.mono MX,(ZN v hv).2⟩),λH5 s5=>?_⟩
   rw[XR]
   exact⟨_,O,_,O,_,O,_,D,ws,b,O,s5 _ _ (MX _ _ ZL),O,_,O,V8 rfl ⟨MX.trans s5,_,O⟩⟩
  rintro σ J' ⟨MX,v',rfl⟩
  have hGJ:=MX _ _ hG
  have mkJ:=wQ.mono MX mk
  refine⟨_,O,_,O,_,_,O,aM.of hGJ,λq1 hq1=>?_⟩
  rw[N6]
  (have w5:=aq (o:=HO.lst (List.take 2 ys)) hq1;have k5:=aj (H:=J') (a:=q1) (o:=HO.lst (List.take 2 ys));generalize upd J' q1 (HO.lst (List.take 2 ys))=G5 at w5 k5⊢)
  refine⟨'c',λq2 hq2=>?_⟩
  (have w6:=aq (o:=HO.lst [V.str ("":Str),V.str (Str.ofString "\n")]) hq2;have k6:=aj (H:=G5) (a:=q2) (o:=HO.lst [V.str ("":Str),V.str (Str.ofString "\n")]);generalize upd G5 q2 (HO.lst [V.str ("":Str),V.str (Str.ofString "\n")])=G6 at w6 k6⊢)
  have k56:=w6 _ _ k5
  have ZO:=w5.trans w6
  have ttl:∀z∈[("":Str),("\n":Str)],d9 z/\z.length<=2000:=(by
   intro z hz
   simp only[aat,List.not_mem_nil,abh]at hz
   rcases hz with rfl|rfl
   ·exact⟨λc hc=>(by rw[NU]at hc;cases hc),by rw[QA];omega⟩
   ·exact⟨λc hc=>(by rw[Zh]at hc;exact .inl (aap.mp hc)),by decide +kernel⟩)
  refine⟨q1,q2,_,[.str ("":Str),.str (Str.ofString "\n")],cs.take 2,O,k56,uB 2 (wQ.mono ZO mkJ),λx hx=>gd x (List.mem_of_mem_take hx),by rw[aaL];omega,k6,λv hv=>?_,λH9 s9=>?_⟩
  ·simp only[aat,List.not_mem_nil,abh]at hv
   rcases hv with rfl|rfl
   ·exact⟨.str _,λz e=>by cases e;decide +kernel⟩
   ·exact⟨.str _,λz e=>by cases e;decide +kernel⟩
  have hall:[V.str ("":Str),.str (Str.ofString "\n")].all Ay=true:=by decide +kernel
  have ed:jc (ys.take 2).length [V.str ("":Str),.str (Str.ofString "\n")]=3:=by
   unfold jc
   rw[aag (by rw[aaL];omega),aag 'c',aal hall]
  rw[ed]
  exact⟨O,_,O,V8 rfl ⟨sJ.trans ((u12.trans sIG).trans (MX.trans (ZO.trans s9))),_,_,_,_,_,_,_,_,_,O⟩⟩
end
end
theorem all_mk{l:W.OpenLaw}{w:World}{K:W.Frag}{h:Heap}{mg:Str->Option Value}{fa nF iZ cA nG se lW cH dU dg dW xM jv zS iu lX pV pW lY sf uM sj Mc Dq xN sq pX pY xO j8 pZ zU sr jw nH Hz nI su p7 uN sy uO sA xP sC uP uQ sD nJ xQ Me bF i0 aH f7 aX sE iC ou fQ jx gG lH j9 sH ow vV oz vW dw sI aP oA cI sM bG jy Bf:Addr}{od2 XS XT RA:Option Addr}{sl2 XU:Array (Option Value)}{oc2 XW XX XY Vi XZ X0 RB RC RD Ox RE:Value}{EW:Str}{bL:Addr}(X:K.In h)(G:h.Ns mainGlobals mg)(hfa:mg "law"=some (.ref fa))(EX:W.nsIn K mainGlobals "Dialect"=some (some (.ref bF)))(Oz:W.nsIn K mainGlobals "Turn"=some (some (.ref i0)))(g8:W.nsIn K mainGlobals "DialectError"=some (some (.ref aH)))(tZ:W.nsIn K mainGlobals "NoText"=some (some (.ref aX)))(qE:W.nsIn K mainGlobals "NoTable"=some (some (.ref iC)))(lI:W.nsIn K mainGlobals "NoDialect"=some (some (.ref fQ)))(nK:W.nsIn K mainGlobals "NoFamily"=some (some (.ref gG)))(t6:W.nsIn K mainGlobals "NoMost"=some (some (.ref j9)))(xR:W.nsIn K mainGlobals "NoAsk"=some (some (.ref ow)))(xS:W.nsIn K mainGlobals "NoRow"=some (some (.ref oz)))(t7:W.nsIn K mainGlobals "NoName"=some (some (.ref dw)))(qF:W.nsIn K mainGlobals "TooMany"=some (some (.ref aP)))(t9:W.nsIn K mainGlobals "Broken"=some (some (.ref cI)))(lJ:W.nsIn K mainGlobals "NoWriting"=some (some (.ref bG)))(l0:FQ K "is_printable" iF nF)(l1:FQ K "are_unlike_signs" cZ iZ)(a2:W.findIn K (.ref bF) "__init__"=some (some (.ref cA)))(i2:W.isFn K (.ref cA)=true)(l2:K.lookup cA=FO "__init__" "Dialect.__init__" bh (.ref bL) oc2 od2 XW XX XY XS Vi XZ sl2)(c2:W.codeIn K Vi "Dialect.__init__"=true)(k2:W.keepIn K (.ref cA)=true){Ut:Option Addr}{X3:Nat}{Uu:Array (Option Value)}{Uv Uw:Tok}(d2:K.lookup bL=some ⟨.type "tuple",Ut,.seq #[.str ("":Str) Uv,.str ("":Str) Uw,.bool false,.bool false,.bool false,.bool false] X3,Uu⟩)(l3:FV K bF "told" "Dialect.told" iG nG)(l4:FQ K "dialect_of" kK se)(l5:FV K i0 "__init__" "Turn.__init__" gT lW)(l6:FE K "__init__" "NoWriting.__init__" gM cH)(l7:FE K "__init__" "Broken.__init__" jf dU)(l8:FE K "__init__" "TooMany.__init__" fF dg)(l9:FE K "__init__" "NoName.__init__" jg dW)(Zg:FQ K "is_whole" ql xM)(l11:FQ K "has_signs_alone" dM jv)(l12:FQ K "is_text" tK zS)(l13:FQ K "step_at_beginning" eZ iu)(l14:FQ K "step_in_plain" gU lX)(l15:FQ K "step_within" jG pV)(l16:FQ K "step_behind" jH pW)(l17:FQ K "step_in_doubt" gW lY)(l18:FQ K "step_freed" kL sf)(l19:FV K i0 "step" "Turn.step" mG uM)(l20:FQ K "check_text" kM sj)(l21:FQ K "walk" Er Mc)(l22:FQ K "end_of" wL Dq)(l23:FQ K "table_of" qm xN)(l24:FQ K "reading_of" kN sq)(l25:FQ K "check_asked" jI pX)(l26:FQ K "readings_of" fk pY)(l27:FQ K "parts_of" kO xO)(l28:FQ K "are_read_alike" eO j8)(l29:FQ K "tree_within" gH pZ)(l30:FQ K "tree_of" n5 zU)(l31:FQ K "are_places" iA sr)(l32:FQ K "sorts_by_asking" dN jw)(l33:FQ K "sorts_places" iH nH)(l34:FQ K "sorts" vU Hz)(l35:FQ K "_law_cell_at" iI nI)(l36:FQ K "_law_mixed" kP su)(l37:FQ K "_law_number" jJ p7)(l38:FQ K "_law_some" mH uN)(l39:FQ K "_law_menus" kQ sy)(l40:FQ K "_law_told" mJ uO)(l41:FQ K "_law_drawn" iB sA)(l42:FQ K "_law_kin" qo xP)(l43:FQ K "_law_tolds" kR sC)(l44:FQ K "_law_menu" mK uP)(l45:FQ K "_law_text" jh uQ)(l46:FQ K "_law_flags" kT sD)(l47:FQ K "_law_refusal" dZ nJ)(l48:FQ K "_law_due" qp xQ)(U9:W.nsIn K mainGlobals "law"=RF Me)(l49:K.lookup Me=FO "law" "law" oW .none X0 XT RB RC RD RA Ox RE XU)(c49:W.codeIn K Ox "law"=true)(k49:W.keepIn K (.ref Me)=true)(EY:W.plainGet K bF Str.empty=true)(EZ:W.hasDictIn K bF=true)(E1:W.plainOver K bF=true)(E2:W.findIn K (.ref bF) "__setattr__"=some (some (.builtin "object.__setattr__")))(E3:W.makesIn K bF=true)(E4:W.keepIn K (.ref bF)=true)(bW:W.findIn K (.ref bF) "parts"=some none)(cy:W.findIn K (.ref bF) "quotes"=some none)(bX:W.findIn K (.ref bF) "frees"=some none)(eg:W.findIn K (.ref bF) "twin"=some none)(cQ:W.findIn K (.ref bF) "wide"=some none)(cR:W.findIn K (.ref bF) "thin"=some none)(dj:W.findIn K (.ref bF) "stray"=some none)(OA:W.plainGet K i0 Str.empty=true)(OB:W.hasDictIn K i0=true)(OC:W.plainOver K i0=true)(OD:W.findIn K (.ref i0) "__setattr__"=some (some (.builtin "object.__setattr__")))(OE:W.makesIn K i0=true)(OG:W.keepIn K (.ref i0)=true)(bK:W.findIn K (.ref i0) "dialect"=some none){vA vB:Str}{vC ua:List Value}{uc vD:Bool}{vE:List Str}{ud:Option Bool}{vF uf:Option Addr}{vG vH vI vJ vK:Option Value}{ug:Value}{kc:Array DictEntry}{vL:Nat}{uh:Array (Option Value)}(dz:K.lookup aH=some (excClassObj vA vB aH f7 vC fV uc vE ua vD ud vF vG vH vI vJ vK "ValueError.__new__"))(dB:K.lookup f7=some ⟨ug,uf,.dict kc vL,uh⟩)(f9:(kc.toList.all λe=>match e.key with | .str _ _=>true|_=>false)=true)(dD:W.nsIn K f7 "__init__"=some none)(vM:W.specialIn K (.ref aH) "__getattribute__"=some (some (.builtin "type.__getattribute__")))(vN:W.readsIn K aH (.type "type")=true)(vO:W.findCls K (.ref aH) (.type "type") "__init__"=some (.val (.builtin "ValueError.__init__"))){II IJ:Str}{IK E5:List Value}{E6 IL:Bool}{IM:List Str}{E7:Option Bool}{IP E8:Option Addr}{IQ IS IT IU IV:Option Value}{E9:Value}{xT:Array DictEntry}{IW:Nat}{Fb:Array (Option Value)}(bH:K.lookup aX=some (excClassObj II IJ aX sE IK (.ref aH::fV) E6 IM E5 IL E7 IP IQ IS IT IU IV "ValueError.__new__"))(bI:K.lookup sE=some ⟨E9,E8,.dict xT IW,Fb⟩)(bq:(xT.toList.all λe=>match e.key with | .str _ _=>true|_=>false)=true)(bJ:W.nsIn K sE "__init__"=some none){Fc Fd:Str}{Fe Dr:List Value}{Dt Ff:Bool}{Fg:List Str}{Du:Option Bool}{Fi Dv:Option Addr}{Fj Fl Fo Fp Fq:Option Value}{Dw:Value}{uR:Array DictEntry}{Ft:Nat}{Dy:Array (Option Value)}(i7:K.lookup iC=some (excClassObj Fc Fd iC ou Fe (.ref aH::fV) Dt Fg Dr Ff Du Fi Fj Fl Fo Fp Fq "ValueError.__new__"))(i8:K.lookup ou=some ⟨Dw,Dv,.dict uR Ft,Dy⟩)(lK:(uR.toList.all λe=>match e.key with | .str _ _=>true|_=>false)=true)(i9:W.nsIn K ou "__init__"=some none){Bg Bh:Str}{Bj yK:List Value}{yL Bk:Bool}{Bl:List Str}{yM:Option Bool}{Bm yN:Option Addr}{Bo Bp Bq Br Bs:Option Value}{yO:Value}{p8:Array DictEntry}{Bt:Nat}{yP:Array (Option Value)}(gb:K.lookup fQ=some (excClassObj Bg Bh fQ jx Bj (.ref aH::fV) yL Bl yK Bk yM Bm Bo Bp Bq Br Bs "ValueError.__new__"))(gc:K.lookup jx=some ⟨yO,yN,.dict p8 Bt,yP⟩)(ja:(p8.toList.all λe=>match e.key with | .str _ _=>true|_=>false)=true)(gg:W.nsIn K jx "__init__"=some none){Dz DA:Str}{DB Bu:List Value}{Bv DC:Bool}{DE:List Str}{Bw:Option Bool}{DF Bx:Option Addr}{DG DH DI DJ DK:Option Value}{By:Value}{sN:Array DictEntry}{DL:Nat}{BA:Array (Option Value)}(gP:K.lookup gG=some (excClassObj Dz DA gG lH DB (.ref aH::fV) Bv DE Bu DC Bw DF DG DH DI DJ DK "ValueError.__new__"))(gQ:K.lookup lH=some ⟨By,Bx,.dict sN DL,BA⟩)(jW:(sN.toList.all λe=>match e.key with | .str _ _=>true|_=>false)=true)(gR:W.nsIn K lH "__init__"=some none){IX IY:Str}{IZ Fv:List Value}{Fw Ja:Bool}{Jb:List Str}{Fx:Option Bool}{Jc Fy:Option Addr}{Jd Je Jf Jg Jh:Option Value}{Fz:Value}{xU:Array DictEntry}{Ji:Nat}{FA:Array (Option Value)}(kg:K.lookup j9=some (excClassObj IX IY j9 sH IZ (.ref aH::fV) Fw Jb Fv Ja Fx Jc Jd Je Jf Jg Jh "ValueError.__new__"))(kh:K.lookup sH=some ⟨Fz,Fy,.dict xU Ji,FA⟩)(nL:(xU.toList.all λe=>match e.key with | .str _ _=>true|_=>false)=true)(ki:W.nsIn K sH "__init__"=some none){Mf Mg:Str}{Mh Jj:List Value}{Jk Mi:Bool}{Mj:List Str}{Jl:Option Bool}{Ml Jm:Option Addr}{Mm Mp Mq Mr Ms:Option Value}{Jo:Value}{zV:Array DictEntry}{Mt:Nat}{Jp:Array (Option Value)}(nM:K.lookup ow=some (excClassObj Mf Mg ow vV Mh (.ref aH::fV) Jk Mj Jj Mi Jl Ml Mm Mp Mq Mr Ms "ValueError.__new__"))(nN:K.lookup vV=some ⟨Jo,Jm,.dict zV Mt,Jp⟩)(qG:(zV.toList.all λe=>match e.key with | .str _ _=>true|_=>false)=true)(nO:W.nsIn K vV "__init__"=some none){Mu Mw:Str}{Mx Jq:List Value}{Jr Mz:Bool}{MA:List Str}{Js:Option Bool}{MB Jt:Option Addr}{MC MD ME MF MG:Option Value}{Ju:Value}{zW:Array DictEntry}{MH:Nat}{Jv:Array (Option Value)}(nP:K.lookup oz=some (excClassObj Mu Mw oz vW Mx (.ref aH::fV) Jr MA Jq Mz Js MB MC MD ME MF MG "ValueError.__new__"))(nQ:K.lookup vW=some ⟨Ju,Jt,.dict zW MH,Jv⟩)(qH:(zW.toList.all λe=>match e.key with | .str _ _=>true|_=>false)=true)(nR:W.nsIn K vW "__init__"=some none){Jw Jx:Str}{Jy FD:List Value}{FF Jz:Bool}{JA:List Str}{FG:Option Bool}{JB FH:Option Addr}{JC JD JE JF JG:Option Value}{FI:Value}{xV:Array DictEntry}{JH:Nat}{FJ:Array (Option Value)}(kj:K.lookup dw=some (excClassObj Jw Jx dw sI Jy (.ref aH::fV) FF JA FD Jz FG JB JC JD JE JF JG "ValueError.__new__"))(ko:K.lookup sI=some ⟨FI,FH,.dict xV JH,FJ⟩)(nS:(xV.toList.all λe=>match e.key with | .str _ _=>true|_=>false)=true)(kq:W.nsIn K sI "__init__"=some (some (.ref dW))){FL:Option Addr}{FP:Data}{FT:Array (Option Value)}(JI:W.keepIn K (.ref dw)=true)(JJ:K.lookup dW=some ⟨.type "function",FL,FP,FT⟩)(FU:W.findIn K (.ref dw) "__setattr__"=some (some (.builtin "object.__setattr__")))(FW:W.findIn K (.ref dw) "__getattribute__"=some (some (.builtin "BaseException.__getattribute__")))(FY:W.findIn K (.ref dw) "__getattr__"=some none)(FZ:W.hasDictIn K dw=true)(xW:W.findIn K (.ref dw) "name"=some none){Ga Gb:Str}{Ge DM:List Value}{DN Gf:Bool}{Gg:List Str}{DO:Option Bool}{Gh DP:Option Addr}{Gi Gj Gk Gm Gn:Option Value}{DQ:Value}{uS:Array DictEntry}{Gp:Nat}{DR:Array (Option Value)}(br:K.lookup aP=some (excClassObj Ga Gb aP oA Ge (.ref aH::fV) DN Gg DM Gf DO Gh Gi Gj Gk Gm Gn "ValueError.__new__"))(bu:K.lookup oA=some ⟨DQ,DP,.dict uS Gp,DR⟩)(aW:(uS.toList.all λe=>match e.key with | .str _ _=>true|_=>false)=true)(bw:W.nsIn K oA "__init__"=some (some (.ref dg))){DS:Option Addr}{DT:Data}{DU:Array (Option Value)}(Gq:W.keepIn K (.ref aP)=true)(Gr:K.lookup dg=some ⟨.type "function",DS,DT,DU⟩)(DV:W.findIn K (.ref aP) "__setattr__"=some (some (.builtin "object.__setattr__")))(uT:W.findIn K (.ref aP) "__getattribute__"=some (some (.builtin "BaseException.__getattribute__")))(uU:W.findIn K (.ref aP) "__getattr__"=some none)(uV:W.hasDictIn K aP=true)(vP:W.findIn K (.ref aP) "most"=some none){JK JL:Str}{JM Gs:List Value}{Gu JN:Bool}{JO:List Str}{Gv:Option Bool}{JP Gw:Option Addr}{JQ JR JS JT JU:Option Value}{Gx:Value}{xX:Array DictEntry}{JV:Nat}{Gy:Array (Option Value)}(kr:K.lookup cI=some (excClassObj JK JL cI sM JM (.ref aH::fV) Gu JO Gs JN Gv JP JQ JR JS JT JU "ValueError.__new__"))(ku:K.lookup sM=some ⟨Gx,Gw,.dict xX JV,Gy⟩)(nU:(xX.toList.all λe=>match e.key with | .str _ _=>true|_=>false)=true)(kB:W.nsIn K sM "__init__"=some (some (.ref dU))){Gz:Option Addr}{GA:Data}{GB:Array (Option Value)}(JW:W.keepIn K (.ref cI)=true)(JX:K.lookup dU=some ⟨.type "function",Gz,GA,GB⟩)(qI:W.findIn K (.ref cI) "__setattr__"=some (some (.builtin "object.__setattr__")))(qJ:W.findIn K (.ref cI) "__getattribute__"=some (some (.builtin "BaseException.__getattribute__")))(qK:W.findIn K (.ref cI) "__getattr__"=some none)(qL:W.hasDictIn K cI=true)(yQ:W.findIn K (.ref cI) "row"=some none)(vQ:W.findIn K (.ref cI) "place"=some none)(xY:W.findIn K (.ref cI) "word"=some none){BB BC:Str}{BD yR:List Value}{yS BE:Bool}{BF:List Str}{yT:Option Bool}{BG yU:Option Addr}{BH BI BJ BK BL:Option Value}{yV:Value}{p9:Array DictEntry}{BN:Nat}{yW:Array (Option Value)}(gh:K.lookup bG=some (excClassObj BB BC bG jy BD (.ref aH::fV) yS BF yR BE yT BG BH BI BJ BK BL "ValueError.__new__"))(gi:K.lookup jy=some ⟨yV,yU,.dict p9 BN,yW⟩)(jb:(p9.toList.all λe=>match e.key with | .str _ _=>true|_=>false)=true)(gj:W.nsIn K jy "__init__"=some (some (.ref cH))){yX:Option Addr}{yY:Data}{yZ:Array (Option Value)}(BO:W.keepIn K (.ref bG)=true)(BP:K.lookup cH=some ⟨.type "function",yX,yY,yZ⟩)(qb:W.findIn K (.ref bG) "__setattr__"=some (some (.builtin "object.__setattr__")))(qc:W.findIn K (.ref bG) "__getattribute__"=some (some (.builtin "BaseException.__getattribute__")))(qd:W.findIn K (.ref bG) "__getattr__"=some none)(qe:W.hasDictIn K bG=true)(um:W.findIn K (.ref bG) "row"=some none)(sO:W.findIn K (.ref bG) "cell"=some none)(ZQ:W.specialIn K (.builtin "object.__class__") "__get__"=some (some (.builtin "getset_descriptor.__get__")))(ZR:W.takesIn K (.builtin "object.__class__")=some true)(GC:W.findIn K (.ref aX) "__getattribute__"=some (some (.builtin "BaseException.__getattribute__")))(GD:W.findIn K (.ref aX) "__getattr__"=some none)(GF:W.hasDictIn K aX=true)(JY:W.keepIn K (.ref aX)=true)(GG:W.findIn K (.ref aX) "__class__"=some (some (.builtin "object.__class__")))(GH:W.mroIn K aX (.type "object")=some true)(oj:W.mroIn K aX (.type "ValueError")=some true)(cj:W.mroIn K aX (.ref aH)=some true)(eU:W.mroIn K aX (.ref aX)=some true)(fZ:W.mroIn K aX (.ref iC)=some false)(e9:W.mroIn K aX (.ref fQ)=some false)(fK:W.mroIn K aX (.ref gG)=some false)(gB:W.mroIn K aX (.ref j9)=some false)(gY:W.mroIn K aX (.ref ow)=some false)(gZ:W.mroIn K aX (.ref oz)=some false)(gC:W.mroIn K aX (.ref dw)=some false)(cE:W.mroIn K aX (.ref aP)=some false)(gD:W.mroIn K aX (.ref cI)=some false)(ff:W.mroIn K aX (.ref bG)=some false)(DW:W.findIn K (.ref aP) "__class__"=some (some (.builtin "object.__class__")))(DX:W.mroIn K aP (.type "object")=some true)(gE:W.mroIn K aP (.type "ValueError")=some true)(bT:W.mroIn K aP (.ref aH)=some true)(dO:W.mroIn K aP (.ref aX)=some false)(c7:W.mroIn K aP (.ref iC)=some false)(cF:W.mroIn K aP (.ref fQ)=some false)(cL:W.mroIn K aP (.ref gG)=some false)(dP:W.mroIn K aP (.ref j9)=some false)(eV:W.mroIn K aP (.ref ow)=some false)(eX:W.mroIn K aP (.ref oz)=some false)(dQ:W.mroIn K aP (.ref dw)=some false)(c9:W.mroIn K aP (.ref aP)=some true)(dR:W.mroIn K aP (.ref cI)=some false)(cG:W.mroIn K aP (.ref bG)=some false)(BQ:W.nsIn K mainGlobals "ValueError"=some none)(Ux:W.nsIn K mainGlobals "all"=some none)(RG:W.nsIn K mainGlobals "bool"=some none)(DY:W.nsIn K mainGlobals "enumerate"=some none)(Uy:W.nsIn K mainGlobals "int"=some none)(BR:W.nsIn K mainGlobals "isinstance"=some none)(Uz:W.nsIn K mainGlobals "len"=some none)(RH:W.nsIn K mainGlobals "list"=some none)(UA:W.nsIn K mainGlobals "max"=some none)(z_ord:W.nsIn K mainGlobals "ord"=some none)(OH:W.nsIn K mainGlobals "range"=some none)(UB:W.nsIn K mainGlobals "str"=some none)(OI:W.nsIn K mainGlobals "tuple"=some none)(UC:W.nsIn K mainGlobals "zip"=some none){OJ:Tok}(RI:W.nsIn K mainGlobals "LINE"=some (some (.str EW OJ)))(RJ:EW=("\n":Str)){za:Tok}(BS:W.nsIn K mainGlobals "MOST_SIGNS"=some (some (.int 2000 za))){xZ:Tok}(zb:W.nsIn K mainGlobals "MOST_SORTED"=some (some (.int 8 xZ))){zc:Tok}(BU:W.nsIn K mainGlobals "MOST_TEXTS"=some (some (.int 6 zc)))(OL:W.nsIn K mainGlobals "START"=some (some (.ref Bf))){MI:Option Addr}{OM:Nat}{MJ:Array (Option Value)}{MK ML:Tok}(ON:K.lookup Bf=some ⟨.type "tuple",MI,.seq #[.str ("row":Str) MK,.str ("":Str) ML] OM,MJ⟩):∃fd:FuncData,(∀(s:Shared)(v:Value),BindsTo s fd ⟨[v],[]⟩ [("_law_script",v)])/\∀base:Heap,K.In base->base.Ns mainGlobals mg->bx l.prog w K mg base fu 23 fa fd ["_law_script"] (xK K):=by
 have e:=hfa.symm.trans (W.mg_of X G U9)
 cases e
 have mo:∀{n:Str}{v:Value},W.nsIn K mainGlobals n=some (some v)->mg n=some v:=λe=>W.mg_of X G e
 have mz:∀{n:Str},W.nsIn K mainGlobals n=some none->mg n=none:=λe=>W.mg_none_of X G e
 obtain⟨a0,ZS,F0⟩:=l0
 have b0:=F0.uZ (ps:=["sign"])
 obtain⟨a1,fd1,F1⟩:=l1
 have b1:=F1.qW (ps:=["thing","least","most"])
 have F2:=Nx (st:=bh) l2 c2 k2
 have b2:Binds K (W.fnOf "__init__" "Dialect.__init__" (cY bh) (bZ bh) (au bh) (.ref bL) XW XX XY XS Vi XZ) ["self","parts","quotes","frees","twin","wide","thin","stray"] []:=λs us hK hl=>match us,hl with |[_,_,_,_,_,_,_,_],_=>BindsTo.of_defaults (T:=bL) rfl (hK _ _ d2) rfl rfl rfl
 obtain⟨a3,i3,fd3,F3⟩:=l3
 have b3:=F3.uZ (ps:=["self"])
 obtain⟨a4,fd4,F4⟩:=l4
 have b4:=F4.uZ (ps:=["told"])
 obtain⟨a5,i5,fd5,F5⟩:=l5
 have b5:=F5.jF (ps:=["self","dialect"])
 obtain⟨fd6,F6⟩:=l6
 have b6:=F6.qW (ps:=["self","row","cell"])
 obtain⟨fd7,F7⟩:=l7
 have b7:=F7.Tr (ps:=["self","row","place","word"])
 obtain⟨fd8,F8⟩:=l8
 have b8:=F8.jF (ps:=["self","most"])
 obtain⟨fd9,F9⟩:=l9
 have b9:=F9.jF (ps:=["self","name"])
 obtain⟨a10,X4,ZT⟩:=Zg
 have b10:=ZT.qW (ps:=["thing","least","most"])
 obtain⟨WZ,X5,ZU⟩:=l11
 have Q2:=ZU.uZ (ps:=["text"])
 obtain⟨a12,X6,ZV⟩:=l12
 have b12:=ZV.uZ (ps:=["thing"])
 obtain⟨Xy,X7,ZW⟩:=l13
 have b13:=ZW.qW (ps:=["dialect","state","sign"])
 obtain⟨Oh,X8,ZX⟩:=l14
 have b14:=ZX.jF (ps:=["dialect","sign"])
 obtain⟨a15,Yb,ZY⟩:=l15
 have b15:=ZY.qW (ps:=["dialect","quote","sign"])
 obtain⟨a16,Yc,ZZ⟩:=l16
 have b16:=ZZ.jF (ps:=["dialect","sign"])
 obtain⟨a17,Yd,Z0⟩:=l17
 have b17:=Z0.qW (ps:=["dialect","quote","sign"])
 obtain⟨a18,Ye,Z1⟩:=l18
 have Oq:=Z1.qW (ps:=["dialect","quote","sign"])
 obtain⟨a19,i19,Yg,Yh⟩:=l19
 have Xz:=Yh.qW (ps:=["self","state","sign"])
 obtain⟨a20,Yi,Z2⟩:=l20
 have b20:=Z2.uZ (ps:=["thing"])
 obtain⟨Ot,Yj,Z3⟩:=l21
 have b21:=Z3.jF (ps:=["dialect","text"])
 obtain⟨a22,Yk,Z4⟩:=l22
 have b22:=Z4.uZ (ps:=["walked"])
 obtain⟨XA,Yl,Z5⟩:=l23
 have b23:=Z5.jF (ps:=["text","kinds"])
 obtain⟨Rh,Ym,Z6⟩:=l24
 have b24:=Z6.jF (ps:=["dialect","text"])
 obtain⟨a25,Yn,Z7⟩:=l25
 have b25:=Z7.jF (ps:=["dialects","texts"])
 obtain⟨WV,Yo,Z8⟩:=l26
 have b26:=Z8.jF (ps:=["dialects","text"])
 obtain⟨a27,Yp,Z9⟩:=l27
 have b27:=Z9.jF (ps:=["readings","places"])
 obtain⟨XC,Yq,F28⟩:=l28
 have T3:=F28.jF (ps:=["all_readings","places"])
 obtain⟨T5,Yr,F29⟩:=l29
 have b29:=F29.qW (ps:=["all_readings","places","depth"])
 obtain⟨a30,Ys,F30⟩:=l30
 have b30:=F30.jF (ps:=["dialects","texts"])
 obtain⟨T4,Yt,F31⟩:=l31
 have b31:=F31.jF (ps:=["thing","places"])
 obtain⟨a32,Yu,F32⟩:=l32
 have b32:=F32.Tr (ps:=["all_readings","places","at","branches"])
 obtain⟨a33,Yv,F33⟩:=l33
 have b33:=F33.qW (ps:=["all_readings","places","thing"])
 obtain⟨WM,Yw,F34⟩:=l34
 have b34:=F34.qW (ps:=["dialects","texts","tree"])
 obtain⟨a35,Yx,F35⟩:=l35
 have XD:=F35.jF (ps:=["_law_script","_law_k"])
 obtain⟨WT,Yy,F36⟩:=l36
 have b36:=F36.jF (ps:=["_law_number_here","_law_salt"])
 obtain⟨a37,Yz,F37⟩:=l37
 have XE:=F37.jF (ps:=["_law_cell","_law_salt"])
 obtain⟨a38,YA,F38⟩:=l38
 have WN:=F38.qW (ps:=["_law_number_here","_law_many","_law_menu_here"])
 obtain⟨WU,YB,F39⟩:=l39
 have b39:=F39.uZ (ps:=["_law_way"])
 obtain⟨a40,YC,F40⟩:=l40
 have XF:=F40.uZ (ps:=["_law_cell"])
 obtain⟨WQ,YD,F41⟩:=l41
 have b41:=F41.jF (ps:=["_law_cell","_law_many"])
 obtain⟨a42,YE,F42⟩:=l42
 have b42:=F42.jF (ps:=["_law_told_here","_law_x"])
 obtain⟨a43,YF,F43⟩:=l43
 have b43:=F43.jF (ps:=["_law_cells","_law_many"])
 obtain⟨a44,YG,F44⟩:=l44
 have b44:=F44.uZ (ps:=["_law_tolds_here"])
 obtain⟨a45,YH,F45⟩:=l45
 have b45:=F45.qW (ps:=["_law_cell","_law_tolds_here","_law_most"])
 obtain⟨WR,YI,F46⟩:=l46
 have b46:=F46.uZ (ps:=["_law_e"])
 obtain⟨a47,YJ,F47⟩:=l47
 have b47:=F47.jF (ps:=["_law_dialects","_law_texts"])
 obtain⟨a48,YK,F48⟩:=l48
 have b48:=F48.qW (ps:=["_law_many","_law_texts","_law_spoilt"])
 have F49:=KN (st:=oW) l49 c49 k49
 have b49:=F49.uZ (ps:=["_law_script"])
 exact⟨W.fnOf "law" "law" (cY oW) (bZ oW) (au oW) .none RB RC RD RA Ox RE,λs v=>.of_eq rfl,λbase _ _=>Ry (av:=λi=>[nF,iZ,cA,nG,se,lW,cH,dU,dg,dW,xM,jv,zS,iu,lX,pV,pW,lY,sf,uM,sj,Mc,Dq,xN,sq,pX,pY,xO,j8,pZ,zU,sr,jw,nH,Hz,nI,su,p7,uN,sy,uO,sA,xP,sC,uP,uQ,sD,nJ,xQ,fa,bF,i0,aH,f7,aX,sE,iC,ou,fQ,jx,gG,lH,j9,sH,ow,vV,oz,vW,dw,sI,aP,oA,cI,sM,bG,jy,Bf,bL].getD i fa) (aN:=λi=>[ZS,fd1,FN "__init__" "Dialect.__init__" bh (.ref bL) XW XX XY XS Vi XZ,fd3,fd4,fd5,fd6,fd7,fd8,fd9,X4,X5,X6,X7,X8,Yb,Yc,Yd,Ye,Yg,Yi,Yj,Yk,Yl,Ym,Yn,Yo,Yp,Yq,Yr,Ys,Yt,Yu,Yv,Yw,Yx,Yy,Yz,YA,YB,YC,YD,YE,YF,YG,YH,YI,YJ,YK,FN "law" "law" oW .none RB RC RD RA Ox RE].getD i (ZS)) (cW:=λi=>[EW].getD i "") ⟨F0,b0,mo a0,F1,b1,mo a1,F2,b2,F3,b3,⟨a3,i3,F3.kp⟩,F4,b4,mo a4,F5,b5,F6,b6,F7,b7,F8,b8,F9,b9,ZT,b10,mo a10,ZU,Q2,mo WZ,ZV,b12,mo a12,ZW,b13,mo Xy,ZX,b14,mo Oh,ZY,b15,mo a15,ZZ,b16,mo a16,Z0,b17,mo a17,Z1,Oq,mo a18,Yh,Xz,⟨a19,i19,Yh.kp⟩,Z2,b20,mo a20,Z3,b21,mo Ot,Z4,b22,mo a22,Z5,b23,mo XA,Z6,b24,mo Rh,Z7,b25,mo a25,Z8,b26,mo WV,Z9,b27,mo a27,F28,T3,mo XC,F29,b29,mo T5,F30,b30,mo a30,F31,b31,mo T4,F32,b32,mo a32,F33,b33,mo a33,F34,b34,mo WM,F35,XD,mo a35,F36,b36,mo WT,F37,XE,mo a37,F38,WN,mo a38,F39,b39,mo WU,F40,XF,mo a40,F41,b41,mo WQ,F42,b42,mo a42,F43,b43,mo a43,F44,b44,mo a44,F45,b45,mo a45,F46,b46,mo WR,F47,b47,mo a47,F48,b48,mo a48,F49,b49,mo U9,⟨EY,EZ,E1,E2⟩,mo EX,⟨E3,a2,i2,E4⟩,bW,cy,bX,eg,cQ,cR,dj,⟨OA,OB,OC,OD⟩,mo Oz,⟨OE,a5,i5,OG⟩,bK,mo g8,⟨⟨_,_,_,_,_,_,_,_,_,_,_,_,_,_,dz⟩,⟨_,_,_,_,_,dB,f9⟩,dD⟩,⟨vM,vN,vO⟩,mo tZ,⟨⟨_,_,_,_,_,_,_,_,_,_,_,_,_,_,bH⟩,⟨_,_,_,_,_,bI,bq⟩,bJ⟩,mo qE,⟨⟨_,_,_,_,_,_,_,_,_,_,_,_,_,_,i7⟩,⟨_,_,_,_,_,i8,lK⟩,i9⟩,mo lI,⟨⟨_,_,_,_,_,_,_,_,_,_,_,_,_,_,gb⟩,⟨_,_,_,_,_,gc,ja⟩,gg⟩,mo nK,⟨⟨_,_,_,_,_,_,_,_,_,_,_,_,_,_,gP⟩,⟨_,_,_,_,_,gQ,jW⟩,gR⟩,mo t6,⟨⟨_,_,_,_,_,_,_,_,_,_,_,_,_,_,kg⟩,⟨_,_,_,_,_,kh,nL⟩,ki⟩,mo xR,⟨⟨_,_,_,_,_,_,_,_,_,_,_,_,_,_,nM⟩,⟨_,_,_,_,_,nN,qG⟩,nO⟩,mo xS,⟨⟨_,_,_,_,_,_,_,_,_,_,_,_,_,_,nP⟩,⟨_,_,_,_,_,nQ,qH⟩,nR⟩,mo t7,⟨⟨_,_,_,_,_,_,_,_,_,_,_,_,_,_,kj⟩,⟨_,_,_,_,_,ko,nS⟩,kq⟩,JI,⟨_,JJ,rfl⟩,⟨xW,FU,FW,FY,FZ⟩,mo qF,⟨⟨_,_,_,_,_,_,_,_,_,_,_,_,_,_,br⟩,⟨_,_,_,_,_,bu,aW⟩,bw⟩,Gq,⟨_,Gr,rfl⟩,⟨vP,DV,uT,uU,uV⟩,mo t9,⟨⟨_,_,_,_,_,_,_,_,_,_,_,_,_,_,kr⟩,⟨_,_,_,_,_,ku,nU⟩,kB⟩,JW,⟨_,JX,rfl⟩,⟨yQ,qI,qJ,qK,qL⟩,⟨vQ,qI,qJ,qK,qL⟩,⟨xY,qI,qJ,qK,qL⟩,mo lJ,⟨⟨_,_,_,_,_,_,_,_,_,_,_,_,_,_,gh⟩,⟨_,_,_,_,_,gi,jb⟩,gj⟩,BO,⟨_,BP,rfl⟩,⟨um,qb,qc,qd,qe⟩,⟨sO,qb,qc,qd,qe⟩,⟨GC,GD,GF,GG,ZQ,ZR,GH⟩,JY,O3 oj,dJ 'e' (cB.mk ⟨_,_,_,_,_,_,_,_,_,_,_,_,_,_,dz⟩ ⟨_,_,_,_,_,dB,f9⟩ dD) cj,dJ 'e' 'e' eU,dJ 'e' (cB.mk ⟨_,_,_,_,_,_,_,_,_,_,_,_,_,_,i7⟩ ⟨_,_,_,_,_,i8,lK⟩ i9) fZ,dJ 'e' (cB.mk ⟨_,_,_,_,_,_,_,_,_,_,_,_,_,_,gb⟩ ⟨_,_,_,_,_,gc,ja⟩ gg) e9,dJ 'e' (cB.mk ⟨_,_,_,_,_,_,_,_,_,_,_,_,_,_,gP⟩ ⟨_,_,_,_,_,gQ,jW⟩ gR) fK,dJ 'e' (cB.mk ⟨_,_,_,_,_,_,_,_,_,_,_,_,_,_,kg⟩ ⟨_,_,_,_,_,kh,nL⟩ ki) gB,dJ 'e' (cB.mk ⟨_,_,_,_,_,_,_,_,_,_,_,_,_,_,nM⟩ ⟨_,_,_,_,_,nN,qG⟩ nO) gY,dJ 'e' (cB.mk ⟨_,_,_,_,_,_,_,_,_,_,_,_,_,_,nP⟩ ⟨_,_,_,_,_,nQ,qH⟩ nR) gZ,dJ 'e' (cB.mk ⟨_,_,_,_,_,_,_,_,_,_,_,_,_,_,kj⟩ ⟨_,_,_,_,_,ko,nS⟩ kq) gC,dJ 'e' 'f' cE,dJ 'e' (cB.mk ⟨_,_,_,_,_,_,_,_,_,_,_,_,_,_,kr⟩ ⟨_,_,_,_,_,ku,nU⟩ kB) gD,dJ 'e' (cB.mk ⟨_,_,_,_,_,_,_,_,_,_,_,_,_,_,gh⟩ ⟨_,_,_,_,_,gi,jb⟩ gj) ff,⟨uT,uU,uV,DW,ZQ,ZR,DX⟩,O3 gE,dJ 'f' (cB.mk ⟨_,_,_,_,_,_,_,_,_,_,_,_,_,_,dz⟩ ⟨_,_,_,_,_,dB,f9⟩ dD) bT,dJ 'f' 'e' dO,dJ 'f' (cB.mk ⟨_,_,_,_,_,_,_,_,_,_,_,_,_,_,i7⟩ ⟨_,_,_,_,_,i8,lK⟩ i9) c7,dJ 'f' (cB.mk ⟨_,_,_,_,_,_,_,_,_,_,_,_,_,_,gb⟩ ⟨_,_,_,_,_,gc,ja⟩ gg) cF,dJ 'f' (cB.mk ⟨_,_,_,_,_,_,_,_,_,_,_,_,_,_,gP⟩ ⟨_,_,_,_,_,gQ,jW⟩ gR) cL,dJ 'f' (cB.mk ⟨_,_,_,_,_,_,_,_,_,_,_,_,_,_,kg⟩ ⟨_,_,_,_,_,kh,nL⟩ ki) dP,dJ 'f' (cB.mk ⟨_,_,_,_,_,_,_,_,_,_,_,_,_,_,nM⟩ ⟨_,_,_,_,_,nN,qG⟩ nO) eV,dJ 'f' (cB.mk ⟨_,_,_,_,_,_,_,_,_,_,_,_,_,_,nP⟩ ⟨_,_,_,_,_,nQ,qH⟩ nR) eX,dJ 'f' (cB.mk ⟨_,_,_,_,_,_,_,_,_,_,_,_,_,_,kj⟩ ⟨_,_,_,_,_,ko,nS⟩ kq) dQ,dJ 'f' 'f' c9,dJ 'f' (cB.mk ⟨_,_,_,_,_,_,_,_,_,_,_,_,_,_,kr⟩ ⟨_,_,_,_,_,ku,nU⟩ kB) dR,dJ 'f' (cB.mk ⟨_,_,_,_,_,_,_,_,_,_,_,_,_,_,gh⟩ ⟨_,_,_,_,_,gi,jb⟩ gj) cG,mz BQ,mz Ux,mz RG,mz DY,mz Uy,mz BR,mz Uz,mz RH,mz UA,mz z_ord,mz OH,mz UB,mz OI,mz UC,⟨_,mo RI⟩,RJ,⟨_,mo BS⟩,⟨_,mo zb⟩,⟨_,mo BU⟩,mo OL,⟨_,_,_,ON,rfl,rfl,(by show 2<=sizeLine;decide),(.cons ⟨_,rfl⟩ (.cons ⟨_,rfl⟩ .nil))⟩⟩⟩
theorem walk{l:W.OpenLaw}{q:Program}{loose:List Str}{XP:(Str->Option Value)->Heap->Prop}{YP:World->Heap->Prop}{d:DefRec}{K:Params->W.Frag}(hn:l.most=some 63)(hdf:d.params.defaults=[])(hY:∀(w:World)(h:Heap),YP w h->(K w.params).In h)(F:∀(w:World)(mg:Str->Option Value)(fa:Addr)(h:Heap),(K w.params).In h->h.Ns mainGlobals mg->mg d.name=some (.ref fa)->∃fd:FuncData,(∀(s:Shared)(u:Value),BindsTo s fd ⟨[u],[]⟩ [("_law_script",u)])/\∀base:Heap,(K w.params).In base->base.Ns mainGlobals mg->bx l.prog w (K w.params) mg base fu 23 fa fd ["_law_script"] (xK (K w.params))):W.WalkO q loose XP YP l.row.toRowW d [] (λf vs=>PySem.call f vs) :=
 L2.Nk (n:=63) (k:=23) (x:="_law_script") (CX:=λ_=>fu) (sp:=λw=>xK (K w.params)) hn 'c' hdf ⟨rfl,by decide,by decide⟩ hY F (λ_ _ a ns hl _ hS=>⟨a,ns,rfl,hS,hl,λ_=>rfl⟩) λ_ _ _ _ _ z=>z
end My
def PySem.W.Fast.tw3266209733126836478:Unit:=()
def PySem.W.Fast.tw12529380505848666794:Unit:=()
def PySem.W.Fast.tw5536012422516806425:Unit:=()
def PySem.W.Fast.tw11770441220714644182:Unit:=()
def PySem.W.Fast.tw1363413951495185302:Unit:=()
def PySem.W.Fast.tw8381764080866582041:Unit:=()
def PySem.W.Fast.tw14934489452133075438:Unit:=()
def PySem.W.Fast.tw1147623179447279374:Unit:=()
def PySem.W.Fast.tw9029707459338952414:Unit:=()
def PySem.W.Fast.tw15303539387618439686:Unit:=()
def PySem.W.Fast.tw586163869134672820:Unit:=()
def PySem.W.Fast.tw8838190621519412207:Unit:=()
def PySem.W.Fast.tw10822118017262825151:Unit:=()
def PySem.W.Fast.tw13299528940726858492:Unit:=()
def PySem.W.Fast.tw13272095220977577003:Unit:=()
def PySem.W.Fast.tw11640417459539734589:Unit:=()
def PySem.W.Fast.tw6085911950391998609:Unit:=()
def PySem.W.Fast.tw6021352635755284701:Unit:=()
def PySem.W.Fast.tw859947885326601255:Unit:=()
def PySem.W.Fast.tw15839174413448917228:Unit:=()
def PySem.W.Fast.tw8401090662715302752:Unit:=()
def PySem.W.Fast.tw5831360001671614527:Unit:=()
def PySem.W.Fast.tw9184160993391061013:Unit:=()
def PySem.W.Fast.tw7664411548204457619:Unit:=()
def PySem.W.Fast.tw13065246169752399153:Unit:=()
def PySem.W.Fast.tw2229371513784247882:Unit:=()
def PySem.W.Fast.tw11595697421380686308:Unit:=()
def PySem.W.Fast.tw12797737102761914303:Unit:=()
def PySem.W.Fast.tw11942081317381158899:Unit:=()
def PySem.W.Fast.tw6367910106909392883:Unit:=()
def PySem.W.Fast.tw12796741903592948385:Unit:=()
def PySem.W.Fast.tw14975588029002246642:Unit:=()
def PySem.W.Fast.tw16649790161704562074:Unit:=()
def PySem.W.Fast.tw17756536600230113556:Unit:=()
def PySem.W.Fast.tw1709056355817087827:Unit:=()
def PySem.W.Fast.tw7819483337128695007:Unit:=()
def PySem.W.Fast.tw2803182814354132952:Unit:=()
def PySem.W.Fast.tw160517471300212088:Unit:=()
def PySem.W.Fast.tw12859581454252091524:Unit:=()
def PySem.W.Fast.tw5529926719835956235:Unit:=()
def PySem.W.Fast.tw2739690630232830233:Unit:=()
def PySem.W.Fast.tw6420166533328846427:Unit:=()
def PySem.W.Fast.tw3120425756334424845:Unit:=()
def PySem.W.Fast.tw9827037717448839444:Unit:=()
def PySem.W.Fast.tw11388135757082593457:Unit:=()
def PySem.W.Fast.tw5313170880720653972:Unit:=()
def PySem.W.Fast.tw9557555422383377683:Unit:=()
def PySem.W.Fast.tw10935510682180814916:Unit:=()
def PySem.W.Fast.tw10111594705203896796:Unit:=()
def PySem.W.Fast.tw16951403816858179745:Unit:=()
def PySem.W.Fast.tw1041608512260621407:Unit:=()
def PySem.W.Fast.tw6077398769618111092:Unit:=()
def PySem.W.Fast.tw14052937511237296231:Unit:=()
def PySem.W.Fast.tw12616960733440832793:Unit:=()
def PySem.W.Fast.tw7148992692091951054:Unit:=()
def PySem.W.Fast.tw7282301062318443992:Unit:=()
def PySem.W.Fast.tw16860223320294413262:Unit:=()
def PySem.W.Fast.tw8794245814253267424:Unit:=()
def PySem.W.Fast.tw15405548285127915356:Unit:=()
def PySem.W.Fast.tw14355195150023617884:Unit:=()
def PySem.W.Fast.tw2632885580231073573:Unit:=()
def PySem.W.Fast.tw3405349144119428004:Unit:=()
def PySem.W.Fast.tw13047099387177016000:Unit:=()
def PySem.W.Fast.tw13669395984668888697:Unit:=()
def PySem.W.Fast.tw2180111273623653480:Unit:=()
def PySem.W.Fast.tw17827182290461272441:Unit:=()
def PySem.W.Fast.tw13893583546820374164:Unit:=()
def PySem.W.Fast.tw10591457178936856311:Unit:=()
def PySem.W.Fast.tw7272532108695033728:Unit:=()
def PySem.W.Fast.tw16245220563243000325:Unit:=()
def PySem.W.Fast.tw8296929383970306422:Unit:=()
def PySem.W.Fast.tw487492711301810386:Unit:=()
def PySem.W.Fast.tw8198889631759652965:Unit:=()
def PySem.W.Fast.tw12036185590408139799:Unit:=()
def PySem.W.Fast.tw6899758450984382877:Unit:=()
def PySem.W.Fast.tw5013588203687652373:Unit:=()
def PySem.W.Fast.tw5220373112030070252:Unit:=()
def PySem.W.Fast.tw8603479706276062753:Unit:=()
def PySem.W.Fast.tw6166047429416144724:Unit:=()
def PySem.W.Fast.tw14008784301013400687:Unit:=()
def PySem.W.Fast.tw11966213844365492366:Unit:=()
def PySem.W.Fast.tw6621155408644022319:Unit:=()
def PySem.W.Fast.tw2556302836544749058:Unit:=()
def PySem.W.Fast.tw10818390080281946553:Unit:=()
def PySem.W.Fast.tw10394781453488059981:Unit:=()
def PySem.W.Fast.tw5143993434755393749:Unit:=()
def PySem.W.Fast.tw15450986257743133582:Unit:=()
def PySem.W.Fast.tw553405284648915349:Unit:=()
def PySem.W.Fast.tw3977300190020286885:Unit:=()
def PySem.W.Fast.tw7800411710242460299:Unit:=()
def PySem.W.Fast.tw3469465658175805179:Unit:=()
def PySem.W.Fast.tw5564297414029947990:Unit:=()
def PySem.W.Fast.tw14784901126866845533:Unit:=()
def PySem.W.Fast.tw7521751916006011476:Unit:=()
def PySem.W.Fast.tw2785466573359324715:Unit:=()
def PySem.W.Fast.tw16923695807338677003:Unit:=()
def PySem.W.Fast.tw16477124567240762582:Unit:=()
def PySem.W.Fast.tw11978234082101723762:Unit:=()
def PySem.W.Fast.tw2482160147271063913:Unit:=()
def PySem.W.Fast.tw6215292923352375703:Unit:=()
def PySem.W.Fast.tw9533596161699360497:Unit:=()
def PySem.W.Fast.tw7894824870350046088:Unit:=()
def PySem.W.Fast.tw4503557708758358985:Unit:=()
def PySem.W.Fast.tw14087555504072015162:Unit:=()
def PySem.W.Fast.tw14673152885955778089:Unit:=()
def PySem.W.Fast.tw16931021257138040870:Unit:=()
def PySem.W.Fast.tw10079903758642915934:Unit:=()
def PySem.W.Fast.tw16008552195843538598:Unit:=()
def PySem.W.Fast.tw17517551179923878672:Unit:=()
def PySem.W.Fast.tw6401702042161520582:Unit:=()
def PySem.W.Fast.tw13169305471503300178:Unit:=()
def PySem.W.Fast.tw17964623442135049946:Unit:=()
def PySem.W.Fast.tw16721010621531071299:Unit:=()
def PySem.W.Fast.tw6643310456864762491:Unit:=()
def PySem.W.Fast.tw2100634995578825871:Unit:=()
def PySem.W.Fast.tw3876992698379824937:Unit:=()
def PySem.W.Fast.tw3050005178928540239:Unit:=()
def PySem.W.Fast.tw5872415578962676663:Unit:=()
def PySem.W.Fast.tw11451486245632016080:Unit:=()
def PySem.W.Fast.tw10074560278442802676:Unit:=()
def PySem.W.Fast.tw9350400208878961337:Unit:=()
def PySem.W.Fast.tw16506788939309392577:Unit:=()
def PySem.W.Fast.tw10355450284055451859:Unit:=()
def PySem.W.Fast.tw8954427137357642615:Unit:=()
def PySem.W.Fast.tw1694231331963943713:Unit:=()
def PySem.W.Fast.tw10838923955397301108:Unit:=()
def PySem.W.Fast.tw17663963043642416683:Unit:=()
def PySem.W.Fast.tw782055132025870632:Unit:=()
def PySem.W.Fast.tw1959695057620849445:Unit:=()
def PySem.W.Fast.tw18158505262895267636:Unit:=()
def PySem.W.Fast.tw18007395185206464115:Unit:=()
def PySem.W.Fast.tw8568099797482129699:Unit:=()
def PySem.W.Fast.tw10519334138728342591:Unit:=()
def PySem.W.Fast.tw2243397102908272357:Unit:=()
def PySem.W.Fast.tw11888354727423154281:Unit:=()
def PySem.W.Fast.tw1927135724982843754:Unit:=()
def PySem.W.Fast.tw17945686796223238719:Unit:=()
def PySem.W.Fast.tw10712210886447686185:Unit:=()
def PySem.W.Fast.tw18301624001351146274:Unit:=()
def PySem.W.Fast.tw873046414642870269:Unit:=()
def PySem.W.Fast.tw9671415759069729059:Unit:=()
def PySem.W.Fast.tw13078256133976022422:Unit:=()
def PySem.W.Fast.tw987090617920610695:Unit:=()
def PySem.W.Fast.tw64292567402229958:Unit:=()
def PySem.W.Fast.tw6355743745572330618:Unit:=()
def PySem.W.Fast.tw15729608251759653105:Unit:=()
def PySem.W.Fast.tw8220811025008960597:Unit:=()
def PySem.W.Fast.tw3409613982557204919:Unit:=()
def PySem.W.Fast.tw6888235246458361304:Unit:=()
def PySem.W.Fast.tw16219639240874024550:Unit:=()
def PySem.W.Fast.tw5726056093757803296:Unit:=()
def PySem.W.Fast.tw4072306315966879309:Unit:=()
def PySem.W.Fast.tw4162162002793043956:Unit:=()
def PySem.W.Fast.tw6298112805206332372:Unit:=()
def PySem.W.Fast.tw2811192148439302887:Unit:=()
def PySem.W.Fast.tw7469738356876984553:Unit:=()
open PySem PySem.W PyProof.Rows
set_option maxRecDepth 100000 in
set_option maxHeartbeats 0 in
theorem PySem.Challenge.cw_dialecthall_k87_trees_refused_holds : PySem.Challenge.rw_dialecthall_k87_trees_refused.Holds := by
 w_on;o_law;k_head;(case hw=>w_witness2)
 k_fill
 refine My.walk (l:=PySem.Challenge.rw_dialecthall_k87_trees_refused) rfl rfl (fun w h Y=>W.kIn_of Y) ?F
 case F =>
  intro w mg fa h KX G hmg
  refine' My.all_mk KX G hmg ?_ ?_ ?g8 ?tZ ?qE ?lI ?nK ?t6 ?xR ?xS ?t7 ?qF ?t9 ?lJ ?_ ?_ ?_ ?_ ?_ ?_ ?_ ?_ ?_ ?_ ?_ ?_ ?_ ?_ ?_ ?_ ?_ ?_ ?_ ?_ ?_ ?_ ?_ ?_ ?_ ?_ ?_ ?_ ?_ ?_ ?_ ?_ ?_ ?_ ?_ ?_ ?_ ?_ ?_ ?_ ?_ ?_ ?_ ?_ ?_ ?_ ?_ ?_ ?_ ?_ ?_ ?_ ?_ ?_ ?_ ?_ ?_ ?_ ?_ ?_ ?_ ?_ ?_ ?_ ?_ ?_ ?_ ?_ ?_ ?_ ?_ ?_ ?_ ?_ ?_ ?_ ?_ ?_ ?dz ?dB ?_ ?dD ?_ ?_ ?_ ?bH ?bI ?_ ?bJ ?i7 ?i8 ?_ ?i9 ?gb ?gc ?_ ?gg ?gP ?gQ ?_ ?gR ?kg ?kh ?_ ?ki ?nM ?nN ?_ ?nO ?nP ?nQ ?_ ?nR ?kj ?ko ?_ ?kq ?_ ?_ ?_ ?_ ?_ ?_ ?_ ?br ?bu ?_ ?bw ?_ ?_ ?_ ?_ ?_ ?_ ?_ ?kr ?ku ?_ ?kB ?_ ?_ ?_ ?_ ?_ ?_ ?_ ?_ ?_ ?gh ?gi ?_ ?gj ?_ ?_ ?_ ?_ ?_ ?_ ?_ ?_ ?_ ?_ ?_ ?_ ?_ ?_ ?_ ?_ ?_ ?_ ?_ ?_ ?_ ?_ ?_ ?_ ?_ ?_ ?_ ?_ ?_ ?_ ?_ ?_ ?_ ?_ ?_ ?_ ?_ ?_ ?_ ?_ ?_ ?_ ?_ ?_ ?_ ?_ ?_ ?_ ?_ ?_ ?_ ?_ ?_ ?_ ?_ ?_ ?_ ?_ ?_ ?_ ?_ ?_ ?_ ?_ ?_
  (case g8=>k_is)
  (case tZ=>k_is)
  (case qE=>k_is)
  (case lI=>k_is)
  (case nK=>k_is)
  (case t6=>k_is)
  (case xR=>k_is)
  (case xS=>k_is)
  (case t7=>k_is)
  (case qF=>k_is)
  (case t9=>k_is)
  (case lJ=>k_is)
  (case dz=>k_is)
  (case dB=>k_is)
  (case dD=>k_is)
  (case bH=>k_is)
  (case bI=>k_is)
  (case bJ=>k_is)
  (case i7=>k_is)
  (case i8=>k_is)
  (case i9=>k_is)
  (case gb=>k_is)
  (case gc=>k_is)
  (case gg=>k_is)
  (case gP=>k_is)
  (case gQ=>k_is)
  (case gR=>k_is)
  (case kg=>k_is)
  (case kh=>k_is)
  (case ki=>k_is)
  (case nM=>k_is)
  (case nN=>k_is)
  (case nO=>k_is)
  (case nP=>k_is)
  (case nQ=>k_is)
  (case nR=>k_is)
  (case kj=>k_is)
  (case ko=>k_is)
  (case kq=>k_is)
  (case br=>k_is)
  (case bu=>k_is)
  (case bw=>k_is)
  (case kr=>k_is)
  (case ku=>k_is)
  (case kB=>k_is)
  (case gh=>k_is)
  (case gi=>k_is)
  (case gj=>k_is)
  all_goals try first | (refine' L2.FQ.of ?a ?l ?c ?k;(case a=>k_is);(case l=>k_is);(case c=>k_is);(case k=>k_is)) | (refine' L2.FV.of ?a ?i ?l ?c ?k;(case a=>k_is);(case i=>k_is);(case l=>k_is);(case c=>k_is);(case k=>k_is)) | (refine' L2.FE.of ?l ?c ?k;(case l=>k_is);(case c=>k_is);(case k=>k_is)) | k_is | rfl
