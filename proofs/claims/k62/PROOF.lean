import PyProof.Rows.All
import Wide.All
import OpenK.AllK
import Wide.FinOn
import Lean
import PyProof.EqAt
import PyProof.EqKinds
import PyProof.TupleCall
import PyProof.JoinWalk
import PyProof.DictIter
import PyProof.SeqI3
import PyProof.WalkInts
import PyProof.DictTruth
import PyProof.ListRange
import PyProof.DictWalks
import PyProof.DictRoadsH
import PyProof.NeKinds
import PySem.Challenge.RW_dialecthall_k62_alike_ones
set_option Elab.async false
set_option linter.all false
set_option maxRecDepth 100000
theorem aag:type_of% @PySem.wpAny_bind:=@PySem.wpAny_bind
theorem aah:type_of% @if_neg:=@if_neg
theorem aai:type_of% @if_pos:=@if_pos
theorem aaj:type_of% @Nat.le_refl:=@Nat.le_refl
theorem aak:type_of% @PySem.wpAny_pure:=@PySem.wpAny_pure
theorem aal:type_of% @List.getElem?_eq_some_iff:=@List.getElem?_eq_some_iff
theorem aam:type_of% @Array.length_toList:=@Array.length_toList
theorem aan:type_of% @PySem.Heap.get?_push_of_some:=@PySem.Heap.get?_push_of_some
theorem aao:type_of% @Nat.le_trans:=@Nat.le_trans
theorem aap:type_of% @List.size_toArray:=@List.size_toArray
theorem aaq:type_of% @List.length_map:=@List.length_map
theorem aar:type_of% @decide_eq_true:=@decide_eq_true
theorem aas:type_of% @decide_eq_false:=@decide_eq_false
theorem aat:type_of% @Bool.false_ne_true:=@Bool.false_ne_true
theorem aau:type_of% @List.mem_singleton:=@List.mem_singleton
theorem aav:type_of% @List.length_append:=@List.length_append
theorem aaw:type_of% @List.mem_cons_of_mem:=@List.mem_cons_of_mem
theorem aax:type_of% @PySem.Heap.lt_size:=@PySem.Heap.lt_size
theorem aay:type_of% @PySem.Heap.get?_push_size:=@PySem.Heap.get?_push_size
theorem aaz:type_of% @List.take_of_length_le:=@List.take_of_length_le
theorem aaA:type_of% @List.mem_cons_self:=@List.mem_cons_self
theorem aaB:type_of% @List.mem_append_right:=@List.mem_append_right
theorem aaC:type_of% @Option.some.inj:=@Option.some.inj
theorem aaD:type_of% @Bool.false_eq_true:=@Bool.false_eq_true
theorem aaE:type_of% @List.mem_cons:=@List.mem_cons
theorem aaF:type_of% @List.mem_map:=@List.mem_map
theorem aaG:type_of% @Nat.lt_of_lt_of_le:=@Nat.lt_of_lt_of_le
theorem aaH:type_of% @List.length_cons:=@List.length_cons
theorem aaI:type_of% @Nat.lt_of_le_of_lt:=@Nat.lt_of_le_of_lt
theorem aaJ:type_of% @List.mem_of_getElem?:=@List.mem_of_getElem?
theorem aaK:type_of% @Nat.zero_le:=@Nat.zero_le
theorem aaL:type_of% @PySem.PassesOwn.never:=@PySem.PassesOwn.never
theorem aaM:type_of% @Nat.ne_of_lt:=@Nat.ne_of_lt
theorem aaN:type_of% @List.mem_append_left:=@List.mem_append_left
theorem aaO:type_of% @List.map_append:=@List.map_append
theorem aaP:type_of% @decide_eq_true_iff:=@decide_eq_true_iff
theorem aaQ:type_of% @List.length_take:=@List.length_take
theorem aaR:type_of% @PySem.wpAny_newObj_type:=@PySem.wpAny_newObj_type
theorem aaS:type_of% @List.Nodup.length_le_of_subset:=@List.Nodup.length_le_of_subset
theorem aaT:type_of% @Bool.eq_iff_iff:=@Bool.eq_iff_iff
theorem aaU:type_of% @List.append_nil:=@List.append_nil
theorem aaV:type_of% @PySem.wpAny_specialOf:=@PySem.wpAny_specialOf
theorem aaW:type_of% @if_false:=@if_false
theorem aaX:type_of% @List.map_cons:=@List.map_cons
theorem aaY:type_of% @List.mem_append:=@List.mem_append
theorem aaZ:type_of% @PySem.mem_of_lookup:=@PySem.mem_of_lookup
theorem aa0:type_of% @PySem.F.slot_dict_keyiterator_next:=@PySem.F.slot_dict_keyiterator_next
theorem aa1:type_of% @PySem.Paired.length:=@PySem.Paired.length
theorem aa2:type_of% @PySem.builtinLookup_eq_fast:=@PySem.builtinLookup_eq_fast
theorem aa3:type_of% @Int.emod_lt_of_pos:=@Int.emod_lt_of_pos
theorem aa4:type_of% @PySem.F.plainAttrs_list:=@PySem.F.plainAttrs_list
theorem aa5:type_of% @PySem.wpAny_call_entry:=@PySem.wpAny_call_entry
theorem aa6:type_of% @of_decide_eq_true:=@of_decide_eq_true
theorem aa7:type_of% @List.foldl_append:=@List.foldl_append
theorem aa8:type_of% @List.nodup_cons:=@List.nodup_cons
theorem aa9:type_of% @List.foldl_cons:=@List.foldl_cons
theorem abb:type_of% @PySem.wpAny_mono:=@PySem.wpAny_mono
theorem abd:type_of% @PySem.W.kia_one:=@PySem.W.kia_one
theorem abe:type_of% @Int.emod_nonneg:=@Int.emod_nonneg
theorem abf:type_of% @List.all_eq_true:=@List.all_eq_true
theorem abg:type_of% @List.length_replicate:=@List.length_replicate
theorem abh:type_of% @PySem.wpAny_of_eq:=@PySem.wpAny_of_eq
theorem abi:type_of% @List.mem_filter:=@List.mem_filter
theorem abj:type_of% @PySem.typeLookup_type:=@PySem.typeLookup_type
theorem abk:type_of% @List.find?_cons:=@List.find?_cons
theorem abl:type_of% @Int.toNat_natCast:=@Int.toNat_natCast
theorem abm:type_of% @PySem.wpAny_callSpecial?_slot:=@PySem.wpAny_callSpecial?_slot
theorem abn:type_of% @beq_eq_false_iff_ne:=@beq_eq_false_iff_ne
theorem abo:type_of% @Bool.and_eq_true:=@Bool.and_eq_true
theorem abp:type_of% @List.lookup_cons:=@List.lookup_cons
theorem abq:type_of% @PySem.isSubtype_type:=@PySem.isSubtype_type
theorem abr:type_of% @PySem.wpAny_field:=@PySem.wpAny_field
theorem abt:type_of% @PyProof.Rows.callWith_type1:=@PyProof.Rows.callWith_type1
theorem abu:type_of% @PySem.wpAny_Call_Name_kw:=@PySem.wpAny_Call_Name_kw
theorem abv:type_of% @PySem.Obj.data_mapFields:=@PySem.Obj.data_mapFields
theorem abw:type_of% @PySem.wpAny_passesOwn:=@PySem.wpAny_passesOwn
theorem abx:type_of% @List.any_cons:=@List.any_cons
theorem aby:type_of% @List.getElem?_map:=@List.getElem?_map
theorem abz:type_of% @List.append_assoc:=@List.append_assoc
theorem abA:type_of% @List.flatMap_cons:=@List.flatMap_cons
theorem abB:type_of% @List.getElem?_of_mem:=@List.getElem?_of_mem
theorem abC:type_of% @List.mem_flatMap:=@List.mem_flatMap
theorem abD:type_of% @List.filterMap_cons:=@List.filterMap_cons
theorem abE:type_of% @List.length_reverse:=@List.length_reverse
theorem abF:type_of% @Option.map_some:=@Option.map_some
theorem O{α:Sort _}{a:α}:a=a:=rfl
namespace L2
open PySem PySem.Spec PyProof.Rows
abbrev Key:=Sum Int Str
def sW:Key->Value->Bool
 | .inl k,v=>Value.isInt k v
 | .inr x,v=>Value.isStrOf x v
def Nq(w:World):Key->Int
 | .inl k=>hashInt k
 | .inr x=>hashStr w x
theorem bY:∀{k:Key}{v:Value},sW k v=true->(∃i t,k=Sum.inl i/\v=Value.int i t)\/(∃x t,k=Sum.inr x/\v=Value.str x t)
 | .inl i,v,h=>by
  obtain⟨t,e⟩:=Value.isInt_shape (k:=i) (v:=v) h
  exact .inl ⟨i,t,rfl,e⟩
 | .inr x,v,h=>by
  obtain⟨t,e⟩:=Value.isStrOf_shape (x:=x) (v:=v) h
  exact .inr ⟨x,t,rfl,e⟩
theorem Er(i:Int)(t:Tok):sW (.inl i) (.int i t)=true:=by simp[sW,Value.isInt]
theorem Es(x:Str)(t:Tok):sW (.inr x) (.str x t)=true:=by simp[sW,Value.isStrOf]
theorem FH(a b:Int):decide ((Sum.inl a:Key)=Sum.inl b)=(a==b):=by
 by_cases e:a=b
 ·subst e;simp
 ·have h:¬(Sum.inl a:Key)=Sum.inl b:=λq=>e (Sum.inl.inj q)
  rw[aas h]
  exact(abn.mpr e).symm
theorem FI(a b:Str):decide ((Sum.inr a:Key)=Sum.inr b)=decide (a=b):=by
 by_cases e:a=b
 ·subst e;simp
 ·have h:¬(Sum.inr a:Key)=Sum.inr b:=λq=>e (Sum.inr.inj q)
  rw[aas h,aas e]
theorem FJ(a:Int)(b:Str):decide ((Sum.inl a:Key)=Sum.inr b)=false:=aas (λq=>nomatch q)
theorem FL(a:Str)(b:Int):decide ((Sum.inr a:Key)=Sum.inl b)=false:=aas (λq=>nomatch q)
def j8(prog:Program)(w:World):PySem.KeyKind prog w Key where
 is:=sW
 hash:=Nq w
 inj:=λv a b ha hb=>by
  rcases bY ha with ⟨i,t,rfl,rfl⟩|⟨x,t,rfl,rfl⟩
  ·rcases bY hb with ⟨j,u,rfl,e⟩|⟨y,u,rfl,e⟩
   ·injection e with e1 _;rw[e1]
   ·exact nomatch e
  ·rcases bY hb with ⟨j,u,rfl,e⟩|⟨y,u,rfl,e⟩
   ·exact nomatch e
   ·injection e with e1 _;rw[e1]
 byValue:=λk v h=>by
  rcases bY h with ⟨i,t,rfl,rfl⟩|⟨x,t,rfl,rfl⟩<;>rfl
 pyHash:=λhv h=>by
  rcases bY hv with ⟨i,t,rfl,rfl⟩|⟨x,t,rfl,rfl⟩
  ·exact wpAny_pyHash_int h
  ·exact wpAny_pyHash_str h
 eqBool:=λhu hv h=>by
  rcases bY hu with ⟨i,t,rfl,rfl⟩|⟨x,t,rfl,rfl⟩
  ·rcases bY hv with ⟨j,u,rfl,rfl⟩|⟨y,u,rfl,rfl⟩
   ·rw[FH]at h;exact wpAny_eqBool_int h
   ·rw[FJ]at h;exact SeqAt.EqAt.int_str i t y u _ _ _ _ h
  ·rcases bY hv with ⟨j,u,rfl,rfl⟩|⟨y,u,rfl,rfl⟩
   ·rw[FL]at h;exact SeqAt.EqAt.str_int x t j u _ _ _ _ h
   ·rw[FI]at h;exact wpAny_eqBool_str h
 «strs» := λk x t v h=>by
  rcases bY h with ⟨i,u,rfl,e⟩|⟨y,u,rfl,e⟩
  ·exact nomatch e
  ·injection e with e1 _
   subst e1
   cases v<;>rfl
theorem AR(prog:Program)(w:World)(i:Int)(t:Tok):(j8 prog w).is (.inl i) (.int i t)=true:=Er i t
theorem AS(prog:Program)(w:World)(x:Str)(t:Tok):(j8 prog w).is (.inr x) (.str x t)=true:=Es x t
inductive V where
 |non|bl (b:Bool)|int (i:Int)|str (x:Str)|Fz (b:Array UInt8)|ye (b:UInt64)|ref (a:Addr)|ty (n:String)
 deriving DecidableEq
def RelV:V->Value->Prop
 | .non,u=>u=Value.none
 | .bl b,u=>u=Value.bool b
 | .int i,u=>∃t,u=Value.int i t
 | .str x,u=>∃t,u=Value.str x t
 | .Fz b,u=>∃t,u=Value.bytes b t
 | .ye b,u=>∃t,u=Value.float b t
 | .ref a,u=>u=Value.ref a
 | .ty n,u=>u=Value.type n
abbrev Vals:List V->List Value->Prop:=Paired RelV
theorem Vals.length{xs:List V}{us:List Value}(r:Vals xs us):xs.length=us.length:=aa1 r
theorem Vals.get:∀{xs:List V}{us:List Value}{i:Nat}{x:V},Vals xs us->xs[i]?=some x->∃u,us[i]?=some u/\RelV x u
 |_,_,_,_,.nil,e=>by simp at e
 |_,_,0,_,.cons r _,e=>by simp at e;subst e;exact⟨_,rfl,r⟩
 |_,_,i+1,x,.cons _ t,e=>by
  obtain⟨u,h1,h2⟩:=Vals.get (i:=i) (x:=x) t (by simpa using e)
  exact⟨u,by simpa using h1,h2⟩
theorem Vals.set{x:V}{u:Value}(r:RelV x u):∀{xs:List V}{us:List Value}(i:Nat),Vals xs us->Vals (xs.set i x) (us.set i u)
 |_,_,_,.nil=>.nil
 |_,_,0,.cons _ t=>.cons r t
 |_,_,i+1,.cons q t=>.cons q (Vals.set r i t)
theorem Vals.append:∀{xs ys:List V}{us ws:List Value},Vals xs us->Vals ys ws->Vals (xs++ys) (us++ws)
 |_,_,_,_,.nil,s=>s
 |_,_,_,_,.cons r t,s=>.cons r (Vals.append t s)
theorem Vals.take:∀{xs:List V}{us:List Value}(n:Nat),Vals xs us->Vals (xs.take n) (us.take n)
 |_,_,0,_=>.nil
 |_,_,_+1,.nil=>.nil
 |_,_,n+1,.cons r t=>.cons r (Vals.take n t)
theorem Vals.drop:∀{xs:List V}{us:List Value}(n:Nat),Vals xs us->Vals (xs.drop n) (us.drop n)
 |_,_,0,r=>r
 |_,_,_+1,.nil=>.nil
 |_,_,n+1,.cons _ t=>Vals.drop n t
def pQ:Option V->Option Value->Prop
 |some v,some u=>RelV v u
 |none,none=>True
 |_,_=>False
def KV{κ:Type}:List (κ×V)->List (κ×Value)->Prop:=Paired λ(p:κ×V)(q:κ×Value)=>p.1=q.1/\RelV p.2 q.2
def kV:Key->V
 | .inl i=>.int i
 | .inr x=>.str x
inductive HO where
 |lst (xs:List V)
 |tup (xs:List V)
 |dK (kvs:List (Key×V))|dT (kvs:List (List Key×V))
 |set (S:Int->Bool) (n:Nat)
 |ins (C dx:Addr) (fs:List (Str×V))
 |own (x:Addr)
 |xd (fs:List (Str×V))
 |met (f x:Addr)
 |Qf (lo hi:Int)
 |Cf (o:Obj) (u:HO)
 |Kr (ps:Array Value)
 |ext (φ:Heap->Prop)
abbrev Hp:=Addr->Option HO
def upd(H:Hp)(a:Addr)(o:HO):Hp:=λb=>if b=a then some o else H b
theorem aj{H:Hp}{a:Addr}{o:HO}:upd H a o a=some o:=by unfold upd;rw[aai rfl]
theorem aH{H:Hp}{a b:Addr}{o:HO}(h:b≠a):upd H a o b=H b:=by unfold upd;rw[aah h]
theorem oh{H:Hp}{a b:Addr}{o u:HO}(h:H a=some o)(h':H b=some u)(d:o≠u):a≠b:=by
 intro e;subst e;rw[h]at h';exact d (aaC h')
theorem aV{H:Hp}{a b:Addr}{o:HO}(h:H a=some o)(h':H b=none):a≠b:=by
 intro e;subst e;rw[h]at h';cases h'
section
variable(P:Program)(w:World)
def cM(H:Hp)(h:Heap)(a:Addr):HO->Prop
 | .lst xs=>xs.length<=sizeLine/\∃(its:List Value)(n:Nat),Vals xs its/\h.get? a=some {cls:=.type "list",data:=.seq its.toArray n}
 | .tup xs=>xs.length<=sizeLine/\∃its:List Value,Vals xs its/\IsTup h a its.toArray
 | .dK kvs=>kvs.length<=sizeLine/\(a==sysModules)=false/\∃vs,KV kvs vs/\h.DictOf (j8 P w) a vs
 | .dT kvs=>kvs.length<=sizeLine/\(a==sysModules)=false/\∃xs:List (List Key×Addr×Value),Paired (λ(p:List Key×V)(q:List Key×Addr×Value)=>p.1=q.1/\H q.2.1=some (.tup (p.1.map kV))/\RelV p.2 q.2.2) kvs xs/\∃o es ep,h.get? a=some o/\o.ExactDict/\o.data=.dict es ep/\es.toList=xs.map (entryOfKey (tupleKind (j8 P w)))/\(xs.map (·.1)).Nodup
 | .set S n=>h.SetOf (intKind P w) a S n
 | .ins C dx fs=>H dx=some (.own a)/\fs.length<=1000/\dx≠a/\h.get? a=some (W.instObj C dx)/\∃mA,h.Ns1 dx mA/\(∀f,pQ (fs.lookup f) (mA f))/\PySem.Within mA (fs.map (·.1))
 | .own _=>∃o,h.get? a=some o
 | .xd fs=>∃mA,h.Ns1 a mA/\∀f,pQ (fs.lookup f) (mA f)
 | .Qf lo hi=>∃t u v,h.get? a=some {cls:=.type "range",data:=.fields #[.int lo t,.int hi u,.int 1 v]}
 | .Cf o u=>h.get? a=some o/\cM H h a u
 | .Kr ps=>h.get? a=some {cls:=.none,data:=.fields ps}
 | .met f x=>h.get? a=some (W.methodObj (.ref f) (.ref x))
 | .ext φ=>φ h/\(∃o,h.get? a=some o)/\∀h1 h2:Heap,φ h1->(∀o,h1.get? a=some o->h2.get? a=some o)->φ h2
def sX(H:Hp)(h:Heap):Prop:=∀a o,H a=some o->cM P w H h a o
end
section
variable{P:Program}{w:World}{H H':Hp}{h h':Heap}{a:Addr}{o:HO}
theorem cM.lt(x:cM P w H h a o):a<h.objs.size:=by
 cases o with
 |lst xs=>obtain⟨_,_,_,_,e⟩:=x;exact aax e
 |tup xs=>obtain⟨_,_,_,p⟩:=x;exact p.lt
 |dK kvs=>obtain⟨_,_,_,_,o,_,_,e,_⟩:=x;exact aax e
 |dT kvs=>obtain⟨_,_,_,_,o,_,_,e,_⟩:=x;exact aax e
 |set S n=>obtain⟨o,_,_,_,e,_⟩:=x;exact aax e
 |ins C dx fs=>obtain⟨_,_,_,e,_⟩:=x;exact aax e
 |own y=>obtain⟨_,e⟩:=x;exact aax e
 |xd fs=>obtain⟨_,⟨_,_,_,e,_⟩,_⟩:=x;exact aax e
 |Qf lo hi=>obtain⟨_,_,_,e⟩:=x;exact aax e
 |Cf ob u=>obtain⟨e,_⟩:=x;exact aax e
 |Kr ps=>exact aax (show h.get? a=some _ from x)
 |met f y=>exact aax (show h.get? a=some _ from x)
 |ext φ=>obtain⟨_,⟨_,e⟩,_⟩:=x;exact aax e
theorem Paired.Et{α β:Type}{F G:α->β->Prop}:∀{l₁:List α}{l₂:List β},Paired F l₁ l₂->(∀a b,F a b->G a b)->Paired G l₁ l₂
 |_,_,.nil,_=>.nil
 |_,_,.cons r t,f=>.cons (f _ _ r) (Paired.Et t f)
theorem cM.stay(x:cM P w H h a o)(k:∀b u,(b=a\/H b=some (.own a))->h.get? b=some u->h'.get? b=some u)(ho:∀b,H b=some (.own a)->H' b=some (.own a))(ht:∀b xs,H b=some (.tup xs)->H' b=some (.tup xs)):cM P w H' h' a o:=by
 induction o with
 |lst xs=>obtain⟨z,its,n,r,e⟩:=x;exact⟨z,its,n,r,k _ _ (.inl rfl) e⟩
 |tup xs=>obtain⟨z,its,r,ob,e,c⟩:=x;exact⟨z,its,r,ob,k _ _ (.inl rfl) e,c⟩
 |dK kvs=>obtain⟨z,y,vs,r,ob,es,ep,e,c⟩:=x;exact⟨z,y,vs,r,ob,es,ep,k _ _ (.inl rfl) e,c⟩
 |dT kvs =>
  obtain⟨z,y,xs,r,ob,es,ep,e,c⟩:=x
  exact⟨z,y,xs,Paired.Et r λp q z=>⟨z.1,ht _ _ z.2.1,z.2.2⟩,ob,es,ep,k _ _ (.inl rfl) e,c⟩
 |set S n=>obtain⟨ob,es,ep,t,e,c⟩:=x;exact⟨ob,es,ep,t,k _ _ (.inl rfl) e,c⟩
 |ins C dx fs =>
  obtain⟨d,z,ne,e,mA,⟨od,es,ep,e2,c⟩,r⟩:=x
  exact⟨ho _ d,z,ne,k _ _ (.inl rfl) e,mA,⟨od,es,ep,k _ _ (.inr d) e2,c⟩,r⟩
 |own y=>obtain⟨ob,e⟩:=x;exact⟨ob,k _ _ (.inl rfl) e⟩
 |xd fs=>obtain⟨mA,⟨od,es,ep,e,c⟩,r⟩:=x;exact⟨mA,⟨od,es,ep,k _ _ (.inl rfl) e,c⟩,r⟩
 |Qf lo hi=>obtain⟨t,u,v,e⟩:=x;exact⟨t,u,v,k _ _ (.inl rfl) e⟩
 |Cf ob u ih=>obtain⟨e,q⟩:=x;exact⟨k _ _ (.inl rfl) e,ih q⟩
 |Kr ps =>
  have e:h.get? a=some {cls:=.none,data:=.fields ps}:=x
  show h'.get? a=some {cls:=.none,data:=.fields ps}
  exact k a _ (.inl rfl) e
 |met f y =>
  have e:h.get? a=some (W.methodObj (.ref f) (.ref y)):=x
  show h'.get? a=some (W.methodObj (.ref f) (.ref y))
  exact k a _ (.inl rfl) e
 |ext φ=>obtain⟨p,⟨o,e⟩,st⟩:=x;exact⟨st _ _ p λo q=>k _ _ (.inl rfl) q,⟨o,k _ _ (.inl rfl) e⟩,st⟩
theorem sX.lt(x:sX P w H h)(e:H a=some o):a<h.objs.size:=(x a o e).lt
theorem sX.fresh(x:sX P w H h)(e:h.objs.size<=a):H a=none:=by
 cases q:H a with
 |none=>rfl
 |some u=>exact absurd (aaG (x.lt q) e) (Nat.lt_irrefl _)
theorem sX.kept(x:sX P w H h)(k:∀b u,h.get? b=some u->h'.get? b=some u):sX P w H h':=λa o e =>
 (x a o e).stay (λb u _ q=>k b u q) (λ_ q=>q) λ_ _ q=>q
theorem sX.laid(x:sX P w H h)(k:∀b u,h.get? b=some u->h'.get? b=some u)(hp:h.objs.size<=a)(new:cM P w (upd H a o) h' a o):sX P w (upd H a o) h':=λb u e=>by
 have hn:=x.fresh hp
 by_cases hb:b=a
 ·subst hb;rw[aj]at e;cases e;exact new
 ·rw[aH hb]at e
  exact(x b u e).stay (λc v _ q=>k c v q) (λc q=>by rw[aH (aV q hn)];exact q) λc xs q=>by rw[aH (aV q hn)];exact q
end
def Rd(H:Hp)(a:Addr)(u:HO):Prop:=H a=some u\/∃o,H a=some (.Cf o u)
theorem Rd.ok{P:Program}{w:World}{H:Hp}{h:Heap}{a:Addr}{u:HO}(r:Rd H a u)(x:sX P w H h):cM P w H h a u:=by
 rcases r with r|⟨o,r⟩
 ·exact x a u r
 ·obtain⟨_,q⟩:=x a _ r
  exact q
def Qg:Option HO->Prop
 |some (.lst _)=>True
 |some (.dK _)=>True
 |some (.dT _)=>True
 |some (.set _ _)=>True
 |some (.ins _ _ _)=>True
 |some (.ext _)=>True
 |_=>False
section
variable{P:Program}{w:World}{H:Hp}{h h':Heap}{x e:Addr}{o':HO}
theorem sX.write(ok:sX P w H h)(mu:Qg (H x))(he:e=x\/H e=some (.own x))(k:∀b u,b≠e->h.get? b=some u->h'.get? b=some u)(MU:∃u,h'.get? e=some u)(new:cM P w (upd H x o') h' x o'):sX P w (upd H x o') h':=λb u q=>by
 have Nr:∀c y,H c=some (.own y)->c≠x:=λc y r z=>by subst z;rw[r]at mu;exact mu
 have QX:∀c xs,H c=some (.tup xs)->c≠x:=λc xs r z=>by subst z;rw[r]at mu;exact mu
 by_cases hb:b=x
 ·subst hb;rw[aj]at q;cases q;exact new
 ·rw[aH hb]at q
  by_cases K6:b=e
  ·have q':H b=some (.own x):=by
    rcases he with z|z
    ·exact absurd (K6.trans z) hb
    ·rw[K6];exact z
   rw[q]at q';cases q'
   obtain⟨v,hv⟩:=MU
   exact⟨v,by rw[K6];exact hv⟩
  ·refine(ok b u q).stay (λc v hc r=>k c v ?_ r) (λc r=>by rw[aH (Nr c b r)];exact r) λc xs r=>by rw[aH (QX c xs r)];exact r
   rcases hc with rfl|hc
   ·exact K6
   ·rintro rfl
    rcases he with z|z
    ·exact Nr c b hc z
    ·rw[hc]at z;cases z;exact hb rfl
end
structure Un(fs ex:List Addr)(H H':Hp)(h h':Heap):Prop where
 keep:∀b o,h.get? b=some o->H b=none->b∉fs->b∉ex->h'.get? b=some o
 slot:∀b o,h.get? b=some o->H b=none->b∈fs->b∉ex->∃sl,h'.get? b=some {o with slots:=sl}
 free:∀b o,h.get? b=some o->H b=none->b∉ex->H' b=none
 there:∀b o,h.get? b=some o->b∉ex->∃o',h'.get? b=some o'
 tups:∀b xs,H b=some (.tup xs)->H' b=some (.tup xs)
 yV:∀b o u,H b=some (.Cf o u)->H' b=some (.Cf o u)
 AU:∀b ps,H b=some (.Kr ps)->∃more,H' b=some (.Kr (ps++more))
section
variable{fs fs' ex ex':List Addr}{H H1 H2:Hp}{h h1 h2 h':Heap}{a x e:Addr}{o:HO}
theorem Un.any(u:Un fs ex H H1 h h1){b:Addr}{ob:Obj}(q:h.get? b=some ob)(n:H b=none)(hx:b∉ex):∃sl,h1.get? b=some {ob with slots:=sl}:=by
 by_cases hb:b∈fs
 ·exact u.slot b ob q n hb hx
 ·exact⟨ob.slots,u.keep b ob q n hb hx⟩
theorem Un.kept(k:∀b u,h.get? b=some u->h'.get? b=some u):Un fs ex H H h h' :=
 ⟨λb ob q _ _ _=>k b ob q,λb ob q _ _ _=>⟨ob.slots,k b ob q⟩,λ_ _ _ n _=>n,λb ob q _=>⟨ob,k b ob q⟩,λ_ _ q=>q,λ_ _ _ q=>q,λ_ ps q=>⟨#[],by rw[q];simp⟩⟩
theorem Un.refl:Un fs ex H H h h:=Un.kept λ_ _ q=>q
theorem Un.laid(k:∀b u,h.get? b=some u->h'.get? b=some u)(hp:h.objs.size<=a)(hn:H a=none):Un fs ex H (upd H a o) h h' where
 keep:=λb u q _ _ _=>k b u q
 slot:=λb u q _ _ _=>⟨u.slots,k b u q⟩
 free:=λb u q n _=>by rw[aH (aaM (aaG (aax q) hp))];exact n
 there:=λb u q _=>⟨u,k b u q⟩
 tups:=λb xs q=>by rw[aH (aV q hn)];exact q
 yV:=λb u xs q=>by rw[aH (aV q hn)];exact q
 AU:=λb ps q=>⟨#[],by rw[aH (aV q hn),q];simp⟩
theorem Un.write(mu:Qg (H x))(he:e=x\/H e=some (.own x))(k:∀b u,b≠e->h.get? b=some u->h'.get? b=some u)(MU:∃u,h'.get? e=some u):Un fs ex H (upd H x o) h h':=by
 have hx:∀b,H b=none->b≠x:=λb n z=>by subst z;rw[n]at mu;exact mu
 have hb:∀b,H b=none->b≠e:=λb n z=>by
  subst z
  rcases he with r|r
  ·exact hx b n r
  ·rw[n]at r;cases r
 have hm:∀b u,H b=some u->¬Qg (some u)->b≠x:=λb u q nm z=>by subst z;rw[q]at mu;exact nm mu
 refine⟨λb u q n _ _=>k b u (hb b n) q,λb u q n _ _=>⟨u.slots,k b u (hb b n) q⟩,λb u q n _=>by rw[aH (hx b n)];exact n,λb u q _=>?_,λb xs q=>by rw[aH (hm b _ q λz=>z)];exact q,λb u xs q=>by rw[aH (hm b _ q λz=>z)];exact q,λb ps q=>⟨#[],by rw[aH (hm b _ q λz=>z),q];simp⟩⟩
 by_cases K6:b=e
 ·subst K6;exact MU
 ·exact⟨u,k b u K6 q⟩
end
def Qh(h:Heap)(H:Hp):List Addr:=(List.range h.objs.size).filter λa=>(H a).isSome
def yW(h:Heap)(H:Hp):Heap:=W.hideAll h (Qh h H)
theorem Eu(h:Heap)(H:Hp):(yW h H).objs.size=h.objs.size:=W.hideAll_size _ _
theorem FP{h:Heap}{H:Hp}{b:Addr}{o:Obj}(e:h.get? b=some o)(n:H b=none):(yW h H).get? b=some o :=
 W.hideAll_get _ e λhm=>by
  have q:(H b).isSome=true:=(abi.mp hm).2
  rw[n]at q;simp at q
theorem Iw{h:Heap}{H:Hp}{b:Addr}{o:Obj}(e:(yW h H).get? b=some o):h.get? b=some o/\H b=none:=by
 have e':h.get? b=some o:=W.of_hideAll (Qh h H) e
 refine⟨e',?_⟩
 cases q:H b with
 |none=>rfl
 |some x =>
  have hm:b∈Qh h H:=abi.mpr ⟨List.mem_range.mpr (aax e'),by simp[q]⟩
  have z:(yW h H).get? b=none:=W.hideAll_none (Qh h H) hm
  rw[z]at e;cases e
def Iz(g h:Heap)(L:Addr):List (Addr×Obj):=(List.range h.objs.size).filterMap λa=>if a=L\/(g.get? a).isSome=true then none else (h.get? a).map λo=>(a,o)
def rest(g h:Heap)(L d:Addr):List (Addr×Obj):=(Iz g h L).filter λp=>decide (p.1≠d)
structure Mod(K:W.Frag)(mg:Str->Option Value)(base:Heap):Prop where
 Nt:K.In base
 glob:base.Ns mainGlobals mg
 blt:∃mb,base.Ns builtinsNs mb/\∀x:Str,x ≠ "__name__"->mb x=bootBuiltins x
 nolimit:base.NoLimit
structure Cx where
 prog:Program
 w:World
 K:W.Frag
 mg:Str->Option Value
 base:Heap
 A:Around
 N:List Str
 s₀:Shared
 H₀:Hp
 env:Env
 outer:List Env
 stack:List Env
 ex:List Addr
 fn:Str->Bool
 calm:Bool
 pn:List (Addr×Obj)
 xe:Value->Shared->Prop
def frs(l:List Env):List Addr:=l.filterMap (·.frame)
abbrev Cx.fs(X:Cx):List Addr:=frs X.outer
def QY(sc:Scope)(x:Str):Prop:=sc.names.lookup x=some .local\/sc.names.lookup x=some .cell\/sc.names.lookup x=some .free
def Loc(sc:Scope)(x:Str):Prop:=sc.names.lookup x=some .local\/sc.names.lookup x=some .cell
def Look(env:Env)(h:Heap)(m:Str->Option Value)(x:Str)(u:Value):Prop :=
 (env.kindOf x=some .local/\m x=some u)\/((env.kindOf x=some .cell\/env.kindOf x=some .free)/\∃c,env.cells.lookup x=some c/\h.IsCell c (some u))
structure Cx.Ok(X:Cx):Prop where
 mod:Mod X.K X.mg X.base
 kind:X.env.scope.kind=.function
 glob:X.env.globals=mainGlobals
 blt:X.env.builtins=builtinsNs
 above:X.s₀.heap.objs.size<=X.env.locals
 inj:∀x y c,X.env.cells.lookup x=some c->X.env.cells.lookup y=some c->x=y
 has:∀x,(X.env.kindOf x=some .cell\/X.env.kindOf x=some .free)->∃c,X.env.cells.lookup x=some c
 Nu:∀x c,X.fn x=true->X.env.cells.lookup x=some c->X.s₀.heap.objs.size<=c
 hd:X.calm=true->X.A.handled=none
 frames:X.A.frames=some X.stack
 stk:X.stack=X.outer\/(X.stack=X.env::X.outer/\X.env.frame=some X.env.locals)
 Wf:∀b∈X.ex,b≠X.env.locals/\∀x c,X.env.cells.lookup x=some c->c≠b
 bs:∀b o,X.base.get? b=some o->X.s₀.heap.get? b=some o/\X.H₀ b=none
 Im:X.base.objs.size<=X.s₀.heap.objs.size
 FT:∀b o,X.base.get? b=some o->b∉X.ex
 IA:∀b∈X.ex,b∉X.fs
 t9:X.s₀.heap.FunFrames X.base X.outer
 K7:∀b∈X.fs,X.H₀ b=none
structure Inv(X:Cx)(pins:List (Addr×Obj))(σ:List (Option V))(H:Hp)(s:Shared):Prop where
 ok:X.Ok
 os:s.os=X.s₀.os
 bare:AllBare s.gens
 base:Un X.fs X.ex X.H₀ H X.s₀.heap s.heap
 loc:∃m,s.heap.Ns X.env.locals m/\∀(i:Nat)(x:Str)(v:V),X.N[i]?=some x->σ[i]?=some (some v)->QY X.env.scope x->∃u,RelV v u/\Look X.env s.heap m x u
 cell:∀x c,X.env.cells.lookup x=some c->∃v,s.heap.IsCell c v
 free:H X.env.locals=none
 oi:∀x c,X.env.cells.lookup x=some c->H c=none
 pin:∀p∈X.pn++pins,s.heap.get? p.1=some p.2/\H p.1=none/\p.1≠X.env.locals/\p.1∉X.fs/\∀v,p.2.data≠.cell v
 hok:sX X.prog X.w H s.heap
 len:σ.length=X.N.length
section
variable{X:Cx}{pins:List (Addr×Obj)}{σ:List (Option V)}{H H':Hp}{s:Shared}{h':Heap}
theorem Cx.Ok.QZ(ok:X.Ok){b:Addr}{o:Obj}(e:X.base.get? b=some o):b∉X.fs:=λhb=>by
 have:=(ok.t9.mem hb).1
 rw[e]at this;cases this
theorem Inv.bs(I:Inv X pins σ H s):∀b o,X.base.get? b=some o->s.heap.get? b=some o/\H b=none:=λb o e =>
 ⟨I.base.keep b o (I.ok.bs b o e).1 (I.ok.bs b o e).2 (I.ok.QZ e) (I.ok.FT b o e),I.base.free b o (I.ok.bs b o e).1 (I.ok.bs b o e).2 (I.ok.FT b o e)⟩
theorem Inv.bk(I:Inv X pins σ H s):∀b o,X.base.get? b=some o->s.heap.get? b=some o:=λb o e=>(I.bs b o e).1
theorem Inv.mod(I:Inv X pins σ H s):Mod X.K X.mg X.base:=I.ok.mod
theorem Inv.pR(I:Inv X pins σ H s):X.K.In s.heap:=I.ok.mod.Nt.keeps I.bk
theorem Inv.fr(I:Inv X pins σ H s):∃m,Fr X.base X.env.locals s.heap m :=
 let ⟨m,hn,_⟩:=I.loc
 ⟨m,hn,I.bk,aao I.ok.Im I.ok.above⟩
theorem Inv.lt(I:Inv X pins σ H s):X.env.locals<s.heap.objs.size:=let ⟨_,hn,_⟩:=I.loc;hn.lt
theorem Inv.sz(I:Inv X pins σ H s):X.s₀.heap.objs.size<=s.heap.objs.size:=aao I.ok.above (Nat.le_of_lt I.lt)
theorem Inv.Q0(I:Inv X pins σ H s){a:Addr}(h:s.heap.objs.size<=a):a∉X.fs:=λhb=>by
 obtain⟨_,o,ho,_⟩:=I.ok.t9.mem hb
 exact absurd (aaG (aax ho) (aao I.sz h)) (Nat.lt_irrefl _)
theorem Inv.K8(I:Inv X pins σ H s):∀x c,X.env.cells.lookup x=some c->c≠X.env.locals:=λx c e z=>by
 obtain⟨v,o,ho,hd⟩:=I.cell x c e
 obtain⟨m,⟨o',es,ep,ho',hd',_⟩,_⟩:=I.loc
 rw[z,ho']at ho;cases ho;rw[hd']at hd;cases hd
theorem Inv.t9(I:Inv X pins σ H s):s.heap.FunFrames X.base X.outer:=by
 have all:∀(l:List Env),(∀b∈frs l,b∈X.fs)->X.s₀.heap.FunFrames X.base l->s.heap.FunFrames X.base l:=by
  intro l
  induction l with
  |nil=>intro _ _;trivial
  |cons env r ih =>
   intro hs hl
   obtain⟨hk,⟨L,o,hf,hn,ho,hd⟩,hr⟩:=hl
   have hL:L∈X.fs:=hs L (by unfold frs;rw[abD,hf];exact aaA)
   obtain⟨sl,e⟩:=I.base.slot L o ho (I.ok.K7 L hL) hL λz=>I.ok.IA L z hL
   exact⟨hk,⟨L,_,hf,hn,e,hd⟩,ih (λb hb=>hs b (by unfold frs;rw[abD,hf];exact aaw _ hb)) hr⟩
 exact all X.outer (λ_ hb=>hb) I.ok.t9
theorem Inv.stack(I:Inv X pins σ H s):s.heap.FunFrames X.base X.stack:=by
 rcases I.ok.stk with e|⟨e,hf⟩
 ·rw[e];exact I.t9
 ·rw[e]
  obtain⟨m,hn,_⟩:=I.loc
  refine .cons (by rw[I.ok.kind];decide) hf hn ?_ I.t9
  exact Heap.get?_none_of_le (aao I.ok.Im I.ok.above)
theorem Inv.yX(I:Inv X pins σ H s):∀b∈frs X.stack,b∈X.env.locals::X.fs:=λb hb=>by
 rcases I.ok.stk with e|⟨e,hf⟩
 ·rw[e]at hb;exact aaw _ hb
 ·rw[e]at hb
  unfold frs at hb
  rw[abD,hf]at hb
  exact hb
theorem Inv.DI(I:Inv X pins σ H s):∀b∈frs X.stack,H b=none:=λb hb=>by
 rcases aaE.mp (I.yX b hb) with e|hb
 ·rw[e];exact I.free
 ·obtain⟨_,o,ho,_⟩:=I.ok.t9.mem hb
  exact I.base.free b o ho (I.ok.K7 b hb) λz=>I.ok.IA b z hb
theorem Inv.step{g':Array GenState}{t':Nat}{d':Drawn}{ch:List Addr}(I:Inv X pins σ H s)(hch:∀b∈ch,(b∈X.ex\/X.s₀.heap.objs.size<=b)/\b≠X.env.locals/\(∀x c,X.env.cells.lookup x=some c->c≠b)/\∀p∈X.pn++pins,p.1≠b)(keep:∀b o,b≠X.env.locals->b∉X.fs->b∉ch->s.heap.get? b=some o->H b=none->h'.get? b=some o)(slot:∀b o,b≠X.env.locals->b∈X.fs->b∉ch->s.heap.get? b=some o->H b=none->∃sl,h'.get? b=some {o with slots:=sl})(free:∀b o,b∉ch->s.heap.get? b=some o->H b=none->H' b=none)(there:∀b o,b∉ch->s.heap.get? b=some o->∃o',h'.get? b=some o')(tups:∀b xs,H b=some (.tup xs)->H' b=some (.tup xs))(yV:∀b o u,H b=some (.Cf o u)->H' b=some (.Cf o u))(AU:∀b ps,H b=some (.Kr ps)->∃more,H' b=some (.Kr (ps++more)))(ns:∀m,s.heap.Ns X.env.locals m->h'.Ns X.env.locals m)(hok:sX X.prog X.w H' h')(hg:AllBare g'):Inv X pins σ H' {s with heap:=h',gens:=g',drawn:=d',toks:=t'}:=by
 have Wg:∀b o,X.s₀.heap.get? b=some o->b≠X.env.locals:=λb o e=>aaM (aaG (aax e) I.ok.above)
 have Qi:∀b o,X.s₀.heap.get? b=some o->b∉X.ex->b∉ch:=λb o e hx hb=>by
  rcases(hch b hb).1 with z|z
  ·exact hx z
  ·exact absurd (aaG (aax e) z) (Nat.lt_irrefl _)
 have cellK:∀x c,X.env.cells.lookup x=some c->∀v,s.heap.IsCell c v->h'.IsCell c v:=λx c e v ⟨o,ho,hd⟩=>by
  have Nv:c∉ch:=λz=>(hch c z).2.2.1 x c e rfl
  by_cases hc:c∈X.fs
  ·obtain⟨sl,q⟩:=slot c o (I.K8 x c e) hc Nv ho (I.oi x c e)
   exact⟨_,q,hd⟩
  ·exact⟨o,keep c o (I.K8 x c e) hc Nv ho (I.oi x c e),hd⟩
 refine⟨I.ok,I.os,hg,⟨λb o e n hb hx=>?_,λb o e n hb hx=>?_,λb o e n hx=>?_,λb o e hx=>?_,λb xs e=>tups b xs (I.base.tups b xs e),λb o xs e=>yV b o xs (I.base.yV b o xs e),λb ps e=>?_⟩,?_,λx c e=>?_,?_,λx c e=>?_,λp hp=>?_,hok,I.len⟩
 ·exact keep b o (Wg b o e) hb (Qi b o e hx) (I.base.keep b o e n hb hx) (I.base.free b o e n hx)
 ·obtain⟨sl,e1⟩:=I.base.slot b o e n hb hx
  obtain⟨XY,e2⟩:=slot b _ (Wg b o e) hb (Qi b o e hx) e1 (I.base.free b o e n hx)
  exact⟨XY,e2⟩
 ·obtain⟨o',e1⟩:=I.base.there b o e hx
  exact free b o' (Qi b o e hx) e1 (I.base.free b o e n hx)
 ·obtain⟨o',e1⟩:=I.base.there b o e hx
  exact there b o' (Qi b o e hx) e1
 ·obtain⟨m1,e1⟩:=I.base.AU b ps e
  obtain⟨m2,e2⟩:=AU b _ e1
  exact⟨m1++m2,by rw[e2,Array.append_assoc]⟩
 ·obtain⟨m,hn,hl⟩:=I.loc
  refine⟨m,ns m hn,λi x v e1 e2 e3=>?_⟩
  obtain⟨u,r,l⟩:=hl i x v e1 e2 e3
  refine⟨u,r,?_⟩
  rcases l with l|⟨k,c,e,z⟩
  ·exact .inl l
  ·exact .inr ⟨k,c,e,cellK x c e _ z⟩
 ·obtain⟨v,z⟩:=I.cell x c e
  exact⟨v,cellK x c e v z⟩
 ·obtain⟨m,⟨o,_,_,ho,_⟩,_⟩:=I.loc
  exact free _ o (λz=>(hch _ z).2.1 rfl) ho I.free
 ·obtain⟨v,o,ho,hd⟩:=I.cell x c e
  exact free c o (λz=>(hch c z).2.2.1 x c e rfl) ho (I.oi x c e)
 ·obtain⟨e,n,ne,nf,d⟩:=I.pin p hp
  have Nv:p.1∉ch:=λz=>(hch p.1 z).2.2.2 p hp rfl
  exact⟨keep p.1 p.2 ne nf Nv e n,free p.1 p.2 Nv e n,ne,nf,d⟩
theorem Inv.un{t':Nat}(I:Inv X pins σ H s)(u:Un X.fs [] H H' s.heap h')(hok:sX X.prog X.w H' h'):Inv X pins σ H' {s with heap:=h',toks:=t'}:=by
 obtain⟨m,⟨o,es,ep,ho,r⟩,_⟩:=id I.loc
 obtain⟨sl,hL⟩:=u.any ho I.free (by simp)
 exact I.step (g':=s.gens) (d':=s.drawn) (ch:=[]) (λ_ z=>nomatch z) (λb o _ hb _ e n=>u.keep b o e n hb (by simp)) (λb o _ hb _ e n=>u.slot b o e n hb (by simp)) (λb o _ e n=>u.free b o e n (by simp)) (λb o _ e=>u.there b o e (by simp)) u.tups u.yV u.AU (λm' hm=>by
  obtain⟨o',es',Qj,ho',r'⟩:=hm
  rw[ho]at ho';cases ho'
  exact⟨_,es',Qj,hL,r'⟩) hok I.bare
theorem Inv.call{g':Array GenState}{t':Nat}{d':Drawn}{ch:List Addr}(I:Inv X pins σ H s)(u:Un (frs X.stack) ch H H' s.heap h')(hok:sX X.prog X.w H' h')(hg:AllBare g')(hch:∀b∈ch,(b∈X.ex\/X.s₀.heap.objs.size<=b)/\b≠X.env.locals/\(∀x c,X.env.cells.lookup x=some c->c≠b)/\∀p∈X.pn++pins,p.1≠b):Inv X pins σ H' {s with heap:=h',gens:=g',drawn:=d',toks:=t'}:=by
 obtain⟨m,⟨o,es,ep,ho,r⟩,_⟩:=id I.loc
 obtain⟨sl,hL⟩:=u.any ho I.free λz=>(hch _ z).2.1 rfl
 exact I.step (ch:=ch) hch (λb o hL hb hc e n=>u.keep b o e n (λz=>(aaE.mp (I.yX b z)).elim hL hb) hc) (λb o _ _ hc e n=>u.any e n hc) (λb o hc e n=>u.free b o e n hc) (λb o hc e=>u.there b o e hc) u.tups u.yV u.AU (λm' hm=>by
  obtain⟨o',es',Qj,ho',r'⟩:=hm
  rw[ho]at ho';cases ho'
  exact⟨_,es',Qj,hL,r'⟩) hok hg
theorem Inv.turned{t':Nat}{it:Addr}(I:Inv X pins σ H s)(k:∀b o,b≠it->s.heap.get? b=some o->h'.get? b=some o)(hn:H it=none)(hL:it≠X.env.locals)(h1:it∈X.ex\/X.s₀.heap.objs.size<=it)(h2:∀x c,X.env.cells.lookup x=some c->c≠it)(h3:∀p∈X.pn++pins,p.1≠it):Inv X pins σ H {s with heap:=h',toks:=t'}:=by
 have Wh:∀b u,H b=some u->b≠it:=λb u e z=>by rw[z,hn]at e;cases e
 refine I.step (g':=s.gens) (d':=s.drawn) (ch:=[it]) (λb hb=>?_) (λb o _ _ hc e _=>k b o (λz=>hc (by simp[z])) e) (λb o _ _ hc e _=>⟨o.slots,k b o (λz=>hc (by simp[z])) e⟩) (λ_ _ _ _ n=>n)
  (λb o hc e=>⟨o,k b o (λz=>hc (by simp[z])) e⟩) (λ_ _ e=>e) (λ_ _ _ e=>e) (λb ps e=>⟨#[],by rw[e];simp⟩) (λm hm=>?_) (λb u e=>?_) I.bare
 ·have e:b=it:=by simpa using hb
  subst e
  exact⟨h1,hL,h2,h3⟩
 ·obtain⟨o,es,ep,ho,r⟩:=hm
  exact⟨o,es,ep,k _ o (Ne.symm hL) ho,r⟩
 ·refine(I.hok b u e).stay (λc v hc q=>k c v ?_ q) (λ_ q=>q) λ_ _ q=>q
  rcases hc with z|z
  ·rw[z];exact Wh b u e
  ·exact Wh c _ z
theorem Inv.tok(I:Inv X pins σ H s)(t:Nat):Inv X pins σ H {s with toks:=t}:=I.un (h':=s.heap) (t':=t) Un.refl I.hok
theorem Inv.kept{t':Nat}(I:Inv X pins σ H s)(k:∀b u,s.heap.get? b=some u->h'.get? b=some u):Inv X pins σ H {s with heap:=h',toks:=t'}:=I.un (Un.kept k) (I.hok.kept k)
theorem Inv.laid{a:Addr}{o:HO}{t':Nat}(I:Inv X pins σ H s)(k:∀b u,s.heap.get? b=some u->h'.get? b=some u)(hp:s.heap.objs.size<=a)(new:cM X.prog X.w (upd H a o) h' a o):Inv X pins σ (upd H a o) {s with heap:=h',toks:=t'}:=I.un (Un.laid k hp (I.hok.fresh hp)) (I.hok.laid k hp new)
theorem Inv.write{x e:Addr}{o:HO}{t':Nat}(I:Inv X pins σ H s)(mu:Qg (H x))(he:e=x\/H e=some (.own x))(k:∀b u,b≠e->s.heap.get? b=some u->h'.get? b=some u)(MU:∃u,h'.get? e=some u)(new:cM X.prog X.w (upd H x o) h' x o):Inv X pins σ (upd H x o) {s with heap:=h',toks:=t'}:=I.un (Un.write mu he k MU) (I.hok.write mu he k MU new)
theorem Inv.DJ{Ks:List (Addr×Obj)}(I:Inv X pins σ H s)(h:∀p∈Ks,s.heap.get? p.1=some p.2/\H p.1=none/\p.1≠X.env.locals/\p.1∉X.fs/\∀v,p.2.data≠.cell v):Inv X Ks σ H s :=
 ⟨I.ok,I.os,I.bare,I.base,I.loc,I.cell,I.free,I.oi,λp hp=>(aaY.mp hp).elim (λz=>I.pin p (aaN _ z)) (h p),I.hok,I.len⟩
theorem AV{N:List Str}(hN:N.Nodup){i j:Nat}{x:Str}(a:N[i]?=some x)(b:N[j]?=some x):i=j:=by
 obtain⟨h1,e1⟩:=aal.mp a
 obtain⟨h2,e2⟩:=aal.mp b
 exact(List.getElem_inj hN).mp (e1.trans e2.symm)
theorem yf{M:Model}{A:Around}{E:Value->Shared->Prop}{i:Nat}{x:Str}{v:V}{u:Value}{Q:Unit->Shared->Prop}(I:Inv X pins σ H s)(hN:X.N.Nodup)(hi:X.N[i]?=some x)(hx:Loc X.env.scope x)(r:RelV v u)(h:∀s',Inv X pins (σ.set i (some v)) H s'->(∃a,Heap.SameBut a s.heap s'.heap/\(a=X.env.locals\/X.env.cells.lookup x=some a))->Q () s')(hf:X.fn x=true\/X.env.scope.names.lookup x=some .local:=by first|exact .inl rfl|exact .inr rfl|assumption):wpAny M A (storeName X.env x u) Q E s:=by
 obtain⟨m,hn,hl⟩:=id I.loc
 have hcls:(X.env.scope.kind==.class||(X.env.scope.kind==.module&&X.env.locals != X.env.globals))=false:=by rw[I.ok.kind];rfl
 have Nx:i<σ.length:=by rw[I.len];exact(aal.mp hi).1
 have K8:=I.K8
 have tracked:∀{a:Addr}{h':Heap},(∃o,s.heap.get? a=some o/\H a=none)->Heap.SameBut a s.heap h'->sX X.prog X.w H h':=λ{a h'} ha hs b ob e=>by
  obtain⟨_,_,hfree⟩:=ha
  refine(I.hok b ob e).stay (λc w' hc q=>(hs.2 c ?_).trans q) (λ_ q=>q) λ_ _ q=>q
  rintro rfl
  rcases hc with rfl|hc
  ·rw[hfree]at e;cases e
  ·rw[hfree]at hc;cases hc
 rcases hx with hk|hk
 ·refine wpAny_storeName_local hk hn (λh' hn' hs=>?_) hcls
  obtain⟨oL,_,_,XZ,_⟩:=id hn
  refine h _ ⟨I.ok,I.os,I.bare,⟨λb o e n hb hx=>?_,λb o e n hb hx=>?_,I.base.free,λb o e hx=>?_,I.base.tups,I.base.yV,I.base.AU⟩,⟨_,hn',λj y v' e1 e2 e3=>?_⟩,λy c e=>?_,I.free,I.oi,λp hp=>?_,tracked ⟨oL,XZ,I.free⟩ hs,by simpa using I.len⟩ ⟨_,hs,.inl rfl⟩
  ·exact(hs.2 b (aaM (aaG (aax e) I.ok.above))).trans (I.base.keep b o e n hb hx)
  ·obtain⟨sl,e1⟩:=I.base.slot b o e n hb hx
   exact⟨sl,(hs.2 b (aaM (aaG (aax e) I.ok.above))).trans e1⟩
  ·obtain⟨o',e1⟩:=I.base.there b o e hx
   exact⟨o',(hs.2 b (aaM (aaG (aax e) I.ok.above))).trans e1⟩
  ·by_cases hj:j=i
   ·subst hj
    rw[hi]at e1;cases e1
    rw[List.getElem?_set_self Nx]at e2
    cases e2
    exact⟨u,r,.inl ⟨hk,by simp⟩⟩
   ·rw[List.getElem?_set_ne (Ne.symm hj)]at e2
    obtain⟨u',r',q⟩:=hl j y v' e1 e2 e3
    refine⟨u',r',?_⟩
    rcases q with ⟨k,e⟩|⟨k,c,e,z⟩
    ·refine .inl ⟨k,?_⟩
     have:y≠x:=λe=>hj (AV hN e1 (e▸hi))
     simp[this,e]
    ·exact .inr ⟨k,c,e,z.sameBut hs (K8 y c e)⟩
  ·obtain⟨w',z⟩:=I.cell y c e
   exact⟨w',z.sameBut hs (K8 y c e)⟩
  ·obtain⟨e,n,ne,nf,d⟩:=I.pin p hp
   exact⟨(hs.2 p.1 ne).trans e,n,ne,nf,d⟩
 ·have hfn:X.fn x=true:=by
   rcases hf with z|z
   ·exact z
   ·rw[z]at hk;cases hk
  obtain⟨c,hc⟩:=I.ok.has x (.inl hk)
  obtain⟨w',z⟩:=I.cell x c hc
  refine wpAny_storeName_cell I.ok.kind hk hc z (λh' hc' hs=>?_)
  obtain⟨oc,hoc,Q3⟩:=id z
  refine h {s with heap:=h'} ⟨I.ok,I.os,I.bare,⟨λb o e n hb hx=>?_,λb o e n hb hx=>?_,I.base.free,λb o e hx=>?_,I.base.tups,I.base.yV,I.base.AU⟩,⟨m,hn.sameBut hs (Ne.symm (K8 x c hc)),λj y v' e1 e2 e3=>?_⟩,λy c' e=>?_,I.free,I.oi,λp hp=>?_,tracked ⟨oc,hoc,I.oi x c hc⟩ hs,by simpa using I.len⟩ ⟨c,hs,.inr hc⟩
  ·exact(hs.2 b (aaM (aaG (aax e) (I.ok.Nu x c hfn hc)))).trans (I.base.keep b o e n hb hx)
  ·obtain⟨sl,e1⟩:=I.base.slot b o e n hb hx
   exact⟨sl,(hs.2 b (aaM (aaG (aax e) (I.ok.Nu x c hfn hc)))).trans e1⟩
  ·obtain⟨o',e1⟩:=I.base.there b o e hx
   exact⟨o',(hs.2 b (aaM (aaG (aax e) (I.ok.Nu x c hfn hc)))).trans e1⟩
  ·by_cases hj:j=i
   ·subst hj
    rw[hi]at e1;cases e1
    rw[List.getElem?_set_self Nx]at e2
    cases e2
    exact⟨u,r,.inr ⟨.inl hk,c,hc,hc'⟩⟩
   ·rw[List.getElem?_set_ne (Ne.symm hj)]at e2
    obtain⟨u',r',q⟩:=hl j y v' e1 e2 e3
    refine⟨u',r',?_⟩
    rcases q with q|⟨k,c',e,z'⟩
    ·exact .inl q
    ·refine .inr ⟨k,c',e,z'.sameBut hs ?_⟩
     rintro rfl
     exact hj (AV hN e1 (I.ok.inj _ _ _ e hc▸hi))
  ·by_cases hcc:c'=c
   ·subst hcc;exact⟨_,hc'⟩
   ·obtain⟨w2,z2⟩:=I.cell y c' e
    exact⟨w2,z2.sameBut hs hcc⟩
  ·obtain⟨e,n,ne,nf,d⟩:=I.pin p hp
   refine⟨(hs.2 p.1 ?_).trans e,n,ne,nf,d⟩
   intro q
   rw[q,hoc]at e
   have q':oc=p.2:=aaC e
   exact d w' (by rw[←q'];exact Q3)
theorem AW{M:Model}{A:Around}{E:Value->Shared->Prop}{i:Nat}{x:Str}{v:V}{u:Value}{Q:Unit->Shared->Prop}(I:Inv X pins σ H s)(hN:X.N.Nodup)(hi:X.N[i]?=some x)(hx:Loc X.env.scope x)(r:RelV v u)(h:∀s',Inv X pins (σ.set i (some v)) H s'->Q () s')(hf:X.fn x=true\/X.env.scope.names.lookup x=some .local:=by first|exact .inl rfl|exact .inr rfl|assumption):wpAny M A (storeName X.env x u) Q E s :=
 yf I hN hi hx r (λs' I' _=>h s' I') hf
theorem Inv.Ny{s':Shared}{ch:List Addr}(I:Inv X pins σ H s)(ho:s'.os=s.os)(u:Un (frs X.stack) ch H H' s.heap s'.heap)(hok:sX X.prog X.w H' s'.heap)(hg:AllBare s'.gens)(hch:∀b∈ch,(b∈X.ex\/X.s₀.heap.objs.size<=b)/\b≠X.env.locals/\(∀x c,X.env.cells.lookup x=some c->c≠b)/\∀p∈X.pn++pins,p.1≠b):Inv X pins σ H' s':=by
 obtain⟨h',g',d',t',o'⟩:=s'
 have e:o'=s.os:=ho
 subst e
 exact I.call (g':=g') (t':=t') (d':=d') u hok hg hch
end
abbrev XK:=Value->Option Addr->Hp->Prop
abbrev St:=List (Option V)
abbrev VK:=V->Hp->Prop
abbrev TE:=St->Hp->VK->Prop
abbrev TT:=St->Hp->(Bool->Hp->Prop)->Prop
abbrev TA:=St->Hp->(List V->Hp->Prop)->Prop
structure Ends where
 nx:St->Hp->Prop
 rt:VK
 bk:St->Hp->Prop:=λ_ _=>False
 ct:St->Hp->Prop:=λ_ _=>False
abbrev TS:=Ends->St->Hp->Prop
def EP(X:Cx)(pins:List (Addr×Obj))(σ:St)(Q:VK)(u:Value)(s':Shared):Prop:=∃v H',Inv X pins σ H' s'/\RelV v u/\Q v H'
def TP(X:Cx)(pins:List (Addr×Obj))(σ:St)(Q:Bool->Hp->Prop)(b:Bool)(s':Shared):Prop:=∃H',Inv X pins σ H' s'/\Q b H'
def AP(X:Cx)(pins:List (Addr×Obj))(σ:St)(Q:List V->Hp->Prop)(us:List Value)(s':Shared):Prop:=∃vs H',Inv X pins σ H' s'/\Vals vs us/\Q vs H'
def SP(X:Cx)(pins:List (Addr×Obj))(D:Ends)(f:Flow)(s':Shared):Prop :=
 match f with
 | .next=>∃σ' H',Inv X pins σ' H' s'/\D.nx σ' H'
 | .brk=>∃σ' H',Inv X pins σ' H' s'/\D.bk σ' H'
 | .cont=>∃σ' H',Inv X pins σ' H' s'/\D.ct σ' H'
 | .ret u=>∃v σ' H',Inv X pins σ' H' s'/\RelV v u/\D.rt v H'
def PE(X:Cx)(e:Expr)(t:TE):Prop :=
 ∀(pins:List (Addr×Obj))(s:Shared)(σ:St)(H:Hp)(Q:VK),Inv X pins σ H s->t σ H Q->wpAny (model X.prog X.w) X.A (eval e X.env) (EP X pins σ Q) X.xe s
def PT(X:Cx)(e:Expr)(t:TT):Prop :=
 ∀(pins:List (Addr×Obj))(s:Shared)(σ:St)(H:Hp)(Q:Bool->Hp->Prop),Inv X pins σ H s->t σ H Q->wpAny (model X.prog X.w) X.A (isTrue e X.env (eval e X.env)) (TP X pins σ Q) X.xe s
def PW(X:Cx)(e:Expr)(t:TT):Prop :=
 ∀(whole:Sem Value)(pins:List (Addr×Obj))(s:Shared)(σ:St)(H:Hp)(Q:Bool->Hp->Prop),Inv X pins σ H s->t σ H Q->wpAny (model X.prog X.w) X.A (isTrue e X.env whole) (TP X pins σ Q) X.xe s
theorem PW.pt{X:Cx}{e:Expr}{t:TT}(h:PW X e t):PT X e t:=h _
def PA(X:Cx)(es:List Expr)(t:TA):Prop :=
 ∀(pos:Pos)(pins:List (Addr×Obj))(s:Shared)(σ:St)(H:Hp)(Q:List V->Hp->Prop),Inv X pins σ H s->t σ H Q->wpAny (model X.prog X.w) X.A (spliced (backTo pos (starEach es X.env))) (AP X pins σ Q) X.xe s
def PS(X:Cx)(st:Stmt)(t:TS):Prop :=
 ∀(pins:List (Addr×Obj))(s:Shared)(σ:St)(H:Hp)(D:Ends),Inv X pins σ H s->t D σ H->wpAny (model X.prog X.w) X.A (exec st X.env) (SP X pins D) X.xe s
def DK(X:Cx)(st:List Stmt)(t:TS):Prop :=
 ∀(pins:List (Addr×Obj))(s:Shared)(σ:St)(H:Hp)(D:Ends),Inv X pins σ H s->t D σ H->wpAny (model X.prog X.w) X.A (execs st X.env) (SP X pins D) X.xe s
theorem cO{α:Type}{t:Sem α}{Q Q':α->Shared->Prop}{M:Model}{A:Around}{E:Value->Shared->Prop}{s:Shared}(h:wpAny M A t Q E s)(hQ:∀a s,Q a s->Q' a s):wpAny M A t Q' E s:=abb h hQ λ_ _ x=>x
section
variable{X:Cx}
def Nz(i:Nat):TE:=λσ H Q=>∃v,σ[i]?=some (some v)/\Q v H
def tC(v:V):TE:=λ_ H Q=>Q v H
theorem K9{i:Nat}{x:Str}{pos:Pos}(hN:X.N[i]?=some x)(hv:QY X.env.scope x)(hd:(x==("__debug__":Str))=false:=by decide)(hcd:(x==("__classdict__":Str))=false:=by decide):PE X (.Name x pos) (Nz i):=by
 intro pins s σ H Q I h
 obtain⟨v,e,h⟩:=h
 obtain⟨m,hn,hl⟩:=I.loc
 obtain⟨u,r,l⟩:=hl i x v hN e hv
 have fin:EP X pins σ Q u s:=⟨v,H,I,r,h⟩
 rcases l with ⟨hk,hm⟩|⟨hk,c,hc,hcell⟩
 ·exact wpAny_Name (wpAny_loadName_local I.ok.kind hk hn hm fin) hd
 ·rcases hk with hk|hk
  ·exact wpAny_Name (wpAny_loadName_cell I.ok.kind hk hc hcell fin) hd
  ·exact wpAny_Name (wpAny_loadName_free I.ok.kind hk hc hcell fin hcd) hd
theorem ao{i j pos}:PE X (.Constant (.int i) j pos) (tC (.int i)):=λ_ _ _ H _ I h=>wpAny_Constant_int ⟨.int i,H,I.tok _,⟨_,rfl⟩,h⟩
theorem gm{b j pos}:PE X (.Constant (.bool b) j pos) (tC (.bl b)):=λ_ _ _ H _ I h=>Constant_bool ⟨.bl b,H,I,rfl,h⟩
theorem bq{j pos}:PE X (.Constant .none j pos) (tC .non):=λ_ _ _ H _ I h=>Constant_none ⟨.non,H,I,rfl,h⟩
theorem aq{x j pos}:PE X (.Constant (.str x) j pos) (tC (.str x)):=λ_ _ _ H _ I h=>Calls.Constant_str ⟨.str x,H,I.tok _,⟨_,rfl⟩,h⟩
def Gl(X:Cx)(x:Str):Prop:=X.env.kindOf x=some .globalImplicit
theorem yY{E:Value->Shared->Prop}{pins:List (Addr×Obj)}{s:Shared}{σ:St}{H:Hp}{x:Str}{u:Value}{pos:Pos}{Q:Value->Shared->Prop}(I:Inv X pins σ H s)(hg:Gl X x)(hm:X.mg x=some u)(h:Q u s)(hd:(x==("__debug__":Str))=false:=by decide):wpAny (model X.prog X.w) X.A (eval (.Name x pos) X.env) Q E s :=
 Calls.Name_function_global I.ok.kind hg (Calls.loadGlobal_global (by rw[I.ok.glob];exact I.mod.glob.keeps I.bk) hm h) hd
theorem qV{E:Value->Shared->Prop}{pins:List (Addr×Obj)}{s:Shared}{σ:St}{H:Hp}{x:Str}{u:Value}{pos:Pos}{Q:Value->Shared->Prop}(I:Inv X pins σ H s)(hg:Gl X x)(hm:X.mg x=none)(hv:bootBuiltins x=some u)(h:Q u s)(hn:x ≠ "__name__":=by decide)(hd:(x==("__debug__":Str))=false:=by decide):wpAny (model X.prog X.w) X.A (eval (.Name x pos) X.env) Q E s:=by
 obtain⟨mb,h1,h2⟩:=I.mod.blt
 exact Calls.Name_function_global I.ok.kind hg (Calls.loadGlobal_builtin (by rw[I.ok.glob];exact I.mod.glob.keeps I.bk) hm (by rw[I.ok.blt];exact h1.keeps I.bk) ((h2 x hn).trans hv) h) hd
theorem DL{x:Str}{v:V}{u:Value}{pos:Pos}(hg:Gl X x)(hm:X.mg x=some u)(r:RelV v u)(hd:(x==("__debug__":Str))=false:=by decide):PE X (.Name x pos) (tC v) :=
 λ_ _ _ H _ I h=>yY I hg hm ⟨v,H,I,r,h⟩ hd
theorem IB{x:Str}{v:V}{u:Value}{pos:Pos}(hg:Gl X x)(hm:X.mg x=none)(hv:bootBuiltins x=some u)(r:RelV v u)(hn:x ≠ "__name__":=by decide)(hd:(x==("__debug__":Str))=false:=by decide):PE X (.Name x pos) (tC v) :=
 λ_ _ _ H _ I h=>qV I hg hm hv ⟨v,H,I,r,h⟩ hn hd
variable{a b:Expr}{ta tb:TE}{pos:Pos}
def PC(X:Cx)(op:CmpOp)(a b:Expr)(t:TE):Prop :=
 ∀(pins:List (Addr×Obj))(s:Shared)(σ:St)(H:Hp)(Q:VK),Inv X pins σ H s->t σ H Q->wpAny (model X.prog X.w) X.A (eval a X.env) (λv s₁=>wpAny (model X.prog X.w) X.A (eval b X.env) (λu s₂=>wpAny (model X.prog X.w) X.A (compareOp op v u) (EP X pins σ Q) X.xe s₂) X.xe s₁) X.xe s
theorem AX(b:Expr){op:CmpOp}(h:op≠.In)(h2:op≠.NotIn):behindInMarks op b=false:=by
 have e1:(op==CmpOp.In)=false:=by cases op<;>first|rfl|exact absurd rfl h
 have e2:(op==CmpOp.NotIn)=false:=by cases op<;>first|rfl|exact absurd rfl h2
 cases b<;>simp[behindInMarks,e1,e2]
def tB(t:TE):TT:=λσ H Q=>t σ H λx H1=>∃c,x=.bl c/\Q c H1
theorem FU{op:CmpOp}{t:TE}(h:PC X op a b t)(h1:behindInMarks op b=false:=by first|exact AX _ (by decide) (by decide)|rfl):PE X (.Compare a [op] [b] pos) t:=λpins s σ H Q I hw=>wpAny_Compare1 (h pins s σ H Q I hw) h1
theorem La{op:CmpOp}{t:TE}(h:PC X op a b t)(h1:behindInMarks op b=false:=by first|exact AX _ (by decide) (by decide)|rfl):PT X (.Compare a [op] [b] pos) (tB t):=by
 intro pins s σ H Q I hw
 refine wpAny_isTrue_Compare1 (cO (h pins s σ H _ I hw) λv s1 h1=>cO h1 λu s2 h2=>cO h2 λc s3 ⟨x,H1,I1,r1,q1⟩=>?_) h1
 obtain⟨d,rfl,q⟩:=q1
 cases r1
 exact wpAny_truthy_bool ⟨H1,I1,q⟩
theorem aY{e:Expr}{t:TE}(h:PE X e t)(he:∀whole,isTrue e X.env whole=(do let v ←whole;standAt e.pos;holding [v] (truthy v)):=by intro _;rfl):PT X e (tB t):=by
 intro pins s σ H Q I hw
 refine isTrue_plain (cO (h pins s σ H _ I hw) λv s1 ⟨x,H1,I1,r1,q1⟩=>?_) (he _)
 obtain⟨d,rfl,q⟩:=q1
 cases r1
 exact wpAny_truthy_bool ⟨H1,I1,q⟩
variable{tA Qk:TT}{rest:List Expr}
def Q4(t u:TT):TT:=λσ H Q=>t σ H λc H1=>if c=true then u σ H1 Q else Q false H1
def X0(t u:TT):TT:=λσ H Q=>t σ H λc H1=>if c=true then Q true H1 else u σ H1 Q
def Q5(t:TT):TT:=λσ H Q=>t σ H λc H1=>Q (!c) H1
theorem cC(ha:PT X a tA):PW X (.BoolOp .And [a] pos) tA:=by
 intro wh pins s σ H Q I h
 refine isTrue_and (cO (ha pins s σ H Q I h) λc s1 e=>?_)
 cases c with
 |true=>exact isTrue_and_nil e
 |false=>exact e
theorem cI(ha:PT X a tA):PW X (.BoolOp .Or [a] pos) tA:=by
 intro wh pins s σ H Q I h
 refine isTrue_or (cO (ha pins s σ H Q I h) λc s1 e=>?_)
 cases c with
 |false=>exact isTrue_or_nil e
 |true=>exact e
theorem cS(ha:PT X a tA)(hb:PW X (.BoolOp .And (b::rest) pos) Qk):PW X (.BoolOp .And (a::b::rest) pos) (Q4 tA Qk):=by
 intro wh pins s σ H Q I h
 refine isTrue_and (cO (ha pins s σ H _ I h) λc s1 ⟨H1,I1,q1⟩=>?_)
 cases c with
 |true=>exact hb wh pins s1 σ H1 Q I1 q1
 |false=>exact⟨H1,I1,q1⟩
theorem cN(ha:PT X a tA)(hb:PW X (.BoolOp .Or (b::rest) pos) Qk):PW X (.BoolOp .Or (a::b::rest) pos) (X0 tA Qk):=by
 intro wh pins s σ H Q I h
 refine isTrue_or (cO (ha pins s σ H _ I h) λc s1 ⟨H1,I1,q1⟩=>?_)
 cases c with
 |true=>exact⟨H1,I1,q1⟩
 |false=>exact hb wh pins s1 σ H1 Q I1 q1
theorem bG(ha:PT X a tA):PT X (.UnaryOp .Not a pos) (Q5 tA):=by
 intro pins s σ H Q I h
 exact isTrue_not (ha pins s σ H (λc H1=>Q (!c) H1) I h)
def NB(ta tb:TE):TE:=λσ H Q=>ta σ H λx H1=>∃c,x=.bl c/\if c=true then tb σ H1 Q else Q (.bl false) H1
theorem oO{op}{t:TE}(h:PE X a t):PE X (.BoolOp op [a] pos) t:=λpins s σ H Q I hw=>BoolOp_one (h pins s σ H Q I hw)
theorem lU(ha:PE X a ta)(hb:PE X (.BoolOp .And (b::rest) pos) tb):PE X (.BoolOp .And (a::b::rest) pos) (NB ta tb):=by
 intro pins s σ H Q I h
 refine BoolOp_and (cO (ha pins s σ H _ I h) λv s1 ⟨x,H1,I1,r1,q1⟩=>?_)
 obtain⟨c,rfl,q1⟩:=q1
 cases r1
 refine wpAny_truthy_bool ?_
 cases c with
 |true=>exact hb pins s1 σ H1 Q I1 q1
 |false=>exact⟨.bl false,H1,I1,rfl,q1⟩
def X3(t:TT)(ta tb:TE):TE:=λσ H Q=>t σ H λc H1=>if c=true then ta σ H1 Q else tb σ H1 Q
theorem lV{c:Expr}(hc:PT X c tA)(ha:PE X a ta)(hb:PE X b tb):PE X (.IfExp c a b pos) (X3 tA ta tb):=by
 intro pins s σ H Q I h
 refine wpAny_IfExp (cO (hc pins s σ H _ I h) λd s1 ⟨H1,I1,q1⟩=>?_)
 cases d with
 |true=>exact ha pins s1 σ H1 Q I1 q1
 |false=>exact hb pins s1 σ H1 Q I1 q1
end
def bW(K:W.Frag)(H:Hp)(a:Addr)(xs:List V):Prop :=
 Rd H a (.lst xs)\/
  ∃(o:Obj)(its:Array Value)(n:Nat),K.lookup a=some o/\o.cls=.type "list"/\o.dict=none/\o.data=.seq its n/\its.size<=sizeLine/\Vals xs its.toList
def aK(K:W.Frag)(H:Hp)(a:Addr)(xs:List V):Prop :=
 Rd H a (.tup xs)\/
  ∃(o:Obj)(its:Array Value)(n:Nat),K.lookup a=some o/\o.cls=.type "tuple"/\o.data=.seq its n/\its.size<=sizeLine/\Vals xs its.toList
def Q6:Value->Option V
 | .none=>some .non
 | .bool b=>some (.bl b)
 | .int i _=>some (.int i)
 | .str x _=>some (.str x)
 | .bytes b _=>some (.Fz b)
 | .float b _=>some (.ye b)
 | .ref a=>some (.ref a)
 | .type n=>some (.ty n)
 |_=>none
theorem RelV.abs{x:V}{u:Value}(r:RelV x u):Q6 u=some x:=by
 cases x with
 |non=>cases r;rfl
 |bl _=>cases r;rfl
 |int _=>obtain⟨t,rfl⟩:=r;rfl
 |str _=>obtain⟨t,rfl⟩:=r;rfl
 |Fz _=>obtain⟨t,rfl⟩:=r;rfl
 |ye _=>obtain⟨t,rfl⟩:=r;rfl
 |ref _=>cases r;rfl
 |ty _=>cases r;rfl
theorem RelV.inj{x y:V}{u:Value}(r:RelV x u)(q:RelV y u):x=y:=aaC (r.abs.symm.trans q.abs)
theorem Vals.inj:∀{xs ys:List V}{us:List Value},Vals xs us->Vals ys us->xs=ys
 |_,_,_,.nil,.nil=>rfl
 |_,_,_,.cons r t,.cons r' t'=>by rw[r.inj r',Vals.inj t t']
section
variable{X:Cx}{pins:List (Addr×Obj)}{σ:St}{H:Hp}{s:Shared}{a:Addr}{xs ys:List V}
theorem bW.of{K:W.Frag}(h:H a=some (.lst xs)):bW K H a xs:=.inl (.inl h)
theorem aK.of{K:W.Frag}(h:H a=some (.tup xs)):aK K H a xs:=.inl (.inl h)
theorem Inv.list(I:Inv X pins σ H s)(h:bW X.K H a xs):∃its:List Value,Vals xs its/\PlainL s.heap a its.toArray/\xs.length<=sizeLine:=by
 rcases h with h|⟨o,its,n,hk,hc,hd,hs,hz,r⟩
 ·obtain⟨z,its,n,r,e⟩:=h.ok I.hok
  exact⟨its,r,⟨_,n,e,O,O,O⟩,z⟩
 ·refine⟨its.toList,r,⟨o,n,I.pR a o hk,hc,hd,by simpa using hs⟩,?_⟩
  have e:=r.length
  simp only[aam]at e
  omega
theorem Inv.tuple(I:Inv X pins σ H s)(h:aK X.K H a xs):∃its:List Value,Vals xs its/\IsTup s.heap a its.toArray/\xs.length<=sizeLine:=by
 rcases h with h|⟨o,its,n,hk,hc,hs,hz,r⟩
 ·obtain⟨z,its,r,p⟩:=h.ok I.hok
  exact⟨its,r,p,z⟩
 ·refine⟨its.toList,r,⟨o,I.pR a o hk,hc,n,by simpa using hs⟩,?_⟩
  have e:=r.length
  simp only[aam]at e
  omega
theorem Inv.FW(I:Inv X pins σ H s)(h:bW X.K H a xs)(h':bW X.K H a ys):xs=ys:=by
 obtain⟨its,r,⟨o,n,e,_,_,d⟩,_⟩:=I.list h
 obtain⟨its',r',⟨o',n',e',_,_,d'⟩,_⟩:=I.list h'
 rw[e]at e';cases e'
 rw[d]at d'
 injection d' with d1 _
 have:its=its':=by simpa using congrArg Array.toList d1
 subst this
 exact r.inj r'
theorem Inv.yg(I:Inv X pins σ H s)(h:aK X.K H a xs)(h':aK X.K H a ys):xs=ys:=by
 obtain⟨its,r,⟨o,e,_,n,d⟩,_⟩:=I.tuple h
 obtain⟨its',r',⟨o',e',_,n',d'⟩,_⟩:=I.tuple h'
 rw[e]at e';cases e'
 rw[d]at d'
 injection d' with d1 _
 have:its=its':=by simpa using congrArg Array.toList d1
 subst this
 exact r.inj r'
end
abbrev Cx.w5(X:Cx)(E:Value->Shared->Prop):Cx:={X with xe:=E}
abbrev Cx.MV(X:Cx):Cx:=X.w5 λ_ _=>False
theorem Cx.Ok.w5{X:Cx}(ok:X.Ok)(E:Value->Shared->Prop):(X.w5 E).Ok :=
 ⟨ok.mod,ok.kind,ok.glob,ok.blt,ok.above,ok.inj,ok.has,ok.Nu,ok.hd,ok.frames,ok.stk,ok.Wf,ok.bs,ok.Im,ok.FT,ok.IA,ok.t9,ok.K7⟩
theorem Cx.Ok.lW{X:Cx}{E:Value->Shared->Prop}(ok:(X.w5 E).Ok):X.Ok :=
 ⟨ok.mod,ok.kind,ok.glob,ok.blt,ok.above,ok.inj,ok.has,ok.Nu,ok.hd,ok.frames,ok.stk,ok.Wf,ok.bs,ok.Im,ok.FT,ok.IA,ok.t9,ok.K7⟩
section
variable{X:Cx}{pins:List (Addr×Obj)}{σ:St}{H:Hp}{s:Shared}{E:Value->Shared->Prop}
theorem Inv.w5(I:Inv X pins σ H s)(E:Value->Shared->Prop):Inv (X.w5 E) pins σ H s:=⟨I.ok.w5 E,I.os,I.bare,I.base,I.loc,I.cell,I.free,I.oi,I.pin,I.hok,I.len⟩
theorem Inv.lW(I:Inv (X.w5 E) pins σ H s):Inv X pins σ H s:=⟨I.ok.lW,I.os,I.bare,I.base,I.loc,I.cell,I.free,I.oi,I.pin,I.hok,I.len⟩
theorem SP.lW{D:Ends}{f:Flow}{s':Shared}(h:SP (X.w5 E) pins D f s'):SP X pins D f s':=by
 cases f with
 |next=>obtain⟨σ',H',I,q⟩:=h;exact⟨σ',H',I.lW,q⟩
 |brk=>obtain⟨σ',H',I,q⟩:=h;exact⟨σ',H',I.lW,q⟩
 |cont=>obtain⟨σ',H',I,q⟩:=h;exact⟨σ',H',I.lW,q⟩
 |ret u=>obtain⟨v,σ',H',I,r,q⟩:=h;exact⟨v,σ',H',I.lW,r,q⟩
theorem DK.MV{st:List Stmt}{t:TS}(h:DK X.MV st t):DK X st t:=λpins s σ H D I hw =>
 abb (h pins s σ H D (I.w5 _) hw) (λ_ _ q=>q.lW) λ_ _ z=>False.elim z
end
section
variable{X:Cx}{st:Stmt}{rest:List Stmt}{t u:TS}{e:Expr}{te:TE}{pos:Pos}
def DM:TS:=λD σ H=>D.nx σ H
def IC(t u:TS):TS:=λD σ H=>t {D with nx:=u D} σ H
theorem aA:DK X [] DM:=λ_ _ σ H _ I h=>wpAny_execs_nil ⟨σ,H,I,h⟩
theorem ai(h1:PS X st t)(h2:DK X rest u):DK X (st::rest) (IC t u):=by
 intro pins s σ H D I h
 refine wpAny_execs_cons (cO (h1 pins s σ H {D with nx:=u D} I h) λf s1 q=>?_)
 cases f with
 |next =>
  obtain⟨σ',H',I',q⟩:=q
  exact h2 pins s1 σ' H' D I' q
 |ret v=>exact q
 |brk=>exact q
 |cont=>exact q
theorem ak(h1:PS X st t):DK X [st] t:=by
 intro pins s σ H D I h
 refine wpAny_execs_cons (cO (h1 pins s σ H D I h) λf s1 q=>?_)
 cases f with
 |next=>exact wpAny_execs_nil q
 |ret v=>exact q
 |brk=>exact q
 |cont=>exact q
def NC:TS:=λD σ H=>D.ct σ H
theorem AY:PS X (.Continue pos) NC:=λ_ _ σ H _ I h=>wpAny_Continue ⟨σ,H,I,h⟩
theorem Inv.quiet{pins:List (Addr×Obj)}{σ:St}{H:Hp}{s:Shared}(I:Inv X pins σ H s):interactive X.env=false:=by simp[interactive,I.ok.kind]
def ND(te:TE):TS:=λD σ H=>te σ H λ_ H1=>D.nx σ H1
theorem j9(he:PE X e te)(hs:swapsWith e none pos.line X.env=pure false:=by rfl):PS X (.Expr e pos) (ND te):=by
 intro pins s σ H D I h
 exact wpAny_Expr_any (cO (he pins s σ H _ I h) λv s1 ⟨x,H1,I1,r1,q1⟩=>⟨σ,H1,I1,q1⟩) I.quiet hs
def Q7(te:TE):TS:=λD σ H=>te σ H D.rt
theorem az(he:PE X e te):PS X (.Return (some e) pos) (Q7 te):=by
 intro pins s σ H D I h
 exact wpAny_Return_some (cO (he pins s σ H _ I h) λv s1 ⟨x,H1,I1,r1,q1⟩=>⟨x,σ,H1,I1,r1,q1⟩)
def FY(c:TT)(t u:TS):TS:=λD σ H=>c σ H λb H1=>if b=true then t D σ H1 else u D σ H1
theorem aG{c:Expr}{a b:List Stmt}{tc:TT}(hc:PT X c tc)(ha:DK X a t)(hb:DK X b u):PS X (.If c a b pos) (FY tc t u):=by
 intro pins s σ H D I h
 refine wpAny_If (cO (hc pins s σ H _ I h) λd s1 ⟨H1,I1,q1⟩=>?_)
 cases d with
 |true=>exact ha pins s1 σ H1 D I1 q1
 |false=>exact hb pins s1 σ H1 D I1 q1
def Lb:TS:=λ_ _ _=>False
theorem lX:PS X st Lb:=λ_ _ _ _ _ _ h=>h.elim
end
abbrev TG:=V->St->Hp->(St->Hp->Prop)->Prop
abbrev Ku:=List V->St->Hp->(St->Hp->Prop)->Prop
def PG(X:Cx)(target:Expr)(t:TG):Prop :=
 ∀(pins:List (Addr×Obj))(s:Shared)(σ:St)(H:Hp)(v:V)(u:Value)(Q:St->Hp->Prop),Inv X pins σ H s->RelV v u->t v σ H Q->wpAny (model X.prog X.w) X.A (assign target X.env u) (λ_ s'=>∃σ' H',Inv X pins σ' H' s'/\Q σ' H') X.xe s
def NF(X:Cx)(ts:List Expr)(t:Ku):Prop :=
 ∀(pins:List (Addr×Obj))(s:Shared)(σ:St)(H:Hp)(vs:List V)(us:List Value)(Q:St->Hp->Prop),Inv X pins σ H s->Vals vs us->t vs σ H Q->wpAny (model X.prog X.w) X.A (assignInOrder ((assignEach ts X.env).map (·.2)) us) (λ_ s'=>∃σ' H',Inv X pins σ' H' s'/\Q σ' H') X.xe s
section
variable{X:Cx}{pos:Pos}
def bH(i:Nat):TG:=λv σ H Q=>Q (σ.set i (some v)) H
theorem ID{i:Nat}{x:Str}(hN:X.N.Nodup)(hi:X.N[i]?=some x)(hx:Loc X.env.scope x)(hf:X.fn x=true\/X.env.scope.names.lookup x=some .local:=by first|exact .inl rfl|exact .inr rfl|assumption):PG X (.Name x pos) (bH i):=by
 intro pins s σ H v u Q I r h
 exact wpAny_assign_Name (AW I hN hi hx r (λs' I'=>⟨_,H,I',h⟩) hf)
def Q8:Ku:=λvs σ H Q=>vs=[]/\Q σ H
def NG(t:TG)(u:Ku):Ku:=λvs σ H Q=>∃v r,vs=v::r/\t v σ H λσ' H'=>u r σ' H' Q
theorem ji:NF X [] Q8:=by
 intro pins s σ H vs us Q I r h
 obtain⟨e,h⟩:=h
 subst e
 cases r
 exact assignInOrder_nil ⟨σ,H,I,h⟩
theorem aP{e:Expr}{es:List Expr}{t:TG}{u:Ku}(h1:PG X e t)(h2:NF X es u)(hs:(assignEach (e::es) X.env).map (·.2)=assign e X.env::(assignEach es X.env).map (·.2):=by rfl):NF X (e::es) (NG t u):=by
 intro pins s σ H vs us Q I r h
 obtain⟨v,vr,e1,h⟩:=h
 subst e1
 cases r with
 |cons r rr =>
  rw[hs]
  refine assignInOrder_cons (cO (h1 pins s σ H _ _ _ I r h) λ_ s1 ⟨σ1,H1,I1,q1⟩=>?_)
  exact h2 pins s1 σ1 H1 _ _ Q I1 rr q1
def NH(K:W.Frag)(n:Nat)(t:Ku):TG:=λv σ H Q=>∃a xs,v=.ref a/\aK K H a xs/\xs.length=n/\t xs σ H Q
theorem Lc{es:List Expr}{k:Nat}{t:Ku}{n:Nat}(hc:X.calm=true)(h:NF X es t)(hn:(assignEach es X.env).length=n:=by rfl)(hst:(assignEach es X.env).findIdx? (·.1)=none:=by rfl):PG X (.Tuple es k pos) (NH X.K n t):=by
 intro pins s σ H v u Q I r hw
 obtain⟨a,xs,e1,hq,hl,hw⟩:=hw
 subst e1
 cases r
 obtain⟨its,rv,ht,hz⟩:=I.tuple hq
 refine assign_Tuple_tuple (I.ok.hd hc) ht (by simp[hn,←hl,rv.length]) hst λh' hx=>?_
 have I1:Inv X pins σ H {s with heap:=h'}:=I.kept (t':=s.toks) λb o e=>hx b o (aaM (aax e)) e
 exact h pins _ σ H xs _ Q I1 (by simpa using rv) hw
def IE(te:TE)(g:TG):TS:=λD σ H=>te σ H λx H1=>g x σ H1 D.nx
theorem lY{tg e:Expr}{te:TE}{g:TG}(he:PE X e te)(hg:PG X tg g)(hs:swapsWithSole [tg] e pos.line X.env=pure false:=by rfl)(hw:swappedStores [tg] e X.env=pure none:=by rfl)(h1:(assignEach [tg] X.env).map (·.2)=[assign tg X.env]:=by rfl):PS X (.Assign [tg] e pos) (IE te g):=by
 intro pins s σ H D I h
 refine wpAny_Assign_stores (cO (he pins s σ H _ I h) λv s1 ⟨x,H1,I1,r1,q1⟩=>?_) hs hw
 rw[h1]
 exact cO (hg pins s1 σ H1 x v _ I1 r1 q1) λ_ s2 q=>q
theorem Ld{i:Nat}{x:Str}{e:Expr}{te:TE}{pos':Pos}(hN:X.N.Nodup)(hi:X.N[i]?=some x)(hx:Loc X.env.scope x)(he:PE X e te)(hs:swapsWith e (some (.Name x pos')) pos.line X.env=pure false:=by rfl)(hf:X.fn x=true\/X.env.scope.names.lookup x=some .local:=by first|exact .inl rfl|exact .inr rfl|assumption):PS X (.Assign [.Name x pos'] e pos) (IE te (bH i)):=by
 intro pins s σ H D I h
 refine wpAny_Assign_Name (cO (he pins s σ H _ I h) λv s1 ⟨y,H1,I1,r1,q1⟩=>?_) hs
 exact AW I1 hN hi hx r1 (λs2 I2=>⟨_,H1,I2,q1⟩) hf
end
section
variable{X:Cx}{pos:Pos}
def Le(c:TT)(tb:TS):TS:=λD σ H=>∃W:Nat->St->Hp->Prop,(∃m,W m σ H)/\∀m σ H,W m σ H->c σ H λb H1=>if b=true then ∃N:St->Hp->Prop,(∀σ' H',N σ' H'->∃m',m'<m/\W m' σ' H')/\tb {D with nx:=N,ct:=N,bk:=D.nx} σ H1 else D.nx σ H1
theorem vm{c:Expr}{body:List Stmt}{tc:TT}{tb:TS}(hp:PassesOwn (model X.prog X.w) X.A X.env X.xe)(hc:PT X c tc)(hb:DK X body tb):PS X (.While c body [] pos) (Le tc tb):=by
 intro pins s σ H D I h
 obtain⟨W,⟨m0,w0⟩,turn⟩:=h
 refine wpAny_While (codeAny_whileLoop (λn s'=>∃σ' H',Inv X pins σ' H' s'/\W n σ' H') ?_ m0 ⟨σ,H,I,w0⟩)
 rintro n s1 ⟨σ1,H1,I1,w1⟩
 refine abw hp (cO (hc pins s1 σ1 H1 _ I1 (turn n σ1 H1 w1)) λb s2 ⟨H2,I2,q2⟩=>?_)
 cases b with
 |true =>
  obtain⟨N,hN,q2⟩:=q2
  rw[aai rfl]
  refine abw hp (cO (hb pins s2 σ1 H2 _ I2 q2) λf s3 q3=>?_)
  cases f with
  |next =>
   obtain⟨σ3,H3,I3,n3⟩:=q3
   obtain⟨m',hm,w3⟩:=hN σ3 H3 n3
   exact⟨m',hm,σ3,H3,I3,w3⟩
  |cont =>
   obtain⟨σ3,H3,I3,n3⟩:=q3
   obtain⟨m',hm,w3⟩:=hN σ3 H3 n3
   exact⟨m',hm,σ3,H3,I3,w3⟩
  |brk=>exact q3
  |ret v=>exact q3
 |false =>
  rw[aah aat]
  exact wpAny_execs_nil ⟨σ1,H2,I2,q2⟩
end
structure It where
 go:Nat->Hp->Prop
 Lg:Nat->Hp->V->Hp->Prop
 stop:Nat->Hp->Prop
def vn(X:Cx)(pins:List (Addr×Obj))(H:Hp)(b:Addr):Prop :=
 H b=none/\b≠X.env.locals/\b∉X.fs/\(b∈X.ex\/X.s₀.heap.objs.size<=b)/\(∀x c,X.env.cells.lookup x=some c->c≠b)/\∀p∈X.pn++pins,p.1≠b
theorem Inv.yZ{X:Cx}{pins:List (Addr×Obj)}{σ:St}{H H':Hp}{s:Shared}{b:Addr}(I:Inv X pins σ H s)(hb:s.heap.objs.size<=b)(hn:H' b=none):vn X pins H' b:=by
 refine⟨hn,Nat.ne_of_gt (aaG I.lt hb),I.Q0 hb,.inr (aao I.sz hb),λx c e z=>?_,λp hp z=>?_⟩
 ·obtain⟨v,q⟩:=I.cell x c e
  exact absurd (aaG q.lt (by rw[z];exact hb)) (Nat.lt_irrefl _)
 ·exact absurd (aaG (aax (I.pin p hp).1) (by rw[z];exact hb)) (Nat.lt_irrefl _)
structure Turn(P:Program)(w:World)(K:W.Frag)(tg:Expr)(J:It)(fp:List Addr)(it:Addr)(tn:Nat->Heap->Prop):Prop where
 mem:it∈fp
 obj:∀i h,tn i h->∀b∈fp,∃o,h.get? b=some o/\∀v,o.data≠.cell v
 keep:∀i h h',tn i h->(∀b∈fp,∀o,h.get? b=some o->h'.get? b=some o)->tn i h'
 item:∀(X:Cx),X.prog=P->X.w=w->X.K=K->X.calm=true->∀(i:Nat)(pins:List (Addr×Obj))(s:Shared)(σ:St)(H:Hp)(E:Value->Shared->Prop),Inv X pins σ H s->(∀b∈fp,vn X pins H b)->tn i s.heap->J.go i H->wpAny (model P w) X.A (pyNext (.ref it)) (λr s1=>∃u,r=some u/\wpAny (model P w) X.A (letOwnedTupleGo tg (.ref it) u) (λ_ s2=>∃x H',Inv X pins σ H' s2/\RelV x u/\J.Lg i H x H'/\tn (i+1) s2.heap/\∀b∈fp,H' b=none) E s1) E s
 done:∀(X:Cx),X.prog=P->X.w=w->X.K=K->X.calm=true->∀(i:Nat)(pins:List (Addr×Obj))(s:Shared)(σ:St)(H:Hp)(E:Value->Shared->Prop),Inv X pins σ H s->(∀b∈fp,vn X pins H b)->tn i s.heap->J.stop i H->wpAny (model P w) X.A (pyNext (.ref it)) (λr s1=>r=none/\Inv X pins σ H s1) E s
 self:∀(A:Around)(i:Nat)(s:Shared)(Q:Value->Shared->Prop)(E:Value->Shared->Prop),tn i s.heap->Q (.ref it) s->wpAny (model P w) A (pyIter (.ref it)) Q E s
abbrev TI:=St->Hp->(It->Hp->Prop)->Prop
def Wi(X:Cx)(pins:List (Addr×Obj))(σ:St)(tg:Expr)(R:It->Hp->Prop)(itv:Value)(s2:Shared):Prop :=
 ∃(it:Addr)(fp:List Addr)(tn:Nat->Heap->Prop)(J:It)(H':Hp),itv=.ref it/\Inv X pins σ H' s2/\Turn X.prog X.w X.K tg J fp it tn/\tn 0 s2.heap/\(∀b∈fp,vn X pins H' b)/\R J H'
def PI(X:Cx)(tg iter:Expr)(wi:TI):Prop :=
 ∀(pins:List (Addr×Obj))(s:Shared)(σ:St)(H:Hp)(R:It->Hp->Prop),Inv X pins σ H s->wi σ H R->wpAny (model X.prog X.w) X.A (eval iter X.env) (λv s1=>wpAny (model X.prog X.w) X.A (pyIter v) (Wi X pins σ tg R) X.xe s1) X.xe s
theorem yh{M:Model}{A:Around}{E:Value->Shared->Prop}{s:Shared}{tg:Expr}{it:Addr}{u:Value}{o:Obj}{n:String}{vs:Array Value}{Q:Unit->Shared->Prop}(ho:s.heap.get? it=some o)(hc:o.cls=.type n)(hd:o.data=.fields vs)(hn:["enumerate","zip","dict_itemiterator","dict_reverseitemiterator","odict_iterator","itertools.zip_longest","itertools.pairwise"].contains n=false)(hQ:Q () s):wpAny M A (letOwnedTupleGo tg (.ref it) u) Q E s:=by
 unfold letOwnedTupleGo
 cases tg<;>first
   |exact aak hQ
   | (cases u<;>first
       |exact aak hQ
       | (refine aag (wpAny_load ho ?_)
          rw[hc,hd]
          show wpAny M A (if (["enumerate","zip","dict_itemiterator","dict_reverseitemiterator","odict_iterator","itertools.zip_longest","itertools.pairwise"].contains n&&vs[0]?==some (rawInt _))=true then _ else _) Q E s
          rw[aah (by intro h;rw[hn,Bool.false_and]at h;cases h)]
          exact aak hQ))
def MW(K:W.Frag)(a:Addr):It :=
 ⟨λi H=>∃xs x,bW K H a xs/\xs[i]?=some x,λi H x H'=>H'=H/\∀xs,bW K H a xs->xs[i]?=some x,λi H=>∃xs,bW K H a xs/\xs.length<=i⟩
def MX(K:W.Frag)(a:Addr):It :=
 ⟨λi H=>∃xs x,aK K H a xs/\xs[i]?=some x,λi H x H'=>H'=H/\∀xs,aK K H a xs->xs[i]?=some x,λi H=>∃xs,aK K H a xs/\xs.length<=i⟩
def MY(lo:Int)(n:Nat):It:=⟨λi _=>i<n,λi H x H'=>H'=H/\x=.int (lo+i),λi _=>n<=i⟩
theorem Ew{P:Program}{w:World}{K:W.Frag}{tg:Expr}(a it:Addr):Turn P w K tg (MW K a) [it] it (λi h=>h.IsListIter it a i) where
 mem:=by simp
 obj:=λi h st b hb=>by
  have e:b=it:=by simpa using hb
  subst e
  obtain⟨o,e,c,d⟩:=st
  exact⟨o,e,λv z=>by rw[d]at z;cases z⟩
 keep:=λi h h' st k=>st.at λo e=>k it (by simp) o e
 item:=by
  intro X hP hw hK hc i pins s σ H E I hf st hg
  subst hP hw hK
  obtain⟨xs,x,hq,hx⟩:=hg
  obtain⟨its,rv,p,hz⟩:=I.list hq
  obtain⟨u,hu,ru⟩:=rv.get hx
  obtain⟨f0,f1,f2,f3,f4,f5⟩:=hf it (by simp)
  refine wpAny_pyNext_list_item st p.isList (x:=u) (by simpa using hu) λh' st' sb=>?_
  have I1:Inv X pins σ H {s with heap:=h'}:=I.turned (t':=s.toks) (λb o hb e=>(sb.2 b hb).trans e) f0 f1 f3 f4 f5
  obtain⟨o,e,c,d⟩:=id st'
  exact⟨u,rfl,yh (s:={s with heap:=h'}) e c d (by decide) ⟨x,H,I1,ru,⟨rfl,λys hy=>by rw[I.FW hy hq];exact hx⟩,st',λb hb=>(hf b hb).1⟩⟩
 done:=by
  intro X hP hw hK hc i pins s σ H E I hf st hg
  subst hP hw hK
  obtain⟨xs,hq,hx⟩:=hg
  obtain⟨its,rv,p,hz⟩:=I.list hq
  obtain⟨f0,f1,f2,f3,f4,f5⟩:=hf it (by simp)
  have hl:=rv.length
  exact wpAny_pyNext_list_end (I.ok.hd hc) st p.isList (by simp;omega) λh' eb=>⟨rfl,I.turned (t':=s.toks) (λb o hb e=>eb b o hb e) f0 f1 f3 f4 f5⟩
 self:=λ_ _ _ _ _ st h=>wpAny_pyIter_listiter st h
theorem Cg{P:Program}{w:World}{K:W.Frag}{tg:Expr}(a it:Addr):Turn P w K tg (MX K a) [it] it (λi h=>h.IsTupleIter it a i) where
 mem:=by simp
 obj:=λi h st b hb=>by
  have e:b=it:=by simpa using hb
  subst e
  obtain⟨o,e,c,d⟩:=st
  exact⟨o,e,λv z=>by rw[d]at z;cases z⟩
 keep:=λi h h' st k=>st.at λo e=>k it (by simp) o e
 item:=by
  intro X hP hw hK hc i pins s σ H E I hf st hg
  subst hP hw hK
  obtain⟨xs,x,hq,hx⟩:=hg
  obtain⟨its,rv,p,hz⟩:=I.tuple hq
  obtain⟨u,hu,ru⟩:=rv.get hx
  obtain⟨f0,f1,f2,f3,f4,f5⟩:=hf it (by simp)
  refine wpAny_pyNext_tuple_item st (show s.heap.IsTuple a its.toArray from p) (x:=u) (by simpa using hu) λh' st' sb=>?_
  have I1:Inv X pins σ H {s with heap:=h'}:=I.turned (t':=s.toks) (λb o hb e=>(sb.2 b hb).trans e) f0 f1 f3 f4 f5
  obtain⟨o,e,c,d⟩:=id st'
  exact⟨u,rfl,yh (s:={s with heap:=h'}) e c d (by decide) ⟨x,H,I1,ru,⟨rfl,λys hy=>by rw[I.yg hy hq];exact hx⟩,st',λb hb=>(hf b hb).1⟩⟩
 done:=by
  intro X hP hw hK hc i pins s σ H E I hf st hg
  subst hP hw hK
  obtain⟨xs,hq,hx⟩:=hg
  obtain⟨its,rv,p,hz⟩:=I.tuple hq
  obtain⟨f0,f1,f2,f3,f4,f5⟩:=hf it (by simp)
  have hl:=rv.length
  exact wpAny_pyNext_tuple_end (I.ok.hd hc) st (show s.heap.IsTuple a its.toArray from p) (by simp;omega) λh' eb=>⟨rfl,I.turned (t':=s.toks) (λb o hb e=>eb b o hb e) f0 f1 f3 f4 f5⟩
 self:=λ_ _ _ _ _ st h=>wpAny_pyIter_tupleiter st h
theorem Ci{P:Program}{w:World}{K:W.Frag}{tg:Expr}(it:Addr)(lo:Int)(n:Nat):Turn P w K tg (MY lo n) [it] it (λi h=>IsRangeIter h it (lo+(i:Nat)*1) ((n:Int)-(i:Nat)) 1) where
 mem:=by simp
 obj:=λi h st b hb=>by
  have e:b=it:=by simpa using hb
  subst e
  exact⟨_,st,λv z=>by
   have z':Data.fields _=Data.cell v:=z
   cases z'⟩
 keep:=λi h h' st k=>k it (by simp) _ st
 item:=by
  intro X hP hw hK hc i pins s σ H E I hf st hg
  subst hP hw hK
  obtain⟨f0,f1,f2,f3,f4,f5⟩:=hf it (by simp)
  have W:=Walks.range (prog:=X.prog) (w:=X.w) (I.ok.hd hc) it lo 1 n
  refine W.item i s _ _ hg st λv h' tk hv st' kk=>?_
  obtain⟨t,rfl⟩:=hv
  have I1:Inv X pins σ H {s with heap:=h',toks:=tk}:=I.turned (λb o hb e=>kk b o (by simpa using hb) e) f0 f1 f3 f4 f5
  refine⟨_,rfl,yh (s:={s with heap:=h',toks:=tk}) (n:="range_iterator") st' rfl rfl (by decide) ⟨.int (lo+i),H,I1,⟨t,?_⟩,⟨rfl,rfl⟩,st',λb hb=>(hf b hb).1⟩⟩
  rw[Int.mul_one]
 done:=by
  intro X hP hw hK hc i pins s σ H E I hf st hg
  subst hP hw hK
  obtain⟨f0,f1,f2,f3,f4,f5⟩:=hf it (by simp)
  exact wpAny_pyNext_range_end (I.ok.hd hc) st (by have:n<=i:=hg;omega) λh' eb=>⟨rfl,I.turned (t':=s.toks) (λb o hb e=>eb b o hb e) f0 f1 f3 f4 f5⟩
 self:=λ_ _ _ _ _ st h=>wpAny_pyIter_rangeiter st h
section
variable{X:Cx}{tg:Expr}
def Kv(K:W.Frag)(tl:TE):TI:=λσ H R=>tl σ H λx H1=>∃a,x=.ref a/\(∃xs,bW K H1 a xs)/\R (MW K a) H1
def NI(K:W.Frag)(tl:TE):TI:=λσ H R=>tl σ H λx H1=>∃a,x=.ref a/\(∃xs,aK K H1 a xs)/\R (MX K a) H1
theorem IF{l:Expr}{tl:TE}(hl:PE X l tl):PI X tg l (Kv X.K tl):=by
 intro pins s σ H R I h
 refine cO (hl pins s σ H _ I h) λv s1 ⟨x,H1,I1,r1,q1⟩=>?_
 obtain⟨a,e,⟨xs,hq⟩,q⟩:=q1
 subst e
 cases r1
 obtain⟨its,rv,p,hz⟩:=I1.list hq
 refine wpAny_pyIter_list p.isList ?_
 refine⟨s1.heap.objs.size,[s1.heap.objs.size],_,_,H1,rfl,I1.kept (t':=s1.toks) λb o e=>aan _ e,Ew a _,⟨_,aay _ rfl,rfl,rfl⟩,λb hb=>?_,q⟩
 have e:b=s1.heap.objs.size:=by simpa using hb
 subst e
 exact I1.yZ (aaj _) (I1.hok.fresh (aaj _))
theorem Lh{l:Expr}{tl:TE}(hl:PE X l tl):PI X tg l (NI X.K tl):=by
 intro pins s σ H R I h
 refine cO (hl pins s σ H _ I h) λv s1 ⟨x,H1,I1,r1,q1⟩=>?_
 obtain⟨a,e,⟨xs,hq⟩,q⟩:=q1
 subst e
 cases r1
 obtain⟨its,rv,p,hz⟩:=I1.tuple hq
 refine wpAny_pyIter_tuple (show s1.heap.IsTuple a its.toArray from p) ?_
 refine⟨s1.heap.objs.size,[s1.heap.objs.size],_,_,H1,rfl,I1.kept (t':=s1.toks) λb o e=>aan _ e,Cg a _,⟨_,aay _ rfl,rfl,rfl⟩,λb hb=>?_,q⟩
 have e:b=s1.heap.objs.size:=by simpa using hb
 subst e
 exact I1.yZ (aaj _) (I1.hok.fresh (aaj _))
theorem FZ{pins:List (Addr×Obj)}{σ:St}{H:Hp}{s:Shared}{R:It->Hp->Prop}{E:Value->Shared->Prop}{lo hi:Int}{t u v:Tok}{tk:Nat}(I:Inv X pins σ H s)(h1 : -(2 ^ 62)<=lo)(h2:lo<2 ^ 62)(h3 : -(2 ^ 62)<=hi)(h4:hi<2 ^ 62)(q:R (MY lo (hi-lo).toNat) H):wpAny (model X.prog X.w) X.A (pyIter (.ref s.heap.objs.size)) (Wi X pins σ tg R) E {s with heap:=s.heap.push {cls:=.type "range",data:=.fields #[.int lo t,.int hi u,.int 1 v]},toks:=tk}:=by
 refine wpAny_pyIter_range (IsRange.new ..) (small_one h1 h2 h3 h4) ?_
 have I1:Inv X pins σ H {s with heap:=s.heap.push {cls:=.type "range",data:=.fields #[.int lo t,.int hi u,.int 1 v]},toks:=tk}:=I.kept λb o e=>aan _ e
 refine⟨(s.heap.push {cls:=.type "range",data:=.fields #[.int lo t,.int hi u,.int 1 v]}).objs.size,[(s.heap.push {cls:=.type "range",data:=.fields #[.int lo t,.int hi u,.int 1 v]}).objs.size],_,_,H,rfl,I1.kept (t':=tk) λb o e=>aan _ e,Ci _ lo (hi-lo).toNat,?_,λb hb=>?_,q⟩
 ·have e1:lo+((0:Nat):Int)*1=lo:=by simp
  have e2:(((hi-lo).toNat:Nat):Int)-((0:Nat):Int)=Builtin.Range.rangeSize lo hi 1:=by rw[rangeSize_one];split<;>omega
  show IsRangeIter _ _ (lo+((0:Nat):Int)*1) ((((hi-lo).toNat:Nat):Int)-((0:Nat):Int)) 1
  rw[e1,e2]
  exact aay _ rfl
 ·have e:b=(s.heap.push {cls:=.type "range",data:=.fields #[.int lo t,.int hi u,.int 1 v]}).objs.size:=by simpa using hb
  subst e
  exact I1.yZ (aaj _) (I1.hok.fresh (aaj _))
def NJ(ta:TA):TI:=λσ H R=>ta σ H λvs H1=>∃j:Int,vs=[.int j]/\-(2 ^ 62)<=j/\j<2 ^ 62/\R (MY 0 j.toNat) H1
theorem Ey{a:Expr}{ta:TA}{p pos:Pos}(hg:Gl X "range")(hm:X.mg "range"=none)(ha:PA X [a] ta)(hs:starEach [a] X.env=[(false,eval a X.env)]:=by rfl):PI X tg (.Call (.Name "range" p) [a] [] pos) (NJ ta):=by
 intro pins s σ H R I h
 refine Call_ (qV I hg hm boot_range (abt (cO (ha pos pins s σ H _ I h) λus s1 ⟨vs,H1,I1,r1,q1⟩=>?_) hs rfl))
 obtain⟨j,e,q1,q2,q⟩:=q1
 subst e
 cases r1 with
 |cons r rr =>
  cases rr
  obtain⟨t,rfl⟩:=r
  exact call_range_1 (FZ I1 (by omega) (by omega) q1 q2 (by simpa using q))
def Q9(wi:TI)(g:TG)(tb:TS):TS:=λD σ H=>wi σ H λJ H1=>∃W:Nat->Nat->St->Hp->Prop,(∃m,W 0 m σ H1)/\∀i m σ H,W i m σ H->(J.stop i H/\D.nx σ H)\/(J.go i H/\∃N:St->Hp->Prop,(∀σ' H',N σ' H'->∃m',m'<m/\W (i+1) m' σ' H')/\∀x H',J.Lg i H x H'->g x σ H' λσ2 H2=>tb {D with nx:=N,ct:=N,bk:=D.nx} σ2 H2)
def vo(fp:List Addr)(h:Heap):List (Addr×Obj):=fp.filterMap λb=>(h.get? b).map λo=>(b,o)
theorem kc{fp:List Addr}{h:Heap}{b:Addr}{o:Obj}(hb:b∈fp)(e:h.get? b=some o):(b,o)∈vo fp h:=List.mem_filterMap.mpr ⟨b,hb,by rw[e];rfl⟩
theorem Ez{fp:List Addr}{h:Heap}{p:Addr×Obj}(hp:p∈vo fp h):p.1∈fp/\h.get? p.1=some p.2:=by
 obtain⟨b,hb,e⟩:=List.mem_filterMap.mp hp
 cases q:h.get? b with
 |none=>rw[q]at e;cases e
 |some o =>
  rw[q]at e
  have e':(b,o)=p:=aaC e
  subst e'
  exact⟨hb,q⟩
theorem Inv.pinned{pins:List (Addr×Obj)}{σ:St}{H:Hp}{s:Shared}{fp:List Addr}(I:Inv X pins σ H s)(hf:∀b∈fp,vn X pins H b)(ho:∀b∈fp,∃o,s.heap.get? b=some o/\∀v,o.data≠.cell v):Inv X (pins++vo fp s.heap) σ H s :=
 I.DJ λp hp=>(aaY.mp hp).elim (λz=>I.pin p (aaB _ z)) λz=>by
  obtain⟨hb,e⟩:=Ez z
  obtain⟨f0,f1,f2,_⟩:=hf p.1 hb
  obtain⟨o,e',d⟩:=ho p.1 hb
  rw[e]at e';cases e'
  exact⟨e,f0,f1,f2,d⟩
theorem Inv.pS{pins pl:List (Addr×Obj)}{σ:St}{H:Hp}{s:Shared}(I:Inv X (pins++pl) σ H s):Inv X pins σ H s:=I.DJ λp hp=>I.pin p (aaB _ (aaN _ hp))
theorem fL{iter:Expr}{body:List Stmt}{wi:TI}{g:TG}{tb:TS}{pos:Pos}(hp:PassesOwn (model X.prog X.w) X.A X.env X.xe)(hc:X.calm=true)(hi:PI X tg iter wi)(hg:PG X tg g)(hb:DK X body tb)(hs:∀x,foldedSetIterable iter X.env x=pure x:=by intro _;rfl):PS X (.For tg iter body [] pos) (Q9 wi g tb):=by
 intro pins s σ H D I h
 refine wpAny_For (cO (hi pins s σ H _ I h) λv s1 h1=>cO h1 λitv s2 h2=>?_) hs
 obtain⟨it,fp,tn,J,H2,e,I2,T,st2,f2,W,⟨m0,w0⟩,turn⟩:=h2
 subst e
 have Cj:∀{H':Hp},(∀b∈fp,H' b=none)->∀b∈fp,vn X pins H' b:=λhn b hb=>⟨hn b hb,(f2 b hb).2⟩
 refine codeAny_forLoop_any (λn s'=>∃i σ' H',Inv X pins σ' H' s'/\tn i s'.heap/\(∀b∈fp,H' b=none)/\W i n σ' H') ?_ m0 ⟨0,σ,H2,I2,st2,λb hb=>(f2 b hb).1,w0⟩
 rintro n s3 ⟨i,σ3,H3,I3,st3,Wj,w3⟩
 rcases turn i n σ3 H3 w3 with ⟨stop,qn⟩|⟨go,N,hN,step⟩
 ·refine abw hp (cO (T.done X rfl rfl rfl hc i pins s3 σ3 H3 X.xe I3 (Cj Wj) st3 stop) λr s4 ⟨hr,I4⟩=>?_)
  subst hr
  exact wpAny_execs_nil ⟨σ3,H3,I4,qn⟩
 ·refine abw hp (cO (T.item X rfl rfl rfl hc i pins s3 σ3 H3 X.xe I3 (Cj Wj) st3 go) λr s4 ⟨u,hr,h4⟩=>?_)
  subst hr
  refine abw hp (cO h4 λ_ s5 ⟨x,H5,I5,r5,y5,Ra,X4⟩=>?_)
  have X5:=I5.pinned (Cj X4) (T.obj _ _ Ra)
  refine abw hp (cO (hg _ s5 σ3 H5 x u _ X5 r5 (step x H5 y5)) λ_ s6 ⟨σ6,H6,I6,q6⟩=>?_)
  refine abw hp (cO (hb _ s6 σ6 H6 _ I6 q6) λf s7 q7=>?_)
  have again:∀{σ7:St}{H7:Hp},Inv X (pins++vo fp s5.heap) σ7 H7 s7->N σ7 H7->∃m,m<n/\∃i σ' H',Inv X pins σ' H' s7/\tn i s7.heap/\(∀b∈fp,H' b=none)/\W i m σ' H':=λ{σ7 H7} I7 n7=>by
   obtain⟨m',hm,w7⟩:=hN σ7 H7 n7
   refine⟨m',hm,i+1,σ7,H7,I7.pS,T.keep _ _ _ Ra λb hb o e=>(I7.pin (b,o) (aaB _ (aaB _ (kc hb e)))).1,λb hb=>?_,w7⟩
   obtain⟨o,e,d⟩:=T.obj _ _ Ra b hb
   exact(I7.pin (b,o) (aaB _ (aaB _ (kc hb e)))).2.1
  cases f with
  |next=>obtain⟨σ7,H7,I7,n7⟩:=q7;exact again I7 n7
  |cont=>obtain⟨σ7,H7,I7,n7⟩:=q7;exact again I7 n7
  |brk=>obtain⟨σ7,H7,I7,q7⟩:=q7;exact⟨σ7,H7,I7.pS,q7⟩
  |ret v=>obtain⟨x7,σ7,H7,I7,r7,q7⟩:=q7;exact⟨x7,σ7,H7,I7.pS,r7,q7⟩
end
theorem lZ{K:W.Frag}{a:Addr}{xs:List V}{g:TG}{tb:TS}{D:Ends}{σ:St}{H:Hp}(Pv:Nat->St->Hp->Prop)(h0:Pv 0 σ H)(hl:∀i σ H,i<=xs.length->Pv i σ H->bW K H a xs)(hs:∀i x σ H,xs[i]?=some x->Pv i σ H->g x σ H λσ2 H2=>tb {D with nx:=Pv (i+1),ct:=Pv (i+1),bk:=D.nx} σ2 H2)(hd:∀σ H,Pv xs.length σ H->D.nx σ H):∃W:Nat->Nat->St->Hp->Prop,(∃m,W 0 m σ H)/\∀i m σ H,W i m σ H->((MW K a).stop i H/\D.nx σ H)\/((MW K a).go i H/\∃N:St->Hp->Prop,(∀σ' H',N σ' H'->∃m',m'<m/\W (i+1) m' σ' H')/\∀x H',(MW K a).Lg i H x H'->g x σ H' λσ2 H2=>tb {D with nx:=N,ct:=N,bk:=D.nx} σ2 H2):=by
 refine⟨λi m σ H=>m=xs.length-i/\i<=xs.length/\Pv i σ H,⟨xs.length,by simp,aaK _,h0⟩,?_⟩
 rintro i m σ H ⟨rfl,hi,p⟩
 have q:=hl i σ H hi p
 by_cases hlt:i<xs.length
 ·refine .inr ⟨⟨xs,xs[i],q,by simp[hlt]⟩,Pv (i+1),λσ' H' p'=>⟨xs.length-(i+1),by omega,rfl,hlt,p'⟩,λx H' y=>?_⟩
  obtain⟨e,y⟩:=y
  subst e
  exact hs i x σ _ (y xs q) p
 ·have e:i=xs.length:=by omega
  subst e
  exact .inl ⟨⟨xs,q,aaj _⟩,hd σ H p⟩
theorem DN{K:W.Frag}{a:Addr}{xs:List V}{g:TG}{tb:TS}{D:Ends}{σ:St}{H:Hp}(Pv:Nat->St->Hp->Prop)(h0:Pv 0 σ H)(hl:∀i σ H,i<=xs.length->Pv i σ H->aK K H a xs)(hs:∀i x σ H,xs[i]?=some x->Pv i σ H->g x σ H λσ2 H2=>tb {D with nx:=Pv (i+1),ct:=Pv (i+1),bk:=D.nx} σ2 H2)(hd:∀σ H,Pv xs.length σ H->D.nx σ H):∃W:Nat->Nat->St->Hp->Prop,(∃m,W 0 m σ H)/\∀i m σ H,W i m σ H->((MX K a).stop i H/\D.nx σ H)\/((MX K a).go i H/\∃N:St->Hp->Prop,(∀σ' H',N σ' H'->∃m',m'<m/\W (i+1) m' σ' H')/\∀x H',(MX K a).Lg i H x H'->g x σ H' λσ2 H2=>tb {D with nx:=N,ct:=N,bk:=D.nx} σ2 H2):=by
 refine⟨λi m σ H=>m=xs.length-i/\i<=xs.length/\Pv i σ H,⟨xs.length,by simp,aaK _,h0⟩,?_⟩
 rintro i m σ H ⟨rfl,hi,p⟩
 have q:=hl i σ H hi p
 by_cases hlt:i<xs.length
 ·refine .inr ⟨⟨xs,xs[i],q,by simp[hlt]⟩,Pv (i+1),λσ' H' p'=>⟨xs.length-(i+1),by omega,rfl,hlt,p'⟩,λx H' y=>?_⟩
  obtain⟨e,y⟩:=y
  subst e
  exact hs i x σ _ (y xs q) p
 ·have e:i=xs.length:=by omega
  subst e
  exact .inl ⟨⟨xs,q,aaj _⟩,hd σ H p⟩
theorem EA{lo:Int}{n:Nat}{g:TG}{tb:TS}{D:Ends}{σ:St}{H:Hp}(Pv:Nat->St->Hp->Prop)(h0:Pv 0 σ H)(hs:∀i σ H,i<n->Pv i σ H->g (.int (lo+i)) σ H λσ2 H2=>tb {D with nx:=Pv (i+1),ct:=Pv (i+1),bk:=D.nx} σ2 H2)(hd:∀σ H,Pv n σ H->D.nx σ H):∃W:Nat->Nat->St->Hp->Prop,(∃m,W 0 m σ H)/\∀i m σ H,W i m σ H->((MY lo n).stop i H/\D.nx σ H)\/((MY lo n).go i H/\∃N:St->Hp->Prop,(∀σ' H',N σ' H'->∃m',m'<m/\W (i+1) m' σ' H')/\∀x H',(MY lo n).Lg i H x H'->g x σ H' λσ2 H2=>tb {D with nx:=N,ct:=N,bk:=D.nx} σ2 H2):=by
 refine⟨λi m σ H=>m=n-i/\i<=n/\Pv i σ H,⟨n,by simp,aaK _,h0⟩,?_⟩
 rintro i m σ H ⟨rfl,hi,p⟩
 by_cases hlt:i<n
 ·refine .inr ⟨hlt,Pv (i+1),λσ' H' p'=>⟨n-(i+1),by omega,rfl,hlt,p'⟩,λx H' y=>?_⟩
  obtain⟨e,y⟩:=y
  subst e y
  exact hs i σ _ hlt p
 ·have e:i=n:=by omega
  subst e
  exact .inl ⟨aaj _,hd σ H p⟩
abbrev R2:=V->V->Hp->VK->Prop
def kg(X:Cx)(f:Value->Value->Sem Value)(r:R2):Prop :=
 ∀(pins:List (Addr×Obj))(s:Shared)(σ:St)(H:Hp)(x y:V)(v u:Value)(Q:VK),Inv X pins σ H s->RelV x v->RelV y u->r x y H Q->wpAny (model X.prog X.w) X.A (f v u) (EP X pins σ Q) X.xe s
def fM(X:Cx)(f:Value)(r:List V->Hp->VK->Prop):Prop :=
 ∀(pins:List (Addr×Obj))(s:Shared)(σ:St)(H:Hp)(xs:List V)(us:List Value)(Q:VK),Inv X pins σ H s->Vals xs us->r xs H Q->wpAny (model X.prog X.w) X.A (call f us) (EP X pins σ Q) X.xe s
def Kw(r:R2)(ta tb:TE):TE:=λσ H Q=>ta σ H λx H1=>tb σ H1 λy H2=>r x y H2 Q
def rI(C:Int->Int->Prop)(g:Int->Int->V):R2:=λx y H Q=>∃i j,x=.int i/\y=.int j/\C i j/\Q (g i j) H
def Ky(g:Int->Int->V):R2:=λx y H Q=>∃i j,x=.int i/\y=.int j/\Q (g i j) H
section
variable{X:Cx}{a b c:Expr}{ta tb tc:TE}{pos:Pos}
theorem Li(ha:PE X a ta)(hb:PE X b tb){pins:List (Addr×Obj)}{s:Shared}{σ:St}{H:Hp}{R:V->V->Hp->Prop}(I:Inv X pins σ H s)(h:ta σ H λx H1=>tb σ H1 λy H2=>R x y H2){Q:Value->Shared->Prop}{f:Value->Value->Sem Value}(hf:∀v u s2 x y H2,Inv X pins σ H2 s2->RelV x v->RelV y u->R x y H2->wpAny (model X.prog X.w) X.A (f v u) Q X.xe s2):wpAny (model X.prog X.w) X.A (eval a X.env) (λv s₁=>wpAny (model X.prog X.w) X.A (eval b X.env) (λu s₂=>wpAny (model X.prog X.w) X.A (f v u) Q X.xe s₂) X.xe s₁) X.xe s:=by
 refine cO (ha pins s σ H _ I h) λv s1 ⟨x,H1,I1,r1,q1⟩=>?_
 refine cO (hb pins s1 σ H1 _ I1 q1) λu s2 ⟨y,H2,I2,r2,q2⟩=>?_
 exact hf v u s2 x y H2 I2 r1 r2 q2
theorem aJ{op:Operator}{r:R2}(ho:kg X (binaryOp op) r)(ha:PE X a ta)(hb:PE X b tb):PE X (.BinOp a op b pos) (Kw r ta tb):=by
 intro pins s σ H Q I h
 exact wpAny_BinOp (Li ha hb I h λv u s2 x y H2 I2 rx ry q=>ho pins s2 σ H2 x y v u Q I2 rx ry q)
theorem Ql{f:Value->Value->Sem Value}{C:Int->Int->Prop}{g:Int->Int->Int}(rule:∀(i j:Int)(t u:Tok)(s:Shared)(Q:Value->Shared->Prop)(E:Value->Shared->Prop),C i j->Q (.int (g i j) s.toks) {s with toks:=s.toks+1}->wpAny (model X.prog X.w) X.A (f (.int i t) (.int j u)) Q E s):kg X f (rI C λi j=>.int (g i j)):=by
 intro pins s σ H x y v u Q I rx ry h
 obtain⟨i,j,rfl,rfl,hc,q⟩:=h
 obtain⟨t,rfl⟩:=rx
 obtain⟨t',rfl⟩:=ry
 exact rule i j t t' s _ _ hc ⟨.int (g i j),H,I.tok _,⟨_,rfl⟩,q⟩
theorem NK{f:Value->Value->Sem Value}{g:Int->Int->Int}(rule:∀(i j:Int)(t u:Tok)(s:Shared)(Q:Value->Shared->Prop)(E:Value->Shared->Prop),Q (.int (g i j) s.toks) {s with toks:=s.toks+1}->wpAny (model X.prog X.w) X.A (f (.int i t) (.int j u)) Q E s):kg X f (Ky λi j=>.int (g i j)):=by
 intro pins s σ H x y v u Q I rx ry h
 obtain⟨i,j,rfl,rfl,q⟩:=h
 obtain⟨t,rfl⟩:=rx
 obtain⟨t',rfl⟩:=ry
 exact rule i j t t' s _ _ ⟨.int (g i j),H,I.tok _,⟨_,rfl⟩,q⟩
theorem IG{f:Value->Value->Sem Value}{g:Int->Int->Bool}(rule:∀(i j:Int)(t u:Tok)(s:Shared)(Q:Value->Shared->Prop)(E:Value->Shared->Prop),Q (.bool (g i j)) s->wpAny (model X.prog X.w) X.A (f (.int i t) (.int j u)) Q E s):kg X f (Ky λi j=>.bl (g i j)):=by
 intro pins s σ H x y v u Q I rx ry h
 obtain⟨i,j,rfl,rfl,q⟩:=h
 obtain⟨t,rfl⟩:=rx
 obtain⟨t',rfl⟩:=ry
 exact rule i j t t' s _ _ ⟨.bl (g i j),H,I,rfl,q⟩
def Rb(i j:Int):Prop:=0<j/\j<1073741824
def NL(i j:Int):Prop:=0<=j/\j<=1000000/\i.natAbs<2 ^ 64
def Lj(i j:Int):Prop:=(-(2 ^ 64)<i/\i<2 ^ 64)\/(-(2 ^ 64)<j/\j<2 ^ 64)
theorem Lj.ok{i j:Int}(h:Lj i j):IntMulOk i j:=by
 rcases h with ⟨h1,h2⟩|⟨h1,h2⟩
 ·exact .of_left (intBits_le_64 h1 h2)
 ·exact .of_right (intBits_le_64 h1 h2)
theorem jB:kg X (binaryOp .Add) (Ky λi j=>.int (i+j)):=NK λ_ _ _ _ _ _ _ q=>add_int q
theorem Lk:kg X (binaryOp .Sub) (Ky λi j=>.int (i-j)):=NK λ_ _ _ _ _ _ _ q=>sub_int q
theorem mh:kg X (binaryOp .Mult) (rI Lj λi j=>.int (i*j)):=Ql λ_ _ _ _ _ _ _ hc q=>mul_int q hc.ok
theorem cR:kg X (binaryOp .FloorDiv) (rI Rb λi j=>.int (i / j)):=Ql λi j _ _ _ _ _ hc q=>by
 have h1:(0:Int)<j:=hc.1
 have h2:j<1073741824:=hc.2
 exact floordiv_int (by omega) (by rw[Int.fdiv_eq_ediv_of_nonneg i (by omega)];exact q) (.inl (PyProof.noPylong_small (by omega)))
theorem cz:kg X (binaryOp .Mod) (rI (λ_ j=>0<j) λi j=>.int (i % j)):=Ql λi j _ _ _ _ _ hc q=>by
 have h1:(0:Int)<j:=hc
 exact mod_int' (by omega) (by rw[Int.fmod_eq_emod_of_nonneg i (by omega)];exact q)
theorem Ga:kg X (binaryOp .Pow) (rI NL λi j=>.int (i ^ j.toNat)):=Ql λ_ _ _ _ _ _ _ hc q=>pow_int_small hc.1 hc.2.1 hc.2.2 q
end
def NN:V->V->Bool
 | .non,.non=>true | .non,.int _=>true | .int _,.non=>true | .non,.bl _=>true | .bl _,.non=>true | .non,.str _=>true | .str _,.non=>true
 | .int _,.int _=>true | .bl _,.bl _=>true | .str _,.str _=>true | .Fz _,.Fz _=>true
 | .int _,.str _=>true | .str _,.int _=>true | .bl _,.str _=>true | .str _,.bl _=>true
 |_,_=>false
def X6:R2:=λx y H Q=>NN x y=true/\Q (.bl (decide (x=y))) H
def X7:R2:=λx y H Q=>NN x y=true/\Q (.bl (!decide (x=y))) H
theorem DO{i j:Int}:decide (V.int i=V.int j)=(i==j):=by
 rw[aaT]
 simp
theorem Gb{i j:Bool}:decide (V.bl i=V.bl j)=(i==j):=by
 rw[aaT]
 simp
theorem DP{i j:Str}:decide (V.str i=V.str j)=(i==j):=by
 rw[aaT]
 simp
theorem DQ{i j:Array UInt8}:decide (V.Fz i=V.Fz j)=(i.toList==j.toList):=by
 rw[aaT]
 cases i
 cases j
 simp
section
variable{X:Cx}{a b c:Expr}{ta tb tc:TE}{pos:Pos}
theorem bg{pins:List (Addr×Obj)}{σ:St}{H:Hp}{s:Shared}{Q:VK}{k k':Bool}(I:Inv X pins σ H s)(q:Q (.bl k) H)(e:k=k'):EP X pins σ Q (.bool k') s:=by
 subst e
 exact⟨.bl k,H,I,O,q⟩
theorem aR:kg X (compareOp .Eq) X6:=by
 intro pins s σ H x y v u Q I rx ry h
 obtain⟨hs,q⟩:=h
 cases x with
 |non =>
  cases rx
  cases y with
  |non=>cases ry;exact PySem.EqNone.eq_none_none (bg I q (by simp))
  |bl j=>cases ry;exact PySem.EqNone.eq_none_bool (bg I q (by simp))
  |int j=>obtain⟨t',rfl⟩:=ry;exact PySem.EqNone.eq_none_int (bg I q (by simp))
  |str j=>obtain⟨t',rfl⟩:=ry;exact PySem.EqNone.eq_none_str (bg I q (by simp))
  |_=>exact absurd (show false=true from hs) aat
 |bl i =>
  cases rx
  cases y with
  |non=>cases ry;exact PySem.EqNone.eq_bool_none (bg I q (by simp))
  |bl j=>cases ry;exact eq_bool (bg I q Gb)
  |str j=>obtain⟨t',rfl⟩:=ry;exact PySem.EqMixed.eq_bool_str (bg I q (by simp))
  |_=>exact absurd (show false=true from hs) aat
 |int i =>
  obtain⟨t,rfl⟩:=rx
  cases y with
  |non=>cases ry;exact PySem.EqNone.eq_int_none (bg I q (by simp))
  |int j=>obtain⟨t',rfl⟩:=ry;exact eq_int (bg I q DO)
  |str j=>obtain⟨t',rfl⟩:=ry;exact PySem.EqMixed.eq_int_str (bg I q (by simp))
  |_=>exact absurd (show false=true from hs) aat
 |str i =>
  obtain⟨t,rfl⟩:=rx
  cases y with
  |non=>cases ry;exact PySem.EqNone.eq_str_none (bg I q (by simp))
  |bl j=>cases ry;exact PySem.EqMixed.eq_str_bool (bg I q (by simp))
  |int j=>obtain⟨t',rfl⟩:=ry;exact PySem.EqMixed.eq_str_int (bg I q (by simp))
  |str j=>obtain⟨t',rfl⟩:=ry;exact eq_str (bg I q DP)
  |_=>exact absurd (show false=true from hs) aat
 |Fz i =>
  obtain⟨t,rfl⟩:=rx
  cases y with
  |Fz j=>obtain⟨t',rfl⟩:=ry;exact W.eq_bytes (bg I q DQ)
  |_=>exact absurd (show false=true from hs) aat
 |_=>cases y<;>exact absurd (show false=true from hs) aat
theorem jj:kg X (compareOp .NotEq) X7:=by
 intro pins s σ H x y v u Q I rx ry h
 obtain⟨hs,q⟩:=h
 cases x with
 |non =>
  cases rx
  cases y with
  |non=>cases ry;exact PySem.EqNone.ne_none_none (bg I q (by simp))
  |bl j=>cases ry;exact PySem.EqNone.ne_none_bool (bg I q (by simp))
  |int j=>obtain⟨t',rfl⟩:=ry;exact PySem.EqNone.ne_none_int (bg I q (by simp))
  |str j=>obtain⟨t',rfl⟩:=ry;exact PySem.EqNone.ne_none_str (bg I q (by simp))
  |_=>exact absurd (show false=true from hs) aat
 |bl i =>
  cases rx
  cases y with
  |non=>cases ry;exact PySem.EqNone.ne_bool_none (bg I q (by simp))
  |bl j=>cases ry;exact ne_bool (bg I q (congrArg not Gb))
  |str j=>obtain⟨t',rfl⟩:=ry;exact PySem.EqMixed.ne_bool_str (bg I q (by simp))
  |_=>exact absurd (show false=true from hs) aat
 |int i =>
  obtain⟨t,rfl⟩:=rx
  cases y with
  |non=>cases ry;exact PySem.EqNone.ne_int_none (bg I q (by simp))
  |int j=>obtain⟨t',rfl⟩:=ry;exact ne_int (bg I q (congrArg not DO))
  |str j=>obtain⟨t',rfl⟩:=ry;exact PySem.EqMixed.ne_int_str (bg I q (by simp))
  |_=>exact absurd (show false=true from hs) aat
 |str i =>
  obtain⟨t,rfl⟩:=rx
  cases y with
  |non=>cases ry;exact PySem.EqNone.ne_str_none (bg I q (by simp))
  |bl j=>cases ry;exact PySem.EqMixed.ne_str_bool (bg I q (by simp))
  |int j=>obtain⟨t',rfl⟩:=ry;exact PySem.EqMixed.ne_str_int (bg I q (by simp))
  |str j=>obtain⟨t',rfl⟩:=ry;exact ne_str (bg I q (congrArg not DP))
  |_=>exact absurd (show false=true from hs) aat
 |Fz i =>
  obtain⟨t,rfl⟩:=rx
  cases y with
  |Fz j=>obtain⟨t',rfl⟩:=ry;exact W.ne_bytes (bg I q (congrArg not DQ))
  |_=>exact absurd (show false=true from hs) aat
 |_=>cases y<;>exact absurd (show false=true from hs) aat
theorem Ge:kg X (compareOp .Lt) (Ky λi j=>.bl (decide (i<j))):=IG λ_ _ _ _ _ _ _ q=>lt_int q
theorem NO:kg X (compareOp .LtE) (Ky λi j=>.bl (decide (i<=j))):=IG λ_ _ _ _ _ _ _ q=>le_int q
theorem Kz:kg X (compareOp .Gt) (Ky λi j=>.bl (decide (j<i))):=IG λ_ _ _ _ _ _ _ q=>gt_int q
theorem KA:kg X (compareOp .GtE) (Ky λi j=>.bl (decide (j<=i))):=IG λ_ _ _ _ _ _ _ q=>ge_int q
theorem bN:kg X (compareOp .In) (λx y H Q=>∃i j,x=.str i/\y=.str j/\Q (.bl (!(Builtin.Str.occurrences j i 0 j.length 1).isEmpty)) H):=by
 intro pins s σ H x y v u Q I rx ry h
 obtain⟨i,j,rfl,rfl,q⟩:=h
 obtain⟨t,rfl⟩:=rx
 obtain⟨t',rfl⟩:=ry
 exact in_str (bg I q rfl)
theorem gu:kg X (compareOp .Is) (λx y H Q=>y=.non/\Q (.bl (decide (x=.non))) H):=by
 intro pins s σ H x y v u Q I rx ry h
 obtain⟨rfl,q⟩:=h
 cases ry
 refine is_none_gen (bg I q ?_)
 cases x<;>first
  | (cases rx;rfl)
  | (obtain⟨t,rfl⟩:=rx;rfl)
theorem za:kg X (compareOp .IsNot) (λx y H Q=>y=.non/\Q (.bl (!decide (x=.non))) H):=by
 intro pins s σ H x y v u Q I rx ry h
 obtain⟨rfl,q⟩:=h
 cases ry
 refine isnot_none_gen (bg I q ?_)
 cases x<;>first
  | (cases rx;rfl)
  | (obtain⟨t,rfl⟩:=rx;rfl)
theorem Gf(b:Expr){op:CmpOp}(h:op≠.In:=by decide)(h2:op≠.NotIn:=by decide):behindInMarks op b=false:=by
 have e1:(op==CmpOp.In)=false:=by cases op<;>first|rfl|exact absurd rfl h
 have e2:(op==CmpOp.NotIn)=false:=by cases op<;>first|rfl|exact absurd rfl h2
 cases b<;>simp[behindInMarks,e1,e2]
theorem vd{op:CmpOp}{r:R2}(ho:kg X (compareOp op) r)(ha:PE X a ta)(hb:PE X b tb)(hm:behindInMarks op b=false):PE X (.Compare a [op] [b] pos) (Kw r ta tb):=by
 intro pins s σ H Q I h
 exact wpAny_Compare1 (Li ha hb I h λv u s2 x y H2 I2 rx ry q=>ho pins s2 σ H2 x y v u Q I2 rx ry q) hm
def KC(t:TE):TT:=λσ H Q=>t σ H λx H'=>∃k,x=.bl k/\Q k H'
theorem bB{op:CmpOp}{r:R2}(ho:kg X (compareOp op) r)(ha:PE X a ta)(hb:PE X b tb)(hm:behindInMarks op b=false):PT X (.Compare a [op] [b] pos) (KC (Kw r ta tb)):=by
 intro pins s σ H Q I h
 refine wpAny_isTrue_Compare1 (cO (ha pins s σ H _ I h) λv s1 ⟨x,H1,I1,r1,q1⟩=>cO (hb pins s1 σ H1 _ I1 q1) λu s2 ⟨y,H2,I2,r2,q2⟩ =>
  cO (ho pins s2 σ H2 x y v u _ I2 r1 r2 q2) λc s3 ⟨z,H3,I3,r3,k,e,q3⟩=>?_) hm
 subst e
 cases r3
 exact wpAny_truthy_bool ⟨H3,I3,q3⟩
theorem vp:(sizeLine:Nat)<2 ^ 63:=by rw[sizeLine_eq];decide
theorem bO:kg X (binaryOp .Add) (λx y H Q=>∃i j,x=.str i/\y=.str j/\i.length+j.length<=sizeLine/\Q (.str (i++j)) H):=by
 intro pins s σ H x y v u Q I rx ry h
 obtain⟨i,j,rfl,rfl,hz,q⟩:=h
 obtain⟨t,rfl⟩:=rx
 obtain⟨t',rfl⟩:=ry
 exact add_str (λt' tk=>⟨.str (i++j),H,I.tok _,⟨_,rfl⟩,q⟩) hz
theorem vals1{x:V}{us:List Value}(r:Vals [x] us):∃u,us=[u]/\RelV x u:=by
 cases r with
 |cons r1 r2=>cases r2;exact⟨_,rfl,r1⟩
theorem vals2{x y:V}{us:List Value}(r:Vals [x,y] us):∃u w',us=[u,w']/\RelV x u/\RelV y w':=by
 cases r with
 |cons r1 r2 =>
  cases r2 with
  |cons r3 r4=>cases r4;exact⟨_,_,rfl,r1,r3⟩
theorem yi:fM X (.type "int") (λxs H Q=>(∃i,xs=[.int i]/\Q (.int i) H)\/∃k,xs=[.bl k]/\Q (.int (if k then 1 else 0)) H):=by
 intro pins s σ H xs us Q I r h
 rcases h with ⟨i,rfl,q⟩|⟨k,rfl,q⟩
 ·obtain⟨u,rfl,t,rfl⟩:=vals1 r
  exact call_int_int ⟨.int i,H,I,⟨_,rfl⟩,q⟩
 ·obtain⟨u,rfl,r1⟩:=vals1 r
  cases r1
  exact call_int_bool ⟨.int (if k then 1 else 0),H,I.tok _,⟨_,rfl⟩,q⟩
theorem Gg:fM X (.builtin "ord") (λxs H Q=>∃x,xs=[.str x]/\x.length=1/\Q (.int (x.cps.getD 0 0:Nat)) H):=by
 intro pins s σ H xs us Q I r h
 obtain⟨x,rfl,hz,q⟩:=h
 obtain⟨u,rfl,t,rfl⟩:=vals1 r
 exact ord_of_one hz ⟨.int _,H,I.tok _,⟨_,rfl⟩,q⟩
end
structure Ck(h:Heap)(x dx C:Addr)(mA:Str->Option Value):Prop where
 obj:h.get? x=some (W.instObj C dx)
 ns:h.Ns1 dx mA
 ne:dx≠x
theorem EB{h:Heap}{dx:Addr}{mA:Str->Option Value}(n:h.Ns1 dx mA):∃od,h.get? dx=some od/\∀name,W.lookIn name od=some (mA name):=by
 obtain⟨o,es,ep,ho,hd,hk,_,hm⟩:=n
 refine⟨o,ho,λname=>?_⟩
 have e:=hm name
 unfold nsFind findBy at e
 rw[←Array.find?_toList]at e
 unfold W.lookIn
 rw[hd]
 dsimp only
 split
 ·rename_i y q
  rw[q]at e
  exact congrArg some e
 ·rename_i q
  rw[q]at e
  have a:es.toList.any (·.refKey)=false:=by
   rw[List.any_eq_false]
   intro y hy
   obtain⟨z,t,hkey⟩:=hk y (Array.mem_toList_iff.mp hy)
   simp[DictEntry.refKey,hkey]
  have a':¬es.toList.any (·.refKey)=true:=by rw[a];exact aat
  rw[aah a']
  exact congrArg some e
theorem Ck.look{h:Heap}{x dx C:Addr}{mA:Str->Option Value}(I:Ck h x dx C mA):∃od,W.InstAt h x (W.instObj C dx) C (some od)/\∀name,W.lookIn name od=some (mA name) :=
 let ⟨od,ho,hl⟩:=EB I.ns
 ⟨od,⟨I.obj,rfl,rfl,ho⟩,hl⟩
section
variable{prog:Program}{w:World}{A:Around}{E:Value->Shared->Prop}{s:Shared}{K:W.Frag}{x dx C f:Addr}{mA:Str->Option Value}{name:Str}{v:Value}
theorem get_map{expr:Bool}{Q:Value->Shared->Prop}(X:K.In s.heap)(I:Ck s.heap x dx C mA)(hg:W.plainGet K C name=true)(hh:W.hasDictIn K C=true)(ha:W.findIn K (.ref C) name=some none)(hv:mA name=some v)(hv':W.handedIn v=true)(h:Q v {s with toks:=s.toks+1}):wpAny (model prog w) A (getAttr (.ref x) name expr) Q E s:=by
 obtain⟨od,J,hl⟩:=I.look
 exact W.get_value X J (W.plainGet_of hg).1 (W.findObj_own hh ha rfl (by rw[hl,hv])) hv' h
theorem Gh{pl:Sem Bool}{Q:Value×List Value->Shared->Prop}(X:K.In s.heap)(I:Ck s.heap x dx C mA)(hg:W.plainGet K C name=true)(hf:W.findIn K (.ref C) name=some (some (.ref f)))(ht:W.isFn K (.ref f)=true)(hv:mA name=none)(h:Q (.ref f,[.ref x]) s):wpAny (model prog w) A (getMethod (.ref x) name pl) Q E s:=by
 obtain⟨od,J,hl⟩:=I.look
 exact W.method_fn X J (W.plainGet_of hg).1 (W.plainGet_of hg).2 hf (beq_iff_eq.mp ht) (by show(W.lookIn name od).map (·.isSome)=some false;rw[hl,hv];rfl) h
theorem II{ns:List Str}{Q:Unit->Shared->Prop}(X:K.In s.heap)(I:Ck s.heap x dx C mA)(hs:W.findIn K (.ref C) "__setattr__"=some (some (.builtin "object.__setattr__")))(hp:W.plainOver K C=true)(ht:W.takerIn K C name=some none)(hh:W.hasDictIn K C=true)(hw:PySem.Within mA ns)(hsz:ns.length<=sizeLine)(h:∀h',Ck h' x dx C (λy=>if y=name then some v else mA y)->Heap.SameBut dx s.heap h'->Q () {s with heap:=h',toks:=s.toks+2}):wpAny (model prog w) A (setAttr (.ref x) name v) Q E s:=by
 obtain⟨od,J,hl⟩:=I.look
 refine W.set_plain X J hs (W.osa_open (s:={s with toks:=s.toks+1}) (r:=none) X J hp ht λb=>?_)
 obtain⟨cd,hc,hd'⟩:=W.any_some hh
 have hx:s.heap.get? x=some ⟨.ref C,some dx,.plain,#[]⟩:=I.obj
 refine aag (aak (aag (aag (wpAny_loadPart hx (aag (W.Looks.here (s:={s with toks:=s.toks+1}) (W.looks_clsIn X hc) ?_))))))
 rw[hd']
 refine aak (a:=some dx) (aag (aak (aag ?_)))
 refine wpAny_nsSet1 (s:={s with toks:=s.toks+1}) I.ns λh' hn2 hs2=>?_
 obtain⟨oD,esD,epD,X8,Yb,Yc⟩:=hn2.count (PySem.Within.cons name v hw)
 refine aag (wpAny_lookBehind X8 (by rw[Yb];exact pastItsLine_dict (aao Yc (by rw[aaH];omega))) ?_)
 exact aak (h _ ⟨(hs2.2 _ (Ne.symm I.ne)).trans I.obj,hn2,I.ne⟩ hs2)
theorem Gi{R:Result->Shared->Prop}{vs:List Value}{kw:List (Str×Value)}(X:K.In s.heap)(hm:W.makesIn K C=true)(hi:W.findIn K (.ref C) "__init__"=some (some (.ref f)))(hf:W.typeIn K (.ref f)=some (.type "function"))(h:codeAny (model prog w) (A.under (.builtin "type.__call__" ⟨.ref C::vs,kw⟩)) (.call (.ref f) ⟨.ref (s.heap.objs.size+1)::vs,kw⟩) (W.InitBack (s.heap.objs.size+1) R)
   {s with heap:=(s.heap.push W.emptyDict).push (W.instObj C s.heap.objs.size)}):codeAny (model prog w) A (.call (.ref C) ⟨vs,kw⟩) R s:=by
 obtain⟨hh,g,d,t,os⟩:=s
 exact W.make_core (W.makes_of X hm) (W.looks_findIn X hi) (λself=>W.bind_fn X self hf) (.inl rfl) h
end
def nO(f:Str)(v:V):List (Str×V)->List (Str×V)
 |[]=>[(f,v)]
 | (g,x)::r=>if g=f then (g,v)::r else (g,x)::nO f v r
theorem sY(f g:Str)(v:V):∀fs:List (Str×V),(nO f v fs).lookup g=if g=f then some v else fs.lookup g
 |[]=>by
  show List.lookup g [(f,v)]=_
  by_cases h:g=f
  ·have hb:(g==f)=true:=beq_iff_eq.mpr h
   simp only[List.lookup,hb,aai h]
  ·have hb:(g==f)=false:=abn.mpr h
   simp only[List.lookup,hb,aah h]
 | (k,x)::r=>by
  have ih:=sY f g v r
  rw[show nO f v ((k,x)::r)=(if k=f then (k,v)::r else (k,x)::nO f v r) from rfl]
  by_cases hk:k=f
  ·rw[aai hk]
   by_cases h:g=k
   ·have hb:(g==k)=true:=beq_iff_eq.mpr h
    simp only[List.lookup,hb,aai (h.trans hk)]
   ·have hb:(g==k)=false:=abn.mpr h
    simp only[List.lookup,hb,aah (λe:g=f=>h (e.trans hk.symm))]
  ·rw[aah hk]
   by_cases h:g=k
   ·have hb:(g==k)=true:=beq_iff_eq.mpr h
    simp only[List.lookup,hb,aah (λe:g=f=>hk (h.symm.trans e))]
   ·have hb:(g==k)=false:=abn.mpr h
    simp only[List.lookup,hb]
    exact ih
theorem qW(f:Str)(v:V):∀fs:List (Str×V),f∈(nO f v fs).map (·.1)/\∀g,g∈fs.map (·.1)->g∈(nO f v fs).map (·.1)
 |[]=>⟨by simp[nO],λg h=>by simp at h⟩
 | (k,x)::r=>by
  obtain⟨i1,i2⟩:=qW f v r
  rw[show nO f v ((k,x)::r)=(if k=f then (k,v)::r else (k,x)::nO f v r) from rfl]
  by_cases hk:k=f
  ·rw[aai hk]
   subst hk
   exact⟨by simp,λg h=>by simpa using h⟩
  ·rw[aah hk]
   refine⟨?_,λg h=>?_⟩
   ·rw[aaX]
    exact aaw _ i1
   ·rw[aaX]at h⊢
    rcases aaE.mp h with e|e
    ·exact aaE.mpr (.inl e)
    ·exact aaw _ (i2 g e)
theorem sZ(f:Str)(v:V):∀fs:List (Str×V),(nO f v fs).length<=fs.length+1
 |[]=>by simp[nO]
 | (k,x)::r=>by
  have ih:=sZ f v r
  rw[show nO f v ((k,x)::r)=(if k=f then (k,v)::r else (k,x)::nO f v r) from rfl]
  by_cases hk:k=f
  ·rw[aai hk,aaH,aaH];omega
  ·rw[aah hk,aaH,aaH];omega
theorem pQ.some_of{v:V}{o:Option Value}(r:pQ (some v) o):∃u,o=some u/\RelV v u:=by
 cases o with
 |none=>exact(show False from r).elim
 |some u=>exact⟨u,rfl,r⟩
theorem pQ.none_of{o:Option Value}(r:pQ none o):o=none:=by
 cases o with
 |none=>rfl
 |some u=>exact(show False from r).elim
theorem EC{v:V}{u:Value}(r:RelV v u):W.handedIn u=true:=by
 cases v with
 |non=>cases(show u=Value.none from r);rfl
 |bl b=>cases(show u=Value.bool b from r);rfl
 |int i=>obtain⟨t,e⟩:=(show ∃t,u=Value.int i t from r);cases e;rfl
 |str x=>obtain⟨t,e⟩:=(show ∃t,u=Value.str x t from r);cases e;rfl
 |Fz b=>obtain⟨t,e⟩:=(show ∃t,u=Value.bytes b t from r);cases e;rfl
 |ye b=>obtain⟨t,e⟩:=(show ∃t,u=Value.float b t from r);cases e;rfl
 |ref a=>cases(show u=Value.ref a from r);rfl
 |ty n=>cases(show u=Value.type n from r);rfl
section
variable{P:Program}{w:World}{H H':Hp}{h h':Heap}{a C dx:Addr}{fs fs':List (Str×V)}
theorem ve(hok:sX P w H h)(e:H a=some (.ins C dx fs)):∃mA,Ck h a dx C mA/\(∀f,pQ (fs.lookup f) (mA f))/\PySem.Within mA (fs.map (·.1))/\fs.length<=1000/\H dx=some (.own a):=by
 obtain⟨d,z,ne,ob,mA,n,r,q⟩:=(show cM P w H h a (.ins C dx fs) from hok a _ e)
 exact⟨mA,⟨ob,n,ne⟩,r,q,z,d⟩
end
structure DR(K:W.Frag)(C:Addr):Prop where
 pg:W.plainGet K C Str.empty=true
 hd:W.hasDictIn K C=true
 po:W.plainOver K C=true
 sa:W.findIn K (.ref C) "__setattr__"=some (some (.builtin "object.__setattr__"))
theorem DR.get{K:W.Frag}{C:Addr}(c:DR K C)(f:Str):W.plainGet K C f=true:=c.pg
def dI(K:W.Frag)(C:Addr)(f:Str):Prop:=W.findIn K (.ref C) f=some none
theorem dI.NP{K:W.Frag}{C:Addr}{f:Str}(n:dI K C f):W.takerIn K C f=some none:=by
 unfold W.takerIn
 rw[show W.findIn K (.ref C) f=some none from n]
 rfl
structure Meth(K:W.Frag)(C:Addr)(m:Str)(f:Addr):Prop where
 at_:W.findIn K (.ref C) m=some (some (.ref f))
 fn:W.isFn K (.ref f)=true
 kp:W.keepIn K (.ref f)=true
section
variable{X:Cx}{pins:List (Addr×Obj)}{σ:St}{H:Hp}{s:Shared}{a C dx:Addr}{fs:List (Str×V)}{f:Str}{v:V}{A:Around}{E:Value->Shared->Prop}
theorem Cm{b:Bool}{Q:Value->Shared->Prop}(I:Inv X pins σ H s)(e:H a=some (.ins C dx fs))(c:DR X.K C)(n:dI X.K C f)(l:fs.lookup f=some v)(h:∀u s',Inv X pins σ H s'->RelV v u->Q u s'):wpAny (model X.prog X.w) A (getAttr (.ref a) f b) Q E s:=by
 obtain⟨mA,O,r,_,_,_⟩:=ve I.hok e
 obtain⟨u,hu,ru⟩:=pQ.some_of (v:=v) (o:=mA f) (by rw[←l];exact r f)
 exact get_map I.pR O (c.get f) c.hd n hu (EC ru) (h u _ (I.tok _) ru)
theorem vq{m:Str}{g:Addr}{pl:Sem Bool}{Q:Value×List Value->Shared->Prop}(I:Inv X pins σ H s)(e:H a=some (.ins C dx fs))(c:DR X.K C)(k:Meth X.K C m g)(l:fs.lookup m=none)(h:Q (.ref g,[.ref a]) s):wpAny (model X.prog X.w) A (getMethod (.ref a) m pl) Q E s:=by
 obtain⟨mA,O,r,_,_,_⟩:=ve I.hok e
 have hn:mA m=none:=pQ.none_of (by rw[←l];exact r m)
 exact Gh I.pR O (c.get m) k.at_ k.fn hn h
theorem Cn{y:V}{u:Value}{Q:Unit->Shared->Prop}(I:Inv X pins σ H s)(e:H a=some (.ins C dx fs))(c:DR X.K C)(n:dI X.K C f)(hl:fs.length<1000)(ry:RelV y u)(h:∀s',Inv X pins σ (upd H a (.ins C dx (nO f y fs))) s'->Q () s'):wpAny (model X.prog X.w) A (setAttr (.ref a) f u) Q E s:=by
 obtain⟨mA,O,r,wi,_,ho⟩:=ve I.hok e
 have hz:(fs.map (·.1)).length<=sizeLine:=by rw[aaq,sizeLine_eq];omega
 refine II I.pR O c.sa c.po n.NP c.hd wi hz λh' O' sb=>h _ ?_
 have hd:∃o,h'.get? dx=some o:=let ⟨o,_,_,e',_⟩:=O'.ns;⟨o,e'⟩
 refine I.write (x:=a) (e:=dx) (by rw[e];exact True.intro) (.inr ho) (λb q hb z=>(sb.2 b hb).trans z) hd ?_
 refine⟨by rw[aH O.ne];exact ho,?_,O.ne,O'.obj,_,O'.ns,λg=>?_,λg hg=>?_⟩
 ·have:=sZ f y fs;omega
 ·show pQ ((nO f y fs).lookup g) (if g=f then some u else mA g)
  rw[sY]
  by_cases q:g=f
  ·rw[aai q,aai q];exact ry
  ·rw[aah q,aah q];exact r g
 ·by_cases q:g=f
  ·rw[q];exact(qW f y fs).1
  ·refine(qW f y fs).2 g (wi g λz=>hg ?_)
   show(if g=f then some u else mA g)=none
   rw[aah q];exact z
theorem Inv.made(I:Inv X pins σ H s):Inv X pins σ (upd (upd H s.heap.objs.size (.own (s.heap.objs.size+1))) (s.heap.objs.size+1) (.ins C s.heap.objs.size []))
  {s with heap:=(s.heap.push W.emptyDict).push (W.instObj C s.heap.objs.size)}:=by
 have e1:(s.heap.push W.emptyDict).get? s.heap.objs.size=some W.emptyDict:=aay s.heap rfl
 have e2:((s.heap.push W.emptyDict).push (W.instObj C s.heap.objs.size)).get? (s.heap.objs.size+1)=some (W.instObj C s.heap.objs.size):=by
  have:=aay (s.heap.push W.emptyDict) (o:=W.instObj C s.heap.objs.size) rfl
  rwa [Heap.size_push]at this
 have e3:(s.heap.push W.emptyDict).Ns s.heap.objs.size (λ_=>none):=⟨W.emptyDict,#[],_,e1,rfl,(λe he=>absurd he (by simp)),λ_=>rfl⟩
 have I1:=I.laid (a:=s.heap.objs.size) (o:=.own (s.heap.objs.size+1)) (h':=s.heap.push W.emptyDict) (t':=s.toks) (λb u q=>aan _ q) (aaj _) ⟨_,e1⟩
 refine I1.laid (a:=s.heap.objs.size+1) (o:=.ins C s.heap.objs.size []) (t':=s.toks) (λb u q=>aan _ q) (Nat.le_of_eq (Heap.size_push _ _)) ?_
 have ne:s.heap.objs.size≠s.heap.objs.size+1:=aaM (Nat.lt_succ_self _)
 refine⟨by rw[aH ne,aj],aaK _,ne,e2,λ_=>none,(Heap.Ns1.of_empty e3).at λo q=>aan _ q,λ_=>True.intro,λy hy=>absurd rfl hy⟩
theorem IJ{prog:Program}{w:World}{env:Env}{e:Expr}{f:Str}{pos:Pos}{s:Shared}{Q:Value->Shared->Prop}(hb:attributeBase e f env (eval e env)=eval e env)(h:wpAny (model prog w) A (eval e env) (λo s₁=>wpAny (model prog w) A (getAttr o f true) Q E s₁) E s):wpAny (model prog w) A (eval (.Attribute e f pos) env) Q E s :=
 Attribute_any_ h (by rw[arm_eval_Attribute,hb])
end
def NQ(K:W.Frag)(ta:TE)(f:Str):TE:=λσ H Q=>ta σ H λx H1=>∃a C dx fs v,x=.ref a/\H1 a=some (.ins C dx fs)/\DR K C/\dI K C f/\fs.lookup f=some v/\Q v H1
def Rc(K:W.Frag)(ta tv:TE)(f:Str):TS:=λD σ H=>tv σ H λy H1=>ta σ H1 λx H2=>∃a C dx fs,x=.ref a/\H2 a=some (.ins C dx fs)/\DR K C/\dI K C f/\fs.length<1000/\D.nx σ (upd H2 a (.ins C dx (nO f y fs)))
section
variable{X:Cx}{o e value:Expr}{f:Str}{pos pos' tpos:Pos}{ta tv:TE}
theorem Ll(he:PE X e ta)(hb:attributeBase e f X.env (eval e X.env)=eval e X.env):PE X (.Attribute e f pos) (NQ X.K ta f):=by
 intro pins s σ H Q I h
 refine IJ hb (cO (he pins s σ H _ I h) λu s1 ⟨x,H1,I1,rx,a,C,dx,fs,v,ex,ea,c,n,l,q⟩=>?_)
 subst ex
 obtain rfl:u=Value.ref a:=rx
 exact Cm I1 ea c n l λu' s2 I2 ru=>⟨v,H1,I2,ru,q⟩
theorem gM(ha:PE X o ta)(hv:PE X value tv)(hs:swapsWith value (some (.Attribute o f pos')) pos.line X.env=pure false):PS X (.Assign [.Attribute o f pos'] value pos) (Rc X.K ta tv f):=by
 intro pins s σ H D I h
 refine plainObj_wpAny_Assign_Attribute (cO (hv pins s σ H _ I h) λu s1 ⟨y,H1,I1,ry,q⟩=>cO (ha pins s1 σ H1 _ I1 q) λov s2 ⟨x,H2,I2,rx,a,C,dx,fs,ex,ea,c,n,l,q2⟩=>?_) hs
 subst ex
 obtain rfl:ov=Value.ref a:=rx
 exact Cn I2 ea c n l ry λs3 I3=>⟨σ,_,I3,q2⟩
end
section
variable{X:Cx}{pins:List (Addr×Obj)}{σ:St}{H:Hp}{s:Shared}{A:Around}{E:Value->Shared->Prop}{Q:Value->Shared->Prop}{c:Value}{b:Bool}
inductive oQ(K:W.Frag)(H:Hp):V->Value->Prop where
 |non:oQ K H .non (.type "NoneType")
 |bl (x:Bool):oQ K H (.bl x) (.type "bool")
 |int (i:Int):oQ K H (.int i) (.type "int")
 |str (x:Str):oQ K H (.str x) (.type "str")
 |ye (x:UInt64):oQ K H (.ye x) (.type "float")
 |lst {a:Addr}{xs:List V} (e:H a=some (.lst xs)):oQ K H (.ref a) (.type "list")
 |Cf {a:Addr}{o:Obj}{xs:List V} (e:H a=some (.Cf o (.lst xs))):oQ K H (.ref a) (.type "list")
 |tup {a:Addr}{xs:List V} (e:H a=some (.tup xs)):oQ K H (.ref a) (.type "tuple")
 |dK {a:Addr}{kvs:List (Key×V)} (e:H a=some (.dK kvs)):oQ K H (.ref a) (.type "dict")
 |dT {a:Addr}{kvs:List (List Key×V)} (e:H a=some (.dT kvs)):oQ K H (.ref a) (.type "dict")
 |ins {a C dx:Addr}{fs:List (Str×V)} (e:H a=some (.ins C dx fs)) (cl:DR K C) (ha:W.findIn K (.ref C) "__class__"=some (some (.builtin "object.__class__")))
   (hn:W.specialIn K (.builtin "object.__class__") "__get__"=some (some (.builtin "getset_descriptor.__get__"))) (htk:W.takesIn K (.builtin "object.__class__")=some true)
   (hm:W.mroIn K C (.type "object")=some true):oQ K H (.ref a) (.ref C)
theorem yj{x:V}{u t:Value}(I:Inv X pins σ H s)(rx:RelV x u)(ty:oQ X.K H x t)(e:W.kitOne X.K t c=some b)(h:∀tk,Q (.bool b) {s with toks:=tk}):wpAny (model X.prog X.w) A (call (.builtin "isinstance") [u,c]) Q E s:=by
 cases ty with
 |non=>cases(show u=Value.none from rx);exact abd W.kitx_none I.pR True.intro e (λz=>nomatch z) h
 |bl y=>cases(show u=Value.bool y from rx);exact abd W.kitx_bool I.pR True.intro e (λz=>nomatch z) h
 |int i=>obtain⟨t,q⟩:=(show ∃t,u=Value.int i t from rx);cases q;exact abd W.kitx_int I.pR True.intro e (λz=>nomatch z) h
 |str y=>obtain⟨t,q⟩:=(show ∃t,u=Value.str y t from rx);cases q;exact abd W.kitx_str I.pR True.intro e (λz=>nomatch z) h
 |ye y=>obtain⟨t,q⟩:=(show ∃t,u=Value.float y t from rx);cases q;exact abd W.kitx_float I.pR True.intro e (λz=>nomatch z) h
 |@lst a xs ea =>
  cases(show u=Value.ref a from rx)
  obtain⟨_,_,n,_,h1⟩:=(show cM X.prog X.w H s.heap a (.lst xs) from I.hok a _ ea)
  exact abd W.kitx_list I.pR ⟨_,h1,rfl⟩ e (λz=>nomatch z) h
 |@Cf a ob xs ea =>
  cases(show u=Value.ref a from rx)
  obtain⟨_,_,_,n,_,h1⟩:=(show cM X.prog X.w H s.heap a (.Cf ob (.lst xs)) from I.hok a _ ea)
  exact abd W.kitx_list I.pR ⟨_,h1,rfl⟩ e (λz=>nomatch z) h
 |@tup a xs ea =>
  cases(show u=Value.ref a from rx)
  obtain⟨_,_,_,p⟩:=(show cM X.prog X.w H s.heap a (.tup xs) from I.hok a _ ea)
  obtain⟨o,h1,h2,_⟩:=p
  exact abd W.kitx_tuple I.pR ⟨o,h1,h2⟩ e (λz=>nomatch z) h
 |@dK a kvs ea =>
  cases(show u=Value.ref a from rx)
  obtain⟨_,_,vs,_,p⟩:=(show cM X.prog X.w H s.heap a (.dK kvs) from I.hok a _ ea)
  obtain⟨o,es,ep,h1,h2,_⟩:=p
  exact abd W.kitx_dict I.pR ⟨o,h1,h2.1⟩ e (λz=>nomatch z) h
 |@dT a kvs ea =>
  cases(show u=Value.ref a from rx)
  obtain⟨_,_,xs,_,o,es,ep,h1,h2,_⟩:=(show cM X.prog X.w H s.heap a (.dT kvs) from I.hok a _ ea)
  exact abd W.kitx_dict I.pR ⟨o,h1,h2.1⟩ e (λz=>nomatch z) h
 |@ins a C dx fs ea cl ha hn htk hm =>
  cases(show u=Value.ref a from rx)
  obtain⟨mA,O,_⟩:=ve I.hok ea
  obtain⟨od,J,_⟩:=O.look
  exact abd (W.kitx_own (cl.get _) cl.hd ha hn htk hm) I.pR J e (λz=>nomatch z) h
end
structure fc(k:Nat)(A:Around):Prop where
 hd:A.handled=none
 dp:A.depth+3*k+5<recursionLimit
 un:A.units+16*k+200<cLine
theorem fc.mono{j k:Nat}{A:Around}(r:fc k A)(h:j<=k):fc j A:=⟨r.hd,by have:=r.dp;omega,by have:=r.un;omega⟩
theorem fc.deeper{k:Nat}{A:Around}(r:fc (k+1) A)(env:Env):fc k (A.deeper env) :=
 ⟨r.hd,by have:=r.dp;show A.depth+1+3*k+5<_;omega,by have:=r.un;show A.units+3+16*k+200<_;omega⟩
theorem Co{A:Around}{C:Addr}{us:List Value}{kw:List (Str×Value)}:(A.under (.builtin "type.__call__" ⟨.ref C::us,kw⟩)).depth=A.depth+1:=by
 first|rfl|simp[Around.under,Code.weight,Code.isCreation,Code.isGuard,Code.isCaller,Code.frames,Code.isFrame,guardIds]
theorem Cp{A:Around}{C:Addr}{us:List Value}{kw:List (Str×Value)}:(A.under (.builtin "type.__call__" ⟨.ref C::us,kw⟩)).units=A.units+1:=by
 first|rfl|simp[Around.under,Code.cUnits,Code.frames,Code.isFrame]
theorem fc.make{k:Nat}{A:Around}(r:fc (k+1) A)(C:Addr)(us:List Value)(kw:List (Str×Value)):fc k (A.under (.builtin "type.__call__" ⟨.ref C::us,kw⟩)) :=
 ⟨r.hd,by have:=r.dp;rw[Co];omega,by have:=r.un;rw[Cp];omega⟩
theorem fc.depth{k:Nat}{A:Around}(r:fc k A):A.depth<recursionLimit:=by have:=r.dp;omega
theorem fc.units{k:Nat}{A:Around}(r:fc k A):A.units+64<cLine:=by have:=r.un;omega
theorem fc.aN{k:Nat}{A:Around}(r:fc k A):A.units<cLine:=by have:=r.un;omega
def NR:TA:=λ_ H Q=>Q [] H
def NS(ta:TE)(tr:TA):TA:=λσ H Q=>ta σ H λx H1=>tr σ H1 λxs H2=>Q (x::xs) H2
section
variable{X:Cx}{e:Expr}{es:List Expr}{te:TE}{t:TA}{pos:Pos}
theorem ah:PA X [] NR:=λ_ _ _ _ H Q I h=>Calls.spliced_nil ⟨[],H,I,.nil,h⟩
theorem af(ha:PE X e te)(hr:PA X es t)(hs:starEach (e::es) X.env=(false,eval e X.env)::starEach es X.env:=by rfl):PA X (e::es) (NS te t):=by
 intro pos pins s σ H Q I h
 rw[hs]
 show wpAny _ _ (spliced ((false,eval e X.env)::backTo pos (starEach es X.env))) _ _ s
 refine Calls.spliced_cons (cO (ha pins s σ H _ I h) λu s1 ⟨x,H1,I1,r1,q1⟩=>?_)
 exact cO (hr pos pins s1 σ H1 _ I1 q1) λus s2 ⟨xs,H2,I2,r2,q2⟩=>⟨x::xs,H2,I2,.cons r1 r2,q2⟩
def Rf(t:TA):TE:=λσ H Q=>t σ H λxs H1=>xs.length<=sizeLine/\∀p,H1 p=none->Q (.ref p) (upd H1 p (.tup xs))
def Rg(t:TA):TE:=λσ H Q=>t σ H λxs H1=>xs.length<=sizeLine/\∀p,H1 p=none->Q (.ref p) (upd H1 p (.lst xs))
theorem aB{x1}(h:PA X es t):PE X (.Tuple es x1 pos) (Rf t):=by
 intro pins s σ H Q I hq
 refine wpAny_Tuple_spliced (cO (h pos pins s σ H _ I hq) λus s1 ⟨xs,H1,I1,r,z,q⟩=>⟨by rw[←r.length];exact z,?_⟩)
 have hf:H1 s1.heap.objs.size=none:=I1.hok.fresh (aaj _)
 refine⟨.ref s1.heap.objs.size,upd H1 s1.heap.objs.size (.tup xs),I1.laid (t':=s1.toks) (λb u e=>aan _ e) (aaj _) ?_,rfl,q _ hf⟩
 exact⟨z,us,r,⟨_,aay _ rfl,O,_,O⟩⟩
theorem dO(h:PA X es t):PE X (.List es pos) (Rg t):=by
 intro pins s σ H Q I hq
 refine wpAny_List_spliced (cO (h pos pins s σ H _ I hq) λus s1 ⟨xs,H1,I1,r,z,q⟩=>⟨by rw[←r.length];exact z,?_⟩)
 have hf:H1 s1.heap.objs.size=none:=I1.hok.fresh (aaj _)
 refine⟨.ref s1.heap.objs.size,upd H1 s1.heap.objs.size (.lst xs),I1.laid (t':=s1.toks) (λb u e=>aan _ e) (aaj _) ?_,rfl,q _ hf⟩
 exact⟨z,us,0,r,aay _ rfl⟩
end
abbrev Sp:=List V->Hp->VK->XK->Prop
abbrev FA:=List Env->Hp->Shared->XK->Value->Shared->Prop
structure Cq(P:Program)(w:World)(K:W.Frag)(mg:Str->Option Value)(base:Heap)(A:Around)(outer:List Env)(s:Shared)(H:Hp):Prop where
 frames:A.frames=some outer
 mod:Mod K mg base
 bs:∀b o,base.get? b=some o->s.heap.get? b=some o/\H b=none
 Im:base.objs.size<=s.heap.objs.size
 t9:s.heap.FunFrames base outer
 K7:∀b∈frs outer,H b=none
 hok:sX P w H s.heap
 bare:AllBare s.gens
def CE(outer:List Env)(P:Program)(w:World)(H:Hp)(s:Shared)(Q:VK)(u:Value)(s':Shared):Prop :=
 ∃v H',s'.os=s.os/\AllBare s'.gens/\Un (frs outer) [] H H' s.heap s'.heap/\sX P w H' s'.heap/\RelV v u/\Q v H'
def CR(CX:FA)(outer:List Env)(P:Program)(w:World)(H:Hp)(s:Shared)(Q:VK)(E:XK)(r:Result)(s':Shared):Prop :=
 match r with
 | .ok (.ret u)=>CE outer P w H s Q u s'
 | .ok _=>False
 | .error e=>CX outer H s E e s'
structure bw(P:Program)(w:World)(K:W.Frag)(mg:Str->Option Value)(base:Heap)(CX:FA)(k:Nat)(f:Addr)(fd:FuncData)(ps:List Str)(sp:Sp):Prop where
 len:∀vs H Q E,sp vs H Q E->vs.length=ps.length
 run:∀(A:Around)(outer:List Env)(s:Shared)(H:Hp)(args:Args)(us:List Value)(vs:List V)(Q:VK)(E:XK),fc k A->Cq P w K mg base A outer s H->BindsTo s fd args (ps.zip us)->Vals vs us->sp vs H Q E->codeAny (model P w) A (.call (.ref f) args) (CR CX outer P w H s Q E) s
theorem Cq.make{P:Program}{w:World}{K:W.Frag}{mg:Str->Option Value}{base:Heap}{A:Around}{outer:List Env}{s:Shared}{H:Hp}(e:Cq P w K mg base A outer s H)(C:Addr)(us:List Value)(kw:List (Str×Value)):Cq P w K mg base (A.under (.builtin "type.__call__" ⟨.ref C::us,kw⟩)) outer s H:=⟨by first|exact e.frames | (simpa [Around.under,Code.envs,Code.isFrame,pushEnvs]using e.frames),e.mod,e.bs,e.Im,e.t9,e.K7,e.hok,e.bare⟩
section
variable{X:Cx}{pins:List (Addr×Obj)}{σ:St}{H:Hp}{s s':Shared}
theorem Inv.NT(I:Inv X pins σ H s):Cq X.prog X.w X.K X.mg X.base X.A X.stack s H :=
 ⟨I.ok.frames,I.ok.mod,I.bs,aao I.ok.Im I.sz,I.stack,I.DI,I.hok,I.bare⟩
theorem Inv.after{Q:VK}{u:Value}(I:Inv X pins σ H s)(h:CE X.stack X.prog X.w H s Q u s'):EP X pins σ Q u s':=by
 obtain⟨v,H',os,bare,un,hok,r,q⟩:=h
 obtain⟨hh,g,d,t,os'⟩:=s'
 obtain rfl:os'=s.os:=os
 exact⟨v,H',I.call (h':=hh) (g':=g) (d':=d) (t':=t) (ch:=[]) un hok bare (λb z=>absurd z (by simp)),r,q⟩
end
def KD(sp:Sp)(wZ:List V)(E:XK)(t:TA):TE:=λσ H Q=>t σ H λvs H1=>sp (vs++wZ) H1 Q E
def KG(C:Addr)(m:Str)(sp:Sp)(wZ:List V)(E:XK)(ta:TE)(t:TA):TE:=λσ H Q=>ta σ H λx H1=>∃a dx fs,x=.ref a/\H1 a=some (.ins C dx fs)/\fs.lookup m=none/\t σ H1 λvs H2=>sp (x::(vs++wZ)) H2 Q E
def NU(C:Addr)(sp:Sp)(wZ:List V)(E:XK)(t:TA):TE:=λσ H Q=>t σ H λvs H1=>∀x dx,H1 x=none->H1 dx=none->dx≠x->sp (.ref x::(vs++wZ)) (upd (upd H1 dx (.own x)) x (.ins C dx [])) (λv H2=>v=.non/\Q (.ref x) H2) E
def Binds(K:W.Frag)(fd:FuncData)(ps:List Str)(ds:List Value):Prop :=
 ∀(s:Shared)(us:List Value),K.In s.heap->(us++ds).length=ps.length->BindsTo s fd ⟨us,[]⟩ (ps.zip (us++ds))
theorem Binds.all{K:W.Frag}{fd:FuncData}{ps:List Str}(h:∀us:List Value,us.length=ps.length->bindArgs fd ⟨us,[]⟩=pure (ps.zip us)):Binds K fd ps []:=λs us _ hl=>by
 rw[aaU]at hl⊢
 exact .of_eq (h us hl)
def Passes(CX:FA)(X:Cx)(E:XK):Prop:=∀(pins:List (Addr×Obj))(σ:St)(H:Hp)(s:Shared)(e:Value)(s':Shared),Inv X pins σ H s->CX X.stack H s E e s'->X.xe e s'
section
variable{X:Cx}{CX:FA}{k:Nat}{f C:Addr}{fd:FuncData}{ps:List Str}{sp:Sp}{wZ:List V}{ds:List Value}{E:XK}{x m:Str}{p pos apos:Pos}{e o:Expr}{es:List Expr}{ta:TE}{t:TA}
theorem Cr{pins:List (Addr×Obj)}{σ:St}{H:Hp}{s:Shared}{Q:VK}{us:List Value}{vs:List V}(F:bw X.prog X.w X.K X.mg X.base CX k f fd ps sp)(hr:fc k X.A)(hb:Binds X.K fd ps ds)(hd:Vals wZ ds)(hx:Passes CX X E)(I:Inv X pins σ H s)(r:Vals vs us)(h:sp (vs++wZ) H Q E):wpAny (model X.prog X.w) X.A (call (.ref f) us) (EP X pins σ Q) X.xe s:=by
 have r2:Vals (vs++wZ) (us++ds):=r.append hd
 have hl:(us++ds).length=ps.length:=by rw[←r2.length];exact F.len _ _ _ _ h
 refine wpAny_call (codeAny_mono (F.run X.A X.stack s H ⟨us,[]⟩ (us++ds) (vs++wZ) Q E hr I.NT (hb s us I.pR hl) r2 h) λr s' hq=>?_)
 cases r with
 |error e=>exact hx pins σ H s e s' I hq
 |ok fl =>
  cases fl with
  |ret u=>exact I.after hq
  |next=>exact False.elim hq
  |brk=>exact False.elim hq
  |cont=>exact False.elim hq
theorem DS(F:bw X.prog X.w X.K X.mg X.base CX k f fd ps sp)(hr:fc k X.A)(hg:Gl X x)(hm:X.mg x=some (.ref f))(hk:W.keepIn X.K (.ref f)=true)(hb:Binds X.K fd ps ds)(hd:Vals wZ ds)(hx:Passes CX X E)(ha:PA X (e::es) t)(hdb:(x==("__debug__":Str))=false:=by decide)(he:starEach (e::es) X.env=(false,eval e X.env)::starEach es X.env:=by rfl)(hpl:(backTo pos (starEach es X.env)).any (·.1)=false:=by rfl):PE X (.Call (.Name x p) (e::es) [] pos) (KD sp wZ E t):=by
 intro pins s σ H Q I h
 refine abu (yY I hg hm ?_ hdb)
 refine W.callWith_K (h₀:=X.base) I.ok.mod.Nt hk (cO (ha pos pins s σ H _ I h) λus s1 ⟨vs,H1,I1,r,q⟩=>⟨I1.pR,?_⟩) he hpl
 exact Cr F hr hb hd hx I1 r q
theorem iw{pl:Sem Bool}(he:PE X o ta)(c:DR X.K C)(hm:Meth X.K C m f)(F:bw X.prog X.w X.K X.mg X.base CX k f fd ps sp)(hr:fc k X.A)(hb:Binds X.K fd ps ds)(hd:Vals wZ ds)(hx:Passes CX X E)(ha:PA X (e::es) t)(hst:starEach (e::es) X.env=(false,eval e X.env)::starEach es X.env:=by rfl)(hpl:(backTo pos (starEach es X.env)).any (·.1)=false:=by rfl)(ht:eval (.Call (.Attribute o m apos) (e::es) [] pos) X.env=(do
   let ov ←eval o X.env
   standAt apos.atName
   let (f,first) ←holding [ov] (getMethod ov m pl)
   callWith pos f first (backTo pos (starEach (e::es) X.env)) (backToKw pos (keywordEach [] X.env))):=by rfl):PE X (.Call (.Attribute o m apos) (e::es) [] pos) (KG C m sp wZ E ta t):=by
 intro pins s σ H Q I h
 refine W.methodCall_KW (pl:=pl) (cO (he pins s σ H _ I h) λu s1 ⟨x,H1,I1,rx,a,dx,fs,ex,ea,l,q⟩=>?_) ht
 subst ex
 obtain rfl:u=Value.ref a:=rx
 refine vq I1 ea c hm l ?_
 refine W.callWith_K (first:=[.ref a]) (h₀:=X.base) I.ok.mod.Nt hm.kp (cO (ha pos pins s1 σ H1 _ I1 q) λus s2 ⟨vs,H2,I2,r,q2⟩=>⟨I2.pR,?_⟩) hst hpl
 exact Cr (us:=.ref a::us) (vs:=.ref a::vs) F hr hb hd hx I2 (.cons rfl r) q2
theorem AZ{pl:Sem Bool}(he:PE X o ta)(c:DR X.K C)(hm:Meth X.K C m f)(F:bw X.prog X.w X.K X.mg X.base CX k f fd ps sp)(hr:fc k X.A)(hb:Binds X.K fd ps ds)(hd:Vals wZ ds)(hx:Passes CX X E)(ht:eval (.Call (.Attribute o m apos) [] [] pos) X.env=(do
   let ov ←eval o X.env
   standAt apos.atName
   let (f,first) ←holding [ov] (getMethod ov m pl)
   callWith pos f first (backTo pos (starEach [] X.env)) (backToKw pos (keywordEach [] X.env))):=by rfl):PE X (.Call (.Attribute o m apos) [] [] pos) (KG C m sp wZ E ta NR):=by
 intro pins s σ H Q I h
 refine W.methodCall_KW (pl:=pl) (cO (he pins s σ H _ I h) λu s1 ⟨x,H1,I1,rx,a,dx,fs,ex,ea,l,q⟩=>?_) ht
 subst ex
 obtain rfl:u=Value.ref a:=rx
 refine vq I1 ea c hm l ?_
 exact W.callWith_K0 (first:=[.ref a]) I1.pR hm.kp (Cr (us:=[.ref a]) (vs:=[.ref a]) F hr hb hd hx I1 (.cons rfl .nil) q)
structure Mk(K:W.Frag)(C f:Addr):Prop where
 makes:W.makesIn K C=true
 init:W.findIn K (.ref C) "__init__"=some (some (.ref f))
 fn:W.isFn K (.ref f)=true
 kp:W.keepIn K (.ref C)=true
theorem Gj{pins:List (Addr×Obj)}{σ:St}{H:Hp}{s:Shared}{Q:VK}{us:List Value}{vs:List V}(M:Mk X.K C f)(F:bw X.prog X.w X.K X.mg X.base CX k f fd ps sp)(hr:fc (k+1) X.A)(hb:Binds X.K fd ps ds)(hd:Vals wZ ds)(hx:Passes CX X E)(I:Inv X pins σ H s)(r:Vals vs us)(h:∀x dx,H x=none->H dx=none->dx≠x->sp (.ref x::(vs++wZ)) (upd (upd H dx (.own x)) x (.ins C dx [])) (λv H2=>v=.non/\Q (.ref x) H2) E):wpAny (model X.prog X.w) X.A (call (.ref C) us) (EP X pins σ Q) X.xe s:=by
 have hq:=h (s.heap.objs.size+1) s.heap.objs.size (I.hok.fresh (Nat.le_succ _)) (I.hok.fresh (aaj _)) (aaM (Nat.lt_succ_self _))
 have I2:=Inv.made (C:=C) I
 have r2:Vals (V.ref (s.heap.objs.size+1)::(vs++wZ)) (Value.ref (s.heap.objs.size+1)::(us++ds)):=.cons rfl (r.append hd)
 have hl:(Value.ref (s.heap.objs.size+1)::us++ds).length=ps.length:=by
  have e:=r2.length
  rw[F.len _ _ _ _ hq]at e
  exact e.symm
 refine wpAny_call (Gi (f:=f) I.pR M.makes M.init (beq_iff_eq.mp M.fn) (codeAny_mono (F.run _ X.stack _ _ ⟨Value.ref (s.heap.objs.size+1)::us,[]⟩ (Value.ref (s.heap.objs.size+1)::(us++ds)) _ _ E (hr.make C us [])
  (I2.NT.make C us []) (hb _ (Value.ref (s.heap.objs.size+1)::us) I2.pR hl) r2 hq) λr s' hq'=>?_))
 cases r with
 |error e=>exact hx pins σ _ _ e s' I2 hq'
 |ok fl =>
  cases fl with
  |ret u =>
   obtain⟨v,H',I3,rv,ev,q3⟩:=I2.after hq'
   subst ev
   exact⟨rv,⟨V.ref (s.heap.objs.size+1),H',I3,O,q3⟩⟩
  |next=>exact False.elim hq'
  |brk=>exact False.elim hq'
  |cont=>exact False.elim hq'
theorem kh(M:Mk X.K C f)(F:bw X.prog X.w X.K X.mg X.base CX k f fd ps sp)(hr:fc (k+1) X.A)(hg:Gl X x)(hm:X.mg x=some (.ref C))(hb:Binds X.K fd ps ds)(hd:Vals wZ ds)(hx:Passes CX X E)(ha:PA X (e::es) t)(hdb:(x==("__debug__":Str))=false:=by decide)(he:starEach (e::es) X.env=(false,eval e X.env)::starEach es X.env:=by rfl)(hpl:(backTo pos (starEach es X.env)).any (·.1)=false:=by rfl):PE X (.Call (.Name x p) (e::es) [] pos) (NU C sp wZ E t):=by
 intro pins s σ H Q I h
 refine abu (yY I hg hm ?_ hdb)
 refine W.callWith_K (h₀:=X.base) I.ok.mod.Nt M.kp (cO (ha pos pins s σ H _ I h) λus s1 ⟨vs,H1,I1,r,q⟩=>⟨I1.pR,?_⟩) he hpl
 exact Gj M F hr hb hd hx I1 r q
end
section
variable{X:Cx}{CX:FA}{k:Nat}{f C:Addr}{fd:FuncData}{ps ks:List Str}{sp:Sp}{E:XK}{x m:Str}{p pos apos kpos:Pos}{e o:Expr}{es:List Expr}{kws:List Keyword}{te ta:TE}{t tk:TA}{nm:Option Str}
variable{g:List Value->List Value->List Value}{gV:List V->List V->List V}
end
structure aE(N P:List Str)(sc:Scope):Prop where
 kind:sc.kind=.function
 co:sc.isCoroutine=false
 gen:sc.isGenerator=false
 nd:N.Nodup
 pre:N.take P.length=P
 par:∀x∈P,sc.names.lookup x=some .local\/sc.names.lookup x=some .cell
 Lm:∀y∈sc.names,y.2≠.free
theorem yk{kindOf:Str->Option NameKind}{x:Str}:∀{binds:List (Str×Value)}{m:Str->Option Value},(∀v,(x,v)∉binds)->bindL kindOf binds m x=m x
 |[],_,_=>rfl
 | (n,v)::r,m,h=>by
  unfold bindL
  rw[yk λw hw=>h w (aaw _ hw)]
  split
  ·have:x≠n:=by rintro rfl;exact h v aaA
   simp[this]
  ·rfl
theorem yl{kindOf:Str->Option NameKind}{x:Str}:∀{binds:List (Str×Value)}{m:Str->Option Value},(∀v,(x,v)∉binds)->bindC kindOf binds m x=m x
 |[],_,_=>rfl
 | (n,v)::r,m,h=>by
  unfold bindC
  rw[yl λw hw=>h w (aaw _ hw)]
  split
  ·rfl
  ·have:x≠n:=by rintro rfl;exact h v aaA
   simp[this]
theorem ym{kindOf:Str->Option NameKind}{x:Str}{v:Value}:∀{P:List Str}{vs:List Value}{i:Nat}{m:Str->Option Value},P.Nodup->P[i]?=some x->vs[i]?=some v->kindOf x=some .local->bindL kindOf (P.zip vs) m x=some v
 |[],_,_,_,_,h,_,_=>by simp at h
 |_::_,[],_,_,_,_,h,_=>by simp at h
 |p::P,w::vs,0,m,nd,h1,h2,hk=>by
  simp at h1 h2;subst h1;subst h2
  show bindL kindOf ((p,w)::P.zip vs) m p=_
  unfold bindL
  rw[yk λv hv=>(aa8.mp nd).1 (List.of_mem_zip hv).1,aai hk]
  simp
 |p::P,w::vs,i+1,m,nd,h1,h2,hk=>by
  show bindL kindOf ((p,w)::P.zip vs) m x=_
  unfold bindL
  exact ym (i:=i) (aa8.mp nd).2 (by simpa using h1) (by simpa using h2) hk
theorem yo{kindOf:Str->Option NameKind}{x:Str}{v:Value}:∀{P:List Str}{vs:List Value}{i:Nat}{m:Str->Option Value},P.Nodup->P[i]?=some x->vs[i]?=some v->kindOf x≠some .local->bindC kindOf (P.zip vs) m x=some v
 |[],_,_,_,_,h,_,_=>by simp at h
 |_::_,[],_,_,_,_,h,_=>by simp at h
 |p::P,w::vs,0,m,nd,h1,h2,hk=>by
  simp at h1 h2;subst h1;subst h2
  show bindC kindOf ((p,w)::P.zip vs) m p=_
  unfold bindC
  rw[yl λv hv=>(aa8.mp nd).1 (List.of_mem_zip hv).1,aah hk]
  simp
 |p::P,w::vs,i+1,m,nd,h1,h2,hk=>by
  show bindC kindOf ((p,w)::P.zip vs) m x=_
  unfold bindC
  exact yo (i:=i) (aa8.mp nd).2 (by simpa using h1) (by simpa using h2) hk
def start(N:List Str)(vs:List V):St:=vs.map some++List.replicate (N.length-vs.length) none
def Cs(CX:FA)(P:Program)(w:World)(K:W.Frag)(mg:Str->Option Value)(base:Heap)(N:List Str)(qual:Str)(scope:Scope)(f:Addr)(cd:Value)(A:Around)(outer:List Env)(s:Shared)(H:Hp)(E:XK):Cx where
 prog:=P
 w:=w
 K:=K
 mg:=mg
 base:=base
 A:=A.deeper (envOfC qual scope s.heap.objs.size f cd)
 N:=N
 s₀:=s
 H₀:=H
 env:=envOfC qual scope s.heap.objs.size f cd
 outer:=outer
 stack:=envOfC qual scope s.heap.objs.size f cd::outer
 ex:=[]
 calm:=true
 fn:=λ_=>true
 pn:=[]
 xe:=λe s'=>wpAny (model P w) (A.deeper (envOfC qual scope s.heap.objs.size f cd)) (leaving (envOfC qual scope s.heap.objs.size f cd) e) (λ_ s''=>CX outer H s E e s'') (λe' s''=>CX outer H s E e' s'') s'
theorem A0{sc:Scope}{n:Nat}{x:Str}(h:sc.names.lookup x=some .cell):∃c,(cellsFrom n sc.names []).lookup x=some c:=by
 have q:=W.cellsFrom_some sc.names n [] (.inl h)
 exact Option.isSome_iff_exists.mp q
theorem ED{CX:FA}{P:Program}{w:World}{K:W.Frag}{mg:Str->Option Value}{base:Heap}{N ps:List Str}{qual:Str}{scope:Scope}{f:Addr}{cd:Value}{A:Around}{outer:List Env}{s s1:Shared}{H:Hp}{E:XK}{us:List Value}{vs:List V}(S:aE N ps scope)(hd:A.handled=none)(e0:Cq P w K mg base A outer s H)(hl:vs.length=ps.length)(r:Vals vs us)(x:InCallC s s.heap.objs.size (bindL (envOfC qual scope s.heap.objs.size f cd).kindOf (ps.zip us) λ_=>none) (cellsFrom (s.heap.objs.size+1) scope.names []) (bindC (envOfC qual scope s.heap.objs.size f cd).kindOf (ps.zip us) λ_=>none) s1):Inv (Cs CX P w K mg base N qual scope f cd A outer s H E) [] (start N vs) H s1:=by
 have hpl:ps.length<=N.length:=by have:=congrArg List.length S.pre;rw[aaQ]at this;omega
 obtain⟨h1,tk,rfl,hk⟩:=x.done
 have NV:∀b:Addr,b∉(Cs CX P w K mg base N qual scope f cd A outer s H E).ex:=λb z=>absurd (show b∈([]:List Addr) from z) (by simp)
 refine⟨⟨e0.mod,S.kind,O,O,aaj _,λy z c h1 h2=>?_,λy hy=>?_,λy c _ h=>?_,λ_=>hd,Around.frames_deeper e0.frames,.inr ⟨O,O⟩,λb z=>absurd z (NV b),e0.bs,e0.Im,λb _ _=>NV b,λb z=>absurd z (NV b),e0.t9,e0.K7⟩,O,e0.bare,Un.kept hk,⟨_,x.toInCall.ns,λi y v h1 h2 h3=>?_⟩,λy c h=>⟨_,x.cell y c h⟩,e0.hok.fresh (aaj _),λy c h=>?_,λp hp=>absurd (show p∈([]:List (Addr×Obj)) from hp) (by simp),e0.hok.kept hk,?_⟩
 ·exact name_of_addr x.apart (aaZ h1) (aaZ h2)
 ·have hy:scope.names.lookup y=some .cell\/scope.names.lookup y=some .free:=hy
  rcases hy with hy|hy
  ·exact A0 hy
  ·exact absurd rfl (S.Lm _ (aaZ hy))
 ·exact Nat.le_of_lt (x.above y c (aaZ h))
 ·have hi:i<vs.length:=by
   unfold start at h2
   by_cases hi:i<vs.length
   ·exact hi
   ·rw[List.getElem?_append_right (by simpa using hi)]at h2
    rw[List.getElem?_replicate]at h2
    split at h2<;>cases h2
  have ha:vs[i]?=some v:=by
   unfold start at h2
   rw[List.getElem?_append_left (by simpa using hi),aby]at h2
   cases e:vs[i]? with
   |none=>rw[e]at h2;cases h2
   |some a=>rw[e]at h2;cases h2;rfl
  obtain⟨u,hu,rv⟩:=r.get ha
  have hp:ps[i]?=some y:=by
   rw[←S.pre,List.getElem?_take_of_lt (by omega)];exact h1
  have Wk:ps.Nodup:=by rw[←S.pre];exact S.nd.sublist (List.take_sublist _ _)
  refine⟨u,rv,?_⟩
  rcases S.par y (aaJ hp) with k|k
  ·exact .inl ⟨k,ym Wk hp hu k⟩
  ·obtain⟨c,e⟩:=A0 (n:=s.heap.objs.size+1) k
   refine .inr ⟨.inl k,c,e,?_⟩
   have q:=x.cell y c e
   rw[yo Wk hp hu (by show scope.names.lookup y≠_;rw[k];decide)]at q
   exact q
 ·exact e0.hok.fresh (Nat.le_of_lt (x.above y c (aaZ h)))
 ·unfold start
  show _=N.length
  rw[aav,aaq,abg]
  omega
theorem KH{CX:FA}{P:Program}{w:World}{K:W.Frag}{mg:Str->Option Value}{base:Heap}{k:Nat}{f:Addr}{name qual:Str}{params:Arguments}{body:List Stmt}{scope:Scope}{dV kV doc pm cdv ct oc:Value}{an od:Option Addr}{osl:Array (Option Value)}{N ps:List Str}{sp:Sp}(lk:K.lookup f=some ⟨oc,od,.func (W.fnOf name qual params body scope dV kV doc pm an cdv ct),osl⟩)(hcd:W.codeIn K cdv qual=true)(S:aE N ps scope)(len:∀vs H Q E,sp vs H Q E->vs.length=ps.length)(hbody:∀(A:Around)(outer:List Env)(s:Shared)(H:Hp)(vs:List V)(Q:VK)(E:XK),fc k (A.deeper (envOfC qual scope s.heap.objs.size f cdv))->sp vs H Q E->∃t,DK (Cs CX P w K mg base N qual scope f cdv A outer s H E) body t/\t {nx:=λ_ H'=>Q .non H',rt:=Q} (start N vs) H):bw P w K mg base CX (k+1) f (W.fnOf name qual params body scope dV kV doc pm an cdv ct) ps sp:=by
 refine⟨len,λA outer s H args us vs Q E hr e0 hb r Io=>?_⟩
 have hl:=len _ _ _ _ Io
 have KX:K.In s.heap:=e0.mod.Nt.keeps λb o e=>(e0.bs b o e).1
 have lim:s.heap.NoLimit:=e0.mod.nolimit.keeps λb o e=>(e0.bs b o e).1
 have hkind:∀y∈ps.zip us,scope.names.lookup y.1=some .local\/(scope.names.lookup y.1=some .cell/\((cellsFrom (s.heap.objs.size+1) scope.names []).lookup y.1).isSome=true):=λ⟨n,v⟩ hy=>by
  rcases S.par n (List.of_mem_zip hy).1 with q|q
  ·exact .inl q
  ·exact .inr ⟨q,W.cellsFrom_some _ _ _ (.inl q)⟩
 refine codeAny_call_function hr.depth (KX _ _ lk) rfl S.co S.gen rfl (W.codeRec_of KX hcd) (hb _ _ _ _ ?_)
 refine wpAny_newFunctionEnv_cells S.kind hkind λenv he s1 x=>?_
 subst he
 refine⟨lim.keeps x.toInCall.keep,codeAny_func ?_⟩
 obtain⟨t,ht,hq⟩:=hbody A outer s H vs Q E (hr.deeper _) Io
 have I:Inv (Cs CX P w K mg base N qual scope f cdv A outer s H E) [] (start N vs) H s1:=ED S hr.hd e0 hl r x
 refine abb (ht [] s1 (start N vs) H _ I hq) (λfl s' hs=>?_) λe s' hs=>hs
 have fin:∀{σ':St}{H':Hp}{v:V}{u:Value},Inv (Cs CX P w K mg base N qual scope f cdv A outer s H E) [] σ' H' s'->RelV v u->Q v H'->CE outer P w H s Q u s' :=
  λ{σ' H' v u} J rv q=>⟨v,H',J.os,J.bare,J.base,J.hok,rv,q⟩
 cases fl with
 |ret u =>
  obtain⟨v,σ',H',J,rv,q⟩:=hs
  exact fin J rv q
 |next =>
  obtain⟨σ',H',J,q⟩:=hs
  exact fin (v:=V.non) (u:=Value.none) J rfl q
 |brk =>
  obtain⟨_,_,_,q⟩:=hs
  exact False.elim q
 |cont =>
  obtain⟨_,_,_,q⟩:=hs
  exact False.elim q
section
variable{X:Cx}{x:Str}{p pos:Pos}{e:Expr}{es:List Expr}{t:TA}{id T:String}{r:List V->Hp->VK->Prop}
def Qm(r:List V->Hp->VK->Prop)(t:TA):TE:=λσ H Q=>t σ H λvs H1=>r vs H1 Q
theorem Gk(hc:fM X (.builtin id) r)(hg:Gl X x)(hm:X.mg x=none)(hv:bootBuiltins x=some (.builtin id))(ha:PA X (e::es) t)(hn:x ≠ "__name__":=by decide)(hdb:(x==("__debug__":Str))=false:=by decide)(he:starEach (e::es) X.env=(false,eval e X.env)::starEach es X.env:=by rfl)(hpl:(backTo pos (starEach es X.env)).any (·.1)=false:=by rfl):PE X (.Call (.Name x p) (e::es) [] pos) (Qm r t):=by
 intro pins s σ H Q I h
 refine abu (qV I hg hm hv ?_ hn hdb)
 exact PyProof.Rows.callWith_builtin1 (cO (ha pos pins s σ H _ I h) λus s1 ⟨vs,H1,I1,r1,q1⟩=>hc pins s1 σ H1 vs us Q I1 r1 q1) he hpl
theorem EE(hc:fM X (.type T) r)(hg:Gl X x)(hm:X.mg x=none)(hv:bootBuiltins x=some (.type T))(ha:PA X (e::es) t)(hn:x ≠ "__name__":=by decide)(hdb:(x==("__debug__":Str))=false:=by decide)(he:starEach (e::es) X.env=(false,eval e X.env)::starEach es X.env:=by rfl)(hpl:(backTo pos (starEach es X.env)).any (·.1)=false:=by rfl):PE X (.Call (.Name x p) (e::es) [] pos) (Qm r t):=by
 intro pins s σ H Q I h
 refine abu (qV I hg hm hv ?_ hn hdb)
 exact abt (cO (ha pos pins s σ H _ I h) λus s1 ⟨vs,H1,I1,r1,q1⟩=>hc pins s1 σ H1 vs us Q I1 r1 q1) he hpl
end
end L2
namespace HT
open PySem PyProof.Rows
section
open PySem.SeqAt
open PySem.AutoSeq1 (wpAny_loadPart')
open PySem.MeetsSeq PySem.MeetsSeq2 PySem.MeetsSeq3
end
section
variable{prog:Program}{w:World}{A:Around}{E:Value->Shared->Prop}{s:Shared}
theorem IK{t b:Addr}{vs ws:List Value}{Q:Value->Shared->Prop}(ht:IsTup s.heap t vs.toArray)(hb:IsTup s.heap b ws.toArray)(hv:vs≠[])(h1:ws=[]->Q (.ref t) s)(h2:ws≠[]->Q (.ref s.heap.objs.size) {s with heap:=s.heap.push {cls:=.type "tuple",data:=.seq (vs++ws).toArray}})(hsz:vs.length+ws.length<=sizeLine):wpAny (model prog w) A (binaryOp .Add (.ref t) (.ref b)) Q E s:=by
 obtain⟨⟨cls,dd,data,sl⟩,ho,hc,n,hd⟩:=id ht
 obtain⟨⟨Rh,dd2,data2,sl2⟩,ho2,hc2,n2,hd2⟩:=id hb
 simp only at hc hd hc2 hd2
 subst hc hd hc2 hd2
 have e:vs.toArray++ws.toArray=(vs++ws).toArray:=by simp
 by_cases hw:ws=[]
 ·exact concat_meets ⟨_,ho,rfl⟩ ⟨_,ho2,rfl⟩ noFill_tuple_add seq_tuple_add PySem.F.slot_tuple_add PySem.F.entry_tuple_add (PySem.F.args_tuple_add_2 _ _)
   (tuple_addW1 t b vs.toArray ws.toArray n n2 dd dd2 sl sl2 (by simpa using hv) (by simp[hw])) ⟨ho,ho2,h1 hw⟩
 ·refine concat_meets ⟨_,ho,rfl⟩ ⟨_,ho2,rfl⟩ noFill_tuple_add seq_tuple_add PySem.F.slot_tuple_add PySem.F.entry_tuple_add (PySem.F.args_tuple_add_2 _ _)
   (tuple_addW2 t b vs.toArray ws.toArray n n2 dd dd2 sl sl2 (by simpa using hv) (by simpa using hw) (by rw[aap,aap];exact hsz)) ⟨ho,ho2,?_⟩
  rw[e]
  exact h2 hw
def gk(n d:Nat):Option Int->Nat
 |none=>d
 |some v=>if v<0 then (v+(n:Int)).toNat else min v.toNat n
theorem Gm(n d:Nat):gk n d none=d:=rfl
theorem IL(n d k:Nat):gk n d (some (k:Int))=min k n:=by
 show(if (k:Int)<0 then ((k:Int)+(n:Int)).toNat else min (k:Int).toNat n)=min k n
 rw[aah (by omega),abl]
theorem Ln(n d:Nat)(hd:d<=n)(o:Option Int):gk n d o<=n:=by
 cases o with
 |none=>exact hd
 |some v =>
  show(if v<0 then (v+(n:Int)).toNat else min v.toNat n)<=n
  by_cases hv:v<0
  ·rw[aai hv];omega
  ·rw[aah hv];exact Nat.min_le_right _ _
theorem DT(v:Int)(n d:Nat):(if v<0 then max (v+(n:Int)) 0 else min v (n:Int))=((gk n d (some v):Nat):Int):=by
 show(if v<0 then max (v+(n:Int)) 0 else min v (n:Int))=(((if v<0 then (v+(n:Int)).toNat else min v.toNat n):Nat):Int)
 by_cases hv:v<0
 ·simp only[aai hv];omega
 ·simp only[aah hv];omega
theorem Ct(lo hi:Option Int)(n:Nat):Builtin.Slice.sliceAdjust lo hi 1 (n:Int)=(((gk n 0 lo:Nat):Int),((gk n n hi:Nat):Int)):=by
 have h1:¬((1:Int)<0):=by omega
 unfold Builtin.Slice.sliceAdjust
 simp only[h1,aaW]
 refine Prod.ext ?_ ?_
 ·cases lo with
  |none=>rfl
  |some v=>exact DT v n 0
 ·cases hi with
  |none=>rfl
  |some v=>exact DT v n n
theorem Cu(i j:Nat):Builtin.Slice.slicePlaces (i:Int) (j:Int) 1=j-i:=by
 unfold Builtin.Slice.slicePlaces
 have h1:(1:Int)>0:=by omega
 simp only[h1,if_true,Int.ediv_one]
 split<;>omega
theorem vt{v:Value}{o:Option Int}{Q:Option Int->Shared->Prop}(p:IsPart v o)(h:Q o s):wpAny (model prog w) A (Builtin.Slice.slicePartIndex v) Q E s:=by
 cases p with
 |none=>exact slicePart_none h
 |int i t=>exact slicePart_int h
theorem qX{sl:Addr}{vl vu:Value}{lo hi:Option Int}{n:Nat}{Q:Int×Int×Nat->Shared->Prop}(hs:s.heap.IsSliceOf sl vl vu .none)(pl:IsPart vl lo)(pu:IsPart vu hi)(h:Q (((gk n 0 lo:Nat):Int),1,gk n n hi-gk n 0 lo) s):wpAny (model prog w) A (Builtin.Slice.sliceApplied (.ref sl) (pure (n:Int))) Q E s:=by
 obtain⟨os,hos,hcs,hds⟩:=id hs
 unfold Builtin.Slice.sliceApplied Builtin.Slice.sliceFields
 refine aag (aag (abr hos hds (x:=vl) rfl (aag (abr hos hds (x:=vu) rfl (aag (abr hos hds (x:=.none) rfl (aak ?_)))))))
 refine aag (slicePart_none ?_)
 show wpAny _ _ (if ((1:Int)==0)=true then _ else _) _ _ s
 rw[aah (by decide)]
 refine aag (vt pl (aag (vt pu (aag (aak ?_)))))
 show wpAny _ _ (match Builtin.Slice.sliceAdjust lo hi 1 (n:Int) with | (lo,hi)=>pure (lo,(1:Int),Builtin.Slice.slicePlaces lo hi 1)) _ _ s
 rw[Ct lo hi n]
 show wpAny _ _ (pure (((gk n 0 lo:Nat):Int),(1:Int),Builtin.Slice.slicePlaces ((gk n 0 lo:Nat):Int) ((gk n n hi:Nat):Int) 1)) _ _ s
 rw[Cu]
 exact aak h
theorem Gn(xs:Array Value)(i k:Nat):((List.range k).filterMap λ(m:Nat)=>xs[((i:Int)+(m:Int)*1).toNat]?).toArray=((xs.toList.drop i).take k).toArray:=by
 have e:(λ(m:Nat)=>xs[((i:Int)+(m:Int)*1).toNat]?)=λm=>xs[i+m]?:=by
  funext m
  have:((i:Int)+(m:Int)*1).toNat=i+m:=by omega
  rw[this]
 rw[e]
 have:=pick_run xs i k
 rw[List.filterMap_map]at this
 have e2:((λx=>xs[x]?)∘λx=>i+x)=λm=>xs[i+m]?:=rfl
 rw[e2]at this
 rw[this]
theorem pU{t sl:Addr}{items:Array Value}{vl vu:Value}{lo hi:Option Int}{Q:Value->Shared->Prop}(ht:IsTup s.heap t items)(hs:s.heap.IsSliceOf sl vl vu .none)(pl:IsPart vl lo)(pu:IsPart vu hi)(hw:¬(gk items.size 0 lo=0/\gk items.size items.size hi=items.size))(h:Q (.ref s.heap.objs.size) {s with heap:=s.heap.push {cls:=.type "tuple",data:=.seq ((items.toList.drop (gk items.size 0 lo)).take (gk items.size items.size hi-gk items.size 0 lo)).toArray}})(hsz:items.size<=sizeLine):wpAny (model prog w) A (getItem (.ref t) (.ref sl)) Q E s:=by
 have DU:sizeOk (.seq ((items.toList.drop (gk items.size 0 lo)).take (gk items.size items.size hi-gk items.size 0 lo)).toArray):=by
  show((items.toList.drop (gk items.size 0 lo)).take (gk items.size items.size hi-gk items.size 0 lo)).toArray.size<=sizeLine
  rw[aap,aaQ,List.length_drop,aam]
  omega
 have hj:gk items.size items.size hi<=items.size:=Ln _ _ (aaj _) hi
 obtain⟨os,hos,hcs,hds⟩:=id hs
 have Yd:s.TypeIs (.ref sl) "slice":=⟨os,hos,hcs⟩
 unfold getItem
 try with_reducible refine wpAny_holding ?_
 first|refine aag (aak ?_)|skip
 refine aag (wpAny_sequenceKey ht.typeIs (by decide) ?_)
 refine aag (abm (name:=("__getitem__":Str)) ht.typeIs PyProof.Rows.slot_tuple_getitem
  (aa5 PyProof.Rows.slot_tuple_getitem ht.typeIs entry_tuple_getitem ?_ (args_tuple_getitem _ _)))
 show wpAny _ _ (Builtin.Tuple.tupleItemsOf (.ref t) >>= _) _ _ s
 refine aag (tupleItemsOf_ ht ?_)
 refine aag (wpAny_typeOf Yd ?_)
 rw[aai (by decide)]
 refine aag (qX hs pl pu ?_)
 have hno:¬((((gk items.size 0 lo:Nat):Int)==0&&(1:Int)==1&&(gk items.size items.size hi-gk items.size 0 lo)==items.size)=true):=by
  intro q
  rw[abo,abo]at q
  have q1:((gk items.size 0 lo:Nat):Int)=0:=eq_of_beq q.1.1
  have q2:gk items.size items.size hi-gk items.size 0 lo=items.size:=eq_of_beq q.2
  exact hw ⟨by omega,by omega⟩
 show wpAny _ _ (if (((gk items.size 0 lo:Nat):Int)==0&&(1:Int)==1&&(gk items.size items.size hi-gk items.size 0 lo)==items.size)=true then _ else _) _ _ s
 rw[aah hno,Gn]
 first
  |exact aag (m:=Builtin.Tuple.tupleExact _) (aaR (aak ⟨_,rfl,aak h⟩) DU)
  |exact aag (m:=Builtin.Tuple.tupleExact _) (aaR (aag (aak (aak ⟨_,rfl,aak h⟩))) DU)
  |exact aag (aag (m:=Builtin.Tuple.tupleExact _) (aaR (aak (aak ⟨_,rfl,aak h⟩)) DU))
  |exact aag (aag (m:=Builtin.Tuple.tupleExact _) (aaR (aak ⟨_,rfl,aak h⟩) DU))
end
end HT
namespace L2
open PySem PySem.Spec PyProof.Rows
abbrev TO:=St->Hp->(Option Int->Hp->Prop)->Prop
def PO(X:Cx)(e:Option Expr)(t:TO):Prop :=
 ∀(pins:List (Addr×Obj))(s:Shared)(σ:St)(H:Hp)(Q:Option Int->Hp->Prop),Inv X pins σ H s->t σ H Q->wpAny (model X.prog X.w) X.A (evalPart e X.env) (λu s'=>∃o H',Inv X pins σ H' s'/\IsPart u o/\Q o H') X.xe s
def IM:TO:=λ_ H Q=>Q none H
def NW(t:TE):TO:=λσ H Q=>t σ H λx H1=>∃i,x=.int i/\Q (some i) H1
section
variable{X:Cx}{e:Expr}{te:TE}{lo hi:Option Expr}{tl th:TO}{pos p2:Pos}
theorem pV:PO X none IM:=by
 intro pins s σ H Q I h
 rw[evalPart_none]
 exact aak ⟨none,H,I,.none,h⟩
theorem pW(h:PE X e te):PO X (some e) (NW te):=by
 intro pins s σ H Q I hw
 rw[evalPart_some]
 refine cO (h pins s σ H _ I hw) λu s1 ⟨x,H1,I1,r1,q1⟩=>?_
 obtain⟨i,rfl,q⟩:=q1
 obtain⟨t,rfl⟩:=r1
 exact⟨some i,H1,I1,.int i t,q⟩
def MZ(X:Cx)(r:V->Option Int->Option Int->Hp->VK->Prop):Prop :=
 ∀(pins:List (Addr×Obj))(s:Shared)(σ:St)(H:Hp)(x:V)(v vl vu:Value)(lo hi:Option Int)(sl:Addr)(Q:VK),Inv X pins σ H s->RelV x v->s.heap.IsSliceOf sl vl vu .none->IsPart vl lo->IsPart vu hi->r x lo hi H Q->∃T id,typeLookup (.type T) "__getitem__"=pure (some (.builtin id))/\s.TypeIs v T/\wpAny (model X.prog X.w) X.A (getItem v (.ref sl)) (EP X pins σ Q) X.xe s
def Ye(r:V->Option Int->Option Int->Hp->VK->Prop)(te:TE)(tl th:TO):TE:=λσ H Q=>te σ H λx H1=>tl σ H1 λl H2=>th σ H2 λu H3=>r x l u H3 Q
theorem mj{r:V->Option Int->Option Int->Hp->VK->Prop}(hr:MZ X r)(he:PE X e te)(hl:PO X lo tl)(hu:PO X hi th):PE X (.Subscript e (.Slice lo hi none p2) pos) (Ye r te tl th):=by
 intro pins s σ H Q I h
 refine Subscript_ (cO (he pins s σ H _ I h) λv s1 ⟨x,H1,I1,r1,q1⟩=>?_)
 refine wpAny_Slice (cO (hl pins s1 σ H1 _ I1 q1) λvl s2 ⟨l,H2,I2,pl,q2⟩=>cO (hu pins s2 σ H2 _ I2 q2) λvu s3 ⟨u,H3,I3,pu,q3⟩=>?_)
 rw[evalPart_none]
 refine aak ?_
 have I4:Inv X pins σ H3 {s3 with heap:=s3.heap.push {cls:=.type "slice",data:=.fields #[vl,vu,.none]}}:=I3.kept (t':=s3.toks) λb ob q=>aan _ q
 obtain⟨T,id,hT,ht,hg⟩:=hr pins {s3 with heap:=s3.heap.push {cls:=.type "slice",data:=.fields #[vl,vu,.none]}} σ H3 x v vl vu l u s3.heap.objs.size Q I4 r1 (Heap.IsSliceOf.new ..) pl pu q3
 show wpAny (model X.prog X.w) X.A (subscriptTail e (.Slice lo hi none p2) v (.ref s3.heap.objs.size)) (EP X pins σ Q) X.xe {s3 with heap:=s3.heap.push {cls:=.type "slice",data:=.fields #[vl,vu,.none]}}
 exact tail_any (ops:=[.ref s3.heap.objs.size,v]) ht hT hg (by with_unfolding_all rfl)
def vv(xs:List V)(lo hi:Option Int):List V:=(xs.drop (HT.gk xs.length 0 lo)).take (HT.gk xs.length xs.length hi-HT.gk xs.length 0 lo)
theorem tD(xs:List V)(lo hi:Option Int):(vv xs lo hi).length<=xs.length:=by
 unfold vv
 rw[aaQ,List.length_drop]
 omega
def NX(K:W.Frag):V->Option Int->Option Int->Hp->VK->Prop:=λx lo hi H Q=>∃a xs,x=.ref a/\aK K H a xs/\¬(HT.gk xs.length 0 lo=0/\HT.gk xs.length xs.length hi=xs.length)/\∀p,H p=none->Q (.ref p) (upd H p (.tup (vv xs lo hi)))
theorem Lo:MZ X (NX X.K):=by
 intro pins s σ H x v vl vu lo hi sl Q I rx hs pl pu h
 obtain⟨a,xs,rfl,hx,hw,q⟩:=h
 cases rx
 obtain⟨its,r,ht,hz⟩:=I.tuple hx
 have hlen:its.toArray.size=xs.length:=by rw[aap];exact r.length.symm
 refine⟨"tuple",_,PyProof.Rows.slot_tuple_getitem.lookup,ht.typeIs,?_⟩
 refine HT.pU ht hs pl pu (by rw[hlen];exact hw) ?_ (by rw[hlen];exact hz)
 rw[hlen]
 refine⟨.ref s.heap.objs.size,_,I.laid (t':=s.toks) (o:=.tup (vv xs lo hi)) (λb ob q=>aan _ q) (aaj _) ?_,rfl,q _ (I.hok.fresh (aaj _))⟩
 exact⟨aao (tD xs lo hi) hz,_,(r.drop (HT.gk xs.length 0 lo)).take (HT.gk xs.length xs.length hi-HT.gk xs.length 0 lo),IsTup.new _ _⟩
def NY(K:W.Frag):R2:=λx y H Q=>∃a b xs ys,x=.ref a/\y=.ref b/\aK K H a xs/\aK K H b ys/\xs≠[]/\xs.length+ys.length<=sizeLine/\(ys=[]->Q (.ref a) H)/\(ys≠[]->∀p,H p=none->Q (.ref p) (upd H p (.tup (xs++ys))))
theorem Vals.vf{xs:List V}{us:List Value}(r:Vals xs us):us=[]↔xs=[]:=by
 cases r with
 |nil=>simp
 |cons _ _=>simp
theorem IP:kg X (binaryOp .Add) (NY X.K):=by
 intro pins s σ H x y v u Q I rx ry h
 obtain⟨a,b,xs,ys,rfl,rfl,ha,hb,hx,hz,q1,q2⟩:=h
 cases rx
 cases ry
 obtain⟨its,r1,p1,_⟩:=I.tuple ha
 obtain⟨its2,r2,p2,_⟩:=I.tuple hb
 refine HT.IK p1 p2 (λz=>hx (r1.vf.mp z)) (λz=>⟨.ref a,H,I,rfl,q1 (r2.vf.mp z)⟩) (λz=>?_) (by rw[←r1.length,←r2.length];exact hz)
 refine⟨.ref s.heap.objs.size,_,I.laid (t':=s.toks) (o:=.tup (xs++ys)) (λb ob q=>aan _ q) (aaj _) ?_,rfl,q2 (λw=>z (r2.vf.mpr w)) _ (I.hok.fresh (aaj _))⟩
 exact⟨by rw[aav];exact hz,_,r1.append r2,IsTup.new _ _⟩
end
def M0(n:Nat)(i:Int):Option Nat:=if 0<=i then (if i<n then some i.toNat else none) else if -(n:Int)<=i then some (i+n).toNat else none
def Gp{α:Type}(xs:List α)(i:Int):Option α:=(M0 xs.length i).bind λj=>xs[j]?
theorem IQ{n:Nat}{i:Int}{j:Nat}(h:M0 n i=some j):seqIndex? i n=some j/\j<n/\-(n:Int)<=i/\i<n:=by
 unfold M0 at h
 by_cases h0:0<=i
 ·rw[aai h0]at h
  by_cases h1:i<n
  ·rw[aai h1]at h
   have e:i.toNat=j:=aaC h
   exact⟨by rw[seqIndex_of h0 h1,e],by omega,by omega,h1⟩
  ·rw[aah h1]at h;cases h
 ·rw[aah h0]at h
  by_cases h1 : -(n:Int)<=i
  ·rw[aai h1]at h
   have e:(i+n).toNat=j:=aaC h
   exact⟨by rw[seqIndex_neg (by omega) h1,e],by omega,h1,by omega⟩
  ·rw[aah h1]at h;cases h
theorem zb{α:Type}{xs:List α}{i:Int}{v:α}(h:Gp xs i=some v):∃j,seqIndex? i xs.length=some j/\xs[j]?=some v/\j<xs.length/\-(xs.length:Int)<=i/\i<xs.length:=by
 unfold Gp at h
 cases e:M0 xs.length i with
 |none=>rw[e]at h;cases h
 |some j =>
  rw[e]at h
  obtain⟨h1,h2,h3,h4⟩:=IQ e
  exact⟨j,h1,h,h2,h3,h4⟩
theorem pX{α:Type}{xs:List α}{j:Nat}{v:α}(h:xs[j]?=some v):Gp xs (j:Int)=some v:=by
 have hj:j<xs.length:=(aal.mp h).1
 have e:M0 xs.length (j:Int)=some j:=by
  unfold M0
  rw[aai (by omega),aai (by omega)];simp
 unfold Gp;rw[e];exact h
def zc(b:Expr):Prop:=∀o i,subscripted b false o i=operate [o,i] (getItem o i)
def M3(X:Cx)(r:R2):Prop :=
 ∀(value slice:Expr)(pins:List (Addr×Obj))(s:Shared)(σ:St)(H:Hp)(x y:V)(v u:Value)(Q:VK),Inv X pins σ H s->RelV x v->RelV y u->r x y H Q->subscripted slice false v u=operate [v,u] (getItem v u)->wpAny (model X.prog X.w) X.A (subscriptTail value slice v u) (EP X pins σ Q) X.xe s
def Lp(X:Cx)(id:String)(r:V->List V->Hp->VK->Prop):Prop :=
 ∀(pins:List (Addr×Obj))(s:Shared)(σ:St)(H:Hp)(x:V)(xs:List V)(v:Value)(us:List Value)(Q:VK),Inv X pins σ H s->RelV x v->Vals xs us->r x xs H Q->wpAny (model X.prog X.w) X.A (call (.builtin id) (v::us)) (EP X pins σ Q) X.xe s
section
variable{X:Cx}{a b:Expr}{ta tb:TE}{pos:Pos}
theorem Gq{r:R2}(hr:M3 X r)(ha:PE X a ta)(hb:PE X b tb)(hs:zc b):PE X (.Subscript a b pos) (Kw r ta tb):=by
 intro pins s σ H Q I h
 exact Subscript_ (Li ha hb I h λv u s2 x y H2 I2 rx ry q=>hr a b pins s2 σ H2 x y v u Q I2 rx ry q (hs _ _))
def Lq(K:W.Frag):R2:=λx y H Q=>∃p xs i v,x=.ref p/\y=.int i/\bW K H p xs/\Gp xs i=some v/\Q v H
def Lr(K:W.Frag):R2:=λx y H Q=>∃p xs i v,x=.ref p/\y=.int i/\aK K H p xs/\Gp xs i=some v/\Q v H
def Ri:R2:=λx y H Q=>∃z i c,x=.str z/\y=.int i/\z.length<=sizeLine/\Gp z.cps.toList i=some c/\Q (.str ⟨#[c]⟩) H
theorem IS:M3 X (Lq X.K):=by
 intro value slice pins s σ H x y v u Q I rx ry h hs
 obtain⟨p,xs,i,z,rfl,rfl,hq,he,q⟩:=h
 cases rx
 obtain⟨t,rfl⟩:=ry
 obtain⟨its,r,pl,hz⟩:=I.list hq
 obtain⟨j,h1,h2,h3,h4,h5⟩:=zb he
 obtain⟨w,ew,rw'⟩:=r.get h2
 have hl:=r.length
 have hn:=vp
 have fin:EP X pins σ Q w s:=⟨z,H,I,rw',q⟩
 by_cases h0:0<=i
 ·have hj:i.toNat=j:=by
   rw[seqIndex_of h0 h5]at h1
   exact aaC h1
  exact item_listR pl.isList h0 (by omega) (by rw[hj];simpa using ew) fin hs
 ·have hj:(i+(its.toArray.size:Int)).toNat=j:=by
   rw[seqIndex_neg (by omega) h4]at h1
   rw[aap,←hl]
   exact aaC h1
  exact subscriptTail_builtinR (x:=w) pl.isList.typeIs slot_list_getitem.lookup
   (wpAny_getItem_list_neg (Q:=λr s'=>r=w/\EP X pins σ Q r s') pl.isList (by omega) (by rw[aap]<;>omega) (by omega) (by rw[hj];simpa using ew) ⟨rfl,fin⟩) hs
theorem Lu:M3 X (Lr X.K):=by
 intro value slice pins s σ H x y v u Q I rx ry h hs
 obtain⟨p,xs,i,z,rfl,rfl,hq,he,q⟩:=h
 cases rx
 obtain⟨t,rfl⟩:=ry
 obtain⟨its,r,pl,hz⟩:=I.tuple hq
 obtain⟨j,h1,h2,h3,h4,h5⟩:=zb he
 obtain⟨w,ew,rw'⟩:=r.get h2
 have hl:=r.length
 have hn:=vp
 have fin:EP X pins σ Q w s:=⟨z,H,I,rw',q⟩
 exact subscriptTail_builtinR (x:=w) pl.typeIs slot_tuple_getitem.lookup
  (getItem_tuple (j:=j) (Q:=λr s'=>r=w/\EP X pins σ Q r s') pl (by omega) (by omega) (by rw[aap,←hl];exact h1) (by simpa using ew) ⟨rfl,fin⟩) hs
theorem Lv:M3 X Ri:=by
 intro value slice pins s σ H x y v u Q I rx ry h hs
 obtain⟨z,i,c,rfl,rfl,hz,he,q⟩:=h
 obtain⟨t,rfl⟩:=rx
 obtain⟨t',rfl⟩:=ry
 obtain⟨j,h1,h2,h3,h4,h5⟩:=zb he
 have hl:z.cps.toList.length=z.length:=by simp[Str.length]
 rw[hl]at h1 h4 h5
 have hn:=vp
 exact tail_any (typeIs_str s z t) slot_str_getitem.lookup (getItem_str (c:=c) (by
  have e1:decide (i < -(2 ^ 63:Int))=false:=aas (by omega)
  have e2:decide (i>=2 ^ 63)=false:=aas (by omega)
  rw[e1,e2,Bool.or_false]) (by rw[h1];simpa using h2) ⟨.str ⟨#[c]⟩,H,I.tok _,⟨_,rfl⟩,q⟩) hs
theorem Inv.lst{pins:List (Addr×Obj)}{σ:St}{H:Hp}{s:Shared}{p:Addr}{xs:List V}(I:Inv X pins σ H s)(h:H p=some (.lst xs)):∃(its:List Value)(n:Nat),Vals xs its/\s.heap.get? p=some {cls:=.type "list",data:=.seq its.toArray n}/\xs.length<=sizeLine:=by
 obtain⟨z,its,n,r,e⟩:=I.hok p _ h
 exact⟨its,n,r,e,z⟩
theorem zd(lo hi:Option Int)(n:Nat):(sliceBounds lo hi none n).1=((HT.gk n 0 lo:Nat):Int)/\(sliceBounds lo hi none n).2.1=((HT.gk n n hi:Nat):Int)/\(sliceBounds lo hi none n).2.2=1:=by
 refine⟨?_,?_,O⟩
 ·cases lo with
  |none=>simp[sliceBounds,HT.gk]
  |some i =>
   simp only[sliceBounds,HT.gk,Option.getD_none,show(1:Int)>0 by decide,if_true]
   by_cases h:i<0
   ·simp only[h,if_true]<;>omega
   ·simp only[h,aaW]<;>omega
 ·cases hi with
  |none=>simp[sliceBounds,HT.gk]
  |some i =>
   simp only[sliceBounds,HT.gk,Option.getD_none,show(1:Int)>0 by decide,if_true]
   by_cases h:i<0
   ·simp only[h,if_true]<;>omega
   ·simp only[h,aaW]<;>omega
theorem w6(its:List Value)(lo hi:Option Int):slicePick its.toArray lo hi none=((its.drop (HT.gk its.length 0 lo)).take (HT.gk its.length its.length hi-HT.gk its.length 0 lo)).toArray:=by
 obtain⟨h1,h2,h3⟩:=zd lo hi its.toArray.size
 unfold slicePick
 rw[h1,h2,h3]
 simp only[sliceRange_one,pick_run,aap]<;>rfl
def NZ(K:W.Frag):V->Option Int->Option Int->Hp->VK->Prop:=λx lo hi H Q=>∃a xs,x=.ref a/\bW K H a xs/\∀p,H p=none->Q (.ref p) (upd H p (.lst (vv xs lo hi)))
theorem IT:MZ X (NZ X.K):=by
 intro pins s σ H x v vl vu lo hi sl Q I rx hs pl pu h
 obtain⟨a,xs,rfl,hx,q⟩:=h
 cases rx
 obtain⟨its,r,ht,hz⟩:=I.list hx
 have hlen:=r.length
 refine⟨"list",_,slot_list_getitem.lookup,ht.isList.typeIs,?_⟩
 refine wpAny_getItem_list_slice ht.isList hs pl pu .none (by simp) ?_ (by rw[aap]<;>omega)
 rw[w6,←hlen]
 refine⟨.ref s.heap.objs.size,_,I.laid (t':=s.toks) (o:=.lst (vv xs lo hi)) (λb ob q=>aan _ q) (aaj _) ?_,rfl,q _ (I.hok.fresh (aaj _))⟩
 exact⟨aao (tD xs lo hi) hz,_,0,(r.drop (HT.gk xs.length 0 lo)).take (HT.gk xs.length xs.length hi-HT.gk xs.length 0 lo),aay _ rfl⟩
def fN:V->Bool
 | .non=>true
 | .bl _=>true
 | .int _=>true
 | .str _=>true
 |_=>false
def zf:V->V->Bool
 | .non,.non=>true
 | .bl a,.bl b=>a==b
 | .bl a,.int b=>(if a then 1 else 0)==b
 | .int a,.bl b=>a==(if b then 1 else 0)
 | .int a,.int b=>a==b
 | .str a,.str b=>a==b
 |_,_=>false
theorem Gr{A:Around}{s:Shared}{y x:V}{u v:Value}(ry:RelV y u)(rx:RelV x v)(fy:fN y=true)(fx:fN x=true):SeqAt.EqAt A s u v (zf y x):=by
 cases y with
 |non =>
  cases ry
  cases x with
  |non=>cases rx;exact SeqAt.EqAt.same _
  |bl b=>cases rx;exact SeqAt.EqAt.none_bool b
  |int b=>obtain⟨t,rfl⟩:=rx;exact SeqAt.EqAt.none_int b t
  |str b=>obtain⟨t,rfl⟩:=rx;exact SeqAt.EqAt.none_str b t
  |_=>exact absurd (show false=true from fx) aat
 |bl a =>
  cases ry
  cases x with
  |non=>cases rx;exact SeqAt.EqAt.bool_none a
  |bl b=>cases rx;exact SeqAt.EqAt.bool_bool a b
  |int b=>obtain⟨t,rfl⟩:=rx;exact SeqAt.EqAt.bool_int a b t
  |str b=>obtain⟨t,rfl⟩:=rx;exact SeqAt.EqAt.bool_str a b t
  |_=>exact absurd (show false=true from fx) aat
 |int a =>
  obtain⟨t',rfl⟩:=ry
  cases x with
  |non=>cases rx;exact SeqAt.EqAt.int_none a t'
  |bl b=>cases rx;exact SeqAt.EqAt.int_bool a t' b
  |int b=>obtain⟨t,rfl⟩:=rx;exact SeqAt.EqAt.int_int a t' b t
  |str b=>obtain⟨t,rfl⟩:=rx;exact SeqAt.EqAt.int_str a t' b t
  |_=>exact absurd (show false=true from fx) aat
 |str a =>
  obtain⟨t',rfl⟩:=ry
  cases x with
  |non=>cases rx;exact SeqAt.EqAt.str_none a t'
  |bl b=>cases rx;exact SeqAt.EqAt.str_bool a t' b
  |int b=>obtain⟨t,rfl⟩:=rx;exact SeqAt.EqAt.str_int a t' b t
  |str b=>obtain⟨t,rfl⟩:=rx;exact SeqAt.EqAt.str_str a t' b t
  |_=>exact absurd (show false=true from fx) aat
 |_=>exact absurd (show false=true from fy) aat
def Gs(x:V)(u:Value):Bool:=match u with
 | .none=>zf .non x
 | .bool b=>zf (.bl b) x
 | .int i _=>zf (.int i) x
 | .str z _=>zf (.str z) x
 |_=>false
theorem zg{x y:V}{u:Value}(r:RelV y u)(f:fN y=true):Gs x u=zf y x:=by
 cases y with
 |non=>cases r;rfl
 |bl b=>cases r;rfl
 |int i=>obtain⟨t,rfl⟩:=r;rfl
 |str z=>obtain⟨t,rfl⟩:=r;rfl
 |_=>exact absurd (show false=true from f) aat
theorem zh{x:V}:∀{xs:List V}{us:List Value},Vals xs us->xs.all fN=true->us.any (Gs x)=xs.any λy=>zf y x
 |_,_,.nil,_=>rfl
 |y::xs,u::us,.cons r t,f=>by
  rw[List.all_cons,abo]at f
  rw[abx,abx,zg r f.1,zh t f.2]
theorem vz{A:Around}{s:Shared}{x:V}{v:Value}(rx:RelV x v)(fx:fN x=true):∀{xs:List V}{us:List Value},Vals xs us->xs.all fN=true->∀u∈us,SeqAt.EqAt A s u v (Gs x u)
 |_,_,.nil,_=>λu hu=>by cases hu
 |y::xs,u::us,.cons r t,f=>λu' hu=>by
  rw[List.all_cons,abo]at f
  rcases aaE.mp hu with rfl|hu
  ·rw[zg r f.1];exact Gr r rx f.1 fx
  ·exact vz rx fx t f.2 u' hu
def N1(x:V)(xs:List V):Bool:=xs.any λy=>zf y x
def Wl(K:W.Frag)(neg:Bool):R2:=λx y H Q=>∃p xs,y=.ref p/\(bW K H p xs\/aK K H p xs)/\fN x=true/\xs.all fN=true/\Q (.bl (if neg then !N1 x xs else N1 x xs)) H
theorem EF:kg X (compareOp .In) (Wl X.K false):=by
 intro pins s σ H x y v u Q I rx ry h
 obtain⟨p,xs,rfl,hq,fx,fs,q⟩:=h
 cases ry
 rcases hq with hq|hq
 ·obtain⟨its,r,pl,hz⟩:=I.list hq
  refine SeqAt.in_listAt (Gs x) pl.isList (λw hw=>vz rx fx r fs w (by simpa using hw)) ⟨.bl _,H,I,rfl,?_⟩
  rw[show its.toArray.any (Gs x)=its.any (Gs x) by simp,zh r fs]
  exact q
 ·obtain⟨its,r,pl,hz⟩:=I.tuple hq
  refine SeqAt.in_tupleAt (Gs x) pl (λw hw=>vz rx fx r fs w (by simpa using hw)) ⟨.bl _,H,I,rfl,?_⟩
  rw[show its.toArray.any (Gs x)=its.any (Gs x) by simp,zh r fs]
  exact q
theorem dZ:kg X (compareOp .NotIn) (λx y H Q=>∃i j,x=.str i/\y=.str j/\Q (.bl (!(!(Builtin.Str.occurrences j i 0 j.length 1).isEmpty))) H):=by
 intro pins s σ H x y v u Q I rx ry h
 obtain⟨i,j,rfl,rfl,q⟩:=h
 obtain⟨t,rfl⟩:=rx
 obtain⟨t',rfl⟩:=ry
 exact notIn_str ⟨.bl _,H,I,rfl,q⟩
theorem zj:fM X (.builtin "len") (λxs H Q=>∃p ys,xs=[.ref p]/\(bW X.K H p ys\/aK X.K H p ys)/\Q (.int ys.length) H):=by
 intro pins s σ H xs us Q I r h
 obtain⟨p,ys,rfl,hq,q⟩:=h
 obtain⟨u,rfl,rx⟩:=vals1 r
 cases rx
 have hn:=vp
 rcases hq with hq|hq
 ·obtain⟨its,r',pl,hz⟩:=I.list hq
  have hlen:=r'.length
  exact Calls.call_len_list pl.isList (by simp only[aap]<;>omega) ⟨.int ys.length,H,I.tok _,⟨s.toks+1,by rw[aap,hlen]⟩,q⟩
 ·obtain⟨its,r',pl,hz⟩:=I.tuple hq
  have hlen:=r'.length
  exact len_tuple pl (by simp only[aap]<;>omega) ⟨.int ys.length,H,I.tok _,⟨s.toks+1,by rw[aap,hlen]⟩,q⟩
theorem fO:fM X (.builtin "len") (λxs H Q=>∃z,xs=[.str z]/\z.length<=sizeLine/\Q (.int z.length) H):=by
 intro pins s σ H xs us Q I r h
 obtain⟨z,rfl,hz,q⟩:=h
 obtain⟨u,rfl,t,rfl⟩:=vals1 r
 have hn:=vp
 exact len_str (by omega) ⟨.int z.length,H,I.tok _,⟨_,rfl⟩,q⟩
theorem zk:fM X (.type "list") (λxs H Q=>∃p ys,xs=[.ref p]/\(bW X.K H p ys\/aK X.K H p ys)/\∀l,H l=none->Q (.ref l) (upd H l (.lst ys))):=by
 intro pins s σ H xs us Q I r h
 obtain⟨p,ys,rfl,hq,q⟩:=h
 obtain⟨u,rfl,rx⟩:=vals1 r
 cases rx
 have fin:∀(its:List Value),Vals ys its->ys.length<=sizeLine->∀(h':Heap)(c':Nat),(∀b o',s.heap.get? b=some o'->h'.get? b=some o')->h'.get? s.heap.objs.size=some {cls:=.type "list",dict:=none,data:=.seq its.toArray c',slots:=#[]}->EP X pins σ Q (.ref s.heap.objs.size) {s with heap:=h'}:=λits r' hz h' c' kp e =>
  ⟨.ref s.heap.objs.size,_,I.laid (t':=s.toks) kp (aaj _) (show cM X.prog X.w _ h' _ (.lst ys) from⟨hz,its,c',r',e⟩),rfl,q _ (I.hok.fresh (aaj _))⟩
 rcases hq with hq|hq
 ·obtain⟨its,r',pl,hz⟩:=I.list hq
  have hlen:=r'.length
  obtain⟨o,ho,hc,n,hd⟩:=pl.isList
  exact call_list_seq p (.inl rfl) ho hc hd (λh' c' kp e=>fin its r' hz h' c' kp e) (by simp only[aap]<;>omega)
 ·obtain⟨its,r',pl,hz⟩:=I.tuple hq
  have hlen:=r'.length
  obtain⟨o,ho,hc,n,hd⟩:=pl
  exact call_list_seq p (.inr rfl) ho hc hd (λh' c' kp e=>fin its r' hz h' c' kp e) (by simp only[aap]<;>omega)
theorem xg:fM X (.type "tuple") (λxs H Q=>∃p ys,xs=[.ref p]/\((bW X.K H p ys/\∀l,H l=none->Q (.ref l) (upd H l (.tup ys)))\/(aK X.K H p ys/\Q (.ref p) H))):=by
 intro pins s σ H xs us Q I r h
 obtain⟨p,ys,rfl,h⟩:=h
 obtain⟨u,rfl,rx⟩:=vals1 r
 cases rx
 rcases h with ⟨hq,q⟩|⟨hq,q⟩
 ·obtain⟨its,r',pl,hz⟩:=I.list hq
  have hlen:=r'.length
  refine call_tuple_list pl.isList (λh' kp=>?_) (by simp only[aap]<;>omega)
  have I1:Inv X pins σ H {s with heap:=h'}:=I.kept (t':=s.toks) kp
  have I2:Inv X pins σ (upd H h'.objs.size (.tup ys)) {s with heap:=h'.push {cls:=.type "tuple",data:=.seq its.toArray}} :=
   I1.laid (t':=s.toks) (λb o e=>aan _ e) (aaj _) (show cM X.prog X.w _ _ _ (.tup ys) from⟨hz,its,r',IsTup.new _ _⟩)
  exact⟨.ref h'.objs.size,_,I2,O,q _ (I1.hok.fresh (aaj _))⟩
 ·obtain⟨its,r',pl,hz⟩:=I.tuple hq
  exact call_tuple_same pl ⟨.ref p,H,I,rfl,q⟩
def Rj(K:W.Frag)(T:String)(x:V)(H:Hp):Prop:=match x with
 | .str _=>T="str"
 | .int _=>T="int"
 | .ref p=>(T="list"/\∃xs,bW K H p xs)\/(T="tuple"/\∃o,K.lookup p=some o/\o.cls=.type "tuple"/\o.dict=none)\/
   (T="dict"/\((∃kvs,H p=some (.dK kvs))\/∃kvs,H p=some (.dT kvs)))\/(T="set"/\∃S n,H p=some (.set S n))
 |_=>False
theorem zm{pins:List (Addr×Obj)}{σ:St}{H:Hp}{s:Shared}{T:String}{x:V}{v:Value}(I:Inv X pins σ H s)(r:RelV x v)(ty:Rj X.K T x H):s.TypeIs v T/\∀a,v=.ref a->∃ob,s.heap.get? a=some ob/\ob.dict=none:=by
 cases x with
 |str z =>
  obtain⟨t,rfl⟩:=r
  cases(show T="str" from ty)
  exact⟨typeIs_str s z t,λ_ e=>nomatch e⟩
 |int i =>
  obtain⟨t,rfl⟩:=r
  cases(show T="int" from ty)
  exact⟨typeIs_int s i t,λ_ e=>nomatch e⟩
 |ref p =>
  cases r
  rcases ty with ⟨rfl,xs,hq⟩|⟨rfl,o,hk,hc,hd⟩|⟨rfl,hk⟩|⟨rfl,S,n,hk⟩
  ·obtain⟨its,_,pl,_⟩:=I.list hq
   refine⟨pl.isList.typeIs,λa e=>?_⟩
   cases e
   obtain⟨o,n,e,c,hd,_⟩:=pl
   exact⟨o,e,hd⟩
  ·refine⟨⟨o,I.pR p o hk,hc⟩,λa e=>?_⟩
   cases e
   exact⟨o,I.pR _ o hk,hd⟩
  ·have z:∃o,s.heap.get? p=some o/\o.ExactDict:=by
    rcases hk with ⟨kvs,hk⟩|⟨kvs,hk⟩
    ·obtain⟨_,_,_,_,o,_,_,e,ex,_⟩:=I.hok p _ hk
     exact⟨o,e,ex⟩
    ·obtain⟨_,_,_,_,o,_,_,e,ex,_⟩:=I.hok p _ hk
     exact⟨o,e,ex⟩
   obtain⟨o,e,ex⟩:=z
   refine⟨⟨o,e,ex.1⟩,λa e2=>?_⟩
   cases e2
   exact⟨o,e,ex.2.1⟩
  ·obtain⟨o,_,_,_,e,ex,_⟩:=I.hok p _ hk
   refine⟨⟨o,e,ex.1⟩,λa e2=>?_⟩
   cases e2
   exact⟨o,e,ex.2.1⟩
 |_=>exact False.elim ty
def N2(K:W.Frag)(T:String)(r:V->List V->Hp->VK->Prop)(to:TE):TE:=λσ H Q=>to σ H λx H1=>Rj K T x H1/\r x [] H1 Q
def Wm(K:W.Frag)(T:String)(r:V->List V->Hp->VK->Prop)(to:TE)(t:TA):TE:=λσ H Q=>to σ H λx H1=>Rj K T x H1/\t σ H1 λxs H2=>r x xs H2 Q
variable{o e:Expr}{es:List Expr}{to:TE}{t:TA}{name:Str}{apos cpos:Pos}{T id:String}{r:V->List V->Hp->VK->Prop}
theorem Lw(pa:PlainAttrs T)(slot:Slot T name id)(hty:typeOf (.builtin id)=pure (.type "method_descriptor"))(hm:Lp X id r)(ho:PE X o to)(hbase:attributeBase o name X.env (eval o X.env)=eval o X.env:=by rfl)(hline:(apos.endLine==cpos.line)=true:=by rfl):PE X (.Call (.Attribute o name apos) [] [] cpos) (N2 X.K T r to):=by
 intro pins s σ H Q I h
 refine wpAny_Call_method0_late hbase hline (cO (ho pins s σ H _ I h) λv s1 ⟨x,H1,I1,r1,ty,q1⟩=>?_)
 obtain⟨h1,h2⟩:=zm I1 r1 ty
 exact⟨T,id,pa,slot,hty,h1,h2,Calls.callWith_builtin rfl (PySem.evalArgs_none (hm pins s1 σ H1 x [] v [] Q I1 r1 .nil q1))⟩
theorem N4(pa:PlainAttrs T)(slot:Slot T name id)(hty:typeOf (.builtin id)=pure (.type "method_descriptor"))(hm:Lp X id r)(ho:PE X o to)(ha:PA X (e::es) t)(hbase:attributeBase o name X.env (eval o X.env)=eval o X.env:=by rfl)(hfew:((backTo cpos (starEach (e::es) X.env)).all (λx=>!x.1)&&(backToKw cpos (keywordEach [] X.env)).all (λx=>x.1.isSome)
   && decide ((e::es).length+([]:List Keyword).length+(if ([]:List Keyword).isEmpty then 0 else 1)<30))=true:=by rfl)(hline:(apos.endLine==cpos.line)=true:=by rfl)(hs:starEach (e::es) X.env=(false,eval e X.env)::starEach es X.env:=by rfl)(hplain:(backTo cpos (starEach es X.env)).any (·.1)=false:=by rfl):PE X (.Call (.Attribute o name apos) (e::es) [] cpos) (Wm X.K T r to t):=by
 intro pins s σ H Q I h
 refine wpAny_Call_method_late hbase hfew hline rfl (cO (ho pins s σ H _ I h) λv s1 ⟨x,H1,I1,r1,ty,q1⟩=>?_)
 obtain⟨h1,h2⟩:=zm I1 r1 ty
 refine⟨T,id,pa,slot,hty,h1,h2,?_⟩
 have hA:=ha cpos pins s1 σ H1 _ I1 q1
 rw[hs]at hA⊢
 refine Calls.callWith_builtin (by show(false||(backTo cpos (starEach es X.env)).any (·.1))=false;rw[hplain]<;>rfl) (Calls.evalArgs_plain ?_)
 exact cO hA λus s2 ⟨vs,H2,I2,r2,q2⟩=>hm pins s2 σ H2 x vs v us Q I2 r1 r2 q2
end
def Qn(X:Cx)(id:String)(r:V->List V->Hp->VK->Prop):Prop :=
 ∀(pins:List (Addr×Obj))(s:Shared)(σ:St)(H:Hp)(x:V)(xs:List V)(v:Value)(us:List Value)(Q:VK),Inv X pins σ H s->RelV x v->Vals xs us->r x xs H Q->wpAny (model X.prog X.w) X.A (call (.builtin id) (v::us)) (EP X pins σ Q) X.xe s
theorem Vals.one:∀{x:V}{us:List Value},Vals [x] us->∃u,us=[u]/\RelV x u
 |_,_,.cons r .nil=>⟨_,rfl,r⟩
theorem Vals.zero:∀{us:List Value},Vals [] us->us=[]
 |_,.nil=>rfl
theorem Vals.dropLast{xs:List V}{us:List Value}(h:Vals xs us):Vals xs.dropLast us.dropLast:=by
 induction h with
 |nil=>exact .nil
 |cons r t ih =>
  cases t with
  |nil=>exact .nil
  |cons q t'=>exact .cons r ih
theorem Vals.reverse{xs:List V}{us:List Value}(h:Vals xs us):Vals xs.reverse us.reverse:=by
 induction h with
 |nil=>exact .nil
 |cons r t ih=>rw[List.reverse_cons,List.reverse_cons];exact Vals.append ih (.cons r .nil)
theorem Cv{α:Type}(l:List α):l.eraseIdx (l.length-1)=l.dropLast:=by
 induction l with
 |nil=>rfl
 |cons a r ih =>
  cases r with
  |nil=>rfl
  |cons b r =>
   have e:(a::b::r).length-1=((b::r).length-1)+1:=by
    have h1:(a::b::r).length=r.length+2:=rfl
    have h2:(b::r).length=r.length+1:=rfl
    omega
   rw[e,List.eraseIdx_cons_succ,ih]
   all_goals rfl
section
variable{X:Cx}{pins:List (Addr×Obj)}{σ:St}{H:Hp}{s:Shared}{l b:Addr}{xs ys zs:List V}
theorem Inv.IU{its its':List Value}{n:Nat}{f:Array Value->Array Value}{t':Nat}(I:Inv X pins σ H s)(hH:H l=some (.lst xs))(e:s.heap.get? l=some {cls:=.type "list",data:=.seq its.toArray n})(hf:f its.toArray=its'.toArray)(hv:Vals ys its')(hz:ys.length<=sizeLine):Inv X pins σ (upd H l (.lst ys)) {s with heap:=s.heap.update l (Obj.mapSeq f),toks:=t'}:=by
 have q:=PySem.IsL.update e f
 rw[hf]at q
 refine I.write (x:=l) (e:=l) (by rw[hH];exact trivial) (.inl rfl) (λb' u hb hu=>(Heap.get?_update_other s.heap (Obj.mapSeq f) (Ne.symm hb)).trans hu) ⟨_,q⟩ ?_
 exact⟨hz,its',_,hv,q⟩
theorem Inv.Rk{its:List Value}{t':Nat}(I:Inv X pins σ H s)(hv:Vals ys its)(hz:ys.length<=sizeLine):Inv X pins σ (upd H s.heap.objs.size (.lst ys)) {s with heap:=s.heap.push {cls:=.type "list",data:=.seq its.toArray},toks:=t'} :=
 I.laid (λ_ _ q=>aan _ q) (aaj _) ⟨hz,its,0,hv,aay _ rfl⟩
theorem Inv.fresh(I:Inv X pins σ H s):H s.heap.objs.size=none:=I.hok.fresh (aaj _)
theorem Inv.Gu(I:Inv X pins σ H s)(hH:H l=some (.lst xs)):xs.length<=sizeLine/\∃(its:List Value)(n:Nat),Vals xs its/\xs.length=its.length/\s.heap.get? l=some {cls:=.type "list",data:=.seq its.toArray n}:=by
 obtain⟨z,its,n,r,e⟩:=I.hok l _ hH
 exact⟨z,its,n,r,r.length,e⟩
theorem Gv{n:Nat}(h:n<=sizeLine):Builtin.List.listTooLong n=false:=by
 unfold Builtin.List.listTooLong
 exact aas (by omega)
end
section
variable{X:Cx}
def IV:V->List V->Hp->VK->Prop:=λx vs H Q=>∃l xs y,x=.ref l/\vs=[y]/\H l=some (.lst xs)/\xs.length<sizeLine/\Q .non (upd H l (.lst (xs++[y])))
theorem jN:Qn X "list.append" IV:=by
 intro pins s σ H x vs v us Q I rx rv h
 obtain⟨l,xs,y,rfl,rfl,hH,hz,q⟩:=h
 cases rx
 obtain⟨u,rfl,ru⟩:=rv.one
 obtain⟨z,its,n,r,hl,e⟩:=I.Gu hH
 refine call_meets F.slot_list_append ⟨_,e,rfl⟩ F.entry_list_append (F.args_list_append_2 _ _) (PySem.list_append l its.toArray n u (by rw[aap];omega)) ⟨e,?_⟩
 refine⟨.non,_,I.IU (its':=its++[u]) hH e (by simp) (r.append (.cons ru .nil)) ?_,rfl,q⟩
 rw[aav,List.length_singleton]
 omega
def IW:V->List V->Hp->VK->Prop:=λx vs H Q=>∃l b xs zs,x=.ref l/\vs=[.ref b]/\H l=some (.lst xs)/\H b=some (.lst zs)/\xs.length+zs.length<=sizeLine/\Q .non (upd H l (.lst (xs++zs)))
theorem EG:Qn X "list.extend" IW:=by
 intro pins s σ H x vs v us Q I rx rv h
 obtain⟨l,b,xs,zs,rfl,rfl,hH,hB,hz,q⟩:=h
 cases rx
 obtain⟨u,rfl,ru⟩:=rv.one
 cases ru
 obtain⟨z,its,n,r,hl,e⟩:=I.Gu hH
 obtain⟨z2,its2,n2,r2,hl2,e2⟩:=I.Gu hB
 have hsz:its.toArray.size+its2.toArray.size<=sizeLine:=by rw[aap,aap];omega
 have N5:¬(!its.toArray.isEmpty&&Builtin.List.listTooLong (its.toArray.size+its2.toArray.size))=true:=by
  rw[Gv hsz,Bool.and_false]
  exact aat
 refine call_meets F.slot_list_extend ⟨_,e,rfl⟩ F.entry_list_extend (F.args_list_extend_2 _ _)
  (AutoSeq1.list_extend_list_list_0 l its.toArray n b its2.toArray n2 N5 (by rw[aap];omega) (by omega)) ⟨e,e2,?_⟩
 refine⟨.non,_,I.IU (its':=its++its2) hH e (by simp) (r.append r2) ?_,rfl,q⟩
 rw[aav]
 omega
def Rl:V->List V->Hp->VK->Prop:=λx vs H Q=>∃l xs y,x=.ref l/\vs=[]/\H l=some (.lst xs)/\xs[xs.length-1]?=some y/\Q y (upd H l (.lst xs.dropLast))
theorem Lx:Qn X "list.pop" Rl:=by
 intro pins s σ H x vs v us Q I rx rv h
 obtain⟨l,xs,y,rfl,rfl,hH,hy,q⟩:=h
 cases rx
 have Rm:=rv.zero
 subst Rm
 obtain⟨z,its,n,r,hl,e⟩:=I.Gu hH
 obtain⟨u,hu,ru⟩:=r.get hy
 have hy':its.toArray[its.toArray.size-1]?=some u:=by
  show its.toArray[its.length-1]?=some u
  rw[←Array.getElem?_toList,←hl]
  exact hu
 refine call_meets F.slot_list_pop ⟨_,e,rfl⟩ F.entry_list_pop (F.args_list_pop_1 _) (MeetsSeq.list_pop_last l its.toArray n u hy' (by rw[aap];omega)) ⟨e,?_⟩
 refine⟨y,_,I.IU (its':=its.dropLast) hH e ?_ r.dropLast ?_,ru,q⟩
 ·show its.toArray.eraseIdxIfInBounds (its.toArray.size-1)=its.dropLast.toArray
  rw[aap,List.eraseIdxIfInBounds_toArray,Cv]
 ·rw[List.length_dropLast]
  omega
def Gw:V->List V->Hp->VK->Prop:=λx vs H Q=>∃l xs,x=.ref l/\vs=[]/\H l=some (.lst xs)/\Q .non (upd H l (.lst xs.reverse))
theorem Cw:Qn X "list.reverse" Gw:=by
 intro pins s σ H x vs v us Q I rx rv h
 obtain⟨l,xs,rfl,rfl,hH,q⟩:=h
 cases rx
 have Rm:=rv.zero
 subst Rm
 obtain⟨z,its,n,r,hl,e⟩:=I.Gu hH
 refine call_meets F.slot_list_reverse ⟨_,e,rfl⟩ F.entry_list_reverse (F.args_list_reverse_1 _) (AutoSeq1.list_reverse_list_0 l its.toArray n (by rw[aap];omega)) ⟨e,?_⟩
 refine⟨.non,_,I.IU (its':=its.reverse) hH e (by simp) r.reverse ?_,rfl,q⟩
 rw[abE]
 omega
end
section
variable{prog:Program}{w:World}{A:Around}{E:Value->Shared->Prop}{s:Shared}
set_option maxRecDepth 100000 in
end
section
variable{X:Cx}
end
end L2
namespace Att
open PySem PySem.W PySem.Calls PyProof.Rows
theorem uc{P:Params}{h:Heap}:∀(ns:List Int)(vs:List Value),WellAll P h vs (ns.map WData.int)->IntsAre vs ns:=by
 intro ns
 induction ns with
 |nil =>
  intro vs w
  rw[List.map_nil]at w
  cases w
  exact .nil
 |cons n ns ih =>
  intro vs w
  rw[aaX]at w
  cases w with
  |cons a b =>
   cases a
   exact .cons _ _ (ih _ b)
theorem EH{l:OpenLaw}{n:Nat}(hn:l.most=some n){P:Params}{h:Heap}{args:List WData}{vals:List Value}(hpre:l.row.toRowW.claim.pre args=true)(hwl:WellAll P h vals args):∃a vs ns,vals=[Value.ref a]/\args=[WData.list (ns.map WData.int)]/\h.get? a=some {cls:=.type "list",data:=.seq vs.toArray}/\IntsAre vs ns/\ns.length<=n:=by
 have hsh:WShape.hasAll [] args [.list .int]=true:=(pre_splitW hpre).1
 have hc:l.pre.holds [] {args:=args}=true:=(pre_splitW hpre).2
 obtain⟨d,r,rfl,h1,h2⟩:=hasAllW_cons hsh
 obtain rfl:=hasAllW_nil h2
 obtain⟨xs,rfl,h3⟩:=hasW_list h1
 obtain⟨ns,rfl⟩:=items_int h3
 have hlen:ns.length<=n:=by
  unfold OpenLaw.pre at hc
  have h4:(WTm.not (.lt (.lit (.int (n:Int))) (.len (.arg 0)))).holds [] {args:=[.list (ns.map .int)]}=true:=by
   have h4:=(holds_andW hc).1
   rw[hn]at h4
   exact h4
  have h5:=condW_of h4 (w_not (w_lt w_lit (w_len_list (w_arg rfl))))
  rw[aaq]at h5
  refine Nat.le_of_not_lt λq=>?_
  have q':(n:Int)<((ns.length:Nat):Int):=by omega
  first
   | (rw[aar q']at h5;exact absurd h5 (by decide))
   | (simp at h5;omega)
 cases hwl with
 |cons w1 w2 =>
  cases w2
  cases w1 with
  |list ho hall=>exact⟨_,_,ns,rfl,rfl,ho,uc ns _ hall,hlen⟩
theorem EI(l:OpenLaw)(args:List WData):l.row.toRowW.claim.post args (.bool true) args=true :=
 postW_of (r:=l.row.toRowW) (X:=(true==true))
  (show WShape.has [] (.bool true) .bool=true by first|rfl|decide|simp[WShape.has,WShape.arms,WShape.armsAll])
  (show(WTm.eq .res (.lit (.bool true))).value [] {args:=args,res:=some (.bool true),after:=args}=some (.bool (true==true)) from w_eq_bool (w_res rfl) w_lit) rfl
theorem A1{l:OpenLaw}{n:Nat}{q:Program}{loose:List Str}{XP:(Str->Option Value)->Heap->Prop}{YP:World->Heap->Prop}{d:DefRec}(hn:l.most=some n)(hdf:d.params.defaults=[])(call:∀(w:World)(s₀ s₁:Shared)(mg mb:Str->Option Value)(fa:Addr)(o:Obj)(pm cd doc:Value)(a:Addr)(vs:List Value)(ns:List Int),Ground q loose [] XP w s₀ mg mb s₁.heap->YP w s₁.heap->s₁.heap.get? fa=some o->o.data=.func (docDef d.name d.params d.body d.scope pm cd doc)->s₁.heap.CodeRec cd d.name->mg d.name=some (.ref fa)->s₁.heap.get? a=some {cls:=.type "list",data:=.seq vs.toArray}->IntsAre vs ns->ns.length<=n->s₁.gens = #[]->codeAny (model l.prog w) callerA (.call (.ref fa) ⟨[.ref a],[]⟩) (λr s'=>r=.ok (.ret (.bool true))/\OldK s₁.heap s'.heap/\s'.os=s₁.os/\AllBare s'.gens) s₁):WalkO q loose XP YP l.row.toRowW d [] (λf vs=>PySem.call f vs):=by
 intro w s₀ s₁ mg mb G Y fa o pm cd doc dV kV ho hd hcd hD hmg hg args vals as hpre hlay hrd hwl hlo
 obtain rfl:dV=.none:=Dflts.none hD hdf
 obtain rfl:kV=.none:=Dflts.noKw hD
 obtain⟨a,vs,ns,rfl,rfl,hobj,hints,hlen⟩:=EH hn hpre hwl
 refine enter_call (codeAny_mono (call w s₀ s₁ mg mb fa o pm cd doc a vs ns G Y ho (fd_plain hd) hcd hmg hobj hints hlen hg) λr s' hq=>?_)
 obtain⟨rfl,h2,h3,h4⟩:=hq
 exact⟨.inl ⟨.bool true,.bool true,[],rfl,λ_=>rfl,.bool true,EI l _,λ_=>⟨List.Pairwise.nil,λ_ hm=>(nomatch hm)⟩⟩,h2,h3,h4⟩
section
variable{prog:Program}{w:World}{A:Around}{E:Value->Shared->Prop}{s:Shared}{K:Frag}
end
end Att
namespace L2
open PySem PySem.Spec PyProof.Rows
theorem yp:∀{vs:List Value}{ns:List Int},IntsAre vs ns->Vals (ns.map V.int) vs
 |_,_,.nil=>.nil
 |_,_,.cons n t h=>.cons ⟨t,rfl⟩ (yp h)
def Ly(H:Hp):Prop:=∀b,H b=none\/∃o xs,H b=some (.Cf o (.lst xs))
theorem Gx{P:Program}{w:World}{K:W.Frag}{mg mb:Str->Option Value}{CX:FA}{k:Nat}{fa a:Addr}{fd:FuncData}{x:Str}{sp:Sp}{s₁:Shared}{vs:List Value}{ns:List Int}(KX:K.In s₁.heap)(hns:s₁.heap.Ns mainGlobals mg)(hb:s₁.heap.Ns builtinsNs mb)(Yg:∀x:Str,x ≠ "__name__"->mb x=bootBuiltins x)(hlim:s₁.heap.NoLimit)(hg:s₁.gens = #[])(ha:s₁.heap.get? a=some {cls:=.type "list",data:=.seq vs.toArray})(hi:IntsAre vs ns)(hl:ns.length<=sizeLine)(hr:fc k callerA)(F:∀base:Heap,K.In base->base.Ns mainGlobals mg->bw P w K mg base CX k fa fd [x] sp)(hbind:∀(s:Shared)(u:Value),BindsTo s fd ⟨[u],[]⟩ [(x,u)])(Io:∀H:Hp,Ly H->bW K H a (ns.map V.int)->sp [.ref a] H (λv _=>v=.bl true) λ_ _ _=>False)(Rn:∀H e s',CX [] H s₁ (λ_ _ _=>False) e s'->False):codeAny (model P w) callerA (.call (.ref fa) ⟨[.ref a],[]⟩) (λr s'=>r=.ok (.ret (.bool true))/\OldK s₁.heap s'.heap/\s'.os=s₁.os/\AllBare s'.gens) s₁:=by
 have rv:=yp hi
 have Ro:=hi.length
 have core:∀H:Hp,Ly H->bW K H a (ns.map V.int)->sX P w H s₁.heap->(∀b,H b≠none->b=a)->(H a≠none->K.lookup a=none)->codeAny (model P w) callerA (.call (.ref fa) ⟨[.ref a],[]⟩) (λr s'=>r=.ok (.ret (.bool true))/\OldK s₁.heap s'.heap/\s'.os=s₁.os/\AllBare s'.gens) s₁:=by
  intro H hO hS hok hA hK
  have DV:∀{b:Addr}{o:Obj},s₁.heap.get? b=some o->H b=none->(yW s₁.heap H).get? b=some o:=λe n=>FP e n
  have NV:∀{b:Addr}{o:Obj}{es:Array DictEntry}{ep:Nat},s₁.heap.get? b=some o->o.data=.dict es ep->H b=none:=λ{b o es ep} e d=>by
   cases q:H b with
   |none=>rfl
   |some u =>
    have e':b=a:=hA b (by rw[q];simp)
    subst e'
    rw[ha]at e;cases e
    have d':Data.seq vs.toArray _=Data.dict es ep:=d
    cases d'
  have Qo:∀{b:Addr}{m:Str->Option Value},s₁.heap.Ns b m->(yW s₁.heap H).Ns b m:=λ{b m} ⟨o,es,ep,e,d,r⟩=>⟨o,es,ep,DV e (NV e d),d,r⟩
  have Wn:K.In (yW s₁.heap H):=λb o e=>DV (KX b o e) (by
   cases q:H b with
   |none=>rfl
   |some u =>
    have e':b=a:=hA b (by rw[q];simp)
    subst e'
    rw[hK (by rw[q];simp)]at e;cases e)
  have hM:Mod K mg (yW s₁.heap H):=⟨Wn,Qo hns,⟨mb,Qo hb,Yg⟩,let ⟨mc,h1,h2⟩:=hlim;⟨mc,Qo h1,h2⟩⟩
  have e0:Cq P w K mg (yW s₁.heap H) callerA [] s₁ H:=⟨rfl,hM,λb o e=>Iw e,Nat.le_of_eq (Eu _ _),trivial,λb hb=>absurd (show b∈([]:List Addr) from hb) (by simp),hok,.of_eq hg⟩
  refine codeAny_mono ((F _ Wn (Qo hns)).run callerA [] s₁ H ⟨[.ref a],[]⟩ [.ref a] [.ref a] _ _ hr e0 (hbind s₁ (.ref a)) (.cons rfl .nil) (Io H hO hS)) λr s' h=>?_
  cases r with
  |error e=>exact(Rn H e s' h).elim
  |ok fl =>
   cases fl with
   |next=>exact False.elim h
   |brk=>exact False.elim h
   |cont=>exact False.elim h
   |ret u =>
    obtain⟨v,H',os,bare,un,Rp,r',q⟩:=h
    have q':v=.bl true:=q
    subst q'
    obtain rfl:u=Value.bool true:=r'
    refine⟨O,OldK.of_keep λb o e=>?_,os,bare⟩
    cases q:H b with
    |none=>exact un.keep b o e q (by intro z;exact absurd (show b∈([]:List Addr) from z) (by simp)) (by simp)
    |some u =>
     rcases hO b with z|⟨ob,xs,z⟩
     ·rw[q]at z;cases z
     ·have z2:=un.yV b ob _ z
      obtain⟨e1,_⟩:=hok b _ z
      obtain⟨e2,_⟩:=Rp b _ z2
      rw[e]at e1;cases e1
      exact e2
 cases hk:K.lookup a with
 |some o =>
  have e:=KX a o hk
  rw[ha]at e
  cases e
  refine core (λ_=>none) (λ_=>.inl rfl) (.inr ⟨_,vs.toArray,_,hk,rfl,rfl,rfl,by rw[aap,Ro];exact hl,by simpa using rv⟩) (λb u z=>by have z':(none:Option HO)=some u:=z;cases z') (λb z=>absurd rfl z) λz=>absurd rfl z
 |none =>
  refine core (λb=>if b=a then some (.Cf {cls:=.type "list",data:=.seq vs.toArray} (.lst (ns.map V.int))) else none) (λb=>?_) (.inl (.inr ⟨{cls:=.type "list",data:=.seq vs.toArray},aai rfl⟩)) (λb u z=>?_) (λb z=>?_) λ_=>hk
  ·by_cases hb:b=a
   ·exact .inr ⟨_,_,aai hb⟩
   ·exact .inl (aah hb)
  ·by_cases hb:b=a
   ·have z':=(aai hb).symm.trans z
    cases z'
    subst hb
    exact⟨ha,by rw[aaq];exact hl,vs,_,rv,ha⟩
   ·have z':=(aah hb).symm.trans z
    cases z'
  ·by_cases hb:b=a
   ·exact hb
   ·exact absurd (aah hb) z
theorem IX{l:W.OpenLaw}{n k:Nat}{q:Program}{loose:List Str}{XP:(Str->Option Value)->Heap->Prop}{YP:World->Heap->Prop}{d:DefRec}{K:Params->W.Frag}{CX:World->FA}{sp:World->Sp}{x:Str}(hn:l.most=some n)(hn2:n<=sizeLine)(hdf:d.params.defaults=[])(hr:fc k callerA)(hY:∀(w:World)(h:Heap),YP w h->(K w.params).In h)(F:∀(w:World)(mg:Str->Option Value)(fa:Addr)(h:Heap),(K w.params).In h->h.Ns mainGlobals mg->mg d.name=some (.ref fa)->∃fd:FuncData,(∀(s:Shared)(u:Value),BindsTo s fd ⟨[u],[]⟩ [(x,u)])/\∀base:Heap,(K w.params).In base->base.Ns mainGlobals mg->bw l.prog w (K w.params) mg base (CX w) k fa fd [x] (sp w))(Io:∀(w:World)(H:Hp)(a:Addr)(ns:List Int),ns.length<=n->Ly H->bW (K w.params) H a (ns.map V.int)->sp w [.ref a] H (λv _=>v=.bl true) λ_ _ _=>False)(Rn:∀(w:World)(H:Hp)(s:Shared)(e:Value)(s':Shared),CX w [] H s (λ_ _ _=>False) e s'->False):W.WalkO q loose XP YP l.row.toRowW d [] (λf vs=>PySem.call f vs):=by
 refine Att.A1 hn hdf λw s₀ s₁ mg mb fa o pm cd doc a vs ns G Y ho hd hcd hmg hobj hints hlen hg=>?_
 have KX:=hY w _ Y
 obtain⟨fd,hb,hF⟩:=F w mg fa _ KX G.T.g hmg
 exact Gx KX G.T.g G.T.b G.T.builtins G.T.nolimit hg hobj hints (aao hlen hn2) hr hF hb (λH hO hS=>Io w H a ns hlen hO hS) λH e s'=>Rn w H s₁ e s'
def inClass(s:Stmt)(j:Nat):Stmt:=match s with
 | .ClassDef _ _ _ body _ _ _ _ _ _ _=>body.getD j (.Pass ⟨0,0,0,0⟩)
 |_=>.Pass ⟨0,0,0,0⟩
def cD(s:Stmt):Arguments:=match s with
 | .FunctionDef _ a _ _ _ _ _ _ _ _=>a
 |_=>{posonlyargs:=[],args:=[],vararg:=none,kwonlyargs:=[],kw_defaults:=[],kwarg:=none,defaults:=[]}
def bX(s:Stmt):List Stmt:=match s with
 | .FunctionDef _ _ b _ _ _ _ _ _ _=>b
 |_=>[]
def ay(s:Stmt):Scope:=match s with
 | .FunctionDef _ _ _ _ _ _ sc _ _ _=>sc
 |_=>{kind:=.function,names:=[],isGenerator:=false,isCoroutine:=false}
abbrev fJ:FA:=λ_ _ _ _ _ _=>False
abbrev E0:XK:=λ_ _ _=>False
theorem fE{X:Cx}:Passes fJ X E0:=λ_ _ _ _ _ _ _ h=>h.elim
structure ff(K:W.Frag)(x qual:Str)(st:Stmt)(f:Addr)(fd:FuncData):Prop where
 ex:∃(oc:Value)(od:Option Addr)(kV doc pm:Value)(an:Option Addr)(cdv ct:Value)(osl:Array (Option Value)),fd=W.fnOf x qual (cD st) (bX st) (ay st) .none kV doc pm an cdv ct/\K.lookup f=some ⟨oc,od,.func fd,osl⟩/\W.codeIn K cdv qual=true
 kp:W.keepIn K (.ref f)=true
section
variable{P:Program}{w:World}{K:W.Frag}{mg:Str->Option Value}{base:Heap}
theorem ff.ok{x qual:Str}{st:Stmt}{f:Addr}{fd:FuncData}{N ps:List Str}{k:Nat}{sp:Sp}(F:ff K x qual st f fd)(S:aE N ps (ay st))(len:∀vs H Q E,sp vs H Q E->vs.length=ps.length)(hbody:∀(cdv:Value)(A:Around)(outer:List Env)(s:Shared)(H:Hp)(vs:List V)(Q:VK)(E:XK),fc k (A.deeper (envOfC qual (ay st) s.heap.objs.size f cdv))->sp vs H Q E->∃t,DK (Cs fJ P w K mg base N qual (ay st) f cdv A outer s H E).MV (bX st) t/\t {nx:=λ_ H'=>Q .non H',rt:=Q} (start N vs) H):bw P w K mg base fJ (k+1) f fd ps sp:=by
 obtain⟨oc,od,kV,doc,pm,an,cdv,ct,osl,rfl,lk,hcd⟩:=F.ex
 refine KH lk hcd S len λA outer s H vs Q E hr Io=>?_
 obtain⟨t,h,q⟩:=hbody cdv A outer s H vs Q E hr Io
 exact⟨t,h.MV,q⟩
theorem ff.binds{x qual:Str}{st:Stmt}{f:Addr}{fd:FuncData}{ps:List Str}(F:ff K x qual st f fd)(h:∀(kV doc pm:Value)(an:Option Addr)(cdv ct:Value)(us:List Value),us.length=ps.length->bindArgs (W.fnOf x qual (cD st) (bX st) (ay st) .none kV doc pm an cdv ct) ⟨us,[]⟩=pure (ps.zip us)):Binds K fd ps []:=by
 obtain⟨oc,od,kV,doc,pm,an,cdv,ct,osl,rfl,lk,hcd⟩:=F.ex
 exact .all (h kV doc pm an cdv ct)
theorem Gy{x qual:Str}{st:Stmt}{f:Addr}{oc:Value}{od an:Option Addr}{osl:Array (Option Value)}{kV doc pm cdv ct:Value}(l:K.lookup f=some ⟨oc,od,.func (W.fnOf x qual (cD st) (bX st) (ay st) .none kV doc pm an cdv ct),osl⟩)(c:W.codeIn K cdv qual=true)(k:W.keepIn K (.ref f)=true):ff K x qual st f (W.fnOf x qual (cD st) (bX st) (ay st) .none kV doc pm an cdv ct):=⟨⟨oc,od,kV,doc,pm,an,cdv,ct,osl,rfl,l,c⟩,k⟩
end
theorem aU{A:Around}{k:Nat}(hr:fc k A):A.units+1<cLine:=aaI (Nat.add_le_add_left (by decide:1<=64) _) hr.units
section
variable{X:Cx}
theorem pv(i:Nat){x:Str}{pos:Pos}(hN:X.N[i]?=some x:=by rfl)(hv:QY X.env.scope x:=by first|exact Or.inl rfl|exact Or.inr (Or.inl rfl)|exact Or.inr (Or.inr rfl))(hd:(x==("__debug__":Str))=false:=by decide)(hcd:(x==("__classdict__":Str))=false:=by decide):PE X (.Name x pos) (Nz i):=K9 hN hv hd hcd
end
theorem bM{A B:Prop}(h:B):if false=true then A else B:=by
 rw[aah aat]
 exact h
theorem jO{A B:Prop}(h:A):if true=true then A else B:=by
 rw[aai rfl]
 exact h
theorem aX{c A B:Prop}[Decidable c](h1:c->A)(h2:¬c->B):if c then A else B:=by
 by_cases h:c
 ·rw[aai h]
  exact h1 h
 ·rw[aah h]
  exact h2 h
theorem N6{c A B:Prop}[Decidable c](hc:c)(h:B):if (!decide c)=true then A else B:=by
 rw[aar hc]
 exact bM h
def aF(H H':Hp):Prop:=∀b o,H b=some o->H' b=some o
theorem aF.refl(H:Hp):aF H H:=λ_ _ h=>h
theorem aF.trans{H H1 H2:Hp}(a:aF H H1)(b:aF H1 H2):aF H H2:=λc o h=>b c o (a c o h)
theorem aF.free{H H':Hp}(e:aF H H'){l:Addr}(h:H' l=Option.none):H l=Option.none:=by
 cases q:H l with
 |none=>rfl
 |some o =>
  rw[e l o q]at h
  cases h
theorem aF.seq{K:W.Frag}{H H':Hp}{a:Addr}{xs:List V}(e:aF H H')(h:bW K H a xs):bW K H' a xs:=by
 rcases h with (h|⟨o,h⟩)|h
 ·exact .inl (.inl (e _ _ h))
 ·exact .inl (.inr ⟨o,e _ _ h⟩)
 ·exact .inr h
end L2
set_option maxHeartbeats 4000000
namespace L2
open PySem PySem.Spec PyProof.Rows
def gv(env:Env):List (Str×NameKind)->List (Str×Addr)->List (Str×Addr)
 |[],cs=>cs
 | (n,k)::r,cs=>gv env r (if k==.free then (n,(env.cells.lookup n).getD 0)::cs else cs)
theorem oj{scope:Scope}{env:Env}(h:∀n,(n,NameKind.free)∈scope.names->∃c,env.cells.lookup n=some c):closureFor scope env=pure (gv env scope.names []):=by
 simp only[closureFor]
 have key:∀(l:List (Str×NameKind))(cs:List (Str×Addr)),(∀n,(n,NameKind.free)∈l->∃c,env.cells.lookup n=some c)->(forIn l cs (λx r=>if (x.2==NameKind.free)=true then (cellOf env x.1 >>= λa=>pure (ForInStep.yield ((x.1,a)::r))) else pure (ForInStep.yield r)):Sem (List (Str×Addr)))=pure (gv env l cs):=by
  intro l
  induction l with
  |nil=>intro cs _;rfl
  |cons x l ih =>
   intro cs hl
   obtain⟨n,k⟩:=x
   have hl':∀n,(n,NameKind.free)∈l->∃c,env.cells.lookup n=some c:=λn hn=>hl n (aaw _ hn)
   rw[List.forIn_cons]
   by_cases hk:k=.free
   ·subst hk
    obtain⟨c,hc⟩:=hl n aaA
    have e1:cellOf env n=pure c:=by unfold cellOf;rw[hc]
    simp only[beq_self_eq_true,if_true,e1,pure_bind]
    rw[ih _ hl']
    simp only[gv,beq_self_eq_true,if_true,hc,Option.getD_some]
   ·have hb:(k==NameKind.free)=false:=by simpa using hk
    simp only[hb,aaD,aaW,pure_bind]
    rw[ih _ hl']
    simp only[gv,hb,aaD,aaW]
 exact(congrArg (λz=>z >>= λr=>pure r) (key scope.names [] h)).trans rfl
theorem oR{env:Env}:∀(l:List (Str×NameKind))(cs:List (Str×Addr)),(∀n,(n,NameKind.free)∈l->∃c,env.cells.lookup n=some c)->(∀x c,cs.lookup x=some c->env.cells.lookup x=some c)->∀x c,(gv env l cs).lookup x=some c->env.cells.lookup x=some c
 |[],cs,_,h,x,c,e=>h x c e
 | (n,k)::r,cs,hl,h,x,c,e=>by
  refine oR r _ (λn hn=>hl n (aaw _ hn)) ?_ x c e
  intro y d hy
  by_cases hk:(k==NameKind.free)=true
  ·rw[aai hk]at hy
   have hk':k=.free:=by simpa using hk
   subst hk'
   obtain⟨c',hc'⟩:=hl n aaA
   rw[hc',Option.getD_some,abp]at hy
   cases Rq:y==n with
   |true =>
    rw[Rq]at hy
    have:y=n:=by simpa using Rq
    subst this
    rw[hc'];exact hy
   |false=>rw[Rq]at hy;exact h y d hy
  ·rw[aah hk]at hy;exact h y d hy
theorem mq{env:Env}:∀(l:List (Str×NameKind))(cs:List (Str×Addr))(x:Str),((x,NameKind.free)∈l\/∃c,cs.lookup x=some c)->∃c,(gv env l cs).lookup x=some c
 |[],cs,x,h=>by
  rcases h with h|h
  ·cases h
  ·exact h
 | (n,k)::r,cs,x,h=>by
  refine mq r _ x ?_
  rcases h with h|⟨c,h⟩
  ·rcases aaE.mp h with e|h
   ·cases e
    refine .inr ⟨(env.cells.lookup n).getD 0,?_⟩
    simp[abp]
   ·exact .inl h
  ·right
   by_cases hk:(k==NameKind.free)=true
   ·rw[aai hk,abp]
    cases x==n with
    |true=>exact⟨_,rfl⟩
    |false=>exact⟨c,h⟩
   ·rw[aah hk];exact⟨c,h⟩
theorem iK{env:Env}(x:Str):∀(names:List (Str×NameKind)),(names.map λ(n,k)=>if (k==NameKind.free&&env.scope.kind==.function&&env.kindOf n==some .cell) then (n,NameKind.cell) else (n,k)).lookup x =
   (names.lookup x).map λk=>if (k==NameKind.free&&env.scope.kind==.function&&env.kindOf x==some .cell) then NameKind.cell else k
 |[]=>rfl
 | (n,k)::r=>by
  have ih:=iK (env:=env) x r
  show List.lookup x ((if (k==NameKind.free&&env.scope.kind==.function&&env.kindOf n==some .cell)=true then (n,NameKind.cell) else (n,k))::_)=_
  cases hx:x==n with
  |true =>
   have e:x=n:=by simpa using hx
   subst e
   by_cases hc:(k==NameKind.free&&env.scope.kind==.function&&env.kindOf x==some .cell)=true
   ·rw[aai hc];simp only[abp,beq_self_eq_true,abF,aai hc]
   ·rw[aah hc];simp only[abp,beq_self_eq_true,abF,aah hc]
  |false =>
   by_cases hc:(k==NameKind.free&&env.scope.kind==.function&&env.kindOf n==some .cell)=true
   ·rw[aai hc];simp only[abp,hx];exact ih
   ·rw[aah hc];simp only[abp,hx];exact ih
structure bP(XN:List Str)(M4:Scope)(N:List Str)(nv:Nat)(js:List Nat)(scope:Scope):Prop where
 kind:scope.kind=.function
 cell:∀y∈scope.names,y.2≠.cell
 loc:∀y∈scope.names,y.2=.local->scope.names.lookup y.1=some .local
 free:∀y∈scope.names,y.2=.free->(M4.names.lookup y.1=some .cell\/M4.names.lookup y.1=some .free)
 nd:N.Nodup
 len:N.length=nv+js.length
 pl:js.map (λj=>XN[j]?)=(N.drop nv).map some
 fr:∀x∈N.drop nv,scope.names.lookup x=some .free
abbrev iL(X:Cx)(N:List Str)(scope:Scope)(C:Addr)(s:Shared)(H:Hp)(fp:List Addr):Cx where
 prog:=X.prog
 w:=X.w
 K:=X.K
 mg:=X.mg
 base:=X.base
 A:=X.A
 N:=N
 s₀:=s
 H₀:=H
 env:=compEnvC scope (gv X.env scope.names []) C X.env
 outer:=X.stack
 stack:=X.stack
 ex:=fp
 fn:=λ_=>false
 calm:=X.calm
 pn:=[]
 xe:=λ_ _=>False
def qY(nv:Nat)(js:List Nat)(σ:St):St:=List.replicate nv none++js.map λj=>(σ[j]?).getD none
section
variable{X:Cx}{pins:List (Addr×Obj)}{σ:St}{H:Hp}{s:Shared}
theorem Cy{N:List Str}{nv:Nat}{js:List Nat}{scope:Scope}{fp:List Addr}{h1:Heap}{tk:Nat}(I:Inv X pins σ H s)(S:bP X.N X.env.scope N nv js scope)(hf:∀b∈fp,vn X pins H b)(hfl:∀b∈fp,b<s.heap.objs.size)(keep:∀b o,s.heap.get? b=some o->h1.get? b=some o)(ns:h1.Ns s.heap.objs.size λ_=>none):Inv (iL X N scope s.heap.objs.size s H fp) [] (qY nv js σ) H {s with heap:=h1,toks:=tk}:=by
 have hfr:∀n,(n,NameKind.free)∈scope.names->∃c,X.env.cells.lookup n=some c:=λn hn=>I.ok.has n (S.free _ hn rfl)
 have sub:∀x c,(gv X.env scope.names []).lookup x=some c->X.env.cells.lookup x=some c:=oR scope.names [] hfr (λx c z=>by cases z)
 have Lz:∀x,scope.names.lookup x≠some .cell:=λx z=>S.cell _ (aaZ z) rfl
 have Rr:∀x,(relabel scope X.env).names.lookup x=some .cell\/(relabel scope X.env).names.lookup x=some .free->scope.names.lookup x=some .free:=by
  intro x hx
  have e:=iK (env:=X.env) x scope.names
  have hx':(relabel scope X.env).names.lookup x=_:=e
  rw[hx']at hx
  cases q:scope.names.lookup x with
  |none=>rw[q]at hx;rcases hx with hx|hx<;>cases hx
  |some k =>
   rw[q,abF]at hx
   cases k<;>first|rfl | (exact absurd q (Lz x)) | (exfalso;rcases hx with hx|hx<;>simp at hx)
 refine⟨⟨I.ok.mod,S.kind,I.ok.glob,I.ok.blt,aaj _,λx y c h1 h2=>I.ok.inj x y c (sub _ _ h1) (sub _ _ h2),λx hx=>?_,λx c z=>(by cases z),I.ok.hd,I.ok.frames,.inl rfl,λb hb=>?_,λb o e=>?_,?_,λb o e hb=>?_,λb hb z=>?_,I.stack,I.DI⟩,O,I.bare,Un.kept keep,⟨_,ns,λi x v e1 e2 e3=>?_⟩,λx c e=>?_,I.hok.fresh (aaj _),λx c e=>I.oi x c (sub _ _ e),λp hp=>absurd (show p∈([]:List (Addr×Obj)) from hp) (by simp),I.hok.kept keep,?_⟩
 ·exact mq _ _ _ (.inl (aaZ (Rr x hx)))
 ·obtain⟨f0,f1,f2,f3,f4,f5⟩:=hf b hb
  exact⟨aaM (hfl b hb),λx c e=>f4 x c (sub x c e)⟩
 ·exact I.bs b o e
 ·exact aao I.ok.Im I.sz
 ·obtain⟨f0,f1,f2,f3,f4,f5⟩:=hf b hb
  rcases f3 with z|z
  ·exact I.ok.FT b o e z
  ·exact absurd (aaG (aax e) (aao I.ok.Im z)) (Nat.lt_irrefl _)
 ·obtain⟨f0,f1,f2,f3,f4,f5⟩:=hf b hb
  rcases aaE.mp (I.yX b z) with q|q
  ·exact f1 q
  ·exact f2 q
 ·
  have hi:¬i<nv:=λhlt=>by
   unfold qY at e2
   rw[List.getElem?_append_left (by simpa using hlt),List.getElem?_replicate,aai hlt]at e2
   cases e2
  obtain⟨k,rfl⟩:∃k,i=nv+k:=⟨i-nv,by omega⟩
  unfold qY at e2
  rw[List.getElem?_append_right (by simp),abg,Nat.add_sub_cancel_left,aby]at e2
  cases hj:js[k]? with
  |none=>rw[hj]at e2;cases e2
  |some j =>
   rw[hj,abF]at e2
   have LA:(σ[j]?).getD none=some v:=aaC e2
   have hσ:σ[j]?=some (some v):=by
    cases q:σ[j]? with
    |none=>rw[q]at LA;cases LA
    |some z=>rw[q]at LA;exact congrArg some LA
   have hd:(N.drop nv)[k]?=some x:=by rw[List.getElem?_drop];exact e1
   have hX:X.N[j]?=some x:=by
    have q:=congrArg (λl=>l[k]?) S.pl
    simp only[aby,hj,hd,abF]at q
    exact aaC q
   have hfx:=S.fr x (aaJ hd)
   have kx:=S.free _ (aaZ hfx) rfl
   obtain⟨m,_,hl⟩:=I.loc
   obtain⟨u,r,l⟩:=hl j x v hX hσ (.inr kx)
   refine⟨u,r,?_⟩
   rcases l with ⟨k1,_⟩|⟨_,c,hc,hcell⟩
   ·exfalso
    have Yh:X.env.scope.names.lookup x=some .local:=k1
    rcases kx with z|z<;>(rw[Yh]at z;cases z)
   ·obtain⟨c',hc'⟩:=mq (env:=X.env) scope.names [] x (.inl (aaZ hfx))
    have e:=sub _ _ hc'
    rw[hc]at e;cases e
    refine .inr ⟨?_,c,hc',hcell.keeps keep⟩
    have e:=iK (env:=X.env) x scope.names
    have e':(relabel scope X.env).names.lookup x=_:=e
    rw[hfx,abF]at e'
    show(relabel scope X.env).names.lookup x=some .cell\/(relabel scope X.env).names.lookup x=some .free
    rw[e']
    split
    ·exact .inl rfl
    ·exact .inr rfl
 ·obtain⟨v,q⟩:=I.cell x c (sub _ _ e)
  exact⟨v,q.keeps keep⟩
 ·unfold qY
  show _=N.length
  rw[aav,abg,aaq,S.len]
end
def EJ(X:Cx)(ifs:List Expr)(t:TT):Prop :=
 ∀(pins:List (Addr×Obj))(s:Shared)(σ:St)(H:Hp)(Q:Bool->Hp->Prop),Inv X pins σ H s->t σ H Q->wpAny (model X.prog X.w) X.A (forIn ifs true λc r=>if r=true then do let ok ←isTrue c X.env (eval c X.env);pure (ForInStep.yield ok) else pure (ForInStep.yield r)) (TP X pins σ Q) X.xe s
def N7:TT:=λ_ H Q=>Q true H
theorem ki{X:Cx}:EJ X [] N7:=λ_ _ _ H _ I h=>wpAny_tests_nil ⟨H,I,h⟩
theorem zo{X:Cx}{c:Expr}{t:TT}(h:PT X c t):EJ X [c] t:=λpins s σ H Q I q=>wpAny_tests_one (h pins s σ H Q I q)
def yq(J:It)(g:TG)(tt:TT)(te:TE)(Q:VK)(D:Addr)(τ:St)(H:Hp):Prop :=
 ∃W:Nat->Nat->List V->St->Hp->Prop,(∃m,W 0 m [] τ (upd H D (.lst [])))/\∀i m ys τ H,W i m ys τ H->H D=some (.lst ys)/\((J.stop i H/\Q (.ref D) H)\/(J.go i H/\∃N:List V->St->Hp->Prop,(∀zs σ' H',N zs σ' H'->∃m',m'<m/\W (i+1) m' zs σ' H')/\∀x H',J.Lg i H x H'->g x τ H' λτ2 H2=>tt τ2 H2 λb H3 =>
   if b=true then te τ2 H3 λy H4=>H4 D=some (.lst ys)/\ys.length<sizeLine/\N (ys++[y]) τ2 (upd H4 D (.lst (ys++[y])))
   else N ys τ2 H3))
def KI(wi:TI)(g:TG)(tt:TT)(te:TE)(nv:Nat)(js:List Nat):TE:=λσ H Q=>wi σ H λJ H1=>∀D,H1 D=none->yq J g tt te Q D (qY nv js σ) H1
theorem Cz{prog:Program}{w:World}{A:Around}{R:Result->Shared->Prop}{s:Shared}{elt target iter:Expr}{ifs:List Expr}{scope:Scope}{pos:Pos}{it acc:Value}{env:Env}(I:Nat->Shared->Prop)(turn:∀n s,I n s->wpAny (model prog w) A (pyNext it) (λr s₁=>match r with
   |none=>R (.ok .next) s₁
   |some v=>wpAny (model prog w) A (letOwnedTupleGo target it v) (λ_ s₁'=>wpAny (model prog w) A (assign target env v) (λ_ s₂ =>
     wpAny (model prog w) A (forIn ifs true λc r=>if r=true then do let ok ←isTrue c env (eval c env);pure (ForInStep.yield ok) else pure (ForInStep.yield r)) (λok s₃ =>
      if ok=true then wpAny (model prog w) A (eval elt env) (λx s₄ =>
       wpAny (model prog w) A (call (.builtin "list.append") [acc,x]) (λ_ s₅=>∃m,m<n/\I m s₅) (λ_ _=>False) s₄) (λ_ _=>False) s₃
      else ∃m,m<n/\I m s₃) (λ_ _=>False) s₂) (λ_ _=>False) s₁') (λ_ _=>False) s₁) (λ_ _=>False) s)(n:Nat)(h:I n s):codeAny (model prog w) A (.compLoop (.ListComp elt [⟨target,iter,ifs,0⟩] scope pos) 0 it acc env) R s:=by
 refine codeAny_loop rfl I (λn s hI=>?_) n h
 show wpAny _ A ((compTurn (.ListComp elt [⟨target,iter,ifs,0⟩] scope pos) 0 it acc env).onRaise (λx=>do noteFrame x env;theTreesLotGoes x)) _ _ s
 refine wpAny_noted (abb (E:=λ_ _=>False) ?_ (λ_ _ q=>q) λ_ _ q=>q.elim)
 rw[compTurn_list]
 refine aag (wpAny_standAt (aag (abb (turn n s hI) (λr s₁ h₁=>?_) λ_ _ h'=>h')))
 cases r with
 |none=>exact aak h₁
 |some v =>
  refine aag (abb h₁ (λ_ s₁' h₁'=>?_) λ_ _ h'=>h')
  refine aag (abb h₁' (λ_ s₂ h₂=>aag (abb h₂ (λok s₃ h₃=>?_) λ_ _ h'=>h')) λ_ _ h'=>h')
  cases ok with
  |false=>exact aak ⟨rfl,h₃⟩
  |true =>
   exact aag (aag (abb h₃ (λx s₄ h₄=>aag (abb h₄ (λ_ s₅ h₅=>aak (aak ⟨rfl,h₅⟩)) λ_ _ h'=>h')) λ_ _ h'=>h'))
section
variable{X:Cx}{elt tg iter:Expr}{ifs:List Expr}{scope:Scope}{pos:Pos}{N:List Str}{nv:Nat}{js:List Nat}{wi:TI}{g:TG}{tt:TT}{te:TE}
theorem vA{pins:List (Addr×Obj)}{σ:St}{H:Hp}{s:Shared}{Q:VK}{it:Addr}{fp:List Addr}{tn:Nat->Heap->Prop}{J:It}{E:Value->Shared->Prop}{RR:Value->Addr->Result->Shared->Prop}(hc:X.calm=true)(S:bP X.N X.env.scope N nv js scope)(hg:∀C s H fp,PG (iL X N scope C s H fp) tg g)(ht:∀C s H fp,EJ (iL X N scope C s H fp) ifs tt)(he:∀C s H fp,PE (iL X N scope C s H fp) elt te)(I:Inv X pins σ H s)(T:Turn X.prog X.w X.K tg J fp it tn)(st:tn 0 s.heap)(hf:∀b∈fp,vn X pins H b)(hR:∀D,H D=none->yq J g tt te Q D (qY nv js σ) H)(hRR:∀D C H' s' m,Inv X pins σ H' s'->vn X pins H' C->s'.heap.Ns C m->Q (.ref D) H'->RR (.ref D) C (.ok .next) s'):wpAny (model X.prog X.w) X.A (newList []) (λacc s₃=>wpAny (model X.prog X.w) X.A (newFunctionEnv scope X.env.globals (gv X.env scope.names []) [] X.env.qual none .none (some X.env)) (λcenv s₄ =>
   codeAny (model X.prog X.w) X.A (.compStart (.ListComp elt [⟨tg,iter,ifs,0⟩] scope pos) 0 (.ref it) acc {cenv with scope:=relabel scope X.env}) (RR acc cenv.locals) s₄) E s₃) E s:=by
 refine aaR (wpAny_newFunctionEnv S.cell (by intro y hy;simp at hy) (λh₁ Gz GA=>?_) S.kind)
 have I3:Inv X pins σ (upd H s.heap.objs.size (.lst [])) {s with heap:=s.heap.push {cls:=.type "list",data:=.seq ([]:List Value).toArray}}:=I.Rk (t':=s.toks) (its:=[]) .nil (aaK _)
 have hD:=I.fresh
 obtain⟨W,⟨m0,w0⟩,turn⟩:=hR s.heap.objs.size hD
 have ho:=T.obj 0 s.heap st
 have N8:∀b∈fp,b<s.heap.objs.size:=λb hb=>let ⟨o,e,_⟩:=ho b hb;aax e
 have LB:∀b∈fp,vn X pins (upd H s.heap.objs.size (.lst [])) b:=λb hb=>⟨by rw[aH (aaM (N8 b hb))];exact(hf b hb).1,(hf b hb).2⟩
 generalize M5:({s with heap:=s.heap.push {cls:=.type "list",data:=.seq ([]:List Value).toArray}}:Shared)=s3 at I3 Gz GA
 have e3:s3.heap=s.heap.push {cls:=.type "list",data:=.seq ([]:List Value).toArray}:=by rw[←M5]
 have hfl:∀b∈fp,b<s3.heap.objs.size:=λb hb=>by rw[e3,Heap.size_push];exact Nat.lt_succ_of_lt (N8 b hb)
 have keep:∀b o,s3.heap.get? b=some o->h₁.get? b=some o:=λb o e=>GA.extBut b o (aaM (aax e)) (aan _ e)
 have J0:=Cy (tk:=s3.toks+([]:List (Str×Value)).length) I3 S LB hfl keep Gz
 have st1:tn 0 h₁:=T.keep 0 s.heap h₁ st λb hb o e=>keep b o (by rw[e3];exact aan _ e)
 generalize hH3:upd H s.heap.objs.size (.lst [])=H3 at *
 generalize hY:iL X N scope s3.heap.objs.size s3 H3 fp=Y at *
 have sub:∀x c,(gv X.env scope.names []).lookup x=some c->X.env.cells.lookup x=some c :=
  oR scope.names [] (λn hn=>I.ok.has n (S.free _ hn rfl)) (λx c z=>by cases z)
 have Cj:∀{H':Hp},(∀b∈fp,H' b=none)->∀b∈fp,vn Y [] H' b:=λ{H'} hn b hb=>by
  subst hY
  obtain⟨f0,f1,f2,f3,f4,f5⟩:=LB b hb
  refine⟨hn b hb,aaM (hfl b hb),λz=>?_,.inl hb,λx c e=>f4 x c (sub x c e),λp hp=>absurd (show p∈([]:List (Addr×Obj)) from hp) (by simp)⟩
  rcases aaE.mp (I3.yX b z) with q|q
  ·exact f1 q
  ·exact f2 q
 have eA:Y.A=X.A:=by subst hY;rfl
 have eP:Y.prog=X.prog:=by subst hY;rfl
 have eW:Y.w=X.w:=by subst hY;rfl
 have eK:Y.K=X.K:=by subst hY;rfl
 have eC:Y.calm=true:=by subst hY;exact hc
 have eE:Y.env=compEnvC scope (gv X.env scope.names []) s3.heap.objs.size X.env:=by subst hY;rfl
 have Qp:Y.xe=λ_ _=>False:=by subst hY;rfl
 have Yi:PG Y tg g:=by subst hY;exact hg _ _ _ _
 have Yj:EJ Y ifs tt:=by subst hY;exact ht _ _ _ _
 have Yk:PE Y elt te:=by subst hY;exact he _ _ _ _
 have loop:codeAny (model X.prog X.w) X.A (.compLoop (.ListComp elt [⟨tg,iter,ifs,0⟩] scope pos) 0 (.ref it) (.ref s.heap.objs.size) (compEnvC scope (gv X.env scope.names []) s3.heap.objs.size X.env))
   (RR (.ref s.heap.objs.size) s3.heap.objs.size) {s3 with heap:=h₁,toks:=s3.toks+([]:List (Str×Value)).length}:=by
  refine Cz (λn s'=>∃i ys τ H',Inv Y [] τ H' s'/\tn i s'.heap/\(∀b∈fp,H' b=none)/\W i n ys τ H') ?_ m0 ⟨0,[],_,H3,J0,st1,λb hb=>(LB b hb).1,w0⟩
  rintro n s4 ⟨i,ys,τ,H4,I4,Wo,Wq,w4⟩
  obtain⟨hDl,tr⟩:=turn i n ys τ H4 w4
  rcases tr with ⟨stop,qn⟩|⟨go,Nn,Wr,step⟩
  ·have d:=T.done Y eP eW eK eC i [] s4 τ H4 (λ_ _=>False) I4 (Cj Wq) Wo stop
   rw[eA]at d
   refine cO d λr s5 ⟨hr,I5⟩=>?_
   subst hr
   have u:Inv X pins σ H4 s5:=by
    subst hY
    exact I3.Ny (ch:=fp) I5.os I5.base I5.hok I5.bare λb hb=>⟨(LB b hb).2.2.2.1,(LB b hb).2.1,(LB b hb).2.2.2.2.1,(LB b hb).2.2.2.2.2⟩
   have hC:H4 s3.heap.objs.size=none:=by have z:=I5.free;rw[eE]at z;exact z
   obtain⟨m,hn,_⟩:=I5.loc
   rw[eE]at hn
   exact hRR _ _ H4 s5 m u (I3.yZ (aaj _) hC) hn qn
  ·have d:=T.item Y eP eW eK eC i [] s4 τ H4 (λ_ _=>False) I4 (Cj Wq) Wo go
   rw[eA]at d
   refine cO d λr s5 ⟨u,hr,h5⟩=>?_
   subst hr
   refine cO h5 λ_ s6 ⟨x,H6,I6,r6,y6,Rt,Yl⟩=>?_
   have Ym:=I6.pinned (Cj Yl) (T.obj _ _ Rt)
   have q6:=Yi _ s6 τ H6 x u _ Ym r6 (step x H6 y6)
   rw[eP,eW,eA,eE,Qp]at q6
   refine cO q6 λ_ s7 ⟨σ7,H7,I7,q7⟩=>?_
   have q8:=Yj _ s7 σ7 H7 _ I7 q7
   rw[eP,eW,eA,eE,Qp]at q8
   refine cO q8 λok s8 ⟨H8,I8,q8⟩=>?_
   have again:∀{σ9:St}{H9:Hp}{s9:Shared}{zs:List V},Inv Y ([]++vo fp s6.heap) σ9 H9 s9->(∃m',m'<n/\W (i+1) m' zs σ9 H9)->∃m,m<n/\∃i ys τ H',Inv Y [] τ H' s9/\tn i s9.heap/\(∀b∈fp,H' b=none)/\W i m ys τ H':=λ{σ9 H9 s9 zs} I9 n9=>by
    obtain⟨m',hm,w9⟩:=n9
    refine⟨m',hm,i+1,zs,σ9,H9,I9.pS,T.keep _ _ _ Rt λb hb o e=>(I9.pin (b,o) (aaB _ (aaB _ (kc hb e)))).1,λb hb=>?_,w9⟩
    obtain⟨o,e,d⟩:=T.obj _ _ Rt b hb
    exact(I9.pin (b,o) (aaB _ (aaB _ (kc hb e)))).2.1
   cases ok with
   |false =>
    rw[aah aat]
    rw[aah aat]at q8
    exact again I8 (Wr _ _ _ q8)
   |true =>
    rw[aai rfl]
    rw[aai rfl]at q8
    have q9:=Yk _ s8 σ7 H8 _ I8 q8
    rw[eP,eW,eA,eE,Qp]at q9
    refine cO q9 λy s9 ⟨yv,H9,I9,r9,Yn,Yo,q9⟩=>?_
    have ap:=jN (X:=Y) _ s9 σ7 H9 (.ref s.heap.objs.size) [yv] (.ref s.heap.objs.size) [y] (λ_ Ru=>Nn (ys++[yv]) σ7 Ru) I9 rfl (.cons r9 .nil) ⟨_,ys,yv,rfl,rfl,Yn,Yo,q9⟩
    rw[eP,eW,eA,Qp]at ap
    exact cO ap λ_ EK ⟨_,Ru,Yp,_,Yq⟩=>again Yp (Wr _ _ _ Yq)
 subst M5
 exact codeAny_compStart_list loop (T.self _ 0 _ _ _ st1 loop)
theorem iy(hc:X.calm=true)(S:bP X.N X.env.scope N nv js scope)(hi:PI X tg iter wi)(hg:∀C s H fp,PG (iL X N scope C s H fp) tg g)(ht:∀C s H fp,EJ (iL X N scope C s H fp) ifs tt)(he:∀C s H fp,PE (iL X N scope C s H fp) elt te)(hs:∀x,foldedSetIterable iter X.env x=pure x:=by intro _;rfl):PE X (.ListComp elt [⟨tg,iter,ifs,0⟩] scope pos) (KI wi g tt te nv js):=by
 intro pins s σ H Q I h
 rw[eval_ListComp]
 refine wpAny_comprehension_free (use:=none) rfl hs (oj λn hn=>I.ok.has n (S.free _ hn rfl)) S.kind S.loc (cO (hi pins s σ H _ I h) λv s1 h1=>cO h1 λitv s2 h2=>?_)
 obtain⟨it,fp,tn,J,H2,e,I2,T,st2,f2,hR⟩:=h2
 subst e
 refine vA (RR:=λacc C=>compPost (model X.prog X.w) X.A X.xe none (EP X pins σ Q) acc C) hc S hg ht he I2 T st2 f2 hR ?_
 intro D C H' s' m I' fC hn q
 refine⟨m,hn,λh' sb=>⟨.ref D,H',?_,O,q⟩⟩
 exact I'.turned (t':=s'.toks) (λb o hb e=>(sb.2 b hb).trans e) fC.1 fC.2.1 fC.2.2.2.1 fC.2.2.2.2.1 fC.2.2.2.2.2
theorem IY{i:Nat}{x:Str}{pos' spos:Pos}(hc:X.calm=true)(hN:X.N.Nodup)(hi':X.N[i]?=some x)(hx:X.env.scope.names.lookup x=some .local)(S:bP X.N X.env.scope N nv js scope)(hi:PI X tg iter wi)(hg:∀C s H fp,PG (iL X N scope C s H fp) tg g)(ht:∀C s H fp,EJ (iL X N scope C s H fp) ifs tt)(he:∀C s H fp,PE (iL X N scope C s H fp) elt te)(hsw:swapsWith (.ListComp elt [⟨tg,iter,ifs,0⟩] scope pos) (some (.Name x pos')) spos.line X.env=pure true:=by rfl)(hs:∀x,foldedSetIterable iter X.env x=pure x:=by intro _;rfl):PS X (.Assign [.Name x pos'] (.ListComp elt [⟨tg,iter,ifs,0⟩] scope pos) spos) (IE (KI wi g tt te nv js) (bH i)):=by
 intro pins s σ H D I h
 rw[exec_Assign_Name_used _ _ _ _ hsw]
 refine aag (wpAny_standAt (aag ?_))
 show wpAny _ X.A (do let _ ←comprehension (.ListComp elt [⟨tg,iter,ifs,0⟩] scope pos) scope X.env _ (newList []) false (eval iter X.env) (some (assign (.Name x pos') X.env))) _ _ s
 refine aag (abb (wpAny_comprehension_free (use:=some (assign (.Name x pos') X.env)) (Q:=λ_ s'=>SP X pins D .next s') rfl hs (oj λn hn=>I.ok.has n (S.free _ hn rfl)) S.kind S.loc
  (cO (hi pins s σ H _ I h) λv s1 h1=>cO h1 λitv s2 h2=>?_)) (λ_ s' hq=>aak (aak hq)) λ_ _ e=>e)
 obtain⟨it,fp,tn,J,H2,e,I2,T,st2,f2,hR⟩:=h2
 subst e
 refine vA (RR:=λacc C=>compPost (model X.prog X.w) X.A X.xe (some (assign (.Name x pos') X.env)) (λ_ s'=>SP X pins D .next s') acc C) hc S hg ht he I2 T st2 f2 hR ?_
 intro Dl C H' s' m I' fC hn q
 show wpAny _ X.A (assign (.Name x pos') X.env (.ref Dl)) _ _ _
 refine wpAny_assign_Name (yf I' hN hi' (.inl hx) (v:=.ref Dl) rfl (λs2 I3 ch=>?_) (.inr hx))
 obtain⟨a,sb,ha⟩:=ch
 have Yr:C≠a:=by
  rcases ha with rfl|ha
  ·exact fC.2.1
  ·exact(fC.2.2.2.2.1 x a ha).symm
 refine⟨m,hn.sameBut sb Yr,λh' sb'=>⟨_,H',?_,q⟩⟩
 exact I3.turned (t':=s2.toks) (λb o hb e=>(sb'.2 b hb).trans e) fC.1 fC.2.1 fC.2.2.2.1 fC.2.2.2.2.1 fC.2.2.2.2.2
end
theorem CA:typeLookup (.type "list_reverseiterator") "__len__"=pure none:=by rw[abj,aa2];kernel_rfl
theorem GB:typeLookup (.type "list_reverseiterator") "__length_hint__"=pure (some (.builtin "list_reverseiterator.__length_hint__")):=by rw[abj,aa2];kernel_rfl
section
variable{prog:Program}{w:World}{A:Around}{E:Value->Shared->Prop}{s:Shared}
theorem GC{I l:Addr}{i:Int}{Q:Bool->Shared->Prop}(hit:s.heap.IsRevIter I l i)(h:Q false s):wpAny (model prog w) A (Builtin.List.listLengthHint (.ref I)) Q E s:=by
 unfold Builtin.List.listLengthHint
 refine aag (aaV hit.typeIs CA ?_)
 show wpAny _ _ (specialOf (Value.ref I) ("__length_hint__":Str) >>= _) _ _ _
 refine aag (aaV hit.typeIs GB ?_)
 generalize hid:("list_reverseiterator.__length_hint__":String)=Rv
 wp_delta
 rw[show splitId Rv=some ("list_reverseiterator","__length_hint__") from by subst hid;decide +kernel]
 subst hid
 refine aag (wpAny_isInstance (T:="list_reverseiterator") (b:=true) hit.typeIs (by rw[abq];kernel_rfl) ?_)
 refine wpAny_ite_split (λhab=>absurd hab (by decide)) (λ_=>?_)
 refine wpAny_ite_split (λ_=>?_) (λhab=>absurd (by decide +kernel) hab)
 refine wpAny_ite_split (λhab=>absurd hab (by decide +kernel)) (λ_=>?_)
 exact aak h
theorem CB{R:Result->Shared->Prop}(hh:A.handled=none){I l:Addr}{items:Array Value}(hne:l≠I)(hit:s.heap.IsRevIter I l ((items.size:Int)-1))(hl:s.heap.IsList l items)(S:Addr)(Ys:S≠l)(res:Value)(c₀:Nat)(hS:s.heap.get? S=some {cls:=.type "list",data:=.seq #[] c₀})(hn:items.size<=sizeLine)(hR:∀h' tk acc' c',(∀b o,b≠S->b≠I->s.heap.get? b=some o->h'.get? b=some o)->h'.get? S=some {cls:=.type "list",dict:=none,data:=.seq acc' c',slots:=#[]}->ItemsOf (λi v=>items[items.size-1-i]?=some v) acc' items.size->R (.ok (.ret res)) {s with heap:=h',toks:=tk}):wpAny (model prog w) A.in1 (Builtin.List.listExtendWith (.ref S) (.ref I) res)
   (λfin s'=>match fin with | .done f=>R (.ok f) s' | .again c'=>c'.quiet=true/\codeAny (model prog w) A c' R s') (λe s'=>R (.error e) s') s:=by
 have hSI:S≠I:=λe=>by
  subst e
  obtain⟨o,ho,hc,_⟩:=hit
  rw[hS]at ho;cases ho
  exact absurd (show Value.type "list"=Value.type "list_reverseiterator" from hc) (by decide)
 have hSf:S∉[I,l]:=λhm=>by
  rcases aaE.mp hm with e|hm
  ·exact hSI e
  ·exact Ys (aau.mp hm)
 unfold Builtin.List.listExtendWith
 refine aag (wpAny_typeOf hit.typeIs ?_)
 have h1:Builtin.List.listSameRef (.ref S) (.ref I)=false:=by simp[Builtin.List.listSameRef,hSI]
 have h2:(Value.type "list_reverseiterator"==Value.type "list")=false:=by decide
 have h3:(Value.type "list_reverseiterator"==Value.type "tuple")=false:=by decide
 simp only[h1,h2,h3,Bool.or_false,aaD,aaW]
 refine aag (wpAny_pyIter_revIter hit ?_)
 refine aag (wpAny_holding (GC hit ?_))
 rw[aah (by decide)]
 refine aak ⟨plainId_quiet F.plain_extend_loop _,codeAny_extend_loopS (Walks.listRev (prog:=prog) (w:=w) (A:=A.in1) hh I l hne items).toS hn _ hSf _ items.size 0 _ _ _ rfl (aaK _) ⟨aaK _,by simpa using hit,hl⟩ hS (ItemsOf.nil _) λs' acc' c' hm hS' hacc=>?_⟩
 rw[Moved.eq_with hm]
 refine hR s'.heap s'.toks acc' c' (λb ob hb hb2 e=>hm.heap b ob (λhmem=>?_) e) hS' hacc
 rcases aaE.mp hmem with e'|hmem
 ·exact hb e'
 ·exact hb2 (aau.mp hmem)
end
theorem EL{items:List Value}{acc:Array Value}(h:ItemsOf (λi v=>items.toArray[items.toArray.size-1-i]?=some v) acc items.toArray.size):acc.toList=items.reverse:=by
 have hz:=h.1
 refine List.ext_getElem? λi=>?_
 by_cases hi:i<items.length
 ·have hi':i<acc.size:=by rw[hz];simpa using hi
  have q:=h.2 i acc[i] (by simp[hi'])
  rw[List.getElem?_reverse hi]
  simp only[aap,List.getElem?_toArray]at q
  rw[q]
  simp[hi']
 ·rw[List.getElem?_eq_none (by rw[aam,hz];simpa using hi),List.getElem?_eq_none (by simpa using hi)]
section
variable{X:Cx}{e:Expr}{te:TE}
end
def sg(c:Nat):Str:=⟨#[c]⟩
def M6(z:Str):It:=⟨λi _=>i<z.cps.size,λi H x H'=>H'=H/\∃c,z.cps[i]?=some c/\x=.str (sg c),λi _=>z.cps.size<=i⟩
theorem GD{P:Program}{w:World}{K:W.Frag}{tg:Expr}(it:Addr)(z:Str)(t:Tok):Turn P w K tg (M6 z) [it] it (λi h=>h.IsStrIter it (strIterType z) z t i) where
 mem:=by simp
 obj:=λi h st b hb=>by
  have e:b=it:=by simpa using hb
  subst e
  obtain⟨o,e,c,d⟩:=st
  exact⟨o,e,λv z=>by rw[d]at z;cases z⟩
 keep:=λi h h' st k=>by
  obtain⟨o,e,r⟩:=st
  exact⟨o,k it (by simp) o e,r⟩
 item:=by
  intro X hP hw hK hc i pins s σ H E I hf st hg
  subst hP hw hK
  obtain⟨f0,f1,f2,f3,f4,f5⟩:=hf it (by simp)
  have hi:i<z.cps.size:=hg
  have hx:z.cps[i]?=some z.cps[i]:=by simp[hi]
  cases ha:z.cps.all (· < 128) with
  |true =>
   have et:strIterType z="str_ascii_iterator":=by simp only[strIterType,ha,if_true]
   rw[et]at st⊢
   refine wpAny_pyNext_ascii_item st hx λh' st' sb=>?_
   have I1:Inv X pins σ H {s with heap:=h',toks:=s.toks+1}:=I.turned (λb o hb e=>(sb.2 b hb).trans e) f0 f1 f3 f4 f5
   obtain⟨o,e,c,d⟩:=id st'
   exact⟨_,rfl,yh (s:={s with heap:=h',toks:=s.toks+1}) e c d (by decide) ⟨.str (sg z.cps[i]),H,I1,⟨_,rfl⟩,⟨rfl,_,hx,rfl⟩,st',λb hb=>(hf b hb).1⟩⟩
  |false =>
   have et:strIterType z="str_iterator":=by simp only[strIterType,ha,aaD,aaW]
   rw[et]at st⊢
   refine wpAny_pyNext_wide_item st hx λh' st' sb=>?_
   have I1:Inv X pins σ H {s with heap:=h',toks:=s.toks+1}:=I.turned (λb o hb e=>(sb.2 b hb).trans e) f0 f1 f3 f4 f5
   obtain⟨o,e,c,d⟩:=id st'
   exact⟨_,rfl,yh (s:={s with heap:=h',toks:=s.toks+1}) e c d (by decide) ⟨.str (sg z.cps[i]),H,I1,⟨_,rfl⟩,⟨rfl,_,hx,rfl⟩,st',λb hb=>(hf b hb).1⟩⟩
 done:=by
  intro X hP hw hK hc i pins s σ H E I hf st hg
  subst hP hw hK
  obtain⟨f0,f1,f2,f3,f4,f5⟩:=hf it (by simp)
  have hi:z.cps.size<=i:=hg
  have hx:z.cps[i]?=none:=by simp[hi]
  cases ha:z.cps.all (· < 128) with
  |true =>
   have et:strIterType z="str_ascii_iterator":=by simp only[strIterType,ha,if_true]
   rw[et]at st
   exact wpAny_pyNext_ascii_end (I.ok.hd hc) st hx λh' eb=>⟨rfl,I.turned (t':=s.toks) (λb o hb e=>eb b o hb e) f0 f1 f3 f4 f5⟩
  |false =>
   have et:strIterType z="str_iterator":=by simp only[strIterType,ha,aaD,aaW]
   rw[et]at st
   exact wpAny_pyNext_wide_end (I.ok.hd hc) st hx λh' eb=>⟨rfl,I.turned (t':=s.toks) (λb o hb e=>eb b o hb e) f0 f1 f3 f4 f5⟩
 self:=by
  intro A i s Q E st h
  cases ha:z.cps.all (· < 128) with
  |true =>
   have et:strIterType z="str_ascii_iterator":=by simp only[strIterType,ha,if_true]
   rw[et]at st
   exact wpAny_pyIter_striter_ascii st h
  |false =>
   have et:strIterType z="str_iterator":=by simp only[strIterType,ha,aaD,aaW]
   rw[et]at st
   exact wpAny_pyIter_striter_wide st h
section
variable{X:Cx}{tg:Expr}
def Rw(tl:TE):TI:=λσ H R=>tl σ H λx H1=>∃z,x=.str z/\R (M6 z) H1
theorem kj{l:Expr}{tl:TE}(hl:PE X l tl):PI X tg l (Rw tl):=by
 intro pins s σ H R I h
 refine cO (hl pins s σ H _ I h) λv s1 ⟨x,H1,I1,r1,q1⟩=>?_
 obtain⟨z,e,q⟩:=q1
 subst e
 obtain⟨t,rfl⟩:=r1
 refine wpAny_pyIter_strU ?_
 refine⟨s1.heap.objs.size,[s1.heap.objs.size],_,_,H1,rfl,I1.kept (t':=s1.toks) λb o e=>aan _ e,GD _ z t,⟨_,aay _ rfl,rfl,rfl⟩,λb hb=>?_,q⟩
 have e:b=s1.heap.objs.size:=by simpa using hb
 subst e
 exact I1.yZ (aaj _) (I1.hok.fresh (aaj _))
end
theorem nA{z:Str}{g:TG}{tb:TS}{D:Ends}{σ:St}{H:Hp}(Pv:Nat->St->Hp->Prop)(h0:Pv 0 σ H)(hs:∀i c σ H,z.cps.toList[i]?=some c->Pv i σ H->g (.str (sg c)) σ H λσ2 H2=>tb {D with nx:=Pv (i+1),ct:=Pv (i+1),bk:=D.nx} σ2 H2)(hd:∀σ H,Pv z.cps.toList.length σ H->D.nx σ H):∃W:Nat->Nat->St->Hp->Prop,(∃m,W 0 m σ H)/\∀i m σ H,W i m σ H->((M6 z).stop i H/\D.nx σ H)\/((M6 z).go i H/\∃N:St->Hp->Prop,(∀σ' H',N σ' H'->∃m',m'<m/\W (i+1) m' σ' H')/\∀x H',(M6 z).Lg i H x H'->g x σ H' λσ2 H2=>tb {D with nx:=N,ct:=N,bk:=D.nx} σ2 H2):=by
 refine⟨λi m σ H=>m=z.cps.size-i/\i<=z.cps.size/\Pv i σ H,⟨z.cps.size,by simp,aaK _,h0⟩,?_⟩
 rintro i m σ H ⟨rfl,hi,p⟩
 by_cases hlt:i<z.cps.size
 ·refine .inr ⟨hlt,Pv (i+1),λσ' H' p'=>⟨z.cps.size-(i+1),by omega,rfl,hlt,p'⟩,λx H' y=>?_⟩
  obtain⟨e,c,hc,ex⟩:=y
  subst e ex
  exact hs i c σ _ (by simpa using hc) p
 ·have e:i=z.cps.size:=by omega
  subst e
  exact .inl ⟨aaj _,hd σ H (by simpa using p)⟩
theorem nB{K:W.Frag}{a:Addr}{xs:List V}{g:TG}{tt:TT}{te:TE}{Q:VK}{D:Addr}{τ:St}{H:Hp}(Pv:Nat->List V->St->Hp->Prop)(h0:Pv 0 [] τ (upd H D (.lst [])))(hl:∀i ys τ H,i<=xs.length->Pv i ys τ H->bW K H a xs/\H D=some (.lst ys))(hs:∀i x ys τ H,xs[i]?=some x->Pv i ys τ H->g x τ H λτ2 H2=>tt τ2 H2 λb H3=>if b=true then te τ2 H3 λy H4=>H4 D=some (.lst ys)/\ys.length<sizeLine/\Pv (i+1) (ys++[y]) τ2 (upd H4 D (.lst (ys++[y]))) else Pv (i+1) ys τ2 H3)(hd:∀ys τ H,Pv xs.length ys τ H->Q (.ref D) H):yq (MW K a) g tt te Q D τ H:=by
 refine⟨λi m ys τ H=>m=xs.length-i/\i<=xs.length/\Pv i ys τ H,⟨xs.length,by simp,aaK _,h0⟩,?_⟩
 rintro i m ys τ H ⟨rfl,hi,p⟩
 obtain⟨q,hD⟩:=hl i ys τ H hi p
 refine⟨hD,?_⟩
 by_cases hlt:i<xs.length
 ·refine .inr ⟨⟨xs,xs[i],q,by simp[hlt]⟩,Pv (i+1),λzs σ' H' p'=>⟨xs.length-(i+1),by omega,rfl,hlt,p'⟩,λx H' y=>?_⟩
  obtain⟨e,y⟩:=y
  subst e
  exact hs i x ys τ _ (y xs q) p
 ·have e:i=xs.length:=by omega
  subst e
  exact .inl ⟨⟨xs,q,aaj _⟩,hd ys τ H p⟩
theorem vB{z:Str}{g:TG}{tt:TT}{te:TE}{Q:VK}{D:Addr}{τ:St}{H:Hp}(Pv:Nat->List V->St->Hp->Prop)(h0:Pv 0 [] τ (upd H D (.lst [])))(hl:∀i ys τ H,i<=z.cps.toList.length->Pv i ys τ H->H D=some (.lst ys))(hs:∀i c ys τ H,z.cps.toList[i]?=some c->Pv i ys τ H->g (.str (sg c)) τ H λτ2 H2=>tt τ2 H2 λb H3=>if b=true then te τ2 H3 λy H4=>H4 D=some (.lst ys)/\ys.length<sizeLine/\Pv (i+1) (ys++[y]) τ2 (upd H4 D (.lst (ys++[y]))) else Pv (i+1) ys τ2 H3)(hd:∀ys τ H,Pv z.cps.toList.length ys τ H->Q (.ref D) H):yq (M6 z) g tt te Q D τ H:=by
 have hz:z.cps.toList.length=z.cps.size:=by simp
 refine⟨λi m ys τ H=>m=z.cps.size-i/\i<=z.cps.size/\Pv i ys τ H,⟨z.cps.size,by simp,aaK _,h0⟩,?_⟩
 rintro i m ys τ H ⟨rfl,hi,p⟩
 refine⟨hl i ys τ H (by omega) p,?_⟩
 by_cases hlt:i<z.cps.size
 ·refine .inr ⟨hlt,Pv (i+1),λzs σ' H' p'=>⟨z.cps.size-(i+1),by omega,rfl,hlt,p'⟩,λx H' y=>?_⟩
  obtain⟨e,c,hc,ex⟩:=y
  subst e ex
  exact hs i c ys τ _ (by simpa using hc) p
 ·have e:i=z.cps.size:=by omega
  subst e
  exact .inl ⟨aaj _,hd ys τ H (by rw[hz];exact p)⟩
theorem DW:∀{zs:List Str}{us:List Value},Vals (zs.map V.str) us->StrsAre us zs
 |[],_,r=>by cases r;exact .nil
 |z::zs,_,r=>by
  cases r with
  |cons r1 r2 =>
   obtain⟨t,e⟩:=r1
   subst e
   exact .cons z t (DW r2)
section
variable{X:Cx}
def rJoin(K:W.Frag):V->List V->Hp->VK->Prop:=λx vs H Q=>∃z p zs,x=.str z/\vs=[.ref p]/\bW K H p (zs.map V.str)/\(zs.map (·.length)).sum+zs.length*z.length<=16777216/\Q (.str (Txt.join z zs)) H
theorem IZ:Lp X "str.join" (rJoin X.K):=by
 intro pins s σ H x vs v us Q I rx rv h
 obtain⟨z,p,zs,rfl,rfl,hq,hz,q⟩:=h
 obtain⟨t,rfl⟩:=rx
 obtain⟨u,rfl,ru⟩:=rv.one
 cases ru
 obtain⟨its,r,pl,_⟩:=I.list hq
 exact join_list pl.isList (by simpa using DW r) hz λt' k=>⟨.str _,H,I.tok k,⟨t',rfl⟩,q⟩
theorem A2:fM X (.builtin "isinstance") (λxs H Q=>∃x c t b,xs=[x,c]/\oQ X.K H x t/\((∃n,c=.ty n/\W.kitOne X.K t (.type n)=some b)\/(∃a,c=.ref a/\W.kitOne X.K t (.ref a)=some b))/\Q (.bl b) H):=by
 intro pins s σ H xs us Q I r h
 obtain⟨x,c,t,b,rfl,ty,hc,q⟩:=h
 obtain⟨u,w',rfl,ru,rw'⟩:=vals2 r
 rcases hc with ⟨n,rfl,e⟩|⟨a,rfl,e⟩
 ·cases rw'
  exact yj I ru ty e λtk=>⟨.bl b,H,I.tok tk,rfl,q⟩
 ·cases rw'
  exact yj I ru ty e λtk=>⟨.bl b,H,I.tok tk,rfl,q⟩
end
theorem GF(c:Nat):(sg c).length=1:=rfl
theorem CD(cs:List Nat):Txt.join ("":Str) (cs.map sg)=⟨cs.toArray⟩:=by
 show Builtin.Str.glued ("":Str) (cs.map sg)=_
 rw[StrLaws.glued_eq_join]
 induction cs with
 |nil=>rfl
 |cons c cs ih =>
  cases cs with
  |nil=>rfl
  |cons d cs =>
   rw[aaX,aaX]at *
   show sg c++("":Str)++Str.join ("":Str) (sg d::cs.map sg)=_
   rw[ih]
   show Str.mk ((#[c]++("":Str).cps)++(d::cs).toArray)=_
   have e:("":Str).cps = #[]:=by decide +kernel
   rw[e]
   simp
theorem DX(a b:List Nat):(⟨a.toArray⟩:Str)++(⟨b.toArray⟩:Str)=⟨(a++b).toArray⟩:=by
 show Str.mk (a.toArray++b.toArray)=_
 simp
section
variable{X:Cx}
def N9(K:W.Frag):R2:=λx y H Q=>∃a b xs,x=.ref a/\y=.ref b/\bW K H a xs/\bW K H b []/\Q (.bl (!xs.isEmpty)) H
theorem LC(hu:X.A.units<cLine):kg X (compareOp .NotEq) (N9 X.K):=by
 intro pins s σ H x y v u Q I rx ry h
 obtain⟨a,b,xs,rfl,rfl,ha,hb,q⟩:=h
 cases rx
 cases ry
 obtain⟨its,r1,p1,_⟩:=I.list ha
 obtain⟨its2,r2,p2,_⟩:=I.list hb
 cases r2
 show wpAny _ _ (richCompare .NotEq (.ref a) (.ref b)) _ _ _
 cases xs with
 |nil =>
  cases r1
  refine SeqAt.RcNeAt.lists (e:=λ_=>true) p1.isList p2.isList rfl hu (λj h1 _=>absurd h1 (by simp)) _ _ _ _ ⟨.bl false,H,I,?_,q⟩
  simp[RelV]
 |cons x xs =>
  cases r1 with
  |cons r rr =>
   exact SeqAt.RcNeAt.lists_lengths p1.isList p2.isList (by simp) hu _ _ _ _ ⟨.bl true,H,I,rfl,q⟩
end
section
variable{X:Cx}(K:W.Frag)(h:X.K=K)
include h
theorem GG:M3 X (Lq K):=by subst h;exact IS
theorem Ja:M3 X (Lr K):=by subst h;exact Lu
theorem GH:MZ X (NZ K):=by subst h;exact IT
theorem DY:MZ X (NX K):=by subst h;exact Lo
theorem vC:Lp X "str.join" (rJoin K):=by subst h;exact IZ
theorem bz:fM X (.builtin "len") (λxs H Q=>∃p ys,xs=[.ref p]/\(bW K H p ys\/aK K H p ys)/\Q (.int ys.length) H):=by subst h;exact zj
theorem bQ:fM X (.builtin "isinstance") (λxs H Q=>∃x c t b,xs=[x,c]/\oQ K H x t/\((∃n,c=.ty n/\W.kitOne K t (.type n)=some b)\/(∃a,c=.ref a/\W.kitOne K t (.ref a)=some b))/\Q (.bl b) H):=by subst h;exact A2
theorem xh:fM X (.type "list") (λxs H Q=>∃p ys,xs=[.ref p]/\(bW K H p ys\/aK K H p ys)/\∀l,H l=none->Q (.ref l) (upd H l (.lst ys))):=by subst h;exact zk
theorem vD:fM X (.type "tuple") (λxs H Q=>∃p ys,xs=[.ref p]/\((bW K H p ys/\∀l,H l=none->Q (.ref l) (upd H l (.tup ys)))\/(aK K H p ys/\Q (.ref p) H))):=by subst h;exact xg
theorem CF:kg X (compareOp .In) (Wl K false):=by subst h;exact EF
theorem Jb(hu:X.A.units<cLine):kg X (compareOp .NotEq) (N9 K):=by subst h;exact LC hu
theorem fP{tg l:Expr}{tl:TE}(hl:PE X l tl):PI X tg l (Kv K tl):=by subst h;exact IF hl
theorem zp{tg l:Expr}{tl:TE}(hl:PE X l tl):PI X tg l (NI K tl):=by subst h;exact Lh hl
theorem jk{es:List Expr}{k:Nat}{pos:Pos}{t:Ku}(n:Nat)(hc:X.calm=true)(hh:NF X es t)(hn:(assignEach es X.env).length=n:=by rfl)(hst:(assignEach es X.env).findIdx? (·.1)=none:=by rfl):PG X (.Tuple es k pos) (NH K n t):=by subst h;exact Lc hc hh hn hst
theorem aO{e:Expr}{ta:TE}{f:Str}{pos:Pos}(he:PE X e ta)(hb:attributeBase e f X.env (eval e X.env)=eval e X.env):PE X (.Attribute e f pos) (NQ K ta f):=by subst h;exact Ll he hb
theorem DZ{o:Expr}{to:TE}{name:Str}{apos cpos:Pos}{T id:String}{r:V->List V->Hp->VK->Prop}(pa:PlainAttrs T)(slot:Slot T name id)(hty:typeOf (.builtin id)=pure (.type "method_descriptor"))(hm:Lp X id r)(ho:PE X o to)(hbase:attributeBase o name X.env (eval o X.env)=eval o X.env:=by rfl)(hline:(apos.endLine==cpos.line)=true:=by rfl):PE X (.Call (.Attribute o name apos) [] [] cpos) (N2 K T r to):=by subst h;exact Lw pa slot hty hm ho hbase hline
theorem ko{o e:Expr}{es:List Expr}{to:TE}{t:TA}{name:Str}{apos cpos:Pos}{T id:String}{r:V->List V->Hp->VK->Prop}(pa:PlainAttrs T)(slot:Slot T name id)(hty:typeOf (.builtin id)=pure (.type "method_descriptor"))(hm:Lp X id r)(ho:PE X o to)(ha:PA X (e::es) t)(hbase:attributeBase o name X.env (eval o X.env)=eval o X.env:=by rfl)(hfew:((backTo cpos (starEach (e::es) X.env)).all (λx=>!x.1)&&(backToKw cpos (keywordEach [] X.env)).all (λx=>x.1.isSome)
  && decide ((e::es).length+([]:List Keyword).length+(if ([]:List Keyword).isEmpty then 0 else 1)<30))=true:=by rfl)(hline:(apos.endLine==cpos.line)=true:=by rfl)(hs:starEach (e::es) X.env=(false,eval e X.env)::starEach es X.env:=by rfl)(hplain:(backTo cpos (starEach es X.env)).any (·.1)=false:=by rfl):PE X (.Call (.Attribute o name apos) (e::es) [] cpos) (Wm K T r to t):=by subst h;exact N4 pa slot hty hm ho ha hbase hfew hline hs hplain
end
section
variable{X:Cx}
theorem kq{x:Str}{z:Str}{t:Tok}{pos:Pos}(hg:Gl X x)(hm:X.mg x=some (.str z t))(hd:(x==("__debug__":Str))=false:=by decide):PE X (.Name x pos) (tC (.str z)):=DL hg hm ⟨t,rfl⟩ hd
theorem dh{x:Str}{a:Addr}{pos:Pos}(hg:Gl X x)(hm:X.mg x=some (.ref a))(hd:(x==("__debug__":Str))=false:=by decide):PE X (.Name x pos) (tC (.ref a)):=DL hg hm rfl hd
theorem LD(n:String){x:Str}{pos:Pos}(hg:Gl X x)(hm:X.mg x=none)(hv:bootBuiltins x=some (.type n))(hn:x ≠ "__name__":=by decide)(hd:(x==("__debug__":Str))=false:=by decide):PE X (.Name x pos) (tC (.ty n)):=IB hg hm hv rfl hn hd
end
structure GI(K:W.Frag)(x qual:Str)(st:Stmt)(f:Addr)(fd:FuncData)(dV:Value):Prop where
 ex:∃(oc:Value)(od:Option Addr)(kV doc pm:Value)(an:Option Addr)(cdv ct:Value)(osl:Array (Option Value)),fd=W.fnOf x qual (cD st) (bX st) (ay st) dV kV doc pm an cdv ct/\K.lookup f=some ⟨oc,od,.func fd,osl⟩/\W.codeIn K cdv qual=true
 kp:W.keepIn K (.ref f)=true
section
variable{P:Program}{w:World}{K:W.Frag}{mg:Str->Option Value}{base:Heap}
theorem GI.ok{x qual:Str}{st:Stmt}{f:Addr}{fd:FuncData}{dV:Value}{N ps:List Str}{k:Nat}{sp:Sp}(F:GI K x qual st f fd dV)(S:aE N ps (ay st))(len:∀vs H Q E,sp vs H Q E->vs.length=ps.length)(hbody:∀(cdv:Value)(A:Around)(outer:List Env)(s:Shared)(H:Hp)(vs:List V)(Q:VK)(E:XK),fc k (A.deeper (envOfC qual (ay st) s.heap.objs.size f cdv))->sp vs H Q E->∃t,DK (Cs fJ P w K mg base N qual (ay st) f cdv A outer s H E).MV (bX st) t/\t {nx:=λ_ H'=>Q .non H',rt:=Q} (start N vs) H):bw P w K mg base fJ (k+1) f fd ps sp:=by
 obtain⟨oc,od,kV,doc,pm,an,cdv,ct,osl,rfl,lk,hcd⟩:=F.ex
 refine KH lk hcd S len λA outer s H vs Q E hr Io=>?_
 obtain⟨t,h,q⟩:=hbody cdv A outer s H vs Q E hr Io
 exact⟨t,h.MV,q⟩
theorem D0{x qual:Str}{st:Stmt}{f:Addr}{oc dV:Value}{od an:Option Addr}{osl:Array (Option Value)}{kV doc pm cdv ct:Value}(l:K.lookup f=some ⟨oc,od,.func (W.fnOf x qual (cD st) (bX st) (ay st) dV kV doc pm an cdv ct),osl⟩)(c:W.codeIn K cdv qual=true)(k:W.keepIn K (.ref f)=true):GI K x qual st f (W.fnOf x qual (cD st) (bX st) (ay st) dV kV doc pm an cdv ct) dV:=⟨⟨oc,od,kV,doc,pm,an,cdv,ct,osl,rfl,l,c⟩,k⟩
end
section
variable{X:Cx}
theorem tE:∀{bs:List Bool}{us:List Value}{i:Nat}{u:Value},Vals (bs.map V.bl) us->us[i]?=some u->u=.bool (bs.getD i true)
 |[],_,_,_,r,e=>by cases r;simp at e
 |b::bs,_,i,u,r,e=>by
  cases r with
  |cons r1 r2 =>
   cases i with
   |zero=>simp at e;subst e;exact r1
   |succ i=>simp at e;simpa using tE r2 e
theorem all_range(bs:List Bool):((List.range bs.length).all λi=>bs.getD i true)=bs.all id:=by
 rw[aaT,abf,abf]
 constructor
 ·intro h b hb
  obtain⟨i,hi,rfl⟩:=List.mem_iff_getElem.mp hb
  have:=h i (by simpa using hi)
  simpa [List.getD,hi]using this
 ·intro h i hi
  have hi':i<bs.length:=by simpa using hi
  have:=h bs[i] (List.getElem_mem hi')
  simpa [List.getD,hi']using this
def Oa(K:W.Frag):List V->Hp->VK->Prop:=λxs H Q=>∃(p:Addr)(bs:List Bool),xs=[.ref p]/\bW K H p (bs.map V.bl)/\Q (.bl (bs.all id)) H
theorem GJ(hc:X.calm=true):fM X (.builtin "all") (Oa X.K):=by
 intro pins s σ H xs us Q I r h
 obtain⟨p,bs,rfl,hq,q⟩:=h
 obtain⟨u,rfl,ru⟩:=vals1 r
 cases ru
 obtain⟨its,rv,pl,hz⟩:=I.list hq
 have hlen:=rv.length
 rw[aaq]at hlen
 have hpl:p<s.heap.objs.size:=by obtain⟨o,ho,_⟩:=pl.isList;exact aax ho
 refine call_all_walk (wpAny_pyIter_list pl.isList ⟨s.heap.objs.size,_,_,_,_,_,λi=>bs.getD i true,rfl,Walks.list (A:=X.A.in1) (show X.A.in1.handled=none from I.ok.hd hc) s.heap.objs.size p (aaM hpl) its.toArray,⟨⟨_,aay _ rfl,rfl,rfl⟩,pl.isList.at λo e=>aan _ e⟩,?_,?_⟩)
 ·intro i v s' Q' E' hv hq'
  have e:its[i]?=some v:=by simpa using hv
  rw[tE rv e]
  exact wpAny_truthy_bool hq'
 ·intro h' tk hk
  have f0:=I.yZ (aaj s.heap.objs.size) (I.hok.fresh (aaj _))
  have I2:Inv X pins σ H {s with heap:=s.heap.push {cls:=.type "list_iterator",data:=.fields #[.ref p,rawInt 0]}}:=I.kept (t':=s.toks) λb o e=>aan _ e
  have I3:=I2.turned (h':=h') (t':=tk) (it:=s.heap.objs.size) (λb o hb e=>hk b o (by simpa using hb) e) f0.1 f0.2.1 f0.2.2.2.1 f0.2.2.2.2.1 f0.2.2.2.2.2
  refine⟨.bl (bs.all id),H,I3,?_,q⟩
  show Value.bool _=Value.bool _
  rw[aap,←hlen,all_range]
theorem qZ(K:W.Frag)(h:X.K=K)(hc:X.calm=true):fM X (.builtin "all") (Oa K):=by subst h;exact GJ hc
def LF:V->List V->Hp->VK->Prop:=λx vs H Q=>∃(z:Str)(c:Nat),x=.str z/\vs=[.str (sg c)]/\Q (.int (PyProof.Rows.cnt c z.cps.toList)) H
theorem GK:Lp X "str.count" LF:=by
 intro pins s σ H x vs v us Q I rx rv h
 obtain⟨z,c,rfl,rfl,q⟩:=h
 obtain⟨t,rfl⟩:=rx
 obtain⟨u,rfl,ru⟩:=rv.one
 obtain⟨t',rfl⟩:=ru
 exact SC.count ⟨.int _,H,I.tok _,⟨_,rfl⟩,by
  have e:Txt.count z (sg c)=PyProof.Rows.cnt c z.cps.toList:=PyProof.Rows.count_is z c
  rw[e];exact q⟩
theorem D3:∀{l:List Nat}{c:Nat},l.Nodup->c∈l->PyProof.Rows.cnt c l=1
 |[],_,_,h=>by cases h
 |n::r,c,nd,h=>by
  rw[PyProof.Rows.cnt_cons]
  obtain⟨n1,n2⟩:=aa8.mp nd
  by_cases e:n=c
  ·subst e
   rw[aai rfl,PyProof.Rows.cnt_none _ _ n1];rfl
  ·rw[aah e,D3 n2 ((aaE.mp h).resolve_left (Ne.symm e))];rfl
def ri:List V->List V->Bool
 |[],[]=>true
 |x::xs,y::ys=>zf x y&&ri xs ys
 |_,_=>false
theorem vE:∀{x:V},fN x=true->zf x x=true
 | .non,_=>rfl
 | .bl b,_=>by cases b<;>rfl
 | .int i,_=>by simp[zf]
 | .str z,_=>by simp[zf]
def KJ(xs ys:List V)(j:Nat):Bool:=match xs[j]?,ys[j]? with
 |some x,some y=>zf x y
 |_,_=>true
theorem vF:∀(xs ys:List V),((List.range (min xs.length ys.length)).all (KJ xs ys)&&xs.length==ys.length)=ri xs ys
 |[],[]=>rfl
 |[],_::_=>by simp[ri]
 |_::_,[]=>by simp[ri]
 |x::xs,y::ys=>by
  have ih:=vF xs ys
  have e:min (x::xs).length (y::ys).length=min xs.length ys.length+1:=by rw[aaH,aaH];omega
  rw[e,List.range_succ_eq_map,List.all_cons,List.all_map]
  have e2:(KJ (x::xs) (y::ys)∘Nat.succ)=KJ xs ys:=by funext j;simp[KJ]
  rw[e2]
  unfold ri
  rw[←ih]
  have e3:((x::xs).length==(y::ys).length)=(xs.length==ys.length):=by simp
  rw[e3]
  show(zf x y&&_&&_)=_
  rw[Bool.and_assoc]
theorem items_eqAt{A:Around}{s:Shared}{xs ys:List V}{us ws:List Value}(r1:Vals xs us)(r2:Vals ys ws)(f1:xs.all fN=true)(f2:ys.all fN=true)(j:Nat)(h1:j<us.toArray.size)(h2:j<ws.toArray.size):SeqAt.EqAt A s us.toArray[j] ws.toArray[j] (KJ xs ys j):=by
 have hl1:=r1.length
 have hl2:=r2.length
 have hj1:j<xs.length:=by rw[hl1];simpa using h1
 have hj2:j<ys.length:=by rw[hl2];simpa using h2
 obtain⟨u,eu,ru⟩:=r1.get (i:=j) (x:=xs[j]) (by simp[hj1])
 obtain⟨w,ew,rw'⟩:=r2.get (i:=j) (x:=ys[j]) (by simp[hj2])
 have e1:us.toArray[j]=u:=by
  have:=aal.mp eu
  obtain⟨_,q⟩:=this
  simpa using q
 have e2:ws.toArray[j]=w:=by
  have:=aal.mp ew
  obtain⟨_,q⟩:=this
  simpa using q
 rw[e1,e2]
 have e3:KJ xs ys j=zf xs[j] ys[j]:=by simp[KJ,hj1,hj2]
 rw[e3]
 exact Gr ru rw' (abf.mp f1 _ (List.getElem_mem hj1)) (abf.mp f2 _ (List.getElem_mem hj2))
end
section
variable{X:Cx}{pins:List (Addr×Obj)}{σ:St}{H:Hp}{s:Shared}
end
section
variable{X:Cx}
def LG(K:W.Frag):List V->Hp->VK->Prop:=λxs H Q=>∃(a:Addr)(c:String)(ys:List V)(b:Bool),xs=[.ref a,.ty c]/\((aK K H a ys/\W.kitOne K (.type "tuple") (.type c)=some b)\/(bW K H a ys/\W.kitOne K (.type "list") (.type c)=some b))/\Q (.bl b) H
theorem A3(K:W.Frag)(hK:X.K=K):fM X (.builtin "isinstance") (LG K):=by
 subst hK
 intro pins s σ H xs us Q I r h
 obtain⟨a,c,ys,b,rfl,hk,q⟩:=h
 obtain⟨u,w',rfl,ru,rw'⟩:=vals2 r
 cases ru;cases rw'
 have fin:∀tk,EP X pins σ Q (.bool b) {s with toks:=tk}:=λtk=>⟨.bl b,H,I.tok tk,rfl,q⟩
 rcases hk with ⟨ha,e⟩|⟨ha,e⟩
 ·obtain⟨its,r1,p1,_⟩:=I.tuple ha
  obtain⟨o,h1,h2,_⟩:=p1
  exact abd W.kitx_tuple I.pR ⟨o,h1,h2⟩ e (λz=>nomatch z) fin
 ·obtain⟨its,r1,p1,_⟩:=I.list ha
  obtain⟨o,h1,h2,_⟩:=p1.isList
  exact abd W.kitx_list I.pR ⟨o,h1,h2⟩ e (λz=>nomatch z) fin
end
section
variable{X:Cx}
end
section
variable{X:Cx}{CX:FA}{k:Nat}{f C:Addr}{fd:FuncData}{ps ks:List Str}{sp:Sp}{E:XK}{x m:Str}{p pos apos kpos:Pos}{e o:Expr}{es:List Expr}{kws:List Keyword}{te ta:TE}{t tk:TA}{nm:Option Str}{g:List Value->List Value->List Value}{gV:List V->List V->List V}
end
theorem yr:∀{xs ys:List V}{us:List Value},Vals xs us->Vals ys us->xs.all fN=true->ys.all fN=true->ri ys xs=true
 |_,_,_,.nil,.nil,_,_=>rfl
 |x::xs,y::ys,u::us,.cons r1 t1,.cons r2 t2,f1,f2=>by
  rw[List.all_cons,abo]at f1 f2
  unfold ri
  have e1:Gs x u=zf y x:=zg r2 f2.1
  have e2:Gs x u=zf x x:=zg r1 f1.1
  rw[←e1,e2,vE f1.1,yr t1 t2 f1.2 f2.2]
  rfl
section
variable{X:Cx}{pins:List (Addr×Obj)}{σ:St}{H:Hp}{s:Shared}
theorem GL(I:Inv X pins σ H s){a b:Addr}{xs ys:List V}(ha:aK X.K H a xs)(hb:aK X.K H b ys)(f1:xs.all fN=true)(f2:ys.all fN=true){A:Around}(hu:A.units<cLine):SeqAt.EqAt A s (.ref b) (.ref a) (ri ys xs):=by
 obtain⟨its,r1,p1,_⟩:=I.tuple ha
 obtain⟨its2,r2,p2,_⟩:=I.tuple hb
 by_cases e:b=a
 ·subst e
  have ei:its2=its:=by
   obtain⟨o,ho,_,n,hd⟩:=id p1
   obtain⟨o2,ho2,_,n2,hd2⟩:=id p2
   rw[ho]at ho2;cases ho2
   rw[hd]at hd2
   injection hd2 with h1 h2
   have:=congrArg Array.toList h1
   simpa using this.symm
  subst ei
  rw[yr r1 r2 f1 f2]
  exact SeqAt.EqAt.same _
 ·refine SeqAt.EqAt.of_refs e ?_
  have q:=SeqAt.RcAt.tuples (A:=A) (e:=KJ ys xs) p2 p1 hu λj h1 h2=>items_eqAt r2 r1 f2 f1 j h1 h2
  rw[aap,aap,←r1.length,←r2.length,vF]at q
  exact q
end
theorem rj:∀{xs:List V}{us:List Value},Vals xs us->∀u∈us,∃x∈xs,RelV x u
 |_,_,.nil=>λu hu=>by cases hu
 |x::xs,v::us,.cons r t=>λu hu=>by
  rcases aaE.mp hu with rfl|hu
  ·exact⟨x,aaA ..,r⟩
  ·obtain⟨y,h1,h2⟩:=rj t u hu
   exact⟨y,aaw _ h1,h2⟩
section
variable{X:Cx}
end
theorem GN{X:Cx}:MZ X (λx lo hi H Q=>∃z,x=.str z/\z.length<=sizeLine/\Q (.str (Txt.slice z lo hi)) H):=by
 intro pins s σ H x v vl vu lo hi sl Q I rx hs pl pu h
 obtain⟨z,rfl,hz,q⟩:=h
 obtain⟨t,rfl⟩:=rx
 refine⟨"str",_,F.slot_str_getitem.lookup,typeIs_str _ _ _,?_⟩
 cases pl with
 |none =>
  cases pu with
  |none=>exact wpAny_getItem_str_slice (l:=none) (u:=none) (st:=none) hs rfl (post_val_or_str ⟨aao (Txt.slice_le z _ _) hz,λt' k=>⟨.str _,H,I.tok _,⟨_,rfl⟩,q⟩⟩)
  |int j uj=>exact wpAny_getItem_str_slice (l:=none) (u:=some (j,uj)) (st:=none) hs rfl (post_val_or_str ⟨aao (Txt.slice_le z _ _) hz,λt' k=>⟨.str _,H,I.tok _,⟨_,rfl⟩,q⟩⟩)
 |int i ui =>
  cases pu with
  |none=>exact wpAny_getItem_str_slice (l:=some (i,ui)) (u:=none) (st:=none) hs rfl (post_val_or_str ⟨aao (Txt.slice_le z _ _) hz,λt' k=>⟨.str _,H,I.tok _,⟨_,rfl⟩,q⟩⟩)
  |int j uj=>exact wpAny_getItem_str_slice (l:=some (i,ui)) (u:=some (j,uj)) (st:=none) hs rfl (post_val_or_str ⟨aao (Txt.slice_le z _ _) hz,λt' k=>⟨.str _,H,I.tok _,⟨_,rfl⟩,q⟩⟩)
section
variable{X:Cx}{pins:List (Addr×Obj)}{σ:St}{H:Hp}{s:Shared}{h':Heap}
end
section
variable{X:Cx}
end
def isIn(K:W.Frag)(H:Hp)(ws xs:List V):Prop:=∃w∈ws,∃b ys,w=V.ref b/\aK K H b ys/\ri ys xs=true
def Rx(K:W.Frag)(neg:Bool):R2:=λx y H Q=>∃a p xs ws,x=.ref a/\y=.ref p/\aK K H a xs/\xs.all fN=true/\bW K H p ws/\(∀w∈ws,∃b ys,w=V.ref b/\aK K H b ys/\ys.all fN=true)/\∀r:Bool,(r=true↔isIn K H ws xs)->Q (.bl (if neg then !r else r)) H
theorem A4:∀{xs:List V}{us:List Value},Vals xs us->∀x∈xs,∃u∈us,RelV x u
 |_,_,.nil=>λx hx=>by cases hx
 |y::xs,v::us,.cons r t=>λx hx=>by
  rcases aaE.mp hx with rfl|hx
  ·exact⟨v,aaA ..,r⟩
  ·obtain⟨u,h1,h2⟩:=A4 t x hx
   exact⟨u,aaw _ h1,h2⟩
section
variable{X:Cx}
theorem Jc{pins:List (Addr×Obj)}{σ:St}{H:Hp}{s:Shared}(I:Inv X pins σ H s){a p:Addr}{xs ws:List V}{its:List Value}(ha:aK X.K H a xs)(fa:xs.all fN=true)(r:Vals ws its)(hw:∀w∈ws,∃b ys,w=V.ref b/\aK X.K H b ys/\ys.all fN=true)(hu:X.A.units+64<cLine):∃e:Value->Bool,(∀v∈its,SeqAt.EqAt X.A.in1 s v (.ref a) (e v))/\(its.any e=true↔isIn X.K H ws xs):=by
 refine⟨λv=>@decide (∃b ys,v=Value.ref b/\aK X.K H b ys/\ri ys xs=true) (Classical.propDecidable _),λv hv=>?_,?_⟩
 ·obtain⟨y,hy,ry⟩:=rj r v hv
  obtain⟨b,ys,rfl,hb,fb⟩:=hw y hy
  cases ry
  have q:=GL (A:=X.A.in1) I ha hb fa fb (show X.A.units+1<cLine by omega)
  cases he:ri ys xs with
  |true =>
   rw[he]at q
   have e:@decide (∃b' ys',Value.ref b=Value.ref b'/\aK X.K H b' ys'/\ri ys' xs=true) (Classical.propDecidable _)=true:=@decide_eq_true _ (Classical.propDecidable _) ⟨b,ys,rfl,hb,he⟩
   dsimp only
   rw[e];exact q
  |false =>
   rw[he]at q
   have e:@decide (∃b' ys',Value.ref b=Value.ref b'/\aK X.K H b' ys'/\ri ys' xs=true) (Classical.propDecidable _)=false:=@decide_eq_false _ (Classical.propDecidable _) (by
    rintro⟨b',ys',e1,e2,e3⟩
    cases e1
    rw[I.yg hb e2]at he
    rw[he]at e3;cases e3)
   dsimp only
   rw[e];exact q
 ·rw[List.any_eq_true]
  constructor
  ·rintro⟨v,hv,e⟩
   obtain⟨b,ys,rfl,hb,he⟩:=@of_decide_eq_true _ (Classical.propDecidable _) e
   obtain⟨y,hy,ry⟩:=rj r _ hv
   obtain⟨b',ys',rfl,hb',_⟩:=hw y hy
   cases ry
   exact⟨_,hy,_,ys,O,hb,he⟩
  ·rintro⟨w,Jd,b,ys,rfl,hb,he⟩
   obtain⟨u,Ry,ru⟩:=A4 r _ Jd
   cases ru
   exact⟨_,Ry,@decide_eq_true _ (Classical.propDecidable _) ⟨b,ys,O,hb,he⟩⟩
theorem LH(K:W.Frag)(hK:X.K=K)(hu:X.A.units+64<cLine):kg X (compareOp .In) (Rx K false):=by
 subst hK
 intro pins s σ H x y v u Q I rx ry h
 obtain⟨a,p,xs,ws,rfl,rfl,ha,fa,hp,hw,q⟩:=h
 cases rx;cases ry
 obtain⟨its,r,pl,hz⟩:=I.list hp
 obtain⟨e,h1,h2⟩:=Jc (p:=p) I ha fa r hw hu
 refine SeqAt.in_listAt e pl.isList (λw Jd=>h1 w (by simpa using Jd)) ⟨.bl _,H,I,rfl,?_⟩
 exact q (its.toArray.any e) (by rw[show its.toArray.any e=its.any e by simp];exact h2)
end
section
variable{prog:Program}{w:World}{A:Around}{E:Value->Shared->Prop}{s:Shared}
end
section
variable{prog:Program}{w:World}{A:Around}{E:Value->Shared->Prop}{s:Shared}
end
section
variable{prog:Program}{w:World}{A:Around}{E:Value->Shared->Prop}{s:Shared}
end
section
variable{X:Cx}
end
section
variable{X:Cx}{pins:List (Addr×Obj)}{σ:St}{H:Hp}{s:Shared}
end
section
variable{X:Cx}
end
structure gO(prog:Program)(w:World)(K:Type)[DecidableEq K] where
 is:Heap->K->Value->Prop
 hash:K->Int
 draws:K->Nat
 cE:Nat
 inj:∀{h:Heap}{v:Value}{x y:K},is h x v->is h y v->x=y
 keeps:∀{h h':Heap}{k:K}{v:Value}{d:Addr}{o:Obj}{es ep},is h k v->h.get? d=some o->o.data=.dict es ep->Heap.SameBut d h h'->is h' k v
 pyHash:∀{A:Around}{E:Value->Shared->Prop}{s:Shared}{k:K}{v:Value}{Q:Int->Shared->Prop},A.units+cE<cLine->is s.heap k v->Q (hash k) {s with toks:=s.toks+draws k}->wpAny (model prog w) A (PySem.pyHash v) Q E s
 eq:∀{A:Around}{s:Shared}{x y:K}{u v:Value},A.units+cE<cLine->is s.heap x u->is s.heap y v->SeqAt.EqAt A s u v (decide (x=y))
 quiet:∀{A:Around}{E:Value->Shared->Prop}{s:Shared}{k:K}{v:Value}{Q:Bool->Shared->Prop}{n:Nat},cE<=n->is s.heap k v->Q true s->wpAny (model prog w) A (eqIsQuiet n v) Q E s
section
variable{prog:Program}{w:World}{K:Type}[DecidableEq K](V:gO prog w K)
def TupIs(h:Heap)(ks:List K)(a:Addr):Prop:=∃o items n,h.get? a=some o/\o.cls=.type "tuple"/\o.data=.seq items n/\Paired (λk v=>V.is h k v) ks items.toList
def vg(ks:List K):Int:=reduceHash (Builtin.Tuple.tupleHashOf (ks.map V.hash))
variable{V}
theorem TupIs.ty{s:Shared}{ks:List K}{a:Addr}(x:TupIs V s.heap ks a):s.TypeIs (.ref a) "tuple":=by obtain⟨o,_,_,ho,hc,_⟩:=x;exact⟨o,ho,hc⟩
theorem vG{h:Heap}:∀{x y:List K}{vs:List Value},Paired (λk v=>V.is h k v) x vs->Paired (λk v=>V.is h k v) y vs->x=y
 |_,_,_,.nil,.nil=>rfl
 |_,_,_,.cons a r,.cons b q=>by rw[V.inj a b,vG r q]
theorem TupIs.inj{h:Heap}{a:Addr}{x y:List K}(hx:TupIs V h x a)(hy:TupIs V h y a):x=y:=by
 obtain⟨o,items,n,ho,_,hd,hi⟩:=hx
 obtain⟨o',items',n',ho',_,hd',hi'⟩:=hy
 rw[ho]at ho'
 cases ho'
 rw[hd]at hd'
 cases hd'
 exact vG hi hi'
theorem TupIs.keeps{h h':Heap}{ks:List K}{a d:Addr}{o:Obj}{es ep}(x:TupIs V h ks a)(ho:h.get? d=some o)(hd:o.data=.dict es ep)(hs:Heap.SameBut d h h'):TupIs V h' ks a:=by
 obtain⟨o',items,n,e1,e2,e3,e4⟩:=x
 have hne:a≠d:=λe=>by
  subst e
  rw[e1]at ho
  cases ho
  rw[hd]at e3;cases e3
 exact⟨o',items,n,(hs.2 a hne).trans e1,e2,e3,Paired.Et e4 λk v q=>V.keeps q ho hd hs⟩
variable{A:Around}{E:Value->Shared->Prop}{s:Shared}
theorem A5{ks:List K}{a:Addr}{Q:Int->Shared->Prop}(hu:A.units+(V.cE+1)<cLine)(hk:TupIs V s.heap ks a)(h:Q (vg V ks) {s with toks:=s.toks+((ks.map V.draws).sum+1)}):wpAny (model prog w) A (pyHash (.ref a)) Q E s:=by
 have hT:=hk.ty
 have gH:A.units<cLine:=by omega
 obtain⟨o,items,n,ho,_,hd,hi⟩:=hk
 unfold pyHash
 first|unfold pyHashByItsType|skip
 first|refine aag (wpAny_cRoomFor_or (.inr gH) ?_)|skip
 refine aag (aaV hT F.slot_tuple_hash.lookup ?_);show wpAny _ _ (if (some (Value.builtin "tuple.__hash__")==some Value.none)=true then _ else _) Q E s
 rw[aah (by rw[beq_builtin_none];exact aat)];refine aag (aaV hT F.slot_tuple_hash.lookup ?_)
 show wpAny _ _ (callSpecialIfBoundUnlessNone? (.ref a) "__hash__" _ >>= _) Q E s;refine aag (wpAny_callSpecialIfBoundUnlessNone?_slot hT F.slot_tuple_hash (aa5 F.slot_tuple_hash hT F.entry_tuple_hash ?_ (F.args_tuple_hash_1 _)))
 have hu1:A.in1.units+V.cE<cLine:=by show A.units+1+V.cE<cLine;omega
 show wpAny _ _ (Builtin.Tuple.tupleItemsOf (.ref a) >>= _) _ _ s
 refine aag (wpAny_tupleItemsOf ho hd (aag ?_))
 rw[←Array.forIn_toList]
 refine wpAny_forIn_list _ (λrest (b:Array Int) s'=>∃done left,ks=done++left/\Paired (λk v=>V.is s.heap k v) left rest/\b.toList=done.map V.hash/\s'={s with toks:=s.toks+(done.map V.draws).sum}) _ ?_ ?_ _ _ ⟨[],ks,rfl,hi,rfl,rfl⟩
 ·rintro x rest b s' ⟨done,left,rfl,hl,hb,rfl⟩
  cases hl with
  |@cons k _ ks' _ h1 hl' =>
   have fin:∃d l,done++k::ks'=d++l/\Paired (λk v=>V.is s.heap k v) l rest/\(b.push (V.hash k)).toList=d.map V.hash/\({s with toks:=s.toks+(done.map V.draws).sum+V.draws k}:Shared)={s with toks:=s.toks+(d.map V.draws).sum}:=⟨done++[k],ks',by simp,hl',by simp[hb],by simp[Nat.add_assoc]⟩
   refine aag (V.pyHash hu1 h1 ?_)
   first
    |exact aak fin
    |exact aag (aak (aak fin))
 ·rintro b s' ⟨done,left,rfl,hl,hb,rfl⟩
  cases hl
  rw[aaU]at h
  show wpAny _ _ (retInt (Builtin.Tuple.tupleHashOf b.toList)) _ _ _
  rw[hb]
  refine wpAny_ret_mkInt ?_
  generalize hz:Builtin.Tuple.tupleHashOf (done.map V.hash)=z
  unfold vg reduceHash at h
  rw[hz]at h
  show wpAny _ _ (if (decide (-(2:Int) ^ 63<=z)&&decide (z<2 ^ 63))=true then _ else _) Q E _
  by_cases hr:(decide (-(2:Int) ^ 63<=z)&&decide (z<2 ^ 63))=true
  ·rw[aai hr]at h⊢
   exact aak (by simpa [Nat.add_assoc]using h)
  ·rw[aah hr]at h⊢
   exact aag (wpAny_rule (aak (by simpa [Nat.add_assoc]using h)))
theorem oS{x y:List K}:((List.range (min x.length y.length)).all (λj=>decide (x[j]?=y[j]?))&&x.length==y.length)=decide (x=y):=by
 rw[aaT,abo,abf,aaP,beq_iff_eq]
 constructor
 ·rintro⟨q,hl⟩
  refine List.ext_getElem? λi=>?_
  by_cases hi:i<x.length
  ·exact aa6 (q i (List.mem_range.mpr (by omega)))
  ·rw[List.getElem?_eq_none (by omega),List.getElem?_eq_none (by omega)]
 ·rintro rfl
  exact⟨λi _=>aar rfl,O⟩
theorem fh{F:K->Value->Prop}:∀{ks:List K}{vs:List Value},Paired F ks vs->∀(j:Nat) v,vs[j]?=some v->∃k,ks[j]?=some k/\F k v
 |_,_,.nil,j,v,h=>by simp at h
 |_,_,.cons a r,0,v,h=>by cases h;exact⟨_,rfl,a⟩
 |_,_,.cons a r,j+1,v,h=>by
  rw[List.getElem?_cons_succ]at h
  obtain⟨k,e,q⟩:=fh r j v h
  exact⟨k,by rw[List.getElem?_cons_succ];exact e,q⟩
theorem GO{x y:List K}{a b:Addr}(hu:A.units+(V.cE+1)<cLine)(hx:TupIs V s.heap x a)(hy:TupIs V s.heap y b):SeqAt.EqAt A s (.ref a) (.ref b) (decide (x=y)):=by
 by_cases e:a=b
 ·subst e
  rw[aar (hx.inj hy)]
  exact SeqAt.EqAt.same _
 ·obtain⟨o,items,n,h1,h2,h3,h4⟩:=hx
  obtain⟨o',items',n',LI,h2',h3',Je⟩:=hy
  have l1:x.length=items.size:=by rw[aa1 h4,aam]
  have l2:y.length=items'.size:=by rw[aa1 Je,aam]
  refine SeqAt.EqAt.of_refs e ?_
  rw[←oS,l1,l2]
  refine SeqAt.RcAt.tuples ⟨o,h1,h2,n,h3⟩ ⟨o',LI,h2',n',h3'⟩ (by omega) λj j1 j2=>?_
  obtain⟨k,ek,hk⟩:=fh h4 j items[j] (by simp[j1])
  obtain⟨k',Ob,hk'⟩:=fh Je j items'[j] (by simp[j2])
  rw[ek,Ob,show decide (some k=some k')=decide (k=k') by simp]
  exact V.eq (by show A.units+1+V.cE<cLine;omega) hk hk'
theorem yt{ks:List K}{a:Addr}{Q:Bool->Shared->Prop}{n:Nat}(hn:V.cE+1<=n)(hk:TupIs V s.heap ks a)(h:Q true s):wpAny (model prog w) A (eqIsQuiet n (.ref a)) Q E s:=by
 have hT:=hk.ty
 obtain⟨o,items,m,ho,_,hd,hi⟩:=hk
 obtain⟨n,rfl⟩:∃n',n=n'+1:=⟨n-1,by omega⟩
 unfold eqIsQuiet
 refine aag (aaV hT F.slot_tuple_eq.lookup ?_);show wpAny _ _ (isInstance (.ref a) (.type "tuple") >>= _) _ _ s
 refine aag (wpAny_isInstance hT isSubtype_tuple_tuple ?_)
 simp only[Bool.not_true,aaD,aaW]
 refine aag (wpAny_seqItems ho hd (aag ?_))
 show wpAny _ _ (forIn items _ _) _ _ s
 rw[←Array.forIn_toList]
 refine wpAny_forIn_list _ (λrest r s'=>r.1=none/\s'=s/\∃l,Paired (λk v=>V.is s.heap k v) l rest) _ ?_ ?_ _ _ ⟨rfl,rfl,ks,hi⟩
 ·rintro v rest r s' ⟨hr,rfl,l,hl⟩
  cases hl with
  |@cons k _ ks' _ h1 hl' =>
   refine aag (V.quiet (by omega) h1 ?_)
   simp only[Bool.not_true,aaD,aaW]
   exact aak ⟨rfl,rfl,ks',hl'⟩
 ·rintro⟨r1,r2⟩ s' ⟨hr,rfl,_⟩
  simp only at hr
  subst hr
  exact aak h
end
abbrev Lf:=Option Key
def A6:Lf->Value->Prop
 |none,v=>v=.none
 |some k,v=>sW k v=true
section
variable{prog:Program}{w:World}{A:Around}{E:Value->Shared->Prop}{s:Shared}
theorem EM{Q:Int->Shared->Prop}(hu:A.units<cLine)(h:Q 4238894112 {s with toks:=s.toks+1}):wpAny (model prog w) A (pyHash .none) Q E s:=by
 have hT:s.TypeIs .none "NoneType":=rfl
 unfold pyHash
 first|unfold pyHashByItsType|skip
 first|refine aag (wpAny_cRoomFor_or (.inr hu) ?_)|skip
 refine aag (aaV hT F.slot_NoneType_hash.lookup ?_)
 show wpAny _ _ (if (some (Value.builtin "NoneType.__hash__")==some Value.none)=true then _ else _) Q E s
 rw[aah (by rw[beq_builtin_none];exact aat)];refine aag (aaV hT F.slot_NoneType_hash.lookup ?_)
 show wpAny _ _ (callSpecialIfBoundUnlessNone? .none "__hash__" _ >>= _) Q E s
 refine aag (wpAny_callSpecialIfBoundUnlessNone?_slot hT F.slot_NoneType_hash (aa5 F.slot_NoneType_hash hT F.entry_NoneType_hash ?_ (F.args_NoneType_hash_1 _)))
 show wpAny _ _ (retInt 4238894112) _ _ _
 refine wpAny_ret_mkInt ?_
 show wpAny _ _ (if (decide (-(2:Int) ^ 63<=4238894112)&&decide ((4238894112:Int)<2 ^ 63))=true then _ else _) Q E _
 rw[aai (by decide)]
 exact aak h
theorem jC{k:Key}{v:Value}(h:sW k v=true):(∃i t,k=.inl i/\v=.int i t)\/∃z t,k=.inr z/\v=.str z t:=bY h
theorem GP(prog:Program)(w:World){v:Value}{x y:Lf}(hx:A6 x v)(hy:A6 y v):x=y:=by
 cases x with
 |none =>
  cases y with
  |none=>rfl
  |some k=>rcases jC hy with ⟨i,t,rfl,e⟩|⟨z,t,rfl,e⟩<;>(rw[show v=.none from hx]at e;cases e)
 |some k =>
  cases y with
  |none=>rcases jC hx with ⟨i,t,rfl,e⟩|⟨z,t,rfl,e⟩<;>(rw[show v=.none from hy]at e;cases e)
  |some k'=>rw[(j8 prog w).inj v k k' hx hy]
theorem KL{x y:Lf}{u v:Value}(hx:A6 x u)(hy:A6 y v):SeqAt.EqAt A s u v (decide (x=y)):=by
 cases x with
 |none =>
  have hx:u=.none:=hx
  subst hx
  cases y with
  |none =>
   have hy:v=.none:=hy
   subst hy
   rw[aar rfl];exact SeqAt.EqAt.same _
  |some k =>
   rw[aas (by simp)]
   rcases jC hy with ⟨i,t,rfl,rfl⟩|⟨z,t,rfl,rfl⟩
   ·exact SeqAt.EqAt.none_int _ _
   ·exact SeqAt.EqAt.none_str _ _
 |some k =>
  cases y with
  |none =>
   have hy:v=.none:=hy
   subst hy
   rw[aas (by simp)]
   rcases jC hx with ⟨i,t,rfl,rfl⟩|⟨z,t,rfl,rfl⟩
   ·exact SeqAt.EqAt.int_none _ _
   ·exact SeqAt.EqAt.str_none _ _
  |some k' =>
   rw[show decide (some k=some k')=decide (k=k') by simp]
   rcases jC hx with ⟨i,t,rfl,rfl⟩|⟨z,t,rfl,rfl⟩<;>rcases jC hy with ⟨i',t',rfl,rfl⟩|⟨z',t',rfl,rfl⟩
   ·rw[FH];exact SeqAt.EqAt.int_int _ _ _ _
   ·rw[FJ];exact SeqAt.EqAt.int_str _ _ _ _
   ·rw[FL];exact SeqAt.EqAt.str_int _ _ _ _
   ·rw[FI,show decide (z=z')=(z==z') by rw[aaT,aaP,beq_iff_eq]];exact SeqAt.EqAt.str_str _ _ _ _
theorem CG{x:Lf}{v:Value}(h:A6 x v):carriedByValue v=true:=by
 cases x with
 |none=>rw[show v=.none from h];rfl
 |some k=>rcases jC h with ⟨i,t,rfl,rfl⟩|⟨z,t,rfl,rfl⟩<;>rfl
end
def GQ(w:World):Lf->Int
 |none=>4238894112
 |some k=>Nq w k
def A7(prog:Program)(w:World):gO prog w Lf where
 is:=λ_ k v=>A6 k v
 hash:=GQ w
 draws:=λ_=>1
 cE:=0
 inj:=λhx hy=>GP prog w hx hy
 keeps:=λh _ _ _=>h
 pyHash:=λ{A E s k v Q} hu h q=>by
  cases k with
  |none =>
   have h:v=.none:=h
   subst h
   exact EM hu q
  |some k=>exact(j8 prog w).pyHash h q
 eq:=λ_ hx hy=>KL hx hy
 quiet:=λ{A E s k v Q n} _ h q=>by rw[eqIsQuiet_byValue n (CG h)];exact aak q
section
variable{prog:Program}{w:World}{K:Type}[DecidableEq K](V:gO prog w K)
def LJ(h:Heap):Lf⊕List K->Value->Prop
 | .inl k,v=>A6 k v
 | .inr ks,v=>∃a,v=.ref a/\TupIs V h ks a
def LK:Lf⊕List K->Int
 | .inl k=>GQ w k
 | .inr ks=>vg V ks
def Jf:Lf⊕List K->Nat
 | .inl _=>1
 | .inr ks=>(ks.map V.draws).sum+1
variable{V}
theorem GR{k:Lf}{a:Addr}(h:A6 k (.ref a)):False:=by
 cases k with
 |none=>cases(show Value.ref a=.none from h)
 |some k=>rcases jC h with ⟨i,t,rfl,e⟩|⟨z,t,rfl,e⟩<;>cases e
theorem Oc{A:Around}{s:Shared}{x y:Lf⊕List K}{u v:Value}(hu:A.units+(V.cE+1)<cLine)(hx:LJ V s.heap x u)(hy:LJ V s.heap y v):SeqAt.EqAt A s u v (decide (x=y)):=by
 cases x with
 |inl k =>
  cases y with
  |inl k' =>
   rw[show decide ((Sum.inl k:Lf⊕List K)=.inl k')=decide (k=k') by simp]
   exact KL hx hy
  |inr ks =>
   obtain⟨a,rfl,o,items,n,h1,h2,h3,h4⟩:=hy
   rw[aas (λq=>nomatch q)]
   cases k with
   |none =>
    have hx:u=.none:=hx
    subst hx
    exact SeqAt.EqAt.none_tuple ⟨o,h1,h2,n,h3⟩ (by omega)
   |some k =>
    rcases jC hx with ⟨i,t,rfl,rfl⟩|⟨z,t,rfl,rfl⟩
    ·exact SeqAt.EqAt.int_tuple _ _ ⟨o,h1,h2,n,h3⟩ (by omega)
    ·exact SeqAt.EqAt.str_tuple _ _ ⟨o,h1,h2,n,h3⟩ (by omega)
 |inr ks =>
  obtain⟨a,rfl,hxa⟩:=hx
  cases y with
  |inl k' =>
   obtain⟨o,items,n,h1,h2,h3,h4⟩:=hxa
   rw[aas (λq=>nomatch q)]
   cases k' with
   |none =>
    have hy:v=.none:=hy
    subst hy
    exact SeqAt.EqAt.tuple_none ⟨o,h1,h2,n,h3⟩ (by omega)
   |some k =>
    rcases jC hy with ⟨i,t,rfl,rfl⟩|⟨z,t,rfl,rfl⟩
    ·exact SeqAt.EqAt.tuple_int _ _ ⟨o,h1,h2,n,h3⟩ (by omega)
    ·exact SeqAt.EqAt.tuple_str _ _ ⟨o,h1,h2,n,h3⟩ (by omega)
  |inr ks' =>
   obtain⟨b,rfl,Rz⟩:=hy
   rw[show decide ((Sum.inr ks:Lf⊕List K)=.inr ks')=decide (ks=ks') by simp]
   exact GO hu hxa Rz
def stepK(V:gO prog w K):gO prog w (Lf⊕List K) where
 is:=LJ V
 hash:=LK V
 draws:=Jf V
 cE:=V.cE+1
 inj:=λ{h v x y} hx hy=>by
  cases x with
  |inl k =>
   cases y with
   |inl k'=>rw[GP prog w hx hy]
   |inr ks=>obtain⟨a,rfl,_⟩:=hy;exact(GR hx).elim
  |inr ks =>
   obtain⟨a,rfl,hxa⟩:=hx
   cases y with
   |inl k'=>exact(GR hy).elim
   |inr ks'=>obtain⟨b,e,Rz⟩:=hy;cases e;rw[hxa.inj Rz]
 keeps:=λ{h h' k v d o es ep} hx ho hd hs=>by
  cases k with
  |inl k=>exact hx
  |inr ks=>obtain⟨a,rfl,hxa⟩:=hx;exact⟨a,rfl,hxa.keeps ho hd hs⟩
 pyHash:=λ{A E s k v Q} hu hx q=>by
  cases k with
  |inl k=>exact(A7 prog w).pyHash (by show A.units+0<cLine;omega) hx q
  |inr ks=>obtain⟨a,rfl,hxa⟩:=hx;exact A5 hu hxa q
 eq:=λhu hx hy=>Oc hu hx hy
 quiet:=λ{A E s k v Q n} hn hx q=>by
  cases k with
  |inl k=>exact(A7 prog w).quiet (aaK _) hx q
  |inr ks=>obtain⟨a,rfl,hxa⟩:=hx;exact yt hn hxa q
def om(V:gO prog w K)(hl:V.cE+1<=8):HeapKind prog w (List K) where
 is:=TupIs V
 hash:=vg V
 draws:=λks=>(ks.map V.draws).sum+1
 room:=λA=>A.units+(V.cE+1)<cLine
 inj:=λhx hy=>hx.inj hy
 keeps:=λx ho hd hs=>x.keeps ho hd hs
 pyHash:=λhu hk h=>A5 hu hk h
 eqBool:=λhu hx hy h=>GO hu hx hy prog w _ _ h
 quiet:=λhk h=>yt hl hk h
end
section
variable{κ:Type}[DecidableEq κ]
theorem pQ.rm{o:Option V}{u:Option Value}(r:pQ o u):o.isSome=u.isSome:=by
 cases o with
 |none=>cases u with
  |none=>rfl
  |some _=>exact(show False from r).elim
 |some _=>cases u with
  |none=>exact(show False from r).elim
  |some _=>rfl
theorem KV.length{kvs:List (κ×V)}{vs:List (κ×Value)}(r:KV kvs vs):kvs.length=vs.length:=aa1 r
end
theorem Od{P:Program}{w:World}{k:Key}{u:Value}(r:RelV (kV k) u):(j8 P w).is k u=true:=by
 cases k with
 |inl i=>obtain⟨t,e⟩:=(show ∃t,u=Value.int i t from r);subst e;exact AR P w i t
 |inr x=>obtain⟨t,e⟩:=(show ∃t,u=Value.str x t from r);subst e;exact AS P w x t
section
variable{P:Program}{w:World}{H:Hp}{h:Heap}{a:Addr}
end
section
variable{X:Cx}{pins:List (Addr×Obj)}{σ:St}{H:Hp}{s:Shared}{a:Addr}{y v:V}{u r:Value}{o:Option V}{A:Around}{E:Value->Shared->Prop}
theorem Inv.big(I:Inv X pins σ H s):sysModules<s.heap.objs.size:=by
 have h:mainGlobals<s.heap.objs.size:=(I.mod.glob.keeps I.bk).lt
 exact Nat.lt_trans (by decide) h
end
section
variable{X:Cx}{pins:List (Addr×Obj)}{σ:St}{H:Hp}{s:Shared}{a:Addr}{kvs:List (Key×V)}{k:Key}{u:Value}{A:Around}{E:Value->Shared->Prop}
end
def LL(i:Expr):Prop:=∀ov iv,subscripted i false ov iv=operate [ov,iv] (getItem ov iv)
theorem Jg{prog:Program}{w:World}{A:Around}{E:Value->Shared->Prop}{s:Shared}{env:Env}{value slice:Expr}{pos:Pos}{T id:String}{Q:Value->Shared->Prop}(hl:typeLookup (.type T) "__getitem__"=pure (some (.builtin id)))(hs:LL slice)(h:wpAny (model prog w) A (eval value env) (λo s₁=>wpAny (model prog w) A (eval slice env) (λi s₂=>s₂.TypeIs o T/\wpAny (model prog w) A (getItem o i) Q E s₂) E s₁) E s):wpAny (model prog w) A (eval (.Subscript value slice pos) env) Q E s:=by
 refine Subscript_ (abb h (λo s₁ h₁=>abb h₁ (λi s₂ h₂=>?_) λ_ _ x=>x) λ_ _ x=>x)
 obtain⟨hT,h₂⟩:=h₂
 unfold subscriptTail
 refine aag ?_
 rw[getitemInPython_of_ne hT.not_modules]
 refine aag (aaV hT hl ?_)
 have fin:wpAny (model prog w) A (subscripted slice false o i) (λr s₃=>wpAny (model prog w) A (letTemporaryGo value o r >>= λ_=>pure r) Q E s₃) E s₂:=by
  rw[hs o i]
  exact wpAny_operating (abb h₂ (λr s₃ h₃=>aag (wpAny_letTemporaryGo (aak h₃))) λ_ _ x=>x)
 first
  |exact aak (aag fin)
  |exact aag (aak (aag fin))
  |exact aag fin
section
variable{X:Cx}{o i e value:Expr}{pos pos' tpos:Pos}{td ty tv:TE}
end
section
variable{X:Cx}{pos:Pos}
end
structure M1(X:Cx)(o:Expr)(m:Str)(apos:Pos)(e:Expr)(cpos:Pos):Prop where
 base:attributeBase o m X.env (eval o X.env)=eval o X.env
 few:((backTo cpos (starEach [e] X.env)).all (λx=>!x.1)&&(backToKw cpos (keywordEach [] X.env)).all (λx=>x.1.isSome)
  && decide (([e]:List Expr).length+([]:List Keyword).length+(if ([]:List Keyword).isEmpty then 0 else 1)<30))=true
 line:(apos.endLine==cpos.line)=true
 trees:backTo cpos (starEach [e] X.env)=[(false,eval e X.env)]
structure M2(X:Cx)(o:Expr)(m:Str)(apos:Pos)(e f:Expr)(cpos:Pos):Prop where
 base:attributeBase o m X.env (eval o X.env)=eval o X.env
 few:((backTo cpos (starEach [e,f] X.env)).all (λx=>!x.1)&&(backToKw cpos (keywordEach [] X.env)).all (λx=>x.1.isSome)
  && decide (([e,f]:List Expr).length+([]:List Keyword).length+(if ([]:List Keyword).isEmpty then 0 else 1)<30))=true
 line:(apos.endLine==cpos.line)=true
 trees:backTo cpos (starEach [e,f] X.env)=[(false,eval e X.env),(false,eval f X.env)]
section
variable{X:Cx}{pins:List (Addr×Obj)}{σ:St}{H:Hp}{s:Shared}{a:Addr}{y d:V}{u r:Value}{o:Option V}{A:Around}{E:Value->Shared->Prop}
end
section
variable{X:Cx}{o e f:Expr}{apos cpos:Pos}{td ty tx:TE}
end
section
variable{X:Cx}{pins:List (Addr×Obj)}{σ:St}{H:Hp}{s:Shared}{a:Addr}{kvs:List (Key×V)}{A:Around}{E:Value->Shared->Prop}
end
section
variable{X:Cx}{pins:List (Addr×Obj)}{σ:St}{H:Hp}{s:Shared}{a:Addr}{y:V}{u:Value}{A:Around}{E:Value->Shared->Prop}
end
def Ws:Lf->V
 |none=>.non
 |some k=>kV k
theorem mw{α β γ:Type}{F:α->β->Prop}{G:β->γ->Prop}:∀{xs:List α}{ys:List β}{zs:List γ},Paired F xs ys->Paired G ys zs->Paired (λa c=>∃b,F a b/\G b c) xs zs
 |_,_,_,.nil,.nil=>.nil
 |_,_,_,.cons a r,.cons b q=>.cons ⟨_,a,b⟩ (mw r q)
section
variable{P:Program}{w:World}{K:Type}[DecidableEq K]
structure jh(F:W.Frag)(Z:gO P w K) where
 on:Hp->K->V->Prop
 ok:∀{X:Cx}{pins:List (Addr×Obj)}{σ:St}{H:Hp}{s:Shared}{k:K}{v:V}{u:Value},X.K=F->Inv X pins σ H s->RelV v u->on H k v->Z.is s.heap k u
 keep:∀{H H':Hp}{k:K}{v:V},(∀b xs,aK F H b xs->aK F H' b xs)->on H k v->on H' k v
def k9{F:W.Frag}{Z:gO P w K}(Y:jh F Z)(H:Hp)(ks:List K)(b:Addr):Prop:=∃vs,aK F H b vs/\Paired (λk v=>Y.on H k v) ks vs
variable{F:W.Frag}{Z:gO P w K}{Y:jh F Z}{H H':Hp}{ks:List K}{b:Addr}
theorem k9.is{X:Cx}{pins:List (Addr×Obj)}{σ:St}{s:Shared}(hF:X.K=F)(I:Inv X pins σ H s)(e:k9 Y H ks b):TupIs Z s.heap ks b:=by
 obtain⟨vs,e,r⟩:=e
 obtain⟨its,rv,⟨o,h1,h2,n,h3⟩,_⟩:=I.tuple (by rw[hF];exact e)
 exact⟨o,its.toArray,n,h1,h2,h3,by simpa using Paired.Et (mw r rv) (λk u ⟨v,a,c⟩=>Y.ok hF I c a)⟩
theorem k9.keep(t:∀b xs,aK F H b xs->aK F H' b xs)(e:k9 Y H ks b):k9 Y H' ks b:=by
 obtain⟨vs,e,r⟩:=e
 exact⟨vs,t _ _ e,Paired.Et r λk v q=>Y.keep t q⟩
theorem k9.mono(s:∀a o,H a=some o->H' a=some o)(e:k9 Y H ks b):k9 Y H' ks b:=e.keep λb xs q=>by
 rcases q with (q|⟨o,q⟩)|q
 ·exact .inl (.inl (s _ _ q))
 ·exact .inl (.inr ⟨o,s _ _ q⟩)
 ·exact .inr q
end
def GS(P:Program)(w:World)(F:W.Frag):jh F (A7 P w) where
 on:=λ_ k v=>v=Ws k
 ok:=λ{X pins σ H s k v u} _ _ r e=>by
  subst e
  cases k with
  |none=>cases r;rfl
  |some k=>exact Od (P:=P) (w:=w) r
 keep:=λ_ e=>e
section
variable{P:Program}{w:World}{K:Type}[DecidableEq K]
def RA{F:W.Frag}{Z:gO P w K}(Y:jh F Z)(H:Hp):Lf⊕List K->V->Prop
 | .inl k,v=>v=Ws k
 | .inr ks,v=>∃b,v=.ref b/\k9 Y H ks b
def g9{F:W.Frag}{Z:gO P w K}(Y:jh F Z):jh F (stepK Z) where
 on:=RA Y
 ok:=λ{X pins σ H s k v u} hF I r e=>by
  cases k with
  |inl k=>exact(GS P w F).ok hF I r e
  |inr ks =>
   obtain⟨b,rfl,e⟩:=e
   cases r
   exact⟨b,O,e.is hF I⟩
 keep:=λ{H H' k v} t e=>by
  cases k with
  |inl k=>exact e
  |inr ks=>obtain⟨b,rfl,e⟩:=e;exact⟨b,rfl,e.keep t⟩
abbrev N3(K:Type):=List K×Addr×V
abbrev rq:List (N3 K)->List (List K×Addr×Value)->Prop:=Paired λp q=>p.1=q.1/\p.2.1=q.2.1/\RelV p.2.2 q.2.2
def yu(Z:gO P w K)(hl:Z.cE+1<=8)(a:Addr)(kvs:List (N3 K))(h:Heap):Prop :=
 kvs.length<=sizeLine/\(a==sysModules)=false/\∃xs,rq kvs xs/\∃o es ep,h.get? a=some o/\o.ExactDict/\o.data=.dict es ep/\es.toList=xs.map (entryOfKey (om Z hl))/\(xs.map (·.1)).Nodup
def dN(Z:gO P w K)(hl:Z.cE+1<=8)(a:Addr)(kvs:List (N3 K)):HO:=.ext (yu Z hl a kvs)
structure Nd{F:W.Frag}{Z:gO P w K}(Y:jh F Z)(hl:Z.cE+1<=8)(H:Hp)(a:Addr)(kvs:List (N3 K)):Prop where
 ob:H a=some (dN Z hl a kvs)
 keys:∀e∈kvs,k9 Y H e.1 e.2.1
variable{F:W.Frag}{Z:gO P w K}{Y:jh F Z}{hl:Z.cE+1<=8}{H H':Hp}{h:Heap}{a b:Addr}{kvs:List (N3 K)}
theorem Nd.mono(s:∀a o,H a=some o->H' a=some o)(d:Nd Y hl H a kvs):Nd Y hl H' a kvs:=⟨s _ _ d.ob,λe he=>(d.keys e he).mono s⟩
theorem A8{xs:List (List K×Addr×Value)}:∀{kvs:List (N3 K)},rq kvs xs->∀q∈xs,∃p∈kvs,p.1=q.1/\p.2.1=q.2.1:=by
 intro kvs r
 induction r with
 |nil=>intro q hq;cases hq
 |cons a r ih =>
  intro q hq
  rcases aaE.mp hq with rfl|hq
  ·exact⟨_,aaA ..,a.1,a.2.1⟩
  ·obtain⟨p,hp,e⟩:=ih q hq
   exact⟨p,aaw _ hp,e⟩
theorem Nd.of{X:Cx}{K:Type}[DecidableEq K]{F:W.Frag}{Z:gO X.prog X.w K}{Y:jh F Z}{hl:Z.cE+1<=8}{H:Hp}{a:Addr}{kvs:List (N3 K)}{pins:List (Addr×Obj)}{σ:St}{s:Shared}(hF:X.K=F)(I:Inv X pins σ H s)(d:Nd Y hl H a kvs):kvs.length<=sizeLine/\(a==sysModules)=false/\∃xs,rq kvs xs/\s.heap.DictOfH (om Z hl) a xs:=by
 obtain⟨⟨z,y,xs,r,o,es,ep,h1,h2,h3,h4,h5⟩,_⟩:=(show cM X.prog X.w H s.heap a (dN Z hl a kvs) from I.hok a _ d.ob)
 refine⟨z,y,xs,r,o,es,ep,h1,h2,h3,h4,λx hx=>?_,h5⟩
 obtain⟨p,hp,e1,e2⟩:=A8 r x hx
 have:=(d.keys p hp).is hF I
 rw[e1,e2]at this
 exact this
theorem D4{h':Heap}{xs:List (List K×Addr×Value)}(z:kvs.length<=sizeLine)(y:(a==sysModules)=false)(r:rq kvs xs)(dd:h'.DictOfH (om Z hl) a xs):cM P w H h' a (dN Z hl a kvs):=by
 obtain⟨o,es,ep,h1,h2,h3,h4,_,h5⟩:=dd
 refine⟨⟨z,y,xs,r,o,es,ep,h1,h2,h3,h4,h5⟩,⟨o,h1⟩,λg1 g2 q k=>?_⟩
 obtain⟨z,y,xs,r,o,es,ep,h1,h2,h3,h4,h5⟩:=q
 exact⟨z,y,xs,r,o,es,ep,k _ h1,h2,h3,h4,h5⟩
def valN(kvs:List (N3 K))(k:List K):Option V:=(kvs.find? λx=>decide (x.1=k)).map (·.2.2)
theorem mC{k:List K}:∀{kvs:List (N3 K)}{xs:List (List K×Addr×Value)},rq kvs xs->pQ (valN kvs k) ((atKey xs k).map (·.2))
 |_,_,.nil=>trivial
 |p::kvs,q::xs,.cons a r=>by
  have ih:=mC (k:=k) r
  unfold valN atKey at ih⊢
  rw[abk,abk,a.1]
  by_cases e:q.1=k
  ·rw[aar e];exact a.2.2
  ·rw[aas e];exact ih
def putN(kvs:List (N3 K))(k:List K)(b:Addr)(v:V):List (N3 K):=if (valN kvs k).isSome=true then kvs.map (λx=>if x.1=k then (x.1,x.2.1,v) else x) else kvs++[(k,b,v)]
theorem pY{k:List K}{v:V}(h:valN kvs k=none):putN kvs k b v=kvs++[(k,b,v)]:=by unfold putN;rw[h];rfl
theorem A9{k:List K}{v:V}{u:Value}(rv:RelV v u):∀{kvs:List (N3 K)}{xs:List (List K×Addr×Value)},rq kvs xs->rq (kvs.map (λx=>if x.1=k then (x.1,x.2.1,v) else x)) (xs.map (putAt k u))
 |_,_,.nil=>.nil
 |p::kvs,q::xs,.cons a r=>by
  refine .cons ?_ (A9 rv r)
  unfold putAt
  by_cases e:q.1=k
  ·rw[aai e,show(λx:N3 K=>if x.1=k then (x.1,x.2.1,v) else x) p=(p.1,p.2.1,v) from aai (a.1.trans e)];exact⟨a.1,a.2.1,rv⟩
  ·rw[aah e,show(λx:N3 K=>if x.1=k then (x.1,x.2.1,v) else x) p=p from aah (λq=>e (a.1.symm.trans q))];exact a
theorem Ba{kvs':List (N3 K)}{xs':List (List K×Addr×Value)}:∀{kvs:List (N3 K)}{xs:List (List K×Addr×Value)},rq kvs xs->rq kvs' xs'->rq (kvs++kvs') (xs++xs')
 |_,_,.nil,q=>q
 |_,_,.cons a r,q=>.cons a (Ba r q)
theorem GU{k:List K}{v:V}{u:Value}{xs:List (List K×Addr×Value)}(r:rq kvs xs)(rv:RelV v u):rq (putN kvs k b v) (storedH xs k b u):=by
 have q:=(mC (k:=k) r).rm
 rw[Option.isSome_map]at q
 unfold putN storedH
 by_cases e:(valN kvs k).isSome=true
 ·rw[aai e,aai (by rw[←q];exact e)];exact A9 rv r
 ·rw[aah e,aah (by rw[←q];exact e)];exact Ba r (.cons ⟨rfl,rfl,rv⟩ .nil)
theorem GV{k:List K}{v:V}:(putN kvs k b v).length<=kvs.length+1:=by
 unfold putN
 split
 ·rw[aaq];omega
 ·rw[aav];exact aaj _
theorem mD(d:H a=some (dN Z hl a kvs)){o:HO}:∀c xs,aK F H c xs->aK F (upd H a o) c xs:=λc xs e=>by
 rcases e with (e|⟨ob,e⟩)|e
 ·exact .inl (.inl ((aH (oh e d (λq=>nomatch q))).trans e))
 ·exact .inl (.inr ⟨ob,(aH (oh e d (λq=>nomatch q))).trans e⟩)
 ·exact .inr e
theorem Nd.put{k:List K}{v:V}(d:Nd Y hl H a kvs)(e:k9 Y H k b):Nd Y hl (upd H a (dN Z hl a (putN kvs k b v))) a (putN kvs k b v):=by
 refine⟨aj,λp hp=>?_⟩
 have t:=mD (F:=F) d.ob (o:=dN Z hl a (putN kvs k b v))
 unfold putN at hp
 split at hp
 ·obtain⟨x,hx,rfl⟩:=aaF.mp hp
  have:=(d.keys x hx).keep t
  split<;>exact this
 ·rcases aaY.mp hp with q|q
  ·exact(d.keys p q).keep t
  ·rw[aau.mp q];exact e.keep t
end
section
variable{X:Cx}{K:Type}[DecidableEq K]{F:W.Frag}{Z:gO X.prog X.w K}{Y:jh F Z}{hl:Z.cE+1<=8}{pins:List (Addr×Obj)}{σ:St}{H:Hp}{s:Shared}{a b:Addr}{kvs:List (N3 K)}{k:List K}{v:V}{r:Value}{A:Around}{E:Value->Shared->Prop}
theorem EN{Q:Value->Shared->Prop}(hu:A.units+1+(Z.cE+1)<cLine)(hF:X.K=F)(I:Inv X pins σ H s)(d:Nd Y hl H a kvs)(e:k9 Y H k b)(g:valN kvs k=some v)(h:∀w' s',Inv X pins σ H s'->RelV v w'->Q w' s'):wpAny (model X.prog X.w) A (getItem (.ref a) (.ref b)) Q E s:=by
 obtain⟨z,y,xs,rel,dd⟩:=d.of hF I
 obtain⟨w',hw,rw'⟩:=pQ.some_of (v:=v) (o:=(atKey xs k).map (·.2)) (by rw[←g];exact mC rel)
 obtain⟨p,hp,hp2⟩:=Option.map_eq_some_iff.mp hw
 refine wpAny_getItem_heap (knd:=om Z hl) hu (e.is hF I) dd hp ?_
 rw[hp2]
 exact h w' _ (I.tok _) rw'
theorem Jh{Q:Value->Shared->Prop}(hu:A.units+1+(Z.cE+1)<cLine)(hF:X.K=F)(I:Inv X pins σ H s)(d:Nd Y hl H a kvs)(e:k9 Y H k b)(h:∀s',Inv X pins σ H s'->Q (.bool (!(valN kvs k).isSome)) s'):wpAny (model X.prog X.w) A (compareOp .NotIn (.ref b) (.ref a)) Q E s:=by
 obtain⟨z,y,xs,rel,dd⟩:=d.of hF I
 refine wpAny_notIn_heap (knd:=om Z hl) hu (e.is hF I) y dd ?_
 have q:=(mC (k:=k) rel).rm
 rw[Option.isSome_map]at q
 rw[←q]
 exact h _ (I.tok _)
theorem EO{Q:Unit->Shared->Prop}(hu:A.units+1+(Z.cE+1)<cLine)(hF:X.K=F)(I:Inv X pins σ H s)(d:Nd Y hl H a kvs)(e:k9 Y H k b)(hz:kvs.length<sizeLine)(rv:RelV v r)(h:∀s',Inv X pins σ (upd H a (dN Z hl a (putN kvs k b v))) s'->Q () s'):wpAny (model X.prog X.w) A (setItem (.ref a) (.ref b) r) Q E s:=by
 obtain⟨z,y,xs,rel,dd⟩:=d.of hF I
 have hxz:xs.length<=sizeLine:=by rw[←aa1 rel];exact z
 refine wpAny_setItem_heap (knd:=om Z hl) (hsz:=hxz) hu (e.is hF I) dd λh' GW hs=>h _ ?_
 have he:∃q,h'.get? a=some q:=let ⟨q,_,_,hq,_⟩:=GW;⟨q,hq⟩
 have:=GV (kvs:=kvs) (k:=k) (b:=b) (v:=v)
 exact I.write (x:=a) (e:=a) (by rw[d.ob];exact True.intro) (.inl rfl) (λc q hc z=>(hs.2 c hc).trans z) he (D4 (by omega) y (GU rel rv) GW)
variable{o i value kx:Expr}{pos pos':Pos}{td ty tv:TE}
def KN{P:Program}{w:World}{K:Type}[DecidableEq K]{F:W.Frag}{Z:gO P w K}(Y:jh F Z)(hl:Z.cE+1<=8)(td ty:TE):TE:=λσ H Q=>td σ H λx H1=>ty σ H1 λy H2=>∃a kvs k b v,x=.ref a/\y=.ref b/\Nd Y hl H2 a kvs/\k9 Y H2 k b/\valN kvs k=some v/\Q v H2
def D5{P:Program}{w:World}{K:Type}[DecidableEq K]{F:W.Frag}{Z:gO P w K}(Y:jh F Z)(hl:Z.cE+1<=8)(ty td:TE):TE:=λσ H Q=>ty σ H λy H1=>td σ H1 λx H2=>∃a kvs k b,x=.ref a/\y=.ref b/\Nd Y hl H2 a kvs/\k9 Y H2 k b/\Q (.bl (!(valN kvs k).isSome)) H2
def KO{P:Program}{w:World}{K:Type}[DecidableEq K]{F:W.Frag}{Z:gO P w K}(Y:jh F Z)(hl:Z.cE+1<=8)(td ty tv:TE):TS:=λD σ H=>tv σ H λv H1=>td σ H1 λx H2=>ty σ H2 λy H3=>∃a kvs k b,x=.ref a/\y=.ref b/\Nd Y hl H3 a kvs/\k9 Y H3 k b/\kvs.length<sizeLine/\D.nx σ (upd H3 a (dN Z hl a (putN kvs k b v)))
def KP{P:Program}{w:World}{K:Type}[DecidableEq K]{F:W.Frag}{Z:gO P w K}(Y:jh F Z)(hl:Z.cE+1<=8)(tk tv:TE):TE:=λσ H Q=>∀p,H p=none->tk σ (upd H p (dN Z hl p [])) λy H1=>tv σ H1 λv H2=>∃k b,y=.ref b/\H2 p=some (dN Z hl p [])/\k9 Y H2 k b/\Q (.ref p) (upd H2 p (dN Z hl p [(k,b,v)]))
theorem Ji(Y:jh F Z)(hl:Z.cE+1<=8)(hF:X.K=F)(hu:X.A.units+1+(Z.cE+1)<cLine)(ho:PE X o td)(hi:PE X i ty)(hs:LL i):PE X (.Subscript o i pos) (KN Y hl td ty):=by
 intro pins s σ H Q I h
 refine Jg PySem.F.slot_dict_getitem.lookup hs (cO (ho pins s σ H _ I h) λu s1 ⟨x,H1,I1,rx,q1⟩=>cO (hi pins s1 σ H1 _ I1 q1) λiv s2 ⟨y,H2,I2,ry,a,kvs,k,b,v,ex,ey,d,e,g,q2⟩=>?_)
 subst ex ey
 obtain rfl:u=Value.ref a:=rx
 obtain rfl:iv=Value.ref b:=ry
 obtain⟨_,_,xs,_,dd⟩:=d.of hF I2
 exact⟨dd.typeIs,EN hu hF I2 d e g λw' s3 I3 rw'=>⟨v,H2,I3,rw',q2⟩⟩
theorem ER(Y:jh F Z)(hl:Z.cE+1<=8)(hF:X.K=F)(hu:X.A.units+1+(Z.cE+1)<cLine)(hi:PE X i ty)(ho:PE X o td):PC X .NotIn i o (D5 Y hl ty td):=by
 intro pins s σ H Q I h
 refine cO (hi pins s σ H _ I h) λiv s1 ⟨y,H1,I1,ry,q1⟩=>cO (ho pins s1 σ H1 _ I1 q1) λu s2 ⟨x,H2,I2,rx,a,kvs,k,b,ex,ey,d,e,q2⟩=>?_
 subst ex ey
 obtain rfl:u=Value.ref a:=rx
 obtain rfl:iv=Value.ref b:=ry
 exact Jh hu hF I2 d e λs3 I3=>⟨.bl (!(valN kvs k).isSome),H2,I3,rfl,q2⟩
theorem Jj(Y:jh F Z)(hl:Z.cE+1<=8)(hF:X.K=F)(hu:X.A.units+1+(Z.cE+1)<cLine)(ho:PE X o td)(hi:PE X i ty)(hv:PE X value tv)(hs:swapsWith value (some (.Subscript o i pos')) pos.line X.env=pure false):PS X (.Assign [.Subscript o i pos'] value pos) (KO Y hl td ty tv):=by
 intro pins s σ H D I h
 refine wpAny_Assign_Subscript (cO (hv pins s σ H _ I h) λr s1 ⟨v,H1,I1,rv,q1⟩=>cO (ho pins s1 σ H1 _ I1 q1) λu s2 ⟨x,H2,I2,rx,q2⟩=>cO (hi pins s2 σ H2 _ I2 q2) λiv s3 ⟨y,H3,I3,ry,a,kvs,k,b,ex,ey,d,e,hz,q3⟩=>?_) hs
 subst ex ey
 obtain rfl:u=Value.ref a:=rx
 obtain rfl:iv=Value.ref b:=ry
 exact EO hu hF I3 d e hz rv λs4 I4=>⟨σ,_,I4,q3⟩
theorem GX(Y:jh F Z)(hl:Z.cE+1<=8)(hF:X.K=F)(hu:X.A.units+(Z.cE+1)<cLine){tk:TE}(hk:PE X kx tk)(hv:PE X value tv):PE X (.Dict [some kx] [value] pos) (KP Y hl tk tv):=by
 intro pins s σ H Q I q
 have hn:=I.hok.fresh (aaj s.heap.objs.size)
 have y0:(s.heap.objs.size==sysModules)=false:=abn.mpr (Ne.symm (aaM I.big))
 have I1:=I.laid (a:=s.heap.objs.size) (o:=dN Z hl s.heap.objs.size []) (h':=s.heap.push {cls:=.type "dict",data:=.dict #[]}) (t':=s.toks) (λ_ _ q=>aan _ q) (aaj _) (D4 (xs:=[]) (aaK _) y0 .nil (Heap.DictOfH.new s.heap))
 refine wpAny_Dict_any rfl rfl (λz=>nomatch z) (by show 1<=15;decide) (pairTrees_cons_walk (cO (hk pins _ σ _ _ I1 (q _ hn)) λu s1 ⟨x,H1,Yt,rx,q1⟩=>cO (hv pins s1 σ H1 _ Yt q1) λvu s2 ⟨v,H2,I2,rv,k,b,ex,e,ek,q2⟩=>pairTrees_nil_walk ?_))
 subst ex
 obtain rfl:u=Value.ref b:=rx
 have d0:Nd Y hl H2 s.heap.objs.size []:=⟨e,λx hx=>nomatch hx⟩
 obtain⟨z,y,xs,rel,dd⟩:=d0.of hF I2
 cases rel
 unfold storeAll
 refine wpAny_forIn_list _ (λrest _ s'=>(rest=[(Value.ref b,vu)]/\s'=s2)\/(rest=[]/\EP X pins σ Q (Value.ref s.heap.objs.size) s')) _ ?_ ?_ _ _ (.inl ⟨rfl,rfl⟩)
 ·rintro x rest u s' (⟨e1,rfl⟩|⟨e1,_⟩)
  ·cases e1
   refine aag (wpAny_dictSet_heap (knd:=om Z hl) (hsz:=aaK _) hu (ek.is hF I2) dd λh' GW hs=>aak (.inr ⟨rfl,.ref s.heap.objs.size,_,?_,rfl,q2⟩))
   have he:∃q,h'.get? s.heap.objs.size=some q:=let ⟨q,_,_,hq,_⟩:=GW;⟨q,hq⟩
   exact I2.write (x:=s.heap.objs.size) (e:=s.heap.objs.size) (by rw[e];exact True.intro) (.inl rfl) (λc q hc z=>(hs.2 c hc).trans z) he (D4 (by show 1<=sizeLine;decide) y (.cons ⟨rfl,rfl,rv⟩ .nil) GW)
  ·cases e1
 ·rintro u s' (⟨e1,_⟩|⟨_,q⟩)
  ·cases e1
  ·exact q
end
section
variable{X:Cx}{K:Type}[DecidableEq K]{F:W.Frag}{Z:gO X.prog X.w K}
def RB{P:Program}{w:World}{K:Type}[DecidableEq K]{F:W.Frag}{Z:gO P w K}(Y:jh F Z):R2:=λx y H Q=>∃b b' ks ks',x=.ref b/\y=.ref b'/\k9 Y H ks b/\k9 Y H ks' b'/\Q (.bl (decide (ks=ks'))) H
theorem rz(Y:jh F Z)(hF:X.K=F)(hu:X.A.units+(Z.cE+1)<cLine):kg X (compareOp .Eq) (RB Y):=by
 intro pins s σ H x y v u Q I rx ry h
 obtain⟨b,b',ks,ks',rfl,rfl,e1,e2,q⟩:=h
 cases rx;cases ry
 obtain⟨o,items,n,h1,h2,h3,h4⟩:=e1.is hF I
 obtain⟨o',items',n',LI,h2',h3',Je⟩:=e2.is hF I
 have l1:ks.length=items.size:=by rw[aa1 h4,aam]
 have l2:ks'.length=items'.size:=by rw[aa1 Je,aam]
 refine SeqAt.eq_tupleAt (e:=λj=>decide (ks[j]?=ks'[j]?)) ⟨o,h1,h2,n,h3⟩ ⟨o',LI,h2',n',h3'⟩ (by omega) (λj j1 j2=>?_) ⟨.bl (decide (ks=ks')),H,I,?_,q⟩
 ·obtain⟨k,ek,hk⟩:=fh h4 j items[j] (by simp[j1])
  obtain⟨k',Ob,hk'⟩:=fh Je j items'[j] (by simp[j2])
  rw[ek,Ob,show decide (some k=some k')=decide (k=k') by simp]
  exact Z.eq (by show X.A.units+1+Z.cE<cLine;omega) hk hk'
 ·show Value.bool _=Value.bool _
  rw[←l1,←l2,oS]
end
abbrev ZM(P:Program)(w:World):=stepK (A7 P w)
abbrev YL(P:Program)(w:World)(F:W.Frag):=GS P w F
abbrev YM(P:Program)(w:World)(F:W.Frag):jh F (ZM P w):=g9 (GS P w F)
theorem bT(P:Program)(w:World):(ZM P w).cE+1<=8:=by show 2<=8;decide
theorem hn0{A:Around}{P:Program}{w:World}(h:A.units+64<cLine):A.units+((A7 P w).cE+1)<cLine:=by show A.units+1<cLine;omega
theorem hn1{A:Around}{P:Program}{w:World}(h:A.units+64<cLine):A.units+((ZM P w).cE+1)<cLine:=by show A.units+2<cLine;omega
theorem hn2{A:Around}{P:Program}{w:World}(h:A.units+64<cLine):A.units+1+((ZM P w).cE+1)<cLine:=by show A.units+1+2<cLine;omega
def jP(k s:Str):List Lf:=[some (.inr k),some (.inr s)]
theorem iJ{k s k' s':Str}:jP k s=jP k' s'↔(k,s)=(k',s'):=by
 unfold jP
 constructor
 ·intro h;injection h with h1 h2;injection h2 with h2 _;injection h1 with h1;injection h2 with h2;injection h1 with h1;injection h2 with h2;rw[h1,h2]
 ·intro h;injection h with h1 h2;rw[h1,h2]
section
variable{P:Program}{w:World}{F:W.Frag}{H:Hp}
theorem iz{a:Addr}{k s:Str}(h:aK F H a [.str k,.str s]):k9 (YL P w F) H (jP k s) a:=⟨_,h,.cons rfl (.cons rfl .nil)⟩
end
section
variable{X:Cx}{P:Program}{w:World}{K:Type}[DecidableEq K]{F:W.Frag}{Z:gO P w K}{o i value kx:Expr}{pos pos':Pos}{td ty tv tk:TE}
theorem Bb(Y:jh F Z)(hl:Z.cE+1<=8)(hP:X.prog=P)(hw:X.w=w)(hF:X.K=F)(hu:X.A.units+1+(Z.cE+1)<cLine)(ho:PE X o td)(hi:PE X i ty)(hs:LL i):PE X (.Subscript o i pos) (KN Y hl td ty):=by
 subst hP hw;exact Ji Y hl hF hu ho hi hs
theorem CH(Y:jh F Z)(hl:Z.cE+1<=8)(hP:X.prog=P)(hw:X.w=w)(hF:X.K=F)(hu:X.A.units+1+(Z.cE+1)<cLine)(hi:PE X i ty)(ho:PE X o td):PC X .NotIn i o (D5 Y hl ty td):=by
 subst hP hw;exact ER Y hl hF hu hi ho
theorem Bc(Y:jh F Z)(hl:Z.cE+1<=8)(hP:X.prog=P)(hw:X.w=w)(hF:X.K=F)(hu:X.A.units+1+(Z.cE+1)<cLine)(ho:PE X o td)(hi:PE X i ty)(hv:PE X value tv)(hs:swapsWith value (some (.Subscript o i pos')) pos.line X.env=pure false):PS X (.Assign [.Subscript o i pos'] value pos) (KO Y hl td ty tv):=by
 subst hP hw;exact Jj Y hl hF hu ho hi hv hs
theorem ES(Y:jh F Z)(hl:Z.cE+1<=8)(hP:X.prog=P)(hw:X.w=w)(hF:X.K=F)(hu:X.A.units+(Z.cE+1)<cLine)(hk:PE X kx tk)(hv:PE X value tv):PE X (.Dict [some kx] [value] pos) (KP Y hl tk tv):=by
 subst hP hw;exact GX Y hl hF hu hk hv
end
section
variable{X:Cx}
end
section
variable{X:Cx}
end
section
variable{X:Cx}{K:Type}[DecidableEq K]{F:W.Frag}{Z:gO X.prog X.w K}
def RC{P:Program}{w:World}{K:Type}[DecidableEq K]{F:W.Frag}{Z:gO P w K}(Y:jh F Z):R2:=λx y H Q=>∃b b' ks ks',x=.ref b/\y=.ref b'/\k9 Y H ks b/\k9 Y H ks' b'/\Q (.bl (!decide (ks=ks'))) H
theorem CI(Y:jh F Z)(hF:X.K=F)(hu:X.A.units+(Z.cE+1)<cLine):kg X (compareOp .NotEq) (RC Y):=by
 intro pins s σ H x y v u Q I rx ry h
 obtain⟨b,b',ks,ks',rfl,rfl,e1,e2,q⟩:=h
 cases rx;cases ry
 obtain⟨o,items,n,h1,h2,h3,h4⟩:=e1.is hF I
 obtain⟨o',items',n',LI,h2',h3',Je⟩:=e2.is hF I
 have l1:ks.length=items.size:=by rw[aa1 h4,aam]
 have l2:ks'.length=items'.size:=by rw[aa1 Je,aam]
 show wpAny _ _ (richCompare .NotEq (.ref b) (.ref b')) _ _ _
 refine SeqAt.RcNeAt.tuples (e:=λj=>decide (ks[j]?=ks'[j]?)) ⟨o,h1,h2,n,h3⟩ ⟨o',LI,h2',n',h3'⟩ (by omega) (λj j1 j2=>?_) _ _ _ _ ⟨.bl (!decide (ks=ks')),H,I,?_,q⟩
 ·obtain⟨k,ek,hk⟩:=fh h4 j items[j] (by simp[j1])
  obtain⟨k',Ob,hk'⟩:=fh Je j items'[j] (by simp[j2])
  rw[ek,Ob,show decide (some k=some k')=decide (k=k') by simp]
  exact Z.eq (by show X.A.units+1+Z.cE<cLine;omega) hk hk'
 ·show Value.bool _=Value.bool _
  rw[←l1,←l2,oS]
end
section
variable{prog:Program}{w:World}{A:Around}{E:Value->Shared->Prop}{s:Shared}
theorem ud{R:Result->Shared->Prop}(hh:A.handled=none){I l:Addr}{items:List Value}(hne:l≠I)(hit:s.heap.IsRevIter I l ((items.toArray.size:Int)-1))(hl:s.heap.IsList l items.toArray)(hn:items.toArray.size<=sizeLine)(hR:∀h' tk acc' c',(∀b o,b≠I->s.heap.get? b=some o->h'.get? b=some o)->h'.get? s.heap.objs.size=some {cls:=.type "list",dict:=none,data:=.seq acc' c',slots:=#[]}->acc'.toList=items.reverse->R (.ok (.ret (.ref s.heap.objs.size))) {s with heap:=h',toks:=tk}):codeAny (model prog w) A (.builtin "proto.collect" ⟨[.ref I],[]⟩) R s:=by
 refine codeAny_builtin F.entry_proto_collect ?_;rw[Around.under_plainId F.plain_proto_collect _]
 show wpAny _ A.in1 (newList [] >>= λl=>again (.builtin "list.__iadd__" ⟨[l,.ref I],[]⟩)) _ _ s;refine aag (aaR ?_)
 refine aak ⟨plainId_quiet F.plain_list_iadd _,codeAny_builtin F.entry_list_iadd ?_⟩
 rw[Around.under_plainId F.plain_list_iadd _]
 have hS:(s.heap.push {cls:=.type "list",data:=.seq #[]}).get? s.heap.objs.size=some {cls:=.type "list",data:=.seq #[]}:=aay _ rfl
 have hlt:l<s.heap.objs.size:=by obtain⟨o,ho,_⟩:=hl;exact aax ho
 show wpAny _ A.in1 (Builtin.List.listExtendWith (.ref s.heap.objs.size) (.ref I) (.ref s.heap.objs.size)) _ _ _
 exact CB (R:=R) (s:={s with heap:=s.heap.push {cls:=.type "list",data:=.seq #[]}}) hh hne (hit.at λo e=>aan _ e) (hl.at λo e=>aan _ e) _ (Nat.ne_of_gt hlt) _ _ hS hn λh' tk acc' c' hk hS' hacc =>
  hR h' tk acc' c' (λb o hb e=>hk b o (aaM (aax e)) hb (aan _ e)) hS' (EL hacc)
theorem Bd{Q:List Value->Shared->Prop}(hh:A.handled=none){I l:Addr}{items:List Value}(hne:l≠I)(hit:s.heap.IsRevIter I l ((items.toArray.size:Int)-1))(hl:s.heap.IsList l items.toArray)(hn:items.toArray.size<=sizeLine)(hQ:∀h' tk,(∀b o,b≠I->s.heap.get? b=some o->h'.get? b=some o)->Q items.reverse {s with heap:=h',toks:=tk}):wpAny (model prog w) A (collect (.ref I)) Q E s:=by
 unfold collect
 refine aag (wpAny_runValue (ud hh hne hit hl hn λh' tk acc' c' hk hS' hacc=>?_))
 show wpAny _ A (load s.heap.objs.size >>= _) _ _ _
 refine aag (wpAny_load hS' (aak ?_))
 show Q acc'.toList _
 rw[hacc]
 exact hQ h' tk hk
theorem GY{x:Str}{t:Tok}{Q:Value->Shared->Prop}(hh:A.handled=none){I l:Addr}{items:List Value}{ys:List Str}(hne:l≠I)(hit:s.heap.IsRevIter I l ((items.toArray.size:Int)-1))(hl:s.heap.IsList l items.toArray)(hn:items.toArray.size<=sizeLine)(hi:StrsAre items.reverse ys)(hok:(ys.map (·.length)).sum+ys.length*x.length<=16777216)(hQ:∀h' t' k,(∀b o,b≠I->s.heap.get? b=some o->h'.get? b=some o)->Q (.str (Txt.join x ys) t') {s with heap:=h',toks:=k}):wpAny (model prog w) A (call (.builtin "str.join") [.str x t,.ref I]) Q E s:=by
 refine wpAny_call (codeAny_call_builtin F.slot_str_join.plain F.entry_str_join (F.slot_str_join.check _ _ _ _ _ _ _ _ (typeIs_str _ _ _) (F.args_str_join_2 _ _) ?_))
 rw[join_tree_other]
 refine aag (wpAny_typeOf hit.typeIs ?_)
 show wpAny _ A.in1 ((pyIter (.ref I)).tryCatch _ >>= λit=>collect it >>= λitems=>joinTail x items) _ _ s
 refine aag (wpAny_tryCatch (wpAny_pyIter_revIter hit ?_))
 refine aag (Bd (A:=A.in1) hh hne hit hl hn λh' tk hk=>?_)
 obtain⟨lt,hv,ht⟩:=strsAre_values hi
 rw[hv]
 have ok:=joinOk_of hok
 subst ht
 unfold JoinOk at ok
 rw[Bool.not_eq_true']at ok
 have g:Gives (joinTail x (strValues lt)) (joinMade x lt):=by
  have g0:=gives_joinTail x lt ok
  cases lt with
  |nil=>exact g0
  |cons p r=>cases r with
   |nil=>exact g0
   |cons q r'=>exact g0
 exact g prog w A (wants Q E) _ (post_join lt ⟨joinFit_length ok,λt' k=>hQ h' t' k hk⟩)
end
section
variable{X:Cx}{e:Expr}
def Be(K:W.Frag)(tx:TE)(ta:TA):TE:=λσ H Q=>tx σ H λx H0=>∃z,x=.str z/\ta σ H0 λvs H1=>∃p,∃ys:List Str,vs=[.ref p]/\bW K H1 p (ys.map V.str)/\(ys.map (·.length)).sum+ys.length*z.length<=16777216/\Q (.str (Txt.join z ys.reverse)) H1
theorem oU:∀{its:List Value}{ys:List Str},Vals (ys.map V.str) its->StrsAre its ys
 |_,[],h=>by cases h;exact .nil
 |_,y::ys,h=>by cases h with|cons a b=>obtain⟨t,rfl⟩:=a;exact .cons _ _ (oU b)
theorem CJ{o:Expr}{apos p2 pos2 cpos:Pos}{tx:TE}{ta:TA}(hc:X.calm=true)(Oe:Gl X "reversed")(hm2:X.mg "reversed"=none)(hx:PE X o tx)(ha:PA X [e] ta)(hbase:attributeBase o "join" X.env (eval o X.env)=eval o X.env:=by rfl)(hfew:((backTo cpos (starEach [.Call (.Name "reversed" p2) [e] [] pos2] X.env)).all (λx=>!x.1)&&(backToKw cpos (keywordEach [] X.env)).all (λx=>x.1.isSome)
   && decide (([.Call (.Name "reversed" p2) [e] [] pos2]:List Expr).length+([]:List Keyword).length+(if ([]:List Keyword).isEmpty then 0 else 1)<30))=true:=by rfl)(hline:(apos.endLine==cpos.line)=true:=by rfl)(h1:starEach [.Call (.Name "reversed" p2) [e] [] pos2] X.env=[(false,eval (.Call (.Name "reversed" p2) [e] [] pos2) X.env)]:=by rfl)(h2:starEach [e] X.env=[(false,eval e X.env)]:=by rfl):PE X (.Call (.Attribute o "join" apos) [.Call (.Name "reversed" p2) [e] [] pos2] [] cpos) (Be X.K tx ta):=by
 intro pins s σ H Q I h
 refine wpAny_Call_method_late hbase hfew hline rfl (cO (hx pins s σ H _ I h) λv s1 ⟨x,H0,I0,r0,z,hz,q0⟩=>?_)
 subst hz
 obtain⟨t1,t2⟩:=zm I0 r0 (T:="str") rfl
 refine⟨"str","str.join",F.plainAttrs_str,F.slot_str_join,O,t1,t2,?_⟩
 rw[h1]
 refine Calls.callWith_builtin rfl (Calls.evalArgs_plain ?_)
 refine Calls.spliced_cons ?_
 refine abu (qV I0 Oe hm2 boot_reversed ?_ (by decide) (by decide))
 refine abt (cO (ha pos2 pins s1 σ H0 _ I0 q0) λus s2 ⟨vs,H1,I1,r1,q1⟩=>?_) h2 rfl
 obtain⟨p,ys,rfl,hq,hok,q⟩:=q1
 obtain⟨u,rfl,ru⟩:=vals1 r1
 cases ru
 obtain⟨its,rv,pl,hz⟩:=I1.list hq
 have hlen:=rv.length
 refine call_reversed_list pl.isList ?_
 refine Calls.spliced_nil ?_
 have hnew:s2.heap.objs.size<=s2.heap.objs.size:=aaj _
 have I2:Inv X pins σ H1 {s2 with heap:=s2.heap.push (revObj p ((its.toArray.size:Int)-1))}:=I1.kept (t':=s2.toks) λb o e=>aan _ e
 have hpl:p<s2.heap.objs.size:=by obtain⟨o,ho,_⟩:=pl.isList;exact aax ho
 have f0:=I1.yZ hnew (I1.hok.fresh hnew)
 obtain⟨t0,rfl⟩:=r0
 refine GY (s:={s2 with heap:=s2.heap.push (revObj p ((its.toArray.size:Int)-1))}) (items:=its) (I.ok.hd hc) (aaM hpl) ⟨_,aay _ rfl,rfl,rfl⟩ (pl.isList.at λo e=>aan _ e) (by rw[aap];omega) (ys:=ys.reverse) (oU (by rw[List.map_reverse];exact rv.reverse)) (by rw[List.map_reverse,List.sum_reverse,abE];exact hok) λh' t' tk hk=>?_
 have I4:=I2.turned (t':=tk) (h':=h') (it:=s2.heap.objs.size) hk f0.1 f0.2.1 f0.2.2.2.1 f0.2.2.2.2.1 f0.2.2.2.2.2
 exact⟨.str _,_,I4,⟨t',O⟩,q⟩
theorem Bf(K:W.Frag)(h:X.K=K){o:Expr}{apos p2 pos2 cpos:Pos}{tx:TE}{ta:TA}(hc:X.calm=true)(Oe:Gl X "reversed")(hm2:X.mg "reversed"=none)(hx:PE X o tx)(ha:PA X [e] ta)(hbase:attributeBase o "join" X.env (eval o X.env)=eval o X.env:=by rfl)(hfew:((backTo cpos (starEach [.Call (.Name "reversed" p2) [e] [] pos2] X.env)).all (λx=>!x.1)&&(backToKw cpos (keywordEach [] X.env)).all (λx=>x.1.isSome)
  && decide (([.Call (.Name "reversed" p2) [e] [] pos2]:List Expr).length+([]:List Keyword).length+(if ([]:List Keyword).isEmpty then 0 else 1)<30))=true:=by rfl)(hline:(apos.endLine==cpos.line)=true:=by rfl)(h1:starEach [.Call (.Name "reversed" p2) [e] [] pos2] X.env=[(false,eval (.Call (.Name "reversed" p2) [e] [] pos2) X.env)]:=by rfl)(h2:starEach [e] X.env=[(false,eval e X.env)]:=by rfl):PE X (.Call (.Attribute o "join" apos) [.Call (.Name "reversed" p2) [e] [] pos2] [] cpos) (Be K tx ta):=by subst h;exact CJ hc Oe hm2 hx ha hbase hfew hline h1 h2
end
section
variable{prog:Program}{w:World}{A:Around}{E:Value->Shared->Prop}{s:Shared}{d it i ep:Nat}{od:Obj}{es:Array DictEntry}
theorem GZ{Q:Value->Shared->Prop}(nd:(d==sysModules)=false)(g:s.heap.get? d=some od)(c:od.ExactDict)(dt:od.data=.dict es ep)(q:Q (.ref s.heap.objs.size) {s with heap:=s.heap.push {cls:=.type "dict_keyiterator",data:=.fields #[.ref d,.int 0 0,.int es.size 0,.int ep 0]}}):wpAny (model prog w) A (pyIter (.ref d)) Q E s:=by
 have ty:s.TypeIs (.ref d) "dict":=⟨od,g,c.1⟩
 refine wpAny_pyIter_slot ty PySem.F.slot_dict_iter (aa5 PySem.F.slot_dict_iter ty PySem.F.entry_dict_iter ?_ (PySem.F.args_dict_iter_1 _))
 unfold Builtin.«dict.__iter__»;refine aag ?_
 unfold Builtin.Dict.dictSlotNone;refine aag (wpAny_notOrdered_dict ty ?_)
 show wpAny _ _ (pure (Value.ref d)) _ _ _;refine aak ?_
 show wpAny _ _ (Builtin.Dict.showsAll d >>= _) _ _ _
 unfold Builtin.Dict.showsAll;rw[aah (λz=>by rw[nd]at z;cases z)];refine aag (aak ?_)
 refine aag (wpAny_dictEntries g dt (aag (wpAny_dictEpoch g dt ?_)))
 refine aag (aaR (aak ⟨_,rfl,"dict_keyiterator",_,⟨_,aay _ rfl,rfl⟩,aa0.lookup,?_⟩))
 simpa [rawInt]using q
theorem G0{Q:Option Value->Shared->Prop}(Cb:s.heap.IsKeyIter it d i es.size ep)(g:s.heap.get? d=some od)(dt:od.data=.dict es ep)(hi:i<es.size)(q:∀h',h'.IsKeyIter it d (i+1) es.size ep->Heap.SameBut it s.heap h'->Q (some es[i].key) {s with heap:=h'}):wpAny (model prog w) A (pyNext (.ref it)) Q E s:=by
 obtain⟨o,ho,hc,hd⟩:=id Cb
 unfold pyNext;refine aag (wpAny_attempt (abm (name:=("__next__":Str)) Cb.typeIs aa0 (aa5 aa0 Cb.typeIs PySem.F.entry_dict_keyiterator_next ?_ (PySem.F.args_dict_keyiterator_next_1 _))))
 refine aag (aak (aag (aag ?_)))
 first|refine aag (wpAny_typeNameOfWhole_keyiter Cb.typeIs (aak ?_))|refine aag (wpAny_typeNameOf_keyiter Cb.typeIs (aak ?_))
 refine aag (wpAny_fieldsOf ho hd ?_);simp only[(show Builtin.Dict_items.ownsTuple "dict_keyiterator"=false by decide),aaD,aaW]
 show wpAny _ _ (if (Value.ref d==Value.none)=true then _ else _) _ _ _;rw[aah (λz:(Value.ref d==Value.none)=true=>nomatch z)]
 refine aag (aak (aag (wpAny_dictEntries g dt ?_)))
 rw[aah (by simp)];refine aag (aak (aag (wpAny_dictEpoch g dt ?_)))
 rw[aah (by simp)];refine aak ?_
 simp only[show ¬((i:Int)<0) by omega,aaW,abl,Array.getElem?_eq_getElem hi]
 refine aag ?_
 first|refine aag (wpAny_typeNameOfWhole_keyiter Cb.typeIs (aak ?_))|refine aag (wpAny_typeNameOf_keyiter Cb.typeIs (aak ?_))
 refine aag (wpAny_isOneOf_keyiter Cb.typeIs ?_);show wpAny _ _ (setField (.ref it) 1 (rawInt ((i:Int)+1)) >>= _) _ _ _
 refine aag (wpAny_setField ho hd (by simp) ?_)
 have Wt:(s.heap.update it (Obj.mapFields (·.setIfInBounds 1 (rawInt ((i:Int)+1))))).IsKeyIter it d (i+1) es.size ep:=⟨_,Heap.get?_update_self _ ho (Obj.isFreed_of_fields (abv hd _)),(Obj.cls_mapFields ..).trans hc,by rw[abv hd];simp[rawInt]⟩
 refine aag (wpAny_holding (aag (wpAny_isOneOf_keyiter (s:={s with heap:=s.heap.update it (Obj.mapFields (·.setIfInBounds 1 (rawInt ((i:Int)+1))))}) Wt.typeIs ?_)))
 show wpAny _ _ (pure es[i].key) _ _ _;exact aak (aak ⟨_,rfl,aak (q _ Wt (Heap.SameBut.update ..))⟩)
theorem Jk{Q:Option Value->Shared->Prop}(hh:A.handled=none)(Cb:s.heap.IsKeyIter it d i es.size ep)(g:s.heap.get? d=some od)(dt:od.data=.dict es ep)(hi:es.size<=i)(q:∀h',Heap.ExtBut it s.heap h'->Q none {s with heap:=h'}):wpAny (model prog w) A (pyNext (.ref it)) Q E s:=by
 obtain⟨o,ho,hc,hd⟩:=id Cb
 unfold pyNext;refine aag (wpAny_attempt (abm (name:=("__next__":Str)) Cb.typeIs aa0 (aa5 aa0 Cb.typeIs PySem.F.entry_dict_keyiterator_next ?_ (PySem.F.args_dict_keyiterator_next_1 _))))
 refine aag (aak (aag (aag ?_)))
 first|refine aag (wpAny_typeNameOfWhole_keyiter Cb.typeIs (aak ?_))|refine aag (wpAny_typeNameOf_keyiter Cb.typeIs (aak ?_))
 refine aag (wpAny_fieldsOf ho hd ?_);simp only[(show Builtin.Dict_items.ownsTuple "dict_keyiterator"=false by decide),aaD,aaW]
 show wpAny _ _ (if (Value.ref d==Value.none)=true then _ else _) _ _ _;rw[aah (λz:(Value.ref d==Value.none)=true=>nomatch z)]
 refine aag (aak (aag (wpAny_dictEntries g dt ?_)))
 rw[aah (by simp)];refine aag (aak (aag (wpAny_dictEpoch g dt ?_)))
 rw[aah (by simp)];refine aak ?_
 simp only[show ¬((i:Int)<0) by omega,aaW,abl,Array.getElem?_eq_none hi]
 refine aag ?_
 first|refine aag (wpAny_typeNameOfWhole_keyiter Cb.typeIs (aak ?_))|refine aag (wpAny_typeNameOf_keyiter Cb.typeIs (aak ?_))
 show wpAny _ _ (setField (.ref it) 0 .none >>= _) _ _ _;refine aag (wpAny_setField ho hd (by simp) ?_)
 show wpAny _ _ (newExc (.type "StopIteration") [] >>= _) _ _ _;refine aag ?_
 simp only[newExc,newTuple];refine aag (aaR ?_ (by size_fits))
 refine aag (m:=firstArgMember _ _) (abh (a:=Value.none) (by first|rfl | (simp only[firstArgMember];rfl)) (aaR ?_ (by size_fits)))
 simp only[raiseNew];refine aag (wpAny_handled ?_)
 rw[show A.in1.handled=none from hh];refine aag (aak (wpAny_throw ?_))
 refine aag (wpAny_isInstance (T:="StopIteration") (b:=true) ⟨_,aay _ rfl,rfl⟩ isSubtype_stop (aak ?_))
 exact q _ (((Heap.SameBut.update ..).extBut.push _).push _)
end
theorem yw{α β:Type}{F:α->β->Prop}:∀{xs:List α}{ys:List β},Paired F xs ys->∀(i:Nat) x,xs[i]?=some x->∃y,ys[i]?=some y/\F x y
 |_,_,.nil,i,x,h=>by simp at h
 |_,_,.cons a r,0,x,h=>by cases h;exact⟨_,rfl,a⟩
 |_,_,.cons a r,i+1,x,h=>yw r i x h
section
variable{P:Program}{w:World}{K:Type}[DecidableEq K]
def dX(Z:gO P w K)(hl:Z.cE+1<=8)(a:Addr)(kvs:List (N3 K))(o:Obj):HO:=.ext λh=>yu Z hl a kvs h/\h.get? a=some o
def RD(Z:gO P w K)(hl:Z.cE+1<=8)(a:Addr)(kvs:List (N3 K))(o:Obj):It :=
 ⟨λi H=>H a=some (dX Z hl a kvs o)/\∃e,kvs[i]?=some e,λi H x H'=>H'=H/\∃e,kvs[i]?=some e/\x=.ref e.2.1,λi H=>H a=some (dX Z hl a kvs o)/\kvs.length<=i⟩
variable{Z:gO P w K}{hl:Z.cE+1<=8}
theorem G6{X:Cx}{K:Type}[DecidableEq K]{Z:gO X.prog X.w K}{hl:Z.cE+1<=8}{pins:List (Addr×Obj)}{σ:St}{H:Hp}{s:Shared}{a:Addr}{kvs:List (N3 K)}{o:Obj}(I:Inv X pins σ H s)(d:H a=some (dX Z hl a kvs o)):yu Z hl a kvs s.heap/\s.heap.get? a=some o :=
 (show cM X.prog X.w H s.heap a (dX Z hl a kvs o) from I.hok a _ d).1
theorem vH{h:Heap}{a:Addr}{kvs:List (N3 K)}{o:Obj}{es:Array DictEntry}{ep:Nat}(q:yu Z hl a kvs h)(g:h.get? a=some o)(dt:o.data=.dict es ep):es.size=kvs.length/\∀(i:Nat)(hi:i<es.size)(e:N3 K),kvs[i]?=some e->es[i].key=.ref e.2.1:=by
 obtain⟨_,_,xs,r,o',es',Qj,g',_,Wu,he,_⟩:=q
 rw[g]at g';cases g'
 rw[dt]at Wu;cases Wu
 have e1:es.size=xs.length:=size_of_entries he
 refine⟨by rw[e1];exact(aa1 r).symm,λi hi e h1=>?_⟩
 obtain⟨x,hx,q⟩:=yw r i e h1
 have e2:=entry_at he i
 rw[hx,Array.getElem?_eq_getElem hi]at e2
 have e3:es[i]=entryOfKey (om Z hl) x:=aaC e2
 rw[e3,q.2.1]
 rfl
theorem Jl{Fr:W.Frag}{tg:Expr}(a it:Addr)(kvs:List (N3 K))(o:Obj)(es:Array DictEntry)(ep:Nat)(dt:o.data=.dict es ep):Turn P w Fr tg (RD Z hl a kvs o) [it] it (λi h=>h.IsKeyIter it a i es.size ep) where
 mem:=by simp
 obj:=λi h st b hb=>by
  obtain rfl:b=it:=by simpa using hb
  obtain⟨x,e,c,d⟩:=st
  exact⟨x,e,λv z=>by rw[d]at z;cases z⟩
 keep:=λi h h' st k=>by
  obtain⟨x,e,c,d⟩:=st
  exact⟨x,k it (by simp) x e,c,d⟩
 item:=by
  intro X hP hw hK hc i pins s σ H E I hf st hg
  subst hP hw
  obtain⟨hd,e,he⟩:=hg
  obtain⟨nd,g⟩:=G6 I hd
  obtain⟨hsz,hkey⟩:=vH nd g dt
  obtain⟨f0,f1,f2,f3,f4,f5⟩:=hf it (by simp)
  have hi:i<es.size:=by rw[hsz];exact(aal.mp he).1
  refine G0 st g dt hi λh' st' sb=>?_
  have I1:Inv X pins σ H {s with heap:=h'}:=I.turned (t':=s.toks) (λb o hb e=>(sb.2 b hb).trans e) f0 f1 f3 f4 f5
  obtain⟨x,ex,cx,dx⟩:=id st'
  refine⟨_,rfl,yh (s:={s with heap:=h'}) ex cx dx (by decide) ⟨.ref e.2.1,H,I1,?_,⟨rfl,e,he,rfl⟩,st',λb hb=>(hf b hb).1⟩⟩
  exact hkey i hi e he
 done:=by
  intro X hP hw hK hc i pins s σ H E I hf st hg
  subst hP hw
  obtain⟨hd,he⟩:=hg
  obtain⟨nd,g⟩:=G6 I hd
  obtain⟨hsz,hkey⟩:=vH nd g dt
  obtain⟨f0,f1,f2,f3,f4,f5⟩:=hf it (by simp)
  exact Jk (I.ok.hd hc) st g dt (by omega) λh' eb=>⟨rfl,I.turned (t':=s.toks) (λb o hb e=>eb b o hb e) f0 f1 f3 f4 f5⟩
 self:=λ_ _ _ _ _ st h=>wpAny_pyIter_keyiter st h
end
section
variable{X:Cx}{K:Type}[DecidableEq K]{F:W.Frag}{Z:gO X.prog X.w K}
def KQ{P:Program}{w:World}{K:Type}[DecidableEq K]{F:W.Frag}{Z:gO P w K}(Y:jh F Z)(hl:Z.cE+1<=8)(td:TE):TI:=λσ H R=>td σ H λx H1=>∃a kvs,x=.ref a/\Nd Y hl H1 a kvs/\∀o,R (RD Z hl a kvs o) (upd H1 a (dX Z hl a kvs o))
theorem Jm{tg l:Expr}{td:TE}(Y:jh F Z)(hl:Z.cE+1<=8)(hF:X.K=F)(hp:PE X l td):PI X tg l (KQ Y hl td):=by
 intro pins s σ H R I h
 refine cO (hp pins s σ H _ I h) λv s1 ⟨x,H1,I1,r1,a,kvs,e,d,q⟩=>?_
 subst e
 cases r1
 have nd:yu Z hl a kvs s1.heap:=(show cM X.prog X.w H1 s1.heap a (dN Z hl a kvs) from I1.hok a _ d.ob).1
 obtain⟨z,y,xs,r,o,es,ep,g,c,dt,rest⟩:=id nd
 refine GZ y g c dt ?_
 have ok:cM X.prog X.w (upd H1 a (dX Z hl a kvs o)) s1.heap a (dX Z hl a kvs o):=by
  refine⟨⟨nd,g⟩,⟨o,g⟩,λg1 g2 q k=>?_⟩
  obtain⟨⟨z,y,xs,r,o',es,ep,h1,h2,h3,h4,h5⟩,h6⟩:=q
  exact⟨⟨z,y,xs,r,o',es,ep,k _ h1,h2,h3,h4,h5⟩,k _ h6⟩
 have I2:Inv X pins σ (upd H1 a (dX Z hl a kvs o)) {s1 with heap:=s1.heap,toks:=s1.toks}:=I1.write (x:=a) (e:=a) (by rw[d.ob];exact True.intro) (.inl rfl) (λb u _ e=>e) ⟨o,g⟩ ok
 refine⟨s1.heap.objs.size,[s1.heap.objs.size],_,_,_,rfl,I2.kept (t':=s1.toks) λb o e=>aan _ e,Jl a _ kvs o es ep dt,⟨_,aay _ rfl,rfl,rfl⟩,λb hb=>?_,q o⟩
 obtain rfl:b=s1.heap.objs.size:=by simpa using hb
 exact I2.yZ (aaj _) (I2.hok.fresh (aaj _))
end
theorem Bg{X:Cx}{P:Program}{w:World}{K:Type}[DecidableEq K]{F:W.Frag}{Z:gO P w K}{tg l:Expr}{td:TE}(Y:jh F Z)(hl:Z.cE+1<=8)(hP:X.prog=P)(hw:X.w=w)(hF:X.K=F)(hp:PE X l td):PI X tg l (KQ Y hl td):=by
 subst hP hw;exact Jm Y hl hF hp
theorem yx{P:Program}{w:World}{K:Type}[DecidableEq K]{Z:gO P w K}{hl:Z.cE+1<=8}{a:Addr}{kvs:List (N3 K)}{o:Obj}{g:TG}{tt:TT}{te:TE}{Q:VK}{D:Addr}{τ:St}{H:Hp}(Pv:Nat->List V->St->Hp->Prop)(h0:Pv 0 [] τ (upd H D (.lst [])))(hl':∀i ys τ H,i<=kvs.length->Pv i ys τ H->H a=some (dX Z hl a kvs o)/\H D=some (.lst ys))(hs:∀i e ys τ H,kvs[i]?=some e->Pv i ys τ H->g (.ref e.2.1) τ H λτ2 H2=>tt τ2 H2 λb H3=>if b=true then te τ2 H3 λy H4=>H4 D=some (.lst ys)/\ys.length<sizeLine/\Pv (i+1) (ys++[y]) τ2 (upd H4 D (.lst (ys++[y]))) else Pv (i+1) ys τ2 H3)(hd:∀ys τ H,Pv kvs.length ys τ H->Q (.ref D) H):yq (RD Z hl a kvs o) g tt te Q D τ H:=by
 refine⟨λi m ys τ H=>m=kvs.length-i/\i<=kvs.length/\Pv i ys τ H,⟨kvs.length,by simp,aaK _,h0⟩,?_⟩
 rintro i m ys τ H ⟨rfl,hi,p⟩
 obtain⟨q,hD⟩:=hl' i ys τ H hi p
 refine⟨hD,?_⟩
 by_cases hlt:i<kvs.length
 ·refine .inr ⟨⟨q,kvs[i],List.getElem?_eq_getElem hlt⟩,Pv (i+1),λzs σ' H' p'=>⟨kvs.length-(i+1),by omega,rfl,hlt,p'⟩,λx H' y=>?_⟩
  obtain⟨e,e1,h1,h2⟩:=y
  subst e h2
  exact hs i e1 ys τ _ h1 p
 ·have e:i=kvs.length:=by omega
  subst e
  exact .inl ⟨⟨q,aaj _⟩,hd ys τ H p⟩
section
variable{X:Cx}
end
open PySem
theorem Wv{A B:Prop}{b:Bool}(hb:b=true)(h:A):if b=true then A else B:=by rw[aai hb];exact h
theorem Ww{A B:Prop}{b:Bool}(hb:b=false)(h:B):if b=true then A else B:=by rw[aah (by rw[hb];decide)];exact h
theorem Jo{p A B:Prop}[Decidable p](hp:p)(h:A):if decide p=true then A else B:=Wv (aar hp) h
theorem oV{p A B:Prop}[Decidable p](hp:¬p)(h:B):if decide p=true then A else B:=Ww (aas hp) h
theorem LM{p A B:Prop}[Decidable p](hp:p)(h:B):if (!decide p)=true then A else B:=Ww (by rw[aar hp];rfl) h
theorem Og{p A B:Prop}[Decidable p](hp:¬p)(h:A):if (!decide p)=true then A else B:=Wv (by rw[aas hp];rfl) h
theorem Oh{A B:Prop}{a b:Int}(hp:a=b)(h:B):if (!decide (V.int a=V.int b))=true then A else B:=LM (by rw[hp]) h
theorem KR{A B:Prop}{b:Bool}(h1:b=true->A)(h2:b=false->B):if b=true then A else B:=by
 cases b with
 |true=>exact jO (h1 rfl)
 |false=>exact bM (h2 rfl)
theorem Yu{p A B:Prop}[Decidable p](h1:p->A)(h2:¬p->B):if decide p=true then A else B:=by
 by_cases h:p
 ·exact Jo h (h1 h)
 ·exact oV h (h2 h)
theorem Oi{A B:Prop}{a b:Str}(h1:a=b->A)(h2:¬a=b->B):if decide (V.str a=V.str b)=true then A else B :=
 Yu (λh=>h1 (V.str.inj h)) (λh=>h2 λe=>h (by rw[e]))
theorem vI:Manifest.owners.lookup (String.ofList ['d','e','s','r','e','v','e','r'].reverse)=some Manifest.sig_reversed:=by kernel_rfl
theorem fQ:Slot "reversed" "__next__" "reversed.__next__" :=
 .of (owner:="reversed") (n:="__next__") (by rw[abj,aa2];kernel_rfl) (by decide +kernel) (by decide +kernel) (by decide +kernel)
  (by first|exact .inl (by decide +kernel)|exact .inr (by decide +kernel)) (by rw[abq];kernel_rfl)
theorem oq:entryFor table "reversed.__next__"=some Builtin.«reversed.__next__» := entryFor_of_tree (by kernel_rfl)
theorem pZ(a:Value):argsOk "reversed.__next__" ⟨[a],[]⟩:=by
 unfold argsOk;rw[signature?_of (id:="reversed.__next__") (n:=['_','_','t','x','e','n','_','_']) (o:=['d','e','s','r','e','v','e','r']) (by kernel_rfl) vI];kernel_rfl
theorem p5:Slot "reversed" "__iter__" "reversed.__iter__" :=
 .of (owner:="reversed") (n:="__iter__") (by rw[abj,aa2];kernel_rfl) (by decide +kernel) (by decide +kernel) (by decide +kernel)
  (by first|exact .inl (by decide +kernel)|exact .inr (by decide +kernel)) (by rw[abq];kernel_rfl)
theorem zq(a:Value):argsOk "reversed.__iter__" ⟨[a],[]⟩:=by
 unfold argsOk;rw[signature?_of (id:="reversed.__iter__") (n:=['_','_','r','e','t','i','_','_']) (o:=['d','e','s','r','e','v','e','r']) (by kernel_rfl) vI];kernel_rfl
theorem xj:entryFor table "reversed.__iter__"=some Builtin.«dict_keyiterator.__iter__» :=
 entryFor_alias (id':="dict_keyiterator.__iter__") (by kernel_rfl) (by first|rfl|decide +kernel | (unfold String.splitOn;simp +decide [String.splitOnAux])) (by decide +kernel) (by kernel_rfl)
theorem kr:Slot "reversed" "__length_hint__" "reversed.__length_hint__" :=
 .of (owner:="reversed") (n:="__length_hint__") (by rw[abj,aa2];kernel_rfl) (by decide +kernel) (by decide +kernel) (by decide +kernel)
  (by first|exact .inl (by decide +kernel)|exact .inr (by decide +kernel)) (by rw[abq];kernel_rfl)
theorem xm:entryFor table "reversed.__length_hint__"=some Builtin.«reversed.__length_hint__» := entryFor_of_tree (by kernel_rfl)
theorem zu(a:Value):argsOk "reversed.__length_hint__" ⟨[a],[]⟩:=by
 unfold argsOk;rw[signature?_of (id:="reversed.__length_hint__") (n:=['_','_','t','n','i','h','_','h','t','g','n','e','l','_','_']) (o:=['d','e','s','r','e','v','e','r']) (by kernel_rfl) vI];kernel_rfl
theorem zv:Slot "reversed" "__init__" "object.__init__" :=
 .of (owner:="object") (n:="__init__") (by rw[abj,aa2];kernel_rfl) (by decide +kernel) (by decide +kernel) (by decide +kernel)
  (by first|exact .inl (by decide +kernel)|exact .inr (by decide +kernel)) (by rw[abq];kernel_rfl)
theorem ET:TypeCalled "reversed" "reversed.__new__" "object.__init__" :=
 ⟨by decide +kernel,by decide +kernel,⟨_,_,F.mro_reversed⟩,F.made_reversed,by decide +kernel,by rw[abq];kernel_rfl,zv⟩
theorem zw(a b:Value):argsOk "object.__init__" ⟨[a,b],[]⟩:=by
 unfold argsOk;rw[signature?_of (id:="object.__init__") (n:=['_','_','t','i','n','i','_','_']) (o:=['t','c','e','j','b','o']) (by kernel_rfl) F.owner_object];kernel_rfl
theorem CK:typeLookup (.type "str") "__reversed__"=pure none:=by rw[abj,aa2];kernel_rfl
theorem EU:typeLookup (.type "reversed") "__len__"=pure none:=by rw[abj,aa2];kernel_rfl
theorem Bh:isSubtype (.type "str") (.type "dict")=pure false:=by rw[abq];kernel_rfl
def G8(x:Str)(t:Tok)(i:Int):Obj:={cls:=.type "reversed",data:=.fields #[.str x t,rawInt i]}
def fj(h:Heap)(a:Addr)(x:Str)(t:Tok)(i:Int):Prop:=∃o,h.get? a=some o/\o.cls=.type "reversed"/\o.data=.fields #[.str x t,rawInt i]
section
variable{prog:Program}{w:World}{A:Around}{E:Value->Shared->Prop}{s:Shared}
theorem fj.typeIs{a:Addr}{x:Str}{t:Tok}{i:Int}(q:fj s.heap a x t i):s.TypeIs (.ref a) "reversed":=let ⟨o,ho,hc,_⟩:=q;⟨o,ho,hc⟩
theorem fj.at{h h':Heap}{a:Addr}{x:Str}{t:Tok}{i:Int}(q:fj h a x t i)(e:∀o,h.get? a=some o->h'.get? a=some o):fj h' a x t i:=let ⟨o,ho,r⟩:=q;⟨o,e _ ho,r⟩
theorem LN{x:Str}{t:Tok}(hfit:¬(x.length:Int)>=2 ^ 63):Meets (Builtin.«reversed.__new__» ⟨[.type "reversed",.str x t],[]⟩)
  (λ_ R s=>R (.ok (.ret (.ref s.heap.objs.size))) {s with heap:=s.heap.push (G8 x t ((x.length:Int)-1)),toks:=s.toks+1+1}):=by
 refine Meets.of_wp λprog w A R s hs=>?_
 unfold Builtin.«reversed.__new__»
 refine aag (abh (newClass_reversed _) ?_)
 try dsimp only
 refine aag (abh (a:=()) (by first|rfl|kernel_rfl) ?_)
 refine aag (abh (a:=()) (by first|rfl|kernel_rfl) ?_)
 try dsimp only
 refine aag (aaV (typeIs_str _ _ _) CK ?_)
 try dsimp only
 refine aag ?_
 wp_delta
 refine aag (wpAny_isInstance (T:="str") (b:=false) (typeIs_str _ _ _) Bh ?_)
 rw[aah (by decide)]
 refine aag (aaV (typeIs_str _ _ _) F.slot_str_getitem.lookup ?_)
 dsimp only
 rw[aai (by decide +kernel)]
 refine aak ?_
 rw[aah (by decide)]
 refine aag (P.len_str hfit ?_)
 refine aag (abh (a:=some (x.length:Int)) rfl ?_)
 dsimp only
 refine aag ?_
 unfold Builtin.SmallTypes.newRecord
 refine aaR ?_ (by size_fits)
 exact aak ⟨_,rfl,hs⟩
theorem xo{x:Str}{t:Tok}{Q:Value->Shared->Prop}(hfit:¬(x.length:Int)>=2 ^ 63)(h:Q (.ref s.heap.objs.size) {s with heap:=s.heap.push (G8 x t ((x.length:Int)-1)),toks:=s.toks+1+1}):wpAny (model prog w) A (call (.type "reversed") [.str x t]) Q E s :=
 callType_new ET (by decide +kernel) (F.typeCall_reversed_1 _) (F.newCall_reversed_1 _) (λo=>zw o _) F.entry_reversed_new (LN hfit) ⟨⟨_,aay _ rfl,rfl⟩,h⟩
theorem zx{it:Addr}{x:Str}{t:Tok}{i:Nat}{c:Nat}{Q:Option Value->Shared->Prop}(hit:fj s.heap it x t (i:Int))(hx:x.cps[i]?=some c)(hi:(i:Int)<2 ^ 63)(hQ:∀h' tok tk,fj h' it x t ((i:Int)-1)->Heap.SameBut it s.heap h'->Q (some (.str ⟨#[c]⟩ tok)) {s with heap:=h',toks:=tk}):wpAny (model prog w) A (pyNext (.ref it)) Q E s:=by
 obtain⟨o,ho,hc,hd⟩:=id hit
 unfold pyNext
 refine aag (wpAny_attempt (abm (name:=("__next__":Str)) hit.typeIs fQ
  (aa5 fQ hit.typeIs oq ?_ (pZ _))))
 unfold Builtin.«reversed.__next__»
 refine aag (abh (a:=(Value.ref it,[])) rfl ?_)
 try dsimp only
 refine aag (abr ho hd (x:=.str x t) rfl ?_)
 refine aag (abr ho hd (x:=rawInt (i:Int)) rfl ?_)
 show wpAny _ _ (if (i:Int)<0 then _ else _) _ _ s
 rw[aah (by omega)]
 refine aag (aaV (typeIs_str _ _ _) F.slot_str_getitem.lookup ?_)
 rw[aah (by decide)]
 refine aag (wpAny_mkInt ?_)
 have hlt:i<x.length:=by
  have:=(Array.getElem?_eq_some_iff.mp hx).1
  exact this
 refine aag (wpAny_attempt (P.getItem_str (c:=c) ?_ ?_ ?_))
 ·have h1:¬((i:Int) < -(2 ^ 63:Int)):=by omega
  have h2:¬((i:Int)>=2 ^ 63):=by omega
  rw[aas h1,aas h2];rfl
 ·have:seqIndex? (i:Int) x.length=some i:=by
   unfold seqIndex?
   have h0:¬(i:Int)<0:=by omega
   simp[h0,hlt]
  rw[this];exact hx
 ·dsimp only
  refine aag (abr ho hd (x:=rawInt (i:Int)) rfl ?_)
  show wpAny _ _ (setField (.ref it) 1 (rawInt ((i:Int)-1)) >>= _) _ _ _
  refine aag (wpAny_setField ho hd (by simp) ?_)
  refine aak ⟨_,rfl,aak (hQ _ _ _ ?_ (Heap.SameBut.update ..))⟩
  exact⟨_,Heap.get?_update_self _ ho (Obj.isFreed_of_fields (abv hd _)),(Obj.cls_mapFields ..).trans hc,by
   rw[abv hd];simp⟩
theorem Bj{it:Addr}{x:Str}{t:Tok}{Q:Option Value->Shared->Prop}(hh:A.handled=none)(hit:fj s.heap it x t (-1))(hQ:∀h',Heap.ExtBut it s.heap h'->Q none {s with heap:=h'}):wpAny (model prog w) A (pyNext (.ref it)) Q E s:=by
 obtain⟨o,ho,hc,hd⟩:=id hit
 unfold pyNext
 refine aag (wpAny_attempt (abm (name:=("__next__":Str)) hit.typeIs fQ
  (aa5 fQ hit.typeIs oq ?_ (pZ _))))
 unfold Builtin.«reversed.__next__»
 refine aag (abh (a:=(Value.ref it,[])) rfl ?_)
 try dsimp only
 refine aag (abr ho hd (x:=.str x t) rfl ?_)
 refine aag (abr ho hd (x:=rawInt (-1)) rfl ?_)
 show wpAny _ _ (if (-1:Int)<0 then _ else _) _ _ s
 rw[aai (by decide)]
 refine aag (wpAny_rule ?_)
 refine aag ?_
 wp_delta
 refine aag (wpAny_setField ho hd (by simp) ?_)
 have Yv:=Heap.get?_update_self (Obj.mapFields λvs=>vs.setIfInBounds 1 (rawInt (-1))) ho (Obj.isFreed_of_fields (abv hd _))
 refine wpAny_setField Yv (abv hd _) (by simp) ?_
 refine aag ?_
 show wpAny _ _ (newExc (.type "StopIteration") [] >>= _) _ _ _
 refine aag ?_
 simp only[newExc,newTuple]
 refine aag (aaR ?_ (by size_fits))
 refine aag (m:=firstArgMember _ _) (abh (a:=Value.none) (by first|rfl | (simp only[firstArgMember];rfl)) ?_)
 refine aaR ?_ (by size_fits)
 simp only[raiseNew]
 refine aag (wpAny_handled ?_)
 first|rw[show A.in1.handled=none from hh]|rw[hh]
 refine aag (aak (wpAny_throw ?_))
 refine aag (wpAny_isInstance (T:="StopIteration") (b:=true) ⟨_,aay _ rfl,rfl⟩ isSubtype_stop ?_)
 refine aak (hQ _ (Heap.ExtBut.push (Heap.ExtBut.push (λb o hb e=>?_) _) _))
 exact(Heap.get?_update_other _ _ (Ne.symm hb)).trans ((Heap.get?_update_other _ _ (Ne.symm hb)).trans e)
theorem rA{it:Addr}{x:Str}{t:Tok}{i:Int}{Q:Value->Shared->Prop}(hit:fj s.heap it x t i)(h:Q (.ref it) s):wpAny (model prog w) A (pyIter (.ref it)) Q E s:=by
 refine wpAny_pyIter_slot hit.typeIs p5 (aa5 p5 hit.typeIs xj ?_ (zq _))
 show wpAny _ _ (ret (.ref it)) _ _ s
 exact aak ⟨_,rfl,"reversed",_,hit.typeIs,fQ.lookup,h⟩
theorem CL{prog:Program}{w:World}{A:Around}(hh:A.handled=none)(I:Addr)(x:Str)(t:Tok)(hf:(x.length:Int)<2 ^ 63):Walks prog w A I [I] [I] x.length (λi v=>∃c tk,x.cps[x.length-1-i]?=some c/\v=.str ⟨#[c]⟩ tk) (λi h=>i<=x.length/\fj h I x t ((x.length:Int)-1-(i:Int))) where
 sub:=λb hb=>hb
 frame:=λ_ _ _ q hk=>⟨q.1,q.2.at λo e=>hk I (by simp) o e⟩
 item:=λi s Q E hi q hQ=>by
  have e:(x.length:Int)-1-(i:Int)=((x.length-1-i:Nat):Int):=by omega
  have hit:=q.2
  rw[e]at hit
  have hlt:x.length-1-i<x.cps.size:=by have:x.length=x.cps.size:=rfl;omega
  have hx:x.cps[x.length-1-i]?=some (x.cps[x.length-1-i]'hlt):=Array.getElem?_eq_getElem hlt
  refine zx hit hx (by omega) λh' tok tk Oj hs'=>?_
  have e2:((x.length-1-i:Nat):Int)-1=(x.length:Int)-1-((i+1:Nat):Int):=by omega
  rw[e2]at Oj
  exact hQ _ h' tk ⟨_,_,hx,rfl⟩ ⟨hi,Oj⟩ λb o hb eo=>hs'.extBut b o (λh=>hb (by simp[h])) eo
 done:=λs Q E q hQ=>by
  have e:(x.length:Int)-1-(x.length:Int) = -1:=by omega
  have hit:=q.2
  rw[e]at hit
  exact Bj hh hit λh' he'=>hQ h' s.toks λb o hb eo=>he' b o (λh=>hb (by simp[h])) eo
 self:=λ_ _ _ _ q hQ=>rA q.2 hQ
theorem EV{I:Addr}{x:Str}{t:Tok}{Q:Bool->Shared->Prop}(hz:x.length<=sizeLine)(hit:fj s.heap I x t ((x.length:Int)-1))(h:∀b tk,Q b {s with toks:=tk}):wpAny (model prog w) A (Builtin.List.listLengthHint (.ref I)) Q E s:=by
 obtain⟨o,ho,hc,hd⟩:=id hit
 unfold Builtin.List.listLengthHint
 refine aag (aaV hit.typeIs EU ?_)
 show wpAny _ _ (specialOf (Value.ref I) ("__length_hint__":Str) >>= _) _ _ _
 refine aag (aaV hit.typeIs kr.lookup ?_)
 generalize hid:("reversed.__length_hint__":String)=Rv
 wp_delta
 rw[show splitId Rv=some ("reversed","__length_hint__") from by subst hid;decide +kernel]
 subst hid
 refine aag (wpAny_isInstance (T:="reversed") (b:=true) hit.typeIs (by rw[abq];kernel_rfl) ?_)
 refine wpAny_ite_split (λhab=>absurd hab (by decide)) (λ_=>?_)
 refine wpAny_ite_split (λhab=>absurd hab (by decide +kernel)) (λ_=>?_)
 refine aag (wpAny_rule ?_)
 refine aag (abh (kr.bind _) ?_)
 dsimp only
 refine aag (wpAny_attempt (aa5 kr hit.typeIs xm ?_ (zu _)))
 unfold Builtin.«reversed.__length_hint__»
 refine aag (abh (a:=Value.ref I) (by first|rfl|kernel_rfl) ?_)
 refine aag (abr ho hd (x:=.str x t) rfl ?_)
 show wpAny _ _ (if (Value.str x t==Value.none)=true then _ else _) _ _ _
 rw[aah (show ¬((Value.str x t==Value.none)=true) from aat)]
 have hz2:sizeLine<2 ^ 63:=by decide +kernel
 have hz':¬(x.length:Int)>=2 ^ 63:=by omega
 refine aag (P.len_str hz' ?_)
 refine aag (abh (a:=some (x.length:Int)) rfl ?_)
 dsimp only
 refine aag (abr ho hd (x:=rawInt ((x.length:Int)-1)) rfl ?_)
 show wpAny _ _ (if (x.length:Int)<(x.length:Int)-1+1 then _ else _) _ _ _
 rw[aah (by omega)]
 have e1:(x.length:Int)-1+1=x.length:=by omega
 rw[e1]
 refine aag (wpAny_mkInt ?_)
 refine aak ⟨_,rfl,?_⟩
 show wpAny _ _ (asInt? (.int (x.length:Int) _) >>= _) _ _ _
 have ea:∀tk,asInt? (Value.int (x.length:Int) tk)=pure (some (x.length:Int)):=λ_=>rfl
 refine aag ?_
 rw[ea]
 refine aak ?_
 show wpAny _ _ (if (!Builtin.List.listFitsIndex (x.length:Int))=true then _ else _) _ _ _
 have f1:Builtin.List.listFitsIndex (x.length:Int)=true:=by
  unfold Builtin.List.listFitsIndex;rw[abo];exact⟨aar (by omega),aar (by omega)⟩
 have f2:Builtin.List.listTooLong (x.length:Int).toNat=false:=by
  unfold Builtin.List.listTooLong;exact aas (by rw[abl];omega)
 rw[f1,f2,aah (by decide),aah (by omega),aah (by decide)]
 have hb:=h ((x.length:Int) != 0) (s.toks+1+1+1)
 exact aak hb
theorem Ol{S:Addr}{c:Nat}{Q:Unit->Shared->Prop}(hS:s.heap.get? S=some {cls:=.type "list",dict:=none,data:=.seq #[] c,slots:=#[]})(h:∀h' c',h'.get? S=some {cls:=.type "list",dict:=none,data:=.seq #[] c',slots:=#[]}->Heap.SameBut S s.heap h'->Q () {s with heap:=h'}):wpAny (model prog w) A (Builtin.List.listTouch (.ref S)) Q E s:=by
 unfold Builtin.List.listTouch
 show wpAny _ _ (updateSeq S (·.push .none) >>= λ_=>updateSeq S (·.pop)) _ _ s
 refine aag (wpAny_updateSeq hS rfl ?_)
 have h1:=Heap.get?_update_self (Obj.mapSeq λxs=>xs.push Value.none) hS rfl
 refine wpAny_updateSeq h1 rfl (h _ _ (Heap.get?_update_self _ h1 rfl) ?_)
 have a:=Heap.SameBut.update (h:=s.heap) (a:=S) (Obj.mapSeq λxs=>xs.push Value.none)
 have b:=Heap.SameBut.update (h:=s.heap.update S (Obj.mapSeq λxs=>xs.push Value.none)) (a:=S) (Obj.mapSeq λxs=>xs.pop)
 exact⟨b.1.trans a.1,λc hc=>(b.2 c hc).trans (a.2 c hc)⟩
theorem Bk{R:Result->Shared->Prop}(hh:A.handled=none){I:Addr}{x:Str}{t:Tok}(hit:fj s.heap I x t ((x.length:Int)-1))(S:Addr)(res:Value)(c0:Nat)(hS:s.heap.get? S=some {cls:=.type "list",dict:=none,data:=.seq #[] c0,slots:=#[]})(hn:x.length<=sizeLine)(hR:∀h' tk acc' c',(∀b o,b≠S->b≠I->s.heap.get? b=some o->h'.get? b=some o)->h'.get? S=some {cls:=.type "list",dict:=none,data:=.seq acc' c',slots:=#[]}->ItemsOf (λi v=>∃c tk,x.cps[x.length-1-i]?=some c/\v=.str ⟨#[c]⟩ tk) acc' x.length->R (.ok (.ret res)) {s with heap:=h',toks:=tk}):wpAny (model prog w) A.in1 (Builtin.List.listExtendWith (.ref S) (.ref I) res)
   (λfin s'=>match fin with | .done f=>R (.ok f) s' | .again c'=>c'.quiet=true/\codeAny (model prog w) A c' R s') (λe s'=>R (.error e) s') s:=by
 have hSI:S≠I:=λe=>by
  subst e
  obtain⟨o,ho,hc,_⟩:=hit
  rw[hS]at ho;cases ho
  exact absurd (show Value.type "list"=Value.type "reversed" from hc) (by decide)
 have hSf:S∉[I]:=λhm=>hSI (aau.mp hm)
 have hf:(x.length:Int)<2 ^ 63:=by
  have:sizeLine<2 ^ 63:=by decide +kernel
  omega
 unfold Builtin.List.listExtendWith
 refine aag (wpAny_typeOf hit.typeIs ?_)
 have h1:Builtin.List.listSameRef (.ref S) (.ref I)=false:=by simp[Builtin.List.listSameRef,hSI]
 have h2:(Value.type "reversed"==Value.type "list")=false:=by decide
 have h3:(Value.type "reversed"==Value.type "tuple")=false:=by decide
 simp only[h1,h2,h3,Bool.or_false,aaD,aaW]
 refine aag (rA hit ?_)
 refine aag (wpAny_holding (EV hn hit λb tk=>?_))
 have go:∀(h':Heap)(tk:Nat)(c1:Nat),h'.get? S=some {cls:=.type "list",dict:=none,data:=.seq #[] c1,slots:=#[]}->(∀b o,b≠S->s.heap.get? b=some o->h'.get? b=some o)->wpAny (model prog w) A.in1 (again (.builtin "list.extend.loop" ⟨[.ref S,.ref I,res],[]⟩))
    (λfin s'=>match fin with | .done f=>R (.ok f) s' | .again c'=>c'.quiet=true/\codeAny (model prog w) A c' R s') (λe s'=>R (.error e) s') {s with heap:=h',toks:=tk}:=λh' tk c1 RE hk=>by
  refine aak ⟨plainId_quiet F.plain_extend_loop _,codeAny_extend_loopS (CL (prog:=prog) (w:=w) (A:=A.in1) hh I x t hf).toS hn _ hSf _ x.length 0 _ _ _ rfl (aaK _) ⟨aaK _,?_⟩ RE (ItemsOf.nil _) λs' acc' c' hm hS' hacc=>?_⟩
  ·have e0:(x.length:Int)-1-((0:Nat):Int)=(x.length:Int)-1:=by omega
   rw[e0]
   exact hit.at λo e=>hk _ o (Ne.symm hSI) e
  ·rw[Moved.eq_with hm]
   refine hR s'.heap s'.toks acc' c' (λb ob hb hb2 e=>hm.heap b ob (λhmem=>?_) (hk b ob hb e)) hS' hacc
   rcases aaE.mp hmem with e'|hmem
   ·exact hb e'
   ·exact hb2 (aau.mp hmem)
 refine wpAny_ite_split (λ_=>?_) (λ_=>?_)
 ·refine aag (wpAny_rule ?_)
  exact aag (Ol hS λh' c' RE hs=>go h' tk c' RE λb o hb e=>(hs.2 b hb).trans e)
 ·exact go s.heap tk c0 hS λ_ _ _ e=>e
end
section
variable{X:Cx}{e:Expr}{te:TE}
theorem CM{x:Str}{acc:Array Value}(h:ItemsOf (λi v=>∃c tk,x.cps[x.length-1-i]?=some c/\v=Value.str ⟨#[c]⟩ tk) acc x.length):Vals (x.cps.toList.reverse.map λc=>V.str (sg c)) acc.toList:=by
 have key:∀(cs:List Nat)(us:List Value),us.length=cs.length->(∀(i:Nat)(u:Value),us[i]?=some u->∃(c:Nat)(tk:Tok),cs[i]?=some c/\u=Value.str ⟨#[c]⟩ tk)->Vals (cs.map λc=>V.str (sg c)) us:=by
  intro cs
  induction cs with
  |nil=>intro us hl _;rw[List.length_eq_zero_iff.mp hl];exact .nil
  |cons c cs ih =>
   intro us hl hp
   cases us with
   |nil=>exact absurd hl (by simp)
   |cons u us =>
    obtain⟨c',tk,hc,hu⟩:=hp 0 u rfl
    cases hc
    exact .cons ⟨tk,hu⟩ (ih us (by simpa using hl) λi u' hi=>hp (i+1) u' hi)
 have hz:=h.1
 have hx:x.length=x.cps.toList.length:=by rw[aam];rfl
 refine key _ _ (by rw[aam,hz,abE,hx]) λi u hu=>?_
 have Wx:acc[i]?=some u:=by simpa using hu
 obtain⟨c,tk,hc,rfl⟩:=h.2 i u Wx
 have hi:i<x.cps.toList.length:=by
  have:=(Array.getElem?_eq_some_iff.mp Wx).1
  omega
 refine⟨c,tk,?_,O⟩
 rw[List.getElem?_reverse hi,←hx]
 simpa using hc
end
section
variable{prog:Program}{w:World}{A:Around}{E:Value->Shared->Prop}{s:Shared}
end
theorem EW{X:Cx}:kg X (compareOp .IsNot) (λx y H Q=>∃a b,x=.bl a/\y=.bl b/\Q (.bl (!(a==b))) H):=by
 intro pins s σ H x y v u Q I rx ry h
 obtain⟨a,b,rfl,rfl,q⟩:=h
 cases rx
 cases ry
 refine wpAny_isNot_plain (by cases a<;>cases b<;>rfl) (bg I q ?_)
 cases a<;>cases b<;>rfl
theorem G9{K:W.Frag}{a:Addr}{xs:List V}{g:TG}{tt:TT}{te:TE}{Q:VK}{D:Addr}{τ:St}{H:Hp}(Pv:Nat->List V->St->Hp->Prop)(h0:Pv 0 [] τ (upd H D (.lst [])))(hl:∀i ys τ H,i<=xs.length->Pv i ys τ H->aK K H a xs/\H D=some (.lst ys))(hs:∀i x ys τ H,xs[i]?=some x->Pv i ys τ H->g x τ H λτ2 H2=>tt τ2 H2 λb H3=>if b=true then te τ2 H3 λy H4=>H4 D=some (.lst ys)/\ys.length<sizeLine/\Pv (i+1) (ys++[y]) τ2 (upd H4 D (.lst (ys++[y]))) else Pv (i+1) ys τ2 H3)(hd:∀ys τ H,Pv xs.length ys τ H->Q (.ref D) H):yq (MX K a) g tt te Q D τ H:=by
 refine⟨λi m ys τ H=>m=xs.length-i/\i<=xs.length/\Pv i ys τ H,⟨xs.length,by simp,aaK _,h0⟩,?_⟩
 rintro i m ys τ H ⟨rfl,hi,p⟩
 obtain⟨q,hD⟩:=hl i ys τ H hi p
 refine⟨hD,?_⟩
 by_cases hlt:i<xs.length
 ·refine .inr ⟨⟨xs,xs[i],q,by simp[hlt]⟩,Pv (i+1),λzs σ' H' p'=>⟨xs.length-(i+1),by omega,rfl,hlt,p'⟩,λx H' y=>?_⟩
  obtain⟨e,y⟩:=y
  subst e
  exact hs i x ys τ _ (y xs q) p
 ·have e:i=xs.length:=by omega
  subst e
  exact .inl ⟨⟨xs,q,aaj _⟩,hd ys τ H p⟩
def RG(h₀:Heap)(H:Hp)(h:Heap)(e:Addr)(vs:Array Value):Option Value->Prop
 |none=>vs[1]?=some .none/\vs[2]?=some .none
 |some v=>∃T oT ts,vs[1]?=some (.ref T)/\H T=none/\h₀.get? T=none/\T≠e/\h.get? T=some oT/\oT.data=.fields ts/\ts[3]?=some v/\vs[2]?=some .none
structure Exc(h₀:Heap)(H:Hp)(h:Heap)(e:Addr)(C:Value)(od:Option Addr)(fl:Option Value):Prop where
 fr:H e=none
 nw:h₀.get? e=none
 tr:∃oe vs,h.get? e=some oe/\oe.cls=C/\oe.dict=od/\oe.data=.fields vs/\RG h₀ H h e vs fl
section
variable{M:Model}{A:Around}{E:Value->Shared->Prop}{s:Shared}{base:Heap}{env:Env}{outer:List Env}{L e:Addr}{Q:Unit->Shared->Prop}
end
section
variable{M:Model}{A:Around}{E:Value->Shared->Prop}{s:Shared}{base h₀:Heap}{H:Hp}{env:Env}{outer:List Env}{L e:Addr}{C:Value}{od:Option Addr}{Q:Unit->Shared->Prop}
end
section
variable{X:Cx}{pins:List (Addr×Obj)}{σ σ':St}{H H':Hp}{s s1:Shared}
end
section
variable{P:Program}{w:World}{K:W.Frag}{mg:Str->Option Value}{base:Heap}{N:List Str}{qual:Str}{scope:Scope}{f:Addr}{cd:Value}{A:Around}{outer:List Env}{s:Shared}{H:Hp}{E:XK}
end
theorem cM.ex{P:Program}{w:World}{H:Hp}{h:Heap}{a:Addr}{o:HO}(x:cM P w H h a o):∃u,h.get? a=some u:=by
 cases o with
 |lst xs=>obtain⟨_,_,_,_,e⟩:=x;exact⟨_,e⟩
 |tup xs=>obtain⟨_,_,_,ob,e,_⟩:=x;exact⟨_,e⟩
 |dK kvs=>obtain⟨_,_,_,_,o,_,_,e,_⟩:=x;exact⟨_,e⟩
 |dT kvs=>obtain⟨_,_,_,_,o,_,_,e,_⟩:=x;exact⟨_,e⟩
 |set S n=>obtain⟨o,_,_,_,e,_⟩:=x;exact⟨_,e⟩
 |ins C dx fs=>obtain⟨_,_,_,e,_⟩:=x;exact⟨_,e⟩
 |own y=>exact x
 |xd fs=>obtain⟨_,⟨_,_,_,e,_⟩,_⟩:=x;exact⟨_,e⟩
 |Qf lo hi=>obtain⟨_,_,_,e⟩:=x;exact⟨_,e⟩
 |Cf ob u=>obtain⟨e,_⟩:=x;exact⟨_,e⟩
 |Kr ps=>exact⟨_,x⟩
 |met f y=>exact⟨_,x⟩
 |ext φ=>exact x.2.1
theorem sX.none{P:Program}{w:World}{H:Hp}{h:Heap}{a:Addr}(x:sX P w H h)(e:h.get? a=Option.none):H a=Option.none:=by
 cases q:H a with
 |none=>rfl
 |some u=>obtain⟨o,z⟩:=(x a u q).ex;rw[e]at z;cases z
abbrev Jp:List Value:=[.type "ValueError",.type "Exception",.type "BaseException",.type "object"]
structure Qq(K:W.Frag)(C N:Addr)(bm:List Value)(ini:Option Value):Prop where
 ob:∃nm q bs hdct sn sub ab col dd k0 k1 k2 k3 k5,K.lookup C=some (excClassObj nm q C N bs bm hdct sn sub ab col dd k0 k1 k2 k3 k5 "ValueError.__new__")
 ns:∃oc od es n sl,K.lookup N=some ⟨oc,od,.dict es n,sl⟩/\(es.toList.all λe=>match e.key with | .str _ _=>true|_=>false)=true
 ini:W.nsIn K N "__init__"=some ini
section
variable{K:W.Frag}{h:Heap}{C N:Addr}{bm:List Value}{ini:Option Value}
end
section
variable{P:Program}{w:World}{K:W.Frag}{mg:Str->Option Value}{base:Heap}{N0:List Str}{qual:Str}{scope:Scope}{f:Addr}{cd:Value}{A:Around}{outer:List Env}{s0:Shared}{H0:Hp}{E:XK}
end
section
abbrev Yw:=St->Hp->VK->XK->Prop
def XP(X:Cx)(pins:List (Addr×Obj))(σ:St)(Ex:XK)(e:Value)(s':Shared):Prop :=
 ∃ea C od H' s2 H2,e=.ref ea/\Inv X pins σ H2 s2/\Inv X pins σ H' s'/\(∀b o,s2.heap.get? b=some o->∃o',s'.heap.get? b=some o')/\Exc s2.heap H' s'.heap ea C od (some .none)/\Ex C od H'
variable{X:Cx}{k:Nat}{f C:Addr}{fd:FuncData}{ps:List Str}{sp:Sp}{wZ:List V}{ds:List Value}{x m:Str}{p pos apos:Pos}{e o:Expr}{es:List Expr}{ta:TE}{t:TA}{te:Yw}
end
section
variable{X:Cx}{pins:List (Addr×Obj)}{σ σ':St}{H H':Hp}{s s1:Shared}
end
section
variable{M:Model}{A:Around}{E:Value->Shared->Prop}{K:W.Frag}{s:Shared}{C D N N' ea:Addr}{bm bm':List Value}{ini Yx:Option Value}{Q:Bool->Shared->Prop}
end
section
variable{X:Cx}{pins:List (Addr×Obj)}{σ:St}{H:Hp}{s:Shared}{ea:Addr}
end
end L2
set_option maxHeartbeats 1000000
namespace L2
open PySem PySem.Spec PyProof.Rows PySem.Builtin PySem.Builtin.ObjectAttr
section
variable{P:Program}{w:World}{A:Around}{E:Value->Shared->Prop}{s:Shared}{K:W.Frag}{C N x:Addr}{bm:List Value}{ini:Option Value}{f:Str}{v:Value}{ox:Obj}{vs:Array Value}
theorem Qq.cls(c:Qq K C N bm ini)(h:W.hasDictIn K C=true):∃cd,W.clsIn K C=some cd/\cd.mro=.ref C::bm/\cd.hasDict=true:=by
 obtain⟨nm,q,bs,hdct,sn,sub,ab,col,dd,k0,k1,k2,k3,k5,lk⟩:=c.ob
 obtain⟨cd,hc,hd⟩:=W.any_some h
 refine⟨cd,hc,?_,hd⟩
 unfold W.clsIn at hc
 rw[lk]at hc
 cases hc
 rfl
end
section
variable{P:Program}{w:World}{A:Around}{E:Value->Shared->Prop}{K:W.Frag}{C N fI:Addr}{bm:List Value}{us:List Value}
end
section
variable{X:Cx}{pins:List (Addr×Obj)}{σ:St}{H:Hp}{s:Shared}{a:Addr}{φ:Heap->Prop}
end
section
variable{X:Cx}{e:Expr}{te:TE}{pos:Pos}
end
section
variable{X:Cx}{C N D fI:Addr}{bm:List Value}{ini:Option Value}{x f:Str}{np ap pos cpos pos':Pos}{e o value a1 a2:Expr}{es:List Expr}{t:TA}{ta tv te:TE}
end
section
variable{P:Program}{w:World}{K:W.Frag}{mg:Str->Option Value}{base:Heap}{N0:List Str}{qual:Str}{scope:Scope}{f:Addr}{cd:Value}{A:Around}{outer:List Env}{s0:Shared}{H0:Hp}{E:XK}
end
open PySem PySem.Spec PyProof.Rows
structure Om(k:Nat)(A:Around):Prop where
 dp:A.depth+3*k+5<recursionLimit
 un:A.units+16*k+200<cLine
theorem fc.m{k:Nat}{A:Around}(r:fc k A):Om k A:=⟨r.dp,r.un⟩
section
variable{P:Program}{w:World}{K:W.Frag}{mg:Str->Option Value}{base:Heap}
end
section
variable{X:Cx}{k:Nat}{f:Addr}{fd:FuncData}{ps:List Str}{sp:Sp}{x:Str}{p pos:Pos}{e:Expr}{es:List Expr}{t:TA}
end
end L2
set_option maxHeartbeats 4000000
namespace L2
open PySem PySem.Spec PyProof.Rows
section
variable{prog:Program}{w:World}{A:Around}{E:Value->Shared->Prop}{s:Shared}
end
section
variable{prog:Program}{w:World}{A:Around}{E:Value->Shared->Prop}{s:Shared}
end
end L2
set_option synthInstance.maxSize 100000
set_option synthInstance.maxHeartbeats 400000
namespace L2
open PySem PySem.Spec PyProof.Rows
section
variable{X:Cx}{K:Type}[DecidableEq K]{F:W.Frag}{Z:gO X.prog X.w K}
end
abbrev ZP(P:Program)(w:World):=stepK (stepK (ZM P w))
abbrev YP(P:Program)(w:World)(F:W.Frag):jh F (ZP P w):=g9 (g9 (YM P w F))
theorem br(P:Program)(w:World):(ZP P w).cE+1<=8:=by show 4<=8;decide
theorem hp1{A:Around}{P:Program}{w:World}(h:A.units+64<cLine):A.units+((ZP P w).cE+1)<cLine:=by show A.units+4<cLine;omega
theorem hp2{A:Around}{P:Program}{w:World}(h:A.units+64<cLine):A.units+1+((ZP P w).cE+1)<cLine:=by show A.units+1+4<cLine;omega
section
variable{P:Program}{w:World}{F:W.Frag}{H:Hp}
end
section
variable{prog:Program}{w:World}{A:Around}{E:Value->Shared->Prop}{s:Shared}{d ep:Nat}{od:Obj}{es:Array DictEntry}
end
section
variable{X:Cx}{P:Program}{w:World}{K:Type}[DecidableEq K]{F:W.Frag}{Z:gO P w K}
end
section
variable{prog:Program}{w:World}{A:Around}{E:Value->Shared->Prop}{s:Shared}{d ep:Nat}{od:Obj}{es:Array DictEntry}
end
section
variable{prog:Program}{w:World}{A:Around}{E:Value->Shared->Prop}{s:Shared}{d ep:Nat}{od:Obj}{es:Array DictEntry}
end
section
variable{X:Cx}{P:Program}{w:World}{K:Type}[DecidableEq K]{F:W.Frag}{Z:gO P w K}
end
section
variable{X:Cx}{K:Type}[DecidableEq K]{F:W.Frag}{Z:gO X.prog X.w K}
def Bl{K:Type}[DecidableEq K](ks:List K)(k:K):Bool:=ks.any λx=>decide (x=k)
theorem zy(Y:jh F Z){pins:List (Addr×Obj)}{σ:St}{H:Hp}{s:Shared}(hF:X.K=F)(I:Inv X pins σ H s){kx:K}{x:V}{u:Value}(rx:RelV x u)(hx:Y.on H kx x){ks:List K}{ws:List V}{its:List Value}(pk:Paired (λk v=>Y.on H k v) ks ws)(rw':Vals ws its)(hu:X.A.units+1+Z.cE<cLine):∃e:Value->Bool,(∀v∈its,SeqAt.EqAt X.A.in1 s v u (e v))/\its.any e=Bl ks kx:=by
 have hxi:=Y.ok hF I rx hx
 have key:∀{ks:List K}{ws:List V}{its:List Value},Paired (λk v=>Y.on H k v) ks ws->Vals ws its->Paired (λk v=>Z.is s.heap k v) ks its:=by
  intro ks ws its a b
  exact Paired.Et (mw a b) λk u ⟨v,p,q⟩=>Y.ok hF I q p
 have pi:=key pk rw'
 clear pk rw' key
 refine⟨λv=>@decide (Z.is s.heap kx v) (Classical.propDecidable _),λv hv=>?_,?_⟩
 ·have h:∃k,Z.is s.heap k v:=by
   induction pi with
   |nil=>cases hv
   |cons a _ ih =>
    rcases aaE.mp hv with q|q
    ·rw[q];exact⟨_,a⟩
    ·exact ih q
  obtain⟨k,hk⟩:=h
  have q:=Z.eq (A:=X.A.in1) (s:=s) (by show X.A.units+1+Z.cE<cLine;omega) hk hxi
  by_cases e:k=kx
  ·rw[aar e]at q
   have e2:@decide (Z.is s.heap kx v) (Classical.propDecidable _)=true:=@decide_eq_true _ (Classical.propDecidable _) (by rw[←e];exact hk)
   dsimp only
   rw[e2];exact q
  ·rw[aas e]at q
   have e2:@decide (Z.is s.heap kx v) (Classical.propDecidable _)=false:=@decide_eq_false _ (Classical.propDecidable _) (λz=>e (Z.inj hk z))
   dsimp only
   rw[e2];exact q
 ·induction pi with
  |nil=>rfl
  |@cons k v ks its a r ih =>
   unfold Bl at *
   rw[abx,abx,ih]
   congr 1
   by_cases e:k=kx
   ·rw[aar e];exact@decide_eq_true _ (Classical.propDecidable _) (by rw[←e];exact a)
   ·rw[aas e];exact@decide_eq_false _ (Classical.propDecidable _) (λz=>e (Z.inj a z))
def D6{P:Program}{w:World}{K:Type}[DecidableEq K]{F:W.Frag}{Z:gO P w K}(Y:jh F Z):R2:=λx y H Q=>∃p kx ks ws,y=.ref p/\Y.on H kx x/\(bW F H p ws\/aK F H p ws)/\Paired (λk v=>Y.on H k v) ks ws/\Q (.bl (!(Bl ks kx))) H
theorem yy(Y:jh F Z)(hF:X.K=F)(hu:X.A.units+1+Z.cE<cLine):kg X (compareOp .NotIn) (D6 Y):=by
 intro pins s σ H x y v u Q I rx ry h
 obtain⟨p,kx,ks,ws,rfl,hx,hp,pk,q⟩:=h
 cases ry
 rcases hp with hp|hp
 ·obtain⟨its,r,pl,hz⟩:=I.list (by rw[hF];exact hp)
  obtain⟨e,h1,h2⟩:=zy Y hF I rx hx pk r hu
  refine SeqAt.notIn_listAt e pl.isList (λw Jd=>h1 w (by simpa using Jd)) ⟨.bl _,H,I,rfl,?_⟩
  rw[show its.toArray.any e=its.any e by simp,h2]
  exact q
 ·obtain⟨its,r,pl,hz⟩:=I.tuple (by rw[hF];exact hp)
  obtain⟨e,h1,h2⟩:=zy Y hF I rx hx pk r hu
  refine SeqAt.notIn_tupleAt e pl (λw Jd=>h1 w (by simpa using Jd)) ⟨.bl _,H,I,rfl,?_⟩
  rw[show its.toArray.any e=its.any e by simp,h2]
  exact q
end
section
variable{P:Program}{w:World}{K:Type}[DecidableEq K]
end
section
variable{X:Cx}{K:Type}[DecidableEq K]{Z:gO X.prog X.w K}{hl:Z.cE+1<=8}
end
inductive Qs(K:W.Frag)(H:Hp):V->Value->Prop where
 |of {x:V}{t:Value} (h:oQ K H x t):Qs K H x t
 |Oo {a:Addr}{xs:List V} (h:aK K H a xs):Qs K H (.ref a) (.type "tuple")
 |sql {a:Addr}{xs:List V} (h:bW K H a xs):Qs K H (.ref a) (.type "list")
section
variable{X:Cx}
def RH(K:W.Frag):List V->Hp->VK->Prop:=λxs H Q=>∃x n t b,xs=[x,.ty n]/\Qs K H x t/\W.kitOne K t (.type n)=some b/\Q (.bl b) H
theorem iA(K:W.Frag)(h:X.K=K):fM X (.builtin "isinstance") (RH K):=by
 subst h
 intro pins s σ H xs vs Q I rx q
 obtain⟨x,n,t,b,rfl,ty,e,q⟩:=q
 cases ty with
 |of ty=>exact bQ X.K rfl pins s σ H _ vs Q I rx ⟨x,_,t,b,rfl,ty,.inl ⟨n,rfl,e⟩,q⟩
 |@Oo a xs ha =>
  obtain⟨its,r,⟨o,h1,h2,_⟩,_⟩:=I.tuple ha
  cases rx with
  |cons r1 r2 =>
  cases r2 with
  |cons r2 r3 =>
  cases r1;cases r2;cases r3
  exact abd W.kitx_tuple I.pR ⟨o,h1,h2⟩ e (λz=>nomatch z) λtk=>⟨.bl b,H,I.tok _,rfl,q⟩
 |@sql a xs ha =>
  obtain⟨its,r,p,_⟩:=I.list ha
  cases rx with
  |cons r1 r2 =>
  cases r2 with
  |cons r2 r3 =>
  cases r1;cases r2;cases r3
  obtain⟨o,h1,h2⟩:∃o,s.heap.get? a=some o/\o.cls=.type "list":=by
   obtain⟨o,h1,h2,_⟩:=p.isList
   exact⟨o,h1,h2⟩
  exact abd W.kitx_list I.pR ⟨o,h1,h2⟩ e (λz=>nomatch z) λtk=>⟨.bl b,H,I.tok _,rfl,q⟩
end
section
variable{P:Program}{w:World}{K:Type}[DecidableEq K]{F:W.Frag}{Z:gO P w K}
structure Jq(Y:jh F Z)(hl:Z.cE+1<=8)(H:Hp)(a:Addr)(kvs:List (N3 K)):Prop where
 ob:H a=some (dN Z hl a kvs)\/∃o,H a=some (dX Z hl a kvs o)
 keys:∀e∈kvs,k9 Y H e.1 e.2.1
theorem Nd.x{Y:jh F Z}{hl:Z.cE+1<=8}{H:Hp}{a:Addr}{kvs:List (N3 K)}(d:Nd Y hl H a kvs):Jq Y hl H a kvs:=⟨.inl d.ob,d.keys⟩
def KS(Z:gO P w K)(hl:Z.cE+1<=8):TE:=λ_ H Q=>∀p,H p=none->Q (.ref p) (upd H p (dN Z hl p []))
def Oq(neg:Bool)(Y:jh F Z)(hl:Z.cE+1<=8)(ty td:TE):TE:=λσ H Q=>ty σ H λy H1=>td σ H1 λx H2=>∃a kvs k b,x=.ref a/\y=.ref b/\Jq Y hl H2 a kvs/\k9 Y H2 k b/\Q (.bl (if neg then !(valN kvs k).isSome else (valN kvs k).isSome)) H2
end
section
variable{X:Cx}{K:Type}[DecidableEq K]{F:W.Frag}{Z:gO X.prog X.w K}{Y:jh F Z}{hl:Z.cE+1<=8}{i o:Expr}{ty td:TE}{pos:Pos}
theorem Jq.of{H:Hp}{a:Addr}{kvs:List (N3 K)}{pins:List (Addr×Obj)}{σ:St}{s:Shared}(hF:X.K=F)(I:Inv X pins σ H s)(d:Jq Y hl H a kvs):kvs.length<=sizeLine/\(a==sysModules)=false/\∃xs,rq kvs xs/\s.heap.DictOfH (om Z hl) a xs:=by
 have nd:yu Z hl a kvs s.heap:=by
  rcases d.ob with q|⟨ob,q⟩
  ·exact(show cM X.prog X.w H s.heap a (dN Z hl a kvs) from I.hok a _ q).1
  ·exact(G6 I q).1
 obtain⟨z,y,xs,r,o,es,ep,h1,h2,h3,h4,h5⟩:=nd
 refine⟨z,y,xs,r,o,es,ep,h1,h2,h3,h4,λx hx=>?_,h5⟩
 obtain⟨p,hp,e1,e2⟩:=A8 r x hx
 have:=(d.keys p hp).is hF I
 rw[e1,e2]at this
 exact this
theorem Jr:PE X (.Dict [] [] pos) (KS Z hl):=λpins s σ H Q I h=>by
 have hn:=I.hok.fresh (aaj s.heap.objs.size)
 have y0:(s.heap.objs.size==sysModules)=false:=abn.mpr (Ne.symm (aaM I.big))
 have I1:=I.laid (a:=s.heap.objs.size) (o:=dN Z hl s.heap.objs.size []) (h':=s.heap.push {cls:=.type "dict",data:=.dict #[]}) (t':=s.toks) (λ_ _ q=>aan _ q) (aaj _) (D4 (xs:=[]) (aaK _) y0 .nil (Heap.DictOfH.new s.heap))
 exact wpAny_Dict_empty ⟨.ref s.heap.objs.size,_,I1,rfl,h _ hn⟩
theorem LO(Y:jh F Z)(hl:Z.cE+1<=8)(hF:X.K=F)(hu:X.A.units+1+(Z.cE+1)<cLine)(hi:PE X i ty)(ho:PE X o td):PC X .In i o (Oq false Y hl ty td):=by
 intro pins s σ H Q I h
 refine cO (hi pins s σ H _ I h) λiv s1 ⟨y,H1,I1,ry,q1⟩=>cO (ho pins s1 σ H1 _ I1 q1) λu s2 ⟨x,H2,I2,rx,a,kvs,k,b,ex,ey,d,e,q2⟩=>?_
 subst ex ey
 obtain rfl:u=Value.ref a:=rx
 obtain rfl:iv=Value.ref b:=ry
 obtain⟨z,y,xs,rel,dd⟩:=d.of hF I2
 refine wpAny_in_heap (knd:=om Z hl) hu (e.is hF I2) y dd ?_
 have q:=(mC (k:=k) rel).rm
 rw[Option.isSome_map]at q
 rw[←q]
 exact⟨.bl (valN kvs k).isSome,H2,I2.tok _,O,q2⟩
end
section
variable{X:Cx}{P:Program}{w:World}{K:Type}[DecidableEq K]{F:W.Frag}{Z:gO P w K}{i o:Expr}{ty td:TE}{pos:Pos}
theorem Hf(Z:gO P w K)(hl:Z.cE+1<=8)(hP:X.prog=P)(hw:X.w=w):PE X (.Dict [] [] pos) (KS Z hl):=by subst hP hw;exact Jr
theorem D7(Y:jh F Z)(hl:Z.cE+1<=8)(hP:X.prog=P)(hw:X.w=w)(hF:X.K=F)(hu:X.A.units+1+(Z.cE+1)<cLine)(hi:PE X i ty)(ho:PE X o td):PC X .In i o (Oq false Y hl ty td):=by
 subst hP hw;exact LO Y hl hF hu hi ho
end
section
variable{X:Cx}{K:Type}[DecidableEq K]{F:W.Frag}{Z:gO X.prog X.w K}
end
section
variable{X:Cx}{pins:List (Addr×Obj)}{σ:St}{H:Hp}{s:Shared}
end
section
variable{X:Cx}{elt tg iter:Expr}{ifs:List Expr}{scope:Scope}{pos:Pos}{N:List Str}{nv:Nat}{js:List Nat}{wi:TI}{g:TG}{tt:TT}{te:TE}
end
section
variable{prog:Program}{w:World}{A:Around}{E:Value->Shared->Prop}{s:Shared}
theorem Hg{t b:Addr}{ws:List Value}{Q:Value->Shared->Prop}(ht:IsTup s.heap t #[])(hb:IsTup s.heap b ws.toArray)(h:Q (.ref b) s):wpAny (model prog w) A (binaryOp .Add (.ref t) (.ref b)) Q E s:=by
 obtain⟨⟨cls,dd,data,sl⟩,ho,hc,n,hd⟩:=id ht
 obtain⟨⟨Rh,dd2,data2,sl2⟩,ho2,hc2,n2,hd2⟩:=id hb
 simp only at hc hd hc2 hd2
 subst hc hd hc2 hd2
 exact concat_meets ⟨_,ho,rfl⟩ ⟨_,ho2,rfl⟩ noFill_tuple_add seq_tuple_add PySem.F.slot_tuple_add PySem.F.entry_tuple_add (PySem.F.args_tuple_add_2 _ _)
   (tuple_addW0 t b #[] ws.toArray n n2 dd dd2 sl sl2 rfl) ⟨ho,ho2,h⟩
end
section
variable{X:Cx}
def Ot(K:W.Frag):R2:=λx y H Q=>∃a b xs ys,x=.ref a/\y=.ref b/\aK K H a xs/\aK K H b ys/\xs.length+ys.length<=sizeLine/\∀v H',aF H H'->(∃p,v=.ref p/\aK K H' p (xs++ys))->Q v H'
theorem D8(K:W.Frag)(hK:X.K=K):kg X (binaryOp .Add) (Ot K):=by
 intro pins s σ H x y v u Q I rx ry h
 obtain⟨a,b,xs,ys,rfl,rfl,ha,hb,hz,q⟩:=h
 by_cases hx:xs=[]
 ·subst hx
  cases rx
  cases ry
  obtain⟨its,r1,p1,_⟩:=I.tuple (by rw[hK];exact ha)
  obtain⟨its2,r2,p2,_⟩:=I.tuple (by rw[hK];exact hb)
  have e:its=[]:=r1.vf.mpr rfl
  subst e
  exact Hg p1 p2 ⟨.ref b,H,I,rfl,q _ _ (aF.refl _) ⟨b,rfl,hb⟩⟩
 ·refine IP pins s σ H _ _ v u Q I rx ry ⟨a,b,xs,ys,rfl,rfl,by rw[hK];exact ha,by rw[hK];exact hb,hx,hz,λe=>?_,λe p hp=>?_⟩
  ·subst e;exact q _ _ (aF.refl _) ⟨a,rfl,by rw[aaU];exact ha⟩
  ·exact q _ _ (λb o e=>(aH (λz=>by rw[z,hp]at e;cases e)).trans e) ⟨p,rfl,aK.of aj⟩
end
section
variable{X:Cx}{K:Type}[DecidableEq K]{F:W.Frag}{Z:gO X.prog X.w K}
def RI{P:Program}{w:World}{K:Type}[DecidableEq K]{F:W.Frag}{Z:gO P w K}(Y:jh F Z):R2:=λx y H Q=>∃b' ks',y=.ref b'/\k9 Y H ks' b'/\((x=.non/\Q (.bl true) H)\/∃b ks,x=.ref b/\k9 Y H ks b/\Q (.bl (!decide (ks=ks'))) H)
theorem LP(Y:jh F Z)(hF:X.K=F)(hu:X.A.units+(Z.cE+1)<cLine):kg X (compareOp .NotEq) (RI Y):=by
 intro pins s σ H x y v u Q I rx ry h
 obtain⟨b',ks',rfl,e2,h⟩:=h
 rcases h with ⟨rfl,q⟩|⟨b,ks,rfl,e1,q⟩
 ·cases rx;cases ry
  obtain⟨o',items',n',LI,h2',h3',Je⟩:=e2.is hF I
  show wpAny _ _ (richCompare .NotEq .none (.ref b')) _ _ _
  exact SeqAt.RcNeAt.none_tuple ⟨o',LI,h2',n',h3'⟩ (by omega) _ _ _ _ ⟨.bl true,H,I,rfl,q⟩
 ·exact CI Y hF hu pins s σ H _ _ v u Q I rx ry ⟨b,b',ks,ks',rfl,rfl,e1,e2,q⟩
end
section
variable{X:Cx}{K:Type}[DecidableEq K]{F:W.Frag}{Z:gO X.prog X.w K}
def RJ{P:Program}{w:World}{K:Type}[DecidableEq K]{F:W.Frag}{Z:gO P w K}(Y:jh F Z):R2:=λx y H Q=>∃p kx ks ws,y=.ref p/\Y.on H kx x/\aK F H p ws/\Paired (λk v=>Y.on H k v) ks ws/\Q (.bl (Bl ks kx)) H
theorem LQ(Y:jh F Z)(hF:X.K=F)(hu:X.A.units+1+Z.cE<cLine):kg X (compareOp .In) (RJ Y):=by
 intro pins s σ H x y v u Q I rx ry h
 obtain⟨p,kx,ks,ws,rfl,hx,hp,pk,q⟩:=h
 cases ry
 obtain⟨its,r,pl,hz⟩:=I.tuple (by rw[hF];exact hp)
 obtain⟨e,h1,h2⟩:=zy Y hF I rx hx pk r hu
 refine SeqAt.in_tupleAt e pl (λw Jd=>h1 w (by simpa using Jd)) ⟨.bl _,H,I,rfl,?_⟩
 rw[show its.toArray.any e=its.any e by simp,h2]
 exact q
end
abbrev cP:=Str×Str
abbrev FD:=Option (List cP×List cP)
abbrev gn:=(Option cP×Option cP)×FD
def stK:Option cP->Lf⊕List (Lf⊕List Lf)
 |none=>.inl none
 |some s=>.inr [.inl (some (.inr s.1)),.inl (some (.inr s.2))]
def KU(t:cP):Lf⊕List Lf:=.inr (jP t.1 t.2)
def rB(l:List cP):Lf⊕List (Lf⊕List Lf):=.inr (l.map KU)
def Qt:FD->Lf⊕List (Lf⊕List (Lf⊕List Lf))
 |none=>.inl none
 |some (a,b)=>.inr [rB a,rB b]
def gw(m:gn):List (Lf⊕List (Lf⊕List (Lf⊕List Lf))):=[.inr [stK m.1.1,stK m.1.2],Qt m.2]
theorem D9{a b:Option cP}(h:stK a=stK b):a=b:=by
 cases a with
 |none=>cases b with
  |none=>rfl
  |some y=>exact nomatch h
 |some x=>cases b with
  |none=>exact nomatch h
  |some y =>
   injection h with h
   injection h with h1 h2
   injection h2 with h2 _
   injection h1 with h1;injection h1 with h1;injection h1 with h1
   injection h2 with h2;injection h2 with h2;injection h2 with h2
   rw[Prod.ext h1 h2]
theorem Js{a b:cP}(h:KU a=KU b):a=b:=by
 injection h with h
 exact iJ.mp h
theorem Ea:∀{a b:List cP},a.map KU=b.map KU->a=b
 |[],[],_=>rfl
 |[],_::_,h=>nomatch h
 |_::_,[],h=>nomatch h
 |x::a,y::b,h=>by injection h with h1 h2;rw[Js h1,Ea h2]
theorem p6{a b:List cP}(h:rB a=rB b):a=b:=by injection h with h;exact Ea h
theorem Jt{a b:FD}(h:Qt a=Qt b):a=b:=by
 cases a with
 |none=>cases b with
  |none=>rfl
  |some y=>exact nomatch h
 |some x=>cases b with
  |none=>exact nomatch h
  |some y =>
   obtain⟨a1,a2⟩:=x
   obtain⟨b1,b2⟩:=y
   injection h with h
   injection h with h1 h2
   injection h2 with h2 _
   rw[p6 h1,p6 h2]
theorem Bm{m m':gn}:gw m=gw m'↔m=m':=by
 constructor
 ·obtain⟨⟨a,b⟩,c⟩:=m
  obtain⟨⟨a',b'⟩,c'⟩:=m'
  intro h
  unfold gw at h
  injection h with h1 h2
  injection h2 with h2 _
  injection h1 with h1
  injection h1 with h1 h3
  injection h3 with h3 _
  have h1:a=a':=D9 h1
  have h3:b=b':=D9 h3
  have h2:c=c':=Jt h2
  rw[h1,h3,h2]
 ·rintro rfl;rfl
section
variable{P:Program}{w:World}{F:W.Frag}{H H':Hp}
def jQ(F:W.Frag)(H:Hp):Option cP->V->Prop
 |none,v=>v=.non
 |some s,v=>∃b,v=.ref b/\aK F H b [.str s.1,.str s.2]
def Hh(F:W.Frag)(H:Hp)(t:cP)(v:V):Prop:=∃b,v=.ref b/\aK F H b [.str t.1,.str t.2]
def lg(F:W.Frag)(H:Hp)(l:List cP)(v:V):Prop:=∃b vs,v=.ref b/\aK F H b vs/\Paired (Hh F H) l vs
def uf(F:W.Frag)(H:Hp):FD->V->Prop
 |none,v=>v=.non
 |some (x,y),v=>∃b v1 v2,v=.ref b/\aK F H b [v1,v2]/\lg F H x v1/\lg F H y v2
def dM(F:W.Frag)(H:Hp)(m:gn)(v:V):Prop:=∃b p s1 s2 mv,v=.ref b/\aK F H b [.ref p,mv]/\aK F H p [s1,s2]/\jQ F H m.1.1 s1/\jQ F H m.1.2 s2/\uf F H m.2 mv
theorem jQ.keep{o:Option cP}{v:V}(t:∀b xs,aK F H b xs->aK F H' b xs)(h:jQ F H o v):jQ F H' o v:=by
 cases o with
 |none=>exact h
 |some s=>obtain⟨b,e1,e2⟩:=h;exact⟨b,e1,t _ _ e2⟩
theorem gI(t:∀b xs,aK F H b xs->aK F H' b xs):∀{l:List cP}{vs:List V},Paired (Hh F H) l vs->Paired (Hh F H') l vs
 |_,_,.nil=>.nil
 |_,_,.cons ⟨b,e1,e2⟩ r=>.cons ⟨b,e1,t _ _ e2⟩ (gI t r)
theorem lg.keep{l:List cP}{v:V}(t:∀b xs,aK F H b xs->aK F H' b xs)(h:lg F H l v):lg F H' l v:=by
 obtain⟨b,vs,e1,e2,e3⟩:=h
 exact⟨b,vs,e1,t _ _ e2,gI t e3⟩
theorem uf.keep{o:FD}{v:V}(t:∀b xs,aK F H b xs->aK F H' b xs)(h:uf F H o v):uf F H' o v:=by
 cases o with
 |none=>exact h
 |some s=>obtain⟨b,v1,v2,e1,e2,e3,e4⟩:=h;exact⟨b,v1,v2,e1,t _ _ e2,e3.keep t,e4.keep t⟩
theorem dM.keep{m:gn}{v:V}(t:∀b xs,aK F H b xs->aK F H' b xs)(h:dM F H m v):dM F H' m v:=by
 obtain⟨b,p,s1,s2,mv,e1,e2,e3,e4,e5,e6⟩:=h
 exact⟨b,p,s1,s2,mv,e1,t _ _ e2,t _ _ e3,e4.keep t,e5.keep t,e6.keep t⟩
theorem ku{m:gn}{v:V}(h:dM F H m v):∃b,v=.ref b:=let ⟨b,_,_,_,_,e,_⟩:=h;⟨b,e⟩
theorem KW{o:Option cP}{v:V}(h:jQ F H o v):(g9 (YM P w F)).on H (stK o) v:=by
 cases o with
 |none=>have h:v=.non:=h;subst h;rfl
 |some s =>
  obtain⟨b,rfl,h1⟩:=h
  exact⟨b,O,_,h1,.cons rfl (.cons rfl .nil)⟩
theorem Ou{t:cP}{v:V}(h:Hh F H t v):(YM P w F).on H (KU t) v:=by
 obtain⟨b,rfl,h1⟩:=h
 exact⟨b,O,iz h1⟩
theorem CN:∀{l:List cP}{vs:List V},Paired (Hh F H) l vs->Paired (λk v=>(YM P w F).on H k v) (l.map KU) vs
 |_,_,.nil=>.nil
 |_,_,.cons a r=>.cons (Ou a) (CN r)
theorem nC{l:List cP}{v:V}(h:lg F H l v):(g9 (YM P w F)).on H (rB l) v:=by
 obtain⟨b,vs,rfl,h1,h2⟩:=h
 exact⟨b,O,vs,h1,CN h2⟩
theorem Eb{l:List cP}{b:Addr}(h:lg F H l (.ref b)):k9 (YM P w F) H (l.map KU) b:=by
 obtain⟨b',vs,e,h1,h2⟩:=h
 cases e
 exact⟨vs,h1,CN h2⟩
theorem Ov{o:FD}{v:V}(h:uf F H o v):(YP P w F).on H (Qt o) v:=by
 cases o with
 |none=>have h:v=.non:=h;subst h;rfl
 |some s =>
  obtain⟨b,v1,v2,rfl,h1,h2,h3⟩:=h
  exact⟨b,O,_,h1,.cons (nC h2) (.cons (nC h3) .nil)⟩
theorem Ow{x y:List cP}{b:Addr}(h:uf F H (some (x,y)) (.ref b)):k9 (g9 (YM P w F)) H [rB x,rB y] b:=by
 obtain⟨b',v1,v2,e,h1,h2,h3⟩:=h
 cases e
 exact⟨_,h1,.cons (nC h2) (.cons (nC h3) .nil)⟩
theorem LR{o o':Option cP}{p:Addr}{s1 s2:V}(h:aK F H p [s1,s2])(h1:jQ F H o s1)(h2:jQ F H o' s2):k9 (g9 (YM P w F)) H [stK o,stK o'] p:=⟨_,h,.cons (KW h1) (.cons (KW h2) .nil)⟩
theorem nD{m:gn}{b:Addr}(h:dM F H m (.ref b)):k9 (YP P w F) H (gw m) b:=by
 obtain⟨b',p,s1,s2,mv,e1,e2,e3,e4,e5,e6⟩:=h
 cases e1
 exact⟨_,e2,.cons ⟨p,O,LR e3 e4 e5⟩ (.cons (Ov e6) .nil)⟩
end
section
variable{prog:Program}{w:World}{A:Around}{E:Value->Shared->Prop}{s:Shared}
theorem rC{R:Result->Shared->Prop}(hh:A.handled=none){I:Addr}{x:Str}{t:Tok}(hit:fj s.heap I x t ((x.length:Int)-1))(hn:x.length<=sizeLine)(hR:∀h' tk acc' c',(∀b o,b≠I->s.heap.get? b=some o->h'.get? b=some o)->h'.get? s.heap.objs.size=some {cls:=.type "list",dict:=none,data:=.seq acc' c',slots:=#[]}->Vals (x.cps.toList.reverse.map λc=>V.str (sg c)) acc'.toList->R (.ok (.ret (.ref s.heap.objs.size))) {s with heap:=h',toks:=tk}):codeAny (model prog w) A (.builtin "proto.collect" ⟨[.ref I],[]⟩) R s:=by
 refine codeAny_builtin F.entry_proto_collect ?_;rw[Around.under_plainId F.plain_proto_collect _]
 show wpAny _ A.in1 (newList [] >>= λl=>again (.builtin "list.__iadd__" ⟨[l,.ref I],[]⟩)) _ _ s;refine aag (aaR ?_)
 refine aak ⟨plainId_quiet F.plain_list_iadd _,codeAny_builtin F.entry_list_iadd ?_⟩
 rw[Around.under_plainId F.plain_list_iadd _]
 have hS:(s.heap.push {cls:=.type "list",data:=.seq #[]}).get? s.heap.objs.size=some {cls:=.type "list",data:=.seq #[]}:=aay _ rfl
 show wpAny _ A.in1 (Builtin.List.listExtendWith (.ref s.heap.objs.size) (.ref I) (.ref s.heap.objs.size)) _ _ _
 exact Bk (R:=R) (s:={s with heap:=s.heap.push {cls:=.type "list",data:=.seq #[]}}) hh (hit.at λo e=>aan _ e) _ _ _ hS hn λh' tk acc' c' hk hS' hacc =>
  hR h' tk acc' c' (λb o hb e=>hk b o (aaM (aax e)) hb (aan _ e)) hS' (CM hacc)
theorem zA{Q:List Value->Shared->Prop}(hh:A.handled=none){I:Addr}{x:Str}{t:Tok}(hit:fj s.heap I x t ((x.length:Int)-1))(hn:x.length<=sizeLine)(hQ:∀h' tk its,(∀b o,b≠I->s.heap.get? b=some o->h'.get? b=some o)->Vals (x.cps.toList.reverse.map λc=>V.str (sg c)) its->Q its {s with heap:=h',toks:=tk}):wpAny (model prog w) A (collect (.ref I)) Q E s:=by
 unfold collect
 refine aag (wpAny_runValue (rC hh hit hn λh' tk acc' c' hk hS' hacc=>?_))
 show wpAny _ A (load s.heap.objs.size >>= _) _ _ _
 refine aag (wpAny_load hS' (aak ?_))
 show Q acc'.toList _
 exact hQ h' tk _ hk hacc
theorem EX{x y:Str}{t u:Tok}{Q:Value->Shared->Prop}(hh:A.handled=none){I:Addr}(hit:fj s.heap I y u ((y.length:Int)-1))(hn:y.length<=sizeLine)(hok:(((y.cps.toList.reverse.map sg)).map (·.length)).sum+(y.cps.toList.reverse.map sg).length*x.length<=16777216)(hQ:∀h' t' k,(∀b o,b≠I->s.heap.get? b=some o->h'.get? b=some o)->Q (.str (Txt.join x (y.cps.toList.reverse.map sg)) t') {s with heap:=h',toks:=k}):wpAny (model prog w) A (call (.builtin "str.join") [.str x t,.ref I]) Q E s:=by
 refine wpAny_call (codeAny_call_builtin F.slot_str_join.plain F.entry_str_join (F.slot_str_join.check _ _ _ _ _ _ _ _ (typeIs_str _ _ _) (F.args_str_join_2 _ _) ?_))
 rw[join_tree_other]
 refine aag (wpAny_typeOf hit.typeIs ?_)
 show wpAny _ A.in1 ((pyIter (.ref I)).tryCatch _ >>= λit=>collect it >>= λitems=>joinTail x items) _ _ s
 refine aag (wpAny_tryCatch (rA hit ?_))
 refine aag (zA (A:=A.in1) hh hit hn λh' tk its hk hv=>?_)
 have hi:StrsAre its (y.cps.toList.reverse.map sg):=oU (by rw[List.map_map];exact hv)
 obtain⟨lt,hv',ht⟩:=strsAre_values hi
 rw[hv']
 have ok:=joinOk_of hok
 rw[←ht]at ok hQ
 unfold JoinOk at ok
 rw[Bool.not_eq_true']at ok
 have g:Gives (joinTail x (strValues lt)) (joinMade x lt):=by
  have g0:=gives_joinTail x lt ok
  cases lt with
  |nil=>exact g0
  |cons p r=>cases r with
   |nil=>exact g0
   |cons q r'=>exact g0
 exact g prog w A (wants Q E) _ (post_join lt ⟨joinFit_length ok,λt' k=>hQ h' t' k hk⟩)
end
section
variable{X:Cx}{e:Expr}
def EY(tx:TE)(ta:TA):TE:=λσ H Q=>tx σ H λx H0=>∃z,x=.str z/\ta σ H0 λvs H1=>∃y:Str,vs=[.str y]/\y.length<=1000000/\z.length=0/\Q (.str (Txt.join z (y.cps.toList.reverse.map sg))) H1
theorem mE{o:Expr}{apos p2 pos2 cpos:Pos}{tx:TE}{ta:TA}(hc:X.calm=true)(Oe:Gl X "reversed")(hm2:X.mg "reversed"=none)(hx:PE X o tx)(ha:PA X [e] ta)(hbase:attributeBase o "join" X.env (eval o X.env)=eval o X.env:=by rfl)(hfew:((backTo cpos (starEach [.Call (.Name "reversed" p2) [e] [] pos2] X.env)).all (λx=>!x.1)&&(backToKw cpos (keywordEach [] X.env)).all (λx=>x.1.isSome)
   && decide (([.Call (.Name "reversed" p2) [e] [] pos2]:List Expr).length+([]:List Keyword).length+(if ([]:List Keyword).isEmpty then 0 else 1)<30))=true:=by rfl)(hline:(apos.endLine==cpos.line)=true:=by rfl)(h1:starEach [.Call (.Name "reversed" p2) [e] [] pos2] X.env=[(false,eval (.Call (.Name "reversed" p2) [e] [] pos2) X.env)]:=by rfl)(h2:starEach [e] X.env=[(false,eval e X.env)]:=by rfl):PE X (.Call (.Attribute o "join" apos) [.Call (.Name "reversed" p2) [e] [] pos2] [] cpos) (EY tx ta):=by
 intro pins s σ H Q I h
 refine wpAny_Call_method_late hbase hfew hline rfl (cO (hx pins s σ H _ I h) λv s1 ⟨x,H0,I0,r0,z,hz,q0⟩=>?_)
 subst hz
 obtain⟨t1,t2⟩:=zm I0 r0 (T:="str") rfl
 refine⟨"str","str.join",F.plainAttrs_str,F.slot_str_join,O,t1,t2,?_⟩
 rw[h1]
 refine Calls.callWith_builtin rfl (Calls.evalArgs_plain ?_)
 refine Calls.spliced_cons ?_
 refine abu (qV I0 Oe hm2 boot_reversed ?_ (by decide) (by decide))
 refine abt (cO (ha pos2 pins s1 σ H0 _ I0 q0) λus s2 ⟨vs,H1,I1,r1,q1⟩=>?_) h2 rfl
 obtain⟨y,rfl,hy,hz0,q⟩:=q1
 obtain⟨u,rfl,tu,rfl⟩:=vals1 r1
 have hys:y.length<=sizeLine:=aao hy (by decide)
 have hfit:¬(y.length:Int)>=2 ^ 63:=by
  have:sizeLine<2 ^ 63:=by decide +kernel
  omega
 refine xo hfit ?_
 refine Calls.spliced_nil ?_
 have hnew:s2.heap.objs.size<=s2.heap.objs.size:=aaj _
 have I2:Inv X pins σ H1 {s2 with heap:=s2.heap.push (G8 y tu ((y.length:Int)-1)),toks:=s2.toks+1+1}:=I1.kept (t':=s2.toks+1+1) λb o e=>aan _ e
 have f0:=I1.yZ hnew (I1.hok.fresh hnew)
 obtain⟨t0,rfl⟩:=r0
 have hsum:((y.cps.toList.reverse.map sg).map (·.length)).sum=y.length:=by
  have key:∀l:List Nat,((l.map sg).map (·.length)).sum=l.length:=λl=>by
   induction l with
   |nil=>rfl
   |cons c l ih=>rw[aaX,aaX,List.sum_cons,ih,aaH,show(sg c).length=1 from rfl];omega
  rw[key,abE,aam];rfl
 refine EX (I.ok.hd hc) ⟨_,aay _ rfl,rfl,rfl⟩ hys (by rw[hsum,hz0,Nat.mul_zero];omega) λh' t' tk hk=>?_
 have I4:=I2.turned (t':=tk) (h':=h') (it:=s2.heap.objs.size) hk f0.1 f0.2.1 f0.2.2.2.1 f0.2.2.2.2.1 f0.2.2.2.2.2
 exact⟨.str _,_,I4,⟨t',O⟩,q⟩
end
section
variable{X:Cx}{P:Program}{w:World}{K:Type}[DecidableEq K]{F:W.Frag}{Z:gO P w K}
theorem vJ(Y:jh F Z)(hP:X.prog=P)(hw:X.w=w)(hF:X.K=F)(hu:X.A.units+1+Z.cE<cLine):kg X (compareOp .NotIn) (D6 Y):=by
 subst hP hw;exact yy Y hF hu
end
theorem Qu{x:Str}:[x].Nodup:=.cons (λy hy=>nomatch hy) .nil
section
variable{X:Cx}
theorem gA(i:Nat){x:Str}{pos:Pos}(hN:X.N.Nodup)(hi:X.N[i]?=some x:=by rfl)(hx:Loc X.env.scope x:=by first|exact .inl rfl|exact .inr rfl)(hf:X.fn x=true\/X.env.scope.names.lookup x=some .local:=by first|exact .inl rfl|exact .inr rfl|assumption):PG X (.Name x pos) (bH i):=ID hN hi hx hf
theorem eX(i:Nat){x:Str}{e:Expr}{te:TE}{pos pos':Pos}(hN:X.N.Nodup)(he:PE X e te)(hi:X.N[i]?=some x:=by rfl)(hx:Loc X.env.scope x:=by first|exact .inl rfl|exact .inr rfl)(hs:swapsWith e (some (.Name x pos')) pos.line X.env=pure false:=by rfl)(hf:X.fn x=true\/X.env.scope.names.lookup x=some .local:=by first|exact .inl rfl|exact .inr rfl|assumption):PS X (.Assign [.Name x pos'] e pos) (IE te (bH i)):=Ld hN hi hx he hs hf
theorem Ip{XN:List Str}{M4:Scope}{N:List Str}{nv:Nat}{js:List Nat}{scope:Scope}(kind:scope.kind=.function:=by rfl)(cell:∀y∈scope.names,y.2≠.cell:=by decide +kernel)(loc:∀y∈scope.names,y.2=.local->scope.names.lookup y.1=some .local:=by decide +kernel)(free:∀y∈scope.names,y.2=.free->(M4.names.lookup y.1=some .cell\/M4.names.lookup y.1=some .free):=by decide +kernel)(nd:N.Nodup:=by decide +kernel)(len:N.length=nv+js.length:=by rfl)(pl:js.map (λj=>XN[j]?)=(N.drop nv).map some:=by rfl)(fr:∀x∈N.drop nv,scope.names.lookup x=some .free:=by decide +kernel):bP XN M4 N nv js scope:=⟨kind,cell,loc,free,nd,len,pl,fr⟩
theorem nE{id:String}{r:List V->Hp->VK->Prop}{x:Str}{e:Expr}{es:List Expr}{t:TA}{p pos:Pos}(hc:fM X (.builtin id) r)(hm:X.mg x=none)(ha:PA X (e::es) t)(hg:Gl X x:=by rfl)(hv:bootBuiltins x=some (.builtin id):=by decide +kernel)(hn:x ≠ "__name__":=by decide)(hdb:(x==("__debug__":Str))=false:=by decide)(he:starEach (e::es) X.env=(false,eval e X.env)::starEach es X.env:=by rfl)(hpl:(backTo pos (starEach es X.env)).any (·.1)=false:=by rfl):PE X (.Call (.Name x p) (e::es) [] pos) (Qm r t):=Gk hc hg hm hv ha hn hdb he hpl
theorem Qv{T:String}{r:List V->Hp->VK->Prop}{x:Str}{e:Expr}{es:List Expr}{t:TA}{p pos:Pos}(hc:fM X (.type T) r)(hm:X.mg x=none)(ha:PA X (e::es) t)(hg:Gl X x:=by rfl)(hv:bootBuiltins x=some (.type T):=by decide +kernel)(hn:x ≠ "__name__":=by decide)(hdb:(x==("__debug__":Str))=false:=by decide)(he:starEach (e::es) X.env=(false,eval e X.env)::starEach es X.env:=by rfl)(hpl:(backTo pos (starEach es X.env)).any (·.1)=false:=by rfl):PE X (.Call (.Name x p) (e::es) [] pos) (Qm r t):=EE hc hg hm hv ha hn hdb he hpl
theorem Ec(n:String){x:Str}{pos:Pos}(hm:X.mg x=none)(hg:Gl X x:=by rfl)(hv:bootBuiltins x=some (.type n):=by decide +kernel)(hn:x ≠ "__name__":=by decide)(hd:(x==("__debug__":Str))=false:=by decide):PE X (.Name x pos) (tC (.ty n)):=LD n hg hm hv hn hd
theorem fR{k kk:Nat}{f:Addr}{fd:FuncData}{ps:List Str}{sp:Sp}{x:Str}{e:Expr}{es:List Expr}{t:TA}{p pos:Pos}(F:bw X.prog X.w X.K X.mg X.base fJ k f fd ps sp)(hr:fc kk X.A)(hm:X.mg x=some (.ref f))(hk:W.keepIn X.K (.ref f)=true)(hb:Binds X.K fd ps [])(ha:PA X (e::es) t)(hkk:k<=kk:=by decide)(hg:Gl X x:=by rfl)(hdb:(x==("__debug__":Str))=false:=by decide)(he:starEach (e::es) X.env=(false,eval e X.env)::starEach es X.env:=by rfl)(hpl:(backTo pos (starEach es X.env)).any (·.1)=false:=by rfl):PE X (.Call (.Name x p) (e::es) [] pos) (KD sp [] E0 t):=DS F (hr.mono hkk) hg hm hk hb .nil fE ha hdb he hpl
theorem cg(K:W.Frag){a b:Expr}{ta tb:TE}{pos:Pos}(ha:PE X a ta)(hb:PE X b tb)(hs:zc b:=by exact λ_ _=>rfl)(h:X.K=K:=by rfl):PE X (.Subscript a b pos) (Kw (Lr K) ta tb):=Gq (Ja K h) ha hb hs
theorem Cc(K:W.Frag){a b:Expr}{ta tb:TE}{pos:Pos}(ha:PE X a ta)(hb:PE X b tb)(hs:zc b:=by exact λ_ _=>rfl)(h:X.K=K:=by rfl):PE X (.Subscript a b pos) (Kw (Lq K) ta tb):=Gq (GG K h) ha hb hs
theorem cJ{op:CmpOp}{r:R2}{a b:Expr}{ta tb:TE}{pos:Pos}(ho:kg X (compareOp op) r)(ha:PE X a ta)(hb:PE X b tb)(h:op≠.In:=by decide)(h2:op≠.NotIn:=by decide):PT X (.Compare a [op] [b] pos) (KC (Kw r ta tb)):=bB ho ha hb (Gf b h h2)
theorem zB{op:CmpOp}{r:R2}{a b:Expr}{ta tb:TE}{pos:Pos}(ho:kg X (compareOp op) r)(ha:PE X a ta)(hb:PE X b tb)(h:op≠.In:=by decide)(h2:op≠.NotIn:=by decide):PE X (.Compare a [op] [b] pos) (Kw r ta tb):=vd ho ha hb (Gf b h h2)
end
abbrev FO(n q:Str)(s:Stmt)(d oc:Value)(od:Option Addr)(kV dc pm:Value)(an:Option Addr)(cd ct:Value)(sl:Array (Option Value)):Option Obj:=some ⟨oc,od,.func (W.fnOf n q (cD s) (bX s) (ay s) d kV dc pm an cd ct),sl⟩
abbrev FN(n q:Str)(s:Stmt)(d kV dc pm:Value)(an:Option Addr)(cd ct:Value):FuncData:=W.fnOf n q (cD s) (bX s) (ay s) d kV dc pm an cd ct
abbrev RF(a:Addr):Option (Option Value):=some (some (.ref a))
theorem ff.ug{K:W.Frag}{x qual:Str}{st:Stmt}{f:Addr}{fd:FuncData}{ps:List Str}(F:ff K x qual st f fd)(hp:ps.length=1:=by rfl)(h:∀(kV doc pm:Value)(an:Option Addr)(cdv ct a0:Value),bindArgs (W.fnOf x qual (cD st) (bX st) (ay st) .none kV doc pm an cdv ct) ⟨[a0],[]⟩=pure (ps.zip [a0]):=by intros;rfl):Binds K fd ps [] :=
 F.binds λkV doc pm an cdv ct us hl=>by
  rw[hp]at hl
  match us,hl with
  |[a0],_=>exact h kV doc pm an cdv ct a0
theorem ff.mF{K:W.Frag}{x qual:Str}{st:Stmt}{f:Addr}{fd:FuncData}{ps:List Str}(F:ff K x qual st f fd)(hp:ps.length=2:=by rfl)(h:∀(kV doc pm:Value)(an:Option Addr)(cdv ct a0 a1:Value),bindArgs (W.fnOf x qual (cD st) (bX st) (ay st) .none kV doc pm an cdv ct) ⟨[a0,a1],[]⟩=pure (ps.zip [a0,a1]):=by intros;rfl):Binds K fd ps [] :=
 F.binds λkV doc pm an cdv ct us hl=>by
  rw[hp]at hl
  match us,hl with
  |[a0,a1],_=>exact h kV doc pm an cdv ct a0 a1
theorem ff.kB{K:W.Frag}{x qual:Str}{st:Stmt}{f:Addr}{fd:FuncData}{ps:List Str}(F:ff K x qual st f fd)(hp:ps.length=3:=by rfl)(h:∀(kV doc pm:Value)(an:Option Addr)(cdv ct a0 a1 a2:Value),bindArgs (W.fnOf x qual (cD st) (bX st) (ay st) .none kV doc pm an cdv ct) ⟨[a0,a1,a2],[]⟩=pure (ps.zip [a0,a1,a2]):=by intros;rfl):Binds K fd ps [] :=
 F.binds λkV doc pm an cdv ct us hl=>by
  rw[hp]at hl
  match us,hl with
  |[a0,a1,a2],_=>exact h kV doc pm an cdv ct a0 a1 a2
theorem ff.RK{K:W.Frag}{x qual:Str}{st:Stmt}{f:Addr}{fd:FuncData}{ps:List Str}(F:ff K x qual st f fd)(hp:ps.length=4:=by rfl)(h:∀(kV doc pm:Value)(an:Option Addr)(cdv ct a0 a1 a2 a3:Value),bindArgs (W.fnOf x qual (cD st) (bX st) (ay st) .none kV doc pm an cdv ct) ⟨[a0,a1,a2,a3],[]⟩=pure (ps.zip [a0,a1,a2,a3]):=by intros;rfl):Binds K fd ps [] :=
 F.binds λkV doc pm an cdv ct us hl=>by
  rw[hp]at hl
  match us,hl with
  |[a0,a1,a2,a3],_=>exact h kV doc pm an cdv ct a0 a1 a2 a3
def FE(K:W.Frag)(x q:Str)(st:Stmt)(f:Addr):Prop:=∃fd,ff K x q st f fd
structure FQ(K:W.Frag)(x:Str)(st:Stmt)(f:Addr):Prop where
 a:W.nsIn K mainGlobals x=RF f
 e:FE K x x st f
structure FV(K:W.Frag)(C:Addr)(x q:Str)(st:Stmt)(f:Addr):Prop where
 a:W.findIn K (.ref C) x=RF f
 i:W.isFn K (.ref f)=true
 e:FE K x q st f
theorem FE.of{K:W.Frag}{x q:Str}{st:Stmt}{f:Addr}{oc:Value}{od an:Option Addr}{sl:Array (Option Value)}{kV dc pm cd ct:Value}(l:K.lookup f=FO x q st .none oc od kV dc pm an cd ct sl)(c:W.codeIn K cd q=true)(k:W.keepIn K (.ref f)=true):FE K x q st f:=⟨_,Gy l c k⟩
theorem FQ.of{K:W.Frag}{x:Str}{st:Stmt}{f:Addr}{oc:Value}{od an:Option Addr}{sl:Array (Option Value)}{kV dc pm cd ct:Value}(a:W.nsIn K mainGlobals x=RF f)(l:K.lookup f=FO x x st .none oc od kV dc pm an cd ct sl)(c:W.codeIn K cd x=true)(k:W.keepIn K (.ref f)=true):FQ K x st f:=⟨a,.of l c k⟩
theorem FV.of{K:W.Frag}{C:Addr}{x q:Str}{st:Stmt}{f:Addr}{oc:Value}{od an:Option Addr}{sl:Array (Option Value)}{kV dc pm cd ct:Value}(a:W.findIn K (.ref C) x=RF f)(i:W.isFn K (.ref f)=true)(l:K.lookup f=FO x q st .none oc od kV dc pm an cd ct sl)(c:W.codeIn K cd q=true)(k:W.keepIn K (.ref f)=true):FV K C x q st f:=⟨a,i,.of l c k⟩
end L2
namespace My
open PySem L2
def top(i:Nat):Stmt:=PySem.Challenge.pw_dialecthall_k62_alike_ones.main.body.getD i (.Pass ⟨0,0,0,0⟩)
abbrev iM:Stmt:=top 6
abbrev CO:Stmt:=top 7
abbrev p7:Stmt:=top 8
abbrev mG:Stmt:=top 11
abbrev rD:Stmt:=top 12
abbrev gP:Stmt:=top 13
abbrev di:Stmt:=top 15
abbrev aZ:Stmt:=inClass (top 16) 0
abbrev iN:Stmt:=inClass (top 16) 1
abbrev fS:Stmt:=inClass (top 16) 2
abbrev kC:Stmt:=top 17
abbrev er:Stmt:=top 19
abbrev gQ:Stmt:=top 20
abbrev jD:Stmt:=top 21
abbrev jE:Stmt:=top 22
abbrev gR:Stmt:=top 23
abbrev kD:Stmt:=top 24
abbrev gS:Stmt:=inClass (top 25) 0
abbrev mH:Stmt:=inClass (top 25) 1
abbrev gB:Stmt:=inClass (top 25) 2
abbrev jl:Stmt:=top 27
abbrev fT:Stmt:=inClass (top 28) 0
abbrev iO:Stmt:=inClass (top 28) 1
abbrev gT:Stmt:=top 29
abbrev fk:Stmt:=inClass (top 28) 2
abbrev rE:Stmt:=top 30
abbrev iP:Stmt:=top 31
abbrev rF:Stmt:=top 37
abbrev jF:Stmt:=top 38
abbrev eY:Stmt:=inClass (top 39) 1
abbrev fU:Stmt:=inClass (top 39) 2
abbrev dP:Stmt:=top 33
abbrev rG:Stmt:=top 34
abbrev fm:Stmt:=inClass (top 39) 0
abbrev nF:Stmt:=top 40
abbrev iQ:Stmt:=top 42
abbrev kE:Stmt:=top 43
abbrev jG:Stmt:=top 44
abbrev mJ:Stmt:=top 45
abbrev kF:Stmt:=top 46
abbrev mK:Stmt:=top 47
abbrev mL:Stmt:=top 48
abbrev kG:Stmt:=top 49
abbrev mO:Stmt:=top 51
abbrev mP:Stmt:=top 50
abbrev fV:Stmt:=top 52
abbrev oW:Stmt:=top 53
abbrev kH:Stmt:=top 54
abbrev d8:Stmt:=top 55
abbrev kI:Stmt:=top 56
abbrev tF:Stmt:=top 57
theorem au{H:Hp}{l:Addr}{o:HO}(h:H l=none):aF H (upd H l o):=λb u e=>by rw[aH (aV e h)];exact e
theorem bf{H H2:Hp}{l:Addr}{o:HO}(h:H l=none)(s:aF H H2):aF H (upd H2 l o):=λb u e=>by rw[aH (aV e h)];exact s b u e
theorem CQ{i:Nat}{x:V}{σ:St}{H:Hp}{A B:St->Hp->Prop}(h:A (σ.set i (some x)) H):bH i x σ H (λτ2 H2=>N7 τ2 H2 λb H3=>if b=true then A τ2 H3 else B τ2 H3):=by
 show(if true=true then A (σ.set i (some x)) H else B (σ.set i (some x)) H)
 exact jO h
theorem Ox{p A B:Prop}[Decidable p](hp:p)(h:A):if decide p=true then A else B:=by rw[aai (aar hp)];exact h
theorem KY{p A B:Prop}[Decidable p](hp:¬p)(h:B):if decide p=true then A else B:=by rw[aah (by simpa using hp)];exact h
theorem Hi{A B:Prop}{b:Bool}(hb:b=true)(h:B):if (!b)=true then A else B:=by rw[hb];exact bM h
theorem Hj{α:Type}{xs:List α}{i:Int}(h0:0<=i)(h:i<xs.length):∃c,Gp xs i=some c/\c∈xs:=by
 obtain⟨j,rfl⟩:∃j:Nat,i=j:=⟨i.toNat,by omega⟩
 have hj:j<xs.length:=by omega
 exact⟨xs[j],pX (by simp[hj]),List.getElem_mem hj⟩
theorem take_snoc{l:List Nat}{i c:Nat}(h:l[i]?=some c):l.take (i+1)=l.take i++[c]:=by
 rw[List.take_succ,h];rfl
def Pn(c:Nat):Prop:=32<=c/\c<=126/\c≠37
instance(c:Nat):Decidable (Pn c):=by unfold Pn;exact inferInstance
structure Sg(z:Str):Prop where
 nd:z.cps.toList.Nodup
 pr:∀c∈z.cps.toList,Pn c
def Mn(z:Str):Prop:=0<z.length/\z.length<=100/\∀c∈z.cps.toList,Pn c
instance(z:Str):Decidable (Mn z):=by unfold Mn;exact inferInstance
structure Gd(p q f:Str):Prop where
 gp:Sg p
 gq:Sg q
 gf:Sg f
 p1:1<=p.length
 p3:p.length<=3
 q2:q.length<=2
 f2:f.length<=2
def jR(p q f:Str)(b1 b2 b3 b4:Bool):List V:=[.str p,.str q,.str f,.bl b1,.bl b2,.bl b3,.bl b4]
def AO(p q f:Str)(b1 b2 b3 b4:Bool):List (Str×V):=[("parts",.str p),("quotes",.str q),("frees",.str f),("twin",.bl b1),("wide",.bl b2),("thin",.bl b3),("stray",.bl b4)]
def away(t:Str)(c:Nat):Bool:=!(!(Builtin.Str.occurrences t (sg c) 0 t.length 1).isEmpty)
theorem iR(t:Str)(c:Nat):away t c=true↔c∉t.cps.toList:=by
 unfold away
 have e:(!(Builtin.Str.occurrences t (sg c) 0 t.length 1).isEmpty)=decide (c∈t.cps.toList):=StrLaws.found_one t c
 rw[e]
 simp
theorem LS{z:Str}{c:Nat}(h:Sg z)(hc:Pn c)(ha:away z c=true):Sg (z++sg c):=by
 have e:(z++sg c).cps.toList=z.cps.toList++[c]:=by
  show(z.cps ++ #[c]).toList=_
  simp
 have hn:=(iR z c).mp ha
 refine⟨?_,?_⟩
 ·rw[e,List.nodup_append]
  refine⟨h.nd,by simp,λa ha b hb=>?_⟩
  rw[aau.mp hb]
  intro q;exact hn (q▸ha)
 ·rw[e]
  intro d hd
  rcases aaY.mp hd with z'|z'
  ·exact h.pr d z'
  ·rw[aau.mp z'];exact hc
theorem LU:Sg ("":Str):=by
 have e:("":Str).cps.toList=[]:=by decide +kernel
 refine⟨?_,?_⟩
 ·rw[e];exact List.nodup_nil
 ·rw[e];intro c hc;cases hc
theorem bS(a b:Str):(a++b).length=a.length+b.length:=by
 show(a.cps++b.cps).size=_
 rw[Array.size_append];rfl
theorem av{K:W.Frag}{H H':Hp}{a:Addr}{xs:List V}(e:aF H H')(h:aK K H a xs):aK K H' a xs:=by
 rcases h with (h|⟨o,h⟩)|h
 ·exact .inl (.inl (e _ _ h))
 ·exact .inl (.inr ⟨o,e _ _ h⟩)
 ·exact .inr h
theorem Hl{A B:Prop}{b:Bool}(hb:b=false)(h:A):if (!b)=true then A else B:=by rw[hb];exact jO h
theorem jS{A B:Prop}{b:Bool}(hb:b=true)(h:A):if b=true then A else B:=by rw[hb];exact jO h
theorem jm{A B:Prop}{b:Bool}(hb:b=false)(h:B):if b=true then A else B:=by rw[hb];exact bM h
def gj(c:Nat)(z:Str):Bool:=!(Builtin.Str.occurrences z (sg c) 0 z.length 1).isEmpty
def bh(a b:Str):Bool:=decide (V.str a=V.str b)
theorem mQ{a b:Str}(h:bh a b=true):a=b:=by have:=aa6 h;cases this;rfl
theorem aI(a:Str):bh a a=true:=aar rfl
inductive Res where
 |go (k w u:Str)
 |ye (w:Str)
def uh(K:W.Frag)(H:Hp)(v:V):Res->Prop
 | .go k w u=>bh k ("fault":Str)=false/\∃a b,v=.ref a/\aK K H a [.str k,.ref b]/\aK K H b [.str w,.str u]
 | .ye w=>∃a,v=.ref a/\aK K H a [.str ("fault":Str),.str w]
theorem bI{K:W.Frag}{H:Hp}{Q:VK}{k w u:Str}{r:Res}(e:r=.go k w u)(hk:bh k ("fault":Str)=false)(h:∀v H',aF H H'->uh K H' v r->Q v H'):[V.str w,V.str u].length<=sizeLine/\∀b,H b=none->([V.str k,V.ref b].length<=sizeLine/\∀a,(upd H b (.tup [.str w,.str u])) a=none->Q (.ref a) (upd (upd H b (.tup [.str w,.str u])) a (.tup [.str k,.ref b]))):=by
 refine⟨(by show 2<=sizeLine;decide),λb hb=>⟨(by show 2<=sizeLine;decide),λa ha=>?_⟩⟩
 have s1:=au (o:=HO.tup [.str w,.str u]) hb
 have s2:=au (o:=HO.tup [.str k,.ref b]) ha
 refine h _ _ (s1.trans s2) ?_
 rw[e]
 exact⟨hk,a,b,O,aK.of aj,av s2 (aK.of aj)⟩
theorem gC{K:W.Frag}{H H0:Hp}{Q:VK}{k w u:Str}{r:Res}{b:Addr}(e:r=.go k w u)(hk:bh k ("fault":Str)=false)(s0:aF H0 H)(hb:aK K H b [.str w,.str u])(h:∀v H',aF H0 H'->uh K H' v r->Q v H'):[V.str k,V.ref b].length<=sizeLine/\∀a,H a=none->Q (.ref a) (upd H a (.tup [.str k,.ref b])):=by
 refine⟨(by show 2<=sizeLine;decide),λa ha=>?_⟩
 have s2:=au (o:=HO.tup [.str k,.ref b]) ha
 refine h _ _ (s0.trans s2) ?_
 rw[e]
 exact⟨hk,a,b,O,aK.of aj,av s2 hb⟩
theorem gU{K:W.Frag}{H:Hp}{Q:VK}{w:Str}{r:Res}(e:r=.ye w)(h:∀v H',aF H H'->uh K H' v r->Q v H'):[V.str ("fault":Str),V.str w].length<=sizeLine/\∀a,H a=none->Q (.ref a) (upd H a (.tup [.str ("fault":Str),.str w])):=by
 refine⟨(by show 2<=sizeLine;decide),λa ha=>?_⟩
 have s2:=au (o:=HO.tup [.str ("fault":Str),.str w]) ha
 refine h _ _ s2 ?_
 rw[e]
 exact⟨a,O,aK.of aj⟩
theorem cF:bh ("skip":Str) ("fault":Str)=false:=by decide +kernel
theorem oX:bh ("end":Str) ("fault":Str)=false:=by decide +kernel
theorem kJ:bh ("part":Str) ("fault":Str)=false:=by decide +kernel
theorem cA:bh ("put":Str) ("fault":Str)=false:=by decide +kernel
def cK(p q f:Str)(b3:Bool)(w u:Str)(c:Nat):Res :=
 if gj c f=true then .go ("skip":Str) ("freed":Str) ("":Str) else
 if bh (sg c) (Str.ofString "\n")=true then .go ("end":Str) ("row":Str) ("":Str) else
 if gj c q=true then .go ("skip":Str) ("within":Str) (sg c) else
 if gj c p=true then .go ("part":Str) ("cell":Str) ("":Str) else
 if bh (sg c) (" ":Str)=true then (if b3=true then .go ("skip":Str) w u else .go ("put":Str) ("plain":Str) ("":Str)) else
 .go ("put":Str) ("plain":Str) ("":Str)
def cT(p q f:Str)(b4:Bool)(c:Nat):Res :=
 if gj c f=true then .go ("skip":Str) ("freed":Str) ("":Str) else
 if bh (sg c) (Str.ofString "\n")=true then .go ("end":Str) ("row":Str) ("":Str) else
 if gj c p=true then .go ("part":Str) ("cell":Str) ("":Str) else
 if gj c q=true then (if (!b4)=true then .ye ("quote":Str) else .go ("put":Str) ("plain":Str) ("":Str)) else
 .go ("put":Str) ("plain":Str) ("":Str)
def cu(f:Str)(b1 b2:Bool)(u:Str)(c:Nat):Res :=
 if gj c f=true then .go ("skip":Str) ("freed":Str) u else
 if bh (sg c) u=true then (if b1=true then .go ("skip":Str) ("doubt":Str) u else .go ("skip":Str) ("behind":Str) ("":Str)) else
 if bh (sg c) (Str.ofString "\n")=true then (if (!b2)=true then .ye ("line":Str) else .go ("put":Str) ("within":Str) u) else
 .go ("put":Str) ("within":Str) u
def bC(p:Str)(b3:Bool)(c:Nat):Res :=
 if bh (sg c) (Str.ofString "\n")=true then .go ("end":Str) ("row":Str) ("":Str) else
 if gj c p=true then .go ("part":Str) ("cell":Str) ("":Str) else
 if bh (sg c) (" ":Str)=true then (if b3=true then .go ("skip":Str) ("behind":Str) ("":Str) else .ye ("behind":Str)) else
 .ye ("behind":Str)
def fW(p:Str)(b3:Bool)(u:Str)(c:Nat):Res:=if bh (sg c) u=true then .go ("put":Str) ("within":Str) u else bC p b3 c
def eZ(u:Str):Res:=if bh u ("":Str)=true then .go ("put":Str) ("plain":Str) ("":Str) else .go ("put":Str) ("within":Str) u
def gD(b2:Bool)(u:Str)(c:Nat):Res :=
 if bh (sg c) (Str.ofString "\n")=true then (if (!b2)=true then .ye ("line":Str) else eZ u) else eZ u
def dw(p q f:Str)(b3 b4:Bool)(w u:Str)(c:Nat):Res:=if bh w ("plain":Str)=true then cT p q f b4 c else cK p q f b3 w u c
def dg(p q f:Str)(b1 b2 b3 b4:Bool)(w u:Str)(c:Nat):Res :=
 if bh w ("within":Str)=true then cu f b1 b2 u c else
 if bh w ("freed":Str)=true then gD b2 u c else
 if bh w ("doubt":Str)=true then fW p b3 u c else
 if bh w ("behind":Str)=true then bC p b3 c else
 dw p q f b3 b4 w u c
theorem ns{a b:String}(h:bh (Str.ofString a) (Str.ofString b)=false):¬bh (Str.ofString a) (Str.ofString b)=true:=by rw[h];decide
theorem p8{p q f:Str}{b1 b2 b3 b4:Bool}{w u:Str}{c:Nat}(h:bh w ("plain":Str)=true):dg p q f b1 b2 b3 b4 w u c=cT p q f b4 c:=by
 cases mQ h
 unfold dg dw
 rw[aah (ns (by decide +kernel)),aah (ns (by decide +kernel)),aah (ns (by decide +kernel)),aah (ns (by decide +kernel)),aai (aI _)]
theorem cU{p q f:Str}{b1 b2 b3 b4:Bool}{w u:Str}{c:Nat}(h:bh w ("within":Str)=true):dg p q f b1 b2 b3 b4 w u c=cu f b1 b2 u c:=by
 unfold dg
 rw[aai h]
theorem dQ{p q f:Str}{b1 b2 b3 b4:Bool}{w u:Str}{c:Nat}(h:bh w ("doubt":Str)=true):dg p q f b1 b2 b3 b4 w u c=fW p b3 u c:=by
 cases mQ h
 unfold dg
 rw[aah (ns (by decide +kernel)),aah (ns (by decide +kernel)),aai (aI _)]
theorem dF{p q f:Str}{b1 b2 b3 b4:Bool}{w u:Str}{c:Nat}(h:bh w ("behind":Str)=true):dg p q f b1 b2 b3 b4 w u c=bC p b3 c:=by
 cases mQ h
 unfold dg
 rw[aah (ns (by decide +kernel)),aah (ns (by decide +kernel)),aah (ns (by decide +kernel)),aai (aI _)]
theorem eN{p q f:Str}{b1 b2 b3 b4:Bool}{w u:Str}{c:Nat}(h:bh w ("freed":Str)=true):dg p q f b1 b2 b3 b4 w u c=gD b2 u c:=by
 cases mQ h
 unfold dg
 rw[aah (ns (by decide +kernel)),aai (aI _)]
theorem iB{p q f:Str}{b1 b2 b3 b4:Bool}{w u:Str}{c:Nat}(h1:bh w ("within":Str)=false)(h2:bh w ("freed":Str)=false)(h3:bh w ("doubt":Str)=false)(h4:bh w ("behind":Str)=false):dg p q f b1 b2 b3 b4 w u c=dw p q f b3 b4 w u c:=by
 unfold dg
 rw[h1,h2,h3,h4]
 rfl
theorem ia{b:Bool}(h:¬b=true):b=false:=by cases b<;>simp_all
def RL(d:Addr):List (Str×V):=[("dialect",.ref d)]
structure Tn(C CT:Addr)(H:Hp)(y:Addr)(p q f:Str)(b1 b2 b3 b4:Bool):Prop where
 ok:∃dy d dd,H y=some (.ins CT dy (RL d))/\H d=some (.ins C dd (AO p q f b1 b2 b3 b4))
theorem Tn.mono{C CT:Addr}{H H':Hp}{y:Addr}{p q f:Str}{b1 b2 b3 b4:Bool}(s:aF H H')(h:Tn C CT H y p q f b1 b2 b3 b4):Tn C CT H' y p q f b1 b2 b3 b4:=by
 obtain⟨dy,d,dd,e1,e2⟩:=h.ok
 exact⟨dy,d,dd,s _ _ e1,s _ _ e2⟩
theorem jT{H H':Hp}{y dy:Addr}{o:HO}(hy:H y=none)(RM:H dy=none)(kp:∀b o',upd (upd H dy (.own y)) y o b=some o'->b≠y->H' b=some o'):aF H H':=λb o' e=>kp b o' (by rw[aH (aV e hy),aH (aV e RM)];exact e) (aV e hy)
theorem gJ{H:Hp}{y dy b:Addr}{o o':HO}(hy:H y=none)(RM:H dy=none)(e:H b=some o'):upd (upd H dy (.own y)) y o b=some o':=by rw[aH (aV e hy),aH (aV e RM)];exact e
def rH(K:W.Frag)(H:Hp)(x:V)(w:Str×Str):Prop:=∃a,x=.ref a/\aK K H a [.str w.1,.str w.2]
theorem rH.mono{K:W.Frag}{H H':Hp}{x:V}{w:Str×Str}(e:aF H H')(h:rH K H x w):rH K H' x w:=let ⟨a,e1,e2⟩:=h;⟨a,e1,av e e2⟩
theorem rH.but{K:W.Frag}{H:Hp}{x:V}{w:Str×Str}{l:Addr}{ys:List V}{o:HO}(hl:H l=some (.lst ys))(h:rH K H x w):rH K (upd H l o) x w:=by
 obtain⟨a,e1,e2⟩:=h
 refine⟨a,e1,?_⟩
 rcases e2 with (h|⟨ob,h⟩)|h
 ·exact .inl (.inl ((aH (oh h hl (by intro z;cases z))).trans h))
 ·exact .inl (.inr ⟨ob,(aH (oh h hl (by intro z;cases z))).trans h⟩)
 ·exact .inr h
theorem aW{α β:Type}{F G:α->β->Prop}(h:∀a b,F a b->G a b):∀{xs:List α}{ys:List β},Paired F xs ys->Paired G xs ys
 |_,_,.nil=>.nil
 |_,_,.cons q r=>.cons (h _ _ q) (aW h r)
theorem bU{α β:Type}{F:α->β->Prop}:∀{xs xs':List α}{ys ys':List β},Paired F xs ys->Paired F xs' ys'->Paired F (xs++xs') (ys++ys')
 |_,_,_,_,.nil,r=>r
 |_,_,_,_,.cons q t,r=>.cons q (bU t r)
theorem bV{α β:Type}{F:α->β->Prop}:∀{xs:List α}{ys:List β},Paired F xs ys->∀(j:Nat) x,xs[j]?=some x->∃y,ys[j]?=some y/\F x y
 |_,_,.nil,j,x,h=>by simp at h
 |_,_,.cons q t,0,x,h=>by simp at h;subst h;exact⟨_,rfl,q⟩
 |_,_,.cons q t,j+1,x,h=>by
  obtain⟨y,h1,h2⟩:=bV t j x (by simpa using h)
  exact⟨y,by simpa using h1,h2⟩
def c5:List (Str×Str):=[(Str.ofString "row",("":Str)),(Str.ofString "cell",("":Str)),(Str.ofString "plain",("":Str)),(Str.ofString "behind",("":Str)),(Str.ofString "freed",("":Str))]
def c3(c:Nat):List (Str×Str):=[(Str.ofString "within",sg c),(Str.ofString "doubt",sg c),(Str.ofString "freed",sg c)]
def cont(l:List Nat):List (Str×Str):=c5++l.flatMap c3
theorem EZ(l:List Nat)(c:Nat):cont (l++[c])=cont l++c3 c:=by
 unfold cont;rw[List.flatMap_append,←abz];simp
theorem Ho(l:List Nat):(cont l).length=5+3*l.length:=by
 unfold cont
 rw[aav]
 have e:(l.flatMap c3).length=3*l.length:=by
  induction l with
  |nil=>rfl
  |cons c l ih=>rw[abA,aav,ih,aaH];show 3+_=_;omega
 rw[e];rfl
theorem Oz{K:W.Frag}{H:Hp}{t0 t1 t2 t3 t4:Addr}(q0:aK K H t0 [.str ("row":Str),.str ("":Str)])(q1:aK K H t1 [.str ("cell":Str),.str ("":Str)])(q2:aK K H t2 [.str ("plain":Str),.str ("":Str)])(q3:aK K H t3 [.str ("behind":Str),.str ("":Str)])(q4:aK K H t4 [.str ("freed":Str),.str ("":Str)]):Paired (rH K H) [.ref t0,.ref t1,.ref t2,.ref t3,.ref t4] (cont []):=by
 show Paired (rH K H) _ c5
 unfold c5
 exact .cons ⟨_,rfl,q0⟩ (.cons ⟨_,rfl,q1⟩ (.cons ⟨_,rfl,q2⟩ (.cons ⟨_,rfl,q3⟩ (.cons ⟨_,rfl,q4⟩ .nil))))
theorem OA{K:W.Frag}{H:Hp}{u1 u2 u3:Addr}{c:Nat}(q1:aK K H u1 [.str ("within":Str),.str (sg c)])(q2:aK K H u2 [.str ("doubt":Str),.str (sg c)])(q3:aK K H u3 [.str ("freed":Str),.str (sg c)]):Paired (rH K H) [.ref u1,.ref u2,.ref u3] (c3 c):=by
 unfold c3
 exact .cons ⟨_,rfl,q1⟩ (.cons ⟨_,rfl,q2⟩ (.cons ⟨_,rfl,q3⟩ .nil))
def Wy(u f:Str):Bool:=!(!(Builtin.Str.occurrences f u 0 f.length 1).isEmpty)
def dz(f w u:Str):Bool:=if bh u ("":Str)=true then true else if bh w ("doubt":Str)=true then true else Wy u f
theorem Ed(c:Nat)(z:Str):gj c z=decide (c∈z.cps.toList):=StrLaws.found_one z c
theorem LV{c:Nat}{z:Str}(h:c∉z.cps.toList):¬gj c z=true:=by rw[Ed];simpa using h
theorem Wz{z:Str}(g:Sg z):¬gj 10 z=true:=LV λh=>by have:=(g.pr 10 h).1;omega
theorem Bo:∀c:Nat,¬bh (sg c) ("":Str)=true:=λc e=>by
 have:=congrArg Str.length (mQ e)
 have e0:("":Str).length=0:=by decide +kernel
 rw[e0]at this
 exact absurd this (by show ¬(1=0);decide)
theorem app_list(a b:Str):(a++b).cps.toList=a.cps.toList++b.cps.toList:=by
 show(a.cps++b.cps).toList=_
 simp
theorem zC:("":Str).cps.toList=[]:=by decide +kernel
def jU(q w u:Str):Prop:=(u=Str.ofString ""/\(w=Str.ofString "row"\/w=Str.ofString "cell"\/w=Str.ofString "plain"\/w=Str.ofString "behind"\/w=("freed":Str)))\/∃c,c∈q.cps.toList/\u=sg c/\(w=Str.ofString "within"\/w=Str.ofString "doubt"\/w=("freed":Str))
theorem rJ{p q f:Str}{b1 b2 b3 b4:Bool}{u:Str}{c:Nat}(a:String)(h1:bh (Str.ofString a) ("within":Str)=false)(h2:bh (Str.ofString a) ("freed":Str)=false)(h3:bh (Str.ofString a) ("doubt":Str)=false)(h4:bh (Str.ofString a) ("behind":Str)=false):dg p q f b1 b2 b3 b4 (Str.ofString a) u c=dw p q f b3 b4 (Str.ofString a) u c:=iB h1 h2 h3 h4
theorem iC{K:W.Frag}{H:Hp}{a l:Addr}{xs ys:List V}{o:HO}(hl:H l=some (.lst ys))(e2:aK K H a xs):aK K (upd H l o) a xs:=by
 rcases e2 with (h|⟨ob,h⟩)|h
 ·exact .inl (.inl ((aH (oh h hl (by intro z;cases z))).trans h))
 ·exact .inl (.inr ⟨ob,(aH (oh h hl (by intro z;cases z))).trans h⟩)
 ·exact .inr h
theorem fq{α:Type}{l:List α}{i:Nat}{c:α}(h:l[i]?=some c):l.take (i+1)=l.take i++[c]:=by
 rw[List.take_succ,h];rfl
theorem nG{t u:TS}{D:Ends}{σ:St}{H:Hp}(N:St->Hp->Prop)(hu:∀σ' H',N σ' H'->u D σ' H')(ht:(∀σ' H',N σ' H'->u D σ' H')->t {D with nx:=u D} σ H):IC t u D σ H:=ht hu
theorem LW:("":Str).length=0:=by decide +kernel
theorem OB{q:Str}{c:Nat}(h:gj c q=true):c∈q.cps.toList:=by rw[Ed]at h;exact aa6 h
theorem zD{p q f:Str}{b1 b2 b3 b4:Bool}{w u k w' u':Str}{c:Nat}(h:jU q w u)(hs:dg p q f b1 b2 b3 b4 w u c=.go k w' u'):jU q w' u':=by
 have Hq:∀{w u:Str},jU q w u->dw p q f b3 b4 w u c=.go k w' u'->jU q w' u':=by
  intro w u h hs
  unfold dw cT cK at hs
  repeat' split at hs
  all_goals first
   | (cases hs;exact .inl ⟨rfl,.inl rfl⟩)
   | (cases hs;exact .inl ⟨rfl,.inr (.inl rfl)⟩)
   | (cases hs;exact .inl ⟨rfl,.inr (.inr (.inl rfl))⟩)
   | (cases hs;exact .inl ⟨rfl,.inr (.inr (.inr (.inr rfl)))⟩)
   | (cases hs;rename_i hq _ _;exact .inr ⟨c,OB (by assumption),rfl,.inl rfl⟩)
   | (cases hs;exact .inr ⟨c,OB (by assumption),rfl,.inl rfl⟩)
   | (cases hs;exact h)
   |cases hs
 have OC:bC p b3 c=.go k w' u'->jU q w' u':=by
  intro hs
  unfold bC at hs
  repeat' split at hs
  all_goals first
   | (cases hs;exact .inl ⟨rfl,.inl rfl⟩)
   | (cases hs;exact .inl ⟨rfl,.inr (.inl rfl)⟩)
   | (cases hs;exact .inl ⟨rfl,.inr (.inr (.inr (.inl rfl)))⟩)
   |cases hs
 rcases h with ⟨rfl,rfl|rfl|rfl|rfl|rfl⟩|⟨d,hd,rfl,rfl|rfl|rfl⟩
 ·rw[rJ "row" (by decide +kernel) (by decide +kernel) (by decide +kernel) (by decide +kernel)]at hs
  exact Hq (.inl ⟨rfl,.inl rfl⟩) hs
 ·rw[rJ "cell" (by decide +kernel) (by decide +kernel) (by decide +kernel) (by decide +kernel)]at hs
  exact Hq (.inl ⟨rfl,.inr (.inl rfl)⟩) hs
 ·rw[rJ "plain" (by decide +kernel) (by decide +kernel) (by decide +kernel) (by decide +kernel)]at hs
  exact Hq (.inl ⟨rfl,.inr (.inr (.inl rfl))⟩) hs
 ·rw[dF (aI _)]at hs
  exact OC hs
 ·rw[eN (aI _)]at hs
  unfold gD eZ at hs
  rw[aai (aI _)]at hs
  repeat' split at hs
  all_goals first
   | (cases hs;exact .inl ⟨rfl,.inr (.inr (.inl rfl))⟩)
   |cases hs
 ·rw[cU (aI _)]at hs
  unfold cu at hs
  repeat' split at hs
  all_goals first
   | (cases hs;exact .inr ⟨d,hd,rfl,.inr (.inr rfl)⟩)
   | (cases hs;exact .inr ⟨d,hd,rfl,.inr (.inl rfl)⟩)
   | (cases hs;exact .inr ⟨d,hd,rfl,.inl rfl⟩)
   | (cases hs;exact .inl ⟨rfl,.inr (.inr (.inr (.inl rfl)))⟩)
   |cases hs
 ·rw[dQ (aI _)]at hs
  unfold fW at hs
  split at hs
  ·cases hs;exact .inr ⟨d,hd,rfl,.inl rfl⟩
  ·exact OC hs
 ·rw[eN (aI _)]at hs
  unfold gD eZ at hs
  rw[aah (Bo d)]at hs
  repeat' split at hs
  all_goals first
   | (cases hs;exact .inr ⟨d,hd,rfl,.inl rfl⟩)
   |cases hs
theorem Bp{z:Str}{m:Nat}(h:m<=z.length):(Txt.slice z none (some (m:Int))).cps.toList=z.cps.toList.take m:=by
 have hz:z.cps.toList.length=z.length:=by rw[aam];rfl
 have:=PyProof.Rows.slice_closes_to (x:=z) (j:=(m:Int)) ⟨by omega,by omega⟩
 rw[eq_of_beq this]
 show(z.cps.toList.drop (0:Int).toNat).take ((m:Int)-0).toNat=_
 simp
theorem sub_len:∀{L M:List Nat},L.Nodup->(∀c∈L,c∈M)->L.length<=M.length
 |[],_,_,_=>aaK _
 |a::L,M,hn,hs=>by
  have ha:=hs a (aaA ..)
  have hn':=aa8.mp hn
  have:=sub_len (M:=M.erase a) hn'.2 λc hc=>(List.mem_erase_of_ne (λe=>hn'.1 (by rw[←e];exact hc))).mpr (hs c (aaw _ hc))
  rw[List.length_erase_of_mem ha]at this
  have h1:0<M.length:=List.length_pos_of_mem ha
  rw[aaH];omega
def cV:List Nat:=("abcdefghijklmnopqrstuvwxyzABCDEFGHIJKLMNOPQRSTUVWXYZ0123456789":Str).cps.toList
theorem vK:cV.length=62:=by decide +kernel
theorem join_list(zs:List Str):(Txt.join ("":Str) zs).cps.toList=zs.flatMap (λz=>z.cps.toList):=by
 have ee:("":Str).cps.toList=[]:=by decide +kernel
 show(Builtin.Str.glued ("":Str) zs).cps.toList=_
 rw[StrLaws.glued_eq_join]
 induction zs with
 |nil=>exact ee
 |cons c cs ih =>
  cases cs with
  |nil =>
   show c.cps.toList=_
   simp
  |cons d cs =>
   show(c++("":Str)++Str.join ("":Str) (d::cs)).cps.toList=_
   rw[app_list,app_list,ee,aaU,ih]
   simp[abA]
theorem Ju{a b:Str}(h:a.cps.toList=b.cps.toList):a=b:=by
 cases a;cases b
 congr 1
 exact Array.toList_inj.mp h
theorem rK(l:List Nat)(c:Nat):away ⟨l.toArray⟩ c=true↔c∉l:=by
 rw[iR]
theorem Jv:cV.Nodup:=by decide +kernel
theorem CS{t:Str}(h:t.length<=60):∃c r,cV.filter (away t)=c::r/\c∉t.cps.toList:=by
 cases e:cV.filter (away t) with
 |cons c r =>
  have:c∈cV.filter (away t):=by rw[e];exact aaA ..
  exact⟨c,r,O,(iR _ _).mp (abi.mp this).2⟩
 |nil =>
  exfalso
  have:=sub_len (L:=cV) (M:=t.cps.toList) Jv λx hx=>Classical.byContradiction λq=>by
   have:x∈cV.filter (away t):=abi.mpr ⟨hx,(iR _ _).mpr q⟩
   rw[e]at this;cases this
  rw[vK,aam]at this
  have:t.cps.size<=60:=h
  omega
theorem Ef{zs:List Str}{m:Nat}(h:∀z∈zs,z.length<=m):(zs.map (·.length)).sum+zs.length*("":Str).length<=m*zs.length:=by
 have e:("":Str).length=0:=by decide +kernel
 rw[e,Nat.mul_zero,Nat.add_zero]
 induction zs with
 |nil=>exact aaK _
 |cons z zs ih =>
  have h1:=h z (aaA ..)
  have h2:=ih λy hy=>h y (aaw _ hy)
  rw[aaX,List.sum_cons,aaH,Nat.mul_succ]
  omega
theorem CU{zs:List Str}{m:Nat}(h:∀z∈zs,z.length<=m):(zs.flatMap (λz=>z.cps.toList)).length<=m*zs.length:=by
 induction zs with
 |nil=>exact aaK _
 |cons z zs ih =>
  have h1:=h z (aaA ..)
  have h2:=ih λy hy=>h y (aaw _ hy)
  rw[abA,aav,aaH,Nat.mul_succ,aam]
  have:z.cps.size<=m:=h1
  omega
structure B4 where
 a:Bool
 b:Bool
 c:Bool
 d:Bool
def B4.vs(b:B4):List V:=[.bl b.a,.bl b.b,.bl b.c,.bl b.d]
abbrev eF:=Str×Str×Str×B4
def zE(x:eF):List V:=jR x.1 x.2.1 x.2.2.1 x.2.2.2.a x.2.2.2.b x.2.2.2.c x.2.2.2.d
def jV(x:eF):List (Str×V):=AO x.1 x.2.1 x.2.2.1 x.2.2.2.a x.2.2.2.b x.2.2.2.c x.2.2.2.d
abbrev tG(x:eF):Prop:=Gd x.1 x.2.1 x.2.2.1
abbrev Yy(C:Addr)(H:Hp):List V->List eF->Prop:=Paired λe x=>∃y dy,e=V.ref y/\H y=some (.ins C dy (jV x))
def dR(acc:List Nat)(c:Nat):List Nat:=if away ⟨acc.toArray⟩ c=true then acc++[c] else acc
def cj(l:List Nat):List Nat:=l.foldl dR []
theorem gE(l:List Nat)(c:Nat):cj (l++[c])=dR (cj l) c:=by unfold cj;rw[aa7];rfl
theorem rL(l:List Nat):(cj l).length<=l.length:=by
 have key:∀(l acc:List Nat),(l.foldl dR acc).length<=acc.length+l.length:=by
  intro l
  induction l with
  |nil=>intro acc;exact aaj _
  |cons c l ih =>
   intro acc
   rw[aa9,aaH]
   have h1:=ih (dR acc c)
   have h2:(dR acc c).length<=acc.length+1:=by
    unfold dR
    split
    ·rw[aav];exact aaj _
    ·omega
   omega
 have:=key l []
 simpa [cj]using this
def bK(z:Str):Str:=⟨(cj z.cps.toList).toArray⟩
theorem nH(z:Str):(bK z).length<=z.length:=by
 show(cj z.cps.toList).toArray.size<=_
 rw[aap]
 refine aao (rL _) ?_
 rw[aam];exact aaj _
def eO(p q f:Str)(b1 b2 b3 b4:Bool)(w u:Str)(c:Nat):Option (Str×Str×Str):=match dg p q f b1 b2 b3 b4 w u c with
 | .go k w' u'=>if dz f w' u'=true then some (k,w',u') else none
 | .ye _=>none
def AQ(K:W.Frag)(x:Option (Str×Str×Str))(H:Hp)(v:V):Prop:=match x with
 |none=>v=.non
 |some (k,w,u)=>∃a b,v=.ref a/\aK K H a [.str k,.ref b]/\aK K H b [.str w,.str u]
abbrev E1:=(Str×Str)×Nat
theorem Tn.off{C CT:Addr}{H:Hp}{y m:Addr}{p q f:Str}{b1 b2 b3 b4:Bool}{o o':HO}(hm:H m=some o')(n1:∀d fs,o'≠.ins CT d (RL fs))(n2:∀d,o'≠.ins C d (AO p q f b1 b2 b3 b4))(h:Tn C CT H y p q f b1 b2 b3 b4):Tn C CT (upd H m o) y p q f b1 b2 b3 b4:=by
 obtain⟨dy,d,dd,e1,e2⟩:=h.ok
 exact⟨dy,d,dd,(aH (λq=>by rw[q,hm]at e1;exact n1 _ _ (aaC e1))).trans e1,(aH (λq=>by rw[q,hm]at e2;exact n2 _ (aaC e2))).trans e2⟩
def m0:E1:=((Str.ofString "row",("":Str)),0)
theorem Eg:∀(xs:List Nat),((xs.map sg).map (·.length)).sum=xs.length
 |[]=>rfl
 |x::xs=>by rw[aaX,aaX,List.sum_cons,Eg xs,GF,aaH];omega
section
variable{good:E1->Bool}{led:E1->List (Nat×E1)}{a:E1}
end
def M7(q:Str):List (Str×Str):=[(Str.ofString "row",("":Str)),(Str.ofString "cell",("":Str)),(Str.ofString "plain",("":Str)),(Str.ofString "behind",("":Str)),(Str.ofString "freed",("":Str))]++q.cps.toList.flatMap λc=>[(Str.ofString "within",sg c),(Str.ofString "doubt",sg c),(Str.ofString "freed",sg c)]
theorem vL{q w u:Str}(h:jU q w u):(w,u)∈M7 q:=by
 unfold M7
 rcases h with ⟨rfl,rfl|rfl|rfl|rfl|rfl⟩|⟨d,hd,rfl,rfl|rfl|rfl⟩
 ·exact aaN _ (by simp)
 ·exact aaN _ (by simp)
 ·exact aaN _ (by simp)
 ·exact aaN _ (by simp)
 ·exact aaN _ (by simp)
 ·exact aaB _ (abC.mpr ⟨d,hd,by simp⟩)
 ·exact aaB _ (abC.mpr ⟨d,hd,by simp⟩)
 ·exact aaB _ (abC.mpr ⟨d,hd,by simp⟩)
theorem zF{p q f:Str}(g:Gd p q f):(M7 q).length<=11:=by
 have e:∀l:List Nat,(l.flatMap λc=>[(Str.ofString "within",sg c),(Str.ofString "doubt",sg c),(Str.ofString "freed",sg c)]).length=3*l.length:=by
  intro l
  induction l with
  |nil=>rfl
  |cons a l ih=>rw[abA,aav,ih];show 3+3*l.length=3*(l.length+1);omega
 unfold M7
 rw[aav,e]
 have:q.cps.toList.length<=2:=by rw[aam];exact g.q2
 show 5+_<=11
 omega
section
variable{p q f:Str}{b1 b2 b3 b4:Bool}
end
theorem Hr(cs:List Nat):(Txt.join ("":Str) (cs.map sg)).cps.toList=cs:=by
 have ee:("":Str).cps.toList=[]:=by decide +kernel
 show(Builtin.Str.glued ("":Str) (cs.map sg)).cps.toList=_
 rw[StrLaws.glued_eq_join]
 induction cs with
 |nil=>exact ee
 |cons c cs ih =>
  cases cs with
  |nil=>rfl
  |cons d cs =>
   show(sg c++("":Str)++Str.join ("":Str) ((d::cs).map sg)).cps.toList=_
   rw[app_list,app_list,ee,aaU,ih]
   rfl
theorem Hs(xs:List V)(n:Nat)(h:n<=xs.length):vv xs (some (n:Int)) none=xs.drop n:=by
 unfold vv
 have e1:HT.gk xs.length xs.length none=xs.length:=rfl
 have e2:HT.gk xs.length 0 (some (n:Int))=n:=by
  show(if (n:Int)<0 then ((n:Int)+(xs.length:Int)).toNat else min (n:Int).toNat xs.length)=_
  rw[aah (by omega),abl];omega
 rw[e1,e2,aaz (by rw[List.length_drop];exact aaj _)]
section
variable{good:E1->Bool}{led:E1->List (Nat×E1)}{a:E1}
end
section
variable{p q f:Str}{b1 b2 b3 b4:Bool}
end
section
variable{p q f:Str}{b1 b2 b3 b4:Bool}{ts:List (Str×Str)}
end
section
variable{good:E1->Bool}{led:E1->List (Nat×E1)}{a:E1}
end
section
variable{p q f:Str}{b1 b2 b3 b4:Bool}
end
def zG(t:Str)(l:List Nat)(m:Nat):List Nat:=(l.filter (away t)).take m
def zH(t:Str)(m:Nat):Str:=⟨(zG t cV m).toArray⟩
theorem vM(t:Str)(l:List Nat)(m:Nat):(zG t l m).length<=m:=by
 unfold zG;rw[aaQ];omega
theorem Jw(cs:List Nat):((cs.map sg).map (·.length)).sum+(cs.map sg).length*("":Str).length=cs.length:=by
 have e:("":Str).length=0:=by decide +kernel
 rw[e,Nat.mul_zero,Nat.add_zero]
 induction cs with
 |nil=>rfl
 |cons c cs ih=>rw[aaX,aaX,List.sum_cons,ih,GF,aaH,Nat.add_comm]
theorem Ht{acc:List Nat}{c d:Nat}:d∈dR acc c↔d∈acc\/d=c:=by
 unfold dR
 split
 ·simp
 ·rename_i h
  have:c∈acc:=Classical.byContradiction λq=>h ((rK acc c).mpr q)
  constructor
  ·exact .inl
  ·rintro(z|rfl)
   ·exact z
   ·exact this
theorem vN:∀(l acc:List Nat)(d:Nat),d∈l.foldl dR acc↔d∈acc\/d∈l
 |[],acc,d=>by simp
 |c::l,acc,d=>by
  rw[aa9,vN l,Ht,aaE,or_assoc]
theorem jn(l:List Nat)(d:Nat):d∈cj l↔d∈l:=by
 unfold cj
 rw[vN];simp
theorem Eh{acc:List Nat}{c:Nat}(h:c∈acc):dR acc c=acc:=by
 unfold dR
 rw[aah λq=>(rK acc c).mp q h]
theorem Bq{acc:List Nat}{c:Nat}(h:c∉acc):dR acc c=acc++[c]:=by
 unfold dR
 rw[aai ((rK acc c).mpr h)]
theorem CV(acc:List Nat):∀n (l:List Nat),l.length=n->(cj l).foldl dR acc=l.foldl dR acc:=by
 intro n
 induction n with
 |zero=>intro l h;rw[List.eq_nil_of_length_eq_zero h];rfl
 |succ n ih =>
  intro l h
  have hne:l≠[]:=by intro e;rw[e]at h;cases h
  obtain⟨m,c,rfl⟩:∃m c,l=m++[c]:=⟨l.dropLast,l.getLast hne,(List.dropLast_concat_getLast hne).symm⟩
  have hm:m.length=n:=by rw[aav]at h;simpa using h
  rw[gE,aa7,←ih m hm]
  show _=dR ((cj m).foldl dR acc) c
  by_cases hc:c∈cj m
  ·rw[Eh hc,Eh ((vN _ _ _).mpr (.inr hc))]
  ·rw[Bq hc,aa7];rfl
theorem E2(a:List Nat)(c:Nat)(h:c∉a):cj (a++[c])=cj a++[c]:=by
 rw[gE,Bq (λq=>h ((jn _ _).mp q))]
theorem Br{t u:Str}(h:∀c,c∈t.cps.toList↔c∈u.cps.toList):cV.filter (away t)=cV.filter (away u):=by
 congr 1
 funext c
 have e:(away t c=true)↔(away u c=true):=by rw[iR,iR,h]
 cases h1:away t c<;>cases h2:away u c<;>simp_all
theorem Hu{t:Str}{c:Nat}{r:List Nat}(h:cV.filter (away t)=c::r):zH t 1=sg c:=by
 unfold zH zG
 rw[h];rfl
structure Dt(C:Addr)(H:Hp)(d t:Addr)(p q f:Str)(b1 b2 b3 b4:Bool):Prop where
 ok:∃dx,H d=some (.ins C dx (AO p q f b1 b2 b3 b4))
 ht:H t=some (.tup (jR p q f b1 b2 b3 b4))
 g:Gd p q f
theorem Dt.mono{C:Addr}{H H':Hp}{d t:Addr}{p q f:Str}{b1 b2 b3 b4:Bool}(s:aF H H')(h:Dt C H d t p q f b1 b2 b3 b4):Dt C H' d t p q f b1 b2 b3 b4:=by
 obtain⟨⟨dx,e⟩,e2,g⟩:=h
 exact⟨⟨dx,s _ _ e⟩,s _ _ e2,g⟩
structure Du(C:Addr)(H:Hp)(x y:V)(z:Str):Prop where
 ok:∃d t p q f b1 b2 b3 b4,x=.ref d/\y=.ref t/\z=(p++q)++f/\Dt C H d t p q f b1 b2 b3 b4
theorem Du.mono{C:Addr}{H H':Hp}{x y:V}{z:Str}(s:aF H H')(h:Du C H x y z):Du C H' x y z:=by
 obtain⟨d,t,p,q,f,b1,b2,b3,b4,e1,e2,e3,e4⟩:=h.ok
 exact⟨d,t,p,q,f,b1,b2,b3,b4,e1,e2,e3,e4.mono s⟩
theorem Du.len{C:Addr}{H:Hp}{x y:V}{z:Str}(h:Du C H x y z):z.length<=7:=by
 obtain⟨d,t,p,q,f,b1,b2,b3,b4,e1,e2,e3,e4⟩:=h.ok
 have hp3:=e4.g.p3;have hq2:=e4.g.q2;have hf2:=e4.g.f2
 rw[e3,bS,bS];omega
inductive Bs(R:V->V->Str->Prop):List V->List V->List Str->Prop where
 |nil:Bs R [] [] []
 |cons {x y z xs ys zs}:R x y z->Bs R xs ys zs->Bs R (x::xs) (y::ys) (z::zs)
theorem Bs.len{R:V->V->Str->Prop}:∀{xs ys zs},Bs R xs ys zs->xs.length=zs.length/\ys.length=zs.length
 |_,_,_,.nil=>⟨rfl,rfl⟩
 |_,_,_,.cons _ b=>by have:=b.len;simp[this.1,this.2]
theorem Bs.at2{R:V->V->Str->Prop}:∀{xs ys zs},Bs R xs ys zs->∀(i:Nat) y,ys[i]?=some y->∃x z,xs[i]?=some x/\zs[i]?=some z/\R x y z
 |_,_,_,.nil,i,x,h=>by simp at h
 |_,_,_,.cons a b,0,x,h=>by simp at h;subst h;exact⟨_,_,rfl,rfl,a⟩
 |_,_,_,.cons a b,i+1,x,h=>by
  obtain⟨y,z,h1,h2,h3⟩:=b.at2 i x (by simpa using h)
  exact⟨y,z,by simpa using h1,by simpa using h2,h3⟩
theorem vO{l:List Str}{i:Nat}{c:Str}(h:l[i]?=some c):l.take (i+1)=l.take i++[c]:=by
 rw[List.take_succ,h];rfl
def oY(zs:List Str):Str:=bK (((Txt.join ("":Str) (zs.map bK)++Str.ofString "\n")++Str.ofString " ")++zH ((Txt.join ("":Str) (zs.map bK)++Str.ofString "\n")++Str.ofString " ") 1)
theorem vP:∀(zs:List Str)(acc:List Nat),(zs.map bK |>.flatMap (λz=>z.cps.toList)).foldl dR acc=(zs.flatMap (λz=>z.cps.toList)).foldl dR acc
 |[],_=>rfl
 |z::zs,acc=>by
  rw[aaX,abA,abA,aa7,aa7,vP zs]
  congr 1
  exact CV acc _ z.cps.toList rfl
theorem yz(zs:List Str)(c:Nat):c∈(zs.map bK).flatMap (λz=>z.cps.toList)↔c∈zs.flatMap (λz=>z.cps.toList):=by
 rw[abC,abC]
 constructor
 ·rintro⟨z,hz,hc⟩
  obtain⟨y,hy,rfl⟩:=aaF.mp hz
  exact⟨y,hy,(jn _ _).mp hc⟩
 ·rintro⟨z,hz,hc⟩
  exact⟨bK z,List.mem_map_of_mem hz,(jn _ _).mpr hc⟩
def nP(zs:List Str):Str:=Txt.join ("":Str) zs++Str.ofString "\n "
theorem rM:(Str.ofString "\n ").cps.toList=[10,32]/\(Str.ofString "\n").cps.toList=[10]/\(" ":Str).cps.toList=[32]:=by decide +kernel
theorem E3{zs:List Str}{c:Nat}{r:List Nat}(hf:cV.filter (away (bK (nP zs)))=c::r)(hc:c∉(bK (nP zs)).cps.toList):oY zs=bK (nP zs)++sg c:=by
 have eA:((Txt.join ("":Str) (zs.map bK)++Str.ofString "\n")++Str.ofString " ").cps.toList=(zs.map bK).flatMap (λz=>z.cps.toList)++[10,32]:=by
  rw[app_list,app_list,join_list,rM.2.1,rM.2.2,abz];rfl
 have eB:(nP zs).cps.toList=zs.flatMap (λz=>z.cps.toList)++[10,32]:=by
  unfold nP
  rw[app_list,join_list,rM.1]
 have mB:∀d,d∈(bK (nP zs)).cps.toList↔d∈(nP zs).cps.toList:=λd=>jn _ d
 have mA:∀d,d∈((Txt.join ("":Str) (zs.map bK)++Str.ofString "\n")++Str.ofString " ").cps.toList↔d∈(bK (nP zs)).cps.toList:=λd=>by
  rw[mB,eA,eB,aaY,aaY,yz]
 have e1:zH ((Txt.join ("":Str) (zs.map bK)++Str.ofString "\n")++Str.ofString " ") 1=sg c:=Hu ((Br mA).trans hf)
 unfold oY
 rw[e1]
 apply Ju
 rw[app_list]
 show(cj ((((Txt.join ("":Str) (zs.map bK)++Str.ofString "\n")++Str.ofString " ")++sg c).cps.toList))=cj (nP zs).cps.toList++[c]
 rw[app_list,eA]
 show cj ((zs.map bK).flatMap (λz=>z.cps.toList)++[10,32]++[c])=_
 have hc2:c∉zs.flatMap (λz=>z.cps.toList)++[10,32]:=by
  rw[←eB];exact λq=>hc ((mB c).mpr q)
 have hc3:c∉(zs.map bK).flatMap (λz=>z.cps.toList)++[10,32]:=by
  intro q
  refine hc2 ?_
  rw[aaY]at q⊢
  rw[yz]at q
  exact q
 rw[E2 _ _ hc3]
 congr 1
 rw[eB]
 unfold cj
 rw[aa7,aa7,vP]
theorem Jx{q w u:Str}(h:jU q w u):(w,u)∈cont q.cps.toList:=by
 unfold cont
 rcases h with ⟨rfl,h⟩|⟨c,hc,rfl,h⟩
 ·refine aaN _ ?_
  unfold c5
  rcases h with rfl|rfl|rfl|rfl|rfl<;>simp
 ·refine aaB _ (abC.mpr ⟨c,hc,?_⟩)
  unfold c3
  rcases h with rfl|rfl|rfl<;>simp
theorem Hv{α:Type}{l:List α}(h:l.Nodup){i:Nat}{x:α}(hx:l[i]?=some x):x∉l.take i:=by
 intro hm
 have e:l=l.take i++x::l.drop (i+1):=by
  obtain⟨h1,h2⟩:=aal.mp hx
  rw[←h2,←List.drop_eq_getElem_cons h1,List.take_append_drop]
 rw[e,List.nodup_append]at h
 exact h.2.2 x hm x (aaA ..) rfl
theorem mR{α β:Type}{F:α->β->Prop}:∀{xs:List α}{ys:List β},Paired F xs ys->∀(i:Nat)(y:β),ys[i]?=some y->∃x,xs[i]?=some x/\F x y
 |_,_,.nil,_,_,h=>nomatch h
 |x::_,_,.cons a r,0,y,h=>⟨x,rfl,by have h:some _=some y:=h;cases h;exact a⟩
 |_::_,_,.cons a r,i+1,y,h=>mR r i y h
section
variable{M:Type}[DecidableEq M]
variable{good:M->Bool}{led:M->List (Nat×M)}{a:M}
abbrev fK(M:Type):=List (M×Option (M×Nat))
def cL(cm:fK M)(m:M):Bool:=cm.any λe=>decide (e.1=m)
def dS(p:M)(acc:fK M×List M)(e:Nat×M):fK M×List M:=if cL acc.1 e.2=true then acc else (acc.1++[(e.2,some (p,e.1))],acc.2++[e.2])
def iS(led:M->List (Nat×M))(acc:fK M×List M)(p:M):fK M×List M:=(led p).foldl (dS p) acc
def cy(led:M->List (Nat×M))(cm:fK M)(aL:List M):fK M×List M:=aL.foldl (iS led) (cm,[])
theorem vQ{cm:fK M}{m:M}:cL cm m=true↔m∈cm.map (·.1):=by
 unfold cL
 rw[List.any_eq_true,aaF]
 constructor
 ·rintro⟨e,he,q⟩;exact⟨e,he,aa6 q⟩
 ·rintro⟨e,he,q⟩;exact⟨e,he,aar q⟩
theorem Hw(p:M)(acc:fK M×List M)(e:Nat×M):(dS p acc e).1.length+acc.2.length=acc.1.length+(dS p acc e).2.length:=by
 unfold dS
 split
 ·rfl
 ·rw[aav,aav];show acc.1.length+1+_=_+(_+1);omega
theorem Hx{α:Type}{f:α->Bool}{l:List α}{i:Nat}{m:α}(hi:l[i]?=some m)(hg:f m=true)(hb:∀m'∈l.take i,f m'=false):l.find? f=some m:=by
 have e:l=l.take i++m::l.drop (i+1):=by
  obtain⟨h1,h2⟩:=aal.mp hi
  rw[←h2,←List.drop_eq_getElem_cons h1,List.take_append_drop]
 rw[e,List.find?_append,List.find?_eq_none.mpr (λx hx=>by rw[hb x hx];decide),abk,hg]
 rfl
theorem Hy{α:Type}{f:α->Bool}{l:List α}(hb:∀m'∈l,f m'=false):l.find? f=none:=List.find?_eq_none.mpr λx hx=>by rw[hb x hx];decide
theorem rN{p:M}:∀(es:List (Nat×M))(acc:fK M×List M),(es.foldl (dS p) acc).1.length+acc.2.length=acc.1.length+(es.foldl (dS p) acc).2.length
 |[],_=>rfl
 |e::es,acc=>by
  have h1:=Hw p acc e
  have h2:=rN (p:=p) es (dS p acc e)
  rw[aa9];omega
theorem nI{led:M->List (Nat×M)}:∀(ms:List M)(acc:fK M×List M),(ms.foldl (iS led) acc).1.length+acc.2.length=acc.1.length+(ms.foldl (iS led) acc).2.length
 |[],_=>rfl
 |m::ms,acc=>by
  have h1:=rN (p:=m) (led m) acc
  have h2:=nI (led:=led) ms (iS led acc m)
  rw[aa9]
  unfold iS at h2⊢
  omega
def vR(cm:fK M)(m:M):Option (Option (M×Nat)):=(cm.find? λe=>decide (e.1=m)).map (·.2)
inductive p9(cm:fK M):Option (M×Nat)->List Nat->Prop where
 |nil:p9 cm none []
 |cons {m:M}{c:Nat}{x:Option (M×Nat)}{r:List Nat}:vR cm m=some x->p9 cm x r->p9 cm (some (m,c)) (c::r)
inductive WalkG(led:M->List (Nat×M))(a:M):List Nat->M->Prop where
 |nil:WalkG led a [] a
 |snoc {xs:List Nat}{p q:M}{c:Nat}:WalkG led a xs p->(c,q)∈led p->WalkG led a (xs++[c]) q
theorem vS{cm l:fK M}{m:M}{x:Option (M×Nat)}(h:vR cm m=some x):vR (cm++l) m=some x:=by
 unfold vR at h⊢
 rw[List.find?_append]
 cases e:cm.find? λe=>decide (e.1=m) with
 |none=>rw[e]at h;cases h
 |some y=>rw[e]at h;exact h
theorem Hz{cm:fK M}{m:M}{x:Option (M×Nat)}(h:cL cm m=false):vR (cm++[(m,x)]) m=some x:=by
 unfold vR
 rw[List.find?_append,List.find?_eq_none.mpr,abk,aar rfl]
 ·rfl
 ·intro e he q
  have z:cL cm m=true:=List.any_eq_true.mpr ⟨e,he,q⟩
  rw[h]at z;cases z
theorem p9.app{cm l:fK M}{x:Option (M×Nat)}{xs:List Nat}(h:p9 cm x xs):p9 (cm++l) x xs:=by
 induction h with
 |nil=>exact .nil
 |cons e _ ih=>exact .cons (vS e) ih
theorem mS{cm l:fK M}{m:M}:cL (cm++l) m=(cL cm m||cL l m):=List.any_append ..
theorem iT{m q:M}{x:Option (M×Nat)}:cL [(q,x)] m=true↔m=q:=by
 unfold cL
 rw[abx,List.any_nil,Bool.or_false]
 exact⟨λh=>(aa6 h).symm,λh=>aar h.symm⟩
def jW(led:M->List (Nat×M))(a:M)(cm:fK M)(m:M)(n:Nat):Prop:=∃x xs,vR cm m=some x/\p9 cm x xs/\WalkG led a xs.reverse m/\xs.length=n
theorem jW.app{led:M->List (Nat×M)}{a m:M}{cm l:fK M}{n:Nat}(h:jW led a cm m n):jW led a (cm++l) m n:=by
 obtain⟨x,xs,h1,h2,h3,h4⟩:=h
 exact⟨x,xs,vS h1,h2.app,h3,h4⟩
structure rO(led:M->List (Nat×M))(a:M)(cm:fK M)(k:Nat)(acc:fK M×List M):Prop where
 pre:∃l,acc.1=cm++l
 told:∀m,cL acc.1 m=true->∃n,n<=k+1/\jW led a acc.1 m n
 new:∀m∈acc.2,jW led a acc.1 m (k+1)/\cL acc.1 m=true
 old:∀m,cL acc.1 m=true->cL cm m=true\/m∈acc.2
theorem rO.vis{cm:fK M}{k:Nat}{acc:fK M×List M}{p:M}{e:Nat×M}(h:rO led a cm k acc)(hp:jW led a acc.1 p k)(he:e∈led p):rO led a cm k (dS p acc e)/\cL (dS p acc e).1 e.2=true/\(∃l,(dS p acc e).1=acc.1++l):=by
 unfold dS
 cases hh:cL acc.1 e.2 with
 |true=>rw[aai rfl];exact⟨h,hh,[],(aaU _).symm⟩
 |false =>
  rw[aah (by decide)]
  obtain⟨x,xs,h1,h2,h3,h4⟩:=hp
  have hnew:jW led a (acc.1++[(e.2,some (p,e.1))]) e.2 (k+1):=by
   refine⟨some (p,e.1),e.1::xs,Hz hh,.cons (vS h1) h2.app,?_,by rw[aaH,h4]⟩
   rw[List.reverse_cons]
   exact .snoc h3 he
  have hhas:cL (acc.1++[(e.2,some (p,e.1))]) e.2=true:=by rw[mS,iT.mpr rfl,Bool.or_true]
  refine⟨⟨?_,λm hm=>?_,λm hm=>?_,λm hm=>?_⟩,hhas,_,O⟩
  ·obtain⟨l,q⟩:=h.pre
   exact⟨l++[(e.2,some (p,e.1))],by show acc.1++_=_;rw[q,abz]⟩
  ·have hm:cL (acc.1++[(e.2,some (p,e.1))]) m=true:=hm
   rw[mS,Bool.or_eq_true]at hm
   rcases hm with z|z
   ·obtain⟨n,hn,t⟩:=h.told m z
    exact⟨n,hn,t.app⟩
   ·rw[iT]at z;subst z
    exact⟨_,aaj _,hnew⟩
  ·rcases aaY.mp hm with z|z
   ·obtain⟨t,u⟩:=h.new m z
    exact⟨t.app,by show cL (acc.1++_) m=true;rw[mS,u];rfl⟩
   ·rw[aau.mp z];exact⟨hnew,hhas⟩
  ·have hm:cL (acc.1++[(e.2,some (p,e.1))]) m=true:=hm
   rw[mS,Bool.or_eq_true]at hm
   rcases hm with z|z
   ·rcases h.old m z with y|y
    ·exact .inl y
    ·exact .inr (aaN _ y)
   ·rw[iT]at z;subst z
    exact .inr (aaB _ (aau.mpr rfl))
theorem qb{cm l:fK M}{m:M}(h:cL cm m=true):cL (cm++l) m=true:=by rw[mS,h];rfl
theorem rO.OD{cm:fK M}{k:Nat}{p:M}:∀{es:List (Nat×M)}{acc:fK M×List M},rO led a cm k acc->jW led a acc.1 p k->(∀e∈es,e∈led p)->rO led a cm k (es.foldl (dS p) acc)/\(∀e∈es,cL (es.foldl (dS p) acc).1 e.2=true)/\∃l,(es.foldl (dS p) acc).1=acc.1++l
 |[],acc,h,_,_=>⟨h,(λ_ z=>nomatch z),[],(aaU _).symm⟩
 |e::es,acc,h,hp,he=>by
  obtain⟨h1,h2,l,h3⟩:=h.vis hp (he e (aaA ..))
  have hp1:jW led a (dS p acc e).1 p k:=by rw[h3];exact hp.app
  obtain⟨g1,g2,l',g3⟩:=rO.OD h1 hp1 λe' z=>he e' (aaw _ z)
  rw[aa9]
  refine⟨g1,λe' z=>?_,l++l',by rw[g3,h3,abz]⟩
  rcases aaE.mp z with y|y
  ·subst y;rw[g3];exact qb h2
  ·exact g2 e' y
theorem rO.OE{cm:fK M}{k:Nat}:∀{ms:List M}{acc:fK M×List M},rO led a cm k acc->(∀p∈ms,jW led a acc.1 p k)->rO led a cm k (ms.foldl (iS led) acc)/\(∀p∈ms,∀e∈led p,cL (ms.foldl (iS led) acc).1 e.2=true)/\∃l,(ms.foldl (iS led) acc).1=acc.1++l
 |[],acc,h,_=>⟨h,(λ_ z=>nomatch z),[],(aaU _).symm⟩
 |p::ms,acc,h,hp=>by
  obtain⟨h1,h2,l,h3⟩:=h.OD (p:=p) (es:=led p) (hp p (aaA ..)) λe z=>z
  have h1:rO led a cm k (iS led acc p):=h1
  have h3:(iS led acc p).1=acc.1++l:=h3
  have h2:∀e∈led p,cL (iS led acc p).1 e.2=true:=h2
  obtain⟨g1,g2,l',g3⟩:=rO.OE h1 λp' z=>by rw[h3];exact(hp p' (aaw _ z)).app
  rw[aa9]
  refine⟨g1,λp' z e' ze=>?_,l++l',by rw[g3,h3,abz]⟩
  rcases aaE.mp z with y|y
  ·subst y;rw[g3];exact qb (h2 e' ze)
  ·exact g2 p' y e' ze
structure Bt(good:M->Bool)(led:M->List (Nat×M))(a:M)(cm:fK M)(aL:List M)(k:Nat):Prop where
 told:∀m,cL cm m=true->∃n,n<=k/\jW led a cm m n
 RN:∀m∈aL,jW led a cm m k/\cL cm m=true
 all:∀ys m,WalkG led a ys m->ys.length<=k->cL cm m=true
 shut:∀p,cL cm p=true->p∉aL->∀e∈led p,cL cm e.2=true
 bad:∀p,cL cm p=true->p∉aL->good p=false
 less:∀ys m,WalkG led a ys m->ys.length<k->good m=false
theorem Bt.go{cm:fK M}{aL:List M}{k:Nat}(h:Bt good led a cm aL k)(hf:aL.find? good=none):Bt good led a (cy led cm aL).1 (cy led cm aL).2 (k+1):=by
 have hm:rO led a cm k (cm,[]):=⟨⟨[],(aaU _).symm⟩,λm hm=>by obtain⟨n,hn,t⟩:=h.told m hm;exact⟨n,by omega,t⟩,(λ_ z=>nomatch z),λm hm=>.inl hm⟩
 obtain⟨g1,g2,l,g3⟩:=hm.OE (ms:=aL) λp hp=>(h.RN p hp).1
 have hno:∀m∈aL,good m=false:=λm hm=>by
  have:=List.find?_eq_none.mp hf m hm
  cases e:good m with
  |true=>exact absurd e this
  |false=>rfl
 have hbad:∀p,cL cm p=true->good p=false:=λp hp=>by
  by_cases q:p∈aL
  ·exact hno p q
  ·exact h.bad p hp q
 have KZ:∀p,cL cm p=true->∀e∈led p,cL (cy led cm aL).1 e.2=true:=λp hp e he=>by
  by_cases q:p∈aL
  ·exact g2 p q e he
  ·unfold cy;rw[g3];exact qb (h.shut p hp q e he)
 refine⟨g1.told,g1.new,λys m hw hl=>?_,λp hp hq e he=>?_,λp hp hq=>?_,λys m hw hl=>?_⟩
 ·cases hw with
  |nil=>unfold cy;rw[g3];exact qb (h.all [] a .nil (aaK _))
  |@snoc xs p q c hw1 he =>
   rw[aav]at hl
   exact KZ p (h.all xs p hw1 (by simpa using hl)) _ he
 ·rcases g1.old p hp with z|z
  ·exact KZ p z e he
  ·exact absurd z hq
 ·rcases g1.old p hp with z|z
  ·exact hbad p z
  ·exact absurd z hq
 ·exact hbad m (h.all ys m hw (by omega))
theorem Bt.zero:Bt good led a [(a,none)] [a] 0:=by
 have hv:jW led a [(a,none)] a 0:=⟨none,[],by unfold vR;rw[abk,aar rfl];rfl,.nil,.nil,rfl⟩
 have ha:cL [(a,none)] a=true:=iT.mpr rfl
 refine⟨λm hm=>?_,λm hm=>?_,λys m hw hl=>?_,λp hp hq=>?_,λp hp hq=>?_,λys m hw hl=>absurd hl (Nat.not_lt_zero _)⟩
 ·rw[iT.mp hm];exact⟨0,aaj _,hv⟩
 ·rw[aau.mp hm];exact⟨hv,ha⟩
 ·cases hw with
  |nil=>exact ha
  |snoc _ _=>rw[aav]at hl;simp at hl
 ·exact absurd (aau.mpr (iT.mp hp)) hq
 ·exact absurd (aau.mpr (iT.mp hp)) hq
end
section
variable{M:Type}[DecidableEq M]{good:M->Bool}{led:M->List (Nat×M)}{most:Option Nat}{a:M}
theorem Jy{p:M}{acc:fK M×List M}{e:Nat×M}(h:(acc.1.map (·.1)).Nodup):((dS p acc e).1.map (·.1)).Nodup:=by
 unfold dS
 by_cases q:cL acc.1 e.2=true
 ·rw[aai q];exact h
 ·rw[aah q,aaO,List.nodup_append]
  refine⟨h,by simp,λx hx y hy z=>q (vQ.mpr ?_)⟩
  rw[aau.mp hy]at z
  have z:x=e.2:=z
  rw[←z];exact hx
theorem Bu{p:M}:∀{es:List (Nat×M)}{acc:fK M×List M},(acc.1.map (·.1)).Nodup->((es.foldl (dS p) acc).1.map (·.1)).Nodup
 |[],_,h=>h
 |e::es,acc,h=>by rw[aa9];exact Bu (Jy h)
theorem vU:∀{ms:List M}{acc:fK M×List M},(acc.1.map (·.1)).Nodup->((ms.foldl (iS led) acc).1.map (·.1)).Nodup
 |[],_,h=>h
 |m::ms,acc,h=>by rw[aa9];exact vU (Bu h)
inductive um(good:M->Bool)(led:M->List (Nat×M))(most:Option Nat):fK M->List M->Option M->fK M->Prop where
 |stop {cm:fK M}:um good led most cm [] none cm
 |found {cm:fK M}{aL:List M}{m:M}:aL.find? good=some m->um good led most cm aL (some m) cm
 |over {cm:fK M}{aL:List M}{n:Nat}:most=some n->aL≠[]->aL.find? good=none->n<cm.length->um good led most cm aL none cm
 |go {cm Ei:fK M}{aL:List M}{r:Option M}:aL≠[]->aL.find? good=none->(∀n,most=some n->cm.length<=n)->um good led most (cy led cm aL).1 (cy led cm aL).2 r Ei->um good led most cm aL r Ei
structure LX(good:M->Bool)(led:M->List (Nat×M))(most:Option Nat)(a:M)(r:Option M)(cm:fK M)(aL:List M)(k:Nat):Prop where
 cE:Bt good led a cm aL k
 nd:(cm.map (·.1)).Nodup
 res:r=aL.find? good
 why:r=none->aL=[]\/∃n,most=some n/\n<cm.length
 len:aL≠[]->k<=cm.length
 few:aL.length<=cm.length
theorem HA{cm Ei:fK M}{aL:List M}{r:Option M}(h:um good led most cm aL r Ei):∀{k:Nat},Bt good led a cm aL k->(cm.map (·.1)).Nodup->(aL≠[]->k<=cm.length)->aL.length<=cm.length->∃OG k',LX good led most a r Ei OG k':=by
 induction h with
 |stop=>intro k L nd hk hf;exact⟨_,k,L,nd,rfl,(λ_=>.inl rfl),hk,hf⟩
 |found hF=>intro k L nd hk hf;exact⟨_,k,L,nd,hF.symm,(λz=>nomatch z),hk,hf⟩
 |@over cm aL n hn _ hF hlt=>intro k L nd hk hf;exact⟨_,k,L,nd,hF.symm,(λ_=>.inr ⟨n,hn,hlt⟩),hk,hf⟩
 |@go cm Ei aL r hne hF hm hR ih =>
  intro k L nd hk hf
  have q:=nI (led:=led) aL (cm,[])
  simp only[List.length_nil,Nat.add_zero]at q
  refine ih (L.go hF) (vU nd) (λz=>?_) (by unfold cy;omega)
  have:=List.length_pos_iff.mpr z
  have:=hk hne
  unfold cy at *
  omega
theorem Bv{cm:fK M}{r:Option M}(h:um good led most [(a,none)] [a] r cm):∃aL k,LX good led most a r cm aL k:=HA h Bt.zero (by simp) (λ_=>aaK _) (by simp)
end
theorem fX{K:W.Frag}{H H':Hp}{o:Option cP}{v:V}(s:aF H H')(h:jQ K H o v):jQ K H' o v:=h.keep λb xs q=>av s q
theorem eV{K:W.Frag}{H H':Hp}{l:List cP}{v:V}(s:aF H H')(h:lg K H l v):lg K H' l v:=h.keep λb xs q=>av s q
theorem zI{K:W.Frag}{H H':Hp}{o:FD}{v:V}(s:aF H H')(h:uf K H o v):uf K H' o v:=h.keep λb xs q=>av s q
theorem dB{K:W.Frag}{H H':Hp}{m:gn}{v:V}(s:aF H H')(h:dM K H m v):dM K H' m v:=h.keep λb xs q=>av s q
abbrev Ls:=Option (Str×Str×Str)
def iD(x:eF)(o:Option cP)(c:Nat):Ls:=o.bind λs=>eO x.1 x.2.1 x.2.2.1 x.2.2.2.a x.2.2.2.b x.2.2.2.c x.2.2.2.d s.1 s.2 c
def Jz(o:Ls):Option cP:=o.map λt=>t.2
def nQ(kd:Str)(c:Nat):List cP:=if bh kd ("skip":Str)=true then [] else [(kd,if bh kd ("put":Str)=true then sg c else Str.ofString "")]
def JA:List cP->List cP->FD
 |[],o=>some ([],o)
 |a::x,[]=>some (a::x,[])
 |a::x,b::y=>if a=b then some (x,y) else none
def JB(m:FD)(a b:Ls)(c:Nat):FD:=match m,a,b with
 |some (x,y),some (k1,_),some (k2,_)=>JA (x++nQ k1 c) (y++nQ k2 c)
 |_,_,_=>none
def E4(x y:eF)(m:gn)(c:Nat):Option gn:=if iD x m.1.1 c=none/\iD y m.1.2 c=none then none else some ((Jz (iD x m.1.1 c),Jz (iD y m.1.2 c)),JB m.2 (iD x m.1.1 c) (iD y m.1.2 c) c)
def fH(x y:eF)(z:Str)(m:gn):List (Nat×gn):=z.cps.toList.filterMap λc=>(E4 x y m c).map λm'=>(c,m')
def ou:Option cP:=some (Str.ofString "row",("":Str))
def pT:gn:=((ou,ou),some ([],[]))
def fY(m:gn):Bool:=if m.1=(ou,ou) then !decide (m.2=some ([],[])) else (decide (m.1.1=ou)||decide (m.1.2=ou))
def HB(C CT:Addr)(H:Hp)(y:Addr)(x:eF):Prop:=Tn C CT H y x.1 x.2.1 x.2.2.1 x.2.2.2.a x.2.2.2.b x.2.2.2.c x.2.2.2.d
theorem HB.mono{C CT:Addr}{H H':Hp}{y:Addr}{x:eF}(s:aF H H')(h:HB C CT H y x):HB C CT H' y x:=Tn.mono s h
def Yz(t u:Addr)(z:Str):List (Str×V):=[("first",.ref t),("second",.ref u),("signs",.str z)]
structure HC(C CT CC:Addr)(H:Hp)(a:Addr)(x y:eF)(z:Str):Prop where
 ok:∃da t u,H a=some (.ins CC da (Yz t u z))/\HB C CT H t x/\HB C CT H u y
theorem HC.mono{C CT CC:Addr}{H H':Hp}{a:Addr}{x y:eF}{z:Str}(s:aF H H')(h:HC C CT CC H a x y z):HC C CT CC H' a x y z:=by
 obtain⟨da,t,u,e1,e2,e3⟩:=h.ok
 exact⟨da,t,u,s _ _ e1,e2.mono s,e3.mono s⟩
def YA(c:Addr):List (Str×V):=[("couple",.ref c)]
structure LY(C CT CC CP:Addr)(H:Hp)(a:Addr)(x y:eF)(z:Str):Prop where
 ok:∃da c,H a=some (.ins CP da (YA c))/\HC C CT CC H c x y z
theorem LY.mono{C CT CC CP:Addr}{H H':Hp}{a:Addr}{x y:eF}{z:Str}(s:aF H H')(h:LY C CT CC CP H a x y z):LY C CT CC CP H' a x y z:=by
 obtain⟨da,c,e1,e2⟩:=h.ok
 exact⟨da,c,s _ _ e1,e2.mono s⟩
def lR(x:eF):Str:=(x.1++x.2.1)++x.2.2.1
def Cd(x y:eF):Str:=oY [lR x,lR y]
theorem Tn.off2{C CT:Addr}{H:Hp}{y m:Addr}{x:eF}{o o':HO}(hm:H m=some o')(n1:∀d fs,o'≠.ins CT d (RL fs))(n2:∀d,o'≠.ins C d (jV x))(h:HB C CT H y x):HB C CT (upd H m o) y x:=Tn.off hm n1 n2 h
theorem iE{K:W.Frag}{H H':Hp}{o:Ls}{v:V}(s:aF H H')(h:AQ K o H v):AQ K o H' v:=by
 cases o with
 |none=>exact h
 |some t=>obtain⟨a,b,e1,e2,e3⟩:=h;exact⟨a,b,e1,av s e2,av s e3⟩
theorem vV(kd:Str)(c:Nat):(nQ kd c).length<=1:=by unfold nQ;split<;>simp
def CW:Option cP->Lf⊕List Lf
 |none=>.inl none
 |some s=>.inr (jP s.1 s.2)
theorem qc{a b:Option cP}(h:CW a=CW b):a=b:=by
 cases a with
 |none=>cases b with
  |none=>rfl
  |some y=>exact nomatch h
 |some x=>cases b with
  |none=>exact nomatch h
  |some y=>injection h with h;exact congrArg some (iJ.mp h)
theorem Ej{a b:Option cP}:decide (CW a=CW b)=decide (a=b):=by
 rw[aaT,aaP,aaP]
 exact⟨qc,λe=>by rw[e]⟩
theorem LZ{a b c:Option cP}:Bl [CW a,CW b] (CW c)=(decide (a=c)||decide (b=c)):=by
 unfold Bl
 rw[abx,abx,List.any_nil,Bool.or_false,Ej,Ej]
theorem Bw{P:Program}{w:World}{F:W.Frag}{H:Hp}{o:Option cP}{v:V}(h:jQ F H o v):(YM P w F).on H (CW o) v:=by
 cases o with
 |none=>have h:v=.non:=h;subst h;rfl
 |some s=>obtain⟨b,rfl,h1⟩:=h;exact⟨b,rfl,iz h1⟩
theorem HD{P:Program}{w:World}{F:W.Frag}{H:Hp}{o o':Option cP}{p:Addr}{s1 s2:V}(h:aK F H p [s1,s2])(h1:jQ F H o s1)(h2:jQ F H o' s2):k9 (YM P w F) H [CW o,CW o'] p:=⟨_,h,.cons (Bw h1) (.cons (Bw h2) .nil)⟩
theorem hs1{A:Around}{P:Program}{w:World}(h:A.units+64<cLine):A.units+1+(ZM P w).cE<cLine:=by show A.units+1+1<cLine;omega
theorem hs2{A:Around}{P:Program}{w:World}(h:A.units+64<cLine):A.units+((stepK (ZM P w)).cE+1)<cLine:=by show A.units+3<cLine;omega
abbrev rP(K:W.Frag)(H:Hp):List V->List (Nat×gn)->Prop:=Paired λv e=>∃t w,v=.ref t/\H t=some (.tup [.str (sg e.1),w])/\dM K H e.2 w
theorem rQ{K:W.Frag}{H H':Hp}(s:aF H H'){vs:List V}{es:List (Nat×gn)}(h:rP K H vs es):rP K H' vs es:=aW (λ_ _ ⟨t,w,e1,e2,e3⟩=>⟨t,w,e1,s _ _ e2,dB s e3⟩) h
theorem vh{K:W.Frag}{H:Hp}{l:Addr}{ws:List V}{x:HO}{m:gn}{v:V}(hl:H l=some (.lst ws))(h:dM K H m v):dM K (upd H l x) m v:=h.keep λb xs q=>iC hl q
theorem Bx{K:W.Frag}{H:Hp}{l:Addr}{ws:List V}{x:HO}(hl:H l=some (.lst ws)){vs:List V}{es:List (Nat×gn)}(h:rP K H vs es):rP K (upd H l x) vs es:=aW (λ_ _ ⟨t,w,e1,e2,e3⟩=>⟨t,w,e1,(aH (λq=>by rw[q,hl]at e2;cases e2)).trans e2,vh hl e3⟩) h
def K0:Ls->Lf⊕List (Lf⊕List Lf)
 |none=>.inl none
 |some t=>.inr [.inl (some (.inr t.1)),.inr (jP t.2.1 t.2.2)]
theorem By{o:Ls}:K0 o=.inl none↔o=none:=by
 cases o with
 |none=>exact⟨(λ_=>rfl),(λ_=>rfl)⟩
 |some t=>exact⟨(λq=>nomatch q),(λq=>nomatch q)⟩
theorem Ek{P:Program}{w:World}{F:W.Frag}{H:Hp}{o:Ls}{v:V}(h:AQ F o H v):(g9 (YM P w F)).on H (K0 o) v:=by
 cases o with
 |none=>have h:v=.non:=h;subst h;rfl
 |some t=>obtain⟨a,b,rfl,h1,h2⟩:=h;exact⟨a,rfl,_,h1,.cons rfl (.cons ⟨b,rfl,iz h2⟩ .nil)⟩
def qd(K:W.Frag)(x:Option (gn×Nat))(H:Hp)(v:V):Prop:=match x with
 |none=>v=.non
 |some (m,c)=>∃t w,v=.ref t/\aK K H t [w,.str (sg c)]/\dM K H m w
abbrev qe(K:W.Frag)(H:Hp):List (N3 (Lf⊕List (Lf⊕List (Lf⊕List Lf))))->(fK gn)->Prop:=Paired λe p=>e.1=gw p.1/\dM K H p.1 (.ref e.2.1)/\qd K p.2 H e.2.2
structure fZ(P:Program)(w:World)(K:W.Frag)(H:Hp)(a:Addr)(cm:(fK gn)):Prop where
 ok:∃kvs,Nd (YP P w K) (br P w) H a kvs/\qe K H kvs cm
theorem qd.keep{K:W.Frag}{H H':Hp}{x:Option (gn×Nat)}{v:V}(t:∀b xs,aK K H b xs->aK K H' b xs)(h:qd K x H v):qd K x H' v:=by
 cases x with
 |none=>exact h
 |some mc=>obtain⟨t1,w1,e1,e2,e3⟩:=h;exact⟨t1,w1,e1,t _ _ e2,e3.keep t⟩
theorem qe.keep{K:W.Frag}{H H':Hp}(t:∀b xs,aK K H b xs->aK K H' b xs):∀{kvs:List (N3 (Lf⊕List (Lf⊕List (Lf⊕List Lf))))}{cm:(fK gn)},qe K H kvs cm->qe K H' kvs cm
 |_,_,.nil=>.nil
 |_,_,.cons a r=>.cons ⟨a.1,a.2.1.keep t,a.2.2.keep t⟩ (qe.keep t r)
theorem fZ.mono{P:Program}{w:World}{K:W.Frag}{H H':Hp}{a:Addr}{cm:(fK gn)}(s:aF H H')(h:fZ P w K H a cm):fZ P w K H' a cm:=by
 obtain⟨kvs,d,r⟩:=h.ok
 exact⟨kvs,d.mono s,r.keep λb xs q=>av s q⟩
theorem fZ.but{P:Program}{w:World}{K:W.Frag}{H:Hp}{a l:Addr}{cm:(fK gn)}{ws:List V}{o:HO}(hl:H l=some (.lst ws))(h:fZ P w K H a cm):fZ P w K (upd H l o) a cm:=by
 obtain⟨kvs,d,r⟩:=h.ok
 have t:∀b xs,aK K H b xs->aK K (upd H l o) b xs:=λb xs q=>iC hl q
 exact⟨kvs,⟨(aH (oh d.ob hl (λq=>nomatch q))).trans d.ob,λe he=>(d.keys e he).keep t⟩,r.keep t⟩
theorem rR{K:W.Frag}{H:Hp}{m:gn}:∀{kvs:List (N3 (Lf⊕List (Lf⊕List (Lf⊕List Lf))))}{cm:(fK gn)},qe K H kvs cm->(valN kvs (gw m)).isSome=cL cm m
 |_,_,.nil=>rfl
 |e::kvs,p::cm,.cons a r=>by
  have ih:=rR (m:=m) r
  unfold valN cL at ih⊢
  rw[abk,abx,a.1]
  by_cases q:p.1=m
  ·rw[aar q,aar (by rw[q])];rfl
  ·rw[aas q,aas (λz=>q (Bm.mp z)),Bool.false_or];exact ih
theorem yC{K:W.Frag}{H:Hp}{kvs:List (N3 (Lf⊕List (Lf⊕List (Lf⊕List Lf))))}{cm:(fK gn)}(h:qe K H kvs cm):kvs.length=cm.length:=aa1 h
theorem Nd.RO{P:Program}{w:World}{K:W.Frag}{H:Hp}{a b:Addr}{k:List (Lf⊕List (Lf⊕List (Lf⊕List Lf)))}{v:V}(h:H a=some (dN (ZP P w) (br P w) a []))(e:k9 (YP P w K) H k b):Nd (YP P w K) (br P w) (upd H a (dN (ZP P w) (br P w) a [(k,b,v)])) a [(k,b,v)]:=by
 refine⟨aj,λp hp=>?_⟩
 rw[aau.mp hp]
 exact e.keep (mD h)
theorem fZ.one{P:Program}{w:World}{K:W.Frag}{H:Hp}{a b:Addr}{m:gn}(h:H a=some (dN (ZP P w) (br P w) a []))(hm:dM K H m (.ref b)):fZ P w K (upd H a (dN (ZP P w) (br P w) a [(gw m,b,.non)])) a [(m,none)]:=by
 have e2:=nD (P:=P) (w:=w) hm
 have t:=mD (F:=K) h (o:=dN (ZP P w) (br P w) a [(gw m,b,.non)])
 exact⟨_,Nd.RO h (e2),.cons ⟨O,hm.keep t,O⟩ .nil⟩
theorem fZ.put{P:Program}{w:World}{K:W.Frag}{H:Hp}{a b:Addr}{m:gn}{cm:(fK gn)}{kvs:List (N3 (Lf⊕List (Lf⊕List (Lf⊕List Lf))))}{x:Option (gn×Nat)}{v:V}(d:Nd (YP P w K) (br P w) H a kvs)(r:qe K H kvs cm)(hm:dM K H m (.ref b))(hn:cL cm m=false)(hv:qd K x H v):fZ P w K (upd H a (dN (ZP P w) (br P w) a (putN kvs (gw m) b v))) a (cm++[(m,x)]):=by
 have e2:=nD (P:=P) (w:=w) hm
 have t:=mD (F:=K) d.ob (o:=dN (ZP P w) (br P w) a (putN kvs (gw m) b v))
 refine⟨_,d.put (e2),?_⟩
 have q:=rR (m:=m) r
 rw[hn]at q
 have hv0:valN kvs (gw m)=none:=by
  cases z:valN kvs (gw m) with
  |none=>rfl
  |some y=>rw[z]at q;cases q
 rw[pY hv0]
 rw[pY hv0]at t
 exact bU (r.keep t) (.cons ⟨rfl,hm.keep t,hv.keep t⟩ .nil)
theorem rP.keep{K:W.Frag}{H H':Hp}(t1:∀b xs,H b=some (.tup xs)->H' b=some (.tup xs))(t:∀b xs,aK K H b xs->aK K H' b xs):∀{vs:List V}{es:List (Nat×gn)},rP K H vs es->rP K H' vs es
 |_,_,.nil=>.nil
 |_,_,.cons ⟨x,w,e,h,q⟩ r=>.cons ⟨x,w,e,t1 _ _ h,q.keep t⟩ (rP.keep t1 t r)
abbrev vW(K:W.Frag)(H:Hp):List V->List gn->Prop:=Paired λv m=>dM K H m v
theorem vW.keep{K:W.Frag}{H H':Hp}(t:∀b xs,aK K H b xs->aK K H' b xs):∀{vs:List V}{ms:List gn},vW K H vs ms->vW K H' vs ms
 |_,_,.nil=>.nil
 |_,_,.cons a r=>.cons (a.keep t) (vW.keep t r)
theorem rS{K:W.Frag}{H:Hp}{m:gn}{x:Option (gn×Nat)}:∀{kvs:List (N3 (Lf⊕List (Lf⊕List (Lf⊕List Lf))))}{cm:(fK gn)},qe K H kvs cm->vR cm m=some x->∃v,valN kvs (gw m)=some v/\qd K x H v
 |_,_,.nil,h=>by cases h
 |e::kvs,p::cm,.cons a r,h=>by
  unfold vR at h
  unfold valN
  rw[abk]at h⊢
  rw[a.1]
  by_cases q:p.1=m
  ·rw[aar q]at h
   rw[aar (by rw[q])]
   cases h
   exact⟨_,O,a.2.2⟩
  ·rw[aas q]at h
   rw[aas (λz=>q (Bm.mp z))]
   exact rS r h
def RP(K:W.Frag)(x:Option gn)(H:Hp)(v:V):Prop:=match x with
 |none=>v=.non
 |some m=>dM K H m v
section
variable{M:Type}[DecidableEq M]
def vX(good:M->Bool)(led:M->List (Nat×M))(Ok:M->Prop)(B:Nat):Nat->fK M->List M->Prop
 | 0,cm,aL=>(cm.length<=B/\aL.length<=cm.length/\∀m∈aL,Ok m)/\(aL=[]\/(aL.find? good).isSome=true)
 |n+1,cm,aL=>(cm.length<=B/\aL.length<=cm.length/\∀m∈aL,Ok m)/\(aL=[]\/(aL.find? good).isSome=true\/vX good led Ok B n (cy led cm aL).1 (cy led cm aL).2)
variable{good:M->Bool}{led:M->List (Nat×M)}{Ok:M->Prop}{B:Nat}{n:Nat}{cm:fK M}{aL:List M}
theorem vX.ok(h:vX good led Ok B n cm aL):cm.length<=B/\aL.length<=cm.length/\∀m∈aL,Ok m:=by
 cases n with
 |zero=>exact h.1
 |succ n=>exact h.1
theorem vX.go(h:vX good led Ok B n cm aL)(hne:aL≠[])(hf:aL.find? good=none):∃n',n'<n/\vX good led Ok B n' (cy led cm aL).1 (cy led cm aL).2:=by
 cases n with
 |zero =>
  rcases h.2 with z|z
  ·exact absurd z hne
  ·rw[hf]at z;cases z
 |succ n =>
  rcases h.2 with z|z|z
  ·exact absurd z hne
  ·rw[hf]at z;cases z
  ·exact⟨n,Nat.lt_succ_self n,z⟩
end
def Qw(m:gn):Prop:=∀x y,m.2=some (x,y)->x.length<=1000/\y.length<=1000
theorem E5{x y:eF}{z:Str}{m:gn}:(fH x y z m).length<=z.length:=by
 unfold fH
 refine aao (List.length_filterMap_le ..) ?_
 rw[aam];exact aaj _
def c9(K:W.Frag)(H:Hp)(v:V)(q:Option cP×Option cP):Prop:=∃p s1 s2,v=.ref p/\aK K H p [s1,s2]/\jQ K H q.1 s1/\jQ K H q.2 s2
theorem c9.mono{K:W.Frag}{H H':Hp}{v:V}{q:Option cP×Option cP}(s:aF H H')(h:c9 K H v q):c9 K H' v q:=by
 obtain⟨p,s1,s2,e1,e2,e3,e4⟩:=h
 exact⟨p,s1,s2,e1,av s e2,fX s e3,fX s e4⟩
theorem JC{x y:eF}(gx:tG x)(gy:tG y):(Cd x y).length<=20:=by
 have h7:∀c:eF,tG c->(lR c).length<=7:=λc g=>by
  have hp3:=g.p3;have hq2:=g.q2;have hf2:=g.f2
  unfold lR;rw[bS,bS];omega
 have Qx:∀z∈[lR x,lR y].map bK,z.length<=7:=λz hz=>by
  obtain⟨c,hc,rfl⟩:=aaF.mp hz
  refine aao (nH c) ?_
  rcases aaE.mp hc with e|e
  ·rw[e];exact h7 x gx
  ·rw[aau.mp e];exact h7 y gy
 have hj:(Txt.join ("":Str) ([lR x,lR y].map bK)).length<=14:=by
  have:=CU Qx
  rw[←join_list,aaq,aam]at this
  exact this
 unfold Cd oY
 generalize Txt.join ("":Str) ([lR x,lR y].map bK)=J at hj⊢
 refine aao (nH _) ?_
 have l1:(Str.ofString "\n").length=1:=by decide +kernel
 have l2:(" ":Str).length=1:=by decide +kernel
 have hd:∀B,(zH B 1).length<=1:=λB=>by
  show(zG B cV 1).toArray.size<=1
  rw[aap];exact vM _ _ _
 have:=hd ((J++Str.ofString "\n")++Str.ofString " ")
 rw[bS,bS,bS];omega
def RQ(K:W.Frag)(x y:eF)(H H':Hp)(t:Addr)(r:Option gn)(cm:fK gn):Prop:=match r with
 |none=>∃l vs,H' t=some (.tup [.str ("alike":Str),.ref l])/\H l=none/\H' l=some (.lst vs)/\Paired (c9 K H') vs (cm.map λe=>e.1.1)
 |some m=>∃xs k aL,H' t=some (.tup [.str ("parted":Str),.str (Txt.join ("":Str) (xs.map sg))])/\WalkG (fH x y (Cd x y)) pT xs m/\xs.length=k/\LX fY (fH x y (Cd x y)) none pT (some m) cm aL k
abbrev Pq:=Option cP×Option cP
def kK(q:Pq):List (Lf⊕List Lf):=[CW q.1,CW q.2]
theorem BA{a b:Pq}:kK a=kK b↔a=b:=by
 constructor
 ·intro h
  unfold kK at h
  injection h with h1 h2
  injection h2 with h2 _
  exact Prod.ext (qc h1) (qc h2)
 ·rintro rfl;rfl
abbrev vY(K:W.Frag)(H:Hp):List (N3 (Lf⊕List Lf))->List Pq->Prop:=Paired λe q=>e.1=kK q/\c9 K H (.ref e.2.1) q
structure BB(P:Program)(w:World)(K:W.Frag)(H:Hp)(a:Addr)(qs:List Pq):Prop where
 ok:∃kvs,Nd (YM P w K) (bT P w) H a kvs/\vY K H kvs qs
theorem c9.keep{K:W.Frag}{H H':Hp}{v:V}{q:Pq}(t:∀b xs,aK K H b xs->aK K H' b xs)(h:c9 K H v q):c9 K H' v q:=by
 obtain⟨p,s1,s2,e1,e2,e3,e4⟩:=h
 exact⟨p,s1,s2,e1,t _ _ e2,e3.keep t,e4.keep t⟩
theorem iU{K:W.Frag}{H H':Hp}(t:∀b xs,aK K H b xs->aK K H' b xs){kvs:List (N3 (Lf⊕List Lf))}{qs:List Pq}(h:vY K H kvs qs):vY K H' kvs qs:=aW (λ_ _ ⟨e1,e2⟩=>⟨e1,e2.keep t⟩) h
theorem BB.mono{P:Program}{w:World}{K:W.Frag}{H H':Hp}{a:Addr}{qs:List Pq}(s:aF H H')(h:BB P w K H a qs):BB P w K H' a qs:=by
 obtain⟨kvs,d,r⟩:=h.ok
 exact⟨kvs,d.mono s,iU (λb xs q=>av s q) r⟩
theorem tH{P:Program}{w:World}{K:W.Frag}{H:Hp}{b:Addr}{q:Pq}(h:c9 K H (.ref b) q):k9 (YM P w K) H (kK q) b:=by
 obtain⟨p,s1,s2,e1,e2,e3,e4⟩:=h
 cases e1
 exact HD e2 e3 e4
theorem nJ{K:W.Frag}{H:Hp}{q:Pq}:∀{kvs:List (N3 (Lf⊕List Lf))}{qs:List Pq},vY K H kvs qs->(valN kvs (kK q)).isSome=decide (q∈qs)
 |_,_,.nil=>rfl
 |e::kvs,p::cm,.cons a r=>by
  have ih:=nJ (q:=q) r
  unfold valN at ih⊢
  rw[abk,a.1]
  by_cases z:p=q
  ·rw[aar (by rw[z])]
   exact(aar (by rw[z];exact aaA ..)).symm
  ·rw[aas (λy=>z (BA.mp y))]
   refine ih.trans ?_
   rw[aaT,aaP,aaP]
   exact⟨λh=>aaw _ h,λh=>(aaE.mp h).resolve_left (λe=>z e.symm)⟩
theorem vZ{P:Program}{w:World}{K:W.Frag}{H H':Hp}{a:Addr}{kvs:List (N3 (Lf⊕List Lf))}(s:aF H H')(h:Jq (YM P w K) (bT P w) H a kvs):Jq (YM P w K) (bT P w) H' a kvs:=⟨h.ob.elim (λe=>.inl (s _ _ e)) (λ⟨o,e⟩=>.inr ⟨o,s _ _ e⟩),λe he=>(h.keys e he).mono s⟩
theorem HC.ext{C CT CC:Addr}{H:Hp}{a d:Addr}{x y:eF}{z:Str}{P:Program}{w:World}{kvs:List (N3 (Lf⊕List Lf))}{o:HO}(hd:H d=some (dN (ZM P w) (bT P w) d kvs))(h:HC C CT CC H a x y z):HC C CT CC (upd H d o) a x y z:=by
 obtain⟨da,t,u,e1,⟨dy,dd,d1,e2,e3⟩,⟨YB,GW,YC,e4,e5⟩⟩:=h.ok
 have q:∀{b:Addr}{C' d':Addr}{fs:List (Str×V)},H b=some (.ins C' d' fs)->(upd H d o) b=some (.ins C' d' fs):=λe=>(aH (oh e hd (λz=>nomatch z))).trans e
 exact⟨da,t,u,q e1,⟨dy,dd,d1,q e2,q e3⟩,⟨YB,GW,YC,q e4,q e5⟩⟩
theorem BB.put{P:Program}{w:World}{K:W.Frag}{H:Hp}{a b:Addr}{q:Pq}{qs:List Pq}{kvs:List (N3 (Lf⊕List Lf))}{v:V}(d:Nd (YM P w K) (bT P w) H a kvs)(r:vY K H kvs qs)(hm:c9 K H (.ref b) q)(hn:q∉qs):BB P w K (upd H a (dN (ZM P w) (bT P w) a (putN kvs (kK q) b v))) a (qs++[q]):=by
 have t:=mD (F:=K) d.ob (o:=dN (ZM P w) (bT P w) a (putN kvs (kK q) b v))
 refine⟨_,d.put (tH hm),?_⟩
 have z:=nJ (q:=q) r
 rw[aas hn]at z
 have hv0:valN kvs (kK q)=none:=by
  cases z':valN kvs (kK q) with
  |none=>rfl
  |some y=>rw[z']at z;cases z
 rw[pY hv0]
 rw[pY hv0]at t
 exact bU (iU t r) (.cons ⟨rfl,hm.keep t⟩ .nil)
theorem CY{z:Str}{n:Nat}(hn:n<z.length)(h3:z.length<=3):(Txt.slice z (some (n:Int)) none).cps.toList=z.cps.toList.drop n/\(Txt.slice z none (some (n:Int))).cps.toList=z.cps.toList.take n:=by
 have hz:z.cps.toList.length=z.length:=by rw[aam];rfl
 refine⟨?_,Bp (Nat.le_of_lt hn)⟩
 have:=PyProof.Rows.slice_closes_from (x:=z) (i:=(n:Int)) ⟨by omega,by omega⟩
 rw[eq_of_beq this]
 show(z.cps.toList.drop (n:Int).toNat).take ((z.length:Int)-(n:Int)).toNat=_
 rw[abl,aaz (by rw[List.length_drop];omega)]
structure Ce(x y:eF):Prop where
 pp:x.1.cps.toList.Perm y.1.cps.toList
 pq:x.2.1.cps.toList.Perm y.2.1.cps.toList
 pf:x.2.2.1.cps.toList.Perm y.2.2.1.cps.toList
 th:x.2.2.2.c=y.2.2.2.c
 tw:x.2.1=Str.ofString ""\/(x.2.2.2.a=y.2.2.2.a/\x.2.2.2.d=y.2.2.2.d)
 wi:(x.2.1=Str.ofString ""/\x.2.2.1=("":Str))\/x.2.2.2.b=y.2.2.2.b
theorem zJ{a b:Str}(g:Sg a)(h:a.cps.toList.Perm b.cps.toList):Sg b/\b.length=a.length:=by
 refine⟨⟨h.nodup_iff.mp g.nd,λc hc=>g.pr c (h.mem_iff.mpr hc)⟩,?_⟩
 have:=h.length_eq
 rw[aam,aam]at this
 exact this.symm
theorem Ce.gd{x y:eF}(h:Ce x y)(g:tG x):tG y:=by
 obtain⟨a1,a2⟩:=zJ g.gp h.pp
 obtain⟨b1,b2⟩:=zJ g.gq h.pq
 obtain⟨c1,c2⟩:=zJ g.gf h.pf
 exact⟨a1,b1,c1,by rw[a2];exact g.p1,by rw[a2];exact g.p3,by rw[b2];exact g.q2,by rw[c2];exact g.f2⟩
theorem gG(y:Str):y.cps.toList.Perm (Txt.join ("":Str) (y.cps.toList.reverse.map sg)).cps.toList:=by
 rw[Hr];exact(List.reverse_perm _).symm
theorem HE{z:Str}{n:Nat}(hn:n<z.length)(h3:z.length<=3):z.cps.toList.Perm (Txt.slice z (some (n:Int)) none++Txt.slice z none (some (n:Int))).cps.toList:=by
 obtain⟨e1,e2⟩:=CY hn h3
 rw[app_list,e1,e2]
 exact((List.perm_append_comm).trans (by rw[List.take_append_drop])).symm
theorem qf{a b:Str}(h:a.cps.toList.Perm b.cps.toList)(c:Nat):gj c a=gj c b:=by
 have e:∀z,gj c z=decide (c∈z.cps.toList):=λz=>StrLaws.found_one z c
 rw[e,e,aaT,aaP,aaP]
 exact h.mem_iff
theorem qg(c:Nat):gj c ("":Str)=false:=by
 have e:gj c ("":Str)=decide (c∈("":Str).cps.toList):=StrLaws.found_one _ c
 rw[e,zC];rfl
theorem oZ{a b:Str}(h:a.cps.toList.Perm b.cps.toList)(e:a=("":Str)):b=("":Str):=by
 subst e
 rw[zC]at h
 have h:=h.symm.eq_nil
 obtain⟨⟨l⟩⟩:=b
 have h:l=[]:=h
 subst h;rfl
theorem HF{x y:eF}(h:Ce x y){w u:Str}(hs:jU x.2.1 w u)(hf:x.2.2.1=Str.ofString ""->w≠Str.ofString "freed")(c:Nat):dg x.1 x.2.1 x.2.2.1 x.2.2.2.a x.2.2.2.b x.2.2.2.c x.2.2.2.d w u c=dg y.1 y.2.1 y.2.2.1 y.2.2.2.a y.2.2.2.b y.2.2.2.c y.2.2.2.d w u c:=by
 obtain⟨p,q,f,⟨b1,b2,b3,b4⟩⟩:=x
 obtain⟨p',q',f',⟨d1,d2,d3,d4⟩⟩:=y
 obtain⟨pp,pq,pf,th,tw,wi⟩:=h
 simp only at pp pq pf th tw wi hs hf⊢
 subst th
 have e1:=qf pp c
 have e2:=qf pq c
 have e3:=qf pf c
 have hq:∀d,d∈q.cps.toList->b1=d1/\b4=d4/\b2=d2:=λd hd=>by
  have ne:q≠Str.ofString "":=λe=>by rw[e,zC]at hd;cases hd
  have t1:=tw.resolve_left ne
  exact⟨t1.1,t1.2,wi.resolve_left λz=>ne z.1⟩
 rcases hs with ⟨rfl,rfl|rfl|rfl|rfl|rfl⟩|⟨d,hd,rfl,rfl|rfl|rfl⟩
 ·rw[iB (by decide +kernel) (by decide +kernel) (by decide +kernel) (by decide +kernel),iB (by decide +kernel) (by decide +kernel) (by decide +kernel) (by decide +kernel)]
  unfold dw cT cK
  rw[e1,e2,e3,aah (ns (by decide +kernel)),aah (ns (by decide +kernel))]
 ·rw[iB (by decide +kernel) (by decide +kernel) (by decide +kernel) (by decide +kernel),iB (by decide +kernel) (by decide +kernel) (by decide +kernel) (by decide +kernel)]
  unfold dw cT cK
  rw[e1,e2,e3,aah (ns (by decide +kernel)),aah (ns (by decide +kernel))]
 ·rw[p8 (aI _),p8 (aI _)]
  unfold cT
  rw[e1,e3]
  by_cases hq':q=("":Str)
  ·have z1:gj c q=false:=by rw[hq'];exact qg c
   rw[←e2,z1]
   rfl
  ·rw[(tw.resolve_left hq').2,e2]
 ·rw[dF (aI _),dF (aI _)]
  unfold bC
  rw[e1]
 ·have ne:¬f=("":Str):=λe=>hf e rfl
  rw[eN (aI _),eN (aI _),wi.resolve_left λz=>ne z.2]
 ·obtain⟨t1,t2,t3⟩:=hq d hd
  rw[cU (aI _),cU (aI _),t1,t3]
  unfold cu
  rw[e3]
 ·rw[dQ (aI _),dQ (aI _)]
  unfold fW bC
  rw[e1]
 ·obtain⟨t1,t2,t3⟩:=hq d hd
  rw[eN (aI _),eN (aI _),t3]
theorem BC{f f' q w u:Str}(h:f.cps.toList.Perm f'.cps.toList)(hs:jU q w u):dz f w u=dz f' w u:=by
 unfold dz
 rcases hs with ⟨rfl,_⟩|⟨d,_,rfl,_⟩
 ·rw[aai (aI _),aai (aI _)]
 ·have e:∀z,Wy (sg d) z=!(gj d z):=λz=>rfl
  rw[e,e,qf h]
theorem JD{p q:Str}{b1 b2 b3 b4:Bool}{w u k w' u':Str}{c:Nat}(hs:jU q w u)(hw:w≠Str.ofString "freed")(h:dg p q ("":Str) b1 b2 b3 b4 w u c=.go k w' u'):w'≠Str.ofString "freed":=by
 have key:∀{a b:String},bh (Str.ofString a) (Str.ofString b)=false->Str.ofString a≠Str.ofString b:=λz e=>by rw[e,aI]at z;cases z
 rcases hs with ⟨rfl,rfl|rfl|rfl|rfl|rfl⟩|⟨d,hd,rfl,rfl|rfl|rfl⟩
 ·rw[iB (by decide +kernel) (by decide +kernel) (by decide +kernel) (by decide +kernel)]at h
  unfold dw cK at h
  rw[qg,aah (ns (by decide +kernel))]at h
  simp only[aaD,aaW]at h
  repeat' split at h
  all_goals (injection h with h1 h2 h3;rw[←h2];exact key (by decide +kernel))
 ·rw[iB (by decide +kernel) (by decide +kernel) (by decide +kernel) (by decide +kernel)]at h
  unfold dw cK at h
  rw[qg,aah (ns (by decide +kernel))]at h
  simp only[aaD,aaW]at h
  repeat' split at h
  all_goals (injection h with h1 h2 h3;rw[←h2];exact key (by decide +kernel))
 ·rw[p8 (aI _)]at h
  unfold cT at h
  rw[qg]at h
  simp only[aaD,aaW]at h
  repeat' split at h
  all_goals first | (injection h with h1 h2 h3;rw[←h2];exact key (by decide +kernel))|cases h
 ·rw[dF (aI _)]at h
  unfold bC at h
  repeat' split at h
  all_goals first | (injection h with h1 h2 h3;rw[←h2];exact key (by decide +kernel))|cases h
 ·exact absurd rfl hw
 ·rw[cU (aI _)]at h
  unfold cu at h
  rw[qg]at h
  simp only[aaD,aaW]at h
  repeat' split at h
  all_goals first | (injection h with h1 h2 h3;rw[←h2];exact key (by decide +kernel))|cases h
 ·rw[dQ (aI _)]at h
  unfold fW bC at h
  repeat' split at h
  all_goals first | (injection h with h1 h2 h3;rw[←h2];exact key (by decide +kernel))|cases h
 ·exact absurd rfl hw
structure xq(x:eF)(s:cP):Prop where
 st:jU x.2.1 s.1 s.2
 lv:dz x.2.2.1 s.1 s.2=true
 nf:x.2.2.1=Str.ofString ""->s.1≠Str.ofString "freed"
theorem qh(x:eF):xq x (Str.ofString "row",("":Str)):=⟨.inl ⟨rfl,.inl rfl⟩,by unfold dz;exact aai (aI _),λ_ e=>absurd e (λe=>by have:=congrArg (λz=>bh z ("freed":Str)) e;simp only[aI]at this;exact absurd this (by decide +kernel))⟩
theorem HG{x:eF}{s t:cP}{k:Str}{c:Nat}(hs:xq x s)(h:iD x (some s) c=some (k,t)):xq x t:=by
 have h:eO x.1 x.2.1 x.2.2.1 x.2.2.2.a x.2.2.2.b x.2.2.2.c x.2.2.2.d s.1 s.2 c=some (k,t):=h
 unfold eO at h
 cases e:dg x.1 x.2.1 x.2.2.1 x.2.2.2.a x.2.2.2.b x.2.2.2.c x.2.2.2.d s.1 s.2 c with
 |ye z=>rw[e]at h;cases h
 |go k' w' u' =>
  rw[e]at h
  simp only at h
  by_cases hl:dz x.2.2.1 w' u'=true
  ·rw[aai hl]at h
   injection h with h;injection h with h1 h2
   subst h2
   refine⟨zD hs.st e,hl,λz=>?_⟩
   have hn:=hs.nf z
   rw[z]at e
   exact JD hs.st hn e
  ·rw[aah hl]at h;cases h
theorem CZ{x y:eF}{s:cP}(h:Ce x y)(hs:xq x s)(c:Nat):iD x (some s) c=iD y (some s) c:=by
 show eO _ _ _ _ _ _ _ s.1 s.2 c=eO _ _ _ _ _ _ _ s.1 s.2 c
 unfold eO
 have e:=HF h hs.st hs.nf c
 cases e1:dg x.1 x.2.1 x.2.2.1 x.2.2.2.a x.2.2.2.b x.2.2.2.c x.2.2.2.d s.1 s.2 c with
 |ye z=>rw[e1]at e;rw[←e]
 |go k w u =>
  rw[e1]at e
  rw[←e]
  simp only
  rw[BC h.pf (zD hs.st e1)]
def dT(s:cP):gn:=((some s,some s),some ([],[]))
theorem L0{s t:cP}(h:dT s=dT t):s=t:=by
 injection h with h _;injection h with h _;exact aaC h
theorem JE(s:cP):fY (dT s)=false:=by
 unfold fY
 by_cases h:(dT s).1=(ou,ou)
 ·rw[aai h];rfl
 ·rw[aah h]
  have hn:¬some s=ou:=λe=>h (by show(some s,some s)=_;rw[e])
  show(decide (some s=ou)||decide (some s=ou))=false
  rw[aas hn];rfl
theorem HH(l:List cP)(h:l.length<=1):JA l l=some ([],[]):=by
 match l,h with
 |[],_=>rfl
 |[a],_=>show(if a=a then some ([],[]) else none)=_;rw[aai rfl]
theorem El{x y:eF}{s:cP}(h:Ce x y)(hs:xq x s)(c:Nat):E4 x y (dT s) c=(iD x (some s) c).map λt=>dT t.2:=by
 unfold E4
 have e:=CZ h hs c
 show(if iD x (some s) c=none/\iD y (some s) c=none then none else some ((Jz (iD x (some s) c),Jz (iD y (some s) c)),JB (some ([],[])) (iD x (some s) c) (iD y (some s) c) c))=_
 rw[←e]
 cases hl:iD x (some s) c with
 |none=>rw[aai ⟨rfl,rfl⟩];rfl
 |some t =>
  rw[aah (λz=>nomatch z.1)]
  show some ((some t.2,some t.2),JA ([]++nQ t.1 c) ([]++nQ t.1 c))=some (dT t.2)
  rw[List.nil_append,HH _ (vV _ _)]
  rfl
theorem zK{x y:eF}{s:cP}{z:Str}(h:Ce x y)(hs:xq x s){e:Nat×gn}:e∈fH x y z (dT s)↔e.1∈z.cps.toList/\∃k t,iD x (some s) e.1=some (k,t)/\e.2=dT t:=by
 unfold fH
 rw[List.mem_filterMap]
 constructor
 ·rintro⟨c,hc,he⟩
  rw[El h hs]at he
  cases hl:iD x (some s) c with
  |none=>rw[hl]at he;cases he
  |some t=>rw[hl]at he;cases he;exact⟨hc,t.1,t.2,hl,rfl⟩
 ·rintro⟨hc,k,t,hl,he⟩
  refine⟨e.1,hc,?_⟩
  rw[El h hs,hl]
  show some (e.1,dT t)=some e
  rw[←he]
section
variable{M:Type}[DecidableEq M]{good:M->Bool}{led:M->List (Nat×M)}{Ok:M->Prop}{B:Nat}{U:List M}
theorem JF{p:M}{acc:fK M×List M}{e:Nat×M}(h1:∀m∈acc.1.map (·.1),m∈U)(h2:∀m∈acc.2,m∈U)(he:e.2∈U):(∀m∈(dS p acc e).1.map (·.1),m∈U)/\∀m∈(dS p acc e).2,m∈U:=by
 unfold dS
 by_cases q:cL acc.1 e.2=true
 ·rw[aai q];exact⟨h1,h2⟩
 ·rw[aah q]
  refine⟨λm hm=>?_,λm hm=>?_⟩
  ·rw[aaO]at hm
   rcases aaY.mp hm with z|z
   ·exact h1 m z
   ·rw[aau.mp (show m∈[e.2]from z)];exact he
  ·rcases aaY.mp hm with z|z
   ·exact h2 m z
   ·rw[aau.mp z];exact he
theorem BD{p:M}:∀{es:List (Nat×M)}{acc:fK M×List M},(∀m∈acc.1.map (·.1),m∈U)->(∀m∈acc.2,m∈U)->(∀e∈es,e.2∈U)->(∀m∈(es.foldl (dS p) acc).1.map (·.1),m∈U)/\∀m∈(es.foldl (dS p) acc).2,m∈U
 |[],_,h1,h2,_=>⟨h1,h2⟩
 |e::es,acc,h1,h2,he=>by
  rw[aa9]
  obtain⟨a,b⟩:=JF (p:=p) h1 h2 (he e (aaA ..))
  exact BD a b λe' he'=>he e' (aaw _ he')
theorem BE:∀{ms:List M}{acc:fK M×List M},(∀m∈acc.1.map (·.1),m∈U)->(∀m∈acc.2,m∈U)->(∀m∈ms,∀e∈led m,e.2∈U)->(∀m∈(ms.foldl (iS led) acc).1.map (·.1),m∈U)/\∀m∈(ms.foldl (iS led) acc).2,m∈U
 |[],_,h1,h2,_=>⟨h1,h2⟩
 |m::ms,acc,h1,h2,he=>by
  rw[aa9]
  obtain⟨a,b⟩:=BD (p:=m) h1 h2 (he m (aaA ..))
  exact BE a b λm' hm'=>he m' (aaw _ hm')
theorem L3(hU:∀m∈U,∀e∈led m,e.2∈U)(hO:∀m∈U,Ok m)(hB:U.length<=B):∀(n:Nat)(cm:fK M)(aL:List M),(cm.map (·.1)).Nodup->(∀m∈cm.map (·.1),m∈U)->(∀m∈aL,m∈U)->aL.length<=cm.length->2*(U.length-cm.length)+(if aL=[] then 0 else 1)<=n->vX good led Ok B n cm aL:=by
 intro n
 induction n with
 |zero =>
  intro cm aL nd hc he hl hn
  have hcl:cm.length<=U.length:=by have:=aaS nd (λm hm=>hc m hm);rw[aaq]at this;exact this
  refine⟨⟨by omega,hl,λm hm=>hO m (he m hm)⟩,.inl ?_⟩
  by_cases h:aL=[]
  ·exact h
  ·rw[aah h]at hn;omega
 |succ n ih =>
  intro cm aL nd hc he hl hn
  have hcl:cm.length<=U.length:=by have:=aaS nd (λm hm=>hc m hm);rw[aaq]at this;exact this
  refine⟨⟨by omega,hl,λm hm=>hO m (he m hm)⟩,?_⟩
  by_cases h:aL=[]
  ·exact .inl h
  ·refine .inr (.inr ?_)
   have q:=nI (led:=led) aL (cm,[])
   simp only[List.length_nil,Nat.add_zero]at q
   obtain⟨a,b⟩:=BE (led:=led) (ms:=aL) (acc:=(cm,[])) hc (λ_ z=>nomatch z) λm hm=>hU m (he m hm)
   have WA:=vU (led:=led) (ms:=aL) (acc:=(cm,[])) nd
   have OH:(cy led cm aL).1.length<=U.length:=by have:=aaS WA (λm hm=>a m hm);rw[aaq]at this;exact this
   rw[aah h]at hn
   refine ih _ _ WA a b (by unfold cy;omega) ?_
   unfold cy at OH⊢
   by_cases h':(aL.foldl (iS led) (cm,[])).2=[]
   ·rw[aai h'];rw[h',List.length_nil]at q;omega
   ·rw[aah h']
    have:=List.length_pos_iff.mpr h'
    omega
end
theorem Em{x y:eF}{z:Str}(h:Ce x y)(g:tG x):∃n,vX fY (fH x y z) Qw 700000 n [(pT,none)] [pT]:=by
 classical
 have hl:((M7 x.2.1).filter λs=>decide (xq x s)).length<=11:=aao (List.length_filter_le ..) (zF g)
 refine⟨_,L3 (U:=((M7 x.2.1).filter λs=>decide (xq x s)).map dT) (λm hm e he=>?_) (λm hm=>?_) (by rw[aaq];omega) _ _ _ (by simp) (λm hm=>?_) (λm hm=>?_) (by simp) (aaj _)⟩
 ·obtain⟨s,hs,rfl⟩:=aaF.mp hm
  have hr:xq x s:=aa6 (abi.mp hs).2
  obtain⟨_,k,t,hl,e2⟩:=(zK h hr).mp he
  have ht:=HG hr hl
  rw[e2]
  exact aaF.mpr ⟨t,abi.mpr ⟨vL ht.st,aar ht⟩,rfl⟩
 ·obtain⟨s,hs,rfl⟩:=aaF.mp hm
  intro a b e
  injection e with e;injection e with e1 e2
  subst e1 e2
  exact⟨by decide,by decide⟩
 ·rw[aau.mp (show m∈[pT]from hm)]
  exact aaF.mpr ⟨_,abi.mpr ⟨vL (qh x).st,aar (qh x)⟩,rfl⟩
 ·rw[aau.mp hm]
  exact aaF.mpr ⟨_,abi.mpr ⟨vL (qh x).st,aar (qh x)⟩,rfl⟩
def v9:cP:=(Str.ofString "row",("":Str))
inductive En(x:eF)(z:Str):cP->Prop where
 |row:En x z v9
 |step {s t:cP}{k:Str}{c:Nat}:En x z s->c∈z.cps.toList->iD x (some s) c=some (k,t)->En x z t
theorem En.HJ{x:eF}{z:Str}{s:cP}(h:En x z s):xq x s:=by
 induction h with
 |row=>exact qh x
 |step _ _ hl ih=>exact HG ih hl
structure qi(x:eF)(z:Str)(qs:List cP):Prop where
 nd:qs.Nodup
 mem:∀s,s∈qs↔En x z s
theorem qi.of{x:eF}{z:Str}{qs:List cP}(nd:qs.Nodup)(h1:∀s∈qs,En x z s)(h2:v9∈qs)(h3:∀s∈qs,∀c∈z.cps.toList,∀k t,iD x (some s) c=some (k,t)->t∈qs):qi x z qs:=by
 refine⟨nd,λs=>⟨h1 s,λh=>?_⟩⟩
 induction h with
 |row=>exact h2
 |step _ hc hl ih=>exact h3 _ ih _ hc _ _ hl
theorem qj{α β:Type}{f:α->β}:∀{l:List α},(l.map f).Nodup->l.Nodup
 |[],_=>List.nodup_nil
 |a::l,h=>by
  have h:=aa8.mp (show(f a::l.map f).Nodup from h)
  exact aa8.mpr ⟨λz=>h.1 (aaF.mpr ⟨a,z,rfl⟩),qj h.2⟩
theorem Eo{x y:eF}{z:Str}(h:Ce x y){r:Option gn}{cm:fK gn}(hr:um fY (fH x y z) none [(pT,none)] [pT] r cm):r=none/\∃qs,cm.map (·.1)=qs.map dT/\qi x z qs:=by
 obtain⟨aL,k,hE⟩:=Bv hr
 have walk:∀{xs:List Nat}{m:gn},WalkG (fH x y z) pT xs m->∃s,m=dT s/\En x z s:=λ{xs m} hw=>by
  induction hw with
  |nil=>exact⟨v9,rfl,.row⟩
  |snoc _ he ih =>
   obtain⟨s,rfl,hs⟩:=ih
   obtain⟨hc,k,t,hl,e2⟩:=(zK h hs.HJ).mp he
   exact⟨t,e2,.step hs hc hl⟩
 have has:∀m,cL cm m=true->∃s,m=dT s/\En x z s:=λm hm=>by
  obtain⟨n,_,v,xs,_,_,w,_⟩:=hE.cE.told m hm
  exact walk w
 have hno:aL.find? fY=none:=List.find?_eq_none.mpr λm hm=>by
  obtain⟨s,rfl,_⟩:=has m (hE.cE.RN m hm).2
  rw[JE];decide
 have hr0:r=none:=hE.res.trans hno
 refine⟨hr0,?_⟩
 have he:aL=[]:=(hE.why hr0).resolve_right λ⟨n,e,_⟩=>nomatch e
 have key:∀l:List gn,(∀m∈l,∃s,m=dT s/\En x z s)->∃qs:List cP,l=qs.map dT/\∀s∈qs,En x z s:=λl hl=>by
  induction l with
  |nil=>exact⟨[],rfl,λ_ z=>nomatch z⟩
  |cons m l ih =>
   obtain⟨s,e,hs⟩:=hl m (aaA ..)
   obtain⟨qs,e2,hq⟩:=ih λm' hm'=>hl m' (aaw _ hm')
   refine⟨s::qs,by rw[e,e2];rfl,λs' hs'=>?_⟩
   rcases aaE.mp hs' with q|q
   ·rw[q];exact hs
   ·exact hq s' q
 obtain⟨qs,e,hq⟩:=key (cm.map (·.1)) λm hm=>has m (vQ.mpr hm)
 have hmem:∀s,cL cm (dT s)=true↔s∈qs:=λs=>by
  rw[vQ,e,aaF]
  exact⟨λ⟨t,ht,q⟩=>by rw[←L0 q];exact ht,λhs=>⟨s,hs,rfl⟩⟩
 have nd:=hE.nd
 rw[e]at nd
 refine⟨qs,e,qi.of (qj nd) hq ((hmem v9).mp (hE.cE.all [] pT .nil (aaK _))) λs hs c hc k t hl=>?_⟩
 refine(hmem t).mp (hE.cE.shut (dT s) ((hmem s).mpr hs) (by rw[he];exact λz=>nomatch z) (c,dT t) ((zK h (hq s hs).HJ).mpr ⟨hc,k,t,hl,rfl⟩))
theorem qi.len{x:eF}{z:Str}{qs tK:List cP}(h:qi x z qs)(h':qi x z tK):qs.length=tK.length:=by
 have a:=aaS h.nd (λs hs=>(h'.mem s).mpr ((h.mem s).mp hs))
 have b:=aaS h'.nd (λs hs=>(h.mem s).mpr ((h'.mem s).mp hs))
 omega
theorem yD{q q' w u:Str}(h:q.cps.toList.Perm q'.cps.toList)(hs:jU q w u):jU q' w u:=by
 rcases hs with hs|⟨c,hc,r⟩
 ·exact .inl hs
 ·exact .inr ⟨c,h.mem_iff.mp hc,r⟩
def dd(s:cP):Pq:=(some s,some s)
theorem L4{s t:cP}(h:dd s=dd t):s=t:=by injection h with h _;exact aaC h
structure PI(x:eF)(z:Str)(qs:List cP)(at_:Nat):Prop where
 nd:qs.Nodup
 rc:∀s∈qs,En x z s
 row:v9∈qs
 le:at_<=qs.length
 cl:∀i,i<at_->∀s,qs[i]?=some s->∀c∈z.cps.toList,∀k t,iD x (some s) c=some (k,t)->t∈qs
theorem PI.push{x:eF}{z:Str}{qs:List cP}{a:Nat}{t:cP}(h:PI x z qs a)(hn:t∉qs)(ht:En x z t):PI x z (qs++[t]) a:=by
 refine⟨?_,λs hs=>?_,aaN _ h.row,by rw[aav];have:=h.le;omega,λi hi s hs c hc k u hl=>?_⟩
 ·rw[List.nodup_append]
  exact⟨h.nd,by simp,λa ha b hb e=>hn (by rw[←aau.mp hb,←e];exact ha)⟩
 ·rcases aaY.mp hs with q|q
  ·exact h.rc s q
  ·rw[aau.mp q];exact ht
 ·rw[List.getElem?_append_left (by have:=h.le;omega)]at hs
  exact aaN _ (h.cl i hi s hs c hc k u hl)
theorem PI.next{x:eF}{z:Str}{qs:List cP}{a:Nat}{s:cP}(h:PI x z qs a)(hs:qs[a]?=some s)(hc:∀c∈z.cps.toList,∀k t,iD x (some s) c=some (k,t)->t∈qs):PI x z qs (a+1):=by
 have hl:=(aal.mp hs).1
 refine⟨h.nd,h.rc,h.row,hl,λi hi s' hs' c hc' k t hl'=>?_⟩
 by_cases e:i=a
 ·subst e;rw[hs]at hs';cases hs';exact hc c hc' k t hl'
 ·exact h.cl i (by omega) s' hs' c hc' k t hl'
theorem PI.all{x:eF}{z:Str}{qs:List cP}{a:Nat}(h:PI x z qs a)(hl:qs.length<=a):qi x z qs :=
 qi.of h.nd h.rc h.row λs hs c hc k t hl'=>by
  obtain⟨i,hi⟩:=abB hs
  have hil:=(aal.mp hi).1
  exact h.cl i (by omega) s hi c hc k t hl'
theorem PI.len{x:eF}{z:Str}{qs:List cP}{a:Nat}(h:PI x z qs a)(g:tG x):qs.length<=11 :=
 aao (aaS h.nd (λs hs=>vL (h.rc s hs).HJ.st)) (zF g)
theorem PI.zero{x:eF}{z:Str}:PI x z [v9] 0:=⟨by simp,λs hs=>by rw[aau.mp hs];exact .row,by simp,aaK _,λi hi=>absurd hi (by omega)⟩
theorem C0{qs:List cP}{t:cP}:Bl (qs.map λs=>(Sum.inr (kK (dd s)):Lf⊕List (Lf⊕List Lf))) (.inr (kK (dd t)))=decide (t∈qs):=by
 unfold Bl
 rw[aaT,List.any_eq_true,aaP]
 constructor
 ·rintro⟨k,hk,e⟩
  obtain⟨s,hs,rfl⟩:=aaF.mp hk
  have e:=aa6 e
  injection e with e
  rw[←L4 (BA.mp e)];exact hs
 ·intro h
  exact⟨_,aaF.mpr ⟨t,h,O⟩,aar rfl⟩
theorem zL{P:Program}{w:World}{K:W.Frag}{H:Hp}:∀{vs:List V}{qs:List cP},Paired (c9 K H) vs (qs.map dd)->Paired (λk v=>(g9 (YM P w K)).on H k v) (qs.map λs=>(Sum.inr (kK (dd s)):Lf⊕List (Lf⊕List Lf))) vs
 |[],[],_=>.nil
 |v::vs,s::qs,h=>by
  cases h with
  |cons a r =>
   obtain⟨p,s1,s2,rfl,e2⟩:=id a
   exact .cons ⟨p,rfl,tH a⟩ (zL r)
 |[],_::_,h=>nomatch h
 |_::_,[],h=>nomatch h
theorem M5{A:Around}{P:Program}{w:World}(h:A.units+64<cLine):A.units+1+(stepK (ZM P w)).cE<cLine:=by show A.units+1+2<cLine;omega
theorem Ce.symm{x y:eF}(h:Ce x y):Ce y x:=⟨h.pp.symm,h.pq.symm,h.pf.symm,h.th.symm,h.tw.elim (λe=>.inl (oZ h.pq e)) (λe=>.inr ⟨e.1.symm,e.2.symm⟩),h.wi.elim (λe=>.inl ⟨oZ h.pq e.1,oZ h.pf e.2⟩) (λe=>.inr e.symm)⟩
theorem Ce.refl(x:eF):Ce x x:=⟨.refl _,.refl _,.refl _,rfl,.inr ⟨rfl,rfl⟩,.inr rfl⟩
theorem qi.few{x:eF}{z:Str}{qs:List cP}(h:qi x z qs)(g:tG x):qs.length<=11 :=
 aao (aaS h.nd (λs hs=>vL ((h.mem s).mp hs).HJ.st)) (zF g)
theorem yE:∀{qs:List cP},qs.Nodup->(qs.map λs=>(s,s)).Nodup
 |[],_=>List.nodup_nil
 |a::l,h=>by
  have h:=aa8.mp h
  refine aa8.mpr ⟨λz=>?_,yE h.2⟩
  obtain⟨s,hs,e⟩:=aaF.mp z
  injection e with e _
  exact h.1 (by rw[←e];exact hs)
theorem ly:aE ["sign","number"] ["sign"] (ay iM):=⟨rfl,rfl,rfl,by decide +kernel,rfl,by decide +kernel,by decide +kernel⟩
theorem vj:aE ["text","found","sign"] ["text"] (ay CO):=⟨rfl,rfl,rfl,by decide +kernel,rfl,by decide +kernel,by decide +kernel⟩
theorem yF:aE ["some","many","free"] ["some","many"] (ay p7):=⟨rfl,rfl,rfl,by decide +kernel,rfl,by decide +kernel,by decide +kernel⟩
theorem kL:aE ["dialect","states","quote"] ["dialect"] (ay mG):=⟨rfl,rfl,rfl,by decide +kernel,rfl,by decide +kernel,by decide +kernel⟩
theorem C1:aE ["dialect","state"] ["dialect","state"] (ay rD):=⟨rfl,rfl,rfl,by decide +kernel,rfl,by decide +kernel,by decide +kernel⟩
theorem rT:aE ["dialect","thing"] ["dialect","thing"] (ay gP):=⟨rfl,rfl,rfl,by decide +kernel,rfl,by decide +kernel,by decide +kernel⟩
theorem nR:aE ["thing","least","most"] ["thing","least","most"] (ay di):=⟨rfl,rfl,rfl,by decide +kernel,rfl,by decide +kernel,by decide +kernel⟩
theorem ic:aE ["self","parts","quotes","frees","twin","wide","thin","stray","truth"] ["self","parts","quotes","frees","twin","wide","thin","stray"] (ay aZ):=⟨rfl,rfl,rfl,by decide +kernel,rfl,by decide +kernel,by decide +kernel⟩
theorem uo:aE ["self"] ["self"] (ay iN):=⟨rfl,rfl,rfl,by decide +kernel,rfl,by decide +kernel,by decide +kernel⟩
theorem o4:aE ["self"] ["self"] (ay fS):=⟨rfl,rfl,rfl,by decide +kernel,rfl,by decide +kernel,by decide +kernel⟩
theorem xr:aE ["told"] ["told"] (ay kC):=⟨rfl,rfl,rfl,by decide +kernel,rfl,by decide +kernel,by decide +kernel⟩
theorem mT:aE ["dialect","state","sign"] ["dialect","state","sign"] (ay er):=⟨rfl,rfl,rfl,by decide +kernel,rfl,by decide +kernel,by decide +kernel⟩
theorem rU:aE ["dialect","sign"] ["dialect","sign"] (ay gQ):=⟨rfl,rfl,rfl,by decide +kernel,rfl,by decide +kernel,by decide +kernel⟩
theorem wc:aE ["dialect","quote","sign"] ["dialect","quote","sign"] (ay jD):=⟨rfl,rfl,rfl,by decide +kernel,rfl,by decide +kernel,by decide +kernel⟩
theorem wg:aE ["dialect","sign"] ["dialect","sign"] (ay jE):=⟨rfl,rfl,rfl,by decide +kernel,rfl,by decide +kernel,by decide +kernel⟩
theorem rV:aE ["dialect","quote","sign"] ["dialect","quote","sign"] (ay gR):=⟨rfl,rfl,rfl,by decide +kernel,rfl,by decide +kernel,by decide +kernel⟩
theorem xu:aE ["dialect","quote","sign"] ["dialect","quote","sign"] (ay kD):=⟨rfl,rfl,rfl,by decide +kernel,rfl,by decide +kernel,by decide +kernel⟩
theorem rW:aE ["self","dialect"] ["self","dialect"] (ay gS):=⟨rfl,rfl,rfl,by decide +kernel,rfl,by decide +kernel,by decide +kernel⟩
theorem kM:aE ["self","state","sign","word","quote"] ["self","state","sign"] (ay mH):=⟨rfl,rfl,rfl,by decide +kernel,rfl,by decide +kernel,by decide +kernel⟩
theorem f6:aE ["self","state","sign","step"] ["self","state","sign"] (ay gB):=⟨rfl,rfl,rfl,by decide +kernel,rfl,by decide +kernel,by decide +kernel⟩
theorem qk:aE ["dialects","signs"] ["dialects"] (ay jl):=⟨rfl,rfl,rfl,by decide +kernel,rfl,by decide +kernel,by decide +kernel⟩
theorem o5:aE ["self","one","other"] ["self","one","other"] (ay fT):=⟨rfl,rfl,rfl,by decide +kernel,rfl,by decide +kernel,by decide +kernel⟩
theorem uq:aE ["self","pair","sign"] ["self","pair","sign"] (ay iO):=⟨rfl,rfl,rfl,by decide +kernel,rfl,by decide +kernel,by decide +kernel⟩
theorem rX:aE ["steps","known"] ["steps","known"] (ay gT):=⟨rfl,rfl,rfl,by decide +kernel,rfl,by decide +kernel,by decide +kernel⟩
theorem eG:aE ["self","pair","known","sign","steps"] ["self","pair","known"] (ay fk):=⟨rfl,rfl,rfl,by decide +kernel,rfl,by decide +kernel,by decide +kernel⟩
theorem C2:aE ["one","other","thing"] ["one","other","thing"] (ay rE):=⟨rfl,rfl,rfl,by decide +kernel,rfl,by decide +kernel,by decide +kernel⟩
theorem jo:aE ["one","other","pairs","known","pair","couple"] ["one","other","pairs"] (ay iP):=⟨rfl,rfl,rfl,by decide +kernel,rfl,by decide +kernel,by decide +kernel⟩
theorem C3:aE ["kind","sign"] ["kind","sign"] (ay rF):=⟨rfl,rfl,rfl,by decide +kernel,rfl,by decide +kernel,by decide +kernel⟩
theorem iV:aE ["more","steps","sign","one","other"] ["more","steps","sign"] (ay jF):=⟨rfl,rfl,rfl,by decide +kernel,rfl,by decide +kernel,by decide +kernel⟩
theorem cW:aE ["self","place","found","sign","steps","pair"] ["self","place"] (ay eY):=⟨rfl,rfl,rfl,by decide +kernel,rfl,by decide +kernel,by decide +kernel⟩
theorem o6:aE ["self","place"] ["self","place"] (ay fU):=⟨rfl,rfl,rfl,by decide +kernel,rfl,by decide +kernel,by decide +kernel⟩
theorem fF:aE ["first","searched","most","came","edge","place","farther","lead"] ["first","searched","most"] (ay dP):=⟨rfl,rfl,rfl,by decide +kernel,rfl,by decide +kernel,by decide +kernel⟩
theorem kO:aE ["came","place","signs","link"] ["came","place"] (ay rG):=⟨rfl,rfl,rfl,by decide +kernel,rfl,by decide +kernel,by decide +kernel⟩
theorem nS:aE ["self","one","other"] ["self","one","other"] (ay fm):=⟨rfl,rfl,rfl,by decide +kernel,rfl,by decide +kernel,by decide +kernel⟩
theorem o7:aE ["one","other","found","came"] ["one","other"] (ay nF):=⟨rfl,rfl,rfl,by decide +kernel,rfl,by decide +kernel,by decide +kernel⟩
theorem ur:aE ["_law_script","_law_k"] ["_law_script","_law_k"] (ay iQ):=⟨rfl,rfl,rfl,by decide +kernel,rfl,by decide +kernel,by decide +kernel⟩
theorem jH:aE ["_law_number_here","_law_salt","_law_one","_law_two"] ["_law_number_here","_law_salt"] (ay kE):=⟨rfl,rfl,rfl,by decide +kernel,rfl,by decide +kernel,by decide +kernel⟩
theorem iW:aE ["_law_cell","_law_salt","_law_number_here","_law_high"] ["_law_cell","_law_salt"] (ay jG):=⟨rfl,rfl,rfl,by decide +kernel,rfl,by decide +kernel,by decide +kernel⟩
theorem d9:aE ["_law_number_here","_law_many","_law_menu","_law_found","_law_k","_law_sign"] ["_law_number_here","_law_many","_law_menu"] (ay mJ):=⟨rfl,rfl,rfl,by decide +kernel,rfl,by decide +kernel,by decide +kernel⟩
theorem ow:aE ["_law_way","_law_every"] ["_law_way"] (ay kF):=⟨rfl,rfl,rfl,by decide +kernel,rfl,by decide +kernel,by decide +kernel⟩
theorem bD:aE ["_law_cell","_law_number_here","_law_flags","_law_sizes","_law_menus_here","_law_parts","_law_quotes","_law_frees","_law_truths"] ["_law_cell"] (ay mK):=⟨rfl,rfl,rfl,by decide +kernel,rfl,by decide +kernel,by decide +kernel⟩
theorem zM:aE ["_law_told_here"] ["_law_told_here"] (ay mL):=⟨rfl,rfl,rfl,by decide +kernel,rfl,by decide +kernel,by decide +kernel⟩
theorem aQ:aE ["_law_told_here","_law_number_here","_law_parts","_law_quotes","_law_frees","_law_twin","_law_wide","_law_thin","_law_stray","_law_at"] ["_law_told_here","_law_number_here"] (ay kG):=⟨rfl,rfl,rfl,by decide +kernel,rfl,by decide +kernel,by decide +kernel⟩
theorem cG:aE ["_law_told_here","_law_state","_law_sign","_law_parts","_law_quotes","_law_frees","_law_twin","_law_wide","_law_thin","_law_stray"] ["_law_told_here","_law_state","_law_sign"] (ay mO):=⟨rfl,rfl,rfl,by decide +kernel,rfl,by decide +kernel,by decide +kernel⟩
theorem bR:aE ["_law_told_here","_law_state","_law_sign","_law_parts","_law_quotes","_law_frees","_law_twin","_law_wide","_law_thin","_law_stray","_law_word","_law_quote"] ["_law_told_here","_law_state","_law_sign"] (ay mP):=⟨rfl,rfl,rfl,by decide +kernel,rfl,by decide +kernel,by decide +kernel⟩
theorem dG:aE ["_law_tolds","_law_some_here","_law_found","_law_sign","_law_letters"] ["_law_tolds"] (ay fV):=⟨rfl,rfl,rfl,by decide +kernel,rfl,by decide +kernel,by decide +kernel⟩
theorem mU:aE ["_law_told_here","_law_state","_law_sign","_law_kind","_law_later"] ["_law_told_here","_law_state","_law_sign"] (ay oW):=⟨rfl,rfl,rfl,by decide +kernel,rfl,by decide +kernel,by decide +kernel⟩
theorem bZ:aE ["_law_one","_law_other","_law_signs","_law_found","_law_at","_law_sign","_law_left","_law_right_here","_law_pair"] ["_law_one","_law_other","_law_signs"] (ay kH):=⟨rfl,rfl,rfl,by decide +kernel,rfl,by decide +kernel,by decide +kernel⟩
theorem f7:aE ["_law_found","_law_due","_law_pair","_law_state"] ["_law_found","_law_due"] (ay d8):=⟨rfl,rfl,rfl,by decide +kernel,rfl,by decide +kernel,by decide +kernel⟩
theorem jI:aE ["_law_left","_law_right_here","_law_one","_law_other","_law_due","_law_told_here"] ["_law_left","_law_right_here","_law_one","_law_other"] (ay kI):=⟨rfl,rfl,rfl,by decide +kernel,rfl,by decide +kernel,by decide +kernel⟩
theorem wj:aE ["_law_script","_law_one","_law_other","_law_left","_law_right_here"] ["_law_script"] (ay tF):=⟨rfl,rfl,rfl,by decide +kernel,rfl,by decide +kernel,by decide +kernel⟩
structure Txt(K:W.Frag)(mg:Str->Option Value)(aC:Nat->Addr)(aM:Nat->FuncData)(cQ:Nat->Str):Prop where
 mV:ff K "is_printable" "is_printable" iM (aC 0) (aM 0)
 wk:Binds K (aM 0) ["sign"] []
 wm:mg "is_printable"=some (.ref (aC 0))
 C4:ff K "once" "once" CO (aC 1) (aM 1)
 HK:Binds K (aM 1) ["text"] []
 HL:mg "once"=some (.ref (aC 1))
 BF:ff K "others" "others" p7 (aC 2) (aM 2)
 HM:Binds K (aM 2) ["some","many"] []
 HN:mg "others"=some (.ref (aC 2))
 tL:ff K "states_of" "states_of" mG (aC 3) (aM 3)
 BG:Binds K (aM 3) ["dialect"] []
 BH:mg "states_of"=some (.ref (aC 3))
 nK:ff K "is_live" "is_live" rD (aC 4) (aM 4)
 rY:Binds K (aM 4) ["dialect","state"] []
 rZ:mg "is_live"=some (.ref (aC 4))
 gW:ff K "is_live_state" "is_live_state" gP (aC 5) (aM 5)
 lz:Binds K (aM 5) ["dialect","thing"] []
 lA:mg "is_live_state"=some (.ref (aC 5))
 dj:ff K "are_unlike_signs" "are_unlike_signs" di (aC 6) (aM 6)
 fu:Binds K (aM 6) ["thing","least","most"] []
 fz:mg "are_unlike_signs"=some (.ref (aC 6))
 o8:GI K "__init__" "Dialect.__init__" aZ (aC 7) (aM 7) (.ref (aC 63))
 iX:Binds K (aM 7) ["self","parts","quotes","frees","twin","wide","thin","stray"] []
 wo:ff K "told" "Dialect.told" iN (aC 8) (aM 8)
 wu:Binds K (aM 8) ["self"] []
 wz:Meth K (aC 51) "told" (aC 8)
 ql:ff K "special" "Dialect.special" fS (aC 9) (aM 9)
 qm:Binds K (aM 9) ["self"] []
 qo:Meth K (aC 51) "special" (aC 9)
 qp:ff K "dialect_of" "dialect_of" kC (aC 10) (aM 10)
 zN:Binds K (aM 10) ["told"] []
 zO:mg "dialect_of"=some (.ref (aC 10))
 ie:ff K "step_at_beginning" "step_at_beginning" er (aC 11) (aM 11)
 nT:Binds K (aM 11) ["dialect","state","sign"] []
 nU:mg "step_at_beginning"=some (.ref (aC 11))
 lB:ff K "step_in_plain" "step_in_plain" gQ (aC 12) (aM 12)
 uv:Binds K (aM 12) ["dialect","sign"] []
 uw:mg "step_in_plain"=some (.ref (aC 12))
 oz:ff K "step_within" "step_within" jD (aC 13) (aM 13)
 xw:Binds K (aM 13) ["dialect","quote","sign"] []
 xx:mg "step_within"=some (.ref (aC 13))
 jJ:ff K "step_behind" "step_behind" jE (aC 14) (aM 14)
 oA:Binds K (aM 14) ["dialect","sign"] []
 oB:mg "step_behind"=some (.ref (aC 14))
 lC:ff K "step_in_doubt" "step_in_doubt" gR (aC 15) (aM 15)
 ux:Binds K (aM 15) ["dialect","quote","sign"] []
 uy:mg "step_in_doubt"=some (.ref (aC 15))
 qq:ff K "step_freed" "step_freed" kD (aC 16) (aM 16)
 zP:Binds K (aM 16) ["dialect","quote","sign"] []
 zQ:mg "step_freed"=some (.ref (aC 16))
 uz:ff K "__init__" "Turn.__init__" gS (aC 17) (aM 17)
 lD:Binds K (aM 17) ["self","dialect"] []
 BI:ff K "step" "Turn.step" mH (aC 18) (aM 18)
 tM:Binds K (aM 18) ["self","state","sign"] []
 tN:Meth K (aC 52) "step" (aC 18)
 r8:ff K "live_step" "Turn.live_step" gB (aC 19) (aM 19)
 jX:Binds K (aM 19) ["self","state","sign"] []
 jY:Meth K (aC 52) "live_step" (aC 19)
 tO:ff K "signs_for" "signs_for" jl (aC 20) (aM 20)
 BJ:Binds K (aM 20) ["dialects"] []
 BK:mg "signs_for"=some (.ref (aC 20))
 qt:ff K "__init__" "Couple.__init__" fT (aC 21) (aM 21)
 jq:Binds K (aM 21) ["self","one","other"] []
 wA:ff K "steps" "Couple.steps" iO (aC 22) (aM 22)
 mW:Binds K (aM 22) ["self","pair","sign"] []
 mX:Meth K (aC 53) "steps" (aC 22)
 lE:ff K "is_known_step" "is_known_step" gT (aC 23) (aM 23)
 uA:Binds K (aM 23) ["steps","known"] []
 uB:mg "is_known_step"=some (.ref (aC 23))
 o9:ff K "agrees_at" "Couple.agrees_at" fk (aC 24) (aM 24)
 pe:Binds K (aM 24) ["self","pair","known"] []
 pA:Meth K (aC 53) "agrees_at" (aC 24)
 yG:ff K "is_pair" "is_pair" rE (aC 25) (aM 25)
 E6:Binds K (aM 25) ["one","other","thing"] []
 E7:mg "is_pair"=some (.ref (aC 25))
 wB:ff K "is_alike" "is_alike" iP (aC 26) (aM 26)
 C5:Binds K (aM 26) ["one","other","pairs"] []
 C6:mg "is_alike"=some (.ref (aC 26))
 sd:ff K "put_out" "put_out" rF (aC 27) (aM 27)
 yH:Binds K (aM 27) ["kind","sign"] []
 yI:mg "put_out"=some (.ref (aC 27))
 oE:ff K "more_behind" "more_behind" jF (aC 28) (aM 28)
 xA:Binds K (aM 28) ["more","steps","sign"] []
 xB:mg "more_behind"=some (.ref (aC 28))
 uC:ff K "leads" "Parting.leads" eY (aC 29) (aM 29)
 uD:Binds K (aM 29) ["self","place"] []
 uE:Meth K (aC 54) "leads" (aC 29)
 qu:ff K "is_good" "Parting.is_good" fU (aC 30) (aM 30)
 qv:Binds K (aM 30) ["self","place"] []
 qw:Meth K (aC 54) "is_good" (aC 30)
 BL:GI K "search" "search" dP (aC 31) (aM 31) (.ref (aC 64))
 OI:Binds K (aM 31) ["first","searched","most"] []
 HP:mg "search"=some (.ref (aC 31))
 yJ:ff K "text_to" "text_to" rG (aC 32) (aM 32)
 E8:Binds K (aM 32) ["came","place"] []
 E9:mg "text_to"=some (.ref (aC 32))
 pB:ff K "__init__" "Parting.__init__" fm (aC 33) (aM 33)
 pC:Binds K (aM 33) ["self","one","other"] []
 sj:ff K "compare" "compare" nF (aC 34) (aM 34)
 yK:Binds K (aM 34) ["one","other"] []
 yL:mg "compare"=some (.ref (aC 34))
 iY:ff K "_law_cell_at" "_law_cell_at" iQ (aC 35) (aM 35)
 mY:Binds K (aM 35) ["_law_script","_law_k"] []
 mZ:mg "_law_cell_at"=some (.ref (aC 35))
 iF:ff K "_law_mixed" "_law_mixed" kE (aC 36) (aM 36)
 kP:Binds K (aM 36) ["_law_number_here","_law_salt"] []
 kQ:mg "_law_mixed"=some (.ref (aC 36))
 jK:ff K "_law_number" "_law_number" jG (aC 37) (aM 37)
 oF:Binds K (aM 37) ["_law_cell","_law_salt"] []
 oG:mg "_law_number"=some (.ref (aC 37))
 jt:ff K "_law_some" "_law_some" mJ (aC 38) (aM 38)
 m5:Binds K (aM 38) ["_law_number_here","_law_many","_law_menu"] []
 m6:mg "_law_some"=some (.ref (aC 38))
 qx:ff K "_law_menus" "_law_menus" kF (aC 39) (aM 39)
 zR:Binds K (aM 39) ["_law_way"] []
 zS:mg "_law_menus"=some (.ref (aC 39))
 tP:ff K "_law_told" "_law_told" mK (aC 40) (aM 40)
 BN:Binds K (aM 40) ["_law_cell"] []
 BO:mg "_law_told"=some (.ref (aC 40))
 ju:ff K "_law_made" "_law_made" mL (aC 41) (aM 41)
 m7:Binds K (aM 41) ["_law_told_here"] []
 m8:mg "_law_made"=some (.ref (aC 41))
 qy:ff K "_law_alike" "_law_alike" kG (aC 42) (aM 42)
 zT:Binds K (aM 42) ["_law_told_here","_law_number_here"] []
 zU:mg "_law_alike"=some (.ref (aC 42))
 tQ:ff K "_law_open" "_law_open" mO (aC 43) (aM 43)
 BP:Binds K (aM 43) ["_law_told_here","_law_state","_law_sign"] []
 BQ:mg "_law_open"=some (.ref (aC 43))
 tR:ff K "_law_step" "_law_step" mP (aC 44) (aM 44)
 BR:Binds K (aM 44) ["_law_told_here","_law_state","_law_sign"] []
 BS:mg "_law_step"=some (.ref (aC 44))
 qz:ff K "_law_count" "_law_count" fV (aC 45) (aM 45)
 zV:Binds K (aM 45) ["_law_tolds"] []
 zW:mg "_law_count"=some (.ref (aC 45))
 pD:ff K "_law_led" "_law_led" oW (aC 46) (aM 46)
 wC:Binds K (aM 46) ["_law_told_here","_law_state","_law_sign"] []
 wD:mg "_law_led"=some (.ref (aC 46))
 qA:ff K "_law_pairs" "_law_pairs" kH (aC 47) (aM 47)
 zX:Binds K (aM 47) ["_law_one","_law_other","_law_signs"] []
 zY:mg "_law_pairs"=some (.ref (aC 47))
 gF:ff K "_law_are_pairs" "_law_are_pairs" d8 (aC 48) (aM 48)
 jZ:Binds K (aM 48) ["_law_found","_law_due"] []
 j0:mg "_law_are_pairs"=some (.ref (aC 48))
 f9:ff K "_law_right" "_law_right" kI (aC 49) (aM 49)
 iG:Binds K (aM 49) ["_law_left","_law_right_here","_law_one","_law_other"] []
 iH:mg "_law_right"=some (.ref (aC 49))
 OJ:ff K "law" "law" tF (aC 50) (aM 50)
 WB:Binds K (aM 50) ["_law_script"] []
 WC:mg "law"=some (.ref (aC 50))
 aD:DR K (aC 51)
 yM:mg "Dialect"=some (.ref (aC 51))
 yN:Mk K (aC 51) (aC 7)
 bL:dI K (aC 51) "parts"
 bF:dI K (aC 51) "quotes"
 bE:dI K (aC 51) "frees"
 dU:dI K (aC 51) "twin"
 cX:dI K (aC 51) "wide"
 cY:dI K (aC 51) "thin"
 dD:dI K (aC 51) "stray"
 e7:DR K (aC 52)
 HQ:mg "Turn"=some (.ref (aC 52))
 HR:Mk K (aC 52) (aC 17)
 bA:dI K (aC 52) "dialect"
 dH:DR K (aC 53)
 BU:mg "Couple"=some (.ref (aC 53))
 BV:Mk K (aC 53) (aC 21)
 gb:dI K (aC 53) "first"
 e9:dI K (aC 53) "second"
 dW:dI K (aC 53) "signs"
 iZ:DR K (aC 54)
 Fb:mg "Parting"=some (.ref (aC 54))
 Fc:Mk K (aC 54) (aC 33)
 cZ:dI K (aC 54) "couple"
 tS:∃ds,Vals [V.non] ds/\Binds K (aM 31) ["first","searched","most"] ds
 HS:mg "DialectError"=some (.ref (aC 55))
 HU:Qq K (aC 55) (aC 56) Jp none
 K1:mg "NoDialect"=some (.ref (aC 57))
 K2:Qq K (aC 57) (aC 58) (.ref (aC 55)::Jp) none
 C7:mg "all"=none
 JG:mg "bool"=none
 HV:mg "int"=none
 aT:mg "isinstance"=none
 eH:mg "len"=none
 zZ:mg "list"=none
 L5:mg "ord"=none
 HW:mg "range"=none
 jv:mg "reversed"=none
 wF:mg "str"=none
 i0:mg "tuple"=none
 nL:∃t,mg "LINE"=some (.str (cQ 0) t)
 nM:(cQ 0)=("\n":Str)
 kR:∃t,mg "LETTERS_AND_FIGURES"=some (.str (cQ 1) t)
 kT:(cQ 1)=("abcdefghijklmnopqrstuvwxyzABCDEFGHIJKLMNOPQRSTUVWXYZ0123456789":Str)
 c6:mg "START"=some (.ref (aC 59))
 gK:∃(o:Obj)(its:Array Value)(n:Nat),K.lookup (aC 59)=some o/\o.cls=.type "tuple"/\o.data=.seq its n/\its.size<=sizeLine/\Vals [.str ("row":Str),.str ("":Str)] its.toList
 lF:mg "NOTHING_MORE"=some (.ref (aC 60))
 lG:∃(o:Obj)(its:Array Value)(n:Nat),K.lookup (aC 60)=some o/\o.cls=.type "tuple"/\o.data=.seq its n/\its.size<=sizeLine/\Vals [.ref (aC 61),.ref (aC 62)] its.toList
 i6:∃(o:Obj)(its:Array Value)(n:Nat),K.lookup (aC 61)=some o/\o.cls=.type "tuple"/\o.data=.seq its n/\its.size<=sizeLine/\Vals [] its.toList
 ja:∃(o:Obj)(its:Array Value)(n:Nat),K.lookup (aC 62)=some o/\o.cls=.type "tuple"/\o.data=.seq its n/\its.size<=sizeLine/\Vals [] its.toList
section
variable{P:Program}{w:World}{K:W.Frag}{mg:Str->Option Value}{base:Heap}{aC:Nat->Addr}{aM:Nat->FuncData}{cQ:Nat->Str}
def uF:Sp:=λvs H Q _=>∃c:Nat,vs=[.str (sg c)]/\Pn c/\Q (.bl true) H
section
variable(T:Txt K mg aC aM cQ)
include T
theorem uG:bw P w K mg base fJ 1 (aC 0) (aM 0) ["sign"] uF:=by
 refine T.mV.ok ly (λvs H Q E h=>?_) (λcdv A outer s H vs Q E hr h=>?_)
 ·obtain⟨c,rfl,_⟩:=h;rfl
 ·have hu:=aU hr
  have gH:=hr.aN
  obtain⟨c,rfl,⟨h1,h2,h3⟩,k⟩:=h
  refine⟨_,(ai (eX 1 ly.nd (nE Gg T.L5 (af (pv 0) ah)))
   (ak (az (lU (zB KA (pv 1) ao) (lU (zB NO (pv 1) ao) (oO (zB jj (pv 1) ao))))))),?_⟩
  refine⟨_,O,_,O,O,?_⟩
  refine⟨_,O,_,_,O,O,_,O,Ox (by show(32:Int)<=((c:Nat):Int);omega) ?_⟩
  refine⟨_,O,_,_,O,O,_,O,Ox (by show((c:Nat):Int)<=126;omega) ?_⟩
  refine⟨_,O,O,?_⟩
  have e:¬(V.int ((c:Nat):Int)=V.int 37):=λz=>h3 (by injection z with z;omega)
  have e2:(!decide (V.int ((c:Nat):Int)=V.int 37))=true:=by rw[aas e];rfl
  show Q (.bl (!decide (V.int ((c:Nat):Int)=V.int 37))) H
  rw[e2]
  exact k
def JH:Sp:=λvs H Q _=>∃z:Str,vs=[.str z]/\z.length<=4000/\Q (.str (bK z)) H
theorem Ep:bw P w K mg base fJ 1 (aC 1) (aM 1) ["text"] JH:=by
 refine T.C4.ok vj (λvs H Q E h=>?_) (λcdv A outer s H vs Q E hr h=>?_)
 ·obtain⟨z,rfl,_⟩:=h;rfl
 ·have hu:=aU hr
  have gH:=hr.aN
  obtain⟨z,rfl,OL,k⟩:=h
  have e0:Str.ofString ""=⟨(cj []).toArray⟩:=by decide +kernel
  have e0:([some (V.str z),some (V.str ("":Str)),none]:St)=[some (.str z),some (.str ⟨(cj []).toArray⟩),none]:=by rw[e0]
  refine⟨_,(ai (eX 1 vj.nd aq)
   (ai (fL aaL rfl (kj (pv 0)) (gA 2 vj.nd)
   (ak (aG (bB dZ (pv 2) (pv 1) rfl) (ak (eX 1 vj.nd (aJ bO (pv 1) (pv 2)))) aA)))
   (ak (az (pv 1))))),?_⟩
  refine⟨_,O,_,O,?_⟩
  unfold bK at k
  refine nA (λi σ H2=>H2=H/\∃v,σ=[some (.str z),some (.str ⟨(cj (z.cps.toList.take i)).toArray⟩),v]) ⟨rfl,none,by rw[List.take_zero];exact e0⟩ ?_ ?_
  ·rintro i c σ H2 hi ⟨rfl,v,rfl⟩
   have hl:(cj (z.cps.toList.take i)).length<=4000:=by
    refine aao (rL _) ?_
    rw[aaQ,aam]
    have:z.cps.size<=4000:=OL
    omega
   refine⟨_,O,_,O,_,_,O,O,_,O,?_⟩
   refine aX (λha=>?_) (λha=>?_)
   ·have ha':away ⟨(cj (z.cps.toList.take i)).toArray⟩ c=true:=ha
    refine⟨_,O,_,O,_,_,O,O,?_,O,some (.str (sg c)),?_⟩
    ·refine aao (show _<=4001 from ?_) (by decide)
     show Array.size _+1<=4001
     rw[aap];omega
    ·rw[take_snoc hi,gE]
     unfold dR
     rw[aai ha',←DX]
     rfl
   ·have ha':¬away ⟨(cj (z.cps.toList.take i)).toArray⟩ c=true:=ha
    refine⟨O,some (.str (sg c)),?_⟩
    rw[take_snoc hi,gE]
    unfold dR
    rw[aah ha']
    rfl
  ·rintro σ H2 ⟨rfl,v,rfl⟩
   refine⟨_,O,?_⟩
   rw[aaz (aaj _)]
   exact k
def Fd:Sp:=λvs H Q _=>∃(t:Str)(m:Int),vs=[.str t,.int m]/\0<=m/\m<=3/\∀H',aF H H'->Q (.str (zH t m.toNat)) H'
theorem Fe:bw P w K mg base fJ 1 (aC 2) (aM 2) ["some","many"] Fd:=by
 refine T.BF.ok yF (λvs H Q E h=>?_) (λcdv A outer s H vs Q E hr h=>?_)
 ·obtain⟨t,m,rfl,_⟩:=h;rfl
 ·have hu:=aU hr
  have gH:=hr.aN
  obtain⟨t,m,rfl,hm,hm',k⟩:=h
  have hz:(cQ 1).cps.toList=cV:=by rw[T.kT];rfl
  refine⟨_,(ai (IY (i:=2) rfl yF.nd rfl rfl (show bP ["some","many","free"] (ay p7) ["sign","some"] 1 [0] _ from Ip) (kj (kq rfl T.kR.choose_spec)) (λ_ _ _ _=>(gA 0 (show(["sign","some"]:List Str).Nodup by decide +kernel))) (λ_ _ _ _=>(zo (bB dZ (pv 0) (pv 1) rfl))) (λ_ _ _ _=>(pv 0)))
   (ak (az (ko K rfl PySem.F.plainAttrs_str PySem.F.slot_str_join PySem.F.type_str_join (vC K rfl) aq (af (mj (GH K rfl) (pv 2) pV (pW (pv 1))) ah))))),?_⟩
  refine⟨_,O,λD hD=>?_⟩
  refine vB (λi ys τ H2=>(∃v,τ=[v,some (.str t)])/\aF H H2/\H2 D=some (.lst ys)/\ys=((cV.take i).filter (away t)).map (λc=>V.str (sg c))) ⟨⟨_,rfl⟩,au hD,aj,rfl⟩ (λi ys τ H2 _ p=>p.2.2.1) ?_ ?_
  ·rintro i c ys τ H2 hi ⟨⟨v,rfl⟩,s2,hl,hy⟩
   have hi':cV[i]?=some c:=by rw[←hz];exact hi
   refine⟨_,O,_,O,_,_,O,O,_,O,?_⟩
   have hlen:ys.length<=62:=by
    rw[hy,aaq]
    refine aao (List.length_filter_le _ _) ?_
    rw[aaQ,vK];omega
   refine aX (λhc=>?_) (λhc=>?_)
   ·refine⟨_,O,hl,aaI hlen (by decide),⟨_,O⟩,bf hD s2,aj,?_⟩
    have hc':away t c=true:=hc
    rw[take_snoc hi',List.filter_append,List.filter_cons,aai hc',List.filter_nil,aaO,hy]
    rfl
   ·refine⟨⟨_,O⟩,s2,hl,?_⟩
    have hc':¬away t c=true:=hc
    rw[take_snoc hi',List.filter_append,List.filter_cons,aah hc',List.filter_nil,aaU,hy]
  ·rintro ys τ H2 ⟨⟨v,rfl⟩,s2,hl,hy⟩
   have hy':ys=(cV.filter (away t)).map (λc=>V.str (sg c)):=by
    rw[hy,hz,aaz (aaj _)]
   refine⟨O,_,O,_,O,_,O,D,_,O,bW.of hl,λp hp=>?_⟩
   have e:vv ys none (some m)=(zG t cV m.toNat).map (λc=>V.str (sg c)):=by
    unfold vv zG
    rw[HT.Gm,List.drop_zero,Nat.sub_zero,hy',List.map_take]
    rw[show m=((m.toNat:Nat):Int) by omega,HT.IL]
    rw[abl]
    by_cases hq:m.toNat<=(List.map (λc=>V.str (sg c)) (List.filter (away t) cV)).length
    ·rw[Nat.min_eq_left hq]
    ·rw[Nat.min_eq_right (by omega),aaz (aaj _),aaz (by omega)]
   rw[e]
   refine⟨_,p,(zG t cV m.toNat).map sg,O,O,?_,?_,?_⟩
   ·rw[List.map_map]
    exact bW.of aj
   ·rw[Jw]
    have:=vM t cV m.toNat
    omega
   ·rw[CD]
    exact k _ (s2.trans (au hp))
def z0(K:W.Frag)(C:Addr):Sp:=λvs H Q _=>∃(x dx:Addr)(p q f:Str)(b1 b2 b3 b4:Bool),vs=[.ref x]/\H x=some (.ins C dx (AO p q f b1 b2 b3 b4))/\q.length<=2/\∀(l:Addr)(xs:List V)(H':Hp),H l=none->H' l=some (.lst xs)->Paired (rH K H') xs (cont q.cps.toList)->aF H H'->Q (.ref l) H'
theorem Aa:bw P w K mg base fJ 1 (aC 3) (aM 3) ["dialect"] (z0 K (aC 51)):=by
 refine T.tL.ok kL (λvs H Q E h=>?_) (λcdv A outer s H vs Q E hr h=>?_)
 ·obtain⟨x,dx,p,q,f,b1,b2,b3,b4,rfl,_⟩:=h;rfl
 ·have hu:=aU hr
  have gH:=hr.aN
  obtain⟨x,dx,p,q,f,b1,b2,b3,b4,rfl,hx,hq2,k⟩:=h
  refine⟨_,(ai (eX 1 kL.nd (dO (af (dh rfl T.c6) (af (aB (af aq (af aq ah))) (af (aB (af aq (af aq ah))) (af (aB (af aq (af aq ah))) (af (aB (af aq (af aq ah))) ah)))))))
   (ai (fL aaL rfl (kj (aO K rfl (pv 0) rfl)) (gA 2 kL.nd)
   (ak (j9 (ko K rfl aa4 PySem.F.slot_list_extend PySem.F.type_list_extend EG (pv 1) (af (dO (af (aB (af aq (af (pv 2) ah))) (af (aB (af aq (af (pv 2) ah))) (af (aB (af aq (af (pv 2) ah))) ah)))) ah)))))
   (ak (az (pv 1))))),?_⟩
  refine⟨by decide,λt1 h1=>⟨by decide,λt2 h2=>⟨by decide,λt3 h3=>⟨by decide,λt4 h4=>⟨(by show 5<=sizeLine;decide),λl hl=>?_⟩⟩⟩⟩⟩
  have s1:=au (o:=HO.tup [.str ("cell":Str),.str ("":Str)]) h1
  have s2:=au (o:=HO.tup [.str ("plain":Str),.str ("":Str)]) h2
  have s3:=au (o:=HO.tup [.str ("behind":Str),.str ("":Str)]) h3
  have s4:=au (o:=HO.tup [.str ("freed":Str),.str ("":Str)]) h4
  have s5:=au (o:=HO.lst [.ref (aC 59),.ref t1,.ref t2,.ref t3,.ref t4]) hl
  have p0:Paired (rH K (upd (upd (upd (upd (upd H t1 (.tup [.str ("cell":Str),.str ("":Str)])) t2 (.tup [.str ("plain":Str),.str ("":Str)])) t3 (.tup [.str ("behind":Str),.str ("":Str)])) t4 (.tup [.str ("freed":Str),.str ("":Str)])) l (.lst [.ref (aC 59),.ref t1,.ref t2,.ref t3,.ref t4]))) [.ref (aC 59),.ref t1,.ref t2,.ref t3,.ref t4] (cont []) :=
   Oz (.inr T.gK) (av (((s2.trans s3).trans s4).trans s5) (aK.of aj)) (av ((s3.trans s4).trans s5) (aK.of aj)) (av (s4.trans s5) (aK.of aj)) (av s5 (aK.of aj))
  have sH:=(((s1.trans s2).trans s3).trans s4).trans s5
  have OM:(upd (upd (upd (upd (upd H t1 (.tup [.str ("cell":Str),.str ("":Str)])) t2 (.tup [.str ("plain":Str),.str ("":Str)])) t3 (.tup [.str ("behind":Str),.str ("":Str)])) t4 (.tup [.str ("freed":Str),.str ("":Str)])) l (.lst [.ref (aC 59),.ref t1,.ref t2,.ref t3,.ref t4])) l=some (.lst [.ref (aC 59),.ref t1,.ref t2,.ref t3,.ref t4]):=aj
  have ON:H l=none:=(((s1.trans s2).trans s3).trans s4).free hl
  generalize upd (upd (upd (upd (upd H t1 (.tup [.str ("cell":Str),.str ("":Str)])) t2 (.tup [.str ("plain":Str),.str ("":Str)])) t3 (.tup [.str ("behind":Str),.str ("":Str)])) t4 (.tup [.str ("freed":Str),.str ("":Str)])) l (.lst [.ref (aC 59),.ref t1,.ref t2,.ref t3,.ref t4])=H5 at p0 sH OM⊢
  refine⟨_,O,x,(aC 51),dx,_,_,O,sH _ _ hx,T.aD,T.bF,O,q,O,?_⟩
  refine nA (λi σ H2=>(∃v,σ=[some (.ref x),some (.ref l),v])/\aF H H2/\∃xs,H2 l=some (.lst xs)/\Paired (rH K H2) xs (cont (q.cps.toList.take i))) ⟨⟨_,rfl⟩,sH,_,OM,p0⟩ ?_ ?_
  ·rintro i c σ H2 hi ⟨⟨v,rfl⟩,s2,xs,hxs,hp⟩
   have hi2:i<2:=by
    have:=(aal.mp hi).1
    rw[aam]at this
    exact aaG this hq2
   refine⟨_,O,.inl ⟨O,_,bW.of hxs⟩,_,O,(by show 2<=sizeLine;decide),λu1 g1=>⟨_,O,(by show 2<=sizeLine;decide),λu2 g2=>⟨_,O,(by show 2<=sizeLine;decide),λu3 g3=>⟨(by show 3<=sizeLine;decide),λm hm=>?_⟩⟩⟩⟩
   have z1:=au (o:=HO.tup [.str ("within":Str),.str (sg c)]) g1
   have z2:=au (o:=HO.tup [.str ("doubt":Str),.str (sg c)]) g2
   have z3:=au (o:=HO.tup [.str ("freed":Str),.str (sg c)]) g3
   have z4:=au (o:=HO.lst [.ref u1,.ref u2,.ref u3]) hm
   have zz:=((z1.trans z2).trans z3).trans z4
   have hlen:xs.length<=20:=by
    rw[hp.length,Ho,aaQ];omega
   refine⟨l,m,xs,_,O,O,zz _ _ hxs,aj,?_,⟨_,O⟩,?_,_,aj,?_⟩
   ·exact aao (show xs.length+3<=23 by omega) (by decide)
   ·exact bf ON (s2.trans zz)
   ·rw[take_snoc hi,EZ]
    refine aW (λa b h=>rH.but (zz _ _ hxs) h) (bU (aW (λa b h=>h.mono zz) hp) ?_)
    exact OA (av ((z2.trans z3).trans z4) (aK.of aj)) (av (z3.trans z4) (aK.of aj)) (av z4 (aK.of aj))
  ·rintro σ H2 ⟨⟨v,rfl⟩,s2,xs,hxs,hp⟩
   rw[aaz (aaj _)]at hp
   exact⟨_,O,k l xs H2 ON hxs hp s2⟩
def C8(K:W.Frag)(C:Addr):Sp:=λvs H Q _=>∃(x dx s:Addr)(w u:Str)(p q f:Str)(b1 b2 b3 b4:Bool),vs=[.ref x,.ref s]/\H x=some (.ins C dx (AO p q f b1 b2 b3 b4))/\aK K H s [.str w,.str u]/\Q (.bl (dz f w u)) H
theorem wG:bw P w K mg base fJ 1 (aC 4) (aM 4) ["dialect","state"] (C8 K (aC 51)):=by
 refine T.nK.ok C1 (λvs H Q E h=>?_) (λcdv A outer s H vs Q E hr h=>?_)
 ·obtain⟨x,dx,s,w,u,p,q,f,b1,b2,b3,b4,rfl,_⟩:=h;rfl
 ·have hu:=aU hr
  have gH:=hr.aN
  obtain⟨x,dx,s,w,u,p,q,f,b1,b2,b3,b4,rfl,hx,hs,k⟩:=h
  unfold dz at k
  refine⟨_,(ai (aG (PW.pt (cN (cJ aR (cg K (pv 1) ao) aq) (cI (cJ aR (cg K (pv 1) ao) aq)))) (ak (az gm)) aA)
   (ak (az (vd dZ (cg K (pv 1) ao) (aO K rfl (pv 0) rfl) rfl)))),?_⟩
  refine⟨_,O,s,_,_,_,O,O,hs,O,O,_,O,aX (λ(h1:bh u ("":Str)=true)=>jO ?_) (λ(h1:¬bh u ("":Str)=true)=>?_)⟩
  ·rw[aai h1]at k
   exact k
  rw[aah h1]at k
  refine⟨_,O,s,_,_,_,O,O,hs,O,O,_,O,aX (λ(h2:bh w ("doubt":Str)=true)=>?_) (λ(h2:¬bh w ("doubt":Str)=true)=>?_)⟩
  ·rw[aai h2]at k
   exact k
  rw[aah h2]at k
  exact⟨_,O,s,_,_,_,O,O,hs,O,_,O,x,(aC 51),dx,_,_,O,hx,T.aD,T.bE,O,_,_,O,O,k⟩
def sq(K:W.Frag)(C:Addr):Sp:=λvs H Q _=>∃(y dy s:Addr)(w u:Str)(x:eF),vs=[.ref y,.ref s]/\H y=some (.ins C dy (jV x))/\tG x/\aK K H s [.str w,.str u]/\jU x.2.1 w u/\dz x.2.2.1 w u=true/\∀H',aF H H'->Q (.bl true) H'
theorem sr:bw P w K mg base fJ 2 (aC 5) (aM 5) ["dialect","thing"] (sq K (aC 51)):=by
 have nN:=@wG P w K mg base aC aM cQ T
 have BW:=@Aa P w K mg base aC aM cQ T
 refine T.gW.ok rT (λvs H Q E h=>?_) (λcdv A outer s H vs Q E hr h=>?_)
 ·obtain⟨y,dy,s,w,u,x,rfl,_⟩:=h;rfl
 ·have hu:=aU hr
  have gH:=hr.aN
  obtain⟨y,dy,s,w,u,x,rfl,hy,g,hs,hst,M8,k⟩:=h
  have eg:=hr.units
  have hq2:=g.q2
  refine⟨_,(ai (aG (PW.pt (cN (bG (aY (nE (iA K rfl) T.aT (af (pv 1) (af (Ec "tuple" T.i0) ah))))) (cI (cJ jj (nE (bz K rfl) T.eH (af (pv 1) ah)) ao)))) (ak (az gm)) aA)
   (ai (aG (PW.pt (cN (bG (aY (nE (bQ K rfl) T.aT (af (cg K (pv 1) ao) (af (Ec "str" T.wF) ah))))) (cI (bG (aY (nE (bQ K rfl) T.aT (af (cg K (pv 1) ao) (af (Ec "str" T.wF) ah)))))))) (ak (az gm)) aA)
   (ak (az (lU (vd (LH K rfl eg) (pv 1) (fR BW hr T.BH T.tL.kp T.BG (af (pv 0) ah)) rfl) (oO (fR nN hr T.rZ T.nK.kp T.rY (af (pv 0) (af (pv 1) ah))))))))),?_⟩
  refine⟨_,O,_,_,_,_,O,.Oo hs,O,_,O,bM ?_⟩
  refine⟨_,O,_,_,O,.inr hs,O,_,O,Oh (by simp) (⟨_,O,_,_,_,_,O,O,hs,O,_,_,_,_,O,.str _,.inl ⟨_,⟨O,O⟩⟩,_,O,bM (⟨_,O,_,_,_,_,O,O,hs,O,_,_,_,_,O,.str _,.inl ⟨_,⟨O,O⟩⟩,_,O,bM (⟨_,O,_,O,_,_,_,_,_,_,_,_,_,O,hy,(by omega),λl xs H1 ON hl prs s1=>?_⟩)⟩)⟩)⟩
  obtain⟨i,hi⟩:=abB (Jx hst)
  obtain⟨e,he,a,rfl,ha⟩:=mR prs i _ hi
  refine⟨s,l,_,xs,O,O,av s1 hs,O,bW.of hl,λw' YD=>?_,λr hr'=>?_⟩
  ·obtain⟨j,hj⟩:=abB YD
   obtain⟨⟨k1,k2⟩,_,a',rfl,ha'⟩:=bV prs j w' hj
   exact⟨a',_,O,ha',O⟩
  have YE:r=true:=hr'.mpr ⟨_,aaJ he,a,_,rfl,ha,by show(zf (.str w) (.str w)&&(zf (.str u) (.str u)&&true))=true;rw[vE rfl,vE rfl];rfl⟩
  subst YE
  refine⟨_,O,jO ⟨_,O,_,O,y,dy,s,w,u,_,_,_,_,_,_,_,O,s1 _ _ hy,av s1 hs,?_⟩⟩
  rw[M8]
  exact k _ s1
def nV:Sp:=λvs H Q _=>∃(z:Str)(lo hi:Int),vs=[.str z,.int lo,.int hi]/\Sg z/\lo<=z.length/\(z.length:Int)<=hi/\z.length<=1000/\∀H',aF H H'->Q (.bl true) H'
theorem nW:bw P w K mg base fJ 2 (aC 6) (aM 6) ["thing","least","most"] nV:=by
 have wH:=@uG P w K mg base aC aM cQ T
 refine T.dj.ok nR (λvs H Q E h=>?_) (λcdv A outer s H vs Q E hr h=>?_)
 ·obtain⟨z,lo,hi,rfl,_⟩:=h;rfl
 ·have hu:=aU hr
  have gH:=hr.aN
  obtain⟨z,lo,hi,rfl,g,hlo,hhi,hz,k⟩:=h
  have Qy:z.length<=sizeLine:=aao hz (by decide)
  refine⟨_,(ai (aG (PW.pt (cN (bG (aY (nE (bQ K rfl) T.aT (af (pv 0) (af (Ec "str" T.wF) ah))))) (cN (cJ Ge (nE fO T.eH (af (pv 0) ah)) (pv 1)) (cI (cJ Kz (nE fO T.eH (af (pv 0) ah)) (pv 2)))))) (ak (az gm)) aA)
   (ak (az (nE (qZ K rfl rfl) T.C7 (af (iy rfl (show bP ["thing","least","most"] (ay di) ["sign","thing"] 1 [0] _ from Ip) (kj (pv 0)) (λ_ _ _ _=>(gA 0 (show(["sign","thing"]:List Str).Nodup by decide +kernel))) (λ_ _ _ _=>ki) (λ_ _ _ _=>(lU (fR wH hr T.wm T.mV.kp T.wk (af (pv 0) ah)) (oO (zB aR (ko K rfl PySem.F.plainAttrs_str PySem.F.slot_str_count PySem.F.type_str_count GK (pv 1) (af (pv 0) ah)) ao))))) ah))))),?_⟩
  refine⟨_,O,_,_,_,true,O,.str _,.inl ⟨_,O,O⟩,true,O,bM ?_⟩
  refine⟨_,O,z,O,Qy,_,O,_,_,O,O,_,O,KY (by omega) ?_⟩
  refine⟨_,O,z,O,Qy,_,O,_,_,O,O,_,O,KY (by omega) ?_⟩
  refine⟨_,O,z,O,λD hD=>?_⟩
  have hsz:z.cps.toList.length=z.length:=by rw[aam];rfl
  refine vB (λi ys τ H2=>(∃v,τ=[v,some (.str z)])/\aF H H2/\H2 D=some (.lst ys)/\ys=(List.replicate i true).map V.bl) ⟨⟨_,rfl⟩,au hD,aj,rfl⟩ (λi ys τ H2 _ p=>p.2.2.1) ?_ ?_
  ·rintro i c ys τ H2 hi ⟨⟨v,rfl⟩,s2,hl,rfl⟩
   have hc:c∈z.cps.toList:=aaJ hi
   have hil:i<z.cps.toList.length:=(aal.mp hi).1
   refine CQ ?_
   refine⟨_,O,c,O,g.pr c hc,true,O,jO ?_⟩
   refine⟨_,O,O,_,O,z,c,O,O,O,?_⟩
   have e:decide (V.int (PyProof.Rows.cnt c z.cps.toList)=V.int 1)=true:=by rw[D3 g.nd hc];exact aar rfl
   rw[e]
   refine⟨hl,?_,⟨_,O⟩,bf hD s2,aj,?_⟩
   ·rw[aaq,abg]
    exact aaG (show i<1001 by omega) (by decide)
   ·rw[List.replicate_succ',aaO];rfl
  ·rintro ys τ H2 ⟨⟨v,rfl⟩,s2,hl,rfl⟩
   refine⟨D,List.replicate _ true,O,bW.of hl,?_⟩
   have e:(List.replicate z.cps.toList.length true).all id=true:=by
    rw[abf]
    intro b hb
    exact(List.mem_replicate.mp hb).2
   rw[e]
   exact k H2 s2
def nX(C:Addr):Sp:=λvs H Q _=>∃(x dx:Addr)(p q f:Str)(b1 b2 b3 b4:Bool),vs=.ref x::jR p q f b1 b2 b3 b4/\H x=some (.ins C dx [])/\Gd p q f/\∀H',H' x=some (.ins C dx (AO p q f b1 b2 b3 b4))->(∀b o,H b=some o->b≠x->H' b=some o)->Q .non H'
theorem ig:bw P w K mg base fJ 3 (aC 7) (aM 7) ["self","parts","quotes","frees","twin","wide","thin","stray"] (nX (aC 51)):=by
 have fB:=@nW P w K mg base aC aM cQ T
 refine T.o8.ok ic (λvs H Q E h=>?_) (λcdv A outer s H vs Q E hr h=>?_)
 ·obtain⟨x,dx,p,q,f,b1,b2,b3,b4,rfl,_⟩:=h;rfl
 ·have hu:=aU hr
  have gH:=hr.aN
  obtain⟨x,dx,p,q,f,b1,b2,b3,b4,rfl,hx,g,k⟩:=h
  have hp1:=g.p1;have hp3:=g.p3;have hq2:=g.q2;have hf2:=g.f2
  refine⟨_,(ai (aG (bG (aY (fR fB hr T.fz T.dj.kp T.fu (af (pv 1) (af ao (af ao ah)))))) (ak lX) aA)
   (ai (aG (bG (aY (fR fB hr T.fz T.dj.kp T.fu (af (pv 2) (af ao (af ao ah)))))) (ak lX) aA)
   (ai (aG (bG (aY (fR fB hr T.fz T.dj.kp T.fu (af (pv 3) (af ao (af ao ah)))))) (ak lX) aA)
   (ai (fL aaL rfl (zp K rfl (aB (af (pv 4) (af (pv 5) (af (pv 6) (af (pv 7) ah)))))) (gA 8 ic.nd)
   (ak (aG (bG (aY (nE (bQ K rfl) T.aT (af (pv 8) (af (Ec "bool" T.JG) ah))))) (ak lX) aA)))
   (ai (gM (pv 0) (pv 1) rfl)
   (ai (gM (pv 0) (pv 2) rfl)
   (ai (gM (pv 0) (pv 3) rfl)
   (ai (gM (pv 0) (pv 4) rfl)
   (ai (gM (pv 0) (pv 5) rfl)
   (ai (gM (pv 0) (pv 6) rfl)
   (ak (gM (pv 0) (pv 7) rfl)))))))))))),?_⟩
  refine⟨_,O,p,1,3,O,g.gp,by omega,by omega,by omega,λH1 s1=>⟨true,O,bM ?_⟩⟩
  refine⟨_,O,q,0,2,O,g.gq,by omega,by omega,by omega,λH2 s2=>⟨true,O,bM ?_⟩⟩
  refine⟨_,O,f,0,2,O,g.gf,by omega,by omega,by omega,λH3 s3=>⟨true,O,bM ?_⟩⟩
  refine⟨_,O,_,O,_,O,_,O,(by show 4<=sizeLine;decide),λt ht=>⟨t,O,⟨_,aK.of aj⟩,?_⟩⟩
  have K3:aF H (upd H3 t (.tup [.bl b1,.bl b2,.bl b3,.bl b4])):=((s1.trans s2).trans s3).trans (au ht)
  have Ff:(upd H3 t (.tup [.bl b1,.bl b2,.bl b3,.bl b4])) t=some (.tup [.bl b1,.bl b2,.bl b3,.bl b4]):=aj
  generalize upd H3 t (.tup [.bl b1,.bl b2,.bl b3,.bl b4])=H4 at K3 Ff⊢
  refine DN (K:=K) (a:=t) (xs:=[.bl b1,.bl b2,.bl b3,.bl b4]) (λi σ H5=>H5=H4/\∃v,σ=[some (.ref x),some (.str p),some (.str q),some (.str f),some (.bl b1),some (.bl b2),some (.bl b3),some (.bl b4),v]) ⟨rfl,_,rfl⟩ (λi σ H5 _ q=>by rw[q.1];exact aK.of Ff) ?_ ?_
  ·rintro i y σ H5 hi ⟨rfl,v,rfl⟩
   obtain⟨b,rfl⟩:∃b,y=V.bl b:=by
    have YF:i<4:=(aal.mp hi).1
    match i,YF,hi with
    | 0,_,hi=>exact⟨_,(aaC hi).symm⟩
    | 1,_,hi=>exact⟨_,(aaC hi).symm⟩
    | 2,_,hi=>exact⟨_,(aaC hi).symm⟩
    | 3,_,hi=>exact⟨_,(aaC hi).symm⟩
   refine⟨_,O,_,_,_,true,O,.bl _,.inl ⟨_,O,O⟩,true,O,bM ?_⟩
   exact⟨O,_,O⟩
  ·rintro σ H5 ⟨rfl,v,rfl⟩
   have YG:=K3 _ _ hx
   refine⟨_,O,_,O,x,(aC 51),dx,_,O,YG,T.aD,T.bL,(by show 0<1000;decide),_,O,_,O,x,(aC 51),dx,_,O,aj,T.aD,T.bF,(by show 1<1000;decide),_,O,_,O,x,(aC 51),dx,_,O,aj,T.aD,T.bE,(by show 2<1000;decide),_,O,_,O,x,(aC 51),dx,_,O,aj,T.aD,T.dU,(by show 3<1000;decide),_,O,_,O,x,(aC 51),dx,_,O,aj,T.aD,T.cX,(by show 4<1000;decide),_,O,_,O,x,(aC 51),dx,_,O,aj,T.aD,T.cY,(by show 5<1000;decide),_,O,_,O,x,(aC 51),dx,_,O,aj,T.aD,T.dD,(by show 6<1000;decide),?_⟩
   refine k _ aj λb o e hb=>?_
   rw[aH hb,aH hb,aH hb,aH hb,aH hb,aH hb,aH hb]
   exact K3 _ _ e
def uH(C:Addr):Sp:=λvs H Q _=>∃(x dx:Addr)(p q f:Str)(b1 b2 b3 b4:Bool),vs=[.ref x]/\H x=some (.ins C dx (AO p q f b1 b2 b3 b4))/\∀t,H t=none->Q (.ref t) (upd H t (.tup (jR p q f b1 b2 b3 b4)))
theorem uI:bw P w K mg base fJ 1 (aC 8) (aM 8) ["self"] (uH (aC 51)):=by
 refine T.wo.ok uo (λvs H Q E h=>?_) (λcdv A outer s H vs Q E hr h=>?_)
 ·obtain⟨x,dx,p,q,f,b1,b2,b3,b4,rfl,_⟩:=h;rfl
 ·have hu:=aU hr
  have gH:=hr.aN
  obtain⟨x,dx,p,q,f,b1,b2,b3,b4,rfl,hx,k⟩:=h
  refine⟨_,(ak (az (aB (af (aO K rfl (pv 0) rfl) (af (aO K rfl (pv 0) rfl) (af (aO K rfl (pv 0) rfl) (af (aO K rfl (pv 0) rfl) (af (aO K rfl (pv 0) rfl) (af (aO K rfl (pv 0) rfl) (af (aO K rfl (pv 0) rfl) ah)))))))))),?_⟩
  refine⟨_,O,x,(aC 51),dx,_,_,O,hx,T.aD,T.bL,O,_,O,x,(aC 51),dx,_,_,O,hx,T.aD,T.bF,O,_,O,x,(aC 51),dx,_,_,O,hx,T.aD,T.bE,O,_,O,x,(aC 51),dx,_,_,O,hx,T.aD,T.dU,O,_,O,x,(aC 51),dx,_,_,O,hx,T.aD,T.cX,O,_,O,x,(aC 51),dx,_,_,O,hx,T.aD,T.cY,O,_,O,x,(aC 51),dx,_,_,O,hx,T.aD,T.dD,O,(by show 7<=sizeLine;decide),λt ht=>?_⟩
  exact k t ht
def pF(C:Addr):Sp:=λvs H Q _=>∃(x dx:Addr)(p q f:Str)(b1 b2 b3 b4:Bool),vs=[.ref x]/\H x=some (.ins C dx (AO p q f b1 b2 b3 b4))/\Gd p q f/\Q (.str (bK ((p++q)++f))) H
theorem pG:bw P w K mg base fJ 2 (aC 9) (aM 9) ["self"] (pF (aC 51)):=by
 have C9:=@Ep P w K mg base aC aM cQ T
 refine T.ql.ok o4 (λvs H Q E h=>?_) (λcdv A outer s H vs Q E hr h=>?_)
 ·obtain⟨x,dx,p,q,f,b1,b2,b3,b4,rfl,_⟩:=h;rfl
 ·have hu:=aU hr
  have gH:=hr.aN
  obtain⟨x,dx,p,q,f,b1,b2,b3,b4,rfl,hx,g,k⟩:=h
  have hp3:=g.p3;have hq2:=g.q2;have hf2:=g.f2
  refine⟨_,(ak (az (fR C9 hr T.HL T.C4.kp T.HK (af (aJ bO (aJ bO (aO K rfl (pv 0) rfl) (aO K rfl (pv 0) rfl)) (aO K rfl (pv 0) rfl)) ah)))),?_⟩
  refine⟨_,O,x,(aC 51),dx,_,_,O,hx,T.aD,T.bL,O,_,O,x,(aC 51),dx,_,_,O,hx,T.aD,T.bF,O,_,_,O,O,aao (show p.length+q.length<=5 by omega) (by decide),_,O,x,(aC 51),dx,_,_,O,hx,T.aD,T.bE,O,_,_,O,O,?_,_,O,?_,k⟩
  ·rw[bS];exact aao (show p.length+q.length+f.length<=7 by omega) (by decide)
  ·rw[bS,bS];omega
def xC(C:Addr):Sp:=λvs H Q _=>∃(t:Addr)(p q f:Str)(b1 b2 b3 b4:Bool),vs=[.ref t]/\H t=some (.tup (jR p q f b1 b2 b3 b4))/\Gd p q f/\∀(x dx:Addr)(H':Hp),H x=none->H' x=some (.ins C dx (AO p q f b1 b2 b3 b4))->aF H H'->Q (.ref x) H'
theorem xD:bw P w K mg base fJ 5 (aC 10) (aM 10) ["told"] (xC (aC 51)):=by
 have fD:=@ig P w K mg base aC aM cQ T
 refine T.qp.ok xr (λvs H Q E h=>?_) (λcdv A outer s H vs Q E hr h=>?_)
 ·obtain⟨t,p,q,f,b1,b2,b3,b4,rfl,_⟩:=h;rfl
 ·have hu:=aU hr
  have gH:=hr.aN
  obtain⟨t,p,q,f,b1,b2,b3,b4,rfl,ht,g,k⟩:=h
  have hS:aK K H t (jR p q f b1 b2 b3 b4):=aK.of ht
  refine⟨_,(ai (aG (PW.pt (cN (bG (aY (nE (A3 K rfl) T.aT (af (pv 0) (af (Ec "tuple" T.i0) ah))))) (cI (cJ jj (nE (bz K rfl) T.eH (af (pv 0) ah)) ao)))) (ak lX) aA)
   (ak (az (kh (k:=3) T.yN fD (hr.mono (by decide)) rfl T.yM T.iX .nil fE (af (cg K (pv 0) ao) (af (cg K (pv 0) ao) (af (cg K (pv 0) ao) (af (cg K (pv 0) ao) (af (cg K (pv 0) ao) (af (cg K (pv 0) ao) (af (cg K (pv 0) ao) ah))))))))))),?_⟩
  refine⟨_,O,t,_,_,true,O,.inl ⟨hS,O⟩,true,O,bM ?_⟩
  refine⟨_,O,t,_,O,.inr hS,O,_,O,N6 rfl ?_⟩
  refine⟨_,O,t,_,_,_,O,O,hS,O,_,O,t,_,_,_,O,O,hS,O,_,O,t,_,_,_,O,O,hS,O,_,O,t,_,_,_,O,O,hS,O,_,O,t,_,_,_,O,O,hS,O,_,O,t,_,_,_,O,O,hS,O,_,O,t,_,_,_,O,O,hS,O,λx dx hx hdx ne=>?_⟩
  refine⟨x,dx,p,q,f,b1,b2,b3,b4,O,aj,g,λH2 h2 kp=>⟨O,k x dx H2 hx h2 λb o e=>kp b o ?_ (aV e hx)⟩⟩
  rw[aH (aV e hx),aH (aV e hdx)]
  exact e
def m9(K:W.Frag)(C:Addr):Sp:=λvs H Q _=>∃(x dx:Addr)(p q f:Str)(b1 b2 b3 b4:Bool)(s:Addr)(w u:Str)(c:Nat),vs=[.ref x,.ref s,.str (sg c)]/\H x=some (.ins C dx (AO p q f b1 b2 b3 b4))/\aK K H s [.str w,.str u]/\∀v H',aF H H'->uh K H' v (cK p q f b3 w u c)->Q v H'
theorem nc:bw P w K mg base fJ 1 (aC 11) (aM 11) ["dialect","state","sign"] (m9 K (aC 51)):=by
 refine T.ie.ok mT (λvs H Q E h=>?_) (λcdv A outer s H vs Q E hr h=>?_)
 ·obtain⟨x,dx,p,q,f,b1,b2,b3,b4,s,w,u,c,rfl,_⟩:=h;rfl
 ·have hu:=aU hr
  have gH:=hr.aN
  obtain⟨x,dx,p,q,f,b1,b2,b3,b4,s,w,u,c,rfl,hx,hs,k⟩:=h
  refine'⟨_,?aa,?bb⟩
  case aa =>
   refine' ai ?s0 ?r0
   case s0 =>
    refine' aG ?c1 ?b1 ?e1
    case c1=>exact(bB bN (pv 2) (aO K rfl (pv 0) rfl) rfl)
    case b1 =>
     refine' ak ?s2
     case s2 =>
      refine' az ?v3
      case v3 =>
       refine' aB ?a4
       case a4 =>
        refine' af ?x5 ?y5 ?z5
        case z5=>exact rfl
        case x5 =>
         exact aq
        case y5 =>
         refine' af ?x6 ?y6 ?z6
         case z6=>exact rfl
         case x6 =>
          refine' aB ?a7
          case a7 =>
           refine' af ?x8 ?y8 ?z8
           case z8=>exact rfl
           case x8 =>
            exact aq
           case y8 =>
            refine' af ?x9 ?y9 ?z9
            case z9=>exact rfl
            case x9 =>
             exact aq
            case y9 =>
             exact ah
         case y6 =>
          exact ah
    case e1 =>
     exact aA
   case r0 =>
    refine' ai ?EK ?OO
    case EK =>
     refine' aG ?OP ?L6 ?OQ
     case OP=>exact(cJ aR (pv 2) (kq rfl T.nL.choose_spec))
     case L6 =>
      refine' ak ?s12
      case s12 =>
       refine' az ?OR
       case OR =>
        refine' aB ?JI
        case JI =>
         refine' af ?L7 ?L8 ?Ma
         case Ma=>exact rfl
         case L7 =>
          exact aq
         case L8 =>
          refine' af ?JJ ?JK ?JL
          case JL=>exact rfl
          case JJ =>
           exact(dh rfl T.c6)
          case JK =>
           exact ah
     case OQ =>
      exact aA
    case OO =>
     refine' ai ?Mb ?Mc
     case Mb =>
      refine' aG ?Me ?JM ?Mf
      case Me=>exact(bB bN (pv 2) (aO K rfl (pv 0) rfl) rfl)
      case JM =>
       refine' ak ?Mg
       case Mg =>
        refine' az ?v20
        case v20 =>
         refine' aB ?JN
         case JN =>
          refine' af ?Mh ?Mi ?Mj
          case Mj=>exact rfl
          case Mh =>
           exact aq
          case Mi =>
           refine' af ?JO ?JP ?JQ
           case JQ=>exact rfl
           case JO =>
            refine' aB ?JR
            case JR =>
             refine' af ?Ml ?Mm ?Mp
             case Mp=>exact rfl
             case Ml =>
              exact aq
             case Mm =>
              refine' af ?JS ?JT ?JU
              case JU=>exact rfl
              case JS =>
               exact(pv 2)
              case JT =>
               exact ah
           case JP =>
            exact ah
      case Mf =>
       exact aA
     case Mc =>
      refine' ai ?OS ?RS
      case OS =>
       refine' aG ?RT ?OT ?RU
       case RT=>exact(bB bN (pv 2) (aO K rfl (pv 0) rfl) rfl)
       case OT =>
        refine' ak ?RV
        case RV =>
         refine' az ?v30
         case v30 =>
          refine' aB ?OU
          case OU =>
           refine' af ?RW ?RX ?RY
           case RY=>exact rfl
           case RW =>
            exact aq
           case RX =>
            refine' af ?RZ ?R0 ?R1
            case R1=>exact rfl
            case RZ =>
             refine' aB ?R3
             case R3 =>
              refine' af ?YH ?YI ?YJ
              case YJ=>exact rfl
              case YH =>
               exact aq
              case YI =>
               refine' af ?OV ?OW ?OX
               case OX=>exact rfl
               case OV =>
                exact aq
               case OW =>
                exact ah
            case R0 =>
             exact ah
       case RU =>
        exact aA
      case RS =>
       refine' ai ?FF ?YK
       case FF =>
        refine' aG ?YN ?R4 ?YO
        case YN=>exact(PW.pt (cS (cJ aR (pv 2) aq) (cC (aY (aO K rfl (pv 0) rfl)))))
        case R4 =>
         refine' ak ?YQ
         case YQ =>
          refine' az ?YR
          case YR =>
           refine' aB ?R5
           case R5 =>
            refine' af ?R6 ?R7 ?R8
            case R8=>exact rfl
            case R6 =>
             exact aq
            case R7 =>
             refine' af ?YS ?YT ?YU
             case YU=>exact rfl
             case YS =>
              exact(pv 1)
             case YT =>
              exact ah
        case YO =>
         exact aA
       case YK =>
        refine' ak ?YV
        case YV =>
         refine' az ?YW
         case YW =>
          refine' aB ?R9
          case R9 =>
           refine' af ?Sa ?Sb ?Sd
           case Sd=>exact rfl
           case Sa =>
            exact aq
           case Sb =>
            refine' af ?YX ?YY ?YZ
            case YZ=>exact rfl
            case YX =>
             refine' aB ?OY
             case OY =>
              refine' af ?Se ?Sf ?Sh
              case Sh=>exact rfl
              case Se =>
               exact aq
              case Sf =>
               refine' af ?Si ?Sj ?Sk
               case Sk=>exact rfl
               case Si =>
                exact aq
               case Sj =>
                exact ah
            case YY =>
             exact ah
  have e2:bh (sg c) (cQ 0)=bh (sg c) (Str.ofString "\n"):=by rw[T.nM]
  refine⟨_,O,_,O,x,(aC 51),dx,_,_,O,hx,T.aD,T.bE,O,_,_,O,O,_,O,aX (λ(h1:gj c f=true)=>?_) (λ(h1:¬gj c f=true)=>?_)⟩
  ·exact bI (by unfold cK;rw[aai h1]) cF k
  refine⟨_,O,O,_,O,aX (λ(h2:bh (sg c) (cQ 0)=true)=>?_) (λ(h2:¬bh (sg c) (cQ 0)=true)=>?_)⟩
  ·rw[e2]at h2
   exact gC (by unfold cK;rw[aah h1,aai h2]) oX (aF.refl _) (.inr T.gK) k
  rw[e2]at h2
  refine⟨_,O,_,O,x,(aC 51),dx,_,_,O,hx,T.aD,T.bF,O,_,_,O,O,_,O,aX (λ(h3:gj c q=true)=>?_) (λ(h3:¬gj c q=true)=>?_)⟩
  ·exact⟨_,O,bI (by unfold cK;rw[aah h1,aah h2,aai h3]) cF k⟩
  refine⟨_,O,_,O,x,(aC 51),dx,_,_,O,hx,T.aD,T.bL,O,_,_,O,O,_,O,aX (λ(h4:gj c p=true)=>?_) (λ(h4:¬gj c p=true)=>?_)⟩
  ·exact bI (by unfold cK;rw[aah h1,aah h2,aah h3,aai h4]) kJ k
  refine⟨_,O,O,_,O,aX (λ(h5:bh (sg c) (" ":Str)=true)=>?_) (λ(h5:¬bh (sg c) (" ":Str)=true)=>?_)⟩
  ·refine⟨_,O,x,(aC 51),dx,_,_,O,hx,T.aD,T.cY,O,_,O,aX (λ(h6:b3=true)=>?_) (λ(h6:¬b3=true)=>?_)⟩
   ·exact⟨_,O,gC (by unfold cK;rw[aah h1,aah h2,aah h3,aah h4,aai h5,aai h6]) cF (aF.refl _) hs k⟩
   exact bI (by unfold cK;rw[aah h1,aah h2,aah h3,aah h4,aai h5,aah h6]) cA k
  refine bM ?_
  exact bI (by unfold cK;rw[aah h1,aah h2,aah h3,aah h4,aah h5]) cA k
def su(K:W.Frag)(C:Addr):Sp:=λvs H Q _=>∃(x dx:Addr)(p q f:Str)(b1 b2 b3 b4:Bool)(c:Nat),vs=[.ref x,.str (sg c)]/\H x=some (.ins C dx (AO p q f b1 b2 b3 b4))/\∀v H',aF H H'->uh K H' v (cT p q f b4 c)->Q v H'
theorem sy:bw P w K mg base fJ 1 (aC 12) (aM 12) ["dialect","sign"] (su K (aC 51)):=by
 refine T.lB.ok rU (λvs H Q E h=>?_) (λcdv A outer s H vs Q E hr h=>?_)
 ·obtain⟨x,dx,p,q,f,b1,b2,b3,b4,c,rfl,_⟩:=h;rfl
 ·have hu:=aU hr
  have gH:=hr.aN
  obtain⟨x,dx,p,q,f,b1,b2,b3,b4,c,rfl,hx,k⟩:=h
  refine'⟨_,?aa,?bb⟩
  case aa =>
   refine' ai ?s0 ?r0
   case s0 =>
    refine' aG ?c1 ?b1 ?e1
    case c1=>exact(bB bN (pv 1) (aO K rfl (pv 0) rfl) rfl)
    case b1 =>
     refine' ak ?s2
     case s2 =>
      refine' az ?v3
      case v3 =>
       refine' aB ?a4
       case a4 =>
        refine' af ?x5 ?y5 ?z5
        case z5=>exact rfl
        case x5 =>
         exact aq
        case y5 =>
         refine' af ?x6 ?y6 ?z6
         case z6=>exact rfl
         case x6 =>
          refine' aB ?a7
          case a7 =>
           refine' af ?x8 ?y8 ?z8
           case z8=>exact rfl
           case x8 =>
            exact aq
           case y8 =>
            refine' af ?x9 ?y9 ?z9
            case z9=>exact rfl
            case x9 =>
             exact aq
            case y9 =>
             exact ah
         case y6 =>
          exact ah
    case e1 =>
     exact aA
   case r0 =>
    refine' ai ?EK ?OO
    case EK =>
     refine' aG ?OP ?L6 ?OQ
     case OP=>exact(cJ aR (pv 1) (kq rfl T.nL.choose_spec))
     case L6 =>
      refine' ak ?s12
      case s12 =>
       refine' az ?OR
       case OR =>
        refine' aB ?JI
        case JI =>
         refine' af ?L7 ?L8 ?Ma
         case Ma=>exact rfl
         case L7 =>
          exact aq
         case L8 =>
          refine' af ?JJ ?JK ?JL
          case JL=>exact rfl
          case JJ =>
           exact(dh rfl T.c6)
          case JK =>
           exact ah
     case OQ =>
      exact aA
    case OO =>
     refine' ai ?Mb ?Mc
     case Mb =>
      refine' aG ?Me ?JM ?Mf
      case Me=>exact(bB bN (pv 1) (aO K rfl (pv 0) rfl) rfl)
      case JM =>
       refine' ak ?Mg
       case Mg =>
        refine' az ?v20
        case v20 =>
         refine' aB ?JN
         case JN =>
          refine' af ?Mh ?Mi ?Mj
          case Mj=>exact rfl
          case Mh =>
           exact aq
          case Mi =>
           refine' af ?JO ?JP ?JQ
           case JQ=>exact rfl
           case JO =>
            refine' aB ?JR
            case JR =>
             refine' af ?Ml ?Mm ?Mp
             case Mp=>exact rfl
             case Ml =>
              exact aq
             case Mm =>
              refine' af ?JS ?JT ?JU
              case JU=>exact rfl
              case JS =>
               exact aq
              case JT =>
               exact ah
           case JP =>
            exact ah
      case Mf =>
       exact aA
     case Mc =>
      refine' ai ?OS ?RS
      case OS =>
       refine' aG ?RT ?OT ?RU
       case RT=>exact(PW.pt (cS (bB bN (pv 1) (aO K rfl (pv 0) rfl) rfl) (cC (bG (aY (aO K rfl (pv 0) rfl))))))
       case OT =>
        refine' ak ?RV
        case RV =>
         refine' az ?v30
         case v30 =>
          refine' aB ?OU
          case OU =>
           refine' af ?RW ?RX ?RY
           case RY=>exact rfl
           case RW =>
            exact aq
           case RX =>
            refine' af ?RZ ?R0 ?R1
            case R1=>exact rfl
            case RZ =>
             exact aq
            case R0 =>
             exact ah
       case RU =>
        exact aA
      case RS =>
       refine' ak ?JV
       case JV =>
        refine' az ?Y0
        case Y0 =>
         refine' aB ?Sl
         case Sl =>
          refine' af ?OZ ?O0 ?O1
          case O1=>exact rfl
          case OZ =>
           exact aq
          case O0 =>
           refine' af ?Y3 ?Y4 ?Y5
           case Y5=>exact rfl
           case Y3 =>
            refine' aB ?Sm
            case Sm =>
             refine' af ?Sn ?So ?Sq
             case Sq=>exact rfl
             case Sn =>
              exact aq
             case So =>
              refine' af ?Ss ?Su ?Sv
              case Sv=>exact rfl
              case Ss =>
               exact aq
              case Su =>
               exact ah
           case Y4 =>
            exact ah
  have e2:bh (sg c) (cQ 0)=bh (sg c) (Str.ofString "\n"):=by rw[T.nM]
  refine⟨_,O,_,O,x,(aC 51),dx,_,_,O,hx,T.aD,T.bE,O,_,_,O,O,_,O,aX (λ(h1:gj c f=true)=>?_) (λ(h1:¬gj c f=true)=>?_)⟩
  ·exact bI (by unfold cT;rw[aai h1]) cF k
  refine⟨_,O,O,_,O,aX (λ(h2:bh (sg c) (cQ 0)=true)=>?_) (λ(h2:¬bh (sg c) (cQ 0)=true)=>?_)⟩
  ·rw[e2]at h2
   exact gC (by unfold cT;rw[aah h1,aai h2]) oX (aF.refl _) (.inr T.gK) k
  rw[e2]at h2
  refine⟨_,O,_,O,x,(aC 51),dx,_,_,O,hx,T.aD,T.bL,O,_,_,O,O,_,O,aX (λ(h3:gj c p=true)=>?_) (λ(h3:¬gj c p=true)=>?_)⟩
  ·exact bI (by unfold cT;rw[aah h1,aah h2,aai h3]) kJ k
  refine⟨_,O,_,O,x,(aC 51),dx,_,_,O,hx,T.aD,T.bF,O,_,_,O,O,_,O,aX (λ(h4:gj c q=true)=>?_) (λ(h4:¬gj c q=true)=>?_)⟩
  ·refine⟨_,O,x,(aC 51),dx,_,_,O,hx,T.aD,T.dD,O,_,O,aX (λ(h5:(!b4)=true)=>?_) (λ(h5:¬(!b4)=true)=>?_)⟩
   ·exact gU (by unfold cT;rw[aah h1,aah h2,aah h3,aai h4,aai h5]) k
   exact bI (by unfold cT;rw[aah h1,aah h2,aah h3,aai h4,aah h5]) cA k
  refine bM ?_
  exact bI (by unfold cT;rw[aah h1,aah h2,aah h3,aah h4]) cA k
def wI(K:W.Frag)(C:Addr):Sp:=λvs H Q _=>∃(x dx:Addr)(p q f:Str)(b1 b2 b3 b4:Bool)(u:Str)(c:Nat),vs=[.ref x,.str u,.str (sg c)]/\H x=some (.ins C dx (AO p q f b1 b2 b3 b4))/\∀v H',aF H H'->uh K H' v (cu f b1 b2 u c)->Q v H'
theorem wJ:bw P w K mg base fJ 1 (aC 13) (aM 13) ["dialect","quote","sign"] (wI K (aC 51)):=by
 refine T.oz.ok wc (λvs H Q E h=>?_) (λcdv A outer s H vs Q E hr h=>?_)
 ·obtain⟨x,dx,p,q,f,b1,b2,b3,b4,u,c,rfl,_⟩:=h;rfl
 ·have hu:=aU hr
  have gH:=hr.aN
  obtain⟨x,dx,p,q,f,b1,b2,b3,b4,u,c,rfl,hx,k⟩:=h
  refine'⟨_,?aa,?bb⟩
  case aa =>
   refine' ai ?s0 ?r0
   case s0 =>
    refine' aG ?c1 ?b1 ?e1
    case c1=>exact(bB bN (pv 2) (aO K rfl (pv 0) rfl) rfl)
    case b1 =>
     refine' ak ?s2
     case s2 =>
      refine' az ?v3
      case v3 =>
       refine' aB ?a4
       case a4 =>
        refine' af ?x5 ?y5 ?z5
        case z5=>exact rfl
        case x5 =>
         exact aq
        case y5 =>
         refine' af ?x6 ?y6 ?z6
         case z6=>exact rfl
         case x6 =>
          refine' aB ?a7
          case a7 =>
           refine' af ?x8 ?y8 ?z8
           case z8=>exact rfl
           case x8 =>
            exact aq
           case y8 =>
            refine' af ?x9 ?y9 ?z9
            case z9=>exact rfl
            case x9 =>
             exact(pv 1)
            case y9 =>
             exact ah
         case y6 =>
          exact ah
    case e1 =>
     exact aA
   case r0 =>
    refine' ai ?EK ?OO
    case EK =>
     refine' aG ?OP ?L6 ?OQ
     case OP=>exact(cJ aR (pv 2) (pv 1))
     case L6 =>
      refine' ak ?s12
      case s12 =>
       refine' az ?OR
       case OR =>
        refine' aB ?JI
        case JI =>
         refine' af ?L7 ?L8 ?Ma
         case Ma=>exact rfl
         case L7 =>
          exact aq
         case L8 =>
          refine' af ?JJ ?JK ?JL
          case JL=>exact rfl
          case JJ =>
           exact(lV (aY (aO K rfl (pv 0) rfl)) (aB (af aq (af (pv 1) ah))) (aB (af aq (af aq ah))))
          case JK =>
           exact ah
     case OQ =>
      exact aA
    case OO =>
     refine' ai ?Mb ?Mc
     case Mb =>
      refine' aG ?Me ?JM ?Mf
      case Me=>exact(PW.pt (cS (cJ aR (pv 2) (kq rfl T.nL.choose_spec)) (cC (bG (aY (aO K rfl (pv 0) rfl))))))
      case JM =>
       refine' ak ?Mg
       case Mg =>
        refine' az ?v20
        case v20 =>
         refine' aB ?JN
         case JN =>
          refine' af ?Mh ?Mi ?Mj
          case Mj=>exact rfl
          case Mh =>
           exact aq
          case Mi =>
           refine' af ?JO ?JP ?JQ
           case JQ=>exact rfl
           case JO =>
            exact aq
           case JP =>
            exact ah
      case Mf =>
       exact aA
     case Mc =>
      refine' ak ?Qz
      case Qz =>
       refine' az ?Y6
       case Y6 =>
        refine' aB ?Sw
        case Sw =>
         refine' af ?O2 ?O3 ?O4
         case O4=>exact rfl
         case O2 =>
          exact aq
         case O3 =>
          refine' af ?Y7 ?Y8 ?Y9
          case Y9=>exact rfl
          case Y7 =>
           refine' aB ?O5
           case O5 =>
            refine' af ?Mq ?Mr ?Ms
            case Ms=>exact rfl
            case Mq =>
             exact aq
            case Mr =>
             refine' af ?Sx ?Sy ?Sz
             case Sz=>exact rfl
             case Sx =>
              exact(pv 1)
             case Sy =>
              exact ah
          case Y8 =>
           exact ah
  have e2:bh (sg c) (cQ 0)=bh (sg c) (Str.ofString "\n"):=by rw[T.nM]
  refine⟨_,O,_,O,x,(aC 51),dx,_,_,O,hx,T.aD,T.bE,O,_,_,O,O,_,O,aX (λ(h1:gj c f=true)=>?_) (λ(h1:¬gj c f=true)=>?_)⟩
  ·exact⟨_,O,bI (by unfold cu;rw[aai h1]) cF k⟩
  refine⟨_,O,_,O,O,_,O,aX (λ(h2:bh (sg c) u=true)=>?_) (λ(h2:¬bh (sg c) u=true)=>?_)⟩
  ·refine⟨_,O,x,(aC 51),dx,_,_,O,hx,T.aD,T.dU,O,_,O,aX (λ(h3:b1=true)=>?_) (λ(h3:¬b1=true)=>?_)⟩
   ·exact⟨_,O,bI (by unfold cu;rw[aah h1,aai h2,aai h3]) cF k⟩
   exact bI (by unfold cu;rw[aah h1,aai h2,aah h3]) cF k
  refine⟨_,O,O,_,O,aX (λ(h3:bh (sg c) (cQ 0)=true)=>?_) (λ(h3:¬bh (sg c) (cQ 0)=true)=>?_)⟩
  ·rw[e2]at h3
   refine⟨_,O,x,(aC 51),dx,_,_,O,hx,T.aD,T.cX,O,_,O,aX (λ(h4:(!b2)=true)=>?_) (λ(h4:¬(!b2)=true)=>?_)⟩
   ·exact gU (by unfold cu;rw[aah h1,aah h2,aai h3,aai h4]) k
   exact⟨_,O,bI (by unfold cu;rw[aah h1,aah h2,aai h3,aah h4]) cA k⟩
  rw[e2]at h3
  refine bM ?_
  exact⟨_,O,bI (by unfold cu;rw[aah h1,aah h2,aah h3]) cA k⟩
def wK(K:W.Frag)(C:Addr):Sp:=λvs H Q _=>∃(x dx:Addr)(p q f:Str)(b1 b2 b3 b4:Bool)(c:Nat),vs=[.ref x,.str (sg c)]/\H x=some (.ins C dx (AO p q f b1 b2 b3 b4))/\∀v H',aF H H'->uh K H' v (bC p b3 c)->Q v H'
theorem ng:bw P w K mg base fJ 1 (aC 14) (aM 14) ["dialect","sign"] (wK K (aC 51)):=by
 refine T.jJ.ok wg (λvs H Q E h=>?_) (λcdv A outer s H vs Q E hr h=>?_)
 ·obtain⟨x,dx,p,q,f,b1,b2,b3,b4,c,rfl,_⟩:=h;rfl
 ·have hu:=aU hr
  have gH:=hr.aN
  obtain⟨x,dx,p,q,f,b1,b2,b3,b4,c,rfl,hx,k⟩:=h
  refine'⟨_,?aa,?bb⟩
  case aa =>
   refine' ai ?s0 ?r0
   case s0 =>
    refine' aG ?c1 ?b1 ?e1
    case c1=>exact(cJ aR (pv 1) (kq rfl T.nL.choose_spec))
    case b1 =>
     refine' ak ?s2
     case s2 =>
      refine' az ?v3
      case v3 =>
       refine' aB ?a4
       case a4 =>
        refine' af ?x5 ?y5 ?z5
        case z5=>exact rfl
        case x5 =>
         exact aq
        case y5 =>
         refine' af ?x6 ?y6 ?z6
         case z6=>exact rfl
         case x6 =>
          exact(dh rfl T.c6)
         case y6 =>
          exact ah
    case e1 =>
     exact aA
   case r0 =>
    refine' ai ?s7 ?r7
    case s7 =>
     refine' aG ?c8 ?b8 ?e8
     case c8=>exact(bB bN (pv 1) (aO K rfl (pv 0) rfl) rfl)
     case b8 =>
      refine' ak ?s9
      case s9 =>
       refine' az ?v10
       case v10 =>
        refine' aB ?O6
        case O6 =>
         refine' af ?SA ?SD ?SE
         case SE=>exact rfl
         case SA =>
          exact aq
         case SD =>
          refine' af ?SG ?SH ?SI
          case SI=>exact rfl
          case SG =>
           refine' aB ?JI
           case JI =>
            refine' af ?L7 ?L8 ?Ma
            case Ma=>exact rfl
            case L7 =>
             exact aq
            case L8 =>
             refine' af ?JJ ?JK ?JL
             case JL=>exact rfl
             case JJ =>
              exact aq
             case JK =>
              exact ah
          case SH =>
           exact ah
     case e8 =>
      exact aA
    case r7 =>
     refine' ai ?Mb ?Mc
     case Mb =>
      refine' aG ?Me ?JM ?Mf
      case Me=>exact(PW.pt (cS (cJ aR (pv 1) aq) (cC (aY (aO K rfl (pv 0) rfl)))))
      case JM =>
       refine' ak ?Mg
       case Mg =>
        refine' az ?v20
        case v20 =>
         refine' aB ?JN
         case JN =>
          refine' af ?Mh ?Mi ?Mj
          case Mj=>exact rfl
          case Mh =>
           exact aq
          case Mi =>
           refine' af ?JO ?JP ?JQ
           case JQ=>exact rfl
           case JO =>
            refine' aB ?JR
            case JR =>
             refine' af ?Ml ?Mm ?Mp
             case Mp=>exact rfl
             case Ml =>
              exact aq
             case Mm =>
              refine' af ?JS ?JT ?JU
              case JU=>exact rfl
              case JS =>
               exact aq
              case JT =>
               exact ah
           case JP =>
            exact ah
      case Mf =>
       exact aA
     case Mc =>
      refine' ak ?OS
      case OS =>
       refine' az ?Za
       case Za =>
        refine' aB ?O5
        case O5 =>
         refine' af ?Mq ?Mr ?Ms
         case Ms=>exact rfl
         case Mq =>
          exact aq
         case Mr =>
          refine' af ?Sx ?Sy ?Sz
          case Sz=>exact rfl
          case Sx =>
           exact aq
          case Sy =>
           exact ah
  have e2:bh (sg c) (cQ 0)=bh (sg c) (Str.ofString "\n"):=by rw[T.nM]
  refine⟨_,O,O,_,O,aX (λ(h1:bh (sg c) (cQ 0)=true)=>?_) (λ(h1:¬bh (sg c) (cQ 0)=true)=>?_)⟩
  ·rw[e2]at h1
   exact gC (by unfold bC;rw[aai h1]) oX (aF.refl _) (.inr T.gK) k
  rw[e2]at h1
  refine⟨_,O,_,O,x,(aC 51),dx,_,_,O,hx,T.aD,T.bL,O,_,_,O,O,_,O,aX (λ(h2:gj c p=true)=>?_) (λ(h2:¬gj c p=true)=>?_)⟩
  ·exact bI (by unfold bC;rw[aah h1,aai h2]) kJ k
  refine⟨_,O,O,_,O,aX (λ(h3:bh (sg c) (" ":Str)=true)=>?_) (λ(h3:¬bh (sg c) (" ":Str)=true)=>?_)⟩
  ·refine⟨_,O,x,(aC 51),dx,_,_,O,hx,T.aD,T.cY,O,_,O,aX (λ(h4:b3=true)=>?_) (λ(h4:¬b3=true)=>?_)⟩
   ·exact bI (by unfold bC;rw[aah h1,aah h2,aai h3,aai h4]) cF k
   exact gU (by unfold bC;rw[aah h1,aah h2,aai h3,aah h4]) k
  refine bM ?_
  exact gU (by unfold bC;rw[aah h1,aah h2,aah h3]) k
def sC(K:W.Frag)(C:Addr):Sp:=λvs H Q _=>∃(x dx:Addr)(p q f:Str)(b1 b2 b3 b4:Bool)(u:Str)(c:Nat),vs=[.ref x,.str u,.str (sg c)]/\H x=some (.ins C dx (AO p q f b1 b2 b3 b4))/\∀v H',aF H H'->uh K H' v (fW p b3 u c)->Q v H'
theorem sD:bw P w K mg base fJ 2 (aC 15) (aM 15) ["dialect","quote","sign"] (sC K (aC 51)):=by
 have jL:=@ng P w K mg base aC aM cQ T
 refine T.lC.ok rV (λvs H Q E h=>?_) (λcdv A outer s H vs Q E hr h=>?_)
 ·obtain⟨x,dx,p,q,f,b1,b2,b3,b4,u,c,rfl,_⟩:=h;rfl
 ·have hu:=aU hr
  have gH:=hr.aN
  obtain⟨x,dx,p,q,f,b1,b2,b3,b4,u,c,rfl,hx,k⟩:=h
  refine⟨_,(ai (aG (cJ aR (pv 2) (pv 1)) (ak (az (aB (af aq (af (aB (af aq (af (pv 1) ah))) ah))))) aA)
   (ak (az (fR jL hr T.oB T.jJ.kp T.oA (af (pv 0) (af (pv 2) ah)))))),?_⟩
  refine⟨_,O,_,O,O,_,O,aX (λ(h1:bh (sg c) u=true)=>?_) (λ(h1:¬bh (sg c) u=true)=>?_)⟩
  ·exact⟨_,O,bI (by unfold fW;rw[aai h1]) cA k⟩
  refine⟨_,O,_,O,x,dx,p,q,f,b1,b2,b3,b4,c,O,hx,λv H2 s2 r=>k v H2 s2 ?_⟩
  unfold fW
  rw[aah h1]
  exact r
def xE(K:W.Frag)(C:Addr):Sp:=λvs H Q _=>∃(x dx:Addr)(p q f:Str)(b1 b2 b3 b4:Bool)(u:Str)(c:Nat),vs=[.ref x,.str u,.str (sg c)]/\H x=some (.ins C dx (AO p q f b1 b2 b3 b4))/\∀v H',aF H H'->uh K H' v (gD b2 u c)->Q v H'
theorem xF:bw P w K mg base fJ 1 (aC 16) (aM 16) ["dialect","quote","sign"] (xE K (aC 51)):=by
 refine T.qq.ok xu (λvs H Q E h=>?_) (λcdv A outer s H vs Q E hr h=>?_)
 ·obtain⟨x,dx,p,q,f,b1,b2,b3,b4,u,c,rfl,_⟩:=h;rfl
 ·have hu:=aU hr
  have gH:=hr.aN
  obtain⟨x,dx,p,q,f,b1,b2,b3,b4,u,c,rfl,hx,k⟩:=h
  refine'⟨_,?aa,?bb⟩
  case aa =>
   refine' ai ?s0 ?r0
   case s0 =>
    refine' aG ?c1 ?b1 ?e1
    case c1=>exact(PW.pt (cS (cJ aR (pv 2) (kq rfl T.nL.choose_spec)) (cC (bG (aY (aO K rfl (pv 0) rfl))))))
    case b1 =>
     refine' ak ?s2
     case s2 =>
      refine' az ?v3
      case v3 =>
       refine' aB ?a4
       case a4 =>
        refine' af ?x5 ?y5 ?z5
        case z5=>exact rfl
        case x5 =>
         exact aq
        case y5 =>
         refine' af ?x6 ?y6 ?z6
         case z6=>exact rfl
         case x6 =>
          exact aq
         case y6 =>
          exact ah
    case e1 =>
     exact aA
   case r0 =>
    refine' ak ?s7
    case s7 =>
     refine' az ?v8
     case v8 =>
      refine' aB ?a9
      case a9 =>
       refine' af ?O7 ?O8 ?O9
       case O9=>exact rfl
       case O7 =>
        exact aq
       case O8 =>
        refine' af ?Zb ?Zc ?Zd
        case Zd=>exact rfl
        case Zb =>
         exact(lV (cJ aR (pv 1) aq) (aB (af aq (af aq ah))) (aB (af aq (af (pv 1) ah))))
        case Zc =>
         exact ah
  have e2:bh (sg c) (cQ 0)=bh (sg c) (Str.ofString "\n"):=by rw[T.nM]
  refine⟨_,O,O,_,O,aX (λ(h1:bh (sg c) (cQ 0)=true)=>?_) (λ(h1:¬bh (sg c) (cQ 0)=true)=>?_)⟩
  ·rw[e2]at h1
   refine⟨_,O,x,(aC 51),dx,_,_,O,hx,T.aD,T.cX,O,_,O,aX (λ(h2:(!b2)=true)=>?_) (λ(h2:¬(!b2)=true)=>?_)⟩
   ·exact gU (by unfold gD;rw[aai h1,aai h2]) k
   refine⟨_,O,O,_,O,aX (λ(h9:bh u ("":Str)=true)=>?_) (λ(h9:¬bh u ("":Str)=true)=>?_)⟩
   ·exact bI (by unfold gD eZ;rw[aai h1,aah h2,aai h9]) cA k
   exact⟨_,O,bI (by unfold gD eZ;rw[aai h1,aah h2,aah h9]) cA k⟩
  rw[e2]at h1
  refine bM ?_
  refine⟨_,O,O,_,O,aX (λ(h9:bh u ("":Str)=true)=>?_) (λ(h9:¬bh u ("":Str)=true)=>?_)⟩
  ·exact bI (by unfold gD eZ;rw[aah h1,aai h9]) cA k
  exact⟨_,O,bI (by unfold gD eZ;rw[aah h1,aah h9]) cA k⟩
def sE(C CT:Addr):Sp:=λvs H Q _=>∃(y dy x dx:Addr)(p q f:Str)(b1 b2 b3 b4:Bool),vs=[.ref y,.ref x]/\H y=some (.ins CT dy [])/\H x=some (.ins C dx (AO p q f b1 b2 b3 b4))/\Gd p q f/\∀H',Tn C CT H' y p q f b1 b2 b3 b4->(∀b o,H b=some o->b≠y->H' b=some o)->Q .non H'
theorem sF:bw P w K mg base fJ 6 (aC 17) (aM 17) ["self","dialect"] (sE (aC 51) (aC 52)):=by
 have wL:=@uI P w K mg base aC aM cQ T
 have Ab:=@xD P w K mg base aC aM cQ T
 refine T.uz.ok rW (λvs H Q E h=>?_) (λcdv A outer s H vs Q E hr h=>?_)
 ·obtain⟨y,dy,x,dx,p,q,f,b1,b2,b3,b4,rfl,_⟩:=h;rfl
 ·have hu:=aU hr
  have gH:=hr.aN
  obtain⟨y,dy,x,dx,p,q,f,b1,b2,b3,b4,rfl,hy,hx,g,k⟩:=h
  refine⟨_,(ak (gM (pv 0) (fR Ab hr T.zO T.qp.kp T.zN (af (AZ (k:=1) (pv 1) T.aD T.wz wL (hr.mono (by decide)) T.wu .nil fE) ah)) rfl)),?_⟩
  refine⟨_,O,x,dx,_,O,hx,O,x,dx,p,q,f,b1,b2,b3,b4,O,hx,λt ht=>?_⟩
  have s1:=au (o:=HO.tup (jR p q f b1 b2 b3 b4)) ht
  refine⟨t,p,q,f,b1,b2,b3,b4,O,aj,g,λd dd H2 hd h2 s2=>?_⟩
  have s12:=s1.trans s2
  have Ze:d≠y:=λe=>by subst e;rw[s1 _ _ hy]at hd;cases hd
  refine⟨_,O,y,(aC 52),dy,_,O,s12 _ _ hy,T.e7,T.bA,(by show 0<1000;decide),?_⟩
  refine k _ ⟨⟨dy,d,dd,aj,(aH Ze).trans h2⟩⟩ λb o e hb=>(aH hb).trans (s12 _ _ e)
def Ac(K:W.Frag)(C CT:Addr):Sp:=λvs H Q _=>∃(y s:Addr)(w u:Str)(c:Nat)(p q f:Str)(b1 b2 b3 b4:Bool),vs=[.ref y,.ref s,.str (sg c)]/\Tn C CT H y p q f b1 b2 b3 b4/\aK K H s [.str w,.str u]/\∀v H',aF H H'->uh K H' v (dg p q f b1 b2 b3 b4 w u c)->Q v H'
theorem Ad:bw P w K mg base fJ 3 (aC 18) (aM 18) ["self","state","sign"] (Ac K (aC 51) (aC 52)):=by
 have nY:=@nc P w K mg base aC aM cQ T
 have jL:=@ng P w K mg base aC aM cQ T
 have Ae:=@xF P w K mg base aC aM cQ T
 have uJ:=@sD P w K mg base aC aM cQ T
 have uK:=@sy P w K mg base aC aM cQ T
 have xG:=@wJ P w K mg base aC aM cQ T
 refine T.BI.ok kM (λvs H Q E h=>?_) (λcdv A outer s H vs Q E hr h=>?_)
 ·obtain⟨y,s,w,u,c,p,q,f,b1,b2,b3,b4,rfl,_⟩:=h;rfl
 ·have hu:=aU hr
  have gH:=hr.aN
  obtain⟨y,s,w,u,c,p,q,f,b1,b2,b3,b4,rfl,hT,hs,k⟩:=h
  obtain⟨dy,d,dd,hy,hd⟩:=hT.ok
  refine⟨_,(ai (eX 3 kM.nd (cg K (pv 1) ao))
   (ai (eX 4 kM.nd (cg K (pv 1) ao))
   (ai (aG (cJ aR (pv 3) aq) (ak (az (fR uK hr T.uw T.lB.kp T.uv (af (aO K rfl (pv 0) rfl) (af (pv 2) ah))))) aA)
   (ai (aG (cJ aR (pv 3) aq) (ak (az (fR xG hr T.xx T.oz.kp T.xw (af (aO K rfl (pv 0) rfl) (af (pv 4) (af (pv 2) ah)))))) aA)
   (ai (aG (cJ aR (pv 3) aq) (ak (az (fR uJ hr T.uy T.lC.kp T.ux (af (aO K rfl (pv 0) rfl) (af (pv 4) (af (pv 2) ah)))))) aA)
   (ai (aG (cJ aR (pv 3) aq) (ak (az (fR jL hr T.oB T.jJ.kp T.oA (af (aO K rfl (pv 0) rfl) (af (pv 2) ah))))) aA)
   (ai (aG (cJ aR (pv 3) aq) (ak (az (fR Ae hr T.zQ T.qq.kp T.zP (af (aO K rfl (pv 0) rfl) (af (pv 4) (af (pv 2) ah)))))) aA)
   (ak (az (fR nY hr T.nU T.ie.kp T.nT (af (aO K rfl (pv 0) rfl) (af (pv 1) (af (pv 2) ah))))))))))))),?_⟩
  refine⟨_,O,s,_,_,_,O,O,hs,O,_,O,s,_,_,_,O,O,hs,O,?_⟩
  refine⟨_,O,O,_,O,aX (λ(h1:bh w ("plain":Str)=true)=>?_) (λ(h1:¬bh w ("plain":Str)=true)=>?_)⟩
  ·refine⟨_,O,y,(aC 52),dy,_,_,O,hy,T.e7,T.bA,O,_,O,d,dd,p,q,f,b1,b2,b3,b4,c,O,hd,λv H2 s2 r=>k v H2 s2 ?_⟩
   rw[p8 h1]
   exact r
  refine⟨_,O,O,_,O,aX (λ(h2:bh w ("within":Str)=true)=>?_) (λ(h2:¬bh w ("within":Str)=true)=>?_)⟩
  ·refine⟨_,O,y,(aC 52),dy,_,_,O,hy,T.e7,T.bA,O,_,O,_,O,d,dd,p,q,f,b1,b2,b3,b4,u,c,O,hd,λv H2 s2 r=>k v H2 s2 ?_⟩
   rw[cU h2]
   exact r
  refine⟨_,O,O,_,O,aX (λ(h3:bh w ("doubt":Str)=true)=>?_) (λ(h3:¬bh w ("doubt":Str)=true)=>?_)⟩
  ·refine⟨_,O,y,(aC 52),dy,_,_,O,hy,T.e7,T.bA,O,_,O,_,O,d,dd,p,q,f,b1,b2,b3,b4,u,c,O,hd,λv H2 s2 r=>k v H2 s2 ?_⟩
   rw[dQ h3]
   exact r
  refine⟨_,O,O,_,O,aX (λ(h4:bh w ("behind":Str)=true)=>?_) (λ(h4:¬bh w ("behind":Str)=true)=>?_)⟩
  ·refine⟨_,O,y,(aC 52),dy,_,_,O,hy,T.e7,T.bA,O,_,O,d,dd,p,q,f,b1,b2,b3,b4,c,O,hd,λv H2 s2 r=>k v H2 s2 ?_⟩
   rw[dF h4]
   exact r
  refine⟨_,O,O,_,O,aX (λ(h5:bh w ("freed":Str)=true)=>?_) (λ(h5:¬bh w ("freed":Str)=true)=>?_)⟩
  ·refine⟨_,O,y,(aC 52),dy,_,_,O,hy,T.e7,T.bA,O,_,O,_,O,d,dd,p,q,f,b1,b2,b3,b4,u,c,O,hd,λv H2 s2 r=>k v H2 s2 ?_⟩
   rw[eN h5]
   exact r
  refine⟨_,O,y,(aC 52),dy,_,_,O,hy,T.e7,T.bA,O,_,O,_,O,d,dd,p,q,f,b1,b2,b3,b4,s,w,u,c,O,hd,hs,λv H2 s2 r=>k v H2 s2 ?_⟩
  rw[iB (ia h2) (ia h5) (ia h3) (ia h4)]
  unfold dw
  rw[aah h1]
  exact r
def qB(K:W.Frag)(C CT:Addr):Sp:=λvs H Q _=>∃(y:Addr)(v:V)(o:Option cP)(c:Nat)(x:eF),vs=[.ref y,v,.str (sg c)]/\HB C CT H y x/\jQ K H o v/\∀v' H',aF H H'->AQ K (iD x o c) H' v'->Q v' H'
theorem qC:bw P w K mg base fJ 4 (aC 19) (aM 19) ["self","state","sign"] (qB K (aC 51) (aC 52)):=by
 have tT:=@Ad P w K mg base aC aM cQ T
 have nN:=@wG P w K mg base aC aM cQ T
 refine T.r8.ok f6 (λvs H Q E h=>?_) (λcdv A outer s H vs Q E hr h=>?_)
 ·obtain⟨y,v,o,c,x,rfl,_⟩:=h;rfl
 ·have hu:=aU hr
  have gH:=hr.aN
  obtain⟨y,v,o,c,x,rfl,hT,hv,k⟩:=h
  cases o with
  |none =>
   have hv:v=.non:=hv
   subst hv
   refine⟨_,(ai (aG (cJ gu (pv 1) bq) (ak (az bq)) aA)
   (ai (eX 3 f6.nd (iw (k:=3) (pv 0) T.e7 T.tN tT (hr.mono (by decide)) T.tM .nil fE (af (pv 1) (af (pv 2) ah))))
   (ai (aG (PW.pt (cN (cJ aR (cg K (pv 3) ao) aq) (cI (bG (aY (fR nN hr T.rZ T.nK.kp T.rY (af (aO K rfl (pv 0) rfl) (af (cg K (pv 3) ao) ah)))))))) (ak (az bq)) aA)
   (ak (az (pv 3)))))),?_⟩
   exact⟨_,O,O,_,O,Jo rfl (k _ _ (aF.refl _) rfl)⟩
  |some st =>
  obtain⟨s,rfl,hs⟩:=hv
  obtain⟨p,q,f,⟨b1,b2,b3,b4⟩⟩:=x
  obtain⟨w,u⟩:=st
  have hT:Tn (aC 51) (aC 52) H y p q f b1 b2 b3 b4:=hT
  have k:∀v H',aF H H'->AQ K (eO p q f b1 b2 b3 b4 w u c) H' v->Q v H':=k
  unfold eO at k
  refine⟨_,(ai (aG (cJ gu (pv 1) bq) (ak (az bq)) aA)
   (ai (eX 3 f6.nd (iw (k:=3) (pv 0) T.e7 T.tN tT (hr.mono (by decide)) T.tM .nil fE (af (pv 1) (af (pv 2) ah))))
   (ai (aG (PW.pt (cN (cJ aR (cg K (pv 3) ao) aq) (cI (bG (aY (fR nN hr T.rZ T.nK.kp T.rY (af (aO K rfl (pv 0) rfl) (af (cg K (pv 3) ao) ah)))))))) (ak (az bq)) aA)
   (ak (az (pv 3)))))),?_⟩
  obtain⟨dy,d,dd,ey,ed⟩:=hT.ok
  refine⟨_,rfl,rfl,_,rfl,oV (λz=>nomatch z) ⟨_,rfl,y,dy,_,rfl,ey,rfl,_,rfl,_,rfl,y,s,w,u,c,p,q,f,b1,b2,b3,b4,rfl,hT,hs,λv H5 s5 r=>?_⟩⟩
  cases M9:dg p q f b1 b2 b3 b4 w u c with
  |go kd w3 u3 =>
   rw[M9]at r k
   obtain⟨hk,a,b,rfl,ha,hb⟩:=r
   have Zf:=s5 _ _ ey
   have Zg:=s5 _ _ ed
   have k:∀v H',aF H H'->AQ K (if dz f w3 u3=true then some (kd,w3,u3) else none) H' v->Q v H':=k
   refine⟨_,O,a,_,_,_,O,O,ha,O,O,_,O,jm hk ?_⟩
   refine⟨_,O,y,_,_,_,_,O,Zf,T.e7,T.bA,O,_,O,a,_,_,_,O,O,ha,O,d,dd,b,w3,u3,p,q,f,b1,b2,b3,b4,O,Zg,hb,_,O,?_⟩
   by_cases hL:dz f w3 u3=true
   ·rw[aai hL]at k
    exact Hi hL ⟨_,rfl,k _ _ s5 ⟨a,b,rfl,ha,hb⟩⟩
   ·rw[aah hL]at k
    exact Hl (ia hL) (k _ _ s5 rfl)
  |ye e =>
   rw[M9]at r k
   obtain⟨a,rfl,ha⟩:=r
   have k:∀v H',aF H H'->AQ K none H' v->Q v H':=k
   exact⟨_,O,a,_,_,_,O,O,ha,O,O,_,O,jS (aI _) (jO (k _ _ s5 rfl))⟩
def Af(K:W.Frag)(C:Addr):Sp:=λvs H Q _=>∃(l:Addr)(xs:List V)(cs:List eF),vs=[.ref l]/\H l=some (.lst xs)/\Yy C H xs cs/\(∀x∈cs,tG x)/\cs.length<=2/\∀H',aF H H'->Q (.str (oY (cs.map lR))) H'
theorem Ag:bw P w K mg base fJ 3 (aC 20) (aM 20) ["dialects"] (Af K (aC 51)):=by
 have qD:=@pG P w K mg base aC aM cQ T
 have C9:=@Ep P w K mg base aC aM cQ T
 have HX:=@Fe P w K mg base aC aM cQ T
 refine T.tO.ok qk (λvs H Q E h=>?_) (λcdv A outer s H vs Q E hr h=>?_)
 ·obtain⟨l,xs,cs,rfl,_⟩:=h;rfl
 ·have hu:=aU hr
  have gH:=hr.aN
  obtain⟨l,xs,cs,rfl,hl,tr,gs,hc2,k⟩:=h
  obtain⟨zs,hzs⟩:∃zs,zs=cs.map lR:=⟨_,rfl⟩
  rw[←hzs]at k
  have hz2:zs.length<=2:=by rw[hzs,aaq];exact hc2
  have zl:=T.nM
  refine⟨_,(ai (eX 1 qk.nd (aJ bO (aJ bO (ko K rfl PySem.F.plainAttrs_str PySem.F.slot_str_join PySem.F.type_str_join (vC K rfl) aq (af (iy rfl (show bP ["dialects","signs"] (ay jl) ["dialect"] 1 [] _ from Ip) (fP K rfl (pv 0)) (λ_ _ _ _=>(gA 0 Qu)) (λ_ _ _ _=>ki) (λ_ _ _ _=>(AZ (k:=2) (pv 0) T.aD T.qo qD (hr.mono (by decide)) T.qm .nil fE))) ah)) (kq rfl T.nL.choose_spec)) aq))
   (ak (az (fR C9 hr T.HL T.C4.kp T.HK (af (aJ bO (pv 1) (fR HX hr T.HN T.BF.kp T.HM (af (pv 1) (af ao ah)))) ah))))),?_⟩
  refine⟨O,_,O,l,O,⟨_,bW.of hl⟩,λD hD=>?_⟩
  have Na:xs.length=zs.length:=by rw[hzs,aaq];exact tr.length
  refine nB (K:=K) (a:=l) (xs:=xs) (λi ws τ H2=>(∃v,τ=[v])/\aF H H2/\H2 D=some (.lst ws)/\ws=((zs.take i).map bK).map V.str) ⟨⟨_,rfl⟩,au hD,aj,rfl⟩ (λi ws τ H2 _ p=>⟨bW.of (p.2.1 _ _ hl),p.2.2.1⟩) ?_ ?_
  ·rintro i x ws τ H2 hi ⟨⟨v,rfl⟩,s2,h2,hws⟩
   obtain⟨cc,hcc,d,dx,rfl,hd⟩:=bV tr i x hi
   have hd:=s2 _ _ hd
   have hg:=gs cc (aaJ hcc)
   have hz:zs[i]?=some (lR cc):=by rw[hzs,aby,hcc];rfl
   obtain⟨p,q,f,⟨b1,b2,b3,b4⟩⟩:=cc
   have ez:lR (p,q,f,⟨b1,b2,b3,b4⟩)=(p++q)++f:=rfl
   have hil:i<zs.length:=(aal.mp hz).1
   refine CQ ?_
   refine⟨_,O,d,dx,_,O,hd,O,d,dx,p,q,f,b1,b2,b3,b4,O,hd,hg,h2,?_,⟨_,O⟩,bf hD s2,aj,?_⟩
   ·rw[hws,aaq,aaq,aaQ];exact aaI (show _<=2 by omega) (by decide)
   ·rw[hws,vO hz,aaO,aaO,ez];rfl
  ·rintro ws τ H2 ⟨⟨v,rfl⟩,s2,h2,hws⟩
   rw[Na,aaz (aaj _)]at hws
   subst hws
   have h7:∀z∈zs,z.length<=7:=λz hz=>by
    rw[hzs]at hz
    obtain⟨cc,hcc,rfl⟩:=aaF.mp hz
    have hg:=gs cc hcc
    have hp3:=hg.p3;have hq2:=hg.q2;have hf2:=hg.f2
    unfold lR
    rw[bS,bS];omega
   have Qx:∀z∈zs.map bK,z.length<=7:=λz hz=>by
    obtain⟨y,hy,rfl⟩:=aaF.mp hz
    exact aao (nH y) (h7 y hy)
   have hsum:=Ef Qx
   rw[aaq (f:=bK)]at hsum
   refine⟨_,D,zs.map bK,O,O,bW.of h2,?_,?_⟩
   ·rw[aaq (f:=bK)];omega
   have hj:(Txt.join ("":Str) (zs.map bK)).length<=14:=by
    have:=CU Qx
    rw[←join_list,aaq,aam]at this
    exact aao this (by omega)
   have l1:(cQ 0).length=1:=by rw[zl];decide +kernel
   have l2:(" ":Str).length=1:=by decide +kernel
   unfold oY at k
   rw[←zl]at k
   generalize Txt.join ("":Str) (zs.map bK)=J at hj k⊢
   refine⟨_,_,O,O,aao (show J.length+(cQ 0).length<=30 by omega) (by decide),_,_,O,O,?_,?_⟩
   ·rw[bS];exact aao (show J.length+(cQ 0).length+(" ":Str).length<=30 by omega) (by decide)
   have hB:((J++(cQ 0))++Str.ofString " ").length<=30:=by rw[bS,bS];omega
   generalize (J++(cQ 0))++Str.ofString " "=B at hB k⊢
   refine⟨_,O,_,O,B,1,O,by decide,by decide,λH3 s3=>?_⟩
   have hd:(zH B 1).length<=1:=by
    show(zG B cV 1).toArray.size<=1
    rw[aap];exact vM _ _ _
   refine⟨_,_,O,O,?_,_,O,?_,k H3 (s2.trans s3)⟩
   ·exact aao (show B.length+(zH B 1).length<=40 by omega) (by decide)
   ·rw[bS];exact aao (show B.length+(zH B 1).length<=40 by omega) (by decide)
def pH(K:W.Frag)(C CT CC:Addr):Sp:=λvs H Q _=>∃(m dm a da b db:Addr)(x y:eF),vs=[.ref m,.ref a,.ref b]/\H m=some (.ins CC dm [])/\H a=some (.ins C da (jV x))/\tG x/\H b=some (.ins C db (jV y))/\tG y/\∀H',HC C CT CC H' m x y (Cd x y)->(∀b o,H b=some o->b≠m->H' b=some o)->Q .non H'
theorem jb:bw P w K mg base fJ 8 (aC 21) (aM 21) ["self","one","other"] (pH K (aC 51) (aC 52) (aC 53)):=by
 have lH:=@sF P w K mg base aC aM cQ T
 have BX:=@Ag P w K mg base aC aM cQ T
 refine T.qt.ok o5 (λvs H Q E h=>?_) (λcdv A outer s H vs Q E hr h=>?_)
 ·obtain⟨m,dm,a,da,b,db,x,y,rfl,_⟩:=h;rfl
 ·have hu:=aU hr
  have gH:=hr.aN
  obtain⟨m,dm,a,da,b,db,x,y,rfl,hm,ha,gx,hb,gy,k⟩:=h
  refine⟨_,(ai (gM (pv 0) (kh (k:=6) T.HR lH (hr.mono (by decide)) rfl T.HQ T.lD .nil fE (af (pv 1) ah)) rfl)
   (ai (gM (pv 0) (kh (k:=6) T.HR lH (hr.mono (by decide)) rfl T.HQ T.lD .nil fE (af (pv 2) ah)) rfl)
   (ak (gM (pv 0) (fR BX hr T.BK T.tO.kp T.BJ (af (dO (af (pv 1) (af (pv 2) ah))) ah)) rfl)))),?_⟩
  refine⟨_,O,λt1 SJ ht1 Fg ne=>⟨t1,SJ,a,da,_,_,_,_,_,_,_,O,aj,gJ ht1 Fg ha,gx,λH2 hT1 kp=>⟨O,?_⟩⟩⟩
  have s2:=jT ht1 Fg kp
  have hm2:=s2 _ _ hm
  refine⟨_,O,m,(aC 53),dm,_,O,hm2,T.dH,T.gb,(by show 0<1000;decide),?_⟩
  have WD:b≠m:=λq=>by rw[q,hm]at hb;injection hb with hb;injection hb with _ _ hb;exact nomatch hb
  have WE:a≠m:=λq=>by rw[q,hm]at ha;injection ha with ha;injection ha with _ _ ha;exact nomatch ha
  have SK:(upd H2 m (.ins (aC 53) dm [("first",.ref t1)])) b=some (.ins (aC 51) db (jV y)):=(aH WD).trans (s2 _ _ hb)
  have WG:(upd H2 m (.ins (aC 53) dm [("first",.ref t1)])) a=some (.ins (aC 51) da (jV x)):=(aH WE).trans (s2 _ _ ha)
  have WH:HB (aC 51) (aC 52) (upd H2 m (.ins (aC 53) dm [("first",.ref t1)])) t1 x:=by
   refine Tn.off2 hm2 ?_ ?_ hT1
   ·intro d fs q;injection q with q1 q2 q3;cases q3
   ·intro d q;injection q with q1 q2 q3;cases q3
  have K4:=aj (H:=H2) (a:=m) (o:=.ins (aC 53) dm [("first",.ref t1)])
  have k3:∀b o,H b=some o->b≠m->(upd H2 m (.ins (aC 53) dm [("first",.ref t1)])) b=some o:=λb o e ne=>(aH ne).trans (s2 _ _ e)
  show IC _ _ _ _ (upd H2 m (.ins (aC 53) dm [("first",.ref t1)]))
  generalize upd H2 m (.ins (aC 53) dm [("first",.ref t1)])=H3 at SK WG WH K4 k3⊢
  refine⟨_,O,λt2 Zh xH Pa ne2=>⟨t2,Zh,b,db,_,_,_,_,_,_,_,O,aj,gJ xH Pa SK,gy,λH4 hT2 Zi=>⟨O,?_⟩⟩⟩
  have s4:=jT xH Pa Zi
  have Nb:=s4 _ _ K4
  refine⟨_,O,m,(aC 53),dm,_,O,Nb,T.dH,T.e9,(by show 1<1000;decide),?_⟩
  have QA:(upd H4 m (.ins (aC 53) dm [("first",.ref t1),("second",.ref t2)])) b=some (.ins (aC 51) db (jV y)):=(aH WD).trans (s4 _ _ SK)
  have QB:(upd H4 m (.ins (aC 53) dm [("first",.ref t1),("second",.ref t2)])) a=some (.ins (aC 51) da (jV x)):=(aH WE).trans (s4 _ _ WG)
  have QC:HB (aC 51) (aC 52) (upd H4 m (.ins (aC 53) dm [("first",.ref t1),("second",.ref t2)])) t1 x:=by
   refine Tn.off2 Nb ?_ ?_ (WH.mono s4)
   ·intro d fs q;injection q with q1 q2 q3;injection q3 with q4 q5;injection q4 with q6 q7;exact absurd q6 (by decide +kernel)
   ·intro d q;injection q with q1 q2 q3;injection q3 with q4 q5;injection q4 with q6 q7;exact absurd q6 (by decide +kernel)
  have WI:HB (aC 51) (aC 52) (upd H4 m (.ins (aC 53) dm [("first",.ref t1),("second",.ref t2)])) t2 y:=by
   refine Tn.off2 Nb ?_ ?_ hT2
   ·intro d fs q;injection q with q1 q2 q3;injection q3 with q4 q5;injection q4 with q6 q7;exact absurd q6 (by decide +kernel)
   ·intro d q;injection q with q1 q2 q3;injection q3 with q4 q5;injection q4 with q6 q7;exact absurd q6 (by decide +kernel)
  have Pb:=aj (H:=H4) (a:=m) (o:=.ins (aC 53) dm [("first",.ref t1),("second",.ref t2)])
  have k5:∀b o,H b=some o->b≠m->(upd H4 m (.ins (aC 53) dm [("first",.ref t1),("second",.ref t2)])) b=some o:=λb o e ne=>(aH ne).trans (s4 _ _ (k3 _ _ e ne))
  show IC _ _ _ _ (upd H4 m (.ins (aC 53) dm [("first",.ref t1),("second",.ref t2)]))
  generalize upd H4 m (.ins (aC 53) dm [("first",.ref t1),("second",.ref t2)])=H5 at QA QB QC WI Pb k5⊢
  refine⟨_,O,_,O,(by show(2:Nat)<=sizeLine;decide),λl hl=>?_⟩
  have s6:=au (o:=HO.lst [.ref a,.ref b]) hl
  refine⟨l,_,[x,y],O,aj,(.cons ⟨a,da,O,s6 _ _ QB⟩ (.cons ⟨b,db,O,s6 _ _ QA⟩ .nil)),(λc hc=>?_),(aaj 2),λH7 s7=>?_⟩
  ·rcases aaE.mp hc with e|e
   ·rw[e];exact gx
   ·rw[aau.mp e];exact gy
  have JW:=s6.trans s7
  have SM:=JW _ _ Pb
  refine⟨_,O,m,(aC 53),dm,_,O,SM,T.dH,T.dW,(by show 2<1000;decide),?_⟩
  refine k _ ⟨dm,t1,t2,aj,Tn.off2 SM ?_ ?_ (QC.mono JW),Tn.off2 SM ?_ ?_ (WI.mono JW)⟩ λb o e hb=>(aH hb).trans (JW _ _ (k5 _ _ e hb))
  ·intro d fs q;injection q with q1 q2 q3;injection q3 with q4 q5;injection q4 with q6 q7;exact absurd q6 (by decide +kernel)
  ·intro d q;injection q with q1 q2 q3;injection q3 with q4 q5;injection q4 with q6 q7;exact absurd q6 (by decide +kernel)
  ·intro d fs q;injection q with q1 q2 q3;injection q3 with q4 q5;injection q4 with q6 q7;exact absurd q6 (by decide +kernel)
  ·intro d q;injection q with q1 q2 q3;injection q3 with q4 q5;injection q4 with q6 q7;exact absurd q6 (by decide +kernel)
def uL(K:W.Frag)(C CT CC:Addr):Sp:=λvs H Q _=>∃(a p:Addr)(s1 s2:V)(o1 o2:Option cP)(c:Nat)(x y:eF)(z:Str),vs=[.ref a,.ref p,.str (sg c)]/\HC C CT CC H a x y z/\aK K H p [s1,s2]/\jQ K H o1 s1/\jQ K H o2 s2/\∀t v1 v2 H',aF H H'->H' t=some (.tup [v1,v2])->AQ K (iD x o1 c) H' v1->AQ K (iD y o2 c) H' v2->Q (.ref t) H'
theorem lI:bw P w K mg base fJ 5 (aC 22) (aM 22) ["self","pair","sign"] (uL K (aC 51) (aC 52) (aC 53)):=by
 have j3:=@qC P w K mg base aC aM cQ T
 refine T.wA.ok uq (λvs H Q E h=>?_) (λcdv A outer s H vs Q E hr h=>?_)
 ·obtain⟨a,p,s1,s2,o1,o2,c,x,y,z,rfl,_⟩:=h;rfl
 ·have hu:=aU hr
  have gH:=hr.aN
  obtain⟨a,p,s1,s2,o1,o2,c,x,y,z,rfl,hC,hp,h1,h2,k⟩:=h
  refine⟨_,(ak (az (aB (af (iw (k:=4) (aO K rfl (pv 0) rfl) T.e7 T.jY j3 (hr.mono (by decide)) T.jX .nil fE (af (cg K (pv 1) ao) (af (pv 2) ah))) (af (iw (k:=4) (aO K rfl (pv 0) rfl) T.e7 T.jY j3 (hr.mono (by decide)) T.jX .nil fE (af (cg K (pv 1) ao) (af (pv 2) ah))) ah))))),?_⟩
  obtain⟨da,t,u,e1,e2,e3⟩:=hC.ok
  obtain⟨dt,d1,Nc,et,ed1⟩:=e2.ok
  obtain⟨du,d2,dd2,eu,ed2⟩:=e3.ok
  refine⟨_,O,_,_,_,_,_,O,e1,T.dH,T.gb,O,_,_,_,O,et,O,_,O,_,_,_,_,O,O,hp,O,_,O,_,_,_,_,_,O,e2,h1,λv1 H1 S1 L1=>⟨_,O,_,_,_,_,_,O,(S1 _ _ e1),T.dH,T.e9,O,_,_,_,O,(S1 _ _ eu),O,_,O,?_⟩⟩
  refine⟨_,_,_,_,O,O,av S1 hp,O,_,O,_,_,_,_,_,O,e3.mono S1,fX S1 h2,λv2 H2 S2 L2=>⟨(by show(2:Nat)<=sizeLine;decide),λt ht=>?_⟩⟩
  have S3:=au (o:=HO.tup [v1,v2]) ht
  exact k t v1 v2 _ (S1.trans (S2.trans S3)) aj (iE (S2.trans S3) L1) (iE S3 L2)
def sI(P:Program)(w:World)(K:W.Frag):Sp:=λvs H Q _=>∃(t d:Addr)(v1 v2:V)(k:Str)(s s':cP)(kvs:List (N3 (Lf⊕List Lf)))(qs:List Pq),vs=[.ref t,.ref d]/\aK K H t [v1,v2]/\AQ K (some (k,s)) H v1/\AQ K (some (k,s')) H v2/\Jq (YM P w K) (bT P w) H d kvs/\vY K H kvs qs/\(some s,some s')∈qs/\∀H',aF H H'->Q (.bl true) H'
theorem sM:bw P w K mg base fJ 1 (aC 23) (aM 23) ["steps","known"] (sI P w K):=by
 refine T.lE.ok rX (λvs H Q E h=>?_) (λcdv A outer s H vs Q E hr h=>?_)
 ·obtain⟨t,d,v1,v2,k,s,s',kvs,qs,rfl,_⟩:=h;rfl
 ·have hu:=aU hr
  have gH:=hr.aN
  obtain⟨t,d,v1,v2,kd,s,s',kvs,qs,rfl,ht,h1,h2,hd,cr,hm,k⟩:=h
  have eg:=hr.units
  obtain⟨a1,b1,rfl,e1,e2⟩:=h1
  obtain⟨a2,b2,rfl,e3,e4⟩:=h2
  refine⟨_,(ai (aG (PW.pt (cN (cJ gu (cg K (pv 0) ao) bq) (cI (cJ gu (cg K (pv 0) ao) bq)))) (ak (az gm)) aA)
   (ak (az (lU (zB aR (cg K (cg K (pv 0) ao) ao) (cg K (cg K (pv 0) ao) ao)) (oO (FU (D7 (YM P w K) (bT P w) rfl rfl rfl (hn2 eg) (aB (af (cg K (cg K (pv 0) ao) ao) (af (cg K (cg K (pv 0) ao) ao) ah))) (pv 1)))))))),?_⟩
  refine⟨_,rfl,_,_,_,_,rfl,rfl,ht,rfl,rfl,_,rfl,oV (λz=>nomatch z) (⟨_,rfl,_,_,_,_,rfl,rfl,ht,rfl,rfl,_,rfl,oV (λz=>nomatch z) (⟨_,rfl,_,_,_,_,rfl,rfl,ht,rfl,_,_,_,_,rfl,rfl,e1,rfl,_,rfl,_,_,_,_,rfl,rfl,ht,rfl,_,_,_,_,rfl,rfl,e3,rfl,rfl,_,rfl,Jo rfl (⟨_,rfl,_,_,_,_,rfl,rfl,ht,rfl,_,_,_,_,rfl,rfl,e1,rfl,_,rfl,_,_,_,_,rfl,rfl,ht,rfl,_,_,_,_,rfl,rfl,e3,rfl,(by show(2:Nat)<=sizeLine;decide),λtt Ff=>⟨_,rfl,?_⟩⟩)⟩)⟩)⟩
  have s1:=au (o:=HO.tup [.ref b1,.ref b2]) Ff
  refine⟨d,kvs,kK (some s,some s'),tt,rfl,rfl,vZ s1 hd,tH (q:=(some s,some s')) ⟨tt,_,_,rfl,aK.of aj,⟨b1,rfl,av s1 e2⟩,⟨b2,rfl,av s1 e4⟩⟩,?_⟩
  rw[aah (by decide),nJ cr,aar hm]
  exact k _ s1
def nZ(P:Program)(w:World)(K:W.Frag)(C CT CC:Addr):Sp:=λvs H Q _=>∃(a p d s1 s2:Addr)(s s':cP)(x y:eF)(z:Str)(kvs:List (N3 (Lf⊕List Lf)))(qs:List Pq),vs=[.ref a,.ref p,.ref d]/\HC C CT CC H a x y z/\aK K H p [.ref s1,.ref s2]/\aK K H s1 [.str s.1,.str s.2]/\aK K H s2 [.str s'.1,.str s'.2]/\Jq (YM P w K) (bT P w) H d kvs/\vY K H kvs qs/\((some s=ou)↔(some s'=ou))/\(∀c∈z.cps.toList,(iD x (some s) c=none/\iD y (some s') c=none)\/∃k t t',iD x (some s) c=some (k,t)/\iD y (some s') c=some (k,t')/\(some t,some t')∈qs)/\∀H',aF H H'->Q (.bl true) H'
theorem n5:bw P w K mg base fJ 6 (aC 24) (aM 24) ["self","pair","known"] (nZ P w K (aC 51) (aC 52) (aC 53)):=by
 have jc:=@lI P w K mg base aC aM cQ T
 have uM:=@sM P w K mg base aC aM cQ T
 refine T.o9.ok eG (λvs H Q E h=>?_) (λcdv A outer s H vs Q E hr h=>?_)
 ·obtain⟨a,p,d,s1,s2,s,s',x,y,z,kvs,qs,rfl,_⟩:=h;rfl
 ·have hu:=aU hr
  have gH:=hr.aN
  obtain⟨a,p,d,s1,s2,s,s',x,y,z,kvs,qs,rfl,hC,hp,h1,h2,hd,cr,hse,hz,k⟩:=h
  have eg:=hr.units
  have hst:aK K H (aC 59) [.str ("row":Str),.str ("":Str)]:=.inr T.gK
  obtain⟨da,t,u,e1,e2,e3⟩:=hC.ok
  refine⟨_,(ai (aG (cJ jj (zB (rz (YL _ _ K) rfl (hn0 eg)) (cg K (pv 1) ao) (dh rfl T.c6)) (zB (rz (YL _ _ K) rfl (hn0 eg)) (cg K (pv 1) ao) (dh rfl T.c6))) (ak (az gm)) aA)
   (ai (fL aaL rfl (kj (aO K rfl (pv 0) rfl)) (gA 3 eG.nd)
   (ai (eX 4 eG.nd (iw (k:=5) (pv 0) T.dH T.mX jc (hr.mono (by decide)) T.mW .nil fE (af (pv 1) (af (pv 3) ah))))
   (ak (aG (PW.pt (cS (cJ (CI (g9 (YM _ _ K)) rfl (hs2 eg)) (pv 4) (aB (af bq (af bq ah)))) (cC (bG (aY (fR uM hr T.uB T.lE.kp T.uA (af (pv 4) (af (pv 2) ah)))))))) (ak (az gm)) aA))))
   (ak (az gm)))),?_⟩
  refine⟨_,O,_,_,_,_,O,O,hp,O,?_⟩
  refine⟨s1,(aC 59),_,_,rfl,rfl,iz (P:=P) (w:=w) h1,iz (P:=P) (w:=w) hst,?_⟩
  refine⟨_,O,_,_,_,_,O,O,hp,O,?_⟩
  refine⟨s2,(aC 59),_,_,rfl,rfl,iz (P:=P) (w:=w) h2,iz (P:=P) (w:=w) hst,?_⟩
  have eb:decide (jP s.1 s.2=jP ("row":Str) ("":Str))=decide (jP s'.1 s'.2=jP ("row":Str) ("":Str)):=by
   have q:∀s:cP,(jP s.1 s.2=jP ("row":Str) ("":Str))↔some s=ou:=λs=>⟨λe=>congrArg some (iJ.mp e),λe=>iJ.mpr (aaC e)⟩
   rw[aaT,aaP,aaP,q,q];exact hse
  rw[eb]
  refine⟨O,_,O,LM rfl ?_⟩
  refine⟨_,O,_,_,_,_,_,O,e1,T.dH,T.dW,O,_,O,?_⟩
  refine nA (z:=z) (λi σ J=>aF H J/\∃v3 v4,σ=[some (.ref a),some (.ref p),some (.ref d),v3,v4]) ⟨aF.refl _,_,_,rfl⟩ ?_ ?_
  rotate_left
  ·rintro σ J ⟨sJ,v3,v4,rfl⟩
   exact k _ sJ
  rintro i c σ J hi ⟨sJ,v3,v4,rfl⟩
  dsimp only[bH]
  refine⟨_,O,_,_,_,O,sJ _ _ e1,O,_,O,_,O,a,p,.ref s1,.ref s2,some s,some s',c,x,y,z,O,hC.mono sJ,av sJ hp,⟨s1,O,av sJ h1⟩,⟨s2,O,av sJ h2⟩,λt v1 v2 J2 S2 xH L1 L2=>?_⟩
  dsimp only[bH]
  refine⟨_,O,(by show(2:Nat)<=sizeLine;decide),λn0 hn0=>?_⟩
  have s3:=au (o:=HO.tup [.non,.non]) hn0
  have g3:aK K (upd J2 n0 (HO.tup [.non,.non])) n0 [.non,.non]:=aK.of aj
  have FG:=sJ.trans (S2.trans s3)
  have HY:=s3 _ _ xH
  have M1:=iE s3 L1
  have M2:=iE s3 L2
  generalize upd J2 n0 (HO.tup [.non,.non])=J3 at g3 FG HY M1 M2⊢
  refine⟨t,n0,[K0 _,K0 _],[.inl none,.inl none],rfl,rfl,⟨_,aK.of HY,.cons (Ek (P:=P) (w:=w) M1) (.cons (Ek (P:=P) (w:=w) M2) .nil)⟩,⟨_,g3,.cons rfl (.cons rfl .nil)⟩,_,rfl,?_⟩
  rcases hz c (aaJ hi) with hb|⟨kd,t1,t2,q1,q2,q3⟩
  ·refine jm (by rw[aar (by rw[hb.1,hb.2];rfl)];rfl) ?_
   first|exact⟨FG,_,_,rfl⟩|exact bM ⟨FG,_,_,rfl⟩
  ·rw[q1]at M1
   rw[q2]at M2
   refine jS (by rw[aas (λq=>by rw[q1]at q;injection q with q _;exact nomatch q)];rfl) ?_
   refine⟨_,O,_,O,t,d,v1,v2,kd,t1,t2,kvs,qs,O,aK.of HY,M1,M2,vZ FG hd,iU (λb xs q=>av FG q) cr,q3,λJ4 s4=>⟨_,O,bM ⟨FG.trans s4,_,_,O⟩⟩⟩
def Dc(K:W.Frag)(C:Addr):Sp:=λvs H Q _=>∃(a da b db p s1 s2:Addr)(w u w' u':Str)(x y:eF),vs=[.ref a,.ref b,.ref p]/\H a=some (.ins C da (jV x))/\tG x/\H b=some (.ins C db (jV y))/\tG y/\aK K H p [.ref s1,.ref s2]/\aK K H s1 [.str w,.str u]/\aK K H s2 [.str w',.str u']/\jU x.2.1 w u/\dz x.2.2.1 w u=true/\jU y.2.1 w' u'/\dz y.2.2.1 w' u'=true/\∀H',aF H H'->Q (.bl true) H'
theorem Dd:bw P w K mg base fJ 3 (aC 25) (aM 25) ["one","other","thing"] (Dc K (aC 51)):=by
 have lJ:=@sr P w K mg base aC aM cQ T
 refine T.yG.ok C2 (λvs H Q E h=>?_) (λcdv A outer s H vs Q E hr h=>?_)
 ·obtain⟨a,da,b,db,p,s1,s2,w,u,w',u',x,y,rfl,_⟩:=h;rfl
 ·have hu:=aU hr
  have gH:=hr.aN
  obtain⟨a,da,b,db,p,s1,s2,w,u,w',u',x,y,rfl,ha,gx,hb,gy,hp,h1,h2,o1,l1,o2,l2,k⟩:=h
  refine⟨_,(ai (aG (PW.pt (cN (bG (aY (nE (iA K rfl) T.aT (af (pv 2) (af (Ec "tuple" T.i0) ah))))) (cI (cJ jj (nE (bz K rfl) T.eH (af (pv 2) ah)) ao)))) (ak (az gm)) aA)
   (ak (az (lU (fR lJ hr T.lA T.gW.kp T.lz (af (pv 0) (af (cg K (pv 2) ao) ah))) (oO (fR lJ hr T.lA T.gW.kp T.lz (af (pv 1) (af (cg K (pv 2) ao) ah)))))))),?_⟩
  refine⟨_,O,_,_,_,_,O,.Oo hp,O,_,O,bM ?_⟩
  refine⟨_,O,_,_,O,.inr hp,O,_,O,Oh (by simp) (⟨_,O,_,O,_,_,_,_,O,O,hp,O,_,_,_,_,_,_,O,ha,gx,h1,o1,l1,λH1 s1=>⟨_,O,jO (⟨_,O,_,O,?_⟩)⟩⟩)⟩
  have ha1:=s1 _ _ ha
  have hb1:=s1 _ _ hb
  have hp1:=av s1 hp
  have h21:=av s1 h2
  exact⟨p,_,_,_,O,O,hp1,O,b,db,s2,w',u',y,O,hb1,gy,h21,o2,l2,λH2 s2=>k _ (s1.trans s2)⟩
def BY(P:Program)(w:World)(K:W.Frag)(C CT CC:Addr):Sp:=λvs H Q _=>∃(a da b db l:Addr)(vs':List V)(x y:eF)(qs:List (cP×cP)),vs=[.ref a,.ref b,.ref l]/\H a=some (.ins C da (jV x))/\tG x/\H b=some (.ins C db (jV y))/\tG y/\H l=some (.lst vs')/\Paired (c9 K H) vs' (qs.map λq=>(some q.1,some q.2))/\qs.Nodup/\qs.length<=700000/\(∀q∈qs,jU x.2.1 q.1.1 q.1.2/\dz x.2.2.1 q.1.1 q.1.2=true/\jU y.2.1 q.2.1 q.2.2/\dz y.2.2.1 q.2.1 q.2.2=true/\(some q.1=ou↔some q.2=ou)/\∀c∈(Cd x y).cps.toList,(iD x (some q.1) c=none/\iD y (some q.2) c=none)\/∃k t t',iD x (some q.1) c=some (k,t)/\iD y (some q.2) c=some (k,t')/\(t,t')∈qs)/\((Str.ofString "row",("":Str)),(Str.ofString "row",("":Str)))∈qs/\∀H',aF H H'->Q (.bl true) H'
theorem BZ:bw P w K mg base fJ 10 (aC 26) (aM 26) ["one","other","pairs"] (BY P w K (aC 51) (aC 52) (aC 53)):=by
 have gc:=@jb P w K mg base aC aM cQ T
 have pI:=@n5 P w K mg base aC aM cQ T
 have Fi:=@Dd P w K mg base aC aM cQ T
 refine T.wB.ok jo (λvs H Q E h=>?_) (λcdv A outer s H vs Q E hr h=>?_)
 ·obtain⟨a,da,b,db,l,vs',x,y,qs,rfl,_⟩:=h;rfl
 ·have hu:=aU hr
  have gH:=hr.aN
  obtain⟨a,da,b,db,lp,vs',x,y,ms,rfl,ha,gx,hb,gy,QD,em,nd,hbig,WJ,SN,k⟩:=h
  have eg:=hr.units
  have WK:=em.length
  rw[aaq]at WK
  refine⟨_,(ai (aG (PW.pt (cN (bG (aY (nE (bQ K rfl) T.aT (af (pv 2) (af (Ec "list" T.zZ) ah))))) (cI (bG (aY (nE (qZ K rfl rfl) T.C7 (af (iy rfl (show bP ["one","other","pairs","known","pair","couple"] (ay iP) ["pair","one","other"] 1 [0,1] _ from Ip) (fP K rfl (pv 2)) (λ_ _ _ _=>(gA 0 (show(["pair","one","other"]:List Str).Nodup by decide +kernel))) (λ_ _ _ _=>ki) (λ_ _ _ _=>(fR Fi hr T.E7 T.yG.kp T.E6 (af (pv 1) (af (pv 2) (af (pv 0) ah)))))) ah))))))) (ak (az gm)) aA)
   (ai (eX 3 jo.nd (Hf (ZM P w) (bT P w) rfl rfl))
   (ai (fL aaL rfl (fP K rfl (pv 2)) (gA 4 jo.nd)
   (ak (Bc (YM P w K) (bT P w) rfl rfl rfl (hn2 eg) (pv 3) (pv 4) gm rfl)))
   (ai (eX 5 jo.nd (kh (k:=8) T.BV gc (hr.mono (by decide)) rfl T.BU T.jq .nil fE (af (pv 0) (af (pv 1) ah))))
   (ak (az (lU (FU (D7 (YM P w K) (bT P w) rfl rfl rfl (hn2 eg) (aB (af (dh rfl T.c6) (af (dh rfl T.c6) ah))) (pv 3))) (oO (nE (qZ K rfl rfl) T.C7 (af (iy rfl (show bP ["one","other","pairs","known","pair","couple"] (ay iP) ["pair","known","couple"] 1 [3,5] _ from Ip) (Bg (YM P w K) (bT P w) rfl rfl rfl (pv 3)) (λ_ _ _ _=>(gA 0 (show(["pair","known","couple"]:List Str).Nodup by decide +kernel))) (λ_ _ _ _=>ki) (λ_ _ _ _=>(iw (k:=6) (pv 2) T.dH T.pA pI (hr.mono (by decide)) T.pe .nil fE (af (pv 0) (af (pv 1) ah))))) ah)))))))))),?_⟩
  refine⟨_,O,_,_,_,_,O,.lst QD,.inl ⟨_,⟨O,O⟩⟩,_,O,bM (⟨_,O,_,O,⟨_,bW.of QD⟩,λD hD=>?_⟩)⟩
  have Pc:∀{i:Nat}{e:V},vs'[i]?=some e->∃q p s1 s2,ms[i]?=some q/\e=.ref p/\aK K H p [.ref s1,.ref s2]/\aK K H s1 [.str q.1.1,.str q.1.2]/\aK K H s2 [.str q.2.1,.str q.2.2]:=λ{i e} hi=>by
   obtain⟨q',hq',p,v1,v2,e1,e2,e3,e4⟩:=bV em i e hi
   rw[aby]at hq'
   cases hm:ms[i]? with
   |none=>rw[hm]at hq';cases hq'
   |some q =>
    rw[hm]at hq'
    cases hq'
    obtain⟨s1,rfl,f1⟩:=e3
    obtain⟨s2,rfl,f2⟩:=e4
    exact⟨q,p,s1,s2,O,e1,e2,f1,f2⟩
  refine nB (K:=K) (a:=lp) (xs:=vs') (λi ws τ J=>(∃v,τ=[v,some (.ref a),some (.ref b)])/\aF H J/\J D=some (.lst ws)/\ws=(List.replicate i true).map V.bl) ⟨⟨_,rfl⟩,au hD,aj,rfl⟩ (λi ws τ J _ p=>⟨bW.of (p.2.1 _ _ QD),p.2.2.1⟩) ?_ ?_
  ·rintro i e ws τ J hi ⟨⟨v,rfl⟩,sJ,hJ,hws⟩
   obtain⟨q,p,s1,s2,hm,rfl,f0,f1,f2⟩:=Pc hi
   obtain⟨o1,l1,o2,l2,_⟩:=WJ q (aaJ hm)
   have hil:=(aal.mp hi).1
   have hwl:ws.length=i:=by rw[hws,aaq,abg]
   refine CQ ?_
   refine⟨_,O,_,O,_,O,a,da,b,db,p,s1,s2,_,_,_,_,x,y,O,sJ _ _ ha,gx,sJ _ _ hb,gy,av sJ f0,av sJ f1,av sJ f2,o1,l1,o2,l2,λJ2 s2=>?_⟩
   exact⟨s2 _ _ hJ,aaI (show ws.length<=700000 by omega) (by decide),⟨_,O⟩,bf hD (sJ.trans s2),aj,by rw[hws,List.replicate_succ',aaO];rfl⟩
  rintro ws τ J ⟨⟨v,rfl⟩,sJ,hJ,rfl⟩
  refine⟨D,_,O,bW.of hJ,?_⟩
  rw[show(List.replicate vs'.length true).all id=true from abf.mpr λb hb=>(List.mem_replicate.mp hb).2]
  refine⟨_,O,bM ?_⟩
  dsimp only[DM]
  refine λkn hkn=>?_
  have sK:=au (o:=dN (ZM P w) (bT P w) kn []) hkn
  have c0:BB P w K (upd J kn (dN (ZM P w) (bT P w) kn [])) kn ((ms.take 0).map λq=>(some q.1,some q.2)):=⟨[],⟨aj,λe he=>nomatch he⟩,.nil⟩
  have SO:H kn=none:=sJ.free hkn
  generalize upd J kn (dN (ZM P w) (bT P w) kn [])=J0 at sK c0⊢
  dsimp only[bH]
  have Pd:=sJ _ _ QD
  refine⟨_,O,lp,O,⟨_,bW.of (sK _ _ Pd)⟩,?_⟩
  refine lZ (K:=K) (a:=lp) (xs:=vs') (λi σ G=>aF J G/\BB P w K G kn ((ms.take i).map λq=>(some q.1,some q.2))/\∃v4 v5,σ=[some (.ref a),some (.ref b),some (.ref lp),some (.ref kn),v4,v5]) ⟨sK,c0,_,_,rfl⟩ (λi σ G _ q=>bW.of (q.1 _ _ Pd)) ?_ ?_
  ·rintro i e σ G hi ⟨sG,ca,v4,v5,rfl⟩
   obtain⟨q,p,s1,s2,hm,rfl,f0,f1,f2⟩:=Pc hi
   have hil:=(aal.mp hi).1
   have Mt:=sJ.trans sG
   have Iq:c9 K G (.ref p) (some q.1,some q.2):=⟨p,_,_,rfl,av Mt f0,⟨s1,rfl,av Mt f1⟩,⟨s2,rfl,av Mt f2⟩⟩
   obtain⟨kvs,d,cr⟩:=ca.ok
   have kl:=aa1 cr
   rw[aaq,aaQ]at kl
   have hno:(some q.1,some q.2)∉(ms.take i).map λq=>(some q.1,some q.2):=λz=>by
    obtain⟨q',h1,h2⟩:=aaF.mp z
    injection h2 with h2 h3
    have e:q'=q:=Prod.ext (aaC h2) (aaC h3)
    rw[e]at h1
    exact Hv nd hm h1
   dsimp only[bH]
   refine⟨_,O,_,O,kn,kvs,kK (some q.1,some q.2),p,O,O,d,tH Iq,aaI (show kvs.length<=700000 by omega) (by decide),bf hkn sG,?_,_,_,O⟩
   rw[fq hm,aaO]
   exact BB.put d cr Iq hno
  rintro σ G ⟨sG,ca,v4,v5,rfl⟩
  rw[WK,aaz (aaj _)]at ca
  have Mt:=sJ.trans sG
  refine⟨_,O,_,O,λq dq hq Mu ne=>?_⟩
  refine⟨q,dq,a,da,b,db,x,y,O,aj,gJ hq Mu (Mt _ _ ha),gx,gJ hq Mu (Mt _ _ hb),gy,λH3 hC kp=>⟨O,?_⟩⟩
  have s3:=jT hq Mu kp
  have K3:=Mt.trans s3
  have QE:=ca.mono s3
  dsimp only[bH]
  refine⟨(by show(2:Nat)<=sizeLine;decide),λt0 ht0=>?_⟩
  have s4:=au (o:=HO.tup [.ref (aC 59),.ref (aC 59)]) ht0
  have g4:=aj (H:=H3) (a:=t0) (o:=HO.tup [.ref (aC 59),.ref (aC 59)])
  replace QE:=QE.mono s4
  replace hC:=hC.mono s4
  replace K3:=K3.trans s4
  generalize upd H3 t0 (HO.tup [.ref (aC 59),.ref (aC 59)])=H4 at s4 g4 QE hC K3⊢
  have hst:aK K H4 (aC 59) [.str ("row":Str),.str ("":Str)]:=.inr T.gK
  obtain⟨kvs,d,cr⟩:=QE.ok
  have kl:=aa1 cr
  rw[aaq]at kl
  refine⟨_,rfl,kn,kvs,kK (ou,ou),t0,rfl,rfl,d.x,tH (q:=(ou,ou)) ⟨t0,_,_,rfl,aK.of g4,⟨_,rfl,hst⟩,⟨_,rfl,hst⟩⟩,?_⟩
  have hin:(ou,ou)∈ms.map λq=>(some q.1,some q.2):=aaF.mpr ⟨_,SN,rfl⟩
  rw[aah (by decide),nJ cr,aar hin]
  refine⟨_,O,jO ?_⟩
  refine⟨_,O,kn,kvs,O,d,λo D2 SQ=>?_⟩
  have tq:=mD (F:=K) d.ob (o:=dX (ZM P w) (bT P w) kn kvs o)
  have Mv:=iU tq cr
  have WL:HC (aC 51) (aC 52) (aC 53) (upd H4 kn (dX (ZM P w) (bT P w) kn kvs o)) q x y (Cd x y):=hC.ext d.ob
  have WM:∀e∈kvs,k9 (YM P w K) (upd H4 kn (dX (ZM P w) (bT P w) kn kvs o)) e.1 e.2.1:=λe he=>(d.keys e he).keep tq
  have s5:aF H (upd H4 kn (dX (ZM P w) (bT P w) kn kvs o)):=bf SO K3
  have Nf:(upd H4 kn (dX (ZM P w) (bT P w) kn kvs o)) kn=some (dX (ZM P w) (bT P w) kn kvs o):=aj
  generalize upd H4 kn (dX (ZM P w) (bT P w) kn kvs o)=H5 at SQ Mv WL WM s5 Nf⊢
  refine yx (λi ws τ G=>(∃v,τ=[v,some (.ref kn),some (.ref q)])/\aF H5 G/\G D2=some (.lst ws)/\ws=(List.replicate i true).map V.bl) ⟨⟨_,rfl⟩,au SQ,aj,rfl⟩ (λi ws τ G _ p=>⟨p.2.1 _ _ Nf,p.2.2.1⟩) ?_ ?_
  ·rintro i e ws τ G' hi ⟨⟨v,rfl⟩,JX,hG,hws⟩
   have hil:=(aal.mp hi).1
   obtain⟨pq,hpq,hke,p,v1,v2,ep,f0,f1,f2⟩:=bV Mv i e hi
   obtain⟨m,hm,rfl⟩:=aaF.mp (aaJ hpq)
   obtain⟨s1,rfl,f1⟩:=f1
   obtain⟨s2,rfl,f2⟩:=f2
   obtain⟨o1,l1,o2,l2,hse,hcl⟩:=WJ m hm
   have WN:=WL.mono JX
   obtain⟨dc,t,u,e1,e2,e3⟩:=WN.ok
   have hwl:ws.length=i:=by rw[hws,aaq,abg]
   refine CQ ?_
   have hX:Jq (YM P w K) (bT P w) H5 kn kvs:=⟨.inr ⟨o,Nf⟩,WM⟩
   refine⟨_,O,_,_,_,O,e1,O,_,O,_,O,q,p,kn,s1,s2,m.1,m.2,x,y,Cd x y,kvs,_,by rw[←ep];rfl,WN,av JX f0,av JX f1,av JX f2,vZ JX hX,iU (λb xs q=>av JX q) Mv,hse,(λc hc=>?_),λJ4 WO=>?_⟩
   ·rcases hcl c hc with z|⟨kd,t1,t2,z1,z2,z3⟩
    ·exact .inl z
    ·exact .inr ⟨kd,t1,t2,z1,z2,aaF.mpr ⟨_,z3,rfl⟩⟩
   ·exact⟨WO _ _ hG,aaI (show ws.length<=700000 by omega) (by decide),⟨_,O⟩,bf SQ (JX.trans WO),aj,by rw[hws,List.replicate_succ',aaO];rfl⟩
  rintro ws τ G' ⟨⟨v,rfl⟩,JX,hG,rfl⟩
  refine⟨D2,_,O,bW.of hG,?_⟩
  rw[show(List.replicate kvs.length true).all id=true from abf.mpr λb hb=>(List.mem_replicate.mp hb).2]
  exact k _ (s5.trans JX)
def De(K:W.Frag):Sp:=λvs H Q _=>∃(kd:Str)(c:Nat),vs=[.str kd,.str (sg c)]/\∀v H',aF H H'->lg K H' (nQ kd c) v->Q v H'
theorem Df:bw P w K mg base fJ 1 (aC 27) (aM 27) ["kind","sign"] (De K):=by
 refine T.sd.ok C3 (λvs H Q E h=>?_) (λcdv A outer s H vs Q E hr h=>?_)
 ·obtain⟨kd,c,rfl,_⟩:=h;rfl
 ·have hu:=aU hr
  have gH:=hr.aN
  obtain⟨kd,c,rfl,k⟩:=h
  refine⟨_,(ai (aG (cJ aR (pv 0) aq) (ak (az (aB ah))) aA)
   (ak (az (aB (af (aB (af (pv 0) (af (lV (cJ aR (pv 0) aq) (pv 1) aq) ah))) ah))))),?_⟩
  unfold nQ at k
  refine⟨_,O,O,_,O,aX (λ(h1:bh kd ("skip":Str)=true)=>?_) (λ(h1:¬bh kd ("skip":Str)=true)=>?_)⟩
  ·rw[aai h1]at k
   refine⟨(by decide),λt ht=>k _ _ (bf ht (aF.refl _)) ?_⟩
   exact⟨t,[],O,aK.of aj,.nil⟩
  rw[aah h1]at k
  refine⟨_,O,_,O,O,_,O,?_⟩
  refine aX (λ(h2:bh kd ("put":Str)=true)=>?_) (λ(h2:¬bh kd ("put":Str)=true)=>?_)
  ·rw[aai h2]at k
   refine⟨_,O,(by show(2:Nat)<=sizeLine;decide),λt ht=>⟨(by show(1:Nat)<=sizeLine;decide),?_⟩⟩
   exact λt2 xH=>k _ _ ((au ht).trans (au xH)) ⟨t2,[.ref t],rfl,aK.of aj,.cons ⟨t,rfl,av (au xH) (aK.of aj)⟩ .nil⟩
  ·rw[aah h2]at k
   refine⟨(by show(2:Nat)<=sizeLine;decide),λt ht=>⟨(by show(1:Nat)<=sizeLine;decide),?_⟩⟩
   exact λt2 xH=>k _ _ ((au ht).trans (au xH)) ⟨t2,[.ref t],rfl,aK.of aj,.cons ⟨t,rfl,av (au xH) (aK.of aj)⟩ .nil⟩
def wM(K:W.Frag):Sp:=λvs H Q _=>∃(t:Addr)(mv v1 v2:V)(m:FD)(a b:Ls)(c:Nat),vs=[mv,.ref t,.str (sg c)]/\uf K H m mv/\aK K H t [v1,v2]/\AQ K a H v1/\AQ K b H v2/\(∀x y,m=some (x,y)->x.length<=1000/\y.length<=1000)/\∀v H',aF H H'->uf K H' (JB m a b c) v->Q v H'
theorem wN:bw P w K mg base fJ 2 (aC 28) (aM 28) ["more","steps","sign"] (wM K):=by
 have yO:=@Df P w K mg base aC aM cQ T
 refine T.oE.ok iV (λvs H Q E h=>?_) (λcdv A outer s H vs Q E hr h=>?_)
 ·obtain⟨t,mv,v1,v2,m,a,b,c,rfl,_⟩:=h;rfl
 ·have hu:=aU hr
  have gH:=hr.aN
  obtain⟨t,mv,v1,v2,m,a,b,c,rfl,hm,ht,h1,h2,hl,k⟩:=h
  have eg:=hr.units
  refine⟨_,(ai (aG (PW.pt (cN (cJ gu (pv 0) bq) (cN (cJ gu (cg K (pv 1) ao) bq) (cI (cJ gu (cg K (pv 1) ao) bq))))) (ak (az bq)) aA)
   (ai (eX 3 iV.nd (aJ (D8 K rfl) (cg K (pv 0) ao) (fR yO hr T.yI T.sd.kp T.yH (af (cg K (cg K (pv 1) ao) ao) (af (pv 2) ah)))))
   (ai (eX 4 iV.nd (aJ (D8 K rfl) (cg K (pv 0) ao) (fR yO hr T.yI T.sd.kp T.yH (af (cg K (cg K (pv 1) ao) ao) (af (pv 2) ah)))))
   (ai (aG (PW.pt (cN (cJ (rz (YM _ _ K) rfl (hn1 eg)) (pv 3) (aB ah)) (cI (cJ (rz (YM _ _ K) rfl (hn1 eg)) (pv 4) (aB ah))))) (ak (az (aB (af (pv 3) (af (pv 4) ah))))) aA)
   (ak (az (lV (cJ (rz (YL _ _ K) rfl (hn0 eg)) (cg K (pv 3) ao) (cg K (pv 4) ao)) (aB (af (mj (DY K rfl) (pv 3) (pW ao) pV) (af (mj (DY K rfl) (pv 4) (pW ao) pV) ah))) bq))))))),?_⟩
  cases m with
  |none =>
   have hm:mv=.non:=hm
   subst hm
   refine⟨_,O,O,_,O,Jo rfl (jO (k _ _ (aF.refl _) hm))⟩
  |some xy =>
  obtain⟨x,y⟩:=xy
  obtain⟨l1,l2⟩:=hl x y rfl
  obtain⟨mb,w1,w2,rfl,em,e1,e2⟩:=hm
  cases a with
  |none =>
   have h1:v1=.non:=h1
   subst h1
   refine⟨_,rfl,rfl,_,rfl,oV (λz=>nomatch z) (⟨_,rfl,_,_,_,_,rfl,rfl,ht,rfl,rfl,_,rfl,Jo rfl (jO (k _ _ (aF.refl _) h1))⟩)⟩
  |some A =>
  obtain⟨k1,wa,ua⟩:=A
  obtain⟨a1,b1,rfl,Zj,eb1⟩:=h1
  cases b with
  |none =>
   have h2:v2=.non:=h2
   subst h2
   refine⟨_,rfl,rfl,_,rfl,oV (λz=>nomatch z) (⟨_,rfl,_,_,_,_,rfl,rfl,ht,rfl,rfl,_,rfl,oV (λz=>nomatch z) (⟨_,rfl,_,_,_,_,rfl,rfl,ht,rfl,rfl,_,rfl,Jo rfl (k _ _ (aF.refl _) h2)⟩)⟩)⟩
  |some B =>
  obtain⟨k2,wb,ub⟩:=B
  obtain⟨a2,b2,rfl,Zk,eb2⟩:=h2
  refine⟨_,rfl,rfl,_,rfl,oV (λz=>nomatch z) (⟨_,rfl,_,_,_,_,rfl,rfl,ht,rfl,rfl,_,rfl,oV (λz=>nomatch z) (⟨_,rfl,_,_,_,_,rfl,rfl,ht,rfl,rfl,_,rfl,oV (λz=>nomatch z) (⟨_,rfl,_,_,_,_,rfl,rfl,em,rfl,_,rfl,_,_,_,_,rfl,rfl,ht,rfl,_,_,_,_,rfl,rfl,Zj,rfl,_,rfl,_,_,rfl,λv3 H3 S3 T3=>?_⟩)⟩)⟩)⟩
  have k:∀v H',aF H H'->uf K H' (JA (x++nQ k1 c) (y++nQ k2 c)) v->Q v H':=k
  have p1:=vV k1 c
  have p2:=vV k2 c
  have WQ:100000<=sizeLine:=by decide
  obtain⟨x1,Pe,rfl,QF,SR⟩:=e1
  obtain⟨q1,Zl,rfl,hq1,SS⟩:=T3
  have lx1:=SR.length
  have Zm:=SS.length
  refine⟨x1,q1,Pe,Zl,O,O,av S3 QF,hq1,by omega,λv4 H4 S4 Zn=>?_⟩
  obtain⟨n1,rfl,Pf⟩:=Zn
  have T4:lg K H4 (x++nQ k1 c) (.ref n1):=⟨n1,_,rfl,Pf,bU (gI (λb xs q=>av (S3.trans S4) q) SR) (gI (λb xs q=>av S4 q) SS)⟩
  have Pg:=S3.trans S4
  have Zo:=av Pg em
  have SV:=av Pg ht
  have SW:=av Pg Zk
  have Zp:=eV Pg e2
  clear QF SR hq1 SS Pf S3 S4
  dsimp only[bH]
  refine⟨_,O,_,_,_,_,O,O,Zo,O,_,O,_,_,_,_,O,O,SV,O,_,_,_,_,O,O,SW,O,_,O,_,_,O,λv5 H5 S5 T5=>?_⟩
  obtain⟨x2,Zq,rfl,WR,SX⟩:=Zp
  obtain⟨q2,Ir,rfl,hq2,SY⟩:=T5
  have lx2:=SX.length
  have lq2:=SY.length
  refine⟨x2,q2,Zq,Ir,O,O,av S5 WR,hq2,by omega,λv6 H6 S6 Zr=>?_⟩
  obtain⟨n2,rfl,Ph⟩:=Zr
  have T6:lg K H6 (y++nQ k2 c) (.ref n2):=⟨n2,_,rfl,Ph,bU (gI (λb xs q=>av (S5.trans S6) q) SX) (gI (λb xs q=>av S6 q) SY)⟩
  have S0:=eV (S5.trans S6) T4
  have WS:=Pg.trans (S5.trans S6)
  clear WR SX hq2 SY Ph S5 S6 T4
  dsimp only[bH]
  have b1:(x++nQ k1 c).length<=1001:=by rw[aav];omega
  have b2:(y++nQ k2 c).length<=1001:=by rw[aav];omega
  generalize x++nQ k1 c=X1 at S0 b1 k
  generalize y++nQ k2 c=Y1 at T6 b2 k
  refine⟨_,O,(by decide),λe0 Zs=>?_⟩
  have s7:=au (o:=HO.tup []) Zs
  have q0:aK K (upd H6 e0 (HO.tup [])) e0 []:=aK.of aj
  have T7:=eV s7 S0
  have U7:=eV s7 T6
  have K5:=WS.trans s7
  generalize upd H6 e0 (HO.tup [])=H7 at s7 q0 T7 U7 K5⊢
  clear s7 WS S0 T6
  refine⟨n1,e0,_,[],rfl,rfl,Eb (P:=P) (w:=w) T7,⟨[],q0,.nil⟩,_,rfl,?_⟩
  cases X1 with
  |nil =>
   refine jS (aar rfl) (jO ⟨_,rfl,_,rfl,(by show(2:Nat)<=sizeLine;decide),λt' ht'=>?_⟩)
   have s8:=au (o:=HO.tup [.ref n1,.ref n2]) ht'
   exact k _ _ (K5.trans s8) ⟨t',_,_,rfl,aK.of aj,eV s8 T7,eV s8 U7⟩
  |cons xa X1 =>
  refine jm (aas λq=>nomatch q) ?_
  refine⟨_,O,(by decide),λe1 Zt=>?_⟩
  have s7:=au (o:=HO.tup []) Zt
  have q0:aK K (upd H7 e1 (HO.tup [])) e1 []:=aK.of aj
  replace T7:=eV s7 T7
  replace U7:=eV s7 U7
  replace K5:=K5.trans s7
  generalize upd H7 e1 (HO.tup [])=H8 at s7 q0 T7 U7 K5⊢
  clear s7
  refine⟨n2,e1,_,[],rfl,rfl,Eb (P:=P) (w:=w) U7,⟨[],q0,.nil⟩,_,rfl,?_⟩
  cases Y1 with
  |nil =>
   refine jS (aar rfl) ⟨_,rfl,_,rfl,(by show(2:Nat)<=sizeLine;decide),λt' ht'=>?_⟩
   have s8:=au (o:=HO.tup [.ref n1,.ref n2]) ht'
   exact k _ _ (K5.trans s8) ⟨t',_,_,rfl,aK.of aj,eV s8 T7,eV s8 U7⟩
  |cons ya Y1 =>
  refine jm (aas λq=>nomatch q) ?_
  obtain⟨n1',Pj,Zu,hv1,S7⟩:=T7
  cases Zu
  obtain⟨n2',S8,Zv,hv2,Mw⟩:=U7
  cases Zv
  cases S7 with
  |@cons _ w1 _ Pj hw1 S7 =>
  cases Mw with
  |@cons _ w2 _ S8 Ng Mw =>
  obtain⟨c1,rfl,hc1⟩:=hw1
  obtain⟨c2,rfl,hc2⟩:=Ng
  have k:∀v H',aF H H'->uf K H' (if xa=ya then some (X1,Y1) else none) v->Q v H':=k
  refine⟨_,O,_,_,_,_,O,O,hv1,(show Gp _ ((0:Nat):Int)=_ from pX rfl),_,O,_,_,_,_,O,O,hv2,(show Gp _ ((0:Nat):Int)=_ from pX rfl),?_⟩
  refine⟨c1,c2,_,_,rfl,rfl,iz (P:=P) (w:=w) hc1,iz (P:=P) (w:=w) hc2,_,rfl,?_⟩
  by_cases hxy:xa=ya
  ·rw[aai hxy]at k
   refine jS (aar (iJ.mpr hxy)) ?_
   have WT:∀(v:V)(vs:List V),¬(HT.gk (v::vs).length 0 (some 1)=0/\HT.gk (v::vs).length (v::vs).length none=(v::vs).length):=λv vs q=>by
    have q:=q.1
    have q:(if (1:Int)<0 then ((1:Int)+((v::vs).length:Int)).toNat else min (1:Int).toNat (v::vs).length)=0:=q
    rw[aah (by decide),aaH]at q
    have q:min 1 (vs.length+1)=0:=q
    omega
   have cd:∀(v:V)(vs:List V),vv (v::vs) (some 1) none=vs:=λv vs=>Hs (v::vs) 1 (by rw[aaH];omega)
   refine⟨_,O,_,O,_,_,O,hv1,WT _ _,λu1 hu1=>?_⟩
   rw[cd]
   have s9:=au (o:=HO.tup Pj) hu1
   refine⟨_,O,_,O,_,_,O,av s9 hv2,WT _ _,λu2 Ry=>?_⟩
   rw[cd]
   have EK:=au (o:=HO.tup S8) Ry
   have g1:aK K (upd H8 u1 (HO.tup Pj)) u1 Pj:=aK.of aj
   refine⟨(by show(2:Nat)<=sizeLine;decide),λt' ht'=>?_⟩
   have Mx:=au (o:=HO.tup [.ref u1,.ref u2]) ht'
   have sA:=s9.trans (EK.trans Mx)
   exact k _ _ (K5.trans sA) ⟨t',_,_,rfl,aK.of aj,⟨u1,Pj,rfl,av (EK.trans Mx) g1,gI (λb xs q=>av sA q) S7⟩,⟨u2,S8,rfl,av Mx (aK.of aj),gI (λb xs q=>av sA q) Mw⟩⟩
  ·rw[aah hxy]at k
   exact jm (aas λq=>hxy (iJ.mp q)) (k _ _ K5 rfl)
def sN(K:W.Frag)(C CT CC CP:Addr):Sp:=λvs H Q _=>∃(a:Addr)(v:V)(m:gn)(x y:eF)(z:Str),vs=[.ref a,v]/\LY C CT CC CP H a x y z/\dM K H m v/\z.length<=1000/\(∀x y,m.2=some (x,y)->x.length<=1000/\y.length<=1000)/\∀l vs H',H l=none->H' l=some (.lst vs)->rP K H' vs (fH x y z m)->aF H H'->Q (.ref l) H'
theorem sO:bw P w K mg base fJ 6 (aC 29) (aM 29) ["self","place"] (sN K (aC 51) (aC 52) (aC 53) (aC 54)):=by
 have jc:=@lI P w K mg base aC aM cQ T
 have xJ:=@wN P w K mg base aC aM cQ T
 refine T.uC.ok cW (λvs H Q E h=>?_) (λcdv A outer s H vs Q E hr h=>?_)
 ·obtain⟨a,v,m,x,y,z,rfl,_⟩:=h;rfl
 ·have hu:=aU hr
  have gH:=hr.aN
  obtain⟨a,v,m,x,y,z,rfl,hP,hv,hz,hl,k⟩:=h
  have eg:=hr.units
  obtain⟨da,cp,e1,hC⟩:=hP.ok
  obtain⟨dc,t1,t2,ec,eT,eU⟩:=hC.ok
  obtain⟨b,p,s1,s2,mv,rfl,q2,q3,q4,q5,q6⟩:=hv
  refine⟨_,(ai (eX 2 cW.nd (dO ah))
   (ai (fL aaL rfl (kj (aO K rfl (aO K rfl (pv 0) rfl) rfl)) (gA 3 cW.nd)
   (ai (eX 4 cW.nd (iw (k:=5) (aO K rfl (pv 0) rfl) T.dH T.mX jc (hr.mono (by decide)) T.mW .nil fE (af (cg K (pv 1) ao) (af (pv 3) ah))))
   (ak (aG (cJ (CI (g9 (YM _ _ K)) rfl (hs2 eg)) (pv 4) (aB (af bq (af bq ah)))) (ai (eX 5 cW.nd (Qv (vD K rfl) T.i0 (af (iy rfl (show bP ["self","place","found","sign","steps","pair"] (ay eY) ["step"] 1 [] _ from Ip) (zp K rfl (pv 4)) (λ_ _ _ _=>(gA 0 Qu)) (λ_ _ _ _=>ki) (λ_ _ _ _=>(lV (cJ gu (pv 0) bq) bq (cg K (pv 0) ao)))) ah)))
   (ak (j9 (ko K rfl aa4 PySem.F.slot_list_append PySem.F.type_list_append jN (pv 2) (af (aB (af (pv 3) (af (aB (af (pv 5) (af (fR xJ hr T.xB T.oE.kp T.xA (af (cg K (pv 1) ao) (af (pv 4) (af (pv 3) ah)))) ah))) ah))) ah))))) aA))))
   (ak (az (pv 2))))),?_⟩
  refine⟨(by decide),λL hL=>⟨_,O,_,_,_,_,_,O,(au hL _ _ e1),T.iZ,T.cZ,O,_,_,_,_,_,O,(au hL _ _ ec),T.dH,T.dW,O,_,O,?_⟩⟩
  have sL:=au (o:=HO.lst []) hL
  have gL:=aj (H:=H) (a:=L) (o:=HO.lst [])
  generalize upd H L (HO.lst [])=H1 at sL gL⊢
  have zl:z.cps.toList.length=z.length:=aam
  refine nA (z:=z) (λi σ J=>aF H J/\∃vs v3 v4 v5,σ=[some (.ref a),some (.ref b),some (.ref L),v3,v4,v5]/\J L=some (.lst vs)/\vs.length<=i/\rP K J vs ((z.cps.toList.take i).filterMap λc=>(E4 x y m c).map λm'=>(c,m'))) ⟨sL,[],_,_,_,rfl,gL,aaj _,.nil⟩ ?_ ?_
  rotate_left
  ·rintro σ J ⟨sJ,vs,v3,v4,v5,rfl,hJ,_,ld⟩
   rw[aaz (aaj _)]at ld
   exact⟨_,O,k L vs J hL hJ ld sJ⟩
  rintro i c σ J hi ⟨sJ,vs,v3,v4,v5,rfl,hJ,hvl,ld⟩
  have hil:=(aal.mp hi).1
  rw[fq hi,List.filterMap_append]
  have Zw:=sJ _ _ e1
  have Zx:=hC.mono sJ
  have Zy:=sJ _ _ ec
  have Zz:=av sJ q2
  dsimp only[bH]
  refine⟨_,O,_,_,_,_,_,O,Zw,T.iZ,T.cZ,O,_,_,_,O,Zy,O,_,O,_,_,_,_,O,O,Zz,O,_,O,?_⟩
  refine⟨cp,p,s1,s2,m.1.1,m.1.2,c,x,y,z,O,Zx,av sJ q3,fX sJ q4,fX sJ q5,λt v1 v2 J2 S2 xH L1 L2=>?_⟩
  dsimp only[bH]
  refine⟨_,O,(by show(2:Nat)<=sizeLine;decide),λn0 hn0=>?_⟩
  have s3:=au (o:=HO.tup [.non,.non]) hn0
  have g3:aK K (upd J2 n0 (HO.tup [.non,.non])) n0 [.non,.non]:=aK.of aj
  have FG:=sJ.trans (S2.trans s3)
  have QG:=s3 _ _ (S2 _ _ hJ)
  have HY:=s3 _ _ xH
  have M1:=iE s3 L1
  have M2:=iE s3 L2
  have S9:=rQ (S2.trans s3) ld
  generalize upd J2 n0 (HO.tup [.non,.non])=J3 at g3 FG QG HY M1 M2 S9⊢
  clear s3 S2 xH L1 L2 ld hJ hn0
  refine⟨t,n0,[K0 _,K0 _],[.inl none,.inl none],rfl,rfl,⟨_,aK.of HY,.cons (Ek (P:=P) (w:=w) M1) (.cons (Ek (P:=P) (w:=w) M2) .nil)⟩,⟨_,g3,.cons rfl (.cons rfl .nil)⟩,_,rfl,?_⟩
  by_cases hb:iD x m.1.1 c=none/\iD y m.1.2 c=none
  ·have e:E4 x y m c=none:=aai hb
   refine jm (by rw[aar (by rw[hb.1,hb.2];rfl)];rfl) ⟨FG,vs,_,_,_,rfl,QG,by omega,?_⟩
   rw[abD,e]
   show rP K J3 vs (_++[])
   rw[aaU];exact S9
  have e:E4 x y m c=some ((Jz (iD x m.1.1 c),Jz (iD y m.1.2 c)),JB m.2 (iD x m.1.1 c) (iD y m.1.2 c) c):=aah hb
  have hne:¬[K0 (iD x m.1.1 c),K0 (iD y m.1.2 c)]=[.inl none,.inl none]:=λq=>by
   injection q with z1 z2;injection z2 with z2 _;exact hb ⟨By.mp z1,By.mp z2⟩
  refine jS (by rw[aas hne];rfl) ?_
  rw[abD,e]
  clear e hb hne
  generalize iD x m.1.1 c=A at M1⊢
  generalize iD y m.1.2 c=B at M2⊢
  have pv:Paired (λv o=>AQ K o J3 v) [v1,v2] [A,B]:=.cons M1 (.cons M2 .nil)
  refine⟨_,O,_,O,⟨_,aK.of HY⟩,λD hD=>?_⟩
  refine G9 (K:=K) (a:=t) (xs:=[v1,v2]) (λi ys τ G=>(∃v,τ=[v])/\aF J3 G/\G D=some (.lst ys)/\Paired (λv o=>jQ K J3 o v) ys (([A,B].take i).map Jz)) ⟨⟨_,rfl⟩,au hD,aj,.nil⟩ (λi ys τ G _ p=>⟨aK.of (p.2.1 _ _ HY),p.2.2.1⟩) ?_ ?_
  ·rintro i e ys τ G hi ⟨⟨v,rfl⟩,sG,hG,B0⟩
   obtain⟨o,ho,M8⟩:=bV pv i e hi
   have hil:i<2:=(aal.mp hi).1
   have hyl:=B0.length
   rw[aaq,aaQ]at hyl
   have Pk:ys.length<=2:=by rw[hyl];omega
   rw[fq ho,aaO]
   refine CQ ?_
   cases o with
   |none =>
    have M8:e=.non:=M8
    subst M8
    refine⟨_,O,O,_,O,Jo rfl (⟨hG,?_,⟨_,O⟩,(bf hD sG),aj,?_⟩)⟩
    ·exact aaI Pk (by decide)
    ·exact bU B0 (.cons rfl .nil)
   |some tt =>
    obtain⟨a1,b1,rfl,ha1,hb1⟩:=M8
    have Tc:=av sG ha1
    refine⟨_,rfl,rfl,_,rfl,oV (λz=>nomatch z) (⟨_,rfl,_,_,_,_,rfl,rfl,Tc,rfl,hG,?_,⟨_,rfl⟩,(bf hD sG),aj,?_⟩)⟩
    ·exact aaI Pk (by decide)
    ·exact bU B0 (.cons ⟨b1,rfl,hb1⟩ .nil)
  rintro ys τ G ⟨⟨v,rfl⟩,sG,hG,B0⟩
  have B0:Paired (λv o=>jQ K J3 o v) ys [Jz A,Jz B]:=B0
  refine⟨_,_,O,.inl (⟨bW.of hG,λpr Po=>⟨_,O,.inl ⟨O,⟨_,bW.of (au Po _ _ (sG _ _ QG))⟩⟩,_,O,_,O,_,O,?_⟩⟩)⟩
  have s4:=au (o:=HO.tup ys) Po
  have g4:aK K (upd G pr (HO.tup ys)) pr ys:=aK.of aj
  have JV:=sG.trans s4
  generalize upd G pr (HO.tup ys)=G4 at s4 g4 JV⊢
  have ZA:=av (FG.trans JV) q2
  cases B0 with
  |@cons w1 _ ys _ hw1 B0 =>
  cases B0 with
  |@cons w2 _ ys _ Ng B0 =>
  cases B0
  refine⟨b,_,_,_,O,O,ZA,O,_,O,_,O,t,mv,v1,v2,m.2,A,B,c,O,zI (FG.trans JV) q6,aK.of (JV _ _ HY),iE JV M1,iE JV M2,hl,λPp G5 S5 hmo=>?_⟩
  refine⟨(by show(2:Nat)<=sizeLine;decide),λt5 ZC=>?_⟩
  have s6:=au (o:=HO.tup [.ref pr,Pp]) ZC
  have g6:=aj (H:=G5) (a:=t5) (o:=HO.tup [.ref pr,Pp])
  refine⟨(by show(2:Nat)<=sizeLine;decide),λt6 ZD=>?_⟩
  have s7:=au (o:=HO.tup [.str (sg c),.ref t5]) ZD
  have g7:=aj (H:=upd G5 t5 (HO.tup [.ref pr,Pp])) (a:=t6) (o:=HO.tup [.str (sg c),.ref t5])
  have Nh:=s6.trans s7
  have WU:=s7 _ _ g6
  generalize upd (upd G5 t5 (HO.tup [.ref pr,Pp])) t6 (HO.tup [.str (sg c),.ref t5])=G7 at Nh WU g7⊢
  have FF:=JV.trans (S5.trans Nh)
  have QH:=FF _ _ QG
  refine⟨L,vs,_,O,O,QH,aaI (show vs.length<=1000 by omega) (by decide),bf hL (FG.trans FF),_,_,_,_,O,aj,by rw[aav];show vs.length+1<=i+1;omega,?_⟩
  refine bU (Bx QH (rQ FF S9)) (.cons ⟨t6,.ref t5,rfl,(aH (λq=>by rw[q,QH]at g7;cases g7)).trans g7,vh QH ?_⟩ .nil)
  exact⟨t5,pr,w1,w2,Pp,O,aK.of WU,av (S5.trans Nh) g4,fX FF hw1,fX FF Ng,zI Nh hmo⟩
def pJ(K:W.Frag)(C CT CC CP:Addr):Sp:=λvs H Q _=>∃(a:Addr)(v:V)(m:gn)(x y:eF)(z:Str),vs=[.ref a,v]/\LY C CT CC CP H a x y z/\dM K H m v/\∀H',aF H H'->Q (.bl (fY m)) H'
theorem pK:bw P w K mg base fJ 1 (aC 30) (aM 30) ["self","place"] (pJ K (aC 51) (aC 52) (aC 53) (aC 54)):=by
 refine T.qu.ok o6 (λvs H Q E h=>?_) (λcdv A outer s H vs Q E hr h=>?_)
 ·obtain⟨a,v,m,x,y,z,rfl,_⟩:=h;rfl
 ·have hu:=aU hr
  have gH:=hr.aN
  obtain⟨a,v,m,x,y,z,rfl,hP,hv,k⟩:=h
  have eg:=hr.units
  obtain⟨b,p,s1,s2,mv,rfl,e2,e3,e4,e5,e6⟩:=hv
  refine⟨_,(ai (aG (cJ (rz (YM _ _ K) rfl (hn1 eg)) (cg K (pv 1) ao) (aB (af (dh rfl T.c6) (af (dh rfl T.c6) ah)))) (ak (az (zB (LP (g9 (YM _ _ K)) rfl (hs2 eg)) (cg K (pv 1) ao) (dh rfl T.lF)))) aA)
   (ak (az (vd (LQ (YM _ _ K) rfl (hs1 eg)) (dh rfl T.c6) (cg K (pv 1) ao) rfl)))),?_⟩
  have hst:aK K H (aC 59) [.str ("row":Str),.str ("":Str)]:=.inr T.gK
  refine⟨_,O,_,_,_,_,O,O,e2,O,(by show(2:Nat)<=sizeLine;decide),λt ht=>?_⟩
  have s1':=au (o:=HO.tup [.ref (aC 59),.ref (aC 59)]) ht
  have g1:=aj (H:=H) (a:=t) (o:=HO.tup [.ref (aC 59),.ref (aC 59)])
  generalize upd H t (HO.tup [.ref (aC 59),.ref (aC 59)])=H1 at s1' g1⊢
  refine⟨p,t,_,_,rfl,rfl,HD (av s1' e3) (fX s1' e4) (fX s1' e5),HD (o:=ou) (o':=ou) (aK.of g1) ⟨_,rfl,av s1' hst⟩ ⟨_,rfl,av s1' hst⟩,_,rfl,?_⟩
  have k:=k H1 s1'
  obtain⟨⟨o1,o2⟩,mo⟩:=m
  by_cases hc:(o1,o2)=(ou,ou)
  ·have hg:fY ((o1,o2),mo)=!decide (mo=some ([],[])):=aai hc
   rw[hg]at k
   injection hc with c1 c2
   refine jS (aar (by rw[c1,c2])) ?_
   have hN:aK K H1 (aC 60) [.ref (aC 61),.ref (aC 62)]:=.inr T.lG
   have ZE:k9 (g9 (YM P w K)) H1 [rB [],rB []] (aC 60):=⟨_,hN,.cons (nC ⟨_,_,rfl,.inr T.i6,.nil⟩) (.cons (nC ⟨_,_,rfl,.inr T.ja,.nil⟩) .nil)⟩
   refine⟨_,O,b,_,_,_,O,O,av s1' e2,O,_,_,O,ZE,?_⟩
   cases mo with
   |none=>exact .inl ⟨e6,k⟩
   |some xy =>
    obtain⟨x1,y1⟩:=xy
    obtain⟨mb,w1,w2,rfl,q1,q2,q3⟩:=zI s1' e6
    refine .inr ⟨mb,_,rfl,Ow (P:=P) (w:=w) ⟨mb,w1,w2,rfl,q1,q2,q3⟩,?_⟩
    have e:decide ([rB x1,rB y1]=[rB [],rB []])=decide ((some (x1,y1):FD)=some ([],[])):=by
     rw[aaT,aaP,aaP]
     constructor
     ·intro z;injection z with z1 z2;injection z2 with z2 _;rw[p6 z1,p6 z2]
     ·intro z;injection z with z;injection z with z1 z2;rw[z1,z2]
    rw[e];exact k
  ·have hg:fY ((o1,o2),mo)=(decide (o1=ou)||decide (o2=ou)):=aah hc
   rw[hg]at k
   refine jm (aas λq=>hc ?_) ?_
   ·injection q with q1 q2;injection q2 with q2 _
    have q1:o1=ou:=qc q1
    have q2:o2=ou:=qc q2
    rw[q1,q2]
   refine⟨_,rfl,b,_,_,_,rfl,rfl,av s1' e2,rfl,p,CW ou,[CW o1,CW o2],_,rfl,Bw (o:=ou) ⟨_,rfl,av s1' hst⟩,av s1' e3,.cons (Bw (fX s1' e4)) (.cons (Bw (fX s1' e5)) .nil),?_⟩
   rw[LZ];exact k
def Fj(P:Program)(w:World)(K:W.Frag)(C CT CC CP:Addr):Sp:=λvs H Q _=>∃(qa:Addr)(v:V)(p0:gn)(x y:eF)(z:Str)(n0:Nat),vs=[v,.ref qa,.non]/\LY C CT CC CP H qa x y z/\dM K H p0 v/\z.length<=20/\vX fY (fH x y z) Qw 700000 n0 [(p0,none)] [p0]/\∀t rv r a cm H',H a=none->cm.length<=700000->H' t=some (.tup [rv,.ref a])->RP K r H' rv->fZ P w K H' a cm->um fY (fH x y z) none [(p0,none)] [p0] r cm->aF H H'->Q (.ref t) H'
theorem Fl:bw P w K mg base fJ 7 (aC 31) (aM 31) ["first","searched","most"] (Fj P w K (aC 51) (aC 52) (aC 53) (aC 54)):=by
 have qE:=@pK P w K mg base aC aM cQ T
 have uN:=@sO P w K mg base aC aM cQ T
 refine T.BL.ok fF (λvs H Q E h=>?_) (λcdv A outer s H vs Q E hr h=>?_)
 ·obtain⟨qa,v,p0,x,y,z,n0,rfl,_⟩:=h;rfl
 ·have hu:=aU hr
  have gH:=hr.aN
  obtain⟨qa,v,p0,x,y,z,n0,rfl,hW,hv,Qy,ZF,k⟩:=h
  have eg:=hr.units
  obtain⟨b,rfl⟩:=ku hv
  refine⟨_,(ai (eX 3 fF.nd (ES (YP P w K) (br P w) rfl rfl rfl (hp1 eg) (pv 0) bq))
   (ai (eX 4 fF.nd (dO (af (pv 0) ah)))
   (ai (vm aaL (cJ (Jb K rfl gH) (pv 4) (dO ah))
   (ai (fL aaL rfl (fP K rfl (pv 4)) (gA 5 fF.nd)
   (ak (aG (aY (iw (k:=1) (pv 1) T.iZ T.qw qE (hr.mono (by decide)) T.qv .nil fE (af (pv 5) ah))) (ak (az (aB (af (pv 5) (af (pv 3) ah))))) aA)))
   (ai (aG (PW.pt (cS (cJ za (pv 2) bq) (cC (cJ Kz (nE (bz K rfl) T.eH (af (pv 3) ah)) (pv 2))))) (ak (az (aB (af bq (af (pv 3) ah))))) aA)
   (ai (eX 6 fF.nd (dO ah))
   (ai (fL aaL rfl (fP K rfl (pv 4)) (gA 5 fF.nd)
   (ak (fL aaL rfl (fP K rfl (iw (k:=6) (pv 1) T.iZ T.uE uN (hr.mono (by decide)) T.uD .nil fE (af (pv 5) ah))) (gA 7 fF.nd)
   (ak (aG (La (CH (YP P w K) (br P w) rfl rfl rfl (hp2 eg) (cg K (pv 7) ao) (pv 3))) (ai (Bc (YP P w K) (br P w) rfl rfl rfl (hp2 eg) (pv 3) (cg K (pv 7) ao) (aB (af (pv 5) (af (cg K (pv 7) ao) ah))) rfl)
   (ak (j9 (ko K rfl aa4 PySem.F.slot_list_append PySem.F.type_list_append jN (pv 6) (af (cg K (pv 7) ao) ah))))) aA)))))
   (ak (eX 4 fF.nd (pv 6))))))))
   (ak (az (aB (af bq (af (pv 3) ah)))))))),?_⟩
  refine λa ha=>?_
  have sA:=au (o:=dN (ZP P w) (br P w) a []) ha
  refine⟨_,O,gw p0,b,O,aj,nD (dB sA hv),?_⟩
  have c1:fZ P w K (upd (upd H a (dN (ZP P w) (br P w) a [])) a (dN (ZP P w) (br P w) a [(gw p0,b,.non)])) a [(p0,none)]:=fZ.one aj (dB sA hv)
  have s1:aF H (upd (upd H a (dN (ZP P w) (br P w) a [])) a (dN (ZP P w) (br P w) a [(gw p0,b,.non)])):=bf ha sA
  generalize upd (upd H a (dN (ZP P w) (br P w) a [])) a (dN (ZP P w) (br P w) a [(gw p0,b,.non)])=H1 at c1 s1⊢
  refine⟨_,O,(by show 1<=sizeLine;decide),λl0 ON=>?_⟩
  have s2:=au (o:=HO.lst [.ref b]) ON
  have g2:=aj (H:=H1) (a:=l0) (o:=HO.lst [.ref b])
  generalize upd H1 l0 (.lst [.ref b])=H2 at s2 g2⊢
  have s12:=s1.trans s2
  dsimp only[bH]
  refine⟨λnn σ J=>∃l vs aL cm v5 v6 v7,σ=[some (.ref b),some (.ref qa),some .non,some (.ref a),some (.ref l),v5,v6,v7]/\aF H J/\J l=some (.lst vs)/\vW K J vs aL/\fZ P w K J a cm/\vX fY (fH x y z) Qw 700000 nn cm aL/\(∀r Ei,um fY (fH x y z) none cm aL r Ei->um fY (fH x y z) none [(p0,none)] [p0] r Ei),⟨_,l0,_,[p0],_,_,_,_,O,s12,g2,.cons (dB s12 hv) .nil,c1.mono s2,ZF,λr Ei q=>q⟩,?_⟩
  rintro nn σ J ⟨l,vs,aL,cm,v5,v6,v7,rfl,sJ,hl,em,ca,hE,hR⟩
  have hB:=hE.ok.1
  refine⟨_,O,(by decide),λe he=>⟨_,_,_,O,O,bW.of (au he _ _ hl),bW.of aj,_,O,?_⟩⟩
  have se:=au (o:=HO.lst []) he
  replace sJ:=sJ.trans se
  replace hl:=se _ _ hl
  replace em:=em.keep λb xs q=>av se q
  replace ca:=ca.mono se
  generalize upd J e (.lst [])=J1 at sJ hl em ca⊢
  clear se he
  cases em with
  |nil =>
   refine bM ⟨_,rfl,(by show 2<=sizeLine;decide),λt ht=>?_⟩
   exact k t .non none a cm _ ha hB aj rfl (ca.mono (au ht)) (hR _ _ .stop) (sJ.trans (au ht))
  |@cons v1 e1 vs aL h1 em =>
  have em:vW K J1 (v1::vs) (e1::aL):=.cons h1 em
  have hne:e1::aL≠[]:=λq=>nomatch q
  refine jO ?_
  generalize e1::aL=aL at em hne hR hE
  generalize v1::vs=vs at em hl
  have hB2:=hE.ok.2.1
  have eU:=hE.ok.2.2
  refine⟨λσ G=>∃l vs v5 v6 v7,σ=[some (.ref b),some (.ref qa),some .non,some (.ref a),some (.ref l),v5,v6,v7]/\aL.find? (fY)=none/\aF H G/\G l=some (.lst vs)/\vW K G vs (cy (fH x y z) cm aL).2/\fZ P w K G a (cy (fH x y z) cm aL).1,?_,?_⟩
  ·rintro σ G ⟨l,vs,v5,v6,v7,rfl,hf,sG,hl,em,ca⟩
   obtain⟨n',hn',ZG⟩:=hE.go hne hf
   exact⟨n',hn',l,vs,_,_,v5,v6,v7,rfl,sG,hl,em,ca,ZG,λr Ei q=>hR r Ei (.go hne hf (λn' e=>nomatch e) q)⟩
  refine⟨_,O,l,O,⟨_,bW.of hl⟩,?_⟩
  refine lZ (K:=K) (a:=l) (xs:=vs) (λi σ G=>aF J1 G/\(∀m∈aL.take i,fY m=false)/\∃v5,σ=[some (.ref b),some (.ref qa),some .non,some (.ref a),some (.ref l),v5,v6,v7]) ⟨aF.refl _,(λm hm=>nomatch hm),_,rfl⟩ (λi σ G _ q=>bW.of (q.1 _ _ hl)) ?_ ?_
  ·rintro i e2 σ G hi ⟨sG,hno,Td,rfl⟩
   obtain⟨m,hm,hv⟩:=bV em i e2 hi
   have Iq:=dB sG hv
   have Pr:=hW.mono (sJ.trans sG)
   obtain⟨dx,ZH,ex,eC⟩:=Pr.ok
   obtain⟨bx,rfl⟩:=ku Iq
   dsimp only[bH]
   refine⟨_,O,_,_,_,O,ex,O,_,O,qa,.ref bx,m,x,y,z,O,Pr,Iq,λG2 s2=>⟨_,O,?_⟩⟩
   by_cases hg:fY m=true
   ·refine jS hg ⟨_,rfl,_,rfl,(by show 2<=sizeLine;decide),λt ht=>?_⟩
    have st:=(sG.trans s2).trans (au (o:=HO.tup [.ref bx,.ref a]) ht)
    exact k t _ (some m) a cm _ ha hB aj (dB st hv) (ca.mono st) (hR _ _ (.found (Hx hm hg hno))) (sJ.trans st)
   ·refine jm (ia hg) ⟨sG.trans s2,λm' hm'=>?_,_,rfl⟩
    rw[fq hm]at hm'
    rcases aaY.mp hm' with z|z
    ·exact hno m' z
    ·rw[aau.mp z];exact ia hg
  rintro σ G ⟨sG,hno,Td,rfl⟩
  rw[em.length,aaz (aaj _)]at hno
  have hf:=Hy hno
  replace sJ:=sJ.trans sG
  replace hl:=sG _ _ hl
  replace em:=em.keep λb xs q=>av sG q
  replace ca:=ca.mono sG
  clear sG
  dsimp only[bH]
  refine⟨_,O,O,_,O,LM rfl (bM (⟨(by decide),λlf Ni=>⟨_,O,_,O,⟨_,bW.of (au Ni _ _ hl)⟩,?_⟩⟩))⟩
  have sf:=au (o:=HO.lst []) Ni
  have Pu:=aj (H:=G) (a:=lf) (o:=HO.lst [])
  have ZI:lf≠l:=λq=>by rw[q,hl]at Ni;cases Ni
  have ZJ:H lf=none:=sJ.free Ni
  replace sJ:=sJ.trans sf
  replace hl:=sf _ _ hl
  replace em:=em.keep λb xs q=>av sf q
  replace ca:=ca.mono sf
  generalize upd G lf (.lst [])=G1 at sJ hl em ca Pu⊢
  clear sf Ni
  refine lZ (K:=K) (a:=l) (xs:=vs) (λi σ J=>aF H J/\J l=some (.lst vs)/\vW K J vs aL/\∃fv v5 v7,σ=[some (.ref b),some (.ref qa),some .non,some (.ref a),some (.ref l),v5,some (.ref lf),v7]/\J lf=some (.lst fv)/\vW K J fv ((aL.take i).foldl (iS (fH x y z)) (cm,[])).2/\fZ P w K J a ((aL.take i).foldl (iS (fH x y z)) (cm,[])).1/\((aL.take i).foldl (iS (fH x y z)) (cm,[])).1.length<=cm.length+i*20) ⟨sJ,hl,em,[],_,_,rfl,Pu,.nil,ca,(by show cm.length<=cm.length+0*20;omega)⟩ (λi σ J _ q=>bW.of q.2.1) ?_ ?_
  ·rintro i e2 σ J hi ⟨Nj,hl',Te,fv,Td,Tf,rfl,QI,mf,Pw,Tg⟩
   obtain⟨m,hm,hv⟩:=bV Te i e2 hi
   have ZK:=eU m (aaJ hm)
   have hil:=(aal.mp hm).1
   have Px:=E5 (x:=x) (y:=y) (z:=z) (m:=m)
   have ef:(aL.take (i+1)).foldl (iS (fH x y z)) (cm,[])=(fH x y z m).foldl (dS m) ((aL.take i).foldl (iS (fH x y z)) (cm,[])):=by rw[fq hm,aa7];rfl
   rw[ef]
   have hal:((aL.take i).foldl (iS (fH x y z)) (cm,[])).2.length<=((aL.take i).foldl (iS (fH x y z)) (cm,[])).1.length:=by
    have q:=nI (led:=fH x y z) (aL.take i) (cm,[])
    simp only[List.length_nil,Nat.add_zero]at q
    omega
   generalize (aL.take i).foldl (iS (fH x y z)) (cm,[])=acc at mf Pw Tg hal⊢
   have Pr:=hW.mono Nj
   obtain⟨dx,ZH,ex,eC⟩:=Pr.ok
   obtain⟨bx,rfl⟩:=ku hv
   dsimp only[bH]
   refine⟨_,O,_,_,_,O,ex,O,_,O,qa,.ref bx,m,x,y,z,O,Pr,hv,aao Qy (by decide),ZK,λll us J2 Py OM ld s2=>?_⟩
   have QJ:ll≠lf:=λq=>by rw[q,QI]at Py;cases Py
   have ZL:=Pw.mono s2
   refine⟨ll,O,⟨_,bW.of OM⟩,?_⟩
   generalize hes:fH x y z m=es at ld Px⊢
   refine lZ (K:=K) (a:=ll) (xs:=us) (λj σ G=>aF H G/\G ll=some (.lst us)/\rP K G us es/\G l=some (.lst vs)/\vW K G vs aL/\dM K G m (.ref bx)/\∃fv v7,σ=[some (.ref b),some (.ref qa),some .non,some (.ref a),some (.ref l),some (.ref bx),some (.ref lf),v7]/\G lf=some (.lst fv)/\vW K G fv ((es.take j).foldl (dS m) acc).2/\fZ P w K G a ((es.take j).foldl (dS m) acc).1/\((es.take j).foldl (dS m) acc).1.length<=cm.length+i*20+j) ⟨Nj.trans s2,OM,ld,s2 _ _ hl',Te.keep (λb xs q=>av s2 q),dB s2 hv,fv,_,rfl,s2 _ _ QI,mf.keep (λb xs q=>av s2 q),ZL,Tg⟩ (λj σ G _ q=>bW.of q.2.1) ?_ ?_
   ·rintro j e3 σ G hj ⟨sG,Mz,ldG,QK,QL,Iq,fv,Tf,rfl,QM,Nk,Nl,Th⟩
    obtain⟨⟨c,m'⟩,Pz,t3,w3,rfl,h3,K4⟩:=bV ldG j e3 hj
    have ev:(es.take (j+1)).foldl (dS m) acc=dS m ((es.take j).foldl (dS m) acc) (c,m'):=by rw[fq Pz,aa7];rfl
    rw[ev]
    have Ti:((es.take j).foldl (dS m) acc).2.length<=((es.take j).foldl (dS m) acc).1.length:=by
     have q:=rN (p:=m) (es.take j) acc
     omega
    generalize (es.take j).foldl (dS m) acc=ac at Nk Nl Th Ti⊢
    have hjl:=(aal.mp Pz).1
    obtain⟨kvs,d,cr⟩:=Nl.ok
    have kl:=yC cr
    obtain⟨b3,rfl⟩:=ku K4
    have ka:k9 (YP P w K) G (gw m') b3:=nD K4
    dsimp only[bH]
    refine⟨_,O,t3,_,_,_,O,O,aK.of h3,O,_,O,a,kvs,gw m',b3,O,O,d,ka,_,O,?_⟩
    rw[rR cr]
    cases hh:cL ac.1 m' with
    |true =>
     have e4:dS m ac (c,m')=ac:=aai hh
     rw[e4]
     exact bM ⟨sG,Mz,ldG,QK,QL,Iq,fv,_,rfl,QM,Nk,Nl,by omega⟩
    |false =>
     have e4:dS m ac (c,m')=(ac.1++[(m',some (m,c))],ac.2++[m']):=aah (by rw[hh];decide)
     rw[e4]
     refine jO ?_
     refine⟨_,O,_,O,t3,_,_,_,O,O,aK.of h3,O,(by show 2<=sizeLine;decide),λt4 SV=>?_⟩
     have s4:=au (o:=HO.tup [.ref bx,.str (sg c)]) SV
     have g4:=aj (H:=G) (a:=t4) (o:=HO.tup [.ref bx,.str (sg c)])
     generalize upd G t4 (.tup [.ref bx,.str (sg c)])=G4 at s4 g4⊢
     have d4:=d.mono s4
     have ZN:=cr.keep λb xs q=>av s4 q
     have Nb:=dB s4 K4
     have ZO:qd K (some (m,c)) G4 (.ref t4):=⟨t4,.ref bx,rfl,aK.of g4,dB s4 Iq⟩
     have c5:=fZ.put d4 ZN Nb hh ZO
     have ZQ:kvs.length<sizeLine:=aaI (show kvs.length<=15000000 by omega) (by decide)
     refine⟨_,O,_,O,t3,_,_,_,O,O,aK.of (s4 _ _ h3),O,a,kvs,gw m',b3,O,O,d4,k9.mono s4 ka,ZQ,?_⟩
     have tq:=mD (F:=K) d4.ob (o:=dN (ZP P w) (br P w) a (putN kvs (gw m') b3 (.ref t4)))
     have t1:∀b' xs,G4 b'=some (.tup xs)->(upd G4 a (dN (ZP P w) (br P w) a (putN kvs (gw m') b3 (.ref t4)))) b'=some (.tup xs):=λb' xs e=>(aH (oh e d4.ob (λq=>nomatch q))).trans e
     have tl:∀b' xs,G4 b'=some (.lst xs)->(upd G4 a (dN (ZP P w) (br P w) a (putN kvs (gw m') b3 (.ref t4)))) b'=some (.lst xs):=λb' xs e=>(aH (oh e d4.ob (λq=>nomatch q))).trans e
     have s5:aF H (upd G4 a (dN (ZP P w) (br P w) a (putN kvs (gw m') b3 (.ref t4)))):=bf ha (sG.trans s4)
     have WV:=tl _ _ (s4 _ _ Mz)
     have l5:=tl _ _ (s4 _ _ QK)
     have JY:=tl _ _ (s4 _ _ QM)
     have WW:=rP.keep t1 tq (rQ s4 ldG)
     have WX:=(QL.keep λb xs q=>av s4 q).keep tq
     have Tj:=(Nk.keep λb xs q=>av s4 q).keep tq
     have WY:=(dB s4 Iq).keep tq
     have Pb:=Nb.keep tq
     have WZ:=t1 _ _ (s4 _ _ h3)
     generalize upd G4 a (dN (ZP P w) (br P w) a (putN kvs (gw m') b3 (.ref t4)))=G5 at c5 s5 WV l5 JY WW WX Tj WY Pb WZ⊢
     have ZR:=Tj.length
     refine⟨_,O,.inl ⟨O,_,bW.of JY⟩,_,O,t3,_,_,_,O,O,aK.of WZ,O,lf,_,_,O,O,JY,?_,?_⟩
     ·exact aaI (show fv.length<=15000000 by rw[ZR];omega) (by decide)
     refine⟨bf ZJ s5,(aH QJ).trans WV,Bx JY WW,(aH (Ne.symm ZI)).trans l5,WX.keep (λb xs q=>iC JY q),vh JY WY,fv++[.ref b3],_,O,aj,bU (Tj.keep λb xs q=>iC JY q) (.cons (vh JY Pb) .nil),c5.but JY,(by rw[aav];show ac.1.length+1<=_;omega)⟩
   ·rintro σ G ⟨sG,Mz,ldG,QK,QL,Iq,fv,Tf,rfl,QM,Nk,Nl,Th⟩
    rw[ld.length,aaz (aaj _)]at Nk Nl Th
    exact⟨sG,QK,QL,fv,_,_,O,QM,Nk,Nl,by omega⟩
  ·rintro σ J ⟨Nj,hl',Te,fv,Td,Tf,rfl,QI,mf,Pw,Tg⟩
   rw[em.length,aaz (aaj _)]at mf Pw
   exact⟨_,O,lf,fv,_,_,_,O,hf,Nj,QI,mf,Pw⟩
def Dg(P:Program)(w:World)(K:W.Frag):Sp:=λvs H Q _=>∃(a:Addr)(v:V)(cm:(fK gn))(m:gn)(x:Option (gn×Nat))(xs:List Nat),vs=[.ref a,v]/\fZ P w K H a cm/\dM K H m v/\vR cm m=some x/\p9 cm x xs/\xs.length<=1000000/\∀H',aF H H'->Q (.str (Txt.join ("":Str) (xs.map sg).reverse)) H'
theorem Dh:bw P w K mg base fJ 1 (aC 32) (aM 32) ["came","place"] (Dg P w K):=by
 refine T.yJ.ok kO (λvs H Q E h=>?_) (λcdv A outer s H vs Q E hr h=>?_)
 ·obtain⟨a,v,cm,m,x,xs,rfl,_⟩:=h;rfl
 ·have hu:=aU hr
  have gH:=hr.aN
  obtain⟨a,v,cm,m,x,xs,rfl,hC,hm,hx,hp,Na,k⟩:=h
  have eg:=hr.units
  obtain⟨b,rfl⟩:=ku hm
  refine⟨_,(ai (eX 2 kO.nd (dO ah))
   (ai (eX 3 kO.nd (Bb (YP P w K) (br P w) rfl rfl rfl (hp2 eg) (pv 0) (pv 1) (λ_ _=>rfl)))
   (ai (vm aaL (cJ za (pv 3) bq)
   (ai (j9 (ko K rfl aa4 PySem.F.slot_list_append PySem.F.type_list_append jN (pv 2) (af (cg K (pv 3) ao) ah)))
   (ak (eX 3 kO.nd (Bb (YP P w K) (br P w) rfl rfl rfl (hp2 eg) (pv 0) (cg K (pv 3) ao) (λ_ _=>rfl))))))
   (ak (az (Bf K rfl rfl rfl T.jv aq (af (pv 2) ah))))))),?_⟩
  refine⟨(by decide),λl hl=>⟨_,O,_,O,?_⟩⟩
  have s1:=au (o:=HO.lst []) hl
  have hl1:=aj (H:=H) (a:=l) (o:=HO.lst [])
  generalize upd H l (.lst [])=H1 at s1 hl1⊢
  obtain⟨kvs,d,cr⟩:=(hC.mono s1).ok
  obtain⟨v,hv,lv⟩:=rS cr hx
  refine⟨a,kvs,gw m,b,v,O,O,d,nD (dB s1 hm),hv,?_⟩
  dsimp only[bH]
  refine⟨λn σ J=>∃done rest x v,σ=[some (.ref a),some (.ref b),some (.ref l),some v]/\aF H J/\J l=some (.lst ((done.map sg).map V.str))/\qd K x J v/\p9 cm x rest/\xs=done++rest/\n=rest.length,⟨_,[],xs,x,v,O,s1,hl1,lv,hp,O,O⟩,?_⟩
  rintro n σ J ⟨done,rest,x,v,rfl,sJ,Nm,lv,hp,hxs,hn⟩
  cases hp with
  |nil =>
   have lv:v=.non:=lv
   subst lv
   rw[aaU]at hxs
   subst hxs
   refine⟨_,O,O,_,O,jm rfl ?_⟩
   refine⟨_,O,_,O,l,xs.map sg,O,bW.of Nm,?_,k J sJ⟩
   rw[Eg,aaq]
   show xs.length+xs.length*0<=_
   omega
  |@cons m1 c1 x1 r1 QF hp1 =>
   obtain⟨t,w1,rfl,ht,hw⟩:=lv
   refine⟨_,O,O,_,O,jS rfl ?_⟩
   refine⟨λσ J=>∃v,σ=[some (.ref a),some (.ref b),some (.ref l),some v]/\aF H J/\J l=some (.lst (((done++[c1]).map sg).map V.str))/\qd K x1 J v,?_,?_⟩
   ·rintro σ J' ⟨v,rfl,Nj,hl',lv'⟩
    exact⟨_,by rw[hn];exact Nat.lt_succ_self _,_,_,_,_,O,Nj,hl',lv',hp1,by rw[hxs,abz];rfl,O⟩
   have hdl:done.length<=1000000:=by rw[hxs,aav]at Na;omega
   refine⟨_,O,.inl ⟨O,_,bW.of Nm⟩,_,O,t,_,_,_,O,O,ht,O,l,_,_,O,O,Nm,?_,?_⟩
   ·exact aaI (show((done.map sg).map V.str).length<=1000000 by rw[aaq,aaq];exact hdl) (by decide)
   have xH:=iC (o:=HO.lst ((done.map sg).map V.str++[.str (sg c1)])) Nm ht
   obtain⟨kvs,d,cr⟩:=((hC.mono sJ).but (o:=HO.lst ((done.map sg).map V.str++[.str (sg c1)])) Nm).ok
   obtain⟨v,hv,lv⟩:=rS cr QF
   have Ng:=dM.keep (λb xs q=>iC (o:=HO.lst ((done.map sg).map V.str++[.str (sg c1)])) Nm q) hw
   obtain⟨b1,rfl⟩:=ku Ng
   refine⟨_,O,_,O,t,_,_,_,O,O,xH,O,a,kvs,gw m1,b1,v,O,O,d,nD Ng,hv,?_⟩
   exact⟨v,O,bf hl sJ,by rw[aaO,aaO];exact aj,lv⟩
def n6(K:W.Frag)(C CT CC CP:Addr):Sp:=λvs H Q _=>∃(m dm a da b db:Addr)(x y:eF),vs=[.ref m,.ref a,.ref b]/\H m=some (.ins CP dm [])/\H a=some (.ins C da (jV x))/\tG x/\H b=some (.ins C db (jV y))/\tG y/\∀H',LY C CT CC CP H' m x y (Cd x y)->(∀b o,H b=some o->b≠m->H' b=some o)->Q .non H'
theorem n8:bw P w K mg base fJ 10 (aC 33) (aM 33) ["self","one","other"] (n6 K (aC 51) (aC 52) (aC 53) (aC 54)):=by
 have gc:=@jb P w K mg base aC aM cQ T
 refine T.pB.ok nS (λvs H Q E h=>?_) (λcdv A outer s H vs Q E hr h=>?_)
 ·obtain⟨m,dm,a,da,b,db,x,y,rfl,_⟩:=h;rfl
 ·have hu:=aU hr
  have gH:=hr.aN
  obtain⟨m,dm,a,da,b,db,x,y,rfl,hm,ha,gx,hb,gy,k⟩:=h
  refine⟨_,(ak (gM (pv 0) (kh (k:=8) T.BV gc (hr.mono (by decide)) rfl T.BU T.jq .nil fE (af (pv 1) (af (pv 2) ah))) rfl)),?_⟩
  refine⟨_,O,_,O,λt1 SJ ht1 Fg ne=>⟨t1,SJ,a,da,b,db,x,y,O,aj,gJ ht1 Fg ha,gx,gJ ht1 Fg hb,gy,λH2 hC kp=>⟨O,?_⟩⟩⟩
  have s2:=jT ht1 Fg kp
  have hm2:=s2 _ _ hm
  refine⟨_,O,m,(aC 54),dm,_,O,hm2,T.iZ,T.cZ,(by show 0<1000;decide),?_⟩
  obtain⟨dc,t,u,e1,e2,e3⟩:=hC.ok
  refine k _ ⟨dm,t1,aj,dc,t,u,(aH (λq=>?_)).trans e1,Tn.off2 hm2 ?_ ?_ e2,Tn.off2 hm2 ?_ ?_ e3⟩ λb o e hb=>(aH hb).trans (s2 _ _ e)
  ·rw[q,hm2]at e1;injection e1 with e1;injection e1 with _ _ e1;exact nomatch e1
  ·intro d fs q;injection q with q1 q2 q3;cases q3
  ·intro d q;injection q with q1 q2 q3;cases q3
  ·intro d fs q;injection q with q1 q2 q3;cases q3
  ·intro d q;injection q with q1 q2 q3;cases q3
def Di(K:W.Frag)(C:Addr):Sp:=λvs H Q _=>∃(a da b db:Addr)(x y:eF)(n0:Nat),vs=[.ref a,.ref b]/\H a=some (.ins C da (jV x))/\tG x/\H b=some (.ins C db (jV y))/\tG y/\vX fY (fH x y (Cd x y)) Qw 700000 n0 [(pT,none)] [pT]/\∀t r cm H',H t=none->aF H H'->um fY (fH x y (Cd x y)) none [(pT,none)] [pT] r cm->cm.length<=700000->RQ K x y H H' t r cm->Q (.ref t) H'
theorem Dj:bw P w K mg base fJ 12 (aC 34) (aM 34) ["one","other"] (Di K (aC 51)):=by
 have pL:=@n8 P w K mg base aC aM cQ T
 have HZ:=@Fl P w K mg base aC aM cQ T
 have Fo:=@Dh P w K mg base aC aM cQ T
 refine T.sj.ok o7 (λvs H Q E h=>?_) (λcdv A outer s H vs Q E hr h=>?_)
 ·obtain⟨a,da,b,db,x,y,n0,rfl,_⟩:=h;rfl
 ·have hu:=aU hr
  have gH:=hr.aN
  obtain⟨a,da,b,db,x,y,n0,rfl,ha,gx,hb,gy,hE,k⟩:=h
  have eg:=hr.units
  refine⟨_,(ai (eX 2 o7.nd (DS (k:=7) HZ (hr.mono (by decide)) rfl T.HP T.BL.kp T.tS.choose_spec.2 T.tS.choose_spec.1 fE (af (aB (af (aB (af (dh rfl T.c6) (af (dh rfl T.c6) ah))) (af (dh rfl T.lF) ah))) (af (kh (k:=10) T.Fc pL (hr.mono (by decide)) rfl T.Fb T.pC .nil fE (af (pv 0) (af (pv 1) ah))) ah))))
   (ai (eX 3 o7.nd (cg K (pv 2) ao))
   (ai (aG (cJ za (cg K (pv 2) ao) bq) (ak (az (aB (af aq (af (fR Fo hr T.E9 T.yJ.kp T.E8 (af (pv 3) (af (cg K (pv 2) ao) ah))) ah))))) aA)
   (ak (az (aB (af aq (af (iy rfl (show bP ["one","other","found","came"] (ay nF) ["place"] 1 [] _ from Ip) (Bg (YP P w K) (br P w) rfl rfl rfl (pv 3)) (λ_ _ _ _=>(gA 0 Qu)) (λ_ _ _ _=>ki) (λ_ _ _ _=>(cg K (pv 0) ao))) ah)))))))),?_⟩
  refine⟨(by show(2:Nat)<=sizeLine;decide),λpa hpa=>?_⟩
  have s1:=au (o:=HO.tup [.ref (aC 59),.ref (aC 59)]) hpa
  have g1:=aj (H:=H) (a:=pa) (o:=HO.tup [.ref (aC 59),.ref (aC 59)])
  generalize upd H pa (HO.tup [.ref (aC 59),.ref (aC 59)])=H1 at s1 g1⊢
  refine⟨(by show(2:Nat)<=sizeLine;decide),λpl hpl=>?_⟩
  have s2:=au (o:=HO.tup [.ref pa,.ref (aC 60)]) hpl
  have g2:=aj (H:=H1) (a:=pl) (o:=HO.tup [.ref pa,.ref (aC 60)])
  have W0:=s2 _ _ g1
  generalize upd H1 pl (HO.tup [.ref pa,.ref (aC 60)])=H2 at s2 g2 W0⊢
  have s12:=s1.trans s2
  have hst:aK K H2 (aC 59) [.str ("row":Str),.str ("":Str)]:=.inr T.gK
  have hP:dM K H2 pT (.ref pl):=⟨pl,pa,_,_,_,rfl,aK.of g2,aK.of W0,⟨_,rfl,hst⟩,⟨_,rfl,hst⟩,(aC 60),_,_,rfl,.inr T.lG,⟨_,[],rfl,.inr T.i6,.nil⟩,⟨_,[],rfl,.inr T.ja,.nil⟩⟩
  refine⟨_,O,_,O,λq dq hq Mu ne=>?_⟩
  refine⟨q,dq,a,da,b,db,x,y,O,aj,gJ hq Mu (s12 _ _ ha),gx,gJ hq Mu (s12 _ _ hb),gy,λH3 hO kp=>⟨O,?_⟩⟩
  have s3:=jT hq Mu kp
  have Iu:=s12.trans s3
  refine⟨q,_,pT,x,y,Cd x y,n0,O,hO,dB s3 hP,JC gx gy,hE,λtf rv r a2 cm H4 ha2 hcl htf MA Pz B3 s4=>?_⟩
  have MB:=Iu.trans s4
  dsimp only[bH]
  refine⟨_,O,tf,_,_,_,O,O,aK.of htf,O,?_⟩
  dsimp only[bH]
  cases r with
  |none =>
   have MA:rv=.non:=MA
   subst MA
   obtain⟨kvs,nd,cr⟩:=Pz.ok
   refine⟨_,O,tf,_,_,_,O,O,aK.of htf,O,O,_,O,jm rfl ?_⟩
   have To:H a2=none:=Iu.free ha2
   refine⟨_,O,a2,kvs,O,nd,λo D hD=>?_⟩
   have tq:=mD (F:=K) nd.ob (o:=dX (ZP P w) (br P w) a2 kvs o)
   have Mv:=cr.keep tq
   have s5:aF H (upd H4 a2 (dX (ZP P w) (br P w) a2 kvs o)):=bf To MB
   have Nf:(upd H4 a2 (dX (ZP P w) (br P w) a2 kvs o)) a2=some (dX (ZP P w) (br P w) a2 kvs o):=aj
   generalize upd H4 a2 (dX (ZP P w) (br P w) a2 kvs o)=H5 at hD Mv s5 Nf⊢
   have kl:=yC Mv
   refine yx (λi ys τ G=>(∃v,τ=[v])/\aF H5 G/\G D=some (.lst ys)/\Paired (c9 K H5) ys ((cm.take i).map λe=>e.1.1)) ⟨⟨_,rfl⟩,au hD,aj,.nil⟩ (λi ys τ G _ p=>⟨p.2.1 _ _ Nf,p.2.2.1⟩) ?_ ?_
   ·rintro i e ys τ G hi ⟨⟨v,rfl⟩,sG,hG,B0⟩
    have hil:=(aal.mp hi).1
    obtain⟨pm,ZS,e1,⟨b1,p1,w1,w2,mv,eb,q2,q3,q4,q5,q6⟩,_⟩:=bV Mv i e hi
    have hyl:=B0.length
    rw[aaq,aaQ]at hyl
    refine CQ ?_
    refine⟨_,O,b1,_,_,_,eb,O,av sG q2,O,hG,?_,⟨_,O⟩,bf hD sG,aj,?_⟩
    ·exact aaI (show ys.length<=700000 by omega) (by decide)
    ·rw[fq ZS,aaO]
     exact bU B0 (.cons ⟨p1,w1,w2,rfl,q3,q4,q5⟩ .nil)
   ·rintro ys τ G ⟨⟨v,rfl⟩,sG,hG,B0⟩
    rw[kl,aaz (aaj _)]at B0
    refine⟨(by show(2:Nat)<=sizeLine;decide),λtt Ff=>?_⟩
    have s6:=au (o:=HO.tup [.str ("alike":Str),.ref D]) Ff
    have PB:=s5.trans (sG.trans s6)
    exact k tt none cm _ ((s5.trans sG).free Ff) PB B3 hcl ⟨D,ys,aj,s5.free hD,s6 _ _ hG,aW (λ_ _ h=>c9.mono (sG.trans s6) h) B0⟩
  |some m1 =>
   have MA:dM K H4 m1 rv:=MA
   obtain⟨b1,rfl⟩:=ku MA
   obtain⟨aL,kk,hG⟩:=Bv B3
   have hmem:=List.mem_of_find?_eq_some hG.res.symm
   obtain⟨⟨x1,Pe,v1,l1,w1,e1⟩,_⟩:=hG.cE.RN m1 hmem
   have hk1:=hG.len (List.ne_nil_of_mem hmem)
   refine⟨_,O,tf,_,_,_,O,O,aK.of htf,O,O,_,O,jS rfl ?_⟩
   refine⟨_,O,_,O,tf,_,_,_,O,O,aK.of htf,O,a2,.ref b1,cm,m1,x1,Pe,O,Pz,MA,v1,l1,by omega,λH5 s5=>⟨(by show 2<=sizeLine;decide),λtt Ff=>?_⟩⟩
   have s6:=au (o:=HO.tup [.str ("parted":Str),.str (Txt.join ("":Str) (Pe.map sg).reverse)]) Ff
   refine k tt (some m1) cm _ ((MB.trans s5).free Ff) (MB.trans (s5.trans s6)) B3 hcl ⟨Pe.reverse,kk,aL,?_,w1,by rw[abE];exact e1,hG⟩
   rw[List.map_reverse]
   exact aj
def uO(K:W.Frag):Sp:=λvs H Q _=>∃(a:Addr)(ns:List Int)(i:Int),vs=[.ref a,.int i]/\bW K H a (ns.map V.int)/\0<=i/\∀r:Int,Q (.int r) H
theorem uP:bw P w K mg base fJ 1 (aC 35) (aM 35) ["_law_script","_law_k"] (uO K):=by
 refine T.iY.ok ur (λvs H Q E h=>?_) (λcdv A outer s H vs Q E hr h=>?_)
 ·obtain⟨a,ns,i,rfl,_⟩:=h;rfl
 ·have hu:=aU hr
  have gH:=hr.aN
  obtain⟨a,ns,i,rfl,hS,hi,k⟩:=h
  refine⟨_,(ai (aG (cJ Ge (pv 1) (nE (bz K rfl) T.eH (af (pv 0) ah))) (ak (az (Cc K (pv 0) (pv 1)))) aA)
   (ak (az ao))),?_⟩
  refine⟨_,O,_,O,a,_,O,.inl hS,_,_,O,O,_,O,?_⟩
  refine aX (λhc=>?_) (λ_=>?_)
  ·have hlt:=aa6 hc
   obtain⟨v,ev,hv⟩:=Hj hi hlt
   obtain⟨r,_,rfl⟩:=aaF.mp hv
   exact⟨_,O,_,O,a,_,_,_,O,O,hS,ev,k r⟩
  ·exact k 0
def xK:Sp:=λvs H Q _=>∃a b:Int,vs=[.int a,.int b]/\0<=a/\a<4294967296/\0<=b/\b<65536/\∀r:Int,0<=r->r<49979687->Q (.int r) H
theorem xM:bw P w K mg base fJ 1 (aC 36) (aM 36) ["_law_number_here","_law_salt"] xK:=by
 refine T.iF.ok jH (λvs H Q E h=>?_) (λcdv A outer s H vs Q E hr h=>?_)
 ·obtain⟨a,b,rfl,_⟩:=h;rfl
 ·have hu:=aU hr
  have gH:=hr.aN
  obtain⟨a,b,rfl,ha,ha',hb,hb',k⟩:=h
  refine⟨_,(ai (eX 2 jH.nd (aJ cz (aJ jB (aJ mh (pv 0) (aJ jB ao (aJ mh ao (pv 1)))) (aJ mh ao (pv 1))) ao))
   (ai (eX 3 jH.nd (aJ cz (aJ jB (aJ mh (pv 2) (pv 2)) (pv 1)) ao))
   (ak (az (aJ cz (aJ jB (aJ mh (pv 3) (pv 3)) (pv 2)) ao))))),?_⟩
  refine⟨_,O,_,O,_,_,O,O,.inl ⟨by decide,by decide⟩,_,_,O,O,_,_,O,O,.inl ⟨by omega,by omega⟩,_,O,_,_,O,O,.inl ⟨by decide,by decide⟩,_,_,O,O,_,_,O,O,(by show(0:Int)<15485863;decide),?_⟩
  have h1:=abe (a*(1299709+210*b)+7919*b) (show(15485863:Int)≠0 by decide)
  have h2:=aa3 (a*(1299709+210*b)+7919*b) (show(0:Int)<15485863 by decide)
  refine⟨_,O,_,O,_,_,O,O,.inl ⟨by omega,by omega⟩,_,O,_,_,O,O,_,_,O,O,(by show(0:Int)<32452843;decide),?_⟩
  refine⟨_,O,_,O,_,_,O,O,.inl ⟨?_,?_⟩,_,O,_,_,O,O,_,_,O,O,(by show(0:Int)<49979687;decide),?_⟩
  ·exact Int.lt_of_lt_of_le (by decide) (abe _ (by decide))
  ·exact Int.lt_trans (aa3 _ (by decide)) (by decide)
  ·exact k _ (abe _ (by decide)) (aa3 _ (by decide))
def wO:Sp:=λvs H Q _=>∃c s:Int,vs=[.int c,.int s]/\0<=s/\s<60000/\∀r:Int,Q (.int r) H
theorem nh:bw P w K mg base fJ 2 (aC 37) (aM 37) ["_law_cell","_law_salt"] wO:=by
 have kU:=@xM P w K mg base aC aM cQ T
 refine T.jK.ok iW (λvs H Q E h=>?_) (λcdv A outer s H vs Q E hr h=>?_)
 ·obtain⟨c,s,rfl,_⟩:=h;rfl
 ·have hu:=aU hr
  have gH:=hr.aN
  obtain⟨c,sa,rfl,hs,hs',k⟩:=h
  refine⟨_,(ai (aG (PW.pt (cS (cJ aR (aJ cz (pv 0) ao) ao) (cC (cJ KA (pv 0) (aJ mh ao (aJ Ga ao ao)))))) (ak (az (aJ Lk (aJ cR (pv 0) ao) (aJ Ga ao ao)))) aA)
   (ai (eX 2 iW.nd (aJ cz (pv 0) ao))
   (ai (eX 3 iW.nd (aJ jB (aJ mh (fR kU hr T.kQ T.iF.kp T.kP (af (pv 2) (af (pv 1) ah))) ao) (fR kU hr T.kQ T.iF.kp T.kP (af (pv 2) (af (aJ jB (pv 1) ao) ah)))))
   (ak (az (aJ jB (aJ mh (pv 3) ao) (fR kU hr T.kQ T.iF.kp T.kP (af (pv 2) (af (aJ jB (pv 1) ao) ah))))))))),?_⟩
  have W2:NL 10 18:=⟨by decide,by decide,by decide⟩
  have n0:0<=c % 1000000007:=abe _ (by decide)
  have n1:c % 1000000007<4294967296:=Int.lt_trans (aa3 _ (by decide)) (by decide)
  refine⟨_,O,_,_,O,O,(by show(0:Int)<2;decide),O,_,O,?_⟩
  refine aX (λ_=>?_) (λ_=>?_)
  ·refine⟨_,O,_,_,O,O,W2,_,_,O,O,.inl ⟨by decide,by decide⟩,_,_,O,O,_,O,?_⟩
   refine aX (λ_=>?_) (λ_=>?_)
   ·exact⟨_,O,_,_,O,O,⟨by decide,by decide⟩,_,_,O,O,W2,_,_,O,O,k _⟩
   ·refine⟨_,O,_,_,O,O,(by show(0:Int)<1000000007;decide),?_⟩
    refine⟨_,O,_,O,_,_,O,n0,n1,by omega,by omega,λr1 _ _=>?_⟩
    refine⟨_,_,O,O,.inr ⟨by decide,by decide⟩,_,O,_,O,_,_,O,O,_,_,O,n0,n1,by omega,by omega,λr2 _ _=>⟨_,_,O,O,?_⟩⟩
    refine⟨_,O,_,_,O,O,.inr ⟨by decide,by decide⟩,_,O,_,O,_,_,O,O,_,_,O,n0,n1,by omega,by omega,λr3 _ _=>⟨_,_,O,O,k _⟩⟩
  ·refine⟨_,O,_,_,O,O,(by show(0:Int)<1000000007;decide),?_⟩
   refine⟨_,O,_,O,_,_,O,n0,n1,by omega,by omega,λr1 _ _=>?_⟩
   refine⟨_,_,O,O,.inr ⟨by decide,by decide⟩,_,O,_,O,_,_,O,O,_,_,O,n0,n1,by omega,by omega,λr2 _ _=>⟨_,_,O,O,?_⟩⟩
   refine⟨_,O,_,_,O,O,.inr ⟨by decide,by decide⟩,_,O,_,O,_,_,O,O,_,_,O,n0,n1,by omega,by omega,λr3 _ _=>⟨_,_,O,O,k _⟩⟩
def Ah:Sp:=λvs H Q _=>∃(n m:Int)(me:Str),vs=[.int n,.int m,.str me]/\Mn me/\0<=m/\m<=3/\∀(t:Addr)(z:Str)(r:Int),Sg z->(z.length:Int)<=m->(1<=m->1<=z.length)->H t=none->Q (.ref t) (upd H t (.tup [.str z,.int r]))
theorem Ai:bw P w K mg base fJ 1 (aC 38) (aM 38) ["_law_number_here","_law_many","_law_menu"] Ah:=by
 refine T.jt.ok d9 (λvs H Q E h=>?_) (λcdv A outer s H vs Q E hr h=>?_)
 ·obtain⟨n,m,me,rfl,_⟩:=h;rfl
 ·have hu:=aU hr
  have gH:=hr.aN
  obtain⟨n,m,me,rfl,⟨hm1,hm2,K4⟩,h0,h3,k⟩:=h
  have hml:me.length<=sizeLine:=aao hm2 (by decide)
  refine⟨_,(ai (eX 3 d9.nd aq)
   (ai (fL aaL rfl (Ey rfl T.HW (af (pv 1) ah)) (gA 4 d9.nd)
   (ai (eX 5 d9.nd (Gq Lv (pv 2) (aJ cz (pv 0) (nE fO T.eH (af (pv 2) ah))) (λ_ _=>rfl)))
   (ai (eX 0 d9.nd (aJ cR (pv 0) (nE fO T.eH (af (pv 2) ah))))
   (ak (aG (bB dZ (pv 5) (pv 3) rfl) (ak (eX 3 d9.nd (aJ bO (pv 3) (pv 5)))) aA)))))
   (ak (az (aB (af (pv 3) (af (pv 0) ah))))))),?_⟩
  refine⟨_,O,m,O,by omega,by omega,?_⟩
  refine EA (λi σ H2=>H2=H/\∃(r:Int)(z:Str)(v1 v2:Option V),σ=[some (.int r),some (.int m),some (.str me),some (.str z),v1,v2]/\Sg z/\z.length<=i/\(1<=i->1<=z.length)) ⟨rfl,n,_,_,_,rfl,LU,by decide,λz=>absurd z (by decide)⟩ ?_ ?_
  ·rintro i σ H2 hi ⟨rfl,r,z,v1,v2,rfl,g,hz,hz1⟩
   have hlen:me.cps.toList.length=me.length:=by rw[aam];rfl
   obtain⟨c,ec,hc⟩:=Hj (xs:=me.cps.toList) (abe r (show(me.length:Int)≠0 by omega)) (by rw[hlen];exact aa3 r (by omega))
   refine⟨_,O,_,O,_,O,me,O,hml,_,_,O,O,(by show(0:Int)<me.length;omega),me,_,c,O,O,hml,ec,?_⟩
   refine⟨_,O,_,O,me,O,hml,_,_,O,O,⟨by show(0:Int)<me.length;omega,by show(me.length:Int)<1073741824;omega⟩,?_⟩
   refine⟨_,O,_,O,_,_,O,O,_,O,?_⟩
   refine aX (λha=>?_) (λha=>?_)
   ·have e1:(z++(⟨#[c]⟩:Str)).length=z.length+1:=bS _ _
    refine⟨_,O,_,O,_,_,O,O,?_,O,_,_,_,_,O,LS g (K4 c hc) ha,by rw[e1];omega,λ_=>by rw[e1];omega⟩
    exact aao (show z.length+1<=5 by omega) (by decide)
   ·refine⟨O,_,_,_,_,O,g,by omega,λ_=>?_⟩
    have hin:c∈z.cps.toList:=Classical.byContradiction λq=>ha ((iR z c).mpr q)
    have:=List.length_pos_of_mem hin
    rw[aam]at this
    exact this
  ·rintro σ H2 ⟨rfl,r,z,v1,v2,rfl,g,hz,hz1⟩
   exact⟨_,O,_,O,(by show 2<=sizeLine;decide),λt ht=>k t z r g (by omega) (λq=>hz1 (by omega)) ht⟩
def xN:Sp:=λvs H Q _=>∃n:Int,vs=[.int n]/\∀(l:Addr)(m1 m2 m3:Str),Mn m1->Mn m2->Mn m3->H l=none->Q (.ref l) (upd H l (.lst [.str m1,.str m2,.str m3]))
theorem xO:bw P w K mg base fJ 1 (aC 39) (aM 39) ["_law_way"] xN:=by
 refine T.qx.ok ow (λvs H Q E h=>?_) (λcdv A outer s H vs Q E hr h=>?_)
 ·obtain⟨n,rfl,_⟩:=h;rfl
 ·have hu:=aU hr
  have gH:=hr.aN
  obtain⟨n,rfl,k⟩:=h
  refine⟨_,(ai (eX 1 ow.nd aq)
   (ai (aG (cJ aR (pv 0) ao) (ak (az (dO (af aq (af aq (af aq ah)))))) aA)
   (ai (aG (cJ aR (pv 0) ao) (ak (az (dO (af aq (af aq (af aq ah)))))) aA)
   (ak (az (dO (af (pv 1) (af (pv 1) (af (pv 1) ah))))))))),?_⟩
  refine⟨_,O,O,_,O,?_⟩
  refine aX (λ_=>?_) (λ_=>?_)
  ·exact⟨by decide,λl hl=>k l _ _ _ (by decide +kernel) (by decide +kernel) (by decide +kernel) hl⟩
  ·refine⟨_,O,O,_,O,?_⟩
   refine aX (λ_=>?_) (λ_=>?_)
   ·exact⟨by decide,λl hl=>k l _ _ _ (by decide +kernel) (by decide +kernel) (by decide +kernel) hl⟩
   ·exact⟨_,O,_,O,_,O,by decide,λl hl=>k l _ _ _ (by decide +kernel) (by decide +kernel) (by decide +kernel) hl⟩
def Aj:Sp:=λvs H Q _=>∃c:Int,vs=[.int c]/\∀(t:Addr)(p q f:Str)(b1 b2 b3 b4:Bool)(H':Hp),Gd p q f->H t=none->H' t=some (.tup (jR p q f b1 b2 b3 b4))->aF H H'->Q (.ref t) H'
theorem Ak:bw P w K mg base fJ 3 (aC 40) (aM 40) ["_law_cell"] Aj:=by
 have Al:=@xO P w K mg base aC aM cQ T
 have jM:=@nh P w K mg base aC aM cQ T
 have ni:=@Ai P w K mg base aC aM cQ T
 refine T.tP.ok bD (λvs H Q E h=>?_) (λcdv A outer s H vs Q E hr h=>?_)
 ·obtain⟨c,rfl,_⟩:=h;rfl
 ·have hu:=aU hr
  have gH:=hr.aN
  obtain⟨c,rfl,k⟩:=h
  refine⟨_,(ai (eX 1 bD.nd (fR jM hr T.oG T.jK.kp T.oF (af (pv 0) (af ao ah))))
   (ai (eX 2 bD.nd (aJ cz (pv 1) ao))
   (ai (eX 3 bD.nd (dO (af (aJ jB ao (aJ cz (aJ cR (pv 1) ao) ao)) (af (aJ cz (aJ cR (pv 1) ao) ao) (af (aJ cz (aJ cR (pv 1) ao) ao) ah)))))
   (ai (eX 4 bD.nd (fR Al hr T.zS T.qx.kp T.zR (af (aJ cz (aJ cR (pv 1) ao) ao) ah)))
   (ai (lY (fR ni hr T.m6 T.jt.kp T.m5 (af (aJ cR (pv 1) ao) (af (Cc K (pv 3) ao) (af (Cc K (pv 4) ao) ah)))) (jk K rfl 2 rfl (aP (gA 5 bD.nd) (aP (gA 1 bD.nd) ji))))
   (ai (lY (fR ni hr T.m6 T.jt.kp T.m5 (af (pv 1) (af (Cc K (pv 3) ao) (af (Cc K (pv 4) ao) ah)))) (jk K rfl 2 rfl (aP (gA 6 bD.nd) (aP (gA 1 bD.nd) ji))))
   (ai (lY (fR ni hr T.m6 T.jt.kp T.m5 (af (pv 1) (af (Cc K (pv 3) ao) (af (Cc K (pv 4) ao) ah)))) (jk K rfl 2 rfl (aP (gA 7 bD.nd) (aP (gA 1 bD.nd) ji))))
   (ai (eX 8 bD.nd (dO (af (zB aR (aJ cz (pv 2) ao) ao) (af (zB aR (aJ cz (aJ cR (pv 2) ao) ao) ao) (af (zB aR (aJ cz (aJ cR (pv 2) ao) ao) ao) (af (zB aR (aJ cz (aJ cR (pv 2) ao) ao) ao) ah))))))
   (ak (az (aB (af (pv 5) (af (pv 6) (af (pv 7) (af (Cc K (pv 8) ao) (af (Cc K (pv 8) ao) (af (Cc K (pv 8) ao) (af (Cc K (pv 8) ao) ah)))))))))))))))))),?_⟩
  refine⟨_,O,_,_,O,by decide,by decide,λn=>?_⟩
  refine⟨_,O,_,_,O,O,(by show(0:Int)<16;decide),?_⟩
  refine⟨_,O,_,_,O,O,⟨by decide,by decide⟩,_,_,O,O,(by show(0:Int)<3;decide),_,_,O,O,_,O,_,_,O,O,⟨by decide,by decide⟩,_,_,O,O,(by show(0:Int)<3;decide),_,O,_,_,O,O,⟨by decide,by decide⟩,_,_,O,O,(by show(0:Int)<3;decide),(by show 3<=sizeLine;decide),λl hl=>?_⟩
  have m1:=abe (n / 16) (show(3:Int)≠0 by decide)
  have m1':=aa3 (n / 16) (show(0:Int)<3 by decide)
  have m2:=abe (n / 48) (show(3:Int)≠0 by decide)
  have m2':=aa3 (n / 48) (show(0:Int)<3 by decide)
  have m3:=abe (n / 144) (show(3:Int)≠0 by decide)
  have m3':=aa3 (n / 144) (show(0:Int)<3 by decide)
  have h1:(upd H l (.lst [.int (1+n / 16 % 3),.int (n / 48 % 3),.int (n / 144 % 3)])) l=some (.lst [.int (1+n / 16 % 3),.int (n / 48 % 3),.int (n / 144 % 3)]):=aj
  have s1:aF H (upd H l (.lst [.int (1+n / 16 % 3),.int (n / 48 % 3),.int (n / 144 % 3)])):=au hl
  generalize upd H l (.lst [.int (1+n / 16 % 3),.int (n / 48 % 3),.int (n / 144 % 3)])=H1 at h1 s1⊢
  refine⟨_,O,_,_,O,O,⟨by decide,by decide⟩,_,_,O,O,(by show(0:Int)<3;decide),_,O,λl2 e1 e2 e3 g1 g2 g3 hl2=>?_⟩
  have h2:(upd H1 l2 (.lst [.str e1,.str e2,.str e3])) l2=some (.lst [.str e1,.str e2,.str e3]):=aj
  have s2:aF H1 (upd H1 l2 (.lst [.str e1,.str e2,.str e3])):=au hl2
  generalize upd H1 l2 (.lst [.str e1,.str e2,.str e3])=H2 at h2 s2⊢
  have h12:=s2 _ _ h1
  refine⟨_,O,_,_,O,O,⟨by decide,by decide⟩,_,O,l,_,_,_,O,O,bW.of h12,O,_,O,l2,_,_,_,O,O,bW.of h2,O,_,_,_,O,g1,by omega,by omega,λt1 p r1 gp lp ZT ht1=>?_⟩
  refine⟨t1,_,O,aK.of aj,O,_,_,O,_,_,O,O,?_⟩
  have s3:aF H2 (upd H2 t1 (.tup [.str p,.int r1])):=au ht1
  generalize upd H2 t1 (.tup [.str p,.int r1])=H3 at s3⊢
  refine⟨_,O,_,O,l,_,_,_,O,O,bW.of (s3 _ _ h12),O,_,O,l2,_,_,_,O,O,bW.of (s3 _ _ h2),O,_,_,_,O,g2,by omega,by omega,λt2 q r2 gq lq Zm xH=>?_⟩
  refine⟨t2,_,O,aK.of aj,O,_,_,O,_,_,O,O,?_⟩
  have s4:aF H3 (upd H3 t2 (.tup [.str q,.int r2])):=au xH
  generalize upd H3 t2 (.tup [.str q,.int r2])=H4 at s4⊢
  refine⟨_,O,_,O,l,_,_,_,O,O,bW.of (s4 _ _ (s3 _ _ h12)),O,_,O,l2,_,_,_,O,O,bW.of (s4 _ _ (s3 _ _ h2)),O,_,_,_,O,g3,by omega,by omega,λt3 f r3 gf lf lf1 HY=>?_⟩
  refine⟨t3,_,O,aK.of aj,O,_,_,O,_,_,O,O,?_⟩
  have s5:aF H4 (upd H4 t3 (.tup [.str f,.int r3])):=au HY
  generalize upd H4 t3 (.tup [.str f,.int r3])=H5 at s5⊢
  refine⟨_,O,_,_,O,O,(by show(0:Int)<2;decide),O,_,O,_,_,O,O,⟨by decide,by decide⟩,_,_,O,O,(by show(0:Int)<2;decide),O,_,O,_,_,O,O,⟨by decide,by decide⟩,_,_,O,O,(by show(0:Int)<2;decide),O,_,O,_,_,O,O,⟨by decide,by decide⟩,_,_,O,O,(by show(0:Int)<2;decide),O,(by show 4<=sizeLine;decide),λl6 ZU=>?_⟩
  have s6:=au (o:=HO.lst [.bl (decide (V.int (n % 16 % 2)=V.int 1)),.bl (decide (V.int (n % 16 / 2 % 2)=V.int 1)),.bl (decide (V.int (n % 16 / 4 % 2)=V.int 1)),.bl (decide (V.int (n % 16 / 8 % 2)=V.int 1))]) ZU
  refine⟨_,O,_,O,_,O,_,O,l6,_,_,_,O,O,bW.of aj,O,_,O,l6,_,_,_,O,O,bW.of aj,O,_,O,l6,_,_,_,O,O,bW.of aj,O,_,O,l6,_,_,_,O,O,bW.of aj,O,(by show 7<=sizeLine;decide),λt ht=>?_⟩
  have PD:=((((s1.trans s2).trans s3).trans s4).trans s5).trans s6
  exact k t p q f _ _ _ _ _ ⟨gp,gq,gf,ZT (by omega),by omega,by omega,by omega⟩ (PD.free ht) aj (PD.trans (au ht))
def Am(C:Addr):Sp:=λvs H Q _=>∃(t:Addr)(p q f:Str)(b1 b2 b3 b4:Bool),vs=[.ref t]/\H t=some (.tup (jR p q f b1 b2 b3 b4))/\Gd p q f/\∀(x dx:Addr)(H':Hp),H x=none->H' x=some (.ins C dx (AO p q f b1 b2 b3 b4))->aF H H'->Q (.ref x) H'
theorem An:bw P w K mg base fJ 5 (aC 41) (aM 41) ["_law_told_here"] (Am (aC 51)):=by
 have fD:=@ig P w K mg base aC aM cQ T
 refine T.ju.ok zM (λvs H Q E h=>?_) (λcdv A outer s H vs Q E hr h=>?_)
 ·obtain⟨t,p,q,f,b1,b2,b3,b4,rfl,_⟩:=h;rfl
 ·have hu:=aU hr
  have gH:=hr.aN
  obtain⟨t,p,q,f,b1,b2,b3,b4,rfl,ht,g,k⟩:=h
  have hS:aK K H t (jR p q f b1 b2 b3 b4):=aK.of ht
  refine⟨_,(ak (az (kh (k:=3) T.yN fD (hr.mono (by decide)) rfl T.yM T.iX .nil fE (af (cg K (pv 0) ao) (af (cg K (pv 0) ao) (af (cg K (pv 0) ao) (af (cg K (pv 0) ao) (af (cg K (pv 0) ao) (af (cg K (pv 0) ao) (af (cg K (pv 0) ao) ah)))))))))),?_⟩
  refine⟨_,O,t,_,_,_,O,O,hS,O,_,O,t,_,_,_,O,O,hS,O,_,O,t,_,_,_,O,O,hS,O,_,O,t,_,_,_,O,O,hS,O,_,O,t,_,_,_,O,O,hS,O,_,O,t,_,_,_,O,O,hS,O,_,O,t,_,_,_,O,O,hS,O,λx dx hx hdx ne=>?_⟩
  refine⟨x,dx,p,q,f,b1,b2,b3,b4,O,aj,g,λH2 h2 kp=>⟨O,k x dx H2 hx h2 λb o e=>kp b o ?_ (aV e hx)⟩⟩
  rw[aH (aV e hx),aH (aV e hdx)]
  exact e
def xP(K:W.Frag):Sp:=λvs H Q _=>∃(t:Addr)(n:Int)(x:eF),vs=[.ref t,.int n]/\H t=some (.tup (zE x))/\tG x/\∀(t2:Addr)(y:eF) H',Ce x y->H t2=none->H' t2=some (.tup (zE y))->aF H H'->Q (.ref t2) H'
theorem xQ:bw P w K mg base fJ 1 (aC 42) (aM 42) ["_law_told_here","_law_number_here"] (xP K):=by
 refine T.qy.ok aQ (λvs H Q E h=>?_) (λcdv A outer s H vs Q E hr h=>?_)
 ·obtain⟨t,n,x,rfl,_⟩:=h;rfl
 ·have hu:=aU hr
  have gH:=hr.aN
  obtain⟨t,n,x,rfl,ht,g,k⟩:=h
  obtain⟨p,q,f,⟨b1,b2,b3,b4⟩⟩:=x
  have WQ:100000<=sizeLine:=by decide
  have p1:1<=p.length:=g.p1
  have p3:p.length<=3:=g.p3
  have q2:q.length<=2:=g.q2
  have f2:f.length<=2:=g.f2
  refine⟨_,(ai (lY (pv 0) (jk K rfl 7 rfl (aP (gA 2 aQ.nd) (aP (gA 3 aQ.nd) (aP (gA 4 aQ.nd) (aP (gA 5 aQ.nd) (aP (gA 6 aQ.nd) (aP (gA 7 aQ.nd) (aP (gA 8 aQ.nd) ji)))))))))
   (ai (aG (cJ aR (pv 3) aq) (ai (eX 5 aQ.nd (zB aR (aJ cz (pv 1) ao) ao))
   (ai (eX 8 aQ.nd (zB aR (aJ cz (aJ cR (pv 1) ao) ao) ao))
   (ak (aG (cJ aR (pv 4) aq) (ak (eX 6 aQ.nd (zB aR (aJ cz (aJ cR (pv 1) ao) ao) ao))) aA)))) aA)
   (ai (eX 9 aQ.nd (aJ cz (aJ cR (pv 1) ao) (nE fO T.eH (af (pv 2) ah))))
   (ai (eX 2 aQ.nd (aJ bO (mj GN (pv 2) (pW (pv 9)) pV) (mj GN (pv 2) pV (pW (pv 9)))))
   (ai (aG (cJ aR (aJ cz (aJ cR (pv 1) ao) ao) ao) (ak (eX 2 aQ.nd (mE rfl rfl T.jv aq (af (pv 2) ah)))) aA)
   (ai (aG (cJ aR (aJ cz (aJ cR (pv 1) ao) ao) ao) (ak (eX 3 aQ.nd (mE rfl rfl T.jv aq (af (pv 3) ah)))) aA)
   (ai (aG (cJ aR (aJ cz (aJ cR (pv 1) ao) ao) ao) (ak (eX 4 aQ.nd (mE rfl rfl T.jv aq (af (pv 4) ah)))) aA)
   (ak (az (aB (af (pv 2) (af (pv 3) (af (pv 4) (af (pv 5) (af (pv 6) (af (pv 7) (af (pv 8) ah))))))))))))))))),?_⟩
  refine⟨_,O,_,_,O,aK.of ht,O,_,_,O,_,_,O,_,_,O,_,_,O,_,_,O,_,_,O,_,_,O,O,?_⟩
  dsimp only[bH]
  refine nG (t:=FY _ _ _) (λσ' G=>G=H/\∃c1 c2 c4,σ'=[some (.ref t),some (.int n),some (.str p),some (.str q),some (.str f),some (.bl c1),some (.bl c2),some (.bl b3),some (.bl c4),none]/\(q=Str.ofString ""\/(b1=c1/\b4=c4))/\((q=Str.ofString ""/\f=("":Str))\/b2=c2)) ?_ (λgo=>?_)
  rotate_left
  ·refine⟨_,O,O,_,O,Oi (λh1=>?_) (λh1=>go _ _ ⟨O,b1,b2,b4,O,.inr ⟨O,O⟩,.inr rfl⟩)⟩
   refine⟨_,O,_,_,O,O,(by show(0:Int)<2;decide),O,_,O,_,_,O,O,⟨(by decide),(by decide)⟩,_,_,O,O,(by show(0:Int)<2;decide),O,_,O,O,_,O,Oi (λh2=>?_) (λh2=>go _ _ ⟨O,_,b2,_,O,.inl h1,.inr rfl⟩)⟩
   refine⟨_,O,_,_,O,O,⟨(by decide),(by decide)⟩,_,_,O,O,(by show(0:Int)<2;decide),O,?_⟩
   exact go _ _ ⟨rfl,_,_,_,rfl,.inl h1,.inl ⟨h1,h2⟩⟩
  rintro σ' G ⟨rfl,c1,c2,c4,rfl,hc1,hc2⟩
  have m0:=abe (n / 8) (show(p.length:Int)≠0 by omega)
  have m1:=aa3 (n / 8) (show(0:Int)<(p.length:Int) by omega)
  refine⟨_,O,_,_,O,O,⟨(by decide),(by decide)⟩,_,O,_,O,by omega,_,_,O,O,(by show(0:Int)<(p.length:Int);omega),?_⟩
  dsimp only[bH]
  obtain⟨an,ZV⟩:∃an:Nat,n / 8 % (p.length:Int)=(an:Int):=⟨(n / 8 % (p.length:Int)).toNat,by omega⟩
  rw[ZV]
  have perm:=HE (z:=p) (n:=an) (by omega) p3
  have Dk:=perm.length_eq
  rw[aam,aam]at Dk
  have Dk:p.length=(Txt.slice p (some (an:Int)) none++Txt.slice p none (some (an:Int))).length:=Dk
  have PF:=Dk
  rw[bS]at PF
  refine⟨_,O,_,O,_,O,_,O,by omega,_,O,_,O,_,O,_,O,by omega,_,_,O,O,by omega,?_⟩
  dsimp only[bH]
  generalize Txt.slice p (some (an:Int)) none++Txt.slice p none (some (an:Int))=P1 at perm Dk⊢
  have Tp:("":Str).length=0:=LW
  have jr:∀y:Str,y.length<=3->(Txt.join ("":Str) (y.cps.toList.reverse.map sg)).length=y.length:=λy _=>by
   have:=(gG y).length_eq
   rw[aam,aam]at this
   exact this.symm
  refine nG (t:=FY _ _ _) (λσ' G'=>G'=G/\∃P2:Str,σ'=[some (.ref t),some (.int n),some (.str P2),some (.str q),some (.str f),some (.bl c1),some (.bl c2),some (.bl b3),some (.bl c4),some (.int (an:Int))]/\p.cps.toList.Perm P2.cps.toList/\P2.length=p.length) ?_ (λgo=>?_)
  rotate_left
  ·refine⟨_,O,_,_,O,O,⟨(by decide),(by decide)⟩,_,_,O,O,(by show(0:Int)<2;decide),O,_,O,?_⟩
   refine KR (λ_=>?_) (λ_=>go _ _ ⟨rfl,P1,rfl,perm,Dk.symm⟩)
   exact⟨_,O,_,O,P1,O,by omega,Tp,go _ _ ⟨O,_,O,perm.trans (gG P1),by rw[jr P1 (by omega)];exact Dk.symm⟩⟩
  rintro σ' G' ⟨rfl,P2,rfl,pp,pl2⟩
  refine nG (t:=FY _ _ _) (λσ' G2=>G2=G'/\∃Q2:Str,σ'=[some (.ref t),some (.int n),some (.str P2),some (.str Q2),some (.str f),some (.bl c1),some (.bl c2),some (.bl b3),some (.bl c4),some (.int (an:Int))]/\q.cps.toList.Perm Q2.cps.toList) ?_ (λgo=>?_)
  rotate_left
  ·refine⟨_,O,_,_,O,O,⟨(by decide),(by decide)⟩,_,_,O,O,(by show(0:Int)<2;decide),O,_,O,?_⟩
   refine KR (λ_=>?_) (λ_=>go _ _ ⟨rfl,q,rfl,.refl _⟩)
   exact⟨_,O,_,O,q,O,by omega,Tp,go _ _ ⟨O,_,O,gG q⟩⟩
  rintro σ' G2 ⟨rfl,Q2,rfl,pq⟩
  refine nG (t:=FY _ _ _) (λσ' G3=>G3=G2/\∃F2:Str,σ'=[some (.ref t),some (.int n),some (.str P2),some (.str Q2),some (.str F2),some (.bl c1),some (.bl c2),some (.bl b3),some (.bl c4),some (.int (an:Int))]/\f.cps.toList.Perm F2.cps.toList) ?_ (λgo=>?_)
  rotate_left
  ·refine⟨_,O,_,_,O,O,⟨(by decide),(by decide)⟩,_,_,O,O,(by show(0:Int)<2;decide),O,_,O,?_⟩
   refine KR (λ_=>?_) (λ_=>go _ _ ⟨rfl,f,rfl,.refl _⟩)
   exact⟨_,O,_,O,f,O,by omega,Tp,go _ _ ⟨O,_,O,gG f⟩⟩
  rintro σ' G3 ⟨rfl,F2,rfl,pf⟩
  refine⟨_,O,_,O,_,O,_,O,_,O,_,O,_,O,(by show(7:Nat)<=sizeLine;decide),λt2 xH=>?_⟩
  exact k t2 (P2,Q2,F2,⟨c1,c2,b3,c4⟩) _ ⟨pp,pq,pf,rfl,hc1,hc2⟩ xH aj (au xH)
def Ao(K:W.Frag):Sp:=λvs H Q _=>∃(t s:Addr)(w u:Str)(c:Nat)(p q f:Str)(b1 b2 b3 b4:Bool),vs=[.ref t,.ref s,.str (sg c)]/\aK K H t (jR p q f b1 b2 b3 b4)/\aK K H s [.str w,.str u]/\∀v H',aF H H'->uh K H' v (dw p q f b3 b4 w u c)->Q v H'
theorem Aq:bw P w K mg base fJ 1 (aC 43) (aM 43) ["_law_told_here","_law_state","_law_sign"] (Ao K):=by
 refine T.tQ.ok cG (λvs H Q E h=>?_) (λcdv A outer s H vs Q E hr h=>?_)
 ·obtain⟨t,s,w,u,c,p,q,f,b1,b2,b3,b4,rfl,_⟩:=h;rfl
 ·have hu:=aU hr
  have gH:=hr.aN
  obtain⟨t,s,w,u,c,p,q,f,b1,b2,b3,b4,rfl,ht,hs,k⟩:=h
  refine'⟨_,?aa,?bb⟩
  case aa =>
   refine' ai ?s0 ?r0
   case s0 =>
    exact(lY (pv 0) (jk K rfl 7 rfl (aP (gA 3 cG.nd) (aP (gA 4 cG.nd) (aP (gA 5 cG.nd) (aP (gA 6 cG.nd) (aP (gA 7 cG.nd) (aP (gA 8 cG.nd) (aP (gA 9 cG.nd) ji)))))))))
   case r0 =>
    refine' ai ?s1 ?r1
    case s1 =>
     refine' aG ?c2 ?b2 ?e2
     case c2=>exact(bB bN (pv 2) (pv 5) rfl)
     case b2 =>
      refine' ak ?s3
      case s3 =>
       refine' az ?v4
       case v4 =>
        refine' aB ?a5
        case a5 =>
         refine' af ?x6 ?y6 ?z6
         case z6=>exact rfl
         case x6 =>
          exact aq
         case y6 =>
          refine' af ?x7 ?y7 ?z7
          case z7=>exact rfl
          case x7 =>
           refine' aB ?a8
           case a8 =>
            refine' af ?x9 ?y9 ?z9
            case z9=>exact rfl
            case x9 =>
             exact aq
            case y9 =>
             refine' af ?O7 ?O8 ?O9
             case O9=>exact rfl
             case O7 =>
              exact aq
             case O8 =>
              exact ah
          case y7 =>
           exact ah
     case e2 =>
      exact aA
    case r1 =>
     refine' ai ?Mx ?ZW
     case Mx =>
      refine' aG ?c12 ?Tq ?ZX
      case c12=>exact(cJ aR (pv 2) aq)
      case Tq =>
       refine' ak ?Iu
       case Iu =>
        refine' az ?ZY
        case ZY =>
         refine' aB ?Tr
         case Tr =>
          refine' af ?JJ ?JK ?JL
          case JL=>exact rfl
          case JJ =>
           exact aq
          case JK =>
           refine' af ?ZZ ?Z0 ?Z1
           case Z1=>exact rfl
           case ZZ =>
            refine' aB ?PJ
            case PJ =>
             refine' af ?Tt ?Tu ?Tv
             case Tv=>exact rfl
             case Tt =>
              exact aq
             case Tu =>
              refine' af ?Tw ?Tz ?TF
              case TF=>exact rfl
              case Tw =>
               exact aq
              case Tz =>
               exact ah
           case Z0 =>
            exact ah
      case ZX =>
       exact aA
     case ZW =>
      refine' ai ?Z2 ?Z3
      case Z2 =>
       refine' aG ?Z4 ?TH ?Z5
       case Z4=>exact(PW.pt (cS (cJ jj (cg K (pv 1) ao) aq) (cC (bB bN (pv 2) (pv 4) rfl))))
       case TH =>
        refine' ak ?Z6
        case Z6 =>
         refine' az ?Z7
         case Z7 =>
          refine' aB ?TJ
          case TJ =>
           refine' af ?JS ?JT ?JU
           case JU=>exact rfl
           case JS =>
            exact aq
           case JT =>
            refine' af ?O2 ?O3 ?O4
            case O4=>exact rfl
            case O2 =>
             refine' aB ?PK
             case PK =>
              refine' af ?TL ?TM ?TN
              case TN=>exact rfl
              case TL =>
               exact aq
              case TM =>
               refine' af ?Mq ?Mr ?Ms
               case Ms=>exact rfl
               case Mq =>
                exact(pv 2)
               case Mr =>
                exact ah
            case O3 =>
             exact ah
       case Z5 =>
        exact aA
      case Z3 =>
       refine' ai ?TQ ?TR
       case TQ =>
        refine' aG ?TU ?PL ?TV
        case TU=>exact(bB bN (pv 2) (pv 3) rfl)
        case PL =>
         refine' ak ?TX
         case TX =>
          refine' az ?TY
          case TY =>
           refine' aB ?PM
           case PM =>
            refine' af ?OV ?OW ?OX
            case OX=>exact rfl
            case OV =>
             exact aq
            case OW =>
             refine' af ?OZ ?O0 ?O1
             case O1=>exact rfl
             case OZ =>
              refine' aB ?TZ
              case TZ =>
               refine' af ?Z8 ?Z9 ?z39
               case z39=>exact rfl
               case Z8 =>
                exact aq
               case Z9 =>
                refine' af ?Sn ?So ?Sq
                case Sq=>exact rfl
                case Sn =>
                 exact aq
                case So =>
                 exact ah
             case O0 =>
              exact ah
        case TV =>
         exact aA
       case TR =>
        refine' ai ?s41 ?r41
        case s41 =>
         refine' aG ?c42 ?T8 ?e42
         case c42=>exact(PW.pt (cS (cJ jj (cg K (pv 1) ao) aq) (cS (aY (pv 8)) (cC (cJ aR (pv 2) aq)))))
         case T8 =>
          refine' ak ?T9
          case T9 =>
           refine' az ?v44
           case v44 =>
            refine' aB ?Ua
            case Ua =>
             refine' af ?x46 ?y46 ?z46
             case z46=>exact rfl
             case x46 =>
              exact aq
             case y46 =>
              refine' af ?Sa ?Sb ?Sd
              case Sd=>exact rfl
              case Sa =>
               exact(pv 1)
              case Sb =>
               exact ah
         case e42 =>
          exact aA
        case r41 =>
         refine' ai ?PN ?r48
         case PN =>
          refine' aG ?c49 ?Ub ?e49
          case c49=>exact(PW.pt (cS (bB bN (pv 2) (pv 4) rfl) (cS (bG (aY (pv 9))) (cC (cJ aR (cg K (pv 1) ao) aq)))))
          case Ub =>
           refine' ak ?s50
           case s50 =>
            refine' az ?v51
            case v51 =>
             refine' aB ?a52
             case a52 =>
              refine' af ?x53 ?y53 ?z53
              case z53=>exact rfl
              case x53 =>
               exact aq
              case y53 =>
               refine' af ?x54 ?y54 ?z54
               case z54=>exact rfl
               case x54 =>
                exact aq
               case y54 =>
                exact ah
          case e49 =>
           exact aA
         case r48 =>
          refine' ak ?s55
          case s55 =>
           refine' az ?v56
           case v56 =>
            refine' aB ?a57
            case a57 =>
             refine' af ?x58 ?y58 ?z58
             case z58=>exact rfl
             case x58 =>
              exact aq
             case y58 =>
              refine' af ?Uc ?Ud ?Ue
              case Ue=>exact rfl
              case Uc =>
               refine' aB ?Ug
               case Ug =>
                refine' af ?Uh ?Ui ?Uj
                case Uj=>exact rfl
                case Uh =>
                 exact aq
                case Ui =>
                 refine' af ?Uk ?Ul ?Um
                 case Um=>exact rfl
                 case Uk =>
                  exact aq
                 case Ul =>
                  exact ah
              case Ud =>
               exact ah
  refine⟨_,O,t,_,O,ht,O,_,_,O,_,_,O,_,_,O,_,_,O,_,_,O,_,_,O,_,_,O,O,?_⟩
  by_cases hw:bh w ("plain":Str)=true
  ·refine⟨_,O,_,O,_,_,O,O,_,O,aX (λ(h1:gj c f=true)=>?_) (λ(h1:¬gj c f=true)=>?_)⟩
   ·exact bI (by unfold dw cT;rw[aai hw,aai h1]) cF k
   refine⟨_,O,O,_,O,aX (λ(h2:bh (sg c) (Str.ofString "\n")=true)=>?_) (λ(h2:¬bh (sg c) (Str.ofString "\n")=true)=>?_)⟩
   ·exact bI (by unfold dw cT;rw[aai hw,aah h1,aai h2]) oX k
   refine⟨_,O,s,_,_,_,O,O,hs,O,O,_,O,Hi hw (bM ?_)⟩
   refine⟨_,O,_,O,_,_,O,O,_,O,aX (λ(h3:gj c p=true)=>?_) (λ(h3:¬gj c p=true)=>?_)⟩
   ·exact bI (by unfold dw cT;rw[aai hw,aah h1,aah h2,aai h3]) kJ k
   refine⟨_,O,s,_,_,_,O,O,hs,O,O,_,O,Hi hw (bM ?_)⟩
   refine⟨_,O,_,O,_,_,O,O,_,O,aX (λ(h4:gj c q=true)=>?_) (λ(h4:¬gj c q=true)=>?_)⟩
   ·refine⟨_,O,_,O,aX (λ(h5:(!b4)=true)=>?_) (λ(h5:¬(!b4)=true)=>?_)⟩
    ·refine⟨_,O,s,_,_,_,O,O,hs,O,O,_,O,jS hw ?_⟩
     exact gU (by unfold dw cT;rw[aai hw,aah h1,aah h2,aah h3,aai h4,aai h5]) k
    refine bM ?_
    exact bI (by unfold dw cT;rw[aai hw,aah h1,aah h2,aah h3,aai h4,aah h5]) cA k
   refine bM ?_
   exact bI (by unfold dw cT;rw[aai hw,aah h1,aah h2,aah h3,aah h4]) cA k
  ·refine⟨_,O,_,O,_,_,O,O,_,O,aX (λ(h1:gj c f=true)=>?_) (λ(h1:¬gj c f=true)=>?_)⟩
   ·exact bI (by unfold dw cK;rw[aah hw,aai h1]) cF k
   refine⟨_,O,O,_,O,aX (λ(h2:bh (sg c) (Str.ofString "\n")=true)=>?_) (λ(h2:¬bh (sg c) (Str.ofString "\n")=true)=>?_)⟩
   ·exact bI (by unfold dw cK;rw[aah hw,aah h1,aai h2]) oX k
   refine⟨_,O,s,_,_,_,O,O,hs,O,O,_,O,Hl (ia hw) ?_⟩
   refine⟨_,O,_,O,_,_,O,O,_,O,aX (λ(h3:gj c q=true)=>?_) (λ(h3:¬gj c q=true)=>?_)⟩
   ·exact⟨_,O,bI (by unfold dw cK;rw[aah hw,aah h1,aah h2,aai h3]) cF k⟩
   refine⟨_,O,_,O,_,_,O,O,_,O,aX (λ(h4:gj c p=true)=>?_) (λ(h4:¬gj c p=true)=>?_)⟩
   ·exact bI (by unfold dw cK;rw[aah hw,aah h1,aah h2,aah h3,aai h4]) kJ k
   refine⟨_,O,s,_,_,_,O,O,hs,O,O,_,O,Hl (ia hw) ?_⟩
   refine⟨_,O,_,O,aX (λ(h5:b3=true)=>?_) (λ(h5:¬b3=true)=>?_)⟩
   ·refine⟨_,O,O,_,O,aX (λ(h6:bh (sg c) (" ":Str)=true)=>?_) (λ(h6:¬bh (sg c) (" ":Str)=true)=>?_)⟩
    ·exact⟨_,O,gC (by unfold dw cK;rw[aah hw,aah h1,aah h2,aah h3,aah h4,aai h6,aai h5]) cF (aF.refl _) hs k⟩
    refine⟨_,O,_,O,_,_,O,O,_,O,jm (ia h3) (bM ?_)⟩
    exact bI (by unfold dw cK;rw[aah hw,aah h1,aah h2,aah h3,aah h4,aah h6]) cA k
   refine bM ?_
   refine⟨_,O,_,O,_,_,O,O,_,O,jm (ia h3) (bM ?_)⟩
   exact bI (by unfold dw cK;rw[aah hw,aah h1,aah h2,aah h3,aah h4];by_cases h6:bh (sg c) (" ":Str)=true<;>simp only[h6,h5,if_true,aaW,aaD]) cA k
def Ar(K:W.Frag):Sp:=λvs H Q _=>∃(t s:Addr)(w u:Str)(c:Nat)(p q f:Str)(b1 b2 b3 b4:Bool),vs=[.ref t,.ref s,.str (sg c)]/\aK K H t (jR p q f b1 b2 b3 b4)/\aK K H s [.str w,.str u]/\∀v H',aF H H'->uh K H' v (dg p q f b1 b2 b3 b4 w u c)->Q v H'
theorem As:bw P w K mg base fJ 2 (aC 44) (aM 44) ["_law_told_here","_law_state","_law_sign"] (Ar K):=by
 have B5:=@Aq P w K mg base aC aM cQ T
 refine T.tR.ok bR (λvs H Q E h=>?_) (λcdv A outer s H vs Q E hr h=>?_)
 ·obtain⟨t,s,w,u,c,p,q,f,b1,b2,b3,b4,rfl,_⟩:=h;rfl
 ·have hu:=aU hr
  have gH:=hr.aN
  obtain⟨t,s,w,u,c,p,q,f,b1,b2,b3,b4,rfl,ht,hs,k⟩:=h
  refine'⟨_,?aa,?bb⟩
  case aa =>
   refine' ai ?s0 ?r0
   case s0 =>
    exact(lY (pv 0) (jk K rfl 7 rfl (aP (gA 3 bR.nd) (aP (gA 4 bR.nd) (aP (gA 5 bR.nd) (aP (gA 6 bR.nd) (aP (gA 7 bR.nd) (aP (gA 8 bR.nd) (aP (gA 9 bR.nd) ji)))))))))
   case r0 =>
    refine' ai ?s1 ?r1
    case s1 =>
     exact(lY (pv 1) (jk K rfl 2 rfl (aP (gA 10 bR.nd) (aP (gA 11 bR.nd) ji))))
    case r1 =>
     refine' ai ?s2 ?r2
     case s2 =>
      refine' aG ?c3 ?b3 ?e3
      case c3=>exact(cJ aR (pv 10) aq)
      case b3 =>
       refine' ai ?s4 ?r4
       case s4 =>
        refine' aG ?c5 ?b5 ?e5
        case c5=>exact(bB bN (pv 2) (pv 5) rfl)
        case b5 =>
         refine' ak ?s6
         case s6 =>
          refine' az ?v7
          case v7 =>
           refine' aB ?a8
           case a8 =>
            refine' af ?x9 ?y9 ?z9
            case z9=>exact rfl
            case x9 =>
             exact aq
            case y9 =>
             refine' af ?O7 ?O8 ?O9
             case O9=>exact rfl
             case O7 =>
              refine' aB ?O6
              case O6 =>
               refine' af ?SA ?SD ?SE
               case SE=>exact rfl
               case SA =>
                exact aq
               case SD =>
                refine' af ?SG ?SH ?SI
                case SI=>exact rfl
                case SG =>
                 exact(pv 11)
                case SH =>
                 exact ah
             case O8 =>
              exact ah
        case e5 =>
         exact aA
       case r4 =>
        refine' ai ?MB ?r14
        case MB =>
         refine' aG ?c15 ?Uo ?e15
         case c15=>exact(cJ aR (pv 2) (pv 11))
         case Uo =>
          refine' ak ?s16
          case s16 =>
           refine' az ?v17
           case v17 =>
            refine' aB ?PJ
            case PJ =>
             refine' af ?Tt ?Tu ?Tv
             case Tv=>exact rfl
             case Tt =>
              exact aq
             case Tu =>
              refine' af ?Tw ?Tz ?TF
              case TF=>exact rfl
              case Tw =>
               refine' Cc K ?o21 ?Up ?h21 ?k21
               case h21=>exact λ_ _=>rfl
               case k21=>exact rfl
               case o21 =>
                refine' dO ?Uq
                case Uq =>
                 refine' af ?JO ?JP ?JQ
                 case JQ=>exact rfl
                 case JO =>
                  refine' aB ?JR
                  case JR =>
                   refine' af ?Ml ?Mm ?Mp
                   case Mp=>exact rfl
                   case Ml =>
                    exact aq
                   case Mm =>
                    refine' af ?JS ?JT ?JU
                    case JU=>exact rfl
                    case JS =>
                     exact aq
                    case JT =>
                     exact ah
                 case JP =>
                  refine' af ?O2 ?O3 ?O4
                  case O4=>exact rfl
                  case O2 =>
                   refine' aB ?PK
                   case PK =>
                    refine' af ?TL ?TM ?TN
                    case TN=>exact rfl
                    case TL =>
                     exact aq
                    case TM =>
                     refine' af ?Mq ?Mr ?Ms
                     case Ms=>exact rfl
                     case Mq =>
                      exact(pv 11)
                     case Mr =>
                      exact ah
                  case O3 =>
                   exact ah
               case Up=>exact(Qv yi T.HV (af (pv 6) ah))
              case Tz =>
               exact ah
         case e15 =>
          exact aA
        case r14 =>
         refine' ai ?TQ ?TR
         case TQ =>
          refine' aG ?TU ?PL ?TV
          case TU=>exact(PW.pt (cS (cJ aR (pv 2) aq) (cC (bG (aY (pv 7))))))
          case PL =>
           refine' ak ?TX
           case TX =>
            refine' az ?TY
            case TY =>
             refine' aB ?PM
             case PM =>
              refine' af ?OV ?OW ?OX
              case OX=>exact rfl
              case OV =>
               exact aq
              case OW =>
               refine' af ?OZ ?O0 ?O1
               case O1=>exact rfl
               case OZ =>
                exact aq
               case O0 =>
                exact ah
          case TV =>
           exact aA
         case TR =>
          refine' ak ?s38
          case s38 =>
           refine' az ?v39
           case v39 =>
            refine' aB ?Ur
            case Ur =>
             refine' af ?Ss ?Su ?Sv
             case Sv=>exact rfl
             case Ss =>
              exact aq
             case Su =>
              refine' af ?R6 ?R7 ?R8
              case R8=>exact rfl
              case R6 =>
               exact(pv 1)
              case R7 =>
               exact ah
      case e3 =>
       exact aA
     case r2 =>
      refine' ai ?T9 ?r43
      case T9 =>
       refine' aG ?c44 ?Us ?e44
       case c44=>exact(cJ aR (pv 10) aq)
       case Us =>
        refine' ai ?s45 ?r45
        case s45 =>
         refine' aG ?c46 ?Ut ?e46
         case c46=>exact(PW.pt (cS (cJ aR (pv 2) aq) (cC (bG (aY (pv 7))))))
         case Ut =>
          refine' ak ?QN
          case QN =>
           refine' az ?v48
           case v48 =>
            refine' aB ?OY
            case OY =>
             refine' af ?Se ?Sf ?Sh
             case Sh=>exact rfl
             case Se =>
              exact aq
             case Sf =>
              refine' af ?Si ?Sj ?Sk
              case Sk=>exact rfl
              case Si =>
               exact aq
              case Sj =>
               exact ah
         case e46 =>
          exact aA
        case r45 =>
         refine' ak ?s52
         case s52 =>
          refine' az ?v53
          case v53 =>
           refine' aB ?a54
           case a54 =>
            refine' af ?x55 ?y55 ?z55
            case z55=>exact rfl
            case x55 =>
             exact aq
            case y55 =>
             refine' af ?x56 ?y56 ?z56
             case z56=>exact rfl
             case x56 =>
              refine' Cc K ?o57 ?i57 ?h57 ?k57
              case h57=>exact λ_ _=>rfl
              case k57=>exact rfl
              case o57 =>
               refine' dO ?a58
               case a58 =>
                refine' af ?Uc ?Ud ?Ue
                case Ue=>exact rfl
                case Uc =>
                 refine' aB ?Ug
                 case Ug =>
                  refine' af ?Uh ?Ui ?Uj
                  case Uj=>exact rfl
                  case Uh =>
                   exact aq
                  case Ui =>
                   refine' af ?Uk ?Ul ?Um
                   case Um=>exact rfl
                   case Uk =>
                    exact(pv 11)
                   case Ul =>
                    exact ah
                case Ud =>
                 refine' af ?x63 ?y63 ?z63
                 case z63=>exact rfl
                 case x63 =>
                  refine' aB ?a64
                  case a64 =>
                   refine' af ?x65 ?y65 ?z65
                   case z65=>exact rfl
                   case x65 =>
                    exact aq
                   case y65 =>
                    refine' af ?x66 ?y66 ?z66
                    case z66=>exact rfl
                    case x66 =>
                     exact aq
                    case y66 =>
                     exact ah
                 case y63 =>
                  exact ah
              case i57=>exact(Qv yi T.HV (af (zB aR (pv 11) aq) ah))
             case y56 =>
              exact ah
       case e44 =>
        exact aA
      case r43 =>
       refine' ai ?Nh ?r67
       case Nh =>
        refine' aG ?c68 ?b68 ?e68
        case c68=>exact(PW.pt (cS (cJ aR (pv 10) aq) (cC (cJ aR (pv 2) (pv 11)))))
        case b68 =>
         refine' ak ?s69
         case s69 =>
          refine' az ?v70
          case v70 =>
           refine' aB ?a71
           case a71 =>
            refine' af ?x72 ?y72 ?z72
            case z72=>exact rfl
            case x72 =>
             exact aq
            case y72 =>
             refine' af ?x73 ?y73 ?z73
             case z73=>exact rfl
             case x73 =>
              refine' aB ?a74
              case a74 =>
               refine' af ?x75 ?y75 ?z75
               case z75=>exact rfl
               case x75 =>
                exact aq
               case y75 =>
                refine' af ?x76 ?y76 ?z76
                case z76=>exact rfl
                case x76 =>
                 exact(pv 11)
                case y76 =>
                 exact ah
             case y73 =>
              exact ah
        case e68 =>
         exact aA
       case r67 =>
        refine' ai ?s77 ?r77
        case s77 =>
         refine' aG ?c78 ?b78 ?e78
         case c78=>exact(PW.pt (cN (cJ aR (pv 10) aq) (cI (cJ aR (pv 10) aq))))
         case b78 =>
          refine' ai ?s79 ?r79
          case s79 =>
           refine' aG ?c80 ?b80 ?e80
           case c80=>exact(cJ aR (pv 2) aq)
           case b80 =>
            refine' ak ?s81
            case s81 =>
             refine' az ?v82
             case v82 =>
              refine' aB ?a83
              case a83 =>
               refine' af ?x84 ?y84 ?z84
               case z84=>exact rfl
               case x84 =>
                exact aq
               case y84 =>
                refine' af ?x85 ?y85 ?z85
                case z85=>exact rfl
                case x85 =>
                 refine' aB ?a86
                 case a86 =>
                  refine' af ?x87 ?y87 ?z87
                  case z87=>exact rfl
                  case x87 =>
                   exact aq
                  case y87 =>
                   refine' af ?x88 ?y88 ?z88
                   case z88=>exact rfl
                   case x88 =>
                    exact aq
                   case y88 =>
                    exact ah
                case y85 =>
                 exact ah
           case e80 =>
            exact aA
          case r79 =>
           refine' ai ?s89 ?r89
           case s89 =>
            refine' aG ?c90 ?b90 ?e90
            case c90=>exact(bB bN (pv 2) (pv 3) rfl)
            case b90 =>
             refine' ak ?s91
             case s91 =>
              refine' az ?v92
              case v92 =>
               refine' aB ?a93
               case a93 =>
                refine' af ?x94 ?y94 ?z94
                case z94=>exact rfl
                case x94 =>
                 exact aq
                case y94 =>
                 refine' af ?x95 ?y95 ?z95
                 case z95=>exact rfl
                 case x95 =>
                  refine' aB ?a96
                  case a96 =>
                   refine' af ?x97 ?y97 ?z97
                   case z97=>exact rfl
                   case x97 =>
                    exact aq
                   case y97 =>
                    refine' af ?x98 ?y98 ?z98
                    case z98=>exact rfl
                    case x98 =>
                     exact aq
                    case y98 =>
                     exact ah
                 case y95 =>
                  exact ah
            case e90 =>
             exact aA
           case r89 =>
            refine' ai ?s99 ?r99
            case s99 =>
             refine' aG ?Uu ?Uv ?Uw
             case Uu=>exact(PW.pt (cS (aY (pv 8)) (cC (cJ aR (pv 2) aq))))
             case Uv =>
              refine' ak ?Ux
              case Ux =>
               refine' az ?Uy
               case Uy =>
                refine' aB ?Uz
                case Uz =>
                 refine' af ?UA ?UB ?UC
                 case UC=>exact rfl
                 case UA =>
                  exact aq
                 case UB =>
                  refine' af ?UD ?UE ?UG
                  case UG=>exact rfl
                  case UD =>
                   refine' aB ?UH
                   case UH =>
                    refine' af ?UI ?UJ ?UK
                    case UK=>exact rfl
                    case UI =>
                     exact aq
                    case UJ =>
                     refine' af ?UL ?UM ?UN
                     case UN=>exact rfl
                     case UL =>
                      exact aq
                     case UM =>
                      exact ah
                  case UE =>
                   exact ah
             case Uw =>
              exact aA
            case r99 =>
             refine' ak ?UO
             case UO =>
              refine' az ?UP
              case UP =>
               refine' aB ?UQ
               case UQ =>
                refine' af ?UR ?US ?UT
                case UT=>exact rfl
                case UR =>
                 exact aq
                case US =>
                 refine' af ?UU ?UW ?UX
                 case UX=>exact rfl
                 case UU =>
                  exact aq
                 case UW =>
                  exact ah
         case e78 =>
          exact aA
        case r77 =>
         refine' ak ?UY
         case UY =>
          exact(az (fR B5 hr T.BQ T.tQ.kp T.BP (af (pv 0) (af (pv 1) (af (pv 2) ah)))))
  refine⟨_,O,t,_,O,ht,O,_,_,O,_,_,O,_,_,O,_,_,O,_,_,O,_,_,O,_,_,O,O,?_⟩
  refine⟨_,O,s,_,O,hs,O,_,_,O,_,_,O,O,?_⟩
  refine⟨_,O,O,_,O,aX (λ(h0:bh w ("within":Str)=true)=>?_) (λ(h0:¬bh w ("within":Str)=true)=>?_)⟩
  ·refine⟨_,O,_,O,_,_,O,O,_,O,aX (λ(h1:gj c f=true)=>?_) (λ(h1:¬gj c f=true)=>?_)⟩
   ·exact⟨_,O,bI (by rw[cU h0];unfold cu;rw[aai h1]) cF k⟩
   refine⟨_,O,_,O,O,_,O,aX (λ(h2:bh (sg c) u=true)=>?_) (λ(h2:¬bh (sg c) u=true)=>?_)⟩
   ·refine⟨(by show 2<=sizeLine;decide),λt1 g1=>⟨_,O,(by show 2<=sizeLine;decide),λt2 g2=>⟨(by show 2<=sizeLine;decide),λl gl=>?_⟩⟩⟩
    have z1:=au (o:=HO.tup [.str ("behind":Str),.str ("":Str)]) g1
    have z2:=au (o:=HO.tup [.str ("doubt":Str),.str u]) g2
    have z3:=au (o:=HO.lst [.ref t1,.ref t2]) gl
    have y1:aK K _ t1 [.str ("behind":Str),.str ("":Str)]:=av (z2.trans z3) (aK.of aj)
    have y2:aK K _ t2 [.str ("doubt":Str),.str u]:=av z3 (aK.of aj)
    refine⟨_,O,.inr ⟨b1,O,?_⟩⟩
    cases b1 with
    |true=>exact⟨l,_,_,.ref t2,rfl,rfl,bW.of aj,rfl,gC (by rw[cU h0];unfold cu;rw[aah h1,aai h2];rfl) cF ((z1.trans z2).trans z3) y2 k⟩
    |false=>exact⟨l,_,_,.ref t1,rfl,rfl,bW.of aj,rfl,gC (by rw[cU h0];unfold cu;rw[aah h1,aai h2];rfl) cF ((z1.trans z2).trans z3) y1 k⟩
   refine⟨_,O,O,_,O,aX (λ(h3:bh (sg c) (Str.ofString "\n")=true)=>?_) (λ(h3:¬bh (sg c) (Str.ofString "\n")=true)=>?_)⟩
   ·refine⟨_,O,_,O,aX (λ(h4:(!b2)=true)=>?_) (λ(h4:¬(!b2)=true)=>?_)⟩
    ·exact gU (by rw[cU h0];unfold cu;rw[aah h1,aah h2,aai h3,aai h4]) k
    cases mQ h0
    exact⟨_,O,gC (by rw[cU h0];unfold cu;rw[aah h1,aah h2,aai h3,aah h4]) cA (aF.refl _) hs k⟩
   cases mQ h0
   refine bM ?_
   exact⟨_,O,gC (by rw[cU h0];unfold cu;rw[aah h1,aah h2,aah h3]) cA (aF.refl _) hs k⟩
  have n0:=h0
  clear h0
  refine⟨_,O,O,_,O,aX (λ(h0:bh w ("freed":Str)=true)=>?_) (λ(h0:¬bh w ("freed":Str)=true)=>?_)⟩
  ·refine⟨_,O,O,_,O,aX (λ(h1:bh (sg c) (Str.ofString "\n")=true)=>?_) (λ(h1:¬bh (sg c) (Str.ofString "\n")=true)=>?_)⟩
   ·refine⟨_,O,_,O,aX (λ(h2:(!b2)=true)=>?_) (λ(h2:¬(!b2)=true)=>?_)⟩
    ·exact gU (by rw[eN h0];unfold gD;rw[aai h1,aai h2]) k
    refine⟨_,O,(by show 2<=sizeLine;decide),λt1 g1=>⟨(by show 2<=sizeLine;decide),λt2 g2=>⟨(by show 2<=sizeLine;decide),λl gl=>?_⟩⟩⟩
    have z1:=au (o:=HO.tup [.str ("within":Str),.str u]) g1
    have z2:=au (o:=HO.tup [.str ("plain":Str),.str ("":Str)]) g2
    have z3:=au (o:=HO.lst [.ref t1,.ref t2]) gl
    have y1:aK K _ t1 [.str ("within":Str),.str u]:=av (z2.trans z3) (aK.of aj)
    have y2:aK K _ t2 [.str ("plain":Str),.str ("":Str)]:=av z3 (aK.of aj)
    refine⟨_,O,O,.inr ⟨bh u ("":Str),O,?_⟩⟩
    have ex:dg p q f b1 b2 b3 b4 w u c=eZ u:=by rw[eN h0];unfold gD;rw[aai h1,aah h2]
    unfold eZ at ex
    cases PR:bh u ("":Str) with
    |true=>exact⟨l,_,_,.ref t2,rfl,rfl,bW.of aj,rfl,gC (by rw[ex,aai PR]) cA ((z1.trans z2).trans z3) y2 k⟩
    |false=>exact⟨l,_,_,.ref t1,rfl,rfl,bW.of aj,rfl,gC (by rw[ex,aah (by rw[PR];decide)]) cA ((z1.trans z2).trans z3) y1 k⟩
   refine bM ?_
   refine⟨_,O,(by show 2<=sizeLine;decide),λt1 g1=>⟨(by show 2<=sizeLine;decide),λt2 g2=>⟨(by show 2<=sizeLine;decide),λl gl=>?_⟩⟩⟩
   have z1:=au (o:=HO.tup [.str ("within":Str),.str u]) g1
   have z2:=au (o:=HO.tup [.str ("plain":Str),.str ("":Str)]) g2
   have z3:=au (o:=HO.lst [.ref t1,.ref t2]) gl
   have y1:aK K _ t1 [.str ("within":Str),.str u]:=av (z2.trans z3) (aK.of aj)
   have y2:aK K _ t2 [.str ("plain":Str),.str ("":Str)]:=av z3 (aK.of aj)
   refine⟨_,O,O,.inr ⟨bh u ("":Str),O,?_⟩⟩
   have ex:dg p q f b1 b2 b3 b4 w u c=eZ u:=by rw[eN h0];unfold gD;rw[aah h1]
   unfold eZ at ex
   cases PR:bh u ("":Str) with
   |true=>exact⟨l,_,_,.ref t2,rfl,rfl,bW.of aj,rfl,gC (by rw[ex,aai PR]) cA ((z1.trans z2).trans z3) y2 k⟩
   |false=>exact⟨l,_,_,.ref t1,rfl,rfl,bW.of aj,rfl,gC (by rw[ex,aah (by rw[PR];decide)]) cA ((z1.trans z2).trans z3) y1 k⟩
  have n1:=h0
  clear h0
  refine⟨_,O,O,_,O,aX (λ(h0:bh w ("doubt":Str)=true)=>?_) (λ(h0:¬bh w ("doubt":Str)=true)=>?_)⟩
  ·refine⟨_,O,_,O,O,_,O,aX (λ(h1:bh (sg c) u=true)=>?_) (λ(h1:¬bh (sg c) u=true)=>?_)⟩
   ·exact⟨_,O,bI (by rw[dQ h0];unfold fW;rw[aai h1]) cA k⟩
   refine⟨_,O,O,_,O,jS h0 (jO ?_)⟩
   refine⟨_,O,O,_,O,aX (λ(g1:bh (sg c) (Str.ofString "\n")=true)=>?_) (λ(g1:¬bh (sg c) (Str.ofString "\n")=true)=>?_)⟩
   ·exact bI (by rw[dQ h0];unfold fW bC;rw[aah h1,aai g1]) oX k
   refine⟨_,O,_,O,_,_,O,O,_,O,aX (λ(g2:gj c p=true)=>?_) (λ(g2:¬gj c p=true)=>?_)⟩
   ·exact bI (by rw[dQ h0];unfold fW bC;rw[aah h1,aah g1,aai g2]) kJ k
   refine⟨_,O,_,O,aX (λ(g3:b3=true)=>?_) (λ(g3:¬b3=true)=>?_)⟩
   ·refine⟨_,O,O,_,O,aX (λ(g4:bh (sg c) (" ":Str)=true)=>?_) (λ(g4:¬bh (sg c) (" ":Str)=true)=>?_)⟩
    ·exact bI (by rw[dQ h0];unfold fW bC;rw[aah h1,aah g1,aah g2,aai g4,aai g3]) cF k
    exact gU (by rw[dQ h0];unfold fW bC;rw[aah h1,aah g1,aah g2,aah g4]) k
   refine bM ?_
   exact gU (by rw[dQ h0];unfold fW bC;rw[aah h1,aah g1,aah g2];by_cases g4:bh (sg c) (" ":Str)=true<;>simp only[g4,g3,if_true,aaW,aaD]) k
  refine bM ?_
  refine⟨_,O,O,_,O,jm (ia h0) ?_⟩
  refine⟨_,O,O,_,O,aX (λ(h9:bh w ("behind":Str)=true)=>?_) (λ(h9:¬bh w ("behind":Str)=true)=>?_)⟩
  ·refine⟨_,O,O,_,O,aX (λ(g1:bh (sg c) (Str.ofString "\n")=true)=>?_) (λ(g1:¬bh (sg c) (Str.ofString "\n")=true)=>?_)⟩
   ·exact bI (by rw[dF h9];unfold bC;rw[aai g1]) oX k
   refine⟨_,O,_,O,_,_,O,O,_,O,aX (λ(g2:gj c p=true)=>?_) (λ(g2:¬gj c p=true)=>?_)⟩
   ·exact bI (by rw[dF h9];unfold bC;rw[aah g1,aai g2]) kJ k
   refine⟨_,O,_,O,aX (λ(g3:b3=true)=>?_) (λ(g3:¬b3=true)=>?_)⟩
   ·refine⟨_,O,O,_,O,aX (λ(g4:bh (sg c) (" ":Str)=true)=>?_) (λ(g4:¬bh (sg c) (" ":Str)=true)=>?_)⟩
    ·exact bI (by rw[dF h9];unfold bC;rw[aah g1,aah g2,aai g4,aai g3]) cF k
    exact gU (by rw[dF h9];unfold bC;rw[aah g1,aah g2,aah g4]) k
   refine bM ?_
   exact gU (by rw[dF h9];unfold bC;rw[aah g1,aah g2];by_cases g4:bh (sg c) (" ":Str)=true<;>simp only[g4,g3,if_true,aaW,aaD]) k
  refine⟨_,O,_,O,_,O,t,s,w,u,c,p,q,f,b1,b2,b3,b4,O,ht,hs,λv H2 s2 r=>k v H2 s2 ?_⟩
  rw[iB (ia n0) (ia n1) (ia h0) (ia h9)]
  exact r
def xR(K:W.Frag)(C:Addr):Sp:=λvs H Q _=>∃(l:Addr)(xs ys:List V)(zs:List Str),vs=[.ref l]/\H l=some (.lst ys)/\Bs (Du C H) xs ys zs/\zs.length<=2/\∀H',aF H H'->Q (.str (oY zs)) H'
theorem xS:bw P w K mg base fJ 1 (aC 45) (aM 45) ["_law_tolds"] (xR K (aC 51)):=by
 refine T.qz.ok dG (λvs H Q E h=>?_) (λcdv A outer s H vs Q E hr h=>?_)
 ·obtain⟨l,xs,ys,zs,rfl,_⟩:=h;rfl
 ·have hu:=aU hr
  have gH:=hr.aN
  obtain⟨l,xs,ys,zs,rfl,hl,tr,hz2,k⟩:=h
  refine⟨_,(ai (eX 1 dG.nd (aJ bO (ko K rfl PySem.F.plainAttrs_str PySem.F.slot_str_join PySem.F.type_str_join (vC K rfl) aq (af (iy rfl (show bP ["_law_tolds","_law_some_here","_law_found","_law_sign","_law_letters"] (ay fV) ["_law_told_here"] 1 [] _ from Ip) (fP K rfl (pv 0)) (λ_ _ _ _=>(gA 0 Qu)) (λ_ _ _ _=>ki) (λ_ _ _ _=>(aJ bO (aJ bO (cg K (pv 0) ao) (cg K (pv 0) ao)) (cg K (pv 0) ao)))) ah)) aq))
   (ai (eX 2 dG.nd aq)
   (ai (fL aaL rfl (kj (pv 1)) (gA 3 dG.nd)
   (ak (aG (bB dZ (pv 3) (pv 2) rfl) (ak (eX 2 dG.nd (aJ bO (pv 2) (pv 3)))) aA)))
   (ai (eX 4 dG.nd aq)
   (ak (az (aJ bO (pv 2) (Cc K (iy rfl (show bP ["_law_tolds","_law_some_here","_law_found","_law_sign","_law_letters"] (ay fV) ["_law_sign","_law_found"] 1 [2] _ from Ip) (kj (pv 4)) (λ_ _ _ _=>(gA 0 (show(["_law_sign","_law_found"]:List Str).Nodup by decide +kernel))) (λ_ _ _ _=>(zo (bB dZ (pv 0) (pv 1) rfl))) (λ_ _ _ _=>(pv 0))) ao)))))))),?_⟩
  refine⟨O,_,O,l,O,⟨_,bW.of hl⟩,λD hD=>?_⟩
  have Na:=tr.len.2
  have h7:∀z∈zs,z.length<=7:=λz hz=>by
   obtain⟨i,hi⟩:=abB hz
   have hil:i<ys.length:=by rw[Na];exact(aal.mp hi).1
   obtain⟨y,z',_,hz',du⟩:=tr.at2 i ys[i] (by simp[hil])
   rw[hi]at hz';cases hz'
   exact du.len
  refine nB (K:=K) (a:=l) (xs:=ys) (λi ws τ H2=>(∃v,τ=[v])/\aF H H2/\H2 D=some (.lst ws)/\ws=(zs.take i).map V.str) ⟨⟨_,rfl⟩,au hD,aj,rfl⟩ (λi ws τ H2 _ p=>⟨bW.of (p.2.1 _ _ hl),p.2.2.1⟩) ?_ ?_
  ·rintro i x ws τ H2 hi ⟨⟨v,rfl⟩,s2,h2,hws⟩
   obtain⟨y,z,_,hz,du⟩:=tr.at2 i x hi
   obtain⟨d,t,p,q,f,b1,b2,b3,b4,rfl,rfl,ez,dt⟩:=(du.mono s2).ok
   have hp3:=dt.g.p3;have hq2:=dt.g.q2;have hf2:=dt.g.f2
   have hS:aK K H2 t (jR p q f b1 b2 b3 b4):=aK.of dt.ht
   have hil:i<zs.length:=(aal.mp hz).1
   refine CQ ?_
   refine⟨_,O,t,_,_,_,O,O,hS,O,_,O,t,_,_,_,O,O,hS,O,_,_,O,O,aao (show p.length+q.length<=5 by omega) (by decide),_,O,t,_,_,_,O,O,hS,O,_,_,O,O,?_,h2,?_,⟨_,O⟩,bf hD s2,aj,?_⟩
   ·rw[bS];exact aao (show p.length+q.length+f.length<=7 by omega) (by decide)
   ·rw[hws,aaq,aaQ];exact aaI (show _<=2 by omega) (by decide)
   ·rw[hws,vO hz,aaO,ez];rfl
  ·rintro ws τ H2 ⟨⟨v,rfl⟩,s2,h2,hws⟩
   rw[Na,aaz (aaj _)]at hws
   subst hws
   have hsum:=Ef h7
   refine⟨_,D,zs,O,O,bW.of h2,by omega,?_⟩
   have hj:(Txt.join ("":Str) zs).length<=14:=by
    have:=CU h7
    rw[←join_list,aam]at this
    exact aao this (by omega)
   have l2:(Str.ofString "\n ").length=2:=by decide +kernel
   refine⟨_,_,O,O,aao (show _+(Str.ofString "\n ").length<=30 by omega) (by decide),?_⟩
   have OL:(nP zs).length<=30:=by unfold nP;rw[bS];omega
   have kk:∀c r,cV.filter (away (bK (nP zs)))=c::r->c∉(bK (nP zs)).cps.toList->∀H',aF H H'->Q (.str (bK (nP zs)++sg c)) H':=λc r e1 e2 H' s=>by
    rw[←E3 e1 e2];exact k H' s
   show _
   have eS:Txt.join ("":Str) zs++Str.ofString "\n "=nP zs:=rfl
   rw[eS]
   generalize nP zs=z at OL kk⊢
   clear k hsum hj
   have e0:Str.ofString ""=⟨(cj []).toArray⟩:=by decide +kernel
   have e0:([some (V.ref l),some (V.str z),some (V.str ("":Str)),none,none]:St)=[some (.ref l),some (.str z),some (.str ⟨(cj []).toArray⟩),none,none]:=by rw[e0]
   refine⟨_,O,_,O,?_⟩
   refine nA (λi σ H3=>H3=H2/\∃v v2,σ=[some (.ref l),some (.str z),some (.str ⟨(cj (z.cps.toList.take i)).toArray⟩),v,v2]) ⟨rfl,none,none,by rw[List.take_zero];exact e0⟩ ?_ ?_
   ·rintro i c σ H3 hi ⟨rfl,v,v2,rfl⟩
    have hlen:(cj (z.cps.toList.take i)).length<=30:=by
     refine aao (rL _) ?_
     rw[aaQ,aam]
     have:z.cps.size<=30:=OL
     omega
    refine⟨_,O,_,O,_,_,O,O,_,O,?_⟩
    refine aX (λha=>?_) (λha=>?_)
    ·have ha':away ⟨(cj (z.cps.toList.take i)).toArray⟩ c=true:=ha
     refine⟨_,O,_,O,_,_,O,O,?_,O,some (.str (sg c)),v2,?_⟩
     ·refine aao (show _<=31 from ?_) (by decide)
      show Array.size _+1<=31
      rw[aap];omega
     ·rw[take_snoc hi,gE]
      unfold dR
      rw[aai ha',←DX]
      rfl
    ·have ha':¬away ⟨(cj (z.cps.toList.take i)).toArray⟩ c=true:=ha
     refine⟨O,some (.str (sg c)),v2,?_⟩
     rw[take_snoc hi,gE]
     unfold dR
     rw[aah ha']
     rfl
   ·rintro σ H3 ⟨rfl,v,v2,rfl⟩
    rw[aaz (aaj _)]
    have eM:(⟨(cj z.cps.toList).toArray⟩:Str)=bK z:=rfl
    rw[eM]
    have hM:(bK z).length<=30:=aao (nH z) OL
    generalize bK z=F at hM kk⊢
    obtain⟨c,r,hf,hc⟩:=CS (t:=F) (by omega)
    have kk:=kk c r hf hc
    obtain⟨Lt,eL⟩:∃Lt:Str,Lt=("abcdefghijklmnopqrstuvwxyzABCDEFGHIJKLMNOPQRSTUVWXYZ0123456789":Str):=⟨_,rfl⟩
    have W3:Lt.cps.toList=cV:=by rw[eL];rfl
    rw[←eL]
    refine⟨_,O,_,O,_,O,λE hE=>?_⟩
    refine vB (λi ws τ H4=>(∃v,τ=[v,some (.str F)])/\aF H3 H4/\H4 E=some (.lst ws)/\ws=((cV.take i).filter (away F)).map (λc=>V.str (sg c))) ⟨⟨_,rfl⟩,au hE,aj,rfl⟩ (λi ws τ H4 _ p=>p.2.2.1) ?_ ?_
    ·rintro i c2 ws τ H4 hi ⟨⟨v,rfl⟩,s4,h4,hy⟩
     have hi':cV[i]?=some c2:=by rw[←W3];exact hi
     refine⟨_,O,_,O,_,_,O,O,_,O,?_⟩
     have hlen:ws.length<=62:=by
      rw[hy,aaq]
      refine aao (List.length_filter_le _ _) ?_
      rw[aaQ,vK];omega
     refine aX (λhc=>?_) (λhc=>?_)
     ·refine⟨_,O,h4,aaI hlen (by decide),⟨_,O⟩,bf hE s4,aj,?_⟩
      have hc':away F c2=true:=hc
      rw[take_snoc hi',List.filter_append,List.filter_cons,aai hc',List.filter_nil,aaO,hy]
      rfl
     ·refine⟨⟨_,O⟩,s4,h4,?_⟩
      have hc':¬away F c2=true:=hc
      rw[take_snoc hi',List.filter_append,List.filter_cons,aah hc',List.filter_nil,aaU,hy]
    ·rintro ws τ H4 ⟨⟨v,rfl⟩,s4,h4,hy⟩
     have hy':ws=(cV.filter (away F)).map (λc=>V.str (sg c)):=by
      rw[hy,W3,aaz (aaj _)]
     rw[hf,aaX]at hy'
     refine⟨E,ws,0,.str (sg c),rfl,rfl,bW.of h4,(by rw[hy'];exact pX (j:=0) rfl),_,_,rfl,rfl,aao (show F.length+1<=40 by omega) (by decide),?_⟩
     exact kk H4 (s2.trans s4)
def B6(K:W.Frag):Sp:=λvs H Q _=>∃(tt s:Addr)(st:cP)(c:Nat)(x:eF),vs=[.ref tt,.ref s,.str (sg c)]/\H tt=some (.tup (zE x))/\aK K H s [.str st.1,.str st.2]/\jU x.2.1 st.1 st.2/\∀v H',aF H H'->AQ K (iD x (some st) c) H' v->Q v H'
theorem B7:bw P w K mg base fJ 3 (aC 46) (aM 46) ["_law_told_here","_law_state","_law_sign"] (B6 K):=by
 have B8:=@As P w K mg base aC aM cQ T
 refine T.pD.ok mU (λvs H Q E h=>?_) (λcdv A outer s H vs Q E hr h=>?_)
 ·obtain⟨tt,s,st,c,x,rfl,_⟩:=h;rfl
 ·have hu:=aU hr
  have gH:=hr.aN
  obtain⟨tt,s,st,c,x,rfl,Ff,hs,hst,k⟩:=h
  obtain⟨p,q,f,⟨b1,b2,b3,b4⟩⟩:=x
  obtain⟨w0,u0⟩:=st
  have k:∀v H',aF H H'->AQ K (eO p q f b1 b2 b3 b4 w0 u0 c) H' v->Q v H':=k
  unfold eO at k
  refine⟨_,(ai (lY (fR B8 hr T.BS T.tR.kp T.BR (af (pv 0) (af (pv 1) (af (pv 2) ah)))) (jk K rfl 2 rfl (aP (gA 3 mU.nd) (aP (gA 4 mU.nd) ji))))
   (ai (aG (PW.pt (cN (cJ aR (pv 3) aq) (cI (PW.pt (cS (bB (CF K rfl) (cg K (pv 4) ao) (aB (af aq (af aq ah))) rfl) (cS (cJ jj (cg K (pv 4) ao) aq) (cC (bB bN (cg K (pv 4) ao) (cg K (pv 0) ao) rfl)))))))) (ak (az bq)) aA)
   (ak (az (aB (af (pv 3) (af (pv 4) ah))))))),?_⟩
  refine⟨_,O,_,O,_,O,_,_,_,_,_,_,_,_,_,_,_,_,O,aK.of Ff,hs,λv5 H5 s5 r=>?_⟩
  cases M9:dg p q f b1 b2 b3 b4 w0 u0 c with
  |ye e =>
   rw[M9]at r k
   obtain⟨a,rfl,ha⟩:=r
   have k:∀v H',aF H H'->AQ K none H' v->Q v H':=k
   refine⟨a,_,O,ha,O,_,_,O,_,_,O,O,?_⟩
   exact⟨_,O,O,_,O,jS (aI _) (jO (k _ _ s5 rfl))⟩
  |go kd w3 u3 =>
   rw[M9]at r k
   obtain⟨hk,a,b2,rfl,ha,hb2⟩:=r
   have UZ:=zD hst M9
   have k:∀v H',aF H H'->AQ K (if dz f w3 u3=true then some (kd,w3,u3) else none) H' v->Q v H':=k
   have U0:=s5 _ _ Ff
   refine⟨a,_,O,ha,O,_,_,O,_,_,O,O,?_⟩
   dsimp only[bH]
   refine⟨_,O,O,_,O,jm hk ?_⟩
   refine⟨_,O,_,_,_,_,O,O,hb2,O,(by decide),λn0 hn0=>⟨_,_,O,.inr (aK.of aj),O,O,_,O,?_⟩⟩
   have s6:=au (o:=HO.tup [.str ("within":Str),.str ("freed":Str)]) hn0
   have PB:=s5.trans s6
   have ha6:=av s6 ha
   have MC:=av s6 hb2
   have MD:=s6 _ _ U0
   generalize upd H5 n0 (HO.tup [.str ("within":Str),.str ("freed":Str)])=H6 at s6 PB ha6 MC MD⊢
   have kY:dz f w3 u3=true->∀t,H6 t=none->Q (.ref t) (upd H6 t (.tup [.str kd,.ref b2])):=λhl t ht=>by
    rw[aai hl]at k
    exact k _ _ (PB.trans (au ht)) ⟨t,b2,rfl,aK.of aj,av (au ht) MC⟩
   have kN:dz f w3 u3=false->Q .non H6:=λhl=>by
    rw[aah (by rw[hl];decide)]at k
    exact k _ _ PB rfl
   rcases UZ with ⟨rfl,hw⟩|⟨d,hd,rfl,hw⟩
   ·have hl:dz f w3 ("":Str)=true:=by unfold dz;exact aai (aI _)
    refine KR (λhc=>?_) (λhc=>?_)
    ·refine⟨_,O,b2,_,_,_,O,O,MC,O,O,_,O,LM rfl ?_⟩
     first|exact⟨_,rfl,_,rfl,(by show(2:Nat)<=sizeLine;decide),λt ht=>kY hl t ht⟩|exact bM ⟨_,rfl,_,rfl,(by show(2:Nat)<=sizeLine;decide),λt ht=>kY hl t ht⟩
    ·first|exact⟨_,rfl,_,rfl,(by show(2:Nat)<=sizeLine;decide),λt ht=>kY hl t ht⟩|exact bM ⟨_,rfl,_,rfl,(by show(2:Nat)<=sizeLine;decide),λt ht=>kY hl t ht⟩
   ·have hl:w3≠Str.ofString "doubt"->dz f w3 (sg d)=!(gj d f):=λhn=>by
     unfold dz
     rw[aah (Bo d),aah (λz=>hn (mQ z))]
     rfl
    rcases hw with rfl|rfl|rfl
    ·have e:N1 (V.str ("within":Str)) [.str ("within":Str),.str ("freed":Str)]=true:=by decide +kernel
     rw[e]
     have hl:=hl (λz=>absurd (congrArg (λy=>bh y ("doubt":Str)) z) (by simp only[aI];decide +kernel))
     have hne:¬V.str (sg d)=V.str ("":Str):=λz=>Bo d (by rw[V.str.inj z];exact aI _)
     refine jO ⟨_,rfl,b2,_,_,_,rfl,rfl,MC,rfl,rfl,_,rfl,Og hne ?_⟩
     refine⟨_,O,b2,_,_,_,O,O,MC,O,_,O,tt,_,_,_,O,O,aK.of MD,O,_,_,O,O,_,O,KR (λhc=>?_) (λhc=>?_)⟩
     ·have hc:gj d f=true:=hc
      exact kN (by rw[hl,hc];rfl)
     ·have hc:gj d f=false:=hc
      exact⟨_,O,_,O,(by show(2:Nat)<=sizeLine;decide),λt ht=>kY (by rw[hl,hc];rfl) t ht⟩
    ·have e:N1 (V.str ("doubt":Str)) [.str ("within":Str),.str ("freed":Str)]=false:=by decide +kernel
     rw[e]
     have hl:dz f ("doubt":Str) (sg d)=true:=by unfold dz;rw[aah (Bo d),aai (aI _)]
     first|exact bM ⟨_,rfl,_,rfl,(by show(2:Nat)<=sizeLine;decide),λt ht=>kY hl t ht⟩|exact bM (bM ⟨_,rfl,_,rfl,(by show(2:Nat)<=sizeLine;decide),λt ht=>kY hl t ht⟩)
    ·have e:N1 (V.str ("freed":Str)) [.str ("within":Str),.str ("freed":Str)]=true:=by decide +kernel
     rw[e]
     have hl:=hl (λz=>absurd (congrArg (λy=>bh y ("doubt":Str)) z) (by simp only[aI];decide +kernel))
     have hne:¬V.str (sg d)=V.str ("":Str):=λz=>Bo d (by rw[V.str.inj z];exact aI _)
     refine jO ⟨_,rfl,b2,_,_,_,rfl,rfl,MC,rfl,rfl,_,rfl,Og hne ?_⟩
     refine⟨_,O,b2,_,_,_,O,O,MC,O,_,O,tt,_,_,_,O,O,aK.of MD,O,_,_,O,O,_,O,KR (λhc=>?_) (λhc=>?_)⟩
     ·have hc:gj d f=true:=hc
      exact kN (by rw[hl,hc];rfl)
     ·have hc:gj d f=false:=hc
      exact⟨_,O,_,O,(by show(2:Nat)<=sizeLine;decide),λt ht=>kY (by rw[hl,hc];rfl) t ht⟩
def xT(K:W.Frag):Sp:=λvs H Q _=>∃(t1 t2:Addr)(x y:eF)(z:Str),vs=[.ref t1,.ref t2,.str z]/\H t1=some (.tup (zE x))/\H t2=some (.tup (zE y))/\tG x/\Ce x y/\∀l vs qs H',H l=none->H' l=some (.lst vs)->Paired (c9 K H') vs (qs.map dd)->qi x z qs->aF H H'->Q (.ref l) H'
theorem xU:bw P w K mg base fJ 4 (aC 47) (aM 47) ["_law_one","_law_other","_law_signs"] (xT K):=by
 have wQ:=@B7 P w K mg base aC aM cQ T
 refine T.qA.ok bZ (λvs H Q E h=>?_) (λcdv A outer s H vs Q E hr h=>?_)
 ·obtain⟨t1,t2,x,y,z,rfl,_⟩:=h;rfl
 ·have hu:=aU hr
  have gH:=hr.aN
  obtain⟨t1,t2,x,y,z,rfl,h1,h2,g,al,k⟩:=h
  have eg:=hr.units
  have WQ:100000<=sizeLine:=by decide
  refine⟨_,(ai (eX 3 bZ.nd (dO (af (aB (af (aB (af aq (af aq ah))) (af (aB (af aq (af aq ah))) ah))) ah)))
   (ai (eX 4 bZ.nd ao)
   (ai (vm aaL (cJ Ge (pv 4) (nE (bz K rfl) T.eH (af (pv 3) ah)))
   (ai (fL aaL rfl (kj (pv 2)) (gA 5 bZ.nd)
   (ai (eX 6 bZ.nd (fR wQ hr T.wD T.pD.kp T.wC (af (pv 0) (af (cg K (Cc K (pv 3) (pv 4)) ao) (af (pv 5) ah)))))
   (ai (eX 7 bZ.nd (fR wQ hr T.wD T.pD.kp T.wC (af (pv 1) (af (cg K (Cc K (pv 3) (pv 4)) ao) (af (pv 5) ah)))))
   (ai (aG (PW.pt (cS (cJ gu (pv 6) bq) (cC (cJ gu (pv 7) bq)))) (ak AY) aA)
   (ai (aG (PW.pt (cN (cJ gu (pv 6) bq) (cN (cJ gu (pv 7) bq) (cI (cJ jj (cg K (pv 6) ao) (cg K (pv 7) ao)))))) (ak (az bq)) aA)
   (ai (eX 8 bZ.nd (aB (af (cg K (pv 6) ao) (af (cg K (pv 7) ao) ah))))
   (ai (aG (cJ jj (zB aR (cg K (cg K (pv 8) ao) ao) aq) (zB aR (cg K (cg K (pv 8) ao) ao) aq)) (ak (az bq)) aA)
   (ak (aG (bB (yy (g9 (YM _ _ K)) rfl (M5 eg)) (pv 8) (pv 3) rfl) (ak (j9 (ko K rfl aa4 PySem.F.slot_list_append PySem.F.type_list_append jN (pv 3) (af (pv 8) ah)))) aA)))))))))
   (ak (eX 4 bZ.nd (aJ jB (pv 4) ao)))))
   (ak (az (pv 3)))))),?_⟩
  refine⟨(by decide),λr1 hr1=>⟨(by decide),λr2 hr2=>⟨(by show(2:Nat)<=sizeLine;decide),λpr Po=>⟨(by show(1:Nat)<=sizeLine;decide),λL hL=>?_⟩⟩⟩⟩
  have a1:=au (o:=HO.tup [.str ("row":Str),.str ("":Str)]) hr1
  have a2:=au (o:=HO.tup [.str ("row":Str),.str ("":Str)]) hr2
  have a3:=au (o:=HO.tup [.ref r1,.ref r2]) Po
  have a4:=au (o:=HO.lst [.ref pr]) hL
  have b1:=a4 _ _ (a3 _ _ (a2 _ _ (aj (H:=H) (a:=r1) (o:=HO.tup [.str ("row":Str),.str ("":Str)]))))
  have b2:=a4 _ _ (a3 _ _ (aj (a:=r2) (o:=HO.tup [.str ("row":Str),.str ("":Str)])))
  have b3:=a4 _ _ (aj (a:=pr) (o:=HO.tup [.ref r1,.ref r2]))
  have W4:H L=none:=(a1.trans (a2.trans a3)).free hL
  have s0:=a1.trans (a2.trans (a3.trans a4))
  have gL:=aj (H:=upd (upd (upd H r1 (HO.tup [.str ("row":Str),.str ("":Str)])) r2 (HO.tup [.str ("row":Str),.str ("":Str)])) pr (HO.tup [.ref r1,.ref r2])) (a:=L) (o:=HO.lst [.ref pr])
  generalize upd (upd (upd (upd H r1 (HO.tup [.str ("row":Str),.str ("":Str)])) r2 (HO.tup [.str ("row":Str),.str ("":Str)])) pr (HO.tup [.ref r1,.ref r2])) L (HO.lst [.ref pr])=H0 at b1 b2 b3 s0 gL⊢
  clear a1 a2 a3 a4 hr1 hr2 Po hL
  have P0:Paired (c9 K H0) [.ref pr] ([v9].map dd):=.cons ⟨pr,.ref r1,.ref r2,rfl,aK.of b3,⟨r1,rfl,aK.of b1⟩,⟨r2,rfl,aK.of b2⟩⟩ .nil
  dsimp only[bH]
  refine⟨λn σ J=>∃vs qs at_ v5 v6 v7 v8,σ=[some (.ref t1),some (.ref t2),some (.str z),some (.ref L),some (.int (at_:Nat)),v5,v6,v7,v8]/\aF H J/\J L=some (.lst vs)/\Paired (c9 K J) vs (qs.map dd)/\PI x z qs at_/\n=11-at_,⟨_,[.ref pr],[v9],0,_,_,_,_,O,s0,gL,P0,.zero,O⟩,?_⟩
  rintro n σ J ⟨vs,qs,at_,v5,v6,v7,v8,rfl,sJ,hJ,pv,pi,hn⟩
  have hlen:=pi.len g
  have pvl:=pv.length
  rw[aaq]at pvl
  refine⟨_,O,_,O,L,_,O,.inl (bW.of hJ),_,_,O,O,_,O,KR (λhc=>?_) (λhc=>?_)⟩
  rotate_left
  ·have hc:=of_decide_eq_false hc
   exact⟨_,O,k L vs qs J W4 hJ pv (pi.all (by omega)) sJ⟩
  have hc:=aa6 hc
  have hal:at_<qs.length:=by omega
  obtain⟨s,hs⟩:∃s,qs[at_]?=some s:=⟨_,List.getElem?_eq_getElem hal⟩
  have rs:=pi.rc s (aaJ hs)
  have rr:=rs.HJ
  have ry:jU y.2.1 s.1 s.2:=yD al.pq rr.st
  refine⟨λσ G=>∃vs tK v5 v6 v7 v8,σ=[some (.ref t1),some (.ref t2),some (.str z),some (.ref L),some (.int ((at_+1:Nat):Int)),v5,v6,v7,v8]/\aF H G/\G L=some (.lst vs)/\Paired (c9 K G) vs (tK.map dd)/\PI x z tK (at_+1),?_,?_⟩
  ·rintro σ G ⟨vs,tK,v5,v6,v7,v8,rfl,sG,hG,pv,Iv⟩
   have:=Iv.len g
   have:=Iv.le
   exact⟨11-(at_+1),by omega,vs,tK,at_+1,v5,v6,v7,v8,O,sG,hG,pv,Iv,O⟩
  refine⟨_,O,_,O,?_⟩
  refine nA (z:=z) (λi σ G=>∃vs tK v5 v6 v7 v8,σ=[some (.ref t1),some (.ref t2),some (.str z),some (.ref L),some (.int (at_:Nat)),v5,v6,v7,v8]/\aF H G/\G L=some (.lst vs)/\Paired (c9 K G) vs (tK.map dd)/\PI x z tK at_/\tK[at_]?=some s/\∀j,j<i->∀c,z.cps.toList[j]?=some c->∀k t,iD x (some s) c=some (k,t)->t∈tK) ⟨vs,qs,_,_,_,_,rfl,sJ,hJ,pv,pi,hs,λj hj=>absurd hj (by omega)⟩ ?_ ?_
  rotate_left
  ·rintro σ G ⟨vs,tK,v5,v6,v7,v8,rfl,sG,hG,pv,Iv,hs',hcl⟩
   refine⟨_,O,_,_,O,O,_,_,_,_,_,_,O,sG,hG,pv,Iv.next hs' λc hc k t hl=>?_⟩
   obtain⟨j,hj⟩:=abB hc
   exact hcl j (aal.mp hj).1 c hj k t hl
  rintro i c σ G hi ⟨vs,tK,v5,v6,v7,v8,rfl,sG,hG,pv,Iv,hs',hcl⟩
  have hil:=(aal.mp hi).1
  have e1:=CZ al rr c
  have hlen':=Iv.len g
  have U1:=pv.length
  rw[aaq]at U1
  obtain⟨p,hp,pr',w1,w2,rfl,q1,⟨u1,rfl,q2⟩,⟨u2,rfl,q3⟩⟩:=mR pv at_ (dd s) (by rw[aby,hs'];rfl)
  have hat:Gp vs (at_:Int)=some (.ref pr'):=pX hp
  dsimp only[bH]
  refine⟨_,O,_,O,_,O,L,_,_,_,O,O,bW.of hG,hat,_,_,_,_,O,O,q1,O,_,O,t1,u1,s,c,x,O,sG _ _ h1,q2,rr.st,λlv G1 S1 M1=>?_⟩
  dsimp only[bH]
  refine⟨_,O,_,O,_,O,L,_,_,_,O,O,bW.of (S1 _ _ hG),hat,_,_,_,_,O,O,av S1 q1,O,_,O,t2,u2,s,c,y,O,(sG.trans S1) _ _ h2,av S1 q3,ry,λrv G2 S2 M2=>?_⟩
  dsimp only[bH]
  rw[←e1]at M2
  replace M1:=iE S2 M1
  have U3:=S1.trans S2
  have U4:=sG.trans U3
  have U5:=U3 _ _ hG
  have Mw:=aW (λ_ _ h=>c9.mono U3 h) pv
  clear e1 q1 q2 q3 S1 S2 hG pv hat hp
  cases ho:iD x (some s) c with
  |none =>
   rw[ho]at M1 M2
   have M1:lv=.non:=M1
   have M2:rv=.non:=M2
   subst M1 M2
   refine⟨_,O,O,_,O,Jo rfl ⟨_,O,O,_,O,Jo rfl ?_⟩⟩
   refine⟨vs,tK,_,_,_,_,O,U4,U5,Mw,Iv,hs',λj hj c' hc' k' t' hl'=>?_⟩
   by_cases e:j=i
   ·subst e;rw[hi]at hc';cases hc';rw[ho]at hl';cases hl'
   ·exact hcl j (by omega) c' hc' k' t' hl'
  |some kt =>
  obtain⟨kd,t⟩:=kt
  rw[ho]at M1 M2
  have rt:En x z t:=.step rs (aaJ hi) ho
  have W5:∀Ir:List cP,(∀s∈tK,s∈Ir)->t∈Ir->∀j,j<i+1->∀c',z.cps.toList[j]?=some c'->∀k' t',iD x (some s) c'=some (k',t')->t'∈Ir:=λIr hm ht j hj c' hc' k' t' hl'=>by
   by_cases e:j=i
   ·subst e;rw[hi]at hc';cases hc';rw[ho]at hl';cases hl';exact ht
   ·exact hm _ (hcl j (by omega) c' hc' k' t' hl')
  obtain⟨a1,b1,rfl,f1,f2⟩:=M1
  obtain⟨a2,b2,rfl,f3,f4⟩:=M2
  refine⟨_,rfl,rfl,_,rfl,oV (λz=>nomatch z) ?_⟩
  refine bM (⟨_,rfl,rfl,_,rfl,oV (λz=>nomatch z) (⟨_,rfl,rfl,_,rfl,oV (λz=>nomatch z) (⟨_,rfl,_,_,_,_,rfl,rfl,f1,rfl,_,rfl,_,_,_,_,rfl,rfl,f3,rfl,rfl,_,rfl,LM rfl (⟨_,rfl,_,_,_,_,rfl,rfl,f1,rfl,_,rfl,_,_,_,_,rfl,rfl,f3,rfl,(by show(2:Nat)<=sizeLine;decide),λpn W6=>?_⟩)⟩)⟩)⟩)
  have s3:=au (o:=HO.tup [.ref b1,.ref b2]) W6
  have g3:aK K (upd G2 pn (HO.tup [.ref b1,.ref b2])) pn [.ref b1,.ref b2]:=aK.of aj
  have U6:=U4.trans s3
  have Np:=s3 _ _ U5
  have QO:=aW (λ_ _ h=>c9.mono s3 h) Mw
  have U8:=av s3 f2
  have U9:=av s3 f4
  generalize upd G2 pn (HO.tup [.ref b1,.ref b2])=G3 at s3 g3 U6 Np QO U8 U9⊢
  clear f1 f2 f3 f4 W6 s3 Mw U5 U4
  have hP:c9 K G3 (.ref pn) (dd t):=⟨pn,_,_,rfl,g3,⟨b1,rfl,U8⟩,⟨b2,rfl,U9⟩⟩
  dsimp only[bH]
  refine⟨_,O,pn,_,_,_,O,O,g3,O,b1,_,_,_,O,O,U8,O,O,_,O,pn,_,_,_,O,O,g3,O,b2,_,_,_,O,O,U9,O,O,O,_,O,LM rfl ?_⟩
  refine⟨_,O,_,O,L,.inr (kK (dd t)),_,vs,O,⟨pn,O,tH hP⟩,.inl (bW.of Np),zL QO,?_⟩
  rw[C0]
  refine⟨_,O,KR (λhc=>?_) (λhc=>?_)⟩
  rotate_left
  ·have hc:t∈tK:=by simpa using hc
   exact⟨vs,tK,_,_,_,_,O,U6,Np,QO,Iv,hs',W5 tK (λ_ z=>z) hc⟩
  have hc:t∉tK:=by simpa using hc
  refine⟨_,O,.inl ⟨O,_,bW.of Np⟩,_,O,L,vs,_,O,O,Np,aaI (show vs.length<=100 by omega) (by decide),?_⟩
  refine⟨vs++[.ref pn],tK++[t],_,_,_,_,O,bf W4 U6,aj,?_,Iv.push hc rt,by rw[List.getElem?_append_left (aal.mp hs').1];exact hs',W5 _ (λ_ z=>aaN _ z) (aaB _ (aau.mpr rfl))⟩
  rw[aaO]
  exact aW (λ_ _ h=>c9.keep (λb xs q=>iC Np q) h) (bU QO (.cons hP .nil))
def qF(K:W.Frag):Sp:=λvs H Q _=>∃(l d:Addr)(ws us:List V)(qs tK:List cP)(x:eF)(z:Str),vs=[.ref l,.ref d]/\H l=some (.lst ws)/\Paired (c9 K H) ws (qs.map dd)/\H d=some (.lst us)/\Paired (c9 K H) us (tK.map dd)/\qi x z qs/\qi x z tK/\tG x/\∀H',aF H H'->Q (.bl true) H'
theorem qG:bw P w K mg base fJ 1 (aC 48) (aM 48) ["_law_found","_law_due"] (qF K):=by
 refine T.gF.ok f7 (λvs H Q E h=>?_) (λcdv A outer s H vs Q E hr h=>?_)
 ·obtain⟨l,d,ws,us,qs,tK,x,z,rfl,_⟩:=h;rfl
 ·have hu:=aU hr
  have gH:=hr.aN
  obtain⟨l,d,ws,us,qs,tK,x,z,rfl,hl,pw,hd,pu,a1,a2,g,k⟩:=h
  have eg:=hr.units
  have e1:=a1.len a2
  have e2:=a1.few g
  have lw:=pw.length
  have lu:=pu.length
  rw[aaq]at lw lu
  refine⟨_,(ai (aG (PW.pt (cN (bG (aY (nE (bQ K rfl) T.aT (af (pv 0) (af (Ec "list" T.zZ) ah))))) (cI (cJ jj (nE (bz K rfl) T.eH (af (pv 0) ah)) (nE (bz K rfl) T.eH (af (pv 1) ah)))))) (ak (az gm)) aA)
   (ai (fL aaL rfl (fP K rfl (pv 0)) (gA 2 f7.nd)
   (ai (aG (PW.pt (cN (bG (aY (nE (iA K rfl) T.aT (af (pv 2) (af (Ec "tuple" T.i0) ah))))) (cN (cJ jj (nE (bz K rfl) T.eH (af (pv 2) ah)) ao) (cI (bB (vJ (g9 (YM P w K)) rfl rfl rfl (M5 eg)) (pv 2) (pv 1) rfl))))) (ak (az gm)) aA)
   (ak (fL aaL rfl (zp K rfl (pv 2)) (gA 3 f7.nd)
   (ak (aG (PW.pt (cN (bG (aY (nE (iA K rfl) T.aT (af (pv 3) (af (Ec "tuple" T.i0) ah))))) (cN (bG (aY (nE (bQ K rfl) T.aT (af (cg K (pv 3) ao) (af (Ec "str" T.wF) ah))))) (cI (bG (aY (nE (bQ K rfl) T.aT (af (cg K (pv 3) ao) (af (Ec "str" T.wF) ah))))))))) (ak (az gm)) aA))))))
   (ak (az (zB aR (nE (bz K rfl) T.eH (af (iy rfl (show bP ["_law_found","_law_due","_law_pair","_law_state"] (ay d8) ["_law_pair","_law_found"] 1 [0] _ from Ip) (fP K rfl (pv 1)) (λ_ _ _ _=>(gA 0 (show(["_law_pair","_law_found"]:List Str).Nodup by decide +kernel))) (λ_ _ _ _=>(zo (bB (vJ (g9 (YM P w K)) rfl rfl rfl (M5 eg)) (pv 0) (pv 1) rfl))) (λ_ _ _ _=>(pv 0))) ah)) ao))))),?_⟩
  refine⟨_,O,_,_,_,_,O,.lst hl,.inl ⟨_,⟨O,O⟩⟩,_,O,bM (⟨_,O,_,_,O,.inl (bW.of hl),_,O,_,_,O,.inl (bW.of hd),O,_,O,Oh (by omega) (⟨_,O,_,O,⟨_,bW.of hl⟩,?_⟩)⟩)⟩
  refine lZ (K:=K) (a:=l) (xs:=ws) (λi σ J=>aF H J/\∃v2 v3,σ=[some (.ref l),some (.ref d),v2,v3]) ⟨aF.refl _,_,_,rfl⟩ (λi σ J _ q=>bW.of (q.1 _ _ hl)) ?_ ?_
  ·rintro i e σ J hi ⟨sJ,v2,v3,rfl⟩
   obtain⟨q',hq',pp,w1,w2,rfl,e0,W7,LA⟩:=bV pw i e hi
   obtain⟨s,hs,rfl⟩:=aaF.mp (aaJ hq')
   obtain⟨u1,rfl,f1⟩:=W7
   obtain⟨u2,rfl,f2⟩:=LA
   have hP:c9 K J (.ref pp) (dd s):=⟨pp,_,_,rfl,av sJ e0,⟨u1,rfl,av sJ f1⟩,⟨u2,rfl,av sJ f2⟩⟩
   have QS:=av sJ e0
   dsimp only[bH]
   refine⟨_,O,_,_,_,_,O,.Oo QS,O,_,O,bM ?_⟩
   refine⟨_,O,_,_,O,.inr QS,O,_,O,Oh (by simp) ?_⟩
   refine⟨_,O,_,O,d,.inr (kK (dd s)),_,us,O,⟨pp,O,tH hP⟩,.inl (bW.of (sJ _ _ hd)),zL (aW (λ_ _ h=>c9.mono sJ h) pu),?_⟩
   rw[C0,aar ((a2.mem s).mpr ((a1.mem s).mp hs))]
   refine⟨_,O,bM ?_⟩
   dsimp only[DM]
   refine⟨_,O,pp,O,⟨_,QS⟩,?_⟩
   refine DN (K:=K) (a:=pp) (xs:=[.ref u1,.ref u2]) (λj σ G=>G=J/\∃v3,σ=[some (.ref l),some (.ref d),some (.ref pp),v3]) ⟨rfl,_,rfl⟩ (λj σ G _ q=>by rw[q.1];exact QS) ?_ ?_
   ·rintro j e σ G hj ⟨rfl,v3',rfl⟩
    have hst:∃(uu:Addr)(s1 s2:Str),e=.ref uu/\aK K G uu [.str s1,.str s2]:=by
     have:=aaJ hj
     rcases aaE.mp this with z|z
     ·exact⟨u1,_,_,z,av sJ f1⟩
     ·exact⟨u2,_,_,aau.mp z,av sJ f2⟩
    obtain⟨uu,s1,s2,rfl,Va⟩:=hst
    dsimp only[bH]
    refine⟨_,O,_,_,_,_,O,.Oo Va,O,_,O,bM ?_⟩
    refine⟨_,O,_,_,_,_,O,O,Va,O,_,_,_,_,O,.str _,.inl ⟨_,⟨O,O⟩⟩,_,O,bM (⟨_,O,_,_,_,_,O,O,Va,O,_,_,_,_,O,.str _,.inl ⟨_,⟨O,O⟩⟩,_,O,bM (⟨O,_,O⟩)⟩)⟩
   ·rintro σ G ⟨rfl,v3',rfl⟩
    exact⟨sJ,_,_,O⟩
  rintro σ J ⟨sJ,v2,v3,rfl⟩
  have W8:=sJ _ _ hd
  refine⟨_,O,d,O,⟨_,bW.of W8⟩,λD hD=>?_⟩
  refine nB (K:=K) (a:=d) (xs:=us) (λi ys τ G=>(∃v,τ=[v,some (.ref l)])/\aF J G/\G D=some (.lst ys)/\ys=[]) ⟨⟨_,rfl⟩,au hD,aj,rfl⟩ (λi ys τ G _ p=>⟨bW.of (p.2.1 _ _ W8),p.2.2.1⟩) ?_ ?_
  ·rintro i e ys τ G hi ⟨⟨v,rfl⟩,sG,hG,rfl⟩
   obtain⟨q',hq',hP⟩:=bV pu i e hi
   obtain⟨s,hs,rfl⟩:=aaF.mp (aaJ hq')
   have QT:=sJ.trans sG
   obtain⟨pp,w1,w2,rfl,e0,W7,LA⟩:=id (c9.mono QT hP)
   refine⟨_,O,_,O,l,.inr (kK (dd s)),_,ws,O,⟨pp,O,tH (c9.mono QT hP)⟩,.inl (bW.of (QT _ _ hl)),zL (aW (λ_ _ h=>c9.mono QT h) pw),?_⟩
   rw[C0,aar ((a1.mem s).mpr ((a2.mem s).mp hs))]
   exact⟨_,O,bM ⟨⟨_,O⟩,sG,hG,O⟩⟩
  rintro ys τ G ⟨⟨v,rfl⟩,sG,hG,rfl⟩
  refine⟨_,_,O,.inl (bW.of hG),O,?_⟩
  exact k _ (sJ.trans sG)
def xV(K:W.Frag)(C:Addr):Sp:=λvs H Q _=>∃(a da b db t1 t2:Addr)(x y:eF),vs=[.ref a,.ref b,.ref t1,.ref t2]/\H a=some (.ins C da (jV x))/\H b=some (.ins C db (jV y))/\H t1=some (.tup (zE x))/\H t2=some (.tup (zE y))/\tG x/\Ce x y/\∀H',aF H H'->Q (.bl true) H'
theorem xW:bw P w K mg base fJ 13 (aC 49) (aM 49) ["_law_left","_law_right_here","_law_one","_law_other"] (xV K (aC 51)):=by
 have j4:=@qG P w K mg base aC aM cQ T
 have Au:=@xS P w K mg base aC aM cQ T
 have Av:=@xU P w K mg base aC aM cQ T
 have yP:=@Dj P w K mg base aC aM cQ T
 have Dm:=@BZ P w K mg base aC aM cQ T
 refine T.f9.ok jI (λvs H Q E h=>?_) (λcdv A outer s H vs Q E hr h=>?_)
 ·obtain⟨a,da,b,db,t1,t2,x,y,rfl,_⟩:=h;rfl
 ·have hu:=aU hr
  have gH:=hr.aN
  obtain⟨a,da,b,db,t1,t2,x,y,rfl,ha,hb,h1,h2,g,al,k⟩:=h
  have gy:=al.gd g
  have eg:=hr.units
  refine⟨_,(ai (eX 4 jI.nd (fR Av hr T.zY T.qA.kp T.zX (af (pv 2) (af (pv 3) (af (fR Au hr T.zW T.qz.kp T.zV (af (dO (af (pv 2) (af (pv 3) ah))) ah)) ah)))))
   (ai (eX 5 jI.nd (fR yP hr T.yL T.sj.kp T.yK (af (pv 0) (af (pv 1) ah))))
   (ai (aG (PW.pt (cN (cJ gu (pv 4) bq) (cN (bG (aY (nE (bQ K rfl) T.aT (af (pv 5) (af (Ec "tuple" T.i0) ah))))) (cN (cJ jj (nE (bz K rfl) T.eH (af (pv 5) ah)) ao) (cI (cJ jj (cg K (pv 5) ao) aq)))))) (ak (az gm)) aA)
   (ai (aG (PW.pt (cN (bG (aY (fR j4 hr T.j0 T.gF.kp T.jZ (af (cg K (pv 5) ao) (af (pv 4) ah))))) (cI (cJ EW (fR Dm hr T.C6 T.wB.kp T.C5 (af (pv 0) (af (pv 1) (af (Qv (xh K rfl) T.zZ (af (cg K (pv 5) ao) ah)) ah)))) gm)))) (ak (az gm)) aA)
   (ai (j9 (DZ K rfl aa4 PySem.F.slot_list_reverse PySem.F.type_list_reverse Cw (cg K (pv 5) ao)))
   (ai (j9 (DZ K rfl aa4 PySem.F.slot_list_pop PySem.F.type_list_pop Lx (cg K (pv 5) ao)))
   (ak (az (fR j4 hr T.j0 T.gF.kp T.jZ (af (cg K (fR yP hr T.yL T.sj.kp T.yK (af (pv 0) (af (pv 1) ah))) ao) (af (pv 4) ah))))))))))),?_⟩
  refine⟨_,O,_,O,_,O,_,O,(by show(2:Nat)<=sizeLine;decide),λl hl=>?_⟩
  have s1:=au (o:=HO.lst [.ref t1,.ref t2]) hl
  have dt:∀(c:eF)(d GW tt:Addr),H d=some (.ins (aC 51) GW (jV c))->H tt=some (.tup (zE c))->tG c->Du (aC 51) (upd H l (HO.lst [.ref t1,.ref t2])) (.ref d) (.ref tt) (lR c):=λc d GW tt e1 e2 e3=>by
   obtain⟨p,q,f,⟨b1,b2,b3,b4⟩⟩:=c
   exact⟨d,tt,p,q,f,b1,b2,b3,b4,O,O,O,⟨GW,s1 _ _ e1⟩,s1 _ _ e2,e3⟩
  refine⟨l,[.ref a,.ref b],[.ref t1,.ref t2],[lR x,lR y],O,aj,.cons (dt x a da t1 ha h1 g) (.cons (dt y b db t2 hb h2 gy) .nil),aaj 2,λH2 s2=>?_⟩
  have s12:=s1.trans s2
  refine⟨t1,t2,x,y,Cd x y,O,s12 _ _ h1,s12 _ _ h2,g,al,λld us qs H3 aac QU pu aS s3=>?_⟩
  have Iu:=s12.trans s3
  clear dt
  obtain⟨n0,hE⟩:=Em (z:=Cd x y) al g
  dsimp only[bH]
  refine⟨_,O,_,O,a,da,b,db,x,y,n0,O,Iu _ _ ha,g,Iu _ _ hb,gy,hE,λt r cm H4 ht0 s4 B3 hcl hcmp=>?_⟩
  dsimp only[bH]
  obtain⟨rfl,Ir,ecm,ME⟩:=Eo al B3
  obtain⟨lt,ws,hT,PU,hlt,pw⟩:=hcmp
  have em:(cm.map λe=>e.1.1)=Ir.map dd:=by
   have:=congrArg (List.map λm:gn=>m.1) ecm
   rw[List.map_map,List.map_map]at this
   exact this
  rw[em]at pw
  have MB:=Iu.trans s4
  have Vb:=s4 _ _ QU
  have pu4:=aW (λ_ _ h=>c9.mono s4 h) pu
  refine⟨_,rfl,rfl,_,rfl,oV (λz=>nomatch z) (⟨_,rfl,_,_,_,_,rfl,.tup hT,.inl ⟨_,⟨rfl,rfl⟩⟩,_,rfl,bM (⟨_,rfl,_,_,rfl,.inr (aK.of hT),rfl,_,rfl,Oh (by simp) (⟨_,rfl,_,_,_,_,rfl,rfl,aK.of hT,rfl,rfl,_,rfl,LM rfl (⟨_,rfl,_,_,_,_,rfl,rfl,aK.of hT,rfl,_,rfl,_,_,_,_,_,_,_,_,rfl,hlt,pw,Vb,pu4,ME,aS,g,λH5 s5=>⟨_,rfl,bM (⟨_,rfl,_,rfl,_,rfl,_,_,_,_,rfl,rfl,aK.of (s5 _ _ hT),rfl,_,_,rfl,.inl (bW.of (s5 _ _ hlt)),?_⟩)⟩⟩)⟩)⟩)⟩)⟩
  have QC:=s5 _ _ hT
  have W9:=MB.trans s5
  have QB:=W9 _ _ ha
  have QA:=W9 _ _ hb
  have Vc:=s5 _ _ hlt
  have few:=ME.few g
  have Vd:=pw.length
  rw[aaq]at Vd
  refine λl2 hl2=>?_
  have s6:=au (o:=HO.lst ws) hl2
  have g6:=aj (H:=H5) (a:=l2) (o:=HO.lst ws)
  generalize upd H5 l2 (HO.lst ws)=H6 at s6 g6⊢
  have pw6:Paired (c9 K H6) ws ((Ir.map λs=>(s,s)).map λq=>(some q.1,some q.2)):=by
   rw[List.map_map]
   exact aW (λ_ _ h=>c9.mono (s5.trans s6) h) pw
  refine⟨a,da,b,db,l2,ws,x,y,Ir.map λs=>(s,s),O,s6 _ _ QB,g,s6 _ _ QA,gy,g6,pw6,yE ME.nd,by rw[aaq];omega,(λq hq=>?_),aaF.mpr ⟨v9,(ME.mem v9).mpr .row,O⟩,λH7 s7=>?_⟩
  ·obtain⟨s,hs,rfl⟩:=aaF.mp hq
   have hr:=(ME.mem s).mp hs
   refine⟨hr.HJ.st,hr.HJ.lv,yD al.pq hr.HJ.st,?_,Iff.rfl,λc hc=>?_⟩
   ·rw[←BC al.pf hr.HJ.st];exact hr.HJ.lv
   ·have e:=CZ al hr.HJ c
    cases ho:iD x (some s) c with
    |none=>exact .inl ⟨rfl,by rw[←e];exact ho⟩
    |some kt =>
     obtain⟨kd,t'⟩:=kt
     exact .inr ⟨kd,t',t',rfl,by rw[←e];exact ho,aaF.mpr ⟨t',(ME.mem t').mpr (.step hr hc ho),rfl⟩⟩
  have JW:=s6.trans s7
  have PV:=JW _ _ QC
  have Ia:=JW _ _ Vc
  have FF:=(s4.trans s5).trans JW
  have QJ:ld≠lt:=λe=>by rw[e,PU]at QU;cases QU
  have PX:=FF _ _ QU
  have Xa:=aW (λ_ _ h=>c9.mono FF h) pu
  have Xb:=Iu.trans FF
  have PY:H lt=none:=Iu.free PU
  have Ve:ws≠[]:=λe=>by
   have:=(ME.mem v9).mpr .row
   rw[e]at Vd
   rw[List.length_eq_zero_iff.mp Vd.symm]at this
   cases this
  refine⟨_,_,O,O,_,O,bM ?_⟩
  refine⟨_,O,_,_,_,_,O,O,aK.of PV,O,.inl ⟨O,⟨_,bW.of Ia⟩⟩,_,_,O,O,Ia,?_⟩
  have Vf:(upd H7 lt (.lst ws.reverse)) t=some (.tup [.str ("alike":Str),.ref lt]):=(aH (λe=>by rw[e,Ia]at PV;cases PV)).trans PV
  have Ib:=aj (H:=H7) (a:=lt) (o:=HO.lst ws.reverse)
  have Vg:aF H (upd H7 lt (.lst ws.reverse)):=bf PY Xb
  have MF:(upd H7 lt (.lst ws.reverse)) ld=some (.lst us):=(aH QJ).trans PX
  have pu8:Paired (c9 K (upd H7 lt (.lst ws.reverse))) us (qs.map dd):=aW (λ_ _ h=>c9.keep (λb xs q=>iC Ia q) h) Xa
  generalize upd H7 lt (.lst ws.reverse)=H8 at Vf Ib Vg MF pu8⊢
  clear PV Ia PX Xa Xb FF JW
  have Vh:ws.reverse≠[]:=λe=>Ve (List.reverse_eq_nil_iff.mp e)
  obtain⟨re,hre⟩:∃re,ws.reverse[ws.reverse.length-1]?=some re:=⟨_,List.getElem?_eq_getElem (by have:=List.length_pos_iff.mpr Vh;omega)⟩
  dsimp only[DM]
  refine⟨_,O,_,_,_,_,O,O,aK.of Vf,O,.inl ⟨O,⟨_,bW.of Ib⟩⟩,lt,_,re,O,O,Ib,hre,?_⟩
  have QV:aF H (upd H8 lt (.lst ws.reverse.dropLast)):=bf PY Vg
  have PZ:(upd H8 lt (.lst ws.reverse.dropLast)) ld=some (.lst us):=(aH QJ).trans MF
  have Xc:Paired (c9 K (upd H8 lt (.lst ws.reverse.dropLast))) us (qs.map dd):=aW (λ_ _ h=>c9.keep (λb xs q=>iC Ib q) h) pu8
  generalize upd H8 lt (.lst ws.reverse.dropLast)=H9 at QV PZ Xc⊢
  clear Vf Ib MF pu8 Vg hE B3
  obtain⟨n1,hE⟩:=Em (z:=Cd x y) al g
  refine⟨_,O,_,O,a,da,b,db,x,y,n1,O,QV _ _ ha,g,QV _ _ hb,gy,hE,λt' r' Ei Ru ht' EK B3 OH hcmp=>?_⟩
  obtain⟨rfl,Xd,Vi,aS3⟩:=Eo al B3
  obtain⟨lt',ws',hT',_,hlt',Xe⟩:=hcmp
  have em:(Ei.map λe=>e.1.1)=Xd.map dd:=by
   have:=congrArg (List.map λm:gn=>m.1) Vi
   rw[List.map_map,List.map_map]at this
   exact this
  rw[em]at Xe
  exact⟨t',_,_,_,O,O,aK.of hT',O,_,O,lt',ld,ws',us,Xd,qs,x,Cd x y,O,hlt',Xe,EK _ _ PZ,aW (λ_ _ h=>c9.mono EK h) Xc,aS3,aS,g,λH11 Mx=>k _ (QV.trans (EK.trans Mx))⟩
def Aw(K:W.Frag):Sp:=λvs H Q _=>∃(a:Addr)(ns:List Int),vs=[.ref a]/\bW K H a (ns.map V.int)/\ns.length<=63/\∀H',Q (.bl true) H'
theorem MG:bw P w K mg base fJ 14 (aC 50) (aM 50) ["_law_script"] (Aw K):=by
 have Ax:=@xQ P w K mg base aC aM cQ T
 have nj:=@uP P w K mg base aC aM cQ T
 have nk:=@An P w K mg base aC aM cQ T
 have jM:=@nh P w K mg base aC aM cQ T
 have iI:=@xW P w K mg base aC aM cQ T
 have B9:=@Ak P w K mg base aC aM cQ T
 refine T.OJ.ok wj (λvs H Q E h=>?_) (λcdv A outer s H vs Q E hr h=>?_)
 ·obtain⟨a,ns,rfl,_⟩:=h;rfl
 ·have hu:=aU hr
  have gH:=hr.aN
  obtain⟨a,ns,rfl,hS,hlen,k⟩:=h
  refine⟨_,(ai (eX 1 wj.nd (fR B9 hr T.BO T.tP.kp T.BN (af (fR nj hr T.mZ T.iY.kp T.mY (af (pv 0) (af ao ah))) ah)))
   (ai (eX 2 wj.nd (fR Ax hr T.zU T.qy.kp T.zT (af (pv 1) (af (fR jM hr T.oG T.jK.kp T.oF (af (fR nj hr T.mZ T.iY.kp T.mY (af (pv 0) (af ao ah))) (af ao ah))) ah))))
   (ai (eX 3 wj.nd (fR nk hr T.m8 T.ju.kp T.m7 (af (pv 1) ah)))
   (ai (eX 4 wj.nd (fR nk hr T.m8 T.ju.kp T.m7 (af (pv 2) ah)))
   (ai (aG (PW.pt (cN (bG (aY (fR iI hr T.iH T.f9.kp T.iG (af (pv 3) (af (pv 4) (af (pv 1) (af (pv 2) ah))))))) (cI (bG (aY (fR iI hr T.iH T.f9.kp T.iG (af (pv 4) (af (pv 3) (af (pv 2) (af (pv 1) ah)))))))))) (ak (az gm)) aA)
   (ak (az (lU (fR iI hr T.iH T.f9.kp T.iG (af (pv 3) (af (pv 3) (af (pv 1) (af (pv 1) ah))))) (oO (fR iI hr T.iH T.f9.kp T.iG (af (pv 3) (af (fR nk hr T.m8 T.ju.kp T.m7 (af (pv 1) ah)) (af (pv 1) (af (pv 1) ah)))))))))))))),?_⟩
  refine⟨_,O,a,_,_,O,hS,by decide,λc0=>⟨c0,O,λt p q f b1 b2 b3 b4 H1 g ht h1 s1=>?_⟩⟩
  dsimp only[bH]
  obtain⟨x,hx⟩:∃x:eF,x=(p,q,f,⟨b1,b2,b3,b4⟩):=⟨_,rfl⟩
  have h1:H1 t=some (.tup (zE x)):=by rw[hx];exact h1
  have g:tG x:=by rw[hx];exact g
  refine⟨_,O,_,O,a,_,_,O,s1.seq hS,by decide,λc1=>⟨c1,61,O,by decide,by decide,λn1=>⟨t,n1,x,O,h1,g,λt2 y H2 al xH h2 s2=>?_⟩⟩⟩
  dsimp only[bH]
  have gy:=al.gd g
  refine⟨_,O,t,_,_,_,_,_,_,_,O,s2 _ _ h1,g,λd1 Nc H3 aad hd1 s3=>?_⟩
  dsimp only[bH]
  refine⟨_,O,t2,_,_,_,_,_,_,_,O,s3 _ _ h2,gy,λd2 dd2 H4 aae hd2 s4=>?_⟩
  dsimp only[bH]
  have Qz:=s3.trans s4
  have MH:=Qz _ _ (s2 _ _ h1)
  have Xf:=Qz _ _ h2
  have Ic:=s4 _ _ hd1
  refine⟨_,O,_,O,_,O,_,O,d1,Nc,d2,dd2,t,t2,x,y,O,Ic,hd2,MH,Xf,g,al,λH5 s5=>⟨true,O,bM ?_⟩⟩
  refine⟨_,O,_,O,_,O,_,O,d2,dd2,d1,Nc,t2,t,y,x,O,s5 _ _ hd2,s5 _ _ Ic,s5 _ _ Xf,s5 _ _ MH,gy,al.symm,λH6 s6=>⟨true,O,bM ?_⟩⟩
  have P4:=s5.trans s6
  refine⟨_,O,_,O,_,O,_,O,d1,Nc,d1,Nc,t,t,x,x,O,P4 _ _ Ic,P4 _ _ Ic,P4 _ _ MH,P4 _ _ MH,g,.refl x,λH7 s7=>⟨true,O,jO ?_⟩⟩
  have QN:=P4.trans s7
  refine⟨_,O,_,O,t,_,_,_,_,_,_,_,O,QN _ _ MH,g,λd3 dd3 H8 aaf hd3 s8=>?_⟩
  have PN:=QN.trans s8
  exact⟨_,O,_,O,d1,Nc,d3,dd3,t,t,x,x,O,PN _ _ Ic,hd3,PN _ _ MH,PN _ _ MH,g,.refl x,λH9 s9=>k _⟩
end
end
theorem all_mk{l:W.OpenLaw}{w:World}{K:W.Frag}{h:Heap}{mg:Str->Option Value}{fa nq Ie Ca tU yQ lK jd ck nt jw qH iu lM oH oJ lN qI lO tV j5 tW jx nu lP je yR wR yS oK lQ jy qJ yT jf yU ny qK oM tX qL tY tZ qM t7 t8 qN wU qO j6 qP Ig bu gX cH cB dY gg jz jA Ay jg gh gi:Addr}{od7 Vj Vk JZ Vl MI:Option Addr}{sl7 Vm Vn:Array (Option Value)}{oc7 Vo Vp Vq QW Vr Vs J5 J6 J7 Ih J8 Vt MJ MK ML J9 MN:Value}{Dn dJ:Str}{bJ fG:Addr}(X:K.In h)(G:h.Ns mainGlobals mg)(hfa:mg "law"=some (.ref fa))(Dp:W.nsIn K mainGlobals "Dialect"=some (some (.ref bu)))(Ka:W.nsIn K mainGlobals "Turn"=some (some (.ref gX)))(Fp:W.nsIn K mainGlobals "Couple"=some (some (.ref cH)))(Dq:W.nsIn K mainGlobals "Parting"=some (some (.ref cB)))(gY:W.nsIn K mainGlobals "DialectError"=some (some (.ref dY)))(kW:W.nsIn K mainGlobals "NoDialect"=some (some (.ref jz)))(l0:FQ K "is_printable" iM nq)(l1:FQ K "once" CO Ie)(l2:FQ K "others" p7 Ca)(l3:FQ K "states_of" mG tU)(l4:FQ K "is_live" rD yQ)(l5:FQ K "is_live_state" gP lK)(l6:FQ K "are_unlike_signs" di jd)(a7:W.findIn K (.ref bu) "__init__"=some (some (.ref ck)))(i7:W.isFn K (.ref ck)=true)(l7:K.lookup ck=FO "__init__" "Dialect.__init__" aZ (.ref bJ) oc7 od7 Vo Vp Vq Vj QW Vr sl7)(c7:W.codeIn K QW "Dialect.__init__"=true)(k7:W.keepIn K (.ref ck)=true){P5:Option Addr}{Vu:Nat}{P6:Array (Option Value)}{P7 P8:Tok}(d7:K.lookup bJ=some ⟨.type "tuple",P5,.seq #[.str ("":Str) P7,.str ("":Str) P8,.bool false,.bool false,.bool false,.bool false] Vu,P6⟩)(l8:FV K bu "told" "Dialect.told" iN nt)(l9:FV K bu "special" "Dialect.special" fS jw)(Wz:FQ K "dialect_of" kC qH)(l11:FQ K "step_at_beginning" er iu)(l12:FQ K "step_in_plain" gQ lM)(l13:FQ K "step_within" jD oH)(l14:FQ K "step_behind" jE oJ)(l15:FQ K "step_in_doubt" gR lN)(l16:FQ K "step_freed" kD qI)(l17:FV K gX "__init__" "Turn.__init__" gS lO)(l18:FV K gX "step" "Turn.step" mH tV)(l19:FV K gX "live_step" "Turn.live_step" gB j5)(l20:FQ K "signs_for" jl tW)(l21:FV K cH "__init__" "Couple.__init__" fT jx)(l22:FV K cH "steps" "Couple.steps" iO nu)(l23:FQ K "is_known_step" gT lP)(l24:FV K cH "agrees_at" "Couple.agrees_at" fk je)(l25:FQ K "is_pair" rE yR)(l26:FQ K "is_alike" iP wR)(l27:FQ K "put_out" rF yS)(l28:FQ K "more_behind" jF oK)(l29:FV K cB "leads" "Parting.leads" eY lQ)(l30:FV K cB "is_good" "Parting.is_good" fU jy)(OU:W.nsIn K mainGlobals "search"=RF qJ)(l31:K.lookup qJ=FO "search" "search" dP (.ref fG) Vs Vk J5 J6 J7 JZ Ih J8 Vm)(c31:W.codeIn K Ih "search"=true)(k31:W.keepIn K (.ref qJ)=true){MO:Option Addr}{P9:Nat}{MP:Array (Option Value)}(Xg:K.lookup fG=some ⟨.type "tuple",MO,.seq #[.none] P9,MP⟩)(l32:FQ K "text_to" rG yT)(l33:FV K cB "__init__" "Parting.__init__" fm jf)(l34:FQ K "compare" nF yU)(l35:FQ K "_law_cell_at" iQ ny)(l36:FQ K "_law_mixed" kE qK)(l37:FQ K "_law_number" jG oM)(l38:FQ K "_law_some" mJ tX)(l39:FQ K "_law_menus" kF qL)(l40:FQ K "_law_told" mK tY)(l41:FQ K "_law_made" mL tZ)(l42:FQ K "_law_alike" kG qM)(l43:FQ K "_law_open" mO t7)(l44:FQ K "_law_step" mP t8)(l45:FQ K "_law_count" fV qN)(l46:FQ K "_law_led" oW wU)(l47:FQ K "_law_pairs" kH qO)(l48:FQ K "_law_are_pairs" d8 j6)(l49:FQ K "_law_right" kI qP)(Xh:W.nsIn K mainGlobals "law"=RF Ig)(l50:K.lookup Ig=FO "law" "law" tF .none Vt Vl MJ MK ML MI J9 MN Vn)(c50:W.codeIn K J9 "law"=true)(k50:W.keepIn K (.ref Ig)=true)(Dr:W.plainGet K bu Str.empty=true)(Ds:W.hasDictIn K bu=true)(Dv:W.plainOver K bu=true)(Dw:W.findIn K (.ref bu) "__setattr__"=some (some (.builtin "object.__setattr__")))(Dy:W.makesIn K bu=true)(Dz:W.keepIn K (.ref bu)=true)(bL:W.findIn K (.ref bu) "parts"=some none)(bF:W.findIn K (.ref bu) "quotes"=some none)(bE:W.findIn K (.ref bu) "frees"=some none)(dU:W.findIn K (.ref bu) "twin"=some none)(cX:W.findIn K (.ref bu) "wide"=some none)(cY:W.findIn K (.ref bu) "thin"=some none)(dD:W.findIn K (.ref bu) "stray"=some none)(Kc:W.plainGet K gX Str.empty=true)(Kd:W.hasDictIn K gX=true)(Ke:W.plainOver K gX=true)(Kf:W.findIn K (.ref gX) "__setattr__"=some (some (.builtin "object.__setattr__")))(Kg:W.makesIn K gX=true)(Kh:W.keepIn K (.ref gX)=true)(bA:W.findIn K (.ref gX) "dialect"=some none)(Fq:W.plainGet K cH Str.empty=true)(Ft:W.hasDictIn K cH=true)(Fv:W.plainOver K cH=true)(Fw:W.findIn K (.ref cH) "__setattr__"=some (some (.builtin "object.__setattr__")))(Fx:W.makesIn K cH=true)(Fy:W.keepIn K (.ref cH)=true)(gb:W.findIn K (.ref cH) "first"=some none)(e9:W.findIn K (.ref cH) "second"=some none)(dW:W.findIn K (.ref cH) "signs"=some none)(DA:W.plainGet K cB Str.empty=true)(DB:W.hasDictIn K cB=true)(DC:W.plainOver K cB=true)(DE:W.findIn K (.ref cB) "__setattr__"=some (some (.builtin "object.__setattr__")))(DF:W.makesIn K cB=true)(DG:W.keepIn K (.ref cB)=true)(cZ:W.findIn K (.ref cB) "couple"=some none){uQ uR:Str}{uS sP:List Value}{sQ uT:Bool}{uU:List Str}{sR:Option Bool}{uV sS:Option Addr}{uW uX uY uZ u5:Option Value}{sU:Value}{j7:Array DictEntry}{u6:Nat}{sV:Array (Option Value)}(gZ:K.lookup dY=some (excClassObj uQ uR dY gg uS Jp sQ uU sP uT sR uV uW uX uY uZ u5 "ValueError.__new__"))(g5:K.lookup gg=some ⟨sU,sS,.dict j7 u6,sV⟩)(qQ:(j7.toList.all λe=>match e.key with | .str _ _=>true|_=>false)=true)(g8:W.nsIn K gg "__init__"=some none){Az AA:Str}{AB xX:List Value}{xY AD:Bool}{AE:List Str}{xZ:Option Bool}{AF yb:Option Addr}{AG AH AI AJ AK:Option Value}{yc:Value}{oN:Array DictEntry}{AL:Nat}{yd:Array (Option Value)}(kX:K.lookup jz=some (excClassObj Az AA jz jA AB (.ref dY::Jp) xY AE xX AD xZ AF AG AH AI AJ AK "ValueError.__new__"))(kZ:K.lookup jA=some ⟨yc,yb,.dict oN AL,yd⟩)(wV:(oN.toList.all λe=>match e.key with | .str _ _=>true|_=>false)=true)(k6:W.nsIn K jA "__init__"=some none)(Qa:W.nsIn K mainGlobals "all"=some none)(MQ:W.nsIn K mainGlobals "bool"=some none)(Qc:W.nsIn K mainGlobals "int"=some none)(AM:W.nsIn K mainGlobals "isinstance"=some none)(Qd:W.nsIn K mainGlobals "len"=some none)(MR:W.nsIn K mainGlobals "list"=some none)(z_ord:W.nsIn K mainGlobals "ord"=some none)(Kl:W.nsIn K mainGlobals "range"=some none)(DH:W.nsIn K mainGlobals "reversed"=some none)(Qe:W.nsIn K mainGlobals "str"=some none)(Km:W.nsIn K mainGlobals "tuple"=some none){Kn:Tok}(MS:W.nsIn K mainGlobals "LINE"=some (some (.str Dn Kn)))(MT:Dn=("\n":Str)){k8:Tok}(lS:W.nsIn K mainGlobals "LETTERS_AND_FIGURES"=some (some (.str dJ k8)))(lT:dJ=("abcdefghijklmnopqrstuvwxyzABCDEFGHIJKLMNOPQRSTUVWXYZ0123456789":Str))(Ko:W.nsIn K mainGlobals "START"=some (some (.ref Ay))){Ii:Option Addr}{Kp:Nat}{Ij:Array (Option Value)}{Ik Il:Tok}(Kq:K.lookup Ay=some ⟨.type "tuple",Ii,.seq #[.str ("row":Str) Ik,.str ("":Str) Il] Kp,Ij⟩)(wW:W.nsIn K mainGlobals "NOTHING_MORE"=some (some (.ref jg))){u7:Option Addr}{wX:Nat}{u9:Array (Option Value)}(wY:K.lookup jg=some ⟨.type "tuple",u7,.seq #[.ref gh,.ref gi] wX,u9⟩){pM:Option Addr}{qR:Nat}{pN:Array (Option Value)}(qS:K.lookup gh=some ⟨.type "tuple",pM,.seq #[] qR,pN⟩){pO:Option Addr}{qT:Nat}{pP:Array (Option Value)}(qU:K.lookup gi=some ⟨.type "tuple",pO,.seq #[] qT,pP⟩):∃fd:FuncData,(∀(s:Shared)(v:Value),BindsTo s fd ⟨[v],[]⟩ [("_law_script",v)])/\∀base:Heap,K.In base->base.Ns mainGlobals mg->bw l.prog w K mg base fJ 14 fa fd ["_law_script"] (Aw K):=by
 have e:=hfa.symm.trans (W.mg_of X G Xh)
 cases e
 have mo:∀{n:Str}{v:Value},W.nsIn K mainGlobals n=some (some v)->mg n=some v:=λe=>W.mg_of X G e
 have mz:∀{n:Str},W.nsIn K mainGlobals n=some none->mg n=none:=λe=>W.mg_none_of X G e
 obtain⟨a0,Xi,F0⟩:=l0
 have b0:=F0.ug (ps:=["sign"])
 obtain⟨a1,fd1,F1⟩:=l1
 have b1:=F1.ug (ps:=["text"])
 obtain⟨a2,fd2,F2⟩:=l2
 have b2:=F2.mF (ps:=["some","many"])
 obtain⟨a3,fd3,F3⟩:=l3
 have b3:=F3.ug (ps:=["dialect"])
 obtain⟨a4,fd4,F4⟩:=l4
 have b4:=F4.mF (ps:=["dialect","state"])
 obtain⟨a5,fd5,F5⟩:=l5
 have b5:=F5.mF (ps:=["dialect","thing"])
 obtain⟨a6,fd6,F6⟩:=l6
 have b6:=F6.kB (ps:=["thing","least","most"])
 have F7:=D0 (st:=aZ) l7 c7 k7
 have b7:Binds K (W.fnOf "__init__" "Dialect.__init__" (cD aZ) (bX aZ) (ay aZ) (.ref bJ) Vo Vp Vq Vj QW Vr) ["self","parts","quotes","frees","twin","wide","thin","stray"] []:=λs us hK hl=>match us,hl with |[_,_,_,_,_,_,_,_],_=>BindsTo.of_defaults (T:=bJ) rfl (hK _ _ d7) rfl rfl rfl
 obtain⟨a8,i8,fd8,F8⟩:=l8
 have b8:=F8.ug (ps:=["self"])
 obtain⟨a9,i9,fd9,F9⟩:=l9
 have b9:=F9.ug (ps:=["self"])
 obtain⟨a10,Vv,Xj⟩:=Wz
 have b10:=Xj.ug (ps:=["told"])
 obtain⟨O6,Vw,Xk⟩:=l11
 have L6:=Xk.kB (ps:=["dialect","state","sign"])
 obtain⟨a12,Vx,Xl⟩:=l12
 have Tq:=Xl.mF (ps:=["dialect","sign"])
 obtain⟨a13,Vy,Xm⟩:=l13
 have b13:=Xm.kB (ps:=["dialect","quote","sign"])
 obtain⟨JI,Vz,Xn⟩:=l14
 have b14:=Xn.mF (ps:=["dialect","sign"])
 obtain⟨Tr,VA,Xo⟩:=l15
 have Uo:=Xo.kB (ps:=["dialect","quote","sign"])
 obtain⟨a16,VB,Xp⟩:=l16
 have b16:=Xp.kB (ps:=["dialect","quote","sign"])
 obtain⟨a17,i17,VC,Xq⟩:=l17
 have b17:=Xq.mF (ps:=["self","dialect"])
 obtain⟨PJ,i18,VD,VE⟩:=l18
 have JM:=VE.kB (ps:=["self","state","sign"])
 obtain⟨a19,i19,VF,VG⟩:=l19
 have b19:=VG.kB (ps:=["self","state","sign"])
 obtain⟨a20,VH,Xr⟩:=l20
 have b20:=Xr.ug (ps:=["dialects"])
 obtain⟨JN,Up,VI,Xs⟩:=l21
 have b21:=Xs.kB (ps:=["self","one","other"])
 obtain⟨Uq,i22,VJ,VL⟩:=l22
 have TH:=VL.kB (ps:=["self","pair","sign"])
 obtain⟨a23,VM,Xu⟩:=l23
 have b23:=Xu.mF (ps:=["steps","known"])
 obtain⟨JR,i24,VN,VO⟩:=l24
 have b24:=VO.kB (ps:=["self","pair","known"])
 obtain⟨TJ,VP,Xv⟩:=l25
 have b25:=Xv.kB (ps:=["one","other","thing"])
 obtain⟨Sw,VQ,Xw⟩:=l26
 have b26:=Xw.kB (ps:=["one","other","pairs"])
 obtain⟨a27,VR,Xx⟩:=l27
 have b27:=Xx.mF (ps:=["kind","sign"])
 obtain⟨PK,VS,Xy⟩:=l28
 have OT:=Xy.kB (ps:=["more","steps","sign"])
 obtain⟨O5,i29,VT,VU⟩:=l29
 have b29:=VU.mF (ps:=["self","place"])
 obtain⟨a30,i30,VV,VW⟩:=l30
 have b30:=VW.mF (ps:=["self","place"])
 have F31:=D0 (st:=dP) l31 c31 k31
 have b31:Binds K (W.fnOf "search" "search" (cD dP) (bX dP) (ay dP) (.ref fG) J5 J6 J7 JZ Ih J8) ["first","searched","most"] []:=λs us hK hl=>match us,hl with |[_,_,_],_=>BindsTo.of_defaults (T:=fG) rfl (hK _ _ Xg) rfl rfl rfl
 obtain⟨a32,VX,Xz⟩:=l32
 have PL:=Xz.mF (ps:=["came","place"])
 obtain⟨a33,i33,VY,XA⟩:=l33
 have b33:=XA.kB (ps:=["self","one","other"])
 obtain⟨R3,VZ,XC⟩:=l34
 have b34:=XC.mF (ps:=["one","other"])
 obtain⟨PM,V0,XD⟩:=l35
 have b35:=XD.mF (ps:=["_law_script","_law_k"])
 obtain⟨Sl,V1,XE⟩:=l36
 have b36:=XE.mF (ps:=["_law_number_here","_law_salt"])
 obtain⟨a37,V2,XF⟩:=l37
 have b37:=XF.mF (ps:=["_law_cell","_law_salt"])
 obtain⟨TZ,V3,XG⟩:=l38
 have R4:=XG.kB (ps:=["_law_number_here","_law_many","_law_menu"])
 obtain⟨Sm,V4,XH⟩:=l39
 have b39:=XH.ug (ps:=["_law_way"])
 obtain⟨Ur,V5,XI⟩:=l40
 have b40:=XI.ug (ps:=["_law_cell"])
 obtain⟨R5,V6,XJ⟩:=l41
 have b41:=XJ.ug (ps:=["_law_told_here"])
 obtain⟨a42,V7,XM⟩:=l42
 have T8:=XM.mF (ps:=["_law_told_here","_law_number_here"])
 obtain⟨a43,V8,XO⟩:=l43
 have b43:=XO.kB (ps:=["_law_told_here","_law_state","_law_sign"])
 obtain⟨a44,V9,XQ⟩:=l44
 have Us:=XQ.kB (ps:=["_law_told_here","_law_state","_law_sign"])
 obtain⟨Ua,Wa,XR⟩:=l45
 have b45:=XR.ug (ps:=["_law_tolds"])
 obtain⟨R9,Wb,XS⟩:=l46
 have Ut:=XS.kB (ps:=["_law_told_here","_law_state","_law_sign"])
 obtain⟨a47,Wc,XT⟩:=l47
 have b47:=XT.kB (ps:=["_law_one","_law_other","_law_signs"])
 obtain⟨a48,Wd,XU⟩:=l48
 have b48:=XU.mF (ps:=["_law_found","_law_due"])
 obtain⟨OY,We,XW⟩:=l49
 have Ub:=XW.RK (ps:=["_law_left","_law_right_here","_law_one","_law_other"])
 have XX:=Gy (st:=tF) l50 c50 k50
 have b50:=XX.ug (ps:=["_law_script"])
 have bf0:∃ds,Vals [V.non] ds/\Binds K (W.fnOf "search" "search" (cD dP) (bX dP) (ay dP) (.ref fG) J5 J6 J7 JZ Ih J8) ["first","searched","most"] ds:=⟨[.none],(.cons rfl .nil),λs us hK hl=>by
  have hn:us.length=2:=by rw[aav]at hl;simp only[aaH,List.length_nil]at hl;omega
  exact match us,hn with |[_,_],_=>BindsTo.of_defaults (T:=fG) rfl (hK _ _ Xg) rfl rfl rfl⟩
 exact⟨W.fnOf "law" "law" (cD tF) (bX tF) (ay tF) .none MJ MK ML MI J9 MN,λs v=>.of_eq rfl,λbase _ _=>MG (aC:=λi=>[nq,Ie,Ca,tU,yQ,lK,jd,ck,nt,jw,qH,iu,lM,oH,oJ,lN,qI,lO,tV,j5,tW,jx,nu,lP,je,yR,wR,yS,oK,lQ,jy,qJ,yT,jf,yU,ny,qK,oM,tX,qL,tY,tZ,qM,t7,t8,qN,wU,qO,j6,qP,fa,bu,gX,cH,cB,dY,gg,jz,jA,Ay,jg,gh,gi,bJ,fG].getD i fa) (aM:=λi=>[Xi,fd1,fd2,fd3,fd4,fd5,fd6,FN "__init__" "Dialect.__init__" aZ (.ref bJ) Vo Vp Vq Vj QW Vr,fd8,fd9,Vv,Vw,Vx,Vy,Vz,VA,VB,VC,VD,VF,VH,VI,VJ,VM,VN,VP,VQ,VR,VS,VT,VV,FN "search" "search" dP (.ref fG) J5 J6 J7 JZ Ih J8,VX,VY,VZ,V0,V1,V2,V3,V4,V5,V6,V7,V8,V9,Wa,Wb,Wc,Wd,We,FN "law" "law" tF .none MJ MK ML MI J9 MN].getD i (Xi)) (cQ:=λi=>[Dn,dJ].getD i "") ⟨F0,b0,mo a0,F1,b1,mo a1,F2,b2,mo a2,F3,b3,mo a3,F4,b4,mo a4,F5,b5,mo a5,F6,b6,mo a6,F7,b7,F8,b8,⟨a8,i8,F8.kp⟩,F9,b9,⟨a9,i9,F9.kp⟩,Xj,b10,mo a10,Xk,L6,mo O6,Xl,Tq,mo a12,Xm,b13,mo a13,Xn,b14,mo JI,Xo,Uo,mo Tr,Xp,b16,mo a16,Xq,b17,VE,JM,⟨PJ,i18,VE.kp⟩,VG,b19,⟨a19,i19,VG.kp⟩,Xr,b20,mo a20,Xs,b21,VL,TH,⟨Uq,i22,VL.kp⟩,Xu,b23,mo a23,VO,b24,⟨JR,i24,VO.kp⟩,Xv,b25,mo TJ,Xw,b26,mo Sw,Xx,b27,mo a27,Xy,OT,mo PK,VU,b29,⟨O5,i29,VU.kp⟩,VW,b30,⟨a30,i30,VW.kp⟩,F31,b31,mo OU,Xz,PL,mo a32,XA,b33,XC,b34,mo R3,XD,b35,mo PM,XE,b36,mo Sl,XF,b37,mo a37,XG,R4,mo TZ,XH,b39,mo Sm,XI,b40,mo Ur,XJ,b41,mo R5,XM,T8,mo a42,XO,b43,mo a43,XQ,Us,mo a44,XR,b45,mo Ua,XS,Ut,mo R9,XT,b47,mo a47,XU,b48,mo a48,XW,Ub,mo OY,XX,b50,mo Xh,⟨Dr,Ds,Dv,Dw⟩,mo Dp,⟨Dy,a7,i7,Dz⟩,bL,bF,bE,dU,cX,cY,dD,⟨Kc,Kd,Ke,Kf⟩,mo Ka,⟨Kg,a17,i17,Kh⟩,bA,⟨Fq,Ft,Fv,Fw⟩,mo Fp,⟨Fx,JN,Up,Fy⟩,gb,e9,dW,⟨DA,DB,DC,DE⟩,mo Dq,⟨DF,a33,i33,DG⟩,cZ,bf0,mo gY,⟨⟨_,_,_,_,_,_,_,_,_,_,_,_,_,_,gZ⟩,⟨_,_,_,_,_,g5,qQ⟩,g8⟩,mo kW,⟨⟨_,_,_,_,_,_,_,_,_,_,_,_,_,_,kX⟩,⟨_,_,_,_,_,kZ,wV⟩,k6⟩,mz Qa,mz MQ,mz Qc,mz AM,mz Qd,mz MR,mz z_ord,mz Kl,mz DH,mz Qe,mz Km,⟨_,mo MS⟩,MT,⟨_,mo lS⟩,lT,mo Ko,⟨_,_,_,Kq,rfl,rfl,(by show 2<=sizeLine;decide),(.cons ⟨_,rfl⟩ (.cons ⟨_,rfl⟩ .nil))⟩,mo wW,⟨_,_,_,wY,rfl,rfl,(by show 2<=sizeLine;decide),(.cons rfl (.cons rfl .nil))⟩,⟨_,_,_,qS,rfl,rfl,(by show 0<=sizeLine;decide),.nil⟩,⟨_,_,_,qU,rfl,rfl,(by show 0<=sizeLine;decide),.nil⟩⟩⟩
theorem walk{l:W.OpenLaw}{q:Program}{loose:List Str}{XP:(Str->Option Value)->Heap->Prop}{YP:World->Heap->Prop}{d:DefRec}{K:Params->W.Frag}(hn:l.most=some 63)(hdf:d.params.defaults=[])(hY:∀(w:World)(h:Heap),YP w h->(K w.params).In h)(F:∀(w:World)(mg:Str->Option Value)(fa:Addr)(h:Heap),(K w.params).In h->h.Ns mainGlobals mg->mg d.name=some (.ref fa)->∃fd:FuncData,(∀(s:Shared)(u:Value),BindsTo s fd ⟨[u],[]⟩ [("_law_script",u)])/\∀base:Heap,(K w.params).In base->base.Ns mainGlobals mg->bw l.prog w (K w.params) mg base fJ 14 fa fd ["_law_script"] (Aw (K w.params))):W.WalkO q loose XP YP l.row.toRowW d [] (λf vs=>PySem.call f vs) :=
 L2.IX (n:=63) (k:=14) (x:="_law_script") (CX:=λ_=>fJ) (sp:=λw=>Aw (K w.params)) hn (by decide) hdf ⟨rfl,by decide,by decide⟩ hY F (λ_ _ a ns hl _ hS=>⟨a,ns,rfl,hS,hl,λ_=>rfl⟩) λ_ _ _ _ _ z=>z
end My
def PySem.W.Fast.tw3935277797017060198:Unit:=()
def PySem.W.Fast.tw3489440645901910019:Unit:=()
def PySem.W.Fast.tw13261347973510569890:Unit:=()
def PySem.W.Fast.tw15504701838880705138:Unit:=()
def PySem.W.Fast.tw6001312103702191299:Unit:=()
def PySem.W.Fast.tw726871281287959849:Unit:=()
def PySem.W.Fast.tw8761835132740886656:Unit:=()
def PySem.W.Fast.tw11686748368125530274:Unit:=()
def PySem.W.Fast.tw2853376287710221524:Unit:=()
def PySem.W.Fast.tw891773225304579048:Unit:=()
def PySem.W.Fast.tw3108678188469590835:Unit:=()
def PySem.W.Fast.tw10317966042505532616:Unit:=()
def PySem.W.Fast.tw9132359982780679170:Unit:=()
def PySem.W.Fast.tw10308047790737568956:Unit:=()
def PySem.W.Fast.tw1300331808292637050:Unit:=()
def PySem.W.Fast.tw7275020340075255686:Unit:=()
def PySem.W.Fast.tw15916625692534676280:Unit:=()
def PySem.W.Fast.tw12664445049745638119:Unit:=()
def PySem.W.Fast.tw7296253459723519710:Unit:=()
def PySem.W.Fast.tw8191563748692642965:Unit:=()
def PySem.W.Fast.tw17799386277021942518:Unit:=()
def PySem.W.Fast.tw7671438701765928509:Unit:=()
def PySem.W.Fast.tw12920137672004404987:Unit:=()
def PySem.W.Fast.tw205762690279952715:Unit:=()
def PySem.W.Fast.tw15527548487783476591:Unit:=()
def PySem.W.Fast.tw12303834293196783514:Unit:=()
def PySem.W.Fast.tw17719302689001772398:Unit:=()
def PySem.W.Fast.tw7993028700494524677:Unit:=()
def PySem.W.Fast.tw2450671826004440900:Unit:=()
def PySem.W.Fast.tw17291561848358282745:Unit:=()
def PySem.W.Fast.tw7960443630737097240:Unit:=()
def PySem.W.Fast.tw16495757175571702396:Unit:=()
def PySem.W.Fast.tw14117197033926767692:Unit:=()
def PySem.W.Fast.tw7054815695742769483:Unit:=()
def PySem.W.Fast.tw3468764136614317837:Unit:=()
def PySem.W.Fast.tw11498769619979166433:Unit:=()
def PySem.W.Fast.tw13976652273102403846:Unit:=()
def PySem.W.Fast.tw16073475738852949029:Unit:=()
def PySem.W.Fast.tw10818564109762237953:Unit:=()
def PySem.W.Fast.tw3947557588116650389:Unit:=()
def PySem.W.Fast.tw7056322671214450750:Unit:=()
def PySem.W.Fast.tw11975276559903946109:Unit:=()
def PySem.W.Fast.tw16050651980236062225:Unit:=()
def PySem.W.Fast.tw1890774937177244886:Unit:=()
def PySem.W.Fast.tw1686469372975338449:Unit:=()
def PySem.W.Fast.tw12952270855340068847:Unit:=()
def PySem.W.Fast.tw18313006618132104795:Unit:=()
def PySem.W.Fast.tw15178438862066064422:Unit:=()
def PySem.W.Fast.tw11889522706775741179:Unit:=()
def PySem.W.Fast.tw1742723498259265254:Unit:=()
def PySem.W.Fast.tw11459994547846307153:Unit:=()
def PySem.W.Fast.tw14218718034490303688:Unit:=()
def PySem.W.Fast.tw1495390696744134697:Unit:=()
def PySem.W.Fast.tw7077950768660647498:Unit:=()
def PySem.W.Fast.tw11076104206457031493:Unit:=()
def PySem.W.Fast.tw16224353828283508610:Unit:=()
def PySem.W.Fast.tw12522861418986174016:Unit:=()
def PySem.W.Fast.tw12776430426474280025:Unit:=()
def PySem.W.Fast.tw2391464494389463613:Unit:=()
def PySem.W.Fast.tw16407263319211434711:Unit:=()
def PySem.W.Fast.tw12157071080176872220:Unit:=()
def PySem.W.Fast.tw11964549636997213294:Unit:=()
def PySem.W.Fast.tw7706647368657618888:Unit:=()
def PySem.W.Fast.tw4269692973372191753:Unit:=()
def PySem.W.Fast.tw14554800869044989517:Unit:=()
def PySem.W.Fast.tw12797838774058230879:Unit:=()
def PySem.W.Fast.tw14619915978516478603:Unit:=()
def PySem.W.Fast.tw11067579589328712446:Unit:=()
def PySem.W.Fast.tw4041735617291524343:Unit:=()
def PySem.W.Fast.tw5142648018162576396:Unit:=()
def PySem.W.Fast.tw17155681411462383727:Unit:=()
def PySem.W.Fast.tw14375943025554410013:Unit:=()
def PySem.W.Fast.tw15858057445623800517:Unit:=()
def PySem.W.Fast.tw3625808604492686738:Unit:=()
def PySem.W.Fast.tw6971675716587501833:Unit:=()
def PySem.W.Fast.tw16073113382718268845:Unit:=()
def PySem.W.Fast.tw17594188637951397496:Unit:=()
def PySem.W.Fast.tw17255728067017155096:Unit:=()
def PySem.W.Fast.tw12960525358802519505:Unit:=()
def PySem.W.Fast.tw10882066804731156562:Unit:=()
def PySem.W.Fast.tw15614606302861010718:Unit:=()
def PySem.W.Fast.tw14206545205584347362:Unit:=()
def PySem.W.Fast.tw2581562531157345082:Unit:=()
def PySem.W.Fast.tw17981685818532039662:Unit:=()
def PySem.W.Fast.tw8147054190131220741:Unit:=()
def PySem.W.Fast.tw6326960787436980902:Unit:=()
def PySem.W.Fast.tw1142363768348135803:Unit:=()
def PySem.W.Fast.tw17279227796825499429:Unit:=()
def PySem.W.Fast.tw10160224061405354863:Unit:=()
def PySem.W.Fast.tw15011125817807159085:Unit:=()
def PySem.W.Fast.tw7910658379874210416:Unit:=()
open PySem PySem.W PyProof.Rows
set_option maxRecDepth 100000 in
set_option maxHeartbeats 0 in
theorem PySem.Challenge.cw_dialecthall_k62_alike_ones_holds : PySem.Challenge.rw_dialecthall_k62_alike_ones.Holds := by
 w_on;o_law;k_head;(case hw=>w_witness2)
 k_fill
 refine My.walk (l:=PySem.Challenge.rw_dialecthall_k62_alike_ones) rfl rfl (fun w h Y=>W.kIn_of Y) ?F
 case F =>
  intro w mg fa h KX G hmg
  refine' My.all_mk KX G hmg ?_ ?_ ?_ ?_ ?gY ?kW ?_ ?_ ?_ ?_ ?_ ?_ ?_ ?_ ?_ ?_ ?_ ?_ ?_ ?_ ?_ ?_ ?_ ?_ ?_ ?_ ?_ ?_ ?_ ?_ ?_ ?_ ?_ ?_ ?_ ?_ ?_ ?_ ?_ ?_ ?_ ?_ ?_ ?_ ?_ ?_ ?_ ?_ ?_ ?_ ?_ ?_ ?_ ?_ ?_ ?_ ?_ ?_ ?_ ?_ ?_ ?_ ?_ ?_ ?_ ?_ ?_ ?_ ?_ ?_ ?_ ?_ ?_ ?_ ?_ ?_ ?_ ?_ ?_ ?_ ?_ ?_ ?_ ?_ ?_ ?_ ?_ ?_ ?_ ?_ ?_ ?_ ?_ ?_ ?_ ?_ ?_ ?_ ?_ ?_ ?_ ?_ ?_ ?_ ?_ ?gZ ?g5 ?_ ?g8 ?kX ?kZ ?_ ?k6 ?_ ?_ ?_ ?_ ?_ ?_ ?_ ?_ ?_ ?_ ?_ ?_ ?_ ?_ ?_ ?_ ?_ ?_ ?_ ?_ ?_
  (case gY=>k_is)
  (case kW=>k_is)
  (case gZ=>k_is)
  (case g5=>k_is)
  (case g8=>k_is)
  (case kX=>k_is)
  (case kZ=>k_is)
  (case k6=>k_is)
  all_goals try first | (refine' L2.FQ.of ?a ?l ?c ?k;(case a=>k_is);(case l=>k_is);(case c=>k_is);(case k=>k_is)) | (refine' L2.FV.of ?a ?i ?l ?c ?k;(case a=>k_is);(case i=>k_is);(case l=>k_is);(case c=>k_is);(case k=>k_is)) | (refine' L2.FE.of ?l ?c ?k;(case l=>k_is);(case c=>k_is);(case k=>k_is)) | k_is | rfl
