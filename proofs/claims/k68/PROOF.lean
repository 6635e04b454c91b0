import PyProof.Rows.All
import Wide.All
import OpenK.AllK
import Wide.FinOn
import Lean
import PyProof.EqAt
import PyProof.EqKinds
import PyProof.TupleCall
import PyProof.JoinWalk
import PyProof.DictIter
import PyProof.SeqI3
import PyProof.WalkInts
import PyProof.DictTruth
import PyProof.ListRange
import PyProof.DictWalks
import PyProof.DictRoadsH
import PyProof.NeKinds
import PySem.Challenge.RW_dialecthall_k68_whole_three
set_option Elab.async false
set_option linter.all false
set_option maxRecDepth 100000
theorem aah:type_of% @PySem.wpAny_bind:=@PySem.wpAny_bind
theorem aai:type_of% @if_neg:=@if_neg
theorem aaj:type_of% @if_pos:=@if_pos
theorem aak:type_of% @decide_eq_false:=@decide_eq_false
theorem aal:type_of% @PySem.wpAny_pure:=@PySem.wpAny_pure
theorem aam:type_of% @List.size_toArray:=@List.size_toArray
theorem aan:type_of% @Nat.le_refl:=@Nat.le_refl
theorem aao:type_of% @List.length_append:=@List.length_append
theorem aap:type_of% @Array.length_toList:=@Array.length_toList
theorem aaq:type_of% @Nat.le_trans:=@Nat.le_trans
theorem aar:type_of% @PySem.Heap.get?_push_of_some:=@PySem.Heap.get?_push_of_some
theorem aas:type_of% @decide_eq_true:=@decide_eq_true
theorem aat:type_of% @List.mem_singleton:=@List.mem_singleton
theorem aau:type_of% @List.getElem?_eq_some_iff:=@List.getElem?_eq_some_iff
theorem aav:type_of% @List.length_map:=@List.length_map
theorem aaw:type_of% @PySem.Heap.lt_size:=@PySem.Heap.lt_size
theorem aax:type_of% @Option.some.inj:=@Option.some.inj
theorem aay:type_of% @List.mem_cons_of_mem:=@List.mem_cons_of_mem
theorem aaz:type_of% @PySem.Heap.get?_push_size:=@PySem.Heap.get?_push_size
theorem aaA:type_of% @Bool.false_ne_true:=@Bool.false_ne_true
theorem aaB:type_of% @List.mem_cons:=@List.mem_cons
theorem aaC:type_of% @List.mem_append:=@List.mem_append
theorem aaD:type_of% @decide_eq_true_iff:=@decide_eq_true_iff
theorem aaE:type_of% @List.mem_cons_self:=@List.mem_cons_self
theorem aaF:type_of% @List.length_cons:=@List.length_cons
theorem aaG:type_of% @Nat.lt_of_lt_of_le:=@Nat.lt_of_lt_of_le
theorem aaH:type_of% @List.append_nil:=@List.append_nil
theorem aaI:type_of% @List.mem_append_right:=@List.mem_append_right
theorem aaJ:type_of% @List.take_of_length_le:=@List.take_of_length_le
theorem aaK:type_of% @Nat.lt_of_le_of_lt:=@Nat.lt_of_le_of_lt
theorem aaL:type_of% @Bool.eq_iff_iff:=@Bool.eq_iff_iff
theorem aaM:type_of% @Nat.zero_le:=@Nat.zero_le
theorem aaN:type_of% @List.append_assoc:=@List.append_assoc
theorem aaO:type_of% @List.flatMap_cons:=@List.flatMap_cons
theorem aaP:type_of% @Bool.false_eq_true:=@Bool.false_eq_true
theorem aaQ:type_of% @List.foldl_cons:=@List.foldl_cons
theorem aaR:type_of% @Nat.ne_of_lt:=@Nat.ne_of_lt
theorem aaS:type_of% @List.map_append:=@List.map_append
theorem aaT:type_of% @PySem.wpAny_newObj_type:=@PySem.wpAny_newObj_type
theorem aaU:type_of% @List.mem_filterMap:=@List.mem_filterMap
theorem aaV:type_of% @List.mem_append_left:=@List.mem_append_left
theorem aaW:type_of% @PySem.PassesOwn.never:=@PySem.PassesOwn.never
theorem aaX:type_of% @PySem.F.plainAttrs_list:=@PySem.F.plainAttrs_list
theorem aaY:type_of% @List.mem_map:=@List.mem_map
theorem aaZ:type_of% @List.mem_of_getElem?:=@List.mem_of_getElem?
theorem aa0:type_of% @Classical.byContradiction:=@Classical.byContradiction
theorem aa1:type_of% @PySem.wpAny_field:=@PySem.wpAny_field
theorem aa2:type_of% @Int.emod_lt_of_pos:=@Int.emod_lt_of_pos
theorem aa3:type_of% @PySem.wpAny_specialOf:=@PySem.wpAny_specialOf
theorem aa4:type_of% @PySem.wpAny_call_entry:=@PySem.wpAny_call_entry
theorem aa5:type_of% @of_decide_eq_true:=@of_decide_eq_true
theorem aa6:type_of% @List.length_take:=@List.length_take
theorem aa7:type_of% @List.all_eq_true:=@List.all_eq_true
theorem aa8:type_of% @PySem.mem_of_lookup:=@PySem.mem_of_lookup
theorem aa9:type_of% @PySem.F.slot_dict_keyiterator_next:=@PySem.F.slot_dict_keyiterator_next
theorem abb:type_of% @List.foldl_append:=@List.foldl_append
theorem abd:type_of% @PySem.Paired.length:=@PySem.Paired.length
theorem abe:type_of% @List.map_cons:=@List.map_cons
theorem abf:type_of% @List.length_singleton:=@List.length_singleton
theorem abg:type_of% @PySem.builtinLookup_eq_fast:=@PySem.builtinLookup_eq_fast
theorem abh:type_of% @PySem.F.slot_list_append:=@PySem.F.slot_list_append
theorem abi:type_of% @PySem.F.type_list_append:=@PySem.F.type_list_append
theorem abj:type_of% @List.length_nil:=@List.length_nil
theorem abk:type_of% @Int.emod_nonneg:=@Int.emod_nonneg
theorem abl:type_of% @PySem.wpAny_callSpecial?_slot:=@PySem.wpAny_callSpecial?_slot
theorem abm:type_of% @if_false:=@if_false
theorem abn:type_of% @Array.getElem?_eq_some_iff:=@Array.getElem?_eq_some_iff
theorem abo:type_of% @PySem.wpAny_truthy_bool:=@PySem.wpAny_truthy_bool
theorem abp:type_of% @PySem.StrLaws.found_one:=@PySem.StrLaws.found_one
theorem abq:type_of% @List.nodup_cons:=@List.nodup_cons
theorem abr:type_of% @List.length_replicate:=@List.length_replicate
theorem abt:type_of% @PySem.wpAny_mono:=@PySem.wpAny_mono
theorem abu:type_of% @PyProof.Rows.callWith_type1:=@PyProof.Rows.callWith_type1
theorem abv:type_of% @PySem.W.kia_one:=@PySem.W.kia_one
theorem abw:type_of% @List.filterMap_cons:=@List.filterMap_cons
theorem abx:type_of% @List.mem_flatMap:=@List.mem_flatMap
theorem aby:type_of% @PySem.Heap.get?_update_self:=@PySem.Heap.get?_update_self
theorem abz:type_of% @List.getElem?_eq_none:=@List.getElem?_eq_none
theorem abA:type_of% @PySem.wpAny_of_eq:=@PySem.wpAny_of_eq
theorem abB:type_of% @PySem.typeLookup_type:=@PySem.typeLookup_type
theorem abC:type_of% @List.find?_cons:=@List.find?_cons
theorem abD:type_of% @Ne.symm:=@Ne.symm
theorem abE:type_of% @Int.toNat_natCast:=@Int.toNat_natCast
theorem abF:type_of% @beq_eq_false_iff_ne:=@beq_eq_false_iff_ne
theorem abG:type_of% @Bool.and_eq_true:=@Bool.and_eq_true
theorem abH:type_of% @List.lookup_cons:=@List.lookup_cons
theorem abI:type_of% @PySem.wpAny_isInstance:=@PySem.wpAny_isInstance
theorem abJ:type_of% @PySem.isSubtype_type:=@PySem.isSubtype_type
theorem abK:type_of% @List.mem_nil_iff:=@List.mem_nil_iff
theorem abL:type_of% @PySem.wpAny_Call_Name_kw:=@PySem.wpAny_Call_Name_kw
theorem abM:type_of% @PySem.wpAny_setField_rec:=@PySem.wpAny_setField_rec
theorem abN:type_of% @PySem.Obj.data_mapFields:=@PySem.Obj.data_mapFields
theorem abO:type_of% @PySem.wpAny_passesOwn:=@PySem.wpAny_passesOwn
theorem abP:type_of% @Option.map_some:=@Option.map_some
theorem abQ:type_of% @PySem.wpAny_attempt:=@PySem.wpAny_attempt
theorem abR:type_of% @List.any_cons:=@List.any_cons
theorem abS:type_of% @List.getElem?_map:=@List.getElem?_map
theorem abT:type_of% @Nat.le_add_right:=@Nat.le_add_right
theorem abU:type_of% @List.flatMap_nil:=@List.flatMap_nil
theorem abV:type_of% @List.length_reverse:=@List.length_reverse
theorem abW:type_of% @List.nil_append:=@List.nil_append
theorem O{α:Sort _}{a:α}:a=a:=rfl
namespace L2
open PySem PySem.Spec PyProof.Rows
abbrev Key:=Sum Int Str
def vq:Key->Value->Bool
 | .inl k,v=>Value.isInt k v
 | .inr x,v=>Value.isStrOf x v
def R6(w:World):Key->Int
 | .inl k=>hashInt k
 | .inr x=>hashStr w x
theorem cj:∀{k:Key}{v:Value},vq k v=true->(∃i t,k=Sum.inl i/\v=Value.int i t)\/(∃x t,k=Sum.inr x/\v=Value.str x t)
 | .inl i,v,h=>by
  obtain⟨t,e⟩:=Value.isInt_shape (k:=i) (v:=v) h
  exact .inl ⟨i,t,rfl,e⟩
 | .inr x,v,h=>by
  obtain⟨t,e⟩:=Value.isStrOf_shape (x:=x) (v:=v) h
  exact .inr ⟨x,t,rfl,e⟩
theorem HE(i:Int)(t:Tok):vq (.inl i) (.int i t)=true:=by simp[vq,Value.isInt]
theorem HF(x:Str)(t:Tok):vq (.inr x) (.str x t)=true:=by simp[vq,Value.isStrOf]
theorem Jx(a b:Int):decide ((Sum.inl a:Key)=Sum.inl b)=(a==b):=by
 by_cases e:a=b
 ·subst e;simp
 ·have h:¬(Sum.inl a:Key)=Sum.inl b:=λq=>e (Sum.inl.inj q)
  rw[aak h]
  exact(abF.mpr e).symm
theorem Jy(a b:Str):decide ((Sum.inr a:Key)=Sum.inr b)=decide (a=b):=by
 by_cases e:a=b
 ·subst e;simp
 ·have h:¬(Sum.inr a:Key)=Sum.inr b:=λq=>e (Sum.inr.inj q)
  rw[aak h,aak e]
theorem Jz(a:Int)(b:Str):decide ((Sum.inl a:Key)=Sum.inr b)=false:=aak (λq=>nomatch q)
theorem JA(a:Str)(b:Int):decide ((Sum.inr a:Key)=Sum.inl b)=false:=aak (λq=>nomatch q)
def kU(prog:Program)(w:World):PySem.KeyKind prog w Key where
 is:=vq
 hash:=R6 w
 inj:=λv a b ha hb=>by
  rcases cj ha with ⟨i,t,rfl,rfl⟩|⟨x,t,rfl,rfl⟩
  ·rcases cj hb with ⟨j,u,rfl,e⟩|⟨y,u,rfl,e⟩
   ·injection e with e1 _;rw[e1]
   ·exact nomatch e
  ·rcases cj hb with ⟨j,u,rfl,e⟩|⟨y,u,rfl,e⟩
   ·exact nomatch e
   ·injection e with e1 _;rw[e1]
 byValue:=λk v h=>by
  rcases cj h with ⟨i,t,rfl,rfl⟩|⟨x,t,rfl,rfl⟩<;>rfl
 pyHash:=λhv h=>by
  rcases cj hv with ⟨i,t,rfl,rfl⟩|⟨x,t,rfl,rfl⟩
  ·exact wpAny_pyHash_int h
  ·exact wpAny_pyHash_str h
 eqBool:=λhu hv h=>by
  rcases cj hu with ⟨i,t,rfl,rfl⟩|⟨x,t,rfl,rfl⟩
  ·rcases cj hv with ⟨j,u,rfl,rfl⟩|⟨y,u,rfl,rfl⟩
   ·rw[Jx]at h;exact wpAny_eqBool_int h
   ·rw[Jz]at h;exact SeqAt.EqAt.int_str i t y u _ _ _ _ h
  ·rcases cj hv with ⟨j,u,rfl,rfl⟩|⟨y,u,rfl,rfl⟩
   ·rw[JA]at h;exact SeqAt.EqAt.str_int x t j u _ _ _ _ h
   ·rw[Jy]at h;exact wpAny_eqBool_str h
 «strs» := λk x t v h=>by
  rcases cj h with ⟨i,u,rfl,e⟩|⟨y,u,rfl,e⟩
  ·exact nomatch e
  ·injection e with e1 _
   subst e1
   cases v<;>rfl
theorem CY(prog:Program)(w:World)(i:Int)(t:Tok):(kU prog w).is (.inl i) (.int i t)=true:=HE i t
theorem CZ(prog:Program)(w:World)(x:Str)(t:Tok):(kU prog w).is (.inr x) (.str x t)=true:=HF x t
inductive V where
 |non|bl (b:Bool)|int (i:Int)|str (x:Str)|Jp (b:Array UInt8)|kj (b:UInt64)|ref (a:Addr)|ty (n:String)
 deriving DecidableEq
def RelV:V->Value->Prop
 | .non,u=>u=Value.none
 | .bl b,u=>u=Value.bool b
 | .int i,u=>∃t,u=Value.int i t
 | .str x,u=>∃t,u=Value.str x t
 | .Jp b,u=>∃t,u=Value.bytes b t
 | .kj b,u=>∃t,u=Value.float b t
 | .ref a,u=>u=Value.ref a
 | .ty n,u=>u=Value.type n
abbrev Vals:List V->List Value->Prop:=Paired RelV
theorem Vals.length{xs:List V}{us:List Value}(r:Vals xs us):xs.length=us.length:=abd r
theorem Vals.get:∀{xs:List V}{us:List Value}{i:Nat}{x:V},Vals xs us->xs[i]?=some x->∃u,us[i]?=some u/\RelV x u
 |_,_,_,_,.nil,e=>by simp at e
 |_,_,0,_,.cons r _,e=>by simp at e;subst e;exact⟨_,rfl,r⟩
 |_,_,i+1,x,.cons _ t,e=>by
  obtain⟨u,h1,h2⟩:=Vals.get (i:=i) (x:=x) t (by simpa using e)
  exact⟨u,by simpa using h1,h2⟩
theorem Vals.set{x:V}{u:Value}(r:RelV x u):∀{xs:List V}{us:List Value}(i:Nat),Vals xs us->Vals (xs.set i x) (us.set i u)
 |_,_,_,.nil=>.nil
 |_,_,0,.cons _ t=>.cons r t
 |_,_,i+1,.cons q t=>.cons q (Vals.set r i t)
theorem Vals.append:∀{xs ys:List V}{us ws:List Value},Vals xs us->Vals ys ws->Vals (xs++ys) (us++ws)
 |_,_,_,_,.nil,s=>s
 |_,_,_,_,.cons r t,s=>.cons r (Vals.append t s)
theorem Vals.take:∀{xs:List V}{us:List Value}(n:Nat),Vals xs us->Vals (xs.take n) (us.take n)
 |_,_,0,_=>.nil
 |_,_,_+1,.nil=>.nil
 |_,_,n+1,.cons r t=>.cons r (Vals.take n t)
theorem Vals.drop:∀{xs:List V}{us:List Value}(n:Nat),Vals xs us->Vals (xs.drop n) (us.drop n)
 |_,_,0,r=>r
 |_,_,_+1,.nil=>.nil
 |_,_,n+1,.cons _ t=>Vals.drop n t
def qR:Option V->Option Value->Prop
 |some v,some u=>RelV v u
 |none,none=>True
 |_,_=>False
def KV{κ:Type}:List (κ×V)->List (κ×Value)->Prop:=Paired λ(p:κ×V)(q:κ×Value)=>p.1=q.1/\RelV p.2 q.2
def kV:Key->V
 | .inl i=>.int i
 | .inr x=>.str x
inductive HO where
 |lst (xs:List V)
 |tup (xs:List V)
 |dK (kvs:List (Key×V))|dT (kvs:List (List Key×V))
 |set (S:Int->Bool) (n:Nat)
 |ins (C dx:Addr) (fs:List (Str×V))
 |own (x:Addr)
 |xd (fs:List (Str×V))
 |met (f x:Addr)
 |Ve (lo hi:Int)
 |EA (o:Obj) (u:HO)
 |Oz (ps:Array Value)
 |ext (φ:Heap->Prop)
abbrev Hp:=Addr->Option HO
def upd(H:Hp)(a:Addr)(o:HO):Hp:=λb=>if b=a then some o else H b
theorem ak{H:Hp}{a:Addr}{o:HO}:upd H a o a=some o:=by unfold upd;rw[aaj rfl]
theorem aH{H:Hp}{a b:Addr}{o:HO}(h:b≠a):upd H a o b=H b:=by unfold upd;rw[aai h]
theorem mE{H:Hp}{a b:Addr}{o u:HO}(h:H a=some o)(h':H b=some u)(d:o≠u):a≠b:=by
 intro e;subst e;rw[h]at h';exact d (aax h')
theorem aW{H:Hp}{a b:Addr}{o:HO}(h:H a=some o)(h':H b=none):a≠b:=by
 intro e;subst e;rw[h]at h';cases h'
section
variable(P:Program)(w:World)
def cU(H:Hp)(h:Heap)(a:Addr):HO->Prop
 | .lst xs=>xs.length<=sizeLine/\∃(its:List Value)(n:Nat),Vals xs its/\h.get? a=some {cls:=.type "list",data:=.seq its.toArray n}
 | .tup xs=>xs.length<=sizeLine/\∃its:List Value,Vals xs its/\IsTup h a its.toArray
 | .dK kvs=>kvs.length<=sizeLine/\(a==sysModules)=false/\∃vs,KV kvs vs/\h.DictOf (kU P w) a vs
 | .dT kvs=>kvs.length<=sizeLine/\(a==sysModules)=false/\∃xs:List (List Key×Addr×Value),Paired (λ(p:List Key×V)(q:List Key×Addr×Value)=>p.1=q.1/\H q.2.1=some (.tup (p.1.map kV))/\RelV p.2 q.2.2) kvs xs/\∃o es ep,h.get? a=some o/\o.ExactDict/\o.data=.dict es ep/\es.toList=xs.map (entryOfKey (tupleKind (kU P w)))/\(xs.map (·.1)).Nodup
 | .set S n=>h.SetOf (intKind P w) a S n
 | .ins C dx fs=>H dx=some (.own a)/\fs.length<=1000/\dx≠a/\h.get? a=some (W.instObj C dx)/\∃mA,h.Ns1 dx mA/\(∀f,qR (fs.lookup f) (mA f))/\PySem.Within mA (fs.map (·.1))
 | .own _=>∃o,h.get? a=some o
 | .xd fs=>∃mA,h.Ns1 a mA/\∀f,qR (fs.lookup f) (mA f)
 | .Ve lo hi=>∃t u v,h.get? a=some {cls:=.type "range",data:=.fields #[.int lo t,.int hi u,.int 1 v]}
 | .EA o u=>h.get? a=some o/\cU H h a u
 | .Oz ps=>h.get? a=some {cls:=.none,data:=.fields ps}
 | .met f x=>h.get? a=some (W.methodObj (.ref f) (.ref x))
 | .ext φ=>φ h/\(∃o,h.get? a=some o)/\∀h1 h2:Heap,φ h1->(∀o,h1.get? a=some o->h2.get? a=some o)->φ h2
def vt(H:Hp)(h:Heap):Prop:=∀a o,H a=some o->cU P w H h a o
end
section
variable{P:Program}{w:World}{H H':Hp}{h h':Heap}{a:Addr}{o:HO}
theorem cU.lt(x:cU P w H h a o):a<h.objs.size:=by
 cases o with
 |lst xs=>obtain⟨_,_,_,_,e⟩:=x;exact aaw e
 |tup xs=>obtain⟨_,_,_,p⟩:=x;exact p.lt
 |dK kvs=>obtain⟨_,_,_,_,o,_,_,e,_⟩:=x;exact aaw e
 |dT kvs=>obtain⟨_,_,_,_,o,_,_,e,_⟩:=x;exact aaw e
 |set S n=>obtain⟨o,_,_,_,e,_⟩:=x;exact aaw e
 |ins C dx fs=>obtain⟨_,_,_,e,_⟩:=x;exact aaw e
 |own y=>obtain⟨_,e⟩:=x;exact aaw e
 |xd fs=>obtain⟨_,⟨_,_,_,e,_⟩,_⟩:=x;exact aaw e
 |Ve lo hi=>obtain⟨_,_,_,e⟩:=x;exact aaw e
 |EA ob u=>obtain⟨e,_⟩:=x;exact aaw e
 |Oz ps=>exact aaw (show h.get? a=some _ from x)
 |met f y=>exact aaw (show h.get? a=some _ from x)
 |ext φ=>obtain⟨_,⟨_,e⟩,_⟩:=x;exact aaw e
theorem Paired.HG{α β:Type}{F G:α->β->Prop}:∀{l₁:List α}{l₂:List β},Paired F l₁ l₂->(∀a b,F a b->G a b)->Paired G l₁ l₂
 |_,_,.nil,_=>.nil
 |_,_,.cons r t,f=>.cons (f _ _ r) (Paired.HG t f)
theorem cU.stay(x:cU P w H h a o)(k:∀b u,(b=a\/H b=some (.own a))->h.get? b=some u->h'.get? b=some u)(ho:∀b,H b=some (.own a)->H' b=some (.own a))(ht:∀b xs,H b=some (.tup xs)->H' b=some (.tup xs)):cU P w H' h' a o:=by
 induction o with
 |lst xs=>obtain⟨z,its,n,r,e⟩:=x;exact⟨z,its,n,r,k _ _ (.inl rfl) e⟩
 |tup xs=>obtain⟨z,its,r,ob,e,c⟩:=x;exact⟨z,its,r,ob,k _ _ (.inl rfl) e,c⟩
 |dK kvs=>obtain⟨z,y,vs,r,ob,es,ep,e,c⟩:=x;exact⟨z,y,vs,r,ob,es,ep,k _ _ (.inl rfl) e,c⟩
 |dT kvs =>
  obtain⟨z,y,xs,r,ob,es,ep,e,c⟩:=x
  exact⟨z,y,xs,Paired.HG r λp q z=>⟨z.1,ht _ _ z.2.1,z.2.2⟩,ob,es,ep,k _ _ (.inl rfl) e,c⟩
 |set S n=>obtain⟨ob,es,ep,t,e,c⟩:=x;exact⟨ob,es,ep,t,k _ _ (.inl rfl) e,c⟩
 |ins C dx fs =>
  obtain⟨d,z,ne,e,mA,⟨od,es,ep,e2,c⟩,r⟩:=x
  exact⟨ho _ d,z,ne,k _ _ (.inl rfl) e,mA,⟨od,es,ep,k _ _ (.inr d) e2,c⟩,r⟩
 |own y=>obtain⟨ob,e⟩:=x;exact⟨ob,k _ _ (.inl rfl) e⟩
 |xd fs=>obtain⟨mA,⟨od,es,ep,e,c⟩,r⟩:=x;exact⟨mA,⟨od,es,ep,k _ _ (.inl rfl) e,c⟩,r⟩
 |Ve lo hi=>obtain⟨t,u,v,e⟩:=x;exact⟨t,u,v,k _ _ (.inl rfl) e⟩
 |EA ob u ih=>obtain⟨e,q⟩:=x;exact⟨k _ _ (.inl rfl) e,ih q⟩
 |Oz ps =>
  have e:h.get? a=some {cls:=.none,data:=.fields ps}:=x
  show h'.get? a=some {cls:=.none,data:=.fields ps}
  exact k a _ (.inl rfl) e
 |met f y =>
  have e:h.get? a=some (W.methodObj (.ref f) (.ref y)):=x
  show h'.get? a=some (W.methodObj (.ref f) (.ref y))
  exact k a _ (.inl rfl) e
 |ext φ=>obtain⟨p,⟨o,e⟩,st⟩:=x;exact⟨st _ _ p λo q=>k _ _ (.inl rfl) q,⟨o,k _ _ (.inl rfl) e⟩,st⟩
theorem vt.lt(x:vt P w H h)(e:H a=some o):a<h.objs.size:=(x a o e).lt
theorem vt.fresh(x:vt P w H h)(e:h.objs.size<=a):H a=none:=by
 cases q:H a with
 |none=>rfl
 |some u=>exact absurd (aaG (x.lt q) e) (Nat.lt_irrefl _)
theorem vt.kept(x:vt P w H h)(k:∀b u,h.get? b=some u->h'.get? b=some u):vt P w H h':=λa o e =>
 (x a o e).stay (λb u _ q=>k b u q) (λ_ q=>q) λ_ _ q=>q
theorem vt.laid(x:vt P w H h)(k:∀b u,h.get? b=some u->h'.get? b=some u)(hp:h.objs.size<=a)(new:cU P w (upd H a o) h' a o):vt P w (upd H a o) h':=λb u e=>by
 have hn:=x.fresh hp
 by_cases hb:b=a
 ·subst hb;rw[ak]at e;cases e;exact new
 ·rw[aH hb]at e
  exact(x b u e).stay (λc v _ q=>k c v q) (λc q=>by rw[aH (aW q hn)];exact q) λc xs q=>by rw[aH (aW q hn)];exact q
end
def Rd(H:Hp)(a:Addr)(u:HO):Prop:=H a=some u\/∃o,H a=some (.EA o u)
theorem Rd.of{H:Hp}{a:Addr}{u:HO}(h:H a=some u):Rd H a u:=.inl h
theorem Rd.ok{P:Program}{w:World}{H:Hp}{h:Heap}{a:Addr}{u:HO}(r:Rd H a u)(x:vt P w H h):cU P w H h a u:=by
 rcases r with r|⟨o,r⟩
 ·exact x a u r
 ·obtain⟨_,q⟩:=x a _ r
  exact q
def Vf:Option HO->Prop
 |some (.lst _)=>True
 |some (.dK _)=>True
 |some (.dT _)=>True
 |some (.set _ _)=>True
 |some (.ins _ _ _)=>True
 |some (.ext _)=>True
 |_=>False
section
variable{P:Program}{w:World}{H:Hp}{h h':Heap}{x e:Addr}{o':HO}
theorem vt.write(ok:vt P w H h)(mu:Vf (H x))(he:e=x\/H e=some (.own x))(k:∀b u,b≠e->h.get? b=some u->h'.get? b=some u)(RB:∃u,h'.get? e=some u)(new:cU P w (upd H x o') h' x o'):vt P w (upd H x o') h':=λb u q=>by
 have R7:∀c y,H c=some (.own y)->c≠x:=λc y r z=>by subst z;rw[r]at mu;exact mu
 have V1:∀c xs,H c=some (.tup xs)->c≠x:=λc xs r z=>by subst z;rw[r]at mu;exact mu
 by_cases hb:b=x
 ·subst hb;rw[ak]at q;cases q;exact new
 ·rw[aH hb]at q
  by_cases O8:b=e
  ·have q':H b=some (.own x):=by
    rcases he with z|z
    ·exact absurd (O8.trans z) hb
    ·rw[O8];exact z
   rw[q]at q';cases q'
   obtain⟨v,hv⟩:=RB
   exact⟨v,by rw[O8];exact hv⟩
  ·refine(ok b u q).stay (λc v hc r=>k c v ?_ r) (λc r=>by rw[aH (R7 c b r)];exact r) λc xs r=>by rw[aH (V1 c xs r)];exact r
   rcases hc with rfl|hc
   ·exact O8
   ·rintro rfl
    rcases he with z|z
    ·exact R7 c b hc z
    ·rw[hc]at z;cases z;exact hb rfl
end
structure Un(fs ex:List Addr)(H H':Hp)(h h':Heap):Prop where
 keep:∀b o,h.get? b=some o->H b=none->b∉fs->b∉ex->h'.get? b=some o
 slot:∀b o,h.get? b=some o->H b=none->b∈fs->b∉ex->∃sl,h'.get? b=some {o with slots:=sl}
 free:∀b o,h.get? b=some o->H b=none->b∉ex->H' b=none
 there:∀b o,h.get? b=some o->b∉ex->∃o',h'.get? b=some o'
 tups:∀b xs,H b=some (.tup xs)->H' b=some (.tup xs)
 vY:∀b o u,H b=some (.EA o u)->H' b=some (.EA o u)
 xU:∀b ps,H b=some (.Oz ps)->∃more,H' b=some (.Oz (ps++more))
section
variable{fs fs' ex ex':List Addr}{H H1 H2:Hp}{h h1 h2 h':Heap}{a x e:Addr}{o:HO}
theorem Un.any(u:Un fs ex H H1 h h1){b:Addr}{ob:Obj}(q:h.get? b=some ob)(n:H b=none)(hx:b∉ex):∃sl,h1.get? b=some {ob with slots:=sl}:=by
 by_cases hb:b∈fs
 ·exact u.slot b ob q n hb hx
 ·exact⟨ob.slots,u.keep b ob q n hb hx⟩
theorem Un.trans(a:Un fs ex H H1 h h1)(b:Un fs ex H1 H2 h1 h2):Un fs ex H H2 h h2 where
 keep:=λc ob q n hc hx=>b.keep c ob (a.keep c ob q n hc hx) (a.free c ob q n hx) hc hx
 slot:=λc ob q n hc hx=>by
  obtain⟨sl,e1⟩:=a.slot c ob q n hc hx
  obtain⟨V2,e2⟩:=b.slot c _ e1 (a.free c ob q n hx) hc hx
  exact⟨V2,e2⟩
 free:=λc ob q n hx=>by
  obtain⟨o',e1⟩:=a.there c ob q hx
  exact b.free c o' e1 (a.free c ob q n hx) hx
 there:=λc ob q hx=>by
  obtain⟨o',e1⟩:=a.there c ob q hx
  exact b.there c o' e1 hx
 tups:=λc xs q=>b.tups c xs (a.tups c xs q)
 vY:=λc ob xs q=>b.vY c ob xs (a.vY c ob xs q)
 xU:=λc ps q=>by
  obtain⟨m1,e1⟩:=a.xU c ps q
  obtain⟨m2,e2⟩:=b.xU c _ e1
  exact⟨m1++m2,by rw[e2,Array.append_assoc]⟩
theorem Un.kept(k:∀b u,h.get? b=some u->h'.get? b=some u):Un fs ex H H h h' :=
 ⟨λb ob q _ _ _=>k b ob q,λb ob q _ _ _=>⟨ob.slots,k b ob q⟩,λ_ _ _ n _=>n,λb ob q _=>⟨ob,k b ob q⟩,λ_ _ q=>q,λ_ _ _ q=>q,λ_ ps q=>⟨#[],by rw[q];simp⟩⟩
theorem Un.refl:Un fs ex H H h h:=Un.kept λ_ _ q=>q
theorem Un.laid(k:∀b u,h.get? b=some u->h'.get? b=some u)(hp:h.objs.size<=a)(hn:H a=none):Un fs ex H (upd H a o) h h' where
 keep:=λb u q _ _ _=>k b u q
 slot:=λb u q _ _ _=>⟨u.slots,k b u q⟩
 free:=λb u q n _=>by rw[aH (aaR (aaG (aaw q) hp))];exact n
 there:=λb u q _=>⟨u,k b u q⟩
 tups:=λb xs q=>by rw[aH (aW q hn)];exact q
 vY:=λb u xs q=>by rw[aH (aW q hn)];exact q
 xU:=λb ps q=>⟨#[],by rw[aH (aW q hn),q];simp⟩
theorem Un.write(mu:Vf (H x))(he:e=x\/H e=some (.own x))(k:∀b u,b≠e->h.get? b=some u->h'.get? b=some u)(RB:∃u,h'.get? e=some u):Un fs ex H (upd H x o) h h':=by
 have hx:∀b,H b=none->b≠x:=λb n z=>by subst z;rw[n]at mu;exact mu
 have hb:∀b,H b=none->b≠e:=λb n z=>by
  subst z
  rcases he with r|r
  ·exact hx b n r
  ·rw[n]at r;cases r
 have hm:∀b u,H b=some u->¬Vf (some u)->b≠x:=λb u q nm z=>by subst z;rw[q]at mu;exact nm mu
 refine⟨λb u q n _ _=>k b u (hb b n) q,λb u q n _ _=>⟨u.slots,k b u (hb b n) q⟩,λb u q n _=>by rw[aH (hx b n)];exact n,λb u q _=>?_,λb xs q=>by rw[aH (hm b _ q λz=>z)];exact q,λb u xs q=>by rw[aH (hm b _ q λz=>z)];exact q,λb ps q=>⟨#[],by rw[aH (hm b _ q λz=>z),q];simp⟩⟩
 by_cases O8:b=e
 ·subst O8;exact RB
 ·exact⟨u,k b u O8 q⟩
end
def Vg(h:Heap)(H:Hp):List Addr:=(List.range h.objs.size).filter λa=>(H a).isSome
def Bl(h:Heap)(H:Hp):Heap:=W.hideAll h (Vg h H)
theorem HH(h:Heap)(H:Hp):(Bl h H).objs.size=h.objs.size:=W.hideAll_size _ _
theorem JB{h:Heap}{H:Hp}{b:Addr}{o:Obj}(e:h.get? b=some o)(n:H b=none):(Bl h H).get? b=some o :=
 W.hideAll_get _ e λhm=>by
  have q:(H b).isSome=true:=(List.mem_filter.mp hm).2
  rw[n]at q;simp at q
theorem Mq{h:Heap}{H:Hp}{b:Addr}{o:Obj}(e:(Bl h H).get? b=some o):h.get? b=some o/\H b=none:=by
 have e':h.get? b=some o:=W.of_hideAll (Vg h H) e
 refine⟨e',?_⟩
 cases q:H b with
 |none=>rfl
 |some x =>
  have hm:b∈Vg h H:=List.mem_filter.mpr ⟨List.mem_range.mpr (aaw e'),by simp[q]⟩
  have z:(Bl h H).get? b=none:=W.hideAll_none (Vg h H) hm
  rw[z]at e;cases e
def Mr(g h:Heap)(L:Addr):List (Addr×Obj):=(List.range h.objs.size).filterMap λa=>if a=L\/(g.get? a).isSome=true then none else (h.get? a).map λo=>(a,o)
def rest(g h:Heap)(L d:Addr):List (Addr×Obj):=(Mr g h L).filter λp=>decide (p.1≠d)
structure Mod(K:W.Frag)(mg:Str->Option Value)(base:Heap):Prop where
 R8:K.In base
 glob:base.Ns mainGlobals mg
 blt:∃mb,base.Ns builtinsNs mb/\∀x:Str,x ≠ "__name__"->mb x=bootBuiltins x
 nolimit:base.NoLimit
structure Cx where
 prog:Program
 w:World
 K:W.Frag
 mg:Str->Option Value
 base:Heap
 A:Around
 N:List Str
 s₀:Shared
 H₀:Hp
 env:Env
 outer:List Env
 stack:List Env
 ex:List Addr
 fn:Str->Bool
 calm:Bool
 pn:List (Addr×Obj)
 xe:Value->Shared->Prop
def frs(l:List Env):List Addr:=l.filterMap (·.frame)
abbrev Cx.fs(X:Cx):List Addr:=frs X.outer
def V3(sc:Scope)(x:Str):Prop:=sc.names.lookup x=some .local\/sc.names.lookup x=some .cell\/sc.names.lookup x=some .free
def Loc(sc:Scope)(x:Str):Prop:=sc.names.lookup x=some .local\/sc.names.lookup x=some .cell
def Look(env:Env)(h:Heap)(m:Str->Option Value)(x:Str)(u:Value):Prop :=
 (env.kindOf x=some .local/\m x=some u)\/((env.kindOf x=some .cell\/env.kindOf x=some .free)/\∃c,env.cells.lookup x=some c/\h.IsCell c (some u))
structure Cx.Ok(X:Cx):Prop where
 mod:Mod X.K X.mg X.base
 kind:X.env.scope.kind=.function
 glob:X.env.globals=mainGlobals
 blt:X.env.builtins=builtinsNs
 above:X.s₀.heap.objs.size<=X.env.locals
 inj:∀x y c,X.env.cells.lookup x=some c->X.env.cells.lookup y=some c->x=y
 has:∀x,(X.env.kindOf x=some .cell\/X.env.kindOf x=some .free)->∃c,X.env.cells.lookup x=some c
 R9:∀x c,X.fn x=true->X.env.cells.lookup x=some c->X.s₀.heap.objs.size<=c
 hd:X.calm=true->X.A.handled=none
 frames:X.A.frames=some X.stack
 stk:X.stack=X.outer\/(X.stack=X.env::X.outer/\X.env.frame=some X.env.locals)
 ZA:∀b∈X.ex,b≠X.env.locals/\∀x c,X.env.cells.lookup x=some c->c≠b
 bs:∀b o,X.base.get? b=some o->X.s₀.heap.get? b=some o/\X.H₀ b=none
 Mg:X.base.objs.size<=X.s₀.heap.objs.size
 JC:∀b o,X.base.get? b=some o->b∉X.ex
 Ms:∀b∈X.ex,b∉X.fs
 vZ:X.s₀.heap.FunFrames X.base X.outer
 O9:∀b∈X.fs,X.H₀ b=none
structure Inv(X:Cx)(pins:List (Addr×Obj))(σ:List (Option V))(H:Hp)(s:Shared):Prop where
 ok:X.Ok
 os:s.os=X.s₀.os
 bare:AllBare s.gens
 base:Un X.fs X.ex X.H₀ H X.s₀.heap s.heap
 loc:∃m,s.heap.Ns X.env.locals m/\∀(i:Nat)(x:Str)(v:V),X.N[i]?=some x->σ[i]?=some (some v)->V3 X.env.scope x->∃u,RelV v u/\Look X.env s.heap m x u
 cell:∀x c,X.env.cells.lookup x=some c->∃v,s.heap.IsCell c v
 free:H X.env.locals=none
 pF:∀x c,X.env.cells.lookup x=some c->H c=none
 pin:∀p∈X.pn++pins,s.heap.get? p.1=some p.2/\H p.1=none/\p.1≠X.env.locals/\p.1∉X.fs/\∀v,p.2.data≠.cell v
 hok:vt X.prog X.w H s.heap
 len:σ.length=X.N.length
section
variable{X:Cx}{pins:List (Addr×Obj)}{σ:List (Option V)}{H H':Hp}{s:Shared}{h':Heap}
theorem Cx.Ok.V4(ok:X.Ok){b:Addr}{o:Obj}(e:X.base.get? b=some o):b∉X.fs:=λhb=>by
 have:=(ok.vZ.mem hb).1
 rw[e]at this;cases this
theorem Inv.bs(I:Inv X pins σ H s):∀b o,X.base.get? b=some o->s.heap.get? b=some o/\H b=none:=λb o e =>
 ⟨I.base.keep b o (I.ok.bs b o e).1 (I.ok.bs b o e).2 (I.ok.V4 e) (I.ok.JC b o e),I.base.free b o (I.ok.bs b o e).1 (I.ok.bs b o e).2 (I.ok.JC b o e)⟩
theorem Inv.bk(I:Inv X pins σ H s):∀b o,X.base.get? b=some o->s.heap.get? b=some o:=λb o e=>(I.bs b o e).1
theorem Inv.mod(I:Inv X pins σ H s):Mod X.K X.mg X.base:=I.ok.mod
theorem Inv.qS(I:Inv X pins σ H s):X.K.In s.heap:=I.ok.mod.R8.keeps I.bk
theorem Inv.fr(I:Inv X pins σ H s):∃m,Fr X.base X.env.locals s.heap m :=
 let ⟨m,hn,_⟩:=I.loc
 ⟨m,hn,I.bk,aaq I.ok.Mg I.ok.above⟩
theorem Inv.lt(I:Inv X pins σ H s):X.env.locals<s.heap.objs.size:=let ⟨_,hn,_⟩:=I.loc;hn.lt
theorem Inv.sz(I:Inv X pins σ H s):X.s₀.heap.objs.size<=s.heap.objs.size:=aaq I.ok.above (Nat.le_of_lt I.lt)
theorem Inv.V5(I:Inv X pins σ H s){a:Addr}(h:s.heap.objs.size<=a):a∉X.fs:=λhb=>by
 obtain⟨_,o,ho,_⟩:=I.ok.vZ.mem hb
 exact absurd (aaG (aaw ho) (aaq I.sz h)) (Nat.lt_irrefl _)
theorem Inv.Pa(I:Inv X pins σ H s):∀x c,X.env.cells.lookup x=some c->c≠X.env.locals:=λx c e z=>by
 obtain⟨v,o,ho,hd⟩:=I.cell x c e
 obtain⟨m,⟨o',es,ep,ho',hd',_⟩,_⟩:=I.loc
 rw[z,ho']at ho;cases ho;rw[hd']at hd;cases hd
theorem Inv.vZ(I:Inv X pins σ H s):s.heap.FunFrames X.base X.outer:=by
 have all:∀(l:List Env),(∀b∈frs l,b∈X.fs)->X.s₀.heap.FunFrames X.base l->s.heap.FunFrames X.base l:=by
  intro l
  induction l with
  |nil=>intro _ _;trivial
  |cons env r ih =>
   intro hs hl
   obtain⟨hk,⟨L,o,hf,hn,ho,hd⟩,hr⟩:=hl
   have hL:L∈X.fs:=hs L (by unfold frs;rw[abw,hf];exact aaE)
   obtain⟨sl,e⟩:=I.base.slot L o ho (I.ok.O9 L hL) hL λz=>I.ok.Ms L z hL
   exact⟨hk,⟨L,_,hf,hn,e,hd⟩,ih (λb hb=>hs b (by unfold frs;rw[abw,hf];exact aay _ hb)) hr⟩
 exact all X.outer (λ_ hb=>hb) I.ok.vZ
theorem Inv.stack(I:Inv X pins σ H s):s.heap.FunFrames X.base X.stack:=by
 rcases I.ok.stk with e|⟨e,hf⟩
 ·rw[e];exact I.vZ
 ·rw[e]
  obtain⟨m,hn,_⟩:=I.loc
  refine .cons (by rw[I.ok.kind];decide) hf hn ?_ I.vZ
  exact Heap.get?_none_of_le (aaq I.ok.Mg I.ok.above)
theorem Inv.Bm(I:Inv X pins σ H s):∀b∈frs X.stack,b∈X.env.locals::X.fs:=λb hb=>by
 rcases I.ok.stk with e|⟨e,hf⟩
 ·rw[e]at hb;exact aay _ hb
 ·rw[e]at hb
  unfold frs at hb
  rw[abw,hf]at hb
  exact hb
theorem Inv.GD(I:Inv X pins σ H s):∀b∈frs X.stack,H b=none:=λb hb=>by
 rcases aaB.mp (I.Bm b hb) with e|hb
 ·rw[e];exact I.free
 ·obtain⟨_,o,ho,_⟩:=I.ok.vZ.mem hb
  exact I.base.free b o ho (I.ok.O9 b hb) λz=>I.ok.Ms b z hb
theorem Inv.step{g':Array GenState}{t':Nat}{d':Drawn}{ch:List Addr}(I:Inv X pins σ H s)(hch:∀b∈ch,(b∈X.ex\/X.s₀.heap.objs.size<=b)/\b≠X.env.locals/\(∀x c,X.env.cells.lookup x=some c->c≠b)/\∀p∈X.pn++pins,p.1≠b)(keep:∀b o,b≠X.env.locals->b∉X.fs->b∉ch->s.heap.get? b=some o->H b=none->h'.get? b=some o)(slot:∀b o,b≠X.env.locals->b∈X.fs->b∉ch->s.heap.get? b=some o->H b=none->∃sl,h'.get? b=some {o with slots:=sl})(free:∀b o,b∉ch->s.heap.get? b=some o->H b=none->H' b=none)(there:∀b o,b∉ch->s.heap.get? b=some o->∃o',h'.get? b=some o')(tups:∀b xs,H b=some (.tup xs)->H' b=some (.tup xs))(vY:∀b o u,H b=some (.EA o u)->H' b=some (.EA o u))(xU:∀b ps,H b=some (.Oz ps)->∃more,H' b=some (.Oz (ps++more)))(ns:∀m,s.heap.Ns X.env.locals m->h'.Ns X.env.locals m)(hok:vt X.prog X.w H' h')(hg:AllBare g'):Inv X pins σ H' {s with heap:=h',gens:=g',drawn:=d',toks:=t'}:=by
 have ZC:∀b o,X.s₀.heap.get? b=some o->b≠X.env.locals:=λb o e=>aaR (aaG (aaw e) I.ok.above)
 have Vh:∀b o,X.s₀.heap.get? b=some o->b∉X.ex->b∉ch:=λb o e hx hb=>by
  rcases(hch b hb).1 with z|z
  ·exact hx z
  ·exact absurd (aaG (aaw e) z) (Nat.lt_irrefl _)
 have cellK:∀x c,X.env.cells.lookup x=some c->∀v,s.heap.IsCell c v->h'.IsCell c v:=λx c e v ⟨o,ho,hd⟩=>by
  have Sa:c∉ch:=λz=>(hch c z).2.2.1 x c e rfl
  by_cases hc:c∈X.fs
  ·obtain⟨sl,q⟩:=slot c o (I.Pa x c e) hc Sa ho (I.pF x c e)
   exact⟨_,q,hd⟩
  ·exact⟨o,keep c o (I.Pa x c e) hc Sa ho (I.pF x c e),hd⟩
 refine⟨I.ok,I.os,hg,⟨λb o e n hb hx=>?_,λb o e n hb hx=>?_,λb o e n hx=>?_,λb o e hx=>?_,λb xs e=>tups b xs (I.base.tups b xs e),λb o xs e=>vY b o xs (I.base.vY b o xs e),λb ps e=>?_⟩,?_,λx c e=>?_,?_,λx c e=>?_,λp hp=>?_,hok,I.len⟩
 ·exact keep b o (ZC b o e) hb (Vh b o e hx) (I.base.keep b o e n hb hx) (I.base.free b o e n hx)
 ·obtain⟨sl,e1⟩:=I.base.slot b o e n hb hx
  obtain⟨V2,e2⟩:=slot b _ (ZC b o e) hb (Vh b o e hx) e1 (I.base.free b o e n hx)
  exact⟨V2,e2⟩
 ·obtain⟨o',e1⟩:=I.base.there b o e hx
  exact free b o' (Vh b o e hx) e1 (I.base.free b o e n hx)
 ·obtain⟨o',e1⟩:=I.base.there b o e hx
  exact there b o' (Vh b o e hx) e1
 ·obtain⟨m1,e1⟩:=I.base.xU b ps e
  obtain⟨m2,e2⟩:=xU b _ e1
  exact⟨m1++m2,by rw[e2,Array.append_assoc]⟩
 ·obtain⟨m,hn,hl⟩:=I.loc
  refine⟨m,ns m hn,λi x v e1 e2 e3=>?_⟩
  obtain⟨u,r,l⟩:=hl i x v e1 e2 e3
  refine⟨u,r,?_⟩
  rcases l with l|⟨k,c,e,z⟩
  ·exact .inl l
  ·exact .inr ⟨k,c,e,cellK x c e _ z⟩
 ·obtain⟨v,z⟩:=I.cell x c e
  exact⟨v,cellK x c e v z⟩
 ·obtain⟨m,⟨o,_,_,ho,_⟩,_⟩:=I.loc
  exact free _ o (λz=>(hch _ z).2.1 rfl) ho I.free
 ·obtain⟨v,o,ho,hd⟩:=I.cell x c e
  exact free c o (λz=>(hch c z).2.2.1 x c e rfl) ho (I.pF x c e)
 ·obtain⟨e,n,ne,nf,d⟩:=I.pin p hp
  have Sa:p.1∉ch:=λz=>(hch p.1 z).2.2.2 p hp rfl
  exact⟨keep p.1 p.2 ne nf Sa e n,free p.1 p.2 Sa e n,ne,nf,d⟩
theorem Inv.un{t':Nat}(I:Inv X pins σ H s)(u:Un X.fs [] H H' s.heap h')(hok:vt X.prog X.w H' h'):Inv X pins σ H' {s with heap:=h',toks:=t'}:=by
 obtain⟨m,⟨o,es,ep,ho,r⟩,_⟩:=id I.loc
 obtain⟨sl,hL⟩:=u.any ho I.free (by simp)
 exact I.step (g':=s.gens) (d':=s.drawn) (ch:=[]) (λ_ z=>nomatch z) (λb o _ hb _ e n=>u.keep b o e n hb (by simp)) (λb o _ hb _ e n=>u.slot b o e n hb (by simp)) (λb o _ e n=>u.free b o e n (by simp)) (λb o _ e=>u.there b o e (by simp)) u.tups u.vY u.xU (λm' hm=>by
  obtain⟨o',es',Vi,ho',r'⟩:=hm
  rw[ho]at ho';cases ho'
  exact⟨_,es',Vi,hL,r'⟩) hok I.bare
theorem Inv.call{g':Array GenState}{t':Nat}{d':Drawn}{ch:List Addr}(I:Inv X pins σ H s)(u:Un (frs X.stack) ch H H' s.heap h')(hok:vt X.prog X.w H' h')(hg:AllBare g')(hch:∀b∈ch,(b∈X.ex\/X.s₀.heap.objs.size<=b)/\b≠X.env.locals/\(∀x c,X.env.cells.lookup x=some c->c≠b)/\∀p∈X.pn++pins,p.1≠b):Inv X pins σ H' {s with heap:=h',gens:=g',drawn:=d',toks:=t'}:=by
 obtain⟨m,⟨o,es,ep,ho,r⟩,_⟩:=id I.loc
 obtain⟨sl,hL⟩:=u.any ho I.free λz=>(hch _ z).2.1 rfl
 exact I.step (ch:=ch) hch (λb o hL hb hc e n=>u.keep b o e n (λz=>(aaB.mp (I.Bm b z)).elim hL hb) hc) (λb o _ _ hc e n=>u.any e n hc) (λb o hc e n=>u.free b o e n hc) (λb o hc e=>u.there b o e hc) u.tups u.vY u.xU (λm' hm=>by
  obtain⟨o',es',Vi,ho',r'⟩:=hm
  rw[ho]at ho';cases ho'
  exact⟨_,es',Vi,hL,r'⟩) hok hg
theorem Inv.turned{t':Nat}{it:Addr}(I:Inv X pins σ H s)(k:∀b o,b≠it->s.heap.get? b=some o->h'.get? b=some o)(hn:H it=none)(hL:it≠X.env.locals)(h1:it∈X.ex\/X.s₀.heap.objs.size<=it)(h2:∀x c,X.env.cells.lookup x=some c->c≠it)(h3:∀p∈X.pn++pins,p.1≠it):Inv X pins σ H {s with heap:=h',toks:=t'}:=by
 have Sb:∀b u,H b=some u->b≠it:=λb u e z=>by rw[z,hn]at e;cases e
 refine I.step (g':=s.gens) (d':=s.drawn) (ch:=[it]) (λb hb=>?_) (λb o _ _ hc e _=>k b o (λz=>hc (by simp[z])) e) (λb o _ _ hc e _=>⟨o.slots,k b o (λz=>hc (by simp[z])) e⟩) (λ_ _ _ _ n=>n)
  (λb o hc e=>⟨o,k b o (λz=>hc (by simp[z])) e⟩) (λ_ _ e=>e) (λ_ _ _ e=>e) (λb ps e=>⟨#[],by rw[e];simp⟩) (λm hm=>?_) (λb u e=>?_) I.bare
 ·have e:b=it:=by simpa using hb
  subst e
  exact⟨h1,hL,h2,h3⟩
 ·obtain⟨o,es,ep,ho,r⟩:=hm
  exact⟨o,es,ep,k _ o (abD hL) ho,r⟩
 ·refine(I.hok b u e).stay (λc v hc q=>k c v ?_ q) (λ_ q=>q) λ_ _ q=>q
  rcases hc with z|z
  ·rw[z];exact Sb b u e
  ·exact Sb c _ z
theorem Inv.tok(I:Inv X pins σ H s)(t:Nat):Inv X pins σ H {s with toks:=t}:=I.un (h':=s.heap) (t':=t) Un.refl I.hok
theorem Inv.kept{t':Nat}(I:Inv X pins σ H s)(k:∀b u,s.heap.get? b=some u->h'.get? b=some u):Inv X pins σ H {s with heap:=h',toks:=t'}:=I.un (Un.kept k) (I.hok.kept k)
theorem Inv.laid{a:Addr}{o:HO}{t':Nat}(I:Inv X pins σ H s)(k:∀b u,s.heap.get? b=some u->h'.get? b=some u)(hp:s.heap.objs.size<=a)(new:cU X.prog X.w (upd H a o) h' a o):Inv X pins σ (upd H a o) {s with heap:=h',toks:=t'}:=I.un (Un.laid k hp (I.hok.fresh hp)) (I.hok.laid k hp new)
theorem Inv.write{x e:Addr}{o:HO}{t':Nat}(I:Inv X pins σ H s)(mu:Vf (H x))(he:e=x\/H e=some (.own x))(k:∀b u,b≠e->s.heap.get? b=some u->h'.get? b=some u)(RB:∃u,h'.get? e=some u)(new:cU X.prog X.w (upd H x o) h' x o):Inv X pins σ (upd H x o) {s with heap:=h',toks:=t'}:=I.un (Un.write mu he k RB) (I.hok.write mu he k RB new)
theorem Inv.GF{OA:List (Addr×Obj)}(I:Inv X pins σ H s)(h:∀p∈OA,s.heap.get? p.1=some p.2/\H p.1=none/\p.1≠X.env.locals/\p.1∉X.fs/\∀v,p.2.data≠.cell v):Inv X OA σ H s :=
 ⟨I.ok,I.os,I.bare,I.base,I.loc,I.cell,I.free,I.pF,λp hp=>(aaC.mp hp).elim (λz=>I.pin p (aaV _ z)) (h p),I.hok,I.len⟩
theorem C0{N:List Str}(hN:N.Nodup){i j:Nat}{x:Str}(a:N[i]?=some x)(b:N[j]?=some x):i=j:=by
 obtain⟨h1,e1⟩:=aau.mp a
 obtain⟨h2,e2⟩:=aau.mp b
 exact(List.getElem_inj hN).mp (e1.trans e2.symm)
theorem Ai{M:Model}{A:Around}{E:Value->Shared->Prop}{i:Nat}{x:Str}{v:V}{u:Value}{Q:Unit->Shared->Prop}(I:Inv X pins σ H s)(hN:X.N.Nodup)(hi:X.N[i]?=some x)(hx:Loc X.env.scope x)(r:RelV v u)(h:∀s',Inv X pins (σ.set i (some v)) H s'->(∃a,Heap.SameBut a s.heap s'.heap/\(a=X.env.locals\/X.env.cells.lookup x=some a))->Q () s')(hf:X.fn x=true\/X.env.scope.names.lookup x=some .local:=by first|exact .inl rfl|exact .inr rfl|assumption):wpAny M A (storeName X.env x u) Q E s:=by
 obtain⟨m,hn,hl⟩:=id I.loc
 have hcls:(X.env.scope.kind==.class||(X.env.scope.kind==.module&&X.env.locals != X.env.globals))=false:=by rw[I.ok.kind];rfl
 have Sd:i<σ.length:=by rw[I.len];exact(aau.mp hi).1
 have Pa:=I.Pa
 have tracked:∀{a:Addr}{h':Heap},(∃o,s.heap.get? a=some o/\H a=none)->Heap.SameBut a s.heap h'->vt X.prog X.w H h':=λ{a h'} ha hs b ob e=>by
  obtain⟨_,_,hfree⟩:=ha
  refine(I.hok b ob e).stay (λc w' hc q=>(hs.2 c ?_).trans q) (λ_ q=>q) λ_ _ q=>q
  rintro rfl
  rcases hc with rfl|hc
  ·rw[hfree]at e;cases e
  ·rw[hfree]at hc;cases hc
 rcases hx with hk|hk
 ·refine wpAny_storeName_local hk hn (λh' hn' hs=>?_) hcls
  obtain⟨oL,_,_,hoL,_⟩:=id hn
  refine h _ ⟨I.ok,I.os,I.bare,⟨λb o e n hb hx=>?_,λb o e n hb hx=>?_,I.base.free,λb o e hx=>?_,I.base.tups,I.base.vY,I.base.xU⟩,⟨_,hn',λj y v' e1 e2 e3=>?_⟩,λy c e=>?_,I.free,I.pF,λp hp=>?_,tracked ⟨oL,hoL,I.free⟩ hs,by simpa using I.len⟩ ⟨_,hs,.inl rfl⟩
  ·exact(hs.2 b (aaR (aaG (aaw e) I.ok.above))).trans (I.base.keep b o e n hb hx)
  ·obtain⟨sl,e1⟩:=I.base.slot b o e n hb hx
   exact⟨sl,(hs.2 b (aaR (aaG (aaw e) I.ok.above))).trans e1⟩
  ·obtain⟨o',e1⟩:=I.base.there b o e hx
   exact⟨o',(hs.2 b (aaR (aaG (aaw e) I.ok.above))).trans e1⟩
  ·by_cases hj:j=i
   ·subst hj
    rw[hi]at e1;cases e1
    rw[List.getElem?_set_self Sd]at e2
    cases e2
    exact⟨u,r,.inl ⟨hk,by simp⟩⟩
   ·rw[List.getElem?_set_ne (abD hj)]at e2
    obtain⟨u',r',q⟩:=hl j y v' e1 e2 e3
    refine⟨u',r',?_⟩
    rcases q with ⟨k,e⟩|⟨k,c,e,z⟩
    ·refine .inl ⟨k,?_⟩
     have:y≠x:=λe=>hj (C0 hN e1 (e▸hi))
     simp[this,e]
    ·exact .inr ⟨k,c,e,z.sameBut hs (Pa y c e)⟩
  ·obtain⟨w',z⟩:=I.cell y c e
   exact⟨w',z.sameBut hs (Pa y c e)⟩
  ·obtain⟨e,n,ne,nf,d⟩:=I.pin p hp
   exact⟨(hs.2 p.1 ne).trans e,n,ne,nf,d⟩
 ·have hfn:X.fn x=true:=by
   rcases hf with z|z
   ·exact z
   ·rw[z]at hk;cases hk
  obtain⟨c,hc⟩:=I.ok.has x (.inl hk)
  obtain⟨w',z⟩:=I.cell x c hc
  refine wpAny_storeName_cell I.ok.kind hk hc z (λh' hc' hs=>?_)
  obtain⟨oc,hoc,V6⟩:=id z
  refine h {s with heap:=h'} ⟨I.ok,I.os,I.bare,⟨λb o e n hb hx=>?_,λb o e n hb hx=>?_,I.base.free,λb o e hx=>?_,I.base.tups,I.base.vY,I.base.xU⟩,⟨m,hn.sameBut hs (abD (Pa x c hc)),λj y v' e1 e2 e3=>?_⟩,λy c' e=>?_,I.free,I.pF,λp hp=>?_,tracked ⟨oc,hoc,I.pF x c hc⟩ hs,by simpa using I.len⟩ ⟨c,hs,.inr hc⟩
  ·exact(hs.2 b (aaR (aaG (aaw e) (I.ok.R9 x c hfn hc)))).trans (I.base.keep b o e n hb hx)
  ·obtain⟨sl,e1⟩:=I.base.slot b o e n hb hx
   exact⟨sl,(hs.2 b (aaR (aaG (aaw e) (I.ok.R9 x c hfn hc)))).trans e1⟩
  ·obtain⟨o',e1⟩:=I.base.there b o e hx
   exact⟨o',(hs.2 b (aaR (aaG (aaw e) (I.ok.R9 x c hfn hc)))).trans e1⟩
  ·by_cases hj:j=i
   ·subst hj
    rw[hi]at e1;cases e1
    rw[List.getElem?_set_self Sd]at e2
    cases e2
    exact⟨u,r,.inr ⟨.inl hk,c,hc,hc'⟩⟩
   ·rw[List.getElem?_set_ne (abD hj)]at e2
    obtain⟨u',r',q⟩:=hl j y v' e1 e2 e3
    refine⟨u',r',?_⟩
    rcases q with q|⟨k,c',e,z'⟩
    ·exact .inl q
    ·refine .inr ⟨k,c',e,z'.sameBut hs ?_⟩
     rintro rfl
     exact hj (C0 hN e1 (I.ok.inj _ _ _ e hc▸hi))
  ·by_cases hcc:c'=c
   ·subst hcc;exact⟨_,hc'⟩
   ·obtain⟨w2,z2⟩:=I.cell y c' e
    exact⟨w2,z2.sameBut hs hcc⟩
  ·obtain⟨e,n,ne,nf,d⟩:=I.pin p hp
   refine⟨(hs.2 p.1 ?_).trans e,n,ne,nf,d⟩
   intro q
   rw[q,hoc]at e
   have q':oc=p.2:=aax e
   exact d w' (by rw[←q'];exact V6)
theorem nu{M:Model}{A:Around}{E:Value->Shared->Prop}{i:Nat}{x:Str}{v:V}{u:Value}{Q:Unit->Shared->Prop}(I:Inv X pins σ H s)(hN:X.N.Nodup)(hi:X.N[i]?=some x)(hx:Loc X.env.scope x)(r:RelV v u)(h:∀s',Inv X pins (σ.set i (some v)) H s'->Q () s')(hf:X.fn x=true\/X.env.scope.names.lookup x=some .local:=by first|exact .inl rfl|exact .inr rfl|assumption):wpAny M A (storeName X.env x u) Q E s :=
 Ai I hN hi hx r (λs' I' _=>h s' I') hf
theorem Inv.Se{s':Shared}{ch:List Addr}(I:Inv X pins σ H s)(ho:s'.os=s.os)(u:Un (frs X.stack) ch H H' s.heap s'.heap)(hok:vt X.prog X.w H' s'.heap)(hg:AllBare s'.gens)(hch:∀b∈ch,(b∈X.ex\/X.s₀.heap.objs.size<=b)/\b≠X.env.locals/\(∀x c,X.env.cells.lookup x=some c->c≠b)/\∀p∈X.pn++pins,p.1≠b):Inv X pins σ H' s':=by
 obtain⟨h',g',d',t',o'⟩:=s'
 have e:o'=s.os:=ho
 subst e
 exact I.call (g':=g') (t':=t') (d':=d') u hok hg hch
end
abbrev XK:=Value->Option Addr->Hp->Prop
abbrev St:=List (Option V)
abbrev VK:=V->Hp->Prop
abbrev TE:=St->Hp->VK->Prop
abbrev TT:=St->Hp->(Bool->Hp->Prop)->Prop
abbrev TA:=St->Hp->(List V->Hp->Prop)->Prop
structure Ends where
 nx:St->Hp->Prop
 rt:VK
 bk:St->Hp->Prop:=λ_ _=>False
 ct:St->Hp->Prop:=λ_ _=>False
abbrev TS:=Ends->St->Hp->Prop
def EP(X:Cx)(pins:List (Addr×Obj))(σ:St)(Q:VK)(u:Value)(s':Shared):Prop:=∃v H',Inv X pins σ H' s'/\RelV v u/\Q v H'
def TP(X:Cx)(pins:List (Addr×Obj))(σ:St)(Q:Bool->Hp->Prop)(b:Bool)(s':Shared):Prop:=∃H',Inv X pins σ H' s'/\Q b H'
def AP(X:Cx)(pins:List (Addr×Obj))(σ:St)(Q:List V->Hp->Prop)(us:List Value)(s':Shared):Prop:=∃vs H',Inv X pins σ H' s'/\Vals vs us/\Q vs H'
def SP(X:Cx)(pins:List (Addr×Obj))(D:Ends)(f:Flow)(s':Shared):Prop :=
 match f with
 | .next=>∃σ' H',Inv X pins σ' H' s'/\D.nx σ' H'
 | .brk=>∃σ' H',Inv X pins σ' H' s'/\D.bk σ' H'
 | .cont=>∃σ' H',Inv X pins σ' H' s'/\D.ct σ' H'
 | .ret u=>∃v σ' H',Inv X pins σ' H' s'/\RelV v u/\D.rt v H'
def PE(X:Cx)(e:Expr)(t:TE):Prop :=
 ∀(pins:List (Addr×Obj))(s:Shared)(σ:St)(H:Hp)(Q:VK),Inv X pins σ H s->t σ H Q->wpAny (model X.prog X.w) X.A (eval e X.env) (EP X pins σ Q) X.xe s
def PT(X:Cx)(e:Expr)(t:TT):Prop :=
 ∀(pins:List (Addr×Obj))(s:Shared)(σ:St)(H:Hp)(Q:Bool->Hp->Prop),Inv X pins σ H s->t σ H Q->wpAny (model X.prog X.w) X.A (isTrue e X.env (eval e X.env)) (TP X pins σ Q) X.xe s
def PW(X:Cx)(e:Expr)(t:TT):Prop :=
 ∀(whole:Sem Value)(pins:List (Addr×Obj))(s:Shared)(σ:St)(H:Hp)(Q:Bool->Hp->Prop),Inv X pins σ H s->t σ H Q->wpAny (model X.prog X.w) X.A (isTrue e X.env whole) (TP X pins σ Q) X.xe s
theorem PW.pt{X:Cx}{e:Expr}{t:TT}(h:PW X e t):PT X e t:=h _
def PA(X:Cx)(es:List Expr)(t:TA):Prop :=
 ∀(pos:Pos)(pins:List (Addr×Obj))(s:Shared)(σ:St)(H:Hp)(Q:List V->Hp->Prop),Inv X pins σ H s->t σ H Q->wpAny (model X.prog X.w) X.A (spliced (backTo pos (starEach es X.env))) (AP X pins σ Q) X.xe s
def PS(X:Cx)(st:Stmt)(t:TS):Prop :=
 ∀(pins:List (Addr×Obj))(s:Shared)(σ:St)(H:Hp)(D:Ends),Inv X pins σ H s->t D σ H->wpAny (model X.prog X.w) X.A (exec st X.env) (SP X pins D) X.xe s
def GG(X:Cx)(st:List Stmt)(t:TS):Prop :=
 ∀(pins:List (Addr×Obj))(s:Shared)(σ:St)(H:Hp)(D:Ends),Inv X pins σ H s->t D σ H->wpAny (model X.prog X.w) X.A (execs st X.env) (SP X pins D) X.xe s
theorem cy{α:Type}{t:Sem α}{Q Q':α->Shared->Prop}{M:Model}{A:Around}{E:Value->Shared->Prop}{s:Shared}(h:wpAny M A t Q E s)(hQ:∀a s,Q a s->Q' a s):wpAny M A t Q' E s:=abt h hQ λ_ _ x=>x
section
variable{X:Cx}
def Sf(i:Nat):TE:=λσ H Q=>∃v,σ[i]?=some (some v)/\Q v H
def tC(v:V):TE:=λ_ H Q=>Q v H
theorem Pb{i:Nat}{x:Str}{pos:Pos}(hN:X.N[i]?=some x)(hv:V3 X.env.scope x)(hd:(x==("__debug__":Str))=false:=by decide)(hcd:(x==("__classdict__":Str))=false:=by decide):PE X (.Name x pos) (Sf i):=by
 intro pins s σ H Q I h
 obtain⟨v,e,h⟩:=h
 obtain⟨m,hn,hl⟩:=I.loc
 obtain⟨u,r,l⟩:=hl i x v hN e hv
 have fin:EP X pins σ Q u s:=⟨v,H,I,r,h⟩
 rcases l with ⟨hk,hm⟩|⟨hk,c,hc,hcell⟩
 ·exact wpAny_Name (wpAny_loadName_local I.ok.kind hk hn hm fin) hd
 ·rcases hk with hk|hk
  ·exact wpAny_Name (wpAny_loadName_cell I.ok.kind hk hc hcell fin) hd
  ·exact wpAny_Name (wpAny_loadName_free I.ok.kind hk hc hcell fin hcd) hd
theorem aj{i j pos}:PE X (.Constant (.int i) j pos) (tC (.int i)):=λ_ _ _ H _ I h=>wpAny_Constant_int ⟨.int i,H,I.tok _,⟨_,rfl⟩,h⟩
theorem fU{b j pos}:PE X (.Constant (.bool b) j pos) (tC (.bl b)):=λ_ _ _ H _ I h=>Constant_bool ⟨.bl b,H,I,rfl,h⟩
theorem bE{j pos}:PE X (.Constant .none j pos) (tC .non):=λ_ _ _ H _ I h=>Constant_none ⟨.non,H,I,rfl,h⟩
theorem az{x j pos}:PE X (.Constant (.str x) j pos) (tC (.str x)):=λ_ _ _ H _ I h=>Calls.Constant_str ⟨.str x,H,I.tok _,⟨_,rfl⟩,h⟩
def Gl(X:Cx)(x:Str):Prop:=X.env.kindOf x=some .globalImplicit
theorem Bo{E:Value->Shared->Prop}{pins:List (Addr×Obj)}{s:Shared}{σ:St}{H:Hp}{x:Str}{u:Value}{pos:Pos}{Q:Value->Shared->Prop}(I:Inv X pins σ H s)(hg:Gl X x)(hm:X.mg x=some u)(h:Q u s)(hd:(x==("__debug__":Str))=false:=by decide):wpAny (model X.prog X.w) X.A (eval (.Name x pos) X.env) Q E s :=
 Calls.Name_function_global I.ok.kind hg (Calls.loadGlobal_global (by rw[I.ok.glob];exact I.mod.glob.keeps I.bk) hm h) hd
theorem p7{E:Value->Shared->Prop}{pins:List (Addr×Obj)}{s:Shared}{σ:St}{H:Hp}{x:Str}{u:Value}{pos:Pos}{Q:Value->Shared->Prop}(I:Inv X pins σ H s)(hg:Gl X x)(hm:X.mg x=none)(hv:bootBuiltins x=some u)(h:Q u s)(hn:x ≠ "__name__":=by decide)(hd:(x==("__debug__":Str))=false:=by decide):wpAny (model X.prog X.w) X.A (eval (.Name x pos) X.env) Q E s:=by
 obtain⟨mb,h1,h2⟩:=I.mod.blt
 exact Calls.Name_function_global I.ok.kind hg (Calls.loadGlobal_builtin (by rw[I.ok.glob];exact I.mod.glob.keeps I.bk) hm (by rw[I.ok.blt];exact h1.keeps I.bk) ((h2 x hn).trans hv) h) hd
theorem Bp{x:Str}{v:V}{u:Value}{pos:Pos}(hg:Gl X x)(hm:X.mg x=some u)(r:RelV v u)(hd:(x==("__debug__":Str))=false:=by decide):PE X (.Name x pos) (tC v) :=
 λ_ _ _ H _ I h=>Bo I hg hm ⟨v,H,I,r,h⟩ hd
theorem Mt{x:Str}{v:V}{u:Value}{pos:Pos}(hg:Gl X x)(hm:X.mg x=none)(hv:bootBuiltins x=some u)(r:RelV v u)(hn:x ≠ "__name__":=by decide)(hd:(x==("__debug__":Str))=false:=by decide):PE X (.Name x pos) (tC v) :=
 λ_ _ _ H _ I h=>p7 I hg hm hv ⟨v,H,I,r,h⟩ hn hd
variable{a b:Expr}{ta tb:TE}{pos:Pos}
def PC(X:Cx)(op:CmpOp)(a b:Expr)(t:TE):Prop :=
 ∀(pins:List (Addr×Obj))(s:Shared)(σ:St)(H:Hp)(Q:VK),Inv X pins σ H s->t σ H Q->wpAny (model X.prog X.w) X.A (eval a X.env) (λv s₁=>wpAny (model X.prog X.w) X.A (eval b X.env) (λu s₂=>wpAny (model X.prog X.w) X.A (compareOp op v u) (EP X pins σ Q) X.xe s₂) X.xe s₁) X.xe s
theorem C1(b:Expr){op:CmpOp}(h:op≠.In)(h2:op≠.NotIn):behindInMarks op b=false:=by
 have e1:(op==CmpOp.In)=false:=by cases op<;>first|rfl|exact absurd rfl h
 have e2:(op==CmpOp.NotIn)=false:=by cases op<;>first|rfl|exact absurd rfl h2
 cases b<;>simp[behindInMarks,e1,e2]
def tB(t:TE):TT:=λσ H Q=>t σ H λx H1=>∃c,x=.bl c/\Q c H1
theorem JD{op:CmpOp}{t:TE}(h:PC X op a b t)(h1:behindInMarks op b=false:=by first|exact C1 _ (by decide) (by decide)|rfl):PE X (.Compare a [op] [b] pos) t:=λpins s σ H Q I hw=>wpAny_Compare1 (h pins s σ H Q I hw) h1
theorem Pc{op:CmpOp}{t:TE}(h:PC X op a b t)(h1:behindInMarks op b=false:=by first|exact C1 _ (by decide) (by decide)|rfl):PT X (.Compare a [op] [b] pos) (tB t):=by
 intro pins s σ H Q I hw
 refine wpAny_isTrue_Compare1 (cy (h pins s σ H _ I hw) λv s1 h1=>cy h1 λu s2 h2=>cy h2 λc s3 ⟨x,H1,I1,r1,q1⟩=>?_) h1
 obtain⟨d,rfl,q⟩:=q1
 cases r1
 exact abo ⟨H1,I1,q⟩
theorem bR{e:Expr}{t:TE}(h:PE X e t)(he:∀whole,isTrue e X.env whole=(do let v ←whole;standAt e.pos;holding [v] (truthy v)):=by intro _;rfl):PT X e (tB t):=by
 intro pins s σ H Q I hw
 refine isTrue_plain (cy (h pins s σ H _ I hw) λv s1 ⟨x,H1,I1,r1,q1⟩=>?_) (he _)
 obtain⟨d,rfl,q⟩:=q1
 cases r1
 exact abo ⟨H1,I1,q⟩
variable{tA Vj:TT}{rest:List Expr}
def V7(t u:TT):TT:=λσ H Q=>t σ H λc H1=>if c=true then u σ H1 Q else Q false H1
def tOr(t u:TT):TT:=λσ H Q=>t σ H λc H1=>if c=true then Q true H1 else u σ H1 Q
def V8(t:TT):TT:=λσ H Q=>t σ H λc H1=>Q (!c) H1
theorem eS(ha:PT X a tA):PW X (.BoolOp .And [a] pos) tA:=by
 intro wh pins s σ H Q I h
 refine isTrue_and (cy (ha pins s σ H Q I h) λc s1 e=>?_)
 cases c with
 |true=>exact isTrue_and_nil e
 |false=>exact e
theorem f7(ha:PT X a tA):PW X (.BoolOp .Or [a] pos) tA:=by
 intro wh pins s σ H Q I h
 refine isTrue_or (cy (ha pins s σ H Q I h) λc s1 e=>?_)
 cases c with
 |false=>exact isTrue_or_nil e
 |true=>exact e
theorem gK(ha:PT X a tA)(hb:PW X (.BoolOp .And (b::rest) pos) Vj):PW X (.BoolOp .And (a::b::rest) pos) (V7 tA Vj):=by
 intro wh pins s σ H Q I h
 refine isTrue_and (cy (ha pins s σ H _ I h) λc s1 ⟨H1,I1,q1⟩=>?_)
 cases c with
 |true=>exact hb wh pins s1 σ H1 Q I1 q1
 |false=>exact⟨H1,I1,q1⟩
theorem iM(ha:PT X a tA)(hb:PW X (.BoolOp .Or (b::rest) pos) Vj):PW X (.BoolOp .Or (a::b::rest) pos) (tOr tA Vj):=by
 intro wh pins s σ H Q I h
 refine isTrue_or (cy (ha pins s σ H _ I h) λc s1 ⟨H1,I1,q1⟩=>?_)
 cases c with
 |true=>exact⟨H1,I1,q1⟩
 |false=>exact hb wh pins s1 σ H1 Q I1 q1
theorem cJ(ha:PT X a tA):PT X (.UnaryOp .Not a pos) (V8 tA):=by
 intro pins s σ H Q I h
 exact isTrue_not (ha pins s σ H (λc H1=>Q (!c) H1) I h)
def Sh(ta tb:TE):TE:=λσ H Q=>ta σ H λx H1=>∃c,x=.bl c/\if c=true then tb σ H1 Q else Q (.bl false) H1
def V9(ta tb:TE):TE:=λσ H Q=>ta σ H λx H1=>∃c,x=.bl c/\if c=true then Q (.bl true) H1 else tb σ H1 Q
def Si(ta:TE):TE:=λσ H Q=>ta σ H λx H1=>∃c,x=.bl c/\Q (.bl (!c)) H1
theorem g9{op}{t:TE}(h:PE X a t):PE X (.BoolOp op [a] pos) t:=λpins s σ H Q I hw=>BoolOp_one (h pins s σ H Q I hw)
theorem ia(ha:PE X a ta)(hb:PE X (.BoolOp .And (b::rest) pos) tb):PE X (.BoolOp .And (a::b::rest) pos) (Sh ta tb):=by
 intro pins s σ H Q I h
 refine BoolOp_and (cy (ha pins s σ H _ I h) λv s1 ⟨x,H1,I1,r1,q1⟩=>?_)
 obtain⟨c,rfl,q1⟩:=q1
 cases r1
 refine abo ?_
 cases c with
 |true=>exact hb pins s1 σ H1 Q I1 q1
 |false=>exact⟨.bl false,H1,I1,rfl,q1⟩
theorem Sj(ha:PE X a ta)(hb:PE X (.BoolOp .Or (b::rest) pos) tb):PE X (.BoolOp .Or (a::b::rest) pos) (V9 ta tb):=by
 intro pins s σ H Q I h
 refine BoolOp_or (cy (ha pins s σ H _ I h) λv s1 ⟨x,H1,I1,r1,q1⟩=>?_)
 obtain⟨c,rfl,q1⟩:=q1
 cases r1
 refine abo ?_
 cases c with
 |false=>exact hb pins s1 σ H1 Q I1 q1
 |true=>exact⟨.bl true,H1,I1,rfl,q1⟩
theorem Pd(ha:PE X a ta):PE X (.UnaryOp .Not a pos) (Si ta):=by
 intro pins s σ H Q I h
 refine UnaryOp_ (cy (ha pins s σ H _ I h) λv s1 ⟨x,H1,I1,r1,q1⟩=>?_)
 obtain⟨c,rfl,q1⟩:=q1
 cases r1
 exact not_of (abo ⟨.bl (!c),H1,I1,rfl,q1⟩)
def tIf(t:TT)(ta tb:TE):TE:=λσ H Q=>t σ H λc H1=>if c=true then ta σ H1 Q else tb σ H1 Q
theorem kq{c:Expr}(hc:PT X c tA)(ha:PE X a ta)(hb:PE X b tb):PE X (.IfExp c a b pos) (tIf tA ta tb):=by
 intro pins s σ H Q I h
 refine wpAny_IfExp (cy (hc pins s σ H _ I h) λd s1 ⟨H1,I1,q1⟩=>?_)
 cases d with
 |true=>exact ha pins s1 σ H1 Q I1 q1
 |false=>exact hb pins s1 σ H1 Q I1 q1
end
def bK(K:W.Frag)(H:Hp)(a:Addr)(xs:List V):Prop :=
 Rd H a (.lst xs)\/
  ∃(o:Obj)(its:Array Value)(n:Nat),K.lookup a=some o/\o.cls=.type "list"/\o.dict=none/\o.data=.seq its n/\its.size<=sizeLine/\Vals xs its.toList
def aN(K:W.Frag)(H:Hp)(a:Addr)(xs:List V):Prop :=
 Rd H a (.tup xs)\/
  ∃(o:Obj)(its:Array Value)(n:Nat),K.lookup a=some o/\o.cls=.type "tuple"/\o.data=.seq its n/\its.size<=sizeLine/\Vals xs its.toList
def Wa:Value->Option V
 | .none=>some .non
 | .bool b=>some (.bl b)
 | .int i _=>some (.int i)
 | .str x _=>some (.str x)
 | .bytes b _=>some (.Jp b)
 | .float b _=>some (.kj b)
 | .ref a=>some (.ref a)
 | .type n=>some (.ty n)
 |_=>none
theorem RelV.abs{x:V}{u:Value}(r:RelV x u):Wa u=some x:=by
 cases x with
 |non=>cases r;rfl
 |bl _=>cases r;rfl
 |int _=>obtain⟨t,rfl⟩:=r;rfl
 |str _=>obtain⟨t,rfl⟩:=r;rfl
 |Jp _=>obtain⟨t,rfl⟩:=r;rfl
 |kj _=>obtain⟨t,rfl⟩:=r;rfl
 |ref _=>cases r;rfl
 |ty _=>cases r;rfl
theorem RelV.inj{x y:V}{u:Value}(r:RelV x u)(q:RelV y u):x=y:=aax (r.abs.symm.trans q.abs)
theorem Vals.inj:∀{xs ys:List V}{us:List Value},Vals xs us->Vals ys us->xs=ys
 |_,_,_,.nil,.nil=>rfl
 |_,_,_,.cons r t,.cons r' t'=>by rw[r.inj r',Vals.inj t t']
section
variable{X:Cx}{pins:List (Addr×Obj)}{σ:St}{H:Hp}{s:Shared}{a:Addr}{xs ys:List V}
theorem bK.of{K:W.Frag}(h:H a=some (.lst xs)):bK K H a xs:=.inl (.inl h)
theorem aN.of{K:W.Frag}(h:H a=some (.tup xs)):aN K H a xs:=.inl (.inl h)
theorem Inv.list(I:Inv X pins σ H s)(h:bK X.K H a xs):∃its:List Value,Vals xs its/\PlainL s.heap a its.toArray/\xs.length<=sizeLine:=by
 rcases h with h|⟨o,its,n,hk,hc,hd,hs,hz,r⟩
 ·obtain⟨z,its,n,r,e⟩:=h.ok I.hok
  exact⟨its,r,⟨_,n,e,O,O,O⟩,z⟩
 ·refine⟨its.toList,r,⟨o,n,I.qS a o hk,hc,hd,by simpa using hs⟩,?_⟩
  have e:=r.length
  simp only[aap]at e
  omega
theorem Inv.tuple(I:Inv X pins σ H s)(h:aN X.K H a xs):∃its:List Value,Vals xs its/\IsTup s.heap a its.toArray/\xs.length<=sizeLine:=by
 rcases h with h|⟨o,its,n,hk,hc,hs,hz,r⟩
 ·obtain⟨z,its,r,p⟩:=h.ok I.hok
  exact⟨its,r,p,z⟩
 ·refine⟨its.toList,r,⟨o,I.qS a o hk,hc,n,by simpa using hs⟩,?_⟩
  have e:=r.length
  simp only[aap]at e
  omega
theorem Inv.C2(I:Inv X pins σ H s)(h:bK X.K H a xs)(h':bK X.K H a ys):xs=ys:=by
 obtain⟨its,r,⟨o,n,e,_,_,d⟩,_⟩:=I.list h
 obtain⟨its',r',⟨o',n',e',_,_,d'⟩,_⟩:=I.list h'
 rw[e]at e';cases e'
 rw[d]at d'
 injection d' with d1 _
 have:its=its':=by simpa using congrArg Array.toList d1
 subst this
 exact r.inj r'
theorem Inv.Aj(I:Inv X pins σ H s)(h:aN X.K H a xs)(h':aN X.K H a ys):xs=ys:=by
 obtain⟨its,r,⟨o,e,_,n,d⟩,_⟩:=I.tuple h
 obtain⟨its',r',⟨o',e',_,n',d'⟩,_⟩:=I.tuple h'
 rw[e]at e';cases e'
 rw[d]at d'
 injection d' with d1 _
 have:its=its':=by simpa using congrArg Array.toList d1
 subst this
 exact r.inj r'
end
abbrev Cx.zm(X:Cx)(E:Value->Shared->Prop):Cx:={X with xe:=E}
abbrev Cx.RC(X:Cx):Cx:=X.zm λ_ _=>False
theorem Cx.Ok.zm{X:Cx}(ok:X.Ok)(E:Value->Shared->Prop):(X.zm E).Ok :=
 ⟨ok.mod,ok.kind,ok.glob,ok.blt,ok.above,ok.inj,ok.has,ok.R9,ok.hd,ok.frames,ok.stk,ok.ZA,ok.bs,ok.Mg,ok.JC,ok.Ms,ok.vZ,ok.O9⟩
theorem Cx.Ok.ny{X:Cx}{E:Value->Shared->Prop}(ok:(X.zm E).Ok):X.Ok :=
 ⟨ok.mod,ok.kind,ok.glob,ok.blt,ok.above,ok.inj,ok.has,ok.R9,ok.hd,ok.frames,ok.stk,ok.ZA,ok.bs,ok.Mg,ok.JC,ok.Ms,ok.vZ,ok.O9⟩
section
variable{X:Cx}{pins:List (Addr×Obj)}{σ:St}{H:Hp}{s:Shared}{E:Value->Shared->Prop}
theorem Inv.zm(I:Inv X pins σ H s)(E:Value->Shared->Prop):Inv (X.zm E) pins σ H s:=⟨I.ok.zm E,I.os,I.bare,I.base,I.loc,I.cell,I.free,I.pF,I.pin,I.hok,I.len⟩
theorem Inv.ny(I:Inv (X.zm E) pins σ H s):Inv X pins σ H s:=⟨I.ok.ny,I.os,I.bare,I.base,I.loc,I.cell,I.free,I.pF,I.pin,I.hok,I.len⟩
theorem SP.ny{D:Ends}{f:Flow}{s':Shared}(h:SP (X.zm E) pins D f s'):SP X pins D f s':=by
 cases f with
 |next=>obtain⟨σ',H',I,q⟩:=h;exact⟨σ',H',I.ny,q⟩
 |brk=>obtain⟨σ',H',I,q⟩:=h;exact⟨σ',H',I.ny,q⟩
 |cont=>obtain⟨σ',H',I,q⟩:=h;exact⟨σ',H',I.ny,q⟩
 |ret u=>obtain⟨v,σ',H',I,r,q⟩:=h;exact⟨v,σ',H',I.ny,r,q⟩
theorem GG.RC{st:List Stmt}{t:TS}(h:GG X.RC st t):GG X st t:=λpins s σ H D I hw =>
 abt (h pins s σ H D (I.zm _) hw) (λ_ _ q=>q.ny) λ_ _ z=>False.elim z
end
section
variable{X:Cx}{st:Stmt}{rest:List Stmt}{t u:TS}{e:Expr}{te:TE}{pos:Pos}
def OB:TS:=λD σ H=>D.nx σ H
def Mu(t u:TS):TS:=λD σ H=>t {D with nx:=u D} σ H
theorem aC:GG X [] OB:=λ_ _ σ H _ I h=>wpAny_execs_nil ⟨σ,H,I,h⟩
theorem ah(h1:PS X st t)(h2:GG X rest u):GG X (st::rest) (Mu t u):=by
 intro pins s σ H D I h
 refine wpAny_execs_cons (cy (h1 pins s σ H {D with nx:=u D} I h) λf s1 q=>?_)
 cases f with
 |next =>
  obtain⟨σ',H',I',q⟩:=q
  exact h2 pins s1 σ' H' D I' q
 |ret v=>exact q
 |brk=>exact q
 |cont=>exact q
theorem ao(h1:PS X st t):GG X [st] t:=by
 intro pins s σ H D I h
 refine wpAny_execs_cons (cy (h1 pins s σ H D I h) λf s1 q=>?_)
 cases f with
 |next=>exact wpAny_execs_nil q
 |ret v=>exact q
 |brk=>exact q
 |cont=>exact q
theorem Inv.quiet{pins:List (Addr×Obj)}{σ:St}{H:Hp}{s:Shared}(I:Inv X pins σ H s):interactive X.env=false:=by simp[interactive,I.ok.kind]
def Sk(te:TE):TS:=λD σ H=>te σ H λ_ H1=>D.nx σ H1
theorem iS(he:PE X e te)(hs:swapsWith e none pos.line X.env=pure false:=by rfl):PS X (.Expr e pos) (Sk te):=by
 intro pins s σ H D I h
 exact wpAny_Expr_any (cy (he pins s σ H _ I h) λv s1 ⟨x,H1,I1,r1,q1⟩=>⟨σ,H1,I1,q1⟩) I.quiet hs
def Wb(te:TE):TS:=λD σ H=>te σ H D.rt
theorem aB(he:PE X e te):PS X (.Return (some e) pos) (Wb te):=by
 intro pins s σ H D I h
 exact wpAny_Return_some (cy (he pins s σ H _ I h) λv s1 ⟨x,H1,I1,r1,q1⟩=>⟨x,σ,H1,I1,r1,q1⟩)
def tQ(c:TT)(t u:TS):TS:=λD σ H=>c σ H λb H1=>if b=true then t D σ H1 else u D σ H1
theorem aK{c:Expr}{a b:List Stmt}{tc:TT}(hc:PT X c tc)(ha:GG X a t)(hb:GG X b u):PS X (.If c a b pos) (tQ tc t u):=by
 intro pins s σ H D I h
 refine wpAny_If (cy (hc pins s σ H _ I h) λd s1 ⟨H1,I1,q1⟩=>?_)
 cases d with
 |true=>exact ha pins s1 σ H1 D I1 q1
 |false=>exact hb pins s1 σ H1 D I1 q1
def Pe:TS:=λ_ _ _=>False
theorem kr:PS X st Pe:=λ_ _ _ _ _ _ h=>h.elim
end
abbrev TG:=V->St->Hp->(St->Hp->Prop)->Prop
abbrev OC:=List V->St->Hp->(St->Hp->Prop)->Prop
def PG(X:Cx)(target:Expr)(t:TG):Prop :=
 ∀(pins:List (Addr×Obj))(s:Shared)(σ:St)(H:Hp)(v:V)(u:Value)(Q:St->Hp->Prop),Inv X pins σ H s->RelV v u->t v σ H Q->wpAny (model X.prog X.w) X.A (assign target X.env u) (λ_ s'=>∃σ' H',Inv X pins σ' H' s'/\Q σ' H') X.xe s
def Sl(X:Cx)(ts:List Expr)(t:OC):Prop :=
 ∀(pins:List (Addr×Obj))(s:Shared)(σ:St)(H:Hp)(vs:List V)(us:List Value)(Q:St->Hp->Prop),Inv X pins σ H s->Vals vs us->t vs σ H Q->wpAny (model X.prog X.w) X.A (assignInOrder ((assignEach ts X.env).map (·.2)) us) (λ_ s'=>∃σ' H',Inv X pins σ' H' s'/\Q σ' H') X.xe s
abbrev Pf:=V->V->V->Hp->(Hp->Prop)->Prop
def Sm(X:Cx)(t:Pf):Prop :=
 ∀(pins:List (Addr×Obj))(s:Shared)(σ:St)(H:Hp)(o i v:V)(ov iv u:Value)(Q:Hp->Prop),Inv X pins σ H s->RelV o ov->RelV i iv->RelV v u->t o i v H Q->wpAny (model X.prog X.w) X.A (setItem ov iv u) (λ_ s'=>∃H',Inv X pins σ H' s'/\Q H') X.xe s
section
variable{X:Cx}{pos:Pos}
def ck(i:Nat):TG:=λv σ H Q=>Q (σ.set i (some v)) H
theorem Mw{i:Nat}{x:Str}(hN:X.N.Nodup)(hi:X.N[i]?=some x)(hx:Loc X.env.scope x)(hf:X.fn x=true\/X.env.scope.names.lookup x=some .local:=by first|exact .inl rfl|exact .inr rfl|assumption):PG X (.Name x pos) (ck i):=by
 intro pins s σ H v u Q I r h
 exact wpAny_assign_Name (nu I hN hi hx r (λs' I'=>⟨_,H,I',h⟩) hf)
def Wc:OC:=λvs σ H Q=>vs=[]/\Q σ H
def Sn(t:TG)(u:OC):OC:=λvs σ H Q=>∃v r,vs=v::r/\t v σ H λσ' H'=>u r σ' H' Q
theorem oE:Sl X [] Wc:=by
 intro pins s σ H vs us Q I r h
 obtain⟨e,h⟩:=h
 subst e
 cases r
 exact assignInOrder_nil ⟨σ,H,I,h⟩
theorem bS{e:Expr}{es:List Expr}{t:TG}{u:OC}(h1:PG X e t)(h2:Sl X es u)(hs:(assignEach (e::es) X.env).map (·.2)=assign e X.env::(assignEach es X.env).map (·.2):=by rfl):Sl X (e::es) (Sn t u):=by
 intro pins s σ H vs us Q I r h
 obtain⟨v,vr,e1,h⟩:=h
 subst e1
 cases r with
 |cons r rr =>
  rw[hs]
  refine assignInOrder_cons (cy (h1 pins s σ H _ _ _ I r h) λ_ s1 ⟨σ1,H1,I1,q1⟩=>?_)
  exact h2 pins s1 σ1 H1 _ _ Q I1 rr q1
def So(K:W.Frag)(n:Nat)(t:OC):TG:=λv σ H Q=>∃a xs,v=.ref a/\aN K H a xs/\xs.length=n/\t xs σ H Q
theorem Pg{es:List Expr}{k:Nat}{t:OC}{n:Nat}(hc:X.calm=true)(h:Sl X es t)(hn:(assignEach es X.env).length=n:=by rfl)(hst:(assignEach es X.env).findIdx? (·.1)=none:=by rfl):PG X (.Tuple es k pos) (So X.K n t):=by
 intro pins s σ H v u Q I r hw
 obtain⟨a,xs,e1,hq,hl,hw⟩:=hw
 subst e1
 cases r
 obtain⟨its,rv,ht,hz⟩:=I.tuple hq
 refine assign_Tuple_tuple (I.ok.hd hc) ht (by simp[hn,←hl,rv.length]) hst λh' hx=>?_
 have I1:Inv X pins σ H {s with heap:=h'}:=I.kept (t':=s.toks) λb o e=>hx b o (aaR (aaw e)) e
 exact h pins _ σ H xs _ Q I1 (by simpa using rv) hw
def Wd(to ti:TE)(t:Pf):TG:=λv σ H Q=>to σ H λo H1=>ti σ H1 λi H2=>t o i v H2 λH3=>Q σ H3
theorem Ph{o i:Expr}{to ti:TE}{t:Pf}(ho:PE X o to)(hi:PE X i ti)(hs:Sm X t)(ha:∀v,assign (.Subscript o i pos) X.env v=(do
   let ov ←holding [v] (eval o X.env)
   let iv ←holding [v,ov] (eval i X.env)
   standAt pos
   holding [v,ov,iv] (setItem ov iv v)
   release [v,ov,iv] []):=by intro _;rfl):PG X (.Subscript o i pos) (Wd to ti t):=by
 intro pins s σ H v u Q I r h
 rw[ha]
 refine aah (wpAny_holding (cy (ho pins s σ H _ I h) λov s1 ⟨x,H1,I1,r1,q1⟩=>?_))
 refine aah (wpAny_holding (cy (hi pins s1 σ H1 _ I1 q1) λiv s2 ⟨y,H2,I2,r2,q2⟩=>?_))
 refine aah (wpAny_standAt (aah (wpAny_holding (cy (hs pins s2 σ H2 x y v ov iv u _ I2 r1 r2 r q2) λ_ s3 ⟨H3,I3,q3⟩=>?_))))
 exact wpAny_release ⟨σ,H3,I3,q3⟩
def Mx(te:TE)(g:TG):TS:=λD σ H=>te σ H λx H1=>g x σ H1 D.nx
theorem tR{tg e:Expr}{te:TE}{g:TG}(he:PE X e te)(hg:PG X tg g)(hs:swapsWithSole [tg] e pos.line X.env=pure false:=by rfl)(hw:swappedStores [tg] e X.env=pure none:=by rfl)(h1:(assignEach [tg] X.env).map (·.2)=[assign tg X.env]:=by rfl):PS X (.Assign [tg] e pos) (Mx te g):=by
 intro pins s σ H D I h
 refine wpAny_Assign_stores (cy (he pins s σ H _ I h) λv s1 ⟨x,H1,I1,r1,q1⟩=>?_) hs hw
 rw[h1]
 exact cy (hg pins s1 σ H1 x v _ I1 r1 q1) λ_ s2 q=>q
theorem Pj{i:Nat}{x:Str}{e:Expr}{te:TE}{pos':Pos}(hN:X.N.Nodup)(hi:X.N[i]?=some x)(hx:Loc X.env.scope x)(he:PE X e te)(hs:swapsWith e (some (.Name x pos')) pos.line X.env=pure false:=by rfl)(hf:X.fn x=true\/X.env.scope.names.lookup x=some .local:=by first|exact .inl rfl|exact .inr rfl|assumption):PS X (.Assign [.Name x pos'] e pos) (Mx te (ck i)):=by
 intro pins s σ H D I h
 refine wpAny_Assign_Name (cy (he pins s σ H _ I h) λv s1 ⟨y,H1,I1,r1,q1⟩=>?_) hs
 exact nu I1 hN hi hx r1 (λs2 I2=>⟨_,H1,I2,q1⟩) hf
end
section
variable{X:Cx}{pos:Pos}
def Pk(c:TT)(tb:TS):TS:=λD σ H=>∃W:Nat->St->Hp->Prop,(∃m,W m σ H)/\∀m σ H,W m σ H->c σ H λb H1=>if b=true then ∃N:St->Hp->Prop,(∀σ' H',N σ' H'->∃m',m'<m/\W m' σ' H')/\tb {D with nx:=N,ct:=N,bk:=D.nx} σ H1 else D.nx σ H1
theorem C3{c:Expr}{body:List Stmt}{tc:TT}{tb:TS}(hp:PassesOwn (model X.prog X.w) X.A X.env X.xe)(hc:PT X c tc)(hb:GG X body tb):PS X (.While c body [] pos) (Pk tc tb):=by
 intro pins s σ H D I h
 obtain⟨W,⟨m0,w0⟩,turn⟩:=h
 refine wpAny_While (codeAny_whileLoop (λn s'=>∃σ' H',Inv X pins σ' H' s'/\W n σ' H') ?_ m0 ⟨σ,H,I,w0⟩)
 rintro n s1 ⟨σ1,H1,I1,w1⟩
 refine abO hp (cy (hc pins s1 σ1 H1 _ I1 (turn n σ1 H1 w1)) λb s2 ⟨H2,I2,q2⟩=>?_)
 cases b with
 |true =>
  obtain⟨N,hN,q2⟩:=q2
  rw[aaj rfl]
  refine abO hp (cy (hb pins s2 σ1 H2 _ I2 q2) λf s3 q3=>?_)
  cases f with
  |next =>
   obtain⟨σ3,H3,I3,n3⟩:=q3
   obtain⟨m',hm,w3⟩:=hN σ3 H3 n3
   exact⟨m',hm,σ3,H3,I3,w3⟩
  |cont =>
   obtain⟨σ3,H3,I3,n3⟩:=q3
   obtain⟨m',hm,w3⟩:=hN σ3 H3 n3
   exact⟨m',hm,σ3,H3,I3,w3⟩
  |brk=>exact q3
  |ret v=>exact q3
 |false =>
  rw[aai aaA]
  exact wpAny_execs_nil ⟨σ1,H2,I2,q2⟩
end
structure It where
 go:Nat->Hp->Prop
 Mh:Nat->Hp->V->Hp->Prop
 stop:Nat->Hp->Prop
def qT(X:Cx)(pins:List (Addr×Obj))(H:Hp)(b:Addr):Prop :=
 H b=none/\b≠X.env.locals/\b∉X.fs/\(b∈X.ex\/X.s₀.heap.objs.size<=b)/\(∀x c,X.env.cells.lookup x=some c->c≠b)/\∀p∈X.pn++pins,p.1≠b
theorem Inv.zo{X:Cx}{pins:List (Addr×Obj)}{σ:St}{H H':Hp}{s:Shared}{b:Addr}(I:Inv X pins σ H s)(hb:s.heap.objs.size<=b)(hn:H' b=none):qT X pins H' b:=by
 refine⟨hn,Nat.ne_of_gt (aaG I.lt hb),I.V5 hb,.inr (aaq I.sz hb),λx c e z=>?_,λp hp z=>?_⟩
 ·obtain⟨v,q⟩:=I.cell x c e
  exact absurd (aaG q.lt (by rw[z];exact hb)) (Nat.lt_irrefl _)
 ·exact absurd (aaG (aaw (I.pin p hp).1) (by rw[z];exact hb)) (Nat.lt_irrefl _)
structure Turn(P:Program)(w:World)(K:W.Frag)(tg:Expr)(J:It)(fp:List Addr)(it:Addr)(tn:Nat->Heap->Prop):Prop where
 mem:it∈fp
 obj:∀i h,tn i h->∀b∈fp,∃o,h.get? b=some o/\∀v,o.data≠.cell v
 keep:∀i h h',tn i h->(∀b∈fp,∀o,h.get? b=some o->h'.get? b=some o)->tn i h'
 item:∀(X:Cx),X.prog=P->X.w=w->X.K=K->X.calm=true->∀(i:Nat)(pins:List (Addr×Obj))(s:Shared)(σ:St)(H:Hp)(E:Value->Shared->Prop),Inv X pins σ H s->(∀b∈fp,qT X pins H b)->tn i s.heap->J.go i H->wpAny (model P w) X.A (pyNext (.ref it)) (λr s1=>∃u,r=some u/\wpAny (model P w) X.A (letOwnedTupleGo tg (.ref it) u) (λ_ s2=>∃x H',Inv X pins σ H' s2/\RelV x u/\J.Mh i H x H'/\tn (i+1) s2.heap/\∀b∈fp,H' b=none) E s1) E s
 done:∀(X:Cx),X.prog=P->X.w=w->X.K=K->X.calm=true->∀(i:Nat)(pins:List (Addr×Obj))(s:Shared)(σ:St)(H:Hp)(E:Value->Shared->Prop),Inv X pins σ H s->(∀b∈fp,qT X pins H b)->tn i s.heap->J.stop i H->wpAny (model P w) X.A (pyNext (.ref it)) (λr s1=>r=none/\Inv X pins σ H s1) E s
 self:∀(A:Around)(i:Nat)(s:Shared)(Q:Value->Shared->Prop)(E:Value->Shared->Prop),tn i s.heap->Q (.ref it) s->wpAny (model P w) A (pyIter (.ref it)) Q E s
abbrev TI:=St->Hp->(It->Hp->Prop)->Prop
def ZD(X:Cx)(pins:List (Addr×Obj))(σ:St)(tg:Expr)(R:It->Hp->Prop)(itv:Value)(s2:Shared):Prop :=
 ∃(it:Addr)(fp:List Addr)(tn:Nat->Heap->Prop)(J:It)(H':Hp),itv=.ref it/\Inv X pins σ H' s2/\Turn X.prog X.w X.K tg J fp it tn/\tn 0 s2.heap/\(∀b∈fp,qT X pins H' b)/\R J H'
def PI(X:Cx)(tg iter:Expr)(wi:TI):Prop :=
 ∀(pins:List (Addr×Obj))(s:Shared)(σ:St)(H:Hp)(R:It->Hp->Prop),Inv X pins σ H s->wi σ H R->wpAny (model X.prog X.w) X.A (eval iter X.env) (λv s1=>wpAny (model X.prog X.w) X.A (pyIter v) (ZD X pins σ tg R) X.xe s1) X.xe s
theorem Ak{M:Model}{A:Around}{E:Value->Shared->Prop}{s:Shared}{tg:Expr}{it:Addr}{u:Value}{o:Obj}{n:String}{vs:Array Value}{Q:Unit->Shared->Prop}(ho:s.heap.get? it=some o)(hc:o.cls=.type n)(hd:o.data=.fields vs)(hn:["enumerate","zip","dict_itemiterator","dict_reverseitemiterator","odict_iterator","itertools.zip_longest","itertools.pairwise"].contains n=false)(hQ:Q () s):wpAny M A (letOwnedTupleGo tg (.ref it) u) Q E s:=by
 unfold letOwnedTupleGo
 cases tg<;>first
   |exact aal hQ
   | (cases u<;>first
       |exact aal hQ
       | (refine aah (wpAny_load ho ?_)
          rw[hc,hd]
          show wpAny M A (if (["enumerate","zip","dict_itemiterator","dict_reverseitemiterator","odict_iterator","itertools.zip_longest","itertools.pairwise"].contains n&&vs[0]?==some (rawInt _))=true then _ else _) Q E s
          rw[aai (by intro h;rw[hn,Bool.false_and]at h;cases h)]
          exact aal hQ))
def RD(K:W.Frag)(a:Addr):It :=
 ⟨λi H=>∃xs x,bK K H a xs/\xs[i]?=some x,λi H x H'=>H'=H/\∀xs,bK K H a xs->xs[i]?=some x,λi H=>∃xs,bK K H a xs/\xs.length<=i⟩
def RE(K:W.Frag)(a:Addr):It :=
 ⟨λi H=>∃xs x,aN K H a xs/\xs[i]?=some x,λi H x H'=>H'=H/\∀xs,aN K H a xs->xs[i]?=some x,λi H=>∃xs,aN K H a xs/\xs.length<=i⟩
def RG(lo:Int)(n:Nat):It:=⟨λi _=>i<n,λi H x H'=>H'=H/\x=.int (lo+i),λi _=>n<=i⟩
theorem HJ{P:Program}{w:World}{K:W.Frag}{tg:Expr}(a it:Addr):Turn P w K tg (RD K a) [it] it (λi h=>h.IsListIter it a i) where
 mem:=by simp
 obj:=λi h st b hb=>by
  have e:b=it:=by simpa using hb
  subst e
  obtain⟨o,e,c,d⟩:=st
  exact⟨o,e,λv z=>by rw[d]at z;cases z⟩
 keep:=λi h h' st k=>st.at λo e=>k it (by simp) o e
 item:=by
  intro X hP hw hK hc i pins s σ H E I hf st hg
  subst hP hw hK
  obtain⟨xs,x,hq,hx⟩:=hg
  obtain⟨its,rv,p,hz⟩:=I.list hq
  obtain⟨u,hu,ru⟩:=rv.get hx
  obtain⟨f0,f1,f2,f3,f4,f5⟩:=hf it (by simp)
  refine wpAny_pyNext_list_item st p.isList (x:=u) (by simpa using hu) λh' st' sb=>?_
  have I1:Inv X pins σ H {s with heap:=h'}:=I.turned (t':=s.toks) (λb o hb e=>(sb.2 b hb).trans e) f0 f1 f3 f4 f5
  obtain⟨o,e,c,d⟩:=id st'
  exact⟨u,rfl,Ak (s:={s with heap:=h'}) e c d (by decide) ⟨x,H,I1,ru,⟨rfl,λys hy=>by rw[I.C2 hy hq];exact hx⟩,st',λb hb=>(hf b hb).1⟩⟩
 done:=by
  intro X hP hw hK hc i pins s σ H E I hf st hg
  subst hP hw hK
  obtain⟨xs,hq,hx⟩:=hg
  obtain⟨its,rv,p,hz⟩:=I.list hq
  obtain⟨f0,f1,f2,f3,f4,f5⟩:=hf it (by simp)
  have hl:=rv.length
  exact wpAny_pyNext_list_end (I.ok.hd hc) st p.isList (by simp;omega) λh' eb=>⟨rfl,I.turned (t':=s.toks) (λb o hb e=>eb b o hb e) f0 f1 f3 f4 f5⟩
 self:=λ_ _ _ _ _ st h=>wpAny_pyIter_listiter st h
theorem EB{P:Program}{w:World}{K:W.Frag}{tg:Expr}(a it:Addr):Turn P w K tg (RE K a) [it] it (λi h=>h.IsTupleIter it a i) where
 mem:=by simp
 obj:=λi h st b hb=>by
  have e:b=it:=by simpa using hb
  subst e
  obtain⟨o,e,c,d⟩:=st
  exact⟨o,e,λv z=>by rw[d]at z;cases z⟩
 keep:=λi h h' st k=>st.at λo e=>k it (by simp) o e
 item:=by
  intro X hP hw hK hc i pins s σ H E I hf st hg
  subst hP hw hK
  obtain⟨xs,x,hq,hx⟩:=hg
  obtain⟨its,rv,p,hz⟩:=I.tuple hq
  obtain⟨u,hu,ru⟩:=rv.get hx
  obtain⟨f0,f1,f2,f3,f4,f5⟩:=hf it (by simp)
  refine wpAny_pyNext_tuple_item st (show s.heap.IsTuple a its.toArray from p) (x:=u) (by simpa using hu) λh' st' sb=>?_
  have I1:Inv X pins σ H {s with heap:=h'}:=I.turned (t':=s.toks) (λb o hb e=>(sb.2 b hb).trans e) f0 f1 f3 f4 f5
  obtain⟨o,e,c,d⟩:=id st'
  exact⟨u,rfl,Ak (s:={s with heap:=h'}) e c d (by decide) ⟨x,H,I1,ru,⟨rfl,λys hy=>by rw[I.Aj hy hq];exact hx⟩,st',λb hb=>(hf b hb).1⟩⟩
 done:=by
  intro X hP hw hK hc i pins s σ H E I hf st hg
  subst hP hw hK
  obtain⟨xs,hq,hx⟩:=hg
  obtain⟨its,rv,p,hz⟩:=I.tuple hq
  obtain⟨f0,f1,f2,f3,f4,f5⟩:=hf it (by simp)
  have hl:=rv.length
  exact wpAny_pyNext_tuple_end (I.ok.hd hc) st (show s.heap.IsTuple a its.toArray from p) (by simp;omega) λh' eb=>⟨rfl,I.turned (t':=s.toks) (λb o hb e=>eb b o hb e) f0 f1 f3 f4 f5⟩
 self:=λ_ _ _ _ _ st h=>wpAny_pyIter_tupleiter st h
theorem EC{P:Program}{w:World}{K:W.Frag}{tg:Expr}(it:Addr)(lo:Int)(n:Nat):Turn P w K tg (RG lo n) [it] it (λi h=>IsRangeIter h it (lo+(i:Nat)*1) ((n:Int)-(i:Nat)) 1) where
 mem:=by simp
 obj:=λi h st b hb=>by
  have e:b=it:=by simpa using hb
  subst e
  exact⟨_,st,λv z=>by
   have z':Data.fields _=Data.cell v:=z
   cases z'⟩
 keep:=λi h h' st k=>k it (by simp) _ st
 item:=by
  intro X hP hw hK hc i pins s σ H E I hf st hg
  subst hP hw hK
  obtain⟨f0,f1,f2,f3,f4,f5⟩:=hf it (by simp)
  have W:=Walks.range (prog:=X.prog) (w:=X.w) (I.ok.hd hc) it lo 1 n
  refine W.item i s _ _ hg st λv h' tk hv st' kk=>?_
  obtain⟨t,rfl⟩:=hv
  have I1:Inv X pins σ H {s with heap:=h',toks:=tk}:=I.turned (λb o hb e=>kk b o (by simpa using hb) e) f0 f1 f3 f4 f5
  refine⟨_,rfl,Ak (s:={s with heap:=h',toks:=tk}) (n:="range_iterator") st' rfl rfl (by decide) ⟨.int (lo+i),H,I1,⟨t,?_⟩,⟨rfl,rfl⟩,st',λb hb=>(hf b hb).1⟩⟩
  rw[Int.mul_one]
 done:=by
  intro X hP hw hK hc i pins s σ H E I hf st hg
  subst hP hw hK
  obtain⟨f0,f1,f2,f3,f4,f5⟩:=hf it (by simp)
  exact wpAny_pyNext_range_end (I.ok.hd hc) st (by have:n<=i:=hg;omega) λh' eb=>⟨rfl,I.turned (t':=s.toks) (λb o hb e=>eb b o hb e) f0 f1 f3 f4 f5⟩
 self:=λ_ _ _ _ _ st h=>wpAny_pyIter_rangeiter st h
section
variable{X:Cx}{tg:Expr}
def OD(K:W.Frag)(tl:TE):TI:=λσ H R=>tl σ H λx H1=>∃a,x=.ref a/\(∃xs,bK K H1 a xs)/\R (RD K a) H1
def Sq(K:W.Frag)(tl:TE):TI:=λσ H R=>tl σ H λx H1=>∃a,x=.ref a/\(∃xs,aN K H1 a xs)/\R (RE K a) H1
theorem Mz{l:Expr}{tl:TE}(hl:PE X l tl):PI X tg l (OD X.K tl):=by
 intro pins s σ H R I h
 refine cy (hl pins s σ H _ I h) λv s1 ⟨x,H1,I1,r1,q1⟩=>?_
 obtain⟨a,e,⟨xs,hq⟩,q⟩:=q1
 subst e
 cases r1
 obtain⟨its,rv,p,hz⟩:=I1.list hq
 refine wpAny_pyIter_list p.isList ?_
 refine⟨s1.heap.objs.size,[s1.heap.objs.size],_,_,H1,rfl,I1.kept (t':=s1.toks) λb o e=>aar _ e,HJ a _,⟨_,aaz _ rfl,rfl,rfl⟩,λb hb=>?_,q⟩
 have e:b=s1.heap.objs.size:=by simpa using hb
 subst e
 exact I1.zo (aan _) (I1.hok.fresh (aan _))
theorem Po{l:Expr}{tl:TE}(hl:PE X l tl):PI X tg l (Sq X.K tl):=by
 intro pins s σ H R I h
 refine cy (hl pins s σ H _ I h) λv s1 ⟨x,H1,I1,r1,q1⟩=>?_
 obtain⟨a,e,⟨xs,hq⟩,q⟩:=q1
 subst e
 cases r1
 obtain⟨its,rv,p,hz⟩:=I1.tuple hq
 refine wpAny_pyIter_tuple (show s1.heap.IsTuple a its.toArray from p) ?_
 refine⟨s1.heap.objs.size,[s1.heap.objs.size],_,_,H1,rfl,I1.kept (t':=s1.toks) λb o e=>aar _ e,EB a _,⟨_,aaz _ rfl,rfl,rfl⟩,λb hb=>?_,q⟩
 have e:b=s1.heap.objs.size:=by simpa using hb
 subst e
 exact I1.zo (aan _) (I1.hok.fresh (aan _))
theorem JE{pins:List (Addr×Obj)}{σ:St}{H:Hp}{s:Shared}{R:It->Hp->Prop}{E:Value->Shared->Prop}{lo hi:Int}{t u v:Tok}{tk:Nat}(I:Inv X pins σ H s)(h1 : -(2 ^ 62)<=lo)(h2:lo<2 ^ 62)(h3 : -(2 ^ 62)<=hi)(h4:hi<2 ^ 62)(q:R (RG lo (hi-lo).toNat) H):wpAny (model X.prog X.w) X.A (pyIter (.ref s.heap.objs.size)) (ZD X pins σ tg R) E {s with heap:=s.heap.push {cls:=.type "range",data:=.fields #[.int lo t,.int hi u,.int 1 v]},toks:=tk}:=by
 refine wpAny_pyIter_range (IsRange.new ..) (small_one h1 h2 h3 h4) ?_
 have I1:Inv X pins σ H {s with heap:=s.heap.push {cls:=.type "range",data:=.fields #[.int lo t,.int hi u,.int 1 v]},toks:=tk}:=I.kept λb o e=>aar _ e
 refine⟨(s.heap.push {cls:=.type "range",data:=.fields #[.int lo t,.int hi u,.int 1 v]}).objs.size,[(s.heap.push {cls:=.type "range",data:=.fields #[.int lo t,.int hi u,.int 1 v]}).objs.size],_,_,H,rfl,I1.kept (t':=tk) λb o e=>aar _ e,EC _ lo (hi-lo).toNat,?_,λb hb=>?_,q⟩
 ·have e1:lo+((0:Nat):Int)*1=lo:=by simp
  have e2:(((hi-lo).toNat:Nat):Int)-((0:Nat):Int)=Builtin.Range.rangeSize lo hi 1:=by rw[rangeSize_one];split<;>omega
  show IsRangeIter _ _ (lo+((0:Nat):Int)*1) ((((hi-lo).toNat:Nat):Int)-((0:Nat):Int)) 1
  rw[e1,e2]
  exact aaz _ rfl
 ·have e:b=(s.heap.push {cls:=.type "range",data:=.fields #[.int lo t,.int hi u,.int 1 v]}).objs.size:=by simpa using hb
  subst e
  exact I1.zo (aan _) (I1.hok.fresh (aan _))
def Ss(ta:TA):TI:=λσ H R=>ta σ H λvs H1=>∃j:Int,vs=[.int j]/\-(2 ^ 62)<=j/\j<2 ^ 62/\R (RG 0 j.toNat) H1
theorem HK{a:Expr}{ta:TA}{p pos:Pos}(hg:Gl X "range")(hm:X.mg "range"=none)(ha:PA X [a] ta)(hs:starEach [a] X.env=[(false,eval a X.env)]:=by rfl):PI X tg (.Call (.Name "range" p) [a] [] pos) (Ss ta):=by
 intro pins s σ H R I h
 refine Call_ (p7 I hg hm boot_range (abu (cy (ha pos pins s σ H _ I h) λus s1 ⟨vs,H1,I1,r1,q1⟩=>?_) hs rfl))
 obtain⟨j,e,q1,q2,q⟩:=q1
 subst e
 cases r1 with
 |cons r rr =>
  cases rr
  obtain⟨t,rfl⟩:=r
  exact call_range_1 (JE I1 (by omega) (by omega) q1 q2 (by simpa using q))
def We(wi:TI)(g:TG)(tb:TS):TS:=λD σ H=>wi σ H λJ H1=>∃W:Nat->Nat->St->Hp->Prop,(∃m,W 0 m σ H1)/\∀i m σ H,W i m σ H->(J.stop i H/\D.nx σ H)\/(J.go i H/\∃N:St->Hp->Prop,(∀σ' H',N σ' H'->∃m',m'<m/\W (i+1) m' σ' H')/\∀x H',J.Mh i H x H'->g x σ H' λσ2 H2=>tb {D with nx:=N,ct:=N,bk:=D.nx} σ2 H2)
def xV(fp:List Addr)(h:Heap):List (Addr×Obj):=fp.filterMap λb=>(h.get? b).map λo=>(b,o)
theorem kW{fp:List Addr}{h:Heap}{b:Addr}{o:Obj}(hb:b∈fp)(e:h.get? b=some o):(b,o)∈xV fp h:=aaU.mpr ⟨b,hb,by rw[e];rfl⟩
theorem HL{fp:List Addr}{h:Heap}{p:Addr×Obj}(hp:p∈xV fp h):p.1∈fp/\h.get? p.1=some p.2:=by
 obtain⟨b,hb,e⟩:=aaU.mp hp
 cases q:h.get? b with
 |none=>rw[q]at e;cases e
 |some o =>
  rw[q]at e
  have e':(b,o)=p:=aax e
  subst e'
  exact⟨hb,q⟩
theorem Inv.pinned{pins:List (Addr×Obj)}{σ:St}{H:Hp}{s:Shared}{fp:List Addr}(I:Inv X pins σ H s)(hf:∀b∈fp,qT X pins H b)(ho:∀b∈fp,∃o,s.heap.get? b=some o/\∀v,o.data≠.cell v):Inv X (pins++xV fp s.heap) σ H s :=
 I.GF λp hp=>(aaC.mp hp).elim (λz=>I.pin p (aaI _ z)) λz=>by
  obtain⟨hb,e⟩:=HL z
  obtain⟨f0,f1,f2,_⟩:=hf p.1 hb
  obtain⟨o,e',d⟩:=ho p.1 hb
  rw[e]at e';cases e'
  exact⟨e,f0,f1,f2,d⟩
theorem Inv.qU{pins pl:List (Addr×Obj)}{σ:St}{H:Hp}{s:Shared}(I:Inv X (pins++pl) σ H s):Inv X pins σ H s:=I.GF λp hp=>I.pin p (aaI _ (aaV _ hp))
theorem ic{iter:Expr}{body:List Stmt}{wi:TI}{g:TG}{tb:TS}{pos:Pos}(hp:PassesOwn (model X.prog X.w) X.A X.env X.xe)(hc:X.calm=true)(hi:PI X tg iter wi)(hg:PG X tg g)(hb:GG X body tb)(hs:∀x,foldedSetIterable iter X.env x=pure x:=by intro _;rfl):PS X (.For tg iter body [] pos) (We wi g tb):=by
 intro pins s σ H D I h
 refine wpAny_For (cy (hi pins s σ H _ I h) λv s1 h1=>cy h1 λitv s2 h2=>?_) hs
 obtain⟨it,fp,tn,J,H2,e,I2,T,st2,f2,W,⟨m0,w0⟩,turn⟩:=h2
 subst e
 have ED:∀{H':Hp},(∀b∈fp,H' b=none)->∀b∈fp,qT X pins H' b:=λhn b hb=>⟨hn b hb,(f2 b hb).2⟩
 refine codeAny_forLoop_any (λn s'=>∃i σ' H',Inv X pins σ' H' s'/\tn i s'.heap/\(∀b∈fp,H' b=none)/\W i n σ' H') ?_ m0 ⟨0,σ,H2,I2,st2,λb hb=>(f2 b hb).1,w0⟩
 rintro n s3 ⟨i,σ3,H3,I3,st3,ZE,w3⟩
 rcases turn i n σ3 H3 w3 with ⟨stop,qn⟩|⟨go,N,hN,step⟩
 ·refine abO hp (cy (T.done X rfl rfl rfl hc i pins s3 σ3 H3 X.xe I3 (ED ZE) st3 stop) λr s4 ⟨hr,I4⟩=>?_)
  subst hr
  exact wpAny_execs_nil ⟨σ3,H3,I4,qn⟩
 ·refine abO hp (cy (T.item X rfl rfl rfl hc i pins s3 σ3 H3 X.xe I3 (ED ZE) st3 go) λr s4 ⟨u,hr,h4⟩=>?_)
  subst hr
  refine abO hp (cy h4 λ_ s5 ⟨x,H5,I5,r5,y5,Wf,fr5⟩=>?_)
  have I5':=I5.pinned (ED fr5) (T.obj _ _ Wf)
  refine abO hp (cy (hg _ s5 σ3 H5 x u _ I5' r5 (step x H5 y5)) λ_ s6 ⟨σ6,H6,I6,q6⟩=>?_)
  refine abO hp (cy (hb _ s6 σ6 H6 _ I6 q6) λf s7 q7=>?_)
  have again:∀{σ7:St}{H7:Hp},Inv X (pins++xV fp s5.heap) σ7 H7 s7->N σ7 H7->∃m,m<n/\∃i σ' H',Inv X pins σ' H' s7/\tn i s7.heap/\(∀b∈fp,H' b=none)/\W i m σ' H':=λ{σ7 H7} I7 n7=>by
   obtain⟨m',hm,w7⟩:=hN σ7 H7 n7
   refine⟨m',hm,i+1,σ7,H7,I7.qU,T.keep _ _ _ Wf λb hb o e=>(I7.pin (b,o) (aaI _ (aaI _ (kW hb e)))).1,λb hb=>?_,w7⟩
   obtain⟨o,e,d⟩:=T.obj _ _ Wf b hb
   exact(I7.pin (b,o) (aaI _ (aaI _ (kW hb e)))).2.1
  cases f with
  |next=>obtain⟨σ7,H7,I7,n7⟩:=q7;exact again I7 n7
  |cont=>obtain⟨σ7,H7,I7,n7⟩:=q7;exact again I7 n7
  |brk=>obtain⟨σ7,H7,I7,q7⟩:=q7;exact⟨σ7,H7,I7.qU,q7⟩
  |ret v=>obtain⟨x7,σ7,H7,I7,r7,q7⟩:=q7;exact⟨x7,σ7,H7,I7.qU,r7,q7⟩
end
theorem qV{K:W.Frag}{a:Addr}{xs:List V}{g:TG}{tb:TS}{D:Ends}{σ:St}{H:Hp}(Pv:Nat->St->Hp->Prop)(h0:Pv 0 σ H)(hl:∀i σ H,i<=xs.length->Pv i σ H->bK K H a xs)(hs:∀i x σ H,xs[i]?=some x->Pv i σ H->g x σ H λσ2 H2=>tb {D with nx:=Pv (i+1),ct:=Pv (i+1),bk:=D.nx} σ2 H2)(hd:∀σ H,Pv xs.length σ H->D.nx σ H):∃W:Nat->Nat->St->Hp->Prop,(∃m,W 0 m σ H)/\∀i m σ H,W i m σ H->((RD K a).stop i H/\D.nx σ H)\/((RD K a).go i H/\∃N:St->Hp->Prop,(∀σ' H',N σ' H'->∃m',m'<m/\W (i+1) m' σ' H')/\∀x H',(RD K a).Mh i H x H'->g x σ H' λσ2 H2=>tb {D with nx:=N,ct:=N,bk:=D.nx} σ2 H2):=by
 refine⟨λi m σ H=>m=xs.length-i/\i<=xs.length/\Pv i σ H,⟨xs.length,by simp,aaM _,h0⟩,?_⟩
 rintro i m σ H ⟨rfl,hi,p⟩
 have q:=hl i σ H hi p
 by_cases hlt:i<xs.length
 ·refine .inr ⟨⟨xs,xs[i],q,by simp[hlt]⟩,Pv (i+1),λσ' H' p'=>⟨xs.length-(i+1),by omega,rfl,hlt,p'⟩,λx H' y=>?_⟩
  obtain⟨e,y⟩:=y
  subst e
  exact hs i x σ _ (y xs q) p
 ·have e:i=xs.length:=by omega
  subst e
  exact .inl ⟨⟨xs,q,aan _⟩,hd σ H p⟩
theorem MA{K:W.Frag}{a:Addr}{xs:List V}{g:TG}{tb:TS}{D:Ends}{σ:St}{H:Hp}(Pv:Nat->St->Hp->Prop)(h0:Pv 0 σ H)(hl:∀i σ H,i<=xs.length->Pv i σ H->aN K H a xs)(hs:∀i x σ H,xs[i]?=some x->Pv i σ H->g x σ H λσ2 H2=>tb {D with nx:=Pv (i+1),ct:=Pv (i+1),bk:=D.nx} σ2 H2)(hd:∀σ H,Pv xs.length σ H->D.nx σ H):∃W:Nat->Nat->St->Hp->Prop,(∃m,W 0 m σ H)/\∀i m σ H,W i m σ H->((RE K a).stop i H/\D.nx σ H)\/((RE K a).go i H/\∃N:St->Hp->Prop,(∀σ' H',N σ' H'->∃m',m'<m/\W (i+1) m' σ' H')/\∀x H',(RE K a).Mh i H x H'->g x σ H' λσ2 H2=>tb {D with nx:=N,ct:=N,bk:=D.nx} σ2 H2):=by
 refine⟨λi m σ H=>m=xs.length-i/\i<=xs.length/\Pv i σ H,⟨xs.length,by simp,aaM _,h0⟩,?_⟩
 rintro i m σ H ⟨rfl,hi,p⟩
 have q:=hl i σ H hi p
 by_cases hlt:i<xs.length
 ·refine .inr ⟨⟨xs,xs[i],q,by simp[hlt]⟩,Pv (i+1),λσ' H' p'=>⟨xs.length-(i+1),by omega,rfl,hlt,p'⟩,λx H' y=>?_⟩
  obtain⟨e,y⟩:=y
  subst e
  exact hs i x σ _ (y xs q) p
 ·have e:i=xs.length:=by omega
  subst e
  exact .inl ⟨⟨xs,q,aan _⟩,hd σ H p⟩
theorem HM{lo:Int}{n:Nat}{g:TG}{tb:TS}{D:Ends}{σ:St}{H:Hp}(Pv:Nat->St->Hp->Prop)(h0:Pv 0 σ H)(hs:∀i σ H,i<n->Pv i σ H->g (.int (lo+i)) σ H λσ2 H2=>tb {D with nx:=Pv (i+1),ct:=Pv (i+1),bk:=D.nx} σ2 H2)(hd:∀σ H,Pv n σ H->D.nx σ H):∃W:Nat->Nat->St->Hp->Prop,(∃m,W 0 m σ H)/\∀i m σ H,W i m σ H->((RG lo n).stop i H/\D.nx σ H)\/((RG lo n).go i H/\∃N:St->Hp->Prop,(∀σ' H',N σ' H'->∃m',m'<m/\W (i+1) m' σ' H')/\∀x H',(RG lo n).Mh i H x H'->g x σ H' λσ2 H2=>tb {D with nx:=N,ct:=N,bk:=D.nx} σ2 H2):=by
 refine⟨λi m σ H=>m=n-i/\i<=n/\Pv i σ H,⟨n,by simp,aaM _,h0⟩,?_⟩
 rintro i m σ H ⟨rfl,hi,p⟩
 by_cases hlt:i<n
 ·refine .inr ⟨hlt,Pv (i+1),λσ' H' p'=>⟨n-(i+1),by omega,rfl,hlt,p'⟩,λx H' y=>?_⟩
  obtain⟨e,y⟩:=y
  subst e y
  exact hs i σ _ hlt p
 ·have e:i=n:=by omega
  subst e
  exact .inl ⟨aan _,hd σ H p⟩
abbrev R2:=V->V->Hp->VK->Prop
def jx(X:Cx)(f:Value->Value->Sem Value)(r:R2):Prop :=
 ∀(pins:List (Addr×Obj))(s:Shared)(σ:St)(H:Hp)(x y:V)(v u:Value)(Q:VK),Inv X pins σ H s->RelV x v->RelV y u->r x y H Q->wpAny (model X.prog X.w) X.A (f v u) (EP X pins σ Q) X.xe s
def Wg(X:Cx)(f:Value->Sem Value)(r:V->Hp->VK->Prop):Prop :=
 ∀(pins:List (Addr×Obj))(s:Shared)(σ:St)(H:Hp)(x:V)(v:Value)(Q:VK),Inv X pins σ H s->RelV x v->r x H Q->wpAny (model X.prog X.w) X.A (f v) (EP X pins σ Q) X.xe s
def gJ(X:Cx)(f:Value)(r:List V->Hp->VK->Prop):Prop :=
 ∀(pins:List (Addr×Obj))(s:Shared)(σ:St)(H:Hp)(xs:List V)(us:List Value)(Q:VK),Inv X pins σ H s->Vals xs us->r xs H Q->wpAny (model X.prog X.w) X.A (call f us) (EP X pins σ Q) X.xe s
def OE(r:R2)(ta tb:TE):TE:=λσ H Q=>ta σ H λx H1=>tb σ H1 λy H2=>r x y H2 Q
def tUn(r:V->Hp->VK->Prop)(ta:TE):TE:=λσ H Q=>ta σ H λx H1=>r x H1 Q
def rI(C:Int->Int->Prop)(g:Int->Int->V):R2:=λx y H Q=>∃i j,x=.int i/\y=.int j/\C i j/\Q (g i j) H
def OG(g:Int->Int->V):R2:=λx y H Q=>∃i j,x=.int i/\y=.int j/\Q (g i j) H
def rU(g:Int->V):V->Hp->VK->Prop:=λx H Q=>∃i,x=.int i/\Q (g i) H
section
variable{X:Cx}{a b c:Expr}{ta tb tc:TE}{pos:Pos}
theorem Pp(ha:PE X a ta)(hb:PE X b tb){pins:List (Addr×Obj)}{s:Shared}{σ:St}{H:Hp}{R:V->V->Hp->Prop}(I:Inv X pins σ H s)(h:ta σ H λx H1=>tb σ H1 λy H2=>R x y H2){Q:Value->Shared->Prop}{f:Value->Value->Sem Value}(hf:∀v u s2 x y H2,Inv X pins σ H2 s2->RelV x v->RelV y u->R x y H2->wpAny (model X.prog X.w) X.A (f v u) Q X.xe s2):wpAny (model X.prog X.w) X.A (eval a X.env) (λv s₁=>wpAny (model X.prog X.w) X.A (eval b X.env) (λu s₂=>wpAny (model X.prog X.w) X.A (f v u) Q X.xe s₂) X.xe s₁) X.xe s:=by
 refine cy (ha pins s σ H _ I h) λv s1 ⟨x,H1,I1,r1,q1⟩=>?_
 refine cy (hb pins s1 σ H1 _ I1 q1) λu s2 ⟨y,H2,I2,r2,q2⟩=>?_
 exact hf v u s2 x y H2 I2 r1 r2 q2
theorem aJ{op:Operator}{r:R2}(ho:jx X (binaryOp op) r)(ha:PE X a ta)(hb:PE X b tb):PE X (.BinOp a op b pos) (OE r ta tb):=by
 intro pins s σ H Q I h
 exact wpAny_BinOp (Pp ha hb I h λv u s2 x y H2 I2 rx ry q=>ho pins s2 σ H2 x y v u Q I2 rx ry q)
theorem Al{op:UnaryOp}{r:V->Hp->VK->Prop}(ho:Wg X (unaryOp op) r)(ha:PE X a ta):PE X (.UnaryOp op a pos) (tUn r ta):=by
 intro pins s σ H Q I h
 exact UnaryOp_ (cy (ha pins s σ H _ I h) λv s1 ⟨x,H1,I1,r1,q1⟩=>ho pins s1 σ H1 x v Q I1 r1 q1)
theorem Vk{f:Value->Value->Sem Value}{C:Int->Int->Prop}{g:Int->Int->Int}(rule:∀(i j:Int)(t u:Tok)(s:Shared)(Q:Value->Shared->Prop)(E:Value->Shared->Prop),C i j->Q (.int (g i j) s.toks) {s with toks:=s.toks+1}->wpAny (model X.prog X.w) X.A (f (.int i t) (.int j u)) Q E s):jx X f (rI C λi j=>.int (g i j)):=by
 intro pins s σ H x y v u Q I rx ry h
 obtain⟨i,j,rfl,rfl,hc,q⟩:=h
 obtain⟨t,rfl⟩:=rx
 obtain⟨t',rfl⟩:=ry
 exact rule i j t t' s _ _ hc ⟨.int (g i j),H,I.tok _,⟨_,rfl⟩,q⟩
theorem Su{f:Value->Value->Sem Value}{g:Int->Int->Int}(rule:∀(i j:Int)(t u:Tok)(s:Shared)(Q:Value->Shared->Prop)(E:Value->Shared->Prop),Q (.int (g i j) s.toks) {s with toks:=s.toks+1}->wpAny (model X.prog X.w) X.A (f (.int i t) (.int j u)) Q E s):jx X f (OG λi j=>.int (g i j)):=by
 intro pins s σ H x y v u Q I rx ry h
 obtain⟨i,j,rfl,rfl,q⟩:=h
 obtain⟨t,rfl⟩:=rx
 obtain⟨t',rfl⟩:=ry
 exact rule i j t t' s _ _ ⟨.int (g i j),H,I.tok _,⟨_,rfl⟩,q⟩
theorem MB{f:Value->Value->Sem Value}{g:Int->Int->Bool}(rule:∀(i j:Int)(t u:Tok)(s:Shared)(Q:Value->Shared->Prop)(E:Value->Shared->Prop),Q (.bool (g i j)) s->wpAny (model X.prog X.w) X.A (f (.int i t) (.int j u)) Q E s):jx X f (OG λi j=>.bl (g i j)):=by
 intro pins s σ H x y v u Q I rx ry h
 obtain⟨i,j,rfl,rfl,q⟩:=h
 obtain⟨t,rfl⟩:=rx
 obtain⟨t',rfl⟩:=ry
 exact rule i j t t' s _ _ ⟨.bl (g i j),H,I,rfl,q⟩
def Wh(i j:Int):Prop:=0<j/\j<1073741824
def Sv(i j:Int):Prop:=0<=j/\j<=1000000/\i.natAbs<2 ^ 64
def Pr(i j:Int):Prop:=(-(2 ^ 64)<i/\i<2 ^ 64)\/(-(2 ^ 64)<j/\j<2 ^ 64)
theorem Pr.ok{i j:Int}(h:Pr i j):IntMulOk i j:=by
 rcases h with ⟨h1,h2⟩|⟨h1,h2⟩
 ·exact .of_left (intBits_le_64 h1 h2)
 ·exact .of_right (intBits_le_64 h1 h2)
theorem kX:jx X (binaryOp .Add) (OG λi j=>.int (i+j)):=Su λ_ _ _ _ _ _ _ q=>add_int q
theorem EE:jx X (binaryOp .Sub) (OG λi j=>.int (i-j)):=Su λ_ _ _ _ _ _ _ q=>sub_int q
theorem nA:jx X (binaryOp .Mult) (rI Pr λi j=>.int (i*j)):=Vk λ_ _ _ _ _ _ _ hc q=>mul_int q hc.ok
theorem bZ:jx X (binaryOp .FloorDiv) (rI Wh λi j=>.int (i / j)):=Vk λi j _ _ _ _ _ hc q=>by
 have h1:(0:Int)<j:=hc.1
 have h2:j<1073741824:=hc.2
 exact floordiv_int (by omega) (by rw[Int.fdiv_eq_ediv_of_nonneg i (by omega)];exact q) (.inl (PyProof.noPylong_small (by omega)))
theorem bU:jx X (binaryOp .Mod) (rI (λ_ j=>0<j) λi j=>.int (i % j)):=Vk λi j _ _ _ _ _ hc q=>by
 have h1:(0:Int)<j:=hc
 exact mod_int' (by omega) (by rw[Int.fmod_eq_emod_of_nonneg i (by omega)];exact q)
theorem JF:jx X (binaryOp .Pow) (rI Sv λi j=>.int (i ^ j.toNat)):=Vk λ_ _ _ _ _ _ _ hc q=>pow_int_small hc.1 hc.2.1 hc.2.2 q
theorem unI{f:Value->Sem Value}{g:Int->Int}(rule:∀(i:Int)(t:Tok)(s:Shared)(Q:Value->Shared->Prop)(E:Value->Shared->Prop),Q (.int (g i) s.toks) {s with toks:=s.toks+1}->wpAny (model X.prog X.w) X.A (f (.int i t)) Q E s):Wg X f (rU λi=>.int (g i)):=by
 intro pins s σ H x v Q I rx h
 obtain⟨i,rfl,q⟩:=h
 obtain⟨t,rfl⟩:=rx
 exact rule i t s _ _ ⟨.int (g i),H,I.tok _,⟨_,rfl⟩,q⟩
theorem tS:Wg X (unaryOp .USub) (rU λi=>.int (-i)):=unI λ_ _ _ _ _ q=>neg_int q
end
def Sw:V->V->Bool
 | .non,.non=>true | .non,.int _=>true | .int _,.non=>true | .non,.bl _=>true | .bl _,.non=>true | .non,.str _=>true | .str _,.non=>true
 | .int _,.int _=>true | .bl _,.bl _=>true | .str _,.str _=>true | .Jp _,.Jp _=>true
 | .int _,.str _=>true | .str _,.int _=>true | .bl _,.str _=>true | .str _,.bl _=>true
 |_,_=>false
def rEq:R2:=λx y H Q=>Sw x y=true/\Q (.bl (decide (x=y))) H
def ZF:R2:=λx y H Q=>Sw x y=true/\Q (.bl (!decide (x=y))) H
theorem GH{i j:Int}:decide (V.int i=V.int j)=(i==j):=by
 rw[aaL]
 simp
theorem JG{i j:Bool}:decide (V.bl i=V.bl j)=(i==j):=by
 rw[aaL]
 simp
theorem GI{i j:Str}:decide (V.str i=V.str j)=(i==j):=by
 rw[aaL]
 simp
theorem GJ{i j:Array UInt8}:decide (V.Jp i=V.Jp j)=(i.toList==j.toList):=by
 rw[aaL]
 cases i
 cases j
 simp
section
variable{X:Cx}{a b c:Expr}{ta tb tc:TE}{pos:Pos}
theorem bg{pins:List (Addr×Obj)}{σ:St}{H:Hp}{s:Shared}{Q:VK}{k k':Bool}(I:Inv X pins σ H s)(q:Q (.bl k) H)(e:k=k'):EP X pins σ Q (.bool k') s:=by
 subst e
 exact⟨.bl k,H,I,O,q⟩
theorem aV:jx X (compareOp .Eq) rEq:=by
 intro pins s σ H x y v u Q I rx ry h
 obtain⟨hs,q⟩:=h
 cases x with
 |non =>
  cases rx
  cases y with
  |non=>cases ry;exact PySem.EqNone.eq_none_none (bg I q (by simp))
  |bl j=>cases ry;exact PySem.EqNone.eq_none_bool (bg I q (by simp))
  |int j=>obtain⟨t',rfl⟩:=ry;exact PySem.EqNone.eq_none_int (bg I q (by simp))
  |str j=>obtain⟨t',rfl⟩:=ry;exact PySem.EqNone.eq_none_str (bg I q (by simp))
  |_=>exact absurd (show false=true from hs) aaA
 |bl i =>
  cases rx
  cases y with
  |non=>cases ry;exact PySem.EqNone.eq_bool_none (bg I q (by simp))
  |bl j=>cases ry;exact eq_bool (bg I q JG)
  |str j=>obtain⟨t',rfl⟩:=ry;exact PySem.EqMixed.eq_bool_str (bg I q (by simp))
  |_=>exact absurd (show false=true from hs) aaA
 |int i =>
  obtain⟨t,rfl⟩:=rx
  cases y with
  |non=>cases ry;exact PySem.EqNone.eq_int_none (bg I q (by simp))
  |int j=>obtain⟨t',rfl⟩:=ry;exact eq_int (bg I q GH)
  |str j=>obtain⟨t',rfl⟩:=ry;exact PySem.EqMixed.eq_int_str (bg I q (by simp))
  |_=>exact absurd (show false=true from hs) aaA
 |str i =>
  obtain⟨t,rfl⟩:=rx
  cases y with
  |non=>cases ry;exact PySem.EqNone.eq_str_none (bg I q (by simp))
  |bl j=>cases ry;exact PySem.EqMixed.eq_str_bool (bg I q (by simp))
  |int j=>obtain⟨t',rfl⟩:=ry;exact PySem.EqMixed.eq_str_int (bg I q (by simp))
  |str j=>obtain⟨t',rfl⟩:=ry;exact eq_str (bg I q GI)
  |_=>exact absurd (show false=true from hs) aaA
 |Jp i =>
  obtain⟨t,rfl⟩:=rx
  cases y with
  |Jp j=>obtain⟨t',rfl⟩:=ry;exact W.eq_bytes (bg I q GJ)
  |_=>exact absurd (show false=true from hs) aaA
 |_=>cases y<;>exact absurd (show false=true from hs) aaA
theorem vv:jx X (compareOp .NotEq) ZF:=by
 intro pins s σ H x y v u Q I rx ry h
 obtain⟨hs,q⟩:=h
 cases x with
 |non =>
  cases rx
  cases y with
  |non=>cases ry;exact PySem.EqNone.ne_none_none (bg I q (by simp))
  |bl j=>cases ry;exact PySem.EqNone.ne_none_bool (bg I q (by simp))
  |int j=>obtain⟨t',rfl⟩:=ry;exact PySem.EqNone.ne_none_int (bg I q (by simp))
  |str j=>obtain⟨t',rfl⟩:=ry;exact PySem.EqNone.ne_none_str (bg I q (by simp))
  |_=>exact absurd (show false=true from hs) aaA
 |bl i =>
  cases rx
  cases y with
  |non=>cases ry;exact PySem.EqNone.ne_bool_none (bg I q (by simp))
  |bl j=>cases ry;exact ne_bool (bg I q (congrArg not JG))
  |str j=>obtain⟨t',rfl⟩:=ry;exact PySem.EqMixed.ne_bool_str (bg I q (by simp))
  |_=>exact absurd (show false=true from hs) aaA
 |int i =>
  obtain⟨t,rfl⟩:=rx
  cases y with
  |non=>cases ry;exact PySem.EqNone.ne_int_none (bg I q (by simp))
  |int j=>obtain⟨t',rfl⟩:=ry;exact ne_int (bg I q (congrArg not GH))
  |str j=>obtain⟨t',rfl⟩:=ry;exact PySem.EqMixed.ne_int_str (bg I q (by simp))
  |_=>exact absurd (show false=true from hs) aaA
 |str i =>
  obtain⟨t,rfl⟩:=rx
  cases y with
  |non=>cases ry;exact PySem.EqNone.ne_str_none (bg I q (by simp))
  |bl j=>cases ry;exact PySem.EqMixed.ne_str_bool (bg I q (by simp))
  |int j=>obtain⟨t',rfl⟩:=ry;exact PySem.EqMixed.ne_str_int (bg I q (by simp))
  |str j=>obtain⟨t',rfl⟩:=ry;exact ne_str (bg I q (congrArg not GI))
  |_=>exact absurd (show false=true from hs) aaA
 |Jp i =>
  obtain⟨t,rfl⟩:=rx
  cases y with
  |Jp j=>obtain⟨t',rfl⟩:=ry;exact W.ne_bytes (bg I q (congrArg not GJ))
  |_=>exact absurd (show false=true from hs) aaA
 |_=>cases y<;>exact absurd (show false=true from hs) aaA
theorem GK:jx X (compareOp .Lt) (OG λi j=>.bl (decide (i<j))):=MB λ_ _ _ _ _ _ _ q=>lt_int q
theorem Sx:jx X (compareOp .LtE) (OG λi j=>.bl (decide (i<=j))):=MB λ_ _ _ _ _ _ _ q=>le_int q
theorem JH:jx X (compareOp .Gt) (OG λi j=>.bl (decide (j<i))):=MB λ_ _ _ _ _ _ _ q=>gt_int q
theorem OH:jx X (compareOp .GtE) (OG λi j=>.bl (decide (j<=i))):=MB λ_ _ _ _ _ _ _ q=>ge_int q
theorem fV:jx X (compareOp .In) (λx y H Q=>∃i j,x=.str i/\y=.str j/\Q (.bl (!(Builtin.Str.occurrences j i 0 j.length 1).isEmpty)) H):=by
 intro pins s σ H x y v u Q I rx ry h
 obtain⟨i,j,rfl,rfl,q⟩:=h
 obtain⟨t,rfl⟩:=rx
 obtain⟨t',rfl⟩:=ry
 exact in_str (bg I q rfl)
theorem jV:jx X (compareOp .Is) (λx y H Q=>y=.non/\Q (.bl (decide (x=.non))) H):=by
 intro pins s σ H x y v u Q I rx ry h
 obtain⟨rfl,q⟩:=h
 cases ry
 refine is_none_gen (bg I q ?_)
 cases x<;>first
  | (cases rx;rfl)
  | (obtain⟨t,rfl⟩:=rx;rfl)
theorem xF:jx X (compareOp .IsNot) (λx y H Q=>y=.non/\Q (.bl (!decide (x=.non))) H):=by
 intro pins s σ H x y v u Q I rx ry h
 obtain⟨rfl,q⟩:=h
 cases ry
 refine isnot_none_gen (bg I q ?_)
 cases x<;>first
  | (cases rx;rfl)
  | (obtain⟨t,rfl⟩:=rx;rfl)
theorem JI(b:Expr){op:CmpOp}(h:op≠.In:=by decide)(h2:op≠.NotIn:=by decide):behindInMarks op b=false:=by
 have e1:(op==CmpOp.In)=false:=by cases op<;>first|rfl|exact absurd rfl h
 have e2:(op==CmpOp.NotIn)=false:=by cases op<;>first|rfl|exact absurd rfl h2
 cases b<;>simp[behindInMarks,e1,e2]
theorem xG{op:CmpOp}{r:R2}(ho:jx X (compareOp op) r)(ha:PE X a ta)(hb:PE X b tb)(hm:behindInMarks op b=false):PE X (.Compare a [op] [b] pos) (OE r ta tb):=by
 intro pins s σ H Q I h
 exact wpAny_Compare1 (Pp ha hb I h λv u s2 x y H2 I2 rx ry q=>ho pins s2 σ H2 x y v u Q I2 rx ry q) hm
def JJ(t:TE):TT:=λσ H Q=>t σ H λx H'=>∃k,x=.bl k/\Q k H'
theorem cW{op:CmpOp}{r:R2}(ho:jx X (compareOp op) r)(ha:PE X a ta)(hb:PE X b tb)(hm:behindInMarks op b=false):PT X (.Compare a [op] [b] pos) (JJ (OE r ta tb)):=by
 intro pins s σ H Q I h
 refine wpAny_isTrue_Compare1 (cy (ha pins s σ H _ I h) λv s1 ⟨x,H1,I1,r1,q1⟩=>cy (hb pins s1 σ H1 _ I1 q1) λu s2 ⟨y,H2,I2,r2,q2⟩ =>
  cy (ho pins s2 σ H2 x y v u _ I2 r1 r2 q2) λc s3 ⟨z,H3,I3,r3,k,e,q3⟩=>?_) hm
 subst e
 cases r3
 exact abo ⟨H3,I3,q3⟩
def Pu(r r':R2)(ta tb tc:TE):TE:=λσ H Q=>ta σ H λx H1=>tb σ H1 λy H2=>r x y H2 λz H3=>∃k,z=.bl k/\(if k=true then tc σ H3 λw' H4=>r' y w' H4 Q else Q (.bl false) H3)
theorem JK{op op':CmpOp}{r r':R2}(ho:jx X (compareOp op) r)(ho':jx X (compareOp op') r')(ha:PE X a ta)(hb:PE X b tb)(hc:PE X c tc)(hm:lastMarks [op,op'] [b,c]=false:=by with_unfolding_all rfl):PT X (.Compare a [op,op'] [b,c] pos) (JJ (Pu r r' ta tb tc)):=by
 intro pins s σ H Q I h
 refine isTrue_chain (cy (ha pins s σ H _ I h) λv s1 ⟨x,H1,I1,r1,q1⟩=>test_link (cy (hb pins s1 σ H1 _ I1 q1) λu s2 ⟨y,H2,I2,r2,q2⟩ =>
  cy (ho pins s2 σ H2 x y v u _ I2 r1 r2 q2) λd s3 ⟨z,H3,I3,r3,k,e,q3⟩=>?_)) hm
 subst e
 cases r3
 refine abo ?_
 cases k with
 |false =>
  obtain⟨k',e',q'⟩:=q3
  cases e'
  exact ite_ff ⟨H3,I3,q'⟩
 |true =>
  refine ite_tt (test_last (cy (hc pins s3 σ H3 _ I3 q3) λw' s4 ⟨z',H4,I4,r4,q4⟩=>cy (ho' pins s4 σ H4 y z' u w' _ I4 r2 r4 q4) λd' s5 ⟨z2,H5,I5,r5,k2,e2,q5⟩=>?_))
  subst e2
  cases r5
  exact abo ⟨H5,I5,q5⟩
theorem tT:(sizeLine:Nat)<2 ^ 63:=by rw[sizeLine_eq];decide
theorem bN:jx X (binaryOp .Add) (λx y H Q=>∃i j,x=.str i/\y=.str j/\i.length+j.length<=sizeLine/\Q (.str (i++j)) H):=by
 intro pins s σ H x y v u Q I rx ry h
 obtain⟨i,j,rfl,rfl,hz,q⟩:=h
 obtain⟨t,rfl⟩:=rx
 obtain⟨t',rfl⟩:=ry
 exact add_str (λt' tk=>⟨.str (i++j),H,I.tok _,⟨_,rfl⟩,q⟩) hz
theorem vals1{x:V}{us:List Value}(r:Vals [x] us):∃u,us=[u]/\RelV x u:=by
 cases r with
 |cons r1 r2=>cases r2;exact⟨_,rfl,r1⟩
theorem vals2{x y:V}{us:List Value}(r:Vals [x,y] us):∃u w',us=[u,w']/\RelV x u/\RelV y w':=by
 cases r with
 |cons r1 r2 =>
  cases r2 with
  |cons r3 r4=>cases r4;exact⟨_,_,rfl,r1,r3⟩
theorem JL:gJ X (.builtin "ord") (λxs H Q=>∃x,xs=[.str x]/\x.length=1/\Q (.int (x.cps.getD 0 0:Nat)) H):=by
 intro pins s σ H xs us Q I r h
 obtain⟨x,rfl,hz,q⟩:=h
 obtain⟨u,rfl,t,rfl⟩:=vals1 r
 exact ord_of_one hz ⟨.int _,H,I.tok _,⟨_,rfl⟩,q⟩
end
structure EF(h:Heap)(x dx C:Addr)(mA:Str->Option Value):Prop where
 obj:h.get? x=some (W.instObj C dx)
 ns:h.Ns1 dx mA
 ne:dx≠x
theorem HN{h:Heap}{dx:Addr}{mA:Str->Option Value}(n:h.Ns1 dx mA):∃od,h.get? dx=some od/\∀name,W.lookIn name od=some (mA name):=by
 obtain⟨o,es,ep,ho,hd,hk,_,hm⟩:=n
 refine⟨o,ho,λname=>?_⟩
 have e:=hm name
 unfold nsFind findBy at e
 rw[←Array.find?_toList]at e
 unfold W.lookIn
 rw[hd]
 dsimp only
 split
 ·rename_i y q
  rw[q]at e
  exact congrArg some e
 ·rename_i q
  rw[q]at e
  have a:es.toList.any (·.refKey)=false:=by
   rw[List.any_eq_false]
   intro y hy
   obtain⟨z,t,hkey⟩:=hk y (Array.mem_toList_iff.mp hy)
   simp[DictEntry.refKey,hkey]
  have a':¬es.toList.any (·.refKey)=true:=by rw[a];exact aaA
  rw[aai a']
  exact congrArg some e
theorem EF.look{h:Heap}{x dx C:Addr}{mA:Str->Option Value}(I:EF h x dx C mA):∃od,W.InstAt h x (W.instObj C dx) C (some od)/\∀name,W.lookIn name od=some (mA name) :=
 let ⟨od,ho,hl⟩:=HN I.ns
 ⟨od,⟨I.obj,rfl,rfl,ho⟩,hl⟩
section
variable{prog:Program}{w:World}{A:Around}{E:Value->Shared->Prop}{s:Shared}{K:W.Frag}{x dx C f:Addr}{mA:Str->Option Value}{name:Str}{v:Value}
theorem get_map{expr:Bool}{Q:Value->Shared->Prop}(X:K.In s.heap)(I:EF s.heap x dx C mA)(hg:W.plainGet K C name=true)(hh:W.hasDictIn K C=true)(ha:W.findIn K (.ref C) name=some none)(hv:mA name=some v)(hv':W.handedIn v=true)(h:Q v {s with toks:=s.toks+1}):wpAny (model prog w) A (getAttr (.ref x) name expr) Q E s:=by
 obtain⟨od,J,hl⟩:=I.look
 exact W.get_value X J (W.plainGet_of hg).1 (W.findObj_own hh ha rfl (by rw[hl,hv])) hv' h
theorem JM{pl:Sem Bool}{Q:Value×List Value->Shared->Prop}(X:K.In s.heap)(I:EF s.heap x dx C mA)(hg:W.plainGet K C name=true)(hf:W.findIn K (.ref C) name=some (some (.ref f)))(ht:W.isFn K (.ref f)=true)(hv:mA name=none)(h:Q (.ref f,[.ref x]) s):wpAny (model prog w) A (getMethod (.ref x) name pl) Q E s:=by
 obtain⟨od,J,hl⟩:=I.look
 exact W.method_fn X J (W.plainGet_of hg).1 (W.plainGet_of hg).2 hf (beq_iff_eq.mp ht) (by show(W.lookIn name od).map (·.isSome)=some false;rw[hl,hv];rfl) h
theorem MC{ns:List Str}{Q:Unit->Shared->Prop}(X:K.In s.heap)(I:EF s.heap x dx C mA)(hs:W.findIn K (.ref C) "__setattr__"=some (some (.builtin "object.__setattr__")))(hp:W.plainOver K C=true)(ht:W.takerIn K C name=some none)(hh:W.hasDictIn K C=true)(hw:PySem.Within mA ns)(hsz:ns.length<=sizeLine)(h:∀h',EF h' x dx C (λy=>if y=name then some v else mA y)->Heap.SameBut dx s.heap h'->Q () {s with heap:=h',toks:=s.toks+2}):wpAny (model prog w) A (setAttr (.ref x) name v) Q E s:=by
 obtain⟨od,J,hl⟩:=I.look
 refine W.set_plain X J hs (W.osa_open (s:={s with toks:=s.toks+1}) (r:=none) X J hp ht λb=>?_)
 obtain⟨cd,hc,hd'⟩:=W.any_some hh
 have hx:s.heap.get? x=some ⟨.ref C,some dx,.plain,#[]⟩:=I.obj
 refine aah (aal (aah (aah (wpAny_loadPart hx (aah (W.Looks.here (s:={s with toks:=s.toks+1}) (W.looks_clsIn X hc) ?_))))))
 rw[hd']
 refine aal (a:=some dx) (aah (aal (aah ?_)))
 refine wpAny_nsSet1 (s:={s with toks:=s.toks+1}) I.ns λh' hn2 hs2=>?_
 obtain⟨oD,esD,epD,hoD,hdD,hcD⟩:=hn2.count (PySem.Within.cons name v hw)
 refine aah (wpAny_lookBehind hoD (by rw[hdD];exact pastItsLine_dict (aaq hcD (by rw[aaF];omega))) ?_)
 exact aal (h _ ⟨(hs2.2 _ (abD I.ne)).trans I.obj,hn2,I.ne⟩ hs2)
theorem JN{R:Result->Shared->Prop}{vs:List Value}{kw:List (Str×Value)}(X:K.In s.heap)(hm:W.makesIn K C=true)(hi:W.findIn K (.ref C) "__init__"=some (some (.ref f)))(hf:W.typeIn K (.ref f)=some (.type "function"))(h:codeAny (model prog w) (A.under (.builtin "type.__call__" ⟨.ref C::vs,kw⟩)) (.call (.ref f) ⟨.ref (s.heap.objs.size+1)::vs,kw⟩) (W.InitBack (s.heap.objs.size+1) R)
   {s with heap:=(s.heap.push W.emptyDict).push (W.instObj C s.heap.objs.size)}):codeAny (model prog w) A (.call (.ref C) ⟨vs,kw⟩) R s:=by
 obtain⟨hh,g,d,t,os⟩:=s
 exact W.make_core (W.makes_of X hm) (W.looks_findIn X hi) (λself=>W.bind_fn X self hf) (.inl rfl) h
end
def oU(f:Str)(v:V):List (Str×V)->List (Str×V)
 |[]=>[(f,v)]
 | (g,x)::r=>if g=f then (g,v)::r else (g,x)::oU f v r
theorem vz(f g:Str)(v:V):∀fs:List (Str×V),(oU f v fs).lookup g=if g=f then some v else fs.lookup g
 |[]=>by
  show List.lookup g [(f,v)]=_
  by_cases h:g=f
  ·have hb:(g==f)=true:=beq_iff_eq.mpr h
   simp only[List.lookup,hb,aaj h]
  ·have hb:(g==f)=false:=abF.mpr h
   simp only[List.lookup,hb,aai h]
 | (k,x)::r=>by
  have ih:=vz f g v r
  rw[show oU f v ((k,x)::r)=(if k=f then (k,v)::r else (k,x)::oU f v r) from rfl]
  by_cases hk:k=f
  ·rw[aaj hk]
   by_cases h:g=k
   ·have hb:(g==k)=true:=beq_iff_eq.mpr h
    simp only[List.lookup,hb,aaj (h.trans hk)]
   ·have hb:(g==k)=false:=abF.mpr h
    simp only[List.lookup,hb,aai (λe:g=f=>h (e.trans hk.symm))]
  ·rw[aai hk]
   by_cases h:g=k
   ·have hb:(g==k)=true:=beq_iff_eq.mpr h
    simp only[List.lookup,hb,aai (λe:g=f=>hk (h.symm.trans e))]
   ·have hb:(g==k)=false:=abF.mpr h
    simp only[List.lookup,hb]
    exact ih
theorem tU(f:Str)(v:V):∀fs:List (Str×V),f∈(oU f v fs).map (·.1)/\∀g,g∈fs.map (·.1)->g∈(oU f v fs).map (·.1)
 |[]=>⟨by simp[oU],λg h=>by simp at h⟩
 | (k,x)::r=>by
  obtain⟨i1,i2⟩:=tU f v r
  rw[show oU f v ((k,x)::r)=(if k=f then (k,v)::r else (k,x)::oU f v r) from rfl]
  by_cases hk:k=f
  ·rw[aaj hk]
   subst hk
   exact⟨by simp,λg h=>by simpa using h⟩
  ·rw[aai hk]
   refine⟨?_,λg h=>?_⟩
   ·rw[abe]
    exact aay _ i1
   ·rw[abe]at h⊢
    rcases aaB.mp h with e|e
    ·exact aaB.mpr (.inl e)
    ·exact aay _ (i2 g e)
theorem vA(f:Str)(v:V):∀fs:List (Str×V),(oU f v fs).length<=fs.length+1
 |[]=>by simp[oU]
 | (k,x)::r=>by
  have ih:=vA f v r
  rw[show oU f v ((k,x)::r)=(if k=f then (k,v)::r else (k,x)::oU f v r) from rfl]
  by_cases hk:k=f
  ·rw[aaj hk,aaF,aaF];omega
  ·rw[aai hk,aaF,aaF];omega
theorem qR.some_of{v:V}{o:Option Value}(r:qR (some v) o):∃u,o=some u/\RelV v u:=by
 cases o with
 |none=>exact(show False from r).elim
 |some u=>exact⟨u,rfl,r⟩
theorem qR.none_of{o:Option Value}(r:qR none o):o=none:=by
 cases o with
 |none=>rfl
 |some u=>exact(show False from r).elim
theorem HP{v:V}{u:Value}(r:RelV v u):W.handedIn u=true:=by
 cases v with
 |non=>cases(show u=Value.none from r);rfl
 |bl b=>cases(show u=Value.bool b from r);rfl
 |int i=>obtain⟨t,e⟩:=(show ∃t,u=Value.int i t from r);cases e;rfl
 |str x=>obtain⟨t,e⟩:=(show ∃t,u=Value.str x t from r);cases e;rfl
 |Jp b=>obtain⟨t,e⟩:=(show ∃t,u=Value.bytes b t from r);cases e;rfl
 |kj b=>obtain⟨t,e⟩:=(show ∃t,u=Value.float b t from r);cases e;rfl
 |ref a=>cases(show u=Value.ref a from r);rfl
 |ty n=>cases(show u=Value.type n from r);rfl
section
variable{P:Program}{w:World}{H H':Hp}{h h':Heap}{a C dx:Addr}{fs fs':List (Str×V)}
theorem xH(hok:vt P w H h)(e:H a=some (.ins C dx fs)):∃mA,EF h a dx C mA/\(∀f,qR (fs.lookup f) (mA f))/\PySem.Within mA (fs.map (·.1))/\fs.length<=1000/\H dx=some (.own a):=by
 obtain⟨d,z,ne,ob,mA,n,r,q⟩:=(show cU P w H h a (.ins C dx fs) from hok a _ e)
 exact⟨mA,⟨ob,n,ne⟩,r,q,z,d⟩
end
structure GL(K:W.Frag)(C:Addr):Prop where
 pg:W.plainGet K C Str.empty=true
 hd:W.hasDictIn K C=true
 po:W.plainOver K C=true
 sa:W.findIn K (.ref C) "__setattr__"=some (some (.builtin "object.__setattr__"))
theorem GL.get{K:W.Frag}{C:Addr}(c:GL K C)(f:Str):W.plainGet K C f=true:=c.pg
def dQ(K:W.Frag)(C:Addr)(f:Str):Prop:=W.findIn K (.ref C) f=some none
theorem dQ.Sy{K:W.Frag}{C:Addr}{f:Str}(n:dQ K C f):W.takerIn K C f=some none:=by
 unfold W.takerIn
 rw[show W.findIn K (.ref C) f=some none from n]
 rfl
structure Meth(K:W.Frag)(C:Addr)(m:Str)(f:Addr):Prop where
 at_:W.findIn K (.ref C) m=some (some (.ref f))
 fn:W.isFn K (.ref f)=true
 kp:W.keepIn K (.ref f)=true
section
variable{X:Cx}{pins:List (Addr×Obj)}{σ:St}{H:Hp}{s:Shared}{a C dx:Addr}{fs:List (Str×V)}{f:Str}{v:V}{A:Around}{E:Value->Shared->Prop}
theorem EG{b:Bool}{Q:Value->Shared->Prop}(I:Inv X pins σ H s)(e:H a=some (.ins C dx fs))(c:GL X.K C)(n:dQ X.K C f)(l:fs.lookup f=some v)(h:∀u s',Inv X pins σ H s'->RelV v u->Q u s'):wpAny (model X.prog X.w) A (getAttr (.ref a) f b) Q E s:=by
 obtain⟨mA,O,r,_,_,_⟩:=xH I.hok e
 obtain⟨u,hu,ru⟩:=qR.some_of (v:=v) (o:=mA f) (by rw[←l];exact r f)
 exact get_map I.qS O (c.get f) c.hd n hu (HP ru) (h u _ (I.tok _) ru)
theorem xW{m:Str}{g:Addr}{pl:Sem Bool}{Q:Value×List Value->Shared->Prop}(I:Inv X pins σ H s)(e:H a=some (.ins C dx fs))(c:GL X.K C)(k:Meth X.K C m g)(l:fs.lookup m=none)(h:Q (.ref g,[.ref a]) s):wpAny (model X.prog X.w) A (getMethod (.ref a) m pl) Q E s:=by
 obtain⟨mA,O,r,_,_,_⟩:=xH I.hok e
 have hn:mA m=none:=qR.none_of (by rw[←l];exact r m)
 exact JM I.qS O (c.get m) k.at_ k.fn hn h
theorem EH{y:V}{u:Value}{Q:Unit->Shared->Prop}(I:Inv X pins σ H s)(e:H a=some (.ins C dx fs))(c:GL X.K C)(n:dQ X.K C f)(hl:fs.length<1000)(ry:RelV y u)(h:∀s',Inv X pins σ (upd H a (.ins C dx (oU f y fs))) s'->Q () s'):wpAny (model X.prog X.w) A (setAttr (.ref a) f u) Q E s:=by
 obtain⟨mA,O,r,wi,_,ho⟩:=xH I.hok e
 have hz:(fs.map (·.1)).length<=sizeLine:=by rw[aav,sizeLine_eq];omega
 refine MC I.qS O c.sa c.po n.Sy c.hd wi hz λh' O' sb=>h _ ?_
 have hd:∃o,h'.get? dx=some o:=let ⟨o,_,_,e',_⟩:=O'.ns;⟨o,e'⟩
 refine I.write (x:=a) (e:=dx) (by rw[e];exact True.intro) (.inr ho) (λb q hb z=>(sb.2 b hb).trans z) hd ?_
 refine⟨by rw[aH O.ne];exact ho,?_,O.ne,O'.obj,_,O'.ns,λg=>?_,λg hg=>?_⟩
 ·have:=vA f y fs;omega
 ·show qR ((oU f y fs).lookup g) (if g=f then some u else mA g)
  rw[vz]
  by_cases q:g=f
  ·rw[aaj q,aaj q];exact ry
  ·rw[aai q,aai q];exact r g
 ·by_cases q:g=f
  ·rw[q];exact(tU f y fs).1
  ·refine(tU f y fs).2 g (wi g λz=>hg ?_)
   show(if g=f then some u else mA g)=none
   rw[aai q];exact z
theorem Inv.made(I:Inv X pins σ H s):Inv X pins σ (upd (upd H s.heap.objs.size (.own (s.heap.objs.size+1))) (s.heap.objs.size+1) (.ins C s.heap.objs.size []))
  {s with heap:=(s.heap.push W.emptyDict).push (W.instObj C s.heap.objs.size)}:=by
 have e1:(s.heap.push W.emptyDict).get? s.heap.objs.size=some W.emptyDict:=aaz s.heap rfl
 have e2:((s.heap.push W.emptyDict).push (W.instObj C s.heap.objs.size)).get? (s.heap.objs.size+1)=some (W.instObj C s.heap.objs.size):=by
  have:=aaz (s.heap.push W.emptyDict) (o:=W.instObj C s.heap.objs.size) rfl
  rwa [Heap.size_push]at this
 have e3:(s.heap.push W.emptyDict).Ns s.heap.objs.size (λ_=>none):=⟨W.emptyDict,#[],_,e1,rfl,(λe he=>absurd he (by simp)),λ_=>rfl⟩
 have I1:=I.laid (a:=s.heap.objs.size) (o:=.own (s.heap.objs.size+1)) (h':=s.heap.push W.emptyDict) (t':=s.toks) (λb u q=>aar _ q) (aan _) ⟨_,e1⟩
 refine I1.laid (a:=s.heap.objs.size+1) (o:=.ins C s.heap.objs.size []) (t':=s.toks) (λb u q=>aar _ q) (Nat.le_of_eq (Heap.size_push _ _)) ?_
 have ne:s.heap.objs.size≠s.heap.objs.size+1:=aaR (Nat.lt_succ_self _)
 refine⟨by rw[aH ne,ak],aaM _,ne,e2,λ_=>none,(Heap.Ns1.of_empty e3).at λo q=>aar _ q,λ_=>True.intro,λy hy=>absurd rfl hy⟩
theorem MD{prog:Program}{w:World}{env:Env}{e:Expr}{f:Str}{pos:Pos}{s:Shared}{Q:Value->Shared->Prop}(hb:attributeBase e f env (eval e env)=eval e env)(h:wpAny (model prog w) A (eval e env) (λo s₁=>wpAny (model prog w) A (getAttr o f true) Q E s₁) E s):wpAny (model prog w) A (eval (.Attribute e f pos) env) Q E s :=
 Attribute_any_ h (by rw[arm_eval_Attribute,hb])
end
def Sz(K:W.Frag)(ta:TE)(f:Str):TE:=λσ H Q=>ta σ H λx H1=>∃a C dx fs v,x=.ref a/\H1 a=some (.ins C dx fs)/\GL K C/\dQ K C f/\fs.lookup f=some v/\Q v H1
def Wi(K:W.Frag)(ta tv:TE)(f:Str):TS:=λD σ H=>tv σ H λy H1=>ta σ H1 λx H2=>∃a C dx fs,x=.ref a/\H2 a=some (.ins C dx fs)/\GL K C/\dQ K C f/\fs.length<1000/\D.nx σ (upd H2 a (.ins C dx (oU f y fs)))
section
variable{X:Cx}{o e value:Expr}{f:Str}{pos pos' tpos:Pos}{ta tv:TE}
theorem Pw(he:PE X e ta)(hb:attributeBase e f X.env (eval e X.env)=eval e X.env):PE X (.Attribute e f pos) (Sz X.K ta f):=by
 intro pins s σ H Q I h
 refine MD hb (cy (he pins s σ H _ I h) λu s1 ⟨x,H1,I1,rx,a,C,dx,fs,v,ex,ea,c,n,l,q⟩=>?_)
 subst ex
 obtain rfl:u=Value.ref a:=rx
 exact EG I1 ea c n l λu' s2 I2 ru=>⟨v,H1,I2,ru,q⟩
theorem ie(ha:PE X o ta)(hv:PE X value tv)(hs:swapsWith value (some (.Attribute o f pos')) pos.line X.env=pure false):PS X (.Assign [.Attribute o f pos'] value pos) (Wi X.K ta tv f):=by
 intro pins s σ H D I h
 refine plainObj_wpAny_Assign_Attribute (cy (hv pins s σ H _ I h) λu s1 ⟨y,H1,I1,ry,q⟩=>cy (ha pins s1 σ H1 _ I1 q) λov s2 ⟨x,H2,I2,rx,a,C,dx,fs,ex,ea,c,n,l,q2⟩=>?_) hs
 subst ex
 obtain rfl:ov=Value.ref a:=rx
 exact EH I2 ea c n l ry λs3 I3=>⟨σ,_,I3,q2⟩
end
section
variable{X:Cx}{pins:List (Addr×Obj)}{σ:St}{H:Hp}{s:Shared}{A:Around}{E:Value->Shared->Prop}{Q:Value->Shared->Prop}{c:Value}{b:Bool}
inductive p8(K:W.Frag)(H:Hp):V->Value->Prop where
 |non:p8 K H .non (.type "NoneType")
 |bl (x:Bool):p8 K H (.bl x) (.type "bool")
 |int (i:Int):p8 K H (.int i) (.type "int")
 |str (x:Str):p8 K H (.str x) (.type "str")
 |kj (x:UInt64):p8 K H (.kj x) (.type "float")
 |lst {a:Addr}{xs:List V} (e:H a=some (.lst xs)):p8 K H (.ref a) (.type "list")
 |EA {a:Addr}{o:Obj}{xs:List V} (e:H a=some (.EA o (.lst xs))):p8 K H (.ref a) (.type "list")
 |tup {a:Addr}{xs:List V} (e:H a=some (.tup xs)):p8 K H (.ref a) (.type "tuple")
 |dK {a:Addr}{kvs:List (Key×V)} (e:H a=some (.dK kvs)):p8 K H (.ref a) (.type "dict")
 |dT {a:Addr}{kvs:List (List Key×V)} (e:H a=some (.dT kvs)):p8 K H (.ref a) (.type "dict")
 |ins {a C dx:Addr}{fs:List (Str×V)} (e:H a=some (.ins C dx fs)) (cl:GL K C) (ha:W.findIn K (.ref C) "__class__"=some (some (.builtin "object.__class__")))
   (hn:W.specialIn K (.builtin "object.__class__") "__get__"=some (some (.builtin "getset_descriptor.__get__"))) (htk:W.takesIn K (.builtin "object.__class__")=some true)
   (hm:W.mroIn K C (.type "object")=some true):p8 K H (.ref a) (.ref C)
theorem Am{x:V}{u t:Value}(I:Inv X pins σ H s)(rx:RelV x u)(ty:p8 X.K H x t)(e:W.kitOne X.K t c=some b)(h:∀tk,Q (.bool b) {s with toks:=tk}):wpAny (model X.prog X.w) A (call (.builtin "isinstance") [u,c]) Q E s:=by
 cases ty with
 |non=>cases(show u=Value.none from rx);exact abv W.kitx_none I.qS True.intro e (λz=>nomatch z) h
 |bl y=>cases(show u=Value.bool y from rx);exact abv W.kitx_bool I.qS True.intro e (λz=>nomatch z) h
 |int i=>obtain⟨t,q⟩:=(show ∃t,u=Value.int i t from rx);cases q;exact abv W.kitx_int I.qS True.intro e (λz=>nomatch z) h
 |str y=>obtain⟨t,q⟩:=(show ∃t,u=Value.str y t from rx);cases q;exact abv W.kitx_str I.qS True.intro e (λz=>nomatch z) h
 |kj y=>obtain⟨t,q⟩:=(show ∃t,u=Value.float y t from rx);cases q;exact abv W.kitx_float I.qS True.intro e (λz=>nomatch z) h
 |@lst a xs ea =>
  cases(show u=Value.ref a from rx)
  obtain⟨_,_,n,_,h1⟩:=(show cU X.prog X.w H s.heap a (.lst xs) from I.hok a _ ea)
  exact abv W.kitx_list I.qS ⟨_,h1,rfl⟩ e (λz=>nomatch z) h
 |@EA a ob xs ea =>
  cases(show u=Value.ref a from rx)
  obtain⟨_,_,_,n,_,h1⟩:=(show cU X.prog X.w H s.heap a (.EA ob (.lst xs)) from I.hok a _ ea)
  exact abv W.kitx_list I.qS ⟨_,h1,rfl⟩ e (λz=>nomatch z) h
 |@tup a xs ea =>
  cases(show u=Value.ref a from rx)
  obtain⟨_,_,_,p⟩:=(show cU X.prog X.w H s.heap a (.tup xs) from I.hok a _ ea)
  obtain⟨o,h1,h2,_⟩:=p
  exact abv W.kitx_tuple I.qS ⟨o,h1,h2⟩ e (λz=>nomatch z) h
 |@dK a kvs ea =>
  cases(show u=Value.ref a from rx)
  obtain⟨_,_,vs,_,p⟩:=(show cU X.prog X.w H s.heap a (.dK kvs) from I.hok a _ ea)
  obtain⟨o,es,ep,h1,h2,_⟩:=p
  exact abv W.kitx_dict I.qS ⟨o,h1,h2.1⟩ e (λz=>nomatch z) h
 |@dT a kvs ea =>
  cases(show u=Value.ref a from rx)
  obtain⟨_,_,xs,_,o,es,ep,h1,h2,_⟩:=(show cU X.prog X.w H s.heap a (.dT kvs) from I.hok a _ ea)
  exact abv W.kitx_dict I.qS ⟨o,h1,h2.1⟩ e (λz=>nomatch z) h
 |@ins a C dx fs ea cl ha hn htk hm =>
  cases(show u=Value.ref a from rx)
  obtain⟨mA,O,_⟩:=xH I.hok ea
  obtain⟨od,J,_⟩:=O.look
  exact abv (W.kitx_own (cl.get _) cl.hd ha hn htk hm) I.qS J e (λz=>nomatch z) h
end
structure fK(k:Nat)(A:Around):Prop where
 hd:A.handled=none
 dp:A.depth+3*k+5<recursionLimit
 un:A.units+16*k+200<cLine
theorem fK.mono{j k:Nat}{A:Around}(r:fK k A)(h:j<=k):fK j A:=⟨r.hd,by have:=r.dp;omega,by have:=r.un;omega⟩
theorem fK.deeper{k:Nat}{A:Around}(r:fK (k+1) A)(env:Env):fK k (A.deeper env) :=
 ⟨r.hd,by have:=r.dp;show A.depth+1+3*k+5<_;omega,by have:=r.un;show A.units+3+16*k+200<_;omega⟩
theorem EI{A:Around}{C:Addr}{us:List Value}{kw:List (Str×Value)}:(A.under (.builtin "type.__call__" ⟨.ref C::us,kw⟩)).depth=A.depth+1:=by
 first|rfl|simp[Around.under,Code.weight,Code.isCreation,Code.isGuard,Code.isCaller,Code.frames,Code.isFrame,guardIds]
theorem EJ{A:Around}{C:Addr}{us:List Value}{kw:List (Str×Value)}:(A.under (.builtin "type.__call__" ⟨.ref C::us,kw⟩)).units=A.units+1:=by
 first|rfl|simp[Around.under,Code.cUnits,Code.frames,Code.isFrame]
theorem fK.make{k:Nat}{A:Around}(r:fK (k+1) A)(C:Addr)(us:List Value)(kw:List (Str×Value)):fK k (A.under (.builtin "type.__call__" ⟨.ref C::us,kw⟩)) :=
 ⟨r.hd,by have:=r.dp;rw[EI];omega,by have:=r.un;rw[EJ];omega⟩
theorem fK.depth{k:Nat}{A:Around}(r:fK k A):A.depth<recursionLimit:=by have:=r.dp;omega
theorem fK.units{k:Nat}{A:Around}(r:fK k A):A.units+64<cLine:=by have:=r.un;omega
theorem fK.aM{k:Nat}{A:Around}(r:fK k A):A.units<cLine:=by have:=r.un;omega
def SA:TA:=λ_ H Q=>Q [] H
def SD(ta:TE)(tr:TA):TA:=λσ H Q=>ta σ H λx H1=>tr σ H1 λxs H2=>Q (x::xs) H2
section
variable{X:Cx}{e:Expr}{es:List Expr}{te:TE}{t:TA}{pos:Pos}
theorem ai:PA X [] SA:=λ_ _ _ _ H Q I h=>Calls.spliced_nil ⟨[],H,I,.nil,h⟩
theorem af(ha:PE X e te)(hr:PA X es t)(hs:starEach (e::es) X.env=(false,eval e X.env)::starEach es X.env:=by rfl):PA X (e::es) (SD te t):=by
 intro pos pins s σ H Q I h
 rw[hs]
 show wpAny _ _ (spliced ((false,eval e X.env)::backTo pos (starEach es X.env))) _ _ s
 refine Calls.spliced_cons (cy (ha pins s σ H _ I h) λu s1 ⟨x,H1,I1,r1,q1⟩=>?_)
 exact cy (hr pos pins s1 σ H1 _ I1 q1) λus s2 ⟨xs,H2,I2,r2,q2⟩=>⟨x::xs,H2,I2,.cons r1 r2,q2⟩
def Wj(t:TA):TE:=λσ H Q=>t σ H λxs H1=>xs.length<=sizeLine/\∀p,H1 p=none->Q (.ref p) (upd H1 p (.tup xs))
def Wk(t:TA):TE:=λσ H Q=>t σ H λxs H1=>xs.length<=sizeLine/\∀p,H1 p=none->Q (.ref p) (upd H1 p (.lst xs))
theorem aD{x1}(h:PA X es t):PE X (.Tuple es x1 pos) (Wj t):=by
 intro pins s σ H Q I hq
 refine wpAny_Tuple_spliced (cy (h pos pins s σ H _ I hq) λus s1 ⟨xs,H1,I1,r,z,q⟩=>⟨by rw[←r.length];exact z,?_⟩)
 have hf:H1 s1.heap.objs.size=none:=I1.hok.fresh (aan _)
 refine⟨.ref s1.heap.objs.size,upd H1 s1.heap.objs.size (.tup xs),I1.laid (t':=s1.toks) (λb u e=>aar _ e) (aan _) ?_,rfl,q _ hf⟩
 exact⟨z,us,r,⟨_,aaz _ rfl,O,_,O⟩⟩
theorem eF(h:PA X es t):PE X (.List es pos) (Wk t):=by
 intro pins s σ H Q I hq
 refine wpAny_List_spliced (cy (h pos pins s σ H _ I hq) λus s1 ⟨xs,H1,I1,r,z,q⟩=>⟨by rw[←r.length];exact z,?_⟩)
 have hf:H1 s1.heap.objs.size=none:=I1.hok.fresh (aan _)
 refine⟨.ref s1.heap.objs.size,upd H1 s1.heap.objs.size (.lst xs),I1.laid (t':=s1.toks) (λb u e=>aar _ e) (aan _) ?_,rfl,q _ hf⟩
 exact⟨z,us,0,r,aaz _ rfl⟩
end
abbrev Sp:=List V->Hp->VK->XK->Prop
abbrev Jq:=List Env->Hp->Shared->XK->Value->Shared->Prop
structure EK(P:Program)(w:World)(K:W.Frag)(mg:Str->Option Value)(base:Heap)(A:Around)(outer:List Env)(s:Shared)(H:Hp):Prop where
 frames:A.frames=some outer
 mod:Mod K mg base
 bs:∀b o,base.get? b=some o->s.heap.get? b=some o/\H b=none
 Mg:base.objs.size<=s.heap.objs.size
 vZ:s.heap.FunFrames base outer
 O9:∀b∈frs outer,H b=none
 hok:vt P w H s.heap
 bare:AllBare s.gens
def CE(outer:List Env)(P:Program)(w:World)(H:Hp)(s:Shared)(Q:VK)(u:Value)(s':Shared):Prop :=
 ∃v H',s'.os=s.os/\AllBare s'.gens/\Un (frs outer) [] H H' s.heap s'.heap/\vt P w H' s'.heap/\RelV v u/\Q v H'
def CR(CX:Jq)(outer:List Env)(P:Program)(w:World)(H:Hp)(s:Shared)(Q:VK)(E:XK)(r:Result)(s':Shared):Prop :=
 match r with
 | .ok (.ret u)=>CE outer P w H s Q u s'
 | .ok _=>False
 | .error e=>CX outer H s E e s'
structure bh(P:Program)(w:World)(K:W.Frag)(mg:Str->Option Value)(base:Heap)(CX:Jq)(k:Nat)(f:Addr)(fd:FuncData)(ps:List Str)(sp:Sp):Prop where
 len:∀vs H Q E,sp vs H Q E->vs.length=ps.length
 run:∀(A:Around)(outer:List Env)(s:Shared)(H:Hp)(args:Args)(us:List Value)(vs:List V)(Q:VK)(E:XK),fK k A->EK P w K mg base A outer s H->BindsTo s fd args (ps.zip us)->Vals vs us->sp vs H Q E->codeAny (model P w) A (.call (.ref f) args) (CR CX outer P w H s Q E) s
theorem EK.make{P:Program}{w:World}{K:W.Frag}{mg:Str->Option Value}{base:Heap}{A:Around}{outer:List Env}{s:Shared}{H:Hp}(e:EK P w K mg base A outer s H)(C:Addr)(us:List Value)(kw:List (Str×Value)):EK P w K mg base (A.under (.builtin "type.__call__" ⟨.ref C::us,kw⟩)) outer s H:=⟨by first|exact e.frames | (simpa [Around.under,Code.envs,Code.isFrame,pushEnvs]using e.frames),e.mod,e.bs,e.Mg,e.vZ,e.O9,e.hok,e.bare⟩
section
variable{X:Cx}{pins:List (Addr×Obj)}{σ:St}{H:Hp}{s s':Shared}
theorem Inv.SE(I:Inv X pins σ H s):EK X.prog X.w X.K X.mg X.base X.A X.stack s H :=
 ⟨I.ok.frames,I.ok.mod,I.bs,aaq I.ok.Mg I.sz,I.stack,I.GD,I.hok,I.bare⟩
theorem Inv.after{Q:VK}{u:Value}(I:Inv X pins σ H s)(h:CE X.stack X.prog X.w H s Q u s'):EP X pins σ Q u s':=by
 obtain⟨v,H',os,bare,un,hok,r,q⟩:=h
 obtain⟨hh,g,d,t,os'⟩:=s'
 obtain rfl:os'=s.os:=os
 exact⟨v,H',I.call (h':=hh) (g':=g) (d':=d) (t':=t) (ch:=[]) un hok bare (λb z=>absurd z (by simp)),r,q⟩
end
def OI(sp:Sp)(zk:List V)(E:XK)(t:TA):TE:=λσ H Q=>t σ H λvs H1=>sp (vs++zk) H1 Q E
def OJ(C:Addr)(m:Str)(sp:Sp)(zk:List V)(E:XK)(ta:TE)(t:TA):TE:=λσ H Q=>ta σ H λx H1=>∃a dx fs,x=.ref a/\H1 a=some (.ins C dx fs)/\fs.lookup m=none/\t σ H1 λvs H2=>sp (x::(vs++zk)) H2 Q E
def SG(C:Addr)(sp:Sp)(zk:List V)(E:XK)(t:TA):TE:=λσ H Q=>t σ H λvs H1=>∀x dx,H1 x=none->H1 dx=none->dx≠x->sp (.ref x::(vs++zk)) (upd (upd H1 dx (.own x)) x (.ins C dx [])) (λv H2=>v=.non/\Q (.ref x) H2) E
def Binds(K:W.Frag)(fd:FuncData)(ps:List Str)(ds:List Value):Prop :=
 ∀(s:Shared)(us:List Value),K.In s.heap->(us++ds).length=ps.length->BindsTo s fd ⟨us,[]⟩ (ps.zip (us++ds))
theorem Binds.all{K:W.Frag}{fd:FuncData}{ps:List Str}(h:∀us:List Value,us.length=ps.length->bindArgs fd ⟨us,[]⟩=pure (ps.zip us)):Binds K fd ps []:=λs us _ hl=>by
 rw[aaH]at hl⊢
 exact .of_eq (h us hl)
def Passes(CX:Jq)(X:Cx)(E:XK):Prop:=∀(pins:List (Addr×Obj))(σ:St)(H:Hp)(s:Shared)(e:Value)(s':Shared),Inv X pins σ H s->CX X.stack H s E e s'->X.xe e s'
section
variable{X:Cx}{CX:Jq}{k:Nat}{f C:Addr}{fd:FuncData}{ps:List Str}{sp:Sp}{zk:List V}{ds:List Value}{E:XK}{x m:Str}{p pos apos:Pos}{e o:Expr}{es:List Expr}{ta:TE}{t:TA}
theorem EL{pins:List (Addr×Obj)}{σ:St}{H:Hp}{s:Shared}{Q:VK}{us:List Value}{vs:List V}(F:bh X.prog X.w X.K X.mg X.base CX k f fd ps sp)(hr:fK k X.A)(hb:Binds X.K fd ps ds)(hd:Vals zk ds)(hx:Passes CX X E)(I:Inv X pins σ H s)(r:Vals vs us)(h:sp (vs++zk) H Q E):wpAny (model X.prog X.w) X.A (call (.ref f) us) (EP X pins σ Q) X.xe s:=by
 have r2:Vals (vs++zk) (us++ds):=r.append hd
 have hl:(us++ds).length=ps.length:=by rw[←r2.length];exact F.len _ _ _ _ h
 refine wpAny_call (codeAny_mono (F.run X.A X.stack s H ⟨us,[]⟩ (us++ds) (vs++zk) Q E hr I.SE (hb s us I.qS hl) r2 h) λr s' hq=>?_)
 cases r with
 |error e=>exact hx pins σ H s e s' I hq
 |ok fl =>
  cases fl with
  |ret u=>exact I.after hq
  |next=>exact False.elim hq
  |brk=>exact False.elim hq
  |cont=>exact False.elim hq
theorem GN(F:bh X.prog X.w X.K X.mg X.base CX k f fd ps sp)(hr:fK k X.A)(hg:Gl X x)(hm:X.mg x=some (.ref f))(hk:W.keepIn X.K (.ref f)=true)(hb:Binds X.K fd ps ds)(hd:Vals zk ds)(hx:Passes CX X E)(ha:PA X (e::es) t)(hdb:(x==("__debug__":Str))=false:=by decide)(he:starEach (e::es) X.env=(false,eval e X.env)::starEach es X.env:=by rfl)(hpl:(backTo pos (starEach es X.env)).any (·.1)=false:=by rfl):PE X (.Call (.Name x p) (e::es) [] pos) (OI sp zk E t):=by
 intro pins s σ H Q I h
 refine abL (Bo I hg hm ?_ hdb)
 refine W.callWith_K (h₀:=X.base) I.ok.mod.R8 hk (cy (ha pos pins s σ H _ I h) λus s1 ⟨vs,H1,I1,r,q⟩=>⟨I1.qS,?_⟩) he hpl
 exact EL F hr hb hd hx I1 r q
theorem gU{pl:Sem Bool}(he:PE X o ta)(c:GL X.K C)(hm:Meth X.K C m f)(F:bh X.prog X.w X.K X.mg X.base CX k f fd ps sp)(hr:fK k X.A)(hb:Binds X.K fd ps ds)(hd:Vals zk ds)(hx:Passes CX X E)(ha:PA X (e::es) t)(hst:starEach (e::es) X.env=(false,eval e X.env)::starEach es X.env:=by rfl)(hpl:(backTo pos (starEach es X.env)).any (·.1)=false:=by rfl)(ht:eval (.Call (.Attribute o m apos) (e::es) [] pos) X.env=(do
   let ov ←eval o X.env
   standAt apos.atName
   let (f,first) ←holding [ov] (getMethod ov m pl)
   callWith pos f first (backTo pos (starEach (e::es) X.env)) (backToKw pos (keywordEach [] X.env))):=by rfl):PE X (.Call (.Attribute o m apos) (e::es) [] pos) (OJ C m sp zk E ta t):=by
 intro pins s σ H Q I h
 refine W.methodCall_KW (pl:=pl) (cy (he pins s σ H _ I h) λu s1 ⟨x,H1,I1,rx,a,dx,fs,ex,ea,l,q⟩=>?_) ht
 subst ex
 obtain rfl:u=Value.ref a:=rx
 refine xW I1 ea c hm l ?_
 refine W.callWith_K (first:=[.ref a]) (h₀:=X.base) I.ok.mod.R8 hm.kp (cy (ha pos pins s1 σ H1 _ I1 q) λus s2 ⟨vs,H2,I2,r,q2⟩=>⟨I2.qS,?_⟩) hst hpl
 exact EL (us:=.ref a::us) (vs:=.ref a::vs) F hr hb hd hx I2 (.cons rfl r) q2
theorem C4{pl:Sem Bool}(he:PE X o ta)(c:GL X.K C)(hm:Meth X.K C m f)(F:bh X.prog X.w X.K X.mg X.base CX k f fd ps sp)(hr:fK k X.A)(hb:Binds X.K fd ps ds)(hd:Vals zk ds)(hx:Passes CX X E)(ht:eval (.Call (.Attribute o m apos) [] [] pos) X.env=(do
   let ov ←eval o X.env
   standAt apos.atName
   let (f,first) ←holding [ov] (getMethod ov m pl)
   callWith pos f first (backTo pos (starEach [] X.env)) (backToKw pos (keywordEach [] X.env))):=by rfl):PE X (.Call (.Attribute o m apos) [] [] pos) (OJ C m sp zk E ta SA):=by
 intro pins s σ H Q I h
 refine W.methodCall_KW (pl:=pl) (cy (he pins s σ H _ I h) λu s1 ⟨x,H1,I1,rx,a,dx,fs,ex,ea,l,q⟩=>?_) ht
 subst ex
 obtain rfl:u=Value.ref a:=rx
 refine xW I1 ea c hm l ?_
 exact W.callWith_K0 (first:=[.ref a]) I1.qS hm.kp (EL (us:=[.ref a]) (vs:=[.ref a]) F hr hb hd hx I1 (.cons rfl .nil) q)
structure Mk(K:W.Frag)(C f:Addr):Prop where
 makes:W.makesIn K C=true
 init:W.findIn K (.ref C) "__init__"=some (some (.ref f))
 fn:W.isFn K (.ref f)=true
 kp:W.keepIn K (.ref C)=true
theorem JO{pins:List (Addr×Obj)}{σ:St}{H:Hp}{s:Shared}{Q:VK}{us:List Value}{vs:List V}(M:Mk X.K C f)(F:bh X.prog X.w X.K X.mg X.base CX k f fd ps sp)(hr:fK (k+1) X.A)(hb:Binds X.K fd ps ds)(hd:Vals zk ds)(hx:Passes CX X E)(I:Inv X pins σ H s)(r:Vals vs us)(h:∀x dx,H x=none->H dx=none->dx≠x->sp (.ref x::(vs++zk)) (upd (upd H dx (.own x)) x (.ins C dx [])) (λv H2=>v=.non/\Q (.ref x) H2) E):wpAny (model X.prog X.w) X.A (call (.ref C) us) (EP X pins σ Q) X.xe s:=by
 have hq:=h (s.heap.objs.size+1) s.heap.objs.size (I.hok.fresh (Nat.le_succ _)) (I.hok.fresh (aan _)) (aaR (Nat.lt_succ_self _))
 have I2:=Inv.made (C:=C) I
 have r2:Vals (V.ref (s.heap.objs.size+1)::(vs++zk)) (Value.ref (s.heap.objs.size+1)::(us++ds)):=.cons rfl (r.append hd)
 have hl:(Value.ref (s.heap.objs.size+1)::us++ds).length=ps.length:=by
  have e:=r2.length
  rw[F.len _ _ _ _ hq]at e
  exact e.symm
 refine wpAny_call (JN (f:=f) I.qS M.makes M.init (beq_iff_eq.mp M.fn) (codeAny_mono (F.run _ X.stack _ _ ⟨Value.ref (s.heap.objs.size+1)::us,[]⟩ (Value.ref (s.heap.objs.size+1)::(us++ds)) _ _ E (hr.make C us [])
  (I2.SE.make C us []) (hb _ (Value.ref (s.heap.objs.size+1)::us) I2.qS hl) r2 hq) λr s' hq'=>?_))
 cases r with
 |error e=>exact hx pins σ _ _ e s' I2 hq'
 |ok fl =>
  cases fl with
  |ret u =>
   obtain⟨v,H',I3,rv,ev,q3⟩:=I2.after hq'
   subst ev
   exact⟨rv,⟨V.ref (s.heap.objs.size+1),H',I3,O,q3⟩⟩
  |next=>exact False.elim hq'
  |brk=>exact False.elim hq'
  |cont=>exact False.elim hq'
theorem jy(M:Mk X.K C f)(F:bh X.prog X.w X.K X.mg X.base CX k f fd ps sp)(hr:fK (k+1) X.A)(hg:Gl X x)(hm:X.mg x=some (.ref C))(hb:Binds X.K fd ps ds)(hd:Vals zk ds)(hx:Passes CX X E)(ha:PA X (e::es) t)(hdb:(x==("__debug__":Str))=false:=by decide)(he:starEach (e::es) X.env=(false,eval e X.env)::starEach es X.env:=by rfl)(hpl:(backTo pos (starEach es X.env)).any (·.1)=false:=by rfl):PE X (.Call (.Name x p) (e::es) [] pos) (SG C sp zk E t):=by
 intro pins s σ H Q I h
 refine abL (Bo I hg hm ?_ hdb)
 refine W.callWith_K (h₀:=X.base) I.ok.mod.R8 M.kp (cy (ha pos pins s σ H _ I h) λus s1 ⟨vs,H1,I1,r,q⟩=>⟨I1.qS,?_⟩) he hpl
 exact JO M F hr hb hd hx I1 r q
end
section
variable{X:Cx}{CX:Jq}{k:Nat}{f C:Addr}{fd:FuncData}{ps ks:List Str}{sp:Sp}{E:XK}{x m:Str}{p pos apos kpos:Pos}{e o:Expr}{es:List Expr}{kws:List Keyword}{te ta:TE}{t tk:TA}{nm:Option Str}
variable{g:List Value->List Value->List Value}{gV:List V->List V->List V}
end
structure aE(N P:List Str)(sc:Scope):Prop where
 kind:sc.kind=.function
 co:sc.isCoroutine=false
 gen:sc.isGenerator=false
 nd:N.Nodup
 pre:N.take P.length=P
 par:∀x∈P,sc.names.lookup x=some .local\/sc.names.lookup x=some .cell
 Px:∀y∈sc.names,y.2≠.free
theorem An{kindOf:Str->Option NameKind}{x:Str}:∀{binds:List (Str×Value)}{m:Str->Option Value},(∀v,(x,v)∉binds)->bindL kindOf binds m x=m x
 |[],_,_=>rfl
 | (n,v)::r,m,h=>by
  unfold bindL
  rw[An λw hw=>h w (aay _ hw)]
  split
  ·have:x≠n:=by rintro rfl;exact h v aaE
   simp[this]
  ·rfl
theorem Ao{kindOf:Str->Option NameKind}{x:Str}:∀{binds:List (Str×Value)}{m:Str->Option Value},(∀v,(x,v)∉binds)->bindC kindOf binds m x=m x
 |[],_,_=>rfl
 | (n,v)::r,m,h=>by
  unfold bindC
  rw[Ao λw hw=>h w (aay _ hw)]
  split
  ·rfl
  ·have:x≠n:=by rintro rfl;exact h v aaE
   simp[this]
theorem Aq{kindOf:Str->Option NameKind}{x:Str}{v:Value}:∀{P:List Str}{vs:List Value}{i:Nat}{m:Str->Option Value},P.Nodup->P[i]?=some x->vs[i]?=some v->kindOf x=some .local->bindL kindOf (P.zip vs) m x=some v
 |[],_,_,_,_,h,_,_=>by simp at h
 |_::_,[],_,_,_,_,h,_=>by simp at h
 |p::P,w::vs,0,m,nd,h1,h2,hk=>by
  simp at h1 h2;subst h1;subst h2
  show bindL kindOf ((p,w)::P.zip vs) m p=_
  unfold bindL
  rw[An λv hv=>(abq.mp nd).1 (List.of_mem_zip hv).1,aaj hk]
  simp
 |p::P,w::vs,i+1,m,nd,h1,h2,hk=>by
  show bindL kindOf ((p,w)::P.zip vs) m x=_
  unfold bindL
  exact Aq (i:=i) (abq.mp nd).2 (by simpa using h1) (by simpa using h2) hk
theorem Ar{kindOf:Str->Option NameKind}{x:Str}{v:Value}:∀{P:List Str}{vs:List Value}{i:Nat}{m:Str->Option Value},P.Nodup->P[i]?=some x->vs[i]?=some v->kindOf x≠some .local->bindC kindOf (P.zip vs) m x=some v
 |[],_,_,_,_,h,_,_=>by simp at h
 |_::_,[],_,_,_,_,h,_=>by simp at h
 |p::P,w::vs,0,m,nd,h1,h2,hk=>by
  simp at h1 h2;subst h1;subst h2
  show bindC kindOf ((p,w)::P.zip vs) m p=_
  unfold bindC
  rw[Ao λv hv=>(abq.mp nd).1 (List.of_mem_zip hv).1,aai hk]
  simp
 |p::P,w::vs,i+1,m,nd,h1,h2,hk=>by
  show bindC kindOf ((p,w)::P.zip vs) m x=_
  unfold bindC
  exact Ar (i:=i) (abq.mp nd).2 (by simpa using h1) (by simpa using h2) hk
def start(N:List Str)(vs:List V):St:=vs.map some++List.replicate (N.length-vs.length) none
def EM(CX:Jq)(P:Program)(w:World)(K:W.Frag)(mg:Str->Option Value)(base:Heap)(N:List Str)(qual:Str)(scope:Scope)(f:Addr)(cd:Value)(A:Around)(outer:List Env)(s:Shared)(H:Hp)(E:XK):Cx where
 prog:=P
 w:=w
 K:=K
 mg:=mg
 base:=base
 A:=A.deeper (envOfC qual scope s.heap.objs.size f cd)
 N:=N
 s₀:=s
 H₀:=H
 env:=envOfC qual scope s.heap.objs.size f cd
 outer:=outer
 stack:=envOfC qual scope s.heap.objs.size f cd::outer
 ex:=[]
 calm:=true
 fn:=λ_=>true
 pn:=[]
 xe:=λe s'=>wpAny (model P w) (A.deeper (envOfC qual scope s.heap.objs.size f cd)) (leaving (envOfC qual scope s.heap.objs.size f cd) e) (λ_ s''=>CX outer H s E e s'') (λe' s''=>CX outer H s E e' s'') s'
theorem C5{sc:Scope}{n:Nat}{x:Str}(h:sc.names.lookup x=some .cell):∃c,(cellsFrom n sc.names []).lookup x=some c:=by
 have q:=W.cellsFrom_some sc.names n [] (.inl h)
 exact Option.isSome_iff_exists.mp q
theorem HQ{CX:Jq}{P:Program}{w:World}{K:W.Frag}{mg:Str->Option Value}{base:Heap}{N ps:List Str}{qual:Str}{scope:Scope}{f:Addr}{cd:Value}{A:Around}{outer:List Env}{s s1:Shared}{H:Hp}{E:XK}{us:List Value}{vs:List V}(S:aE N ps scope)(hd:A.handled=none)(e0:EK P w K mg base A outer s H)(hl:vs.length=ps.length)(r:Vals vs us)(x:InCallC s s.heap.objs.size (bindL (envOfC qual scope s.heap.objs.size f cd).kindOf (ps.zip us) λ_=>none) (cellsFrom (s.heap.objs.size+1) scope.names []) (bindC (envOfC qual scope s.heap.objs.size f cd).kindOf (ps.zip us) λ_=>none) s1):Inv (EM CX P w K mg base N qual scope f cd A outer s H E) [] (start N vs) H s1:=by
 have hpl:ps.length<=N.length:=by have:=congrArg List.length S.pre;rw[aa6]at this;omega
 obtain⟨h1,tk,rfl,hk⟩:=x.done
 have SH:∀b:Addr,b∉(EM CX P w K mg base N qual scope f cd A outer s H E).ex:=λb z=>absurd (show b∈([]:List Addr) from z) (by simp)
 refine⟨⟨e0.mod,S.kind,O,O,aan _,λy z c h1 h2=>?_,λy hy=>?_,λy c _ h=>?_,λ_=>hd,Around.frames_deeper e0.frames,.inr ⟨O,O⟩,λb z=>absurd z (SH b),e0.bs,e0.Mg,λb _ _=>SH b,λb z=>absurd z (SH b),e0.vZ,e0.O9⟩,O,e0.bare,Un.kept hk,⟨_,x.toInCall.ns,λi y v h1 h2 h3=>?_⟩,λy c h=>⟨_,x.cell y c h⟩,e0.hok.fresh (aan _),λy c h=>?_,λp hp=>absurd (show p∈([]:List (Addr×Obj)) from hp) (by simp),e0.hok.kept hk,?_⟩
 ·exact name_of_addr x.apart (aa8 h1) (aa8 h2)
 ·have hy:scope.names.lookup y=some .cell\/scope.names.lookup y=some .free:=hy
  rcases hy with hy|hy
  ·exact C5 hy
  ·exact absurd rfl (S.Px _ (aa8 hy))
 ·exact Nat.le_of_lt (x.above y c (aa8 h))
 ·have hi:i<vs.length:=by
   unfold start at h2
   by_cases hi:i<vs.length
   ·exact hi
   ·rw[List.getElem?_append_right (by simpa using hi)]at h2
    rw[List.getElem?_replicate]at h2
    split at h2<;>cases h2
  have ha:vs[i]?=some v:=by
   unfold start at h2
   rw[List.getElem?_append_left (by simpa using hi),abS]at h2
   cases e:vs[i]? with
   |none=>rw[e]at h2;cases h2
   |some a=>rw[e]at h2;cases h2;rfl
  obtain⟨u,hu,rv⟩:=r.get ha
  have hp:ps[i]?=some y:=by
   rw[←S.pre,List.getElem?_take_of_lt (by omega)];exact h1
  have ZG:ps.Nodup:=by rw[←S.pre];exact S.nd.sublist (List.take_sublist _ _)
  refine⟨u,rv,?_⟩
  rcases S.par y (aaZ hp) with k|k
  ·exact .inl ⟨k,Aq ZG hp hu k⟩
  ·obtain⟨c,e⟩:=C5 (n:=s.heap.objs.size+1) k
   refine .inr ⟨.inl k,c,e,?_⟩
   have q:=x.cell y c e
   rw[Ar ZG hp hu (by show scope.names.lookup y≠_;rw[k];decide)]at q
   exact q
 ·exact e0.hok.fresh (Nat.le_of_lt (x.above y c (aa8 h)))
 ·unfold start
  show _=N.length
  rw[aao,aav,abr]
  omega
theorem OL{CX:Jq}{P:Program}{w:World}{K:W.Frag}{mg:Str->Option Value}{base:Heap}{k:Nat}{f:Addr}{name qual:Str}{params:Arguments}{body:List Stmt}{scope:Scope}{dV kV doc pm cdv ct oc:Value}{an od:Option Addr}{osl:Array (Option Value)}{N ps:List Str}{sp:Sp}(lk:K.lookup f=some ⟨oc,od,.func (W.fnOf name qual params body scope dV kV doc pm an cdv ct),osl⟩)(hcd:W.codeIn K cdv qual=true)(S:aE N ps scope)(len:∀vs H Q E,sp vs H Q E->vs.length=ps.length)(hbody:∀(A:Around)(outer:List Env)(s:Shared)(H:Hp)(vs:List V)(Q:VK)(E:XK),fK k (A.deeper (envOfC qual scope s.heap.objs.size f cdv))->sp vs H Q E->∃t,GG (EM CX P w K mg base N qual scope f cdv A outer s H E) body t/\t {nx:=λ_ H'=>Q .non H',rt:=Q} (start N vs) H):bh P w K mg base CX (k+1) f (W.fnOf name qual params body scope dV kV doc pm an cdv ct) ps sp:=by
 refine⟨len,λA outer s H args us vs Q E hr e0 hb r Mi=>?_⟩
 have hl:=len _ _ _ _ Mi
 have KX:K.In s.heap:=e0.mod.R8.keeps λb o e=>(e0.bs b o e).1
 have lim:s.heap.NoLimit:=e0.mod.nolimit.keeps λb o e=>(e0.bs b o e).1
 have hkind:∀y∈ps.zip us,scope.names.lookup y.1=some .local\/(scope.names.lookup y.1=some .cell/\((cellsFrom (s.heap.objs.size+1) scope.names []).lookup y.1).isSome=true):=λ⟨n,v⟩ hy=>by
  rcases S.par n (List.of_mem_zip hy).1 with q|q
  ·exact .inl q
  ·exact .inr ⟨q,W.cellsFrom_some _ _ _ (.inl q)⟩
 refine codeAny_call_function hr.depth (KX _ _ lk) rfl S.co S.gen rfl (W.codeRec_of KX hcd) (hb _ _ _ _ ?_)
 refine wpAny_newFunctionEnv_cells S.kind hkind λenv he s1 x=>?_
 subst he
 refine⟨lim.keeps x.toInCall.keep,codeAny_func ?_⟩
 obtain⟨t,ht,hq⟩:=hbody A outer s H vs Q E (hr.deeper _) Mi
 have I:Inv (EM CX P w K mg base N qual scope f cdv A outer s H E) [] (start N vs) H s1:=HQ S hr.hd e0 hl r x
 refine abt (ht [] s1 (start N vs) H _ I hq) (λfl s' hs=>?_) λe s' hs=>hs
 have fin:∀{σ':St}{H':Hp}{v:V}{u:Value},Inv (EM CX P w K mg base N qual scope f cdv A outer s H E) [] σ' H' s'->RelV v u->Q v H'->CE outer P w H s Q u s' :=
  λ{σ' H' v u} J rv q=>⟨v,H',J.os,J.bare,J.base,J.hok,rv,q⟩
 cases fl with
 |ret u =>
  obtain⟨v,σ',H',J,rv,q⟩:=hs
  exact fin J rv q
 |next =>
  obtain⟨σ',H',J,q⟩:=hs
  exact fin (v:=V.non) (u:=Value.none) J rfl q
 |brk =>
  obtain⟨_,_,_,q⟩:=hs
  exact False.elim q
 |cont =>
  obtain⟨_,_,_,q⟩:=hs
  exact False.elim q
section
variable{X:Cx}{x:Str}{p pos:Pos}{e:Expr}{es:List Expr}{t:TA}{id T:String}{r:List V->Hp->VK->Prop}
def Vl(r:List V->Hp->VK->Prop)(t:TA):TE:=λσ H Q=>t σ H λvs H1=>r vs H1 Q
theorem JP(hc:gJ X (.builtin id) r)(hg:Gl X x)(hm:X.mg x=none)(hv:bootBuiltins x=some (.builtin id))(ha:PA X (e::es) t)(hn:x ≠ "__name__":=by decide)(hdb:(x==("__debug__":Str))=false:=by decide)(he:starEach (e::es) X.env=(false,eval e X.env)::starEach es X.env:=by rfl)(hpl:(backTo pos (starEach es X.env)).any (·.1)=false:=by rfl):PE X (.Call (.Name x p) (e::es) [] pos) (Vl r t):=by
 intro pins s σ H Q I h
 refine abL (p7 I hg hm hv ?_ hn hdb)
 exact PyProof.Rows.callWith_builtin1 (cy (ha pos pins s σ H _ I h) λus s1 ⟨vs,H1,I1,r1,q1⟩=>hc pins s1 σ H1 vs us Q I1 r1 q1) he hpl
theorem HR(hc:gJ X (.type T) r)(hg:Gl X x)(hm:X.mg x=none)(hv:bootBuiltins x=some (.type T))(ha:PA X (e::es) t)(hn:x ≠ "__name__":=by decide)(hdb:(x==("__debug__":Str))=false:=by decide)(he:starEach (e::es) X.env=(false,eval e X.env)::starEach es X.env:=by rfl)(hpl:(backTo pos (starEach es X.env)).any (·.1)=false:=by rfl):PE X (.Call (.Name x p) (e::es) [] pos) (Vl r t):=by
 intro pins s σ H Q I h
 refine abL (p7 I hg hm hv ?_ hn hdb)
 exact abu (cy (ha pos pins s σ H _ I h) λus s1 ⟨vs,H1,I1,r1,q1⟩=>hc pins s1 σ H1 vs us Q I1 r1 q1) he hpl
end
end L2
namespace HT
open PySem PyProof.Rows
section
open PySem.SeqAt
open PySem.AutoSeq1 (wpAny_loadPart')
open PySem.MeetsSeq PySem.MeetsSeq2 PySem.MeetsSeq3
end
section
variable{prog:Program}{w:World}{A:Around}{E:Value->Shared->Prop}{s:Shared}
theorem ME{t b:Addr}{vs ws:List Value}{Q:Value->Shared->Prop}(ht:IsTup s.heap t vs.toArray)(hb:IsTup s.heap b ws.toArray)(hv:vs≠[])(h1:ws=[]->Q (.ref t) s)(h2:ws≠[]->Q (.ref s.heap.objs.size) {s with heap:=s.heap.push {cls:=.type "tuple",data:=.seq (vs++ws).toArray}})(hsz:vs.length+ws.length<=sizeLine):wpAny (model prog w) A (binaryOp .Add (.ref t) (.ref b)) Q E s:=by
 obtain⟨⟨cls,dd,data,sl⟩,ho,hc,n,hd⟩:=id ht
 obtain⟨⟨Wl,dd2,data2,sl2⟩,ho2,hc2,n2,hd2⟩:=id hb
 simp only at hc hd hc2 hd2
 subst hc hd hc2 hd2
 have e:vs.toArray++ws.toArray=(vs++ws).toArray:=by simp
 by_cases hw:ws=[]
 ·exact concat_meets ⟨_,ho,rfl⟩ ⟨_,ho2,rfl⟩ noFill_tuple_add seq_tuple_add PySem.F.slot_tuple_add PySem.F.entry_tuple_add (PySem.F.args_tuple_add_2 _ _)
   (tuple_addW1 t b vs.toArray ws.toArray n n2 dd dd2 sl sl2 (by simpa using hv) (by simp[hw])) ⟨ho,ho2,h1 hw⟩
 ·refine concat_meets ⟨_,ho,rfl⟩ ⟨_,ho2,rfl⟩ noFill_tuple_add seq_tuple_add PySem.F.slot_tuple_add PySem.F.entry_tuple_add (PySem.F.args_tuple_add_2 _ _)
   (tuple_addW2 t b vs.toArray ws.toArray n n2 dd dd2 sl sl2 (by simpa using hv) (by simpa using hw) (by rw[aam,aam];exact hsz)) ⟨ho,ho2,?_⟩
  rw[e]
  exact h2 hw
def f9(n d:Nat):Option Int->Nat
 |none=>d
 |some v=>if v<0 then (v+(n:Int)).toNat else min v.toNat n
theorem JQ(n d:Nat):f9 n d none=d:=rfl
theorem MF(n d k:Nat):f9 n d (some (k:Int))=min k n:=by
 show(if (k:Int)<0 then ((k:Int)+(n:Int)).toNat else min (k:Int).toNat n)=min k n
 rw[aai (by omega),abE]
theorem Py(n d:Nat)(hd:d<=n)(o:Option Int):f9 n d o<=n:=by
 cases o with
 |none=>exact hd
 |some v =>
  show(if v<0 then (v+(n:Int)).toNat else min v.toNat n)<=n
  by_cases hv:v<0
  ·rw[aaj hv];omega
  ·rw[aai hv];exact Nat.min_le_right _ _
theorem GO(v:Int)(n d:Nat):(if v<0 then max (v+(n:Int)) 0 else min v (n:Int))=((f9 n d (some v):Nat):Int):=by
 show(if v<0 then max (v+(n:Int)) 0 else min v (n:Int))=(((if v<0 then (v+(n:Int)).toNat else min v.toNat n):Nat):Int)
 by_cases hv:v<0
 ·simp only[aaj hv];omega
 ·simp only[aai hv];omega
theorem EN(lo hi:Option Int)(n:Nat):Builtin.Slice.sliceAdjust lo hi 1 (n:Int)=(((f9 n 0 lo:Nat):Int),((f9 n n hi:Nat):Int)):=by
 have h1:¬((1:Int)<0):=by omega
 unfold Builtin.Slice.sliceAdjust
 simp only[h1,abm]
 refine Prod.ext ?_ ?_
 ·cases lo with
  |none=>rfl
  |some v=>exact GO v n 0
 ·cases hi with
  |none=>rfl
  |some v=>exact GO v n n
theorem EO(i j:Nat):Builtin.Slice.slicePlaces (i:Int) (j:Int) 1=j-i:=by
 unfold Builtin.Slice.slicePlaces
 have h1:(1:Int)>0:=by omega
 simp only[h1,if_true,Int.ediv_one]
 split<;>omega
theorem xX{v:Value}{o:Option Int}{Q:Option Int->Shared->Prop}(p:IsPart v o)(h:Q o s):wpAny (model prog w) A (Builtin.Slice.slicePartIndex v) Q E s:=by
 cases p with
 |none=>exact slicePart_none h
 |int i t=>exact slicePart_int h
theorem tV{sl:Addr}{vl vu:Value}{lo hi:Option Int}{n:Nat}{Q:Int×Int×Nat->Shared->Prop}(hs:s.heap.IsSliceOf sl vl vu .none)(pl:IsPart vl lo)(pu:IsPart vu hi)(h:Q (((f9 n 0 lo:Nat):Int),1,f9 n n hi-f9 n 0 lo) s):wpAny (model prog w) A (Builtin.Slice.sliceApplied (.ref sl) (pure (n:Int))) Q E s:=by
 obtain⟨os,hos,hcs,hds⟩:=id hs
 unfold Builtin.Slice.sliceApplied Builtin.Slice.sliceFields
 refine aah (aah (aa1 hos hds (x:=vl) rfl (aah (aa1 hos hds (x:=vu) rfl (aah (aa1 hos hds (x:=.none) rfl (aal ?_)))))))
 refine aah (slicePart_none ?_)
 show wpAny _ _ (if ((1:Int)==0)=true then _ else _) _ _ s
 rw[aai (by decide)]
 refine aah (xX pl (aah (xX pu (aah (aal ?_)))))
 show wpAny _ _ (match Builtin.Slice.sliceAdjust lo hi 1 (n:Int) with | (lo,hi)=>pure (lo,(1:Int),Builtin.Slice.slicePlaces lo hi 1)) _ _ s
 rw[EN lo hi n]
 show wpAny _ _ (pure (((f9 n 0 lo:Nat):Int),(1:Int),Builtin.Slice.slicePlaces ((f9 n 0 lo:Nat):Int) ((f9 n n hi:Nat):Int) 1)) _ _ s
 rw[EO]
 exact aal h
theorem JR(xs:Array Value)(i k:Nat):((List.range k).filterMap λ(m:Nat)=>xs[((i:Int)+(m:Int)*1).toNat]?).toArray=((xs.toList.drop i).take k).toArray:=by
 have e:(λ(m:Nat)=>xs[((i:Int)+(m:Int)*1).toNat]?)=λm=>xs[i+m]?:=by
  funext m
  have:((i:Int)+(m:Int)*1).toNat=i+m:=by omega
  rw[this]
 rw[e]
 have:=pick_run xs i k
 rw[List.filterMap_map]at this
 have e2:((λx=>xs[x]?)∘λx=>i+x)=λm=>xs[i+m]?:=rfl
 rw[e2]at this
 rw[this]
theorem qW{t sl:Addr}{items:Array Value}{vl vu:Value}{lo hi:Option Int}{Q:Value->Shared->Prop}(ht:IsTup s.heap t items)(hs:s.heap.IsSliceOf sl vl vu .none)(pl:IsPart vl lo)(pu:IsPart vu hi)(hw:¬(f9 items.size 0 lo=0/\f9 items.size items.size hi=items.size))(h:Q (.ref s.heap.objs.size) {s with heap:=s.heap.push {cls:=.type "tuple",data:=.seq ((items.toList.drop (f9 items.size 0 lo)).take (f9 items.size items.size hi-f9 items.size 0 lo)).toArray}})(hsz:items.size<=sizeLine):wpAny (model prog w) A (getItem (.ref t) (.ref sl)) Q E s:=by
 have GP:sizeOk (.seq ((items.toList.drop (f9 items.size 0 lo)).take (f9 items.size items.size hi-f9 items.size 0 lo)).toArray):=by
  show((items.toList.drop (f9 items.size 0 lo)).take (f9 items.size items.size hi-f9 items.size 0 lo)).toArray.size<=sizeLine
  rw[aam,aa6,List.length_drop,aap]
  omega
 have hj:f9 items.size items.size hi<=items.size:=Py _ _ (aan _) hi
 obtain⟨os,hos,hcs,hds⟩:=id hs
 have hTs:s.TypeIs (.ref sl) "slice":=⟨os,hos,hcs⟩
 unfold getItem
 try with_reducible refine wpAny_holding ?_
 first|refine aah (aal ?_)|skip
 refine aah (wpAny_sequenceKey ht.typeIs (by decide) ?_)
 refine aah (abl (name:=("__getitem__":Str)) ht.typeIs PyProof.Rows.slot_tuple_getitem
  (aa4 PyProof.Rows.slot_tuple_getitem ht.typeIs entry_tuple_getitem ?_ (args_tuple_getitem _ _)))
 show wpAny _ _ (Builtin.Tuple.tupleItemsOf (.ref t) >>= _) _ _ s
 refine aah (tupleItemsOf_ ht ?_)
 refine aah (wpAny_typeOf hTs ?_)
 rw[aaj (by decide)]
 refine aah (tV hs pl pu ?_)
 have hno:¬((((f9 items.size 0 lo:Nat):Int)==0&&(1:Int)==1&&(f9 items.size items.size hi-f9 items.size 0 lo)==items.size)=true):=by
  intro q
  rw[abG,abG]at q
  have q1:((f9 items.size 0 lo:Nat):Int)=0:=eq_of_beq q.1.1
  have q2:f9 items.size items.size hi-f9 items.size 0 lo=items.size:=eq_of_beq q.2
  exact hw ⟨by omega,by omega⟩
 show wpAny _ _ (if (((f9 items.size 0 lo:Nat):Int)==0&&(1:Int)==1&&(f9 items.size items.size hi-f9 items.size 0 lo)==items.size)=true then _ else _) _ _ s
 rw[aai hno,JR]
 first
  |exact aah (m:=Builtin.Tuple.tupleExact _) (aaT (aal ⟨_,rfl,aal h⟩) GP)
  |exact aah (m:=Builtin.Tuple.tupleExact _) (aaT (aah (aal (aal ⟨_,rfl,aal h⟩))) GP)
  |exact aah (aah (m:=Builtin.Tuple.tupleExact _) (aaT (aal (aal ⟨_,rfl,aal h⟩)) GP))
  |exact aah (aah (m:=Builtin.Tuple.tupleExact _) (aaT (aal ⟨_,rfl,aal h⟩) GP))
end
end HT
namespace L2
open PySem PySem.Spec PyProof.Rows
abbrev TO:=St->Hp->(Option Int->Hp->Prop)->Prop
def PO(X:Cx)(e:Option Expr)(t:TO):Prop :=
 ∀(pins:List (Addr×Obj))(s:Shared)(σ:St)(H:Hp)(Q:Option Int->Hp->Prop),Inv X pins σ H s->t σ H Q->wpAny (model X.prog X.w) X.A (evalPart e X.env) (λu s'=>∃o H',Inv X pins σ H' s'/\IsPart u o/\Q o H') X.xe s
def MG:TO:=λ_ H Q=>Q none H
def SI(t:TE):TO:=λσ H Q=>t σ H λx H1=>∃i,x=.int i/\Q (some i) H1
section
variable{X:Cx}{e:Expr}{te:TE}{lo hi:Option Expr}{tl th:TO}{pos p2:Pos}
theorem fB:PO X none MG:=by
 intro pins s σ H Q I h
 rw[evalPart_none]
 exact aal ⟨none,H,I,.none,h⟩
theorem fD(h:PE X e te):PO X (some e) (SI te):=by
 intro pins s σ H Q I hw
 rw[evalPart_some]
 refine cy (h pins s σ H _ I hw) λu s1 ⟨x,H1,I1,r1,q1⟩=>?_
 obtain⟨i,rfl,q⟩:=q1
 obtain⟨t,rfl⟩:=r1
 exact⟨some i,H1,I1,.int i t,q⟩
def RH(X:Cx)(r:V->Option Int->Option Int->Hp->VK->Prop):Prop :=
 ∀(pins:List (Addr×Obj))(s:Shared)(σ:St)(H:Hp)(x:V)(v vl vu:Value)(lo hi:Option Int)(sl:Addr)(Q:VK),Inv X pins σ H s->RelV x v->s.heap.IsSliceOf sl vl vu .none->IsPart vl lo->IsPart vu hi->r x lo hi H Q->∃T id,typeLookup (.type T) "__getitem__"=pure (some (.builtin id))/\s.TypeIs v T/\wpAny (model X.prog X.w) X.A (getItem v (.ref sl)) (EP X pins σ Q) X.xe s
def tSl(r:V->Option Int->Option Int->Hp->VK->Prop)(te:TE)(tl th:TO):TE:=λσ H Q=>te σ H λx H1=>tl σ H1 λl H2=>th σ H2 λu H3=>r x l u H3 Q
theorem dG{r:V->Option Int->Option Int->Hp->VK->Prop}(hr:RH X r)(he:PE X e te)(hl:PO X lo tl)(hu:PO X hi th):PE X (.Subscript e (.Slice lo hi none p2) pos) (tSl r te tl th):=by
 intro pins s σ H Q I h
 refine Subscript_ (cy (he pins s σ H _ I h) λv s1 ⟨x,H1,I1,r1,q1⟩=>?_)
 refine wpAny_Slice (cy (hl pins s1 σ H1 _ I1 q1) λvl s2 ⟨l,H2,I2,pl,q2⟩=>cy (hu pins s2 σ H2 _ I2 q2) λvu s3 ⟨u,H3,I3,pu,q3⟩=>?_)
 rw[evalPart_none]
 refine aal ?_
 have I4:Inv X pins σ H3 {s3 with heap:=s3.heap.push {cls:=.type "slice",data:=.fields #[vl,vu,.none]}}:=I3.kept (t':=s3.toks) λb ob q=>aar _ q
 obtain⟨T,id,hT,ht,hg⟩:=hr pins {s3 with heap:=s3.heap.push {cls:=.type "slice",data:=.fields #[vl,vu,.none]}} σ H3 x v vl vu l u s3.heap.objs.size Q I4 r1 (Heap.IsSliceOf.new ..) pl pu q3
 show wpAny (model X.prog X.w) X.A (subscriptTail e (.Slice lo hi none p2) v (.ref s3.heap.objs.size)) (EP X pins σ Q) X.xe {s3 with heap:=s3.heap.push {cls:=.type "slice",data:=.fields #[vl,vu,.none]}}
 exact tail_any (ops:=[.ref s3.heap.objs.size,v]) ht hT hg (by with_unfolding_all rfl)
def v9(xs:List V)(lo hi:Option Int):List V:=(xs.drop (HT.f9 xs.length 0 lo)).take (HT.f9 xs.length xs.length hi-HT.f9 xs.length 0 lo)
theorem vB(xs:List V)(lo hi:Option Int):(v9 xs lo hi).length<=xs.length:=by
 unfold v9
 rw[aa6,List.length_drop]
 omega
def SJ(K:W.Frag):V->Option Int->Option Int->Hp->VK->Prop:=λx lo hi H Q=>∃a xs,x=.ref a/\aN K H a xs/\¬(HT.f9 xs.length 0 lo=0/\HT.f9 xs.length xs.length hi=xs.length)/\∀p,H p=none->Q (.ref p) (upd H p (.tup (v9 xs lo hi)))
theorem Pz:RH X (SJ X.K):=by
 intro pins s σ H x v vl vu lo hi sl Q I rx hs pl pu h
 obtain⟨a,xs,rfl,hx,hw,q⟩:=h
 cases rx
 obtain⟨its,r,ht,hz⟩:=I.tuple hx
 have hlen:its.toArray.size=xs.length:=by rw[aam];exact r.length.symm
 refine⟨"tuple",_,PyProof.Rows.slot_tuple_getitem.lookup,ht.typeIs,?_⟩
 refine HT.qW ht hs pl pu (by rw[hlen];exact hw) ?_ (by rw[hlen];exact hz)
 rw[hlen]
 refine⟨.ref s.heap.objs.size,_,I.laid (t':=s.toks) (o:=.tup (v9 xs lo hi)) (λb ob q=>aar _ q) (aan _) ?_,rfl,q _ (I.hok.fresh (aan _))⟩
 exact⟨aaq (vB xs lo hi) hz,_,(r.drop (HT.f9 xs.length 0 lo)).take (HT.f9 xs.length xs.length hi-HT.f9 xs.length 0 lo),IsTup.new _ _⟩
def SK(K:W.Frag):R2:=λx y H Q=>∃a b xs ys,x=.ref a/\y=.ref b/\aN K H a xs/\aN K H b ys/\xs≠[]/\xs.length+ys.length<=sizeLine/\(ys=[]->Q (.ref a) H)/\(ys≠[]->∀p,H p=none->Q (.ref p) (upd H p (.tup (xs++ys))))
theorem Vals.xJ{xs:List V}{us:List Value}(r:Vals xs us):us=[]↔xs=[]:=by
 cases r with
 |nil=>simp
 |cons _ _=>simp
theorem MH:jx X (binaryOp .Add) (SK X.K):=by
 intro pins s σ H x y v u Q I rx ry h
 obtain⟨a,b,xs,ys,rfl,rfl,ha,hb,hx,hz,q1,q2⟩:=h
 cases rx
 cases ry
 obtain⟨its,r1,p1,_⟩:=I.tuple ha
 obtain⟨its2,r2,p2,_⟩:=I.tuple hb
 refine HT.ME p1 p2 (λz=>hx (r1.xJ.mp z)) (λz=>⟨.ref a,H,I,rfl,q1 (r2.xJ.mp z)⟩) (λz=>?_) (by rw[←r1.length,←r2.length];exact hz)
 refine⟨.ref s.heap.objs.size,_,I.laid (t':=s.toks) (o:=.tup (xs++ys)) (λb ob q=>aar _ q) (aan _) ?_,rfl,q2 (λw=>z (r2.xJ.mpr w)) _ (I.hok.fresh (aan _))⟩
 exact⟨by rw[aao];exact hz,_,r1.append r2,IsTup.new _ _⟩
end
def PB(n:Nat)(i:Int):Option Nat:=if 0<=i then (if i<n then some i.toNat else none) else if -(n:Int)<=i then some (i+n).toNat else none
def Mj{α:Type}(xs:List α)(i:Int):Option α:=(PB xs.length i).bind λj=>xs[j]?
theorem GQ{n:Nat}{i:Int}{j:Nat}(h:PB n i=some j):seqIndex? i n=some j/\j<n/\-(n:Int)<=i/\i<n:=by
 unfold PB at h
 by_cases h0:0<=i
 ·rw[aaj h0]at h
  by_cases h1:i<n
  ·rw[aaj h1]at h
   have e:i.toNat=j:=aax h
   exact⟨by rw[seqIndex_of h0 h1,e],by omega,by omega,h1⟩
  ·rw[aai h1]at h;cases h
 ·rw[aai h0]at h
  by_cases h1 : -(n:Int)<=i
  ·rw[aaj h1]at h
   have e:(i+n).toNat=j:=aax h
   exact⟨by rw[seqIndex_neg (by omega) h1,e],by omega,h1,by omega⟩
  ·rw[aai h1]at h;cases h
theorem Bq{α:Type}{xs:List α}{i:Int}{v:α}(h:Mj xs i=some v):∃j,seqIndex? i xs.length=some j/\xs[j]?=some v/\j<xs.length/\-(xs.length:Int)<=i/\i<xs.length:=by
 unfold Mj at h
 cases e:PB xs.length i with
 |none=>rw[e]at h;cases h
 |some j =>
  rw[e]at h
  obtain⟨h1,h2,h3,h4⟩:=GQ e
  exact⟨j,h1,h,h2,h3,h4⟩
theorem Br{α:Type}{xs:List α}{j:Nat}{v:α}(h:xs[j]?=some v):Mj xs (j:Int)=some v:=by
 have hj:j<xs.length:=(aau.mp h).1
 have e:PB xs.length (j:Int)=some j:=by
  unfold PB
  rw[aaj (by omega),aaj (by omega)];simp
 unfold Mj;rw[e];exact h
def Bs(b:Expr):Prop:=∀o i,subscripted b false o i=operate [o,i] (getItem o i)
def RI(X:Cx)(r:R2):Prop :=
 ∀(value slice:Expr)(pins:List (Addr×Obj))(s:Shared)(σ:St)(H:Hp)(x y:V)(v u:Value)(Q:VK),Inv X pins σ H s->RelV x v->RelV y u->r x y H Q->subscripted slice false v u=operate [v,u] (getItem v u)->wpAny (model X.prog X.w) X.A (subscriptTail value slice v u) (EP X pins σ Q) X.xe s
def PD(X:Cx)(id:String)(r:V->List V->Hp->VK->Prop):Prop :=
 ∀(pins:List (Addr×Obj))(s:Shared)(σ:St)(H:Hp)(x:V)(xs:List V)(v:Value)(us:List Value)(Q:VK),Inv X pins σ H s->RelV x v->Vals xs us->r x xs H Q->wpAny (model X.prog X.w) X.A (call (.builtin id) (v::us)) (EP X pins σ Q) X.xe s
section
variable{X:Cx}{a b:Expr}{ta tb:TE}{pos:Pos}
theorem GR{r:R2}(hr:RI X r)(ha:PE X a ta)(hb:PE X b tb)(hs:Bs b):PE X (.Subscript a b pos) (OE r ta tb):=by
 intro pins s σ H Q I h
 exact Subscript_ (Pp ha hb I h λv u s2 x y H2 I2 rx ry q=>hr a b pins s2 σ H2 x y v u Q I2 rx ry q (hs _ _))
def PF(K:W.Frag):R2:=λx y H Q=>∃p xs i v,x=.ref p/\y=.int i/\bK K H p xs/\Mj xs i=some v/\Q v H
def PJ(K:W.Frag):R2:=λx y H Q=>∃p xs i v,x=.ref p/\y=.int i/\aN K H p xs/\Mj xs i=some v/\Q v H
def Wm:R2:=λx y H Q=>∃z i c,x=.str z/\y=.int i/\z.length<=sizeLine/\Mj z.cps.toList i=some c/\Q (.str ⟨#[c]⟩) H
theorem MI:RI X (PF X.K):=by
 intro value slice pins s σ H x y v u Q I rx ry h hs
 obtain⟨p,xs,i,z,rfl,rfl,hq,he,q⟩:=h
 cases rx
 obtain⟨t,rfl⟩:=ry
 obtain⟨its,r,pl,hz⟩:=I.list hq
 obtain⟨j,h1,h2,h3,h4,h5⟩:=Bq he
 obtain⟨w,ew,rw'⟩:=r.get h2
 have hl:=r.length
 have hn:=tT
 have fin:EP X pins σ Q w s:=⟨z,H,I,rw',q⟩
 by_cases h0:0<=i
 ·have hj:i.toNat=j:=by
   rw[seqIndex_of h0 h5]at h1
   exact aax h1
  exact item_listR pl.isList h0 (by omega) (by rw[hj];simpa using ew) fin hs
 ·have hj:(i+(its.toArray.size:Int)).toNat=j:=by
   rw[seqIndex_neg (by omega) h4]at h1
   rw[aam,←hl]
   exact aax h1
  exact subscriptTail_builtinR (x:=w) pl.isList.typeIs slot_list_getitem.lookup
   (wpAny_getItem_list_neg (Q:=λr s'=>r=w/\EP X pins σ Q r s') pl.isList (by omega) (by rw[aam]<;>omega) (by omega) (by rw[hj];simpa using ew) ⟨rfl,fin⟩) hs
theorem PK:RI X (PJ X.K):=by
 intro value slice pins s σ H x y v u Q I rx ry h hs
 obtain⟨p,xs,i,z,rfl,rfl,hq,he,q⟩:=h
 cases rx
 obtain⟨t,rfl⟩:=ry
 obtain⟨its,r,pl,hz⟩:=I.tuple hq
 obtain⟨j,h1,h2,h3,h4,h5⟩:=Bq he
 obtain⟨w,ew,rw'⟩:=r.get h2
 have hl:=r.length
 have hn:=tT
 have fin:EP X pins σ Q w s:=⟨z,H,I,rw',q⟩
 exact subscriptTail_builtinR (x:=w) pl.typeIs slot_tuple_getitem.lookup
  (getItem_tuple (j:=j) (Q:=λr s'=>r=w/\EP X pins σ Q r s') pl (by omega) (by omega) (by rw[aam,←hl];exact h1) (by simpa using ew) ⟨rfl,fin⟩) hs
theorem JS:RI X Wm:=by
 intro value slice pins s σ H x y v u Q I rx ry h hs
 obtain⟨z,i,c,rfl,rfl,hz,he,q⟩:=h
 obtain⟨t,rfl⟩:=rx
 obtain⟨t',rfl⟩:=ry
 obtain⟨j,h1,h2,h3,h4,h5⟩:=Bq he
 have hl:z.cps.toList.length=z.length:=by simp[Str.length]
 rw[hl]at h1 h4 h5
 have hn:=tT
 exact tail_any (typeIs_str s z t) slot_str_getitem.lookup (getItem_str (c:=c) (by
  have e1:decide (i < -(2 ^ 63:Int))=false:=aak (by omega)
  have e2:decide (i>=2 ^ 63)=false:=aak (by omega)
  rw[e1,e2,Bool.or_false]) (by rw[h1];simpa using h2) ⟨.str ⟨#[c]⟩,H,I.tok _,⟨_,rfl⟩,q⟩) hs
theorem ER(its:List Value)(n j:Nat)(u:Value):Obj.mapSeq (·.setIfInBounds j u) {cls:=.type "list",data:=.seq its.toArray n}={cls:=.type "list",data:=.seq (its.set j u).toArray n}:=by
 simp[Obj.mapSeq]
theorem Inv.lst{pins:List (Addr×Obj)}{σ:St}{H:Hp}{s:Shared}{p:Addr}{xs:List V}(I:Inv X pins σ H s)(h:H p=some (.lst xs)):∃(its:List Value)(n:Nat),Vals xs its/\s.heap.get? p=some {cls:=.type "list",data:=.seq its.toArray n}/\xs.length<=sizeLine:=by
 obtain⟨z,its,n,r,e⟩:=I.hok p _ h
 exact⟨its,n,r,e,z⟩
theorem Inv.PL{pins:List (Addr×Obj)}{σ:St}{H:Hp}{s:Shared}{p:Addr}{xs ys:List V}{its its':List Value}{n n':Nat}{f:Obj->Obj}(I:Inv X pins σ H s)(h:H p=some (.lst xs))(ho:s.heap.get? p=some {cls:=.type "list",data:=.seq its.toArray n})(hf:f {cls:=.type "list",data:=.seq its.toArray n}={cls:=.type "list",data:=.seq its'.toArray n'})(r:Vals ys its')(hz:ys.length<=sizeLine)(t:Nat):Inv X pins σ (upd H p (.lst ys)) {s with heap:=s.heap.update p f,toks:=t}:=by
 have e:(s.heap.update p f).get? p=some {cls:=.type "list",data:=.seq its'.toArray n'}:=by
  rw[aby f ho (by rw[hf]<;>rfl),hf]
 refine I.write (x:=p) (e:=p) (by rw[h];trivial) (.inl rfl) (λb u hb q=>(Heap.get?_update_other _ _ (abD hb)).trans q) ⟨_,e⟩ ?_
 exact⟨hz,its',n',r,e⟩
def SM:V->V->V->Hp->(Hp->Prop)->Prop:=λo i v H Q=>∃p xs k j,o=.ref p/\i=.int k/\H p=some (.lst xs)/\PB xs.length k=some j/\Q (upd H p (.lst (xs.set j v)))
theorem set_list:Sm X SM:=by
 intro pins s σ H o i v ov iv u Q I ro ri rv h
 obtain⟨p,xs,k,j,rfl,rfl,hp,hj,q⟩:=h
 cases ro
 obtain⟨t,rfl⟩:=ri
 obtain⟨its,n,r,ho,hz⟩:=I.lst hp
 obtain⟨h1,h2,h3,h4⟩:=GQ hj
 have hl:=r.length
 have hn:=tT
 have I':Inv X pins σ (upd H p (.lst (xs.set j v))) {s with heap:=s.heap.update p (Obj.mapSeq (·.setIfInBounds j u))} :=
  I.PL hp ho (ER its n j u) (r.set rv j) (by rw[List.length_set];exact hz) s.toks
 by_cases h0:0<=k
 ·have hk:k.toNat=j:=by
   rw[seqIndex_of h0 h4]at h1
   exact aax h1
  exact W.ki_setAt ho h0 (by omega) (by rw[aam,←hl];exact h4) (by rw[hk];exact⟨_,I',q⟩)
 ·have hk:(k+(its.toArray.size:Int)).toNat=j:=by
   rw[seqIndex_neg (by omega) h3]at h1
   rw[aam,←hl]
   exact aax h1
  exact W.ki_setBack ho (by omega) (by rw[aam,←hl];exact h3) (by omega) (by rw[hk];exact⟨_,I',q⟩)
theorem Bt(lo hi:Option Int)(n:Nat):(sliceBounds lo hi none n).1=((HT.f9 n 0 lo:Nat):Int)/\(sliceBounds lo hi none n).2.1=((HT.f9 n n hi:Nat):Int)/\(sliceBounds lo hi none n).2.2=1:=by
 refine⟨?_,?_,O⟩
 ·cases lo with
  |none=>simp[sliceBounds,HT.f9]
  |some i =>
   simp only[sliceBounds,HT.f9,Option.getD_none,show(1:Int)>0 by decide,if_true]
   by_cases h:i<0
   ·simp only[h,if_true]<;>omega
   ·simp only[h,abm]<;>omega
 ·cases hi with
  |none=>simp[sliceBounds,HT.f9]
  |some i =>
   simp only[sliceBounds,HT.f9,Option.getD_none,show(1:Int)>0 by decide,if_true]
   by_cases h:i<0
   ·simp only[h,if_true]<;>omega
   ·simp only[h,abm]<;>omega
theorem zp(its:List Value)(lo hi:Option Int):slicePick its.toArray lo hi none=((its.drop (HT.f9 its.length 0 lo)).take (HT.f9 its.length its.length hi-HT.f9 its.length 0 lo)).toArray:=by
 obtain⟨h1,h2,h3⟩:=Bt lo hi its.toArray.size
 unfold slicePick
 rw[h1,h2,h3]
 simp only[sliceRange_one,pick_run,aam]<;>rfl
def SN(K:W.Frag):V->Option Int->Option Int->Hp->VK->Prop:=λx lo hi H Q=>∃a xs,x=.ref a/\bK K H a xs/\∀p,H p=none->Q (.ref p) (upd H p (.lst (v9 xs lo hi)))
theorem MJ:RH X (SN X.K):=by
 intro pins s σ H x v vl vu lo hi sl Q I rx hs pl pu h
 obtain⟨a,xs,rfl,hx,q⟩:=h
 cases rx
 obtain⟨its,r,ht,hz⟩:=I.list hx
 have hlen:=r.length
 refine⟨"list",_,slot_list_getitem.lookup,ht.isList.typeIs,?_⟩
 refine wpAny_getItem_list_slice ht.isList hs pl pu .none (by simp) ?_ (by rw[aam]<;>omega)
 rw[zp,←hlen]
 refine⟨.ref s.heap.objs.size,_,I.laid (t':=s.toks) (o:=.lst (v9 xs lo hi)) (λb ob q=>aar _ q) (aan _) ?_,rfl,q _ (I.hok.fresh (aan _))⟩
 exact⟨aaq (vB xs lo hi) hz,_,0,(r.drop (HT.f9 xs.length 0 lo)).take (HT.f9 xs.length xs.length hi-HT.f9 xs.length 0 lo),aaz _ rfl⟩
def dU:V->Bool
 | .non=>true
 | .bl _=>true
 | .int _=>true
 | .str _=>true
 |_=>false
def xK:V->V->Bool
 | .non,.non=>true
 | .bl a,.bl b=>a==b
 | .bl a,.int b=>(if a then 1 else 0)==b
 | .int a,.bl b=>a==(if b then 1 else 0)
 | .int a,.int b=>a==b
 | .str a,.str b=>a==b
 |_,_=>false
theorem ES{A:Around}{s:Shared}{y x:V}{u v:Value}(ry:RelV y u)(rx:RelV x v)(fy:dU y=true)(fx:dU x=true):SeqAt.EqAt A s u v (xK y x):=by
 cases y with
 |non =>
  cases ry
  cases x with
  |non=>cases rx;exact SeqAt.EqAt.same _
  |bl b=>cases rx;exact SeqAt.EqAt.none_bool b
  |int b=>obtain⟨t,rfl⟩:=rx;exact SeqAt.EqAt.none_int b t
  |str b=>obtain⟨t,rfl⟩:=rx;exact SeqAt.EqAt.none_str b t
  |_=>exact absurd (show false=true from fx) aaA
 |bl a =>
  cases ry
  cases x with
  |non=>cases rx;exact SeqAt.EqAt.bool_none a
  |bl b=>cases rx;exact SeqAt.EqAt.bool_bool a b
  |int b=>obtain⟨t,rfl⟩:=rx;exact SeqAt.EqAt.bool_int a b t
  |str b=>obtain⟨t,rfl⟩:=rx;exact SeqAt.EqAt.bool_str a b t
  |_=>exact absurd (show false=true from fx) aaA
 |int a =>
  obtain⟨t',rfl⟩:=ry
  cases x with
  |non=>cases rx;exact SeqAt.EqAt.int_none a t'
  |bl b=>cases rx;exact SeqAt.EqAt.int_bool a t' b
  |int b=>obtain⟨t,rfl⟩:=rx;exact SeqAt.EqAt.int_int a t' b t
  |str b=>obtain⟨t,rfl⟩:=rx;exact SeqAt.EqAt.int_str a t' b t
  |_=>exact absurd (show false=true from fx) aaA
 |str a =>
  obtain⟨t',rfl⟩:=ry
  cases x with
  |non=>cases rx;exact SeqAt.EqAt.str_none a t'
  |bl b=>cases rx;exact SeqAt.EqAt.str_bool a t' b
  |int b=>obtain⟨t,rfl⟩:=rx;exact SeqAt.EqAt.str_int a t' b t
  |str b=>obtain⟨t,rfl⟩:=rx;exact SeqAt.EqAt.str_str a t' b t
  |_=>exact absurd (show false=true from fx) aaA
 |_=>exact absurd (show false=true from fy) aaA
def RJ(x:V)(u:Value):Bool:=match u with
 | .none=>xK .non x
 | .bool b=>xK (.bl b) x
 | .int i _=>xK (.int i) x
 | .str z _=>xK (.str z) x
 |_=>false
theorem Bu{x y:V}{u:Value}(r:RelV y u)(f:dU y=true):RJ x u=xK y x:=by
 cases y with
 |non=>cases r;rfl
 |bl b=>cases r;rfl
 |int i=>obtain⟨t,rfl⟩:=r;rfl
 |str z=>obtain⟨t,rfl⟩:=r;rfl
 |_=>exact absurd (show false=true from f) aaA
theorem C6{A:Around}{s:Shared}{x:V}{v:Value}(rx:RelV x v)(fx:dU x=true):∀{xs:List V}{us:List Value},Vals xs us->xs.all dU=true->∀u∈us,SeqAt.EqAt A s u v (RJ x u)
 |_,_,.nil,_=>λu hu=>by cases hu
 |y::xs,u::us,.cons r t,f=>λu' hu=>by
  rw[List.all_cons,abG]at f
  rcases aaB.mp hu with rfl|hu
  ·rw[Bu r f.1];exact ES r rx f.1 fx
  ·exact C6 rx fx t f.2 u' hu
theorem cM:jx X (compareOp .NotIn) (λx y H Q=>∃i j,x=.str i/\y=.str j/\Q (.bl (!(!(Builtin.Str.occurrences j i 0 j.length 1).isEmpty))) H):=by
 intro pins s σ H x y v u Q I rx ry h
 obtain⟨i,j,rfl,rfl,q⟩:=h
 obtain⟨t,rfl⟩:=rx
 obtain⟨t',rfl⟩:=ry
 exact notIn_str ⟨.bl _,H,I,rfl,q⟩
theorem Bv:gJ X (.builtin "len") (λxs H Q=>∃p ys,xs=[.ref p]/\(bK X.K H p ys\/aN X.K H p ys)/\Q (.int ys.length) H):=by
 intro pins s σ H xs us Q I r h
 obtain⟨p,ys,rfl,hq,q⟩:=h
 obtain⟨u,rfl,rx⟩:=vals1 r
 cases rx
 have hn:=tT
 rcases hq with hq|hq
 ·obtain⟨its,r',pl,hz⟩:=I.list hq
  have hlen:=r'.length
  exact Calls.call_len_list pl.isList (by simp only[aam]<;>omega) ⟨.int ys.length,H,I.tok _,⟨s.toks+1,by rw[aam,hlen]⟩,q⟩
 ·obtain⟨its,r',pl,hz⟩:=I.tuple hq
  have hlen:=r'.length
  exact len_tuple pl (by simp only[aam]<;>omega) ⟨.int ys.length,H,I.tok _,⟨s.toks+1,by rw[aam,hlen]⟩,q⟩
theorem cN:gJ X (.builtin "len") (λxs H Q=>∃z,xs=[.str z]/\z.length<=sizeLine/\Q (.int z.length) H):=by
 intro pins s σ H xs us Q I r h
 obtain⟨z,rfl,hz,q⟩:=h
 obtain⟨u,rfl,t,rfl⟩:=vals1 r
 have hn:=tT
 exact len_str (by omega) ⟨.int z.length,H,I.tok _,⟨_,rfl⟩,q⟩
theorem Bw:gJ X (.type "list") (λxs H Q=>∃p ys,xs=[.ref p]/\(bK X.K H p ys\/aN X.K H p ys)/\∀l,H l=none->Q (.ref l) (upd H l (.lst ys))):=by
 intro pins s σ H xs us Q I r h
 obtain⟨p,ys,rfl,hq,q⟩:=h
 obtain⟨u,rfl,rx⟩:=vals1 r
 cases rx
 have fin:∀(its:List Value),Vals ys its->ys.length<=sizeLine->∀(h':Heap)(c':Nat),(∀b o',s.heap.get? b=some o'->h'.get? b=some o')->h'.get? s.heap.objs.size=some {cls:=.type "list",dict:=none,data:=.seq its.toArray c',slots:=#[]}->EP X pins σ Q (.ref s.heap.objs.size) {s with heap:=h'}:=λits r' hz h' c' kp e =>
  ⟨.ref s.heap.objs.size,_,I.laid (t':=s.toks) kp (aan _) (show cU X.prog X.w _ h' _ (.lst ys) from⟨hz,its,c',r',e⟩),rfl,q _ (I.hok.fresh (aan _))⟩
 rcases hq with hq|hq
 ·obtain⟨its,r',pl,hz⟩:=I.list hq
  have hlen:=r'.length
  obtain⟨o,ho,hc,n,hd⟩:=pl.isList
  exact call_list_seq p (.inl rfl) ho hc hd (λh' c' kp e=>fin its r' hz h' c' kp e) (by simp only[aam]<;>omega)
 ·obtain⟨its,r',pl,hz⟩:=I.tuple hq
  have hlen:=r'.length
  obtain⟨o,ho,hc,n,hd⟩:=pl
  exact call_list_seq p (.inr rfl) ho hc hd (λh' c' kp e=>fin its r' hz h' c' kp e) (by simp only[aam]<;>omega)
theorem zq:gJ X (.type "tuple") (λxs H Q=>∃p ys,xs=[.ref p]/\((bK X.K H p ys/\∀l,H l=none->Q (.ref l) (upd H l (.tup ys)))\/(aN X.K H p ys/\Q (.ref p) H))):=by
 intro pins s σ H xs us Q I r h
 obtain⟨p,ys,rfl,h⟩:=h
 obtain⟨u,rfl,rx⟩:=vals1 r
 cases rx
 rcases h with ⟨hq,q⟩|⟨hq,q⟩
 ·obtain⟨its,r',pl,hz⟩:=I.list hq
  have hlen:=r'.length
  refine call_tuple_list pl.isList (λh' kp=>?_) (by simp only[aam]<;>omega)
  have I1:Inv X pins σ H {s with heap:=h'}:=I.kept (t':=s.toks) kp
  have I2:Inv X pins σ (upd H h'.objs.size (.tup ys)) {s with heap:=h'.push {cls:=.type "tuple",data:=.seq its.toArray}} :=
   I1.laid (t':=s.toks) (λb o e=>aar _ e) (aan _) (show cU X.prog X.w _ _ _ (.tup ys) from⟨hz,its,r',IsTup.new _ _⟩)
  exact⟨.ref h'.objs.size,_,I2,O,q _ (I1.hok.fresh (aan _))⟩
 ·obtain⟨its,r',pl,hz⟩:=I.tuple hq
  exact call_tuple_same pl ⟨.ref p,H,I,rfl,q⟩
def ZH(K:W.Frag)(T:String)(x:V)(H:Hp):Prop:=match x with
 | .str _=>T="str"
 | .int _=>T="int"
 | .ref p=>(T="list"/\∃xs,bK K H p xs)\/(T="tuple"/\∃o,K.lookup p=some o/\o.cls=.type "tuple"/\o.dict=none)\/
   (T="dict"/\((∃kvs,H p=some (.dK kvs))\/∃kvs,H p=some (.dT kvs)))\/(T="set"/\∃S n,H p=some (.set S n))
 |_=>False
theorem ET{pins:List (Addr×Obj)}{σ:St}{H:Hp}{s:Shared}{T:String}{x:V}{v:Value}(I:Inv X pins σ H s)(r:RelV x v)(ty:ZH X.K T x H):s.TypeIs v T/\∀a,v=.ref a->∃ob,s.heap.get? a=some ob/\ob.dict=none:=by
 cases x with
 |str z =>
  obtain⟨t,rfl⟩:=r
  cases(show T="str" from ty)
  exact⟨typeIs_str s z t,λ_ e=>nomatch e⟩
 |int i =>
  obtain⟨t,rfl⟩:=r
  cases(show T="int" from ty)
  exact⟨typeIs_int s i t,λ_ e=>nomatch e⟩
 |ref p =>
  cases r
  rcases ty with ⟨rfl,xs,hq⟩|⟨rfl,o,hk,hc,hd⟩|⟨rfl,hk⟩|⟨rfl,S,n,hk⟩
  ·obtain⟨its,_,pl,_⟩:=I.list hq
   refine⟨pl.isList.typeIs,λa e=>?_⟩
   cases e
   obtain⟨o,n,e,c,hd,_⟩:=pl
   exact⟨o,e,hd⟩
  ·refine⟨⟨o,I.qS p o hk,hc⟩,λa e=>?_⟩
   cases e
   exact⟨o,I.qS _ o hk,hd⟩
  ·have z:∃o,s.heap.get? p=some o/\o.ExactDict:=by
    rcases hk with ⟨kvs,hk⟩|⟨kvs,hk⟩
    ·obtain⟨_,_,_,_,o,_,_,e,ex,_⟩:=I.hok p _ hk
     exact⟨o,e,ex⟩
    ·obtain⟨_,_,_,_,o,_,_,e,ex,_⟩:=I.hok p _ hk
     exact⟨o,e,ex⟩
   obtain⟨o,e,ex⟩:=z
   refine⟨⟨o,e,ex.1⟩,λa e2=>?_⟩
   cases e2
   exact⟨o,e,ex.2.1⟩
  ·obtain⟨o,_,_,_,e,ex,_⟩:=I.hok p _ hk
   refine⟨⟨o,e,ex.1⟩,λa e2=>?_⟩
   cases e2
   exact⟨o,e,ex.2.1⟩
 |_=>exact False.elim ty
def ZI(K:W.Frag)(T:String)(r:V->List V->Hp->VK->Prop)(to:TE)(t:TA):TE:=λσ H Q=>to σ H λx H1=>ZH K T x H1/\t σ H1 λxs H2=>r x xs H2 Q
variable{o e:Expr}{es:List Expr}{to:TE}{t:TA}{name:Str}{apos cpos:Pos}{T id:String}{r:V->List V->Hp->VK->Prop}
theorem SO(pa:PlainAttrs T)(slot:Slot T name id)(hty:typeOf (.builtin id)=pure (.type "method_descriptor"))(hm:PD X id r)(ho:PE X o to)(ha:PA X (e::es) t)(hbase:attributeBase o name X.env (eval o X.env)=eval o X.env:=by rfl)(hfew:((backTo cpos (starEach (e::es) X.env)).all (λx=>!x.1)&&(backToKw cpos (keywordEach [] X.env)).all (λx=>x.1.isSome)
   && decide ((e::es).length+([]:List Keyword).length+(if ([]:List Keyword).isEmpty then 0 else 1)<30))=true:=by rfl)(hline:(apos.endLine==cpos.line)=true:=by rfl)(hs:starEach (e::es) X.env=(false,eval e X.env)::starEach es X.env:=by rfl)(hplain:(backTo cpos (starEach es X.env)).any (·.1)=false:=by rfl):PE X (.Call (.Attribute o name apos) (e::es) [] cpos) (ZI X.K T r to t):=by
 intro pins s σ H Q I h
 refine wpAny_Call_method_late hbase hfew hline rfl (cy (ho pins s σ H _ I h) λv s1 ⟨x,H1,I1,r1,ty,q1⟩=>?_)
 obtain⟨h1,h2⟩:=ET I1 r1 ty
 refine⟨T,id,pa,slot,hty,h1,h2,?_⟩
 have hA:=ha cpos pins s1 σ H1 _ I1 q1
 rw[hs]at hA⊢
 refine Calls.callWith_builtin (by show(false||(backTo cpos (starEach es X.env)).any (·.1))=false;rw[hplain]<;>rfl) (Calls.evalArgs_plain ?_)
 exact cy hA λus s2 ⟨vs,H2,I2,r2,q2⟩=>hm pins s2 σ H2 x vs v us Q I2 r1 r2 q2
end
def ZJ(X:Cx)(id:String)(r:V->List V->Hp->VK->Prop):Prop :=
 ∀(pins:List (Addr×Obj))(s:Shared)(σ:St)(H:Hp)(x:V)(xs:List V)(v:Value)(us:List Value)(Q:VK),Inv X pins σ H s->RelV x v->Vals xs us->r x xs H Q->wpAny (model X.prog X.w) X.A (call (.builtin id) (v::us)) (EP X pins σ Q) X.xe s
theorem Vals.one:∀{x:V}{us:List Value},Vals [x] us->∃u,us=[u]/\RelV x u
 |_,_,.cons r .nil=>⟨_,rfl,r⟩
theorem Vals.reverse{xs:List V}{us:List Value}(h:Vals xs us):Vals xs.reverse us.reverse:=by
 induction h with
 |nil=>exact .nil
 |cons r t ih=>rw[List.reverse_cons,List.reverse_cons];exact Vals.append ih (.cons r .nil)
section
variable{X:Cx}{pins:List (Addr×Obj)}{σ:St}{H:Hp}{s:Shared}{l b:Addr}{xs ys zs:List V}
theorem Inv.SQ{its its':List Value}{n:Nat}{f:Array Value->Array Value}{t':Nat}(I:Inv X pins σ H s)(hH:H l=some (.lst xs))(e:s.heap.get? l=some {cls:=.type "list",data:=.seq its.toArray n})(hf:f its.toArray=its'.toArray)(hv:Vals ys its')(hz:ys.length<=sizeLine):Inv X pins σ (upd H l (.lst ys)) {s with heap:=s.heap.update l (Obj.mapSeq f),toks:=t'}:=by
 have q:=PySem.IsL.update e f
 rw[hf]at q
 refine I.write (x:=l) (e:=l) (by rw[hH];exact trivial) (.inl rfl) (λb' u hb hu=>(Heap.get?_update_other s.heap (Obj.mapSeq f) (abD hb)).trans hu) ⟨_,q⟩ ?_
 exact⟨hz,its',_,hv,q⟩
theorem Inv.Wn{its:List Value}{t':Nat}(I:Inv X pins σ H s)(hv:Vals ys its)(hz:ys.length<=sizeLine):Inv X pins σ (upd H s.heap.objs.size (.lst ys)) {s with heap:=s.heap.push {cls:=.type "list",data:=.seq its.toArray},toks:=t'} :=
 I.laid (λ_ _ q=>aar _ q) (aan _) ⟨hz,its,0,hv,aaz _ rfl⟩
theorem Inv.fresh(I:Inv X pins σ H s):H s.heap.objs.size=none:=I.hok.fresh (aan _)
theorem Inv.PM(I:Inv X pins σ H s)(hH:H l=some (.lst xs)):xs.length<=sizeLine/\∃(its:List Value)(n:Nat),Vals xs its/\xs.length=its.length/\s.heap.get? l=some {cls:=.type "list",data:=.seq its.toArray n}:=by
 obtain⟨z,its,n,r,e⟩:=I.hok l _ hH
 exact⟨z,its,n,r,r.length,e⟩
theorem JU{n:Nat}(h:n<=sizeLine):Builtin.List.listTooLong n=false:=by
 unfold Builtin.List.listTooLong
 exact aak (by omega)
end
section
variable{X:Cx}
def MK:V->List V->Hp->VK->Prop:=λx vs H Q=>∃l xs y,x=.ref l/\vs=[y]/\H l=some (.lst xs)/\xs.length<sizeLine/\Q .non (upd H l (.lst (xs++[y])))
theorem fW:ZJ X "list.append" MK:=by
 intro pins s σ H x vs v us Q I rx rv h
 obtain⟨l,xs,y,rfl,rfl,hH,hz,q⟩:=h
 cases rx
 obtain⟨u,rfl,ru⟩:=rv.one
 obtain⟨z,its,n,r,hl,e⟩:=I.PM hH
 refine call_meets F.slot_list_append ⟨_,e,rfl⟩ F.entry_list_append (F.args_list_append_2 _ _) (PySem.list_append l its.toArray n u (by rw[aam];omega)) ⟨e,?_⟩
 refine⟨.non,_,I.SQ (its':=its++[u]) hH e (by simp) (r.append (.cons ru .nil)) ?_,rfl,q⟩
 rw[aao,abf]
 omega
def ML:V->List V->Hp->VK->Prop:=λx vs H Q=>∃l b xs zs,x=.ref l/\vs=[.ref b]/\H l=some (.lst xs)/\H b=some (.lst zs)/\xs.length+zs.length<=sizeLine/\Q .non (upd H l (.lst (xs++zs)))
theorem HS:ZJ X "list.extend" ML:=by
 intro pins s σ H x vs v us Q I rx rv h
 obtain⟨l,b,xs,zs,rfl,rfl,hH,hB,hz,q⟩:=h
 cases rx
 obtain⟨u,rfl,ru⟩:=rv.one
 cases ru
 obtain⟨z,its,n,r,hl,e⟩:=I.PM hH
 obtain⟨z2,its2,n2,r2,hl2,e2⟩:=I.PM hB
 have hsz:its.toArray.size+its2.toArray.size<=sizeLine:=by rw[aam,aam];omega
 have SR:¬(!its.toArray.isEmpty&&Builtin.List.listTooLong (its.toArray.size+its2.toArray.size))=true:=by
  rw[JU hsz,Bool.and_false]
  exact aaA
 refine call_meets F.slot_list_extend ⟨_,e,rfl⟩ F.entry_list_extend (F.args_list_extend_2 _ _)
  (AutoSeq1.list_extend_list_list_0 l its.toArray n b its2.toArray n2 SR (by rw[aam];omega) (by omega)) ⟨e,e2,?_⟩
 refine⟨.non,_,I.SQ (its':=its++its2) hH e (by simp) (r.append r2) ?_,rfl,q⟩
 rw[aao]
 omega
end
section
variable{prog:Program}{w:World}{A:Around}{E:Value->Shared->Prop}{s:Shared}
set_option maxRecDepth 100000 in
end
section
variable{X:Cx}
end
end L2
namespace Att
open PySem PySem.W PySem.Calls PyProof.Rows
theorem wc{P:Params}{h:Heap}:∀(ns:List Int)(vs:List Value),WellAll P h vs (ns.map WData.int)->IntsAre vs ns:=by
 intro ns
 induction ns with
 |nil =>
  intro vs w
  rw[List.map_nil]at w
  cases w
  exact .nil
 |cons n ns ih =>
  intro vs w
  rw[abe]at w
  cases w with
  |cons a b =>
   cases a
   exact .cons _ _ (ih _ b)
theorem HU{l:OpenLaw}{n:Nat}(hn:l.most=some n){P:Params}{h:Heap}{args:List WData}{vals:List Value}(hpre:l.row.toRowW.claim.pre args=true)(hwl:WellAll P h vals args):∃a vs ns,vals=[Value.ref a]/\args=[WData.list (ns.map WData.int)]/\h.get? a=some {cls:=.type "list",data:=.seq vs.toArray}/\IntsAre vs ns/\ns.length<=n:=by
 have hsh:WShape.hasAll [] args [.list .int]=true:=(pre_splitW hpre).1
 have hc:l.pre.holds [] {args:=args}=true:=(pre_splitW hpre).2
 obtain⟨d,r,rfl,h1,h2⟩:=hasAllW_cons hsh
 obtain rfl:=hasAllW_nil h2
 obtain⟨xs,rfl,h3⟩:=hasW_list h1
 obtain⟨ns,rfl⟩:=items_int h3
 have hlen:ns.length<=n:=by
  unfold OpenLaw.pre at hc
  have h4:(WTm.not (.lt (.lit (.int (n:Int))) (.len (.arg 0)))).holds [] {args:=[.list (ns.map .int)]}=true:=by
   have h4:=(holds_andW hc).1
   rw[hn]at h4
   exact h4
  have h5:=condW_of h4 (w_not (w_lt w_lit (w_len_list (w_arg rfl))))
  rw[aav]at h5
  refine Nat.le_of_not_lt λq=>?_
  have q':(n:Int)<((ns.length:Nat):Int):=by omega
  first
   | (rw[aas q']at h5;exact absurd h5 (by decide))
   | (simp at h5;omega)
 cases hwl with
 |cons w1 w2 =>
  cases w2
  cases w1 with
  |list ho hall=>exact⟨_,_,ns,rfl,rfl,ho,wc ns _ hall,hlen⟩
theorem HV(l:OpenLaw)(args:List WData):l.row.toRowW.claim.post args (.bool true) args=true :=
 postW_of (r:=l.row.toRowW) (X:=(true==true))
  (show WShape.has [] (.bool true) .bool=true by first|rfl|decide|simp[WShape.has,WShape.arms,WShape.armsAll])
  (show(WTm.eq .res (.lit (.bool true))).value [] {args:=args,res:=some (.bool true),after:=args}=some (.bool (true==true)) from w_eq_bool (w_res rfl) w_lit) rfl
theorem C7{l:OpenLaw}{n:Nat}{q:Program}{loose:List Str}{XP:(Str->Option Value)->Heap->Prop}{YP:World->Heap->Prop}{d:DefRec}(hn:l.most=some n)(hdf:d.params.defaults=[])(call:∀(w:World)(s₀ s₁:Shared)(mg mb:Str->Option Value)(fa:Addr)(o:Obj)(pm cd doc:Value)(a:Addr)(vs:List Value)(ns:List Int),Ground q loose [] XP w s₀ mg mb s₁.heap->YP w s₁.heap->s₁.heap.get? fa=some o->o.data=.func (docDef d.name d.params d.body d.scope pm cd doc)->s₁.heap.CodeRec cd d.name->mg d.name=some (.ref fa)->s₁.heap.get? a=some {cls:=.type "list",data:=.seq vs.toArray}->IntsAre vs ns->ns.length<=n->s₁.gens = #[]->codeAny (model l.prog w) callerA (.call (.ref fa) ⟨[.ref a],[]⟩) (λr s'=>r=.ok (.ret (.bool true))/\OldK s₁.heap s'.heap/\s'.os=s₁.os/\AllBare s'.gens) s₁):WalkO q loose XP YP l.row.toRowW d [] (λf vs=>PySem.call f vs):=by
 intro w s₀ s₁ mg mb G Y fa o pm cd doc dV kV ho hd hcd hD hmg hg args vals as hpre hlay hrd hwl hlo
 obtain rfl:dV=.none:=Dflts.none hD hdf
 obtain rfl:kV=.none:=Dflts.noKw hD
 obtain⟨a,vs,ns,rfl,rfl,hobj,hints,hlen⟩:=HU hn hpre hwl
 refine enter_call (codeAny_mono (call w s₀ s₁ mg mb fa o pm cd doc a vs ns G Y ho (fd_plain hd) hcd hmg hobj hints hlen hg) λr s' hq=>?_)
 obtain⟨rfl,h2,h3,h4⟩:=hq
 exact⟨.inl ⟨.bool true,.bool true,[],rfl,λ_=>rfl,.bool true,HV l _,λ_=>⟨List.Pairwise.nil,λ_ hm=>(nomatch hm)⟩⟩,h2,h3,h4⟩
section
variable{prog:Program}{w:World}{A:Around}{E:Value->Shared->Prop}{s:Shared}{K:Frag}
end
end Att
namespace L2
open PySem PySem.Spec PyProof.Rows
theorem As:∀{vs:List Value}{ns:List Int},IntsAre vs ns->Vals (ns.map V.int) vs
 |_,_,.nil=>.nil
 |_,_,.cons n t h=>.cons ⟨t,rfl⟩ (As h)
def PN(H:Hp):Prop:=∀b,H b=none\/∃o xs,H b=some (.EA o (.lst xs))
theorem JV{P:Program}{w:World}{K:W.Frag}{mg mb:Str->Option Value}{CX:Jq}{k:Nat}{fa a:Addr}{fd:FuncData}{x:Str}{sp:Sp}{s₁:Shared}{vs:List Value}{ns:List Int}(KX:K.In s₁.heap)(hns:s₁.heap.Ns mainGlobals mg)(hb:s₁.heap.Ns builtinsNs mb)(hbb:∀x:Str,x ≠ "__name__"->mb x=bootBuiltins x)(hlim:s₁.heap.NoLimit)(hg:s₁.gens = #[])(ha:s₁.heap.get? a=some {cls:=.type "list",data:=.seq vs.toArray})(hi:IntsAre vs ns)(hl:ns.length<=sizeLine)(hr:fK k callerA)(F:∀base:Heap,K.In base->base.Ns mainGlobals mg->bh P w K mg base CX k fa fd [x] sp)(hbind:∀(s:Shared)(u:Value),BindsTo s fd ⟨[u],[]⟩ [(x,u)])(Mi:∀H:Hp,PN H->bK K H a (ns.map V.int)->sp [.ref a] H (λv _=>v=.bl true) λ_ _ _=>False)(Wo:∀H e s',CX [] H s₁ (λ_ _ _=>False) e s'->False):codeAny (model P w) callerA (.call (.ref fa) ⟨[.ref a],[]⟩) (λr s'=>r=.ok (.ret (.bool true))/\OldK s₁.heap s'.heap/\s'.os=s₁.os/\AllBare s'.gens) s₁:=by
 have rv:=As hi
 have Wq:=hi.length
 have core:∀H:Hp,PN H->bK K H a (ns.map V.int)->vt P w H s₁.heap->(∀b,H b≠none->b=a)->(H a≠none->K.lookup a=none)->codeAny (model P w) callerA (.call (.ref fa) ⟨[.ref a],[]⟩) (λr s'=>r=.ok (.ret (.bool true))/\OldK s₁.heap s'.heap/\s'.os=s₁.os/\AllBare s'.gens) s₁:=by
  intro H hO hS hok hA hK
  have GS:∀{b:Addr}{o:Obj},s₁.heap.get? b=some o->H b=none->(Bl s₁.heap H).get? b=some o:=λe n=>JB e n
  have SH:∀{b:Addr}{o:Obj}{es:Array DictEntry}{ep:Nat},s₁.heap.get? b=some o->o.data=.dict es ep->H b=none:=λ{b o es ep} e d=>by
   cases q:H b with
   |none=>rfl
   |some u =>
    have e':b=a:=hA b (by rw[q];simp)
    subst e'
    rw[ha]at e;cases e
    have d':Data.seq vs.toArray _=Data.dict es ep:=d
    cases d'
  have Vm:∀{b:Addr}{m:Str->Option Value},s₁.heap.Ns b m->(Bl s₁.heap H).Ns b m:=λ{b m} ⟨o,es,ep,e,d,r⟩=>⟨o,es,ep,GS e (SH e d),d,r⟩
  have ZK:K.In (Bl s₁.heap H):=λb o e=>GS (KX b o e) (by
   cases q:H b with
   |none=>rfl
   |some u =>
    have e':b=a:=hA b (by rw[q];simp)
    subst e'
    rw[hK (by rw[q];simp)]at e;cases e)
  have hM:Mod K mg (Bl s₁.heap H):=⟨ZK,Vm hns,⟨mb,Vm hb,hbb⟩,let ⟨mc,h1,h2⟩:=hlim;⟨mc,Vm h1,h2⟩⟩
  have e0:EK P w K mg (Bl s₁.heap H) callerA [] s₁ H:=⟨rfl,hM,λb o e=>Mq e,Nat.le_of_eq (HH _ _),trivial,λb hb=>absurd (show b∈([]:List Addr) from hb) (by simp),hok,.of_eq hg⟩
  refine codeAny_mono ((F _ ZK (Vm hns)).run callerA [] s₁ H ⟨[.ref a],[]⟩ [.ref a] [.ref a] _ _ hr e0 (hbind s₁ (.ref a)) (.cons rfl .nil) (Mi H hO hS)) λr s' h=>?_
  cases r with
  |error e=>exact(Wo H e s' h).elim
  |ok fl =>
   cases fl with
   |next=>exact False.elim h
   |brk=>exact False.elim h
   |cont=>exact False.elim h
   |ret u =>
    obtain⟨v,H',os,bare,un,Wr,r',q⟩:=h
    have q':v=.bl true:=q
    subst q'
    obtain rfl:u=Value.bool true:=r'
    refine⟨O,OldK.of_keep λb o e=>?_,os,bare⟩
    cases q:H b with
    |none=>exact un.keep b o e q (by intro z;exact absurd (show b∈([]:List Addr) from z) (by simp)) (by simp)
    |some u =>
     rcases hO b with z|⟨ob,xs,z⟩
     ·rw[q]at z;cases z
     ·have z2:=un.vY b ob _ z
      obtain⟨e1,_⟩:=hok b _ z
      obtain⟨e2,_⟩:=Wr b _ z2
      rw[e]at e1;cases e1
      exact e2
 cases hk:K.lookup a with
 |some o =>
  have e:=KX a o hk
  rw[ha]at e
  cases e
  refine core (λ_=>none) (λ_=>.inl rfl) (.inr ⟨_,vs.toArray,_,hk,rfl,rfl,rfl,by rw[aam,Wq];exact hl,by simpa using rv⟩) (λb u z=>by have z':(none:Option HO)=some u:=z;cases z') (λb z=>absurd rfl z) λz=>absurd rfl z
 |none =>
  refine core (λb=>if b=a then some (.EA {cls:=.type "list",data:=.seq vs.toArray} (.lst (ns.map V.int))) else none) (λb=>?_) (.inl (.inr ⟨{cls:=.type "list",data:=.seq vs.toArray},aaj rfl⟩)) (λb u z=>?_) (λb z=>?_) λ_=>hk
  ·by_cases hb:b=a
   ·exact .inr ⟨_,_,aaj hb⟩
   ·exact .inl (aai hb)
  ·by_cases hb:b=a
   ·have z':=(aaj hb).symm.trans z
    cases z'
    subst hb
    exact⟨ha,by rw[aav];exact hl,vs,_,rv,ha⟩
   ·have z':=(aai hb).symm.trans z
    cases z'
  ·by_cases hb:b=a
   ·exact hb
   ·exact absurd (aai hb) z
theorem MN{l:W.OpenLaw}{n k:Nat}{q:Program}{loose:List Str}{XP:(Str->Option Value)->Heap->Prop}{YP:World->Heap->Prop}{d:DefRec}{K:Params->W.Frag}{CX:World->Jq}{sp:World->Sp}{x:Str}(hn:l.most=some n)(hn2:n<=sizeLine)(hdf:d.params.defaults=[])(hr:fK k callerA)(hY:∀(w:World)(h:Heap),YP w h->(K w.params).In h)(F:∀(w:World)(mg:Str->Option Value)(fa:Addr)(h:Heap),(K w.params).In h->h.Ns mainGlobals mg->mg d.name=some (.ref fa)->∃fd:FuncData,(∀(s:Shared)(u:Value),BindsTo s fd ⟨[u],[]⟩ [(x,u)])/\∀base:Heap,(K w.params).In base->base.Ns mainGlobals mg->bh l.prog w (K w.params) mg base (CX w) k fa fd [x] (sp w))(Mi:∀(w:World)(H:Hp)(a:Addr)(ns:List Int),ns.length<=n->PN H->bK (K w.params) H a (ns.map V.int)->sp w [.ref a] H (λv _=>v=.bl true) λ_ _ _=>False)(Wo:∀(w:World)(H:Hp)(s:Shared)(e:Value)(s':Shared),CX w [] H s (λ_ _ _=>False) e s'->False):W.WalkO q loose XP YP l.row.toRowW d [] (λf vs=>PySem.call f vs):=by
 refine Att.C7 hn hdf λw s₀ s₁ mg mb fa o pm cd doc a vs ns G Y ho hd hcd hmg hobj hints hlen hg=>?_
 have KX:=hY w _ Y
 obtain⟨fd,hb,hF⟩:=F w mg fa _ KX G.T.g hmg
 exact JV KX G.T.g G.T.b G.T.builtins G.T.nolimit hg hobj hints (aaq hlen hn2) hr hF hb (λH hO hS=>Mi w H a ns hlen hO hS) λH e s'=>Wo w H s₁ e s'
def inClass(s:Stmt)(j:Nat):Stmt:=match s with
 | .ClassDef _ _ _ body _ _ _ _ _ _ _=>body.getD j (.Pass ⟨0,0,0,0⟩)
 |_=>.Pass ⟨0,0,0,0⟩
def cX(s:Stmt):Arguments:=match s with
 | .FunctionDef _ a _ _ _ _ _ _ _ _=>a
 |_=>{posonlyargs:=[],args:=[],vararg:=none,kwonlyargs:=[],kw_defaults:=[],kwarg:=none,defaults:=[]}
def cG(s:Stmt):List Stmt:=match s with
 | .FunctionDef _ _ b _ _ _ _ _ _ _=>b
 |_=>[]
def au(s:Stmt):Scope:=match s with
 | .FunctionDef _ _ _ _ _ _ sc _ _ _=>sc
 |_=>{kind:=.function,names:=[],isGenerator:=false,isCoroutine:=false}
abbrev fE:Jq:=λ_ _ _ _ _ _=>False
abbrev E0:XK:=λ_ _ _=>False
theorem eZ{X:Cx}:Passes fE X E0:=λ_ _ _ _ _ _ _ h=>h.elim
structure fh(K:W.Frag)(x qual:Str)(st:Stmt)(f:Addr)(fd:FuncData):Prop where
 ex:∃(oc:Value)(od:Option Addr)(kV doc pm:Value)(an:Option Addr)(cdv ct:Value)(osl:Array (Option Value)),fd=W.fnOf x qual (cX st) (cG st) (au st) .none kV doc pm an cdv ct/\K.lookup f=some ⟨oc,od,.func fd,osl⟩/\W.codeIn K cdv qual=true
 kp:W.keepIn K (.ref f)=true
section
variable{P:Program}{w:World}{K:W.Frag}{mg:Str->Option Value}{base:Heap}
theorem fh.ok{x qual:Str}{st:Stmt}{f:Addr}{fd:FuncData}{N ps:List Str}{k:Nat}{sp:Sp}(F:fh K x qual st f fd)(S:aE N ps (au st))(len:∀vs H Q E,sp vs H Q E->vs.length=ps.length)(hbody:∀(cdv:Value)(A:Around)(outer:List Env)(s:Shared)(H:Hp)(vs:List V)(Q:VK)(E:XK),fK k (A.deeper (envOfC qual (au st) s.heap.objs.size f cdv))->sp vs H Q E->∃t,GG (EM fE P w K mg base N qual (au st) f cdv A outer s H E).RC (cG st) t/\t {nx:=λ_ H'=>Q .non H',rt:=Q} (start N vs) H):bh P w K mg base fE (k+1) f fd ps sp:=by
 obtain⟨oc,od,kV,doc,pm,an,cdv,ct,osl,rfl,lk,hcd⟩:=F.ex
 refine OL lk hcd S len λA outer s H vs Q E hr Mi=>?_
 obtain⟨t,h,q⟩:=hbody cdv A outer s H vs Q E hr Mi
 exact⟨t,h.RC,q⟩
theorem fh.binds{x qual:Str}{st:Stmt}{f:Addr}{fd:FuncData}{ps:List Str}(F:fh K x qual st f fd)(h:∀(kV doc pm:Value)(an:Option Addr)(cdv ct:Value)(us:List Value),us.length=ps.length->bindArgs (W.fnOf x qual (cX st) (cG st) (au st) .none kV doc pm an cdv ct) ⟨us,[]⟩=pure (ps.zip us)):Binds K fd ps []:=by
 obtain⟨oc,od,kV,doc,pm,an,cdv,ct,osl,rfl,lk,hcd⟩:=F.ex
 exact .all (h kV doc pm an cdv ct)
theorem JW{x qual:Str}{st:Stmt}{f:Addr}{oc:Value}{od an:Option Addr}{osl:Array (Option Value)}{kV doc pm cdv ct:Value}(l:K.lookup f=some ⟨oc,od,.func (W.fnOf x qual (cX st) (cG st) (au st) .none kV doc pm an cdv ct),osl⟩)(c:W.codeIn K cdv qual=true)(k:W.keepIn K (.ref f)=true):fh K x qual st f (W.fnOf x qual (cX st) (cG st) (au st) .none kV doc pm an cdv ct):=⟨⟨oc,od,kV,doc,pm,an,cdv,ct,osl,rfl,l,c⟩,k⟩
end
theorem aR{A:Around}{k:Nat}(hr:fK k A):A.units+1<cLine:=aaK (Nat.add_le_add_left (by decide:1<=64) _) hr.units
section
variable{X:Cx}
theorem pv(i:Nat){x:Str}{pos:Pos}(hN:X.N[i]?=some x:=by rfl)(hv:V3 X.env.scope x:=by first|exact Or.inl rfl|exact Or.inr (Or.inl rfl)|exact Or.inr (Or.inr rfl))(hd:(x==("__debug__":Str))=false:=by decide)(hcd:(x==("__classdict__":Str))=false:=by decide):PE X (.Name x pos) (Sf i):=Pb hN hv hd hcd
end
theorem eg{A B:Prop}(h:B):if false=true then A else B:=by
 rw[aai aaA]
 exact h
theorem kY{A B:Prop}(h:A):if true=true then A else B:=by
 rw[aaj rfl]
 exact h
theorem bI{c A B:Prop}[Decidable c](h1:c->A)(h2:¬c->B):if c then A else B:=by
 by_cases h:c
 ·rw[aaj h]
  exact h1 h
 ·rw[aai h]
  exact h2 h
theorem SS{c A B:Prop}[Decidable c](hc:c)(h:B):if (!decide c)=true then A else B:=by
 rw[aas hc]
 exact eg h
def aI(H H':Hp):Prop:=∀b o,H b=some o->H' b=some o
theorem aI.refl(H:Hp):aI H H:=λ_ _ h=>h
theorem aI.trans{H H1 H2:Hp}(a:aI H H1)(b:aI H1 H2):aI H H2:=λc o h=>b c o (a c o h)
theorem aI.free{H H':Hp}(e:aI H H'){l:Addr}(h:H' l=Option.none):H l=Option.none:=by
 cases q:H l with
 |none=>rfl
 |some o =>
  rw[e l o q]at h
  cases h
theorem aI.seq{K:W.Frag}{H H':Hp}{a:Addr}{xs:List V}(e:aI H H')(h:bK K H a xs):bK K H' a xs:=by
 rcases h with (h|⟨o,h⟩)|h
 ·exact .inl (.inl (e _ _ h))
 ·exact .inl (.inr ⟨o,e _ _ h⟩)
 ·exact .inr h
end L2
set_option maxHeartbeats 4000000
namespace L2
open PySem PySem.Spec PyProof.Rows
def gM(env:Env):List (Str×NameKind)->List (Str×Addr)->List (Str×Addr)
 |[],cs=>cs
 | (n,k)::r,cs=>gM env r (if k==.free then (n,(env.cells.lookup n).getD 0)::cs else cs)
theorem pG{scope:Scope}{env:Env}(h:∀n,(n,NameKind.free)∈scope.names->∃c,env.cells.lookup n=some c):closureFor scope env=pure (gM env scope.names []):=by
 simp only[closureFor]
 have key:∀(l:List (Str×NameKind))(cs:List (Str×Addr)),(∀n,(n,NameKind.free)∈l->∃c,env.cells.lookup n=some c)->(forIn l cs (λx r=>if (x.2==NameKind.free)=true then (cellOf env x.1 >>= λa=>pure (ForInStep.yield ((x.1,a)::r))) else pure (ForInStep.yield r)):Sem (List (Str×Addr)))=pure (gM env l cs):=by
  intro l
  induction l with
  |nil=>intro cs _;rfl
  |cons x l ih =>
   intro cs hl
   obtain⟨n,k⟩:=x
   have hl':∀n,(n,NameKind.free)∈l->∃c,env.cells.lookup n=some c:=λn hn=>hl n (aay _ hn)
   rw[List.forIn_cons]
   by_cases hk:k=.free
   ·subst hk
    obtain⟨c,hc⟩:=hl n aaE
    have e1:cellOf env n=pure c:=by unfold cellOf;rw[hc]
    simp only[beq_self_eq_true,if_true,e1,pure_bind]
    rw[ih _ hl']
    simp only[gM,beq_self_eq_true,if_true,hc,Option.getD_some]
   ·have hb:(k==NameKind.free)=false:=by simpa using hk
    simp only[hb,aaP,abm,pure_bind]
    rw[ih _ hl']
    simp only[gM,hb,aaP,abm]
 exact(congrArg (λz=>z >>= λr=>pure r) (key scope.names [] h)).trans rfl
theorem p9{env:Env}:∀(l:List (Str×NameKind))(cs:List (Str×Addr)),(∀n,(n,NameKind.free)∈l->∃c,env.cells.lookup n=some c)->(∀x c,cs.lookup x=some c->env.cells.lookup x=some c)->∀x c,(gM env l cs).lookup x=some c->env.cells.lookup x=some c
 |[],cs,_,h,x,c,e=>h x c e
 | (n,k)::r,cs,hl,h,x,c,e=>by
  refine p9 r _ (λn hn=>hl n (aay _ hn)) ?_ x c e
  intro y d hy
  by_cases hk:(k==NameKind.free)=true
  ·rw[aaj hk]at hy
   have hk':k=.free:=by simpa using hk
   subst hk'
   obtain⟨c',hc'⟩:=hl n aaE
   rw[hc',Option.getD_some,abH]at hy
   cases Ws:y==n with
   |true =>
    rw[Ws]at hy
    have:y=n:=by simpa using Ws
    subst this
    rw[hc'];exact hy
   |false=>rw[Ws]at hy;exact h y d hy
  ·rw[aai hk]at hy;exact h y d hy
theorem nB{env:Env}:∀(l:List (Str×NameKind))(cs:List (Str×Addr))(x:Str),((x,NameKind.free)∈l\/∃c,cs.lookup x=some c)->∃c,(gM env l cs).lookup x=some c
 |[],cs,x,h=>by
  rcases h with h|h
  ·cases h
  ·exact h
 | (n,k)::r,cs,x,h=>by
  refine nB r _ x ?_
  rcases h with h|⟨c,h⟩
  ·rcases aaB.mp h with e|h
   ·cases e
    refine .inr ⟨(env.cells.lookup n).getD 0,?_⟩
    simp[abH]
   ·exact .inl h
  ·right
   by_cases hk:(k==NameKind.free)=true
   ·rw[aaj hk,abH]
    cases x==n with
    |true=>exact⟨_,rfl⟩
    |false=>exact⟨c,h⟩
   ·rw[aai hk];exact⟨c,h⟩
theorem iZ{env:Env}(x:Str):∀(names:List (Str×NameKind)),(names.map λ(n,k)=>if (k==NameKind.free&&env.scope.kind==.function&&env.kindOf n==some .cell) then (n,NameKind.cell) else (n,k)).lookup x =
   (names.lookup x).map λk=>if (k==NameKind.free&&env.scope.kind==.function&&env.kindOf x==some .cell) then NameKind.cell else k
 |[]=>rfl
 | (n,k)::r=>by
  have ih:=iZ (env:=env) x r
  show List.lookup x ((if (k==NameKind.free&&env.scope.kind==.function&&env.kindOf n==some .cell)=true then (n,NameKind.cell) else (n,k))::_)=_
  cases hx:x==n with
  |true =>
   have e:x=n:=by simpa using hx
   subst e
   by_cases hc:(k==NameKind.free&&env.scope.kind==.function&&env.kindOf x==some .cell)=true
   ·rw[aaj hc];simp only[abH,beq_self_eq_true,abP,aaj hc]
   ·rw[aai hc];simp only[abH,beq_self_eq_true,abP,aai hc]
  |false =>
   by_cases hc:(k==NameKind.free&&env.scope.kind==.function&&env.kindOf n==some .cell)=true
   ·rw[aaj hc];simp only[abH,hx];exact ih
   ·rw[aai hc];simp only[abH,hx];exact ih
structure cz(XN:List Str)(RK:Scope)(N:List Str)(nv:Nat)(js:List Nat)(scope:Scope):Prop where
 kind:scope.kind=.function
 cell:∀y∈scope.names,y.2≠.cell
 loc:∀y∈scope.names,y.2=.local->scope.names.lookup y.1=some .local
 free:∀y∈scope.names,y.2=.free->(RK.names.lookup y.1=some .cell\/RK.names.lookup y.1=some .free)
 nd:N.Nodup
 len:N.length=nv+js.length
 pl:js.map (λj=>XN[j]?)=(N.drop nv).map some
 fr:∀x∈N.drop nv,scope.names.lookup x=some .free
abbrev i0(X:Cx)(N:List Str)(scope:Scope)(C:Addr)(s:Shared)(H:Hp)(fp:List Addr):Cx where
 prog:=X.prog
 w:=X.w
 K:=X.K
 mg:=X.mg
 base:=X.base
 A:=X.A
 N:=N
 s₀:=s
 H₀:=H
 env:=compEnvC scope (gM X.env scope.names []) C X.env
 outer:=X.stack
 stack:=X.stack
 ex:=fp
 fn:=λ_=>false
 calm:=X.calm
 pn:=[]
 xe:=λ_ _=>False
def tW(nv:Nat)(js:List Nat)(σ:St):St:=List.replicate nv none++js.map λj=>(σ[j]?).getD none
section
variable{X:Cx}{pins:List (Addr×Obj)}{σ:St}{H:Hp}{s:Shared}
theorem EU{N:List Str}{nv:Nat}{js:List Nat}{scope:Scope}{fp:List Addr}{h1:Heap}{tk:Nat}(I:Inv X pins σ H s)(S:cz X.N X.env.scope N nv js scope)(hf:∀b∈fp,qT X pins H b)(hfl:∀b∈fp,b<s.heap.objs.size)(keep:∀b o,s.heap.get? b=some o->h1.get? b=some o)(ns:h1.Ns s.heap.objs.size λ_=>none):Inv (i0 X N scope s.heap.objs.size s H fp) [] (tW nv js σ) H {s with heap:=h1,toks:=tk}:=by
 have hfr:∀n,(n,NameKind.free)∈scope.names->∃c,X.env.cells.lookup n=some c:=λn hn=>I.ok.has n (S.free _ hn rfl)
 have sub:∀x c,(gM X.env scope.names []).lookup x=some c->X.env.cells.lookup x=some c:=p9 scope.names [] hfr (λx c z=>by cases z)
 have PU:∀x,scope.names.lookup x≠some .cell:=λx z=>S.cell _ (aa8 z) rfl
 have Wt:∀x,(relabel scope X.env).names.lookup x=some .cell\/(relabel scope X.env).names.lookup x=some .free->scope.names.lookup x=some .free:=by
  intro x hx
  have e:=iZ (env:=X.env) x scope.names
  have hx':(relabel scope X.env).names.lookup x=_:=e
  rw[hx']at hx
  cases q:scope.names.lookup x with
  |none=>rw[q]at hx;rcases hx with hx|hx<;>cases hx
  |some k =>
   rw[q,abP]at hx
   cases k<;>first|rfl | (exact absurd q (PU x)) | (exfalso;rcases hx with hx|hx<;>simp at hx)
 refine⟨⟨I.ok.mod,S.kind,I.ok.glob,I.ok.blt,aan _,λx y c h1 h2=>I.ok.inj x y c (sub _ _ h1) (sub _ _ h2),λx hx=>?_,λx c z=>(by cases z),I.ok.hd,I.ok.frames,.inl rfl,λb hb=>?_,λb o e=>?_,?_,λb o e hb=>?_,λb hb z=>?_,I.stack,I.GD⟩,O,I.bare,Un.kept keep,⟨_,ns,λi x v e1 e2 e3=>?_⟩,λx c e=>?_,I.hok.fresh (aan _),λx c e=>I.pF x c (sub _ _ e),λp hp=>absurd (show p∈([]:List (Addr×Obj)) from hp) (by simp),I.hok.kept keep,?_⟩
 ·exact nB _ _ _ (.inl (aa8 (Wt x hx)))
 ·obtain⟨f0,f1,f2,f3,f4,f5⟩:=hf b hb
  exact⟨aaR (hfl b hb),λx c e=>f4 x c (sub x c e)⟩
 ·exact I.bs b o e
 ·exact aaq I.ok.Mg I.sz
 ·obtain⟨f0,f1,f2,f3,f4,f5⟩:=hf b hb
  rcases f3 with z|z
  ·exact I.ok.JC b o e z
  ·exact absurd (aaG (aaw e) (aaq I.ok.Mg z)) (Nat.lt_irrefl _)
 ·obtain⟨f0,f1,f2,f3,f4,f5⟩:=hf b hb
  rcases aaB.mp (I.Bm b z) with q|q
  ·exact f1 q
  ·exact f2 q
 ·
  have hi:¬i<nv:=λhlt=>by
   unfold tW at e2
   rw[List.getElem?_append_left (by simpa using hlt),List.getElem?_replicate,aaj hlt]at e2
   cases e2
  obtain⟨k,rfl⟩:∃k,i=nv+k:=⟨i-nv,by omega⟩
  unfold tW at e2
  rw[List.getElem?_append_right (by simp),abr,Nat.add_sub_cancel_left,abS]at e2
  cases hj:js[k]? with
  |none=>rw[hj]at e2;cases e2
  |some j =>
   rw[hj,abP]at e2
   have Vn:(σ[j]?).getD none=some v:=aax e2
   have hσ:σ[j]?=some (some v):=by
    cases q:σ[j]? with
    |none=>rw[q]at Vn;cases Vn
    |some z=>rw[q]at Vn;exact congrArg some Vn
   have hd:(N.drop nv)[k]?=some x:=by rw[List.getElem?_drop];exact e1
   have hX:X.N[j]?=some x:=by
    have q:=congrArg (λl=>l[k]?) S.pl
    simp only[abS,hj,hd,abP]at q
    exact aax q
   have hfx:=S.fr x (aaZ hd)
   have kx:=S.free _ (aa8 hfx) rfl
   obtain⟨m,_,hl⟩:=I.loc
   obtain⟨u,r,l⟩:=hl j x v hX hσ (.inr kx)
   refine⟨u,r,?_⟩
   rcases l with ⟨k1,_⟩|⟨_,c,hc,hcell⟩
   ·exfalso
    have Vo:X.env.scope.names.lookup x=some .local:=k1
    rcases kx with z|z<;>(rw[Vo]at z;cases z)
   ·obtain⟨c',hc'⟩:=nB (env:=X.env) scope.names [] x (.inl (aa8 hfx))
    have e:=sub _ _ hc'
    rw[hc]at e;cases e
    refine .inr ⟨?_,c,hc',hcell.keeps keep⟩
    have e:=iZ (env:=X.env) x scope.names
    have e':(relabel scope X.env).names.lookup x=_:=e
    rw[hfx,abP]at e'
    show(relabel scope X.env).names.lookup x=some .cell\/(relabel scope X.env).names.lookup x=some .free
    rw[e']
    split
    ·exact .inl rfl
    ·exact .inr rfl
 ·obtain⟨v,q⟩:=I.cell x c (sub _ _ e)
  exact⟨v,q.keeps keep⟩
 ·unfold tW
  show _=N.length
  rw[aao,abr,aav,S.len]
end
def HW(X:Cx)(ifs:List Expr)(t:TT):Prop :=
 ∀(pins:List (Addr×Obj))(s:Shared)(σ:St)(H:Hp)(Q:Bool->Hp->Prop),Inv X pins σ H s->t σ H Q->wpAny (model X.prog X.w) X.A (forIn ifs true λc r=>if r=true then do let ok ←isTrue c X.env (eval c X.env);pure (ForInStep.yield ok) else pure (ForInStep.yield r)) (TP X pins σ Q) X.xe s
def SV:TT:=λ_ H Q=>Q true H
theorem kZ{X:Cx}:HW X [] SV:=λ_ _ _ H _ I h=>wpAny_tests_nil ⟨H,I,h⟩
theorem MO{X:Cx}{c:Expr}{t:TT}(h:PT X c t):HW X [c] t:=λpins s σ H Q I q=>wpAny_tests_one (h pins s σ H Q I q)
def Au(J:It)(g:TG)(tt:TT)(te:TE)(Q:VK)(D:Addr)(τ:St)(H:Hp):Prop :=
 ∃W:Nat->Nat->List V->St->Hp->Prop,(∃m,W 0 m [] τ (upd H D (.lst [])))/\∀i m ys τ H,W i m ys τ H->H D=some (.lst ys)/\((J.stop i H/\Q (.ref D) H)\/(J.go i H/\∃N:List V->St->Hp->Prop,(∀zs σ' H',N zs σ' H'->∃m',m'<m/\W (i+1) m' zs σ' H')/\∀x H',J.Mh i H x H'->g x τ H' λτ2 H2=>tt τ2 H2 λb H3 =>
   if b=true then te τ2 H3 λy H4=>H4 D=some (.lst ys)/\ys.length<sizeLine/\N (ys++[y]) τ2 (upd H4 D (.lst (ys++[y])))
   else N ys τ2 H3))
def OM(wi:TI)(g:TG)(tt:TT)(te:TE)(nv:Nat)(js:List Nat):TE:=λσ H Q=>wi σ H λJ H1=>∀D,H1 D=none->Au J g tt te Q D (tW nv js σ) H1
theorem EV{prog:Program}{w:World}{A:Around}{R:Result->Shared->Prop}{s:Shared}{elt target iter:Expr}{ifs:List Expr}{scope:Scope}{pos:Pos}{it acc:Value}{env:Env}(I:Nat->Shared->Prop)(turn:∀n s,I n s->wpAny (model prog w) A (pyNext it) (λr s₁=>match r with
   |none=>R (.ok .next) s₁
   |some v=>wpAny (model prog w) A (letOwnedTupleGo target it v) (λ_ s₁'=>wpAny (model prog w) A (assign target env v) (λ_ s₂ =>
     wpAny (model prog w) A (forIn ifs true λc r=>if r=true then do let ok ←isTrue c env (eval c env);pure (ForInStep.yield ok) else pure (ForInStep.yield r)) (λok s₃ =>
      if ok=true then wpAny (model prog w) A (eval elt env) (λx s₄ =>
       wpAny (model prog w) A (call (.builtin "list.append") [acc,x]) (λ_ s₅=>∃m,m<n/\I m s₅) (λ_ _=>False) s₄) (λ_ _=>False) s₃
      else ∃m,m<n/\I m s₃) (λ_ _=>False) s₂) (λ_ _=>False) s₁') (λ_ _=>False) s₁) (λ_ _=>False) s)(n:Nat)(h:I n s):codeAny (model prog w) A (.compLoop (.ListComp elt [⟨target,iter,ifs,0⟩] scope pos) 0 it acc env) R s:=by
 refine codeAny_loop rfl I (λn s hI=>?_) n h
 show wpAny _ A ((compTurn (.ListComp elt [⟨target,iter,ifs,0⟩] scope pos) 0 it acc env).onRaise (λx=>do noteFrame x env;theTreesLotGoes x)) _ _ s
 refine wpAny_noted (abt (E:=λ_ _=>False) ?_ (λ_ _ q=>q) λ_ _ q=>q.elim)
 rw[compTurn_list]
 refine aah (wpAny_standAt (aah (abt (turn n s hI) (λr s₁ h₁=>?_) λ_ _ h'=>h')))
 cases r with
 |none=>exact aal h₁
 |some v =>
  refine aah (abt h₁ (λ_ s₁' h₁'=>?_) λ_ _ h'=>h')
  refine aah (abt h₁' (λ_ s₂ h₂=>aah (abt h₂ (λok s₃ h₃=>?_) λ_ _ h'=>h')) λ_ _ h'=>h')
  cases ok with
  |false=>exact aal ⟨rfl,h₃⟩
  |true =>
   exact aah (aah (abt h₃ (λx s₄ h₄=>aah (abt h₄ (λ_ s₅ h₅=>aal (aal ⟨rfl,h₅⟩)) λ_ _ h'=>h')) λ_ _ h'=>h'))
section
variable{X:Cx}{elt tg iter:Expr}{ifs:List Expr}{scope:Scope}{pos:Pos}{N:List Str}{nv:Nat}{js:List Nat}{wi:TI}{g:TG}{tt:TT}{te:TE}
theorem xY{pins:List (Addr×Obj)}{σ:St}{H:Hp}{s:Shared}{Q:VK}{it:Addr}{fp:List Addr}{tn:Nat->Heap->Prop}{J:It}{E:Value->Shared->Prop}{RR:Value->Addr->Result->Shared->Prop}(hc:X.calm=true)(S:cz X.N X.env.scope N nv js scope)(hg:∀C s H fp,PG (i0 X N scope C s H fp) tg g)(ht:∀C s H fp,HW (i0 X N scope C s H fp) ifs tt)(he:∀C s H fp,PE (i0 X N scope C s H fp) elt te)(I:Inv X pins σ H s)(T:Turn X.prog X.w X.K tg J fp it tn)(st:tn 0 s.heap)(hf:∀b∈fp,qT X pins H b)(hR:∀D,H D=none->Au J g tt te Q D (tW nv js σ) H)(hRR:∀D C H' s' m,Inv X pins σ H' s'->qT X pins H' C->s'.heap.Ns C m->Q (.ref D) H'->RR (.ref D) C (.ok .next) s'):wpAny (model X.prog X.w) X.A (newList []) (λacc s₃=>wpAny (model X.prog X.w) X.A (newFunctionEnv scope X.env.globals (gM X.env scope.names []) [] X.env.qual none .none (some X.env)) (λcenv s₄ =>
   codeAny (model X.prog X.w) X.A (.compStart (.ListComp elt [⟨tg,iter,ifs,0⟩] scope pos) 0 (.ref it) acc {cenv with scope:=relabel scope X.env}) (RR acc cenv.locals) s₄) E s₃) E s:=by
 refine aaT (wpAny_newFunctionEnv S.cell (by intro y hy;simp at hy) (λh₁ JX JY=>?_) S.kind)
 have I3:Inv X pins σ (upd H s.heap.objs.size (.lst [])) {s with heap:=s.heap.push {cls:=.type "list",data:=.seq ([]:List Value).toArray}}:=I.Wn (t':=s.toks) (its:=[]) .nil (aaM _)
 have hD:=I.fresh
 obtain⟨W,⟨m0,w0⟩,turn⟩:=hR s.heap.objs.size hD
 have ho:=T.obj 0 s.heap st
 have SW:∀b∈fp,b<s.heap.objs.size:=λb hb=>let ⟨o,e,_⟩:=ho b hb;aaw e
 have PV:∀b∈fp,qT X pins (upd H s.heap.objs.size (.lst [])) b:=λb hb=>⟨by rw[aH (aaR (SW b hb))];exact(hf b hb).1,(hf b hb).2⟩
 generalize Wu:({s with heap:=s.heap.push {cls:=.type "list",data:=.seq ([]:List Value).toArray}}:Shared)=s3 at I3 JX JY
 have e3:s3.heap=s.heap.push {cls:=.type "list",data:=.seq ([]:List Value).toArray}:=by rw[←Wu]
 have hfl:∀b∈fp,b<s3.heap.objs.size:=λb hb=>by rw[e3,Heap.size_push];exact Nat.lt_succ_of_lt (SW b hb)
 have keep:∀b o,s3.heap.get? b=some o->h₁.get? b=some o:=λb o e=>JY.extBut b o (aaR (aaw e)) (aar _ e)
 have J0:=EU (tk:=s3.toks+([]:List (Str×Value)).length) I3 S PV hfl keep JX
 have st1:tn 0 h₁:=T.keep 0 s.heap h₁ st λb hb o e=>keep b o (by rw[e3];exact aar _ e)
 generalize hH3:upd H s.heap.objs.size (.lst [])=H3 at *
 generalize hY:i0 X N scope s3.heap.objs.size s3 H3 fp=Y at *
 have sub:∀x c,(gM X.env scope.names []).lookup x=some c->X.env.cells.lookup x=some c :=
  p9 scope.names [] (λn hn=>I.ok.has n (S.free _ hn rfl)) (λx c z=>by cases z)
 have ED:∀{H':Hp},(∀b∈fp,H' b=none)->∀b∈fp,qT Y [] H' b:=λ{H'} hn b hb=>by
  subst hY
  obtain⟨f0,f1,f2,f3,f4,f5⟩:=PV b hb
  refine⟨hn b hb,aaR (hfl b hb),λz=>?_,.inl hb,λx c e=>f4 x c (sub x c e),λp hp=>absurd (show p∈([]:List (Addr×Obj)) from hp) (by simp)⟩
  rcases aaB.mp (I3.Bm b z) with q|q
  ·exact f1 q
  ·exact f2 q
 have eA:Y.A=X.A:=by subst hY;rfl
 have eP:Y.prog=X.prog:=by subst hY;rfl
 have eW:Y.w=X.w:=by subst hY;rfl
 have eK:Y.K=X.K:=by subst hY;rfl
 have eC:Y.calm=true:=by subst hY;exact hc
 have eE:Y.env=compEnvC scope (gM X.env scope.names []) s3.heap.objs.size X.env:=by subst hY;rfl
 have Vp:Y.xe=λ_ _=>False:=by subst hY;rfl
 have hgY:PG Y tg g:=by subst hY;exact hg _ _ _ _
 have htY:HW Y ifs tt:=by subst hY;exact ht _ _ _ _
 have heY:PE Y elt te:=by subst hY;exact he _ _ _ _
 have loop:codeAny (model X.prog X.w) X.A (.compLoop (.ListComp elt [⟨tg,iter,ifs,0⟩] scope pos) 0 (.ref it) (.ref s.heap.objs.size) (compEnvC scope (gM X.env scope.names []) s3.heap.objs.size X.env))
   (RR (.ref s.heap.objs.size) s3.heap.objs.size) {s3 with heap:=h₁,toks:=s3.toks+([]:List (Str×Value)).length}:=by
  refine EV (λn s'=>∃i ys τ H',Inv Y [] τ H' s'/\tn i s'.heap/\(∀b∈fp,H' b=none)/\W i n ys τ H') ?_ m0 ⟨0,[],_,H3,J0,st1,λb hb=>(PV b hb).1,w0⟩
  rintro n s4 ⟨i,ys,τ,H4,I4,ZL,ZN,w4⟩
  obtain⟨hDl,tr⟩:=turn i n ys τ H4 w4
  rcases tr with ⟨stop,qn⟩|⟨go,Nn,ZO,step⟩
  ·have d:=T.done Y eP eW eK eC i [] s4 τ H4 (λ_ _=>False) I4 (ED ZN) ZL stop
   rw[eA]at d
   refine cy d λr s5 ⟨hr,I5⟩=>?_
   subst hr
   have u:Inv X pins σ H4 s5:=by
    subst hY
    exact I3.Se (ch:=fp) I5.os I5.base I5.hok I5.bare λb hb=>⟨(PV b hb).2.2.2.1,(PV b hb).2.1,(PV b hb).2.2.2.2.1,(PV b hb).2.2.2.2.2⟩
   have hC:H4 s3.heap.objs.size=none:=by have z:=I5.free;rw[eE]at z;exact z
   obtain⟨m,hn,_⟩:=I5.loc
   rw[eE]at hn
   exact hRR _ _ H4 s5 m u (I3.zo (aan _) hC) hn qn
  ·have d:=T.item Y eP eW eK eC i [] s4 τ H4 (λ_ _=>False) I4 (ED ZN) ZL go
   rw[eA]at d
   refine cy d λr s5 ⟨u,hr,h5⟩=>?_
   subst hr
   refine cy h5 λ_ s6 ⟨x,H6,I6,r6,y6,Wv,fr6⟩=>?_
   have I6':=I6.pinned (ED fr6) (T.obj _ _ Wv)
   have q6:=hgY _ s6 τ H6 x u _ I6' r6 (step x H6 y6)
   rw[eP,eW,eA,eE,Vp]at q6
   refine cy q6 λ_ s7 ⟨σ7,H7,I7,q7⟩=>?_
   have q8:=htY _ s7 σ7 H7 _ I7 q7
   rw[eP,eW,eA,eE,Vp]at q8
   refine cy q8 λok s8 ⟨H8,I8,q8⟩=>?_
   have again:∀{σ9:St}{H9:Hp}{s9:Shared}{zs:List V},Inv Y ([]++xV fp s6.heap) σ9 H9 s9->(∃m',m'<n/\W (i+1) m' zs σ9 H9)->∃m,m<n/\∃i ys τ H',Inv Y [] τ H' s9/\tn i s9.heap/\(∀b∈fp,H' b=none)/\W i m ys τ H':=λ{σ9 H9 s9 zs} I9 n9=>by
    obtain⟨m',hm,w9⟩:=n9
    refine⟨m',hm,i+1,zs,σ9,H9,I9.qU,T.keep _ _ _ Wv λb hb o e=>(I9.pin (b,o) (aaI _ (aaI _ (kW hb e)))).1,λb hb=>?_,w9⟩
    obtain⟨o,e,d⟩:=T.obj _ _ Wv b hb
    exact(I9.pin (b,o) (aaI _ (aaI _ (kW hb e)))).2.1
   cases ok with
   |false =>
    rw[aai aaA]
    rw[aai aaA]at q8
    exact again I8 (ZO _ _ _ q8)
   |true =>
    rw[aaj rfl]
    rw[aaj rfl]at q8
    have q9:=heY _ s8 σ7 H8 _ I8 q8
    rw[eP,eW,eA,eE,Vp]at q9
    refine cy q9 λy s9 ⟨yv,H9,I9,r9,hD9,hz9,q9⟩=>?_
    have ap:=fW (X:=Y) _ s9 σ7 H9 (.ref s.heap.objs.size) [yv] (.ref s.heap.objs.size) [y] (λ_ Ww=>Nn (ys++[yv]) σ7 Ww) I9 rfl (.cons r9 .nil) ⟨_,ys,yv,rfl,rfl,hD9,hz9,q9⟩
    rw[eP,eW,eA,Vp]at ap
    exact cy ap λ_ HX ⟨_,Ww,I10,_,q10⟩=>again I10 (ZO _ _ _ q10)
 subst Wu
 exact codeAny_compStart_list loop (T.self _ 0 _ _ _ st1 loop)
theorem k6(hc:X.calm=true)(S:cz X.N X.env.scope N nv js scope)(hi:PI X tg iter wi)(hg:∀C s H fp,PG (i0 X N scope C s H fp) tg g)(ht:∀C s H fp,HW (i0 X N scope C s H fp) ifs tt)(he:∀C s H fp,PE (i0 X N scope C s H fp) elt te)(hs:∀x,foldedSetIterable iter X.env x=pure x:=by intro _;rfl):PE X (.ListComp elt [⟨tg,iter,ifs,0⟩] scope pos) (OM wi g tt te nv js):=by
 intro pins s σ H Q I h
 rw[eval_ListComp]
 refine wpAny_comprehension_free (use:=none) rfl hs (pG λn hn=>I.ok.has n (S.free _ hn rfl)) S.kind S.loc (cy (hi pins s σ H _ I h) λv s1 h1=>cy h1 λitv s2 h2=>?_)
 obtain⟨it,fp,tn,J,H2,e,I2,T,st2,f2,hR⟩:=h2
 subst e
 refine xY (RR:=λacc C=>compPost (model X.prog X.w) X.A X.xe none (EP X pins σ Q) acc C) hc S hg ht he I2 T st2 f2 hR ?_
 intro D C H' s' m I' fC hn q
 refine⟨m,hn,λh' sb=>⟨.ref D,H',?_,O,q⟩⟩
 exact I'.turned (t':=s'.toks) (λb o hb e=>(sb.2 b hb).trans e) fC.1 fC.2.1 fC.2.2.2.1 fC.2.2.2.2.1 fC.2.2.2.2.2
theorem MP{i:Nat}{x:Str}{pos' spos:Pos}(hc:X.calm=true)(hN:X.N.Nodup)(hi':X.N[i]?=some x)(hx:X.env.scope.names.lookup x=some .local)(S:cz X.N X.env.scope N nv js scope)(hi:PI X tg iter wi)(hg:∀C s H fp,PG (i0 X N scope C s H fp) tg g)(ht:∀C s H fp,HW (i0 X N scope C s H fp) ifs tt)(he:∀C s H fp,PE (i0 X N scope C s H fp) elt te)(hsw:swapsWith (.ListComp elt [⟨tg,iter,ifs,0⟩] scope pos) (some (.Name x pos')) spos.line X.env=pure true:=by rfl)(hs:∀x,foldedSetIterable iter X.env x=pure x:=by intro _;rfl):PS X (.Assign [.Name x pos'] (.ListComp elt [⟨tg,iter,ifs,0⟩] scope pos) spos) (Mx (OM wi g tt te nv js) (ck i)):=by
 intro pins s σ H D I h
 rw[exec_Assign_Name_used _ _ _ _ hsw]
 refine aah (wpAny_standAt (aah ?_))
 show wpAny _ X.A (do let _ ←comprehension (.ListComp elt [⟨tg,iter,ifs,0⟩] scope pos) scope X.env _ (newList []) false (eval iter X.env) (some (assign (.Name x pos') X.env))) _ _ s
 refine aah (abt (wpAny_comprehension_free (use:=some (assign (.Name x pos') X.env)) (Q:=λ_ s'=>SP X pins D .next s') rfl hs (pG λn hn=>I.ok.has n (S.free _ hn rfl)) S.kind S.loc
  (cy (hi pins s σ H _ I h) λv s1 h1=>cy h1 λitv s2 h2=>?_)) (λ_ s' hq=>aal (aal hq)) λ_ _ e=>e)
 obtain⟨it,fp,tn,J,H2,e,I2,T,st2,f2,hR⟩:=h2
 subst e
 refine xY (RR:=λacc C=>compPost (model X.prog X.w) X.A X.xe (some (assign (.Name x pos') X.env)) (λ_ s'=>SP X pins D .next s') acc C) hc S hg ht he I2 T st2 f2 hR ?_
 intro Dl C H' s' m I' fC hn q
 show wpAny _ X.A (assign (.Name x pos') X.env (.ref Dl)) _ _ _
 refine wpAny_assign_Name (Ai I' hN hi' (.inl hx) (v:=.ref Dl) rfl (λs2 I3 ch=>?_) (.inr hx))
 obtain⟨a,sb,ha⟩:=ch
 have hCa:C≠a:=by
  rcases ha with rfl|ha
  ·exact fC.2.1
  ·exact(fC.2.2.2.2.1 x a ha).symm
 refine⟨m,hn.sameBut sb hCa,λh' sb'=>⟨_,H',?_,q⟩⟩
 exact I3.turned (t':=s2.toks) (λb o hb e=>(sb'.2 b hb).trans e) fC.1 fC.2.1 fC.2.2.2.1 fC.2.2.2.2.1 fC.2.2.2.2.2
end
theorem EW:typeLookup (.type "list_reverseiterator") "__len__"=pure none:=by rw[abB,abg];kernel_rfl
theorem JZ:typeLookup (.type "list_reverseiterator") "__length_hint__"=pure (some (.builtin "list_reverseiterator.__length_hint__")):=by rw[abB,abg];kernel_rfl
section
variable{prog:Program}{w:World}{A:Around}{E:Value->Shared->Prop}{s:Shared}
theorem J5{I l:Addr}{i:Int}{Q:Bool->Shared->Prop}(hit:s.heap.IsRevIter I l i)(h:Q false s):wpAny (model prog w) A (Builtin.List.listLengthHint (.ref I)) Q E s:=by
 unfold Builtin.List.listLengthHint
 refine aah (aa3 hit.typeIs EW ?_)
 show wpAny _ _ (specialOf (Value.ref I) ("__length_hint__":Str) >>= _) _ _ _
 refine aah (aa3 hit.typeIs JZ ?_)
 generalize hid:("list_reverseiterator.__length_hint__":String)=Wx
 wp_delta
 rw[show splitId Wx=some ("list_reverseiterator","__length_hint__") from by subst hid;decide +kernel]
 subst hid
 refine aah (abI (T:="list_reverseiterator") (b:=true) hit.typeIs (by rw[abJ];kernel_rfl) ?_)
 refine wpAny_ite_split (λhab=>absurd hab (by decide)) (λ_=>?_)
 refine wpAny_ite_split (λ_=>?_) (λhab=>absurd (by decide +kernel) hab)
 refine wpAny_ite_split (λhab=>absurd hab (by decide +kernel)) (λ_=>?_)
 exact aal h
theorem EX{R:Result->Shared->Prop}(hh:A.handled=none){I l:Addr}{items:Array Value}(hne:l≠I)(hit:s.heap.IsRevIter I l ((items.size:Int)-1))(hl:s.heap.IsList l items)(S:Addr)(hSl:S≠l)(res:Value)(c₀:Nat)(hS:s.heap.get? S=some {cls:=.type "list",data:=.seq #[] c₀})(hn:items.size<=sizeLine)(hR:∀h' tk acc' c',(∀b o,b≠S->b≠I->s.heap.get? b=some o->h'.get? b=some o)->h'.get? S=some {cls:=.type "list",dict:=none,data:=.seq acc' c',slots:=#[]}->ItemsOf (λi v=>items[items.size-1-i]?=some v) acc' items.size->R (.ok (.ret res)) {s with heap:=h',toks:=tk}):wpAny (model prog w) A.in1 (Builtin.List.listExtendWith (.ref S) (.ref I) res)
   (λfin s'=>match fin with | .done f=>R (.ok f) s' | .again c'=>c'.quiet=true/\codeAny (model prog w) A c' R s') (λe s'=>R (.error e) s') s:=by
 have hSI:S≠I:=λe=>by
  subst e
  obtain⟨o,ho,hc,_⟩:=hit
  rw[hS]at ho;cases ho
  exact absurd (show Value.type "list"=Value.type "list_reverseiterator" from hc) (by decide)
 have hSf:S∉[I,l]:=λhm=>by
  rcases aaB.mp hm with e|hm
  ·exact hSI e
  ·exact hSl (aat.mp hm)
 unfold Builtin.List.listExtendWith
 refine aah (wpAny_typeOf hit.typeIs ?_)
 have h1:Builtin.List.listSameRef (.ref S) (.ref I)=false:=by simp[Builtin.List.listSameRef,hSI]
 have h2:(Value.type "list_reverseiterator"==Value.type "list")=false:=by decide
 have h3:(Value.type "list_reverseiterator"==Value.type "tuple")=false:=by decide
 simp only[h1,h2,h3,Bool.or_false,aaP,abm]
 refine aah (wpAny_pyIter_revIter hit ?_)
 refine aah (wpAny_holding (J5 hit ?_))
 rw[aai (by decide)]
 refine aal ⟨plainId_quiet F.plain_extend_loop _,codeAny_extend_loopS (Walks.listRev (prog:=prog) (w:=w) (A:=A.in1) hh I l hne items).toS hn _ hSf _ items.size 0 _ _ _ rfl (aaM _) ⟨aaM _,by simpa using hit,hl⟩ hS (ItemsOf.nil _) λs' acc' c' hm hS' hacc=>?_⟩
 rw[Moved.eq_with hm]
 refine hR s'.heap s'.toks acc' c' (λb ob hb hb2 e=>hm.heap b ob (λhmem=>?_) e) hS' hacc
 rcases aaB.mp hmem with e'|hmem
 ·exact hb e'
 ·exact hb2 (aat.mp hmem)
end
theorem HY{items:List Value}{acc:Array Value}(h:ItemsOf (λi v=>items.toArray[items.toArray.size-1-i]?=some v) acc items.toArray.size):acc.toList=items.reverse:=by
 have hz:=h.1
 refine List.ext_getElem? λi=>?_
 by_cases hi:i<items.length
 ·have hi':i<acc.size:=by rw[hz];simpa using hi
  have q:=h.2 i acc[i] (by simp[hi'])
  rw[List.getElem?_reverse hi]
  simp only[aam,List.getElem?_toArray]at q
  rw[q]
  simp[hi']
 ·rw[abz (by rw[aap,hz];simpa using hi),abz (by simpa using hi)]
section
variable{X:Cx}{e:Expr}{te:TE}
end
def sg(c:Nat):Str:=⟨#[c]⟩
def RL(z:Str):It:=⟨λi _=>i<z.cps.size,λi H x H'=>H'=H/\∃c,z.cps[i]?=some c/\x=.str (sg c),λi _=>z.cps.size<=i⟩
theorem J6{P:Program}{w:World}{K:W.Frag}{tg:Expr}(it:Addr)(z:Str)(t:Tok):Turn P w K tg (RL z) [it] it (λi h=>h.IsStrIter it (strIterType z) z t i) where
 mem:=by simp
 obj:=λi h st b hb=>by
  have e:b=it:=by simpa using hb
  subst e
  obtain⟨o,e,c,d⟩:=st
  exact⟨o,e,λv z=>by rw[d]at z;cases z⟩
 keep:=λi h h' st k=>by
  obtain⟨o,e,r⟩:=st
  exact⟨o,k it (by simp) o e,r⟩
 item:=by
  intro X hP hw hK hc i pins s σ H E I hf st hg
  subst hP hw hK
  obtain⟨f0,f1,f2,f3,f4,f5⟩:=hf it (by simp)
  have hi:i<z.cps.size:=hg
  have hx:z.cps[i]?=some z.cps[i]:=by simp[hi]
  cases ha:z.cps.all (· < 128) with
  |true =>
   have et:strIterType z="str_ascii_iterator":=by simp only[strIterType,ha,if_true]
   rw[et]at st⊢
   refine wpAny_pyNext_ascii_item st hx λh' st' sb=>?_
   have I1:Inv X pins σ H {s with heap:=h',toks:=s.toks+1}:=I.turned (λb o hb e=>(sb.2 b hb).trans e) f0 f1 f3 f4 f5
   obtain⟨o,e,c,d⟩:=id st'
   exact⟨_,rfl,Ak (s:={s with heap:=h',toks:=s.toks+1}) e c d (by decide) ⟨.str (sg z.cps[i]),H,I1,⟨_,rfl⟩,⟨rfl,_,hx,rfl⟩,st',λb hb=>(hf b hb).1⟩⟩
  |false =>
   have et:strIterType z="str_iterator":=by simp only[strIterType,ha,aaP,abm]
   rw[et]at st⊢
   refine wpAny_pyNext_wide_item st hx λh' st' sb=>?_
   have I1:Inv X pins σ H {s with heap:=h',toks:=s.toks+1}:=I.turned (λb o hb e=>(sb.2 b hb).trans e) f0 f1 f3 f4 f5
   obtain⟨o,e,c,d⟩:=id st'
   exact⟨_,rfl,Ak (s:={s with heap:=h',toks:=s.toks+1}) e c d (by decide) ⟨.str (sg z.cps[i]),H,I1,⟨_,rfl⟩,⟨rfl,_,hx,rfl⟩,st',λb hb=>(hf b hb).1⟩⟩
 done:=by
  intro X hP hw hK hc i pins s σ H E I hf st hg
  subst hP hw hK
  obtain⟨f0,f1,f2,f3,f4,f5⟩:=hf it (by simp)
  have hi:z.cps.size<=i:=hg
  have hx:z.cps[i]?=none:=by simp[hi]
  cases ha:z.cps.all (· < 128) with
  |true =>
   have et:strIterType z="str_ascii_iterator":=by simp only[strIterType,ha,if_true]
   rw[et]at st
   exact wpAny_pyNext_ascii_end (I.ok.hd hc) st hx λh' eb=>⟨rfl,I.turned (t':=s.toks) (λb o hb e=>eb b o hb e) f0 f1 f3 f4 f5⟩
  |false =>
   have et:strIterType z="str_iterator":=by simp only[strIterType,ha,aaP,abm]
   rw[et]at st
   exact wpAny_pyNext_wide_end (I.ok.hd hc) st hx λh' eb=>⟨rfl,I.turned (t':=s.toks) (λb o hb e=>eb b o hb e) f0 f1 f3 f4 f5⟩
 self:=by
  intro A i s Q E st h
  cases ha:z.cps.all (· < 128) with
  |true =>
   have et:strIterType z="str_ascii_iterator":=by simp only[strIterType,ha,if_true]
   rw[et]at st
   exact wpAny_pyIter_striter_ascii st h
  |false =>
   have et:strIterType z="str_iterator":=by simp only[strIterType,ha,aaP,abm]
   rw[et]at st
   exact wpAny_pyIter_striter_wide st h
section
variable{X:Cx}{tg:Expr}
def Wy(tl:TE):TI:=λσ H R=>tl σ H λx H1=>∃z,x=.str z/\R (RL z) H1
theorem nC{l:Expr}{tl:TE}(hl:PE X l tl):PI X tg l (Wy tl):=by
 intro pins s σ H R I h
 refine cy (hl pins s σ H _ I h) λv s1 ⟨x,H1,I1,r1,q1⟩=>?_
 obtain⟨z,e,q⟩:=q1
 subst e
 obtain⟨t,rfl⟩:=r1
 refine wpAny_pyIter_strU ?_
 refine⟨s1.heap.objs.size,[s1.heap.objs.size],_,_,H1,rfl,I1.kept (t':=s1.toks) λb o e=>aar _ e,J6 _ z t,⟨_,aaz _ rfl,rfl,rfl⟩,λb hb=>?_,q⟩
 have e:b=s1.heap.objs.size:=by simpa using hb
 subst e
 exact I1.zo (aan _) (I1.hok.fresh (aan _))
end
theorem qX{z:Str}{g:TG}{tb:TS}{D:Ends}{σ:St}{H:Hp}(Pv:Nat->St->Hp->Prop)(h0:Pv 0 σ H)(hs:∀i c σ H,z.cps.toList[i]?=some c->Pv i σ H->g (.str (sg c)) σ H λσ2 H2=>tb {D with nx:=Pv (i+1),ct:=Pv (i+1),bk:=D.nx} σ2 H2)(hd:∀σ H,Pv z.cps.toList.length σ H->D.nx σ H):∃W:Nat->Nat->St->Hp->Prop,(∃m,W 0 m σ H)/\∀i m σ H,W i m σ H->((RL z).stop i H/\D.nx σ H)\/((RL z).go i H/\∃N:St->Hp->Prop,(∀σ' H',N σ' H'->∃m',m'<m/\W (i+1) m' σ' H')/\∀x H',(RL z).Mh i H x H'->g x σ H' λσ2 H2=>tb {D with nx:=N,ct:=N,bk:=D.nx} σ2 H2):=by
 refine⟨λi m σ H=>m=z.cps.size-i/\i<=z.cps.size/\Pv i σ H,⟨z.cps.size,by simp,aaM _,h0⟩,?_⟩
 rintro i m σ H ⟨rfl,hi,p⟩
 by_cases hlt:i<z.cps.size
 ·refine .inr ⟨hlt,Pv (i+1),λσ' H' p'=>⟨z.cps.size-(i+1),by omega,rfl,hlt,p'⟩,λx H' y=>?_⟩
  obtain⟨e,c,hc,ex⟩:=y
  subst e ex
  exact hs i c σ _ (by simpa using hc) p
 ·have e:i=z.cps.size:=by omega
  subst e
  exact .inl ⟨aan _,hd σ H (by simpa using p)⟩
theorem Av{K:W.Frag}{a:Addr}{xs:List V}{g:TG}{tt:TT}{te:TE}{Q:VK}{D:Addr}{τ:St}{H:Hp}(Pv:Nat->List V->St->Hp->Prop)(h0:Pv 0 [] τ (upd H D (.lst [])))(hl:∀i ys τ H,i<=xs.length->Pv i ys τ H->bK K H a xs/\H D=some (.lst ys))(hs:∀i x ys τ H,xs[i]?=some x->Pv i ys τ H->g x τ H λτ2 H2=>tt τ2 H2 λb H3=>if b=true then te τ2 H3 λy H4=>H4 D=some (.lst ys)/\ys.length<sizeLine/\Pv (i+1) (ys++[y]) τ2 (upd H4 D (.lst (ys++[y]))) else Pv (i+1) ys τ2 H3)(hd:∀ys τ H,Pv xs.length ys τ H->Q (.ref D) H):Au (RD K a) g tt te Q D τ H:=by
 refine⟨λi m ys τ H=>m=xs.length-i/\i<=xs.length/\Pv i ys τ H,⟨xs.length,by simp,aaM _,h0⟩,?_⟩
 rintro i m ys τ H ⟨rfl,hi,p⟩
 obtain⟨q,hD⟩:=hl i ys τ H hi p
 refine⟨hD,?_⟩
 by_cases hlt:i<xs.length
 ·refine .inr ⟨⟨xs,xs[i],q,by simp[hlt]⟩,Pv (i+1),λzs σ' H' p'=>⟨xs.length-(i+1),by omega,rfl,hlt,p'⟩,λx H' y=>?_⟩
  obtain⟨e,y⟩:=y
  subst e
  exact hs i x ys τ _ (y xs q) p
 ·have e:i=xs.length:=by omega
  subst e
  exact .inl ⟨⟨xs,q,aan _⟩,hd ys τ H p⟩
theorem xZ{z:Str}{g:TG}{tt:TT}{te:TE}{Q:VK}{D:Addr}{τ:St}{H:Hp}(Pv:Nat->List V->St->Hp->Prop)(h0:Pv 0 [] τ (upd H D (.lst [])))(hl:∀i ys τ H,i<=z.cps.toList.length->Pv i ys τ H->H D=some (.lst ys))(hs:∀i c ys τ H,z.cps.toList[i]?=some c->Pv i ys τ H->g (.str (sg c)) τ H λτ2 H2=>tt τ2 H2 λb H3=>if b=true then te τ2 H3 λy H4=>H4 D=some (.lst ys)/\ys.length<sizeLine/\Pv (i+1) (ys++[y]) τ2 (upd H4 D (.lst (ys++[y]))) else Pv (i+1) ys τ2 H3)(hd:∀ys τ H,Pv z.cps.toList.length ys τ H->Q (.ref D) H):Au (RL z) g tt te Q D τ H:=by
 have hz:z.cps.toList.length=z.cps.size:=by simp
 refine⟨λi m ys τ H=>m=z.cps.size-i/\i<=z.cps.size/\Pv i ys τ H,⟨z.cps.size,by simp,aaM _,h0⟩,?_⟩
 rintro i m ys τ H ⟨rfl,hi,p⟩
 refine⟨hl i ys τ H (by omega) p,?_⟩
 by_cases hlt:i<z.cps.size
 ·refine .inr ⟨hlt,Pv (i+1),λzs σ' H' p'=>⟨z.cps.size-(i+1),by omega,rfl,hlt,p'⟩,λx H' y=>?_⟩
  obtain⟨e,c,hc,ex⟩:=y
  subst e ex
  exact hs i c ys τ _ (by simpa using hc) p
 ·have e:i=z.cps.size:=by omega
  subst e
  exact .inl ⟨aan _,hd ys τ H (by rw[hz];exact p)⟩
theorem GU:∀{zs:List Str}{us:List Value},Vals (zs.map V.str) us->StrsAre us zs
 |[],_,r=>by cases r;exact .nil
 |z::zs,_,r=>by
  cases r with
  |cons r1 r2 =>
   obtain⟨t,e⟩:=r1
   subst e
   exact .cons z t (GU r2)
section
variable{X:Cx}
def rJoin(K:W.Frag):V->List V->Hp->VK->Prop:=λx vs H Q=>∃z p zs,x=.str z/\vs=[.ref p]/\bK K H p (zs.map V.str)/\(zs.map (·.length)).sum+zs.length*z.length<=16777216/\Q (.str (Txt.join z zs)) H
theorem MQ:PD X "str.join" (rJoin X.K):=by
 intro pins s σ H x vs v us Q I rx rv h
 obtain⟨z,p,zs,rfl,rfl,hq,hz,q⟩:=h
 obtain⟨t,rfl⟩:=rx
 obtain⟨u,rfl,ru⟩:=rv.one
 cases ru
 obtain⟨its,r,pl,_⟩:=I.list hq
 exact join_list pl.isList (by simpa using GU r) hz λt' k=>⟨.str _,H,I.tok k,⟨t',rfl⟩,q⟩
theorem C8:gJ X (.builtin "isinstance") (λxs H Q=>∃x c t b,xs=[x,c]/\p8 X.K H x t/\((∃n,c=.ty n/\W.kitOne X.K t (.type n)=some b)\/(∃a,c=.ref a/\W.kitOne X.K t (.ref a)=some b))/\Q (.bl b) H):=by
 intro pins s σ H xs us Q I r h
 obtain⟨x,c,t,b,rfl,ty,hc,q⟩:=h
 obtain⟨u,w',rfl,ru,rw'⟩:=vals2 r
 rcases hc with ⟨n,rfl,e⟩|⟨a,rfl,e⟩
 ·cases rw'
  exact Am I ru ty e λtk=>⟨.bl b,H,I.tok tk,rfl,q⟩
 ·cases rw'
  exact Am I ru ty e λtk=>⟨.bl b,H,I.tok tk,rfl,q⟩
end
theorem J7(c:Nat):(sg c).length=1:=rfl
theorem EY(cs:List Nat):Txt.join ("":Str) (cs.map sg)=⟨cs.toArray⟩:=by
 show Builtin.Str.glued ("":Str) (cs.map sg)=_
 rw[StrLaws.glued_eq_join]
 induction cs with
 |nil=>rfl
 |cons c cs ih =>
  cases cs with
  |nil=>rfl
  |cons d cs =>
   rw[abe,abe]at *
   show sg c++("":Str)++Str.join ("":Str) (sg d::cs.map sg)=_
   rw[ih]
   show Str.mk ((#[c]++("":Str).cps)++(d::cs).toArray)=_
   have e:("":Str).cps = #[]:=by decide +kernel
   rw[e]
   simp
theorem MR(a b:List Nat):(⟨a.toArray⟩:Str)++(⟨b.toArray⟩:Str)=⟨(a++b).toArray⟩:=by
 show Str.mk (a.toArray++b.toArray)=_
 simp
section
variable{X:Cx}
def SX(K:W.Frag):R2:=λx y H Q=>∃a b xs,x=.ref a/\y=.ref b/\bK K H a xs/\bK K H b []/\Q (.bl (!xs.isEmpty)) H
theorem PX(hu:X.A.units<cLine):jx X (compareOp .NotEq) (SX X.K):=by
 intro pins s σ H x y v u Q I rx ry h
 obtain⟨a,b,xs,rfl,rfl,ha,hb,q⟩:=h
 cases rx
 cases ry
 obtain⟨its,r1,p1,_⟩:=I.list ha
 obtain⟨its2,r2,p2,_⟩:=I.list hb
 cases r2
 show wpAny _ _ (richCompare .NotEq (.ref a) (.ref b)) _ _ _
 cases xs with
 |nil =>
  cases r1
  refine SeqAt.RcNeAt.lists (e:=λ_=>true) p1.isList p2.isList rfl hu (λj h1 _=>absurd h1 (by simp)) _ _ _ _ ⟨.bl false,H,I,?_,q⟩
  simp[RelV]
 |cons x xs =>
  cases r1 with
  |cons r rr =>
   exact SeqAt.RcNeAt.lists_lengths p1.isList p2.isList (by simp) hu _ _ _ _ ⟨.bl true,H,I,rfl,q⟩
end
section
variable{X:Cx}(K:W.Frag)(h:X.K=K)
include h
theorem J8:RI X (PF K):=by subst h;exact MI
theorem MS:RI X (PJ K):=by subst h;exact PK
theorem J9:RH X (SN K):=by subst h;exact MJ
theorem Bx:RH X (SJ K):=by subst h;exact Pz
theorem C9:PD X "str.join" (rJoin K):=by subst h;exact MQ
theorem dM:gJ X (.builtin "len") (λxs H Q=>∃p ys,xs=[.ref p]/\(bK K H p ys\/aN K H p ys)/\Q (.int ys.length) H):=by subst h;exact Bv
theorem dz:gJ X (.builtin "isinstance") (λxs H Q=>∃x c t b,xs=[x,c]/\p8 K H x t/\((∃n,c=.ty n/\W.kitOne K t (.type n)=some b)\/(∃a,c=.ref a/\W.kitOne K t (.ref a)=some b))/\Q (.bl b) H):=by subst h;exact C8
theorem zu:gJ X (.type "list") (λxs H Q=>∃p ys,xs=[.ref p]/\(bK K H p ys\/aN K H p ys)/\∀l,H l=none->Q (.ref l) (upd H l (.lst ys))):=by subst h;exact Bw
theorem yb:gJ X (.type "tuple") (λxs H Q=>∃p ys,xs=[.ref p]/\((bK K H p ys/\∀l,H l=none->Q (.ref l) (upd H l (.tup ys)))\/(aN K H p ys/\Q (.ref p) H))):=by subst h;exact zq
theorem MT(hu:X.A.units<cLine):jx X (compareOp .NotEq) (SX K):=by subst h;exact PX hu
theorem ku{tg l:Expr}{tl:TE}(hl:PE X l tl):PI X tg l (OD K tl):=by subst h;exact Mz hl
theorem GV{tg l:Expr}{tl:TE}(hl:PE X l tl):PI X tg l (Sq K tl):=by subst h;exact Po hl
theorem oF{es:List Expr}{k:Nat}{pos:Pos}{t:OC}(n:Nat)(hc:X.calm=true)(hh:Sl X es t)(hn:(assignEach es X.env).length=n:=by rfl)(hst:(assignEach es X.env).findIdx? (·.1)=none:=by rfl):PG X (.Tuple es k pos) (So K n t):=by subst h;exact Pg hc hh hn hst
theorem aO{e:Expr}{ta:TE}{f:Str}{pos:Pos}(he:PE X e ta)(hb:attributeBase e f X.env (eval e X.env)=eval e X.env):PE X (.Attribute e f pos) (Sz K ta f):=by subst h;exact Pw he hb
theorem ig{o e:Expr}{es:List Expr}{to:TE}{t:TA}{name:Str}{apos cpos:Pos}{T id:String}{r:V->List V->Hp->VK->Prop}(pa:PlainAttrs T)(slot:Slot T name id)(hty:typeOf (.builtin id)=pure (.type "method_descriptor"))(hm:PD X id r)(ho:PE X o to)(ha:PA X (e::es) t)(hbase:attributeBase o name X.env (eval o X.env)=eval o X.env:=by rfl)(hfew:((backTo cpos (starEach (e::es) X.env)).all (λx=>!x.1)&&(backToKw cpos (keywordEach [] X.env)).all (λx=>x.1.isSome)
  && decide ((e::es).length+([]:List Keyword).length+(if ([]:List Keyword).isEmpty then 0 else 1)<30))=true:=by rfl)(hline:(apos.endLine==cpos.line)=true:=by rfl)(hs:starEach (e::es) X.env=(false,eval e X.env)::starEach es X.env:=by rfl)(hplain:(backTo cpos (starEach es X.env)).any (·.1)=false:=by rfl):PE X (.Call (.Attribute o name apos) (e::es) [] cpos) (ZI K T r to t):=by subst h;exact SO pa slot hty hm ho ha hbase hfew hline hs hplain
end
section
variable{X:Cx}
theorem jz{x:Str}{z:Str}{t:Tok}{pos:Pos}(hg:Gl X x)(hm:X.mg x=some (.str z t))(hd:(x==("__debug__":Str))=false:=by decide):PE X (.Name x pos) (tC (.str z)):=Bp hg hm ⟨t,rfl⟩ hd
theorem cO{x:Str}{a:Addr}{pos:Pos}(hg:Gl X x)(hm:X.mg x=some (.ref a))(hd:(x==("__debug__":Str))=false:=by decide):PE X (.Name x pos) (tC (.ref a)):=Bp hg hm rfl hd
theorem PY(n:String){x:Str}{pos:Pos}(hg:Gl X x)(hm:X.mg x=none)(hv:bootBuiltins x=some (.type n))(hn:x ≠ "__name__":=by decide)(hd:(x==("__debug__":Str))=false:=by decide):PE X (.Name x pos) (tC (.ty n)):=Mt hg hm hv rfl hn hd
end
structure Ka(K:W.Frag)(x qual:Str)(st:Stmt)(f:Addr)(fd:FuncData)(dV:Value):Prop where
 ex:∃(oc:Value)(od:Option Addr)(kV doc pm:Value)(an:Option Addr)(cdv ct:Value)(osl:Array (Option Value)),fd=W.fnOf x qual (cX st) (cG st) (au st) dV kV doc pm an cdv ct/\K.lookup f=some ⟨oc,od,.func fd,osl⟩/\W.codeIn K cdv qual=true
 kp:W.keepIn K (.ref f)=true
section
variable{P:Program}{w:World}{K:W.Frag}{mg:Str->Option Value}{base:Heap}
theorem Ka.ok{x qual:Str}{st:Stmt}{f:Addr}{fd:FuncData}{dV:Value}{N ps:List Str}{k:Nat}{sp:Sp}(F:Ka K x qual st f fd dV)(S:aE N ps (au st))(len:∀vs H Q E,sp vs H Q E->vs.length=ps.length)(hbody:∀(cdv:Value)(A:Around)(outer:List Env)(s:Shared)(H:Hp)(vs:List V)(Q:VK)(E:XK),fK k (A.deeper (envOfC qual (au st) s.heap.objs.size f cdv))->sp vs H Q E->∃t,GG (EM fE P w K mg base N qual (au st) f cdv A outer s H E).RC (cG st) t/\t {nx:=λ_ H'=>Q .non H',rt:=Q} (start N vs) H):bh P w K mg base fE (k+1) f fd ps sp:=by
 obtain⟨oc,od,kV,doc,pm,an,cdv,ct,osl,rfl,lk,hcd⟩:=F.ex
 refine OL lk hcd S len λA outer s H vs Q E hr Mi=>?_
 obtain⟨t,h,q⟩:=hbody cdv A outer s H vs Q E hr Mi
 exact⟨t,h.RC,q⟩
theorem GW{x qual:Str}{st:Stmt}{f:Addr}{oc dV:Value}{od an:Option Addr}{osl:Array (Option Value)}{kV doc pm cdv ct:Value}(l:K.lookup f=some ⟨oc,od,.func (W.fnOf x qual (cX st) (cG st) (au st) dV kV doc pm an cdv ct),osl⟩)(c:W.codeIn K cdv qual=true)(k:W.keepIn K (.ref f)=true):Ka K x qual st f (W.fnOf x qual (cX st) (cG st) (au st) dV kV doc pm an cdv ct) dV:=⟨⟨oc,od,kV,doc,pm,an,cdv,ct,osl,rfl,l,c⟩,k⟩
end
section
variable{X:Cx}
theorem vC:∀{bs:List Bool}{us:List Value}{i:Nat}{u:Value},Vals (bs.map V.bl) us->us[i]?=some u->u=.bool (bs.getD i true)
 |[],_,_,_,r,e=>by cases r;simp at e
 |b::bs,_,i,u,r,e=>by
  cases r with
  |cons r1 r2 =>
   cases i with
   |zero=>simp at e;subst e;exact r1
   |succ i=>simp at e;simpa using vC r2 e
theorem all_range(bs:List Bool):((List.range bs.length).all λi=>bs.getD i true)=bs.all id:=by
 rw[aaL,aa7,aa7]
 constructor
 ·intro h b hb
  obtain⟨i,hi,rfl⟩:=List.mem_iff_getElem.mp hb
  have:=h i (by simpa using hi)
  simpa [List.getD,hi]using this
 ·intro h i hi
  have hi':i<bs.length:=by simpa using hi
  have:=h bs[i] (List.getElem_mem hi')
  simpa [List.getD,hi']using this
def SY(K:W.Frag):List V->Hp->VK->Prop:=λxs H Q=>∃(p:Addr)(bs:List Bool),xs=[.ref p]/\bK K H p (bs.map V.bl)/\Q (.bl (bs.all id)) H
theorem Kc(hc:X.calm=true):gJ X (.builtin "all") (SY X.K):=by
 intro pins s σ H xs us Q I r h
 obtain⟨p,bs,rfl,hq,q⟩:=h
 obtain⟨u,rfl,ru⟩:=vals1 r
 cases ru
 obtain⟨its,rv,pl,hz⟩:=I.list hq
 have hlen:=rv.length
 rw[aav]at hlen
 have hpl:p<s.heap.objs.size:=by obtain⟨o,ho,_⟩:=pl.isList;exact aaw ho
 refine call_all_walk (wpAny_pyIter_list pl.isList ⟨s.heap.objs.size,_,_,_,_,_,λi=>bs.getD i true,rfl,Walks.list (A:=X.A.in1) (show X.A.in1.handled=none from I.ok.hd hc) s.heap.objs.size p (aaR hpl) its.toArray,⟨⟨_,aaz _ rfl,rfl,rfl⟩,pl.isList.at λo e=>aar _ e⟩,?_,?_⟩)
 ·intro i v s' Q' E' hv hq'
  have e:its[i]?=some v:=by simpa using hv
  rw[vC rv e]
  exact abo hq'
 ·intro h' tk hk
  have f0:=I.zo (aan s.heap.objs.size) (I.hok.fresh (aan _))
  have I2:Inv X pins σ H {s with heap:=s.heap.push {cls:=.type "list_iterator",data:=.fields #[.ref p,rawInt 0]}}:=I.kept (t':=s.toks) λb o e=>aar _ e
  have I3:=I2.turned (h':=h') (t':=tk) (it:=s.heap.objs.size) (λb o hb e=>hk b o (by simpa using hb) e) f0.1 f0.2.1 f0.2.2.2.1 f0.2.2.2.2.1 f0.2.2.2.2.2
  refine⟨.bl (bs.all id),H,I3,?_,q⟩
  show Value.bool _=Value.bool _
  rw[aam,←hlen,all_range]
theorem oG(K:W.Frag)(h:X.K=K)(hc:X.calm=true):gJ X (.builtin "all") (SY K):=by subst h;exact Kc hc
def PZ:V->List V->Hp->VK->Prop:=λx vs H Q=>∃(z:Str)(c:Nat),x=.str z/\vs=[.str (sg c)]/\Q (.int (PyProof.Rows.cnt c z.cps.toList)) H
theorem Kd:PD X "str.count" PZ:=by
 intro pins s σ H x vs v us Q I rx rv h
 obtain⟨z,c,rfl,rfl,q⟩:=h
 obtain⟨t,rfl⟩:=rx
 obtain⟨u,rfl,ru⟩:=rv.one
 obtain⟨t',rfl⟩:=ru
 exact SC.count ⟨.int _,H,I.tok _,⟨_,rfl⟩,by
  have e:Txt.count z (sg c)=PyProof.Rows.cnt c z.cps.toList:=PyProof.Rows.count_is z c
  rw[e];exact q⟩
theorem GX:∀{l:List Nat}{c:Nat},l.Nodup->c∈l->PyProof.Rows.cnt c l=1
 |[],_,_,h=>by cases h
 |n::r,c,nd,h=>by
  rw[PyProof.Rows.cnt_cons]
  obtain⟨n1,n2⟩:=abq.mp nd
  by_cases e:n=c
  ·subst e
   rw[aaj rfl,PyProof.Rows.cnt_none _ _ n1];rfl
  ·rw[aai e,GX n2 ((aaB.mp h).resolve_left (abD e))];rfl
def nj:List V->List V->Bool
 |[],[]=>true
 |x::xs,y::ys=>xK x y&&nj xs ys
 |_,_=>false
theorem yc:∀{x:V},dU x=true->xK x x=true
 | .non,_=>rfl
 | .bl b,_=>by cases b<;>rfl
 | .int i,_=>by simp[xK]
 | .str z,_=>by simp[xK]
def MU(xs ys:List V)(j:Nat):Bool:=match xs[j]?,ys[j]? with
 |some x,some y=>xK x y
 |_,_=>true
theorem qb:∀(xs ys:List V),((List.range (min xs.length ys.length)).all (MU xs ys)&&xs.length==ys.length)=nj xs ys
 |[],[]=>rfl
 |[],_::_=>by simp[nj]
 |_::_,[]=>by simp[nj]
 |x::xs,y::ys=>by
  have ih:=qb xs ys
  have e:min (x::xs).length (y::ys).length=min xs.length ys.length+1:=by rw[aaF,aaF];omega
  rw[e,List.range_succ_eq_map,List.all_cons,List.all_map]
  have e2:(MU (x::xs) (y::ys)∘Nat.succ)=MU xs ys:=by funext j;simp[MU]
  rw[e2]
  unfold nj
  rw[←ih]
  have e3:((x::xs).length==(y::ys).length)=(xs.length==ys.length):=by simp
  rw[e3]
  show(xK x y&&_&&_)=_
  rw[Bool.and_assoc]
def Wz(K:W.Frag):R2:=λx y H Q=>∃a b xs ys,x=.ref a/\y=.ref b/\aN K H a xs/\aN K H b ys/\xs.all dU=true/\ys.all dU=true/\Q (.bl (nj xs ys)) H
theorem items_eqAt{A:Around}{s:Shared}{xs ys:List V}{us ws:List Value}(r1:Vals xs us)(r2:Vals ys ws)(f1:xs.all dU=true)(f2:ys.all dU=true)(j:Nat)(h1:j<us.toArray.size)(h2:j<ws.toArray.size):SeqAt.EqAt A s us.toArray[j] ws.toArray[j] (MU xs ys j):=by
 have hl1:=r1.length
 have hl2:=r2.length
 have hj1:j<xs.length:=by rw[hl1];simpa using h1
 have hj2:j<ys.length:=by rw[hl2];simpa using h2
 obtain⟨u,eu,ru⟩:=r1.get (i:=j) (x:=xs[j]) (by simp[hj1])
 obtain⟨w,ew,rw'⟩:=r2.get (i:=j) (x:=ys[j]) (by simp[hj2])
 have e1:us.toArray[j]=u:=by
  have:=aau.mp eu
  obtain⟨_,q⟩:=this
  simpa using q
 have e2:ws.toArray[j]=w:=by
  have:=aau.mp ew
  obtain⟨_,q⟩:=this
  simpa using q
 rw[e1,e2]
 have e3:MU xs ys j=xK xs[j] ys[j]:=by simp[MU,hj1,hj2]
 rw[e3]
 exact ES ru rw' (aa7.mp f1 _ (List.getElem_mem hj1)) (aa7.mp f2 _ (List.getElem_mem hj2))
theorem P0(K:W.Frag)(hK:X.K=K)(hu:X.A.units<cLine):jx X (compareOp .Eq) (Wz K):=by
 subst hK
 intro pins s σ H x y v u Q I rx ry h
 obtain⟨a,b,xs,ys,rfl,rfl,ha,hb,f1,f2,q⟩:=h
 cases rx
 cases ry
 obtain⟨its,r1,p1,_⟩:=I.tuple ha
 obtain⟨its2,r2,p2,_⟩:=I.tuple hb
 refine SeqAt.eq_tupleAt (e:=MU xs ys) p1 p2 hu (λj h1 h2=>items_eqAt r1 r2 f1 f2 j h1 h2) ⟨.bl _,H,I,?_,q⟩
 show Value.bool _=Value.bool _
 rw[aam,aam,←r1.length,←r2.length,qb]
end
section
variable{X:Cx}{pins:List (Addr×Obj)}{σ:St}{H:Hp}{s:Shared}
end
section
variable{X:Cx}
def P4(K:W.Frag):List V->Hp->VK->Prop:=λxs H Q=>∃(a:Addr)(c:String)(ys:List V)(b:Bool),xs=[.ref a,.ty c]/\((aN K H a ys/\W.kitOne K (.type "tuple") (.type c)=some b)\/(bK K H a ys/\W.kitOne K (.type "list") (.type c)=some b))/\Q (.bl b) H
theorem Dc(K:W.Frag)(hK:X.K=K):gJ X (.builtin "isinstance") (P4 K):=by
 subst hK
 intro pins s σ H xs us Q I r h
 obtain⟨a,c,ys,b,rfl,hk,q⟩:=h
 obtain⟨u,w',rfl,ru,rw'⟩:=vals2 r
 cases ru;cases rw'
 have fin:∀tk,EP X pins σ Q (.bool b) {s with toks:=tk}:=λtk=>⟨.bl b,H,I.tok tk,rfl,q⟩
 rcases hk with ⟨ha,e⟩|⟨ha,e⟩
 ·obtain⟨its,r1,p1,_⟩:=I.tuple ha
  obtain⟨o,h1,h2,_⟩:=p1
  exact abv W.kitx_tuple I.qS ⟨o,h1,h2⟩ e (λz=>nomatch z) fin
 ·obtain⟨its,r1,p1,_⟩:=I.list ha
  obtain⟨o,h1,h2,_⟩:=p1.isList
  exact abv W.kitx_list I.qS ⟨o,h1,h2⟩ e (λz=>nomatch z) fin
end
section
variable{X:Cx}
theorem MV{x:Str}{z:Int}{t:Tok}{pos:Pos}(hg:Gl X x)(hm:X.mg x=some (.int z t))(hd:(x==("__debug__":Str))=false:=by decide):PE X (.Name x pos) (tC (.int z)):=Bp hg hm ⟨t,rfl⟩ hd
end
section
variable{X:Cx}{CX:Jq}{k:Nat}{f C:Addr}{fd:FuncData}{ps ks:List Str}{sp:Sp}{E:XK}{x m:Str}{p pos apos kpos:Pos}{e o:Expr}{es:List Expr}{kws:List Keyword}{te ta:TE}{t tk:TA}{nm:Option Str}{g:List Value->List Value->List Value}{gV:List V->List V->List V}
end
theorem Aw:∀{xs ys:List V}{us:List Value},Vals xs us->Vals ys us->xs.all dU=true->ys.all dU=true->nj ys xs=true
 |_,_,_,.nil,.nil,_,_=>rfl
 |x::xs,y::ys,u::us,.cons r1 t1,.cons r2 t2,f1,f2=>by
  rw[List.all_cons,abG]at f1 f2
  unfold nj
  have e1:RJ x u=xK y x:=Bu r2 f2.1
  have e2:RJ x u=xK x x:=Bu r1 f1.1
  rw[←e1,e2,yc f1.1,Aw t1 t2 f1.2 f2.2]
  rfl
section
variable{X:Cx}{pins:List (Addr×Obj)}{σ:St}{H:Hp}{s:Shared}
theorem Ke(I:Inv X pins σ H s){a b:Addr}{xs ys:List V}(ha:aN X.K H a xs)(hb:aN X.K H b ys)(f1:xs.all dU=true)(f2:ys.all dU=true){A:Around}(hu:A.units<cLine):SeqAt.EqAt A s (.ref b) (.ref a) (nj ys xs):=by
 obtain⟨its,r1,p1,_⟩:=I.tuple ha
 obtain⟨its2,r2,p2,_⟩:=I.tuple hb
 by_cases e:b=a
 ·subst e
  have ei:its2=its:=by
   obtain⟨o,ho,_,n,hd⟩:=id p1
   obtain⟨o2,ho2,_,n2,hd2⟩:=id p2
   rw[ho]at ho2;cases ho2
   rw[hd]at hd2
   injection hd2 with h1 h2
   have:=congrArg Array.toList h1
   simpa using this.symm
  subst ei
  rw[Aw r1 r2 f1 f2]
  exact SeqAt.EqAt.same _
 ·refine SeqAt.EqAt.of_refs e ?_
  have q:=SeqAt.RcAt.tuples (A:=A) (e:=MU ys xs) p2 p1 hu λj h1 h2=>items_eqAt r2 r1 f2 f1 j h1 h2
  rw[aam,aam,←r1.length,←r2.length,qb]at q
  exact q
end
theorem tX:∀{xs:List V}{us:List Value},Vals xs us->∀u∈us,∃x∈xs,RelV x u
 |_,_,.nil=>λu hu=>by cases hu
 |x::xs,v::us,.cons r t=>λu hu=>by
  rcases aaB.mp hu with rfl|hu
  ·exact⟨x,aaE ..,r⟩
  ·obtain⟨y,h1,h2⟩:=tX t u hu
   exact⟨y,aay _ h1,h2⟩
section
variable{X:Cx}
end
def S0(i j l:Nat)(ta:TA):TS:=λD σ H=>ta σ H λvs H1=>∃v w z,vs=[v,w,z]/\D.nx (((σ.set l (some z)).set j (some w)).set i (some v)) H1
theorem MW{X:Cx}{pos:Pos}{i j l:Nat}{x y z:Str}{a b c:Expr}{ta:TA}{px py pz pt:Pos}{kt k2 WA}(hc:X.calm=true)(hN:X.N.Nodup)(hi:X.N[i]?=some x)(hj:X.N[j]?=some y)(hl:X.N[l]?=some z)(hx:X.env.scope.names.lookup x=some .local)(hy:X.env.scope.names.lookup y=some .local)(hz:X.env.scope.names.lookup z=some .local)(ha:PA X [a,b,c] ta)(hw:swappedStores [.Tuple [.Name x px,.Name y py,.Name z pz] kt pt] (.Tuple [a,b,c] k2 WA) X.env=pure (some [x,y,z]))(hs:swapsWithSole [.Tuple [.Name x px,.Name y py,.Name z pz] kt pt] (.Tuple [a,b,c] k2 WA) pos.line X.env=pure false:=by rfl):PS X (.Assign [.Tuple [.Name x px,.Name y py,.Name z pz] kt pt] (.Tuple [a,b,c] k2 WA) pos) (S0 i j l ta):=by
 intro pins s σ H D I h
 rw[exec_Assign_arm]
 refine aah (wpAny_standAt ?_)
 rw[hs]
 refine aah (aal ?_)
 rw[aai (by decide)]
 refine aah (Tuple_ (cy (ha _ pins s σ H _ I h) λus s1 ⟨vs,H1,I1,r1,q1⟩=>?_))
 obtain⟨v,w,t,e1,q1⟩:=q1
 subst e1
 obtain⟨u1,u2,u3,rfl,rv,rw',rt⟩:∃u1 u2 u3,us=[u1,u2,u3]/\RelV v u1/\RelV w u2/\RelV t u3:=by
  cases r1 with
  |cons p q =>
   cases q with
   |cons p' q' =>
    cases q' with
    |cons p'' q'' =>
     cases q''
     exact⟨_,_,_,O,p,p',p''⟩
 refine aaT ?_ (by show 3<=sizeLine;decide)
 have I2:Inv X pins σ H1 {s1 with heap:=s1.heap.push {cls:=.type "tuple",data:=.seq [u1,u2,u3].toArray}}:=I1.kept (t':=s1.toks) λb o e=>aar _ e
 rw[hw]
 refine aah (aal ?_)
 show wpAny (model X.prog X.w) X.A (do rule "assign.swapped-stores";let items ←unpackItems (.ref s1.heap.objs.size) 3 none;assignInOrder [λv=>bindName X.env z v,λv=>bindName X.env y v,λv=>bindName X.env x v] items.reverse;pure Flow.next) _ _ _
 refine aah (wpAny_rule (aah (unpackItems_tuple (items:=#[u1,u2,u3]) (I.ok.hd hc) (IsTup.new s1.heap _) λh' hx'=>?_)))
 have I3:=I2.kept (h':=h') (t':=s1.toks) λb o e=>hx' b o (aaR (aaw e)) e
 show wpAny _ _ (assignInOrder [λv=>bindName X.env z v,λv=>bindName X.env y v,λv=>bindName X.env x v] [u3,u2,u1] >>= λ_=>pure Flow.next) _ _ _
 refine aah (assignInOrder_cons (wpAny_bindName (nu I3 hN hl (.inl hz) rt (λs2 I4=>?_) (.inr hz))))
 refine assignInOrder_cons (wpAny_bindName (nu I4 hN hj (.inl hy) rw' (λs3 I5=>?_) (.inr hy)))
 refine assignInOrder_cons (wpAny_bindName (nu I5 hN hi (.inl hx) rv (λs4 I6=>assignInOrder_nil (aal ?_)) (.inr hx)))
 exact⟨_,H1,I6,q1⟩
theorem nD{X:Cx}:RH X (λx lo hi H Q=>∃z,x=.str z/\z.length<=sizeLine/\Q (.str (Txt.slice z lo hi)) H):=by
 intro pins s σ H x v vl vu lo hi sl Q I rx hs pl pu h
 obtain⟨z,rfl,hz,q⟩:=h
 obtain⟨t,rfl⟩:=rx
 refine⟨"str",_,F.slot_str_getitem.lookup,typeIs_str _ _ _,?_⟩
 cases pl with
 |none =>
  cases pu with
  |none=>exact wpAny_getItem_str_slice (l:=none) (u:=none) (st:=none) hs rfl (post_val_or_str ⟨aaq (Txt.slice_le z _ _) hz,λt' k=>⟨.str _,H,I.tok _,⟨_,rfl⟩,q⟩⟩)
  |int j uj=>exact wpAny_getItem_str_slice (l:=none) (u:=some (j,uj)) (st:=none) hs rfl (post_val_or_str ⟨aaq (Txt.slice_le z _ _) hz,λt' k=>⟨.str _,H,I.tok _,⟨_,rfl⟩,q⟩⟩)
 |int i ui =>
  cases pu with
  |none=>exact wpAny_getItem_str_slice (l:=some (i,ui)) (u:=none) (st:=none) hs rfl (post_val_or_str ⟨aaq (Txt.slice_le z _ _) hz,λt' k=>⟨.str _,H,I.tok _,⟨_,rfl⟩,q⟩⟩)
  |int j uj=>exact wpAny_getItem_str_slice (l:=some (i,ui)) (u:=some (j,uj)) (st:=none) hs rfl (post_val_or_str ⟨aaq (Txt.slice_le z _ _) hz,λt' k=>⟨.str _,H,I.tok _,⟨_,rfl⟩,q⟩⟩)
section
variable{X:Cx}{pins:List (Addr×Obj)}{σ:St}{H:Hp}{s:Shared}{h':Heap}
theorem Inv.GY{t':Nat}{wr:List Addr}(I:Inv X pins σ H s)(k:∀b o,b∉wr->s.heap.get? b=some o->h'.get? b=some o)(hf:∀it∈wr,qT X pins H it):Inv X pins σ H {s with heap:=h',toks:=t'}:=by
 have Sb:∀b u,H b=some u->b∉wr:=λb u e z=>by rw[(hf b z).1]at e;cases e
 have hL:X.env.locals∉wr:=λz=>(hf _ z).2.1 rfl
 refine I.step (g':=s.gens) (d':=s.drawn) (ch:=wr) (λb hb=>?_) (λb o _ _ hc e _=>k b o hc e) (λb o _ _ hc e _=>⟨o.slots,k b o hc e⟩) (λ_ _ _ _ n=>n)
  (λb o hc e=>⟨o,k b o hc e⟩) (λ_ _ e=>e) (λ_ _ _ e=>e) (λb ps e=>⟨#[],by rw[e];simp⟩) (λm hm=>?_) (λb u e=>?_) I.bare
 ·obtain⟨f0,f1,f2,f3,f4,f5⟩:=hf b hb
  exact⟨f3,f1,f4,f5⟩
 ·obtain⟨o,es,ep,ho,r⟩:=hm
  exact⟨o,es,ep,k _ o hL ho,r⟩
 ·refine(I.hok b u e).stay (λc v hc q=>k c v ?_ q) (λ_ q=>q) λ_ _ q=>q
  rcases hc with z|z
  ·rw[z];exact Sb b u e
  ·exact Sb c _ z
end
def hmid(h h2:Heap):Heap:=⟨h.objs++(h2.objs.toList.drop h.objs.size).toArray,h2.life⟩
theorem Kf{h h2:Heap}{a:Addr}(ha:a<h.objs.size):(hmid h h2).get? a=h.get? a:=by
 have e:(hmid h h2).objs[a]?=h.objs[a]?:=Array.getElem?_append_left ha
 unfold Heap.get?
 rw[e]
theorem Kg{h h2:Heap}{a:Addr}(ha:h.objs.size<=a):(hmid h h2).get? a=h2.get? a:=by
 have e:(hmid h h2).objs[a]?=h2.objs[a]?:=by
  show(h.objs++(h2.objs.toList.drop h.objs.size).toArray)[a]?=_
  rw[Array.getElem?_append_right ha,List.getElem?_toArray,List.getElem?_drop,Array.getElem?_toList]
  congr 1
  omega
 unfold Heap.get?
 rw[e]
theorem HZ{X:Cx}{pins:List (Addr×Obj)}{σ:St}{H:Hp}{s:Shared}{E:Value->Shared->Prop}{it:Addr}{WB wr fp:List Addr}{n:Nat}{Pt:Nat->Array Value->Prop}{RM:Nat->Heap->Prop}{Mid:Nat->Addr->Heap->Prop}{elts:List Expr}{k:Nat}{pos:Pos}{J:It}{tn:Nat->Heap->Prop}{i:Nat}(W:WalksT X.prog X.w X.A it WB wr n Pt RM Mid)(I:Inv X pins σ H s)(hfp:∀b∈fp,qT X pins H b)(hwr:∀b∈wr,b∈fp)(hsz:∀b∈fp,b<s.heap.objs.size)(hi:i<n)(hst:RM i s.heap)(hv:∀vals,Pt i vals->∃vs:List V,vs.length<=sizeLine/\Vals vs vals.toList/\∀T,H T=none->J.Mh i H (.ref T) (upd H T (.tup vs)))(htn:∀h,RM (i+1) h->tn (i+1) h):wpAny (model X.prog X.w) X.A (pyNext (.ref it)) (λr s1=>∃u,r=some u/\wpAny (model X.prog X.w) X.A (letOwnedTupleGo (.Tuple elts k pos) (.ref it) u) (λ_ s2=>∃x H',Inv X pins σ H' s2/\RelV x u/\J.Mh i H x H'/\tn (i+1) s2.heap/\∀b∈fp,H' b=none) E s1) E s:=by
 refine W.item i s _ E hi hst λT vals h1 tk hPt hT WC S7 hk=>⟨.ref T,rfl,?_⟩
 have hap:=W.apart i T h1 S7
 refine W.go elts k pos i T _ _ E S7 λh2 hSt hk2=>?_
 obtain⟨vs,hlen,S8,hy⟩:=hv vals hPt
 have hTn:H T=none:=I.hok.fresh hT
 obtain⟨o,ho,hoc,m,hod⟩:=WC
 have ho2:h2.get? T=some o:=hk2 T o hap ho
 have I1:Inv X pins σ (upd H T (.tup vs)) {s with heap:=hmid s.heap h2,toks:=tk}:=by
  refine I.laid (λb u e=>(Kf (aaw e)).trans e) hT ?_
  refine⟨hlen,vals.toList,S8,⟨o,(Kg hT).trans ho2,hoc,m,?_⟩⟩
  rw[hod]
 have hne:∀b∈fp,b≠T:=λb hb e=>by
  have:=hsz b hb
  rw[e]at this
  exact absurd this (Nat.not_lt.mpr hT)
 have I2:=I1.GY (h':=h2) (t':=tk) (wr:=wr) (λb ob hb e=>?_) (λb hb=>?_)
 ·exact⟨.ref T,_,I2,O,hy T hTn,htn _ hSt,λb hb=>(aH (hne b hb)).trans (hfp b hb).1⟩
 ·by_cases hlt:b<s.heap.objs.size
  ·have e:s.heap.get? b=some ob:=(Kf hlt).symm.trans e
   exact hk2 b ob hb (hk b ob hb e)
  ·exact(Kg (Nat.le_of_not_lt hlt)).symm.trans e
 ·have f:=hfp b (hwr b hb)
  exact⟨(aH (hne b (hwr b hb))).trans f.1,f.2⟩
theorem Ia{X:Cx}{pins:List (Addr×Obj)}{σ:St}{H:Hp}{s:Shared}{E:Value->Shared->Prop}{it:Addr}{WB wr fp:List Addr}{n:Nat}{Pt:Nat->Array Value->Prop}{RM:Nat->Heap->Prop}{Mid:Nat->Addr->Heap->Prop}(W:WalksT X.prog X.w X.A it WB wr n Pt RM Mid)(I:Inv X pins σ H s)(hfp:∀b∈fp,qT X pins H b)(hwr:∀b∈wr,b∈fp)(hst:RM n s.heap):wpAny (model X.prog X.w) X.A (pyNext (.ref it)) (λr s1=>r=none/\Inv X pins σ H s1) E s :=
 W.done s _ E hst λh1 tk hk=>⟨rfl,I.GY (h':=h1) (t':=tk) (wr:=wr) hk λb hb=>hfp b (hwr b hb)⟩
theorem P5(I l1 l2:Nat)(h1:@LT.lt Nat _ l1 I)(h2:@LT.lt Nat _ l2 I):ZipApart (I+4) (I+2) (I+3) I (I+1) l1 l2:=by
 constructor<;>(intro e;have e':=@id (@Eq Nat _ _) e;omega)
theorem yd{y:V}:∀{xs:List V}{us:List Value},Vals xs us->xs.all dU=true->us.countP (RJ y)=xs.countP (λz=>xK z y)
 |_,_,.nil,_=>rfl
 |x::xs,u::us,.cons r t,f=>by
  rw[List.all_cons,abG]at f
  rw[List.countP_cons,List.countP_cons,yd t f.2,Bu r f.1]
section
variable{X:Cx}
def GZ(K:W.Frag):V->List V->Hp->VK->Prop:=λx vs H Q=>∃(p:Addr)(xs:List V)(y:V),x=.ref p/\vs=[y]/\bK K H p xs/\dU y=true/\xs.all dU=true/\Q (.int (xs.countP λz=>xK z y:Nat)) H
theorem Ib:PD X "list.count" (GZ X.K):=by
 intro pins s σ H x vs v us Q I rx rv h
 obtain⟨p,xs,y,rfl,rfl,hq,fy,fs,q⟩:=h
 cases rx
 obtain⟨u,rfl,ru⟩:=rv.one
 obtain⟨its,r,pl,_⟩:=I.list hq
 obtain⟨⟨cls,dd,data,sl⟩,ho,hc,n,hd⟩:=pl.isList
 simp only at hc hd
 subst hc hd
 refine call_meets F.slot_list_count ⟨_,ho,rfl⟩ F.entry_list_count (F.args_list_count_2 _ _) (SeqAt.list_countAt p its.toArray n dd sl u (RJ y)) ⟨ho,λw hw=>C6 ru fy r fs w (by simpa using hw),?_⟩
 refine⟨.int _,H,I.tok _,⟨_,O⟩,?_⟩
 rw[show its.toArray.toList=its from rfl,yd r fs]
 exact q
theorem EZ(K:W.Frag)(h:X.K=K):PD X "list.count" (GZ K):=by subst h;exact Ib
theorem jx.ZQ{f:Value->Value->Sem Value}{r r':R2}(h:jx X f r)(h':jx X f r'):jx X f (λx y H Q=>r x y H Q\/r' x y H Q):=by
 intro pins s σ H x y v u Q I rx ry q
 rcases q with q|q
 ·exact h pins s σ H x y v u Q I rx ry q
 ·exact h' pins s σ H x y v u Q I rx ry q
end
def isIn(K:W.Frag)(H:Hp)(ws xs:List V):Prop:=∃w∈ws,∃b ys,w=V.ref b/\aN K H b ys/\nj ys xs=true
def WD(K:W.Frag)(neg:Bool):R2:=λx y H Q=>∃a p xs ws,x=.ref a/\y=.ref p/\aN K H a xs/\xs.all dU=true/\bK K H p ws/\(∀w∈ws,∃b ys,w=V.ref b/\aN K H b ys/\ys.all dU=true)/\∀r:Bool,(r=true↔isIn K H ws xs)->Q (.bl (if neg then !r else r)) H
theorem Dd:∀{xs:List V}{us:List Value},Vals xs us->∀x∈xs,∃u∈us,RelV x u
 |_,_,.nil=>λx hx=>by cases hx
 |y::xs,v::us,.cons r t=>λx hx=>by
  rcases aaB.mp hx with rfl|hx
  ·exact⟨v,aaE ..,r⟩
  ·obtain⟨u,h1,h2⟩:=Dd t x hx
   exact⟨u,aay _ h1,h2⟩
section
variable{X:Cx}
theorem MX{pins:List (Addr×Obj)}{σ:St}{H:Hp}{s:Shared}(I:Inv X pins σ H s){a p:Addr}{xs ws:List V}{its:List Value}(ha:aN X.K H a xs)(fa:xs.all dU=true)(r:Vals ws its)(hw:∀w∈ws,∃b ys,w=V.ref b/\aN X.K H b ys/\ys.all dU=true)(hu:X.A.units+64<cLine):∃e:Value->Bool,(∀v∈its,SeqAt.EqAt X.A.in1 s v (.ref a) (e v))/\(its.any e=true↔isIn X.K H ws xs):=by
 refine⟨λv=>@decide (∃b ys,v=Value.ref b/\aN X.K H b ys/\nj ys xs=true) (Classical.propDecidable _),λv hv=>?_,?_⟩
 ·obtain⟨y,hy,ry⟩:=tX r v hv
  obtain⟨b,ys,rfl,hb,fb⟩:=hw y hy
  cases ry
  have q:=Ke (A:=X.A.in1) I ha hb fa fb (show X.A.units+1<cLine by omega)
  cases he:nj ys xs with
  |true =>
   rw[he]at q
   have e:@decide (∃b' ys',Value.ref b=Value.ref b'/\aN X.K H b' ys'/\nj ys' xs=true) (Classical.propDecidable _)=true:=@decide_eq_true _ (Classical.propDecidable _) ⟨b,ys,rfl,hb,he⟩
   dsimp only
   rw[e];exact q
  |false =>
   rw[he]at q
   have e:@decide (∃b' ys',Value.ref b=Value.ref b'/\aN X.K H b' ys'/\nj ys' xs=true) (Classical.propDecidable _)=false:=@decide_eq_false _ (Classical.propDecidable _) (by
    rintro⟨b',ys',e1,e2,e3⟩
    cases e1
    rw[I.Aj hb e2]at he
    rw[he]at e3;cases e3)
   dsimp only
   rw[e];exact q
 ·rw[List.any_eq_true]
  constructor
  ·rintro⟨v,hv,e⟩
   obtain⟨b,ys,rfl,hb,he⟩:=@of_decide_eq_true _ (Classical.propDecidable _) e
   obtain⟨y,hy,ry⟩:=tX r _ hv
   obtain⟨b',ys',rfl,hb',_⟩:=hw y hy
   cases ry
   exact⟨_,hy,_,ys,O,hb,he⟩
  ·rintro⟨w,S9,b,ys,rfl,hb,he⟩
   obtain⟨u,WE,ru⟩:=Dd r _ S9
   cases ru
   exact⟨_,WE,@decide_eq_true _ (Classical.propDecidable _) ⟨b,ys,O,hb,he⟩⟩
theorem P6(K:W.Frag)(hK:X.K=K)(hu:X.A.units+64<cLine):jx X (compareOp .In) (WD K false):=by
 subst hK
 intro pins s σ H x y v u Q I rx ry h
 obtain⟨a,p,xs,ws,rfl,rfl,ha,fa,hp,hw,q⟩:=h
 cases rx;cases ry
 obtain⟨its,r,pl,hz⟩:=I.list hp
 obtain⟨e,h1,h2⟩:=MX (p:=p) I ha fa r hw hu
 refine SeqAt.in_listAt e pl.isList (λw S9=>h1 w (by simpa using S9)) ⟨.bl _,H,I,rfl,?_⟩
 exact q (its.toArray.any e) (by rw[show its.toArray.any e=its.any e by simp];exact h2)
end
section
variable{prog:Program}{w:World}{A:Around}{E:Value->Shared->Prop}{s:Shared}
theorem MY{z TI TO i1 i2 l:Addr}{n1 n2 k:Nat}{P1 P2:Nat->Value->Prop}{S1 S2:Nat->Heap->Prop}{a b:Value}{Q:Value->Shared->Prop}(D:ZipApart z TI TO i1 i2 l l)(G1:Draws prog w A i1 [i1] n1 P1 S1)(G2:Draws prog w A i2 [i2,l] n2 P2 S2)(hz:IsZip s.heap z TI TO .none)(hTI:IsPair s.heap TI (.ref i1) (.ref i2))(hTO:IsPair s.heap TO a b)(g1:S1 k s.heap)(g2:S2 k s.heap)(k1:k<n1)(k2:k<n2)(hQ:∀h' tk x y,P1 k x->P2 k y->IsZip h' z TI TO (rawInt s.heap.objs.size)->IsPair h' TO x y->S1 (k+1) h'->S2 (k+1) h'->IsPair h' s.heap.objs.size x y->(∀c o,c≠z->c≠TO->c≠i1->c≠i2->s.heap.get? c=some o->h'.get? c=some o)->Q (.ref s.heap.objs.size) {s with heap:=h',toks:=tk}):wpAny (model prog w) A (Builtin.«zip.__next__» ⟨[.ref z],[]⟩) (λfin s'=>∃v,fin=.done (.ret v)/\Q v s') E s:=by
 have e1:∀{i:Nat}{h h':Heap}{c:Addr},Heap.SameBut c h h'->i1≠c->S1 i h->S1 i h':=λhs hn g=>G1.frame _ _ _ g λb hb o e=>by
  rw[aat.mp hb]at e⊢;exact hs.extBut _ _ hn e
 have e2:∀{i:Nat}{h h':Heap}{c:Addr},Heap.SameBut c h h'->i2≠c->l≠c->S2 i h->S2 i h':=λhs hn hl g=>G2.frame _ _ _ g λb hb o e=>by
  rcases aaB.mp hb with q|q
  ·rw[q]at e⊢;exact hs.extBut _ _ hn e
  ·rw[aat.mp q]at e⊢;exact hs.extBut _ _ hl e
 show wpAny _ _ (field (.ref z) 2 >>= _) _ _ _
 refine aah (aa1 hz rfl (x:=.bool false) rfl ?_)
 show wpAny _ _ (field (.ref z) 3 >>= _) _ _ _
 refine aah (aa1 hz rfl (x:=.ref TI) rfl (aah (wpAny_seqItems hTI rfl ?_)))
 show wpAny _ _ (Builtin.SmallTypes.ownedTupleIsFree (.ref z) >>= _) _ _ _
 refine aah ?_
 unfold Builtin.SmallTypes.ownedTupleIsFree
 refine aah (aa1 hz rfl (x:=.none) rfl (aal ?_))
 simp only[if_true]
 refine aah (wpAny_rule (aah (aa1 hz rfl (x:=.ref TO) rfl (aah (abM hz (by simp) λA1 z1 q1=>?_)))))
 replace z1:IsZip A1 z TI TO .ellipsis:=z1
 refine aah ?_
 simp only[List.zipIdx_cons,List.zipIdx_nil,List.forIn_cons,List.forIn_nil]
 refine aah (aah (wpAny_onRaise ?_))
 show wpAny _ _ (Builtin.SmallTypes.nextOf (.ref i1) >>= _) _ _ _
 refine aah (G1.item k _ _ _ k1 (e1 q1 D.i1z g1) λx A2 tk px ZR q2=>aal ?_)
 have o2:IsPair A2 TO a b:=q2.extBut _ _ D.TOi1 (q1.extBut _ _ D.TOz hTO)
 refine aah (wpAny_seqItems o2 rfl (aah (wpAny_updateSeq_pair o2 λA3 o3 q3=>?_)))
 replace o3:IsPair A3 TO x b:=o3
 refine aah (wpAny_letGo (aal (aah (aah (wpAny_onRaise ?_)))))
 show wpAny _ _ (Builtin.SmallTypes.nextOf (.ref i2) >>= _) _ _ _
 refine aah (G2.item k _ _ _ k2 (e2 q3 D.TOi2.symm D.l2TO (e2 q2 D.i12.symm D.l2i1 (e2 q1 D.i2z D.l2z g2))) λy A4 tk2 py g2' q4=>aal ?_)
 have o4:IsPair A4 TO x b:=q4.extBut _ _ D.TOi2 o3
 refine aah (wpAny_seqItems o4 rfl (aah (wpAny_updateSeq_pair o4 λA5 o5 q5=>?_)))
 replace o5:IsPair A5 TO x y:=o5
 refine aah (wpAny_letGo (aal (aal (aah (wpAny_seqItems o5 rfl (aah (wpAny_newTuple ?_)))))))
 have sz:A5.objs.size=s.heap.objs.size:=by rw[q5.1,q4.1,q3.1,q2.1,q1.1]
 have z5:IsZip A5 z TI TO .ellipsis:=q5.extBut _ _ D.TOz.symm (q4.extBut _ _ D.i2z.symm (q3.extBut _ _ D.TOz.symm (q2.extBut _ _ D.i1z.symm z1)))
 have w1:S1 (k+1) A5:=e1 q5 D.TOi1.symm (e1 q4 D.i12 (e1 q3 D.TOi1.symm ZR))
 have w2:S2 (k+1) A5:=e2 q5 D.TOi2.symm D.l2TO g2'
 have kp:∀c o,c≠z->c≠TO->c≠i1->c≠i2->s.heap.get? c=some o->A5.get? c=some o:=λc o c1 c2 c3 c4 e=>q5.extBut _ _ c2 (q4.extBut _ _ c4 (q3.extBut _ _ c2 (q2.extBut _ _ c3 (q1.extBut _ _ c1 e))))
 have lz:z<A5.objs.size:=aaw z5
 have z6:IsZip (A5.push {cls:=.type "tuple",data:=.seq #[x,y]}) z TI TO .ellipsis:=aar _ z5
 show wpAny _ _ (Builtin.SmallTypes.ownedTupleHandOut (.ref z) (.ref A5.objs.size) >>= _) _ _ _
 refine aah ?_
 unfold Builtin.SmallTypes.ownedTupleHandOut
 refine aah (abM z6 (by simp) λA7 z7 q7=>?_)
 replace z7:IsZip A7 z TI TO (rawInt A5.objs.size):=z7
 refine abM z7 (by simp) λA8 z8 q8=>?_
 replace z8:IsZip A8 z TI TO (rawInt A5.objs.size):=z8
 have up:∀c o,c≠z->A5.get? c=some o->A8.get? c=some o:=λc o c1 e=>q8.extBut _ _ c1 (q7.extBut _ _ c1 (aar _ e))
 have t8:IsPair A8 A5.objs.size x y:=q8.extBut _ _ (Nat.ne_of_gt lz) (q7.extBut _ _ (Nat.ne_of_gt lz) (aaz _ rfl))
 have v1:S1 (k+1) A8:=G1.frame _ _ _ w1 λb hb o e=>by
  rw[aat.mp hb]at e⊢;exact up _ o D.i1z e
 have v2:S2 (k+1) A8:=G2.frame _ _ _ w2 λb hb o e=>by
  rcases aaB.mp hb with q|q
  ·rw[q]at e⊢;exact up _ o D.i2z e
  ·rw[aat.mp q]at e⊢;exact up _ o D.l2z e
 rw[sz]at z8 t8
 refine aal ⟨_,rfl,?_⟩
 show Q (.ref A5.objs.size) _
 rw[sz]
 exact hQ A8 _ x y px py z8 (up _ _ D.TOz o5) v1 v2 t8 λc o c1 c2 c3 c4 e=>up c o c1 (kp c o c1 c2 c3 c4 e)
theorem P7{z TI TO i1 i2 l:Addr}{n1 n2 k:Nat}{P1 P2:Nat->Value->Prop}{S1 S2:Nat->Heap->Prop}{a b:Value}{Q:Fin->Shared->Prop}(D:ZipApart z TI TO i1 i2 l l)(G1:Draws prog w A i1 [i1] n1 P1 S1)(G2:Draws prog w A i2 [i2,l] n2 P2 S2)(hz:IsZip s.heap z TI TO .none)(hTI:IsPair s.heap TI (.ref i1) (.ref i2))(hTO:IsPair s.heap TO a b)(g1:S1 k s.heap)(g2:S2 k s.heap)(hk:k=n1\/(k<n1/\k=n2))(hE:∀h' tk e,(∀c o,c≠z->c≠TO->c≠i1->c≠i2->s.heap.get? c=some o->h'.get? c=some o)->(∃o,h'.get? e=some o/\o.cls=.type "StopIteration")->E (.ref e) {s with heap:=h',toks:=tk}):wpAny (model prog w) A (Builtin.«zip.__next__» ⟨[.ref z],[]⟩) Q E s:=by
 have e1:∀{i:Nat}{h h':Heap}{c:Addr},Heap.SameBut c h h'->i1≠c->S1 i h->S1 i h':=λhs hn g=>G1.frame _ _ _ g λb hb o e=>by
  rw[aat.mp hb]at e⊢;exact hs.extBut _ _ hn e
 have e2:∀{i:Nat}{h h':Heap}{c:Addr},Heap.SameBut c h h'->i2≠c->l≠c->S2 i h->S2 i h':=λhs hn hl g=>G2.frame _ _ _ g λb hb o e=>by
  rcases aaB.mp hb with q|q
  ·rw[q]at e⊢;exact hs.extBut _ _ hn e
  ·rw[aat.mp q]at e⊢;exact hs.extBut _ _ hl e
 show wpAny _ _ (field (.ref z) 2 >>= _) _ _ _
 refine aah (aa1 hz rfl (x:=.bool false) rfl ?_)
 show wpAny _ _ (field (.ref z) 3 >>= _) _ _ _
 refine aah (aa1 hz rfl (x:=.ref TI) rfl (aah (wpAny_seqItems hTI rfl ?_)))
 show wpAny _ _ (Builtin.SmallTypes.ownedTupleIsFree (.ref z) >>= _) _ _ _
 refine aah ?_
 unfold Builtin.SmallTypes.ownedTupleIsFree
 refine aah (aa1 hz rfl (x:=.none) rfl (aal ?_))
 simp only[if_true]
 refine aah (wpAny_rule (aah (aa1 hz rfl (x:=.ref TO) rfl (aah (abM hz (by simp) λA1 z1 q1=>?_)))))
 replace z1:IsZip A1 z TI TO .ellipsis:=z1
 refine aah ?_
 simp only[List.zipIdx_cons,List.zipIdx_nil,List.forIn_cons,List.forIn_nil]
 refine aah (aah (wpAny_onRaise ?_))
 show wpAny _ _ (Builtin.SmallTypes.nextOf (.ref i1) >>= _) _ _ _
 rcases hk with rfl|⟨k1,rfl⟩
 ·refine aah (G1.done _ _ _ (e1 q1 D.i1z g1) λA2 e q2 he=>?_)
  obtain⟨oe,P8,hce⟩:=he
  have z2:IsZip A2 z TI TO .ellipsis:=q2 _ _ D.i1z.symm z1
  have ez:e≠z:=λq=>by rw[q,z2]at P8;cases P8;exact absurd (show Value.type "zip"=Value.type "StopIteration" from hce) (by decide)
  exact abM z2 (by simp) λA3 _ q3=>hE A3 _ e (λc o c1 _ c3 _ p=>q3.extBut _ _ c1 (q2 _ _ c3 (q1.extBut _ _ c1 p))) ⟨oe,q3.extBut _ _ ez P8,hce⟩
 ·refine aah (G1.item k _ _ _ k1 (e1 q1 D.i1z g1) λx A2 tk px ZR q2=>aal ?_)
  have o2:IsPair A2 TO a b:=q2.extBut _ _ D.TOi1 (q1.extBut _ _ D.TOz hTO)
  refine aah (wpAny_seqItems o2 rfl (aah (wpAny_updateSeq_pair o2 λA3 o3 q3=>?_)))
  refine aah (wpAny_letGo (aal (aah (aah (wpAny_onRaise ?_)))))
  show wpAny _ _ (Builtin.SmallTypes.nextOf (.ref i2) >>= _) _ _ _
  refine aah (G2.done _ _ _ (e2 q3 D.TOi2.symm D.l2TO (e2 q2 D.i12.symm D.l2i1 (e2 q1 D.i2z D.l2z g2))) λA4 e q4 he=>?_)
  obtain⟨oe,P8,hce⟩:=he
  have z4:IsZip A4 z TI TO .ellipsis:=q4 _ _ D.i2z.symm (q3.extBut _ _ D.TOz.symm (q2.extBut _ _ D.i1z.symm z1))
  have ez:e≠z:=λq=>by rw[q,z4]at P8;cases P8;exact absurd (show Value.type "zip"=Value.type "StopIteration" from hce) (by decide)
  exact abM z4 (by simp) λA5 _ q5=>hE A5 _ e (λc o c1 c2 c3 c4 p=>q5.extBut _ _ c1 (q4 _ _ c4 (q3.extBut _ _ c2 (q2.extBut _ _ c3 (q1.extBut _ _ c1 p))))) ⟨oe,q5.extBut _ _ ez P8,hce⟩
def wg(h:Heap)(it:Addr)(x:Str)(t:Tok)(i:Nat):Prop:=h.IsStrIter it "str_ascii_iterator" x t i\/h.IsStrIter it "str_iterator" x t i
theorem De(hh:A.handled=none)(it:Addr)(x:Str)(t:Tok):Draws prog w A it [it] x.cps.size (λi v=>∃c u,x.cps[i]?=some c/\v=.str ⟨#[c]⟩ u) (λi h=>wg h it x t i) where
 live:=λi h st=>by
  rcases st with st|st
  ·exact(Draws.strAscii (prog:=prog) (w:=w) hh it x t).live i h st
  ·exact(Draws.strWide (prog:=prog) (w:=w) hh it x t).live i h st
 frame:=λi h h' st hk=>by
  rcases st with st|st
  ·exact .inl ((Draws.strAscii (prog:=prog) (w:=w) hh it x t).frame i h h' st hk)
  ·exact .inr ((Draws.strWide (prog:=prog) (w:=w) hh it x t).frame i h h' st hk)
 item:=λi s Q E hi st hQ=>by
  rcases st with st|st
  ·exact(Draws.strAscii (prog:=prog) (w:=w) hh it x t).item i s Q E hi st λv h' tk p q r=>hQ v h' tk p (.inl q) r
  ·exact(Draws.strWide (prog:=prog) (w:=w) hh it x t).item i s Q E hi st λv h' tk p q r=>hQ v h' tk p (.inr q) r
 done:=λs Q E st hE=>by
  rcases st with st|st
  ·exact(Draws.strAscii (prog:=prog) (w:=w) hh it x t).done s Q E st hE
  ·exact(Draws.strWide (prog:=prog) (w:=w) hh it x t).done s Q E st hE
theorem Kh{h h':Heap}{it:Addr}{x:Str}{t:Tok}{i:Nat}(q:wg h it x t i)(e:∀o,h.get? it=some o->h'.get? it=some o):wg h' it x t i:=by
 rcases q with ⟨o,ho,r⟩|⟨o,ho,r⟩
 ·exact .inl ⟨o,e _ ho,r⟩
 ·exact .inr ⟨o,e _ ho,r⟩
theorem E1{h:Heap}{it:Addr}{x:Str}{t:Tok}{i:Nat}(q:wg h it x t i):∃o,h.get? it=some o/\∃vs,o.data=.fields vs:=by
 rcases q with ⟨o,ho,_,r⟩|⟨o,ho,_,r⟩
 ·exact⟨o,ho,_,r⟩
 ·exact⟨o,ho,_,r⟩
theorem Df(hh:A.handled=none)(z TI TO i1 i2 l:Addr)(D:ZipApart z TI TO i1 i2 l l)(x:Str)(t:Tok)(ys:Array Value):WalksT prog w A z [z,TI,TO,i1,i2,l] [z,TO,i1,i2] (min x.cps.size ys.size)
   (λi vals=>∃c u y,x.cps[i]?=some c/\ys[i]?=some y/\vals = #[.str ⟨#[c]⟩ u,y])
   (λi h=>IsZip h z TI TO .none/\IsPair h TI (.ref i1) (.ref i2)/\(∃a b,IsPair h TO a b)/\wg h i1 x t i/\h.IsListIter i2 l i/\h.IsList l ys)
   (λi T h=>IsZip h z TI TO (rawInt T)/\IsPair h TI (.ref i1) (.ref i2)/\(∃a b,IsPair h TO a b)/\wg h i1 x t (i+1)/\h.IsListIter i2 l (i+1)/\h.IsList l ys/\T≠z/\T≠TO/\T≠i1/\T≠i2) where
 sub:=λc hc=>by
  simp only[aaB,abK,or_false]at hc⊢
  rcases hc with q|q|q|q<;>simp[q]
 frame:=λi h h' st hk=>by
  obtain⟨p1,p2,⟨a,b,p3⟩,p4,p5,p6⟩:=st
  exact⟨hk z (by simp) _ p1,hk TI (by simp) _ p2,⟨a,b,hk TO (by simp) _ p3⟩,Kh p4 λo e=>hk i1 (by simp) o e,p5.at λo e=>hk i2 (by simp) o e,p6.at λo e=>hk l (by simp) o e⟩
 item:=λi s Q E hi st hQ=>by
  obtain⟨p1,p2,⟨a,b,p3⟩,p4,p5,p6⟩:=st
  have hT:s.TypeIs (.ref z) "zip":=⟨_,p1,rfl⟩
  unfold pyNext
  refine aah (abQ (abl (name:=("__next__":Str)) hT F.slot_zip_next (aa4 F.slot_zip_next hT F.entry_zip_next ?_ (F.args_zip_next_1 _))))
  refine MY (S1:=λi h=>wg h i1 x t i) (S2:=λi h=>h.IsListIter i2 l i/\h.IsList l ys) D (De (A:=A.in1) hh i1 x t) (Draws.list (A:=A.in1) hh i2 l D.l2i2 ys) p1 p2 p3 p4 ⟨p5,p6⟩ (aaG hi (Nat.min_le_left ..)) (aaG hi (Nat.min_le_right ..)) λh' tk u y pu py r1 r2 r3 r4 r5 kp=>?_
  obtain⟨c,tu,hc,rfl⟩:=pu
  have lt:∀{c o},s.heap.get? c=some o->s.heap.objs.size≠c:=λe=>Nat.ne_of_gt (aaw e)
  refine aal (hQ s.heap.objs.size #[.str ⟨#[c]⟩ tu,y] h' tk ⟨c,tu,y,hc,py,rfl⟩ (aan _) ⟨_,r5,rfl,_,rfl⟩ ⟨r1,kp _ _ D.TIz D.TITO D.TIi1 D.TIi2 p2,⟨_,_,r2⟩,r3,r4.1,r4.2,lt p1,lt p3,?_,?_⟩ λc o hc e=>kp c o (λq=>hc (by simp[q])) (λq=>hc (by simp[q])) (λq=>hc (by simp[q])) (λq=>hc (by simp[q])) e)
  ·obtain⟨o,ho,_⟩:=E1 p4;exact lt ho
  ·obtain⟨o,ho,_⟩:=p5;exact lt ho
 go:=λelts k pos i T s Q E hm hQ=>by
  obtain⟨p1,p2,⟨a,b,p3⟩,p4,p5,p6,_⟩:=hm
  refine wpAny_letOwnedTupleGo_zip p1 λh' z' q=>hQ h' ⟨z',q.extBut _ _ D.TIz p2,⟨a,b,q.extBut _ _ D.TOz p3⟩,Kh p4 λo e=>q.extBut _ _ D.i1z e,p5.extBut q.extBut D.i2z,p6.extBut q.extBut D.l2z⟩ λc o hc e=>q.extBut _ _ (λy=>hc (by simp[y])) e
 apart:=λi T h hm hT=>by
  obtain⟨_,_,_,_,_,_,t1,t2,t3,t4⟩:=hm
  simp only[aaB,abK,or_false]at hT
  rcases hT with q|q|q|q
  ·exact t1 q
  ·exact t2 q
  ·exact t3 q
  ·exact t4 q
 done:=λs Q E st hQ=>by
  obtain⟨p1,p2,⟨a,b,p3⟩,p4,p5,p6⟩:=st
  have hT:s.TypeIs (.ref z) "zip":=⟨_,p1,rfl⟩
  unfold pyNext
  refine aah (abQ (abl (name:=("__next__":Str)) hT F.slot_zip_next (aa4 F.slot_zip_next hT F.entry_zip_next ?_ (F.args_zip_next_1 _))))
  refine P7 (S1:=λi h=>wg h i1 x t i) (S2:=λi h=>h.IsListIter i2 l i/\h.IsList l ys) D (De (A:=A.in1) hh i1 x t) (Draws.list (A:=A.in1) hh i2 l D.l2i2 ys) p1 p2 p3 p4 ⟨p5,p6⟩ ?_ λh' tk e kp he=>?_
  ·by_cases q:x.cps.size<=ys.size
   ·exact .inl (Nat.min_eq_left q)
   ·exact .inr ⟨by omega,Nat.min_eq_right (by omega)⟩
  ·obtain⟨o,ho,hc⟩:=he
   refine aah (abI (T:="StopIteration") (b:=true) ⟨o,ho,hc⟩ isSubtype_stop (aal (hQ _ _ λc o hc e=>kp c o (λq=>hc (by simp[q])) (λq=>hc (by simp[q])) (λq=>hc (by simp[q])) (λq=>hc (by simp[q])) e)))
 self:=λi s Q E st hQ=>wpAny_pyIter_zip st.1 hQ
end
def Ic(K:W.Frag)(z:Str)(b:Addr):It :=
 ⟨λi H=>∃ys c y,bK K H b ys/\z.cps[i]?=some c/\ys[i]?=some y,λi H v H'=>∃t c y,H t=none/\v=.ref t/\H'=upd H t (.tup [.str (sg c),y])/\z.cps[i]?=some c/\(∀ys,bK K H b ys->ys[i]?=some y),λi H=>∃ys,bK K H b ys/\min z.cps.size ys.length=i⟩
theorem Ie{P:Program}{w:World}{K:W.Frag}{elts:List Expr}{k:Nat}{pos:Pos}{z TI TO i1 i2 l:Addr}{x:Str}{t:Tok}(D:ZipApart z TI TO i1 i2 l l):Turn P w K (.Tuple elts k pos) (Ic K x l) [z,TI,TO,i1,i2] z (λi h=>IsZip h z TI TO .none/\IsPair h TI (.ref i1) (.ref i2)/\(∃a b,IsPair h TO a b)/\wg h i1 x t i/\h.IsListIter i2 l i) where
 mem:=by simp
 obj:=λi h st b hb=>by
  obtain⟨p1,p2,⟨a,c,p3⟩,p4,⟨o2,e2,c2,d2⟩⟩:=st
  simp only[aaB,abK,or_false]at hb
  rcases hb with rfl|rfl|rfl|rfl|rfl
  ·exact⟨_,p1,λv q=>by cases q⟩
  ·exact⟨_,p2,λv q=>by cases q⟩
  ·exact⟨_,p3,λv q=>by cases q⟩
  ·obtain⟨o,ho,vs,hv⟩:=E1 p4;exact⟨o,ho,λv q=>by rw[hv]at q;cases q⟩
  ·exact⟨_,e2,λv q=>by rw[d2]at q;cases q⟩
 keep:=λi h h' st k=>by
  obtain⟨p1,p2,⟨a,c,p3⟩,p4,p5⟩:=st
  exact⟨k z (by simp) _ p1,k TI (by simp) _ p2,⟨a,c,k TO (by simp) _ p3⟩,Kh p4 λo e=>k i1 (by simp) o e,p5.at λo e=>k i2 (by simp) o e⟩
 item:=by
  intro X hP hw hK hc i pins s σ H E I hf st hg
  subst hP hw hK
  obtain⟨ys,c,y,hy,ec,ey⟩:=hg
  obtain⟨its,rv,p,hz⟩:=I.list hy
  obtain⟨u,hu,ru⟩:=rv.get ey
  obtain⟨p1,p2,p3,p4,p5⟩:=id st
  have W:=Df (prog:=X.prog) (w:=X.w) (A:=X.A) (I.ok.hd hc) z TI TO i1 i2 l D x t its.toArray
  have hsub:∀b∈[z,TO,i1,i2],b∈[z,TI,TO,i1,i2]:=by
   intro b hb
   simp only[aaB,abK,or_false]at hb⊢
   rcases hb with q|q|q|q<;>simp[q]
  refine HZ (J:=Ic X.K x l) (tn:=λi h=>IsZip h z TI TO .none/\IsPair h TI (.ref i1) (.ref i2)/\(∃a b,IsPair h TO a b)/\wg h i1 x t i/\h.IsListIter i2 l i) W I hf hsub ?_ ?_ ?_ ?_ ?_
  ·intro b hb
   obtain⟨a',b',p3⟩:=p3
   obtain⟨o1,e1,_⟩:=E1 p4
   obtain⟨o2,e2,_⟩:=p5
   simp only[aaB,abK,or_false]at hb
   rcases hb with rfl|rfl|rfl|rfl|rfl
   ·exact aaw p1
   ·exact aaw p2
   ·exact aaw p3
   ·exact aaw e1
   ·exact aaw e2
  ·have h1:=(abn.mp ec).1
   have h2:=(aau.mp hu).1
   simp only[aam]
   omega
  ·exact⟨p1,p2,p3,p4,p5,p.isList⟩
  ·rintro vals ⟨c',tu,v2,q1,q2,rfl⟩
   rw[ec]at q1;cases q1
   have q2:its[i]?=some v2:=by simpa using q2
   rw[hu]at q2;cases q2
   exact⟨[.str (sg c),y],(by show 2<=sizeLine;decide),.cons ⟨tu,O⟩ (.cons ru .nil),λT hT=>⟨T,c,y,hT,O,O,ec,λzs hz=>by rw[I.C2 hz hy];exact ey⟩⟩
  ·exact λh q=>⟨q.1,q.2.1,q.2.2.1,q.2.2.2.1,q.2.2.2.2.1⟩
 done:=by
  intro X hP hw hK hc i pins s σ H E I hf st hg
  subst hP hw hK
  obtain⟨ys,hy,hmin⟩:=hg
  obtain⟨its,rv,p,hz⟩:=I.list hy
  obtain⟨p1,p2,p3,p4,p5⟩:=id st
  have e2:its.toArray.size=ys.length:=by rw[rv.length];exact aam ..
  have e:i=min x.cps.size its.toArray.size:=by rw[e2,hmin]
  subst e
  have W:=Df (prog:=X.prog) (w:=X.w) (A:=X.A) (I.ok.hd hc) z TI TO i1 i2 l D x t its.toArray
  have hsub:∀b∈[z,TO,i1,i2],b∈[z,TI,TO,i1,i2]:=by
   intro b hb
   simp only[aaB,abK,or_false]at hb⊢
   rcases hb with q|q|q|q<;>simp[q]
  exact Ia W I hf hsub ⟨p1,p2,p3,p4,p5,p.isList⟩
 self:=λ_ _ _ _ _ st h=>wpAny_pyIter_zip st.1 h
def fj(x:Str)(t:Tok):Obj:={cls:=.type (if x.cps.all (· < 128)=true then "str_ascii_iterator" else "str_iterator"),data:=.fields #[.str x t,.int 0 0]}
theorem P9{h:Heap}{it:Addr}{x:Str}{t:Tok}(e:h.get? it=some (fj x t)):wg h it x t 0:=by
 unfold fj at e
 cases ha:x.cps.all (· < 128)
 ·rw[ha,aai (by decide)]at e;exact .inr ⟨_,e,rfl,rfl⟩
 ·rw[ha,aaj rfl]at e;exact .inl ⟨_,e,rfl,rfl⟩
section
variable{prog:Program}{w:World}{A:Around}{E:Value->Shared->Prop}{s:Shared}
theorem MZ{x:Str}{t:Tok}{Q:Value->Shared->Prop}(hQ:Q (.ref s.heap.objs.size) {s with heap:=s.heap.push (fj x t)}):wpAny (model prog w) A (pyIter (.str x t)) Q E s:=by
 unfold fj at hQ
 cases ha:x.cps.all (· < 128)
 ·rw[ha,aai (by decide)]at hQ;exact wpAny_pyIter_wide ha hQ
 ·rw[ha,aaj rfl]at hQ;exact wpAny_pyIter_ascii ha hQ
end
abbrev Vq(h:Heap)(o:Obj):Heap:=h.push o
abbrev zs2(h:Heap)(o:Obj)(l:Addr):Heap:=(Vq h o).push {cls:=.type "list_iterator",data:=.fields #[.ref l,.int 0 0]}
abbrev Vr(h:Heap)(o:Obj)(l:Addr):Heap:=(zs2 h o l).push {cls:=.type "tuple",data:=.seq #[.ref h.objs.size,.ref (Vq h o).objs.size]}
abbrev Vs(h:Heap)(o:Obj)(l:Addr):Heap:=(Vr h o l).push {cls:=.type "tuple",data:=.seq #[.none,.none]}
abbrev RN(h:Heap)(o:Obj)(l:Addr):Heap:=(Vs h o l).push {cls:=.type "zip",data:=.fields #[.none,.bool false,.bool false,.ref (zs2 h o l).objs.size,.ref (Vr h o l).objs.size]}
theorem Kl(x:Str)(t:Tok)(l:Addr)(ys:Array Value):Meets (Builtin.«zip.__new__» ⟨[.type "zip",.str x t,.ref l],[]⟩) (λ_ R s=>s.heap.IsList l ys/\R (.ok (.ret (.ref (Vs s.heap (fj x t) l).objs.size))) {s with heap:=RN s.heap (fj x t) l}) :=
 .of_wp λprog w A R s h=>by
  obtain⟨hp,g,d,tk,os⟩:=s
  obtain⟨hl,h⟩:=h
  have hsub:=sub_zip
  have hL:Heap.IsList (Shared.heap ⟨hp.push (fj x t),g,d,tk,os⟩) l ys:=Heap.IsList.push hl _
  wp_walk using MZ,wpAny_pyIter_list hL
  exact⟨_,O,h⟩
section
variable{prog:Program}{w:World}{A:Around}{E:Value->Shared->Prop}{s:Shared}
theorem Ig{x:Str}{t:Tok}{l:Addr}{ys:Array Value}{Q:Value->Shared->Prop}(hl:s.heap.IsList l ys)(h:∀h',IsZip h' (s.heap.objs.size+4) (s.heap.objs.size+2) (s.heap.objs.size+3) .none->IsPair h' (s.heap.objs.size+2) (.ref s.heap.objs.size) (.ref (s.heap.objs.size+1))->IsPair h' (s.heap.objs.size+3) .none .none->wg h' s.heap.objs.size x t 0->h'.IsListIter (s.heap.objs.size+1) l 0->(∀c o,s.heap.get? c=some o->h'.get? c=some o)->Q (.ref (s.heap.objs.size+4)) {s with heap:=h'}):wpAny (model prog w) A (call (.type "zip") [.str x t,.ref l]) Q E s:=by
 refine callType_new F.called_zip (by decide) (F.typeCall_zip_2 _ _) (F.newCall_zip_2 _ _) (λobj=>F.args_object_init_3 obj _ _) F.entry_zip_new (Kl x t l ys) ⟨hl,?_⟩
 have n1:(Vq s.heap (fj x t)).objs.size=s.heap.objs.size+1:=Heap.size_push ..
 have n2:(zs2 s.heap (fj x t) l).objs.size=s.heap.objs.size+2:=by rw[Heap.size_push,n1]
 have n3:(Vr s.heap (fj x t) l).objs.size=s.heap.objs.size+3:=by rw[Heap.size_push,n2]
 have n4:(Vs s.heap (fj x t) l).objs.size=s.heap.objs.size+4:=by rw[Heap.size_push,n3]
 have up:∀{h:Heap}{c:Addr}{u o:Obj},h.get? c=some o->(h.push u).get? c=some o:=λe=>aar _ e
 have r5:(RN s.heap (fj x t) l).get? (Vs s.heap (fj x t) l).objs.size=some _:=aaz _ rfl
 have r4:(RN s.heap (fj x t) l).get? (Vr s.heap (fj x t) l).objs.size=some _:=up (aaz _ rfl)
 have r3:(RN s.heap (fj x t) l).get? (zs2 s.heap (fj x t) l).objs.size=some _:=up (up (aaz _ rfl))
 have r2:(RN s.heap (fj x t) l).get? (Vq s.heap (fj x t)).objs.size=some _:=up (up (up (aaz _ rfl)))
 have r1:(RN s.heap (fj x t) l).get? s.heap.objs.size=some (fj x t):=up (up (up (up (aaz _ rfl))))
 show _/\_
 rw[n2,n3,n4]at r5
 rw[n1,n2]at r3
 rw[n3]at r4
 rw[n1]at r2
 rw[n4]
 exact⟨⟨_,r5,O⟩,h _ r5 r3 r4 (P9 r1) ⟨_,r2,O,O⟩ λc o q=>up (up (up (up (up q))))⟩
end
def Tc(K:W.Frag)(ta:TA):TI:=λσ H R=>ta σ H λvs H1=>∃z b,vs=[.str z,.ref b]/\(∃ys,bK K H1 b ys)/\R (Ic K z b) H1
theorem Km{X:Cx}{elts:List Expr}{k:Nat}{tpos:Pos}{a b:Expr}{ta:TA}{p pos:Pos}(K:W.Frag)(hK:X.K=K)(hg:Gl X "zip")(hm:X.mg "zip"=none)(ha:PA X [a,b] ta)(hs:starEach [a,b] X.env=[(false,eval a X.env),(false,eval b X.env)]:=by rfl)(hs2:starEach [b] X.env=[(false,eval b X.env)]:=by rfl):PI X (.Tuple elts k tpos) (.Call (.Name "zip" p) [a,b] [] pos) (Tc K ta):=by
 subst hK
 intro pins s σ H R I h
 refine Call_ (p7 I hg hm (u:=.type "zip") (by decide +kernel) (abu (cy (ha pos pins s σ H _ I h) λus s1 ⟨vs,H1,I1,r1,q1⟩=>?_) (by rw[hs,hs2]) (by rw[hs2];rfl)))
 obtain⟨z,l,e,⟨ys,hy⟩,q⟩:=q1
 subst e
 cases r1 with
 |cons r rr =>
  cases rr with
  |cons r' rr =>
   cases rr
   obtain⟨t,rfl⟩:=r
   cases r'
   obtain⟨its,rv,pl,hz⟩:=I1.list hy
   have hlt:l<s1.heap.objs.size:=by obtain⟨o,ho,_⟩:=pl.isList;exact aaw ho
   refine Ig pl.isList λh' hz' hTI hTO hi1 hi2 hk=>?_
   refine wpAny_pyIter_zip hz' ?_
   have I2:Inv X pins σ H1 {s1 with heap:=h'}:=I1.kept (t':=s1.toks) λb o e=>hk b o e
   refine⟨s1.heap.objs.size+4,_,_,_,H1,rfl,I2,Ie (x:=z) (t:=t) (P5 s1.heap.objs.size l l hlt hlt),⟨hz',hTI,⟨_,_,hTO⟩,hi1,hi2⟩,λb hb=>?_,q⟩
   have hb':s1.heap.objs.size<=b:=by
    simp only[aaB,abK,or_false]at hb
    rcases hb with rfl|rfl|rfl|rfl|rfl
    ·exact abT _ _
    ·exact abT _ _
    ·exact abT _ _
    ·exact aan _
    ·exact abT _ _
   exact I1.zo hb' (I1.hok.fresh hb')
theorem Kn{K:W.Frag}{z:Str}{b:Addr}{ys:List V}{g:TG}{tb:TS}{D:Ends}{σ:St}{H:Hp}(Pv:Nat->St->Hp->Prop)(h0:Pv 0 σ H)(hl:∀i σ H,i<=min z.cps.size ys.length->Pv i σ H->bK K H b ys)(hs:∀i c y t σ H,z.cps[i]?=some c->ys[i]?=some y->H t=none->Pv i σ H->g (.ref t) σ (upd H t (.tup [.str (sg c),y])) λσ2 H2=>tb {D with nx:=Pv (i+1),ct:=Pv (i+1),bk:=D.nx} σ2 H2)(hd:∀σ H,Pv (min z.cps.size ys.length) σ H->D.nx σ H):∃W:Nat->Nat->St->Hp->Prop,(∃m,W 0 m σ H)/\∀i m σ H,W i m σ H->((Ic K z b).stop i H/\D.nx σ H)\/((Ic K z b).go i H/\∃N:St->Hp->Prop,(∀σ' H',N σ' H'->∃m',m'<m/\W (i+1) m' σ' H')/\∀x H',(Ic K z b).Mh i H x H'->g x σ H' λσ2 H2=>tb {D with nx:=N,ct:=N,bk:=D.nx} σ2 H2):=by
 refine⟨λi m σ H=>m=min z.cps.size ys.length-i/\i<=min z.cps.size ys.length/\Pv i σ H,⟨_,O,aaM _,h0⟩,?_⟩
 rintro i m σ H ⟨rfl,hi,p⟩
 have q:=hl i σ H hi p
 by_cases hlt:i<min z.cps.size ys.length
 ·have h1:i<z.cps.size:=by omega
  have h2:i<ys.length:=by omega
  refine .inr ⟨⟨ys,z.cps[i],ys[i],q,by simp[h1],by simp[h2]⟩,Pv (i+1),λσ' H' p'=>⟨_,(by omega:min z.cps.size ys.length-(i+1)<_),rfl,hlt,p'⟩,λv H' y=>?_⟩
  obtain⟨t,c,y,ht,e1,e2,ec,ey⟩:=y
  subst e1 e2
  exact hs i c y t σ _ ec (ey ys q) ht p
 ·have e:i=min z.cps.size ys.length:=by omega
  subst e
  exact .inl ⟨⟨ys,q,rfl⟩,hd σ H p⟩
section
variable{X:Cx}
end
inductive qc(K:W.Frag)(H:Hp):Nat->V->V->Bool->Prop where
 |flat {n:Nat}{x y:V}:dU x=true->dU y=true->qc K H n x y (xK x y)
 |same {n:Nat}{a:Addr}:qc K H n (.ref a) (.ref a) true
 |tup {n:Nat}{a b:Addr}{xs ys:List V}{e:Nat->Bool}:a≠b->aN K H a xs->aN K H b ys->(∀(j:Nat) x y,xs[j]?=some x->ys[j]?=some y->qc K H n x y (e j))->qc K H (n+1) (.ref a) (.ref b) ((List.range (min xs.length ys.length)).all e&&xs.length==ys.length)
 |lst {n:Nat}{a b:Addr}{xs ys:List V}{e:Nat->Bool}:a≠b->bK K H a xs->bK K H b ys->xs.length=ys.length->(∀(j:Nat) x y,xs[j]?=some x->ys[j]?=some y->qc K H n x y (e j))->qc K H (n+1) (.ref a) (.ref b) ((List.range xs.length).all e)
 |len {n:Nat}{a b:Addr}{xs ys:List V}:a≠b->bK K H a xs->bK K H b ys->xs.length≠ys.length->qc K H (n+1) (.ref a) (.ref b) false
section
variable{X:Cx}{pins:List (Addr×Obj)}{σ:St}{H:Hp}{s:Shared}
theorem oH{A:Around}{e:Nat->Bool}{xs ys:List V}{us ws:List Value}(r1:Vals xs us)(r2:Vals ys ws)(h:∀(j:Nat) x y u w,xs[j]?=some x->ys[j]?=some y->RelV x u->RelV y w->SeqAt.EqAt A s u w (e j))(j:Nat)(h1:j<us.toArray.size)(h2:j<ws.toArray.size):SeqAt.EqAt A s us.toArray[j] ws.toArray[j] (e j):=by
 have hl1:=r1.length
 have hl2:=r2.length
 have hj1:j<xs.length:=by rw[hl1];simpa using h1
 have hj2:j<ys.length:=by rw[hl2];simpa using h2
 obtain⟨u,eu,ru⟩:=r1.get (i:=j) (x:=xs[j]) (by simp[hj1])
 obtain⟨w,ew,rw'⟩:=r2.get (i:=j) (x:=ys[j]) (by simp[hj2])
 have e1:us.toArray[j]=u:=by
  obtain⟨_,q⟩:=aau.mp eu
  simpa using q
 have e2:ws.toArray[j]=w:=by
  obtain⟨_,q⟩:=aau.mp ew
  simpa using q
 rw[e1,e2]
 exact h j _ _ u w (by simp[hj1]) (by simp[hj2]) ru rw'
theorem Dg(I:Inv X pins σ H s){n:Nat}{x y:V}{b:Bool}(h:qc X.K H n x y b):∀{A:Around}{u v:Value},A.units+n<cLine->RelV x u->RelV y v->SeqAt.EqAt A s u v b:=by
 induction h with
 |flat f1 f2=>intro A u v _ ru rv;exact ES ru rv f1 f2
 |same=>intro A u v _ ru rv;cases ru;cases rv;exact SeqAt.EqAt.same _
 |@tup n a b xs ys e ne ha hb _ ih =>
  intro A u v hu ru rv
  cases ru;cases rv
  obtain⟨its,r1,p1,_⟩:=I.tuple ha
  obtain⟨its2,r2,p2,_⟩:=I.tuple hb
  refine SeqAt.EqAt.of_refs ne ?_
  have q:=SeqAt.RcAt.tuples (A:=A) (e:=e) p1 p2 (by omega) λj h1 h2=>oH r1 r2 (λj x y u w ex ey ru rw'=>ih j x y ex ey (by show A.units+1+n<cLine;omega) ru rw') j h1 h2
  rw[aam,aam,←r1.length,←r2.length]at q
  exact q
 |@lst n a b xs ys e ne ha hb hl _ ih =>
  intro A u v hu ru rv
  cases ru;cases rv
  obtain⟨its,r1,p1,_⟩:=I.list ha
  obtain⟨its2,r2,p2,_⟩:=I.list hb
  refine SeqAt.EqAt.of_refs ne ?_
  have q:=SeqAt.RcAt.lists (A:=A) (e:=e) p1.isList p2.isList (by rw[aam,aam,←r1.length,←r2.length,hl]) (by omega) λj h1 h2=>oH r1 r2 (λj x y u w ex ey ru rw'=>ih j x y ex ey (by show A.units+1+n<cLine;omega) ru rw') j h1 h2
  rw[aam,←r1.length]at q
  exact q
 |@len n a b xs ys ne ha hb hl =>
  intro A u v hu ru rv
  cases ru;cases rv
  obtain⟨its,r1,p1,_⟩:=I.list ha
  obtain⟨its2,r2,p2,_⟩:=I.list hb
  refine SeqAt.EqAt.of_refs ne ?_
  exact SeqAt.RcAt.lists_lengths (A:=A) p1.isList p2.isList (by rw[aam,aam,←r1.length,←r2.length];simpa using hl) (by omega)
end
section
variable{X:Cx}
inductive TopC(K:W.Frag)(H:Hp):V->V->Bool->Prop where
 |tup {n:Nat}{a b:Addr}{xs ys:List V}{e:Nat->Bool}:n<=50->aN K H a xs->aN K H b ys->(∀(j:Nat) x y,xs[j]?=some x->ys[j]?=some y->qc K H n x y (e j))->TopC K H (.ref a) (.ref b) ((List.range (min xs.length ys.length)).all e&&xs.length==ys.length)
 |lst {n:Nat}{a b:Addr}{xs ys:List V}{e:Nat->Bool}:n<=50->bK K H a xs->bK K H b ys->xs.length=ys.length->(∀(j:Nat) x y,xs[j]?=some x->ys[j]?=some y->qc K H n x y (e j))->TopC K H (.ref a) (.ref b) ((List.range xs.length).all e)
 |len {a b:Addr}{xs ys:List V}:bK K H a xs->bK K H b ys->xs.length≠ys.length->TopC K H (.ref a) (.ref b) false
def Td(K:W.Frag):R2:=λx y H Q=>∃b,TopC K H x y b/\Q (.bl (!b)) H
theorem Qa(K:W.Frag)(hK:X.K=K)(hu:X.A.units+64<cLine):jx X (compareOp .NotEq) (Td K):=by
 subst hK
 intro pins s σ H x y v u Q I rx ry h
 obtain⟨b,hk,q⟩:=h
 cases hk with
 |@tup n a b xs ys e hn ha hb hs =>
  cases rx;cases ry
  show wpAny _ _ (richCompare .NotEq (.ref a) (.ref b)) _ _ _
  obtain⟨its,r1,p1,_⟩:=I.tuple ha
  obtain⟨its2,r2,p2,_⟩:=I.tuple hb
  refine SeqAt.RcNeAt.tuples (e:=e) p1 p2 (by omega) (λj h1 h2=>oH r1 r2 (λj x y u w ex ey ru rw'=>Dg I (hs j x y ex ey) (by show X.A.units+1+n<cLine;omega) ru rw') j h1 h2) _ _ _ _ ⟨.bl _,H,I,?_,q⟩
  show Value.bool _=Value.bool _
  rw[aam,aam,←r1.length,←r2.length]
 |@lst n a b xs ys e hn ha hb hl hs =>
  cases rx;cases ry
  show wpAny _ _ (richCompare .NotEq (.ref a) (.ref b)) _ _ _
  obtain⟨its,r1,p1,_⟩:=I.list ha
  obtain⟨its2,r2,p2,_⟩:=I.list hb
  refine SeqAt.RcNeAt.lists (e:=e) p1.isList p2.isList (by rw[aam,aam,←r1.length,←r2.length,hl]) (by omega) (λj h1 h2=>oH r1 r2 (λj x y u w ex ey ru rw'=>Dg I (hs j x y ex ey) (by show X.A.units+1+n<cLine;omega) ru rw') j h1 h2) _ _ _ _ ⟨.bl _,H,I,?_,q⟩
  show Value.bool _=Value.bool _
  rw[aam,←r1.length]
 |@len a b xs ys ha hb hl =>
  cases rx;cases ry
  obtain⟨its,r1,p1,_⟩:=I.list ha
  obtain⟨its2,r2,p2,_⟩:=I.list hb
  show wpAny _ _ (richCompare .NotEq (.ref a) (.ref b)) _ _ _
  exact SeqAt.RcNeAt.lists_lengths p1.isList p2.isList (by rw[aam,aam,←r1.length,←r2.length];simpa using hl) (by omega) _ _ _ _ ⟨.bl true,H,I,rfl,q⟩
end
structure iN(prog:Program)(w:World)(K:Type)[DecidableEq K] where
 is:Heap->K->Value->Prop
 hash:K->Int
 draws:K->Nat
 cP:Nat
 inj:∀{h:Heap}{v:Value}{x y:K},is h x v->is h y v->x=y
 keeps:∀{h h':Heap}{k:K}{v:Value}{d:Addr}{o:Obj}{es ep},is h k v->h.get? d=some o->o.data=.dict es ep->Heap.SameBut d h h'->is h' k v
 pyHash:∀{A:Around}{E:Value->Shared->Prop}{s:Shared}{k:K}{v:Value}{Q:Int->Shared->Prop},A.units+cP<cLine->is s.heap k v->Q (hash k) {s with toks:=s.toks+draws k}->wpAny (model prog w) A (PySem.pyHash v) Q E s
 eq:∀{A:Around}{s:Shared}{x y:K}{u v:Value},A.units+cP<cLine->is s.heap x u->is s.heap y v->SeqAt.EqAt A s u v (decide (x=y))
 quiet:∀{A:Around}{E:Value->Shared->Prop}{s:Shared}{k:K}{v:Value}{Q:Bool->Shared->Prop}{n:Nat},cP<=n->is s.heap k v->Q true s->wpAny (model prog w) A (eqIsQuiet n v) Q E s
section
variable{prog:Program}{w:World}{K:Type}[DecidableEq K](V:iN prog w K)
def TupIs(h:Heap)(ks:List K)(a:Addr):Prop:=∃o items n,h.get? a=some o/\o.cls=.type "tuple"/\o.data=.seq items n/\Paired (λk v=>V.is h k v) ks items.toList
def xM(ks:List K):Int:=reduceHash (Builtin.Tuple.tupleHashOf (ks.map V.hash))
variable{V}
theorem TupIs.ty{s:Shared}{ks:List K}{a:Addr}(x:TupIs V s.heap ks a):s.TypeIs (.ref a) "tuple":=by obtain⟨o,_,_,ho,hc,_⟩:=x;exact⟨o,ho,hc⟩
theorem ye{h:Heap}:∀{x y:List K}{vs:List Value},Paired (λk v=>V.is h k v) x vs->Paired (λk v=>V.is h k v) y vs->x=y
 |_,_,_,.nil,.nil=>rfl
 |_,_,_,.cons a r,.cons b q=>by rw[V.inj a b,ye r q]
theorem TupIs.inj{h:Heap}{a:Addr}{x y:List K}(hx:TupIs V h x a)(hy:TupIs V h y a):x=y:=by
 obtain⟨o,items,n,ho,_,hd,hi⟩:=hx
 obtain⟨o',items',n',ho',_,hd',hi'⟩:=hy
 rw[ho]at ho'
 cases ho'
 rw[hd]at hd'
 cases hd'
 exact ye hi hi'
theorem TupIs.keeps{h h':Heap}{ks:List K}{a d:Addr}{o:Obj}{es ep}(x:TupIs V h ks a)(ho:h.get? d=some o)(hd:o.data=.dict es ep)(hs:Heap.SameBut d h h'):TupIs V h' ks a:=by
 obtain⟨o',items,n,e1,e2,e3,e4⟩:=x
 have hne:a≠d:=λe=>by
  subst e
  rw[e1]at ho
  cases ho
  rw[hd]at e3;cases e3
 exact⟨o',items,n,(hs.2 a hne).trans e1,e2,e3,Paired.HG e4 λk v q=>V.keeps q ho hd hs⟩
variable{A:Around}{E:Value->Shared->Prop}{s:Shared}
theorem Dh{ks:List K}{a:Addr}{Q:Int->Shared->Prop}(hu:A.units+(V.cP+1)<cLine)(hk:TupIs V s.heap ks a)(h:Q (xM V ks) {s with toks:=s.toks+((ks.map V.draws).sum+1)}):wpAny (model prog w) A (pyHash (.ref a)) Q E s:=by
 have hT:=hk.ty
 have gb:A.units<cLine:=by omega
 obtain⟨o,items,n,ho,_,hd,hi⟩:=hk
 unfold pyHash
 first|unfold pyHashByItsType|skip
 first|refine aah (wpAny_cRoomFor_or (.inr gb) ?_)|skip
 refine aah (aa3 hT F.slot_tuple_hash.lookup ?_);show wpAny _ _ (if (some (Value.builtin "tuple.__hash__")==some Value.none)=true then _ else _) Q E s
 rw[aai (by rw[beq_builtin_none];exact aaA)];refine aah (aa3 hT F.slot_tuple_hash.lookup ?_)
 show wpAny _ _ (callSpecialIfBoundUnlessNone? (.ref a) "__hash__" _ >>= _) Q E s;refine aah (wpAny_callSpecialIfBoundUnlessNone?_slot hT F.slot_tuple_hash (aa4 F.slot_tuple_hash hT F.entry_tuple_hash ?_ (F.args_tuple_hash_1 _)))
 have hu1:A.in1.units+V.cP<cLine:=by show A.units+1+V.cP<cLine;omega
 show wpAny _ _ (Builtin.Tuple.tupleItemsOf (.ref a) >>= _) _ _ s
 refine aah (wpAny_tupleItemsOf ho hd (aah ?_))
 rw[←Array.forIn_toList]
 refine wpAny_forIn_list _ (λrest (b:Array Int) s'=>∃done left,ks=done++left/\Paired (λk v=>V.is s.heap k v) left rest/\b.toList=done.map V.hash/\s'={s with toks:=s.toks+(done.map V.draws).sum}) _ ?_ ?_ _ _ ⟨[],ks,rfl,hi,rfl,rfl⟩
 ·rintro x rest b s' ⟨done,left,rfl,hl,hb,rfl⟩
  cases hl with
  |@cons k _ ks' _ h1 hl' =>
   have fin:∃d l,done++k::ks'=d++l/\Paired (λk v=>V.is s.heap k v) l rest/\(b.push (V.hash k)).toList=d.map V.hash/\({s with toks:=s.toks+(done.map V.draws).sum+V.draws k}:Shared)={s with toks:=s.toks+(d.map V.draws).sum}:=⟨done++[k],ks',by simp,hl',by simp[hb],by simp[Nat.add_assoc]⟩
   refine aah (V.pyHash hu1 h1 ?_)
   first
    |exact aal fin
    |exact aah (aal (aal fin))
 ·rintro b s' ⟨done,left,rfl,hl,hb,rfl⟩
  cases hl
  rw[aaH]at h
  show wpAny _ _ (retInt (Builtin.Tuple.tupleHashOf b.toList)) _ _ _
  rw[hb]
  refine wpAny_ret_mkInt ?_
  generalize hz:Builtin.Tuple.tupleHashOf (done.map V.hash)=z
  unfold xM reduceHash at h
  rw[hz]at h
  show wpAny _ _ (if (decide (-(2:Int) ^ 63<=z)&&decide (z<2 ^ 63))=true then _ else _) Q E _
  by_cases hr:(decide (-(2:Int) ^ 63<=z)&&decide (z<2 ^ 63))=true
  ·rw[aaj hr]at h⊢
   exact aal (by simpa [Nat.add_assoc]using h)
  ·rw[aai hr]at h⊢
   exact aah (wpAny_rule (aal (by simpa [Nat.add_assoc]using h)))
theorem qd{x y:List K}:((List.range (min x.length y.length)).all (λj=>decide (x[j]?=y[j]?))&&x.length==y.length)=decide (x=y):=by
 rw[aaL,abG,aa7,aaD,beq_iff_eq]
 constructor
 ·rintro⟨q,hl⟩
  refine List.ext_getElem? λi=>?_
  by_cases hi:i<x.length
  ·exact aa5 (q i (List.mem_range.mpr (by omega)))
  ·rw[abz (by omega),abz (by omega)]
 ·rintro rfl
  exact⟨λi _=>aas rfl,O⟩
theorem fL{F:K->Value->Prop}:∀{ks:List K}{vs:List Value},Paired F ks vs->∀(j:Nat) v,vs[j]?=some v->∃k,ks[j]?=some k/\F k v
 |_,_,.nil,j,v,h=>by simp at h
 |_,_,.cons a r,0,v,h=>by cases h;exact⟨_,rfl,a⟩
 |_,_,.cons a r,j+1,v,h=>by
  rw[List.getElem?_cons_succ]at h
  obtain⟨k,e,q⟩:=fL r j v h
  exact⟨k,by rw[List.getElem?_cons_succ];exact e,q⟩
theorem Ko{x y:List K}{a b:Addr}(hu:A.units+(V.cP+1)<cLine)(hx:TupIs V s.heap x a)(hy:TupIs V s.heap y b):SeqAt.EqAt A s (.ref a) (.ref b) (decide (x=y)):=by
 by_cases e:a=b
 ·subst e
  rw[aas (hx.inj hy)]
  exact SeqAt.EqAt.same _
 ·obtain⟨o,items,n,h1,h2,h3,h4⟩:=hx
  obtain⟨o',items',n',Qc,h2',h3',M0⟩:=hy
  have l1:x.length=items.size:=by rw[abd h4,aap]
  have l2:y.length=items'.size:=by rw[abd M0,aap]
  refine SeqAt.EqAt.of_refs e ?_
  rw[←qd,l1,l2]
  refine SeqAt.RcAt.tuples ⟨o,h1,h2,n,h3⟩ ⟨o',Qc,h2',n',h3'⟩ (by omega) λj j1 j2=>?_
  obtain⟨k,ek,hk⟩:=fL h4 j items[j] (by simp[j1])
  obtain⟨k',Te,hk'⟩:=fL M0 j items'[j] (by simp[j2])
  rw[ek,Te,show decide (some k=some k')=decide (k=k') by simp]
  exact V.eq (by show A.units+1+V.cP<cLine;omega) hk hk'
theorem Ax{ks:List K}{a:Addr}{Q:Bool->Shared->Prop}{n:Nat}(hn:V.cP+1<=n)(hk:TupIs V s.heap ks a)(h:Q true s):wpAny (model prog w) A (eqIsQuiet n (.ref a)) Q E s:=by
 have hT:=hk.ty
 obtain⟨o,items,m,ho,_,hd,hi⟩:=hk
 obtain⟨n,rfl⟩:∃n',n=n'+1:=⟨n-1,by omega⟩
 unfold eqIsQuiet
 refine aah (aa3 hT F.slot_tuple_eq.lookup ?_);show wpAny _ _ (isInstance (.ref a) (.type "tuple") >>= _) _ _ s
 refine aah (abI hT isSubtype_tuple_tuple ?_)
 simp only[Bool.not_true,aaP,abm]
 refine aah (wpAny_seqItems ho hd (aah ?_))
 show wpAny _ _ (forIn items _ _) _ _ s
 rw[←Array.forIn_toList]
 refine wpAny_forIn_list _ (λrest r s'=>r.1=none/\s'=s/\∃l,Paired (λk v=>V.is s.heap k v) l rest) _ ?_ ?_ _ _ ⟨rfl,rfl,ks,hi⟩
 ·rintro v rest r s' ⟨hr,rfl,l,hl⟩
  cases hl with
  |@cons k _ ks' _ h1 hl' =>
   refine aah (V.quiet (by omega) h1 ?_)
   simp only[Bool.not_true,aaP,abm]
   exact aal ⟨rfl,rfl,ks',hl'⟩
 ·rintro⟨r1,r2⟩ s' ⟨hr,rfl,_⟩
  simp only at hr
  subst hr
  exact aal h
end
abbrev Lf:=Option Key
def Di:Lf->Value->Prop
 |none,v=>v=.none
 |some k,v=>vq k v=true
section
variable{prog:Program}{w:World}{A:Around}{E:Value->Shared->Prop}{s:Shared}
theorem Ih{Q:Int->Shared->Prop}(hu:A.units<cLine)(h:Q 4238894112 {s with toks:=s.toks+1}):wpAny (model prog w) A (pyHash .none) Q E s:=by
 have hT:s.TypeIs .none "NoneType":=rfl
 unfold pyHash
 first|unfold pyHashByItsType|skip
 first|refine aah (wpAny_cRoomFor_or (.inr hu) ?_)|skip
 refine aah (aa3 hT F.slot_NoneType_hash.lookup ?_)
 show wpAny _ _ (if (some (Value.builtin "NoneType.__hash__")==some Value.none)=true then _ else _) Q E s
 rw[aai (by rw[beq_builtin_none];exact aaA)];refine aah (aa3 hT F.slot_NoneType_hash.lookup ?_)
 show wpAny _ _ (callSpecialIfBoundUnlessNone? .none "__hash__" _ >>= _) Q E s
 refine aah (wpAny_callSpecialIfBoundUnlessNone?_slot hT F.slot_NoneType_hash (aa4 F.slot_NoneType_hash hT F.entry_NoneType_hash ?_ (F.args_NoneType_hash_1 _)))
 show wpAny _ _ (retInt 4238894112) _ _ _
 refine wpAny_ret_mkInt ?_
 show wpAny _ _ (if (decide (-(2:Int) ^ 63<=4238894112)&&decide ((4238894112:Int)<2 ^ 63))=true then _ else _) Q E _
 rw[aaj (by decide)]
 exact aal h
theorem jW{k:Key}{v:Value}(h:vq k v=true):(∃i t,k=.inl i/\v=.int i t)\/∃z t,k=.inr z/\v=.str z t:=cj h
theorem Kp(prog:Program)(w:World){v:Value}{x y:Lf}(hx:Di x v)(hy:Di y v):x=y:=by
 cases x with
 |none =>
  cases y with
  |none=>rfl
  |some k=>rcases jW hy with ⟨i,t,rfl,e⟩|⟨z,t,rfl,e⟩<;>(rw[show v=.none from hx]at e;cases e)
 |some k =>
  cases y with
  |none=>rcases jW hx with ⟨i,t,rfl,e⟩|⟨z,t,rfl,e⟩<;>(rw[show v=.none from hy]at e;cases e)
  |some k'=>rw[(kU prog w).inj v k k' hx hy]
theorem ON{x y:Lf}{u v:Value}(hx:Di x u)(hy:Di y v):SeqAt.EqAt A s u v (decide (x=y)):=by
 cases x with
 |none =>
  have hx:u=.none:=hx
  subst hx
  cases y with
  |none =>
   have hy:v=.none:=hy
   subst hy
   rw[aas rfl];exact SeqAt.EqAt.same _
  |some k =>
   rw[aak (by simp)]
   rcases jW hy with ⟨i,t,rfl,rfl⟩|⟨z,t,rfl,rfl⟩
   ·exact SeqAt.EqAt.none_int _ _
   ·exact SeqAt.EqAt.none_str _ _
 |some k =>
  cases y with
  |none =>
   have hy:v=.none:=hy
   subst hy
   rw[aak (by simp)]
   rcases jW hx with ⟨i,t,rfl,rfl⟩|⟨z,t,rfl,rfl⟩
   ·exact SeqAt.EqAt.int_none _ _
   ·exact SeqAt.EqAt.str_none _ _
  |some k' =>
   rw[show decide (some k=some k')=decide (k=k') by simp]
   rcases jW hx with ⟨i,t,rfl,rfl⟩|⟨z,t,rfl,rfl⟩<;>rcases jW hy with ⟨i',t',rfl,rfl⟩|⟨z',t',rfl,rfl⟩
   ·rw[Jx];exact SeqAt.EqAt.int_int _ _ _ _
   ·rw[Jz];exact SeqAt.EqAt.int_str _ _ _ _
   ·rw[JA];exact SeqAt.EqAt.str_int _ _ _ _
   ·rw[Jy,show decide (z=z')=(z==z') by rw[aaL,aaD,beq_iff_eq]];exact SeqAt.EqAt.str_str _ _ _ _
theorem E2{x:Lf}{v:Value}(h:Di x v):carriedByValue v=true:=by
 cases x with
 |none=>rw[show v=.none from h];rfl
 |some k=>rcases jW h with ⟨i,t,rfl,rfl⟩|⟨z,t,rfl,rfl⟩<;>rfl
end
def Kq(w:World):Lf->Int
 |none=>4238894112
 |some k=>R6 w k
def Dj(prog:Program)(w:World):iN prog w Lf where
 is:=λ_ k v=>Di k v
 hash:=Kq w
 draws:=λ_=>1
 cP:=0
 inj:=λhx hy=>Kp prog w hx hy
 keeps:=λh _ _ _=>h
 pyHash:=λ{A E s k v Q} hu h q=>by
  cases k with
  |none =>
   have h:v=.none:=h
   subst h
   exact Ih hu q
  |some k=>exact(kU prog w).pyHash h q
 eq:=λ_ hx hy=>ON hx hy
 quiet:=λ{A E s k v Q n} _ h q=>by rw[eqIsQuiet_byValue n (E2 h)];exact aal q
section
variable{prog:Program}{w:World}{K:Type}[DecidableEq K](V:iN prog w K)
def Qd(h:Heap):Lf⊕List K->Value->Prop
 | .inl k,v=>Di k v
 | .inr ks,v=>∃a,v=.ref a/\TupIs V h ks a
def Qe:Lf⊕List K->Int
 | .inl k=>Kq w k
 | .inr ks=>xM V ks
def M3:Lf⊕List K->Nat
 | .inl _=>1
 | .inr ks=>(ks.map V.draws).sum+1
variable{V}
theorem Kr{k:Lf}{a:Addr}(h:Di k (.ref a)):False:=by
 cases k with
 |none=>cases(show Value.ref a=.none from h)
 |some k=>rcases jW h with ⟨i,t,rfl,e⟩|⟨z,t,rfl,e⟩<;>cases e
theorem Tf{A:Around}{s:Shared}{x y:Lf⊕List K}{u v:Value}(hu:A.units+(V.cP+1)<cLine)(hx:Qd V s.heap x u)(hy:Qd V s.heap y v):SeqAt.EqAt A s u v (decide (x=y)):=by
 cases x with
 |inl k =>
  cases y with
  |inl k' =>
   rw[show decide ((Sum.inl k:Lf⊕List K)=.inl k')=decide (k=k') by simp]
   exact ON hx hy
  |inr ks =>
   obtain⟨a,rfl,o,items,n,h1,h2,h3,h4⟩:=hy
   rw[aak (λq=>nomatch q)]
   cases k with
   |none =>
    have hx:u=.none:=hx
    subst hx
    exact SeqAt.EqAt.none_tuple ⟨o,h1,h2,n,h3⟩ (by omega)
   |some k =>
    rcases jW hx with ⟨i,t,rfl,rfl⟩|⟨z,t,rfl,rfl⟩
    ·exact SeqAt.EqAt.int_tuple _ _ ⟨o,h1,h2,n,h3⟩ (by omega)
    ·exact SeqAt.EqAt.str_tuple _ _ ⟨o,h1,h2,n,h3⟩ (by omega)
 |inr ks =>
  obtain⟨a,rfl,hxa⟩:=hx
  cases y with
  |inl k' =>
   obtain⟨o,items,n,h1,h2,h3,h4⟩:=hxa
   rw[aak (λq=>nomatch q)]
   cases k' with
   |none =>
    have hy:v=.none:=hy
    subst hy
    exact SeqAt.EqAt.tuple_none ⟨o,h1,h2,n,h3⟩ (by omega)
   |some k =>
    rcases jW hy with ⟨i,t,rfl,rfl⟩|⟨z,t,rfl,rfl⟩
    ·exact SeqAt.EqAt.tuple_int _ _ ⟨o,h1,h2,n,h3⟩ (by omega)
    ·exact SeqAt.EqAt.tuple_str _ _ ⟨o,h1,h2,n,h3⟩ (by omega)
  |inr ks' =>
   obtain⟨b,rfl,WG⟩:=hy
   rw[show decide ((Sum.inr ks:Lf⊕List K)=.inr ks')=decide (ks=ks') by simp]
   exact Ko hu hxa WG
def stepK(V:iN prog w K):iN prog w (Lf⊕List K) where
 is:=Qd V
 hash:=Qe V
 draws:=M3 V
 cP:=V.cP+1
 inj:=λ{h v x y} hx hy=>by
  cases x with
  |inl k =>
   cases y with
   |inl k'=>rw[Kp prog w hx hy]
   |inr ks=>obtain⟨a,rfl,_⟩:=hy;exact(Kr hx).elim
  |inr ks =>
   obtain⟨a,rfl,hxa⟩:=hx
   cases y with
   |inl k'=>exact(Kr hy).elim
   |inr ks'=>obtain⟨b,e,WG⟩:=hy;cases e;rw[hxa.inj WG]
 keeps:=λ{h h' k v d o es ep} hx ho hd hs=>by
  cases k with
  |inl k=>exact hx
  |inr ks=>obtain⟨a,rfl,hxa⟩:=hx;exact⟨a,rfl,hxa.keeps ho hd hs⟩
 pyHash:=λ{A E s k v Q} hu hx q=>by
  cases k with
  |inl k=>exact(Dj prog w).pyHash (by show A.units+0<cLine;omega) hx q
  |inr ks=>obtain⟨a,rfl,hxa⟩:=hx;exact Dh hu hxa q
 eq:=λhu hx hy=>Tf hu hx hy
 quiet:=λ{A E s k v Q n} hn hx q=>by
  cases k with
  |inl k=>exact(Dj prog w).quiet (aaM _) hx q
  |inr ks=>obtain⟨a,rfl,hxa⟩:=hx;exact Ax hn hxa q
def pH(V:iN prog w K)(hl:V.cP+1<=8):HeapKind prog w (List K) where
 is:=TupIs V
 hash:=xM V
 draws:=λks=>(ks.map V.draws).sum+1
 room:=λA=>A.units+(V.cP+1)<cLine
 inj:=λhx hy=>hx.inj hy
 keeps:=λx ho hd hs=>x.keeps ho hd hs
 pyHash:=λhu hk h=>Dh hu hk h
 eqBool:=λhu hx hy h=>Ko hu hx hy prog w _ _ h
 quiet:=λhk h=>Ax hl hk h
end
section
variable{κ:Type}[DecidableEq κ]
theorem qR.tY{o:Option V}{u:Option Value}(r:qR o u):o.isSome=u.isSome:=by
 cases o with
 |none=>cases u with
  |none=>rfl
  |some _=>exact(show False from r).elim
 |some _=>cases u with
  |none=>exact(show False from r).elim
  |some _=>rfl
theorem KV.any{kvs:List (κ×V)}{vs:List (κ×Value)}(r:KV kvs vs)(k:κ):(kvs.any λkv=>decide (kv.1=k))=vs.any λkv=>decide (kv.1=k):=by
 unfold KV at r
 induction r with
 |nil=>rfl
 |cons h t ih=>rw[abR,abR,ih,h.1]
theorem KV.length{kvs:List (κ×V)}{vs:List (κ×Value)}(r:KV kvs vs):kvs.length=vs.length:=abd r
end
theorem Tg{P:Program}{w:World}{k:Key}{u:Value}(r:RelV (kV k) u):(kU P w).is k u=true:=by
 cases k with
 |inl i=>obtain⟨t,e⟩:=(show ∃t,u=Value.int i t from r);subst e;exact CY P w i t
 |inr x=>obtain⟨t,e⟩:=(show ∃t,u=Value.str x t from r);subst e;exact CZ P w x t
section
variable{P:Program}{w:World}{H:Hp}{h:Heap}{a:Addr}
end
section
variable{X:Cx}{pins:List (Addr×Obj)}{σ:St}{H:Hp}{s:Shared}{a:Addr}{y v:V}{u r:Value}{o:Option V}{A:Around}{E:Value->Shared->Prop}
theorem Inv.big(I:Inv X pins σ H s):sysModules<s.heap.objs.size:=by
 have h:mainGlobals<s.heap.objs.size:=(I.mod.glob.keeps I.bk).lt
 exact Nat.lt_trans (by decide) h
end
section
variable{X:Cx}{pins:List (Addr×Obj)}{σ:St}{H:Hp}{s:Shared}{a:Addr}{kvs:List (Key×V)}{k:Key}{u:Value}{A:Around}{E:Value->Shared->Prop}
end
def Qf(i:Expr):Prop:=∀ov iv,subscripted i false ov iv=operate [ov,iv] (getItem ov iv)
theorem M4{prog:Program}{w:World}{A:Around}{E:Value->Shared->Prop}{s:Shared}{env:Env}{value slice:Expr}{pos:Pos}{T id:String}{Q:Value->Shared->Prop}(hl:typeLookup (.type T) "__getitem__"=pure (some (.builtin id)))(hs:Qf slice)(h:wpAny (model prog w) A (eval value env) (λo s₁=>wpAny (model prog w) A (eval slice env) (λi s₂=>s₂.TypeIs o T/\wpAny (model prog w) A (getItem o i) Q E s₂) E s₁) E s):wpAny (model prog w) A (eval (.Subscript value slice pos) env) Q E s:=by
 refine Subscript_ (abt h (λo s₁ h₁=>abt h₁ (λi s₂ h₂=>?_) λ_ _ x=>x) λ_ _ x=>x)
 obtain⟨hT,h₂⟩:=h₂
 unfold subscriptTail
 refine aah ?_
 rw[getitemInPython_of_ne hT.not_modules]
 refine aah (aa3 hT hl ?_)
 have fin:wpAny (model prog w) A (subscripted slice false o i) (λr s₃=>wpAny (model prog w) A (letTemporaryGo value o r >>= λ_=>pure r) Q E s₃) E s₂:=by
  rw[hs o i]
  exact wpAny_operating (abt h₂ (λr s₃ h₃=>aah (wpAny_letTemporaryGo (aal h₃))) λ_ _ x=>x)
 first
  |exact aal (aah fin)
  |exact aah (aal (aah fin))
  |exact aah fin
section
variable{X:Cx}{o i e value:Expr}{pos pos' tpos:Pos}{td ty tv:TE}
end
section
variable{X:Cx}{pos:Pos}
end
structure M1(X:Cx)(o:Expr)(m:Str)(apos:Pos)(e:Expr)(cpos:Pos):Prop where
 base:attributeBase o m X.env (eval o X.env)=eval o X.env
 few:((backTo cpos (starEach [e] X.env)).all (λx=>!x.1)&&(backToKw cpos (keywordEach [] X.env)).all (λx=>x.1.isSome)
  && decide (([e]:List Expr).length+([]:List Keyword).length+(if ([]:List Keyword).isEmpty then 0 else 1)<30))=true
 line:(apos.endLine==cpos.line)=true
 trees:backTo cpos (starEach [e] X.env)=[(false,eval e X.env)]
structure M2(X:Cx)(o:Expr)(m:Str)(apos:Pos)(e f:Expr)(cpos:Pos):Prop where
 base:attributeBase o m X.env (eval o X.env)=eval o X.env
 few:((backTo cpos (starEach [e,f] X.env)).all (λx=>!x.1)&&(backToKw cpos (keywordEach [] X.env)).all (λx=>x.1.isSome)
  && decide (([e,f]:List Expr).length+([]:List Keyword).length+(if ([]:List Keyword).isEmpty then 0 else 1)<30))=true
 line:(apos.endLine==cpos.line)=true
 trees:backTo cpos (starEach [e,f] X.env)=[(false,eval e X.env),(false,eval f X.env)]
section
variable{X:Cx}{pins:List (Addr×Obj)}{σ:St}{H:Hp}{s:Shared}{a:Addr}{y d:V}{u r:Value}{o:Option V}{A:Around}{E:Value->Shared->Prop}
end
section
variable{X:Cx}{o e f:Expr}{apos cpos:Pos}{td ty tx:TE}
end
section
variable{X:Cx}{pins:List (Addr×Obj)}{σ:St}{H:Hp}{s:Shared}{a:Addr}{kvs:List (Key×V)}{A:Around}{E:Value->Shared->Prop}
end
section
variable{X:Cx}{pins:List (Addr×Obj)}{σ:St}{H:Hp}{s:Shared}{a:Addr}{y:V}{u:Value}{A:Around}{E:Value->Shared->Prop}
end
def ZS:Lf->V
 |none=>.non
 |some k=>kV k
theorem nE{α β γ:Type}{F:α->β->Prop}{G:β->γ->Prop}:∀{xs:List α}{ys:List β}{zs:List γ},Paired F xs ys->Paired G ys zs->Paired (λa c=>∃b,F a b/\G b c) xs zs
 |_,_,_,.nil,.nil=>.nil
 |_,_,_,.cons a r,.cons b q=>.cons ⟨_,a,b⟩ (nE r q)
section
variable{P:Program}{w:World}{K:Type}[DecidableEq K]
structure ko(F:W.Frag)(Z:iN P w K) where
 on:Hp->K->V->Prop
 ok:∀{X:Cx}{pins:List (Addr×Obj)}{σ:St}{H:Hp}{s:Shared}{k:K}{v:V}{u:Value},X.K=F->Inv X pins σ H s->RelV v u->on H k v->Z.is s.heap k u
 keep:∀{H H':Hp}{k:K}{v:V},(∀b xs,aN F H b xs->aN F H' b xs)->on H k v->on H' k v
def mF{F:W.Frag}{Z:iN P w K}(Y:ko F Z)(H:Hp)(ks:List K)(b:Addr):Prop:=∃vs,aN F H b vs/\Paired (λk v=>Y.on H k v) ks vs
variable{F:W.Frag}{Z:iN P w K}{Y:ko F Z}{H H':Hp}{ks:List K}{b:Addr}
theorem mF.is{X:Cx}{pins:List (Addr×Obj)}{σ:St}{s:Shared}(hF:X.K=F)(I:Inv X pins σ H s)(e:mF Y H ks b):TupIs Z s.heap ks b:=by
 obtain⟨vs,e,r⟩:=e
 obtain⟨its,rv,⟨o,h1,h2,n,h3⟩,_⟩:=I.tuple (by rw[hF];exact e)
 exact⟨o,its.toArray,n,h1,h2,h3,by simpa using Paired.HG (nE r rv) (λk u ⟨v,a,c⟩=>Y.ok hF I c a)⟩
theorem mF.keep(t:∀b xs,aN F H b xs->aN F H' b xs)(e:mF Y H ks b):mF Y H' ks b:=by
 obtain⟨vs,e,r⟩:=e
 exact⟨vs,t _ _ e,Paired.HG r λk v q=>Y.keep t q⟩
theorem mF.mono(s:∀a o,H a=some o->H' a=some o)(e:mF Y H ks b):mF Y H' ks b:=e.keep λb xs q=>by
 rcases q with (q|⟨o,q⟩)|q
 ·exact .inl (.inl (s _ _ q))
 ·exact .inl (.inr ⟨o,s _ _ q⟩)
 ·exact .inr q
end
def Ks(P:Program)(w:World)(F:W.Frag):ko F (Dj P w) where
 on:=λ_ k v=>v=ZS k
 ok:=λ{X pins σ H s k v u} _ _ r e=>by
  subst e
  cases k with
  |none=>cases r;rfl
  |some k=>exact Tg (P:=P) (w:=w) r
 keep:=λ_ e=>e
section
variable{P:Program}{w:World}{K:Type}[DecidableEq K]
def WH{F:W.Frag}{Z:iN P w K}(Y:ko F Z)(H:Hp):Lf⊕List K->V->Prop
 | .inl k,v=>v=ZS k
 | .inr ks,v=>∃b,v=.ref b/\mF Y H ks b
def mG{F:W.Frag}{Z:iN P w K}(Y:ko F Z):ko F (stepK Z) where
 on:=WH Y
 ok:=λ{X pins σ H s k v u} hF I r e=>by
  cases k with
  |inl k=>exact(Ks P w F).ok hF I r e
  |inr ks =>
   obtain⟨b,rfl,e⟩:=e
   cases r
   exact⟨b,O,e.is hF I⟩
 keep:=λ{H H' k v} t e=>by
  cases k with
  |inl k=>exact e
  |inr ks=>obtain⟨b,rfl,e⟩:=e;exact⟨b,rfl,e.keep t⟩
abbrev N3(K:Type):=List K×Addr×V
abbrev tZ:List (N3 K)->List (List K×Addr×Value)->Prop:=Paired λp q=>p.1=q.1/\p.2.1=q.2.1/\RelV p.2.2 q.2.2
def Ay(Z:iN P w K)(hl:Z.cP+1<=8)(a:Addr)(kvs:List (N3 K))(h:Heap):Prop :=
 kvs.length<=sizeLine/\(a==sysModules)=false/\∃xs,tZ kvs xs/\∃o es ep,h.get? a=some o/\o.ExactDict/\o.data=.dict es ep/\es.toList=xs.map (entryOfKey (pH Z hl))/\(xs.map (·.1)).Nodup
def dN(Z:iN P w K)(hl:Z.cP+1<=8)(a:Addr)(kvs:List (N3 K)):HO:=.ext (Ay Z hl a kvs)
structure Nd{F:W.Frag}{Z:iN P w K}(Y:ko F Z)(hl:Z.cP+1<=8)(H:Hp)(a:Addr)(kvs:List (N3 K)):Prop where
 ob:H a=some (dN Z hl a kvs)
 keys:∀e∈kvs,mF Y H e.1 e.2.1
variable{F:W.Frag}{Z:iN P w K}{Y:ko F Z}{hl:Z.cP+1<=8}{H H':Hp}{h:Heap}{a b:Addr}{kvs:List (N3 K)}
theorem Nd.mono(s:∀a o,H a=some o->H' a=some o)(d:Nd Y hl H a kvs):Nd Y hl H' a kvs:=⟨s _ _ d.ob,λe he=>(d.keys e he).mono s⟩
theorem Dk{xs:List (List K×Addr×Value)}:∀{kvs:List (N3 K)},tZ kvs xs->∀q∈xs,∃p∈kvs,p.1=q.1/\p.2.1=q.2.1:=by
 intro kvs r
 induction r with
 |nil=>intro q hq;cases hq
 |cons a r ih =>
  intro q hq
  rcases aaB.mp hq with rfl|hq
  ·exact⟨_,aaE ..,a.1,a.2.1⟩
  ·obtain⟨p,hp,e⟩:=ih q hq
   exact⟨p,aay _ hp,e⟩
theorem Nd.of{X:Cx}{K:Type}[DecidableEq K]{F:W.Frag}{Z:iN X.prog X.w K}{Y:ko F Z}{hl:Z.cP+1<=8}{H:Hp}{a:Addr}{kvs:List (N3 K)}{pins:List (Addr×Obj)}{σ:St}{s:Shared}(hF:X.K=F)(I:Inv X pins σ H s)(d:Nd Y hl H a kvs):kvs.length<=sizeLine/\(a==sysModules)=false/\∃xs,tZ kvs xs/\s.heap.DictOfH (pH Z hl) a xs:=by
 obtain⟨⟨z,y,xs,r,o,es,ep,h1,h2,h3,h4,h5⟩,_⟩:=(show cU X.prog X.w H s.heap a (dN Z hl a kvs) from I.hok a _ d.ob)
 refine⟨z,y,xs,r,o,es,ep,h1,h2,h3,h4,λx hx=>?_,h5⟩
 obtain⟨p,hp,e1,e2⟩:=Dk r x hx
 have:=(d.keys p hp).is hF I
 rw[e1,e2]at this
 exact this
theorem G0{h':Heap}{xs:List (List K×Addr×Value)}(z:kvs.length<=sizeLine)(y:(a==sysModules)=false)(r:tZ kvs xs)(dd:h'.DictOfH (pH Z hl) a xs):cU P w H h' a (dN Z hl a kvs):=by
 obtain⟨o,es,ep,h1,h2,h3,h4,_,h5⟩:=dd
 refine⟨⟨z,y,xs,r,o,es,ep,h1,h2,h3,h4,h5⟩,⟨o,h1⟩,λg1 g2 q k=>?_⟩
 obtain⟨z,y,xs,r,o,es,ep,h1,h2,h3,h4,h5⟩:=q
 exact⟨z,y,xs,r,o,es,ep,k _ h1,h2,h3,h4,h5⟩
def valN(kvs:List (N3 K))(k:List K):Option V:=(kvs.find? λx=>decide (x.1=k)).map (·.2.2)
theorem nF{k:List K}:∀{kvs:List (N3 K)}{xs:List (List K×Addr×Value)},tZ kvs xs->qR (valN kvs k) ((atKey xs k).map (·.2))
 |_,_,.nil=>trivial
 |p::kvs,q::xs,.cons a r=>by
  have ih:=nF (k:=k) r
  unfold valN atKey at ih⊢
  rw[abC,abC,a.1]
  by_cases e:q.1=k
  ·rw[aas e];exact a.2.2
  ·rw[aak e];exact ih
def putN(kvs:List (N3 K))(k:List K)(b:Addr)(v:V):List (N3 K):=if (valN kvs k).isSome=true then kvs.map (λx=>if x.1=k then (x.1,x.2.1,v) else x) else kvs++[(k,b,v)]
theorem qY{k:List K}{v:V}(h:valN kvs k=none):putN kvs k b v=kvs++[(k,b,v)]:=by unfold putN;rw[h];rfl
theorem Dm{k:List K}{v:V}{u:Value}(rv:RelV v u):∀{kvs:List (N3 K)}{xs:List (List K×Addr×Value)},tZ kvs xs->tZ (kvs.map (λx=>if x.1=k then (x.1,x.2.1,v) else x)) (xs.map (putAt k u))
 |_,_,.nil=>.nil
 |p::kvs,q::xs,.cons a r=>by
  refine .cons ?_ (Dm rv r)
  unfold putAt
  by_cases e:q.1=k
  ·rw[aaj e,show(λx:N3 K=>if x.1=k then (x.1,x.2.1,v) else x) p=(p.1,p.2.1,v) from aaj (a.1.trans e)];exact⟨a.1,a.2.1,rv⟩
  ·rw[aai e,show(λx:N3 K=>if x.1=k then (x.1,x.2.1,v) else x) p=p from aai (λq=>e (a.1.symm.trans q))];exact a
theorem Dn{kvs':List (N3 K)}{xs':List (List K×Addr×Value)}:∀{kvs:List (N3 K)}{xs:List (List K×Addr×Value)},tZ kvs xs->tZ kvs' xs'->tZ (kvs++kvs') (xs++xs')
 |_,_,.nil,q=>q
 |_,_,.cons a r,q=>.cons a (Dn r q)
theorem Ku{k:List K}{v:V}{u:Value}{xs:List (List K×Addr×Value)}(r:tZ kvs xs)(rv:RelV v u):tZ (putN kvs k b v) (storedH xs k b u):=by
 have q:=(nF (k:=k) r).tY
 rw[Option.isSome_map]at q
 unfold putN storedH
 by_cases e:(valN kvs k).isSome=true
 ·rw[aaj e,aaj (by rw[←q];exact e)];exact Dm rv r
 ·rw[aai e,aai (by rw[←q];exact e)];exact Dn r (.cons ⟨rfl,rfl,rv⟩ .nil)
theorem Kv{k:List K}{v:V}:(putN kvs k b v).length<=kvs.length+1:=by
 unfold putN
 split
 ·rw[aav];omega
 ·rw[aao];exact aan _
theorem nG(d:H a=some (dN Z hl a kvs)){o:HO}:∀c xs,aN F H c xs->aN F (upd H a o) c xs:=λc xs e=>by
 rcases e with (e|⟨ob,e⟩)|e
 ·exact .inl (.inl ((aH (mE e d (λq=>nomatch q))).trans e))
 ·exact .inl (.inr ⟨ob,(aH (mE e d (λq=>nomatch q))).trans e⟩)
 ·exact .inr e
theorem Nd.put{k:List K}{v:V}(d:Nd Y hl H a kvs)(e:mF Y H k b):Nd Y hl (upd H a (dN Z hl a (putN kvs k b v))) a (putN kvs k b v):=by
 refine⟨ak,λp hp=>?_⟩
 have t:=nG (F:=F) d.ob (o:=dN Z hl a (putN kvs k b v))
 unfold putN at hp
 split at hp
 ·obtain⟨x,hx,rfl⟩:=aaY.mp hp
  have:=(d.keys x hx).keep t
  split<;>exact this
 ·rcases aaC.mp hp with q|q
  ·exact(d.keys p q).keep t
  ·rw[aat.mp q];exact e.keep t
end
section
variable{X:Cx}{K:Type}[DecidableEq K]{F:W.Frag}{Z:iN X.prog X.w K}{Y:ko F Z}{hl:Z.cP+1<=8}{pins:List (Addr×Obj)}{σ:St}{H:Hp}{s:Shared}{a b:Addr}{kvs:List (N3 K)}{k:List K}{v:V}{r:Value}{A:Around}{E:Value->Shared->Prop}
theorem Ii{Q:Value->Shared->Prop}(hu:A.units+1+(Z.cP+1)<cLine)(hF:X.K=F)(I:Inv X pins σ H s)(d:Nd Y hl H a kvs)(e:mF Y H k b)(g:valN kvs k=some v)(h:∀w' s',Inv X pins σ H s'->RelV v w'->Q w' s'):wpAny (model X.prog X.w) A (getItem (.ref a) (.ref b)) Q E s:=by
 obtain⟨z,y,xs,rel,dd⟩:=d.of hF I
 obtain⟨w',hw,rw'⟩:=qR.some_of (v:=v) (o:=(atKey xs k).map (·.2)) (by rw[←g];exact nF rel)
 obtain⟨p,hp,hp2⟩:=Option.map_eq_some_iff.mp hw
 refine wpAny_getItem_heap (knd:=pH Z hl) hu (e.is hF I) dd hp ?_
 rw[hp2]
 exact h w' _ (I.tok _) rw'
theorem M5{Q:Value->Shared->Prop}(hu:A.units+1+(Z.cP+1)<cLine)(hF:X.K=F)(I:Inv X pins σ H s)(d:Nd Y hl H a kvs)(e:mF Y H k b)(h:∀s',Inv X pins σ H s'->Q (.bool (!(valN kvs k).isSome)) s'):wpAny (model X.prog X.w) A (compareOp .NotIn (.ref b) (.ref a)) Q E s:=by
 obtain⟨z,y,xs,rel,dd⟩:=d.of hF I
 refine wpAny_notIn_heap (knd:=pH Z hl) hu (e.is hF I) y dd ?_
 have q:=(nF (k:=k) rel).tY
 rw[Option.isSome_map]at q
 rw[←q]
 exact h _ (I.tok _)
theorem Ij{Q:Unit->Shared->Prop}(hu:A.units+1+(Z.cP+1)<cLine)(hF:X.K=F)(I:Inv X pins σ H s)(d:Nd Y hl H a kvs)(e:mF Y H k b)(hz:kvs.length<sizeLine)(rv:RelV v r)(h:∀s',Inv X pins σ (upd H a (dN Z hl a (putN kvs k b v))) s'->Q () s'):wpAny (model X.prog X.w) A (setItem (.ref a) (.ref b) r) Q E s:=by
 obtain⟨z,y,xs,rel,dd⟩:=d.of hF I
 have hxz:xs.length<=sizeLine:=by rw[←abd rel];exact z
 refine wpAny_setItem_heap (knd:=pH Z hl) (hsz:=hxz) hu (e.is hF I) dd λh' Qg hs=>h _ ?_
 have he:∃q,h'.get? a=some q:=let ⟨q,_,_,hq,_⟩:=Qg;⟨q,hq⟩
 have:=Kv (kvs:=kvs) (k:=k) (b:=b) (v:=v)
 exact I.write (x:=a) (e:=a) (by rw[d.ob];exact True.intro) (.inl rfl) (λc q hc z=>(hs.2 c hc).trans z) he (G0 (by omega) y (Ku rel rv) Qg)
variable{o i value kx:Expr}{pos pos':Pos}{td ty tv:TE}
def OO{P:Program}{w:World}{K:Type}[DecidableEq K]{F:W.Frag}{Z:iN P w K}(Y:ko F Z)(hl:Z.cP+1<=8)(td ty:TE):TE:=λσ H Q=>td σ H λx H1=>ty σ H1 λy H2=>∃a kvs k b v,x=.ref a/\y=.ref b/\Nd Y hl H2 a kvs/\mF Y H2 k b/\valN kvs k=some v/\Q v H2
def G6{P:Program}{w:World}{K:Type}[DecidableEq K]{F:W.Frag}{Z:iN P w K}(Y:ko F Z)(hl:Z.cP+1<=8)(ty td:TE):TE:=λσ H Q=>ty σ H λy H1=>td σ H1 λx H2=>∃a kvs k b,x=.ref a/\y=.ref b/\Nd Y hl H2 a kvs/\mF Y H2 k b/\Q (.bl (!(valN kvs k).isSome)) H2
def OP{P:Program}{w:World}{K:Type}[DecidableEq K]{F:W.Frag}{Z:iN P w K}(Y:ko F Z)(hl:Z.cP+1<=8)(td ty tv:TE):TS:=λD σ H=>tv σ H λv H1=>td σ H1 λx H2=>ty σ H2 λy H3=>∃a kvs k b,x=.ref a/\y=.ref b/\Nd Y hl H3 a kvs/\mF Y H3 k b/\kvs.length<sizeLine/\D.nx σ (upd H3 a (dN Z hl a (putN kvs k b v)))
def OQ{P:Program}{w:World}{K:Type}[DecidableEq K]{F:W.Frag}{Z:iN P w K}(Y:ko F Z)(hl:Z.cP+1<=8)(tk tv:TE):TE:=λσ H Q=>∀p,H p=none->tk σ (upd H p (dN Z hl p [])) λy H1=>tv σ H1 λv H2=>∃k b,y=.ref b/\H2 p=some (dN Z hl p [])/\mF Y H2 k b/\Q (.ref p) (upd H2 p (dN Z hl p [(k,b,v)]))
theorem M6(Y:ko F Z)(hl:Z.cP+1<=8)(hF:X.K=F)(hu:X.A.units+1+(Z.cP+1)<cLine)(ho:PE X o td)(hi:PE X i ty)(hs:Qf i):PE X (.Subscript o i pos) (OO Y hl td ty):=by
 intro pins s σ H Q I h
 refine M4 PySem.F.slot_dict_getitem.lookup hs (cy (ho pins s σ H _ I h) λu s1 ⟨x,H1,I1,rx,q1⟩=>cy (hi pins s1 σ H1 _ I1 q1) λiv s2 ⟨y,H2,I2,ry,a,kvs,k,b,v,ex,ey,d,e,g,q2⟩=>?_)
 subst ex ey
 obtain rfl:u=Value.ref a:=rx
 obtain rfl:iv=Value.ref b:=ry
 obtain⟨_,_,xs,_,dd⟩:=d.of hF I2
 exact⟨dd.typeIs,Ii hu hF I2 d e g λw' s3 I3 rw'=>⟨v,H2,I3,rw',q2⟩⟩
theorem Ik(Y:ko F Z)(hl:Z.cP+1<=8)(hF:X.K=F)(hu:X.A.units+1+(Z.cP+1)<cLine)(hi:PE X i ty)(ho:PE X o td):PC X .NotIn i o (G6 Y hl ty td):=by
 intro pins s σ H Q I h
 refine cy (hi pins s σ H _ I h) λiv s1 ⟨y,H1,I1,ry,q1⟩=>cy (ho pins s1 σ H1 _ I1 q1) λu s2 ⟨x,H2,I2,rx,a,kvs,k,b,ex,ey,d,e,q2⟩=>?_
 subst ex ey
 obtain rfl:u=Value.ref a:=rx
 obtain rfl:iv=Value.ref b:=ry
 exact M5 hu hF I2 d e λs3 I3=>⟨.bl (!(valN kvs k).isSome),H2,I3,rfl,q2⟩
theorem M7(Y:ko F Z)(hl:Z.cP+1<=8)(hF:X.K=F)(hu:X.A.units+1+(Z.cP+1)<cLine)(ho:PE X o td)(hi:PE X i ty)(hv:PE X value tv)(hs:swapsWith value (some (.Subscript o i pos')) pos.line X.env=pure false):PS X (.Assign [.Subscript o i pos'] value pos) (OP Y hl td ty tv):=by
 intro pins s σ H D I h
 refine wpAny_Assign_Subscript (cy (hv pins s σ H _ I h) λr s1 ⟨v,H1,I1,rv,q1⟩=>cy (ho pins s1 σ H1 _ I1 q1) λu s2 ⟨x,H2,I2,rx,q2⟩=>cy (hi pins s2 σ H2 _ I2 q2) λiv s3 ⟨y,H3,I3,ry,a,kvs,k,b,ex,ey,d,e,hz,q3⟩=>?_) hs
 subst ex ey
 obtain rfl:u=Value.ref a:=rx
 obtain rfl:iv=Value.ref b:=ry
 exact Ij hu hF I3 d e hz rv λs4 I4=>⟨σ,_,I4,q3⟩
theorem Kw(Y:ko F Z)(hl:Z.cP+1<=8)(hF:X.K=F)(hu:X.A.units+(Z.cP+1)<cLine){tk:TE}(hk:PE X kx tk)(hv:PE X value tv):PE X (.Dict [some kx] [value] pos) (OQ Y hl tk tv):=by
 intro pins s σ H Q I q
 have hn:=I.hok.fresh (aan s.heap.objs.size)
 have y0:(s.heap.objs.size==sysModules)=false:=abF.mpr (abD (aaR I.big))
 have I1:=I.laid (a:=s.heap.objs.size) (o:=dN Z hl s.heap.objs.size []) (h':=s.heap.push {cls:=.type "dict",data:=.dict #[]}) (t':=s.toks) (λ_ _ q=>aar _ q) (aan _) (G0 (xs:=[]) (aaM _) y0 .nil (Heap.DictOfH.new s.heap))
 refine wpAny_Dict_any rfl rfl (λz=>nomatch z) (by show 1<=15;decide) (pairTrees_cons_walk (cy (hk pins _ σ _ _ I1 (q _ hn)) λu s1 ⟨x,H1,I1',rx,q1⟩=>cy (hv pins s1 σ H1 _ I1' q1) λvu s2 ⟨v,H2,I2,rv,k,b,ex,e,ek,q2⟩=>pairTrees_nil_walk ?_))
 subst ex
 obtain rfl:u=Value.ref b:=rx
 have d0:Nd Y hl H2 s.heap.objs.size []:=⟨e,λx hx=>nomatch hx⟩
 obtain⟨z,y,xs,rel,dd⟩:=d0.of hF I2
 cases rel
 unfold storeAll
 refine wpAny_forIn_list _ (λrest _ s'=>(rest=[(Value.ref b,vu)]/\s'=s2)\/(rest=[]/\EP X pins σ Q (Value.ref s.heap.objs.size) s')) _ ?_ ?_ _ _ (.inl ⟨rfl,rfl⟩)
 ·rintro x rest u s' (⟨e1,rfl⟩|⟨e1,_⟩)
  ·cases e1
   refine aah (wpAny_dictSet_heap (knd:=pH Z hl) (hsz:=aaM _) hu (ek.is hF I2) dd λh' Qg hs=>aal (.inr ⟨rfl,.ref s.heap.objs.size,_,?_,rfl,q2⟩))
   have he:∃q,h'.get? s.heap.objs.size=some q:=let ⟨q,_,_,hq,_⟩:=Qg;⟨q,hq⟩
   exact I2.write (x:=s.heap.objs.size) (e:=s.heap.objs.size) (by rw[e];exact True.intro) (.inl rfl) (λc q hc z=>(hs.2 c hc).trans z) he (G0 (by show 1<=sizeLine;decide) y (.cons ⟨rfl,rfl,rv⟩ .nil) Qg)
  ·cases e1
 ·rintro u s' (⟨e1,_⟩|⟨_,q⟩)
  ·cases e1
  ·exact q
end
section
variable{X:Cx}{K:Type}[DecidableEq K]{F:W.Frag}{Z:iN X.prog X.w K}
def WI{P:Program}{w:World}{K:Type}[DecidableEq K]{F:W.Frag}{Z:iN P w K}(Y:ko F Z):R2:=λx y H Q=>∃b b' ks ks',x=.ref b/\y=.ref b'/\mF Y H ks b/\mF Y H ks' b'/\Q (.bl (decide (ks=ks'))) H
theorem t7(Y:ko F Z)(hF:X.K=F)(hu:X.A.units+(Z.cP+1)<cLine):jx X (compareOp .Eq) (WI Y):=by
 intro pins s σ H x y v u Q I rx ry h
 obtain⟨b,b',ks,ks',rfl,rfl,e1,e2,q⟩:=h
 cases rx;cases ry
 obtain⟨o,items,n,h1,h2,h3,h4⟩:=e1.is hF I
 obtain⟨o',items',n',Qc,h2',h3',M0⟩:=e2.is hF I
 have l1:ks.length=items.size:=by rw[abd h4,aap]
 have l2:ks'.length=items'.size:=by rw[abd M0,aap]
 refine SeqAt.eq_tupleAt (e:=λj=>decide (ks[j]?=ks'[j]?)) ⟨o,h1,h2,n,h3⟩ ⟨o',Qc,h2',n',h3'⟩ (by omega) (λj j1 j2=>?_) ⟨.bl (decide (ks=ks')),H,I,?_,q⟩
 ·obtain⟨k,ek,hk⟩:=fL h4 j items[j] (by simp[j1])
  obtain⟨k',Te,hk'⟩:=fL M0 j items'[j] (by simp[j2])
  rw[ek,Te,show decide (some k=some k')=decide (k=k') by simp]
  exact Z.eq (by show X.A.units+1+Z.cP<cLine;omega) hk hk'
 ·show Value.bool _=Value.bool _
  rw[←l1,←l2,qd]
end
abbrev ZM(P:Program)(w:World):=stepK (Dj P w)
abbrev YL(P:Program)(w:World)(F:W.Frag):=Ks P w F
abbrev YM(P:Program)(w:World)(F:W.Frag):ko F (ZM P w):=mG (Ks P w F)
theorem bV(P:Program)(w:World):(ZM P w).cP+1<=8:=by show 2<=8;decide
theorem hn0{A:Around}{P:Program}{w:World}(h:A.units+64<cLine):A.units+((Dj P w).cP+1)<cLine:=by show A.units+1<cLine;omega
theorem hn1{A:Around}{P:Program}{w:World}(h:A.units+64<cLine):A.units+((ZM P w).cP+1)<cLine:=by show A.units+2<cLine;omega
theorem hn2{A:Around}{P:Program}{w:World}(h:A.units+64<cLine):A.units+1+((ZM P w).cP+1)<cLine:=by show A.units+1+2<cLine;omega
def kB(k s:Str):List Lf:=[some (.inr k),some (.inr s)]
theorem iX{k s k' s':Str}:kB k s=kB k' s'↔(k,s)=(k',s'):=by
 unfold kB
 constructor
 ·intro h;injection h with h1 h2;injection h2 with h2 _;injection h1 with h1;injection h2 with h2;injection h1 with h1;injection h2 with h2;rw[h1,h2]
 ·intro h;injection h with h1 h2;rw[h1,h2]
section
variable{P:Program}{w:World}{F:W.Frag}{H:Hp}
theorem iT{a:Addr}{k s:Str}(h:aN F H a [.str k,.str s]):mF (YL P w F) H (kB k s) a:=⟨_,h,.cons rfl (.cons rfl .nil)⟩
end
section
variable{X:Cx}{P:Program}{w:World}{K:Type}[DecidableEq K]{F:W.Frag}{Z:iN P w K}{o i value kx:Expr}{pos pos':Pos}{td ty tv tk:TE}
theorem Dp(Y:ko F Z)(hl:Z.cP+1<=8)(hP:X.prog=P)(hw:X.w=w)(hF:X.K=F)(hu:X.A.units+1+(Z.cP+1)<cLine)(ho:PE X o td)(hi:PE X i ty)(hs:Qf i):PE X (.Subscript o i pos) (OO Y hl td ty):=by
 subst hP hw;exact M6 Y hl hF hu ho hi hs
theorem E3(Y:ko F Z)(hl:Z.cP+1<=8)(hP:X.prog=P)(hw:X.w=w)(hF:X.K=F)(hu:X.A.units+1+(Z.cP+1)<cLine)(hi:PE X i ty)(ho:PE X o td):PC X .NotIn i o (G6 Y hl ty td):=by
 subst hP hw;exact Ik Y hl hF hu hi ho
theorem Dq(Y:ko F Z)(hl:Z.cP+1<=8)(hP:X.prog=P)(hw:X.w=w)(hF:X.K=F)(hu:X.A.units+1+(Z.cP+1)<cLine)(ho:PE X o td)(hi:PE X i ty)(hv:PE X value tv)(hs:swapsWith value (some (.Subscript o i pos')) pos.line X.env=pure false):PS X (.Assign [.Subscript o i pos'] value pos) (OP Y hl td ty tv):=by
 subst hP hw;exact M7 Y hl hF hu ho hi hv hs
theorem Il(Y:ko F Z)(hl:Z.cP+1<=8)(hP:X.prog=P)(hw:X.w=w)(hF:X.K=F)(hu:X.A.units+(Z.cP+1)<cLine)(hk:PE X kx tk)(hv:PE X value tv):PE X (.Dict [some kx] [value] pos) (OQ Y hl tk tv):=by
 subst hP hw;exact Kw Y hl hF hu hk hv
end
section
variable{X:Cx}
def Th(K:W.Frag):R2:=λx y H Q=>((x=.non/\∃a xs,y=.ref a/\bK K H a xs)\/(y=.non/\∃a xs,x=.ref a/\bK K H a xs))/\Q (.bl true) H
theorem Qh(K:W.Frag)(hK:X.K=K)(hu:X.A.units<cLine):jx X (compareOp .NotEq) (Th K):=by
 subst hK
 intro pins s σ H x y v u Q I rx ry h
 obtain⟨h,q⟩:=h
 rcases h with ⟨rfl,a,xs,rfl,ha⟩|⟨rfl,a,xs,rfl,ha⟩
 ·cases rx;cases ry
  obtain⟨its,r1,p1,_⟩:=I.list ha
  show wpAny _ _ (richCompare .NotEq .none (.ref a)) _ _ _
  exact SeqAt.RcNeAt.none_list p1.isList hu _ _ _ _ ⟨.bl true,H,I,rfl,q⟩
 ·cases rx;cases ry
  obtain⟨its,r1,p1,_⟩:=I.list ha
  show wpAny _ _ (richCompare .NotEq (.ref a) .none) _ _ _
  exact SeqAt.RcNeAt.list_none p1.isList hu _ _ _ _ ⟨.bl true,H,I,rfl,q⟩
theorem yf:jx X (compareOp .Is) (λx y H Q=>∃a b,x=.bl a/\y=.bl b/\Q (.bl (a==b)) H):=by
 intro pins s σ H x y v u Q I rx ry h
 obtain⟨a,b,rfl,rfl,q⟩:=h
 cases rx
 cases ry
 refine wpAny_is_plain (by cases a<;>cases b<;>rfl) (bg I q ?_)
 cases a<;>cases b<;>rfl
end
section
variable{X:Cx}
end
section
variable{X:Cx}{K:Type}[DecidableEq K]{F:W.Frag}{Z:iN X.prog X.w K}
def WJ{P:Program}{w:World}{K:Type}[DecidableEq K]{F:W.Frag}{Z:iN P w K}(Y:ko F Z):R2:=λx y H Q=>∃b b' ks ks',x=.ref b/\y=.ref b'/\mF Y H ks b/\mF Y H ks' b'/\Q (.bl (!decide (ks=ks'))) H
theorem E4(Y:ko F Z)(hF:X.K=F)(hu:X.A.units+(Z.cP+1)<cLine):jx X (compareOp .NotEq) (WJ Y):=by
 intro pins s σ H x y v u Q I rx ry h
 obtain⟨b,b',ks,ks',rfl,rfl,e1,e2,q⟩:=h
 cases rx;cases ry
 obtain⟨o,items,n,h1,h2,h3,h4⟩:=e1.is hF I
 obtain⟨o',items',n',Qc,h2',h3',M0⟩:=e2.is hF I
 have l1:ks.length=items.size:=by rw[abd h4,aap]
 have l2:ks'.length=items'.size:=by rw[abd M0,aap]
 show wpAny _ _ (richCompare .NotEq (.ref b) (.ref b')) _ _ _
 refine SeqAt.RcNeAt.tuples (e:=λj=>decide (ks[j]?=ks'[j]?)) ⟨o,h1,h2,n,h3⟩ ⟨o',Qc,h2',n',h3'⟩ (by omega) (λj j1 j2=>?_) _ _ _ _ ⟨.bl (!decide (ks=ks')),H,I,?_,q⟩
 ·obtain⟨k,ek,hk⟩:=fL h4 j items[j] (by simp[j1])
  obtain⟨k',Te,hk'⟩:=fL M0 j items'[j] (by simp[j2])
  rw[ek,Te,show decide (some k=some k')=decide (k=k') by simp]
  exact Z.eq (by show X.A.units+1+Z.cP<cLine;omega) hk hk'
 ·show Value.bool _=Value.bool _
  rw[←l1,←l2,qd]
end
section
variable{prog:Program}{w:World}{A:Around}{E:Value->Shared->Prop}{s:Shared}
theorem wj{R:Result->Shared->Prop}(hh:A.handled=none){I l:Addr}{items:List Value}(hne:l≠I)(hit:s.heap.IsRevIter I l ((items.toArray.size:Int)-1))(hl:s.heap.IsList l items.toArray)(hn:items.toArray.size<=sizeLine)(hR:∀h' tk acc' c',(∀b o,b≠I->s.heap.get? b=some o->h'.get? b=some o)->h'.get? s.heap.objs.size=some {cls:=.type "list",dict:=none,data:=.seq acc' c',slots:=#[]}->acc'.toList=items.reverse->R (.ok (.ret (.ref s.heap.objs.size))) {s with heap:=h',toks:=tk}):codeAny (model prog w) A (.builtin "proto.collect" ⟨[.ref I],[]⟩) R s:=by
 refine codeAny_builtin F.entry_proto_collect ?_;rw[Around.under_plainId F.plain_proto_collect _]
 show wpAny _ A.in1 (newList [] >>= λl=>again (.builtin "list.__iadd__" ⟨[l,.ref I],[]⟩)) _ _ s;refine aah (aaT ?_)
 refine aal ⟨plainId_quiet F.plain_list_iadd _,codeAny_builtin F.entry_list_iadd ?_⟩
 rw[Around.under_plainId F.plain_list_iadd _]
 have hS:(s.heap.push {cls:=.type "list",data:=.seq #[]}).get? s.heap.objs.size=some {cls:=.type "list",data:=.seq #[]}:=aaz _ rfl
 have hlt:l<s.heap.objs.size:=by obtain⟨o,ho,_⟩:=hl;exact aaw ho
 show wpAny _ A.in1 (Builtin.List.listExtendWith (.ref s.heap.objs.size) (.ref I) (.ref s.heap.objs.size)) _ _ _
 exact EX (R:=R) (s:={s with heap:=s.heap.push {cls:=.type "list",data:=.seq #[]}}) hh hne (hit.at λo e=>aar _ e) (hl.at λo e=>aar _ e) _ (Nat.ne_of_gt hlt) _ _ hS hn λh' tk acc' c' hk hS' hacc =>
  hR h' tk acc' c' (λb o hb e=>hk b o (aaR (aaw e)) hb (aar _ e)) hS' (HY hacc)
theorem Dr{Q:List Value->Shared->Prop}(hh:A.handled=none){I l:Addr}{items:List Value}(hne:l≠I)(hit:s.heap.IsRevIter I l ((items.toArray.size:Int)-1))(hl:s.heap.IsList l items.toArray)(hn:items.toArray.size<=sizeLine)(hQ:∀h' tk,(∀b o,b≠I->s.heap.get? b=some o->h'.get? b=some o)->Q items.reverse {s with heap:=h',toks:=tk}):wpAny (model prog w) A (collect (.ref I)) Q E s:=by
 unfold collect
 refine aah (wpAny_runValue (wj hh hne hit hl hn λh' tk acc' c' hk hS' hacc=>?_))
 show wpAny _ A (load s.heap.objs.size >>= _) _ _ _
 refine aah (wpAny_load hS' (aal ?_))
 show Q acc'.toList _
 rw[hacc]
 exact hQ h' tk hk
theorem Ky{x:Str}{t:Tok}{Q:Value->Shared->Prop}(hh:A.handled=none){I l:Addr}{items:List Value}{ys:List Str}(hne:l≠I)(hit:s.heap.IsRevIter I l ((items.toArray.size:Int)-1))(hl:s.heap.IsList l items.toArray)(hn:items.toArray.size<=sizeLine)(hi:StrsAre items.reverse ys)(hok:(ys.map (·.length)).sum+ys.length*x.length<=16777216)(hQ:∀h' t' k,(∀b o,b≠I->s.heap.get? b=some o->h'.get? b=some o)->Q (.str (Txt.join x ys) t') {s with heap:=h',toks:=k}):wpAny (model prog w) A (call (.builtin "str.join") [.str x t,.ref I]) Q E s:=by
 refine wpAny_call (codeAny_call_builtin F.slot_str_join.plain F.entry_str_join (F.slot_str_join.check _ _ _ _ _ _ _ _ (typeIs_str _ _ _) (F.args_str_join_2 _ _) ?_))
 rw[join_tree_other]
 refine aah (wpAny_typeOf hit.typeIs ?_)
 show wpAny _ A.in1 ((pyIter (.ref I)).tryCatch _ >>= λit=>collect it >>= λitems=>joinTail x items) _ _ s
 refine aah (wpAny_tryCatch (wpAny_pyIter_revIter hit ?_))
 refine aah (Dr (A:=A.in1) hh hne hit hl hn λh' tk hk=>?_)
 obtain⟨lt,hv,ht⟩:=strsAre_values hi
 rw[hv]
 have ok:=joinOk_of hok
 subst ht
 unfold JoinOk at ok
 rw[Bool.not_eq_true']at ok
 have g:Gives (joinTail x (strValues lt)) (joinMade x lt):=by
  have g0:=gives_joinTail x lt ok
  cases lt with
  |nil=>exact g0
  |cons p r=>cases r with
   |nil=>exact g0
   |cons q r'=>exact g0
 exact g prog w A (wants Q E) _ (post_join lt ⟨joinFit_length ok,λt' k=>hQ h' t' k hk⟩)
end
section
variable{X:Cx}{e:Expr}
def Ds(K:W.Frag)(tx:TE)(ta:TA):TE:=λσ H Q=>tx σ H λx H0=>∃z,x=.str z/\ta σ H0 λvs H1=>∃p,∃ys:List Str,vs=[.ref p]/\bK K H1 p (ys.map V.str)/\(ys.map (·.length)).sum+ys.length*z.length<=16777216/\Q (.str (Txt.join z ys.reverse)) H1
theorem qe:∀{its:List Value}{ys:List Str},Vals (ys.map V.str) its->StrsAre its ys
 |_,[],h=>by cases h;exact .nil
 |_,y::ys,h=>by cases h with|cons a b=>obtain⟨t,rfl⟩:=a;exact .cons _ _ (qe b)
theorem E5{o:Expr}{apos p2 pos2 cpos:Pos}{tx:TE}{ta:TA}(hc:X.calm=true)(Ti:Gl X "reversed")(hm2:X.mg "reversed"=none)(hx:PE X o tx)(ha:PA X [e] ta)(hbase:attributeBase o "join" X.env (eval o X.env)=eval o X.env:=by rfl)(hfew:((backTo cpos (starEach [.Call (.Name "reversed" p2) [e] [] pos2] X.env)).all (λx=>!x.1)&&(backToKw cpos (keywordEach [] X.env)).all (λx=>x.1.isSome)
   && decide (([.Call (.Name "reversed" p2) [e] [] pos2]:List Expr).length+([]:List Keyword).length+(if ([]:List Keyword).isEmpty then 0 else 1)<30))=true:=by rfl)(hline:(apos.endLine==cpos.line)=true:=by rfl)(h1:starEach [.Call (.Name "reversed" p2) [e] [] pos2] X.env=[(false,eval (.Call (.Name "reversed" p2) [e] [] pos2) X.env)]:=by rfl)(h2:starEach [e] X.env=[(false,eval e X.env)]:=by rfl):PE X (.Call (.Attribute o "join" apos) [.Call (.Name "reversed" p2) [e] [] pos2] [] cpos) (Ds X.K tx ta):=by
 intro pins s σ H Q I h
 refine wpAny_Call_method_late hbase hfew hline rfl (cy (hx pins s σ H _ I h) λv s1 ⟨x,H0,I0,r0,z,hz,q0⟩=>?_)
 subst hz
 obtain⟨t1,t2⟩:=ET I0 r0 (T:="str") rfl
 refine⟨"str","str.join",F.plainAttrs_str,F.slot_str_join,O,t1,t2,?_⟩
 rw[h1]
 refine Calls.callWith_builtin rfl (Calls.evalArgs_plain ?_)
 refine Calls.spliced_cons ?_
 refine abL (p7 I0 Ti hm2 boot_reversed ?_ (by decide) (by decide))
 refine abu (cy (ha pos2 pins s1 σ H0 _ I0 q0) λus s2 ⟨vs,H1,I1,r1,q1⟩=>?_) h2 rfl
 obtain⟨p,ys,rfl,hq,hok,q⟩:=q1
 obtain⟨u,rfl,ru⟩:=vals1 r1
 cases ru
 obtain⟨its,rv,pl,hz⟩:=I1.list hq
 have hlen:=rv.length
 refine call_reversed_list pl.isList ?_
 refine Calls.spliced_nil ?_
 have hnew:s2.heap.objs.size<=s2.heap.objs.size:=aan _
 have I2:Inv X pins σ H1 {s2 with heap:=s2.heap.push (revObj p ((its.toArray.size:Int)-1))}:=I1.kept (t':=s2.toks) λb o e=>aar _ e
 have hpl:p<s2.heap.objs.size:=by obtain⟨o,ho,_⟩:=pl.isList;exact aaw ho
 have f0:=I1.zo hnew (I1.hok.fresh hnew)
 obtain⟨t0,rfl⟩:=r0
 refine Ky (s:={s2 with heap:=s2.heap.push (revObj p ((its.toArray.size:Int)-1))}) (items:=its) (I.ok.hd hc) (aaR hpl) ⟨_,aaz _ rfl,rfl,rfl⟩ (pl.isList.at λo e=>aar _ e) (by rw[aam];omega) (ys:=ys.reverse) (qe (by rw[List.map_reverse];exact rv.reverse)) (by rw[List.map_reverse,List.sum_reverse,abV];exact hok) λh' t' tk hk=>?_
 have I4:=I2.turned (t':=tk) (h':=h') (it:=s2.heap.objs.size) hk f0.1 f0.2.1 f0.2.2.2.1 f0.2.2.2.2.1 f0.2.2.2.2.2
 exact⟨.str _,_,I4,⟨t',O⟩,q⟩
theorem Dt(K:W.Frag)(h:X.K=K){o:Expr}{apos p2 pos2 cpos:Pos}{tx:TE}{ta:TA}(hc:X.calm=true)(Ti:Gl X "reversed")(hm2:X.mg "reversed"=none)(hx:PE X o tx)(ha:PA X [e] ta)(hbase:attributeBase o "join" X.env (eval o X.env)=eval o X.env:=by rfl)(hfew:((backTo cpos (starEach [.Call (.Name "reversed" p2) [e] [] pos2] X.env)).all (λx=>!x.1)&&(backToKw cpos (keywordEach [] X.env)).all (λx=>x.1.isSome)
  && decide (([.Call (.Name "reversed" p2) [e] [] pos2]:List Expr).length+([]:List Keyword).length+(if ([]:List Keyword).isEmpty then 0 else 1)<30))=true:=by rfl)(hline:(apos.endLine==cpos.line)=true:=by rfl)(h1:starEach [.Call (.Name "reversed" p2) [e] [] pos2] X.env=[(false,eval (.Call (.Name "reversed" p2) [e] [] pos2) X.env)]:=by rfl)(h2:starEach [e] X.env=[(false,eval e X.env)]:=by rfl):PE X (.Call (.Attribute o "join" apos) [.Call (.Name "reversed" p2) [e] [] pos2] [] cpos) (Ds K tx ta):=by subst h;exact E5 hc Ti hm2 hx ha hbase hfew hline h1 h2
end
section
variable{prog:Program}{w:World}{A:Around}{E:Value->Shared->Prop}{s:Shared}{d it i ep:Nat}{od:Obj}{es:Array DictEntry}
theorem Kz{Q:Value->Shared->Prop}(nd:(d==sysModules)=false)(g:s.heap.get? d=some od)(c:od.ExactDict)(dt:od.data=.dict es ep)(q:Q (.ref s.heap.objs.size) {s with heap:=s.heap.push {cls:=.type "dict_keyiterator",data:=.fields #[.ref d,.int 0 0,.int es.size 0,.int ep 0]}}):wpAny (model prog w) A (pyIter (.ref d)) Q E s:=by
 have ty:s.TypeIs (.ref d) "dict":=⟨od,g,c.1⟩
 refine wpAny_pyIter_slot ty PySem.F.slot_dict_iter (aa4 PySem.F.slot_dict_iter ty PySem.F.entry_dict_iter ?_ (PySem.F.args_dict_iter_1 _))
 unfold Builtin.«dict.__iter__»;refine aah ?_
 unfold Builtin.Dict.dictSlotNone;refine aah (wpAny_notOrdered_dict ty ?_)
 show wpAny _ _ (pure (Value.ref d)) _ _ _;refine aal ?_
 show wpAny _ _ (Builtin.Dict.showsAll d >>= _) _ _ _
 unfold Builtin.Dict.showsAll;rw[aai (λz=>by rw[nd]at z;cases z)];refine aah (aal ?_)
 refine aah (wpAny_dictEntries g dt (aah (wpAny_dictEpoch g dt ?_)))
 refine aah (aaT (aal ⟨_,rfl,"dict_keyiterator",_,⟨_,aaz _ rfl,rfl⟩,aa9.lookup,?_⟩))
 simpa [rawInt]using q
theorem KA{Q:Option Value->Shared->Prop}(Ey:s.heap.IsKeyIter it d i es.size ep)(g:s.heap.get? d=some od)(dt:od.data=.dict es ep)(hi:i<es.size)(q:∀h',h'.IsKeyIter it d (i+1) es.size ep->Heap.SameBut it s.heap h'->Q (some es[i].key) {s with heap:=h'}):wpAny (model prog w) A (pyNext (.ref it)) Q E s:=by
 obtain⟨o,ho,hc,hd⟩:=id Ey
 unfold pyNext;refine aah (abQ (abl (name:=("__next__":Str)) Ey.typeIs aa9 (aa4 aa9 Ey.typeIs PySem.F.entry_dict_keyiterator_next ?_ (PySem.F.args_dict_keyiterator_next_1 _))))
 refine aah (aal (aah (aah ?_)))
 first|refine aah (wpAny_typeNameOfWhole_keyiter Ey.typeIs (aal ?_))|refine aah (wpAny_typeNameOf_keyiter Ey.typeIs (aal ?_))
 refine aah (wpAny_fieldsOf ho hd ?_);simp only[(show Builtin.Dict_items.ownsTuple "dict_keyiterator"=false by decide),aaP,abm]
 show wpAny _ _ (if (Value.ref d==Value.none)=true then _ else _) _ _ _;rw[aai (λz:(Value.ref d==Value.none)=true=>nomatch z)]
 refine aah (aal (aah (wpAny_dictEntries g dt ?_)))
 rw[aai (by simp)];refine aah (aal (aah (wpAny_dictEpoch g dt ?_)))
 rw[aai (by simp)];refine aal ?_
 simp only[show ¬((i:Int)<0) by omega,abm,abE,Array.getElem?_eq_getElem hi]
 refine aah ?_
 first|refine aah (wpAny_typeNameOfWhole_keyiter Ey.typeIs (aal ?_))|refine aah (wpAny_typeNameOf_keyiter Ey.typeIs (aal ?_))
 refine aah (wpAny_isOneOf_keyiter Ey.typeIs ?_);show wpAny _ _ (setField (.ref it) 1 (rawInt ((i:Int)+1)) >>= _) _ _ _
 refine aah (wpAny_setField ho hd (by simp) ?_)
 have ZT:(s.heap.update it (Obj.mapFields (·.setIfInBounds 1 (rawInt ((i:Int)+1))))).IsKeyIter it d (i+1) es.size ep:=⟨_,aby _ ho (Obj.isFreed_of_fields (abN hd _)),(Obj.cls_mapFields ..).trans hc,by rw[abN hd];simp[rawInt]⟩
 refine aah (wpAny_holding (aah (wpAny_isOneOf_keyiter (s:={s with heap:=s.heap.update it (Obj.mapFields (·.setIfInBounds 1 (rawInt ((i:Int)+1))))}) ZT.typeIs ?_)))
 show wpAny _ _ (pure es[i].key) _ _ _;exact aal (aal ⟨_,rfl,aal (q _ ZT (Heap.SameBut.update ..))⟩)
theorem M8{Q:Option Value->Shared->Prop}(hh:A.handled=none)(Ey:s.heap.IsKeyIter it d i es.size ep)(g:s.heap.get? d=some od)(dt:od.data=.dict es ep)(hi:es.size<=i)(q:∀h',Heap.ExtBut it s.heap h'->Q none {s with heap:=h'}):wpAny (model prog w) A (pyNext (.ref it)) Q E s:=by
 obtain⟨o,ho,hc,hd⟩:=id Ey
 unfold pyNext;refine aah (abQ (abl (name:=("__next__":Str)) Ey.typeIs aa9 (aa4 aa9 Ey.typeIs PySem.F.entry_dict_keyiterator_next ?_ (PySem.F.args_dict_keyiterator_next_1 _))))
 refine aah (aal (aah (aah ?_)))
 first|refine aah (wpAny_typeNameOfWhole_keyiter Ey.typeIs (aal ?_))|refine aah (wpAny_typeNameOf_keyiter Ey.typeIs (aal ?_))
 refine aah (wpAny_fieldsOf ho hd ?_);simp only[(show Builtin.Dict_items.ownsTuple "dict_keyiterator"=false by decide),aaP,abm]
 show wpAny _ _ (if (Value.ref d==Value.none)=true then _ else _) _ _ _;rw[aai (λz:(Value.ref d==Value.none)=true=>nomatch z)]
 refine aah (aal (aah (wpAny_dictEntries g dt ?_)))
 rw[aai (by simp)];refine aah (aal (aah (wpAny_dictEpoch g dt ?_)))
 rw[aai (by simp)];refine aal ?_
 simp only[show ¬((i:Int)<0) by omega,abm,abE,Array.getElem?_eq_none hi]
 refine aah ?_
 first|refine aah (wpAny_typeNameOfWhole_keyiter Ey.typeIs (aal ?_))|refine aah (wpAny_typeNameOf_keyiter Ey.typeIs (aal ?_))
 show wpAny _ _ (setField (.ref it) 0 .none >>= _) _ _ _;refine aah (wpAny_setField ho hd (by simp) ?_)
 show wpAny _ _ (newExc (.type "StopIteration") [] >>= _) _ _ _;refine aah ?_
 simp only[newExc,newTuple];refine aah (aaT ?_ (by size_fits))
 refine aah (m:=firstArgMember _ _) (abA (a:=Value.none) (by first|rfl | (simp only[firstArgMember];rfl)) (aaT ?_ (by size_fits)))
 simp only[raiseNew];refine aah (wpAny_handled ?_)
 rw[show A.in1.handled=none from hh];refine aah (aal (wpAny_throw ?_))
 refine aah (abI (T:="StopIteration") (b:=true) ⟨_,aaz _ rfl,rfl⟩ isSubtype_stop (aal ?_))
 exact q _ (((Heap.SameBut.update ..).extBut.push _).push _)
end
theorem Az{α β:Type}{F:α->β->Prop}:∀{xs:List α}{ys:List β},Paired F xs ys->∀(i:Nat) x,xs[i]?=some x->∃y,ys[i]?=some y/\F x y
 |_,_,.nil,i,x,h=>by simp at h
 |_,_,.cons a r,0,x,h=>by cases h;exact⟨_,rfl,a⟩
 |_,_,.cons a r,i+1,x,h=>Az r i x h
section
variable{P:Program}{w:World}{K:Type}[DecidableEq K]
def dX(Z:iN P w K)(hl:Z.cP+1<=8)(a:Addr)(kvs:List (N3 K))(o:Obj):HO:=.ext λh=>Ay Z hl a kvs h/\h.get? a=some o
def WK(Z:iN P w K)(hl:Z.cP+1<=8)(a:Addr)(kvs:List (N3 K))(o:Obj):It :=
 ⟨λi H=>H a=some (dX Z hl a kvs o)/\∃e,kvs[i]?=some e,λi H x H'=>H'=H/\∃e,kvs[i]?=some e/\x=.ref e.2.1,λi H=>H a=some (dX Z hl a kvs o)/\kvs.length<=i⟩
variable{Z:iN P w K}{hl:Z.cP+1<=8}
theorem KC{X:Cx}{K:Type}[DecidableEq K]{Z:iN X.prog X.w K}{hl:Z.cP+1<=8}{pins:List (Addr×Obj)}{σ:St}{H:Hp}{s:Shared}{a:Addr}{kvs:List (N3 K)}{o:Obj}(I:Inv X pins σ H s)(d:H a=some (dX Z hl a kvs o)):Ay Z hl a kvs s.heap/\s.heap.get? a=some o :=
 (show cU X.prog X.w H s.heap a (dX Z hl a kvs o) from I.hok a _ d).1
theorem yg{h:Heap}{a:Addr}{kvs:List (N3 K)}{o:Obj}{es:Array DictEntry}{ep:Nat}(q:Ay Z hl a kvs h)(g:h.get? a=some o)(dt:o.data=.dict es ep):es.size=kvs.length/\∀(i:Nat)(hi:i<es.size)(e:N3 K),kvs[i]?=some e->es[i].key=.ref e.2.1:=by
 obtain⟨_,_,xs,r,o',es',Vi,g',_,ZU,he,_⟩:=q
 rw[g]at g';cases g'
 rw[dt]at ZU;cases ZU
 have e1:es.size=xs.length:=size_of_entries he
 refine⟨by rw[e1];exact(abd r).symm,λi hi e h1=>?_⟩
 obtain⟨x,hx,q⟩:=Az r i e h1
 have e2:=entry_at he i
 rw[hx,Array.getElem?_eq_getElem hi]at e2
 have e3:es[i]=entryOfKey (pH Z hl) x:=aax e2
 rw[e3,q.2.1]
 rfl
theorem M9{Fr:W.Frag}{tg:Expr}(a it:Addr)(kvs:List (N3 K))(o:Obj)(es:Array DictEntry)(ep:Nat)(dt:o.data=.dict es ep):Turn P w Fr tg (WK Z hl a kvs o) [it] it (λi h=>h.IsKeyIter it a i es.size ep) where
 mem:=by simp
 obj:=λi h st b hb=>by
  obtain rfl:b=it:=by simpa using hb
  obtain⟨x,e,c,d⟩:=st
  exact⟨x,e,λv z=>by rw[d]at z;cases z⟩
 keep:=λi h h' st k=>by
  obtain⟨x,e,c,d⟩:=st
  exact⟨x,k it (by simp) x e,c,d⟩
 item:=by
  intro X hP hw hK hc i pins s σ H E I hf st hg
  subst hP hw
  obtain⟨hd,e,he⟩:=hg
  obtain⟨nd,g⟩:=KC I hd
  obtain⟨hsz,hkey⟩:=yg nd g dt
  obtain⟨f0,f1,f2,f3,f4,f5⟩:=hf it (by simp)
  have hi:i<es.size:=by rw[hsz];exact(aau.mp he).1
  refine KA st g dt hi λh' st' sb=>?_
  have I1:Inv X pins σ H {s with heap:=h'}:=I.turned (t':=s.toks) (λb o hb e=>(sb.2 b hb).trans e) f0 f1 f3 f4 f5
  obtain⟨x,ex,cx,dx⟩:=id st'
  refine⟨_,rfl,Ak (s:={s with heap:=h'}) ex cx dx (by decide) ⟨.ref e.2.1,H,I1,?_,⟨rfl,e,he,rfl⟩,st',λb hb=>(hf b hb).1⟩⟩
  exact hkey i hi e he
 done:=by
  intro X hP hw hK hc i pins s σ H E I hf st hg
  subst hP hw
  obtain⟨hd,he⟩:=hg
  obtain⟨nd,g⟩:=KC I hd
  obtain⟨hsz,hkey⟩:=yg nd g dt
  obtain⟨f0,f1,f2,f3,f4,f5⟩:=hf it (by simp)
  exact M8 (I.ok.hd hc) st g dt (by omega) λh' eb=>⟨rfl,I.turned (t':=s.toks) (λb o hb e=>eb b o hb e) f0 f1 f3 f4 f5⟩
 self:=λ_ _ _ _ _ st h=>wpAny_pyIter_keyiter st h
end
section
variable{X:Cx}{K:Type}[DecidableEq K]{F:W.Frag}{Z:iN X.prog X.w K}
def OR{P:Program}{w:World}{K:Type}[DecidableEq K]{F:W.Frag}{Z:iN P w K}(Y:ko F Z)(hl:Z.cP+1<=8)(td:TE):TI:=λσ H R=>td σ H λx H1=>∃a kvs,x=.ref a/\Nd Y hl H1 a kvs/\∀o,R (WK Z hl a kvs o) (upd H1 a (dX Z hl a kvs o))
theorem Na{tg l:Expr}{td:TE}(Y:ko F Z)(hl:Z.cP+1<=8)(hF:X.K=F)(hp:PE X l td):PI X tg l (OR Y hl td):=by
 intro pins s σ H R I h
 refine cy (hp pins s σ H _ I h) λv s1 ⟨x,H1,I1,r1,a,kvs,e,d,q⟩=>?_
 subst e
 cases r1
 have nd:Ay Z hl a kvs s1.heap:=(show cU X.prog X.w H1 s1.heap a (dN Z hl a kvs) from I1.hok a _ d.ob).1
 obtain⟨z,y,xs,r,o,es,ep,g,c,dt,rest⟩:=id nd
 refine Kz y g c dt ?_
 have ok:cU X.prog X.w (upd H1 a (dX Z hl a kvs o)) s1.heap a (dX Z hl a kvs o):=by
  refine⟨⟨nd,g⟩,⟨o,g⟩,λg1 g2 q k=>?_⟩
  obtain⟨⟨z,y,xs,r,o',es,ep,h1,h2,h3,h4,h5⟩,h6⟩:=q
  exact⟨⟨z,y,xs,r,o',es,ep,k _ h1,h2,h3,h4,h5⟩,k _ h6⟩
 have I2:Inv X pins σ (upd H1 a (dX Z hl a kvs o)) {s1 with heap:=s1.heap,toks:=s1.toks}:=I1.write (x:=a) (e:=a) (by rw[d.ob];exact True.intro) (.inl rfl) (λb u _ e=>e) ⟨o,g⟩ ok
 refine⟨s1.heap.objs.size,[s1.heap.objs.size],_,_,_,rfl,I2.kept (t':=s1.toks) λb o e=>aar _ e,M9 a _ kvs o es ep dt,⟨_,aaz _ rfl,rfl,rfl⟩,λb hb=>?_,q o⟩
 obtain rfl:b=s1.heap.objs.size:=by simpa using hb
 exact I2.zo (aan _) (I2.hok.fresh (aan _))
end
theorem Du{X:Cx}{P:Program}{w:World}{K:Type}[DecidableEq K]{F:W.Frag}{Z:iN P w K}{tg l:Expr}{td:TE}(Y:ko F Z)(hl:Z.cP+1<=8)(hP:X.prog=P)(hw:X.w=w)(hF:X.K=F)(hp:PE X l td):PI X tg l (OR Y hl td):=by
 subst hP hw;exact Na Y hl hF hp
theorem AA{P:Program}{w:World}{K:Type}[DecidableEq K]{Z:iN P w K}{hl:Z.cP+1<=8}{a:Addr}{kvs:List (N3 K)}{o:Obj}{g:TG}{tt:TT}{te:TE}{Q:VK}{D:Addr}{τ:St}{H:Hp}(Pv:Nat->List V->St->Hp->Prop)(h0:Pv 0 [] τ (upd H D (.lst [])))(hl':∀i ys τ H,i<=kvs.length->Pv i ys τ H->H a=some (dX Z hl a kvs o)/\H D=some (.lst ys))(hs:∀i e ys τ H,kvs[i]?=some e->Pv i ys τ H->g (.ref e.2.1) τ H λτ2 H2=>tt τ2 H2 λb H3=>if b=true then te τ2 H3 λy H4=>H4 D=some (.lst ys)/\ys.length<sizeLine/\Pv (i+1) (ys++[y]) τ2 (upd H4 D (.lst (ys++[y]))) else Pv (i+1) ys τ2 H3)(hd:∀ys τ H,Pv kvs.length ys τ H->Q (.ref D) H):Au (WK Z hl a kvs o) g tt te Q D τ H:=by
 refine⟨λi m ys τ H=>m=kvs.length-i/\i<=kvs.length/\Pv i ys τ H,⟨kvs.length,by simp,aaM _,h0⟩,?_⟩
 rintro i m ys τ H ⟨rfl,hi,p⟩
 obtain⟨q,hD⟩:=hl' i ys τ H hi p
 refine⟨hD,?_⟩
 by_cases hlt:i<kvs.length
 ·refine .inr ⟨⟨q,kvs[i],List.getElem?_eq_getElem hlt⟩,Pv (i+1),λzs σ' H' p'=>⟨kvs.length-(i+1),by omega,rfl,hlt,p'⟩,λx H' y=>?_⟩
  obtain⟨e,e1,h1,h2⟩:=y
  subst e h2
  exact hs i e1 ys τ _ h1 p
 ·have e:i=kvs.length:=by omega
  subst e
  exact .inl ⟨⟨q,aan _⟩,hd ys τ H p⟩
section
variable{X:Cx}
end
open PySem
theorem rdT{A B:Prop}{b:Bool}(hb:b=true)(h:A):if b=true then A else B:=by rw[aaj hb];exact h
theorem ZV{A B:Prop}{b:Bool}(hb:b=false)(h:B):if b=true then A else B:=by rw[aai (by rw[hb];decide)];exact h
theorem Nb{p A B:Prop}[Decidable p](hp:p)(h:A):if decide p=true then A else B:=rdT (aas hp) h
theorem wm{p A B:Prop}[Decidable p](hp:¬p)(h:B):if decide p=true then A else B:=ZV (aak hp) h
theorem Tj{p A B:Prop}[Decidable p](hp:p)(h:B):if (!decide p)=true then A else B:=ZV (by rw[aas hp];rfl) h
theorem WL{A B:Prop}{a b:Int}(hp:a=b)(h:B):if (!decide (V.int a=V.int b))=true then A else B:=Tj (by rw[hp]) h
theorem Vt{A B:Prop}{b:Bool}(h1:b=true->A)(h2:b=false->B):if b=true then A else B:=by
 cases b with
 |true=>exact kY (h1 rfl)
 |false=>exact eg (h2 rfl)
theorem rd2{p A B:Prop}[Decidable p](h1:p->A)(h2:¬p->B):if decide p=true then A else B:=by
 by_cases h:p
 ·exact Nb h (h1 h)
 ·exact wm h (h2 h)
theorem To{A B:Prop}{a b:Str}(h1:a=b->A)(h2:¬a=b->B):if decide (V.str a=V.str b)=true then A else B :=
 rd2 (λh=>h1 (V.str.inj h)) (λh=>h2 λe=>h (by rw[e]))
theorem yh:Manifest.owners.lookup (String.ofList ['d','e','s','r','e','v','e','r'].reverse)=some Manifest.sig_reversed:=by kernel_rfl
theorem gc:Slot "reversed" "__next__" "reversed.__next__" :=
 .of (owner:="reversed") (n:="__next__") (by rw[abB,abg];kernel_rfl) (by decide +kernel) (by decide +kernel) (by decide +kernel)
  (by first|exact .inl (by decide +kernel)|exact .inr (by decide +kernel)) (by rw[abJ];kernel_rfl)
theorem pI:entryFor table "reversed.__next__"=some Builtin.«reversed.__next__» := entryFor_of_tree (by kernel_rfl)
theorem qZ(a:Value):argsOk "reversed.__next__" ⟨[a],[]⟩:=by
 unfold argsOk;rw[signature?_of (id:="reversed.__next__") (n:=['_','_','t','x','e','n','_','_']) (o:=['d','e','s','r','e','v','e','r']) (by kernel_rfl) yh];kernel_rfl
theorem rj:Slot "reversed" "__iter__" "reversed.__iter__" :=
 .of (owner:="reversed") (n:="__iter__") (by rw[abB,abg];kernel_rfl) (by decide +kernel) (by decide +kernel) (by decide +kernel)
  (by first|exact .inl (by decide +kernel)|exact .inr (by decide +kernel)) (by rw[abJ];kernel_rfl)
theorem By(a:Value):argsOk "reversed.__iter__" ⟨[a],[]⟩:=by
 unfold argsOk;rw[signature?_of (id:="reversed.__iter__") (n:=['_','_','r','e','t','i','_','_']) (o:=['d','e','s','r','e','v','e','r']) (by kernel_rfl) yh];kernel_rfl
theorem zv:entryFor table "reversed.__iter__"=some Builtin.«dict_keyiterator.__iter__» :=
 entryFor_alias (id':="dict_keyiterator.__iter__") (by kernel_rfl) (by first|rfl|decide +kernel | (unfold String.splitOn;simp +decide [String.splitOnAux])) (by decide +kernel) (by kernel_rfl)
theorem k7:Slot "reversed" "__length_hint__" "reversed.__length_hint__" :=
 .of (owner:="reversed") (n:="__length_hint__") (by rw[abB,abg];kernel_rfl) (by decide +kernel) (by decide +kernel) (by decide +kernel)
  (by first|exact .inl (by decide +kernel)|exact .inr (by decide +kernel)) (by rw[abJ];kernel_rfl)
theorem zw:entryFor table "reversed.__length_hint__"=some Builtin.«reversed.__length_hint__» := entryFor_of_tree (by kernel_rfl)
theorem BA(a:Value):argsOk "reversed.__length_hint__" ⟨[a],[]⟩:=by
 unfold argsOk;rw[signature?_of (id:="reversed.__length_hint__") (n:=['_','_','t','n','i','h','_','h','t','g','n','e','l','_','_']) (o:=['d','e','s','r','e','v','e','r']) (by kernel_rfl) yh];kernel_rfl
theorem BB:Slot "reversed" "__init__" "object.__init__" :=
 .of (owner:="object") (n:="__init__") (by rw[abB,abg];kernel_rfl) (by decide +kernel) (by decide +kernel) (by decide +kernel)
  (by first|exact .inl (by decide +kernel)|exact .inr (by decide +kernel)) (by rw[abJ];kernel_rfl)
theorem Im:TypeCalled "reversed" "reversed.__new__" "object.__init__" :=
 ⟨by decide +kernel,by decide +kernel,⟨_,_,F.mro_reversed⟩,F.made_reversed,by decide +kernel,by rw[abJ];kernel_rfl,BB⟩
theorem BC(a b:Value):argsOk "object.__init__" ⟨[a,b],[]⟩:=by
 unfold argsOk;rw[signature?_of (id:="object.__init__") (n:=['_','_','t','i','n','i','_','_']) (o:=['t','c','e','j','b','o']) (by kernel_rfl) F.owner_object];kernel_rfl
theorem E6:typeLookup (.type "str") "__reversed__"=pure none:=by rw[abB,abg];kernel_rfl
theorem Io:typeLookup (.type "reversed") "__len__"=pure none:=by rw[abB,abg];kernel_rfl
theorem Dv:isSubtype (.type "str") (.type "dict")=pure false:=by rw[abJ];kernel_rfl
def KD(x:Str)(t:Tok)(i:Int):Obj:={cls:=.type "reversed",data:=.fields #[.str x t,rawInt i]}
def fM(h:Heap)(a:Addr)(x:Str)(t:Tok)(i:Int):Prop:=∃o,h.get? a=some o/\o.cls=.type "reversed"/\o.data=.fields #[.str x t,rawInt i]
section
variable{prog:Program}{w:World}{A:Around}{E:Value->Shared->Prop}{s:Shared}
theorem fM.typeIs{a:Addr}{x:Str}{t:Tok}{i:Int}(q:fM s.heap a x t i):s.TypeIs (.ref a) "reversed":=let ⟨o,ho,hc,_⟩:=q;⟨o,ho,hc⟩
theorem fM.at{h h':Heap}{a:Addr}{x:Str}{t:Tok}{i:Int}(q:fM h a x t i)(e:∀o,h.get? a=some o->h'.get? a=some o):fM h' a x t i:=let ⟨o,ho,r⟩:=q;⟨o,e _ ho,r⟩
theorem Qi{x:Str}{t:Tok}(hfit:¬(x.length:Int)>=2 ^ 63):Meets (Builtin.«reversed.__new__» ⟨[.type "reversed",.str x t],[]⟩)
  (λ_ R s=>R (.ok (.ret (.ref s.heap.objs.size))) {s with heap:=s.heap.push (KD x t ((x.length:Int)-1)),toks:=s.toks+1+1}):=by
 refine Meets.of_wp λprog w A R s hs=>?_
 unfold Builtin.«reversed.__new__»
 refine aah (abA (newClass_reversed _) ?_)
 try dsimp only
 refine aah (abA (a:=()) (by first|rfl|kernel_rfl) ?_)
 refine aah (abA (a:=()) (by first|rfl|kernel_rfl) ?_)
 try dsimp only
 refine aah (aa3 (typeIs_str _ _ _) E6 ?_)
 try dsimp only
 refine aah ?_
 wp_delta
 refine aah (abI (T:="str") (b:=false) (typeIs_str _ _ _) Dv ?_)
 rw[aai (by decide)]
 refine aah (aa3 (typeIs_str _ _ _) F.slot_str_getitem.lookup ?_)
 dsimp only
 rw[aaj (by decide +kernel)]
 refine aal ?_
 rw[aai (by decide)]
 refine aah (P.len_str hfit ?_)
 refine aah (abA (a:=some (x.length:Int)) rfl ?_)
 dsimp only
 refine aah ?_
 unfold Builtin.SmallTypes.newRecord
 refine aaT ?_ (by size_fits)
 exact aal ⟨_,rfl,hs⟩
theorem zx{x:Str}{t:Tok}{Q:Value->Shared->Prop}(hfit:¬(x.length:Int)>=2 ^ 63)(h:Q (.ref s.heap.objs.size) {s with heap:=s.heap.push (KD x t ((x.length:Int)-1)),toks:=s.toks+1+1}):wpAny (model prog w) A (call (.type "reversed") [.str x t]) Q E s :=
 callType_new Im (by decide +kernel) (F.typeCall_reversed_1 _) (F.newCall_reversed_1 _) (λo=>BC o _) F.entry_reversed_new (Qi hfit) ⟨⟨_,aaz _ rfl,rfl⟩,h⟩
theorem BD{it:Addr}{x:Str}{t:Tok}{i:Nat}{c:Nat}{Q:Option Value->Shared->Prop}(hit:fM s.heap it x t (i:Int))(hx:x.cps[i]?=some c)(hi:(i:Int)<2 ^ 63)(hQ:∀h' tok tk,fM h' it x t ((i:Int)-1)->Heap.SameBut it s.heap h'->Q (some (.str ⟨#[c]⟩ tok)) {s with heap:=h',toks:=tk}):wpAny (model prog w) A (pyNext (.ref it)) Q E s:=by
 obtain⟨o,ho,hc,hd⟩:=id hit
 unfold pyNext
 refine aah (abQ (abl (name:=("__next__":Str)) hit.typeIs gc
  (aa4 gc hit.typeIs pI ?_ (qZ _))))
 unfold Builtin.«reversed.__next__»
 refine aah (abA (a:=(Value.ref it,[])) rfl ?_)
 try dsimp only
 refine aah (aa1 ho hd (x:=.str x t) rfl ?_)
 refine aah (aa1 ho hd (x:=rawInt (i:Int)) rfl ?_)
 show wpAny _ _ (if (i:Int)<0 then _ else _) _ _ s
 rw[aai (by omega)]
 refine aah (aa3 (typeIs_str _ _ _) F.slot_str_getitem.lookup ?_)
 rw[aai (by decide)]
 refine aah (wpAny_mkInt ?_)
 have hlt:i<x.length:=by
  have:=(abn.mp hx).1
  exact this
 refine aah (abQ (P.getItem_str (c:=c) ?_ ?_ ?_))
 ·have h1:¬((i:Int) < -(2 ^ 63:Int)):=by omega
  have h2:¬((i:Int)>=2 ^ 63):=by omega
  rw[aak h1,aak h2];rfl
 ·have:seqIndex? (i:Int) x.length=some i:=by
   unfold seqIndex?
   have h0:¬(i:Int)<0:=by omega
   simp[h0,hlt]
  rw[this];exact hx
 ·dsimp only
  refine aah (aa1 ho hd (x:=rawInt (i:Int)) rfl ?_)
  show wpAny _ _ (setField (.ref it) 1 (rawInt ((i:Int)-1)) >>= _) _ _ _
  refine aah (wpAny_setField ho hd (by simp) ?_)
  refine aal ⟨_,rfl,aal (hQ _ _ _ ?_ (Heap.SameBut.update ..))⟩
  exact⟨_,aby _ ho (Obj.isFreed_of_fields (abN hd _)),(Obj.cls_mapFields ..).trans hc,by
   rw[abN hd];simp⟩
theorem Dw{it:Addr}{x:Str}{t:Tok}{Q:Option Value->Shared->Prop}(hh:A.handled=none)(hit:fM s.heap it x t (-1))(hQ:∀h',Heap.ExtBut it s.heap h'->Q none {s with heap:=h'}):wpAny (model prog w) A (pyNext (.ref it)) Q E s:=by
 obtain⟨o,ho,hc,hd⟩:=id hit
 unfold pyNext
 refine aah (abQ (abl (name:=("__next__":Str)) hit.typeIs gc
  (aa4 gc hit.typeIs pI ?_ (qZ _))))
 unfold Builtin.«reversed.__next__»
 refine aah (abA (a:=(Value.ref it,[])) rfl ?_)
 try dsimp only
 refine aah (aa1 ho hd (x:=.str x t) rfl ?_)
 refine aah (aa1 ho hd (x:=rawInt (-1)) rfl ?_)
 show wpAny _ _ (if (-1:Int)<0 then _ else _) _ _ s
 rw[aaj (by decide)]
 refine aah (wpAny_rule ?_)
 refine aah ?_
 wp_delta
 refine aah (wpAny_setField ho hd (by simp) ?_)
 have ho1:=aby (Obj.mapFields λvs=>vs.setIfInBounds 1 (rawInt (-1))) ho (Obj.isFreed_of_fields (abN hd _))
 refine wpAny_setField ho1 (abN hd _) (by simp) ?_
 refine aah ?_
 show wpAny _ _ (newExc (.type "StopIteration") [] >>= _) _ _ _
 refine aah ?_
 simp only[newExc,newTuple]
 refine aah (aaT ?_ (by size_fits))
 refine aah (m:=firstArgMember _ _) (abA (a:=Value.none) (by first|rfl | (simp only[firstArgMember];rfl)) ?_)
 refine aaT ?_ (by size_fits)
 simp only[raiseNew]
 refine aah (wpAny_handled ?_)
 first|rw[show A.in1.handled=none from hh]|rw[hh]
 refine aah (aal (wpAny_throw ?_))
 refine aah (abI (T:="StopIteration") (b:=true) ⟨_,aaz _ rfl,rfl⟩ isSubtype_stop ?_)
 refine aal (hQ _ (Heap.ExtBut.push (Heap.ExtBut.push (λb o hb e=>?_) _) _))
 exact(Heap.get?_update_other _ _ (abD hb)).trans ((Heap.get?_update_other _ _ (abD hb)).trans e)
theorem t9{it:Addr}{x:Str}{t:Tok}{i:Int}{Q:Value->Shared->Prop}(hit:fM s.heap it x t i)(h:Q (.ref it) s):wpAny (model prog w) A (pyIter (.ref it)) Q E s:=by
 refine wpAny_pyIter_slot hit.typeIs rj (aa4 rj hit.typeIs zv ?_ (By _))
 show wpAny _ _ (ret (.ref it)) _ _ s
 exact aal ⟨_,rfl,"reversed",_,hit.typeIs,gc.lookup,h⟩
theorem E7{prog:Program}{w:World}{A:Around}(hh:A.handled=none)(I:Addr)(x:Str)(t:Tok)(hf:(x.length:Int)<2 ^ 63):Walks prog w A I [I] [I] x.length (λi v=>∃c tk,x.cps[x.length-1-i]?=some c/\v=.str ⟨#[c]⟩ tk) (λi h=>i<=x.length/\fM h I x t ((x.length:Int)-1-(i:Int))) where
 sub:=λb hb=>hb
 frame:=λ_ _ _ q hk=>⟨q.1,q.2.at λo e=>hk I (by simp) o e⟩
 item:=λi s Q E hi q hQ=>by
  have e:(x.length:Int)-1-(i:Int)=((x.length-1-i:Nat):Int):=by omega
  have hit:=q.2
  rw[e]at hit
  have hlt:x.length-1-i<x.cps.size:=by have:x.length=x.cps.size:=rfl;omega
  have hx:x.cps[x.length-1-i]?=some (x.cps[x.length-1-i]'hlt):=Array.getElem?_eq_getElem hlt
  refine BD hit hx (by omega) λh' tok tk Tp hs'=>?_
  have e2:((x.length-1-i:Nat):Int)-1=(x.length:Int)-1-((i+1:Nat):Int):=by omega
  rw[e2]at Tp
  exact hQ _ h' tk ⟨_,_,hx,rfl⟩ ⟨hi,Tp⟩ λb o hb eo=>hs'.extBut b o (λh=>hb (by simp[h])) eo
 done:=λs Q E q hQ=>by
  have e:(x.length:Int)-1-(x.length:Int) = -1:=by omega
  have hit:=q.2
  rw[e]at hit
  exact Dw hh hit λh' he'=>hQ h' s.toks λb o hb eo=>he' b o (λh=>hb (by simp[h])) eo
 self:=λ_ _ _ _ q hQ=>t9 q.2 hQ
theorem Ip{I:Addr}{x:Str}{t:Tok}{Q:Bool->Shared->Prop}(hz:x.length<=sizeLine)(hit:fM s.heap I x t ((x.length:Int)-1))(h:∀b tk,Q b {s with toks:=tk}):wpAny (model prog w) A (Builtin.List.listLengthHint (.ref I)) Q E s:=by
 obtain⟨o,ho,hc,hd⟩:=id hit
 unfold Builtin.List.listLengthHint
 refine aah (aa3 hit.typeIs Io ?_)
 show wpAny _ _ (specialOf (Value.ref I) ("__length_hint__":Str) >>= _) _ _ _
 refine aah (aa3 hit.typeIs k7.lookup ?_)
 generalize hid:("reversed.__length_hint__":String)=Wx
 wp_delta
 rw[show splitId Wx=some ("reversed","__length_hint__") from by subst hid;decide +kernel]
 subst hid
 refine aah (abI (T:="reversed") (b:=true) hit.typeIs (by rw[abJ];kernel_rfl) ?_)
 refine wpAny_ite_split (λhab=>absurd hab (by decide)) (λ_=>?_)
 refine wpAny_ite_split (λhab=>absurd hab (by decide +kernel)) (λ_=>?_)
 refine aah (wpAny_rule ?_)
 refine aah (abA (k7.bind _) ?_)
 dsimp only
 refine aah (abQ (aa4 k7 hit.typeIs zw ?_ (BA _)))
 unfold Builtin.«reversed.__length_hint__»
 refine aah (abA (a:=Value.ref I) (by first|rfl|kernel_rfl) ?_)
 refine aah (aa1 ho hd (x:=.str x t) rfl ?_)
 show wpAny _ _ (if (Value.str x t==Value.none)=true then _ else _) _ _ _
 rw[aai (show ¬((Value.str x t==Value.none)=true) from aaA)]
 have hz2:sizeLine<2 ^ 63:=by decide +kernel
 have hz':¬(x.length:Int)>=2 ^ 63:=by omega
 refine aah (P.len_str hz' ?_)
 refine aah (abA (a:=some (x.length:Int)) rfl ?_)
 dsimp only
 refine aah (aa1 ho hd (x:=rawInt ((x.length:Int)-1)) rfl ?_)
 show wpAny _ _ (if (x.length:Int)<(x.length:Int)-1+1 then _ else _) _ _ _
 rw[aai (by omega)]
 have e1:(x.length:Int)-1+1=x.length:=by omega
 rw[e1]
 refine aah (wpAny_mkInt ?_)
 refine aal ⟨_,rfl,?_⟩
 show wpAny _ _ (asInt? (.int (x.length:Int) _) >>= _) _ _ _
 have ea:∀tk,asInt? (Value.int (x.length:Int) tk)=pure (some (x.length:Int)):=λ_=>rfl
 refine aah ?_
 rw[ea]
 refine aal ?_
 show wpAny _ _ (if (!Builtin.List.listFitsIndex (x.length:Int))=true then _ else _) _ _ _
 have f1:Builtin.List.listFitsIndex (x.length:Int)=true:=by
  unfold Builtin.List.listFitsIndex;rw[abG];exact⟨aas (by omega),aas (by omega)⟩
 have f2:Builtin.List.listTooLong (x.length:Int).toNat=false:=by
  unfold Builtin.List.listTooLong;exact aak (by rw[abE];omega)
 rw[f1,f2,aai (by decide),aai (by omega),aai (by decide)]
 have hb:=h ((x.length:Int) != 0) (s.toks+1+1+1)
 exact aal hb
theorem Tq{S:Addr}{c:Nat}{Q:Unit->Shared->Prop}(hS:s.heap.get? S=some {cls:=.type "list",dict:=none,data:=.seq #[] c,slots:=#[]})(h:∀h' c',h'.get? S=some {cls:=.type "list",dict:=none,data:=.seq #[] c',slots:=#[]}->Heap.SameBut S s.heap h'->Q () {s with heap:=h'}):wpAny (model prog w) A (Builtin.List.listTouch (.ref S)) Q E s:=by
 unfold Builtin.List.listTouch
 show wpAny _ _ (updateSeq S (·.push .none) >>= λ_=>updateSeq S (·.pop)) _ _ s
 refine aah (wpAny_updateSeq hS rfl ?_)
 have h1:=aby (Obj.mapSeq λxs=>xs.push Value.none) hS rfl
 refine wpAny_updateSeq h1 rfl (h _ _ (aby _ h1 rfl) ?_)
 have a:=Heap.SameBut.update (h:=s.heap) (a:=S) (Obj.mapSeq λxs=>xs.push Value.none)
 have b:=Heap.SameBut.update (h:=s.heap.update S (Obj.mapSeq λxs=>xs.push Value.none)) (a:=S) (Obj.mapSeq λxs=>xs.pop)
 exact⟨b.1.trans a.1,λc hc=>(b.2 c hc).trans (a.2 c hc)⟩
theorem Dy{R:Result->Shared->Prop}(hh:A.handled=none){I:Addr}{x:Str}{t:Tok}(hit:fM s.heap I x t ((x.length:Int)-1))(S:Addr)(res:Value)(c0:Nat)(hS:s.heap.get? S=some {cls:=.type "list",dict:=none,data:=.seq #[] c0,slots:=#[]})(hn:x.length<=sizeLine)(hR:∀h' tk acc' c',(∀b o,b≠S->b≠I->s.heap.get? b=some o->h'.get? b=some o)->h'.get? S=some {cls:=.type "list",dict:=none,data:=.seq acc' c',slots:=#[]}->ItemsOf (λi v=>∃c tk,x.cps[x.length-1-i]?=some c/\v=.str ⟨#[c]⟩ tk) acc' x.length->R (.ok (.ret res)) {s with heap:=h',toks:=tk}):wpAny (model prog w) A.in1 (Builtin.List.listExtendWith (.ref S) (.ref I) res)
   (λfin s'=>match fin with | .done f=>R (.ok f) s' | .again c'=>c'.quiet=true/\codeAny (model prog w) A c' R s') (λe s'=>R (.error e) s') s:=by
 have hSI:S≠I:=λe=>by
  subst e
  obtain⟨o,ho,hc,_⟩:=hit
  rw[hS]at ho;cases ho
  exact absurd (show Value.type "list"=Value.type "reversed" from hc) (by decide)
 have hSf:S∉[I]:=λhm=>hSI (aat.mp hm)
 have hf:(x.length:Int)<2 ^ 63:=by
  have:sizeLine<2 ^ 63:=by decide +kernel
  omega
 unfold Builtin.List.listExtendWith
 refine aah (wpAny_typeOf hit.typeIs ?_)
 have h1:Builtin.List.listSameRef (.ref S) (.ref I)=false:=by simp[Builtin.List.listSameRef,hSI]
 have h2:(Value.type "reversed"==Value.type "list")=false:=by decide
 have h3:(Value.type "reversed"==Value.type "tuple")=false:=by decide
 simp only[h1,h2,h3,Bool.or_false,aaP,abm]
 refine aah (t9 hit ?_)
 refine aah (wpAny_holding (Ip hn hit λb tk=>?_))
 have go:∀(h':Heap)(tk:Nat)(c1:Nat),h'.get? S=some {cls:=.type "list",dict:=none,data:=.seq #[] c1,slots:=#[]}->(∀b o,b≠S->s.heap.get? b=some o->h'.get? b=some o)->wpAny (model prog w) A.in1 (again (.builtin "list.extend.loop" ⟨[.ref S,.ref I,res],[]⟩))
    (λfin s'=>match fin with | .done f=>R (.ok f) s' | .again c'=>c'.quiet=true/\codeAny (model prog w) A c' R s') (λe s'=>R (.error e) s') {s with heap:=h',toks:=tk}:=λh' tk c1 Qj hk=>by
  refine aal ⟨plainId_quiet F.plain_extend_loop _,codeAny_extend_loopS (E7 (prog:=prog) (w:=w) (A:=A.in1) hh I x t hf).toS hn _ hSf _ x.length 0 _ _ _ rfl (aaM _) ⟨aaM _,?_⟩ Qj (ItemsOf.nil _) λs' acc' c' hm hS' hacc=>?_⟩
  ·have e0:(x.length:Int)-1-((0:Nat):Int)=(x.length:Int)-1:=by omega
   rw[e0]
   exact hit.at λo e=>hk _ o (abD hSI) e
  ·rw[Moved.eq_with hm]
   refine hR s'.heap s'.toks acc' c' (λb ob hb hb2 e=>hm.heap b ob (λhmem=>?_) (hk b ob hb e)) hS' hacc
   rcases aaB.mp hmem with e'|hmem
   ·exact hb e'
   ·exact hb2 (aat.mp hmem)
 refine wpAny_ite_split (λ_=>?_) (λ_=>?_)
 ·refine aah (wpAny_rule ?_)
  exact aah (Tq hS λh' c' Qj hs=>go h' tk c' Qj λb o hb e=>(hs.2 b hb).trans e)
 ·exact go s.heap tk c0 hS λ_ _ _ e=>e
end
section
variable{X:Cx}{e:Expr}{te:TE}
theorem E8{x:Str}{acc:Array Value}(h:ItemsOf (λi v=>∃c tk,x.cps[x.length-1-i]?=some c/\v=Value.str ⟨#[c]⟩ tk) acc x.length):Vals (x.cps.toList.reverse.map λc=>V.str (sg c)) acc.toList:=by
 have key:∀(cs:List Nat)(us:List Value),us.length=cs.length->(∀(i:Nat)(u:Value),us[i]?=some u->∃(c:Nat)(tk:Tok),cs[i]?=some c/\u=Value.str ⟨#[c]⟩ tk)->Vals (cs.map λc=>V.str (sg c)) us:=by
  intro cs
  induction cs with
  |nil=>intro us hl _;rw[List.length_eq_zero_iff.mp hl];exact .nil
  |cons c cs ih =>
   intro us hl hp
   cases us with
   |nil=>exact absurd hl (by simp)
   |cons u us =>
    obtain⟨c',tk,hc,hu⟩:=hp 0 u rfl
    cases hc
    exact .cons ⟨tk,hu⟩ (ih us (by simpa using hl) λi u' hi=>hp (i+1) u' hi)
 have hz:=h.1
 have hx:x.length=x.cps.toList.length:=by rw[aap];rfl
 refine key _ _ (by rw[aap,hz,abV,hx]) λi u hu=>?_
 have ZW:acc[i]?=some u:=by simpa using hu
 obtain⟨c,tk,hc,rfl⟩:=h.2 i u ZW
 have hi:i<x.cps.toList.length:=by
  have:=(abn.mp ZW).1
  omega
 refine⟨c,tk,?_,O⟩
 rw[List.getElem?_reverse hi,←hx]
 simpa using hc
end
section
variable{prog:Program}{w:World}{A:Around}{E:Value->Shared->Prop}{s:Shared}
end
theorem KG{K:W.Frag}{a:Addr}{xs:List V}{g:TG}{tt:TT}{te:TE}{Q:VK}{D:Addr}{τ:St}{H:Hp}(Pv:Nat->List V->St->Hp->Prop)(h0:Pv 0 [] τ (upd H D (.lst [])))(hl:∀i ys τ H,i<=xs.length->Pv i ys τ H->aN K H a xs/\H D=some (.lst ys))(hs:∀i x ys τ H,xs[i]?=some x->Pv i ys τ H->g x τ H λτ2 H2=>tt τ2 H2 λb H3=>if b=true then te τ2 H3 λy H4=>H4 D=some (.lst ys)/\ys.length<sizeLine/\Pv (i+1) (ys++[y]) τ2 (upd H4 D (.lst (ys++[y]))) else Pv (i+1) ys τ2 H3)(hd:∀ys τ H,Pv xs.length ys τ H->Q (.ref D) H):Au (RE K a) g tt te Q D τ H:=by
 refine⟨λi m ys τ H=>m=xs.length-i/\i<=xs.length/\Pv i ys τ H,⟨xs.length,by simp,aaM _,h0⟩,?_⟩
 rintro i m ys τ H ⟨rfl,hi,p⟩
 obtain⟨q,hD⟩:=hl i ys τ H hi p
 refine⟨hD,?_⟩
 by_cases hlt:i<xs.length
 ·refine .inr ⟨⟨xs,xs[i],q,by simp[hlt]⟩,Pv (i+1),λzs σ' H' p'=>⟨xs.length-(i+1),by omega,rfl,hlt,p'⟩,λx H' y=>?_⟩
  obtain⟨e,y⟩:=y
  subst e
  exact hs i x ys τ _ (y xs q) p
 ·have e:i=xs.length:=by omega
  subst e
  exact .inl ⟨⟨xs,q,aan _⟩,hd ys τ H p⟩
def WM(h₀:Heap)(H:Hp)(h:Heap)(e:Addr)(vs:Array Value):Option Value->Prop
 |none=>vs[1]?=some .none/\vs[2]?=some .none
 |some v=>∃T oT ts,vs[1]?=some (.ref T)/\H T=none/\h₀.get? T=none/\T≠e/\h.get? T=some oT/\oT.data=.fields ts/\ts[3]?=some v/\vs[2]?=some .none
structure Exc(h₀:Heap)(H:Hp)(h:Heap)(e:Addr)(C:Value)(od:Option Addr)(fl:Option Value):Prop where
 fr:H e=none
 nw:h₀.get? e=none
 tr:∃oe vs,h.get? e=some oe/\oe.cls=C/\oe.dict=od/\oe.data=.fields vs/\WM h₀ H h e vs fl
structure Mv(fs ch:List Addr)(h h':Heap):Prop where
 keep:∀b o,b∉ch->b∉fs->h.get? b=some o->h'.get? b=some o
 slot:∀b o,b∉ch->h.get? b=some o->∃sl,h'.get? b=some {o with slots:=sl}
 there:∀b o,h.get? b=some o->∃o',h'.get? b=some o'
theorem Mv.trans{fs ch:List Addr}{h h1 h2:Heap}(a:Mv fs ch h h1)(b:Mv fs ch h1 h2):Mv fs ch h h2 :=
 ⟨λc o n1 n2 q=>b.keep c o n1 n2 (a.keep c o n1 n2 q),λc o n q=>let ⟨sl,q1⟩:=a.slot c o n q;let ⟨sl2,q2⟩:=b.slot c _ n q1;⟨sl2,q2⟩,λc o q=>let ⟨o1,q1⟩:=a.there c o q;b.there c o1 q1⟩
section
variable{M:Model}{A:Around}{E:Value->Shared->Prop}{s:Shared}{base:Heap}{env:Env}{outer:List Env}{L e:Addr}{Q:Unit->Shared->Prop}
end
section
variable{M:Model}{A:Around}{E:Value->Shared->Prop}{s:Shared}{base h₀:Heap}{H:Hp}{env:Env}{outer:List Env}{L e:Addr}{C:Value}{od:Option Addr}{Q:Unit->Shared->Prop}
end
section
variable{X:Cx}{pins:List (Addr×Obj)}{σ σ':St}{H H':Hp}{s s1:Shared}
end
section
variable{P:Program}{w:World}{K:W.Frag}{mg:Str->Option Value}{base:Heap}{N:List Str}{qual:Str}{scope:Scope}{f:Addr}{cd:Value}{A:Around}{outer:List Env}{s:Shared}{H:Hp}{E:XK}
end
theorem cU.ex{P:Program}{w:World}{H:Hp}{h:Heap}{a:Addr}{o:HO}(x:cU P w H h a o):∃u,h.get? a=some u:=by
 cases o with
 |lst xs=>obtain⟨_,_,_,_,e⟩:=x;exact⟨_,e⟩
 |tup xs=>obtain⟨_,_,_,ob,e,_⟩:=x;exact⟨_,e⟩
 |dK kvs=>obtain⟨_,_,_,_,o,_,_,e,_⟩:=x;exact⟨_,e⟩
 |dT kvs=>obtain⟨_,_,_,_,o,_,_,e,_⟩:=x;exact⟨_,e⟩
 |set S n=>obtain⟨o,_,_,_,e,_⟩:=x;exact⟨_,e⟩
 |ins C dx fs=>obtain⟨_,_,_,e,_⟩:=x;exact⟨_,e⟩
 |own y=>exact x
 |xd fs=>obtain⟨_,⟨_,_,_,e,_⟩,_⟩:=x;exact⟨_,e⟩
 |Ve lo hi=>obtain⟨_,_,_,e⟩:=x;exact⟨_,e⟩
 |EA ob u=>obtain⟨e,_⟩:=x;exact⟨_,e⟩
 |Oz ps=>exact⟨_,x⟩
 |met f y=>exact⟨_,x⟩
 |ext φ=>exact x.2.1
theorem vt.none{P:Program}{w:World}{H:Hp}{h:Heap}{a:Addr}(x:vt P w H h)(e:h.get? a=Option.none):H a=Option.none:=by
 cases q:H a with
 |none=>rfl
 |some u=>obtain⟨o,z⟩:=(x a u q).ex;rw[e]at z;cases z
abbrev Nc:List Value:=[.type "ValueError",.type "Exception",.type "BaseException",.type "object"]
structure Vu(K:W.Frag)(C N:Addr)(bm:List Value)(ini:Option Value):Prop where
 ob:∃nm q bs hdct sn sub ab col dd k0 k1 k2 k3 k5,K.lookup C=some (excClassObj nm q C N bs bm hdct sn sub ab col dd k0 k1 k2 k3 k5 "ValueError.__new__")
 ns:∃oc od es n sl,K.lookup N=some ⟨oc,od,.dict es n,sl⟩/\(es.toList.all λe=>match e.key with | .str _ _=>true|_=>false)=true
 ini:W.nsIn K N "__init__"=some ini
section
variable{K:W.Frag}{h:Heap}{C N:Addr}{bm:List Value}{ini:Option Value}
end
section
variable{P:Program}{w:World}{K:W.Frag}{mg:Str->Option Value}{base:Heap}{N0:List Str}{qual:Str}{scope:Scope}{f:Addr}{cd:Value}{A:Around}{outer:List Env}{s0:Shared}{H0:Hp}{E:XK}
end
section
abbrev TEx:=St->Hp->VK->XK->Prop
def XP(X:Cx)(pins:List (Addr×Obj))(σ:St)(Ex:XK)(e:Value)(s':Shared):Prop :=
 ∃ea C od H' s2 H2,e=.ref ea/\Inv X pins σ H2 s2/\Inv X pins σ H' s'/\(∀b o,s2.heap.get? b=some o->∃o',s'.heap.get? b=some o')/\Exc s2.heap H' s'.heap ea C od (some .none)/\Ex C od H'
variable{X:Cx}{k:Nat}{f C:Addr}{fd:FuncData}{ps:List Str}{sp:Sp}{zk:List V}{ds:List Value}{x m:Str}{p pos apos:Pos}{e o:Expr}{es:List Expr}{ta:TE}{t:TA}{te:TEx}
end
section
variable{X:Cx}{pins:List (Addr×Obj)}{σ σ':St}{H H':Hp}{s s1:Shared}
end
section
variable{M:Model}{A:Around}{E:Value->Shared->Prop}{K:W.Frag}{s:Shared}{C D N N' ea:Addr}{bm bm':List Value}{ini aac:Option Value}{Q:Bool->Shared->Prop}
end
section
variable{X:Cx}{pins:List (Addr×Obj)}{σ:St}{H:Hp}{s:Shared}{ea:Addr}
end
end L2
set_option maxHeartbeats 1000000
namespace L2
open PySem PySem.Spec PyProof.Rows PySem.Builtin PySem.Builtin.ObjectAttr
section
variable{P:Program}{w:World}{A:Around}{E:Value->Shared->Prop}{s:Shared}{K:W.Frag}{C N x:Addr}{bm:List Value}{ini:Option Value}{f:Str}{v:Value}{ox:Obj}{vs:Array Value}
theorem Vu.cls(c:Vu K C N bm ini)(h:W.hasDictIn K C=true):∃cd,W.clsIn K C=some cd/\cd.mro=.ref C::bm/\cd.hasDict=true:=by
 obtain⟨nm,q,bs,hdct,sn,sub,ab,col,dd,k0,k1,k2,k3,k5,lk⟩:=c.ob
 obtain⟨cd,hc,hd⟩:=W.any_some h
 refine⟨cd,hc,?_,hd⟩
 unfold W.clsIn at hc
 rw[lk]at hc
 cases hc
 rfl
end
section
variable{P:Program}{w:World}{A:Around}{E:Value->Shared->Prop}{K:W.Frag}{C N fI:Addr}{bm:List Value}{us:List Value}
end
section
variable{X:Cx}{pins:List (Addr×Obj)}{σ:St}{H:Hp}{s:Shared}{a:Addr}{φ:Heap->Prop}
end
section
variable{X:Cx}{e:Expr}{te:TE}{pos:Pos}
end
section
variable{X:Cx}{C N D fI:Addr}{bm:List Value}{ini:Option Value}{x f:Str}{np ap pos cpos pos':Pos}{e o value a1 a2:Expr}{es:List Expr}{t:TA}{ta tv te:TE}
end
section
variable{P:Program}{w:World}{K:W.Frag}{mg:Str->Option Value}{base:Heap}{N0:List Str}{qual:Str}{scope:Scope}{f:Addr}{cd:Value}{A:Around}{outer:List Env}{s0:Shared}{H0:Hp}{E:XK}
end
open PySem PySem.Spec PyProof.Rows
structure Tr(k:Nat)(A:Around):Prop where
 dp:A.depth+3*k+5<recursionLimit
 un:A.units+16*k+200<cLine
theorem fK.m{k:Nat}{A:Around}(r:fK k A):Tr k A:=⟨r.dp,r.un⟩
section
variable{P:Program}{w:World}{K:W.Frag}{mg:Str->Option Value}{base:Heap}
end
section
variable{X:Cx}{k:Nat}{f:Addr}{fd:FuncData}{ps:List Str}{sp:Sp}{x:Str}{p pos:Pos}{e:Expr}{es:List Expr}{t:TA}
end
end L2
set_option maxHeartbeats 4000000
namespace L2
open PySem PySem.Spec PyProof.Rows
section
variable{prog:Program}{w:World}{A:Around}{E:Value->Shared->Prop}{s:Shared}
end
section
variable{prog:Program}{w:World}{A:Around}{E:Value->Shared->Prop}{s:Shared}
end
end L2
set_option synthInstance.maxSize 100000
set_option synthInstance.maxHeartbeats 400000
namespace L2
open PySem PySem.Spec PyProof.Rows
section
variable{X:Cx}{K:Type}[DecidableEq K]{F:W.Frag}{Z:iN X.prog X.w K}
end
abbrev ZP(P:Program)(w:World):=stepK (stepK (ZM P w))
abbrev YP(P:Program)(w:World)(F:W.Frag):ko F (ZP P w):=mG (mG (YM P w F))
theorem bw(P:Program)(w:World):(ZP P w).cP+1<=8:=by show 4<=8;decide
theorem hp1{A:Around}{P:Program}{w:World}(h:A.units+64<cLine):A.units+((ZP P w).cP+1)<cLine:=by show A.units+4<cLine;omega
theorem hp2{A:Around}{P:Program}{w:World}(h:A.units+64<cLine):A.units+1+((ZP P w).cP+1)<cLine:=by show A.units+1+4<cLine;omega
section
variable{P:Program}{w:World}{F:W.Frag}{H:Hp}
end
section
variable{prog:Program}{w:World}{A:Around}{E:Value->Shared->Prop}{s:Shared}{d ep:Nat}{od:Obj}{es:Array DictEntry}
end
section
variable{X:Cx}{P:Program}{w:World}{K:Type}[DecidableEq K]{F:W.Frag}{Z:iN P w K}
end
section
variable{prog:Program}{w:World}{A:Around}{E:Value->Shared->Prop}{s:Shared}{d ep:Nat}{od:Obj}{es:Array DictEntry}
end
section
variable{prog:Program}{w:World}{A:Around}{E:Value->Shared->Prop}{s:Shared}{d ep:Nat}{od:Obj}{es:Array DictEntry}
end
section
variable{X:Cx}{P:Program}{w:World}{K:Type}[DecidableEq K]{F:W.Frag}{Z:iN P w K}
end
section
variable{X:Cx}{K:Type}[DecidableEq K]{F:W.Frag}{Z:iN X.prog X.w K}
def KH{K:Type}[DecidableEq K](ks:List K)(k:K):Bool:=ks.any λx=>decide (x=k)
theorem Nf(Y:ko F Z){pins:List (Addr×Obj)}{σ:St}{H:Hp}{s:Shared}(hF:X.K=F)(I:Inv X pins σ H s){kx:K}{x:V}{u:Value}(rx:RelV x u)(hx:Y.on H kx x){ks:List K}{ws:List V}{its:List Value}(pk:Paired (λk v=>Y.on H k v) ks ws)(rw':Vals ws its)(hu:X.A.units+1+Z.cP<cLine):∃e:Value->Bool,(∀v∈its,SeqAt.EqAt X.A.in1 s v u (e v))/\its.any e=KH ks kx:=by
 have hxi:=Y.ok hF I rx hx
 have key:∀{ks:List K}{ws:List V}{its:List Value},Paired (λk v=>Y.on H k v) ks ws->Vals ws its->Paired (λk v=>Z.is s.heap k v) ks its:=by
  intro ks ws its a b
  exact Paired.HG (nE a b) λk u ⟨v,p,q⟩=>Y.ok hF I q p
 have pi:=key pk rw'
 clear pk rw' key
 refine⟨λv=>@decide (Z.is s.heap kx v) (Classical.propDecidable _),λv hv=>?_,?_⟩
 ·have h:∃k,Z.is s.heap k v:=by
   induction pi with
   |nil=>cases hv
   |cons a _ ih =>
    rcases aaB.mp hv with q|q
    ·rw[q];exact⟨_,a⟩
    ·exact ih q
  obtain⟨k,hk⟩:=h
  have q:=Z.eq (A:=X.A.in1) (s:=s) (by show X.A.units+1+Z.cP<cLine;omega) hk hxi
  by_cases e:k=kx
  ·rw[aas e]at q
   have e2:@decide (Z.is s.heap kx v) (Classical.propDecidable _)=true:=@decide_eq_true _ (Classical.propDecidable _) (by rw[←e];exact hk)
   dsimp only
   rw[e2];exact q
  ·rw[aak e]at q
   have e2:@decide (Z.is s.heap kx v) (Classical.propDecidable _)=false:=@decide_eq_false _ (Classical.propDecidable _) (λz=>e (Z.inj hk z))
   dsimp only
   rw[e2];exact q
 ·induction pi with
  |nil=>rfl
  |@cons k v ks its a r ih =>
   unfold KH at *
   rw[abR,abR,ih]
   congr 1
   by_cases e:k=kx
   ·rw[aas e];exact@decide_eq_true _ (Classical.propDecidable _) (by rw[←e];exact a)
   ·rw[aak e];exact@decide_eq_false _ (Classical.propDecidable _) (λz=>e (Z.inj a z))
end
section
variable{P:Program}{w:World}{K:Type}[DecidableEq K]
end
section
variable{X:Cx}{K:Type}[DecidableEq K]{Z:iN X.prog X.w K}{hl:Z.cP+1<=8}
end
inductive Vv(K:W.Frag)(H:Hp):V->Value->Prop where
 |of {x:V}{t:Value} (h:p8 K H x t):Vv K H x t
 |WN {a:Addr}{xs:List V} (h:aN K H a xs):Vv K H (.ref a) (.type "tuple")
 |sql {a:Addr}{xs:List V} (h:bK K H a xs):Vv K H (.ref a) (.type "list")
section
variable{X:Cx}
def WO(K:W.Frag):List V->Hp->VK->Prop:=λxs H Q=>∃x n t b,xs=[x,.ty n]/\Vv K H x t/\W.kitOne K t (.type n)=some b/\Q (.bl b) H
theorem rm(K:W.Frag)(h:X.K=K):gJ X (.builtin "isinstance") (WO K):=by
 subst h
 intro pins s σ H xs vs Q I rx q
 obtain⟨x,n,t,b,rfl,ty,e,q⟩:=q
 cases ty with
 |of ty=>exact dz X.K rfl pins s σ H _ vs Q I rx ⟨x,_,t,b,rfl,ty,.inl ⟨n,rfl,e⟩,q⟩
 |@WN a xs ha =>
  obtain⟨its,r,⟨o,h1,h2,_⟩,_⟩:=I.tuple ha
  cases rx with
  |cons r1 r2 =>
  cases r2 with
  |cons r2 r3 =>
  cases r1;cases r2;cases r3
  exact abv W.kitx_tuple I.qS ⟨o,h1,h2⟩ e (λz=>nomatch z) λtk=>⟨.bl b,H,I.tok _,rfl,q⟩
 |@sql a xs ha =>
  obtain⟨its,r,p,_⟩:=I.list ha
  cases rx with
  |cons r1 r2 =>
  cases r2 with
  |cons r2 r3 =>
  cases r1;cases r2;cases r3
  obtain⟨o,h1,h2⟩:∃o,s.heap.get? a=some o/\o.cls=.type "list":=by
   obtain⟨o,h1,h2,_⟩:=p.isList
   exact⟨o,h1,h2⟩
  exact abv W.kitx_list I.qS ⟨o,h1,h2⟩ e (λz=>nomatch z) λtk=>⟨.bl b,H,I.tok _,rfl,q⟩
end
section
variable{P:Program}{w:World}{K:Type}[DecidableEq K]{F:W.Frag}{Z:iN P w K}
structure Ng(Y:ko F Z)(hl:Z.cP+1<=8)(H:Hp)(a:Addr)(kvs:List (N3 K)):Prop where
 ob:H a=some (dN Z hl a kvs)\/∃o,H a=some (dX Z hl a kvs o)
 keys:∀e∈kvs,mF Y H e.1 e.2.1
theorem Nd.x{Y:ko F Z}{hl:Z.cP+1<=8}{H:Hp}{a:Addr}{kvs:List (N3 K)}(d:Nd Y hl H a kvs):Ng Y hl H a kvs:=⟨.inl d.ob,d.keys⟩
def OS(Z:iN P w K)(hl:Z.cP+1<=8):TE:=λ_ H Q=>∀p,H p=none->Q (.ref p) (upd H p (dN Z hl p []))
def Tt(neg:Bool)(Y:ko F Z)(hl:Z.cP+1<=8)(ty td:TE):TE:=λσ H Q=>ty σ H λy H1=>td σ H1 λx H2=>∃a kvs k b,x=.ref a/\y=.ref b/\Ng Y hl H2 a kvs/\mF Y H2 k b/\Q (.bl (if neg then !(valN kvs k).isSome else (valN kvs k).isSome)) H2
end
section
variable{X:Cx}{K:Type}[DecidableEq K]{F:W.Frag}{Z:iN X.prog X.w K}{Y:ko F Z}{hl:Z.cP+1<=8}{i o:Expr}{ty td:TE}{pos:Pos}
theorem Ng.of{H:Hp}{a:Addr}{kvs:List (N3 K)}{pins:List (Addr×Obj)}{σ:St}{s:Shared}(hF:X.K=F)(I:Inv X pins σ H s)(d:Ng Y hl H a kvs):kvs.length<=sizeLine/\(a==sysModules)=false/\∃xs,tZ kvs xs/\s.heap.DictOfH (pH Z hl) a xs:=by
 have nd:Ay Z hl a kvs s.heap:=by
  rcases d.ob with q|⟨ob,q⟩
  ·exact(show cU X.prog X.w H s.heap a (dN Z hl a kvs) from I.hok a _ q).1
  ·exact(KC I q).1
 obtain⟨z,y,xs,r,o,es,ep,h1,h2,h3,h4,h5⟩:=nd
 refine⟨z,y,xs,r,o,es,ep,h1,h2,h3,h4,λx hx=>?_,h5⟩
 obtain⟨p,hp,e1,e2⟩:=Dk r x hx
 have:=(d.keys p hp).is hF I
 rw[e1,e2]at this
 exact this
theorem Nh:PE X (.Dict [] [] pos) (OS Z hl):=λpins s σ H Q I h=>by
 have hn:=I.hok.fresh (aan s.heap.objs.size)
 have y0:(s.heap.objs.size==sysModules)=false:=abF.mpr (abD (aaR I.big))
 have I1:=I.laid (a:=s.heap.objs.size) (o:=dN Z hl s.heap.objs.size []) (h':=s.heap.push {cls:=.type "dict",data:=.dict #[]}) (t':=s.toks) (λ_ _ q=>aar _ q) (aan _) (G0 (xs:=[]) (aaM _) y0 .nil (Heap.DictOfH.new s.heap))
 exact wpAny_Dict_empty ⟨.ref s.heap.objs.size,_,I1,rfl,h _ hn⟩
theorem Qk(Y:ko F Z)(hl:Z.cP+1<=8)(hF:X.K=F)(hu:X.A.units+1+(Z.cP+1)<cLine)(hi:PE X i ty)(ho:PE X o td):PC X .In i o (Tt false Y hl ty td):=by
 intro pins s σ H Q I h
 refine cy (hi pins s σ H _ I h) λiv s1 ⟨y,H1,I1,ry,q1⟩=>cy (ho pins s1 σ H1 _ I1 q1) λu s2 ⟨x,H2,I2,rx,a,kvs,k,b,ex,ey,d,e,q2⟩=>?_
 subst ex ey
 obtain rfl:u=Value.ref a:=rx
 obtain rfl:iv=Value.ref b:=ry
 obtain⟨z,y,xs,rel,dd⟩:=d.of hF I2
 refine wpAny_in_heap (knd:=pH Z hl) hu (e.is hF I2) y dd ?_
 have q:=(nF (k:=k) rel).tY
 rw[Option.isSome_map]at q
 rw[←q]
 exact⟨.bl (valN kvs k).isSome,H2,I2.tok _,O,q2⟩
end
section
variable{X:Cx}{P:Program}{w:World}{K:Type}[DecidableEq K]{F:W.Frag}{Z:iN P w K}{i o:Expr}{ty td:TE}{pos:Pos}
theorem KI(Z:iN P w K)(hl:Z.cP+1<=8)(hP:X.prog=P)(hw:X.w=w):PE X (.Dict [] [] pos) (OS Z hl):=by subst hP hw;exact Nh
theorem G8(Y:ko F Z)(hl:Z.cP+1<=8)(hP:X.prog=P)(hw:X.w=w)(hF:X.K=F)(hu:X.A.units+1+(Z.cP+1)<cLine)(hi:PE X i ty)(ho:PE X o td):PC X .In i o (Tt false Y hl ty td):=by
 subst hP hw;exact Qk Y hl hF hu hi ho
end
section
variable{X:Cx}{K:Type}[DecidableEq K]{F:W.Frag}{Z:iN X.prog X.w K}
end
section
variable{X:Cx}{pins:List (Addr×Obj)}{σ:St}{H:Hp}{s:Shared}
end
section
variable{X:Cx}{elt tg iter:Expr}{ifs:List Expr}{scope:Scope}{pos:Pos}{N:List Str}{nv:Nat}{js:List Nat}{wi:TI}{g:TG}{tt:TT}{te:TE}
end
section
variable{prog:Program}{w:World}{A:Around}{E:Value->Shared->Prop}{s:Shared}
theorem KJ{t b:Addr}{ws:List Value}{Q:Value->Shared->Prop}(ht:IsTup s.heap t #[])(hb:IsTup s.heap b ws.toArray)(h:Q (.ref b) s):wpAny (model prog w) A (binaryOp .Add (.ref t) (.ref b)) Q E s:=by
 obtain⟨⟨cls,dd,data,sl⟩,ho,hc,n,hd⟩:=id ht
 obtain⟨⟨Wl,dd2,data2,sl2⟩,ho2,hc2,n2,hd2⟩:=id hb
 simp only at hc hd hc2 hd2
 subst hc hd hc2 hd2
 exact concat_meets ⟨_,ho,rfl⟩ ⟨_,ho2,rfl⟩ noFill_tuple_add seq_tuple_add PySem.F.slot_tuple_add PySem.F.entry_tuple_add (PySem.F.args_tuple_add_2 _ _)
   (tuple_addW0 t b #[] ws.toArray n n2 dd dd2 sl sl2 rfl) ⟨ho,ho2,h⟩
end
section
variable{X:Cx}
def Tu(K:W.Frag):R2:=λx y H Q=>∃a b xs ys,x=.ref a/\y=.ref b/\aN K H a xs/\aN K H b ys/\xs.length+ys.length<=sizeLine/\∀v H',aI H H'->(∃p,v=.ref p/\aN K H' p (xs++ys))->Q v H'
theorem G9(K:W.Frag)(hK:X.K=K):jx X (binaryOp .Add) (Tu K):=by
 intro pins s σ H x y v u Q I rx ry h
 obtain⟨a,b,xs,ys,rfl,rfl,ha,hb,hz,q⟩:=h
 by_cases hx:xs=[]
 ·subst hx
  cases rx
  cases ry
  obtain⟨its,r1,p1,_⟩:=I.tuple (by rw[hK];exact ha)
  obtain⟨its2,r2,p2,_⟩:=I.tuple (by rw[hK];exact hb)
  have e:its=[]:=r1.xJ.mpr rfl
  subst e
  exact KJ p1 p2 ⟨.ref b,H,I,rfl,q _ _ (aI.refl _) ⟨b,rfl,hb⟩⟩
 ·refine MH pins s σ H _ _ v u Q I rx ry ⟨a,b,xs,ys,rfl,rfl,by rw[hK];exact ha,by rw[hK];exact hb,hx,hz,λe=>?_,λe p hp=>?_⟩
  ·subst e;exact q _ _ (aI.refl _) ⟨a,rfl,by rw[aaH];exact ha⟩
  ·exact q _ _ (λb o e=>(aH (λz=>by rw[z,hp]at e;cases e)).trans e) ⟨p,rfl,aN.of ak⟩
end
section
variable{X:Cx}{K:Type}[DecidableEq K]{F:W.Frag}{Z:iN X.prog X.w K}
def WQ{P:Program}{w:World}{K:Type}[DecidableEq K]{F:W.Frag}{Z:iN P w K}(Y:ko F Z):R2:=λx y H Q=>∃b' ks',y=.ref b'/\mF Y H ks' b'/\((x=.non/\Q (.bl true) H)\/∃b ks,x=.ref b/\mF Y H ks b/\Q (.bl (!decide (ks=ks'))) H)
theorem Ql(Y:ko F Z)(hF:X.K=F)(hu:X.A.units+(Z.cP+1)<cLine):jx X (compareOp .NotEq) (WQ Y):=by
 intro pins s σ H x y v u Q I rx ry h
 obtain⟨b',ks',rfl,e2,h⟩:=h
 rcases h with ⟨rfl,q⟩|⟨b,ks,rfl,e1,q⟩
 ·cases rx;cases ry
  obtain⟨o',items',n',Qc,h2',h3',M0⟩:=e2.is hF I
  show wpAny _ _ (richCompare .NotEq .none (.ref b')) _ _ _
  exact SeqAt.RcNeAt.none_tuple ⟨o',Qc,h2',n',h3'⟩ (by omega) _ _ _ _ ⟨.bl true,H,I,rfl,q⟩
 ·exact E4 Y hF hu pins s σ H _ _ v u Q I rx ry ⟨b,b',ks,ks',rfl,rfl,e1,e2,q⟩
end
section
variable{X:Cx}{K:Type}[DecidableEq K]{F:W.Frag}{Z:iN X.prog X.w K}
def WR{P:Program}{w:World}{K:Type}[DecidableEq K]{F:W.Frag}{Z:iN P w K}(Y:ko F Z):R2:=λx y H Q=>∃p kx ks ws,y=.ref p/\Y.on H kx x/\aN F H p ws/\Paired (λk v=>Y.on H k v) ks ws/\Q (.bl (KH ks kx)) H
theorem Qm(Y:ko F Z)(hF:X.K=F)(hu:X.A.units+1+Z.cP<cLine):jx X (compareOp .In) (WR Y):=by
 intro pins s σ H x y v u Q I rx ry h
 obtain⟨p,kx,ks,ws,rfl,hx,hp,pk,q⟩:=h
 cases ry
 obtain⟨its,r,pl,hz⟩:=I.tuple (by rw[hF];exact hp)
 obtain⟨e,h1,h2⟩:=Nf Y hF I rx hx pk r hu
 refine SeqAt.in_tupleAt e pl (λw S9=>h1 w (by simpa using S9)) ⟨.bl _,H,I,rfl,?_⟩
 rw[show its.toArray.any e=its.any e by simp,h2]
 exact q
end
abbrev aT:=Str×Str
abbrev wo:=Option (List aT×List aT)
abbrev cH:=(Option aT×Option aT)×wo
def stK:Option aT->Lf⊕List (Lf⊕List Lf)
 |none=>.inl none
 |some s=>.inr [.inl (some (.inr s.1)),.inl (some (.inr s.2))]
def OT(t:aT):Lf⊕List Lf:=.inr (kB t.1 t.2)
def uc(l:List aT):Lf⊕List (Lf⊕List Lf):=.inr (l.map OT)
def Vw:wo->Lf⊕List (Lf⊕List (Lf⊕List Lf))
 |none=>.inl none
 |some (a,b)=>.inr [uc a,uc b]
def gO(m:cH):List (Lf⊕List (Lf⊕List (Lf⊕List Lf))):=[.inr [stK m.1.1,stK m.1.2],Vw m.2]
theorem Hf{a b:Option aT}(h:stK a=stK b):a=b:=by
 cases a with
 |none=>cases b with
  |none=>rfl
  |some y=>exact nomatch h
 |some x=>cases b with
  |none=>exact nomatch h
  |some y =>
   injection h with h
   injection h with h1 h2
   injection h2 with h2 _
   injection h1 with h1;injection h1 with h1;injection h1 with h1
   injection h2 with h2;injection h2 with h2;injection h2 with h2
   rw[Prod.ext h1 h2]
theorem Ni{a b:aT}(h:OT a=OT b):a=b:=by
 injection h with h
 exact iX.mp h
theorem Hg:∀{a b:List aT},a.map OT=b.map OT->a=b
 |[],[],_=>rfl
 |[],_::_,h=>nomatch h
 |_::_,[],h=>nomatch h
 |x::a,y::b,h=>by injection h with h1 h2;rw[Ni h1,Hg h2]
theorem rq{a b:List aT}(h:uc a=uc b):a=b:=by injection h with h;exact Hg h
theorem Nj{a b:wo}(h:Vw a=Vw b):a=b:=by
 cases a with
 |none=>cases b with
  |none=>rfl
  |some y=>exact nomatch h
 |some x=>cases b with
  |none=>exact nomatch h
  |some y =>
   obtain⟨a1,a2⟩:=x
   obtain⟨b1,b2⟩:=y
   injection h with h
   injection h with h1 h2
   injection h2 with h2 _
   rw[rq h1,rq h2]
theorem Dz{m m':cH}:gO m=gO m'↔m=m':=by
 constructor
 ·obtain⟨⟨a,b⟩,c⟩:=m
  obtain⟨⟨a',b'⟩,c'⟩:=m'
  intro h
  unfold gO at h
  injection h with h1 h2
  injection h2 with h2 _
  injection h1 with h1
  injection h1 with h1 h3
  injection h3 with h3 _
  have h1:a=a':=Hf h1
  have h3:b=b':=Hf h3
  have h2:c=c':=Nj h2
  rw[h1,h3,h2]
 ·rintro rfl;rfl
section
variable{P:Program}{w:World}{F:W.Frag}{H H':Hp}
def kC(F:W.Frag)(H:Hp):Option aT->V->Prop
 |none,v=>v=.non
 |some s,v=>∃b,v=.ref b/\aN F H b [.str s.1,.str s.2]
def KL(F:W.Frag)(H:Hp)(t:aT)(v:V):Prop:=∃b,v=.ref b/\aN F H b [.str t.1,.str t.2]
def mH(F:W.Frag)(H:Hp)(l:List aT)(v:V):Prop:=∃b vs,v=.ref b/\aN F H b vs/\Paired (KL F H) l vs
def wu(F:W.Frag)(H:Hp):wo->V->Prop
 |none,v=>v=.non
 |some (x,y),v=>∃b v1 v2,v=.ref b/\aN F H b [v1,v2]/\mH F H x v1/\mH F H y v2
def dW(F:W.Frag)(H:Hp)(m:cH)(v:V):Prop:=∃b p s1 s2 mv,v=.ref b/\aN F H b [.ref p,mv]/\aN F H p [s1,s2]/\kC F H m.1.1 s1/\kC F H m.1.2 s2/\wu F H m.2 mv
theorem kC.keep{o:Option aT}{v:V}(t:∀b xs,aN F H b xs->aN F H' b xs)(h:kC F H o v):kC F H' o v:=by
 cases o with
 |none=>exact h
 |some s=>obtain⟨b,e1,e2⟩:=h;exact⟨b,e1,t _ _ e2⟩
theorem gZ(t:∀b xs,aN F H b xs->aN F H' b xs):∀{l:List aT}{vs:List V},Paired (KL F H) l vs->Paired (KL F H') l vs
 |_,_,.nil=>.nil
 |_,_,.cons ⟨b,e1,e2⟩ r=>.cons ⟨b,e1,t _ _ e2⟩ (gZ t r)
theorem mH.keep{l:List aT}{v:V}(t:∀b xs,aN F H b xs->aN F H' b xs)(h:mH F H l v):mH F H' l v:=by
 obtain⟨b,vs,e1,e2,e3⟩:=h
 exact⟨b,vs,e1,t _ _ e2,gZ t e3⟩
theorem wu.keep{o:wo}{v:V}(t:∀b xs,aN F H b xs->aN F H' b xs)(h:wu F H o v):wu F H' o v:=by
 cases o with
 |none=>exact h
 |some s=>obtain⟨b,v1,v2,e1,e2,e3,e4⟩:=h;exact⟨b,v1,v2,e1,t _ _ e2,e3.keep t,e4.keep t⟩
theorem dW.keep{m:cH}{v:V}(t:∀b xs,aN F H b xs->aN F H' b xs)(h:dW F H m v):dW F H' m v:=by
 obtain⟨b,p,s1,s2,mv,e1,e2,e3,e4,e5,e6⟩:=h
 exact⟨b,p,s1,s2,mv,e1,t _ _ e2,t _ _ e3,e4.keep t,e5.keep t,e6.keep t⟩
theorem k8{m:cH}{v:V}(h:dW F H m v):∃b,v=.ref b:=let ⟨b,_,_,_,_,e,_⟩:=h;⟨b,e⟩
theorem OU{o:Option aT}{v:V}(h:kC F H o v):(mG (YM P w F)).on H (stK o) v:=by
 cases o with
 |none=>have h:v=.non:=h;subst h;rfl
 |some s =>
  obtain⟨b,rfl,h1⟩:=h
  exact⟨b,O,_,h1,.cons rfl (.cons rfl .nil)⟩
theorem Tv{t:aT}{v:V}(h:KL F H t v):(YM P w F).on H (OT t) v:=by
 obtain⟨b,rfl,h1⟩:=h
 exact⟨b,O,iT h1⟩
theorem E9:∀{l:List aT}{vs:List V},Paired (KL F H) l vs->Paired (λk v=>(YM P w F).on H k v) (l.map OT) vs
 |_,_,.nil=>.nil
 |_,_,.cons a r=>.cons (Tv a) (E9 r)
theorem oJ{l:List aT}{v:V}(h:mH F H l v):(mG (YM P w F)).on H (uc l) v:=by
 obtain⟨b,vs,rfl,h1,h2⟩:=h
 exact⟨b,O,vs,h1,E9 h2⟩
theorem Hh{l:List aT}{b:Addr}(h:mH F H l (.ref b)):mF (YM P w F) H (l.map OT) b:=by
 obtain⟨b',vs,e,h1,h2⟩:=h
 cases e
 exact⟨vs,h1,E9 h2⟩
theorem Tw{o:wo}{v:V}(h:wu F H o v):(YP P w F).on H (Vw o) v:=by
 cases o with
 |none=>have h:v=.non:=h;subst h;rfl
 |some s =>
  obtain⟨b,v1,v2,rfl,h1,h2,h3⟩:=h
  exact⟨b,O,_,h1,.cons (oJ h2) (.cons (oJ h3) .nil)⟩
theorem Tz{x y:List aT}{b:Addr}(h:wu F H (some (x,y)) (.ref b)):mF (mG (YM P w F)) H [uc x,uc y] b:=by
 obtain⟨b',v1,v2,e,h1,h2,h3⟩:=h
 cases e
 exact⟨_,h1,.cons (oJ h2) (.cons (oJ h3) .nil)⟩
theorem Qn{o o':Option aT}{p:Addr}{s1 s2:V}(h:aN F H p [s1,s2])(h1:kC F H o s1)(h2:kC F H o' s2):mF (mG (YM P w F)) H [stK o,stK o'] p:=⟨_,h,.cons (OU h1) (.cons (OU h2) .nil)⟩
theorem oK{m:cH}{b:Addr}(h:dW F H m (.ref b)):mF (YP P w F) H (gO m) b:=by
 obtain⟨b',p,s1,s2,mv,e1,e2,e3,e4,e5,e6⟩:=h
 cases e1
 exact⟨_,e2,.cons ⟨p,O,Qn e3 e4 e5⟩ (.cons (Tw e6) .nil)⟩
end
section
variable{prog:Program}{w:World}{A:Around}{E:Value->Shared->Prop}{s:Shared}
theorem ud{R:Result->Shared->Prop}(hh:A.handled=none){I:Addr}{x:Str}{t:Tok}(hit:fM s.heap I x t ((x.length:Int)-1))(hn:x.length<=sizeLine)(hR:∀h' tk acc' c',(∀b o,b≠I->s.heap.get? b=some o->h'.get? b=some o)->h'.get? s.heap.objs.size=some {cls:=.type "list",dict:=none,data:=.seq acc' c',slots:=#[]}->Vals (x.cps.toList.reverse.map λc=>V.str (sg c)) acc'.toList->R (.ok (.ret (.ref s.heap.objs.size))) {s with heap:=h',toks:=tk}):codeAny (model prog w) A (.builtin "proto.collect" ⟨[.ref I],[]⟩) R s:=by
 refine codeAny_builtin F.entry_proto_collect ?_;rw[Around.under_plainId F.plain_proto_collect _]
 show wpAny _ A.in1 (newList [] >>= λl=>again (.builtin "list.__iadd__" ⟨[l,.ref I],[]⟩)) _ _ s;refine aah (aaT ?_)
 refine aal ⟨plainId_quiet F.plain_list_iadd _,codeAny_builtin F.entry_list_iadd ?_⟩
 rw[Around.under_plainId F.plain_list_iadd _]
 have hS:(s.heap.push {cls:=.type "list",data:=.seq #[]}).get? s.heap.objs.size=some {cls:=.type "list",data:=.seq #[]}:=aaz _ rfl
 show wpAny _ A.in1 (Builtin.List.listExtendWith (.ref s.heap.objs.size) (.ref I) (.ref s.heap.objs.size)) _ _ _
 exact Dy (R:=R) (s:={s with heap:=s.heap.push {cls:=.type "list",data:=.seq #[]}}) hh (hit.at λo e=>aar _ e) _ _ _ hS hn λh' tk acc' c' hk hS' hacc =>
  hR h' tk acc' c' (λb o hb e=>hk b o (aaR (aaw e)) hb (aar _ e)) hS' (E8 hacc)
theorem BE{Q:List Value->Shared->Prop}(hh:A.handled=none){I:Addr}{x:Str}{t:Tok}(hit:fM s.heap I x t ((x.length:Int)-1))(hn:x.length<=sizeLine)(hQ:∀h' tk its,(∀b o,b≠I->s.heap.get? b=some o->h'.get? b=some o)->Vals (x.cps.toList.reverse.map λc=>V.str (sg c)) its->Q its {s with heap:=h',toks:=tk}):wpAny (model prog w) A (collect (.ref I)) Q E s:=by
 unfold collect
 refine aah (wpAny_runValue (ud hh hit hn λh' tk acc' c' hk hS' hacc=>?_))
 show wpAny _ A (load s.heap.objs.size >>= _) _ _ _
 refine aah (wpAny_load hS' (aal ?_))
 show Q acc'.toList _
 exact hQ h' tk _ hk hacc
theorem Iq{x y:Str}{t u:Tok}{Q:Value->Shared->Prop}(hh:A.handled=none){I:Addr}(hit:fM s.heap I y u ((y.length:Int)-1))(hn:y.length<=sizeLine)(hok:(((y.cps.toList.reverse.map sg)).map (·.length)).sum+(y.cps.toList.reverse.map sg).length*x.length<=16777216)(hQ:∀h' t' k,(∀b o,b≠I->s.heap.get? b=some o->h'.get? b=some o)->Q (.str (Txt.join x (y.cps.toList.reverse.map sg)) t') {s with heap:=h',toks:=k}):wpAny (model prog w) A (call (.builtin "str.join") [.str x t,.ref I]) Q E s:=by
 refine wpAny_call (codeAny_call_builtin F.slot_str_join.plain F.entry_str_join (F.slot_str_join.check _ _ _ _ _ _ _ _ (typeIs_str _ _ _) (F.args_str_join_2 _ _) ?_))
 rw[join_tree_other]
 refine aah (wpAny_typeOf hit.typeIs ?_)
 show wpAny _ A.in1 ((pyIter (.ref I)).tryCatch _ >>= λit=>collect it >>= λitems=>joinTail x items) _ _ s
 refine aah (wpAny_tryCatch (t9 hit ?_))
 refine aah (BE (A:=A.in1) hh hit hn λh' tk its hk hv=>?_)
 have hi:StrsAre its (y.cps.toList.reverse.map sg):=qe (by rw[List.map_map];exact hv)
 obtain⟨lt,hv',ht⟩:=strsAre_values hi
 rw[hv']
 have ok:=joinOk_of hok
 rw[←ht]at ok hQ
 unfold JoinOk at ok
 rw[Bool.not_eq_true']at ok
 have g:Gives (joinTail x (strValues lt)) (joinMade x lt):=by
  have g0:=gives_joinTail x lt ok
  cases lt with
  |nil=>exact g0
  |cons p r=>cases r with
   |nil=>exact g0
   |cons q r'=>exact g0
 exact g prog w A (wants Q E) _ (post_join lt ⟨joinFit_length ok,λt' k=>hQ h' t' k hk⟩)
end
section
variable{X:Cx}{e:Expr}
def Ir(tx:TE)(ta:TA):TE:=λσ H Q=>tx σ H λx H0=>∃z,x=.str z/\ta σ H0 λvs H1=>∃y:Str,vs=[.str y]/\y.length<=1000000/\z.length=0/\Q (.str (Txt.join z (y.cps.toList.reverse.map sg))) H1
theorem nH{o:Expr}{apos p2 pos2 cpos:Pos}{tx:TE}{ta:TA}(hc:X.calm=true)(Ti:Gl X "reversed")(hm2:X.mg "reversed"=none)(hx:PE X o tx)(ha:PA X [e] ta)(hbase:attributeBase o "join" X.env (eval o X.env)=eval o X.env:=by rfl)(hfew:((backTo cpos (starEach [.Call (.Name "reversed" p2) [e] [] pos2] X.env)).all (λx=>!x.1)&&(backToKw cpos (keywordEach [] X.env)).all (λx=>x.1.isSome)
   && decide (([.Call (.Name "reversed" p2) [e] [] pos2]:List Expr).length+([]:List Keyword).length+(if ([]:List Keyword).isEmpty then 0 else 1)<30))=true:=by rfl)(hline:(apos.endLine==cpos.line)=true:=by rfl)(h1:starEach [.Call (.Name "reversed" p2) [e] [] pos2] X.env=[(false,eval (.Call (.Name "reversed" p2) [e] [] pos2) X.env)]:=by rfl)(h2:starEach [e] X.env=[(false,eval e X.env)]:=by rfl):PE X (.Call (.Attribute o "join" apos) [.Call (.Name "reversed" p2) [e] [] pos2] [] cpos) (Ir tx ta):=by
 intro pins s σ H Q I h
 refine wpAny_Call_method_late hbase hfew hline rfl (cy (hx pins s σ H _ I h) λv s1 ⟨x,H0,I0,r0,z,hz,q0⟩=>?_)
 subst hz
 obtain⟨t1,t2⟩:=ET I0 r0 (T:="str") rfl
 refine⟨"str","str.join",F.plainAttrs_str,F.slot_str_join,O,t1,t2,?_⟩
 rw[h1]
 refine Calls.callWith_builtin rfl (Calls.evalArgs_plain ?_)
 refine Calls.spliced_cons ?_
 refine abL (p7 I0 Ti hm2 boot_reversed ?_ (by decide) (by decide))
 refine abu (cy (ha pos2 pins s1 σ H0 _ I0 q0) λus s2 ⟨vs,H1,I1,r1,q1⟩=>?_) h2 rfl
 obtain⟨y,rfl,hy,hz0,q⟩:=q1
 obtain⟨u,rfl,tu,rfl⟩:=vals1 r1
 have hys:y.length<=sizeLine:=aaq hy (by decide)
 have hfit:¬(y.length:Int)>=2 ^ 63:=by
  have:sizeLine<2 ^ 63:=by decide +kernel
  omega
 refine zx hfit ?_
 refine Calls.spliced_nil ?_
 have hnew:s2.heap.objs.size<=s2.heap.objs.size:=aan _
 have I2:Inv X pins σ H1 {s2 with heap:=s2.heap.push (KD y tu ((y.length:Int)-1)),toks:=s2.toks+1+1}:=I1.kept (t':=s2.toks+1+1) λb o e=>aar _ e
 have f0:=I1.zo hnew (I1.hok.fresh hnew)
 obtain⟨t0,rfl⟩:=r0
 have hsum:((y.cps.toList.reverse.map sg).map (·.length)).sum=y.length:=by
  have key:∀l:List Nat,((l.map sg).map (·.length)).sum=l.length:=λl=>by
   induction l with
   |nil=>rfl
   |cons c l ih=>rw[abe,abe,List.sum_cons,ih,aaF,show(sg c).length=1 from rfl];omega
  rw[key,abV,aap];rfl
 refine Iq (I.ok.hd hc) ⟨_,aaz _ rfl,rfl,rfl⟩ hys (by rw[hsum,hz0,Nat.mul_zero];omega) λh' t' tk hk=>?_
 have I4:=I2.turned (t':=tk) (h':=h') (it:=s2.heap.objs.size) hk f0.1 f0.2.1 f0.2.2.2.1 f0.2.2.2.2.1 f0.2.2.2.2.2
 exact⟨.str _,_,I4,⟨t',O⟩,q⟩
end
section
variable{X:Cx}{P:Program}{w:World}{K:Type}[DecidableEq K]{F:W.Frag}{Z:iN P w K}
end
theorem Vx{x:Str}:[x].Nodup:=.cons (λy hy=>nomatch hy) .nil
section
variable{X:Cx}
theorem nt(i:Nat){x:Str}{pos:Pos}(hN:X.N.Nodup)(hi:X.N[i]?=some x:=by rfl)(hx:Loc X.env.scope x:=by first|exact .inl rfl|exact .inr rfl)(hf:X.fn x=true\/X.env.scope.names.lookup x=some .local:=by first|exact .inl rfl|exact .inr rfl|assumption):PG X (.Name x pos) (ck i):=Mw hN hi hx hf
theorem di(i:Nat){x:Str}{e:Expr}{te:TE}{pos pos':Pos}(hN:X.N.Nodup)(he:PE X e te)(hi:X.N[i]?=some x:=by rfl)(hx:Loc X.env.scope x:=by first|exact .inl rfl|exact .inr rfl)(hs:swapsWith e (some (.Name x pos')) pos.line X.env=pure false:=by rfl)(hf:X.fn x=true\/X.env.scope.names.lookup x=some .local:=by first|exact .inl rfl|exact .inr rfl|assumption):PS X (.Assign [.Name x pos'] e pos) (Mx te (ck i)):=Pj hN hi hx he hs hf
theorem OV{XN:List Str}{RK:Scope}{N:List Str}{nv:Nat}{js:List Nat}{scope:Scope}(kind:scope.kind=.function:=by rfl)(cell:∀y∈scope.names,y.2≠.cell:=by decide +kernel)(loc:∀y∈scope.names,y.2=.local->scope.names.lookup y.1=some .local:=by decide +kernel)(free:∀y∈scope.names,y.2=.free->(RK.names.lookup y.1=some .cell\/RK.names.lookup y.1=some .free):=by decide +kernel)(nd:N.Nodup:=by decide +kernel)(len:N.length=nv+js.length:=by rfl)(pl:js.map (λj=>XN[j]?)=(N.drop nv).map some:=by rfl)(fr:∀x∈N.drop nv,scope.names.lookup x=some .free:=by decide +kernel):cz XN RK N nv js scope:=⟨kind,cell,loc,free,nd,len,pl,fr⟩
theorem tO{id:String}{r:List V->Hp->VK->Prop}{x:Str}{e:Expr}{es:List Expr}{t:TA}{p pos:Pos}(hc:gJ X (.builtin id) r)(hm:X.mg x=none)(ha:PA X (e::es) t)(hg:Gl X x:=by rfl)(hv:bootBuiltins x=some (.builtin id):=by decide +kernel)(hn:x ≠ "__name__":=by decide)(hdb:(x==("__debug__":Str))=false:=by decide)(he:starEach (e::es) X.env=(false,eval e X.env)::starEach es X.env:=by rfl)(hpl:(backTo pos (starEach es X.env)).any (·.1)=false:=by rfl):PE X (.Call (.Name x p) (e::es) [] pos) (Vl r t):=JP hc hg hm hv ha hn hdb he hpl
theorem ZX{T:String}{r:List V->Hp->VK->Prop}{x:Str}{e:Expr}{es:List Expr}{t:TA}{p pos:Pos}(hc:gJ X (.type T) r)(hm:X.mg x=none)(ha:PA X (e::es) t)(hg:Gl X x:=by rfl)(hv:bootBuiltins x=some (.type T):=by decide +kernel)(hn:x ≠ "__name__":=by decide)(hdb:(x==("__debug__":Str))=false:=by decide)(he:starEach (e::es) X.env=(false,eval e X.env)::starEach es X.env:=by rfl)(hpl:(backTo pos (starEach es X.env)).any (·.1)=false:=by rfl):PE X (.Call (.Name x p) (e::es) [] pos) (Vl r t):=HR hc hg hm hv ha hn hdb he hpl
theorem Nk(n:String){x:Str}{pos:Pos}(hm:X.mg x=none)(hg:Gl X x:=by rfl)(hv:bootBuiltins x=some (.type n):=by decide +kernel)(hn:x ≠ "__name__":=by decide)(hd:(x==("__debug__":Str))=false:=by decide):PE X (.Name x pos) (tC (.ty n)):=PY n hg hm hv hn hd
theorem dY{k kk:Nat}{f:Addr}{fd:FuncData}{ps:List Str}{sp:Sp}{x:Str}{e:Expr}{es:List Expr}{t:TA}{p pos:Pos}(F:bh X.prog X.w X.K X.mg X.base fE k f fd ps sp)(hr:fK kk X.A)(hm:X.mg x=some (.ref f))(hk:W.keepIn X.K (.ref f)=true)(hb:Binds X.K fd ps [])(ha:PA X (e::es) t)(hkk:k<=kk:=by decide)(hg:Gl X x:=by rfl)(hdb:(x==("__debug__":Str))=false:=by decide)(he:starEach (e::es) X.env=(false,eval e X.env)::starEach es X.env:=by rfl)(hpl:(backTo pos (starEach es X.env)).any (·.1)=false:=by rfl):PE X (.Call (.Name x p) (e::es) [] pos) (OI sp [] E0 t):=GN F (hr.mono hkk) hg hm hk hb .nil eZ ha hdb he hpl
theorem cS(K:W.Frag){a b:Expr}{ta tb:TE}{pos:Pos}(ha:PE X a ta)(hb:PE X b tb)(hs:Bs b:=by exact λ_ _=>rfl)(h:X.K=K:=by rfl):PE X (.Subscript a b pos) (OE (PJ K) ta tb):=GR (MS K h) ha hb hs
theorem DA(K:W.Frag){a b:Expr}{ta tb:TE}{pos:Pos}(ha:PE X a ta)(hb:PE X b tb)(hs:Bs b:=by exact λ_ _=>rfl)(h:X.K=K:=by rfl):PE X (.Subscript a b pos) (OE (PF K) ta tb):=GR (J8 K h) ha hb hs
theorem dR{op:CmpOp}{r:R2}{a b:Expr}{ta tb:TE}{pos:Pos}(ho:jx X (compareOp op) r)(ha:PE X a ta)(hb:PE X b tb)(h:op≠.In:=by decide)(h2:op≠.NotIn:=by decide):PT X (.Compare a [op] [b] pos) (JJ (OE r ta tb)):=cW ho ha hb (JI b h h2)
theorem yi{op:CmpOp}{r:R2}{a b:Expr}{ta tb:TE}{pos:Pos}(ho:jx X (compareOp op) r)(ha:PE X a ta)(hb:PE X b tb)(h:op≠.In:=by decide)(h2:op≠.NotIn:=by decide):PE X (.Compare a [op] [b] pos) (OE r ta tb):=xG ho ha hb (JI b h h2)
end
abbrev FO(n q:Str)(s:Stmt)(d oc:Value)(od:Option Addr)(kV dc pm:Value)(an:Option Addr)(cd ct:Value)(sl:Array (Option Value)):Option Obj:=some ⟨oc,od,.func (W.fnOf n q (cX s) (cG s) (au s) d kV dc pm an cd ct),sl⟩
abbrev FN(n q:Str)(s:Stmt)(d kV dc pm:Value)(an:Option Addr)(cd ct:Value):FuncData:=W.fnOf n q (cX s) (cG s) (au s) d kV dc pm an cd ct
abbrev RF(a:Addr):Option (Option Value):=some (some (.ref a))
theorem fh.qf{K:W.Frag}{x qual:Str}{st:Stmt}{f:Addr}{fd:FuncData}{ps:List Str}(F:fh K x qual st f fd)(hp:ps.length=1:=by rfl)(h:∀(kV doc pm:Value)(an:Option Addr)(cdv ct a0:Value),bindArgs (W.fnOf x qual (cX st) (cG st) (au st) .none kV doc pm an cdv ct) ⟨[a0],[]⟩=pure (ps.zip [a0]):=by intros;rfl):Binds K fd ps [] :=
 F.binds λkV doc pm an cdv ct us hl=>by
  rw[hp]at hl
  match us,hl with
  |[a0],_=>exact h kV doc pm an cdv ct a0
theorem fh.jX{K:W.Frag}{x qual:Str}{st:Stmt}{f:Addr}{fd:FuncData}{ps:List Str}(F:fh K x qual st f fd)(hp:ps.length=2:=by rfl)(h:∀(kV doc pm:Value)(an:Option Addr)(cdv ct a0 a1:Value),bindArgs (W.fnOf x qual (cX st) (cG st) (au st) .none kV doc pm an cdv ct) ⟨[a0,a1],[]⟩=pure (ps.zip [a0,a1]):=by intros;rfl):Binds K fd ps [] :=
 F.binds λkV doc pm an cdv ct us hl=>by
  rw[hp]at hl
  match us,hl with
  |[a0,a1],_=>exact h kV doc pm an cdv ct a0 a1
theorem fh.nI{K:W.Frag}{x qual:Str}{st:Stmt}{f:Addr}{fd:FuncData}{ps:List Str}(F:fh K x qual st f fd)(hp:ps.length=3:=by rfl)(h:∀(kV doc pm:Value)(an:Option Addr)(cdv ct a0 a1 a2:Value),bindArgs (W.fnOf x qual (cX st) (cG st) (au st) .none kV doc pm an cdv ct) ⟨[a0,a1,a2],[]⟩=pure (ps.zip [a0,a1,a2]):=by intros;rfl):Binds K fd ps [] :=
 F.binds λkV doc pm an cdv ct us hl=>by
  rw[hp]at hl
  match us,hl with
  |[a0,a1,a2],_=>exact h kV doc pm an cdv ct a0 a1 a2
def FE(K:W.Frag)(x q:Str)(st:Stmt)(f:Addr):Prop:=∃fd,fh K x q st f fd
structure FQ(K:W.Frag)(x:Str)(st:Stmt)(f:Addr):Prop where
 a:W.nsIn K mainGlobals x=RF f
 e:FE K x x st f
structure FV(K:W.Frag)(C:Addr)(x q:Str)(st:Stmt)(f:Addr):Prop where
 a:W.findIn K (.ref C) x=RF f
 i:W.isFn K (.ref f)=true
 e:FE K x q st f
theorem FE.of{K:W.Frag}{x q:Str}{st:Stmt}{f:Addr}{oc:Value}{od an:Option Addr}{sl:Array (Option Value)}{kV dc pm cd ct:Value}(l:K.lookup f=FO x q st .none oc od kV dc pm an cd ct sl)(c:W.codeIn K cd q=true)(k:W.keepIn K (.ref f)=true):FE K x q st f:=⟨_,JW l c k⟩
theorem FQ.of{K:W.Frag}{x:Str}{st:Stmt}{f:Addr}{oc:Value}{od an:Option Addr}{sl:Array (Option Value)}{kV dc pm cd ct:Value}(a:W.nsIn K mainGlobals x=RF f)(l:K.lookup f=FO x x st .none oc od kV dc pm an cd ct sl)(c:W.codeIn K cd x=true)(k:W.keepIn K (.ref f)=true):FQ K x st f:=⟨a,.of l c k⟩
theorem FV.of{K:W.Frag}{C:Addr}{x q:Str}{st:Stmt}{f:Addr}{oc:Value}{od an:Option Addr}{sl:Array (Option Value)}{kV dc pm cd ct:Value}(a:W.findIn K (.ref C) x=RF f)(i:W.isFn K (.ref f)=true)(l:K.lookup f=FO x q st .none oc od kV dc pm an cd ct sl)(c:W.codeIn K cd q=true)(k:W.keepIn K (.ref f)=true):FV K C x q st f:=⟨a,i,.of l c k⟩
end L2
namespace My
open PySem L2
def top(i:Nat):Stmt:=PySem.Challenge.pw_dialecthall_k68_whole_three.main.body.getD i (.Pass ⟨0,0,0,0⟩)
abbrev i6:Stmt:=top 8
abbrev dZ:Stmt:=top 9
abbrev uf:Stmt:=top 10
abbrev Fb:Stmt:=top 11
abbrev rz:Stmt:=top 12
abbrev nJ:Stmt:=top 15
abbrev ug:Stmt:=top 16
abbrev iu:Stmt:=top 17
abbrev dB:Stmt:=top 19
abbrev aZ:Stmt:=inClass (top 20) 0
abbrev i7:Stmt:=inClass (top 20) 1
abbrev gg:Stmt:=inClass (top 20) 2
abbrev lg:Stmt:=top 21
abbrev e9:Stmt:=top 23
abbrev iw:Stmt:=top 24
abbrev jY:Stmt:=top 25
abbrev jZ:Stmt:=top 26
abbrev iy:Stmt:=top 27
abbrev lu:Stmt:=top 28
abbrev iz:Stmt:=inClass (top 29) 0
abbrev nK:Stmt:=inClass (top 29) 1
abbrev gP:Stmt:=inClass (top 29) 2
abbrev ly:Stmt:=top 31
abbrev Fc:Stmt:=top 32
abbrev yj:Stmt:=top 33
abbrev qg:Stmt:=top 34
abbrev lA:Stmt:=top 35
abbrev jA:Stmt:=top 37
abbrev gh:Stmt:=inClass (top 38) 0
abbrev i8:Stmt:=inClass (top 38) 1
abbrev iA:Stmt:=top 39
abbrev fN:Stmt:=inClass (top 38) 2
abbrev uh:Stmt:=top 40
abbrev ja:Stmt:=top 41
abbrev nL:Stmt:=top 42
abbrev um:Stmt:=top 48
abbrev j0:Stmt:=top 49
abbrev fF:Stmt:=inClass (top 50) 1
abbrev gi:Stmt:=inClass (top 50) 2
abbrev eG:Stmt:=top 44
abbrev uo:Stmt:=top 45
abbrev fO:Stmt:=inClass (top 50) 0
abbrev oM:Stmt:=top 51
abbrev jb:Stmt:=top 53
abbrev lB:Stmt:=top 54
abbrev j3:Stmt:=top 55
abbrev nM:Stmt:=top 56
abbrev lC:Stmt:=top 57
abbrev nN:Stmt:=top 58
abbrev nO:Stmt:=top 59
abbrev nP:Stmt:=top 60
abbrev lD:Stmt:=top 61
abbrev iB:Stmt:=top 62
abbrev j4:Stmt:=top 63
abbrev vD:Stmt:=top 64
theorem aq{H:Hp}{l:Addr}{o:HO}(h:H l=none):aI H (upd H l o):=λb u e=>by rw[aH (aW e h)];exact e
theorem aS{H H2:Hp}{l:Addr}{o:HO}(h:H l=none)(s:aI H H2):aI H (upd H2 l o):=λb u e=>by rw[aH (aW e h)];exact s b u e
theorem Fd{i:Nat}{x:V}{σ:St}{H:Hp}{A B:St->Hp->Prop}(h:A (σ.set i (some x)) H):ck i x σ H (λτ2 H2=>SV τ2 H2 λb H3=>if b=true then A τ2 H3 else B τ2 H3):=by
 show(if true=true then A (σ.set i (some x)) H else B (σ.set i (some x)) H)
 exact kY h
theorem TF{p A B:Prop}[Decidable p](hp:p)(h:A):if decide p=true then A else B:=by rw[aaj (aas hp)];exact h
theorem KN{p A B:Prop}[Decidable p](hp:¬p)(h:B):if decide p=true then A else B:=by rw[aai (by simpa using hp)];exact h
theorem OW{A B:Prop}{b:Bool}(hb:b=true)(h:B):if (!b)=true then A else B:=by rw[hb];exact eg h
theorem Fe{α:Type}{xs:List α}{i:Int}(h0:0<=i)(h:i<xs.length):∃c,Mj xs i=some c/\c∈xs:=by
 obtain⟨j,rfl⟩:∃j:Nat,i=j:=⟨i.toNat,by omega⟩
 have hj:j<xs.length:=by omega
 exact⟨xs[j],Br (by simp[hj]),List.getElem_mem hj⟩
theorem take_snoc{l:List Nat}{i c:Nat}(h:l[i]?=some c):l.take (i+1)=l.take i++[c]:=by
 rw[List.take_succ,h];rfl
def Pn(c:Nat):Prop:=32<=c/\c<=126/\c≠37
instance(c:Nat):Decidable (Pn c):=by unfold Pn;exact inferInstance
structure Sg(z:Str):Prop where
 nd:z.cps.toList.Nodup
 pr:∀c∈z.cps.toList,Pn c
def Mn(z:Str):Prop:=0<z.length/\z.length<=100/\∀c∈z.cps.toList,Pn c
instance(z:Str):Decidable (Mn z):=by unfold Mn;exact inferInstance
structure Gd(p q f:Str):Prop where
 gp:Sg p
 gq:Sg q
 gf:Sg f
 p1:1<=p.length
 p3:p.length<=3
 q2:q.length<=2
 f2:f.length<=2
def kD(p q f:Str)(b1 b2 b3 b4:Bool):List V:=[.str p,.str q,.str f,.bl b1,.bl b2,.bl b3,.bl b4]
def BF(p q f:Str)(b1 b2 b3 b4:Bool):List (Str×V):=[("parts",.str p),("quotes",.str q),("frees",.str f),("twin",.bl b1),("wide",.bl b2),("thin",.bl b3),("stray",.bl b4)]
def away(t:Str)(c:Nat):Bool:=!(!(Builtin.Str.occurrences t (sg c) 0 t.length 1).isEmpty)
theorem fk(t:Str)(c:Nat):away t c=true↔c∉t.cps.toList:=by
 unfold away
 have e:(!(Builtin.Str.occurrences t (sg c) 0 t.length 1).isEmpty)=decide (c∈t.cps.toList):=abp t c
 rw[e]
 simp
theorem yk{z:Str}{c:Nat}(h:Sg z)(hc:Pn c)(ha:away z c=true):Sg (z++sg c):=by
 have e:(z++sg c).cps.toList=z.cps.toList++[c]:=by
  show(z.cps ++ #[c]).toList=_
  simp
 have hn:=(fk z c).mp ha
 refine⟨?_,?_⟩
 ·rw[e,List.nodup_append]
  refine⟨h.nd,by simp,λa ha b hb=>?_⟩
  rw[aat.mp hb]
  intro q;exact hn (q▸ha)
 ·rw[e]
  intro d hd
  rcases aaC.mp hd with z'|z'
  ·exact h.pr d z'
  ·rw[aat.mp z'];exact hc
theorem Qo:Sg ("":Str):=by
 have e:("":Str).cps.toList=[]:=by decide +kernel
 refine⟨?_,?_⟩
 ·rw[e];exact List.nodup_nil
 ·rw[e];intro c hc;cases hc
theorem aU(a b:Str):(a++b).length=a.length+b.length:=by
 show(a.cps++b.cps).size=_
 rw[Array.size_append];rfl
theorem av{K:W.Frag}{H H':Hp}{a:Addr}{xs:List V}(e:aI H H')(h:aN K H a xs):aN K H' a xs:=by
 rcases h with (h|⟨o,h⟩)|h
 ·exact .inl (.inl (e _ _ h))
 ·exact .inl (.inr ⟨o,e _ _ h⟩)
 ·exact .inr h
theorem OX{A B:Prop}{b:Bool}(hb:b=false)(h:A):if (!b)=true then A else B:=by rw[hb];exact kY h
theorem kE{A B:Prop}{b:Bool}(hb:b=true)(h:A):if b=true then A else B:=by rw[hb];exact kY h
theorem kF{A B:Prop}{b:Bool}(hb:b=false)(h:B):if b=true then A else B:=by rw[hb];exact eg h
def fG(c:Nat)(z:Str):Bool:=!(Builtin.Str.occurrences z (sg c) 0 z.length 1).isEmpty
def aY(a b:Str):Bool:=decide (V.str a=V.str b)
theorem iC{a b:Str}(h:aY a b=true):a=b:=by have:=aa5 h;cases this;rfl
theorem aA(a:Str):aY a a=true:=aas rfl
inductive Res where
 |go (k w u:Str)
 |kj (w:Str)
def zy(K:W.Frag)(H:Hp)(v:V):Res->Prop
 | .go k w u=>aY k ("fault":Str)=false/\∃a b,v=.ref a/\aN K H a [.str k,.ref b]/\aN K H b [.str w,.str u]
 | .kj w=>∃a,v=.ref a/\aN K H a [.str ("fault":Str),.str w]
theorem fm{K:W.Frag}{H:Hp}{Q:VK}{k w u:Str}{r:Res}(e:r=.go k w u)(hk:aY k ("fault":Str)=false)(h:∀v H',aI H H'->zy K H' v r->Q v H'):[V.str w,V.str u].length<=sizeLine/\∀b,H b=none->([V.str k,V.ref b].length<=sizeLine/\∀a,(upd H b (.tup [.str w,.str u])) a=none->Q (.ref a) (upd (upd H b (.tup [.str w,.str u])) a (.tup [.str k,.ref b]))):=by
 refine⟨(by show 2<=sizeLine;decide),λb hb=>⟨(by show 2<=sizeLine;decide),λa ha=>?_⟩⟩
 have s1:=aq (o:=HO.tup [.str w,.str u]) hb
 have s2:=aq (o:=HO.tup [.str k,.ref b]) ha
 refine h _ _ (s1.trans s2) ?_
 rw[e]
 exact⟨hk,a,b,O,aN.of ak,av s2 (aN.of ak)⟩
theorem BG{K:W.Frag}{H H0:Hp}{Q:VK}{k w u:Str}{r:Res}{b:Addr}(e:r=.go k w u)(hk:aY k ("fault":Str)=false)(s0:aI H0 H)(hb:aN K H b [.str w,.str u])(h:∀v H',aI H0 H'->zy K H' v r->Q v H'):[V.str k,V.ref b].length<=sizeLine/\∀a,H a=none->Q (.ref a) (upd H a (.tup [.str k,.ref b])):=by
 refine⟨(by show 2<=sizeLine;decide),λa ha=>?_⟩
 have s2:=aq (o:=HO.tup [.str k,.ref b]) ha
 refine h _ _ (s0.trans s2) ?_
 rw[e]
 exact⟨hk,a,b,O,aN.of ak,av s2 hb⟩
theorem yl{K:W.Frag}{H:Hp}{Q:VK}{w:Str}{r:Res}(e:r=.kj w)(h:∀v H',aI H H'->zy K H' v r->Q v H'):[V.str ("fault":Str),V.str w].length<=sizeLine/\∀a,H a=none->Q (.ref a) (upd H a (.tup [.str ("fault":Str),.str w])):=by
 refine⟨(by show 2<=sizeLine;decide),λa ha=>?_⟩
 have s2:=aq (o:=HO.tup [.str ("fault":Str),.str w]) ha
 refine h _ _ s2 ?_
 rw[e]
 exact⟨a,O,aN.of ak⟩
theorem jB:aY ("skip":Str) ("fault":Str)=false:=by decide +kernel
theorem Ff:aY ("end":Str) ("fault":Str)=false:=by decide +kernel
theorem BH:aY ("part":Str) ("fault":Str)=false:=by decide +kernel
theorem jc:aY ("put":Str) ("fault":Str)=false:=by decide +kernel
def cB(p q f:Str)(b3:Bool)(w u:Str)(c:Nat):Res :=
 if fG c f=true then .go ("skip":Str) ("freed":Str) ("":Str) else
 if aY (sg c) (Str.ofString "\n")=true then .go ("end":Str) ("row":Str) ("":Str) else
 if fG c q=true then .go ("skip":Str) ("within":Str) (sg c) else
 if fG c p=true then .go ("part":Str) ("cell":Str) ("":Str) else
 if aY (sg c) (" ":Str)=true then (if b3=true then .go ("skip":Str) w u else .go ("put":Str) ("plain":Str) ("":Str)) else
 .go ("put":Str) ("plain":Str) ("":Str)
def cY(p q f:Str)(b4:Bool)(c:Nat):Res :=
 if fG c f=true then .go ("skip":Str) ("freed":Str) ("":Str) else
 if aY (sg c) (Str.ofString "\n")=true then .go ("end":Str) ("row":Str) ("":Str) else
 if fG c p=true then .go ("part":Str) ("cell":Str) ("":Str) else
 if fG c q=true then (if (!b4)=true then .kj ("quote":Str) else .go ("put":Str) ("plain":Str) ("":Str)) else
 .go ("put":Str) ("plain":Str) ("":Str)
def cg(f:Str)(b1 b2:Bool)(u:Str)(c:Nat):Res :=
 if fG c f=true then .go ("skip":Str) ("freed":Str) u else
 if aY (sg c) u=true then (if b1=true then .go ("skip":Str) ("doubt":Str) u else .go ("skip":Str) ("behind":Str) ("":Str)) else
 if aY (sg c) (Str.ofString "\n")=true then (if (!b2)=true then .kj ("line":Str) else .go ("put":Str) ("within":Str) u) else
 .go ("put":Str) ("within":Str) u
def bq(p:Str)(b3:Bool)(c:Nat):Res :=
 if aY (sg c) (Str.ofString "\n")=true then .go ("end":Str) ("row":Str) ("":Str) else
 if fG c p=true then .go ("part":Str) ("cell":Str) ("":Str) else
 if aY (sg c) (" ":Str)=true then (if b3=true then .go ("skip":Str) ("behind":Str) ("":Str) else .kj ("behind":Str)) else
 .kj ("behind":Str)
def gj(p:Str)(b3:Bool)(u:Str)(c:Nat):Res:=if aY (sg c) u=true then .go ("put":Str) ("within":Str) u else bq p b3 c
def cQ(u:Str):Res:=if aY u ("":Str)=true then .go ("put":Str) ("plain":Str) ("":Str) else .go ("put":Str) ("within":Str) u
def dD(b2:Bool)(u:Str)(c:Nat):Res :=
 if aY (sg c) (Str.ofString "\n")=true then (if (!b2)=true then .kj ("line":Str) else cQ u) else cQ u
def fX(p q f:Str)(b3 b4:Bool)(w u:Str)(c:Nat):Res:=if aY w ("plain":Str)=true then cY p q f b4 c else cB p q f b3 w u c
def aQ(p q f:Str)(b1 b2 b3 b4:Bool)(w u:Str)(c:Nat):Res :=
 if aY w ("within":Str)=true then cg f b1 b2 u c else
 if aY w ("freed":Str)=true then dD b2 u c else
 if aY w ("doubt":Str)=true then gj p b3 u c else
 if aY w ("behind":Str)=true then bq p b3 c else
 fX p q f b3 b4 w u c
theorem ns{a b:String}(h:aY (Str.ofString a) (Str.ofString b)=false):¬aY (Str.ofString a) (Str.ofString b)=true:=by rw[h];decide
theorem jd{p q f:Str}{b1 b2 b3 b4:Bool}{w u:Str}{c:Nat}(h:aY w ("plain":Str)=true):aQ p q f b1 b2 b3 b4 w u c=cY p q f b4 c:=by
 cases iC h
 unfold aQ fX
 rw[aai (ns (by decide +kernel)),aai (ns (by decide +kernel)),aai (ns (by decide +kernel)),aai (ns (by decide +kernel)),aaj (aA _)]
theorem eV{p q f:Str}{b1 b2 b3 b4:Bool}{w u:Str}{c:Nat}(h:aY w ("within":Str)=true):aQ p q f b1 b2 b3 b4 w u c=cg f b1 b2 u c:=by
 unfold aQ
 rw[aaj h]
theorem g5{p q f:Str}{b1 b2 b3 b4:Bool}{w u:Str}{c:Nat}(h:aY w ("doubt":Str)=true):aQ p q f b1 b2 b3 b4 w u c=gj p b3 u c:=by
 cases iC h
 unfold aQ
 rw[aai (ns (by decide +kernel)),aai (ns (by decide +kernel)),aaj (aA _)]
theorem fY{p q f:Str}{b1 b2 b3 b4:Bool}{w u:Str}{c:Nat}(h:aY w ("behind":Str)=true):aQ p q f b1 b2 b3 b4 w u c=bq p b3 c:=by
 cases iC h
 unfold aQ
 rw[aai (ns (by decide +kernel)),aai (ns (by decide +kernel)),aai (ns (by decide +kernel)),aaj (aA _)]
theorem cZ{p q f:Str}{b1 b2 b3 b4:Bool}{w u:Str}{c:Nat}(h:aY w ("freed":Str)=true):aQ p q f b1 b2 b3 b4 w u c=dD b2 u c:=by
 cases iC h
 unfold aQ
 rw[aai (ns (by decide +kernel)),aaj (aA _)]
theorem d8{p q f:Str}{b1 b2 b3 b4:Bool}{w u:Str}{c:Nat}(h1:aY w ("within":Str)=false)(h2:aY w ("freed":Str)=false)(h3:aY w ("doubt":Str)=false)(h4:aY w ("behind":Str)=false):aQ p q f b1 b2 b3 b4 w u c=fX p q f b3 b4 w u c:=by
 unfold aQ
 rw[h1,h2,h3,h4]
 rfl
theorem rA{b:Bool}(h:¬b=true):b=false:=by cases b<;>simp_all
def WS(d:Addr):List (Str×V):=[("dialect",.ref d)]
structure Tn(C CT:Addr)(H:Hp)(y:Addr)(p q f:Str)(b1 b2 b3 b4:Bool):Prop where
 ok:∃dy d dd,H y=some (.ins CT dy (WS d))/\H d=some (.ins C dd (BF p q f b1 b2 b3 b4))
theorem Tn.mono{C CT:Addr}{H H':Hp}{y:Addr}{p q f:Str}{b1 b2 b3 b4:Bool}(s:aI H H')(h:Tn C CT H y p q f b1 b2 b3 b4):Tn C CT H' y p q f b1 b2 b3 b4:=by
 obtain⟨dy,d,dd,e1,e2⟩:=h.ok
 exact⟨dy,d,dd,s _ _ e1,s _ _ e2⟩
theorem iY{H H':Hp}{y dy:Addr}{o:HO}(hy:H y=none)(RO:H dy=none)(kp:∀b o',upd (upd H dy (.own y)) y o b=some o'->b≠y->H' b=some o'):aI H H':=λb o' e=>kp b o' (by rw[aH (aW e hy),aH (aW e RO)];exact e) (aW e hy)
theorem gk{H:Hp}{y dy b:Addr}{o o':HO}(hy:H y=none)(RO:H dy=none)(e:H b=some o'):upd (upd H dy (.own y)) y o b=some o':=by rw[aH (aW e hy),aH (aW e RO)];exact e
def uq(K:W.Frag)(H:Hp)(x:V)(w:Str×Str):Prop:=∃a,x=.ref a/\aN K H a [.str w.1,.str w.2]
theorem uq.mono{K:W.Frag}{H H':Hp}{x:V}{w:Str×Str}(e:aI H H')(h:uq K H x w):uq K H' x w:=let ⟨a,e1,e2⟩:=h;⟨a,e1,av e e2⟩
theorem uq.but{K:W.Frag}{H:Hp}{x:V}{w:Str×Str}{l:Addr}{ys:List V}{o:HO}(hl:H l=some (.lst ys))(h:uq K H x w):uq K (upd H l o) x w:=by
 obtain⟨a,e1,e2⟩:=h
 refine⟨a,e1,?_⟩
 rcases e2 with (h|⟨ob,h⟩)|h
 ·exact .inl (.inl ((aH (mE h hl (by intro z;cases z))).trans h))
 ·exact .inl (.inr ⟨ob,(aH (mE h hl (by intro z;cases z))).trans h⟩)
 ·exact .inr h
theorem cT{α β:Type}{F G:α->β->Prop}(h:∀a b,F a b->G a b):∀{xs:List α}{ys:List β},Paired F xs ys->Paired G xs ys
 |_,_,.nil=>.nil
 |_,_,.cons q r=>.cons (h _ _ q) (cT h r)
theorem cC{α β:Type}{F:α->β->Prop}:∀{xs xs':List α}{ys ys':List β},Paired F xs ys->Paired F xs' ys'->Paired F (xs++xs') (ys++ys')
 |_,_,_,_,.nil,r=>r
 |_,_,_,_,.cons q t,r=>.cons q (cC t r)
theorem bW{α β:Type}{F:α->β->Prop}:∀{xs:List α}{ys:List β},Paired F xs ys->∀(j:Nat) x,xs[j]?=some x->∃y,ys[j]?=some y/\F x y
 |_,_,.nil,j,x,h=>by simp at h
 |_,_,.cons q t,0,x,h=>by simp at h;subst h;exact⟨_,rfl,q⟩
 |_,_,.cons q t,j+1,x,h=>by
  obtain⟨y,h1,h2⟩:=bW t j x (by simpa using h)
  exact⟨y,by simpa using h1,h2⟩
def c5:List (Str×Str):=[(Str.ofString "row",("":Str)),(Str.ofString "cell",("":Str)),(Str.ofString "plain",("":Str)),(Str.ofString "behind",("":Str)),(Str.ofString "freed",("":Str))]
def c3(c:Nat):List (Str×Str):=[(Str.ofString "within",sg c),(Str.ofString "doubt",sg c),(Str.ofString "freed",sg c)]
def cont(l:List Nat):List (Str×Str):=c5++l.flatMap c3
theorem Iu(l:List Nat)(c:Nat):cont (l++[c])=cont l++c3 c:=by
 unfold cont;rw[List.flatMap_append,←aaN];simp
theorem KO(l:List Nat):(cont l).length=5+3*l.length:=by
 unfold cont
 rw[aao]
 have e:(l.flatMap c3).length=3*l.length:=by
  induction l with
  |nil=>rfl
  |cons c l ih=>rw[aaO,aao,ih,aaF];show 3+_=_;omega
 rw[e];rfl
theorem TH{K:W.Frag}{H:Hp}{t0 t1 t2 t3 t4:Addr}(q0:aN K H t0 [.str ("row":Str),.str ("":Str)])(q1:aN K H t1 [.str ("cell":Str),.str ("":Str)])(q2:aN K H t2 [.str ("plain":Str),.str ("":Str)])(q3:aN K H t3 [.str ("behind":Str),.str ("":Str)])(q4:aN K H t4 [.str ("freed":Str),.str ("":Str)]):Paired (uq K H) [.ref t0,.ref t1,.ref t2,.ref t3,.ref t4] (cont []):=by
 show Paired (uq K H) _ c5
 unfold c5
 exact .cons ⟨_,rfl,q0⟩ (.cons ⟨_,rfl,q1⟩ (.cons ⟨_,rfl,q2⟩ (.cons ⟨_,rfl,q3⟩ (.cons ⟨_,rfl,q4⟩ .nil))))
theorem TJ{K:W.Frag}{H:Hp}{u1 u2 u3:Addr}{c:Nat}(q1:aN K H u1 [.str ("within":Str),.str (sg c)])(q2:aN K H u2 [.str ("doubt":Str),.str (sg c)])(q3:aN K H u3 [.str ("freed":Str),.str (sg c)]):Paired (uq K H) [.ref u1,.ref u2,.ref u3] (c3 c):=by
 unfold c3
 exact .cons ⟨_,rfl,q1⟩ (.cons ⟨_,rfl,q2⟩ (.cons ⟨_,rfl,q3⟩ .nil))
def ZY(u f:Str):Bool:=!(!(Builtin.Str.occurrences f u 0 f.length 1).isEmpty)
def cD(f w u:Str):Bool:=if aY u ("":Str)=true then true else if aY w ("doubt":Str)=true then true else ZY u f
def vE(w u:Str):Bool:=nj [.str w,.str u] [.str ("row":Str),.str ("":Str)]
theorem Hi(c:Nat)(z:Str):fG c z=decide (c∈z.cps.toList):=abp z c
theorem Qp{c:Nat}{z:Str}(h:c∉z.cps.toList):¬fG c z=true:=by rw[Hi];simpa using h
theorem ZZ{z:Str}(g:Sg z):¬fG 10 z=true:=Qp λh=>by have:=(g.pr 10 h).1;omega
theorem ym:∀c:Nat,¬aY (sg c) ("":Str)=true:=λc e=>by
 have:=congrArg Str.length (iC e)
 have e0:("":Str).length=0:=by decide +kernel
 rw[e0]at this
 exact absurd this (by show ¬(1=0);decide)
theorem la:Str.ofString "a"=sg 97:=by decide +kernel
theorem app_list(a b:Str):(a++b).cps.toList=a.cps.toList++b.cps.toList:=by
 show(a.cps++b.cps).toList=_
 simp
theorem BI:("":Str).cps.toList=[]:=by decide +kernel
def gQ(q w u:Str):Prop:=(u=Str.ofString ""/\(w=Str.ofString "row"\/w=Str.ofString "cell"\/w=Str.ofString "plain"\/w=Str.ofString "behind"\/w=("freed":Str)))\/∃c,c∈q.cps.toList/\u=sg c/\(w=Str.ofString "within"\/w=Str.ofString "doubt"\/w=("freed":Str))
theorem ur{p q f:Str}{b1 b2 b3 b4:Bool}{u:Str}{c:Nat}(a:String)(h1:aY (Str.ofString a) ("within":Str)=false)(h2:aY (Str.ofString a) ("freed":Str)=false)(h3:aY (Str.ofString a) ("doubt":Str)=false)(h4:aY (Str.ofString a) ("behind":Str)=false):aQ p q f b1 b2 b3 b4 (Str.ofString a) u c=fX p q f b3 b4 (Str.ofString a) u c:=d8 h1 h2 h3 h4
theorem jC{K:W.Frag}{H:Hp}{a l:Addr}{xs ys:List V}{o:HO}(hl:H l=some (.lst ys))(e2:aN K H a xs):aN K (upd H l o) a xs:=by
 rcases e2 with (h|⟨ob,h⟩)|h
 ·exact .inl (.inl ((aH (mE h hl (by intro z;cases z))).trans h))
 ·exact .inl (.inr ⟨ob,(aH (mE h hl (by intro z;cases z))).trans h⟩)
 ·exact .inr h
theorem fP{α:Type}{l:List α}{i:Nat}{c:α}(h:l[i]?=some c):l.take (i+1)=l.take i++[c]:=by
 rw[List.take_succ,h];rfl
def qh(z:Str):Prop:=∀k∈z.cps.toList,k=10\/Pn k
theorem sgL{c:Nat}{z:Str}(e:z=("\n":Str))(h:¬decide (V.str (sg c)=V.str z)=true):c≠10:=λe2=>h (by
 have:Str.ofString "\n"=sg 10:=by decide +kernel
 rw[e,e2,this];exact aas rfl)
theorem cK{t u:TS}{D:Ends}{σ:St}{H:Hp}(N:St->Hp->Prop)(hu:∀σ' H',N σ' H'->u D σ' H')(ht:(∀σ' H',N σ' H'->u D σ' H')->t {D with nx:=u D} σ H):Mu t u D σ H:=ht hu
theorem Qq:("":Str).length=0:=by decide +kernel
def runM(p q f:Str)(b1 b2 b3 b4:Bool):Str->Str->List Nat->List Str×Str×Str×Option Str
 |w,u,[]=>([],w,u,none)
 |w,u,c::cs=>match aQ p q f b1 b2 b3 b4 w u c with
  | .kj e=>([],w,u,some e)
  | .go k w' u'=>(k::(runM p q f b1 b2 b3 b4 w' u' cs).1,(runM p q f b1 b2 b3 b4 w' u' cs).2)
def Fg(ks:List Str)(r:List Str×Str×Str×Option Str):List Str×Str×Str×Option Str:=(ks++r.1,r.2)
theorem Qs{p q f:Str}{b1 b2 b3 b4:Bool}{w u k w' u':Str}{c:Nat}{cs:List Nat}{ks:List Str}(h:aQ p q f b1 b2 b3 b4 w u c=.go k w' u'):Fg ks (runM p q f b1 b2 b3 b4 w u (c::cs))=Fg (ks++[k]) (runM p q f b1 b2 b3 b4 w' u' cs):=by
 have e:runM p q f b1 b2 b3 b4 w u (c::cs)=(k::(runM p q f b1 b2 b3 b4 w' u' cs).1,(runM p q f b1 b2 b3 b4 w' u' cs).2):=by
  show(match aQ p q f b1 b2 b3 b4 w u c with | .kj e=>([],w,u,some e) | .go k w' u'=>(k::(runM p q f b1 b2 b3 b4 w' u' cs).1,(runM p q f b1 b2 b3 b4 w' u' cs).2))=_
  rw[h]
 rw[e]
 unfold Fg
 rw[aaN]
 rfl
theorem Nl{p q f:Str}{b1 b2 b3 b4:Bool}{w u e:Str}{c:Nat}{cs:List Nat}{ks:List Str}(h:aQ p q f b1 b2 b3 b4 w u c=.kj e):Fg ks (runM p q f b1 b2 b3 b4 w u (c::cs))=(ks,w,u,some e):=by
 have e2:runM p q f b1 b2 b3 b4 w u (c::cs)=([],w,u,some e):=by
  show(match aQ p q f b1 b2 b3 b4 w u c with | .kj e=>([],w,u,some e) | .go k w' u'=>(k::(runM p q f b1 b2 b3 b4 w' u' cs).1,(runM p q f b1 b2 b3 b4 w' u' cs).2))=_
  rw[h]
 rw[e2]
 unfold Fg
 rw[aaH]
theorem Nm{p q f:Str}{b1 b2 b3 b4:Bool}{w u:Str}{ks:List Str}:Fg ks (runM p q f b1 b2 b3 b4 w u [])=(ks,w,u,none):=by
 show(ks++[],w,u,none)=_
 rw[aaH]
def KP:Option Str->V
 |none=>.non
 |some e=>.str e
def zA(r:List Str×Str×Str×Option Str):Str:=match r.2.2.2 with
 |some e=>e
 |none=>if vE r.2.1 r.2.2.1=true then Str.ofString "" else Str.ofString "cut"
theorem Tn.but{C CT:Addr}{H:Hp}{y:Addr}{p q f:Str}{b1 b2 b3 b4:Bool}{l:Addr}{ys:List V}{o:HO}(hl:H l=some (.lst ys))(h:Tn C CT H y p q f b1 b2 b3 b4):Tn C CT (upd H l o) y p q f b1 b2 b3 b4:=by
 obtain⟨dy,d,dd,e1,e2⟩:=h.ok
 exact⟨dy,d,dd,(aH (mE e1 hl (by intro z;cases z))).trans e1,(aH (mE e2 hl (by intro z;cases z))).trans e2⟩
theorem drop_cons{l:List Nat}{i c:Nat}(h:l[i]?=some c):l.drop i=c::l.drop (i+1):=by
 obtain⟨h1,h2⟩:=aau.mp h
 rw[List.drop_eq_getElem_cons h1,h2]
def WT(ks:List Str):Nat:=(ks.map V.str).countP λz=>xK z (.str ("end":Str))
theorem AB(ks:List Str):(ks.map V.str).all dU=true:=by rw[List.all_map,aa7];intro _ _;rfl
theorem KQ{p q f:Str}{b1 b2 b3 b4:Bool}{w u e:Str}{c:Nat}(h:aQ p q f b1 b2 b3 b4 w u c=.kj e):e=Str.ofString "line"\/e=Str.ofString "quote"\/e=("behind":Str):=by
 have hb:∀{p:Str}{b3:Bool},bq p b3 c=.kj e->e=Str.ofString "line"\/e=Str.ofString "quote"\/e=("behind":Str):=by
  intro p b3 h
  unfold bq at h
  split at h
  ·cases h
  split at h
  ·cases h
  split at h
  ·split at h
   ·cases h
   ·cases h;exact .inr (.inr rfl)
  ·cases h;exact .inr (.inr rfl)
 unfold aQ at h
 split at h
 ·unfold cg at h
  split at h
  ·cases h
  split at h
  ·split at h<;>cases h
  split at h
  ·split at h
   ·cases h;exact .inl rfl
   ·cases h
  ·cases h
 split at h
 ·unfold dD cQ at h
  split at h
  ·split at h
   ·cases h;exact .inl rfl
   ·split at h<;>cases h
  ·split at h<;>cases h
 split at h
 ·unfold gj at h
  split at h
  ·cases h
  ·exact hb h
 split at h
 ·exact hb h
 unfold fX at h
 split at h
 ·unfold cY at h
  split at h
  ·cases h
  split at h
  ·cases h
  split at h
  ·cases h
  split at h
  ·split at h
   ·cases h;exact .inr (.inl rfl)
   ·cases h
  ·cases h
 ·unfold cB at h
  split at h
  ·cases h
  split at h
  ·cases h
  split at h
  ·cases h
  split at h
  ·cases h
  split at h
  ·split at h<;>cases h
  ·cases h
theorem xN{p q f:Str}{b1 b2 b3 b4:Bool}{w u k w' u':Str}{c:Nat}{cs:List Nat}(h:aQ p q f b1 b2 b3 b4 w u c=.go k w' u'):runM p q f b1 b2 b3 b4 w u (c::cs)=(k::(runM p q f b1 b2 b3 b4 w' u' cs).1,(runM p q f b1 b2 b3 b4 w' u' cs).2):=by
 show(match aQ p q f b1 b2 b3 b4 w u c with | .kj e=>([],w,u,some e) | .go k w' u'=>(k::(runM p q f b1 b2 b3 b4 w' u' cs).1,(runM p q f b1 b2 b3 b4 w' u' cs).2))=_
 rw[h]
theorem rB{p q f:Str}{b1 b2 b3 b4:Bool}{w u e:Str}{c:Nat}{cs:List Nat}(h:aQ p q f b1 b2 b3 b4 w u c=.kj e):runM p q f b1 b2 b3 b4 w u (c::cs)=([],w,u,some e):=by
 show(match aQ p q f b1 b2 b3 b4 w u c with | .kj e=>([],w,u,some e) | .go k w' u'=>(k::(runM p q f b1 b2 b3 b4 w' u' cs).1,(runM p q f b1 b2 b3 b4 w' u' cs).2))=_
 rw[h]
theorem DB{p q f:Str}{b1 b2 b3 b4:Bool}{w u e:Str}{cs:List Nat}(h:(runM p q f b1 b2 b3 b4 w u cs).2.2.2=some e):e≠Str.ofString ""/\e≠Str.ofString "cut":=by
 induction cs generalizing w u with
 |nil=>cases h
 |cons c cs ih =>
  cases hs:aQ p q f b1 b2 b3 b4 w u c with
  |go k w' u' =>
   rw[xN hs]at h
   exact ih h
  |kj e2 =>
   rw[rB hs]at h
   cases h
   rcases KQ hs with rfl|rfl|rfl
   ·exact⟨λz=>absurd (congrArg (λz=>aY z ("line":Str)) z) (by decide +kernel),λz=>absurd (congrArg (λz=>aY z ("line":Str)) z) (by decide +kernel)⟩
   ·exact⟨λz=>absurd (congrArg (λz=>aY z ("quote":Str)) z) (by decide +kernel),λz=>absurd (congrArg (λz=>aY z ("quote":Str)) z) (by decide +kernel)⟩
   ·exact⟨λz=>absurd (congrArg (λz=>aY z ("behind":Str)) z) (by decide +kernel),λz=>absurd (congrArg (λz=>aY z ("behind":Str)) z) (by decide +kernel)⟩
theorem KR{q:Str}{c:Nat}(h:fG c q=true):c∈q.cps.toList:=by rw[Hi]at h;exact aa5 h
theorem BJ{p q f:Str}{b1 b2 b3 b4:Bool}{w u k w' u':Str}{c:Nat}(h:gQ q w u)(hs:aQ p q f b1 b2 b3 b4 w u c=.go k w' u'):gQ q w' u':=by
 have KS:∀{w u:Str},gQ q w u->fX p q f b3 b4 w u c=.go k w' u'->gQ q w' u':=by
  intro w u h hs
  unfold fX cY cB at hs
  repeat' split at hs
  all_goals first
   | (cases hs;exact .inl ⟨rfl,.inl rfl⟩)
   | (cases hs;exact .inl ⟨rfl,.inr (.inl rfl)⟩)
   | (cases hs;exact .inl ⟨rfl,.inr (.inr (.inl rfl))⟩)
   | (cases hs;exact .inl ⟨rfl,.inr (.inr (.inr (.inr rfl)))⟩)
   | (cases hs;rename_i hq _ _;exact .inr ⟨c,KR (by assumption),rfl,.inl rfl⟩)
   | (cases hs;exact .inr ⟨c,KR (by assumption),rfl,.inl rfl⟩)
   | (cases hs;exact h)
   |cases hs
 have TL:bq p b3 c=.go k w' u'->gQ q w' u':=by
  intro hs
  unfold bq at hs
  repeat' split at hs
  all_goals first
   | (cases hs;exact .inl ⟨rfl,.inl rfl⟩)
   | (cases hs;exact .inl ⟨rfl,.inr (.inl rfl)⟩)
   | (cases hs;exact .inl ⟨rfl,.inr (.inr (.inr (.inl rfl)))⟩)
   |cases hs
 rcases h with ⟨rfl,rfl|rfl|rfl|rfl|rfl⟩|⟨d,hd,rfl,rfl|rfl|rfl⟩
 ·rw[ur "row" (by decide +kernel) (by decide +kernel) (by decide +kernel) (by decide +kernel)]at hs
  exact KS (.inl ⟨rfl,.inl rfl⟩) hs
 ·rw[ur "cell" (by decide +kernel) (by decide +kernel) (by decide +kernel) (by decide +kernel)]at hs
  exact KS (.inl ⟨rfl,.inr (.inl rfl)⟩) hs
 ·rw[ur "plain" (by decide +kernel) (by decide +kernel) (by decide +kernel) (by decide +kernel)]at hs
  exact KS (.inl ⟨rfl,.inr (.inr (.inl rfl))⟩) hs
 ·rw[fY (aA _)]at hs
  exact TL hs
 ·rw[cZ (aA _)]at hs
  unfold dD cQ at hs
  rw[aaj (aA _)]at hs
  repeat' split at hs
  all_goals first
   | (cases hs;exact .inl ⟨rfl,.inr (.inr (.inl rfl))⟩)
   |cases hs
 ·rw[eV (aA _)]at hs
  unfold cg at hs
  repeat' split at hs
  all_goals first
   | (cases hs;exact .inr ⟨d,hd,rfl,.inr (.inr rfl)⟩)
   | (cases hs;exact .inr ⟨d,hd,rfl,.inr (.inl rfl)⟩)
   | (cases hs;exact .inr ⟨d,hd,rfl,.inl rfl⟩)
   | (cases hs;exact .inl ⟨rfl,.inr (.inr (.inr (.inl rfl)))⟩)
   |cases hs
 ·rw[g5 (aA _)]at hs
  unfold gj at hs
  split at hs
  ·cases hs;exact .inr ⟨d,hd,rfl,.inl rfl⟩
  ·exact TL hs
 ·rw[cZ (aA _)]at hs
  unfold dD cQ at hs
  rw[aai (ym d)]at hs
  repeat' split at hs
  all_goals first
   | (cases hs;exact .inr ⟨d,hd,rfl,.inl rfl⟩)
   |cases hs
structure DC where
 rows:List (List Str)
 row:List Str
 cell:Str
def DE(g:DC)(c:Nat)(k:Str):DC :=
 if aY k ("put":Str)=true then ⟨g.rows,g.row,g.cell++sg c⟩
 else if aY k ("part":Str)=true then ⟨g.rows,g.row++[g.cell],("":Str)⟩
 else if aY k ("end":Str)=true then ⟨g.rows++[g.row++[g.cell]],[],("":Str)⟩
 else g
def nQ:DC->List Nat->List Str->DC
 |g,c::cs,k::ks=>nQ (DE g c k) cs ks
 |g,_,_=>g
def BK:DC:=⟨[],[],("":Str)⟩
def Fi(z:Str)(ks:List Str):List (List Str):=(nQ BK z.cps.toList ks).rows
theorem AD:∀(g:DC)(cs:List Nat)(ks:List Str)(i:Nat)(c:Nat)(k:Str),cs[i]?=some c->ks[i]?=some k->nQ g (cs.take (i+1)) (ks.take (i+1))=DE (nQ g (cs.take i) (ks.take i)) c k
 |g,[],_,i,c,k,h,_=>by simp at h
 |g,_::_,[],i,c,k,_,h=>by simp at h
 |g,d::cs,j::ks,0,c,k,h1,h2=>by cases h1;cases h2;rfl
 |g,d::cs,j::ks,i+1,c,k,h1,h2=>by
  show nQ (DE g d j) (cs.take (i+1)) (ks.take (i+1))=DE (nQ (DE g d j) (cs.take i) (ks.take i)) c k
  exact AD _ cs ks i c k h1 h2
theorem DF:∀(g:DC)(cs:List Nat)(ks:List Str),nQ g (cs.take (min cs.length ks.length)) (ks.take (min cs.length ks.length))=nQ g cs ks
 |g,[],ks=>by simp[nQ]
 |g,_::_,[]=>by simp[nQ]
 |g,d::cs,j::ks=>by
  have e:min (d::cs).length (j::ks).length=min cs.length ks.length+1:=by rw[aaF,aaF];omega
  rw[e]
  exact DF (DE g d j) cs ks
theorem BL{l:List Str}{i:Nat}{e:V}(h:(l.map V.str)[i]?=some e):∃z,l[i]?=some z/\e=.str z:=by
 rw[abS]at h
 cases hz:l[i]? with
 |none=>rw[hz]at h;cases h
 |some z=>rw[hz]at h;exact⟨z,rfl,(aax h).symm⟩
abbrev rC(H0 H:Hp):List V->List (List Str)->Prop:=Paired λe r=>∃a,e=V.ref a/\H0 a=none/\H a=some (.lst (r.map V.str))
theorem rC.mono{H0 H H':Hp}(s:aI H H'):∀{es:List V}{rs:List (List Str)},rC H0 H es rs->rC H0 H' es rs
 |_,_,.nil=>.nil
 |_,_,.cons ⟨a,e,n,h⟩ r=>.cons ⟨a,e,n,s _ _ h⟩ (rC.mono s r)
theorem rC.but{H0 H:Hp}{l:Addr}{o:HO}:∀{es:List V}{rs:List (List Str)},(V.ref l∉es)->rC H0 H es rs->rC H0 (upd H l o) es rs
 |_,_,_,.nil=>.nil
 |_,_,hn,.cons ⟨a,e,n,h⟩ r=>by
  subst e
  have:a≠l:=λq=>hn (by rw[q];exact aaE ..)
  exact .cons ⟨a,rfl,n,(aH this).trans h⟩ (rC.but (λq=>hn (aay _ q)) r)
theorem rC.app{H0 H:Hp}:∀{es es':List V}{rs rs':List (List Str)},rC H0 H es rs->rC H0 H es' rs'->rC H0 H (es++es') (rs++rs')
 |_,_,_,_,.nil,h=>h
 |_,_,_,_,.cons r t,h=>.cons r (rC.app t h)
theorem rC.has{H0 H:Hp}:∀{es:List V}{rs:List (List Str)},rC H0 H es rs->∀{a:Addr},V.ref a∈es->H0 a=none/\∃ys,H a=some (.lst ys)
 |_,_,.nil,_,h=>by cases h
 |_,_,.cons ⟨b,e,n,h⟩ r,a,ha=>by
  rcases aaB.mp ha with q|q
  ·subst e;cases q;exact⟨n,_,h⟩
  ·exact rC.has r q
theorem AE{z:Str}{lo hi:Option Int}{c:Nat}(h:c∈(Txt.slice z lo hi).cps.toList):c∈z.cps.toList:=by
 unfold Txt.slice at h
 split at h
 ·exact h
 ·have h:c∈List.filterMap (λx=>z.cps[x]?) (Builtin.Str.strSliceIndices lo hi 1 z.length):=h
  obtain⟨k,_,hk⟩:=aaU.mp h
  exact Array.mem_toList_iff.mpr (Array.mem_of_getElem? hk)
theorem DG{z:Str}{m:Nat}(h:m<=z.length):(Txt.slice z none (some (m:Int))).cps.toList=z.cps.toList.take m:=by
 have hz:z.cps.toList.length=z.length:=by rw[aap];rfl
 have:=PyProof.Rows.slice_closes_to (x:=z) (j:=(m:Int)) ⟨by omega,by omega⟩
 rw[eq_of_beq this]
 show(z.cps.toList.drop (0:Int).toNat).take ((m:Int)-0).toNat=_
 simp
theorem sub_len:∀{L M:List Nat},L.Nodup->(∀c∈L,c∈M)->L.length<=M.length
 |[],_,_,_=>aaM _
 |a::L,M,hn,hs=>by
  have ha:=hs a (aaE ..)
  have hn':=abq.mp hn
  have:=sub_len (M:=M.erase a) hn'.2 λc hc=>(List.mem_erase_of_ne (λe=>hn'.1 (by rw[←e];exact hc))).mpr (hs c (aay _ hc))
  rw[List.length_erase_of_mem ha]at this
  have h1:0<M.length:=List.length_pos_of_mem ha
  rw[aaF];omega
def WU:List Nat:=("a7ZbXq9KwM":Str).cps.toList
theorem j5{a b:String}(h:aY (Str.ofString a) (Str.ofString b)=false):Str.ofString a≠Str.ofString b:=λe=>by rw[e,aA]at h;cases h
theorem KU{p q f:Str}{b1 b2 b3 b4:Bool}{w u k w' u':Str}{c:Nat}(h:aQ p q f b1 b2 b3 b4 w u c=.go k w' u'):(k=Str.ofString "end"/\w'=Str.ofString "row"/\u'=("":Str))\/(k≠Str.ofString "end"/\(w'=Str.ofString "row"->k=Str.ofString "skip"/\w=("row":Str))):=by
 have n1:Str.ofString "skip"≠Str.ofString "end":=j5 (by decide +kernel)
 have n2:Str.ofString "put"≠Str.ofString "end":=j5 (by decide +kernel)
 have n3:Str.ofString "part"≠Str.ofString "end":=j5 (by decide +kernel)
 have m1:Str.ofString "freed"≠Str.ofString "row":=j5 (by decide +kernel)
 have m2:Str.ofString "within"≠Str.ofString "row":=j5 (by decide +kernel)
 have m3:Str.ofString "cell"≠Str.ofString "row":=j5 (by decide +kernel)
 have m4:Str.ofString "plain"≠Str.ofString "row":=j5 (by decide +kernel)
 have m5:Str.ofString "behind"≠Str.ofString "row":=j5 (by decide +kernel)
 have m6:Str.ofString "doubt"≠Str.ofString "row":=j5 (by decide +kernel)
 have hB:bq p b3 c=.go k w' u'->(k=Str.ofString "end"/\w'=Str.ofString "row"/\u'=("":Str))\/(k≠Str.ofString "end"/\(w'=Str.ofString "row"->k=Str.ofString "skip"/\w=("row":Str))):=by
  intro h
  unfold bq at h
  repeat' split at h
  all_goals first
   | (cases h;done)
   | (cases h;exact .inl ⟨rfl,rfl,rfl⟩)
   | (cases h;exact .inr ⟨by assumption,λz=>absurd z (by assumption)⟩)
   | (cases h;exact .inr ⟨by assumption,λz=>⟨rfl,z⟩⟩)
 unfold aQ at h
 split at h
 ·unfold cg at h
  repeat' split at h
  all_goals first
   | (cases h;done)
   | (cases h;exact .inl ⟨rfl,rfl,rfl⟩)
   | (cases h;exact .inr ⟨by assumption,λz=>absurd z (by assumption)⟩)
   | (cases h;exact .inr ⟨by assumption,λz=>⟨rfl,z⟩⟩)
 split at h
 ·unfold dD cQ at h
  repeat' split at h
  all_goals first
   | (cases h;done)
   | (cases h;exact .inl ⟨rfl,rfl,rfl⟩)
   | (cases h;exact .inr ⟨by assumption,λz=>absurd z (by assumption)⟩)
   | (cases h;exact .inr ⟨by assumption,λz=>⟨rfl,z⟩⟩)
 split at h
 ·unfold gj at h
  split at h
  ·cases h;exact .inr ⟨n2,λz=>absurd z m2⟩
  ·exact hB h
 split at h
 ·exact hB h
 unfold fX at h
 split at h
 ·unfold cY at h
  repeat' split at h
  all_goals first
   | (cases h;done)
   | (cases h;exact .inl ⟨rfl,rfl,rfl⟩)
   | (cases h;exact .inr ⟨by assumption,λz=>absurd z (by assumption)⟩)
   | (cases h;exact .inr ⟨by assumption,λz=>⟨rfl,z⟩⟩)
 ·unfold cB at h
  repeat' split at h
  all_goals first
   | (cases h;done)
   | (cases h;exact .inl ⟨rfl,rfl,rfl⟩)
   | (cases h;exact .inr ⟨by assumption,λz=>absurd z (by assumption)⟩)
   | (cases h;exact .inr ⟨by assumption,λz=>⟨rfl,z⟩⟩)
theorem Np(g:DC)(c:Nat):DE g c ("end":Str)=⟨g.rows++[g.row++[g.cell]],[],("":Str)⟩:=by
 unfold DE
 rw[aai (ns (by decide +kernel)),aai (ns (by decide +kernel)),aaj (aA _)]
theorem KW(g:DC)(c:Nat):DE g c ("skip":Str)=g:=by
 unfold DE
 rw[aai (ns (by decide +kernel)),aai (ns (by decide +kernel)),aai (ns (by decide +kernel))]
theorem AF{p q f:Str}{b1 b2 b3 b4:Bool}:∀{cs:List Nat}{w u:Str}{g:DC},(w=Str.ofString "row"->g.row=[]/\g.cell=("":Str))->(runM p q f b1 b2 b3 b4 w u cs).2.2.2=none->(runM p q f b1 b2 b3 b4 w u cs).2.1=Str.ofString "row"->(nQ g cs (runM p q f b1 b2 b3 b4 w u cs).1).row=[]/\(nQ g cs (runM p q f b1 b2 b3 b4 w u cs).1).cell=("":Str)
 |[],w,u,g,hg,_,hr=>hg hr
 |c::cs,w,u,g,hg,hn,hr=>by
  cases hs:aQ p q f b1 b2 b3 b4 w u c with
  |go k w' u' =>
   rw[xN hs]at hn hr⊢
   show(nQ (DE g c k) cs _).row=[]/\(nQ (DE g c k) cs _).cell=_
   refine AF (cs:=cs) (w:=w') (u:=u') (λhw=>?_) hn hr
   rcases KU hs with ⟨rfl,_,_⟩|⟨_,h2⟩
   ·rw[Np];exact⟨rfl,rfl⟩
   ·obtain⟨rfl,hw0⟩:=h2 hw
    rw[KW];exact hg hw0
  |kj e=>rw[rB hs]at hn;cases hn
theorem Qt{w u:Str}(h:vE w u=true):w=Str.ofString "row"/\u=("":Str):=by
 unfold vE nj nj nj at h
 simp[xK]at h
 exact h
theorem Qu{p q f:Str}{b1 b2 b3 b4:Bool}{w u:Str}{cs:List Nat}(h:zA (runM p q f b1 b2 b3 b4 w u cs)=("":Str)):(runM p q f b1 b2 b3 b4 w u cs).2.2.2=none/\(runM p q f b1 b2 b3 b4 w u cs).2.1=Str.ofString "row"/\(runM p q f b1 b2 b3 b4 w u cs).2.2.1=("":Str):=by
 unfold zA at h
 cases he:(runM p q f b1 b2 b3 b4 w u cs).2.2.2 with
 |some e=>rw[he]at h;exact absurd h (DB he).1
 |none =>
  rw[he]at h
  dsimp only at h
  split at h
  ·rename_i hh;exact⟨rfl,Qt hh⟩
  ·exact absurd h (j5 (by decide +kernel))
abbrev TM(p q f:Str)(b1 b2 b3 b4:Bool)(z:Str):=runM p q f b1 b2 b3 b4 ("row":Str) ("":Str) z.cps.toList
def dj:List Nat:=("abcdefghijklmnopqrstuvwxyzABCDEFGHIJKLMNOPQRSTUVWXYZ0123456789":Str).cps.toList
theorem DH:dj.length=62:=by decide +kernel
theorem join_list(zs:List Str):(Txt.join ("":Str) zs).cps.toList=zs.flatMap (λz=>z.cps.toList):=by
 have ee:("":Str).cps.toList=[]:=by decide +kernel
 show(Builtin.Str.glued ("":Str) zs).cps.toList=_
 rw[StrLaws.glued_eq_join]
 induction zs with
 |nil=>exact ee
 |cons c cs ih =>
  cases cs with
  |nil =>
   show c.cps.toList=_
   simp
  |cons d cs =>
   show(c++("":Str)++Str.join ("":Str) (d::cs)).cps.toList=_
   rw[app_list,app_list,ee,aaH,ih]
   simp[aaO]
theorem Nq{a b:Str}(h:a.cps.toList=b.cps.toList):a=b:=by
 cases a;cases b
 congr 1
 exact Array.toList_inj.mp h
theorem uu(l:List Nat)(c:Nat):away ⟨l.toArray⟩ c=true↔c∉l:=by
 rw[fk]
theorem Nr:dj.Nodup:=by decide +kernel
theorem yo{t:Str}(h:t.length<=60):∃c r,dj.filter (away t)=c::r/\c∉t.cps.toList:=by
 cases e:dj.filter (away t) with
 |cons c r =>
  have:c∈dj.filter (away t):=by rw[e];exact aaE ..
  exact⟨c,r,O,(fk _ _).mp (List.mem_filter.mp this).2⟩
 |nil =>
  exfalso
  have:=sub_len (L:=dj) (M:=t.cps.toList) Nr λx hx=>aa0 λq=>by
   have:x∈dj.filter (away t):=List.mem_filter.mpr ⟨hx,(fk _ _).mpr q⟩
   rw[e]at this;cases this
  rw[DH,aap]at this
  have:t.cps.size<=60:=h
  omega
theorem DI{a:Array Nat}(nd:a.toList.Nodup):∀{l:List Nat},l.Nodup->(l.filterMap (λx=>a[x]?)).Nodup
 |[],_=>List.nodup_nil
 |k::l,h=>by
  obtain⟨h1,h2⟩:=abq.mp h
  have ih:=DI nd h2
  rw[abw]
  cases e:a[k]? with
  |none=>exact ih
  |some c =>
   refine abq.mpr ⟨λq=>?_,ih⟩
   obtain⟨m,hm,em⟩:=aaU.mp q
   refine h1 ?_
   have hk:k=m:=by
    obtain⟨k1,k2⟩:=abn.mp e
    obtain⟨m1,m2⟩:=abn.mp em
    have Vo:k<a.toList.length:=by rw[aap];exact k1
    have WV:m<a.toList.length:=by rw[aap];exact m1
    have:a.toList[k]=a.toList[m]:=by rw[Array.getElem_toList,Array.getElem_toList,k2,m2]
    rcases Nat.lt_trichotomy k m with q|q|q
    ·exact absurd this (List.pairwise_iff_getElem.mp nd k m Vo WV q)
    ·exact q
    ·exact absurd this.symm (List.pairwise_iff_getElem.mp nd m k WV Vo q)
   rw[hk];exact hm
theorem DJ{z:Str}{lo hi:Option Int}(g:Sg z)(h:(Builtin.Str.strSliceIndices lo hi 1 z.length).Nodup):Sg (Txt.slice z lo hi):=by
 refine⟨?_,λc hc=>g.pr c (AE hc)⟩
 unfold Txt.slice
 split
 ·exact g.nd
 ·exact DI g.nd h
theorem KY:∀n:Nat,n<5->(Builtin.Str.strSliceIndices none (some (-1)) 1 n).Nodup/\(Builtin.Str.strSliceIndices none (some (-1)) 1 n).length=n-1:=by decide +kernel
theorem BN:∀n:Nat,n<5->(Builtin.Str.strSliceIndices (some (-3)) none 1 n).Nodup/\(Builtin.Str.strSliceIndices (some (-3)) none 1 n).length=min n 3/\∀k∈Builtin.Str.strSliceIndices (some (-3)) none 1 n,k<n:=by decide +kernel
theorem AG{z:Str}{lo hi:Option Int}{m:Nat}(h:(Builtin.Str.strSliceIndices lo hi 1 z.length).length=m):(Txt.slice z lo hi).length<=m:=by
 unfold Txt.slice
 split
 ·rename_i e
  have:(Builtin.Str.strSliceIndices lo hi 1 z.length).length=z.length:=by simpa using e
  omega
 ·show(List.filterMap _ _).toArray.size<=m
  rw[aam,←h]
  exact List.length_filterMap_le _ _
theorem yp{z:Str}(g:Sg z)(h:z.length<5):Sg (Txt.slice z none (some (-1))):=DJ g (KY _ h).1
theorem jD{z:Str}(h:z.length<5):(Txt.slice z none (some (-1))).length<=z.length-1:=AG (KY _ h).2
theorem Nt{z:Str}(g:Sg z)(h:z.length<5):Sg (Txt.slice z (some (-3)) none):=DJ g (BN _ h).1
theorem KZ{z:Str}(h:z.length<5):(Txt.slice z (some (-3)) none).length<=3:=aaq (AG (BN _ h).2.1) (Nat.min_le_right _ _)
theorem K0{a:Array Nat}:∀{l:List Nat},(∀k∈l,k<a.size)->(l.filterMap (λx=>a[x]?)).length=l.length
 |[],_=>rfl
 |k::l,h=>by
  have hk:=h k (aaE ..)
  rw[abw,show a[k]?=some a[k] by simp[hk]]
  show(List.filterMap _ l).length+1=_
  rw[K0 λm hm=>h m (aay _ hm),aaF]
theorem last_pos{z:Str}(h:z.length<5)(h1:1<=z.length):1<=(Txt.slice z (some (-3)) none).length:=by
 obtain⟨_,e,b⟩:=BN _ h
 unfold Txt.slice
 split
 ·exact h1
 ·show 1<=(List.filterMap _ _).toArray.size
  rw[aam,K0 b,e]
  omega
theorem qi{z:Str}{lo hi:Option Int}{c:Nat}(h:away z c=true):away (Txt.slice z lo hi) c=true:=(fk _ _).mpr λq=>(fk _ _).mp h (AE q)
theorem Nu{zs:List Str}{m:Nat}(h:∀z∈zs,z.length<=m):(zs.map (·.length)).sum+zs.length*("":Str).length<=m*zs.length:=by
 have e:("":Str).length=0:=by decide +kernel
 rw[e,Nat.mul_zero,Nat.add_zero]
 induction zs with
 |nil=>exact aaM _
 |cons z zs ih =>
  have h1:=h z (aaE ..)
  have h2:=ih λy hy=>h y (aay _ hy)
  rw[abe,List.sum_cons,aaF,Nat.mul_succ]
  omega
theorem Fj{zs:List Str}{m:Nat}(h:∀z∈zs,z.length<=m):(zs.flatMap (λz=>z.cps.toList)).length<=m*zs.length:=by
 induction zs with
 |nil=>exact aaM _
 |cons z zs ih =>
  have h1:=h z (aaE ..)
  have h2:=ih λy hy=>h y (aay _ hy)
  rw[aaO,aao,aaF,Nat.mul_succ,aap]
  have:z.cps.size<=m:=h1
  omega
theorem K1{a b:Int}(h:decide (V.int a=V.int b)=true):a=b:=by have:=aa5 h;cases this;rfl
theorem K2{α:Type}[DecidableEq α]{r r':List α}(h:r.length=r'.length):((List.range r.length).all λj=>decide (r[j]?=r'[j]?))=decide (r=r'):=by
 rw[aaL,aa7,aaD]
 constructor
 ·intro q
  refine List.ext_getElem? λi=>?_
  by_cases hi:i<r.length
  ·exact aa5 (q i (List.mem_range.mpr hi))
  ·rw[abz (by omega),abz (by omega)]
 ·rintro rfl i _
  exact aas rfl
theorem Nv(z z':Str):xK (.str z) (.str z')=decide (z=z'):=by
 show(z==z')=_
 rw[aaL,beq_iff_eq,aaD]
theorem Nx{K:W.Frag}{H:Hp}{a b:Addr}{r r':List Str}(ha:H a=some (.lst (r.map V.str)))(hb:H b=some (.lst (r'.map V.str))):qc K H 1 (.ref a) (.ref b) (decide (r=r')):=by
 by_cases hne:a=b
 ·subst hne
  rw[ha]at hb
  have e:r=r':=by
   have:=HO.lst.inj (aax hb)
   exact(List.map_inj_right (λx y h=>V.str.inj h)).mp this
  rw[aas e]
  exact .same
 by_cases hl:r.length=r'.length
 ·rw[←K2 hl]
  have e:r.length=(r.map V.str).length:=(aav _).symm
  rw[e]
  refine qc.lst hne (bK.of ha) (bK.of hb) (by rw[aav,aav,hl]) λj x y ex ey=>?_
  obtain⟨z,hz,rfl⟩:=BL ex
  obtain⟨z',hz',rfl⟩:=BL ey
  have e2:decide (r[j]?=r'[j]?)=xK (.str z) (.str z'):=by
   rw[hz,hz',Nv,aaL,aaD,aaD]
   exact⟨λq=>aax q,λq=>by rw[q]⟩
  rw[e2]
  exact .flat rfl rfl
 ·rw[aak (λq=>hl (by rw[q]))]
  exact qc.len hne (bK.of ha) (bK.of hb) (by rw[aav,aav];exact hl)
theorem Ny{K:W.Frag}{A B H:Hp}{la lb:Addr}{es ds:List V}{T T':List (List Str)}(ha:H la=some (.lst es))(hb:H lb=some (.lst ds))(h1:rC A H es T)(h2:rC B H ds T'):TopC K H (.ref la) (.ref lb) (decide (T=T')):=by
 have l1:=h1.length
 have l2:=h2.length
 by_cases hl:T.length=T'.length
 ·rw[←K2 hl,←l1]
  refine TopC.lst (n:=1) (by decide) (bK.of ha) (bK.of hb) (by omega) λj x y ex ey=>?_
  obtain⟨r,hr,a,rfl,_,ha⟩:=bW h1 j x ex
  obtain⟨r',hr',b,rfl,_,hb⟩:=bW h2 j y ey
  have e2:decide (T[j]?=T'[j]?)=decide (r=r'):=by
   rw[hr,hr',aaL,aaD,aaD]
   exact⟨λq=>aax q,λq=>by rw[q]⟩
  rw[e2]
  exact Nx ha hb
 ·rw[aak (λq=>hl (by rw[q]))]
  exact TopC.len (bK.of ha) (bK.of hb) (by omega)
def K3(r:List Str×Str×Str×Option Str)(z:Str):Option (List (List Str)):=if zA r=("":Str) then some (Fi z r.1) else none
def RP(A H:Hp)(v:V):Option (List (List Str))->Prop
 |none=>v=.non
 |some T=>∃l es,v=.ref l/\A l=none/\H l=some (.lst es)/\rC A H es T
theorem RP.mono{A H H':Hp}{v:V}{o:Option (List (List Str))}(s:aI H H')(h:RP A H v o):RP A H' v o:=by
 cases o with
 |none=>exact h
 |some T=>obtain⟨l,es,e1,e2,e3,e4⟩:=h;exact⟨l,es,e1,e2,s _ _ e3,rC.mono s e4⟩
theorem TN{K:W.Frag}{A B H:Hp}{v w:V}{o o':Option (List (List Str))}{Q:VK}(h1:RP A H v o)(h2:RP B H w o')(q:Q (.bl (!decide (o=o'))) H):ZF v w H Q\/(Td K v w H Q\/Th K v w H Q):=by
 cases o with
 |none =>
  cases h1
  cases o' with
  |none=>cases h2;rw[aas rfl]at q;exact .inl ⟨rfl,by rw[aas rfl];exact q⟩
  |some T =>
   obtain⟨l,es,rfl,_,e3,_⟩:=h2
   rw[aak (by intro z;cases z)]at q
   exact .inr (.inr ⟨.inl ⟨rfl,l,_,rfl,bK.of e3⟩,q⟩)
 |some T =>
  obtain⟨l,es,rfl,_,e3,e4⟩:=h1
  cases o' with
  |none =>
   cases h2
   rw[aak (by intro z;cases z)]at q
   exact .inr (.inr ⟨.inr ⟨rfl,l,_,rfl,bK.of e3⟩,q⟩)
  |some T' =>
   obtain⟨l',es',rfl,_,e3',e4'⟩:=h2
   have e:decide (some T=some T')=decide (T=T'):=by
    by_cases h:T=T'
    ·rw[h,aas rfl,aas rfl]
    ·rw[aak h,aak λz=>h (aax z)]
   rw[e]at q
   exact .inr (.inl ⟨_,Ny e3 e3' e4 e4',q⟩)
structure B4 where
 a:Bool
 b:Bool
 c:Bool
 d:Bool
def B4.vs(b:B4):List V:=[.bl b.a,.bl b.b,.bl b.c,.bl b.d]
abbrev bu:=Str×Str×Str×B4
def K4(x:bu):List V:=kD x.1 x.2.1 x.2.2.1 x.2.2.2.a x.2.2.2.b x.2.2.2.c x.2.2.2.d
def iU(x:bu):List (Str×V):=BF x.1 x.2.1 x.2.2.1 x.2.2.2.a x.2.2.2.b x.2.2.2.c x.2.2.2.d
abbrev gm(x:bu):Prop:=Gd x.1 x.2.1 x.2.2.1
abbrev Mks(C:Addr)(H:Hp):List V->List bu->Prop:=Paired λe x=>∃y dy,e=V.ref y/\H y=some (.ins C dy (iU x))
def runC(x:bu)(z:Str):List Str×Str×Str×Option Str:=runM x.1 x.2.1 x.2.2.1 x.2.2.2.a x.2.2.2.b x.2.2.2.c x.2.2.2.d ("row":Str) ("":Str) z.cps.toList
def zB(z:Str):List (Str×Str):=z.cps.toList.map λk=>(Str.ofString "put",sg k)
def AH:Str×Str:=(Str.ofString "part",("":Str))
def Qv:Str×Str:=(Str.ofString "end",("":Str))
def rD:List Str->Nat->List (Str×Str)
 |_,0=>[]
 |r,n+1=>rD r n++((if n=0 then [] else [AH])++zB (r.getD n ("":Str)))
def Fl(r:List Str):List (Str×Str):=rD r r.length++[Qv]
def qj(t:List (List Str)):List (Str×Str):=t.flatMap Fl
theorem Iv{r:List Str}{n:Nat}{z:Str}(h:r[n]?=some z):rD r (n+1)=rD r n++((if n=0 then [] else [AH])++zB z):=by
 show rD r n++((if n=0 then [] else [AH])++zB (r.getD n ("":Str)))=_
 rw[List.getD_eq_getElem?_getD,h];rfl
theorem DK(t:List (List Str))(r:List Str):qj (t++[r])=qj t++Fl r:=by unfold qj;rw[List.flatMap_append];simp
def dH(acc:List Nat)(c:Nat):List Nat:=if away ⟨acc.toArray⟩ c=true then acc++[c] else acc
def dw(l:List Nat):List Nat:=l.foldl dH []
theorem lE(l:List Nat)(c:Nat):dw (l++[c])=dH (dw l) c:=by unfold dw;rw[abb];rfl
theorem AI(l:List Nat):(dw l).length<=l.length:=by
 have key:∀(l acc:List Nat),(l.foldl dH acc).length<=acc.length+l.length:=by
  intro l
  induction l with
  |nil=>intro acc;exact aan _
  |cons c l ih =>
   intro acc
   rw[aaQ,aaF]
   have h1:=ih (dH acc c)
   have h2:(dH acc c).length<=acc.length+1:=by
    unfold dH
    split
    ·rw[aao];exact aan _
    ·omega
   omega
 have:=key l []
 simpa [dw]using this
def bF(z:Str):Str:=⟨(dw z.cps.toList).toArray⟩
theorem gR(z:Str):(bF z).length<=z.length:=by
 show(dw z.cps.toList).toArray.size<=_
 rw[aam]
 refine aaq (AI _) ?_
 rw[aap];exact aan _
def bX(p q f:Str)(b1 b2 b3 b4:Bool)(w u:Str)(c:Nat):Option (Str×Str×Str):=match aQ p q f b1 b2 b3 b4 w u c with
 | .go k w' u'=>if cD f w' u'=true then some (k,w',u') else none
 | .kj _=>none
def Hj(K:W.Frag)(x:Option (Str×Str×Str))(H:Hp)(v:V):Prop:=match x with
 |none=>v=.non
 |some (k,w,u)=>∃a b,v=.ref a/\aN K H a [.str k,.ref b]/\aN K H b [.str w,.str u]
def Qw(ts:List (Str×Str))(n:Nat)(k s:Str):Option Nat:=if aY k ("skip":Str)=true then some n else if ts[n]?=some (k,if aY k ("put":Str)=true then s else Str.ofString "") then some (n+1) else none
abbrev mJ:=(Str×Str)×Nat
def Qx(p q f:Str)(b1 b2 b3 b4:Bool)(ts:List (Str×Str))(m:mJ)(c:Nat):Option mJ:=match bX p q f b1 b2 b3 b4 m.1.1 m.1.2 c with
 |none=>none
 |some (k,w,u)=>(match Qw ts m.2 k (sg c) with
  |none=>none
  |some n=>some ((w,u),n))
theorem Tn.off{C CT:Addr}{H:Hp}{y m:Addr}{p q f:Str}{b1 b2 b3 b4:Bool}{o o':HO}(hm:H m=some o')(n1:∀d fs,o'≠.ins CT d (WS fs))(n2:∀d,o'≠.ins C d (BF p q f b1 b2 b3 b4))(h:Tn C CT H y p q f b1 b2 b3 b4):Tn C CT (upd H m o) y p q f b1 b2 b3 b4:=by
 obtain⟨dy,d,dd,e1,e2⟩:=h.ok
 exact⟨dy,d,dd,(aH (λq=>by rw[q,hm]at e1;exact n1 _ _ (aax e1))).trans e1,(aH (λq=>by rw[q,hm]at e2;exact n2 _ (aax e2))).trans e2⟩
def WW(p q f:Str):Str:=bF ((p++q)++f)++Str.ofString "\n"++Str.ofString " "
def TQ(p q f:Str)(b1 b2 b3 b4:Bool)(ts:List (Str×Str))(m:mJ):List (Nat×mJ):=match ts[m.2]? with
 |none=>[]
 |some t=>(bF (WW p q f++t.2)).cps.toList.filterMap λc=>(Qx p q f b1 b2 b3 b4 ts m c).map λm'=>(c,m')
abbrev Cm:=List (mJ×Option (mJ×Nat))
def Nz(cm:Cm)(m:mJ):Bool:=cm.any λe=>decide (e.1=m)
def m0:mJ:=((Str.ofString "row",("":Str)),0)
def TR(cm:Cm)(m:mJ):Option (Option (mJ×Nat)):=(cm.find? λe=>decide (e.1=m)).map (·.2)
inductive Hl(cm:Cm):Option (mJ×Nat)->List Nat->Prop where
 |nil:Hl cm none []
 |cons {m:mJ}{c:Nat}{x:Option (mJ×Nat)}{r:List Nat}:TR cm m=some x->Hl cm x r->Hl cm (some (m,c)) (c::r)
theorem Ho:∀(xs:List Nat),((xs.map sg).map (·.length)).sum=xs.length
 |[]=>rfl
 |x::xs=>by rw[abe,abe,List.sum_cons,Ho xs,J7,aaF];omega
inductive Hq(led:mJ->List (Nat×mJ))(a:mJ):List Nat->mJ->Prop where
 |nil:Hq led a [] a
 |snoc {xs:List Nat}{p q:mJ}{c:Nat}:Hq led a xs p->(c,q)∈led p->Hq led a (xs++[c]) q
def OY(led:mJ->List (Nat×mJ))(a:mJ)(cm:Cm)(m:mJ)(n:Nat):Prop:=∃x xs,TR cm m=some x/\Hl cm x xs/\Hq led a xs.reverse m/\xs.length=n
section
variable{good:mJ->Bool}{led:mJ->List (Nat×mJ)}{a:mJ}
structure Mid(led:mJ->List (Nat×mJ))(a:mJ)(cm:Cm)(k:Nat)(acc:Cm×List mJ):Prop where
 pre:∃l,acc.1=cm++l
 told:∀m,Nz acc.1 m=true->∃n,n<=k+1/\OY led a acc.1 m n
 new:∀m∈acc.2,OY led a acc.1 m (k+1)/\Nz acc.1 m=true
 old:∀m,Nz acc.1 m=true->Nz cm m=true\/m∈acc.2
end
def Z0(p q f u:Str)(c:Nat)(k w' u':Str):Prop :=
 (k=Str.ofString "skip"/\(fG c f=true\/fG c q=true\/aY (sg c) u=true\/aY (sg c) (" ":Str)=true))\/(k=Str.ofString "end"/\aY (sg c) (Str.ofString "\n")=true/\w'=Str.ofString "row"/\u'=("":Str))\/(k=Str.ofString "part"/\fG c p=true)\/k=("put":Str)
theorem DL{p q f:Str}{b1 b2 b3 b4:Bool}{w u k w' u':Str}{c:Nat}(h:aQ p q f b1 b2 b3 b4 w u c=.go k w' u'):Z0 p q f u c k w' u':=by
 have hB:bq p b3 c=.go k w' u'->Z0 p q f u c k w' u':=by
  intro h
  unfold bq at h
  repeat' split at h
  all_goals first
   | (cases h;done)
   | (cases h;exact .inr (.inl ⟨rfl,by assumption,rfl,rfl⟩))
   | (cases h;exact .inr (.inr (.inl ⟨rfl,by assumption⟩)))
   | (cases h;exact .inl ⟨rfl,.inr (.inr (.inr (by assumption)))⟩)
 unfold aQ at h
 split at h
 ·unfold cg at h
  repeat' split at h
  all_goals first
   | (cases h;done)
   | (cases h;exact .inr (.inr (.inr rfl)))
   | (cases h;exact .inl ⟨rfl,.inl (by assumption)⟩)
   | (cases h;exact .inl ⟨rfl,.inr (.inr (.inl (by assumption)))⟩)
 split at h
 ·unfold dD cQ at h
  repeat' split at h
  all_goals first
   | (cases h;done)
   | (cases h;exact .inr (.inr (.inr rfl)))
 split at h
 ·unfold gj at h
  split at h
  ·cases h;exact .inr (.inr (.inr rfl))
  ·exact hB h
 split at h
 ·exact hB h
 unfold fX at h
 split at h
 ·unfold cY at h
  repeat' split at h
  all_goals first
   | (cases h;done)
   | (cases h;exact .inr (.inr (.inr rfl)))
   | (cases h;exact .inr (.inl ⟨rfl,by assumption,rfl,rfl⟩))
   | (cases h;exact .inr (.inr (.inl ⟨rfl,by assumption⟩)))
   | (cases h;exact .inl ⟨rfl,.inl (by assumption)⟩)
 ·unfold cB at h
  repeat' split at h
  all_goals first
   | (cases h;done)
   | (cases h;exact .inr (.inr (.inr rfl)))
   | (cases h;exact .inr (.inl ⟨rfl,by assumption,rfl,rfl⟩))
   | (cases h;exact .inr (.inr (.inl ⟨rfl,by assumption⟩)))
   | (cases h;exact .inl ⟨rfl,.inl (by assumption)⟩)
   | (cases h;exact .inl ⟨rfl,.inr (.inl (by assumption))⟩)
   | (cases h;exact .inl ⟨rfl,.inr (.inr (.inr (by assumption)))⟩)
def Jr(q:Str):List (Str×Str):=[(Str.ofString "row",("":Str)),(Str.ofString "cell",("":Str)),(Str.ofString "plain",("":Str)),(Str.ofString "behind",("":Str)),(Str.ofString "freed",("":Str))]++q.cps.toList.flatMap λc=>[(Str.ofString "within",sg c),(Str.ofString "doubt",sg c),(Str.ofString "freed",sg c)]
theorem yq{q w u:Str}(h:gQ q w u):(w,u)∈Jr q:=by
 unfold Jr
 rcases h with ⟨rfl,rfl|rfl|rfl|rfl|rfl⟩|⟨d,hd,rfl,rfl|rfl|rfl⟩
 ·exact aaV _ (by simp)
 ·exact aaV _ (by simp)
 ·exact aaV _ (by simp)
 ·exact aaV _ (by simp)
 ·exact aaV _ (by simp)
 ·exact aaI _ (abx.mpr ⟨d,hd,by simp⟩)
 ·exact aaI _ (abx.mpr ⟨d,hd,by simp⟩)
 ·exact aaI _ (abx.mpr ⟨d,hd,by simp⟩)
theorem rE{p q f:Str}(g:Gd p q f):(Jr q).length<=11:=by
 have e:∀l:List Nat,(l.flatMap λc=>[(Str.ofString "within",sg c),(Str.ofString "doubt",sg c),(Str.ofString "freed",sg c)]).length=3*l.length:=by
  intro l
  induction l with
  |nil=>rfl
  |cons a l ih=>rw[aaO,aao,ih];show 3+3*l.length=3*(l.length+1);omega
 unfold Jr
 rw[aao,e]
 have:q.cps.toList.length<=2:=by rw[aap];exact g.q2
 show 5+_<=11
 omega
theorem BO{a b:Nat}(h:sg a=sg b):a=b:=by
 have e:(sg a).cps.toList=(sg b).cps.toList:=by rw[h]
 exact(List.cons.inj e).1
theorem AJ{c:Nat}:∀(l:List Nat)(acc:List Nat),c∈l.foldl dH acc↔c∈acc\/c∈l
 |[],acc=>by simp
 |a::l,acc=>by
  rw[aaQ,AJ l]
  unfold dH
  by_cases h:away ⟨acc.toArray⟩ a=true
  ·rw[aaj h,aaC,aat,aaB,or_assoc]
  ·rw[aai h]
   have ha:a∈acc:=by
    by_cases z:a∈acc
    ·exact z
    ·exact absurd ((fk _ _).mpr (by simpa using z)) h
   rw[aaB]
   constructor
   ·rintro(z|z)
    ·exact .inl z
    ·exact .inr (.inr z)
   ·rintro(z|z|z)
    ·exact .inl z
    ·subst z;exact .inl ha
    ·exact .inr z
theorem kG{c:Nat}{z:Str}:c∈(bF z).cps.toList↔c∈z.cps.toList:=by
 show c∈(dw z.cps.toList).toArray.toList↔_
 unfold dw
 rw[show((z.cps.toList.foldl dH []).toArray).toList=z.cps.toList.foldl dH []from rfl,AJ]
 simp
theorem Qy{p q f:Str}{c:Nat}:c∈(WW p q f).cps.toList↔c∈p.cps.toList\/c∈q.cps.toList\/c∈f.cps.toList\/c=10\/c=32:=by
 unfold WW
 rw[app_list,app_list,aaC,aaC,kG,app_list,app_list,aaC,aaC]
 have e1:(Str.ofString "\n").cps.toList=[10]:=by decide +kernel
 have e2:(" ":Str).cps.toList=[32]:=by decide +kernel
 rw[e1,e2,aat,aat]
 simp only[or_assoc]
def Ml:List Str->List Nat->List (Str×Str)
 |k::ks,c::cs=>(if aY k ("skip":Str)=true then [] else [(k,if aY k ("put":Str)=true then sg c else Str.ofString "")])++Ml ks cs
 |_,_=>[]
theorem TU{c:Nat}(h:aY (sg c) (Str.ofString "\n")=true):c=10:=BO ((iC h).trans (by decide +kernel))
theorem TV{c:Nat}(h:aY (sg c) (" ":Str)=true):c=32:=BO ((iC h).trans (by decide +kernel))
theorem tried{p q f:Str}{b1 b2 b3 b4:Bool}{ts:List (Str×Str)}{w u k w' u':Str}{c n n':Nat}(hq:gQ q w u)(hs:aQ p q f b1 b2 b3 b4 w u c=.go k w' u')(hl:cD f w' u'=true)(hn:n<ts.length)(hc:Qw ts n k (sg c)=some n'):(c,((w',u'),n'))∈TQ p q f b1 b2 b3 b4 ts ((w,u),n):=by
 have hm:Qx p q f b1 b2 b3 b4 ts ((w,u),n) c=some ((w',u'),n'):=by
  unfold Qx bX
  dsimp only
  rw[hs]
  dsimp only
  rw[aaj hl]
  dsimp only
  rw[hc]
 unfold TQ
 obtain⟨t,ht⟩:∃t,ts[n]?=some t:=⟨ts[n],List.getElem?_eq_getElem hn⟩
 dsimp only
 rw[ht]
 refine aaU.mpr ⟨c,?_,by rw[hm];rfl⟩
 rw[kG,app_list,aaC,Qy]
 rcases DL hs with ⟨e,z⟩|⟨e,z,_⟩|⟨e,z⟩|e
 ·rcases z with z|z|z|z
  ·exact .inl (.inr (.inr (.inl (KR z))))
  ·exact .inl (.inr (.inl (KR z)))
  ·rcases hq with ⟨rfl,_⟩|⟨d,hd,rfl,_⟩
   ·exact absurd z (ym c)
   ·rw[BO (iC z)];exact .inl (.inr (.inl hd))
  ·exact .inl (.inr (.inr (.inr (.inr (TV z)))))
 ·exact .inl (.inr (.inr (.inr (.inl (TU z)))))
 ·exact .inl (.inl (KR z))
 ·subst e
  unfold Qw at hc
  rw[aai (ns (by decide +kernel)),aaj (aA _),ht]at hc
  by_cases e:some t=some (Str.ofString "put",sg c)
  ·injection e with e
   right
   rw[e]
   exact aat.mpr rfl
  ·rw[aai e]at hc;cases hc
section
variable{p q f:Str}{b1 b2 b3 b4:Bool}
def Rd0(p q f:Str)(b1 b2 b3 b4:Bool)(w u:Str)(ts:List (Str×Str))(cs:List Nat):Prop:=(runM p q f b1 b2 b3 b4 w u cs).2=(Str.ofString "row",("":Str),none)/\Ml (runM p q f b1 b2 b3 b4 w u cs).1 cs=ts
abbrev TX(p q f:Str)(b1 b2 b3 b4:Bool)(ts:List (Str×Str))(cs:List Nat):Prop:=Rd0 p q f b1 b2 b3 b4 ("row":Str) ("":Str) ts cs
end
def uv(g:DC)(t:Str×Str):DC :=
 if aY t.1 ("put":Str)=true then ⟨g.rows,g.row,g.cell++t.2⟩
 else if aY t.1 ("part":Str)=true then ⟨g.rows,g.row++[g.cell],("":Str)⟩
 else if aY t.1 ("end":Str)=true then ⟨g.rows++[g.row++[g.cell]],[],("":Str)⟩
 else g
theorem NB{g:DC}{c:Nat}{k:Str}:DE g c k=(if aY k ("skip":Str)=true then [] else [(k,if aY k ("put":Str)=true then sg c else Str.ofString "")]).foldl uv g:=by
 by_cases hk:aY k ("skip":Str)=true
 ·rw[aaj hk,iC hk]
  unfold DE
  rw[aai (ns (by decide +kernel)),aai (ns (by decide +kernel)),aai (ns (by decide +kernel))]
  rfl
 ·rw[aai hk]
  show _=uv g _
  unfold DE uv
  dsimp only
  by_cases hp:aY k ("put":Str)=true
  ·rw[aaj hp,aaj hp,aaj hp]
  ·rw[aai hp,aai hp]
theorem yr:∀{cs:List Nat}{ks:List Str}{g:DC},nQ g cs ks=(Ml ks cs).foldl uv g
 |[],[],_=>rfl
 |[],_::_,_=>rfl
 |_::_,[],_=>rfl
 |c::cs,k::ks,g=>by
  show nQ (DE g c k) cs ks=((if _ then _ else _)++Ml ks cs).foldl uv g
  rw[abb,←NB,yr]
theorem Iw(z:Str)(c:Nat):zB (z++sg c)=zB z++[(Str.ofString "put",sg c)]:=by
 unfold zB
 rw[app_list,aaS]
 rfl
theorem DM{r s:List Str}:∀{n:Nat},n<=r.length->rD (r++s) n=rD r n
 | 0,_=>rfl
 |n+1,h=>by
  show rD (r++s) n++(_++zB ((r++s).getD n _))=rD r n++(_++zB (r.getD n _))
  rw[DM (Nat.le_of_succ_le h),List.getD_eq_getElem?_getD,List.getD_eq_getElem?_getD,List.getElem?_append_left h]
theorem kH{r:List Str}{z:Str}:rD (r++[z]) (r.length+1)=rD r r.length++((if r.length=0 then [] else [AH])++zB z):=by
 rw[Iv (z:=z) (by simp),DM (aan _)]
def BP(g:DC):List (Str×Str):=qj g.rows++rD (g.row++[g.cell]) (g.row.length+1)
def Qz(t:Str×Str):Prop:=(∃c,t=(Str.ofString "put",sg c))\/t=AH\/t=Qv
theorem BQ:zB ("":Str)=[]:=by decide +kernel
theorem Iz{g:DC}{t:Str×Str}(h:Qz t):BP (uv g t)=BP g++[t]:=by
 rcases h with ⟨c,rfl⟩|rfl|rfl
 ·unfold uv BP
  dsimp only
  rw[aaj (aA _)]
  dsimp only
  rw[kH,kH,Iw]
  simp only[aaN]
 ·unfold uv BP
  rw[show AH.1=("part":Str) from rfl,aai (ns (by decide +kernel)),aaj (aA _)]
  dsimp only
  rw[kH (r:=g.row++[g.cell]),BQ,aai (by simp),aao]
  simp only[aaN,aaH]
  rfl
 ·unfold uv BP
  rw[show Qv.1=("end":Str) from rfl,aai (ns (by decide +kernel)),aai (ns (by decide +kernel)),aaj (aA _)]
  dsimp only
  rw[DK]
  unfold Fl
  rw[aao]
  have e:rD ([]++[("":Str)]) (([]:List Str).length+1)=[]:=by rw[kH,BQ];rfl
  rw[e,aaH,aaN]
  rfl
theorem yt:∀{ts:List (Str×Str)}{g:DC},(∀t∈ts,Qz t)->BP (ts.foldl uv g)=BP g++ts
 |[],_,_=>(aaH _).symm
 |t::ts,g,h=>by
  rw[aaQ,yt λt z=>h t (aay _ z),Iz (h t (aaE ..)),aaN]
  rfl
theorem K5{p q f:Str}{b1 b2 b3 b4:Bool}:∀{cs:List Nat}{w u:Str},∀t∈Ml (runM p q f b1 b2 b3 b4 w u cs).1 cs,Qz t
 |[],w,u,t,h=>nomatch h
 |c::cs,w,u,t,h=>by
  unfold runM at h
  cases hs:aQ p q f b1 b2 b3 b4 w u c with
  |kj e=>rw[hs]at h;cases h
  |go k w' u' =>
   rw[hs]at h
   dsimp only at h
   unfold Ml at h
   rcases aaC.mp h with z|z
   ·by_cases hk:aY k ("skip":Str)=true
    ·rw[aaj hk]at z;cases z
    ·rw[aai hk]at z
     have z:=aat.mp z
     rcases DL hs with ⟨e,_⟩|⟨e,_⟩|⟨e,_⟩|e
     ·rw[e,aA]at hk;exact absurd rfl hk
     ·subst e;rw[aai (ns (by decide +kernel))]at z;exact .inr (.inr z)
     ·subst e;rw[aai (ns (by decide +kernel))]at z;exact .inr (.inl z)
     ·subst e;rw[aaj (aA _)]at z;exact .inl ⟨c,z⟩
   ·exact K5 t z
theorem K6{p q f:Str}{b1 b2 b3 b4:Bool}{z:Str}(h:(runM p q f b1 b2 b3 b4 ("row":Str) ("":Str) z.cps.toList).2=(Str.ofString "row",("":Str),none)):TX p q f b1 b2 b3 b4 (qj (Fi z (runM p q f b1 b2 b3 b4 ("row":Str) ("":Str) z.cps.toList).1)) z.cps.toList:=by
 refine⟨h,?_⟩
 have h1:(runM p q f b1 b2 b3 b4 ("row":Str) ("":Str) z.cps.toList).2.2.2=none:=by rw[h]
 have h2:(runM p q f b1 b2 b3 b4 ("row":Str) ("":Str) z.cps.toList).2.1=("row":Str):=by rw[h]
 obtain⟨c1,c2⟩:=AF (g:=BK) (λ_=>⟨rfl,rfl⟩) h1 h2
 have e:=yt (g:=BK) (K5 (p:=p) (q:=q) (f:=f) (b1:=b1) (b2:=b2) (b3:=b3) (b4:=b4) (cs:=z.cps.toList) (w:=("row":Str)) (u:=("":Str)))
 rw[←yr]at e
 have e0:rD ([]++[("":Str)]) (([]:List Str).length+1)=[]:=by rw[kH,BQ];rfl
 have g0:BP BK=[]:=e0
 rw[g0,abW]at e
 rw[←e]
 unfold BP
 rw[c1,c2,e0,aaH]
 rfl
theorem DN{p q f:Str}{b1 b2 b3 b4:Bool}{z:Str}{ts:List (Str×Str)}(h:TX p q f b1 b2 b3 b4 ts z.cps.toList):Fi z (runM p q f b1 b2 b3 b4 ("row":Str) ("":Str) z.cps.toList).1=(ts.foldl uv BK).rows:=by
 unfold Fi
 rw[yr,h.2]
theorem yu(cs:List Nat):(Txt.join ("":Str) (cs.map sg)).cps.toList=cs:=by
 have ee:("":Str).cps.toList=[]:=by decide +kernel
 show(Builtin.Str.glued ("":Str) (cs.map sg)).cps.toList=_
 rw[StrLaws.glued_eq_join]
 induction cs with
 |nil=>exact ee
 |cons c cs ih =>
  cases cs with
  |nil=>rfl
  |cons d cs =>
   show(sg c++("":Str)++Str.join ("":Str) ((d::cs).map sg)).cps.toList=_
   rw[app_list,app_list,ee,aaH,ih]
   rfl
theorem K7(xs:List V)(n:Nat)(h:n<=xs.length):v9 xs (some (n:Int)) none=xs.drop n:=by
 unfold v9
 have e1:HT.f9 xs.length xs.length none=xs.length:=rfl
 have e2:HT.f9 xs.length 0 (some (n:Int))=n:=by
  show(if (n:Int)<0 then ((n:Int)+(xs.length:Int)).toNat else min (n:Int).toNat xs.length)=_
  rw[aai (by omega),abE];omega
 rw[e1,e2,aaJ (by rw[List.length_drop];exact aan _)]
section
variable{good:mJ->Bool}{led:mJ->List (Nat×mJ)}{a:mJ}
end
section
variable{p q f:Str}{b1 b2 b3 b4:Bool}
def PR(p q f:Str)(b1 b2 b3 b4:Bool)(w u:Str)(ts:List (Str×Str))(cs:List Nat)(w' u':Str):Prop:=(runM p q f b1 b2 b3 b4 w u cs).2=(w',u',none)/\Ml (runM p q f b1 b2 b3 b4 w u cs).1 cs=ts
theorem TX.pr{ts:List (Str×Str)}{cs:List Nat}:TX p q f b1 b2 b3 b4 ts cs↔PR p q f b1 b2 b3 b4 ("row":Str) ("":Str) ts cs ("row":Str) ("":Str):=Iff.rfl
end
theorem PR.un{p q f:Str}{b1 b2 b3 b4:Bool}{w u wE uE:Str}{c:Nat}{cs:List Nat}{ts:List (Str×Str)}(h:PR p q f b1 b2 b3 b4 w u ts (c::cs) wE uE):∃k w' u' ts',aQ p q f b1 b2 b3 b4 w u c=.go k w' u'/\ts=(if aY k ("skip":Str)=true then [] else [(k,if aY k ("put":Str)=true then sg c else Str.ofString "")])++ts'/\PR p q f b1 b2 b3 b4 w' u' ts' cs wE uE:=by
 obtain⟨h1,h2⟩:=h
 cases hs:aQ p q f b1 b2 b3 b4 w u c with
 |kj e=>rw[rB hs]at h1;injection h1 with _ z;injection z with _ z;cases z
 |go k w' u'=>rw[xN hs]at h1 h2;exact⟨k,w',u',_,rfl,h2.symm,h1,rfl⟩
section
variable{p q f:Str}{b1 b2 b3 b4:Bool}{ts:List (Str×Str)}
end
section
variable{good:mJ->Bool}{led:mJ->List (Nat×mJ)}{a:mJ}
end
section
variable{p q f:Str}{b1 b2 b3 b4:Bool}
end
def zC(t:Str)(l:List Nat)(m:Nat):List Nat:=(l.filter (away t)).take m
def zD(t:Str)(m:Nat):Str:=⟨(zC t dj m).toArray⟩
theorem rF(t:Str)(l:List Nat)(m:Nat):(zC t l m).length<=m:=by
 unfold zC;rw[aa6];omega
theorem NC(cs:List Nat):((cs.map sg).map (·.length)).sum+(cs.map sg).length*("":Str).length=cs.length:=by
 have e:("":Str).length=0:=by decide +kernel
 rw[e,Nat.mul_zero,Nat.add_zero]
 induction cs with
 |nil=>rfl
 |cons c cs ih=>rw[abe,abe,List.sum_cons,ih,J7,aaF,Nat.add_comm]
theorem K8{acc:List Nat}{c d:Nat}:d∈dH acc c↔d∈acc\/d=c:=by
 unfold dH
 split
 ·simp
 ·rename_i h
  have:c∈acc:=aa0 λq=>h ((uu acc c).mpr q)
  constructor
  ·exact .inl
  ·rintro(z|rfl)
   ·exact z
   ·exact this
theorem yw:∀(l acc:List Nat)(d:Nat),d∈l.foldl dH acc↔d∈acc\/d∈l
 |[],acc,d=>by simp
 |c::l,acc,d=>by
  rw[aaQ,yw l,K8,aaB,or_assoc]
theorem jE(l:List Nat)(d:Nat):d∈dw l↔d∈l:=by
 unfold dw
 rw[yw];simp
theorem Hr{acc:List Nat}{c:Nat}(h:c∈acc):dH acc c=acc:=by
 unfold dH
 rw[aai λq=>(uu acc c).mp q h]
theorem DO{acc:List Nat}{c:Nat}(h:c∉acc):dH acc c=acc++[c]:=by
 unfold dH
 rw[aaj ((uu acc c).mpr h)]
theorem Fo(acc:List Nat):∀n (l:List Nat),l.length=n->(dw l).foldl dH acc=l.foldl dH acc:=by
 intro n
 induction n with
 |zero=>intro l h;rw[List.eq_nil_of_length_eq_zero h];rfl
 |succ n ih =>
  intro l h
  have hne:l≠[]:=by intro e;rw[e]at h;cases h
  obtain⟨m,c,rfl⟩:∃m c,l=m++[c]:=⟨l.dropLast,l.getLast hne,(List.dropLast_concat_getLast hne).symm⟩
  have hm:m.length=n:=by rw[aao]at h;simpa using h
  rw[lE,abb,←ih m hm]
  show _=dH ((dw m).foldl dH acc) c
  by_cases hc:c∈dw m
  ·rw[Hr hc,Hr ((yw _ _ _).mpr (.inr hc))]
  ·rw[DO hc,abb];rfl
theorem IA(a:List Nat)(c:Nat)(h:c∉a):dw (a++[c])=dw a++[c]:=by
 rw[lE,DO (λq=>h ((jE _ _).mp q))]
theorem DP{t u:Str}(h:∀c,c∈t.cps.toList↔c∈u.cps.toList):dj.filter (away t)=dj.filter (away u):=by
 congr 1
 funext c
 have e:(away t c=true)↔(away u c=true):=by rw[fk,fk,h]
 cases h1:away t c<;>cases h2:away u c<;>simp_all
theorem K9{t:Str}{c:Nat}{r:List Nat}(h:dj.filter (away t)=c::r):zD t 1=sg c:=by
 unfold zD zC
 rw[h];rfl
theorem Fp{l:List Str}{i:Nat}{c:Str}(h:l[i]?=some c):l.take (i+1)=l.take i++[c]:=by
 rw[List.take_succ,h];rfl
def qk(zs:List Str):Str:=bF (((Txt.join ("":Str) (zs.map bF)++Str.ofString "\n")++Str.ofString " ")++zD ((Txt.join ("":Str) (zs.map bF)++Str.ofString "\n")++Str.ofString " ") 1)
theorem yx:∀(zs:List Str)(acc:List Nat),(zs.map bF |>.flatMap (λz=>z.cps.toList)).foldl dH acc=(zs.flatMap (λz=>z.cps.toList)).foldl dH acc
 |[],_=>rfl
 |z::zs,acc=>by
  rw[abe,aaO,aaO,abb,abb,yx zs]
  congr 1
  exact Fo acc _ z.cps.toList rfl
theorem AK(zs:List Str)(c:Nat):c∈(zs.map bF).flatMap (λz=>z.cps.toList)↔c∈zs.flatMap (λz=>z.cps.toList):=by
 rw[abx,abx]
 constructor
 ·rintro⟨z,hz,hc⟩
  obtain⟨y,hy,rfl⟩:=aaY.mp hz
  exact⟨y,hy,(jE _ _).mp hc⟩
 ·rintro⟨z,hz,hc⟩
  exact⟨bF z,List.mem_map_of_mem hz,(jE _ _).mpr hc⟩
def kI(zs:List Str):Str:=Txt.join ("":Str) zs++Str.ofString "\n "
theorem kJ:(Str.ofString "\n ").cps.toList=[10,32]/\(Str.ofString "\n").cps.toList=[10]/\(" ":Str).cps.toList=[32]:=by decide +kernel
theorem AL{zs:List Str}{c:Nat}{r:List Nat}(hf:dj.filter (away (bF (kI zs)))=c::r)(hc:c∉(bF (kI zs)).cps.toList):qk zs=bF (kI zs)++sg c:=by
 have eA:((Txt.join ("":Str) (zs.map bF)++Str.ofString "\n")++Str.ofString " ").cps.toList=(zs.map bF).flatMap (λz=>z.cps.toList)++[10,32]:=by
  rw[app_list,app_list,join_list,kJ.2.1,kJ.2.2,aaN];rfl
 have eB:(kI zs).cps.toList=zs.flatMap (λz=>z.cps.toList)++[10,32]:=by
  unfold kI
  rw[app_list,join_list,kJ.1]
 have mB:∀d,d∈(bF (kI zs)).cps.toList↔d∈(kI zs).cps.toList:=λd=>jE _ d
 have mA:∀d,d∈((Txt.join ("":Str) (zs.map bF)++Str.ofString "\n")++Str.ofString " ").cps.toList↔d∈(bF (kI zs)).cps.toList:=λd=>by
  rw[mB,eA,eB,aaC,aaC,AK]
 have e1:zD ((Txt.join ("":Str) (zs.map bF)++Str.ofString "\n")++Str.ofString " ") 1=sg c:=K9 ((DP mA).trans hf)
 unfold qk
 rw[e1]
 apply Nq
 rw[app_list]
 show(dw ((((Txt.join ("":Str) (zs.map bF)++Str.ofString "\n")++Str.ofString " ")++sg c).cps.toList))=dw (kI zs).cps.toList++[c]
 rw[app_list,eA]
 show dw ((zs.map bF).flatMap (λz=>z.cps.toList)++[10,32]++[c])=_
 have hc2:c∉zs.flatMap (λz=>z.cps.toList)++[10,32]:=by
  rw[←eB];exact λq=>hc ((mB c).mpr q)
 have hc3:c∉(zs.map bF).flatMap (λz=>z.cps.toList)++[10,32]:=by
  intro q
  refine hc2 ?_
  rw[aaC]at q⊢
  rw[AK]at q
  exact q
 rw[IA _ _ hc3]
 congr 1
 rw[eB]
 unfold dw
 rw[abb,abb,yx]
theorem ND{q w u:Str}(h:gQ q w u):(w,u)∈cont q.cps.toList:=by
 unfold cont
 rcases h with ⟨rfl,h⟩|⟨c,hc,rfl,h⟩
 ·refine aaV _ ?_
  unfold c5
  rcases h with rfl|rfl|rfl|rfl|rfl<;>simp
 ·refine aaI _ (abx.mpr ⟨c,hc,?_⟩)
  unfold c3
  rcases h with rfl|rfl|rfl<;>simp
theorem La{α:Type}{l:List α}(h:l.Nodup){i:Nat}{x:α}(hx:l[i]?=some x):x∉l.take i:=by
 intro hm
 have e:l=l.take i++x::l.drop (i+1):=by
  obtain⟨h1,h2⟩:=aau.mp hx
  rw[←h2,←List.drop_eq_getElem_cons h1,List.take_append_drop]
 rw[e,List.nodup_append]at h
 exact h.2.2 x hm x (aaE ..) rfl
theorem vF{α β:Type}{F:α->β->Prop}:∀{xs:List α}{ys:List β},Paired F xs ys->∀(i:Nat)(y:β),ys[i]?=some y->∃x,xs[i]?=some x/\F x y
 |_,_,.nil,_,_,h=>nomatch h
 |x::_,_,.cons a r,0,y,h=>⟨x,rfl,by have h:some _=some y:=h;cases h;exact a⟩
 |_::_,_,.cons a r,i+1,y,h=>vF r i y h
section
variable{M:Type}[DecidableEq M]
variable{good:M->Bool}{led:M->List (Nat×M)}{a:M}
abbrev dO(M:Type):=List (M×Option (M×Nat))
def bG(cm:dO M)(m:M):Bool:=cm.any λe=>decide (e.1=m)
def cV(p:M)(acc:dO M×List M)(e:Nat×M):dO M×List M:=if bG acc.1 e.2=true then acc else (acc.1++[(e.2,some (p,e.1))],acc.2++[e.2])
def gS(led:M->List (Nat×M))(acc:dO M×List M)(p:M):dO M×List M:=(led p).foldl (cV p) acc
def br(led:M->List (Nat×M))(cm:dO M)(aF:List M):dO M×List M:=aF.foldl (gS led) (cm,[])
theorem rG{cm:dO M}{m:M}:bG cm m=true↔m∈cm.map (·.1):=by
 unfold bG
 rw[List.any_eq_true,aaY]
 constructor
 ·rintro⟨e,he,q⟩;exact⟨e,he,aa5 q⟩
 ·rintro⟨e,he,q⟩;exact⟨e,he,aas q⟩
theorem Lb(p:M)(acc:dO M×List M)(e:Nat×M):(cV p acc e).1.length+acc.2.length=acc.1.length+(cV p acc e).2.length:=by
 unfold cV
 split
 ·rfl
 ·rw[aao,aao];show acc.1.length+1+_=_+(_+1);omega
theorem Lc{α:Type}{f:α->Bool}{l:List α}{i:Nat}{m:α}(hi:l[i]?=some m)(hg:f m=true)(hb:∀m'∈l.take i,f m'=false):l.find? f=some m:=by
 have e:l=l.take i++m::l.drop (i+1):=by
  obtain⟨h1,h2⟩:=aau.mp hi
  rw[←h2,←List.drop_eq_getElem_cons h1,List.take_append_drop]
 rw[e,List.find?_append,List.find?_eq_none.mpr (λx hx=>by rw[hb x hx];decide),abC,hg]
 rfl
theorem Ld{α:Type}{f:α->Bool}{l:List α}(hb:∀m'∈l,f m'=false):l.find? f=none:=List.find?_eq_none.mpr λx hx=>by rw[hb x hx];decide
theorem uw{p:M}:∀(es:List (Nat×M))(acc:dO M×List M),(es.foldl (cV p) acc).1.length+acc.2.length=acc.1.length+(es.foldl (cV p) acc).2.length
 |[],_=>rfl
 |e::es,acc=>by
  have h1:=Lb p acc e
  have h2:=uw (p:=p) es (cV p acc e)
  rw[aaQ];omega
theorem kK{led:M->List (Nat×M)}:∀(ms:List M)(acc:dO M×List M),(ms.foldl (gS led) acc).1.length+acc.2.length=acc.1.length+(ms.foldl (gS led) acc).2.length
 |[],_=>rfl
 |m::ms,acc=>by
  have h1:=uw (p:=m) (led m) acc
  have h2:=kK (led:=led) ms (gS led acc m)
  rw[aaQ]
  unfold gS at h2⊢
  omega
def yy(cm:dO M)(m:M):Option (Option (M×Nat)):=(cm.find? λe=>decide (e.1=m)).map (·.2)
inductive rH(cm:dO M):Option (M×Nat)->List Nat->Prop where
 |nil:rH cm none []
 |cons {m:M}{c:Nat}{x:Option (M×Nat)}{r:List Nat}:yy cm m=some x->rH cm x r->rH cm (some (m,c)) (c::r)
inductive WalkG(led:M->List (Nat×M))(a:M):List Nat->M->Prop where
 |nil:WalkG led a [] a
 |snoc {xs:List Nat}{p q:M}{c:Nat}:WalkG led a xs p->(c,q)∈led p->WalkG led a (xs++[c]) q
theorem yz{cm l:dO M}{m:M}{x:Option (M×Nat)}(h:yy cm m=some x):yy (cm++l) m=some x:=by
 unfold yy at h⊢
 rw[List.find?_append]
 cases e:cm.find? λe=>decide (e.1=m) with
 |none=>rw[e]at h;cases h
 |some y=>rw[e]at h;exact h
theorem Le{cm:dO M}{m:M}{x:Option (M×Nat)}(h:bG cm m=false):yy (cm++[(m,x)]) m=some x:=by
 unfold yy
 rw[List.find?_append,List.find?_eq_none.mpr,abC,aas rfl]
 ·rfl
 ·intro e he q
  have z:bG cm m=true:=List.any_eq_true.mpr ⟨e,he,q⟩
  rw[h]at z;cases z
theorem rH.app{cm l:dO M}{x:Option (M×Nat)}{xs:List Nat}(h:rH cm x xs):rH (cm++l) x xs:=by
 induction h with
 |nil=>exact .nil
 |cons e _ ih=>exact .cons (yz e) ih
theorem kL{cm l:dO M}{m:M}:bG (cm++l) m=(bG cm m||bG l m):=List.any_append ..
theorem gn{m q:M}{x:Option (M×Nat)}:bG [(q,x)] m=true↔m=q:=by
 unfold bG
 rw[abR,List.any_nil,Bool.or_false]
 exact⟨λh=>(aa5 h).symm,λh=>aas h.symm⟩
def kM(led:M->List (Nat×M))(a:M)(cm:dO M)(m:M)(n:Nat):Prop:=∃x xs,yy cm m=some x/\rH cm x xs/\WalkG led a xs.reverse m/\xs.length=n
theorem kM.app{led:M->List (Nat×M)}{a m:M}{cm l:dO M}{n:Nat}(h:kM led a cm m n):kM led a (cm++l) m n:=by
 obtain⟨x,xs,h1,h2,h3,h4⟩:=h
 exact⟨x,xs,yz h1,h2.app,h3,h4⟩
structure ux(led:M->List (Nat×M))(a:M)(cm:dO M)(k:Nat)(acc:dO M×List M):Prop where
 pre:∃l,acc.1=cm++l
 told:∀m,bG acc.1 m=true->∃n,n<=k+1/\kM led a acc.1 m n
 new:∀m∈acc.2,kM led a acc.1 m (k+1)/\bG acc.1 m=true
 old:∀m,bG acc.1 m=true->bG cm m=true\/m∈acc.2
theorem ux.vis{cm:dO M}{k:Nat}{acc:dO M×List M}{p:M}{e:Nat×M}(h:ux led a cm k acc)(hp:kM led a acc.1 p k)(he:e∈led p):ux led a cm k (cV p acc e)/\bG (cV p acc e).1 e.2=true/\(∃l,(cV p acc e).1=acc.1++l):=by
 unfold cV
 cases hh:bG acc.1 e.2 with
 |true=>rw[aaj rfl];exact⟨h,hh,[],(aaH _).symm⟩
 |false =>
  rw[aai (by decide)]
  obtain⟨x,xs,h1,h2,h3,h4⟩:=hp
  have hnew:kM led a (acc.1++[(e.2,some (p,e.1))]) e.2 (k+1):=by
   refine⟨some (p,e.1),e.1::xs,Le hh,.cons (yz h1) h2.app,?_,by rw[aaF,h4]⟩
   rw[List.reverse_cons]
   exact .snoc h3 he
  have hhas:bG (acc.1++[(e.2,some (p,e.1))]) e.2=true:=by rw[kL,gn.mpr rfl,Bool.or_true]
  refine⟨⟨?_,λm hm=>?_,λm hm=>?_,λm hm=>?_⟩,hhas,_,O⟩
  ·obtain⟨l,q⟩:=h.pre
   exact⟨l++[(e.2,some (p,e.1))],by show acc.1++_=_;rw[q,aaN]⟩
  ·have hm:bG (acc.1++[(e.2,some (p,e.1))]) m=true:=hm
   rw[kL,Bool.or_eq_true]at hm
   rcases hm with z|z
   ·obtain⟨n,hn,t⟩:=h.told m z
    exact⟨n,hn,t.app⟩
   ·rw[gn]at z;subst z
    exact⟨_,aan _,hnew⟩
  ·rcases aaC.mp hm with z|z
   ·obtain⟨t,u⟩:=h.new m z
    exact⟨t.app,by show bG (acc.1++_) m=true;rw[kL,u];rfl⟩
   ·rw[aat.mp z];exact⟨hnew,hhas⟩
  ·have hm:bG (acc.1++[(e.2,some (p,e.1))]) m=true:=hm
   rw[kL,Bool.or_eq_true]at hm
   rcases hm with z|z
   ·rcases h.old m z with y|y
    ·exact .inl y
    ·exact .inr (aaV _ y)
   ·rw[gn]at z;subst z
    exact .inr (aaI _ (aat.mpr rfl))
theorem rJ{cm l:dO M}{m:M}(h:bG cm m=true):bG (cm++l) m=true:=by rw[kL,h];rfl
theorem ux.TY{cm:dO M}{k:Nat}{p:M}:∀{es:List (Nat×M)}{acc:dO M×List M},ux led a cm k acc->kM led a acc.1 p k->(∀e∈es,e∈led p)->ux led a cm k (es.foldl (cV p) acc)/\(∀e∈es,bG (es.foldl (cV p) acc).1 e.2=true)/\∃l,(es.foldl (cV p) acc).1=acc.1++l
 |[],acc,h,_,_=>⟨h,(λ_ z=>nomatch z),[],(aaH _).symm⟩
 |e::es,acc,h,hp,he=>by
  obtain⟨h1,h2,l,h3⟩:=h.vis hp (he e (aaE ..))
  have hp1:kM led a (cV p acc e).1 p k:=by rw[h3];exact hp.app
  obtain⟨g1,g2,l',g3⟩:=ux.TY h1 hp1 λe' z=>he e' (aay _ z)
  rw[aaQ]
  refine⟨g1,λe' z=>?_,l++l',by rw[g3,h3,aaN]⟩
  rcases aaB.mp z with y|y
  ·subst y;rw[g3];exact rJ h2
  ·exact g2 e' y
theorem ux.TZ{cm:dO M}{k:Nat}:∀{ms:List M}{acc:dO M×List M},ux led a cm k acc->(∀p∈ms,kM led a acc.1 p k)->ux led a cm k (ms.foldl (gS led) acc)/\(∀p∈ms,∀e∈led p,bG (ms.foldl (gS led) acc).1 e.2=true)/\∃l,(ms.foldl (gS led) acc).1=acc.1++l
 |[],acc,h,_=>⟨h,(λ_ z=>nomatch z),[],(aaH _).symm⟩
 |p::ms,acc,h,hp=>by
  obtain⟨h1,h2,l,h3⟩:=h.TY (p:=p) (es:=led p) (hp p (aaE ..)) λe z=>z
  have h1:ux led a cm k (gS led acc p):=h1
  have h3:(gS led acc p).1=acc.1++l:=h3
  have h2:∀e∈led p,bG (gS led acc p).1 e.2=true:=h2
  obtain⟨g1,g2,l',g3⟩:=ux.TZ h1 λp' z=>by rw[h3];exact(hp p' (aay _ z)).app
  rw[aaQ]
  refine⟨g1,λp' z e' ze=>?_,l++l',by rw[g3,h3,aaN]⟩
  rcases aaB.mp z with y|y
  ·subst y;rw[g3];exact rJ (h2 e' ze)
  ·exact g2 p' y e' ze
structure wz(good:M->Bool)(led:M->List (Nat×M))(a:M)(cm:dO M)(aF:List M)(k:Nat):Prop where
 told:∀m,bG cm m=true->∃n,n<=k/\kM led a cm m n
 QA:∀m∈aF,kM led a cm m k/\bG cm m=true
 all:∀ys m,WalkG led a ys m->ys.length<=k->bG cm m=true
 shut:∀p,bG cm p=true->p∉aF->∀e∈led p,bG cm e.2=true
 bad:∀p,bG cm p=true->p∉aF->good p=false
 less:∀ys m,WalkG led a ys m->ys.length<k->good m=false
theorem wz.go{cm:dO M}{aF:List M}{k:Nat}(h:wz good led a cm aF k)(hf:aF.find? good=none):wz good led a (br led cm aF).1 (br led cm aF).2 (k+1):=by
 have hm:ux led a cm k (cm,[]):=⟨⟨[],(aaH _).symm⟩,λm hm=>by obtain⟨n,hn,t⟩:=h.told m hm;exact⟨n,by omega,t⟩,(λ_ z=>nomatch z),λm hm=>.inl hm⟩
 obtain⟨g1,g2,l,g3⟩:=hm.TZ (ms:=aF) λp hp=>(h.QA p hp).1
 have hno:∀m∈aF,good m=false:=λm hm=>by
  have:=List.find?_eq_none.mp hf m hm
  cases e:good m with
  |true=>exact absurd e this
  |false=>rfl
 have hbad:∀p,bG cm p=true->good p=false:=λp hp=>by
  by_cases q:p∈aF
  ·exact hno p q
  ·exact h.bad p hp q
 have OZ:∀p,bG cm p=true->∀e∈led p,bG (br led cm aF).1 e.2=true:=λp hp e he=>by
  by_cases q:p∈aF
  ·exact g2 p q e he
  ·unfold br;rw[g3];exact rJ (h.shut p hp q e he)
 refine⟨g1.told,g1.new,λys m hw hl=>?_,λp hp hq e he=>?_,λp hp hq=>?_,λys m hw hl=>?_⟩
 ·cases hw with
  |nil=>unfold br;rw[g3];exact rJ (h.all [] a .nil (aaM _))
  |@snoc xs p q c hw1 he =>
   rw[aao]at hl
   exact OZ p (h.all xs p hw1 (by simpa using hl)) _ he
 ·rcases g1.old p hp with z|z
  ·exact OZ p z e he
  ·exact absurd z hq
 ·rcases g1.old p hp with z|z
  ·exact hbad p z
  ·exact absurd z hq
 ·exact hbad m (h.all ys m hw (by omega))
theorem wz.zero:wz good led a [(a,none)] [a] 0:=by
 have hv:kM led a [(a,none)] a 0:=⟨none,[],by unfold yy;rw[abC,aas rfl];rfl,.nil,.nil,rfl⟩
 have ha:bG [(a,none)] a=true:=gn.mpr rfl
 refine⟨λm hm=>?_,λm hm=>?_,λys m hw hl=>?_,λp hp hq=>?_,λp hp hq=>?_,λys m hw hl=>absurd hl (Nat.not_lt_zero _)⟩
 ·rw[gn.mp hm];exact⟨0,aan _,hv⟩
 ·rw[aat.mp hm];exact⟨hv,ha⟩
 ·cases hw with
  |nil=>exact ha
  |snoc _ _=>rw[aao]at hl;simp at hl
 ·exact absurd (aat.mpr (gn.mp hp)) hq
 ·exact absurd (aat.mpr (gn.mp hp)) hq
end
section
variable{M:Type}[DecidableEq M]{good:M->Bool}{led:M->List (Nat×M)}{most:Option Nat}{a:M}
theorem NF{p:M}{acc:dO M×List M}{e:Nat×M}(h:(acc.1.map (·.1)).Nodup):((cV p acc e).1.map (·.1)).Nodup:=by
 unfold cV
 by_cases q:bG acc.1 e.2=true
 ·rw[aaj q];exact h
 ·rw[aai q,aaS,List.nodup_append]
  refine⟨h,by simp,λx hx y hy z=>q (rG.mpr ?_)⟩
  rw[aat.mp hy]at z
  have z:x=e.2:=z
  rw[←z];exact hx
theorem DQ{p:M}:∀{es:List (Nat×M)}{acc:dO M×List M},(acc.1.map (·.1)).Nodup->((es.foldl (cV p) acc).1.map (·.1)).Nodup
 |[],_,h=>h
 |e::es,acc,h=>by rw[aaQ];exact DQ (NF h)
theorem yC:∀{ms:List M}{acc:dO M×List M},(acc.1.map (·.1)).Nodup->((ms.foldl (gS led) acc).1.map (·.1)).Nodup
 |[],_,h=>h
 |m::ms,acc,h=>by rw[aaQ];exact yC (DQ h)
inductive zE(good:M->Bool)(led:M->List (Nat×M))(most:Option Nat):dO M->List M->Option M->dO M->Prop where
 |stop {cm:dO M}:zE good led most cm [] none cm
 |found {cm:dO M}{aF:List M}{m:M}:aF.find? good=some m->zE good led most cm aF (some m) cm
 |over {cm:dO M}{aF:List M}{n:Nat}:most=some n->aF≠[]->aF.find? good=none->n<cm.length->zE good led most cm aF none cm
 |go {cm Js:dO M}{aF:List M}{r:Option M}:aF≠[]->aF.find? good=none->(∀n,most=some n->cm.length<=n)->zE good led most (br led cm aF).1 (br led cm aF).2 r Js->zE good led most cm aF r Js
structure DR(good:M->Bool)(led:M->List (Nat×M))(most:Option Nat)(a:M)(r:Option M)(cm:dO M)(aF:List M)(k:Nat):Prop where
 cP:wz good led a cm aF k
 nd:(cm.map (·.1)).Nodup
 res:r=aF.find? good
 why:r=none->aF=[]\/∃n,most=some n/\n<cm.length
 len:aF≠[]->k<=cm.length
 few:aF.length<=cm.length
end
theorem gu{K:W.Frag}{H H':Hp}{o:Option aT}{v:V}(s:aI H H')(h:kC K H o v):kC K H' o v:=h.keep λb xs q=>av s q
theorem fq{K:W.Frag}{H H':Hp}{l:List aT}{v:V}(s:aI H H')(h:mH K H l v):mH K H' l v:=h.keep λb xs q=>av s q
theorem BR{K:W.Frag}{H H':Hp}{o:wo}{v:V}(s:aI H H')(h:wu K H o v):wu K H' o v:=h.keep λb xs q=>av s q
theorem dI{K:W.Frag}{H H':Hp}{m:cH}{v:V}(s:aI H H')(h:dW K H m v):dW K H' m v:=h.keep λb xs q=>av s q
abbrev Ls:=Option (Str×Str×Str)
def aX(x:bu)(o:Option aT)(c:Nat):Ls:=o.bind λs=>bX x.1 x.2.1 x.2.2.1 x.2.2.2.a x.2.2.2.b x.2.2.2.c x.2.2.2.d s.1 s.2 c
def tP(o:Ls):Option aT:=o.map λt=>t.2
def bB(kd:Str)(c:Nat):List aT:=if aY kd ("skip":Str)=true then [] else [(kd,if aY kd ("put":Str)=true then sg c else Str.ofString "")]
def ql:List aT->List aT->wo
 |[],o=>some ([],o)
 |a::x,[]=>some (a::x,[])
 |a::x,b::y=>if a=b then some (x,y) else none
def j6(m:wo)(a b:Ls)(c:Nat):wo:=match m,a,b with
 |some (x,y),some (k1,_),some (k2,_)=>ql (x++bB k1 c) (y++bB k2 c)
 |_,_,_=>none
def iD(x y:bu)(m:cH)(c:Nat):Option cH:=if aX x m.1.1 c=none/\aX y m.1.2 c=none then none else some ((tP (aX x m.1.1 c),tP (aX y m.1.2 c)),j6 m.2 (aX x m.1.1 c) (aX y m.1.2 c) c)
def bO(x y:bu)(z:Str)(m:cH):List (Nat×cH):=z.cps.toList.filterMap λc=>(iD x y m c).map λm'=>(c,m')
def ff:Option aT:=some (Str.ofString "row",("":Str))
def pT:cH:=((ff,ff),some ([],[]))
def bT(m:cH):Bool:=if m.1=(ff,ff) then !decide (m.2=some ([],[])) else (decide (m.1.1=ff)||decide (m.1.2=ff))
def Lh(C CT:Addr)(H:Hp)(y:Addr)(x:bu):Prop:=Tn C CT H y x.1 x.2.1 x.2.2.1 x.2.2.2.a x.2.2.2.b x.2.2.2.c x.2.2.2.d
theorem Lh.mono{C CT:Addr}{H H':Hp}{y:Addr}{x:bu}(s:aI H H')(h:Lh C CT H y x):Lh C CT H' y x:=Tn.mono s h
def cfl(t u:Addr)(z:Str):List (Str×V):=[("first",.ref t),("second",.ref u),("signs",.str z)]
structure Li(C CT CC:Addr)(H:Hp)(a:Addr)(x y:bu)(z:Str):Prop where
 ok:∃da t u,H a=some (.ins CC da (cfl t u z))/\Lh C CT H t x/\Lh C CT H u y
theorem Li.mono{C CT CC:Addr}{H H':Hp}{a:Addr}{x y:bu}{z:Str}(s:aI H H')(h:Li C CT CC H a x y z):Li C CT CC H' a x y z:=by
 obtain⟨da,t,u,e1,e2,e3⟩:=h.ok
 exact⟨da,t,u,s _ _ e1,e2.mono s,e3.mono s⟩
def pfl(c:Addr):List (Str×V):=[("couple",.ref c)]
structure QB(C CT CC CP:Addr)(H:Hp)(a:Addr)(x y:bu)(z:Str):Prop where
 ok:∃da c,H a=some (.ins CP da (pfl c))/\Li C CT CC H c x y z
theorem QB.mono{C CT CC CP:Addr}{H H':Hp}{a:Addr}{x y:bu}{z:Str}(s:aI H H')(h:QB C CT CC CP H a x y z):QB C CT CC CP H' a x y z:=by
 obtain⟨da,c,e1,e2⟩:=h.ok
 exact⟨da,c,s _ _ e1,e2.mono s⟩
def bf(x:bu):Str:=(x.1++x.2.1)++x.2.2.1
def lF(x y:bu):Str:=qk [bf x,bf y]
theorem Tn.off2{C CT:Addr}{H:Hp}{y m:Addr}{x:bu}{o o':HO}(hm:H m=some o')(n1:∀d fs,o'≠.ins CT d (WS fs))(n2:∀d,o'≠.ins C d (iU x))(h:Lh C CT H y x):Lh C CT (upd H m o) y x:=Tn.off hm n1 n2 h
theorem jF{K:W.Frag}{H H':Hp}{o:Ls}{v:V}(s:aI H H')(h:Hj K o H v):Hj K o H' v:=by
 cases o with
 |none=>exact h
 |some t=>obtain⟨a,b,e1,e2,e3⟩:=h;exact⟨a,b,e1,av s e2,av s e3⟩
theorem bY(kd:Str)(c:Nat):(bB kd c).length<=1:=by unfold bB;split<;>simp
def Fq:Option aT->Lf⊕List Lf
 |none=>.inl none
 |some s=>.inr (kB s.1 s.2)
theorem rK{a b:Option aT}(h:Fq a=Fq b):a=b:=by
 cases a with
 |none=>cases b with
  |none=>rfl
  |some y=>exact nomatch h
 |some x=>cases b with
  |none=>exact nomatch h
  |some y=>injection h with h;exact congrArg some (iX.mp h)
theorem Hs{a b:Option aT}:decide (Fq a=Fq b)=decide (a=b):=by
 rw[aaL,aaD,aaD]
 exact⟨rK,λe=>by rw[e]⟩
theorem QC{a b c:Option aT}:KH [Fq a,Fq b] (Fq c)=(decide (a=c)||decide (b=c)):=by
 unfold KH
 rw[abR,abR,List.any_nil,Bool.or_false,Hs,Hs]
theorem DS{P:Program}{w:World}{F:W.Frag}{H:Hp}{o:Option aT}{v:V}(h:kC F H o v):(YM P w F).on H (Fq o) v:=by
 cases o with
 |none=>have h:v=.non:=h;subst h;rfl
 |some s=>obtain⟨b,rfl,h1⟩:=h;exact⟨b,rfl,iT h1⟩
theorem Lj{P:Program}{w:World}{F:W.Frag}{H:Hp}{o o':Option aT}{p:Addr}{s1 s2:V}(h:aN F H p [s1,s2])(h1:kC F H o s1)(h2:kC F H o' s2):mF (YM P w F) H [Fq o,Fq o'] p:=⟨_,h,.cons (DS h1) (.cons (DS h2) .nil)⟩
theorem hs1{A:Around}{P:Program}{w:World}(h:A.units+64<cLine):A.units+1+(ZM P w).cP<cLine:=by show A.units+1+1<cLine;omega
theorem hs2{A:Around}{P:Program}{w:World}(h:A.units+64<cLine):A.units+((stepK (ZM P w)).cP+1)<cLine:=by show A.units+3<cLine;omega
abbrev uy(K:W.Frag)(H:Hp):List V->List (Nat×cH)->Prop:=Paired λv e=>∃t w,v=.ref t/\H t=some (.tup [.str (sg e.1),w])/\dW K H e.2 w
theorem uz{K:W.Frag}{H H':Hp}(s:aI H H'){vs:List V}{es:List (Nat×cH)}(h:uy K H vs es):uy K H' vs es:=cT (λ_ _ ⟨t,w,e1,e2,e3⟩=>⟨t,w,e1,s _ _ e2,dI s e3⟩) h
theorem xO{K:W.Frag}{H:Hp}{l:Addr}{ws:List V}{x:HO}{m:cH}{v:V}(hl:H l=some (.lst ws))(h:dW K H m v):dW K (upd H l x) m v:=h.keep λb xs q=>jC hl q
theorem DT{K:W.Frag}{H:Hp}{l:Addr}{ws:List V}{x:HO}(hl:H l=some (.lst ws)){vs:List V}{es:List (Nat×cH)}(h:uy K H vs es):uy K (upd H l x) vs es:=cT (λ_ _ ⟨t,w,e1,e2,e3⟩=>⟨t,w,e1,(aH (λq=>by rw[q,hl]at e2;cases e2)).trans e2,xO hl e3⟩) h
def O0:Ls->Lf⊕List (Lf⊕List Lf)
 |none=>.inl none
 |some t=>.inr [.inl (some (.inr t.1)),.inr (kB t.2.1 t.2.2)]
theorem DU{o:Ls}:O0 o=.inl none↔o=none:=by
 cases o with
 |none=>exact⟨(λ_=>rfl),(λ_=>rfl)⟩
 |some t=>exact⟨(λq=>nomatch q),(λq=>nomatch q)⟩
theorem Ht{P:Program}{w:World}{F:W.Frag}{H:Hp}{o:Ls}{v:V}(h:Hj F o H v):(mG (YM P w F)).on H (O0 o) v:=by
 cases o with
 |none=>have h:v=.non:=h;subst h;rfl
 |some t=>obtain⟨a,b,rfl,h1,h2⟩:=h;exact⟨a,rfl,_,h1,.cons rfl (.cons ⟨b,rfl,iT h2⟩ .nil)⟩
def rL(K:W.Frag)(x:Option (cH×Nat))(H:Hp)(v:V):Prop:=match x with
 |none=>v=.non
 |some (m,c)=>∃t w,v=.ref t/\aN K H t [w,.str (sg c)]/\dW K H m w
abbrev rM(K:W.Frag)(H:Hp):List (N3 (Lf⊕List (Lf⊕List (Lf⊕List Lf))))->(dO cH)->Prop:=Paired λe p=>e.1=gO p.1/\dW K H p.1 (.ref e.2.1)/\rL K p.2 H e.2.2
structure gv(P:Program)(w:World)(K:W.Frag)(H:Hp)(a:Addr)(cm:(dO cH)):Prop where
 ok:∃kvs,Nd (YP P w K) (bw P w) H a kvs/\rM K H kvs cm
theorem rL.keep{K:W.Frag}{H H':Hp}{x:Option (cH×Nat)}{v:V}(t:∀b xs,aN K H b xs->aN K H' b xs)(h:rL K x H v):rL K x H' v:=by
 cases x with
 |none=>exact h
 |some mc=>obtain⟨t1,w1,e1,e2,e3⟩:=h;exact⟨t1,w1,e1,t _ _ e2,e3.keep t⟩
theorem rM.keep{K:W.Frag}{H H':Hp}(t:∀b xs,aN K H b xs->aN K H' b xs):∀{kvs:List (N3 (Lf⊕List (Lf⊕List (Lf⊕List Lf))))}{cm:(dO cH)},rM K H kvs cm->rM K H' kvs cm
 |_,_,.nil=>.nil
 |_,_,.cons a r=>.cons ⟨a.1,a.2.1.keep t,a.2.2.keep t⟩ (rM.keep t r)
theorem gv.mono{P:Program}{w:World}{K:W.Frag}{H H':Hp}{a:Addr}{cm:(dO cH)}(s:aI H H')(h:gv P w K H a cm):gv P w K H' a cm:=by
 obtain⟨kvs,d,r⟩:=h.ok
 exact⟨kvs,d.mono s,r.keep λb xs q=>av s q⟩
theorem gv.but{P:Program}{w:World}{K:W.Frag}{H:Hp}{a l:Addr}{cm:(dO cH)}{ws:List V}{o:HO}(hl:H l=some (.lst ws))(h:gv P w K H a cm):gv P w K (upd H l o) a cm:=by
 obtain⟨kvs,d,r⟩:=h.ok
 have t:∀b xs,aN K H b xs->aN K (upd H l o) b xs:=λb xs q=>jC hl q
 exact⟨kvs,⟨(aH (mE d.ob hl (λq=>nomatch q))).trans d.ob,λe he=>(d.keys e he).keep t⟩,r.keep t⟩
theorem uA{K:W.Frag}{H:Hp}{m:cH}:∀{kvs:List (N3 (Lf⊕List (Lf⊕List (Lf⊕List Lf))))}{cm:(dO cH)},rM K H kvs cm->(valN kvs (gO m)).isSome=bG cm m
 |_,_,.nil=>rfl
 |e::kvs,p::cm,.cons a r=>by
  have ih:=uA (m:=m) r
  unfold valN bG at ih⊢
  rw[abC,abR,a.1]
  by_cases q:p.1=m
  ·rw[aas q,aas (by rw[q])];rfl
  ·rw[aak q,aak (λz=>q (Dz.mp z)),Bool.false_or];exact ih
theorem AM{K:W.Frag}{H:Hp}{kvs:List (N3 (Lf⊕List (Lf⊕List (Lf⊕List Lf))))}{cm:(dO cH)}(h:rM K H kvs cm):kvs.length=cm.length:=abd h
theorem Nd.WX{P:Program}{w:World}{K:W.Frag}{H:Hp}{a b:Addr}{k:List (Lf⊕List (Lf⊕List (Lf⊕List Lf)))}{v:V}(h:H a=some (dN (ZP P w) (bw P w) a []))(e:mF (YP P w K) H k b):Nd (YP P w K) (bw P w) (upd H a (dN (ZP P w) (bw P w) a [(k,b,v)])) a [(k,b,v)]:=by
 refine⟨ak,λp hp=>?_⟩
 rw[aat.mp hp]
 exact e.keep (nG h)
theorem gv.one{P:Program}{w:World}{K:W.Frag}{H:Hp}{a b:Addr}{m:cH}(h:H a=some (dN (ZP P w) (bw P w) a []))(hm:dW K H m (.ref b)):gv P w K (upd H a (dN (ZP P w) (bw P w) a [(gO m,b,.non)])) a [(m,none)]:=by
 have e2:=oK (P:=P) (w:=w) hm
 have t:=nG (F:=K) h (o:=dN (ZP P w) (bw P w) a [(gO m,b,.non)])
 exact⟨_,Nd.WX h (e2),.cons ⟨O,hm.keep t,O⟩ .nil⟩
theorem gv.put{P:Program}{w:World}{K:W.Frag}{H:Hp}{a b:Addr}{m:cH}{cm:(dO cH)}{kvs:List (N3 (Lf⊕List (Lf⊕List (Lf⊕List Lf))))}{x:Option (cH×Nat)}{v:V}(d:Nd (YP P w K) (bw P w) H a kvs)(r:rM K H kvs cm)(hm:dW K H m (.ref b))(hn:bG cm m=false)(hv:rL K x H v):gv P w K (upd H a (dN (ZP P w) (bw P w) a (putN kvs (gO m) b v))) a (cm++[(m,x)]):=by
 have e2:=oK (P:=P) (w:=w) hm
 have t:=nG (F:=K) d.ob (o:=dN (ZP P w) (bw P w) a (putN kvs (gO m) b v))
 refine⟨_,d.put (e2),?_⟩
 have q:=uA (m:=m) r
 rw[hn]at q
 have hv0:valN kvs (gO m)=none:=by
  cases z:valN kvs (gO m) with
  |none=>rfl
  |some y=>rw[z]at q;cases q
 rw[qY hv0]
 rw[qY hv0]at t
 exact cC (r.keep t) (.cons ⟨rfl,hm.keep t,hv.keep t⟩ .nil)
theorem uy.keep{K:W.Frag}{H H':Hp}(t1:∀b xs,H b=some (.tup xs)->H' b=some (.tup xs))(t:∀b xs,aN K H b xs->aN K H' b xs):∀{vs:List V}{es:List (Nat×cH)},uy K H vs es->uy K H' vs es
 |_,_,.nil=>.nil
 |_,_,.cons ⟨x,w,e,h,q⟩ r=>.cons ⟨x,w,e,t1 _ _ h,q.keep t⟩ (uy.keep t1 t r)
abbrev yD(K:W.Frag)(H:Hp):List V->List cH->Prop:=Paired λv m=>dW K H m v
theorem yD.keep{K:W.Frag}{H H':Hp}(t:∀b xs,aN K H b xs->aN K H' b xs):∀{vs:List V}{ms:List cH},yD K H vs ms->yD K H' vs ms
 |_,_,.nil=>.nil
 |_,_,.cons a r=>.cons (a.keep t) (yD.keep t r)
theorem uB{K:W.Frag}{H:Hp}{m:cH}{x:Option (cH×Nat)}:∀{kvs:List (N3 (Lf⊕List (Lf⊕List (Lf⊕List Lf))))}{cm:(dO cH)},rM K H kvs cm->yy cm m=some x->∃v,valN kvs (gO m)=some v/\rL K x H v
 |_,_,.nil,h=>by cases h
 |e::kvs,p::cm,.cons a r,h=>by
  unfold yy at h
  unfold valN
  rw[abC]at h⊢
  rw[a.1]
  by_cases q:p.1=m
  ·rw[aas q]at h
   rw[aas (by rw[q])]
   cases h
   exact⟨_,O,a.2.2⟩
  ·rw[aak q]at h
   rw[aak (λz=>q (Dz.mp z))]
   exact uB r h
def WY(K:W.Frag)(x:Option cH)(H:Hp)(v:V):Prop:=match x with
 |none=>v=.non
 |some m=>dW K H m v
section
variable{M:Type}[DecidableEq M]
def rN(good:M->Bool)(led:M->List (Nat×M))(Ok:M->Prop)(B:Nat):Nat->dO M->List M->Prop
 | 0,cm,aF=>(cm.length<=17*B/\aF.length<=cm.length/\∀m∈aF,Ok m)/\(aF=[]\/(aF.find? good).isSome=true)
 |n+1,cm,aF=>(cm.length<=17*B/\aF.length<=cm.length/\∀m∈aF,Ok m)/\(aF=[]\/(aF.find? good).isSome=true\/(cm.length<=B/\rN good led Ok B n (br led cm aF).1 (br led cm aF).2))
variable{good:M->Bool}{led:M->List (Nat×M)}{Ok:M->Prop}{B:Nat}{n:Nat}{cm:dO M}{aF:List M}
theorem rN.ok(h:rN good led Ok B n cm aF):cm.length<=17*B/\aF.length<=cm.length/\∀m∈aF,Ok m:=by
 cases n with
 |zero=>exact h.1
 |succ n=>exact h.1
theorem rN.go(h:rN good led Ok B n cm aF)(hne:aF≠[])(hf:aF.find? good=none):cm.length<=B/\∃n',n'<n/\rN good led Ok B n' (br led cm aF).1 (br led cm aF).2:=by
 cases n with
 |zero =>
  rcases h.2 with z|z
  ·exact absurd z hne
  ·rw[hf]at z;cases z
 |succ n =>
  rcases h.2 with z|z|z
  ·exact absurd z hne
  ·rw[hf]at z;cases z
  ·exact⟨z.1,n,Nat.lt_succ_self n,z.2⟩
theorem Lk{a:M}{cm Js:dO M}{aF:List M}{r:Option M}(h:zE good led none cm aF r Js):∀{k n:Nat},rN good led Ok B n cm aF->wz good led a cm aF k->(cm.map (·.1)).Nodup->(aF≠[]->k<=cm.length)->aF.length<=cm.length->∃T8 k',k'<=k+n/\DR good led none a r Js T8 k':=by
 induction h with
 |stop=>intro k n hE L nd hk hf;exact⟨_,k,abT ..,L,nd,rfl,(λ_=>.inl rfl),hk,hf⟩
 |found hF=>intro k n hE L nd hk hf;exact⟨_,k,abT ..,L,nd,hF.symm,(λz=>nomatch z),hk,hf⟩
 |over hn _ hF hlt=>cases hn
 |@go cm Js aF r hne hF hm hR ih =>
  intro k n hE L nd hk hf
  obtain⟨_,n',hn',WZ⟩:=hE.go hne hF
  have q:=kK (led:=led) aF (cm,[])
  simp only[abj,Nat.add_zero]at q
  obtain⟨e',k',h1,h2⟩:=ih WZ (L.go hF) (yC nd) (λz=>by
   have:=List.length_pos_iff.mpr z
   have:=hk hne
   unfold br at *
   omega) (by unfold br;omega)
  exact⟨e',k',by omega,h2⟩
theorem DV{a:M}{cm:dO M}{r:Option M}(h:zE good led none [(a,none)] [a] r cm)(hE:rN good led Ok B n [(a,none)] [a]):∃aF k,k<=n/\DR good led none a r cm aF k:=by
 obtain⟨e,k,h1,h2⟩:=Lk h hE wz.zero (by simp) (λ_=>aaM _) (by simp)
 exact⟨e,k,by omega,h2⟩
end
def Vy(m:cH):Prop:=∀x y,m.2=some (x,y)->x.length<=1000/\y.length<=1000
theorem AO{x y:bu}{z:Str}{m:cH}:(bO x y z m).length<=z.length:=by
 unfold bO
 refine aaq (List.length_filterMap_le ..) ?_
 rw[aap];exact aan _
def oV(K:W.Frag)(H:Hp)(v:V)(q:Option aT×Option aT):Prop:=∃p s1 s2,v=.ref p/\aN K H p [s1,s2]/\kC K H q.1 s1/\kC K H q.2 s2
theorem oV.mono{K:W.Frag}{H H':Hp}{v:V}{q:Option aT×Option aT}(s:aI H H')(h:oV K H v q):oV K H' v q:=by
 obtain⟨p,s1,s2,e1,e2,e3,e4⟩:=h
 exact⟨p,s1,s2,e1,av s e2,gu s e3,gu s e4⟩
theorem NG{x y:bu}(gx:gm x)(gy:gm y):(lF x y).length<=20:=by
 have h7:∀c:bu,gm c->(bf c).length<=7:=λc g=>by
  have hp3:=g.p3;have hq2:=g.q2;have hf2:=g.f2
  unfold bf;rw[aU,aU];omega
 have RQ:∀z∈[bf x,bf y].map bF,z.length<=7:=λz hz=>by
  obtain⟨c,hc,rfl⟩:=aaY.mp hz
  refine aaq (gR c) ?_
  rcases aaB.mp hc with e|e
  ·rw[e];exact h7 x gx
  ·rw[aat.mp e];exact h7 y gy
 have hj:(Txt.join ("":Str) ([bf x,bf y].map bF)).length<=14:=by
  have:=Fj RQ
  rw[←join_list,aav,aap]at this
  exact this
 unfold lF qk
 generalize Txt.join ("":Str) ([bf x,bf y].map bF)=J at hj⊢
 refine aaq (gR _) ?_
 have l1:(Str.ofString "\n").length=1:=by decide +kernel
 have l2:(" ":Str).length=1:=by decide +kernel
 have hd:∀B,(zD B 1).length<=1:=λB=>by
  show(zC B dj 1).toArray.size<=1
  rw[aam];exact rF _ _ _
 have:=hd ((J++Str.ofString "\n")++Str.ofString " ")
 rw[aU,aU,aU];omega
abbrev Pq:=Option aT×Option aT
def uC(q:Pq):List (Lf⊕List Lf):=[Fq q.1,Fq q.2]
theorem Ll{a b:Pq}:uC a=uC b↔a=b:=by
 constructor
 ·intro h
  unfold uC at h
  injection h with h1 h2
  injection h2 with h2 _
  exact Prod.ext (rK h1) (rK h2)
 ·rintro rfl;rfl
abbrev yE(K:W.Frag)(H:Hp):List (N3 (Lf⊕List Lf))->List Pq->Prop:=Paired λe q=>e.1=uC q/\oV K H (.ref e.2.1) q
structure DW(P:Program)(w:World)(K:W.Frag)(H:Hp)(a:Addr)(qs:List Pq):Prop where
 ok:∃kvs,Nd (YM P w K) (bV P w) H a kvs/\yE K H kvs qs
theorem oV.keep{K:W.Frag}{H H':Hp}{v:V}{q:Pq}(t:∀b xs,aN K H b xs->aN K H' b xs)(h:oV K H v q):oV K H' v q:=by
 obtain⟨p,s1,s2,e1,e2,e3,e4⟩:=h
 exact⟨p,s1,s2,e1,t _ _ e2,e3.keep t,e4.keep t⟩
theorem je{K:W.Frag}{H H':Hp}(t:∀b xs,aN K H b xs->aN K H' b xs){kvs:List (N3 (Lf⊕List Lf))}{qs:List Pq}(h:yE K H kvs qs):yE K H' kvs qs:=cT (λ_ _ ⟨e1,e2⟩=>⟨e1,e2.keep t⟩) h
theorem DW.mono{P:Program}{w:World}{K:W.Frag}{H H':Hp}{a:Addr}{qs:List Pq}(s:aI H H')(h:DW P w K H a qs):DW P w K H' a qs:=by
 obtain⟨kvs,d,r⟩:=h.ok
 exact⟨kvs,d.mono s,je (λb xs q=>av s q) r⟩
theorem Hu{P:Program}{w:World}{K:W.Frag}{H:Hp}{b:Addr}{q:Pq}(h:oV K H (.ref b) q):mF (YM P w K) H (uC q) b:=by
 obtain⟨p,s1,s2,e1,e2,e3,e4⟩:=h
 cases e1
 exact Lj e2 e3 e4
theorem oN{K:W.Frag}{H:Hp}{q:Pq}:∀{kvs:List (N3 (Lf⊕List Lf))}{qs:List Pq},yE K H kvs qs->(valN kvs (uC q)).isSome=decide (q∈qs)
 |_,_,.nil=>rfl
 |e::kvs,p::cm,.cons a r=>by
  have ih:=oN (q:=q) r
  unfold valN at ih⊢
  rw[abC,a.1]
  by_cases z:p=q
  ·rw[aas (by rw[z])]
   exact(aas (by rw[z];exact aaE ..)).symm
  ·rw[aak (λy=>z (Ll.mp y))]
   refine ih.trans ?_
   rw[aaL,aaD,aaD]
   exact⟨λh=>aay _ h,λh=>(aaB.mp h).resolve_left (λe=>z e.symm)⟩
theorem yF{P:Program}{w:World}{K:W.Frag}{H H':Hp}{a:Addr}{kvs:List (N3 (Lf⊕List Lf))}(s:aI H H')(h:Ng (YM P w K) (bV P w) H a kvs):Ng (YM P w K) (bV P w) H' a kvs:=⟨h.ob.elim (λe=>.inl (s _ _ e)) (λ⟨o,e⟩=>.inr ⟨o,s _ _ e⟩),λe he=>(h.keys e he).mono s⟩
theorem Li.ext{C CT CC:Addr}{H:Hp}{a d:Addr}{x y:bu}{z:Str}{P:Program}{w:World}{kvs:List (N3 (Lf⊕List Lf))}{o:HO}(hd:H d=some (dN (ZM P w) (bV P w) d kvs))(h:Li C CT CC H a x y z):Li C CT CC (upd H d o) a x y z:=by
 obtain⟨da,t,u,e1,⟨dy,dd,d1,e2,e3⟩,⟨dy',Qg,d1',e4,e5⟩⟩:=h.ok
 have q:∀{b:Addr}{C' d':Addr}{fs:List (Str×V)},H b=some (.ins C' d' fs)->(upd H d o) b=some (.ins C' d' fs):=λe=>(aH (mE e hd (λz=>nomatch z))).trans e
 exact⟨da,t,u,q e1,⟨dy,dd,d1,q e2,q e3⟩,⟨dy',Qg,d1',q e4,q e5⟩⟩
theorem DW.put{P:Program}{w:World}{K:W.Frag}{H:Hp}{a b:Addr}{q:Pq}{qs:List Pq}{kvs:List (N3 (Lf⊕List Lf))}{v:V}(d:Nd (YM P w K) (bV P w) H a kvs)(r:yE K H kvs qs)(hm:oV K H (.ref b) q)(hn:q∉qs):DW P w K (upd H a (dN (ZM P w) (bV P w) a (putN kvs (uC q) b v))) a (qs++[q]):=by
 have t:=nG (F:=K) d.ob (o:=dN (ZM P w) (bV P w) a (putN kvs (uC q) b v))
 refine⟨_,d.put (Hu hm),?_⟩
 have z:=oN (q:=q) r
 rw[aak hn]at z
 have hv0:valN kvs (uC q)=none:=by
  cases z':valN kvs (uC q) with
  |none=>rfl
  |some y=>rw[z']at z;cases z
 rw[qY hv0]
 rw[qY hv0]at t
 exact cC (je t r) (.cons ⟨rfl,hm.keep t⟩ .nil)
theorem Ft{z:Str}{n:Nat}(hn:n<z.length)(h3:z.length<=3):(Txt.slice z (some (n:Int)) none).cps.toList=z.cps.toList.drop n/\(Txt.slice z none (some (n:Int))).cps.toList=z.cps.toList.take n:=by
 have hz:z.cps.toList.length=z.length:=by rw[aap];rfl
 refine⟨?_,DG (Nat.le_of_lt hn)⟩
 have:=PyProof.Rows.slice_closes_from (x:=z) (i:=(n:Int)) ⟨by omega,by omega⟩
 rw[eq_of_beq this]
 show(z.cps.toList.drop (n:Int).toNat).take ((z.length:Int)-(n:Int)).toNat=_
 rw[abE,aaJ (by rw[List.length_drop];omega)]
structure NH(x y:bu):Prop where
 pp:x.1.cps.toList.Perm y.1.cps.toList
 pq:x.2.1.cps.toList.Perm y.2.1.cps.toList
 pf:x.2.2.1.cps.toList.Perm y.2.2.1.cps.toList
 th:x.2.2.2.c=y.2.2.2.c
 tw:x.2.1=Str.ofString ""\/(x.2.2.2.a=y.2.2.2.a/\x.2.2.2.d=y.2.2.2.d)
 wi:(x.2.1=Str.ofString ""/\x.2.2.1=("":Str))\/x.2.2.2.b=y.2.2.2.b
theorem BS{a b:Str}(g:Sg a)(h:a.cps.toList.Perm b.cps.toList):Sg b/\b.length=a.length:=by
 refine⟨⟨h.nodup_iff.mp g.nd,λc hc=>g.pr c (h.mem_iff.mpr hc)⟩,?_⟩
 have:=h.length_eq
 rw[aap,aap]at this
 exact this.symm
theorem NH.gd{x y:bu}(h:NH x y)(g:gm x):gm y:=by
 obtain⟨a1,a2⟩:=BS g.gp h.pp
 obtain⟨b1,b2⟩:=BS g.gq h.pq
 obtain⟨c1,c2⟩:=BS g.gf h.pf
 exact⟨a1,b1,c1,by rw[a2];exact g.p1,by rw[a2];exact g.p3,by rw[b2];exact g.q2,by rw[c2];exact g.f2⟩
theorem gW(y:Str):y.cps.toList.Perm (Txt.join ("":Str) (y.cps.toList.reverse.map sg)).cps.toList:=by
 rw[yu];exact(List.reverse_perm _).symm
theorem Lm{z:Str}{n:Nat}(hn:n<z.length)(h3:z.length<=3):z.cps.toList.Perm (Txt.slice z (some (n:Int)) none++Txt.slice z none (some (n:Int))).cps.toList:=by
 obtain⟨e1,e2⟩:=Ft hn h3
 rw[app_list,e1,e2]
 exact((List.perm_append_comm).trans (by rw[List.take_append_drop])).symm
theorem rP{a b:Str}(h:a.cps.toList.Perm b.cps.toList)(c:Nat):fG c a=fG c b:=by
 have e:∀z,fG c z=decide (c∈z.cps.toList):=λz=>abp z c
 rw[e,e,aaL,aaD,aaD]
 exact h.mem_iff
theorem rQ(c:Nat):fG c ("":Str)=false:=by
 have e:fG c ("":Str)=decide (c∈("":Str).cps.toList):=abp _ c
 rw[e,BI];rfl
theorem qm{a b:Str}(h:a.cps.toList.Perm b.cps.toList)(e:a=("":Str)):b=("":Str):=by
 subst e
 rw[BI]at h
 have h:=h.symm.eq_nil
 obtain⟨⟨l⟩⟩:=b
 have h:l=[]:=h
 subst h;rfl
theorem Ln{x y:bu}(h:NH x y){w u:Str}(hs:gQ x.2.1 w u)(hf:x.2.2.1=Str.ofString ""->w≠Str.ofString "freed")(c:Nat):aQ x.1 x.2.1 x.2.2.1 x.2.2.2.a x.2.2.2.b x.2.2.2.c x.2.2.2.d w u c=aQ y.1 y.2.1 y.2.2.1 y.2.2.2.a y.2.2.2.b y.2.2.2.c y.2.2.2.d w u c:=by
 obtain⟨p,q,f,⟨b1,b2,b3,b4⟩⟩:=x
 obtain⟨p',q',f',⟨d1,d2,d3,d4⟩⟩:=y
 obtain⟨pp,pq,pf,th,tw,wi⟩:=h
 simp only at pp pq pf th tw wi hs hf⊢
 subst th
 have e1:=rP pp c
 have e2:=rP pq c
 have e3:=rP pf c
 have hq:∀d,d∈q.cps.toList->b1=d1/\b4=d4/\b2=d2:=λd hd=>by
  have ne:q≠Str.ofString "":=λe=>by rw[e,BI]at hd;cases hd
  have t1:=tw.resolve_left ne
  exact⟨t1.1,t1.2,wi.resolve_left λz=>ne z.1⟩
 rcases hs with ⟨rfl,rfl|rfl|rfl|rfl|rfl⟩|⟨d,hd,rfl,rfl|rfl|rfl⟩
 ·rw[d8 (by decide +kernel) (by decide +kernel) (by decide +kernel) (by decide +kernel),d8 (by decide +kernel) (by decide +kernel) (by decide +kernel) (by decide +kernel)]
  unfold fX cY cB
  rw[e1,e2,e3,aai (ns (by decide +kernel)),aai (ns (by decide +kernel))]
 ·rw[d8 (by decide +kernel) (by decide +kernel) (by decide +kernel) (by decide +kernel),d8 (by decide +kernel) (by decide +kernel) (by decide +kernel) (by decide +kernel)]
  unfold fX cY cB
  rw[e1,e2,e3,aai (ns (by decide +kernel)),aai (ns (by decide +kernel))]
 ·rw[jd (aA _),jd (aA _)]
  unfold cY
  rw[e1,e3]
  by_cases hq':q=("":Str)
  ·have z1:fG c q=false:=by rw[hq'];exact rQ c
   rw[←e2,z1]
   rfl
  ·rw[(tw.resolve_left hq').2,e2]
 ·rw[fY (aA _),fY (aA _)]
  unfold bq
  rw[e1]
 ·have ne:¬f=("":Str):=λe=>hf e rfl
  rw[cZ (aA _),cZ (aA _),wi.resolve_left λz=>ne z.2]
 ·obtain⟨t1,t2,t3⟩:=hq d hd
  rw[eV (aA _),eV (aA _),t1,t3]
  unfold cg
  rw[e3]
 ·rw[g5 (aA _),g5 (aA _)]
  unfold gj bq
  rw[e1]
 ·obtain⟨t1,t2,t3⟩:=hq d hd
  rw[cZ (aA _),cZ (aA _),t3]
theorem Lo{f f' q w u:Str}(h:f.cps.toList.Perm f'.cps.toList)(hs:gQ q w u):cD f w u=cD f' w u:=by
 unfold cD
 rcases hs with ⟨rfl,_⟩|⟨d,_,rfl,_⟩
 ·rw[aaj (aA _),aaj (aA _)]
 ·have e:∀z,ZY (sg d) z=!(fG d z):=λz=>rfl
  rw[e,e,rP h]
theorem NI{p q:Str}{b1 b2 b3 b4:Bool}{w u k w' u':Str}{c:Nat}(hs:gQ q w u)(hw:w≠Str.ofString "freed")(h:aQ p q ("":Str) b1 b2 b3 b4 w u c=.go k w' u'):w'≠Str.ofString "freed":=by
 have key:∀{a b:String},aY (Str.ofString a) (Str.ofString b)=false->Str.ofString a≠Str.ofString b:=λz e=>by rw[e,aA]at z;cases z
 rcases hs with ⟨rfl,rfl|rfl|rfl|rfl|rfl⟩|⟨d,hd,rfl,rfl|rfl|rfl⟩
 ·rw[d8 (by decide +kernel) (by decide +kernel) (by decide +kernel) (by decide +kernel)]at h
  unfold fX cB at h
  rw[rQ,aai (ns (by decide +kernel))]at h
  simp only[aaP,abm]at h
  repeat' split at h
  all_goals (injection h with h1 h2 h3;rw[←h2];exact key (by decide +kernel))
 ·rw[d8 (by decide +kernel) (by decide +kernel) (by decide +kernel) (by decide +kernel)]at h
  unfold fX cB at h
  rw[rQ,aai (ns (by decide +kernel))]at h
  simp only[aaP,abm]at h
  repeat' split at h
  all_goals (injection h with h1 h2 h3;rw[←h2];exact key (by decide +kernel))
 ·rw[jd (aA _)]at h
  unfold cY at h
  rw[rQ]at h
  simp only[aaP,abm]at h
  repeat' split at h
  all_goals first | (injection h with h1 h2 h3;rw[←h2];exact key (by decide +kernel))|cases h
 ·rw[fY (aA _)]at h
  unfold bq at h
  repeat' split at h
  all_goals first | (injection h with h1 h2 h3;rw[←h2];exact key (by decide +kernel))|cases h
 ·exact absurd rfl hw
 ·rw[eV (aA _)]at h
  unfold cg at h
  rw[rQ]at h
  simp only[aaP,abm]at h
  repeat' split at h
  all_goals first | (injection h with h1 h2 h3;rw[←h2];exact key (by decide +kernel))|cases h
 ·rw[g5 (aA _)]at h
  unfold gj bq at h
  repeat' split at h
  all_goals first | (injection h with h1 h2 h3;rw[←h2];exact key (by decide +kernel))|cases h
 ·exact absurd rfl hw
structure IB(x:bu)(s:aT):Prop where
 st:gQ x.2.1 s.1 s.2
 lv:cD x.2.2.1 s.1 s.2=true
 nf:x.2.2.1=Str.ofString ""->s.1≠Str.ofString "freed"
theorem Hv(x:bu):IB x (Str.ofString "row",("":Str)):=⟨.inl ⟨rfl,.inl rfl⟩,by unfold cD;exact aaj (aA _),λ_ e=>absurd e (λe=>by have:=congrArg (λz=>aY z ("freed":Str)) e;simp only[aA]at this;exact absurd this (by decide +kernel))⟩
theorem Lp{x:bu}{s t:aT}{k:Str}{c:Nat}(hs:IB x s)(h:aX x (some s) c=some (k,t)):IB x t:=by
 have h:bX x.1 x.2.1 x.2.2.1 x.2.2.2.a x.2.2.2.b x.2.2.2.c x.2.2.2.d s.1 s.2 c=some (k,t):=h
 unfold bX at h
 cases e:aQ x.1 x.2.1 x.2.2.1 x.2.2.2.a x.2.2.2.b x.2.2.2.c x.2.2.2.d s.1 s.2 c with
 |kj z=>rw[e]at h;cases h
 |go k' w' u' =>
  rw[e]at h
  simp only at h
  by_cases hl:cD x.2.2.1 w' u'=true
  ·rw[aaj hl]at h
   injection h with h;injection h with h1 h2
   subst h2
   refine⟨BJ hs.st e,hl,λz=>?_⟩
   have hn:=hs.nf z
   rw[z]at e
   exact NI hs.st hn e
  ·rw[aai hl]at h;cases h
theorem QD{x y:bu}{s:aT}(h:NH x y)(hs:IB x s)(c:Nat):aX x (some s) c=aX y (some s) c:=by
 show bX _ _ _ _ _ _ _ s.1 s.2 c=bX _ _ _ _ _ _ _ s.1 s.2 c
 unfold bX
 have e:=Ln h hs.st hs.nf c
 cases e1:aQ x.1 x.2.1 x.2.2.1 x.2.2.2.a x.2.2.2.b x.2.2.2.c x.2.2.2.d s.1 s.2 c with
 |kj z=>rw[e1]at e;rw[←e]
 |go k w u =>
  rw[e1]at e
  rw[←e]
  simp only
  rw[Lo h.pf (BJ hs.st e1)]
def dT(s:aT):cH:=((some s,some s),some ([],[]))
theorem T9(l:List aT)(h:l.length<=1):ql l l=some ([],[]):=by
 match l,h with
 |[],_=>rfl
 |[a],_=>show(if a=a then some ([],[]) else none)=_;rw[aaj rfl]
section
variable{M:Type}[DecidableEq M]{good:M->Bool}{led:M->List (Nat×M)}{Ok:M->Prop}{B:Nat}{U:List M}
end
def cI:aT:=(Str.ofString "row",("":Str))
inductive O1(x:bu)(z:Str):aT->Prop where
 |row:O1 x z cI
 |step {s t:aT}{k:Str}{c:Nat}:O1 x z s->c∈z.cps.toList->aX x (some s) c=some (k,t)->O1 x z t
theorem O1.rch{x:bu}{z:Str}{s:aT}(h:O1 x z s):IB x s:=by
 induction h with
 |row=>exact Hv x
 |step _ _ hl ih=>exact Lp ih hl
structure IC(x:bu)(z:Str)(qs:List aT):Prop where
 nd:qs.Nodup
 mem:∀s,s∈qs↔O1 x z s
theorem IC.of{x:bu}{z:Str}{qs:List aT}(nd:qs.Nodup)(h1:∀s∈qs,O1 x z s)(h2:cI∈qs)(h3:∀s∈qs,∀c∈z.cps.toList,∀k t,aX x (some s) c=some (k,t)->t∈qs):IC x z qs:=by
 refine⟨nd,λs=>⟨h1 s,λh=>?_⟩⟩
 induction h with
 |row=>exact h2
 |step _ hc hl ih=>exact h3 _ ih _ hc _ _ hl
theorem rR{α β:Type}{f:α->β}:∀{l:List α},(l.map f).Nodup->l.Nodup
 |[],_=>List.nodup_nil
 |a::l,h=>by
  have h:=abq.mp (show(f a::l.map f).Nodup from h)
  exact abq.mpr ⟨λz=>h.1 (aaY.mpr ⟨a,z,rfl⟩),rR h.2⟩
def dd(s:aT):Pq:=(some s,some s)
structure PI(x:bu)(z:Str)(qs:List aT)(at_:Nat):Prop where
 nd:qs.Nodup
 rc:∀s∈qs,O1 x z s
 row:cI∈qs
 le:at_<=qs.length
 cl:∀i,i<at_->∀s,qs[i]?=some s->∀c∈z.cps.toList,∀k t,aX x (some s) c=some (k,t)->t∈qs
theorem PI.all{x:bu}{z:Str}{qs:List aT}{a:Nat}(h:PI x z qs a)(hl:qs.length<=a):IC x z qs :=
 IC.of h.nd h.rc h.row λs hs c hc k t hl'=>by
  obtain⟨i,hi⟩:=List.getElem?_of_mem hs
  have hil:=(aau.mp hi).1
  exact h.cl i (by omega) s hi c hc k t hl'
theorem Wu{A:Around}{P:Program}{w:World}(h:A.units+64<cLine):A.units+1+(stepK (ZM P w)).cP<cLine:=by show A.units+1+2<cLine;omega
theorem NH.symm{x y:bu}(h:NH x y):NH y x:=⟨h.pp.symm,h.pq.symm,h.pf.symm,h.th.symm,h.tw.elim (λe=>.inl (qm h.pq e)) (λe=>.inr ⟨e.1.symm,e.2.symm⟩),h.wi.elim (λe=>.inl ⟨qm h.pq e.1,qm h.pf e.2⟩) (λe=>.inr e.symm)⟩
theorem IC.few{x:bu}{z:Str}{qs:List aT}(h:IC x z qs)(g:gm x):qs.length<=11 :=
 aaq (List.Nodup.length_le_of_subset h.nd (λs hs=>yq ((h.mem s).mp hs).rch.st)) (rE g)
theorem DX{x y:bu}(gx:gm x)(gy:gm y):∃o,(∀c,c∈(lF x y).cps.toList↔(c∈(bf x).cps.toList\/c∈(bf y).cps.toList\/c=10\/c=32\/c=o))/\o∉(bf x).cps.toList/\o∉(bf y).cps.toList/\o≠10/\o≠32:=by
 have eB:(kI [bf x,bf y]).cps.toList=[bf x,bf y].flatMap (λz=>z.cps.toList)++[10,32]:=by
  unfold kI
  rw[app_list,join_list,kJ.1]
 have h7:∀c:bu,gm c->(bf c).cps.toList.length<=7:=λc g=>by
  have hp3:=g.p3;have hq2:=g.q2;have hf2:=g.f2
  have:(bf c).length<=7:=by unfold bf;rw[aU,aU];omega
  rw[aap];exact this
 have hB:(kI [bf x,bf y]).length<=60:=by
  have e:=congrArg List.length eB
  rw[aap,aao,aaO,aaO,abU,aaH,aao]at e
  have e:(kI [bf x,bf y]).length=(bf x).cps.toList.length+(bf y).cps.toList.length+2:=e
  have:=h7 x gx;have:=h7 y gy
  omega
 obtain⟨o,r,hf,ho⟩:=yo (t:=bF (kI [bf x,bf y])) (aaq (gR _) hB)
 have e:=AL hf ho
 have ho':=λz=>ho (kG.mpr z)
 rw[eB]at ho'
 have mem:∀c,c∈[bf x,bf y].flatMap (λz=>z.cps.toList)++[10,32]↔(c∈(bf x).cps.toList\/c∈(bf y).cps.toList\/c=10\/c=32):=λc=>by
  rw[aaO,aaO,abU,aaH,aaC,aaC]
  simp[or_assoc]
 refine⟨o,λc=>?_,λz=>ho' ((mem o).mpr (.inl z)),λz=>ho' ((mem o).mpr (.inr (.inl z))),λz=>ho' ((mem o).mpr (.inr (.inr (.inl z)))),λz=>ho' ((mem o).mpr (.inr (.inr (.inr z))))⟩
 unfold lF
 rw[e,app_list,aaC,kG,eB,mem]
 show(_\/c∈[o])↔_
 rw[aat]
 simp[or_assoc]
theorem Lq:Str.ofString "\n"=sg 10:=by decide +kernel
theorem nR{c d:Nat}:aY (sg c) (sg d)=decide (c=d):=by
 unfold aY
 rw[aaL,aaD,aaD]
 constructor
 ·intro h
  have h:=V.str.inj h
  have:=congrArg (λz:Str=>z.cps.toList) h
  have:[c]=[d]:=this
  injection this
 ·rintro rfl;rfl
structure QE(x:bu)(o:Nat):Prop where
 f:fG o x.2.2.1=false
 n:o≠10
 q:∀c∈x.2.1.cps.toList,o≠c
theorem W0{x:bu}(g:gm x):fG 10 x.2.2.1=false:=by
 have e:fG 10 x.2.2.1=decide (10∈x.2.2.1.cps.toList):=abp _ 10
 rw[e]
 exact aak λh=>absurd (g.gf.pr 10 h) (by decide)
theorem W2{x:bu}(g:gm x){u:Nat}(h:u∈x.2.1.cps.toList):u≠10:=λe=>by
 subst e;exact absurd (g.gq.pr 10 h) (by decide)
theorem AQ{x:bu}{w u k w' u':Str}{c:Nat}(h:aQ x.1 x.2.1 x.2.2.1 x.2.2.2.a x.2.2.2.b x.2.2.2.c x.2.2.2.d w u c=.go k w' u')(hl:cD x.2.2.1 w' u'=true):aX x (some (w,u)) c=some (k,(w',u')):=by
 show bX x.1 x.2.1 x.2.2.1 x.2.2.2.a x.2.2.2.b x.2.2.2.c x.2.2.2.d w u c=_
 unfold bX
 rw[h]
 exact aaj hl
theorem rS(f w:Str):cD f w ("":Str)=true:=by unfold cD;exact aaj (aA _)
theorem NJ{x:bu}(g:gm x){s:aT}(hs:gQ x.2.1 s.1 s.2)(hw:s.1≠Str.ofString "within")(hf:s.1≠Str.ofString "freed"):aX x (some s) 10=some (Str.ofString "end",cI):=by
 obtain⟨w,u⟩:=s
 have W3:=W0 g
 have Ua:aY (sg 10) (Str.ofString "\n")=true:=by rw[Lq];exact aA _
 refine AQ ?_ (rS _ _)
 rcases hs with ⟨rfl,rfl|rfl|rfl|rfl|rfl⟩|⟨d,hd,rfl,rfl|rfl|rfl⟩
 ·rw[d8 (by decide +kernel) (by decide +kernel) (by decide +kernel) (by decide +kernel)]
  unfold fX cB
  rw[aai (ns (by decide +kernel)),aai (by rw[W3];decide),aaj Ua]
 ·rw[d8 (by decide +kernel) (by decide +kernel) (by decide +kernel) (by decide +kernel)]
  unfold fX cB
  rw[aai (ns (by decide +kernel)),aai (by rw[W3];decide),aaj Ua]
 ·rw[jd (aA _)]
  unfold cY
  rw[aai (by rw[W3];decide),aaj Ua]
 ·rw[fY (aA _)]
  unfold bq
  rw[aaj Ua]
 ·exact absurd rfl hf
 ·exact absurd rfl hw
 ·rw[g5 (aA _)]
  unfold gj bq
  rw[aai (by rw[nR,aak (abD (W2 g hd))];decide),aaj Ua]
 ·exact absurd rfl hf
theorem QF{f:Str}{w:Str}{d:Nat}(hw:w≠Str.ofString "doubt")(h:cD f w (sg d)=true):fG d f=false:=by
 unfold cD at h
 rw[aai (ym d),aai (λz=>hw (iC z))]at h
 have h:(!(fG d f))=true:=h
 simpa using h
theorem xP{f w:Str}{d:Nat}(h:fG d f=false):cD f w (sg d)=true:=by
 unfold cD
 rw[aai (ym d)]
 split
 ·rfl
 ·show(!(fG d f))=true;rw[h];rfl
theorem ID{x:bu}{o d:Nat}(ot:QE x o)(hd:d∈x.2.1.cps.toList)(hf:fG d x.2.2.1=false):aX x (some (Str.ofString "within",sg d)) o=some (Str.ofString "put",(Str.ofString "within",sg d)):=by
 refine AQ ?_ (xP hf)
 rw[eV (aA _)]
 unfold cg
 rw[aai (by rw[ot.f];decide),aai (by rw[nR,aak (ot.q d hd)];decide),aai (by rw[Lq,nR,aak ot.n];decide)]
theorem Lr{x:bu}{d:Nat}(hd:d∈x.2.1.cps.toList)(hf:fG d x.2.2.1=false):∃t,aX x (some (Str.ofString "within",sg d)) d=some (Str.ofString "skip",t)/\gQ x.2.1 t.1 t.2/\t.1≠Str.ofString "within"/\t.1≠Str.ofString "freed":=by
 have key:∀{a b:String},aY (Str.ofString a) (Str.ofString b)=false->Str.ofString a≠Str.ofString b:=λz e=>by rw[e,aA]at z;cases z
 have e:aQ x.1 x.2.1 x.2.2.1 x.2.2.2.a x.2.2.2.b x.2.2.2.c x.2.2.2.d ("within":Str) (sg d) d=(if x.2.2.2.a=true then .go ("skip":Str) ("doubt":Str) (sg d) else .go ("skip":Str) ("behind":Str) ("":Str)):=by
  rw[eV (aA _)]
  unfold cg
  rw[aai (by rw[hf];decide),aaj (aA _)]
 by_cases ha:x.2.2.2.a=true
 ·rw[aaj ha]at e
  exact⟨_,AQ e (xP hf),.inr ⟨d,hd,O,.inr (.inl rfl)⟩,key (by decide +kernel),key (by decide +kernel)⟩
 ·rw[aai ha]at e
  exact⟨_,AQ e (rS _ _),.inl ⟨O,.inr (.inr (.inr (.inl rfl)))⟩,key (by decide +kernel),key (by decide +kernel)⟩
theorem Lu{x:bu}{o:Nat}(ot:QE x o):aX x (some (Str.ofString "freed",("":Str))) o=some (Str.ofString "put",(Str.ofString "plain",("":Str))):=by
 refine AQ ?_ (rS _ _)
 rw[cZ (aA _)]
 unfold dD cQ
 rw[aai (by rw[Lq,nR,aak ot.n];decide),aaj (aA _)]
theorem IE{x:bu}{o d:Nat}(ot:QE x o)(hf:fG d x.2.2.1=false):aX x (some (Str.ofString "freed",sg d)) o=some (Str.ofString "put",(Str.ofString "within",sg d)):=by
 refine AQ ?_ (xP hf)
 rw[cZ (aA _)]
 unfold dD cQ
 rw[aai (by rw[Lq,nR,aak ot.n];decide),aai (ym d)]
theorem uD{M:Type}{led:M->List (Nat×M)}{a b m:M}{c:Nat}{xs:List Nat}(h:(c,b)∈led a)(w:WalkG led b xs m):WalkG led a (c::xs) m:=by
 induction w with
 |nil=>exact .snoc (xs:=[]) .nil h
 |snoc _ he ih=>exact .snoc ih he
theorem uF{u v u' v':List aT}(h:ql u v=some (u',v')):∃C,u=C++u'/\v=C++v':=by
 match u,v,h with
 |[],v,h=>cases h;exact⟨[],rfl,rfl⟩
 |a::x,[],h=>cases h;exact⟨[],rfl,rfl⟩
 |a::x,b::y,h =>
  have h:(if a=b then some (x,y) else none)=some (u',v'):=h
  by_cases e:a=b
  ·rw[aaj e]at h;cases h;exact⟨[a],rfl,by rw[e];rfl⟩
  ·rw[aai e]at h;cases h
def QG(mo:wo)(A B:List aT):Prop:=∃u v,mo=some (u,v)/\u++A=v++B
theorem QG.step{mo:wo}{a b:Ls}{c:Nat}{A B:List aT}(h:QG (j6 mo a b c) A B):∃k1 s1 k2 s2,a=some (k1,s1)/\b=some (k2,s2)/\QG mo (bB k1 c++A) (bB k2 c++B):=by
 obtain⟨u',v',e,hA⟩:=h
 match mo,a,b,e with
 |some (u,v),some (k1,s1),some (k2,s2),e =>
  obtain⟨C,h1,h2⟩:=uF (show ql (u++bB k1 c) (v++bB k2 c)=some (u',v') from e)
  refine⟨k1,s1,k2,s2,O,O,u,v,O,?_⟩
  rw[←aaN,h1,←aaN,h2,aaN,aaN,hA]
 |none,_,_,e=>cases e
 |some (u,v),none,_,e=>cases e
 |some (u,v),some (k1,s1),none,e=>cases e
theorem NK{x y:bu}{o1:Option aT}{s:aT}{mo:wo}{c:Nat}{k:Str}{t:aT}(h:aX y (some s) c=some (k,t)):iD x y ((o1,some s),mo) c=some ((tP (aX x o1 c),some t),j6 mo (aX x o1 c) (some (k,t)) c):=by
 unfold iD
 show(if aX x o1 c=none/\aX y (some s) c=none then none else some ((tP (aX x o1 c),tP (aX y (some s) c)),j6 mo (aX x o1 c) (aX y (some s) c) c))=_
 rw[h,aai (λz=>nomatch z.2)]
 rfl
theorem xQ{x y:bu}{z:Str}{o1:Option aT}{s:aT}{mo:wo}{c:Nat}{k:Str}{t:aT}(hc:c∈z.cps.toList)(h:aX y (some s) c=some (k,t)):(c,((tP (aX x o1 c),some t),j6 mo (aX x o1 c) (some (k,t)) c))∈bO x y z ((o1,some s),mo):=by
 unfold bO
 exact aaU.mpr ⟨c,hc,by rw[NK h];rfl⟩
theorem Lv{o1:Option aT}{mo:wo}(h:mo≠some ([],[])):bT ((o1,some cI),mo)=true:=by
 unfold bT
 by_cases e:((o1,some cI),mo).1=(ff,ff)
 ·rw[aaj e]
  show(!decide (mo=some ([],[])))=true
  rw[aak h];rfl
 ·rw[aai e]
  show(decide (o1=ff)||decide (some cI=ff))=true
  rw[show decide (some cI=ff)=true from aas rfl,Bool.or_true]
def BU(x y:bu)(z:Str)(m:cH):Prop:=∃cs m',WalkG (bO x y z) m cs m'/\cs.length<=3/\bT m'=true
def Ub(mo:wo):Prop:=mo=none\/∃l,mo=some ([],l)/\l≠[]
theorem Ub.not{mo:wo}{A B:List aT}(h:Ub mo)(hl:A.length<=B.length):¬QG mo A B:=by
 rintro⟨u,v,e,hA⟩
 rcases h with h|⟨l,h,hn⟩
 ·rw[h]at e;cases e
 ·rw[h]at e;cases e
  have:=congrArg List.length hA
  rw[aao,aao,abj]at this
  have:=List.length_pos_iff.mpr hn
  omega
theorem rT(c:Nat):bB ("put":Str) c=[(Str.ofString "put",sg c)]:=by unfold bB;rw[aai (ns (by decide +kernel)),aaj (aA _)]
theorem Lw(c:Nat):bB ("end":Str) c=[(Str.ofString "end",("":Str))]:=by unfold bB;rw[aai (ns (by decide +kernel)),aai (ns (by decide +kernel))]
theorem IF(c:Nat):bB ("skip":Str) c=[]:=by unfold bB;rw[aaj (aA _)]
theorem NL{mo:wo}(h:mo=some ([],[])):QG mo [] []:=⟨[],[],h,rfl⟩
theorem ahead{x y:bu}{z:Str}{o:Nat}(gy:gm y)(ot:QE y o)(h10:10∈z.cps.toList)(ho:o∈z.cps.toList)(hq:∀c∈y.2.1.cps.toList,c∈z.cps.toList){o1:Option aT}{s:aT}{mo:wo}(hs:gQ y.2.1 s.1 s.2)(hl:cD y.2.2.1 s.1 s.2=true)(ha:Ub mo):BU x y z ((o1,some s),mo):=by
 have line:∀{s:aT}{o1:Option aT}{mo:wo},gQ y.2.1 s.1 s.2->s.1≠Str.ofString "within"->s.1≠Str.ofString "freed"->(∀k,¬QG mo (bB k 10) [(Str.ofString "end",("":Str))])->∃m',WalkG (bO x y z) ((o1,some s),mo) [10] m'/\bT m'=true:=λ{s o1 mo} hs hw hf hn=>by
  have e:=NJ gy hs hw hf
  refine⟨_,.snoc (xs:=[]) .nil (xQ h10 e),Lv λe2=>?_⟩
  obtain⟨k1,s1,k2,s2,_,eb,q⟩:=(NL e2).step
  cases eb
  rw[Lw,aaH]at q
  exact hn k1 q
 have key:∀{a b:String},aY (Str.ofString a) (Str.ofString b)=false->Str.ofString a≠Str.ofString b:=λz e=>by rw[e,aA]at z;cases z
 have quote:∀{d:Nat}{o1:Option aT}{mo:wo},d∈y.2.1.cps.toList->fG d y.2.2.1=false->(∀k k',¬QG mo (bB k d++bB k' 10) [(Str.ofString "end",("":Str))])->∃m',WalkG (bO x y z) ((o1,some (Str.ofString "within",sg d)),mo) [d,10] m'/\bT m'=true:=λ{d o1 mo} hd hf hn=>by
  obtain⟨t,e,ht,hw,hfr⟩:=Lr hd hf
  obtain⟨m',w2,g2⟩:=line (o1:=tP (aX x o1 d)) (mo:=j6 mo (aX x o1 d) (some (Str.ofString "skip",t)) d) ht hw hfr λk q=>by
   obtain⟨k1,s1,k2,s2,_,eb,q2⟩:=q.step
   cases eb
   rw[IF,abW]at q2
   exact hn k1 k q2
  exact⟨m',uD (xQ (hq d hd) e) w2,g2⟩
 obtain⟨w,u⟩:=s
 rcases hs with ⟨rfl,hw⟩|⟨d,hd,rfl,hw⟩
 ·by_cases hf:w=("freed":Str)
  ·subst hf
   have e:=Lu ot
   obtain⟨m',w2,g2⟩:=line (s:=(Str.ofString "plain",("":Str))) (o1:=tP (aX x o1 o)) (mo:=j6 mo (aX x o1 o) (some (Str.ofString "put",(Str.ofString "plain",("":Str)))) o) (.inl ⟨rfl,.inr (.inr (.inl rfl))⟩) (key (by decide +kernel)) (key (by decide +kernel)) λk q=>by
    obtain⟨k1,s1,k2,s2,_,eb,q2⟩:=q.step
    cases eb
    rw[rT]at q2
    have b1:=bY k1 o
    have b2:=bY k 10
    exact ha.not (by rw[aao,aao,abf,abf];omega) q2
   exact⟨_,m',uD (xQ ho e) w2,by show 2<=3;decide,g2⟩
  ·have hw1:w≠Str.ofString "within":=by rcases hw with rfl|rfl|rfl|rfl|rfl<;>exact key (by decide +kernel)
   obtain⟨m',w2,g2⟩:=line (s:=(w,("":Str))) (o1:=o1) (mo:=mo) (.inl ⟨rfl,hw⟩) hw1 hf λk q=>ha.not (by have:=bY k 10;rw[abf];exact this) q
   exact⟨_,m',w2,by show 1<=3;decide,g2⟩
 ·by_cases hdb:w=("doubt":Str)
  ·subst hdb
   obtain⟨m',w2,g2⟩:=line (s:=(Str.ofString "doubt",sg d)) (o1:=o1) (mo:=mo) (.inr ⟨d,hd,rfl,.inr (.inl rfl)⟩) (key (by decide +kernel)) (key (by decide +kernel)) λk q=>ha.not (by have:=bY k 10;rw[abf];exact this) q
   exact⟨_,m',w2,by show 1<=3;decide,g2⟩
  have hf:=QF hdb hl
  have hod:=ot.q d hd
  have e:aX y (some (w,sg d)) o=some (Str.ofString "put",(Str.ofString "within",sg d)):=by
   rcases hw with rfl|rfl|rfl
   ·exact ID ot hd hf
   ·exact absurd rfl hdb
   ·exact IE ot hf
  obtain⟨m',w2,g2⟩:=quote (d:=d) (o1:=tP (aX x o1 o)) (mo:=j6 mo (aX x o1 o) (some (Str.ofString "put",(Str.ofString "within",sg d))) o) hd hf λk k' q=>by
   obtain⟨k1,s1,k2,s2,_,eb,u',v',em,q2⟩:=q.step
   cases eb
   rw[rT]at q2
   rcases ha with h|⟨l,h,hn⟩
   ·rw[h]at em;cases em
   rw[h]at em;cases em
   rw[abW]at q2
   have b1:=bY k1 o
   have b2:=bY k d
   have b3:=bY k' 10
   have bl:=congrArg List.length q2
   rw[aao,aao,aao,aao,abf,abf]at bl
   have hp:=List.length_pos_iff.mpr hn
   match v',hn,h1:bB k1 o,h2:bB k d,h3:bB k' 10 with
   |[a],_,[b],[c],[e] =>
    rw[h1,h2,h3]at q2
    have q3:[b,c,e]=[a,(Str.ofString "put",sg o),(Str.ofString "end",("":Str))]:=q2
    injection q3 with _ q3;injection q3 with q3 _
    unfold bB at h2
    split at h2
    ·cases h2
    ·injection h2 with h2 _
     rw[q3]at h2
     injection h2 with h4 h5
     rw[h4,aaj (aA _)]at h5
     have:=congrArg (λz:Str=>z.cps.toList) h5
     have:[d]=[o]:=this
     injection this with this
     exact hod this.symm
   |[a],_,[],_,_=>rw[h1]at bl;simp at bl;omega
   |[a],_,[b],[],_=>rw[h1,h2]at bl;simp at bl;omega
   |[a],_,[b],[c],[]=>rw[h1,h2,h3]at bl;simp at bl
   |[a],_,_::_::_,_,_=>rw[h1]at b1;simp at b1
   |[a],_,[b],_::_::_,_=>rw[h2]at b2;simp at b2
   |[a],_,[b],[c],_::_::_=>rw[h3]at b3;simp at b3
   |_::_::_,_,_,_,_=>simp at bl;omega
  exact⟨_,m',uD (xQ ho e) w2,by show 3<=3;decide,g2⟩
def Lx(m:cH):cH:=((m.1.2,m.1.1),m.2.map Prod.swap)
theorem NN(m:cH):Lx (Lx m)=m:=by
 obtain⟨⟨a,b⟩,c⟩:=m
 cases c with
 |none=>rfl
 |some d=>rfl
theorem Ly(u v:List aT):ql v u=(ql u v).map Prod.swap:=by
 match u,v with
 |[],[]=>rfl
 |[],_::_=>rfl
 |_::_,[]=>rfl
 |a::x,b::y =>
  show(if b=a then some (y,x) else none)=(if a=b then some (x,y) else none).map Prod.swap
  by_cases e:a=b
  ·rw[aaj e,aaj e.symm];rfl
  ·rw[aai e,aai (λz=>e z.symm)];rfl
theorem Lz(mo:wo)(a b:Ls)(c:Nat):j6 (mo.map Prod.swap) b a c=(j6 mo a b c).map Prod.swap:=by
 match mo,a,b with
 |some (u,v),some (k1,s1),some (k2,s2)=>exact Ly (u++bB k1 c) (v++bB k2 c)
 |none,none,none=>rfl
 |none,none,some _=>rfl
 |none,some _,none=>rfl
 |none,some _,some _=>rfl
 |some (u,v),none,none=>rfl
 |some (u,v),none,some _=>rfl
 |some (u,v),some (k1,s1),none=>rfl
theorem LA(x y:bu)(m:cH)(c:Nat):iD y x (Lx m) c=(iD x y m c).map Lx:=by
 unfold iD
 show(if aX y m.1.2 c=none/\aX x m.1.1 c=none then none else some ((tP (aX y m.1.2 c),tP (aX x m.1.1 c)),j6 (m.2.map Prod.swap) (aX y m.1.2 c) (aX x m.1.1 c) c))=_
 by_cases h:aX x m.1.1 c=none/\aX y m.1.2 c=none
 ·rw[aaj h,aaj ⟨h.2,h.1⟩];rfl
 ·rw[aai h,aai (λz=>h ⟨z.2,z.1⟩),Lz];rfl
theorem LB{x y:bu}{z:Str}{m m':cH}{c:Nat}(h:(c,m')∈bO x y z m):(c,Lx m')∈bO y x z (Lx m):=by
 unfold bO at h⊢
 obtain⟨d,hd,e⟩:=aaU.mp h
 refine aaU.mpr ⟨d,hd,?_⟩
 rw[LA]
 cases hb:iD x y m d with
 |none=>rw[hb]at e;cases e
 |some m2=>rw[hb]at e;cases e;rfl
theorem IG{x y:bu}{z:Str}{m m':cH}{cs:List Nat}(h:WalkG (bO x y z) m cs m'):WalkG (bO y x z) (Lx m) cs (Lx m'):=by
 induction h with
 |nil=>exact .nil
 |snoc _ he ih=>exact .snoc ih (LB he)
theorem II(m:cH):bT (Lx m)=bT m:=by
 obtain⟨⟨a,b⟩,c⟩:=m
 unfold bT
 by_cases h:(a,b)=(ff,ff)
 ·have h':(b,a)=(ff,ff):=by injection h with h1 h2;rw[h1,h2]
  show(if (b,a)=(ff,ff) then _ else _)=(if (a,b)=(ff,ff) then _ else _)
  rw[aaj h,aaj h']
  have e:decide (c.map Prod.swap=some ([],[]))=decide (c=some ([],[])):=by
   rw[aaL,aaD,aaD]
   cases c with
   |none=>exact⟨(λz=>nomatch z),(λz=>nomatch z)⟩
   |some d =>
    obtain⟨u,v⟩:=d
    constructor
    ·intro z
     have z:some (v,u)=some (([]:List aT),([]:List aT)):=z
     injection z with z;injection z with z1 z2;rw[z1,z2]
    ·intro z;injection z with z;injection z with z1 z2;rw[z1,z2];rfl
  show(!decide (c.map Prod.swap=some ([],[])))=!decide (c=some ([],[]))
  rw[e]
 ·have h':¬(b,a)=(ff,ff):=λz=>h (by injection z with z1 z2;rw[z1,z2])
  show(if (b,a)=(ff,ff) then _ else _)=(if (a,b)=(ff,ff) then _ else _)
  rw[aai h,aai h']
  exact Bool.or_comm ..
theorem BU.swap{x y:bu}{z:Str}{m:cH}(h:BU y x z (Lx m)):BU x y z m:=by
 obtain⟨cs,m',w,hl,hg⟩:=h
 have w:=IG w
 rw[NN]at w
 exact⟨cs,Lx m',w,hl,by rw[II];exact hg⟩
theorem Uc{x:bu}{s t:aT}{k:Str}{c:Nat}(hs:gQ x.2.1 s.1 s.2)(h:aX x (some s) c=some (k,t)):gQ x.2.1 t.1 t.2/\cD x.2.2.1 t.1 t.2=true:=by
 have h:bX x.1 x.2.1 x.2.2.1 x.2.2.2.a x.2.2.2.b x.2.2.2.c x.2.2.2.d s.1 s.2 c=some (k,t):=h
 unfold bX at h
 cases e:aQ x.1 x.2.1 x.2.2.1 x.2.2.2.a x.2.2.2.b x.2.2.2.c x.2.2.2.d s.1 s.2 c with
 |kj z=>rw[e]at h;cases h
 |go k' w' u' =>
  rw[e]at h
  simp only at h
  by_cases hl:cD x.2.2.1 w' u'=true
  ·rw[aaj hl]at h
   injection h with h;injection h with h1 h2
   subst h2
   exact⟨BJ hs e,hl⟩
  ·rw[aai hl]at h;cases h
theorem LC{u v u' v':List aT}(hl:u.length<=1\/v.length<=1)(h:ql u v=some (u',v')):u'=[]\/v'=[]:=by
 match u,v,h with
 |[],v,h=>cases h;exact .inl rfl
 |a::x,[],h=>cases h;exact .inr rfl
 |a::x,b::y,h =>
  have h:(if a=b then some (x,y) else none)=some (u',v'):=h
  by_cases e:a=b
  ·rw[aaj e]at h
   cases h
   rcases hl with z|z
   ·rw[aaF]at z;exact .inl (List.length_eq_zero_iff.mp (by omega))
   ·rw[aaF]at z;exact .inr (List.length_eq_zero_iff.mp (by omega))
  ·rw[aai e]at h;cases h
def Ud(x:bu)(o:Option aT):Prop:=∀s,o=some s->gQ x.2.1 s.1 s.2/\cD x.2.2.1 s.1 s.2=true
structure Lg(x y:bu)(m:cH):Prop where
 s1:Ud x m.1.1
 s2:Ud y m.1.2
 any:m.1.1≠none\/m.1.2≠none
 Vz:m.2=none\/∃u v,m.2=some (u,v)/\(u=[]\/v=[])/\m.1.1≠none/\m.1.2≠none
theorem DY{x:bu}{o:Option aT}{c:Nat}(h:Ud x o):Ud x (tP (aX x o c)):=λt ht=>by
 cases o with
 |none=>cases ht
 |some s =>
  cases e:aX x (some s) c with
  |none=>rw[e]at ht;cases ht
  |some kt =>
   rw[e]at ht
   cases ht
   exact Uc (h s rfl).1 e
theorem NO{x y:bu}{m m':cH}{c:Nat}(h:Lg x y m)(hb:iD x y m c=some m'):Lg x y m':=by
 unfold iD at hb
 by_cases hn:aX x m.1.1 c=none/\aX y m.1.2 c=none
 ·rw[aaj hn]at hb;cases hb
 rw[aai hn]at hb
 cases hb
 have so:∀a:Ls,a≠none->tP a≠none:=λa ha z=>by
  cases a with
  |none=>exact ha rfl
  |some t=>cases z
 refine⟨DY h.s1,DY h.s2,?_,?_⟩
 ·by_cases h1:aX x m.1.1 c=none
  ·exact .inr (so _ λh2=>hn ⟨h1,h2⟩)
  ·exact .inl (so _ h1)
 ·show j6 m.2 (aX x m.1.1 c) (aX y m.1.2 c) c=none\/_
  rcases h.Vz with hm|⟨u,v,hm,hs,_,_⟩
  ·rw[hm];exact .inl rfl
  ·rw[hm]
   cases ha:aX x m.1.1 c with
   |none=>exact .inl rfl
   |some a =>
    cases hb:aX y m.1.2 c with
    |none=>exact .inl rfl
    |some b =>
     cases hr:j6 (some (u,v)) (some a) (some b) c with
     |none=>exact .inl rfl
     |some r =>
      obtain⟨u',v'⟩:=r
      refine .inr ⟨u',v',rfl,LC (u:=u++bB a.1 c) (v:=v++bB b.1 c) ?_ hr,(λz=>nomatch z),(λz=>nomatch z)⟩
      rcases hs with e|e
      ·rw[e,abW];exact .inl (bY _ _)
      ·rw[e,abW];exact .inr (bY _ _)
theorem Ue(x y:bu):Lg x y pT:=by
 have hr:∀x:bu,Ud x ff:=λx s e=>by
  have e:=aax e
  subst e
  exact⟨.inl ⟨O,.inl rfl⟩,rS _ _⟩
 exact⟨hr x,hr y,.inl (λz=>nomatch z),.inr ⟨[],[],rfl,.inl rfl,(λz=>nomatch z),(λz=>nomatch z)⟩⟩
theorem BV{x y:bu}{z:Str}{cs:List Nat}{m:cH}(h:WalkG (bO x y z) pT cs m):Lg x y m:=by
 induction h with
 |nil=>exact Ue x y
 |snoc _ he ih =>
  unfold bO at he
  obtain⟨d,hd,e⟩:=aaU.mp he
  rename_i p q c _
  cases hb:iD x y p d with
  |none=>rw[hb]at e;cases e
  |some m2=>rw[hb]at e;cases e;exact NO ih hb
structure Z1(x y:bu)(z:Str):Prop where
 ok:∃o,o∈z.cps.toList/\QE x o/\QE y o
 nl:10∈z.cps.toList
 q1:∀c∈x.2.1.cps.toList,c∈z.cps.toList
 q2:∀c∈y.2.1.cps.toList,c∈z.cps.toList
theorem Hw{x y:bu}(gx:gm x)(gy:gm y):Z1 x y (lF x y):=by
 obtain⟨o,hm,n1,n2,VA,n32⟩:=DX gx gy
 have mem:∀c:bu,∀d,(d∈c.2.1.cps.toList\/d∈c.2.2.1.cps.toList)->d∈(bf c).cps.toList:=λc d hd=>by
  unfold bf
  rw[app_list,app_list,aaC,aaC]
  rcases hd with z|z
  ·exact .inl (.inr z)
  ·exact .inr z
 have WU:∀c:bu,o∉(bf c).cps.toList->QE c o:=λc hn=>by
  refine⟨?_,VA,λd hd e=>hn (mem c o (.inl (by rw[e];exact hd)))⟩
  have e:fG o c.2.2.1=decide (o∈c.2.2.1.cps.toList):=abp _ o
  rw[e]
  exact aak λh=>hn (mem c o (.inr h))
 exact⟨⟨o,(hm o).mpr (.inr (.inr (.inr (.inr rfl)))),WU x n1,WU y n2⟩,(hm 10).mpr (.inr (.inr (.inl rfl))),λc hc=>(hm c).mpr (.inl (mem x c (.inl hc))),λc hc=>(hm c).mpr (.inr (.inl (mem y c (.inl hc))))⟩
theorem DZ{x y:bu}{z:Str}(gx:gm x)(gy:gm y)(hz:Z1 x y z){m:cH}(h:Lg x y m)(ho:m.2≠some ([],[])):BU x y z m:=by
 obtain⟨o,Z2,ox,oy⟩:=hz.ok
 obtain⟨⟨o1,o2⟩,mo⟩:=m
 have two:∀s,o2=some s->Ub mo->BU x y z ((o1,o2),mo):=λs e ha=>by
  have q:=h.s2 s e
  rw[e]
  exact ahead gy oy hz.nl Z2 hz.q2 q.1 q.2 ha
 have one:∀s,o1=some s->Ub (mo.map Prod.swap)->BU x y z ((o1,o2),mo):=λs e ha=>by
  have q:=h.s1 s e
  refine BU.swap ?_
  show BU y x z ((o2,o1),mo.map Prod.swap)
  rw[e]
  exact ahead gx ox hz.nl Z2 hz.q1 q.1 q.2 ha
 rcases h.Vz with hm|⟨u,v,hm,hs,n1,n2⟩
 ·have hm:mo=none:=hm
  subst hm
  rcases h.any with n|n
  ·cases o1 with
   |none=>exact absurd rfl n
   |some s=>exact one s rfl (.inl rfl)
  ·cases o2 with
   |none=>exact absurd rfl n
   |some s=>exact two s rfl (.inl rfl)
 ·have hm:mo=some (u,v):=hm
  subst hm
  rcases hs with e|e
  ·cases o2 with
   |none=>exact absurd rfl n2
   |some s=>exact two s rfl (.inr ⟨v,by rw[e],λz=>ho (by rw[e,z])⟩)
  ·cases o1 with
   |none=>exact absurd rfl n1
   |some s=>exact one s rfl (.inr ⟨u,by rw[e];rfl,λz=>ho (by rw[e,z])⟩)
def rO(x:bu):aT->List Nat->Option (List aT×aT)
 |s,[]=>some ([],s)
 |s,c::cs=>match aX x (some s) c with
  |none=>none
  |some (k,t)=>(rO x t cs).map λr=>(bB k c++r.1,r.2)
theorem BW(x:bu)(c:Nat):∀(cs:List Nat)(s:aT),rO x s (cs++[c])=(rO x s cs).bind λr=>(aX x (some r.2) c).map λt=>(r.1++bB t.1 c,t.2)
 |[],s=>by
  unfold rO
  simp only[abW]
  unfold rO
  cases h:aX x (some s) c with
  |none=>simp[h]
  |some t=>simp[h,rO]
 |d::cs,s=>by
  show rO x s (d::(cs++[c]))=_
  unfold rO
  cases h:aX x (some s) d with
  |none=>rfl
  |some t =>
   simp only
   rw[BW x c cs t.2]
   cases rO x t.2 cs with
   |none=>rfl
   |some r =>
    simp only[Option.bind_some,abP]
    cases aX x (some r.2) c with
    |none=>rfl
    |some t=>simp[aaN]
def j7:List aT->List aT->wo
 |[],v=>some ([],v)
 |a::u,[]=>some (a::u,[])
 |a::u,b::v=>if a=b then j7 u v else none
theorem LD(u:List aT):j7 u []=some (u,[]):=by cases u<;>rfl
theorem Hx(p q:List aT)(hp:p.length<=1)(hq:q.length<=1):∀(u v:List aT),j7 (u++p) (v++q)=(j7 u v).bind λr=>ql (r.1++p) (r.2++q)
 |[],v=>by
  show j7 p (v++q)=ql p (v++q)
  match p,v++q,hp with
  |[],w,_=>rfl
  |[a],[],_=>rfl
  |[a],b::w,_=>rfl
 |a::u,[]=>by
  show j7 ((a::u)++p) q=ql ((a::u)++p) q
  match q,hq with
  |[],_=>rfl
  |[b],_ =>
   show(if a=b then j7 (u++p) [] else none)=(if a=b then some (u++p,[]) else none)
   rw[LD]
 |a::u,b::v=>by
  show(if a=b then j7 (u++p) (v++q) else none)=(if a=b then j7 u v else none).bind _
  by_cases h:a=b
  ·rw[aaj h,aaj h,Hx p q hp hq u v]
  ·rw[aai h,aai h];rfl
theorem LF:∀{u v:List aT},j7 u v=some ([],[])↔u=v
 |[],v=>by
  show some (([]:List aT),v)=some ([],[])↔_
  constructor
  ·intro h;injection h with h;injection h with _ h;exact h.symm
  ·rintro rfl;rfl
 |a::u,[]=>⟨(λh=>nomatch h),(λh=>nomatch h)⟩
 |a::u,b::v=>by
  show(if a=b then j7 u v else none)=_↔_
  by_cases h:a=b
  ·rw[aaj h,LF]
   exact⟨λe=>by rw[h,e],λe=>by injection e⟩
  ·rw[aai h]
   exact⟨(λe=>nomatch e),λe=>absurd (by injection e) h⟩
def NP:Option (List aT×aT)->Option (List aT×aT)->Option cH
 |none,none=>none
 |some a,none=>some ((some a.2,none),none)
 |none,some b=>some ((none,some b.2),none)
 |some a,some b=>some ((some a.2,some b.2),j7 a.1 b.1)
def Hy(x y:bu)(cs:List Nat):Option cH:=NP (rO x cI cs) (rO y cI cs)
theorem D0(x y:bu)(cs:List Nat)(c:Nat):Hy x y (cs++[c])=(Hy x y cs).bind λm=>iD x y m c:=by
 unfold Hy
 rw[BW,BW]
 generalize rO x cI cs=A
 generalize rO y cI cs=B
 have bt:∀m,iD x y m c=(if aX x m.1.1 c=none/\aX y m.1.2 c=none then none else some ((tP (aX x m.1.1 c),tP (aX y m.1.2 c)),j6 m.2 (aX x m.1.1 c) (aX y m.1.2 c) c)):=λm=>rfl
 cases A with
 |none =>
  cases B with
  |none=>rfl
  |some b =>
   show NP none ((aX y (some b.2) c).map λt=>(b.1++bB t.1 c,t.2))=iD x y ((none,some b.2),none) c
   rw[bt]
   show _=(if (none:Ls)=none/\aX y (some b.2) c=none then none else some ((none,tP (aX y (some b.2) c)),none))
   cases aX y (some b.2) c with
   |none=>rw[aaj ⟨rfl,rfl⟩];rfl
   |some t=>rw[aai (λz=>nomatch z.2)];rfl
 |some a =>
  cases B with
  |none =>
   show NP ((aX x (some a.2) c).map λt=>(a.1++bB t.1 c,t.2)) none=iD x y ((some a.2,none),none) c
   rw[bt]
   show _=(if aX x (some a.2) c=none/\(none:Ls)=none then none else some ((tP (aX x (some a.2) c),none),none))
   cases aX x (some a.2) c with
   |none=>rw[aaj ⟨rfl,rfl⟩];rfl
   |some t=>rw[aai (λz=>nomatch z.1)];rfl
  |some b =>
   show NP ((aX x (some a.2) c).map λt=>(a.1++bB t.1 c,t.2)) ((aX y (some b.2) c).map λt=>(b.1++bB t.1 c,t.2))=iD x y ((some a.2,some b.2),j7 a.1 b.1) c
   rw[bt]
   show _=(if aX x (some a.2) c=none/\aX y (some b.2) c=none then none else some ((tP (aX x (some a.2) c),tP (aX y (some b.2) c)),j6 (j7 a.1 b.1) (aX x (some a.2) c) (aX y (some b.2) c) c))
   cases aX x (some a.2) c with
   |none =>
    cases aX y (some b.2) c with
    |none=>rw[aaj ⟨rfl,rfl⟩];rfl
    |some t=>rw[aai (λz=>nomatch z.2)];cases j7 a.1 b.1<;>rfl
   |some s =>
    rw[aai (λz=>nomatch z.1)]
    cases aX y (some b.2) c with
    |none=>cases j7 a.1 b.1<;>rfl
    |some t =>
     show some ((some s.2,some t.2),j7 (a.1++bB s.1 c) (b.1++bB t.1 c))=some ((some s.2,some t.2),j6 (j7 a.1 b.1) (some (s.1,s.2)) (some (t.1,t.2)) c)
     rw[Hx _ _ (bY _ _) (bY _ _)]
     cases j7 a.1 b.1 with
     |none=>rfl
     |some r=>rfl
theorem Hz(x y:bu):Hy x y []=some pT:=by
 rfl
theorem yG{x y:bu}{z:Str}{cs:List Nat}{m:cH}(h:WalkG (bO x y z) pT cs m):(∀c∈cs,c∈z.cps.toList)/\Hy x y cs=some m:=by
 induction h with
 |nil=>exact⟨(λ_ h=>nomatch h),Hz x y⟩
 |@snoc xs p q c _ he ih =>
  unfold bO at he
  obtain⟨d,hd,e⟩:=aaU.mp he
  refine⟨λe' he'=>?_,?_⟩
  ·rcases aaC.mp he' with q|q
   ·exact ih.1 e' q
   ·rw[aat.mp q]
    cases hb:iD x y p d with
    |none=>rw[hb]at e;cases e
    |some m2=>rw[hb]at e;cases e;exact hd
  ·rw[D0,ih.2]
   cases hb:iD x y p d with
   |none=>rw[hb]at e;cases e
   |some m2=>rw[hb]at e;cases e;exact hb
theorem D3{x y:bu}{z:Str}:∀(n:Nat)(cs:List Nat)(m:cH),cs.length=n->(∀c∈cs,c∈z.cps.toList)->Hy x y cs=some m->WalkG (bO x y z) pT cs m:=by
 intro n
 induction n with
 |zero =>
  intro cs m hl _ h
  have e:=List.length_eq_zero_iff.mp hl
  subst e
  rw[Hz]at h
  cases h
  exact .nil
 |succ n ih =>
  intro cs m hl hz h
  rcases List.eq_nil_or_concat cs with e|⟨xs,c,e⟩
  ·rw[e]at hl;cases hl
  ·rw[List.concat_eq_append]at e
   subst e
   rw[D0]at h
   rw[aao]at hl
   cases hp:Hy x y xs with
   |none=>rw[hp]at h;cases h
   |some p =>
    rw[hp]at h
    have h:iD x y p c=some m:=h
    refine .snoc (ih xs p (by simpa using hl) (λd hd=>hz d (aaV _ hd)) hp) ?_
    unfold bO
    exact aaU.mpr ⟨c,hz c (aaI _ (aat.mpr rfl)),by rw[h];rfl⟩
def bP(x:bu)(cs:List Nat):Option (List aT):=match rO x cI cs with
 |some r=>if r.2=cI then some r.1 else none
 |none=>none
theorem yH{x y:bu}{cs:List Nat}{m:cH}(h:Hy x y cs=some m):bT m=!decide (bP x cs=bP y cs):=by
 unfold Hy at h
 unfold bP
 generalize rO x cI cs=A at h⊢
 generalize rO y cI cs=B at h⊢
 have ss:∀s:aT,(some s=ff)↔s=cI:=λs=>⟨λe=>aax e,λe=>congrArg some e⟩
 cases A with
 |none =>
  cases B with
  |none=>cases h
  |some b =>
   cases h
   unfold bT
   rw[aai (λz=>by injection z with z _;cases z)]
   show(decide ((none:Option aT)=ff)||decide (some b.2=ff))=!decide (none=if b.2=cI then some b.1 else none)
   by_cases h:b.2=cI
   ·rw[aaj h,aas ((ss _).mpr h),aak (λz=>nomatch z),aak (λz=>nomatch z)];rfl
   ·rw[aai h,aak (λz=>h ((ss _).mp z)),aak (λz=>nomatch z),aas rfl];rfl
 |some a =>
  cases B with
  |none =>
   cases h
   unfold bT
   rw[aai (λz=>by injection z with _ z;cases z)]
   show(decide (some a.2=ff)||decide ((none:Option aT)=ff))=!decide ((if a.2=cI then some a.1 else none)=none)
   by_cases h:a.2=cI
   ·rw[aaj h,aas ((ss _).mpr h),aak (λz=>nomatch z)];rfl
   ·rw[aai h,aak (λz=>h ((ss _).mp z)),aak (λz=>nomatch z),aas rfl];rfl
  |some b =>
   cases h
   unfold bT
   show(if (some a.2,some b.2)=(ff,ff) then !decide (j7 a.1 b.1=some ([],[])) else (decide (some a.2=ff)||decide (some b.2=ff)))=!decide ((if a.2=cI then some a.1 else none)=(if b.2=cI then some b.1 else none))
   by_cases h1:a.2=cI
   ·by_cases h2:b.2=cI
    ·rw[aaj (by rw[(ss _).mpr h1,(ss _).mpr h2]),aaj h1,aaj h2]
     congr 1
     rw[aaL,aaD,aaD,LF]
     exact⟨λe=>by rw[e],λe=>aax e⟩
    ·rw[aai (λz=>h2 ((ss _).mp (by injection z))),aaj h1,aai h2,aas ((ss _).mpr h1),aak (p:=(some a.1:Option (List aT))=none) (λz=>nomatch z),Bool.true_or];rfl
   ·rw[aai (λz=>h1 ((ss _).mp (by injection z))),aai h1,aak (λz=>h1 ((ss _).mp z))]
    by_cases h2:b.2=cI
    ·rw[aaj h2,aas ((ss _).mpr h2),aak (λz=>nomatch z)];rfl
    ·rw[aai h2,aak (λz=>h2 ((ss _).mp z)),aas rfl];rfl
theorem D4{x y:bu}{cs:List Nat}(h:Hy x y cs=none):bP x cs=bP y cs:=by
 unfold Hy at h
 unfold bP
 generalize rO x cI cs=A at h⊢
 generalize rO y cI cs=B at h⊢
 cases A with
 |none =>
  cases B with
  |none=>rfl
  |some b=>cases h
 |some a=>cases B<;>cases h
theorem LG{x y:bu}{z:Str}{m:cH}{cm:dO cH}{aF:List cH}{k:Nat}{xs:List Nat}(hE:DR bT (bO x y z) none pT (some m) cm aF k)(hw:WalkG (bO x y z) pT xs m)(hl:xs.length=k):bP x xs≠bP y xs/\∀ys,(∀c∈ys,c∈z.cps.toList)->bP x ys≠bP y ys->k<=ys.length:=by
 have hg:bT m=true:=List.find?_some hE.res.symm
 refine⟨λe=>?_,λys hz hne=>?_⟩
 ·rw[yH (yG hw).2,aas e]at hg;cases hg
 ·cases hp:Hy x y ys with
  |none=>exact absurd (D4 hp) hne
  |some m' =>
   refine Nat.le_of_not_lt λhlt=>?_
   have:=hE.cP.less ys m' (D3 _ ys m' rfl hz hp) hlt
   rw[yH hp,aak hne]at this
   cases this
theorem end_none{x y:bu}{z:Str}{cm:dO cH}{aF:List cH}{k:Nat}(hE:DR bT (bO x y z) none pT none cm aF k){ys:List Nat}{m:cH}(hw:WalkG (bO x y z) pT ys m):bG cm m=true/\bT m=false:=by
 have he:aF=[]:=(hE.why rfl).resolve_right (λ⟨n,e,_⟩=>nomatch e)
 have h0:∀p,p∉aF:=λp hp=>by rw[he]at hp;cases hp
 have hc:bG cm m=true:=by
  induction hw with
  |nil=>exact hE.cP.all [] pT .nil (aaM _)
  |snoc _ hx ih=>exact hE.cP.shut _ ih (h0 _) _ hx
 exact⟨hc,hE.cP.bad m hc (h0 m)⟩
theorem cmp_none{x y:bu}{z:Str}{cm:dO cH}{aF:List cH}{k:Nat}(hE:DR bT (bO x y z) none pT none cm aF k){ys:List Nat}(hz:∀c∈ys,c∈z.cps.toList):bP x ys=bP y ys:=by
 cases hp:Hy x y ys with
 |none=>exact D4 hp
 |some m =>
  have:=(end_none hE (D3 _ ys m rfl hz hp)).2
  rw[yH hp]at this
  simpa using this
section
variable{M:Type}[DecidableEq M]{good:M->Bool}{led:M->List (Nat×M)}{Ok:M->Prop}{B:Nat}{U:List M}{a:M}
theorem LH{p:M}{cm:dO M}{acc:dO M×List M}{e:Nat×M}(h:∀m,bG acc.1 m=true->bG cm m=true\/m∈acc.2):∀m,bG (cV p acc e).1 m=true->bG cm m=true\/m∈(cV p acc e).2:=by
 intro m hm
 unfold cV at hm⊢
 by_cases q:bG acc.1 e.2=true
 ·rw[aaj q]at hm⊢;exact h m hm
 ·rw[aai q]at hm⊢
  have hm:bG (acc.1++[(e.2,some (p,e.1))]) m=true:=hm
  rw[kL,Bool.or_eq_true]at hm
  rcases hm with z|z
  ·exact(h m z).imp id (λy=>aaV _ y)
  ·rw[gn.mp z];exact .inr (aaI _ (aat.mpr rfl))
theorem AR{p:M}{cm:dO M}:∀{es:List (Nat×M)}{acc:dO M×List M},(∀m,bG acc.1 m=true->bG cm m=true\/m∈acc.2)->∀m,bG (es.foldl (cV p) acc).1 m=true->bG cm m=true\/m∈(es.foldl (cV p) acc).2
 |[],_,h=>h
 |e::es,acc,h=>by rw[aaQ];exact AR (LH h)
theorem AS{cm:dO M}:∀{ms:List M}{acc:dO M×List M},(∀m,bG acc.1 m=true->bG cm m=true\/m∈acc.2)->∀m,bG (ms.foldl (gS led) acc).1 m=true->bG cm m=true\/m∈(ms.foldl (gS led) acc).2
 |[],_,h=>h
 |m::ms,acc,h=>by rw[aaQ];exact AS (AR h)
theorem AU{p:M}:∀{es:List (Nat×M)}{acc:dO M×List M},(es.foldl (cV p) acc).2.length<=acc.2.length+es.length
 |[],_=>aan _
 |e::es,acc=>by
  rw[aaQ]
  refine aaq AU ?_
  have:(cV p acc e).2.length<=acc.2.length+1:=by
   unfold cV
   split
   ·omega
   ·rw[aao];exact aan _
  rw[aaF];omega
theorem uG{n:Nat}(hl:∀m,(led m).length<=n):∀{ms:List M}{acc:dO M×List M},(ms.foldl (gS led) acc).2.length<=acc.2.length+n*ms.length
 |[],_=>aan _
 |m::ms,acc=>by
  rw[aaQ]
  refine aaq (uG hl) ?_
  have:(gS led acc m).2.length<=acc.2.length+n:=aaq AU (Nat.add_le_add_left (hl m) _)
  rw[aaF,Nat.mul_succ];omega
def BX(B:Nat):Nat->Nat->Nat->Prop
 | 0,c,_=>c<=17*B
 |r+1,c,e=>c<=B/\BX B r (c+17*e) (17*e)
theorem BX.less{B:Nat}:∀{r c e c' e':Nat},BX B r c e->c'<=c->e'<=e->BX B r c' e'
 | 0,c,e,c',e',h,hc,_=>aaq hc h
 |r+1,c,e,c',e',h,hc,he=>⟨aaq hc h.1,BX.less h.2 (by omega) (by omega)⟩
theorem BX.all{B:Nat}{r c e:Nat}(h:BX B r c e):c<=17*B:=by
 cases r with
 |zero=>exact h
 |succ r=>have:=h.1;omega
theorem D5{b m:M}{xs ys:List Nat}(h:WalkG led a xs b)(w:WalkG led b ys m):WalkG led a (xs++ys) m:=by
 induction w with
 |nil=>rw[aaH];exact h
 |snoc _ he ih=>rw[←aaN];exact .snoc ih he
theorem IJ(hl:∀m,(led m).length<=17){J:Nat->M->Prop}(hJ:∀j m,J j m->∀e∈led m,J (j+1) e.2)(RS:∀j m,j<=1000->J j m->Ok m):∀(r:Nat)(cm:dO M)(aF:List M)(k j:Nat),wz good led a cm aF k->(∃ys m,WalkG led a ys m/\ys.length<=k+r/\good m=true)->aF.length<=cm.length->BX B r cm.length aF.length->(∀m∈aF,J j m)->j+r<=1000->rN good led Ok B r cm aF:=by
 intro r
 induction r with
 |zero =>
  intro cm aF k j L ⟨ys,m,hw,hy,hg⟩ hf hB hj hjr
  refine⟨⟨hB,hf,λm hm=>RS j m (by omega) (hj m hm)⟩,.inr ?_⟩
  have hm:=L.all ys m hw hy
  have he:m∈aF:=aa0 λq=>by rw[L.bad m hm q]at hg;cases hg
  cases e:aF.find? good with
  |some _=>rfl
  |none=>exact absurd hg (List.find?_eq_none.mp e m he)
 |succ r ih =>
  intro cm aF k j L ⟨ys,m,hw,hy,hg⟩ hf hB hj hjr
  refine⟨⟨hB.all,hf,λm hm=>RS j m (by omega) (hj m hm)⟩,?_⟩
  by_cases h0:aF=[]
  ·exact .inl h0
  cases e:aF.find? good with
  |some _=>exact .inr (.inl rfl)
  |none =>
   have q:=kK (led:=led) aF (cm,[])
   simp only[abj,Nat.add_zero]at q
   have f:(br led cm aF).2.length<=0+17*aF.length:=uG hl
   refine .inr (.inr ⟨hB.1,ih _ _ (k+1) (j+1) (L.go e) ⟨ys,m,hw,by omega,hg⟩ (by unfold br;omega) (hB.2.less (by unfold br at f⊢;omega) (by omega)) ?_ (by omega)⟩)
   intro m' hm'
   obtain⟨⟨x,xs,_,h2,h3,h4⟩,_⟩:=(L.go e).QA m' hm'
   have key:∀{ms:List M}{acc:dO M×List M},(∀m∈ms,m∈aF)->(∀m∈acc.2,J (j+1) m)->∀m∈(ms.foldl (gS led) acc).2,J (j+1) m:=λ{ms}=>by
    induction ms with
    |nil=>intro acc _ h;exact h
    |cons p ms W4 =>
     intro acc hm h
     rw[aaQ]
     refine W4 (λm z=>hm m (aay _ z)) ?_
     have hp:=hj p (hm p (aaE ..))
     have QH:∀{es:List (Nat×M)}{acc:dO M×List M},(∀e∈es,e∈led p)->(∀m∈acc.2,J (j+1) m)->∀m∈(es.foldl (cV p) acc).2,J (j+1) m:=λ{es}=>by
      induction es with
      |nil=>intro acc _ h;exact h
      |cons e es W5 =>
       intro acc hm h
       rw[aaQ]
       refine W5 (λm z=>hm m (aay _ z)) ?_
       unfold cV
       split
       ·exact h
       ·intro m hm2
        rcases aaC.mp hm2 with z|z
        ·exact h m z
        ·rw[aat.mp z];exact hJ j p hp e (hm e (aaE ..))
     exact QH (λe z=>z) h
   exact key (ms:=aF) (acc:=(cm,[])) (λm z=>z) (λ_ z=>nomatch z) m' hm'
theorem IK(hl:∀m,(led m).length<=17){J:Nat->M->Prop}(hJ:∀j m,J j m->∀e∈led m,J (j+1) e.2)(RS:∀j m,j<=1000->J j m->Ok m){ev:M->Prop}(hev:∀m,ev m->J 0 m)(hU:∀ys m,WalkG led a ys m->ev m->m∈U)(hS:∀ys m,WalkG led a ys m->¬ev m->∃cs m',WalkG led m cs m'/\cs.length<=3/\good m'=true)(Z3:U.length<=121)(hB:BX B 3 (121+17*121) (17*121)):∀(n:Nat)(cm:dO M)(aF:List M)(k:Nat),wz good led a cm aF k->(cm.map (·.1)).Nodup->(∀m,bG cm m=true->ev m)->aF.length<=cm.length->2*(U.length-cm.length)+(if aF=[] then 0 else 1)<=n->∃n',n'<=n+4/\rN good led Ok B n' cm aF:=by
 have hc:∀{cm:dO M}{aF:List M}{k:Nat},wz good led a cm aF k->(cm.map (·.1)).Nodup->(∀m,bG cm m=true->ev m)->cm.length<=U.length:=λ{cm aF k} L nd hv=>by
  have:=List.Nodup.length_le_of_subset nd (l₂:=U) (λm hm=>by
   have hm:=rG.mpr hm
   obtain⟨n,_,v,xs,_,_,w,_⟩:=L.told m hm
   exact hU _ m w (hv m hm))
  rw[aav]at this
  exact this
 have hB1:=hB.1
 intro n
 induction n with
 |zero =>
  intro cm aF k L nd hv hf hn
  have:=hc L nd hv
  refine⟨0,by omega,⟨by omega,hf,λm hm=>RS 0 m (by decide) (hev m (hv m (L.QA m hm).2))⟩,.inl ?_⟩
  by_cases h:aF=[]
  ·exact h
  ·rw[aai h]at hn;omega
 |succ n ih =>
  intro cm aF k L nd hv hf hn
  have hcl:=hc L nd hv
  have hok:∀m∈aF,Ok m:=λm hm=>RS 0 m (by decide) (hev m (hv m (L.QA m hm).2))
  by_cases h0:aF=[]
  ·exact⟨0,by omega,⟨by omega,hf,hok⟩,.inl h0⟩
  cases e:aF.find? good with
  |some _=>exact⟨0,by omega,⟨by omega,hf,hok⟩,.inr (by rw[e];rfl)⟩
  |none =>
   have q:=kK (led:=led) aF (cm,[])
   simp only[abj,Nat.add_zero]at q
   have f:(br led cm aF).2.length<=0+17*aF.length:=uG hl
   have L':=L.go e
   have old:=AS (led:=led) (cm:=cm) (ms:=aF) (acc:=(cm,[])) (λm hm=>.inl hm)
   by_cases hall:∀m∈(br led cm aF).2,ev m
   ·have hv':∀m,bG (br led cm aF).1 m=true->ev m:=λm hm=>(old m hm).elim (hv m) (hall m)
    have Ug:=yC (led:=led) (ms:=aF) (acc:=(cm,[])) nd
    have W6:=hc L' Ug hv'
    rw[aai h0]at hn
    obtain⟨n',hn',hE⟩:=ih _ _ (k+1) L' Ug hv' (by unfold br;omega) (by
     unfold br at W6⊢
     by_cases h':(aF.foldl (gS led) (cm,[])).2=[]
     ·rw[aaj h'];rw[h',abj]at q;omega
     ·rw[aai h']
      have:=List.length_pos_iff.mpr h'
      omega)
    exact⟨n'+1,by omega,⟨by omega,hf,hok⟩,.inr (.inr ⟨by omega,hE⟩)⟩
   ·obtain⟨m,hm,ho⟩:∃m,m∈(br led cm aF).2/\¬ev m:=by
     refine aa0 λz=>hall λm hm=>aa0 λy=>z ⟨m,hm,y⟩
    obtain⟨⟨x,xs,_,_,w,hx⟩,_⟩:=L'.QA m hm
    obtain⟨cs,m',w',hcs,hg⟩:=hS _ m w ho
    have hj1:∀m∈(br led cm aF).2,J 1 m:=by
     have key:∀{ms:List M}{acc:dO M×List M},(∀m∈ms,m∈aF)->(∀m∈acc.2,J 1 m)->∀m∈(ms.foldl (gS led) acc).2,J 1 m:=λ{ms}=>by
      induction ms with
      |nil=>intro acc _ h;exact h
      |cons p ms W4 =>
       intro acc hm h
       rw[aaQ]
       refine W4 (λm z=>hm m (aay _ z)) ?_
       have hp:=hev p (hv p (L.QA p (hm p (aaE ..))).2)
       have QH:∀{es:List (Nat×M)}{acc:dO M×List M},(∀e∈es,e∈led p)->(∀m∈acc.2,J 1 m)->∀m∈(es.foldl (cV p) acc).2,J 1 m:=λ{es}=>by
        induction es with
        |nil=>intro acc _ h;exact h
        |cons e es W5 =>
         intro acc hm h
         rw[aaQ]
         refine W5 (λm z=>hm m (aay _ z)) ?_
         unfold cV
         split
         ·exact h
         ·intro m hm2
          rcases aaC.mp hm2 with z|z
          ·exact h m z
          ·rw[aat.mp z];exact hJ 0 p hp e (hm e (aaE ..))
       exact QH (λe z=>z) h
     exact key (ms:=aF) (acc:=(cm,[])) (λm z=>z) (λ_ z=>nomatch z)
    have hE:=IJ (good:=good) (Ok:=Ok) (B:=B) hl hJ RS 3 _ _ (k+1) 1 L' ⟨_,m',D5 w w',by rw[aao,abV];omega,hg⟩ (by unfold br;omega) (hB.less (by unfold br at f⊢;omega) (by omega)) hj1 (by decide)
    exact⟨3+1,by omega,⟨by omega,hf,hok⟩,.inr (.inr ⟨by omega,hE⟩)⟩
end
theorem IL{x y:bu}(gx:gm x)(gy:gm y):(lF x y).length<=17:=by
 have h7:∀c:bu,gm c->(bf c).length<=7:=λc g=>by
  have hp3:=g.p3;have hq2:=g.q2;have hf2:=g.f2
  unfold bf;rw[aU,aU];omega
 have RQ:∀z∈[bf x,bf y].map bF,z.length<=7:=λz hz=>by
  obtain⟨c,hc,rfl⟩:=aaY.mp hz
  refine aaq (gR c) ?_
  rcases aaB.mp hc with e|e
  ·rw[e];exact h7 x gx
  ·rw[aat.mp e];exact h7 y gy
 have hj:(Txt.join ("":Str) ([bf x,bf y].map bF)).length<=14:=by
  have:=Fj RQ
  rw[←join_list,aav,aap]at this
  exact this
 unfold lF qk
 generalize Txt.join ("":Str) ([bf x,bf y].map bF)=J at hj⊢
 refine aaq (gR _) ?_
 have l1:(Str.ofString "\n").length=1:=by decide +kernel
 have l2:(" ":Str).length=1:=by decide +kernel
 have hd:∀B,(zD B 1).length<=1:=λB=>by
  show(zC B dj 1).toArray.size<=1
  rw[aam];exact rF _ _ _
 have:=hd ((J++Str.ofString "\n")++Str.ofString " ")
 rw[aU,aU,aU];omega
def JT(j:Nat)(m:cH):Prop:=∀u v,m.2=some (u,v)->u.length<=j/\v.length<=j
theorem NQ{u v u' v':List aT}{j:Nat}(h:ql u v=some (u',v'))(hu:u.length<=j)(hv:v.length<=j):u'.length<=j/\v'.length<=j:=by
 obtain⟨C,e1,e2⟩:=uF h
 rw[e1,aao]at hu
 rw[e2,aao]at hv
 omega
theorem NR{x y:bu}{z:Str}(j:Nat)(m:cH)(h:JT j m)(e:Nat×cH)(he:e∈bO x y z m):JT (j+1) e.2:=by
 unfold bO at he
 obtain⟨c,hc,q⟩:=aaU.mp he
 cases hb:iD x y m c with
 |none=>rw[hb]at q;cases q
 |some m' =>
  rw[hb]at q
  cases q
  unfold iD at hb
  by_cases hn:aX x m.1.1 c=none/\aX y m.1.2 c=none
  ·rw[aaj hn]at hb;cases hb
  rw[aai hn]at hb
  cases hb
  intro u v e
  have e:j6 m.2 (aX x m.1.1 c) (aX y m.1.2 c) c=some (u,v):=e
  cases hm:m.2 with
  |none=>rw[hm]at e;cases e
  |some r =>
   obtain⟨a,b⟩:=r
   obtain⟨h1,h2⟩:=h a b hm
   rw[hm]at e
   cases ha:aX x m.1.1 c with
   |none=>rw[ha]at e;cases e
   |some s =>
    cases hb2:aX y m.1.2 c with
    |none=>rw[ha,hb2]at e;cases e
    |some t =>
     rw[ha,hb2]at e
     have e:ql (a++bB s.1 c) (b++bB t.1 c)=some (u,v):=e
     have p1:=bY s.1 c
     have p2:=bY t.1 c
     exact NQ e (by rw[aao];omega) (by rw[aao];omega)
theorem NS{x y:bu}(gx:gm x)(gy:gm y):∃n,n<=1000/\rN bT (bO x y (lF x y)) Vy 700000 n [(pT,none)] [pT]:=by
 have hz:=Hw gx gy
 obtain⟨U,hU⟩:∃U:List cH,U=(Jr x.2.1).flatMap λs=>(Jr y.2.1).map λt=>(((some s,some t),some ([],[])):cH):=⟨_,rfl⟩
 have Z3:U.length<=121:=by
  have h1:=rE gx
  have h2:=rE gy
  have key:∀l:List aT,(l.flatMap λs=>(Jr y.2.1).map λt=>(((some s,some t),some ([],[])):cH)).length=l.length*(Jr y.2.1).length:=λl=>by
   induction l with
   |nil=>rw[abU,abj,abj,Nat.zero_mul]
   |cons a l ih=>rw[aaO,aao,aav,ih,aaF,Nat.succ_mul];omega
  rw[hU,key]
  exact aaq (Nat.mul_le_mul h1 h2) (by decide)
 have hM:∃n',n'<=(2*(U.length-[((pT,none):cH×Option (cH×Nat))].length)+(if [pT]=([]:List cH) then 0 else 1))+4/\rN bT (bO x y (lF x y)) Vy 700000 n' [(pT,none)] [pT]:=by
  refine IK (U:=U) (λm=>aaq AO (IL gx gy)) (J:=JT) (λj m h e he=>NR j m h e he) (λj m hj h u v e=>?_) (ev:=λm=>m.2=some ([],[])) (λm hm u v e=>?_) (λys m w hm=>?_) (λys m w ho=>DZ gx gy hz (BV w) ho) Z3 ⟨by decide,by decide,by decide,by show _<=_;decide⟩ _ _ _ 0 wz.zero (by simp) (λm hm=>?_) (by simp) (aan _)
  ·have:=h u v e;omega
  ·rw[hm]at e;cases e;exact⟨aan _,aan _⟩
  ·have L:=BV w
   obtain⟨⟨o1,o2⟩,mo⟩:=m
   have hm:mo=some ([],[]):=hm
   subst hm
   rcases L.Vz with z|⟨u,v,_,_,n1,n2⟩
   ·cases z
   ·cases o1 with
    |none=>exact absurd rfl n1
    |some s =>
     cases o2 with
     |none=>exact absurd rfl n2
     |some t=>exact hU▸abx.mpr ⟨s,yq (L.s1 s rfl).1,aaY.mpr ⟨t,yq (L.s2 t rfl).1,rfl⟩⟩
  ·rw[gn.mp hm];rfl
 obtain⟨n',h1,h2⟩:=hM
 refine⟨n',?_,h2⟩
 rw[aai (by simp),abf]at h1
 omega
def wA(x:bu)(s:aT):Prop:=(s.2=Str.ofString ""/\(s.1=Str.ofString "row"\/s.1=Str.ofString "cell"\/s.1=Str.ofString "plain"\/s.1=Str.ofString "behind"\/s.1=("freed":Str)))\/∃d,d∈x.2.1.cps.toList/\fG d x.2.2.1=false/\s.2=sg d/\(s.1=Str.ofString "within"\/s.1=Str.ofString "doubt"\/s.1=("freed":Str))
theorem wA.st{x:bu}{s:aT}(h:wA x s):gQ x.2.1 s.1 s.2:=h.imp id λ⟨d,h1,_,h3⟩=>⟨d,h1,h3⟩
theorem wA.live{x:bu}{s:aT}(h:wA x s):cD x.2.2.1 s.1 s.2=true:=by
 rcases h with ⟨e,_⟩|⟨d,_,h2,e,_⟩
 ·rw[e];exact rS _ _
 ·rw[e];exact xP h2
theorem rV(x:bu):wA x cI:=.inl ⟨rfl,.inl rfl⟩
theorem LI{c:Nat}{z:Str}(h:fG c z=true):c∈z.cps.toList:=by
 have e:fG c z=decide (c∈z.cps.toList):=abp z c
 rw[e]at h;exact aa5 h
theorem Fv{c:Nat}{z:Str}(h:c∉z.cps.toList):fG c z=false:=by
 have e:fG c z=decide (c∈z.cps.toList):=abp z c
 rw[e];exact aak h
theorem yI{x:bu}{w u k w' u':Str}{c:Nat}(h:wA x (w,u))(hs:aQ x.1 x.2.1 x.2.2.1 x.2.2.2.a x.2.2.2.b x.2.2.2.c x.2.2.2.d w u c=.go k w' u'):wA x (w',u'):=by
 have em:∀{w:Str},(w=Str.ofString "row"\/w=Str.ofString "cell"\/w=Str.ofString "plain"\/w=Str.ofString "behind"\/w=("freed":Str))->wA x (w,("":Str)):=λh=>.inl ⟨rfl,h⟩
 have hB:∀{k w' u'},bq x.1 x.2.2.2.c c=.go k w' u'->wA x (w',u'):=λ{k w' u'} h=>by
  unfold bq at h
  repeat' split at h
  all_goals first
   | (cases h;done)
   | (cases h;exact em (.inl rfl))
   | (cases h;exact em (.inr (.inl rfl)))
   | (cases h;exact em (.inr (.inr (.inr (.inl rfl)))))
 have hO:∀{w k w' u'},(w=Str.ofString "row"\/w=("cell":Str))->cB x.1 x.2.1 x.2.2.1 x.2.2.2.c w ("":Str) c=.go k w' u'->wA x (w',u'):=λ{w k w' u'} hw h=>by
  unfold cB at h
  by_cases h1:fG c x.2.2.1=true
  ·rw[aaj h1]at h;cases h;exact em (.inr (.inr (.inr (.inr rfl))))
  rw[aai h1]at h
  by_cases h2:aY (sg c) (Str.ofString "\n")=true
  ·rw[aaj h2]at h;cases h;exact em (.inl rfl)
  rw[aai h2]at h
  by_cases h3:fG c x.2.1=true
  ·rw[aaj h3]at h;cases h;exact .inr ⟨c,LI h3,rA h1,rfl,.inl rfl⟩
  rw[aai h3]at h
  repeat' split at h
  all_goals first
   | (cases h;exact em (.inr (.inl rfl)))
   | (cases h;exact em (.inr (.inr (.inl rfl))))
   | (cases h;rcases hw with rfl|rfl;exact em (.inl rfl);exact em (.inr (.inl rfl)))
 rcases h with ⟨e,hw⟩|⟨d,hd,hf,e,hw⟩
 ·have e:u=("":Str):=e
  subst e
  have hw:w=Str.ofString "row"\/w=Str.ofString "cell"\/w=Str.ofString "plain"\/w=Str.ofString "behind"\/w=("freed":Str):=hw
  rcases hw with rfl|rfl|rfl|rfl|rfl
  ·rw[d8 (by decide +kernel) (by decide +kernel) (by decide +kernel) (by decide +kernel)]at hs
   unfold fX at hs
   rw[aai (ns (by decide +kernel))]at hs
   exact hO (.inl rfl) hs
  ·rw[d8 (by decide +kernel) (by decide +kernel) (by decide +kernel) (by decide +kernel)]at hs
   unfold fX at hs
   rw[aai (ns (by decide +kernel))]at hs
   exact hO (.inr rfl) hs
  ·rw[jd (aA _)]at hs
   unfold cY at hs
   repeat' split at hs
   all_goals first
    | (cases hs;done)
    | (cases hs;exact em (.inl rfl))
    | (cases hs;exact em (.inr (.inl rfl)))
    | (cases hs;exact em (.inr (.inr (.inl rfl))))
    | (cases hs;exact em (.inr (.inr (.inr (.inr rfl)))))
  ·rw[fY (aA _)]at hs
   exact hB hs
  ·rw[cZ (aA _)]at hs
   unfold dD cQ at hs
   rw[aaj (aA _)]at hs
   repeat' split at hs
   all_goals first
    | (cases hs;done)
    | (cases hs;exact em (.inr (.inr (.inl rfl))))
 ·have e:u=sg d:=e
  subst e
  have qw:∀{w:Str},(w=Str.ofString "within"\/w=Str.ofString "doubt"\/w=("freed":Str))->wA x (w,sg d):=λh=>.inr ⟨d,hd,hf,rfl,h⟩
  have hw:w=Str.ofString "within"\/w=Str.ofString "doubt"\/w=("freed":Str):=hw
  rcases hw with rfl|rfl|rfl
  ·rw[eV (aA _)]at hs
   unfold cg at hs
   repeat' split at hs
   all_goals first
    | (cases hs;done)
    | (cases hs;exact qw (.inl rfl))
    | (cases hs;exact qw (.inr (.inl rfl)))
    | (cases hs;exact qw (.inr (.inr rfl)))
    | (cases hs;exact em (.inr (.inr (.inr (.inl rfl)))))
  ·rw[g5 (aA _)]at hs
   unfold gj at hs
   split at hs
   ·cases hs;exact qw (.inl rfl)
   ·exact hB hs
  ·rw[cZ (aA _)]at hs
   unfold dD cQ at hs
   rw[aai (ym d)]at hs
   repeat' split at hs
   all_goals first
    | (cases hs;done)
    | (cases hs;exact qw (.inl rfl))
theorem xR{x:bu}{s:aT}(h:wA x s)(c:Nat):aX x (some s) c=match aQ x.1 x.2.1 x.2.2.1 x.2.2.2.a x.2.2.2.b x.2.2.2.c x.2.2.2.d s.1 s.2 c with
  | .kj _=>none
  | .go k w u=>some (k,(w,u)):=by
 show bX x.1 x.2.1 x.2.2.1 x.2.2.2.a x.2.2.2.b x.2.2.2.c x.2.2.2.d s.1 s.2 c=_
 unfold bX
 cases e:aQ x.1 x.2.1 x.2.2.1 x.2.2.2.a x.2.2.2.b x.2.2.2.c x.2.2.2.d s.1 s.2 c with
 |kj e=>rfl
 |go k w u=>exact aaj (yI (w:=s.1) (u:=s.2) h e).live
theorem Fw{x:bu}{s t:aT}{k:Str}{c:Nat}(h:wA x s)(e:aX x (some s) c=some (k,t)):wA x t:=by
 rw[xR h]at e
 cases hs:aQ x.1 x.2.1 x.2.2.1 x.2.2.2.a x.2.2.2.b x.2.2.2.c x.2.2.2.d s.1 s.2 c with
 |kj z=>rw[hs]at e;cases e
 |go k' w' u'=>rw[hs]at e;cases e;exact yI h hs
theorem Fx{x:bu}:∀{cs:List Nat}{s:aT}{r:List aT×aT},wA x s->rO x s cs=some r->wA x r.2
 |[],s,r,h,e=>by cases e;exact h
 |c::cs,s,r,h,e=>by
  unfold rO at e
  cases hl:aX x (some s) c with
  |none=>rw[hl]at e;cases e
  |some t =>
   rw[hl]at e
   cases hr:rO x t.2 cs with
   |none=>simp only[hr]at e;cases e
   |some r' =>
    simp only[hr]at e
    cases e
    have q:=Fx (r:=r') (Fw h hl) hr
    exact q
theorem Fy{x:bu}:∀(cs:List Nat)(s:aT),wA x s->match rO x s cs with
  |some r=>(runM x.1 x.2.1 x.2.2.1 x.2.2.2.a x.2.2.2.b x.2.2.2.c x.2.2.2.d s.1 s.2 cs).2=(r.2.1,r.2.2,none)/\Ml (runM x.1 x.2.1 x.2.2.1 x.2.2.2.a x.2.2.2.b x.2.2.2.c x.2.2.2.d s.1 s.2 cs).1 cs=r.1
  |none=>(runM x.1 x.2.1 x.2.2.1 x.2.2.2.a x.2.2.2.b x.2.2.2.c x.2.2.2.d s.1 s.2 cs).2.2.2≠none
 |[],s,h=>⟨rfl,rfl⟩
 |c::cs,s,h=>by
  have el:=xR h c
  cases hs:aQ x.1 x.2.1 x.2.2.1 x.2.2.2.a x.2.2.2.b x.2.2.2.c x.2.2.2.d s.1 s.2 c with
  |kj z =>
   rw[hs]at el
   have e:rO x s (c::cs)=none:=by unfold rO;rw[el]
   rw[e,rB hs]
   exact λq=>nomatch q
  |go k w u =>
   rw[hs]at el
   have ih:=Fy (x:=x) cs (w,u) (yI h hs)
   have e:rO x s (c::cs)=(rO x (w,u) cs).map λ(r:List aT×aT)=>(bB k c++r.1,r.2):=by
    show(match aX x (some s) c with|none=>none|some (k,t)=>(rO x t cs).map λ(r:List aT×aT)=>(bB k c++r.1,r.2))=_
    rw[el]
   rw[e,xN hs]
   cases hr:rO x (w,u) cs with
   |none=>rw[hr]at ih;exact ih
   |some r =>
    rw[hr]at ih
    refine⟨ih.1,?_⟩
    show(if aY k ("skip":Str)=true then [] else [(k,if aY k ("put":Str)=true then sg c else Str.ofString "")])++Ml _ cs=bB k c++r.1
    rw[ih.2]
    rfl
theorem BY{x:bu}{cs:List Nat}{ts:List aT}:bP x cs=some ts↔TX x.1 x.2.1 x.2.2.1 x.2.2.2.a x.2.2.2.b x.2.2.2.c x.2.2.2.d ts cs:=by
 have h:=Fy (x:=x) cs cI (rV x)
 unfold bP
 cases hr:rO x cI cs with
 |none =>
  rw[hr]at h
  refine⟨(λe=>nomatch e),λe=>absurd ?_ h⟩
  have:=e.1
  show(runM _ _ _ _ _ _ _ ("row":Str) ("":Str) cs).2.2.2=none
  rw[this]
 |some r =>
  rw[hr]at h
  have h1:(runM x.1 x.2.1 x.2.2.1 x.2.2.2.a x.2.2.2.b x.2.2.2.c x.2.2.2.d ("row":Str) ("":Str) cs).2=(r.2.1,r.2.2,none):=h.1
  have h2:Ml (runM x.1 x.2.1 x.2.2.1 x.2.2.2.a x.2.2.2.b x.2.2.2.c x.2.2.2.d ("row":Str) ("":Str) cs).1 cs=r.1:=h.2
  by_cases e:r.2=cI
  ·show(if r.2=cI then some r.1 else none)=some ts↔_
   rw[aaj e]
   constructor
   ·intro q;cases q;exact⟨by rw[h1,e];rfl,h2⟩
   ·intro q;rw[←h2,q.2]
  ·show(if r.2=cI then some r.1 else none)=some ts↔_
   rw[aai e]
   refine⟨(λq=>nomatch q),λq=>absurd ?_ e⟩
   have q:=q.1
   rw[h1]at q
   injection q with q1 q2
   injection q2 with q2 _
   exact Prod.ext q1 q2
def oW(x:bu)(c:Nat):Prop:=c∉(bf x).cps.toList/\c≠10/\c≠32
theorem oW.no{x:bu}{c:Nat}(h:oW x c):fG c x.1=false/\fG c x.2.1=false/\fG c x.2.2.1=false/\aY (sg c) (Str.ofString "\n")=false/\aY (sg c) (" ":Str)=false/\∀d∈x.2.1.cps.toList,aY (sg c) (sg d)=false:=by
 have hn:=h.1
 unfold bf at hn
 rw[app_list,app_list,aaC,aaC]at hn
 refine⟨Fv λz=>hn (.inl (.inl z)),Fv λz=>hn (.inl (.inr z)),Fv λz=>hn (.inr z),by rw[Lq,nR];exact aak h.2.1,?_,λd hd=>?_⟩
 ·have e:Str.ofString " "=sg 32:=by decide +kernel
  rw[e,nR];exact aak h.2.2
 ·rw[nR];exact aak λe=>hn (.inl (.inr (by rw[e];exact hd)))
theorem LJ{x:bu}{s:aT}(h:wA x s):(∀c,oW x c->aX x (some s) c=none)\/∃t,∀c,oW x c->aX x (some s) c=some (Str.ofString "put",t):=by
 obtain⟨w,u⟩:=s
 have go:∀{k w' u'},(∀c,oW x c->aQ x.1 x.2.1 x.2.2.1 x.2.2.2.a x.2.2.2.b x.2.2.2.c x.2.2.2.d w u c=.go k w' u')->∀c,oW x c->aX x (some (w,u)) c=some (k,(w',u')):=λ{k w' u'} he c hc=>by
  rw[xR h];show(match aQ x.1 x.2.1 x.2.2.1 x.2.2.2.a x.2.2.2.b x.2.2.2.c x.2.2.2.d w u c with | .kj _=>none | .go k w u=>some (k,(w,u)))=_
  rw[he c hc]
 have st:∀{e},(∀c,oW x c->aQ x.1 x.2.1 x.2.2.1 x.2.2.2.a x.2.2.2.b x.2.2.2.c x.2.2.2.d w u c=.kj e)->∀c,oW x c->aX x (some (w,u)) c=none:=λ{e} he c hc=>by
  rw[xR h];show(match aQ x.1 x.2.1 x.2.2.1 x.2.2.2.a x.2.2.2.b x.2.2.2.c x.2.2.2.d w u c with | .kj _=>none | .go k w u=>some (k,(w,u)))=_
  rw[he c hc]
 have hB:∀c,oW x c->bq x.1 x.2.2.2.c c=.kj ("behind":Str):=λc hc=>by
  obtain⟨n1,n2,n3,n4,n5,n6⟩:=hc.no
  unfold bq
  rw[n4,n1,n5];rfl
 rcases h with ⟨e,hw⟩|⟨d,hd,hf,e,hw⟩
 ·have e:u=("":Str):=e
  subst e
  have hw:w=Str.ofString "row"\/w=Str.ofString "cell"\/w=Str.ofString "plain"\/w=Str.ofString "behind"\/w=("freed":Str):=hw
  rcases hw with rfl|rfl|rfl|rfl|rfl
  ·refine .inr ⟨_,go (w':=("plain":Str)) (u':=("":Str)) λc hc=>?_⟩
   obtain⟨n1,n2,n3,n4,n5,n6⟩:=hc.no
   rw[d8 (by decide +kernel) (by decide +kernel) (by decide +kernel) (by decide +kernel)]
   unfold fX cB
   rw[aai (ns (by decide +kernel)),n3,n4,n2,n1,n5];rfl
  ·refine .inr ⟨_,go (w':=("plain":Str)) (u':=("":Str)) λc hc=>?_⟩
   obtain⟨n1,n2,n3,n4,n5,n6⟩:=hc.no
   rw[d8 (by decide +kernel) (by decide +kernel) (by decide +kernel) (by decide +kernel)]
   unfold fX cB
   rw[aai (ns (by decide +kernel)),n3,n4,n2,n1,n5];rfl
  ·refine .inr ⟨_,go (w':=("plain":Str)) (u':=("":Str)) λc hc=>?_⟩
   obtain⟨n1,n2,n3,n4,n5,n6⟩:=hc.no
   rw[jd (aA _)]
   unfold cY
   rw[n3,n4,n1,n2];rfl
  ·refine .inl (st (e:=("behind":Str)) λc hc=>?_)
   rw[fY (aA _)];exact hB c hc
  ·refine .inr ⟨_,go (w':=("plain":Str)) (u':=("":Str)) λc hc=>?_⟩
   obtain⟨n1,n2,n3,n4,n5,n6⟩:=hc.no
   rw[cZ (aA _)]
   unfold dD cQ
   rw[n4,aaj (aA _)];rfl
 ·have e:u=sg d:=e
  subst e
  have hw:w=Str.ofString "within"\/w=Str.ofString "doubt"\/w=("freed":Str):=hw
  rcases hw with rfl|rfl|rfl
  ·refine .inr ⟨_,go (w':=("within":Str)) (u':=sg d) λc hc=>?_⟩
   obtain⟨n1,n2,n3,n4,n5,n6⟩:=hc.no
   rw[eV (aA _)]
   unfold cg
   rw[n3,n6 d hd,n4];rfl
  ·refine .inl (st (e:=("behind":Str)) λc hc=>?_)
   obtain⟨n1,n2,n3,n4,n5,n6⟩:=hc.no
   rw[g5 (aA _)]
   unfold gj
   rw[n6 d hd,aai (by decide)]
   exact hB c hc
  ·refine .inr ⟨_,go (w':=("within":Str)) (u':=sg d) λc hc=>?_⟩
   obtain⟨n1,n2,n3,n4,n5,n6⟩:=hc.no
   rw[cZ (aA _)]
   unfold dD cQ
   rw[n4,aai (ym d)];rfl
abbrev IM(c:Nat):aT:=(Str.ofString "put",sg c)
def IP(o:Nat):List aT->List Nat->List aT
 |[],_=>[]
 |t::u,[]=>t::IP o u []
 |t::u,h::l=>if t=IM o then IM h::IP o u l else t::IP o u (h::l)
def CV(z:Str)(o c:Nat):Nat:=if fG c z=true then c else o
theorem LK{o:Nat}{p:List aT}(hp:∀t∈p,t≠IM o)(hl:p.length<=1)(u:List aT)(l:List Nat):IP o (p++u) l=p++IP o u l:=by
 match p,hl with
 |[],_=>rfl
 |[t],_ =>
  cases l with
  |nil=>rfl
  |cons h l=>show(if t=IM o then _ else _)=_;rw[aai (hp t (aat.mpr rfl))];rfl
theorem Fz{x:bu}{z:Str}{o:Nat}(hx:∀c,c∉z.cps.toList->oW x c)(ho:oW x o)(hz:o∈z.cps.toList):∀(cs:List Nat)(s:aT),wA x s->rO x s cs=(rO x s (cs.map (CV z o))).map λr=>(IP o r.1 (cs.filter λc=>decide (CV z o c=o)),r.2)
 |[],s,_=>rfl
 |c::cs,s,h=>by
  show(match aX x (some s) c with|none=>none|some (k,t)=>(rO x t cs).map λ(r:List aT×aT)=>(bB k c++r.1,r.2))=(match aX x (some s) (CV z o c) with|none=>none|some (k,t)=>(rO x t (cs.map (CV z o))).map λ(r:List aT×aT)=>(bB k (CV z o c)++r.1,r.2)).map _
  by_cases hc:CV z o c=o
  ·rw[hc,List.filter_cons_of_pos (by rw[aas hc])]
   have hoc:oW x c:=by
    unfold CV at hc
    by_cases q:fG c z=true
    ·rw[aaj q]at hc;rw[hc];exact ho
    ·refine hx c λy=>q ?_
     have e:fG c z=decide (c∈z.cps.toList):=abp z c
     rw[e];exact aas y
   rcases LJ h with hn|⟨t,ht⟩
   ·rw[hn c hoc,hn o ho];rfl
   ·have lt:=Fw h (ht o ho)
    rw[ht c hoc,ht o ho]
    simp only
    rw[Fz hx ho hz cs t lt]
    cases rO x t (cs.map (CV z o)) with
    |none=>rfl
    |some r =>
     show some (bB ("put":Str) c++IP o r.1 _,r.2)=some (IP o (bB ("put":Str) o++r.1) (c::_),r.2)
     rw[rT,rT]
     show some (IM c::IP o r.1 _,r.2)=some (IP o (IM o::r.1) (c::_),r.2)
     congr 2
     exact(aaj rfl).symm
  ·have e:CV z o c=c:=by
    unfold CV at hc⊢
    by_cases q:fG c z=true
    ·rw[aaj q]
    ·rw[aai q]at hc;exact absurd rfl hc
   rw[e]at hc
   rw[e,List.filter_cons_of_neg (by rw[e];simpa using hc)]
   cases hl:aX x (some s) c with
   |none=>rfl
   |some t =>
    have lt:=Fw h hl
    simp only
    rw[Fz hx ho hz cs t.2 lt]
    cases rO x t.2 (cs.map (CV z o)) with
    |none=>rfl
    |some r =>
     show some (bB t.1 c++IP o r.1 _,r.2)=some (IP o (bB t.1 c++r.1) _,r.2)
     rw[LK (λq hq=>?_) (bY _ _)]
     unfold bB at hq
     split at hq
     ·cases hq
     ·rw[aat.mp hq]
      intro y
      injection y with y1 y2
      rw[y1,aaj (aA _)]at y2
      have:=congrArg (λz:Str=>z.cps.toList) y2
      have:[c]=[o]:=this
      injection this with this
      exact hc this
theorem HA{x:bu}{z:Str}{o:Nat}(hx:∀c,c∉z.cps.toList->oW x c)(ho:oW x o)(hz:o∈z.cps.toList)(cs:List Nat):bP x cs=(bP x (cs.map (CV z o))).map λu=>IP o u (cs.filter λc=>decide (CV z o c=o)):=by
 unfold bP
 rw[Fz hx ho hz cs cI (rV x)]
 cases rO x cI (cs.map (CV z o)) with
 |none=>rfl
 |some r =>
  show(if r.2=cI then _ else _)=(if r.2=cI then _ else _:Option (List aT)).map _
  by_cases h:r.2=cI
  ·rw[aaj h,aaj h];rfl
  ·rw[aai h,aai h];rfl
theorem AV{x y:bu}(gx:gm x)(gy:gm y):∃o,o∈(lF x y).cps.toList/\∀cs,(∀c∈cs.map (CV (lF x y) o),c∈(lF x y).cps.toList)/\(bP x (cs.map (CV (lF x y) o))=bP y (cs.map (CV (lF x y) o))->bP x cs=bP y cs):=by
 obtain⟨o,hm,n1,n2,VA,n32⟩:=DX gx gy
 have ho:o∈(lF x y).cps.toList:=(hm o).mpr (.inr (.inr (.inr (.inr rfl))))
 refine⟨o,ho,λcs=>⟨λc hc=>?_,λe=>?_⟩⟩
 ·obtain⟨d,_,rfl⟩:=aaY.mp hc
  unfold CV
  split
  ·rename_i h;exact LI h
  ·exact ho
 ·have hx:∀c,c∉(lF x y).cps.toList->oW x c:=λc hc=>⟨λz=>hc ((hm c).mpr (.inl z)),λz=>hc ((hm c).mpr (.inr (.inr (.inl z)))),λz=>hc ((hm c).mpr (.inr (.inr (.inr (.inl z)))))⟩
  have hy:∀c,c∉(lF x y).cps.toList->oW y c:=λc hc=>⟨λz=>hc ((hm c).mpr (.inr (.inl z))),λz=>hc ((hm c).mpr (.inr (.inr (.inl z)))),λz=>hc ((hm c).mpr (.inr (.inr (.inr (.inl z)))))⟩
  rw[HA hx ⟨n1,VA,n32⟩ ho cs,HA hy ⟨n2,VA,n32⟩ ho cs,e]
theorem BZ{x y:bu}(gx:gm x)(gy:gm y){m:cH}{cm:dO cH}{aF:List cH}{k:Nat}{xs:List Nat}(hE:DR bT (bO x y (lF x y)) none pT (some m) cm aF k)(hw:WalkG (bO x y (lF x y)) pT xs m)(hl:xs.length=k):bP x xs≠bP y xs/\∀ys,bP x ys≠bP y ys->k<=ys.length:=by
 obtain⟨h1,h2⟩:=LG hE hw hl
 obtain⟨o,_,ho⟩:=AV gx gy
 refine⟨h1,λys hy=>?_⟩
 have:=h2 _ (ho ys).1 λe=>hy ((ho ys).2 e)
 rw[aav]at this
 exact this
theorem B0{x y:bu}(gx:gm x)(gy:gm y){cm:dO cH}{aF:List cH}{k:Nat}(hE:DR bT (bO x y (lF x y)) none pT none cm aF k)(ys:List Nat):bP x ys=bP y ys:=by
 obtain⟨o,_,ho⟩:=AV gx gy
 exact(ho ys).2 (cmp_none hE (ho ys).1)
def Ez(q:aT×aT):cH:=((some q.1,some q.2),some ([],[]))
theorem NT{p q:aT×aT}(h:Ez p=Ez q):p=q:=by
 injection h with h _
 injection h with h1 h2
 exact Prod.ext (aax h1) (aax h2)
theorem LL{k k':Str}{c:Nat}(h:bB k c=bB k' c):k=k':=by
 unfold bB at h
 by_cases h1:aY k ("skip":Str)=true
 ·by_cases h2:aY k' ("skip":Str)=true
  ·rw[iC h1,iC h2]
  ·rw[aaj h1,aai h2]at h;cases h
 ·by_cases h2:aY k' ("skip":Str)=true
  ·rw[aai h1,aaj h2]at h;cases h
  ·rw[aai h1,aai h2]at h
   injection h with h _
   injection h
theorem QI{x y:bu}{q:aT×aT}{c:Nat}{m:cH}(h:iD x y (Ez q) c=some m)(hm:m.2=some ([],[])):∃k t t',aX x (some q.1) c=some (k,t)/\aX y (some q.2) c=some (k,t')/\m=Ez (t,t'):=by
 have h:(if aX x (some q.1) c=none/\aX y (some q.2) c=none then none else some ((tP (aX x (some q.1) c),tP (aX y (some q.2) c)),j6 (some ([],[])) (aX x (some q.1) c) (aX y (some q.2) c) c))=some m:=h
 cases h1:aX x (some q.1) c with
 |none =>
  rw[h1]at h
  cases h2:aX y (some q.2) c with
  |none=>rw[h2,aaj ⟨rfl,rfl⟩]at h;cases h
  |some t=>rw[h2,aai (λz=>nomatch z.2)]at h;cases h;cases hm
 |some s =>
  rw[h1,aai (λz=>nomatch z.1)]at h
  cases h2:aX y (some q.2) c with
  |none=>rw[h2]at h;cases h;cases hm
  |some t =>
   rw[h2]at h
   cases h
   have hm:ql (bB s.1 c) (bB t.1 c)=some ([],[]):=hm
   obtain⟨C,e1,e2⟩:=uF hm
   rw[aaH]at e1 e2
   have ek:s.1=t.1:=LL (e1.trans e2.symm)
   refine⟨s.1,s.2,t.2,O,by rw[ek],?_⟩
   show((some s.2,some t.2),ql (bB s.1 c) (bB t.1 c))=_
   rw[hm];rfl
theorem LM{x y:bu}{z:Str}{cs:List Nat}{q:aT×aT}(h:WalkG (bO x y z) pT cs (Ez q)):wA x q.1/\wA y q.2:=by
 have e:=(yG h).2
 unfold Hy at e
 cases h1:rO x cI cs with
 |none =>
  cases h2:rO y cI cs with
  |none=>rw[h1,h2]at e;cases e
  |some b=>rw[h1,h2]at e;injection e with e;injection e with e _;injection e with e _;cases e
 |some a =>
  cases h2:rO y cI cs with
  |none=>rw[h1,h2]at e;injection e with e;injection e with e _;injection e with _ e;cases e
  |some b =>
   rw[h1,h2]at e
   have e:some ((some a.2,some b.2),j7 a.1 b.1)=some (Ez q):=e
   injection e with e
   injection e with e _
   injection e with e1 e2
   rw[←aax e1,←aax e2]
   exact⟨Fx (rV x) h1,Fx (rV y) h2⟩
structure VB(x y:bu)(z:Str)(qs:List (aT×aT)):Prop where
 lv:∀q∈qs,wA x q.1/\wA y q.2
 st:∀q∈qs,(some q.1=ff↔some q.2=ff)
 on:∀q∈qs,∀c∈z.cps.toList,(aX x (some q.1) c=none/\aX y (some q.2) c=none)\/∃k t t',aX x (some q.1) c=some (k,t)/\aX y (some q.2) c=some (k,t')/\(t,t')∈qs
 row:(cI,cI)∈qs
theorem IQ{x y:bu}(gx:gm x)(gy:gm y){cm:dO cH}{aF:List cH}{k:Nat}(hE:DR bT (bO x y (lF x y)) none pT none cm aF k):∃qs:List (aT×aT),cm.map (·.1)=qs.map Ez/\qs.Nodup/\qs.length<=121/\(∀q∈qs,∃cs,WalkG (bO x y (lF x y)) pT cs (Ez q))/\VB x y (lF x y) qs:=by
 have hz:=Hw gx gy
 have walks:∀m,bG cm m=true->∃xs,WalkG (bO x y (lF x y)) pT xs m:=λm hm=>by
  obtain⟨n,_,v,xs,_,_,w,_⟩:=hE.cP.told m hm
  exact⟨_,w⟩
 have Uh:∀m,bG cm m=true->∃q,m=Ez q:=λm hm=>by
  obtain⟨xs,w⟩:=walks m hm
  have L:=BV w
  have he:m.2=some ([],[]):=aa0 λho=>by
   obtain⟨cs,m',w',_,hg⟩:=DZ gx gy hz L ho
   have:=(end_none hE (D5 w w')).2
   rw[hg]at this;cases this
  obtain⟨⟨o1,o2⟩,mo⟩:=m
  have he:mo=some ([],[]):=he
  subst he
  rcases L.Vz with z|⟨u,v,_,_,n1,n2⟩
  ·cases z
  ·cases o1 with
   |none=>exact absurd rfl n1
   |some s =>
    cases o2 with
    |none=>exact absurd rfl n2
    |some t=>exact⟨(s,t),rfl⟩
 have key:∀l:List cH,(∀m∈l,∃q,m=Ez q)->∃qs:List (aT×aT),l=qs.map Ez:=λl hl=>by
  induction l with
  |nil=>exact⟨[],rfl⟩
  |cons m l ih =>
   obtain⟨q,e⟩:=hl m (aaE ..)
   obtain⟨qs,e2⟩:=ih λm' hm'=>hl m' (aay _ hm')
   exact⟨q::qs,by rw[e,e2];rfl⟩
 obtain⟨qs,e⟩:=key (cm.map (·.1)) λm hm=>Uh m (rG.mpr hm)
 have hmem:∀q,bG cm (Ez q)=true↔q∈qs:=λq=>by
  rw[rG,e,aaY]
  exact⟨λ⟨t,ht,z⟩=>by rw[←NT z];exact ht,λhs=>⟨q,hs,rfl⟩⟩
 have nd:=hE.nd
 rw[e]at nd
 have nd:=rR nd
 have lv:∀q∈qs,wA x q.1/\wA y q.2:=λq hq=>by
  obtain⟨xs,w⟩:=walks _ ((hmem q).mpr hq)
  exact LM w
 refine⟨qs,e,nd,?_,λq hq=>walks _ ((hmem q).mpr hq),lv,λq hq=>?_,λq hq c hc=>?_,?_⟩
 ·have h1:=rE gx
  have h2:=rE gy
  have hk:∀l:List aT,(l.flatMap λs=>(Jr y.2.1).map λt=>(s,t)).length=l.length*(Jr y.2.1).length:=λl=>by
   induction l with
   |nil=>rw[abU,abj,abj,Nat.zero_mul]
   |cons a l ih=>rw[aaO,aao,aav,ih,aaF,Nat.succ_mul];omega
  refine aaq (List.Nodup.length_le_of_subset nd (l₂:=(Jr x.2.1).flatMap λs=>(Jr y.2.1).map λt=>(s,t)) λq hq=>?_) (by rw[hk];exact aaq (Nat.mul_le_mul h1 h2) (by decide))
  have l:=lv q hq
  exact abx.mpr ⟨q.1,yq l.1.st,aaY.mpr ⟨q.2,yq l.2.st,rfl⟩⟩
 ·obtain⟨xs,w⟩:=walks _ ((hmem q).mpr hq)
  have hg:=(end_none hE w).2
  unfold bT at hg
  by_cases e:(Ez q).1=(ff,ff)
  ·have e:(some q.1,some q.2)=(ff,ff):=e
   injection e with e1 e2
   exact⟨λ_=>e2,λ_=>e1⟩
  ·rw[aai e]at hg
   have hg:(decide (some q.1=ff)||decide (some q.2=ff))=false:=hg
   rw[Bool.or_eq_false_iff]at hg
   exact⟨λz=>absurd z (of_decide_eq_false hg.1),λz=>absurd z (of_decide_eq_false hg.2)⟩
 ·obtain⟨xs,w⟩:=walks _ ((hmem q).mpr hq)
  cases hb:iD x y (Ez q) c with
  |none =>
   refine .inl (aa0 λhn=>?_)
   have hb:(if aX x (some q.1) c=none/\aX y (some q.2) c=none then none else some ((tP (aX x (some q.1) c),tP (aX y (some q.2) c)),j6 (some ([],[])) (aX x (some q.1) c) (aX y (some q.2) c) c))=none:=hb
   rw[aai hn]at hb;cases hb
  |some m =>
   have hw:WalkG (bO x y (lF x y)) pT (xs++[c]) m:=.snoc w (aaU.mpr ⟨c,hc,by rw[hb];rfl⟩)
   have hc2:=(end_none hE hw).1
   obtain⟨q',e'⟩:=Uh m hc2
   obtain⟨k,t,t',h1,h2,h3⟩:=QI hb (by rw[e'];rfl)
   exact .inr ⟨k,t,t',h1,h2,(hmem _).mp (by rw[←h3];exact hc2)⟩
 ·exact(hmem _).mp (hE.cP.all [] pT .nil (aaM _))
def qc(K:W.Frag)(x y:bu)(H H':Hp)(t:Addr):Prop :=
 (∃l vs qs,H' t=some (.tup [.str ("alike":Str),.ref l])/\H l=none/\H' l=some (.lst vs)/\Paired (oV K H') vs (qs.map λq:aT×aT=>(some q.1,some q.2))/\qs.Nodup/\qs.length<=121/\(∀q∈qs,∃cs,WalkG (bO x y (lF x y)) pT cs (Ez q))/\VB x y (lF x y) qs/\∀cs,bP x cs=bP y cs)\/
 (∃xs,H' t=some (.tup [.str ("parted":Str),.str (Txt.join ("":Str) (xs.map sg))])/\xs.length<=1000/\(∀c∈xs,c∈(lF x y).cps.toList)/\bP x xs≠bP y xs/\∀ys,bP x ys≠bP y ys->xs.length<=ys.length)
theorem NU{cm:dO cH}{qs:List (aT×aT)}(h:cm.map (·.1)=qs.map Ez):(cm.map λe=>e.1.1)=qs.map λq=>(some q.1,some q.2):=by
 have:=congrArg (List.map (·.1)) h
 rw[List.map_map,List.map_map]at this
 exact this
theorem LN{x y:bu}(gx:gm x)(gy:gm y):∀c∈(lF x y).cps.toList,c=10\/Pn c:=by
 have h7:∀c:bu,gm c->(bf c).cps.toList.length<=7:=λc g=>by
  have hp3:=g.p3;have hq2:=g.q2;have hf2:=g.f2
  have:(bf c).length<=7:=by unfold bf;rw[aU,aU];omega
  rw[aap];exact this
 have hok:∀c:bu,gm c->∀d∈(bf c).cps.toList,d=10\/Pn d:=λc g d hd=>by
  unfold bf at hd
  rw[app_list,app_list,aaC,aaC]at hd
  rcases hd with (z|z)|z
  ·exact .inr (g.gp.pr d z)
  ·exact .inr (g.gq.pr d z)
  ·exact .inr (g.gf.pr d z)
 have eB:(kI [bf x,bf y]).cps.toList=[bf x,bf y].flatMap (λz=>z.cps.toList)++[10,32]:=by
  unfold kI
  rw[app_list,join_list,kJ.1]
 have hB:(kI [bf x,bf y]).length<=60:=by
  have e:=congrArg List.length eB
  rw[aap,aao,aaO,aaO,abU,aaH,aao]at e
  have e:(kI [bf x,bf y]).length=(bf x).cps.toList.length+(bf y).cps.toList.length+2:=e
  have:=h7 x gx;have:=h7 y gy
  omega
 obtain⟨o,r,hf,ho⟩:=yo (t:=bF (kI [bf x,bf y])) (aaq (gR _) hB)
 have hol:o∈dj:=(List.mem_filter.mp (show o∈dj.filter (away (bF (kI [bf x,bf y]))) by rw[hf];exact aaE ..)).1
 have Ui:∀c∈dj,c=10\/Pn c:=by decide +kernel
 have e:=AL hf ho
 intro c hc
 unfold lF at hc
 rw[e,app_list,aaC,kG,eB,aaO,aaO,abU,aaH,aaC,aaC]at hc
 rcases hc with (((z|z)|z)|z)
 ·exact hok x gx c z
 ·exact hok y gy c z
 ·rcases aaB.mp z with z|z
  ·exact .inl z
  ·rw[aat.mp z];exact .inr (by decide)
 ·rw[aat.mp (show c∈[o]from z)];exact Ui o hol
theorem FA{xs:List Nat}:(Txt.join ("":Str) (xs.map sg)).cps.toList=xs:=yu xs
theorem HB{xs:List Nat}:(Txt.join ("":Str) (xs.map sg)).length=xs.length:=by
 have:=congrArg List.length (yu xs)
 rw[aap]at this
 exact this
theorem LO{x y:bu}(gx:gm x)(gy:gm y){xs:List Nat}(h:∀c∈xs,c∈(lF x y).cps.toList):qh (Txt.join ("":Str) (xs.map sg)):=λc hc=>by
 rw[FA]at hc
 exact LN gx gy c (h c hc)
theorem uH(x:bu)(z:Str):K3 (runC x z) z=(bP x z.cps.toList).map λts=>(ts.foldl uv BK).rows:=by
 have h:=Fy (x:=x) z.cps.toList cI (rV x)
 cases ho:bP x z.cps.toList with
 |some ts =>
  have q:=BY.mp ho
  have e:=DN (z:=z) q
  have e1:(runC x z).2=(Str.ofString "row",("":Str),none):=q.1
  unfold K3
  have hW:zA (runC x z)=("":Str):=by unfold zA;rw[e1];exact aaj (by decide +kernel)
  rw[aaj hW]
  exact congrArg some e
 |none =>
  unfold K3
  have hW:¬zA (runC x z)=("":Str):=λe=>by
   obtain⟨h1,h2,h3⟩:=Qu e
   have:bP x z.cps.toList=some _:=BY.mpr ⟨Prod.ext h2 (Prod.ext h3 h1),rfl⟩
   rw[ho]at this;cases this
  rw[aai hW];rfl
theorem AW(x:bu)(z:Str):bP x z.cps.toList=(K3 (runC x z) z).map qj:=by
 rw[uH]
 cases ho:bP x z.cps.toList with
 |none=>rfl
 |some ts =>
  have q:=BY.mp ho
  have e:=DN (z:=z) q
  have r:=K6 (z:=z) q.1
  have e2:=r.2.symm.trans q.2
  show some ts=some (qj (ts.foldl uv BK).rows)
  rw[←e,e2]
theorem QJ(x y:bu)(z:Str):K3 (runC x z) z=K3 (runC y z) z↔bP x z.cps.toList=bP y z.cps.toList:=by
 constructor
 ·intro h;rw[AW,AW,h]
 ·intro h;rw[uH,uH,h]
theorem xS{x y:bu}(h:NH x y)(cs:List Nat):bP x cs=bP y cs:=by
 have key:∀(cs:List Nat)(s:aT),IB x s->rO x s cs=rO y s cs:=λcs=>by
  induction cs with
  |nil=>intro s _;rfl
  |cons c cs ih =>
   intro s hs
   show(match aX x (some s) c with|none=>none|some (k,t)=>(rO x t cs).map λ(r:List aT×aT)=>(bB k c++r.1,r.2))=(match aX y (some s) c with|none=>none|some (k,t)=>(rO y t cs).map λ(r:List aT×aT)=>(bB k c++r.1,r.2))
   rw[←QD h hs c]
   cases hl:aX x (some s) c with
   |none=>rfl
   |some t=>simp only;rw[ih t.2 (Lp hs hl)]
 unfold bP
 rw[key cs cI (Hv x)]
theorem VB.asks{x y:bu}{qs:List (aT×aT)}(h:VB x y (lF x y) qs):∀q∈qs,gQ x.2.1 q.1.1 q.1.2/\cD x.2.2.1 q.1.1 q.1.2=true/\gQ y.2.1 q.2.1 q.2.2/\cD y.2.2.1 q.2.1 q.2.2=true/\(some q.1=ff↔some q.2=ff)/\∀c∈(lF x y).cps.toList,(aX x (some q.1) c=none/\aX y (some q.2) c=none)\/∃k t t',aX x (some q.1) c=some (k,t)/\aX y (some q.2) c=some (k,t')/\(t,t')∈qs:=λq hq=>⟨(h.lv q hq).1.st,(h.lv q hq).1.live,(h.lv q hq).2.st,(h.lv q hq).2.live,h.st q hq,h.on q hq⟩
theorem mK:aE ["sign","number"] ["sign"] (au i6):=⟨rfl,rfl,rfl,by decide +kernel,rfl,by decide +kernel,by decide +kernel⟩
theorem qo:aE ["text"] ["text"] (au dZ):=⟨rfl,rfl,rfl,by decide +kernel,rfl,by decide +kernel,by decide +kernel⟩
theorem FD:aE ["thing"] ["thing"] (au uf):=⟨rfl,rfl,rfl,by decide +kernel,rfl,by decide +kernel,by decide +kernel⟩
theorem xT:aE ["text","found","sign"] ["text"] (au Fb):=⟨rfl,rfl,rfl,by decide +kernel,rfl,by decide +kernel,by decide +kernel⟩
theorem AX:aE ["some","many","free"] ["some","many"] (au rz):=⟨rfl,rfl,rfl,by decide +kernel,rfl,by decide +kernel,by decide +kernel⟩
theorem lG:aE ["dialect","states","quote"] ["dialect"] (au nJ):=⟨rfl,rfl,rfl,by decide +kernel,rfl,by decide +kernel,by decide +kernel⟩
theorem FF:aE ["dialect","state"] ["dialect","state"] (au ug):=⟨rfl,rfl,rfl,by decide +kernel,rfl,by decide +kernel,by decide +kernel⟩
theorem uI:aE ["dialect","thing"] ["dialect","thing"] (au iu):=⟨rfl,rfl,rfl,by decide +kernel,rfl,by decide +kernel,by decide +kernel⟩
theorem oX:aE ["thing","least","most"] ["thing","least","most"] (au dB):=⟨rfl,rfl,rfl,by decide +kernel,rfl,by decide +kernel,by decide +kernel⟩
theorem iO:aE ["self","parts","quotes","frees","twin","wide","thin","stray","truth"] ["self","parts","quotes","frees","twin","wide","thin","stray"] (au aZ):=⟨rfl,rfl,rfl,by decide +kernel,rfl,by decide +kernel,by decide +kernel⟩
theorem wB:aE ["self"] ["self"] (au i7):=⟨rfl,rfl,rfl,by decide +kernel,rfl,by decide +kernel,by decide +kernel⟩
theorem qp:aE ["self"] ["self"] (au gg):=⟨rfl,rfl,rfl,by decide +kernel,rfl,by decide +kernel,by decide +kernel⟩
theorem zF:aE ["told"] ["told"] (au lg):=⟨rfl,rfl,rfl,by decide +kernel,rfl,by decide +kernel,by decide +kernel⟩
theorem nS:aE ["dialect","state","sign"] ["dialect","state","sign"] (au e9):=⟨rfl,rfl,rfl,by decide +kernel,rfl,by decide +kernel,by decide +kernel⟩
theorem uJ:aE ["dialect","sign"] ["dialect","sign"] (au iw):=⟨rfl,rfl,rfl,by decide +kernel,rfl,by decide +kernel,by decide +kernel⟩
theorem yJ:aE ["dialect","quote","sign"] ["dialect","quote","sign"] (au jY):=⟨rfl,rfl,rfl,by decide +kernel,rfl,by decide +kernel,by decide +kernel⟩
theorem yK:aE ["dialect","sign"] ["dialect","sign"] (au jZ):=⟨rfl,rfl,rfl,by decide +kernel,rfl,by decide +kernel,by decide +kernel⟩
theorem uK:aE ["dialect","quote","sign"] ["dialect","quote","sign"] (au iy):=⟨rfl,rfl,rfl,by decide +kernel,rfl,by decide +kernel,by decide +kernel⟩
theorem zG:aE ["dialect","quote","sign"] ["dialect","quote","sign"] (au lu):=⟨rfl,rfl,rfl,by decide +kernel,rfl,by decide +kernel,by decide +kernel⟩
theorem uL:aE ["self","dialect"] ["self","dialect"] (au iz):=⟨rfl,rfl,rfl,by decide +kernel,rfl,by decide +kernel,by decide +kernel⟩
theorem lH:aE ["self","state","sign","word","quote"] ["self","state","sign"] (au nK):=⟨rfl,rfl,rfl,by decide +kernel,rfl,by decide +kernel,by decide +kernel⟩
theorem gw:aE ["self","state","sign","step"] ["self","state","sign"] (au gP):=⟨rfl,rfl,rfl,by decide +kernel,rfl,by decide +kernel,by decide +kernel⟩
theorem zH:aE ["thing"] ["thing"] (au ly):=⟨rfl,rfl,rfl,by decide +kernel,rfl,by decide +kernel,by decide +kernel⟩
theorem lI:aE ["dialect","text","turn","kinds","state","sign","step"] ["dialect","text"] (au Fc):=⟨rfl,rfl,rfl,by decide +kernel,rfl,by decide +kernel,by decide +kernel⟩
theorem uM:aE ["walked","kinds","word"] ["walked"] (au yj):=⟨rfl,rfl,rfl,by decide +kernel,rfl,by decide +kernel,by decide +kernel⟩
theorem cu:aE ["text","kinds","table","row","cell","sign","kind"] ["text","kinds"] (au qg):=⟨rfl,rfl,rfl,by decide +kernel,rfl,by decide +kernel,by decide +kernel⟩
theorem pJ:aE ["dialect","text","walked"] ["dialect","text"] (au lA):=⟨rfl,rfl,rfl,by decide +kernel,rfl,by decide +kernel,by decide +kernel⟩
theorem rW:aE ["dialects","signs"] ["dialects"] (au jA):=⟨rfl,rfl,rfl,by decide +kernel,rfl,by decide +kernel,by decide +kernel⟩
theorem qq:aE ["self","one","other"] ["self","one","other"] (au gh):=⟨rfl,rfl,rfl,by decide +kernel,rfl,by decide +kernel,by decide +kernel⟩
theorem wC:aE ["self","pair","sign"] ["self","pair","sign"] (au i8):=⟨rfl,rfl,rfl,by decide +kernel,rfl,by decide +kernel,by decide +kernel⟩
theorem uN:aE ["steps","known"] ["steps","known"] (au iA):=⟨rfl,rfl,rfl,by decide +kernel,rfl,by decide +kernel,by decide +kernel⟩
theorem fc:aE ["self","pair","known","sign","steps"] ["self","pair","known"] (au fN):=⟨rfl,rfl,rfl,by decide +kernel,rfl,by decide +kernel,by decide +kernel⟩
theorem FG:aE ["one","other","thing"] ["one","other","thing"] (au uh):=⟨rfl,rfl,rfl,by decide +kernel,rfl,by decide +kernel,by decide +kernel⟩
theorem jG:aE ["one","other","pairs","known","pair","couple"] ["one","other","pairs"] (au ja):=⟨rfl,rfl,rfl,by decide +kernel,rfl,by decide +kernel,by decide +kernel⟩
theorem B3:aE ["one","other","text"] ["one","other","text"] (au nL):=⟨rfl,rfl,rfl,by decide +kernel,rfl,by decide +kernel,by decide +kernel⟩
theorem FH:aE ["kind","sign"] ["kind","sign"] (au um):=⟨rfl,rfl,rfl,by decide +kernel,rfl,by decide +kernel,by decide +kernel⟩
theorem jf:aE ["more","steps","sign","one","other"] ["more","steps","sign"] (au j0):=⟨rfl,rfl,rfl,by decide +kernel,rfl,by decide +kernel,by decide +kernel⟩
theorem c6:aE ["self","place","found","sign","steps","pair"] ["self","place"] (au fF):=⟨rfl,rfl,rfl,by decide +kernel,rfl,by decide +kernel,by decide +kernel⟩
theorem qt:aE ["self","place"] ["self","place"] (au gi):=⟨rfl,rfl,rfl,by decide +kernel,rfl,by decide +kernel,by decide +kernel⟩
theorem fZ:aE ["first","searched","most","came","edge","place","farther","lead"] ["first","searched","most"] (au eG):=⟨rfl,rfl,rfl,by decide +kernel,rfl,by decide +kernel,by decide +kernel⟩
theorem lJ:aE ["came","place","signs","link"] ["came","place"] (au uo):=⟨rfl,rfl,rfl,by decide +kernel,rfl,by decide +kernel,by decide +kernel⟩
theorem oY:aE ["self","one","other"] ["self","one","other"] (au fO):=⟨rfl,rfl,rfl,by decide +kernel,rfl,by decide +kernel,by decide +kernel⟩
theorem qu:aE ["one","other","found","came"] ["one","other"] (au oM):=⟨rfl,rfl,rfl,by decide +kernel,rfl,by decide +kernel,by decide +kernel⟩
theorem wD:aE ["_law_script","_law_k"] ["_law_script","_law_k"] (au jb):=⟨rfl,rfl,rfl,by decide +kernel,rfl,by decide +kernel,by decide +kernel⟩
theorem j8:aE ["_law_number_here","_law_salt","_law_one","_law_two"] ["_law_number_here","_law_salt"] (au lB):=⟨rfl,rfl,rfl,by decide +kernel,rfl,by decide +kernel,by decide +kernel⟩
theorem jg:aE ["_law_cell","_law_salt","_law_number_here","_law_high"] ["_law_cell","_law_salt"] (au j3):=⟨rfl,rfl,rfl,by decide +kernel,rfl,by decide +kernel,by decide +kernel⟩
theorem eX:aE ["_law_number_here","_law_many","_law_menu","_law_found","_law_k","_law_sign"] ["_law_number_here","_law_many","_law_menu"] (au nM):=⟨rfl,rfl,rfl,by decide +kernel,rfl,by decide +kernel,by decide +kernel⟩
theorem pK:aE ["_law_way","_law_every"] ["_law_way"] (au lC):=⟨rfl,rfl,rfl,by decide +kernel,rfl,by decide +kernel,by decide +kernel⟩
theorem bC:aE ["_law_cell","_law_number_here","_law_flags","_law_sizes","_law_menus_here","_law_parts","_law_quotes","_law_frees","_law_truths"] ["_law_cell"] (au nN):=⟨rfl,rfl,rfl,by decide +kernel,rfl,by decide +kernel,by decide +kernel⟩
theorem B5:aE ["_law_told_here"] ["_law_told_here"] (au nO):=⟨rfl,rfl,rfl,by decide +kernel,rfl,by decide +kernel,by decide +kernel⟩
theorem bJ:aE ["_law_told_here","_law_number_here","_law_parts","_law_quotes","_law_frees","_law_flags","_law_way","_law_sign"] ["_law_told_here","_law_number_here"] (au nP):=⟨rfl,rfl,rfl,by decide +kernel,rfl,by decide +kernel,by decide +kernel⟩
theorem aP:aE ["_law_told_here","_law_number_here","_law_parts","_law_quotes","_law_frees","_law_twin","_law_wide","_law_thin","_law_stray","_law_at"] ["_law_told_here","_law_number_here"] (au lD):=⟨rfl,rfl,rfl,by decide +kernel,rfl,by decide +kernel,by decide +kernel⟩
theorem gT:aE ["_law_one","_law_other","_law_word","_law_told_here"] ["_law_one","_law_other"] (au iB):=⟨rfl,rfl,rfl,by decide +kernel,rfl,by decide +kernel,by decide +kernel⟩
theorem jh:aE ["_law_one","_law_other","_law_third","_law_left","_law_right"] ["_law_one","_law_other","_law_third"] (au j4):=⟨rfl,rfl,rfl,by decide +kernel,rfl,by decide +kernel,by decide +kernel⟩
theorem lK:aE ["_law_script","_law_one","_law_number_here","_law_third","_law_twin","_law_first","_law_second","_law_last"] ["_law_script"] (au vD):=⟨rfl,rfl,rfl,by decide +kernel,rfl,by decide +kernel,by decide +kernel⟩
structure Txt(K:W.Frag)(mg:Str->Option Value)(ay:Nat->Addr)(aL:Nat->FuncData)(cA:Nat->Str):Prop where
 ji:fh K "is_printable" "is_printable" i6 (ay 0) (aL 0)
 nT:Binds K (aL 0) ["sign"] []
 nU:mg "is_printable"=some (.ref (ay 0))
 jH:fh K "has_signs_alone" "has_signs_alone" dZ (ay 1) (aL 1)
 rX:Binds K (aL 1) ["text"] []
 rY:mg "has_signs_alone"=some (.ref (ay 1))
 uO:fh K "is_text" "is_text" uf (ay 2) (aL 2)
 AY:Binds K (aL 2) ["thing"] []
 AZ:mg "is_text"=some (.ref (ay 2))
 FI:fh K "once" "once" Fb (ay 3) (aL 3)
 LP:Binds K (aL 3) ["text"] []
 LQ:mg "once"=some (.ref (ay 3))
 D6:fh K "others" "others" rz (ay 4) (aL 4)
 LR:Binds K (aL 4) ["some","many"] []
 LS:mg "others"=some (.ref (ay 4))
 vG:fh K "states_of" "states_of" nJ (ay 5) (aL 5)
 D7:Binds K (aL 5) ["dialect"] []
 D8:mg "states_of"=some (.ref (ay 5))
 oO:fh K "is_live" "is_live" ug (ay 6) (aL 6)
 uP:Binds K (aL 6) ["dialect","state"] []
 uQ:mg "is_live"=some (.ref (ay 6))
 iE:fh K "is_live_state" "is_live_state" iu (ay 7) (aL 7)
 mL:Binds K (aL 7) ["dialect","thing"] []
 mO:mg "is_live_state"=some (.ref (ay 7))
 dF:fh K "are_unlike_signs" "are_unlike_signs" dB (ay 8) (aL 8)
 fQ:Binds K (aL 8) ["thing","least","most"] []
 fR:mg "are_unlike_signs"=some (.ref (ay 8))
 qv:Ka K "__init__" "Dialect.__init__" aZ (ay 9) (aL 9) (.ref (ay 67))
 jj:Binds K (aL 9) ["self","parts","quotes","frees","twin","wide","thin","stray"] []
 yL:fh K "told" "Dialect.told" i7 (ay 10) (aL 10)
 yM:Binds K (aL 10) ["self"] []
 yN:Meth K (ay 55) "told" (ay 10)
 rZ:fh K "special" "Dialect.special" gg (ay 11) (aL 11)
 r8:Binds K (aL 11) ["self"] []
 sd:Meth K (ay 55) "special" (ay 11)
 sj:fh K "dialect_of" "dialect_of" lg (ay 12) (aL 12)
 B6:Binds K (aL 12) ["told"] []
 B7:mg "dialect_of"=some (.ref (ay 12))
 iP:fh K "step_at_beginning" "step_at_beginning" e9 (ay 13) (aL 13)
 oZ:Binds K (aL 13) ["dialect","state","sign"] []
 o6:mg "step_at_beginning"=some (.ref (ay 13))
 mP:fh K "step_in_plain" "step_in_plain" iw (ay 14) (aL 14)
 wF:Binds K (aL 14) ["dialect","sign"] []
 wG:mg "step_in_plain"=some (.ref (ay 14))
 pL:fh K "step_within" "step_within" jY (ay 15) (aL 15)
 zI:Binds K (aL 15) ["dialect","quote","sign"] []
 zJ:mg "step_within"=some (.ref (ay 15))
 j9:fh K "step_behind" "step_behind" jZ (ay 16) (aL 16)
 pM:Binds K (aL 16) ["dialect","sign"] []
 pN:mg "step_behind"=some (.ref (ay 16))
 mQ:fh K "step_in_doubt" "step_in_doubt" iy (ay 17) (aL 17)
 wH:Binds K (aL 17) ["dialect","quote","sign"] []
 wI:mg "step_in_doubt"=some (.ref (ay 17))
 sq:fh K "step_freed" "step_freed" lu (ay 18) (aL 18)
 B8:Binds K (aL 18) ["dialect","quote","sign"] []
 B9:mg "step_freed"=some (.ref (ay 18))
 wJ:fh K "__init__" "Turn.__init__" iz (ay 19) (aL 19)
 iF:Binds K (aL 19) ["self","dialect"] []
 D9:fh K "step" "Turn.step" nK (ay 20) (aL 20)
 nV:Binds K (aL 20) ["self","state","sign"] []
 nW:Meth K (ay 56) "step" (ay 20)
 uR:fh K "live_step" "Turn.live_step" gP (ay 21) (aL 21)
 kN:Binds K (aL 21) ["self","state","sign"] []
 kO:Meth K (ay 56) "live_step" (ay 21)
 sr:fh K "check_text" "check_text" ly (ay 22) (aL 22)
 Ca:Binds K (aL 22) ["thing"] []
 Cb:mg "check_text"=some (.ref (ay 22))
 LU:fh K "walk" "walk" Fc (ay 23) (aL 23)
 QK:Binds K (aL 23) ["dialect","text"] []
 QL:mg "walk"=some (.ref (ay 23))
 Ea:fh K "end_of" "end_of" yj (ay 24) (aL 24)
 LV:Binds K (aL 24) ["walked"] []
 LW:mg "end_of"=some (.ref (ay 24))
 yO:fh K "table_of" "table_of" qg (ay 25) (aL 25)
 FJ:Binds K (aL 25) ["text","kinds"] []
 FL:mg "table_of"=some (.ref (ay 25))
 lM:fh K "reading_of" "reading_of" lA (ay 26) (aL 26)
 su:Binds K (aL 26) ["dialect","text"] []
 sy:mg "reading_of"=some (.ref (ay 26))
 vH:fh K "signs_for" "signs_for" jA (ay 27) (aL 27)
 Eb:Binds K (aL 27) ["dialects"] []
 Ec:mg "signs_for"=some (.ref (ay 27))
 sC:fh K "__init__" "Couple.__init__" gh (ay 28) (aL 28)
 jI:Binds K (aL 28) ["self","one","other"] []
 yP:fh K "steps" "Couple.steps" i8 (ay 29) (aL 29)
 nX:Binds K (aL 29) ["self","pair","sign"] []
 nY:Meth K (ay 57) "steps" (ay 29)
 mR:fh K "is_known_step" "is_known_step" iA (ay 30) (aL 30)
 wK:Binds K (aL 30) ["steps","known"] []
 wL:mg "is_known_step"=some (.ref (ay 30))
 qx:fh K "agrees_at" "Couple.agrees_at" fN (ay 31) (aL 31)
 qy:Binds K (aL 31) ["self","pair","known"] []
 qz:Meth K (ay 57) "agrees_at" (ay 31)
 A0:fh K "is_pair" "is_pair" uh (ay 32) (aL 32)
 IS:Binds K (aL 32) ["one","other","thing"] []
 IT:mg "is_pair"=some (.ref (ay 32))
 lN:fh K "is_alike" "is_alike" ja (ay 33) (aL 33)
 qA:Binds K (aL 33) ["one","other","pairs"] []
 qB:mg "is_alike"=some (.ref (ay 33))
 nZ:fh K "is_parted" "is_parted" nL (ay 34) (aL 34)
 vI:Binds K (aL 34) ["one","other","text"] []
 vJ:mg "is_parted"=some (.ref (ay 34))
 uS:fh K "put_out" "put_out" um (ay 35) (aL 35)
 A6:Binds K (aL 35) ["kind","sign"] []
 A9:mg "put_out"=some (.ref (ay 35))
 pO:fh K "more_behind" "more_behind" j0 (ay 36) (aL 36)
 zK:Binds K (aL 36) ["more","steps","sign"] []
 zL:mg "more_behind"=some (.ref (ay 36))
 wM:fh K "leads" "Parting.leads" fF (ay 37) (aL 37)
 wN:Binds K (aL 37) ["self","place"] []
 wO:Meth K (ay 58) "leads" (ay 37)
 sD:fh K "is_good" "Parting.is_good" gi (ay 38) (aL 38)
 sE:Binds K (aL 38) ["self","place"] []
 sF:Meth K (ay 58) "is_good" (ay 38)
 Ed:Ka K "search" "search" eG (ay 39) (aL 39) (.ref (ay 68))
 Uj:Binds K (aL 39) ["first","searched","most"] []
 LX:mg "search"=some (.ref (ay 39))
 Ba:fh K "text_to" "text_to" uo (ay 40) (aL 40)
 IU:Binds K (aL 40) ["came","place"] []
 IV:mg "text_to"=some (.ref (ay 40))
 qC:fh K "__init__" "Parting.__init__" fO (ay 41) (aL 41)
 qD:Binds K (aL 41) ["self","one","other"] []
 oQ:fh K "compare" "compare" oM (ay 42) (aL 42)
 uT:Binds K (aL 42) ["one","other"] []
 uU:mg "compare"=some (.ref (ay 42))
 eH:fh K "_law_cell_at" "_law_cell_at" jb (ay 43) (aL 43)
 gA:Binds K (aL 43) ["_law_script","_law_k"] []
 gB:mg "_law_cell_at"=some (.ref (ay 43))
 iV:fh K "_law_mixed" "_law_mixed" lB (ay 44) (aL 44)
 lO:Binds K (aL 44) ["_law_number_here","_law_salt"] []
 lP:mg "_law_mixed"=some (.ref (ay 44))
 gX:fh K "_law_number" "_law_number" j3 (ay 45) (aL 45)
 kc:Binds K (aL 45) ["_law_cell","_law_salt"] []
 kg:mg "_law_number"=some (.ref (ay 45))
 jJ:fh K "_law_some" "_law_some" nM (ay 46) (aL 46)
 n8:Binds K (aL 46) ["_law_number_here","_law_many","_law_menu"] []
 oh:mg "_law_some"=some (.ref (ay 46))
 lQ:fh K "_law_menus" "_law_menus" lC (ay 47) (aL 47)
 sI:Binds K (aL 47) ["_law_way"] []
 sM:mg "_law_menus"=some (.ref (ay 47))
 vK:fh K "_law_told" "_law_told" nN (ay 48) (aL 48)
 Ef:Binds K (aL 48) ["_law_cell"] []
 Eg:mg "_law_told"=some (.ref (ay 48))
 g8:fh K "_law_made" "_law_made" nO (ay 49) (aL 49)
 jK:Binds K (aL 49) ["_law_told_here"] []
 jL:mg "_law_made"=some (.ref (ay 49))
 vL:fh K "_law_near" "_law_near" nP (ay 50) (aL 50)
 Eh:Binds K (aL 50) ["_law_told_here","_law_number_here"] []
 Ei:mg "_law_near"=some (.ref (ay 50))
 iW:fh K "_law_alike" "_law_alike" lD (ay 51) (aL 51)
 lR:Binds K (aL 51) ["_law_told_here","_law_number_here"] []
 lS:mg "_law_alike"=some (.ref (ay 51))
 iG:fh K "_law_is_alike" "_law_is_alike" iB (ay 52) (aL 52)
 mS:Binds K (aL 52) ["_law_one","_law_other"] []
 mT:mg "_law_is_alike"=some (.ref (ay 52))
 kh:fh K "_law_as_far" "_law_as_far" j4 (ay 53) (aL 53)
 pP:Binds K (aL 53) ["_law_one","_law_other","_law_third"] []
 pQ:mg "_law_as_far"=some (.ref (ay 53))
 Uk:fh K "law" "law" vD (ay 54) (aL 54)
 Z4:Binds K (aL 54) ["_law_script"] []
 Z5:mg "law"=some (.ref (ay 54))
 aG:GL K (ay 55)
 Bb:mg "Dialect"=some (.ref (ay 55))
 Bc:Mk K (ay 55) (ay 9)
 bM:dQ K (ay 55) "parts"
 bH:dQ K (ay 55) "quotes"
 bD:dQ K (ay 55) "frees"
 eL:dQ K (ay 55) "twin"
 c7:dQ K (ay 55) "wide"
 dg:dQ K (ay 55) "thin"
 dJ:dQ K (ay 55) "stray"
 eY:GL K (ay 56)
 FP:mg "Turn"=some (.ref (ay 56))
 FT:Mk K (ay 56) (ay 19)
 bA:dQ K (ay 56) "dialect"
 dP:GL K (ay 57)
 Ej:mg "Couple"=some (.ref (ay 57))
 Ek:Mk K (ay 57) (ay 28)
 gC:dQ K (ay 57) "first"
 fH:dQ K (ay 57) "second"
 eN:dQ K (ay 57) "signs"
 jk:GL K (ay 58)
 IW:mg "Parting"=some (.ref (ay 58))
 IX:Mk K (ay 58) (ay 41)
 dh:dQ K (ay 58) "couple"
 vM:∃ds,Vals [V.non] ds/\Binds K (aL 39) ["first","searched","most"] ds
 LY:mg "DialectError"=some (.ref (ay 59))
 LZ:Vu K (ay 59) (ay 60) Nc none
 O2:mg "NoDialect"=some (.ref (ay 61))
 O3:Vu K (ay 61) (ay 62) (.ref (ay 59)::Nc) none
 Cc:mg "all"=none
 NV:mg "bool"=none
 bQ:mg "isinstance"=none
 gD:mg "len"=none
 HC:mg "list"=none
 QM:mg "ord"=none
 L0:mg "range"=none
 jM:mg "reversed"=none
 Cd:mg "str"=none
 sN:mg "tuple"=none
 QN:mg "zip"=none
 lT:∃t,mg "LINE"=some (.str (cA 0) t)
 lU:(cA 0)=("\n":Str)
 lV:∃t,mg "LETTERS_AND_FIGURES"=some (.str (cA 1) t)
 lW:(cA 1)=("abcdefghijklmnopqrstuvwxyzABCDEFGHIJKLMNOPQRSTUVWXYZ0123456789":Str)
 zM:∃t,mg "MOST_SIGNS"=some (.int 2000 t)
 cE:mg "START"=some (.ref (ay 63))
 fu:∃(o:Obj)(its:Array Value)(n:Nat),K.lookup (ay 63)=some o/\o.cls=.type "tuple"/\o.data=.seq its n/\its.size<=sizeLine/\Vals [.str ("row":Str),.str ("":Str)] its.toList
 mU:mg "NOTHING_MORE"=some (.ref (ay 64))
 mV:∃(o:Obj)(its:Array Value)(n:Nat),K.lookup (ay 64)=some o/\o.cls=.type "tuple"/\o.data=.seq its n/\its.size<=sizeLine/\Vals [.ref (ay 65),.ref (ay 66)] its.toList
 jl:∃(o:Obj)(its:Array Value)(n:Nat),K.lookup (ay 65)=some o/\o.cls=.type "tuple"/\o.data=.seq its n/\its.size<=sizeLine/\Vals [] its.toList
 jm:∃(o:Obj)(its:Array Value)(n:Nat),K.lookup (ay 66)=some o/\o.cls=.type "tuple"/\o.data=.seq its n/\its.size<=sizeLine/\Vals [] its.toList
section
variable{P:Program}{w:World}{K:W.Frag}{mg:Str->Option Value}{base:Heap}{ay:Nat->Addr}{aL:Nat->FuncData}{cA:Nat->Str}
def wQ:Sp:=λvs H Q _=>∃c:Nat,vs=[.str (sg c)]/\Pn c/\Q (.bl true) H
section
variable(T:Txt K mg ay aL cA)
include T
theorem mW:bh P w K mg base fE 1 (ay 0) (aL 0) ["sign"] wQ:=by
 refine T.ji.ok mK (λvs H Q E h=>?_) (λcdv A outer s H vs Q E hr h=>?_)
 ·obtain⟨c,rfl,_⟩:=h;rfl
 ·have hu:=aR hr
  have gb:=hr.aM
  obtain⟨c,rfl,⟨h1,h2,h3⟩,k⟩:=h
  refine⟨_,(ah (di 1 mK.nd (tO JL T.QM (af (pv 0) ai)))
   (ao (aB (ia (yi OH (pv 1) aj) (ia (yi Sx (pv 1) aj) (g9 (yi vv (pv 1) aj))))))),?_⟩
  refine⟨_,O,_,O,O,?_⟩
  refine⟨_,O,_,_,O,O,_,O,TF (by show(32:Int)<=((c:Nat):Int);omega) ?_⟩
  refine⟨_,O,_,_,O,O,_,O,TF (by show((c:Nat):Int)<=126;omega) ?_⟩
  refine⟨_,O,O,?_⟩
  have e:¬(V.int ((c:Nat):Int)=V.int 37):=λz=>h3 (by injection z with z;omega)
  have e2:(!decide (V.int ((c:Nat):Int)=V.int 37))=true:=by rw[aak e];rfl
  show Q (.bl (!decide (V.int ((c:Nat):Int)=V.int 37))) H
  rw[e2]
  exact k
def qE:Sp:=λvs H Q _=>∃z:Str,vs=[.str z]/\qh z/\z.length<=2000/\∀H',aI H H'->Q (.bl true) H'
theorem qF:bh P w K mg base fE 2 (ay 1) (aL 1) ["text"] qE:=by
 have jn:=@mW P w K mg base ay aL cA T
 refine T.jH.ok qo (λvs H Q E h=>?_) (λcdv A outer s H vs Q E hr h=>?_)
 ·obtain⟨z,rfl,_⟩:=h;rfl
 ·have hu:=aR hr
  have gb:=hr.aM
  obtain⟨z,rfl,g,hz,k⟩:=h
  refine⟨_,(ao (aB (tO (oG K rfl rfl) T.Cc (af (k6 rfl (show cz ["text"] (au dZ) ["sign"] 1 [] _ from OV) (nC (pv 0)) (λ_ _ _ _=>(nt 0 Vx)) (λ_ _ _ _=>kZ) (λ_ _ _ _=>(Sj (yi aV (pv 0) (jz rfl T.lT.choose_spec)) (g9 (dY jn hr T.nU T.ji.kp T.nT (af (pv 0) ai)))))) ai)))),?_⟩
  refine⟨_,O,z,O,λD hD=>?_⟩
  have hsz:z.cps.toList.length=z.length:=by rw[aap];rfl
  refine xZ (λi ys τ H2=>(∃v,τ=[v])/\aI H H2/\H2 D=some (.lst ys)/\ys=(List.replicate i true).map V.bl) ⟨⟨_,rfl⟩,aq hD,ak,rfl⟩ (λi ys τ H2 _ p=>p.2.2.1) ?_ ?_
  ·rintro i c ys τ H2 hi ⟨⟨v,rfl⟩,s2,hl,rfl⟩
   have hc:c∈z.cps.toList:=aaZ hi
   have hil:i<z.cps.toList.length:=(aau.mp hi).1
   refine Fd ?_
   have fin:∀B:Prop,B=B->H2 D=some (.lst ((List.replicate i true).map V.bl))/\((List.replicate i true).map V.bl).length<sizeLine/\(∃v,[some (V.str (sg c))]=[v])/\aI H (upd H2 D (.lst ((List.replicate i true).map V.bl++[.bl true])))/\(upd H2 D (.lst ((List.replicate i true).map V.bl++[.bl true]))) D=some (.lst ((List.replicate i true).map V.bl++[.bl true]))/\(List.replicate i true).map V.bl++[.bl true]=(List.replicate (i+1) true).map V.bl:=λ_ _=>by
    refine⟨hl,?_,⟨_,O⟩,aS hD s2,ak,?_⟩
    ·rw[aav,abr]
     exact aaG (show i<2001 by omega) (by decide)
    ·rw[List.replicate_succ',aaS];rfl
   refine⟨_,O,O,_,O,bI (λ_=>?_) (λh=>?_)⟩
   ·exact fin True rfl
   ·have hp:Pn c:=(g c hc).resolve_left (sgL T.lU h)
    exact⟨_,O,c,O,hp,fin True rfl⟩
  ·rintro ys τ H2 ⟨⟨v,rfl⟩,s2,hl,rfl⟩
   refine⟨D,List.replicate _ true,O,bK.of hl,?_⟩
   have e:(List.replicate z.cps.toList.length true).all id=true:=by
    rw[aa7]
    intro b hb
    exact(List.mem_replicate.mp hb).2
   rw[e]
   exact k H2 s2
def FU:Sp:=λvs H Q _=>∃z:Str,vs=[.str z]/\qh z/\z.length<=2000/\∀H',aI H H'->Q (.bl true) H'
theorem yQ:bh P w K mg base fE 3 (ay 2) (aL 2) ["thing"] FU:=by
 have sO:=@qF P w K mg base ay aL cA T
 refine T.uO.ok FD (λvs H Q E h=>?_) (λcdv A outer s H vs Q E hr h=>?_)
 ·obtain⟨z,rfl,_⟩:=h;rfl
 ·have hu:=aR hr
  have gb:=hr.aM
  obtain⟨z,rfl,g,hz,k⟩:=h
  refine⟨_,(ah (aK (PW.pt (iM (cJ (bR (tO (dz K rfl) T.bQ (af (pv 0) (af (Nk "str" T.Cd) ai))))) (f7 (dR JH (tO cN T.gD (af (pv 0) ai)) (MV rfl T.zM.choose_spec))))) (ao (aB fU)) aC)
   (ao (aB (dY sO hr T.rY T.jH.kp T.rX (af (pv 0) ai))))),?_⟩
  refine⟨_,O,_,_,_,true,O,.str _,.inl ⟨_,O,O⟩,true,O,eg ?_⟩
  refine⟨_,O,z,O,aaq hz (by decide),_,_,O,O,_,O,KN (by omega) ?_⟩
  exact⟨_,O,z,O,g,by omega,k⟩
def NW:Sp:=λvs H Q _=>∃z:Str,vs=[.str z]/\z.length<=4000/\Q (.str (bF z)) H
theorem HD:bh P w K mg base fE 1 (ay 3) (aL 3) ["text"] NW:=by
 refine T.FI.ok xT (λvs H Q E h=>?_) (λcdv A outer s H vs Q E hr h=>?_)
 ·obtain⟨z,rfl,_⟩:=h;rfl
 ·have hu:=aR hr
  have gb:=hr.aM
  obtain⟨z,rfl,RT,k⟩:=h
  have e0:Str.ofString ""=⟨(dw []).toArray⟩:=by decide +kernel
  have e0:([some (V.str z),some (V.str ("":Str)),none]:St)=[some (.str z),some (.str ⟨(dw []).toArray⟩),none]:=by rw[e0]
  refine⟨_,(ah (di 1 xT.nd az)
   (ah (ic aaW rfl (nC (pv 0)) (nt 2 xT.nd)
   (ao (aK (cW cM (pv 2) (pv 1) rfl) (ao (di 1 xT.nd (aJ bN (pv 1) (pv 2)))) aC)))
   (ao (aB (pv 1))))),?_⟩
  refine⟨_,O,_,O,?_⟩
  unfold bF at k
  refine qX (λi σ H2=>H2=H/\∃v,σ=[some (.str z),some (.str ⟨(dw (z.cps.toList.take i)).toArray⟩),v]) ⟨rfl,none,by rw[List.take_zero];exact e0⟩ ?_ ?_
  ·rintro i c σ H2 hi ⟨rfl,v,rfl⟩
   have hl:(dw (z.cps.toList.take i)).length<=4000:=by
    refine aaq (AI _) ?_
    rw[aa6,aap]
    have:z.cps.size<=4000:=RT
    omega
   refine⟨_,O,_,O,_,_,O,O,_,O,?_⟩
   refine bI (λha=>?_) (λha=>?_)
   ·have ha':away ⟨(dw (z.cps.toList.take i)).toArray⟩ c=true:=ha
    refine⟨_,O,_,O,_,_,O,O,?_,O,some (.str (sg c)),?_⟩
    ·refine aaq (show _<=4001 from ?_) (by decide)
     show Array.size _+1<=4001
     rw[aam];omega
    ·rw[take_snoc hi,lE]
     unfold dH
     rw[aaj ha',←MR]
     rfl
   ·have ha':¬away ⟨(dw (z.cps.toList.take i)).toArray⟩ c=true:=ha
    refine⟨O,some (.str (sg c)),?_⟩
    rw[take_snoc hi,lE]
    unfold dH
    rw[aai ha']
    rfl
  ·rintro σ H2 ⟨rfl,v,rfl⟩
   refine⟨_,O,?_⟩
   rw[aaJ (aan _)]
   exact k
def IY:Sp:=λvs H Q _=>∃(t:Str)(m:Int),vs=[.str t,.int m]/\0<=m/\m<=3/\∀H',aI H H'->Q (.str (zD t m.toNat)) H'
theorem IZ:bh P w K mg base fE 1 (ay 4) (aL 4) ["some","many"] IY:=by
 refine T.D6.ok AX (λvs H Q E h=>?_) (λcdv A outer s H vs Q E hr h=>?_)
 ·obtain⟨t,m,rfl,_⟩:=h;rfl
 ·have hu:=aR hr
  have gb:=hr.aM
  obtain⟨t,m,rfl,hm,hm',k⟩:=h
  have hz:(cA 1).cps.toList=dj:=by rw[T.lW];rfl
  refine⟨_,(ah (MP (i:=2) rfl AX.nd rfl rfl (show cz ["some","many","free"] (au rz) ["sign","some"] 1 [0] _ from OV) (nC (jz rfl T.lV.choose_spec)) (λ_ _ _ _=>(nt 0 (show(["sign","some"]:List Str).Nodup by decide +kernel))) (λ_ _ _ _=>(MO (cW cM (pv 0) (pv 1) rfl))) (λ_ _ _ _=>(pv 0)))
   (ao (aB (ig K rfl PySem.F.plainAttrs_str PySem.F.slot_str_join PySem.F.type_str_join (C9 K rfl) az (af (dG (J9 K rfl) (pv 2) fB (fD (pv 1))) ai))))),?_⟩
  refine⟨_,O,λD hD=>?_⟩
  refine xZ (λi ys τ H2=>(∃v,τ=[v,some (.str t)])/\aI H H2/\H2 D=some (.lst ys)/\ys=((dj.take i).filter (away t)).map (λc=>V.str (sg c))) ⟨⟨_,rfl⟩,aq hD,ak,rfl⟩ (λi ys τ H2 _ p=>p.2.2.1) ?_ ?_
  ·rintro i c ys τ H2 hi ⟨⟨v,rfl⟩,s2,hl,hy⟩
   have hi':dj[i]?=some c:=by rw[←hz];exact hi
   refine⟨_,O,_,O,_,_,O,O,_,O,?_⟩
   have hlen:ys.length<=62:=by
    rw[hy,aav]
    refine aaq (List.length_filter_le _ _) ?_
    rw[aa6,DH];omega
   refine bI (λhc=>?_) (λhc=>?_)
   ·refine⟨_,O,hl,aaK hlen (by decide),⟨_,O⟩,aS hD s2,ak,?_⟩
    have hc':away t c=true:=hc
    rw[take_snoc hi',List.filter_append,List.filter_cons,aaj hc',List.filter_nil,aaS,hy]
    rfl
   ·refine⟨⟨_,O⟩,s2,hl,?_⟩
    have hc':¬away t c=true:=hc
    rw[take_snoc hi',List.filter_append,List.filter_cons,aai hc',List.filter_nil,aaH,hy]
  ·rintro ys τ H2 ⟨⟨v,rfl⟩,s2,hl,hy⟩
   have hy':ys=(dj.filter (away t)).map (λc=>V.str (sg c)):=by
    rw[hy,hz,aaJ (aan _)]
   refine⟨O,_,O,_,O,_,O,D,_,O,bK.of hl,λp hp=>?_⟩
   have e:v9 ys none (some m)=(zC t dj m.toNat).map (λc=>V.str (sg c)):=by
    unfold v9 zC
    rw[HT.JQ,List.drop_zero,Nat.sub_zero,hy',List.map_take]
    rw[show m=((m.toNat:Nat):Int) by omega,HT.MF]
    rw[abE]
    by_cases hq:m.toNat<=(List.map (λc=>V.str (sg c)) (List.filter (away t) dj)).length
    ·rw[Nat.min_eq_left hq]
    ·rw[Nat.min_eq_right (by omega),aaJ (aan _),aaJ (by omega)]
   rw[e]
   refine⟨_,p,(zC t dj m.toNat).map sg,O,O,?_,?_,?_⟩
   ·rw[List.map_map]
    exact bK.of ak
   ·rw[NC]
    have:=rF t dj m.toNat
    omega
   ·rw[EY]
    exact k _ (s2.trans (aq hp))
def Ce(K:W.Frag)(C:Addr):Sp:=λvs H Q _=>∃(x dx:Addr)(p q f:Str)(b1 b2 b3 b4:Bool),vs=[.ref x]/\H x=some (.ins C dx (BF p q f b1 b2 b3 b4))/\q.length<=2/\∀(l:Addr)(xs:List V)(H':Hp),H l=none->H' l=some (.lst xs)->Paired (uq K H') xs (cont q.cps.toList)->aI H H'->Q (.ref l) H'
theorem Cf:bh P w K mg base fE 1 (ay 5) (aL 5) ["dialect"] (Ce K (ay 55)):=by
 refine T.vG.ok lG (λvs H Q E h=>?_) (λcdv A outer s H vs Q E hr h=>?_)
 ·obtain⟨x,dx,p,q,f,b1,b2,b3,b4,rfl,_⟩:=h;rfl
 ·have hu:=aR hr
  have gb:=hr.aM
  obtain⟨x,dx,p,q,f,b1,b2,b3,b4,rfl,hx,hq2,k⟩:=h
  refine⟨_,(ah (di 1 lG.nd (eF (af (cO rfl T.cE) (af (aD (af az (af az ai))) (af (aD (af az (af az ai))) (af (aD (af az (af az ai))) (af (aD (af az (af az ai))) ai)))))))
   (ah (ic aaW rfl (nC (aO K rfl (pv 0) rfl)) (nt 2 lG.nd)
   (ao (iS (ig K rfl aaX PySem.F.slot_list_extend PySem.F.type_list_extend HS (pv 1) (af (eF (af (aD (af az (af (pv 2) ai))) (af (aD (af az (af (pv 2) ai))) (af (aD (af az (af (pv 2) ai))) ai)))) ai)))))
   (ao (aB (pv 1))))),?_⟩
  refine⟨by decide,λt1 h1=>⟨by decide,λt2 h2=>⟨by decide,λt3 h3=>⟨by decide,λt4 h4=>⟨(by show 5<=sizeLine;decide),λl hl=>?_⟩⟩⟩⟩⟩
  have s1:=aq (o:=HO.tup [.str ("cell":Str),.str ("":Str)]) h1
  have s2:=aq (o:=HO.tup [.str ("plain":Str),.str ("":Str)]) h2
  have s3:=aq (o:=HO.tup [.str ("behind":Str),.str ("":Str)]) h3
  have s4:=aq (o:=HO.tup [.str ("freed":Str),.str ("":Str)]) h4
  have s5:=aq (o:=HO.lst [.ref (ay 63),.ref t1,.ref t2,.ref t3,.ref t4]) hl
  have p0:Paired (uq K (upd (upd (upd (upd (upd H t1 (.tup [.str ("cell":Str),.str ("":Str)])) t2 (.tup [.str ("plain":Str),.str ("":Str)])) t3 (.tup [.str ("behind":Str),.str ("":Str)])) t4 (.tup [.str ("freed":Str),.str ("":Str)])) l (.lst [.ref (ay 63),.ref t1,.ref t2,.ref t3,.ref t4]))) [.ref (ay 63),.ref t1,.ref t2,.ref t3,.ref t4] (cont []) :=
   TH (.inr T.fu) (av (((s2.trans s3).trans s4).trans s5) (aN.of ak)) (av ((s3.trans s4).trans s5) (aN.of ak)) (av (s4.trans s5) (aN.of ak)) (av s5 (aN.of ak))
  have sH:=(((s1.trans s2).trans s3).trans s4).trans s5
  have NX:(upd (upd (upd (upd (upd H t1 (.tup [.str ("cell":Str),.str ("":Str)])) t2 (.tup [.str ("plain":Str),.str ("":Str)])) t3 (.tup [.str ("behind":Str),.str ("":Str)])) t4 (.tup [.str ("freed":Str),.str ("":Str)])) l (.lst [.ref (ay 63),.ref t1,.ref t2,.ref t3,.ref t4])) l=some (.lst [.ref (ay 63),.ref t1,.ref t2,.ref t3,.ref t4]):=ak
  have El:H l=none:=(((s1.trans s2).trans s3).trans s4).free hl
  generalize upd (upd (upd (upd (upd H t1 (.tup [.str ("cell":Str),.str ("":Str)])) t2 (.tup [.str ("plain":Str),.str ("":Str)])) t3 (.tup [.str ("behind":Str),.str ("":Str)])) t4 (.tup [.str ("freed":Str),.str ("":Str)])) l (.lst [.ref (ay 63),.ref t1,.ref t2,.ref t3,.ref t4])=H5 at p0 sH NX⊢
  refine⟨_,O,x,(ay 55),dx,_,_,O,sH _ _ hx,T.aG,T.bH,O,q,O,?_⟩
  refine qX (λi σ H2=>(∃v,σ=[some (.ref x),some (.ref l),v])/\aI H H2/\∃xs,H2 l=some (.lst xs)/\Paired (uq K H2) xs (cont (q.cps.toList.take i))) ⟨⟨_,rfl⟩,sH,_,NX,p0⟩ ?_ ?_
  ·rintro i c σ H2 hi ⟨⟨v,rfl⟩,s2,xs,hxs,hp⟩
   have hi2:i<2:=by
    have:=(aau.mp hi).1
    rw[aap]at this
    exact aaG this hq2
   refine⟨_,O,.inl ⟨O,_,bK.of hxs⟩,_,O,(by show 2<=sizeLine;decide),λu1 g1=>⟨_,O,(by show 2<=sizeLine;decide),λu2 g2=>⟨_,O,(by show 2<=sizeLine;decide),λu3 g3=>⟨(by show 3<=sizeLine;decide),λm hm=>?_⟩⟩⟩⟩
   have z1:=aq (o:=HO.tup [.str ("within":Str),.str (sg c)]) g1
   have z2:=aq (o:=HO.tup [.str ("doubt":Str),.str (sg c)]) g2
   have z3:=aq (o:=HO.tup [.str ("freed":Str),.str (sg c)]) g3
   have z4:=aq (o:=HO.lst [.ref u1,.ref u2,.ref u3]) hm
   have zz:=((z1.trans z2).trans z3).trans z4
   have hlen:xs.length<=20:=by
    rw[hp.length,KO,aa6];omega
   refine⟨l,m,xs,_,O,O,zz _ _ hxs,ak,?_,⟨_,O⟩,?_,_,ak,?_⟩
   ·exact aaq (show xs.length+3<=23 by omega) (by decide)
   ·exact aS El (s2.trans zz)
   ·rw[take_snoc hi,Iu]
    refine cT (λa b h=>uq.but (zz _ _ hxs) h) (cC (cT (λa b h=>h.mono zz) hp) ?_)
    exact TJ (av ((z2.trans z3).trans z4) (aN.of ak)) (av (z3.trans z4) (aN.of ak)) (av z4 (aN.of ak))
  ·rintro σ H2 ⟨⟨v,rfl⟩,s2,xs,hxs,hp⟩
   rw[aaJ (aan _)]at hp
   exact⟨_,O,k l xs H2 El hxs hp s2⟩
def FW(K:W.Frag)(C:Addr):Sp:=λvs H Q _=>∃(x dx s:Addr)(w u:Str)(p q f:Str)(b1 b2 b3 b4:Bool),vs=[.ref x,.ref s]/\H x=some (.ins C dx (BF p q f b1 b2 b3 b4))/\aN K H s [.str w,.str u]/\Q (.bl (cD f w u)) H
theorem yR:bh P w K mg base fE 1 (ay 6) (aL 6) ["dialect","state"] (FW K (ay 55)):=by
 refine T.oO.ok FF (λvs H Q E h=>?_) (λcdv A outer s H vs Q E hr h=>?_)
 ·obtain⟨x,dx,s,w,u,p,q,f,b1,b2,b3,b4,rfl,_⟩:=h;rfl
 ·have hu:=aR hr
  have gb:=hr.aM
  obtain⟨x,dx,s,w,u,p,q,f,b1,b2,b3,b4,rfl,hx,hs,k⟩:=h
  unfold cD at k
  refine⟨_,(ah (aK (PW.pt (iM (dR aV (cS K (pv 1) aj) az) (f7 (dR aV (cS K (pv 1) aj) az)))) (ao (aB fU)) aC)
   (ao (aB (xG cM (cS K (pv 1) aj) (aO K rfl (pv 0) rfl) rfl)))),?_⟩
  refine⟨_,O,s,_,_,_,O,O,hs,O,O,_,O,bI (λ(h1:aY u ("":Str)=true)=>kY ?_) (λ(h1:¬aY u ("":Str)=true)=>?_)⟩
  ·rw[aaj h1]at k
   exact k
  rw[aai h1]at k
  refine⟨_,O,s,_,_,_,O,O,hs,O,O,_,O,bI (λ(h2:aY w ("doubt":Str)=true)=>?_) (λ(h2:¬aY w ("doubt":Str)=true)=>?_)⟩
  ·rw[aaj h2]at k
   exact k
  rw[aai h2]at k
  exact⟨_,O,s,_,_,_,O,O,hs,O,_,O,x,(ay 55),dx,_,_,O,hx,T.aG,T.bD,O,_,_,O,O,k⟩
def uV(K:W.Frag)(C:Addr):Sp:=λvs H Q _=>∃(y dy s:Addr)(w u:Str)(x:bu),vs=[.ref y,.ref s]/\H y=some (.ins C dy (iU x))/\gm x/\aN K H s [.str w,.str u]/\gQ x.2.1 w u/\cD x.2.2.1 w u=true/\∀H',aI H H'->Q (.bl true) H'
theorem uW:bh P w K mg base fE 2 (ay 7) (aL 7) ["dialect","thing"] (uV K (ay 55)):=by
 have oR:=@yR P w K mg base ay aL cA T
 have Em:=@Cf P w K mg base ay aL cA T
 refine T.iE.ok uI (λvs H Q E h=>?_) (λcdv A outer s H vs Q E hr h=>?_)
 ·obtain⟨y,dy,s,w,u,x,rfl,_⟩:=h;rfl
 ·have hu:=aR hr
  have gb:=hr.aM
  obtain⟨y,dy,s,w,u,x,rfl,hy,g,hs,hst,RU,k⟩:=h
  have fz:=hr.units
  have hq2:=g.q2
  refine⟨_,(ah (aK (PW.pt (iM (cJ (bR (tO (rm K rfl) T.bQ (af (pv 1) (af (Nk "tuple" T.sN) ai))))) (f7 (dR vv (tO (dM K rfl) T.gD (af (pv 1) ai)) aj)))) (ao (aB fU)) aC)
   (ah (aK (PW.pt (iM (cJ (bR (tO (dz K rfl) T.bQ (af (cS K (pv 1) aj) (af (Nk "str" T.Cd) ai))))) (f7 (cJ (bR (tO (dz K rfl) T.bQ (af (cS K (pv 1) aj) (af (Nk "str" T.Cd) ai)))))))) (ao (aB fU)) aC)
   (ao (aB (ia (xG (P6 K rfl fz) (pv 1) (dY Em hr T.D8 T.vG.kp T.D7 (af (pv 0) ai)) rfl) (g9 (dY oR hr T.uQ T.oO.kp T.uP (af (pv 0) (af (pv 1) ai))))))))),?_⟩
  refine⟨_,O,_,_,_,_,O,.WN hs,O,_,O,eg ?_⟩
  refine⟨_,O,_,_,O,.inr hs,O,_,O,WL (by simp) (⟨_,O,_,_,_,_,O,O,hs,O,_,_,_,_,O,.str _,.inl ⟨_,⟨O,O⟩⟩,_,O,eg (⟨_,O,_,_,_,_,O,O,hs,O,_,_,_,_,O,.str _,.inl ⟨_,⟨O,O⟩⟩,_,O,eg (⟨_,O,_,O,_,_,_,_,_,_,_,_,_,O,hy,(by omega),λl xs H1 El hl prs s1=>?_⟩)⟩)⟩)⟩
  obtain⟨i,hi⟩:=List.getElem?_of_mem (ND hst)
  obtain⟨e,he,a,rfl,ha⟩:=vF prs i _ hi
  refine⟨s,l,_,xs,O,O,av s1 hs,O,bK.of hl,λw' hw'=>?_,λr hr'=>?_⟩
  ·obtain⟨j,hj⟩:=List.getElem?_of_mem hw'
   obtain⟨⟨k1,k2⟩,_,a',rfl,ha'⟩:=bW prs j w' hj
   exact⟨a',_,O,ha',O⟩
  have hrt:r=true:=hr'.mpr ⟨_,aaZ he,a,_,rfl,ha,by show(xK (.str w) (.str w)&&(xK (.str u) (.str u)&&true))=true;rw[yc rfl,yc rfl];rfl⟩
  subst hrt
  refine⟨_,O,kY ⟨_,O,_,O,y,dy,s,w,u,_,_,_,_,_,_,_,O,s1 _ _ hy,av s1 hs,?_⟩⟩
  rw[RU]
  exact k _ s1
def o7:Sp:=λvs H Q _=>∃(z:Str)(lo hi:Int),vs=[.str z,.int lo,.int hi]/\Sg z/\lo<=z.length/\(z.length:Int)<=hi/\z.length<=1000/\∀H',aI H H'->Q (.bl true) H'
theorem o8:bh P w K mg base fE 2 (ay 8) (aL 8) ["thing","least","most"] o7:=by
 have jn:=@mW P w K mg base ay aL cA T
 refine T.dF.ok oX (λvs H Q E h=>?_) (λcdv A outer s H vs Q E hr h=>?_)
 ·obtain⟨z,lo,hi,rfl,_⟩:=h;rfl
 ·have hu:=aR hr
  have gb:=hr.aM
  obtain⟨z,lo,hi,rfl,g,hlo,hhi,hz,k⟩:=h
  have VC:z.length<=sizeLine:=aaq hz (by decide)
  refine⟨_,(ah (aK (PW.pt (iM (cJ (bR (tO (dz K rfl) T.bQ (af (pv 0) (af (Nk "str" T.Cd) ai))))) (iM (dR GK (tO cN T.gD (af (pv 0) ai)) (pv 1)) (f7 (dR JH (tO cN T.gD (af (pv 0) ai)) (pv 2)))))) (ao (aB fU)) aC)
   (ao (aB (tO (oG K rfl rfl) T.Cc (af (k6 rfl (show cz ["thing","least","most"] (au dB) ["sign","thing"] 1 [0] _ from OV) (nC (pv 0)) (λ_ _ _ _=>(nt 0 (show(["sign","thing"]:List Str).Nodup by decide +kernel))) (λ_ _ _ _=>kZ) (λ_ _ _ _=>(ia (dY jn hr T.nU T.ji.kp T.nT (af (pv 0) ai)) (g9 (yi aV (ig K rfl PySem.F.plainAttrs_str PySem.F.slot_str_count PySem.F.type_str_count Kd (pv 1) (af (pv 0) ai)) aj))))) ai))))),?_⟩
  refine⟨_,O,_,_,_,true,O,.str _,.inl ⟨_,O,O⟩,true,O,eg ?_⟩
  refine⟨_,O,z,O,VC,_,O,_,_,O,O,_,O,KN (by omega) ?_⟩
  refine⟨_,O,z,O,VC,_,O,_,_,O,O,_,O,KN (by omega) ?_⟩
  refine⟨_,O,z,O,λD hD=>?_⟩
  have hsz:z.cps.toList.length=z.length:=by rw[aap];rfl
  refine xZ (λi ys τ H2=>(∃v,τ=[v,some (.str z)])/\aI H H2/\H2 D=some (.lst ys)/\ys=(List.replicate i true).map V.bl) ⟨⟨_,rfl⟩,aq hD,ak,rfl⟩ (λi ys τ H2 _ p=>p.2.2.1) ?_ ?_
  ·rintro i c ys τ H2 hi ⟨⟨v,rfl⟩,s2,hl,rfl⟩
   have hc:c∈z.cps.toList:=aaZ hi
   have hil:i<z.cps.toList.length:=(aau.mp hi).1
   refine Fd ?_
   refine⟨_,O,c,O,g.pr c hc,true,O,kY ?_⟩
   refine⟨_,O,O,_,O,z,c,O,O,O,?_⟩
   have e:decide (V.int (PyProof.Rows.cnt c z.cps.toList)=V.int 1)=true:=by rw[GX g.nd hc];exact aas rfl
   rw[e]
   refine⟨hl,?_,⟨_,O⟩,aS hD s2,ak,?_⟩
   ·rw[aav,abr]
    exact aaG (show i<1001 by omega) (by decide)
   ·rw[List.replicate_succ',aaS];rfl
  ·rintro ys τ H2 ⟨⟨v,rfl⟩,s2,hl,rfl⟩
   refine⟨D,List.replicate _ true,O,bK.of hl,?_⟩
   have e:(List.replicate z.cps.toList.length true).all id=true:=by
    rw[aa7]
    intro b hb
    exact(List.mem_replicate.mp hb).2
   rw[e]
   exact k H2 s2
def o9(C:Addr):Sp:=λvs H Q _=>∃(x dx:Addr)(p q f:Str)(b1 b2 b3 b4:Bool),vs=.ref x::kD p q f b1 b2 b3 b4/\H x=some (.ins C dx [])/\Gd p q f/\∀H',H' x=some (.ins C dx (BF p q f b1 b2 b3 b4))->(∀b o,H b=some o->b≠x->H' b=some o)->Q .non H'
theorem iQ:bh P w K mg base fE 3 (ay 9) (aL 9) ["self","parts","quotes","frees","twin","wide","thin","stray"] (o9 (ay 55)):=by
 have fS:=@o8 P w K mg base ay aL cA T
 refine T.qv.ok iO (λvs H Q E h=>?_) (λcdv A outer s H vs Q E hr h=>?_)
 ·obtain⟨x,dx,p,q,f,b1,b2,b3,b4,rfl,_⟩:=h;rfl
 ·have hu:=aR hr
  have gb:=hr.aM
  obtain⟨x,dx,p,q,f,b1,b2,b3,b4,rfl,hx,g,k⟩:=h
  have hp1:=g.p1;have hp3:=g.p3;have hq2:=g.q2;have hf2:=g.f2
  refine⟨_,(ah (aK (cJ (bR (dY fS hr T.fR T.dF.kp T.fQ (af (pv 1) (af aj (af aj ai)))))) (ao kr) aC)
   (ah (aK (cJ (bR (dY fS hr T.fR T.dF.kp T.fQ (af (pv 2) (af aj (af aj ai)))))) (ao kr) aC)
   (ah (aK (cJ (bR (dY fS hr T.fR T.dF.kp T.fQ (af (pv 3) (af aj (af aj ai)))))) (ao kr) aC)
   (ah (ic aaW rfl (GV K rfl (aD (af (pv 4) (af (pv 5) (af (pv 6) (af (pv 7) ai)))))) (nt 8 iO.nd)
   (ao (aK (cJ (bR (tO (dz K rfl) T.bQ (af (pv 8) (af (Nk "bool" T.NV) ai))))) (ao kr) aC)))
   (ah (ie (pv 0) (pv 1) rfl)
   (ah (ie (pv 0) (pv 2) rfl)
   (ah (ie (pv 0) (pv 3) rfl)
   (ah (ie (pv 0) (pv 4) rfl)
   (ah (ie (pv 0) (pv 5) rfl)
   (ah (ie (pv 0) (pv 6) rfl)
   (ao (ie (pv 0) (pv 7) rfl)))))))))))),?_⟩
  refine⟨_,O,p,1,3,O,g.gp,by omega,by omega,by omega,λH1 s1=>⟨true,O,eg ?_⟩⟩
  refine⟨_,O,q,0,2,O,g.gq,by omega,by omega,by omega,λH2 s2=>⟨true,O,eg ?_⟩⟩
  refine⟨_,O,f,0,2,O,g.gf,by omega,by omega,by omega,λH3 s3=>⟨true,O,eg ?_⟩⟩
  refine⟨_,O,_,O,_,O,_,O,(by show 4<=sizeLine;decide),λt ht=>⟨t,O,⟨_,aN.of ak⟩,?_⟩⟩
  have Jt:aI H (upd H3 t (.tup [.bl b1,.bl b2,.bl b3,.bl b4])):=((s1.trans s2).trans s3).trans (aq ht)
  have Mm:(upd H3 t (.tup [.bl b1,.bl b2,.bl b3,.bl b4])) t=some (.tup [.bl b1,.bl b2,.bl b3,.bl b4]):=ak
  generalize upd H3 t (.tup [.bl b1,.bl b2,.bl b3,.bl b4])=H4 at Jt Mm⊢
  refine MA (K:=K) (a:=t) (xs:=[.bl b1,.bl b2,.bl b3,.bl b4]) (λi σ H5=>H5=H4/\∃v,σ=[some (.ref x),some (.str p),some (.str q),some (.str f),some (.bl b1),some (.bl b2),some (.bl b3),some (.bl b4),v]) ⟨rfl,_,rfl⟩ (λi σ H5 _ q=>by rw[q.1];exact aN.of Mm) ?_ ?_
  ·rintro i y σ H5 hi ⟨rfl,v,rfl⟩
   obtain⟨b,rfl⟩:∃b,y=V.bl b:=by
    have hi4:i<4:=(aau.mp hi).1
    match i,hi4,hi with
    | 0,_,hi=>exact⟨_,(aax hi).symm⟩
    | 1,_,hi=>exact⟨_,(aax hi).symm⟩
    | 2,_,hi=>exact⟨_,(aax hi).symm⟩
    | 3,_,hi=>exact⟨_,(aax hi).symm⟩
   refine⟨_,O,_,_,_,true,O,.bl _,.inl ⟨_,O,O⟩,true,O,eg ?_⟩
   exact⟨O,_,O⟩
  ·rintro σ H5 ⟨rfl,v,rfl⟩
   have hx5:=Jt _ _ hx
   refine⟨_,O,_,O,x,(ay 55),dx,_,O,hx5,T.aG,T.bM,(by show 0<1000;decide),_,O,_,O,x,(ay 55),dx,_,O,ak,T.aG,T.bH,(by show 1<1000;decide),_,O,_,O,x,(ay 55),dx,_,O,ak,T.aG,T.bD,(by show 2<1000;decide),_,O,_,O,x,(ay 55),dx,_,O,ak,T.aG,T.eL,(by show 3<1000;decide),_,O,_,O,x,(ay 55),dx,_,O,ak,T.aG,T.c7,(by show 4<1000;decide),_,O,_,O,x,(ay 55),dx,_,O,ak,T.aG,T.dg,(by show 5<1000;decide),_,O,_,O,x,(ay 55),dx,_,O,ak,T.aG,T.dJ,(by show 6<1000;decide),?_⟩
   refine k _ ak λb o e hb=>?_
   rw[aH hb,aH hb,aH hb,aH hb,aH hb,aH hb,aH hb]
   exact Jt _ _ e
def wR(C:Addr):Sp:=λvs H Q _=>∃(x dx:Addr)(p q f:Str)(b1 b2 b3 b4:Bool),vs=[.ref x]/\H x=some (.ins C dx (BF p q f b1 b2 b3 b4))/\∀t,H t=none->Q (.ref t) (upd H t (.tup (kD p q f b1 b2 b3 b4)))
theorem wU:bh P w K mg base fE 1 (ay 10) (aL 10) ["self"] (wR (ay 55)):=by
 refine T.yL.ok wB (λvs H Q E h=>?_) (λcdv A outer s H vs Q E hr h=>?_)
 ·obtain⟨x,dx,p,q,f,b1,b2,b3,b4,rfl,_⟩:=h;rfl
 ·have hu:=aR hr
  have gb:=hr.aM
  obtain⟨x,dx,p,q,f,b1,b2,b3,b4,rfl,hx,k⟩:=h
  refine⟨_,(ao (aB (aD (af (aO K rfl (pv 0) rfl) (af (aO K rfl (pv 0) rfl) (af (aO K rfl (pv 0) rfl) (af (aO K rfl (pv 0) rfl) (af (aO K rfl (pv 0) rfl) (af (aO K rfl (pv 0) rfl) (af (aO K rfl (pv 0) rfl) ai)))))))))),?_⟩
  refine⟨_,O,x,(ay 55),dx,_,_,O,hx,T.aG,T.bM,O,_,O,x,(ay 55),dx,_,_,O,hx,T.aG,T.bH,O,_,O,x,(ay 55),dx,_,_,O,hx,T.aG,T.bD,O,_,O,x,(ay 55),dx,_,_,O,hx,T.aG,T.eL,O,_,O,x,(ay 55),dx,_,_,O,hx,T.aG,T.c7,O,_,O,x,(ay 55),dx,_,_,O,hx,T.aG,T.dg,O,_,O,x,(ay 55),dx,_,_,O,hx,T.aG,T.dJ,O,(by show 7<=sizeLine;decide),λt ht=>?_⟩
  exact k t ht
def qG(C:Addr):Sp:=λvs H Q _=>∃(x dx:Addr)(p q f:Str)(b1 b2 b3 b4:Bool),vs=[.ref x]/\H x=some (.ins C dx (BF p q f b1 b2 b3 b4))/\Gd p q f/\Q (.str (bF ((p++q)++f))) H
theorem qH:bh P w K mg base fE 2 (ay 11) (aL 11) ["self"] (qG (ay 55)):=by
 have FY:=@HD P w K mg base ay aL cA T
 refine T.rZ.ok qp (λvs H Q E h=>?_) (λcdv A outer s H vs Q E hr h=>?_)
 ·obtain⟨x,dx,p,q,f,b1,b2,b3,b4,rfl,_⟩:=h;rfl
 ·have hu:=aR hr
  have gb:=hr.aM
  obtain⟨x,dx,p,q,f,b1,b2,b3,b4,rfl,hx,g,k⟩:=h
  have hp3:=g.p3;have hq2:=g.q2;have hf2:=g.f2
  refine⟨_,(ao (aB (dY FY hr T.LQ T.FI.kp T.LP (af (aJ bN (aJ bN (aO K rfl (pv 0) rfl) (aO K rfl (pv 0) rfl)) (aO K rfl (pv 0) rfl)) ai)))),?_⟩
  refine⟨_,O,x,(ay 55),dx,_,_,O,hx,T.aG,T.bM,O,_,O,x,(ay 55),dx,_,_,O,hx,T.aG,T.bH,O,_,_,O,O,aaq (show p.length+q.length<=5 by omega) (by decide),_,O,x,(ay 55),dx,_,_,O,hx,T.aG,T.bD,O,_,_,O,O,?_,_,O,?_,k⟩
  ·rw[aU];exact aaq (show p.length+q.length+f.length<=7 by omega) (by decide)
  ·rw[aU,aU];omega
def zN(C:Addr):Sp:=λvs H Q _=>∃(t:Addr)(p q f:Str)(b1 b2 b3 b4:Bool),vs=[.ref t]/\H t=some (.tup (kD p q f b1 b2 b3 b4))/\Gd p q f/\∀(x dx:Addr)(H':Hp),H x=none->H' x=some (.ins C dx (BF p q f b1 b2 b3 b4))->aI H H'->Q (.ref x) H'
theorem zO:bh P w K mg base fE 5 (ay 12) (aL 12) ["told"] (zN (ay 55)):=by
 have fT:=@iQ P w K mg base ay aL cA T
 refine T.sj.ok zF (λvs H Q E h=>?_) (λcdv A outer s H vs Q E hr h=>?_)
 ·obtain⟨t,p,q,f,b1,b2,b3,b4,rfl,_⟩:=h;rfl
 ·have hu:=aR hr
  have gb:=hr.aM
  obtain⟨t,p,q,f,b1,b2,b3,b4,rfl,ht,g,k⟩:=h
  have hS:aN K H t (kD p q f b1 b2 b3 b4):=aN.of ht
  refine⟨_,(ah (aK (PW.pt (iM (cJ (bR (tO (Dc K rfl) T.bQ (af (pv 0) (af (Nk "tuple" T.sN) ai))))) (f7 (dR vv (tO (dM K rfl) T.gD (af (pv 0) ai)) aj)))) (ao kr) aC)
   (ao (aB (jy (k:=3) T.Bc fT (hr.mono (by decide)) rfl T.Bb T.jj .nil eZ (af (cS K (pv 0) aj) (af (cS K (pv 0) aj) (af (cS K (pv 0) aj) (af (cS K (pv 0) aj) (af (cS K (pv 0) aj) (af (cS K (pv 0) aj) (af (cS K (pv 0) aj) ai))))))))))),?_⟩
  refine⟨_,O,t,_,_,true,O,.inl ⟨hS,O⟩,true,O,eg ?_⟩
  refine⟨_,O,t,_,O,.inr hS,O,_,O,SS rfl ?_⟩
  refine⟨_,O,t,_,_,_,O,O,hS,O,_,O,t,_,_,_,O,O,hS,O,_,O,t,_,_,_,O,O,hS,O,_,O,t,_,_,_,O,O,hS,O,_,O,t,_,_,_,O,O,hS,O,_,O,t,_,_,_,O,O,hS,O,_,O,t,_,_,_,O,O,hS,O,λx dx hx hdx ne=>?_⟩
  refine⟨x,dx,p,q,f,b1,b2,b3,b4,O,ak,g,λH2 h2 kp=>⟨O,k x dx H2 hx h2 λb o e=>kp b o ?_ (aW e hx)⟩⟩
  rw[aH (aW e hx),aH (aW e hdx)]
  exact e
def oi(K:W.Frag)(C:Addr):Sp:=λvs H Q _=>∃(x dx:Addr)(p q f:Str)(b1 b2 b3 b4:Bool)(s:Addr)(w u:Str)(c:Nat),vs=[.ref x,.ref s,.str (sg c)]/\H x=some (.ins C dx (BF p q f b1 b2 b3 b4))/\aN K H s [.str w,.str u]/\∀v H',aI H H'->zy K H' v (cB p q f b3 w u c)->Q v H'
theorem oj:bh P w K mg base fE 1 (ay 13) (aL 13) ["dialect","state","sign"] (oi K (ay 55)):=by
 refine T.iP.ok nS (λvs H Q E h=>?_) (λcdv A outer s H vs Q E hr h=>?_)
 ·obtain⟨x,dx,p,q,f,b1,b2,b3,b4,s,w,u,c,rfl,_⟩:=h;rfl
 ·have hu:=aR hr
  have gb:=hr.aM
  obtain⟨x,dx,p,q,f,b1,b2,b3,b4,s,w,u,c,rfl,hx,hs,k⟩:=h
  refine'⟨_,?aa,?bb⟩
  case aa =>
   refine' ah ?s0 ?r0
   case s0 =>
    refine' aK ?c1 ?b1 ?e1
    case c1=>exact(cW fV (pv 2) (aO K rfl (pv 0) rfl) rfl)
    case b1 =>
     refine' ao ?s2
     case s2 =>
      refine' aB ?v3
      case v3 =>
       refine' aD ?a4
       case a4 =>
        refine' af ?x5 ?y5 ?z5
        case z5=>exact rfl
        case x5 =>
         exact az
        case y5 =>
         refine' af ?x6 ?y6 ?z6
         case z6=>exact rfl
         case x6 =>
          refine' aD ?a7
          case a7 =>
           refine' af ?x8 ?y8 ?z8
           case z8=>exact rfl
           case x8 =>
            exact az
           case y8 =>
            refine' af ?x9 ?y9 ?z9
            case z9=>exact rfl
            case x9 =>
             exact az
            case y9 =>
             exact ai
         case y6 =>
          exact ai
    case e1 =>
     exact aC
   case r0 =>
    refine' ah ?HX ?Ul
    case HX =>
     refine' aK ?Um ?QO ?Uo
     case Um=>exact(dR aV (pv 2) (jz rfl T.lT.choose_spec))
     case QO =>
      refine' ao ?s12
      case s12 =>
       refine' aB ?Up
       case Up =>
        refine' aD ?NY
        case NY =>
         refine' af ?QS ?QT ?QU
         case QU=>exact rfl
         case QS =>
          exact az
         case QT =>
          refine' af ?QV ?QW ?QX
          case QX=>exact rfl
          case QV =>
           exact(cO rfl T.cE)
          case QW =>
           exact ai
     case Uo =>
      exact aC
    case Ul =>
     refine' ah ?QY ?QZ
     case QY =>
      refine' aK ?Q0 ?NZ ?Q3
      case Q0=>exact(cW fV (pv 2) (aO K rfl (pv 0) rfl) rfl)
      case NZ =>
       refine' ao ?Q4
       case Q4 =>
        refine' aB ?v20
        case v20 =>
         refine' aD ?N1
         case N1 =>
          refine' af ?Q5 ?Q6 ?Q7
          case Q7=>exact rfl
          case Q5 =>
           exact az
          case Q6 =>
           refine' af ?Q8 ?Q9 ?Ra
           case Ra=>exact rfl
           case Q8 =>
            refine' aD ?Rb
            case Rb =>
             refine' af ?Uq ?Ur ?Us
             case Us=>exact rfl
             case Uq =>
              exact az
             case Ur =>
              refine' af ?Ut ?Uu ?Uv
              case Uv=>exact rfl
              case Ut =>
               exact(pv 2)
              case Uu =>
               exact ai
           case Q9 =>
            exact ai
      case Q3 =>
       exact aC
     case QZ =>
      refine' ah ?Uw ?W7
      case Uw =>
       refine' aK ?W8 ?Ux ?W9
       case W8=>exact(cW fV (pv 2) (aO K rfl (pv 0) rfl) rfl)
       case Ux =>
        refine' ao ?Xa
        case Xa =>
         refine' aB ?v30
         case v30 =>
          refine' aD ?Uy
          case Uy =>
           refine' af ?Xb ?Xc ?Xd
           case Xd=>exact rfl
           case Xb =>
            exact az
           case Xc =>
            refine' af ?Xe ?Xf ?Xg
            case Xg=>exact rfl
            case Xe =>
             refine' aD ?Xh
             case Xh =>
              refine' af ?x35 ?y35 ?z35
              case z35=>exact rfl
              case x35 =>
               exact az
              case y35 =>
               refine' af ?x36 ?y36 ?z36
               case z36=>exact rfl
               case x36 =>
                exact az
               case y36 =>
                exact ai
            case Xf =>
             exact ai
       case W9 =>
        exact aC
      case W7 =>
       refine' ah ?Rc ?r37
       case Rc =>
        refine' aK ?c38 ?Xi ?e38
        case c38=>exact(PW.pt (gK (dR aV (pv 2) az) (eS (bR (aO K rfl (pv 0) rfl)))))
        case Xi =>
         refine' ao ?s39
         case s39 =>
          refine' aB ?v40
          case v40 =>
           refine' aD ?Xj
           case Xj =>
            refine' af ?x42 ?y42 ?z42
            case z42=>exact rfl
            case x42 =>
             exact az
            case y42 =>
             refine' af ?x43 ?y43 ?z43
             case z43=>exact rfl
             case x43 =>
              exact(pv 1)
             case y43 =>
              exact ai
        case e38 =>
         exact aC
       case r37 =>
        refine' ao ?s44
        case s44 =>
         refine' aB ?v45
         case v45 =>
          refine' aD ?Xk
          case Xk =>
           refine' af ?x47 ?y47 ?z47
           case z47=>exact rfl
           case x47 =>
            exact az
           case y47 =>
            refine' af ?x48 ?y48 ?z48
            case z48=>exact rfl
            case x48 =>
             refine' aD ?Xl
             case Xl =>
              refine' af ?x50 ?y50 ?z50
              case z50=>exact rfl
              case x50 =>
               exact az
              case y50 =>
               refine' af ?x51 ?y51 ?z51
               case z51=>exact rfl
               case x51 =>
                exact az
               case y51 =>
                exact ai
            case y48 =>
             exact ai
  have e2:aY (sg c) (cA 0)=aY (sg c) (Str.ofString "\n"):=by rw[T.lU]
  refine⟨_,O,_,O,x,(ay 55),dx,_,_,O,hx,T.aG,T.bD,O,_,_,O,O,_,O,bI (λ(h1:fG c f=true)=>?_) (λ(h1:¬fG c f=true)=>?_)⟩
  ·exact fm (by unfold cB;rw[aaj h1]) jB k
  refine⟨_,O,O,_,O,bI (λ(h2:aY (sg c) (cA 0)=true)=>?_) (λ(h2:¬aY (sg c) (cA 0)=true)=>?_)⟩
  ·rw[e2]at h2
   exact BG (by unfold cB;rw[aai h1,aaj h2]) Ff (aI.refl _) (.inr T.fu) k
  rw[e2]at h2
  refine⟨_,O,_,O,x,(ay 55),dx,_,_,O,hx,T.aG,T.bH,O,_,_,O,O,_,O,bI (λ(h3:fG c q=true)=>?_) (λ(h3:¬fG c q=true)=>?_)⟩
  ·exact⟨_,O,fm (by unfold cB;rw[aai h1,aai h2,aaj h3]) jB k⟩
  refine⟨_,O,_,O,x,(ay 55),dx,_,_,O,hx,T.aG,T.bM,O,_,_,O,O,_,O,bI (λ(h4:fG c p=true)=>?_) (λ(h4:¬fG c p=true)=>?_)⟩
  ·exact fm (by unfold cB;rw[aai h1,aai h2,aai h3,aaj h4]) BH k
  refine⟨_,O,O,_,O,bI (λ(h5:aY (sg c) (" ":Str)=true)=>?_) (λ(h5:¬aY (sg c) (" ":Str)=true)=>?_)⟩
  ·refine⟨_,O,x,(ay 55),dx,_,_,O,hx,T.aG,T.dg,O,_,O,bI (λ(h6:b3=true)=>?_) (λ(h6:¬b3=true)=>?_)⟩
   ·exact⟨_,O,BG (by unfold cB;rw[aai h1,aai h2,aai h3,aai h4,aaj h5,aaj h6]) jB (aI.refl _) hs k⟩
   exact fm (by unfold cB;rw[aai h1,aai h2,aai h3,aai h4,aaj h5,aai h6]) jc k
  refine eg ?_
  exact fm (by unfold cB;rw[aai h1,aai h2,aai h3,aai h4,aai h5]) jc k
def uX(K:W.Frag)(C:Addr):Sp:=λvs H Q _=>∃(x dx:Addr)(p q f:Str)(b1 b2 b3 b4:Bool)(c:Nat),vs=[.ref x,.str (sg c)]/\H x=some (.ins C dx (BF p q f b1 b2 b3 b4))/\∀v H',aI H H'->zy K H' v (cY p q f b4 c)->Q v H'
theorem uY:bh P w K mg base fE 1 (ay 14) (aL 14) ["dialect","sign"] (uX K (ay 55)):=by
 refine T.mP.ok uJ (λvs H Q E h=>?_) (λcdv A outer s H vs Q E hr h=>?_)
 ·obtain⟨x,dx,p,q,f,b1,b2,b3,b4,c,rfl,_⟩:=h;rfl
 ·have hu:=aR hr
  have gb:=hr.aM
  obtain⟨x,dx,p,q,f,b1,b2,b3,b4,c,rfl,hx,k⟩:=h
  refine'⟨_,?aa,?bb⟩
  case aa =>
   refine' ah ?s0 ?r0
   case s0 =>
    refine' aK ?c1 ?b1 ?e1
    case c1=>exact(cW fV (pv 1) (aO K rfl (pv 0) rfl) rfl)
    case b1 =>
     refine' ao ?s2
     case s2 =>
      refine' aB ?v3
      case v3 =>
       refine' aD ?a4
       case a4 =>
        refine' af ?x5 ?y5 ?z5
        case z5=>exact rfl
        case x5 =>
         exact az
        case y5 =>
         refine' af ?x6 ?y6 ?z6
         case z6=>exact rfl
         case x6 =>
          refine' aD ?a7
          case a7 =>
           refine' af ?x8 ?y8 ?z8
           case z8=>exact rfl
           case x8 =>
            exact az
           case y8 =>
            refine' af ?x9 ?y9 ?z9
            case z9=>exact rfl
            case x9 =>
             exact az
            case y9 =>
             exact ai
         case y6 =>
          exact ai
    case e1 =>
     exact aC
   case r0 =>
    refine' ah ?HX ?Ul
    case HX =>
     refine' aK ?Um ?QO ?Uo
     case Um=>exact(dR aV (pv 1) (jz rfl T.lT.choose_spec))
     case QO =>
      refine' ao ?s12
      case s12 =>
       refine' aB ?Up
       case Up =>
        refine' aD ?NY
        case NY =>
         refine' af ?QS ?QT ?QU
         case QU=>exact rfl
         case QS =>
          exact az
         case QT =>
          refine' af ?QV ?QW ?QX
          case QX=>exact rfl
          case QV =>
           exact(cO rfl T.cE)
          case QW =>
           exact ai
     case Uo =>
      exact aC
    case Ul =>
     refine' ah ?QY ?QZ
     case QY =>
      refine' aK ?Q0 ?NZ ?Q3
      case Q0=>exact(cW fV (pv 1) (aO K rfl (pv 0) rfl) rfl)
      case NZ =>
       refine' ao ?Q4
       case Q4 =>
        refine' aB ?v20
        case v20 =>
         refine' aD ?N1
         case N1 =>
          refine' af ?Q5 ?Q6 ?Q7
          case Q7=>exact rfl
          case Q5 =>
           exact az
          case Q6 =>
           refine' af ?Q8 ?Q9 ?Ra
           case Ra=>exact rfl
           case Q8 =>
            refine' aD ?Rb
            case Rb =>
             refine' af ?Uq ?Ur ?Us
             case Us=>exact rfl
             case Uq =>
              exact az
             case Ur =>
              refine' af ?Ut ?Uu ?Uv
              case Uv=>exact rfl
              case Ut =>
               exact az
              case Uu =>
               exact ai
           case Q9 =>
            exact ai
      case Q3 =>
       exact aC
     case QZ =>
      refine' ah ?Uw ?W7
      case Uw =>
       refine' aK ?W8 ?Ux ?W9
       case W8=>exact(PW.pt (gK (cW fV (pv 1) (aO K rfl (pv 0) rfl) rfl) (eS (cJ (bR (aO K rfl (pv 0) rfl))))))
       case Ux =>
        refine' ao ?Xa
        case Xa =>
         refine' aB ?v30
         case v30 =>
          refine' aD ?Uy
          case Uy =>
           refine' af ?Xb ?Xc ?Xd
           case Xd=>exact rfl
           case Xb =>
            exact az
           case Xc =>
            refine' af ?Xe ?Xf ?Xg
            case Xg=>exact rfl
            case Xe =>
             exact az
            case Xf =>
             exact ai
       case W9 =>
        exact aC
      case W7 =>
       refine' ao ?N2
       case N2 =>
        refine' aB ?v35
        case v35 =>
         refine' aD ?Xm
         case Xm =>
          refine' af ?x37 ?y37 ?z37
          case z37=>exact rfl
          case x37 =>
           exact az
          case y37 =>
           refine' af ?x38 ?y38 ?z38
           case z38=>exact rfl
           case x38 =>
            refine' aD ?Xn
            case Xn =>
             refine' af ?x40 ?y40 ?z40
             case z40=>exact rfl
             case x40 =>
              exact az
             case y40 =>
              refine' af ?x41 ?y41 ?z41
              case z41=>exact rfl
              case x41 =>
               exact az
              case y41 =>
               exact ai
           case y38 =>
            exact ai
  have e2:aY (sg c) (cA 0)=aY (sg c) (Str.ofString "\n"):=by rw[T.lU]
  refine⟨_,O,_,O,x,(ay 55),dx,_,_,O,hx,T.aG,T.bD,O,_,_,O,O,_,O,bI (λ(h1:fG c f=true)=>?_) (λ(h1:¬fG c f=true)=>?_)⟩
  ·exact fm (by unfold cY;rw[aaj h1]) jB k
  refine⟨_,O,O,_,O,bI (λ(h2:aY (sg c) (cA 0)=true)=>?_) (λ(h2:¬aY (sg c) (cA 0)=true)=>?_)⟩
  ·rw[e2]at h2
   exact BG (by unfold cY;rw[aai h1,aaj h2]) Ff (aI.refl _) (.inr T.fu) k
  rw[e2]at h2
  refine⟨_,O,_,O,x,(ay 55),dx,_,_,O,hx,T.aG,T.bM,O,_,_,O,O,_,O,bI (λ(h3:fG c p=true)=>?_) (λ(h3:¬fG c p=true)=>?_)⟩
  ·exact fm (by unfold cY;rw[aai h1,aai h2,aaj h3]) BH k
  refine⟨_,O,_,O,x,(ay 55),dx,_,_,O,hx,T.aG,T.bH,O,_,_,O,O,_,O,bI (λ(h4:fG c q=true)=>?_) (λ(h4:¬fG c q=true)=>?_)⟩
  ·refine⟨_,O,x,(ay 55),dx,_,_,O,hx,T.aG,T.dJ,O,_,O,bI (λ(h5:(!b4)=true)=>?_) (λ(h5:¬(!b4)=true)=>?_)⟩
   ·exact yl (by unfold cY;rw[aai h1,aai h2,aai h3,aaj h4,aaj h5]) k
   exact fm (by unfold cY;rw[aai h1,aai h2,aai h3,aaj h4,aai h5]) jc k
  refine eg ?_
  exact fm (by unfold cY;rw[aai h1,aai h2,aai h3,aai h4]) jc k
def yS(K:W.Frag)(C:Addr):Sp:=λvs H Q _=>∃(x dx:Addr)(p q f:Str)(b1 b2 b3 b4:Bool)(u:Str)(c:Nat),vs=[.ref x,.str u,.str (sg c)]/\H x=some (.ins C dx (BF p q f b1 b2 b3 b4))/\∀v H',aI H H'->zy K H' v (cg f b1 b2 u c)->Q v H'
theorem yT:bh P w K mg base fE 1 (ay 15) (aL 15) ["dialect","quote","sign"] (yS K (ay 55)):=by
 refine T.pL.ok yJ (λvs H Q E h=>?_) (λcdv A outer s H vs Q E hr h=>?_)
 ·obtain⟨x,dx,p,q,f,b1,b2,b3,b4,u,c,rfl,_⟩:=h;rfl
 ·have hu:=aR hr
  have gb:=hr.aM
  obtain⟨x,dx,p,q,f,b1,b2,b3,b4,u,c,rfl,hx,k⟩:=h
  refine'⟨_,?aa,?bb⟩
  case aa =>
   refine' ah ?s0 ?r0
   case s0 =>
    refine' aK ?c1 ?b1 ?e1
    case c1=>exact(cW fV (pv 2) (aO K rfl (pv 0) rfl) rfl)
    case b1 =>
     refine' ao ?s2
     case s2 =>
      refine' aB ?v3
      case v3 =>
       refine' aD ?a4
       case a4 =>
        refine' af ?x5 ?y5 ?z5
        case z5=>exact rfl
        case x5 =>
         exact az
        case y5 =>
         refine' af ?x6 ?y6 ?z6
         case z6=>exact rfl
         case x6 =>
          refine' aD ?a7
          case a7 =>
           refine' af ?x8 ?y8 ?z8
           case z8=>exact rfl
           case x8 =>
            exact az
           case y8 =>
            refine' af ?x9 ?y9 ?z9
            case z9=>exact rfl
            case x9 =>
             exact(pv 1)
            case y9 =>
             exact ai
         case y6 =>
          exact ai
    case e1 =>
     exact aC
   case r0 =>
    refine' ah ?HX ?Ul
    case HX =>
     refine' aK ?Um ?QO ?Uo
     case Um=>exact(dR aV (pv 2) (pv 1))
     case QO =>
      refine' ao ?s12
      case s12 =>
       refine' aB ?Up
       case Up =>
        refine' aD ?NY
        case NY =>
         refine' af ?QS ?QT ?QU
         case QU=>exact rfl
         case QS =>
          exact az
         case QT =>
          refine' af ?QV ?QW ?QX
          case QX=>exact rfl
          case QV =>
           exact(kq (bR (aO K rfl (pv 0) rfl)) (aD (af az (af (pv 1) ai))) (aD (af az (af az ai))))
          case QW =>
           exact ai
     case Uo =>
      exact aC
    case Ul =>
     refine' ah ?QY ?QZ
     case QY =>
      refine' aK ?Q0 ?NZ ?Q3
      case Q0=>exact(PW.pt (gK (dR aV (pv 2) (jz rfl T.lT.choose_spec)) (eS (cJ (bR (aO K rfl (pv 0) rfl))))))
      case NZ =>
       refine' ao ?Q4
       case Q4 =>
        refine' aB ?v20
        case v20 =>
         refine' aD ?N1
         case N1 =>
          refine' af ?Q5 ?Q6 ?Q7
          case Q7=>exact rfl
          case Q5 =>
           exact az
          case Q6 =>
           refine' af ?Q8 ?Q9 ?Ra
           case Ra=>exact rfl
           case Q8 =>
            exact az
           case Q9 =>
            exact ai
      case Q3 =>
       exact aC
     case QZ =>
      refine' ao ?s24
      case s24 =>
       refine' aB ?v25
       case v25 =>
        refine' aD ?Xo
        case Xo =>
         refine' af ?x27 ?y27 ?z27
         case z27=>exact rfl
         case x27 =>
          exact az
         case y27 =>
          refine' af ?x28 ?y28 ?z28
          case z28=>exact rfl
          case x28 =>
           refine' aD ?Uz
           case Uz =>
            refine' af ?Xp ?Xq ?Xr
            case Xr=>exact rfl
            case Xp =>
             exact az
            case Xq =>
             refine' af ?Xs ?Xu ?Xv
             case Xv=>exact rfl
             case Xs =>
              exact(pv 1)
             case Xu =>
              exact ai
          case y28 =>
           exact ai
  have e2:aY (sg c) (cA 0)=aY (sg c) (Str.ofString "\n"):=by rw[T.lU]
  refine⟨_,O,_,O,x,(ay 55),dx,_,_,O,hx,T.aG,T.bD,O,_,_,O,O,_,O,bI (λ(h1:fG c f=true)=>?_) (λ(h1:¬fG c f=true)=>?_)⟩
  ·exact⟨_,O,fm (by unfold cg;rw[aaj h1]) jB k⟩
  refine⟨_,O,_,O,O,_,O,bI (λ(h2:aY (sg c) u=true)=>?_) (λ(h2:¬aY (sg c) u=true)=>?_)⟩
  ·refine⟨_,O,x,(ay 55),dx,_,_,O,hx,T.aG,T.eL,O,_,O,bI (λ(h3:b1=true)=>?_) (λ(h3:¬b1=true)=>?_)⟩
   ·exact⟨_,O,fm (by unfold cg;rw[aai h1,aaj h2,aaj h3]) jB k⟩
   exact fm (by unfold cg;rw[aai h1,aaj h2,aai h3]) jB k
  refine⟨_,O,O,_,O,bI (λ(h3:aY (sg c) (cA 0)=true)=>?_) (λ(h3:¬aY (sg c) (cA 0)=true)=>?_)⟩
  ·rw[e2]at h3
   refine⟨_,O,x,(ay 55),dx,_,_,O,hx,T.aG,T.c7,O,_,O,bI (λ(h4:(!b2)=true)=>?_) (λ(h4:¬(!b2)=true)=>?_)⟩
   ·exact yl (by unfold cg;rw[aai h1,aai h2,aaj h3,aaj h4]) k
   exact⟨_,O,fm (by unfold cg;rw[aai h1,aai h2,aaj h3,aai h4]) jc k⟩
  rw[e2]at h3
  refine eg ?_
  exact⟨_,O,fm (by unfold cg;rw[aai h1,aai h2,aai h3]) jc k⟩
def yU(K:W.Frag)(C:Addr):Sp:=λvs H Q _=>∃(x dx:Addr)(p q f:Str)(b1 b2 b3 b4:Bool)(c:Nat),vs=[.ref x,.str (sg c)]/\H x=some (.ins C dx (BF p q f b1 b2 b3 b4))/\∀v H',aI H H'->zy K H' v (bq p b3 c)->Q v H'
theorem om:bh P w K mg base fE 1 (ay 16) (aL 16) ["dialect","sign"] (yU K (ay 55)):=by
 refine T.j9.ok yK (λvs H Q E h=>?_) (λcdv A outer s H vs Q E hr h=>?_)
 ·obtain⟨x,dx,p,q,f,b1,b2,b3,b4,c,rfl,_⟩:=h;rfl
 ·have hu:=aR hr
  have gb:=hr.aM
  obtain⟨x,dx,p,q,f,b1,b2,b3,b4,c,rfl,hx,k⟩:=h
  refine'⟨_,?aa,?bb⟩
  case aa =>
   refine' ah ?s0 ?r0
   case s0 =>
    refine' aK ?c1 ?b1 ?e1
    case c1=>exact(dR aV (pv 1) (jz rfl T.lT.choose_spec))
    case b1 =>
     refine' ao ?s2
     case s2 =>
      refine' aB ?v3
      case v3 =>
       refine' aD ?a4
       case a4 =>
        refine' af ?x5 ?y5 ?z5
        case z5=>exact rfl
        case x5 =>
         exact az
        case y5 =>
         refine' af ?x6 ?y6 ?z6
         case z6=>exact rfl
         case x6 =>
          exact(cO rfl T.cE)
         case y6 =>
          exact ai
    case e1 =>
     exact aC
   case r0 =>
    refine' ah ?s7 ?r7
    case s7 =>
     refine' aK ?c8 ?b8 ?e8
     case c8=>exact(cW fV (pv 1) (aO K rfl (pv 0) rfl) rfl)
     case b8 =>
      refine' ao ?s9
      case s9 =>
       refine' aB ?v10
       case v10 =>
        refine' aD ?Xw
        case Xw =>
         refine' af ?Xx ?Xy ?Rf
         case Rf=>exact rfl
         case Xx =>
          exact az
         case Xy =>
          refine' af ?x13 ?y13 ?z13
          case z13=>exact rfl
          case x13 =>
           refine' aD ?NY
           case NY =>
            refine' af ?QS ?QT ?QU
            case QU=>exact rfl
            case QS =>
             exact az
            case QT =>
             refine' af ?QV ?QW ?QX
             case QX=>exact rfl
             case QV =>
              exact az
             case QW =>
              exact ai
          case y13 =>
           exact ai
     case e8 =>
      exact aC
    case r7 =>
     refine' ah ?QY ?QZ
     case QY =>
      refine' aK ?Q0 ?NZ ?Q3
      case Q0=>exact(PW.pt (gK (dR aV (pv 1) az) (eS (bR (aO K rfl (pv 0) rfl)))))
      case NZ =>
       refine' ao ?Q4
       case Q4 =>
        refine' aB ?v20
        case v20 =>
         refine' aD ?N1
         case N1 =>
          refine' af ?Q5 ?Q6 ?Q7
          case Q7=>exact rfl
          case Q5 =>
           exact az
          case Q6 =>
           refine' af ?Q8 ?Q9 ?Ra
           case Ra=>exact rfl
           case Q8 =>
            refine' aD ?Rb
            case Rb =>
             refine' af ?Uq ?Ur ?Us
             case Us=>exact rfl
             case Uq =>
              exact az
             case Ur =>
              refine' af ?Ut ?Uu ?Uv
              case Uv=>exact rfl
              case Ut =>
               exact az
              case Uu =>
               exact ai
           case Q9 =>
            exact ai
      case Q3 =>
       exact aC
     case QZ =>
      refine' ao ?Uw
      case Uw =>
       refine' aB ?v28
       case v28 =>
        refine' aD ?Uz
        case Uz =>
         refine' af ?Xp ?Xq ?Xr
         case Xr=>exact rfl
         case Xp =>
          exact az
         case Xq =>
          refine' af ?Xs ?Xu ?Xv
          case Xv=>exact rfl
          case Xs =>
           exact az
          case Xu =>
           exact ai
  have e2:aY (sg c) (cA 0)=aY (sg c) (Str.ofString "\n"):=by rw[T.lU]
  refine⟨_,O,O,_,O,bI (λ(h1:aY (sg c) (cA 0)=true)=>?_) (λ(h1:¬aY (sg c) (cA 0)=true)=>?_)⟩
  ·rw[e2]at h1
   exact BG (by unfold bq;rw[aaj h1]) Ff (aI.refl _) (.inr T.fu) k
  rw[e2]at h1
  refine⟨_,O,_,O,x,(ay 55),dx,_,_,O,hx,T.aG,T.bM,O,_,_,O,O,_,O,bI (λ(h2:fG c p=true)=>?_) (λ(h2:¬fG c p=true)=>?_)⟩
  ·exact fm (by unfold bq;rw[aai h1,aaj h2]) BH k
  refine⟨_,O,O,_,O,bI (λ(h3:aY (sg c) (" ":Str)=true)=>?_) (λ(h3:¬aY (sg c) (" ":Str)=true)=>?_)⟩
  ·refine⟨_,O,x,(ay 55),dx,_,_,O,hx,T.aG,T.dg,O,_,O,bI (λ(h4:b3=true)=>?_) (λ(h4:¬b3=true)=>?_)⟩
   ·exact fm (by unfold bq;rw[aai h1,aai h2,aaj h3,aaj h4]) jB k
   exact yl (by unfold bq;rw[aai h1,aai h2,aaj h3,aai h4]) k
  refine eg ?_
  exact yl (by unfold bq;rw[aai h1,aai h2,aai h3]) k
def uZ(K:W.Frag)(C:Addr):Sp:=λvs H Q _=>∃(x dx:Addr)(p q f:Str)(b1 b2 b3 b4:Bool)(u:Str)(c:Nat),vs=[.ref x,.str u,.str (sg c)]/\H x=some (.ins C dx (BF p q f b1 b2 b3 b4))/\∀v H',aI H H'->zy K H' v (gj p b3 u c)->Q v H'
theorem u0:bh P w K mg base fE 2 (ay 17) (aL 17) ["dialect","quote","sign"] (uZ K (ay 55)):=by
 have ki:=@om P w K mg base ay aL cA T
 refine T.mQ.ok uK (λvs H Q E h=>?_) (λcdv A outer s H vs Q E hr h=>?_)
 ·obtain⟨x,dx,p,q,f,b1,b2,b3,b4,u,c,rfl,_⟩:=h;rfl
 ·have hu:=aR hr
  have gb:=hr.aM
  obtain⟨x,dx,p,q,f,b1,b2,b3,b4,u,c,rfl,hx,k⟩:=h
  refine⟨_,(ah (aK (dR aV (pv 2) (pv 1)) (ao (aB (aD (af az (af (aD (af az (af (pv 1) ai))) ai))))) aC)
   (ao (aB (dY ki hr T.pN T.j9.kp T.pM (af (pv 0) (af (pv 2) ai)))))),?_⟩
  refine⟨_,O,_,O,O,_,O,bI (λ(h1:aY (sg c) u=true)=>?_) (λ(h1:¬aY (sg c) u=true)=>?_)⟩
  ·exact⟨_,O,fm (by unfold gj;rw[aaj h1]) jc k⟩
  refine⟨_,O,_,O,x,dx,p,q,f,b1,b2,b3,b4,c,O,hx,λv H2 s2 r=>k v H2 s2 ?_⟩
  unfold gj
  rw[aai h1]
  exact r
def zP(K:W.Frag)(C:Addr):Sp:=λvs H Q _=>∃(x dx:Addr)(p q f:Str)(b1 b2 b3 b4:Bool)(u:Str)(c:Nat),vs=[.ref x,.str u,.str (sg c)]/\H x=some (.ins C dx (BF p q f b1 b2 b3 b4))/\∀v H',aI H H'->zy K H' v (dD b2 u c)->Q v H'
theorem zQ:bh P w K mg base fE 1 (ay 18) (aL 18) ["dialect","quote","sign"] (zP K (ay 55)):=by
 refine T.sq.ok zG (λvs H Q E h=>?_) (λcdv A outer s H vs Q E hr h=>?_)
 ·obtain⟨x,dx,p,q,f,b1,b2,b3,b4,u,c,rfl,_⟩:=h;rfl
 ·have hu:=aR hr
  have gb:=hr.aM
  obtain⟨x,dx,p,q,f,b1,b2,b3,b4,u,c,rfl,hx,k⟩:=h
  refine'⟨_,?aa,?bb⟩
  case aa =>
   refine' ah ?s0 ?r0
   case s0 =>
    refine' aK ?c1 ?b1 ?e1
    case c1=>exact(PW.pt (gK (dR aV (pv 2) (jz rfl T.lT.choose_spec)) (eS (cJ (bR (aO K rfl (pv 0) rfl))))))
    case b1 =>
     refine' ao ?s2
     case s2 =>
      refine' aB ?v3
      case v3 =>
       refine' aD ?a4
       case a4 =>
        refine' af ?x5 ?y5 ?z5
        case z5=>exact rfl
        case x5 =>
         exact az
        case y5 =>
         refine' af ?x6 ?y6 ?z6
         case z6=>exact rfl
         case x6 =>
          exact az
         case y6 =>
          exact ai
    case e1 =>
     exact aC
   case r0 =>
    refine' ao ?s7
    case s7 =>
     refine' aB ?v8
     case v8 =>
      refine' aD ?a9
      case a9 =>
       refine' af ?Xz ?XA ?XC
       case XC=>exact rfl
       case Xz =>
        exact az
       case XA =>
        refine' af ?XD ?XE ?XF
        case XF=>exact rfl
        case XD =>
         exact(kq (dR aV (pv 1) az) (aD (af az (af az ai))) (aD (af az (af (pv 1) ai))))
        case XE =>
         exact ai
  have e2:aY (sg c) (cA 0)=aY (sg c) (Str.ofString "\n"):=by rw[T.lU]
  refine⟨_,O,O,_,O,bI (λ(h1:aY (sg c) (cA 0)=true)=>?_) (λ(h1:¬aY (sg c) (cA 0)=true)=>?_)⟩
  ·rw[e2]at h1
   refine⟨_,O,x,(ay 55),dx,_,_,O,hx,T.aG,T.c7,O,_,O,bI (λ(h2:(!b2)=true)=>?_) (λ(h2:¬(!b2)=true)=>?_)⟩
   ·exact yl (by unfold dD;rw[aaj h1,aaj h2]) k
   refine⟨_,O,O,_,O,bI (λ(h9:aY u ("":Str)=true)=>?_) (λ(h9:¬aY u ("":Str)=true)=>?_)⟩
   ·exact fm (by unfold dD cQ;rw[aaj h1,aai h2,aaj h9]) jc k
   exact⟨_,O,fm (by unfold dD cQ;rw[aaj h1,aai h2,aai h9]) jc k⟩
  rw[e2]at h1
  refine eg ?_
  refine⟨_,O,O,_,O,bI (λ(h9:aY u ("":Str)=true)=>?_) (λ(h9:¬aY u ("":Str)=true)=>?_)⟩
  ·exact fm (by unfold dD cQ;rw[aai h1,aaj h9]) jc k
  exact⟨_,O,fm (by unfold dD cQ;rw[aai h1,aai h9]) jc k⟩
def u5(C CT:Addr):Sp:=λvs H Q _=>∃(y dy x dx:Addr)(p q f:Str)(b1 b2 b3 b4:Bool),vs=[.ref y,.ref x]/\H y=some (.ins CT dy [])/\H x=some (.ins C dx (BF p q f b1 b2 b3 b4))/\Gd p q f/\∀H',Tn C CT H' y p q f b1 b2 b3 b4->(∀b o,H b=some o->b≠y->H' b=some o)->Q .non H'
theorem kP:bh P w K mg base fE 6 (ay 19) (aL 19) ["self","dialect"] (u5 (ay 55) (ay 56)):=by
 have yV:=@wU P w K mg base ay aL cA T
 have Cg:=@zO P w K mg base ay aL cA T
 refine T.wJ.ok uL (λvs H Q E h=>?_) (λcdv A outer s H vs Q E hr h=>?_)
 ·obtain⟨y,dy,x,dx,p,q,f,b1,b2,b3,b4,rfl,_⟩:=h;rfl
 ·have hu:=aR hr
  have gb:=hr.aM
  obtain⟨y,dy,x,dx,p,q,f,b1,b2,b3,b4,rfl,hy,hx,g,k⟩:=h
  refine⟨_,(ao (ie (pv 0) (dY Cg hr T.B7 T.sj.kp T.B6 (af (C4 (k:=1) (pv 1) T.aG T.yN yV (hr.mono (by decide)) T.yM .nil eZ) ai)) rfl)),?_⟩
  refine⟨_,O,x,dx,_,O,hx,O,x,dx,p,q,f,b1,b2,b3,b4,O,hx,λt ht=>?_⟩
  have s1:=aq (o:=HO.tup (kD p q f b1 b2 b3 b4)) ht
  refine⟨t,p,q,f,b1,b2,b3,b4,O,ak,g,λd dd H2 hd h2 s2=>?_⟩
  have s12:=s1.trans s2
  have nyd:d≠y:=λe=>by subst e;rw[s1 _ _ hy]at hd;cases hd
  refine⟨_,O,y,(ay 56),dy,_,O,s12 _ _ hy,T.eY,T.bA,(by show 0<1000;decide),?_⟩
  refine k _ ⟨⟨dy,d,dd,ak,(aH nyd).trans h2⟩⟩ λb o e hb=>(aH hb).trans (s12 _ _ e)
def Ci(K:W.Frag)(C CT:Addr):Sp:=λvs H Q _=>∃(y s:Addr)(w u:Str)(c:Nat)(p q f:Str)(b1 b2 b3 b4:Bool),vs=[.ref y,.ref s,.str (sg c)]/\Tn C CT H y p q f b1 b2 b3 b4/\aN K H s [.str w,.str u]/\∀v H',aI H H'->zy K H' v (aQ p q f b1 b2 b3 b4 w u c)->Q v H'
theorem sP:bh P w K mg base fE 3 (ay 20) (aL 20) ["self","state","sign"] (Ci K (ay 55) (ay 56)):=by
 have pe:=@oj P w K mg base ay aL cA T
 have ki:=@om P w K mg base ay aL cA T
 have Cj:=@zQ P w K mg base ay aL cA T
 have wV:=@u0 P w K mg base ay aL cA T
 have wW:=@uY P w K mg base ay aL cA T
 have zR:=@yT P w K mg base ay aL cA T
 refine T.D9.ok lH (λvs H Q E h=>?_) (λcdv A outer s H vs Q E hr h=>?_)
 ·obtain⟨y,s,w,u,c,p,q,f,b1,b2,b3,b4,rfl,_⟩:=h;rfl
 ·have hu:=aR hr
  have gb:=hr.aM
  obtain⟨y,s,w,u,c,p,q,f,b1,b2,b3,b4,rfl,hT,hs,k⟩:=h
  obtain⟨dy,d,dd,hy,hd⟩:=hT.ok
  refine⟨_,(ah (di 3 lH.nd (cS K (pv 1) aj))
   (ah (di 4 lH.nd (cS K (pv 1) aj))
   (ah (aK (dR aV (pv 3) az) (ao (aB (dY wW hr T.wG T.mP.kp T.wF (af (aO K rfl (pv 0) rfl) (af (pv 2) ai))))) aC)
   (ah (aK (dR aV (pv 3) az) (ao (aB (dY zR hr T.zJ T.pL.kp T.zI (af (aO K rfl (pv 0) rfl) (af (pv 4) (af (pv 2) ai)))))) aC)
   (ah (aK (dR aV (pv 3) az) (ao (aB (dY wV hr T.wI T.mQ.kp T.wH (af (aO K rfl (pv 0) rfl) (af (pv 4) (af (pv 2) ai)))))) aC)
   (ah (aK (dR aV (pv 3) az) (ao (aB (dY ki hr T.pN T.j9.kp T.pM (af (aO K rfl (pv 0) rfl) (af (pv 2) ai))))) aC)
   (ah (aK (dR aV (pv 3) az) (ao (aB (dY Cj hr T.B9 T.sq.kp T.B8 (af (aO K rfl (pv 0) rfl) (af (pv 4) (af (pv 2) ai)))))) aC)
   (ao (aB (dY pe hr T.o6 T.iP.kp T.oZ (af (aO K rfl (pv 0) rfl) (af (pv 1) (af (pv 2) ai))))))))))))),?_⟩
  refine⟨_,O,s,_,_,_,O,O,hs,O,_,O,s,_,_,_,O,O,hs,O,?_⟩
  refine⟨_,O,O,_,O,bI (λ(h1:aY w ("plain":Str)=true)=>?_) (λ(h1:¬aY w ("plain":Str)=true)=>?_)⟩
  ·refine⟨_,O,y,(ay 56),dy,_,_,O,hy,T.eY,T.bA,O,_,O,d,dd,p,q,f,b1,b2,b3,b4,c,O,hd,λv H2 s2 r=>k v H2 s2 ?_⟩
   rw[jd h1]
   exact r
  refine⟨_,O,O,_,O,bI (λ(h2:aY w ("within":Str)=true)=>?_) (λ(h2:¬aY w ("within":Str)=true)=>?_)⟩
  ·refine⟨_,O,y,(ay 56),dy,_,_,O,hy,T.eY,T.bA,O,_,O,_,O,d,dd,p,q,f,b1,b2,b3,b4,u,c,O,hd,λv H2 s2 r=>k v H2 s2 ?_⟩
   rw[eV h2]
   exact r
  refine⟨_,O,O,_,O,bI (λ(h3:aY w ("doubt":Str)=true)=>?_) (λ(h3:¬aY w ("doubt":Str)=true)=>?_)⟩
  ·refine⟨_,O,y,(ay 56),dy,_,_,O,hy,T.eY,T.bA,O,_,O,_,O,d,dd,p,q,f,b1,b2,b3,b4,u,c,O,hd,λv H2 s2 r=>k v H2 s2 ?_⟩
   rw[g5 h3]
   exact r
  refine⟨_,O,O,_,O,bI (λ(h4:aY w ("behind":Str)=true)=>?_) (λ(h4:¬aY w ("behind":Str)=true)=>?_)⟩
  ·refine⟨_,O,y,(ay 56),dy,_,_,O,hy,T.eY,T.bA,O,_,O,d,dd,p,q,f,b1,b2,b3,b4,c,O,hd,λv H2 s2 r=>k v H2 s2 ?_⟩
   rw[fY h4]
   exact r
  refine⟨_,O,O,_,O,bI (λ(h5:aY w ("freed":Str)=true)=>?_) (λ(h5:¬aY w ("freed":Str)=true)=>?_)⟩
  ·refine⟨_,O,y,(ay 56),dy,_,_,O,hy,T.eY,T.bA,O,_,O,_,O,d,dd,p,q,f,b1,b2,b3,b4,u,c,O,hd,λv H2 s2 r=>k v H2 s2 ?_⟩
   rw[cZ h5]
   exact r
  refine⟨_,O,y,(ay 56),dy,_,_,O,hy,T.eY,T.bA,O,_,O,_,O,d,dd,p,q,f,b1,b2,b3,b4,s,w,u,c,O,hd,hs,λv H2 s2 r=>k v H2 s2 ?_⟩
  rw[d8 (rA h2) (rA h5) (rA h3) (rA h4)]
  unfold fX
  rw[aai h1]
  exact r
def sQ(K:W.Frag)(C CT:Addr):Sp:=λvs H Q _=>∃(y:Addr)(v:V)(o:Option aT)(c:Nat)(x:bu),vs=[.ref y,v,.str (sg c)]/\Lh C CT H y x/\kC K H o v/\∀v' H',aI H H'->Hj K (aX x o c) H' v'->Q v' H'
theorem sR:bh P w K mg base fE 4 (ay 21) (aL 21) ["self","state","sign"] (sQ K (ay 55) (ay 56)):=by
 have jN:=@sP P w K mg base ay aL cA T
 have oR:=@yR P w K mg base ay aL cA T
 refine T.uR.ok gw (λvs H Q E h=>?_) (λcdv A outer s H vs Q E hr h=>?_)
 ·obtain⟨y,v,o,c,x,rfl,_⟩:=h;rfl
 ·have hu:=aR hr
  have gb:=hr.aM
  obtain⟨y,v,o,c,x,rfl,hT,hv,k⟩:=h
  cases o with
  |none =>
   have hv:v=.non:=hv
   subst hv
   refine⟨_,(ah (aK (dR jV (pv 1) bE) (ao (aB bE)) aC)
   (ah (di 3 gw.nd (gU (k:=3) (pv 0) T.eY T.nW jN (hr.mono (by decide)) T.nV .nil eZ (af (pv 1) (af (pv 2) ai))))
   (ah (aK (PW.pt (iM (dR aV (cS K (pv 3) aj) az) (f7 (cJ (bR (dY oR hr T.uQ T.oO.kp T.uP (af (aO K rfl (pv 0) rfl) (af (cS K (pv 3) aj) ai)))))))) (ao (aB bE)) aC)
   (ao (aB (pv 3)))))),?_⟩
   exact⟨_,O,O,_,O,Nb rfl (k _ _ (aI.refl _) rfl)⟩
  |some st =>
  obtain⟨s,rfl,hs⟩:=hv
  obtain⟨p,q,f,⟨b1,b2,b3,b4⟩⟩:=x
  obtain⟨w,u⟩:=st
  have hT:Tn (ay 55) (ay 56) H y p q f b1 b2 b3 b4:=hT
  have k:∀v H',aI H H'->Hj K (bX p q f b1 b2 b3 b4 w u c) H' v->Q v H':=k
  unfold bX at k
  refine⟨_,(ah (aK (dR jV (pv 1) bE) (ao (aB bE)) aC)
   (ah (di 3 gw.nd (gU (k:=3) (pv 0) T.eY T.nW jN (hr.mono (by decide)) T.nV .nil eZ (af (pv 1) (af (pv 2) ai))))
   (ah (aK (PW.pt (iM (dR aV (cS K (pv 3) aj) az) (f7 (cJ (bR (dY oR hr T.uQ T.oO.kp T.uP (af (aO K rfl (pv 0) rfl) (af (cS K (pv 3) aj) ai)))))))) (ao (aB bE)) aC)
   (ao (aB (pv 3)))))),?_⟩
  obtain⟨dy,d,dd,ey,ed⟩:=hT.ok
  refine⟨_,rfl,rfl,_,rfl,wm (λz=>nomatch z) ⟨_,rfl,y,dy,_,rfl,ey,rfl,_,rfl,_,rfl,y,s,w,u,c,p,q,f,b1,b2,b3,b4,rfl,hT,hs,λv H5 s5 r=>?_⟩⟩
  cases Rg:aQ p q f b1 b2 b3 b4 w u c with
  |go kd w3 u3 =>
   rw[Rg]at r k
   obtain⟨hk,a,b,rfl,ha,hb⟩:=r
   have ey5:=s5 _ _ ey
   have ed5:=s5 _ _ ed
   have k:∀v H',aI H H'->Hj K (if cD f w3 u3=true then some (kd,w3,u3) else none) H' v->Q v H':=k
   refine⟨_,O,a,_,_,_,O,O,ha,O,O,_,O,kF hk ?_⟩
   refine⟨_,O,y,_,_,_,_,O,ey5,T.eY,T.bA,O,_,O,a,_,_,_,O,O,ha,O,d,dd,b,w3,u3,p,q,f,b1,b2,b3,b4,O,ed5,hb,_,O,?_⟩
   by_cases hL:cD f w3 u3=true
   ·rw[aaj hL]at k
    exact OW hL ⟨_,rfl,k _ _ s5 ⟨a,b,rfl,ha,hb⟩⟩
   ·rw[aai hL]at k
    exact OX (rA hL) (k _ _ s5 rfl)
  |kj e =>
   rw[Rg]at r k
   obtain⟨a,rfl,ha⟩:=r
   have k:∀v H',aI H H'->Hj K none H' v->Q v H':=k
   exact⟨_,O,a,_,_,_,O,O,ha,O,O,_,O,kE (aA _) (kY (k _ _ s5 rfl))⟩
def zS:Sp:=λvs H Q _=>∃z:Str,vs=[.str z]/\qh z/\z.length<=2000/\∀H',aI H H'->Q .non H'
theorem zT:bh P w K mg base fE 4 (ay 22) (aL 22) ["thing"] zS:=by
 have u6:=@yQ P w K mg base ay aL cA T
 refine T.sr.ok zH (λvs H Q E h=>?_) (λcdv A outer s H vs Q E hr h=>?_)
 ·obtain⟨z,rfl,_⟩:=h;rfl
 ·have hu:=aR hr
  have gb:=hr.aM
  obtain⟨z,rfl,g,hz,k⟩:=h
  refine⟨_,(ao (aK (cJ (bR (dY u6 hr T.AZ T.uO.kp T.AY (af (pv 0) ai)))) (ao kr) aC)),?_⟩
  exact⟨_,O,z,O,g,hz,λH1 s1=>⟨true,O,eg (k H1 s1)⟩⟩
def N4(K:W.Frag)(C:Addr):Sp:=λvs H Q _=>∃(x dx:Addr)(z:Str)(p q f:Str)(b1 b2 b3 b4:Bool),vs=[.ref x,.str z]/\H x=some (.ins C dx (BF p q f b1 b2 b3 b4))/\Gd p q f/\qh z/\z.length<=2000/\∀(tw lk s:Addr) H',H' tw=some (.tup [.ref lk,.ref s,KP (runM p q f b1 b2 b3 b4 ("row":Str) ("":Str) z.cps.toList).2.2.2])->H lk=none->H' lk=some (.lst ((runM p q f b1 b2 b3 b4 ("row":Str) ("":Str) z.cps.toList).1.map V.str))->aN K H' s [.str (runM p q f b1 b2 b3 b4 ("row":Str) ("":Str) z.cps.toList).2.1,.str (runM p q f b1 b2 b3 b4 ("row":Str) ("":Str) z.cps.toList).2.2.1]->aI H H'->Q (.ref tw) H'
theorem N5:bh P w K mg base fE 8 (ay 23) (aL 23) ["dialect","text"] (N4 K (ay 55)):=by
 have fJ:=@kP P w K mg base ay aL cA T
 have jN:=@sP P w K mg base ay aL cA T
 have Ck:=@zT P w K mg base ay aL cA T
 refine T.LU.ok lI (λvs H Q E h=>?_) (λcdv A outer s H vs Q E hr h=>?_)
 ·obtain⟨x,dx,z,p,q,f,b1,b2,b3,b4,rfl,_⟩:=h;rfl
 ·have hu:=aR hr
  have gb:=hr.aM
  obtain⟨x,dx,z,p,q,f,b1,b2,b3,b4,rfl,hx,g,hz,hz2,k⟩:=h
  refine'⟨_,?aa,?bb⟩
  case aa =>
   refine' ah ?s0 ?r0
   case s0 =>
    exact(iS (dY Ck hr T.Cb T.sr.kp T.Ca (af (pv 1) ai)))
   case r0 =>
    refine' ah ?s1 ?r1
    case s1 =>
     exact(di 2 lI.nd (jy (k:=6) T.FT fJ (hr.mono (by decide)) rfl T.FP T.iF .nil eZ (af (pv 0) ai)))
    case r1 =>
     refine' ah ?s2 ?r2
     case s2 =>
      refine' di 3 lI.nd ?v3
      case v3 =>
       refine' eF ?a4
       case a4 =>
        exact ai
     case r2 =>
      refine' ah ?s5 ?r5
      case s5 =>
       exact(di 4 lI.nd (cO rfl T.cE))
      case r5 =>
       refine' ah ?s6 ?r6
       case s6 =>
        exact(ic aaW rfl (nC (pv 1)) (nt 5 lI.nd)
     (ah (di 6 lI.nd (gU (k:=3) (pv 2) T.eY T.nW jN (hr.mono (by decide)) T.nV .nil eZ (af (pv 4) (af (pv 5) ai))))
     (ah (aK (dR aV (cS K (pv 6) aj) az) (ao (aB (aD (af (pv 3) (af (pv 4) (af (cS K (pv 6) aj) ai)))))) aC)
     (ah (iS (ig K rfl aaX abh abi fW (pv 3) (af (cS K (pv 6) aj) ai)))
     (ao (di 4 lI.nd (cS K (pv 6) aj)))))))
       case r6 =>
        refine' ao ?s7
        case s7 =>
         refine' aB ?v8
         case v8 =>
          refine' aD ?a9
          case a9 =>
           refine' af ?Xz ?XA ?XC
           case XC=>exact rfl
           case Xz =>
            exact(pv 3)
           case XA =>
            refine' af ?XD ?XE ?XF
            case XF=>exact rfl
            case XD =>
             exact(pv 4)
            case XE =>
             refine' af ?Xx ?Xy ?Rf
             case Rf=>exact rfl
             case Xx =>
              exact bE
             case Xy =>
              exact ai
  refine⟨_,O,z,O,hz,hz2,λH1 s1=>?_⟩
  refine⟨_,O,λy dy hy RO ne=>⟨y,dy,x,dx,p,q,f,b1,b2,b3,b4,O,ak,gk hy RO (s1 _ _ hx),g,λH2 hT kp=>⟨O,?_⟩⟩⟩
  have s2:=s1.trans (iY hy RO kp)
  refine⟨by decide,λlk hlk=>?_⟩
  have s3:=aq (o:=HO.lst []) hlk
  have El:H lk=none:=s2.free hlk
  refine⟨_,O,z,O,?_⟩
  refine qX (λi σ H4=>aI H H4/\∃(w u:Str)(s:Addr)(ks:List Str)(v1 v2:Option V),σ=[some (.ref x),some (.str z),some (.ref y),some (.ref lk),some (.ref s),v1,v2]/\Tn (ay 55) (ay 56) H4 y p q f b1 b2 b3 b4/\H4 lk=some (.lst (ks.map V.str))/\aN K H4 s [.str w,.str u]/\ks.length=i/\runM p q f b1 b2 b3 b4 ("row":Str) ("":Str) z.cps.toList=Fg ks (runM p q f b1 b2 b3 b4 w u (z.cps.toList.drop i))) ⟨s2.trans s3,_,_,(ay 63),[],_,_,rfl,hT.mono s3,ak,.inr T.fu,rfl,rfl⟩ ?_ ?_
  ·rintro i c σ H4 hi ⟨s4,w,u,s,ks,v1,v2,rfl,VD,h4,hs,VE,er⟩
   rw[drop_cons hi]at er
   have hil:=(aau.mp hi).1
   rw[aap]at hil
   have hil:i<z.length:=hil
   obtain⟨dy4,d4,dd4,ey4,ed4⟩:=VD.ok
   refine⟨_,O,y,dy4,_,O,ey4,O,_,O,_,O,y,s,w,u,c,p,q,f,b1,b2,b3,b4,O,VD,hs,λv H5 s5 r=>?_⟩
   have h5:=s5 _ _ h4
   cases Rg:aQ p q f b1 b2 b3 b4 w u c with
   |go kd w3 u3 =>
    rw[Rg]at r
    obtain⟨hk,a,b,rfl,ha,hb⟩:=r
    refine⟨_,O,a,_,_,_,O,O,ha,O,O,_,O,kF hk ?_⟩
    refine⟨_,O,.inl ⟨O,_,bK.of h5⟩,_,O,a,_,_,_,O,O,ha,O,lk,_,_,O,O,h5,?_,?_⟩
    ·rw[aav];exact aaK (show ks.length<=2000 by omega) (by decide)
    refine⟨_,O,a,_,_,_,O,O,jC h5 ha,O,aS El (s4.trans s5),w3,u3,b,ks++[kd],_,_,O,Tn.but h5 (VD.mono s5),?_,jC h5 hb,by rw[aao,VE];rfl,er.trans (Qs Rg)⟩
    rw[aaS];exact ak
   |kj e =>
    rw[Rg]at r
    obtain⟨a,rfl,ha⟩:=r
    refine⟨_,O,a,_,_,_,O,O,ha,O,O,_,O,kE (aA _) ?_⟩
    refine⟨_,O,_,O,_,O,a,_,_,_,O,O,ha,O,(by show 3<=sizeLine;decide),λt ht=>?_⟩
    have st:=aq (o:=HO.tup [.ref lk,.ref s,.str e]) ht
    rw[Nl Rg]at er
    refine k t lk s _ ?_ El ?_ ?_ ((s4.trans s5).trans st)
    ·rw[er];exact ak
    ·rw[er];exact st _ _ h5
    ·rw[er];exact av (s5.trans st) hs
  ·rintro σ H4 ⟨s4,w,u,s,ks,v1,v2,rfl,VD,h4,hs,VE,er⟩
   rw[List.drop_length,Nm]at er
   refine⟨_,O,_,O,(by show 3<=sizeLine;decide),λt ht=>?_⟩
   have st:=aq (o:=HO.tup [.ref lk,.ref s,.non]) ht
   refine k t lk s _ ?_ El ?_ ?_ (s4.trans st)
   ·rw[er];exact ak
   ·rw[er];exact st _ _ h4
   ·rw[er];exact av st hs
def Ja(K:W.Frag):Sp:=λvs H Q _=>∃(tw lk s:Addr)(ks:List Str)(w u:Str)(o:Option Str),vs=[.ref tw]/\H tw=some (.tup [.ref lk,.ref s,KP o])/\H lk=some (.lst (ks.map V.str))/\aN K H s [.str w,.str u]/\(o=none->vE w u=true->Q .non H)/\((o=none->vE w u=false)->∀t,H t=none->Q (.ref t) (upd H t (.tup [.int ks.length,.int (WT ks),.str (o.getD ("cut":Str))])))
theorem Jb:bh P w K mg base fE 1 (ay 24) (aL 24) ["walked"] (Ja K):=by
 refine T.Ea.ok uM (λvs H Q E h=>?_) (λcdv A outer s H vs Q E hr h=>?_)
 ·obtain⟨tw,lk,s,ks,w,u,o,rfl,_⟩:=h;rfl
 ·have hu:=aR hr
  have gb:=hr.aM
  obtain⟨tw,lk,s,ks,w,u,o,rfl,ht,hk,hs,k1,k2⟩:=h
  have hT:aN K H tw [.ref lk,.ref s,KP o]:=aN.of ht
  refine⟨_,(ah (di 1 uM.nd (cS K (pv 0) aj))
   (ah (di 2 uM.nd (cS K (pv 0) aj))
   (ah (aK (PW.pt (gK (dR jV (pv 2) bE) (eS (dR (P0 K rfl gb) (cS K (pv 0) aj) (cO rfl T.cE))))) (ao (aB bE)) aC)
   (ao (aB (aD (af (tO (dM K rfl) T.gD (af (pv 1) ai)) (af (ig K rfl aaX PySem.F.slot_list_count PySem.F.type_list_count (EZ K rfl) (pv 1) (af az ai)) (af (kq (dR jV (pv 2) bE) az (pv 2)) ai))))))))),?_⟩
  refine⟨_,O,tw,_,_,_,O,O,hT,O,_,O,tw,_,_,_,O,O,hT,O,?_⟩
  cases o with
  |none =>
   refine⟨_,O,O,_,O,kE (aas rfl) ?_⟩
   refine⟨_,O,tw,_,_,_,O,O,hT,O,s,(ay 63),_,_,O,O,hs,.inr T.fu,O,O,_,O,bI (λ(h1:vE w u=true)=>?_) (λ(h1:¬vE w u=true)=>?_)⟩
   ·exact k1 rfl h1
   ·refine⟨_,O,lk,_,O,.inl (bK.of hk),_,O,.inl ⟨O,_,bK.of hk⟩,lk,_,_,O,O,bK.of hk,O,AB ks,_,O,O,_,O,kE (aas rfl) ?_⟩
    rw[aav]
    exact⟨(by show 3<=sizeLine;decide),λt ht=>k2 (λ_=>rA h1) t ht⟩
  |some e =>
   refine⟨_,O,O,_,O,kF (aak (by intro z;cases z)) (eg ?_)⟩
   refine⟨_,O,lk,_,O,.inl (bK.of hk),_,O,.inl ⟨O,_,bK.of hk⟩,lk,_,_,O,O,bK.of hk,O,AB ks,_,O,O,_,O,kF (aak (by intro z;cases z)) ?_⟩
   rw[aav]
   exact⟨_,O,(by show 3<=sizeLine;decide),λt ht=>k2 (λz=>by cases z) t ht⟩
def En(K:W.Frag):Sp:=λvs H Q _=>∃(z:Str)(lk:Addr)(ks:List Str),vs=[.str z,.ref lk]/\H lk=some (.lst (ks.map V.str))/\z.length<=2000/\∀(l:Addr)(es:List V)(H':Hp),H l=none->H' l=some (.lst es)->V.ref l∉es->es.Nodup->rC H H' es (Fi z ks)->aI H H'->Q (.ref l) H'
theorem Eo:bh P w K mg base fE 1 (ay 25) (aL 25) ["text","kinds"] (En K):=by
 refine T.yO.ok cu (λvs H Q E h=>?_) (λcdv A outer s H vs Q E hr h=>?_)
 ·obtain⟨z,lk,ks,rfl,_⟩:=h;rfl
 ·have hu:=aR hr
  have gb:=hr.aM
  obtain⟨z,lk,ks,rfl,hk,hz,k⟩:=h
  refine⟨_,(ah (di 2 cu.nd (eF ai))
   (ah (di 3 cu.nd (eF ai))
   (ah (di 4 cu.nd az)
   (ah (ic aaW rfl (Km K rfl rfl T.QN (af (pv 0) (af (pv 1) ai))) (oF K rfl 2 rfl (bS (nt 5 cu.nd) (bS (nt 6 cu.nd) oE)))
   (ao (aK (dR aV (pv 6) az) (ao (di 4 cu.nd (aJ bN (pv 4) (pv 5)))) (ao (aK (dR aV (pv 6) az) (ah (iS (ig K rfl aaX abh abi fW (pv 3) (af (pv 4) ai)))
   (ao (di 4 cu.nd az))) (ao (aK (dR aV (pv 6) az) (ah (iS (ig K rfl aaX abh abi fW (pv 3) (af (pv 4) ai)))
   (ah (iS (ig K rfl aaX abh abi fW (pv 2) (af (pv 3) ai)))
   (ah (di 3 cu.nd (eF ai))
   (ao (di 4 cu.nd az))))) aC)))))))
   (ao (aB (pv 2))))))),?_⟩
  refine⟨by decide,λlt hlt=>?_⟩
  have s1:=aq (o:=HO.lst []) hlt
  refine⟨by decide,λr0 hr0=>?_⟩
  have s2:=aq (o:=HO.lst []) hr0
  have a1:(upd (upd H lt (.lst [])) r0 (.lst [])) lt=some (.lst []):=s2 _ _ ak
  have a2:(upd (upd H lt (.lst [])) r0 (.lst [])) r0=some (.lst []):=ak
  have n0:r0≠lt:=λq=>by rw[q,ak]at hr0;cases hr0
  have fr:=s1.free hr0
  have s12:=s1.trans s2
  generalize upd (upd H lt (.lst [])) r0 (.lst [])=H1 at a1 a2 s12⊢
  refine⟨_,O,_,O,z,lk,O,⟨_,bK.of (s12 _ _ hk)⟩,?_⟩
  have hz':z.cps.size<=2000:=hz
  have e0:("":Str).length=0:=by decide +kernel
  refine Kn (K:=K) (z:=z) (b:=lk) (ys:=ks.map V.str) (λi σ H2=>aI H H2/\∃rr es row cell v5 v6,σ=[some (.str z),some (.ref lk),some (.ref lt),some (.ref rr),some (.str cell),v5,v6]/\H rr=none/\H2 lt=some (.lst es)/\H2 rr=some (.lst (row.map V.str))/\rr≠lt/\V.ref lt∉es/\V.ref rr∉es/\es.Nodup/\∃rows,rC H H2 es rows/\nQ BK (z.cps.toList.take i) (ks.take i)=⟨rows,row,cell⟩/\cell.length<=i/\row.length<=i/\es.length<=i) ⟨s12,r0,[],[],_,_,_,rfl,fr,a1,a2,n0,by simp,by simp,List.nodup_nil,[],.nil,rfl,by rw[e0];exact aan _,aan _,aan _⟩ (λi σ H2 _ q=>bK.of (q.1 _ _ hk)) ?_ ?_
  ·rintro i c y t σ H2 hc hy ht ⟨s3,rr,es,row,cell,v5,v6,rfl,Rh,b1,b2,nr,n1,n2,nd,rows,rw',hg,l1,l2,l3⟩
   obtain⟨kd,hkd,rfl⟩:=BL hy
   have hil:=(abn.mp hc).1
   have hc':z.cps.toList[i]?=some c:=by simpa using hc
   have Ju:=AD BK z.cps.toList ks i c kd hc' hkd
   rw[hg]at Ju
   have st:=aq (o:=HO.tup [.str (sg c),.str kd]) ht
   refine⟨t,_,O,aN.of ak,O,_,_,O,_,_,O,O,?_⟩
   have s4:=s3.trans st
   replace b1:=st _ _ b1
   replace b2:=st _ _ b2
   replace rw':=rC.mono st rw'
   generalize upd H2 t (.tup [.str (sg c),.str kd])=H3 at s4 b1 b2 rw'⊢
   clear st ht s3
   unfold DE at Ju
   refine⟨_,O,O,_,O,bI (λh1=>?_) (λh1=>?_)⟩
   ·have h1:aY kd ("put":Str)=true:=h1
    rw[aaj h1]at Ju
    refine⟨_,O,_,O,_,_,O,O,aaq (show cell.length+1<=2001 by omega) (by decide),?_⟩
    exact⟨s4,rr,es,row,_,_,_,O,Rh,b1,b2,nr,n1,n2,nd,rows,rw',Ju,by rw[aU];show cell.length+1<=_;omega,by omega,by omega⟩
   have h1:¬aY kd ("put":Str)=true:=h1
   rw[aai h1]at Ju
   refine⟨_,O,O,_,O,bI (λh2=>?_) (λh2=>?_)⟩
   ·have h2:aY kd ("part":Str)=true:=h2
    rw[aaj h2]at Ju
    refine⟨_,O,.inl ⟨O,_,bK.of b2⟩,_,O,rr,_,_,O,O,b2,by rw[aav];exact aaK l2 (aaG (show i<2001 by omega) (by decide)),?_⟩
    refine⟨aS Rh s4,rr,es,row++[cell],_,_,_,O,Rh,(aH (abD nr)).trans b1,by rw[ak,aaS];rfl,nr,n1,n2,nd,rows,rC.but n2 rw',Ju,by rw[e0];omega,by rw[aao];show row.length+1<=_;omega,by omega⟩
   have h2:¬aY kd ("part":Str)=true:=h2
   rw[aai h2]at Ju
   refine⟨_,O,O,_,O,bI (λh3=>?_) (λh3=>?_)⟩
   ·have h3:aY kd ("end":Str)=true:=h3
    rw[aaj h3]at Ju
    refine⟨_,O,.inl ⟨O,_,bK.of b2⟩,_,O,rr,_,_,O,O,b2,by rw[aav];exact aaK l2 (aaG (show i<2001 by omega) (by decide)),?_⟩
    have c1:(upd H3 rr (.lst (row.map V.str++[.str cell]))) lt=some (.lst es):=(aH (abD nr)).trans b1
    refine⟨_,O,.inl ⟨O,_,bK.of c1⟩,_,O,lt,es,_,O,O,c1,aaK l3 (aaG (show i<2001 by omega) (by decide)),?_⟩
    have s5:aI H (upd (upd H3 rr (.lst (row.map V.str++[.str cell]))) lt (.lst (es++[.ref rr]))):=aS hlt (aS Rh s4)
    have d1:(upd (upd H3 rr (.lst (row.map V.str++[.str cell]))) lt (.lst (es++[.ref rr]))) lt=some (.lst (es++[.ref rr])):=ak
    have d2:(upd (upd H3 rr (.lst (row.map V.str++[.str cell]))) lt (.lst (es++[.ref rr]))) rr=some (.lst ((row++[cell]).map V.str)):=by rw[aH nr,ak,aaS];rfl
    have nl:V.ref lt∉es++[V.ref rr]:=λq=>by
     rcases aaC.mp q with q|q
     ·exact n1 q
     ·exact nr (V.ref.inj (aat.mp q)).symm
    have XG:rC H (upd (upd H3 rr (.lst (row.map V.str++[.str cell]))) lt (.lst (es++[.ref rr]))) (es++[.ref rr]) (rows++[row++[cell]]):=rC.app (rC.but n1 (rC.but n2 rw')) (.cons ⟨rr,rfl,Rh,d2⟩ .nil)
    have nd5:(es++[V.ref rr]).Nodup:=List.nodup_append.mpr ⟨nd,by simp,λx hx y hy e=>n2 (by rw[aat.mp hy]at e;exact e▸hx)⟩
    generalize upd (upd H3 rr (.lst (row.map V.str++[.str cell]))) lt (.lst (es++[.ref rr]))=H5 at s5 d1 d2 XG⊢
    refine⟨by decide,λr2 hr2=>?_⟩
    have sn:=aq (o:=HO.lst []) hr2
    have nr2:r2≠lt:=λq=>by rw[q,d1]at hr2;cases hr2
    refine⟨s5.trans sn,r2,es++[.ref rr],[],_,_,_,O,s5.free hr2,sn _ _ d1,ak,nr2,nl,λq=>?_,nd5,_,rC.mono sn XG,Ju,by rw[e0];omega,aaM _,by rw[aao];show es.length+1<=_;omega⟩
    obtain⟨_,ys,hys⟩:=XG.has q
    rw[hys]at hr2;cases hr2
   have h3:¬aY kd ("end":Str)=true:=h3
   rw[aai h3]at Ju
   exact⟨s4,rr,es,row,cell,_,_,O,Rh,b1,b2,nr,n1,n2,nd,rows,rw',Ju,by omega,by omega,by omega⟩
  ·rintro σ H2 ⟨s3,rr,es,row,cell,v5,v6,rfl,Rh,b1,b2,nr,n1,n2,nd,rows,rw',hg,l1,l2,l3⟩
   refine⟨_,O,k lt es H2 hlt b1 n1 nd ?_ s3⟩
   have e:min z.cps.size (ks.map V.str).length=min z.cps.toList.length ks.length:=by
    have ez:z.cps.toList.length=z.cps.size:=aap
    rw[aav,ez]
   rw[e,DF]at hg
   have:Fi z ks=rows:=by unfold Fi;rw[hg]
   rw[this]
   exact rw'
def zU(K:W.Frag)(C:Addr):Sp:=λvs H Q _=>∃(x dx:Addr)(z:Str)(p q f:Str)(b1 b2 b3 b4:Bool),vs=[.ref x,.str z]/\H x=some (.ins C dx (BF p q f b1 b2 b3 b4))/\Gd p q f/\qh z/\z.length<=2000/\∀v H',RP H H' v (K3 (TM p q f b1 b2 b3 b4 z) z)->aI H H'->Q v H'
theorem zV:bh P w K mg base fE 9 (ay 26) (aL 26) ["dialect","text"] (zU K (ay 55)):=by
 have L3:=@Jb P w K mg base ay aL cA T
 have FZ:=@Eo P w K mg base ay aL cA T
 have Ri:=@N5 P w K mg base ay aL cA T
 refine T.lM.ok pJ (λvs H Q E h=>?_) (λcdv A outer s H vs Q E hr h=>?_)
 ·obtain⟨x,dx,z,p,q,f,b1,b2,b3,b4,rfl,_⟩:=h;rfl
 ·have hu:=aR hr
  have gb:=hr.aM
  obtain⟨x,dx,z,p,q,f,b1,b2,b3,b4,rfl,hx,g,hz,hz2,k⟩:=h
  have hw:=λe=>DB (p:=p) (q:=q) (f:=f) (b1:=b1) (b2:=b2) (b3:=b3) (b4:=b4) (w:=("row":Str)) (u:=("":Str)) (cs:=z.cps.toList) (e:=e)
  refine⟨_,(ah (di 2 pJ.nd (dY Ri hr T.QL T.LU.kp T.QK (af (pv 0) (af (pv 1) ai))))
   (ah (aK (dR xF (dY L3 hr T.LW T.Ea.kp T.LV (af (pv 2) ai)) bE) (ao (aB bE)) aC)
   (ao (aB (dY FZ hr T.FL T.yO.kp T.FJ (af (pv 1) (af (cS K (pv 2) aj) ai))))))),?_⟩
  refine⟨_,O,_,O,x,dx,z,p,q,f,b1,b2,b3,b4,O,hx,g,hz,hz2,λtw lk s H1 ht El hk hs s1=>?_⟩
  unfold TM at k
  generalize runM p q f b1 b2 b3 b4 ("row":Str) ("":Str) z.cps.toList=r at ht hk hs hw k
  refine⟨_,O,tw,lk,s,r.1,r.2.1,r.2.2.1,r.2.2.2,O,ht,hk,hs,λh1 h2=>?_,λh1 t XH=>?_⟩
  ·refine⟨O,_,O,OW (aas rfl) ?_⟩
   have hW:zA r=("":Str):=by unfold zA;rw[h1];exact aaj h2
   refine⟨_,O,_,O,tw,_,_,_,O,O,aN.of ht,O,z,lk,r.1,O,hk,hz2,λl es H2 hl hl2 nl nd rw2 s2=>?_⟩
   refine k (.ref l) H2 ?_ (s1.trans s2)
   unfold K3
   rw[aaj hW]
   exact⟨l,es,O,s1.free hl,hl2,cT (λa b ⟨c,e1,e2,e3⟩=>⟨c,e1,s1.free e2,e3⟩) rw2⟩
  have hW:zA r≠Str.ofString "":=by
   unfold zA
   cases ho:r.2.2.2 with
   |some e=>exact(hw e ho).1
   |none =>
    show(if vE r.2.1 r.2.2.1=true then Str.ofString "" else Str.ofString "cut")≠_
    rw[aai (by rw[h1 ho];decide)]
    exact λq=>absurd (congrArg (λz=>aY z ("":Str)) q) (by decide +kernel)
  refine⟨O,_,O,OX (aak (by intro z;cases z)) ?_⟩
  refine k .non _ ?_ (s1.trans (aq XH))
  unfold K3
  rw[aai hW]
  rfl
def Cn(K:W.Frag)(C:Addr):Sp:=λvs H Q _=>∃(l:Addr)(xs:List V)(cs:List bu),vs=[.ref l]/\H l=some (.lst xs)/\Mks C H xs cs/\(∀x∈cs,gm x)/\cs.length<=2/\∀H',aI H H'->Q (.str (qk (cs.map bf))) H'
theorem Co:bh P w K mg base fE 3 (ay 27) (aL 27) ["dialects"] (Cn K (ay 55)):=by
 have sS:=@qH P w K mg base ay aL cA T
 have FY:=@HD P w K mg base ay aL cA T
 have L4:=@IZ P w K mg base ay aL cA T
 refine T.vH.ok rW (λvs H Q E h=>?_) (λcdv A outer s H vs Q E hr h=>?_)
 ·obtain⟨l,xs,cs,rfl,_⟩:=h;rfl
 ·have hu:=aR hr
  have gb:=hr.aM
  obtain⟨l,xs,cs,rfl,hl,tr,gs,hc2,k⟩:=h
  obtain⟨zs,hzs⟩:∃zs,zs=cs.map bf:=⟨_,rfl⟩
  rw[←hzs]at k
  have hz2:zs.length<=2:=by rw[hzs,aav];exact hc2
  have zl:=T.lU
  refine⟨_,(ah (di 1 rW.nd (aJ bN (aJ bN (ig K rfl PySem.F.plainAttrs_str PySem.F.slot_str_join PySem.F.type_str_join (C9 K rfl) az (af (k6 rfl (show cz ["dialects","signs"] (au jA) ["dialect"] 1 [] _ from OV) (ku K rfl (pv 0)) (λ_ _ _ _=>(nt 0 Vx)) (λ_ _ _ _=>kZ) (λ_ _ _ _=>(C4 (k:=2) (pv 0) T.aG T.sd sS (hr.mono (by decide)) T.r8 .nil eZ))) ai)) (jz rfl T.lT.choose_spec)) az))
   (ao (aB (dY FY hr T.LQ T.FI.kp T.LP (af (aJ bN (pv 1) (dY L4 hr T.LS T.D6.kp T.LR (af (pv 1) (af aj ai)))) ai))))),?_⟩
  refine⟨O,_,O,l,O,⟨_,bK.of hl⟩,λD hD=>?_⟩
  have VF:xs.length=zs.length:=by rw[hzs,aav];exact tr.length
  refine Av (K:=K) (a:=l) (xs:=xs) (λi ws τ H2=>(∃v,τ=[v])/\aI H H2/\H2 D=some (.lst ws)/\ws=((zs.take i).map bF).map V.str) ⟨⟨_,rfl⟩,aq hD,ak,rfl⟩ (λi ws τ H2 _ p=>⟨bK.of (p.2.1 _ _ hl),p.2.2.1⟩) ?_ ?_
  ·rintro i x ws τ H2 hi ⟨⟨v,rfl⟩,s2,h2,hws⟩
   obtain⟨cc,hcc,d,dx,rfl,hd⟩:=bW tr i x hi
   have hd:=s2 _ _ hd
   have hg:=gs cc (aaZ hcc)
   have hz:zs[i]?=some (bf cc):=by rw[hzs,abS,hcc];rfl
   obtain⟨p,q,f,⟨b1,b2,b3,b4⟩⟩:=cc
   have ez:bf (p,q,f,⟨b1,b2,b3,b4⟩)=(p++q)++f:=rfl
   have hil:i<zs.length:=(aau.mp hz).1
   refine Fd ?_
   refine⟨_,O,d,dx,_,O,hd,O,d,dx,p,q,f,b1,b2,b3,b4,O,hd,hg,h2,?_,⟨_,O⟩,aS hD s2,ak,?_⟩
   ·rw[hws,aav,aav,aa6];exact aaK (show _<=2 by omega) (by decide)
   ·rw[hws,Fp hz,aaS,aaS,ez];rfl
  ·rintro ws τ H2 ⟨⟨v,rfl⟩,s2,h2,hws⟩
   rw[VF,aaJ (aan _)]at hws
   subst hws
   have h7:∀z∈zs,z.length<=7:=λz hz=>by
    rw[hzs]at hz
    obtain⟨cc,hcc,rfl⟩:=aaY.mp hz
    have hg:=gs cc hcc
    have hp3:=hg.p3;have hq2:=hg.q2;have hf2:=hg.f2
    unfold bf
    rw[aU,aU];omega
   have RQ:∀z∈zs.map bF,z.length<=7:=λz hz=>by
    obtain⟨y,hy,rfl⟩:=aaY.mp hz
    exact aaq (gR y) (h7 y hy)
   have hsum:=Nu RQ
   rw[aav (f:=bF)]at hsum
   refine⟨_,D,zs.map bF,O,O,bK.of h2,?_,?_⟩
   ·rw[aav (f:=bF)];omega
   have hj:(Txt.join ("":Str) (zs.map bF)).length<=14:=by
    have:=Fj RQ
    rw[←join_list,aav,aap]at this
    exact aaq this (by omega)
   have l1:(cA 0).length=1:=by rw[zl];decide +kernel
   have l2:(" ":Str).length=1:=by decide +kernel
   unfold qk at k
   rw[←zl]at k
   generalize Txt.join ("":Str) (zs.map bF)=J at hj k⊢
   refine⟨_,_,O,O,aaq (show J.length+(cA 0).length<=30 by omega) (by decide),_,_,O,O,?_,?_⟩
   ·rw[aU];exact aaq (show J.length+(cA 0).length+(" ":Str).length<=30 by omega) (by decide)
   have hB:((J++(cA 0))++Str.ofString " ").length<=30:=by rw[aU,aU];omega
   generalize (J++(cA 0))++Str.ofString " "=B at hB k⊢
   refine⟨_,O,_,O,B,1,O,by decide,by decide,λH3 s3=>?_⟩
   have hd:(zD B 1).length<=1:=by
    show(zC B dj 1).toArray.size<=1
    rw[aam];exact rF _ _ _
   refine⟨_,_,O,O,?_,_,O,?_,k H3 (s2.trans s3)⟩
   ·exact aaq (show B.length+(zD B 1).length<=40 by omega) (by decide)
   ·rw[aU];exact aaq (show B.length+(zD B 1).length<=40 by omega) (by decide)
def qI(K:W.Frag)(C CT CC:Addr):Sp:=λvs H Q _=>∃(m dm a da b db:Addr)(x y:bu),vs=[.ref m,.ref a,.ref b]/\H m=some (.ins CC dm [])/\H a=some (.ins C da (iU x))/\gm x/\H b=some (.ins C db (iU y))/\gm y/\∀H',Li C CT CC H' m x y (lF x y)->(∀b o,H b=some o->b≠m->H' b=some o)->Q .non H'
theorem jo:bh P w K mg base fE 8 (ay 28) (aL 28) ["self","one","other"] (qI K (ay 55) (ay 56) (ay 57)):=by
 have fJ:=@kP P w K mg base ay aL cA T
 have Ep:=@Co P w K mg base ay aL cA T
 refine T.sC.ok qq (λvs H Q E h=>?_) (λcdv A outer s H vs Q E hr h=>?_)
 ·obtain⟨m,dm,a,da,b,db,x,y,rfl,_⟩:=h;rfl
 ·have hu:=aR hr
  have gb:=hr.aM
  obtain⟨m,dm,a,da,b,db,x,y,rfl,hm,ha,gx,hb,gy,k⟩:=h
  refine⟨_,(ah (ie (pv 0) (jy (k:=6) T.FT fJ (hr.mono (by decide)) rfl T.FP T.iF .nil eZ (af (pv 1) ai)) rfl)
   (ah (ie (pv 0) (jy (k:=6) T.FT fJ (hr.mono (by decide)) rfl T.FP T.iF .nil eZ (af (pv 2) ai)) rfl)
   (ao (ie (pv 0) (dY Ep hr T.Ec T.vH.kp T.Eb (af (eF (af (pv 1) (af (pv 2) ai))) ai)) rfl)))),?_⟩
  refine⟨_,O,λt1 XI ht1 Jc ne=>⟨t1,XI,a,da,_,_,_,_,_,_,_,O,ak,gk ht1 Jc ha,gx,λH2 hT1 kp=>⟨O,?_⟩⟩⟩
  have s2:=iY ht1 Jc kp
  have hm2:=s2 _ _ hm
  refine⟨_,O,m,(ay 57),dm,_,O,hm2,T.dP,T.gC,(by show 0<1000;decide),?_⟩
  have Z6:b≠m:=λq=>by rw[q,hm]at hb;injection hb with hb;injection hb with _ _ hb;exact nomatch hb
  have Z7:a≠m:=λq=>by rw[q,hm]at ha;injection ha with ha;injection ha with _ _ ha;exact nomatch ha
  have UA:(upd H2 m (.ins (ay 57) dm [("first",.ref t1)])) b=some (.ins (ay 55) db (iU y)):=(aH Z6).trans (s2 _ _ hb)
  have Z8:(upd H2 m (.ins (ay 57) dm [("first",.ref t1)])) a=some (.ins (ay 55) da (iU x)):=(aH Z7).trans (s2 _ _ ha)
  have VG:Lh (ay 55) (ay 56) (upd H2 m (.ins (ay 57) dm [("first",.ref t1)])) t1 x:=by
   refine Tn.off2 hm2 ?_ ?_ hT1
   ·intro d fs q;injection q with q1 q2 q3;cases q3
   ·intro d q;injection q with q1 q2 q3;cases q3
  have O4:=ak (H:=H2) (a:=m) (o:=.ins (ay 57) dm [("first",.ref t1)])
  have k3:∀b o,H b=some o->b≠m->(upd H2 m (.ins (ay 57) dm [("first",.ref t1)])) b=some o:=λb o e ne=>(aH ne).trans (s2 _ _ e)
  show Mu _ _ _ _ (upd H2 m (.ins (ay 57) dm [("first",.ref t1)]))
  generalize upd H2 m (.ins (ay 57) dm [("first",.ref t1)])=H3 at UA Z8 VG O4 k3⊢
  refine⟨_,O,λt2 dt2 wX UB ne2=>⟨t2,dt2,b,db,_,_,_,_,_,_,_,O,ak,gk wX UB UA,gy,λH4 hT2 kp2=>⟨O,?_⟩⟩⟩
  have s4:=iY wX UB kp2
  have RV:=s4 _ _ O4
  refine⟨_,O,m,(ay 57),dm,_,O,RV,T.dP,T.fH,(by show 1<1000;decide),?_⟩
  have Z9:(upd H4 m (.ins (ay 57) dm [("first",.ref t1),("second",.ref t2)])) b=some (.ins (ay 55) db (iU y)):=(aH Z6).trans (s4 _ _ UA)
  have ha5:(upd H4 m (.ins (ay 57) dm [("first",.ref t1),("second",.ref t2)])) a=some (.ins (ay 55) da (iU x)):=(aH Z7).trans (s4 _ _ Z8)
  have hT5:Lh (ay 55) (ay 56) (upd H4 m (.ins (ay 57) dm [("first",.ref t1),("second",.ref t2)])) t1 x:=by
   refine Tn.off2 RV ?_ ?_ (VG.mono s4)
   ·intro d fs q;injection q with q1 q2 q3;injection q3 with q4 q5;injection q4 with q6 q7;exact absurd q6 (by decide +kernel)
   ·intro d q;injection q with q1 q2 q3;injection q3 with q4 q5;injection q4 with q6 q7;exact absurd q6 (by decide +kernel)
  have hU5:Lh (ay 55) (ay 56) (upd H4 m (.ins (ay 57) dm [("first",.ref t1),("second",.ref t2)])) t2 y:=by
   refine Tn.off2 RV ?_ ?_ hT2
   ·intro d fs q;injection q with q1 q2 q3;injection q3 with q4 q5;injection q4 with q6 q7;exact absurd q6 (by decide +kernel)
   ·intro d q;injection q with q1 q2 q3;injection q3 with q4 q5;injection q4 with q6 q7;exact absurd q6 (by decide +kernel)
  have UC:=ak (H:=H4) (a:=m) (o:=.ins (ay 57) dm [("first",.ref t1),("second",.ref t2)])
  have k5:∀b o,H b=some o->b≠m->(upd H4 m (.ins (ay 57) dm [("first",.ref t1),("second",.ref t2)])) b=some o:=λb o e ne=>(aH ne).trans (s4 _ _ (k3 _ _ e ne))
  show Mu _ _ _ _ (upd H4 m (.ins (ay 57) dm [("first",.ref t1),("second",.ref t2)]))
  generalize upd H4 m (.ins (ay 57) dm [("first",.ref t1),("second",.ref t2)])=H5 at Z9 ha5 hT5 hU5 UC k5⊢
  refine⟨_,O,_,O,(by show(2:Nat)<=sizeLine;decide),λl hl=>?_⟩
  have s6:=aq (o:=HO.lst [.ref a,.ref b]) hl
  refine⟨l,_,[x,y],O,ak,(.cons ⟨a,da,O,s6 _ _ ha5⟩ (.cons ⟨b,db,O,s6 _ _ Z9⟩ .nil)),(λc hc=>?_),(aan 2),λH7 s7=>?_⟩
  ·rcases aaB.mp hc with e|e
   ·rw[e];exact gx
   ·rw[aat.mp e];exact gy
  have VH:=s6.trans s7
  have XJ:=VH _ _ UC
  refine⟨_,O,m,(ay 57),dm,_,O,XJ,T.dP,T.eN,(by show 2<1000;decide),?_⟩
  refine k _ ⟨dm,t1,t2,ak,Tn.off2 XJ ?_ ?_ (hT5.mono VH),Tn.off2 XJ ?_ ?_ (hU5.mono VH)⟩ λb o e hb=>(aH hb).trans (VH _ _ (k5 _ _ e hb))
  ·intro d fs q;injection q with q1 q2 q3;injection q3 with q4 q5;injection q4 with q6 q7;exact absurd q6 (by decide +kernel)
  ·intro d q;injection q with q1 q2 q3;injection q3 with q4 q5;injection q4 with q6 q7;exact absurd q6 (by decide +kernel)
  ·intro d fs q;injection q with q1 q2 q3;injection q3 with q4 q5;injection q4 with q6 q7;exact absurd q6 (by decide +kernel)
  ·intro d q;injection q with q1 q2 q3;injection q3 with q4 q5;injection q4 with q6 q7;exact absurd q6 (by decide +kernel)
def wY(K:W.Frag)(C CT CC:Addr):Sp:=λvs H Q _=>∃(a p:Addr)(s1 s2:V)(o1 o2:Option aT)(c:Nat)(x y:bu)(z:Str),vs=[.ref a,.ref p,.str (sg c)]/\Li C CT CC H a x y z/\aN K H p [s1,s2]/\kC K H o1 s1/\kC K H o2 s2/\∀t v1 v2 H',aI H H'->H' t=some (.tup [v1,v2])->Hj K (aX x o1 c) H' v1->Hj K (aX y o2 c) H' v2->Q (.ref t) H'
theorem mX:bh P w K mg base fE 5 (ay 29) (aL 29) ["self","pair","sign"] (wY K (ay 55) (ay 56) (ay 57)):=by
 have kQ:=@sR P w K mg base ay aL cA T
 refine T.yP.ok wC (λvs H Q E h=>?_) (λcdv A outer s H vs Q E hr h=>?_)
 ·obtain⟨a,p,s1,s2,o1,o2,c,x,y,z,rfl,_⟩:=h;rfl
 ·have hu:=aR hr
  have gb:=hr.aM
  obtain⟨a,p,s1,s2,o1,o2,c,x,y,z,rfl,hC,hp,h1,h2,k⟩:=h
  refine⟨_,(ao (aB (aD (af (gU (k:=4) (aO K rfl (pv 0) rfl) T.eY T.kO kQ (hr.mono (by decide)) T.kN .nil eZ (af (cS K (pv 1) aj) (af (pv 2) ai))) (af (gU (k:=4) (aO K rfl (pv 0) rfl) T.eY T.kO kQ (hr.mono (by decide)) T.kN .nil eZ (af (cS K (pv 1) aj) (af (pv 2) ai))) ai))))),?_⟩
  obtain⟨da,t,u,e1,e2,e3⟩:=hC.ok
  obtain⟨dt,d1,dd1,et,ed1⟩:=e2.ok
  obtain⟨du,d2,dd2,eu,ed2⟩:=e3.ok
  refine⟨_,O,_,_,_,_,_,O,e1,T.dP,T.gC,O,_,_,_,O,et,O,_,O,_,_,_,_,O,O,hp,O,_,O,_,_,_,_,_,O,e2,h1,λv1 H1 S1 L1=>⟨_,O,_,_,_,_,_,O,(S1 _ _ e1),T.dP,T.fH,O,_,_,_,O,(S1 _ _ eu),O,_,O,?_⟩⟩
  refine⟨_,_,_,_,O,O,av S1 hp,O,_,O,_,_,_,_,_,O,e3.mono S1,gu S1 h2,λv2 H2 S2 L2=>⟨(by show(2:Nat)<=sizeLine;decide),λt ht=>?_⟩⟩
  have S3:=aq (o:=HO.tup [v1,v2]) ht
  exact k t v1 v2 _ (S1.trans (S2.trans S3)) ak (jF (S2.trans S3) L1) (jF S3 L2)
def u7(P:Program)(w:World)(K:W.Frag):Sp:=λvs H Q _=>∃(t d:Addr)(v1 v2:V)(k:Str)(s s':aT)(kvs:List (N3 (Lf⊕List Lf)))(qs:List Pq),vs=[.ref t,.ref d]/\aN K H t [v1,v2]/\Hj K (some (k,s)) H v1/\Hj K (some (k,s')) H v2/\Ng (YM P w K) (bV P w) H d kvs/\yE K H kvs qs/\(some s,some s')∈qs/\∀H',aI H H'->Q (.bl true) H'
theorem u9:bh P w K mg base fE 1 (ay 30) (aL 30) ["steps","known"] (u7 P w K):=by
 refine T.mR.ok uN (λvs H Q E h=>?_) (λcdv A outer s H vs Q E hr h=>?_)
 ·obtain⟨t,d,v1,v2,k,s,s',kvs,qs,rfl,_⟩:=h;rfl
 ·have hu:=aR hr
  have gb:=hr.aM
  obtain⟨t,d,v1,v2,kd,s,s',kvs,qs,rfl,ht,h1,h2,hd,cr,hm,k⟩:=h
  have fz:=hr.units
  obtain⟨a1,b1,rfl,e1,e2⟩:=h1
  obtain⟨a2,b2,rfl,e3,e4⟩:=h2
  refine⟨_,(ah (aK (PW.pt (iM (dR jV (cS K (pv 0) aj) bE) (f7 (dR jV (cS K (pv 0) aj) bE)))) (ao (aB fU)) aC)
   (ao (aB (ia (yi aV (cS K (cS K (pv 0) aj) aj) (cS K (cS K (pv 0) aj) aj)) (g9 (JD (G8 (YM P w K) (bV P w) rfl rfl rfl (hn2 fz) (aD (af (cS K (cS K (pv 0) aj) aj) (af (cS K (cS K (pv 0) aj) aj) ai))) (pv 1)))))))),?_⟩
  refine⟨_,rfl,_,_,_,_,rfl,rfl,ht,rfl,rfl,_,rfl,wm (λz=>nomatch z) (⟨_,rfl,_,_,_,_,rfl,rfl,ht,rfl,rfl,_,rfl,wm (λz=>nomatch z) (⟨_,rfl,_,_,_,_,rfl,rfl,ht,rfl,_,_,_,_,rfl,rfl,e1,rfl,_,rfl,_,_,_,_,rfl,rfl,ht,rfl,_,_,_,_,rfl,rfl,e3,rfl,rfl,_,rfl,Nb rfl (⟨_,rfl,_,_,_,_,rfl,rfl,ht,rfl,_,_,_,_,rfl,rfl,e1,rfl,_,rfl,_,_,_,_,rfl,rfl,ht,rfl,_,_,_,_,rfl,rfl,e3,rfl,(by show(2:Nat)<=sizeLine;decide),λtt Mm=>⟨_,rfl,?_⟩⟩)⟩)⟩)⟩
  have s1:=aq (o:=HO.tup [.ref b1,.ref b2]) Mm
  refine⟨d,kvs,uC (some s,some s'),tt,rfl,rfl,yF s1 hd,Hu (q:=(some s,some s')) ⟨tt,_,_,rfl,aN.of ak,⟨b1,rfl,av s1 e2⟩,⟨b2,rfl,av s1 e4⟩⟩,?_⟩
  rw[aai (by decide),oN cr,aas hm]
  exact k _ s1
def pA(P:Program)(w:World)(K:W.Frag)(C CT CC:Addr):Sp:=λvs H Q _=>∃(a p d s1 s2:Addr)(s s':aT)(x y:bu)(z:Str)(kvs:List (N3 (Lf⊕List Lf)))(qs:List Pq),vs=[.ref a,.ref p,.ref d]/\Li C CT CC H a x y z/\aN K H p [.ref s1,.ref s2]/\aN K H s1 [.str s.1,.str s.2]/\aN K H s2 [.str s'.1,.str s'.2]/\Ng (YM P w K) (bV P w) H d kvs/\yE K H kvs qs/\((some s=ff)↔(some s'=ff))/\(∀c∈z.cps.toList,(aX x (some s) c=none/\aX y (some s') c=none)\/∃k t t',aX x (some s) c=some (k,t)/\aX y (some s') c=some (k,t')/\(some t,some t')∈qs)/\∀H',aI H H'->Q (.bl true) H'
theorem pB:bh P w K mg base fE 6 (ay 31) (aL 31) ["self","pair","known"] (pA P w K (ay 55) (ay 56) (ay 57)):=by
 have jq:=@mX P w K mg base ay aL cA T
 have wZ:=@u9 P w K mg base ay aL cA T
 refine T.qx.ok fc (λvs H Q E h=>?_) (λcdv A outer s H vs Q E hr h=>?_)
 ·obtain⟨a,p,d,s1,s2,s,s',x,y,z,kvs,qs,rfl,_⟩:=h;rfl
 ·have hu:=aR hr
  have gb:=hr.aM
  obtain⟨a,p,d,s1,s2,s,s',x,y,z,kvs,qs,rfl,hC,hp,h1,h2,hd,cr,hse,hz,k⟩:=h
  have fz:=hr.units
  have hst:aN K H (ay 63) [.str ("row":Str),.str ("":Str)]:=.inr T.fu
  obtain⟨da,t,u,e1,e2,e3⟩:=hC.ok
  refine⟨_,(ah (aK (dR vv (yi (t7 (YL _ _ K) rfl (hn0 fz)) (cS K (pv 1) aj) (cO rfl T.cE)) (yi (t7 (YL _ _ K) rfl (hn0 fz)) (cS K (pv 1) aj) (cO rfl T.cE))) (ao (aB fU)) aC)
   (ah (ic aaW rfl (nC (aO K rfl (pv 0) rfl)) (nt 3 fc.nd)
   (ah (di 4 fc.nd (gU (k:=5) (pv 0) T.dP T.nY jq (hr.mono (by decide)) T.nX .nil eZ (af (pv 1) (af (pv 3) ai))))
   (ao (aK (PW.pt (gK (dR (E4 (mG (YM _ _ K)) rfl (hs2 fz)) (pv 4) (aD (af bE (af bE ai)))) (eS (cJ (bR (dY wZ hr T.wL T.mR.kp T.wK (af (pv 4) (af (pv 2) ai)))))))) (ao (aB fU)) aC))))
   (ao (aB fU)))),?_⟩
  refine⟨_,O,_,_,_,_,O,O,hp,O,?_⟩
  refine⟨s1,(ay 63),_,_,rfl,rfl,iT (P:=P) (w:=w) h1,iT (P:=P) (w:=w) hst,?_⟩
  refine⟨_,O,_,_,_,_,O,O,hp,O,?_⟩
  refine⟨s2,(ay 63),_,_,rfl,rfl,iT (P:=P) (w:=w) h2,iT (P:=P) (w:=w) hst,?_⟩
  have eb:decide (kB s.1 s.2=kB ("row":Str) ("":Str))=decide (kB s'.1 s'.2=kB ("row":Str) ("":Str)):=by
   have q:∀s:aT,(kB s.1 s.2=kB ("row":Str) ("":Str))↔some s=ff:=λs=>⟨λe=>congrArg some (iX.mp e),λe=>iX.mpr (aax e)⟩
   rw[aaL,aaD,aaD,q,q];exact hse
  rw[eb]
  refine⟨O,_,O,Tj rfl ?_⟩
  refine⟨_,O,_,_,_,_,_,O,e1,T.dP,T.eN,O,_,O,?_⟩
  refine qX (z:=z) (λi σ J=>aI H J/\∃v3 v4,σ=[some (.ref a),some (.ref p),some (.ref d),v3,v4]) ⟨aI.refl _,_,_,rfl⟩ ?_ ?_
  rotate_left
  ·rintro σ J ⟨sJ,v3,v4,rfl⟩
   exact k _ sJ
  rintro i c σ J hi ⟨sJ,v3,v4,rfl⟩
  dsimp only[ck]
  refine⟨_,O,_,_,_,O,sJ _ _ e1,O,_,O,_,O,a,p,.ref s1,.ref s2,some s,some s',c,x,y,z,O,hC.mono sJ,av sJ hp,⟨s1,O,av sJ h1⟩,⟨s2,O,av sJ h2⟩,λt v1 v2 J2 S2 wX L1 L2=>?_⟩
  dsimp only[ck]
  refine⟨_,O,(by show(2:Nat)<=sizeLine;decide),λn0 hn0=>?_⟩
  have s3:=aq (o:=HO.tup [.non,.non]) hn0
  have g3:aN K (upd J2 n0 (HO.tup [.non,.non])) n0 [.non,.non]:=aN.of ak
  have Jv:=sJ.trans (S2.trans s3)
  have Jw:=s3 _ _ wX
  have M1:=jF s3 L1
  have M2:=jF s3 L2
  generalize upd J2 n0 (HO.tup [.non,.non])=J3 at g3 Jv Jw M1 M2⊢
  refine⟨t,n0,[O0 _,O0 _],[.inl none,.inl none],rfl,rfl,⟨_,aN.of Jw,.cons (Ht (P:=P) (w:=w) M1) (.cons (Ht (P:=P) (w:=w) M2) .nil)⟩,⟨_,g3,.cons rfl (.cons rfl .nil)⟩,_,rfl,?_⟩
  rcases hz c (aaZ hi) with hb|⟨kd,t1,t2,q1,q2,q3⟩
  ·refine kF (by rw[aas (by rw[hb.1,hb.2];rfl)];rfl) ?_
   first|exact⟨Jv,_,_,rfl⟩|exact eg ⟨Jv,_,_,rfl⟩
  ·rw[q1]at M1
   rw[q2]at M2
   refine kE (by rw[aak (λq=>by rw[q1]at q;injection q with q _;exact nomatch q)];rfl) ?_
   refine⟨_,O,_,O,t,d,v1,v2,kd,t1,t2,kvs,qs,O,aN.of Jw,M1,M2,yF Jv hd,je (λb xs q=>av Jv q) cr,q3,λJ4 s4=>⟨_,O,eg ⟨Jv.trans s4,_,_,O⟩⟩⟩
def Ga(K:W.Frag)(C:Addr):Sp:=λvs H Q _=>∃(a da b db p s1 s2:Addr)(w u w' u':Str)(x y:bu),vs=[.ref a,.ref b,.ref p]/\H a=some (.ins C da (iU x))/\gm x/\H b=some (.ins C db (iU y))/\gm y/\aN K H p [.ref s1,.ref s2]/\aN K H s1 [.str w,.str u]/\aN K H s2 [.str w',.str u']/\gQ x.2.1 w u/\cD x.2.2.1 w u=true/\gQ y.2.1 w' u'/\cD y.2.2.1 w' u'=true/\∀H',aI H H'->Q (.bl true) H'
theorem Gb:bh P w K mg base fE 3 (ay 32) (aL 32) ["one","other","thing"] (Ga K (ay 55)):=by
 have mY:=@uW P w K mg base ay aL cA T
 refine T.A0.ok FG (λvs H Q E h=>?_) (λcdv A outer s H vs Q E hr h=>?_)
 ·obtain⟨a,da,b,db,p,s1,s2,w,u,w',u',x,y,rfl,_⟩:=h;rfl
 ·have hu:=aR hr
  have gb:=hr.aM
  obtain⟨a,da,b,db,p,s1,s2,w,u,w',u',x,y,rfl,ha,gx,hb,gy,hp,h1,h2,o1,l1,o2,l2,k⟩:=h
  refine⟨_,(ah (aK (PW.pt (iM (cJ (bR (tO (rm K rfl) T.bQ (af (pv 2) (af (Nk "tuple" T.sN) ai))))) (f7 (dR vv (tO (dM K rfl) T.gD (af (pv 2) ai)) aj)))) (ao (aB fU)) aC)
   (ao (aB (ia (dY mY hr T.mO T.iE.kp T.mL (af (pv 0) (af (cS K (pv 2) aj) ai))) (g9 (dY mY hr T.mO T.iE.kp T.mL (af (pv 1) (af (cS K (pv 2) aj) ai)))))))),?_⟩
  refine⟨_,O,_,_,_,_,O,.WN hp,O,_,O,eg ?_⟩
  refine⟨_,O,_,_,O,.inr hp,O,_,O,WL (by simp) (⟨_,O,_,O,_,_,_,_,O,O,hp,O,_,_,_,_,_,_,O,ha,gx,h1,o1,l1,λH1 s1=>⟨_,O,kY (⟨_,O,_,O,?_⟩)⟩⟩)⟩
  have ha1:=s1 _ _ ha
  have hb1:=s1 _ _ hb
  have hp1:=av s1 hp
  have h21:=av s1 h2
  exact⟨p,_,_,_,O,O,hp1,O,b,db,s2,w',u',y,O,hb1,gy,h21,o2,l2,λH2 s2=>k _ (s1.trans s2)⟩
def Er(P:Program)(w:World)(K:W.Frag)(C CT CC:Addr):Sp:=λvs H Q _=>∃(a da b db l:Addr)(vs':List V)(x y:bu)(qs:List (aT×aT)),vs=[.ref a,.ref b,.ref l]/\H a=some (.ins C da (iU x))/\gm x/\H b=some (.ins C db (iU y))/\gm y/\H l=some (.lst vs')/\Paired (oV K H) vs' (qs.map λq=>(some q.1,some q.2))/\qs.Nodup/\qs.length<=700000/\(∀q∈qs,gQ x.2.1 q.1.1 q.1.2/\cD x.2.2.1 q.1.1 q.1.2=true/\gQ y.2.1 q.2.1 q.2.2/\cD y.2.2.1 q.2.1 q.2.2=true/\(some q.1=ff↔some q.2=ff)/\∀c∈(lF x y).cps.toList,(aX x (some q.1) c=none/\aX y (some q.2) c=none)\/∃k t t',aX x (some q.1) c=some (k,t)/\aX y (some q.2) c=some (k,t')/\(t,t')∈qs)/\((Str.ofString "row",("":Str)),(Str.ofString "row",("":Str)))∈qs/\∀H',aI H H'->Q (.bl true) H'
theorem vN:bh P w K mg base fE 10 (ay 33) (aL 33) ["one","other","pairs"] (Er P w K (ay 55) (ay 56) (ay 57)):=by
 have gE:=@jo P w K mg base ay aL cA T
 have qJ:=@pB P w K mg base ay aL cA T
 have Jd:=@Gb P w K mg base ay aL cA T
 refine T.lN.ok jG (λvs H Q E h=>?_) (λcdv A outer s H vs Q E hr h=>?_)
 ·obtain⟨a,da,b,db,l,vs',x,y,qs,rfl,_⟩:=h;rfl
 ·have hu:=aR hr
  have gb:=hr.aM
  obtain⟨a,da,b,db,lp,vs',x,y,ms,rfl,ha,gx,hb,gy,VI,em,nd,hbig,okm,XM,k⟩:=h
  have fz:=hr.units
  have eml:=em.length
  rw[aav]at eml
  refine⟨_,(ah (aK (PW.pt (iM (cJ (bR (tO (dz K rfl) T.bQ (af (pv 2) (af (Nk "list" T.HC) ai))))) (f7 (cJ (bR (tO (oG K rfl rfl) T.Cc (af (k6 rfl (show cz ["one","other","pairs","known","pair","couple"] (au ja) ["pair","one","other"] 1 [0,1] _ from OV) (ku K rfl (pv 2)) (λ_ _ _ _=>(nt 0 (show(["pair","one","other"]:List Str).Nodup by decide +kernel))) (λ_ _ _ _=>kZ) (λ_ _ _ _=>(dY Jd hr T.IT T.A0.kp T.IS (af (pv 1) (af (pv 2) (af (pv 0) ai)))))) ai))))))) (ao (aB fU)) aC)
   (ah (di 3 jG.nd (KI (ZM P w) (bV P w) rfl rfl))
   (ah (ic aaW rfl (ku K rfl (pv 2)) (nt 4 jG.nd)
   (ao (Dq (YM P w K) (bV P w) rfl rfl rfl (hn2 fz) (pv 3) (pv 4) fU rfl)))
   (ah (di 5 jG.nd (jy (k:=8) T.Ek gE (hr.mono (by decide)) rfl T.Ej T.jI .nil eZ (af (pv 0) (af (pv 1) ai))))
   (ao (aB (ia (JD (G8 (YM P w K) (bV P w) rfl rfl rfl (hn2 fz) (aD (af (cO rfl T.cE) (af (cO rfl T.cE) ai))) (pv 3))) (g9 (tO (oG K rfl rfl) T.Cc (af (k6 rfl (show cz ["one","other","pairs","known","pair","couple"] (au ja) ["pair","known","couple"] 1 [3,5] _ from OV) (Du (YM P w K) (bV P w) rfl rfl rfl (pv 3)) (λ_ _ _ _=>(nt 0 (show(["pair","known","couple"]:List Str).Nodup by decide +kernel))) (λ_ _ _ _=>kZ) (λ_ _ _ _=>(gU (k:=6) (pv 2) T.dP T.qz qJ (hr.mono (by decide)) T.qy .nil eZ (af (pv 0) (af (pv 1) ai))))) ai)))))))))),?_⟩
  refine⟨_,O,_,_,_,_,O,.lst VI,.inl ⟨_,⟨O,O⟩⟩,_,O,eg (⟨_,O,_,O,⟨_,bK.of VI⟩,λD hD=>?_⟩)⟩
  have UD:∀{i:Nat}{e:V},vs'[i]?=some e->∃q p s1 s2,ms[i]?=some q/\e=.ref p/\aN K H p [.ref s1,.ref s2]/\aN K H s1 [.str q.1.1,.str q.1.2]/\aN K H s2 [.str q.2.1,.str q.2.2]:=λ{i e} hi=>by
   obtain⟨q',hq',p,v1,v2,e1,e2,e3,e4⟩:=bW em i e hi
   rw[abS]at hq'
   cases hm:ms[i]? with
   |none=>rw[hm]at hq';cases hq'
   |some q =>
    rw[hm]at hq'
    cases hq'
    obtain⟨s1,rfl,f1⟩:=e3
    obtain⟨s2,rfl,f2⟩:=e4
    exact⟨q,p,s1,s2,O,e1,e2,f1,f2⟩
  refine Av (K:=K) (a:=lp) (xs:=vs') (λi ws τ J=>(∃v,τ=[v,some (.ref a),some (.ref b)])/\aI H J/\J D=some (.lst ws)/\ws=(List.replicate i true).map V.bl) ⟨⟨_,rfl⟩,aq hD,ak,rfl⟩ (λi ws τ J _ p=>⟨bK.of (p.2.1 _ _ VI),p.2.2.1⟩) ?_ ?_
  ·rintro i e ws τ J hi ⟨⟨v,rfl⟩,sJ,hJ,hws⟩
   obtain⟨q,p,s1,s2,hm,rfl,f0,f1,f2⟩:=UD hi
   obtain⟨o1,l1,o2,l2,_⟩:=okm q (aaZ hm)
   have hil:=(aau.mp hi).1
   have hwl:ws.length=i:=by rw[hws,aav,abr]
   refine Fd ?_
   refine⟨_,O,_,O,_,O,a,da,b,db,p,s1,s2,_,_,_,_,x,y,O,sJ _ _ ha,gx,sJ _ _ hb,gy,av sJ f0,av sJ f1,av sJ f2,o1,l1,o2,l2,λJ2 s2=>?_⟩
   exact⟨s2 _ _ hJ,aaK (show ws.length<=700000 by omega) (by decide),⟨_,O⟩,aS hD (sJ.trans s2),ak,by rw[hws,List.replicate_succ',aaS];rfl⟩
  rintro ws τ J ⟨⟨v,rfl⟩,sJ,hJ,rfl⟩
  refine⟨D,_,O,bK.of hJ,?_⟩
  rw[show(List.replicate vs'.length true).all id=true from aa7.mpr λb hb=>(List.mem_replicate.mp hb).2]
  refine⟨_,O,eg ?_⟩
  dsimp only[OB]
  refine λkn hkn=>?_
  have sK:=aq (o:=dN (ZM P w) (bV P w) kn []) hkn
  have c0:DW P w K (upd J kn (dN (ZM P w) (bV P w) kn [])) kn ((ms.take 0).map λq=>(some q.1,some q.2)):=⟨[],⟨ak,λe he=>nomatch he⟩,.nil⟩
  have XO:H kn=none:=sJ.free hkn
  generalize upd J kn (dN (ZM P w) (bV P w) kn [])=J0 at sK c0⊢
  dsimp only[ck]
  have UE:=sJ _ _ VI
  refine⟨_,O,lp,O,⟨_,bK.of (sK _ _ UE)⟩,?_⟩
  refine qV (K:=K) (a:=lp) (xs:=vs') (λi σ G=>aI J G/\DW P w K G kn ((ms.take i).map λq=>(some q.1,some q.2))/\∃v4 v5,σ=[some (.ref a),some (.ref b),some (.ref lp),some (.ref kn),v4,v5]) ⟨sK,c0,_,_,rfl⟩ (λi σ G _ q=>bK.of (q.1 _ _ UE)) ?_ ?_
  ·rintro i e σ G hi ⟨sG,ca,v4,v5,rfl⟩
   obtain⟨q,p,s1,s2,hm,rfl,f0,f1,f2⟩:=UD hi
   have hil:=(aau.mp hi).1
   have Rj:=sJ.trans sG
   have Mp:oV K G (.ref p) (some q.1,some q.2):=⟨p,_,_,rfl,av Rj f0,⟨s1,rfl,av Rj f1⟩,⟨s2,rfl,av Rj f2⟩⟩
   obtain⟨kvs,d,cr⟩:=ca.ok
   have kl:=abd cr
   rw[aav,aa6]at kl
   have hno:(some q.1,some q.2)∉(ms.take i).map λq=>(some q.1,some q.2):=λz=>by
    obtain⟨q',h1,h2⟩:=aaY.mp z
    injection h2 with h2 h3
    have e:q'=q:=Prod.ext (aax h2) (aax h3)
    rw[e]at h1
    exact La nd hm h1
   dsimp only[ck]
   refine⟨_,O,_,O,kn,kvs,uC (some q.1,some q.2),p,O,O,d,Hu Mp,aaK (show kvs.length<=700000 by omega) (by decide),aS hkn sG,?_,_,_,O⟩
   rw[fP hm,aaS]
   exact DW.put d cr Mp hno
  rintro σ G ⟨sG,ca,v4,v5,rfl⟩
  rw[eml,aaJ (aan _)]at ca
  have Rj:=sJ.trans sG
  refine⟨_,O,_,O,λq dq hq Rk ne=>?_⟩
  refine⟨q,dq,a,da,b,db,x,y,O,ak,gk hq Rk (Rj _ _ ha),gx,gk hq Rk (Rj _ _ hb),gy,λH3 hC kp=>⟨O,?_⟩⟩
  have s3:=iY hq Rk kp
  have Jt:=Rj.trans s3
  have VJ:=ca.mono s3
  dsimp only[ck]
  refine⟨(by show(2:Nat)<=sizeLine;decide),λt0 ht0=>?_⟩
  have s4:=aq (o:=HO.tup [.ref (ay 63),.ref (ay 63)]) ht0
  have g4:=ak (H:=H3) (a:=t0) (o:=HO.tup [.ref (ay 63),.ref (ay 63)])
  replace VJ:=VJ.mono s4
  replace hC:=hC.mono s4
  replace Jt:=Jt.trans s4
  generalize upd H3 t0 (HO.tup [.ref (ay 63),.ref (ay 63)])=H4 at s4 g4 VJ hC Jt⊢
  have hst:aN K H4 (ay 63) [.str ("row":Str),.str ("":Str)]:=.inr T.fu
  obtain⟨kvs,d,cr⟩:=VJ.ok
  have kl:=abd cr
  rw[aav]at kl
  refine⟨_,rfl,kn,kvs,uC (ff,ff),t0,rfl,rfl,d.x,Hu (q:=(ff,ff)) ⟨t0,_,_,rfl,aN.of g4,⟨_,rfl,hst⟩,⟨_,rfl,hst⟩⟩,?_⟩
  have hin:(ff,ff)∈ms.map λq=>(some q.1,some q.2):=aaY.mpr ⟨_,XM,rfl⟩
  rw[aai (by decide),oN cr,aas hin]
  refine⟨_,O,kY ?_⟩
  refine⟨_,O,kn,kvs,O,d,λo D2 RW=>?_⟩
  have tq:=nG (F:=K) d.ob (o:=dX (ZM P w) (bV P w) kn kvs o)
  have Rl:=je tq cr
  have hC5:Li (ay 55) (ay 56) (ay 57) (upd H4 kn (dX (ZM P w) (bV P w) kn kvs o)) q x y (lF x y):=hC.ext d.ob
  have dk5:∀e∈kvs,mF (YM P w K) (upd H4 kn (dX (ZM P w) (bV P w) kn kvs o)) e.1 e.2.1:=λe he=>(d.keys e he).keep tq
  have s5:aI H (upd H4 kn (dX (ZM P w) (bV P w) kn kvs o)):=aS XO Jt
  have RX:(upd H4 kn (dX (ZM P w) (bV P w) kn kvs o)) kn=some (dX (ZM P w) (bV P w) kn kvs o):=ak
  generalize upd H4 kn (dX (ZM P w) (bV P w) kn kvs o)=H5 at RW Rl hC5 dk5 s5 RX⊢
  refine AA (λi ws τ G=>(∃v,τ=[v,some (.ref kn),some (.ref q)])/\aI H5 G/\G D2=some (.lst ws)/\ws=(List.replicate i true).map V.bl) ⟨⟨_,rfl⟩,aq RW,ak,rfl⟩ (λi ws τ G _ p=>⟨p.2.1 _ _ RX,p.2.2.1⟩) ?_ ?_
  ·rintro i e ws τ G' hi ⟨⟨v,rfl⟩,N6,hG,hws⟩
   have hil:=(aau.mp hi).1
   obtain⟨pq,hpq,hke,p,v1,v2,ep,f0,f1,f2⟩:=bW Rl i e hi
   obtain⟨m,hm,rfl⟩:=aaY.mp (aaZ hpq)
   obtain⟨s1,rfl,f1⟩:=f1
   obtain⟨s2,rfl,f2⟩:=f2
   obtain⟨o1,l1,o2,l2,hse,hcl⟩:=okm m hm
   have hCG:=hC5.mono N6
   obtain⟨dc,t,u,e1,e2,e3⟩:=hCG.ok
   have hwl:ws.length=i:=by rw[hws,aav,abr]
   refine Fd ?_
   have hX:Ng (YM P w K) (bV P w) H5 kn kvs:=⟨.inr ⟨o,RX⟩,dk5⟩
   refine⟨_,O,_,_,_,O,e1,O,_,O,_,O,q,p,kn,s1,s2,m.1,m.2,x,y,lF x y,kvs,_,by rw[←ep];rfl,hCG,av N6 f0,av N6 f1,av N6 f2,yF N6 hX,je (λb xs q=>av N6 q) Rl,hse,(λc hc=>?_),λJ4 s4'=>?_⟩
   ·rcases hcl c hc with z|⟨kd,t1,t2,z1,z2,z3⟩
    ·exact .inl z
    ·exact .inr ⟨kd,t1,t2,z1,z2,aaY.mpr ⟨_,z3,rfl⟩⟩
   ·exact⟨s4' _ _ hG,aaK (show ws.length<=700000 by omega) (by decide),⟨_,O⟩,aS RW (N6.trans s4'),ak,by rw[hws,List.replicate_succ',aaS];rfl⟩
  rintro ws τ G' ⟨⟨v,rfl⟩,N6,hG,rfl⟩
  refine⟨D2,_,O,bK.of hG,?_⟩
  rw[show(List.replicate kvs.length true).all id=true from aa7.mpr λb hb=>(List.mem_replicate.mp hb).2]
  exact k _ (s5.trans N6)
def Cp(K:W.Frag)(C:Addr):Sp:=λvs H Q _=>∃(a da b db:Addr)(x y:bu)(z:Str),vs=[.ref a,.ref b,.str z]/\H a=some (.ins C da (iU x))/\gm x/\H b=some (.ins C db (iU y))/\gm y/\qh z/\z.length<=2000/\∀H',aI H H'->Q (.bl (!decide (bP x z.cps.toList=bP y z.cps.toList))) H'
theorem Cq:bh P w K mg base fE 10 (ay 34) (aL 34) ["one","other","text"] (Cp K (ay 55)):=by
 have u6:=@yQ P w K mg base ay aL cA T
 have sU:=@zV P w K mg base ay aL cA T
 refine T.nZ.ok B3 (λvs H Q E h=>?_) (λcdv A outer s H vs Q E hr h=>?_)
 ·obtain⟨a,da,b,db,x,y,z,rfl,_⟩:=h;rfl
 ·have hu:=aR hr
  have gb:=hr.aM
  obtain⟨a,da,b,db,x,y,z,rfl,ha,gx,hb,gy,hz,hl,k⟩:=h
  have fz:=hr.units
  refine⟨_,(ao (aB (ia (dY u6 hr T.AZ T.uO.kp T.AY (af (pv 2) ai)) (g9 (yi (jx.ZQ vv (jx.ZQ (Qa K rfl fz) (Qh K rfl gb))) (dY sU hr T.sy T.lM.kp T.su (af (pv 0) (af (pv 2) ai))) (dY sU hr T.sy T.lM.kp T.su (af (pv 1) (af (pv 2) ai)))))))),?_⟩
  refine⟨_,O,z,O,hz,hl,λH1 s1=>⟨_,O,kY ?_⟩⟩
  refine⟨_,O,_,O,a,da,z,_,_,_,_,_,_,_,O,s1 _ _ ha,gx,hz,hl,λv1 H2 r1 s2=>?_⟩
  refine⟨_,O,_,O,b,db,z,_,_,_,_,_,_,_,O,(s1.trans s2) _ _ hb,gy,hz,hl,λv2 H3 r2 s3=>?_⟩
  refine TN (r1.mono s3) r2 ?_
  have kk:=k H3 ((s1.trans s2).trans s3)
  have e:decide (bP x z.cps.toList=bP y z.cps.toList)=decide (K3 (runC x z) z=K3 (runC y z) z):=by
   rw[aaL,aaD,aaD];exact(QJ x y z).symm
  rw[e]at kk
  exact kk
def Ge(K:W.Frag):Sp:=λvs H Q _=>∃(kd:Str)(c:Nat),vs=[.str kd,.str (sg c)]/\∀v H',aI H H'->mH K H' (bB kd c) v->Q v H'
theorem Gf:bh P w K mg base fE 1 (ay 35) (aL 35) ["kind","sign"] (Ge K):=by
 refine T.uS.ok FH (λvs H Q E h=>?_) (λcdv A outer s H vs Q E hr h=>?_)
 ·obtain⟨kd,c,rfl,_⟩:=h;rfl
 ·have hu:=aR hr
  have gb:=hr.aM
  obtain⟨kd,c,rfl,k⟩:=h
  refine⟨_,(ah (aK (dR aV (pv 0) az) (ao (aB (aD ai))) aC)
   (ao (aB (aD (af (aD (af (pv 0) (af (kq (dR aV (pv 0) az) (pv 1) az) ai))) ai))))),?_⟩
  unfold bB at k
  refine⟨_,O,O,_,O,bI (λ(h1:aY kd ("skip":Str)=true)=>?_) (λ(h1:¬aY kd ("skip":Str)=true)=>?_)⟩
  ·rw[aaj h1]at k
   refine⟨(by decide),λt ht=>k _ _ (aS ht (aI.refl _)) ?_⟩
   exact⟨t,[],O,aN.of ak,.nil⟩
  rw[aai h1]at k
  refine⟨_,O,_,O,O,_,O,?_⟩
  refine bI (λ(h2:aY kd ("put":Str)=true)=>?_) (λ(h2:¬aY kd ("put":Str)=true)=>?_)
  ·rw[aaj h2]at k
   refine⟨_,O,(by show(2:Nat)<=sizeLine;decide),λt ht=>⟨(by show(1:Nat)<=sizeLine;decide),?_⟩⟩
   exact λt2 wX=>k _ _ ((aq ht).trans (aq wX)) ⟨t2,[.ref t],rfl,aN.of ak,.cons ⟨t,rfl,av (aq wX) (aN.of ak)⟩ .nil⟩
  ·rw[aai h2]at k
   refine⟨(by show(2:Nat)<=sizeLine;decide),λt ht=>⟨(by show(1:Nat)<=sizeLine;decide),?_⟩⟩
   exact λt2 wX=>k _ _ ((aq ht).trans (aq wX)) ⟨t2,[.ref t],rfl,aN.of ak,.cons ⟨t,rfl,av (aq wX) (aN.of ak)⟩ .nil⟩
def yW(K:W.Frag):Sp:=λvs H Q _=>∃(t:Addr)(mv v1 v2:V)(m:wo)(a b:Ls)(c:Nat),vs=[mv,.ref t,.str (sg c)]/\wu K H m mv/\aN K H t [v1,v2]/\Hj K a H v1/\Hj K b H v2/\(∀x y,m=some (x,y)->x.length<=1000/\y.length<=1000)/\∀v H',aI H H'->wu K H' (j6 m a b c) v->Q v H'
theorem yX:bh P w K mg base fE 2 (ay 36) (aL 36) ["more","steps","sign"] (yW K):=by
 have Bd:=@Gf P w K mg base ay aL cA T
 refine T.pO.ok jf (λvs H Q E h=>?_) (λcdv A outer s H vs Q E hr h=>?_)
 ·obtain⟨t,mv,v1,v2,m,a,b,c,rfl,_⟩:=h;rfl
 ·have hu:=aR hr
  have gb:=hr.aM
  obtain⟨t,mv,v1,v2,m,a,b,c,rfl,hm,ht,h1,h2,hl,k⟩:=h
  have fz:=hr.units
  refine⟨_,(ah (aK (PW.pt (iM (dR jV (pv 0) bE) (iM (dR jV (cS K (pv 1) aj) bE) (f7 (dR jV (cS K (pv 1) aj) bE))))) (ao (aB bE)) aC)
   (ah (di 3 jf.nd (aJ (G9 K rfl) (cS K (pv 0) aj) (dY Bd hr T.A9 T.uS.kp T.A6 (af (cS K (cS K (pv 1) aj) aj) (af (pv 2) ai)))))
   (ah (di 4 jf.nd (aJ (G9 K rfl) (cS K (pv 0) aj) (dY Bd hr T.A9 T.uS.kp T.A6 (af (cS K (cS K (pv 1) aj) aj) (af (pv 2) ai)))))
   (ah (aK (PW.pt (iM (dR (t7 (YM _ _ K) rfl (hn1 fz)) (pv 3) (aD ai)) (f7 (dR (t7 (YM _ _ K) rfl (hn1 fz)) (pv 4) (aD ai))))) (ao (aB (aD (af (pv 3) (af (pv 4) ai))))) aC)
   (ao (aB (kq (dR (t7 (YL _ _ K) rfl (hn0 fz)) (cS K (pv 3) aj) (cS K (pv 4) aj)) (aD (af (dG (Bx K rfl) (pv 3) (fD aj) fB) (af (dG (Bx K rfl) (pv 4) (fD aj) fB) ai))) bE))))))),?_⟩
  cases m with
  |none =>
   have hm:mv=.non:=hm
   subst hm
   refine⟨_,O,O,_,O,Nb rfl (kY (k _ _ (aI.refl _) hm))⟩
  |some xy =>
  obtain⟨x,y⟩:=xy
  obtain⟨l1,l2⟩:=hl x y rfl
  obtain⟨mb,w1,w2,rfl,em,e1,e2⟩:=hm
  cases a with
  |none =>
   have h1:v1=.non:=h1
   subst h1
   refine⟨_,rfl,rfl,_,rfl,wm (λz=>nomatch z) (⟨_,rfl,_,_,_,_,rfl,rfl,ht,rfl,rfl,_,rfl,Nb rfl (kY (k _ _ (aI.refl _) h1))⟩)⟩
  |some A =>
  obtain⟨k1,wa,ua⟩:=A
  obtain⟨a1,b1,rfl,ea1,eb1⟩:=h1
  cases b with
  |none =>
   have h2:v2=.non:=h2
   subst h2
   refine⟨_,rfl,rfl,_,rfl,wm (λz=>nomatch z) (⟨_,rfl,_,_,_,_,rfl,rfl,ht,rfl,rfl,_,rfl,wm (λz=>nomatch z) (⟨_,rfl,_,_,_,_,rfl,rfl,ht,rfl,rfl,_,rfl,Nb rfl (k _ _ (aI.refl _) h2)⟩)⟩)⟩
  |some B =>
  obtain⟨k2,wb,ub⟩:=B
  obtain⟨a2,b2,rfl,ea2,eb2⟩:=h2
  refine⟨_,rfl,rfl,_,rfl,wm (λz=>nomatch z) (⟨_,rfl,_,_,_,_,rfl,rfl,ht,rfl,rfl,_,rfl,wm (λz=>nomatch z) (⟨_,rfl,_,_,_,_,rfl,rfl,ht,rfl,rfl,_,rfl,wm (λz=>nomatch z) (⟨_,rfl,_,_,_,_,rfl,rfl,em,rfl,_,rfl,_,_,_,_,rfl,rfl,ht,rfl,_,_,_,_,rfl,rfl,ea1,rfl,_,rfl,_,_,rfl,λv3 H3 S3 T3=>?_⟩)⟩)⟩)⟩
  have k:∀v H',aI H H'->wu K H' (ql (x++bB k1 c) (y++bB k2 c)) v->Q v H':=k
  have p1:=bY k1 c
  have p2:=bY k2 c
  have szb:100000<=sizeLine:=by decide
  obtain⟨x1,RY,rfl,VL,XQ⟩:=e1
  obtain⟨q1,qs1,rfl,hq1,XR⟩:=T3
  have lx1:=XQ.length
  have lq1:=XR.length
  refine⟨x1,q1,RY,qs1,O,O,av S3 VL,hq1,by omega,λv4 H4 S4 hv4=>?_⟩
  obtain⟨n1,rfl,UG⟩:=hv4
  have T4:mH K H4 (x++bB k1 c) (.ref n1):=⟨n1,_,rfl,UG,cC (gZ (λb xs q=>av (S3.trans S4) q) XQ) (gZ (λb xs q=>av S4 q) XR)⟩
  have UH:=S3.trans S4
  have em4:=av UH em
  have VM:=av UH ht
  have XS:=av UH ea2
  have e24:=fq UH e2
  clear VL XQ hq1 XR UG S3 S4
  dsimp only[ck]
  refine⟨_,O,_,_,_,_,O,O,em4,O,_,O,_,_,_,_,O,O,VM,O,_,_,_,_,O,O,XS,O,_,O,_,_,O,λv5 H5 S5 T5=>?_⟩
  obtain⟨x2,xs2,rfl,hx2,XT⟩:=e24
  obtain⟨q2,qs2,rfl,hq2,XU⟩:=T5
  have lx2:=XT.length
  have lq2:=XU.length
  refine⟨x2,q2,xs2,qs2,O,O,av S5 hx2,hq2,by omega,λv6 H6 S6 hv6=>?_⟩
  obtain⟨n2,rfl,UI⟩:=hv6
  have T6:mH K H6 (y++bB k2 c) (.ref n2):=⟨n2,_,rfl,UI,cC (gZ (λb xs q=>av (S5.trans S6) q) XT) (gZ (λb xs q=>av S6 q) XU)⟩
  have XW:=fq (S5.trans S6) T4
  have S06:=UH.trans (S5.trans S6)
  clear hx2 XT hq2 XU UI S5 S6 T4
  dsimp only[ck]
  have b1:(x++bB k1 c).length<=1001:=by rw[aao];omega
  have b2:(y++bB k2 c).length<=1001:=by rw[aao];omega
  generalize x++bB k1 c=X1 at XW b1 k
  generalize y++bB k2 c=Y1 at T6 b2 k
  refine⟨_,O,(by decide),λe0 he0=>?_⟩
  have s7:=aq (o:=HO.tup []) he0
  have q0:aN K (upd H6 e0 (HO.tup [])) e0 []:=aN.of ak
  have T7:=fq s7 XW
  have U7:=fq s7 T6
  have O5:=S06.trans s7
  generalize upd H6 e0 (HO.tup [])=H7 at s7 q0 T7 U7 O5⊢
  clear s7 S06 XW T6
  refine⟨n1,e0,_,[],rfl,rfl,Hh (P:=P) (w:=w) T7,⟨[],q0,.nil⟩,_,rfl,?_⟩
  cases X1 with
  |nil =>
   refine kE (aas rfl) (kY ⟨_,rfl,_,rfl,(by show(2:Nat)<=sizeLine;decide),λt' ht'=>?_⟩)
   have s8:=aq (o:=HO.tup [.ref n1,.ref n2]) ht'
   exact k _ _ (O5.trans s8) ⟨t',_,_,rfl,aN.of ak,fq s8 T7,fq s8 U7⟩
  |cons xa X1 =>
  refine kF (aak λq=>nomatch q) ?_
  refine⟨_,O,(by decide),λe1 he1=>?_⟩
  have s7:=aq (o:=HO.tup []) he1
  have q0:aN K (upd H7 e1 (HO.tup [])) e1 []:=aN.of ak
  replace T7:=fq s7 T7
  replace U7:=fq s7 U7
  replace O5:=O5.trans s7
  generalize upd H7 e1 (HO.tup [])=H8 at s7 q0 T7 U7 O5⊢
  clear s7
  refine⟨n2,e1,_,[],rfl,rfl,Hh (P:=P) (w:=w) U7,⟨[],q0,.nil⟩,_,rfl,?_⟩
  cases Y1 with
  |nil =>
   refine kE (aas rfl) ⟨_,rfl,_,rfl,(by show(2:Nat)<=sizeLine;decide),λt' ht'=>?_⟩
   have s8:=aq (o:=HO.tup [.ref n1,.ref n2]) ht'
   exact k _ _ (O5.trans s8) ⟨t',_,_,rfl,aN.of ak,fq s8 T7,fq s8 U7⟩
  |cons ya Y1 =>
  refine kF (aak λq=>nomatch q) ?_
  obtain⟨n1',UJ,en1,hv1,XX⟩:=T7
  cases en1
  obtain⟨n2',XY,en2,hv2,UK⟩:=U7
  cases en2
  cases XX with
  |@cons _ w1 _ UJ hw1 XX =>
  cases UK with
  |@cons _ w2 _ XY RZ UK =>
  obtain⟨c1,rfl,hc1⟩:=hw1
  obtain⟨c2,rfl,hc2⟩:=RZ
  have k:∀v H',aI H H'->wu K H' (if xa=ya then some (X1,Y1) else none) v->Q v H':=k
  refine⟨_,O,_,_,_,_,O,O,hv1,(show Mj _ ((0:Nat):Int)=_ from Br rfl),_,O,_,_,_,_,O,O,hv2,(show Mj _ ((0:Nat):Int)=_ from Br rfl),?_⟩
  refine⟨c1,c2,_,_,rfl,rfl,iT (P:=P) (w:=w) hc1,iT (P:=P) (w:=w) hc2,_,rfl,?_⟩
  by_cases hxy:xa=ya
  ·rw[aaj hxy]at k
   refine kE (aas (iX.mpr hxy)) ?_
   have VN:∀(v:V)(vs:List V),¬(HT.f9 (v::vs).length 0 (some 1)=0/\HT.f9 (v::vs).length (v::vs).length none=(v::vs).length):=λv vs q=>by
    have q:=q.1
    have q:(if (1:Int)<0 then ((1:Int)+((v::vs).length:Int)).toNat else min (1:Int).toNat (v::vs).length)=0:=q
    rw[aai (by decide),aaF]at q
    have q:min 1 (vs.length+1)=0:=q
    omega
   have cd:∀(v:V)(vs:List V),v9 (v::vs) (some 1) none=vs:=λv vs=>K7 (v::vs) 1 (by rw[aaF];omega)
   refine⟨_,O,_,O,_,_,O,hv1,VN _ _,λu1 hu1=>?_⟩
   rw[cd]
   have s9:=aq (o:=HO.tup UJ) hu1
   refine⟨_,O,_,O,_,_,O,av s9 hv2,VN _ _,λu2 WE=>?_⟩
   rw[cd]
   have HX:=aq (o:=HO.tup XY) WE
   have g1:aN K (upd H8 u1 (HO.tup UJ)) u1 UJ:=aN.of ak
   refine⟨(by show(2:Nat)<=sizeLine;decide),λt' ht'=>?_⟩
   have UL:=aq (o:=HO.tup [.ref u1,.ref u2]) ht'
   have sA:=s9.trans (HX.trans UL)
   exact k _ _ (O5.trans sA) ⟨t',_,_,rfl,aN.of ak,⟨u1,UJ,rfl,av (HX.trans UL) g1,gZ (λb xs q=>av sA q) XX⟩,⟨u2,XY,rfl,av UL (aN.of ak),gZ (λb xs q=>av sA q) UK⟩⟩
  ·rw[aai hxy]at k
   exact kF (aak λq=>hxy (iX.mp q)) (k _ _ O5 rfl)
def vd(K:W.Frag)(C CT CC CP:Addr):Sp:=λvs H Q _=>∃(a:Addr)(v:V)(m:cH)(x y:bu)(z:Str),vs=[.ref a,v]/\QB C CT CC CP H a x y z/\dW K H m v/\z.length<=1000/\(∀x y,m.2=some (x,y)->x.length<=1000/\y.length<=1000)/\∀l vs H',H l=none->H' l=some (.lst vs)->uy K H' vs (bO x y z m)->aI H H'->Q (.ref l) H'
theorem ve:bh P w K mg base fE 6 (ay 37) (aL 37) ["self","place"] (vd K (ay 55) (ay 56) (ay 57) (ay 58)):=by
 have jq:=@mX P w K mg base ay aL cA T
 have zW:=@yX P w K mg base ay aL cA T
 refine T.wM.ok c6 (λvs H Q E h=>?_) (λcdv A outer s H vs Q E hr h=>?_)
 ·obtain⟨a,v,m,x,y,z,rfl,_⟩:=h;rfl
 ·have hu:=aR hr
  have gb:=hr.aM
  obtain⟨a,v,m,x,y,z,rfl,hP,hv,hz,hl,k⟩:=h
  have fz:=hr.units
  obtain⟨da,cp,e1,hC⟩:=hP.ok
  obtain⟨dc,t1,t2,ec,eT,eU⟩:=hC.ok
  obtain⟨b,p,s1,s2,mv,rfl,q2,q3,q4,q5,q6⟩:=hv
  refine⟨_,(ah (di 2 c6.nd (eF ai))
   (ah (ic aaW rfl (nC (aO K rfl (aO K rfl (pv 0) rfl) rfl)) (nt 3 c6.nd)
   (ah (di 4 c6.nd (gU (k:=5) (aO K rfl (pv 0) rfl) T.dP T.nY jq (hr.mono (by decide)) T.nX .nil eZ (af (cS K (pv 1) aj) (af (pv 3) ai))))
   (ao (aK (dR (E4 (mG (YM _ _ K)) rfl (hs2 fz)) (pv 4) (aD (af bE (af bE ai)))) (ah (di 5 c6.nd (ZX (yb K rfl) T.sN (af (k6 rfl (show cz ["self","place","found","sign","steps","pair"] (au fF) ["step"] 1 [] _ from OV) (GV K rfl (pv 4)) (λ_ _ _ _=>(nt 0 Vx)) (λ_ _ _ _=>kZ) (λ_ _ _ _=>(kq (dR jV (pv 0) bE) bE (cS K (pv 0) aj)))) ai)))
   (ao (iS (ig K rfl aaX abh abi fW (pv 2) (af (aD (af (pv 3) (af (aD (af (pv 5) (af (dY zW hr T.zL T.pO.kp T.zK (af (cS K (pv 1) aj) (af (pv 4) (af (pv 3) ai)))) ai))) ai))) ai))))) aC))))
   (ao (aB (pv 2))))),?_⟩
  refine⟨(by decide),λL hL=>⟨_,O,_,_,_,_,_,O,(aq hL _ _ e1),T.jk,T.dh,O,_,_,_,_,_,O,(aq hL _ _ ec),T.dP,T.eN,O,_,O,?_⟩⟩
  have sL:=aq (o:=HO.lst []) hL
  have gL:=ak (H:=H) (a:=L) (o:=HO.lst [])
  generalize upd H L (HO.lst [])=H1 at sL gL⊢
  have zl:z.cps.toList.length=z.length:=aap
  refine qX (z:=z) (λi σ J=>aI H J/\∃vs v3 v4 v5,σ=[some (.ref a),some (.ref b),some (.ref L),v3,v4,v5]/\J L=some (.lst vs)/\vs.length<=i/\uy K J vs ((z.cps.toList.take i).filterMap λc=>(iD x y m c).map λm'=>(c,m'))) ⟨sL,[],_,_,_,rfl,gL,aan _,.nil⟩ ?_ ?_
  rotate_left
  ·rintro σ J ⟨sJ,vs,v3,v4,v5,rfl,hJ,_,ld⟩
   rw[aaJ (aan _)]at ld
   exact⟨_,O,k L vs J hL hJ ld sJ⟩
  rintro i c σ J hi ⟨sJ,vs,v3,v4,v5,rfl,hJ,hvl,ld⟩
  have hil:=(aau.mp hi).1
  rw[fP hi,List.filterMap_append]
  have e1J:=sJ _ _ e1
  have hCJ:=hC.mono sJ
  have ecJ:=sJ _ _ ec
  have q2J:=av sJ q2
  dsimp only[ck]
  refine⟨_,O,_,_,_,_,_,O,e1J,T.jk,T.dh,O,_,_,_,O,ecJ,O,_,O,_,_,_,_,O,O,q2J,O,_,O,?_⟩
  refine⟨cp,p,s1,s2,m.1.1,m.1.2,c,x,y,z,O,hCJ,av sJ q3,gu sJ q4,gu sJ q5,λt v1 v2 J2 S2 wX L1 L2=>?_⟩
  dsimp only[ck]
  refine⟨_,O,(by show(2:Nat)<=sizeLine;decide),λn0 hn0=>?_⟩
  have s3:=aq (o:=HO.tup [.non,.non]) hn0
  have g3:aN K (upd J2 n0 (HO.tup [.non,.non])) n0 [.non,.non]:=aN.of ak
  have Jv:=sJ.trans (S2.trans s3)
  have VO:=s3 _ _ (S2 _ _ hJ)
  have Jw:=s3 _ _ wX
  have M1:=jF s3 L1
  have M2:=jF s3 L2
  have XZ:=uz (S2.trans s3) ld
  generalize upd J2 n0 (HO.tup [.non,.non])=J3 at g3 Jv VO Jw M1 M2 XZ⊢
  clear s3 S2 wX L1 L2 ld hJ hn0
  refine⟨t,n0,[O0 _,O0 _],[.inl none,.inl none],rfl,rfl,⟨_,aN.of Jw,.cons (Ht (P:=P) (w:=w) M1) (.cons (Ht (P:=P) (w:=w) M2) .nil)⟩,⟨_,g3,.cons rfl (.cons rfl .nil)⟩,_,rfl,?_⟩
  by_cases hb:aX x m.1.1 c=none/\aX y m.1.2 c=none
  ·have e:iD x y m c=none:=aaj hb
   refine kF (by rw[aas (by rw[hb.1,hb.2];rfl)];rfl) ⟨Jv,vs,_,_,_,rfl,VO,by omega,?_⟩
   rw[abw,e]
   show uy K J3 vs (_++[])
   rw[aaH];exact XZ
  have e:iD x y m c=some ((tP (aX x m.1.1 c),tP (aX y m.1.2 c)),j6 m.2 (aX x m.1.1 c) (aX y m.1.2 c) c):=aai hb
  have hne:¬[O0 (aX x m.1.1 c),O0 (aX y m.1.2 c)]=[.inl none,.inl none]:=λq=>by
   injection q with z1 z2;injection z2 with z2 _;exact hb ⟨DU.mp z1,DU.mp z2⟩
  refine kE (by rw[aak hne];rfl) ?_
  rw[abw,e]
  clear e hb hne
  generalize aX x m.1.1 c=A at M1⊢
  generalize aX y m.1.2 c=B at M2⊢
  have pv:Paired (λv o=>Hj K o J3 v) [v1,v2] [A,B]:=.cons M1 (.cons M2 .nil)
  refine⟨_,O,_,O,⟨_,aN.of Jw⟩,λD hD=>?_⟩
  refine KG (K:=K) (a:=t) (xs:=[v1,v2]) (λi ys τ G=>(∃v,τ=[v])/\aI J3 G/\G D=some (.lst ys)/\Paired (λv o=>kC K J3 o v) ys (([A,B].take i).map tP)) ⟨⟨_,rfl⟩,aq hD,ak,.nil⟩ (λi ys τ G _ p=>⟨aN.of (p.2.1 _ _ Jw),p.2.2.1⟩) ?_ ?_
  ·rintro i e ys τ G hi ⟨⟨v,rfl⟩,sG,hG,CW⟩
   obtain⟨o,ho,RU⟩:=bW pv i e hi
   have hil:i<2:=(aau.mp hi).1
   have hyl:=CW.length
   rw[aav,aa6]at hyl
   have UM:ys.length<=2:=by rw[hyl];omega
   rw[fP ho,aaS]
   refine Fd ?_
   cases o with
   |none =>
    have RU:e=.non:=RU
    subst RU
    refine⟨_,O,O,_,O,Nb rfl (⟨hG,?_,⟨_,O⟩,(aS hD sG),ak,?_⟩)⟩
    ·exact aaK UM (by decide)
    ·exact cC CW (.cons rfl .nil)
   |some tt =>
    obtain⟨a1,b1,rfl,ha1,hb1⟩:=RU
    have X0:=av sG ha1
    refine⟨_,rfl,rfl,_,rfl,wm (λz=>nomatch z) (⟨_,rfl,_,_,_,_,rfl,rfl,X0,rfl,hG,?_,⟨_,rfl⟩,(aS hD sG),ak,?_⟩)⟩
    ·exact aaK UM (by decide)
    ·exact cC CW (.cons ⟨b1,rfl,hb1⟩ .nil)
  rintro ys τ G ⟨⟨v,rfl⟩,sG,hG,CW⟩
  have CW:Paired (λv o=>kC K J3 o v) ys [tP A,tP B]:=CW
  refine⟨_,_,O,.inl (⟨bK.of hG,λpr hpr=>⟨_,O,.inl ⟨O,⟨_,bK.of (aq hpr _ _ (sG _ _ VO))⟩⟩,_,O,_,O,_,O,?_⟩⟩)⟩
  have s4:=aq (o:=HO.tup ys) hpr
  have g4:aN K (upd G pr (HO.tup ys)) pr ys:=aN.of ak
  have N2:=sG.trans s4
  generalize upd G pr (HO.tup ys)=G4 at s4 g4 N2⊢
  have q24:=av (Jv.trans N2) q2
  cases CW with
  |@cons w1 _ ys _ hw1 CW =>
  cases CW with
  |@cons w2 _ ys _ RZ CW =>
  cases CW
  refine⟨b,_,_,_,O,O,q24,O,_,O,_,O,t,mv,v1,v2,m.2,A,B,c,O,BR (Jv.trans N2) q6,aN.of (N2 _ _ Jw),jF N2 M1,jF N2 M2,hl,λUN G5 S5 hmo=>?_⟩
  refine⟨(by show(2:Nat)<=sizeLine;decide),λt5 XH=>?_⟩
  have s6:=aq (o:=HO.tup [.ref pr,UN]) XH
  have g6:=ak (H:=G5) (a:=t5) (o:=HO.tup [.ref pr,UN])
  refine⟨(by show(2:Nat)<=sizeLine;decide),λt6 ht6=>?_⟩
  have s7:=aq (o:=HO.tup [.str (sg c),.ref t5]) ht6
  have g7:=ak (H:=upd G5 t5 (HO.tup [.ref pr,UN])) (a:=t6) (o:=HO.tup [.str (sg c),.ref t5])
  have VP:=s6.trans s7
  have g67:=s7 _ _ g6
  generalize upd (upd G5 t5 (HO.tup [.ref pr,UN])) t6 (HO.tup [.str (sg c),.ref t5])=G7 at VP g67 g7⊢
  have Rc:=N2.trans (S5.trans VP)
  have VQ:=Rc _ _ VO
  refine⟨L,vs,_,O,O,VQ,aaK (show vs.length<=1000 by omega) (by decide),aS hL (Jv.trans Rc),_,_,_,_,O,ak,by rw[aao];show vs.length+1<=i+1;omega,?_⟩
  refine cC (DT VQ (uz Rc XZ)) (.cons ⟨t6,.ref t5,rfl,(aH (λq=>by rw[q,VQ]at g7;cases g7)).trans g7,xO VQ ?_⟩ .nil)
  exact⟨t5,pr,w1,w2,UN,O,aN.of g67,av (S5.trans VP) g4,gu Rc hw1,gu Rc RZ,BR VP hmo⟩
def qK(K:W.Frag)(C CT CC CP:Addr):Sp:=λvs H Q _=>∃(a:Addr)(v:V)(m:cH)(x y:bu)(z:Str),vs=[.ref a,v]/\QB C CT CC CP H a x y z/\dW K H m v/\∀H',aI H H'->Q (.bl (bT m)) H'
theorem qL:bh P w K mg base fE 1 (ay 38) (aL 38) ["self","place"] (qK K (ay 55) (ay 56) (ay 57) (ay 58)):=by
 refine T.sD.ok qt (λvs H Q E h=>?_) (λcdv A outer s H vs Q E hr h=>?_)
 ·obtain⟨a,v,m,x,y,z,rfl,_⟩:=h;rfl
 ·have hu:=aR hr
  have gb:=hr.aM
  obtain⟨a,v,m,x,y,z,rfl,hP,hv,k⟩:=h
  have fz:=hr.units
  obtain⟨b,p,s1,s2,mv,rfl,e2,e3,e4,e5,e6⟩:=hv
  refine⟨_,(ah (aK (dR (t7 (YM _ _ K) rfl (hn1 fz)) (cS K (pv 1) aj) (aD (af (cO rfl T.cE) (af (cO rfl T.cE) ai)))) (ao (aB (yi (Ql (mG (YM _ _ K)) rfl (hs2 fz)) (cS K (pv 1) aj) (cO rfl T.mU)))) aC)
   (ao (aB (xG (Qm (YM _ _ K) rfl (hs1 fz)) (cO rfl T.cE) (cS K (pv 1) aj) rfl)))),?_⟩
  have hst:aN K H (ay 63) [.str ("row":Str),.str ("":Str)]:=.inr T.fu
  refine⟨_,O,_,_,_,_,O,O,e2,O,(by show(2:Nat)<=sizeLine;decide),λt ht=>?_⟩
  have s1':=aq (o:=HO.tup [.ref (ay 63),.ref (ay 63)]) ht
  have g1:=ak (H:=H) (a:=t) (o:=HO.tup [.ref (ay 63),.ref (ay 63)])
  generalize upd H t (HO.tup [.ref (ay 63),.ref (ay 63)])=H1 at s1' g1⊢
  refine⟨p,t,_,_,rfl,rfl,Lj (av s1' e3) (gu s1' e4) (gu s1' e5),Lj (o:=ff) (o':=ff) (aN.of g1) ⟨_,rfl,av s1' hst⟩ ⟨_,rfl,av s1' hst⟩,_,rfl,?_⟩
  have k:=k H1 s1'
  obtain⟨⟨o1,o2⟩,mo⟩:=m
  by_cases hc:(o1,o2)=(ff,ff)
  ·have hg:bT ((o1,o2),mo)=!decide (mo=some ([],[])):=aaj hc
   rw[hg]at k
   injection hc with c1 c2
   refine kE (aas (by rw[c1,c2])) ?_
   have hN:aN K H1 (ay 64) [.ref (ay 65),.ref (ay 66)]:=.inr T.mV
   have hN2:mF (mG (YM P w K)) H1 [uc [],uc []] (ay 64):=⟨_,hN,.cons (oJ ⟨_,_,rfl,.inr T.jl,.nil⟩) (.cons (oJ ⟨_,_,rfl,.inr T.jm,.nil⟩) .nil)⟩
   refine⟨_,O,b,_,_,_,O,O,av s1' e2,O,_,_,O,hN2,?_⟩
   cases mo with
   |none=>exact .inl ⟨e6,k⟩
   |some xy =>
    obtain⟨x1,y1⟩:=xy
    obtain⟨mb,w1,w2,rfl,q1,q2,q3⟩:=BR s1' e6
    refine .inr ⟨mb,_,rfl,Tz (P:=P) (w:=w) ⟨mb,w1,w2,rfl,q1,q2,q3⟩,?_⟩
    have e:decide ([uc x1,uc y1]=[uc [],uc []])=decide ((some (x1,y1):wo)=some ([],[])):=by
     rw[aaL,aaD,aaD]
     constructor
     ·intro z;injection z with z1 z2;injection z2 with z2 _;rw[rq z1,rq z2]
     ·intro z;injection z with z;injection z with z1 z2;rw[z1,z2]
    rw[e];exact k
  ·have hg:bT ((o1,o2),mo)=(decide (o1=ff)||decide (o2=ff)):=aai hc
   rw[hg]at k
   refine kF (aak λq=>hc ?_) ?_
   ·injection q with q1 q2;injection q2 with q2 _
    have q1:o1=ff:=rK q1
    have q2:o2=ff:=rK q2
    rw[q1,q2]
   refine⟨_,rfl,b,_,_,_,rfl,rfl,av s1' e2,rfl,p,Fq ff,[Fq o1,Fq o2],_,rfl,DS (o:=ff) ⟨_,rfl,av s1' hst⟩,av s1' e3,.cons (DS (gu s1' e4)) (.cons (DS (gu s1' e5)) .nil),?_⟩
   rw[QC];exact k
def Je(P:Program)(w:World)(K:W.Frag)(C CT CC CP:Addr):Sp:=λvs H Q _=>∃(qa:Addr)(v:V)(p0:cH)(x y:bu)(z:Str)(n0:Nat),vs=[v,.ref qa,.non]/\QB C CT CC CP H qa x y z/\dW K H p0 v/\z.length<=20/\rN bT (bO x y z) Vy 700000 n0 [(p0,none)] [p0]/\∀t rv r a cm H',H a=none->cm.length<=11900000->H' t=some (.tup [rv,.ref a])->WY K r H' rv->gv P w K H' a cm->zE bT (bO x y z) none [(p0,none)] [p0] r cm->aI H H'->Q (.ref t) H'
theorem Jf:bh P w K mg base fE 7 (ay 39) (aL 39) ["first","searched","most"] (Je P w K (ay 55) (ay 56) (ay 57) (ay 58)):=by
 have sV:=@qL P w K mg base ay aL cA T
 have w5:=@ve P w K mg base ay aL cA T
 refine T.Ed.ok fZ (λvs H Q E h=>?_) (λcdv A outer s H vs Q E hr h=>?_)
 ·obtain⟨qa,v,p0,x,y,z,n0,rfl,_⟩:=h;rfl
 ·have hu:=aR hr
  have gb:=hr.aM
  obtain⟨qa,v,p0,x,y,z,n0,rfl,hW,hv,VC,hE0,k⟩:=h
  have fz:=hr.units
  obtain⟨b,rfl⟩:=k8 hv
  refine⟨_,(ah (di 3 fZ.nd (Il (YP P w K) (bw P w) rfl rfl rfl (hp1 fz) (pv 0) bE))
   (ah (di 4 fZ.nd (eF (af (pv 0) ai)))
   (ah (C3 aaW (dR (MT K rfl gb) (pv 4) (eF ai))
   (ah (ic aaW rfl (ku K rfl (pv 4)) (nt 5 fZ.nd)
   (ao (aK (bR (gU (k:=1) (pv 1) T.jk T.sF sV (hr.mono (by decide)) T.sE .nil eZ (af (pv 5) ai))) (ao (aB (aD (af (pv 5) (af (pv 3) ai))))) aC)))
   (ah (aK (PW.pt (gK (dR xF (pv 2) bE) (eS (dR JH (tO (dM K rfl) T.gD (af (pv 3) ai)) (pv 2))))) (ao (aB (aD (af bE (af (pv 3) ai))))) aC)
   (ah (di 6 fZ.nd (eF ai))
   (ah (ic aaW rfl (ku K rfl (pv 4)) (nt 5 fZ.nd)
   (ao (ic aaW rfl (ku K rfl (gU (k:=6) (pv 1) T.jk T.wO w5 (hr.mono (by decide)) T.wN .nil eZ (af (pv 5) ai))) (nt 7 fZ.nd)
   (ao (aK (Pc (E3 (YP P w K) (bw P w) rfl rfl rfl (hp2 fz) (cS K (pv 7) aj) (pv 3))) (ah (Dq (YP P w K) (bw P w) rfl rfl rfl (hp2 fz) (pv 3) (cS K (pv 7) aj) (aD (af (pv 5) (af (cS K (pv 7) aj) ai))) rfl)
   (ao (iS (ig K rfl aaX abh abi fW (pv 6) (af (cS K (pv 7) aj) ai))))) aC)))))
   (ao (di 4 fZ.nd (pv 6))))))))
   (ao (aB (aD (af bE (af (pv 3) ai)))))))),?_⟩
  refine λa ha=>?_
  have sA:=aq (o:=dN (ZP P w) (bw P w) a []) ha
  refine⟨_,O,gO p0,b,O,ak,oK (dI sA hv),?_⟩
  have c1:gv P w K (upd (upd H a (dN (ZP P w) (bw P w) a [])) a (dN (ZP P w) (bw P w) a [(gO p0,b,.non)])) a [(p0,none)]:=gv.one ak (dI sA hv)
  have s1:aI H (upd (upd H a (dN (ZP P w) (bw P w) a [])) a (dN (ZP P w) (bw P w) a [(gO p0,b,.non)])):=aS ha sA
  generalize upd (upd H a (dN (ZP P w) (bw P w) a [])) a (dN (ZP P w) (bw P w) a [(gO p0,b,.non)])=H1 at c1 s1⊢
  refine⟨_,O,(by show 1<=sizeLine;decide),λl0 El=>?_⟩
  have s2:=aq (o:=HO.lst [.ref b]) El
  have g2:=ak (H:=H1) (a:=l0) (o:=HO.lst [.ref b])
  generalize upd H1 l0 (.lst [.ref b])=H2 at s2 g2⊢
  have s12:=s1.trans s2
  dsimp only[ck]
  refine⟨λnn σ J=>∃l vs aF cm v5 v6 v7,σ=[some (.ref b),some (.ref qa),some .non,some (.ref a),some (.ref l),v5,v6,v7]/\aI H J/\J l=some (.lst vs)/\yD K J vs aF/\gv P w K J a cm/\rN bT (bO x y z) Vy 700000 nn cm aF/\(∀r Js,zE bT (bO x y z) none cm aF r Js->zE bT (bO x y z) none [(p0,none)] [p0] r Js),⟨_,l0,_,[p0],_,_,_,_,O,s12,g2,.cons (dI s12 hv) .nil,c1.mono s2,hE0,λr Js q=>q⟩,?_⟩
  rintro nn σ J ⟨l,vs,aF,cm,v5,v6,v7,rfl,sJ,hl,em,ca,hE,hR⟩
  have hB:=hE.ok.1
  refine⟨_,O,(by decide),λe he=>⟨_,_,_,O,O,bK.of (aq he _ _ hl),bK.of ak,_,O,?_⟩⟩
  have se:=aq (o:=HO.lst []) he
  replace sJ:=sJ.trans se
  replace hl:=se _ _ hl
  replace em:=em.keep λb xs q=>av se q
  replace ca:=ca.mono se
  generalize upd J e (.lst [])=J1 at sJ hl em ca⊢
  clear se he
  cases em with
  |nil =>
   refine eg ⟨_,rfl,(by show 2<=sizeLine;decide),λt ht=>?_⟩
   exact k t .non none a cm _ ha hB ak rfl (ca.mono (aq ht)) (hR _ _ .stop) (sJ.trans (aq ht))
  |@cons v1 e1 vs aF h1 em =>
  have em:yD K J1 (v1::vs) (e1::aF):=.cons h1 em
  have hne:e1::aF≠[]:=λq=>nomatch q
  refine kY ?_
  generalize e1::aF=aF at em hne hR hE
  generalize v1::vs=vs at em hl
  have hB2:=hE.ok.2.1
  have eU:=hE.ok.2.2
  refine⟨λσ G=>∃l vs v5 v6 v7,σ=[some (.ref b),some (.ref qa),some .non,some (.ref a),some (.ref l),v5,v6,v7]/\aF.find? (bT)=none/\aI H G/\G l=some (.lst vs)/\yD K G vs (br (bO x y z) cm aF).2/\gv P w K G a (br (bO x y z) cm aF).1,?_,?_⟩
  ·rintro σ G ⟨l,vs,v5,v6,v7,rfl,hf,sG,hl,em,ca⟩
   obtain⟨_,n',hn',WZ⟩:=hE.go hne hf
   exact⟨n',hn',l,vs,_,_,v5,v6,v7,rfl,sG,hl,em,ca,WZ,λr Js q=>hR r Js (.go hne hf (λn' e=>nomatch e) q)⟩
  refine⟨_,O,l,O,⟨_,bK.of hl⟩,?_⟩
  refine qV (K:=K) (a:=l) (xs:=vs) (λi σ G=>aI J1 G/\(∀m∈aF.take i,bT m=false)/\∃v5,σ=[some (.ref b),some (.ref qa),some .non,some (.ref a),some (.ref l),v5,v6,v7]) ⟨aI.refl _,(λm hm=>nomatch hm),_,rfl⟩ (λi σ G _ q=>bK.of (q.1 _ _ hl)) ?_ ?_
  ·rintro i e2 σ G hi ⟨sG,hno,X3,rfl⟩
   obtain⟨m,hm,hv⟩:=bW em i e2 hi
   have Mp:=dI sG hv
   have UO:=hW.mono (sJ.trans sG)
   obtain⟨dx,cpl,ex,eC⟩:=UO.ok
   obtain⟨bx,rfl⟩:=k8 Mp
   dsimp only[ck]
   refine⟨_,O,_,_,_,O,ex,O,_,O,qa,.ref bx,m,x,y,z,O,UO,Mp,λG2 s2=>⟨_,O,?_⟩⟩
   by_cases hg:bT m=true
   ·refine kE hg ⟨_,rfl,_,rfl,(by show 2<=sizeLine;decide),λt ht=>?_⟩
    have st:=(sG.trans s2).trans (aq (o:=HO.tup [.ref bx,.ref a]) ht)
    exact k t _ (some m) a cm _ ha hB ak (dI st hv) (ca.mono st) (hR _ _ (.found (Lc hm hg hno))) (sJ.trans st)
   ·refine kF (rA hg) ⟨sG.trans s2,λm' hm'=>?_,_,rfl⟩
    rw[fP hm]at hm'
    rcases aaC.mp hm' with z|z
    ·exact hno m' z
    ·rw[aat.mp z];exact rA hg
  rintro σ G ⟨sG,hno,X3,rfl⟩
  rw[em.length,aaJ (aan _)]at hno
  have hf:=Ld hno
  have hB:=(hE.go hne hf).1
  replace sJ:=sJ.trans sG
  replace hl:=sG _ _ hl
  replace em:=em.keep λb xs q=>av sG q
  replace ca:=ca.mono sG
  clear sG
  dsimp only[ck]
  refine⟨_,O,O,_,O,Tj rfl (eg (⟨(by decide),λlf R0=>⟨_,O,_,O,⟨_,bK.of (aq R0 _ _ hl)⟩,?_⟩⟩))⟩
  have sf:=aq (o:=HO.lst []) R0
  have UP:=ak (H:=G) (a:=lf) (o:=HO.lst [])
  have nlf:lf≠l:=λq=>by rw[q,hl]at R0;cases R0
  have flf:H lf=none:=sJ.free R0
  replace sJ:=sJ.trans sf
  replace hl:=sf _ _ hl
  replace em:=em.keep λb xs q=>av sf q
  replace ca:=ca.mono sf
  generalize upd G lf (.lst [])=G1 at sJ hl em ca UP⊢
  clear sf R0
  refine qV (K:=K) (a:=l) (xs:=vs) (λi σ J=>aI H J/\J l=some (.lst vs)/\yD K J vs aF/\∃fv v5 v7,σ=[some (.ref b),some (.ref qa),some .non,some (.ref a),some (.ref l),v5,some (.ref lf),v7]/\J lf=some (.lst fv)/\yD K J fv ((aF.take i).foldl (gS (bO x y z)) (cm,[])).2/\gv P w K J a ((aF.take i).foldl (gS (bO x y z)) (cm,[])).1/\((aF.take i).foldl (gS (bO x y z)) (cm,[])).1.length<=cm.length+i*20) ⟨sJ,hl,em,[],_,_,rfl,UP,.nil,ca,(by show cm.length<=cm.length+0*20;omega)⟩ (λi σ J _ q=>bK.of q.2.1) ?_ ?_
  ·rintro i e2 σ J hi ⟨R1,hl',X4,fv,X3,X5,rfl,VR,mf,UQ,X6⟩
   obtain⟨m,hm,hv⟩:=bW X4 i e2 hi
   have hmU:=eU m (aaZ hm)
   have hil:=(aau.mp hm).1
   have UR:=AO (x:=x) (y:=y) (z:=z) (m:=m)
   have ef:(aF.take (i+1)).foldl (gS (bO x y z)) (cm,[])=(bO x y z m).foldl (cV m) ((aF.take i).foldl (gS (bO x y z)) (cm,[])):=by rw[fP hm,abb];rfl
   rw[ef]
   have hal:((aF.take i).foldl (gS (bO x y z)) (cm,[])).2.length<=((aF.take i).foldl (gS (bO x y z)) (cm,[])).1.length:=by
    have q:=kK (led:=bO x y z) (aF.take i) (cm,[])
    simp only[abj,Nat.add_zero]at q
    omega
   generalize (aF.take i).foldl (gS (bO x y z)) (cm,[])=acc at mf UQ X6 hal⊢
   have UO:=hW.mono R1
   obtain⟨dx,cpl,ex,eC⟩:=UO.ok
   obtain⟨bx,rfl⟩:=k8 hv
   dsimp only[ck]
   refine⟨_,O,_,_,_,O,ex,O,_,O,qa,.ref bx,m,x,y,z,O,UO,hv,aaq VC (by decide),hmU,λll us J2 US NX ld s2=>?_⟩
   have nll:ll≠lf:=λq=>by rw[q,VR]at US;cases US
   have ca2:=UQ.mono s2
   refine⟨ll,O,⟨_,bK.of NX⟩,?_⟩
   generalize hes:bO x y z m=es at ld UR⊢
   refine qV (K:=K) (a:=ll) (xs:=us) (λj σ G=>aI H G/\G ll=some (.lst us)/\uy K G us es/\G l=some (.lst vs)/\yD K G vs aF/\dW K G m (.ref bx)/\∃fv v7,σ=[some (.ref b),some (.ref qa),some .non,some (.ref a),some (.ref l),some (.ref bx),some (.ref lf),v7]/\G lf=some (.lst fv)/\yD K G fv ((es.take j).foldl (cV m) acc).2/\gv P w K G a ((es.take j).foldl (cV m) acc).1/\((es.take j).foldl (cV m) acc).1.length<=cm.length+i*20+j) ⟨R1.trans s2,NX,ld,s2 _ _ hl',X4.keep (λb xs q=>av s2 q),dI s2 hv,fv,_,rfl,s2 _ _ VR,mf.keep (λb xs q=>av s2 q),ca2,X6⟩ (λj σ G _ q=>bK.of q.2.1) ?_ ?_
   ·rintro j e3 σ G hj ⟨sG,Rm,ldG,VS,VT,Mp,fv,X5,rfl,VU,R3,R4,X7⟩
    obtain⟨⟨c,m'⟩,UT,t3,w3,rfl,h3,O4⟩:=bW ldG j e3 hj
    have ev:(es.take (j+1)).foldl (cV m) acc=cV m ((es.take j).foldl (cV m) acc) (c,m'):=by rw[fP UT,abb];rfl
    rw[ev]
    have X8:((es.take j).foldl (cV m) acc).2.length<=((es.take j).foldl (cV m) acc).1.length:=by
     have q:=uw (p:=m) (es.take j) acc
     omega
    generalize (es.take j).foldl (cV m) acc=ac at R3 R4 X7 X8⊢
    have hjl:=(aau.mp UT).1
    obtain⟨kvs,d,cr⟩:=R4.ok
    have kl:=AM cr
    obtain⟨b3,rfl⟩:=k8 O4
    have ka:mF (YP P w K) G (gO m') b3:=oK O4
    dsimp only[ck]
    refine⟨_,O,t3,_,_,_,O,O,aN.of h3,O,_,O,a,kvs,gO m',b3,O,O,d,ka,_,O,?_⟩
    rw[uA cr]
    cases hh:bG ac.1 m' with
    |true =>
     have e4:cV m ac (c,m')=ac:=aaj hh
     rw[e4]
     exact eg ⟨sG,Rm,ldG,VS,VT,Mp,fv,_,rfl,VU,R3,R4,by omega⟩
    |false =>
     have e4:cV m ac (c,m')=(ac.1++[(m',some (m,c))],ac.2++[m']):=aai (by rw[hh];decide)
     rw[e4]
     refine kY ?_
     refine⟨_,O,_,O,t3,_,_,_,O,O,aN.of h3,O,(by show 2<=sizeLine;decide),λt4 VM=>?_⟩
     have s4:=aq (o:=HO.tup [.ref bx,.str (sg c)]) VM
     have g4:=ak (H:=G) (a:=t4) (o:=HO.tup [.ref bx,.str (sg c)])
     generalize upd G t4 (.tup [.ref bx,.str (sg c)])=G4 at s4 g4⊢
     have d4:=d.mono s4
     have cr4:=cr.keep λb xs q=>av s4 q
     have RV:=dI s4 O4
     have lk4:rL K (some (m,c)) G4 (.ref t4):=⟨t4,.ref bx,rfl,aN.of g4,dI s4 Mp⟩
     have c5:=gv.put d4 cr4 RV hh lk4
     have VE:kvs.length<sizeLine:=aaK (show kvs.length<=15000000 by omega) (by decide)
     refine⟨_,O,_,O,t3,_,_,_,O,O,aN.of (s4 _ _ h3),O,a,kvs,gO m',b3,O,O,d4,mF.mono s4 ka,VE,?_⟩
     have tq:=nG (F:=K) d4.ob (o:=dN (ZP P w) (bw P w) a (putN kvs (gO m') b3 (.ref t4)))
     have t1:∀b' xs,G4 b'=some (.tup xs)->(upd G4 a (dN (ZP P w) (bw P w) a (putN kvs (gO m') b3 (.ref t4)))) b'=some (.tup xs):=λb' xs e=>(aH (mE e d4.ob (λq=>nomatch q))).trans e
     have tl:∀b' xs,G4 b'=some (.lst xs)->(upd G4 a (dN (ZP P w) (bw P w) a (putN kvs (gO m') b3 (.ref t4)))) b'=some (.lst xs):=λb' xs e=>(aH (mE e d4.ob (λq=>nomatch q))).trans e
     have s5:aI H (upd G4 a (dN (ZP P w) (bw P w) a (putN kvs (gO m') b3 (.ref t4)))):=aS ha (sG.trans s4)
     have ll5:=tl _ _ (s4 _ _ Rm)
     have l5:=tl _ _ (s4 _ _ VS)
     have N7:=tl _ _ (s4 _ _ VU)
     have ld5:=uy.keep t1 tq (uz s4 ldG)
     have em5:=(VT.keep λb xs q=>av s4 q).keep tq
     have Yb:=(R3.keep λb xs q=>av s4 q).keep tq
     have hv5:=(dI s4 Mp).keep tq
     have UC:=RV.keep tq
     have VV:=t1 _ _ (s4 _ _ h3)
     generalize upd G4 a (dN (ZP P w) (bw P w) a (putN kvs (gO m') b3 (.ref t4)))=G5 at c5 s5 ll5 l5 N7 ld5 em5 Yb hv5 UC VV⊢
     have fvl:=Yb.length
     refine⟨_,O,.inl ⟨O,_,bK.of N7⟩,_,O,t3,_,_,_,O,O,aN.of VV,O,lf,_,_,O,O,N7,?_,?_⟩
     ·exact aaK (show fv.length<=15000000 by rw[fvl];omega) (by decide)
     refine⟨aS flf s5,(aH nll).trans ll5,DT N7 ld5,(aH (abD nlf)).trans l5,em5.keep (λb xs q=>jC N7 q),xO N7 hv5,fv++[.ref b3],_,O,ak,cC (Yb.keep λb xs q=>jC N7 q) (.cons (xO N7 UC) .nil),c5.but N7,(by rw[aao];show ac.1.length+1<=_;omega)⟩
   ·rintro σ G ⟨sG,Rm,ldG,VS,VT,Mp,fv,X5,rfl,VU,R3,R4,X7⟩
    rw[ld.length,aaJ (aan _)]at R3 R4 X7
    exact⟨sG,VS,VT,fv,_,_,O,VU,R3,R4,by omega⟩
  ·rintro σ J ⟨R1,hl',X4,fv,X3,X5,rfl,VR,mf,UQ,X6⟩
   rw[em.length,aaJ (aan _)]at mf UQ
   exact⟨_,O,lf,fv,_,_,_,O,hf,R1,VR,mf,UQ⟩
def Gg(P:Program)(w:World)(K:W.Frag):Sp:=λvs H Q _=>∃(a:Addr)(v:V)(cm:(dO cH))(m:cH)(x:Option (cH×Nat))(xs:List Nat),vs=[.ref a,v]/\gv P w K H a cm/\dW K H m v/\yy cm m=some x/\rH cm x xs/\xs.length<=1000000/\∀H',aI H H'->Q (.str (Txt.join ("":Str) (xs.map sg).reverse)) H'
theorem Gh:bh P w K mg base fE 1 (ay 40) (aL 40) ["came","place"] (Gg P w K):=by
 refine T.Ba.ok lJ (λvs H Q E h=>?_) (λcdv A outer s H vs Q E hr h=>?_)
 ·obtain⟨a,v,cm,m,x,xs,rfl,_⟩:=h;rfl
 ·have hu:=aR hr
  have gb:=hr.aM
  obtain⟨a,v,cm,m,x,xs,rfl,hC,hm,hx,hp,VF,k⟩:=h
  have fz:=hr.units
  obtain⟨b,rfl⟩:=k8 hm
  refine⟨_,(ah (di 2 lJ.nd (eF ai))
   (ah (di 3 lJ.nd (Dp (YP P w K) (bw P w) rfl rfl rfl (hp2 fz) (pv 0) (pv 1) (λ_ _=>rfl)))
   (ah (C3 aaW (dR xF (pv 3) bE)
   (ah (iS (ig K rfl aaX abh abi fW (pv 2) (af (cS K (pv 3) aj) ai)))
   (ao (di 3 lJ.nd (Dp (YP P w K) (bw P w) rfl rfl rfl (hp2 fz) (pv 0) (cS K (pv 3) aj) (λ_ _=>rfl))))))
   (ao (aB (Dt K rfl rfl rfl T.jM az (af (pv 2) ai))))))),?_⟩
  refine⟨(by decide),λl hl=>⟨_,O,_,O,?_⟩⟩
  have s1:=aq (o:=HO.lst []) hl
  have hl1:=ak (H:=H) (a:=l) (o:=HO.lst [])
  generalize upd H l (.lst [])=H1 at s1 hl1⊢
  obtain⟨kvs,d,cr⟩:=(hC.mono s1).ok
  obtain⟨v,hv,lv⟩:=uB cr hx
  refine⟨a,kvs,gO m,b,v,O,O,d,oK (dI s1 hm),hv,?_⟩
  dsimp only[ck]
  refine⟨λn σ J=>∃done rest x v,σ=[some (.ref a),some (.ref b),some (.ref l),some v]/\aI H J/\J l=some (.lst ((done.map sg).map V.str))/\rL K x J v/\rH cm x rest/\xs=done++rest/\n=rest.length,⟨_,[],xs,x,v,O,s1,hl1,lv,hp,O,O⟩,?_⟩
  rintro n σ J ⟨done,rest,x,v,rfl,sJ,R5,lv,hp,hxs,hn⟩
  cases hp with
  |nil =>
   have lv:v=.non:=lv
   subst lv
   rw[aaH]at hxs
   subst hxs
   refine⟨_,O,O,_,O,kF rfl ?_⟩
   refine⟨_,O,_,O,l,xs.map sg,O,bK.of R5,?_,k J sJ⟩
   rw[Ho,aav]
   show xs.length+xs.length*0<=_
   omega
  |@cons m1 c1 x1 r1 VL hp1 =>
   obtain⟨t,w1,rfl,ht,hw⟩:=lv
   refine⟨_,O,O,_,O,kE rfl ?_⟩
   refine⟨λσ J=>∃v,σ=[some (.ref a),some (.ref b),some (.ref l),some v]/\aI H J/\J l=some (.lst (((done++[c1]).map sg).map V.str))/\rL K x1 J v,?_,?_⟩
   ·rintro σ J' ⟨v,rfl,R1,hl',lv'⟩
    exact⟨_,by rw[hn];exact Nat.lt_succ_self _,_,_,_,_,O,R1,hl',lv',hp1,by rw[hxs,aaN];rfl,O⟩
   have hdl:done.length<=1000000:=by rw[hxs,aao]at VF;omega
   refine⟨_,O,.inl ⟨O,_,bK.of R5⟩,_,O,t,_,_,_,O,O,ht,O,l,_,_,O,O,R5,?_,?_⟩
   ·exact aaK (show((done.map sg).map V.str).length<=1000000 by rw[aav,aav];exact hdl) (by decide)
   have wX:=jC (o:=HO.lst ((done.map sg).map V.str++[.str (sg c1)])) R5 ht
   obtain⟨kvs,d,cr⟩:=((hC.mono sJ).but (o:=HO.lst ((done.map sg).map V.str++[.str (sg c1)])) R5).ok
   obtain⟨v,hv,lv⟩:=uB cr VL
   have RZ:=dW.keep (λb xs q=>jC (o:=HO.lst ((done.map sg).map V.str++[.str (sg c1)])) R5 q) hw
   obtain⟨b1,rfl⟩:=k8 RZ
   refine⟨_,O,_,O,t,_,_,_,O,O,wX,O,a,kvs,gO m1,b1,v,O,O,d,oK RZ,hv,?_⟩
   exact⟨v,O,aS hl sJ,by rw[aaS,aaS];exact ak,lv⟩
def pC(K:W.Frag)(C CT CC CP:Addr):Sp:=λvs H Q _=>∃(m dm a da b db:Addr)(x y:bu),vs=[.ref m,.ref a,.ref b]/\H m=some (.ins CP dm [])/\H a=some (.ins C da (iU x))/\gm x/\H b=some (.ins C db (iU y))/\gm y/\∀H',QB C CT CC CP H' m x y (lF x y)->(∀b o,H b=some o->b≠m->H' b=some o)->Q .non H'
theorem pD:bh P w K mg base fE 10 (ay 41) (aL 41) ["self","one","other"] (pC K (ay 55) (ay 56) (ay 57) (ay 58)):=by
 have gE:=@jo P w K mg base ay aL cA T
 refine T.qC.ok oY (λvs H Q E h=>?_) (λcdv A outer s H vs Q E hr h=>?_)
 ·obtain⟨m,dm,a,da,b,db,x,y,rfl,_⟩:=h;rfl
 ·have hu:=aR hr
  have gb:=hr.aM
  obtain⟨m,dm,a,da,b,db,x,y,rfl,hm,ha,gx,hb,gy,k⟩:=h
  refine⟨_,(ao (ie (pv 0) (jy (k:=8) T.Ek gE (hr.mono (by decide)) rfl T.Ej T.jI .nil eZ (af (pv 1) (af (pv 2) ai))) rfl)),?_⟩
  refine⟨_,O,_,O,λt1 XI ht1 Jc ne=>⟨t1,XI,a,da,b,db,x,y,O,ak,gk ht1 Jc ha,gx,gk ht1 Jc hb,gy,λH2 hC kp=>⟨O,?_⟩⟩⟩
  have s2:=iY ht1 Jc kp
  have hm2:=s2 _ _ hm
  refine⟨_,O,m,(ay 58),dm,_,O,hm2,T.jk,T.dh,(by show 0<1000;decide),?_⟩
  obtain⟨dc,t,u,e1,e2,e3⟩:=hC.ok
  refine k _ ⟨dm,t1,ak,dc,t,u,(aH (λq=>?_)).trans e1,Tn.off2 hm2 ?_ ?_ e2,Tn.off2 hm2 ?_ ?_ e3⟩ λb o e hb=>(aH hb).trans (s2 _ _ e)
  ·rw[q,hm2]at e1;injection e1 with e1;injection e1 with _ _ e1;exact nomatch e1
  ·intro d fs q;injection q with q1 q2 q3;cases q3
  ·intro d q;injection q with q1 q2 q3;cases q3
  ·intro d fs q;injection q with q1 q2 q3;cases q3
  ·intro d q;injection q with q1 q2 q3;cases q3
def Gi(K:W.Frag)(C:Addr):Sp:=λvs H Q _=>∃(a da b db:Addr)(x y:bu),vs=[.ref a,.ref b]/\H a=some (.ins C da (iU x))/\gm x/\H b=some (.ins C db (iU y))/\gm y/\∀t H',H t=none->aI H H'->qc K x y H H' t->Q (.ref t) H'
theorem yY:bh P w K mg base fE 12 (ay 42) (aL 42) ["one","other"] (Gi K (ay 55)):=by
 have qM:=@pD P w K mg base ay aL cA T
 have L5:=@Jf P w K mg base ay aL cA T
 have Jg:=@Gh P w K mg base ay aL cA T
 refine T.oQ.ok qu (λvs H Q E h=>?_) (λcdv A outer s H vs Q E hr h=>?_)
 ·obtain⟨a,da,b,db,x,y,rfl,_⟩:=h;rfl
 ·have hu:=aR hr
  have gb:=hr.aM
  obtain⟨a,da,b,db,x,y,rfl,ha,gx,hb,gy,k⟩:=h
  obtain⟨n0,hn0,hE⟩:=NS gx gy
  have fz:=hr.units
  refine⟨_,(ah (di 2 qu.nd (GN (k:=7) L5 (hr.mono (by decide)) rfl T.LX T.Ed.kp T.vM.choose_spec.2 T.vM.choose_spec.1 eZ (af (aD (af (aD (af (cO rfl T.cE) (af (cO rfl T.cE) ai))) (af (cO rfl T.mU) ai))) (af (jy (k:=10) T.IX qM (hr.mono (by decide)) rfl T.IW T.qD .nil eZ (af (pv 0) (af (pv 1) ai))) ai))))
   (ah (di 3 qu.nd (cS K (pv 2) aj))
   (ah (aK (dR xF (cS K (pv 2) aj) bE) (ao (aB (aD (af az (af (dY Jg hr T.IV T.Ba.kp T.IU (af (pv 3) (af (cS K (pv 2) aj) ai))) ai))))) aC)
   (ao (aB (aD (af az (af (k6 rfl (show cz ["one","other","found","came"] (au oM) ["place"] 1 [] _ from OV) (Du (YP P w K) (bw P w) rfl rfl rfl (pv 3)) (λ_ _ _ _=>(nt 0 Vx)) (λ_ _ _ _=>kZ) (λ_ _ _ _=>(cS K (pv 0) aj))) ai)))))))),?_⟩
  refine⟨(by show(2:Nat)<=sizeLine;decide),λpa hpa=>?_⟩
  have s1:=aq (o:=HO.tup [.ref (ay 63),.ref (ay 63)]) hpa
  have g1:=ak (H:=H) (a:=pa) (o:=HO.tup [.ref (ay 63),.ref (ay 63)])
  generalize upd H pa (HO.tup [.ref (ay 63),.ref (ay 63)])=H1 at s1 g1⊢
  refine⟨(by show(2:Nat)<=sizeLine;decide),λpl hpl=>?_⟩
  have s2:=aq (o:=HO.tup [.ref pa,.ref (ay 64)]) hpl
  have g2:=ak (H:=H1) (a:=pl) (o:=HO.tup [.ref pa,.ref (ay 64)])
  have g12:=s2 _ _ g1
  generalize upd H1 pl (HO.tup [.ref pa,.ref (ay 64)])=H2 at s2 g2 g12⊢
  have s12:=s1.trans s2
  have hst:aN K H2 (ay 63) [.str ("row":Str),.str ("":Str)]:=.inr T.fu
  have hP:dW K H2 pT (.ref pl):=⟨pl,pa,_,_,_,rfl,aN.of g2,aN.of g12,⟨_,rfl,hst⟩,⟨_,rfl,hst⟩,(ay 64),_,_,rfl,.inr T.mV,⟨_,[],rfl,.inr T.jl,.nil⟩,⟨_,[],rfl,.inr T.jm,.nil⟩⟩
  refine⟨_,O,_,O,λq dq hq Rk ne=>?_⟩
  refine⟨q,dq,a,da,b,db,x,y,O,ak,gk hq Rk (s12 _ _ ha),gx,gk hq Rk (s12 _ _ hb),gy,λH3 hO kp=>⟨O,?_⟩⟩
  have s3:=iY hq Rk kp
  have Yc:=s12.trans s3
  refine⟨q,_,pT,x,y,lF x y,n0,O,hO,dI s3 hP,NG gx gy,hE,λtf rv r a2 cm H4 ha2 hcl htf Rn UT UU s4=>?_⟩
  have Yd:=Yc.trans s4
  dsimp only[ck]
  refine⟨_,O,tf,_,_,_,O,O,aN.of htf,O,?_⟩
  dsimp only[ck]
  cases r with
  |none =>
   have Rn:rv=.non:=Rn
   subst Rn
   obtain⟨kvs,nd,cr⟩:=UT.ok
   refine⟨_,O,tf,_,_,_,O,O,aN.of htf,O,O,_,O,kF rfl ?_⟩
   have Ye:H a2=none:=Yc.free ha2
   refine⟨_,O,a2,kvs,O,nd,λo D hD=>?_⟩
   have tq:=nG (F:=K) nd.ob (o:=dX (ZP P w) (bw P w) a2 kvs o)
   have Rl:=cr.keep tq
   have s5:aI H (upd H4 a2 (dX (ZP P w) (bw P w) a2 kvs o)):=aS Ye Yd
   have RX:(upd H4 a2 (dX (ZP P w) (bw P w) a2 kvs o)) a2=some (dX (ZP P w) (bw P w) a2 kvs o):=ak
   generalize upd H4 a2 (dX (ZP P w) (bw P w) a2 kvs o)=H5 at hD Rl s5 RX⊢
   have kl:=AM Rl
   refine AA (λi ys τ G=>(∃v,τ=[v])/\aI H5 G/\G D=some (.lst ys)/\Paired (oV K H5) ys ((cm.take i).map λe=>e.1.1)) ⟨⟨_,rfl⟩,aq hD,ak,.nil⟩ (λi ys τ G _ p=>⟨p.2.1 _ _ RX,p.2.2.1⟩) ?_ ?_
   ·rintro i e ys τ G hi ⟨⟨v,rfl⟩,sG,hG,CW⟩
    have hil:=(aau.mp hi).1
    obtain⟨pm,hpm,e1,⟨b1,p1,w1,w2,mv,eb,q2,q3,q4,q5,q6⟩,_⟩:=bW Rl i e hi
    have hyl:=CW.length
    rw[aav,aa6]at hyl
    refine Fd ?_
    refine⟨_,O,b1,_,_,_,eb,O,av sG q2,O,hG,?_,⟨_,O⟩,aS hD sG,ak,?_⟩
    ·exact aaK (show ys.length<=11900000 by omega) (by decide)
    ·rw[fP hpm,aaS]
     exact cC CW (.cons ⟨p1,w1,w2,rfl,q3,q4,q5⟩ .nil)
   ·rintro ys τ G ⟨⟨v,rfl⟩,sG,hG,CW⟩
    rw[kl,aaJ (aan _)]at CW
    refine⟨(by show(2:Nat)<=sizeLine;decide),λtt Mm=>?_⟩
    have s6:=aq (o:=HO.tup [.str ("alike":Str),.ref D]) Mm
    have s56:=s5.trans (sG.trans s6)
    obtain⟨aF,kk,hkn,hE2⟩:=DV UU hE
    obtain⟨qs,e1,nd,hl,wk,sw⟩:=IQ gx gy hE2
    rw[NU e1]at CW
    exact k tt _ ((s5.trans sG).free Mm) s56 (.inl ⟨D,ys,qs,ak,s5.free hD,s6 _ _ hG,cT (λ_ _ h=>oV.mono (sG.trans s6) h) CW,nd,hl,wk,sw,B0 gx gy hE2⟩)
  |some m1 =>
   have Rn:dW K H4 m1 rv:=Rn
   obtain⟨b1,rfl⟩:=k8 Rn
   obtain⟨aF,kk,hkn,hG⟩:=DV UU hE
   have hmem:=List.mem_of_find?_eq_some hG.res.symm
   obtain⟨⟨x1,RY,v1,l1,w1,e1⟩,_⟩:=hG.cP.QA m1 hmem
   have hk1:=hG.len (List.ne_nil_of_mem hmem)
   refine⟨_,O,tf,_,_,_,O,O,aN.of htf,O,O,_,O,kE rfl ?_⟩
   refine⟨_,O,_,O,tf,_,_,_,O,O,aN.of htf,O,a2,.ref b1,cm,m1,x1,RY,O,UT,Rn,v1,l1,by omega,λH5 s5=>⟨(by show 2<=sizeLine;decide),λtt Mm=>?_⟩⟩
   have s6:=aq (o:=HO.tup [.str ("parted":Str),.str (Txt.join ("":Str) (RY.map sg).reverse)]) Mm
   have VN:RY.reverse.length=kk:=by rw[abV];exact e1
   obtain⟨q1,q2⟩:=BZ gx gy hG w1 VN
   refine k tt _ ((Yd.trans s5).free Mm) (Yd.trans (s5.trans s6)) (.inr ⟨RY.reverse,?_,by omega,(yG w1).1,q1,λys hy=>by have:=q2 ys hy;omega⟩)
   rw[List.map_reverse]
   exact ak
def w6(K:W.Frag):Sp:=λvs H Q _=>∃(a:Addr)(ns:List Int)(i:Int),vs=[.ref a,.int i]/\bK K H a (ns.map V.int)/\0<=i/\∀r:Int,Q (.int r) H
theorem xg:bh P w K mg base fE 1 (ay 43) (aL 43) ["_law_script","_law_k"] (w6 K):=by
 refine T.eH.ok wD (λvs H Q E h=>?_) (λcdv A outer s H vs Q E hr h=>?_)
 ·obtain⟨a,ns,i,rfl,_⟩:=h;rfl
 ·have hu:=aR hr
  have gb:=hr.aM
  obtain⟨a,ns,i,rfl,hS,hi,k⟩:=h
  refine⟨_,(ah (aK (dR GK (pv 1) (tO (dM K rfl) T.gD (af (pv 0) ai))) (ao (aB (DA K (pv 0) (pv 1)))) aC)
   (ao (aB aj))),?_⟩
  refine⟨_,O,_,O,a,_,O,.inl hS,_,_,O,O,_,O,?_⟩
  refine bI (λhc=>?_) (λ_=>?_)
  ·have hlt:=aa5 hc
   obtain⟨v,ev,hv⟩:=Fe hi hlt
   obtain⟨r,_,rfl⟩:=aaY.mp hv
   exact⟨_,O,_,O,a,_,_,_,O,O,hS,ev,k r⟩
  ·exact k 0
def zX:Sp:=λvs H Q _=>∃a b:Int,vs=[.int a,.int b]/\0<=a/\a<4294967296/\0<=b/\b<65536/\∀r:Int,0<=r->r<49979687->Q (.int r) H
theorem zY:bh P w K mg base fE 1 (ay 44) (aL 44) ["_law_number_here","_law_salt"] zX:=by
 refine T.iV.ok j8 (λvs H Q E h=>?_) (λcdv A outer s H vs Q E hr h=>?_)
 ·obtain⟨a,b,rfl,_⟩:=h;rfl
 ·have hu:=aR hr
  have gb:=hr.aM
  obtain⟨a,b,rfl,ha,ha',hb,hb',k⟩:=h
  refine⟨_,(ah (di 2 j8.nd (aJ bU (aJ kX (aJ nA (pv 0) (aJ kX aj (aJ nA aj (pv 1)))) (aJ nA aj (pv 1))) aj))
   (ah (di 3 j8.nd (aJ bU (aJ kX (aJ nA (pv 2) (pv 2)) (pv 1)) aj))
   (ao (aB (aJ bU (aJ kX (aJ nA (pv 3) (pv 3)) (pv 2)) aj))))),?_⟩
  refine⟨_,O,_,O,_,_,O,O,.inl ⟨by decide,by decide⟩,_,_,O,O,_,_,O,O,.inl ⟨by omega,by omega⟩,_,O,_,_,O,O,.inl ⟨by decide,by decide⟩,_,_,O,O,_,_,O,O,(by show(0:Int)<15485863;decide),?_⟩
  have h1:=abk (a*(1299709+210*b)+7919*b) (show(15485863:Int)≠0 by decide)
  have h2:=aa2 (a*(1299709+210*b)+7919*b) (show(0:Int)<15485863 by decide)
  refine⟨_,O,_,O,_,_,O,O,.inl ⟨by omega,by omega⟩,_,O,_,_,O,O,_,_,O,O,(by show(0:Int)<32452843;decide),?_⟩
  refine⟨_,O,_,O,_,_,O,O,.inl ⟨?_,?_⟩,_,O,_,_,O,O,_,_,O,O,(by show(0:Int)<49979687;decide),?_⟩
  ·exact Int.lt_of_lt_of_le (by decide) (abk _ (by decide))
  ·exact Int.lt_trans (aa2 _ (by decide)) (by decide)
  ·exact k _ (abk _ (by decide)) (aa2 _ (by decide))
def yZ:Sp:=λvs H Q _=>∃c s:Int,vs=[.int c,.int s]/\0<=s/\s<60000/\∀r:Int,Q (.int r) H
theorem oq:bh P w K mg base fE 2 (ay 45) (aL 45) ["_law_cell","_law_salt"] yZ:=by
 have lX:=@zY P w K mg base ay aL cA T
 refine T.gX.ok jg (λvs H Q E h=>?_) (λcdv A outer s H vs Q E hr h=>?_)
 ·obtain⟨c,s,rfl,_⟩:=h;rfl
 ·have hu:=aR hr
  have gb:=hr.aM
  obtain⟨c,sa,rfl,hs,hs',k⟩:=h
  refine⟨_,(ah (aK (PW.pt (gK (dR aV (aJ bU (pv 0) aj) aj) (eS (dR OH (pv 0) (aJ nA aj (aJ JF aj aj)))))) (ao (aB (aJ EE (aJ bZ (pv 0) aj) (aJ JF aj aj)))) aC)
   (ah (di 2 jg.nd (aJ bU (pv 0) aj))
   (ah (di 3 jg.nd (aJ kX (aJ nA (dY lX hr T.lP T.iV.kp T.lO (af (pv 2) (af (pv 1) ai))) aj) (dY lX hr T.lP T.iV.kp T.lO (af (pv 2) (af (aJ kX (pv 1) aj) ai)))))
   (ao (aB (aJ kX (aJ nA (pv 3) aj) (dY lX hr T.lP T.iV.kp T.lO (af (pv 2) (af (aJ kX (pv 1) aj) ai))))))))),?_⟩
  have p18:Sv 10 18:=⟨by decide,by decide,by decide⟩
  have n0:0<=c % 1000000007:=abk _ (by decide)
  have n1:c % 1000000007<4294967296:=Int.lt_trans (aa2 _ (by decide)) (by decide)
  refine⟨_,O,_,_,O,O,(by show(0:Int)<2;decide),O,_,O,?_⟩
  refine bI (λ_=>?_) (λ_=>?_)
  ·refine⟨_,O,_,_,O,O,p18,_,_,O,O,.inl ⟨by decide,by decide⟩,_,_,O,O,_,O,?_⟩
   refine bI (λ_=>?_) (λ_=>?_)
   ·exact⟨_,O,_,_,O,O,⟨by decide,by decide⟩,_,_,O,O,p18,_,_,O,O,k _⟩
   ·refine⟨_,O,_,_,O,O,(by show(0:Int)<1000000007;decide),?_⟩
    refine⟨_,O,_,O,_,_,O,n0,n1,by omega,by omega,λr1 _ _=>?_⟩
    refine⟨_,_,O,O,.inr ⟨by decide,by decide⟩,_,O,_,O,_,_,O,O,_,_,O,n0,n1,by omega,by omega,λr2 _ _=>⟨_,_,O,O,?_⟩⟩
    refine⟨_,O,_,_,O,O,.inr ⟨by decide,by decide⟩,_,O,_,O,_,_,O,O,_,_,O,n0,n1,by omega,by omega,λr3 _ _=>⟨_,_,O,O,k _⟩⟩
  ·refine⟨_,O,_,_,O,O,(by show(0:Int)<1000000007;decide),?_⟩
   refine⟨_,O,_,O,_,_,O,n0,n1,by omega,by omega,λr1 _ _=>?_⟩
   refine⟨_,_,O,O,.inr ⟨by decide,by decide⟩,_,O,_,O,_,_,O,O,_,_,O,n0,n1,by omega,by omega,λr2 _ _=>⟨_,_,O,O,?_⟩⟩
   refine⟨_,O,_,_,O,O,.inr ⟨by decide,by decide⟩,_,O,_,O,_,_,O,O,_,_,O,n0,n1,by omega,by omega,λr3 _ _=>⟨_,_,O,O,k _⟩⟩
def Cr:Sp:=λvs H Q _=>∃(n m:Int)(me:Str),vs=[.int n,.int m,.str me]/\Mn me/\0<=m/\m<=3/\∀(t:Addr)(z:Str)(r:Int),Sg z->(z.length:Int)<=m->(1<=m->1<=z.length)->H t=none->Q (.ref t) (upd H t (.tup [.str z,.int r]))
theorem Cs:bh P w K mg base fE 1 (ay 46) (aL 46) ["_law_number_here","_law_many","_law_menu"] Cr:=by
 refine T.jJ.ok eX (λvs H Q E h=>?_) (λcdv A outer s H vs Q E hr h=>?_)
 ·obtain⟨n,m,me,rfl,_⟩:=h;rfl
 ·have hu:=aR hr
  have gb:=hr.aM
  obtain⟨n,m,me,rfl,⟨hm1,hm2,O4⟩,h0,h3,k⟩:=h
  have hml:me.length<=sizeLine:=aaq hm2 (by decide)
  refine⟨_,(ah (di 3 eX.nd az)
   (ah (ic aaW rfl (HK rfl T.L0 (af (pv 1) ai)) (nt 4 eX.nd)
   (ah (di 5 eX.nd (GR JS (pv 2) (aJ bU (pv 0) (tO cN T.gD (af (pv 2) ai))) (λ_ _=>rfl)))
   (ah (di 0 eX.nd (aJ bZ (pv 0) (tO cN T.gD (af (pv 2) ai))))
   (ao (aK (cW cM (pv 5) (pv 3) rfl) (ao (di 3 eX.nd (aJ bN (pv 3) (pv 5)))) aC)))))
   (ao (aB (aD (af (pv 3) (af (pv 0) ai))))))),?_⟩
  refine⟨_,O,m,O,by omega,by omega,?_⟩
  refine HM (λi σ H2=>H2=H/\∃(r:Int)(z:Str)(v1 v2:Option V),σ=[some (.int r),some (.int m),some (.str me),some (.str z),v1,v2]/\Sg z/\z.length<=i/\(1<=i->1<=z.length)) ⟨rfl,n,_,_,_,rfl,Qo,by decide,λz=>absurd z (by decide)⟩ ?_ ?_
  ·rintro i σ H2 hi ⟨rfl,r,z,v1,v2,rfl,g,hz,hz1⟩
   have hlen:me.cps.toList.length=me.length:=by rw[aap];rfl
   obtain⟨c,ec,hc⟩:=Fe (xs:=me.cps.toList) (abk r (show(me.length:Int)≠0 by omega)) (by rw[hlen];exact aa2 r (by omega))
   refine⟨_,O,_,O,_,O,me,O,hml,_,_,O,O,(by show(0:Int)<me.length;omega),me,_,c,O,O,hml,ec,?_⟩
   refine⟨_,O,_,O,me,O,hml,_,_,O,O,⟨by show(0:Int)<me.length;omega,by show(me.length:Int)<1073741824;omega⟩,?_⟩
   refine⟨_,O,_,O,_,_,O,O,_,O,?_⟩
   refine bI (λha=>?_) (λha=>?_)
   ·have e1:(z++(⟨#[c]⟩:Str)).length=z.length+1:=aU _ _
    refine⟨_,O,_,O,_,_,O,O,?_,O,_,_,_,_,O,yk g (O4 c hc) ha,by rw[e1];omega,λ_=>by rw[e1];omega⟩
    exact aaq (show z.length+1<=5 by omega) (by decide)
   ·refine⟨O,_,_,_,_,O,g,by omega,λ_=>?_⟩
    have hin:c∈z.cps.toList:=aa0 λq=>ha ((fk z c).mpr q)
    have:=List.length_pos_of_mem hin
    rw[aap]at this
    exact this
  ·rintro σ H2 ⟨rfl,r,z,v1,v2,rfl,g,hz,hz1⟩
   exact⟨_,O,_,O,(by show 2<=sizeLine;decide),λt ht=>k t z r g (by omega) (λq=>hz1 (by omega)) ht⟩
def zZ:Sp:=λvs H Q _=>∃n:Int,vs=[.int n]/\∀(l:Addr)(m1 m2 m3:Str),Mn m1->Mn m2->Mn m3->(n≠0->n≠1->m1.length=94)->H l=none->Q (.ref l) (upd H l (.lst [.str m1,.str m2,.str m3]))
theorem pR:bh P w K mg base fE 1 (ay 47) (aL 47) ["_law_way"] zZ:=by
 refine T.lQ.ok pK (λvs H Q E h=>?_) (λcdv A outer s H vs Q E hr h=>?_)
 ·obtain⟨n,rfl,_⟩:=h;rfl
 ·have hu:=aR hr
  have gb:=hr.aM
  obtain⟨n,rfl,k⟩:=h
  refine⟨_,(ah (di 1 pK.nd az)
   (ah (aK (dR aV (pv 0) aj) (ao (aB (eF (af az (af az (af az ai)))))) aC)
   (ah (aK (dR aV (pv 0) aj) (ao (aB (eF (af az (af az (af az ai)))))) aC)
   (ao (aB (eF (af (pv 1) (af (pv 1) (af (pv 1) ai))))))))),?_⟩
  refine⟨_,O,O,_,O,?_⟩
  refine bI (λh0=>?_) (λ_=>?_)
  ·exact⟨by decide,λl hl=>k l _ _ _ (by decide +kernel) (by decide +kernel) (by decide +kernel) (λq _=>absurd (K1 h0) q) hl⟩
  ·refine⟨_,O,O,_,O,?_⟩
   refine bI (λh1=>?_) (λ_=>?_)
   ·exact⟨by decide,λl hl=>k l _ _ _ (by decide +kernel) (by decide +kernel) (by decide +kernel) (λ_ q=>absurd (K1 h1) q) hl⟩
   ·exact⟨_,O,_,O,_,O,by decide,λl hl=>k l _ _ _ (by decide +kernel) (by decide +kernel) (by decide +kernel) (λ_ _=>by decide +kernel) hl⟩
def Ct:Sp:=λvs H Q _=>∃c:Int,vs=[.int c]/\∀(t:Addr)(p q f:Str)(b1 b2 b3 b4:Bool)(H':Hp),Gd p q f->H t=none->H' t=some (.tup (kD p q f b1 b2 b3 b4))->aI H H'->Q (.ref t) H'
theorem Cu:bh P w K mg base fE 3 (ay 48) (aL 48) ["_law_cell"] Ct:=by
 have lY:=@pR P w K mg base ay aL cA T
 have gY:=@oq P w K mg base ay aL cA T
 have ou:=@Cs P w K mg base ay aL cA T
 refine T.vK.ok bC (λvs H Q E h=>?_) (λcdv A outer s H vs Q E hr h=>?_)
 ·obtain⟨c,rfl,_⟩:=h;rfl
 ·have hu:=aR hr
  have gb:=hr.aM
  obtain⟨c,rfl,k⟩:=h
  refine⟨_,(ah (di 1 bC.nd (dY gY hr T.kg T.gX.kp T.kc (af (pv 0) (af aj ai))))
   (ah (di 2 bC.nd (aJ bU (pv 1) aj))
   (ah (di 3 bC.nd (eF (af (aJ kX aj (aJ bU (aJ bZ (pv 1) aj) aj)) (af (aJ bU (aJ bZ (pv 1) aj) aj) (af (aJ bU (aJ bZ (pv 1) aj) aj) ai)))))
   (ah (di 4 bC.nd (dY lY hr T.sM T.lQ.kp T.sI (af (aJ bU (aJ bZ (pv 1) aj) aj) ai)))
   (ah (tR (dY ou hr T.oh T.jJ.kp T.n8 (af (aJ bZ (pv 1) aj) (af (DA K (pv 3) aj) (af (DA K (pv 4) aj) ai)))) (oF K rfl 2 rfl (bS (nt 5 bC.nd) (bS (nt 1 bC.nd) oE))))
   (ah (tR (dY ou hr T.oh T.jJ.kp T.n8 (af (pv 1) (af (DA K (pv 3) aj) (af (DA K (pv 4) aj) ai)))) (oF K rfl 2 rfl (bS (nt 6 bC.nd) (bS (nt 1 bC.nd) oE))))
   (ah (tR (dY ou hr T.oh T.jJ.kp T.n8 (af (pv 1) (af (DA K (pv 3) aj) (af (DA K (pv 4) aj) ai)))) (oF K rfl 2 rfl (bS (nt 7 bC.nd) (bS (nt 1 bC.nd) oE))))
   (ah (di 8 bC.nd (eF (af (yi aV (aJ bU (pv 2) aj) aj) (af (yi aV (aJ bU (aJ bZ (pv 2) aj) aj) aj) (af (yi aV (aJ bU (aJ bZ (pv 2) aj) aj) aj) (af (yi aV (aJ bU (aJ bZ (pv 2) aj) aj) aj) ai))))))
   (ao (aB (aD (af (pv 5) (af (pv 6) (af (pv 7) (af (DA K (pv 8) aj) (af (DA K (pv 8) aj) (af (DA K (pv 8) aj) (af (DA K (pv 8) aj) ai)))))))))))))))))),?_⟩
  refine⟨_,O,_,_,O,by decide,by decide,λn=>?_⟩
  refine⟨_,O,_,_,O,O,(by show(0:Int)<16;decide),?_⟩
  refine⟨_,O,_,_,O,O,⟨by decide,by decide⟩,_,_,O,O,(by show(0:Int)<3;decide),_,_,O,O,_,O,_,_,O,O,⟨by decide,by decide⟩,_,_,O,O,(by show(0:Int)<3;decide),_,O,_,_,O,O,⟨by decide,by decide⟩,_,_,O,O,(by show(0:Int)<3;decide),(by show 3<=sizeLine;decide),λl hl=>?_⟩
  have m1:=abk (n / 16) (show(3:Int)≠0 by decide)
  have WV:=aa2 (n / 16) (show(0:Int)<3 by decide)
  have m2:=abk (n / 48) (show(3:Int)≠0 by decide)
  have m2':=aa2 (n / 48) (show(0:Int)<3 by decide)
  have m3:=abk (n / 144) (show(3:Int)≠0 by decide)
  have m3':=aa2 (n / 144) (show(0:Int)<3 by decide)
  have h1:(upd H l (.lst [.int (1+n / 16 % 3),.int (n / 48 % 3),.int (n / 144 % 3)])) l=some (.lst [.int (1+n / 16 % 3),.int (n / 48 % 3),.int (n / 144 % 3)]):=ak
  have s1:aI H (upd H l (.lst [.int (1+n / 16 % 3),.int (n / 48 % 3),.int (n / 144 % 3)])):=aq hl
  generalize upd H l (.lst [.int (1+n / 16 % 3),.int (n / 48 % 3),.int (n / 144 % 3)])=H1 at h1 s1⊢
  refine⟨_,O,_,_,O,O,⟨by decide,by decide⟩,_,_,O,O,(by show(0:Int)<3;decide),_,O,λl2 e1 e2 e3 g1 g2 g3 _ hl2=>?_⟩
  have h2:(upd H1 l2 (.lst [.str e1,.str e2,.str e3])) l2=some (.lst [.str e1,.str e2,.str e3]):=ak
  have s2:aI H1 (upd H1 l2 (.lst [.str e1,.str e2,.str e3])):=aq hl2
  generalize upd H1 l2 (.lst [.str e1,.str e2,.str e3])=H2 at h2 s2⊢
  have h12:=s2 _ _ h1
  refine⟨_,O,_,_,O,O,⟨by decide,by decide⟩,_,O,l,_,_,_,O,O,bK.of h12,O,_,O,l2,_,_,_,O,O,bK.of h2,O,_,_,_,O,g1,by omega,by omega,λt1 p r1 gp lp lp1 ht1=>?_⟩
  refine⟨t1,_,O,aN.of ak,O,_,_,O,_,_,O,O,?_⟩
  have s3:aI H2 (upd H2 t1 (.tup [.str p,.int r1])):=aq ht1
  generalize upd H2 t1 (.tup [.str p,.int r1])=H3 at s3⊢
  refine⟨_,O,_,O,l,_,_,_,O,O,bK.of (s3 _ _ h12),O,_,O,l2,_,_,_,O,O,bK.of (s3 _ _ h2),O,_,_,_,O,g2,by omega,by omega,λt2 q r2 gq lq lq1 wX=>?_⟩
  refine⟨t2,_,O,aN.of ak,O,_,_,O,_,_,O,O,?_⟩
  have s4:aI H3 (upd H3 t2 (.tup [.str q,.int r2])):=aq wX
  generalize upd H3 t2 (.tup [.str q,.int r2])=H4 at s4⊢
  refine⟨_,O,_,O,l,_,_,_,O,O,bK.of (s4 _ _ (s3 _ _ h12)),O,_,O,l2,_,_,_,O,O,bK.of (s4 _ _ (s3 _ _ h2)),O,_,_,_,O,g3,by omega,by omega,λt3 f r3 gf lf lf1 Jw=>?_⟩
  refine⟨t3,_,O,aN.of ak,O,_,_,O,_,_,O,O,?_⟩
  have s5:aI H4 (upd H4 t3 (.tup [.str f,.int r3])):=aq Jw
  generalize upd H4 t3 (.tup [.str f,.int r3])=H5 at s5⊢
  refine⟨_,O,_,_,O,O,(by show(0:Int)<2;decide),O,_,O,_,_,O,O,⟨by decide,by decide⟩,_,_,O,O,(by show(0:Int)<2;decide),O,_,O,_,_,O,O,⟨by decide,by decide⟩,_,_,O,O,(by show(0:Int)<2;decide),O,_,O,_,_,O,O,⟨by decide,by decide⟩,_,_,O,O,(by show(0:Int)<2;decide),O,(by show 4<=sizeLine;decide),λl6 hl6=>?_⟩
  have s6:=aq (o:=HO.lst [.bl (decide (V.int (n % 16 % 2)=V.int 1)),.bl (decide (V.int (n % 16 / 2 % 2)=V.int 1)),.bl (decide (V.int (n % 16 / 4 % 2)=V.int 1)),.bl (decide (V.int (n % 16 / 8 % 2)=V.int 1))]) hl6
  refine⟨_,O,_,O,_,O,_,O,l6,_,_,_,O,O,bK.of ak,O,_,O,l6,_,_,_,O,O,bK.of ak,O,_,O,l6,_,_,_,O,O,bK.of ak,O,_,O,l6,_,_,_,O,O,bK.of ak,O,(by show 7<=sizeLine;decide),λt ht=>?_⟩
  have UW:=((((s1.trans s2).trans s3).trans s4).trans s5).trans s6
  exact k t p q f _ _ _ _ _ ⟨gp,gq,gf,lp1 (by omega),by omega,by omega,by omega⟩ (UW.free ht) ak (UW.trans (aq ht))
def Cv(C:Addr):Sp:=λvs H Q _=>∃(t:Addr)(p q f:Str)(b1 b2 b3 b4:Bool),vs=[.ref t]/\H t=some (.tup (kD p q f b1 b2 b3 b4))/\Gd p q f/\∀(x dx:Addr)(H':Hp),H x=none->H' x=some (.ins C dx (BF p q f b1 b2 b3 b4))->aI H H'->Q (.ref x) H'
theorem Cw:bh P w K mg base fE 5 (ay 49) (aL 49) ["_law_told_here"] (Cv (ay 55)):=by
 have fT:=@iQ P w K mg base ay aL cA T
 refine T.g8.ok B5 (λvs H Q E h=>?_) (λcdv A outer s H vs Q E hr h=>?_)
 ·obtain⟨t,p,q,f,b1,b2,b3,b4,rfl,_⟩:=h;rfl
 ·have hu:=aR hr
  have gb:=hr.aM
  obtain⟨t,p,q,f,b1,b2,b3,b4,rfl,ht,g,k⟩:=h
  have hS:aN K H t (kD p q f b1 b2 b3 b4):=aN.of ht
  refine⟨_,(ao (aB (jy (k:=3) T.Bc fT (hr.mono (by decide)) rfl T.Bb T.jj .nil eZ (af (cS K (pv 0) aj) (af (cS K (pv 0) aj) (af (cS K (pv 0) aj) (af (cS K (pv 0) aj) (af (cS K (pv 0) aj) (af (cS K (pv 0) aj) (af (cS K (pv 0) aj) ai)))))))))),?_⟩
  refine⟨_,O,t,_,_,_,O,O,hS,O,_,O,t,_,_,_,O,O,hS,O,_,O,t,_,_,_,O,O,hS,O,_,O,t,_,_,_,O,O,hS,O,_,O,t,_,_,_,O,O,hS,O,_,O,t,_,_,_,O,O,hS,O,_,O,t,_,_,_,O,O,hS,O,λx dx hx hdx ne=>?_⟩
  refine⟨x,dx,p,q,f,b1,b2,b3,b4,O,ak,g,λH2 h2 kp=>⟨O,k x dx H2 hx h2 λb o e=>kp b o ?_ (aW e hx)⟩⟩
  rw[aH (aW e hx),aH (aW e hdx)]
  exact e
def Cy(K:W.Frag):Sp:=λvs H Q _=>∃(t:Addr)(n:Int)(p q f:Str)(b1 b2 b3 b4:Bool),vs=[.ref t,.int n]/\H t=some (.tup (kD p q f b1 b2 b3 b4))/\Gd p q f/\∀(t2:Addr)(p' q' f':Str)(c1 c2 c3 c4:Bool) H',Gd p' q' f'->H t2=none->H' t2=some (.tup (kD p' q' f' c1 c2 c3 c4))->aI H H'->Q (.ref t2) H'
theorem Cz:bh P w K mg base fE 2 (ay 50) (aL 50) ["_law_told_here","_law_number_here"] (Cy K):=by
 have lY:=@pR P w K mg base ay aL cA T
 refine T.vL.ok bJ (λvs H Q E h=>?_) (λcdv A outer s H vs Q E hr h=>?_)
 ·obtain⟨t,n,p,q,f,b1,b2,b3,b4,rfl,_⟩:=h;rfl
 ·have hu:=aR hr
  have gb:=hr.aM
  obtain⟨t,n,p,q,f,b1,b2,b3,b4,rfl,ht,g,k⟩:=h
  have hS:aN K H t (kD p q f b1 b2 b3 b4):=aN.of ht
  have hp3:=g.p3;have hq2:=g.q2;have hf2:=g.f2;have hp1:=g.p1
  refine⟨_,(ah (MW (i:=2) (j:=3) (l:=4) rfl bJ.nd rfl rfl rfl rfl rfl rfl (af (cS K (pv 0) aj) (af (cS K (pv 0) aj) (af (cS K (pv 0) aj) ai))) rfl)
   (ah (di 5 bJ.nd (ZX (zu K rfl) T.HC (af (dG (Bx K rfl) (pv 0) (fD aj) fB) ai)))
   (ah (di 6 bJ.nd (aJ bU (pv 1) aj))
   (ah (di 7 bJ.nd (GR JS (DA K (dY lY hr T.sM T.lQ.kp T.sI (af aj ai)) aj) (aJ bU (aJ bZ (pv 1) aj) aj) (λ_ _=>rfl)))
   (ah (aK (JK GK GK aj (pv 6) aj) (ao (tR (Pd (DA K (pv 5) (aJ EE (pv 6) aj))) (Ph (pv 5) (aJ EE (pv 6) aj) set_list))) aC)
   (ah (aK (PW.pt (gK (dR aV (pv 6) aj) (eS (cW cM (pv 7) (pv 2) rfl)))) (ao (di 2 bJ.nd (aJ bN (dG nD (pv 2) fB (fD (Al tS aj))) (pv 7)))) aC)
   (ah (aK (PW.pt (gK (dR aV (pv 6) aj) (eS (cW cM (pv 7) (pv 2) rfl)))) (ao (di 2 bJ.nd (dG nD (aJ bN (pv 2) (pv 7)) (fD (Al tS aj)) fB))) aC)
   (ah (aK (PW.pt (gK (dR aV (pv 6) aj) (eS (cW cM (pv 7) (pv 3) rfl)))) (ao (di 3 bJ.nd (aJ bN (dG nD (pv 3) fB (fD (Al tS aj))) (pv 7)))) aC)
   (ah (aK (dR aV (pv 6) aj) (ao (di 3 bJ.nd (dG nD (pv 3) fB (fD (Al tS aj))))) aC)
   (ah (aK (PW.pt (gK (dR aV (pv 6) aj) (eS (cW cM (pv 7) (pv 4) rfl)))) (ao (di 4 bJ.nd (aJ bN (dG nD (pv 4) fB (fD (Al tS aj))) (pv 7)))) aC)
   (ah (aK (dR aV (pv 6) aj) (ao (di 4 bJ.nd (dG nD (pv 4) fB (fD (Al tS aj))))) aC)
   (ao (aB (aD (af (pv 2) (af (pv 3) (af (pv 4) (af (DA K (pv 5) aj) (af (DA K (pv 5) aj) (af (DA K (pv 5) aj) (af (DA K (pv 5) aj) ai))))))))))))))))))))),?_⟩
  refine⟨_,O,t,_,_,_,O,O,hS,O,_,O,t,_,_,_,O,O,hS,O,_,O,t,_,_,_,O,O,hS,O,_,_,_,O,?_⟩
  refine⟨_,O,_,O,t,_,O,hS,(by show ¬(HT.f9 7 0 (some 3)=0/\HT.f9 7 7 none=7);decide),λs0 hs0=>⟨s0,_,O,.inr (aN.of ak),λl hl=>?_⟩⟩
  have Yg:v9 (kD p q f b1 b2 b3 b4) (some 3) none=[.bl b1,.bl b2,.bl b3,.bl b4]:=rfl
  rw[Yg]at hl⊢
  have z1:=aq (o:=HO.tup [.bl b1,.bl b2,.bl b3,.bl b4]) hs0
  have z2:=aq (o:=HO.lst [.bl b1,.bl b2,.bl b3,.bl b4]) hl
  have El:H l=none:=z1.free hl
  have Rf:=z1.trans z2
  have NX:(upd (upd H s0 (.tup [.bl b1,.bl b2,.bl b3,.bl b4])) l (.lst [.bl b1,.bl b2,.bl b3,.bl b4])) l=some (.lst [.bl b1,.bl b2,.bl b3,.bl b4]):=ak
  generalize upd (upd H s0 (.tup [.bl b1,.bl b2,.bl b3,.bl b4])) l (.lst [.bl b1,.bl b2,.bl b3,.bl b4])=H2 at Rf NX⊢
  have w0:=abk n (show(12:Int)≠0 by decide)
  have w1:=aa2 n (show(0:Int)<12 by decide)
  refine⟨_,O,_,_,O,O,(by show(0:Int)<12;decide),?_⟩
  refine⟨2,O,λl2 m1 m2 m3 g1 g2 g3 UX hl2=>?_⟩
  have Yh:=UX (by decide) (by decide)
  have z3:=aq (o:=HO.lst [.str m1,.str m2,.str m3]) hl2
  have n0:=abk (n / 12) (show(94:Int)≠0 by decide)
  have n1:=aa2 (n / 12) (show(0:Int)<94 by decide)
  have hlen:m1.cps.toList.length=94:=by rw[aap];exact Yh
  obtain⟨c,ec,hc⟩:=Fe (xs:=m1.cps.toList) n0 (by rw[hlen];exact n1)
  have VW:=g1.2.2 c hc
  refine⟨l2,_,_,_,O,O,bK.of ak,O,_,O,_,_,O,O,⟨by decide,by decide⟩,_,_,O,O,(by show(0:Int)<94;decide),m1,_,c,O,O,(by rw[Yh];decide),ec,?_⟩
  have sH:=Rf.trans z3
  have hfl:=z3 _ _ NX
  generalize upd H2 l2 (HO.lst [.str m1,.str m2,.str m3])=H3 at sH hfl⊢
  clear UX z3 Rf NX hl2 g1 g2 g3 ec hc hlen n0 n1 Yh
  dsimp only[ck]
  refine cK (t:=tQ _ _ _) (λσ' H'=>∃(p' q' f':Str)(c1 c2 c3 c4:Bool),σ'=[some (.ref t),some (.int n),some (.str p'),some (.str q'),some (.str f'),some (.ref l),some (.int (n % 12)),some (.str (sg c))]/\Gd p' q' f'/\H' l=some (.lst [.bl c1,.bl c2,.bl c3,.bl c4])/\aI H H') ?_ (λgo=>?_)
  rotate_left
  ·refine⟨_,O,_,_,O,O,_,O,bI (λh1=>⟨_,_,O,O,_,O,bI (λh2=>?_) (λh2=>?_)⟩) (λh1=>⟨_,O,eg ?_⟩)⟩
   ·have h1:0<n % 12:=aa5 h1
    have h2:n % 12<5:=aa5 h2
    rcases(show n % 12=1\/n % 12=2\/n % 12=3\/n % 12=4 by omega) with ew|ew|ew|ew
    ·exact⟨_,O,_,O,_,_,O,O,l,_,_,.bl b1,O,O,bK.of hfl,(by rw[ew];rfl),_,O,_,O,_,O,_,_,O,O,l,_,_,0,O,O,hfl,(by rw[ew];rfl),go _ _ ⟨p,q,f,!b1,b2,b3,b4,O,g,ak,aS El sH⟩⟩
    ·exact⟨_,O,_,O,_,_,O,O,l,_,_,.bl b2,O,O,bK.of hfl,(by rw[ew];rfl),_,O,_,O,_,O,_,_,O,O,l,_,_,1,O,O,hfl,(by rw[ew];rfl),go _ _ ⟨p,q,f,b1,!b2,b3,b4,O,g,ak,aS El sH⟩⟩
    ·exact⟨_,O,_,O,_,_,O,O,l,_,_,.bl b3,O,O,bK.of hfl,(by rw[ew];rfl),_,O,_,O,_,O,_,_,O,O,l,_,_,2,O,O,hfl,(by rw[ew];rfl),go _ _ ⟨p,q,f,b1,b2,!b3,b4,O,g,ak,aS El sH⟩⟩
    ·exact⟨_,O,_,O,_,_,O,O,l,_,_,.bl b4,O,O,bK.of hfl,(by rw[ew];rfl),_,O,_,O,_,O,_,_,O,O,l,_,_,3,O,O,hfl,(by rw[ew];rfl),go _ _ ⟨p,q,f,b1,b2,b3,!b4,O,g,ak,aS El sH⟩⟩
   all_goals exact go _ _ ⟨p,q,f,b1,b2,b3,b4,rfl,g,hfl,sH⟩
  clear hfl sH hp3 hq2 hf2 hp1
  rintro σ' H' ⟨p',q',f',c1,c2,c3,c4,rfl,g',hfl,sH⟩
  have hp3:=g'.p3;have hq2:=g'.q2;have hf2:=g'.f2;have hp1:=g'.p1
  refine cK (t:=tQ _ _ _) (λσ' H'=>∃(p' q' f':Str)(c1 c2 c3 c4:Bool),σ'=[some (.ref t),some (.int n),some (.str p'),some (.str q'),some (.str f'),some (.ref l),some (.int (n % 12)),some (.str (sg c))]/\Gd p' q' f'/\H' l=some (.lst [.bl c1,.bl c2,.bl c3,.bl c4])/\aI H H') ?_ (λgo=>?_)
  rotate_left
  ·refine⟨_,O,O,_,O,bI (λ_=>⟨_,O,_,O,_,_,O,O,_,O,bI (λ(ha:away p' c=true)=>?_) (λ_=>?_)⟩) (λ_=>eg ?_)⟩
   ·refine⟨_,O,_,O,_,O,p',O,aaq (show p'.length<=5 by omega) (by decide),_,O,_,_,O,O,?_,?_⟩
    ·have:=jD (z:=p') (by omega);exact aaq (show _+1<=6 by omega) (by decide)
    exact go _ _ ⟨_,q',f',c1,c2,c3,c4,rfl,⟨yk (yp g'.gp (by omega)) VW (qi ha),g'.gq,g'.gf,(by rw[aU];show 1<=_+1;omega),(by have:=jD (z:=p') (by omega);rw[aU];show _+1<=3;omega),g'.q2,g'.f2⟩,hfl,sH⟩
   all_goals exact go _ _ ⟨p',q',f',c1,c2,c3,c4,rfl,g',hfl,sH⟩
  clear hfl sH g' hp3 hq2 hf2 hp1
  rintro σ' H' ⟨p',q',f',c1,c2,c3,c4,rfl,g',hfl,sH⟩
  have hp3:=g'.p3;have hq2:=g'.q2;have hf2:=g'.f2;have hp1:=g'.p1
  refine cK (t:=tQ _ _ _) (λσ' H'=>∃(p' q' f':Str)(c1 c2 c3 c4:Bool),σ'=[some (.ref t),some (.int n),some (.str p'),some (.str q'),some (.str f'),some (.ref l),some (.int (n % 12)),some (.str (sg c))]/\Gd p' q' f'/\H' l=some (.lst [.bl c1,.bl c2,.bl c3,.bl c4])/\aI H H') ?_ (λgo=>?_)
  rotate_left
  ·refine⟨_,O,O,_,O,bI (λ_=>⟨_,O,_,O,_,_,O,O,_,O,bI (λ(ha:away p' c=true)=>?_) (λ_=>?_)⟩) (λ_=>eg ?_)⟩
   ·have RT:(p'++sg c).length<5:=by rw[aU];show _+1<5;omega
    refine⟨_,O,_,O,_,_,O,O,aaq (show p'.length+1<=5 by omega) (by decide),_,O,_,O,_,O,aaq (Nat.le_of_lt RT) (by decide),?_⟩
    exact go _ _ ⟨_,q',f',c1,c2,c3,c4,rfl,⟨Nt (yk g'.gp VW ha) RT,g'.gq,g'.gf,last_pos RT (by rw[aU];show 1<=_+1;omega),KZ RT,g'.q2,g'.f2⟩,hfl,sH⟩
   all_goals exact go _ _ ⟨p',q',f',c1,c2,c3,c4,rfl,g',hfl,sH⟩
  clear hfl sH g' hp3 hq2 hf2 hp1
  rintro σ' H' ⟨p',q',f',c1,c2,c3,c4,rfl,g',hfl,sH⟩
  have hp3:=g'.p3;have hq2:=g'.q2;have hf2:=g'.f2;have hp1:=g'.p1
  refine cK (t:=tQ _ _ _) (λσ' H'=>∃(p' q' f':Str)(c1 c2 c3 c4:Bool),σ'=[some (.ref t),some (.int n),some (.str p'),some (.str q'),some (.str f'),some (.ref l),some (.int (n % 12)),some (.str (sg c))]/\Gd p' q' f'/\H' l=some (.lst [.bl c1,.bl c2,.bl c3,.bl c4])/\aI H H') ?_ (λgo=>?_)
  rotate_left
  ·refine⟨_,O,O,_,O,bI (λ_=>⟨_,O,_,O,_,_,O,O,_,O,bI (λ(ha:away q' c=true)=>?_) (λ_=>?_)⟩) (λ_=>eg ?_)⟩
   ·refine⟨_,O,_,O,_,O,q',O,aaq (show q'.length<=5 by omega) (by decide),_,O,_,_,O,O,?_,?_⟩
    ·have:=jD (z:=q') (by omega);exact aaq (show _+1<=6 by omega) (by decide)
    exact go _ _ ⟨p',_,f',c1,c2,c3,c4,rfl,⟨g'.gp,yk (yp g'.gq (by omega)) VW (qi ha),g'.gf,g'.p1,g'.p3,(by have:=jD (z:=q') (by omega);rw[aU];show _+1<=2;omega),g'.f2⟩,hfl,sH⟩
   all_goals exact go _ _ ⟨p',q',f',c1,c2,c3,c4,rfl,g',hfl,sH⟩
  clear hfl sH g' hp3 hq2 hf2 hp1
  rintro σ' H' ⟨p',q',f',c1,c2,c3,c4,rfl,g',hfl,sH⟩
  have hp3:=g'.p3;have hq2:=g'.q2;have hf2:=g'.f2;have hp1:=g'.p1
  refine cK (t:=tQ _ _ _) (λσ' H'=>∃(p' q' f':Str)(c1 c2 c3 c4:Bool),σ'=[some (.ref t),some (.int n),some (.str p'),some (.str q'),some (.str f'),some (.ref l),some (.int (n % 12)),some (.str (sg c))]/\Gd p' q' f'/\H' l=some (.lst [.bl c1,.bl c2,.bl c3,.bl c4])/\aI H H') ?_ (λgo=>?_)
  rotate_left
  ·refine⟨_,O,O,_,O,bI (λ_=>?_) (λ_=>?_)⟩
   ·refine⟨_,O,_,O,_,O,q',O,aaq (show q'.length<=5 by omega) (by decide),?_⟩
    exact go _ _ ⟨p',_,f',c1,c2,c3,c4,rfl,⟨g'.gp,yp g'.gq (by omega),g'.gf,g'.p1,g'.p3,(by have:=jD (z:=q') (by omega);omega),g'.f2⟩,hfl,sH⟩
   all_goals exact go _ _ ⟨p',q',f',c1,c2,c3,c4,rfl,g',hfl,sH⟩
  clear hfl sH g' hp3 hq2 hf2 hp1
  rintro σ' H' ⟨p',q',f',c1,c2,c3,c4,rfl,g',hfl,sH⟩
  have hp3:=g'.p3;have hq2:=g'.q2;have hf2:=g'.f2;have hp1:=g'.p1
  refine cK (t:=tQ _ _ _) (λσ' H'=>∃(p' q' f':Str)(c1 c2 c3 c4:Bool),σ'=[some (.ref t),some (.int n),some (.str p'),some (.str q'),some (.str f'),some (.ref l),some (.int (n % 12)),some (.str (sg c))]/\Gd p' q' f'/\H' l=some (.lst [.bl c1,.bl c2,.bl c3,.bl c4])/\aI H H') ?_ (λgo=>?_)
  rotate_left
  ·refine⟨_,O,O,_,O,bI (λ_=>⟨_,O,_,O,_,_,O,O,_,O,bI (λ(ha:away f' c=true)=>?_) (λ_=>?_)⟩) (λ_=>eg ?_)⟩
   ·refine⟨_,O,_,O,_,O,f',O,aaq (show f'.length<=5 by omega) (by decide),_,O,_,_,O,O,?_,?_⟩
    ·have:=jD (z:=f') (by omega);exact aaq (show _+1<=6 by omega) (by decide)
    exact go _ _ ⟨p',q',_,c1,c2,c3,c4,rfl,⟨g'.gp,g'.gq,yk (yp g'.gf (by omega)) VW (qi ha),g'.p1,g'.p3,g'.q2,(by have:=jD (z:=f') (by omega);rw[aU];show _+1<=2;omega)⟩,hfl,sH⟩
   all_goals exact go _ _ ⟨p',q',f',c1,c2,c3,c4,rfl,g',hfl,sH⟩
  clear hfl sH g' hp3 hq2 hf2 hp1
  rintro σ' H' ⟨p',q',f',c1,c2,c3,c4,rfl,g',hfl,sH⟩
  have hp3:=g'.p3;have hq2:=g'.q2;have hf2:=g'.f2;have hp1:=g'.p1
  refine cK (t:=tQ _ _ _) (λσ' H'=>∃(p' q' f':Str)(c1 c2 c3 c4:Bool),σ'=[some (.ref t),some (.int n),some (.str p'),some (.str q'),some (.str f'),some (.ref l),some (.int (n % 12)),some (.str (sg c))]/\Gd p' q' f'/\H' l=some (.lst [.bl c1,.bl c2,.bl c3,.bl c4])/\aI H H') ?_ (λgo=>?_)
  rotate_left
  ·refine⟨_,O,O,_,O,bI (λ_=>?_) (λ_=>?_)⟩
   ·refine⟨_,O,_,O,_,O,f',O,aaq (show f'.length<=5 by omega) (by decide),?_⟩
    exact go _ _ ⟨p',q',_,c1,c2,c3,c4,rfl,⟨g'.gp,g'.gq,yp g'.gf (by omega),g'.p1,g'.p3,g'.q2,(by have:=jD (z:=f') (by omega);omega)⟩,hfl,sH⟩
   all_goals exact go _ _ ⟨p',q',f',c1,c2,c3,c4,rfl,g',hfl,sH⟩
  clear hfl sH g' hp3 hq2 hf2 hp1
  rintro σ' H' ⟨p',q',f',c1,c2,c3,c4,rfl,g',hfl,sH⟩
  have hp3:=g'.p3;have hq2:=g'.q2;have hf2:=g'.f2;have hp1:=g'.p1
  have hF:bK K H' l [.bl c1,.bl c2,.bl c3,.bl c4]:=bK.of hfl
  refine⟨_,O,_,O,_,O,_,O,l,_,_,_,O,O,hF,O,_,O,l,_,_,_,O,O,hF,O,_,O,l,_,_,_,O,O,hF,O,_,O,l,_,_,_,O,O,hF,O,(by show 7<=sizeLine;decide),λt2 wX=>?_⟩
  exact k t2 p' q' f' c1 c2 c3 c4 _ g' (sH.free wX) ak (sH.trans (aq wX))
def z0(K:W.Frag):Sp:=λvs H Q _=>∃(t:Addr)(n:Int)(x:bu),vs=[.ref t,.int n]/\H t=some (.tup (K4 x))/\gm x/\∀(t2:Addr)(y:bu) H',NH x y->H t2=none->H' t2=some (.tup (K4 y))->aI H H'->Q (.ref t2) H'
theorem Aa:bh P w K mg base fE 1 (ay 51) (aL 51) ["_law_told_here","_law_number_here"] (z0 K):=by
 refine T.iW.ok aP (λvs H Q E h=>?_) (λcdv A outer s H vs Q E hr h=>?_)
 ·obtain⟨t,n,x,rfl,_⟩:=h;rfl
 ·have hu:=aR hr
  have gb:=hr.aM
  obtain⟨t,n,x,rfl,ht,g,k⟩:=h
  obtain⟨p,q,f,⟨b1,b2,b3,b4⟩⟩:=x
  have szb:100000<=sizeLine:=by decide
  have p1:1<=p.length:=g.p1
  have p3:p.length<=3:=g.p3
  have q2:q.length<=2:=g.q2
  have f2:f.length<=2:=g.f2
  refine⟨_,(ah (tR (pv 0) (oF K rfl 7 rfl (bS (nt 2 aP.nd) (bS (nt 3 aP.nd) (bS (nt 4 aP.nd) (bS (nt 5 aP.nd) (bS (nt 6 aP.nd) (bS (nt 7 aP.nd) (bS (nt 8 aP.nd) oE)))))))))
   (ah (aK (dR aV (pv 3) az) (ah (di 5 aP.nd (yi aV (aJ bU (pv 1) aj) aj))
   (ah (di 8 aP.nd (yi aV (aJ bU (aJ bZ (pv 1) aj) aj) aj))
   (ao (aK (dR aV (pv 4) az) (ao (di 6 aP.nd (yi aV (aJ bU (aJ bZ (pv 1) aj) aj) aj))) aC)))) aC)
   (ah (di 9 aP.nd (aJ bU (aJ bZ (pv 1) aj) (tO cN T.gD (af (pv 2) ai))))
   (ah (di 2 aP.nd (aJ bN (dG nD (pv 2) (fD (pv 9)) fB) (dG nD (pv 2) fB (fD (pv 9)))))
   (ah (aK (dR aV (aJ bU (aJ bZ (pv 1) aj) aj) aj) (ao (di 2 aP.nd (nH rfl rfl T.jM az (af (pv 2) ai)))) aC)
   (ah (aK (dR aV (aJ bU (aJ bZ (pv 1) aj) aj) aj) (ao (di 3 aP.nd (nH rfl rfl T.jM az (af (pv 3) ai)))) aC)
   (ah (aK (dR aV (aJ bU (aJ bZ (pv 1) aj) aj) aj) (ao (di 4 aP.nd (nH rfl rfl T.jM az (af (pv 4) ai)))) aC)
   (ao (aB (aD (af (pv 2) (af (pv 3) (af (pv 4) (af (pv 5) (af (pv 6) (af (pv 7) (af (pv 8) ai))))))))))))))))),?_⟩
  refine⟨_,O,_,_,O,aN.of ht,O,_,_,O,_,_,O,_,_,O,_,_,O,_,_,O,_,_,O,_,_,O,O,?_⟩
  dsimp only[ck]
  refine cK (t:=tQ _ _ _) (λσ' G=>G=H/\∃c1 c2 c4,σ'=[some (.ref t),some (.int n),some (.str p),some (.str q),some (.str f),some (.bl c1),some (.bl c2),some (.bl b3),some (.bl c4),none]/\(q=Str.ofString ""\/(b1=c1/\b4=c4))/\((q=Str.ofString ""/\f=("":Str))\/b2=c2)) ?_ (λgo=>?_)
  rotate_left
  ·refine⟨_,O,O,_,O,To (λh1=>?_) (λh1=>go _ _ ⟨O,b1,b2,b4,O,.inr ⟨O,O⟩,.inr rfl⟩)⟩
   refine⟨_,O,_,_,O,O,(by show(0:Int)<2;decide),O,_,O,_,_,O,O,⟨(by decide),(by decide)⟩,_,_,O,O,(by show(0:Int)<2;decide),O,_,O,O,_,O,To (λh2=>?_) (λh2=>go _ _ ⟨O,_,b2,_,O,.inl h1,.inr rfl⟩)⟩
   refine⟨_,O,_,_,O,O,⟨(by decide),(by decide)⟩,_,_,O,O,(by show(0:Int)<2;decide),O,?_⟩
   exact go _ _ ⟨rfl,_,_,_,rfl,.inl h1,.inl ⟨h1,h2⟩⟩
  rintro σ' G ⟨rfl,c1,c2,c4,rfl,hc1,hc2⟩
  have m0:=abk (n / 8) (show(p.length:Int)≠0 by omega)
  have m1:=aa2 (n / 8) (show(0:Int)<(p.length:Int) by omega)
  refine⟨_,O,_,_,O,O,⟨(by decide),(by decide)⟩,_,O,_,O,by omega,_,_,O,O,(by show(0:Int)<(p.length:Int);omega),?_⟩
  dsimp only[ck]
  obtain⟨an,ean⟩:∃an:Nat,n / 8 % (p.length:Int)=(an:Int):=⟨(n / 8 % (p.length:Int)).toNat,by omega⟩
  rw[ean]
  have perm:=Lm (z:=p) (n:=an) (by omega) p3
  have Gj:=perm.length_eq
  rw[aap,aap]at Gj
  have Gj:p.length=(Txt.slice p (some (an:Int)) none++Txt.slice p none (some (an:Int))).length:=Gj
  have UY:=Gj
  rw[aU]at UY
  refine⟨_,O,_,O,_,O,_,O,by omega,_,O,_,O,_,O,_,O,by omega,_,_,O,O,by omega,?_⟩
  dsimp only[ck]
  generalize Txt.slice p (some (an:Int)) none++Txt.slice p none (some (an:Int))=P1 at perm Gj⊢
  have Yi:("":Str).length=0:=Qq
  have jr:∀y:Str,y.length<=3->(Txt.join ("":Str) (y.cps.toList.reverse.map sg)).length=y.length:=λy _=>by
   have:=(gW y).length_eq
   rw[aap,aap]at this
   exact this.symm
  refine cK (t:=tQ _ _ _) (λσ' G'=>G'=G/\∃P2:Str,σ'=[some (.ref t),some (.int n),some (.str P2),some (.str q),some (.str f),some (.bl c1),some (.bl c2),some (.bl b3),some (.bl c4),some (.int (an:Int))]/\p.cps.toList.Perm P2.cps.toList/\P2.length=p.length) ?_ (λgo=>?_)
  rotate_left
  ·refine⟨_,O,_,_,O,O,⟨(by decide),(by decide)⟩,_,_,O,O,(by show(0:Int)<2;decide),O,_,O,?_⟩
   refine Vt (λ_=>?_) (λ_=>go _ _ ⟨rfl,P1,rfl,perm,Gj.symm⟩)
   exact⟨_,O,_,O,P1,O,by omega,Yi,go _ _ ⟨O,_,O,perm.trans (gW P1),by rw[jr P1 (by omega)];exact Gj.symm⟩⟩
  rintro σ' G' ⟨rfl,P2,rfl,pp,pl2⟩
  refine cK (t:=tQ _ _ _) (λσ' G2=>G2=G'/\∃Q2:Str,σ'=[some (.ref t),some (.int n),some (.str P2),some (.str Q2),some (.str f),some (.bl c1),some (.bl c2),some (.bl b3),some (.bl c4),some (.int (an:Int))]/\q.cps.toList.Perm Q2.cps.toList) ?_ (λgo=>?_)
  rotate_left
  ·refine⟨_,O,_,_,O,O,⟨(by decide),(by decide)⟩,_,_,O,O,(by show(0:Int)<2;decide),O,_,O,?_⟩
   refine Vt (λ_=>?_) (λ_=>go _ _ ⟨rfl,q,rfl,.refl _⟩)
   exact⟨_,O,_,O,q,O,by omega,Yi,go _ _ ⟨O,_,O,gW q⟩⟩
  rintro σ' G2 ⟨rfl,Q2,rfl,pq⟩
  refine cK (t:=tQ _ _ _) (λσ' G3=>G3=G2/\∃F2:Str,σ'=[some (.ref t),some (.int n),some (.str P2),some (.str Q2),some (.str F2),some (.bl c1),some (.bl c2),some (.bl b3),some (.bl c4),some (.int (an:Int))]/\f.cps.toList.Perm F2.cps.toList) ?_ (λgo=>?_)
  rotate_left
  ·refine⟨_,O,_,_,O,O,⟨(by decide),(by decide)⟩,_,_,O,O,(by show(0:Int)<2;decide),O,_,O,?_⟩
   refine Vt (λ_=>?_) (λ_=>go _ _ ⟨rfl,f,rfl,.refl _⟩)
   exact⟨_,O,_,O,f,O,by omega,Yi,go _ _ ⟨O,_,O,gW f⟩⟩
  rintro σ' G3 ⟨rfl,F2,rfl,pf⟩
  refine⟨_,O,_,O,_,O,_,O,_,O,_,O,_,O,(by show(7:Nat)<=sizeLine;decide),λt2 wX=>?_⟩
  exact k t2 (P2,Q2,F2,⟨c1,c2,b3,c4⟩) _ ⟨pp,pq,pf,rfl,hc1,hc2⟩ wX ak (aq wX)
def vf(P:Program)(w:World)(K:W.Frag)(C CT CC:Addr):Sp:=λvs H Q _=>∃(a da b db:Addr)(x y:bu),vs=[.ref a,.ref b]/\H a=some (.ins C da (iU x))/\gm x/\H b=some (.ins C db (iU y))/\gm y/\(∀cs,bP x cs=bP y cs)/\∀H',aI H H'->Q (.bl true) H'
theorem vg:bh P w K mg base fE 13 (ay 52) (aL 52) ["_law_one","_law_other"] (vf P w K (ay 55) (ay 56) (ay 57)):=by
 have oS:=@yY P w K mg base ay aL cA T
 have lZ:=@vN P w K mg base ay aL cA T
 refine T.iG.ok gT (λvs H Q E h=>?_) (λcdv A outer s H vs Q E hr h=>?_)
 ·obtain⟨a,da,b,db,x,y,rfl,_⟩:=h;rfl
 ·have hu:=aR hr
  have gb:=hr.aM
  obtain⟨a,da,b,db,x,y,rfl,ha,gx,hb,gy,heq,k⟩:=h
  have fz:=hr.units
  refine⟨_,(ah (tR (dY oS hr T.uU T.oQ.kp T.uT (af (pv 0) (af (pv 1) ai))) (oF K rfl 2 rfl (bS (nt 2 gT.nd) (bS (nt 3 gT.nd) oE))))
   (ao (aB (ia (yi aV (pv 2) az) (g9 (yi yf (dY lZ hr T.qB T.lN.kp T.qA (af (pv 0) (af (pv 1) (af (pv 3) ai)))) fU)))))),?_⟩
  refine⟨_,O,_,O,a,da,b,db,x,y,O,ha,gx,hb,gy,λt H1 ht0 s1 hD=>?_⟩
  rcases hD with ⟨l,vs,qs,hT,El,hl,pv,nd,hq,wk,sw,hall⟩|⟨xs,_,_,_,hne,_⟩
  rotate_left
  ·exact absurd (heq xs) hne
  have ha1:=s1 _ _ ha
  have hb1:=s1 _ _ hb
  refine⟨_,_,O,aN.of hT,O,_,_,O,_,_,O,O,_,O,O,_,O,Nb rfl (⟨_,O,_,O,_,O,_,_,_,_,_,_,_,_,_,O,ha1,gx,hb1,gy,hl,pv,nd,(by omega),?_,?_,λH2=>?_⟩)⟩
  ·exact sw.asks
  ·exact sw.row
  intro s2
  exact⟨_,_,O,O,k _ (s1.trans s2)⟩
def za(P:Program)(w:World)(K:W.Frag)(C CT CC:Addr):Sp:=λvs H Q _=>∃(a da b db c dc:Addr)(x y z:bu),vs=[.ref a,.ref b,.ref c]/\H a=some (.ins C da (iU x))/\gm x/\H b=some (.ins C db (iU y))/\gm y/\H c=some (.ins C dc (iU z))/\gm z/\(∀cs,bP x cs=bP y cs)/\∀H',aI H H'->Q (.bl true) H'
theorem zb:bh P w K mg base fE 13 (ay 53) (aL 53) ["_law_one","_law_other","_law_third"] (za P w K (ay 55) (ay 56) (ay 57)):=by
 have oS:=@yY P w K mg base ay aL cA T
 have lZ:=@vN P w K mg base ay aL cA T
 have vO:=@Cq P w K mg base ay aL cA T
 refine T.kh.ok jh (λvs H Q E h=>?_) (λcdv A outer s H vs Q E hr h=>?_)
 ·obtain⟨a,da,b,db,c,dc,x,y,z,rfl,_⟩:=h;rfl
 ·have hu:=aR hr
  have gb:=hr.aM
  obtain⟨a,da,b,db,c,dc,x,y,z,rfl,ha,gx,hb,gy,hc,gz,heq,k⟩:=h
  have fz:=hr.units
  refine⟨_,(ah (di 3 jh.nd (dY oS hr T.uU T.oQ.kp T.uT (af (pv 0) (af (pv 2) ai))))
   (ah (di 4 jh.nd (dY oS hr T.uU T.oQ.kp T.uT (af (pv 1) (af (pv 2) ai))))
   (ah (aK (dR vv (cS K (pv 3) aj) (cS K (pv 4) aj)) (ao (aB fU)) aC)
   (ah (aK (dR aV (cS K (pv 3) aj) az) (ao (aB (ia (yi yf (dY lZ hr T.qB T.lN.kp T.qA (af (pv 0) (af (pv 2) (af (cS K (pv 3) aj) ai)))) fU) (g9 (yi yf (dY lZ hr T.qB T.lN.kp T.qA (af (pv 1) (af (pv 2) (af (cS K (pv 4) aj) ai)))) fU))))) aC)
   (ah (aK (dR vv (tO cN T.gD (af (cS K (pv 3) aj) ai)) (tO cN T.gD (af (cS K (pv 4) aj) ai))) (ao (aB fU)) aC)
   (ao (aB (ia (yi yf (dY vO hr T.vJ T.nZ.kp T.vI (af (pv 0) (af (pv 2) (af (cS K (pv 4) aj) ai)))) fU) (g9 (yi yf (dY vO hr T.vJ T.nZ.kp T.vI (af (pv 1) (af (pv 2) (af (cS K (pv 3) aj) ai)))) fU)))))))))),?_⟩
  refine⟨_,O,_,O,a,da,c,dc,x,z,O,ha,gx,hc,gz,λt1 H1 ht1 s1 hD1=>?_⟩
  dsimp only[ck]
  refine⟨_,O,_,O,b,db,c,dc,y,z,O,s1 _ _ hb,gy,s1 _ _ hc,gz,λt2 H2 wX s2 RW=>?_⟩
  dsimp only[ck]
  have s12:=s1.trans s2
  have ha2:=s12 _ _ ha
  have hb2:=s12 _ _ hb
  have hc2:=s12 _ _ hc
  rcases hD1 with ⟨l,vs,qs,hT,El,hl,pv,nd,hq,wk,sw,hall⟩|⟨xs,hT,VF,hxc,hne,hmin⟩
  ·rcases RW with ⟨l',vs',qs',N8,Yj,hl',pv',Ug,hq',wk',Yk,O6⟩|⟨xs',N8,Yl,UZ,hne',O7⟩
   rotate_left
   ·exact absurd ((heq xs').symm.trans (hall xs')) hne'
   have hT2:=s2 _ _ hT
   have hl2:=s2 _ _ hl
   have UK:=cT (λ_ _ h=>oV.mono s2 h) pv
   refine⟨_,O,_,_,_,_,O,O,aN.of hT2,O,_,O,_,_,_,_,O,O,aN.of N8,O,O,_,O,Tj rfl (⟨_,O,_,_,_,_,O,O,aN.of hT2,O,O,_,O,Nb rfl (⟨_,O,_,O,_,O,_,_,_,_,O,O,aN.of hT2,O,_,_,_,_,_,_,_,_,_,O,ha2,gx,hc2,gz,hl2,UK,nd,(by omega),?_,?_,λzz=>?_⟩)⟩)⟩
   ·exact sw.asks
   ·exact sw.row
   intro s3
   refine⟨_,_,O,O,?_⟩
   have Jt:=s12.trans s3
   have VG:=s3 _ _ N8
   have hl3:=s3 _ _ hl'
   have pv3:=cT (λ_ _ h=>oV.mono s3 h) pv'
   have UA:=Jt _ _ hb
   have hc3:=Jt _ _ hc
   refine⟨_,O,kY (⟨_,O,_,O,_,O,_,_,_,_,O,O,aN.of VG,O,_,_,_,_,_,_,_,_,_,O,UA,gy,hc3,gz,hl3,pv3,Ug,(by omega),?_,?_,λzz=>?_⟩)⟩
   ·exact Yk.asks
   ·exact Yk.row
   intro s4
   exact⟨_,_,O,O,k _ (Jt.trans s4)⟩
  ·rcases RW with ⟨l',vs',qs',N8,Yj,hl',pv',Ug,hq',wk',Yk,O6⟩|⟨xs',N8,Yl,UZ,hne',O7⟩
   ·exact absurd ((heq xs).trans (O6 xs)) hne
   have hT2:=s2 _ _ hT
   have e1:=hmin xs' (by rw[heq];exact hne')
   have e2:=O7 xs (by rw[←heq];exact hne)
   have n1:bP x xs'≠bP z xs':=by rw[heq];exact hne'
   have n2:bP y xs≠bP z xs:=by rw[←heq];exact hne
   have o1:=LO gx gz hxc
   have o2:=LO gy gz UZ
   have l1:=HB (xs:=xs)
   have l2:=HB (xs:=xs')
   have c1:=FA (xs:=xs)
   have c2:=FA (xs:=xs')
   generalize Txt.join ("":Str) (xs.map sg)=z1 at hT2 o1 l1 c1⊢
   generalize Txt.join ("":Str) (xs'.map sg)=z2 at N8 o2 l2 c2⊢
   refine⟨_,O,_,_,_,_,O,O,aN.of hT2,O,_,O,_,_,_,_,O,O,aN.of N8,O,O,_,O,Tj rfl (⟨_,O,_,_,_,_,O,O,aN.of hT2,O,O,_,O,wm (by decide +kernel) (⟨_,O,_,_,_,_,O,O,aN.of hT2,O,_,O,?_,_,O,_,_,_,_,O,O,aN.of N8,O,_,O,?_,O,_,O,WL (by omega) (⟨_,O,_,O,_,O,_,_,_,_,O,O,aN.of N8,O,_,_,_,_,_,_,_,O,ha2,gx,hc2,gz,o2,(by omega),λzz=>?_⟩)⟩)⟩)⟩
   ·exact aaq (show z1.length<=1000 by omega) (by decide)
   ·exact aaq (show z2.length<=1000 by omega) (by decide)
   intro s3
   rw[c2,aak n1]
   refine⟨_,_,O,O,_,O,kY ?_⟩
   refine⟨_,O,_,O,_,O,_,_,_,_,O,O,aN.of (s3 _ _ hT2),O,b,db,c,dc,y,z,z1,O,s3 _ _ hb2,gy,s3 _ _ hc2,gz,o1,by omega,λH4 s4=>?_⟩
   rw[c1,aak n2]
   exact⟨_,_,O,O,k _ (s12.trans (s3.trans s4))⟩
def CA(K:W.Frag):Sp:=λvs H Q _=>∃(a:Addr)(ns:List Int),vs=[.ref a]/\bK K H a (ns.map V.int)/\ns.length<=63/\∀H',Q (.bl true) H'
theorem Ro:bh P w K mg base fE 14 (ay 54) (aL 54) ["_law_script"] (CA K):=by
 have mh:=@Aa P w K mg base ay aL cA T
 have pS:=@zb P w K mg base ay aL cA T
 have gF:=@xg P w K mg base ay aL cA T
 have mZ:=@vg P w K mg base ay aL cA T
 have jO:=@Cw P w K mg base ay aL cA T
 have Es:=@Cz P w K mg base ay aL cA T
 have gY:=@oq P w K mg base ay aL cA T
 have Et:=@Cu P w K mg base ay aL cA T
 refine T.Uk.ok lK (λvs H Q E h=>?_) (λcdv A outer s H vs Q E hr h=>?_)
 ·obtain⟨a,ns,rfl,_⟩:=h;rfl
 ·have hu:=aR hr
  have gb:=hr.aM
  obtain⟨a,ns,rfl,hS,hlen,k⟩:=h
  refine⟨_,(ah (di 1 lK.nd (dY Et hr T.Eg T.vK.kp T.Ef (af (dY gF hr T.gB T.eH.kp T.gA (af (pv 0) (af aj ai))) ai)))
   (ah (di 2 lK.nd (dY gY hr T.kg T.gX.kp T.kc (af (dY gF hr T.gB T.eH.kp T.gA (af (pv 0) (af aj ai))) (af aj ai))))
   (ah (di 3 lK.nd (dY Es hr T.Ei T.vL.kp T.Eh (af (pv 1) (af (dY gY hr T.kg T.gX.kp T.kc (af (dY gF hr T.gB T.eH.kp T.gA (af (pv 0) (af aj ai))) (af aj ai))) ai))))
   (ah (aK (dR aV (aJ bU (dY gF hr T.gB T.eH.kp T.gA (af (pv 0) (af aj ai))) aj) aj) (ao (di 3 lK.nd (dY mh hr T.lS T.iW.kp T.lR (af (pv 1) (af (aJ bZ (pv 2) aj) ai))))) aC)
   (ah (di 4 lK.nd (dY jO hr T.jL T.g8.kp T.jK (af (dY mh hr T.lS T.iW.kp T.lR (af (pv 3) (af (aJ bZ (pv 2) aj) ai))) ai)))
   (ah (di 5 lK.nd (dY jO hr T.jL T.g8.kp T.jK (af (pv 1) ai)))
   (ah (di 6 lK.nd (dY jO hr T.jL T.g8.kp T.jK (af (dY mh hr T.lS T.iW.kp T.lR (af (pv 1) (af (pv 2) ai))) ai)))
   (ah (di 7 lK.nd (dY jO hr T.jL T.g8.kp T.jK (af (pv 3) ai)))
   (ah (aK (PW.pt (iM (cJ (bR (dY mZ hr T.mT T.iG.kp T.mS (af (pv 5) (af (pv 6) ai))))) (f7 (cJ (bR (dY mZ hr T.mT T.iG.kp T.mS (af (pv 7) (af (pv 4) ai)))))))) (ao (aB fU)) aC)
   (ao (aB (ia (dY pS hr T.pQ T.kh.kp T.pP (af (pv 5) (af (pv 6) (af (pv 7) ai)))) (g9 (dY pS hr T.pQ T.kh.kp T.pP (af (pv 7) (af (pv 4) (af (pv 5) ai))))))))))))))))),?_⟩
  refine⟨_,O,a,_,_,O,hS,by decide,λc0=>⟨c0,O,λt p q f b1 b2 b3 b4 H1 g ht h1 s1=>?_⟩⟩
  dsimp only[ck]
  obtain⟨x,hx⟩:∃x:bu,x=(p,q,f,⟨b1,b2,b3,b4⟩):=⟨_,rfl⟩
  have h1:H1 t=some (.tup (K4 x)):=by rw[hx];exact h1
  have gx:gm x:=by rw[hx];exact g
  have Qj:=s1.seq hS
  refine⟨_,O,a,_,_,O,Qj,by decide,λc1=>⟨c1,61,O,by decide,by decide,λn1=>?_⟩⟩
  dsimp only[ck]
  refine⟨_,O,_,O,a,_,_,O,Qj,by decide,λc2=>⟨c2,67,O,by decide,by decide,λn2=>?_⟩⟩
  refine⟨t,n2,_,_,_,_,_,_,_,O,h1,gx,λt2 p' q' f' d1 d2 d3 d4 H2 g2 wX h2 s2=>?_⟩
  dsimp only[ck]
  obtain⟨y0,hy0⟩:∃y0:bu,y0=(p',q',f',⟨d1,d2,d3,d4⟩):=⟨_,rfl⟩
  have h2:H2 t2=some (.tup (K4 y0)):=by rw[hy0];exact h2
  have gy0:gm y0:=by rw[hy0];exact g2
  have hS2:=s2.seq Qj
  have h12:=s2 _ _ h1
  have s12:=s1.trans s2
  refine cK (t:=tQ _ _ _) (λσ' G=>∃t3 z,σ'=[some (.ref a),some (.ref t),some (.int n1),some (.ref t3),none,none,none,none]/\aI H2 G/\G t3=some (.tup (K4 z))/\gm z) ?_ (λgo=>?_)
  rotate_left
  ·refine⟨_,O,_,_,_,O,(aI.refl _).seq hS2,(by omega),λc3=>⟨_,_,O,O,(by omega),O,_,O,?_⟩⟩
   refine Vt (λ_=>?_) (λ_=>go _ _ ⟨t2,y0,rfl,aI.refl _,h2,gy0⟩)
   refine⟨_,O,_,O,_,_,O,O,⟨(by decide),(by decide)⟩,_,_,_,O,h12,gx,λt3 z H3 al Jw h3 s3=>?_⟩
   exact go _ _ ⟨t3,z,rfl,s3,h3,al.gd gx⟩
  rintro σ' G ⟨t3,z,rfl,s3,h3,gz⟩
  have h13:=s3 _ _ h12
  refine⟨_,O,_,O,_,_,O,O,⟨(by omega),(by omega)⟩,_,_,_,O,h3,gz,λt4 z4 H4 VX VM h4 s4=>⟨_,_,_,_,_,_,_,_,O,h4,?_,?_⟩⟩
  ·exact VX.gd gz
  intro d4 e4 H5 aad hd4 s5
  have gz4:=VX.gd gz
  have s35:=s3.trans (s4.trans s5)
  have Ym:=s35 _ _ h12
  have VV:=s5 _ _ (s4 _ _ h3)
  clear h4 h13
  refine⟨_,O,_,_,_,_,_,_,_,_,O,Ym,gx,λd5 e5 H6 aae hd5 s6=>⟨_,O,_,O,_,_,_,O,(s6 _ _ Ym),gx,?_⟩⟩
  have h16:=s6 _ _ Ym
  have h36:=s6 _ _ VV
  have Yn:=s6 _ _ hd4
  refine λt6 z6 H7 VY ht6 h6 s7=>⟨_,_,_,_,_,_,_,_,rfl,h6,?_,?_⟩
  ·exact VY.gd gx
  intro d6 e6 H8 aaf hd6 s8
  have gz6:=VY.gd gx
  have Yo:=s7.trans s8
  have h38:=Yo _ _ h36
  have Yp:=Yo _ _ Yn
  have U0:=Yo _ _ hd5
  refine⟨_,O,_,_,_,_,_,_,_,_,O,h38,gz,λd7 e7 H9 aag Yq s9=>⟨_,O,_,O,_,_,_,_,_,_,O,(s9 _ _ U0),gx,(s9 _ _ hd6),gz6,?_,?_⟩⟩
  ·exact xS VY
  have U1:=s9 _ _ Yp
  have U3:=s9 _ _ U0
  have Yr:=s9 _ _ hd6
  intro Ww HX
  refine⟨true,O,eg ?_⟩
  refine⟨_,O,_,O,d7,e7,d4,e4,z,z4,O,HX _ _ Yq,gz,HX _ _ U1,gz4,xS VX,λH11 UL=>⟨true,O,eg ?_⟩⟩
  have VZ:=HX.trans UL
  refine⟨_,O,_,O,_,O,d5,e5,d6,e6,d7,e7,x,z6,z,O,VZ _ _ U3,gx,VZ _ _ Yr,gz6,VZ _ _ Yq,gz,xS VY,λH12 Ys=>⟨true,O,kY ?_⟩⟩
  have Yt:=VZ.trans Ys
  exact⟨_,O,_,O,_,O,d7,e7,d4,e4,d5,e5,z,z4,x,O,Yt _ _ Yq,gz,Yt _ _ U1,gz4,Yt _ _ U3,gx,xS VX,λH13 Yc=>k _⟩
end
end
theorem all_mk{l:W.OpenLaw}{w:World}{K:W.Frag}{h:Heap}{mg:Str->Option Value}{fa ow jP Be L6 Eu vP Bf m7 jt cF oz jQ sW iR m8 pU pV m9 sX nc vQ kR sY L7 Ew zc sZ vR jR oA ng ju Bg zd vS Bh pW nh jS tD Bj jv Bk oB tE pX vU tF vV vW vX tG ni pY L8 bz iH cR cL eO gG jT jU CB jw gH gI:Addr}{od9 Yu Yv N9 Yw Rp:Option Addr}{sl9 Yx Yy:Array (Option Value)}{oc9 Yz YA YB V0 YC YD Oa Ob Oc Ma Od YE Rq Rr Rt Oe Ru:Value}{Gk dS:Str}{bL f6:Addr}(X:K.In h)(G:h.Ns mainGlobals mg)(hfa:mg "law"=some (.ref fa))(Gm:W.nsIn K mainGlobals "Dialect"=some (some (.ref bz)))(Og:W.nsIn K mainGlobals "Turn"=some (some (.ref iH)))(Jh:W.nsIn K mainGlobals "Couple"=some (some (.ref cR)))(Gn:W.nsIn K mainGlobals "Parting"=some (some (.ref cL)))(iI:W.nsIn K mainGlobals "DialectError"=some (some (.ref eO)))(mj:W.nsIn K mainGlobals "NoDialect"=some (some (.ref jT)))(l0:FQ K "is_printable" i6 ow)(l1:FQ K "has_signs_alone" dZ jP)(l2:FQ K "is_text" uf Be)(l3:FQ K "once" Fb L6)(l4:FQ K "others" rz Eu)(l5:FQ K "states_of" nJ vP)(l6:FQ K "is_live" ug Bf)(l7:FQ K "is_live_state" iu m7)(l8:FQ K "are_unlike_signs" dB jt)(a9:W.findIn K (.ref bz) "__init__"=some (some (.ref cF)))(i9:W.isFn K (.ref cF)=true)(l9:K.lookup cF=FO "__init__" "Dialect.__init__" aZ (.ref bL) oc9 od9 Yz YA YB Yu V0 YC sl9)(c9:W.codeIn K V0 "Dialect.__init__"=true)(k9:W.keepIn K (.ref cF)=true){U4:Option Addr}{YF:Nat}{U5:Array (Option Value)}{U6 U8:Tok}(d9:K.lookup bL=some ⟨.type "tuple",U4,.seq #[.str ("":Str) U6,.str ("":Str) U8,.bool false,.bool false,.bool false,.bool false] YF,U5⟩)(ZZ:FV K bz "told" "Dialect.told" i7 oz)(l11:FV K bz "special" "Dialect.special" gg jQ)(l12:FQ K "dialect_of" lg sW)(l13:FQ K "step_at_beginning" e9 iR)(l14:FQ K "step_in_plain" iw m8)(l15:FQ K "step_within" jY pU)(l16:FQ K "step_behind" jZ pV)(l17:FQ K "step_in_doubt" iy m9)(l18:FQ K "step_freed" lu sX)(l19:FV K iH "__init__" "Turn.__init__" iz nc)(l20:FV K iH "step" "Turn.step" nK vQ)(l21:FV K iH "live_step" "Turn.live_step" gP kR)(l22:FQ K "check_text" ly sY)(l23:FQ K "walk" Fc L7)(l24:FQ K "end_of" yj Ew)(l25:FQ K "table_of" qg zc)(l26:FQ K "reading_of" lA sZ)(l27:FQ K "signs_for" jA vR)(l28:FV K cR "__init__" "Couple.__init__" gh jR)(l29:FV K cR "steps" "Couple.steps" i8 oA)(l30:FQ K "is_known_step" iA ng)(l31:FV K cR "agrees_at" "Couple.agrees_at" fN ju)(l32:FQ K "is_pair" uh Bg)(l33:FQ K "is_alike" ja zd)(l34:FQ K "is_parted" nL vS)(l35:FQ K "put_out" um Bh)(l36:FQ K "more_behind" j0 pW)(l37:FV K cL "leads" "Parting.leads" fF nh)(l38:FV K cL "is_good" "Parting.is_good" gi jS)(Xn:W.nsIn K mainGlobals "search"=RF tD)(l39:K.lookup tD=FO "search" "search" eG (.ref f6) YD Yv Oa Ob Oc N9 Ma Od Yx)(c39:W.codeIn K Ma "search"=true)(k39:W.keepIn K (.ref tD)=true){Rv:Option Addr}{U9:Nat}{Rw:Array (Option Value)}(d39:K.lookup f6=some ⟨.type "tuple",Rv,.seq #[.none] U9,Rw⟩)(l40:FQ K "text_to" uo Bj)(l41:FV K cL "__init__" "Parting.__init__" fO jv)(l42:FQ K "compare" oM Bk)(l43:FQ K "_law_cell_at" jb oB)(l44:FQ K "_law_mixed" lB tE)(l45:FQ K "_law_number" j3 pX)(l46:FQ K "_law_some" nM vU)(l47:FQ K "_law_menus" lC tF)(l48:FQ K "_law_told" nN vV)(l49:FQ K "_law_made" nO vW)(l50:FQ K "_law_near" nP vX)(l51:FQ K "_law_alike" lD tG)(l52:FQ K "_law_is_alike" iB ni)(l53:FQ K "_law_as_far" j4 pY)(a54:W.nsIn K mainGlobals "law"=RF L8)(l54:K.lookup L8=FO "law" "law" vD .none YE Yw Rq Rr Rt Rp Oe Ru Yy)(c54:W.codeIn K Oe "law"=true)(k54:W.keepIn K (.ref L8)=true)(Gp:W.plainGet K bz Str.empty=true)(Gq:W.hasDictIn K bz=true)(Gr:W.plainOver K bz=true)(Gs:W.findIn K (.ref bz) "__setattr__"=some (some (.builtin "object.__setattr__")))(Gu:W.makesIn K bz=true)(Gv:W.keepIn K (.ref bz)=true)(bM:W.findIn K (.ref bz) "parts"=some none)(bH:W.findIn K (.ref bz) "quotes"=some none)(bD:W.findIn K (.ref bz) "frees"=some none)(eL:W.findIn K (.ref bz) "twin"=some none)(c7:W.findIn K (.ref bz) "wide"=some none)(dg:W.findIn K (.ref bz) "thin"=some none)(dJ:W.findIn K (.ref bz) "stray"=some none)(Oh:W.plainGet K iH Str.empty=true)(Oi:W.hasDictIn K iH=true)(Oj:W.plainOver K iH=true)(Ol:W.findIn K (.ref iH) "__setattr__"=some (some (.builtin "object.__setattr__")))(Om:W.makesIn K iH=true)(Oo:W.keepIn K (.ref iH)=true)(bA:W.findIn K (.ref iH) "dialect"=some none)(Ji:W.plainGet K cR Str.empty=true)(Jj:W.hasDictIn K cR=true)(Jk:W.plainOver K cR=true)(Jl:W.findIn K (.ref cR) "__setattr__"=some (some (.builtin "object.__setattr__")))(Jm:W.makesIn K cR=true)(Jo:W.keepIn K (.ref cR)=true)(gC:W.findIn K (.ref cR) "first"=some none)(fH:W.findIn K (.ref cR) "second"=some none)(eN:W.findIn K (.ref cR) "signs"=some none)(Gw:W.plainGet K cL Str.empty=true)(Gx:W.hasDictIn K cL=true)(Gy:W.plainOver K cL=true)(Gz:W.findIn K (.ref cL) "__setattr__"=some (some (.builtin "object.__setattr__")))(GA:W.makesIn K cL=true)(GB:W.keepIn K (.ref cL)=true)(dh:W.findIn K (.ref cL) "couple"=some none){xh xj:Str}{xm vh:List Value}{vj xo:Bool}{xq:List Str}{vm:Option Bool}{xr vn:Option Addr}{xu xw xx xA xB:Option Value}{vo:Value}{kT:Array DictEntry}{xC:Nat}{vp:Array (Option Value)}(iJ:K.lookup eO=some (excClassObj xh xj eO gG xm Nc vj xq vh xo vm xr xu xw xx xA xB "ValueError.__new__"))(iK:K.lookup gG=some ⟨vo,vn,.dict kT xC,vp⟩)(tH:(kT.toList.all λe=>match e.key with | .str _ _=>true|_=>false)=true)(iL:W.nsIn K gG "__init__"=some none){CD CF:Str}{CG Ab:List Value}{Ac CH:Bool}{CI:List Str}{Ad:Option Bool}{CJ Ae:Option Addr}{CK CL CM CN CO:Option Value}{Af:Value}{pZ:Array DictEntry}{CQ:Nat}{Ag:Array (Option Value)}(mq:K.lookup jT=some (excClassObj CD CF jT jU CG (.ref eO::Nc) Ac CI Ab CH Ad CJ CK CL CM CN CO "ValueError.__new__"))(mw:K.lookup jU=some ⟨Af,Ae,.dict pZ CQ,Ag⟩)(zf:(pZ.toList.all λe=>match e.key with | .str _ _=>true|_=>false)=true)(mC:W.nsIn K jU "__init__"=some none)(Va:W.nsIn K mainGlobals "all"=some none)(Rx:W.nsIn K mainGlobals "bool"=some none)(CS:W.nsIn K mainGlobals "isinstance"=some none)(Vb:W.nsIn K mainGlobals "len"=some none)(Ry:W.nsIn K mainGlobals "list"=some none)(z_ord:W.nsIn K mainGlobals "ord"=some none)(Oq:W.nsIn K mainGlobals "range"=some none)(GC:W.nsIn K mainGlobals "reversed"=some none)(Vc:W.nsIn K mainGlobals "str"=some none)(Ot:W.nsIn K mainGlobals "tuple"=some none)(Vd:W.nsIn K mainGlobals "zip"=some none){Ou:Tok}(Rz:W.nsIn K mainGlobals "LINE"=some (some (.str Gk Ou)))(RA:Gk=("\n":Str)){mD:Tok}(nk:W.nsIn K mainGlobals "LETTERS_AND_FIGURES"=some (some (.str dS mD)))(nq:dS=("abcdefghijklmnopqrstuvwxyzABCDEFGHIJKLMNOPQRSTUVWXYZ0123456789":Str)){Ah:Tok}(CU:W.nsIn K mainGlobals "MOST_SIGNS"=some (some (.int 2000 Ah)))(Ov:W.nsIn K mainGlobals "START"=some (some (.ref CB))){Mb:Option Addr}{Ow:Nat}{Mc:Array (Option Value)}{Me Mf:Tok}(Ox:K.lookup CB=some ⟨.type "tuple",Mb,.seq #[.str ("row":Str) Me,.str ("":Str) Mf] Ow,Mc⟩)(zg:W.nsIn K mainGlobals "NOTHING_MORE"=some (some (.ref jw))){xD:Option Addr}{zh:Nat}{xE:Array (Option Value)}(zj:K.lookup jw=some ⟨.type "tuple",xD,.seq #[.ref gH,.ref gI] zh,xE⟩){qN:Option Addr}{tK:Nat}{qO:Array (Option Value)}(tL:K.lookup gH=some ⟨.type "tuple",qN,.seq #[] tK,qO⟩){qP:Option Addr}{tM:Nat}{qQ:Array (Option Value)}(tN:K.lookup gI=some ⟨.type "tuple",qP,.seq #[] tM,qQ⟩):∃fd:FuncData,(∀(s:Shared)(v:Value),BindsTo s fd ⟨[v],[]⟩ [("_law_script",v)])/\∀base:Heap,K.In base->base.Ns mainGlobals mg->bh l.prog w K mg base fE 14 fa fd ["_law_script"] (CA K):=by
 have e:=hfa.symm.trans (W.mg_of X G a54)
 cases e
 have mo:∀{n:Str}{v:Value},W.nsIn K mainGlobals n=some (some v)->mg n=some v:=λe=>W.mg_of X G e
 have mz:∀{n:Str},W.nsIn K mainGlobals n=some none->mg n=none:=λe=>W.mg_none_of X G e
 obtain⟨a0,fd0,F0⟩:=l0
 have b0:=F0.qf (ps:=["sign"])
 obtain⟨a1,fd1,F1⟩:=l1
 have b1:=F1.qf (ps:=["text"])
 obtain⟨a2,fd2,F2⟩:=l2
 have b2:=F2.qf (ps:=["thing"])
 obtain⟨a3,fd3,F3⟩:=l3
 have b3:=F3.qf (ps:=["text"])
 obtain⟨a4,fd4,F4⟩:=l4
 have b4:=F4.jX (ps:=["some","many"])
 obtain⟨a5,fd5,F5⟩:=l5
 have b5:=F5.qf (ps:=["dialect"])
 obtain⟨a6,fd6,F6⟩:=l6
 have b6:=F6.jX (ps:=["dialect","state"])
 obtain⟨a7,fd7,F7⟩:=l7
 have b7:=F7.jX (ps:=["dialect","thing"])
 obtain⟨a8,fd8,F8⟩:=l8
 have b8:=F8.nI (ps:=["thing","least","most"])
 have F9:=GW (st:=aZ) l9 c9 k9
 have b9:Binds K (W.fnOf "__init__" "Dialect.__init__" (cX aZ) (cG aZ) (au aZ) (.ref bL) Yz YA YB Yu V0 YC) ["self","parts","quotes","frees","twin","wide","thin","stray"] []:=λs us hK hl=>match us,hl with |[_,_,_,_,_,_,_,_],_=>BindsTo.of_defaults (T:=bL) rfl (hK _ _ d9) rfl rfl rfl
 obtain⟨a10,i10,YG,YH⟩:=ZZ
 have b10:=YH.qf (ps:=["self"])
 obtain⟨Xw,i11,YI,YJ⟩:=l11
 have QO:=YJ.qf (ps:=["self"])
 obtain⟨a12,YK,F12⟩:=l12
 have b12:=F12.qf (ps:=["told"])
 obtain⟨a13,YN,F13⟩:=l13
 have b13:=F13.nI (ps:=["dialect","state","sign"])
 obtain⟨NY,YO,F14⟩:=l14
 have b14:=F14.jX (ps:=["dialect","sign"])
 obtain⟨a15,YQ,F15⟩:=l15
 have b15:=F15.nI (ps:=["dialect","quote","sign"])
 obtain⟨a16,YR,F16⟩:=l16
 have b16:=F16.jX (ps:=["dialect","sign"])
 obtain⟨a17,YS,F17⟩:=l17
 have b17:=F17.nI (ps:=["dialect","quote","sign"])
 obtain⟨a18,YT,F18⟩:=l18
 have NZ:=F18.nI (ps:=["dialect","quote","sign"])
 obtain⟨a19,i19,YU,F19⟩:=l19
 have b19:=F19.jX (ps:=["self","dialect"])
 obtain⟨a20,i20,YV,YW⟩:=l20
 have b20:=YW.nI (ps:=["self","state","sign"])
 obtain⟨N1,i21,YX,YY⟩:=l21
 have b21:=YY.nI (ps:=["self","state","sign"])
 obtain⟨a22,YZ,F22⟩:=l22
 have b22:=F22.qf (ps:=["thing"])
 obtain⟨a23,Y0,F23⟩:=l23
 have b23:=F23.jX (ps:=["dialect","text"])
 obtain⟨Rb,Y3,F24⟩:=l24
 have b24:=F24.qf (ps:=["walked"])
 obtain⟨a25,Y4,F25⟩:=l25
 have b25:=F25.jX (ps:=["text","kinds"])
 obtain⟨Xo,Y5,F26⟩:=l26
 have b26:=F26.jX (ps:=["dialect","text"])
 obtain⟨a27,Y6,F27⟩:=l27
 have b27:=F27.qf (ps:=["dialects"])
 obtain⟨a28,i28,Y7,F28⟩:=l28
 have Ux:=F28.nI (ps:=["self","one","other"])
 obtain⟨Uz,i29,Y8,Y9⟩:=l29
 have b29:=Y9.nI (ps:=["self","pair","sign"])
 obtain⟨a30,Za,F30⟩:=l30
 have b30:=F30.jX (ps:=["steps","known"])
 obtain⟨Uy,i31,Zb,Zc⟩:=l31
 have b31:=Zc.nI (ps:=["self","pair","known"])
 obtain⟨a32,Zd,F32⟩:=l32
 have b32:=F32.nI (ps:=["one","other","thing"])
 obtain⟨a33,Ze,F33⟩:=l33
 have b33:=F33.nI (ps:=["one","other","pairs"])
 obtain⟨Xh,Zf,F34⟩:=l34
 have b34:=F34.nI (ps:=["one","other","text"])
 obtain⟨a35,Zg,F35⟩:=l35
 have b35:=F35.jX (ps:=["kind","sign"])
 obtain⟨Xm,Zh,F36⟩:=l36
 have b36:=F36.nI (ps:=["more","steps","sign"])
 obtain⟨a37,i37,Zi,Zj⟩:=l37
 have b37:=Zj.jX (ps:=["self","place"])
 obtain⟨a38,i38,Zk,Zl⟩:=l38
 have Xi:=Zl.jX (ps:=["self","place"])
 have F39:=GW (st:=eG) l39 c39 k39
 have b39:Binds K (W.fnOf "search" "search" (cX eG) (cG eG) (au eG) (.ref f6) Oa Ob Oc N9 Ma Od) ["first","searched","most"] []:=λs us hK hl=>match us,hl with |[_,_,_],_=>BindsTo.of_defaults (T:=f6) rfl (hK _ _ d39) rfl rfl rfl
 obtain⟨a40,Zm,F40⟩:=l40
 have b40:=F40.jX (ps:=["came","place"])
 obtain⟨Xj,i41,Zn,F41⟩:=l41
 have b41:=F41.nI (ps:=["self","one","other"])
 obtain⟨a42,Zo,F42⟩:=l42
 have b42:=F42.jX (ps:=["one","other"])
 obtain⟨a43,Zp,F43⟩:=l43
 have b43:=F43.jX (ps:=["_law_script","_law_k"])
 obtain⟨a44,Zq,F44⟩:=l44
 have b44:=F44.jX (ps:=["_law_number_here","_law_salt"])
 obtain⟨a45,Zr,F45⟩:=l45
 have b45:=F45.jX (ps:=["_law_cell","_law_salt"])
 obtain⟨Xk,Zs,F46⟩:=l46
 have b46:=F46.nI (ps:=["_law_number_here","_law_many","_law_menu"])
 obtain⟨a47,Zt,F47⟩:=l47
 have b47:=F47.qf (ps:=["_law_way"])
 obtain⟨a48,Zu,F48⟩:=l48
 have b48:=F48.qf (ps:=["_law_cell"])
 obtain⟨Xl,Zv,F49⟩:=l49
 have b49:=F49.qf (ps:=["_law_told_here"])
 obtain⟨a50,Zw,F50⟩:=l50
 have b50:=F50.jX (ps:=["_law_told_here","_law_number_here"])
 obtain⟨a51,Zx,F51⟩:=l51
 have b51:=F51.jX (ps:=["_law_told_here","_law_number_here"])
 obtain⟨a52,Zy,F52⟩:=l52
 have b52:=F52.jX (ps:=["_law_one","_law_other"])
 obtain⟨a53,Zz,F53⟩:=l53
 have b53:=F53.nI (ps:=["_law_one","_law_other","_law_third"])
 have F54:=JW (st:=vD) l54 c54 k54
 have b54:=F54.qf (ps:=["_law_script"])
 have bf0:∃ds,Vals [V.non] ds/\Binds K (W.fnOf "search" "search" (cX eG) (cG eG) (au eG) (.ref f6) Oa Ob Oc N9 Ma Od) ["first","searched","most"] ds:=⟨[.none],(.cons rfl .nil),λs us hK hl=>by
  have hn:us.length=2:=by rw[aao]at hl;simp only[aaF,abj]at hl;omega
  exact match us,hn with |[_,_],_=>BindsTo.of_defaults (T:=f6) rfl (hK _ _ d39) rfl rfl rfl⟩
 exact⟨W.fnOf "law" "law" (cX vD) (cG vD) (au vD) .none Rq Rr Rt Rp Oe Ru,λs v=>.of_eq rfl,λbase _ _=>Ro (ay:=λi=>[ow,jP,Be,L6,Eu,vP,Bf,m7,jt,cF,oz,jQ,sW,iR,m8,pU,pV,m9,sX,nc,vQ,kR,sY,L7,Ew,zc,sZ,vR,jR,oA,ng,ju,Bg,zd,vS,Bh,pW,nh,jS,tD,Bj,jv,Bk,oB,tE,pX,vU,tF,vV,vW,vX,tG,ni,pY,fa,bz,iH,cR,cL,eO,gG,jT,jU,CB,jw,gH,gI,bL,f6].getD i fa) (aL:=λi=>[fd0,fd1,fd2,fd3,fd4,fd5,fd6,fd7,fd8,FN "__init__" "Dialect.__init__" aZ (.ref bL) Yz YA YB Yu V0 YC,YG,YI,YK,YN,YO,YQ,YR,YS,YT,YU,YV,YX,YZ,Y0,Y3,Y4,Y5,Y6,Y7,Y8,Za,Zb,Zd,Ze,Zf,Zg,Zh,Zi,Zk,FN "search" "search" eG (.ref f6) Oa Ob Oc N9 Ma Od,Zm,Zn,Zo,Zp,Zq,Zr,Zs,Zt,Zu,Zv,Zw,Zx,Zy,Zz,FN "law" "law" vD .none Rq Rr Rt Rp Oe Ru].getD i (fd0)) (cA:=λi=>[Gk,dS].getD i "") ⟨F0,b0,mo a0,F1,b1,mo a1,F2,b2,mo a2,F3,b3,mo a3,F4,b4,mo a4,F5,b5,mo a5,F6,b6,mo a6,F7,b7,mo a7,F8,b8,mo a8,F9,b9,YH,b10,⟨a10,i10,YH.kp⟩,YJ,QO,⟨Xw,i11,YJ.kp⟩,F12,b12,mo a12,F13,b13,mo a13,F14,b14,mo NY,F15,b15,mo a15,F16,b16,mo a16,F17,b17,mo a17,F18,NZ,mo a18,F19,b19,YW,b20,⟨a20,i20,YW.kp⟩,YY,b21,⟨N1,i21,YY.kp⟩,F22,b22,mo a22,F23,b23,mo a23,F24,b24,mo Rb,F25,b25,mo a25,F26,b26,mo Xo,F27,b27,mo a27,F28,Ux,Y9,b29,⟨Uz,i29,Y9.kp⟩,F30,b30,mo a30,Zc,b31,⟨Uy,i31,Zc.kp⟩,F32,b32,mo a32,F33,b33,mo a33,F34,b34,mo Xh,F35,b35,mo a35,F36,b36,mo Xm,Zj,b37,⟨a37,i37,Zj.kp⟩,Zl,Xi,⟨a38,i38,Zl.kp⟩,F39,b39,mo Xn,F40,b40,mo a40,F41,b41,F42,b42,mo a42,F43,b43,mo a43,F44,b44,mo a44,F45,b45,mo a45,F46,b46,mo Xk,F47,b47,mo a47,F48,b48,mo a48,F49,b49,mo Xl,F50,b50,mo a50,F51,b51,mo a51,F52,b52,mo a52,F53,b53,mo a53,F54,b54,mo a54,⟨Gp,Gq,Gr,Gs⟩,mo Gm,⟨Gu,a9,i9,Gv⟩,bM,bH,bD,eL,c7,dg,dJ,⟨Oh,Oi,Oj,Ol⟩,mo Og,⟨Om,a19,i19,Oo⟩,bA,⟨Ji,Jj,Jk,Jl⟩,mo Jh,⟨Jm,a28,i28,Jo⟩,gC,fH,eN,⟨Gw,Gx,Gy,Gz⟩,mo Gn,⟨GA,Xj,i41,GB⟩,dh,bf0,mo iI,⟨⟨_,_,_,_,_,_,_,_,_,_,_,_,_,_,iJ⟩,⟨_,_,_,_,_,iK,tH⟩,iL⟩,mo mj,⟨⟨_,_,_,_,_,_,_,_,_,_,_,_,_,_,mq⟩,⟨_,_,_,_,_,mw,zf⟩,mC⟩,mz Va,mz Rx,mz CS,mz Vb,mz Ry,mz z_ord,mz Oq,mz GC,mz Vc,mz Ot,mz Vd,⟨_,mo Rz⟩,RA,⟨_,mo nk⟩,nq,⟨_,mo CU⟩,mo Ov,⟨_,_,_,Ox,rfl,rfl,(by show 2<=sizeLine;decide),(.cons ⟨_,rfl⟩ (.cons ⟨_,rfl⟩ .nil))⟩,mo zg,⟨_,_,_,zj,rfl,rfl,(by show 2<=sizeLine;decide),(.cons rfl (.cons rfl .nil))⟩,⟨_,_,_,tL,rfl,rfl,(by show 0<=sizeLine;decide),.nil⟩,⟨_,_,_,tN,rfl,rfl,(by show 0<=sizeLine;decide),.nil⟩⟩⟩
theorem walk{l:W.OpenLaw}{q:Program}{loose:List Str}{XP:(Str->Option Value)->Heap->Prop}{YP:World->Heap->Prop}{d:DefRec}{K:Params->W.Frag}(hn:l.most=some 63)(hdf:d.params.defaults=[])(hY:∀(w:World)(h:Heap),YP w h->(K w.params).In h)(F:∀(w:World)(mg:Str->Option Value)(fa:Addr)(h:Heap),(K w.params).In h->h.Ns mainGlobals mg->mg d.name=some (.ref fa)->∃fd:FuncData,(∀(s:Shared)(u:Value),BindsTo s fd ⟨[u],[]⟩ [("_law_script",u)])/\∀base:Heap,(K w.params).In base->base.Ns mainGlobals mg->bh l.prog w (K w.params) mg base fE 14 fa fd ["_law_script"] (CA (K w.params))):W.WalkO q loose XP YP l.row.toRowW d [] (λf vs=>PySem.call f vs) :=
 L2.MN (n:=63) (k:=14) (x:="_law_script") (CX:=λ_=>fE) (sp:=λw=>CA (K w.params)) hn (by decide) hdf ⟨rfl,by decide,by decide⟩ hY F (λ_ _ a ns hl _ hS=>⟨a,ns,rfl,hS,hl,λ_=>rfl⟩) λ_ _ _ _ _ z=>z
end My
def PySem.W.Fast.tw13913740947872843275:Unit:=()
def PySem.W.Fast.tw4862134062915017155:Unit:=()
def PySem.W.Fast.tw17006074997802753497:Unit:=()
def PySem.W.Fast.tw14227166119920402299:Unit:=()
def PySem.W.Fast.tw6072972747078187461:Unit:=()
def PySem.W.Fast.tw8216169846691028686:Unit:=()
def PySem.W.Fast.tw14729329734375992265:Unit:=()
def PySem.W.Fast.tw9291378399749597807:Unit:=()
def PySem.W.Fast.tw774339136430768906:Unit:=()
def PySem.W.Fast.tw12580219848069647361:Unit:=()
def PySem.W.Fast.tw10858091489004979986:Unit:=()
def PySem.W.Fast.tw13097076660926269785:Unit:=()
def PySem.W.Fast.tw10718706578460649597:Unit:=()
def PySem.W.Fast.tw7084077662091498545:Unit:=()
def PySem.W.Fast.tw11817047623441784932:Unit:=()
def PySem.W.Fast.tw12420170811892515552:Unit:=()
def PySem.W.Fast.tw12804444871140319495:Unit:=()
def PySem.W.Fast.tw9159763402326694413:Unit:=()
def PySem.W.Fast.tw9787933134871334333:Unit:=()
def PySem.W.Fast.tw3344284423907298736:Unit:=()
def PySem.W.Fast.tw9386566583320319774:Unit:=()
def PySem.W.Fast.tw6922569242208150719:Unit:=()
def PySem.W.Fast.tw18080087771490561619:Unit:=()
def PySem.W.Fast.tw889408177641871122:Unit:=()
def PySem.W.Fast.tw972923778727835180:Unit:=()
def PySem.W.Fast.tw18357569209904047216:Unit:=()
def PySem.W.Fast.tw1394442744686736540:Unit:=()
def PySem.W.Fast.tw8761604102105097969:Unit:=()
def PySem.W.Fast.tw3600965131538218318:Unit:=()
def PySem.W.Fast.tw6522312636766458533:Unit:=()
def PySem.W.Fast.tw13466356722701338765:Unit:=()
def PySem.W.Fast.tw12459272838695600320:Unit:=()
def PySem.W.Fast.tw8233194280499638597:Unit:=()
def PySem.W.Fast.tw6034540457156736929:Unit:=()
def PySem.W.Fast.tw10322854237794723022:Unit:=()
def PySem.W.Fast.tw11087038064534359322:Unit:=()
def PySem.W.Fast.tw2134042366950092171:Unit:=()
def PySem.W.Fast.tw9747504752256560241:Unit:=()
def PySem.W.Fast.tw5131999188776018410:Unit:=()
def PySem.W.Fast.tw17249192634114196239:Unit:=()
def PySem.W.Fast.tw7585965801223736045:Unit:=()
def PySem.W.Fast.tw2935594044532016444:Unit:=()
def PySem.W.Fast.tw1490856013237395507:Unit:=()
def PySem.W.Fast.tw11411745292017585466:Unit:=()
def PySem.W.Fast.tw643415040053463473:Unit:=()
def PySem.W.Fast.tw11376338886318987086:Unit:=()
def PySem.W.Fast.tw821397376303310128:Unit:=()
def PySem.W.Fast.tw7616023714226644112:Unit:=()
def PySem.W.Fast.tw10604404229756581511:Unit:=()
def PySem.W.Fast.tw5606601164040032438:Unit:=()
def PySem.W.Fast.tw5393621601551575076:Unit:=()
def PySem.W.Fast.tw16889869721206415095:Unit:=()
def PySem.W.Fast.tw11982738937704094643:Unit:=()
def PySem.W.Fast.tw871949944480643778:Unit:=()
def PySem.W.Fast.tw18316770978338579059:Unit:=()
def PySem.W.Fast.tw9608710796859409938:Unit:=()
def PySem.W.Fast.tw7013651598008201685:Unit:=()
def PySem.W.Fast.tw4033048019661489905:Unit:=()
def PySem.W.Fast.tw15588936733149718788:Unit:=()
def PySem.W.Fast.tw2702354957517892059:Unit:=()
def PySem.W.Fast.tw11604537519229864491:Unit:=()
def PySem.W.Fast.tw4532519437406357724:Unit:=()
def PySem.W.Fast.tw1681355450544802796:Unit:=()
def PySem.W.Fast.tw7710299814299325748:Unit:=()
def PySem.W.Fast.tw5941879799361151438:Unit:=()
def PySem.W.Fast.tw10803101454278621939:Unit:=()
def PySem.W.Fast.tw13497276643292133261:Unit:=()
def PySem.W.Fast.tw17013881097435595481:Unit:=()
def PySem.W.Fast.tw1928300224266956311:Unit:=()
def PySem.W.Fast.tw10187574552093086671:Unit:=()
def PySem.W.Fast.tw91051165447453496:Unit:=()
def PySem.W.Fast.tw7010004238908539805:Unit:=()
def PySem.W.Fast.tw4113876335617140633:Unit:=()
def PySem.W.Fast.tw4407205797810725218:Unit:=()
def PySem.W.Fast.tw17558143100996408551:Unit:=()
def PySem.W.Fast.tw4213361289520057813:Unit:=()
def PySem.W.Fast.tw5481524431286278332:Unit:=()
def PySem.W.Fast.tw8421277706920166760:Unit:=()
def PySem.W.Fast.tw13907557135489912324:Unit:=()
def PySem.W.Fast.tw8091503331089933229:Unit:=()
def PySem.W.Fast.tw16169859292404576116:Unit:=()
open PySem PySem.W PyProof.Rows
set_option maxRecDepth 100000 in
set_option maxHeartbeats 0 in
theorem PySem.Challenge.cw_dialecthall_k68_whole_three_holds : PySem.Challenge.rw_dialecthall_k68_whole_three.Holds := by
 w_on;o_law;k_head;(case hw=>w_witness2)
 k_fill
 refine My.walk (l:=PySem.Challenge.rw_dialecthall_k68_whole_three) rfl rfl (fun w h Y=>W.kIn_of Y) ?F
 case F =>
  intro w mg fa h KX G hmg
  refine' My.all_mk KX G hmg ?_ ?_ ?_ ?_ ?iI ?mj ?_ ?_ ?_ ?_ ?_ ?_ ?_ ?_ ?_ ?_ ?_ ?_ ?_ ?_ ?_ ?_ ?_ ?_ ?_ ?_ ?_ ?_ ?_ ?_ ?_ ?_ ?_ ?_ ?_ ?_ ?_ ?_ ?_ ?_ ?_ ?_ ?_ ?_ ?_ ?_ ?_ ?_ ?_ ?_ ?_ ?_ ?_ ?_ ?_ ?_ ?_ ?_ ?_ ?_ ?_ ?_ ?_ ?_ ?_ ?_ ?_ ?_ ?_ ?_ ?_ ?_ ?_ ?_ ?_ ?_ ?_ ?_ ?_ ?_ ?_ ?_ ?_ ?_ ?_ ?_ ?_ ?_ ?_ ?_ ?_ ?_ ?_ ?_ ?_ ?_ ?_ ?_ ?_ ?_ ?_ ?_ ?_ ?_ ?_ ?_ ?_ ?_ ?_ ?iJ ?iK ?_ ?iL ?mq ?mw ?_ ?mC ?_ ?_ ?_ ?_ ?_ ?_ ?_ ?_ ?_ ?_ ?_ ?_ ?_ ?_ ?_ ?_ ?_ ?_ ?_ ?_ ?_ ?_
  (case iI=>k_is)
  (case mj=>k_is)
  (case iJ=>k_is)
  (case iK=>k_is)
  (case iL=>k_is)
  (case mq=>k_is)
  (case mw=>k_is)
  (case mC=>k_is)
  all_goals try first | (refine' L2.FQ.of ?a ?l ?c ?k;(case a=>k_is);(case l=>k_is);(case c=>k_is);(case k=>k_is)) | (refine' L2.FV.of ?a ?i ?l ?c ?k;(case a=>k_is);(case i=>k_is);(case l=>k_is);(case c=>k_is);(case k=>k_is)) | (refine' L2.FE.of ?l ?c ?k;(case l=>k_is);(case c=>k_is);(case k=>k_is)) | k_is | rfl
