import PyProof.Rows.All
import Wide.All
import OpenK.AllK
import Wide.FinOn
import Lean
import PyProof.EqAt
import PyProof.EqKinds
import PyProof.TupleCall
import PyProof.JoinWalk
import PyProof.DictIter
import PyProof.SeqI3
import PyProof.WalkInts
import PyProof.DictTruth
import PyProof.ListRange
import PyProof.DictWalks
import PyProof.DictRoadsH
import PySem.Challenge.RW_dialecthall_k43_written_and_read
set_option Elab.async false
set_option linter.all false
set_option maxRecDepth 100000
theorem abb:type_of% @if_neg:=@if_neg
theorem abd:type_of% @PySem.wpAny_bind:=@PySem.wpAny_bind
theorem abe:type_of% @if_pos:=@if_pos
theorem abf:type_of% @Nat.le_refl:=@Nat.le_refl
theorem abg:type_of% @List.length_map:=@List.length_map
theorem abh:type_of% @List.mem_singleton:=@List.mem_singleton
theorem abi:type_of% @List.getElem?_eq_some_iff:=@List.getElem?_eq_some_iff
theorem abj:type_of% @List.length_append:=@List.length_append
theorem abk:type_of% @PySem.Heap.get?_push_of_some:=@PySem.Heap.get?_push_of_some
theorem abl:type_of% @PySem.wpAny_pure:=@PySem.wpAny_pure
theorem abm:type_of% @List.size_toArray:=@List.size_toArray
theorem abn:type_of% @Nat.le_trans:=@Nat.le_trans
theorem abo:type_of% @decide_eq_true:=@decide_eq_true
theorem abp:type_of% @List.mem_append:=@List.mem_append
theorem abq:type_of% @List.mem_of_getElem?:=@List.mem_of_getElem?
theorem abr:type_of% @List.take_of_length_le:=@List.take_of_length_le
theorem abt:type_of% @Array.length_toList:=@Array.length_toList
theorem abu:type_of% @PySem.Heap.lt_size:=@PySem.Heap.lt_size
theorem abv:type_of% @Bool.false_ne_true:=@Bool.false_ne_true
theorem abw:type_of% @List.mem_cons:=@List.mem_cons
theorem abx:type_of% @List.map_append:=@List.map_append
theorem aby:type_of% @List.getElem?_eq_getElem:=@List.getElem?_eq_getElem
theorem abz:type_of% @Nat.lt_of_le_of_lt:=@Nat.lt_of_le_of_lt
theorem abA:type_of% @Nat.lt_of_lt_of_le:=@Nat.lt_of_lt_of_le
theorem abB:type_of% @decide_eq_false:=@decide_eq_false
theorem abC:type_of% @List.mem_cons_of_mem:=@List.mem_cons_of_mem
theorem abD:type_of% @List.mem_append_right:=@List.mem_append_right
theorem abE:type_of% @PySem.Heap.get?_push_size:=@PySem.Heap.get?_push_size
theorem abF:type_of% @of_decide_eq_true:=@of_decide_eq_true
theorem abG:type_of% @List.length_cons:=@List.length_cons
theorem abH:type_of% @Option.some.inj:=@Option.some.inj
theorem abI:type_of% @List.append_nil:=@List.append_nil
theorem abJ:type_of% @List.append_assoc:=@List.append_assoc
theorem abK:type_of% @Nat.ne_of_lt:=@Nat.ne_of_lt
theorem abL:type_of% @PySem.PassesOwn.never:=@PySem.PassesOwn.never
theorem abM:type_of% @List.length_take:=@List.length_take
theorem abN:type_of% @List.mem_cons_self:=@List.mem_cons_self
theorem abO:type_of% @Nat.zero_le:=@Nat.zero_le
theorem abP:type_of% @List.foldl_append:=@List.foldl_append
theorem abQ:type_of% @PySem.F.plainAttrs_list:=@PySem.F.plainAttrs_list
theorem abR:type_of% @List.mem_map:=@List.mem_map
theorem abS:type_of% @PySem.mem_of_lookup:=@PySem.mem_of_lookup
theorem abT:type_of% @List.map_cons:=@List.map_cons
theorem abU:type_of% @PySem.F.slot_list_append:=@PySem.F.slot_list_append
theorem abV:type_of% @PySem.F.type_list_append:=@PySem.F.type_list_append
theorem abW:type_of% @Bool.false_eq_true:=@Bool.false_eq_true
theorem abX:type_of% @PySem.Heap.get?_update_other:=@PySem.Heap.get?_update_other
theorem abY:type_of% @List.all_eq_true:=@List.all_eq_true
theorem abZ:type_of% @List.getElem?_map:=@List.getElem?_map
theorem ab0:type_of% @List.mem_append_left:=@List.mem_append_left
theorem ab1:type_of% @PySem.wpAny_mono:=@PySem.wpAny_mono
theorem ab2:type_of% @PySem.Obj.data_mapFields:=@PySem.Obj.data_mapFields
theorem ab3:type_of% @Int.emod_lt_of_pos:=@Int.emod_lt_of_pos
theorem ab4:type_of% @List.sum_cons:=@List.sum_cons
theorem ab5:type_of% @Option.map_some:=@Option.map_some
theorem ab6:type_of% @List.foldl_cons:=@List.foldl_cons
theorem ab7:type_of% @PySem.F.slot_dict_keyiterator_next:=@PySem.F.slot_dict_keyiterator_next
theorem ab8:type_of% @PySem.Paired.length:=@PySem.Paired.length
theorem ab9:type_of% @Ne.symm:=@Ne.symm
theorem acd:type_of% @List.length_replicate:=@List.length_replicate
theorem ace:type_of% @Int.emod_nonneg:=@Int.emod_nonneg
theorem acf:type_of% @Bool.and_eq_true_iff:=@Bool.and_eq_true_iff
theorem acg:type_of% @List.getElem?_eq_none:=@List.getElem?_eq_none
theorem ach:type_of% @PySem.Obj.isFreed_of_fields:=@PySem.Obj.isFreed_of_fields
theorem aci:type_of% @PySem.wpAny_Call_Name_kw:=@PySem.wpAny_Call_Name_kw
theorem acj:type_of% @List.lookup_cons:=@List.lookup_cons
theorem ack:type_of% @PySem.Heap.size_push:=@PySem.Heap.size_push
theorem acm:type_of% @if_false:=@if_false
theorem acn:type_of% @List.length_nil:=@List.length_nil
theorem aco:type_of% @List.filterMap_cons:=@List.filterMap_cons
theorem acp:type_of% @Nat.lt_irrefl:=@Nat.lt_irrefl
theorem acq:type_of% @Array.getElem?_eq_some_iff:=@Array.getElem?_eq_some_iff
theorem acr:type_of% @List.mem_flatMap:=@List.mem_flatMap
theorem acs:type_of% @List.mem_filterMap:=@List.mem_filterMap
theorem acu:type_of% @PySem.Heap.get?_update_self:=@PySem.Heap.get?_update_self
theorem acv:type_of% @Array.getElem?_setIfInBounds_ne:=@Array.getElem?_setIfInBounds_ne
theorem acw:type_of% @PySem.Heap.get?_none_of_le:=@PySem.Heap.get?_none_of_le
theorem acy:type_of% @Bool.eq_iff_iff:=@Bool.eq_iff_iff
theorem acz:type_of% @PySem.wpAny_specialOf:=@PySem.wpAny_specialOf
theorem acA:type_of% @List.sum_append:=@List.sum_append
theorem acB:type_of% @List.find?_cons:=@List.find?_cons
theorem acC:type_of% @List.nil_append:=@List.nil_append
theorem acD:type_of% @PySem.wpAny_newObj_type:=@PySem.wpAny_newObj_type
theorem acE:type_of% @PySem.wpAny_loadPart_at:=@PySem.wpAny_loadPart_at
theorem acF:type_of% @PySem.W.kia_one:=@PySem.W.kia_one
theorem acG:type_of% @PyProof.Rows.callWith_type1:=@PyProof.Rows.callWith_type1
theorem acH:type_of% @List.contains_cons:=@List.contains_cons
theorem acI:type_of% @PySem.wpAny_passesOwn:=@PySem.wpAny_passesOwn
theorem acJ:type_of% @List.getElem?_append_right:=@List.getElem?_append_right
theorem acK:type_of% @List.getD_eq_getElem?_getD:=@List.getD_eq_getElem?_getD
theorem acL:type_of% @Int.toNat_natCast:=@Int.toNat_natCast
theorem acM:type_of% @List.length_range:=@List.length_range
theorem acN:type_of% @Nat.le_of_lt:=@Nat.le_of_lt
theorem acO:type_of% @Nat.lt_succ_self:=@Nat.lt_succ_self
theorem acP:type_of% @Bool.and_eq_true:=@Bool.and_eq_true
theorem acQ:type_of% @beq_eq_false_iff_ne:=@beq_eq_false_iff_ne
theorem acR:type_of% @List.any_cons:=@List.any_cons
theorem O{α:Sort _}{a:α}:a=a:=rfl
namespace L2
open PySem PySem.Spec PyProof.Rows
abbrev Key:=Sum Int Str
def u7:Key->Value->Bool
 | .inl k,v=>Value.isInt k v
 | .inr x,v=>Value.isStrOf x v
def Sw(w:World):Key->Int
 | .inl k=>hashInt k
 | .inr x=>hashStr w x
theorem cM:∀{k:Key}{v:Value},u7 k v=true->(∃i t,k=Sum.inl i/\v=Value.int i t)\/(∃x t,k=Sum.inr x/\v=Value.str x t)
 | .inl i,v,h=>by
  obtain⟨t,e⟩:=Value.isInt_shape (k:=i) (v:=v) h
  exact .inl ⟨i,t,rfl,e⟩
 | .inr x,v,h=>by
  obtain⟨t,e⟩:=Value.isStrOf_shape (x:=x) (v:=v) h
  exact .inr ⟨x,t,rfl,e⟩
theorem HN(i:Int)(t:Tok):u7 (.inl i) (.int i t)=true:=by simp[u7,Value.isInt]
theorem HP(x:Str)(t:Tok):u7 (.inr x) (.str x t)=true:=by simp[u7,Value.isStrOf]
theorem JS(a b:Int):decide ((Sum.inl a:Key)=Sum.inl b)=(a==b):=by
 by_cases e:a=b
 ·subst e;simp
 ·have h:¬(Sum.inl a:Key)=Sum.inl b:=λq=>e (Sum.inl.inj q)
  rw[abB h]
  exact(acQ.mpr e).symm
theorem JT(a b:Str):decide ((Sum.inr a:Key)=Sum.inr b)=decide (a=b):=by
 by_cases e:a=b
 ·subst e;simp
 ·have h:¬(Sum.inr a:Key)=Sum.inr b:=λq=>e (Sum.inr.inj q)
  rw[abB h,abB e]
theorem JU(a:Int)(b:Str):decide ((Sum.inl a:Key)=Sum.inr b)=false:=abB (λq=>nomatch q)
theorem JV(a:Str)(b:Int):decide ((Sum.inr a:Key)=Sum.inl b)=false:=abB (λq=>nomatch q)
def lO(prog:Program)(w:World):PySem.KeyKind prog w Key where
 is:=u7
 hash:=Sw w
 inj:=λv a b ha hb=>by
  rcases cM ha with ⟨i,t,rfl,rfl⟩|⟨x,t,rfl,rfl⟩
  ·rcases cM hb with ⟨j,u,rfl,e⟩|⟨y,u,rfl,e⟩
   ·injection e with e1 _;rw[e1]
   ·exact nomatch e
  ·rcases cM hb with ⟨j,u,rfl,e⟩|⟨y,u,rfl,e⟩
   ·exact nomatch e
   ·injection e with e1 _;rw[e1]
 byValue:=λk v h=>by
  rcases cM h with ⟨i,t,rfl,rfl⟩|⟨x,t,rfl,rfl⟩<;>rfl
 pyHash:=λhv h=>by
  rcases cM hv with ⟨i,t,rfl,rfl⟩|⟨x,t,rfl,rfl⟩
  ·exact wpAny_pyHash_int h
  ·exact wpAny_pyHash_str h
 eqBool:=λhu hv h=>by
  rcases cM hu with ⟨i,t,rfl,rfl⟩|⟨x,t,rfl,rfl⟩
  ·rcases cM hv with ⟨j,u,rfl,rfl⟩|⟨y,u,rfl,rfl⟩
   ·rw[JS]at h;exact wpAny_eqBool_int h
   ·rw[JU]at h;exact SeqAt.EqAt.int_str i t y u _ _ _ _ h
  ·rcases cM hv with ⟨j,u,rfl,rfl⟩|⟨y,u,rfl,rfl⟩
   ·rw[JV]at h;exact SeqAt.EqAt.str_int x t j u _ _ _ _ h
   ·rw[JT]at h;exact wpAny_eqBool_str h
 «strs» := λk x t v h=>by
  rcases cM h with ⟨i,u,rfl,e⟩|⟨y,u,rfl,e⟩
  ·exact nomatch e
  ·injection e with e1 _
   subst e1
   cases v<;>rfl
theorem Dy(prog:Program)(w:World)(i:Int)(t:Tok):(lO prog w).is (.inl i) (.int i t)=true:=HN i t
theorem Dz(prog:Program)(w:World)(x:Str)(t:Tok):(lO prog w).is (.inr x) (.str x t)=true:=HP x t
inductive V where
 |non|bl (b:Bool)|int (i:Int)|str (x:Str)|JH (b:Array UInt8)|kL (b:UInt64)|ref (a:Addr)|ty (n:String)
 deriving DecidableEq
def RelV:V->Value->Prop
 | .non,u=>u=Value.none
 | .bl b,u=>u=Value.bool b
 | .int i,u=>∃t,u=Value.int i t
 | .str x,u=>∃t,u=Value.str x t
 | .JH b,u=>∃t,u=Value.bytes b t
 | .kL b,u=>∃t,u=Value.float b t
 | .ref a,u=>u=Value.ref a
 | .ty n,u=>u=Value.type n
abbrev Vals:List V->List Value->Prop:=Paired RelV
theorem Vals.length{xs:List V}{us:List Value}(r:Vals xs us):xs.length=us.length:=ab8 r
theorem Vals.get:∀{xs:List V}{us:List Value}{i:Nat}{x:V},Vals xs us->xs[i]?=some x->∃u,us[i]?=some u/\RelV x u
 |_,_,_,_,.nil,e=>by simp at e
 |_,_,0,_,.cons r _,e=>by simp at e;subst e;exact⟨_,rfl,r⟩
 |_,_,i+1,x,.cons _ t,e=>by
  obtain⟨u,h1,h2⟩:=Vals.get (i:=i) (x:=x) t (by simpa using e)
  exact⟨u,by simpa using h1,h2⟩
theorem Vals.append:∀{xs ys:List V}{us ws:List Value},Vals xs us->Vals ys ws->Vals (xs++ys) (us++ws)
 |_,_,_,_,.nil,s=>s
 |_,_,_,_,.cons r t,s=>.cons r (Vals.append t s)
theorem Vals.take:∀{xs:List V}{us:List Value}(n:Nat),Vals xs us->Vals (xs.take n) (us.take n)
 |_,_,0,_=>.nil
 |_,_,_+1,.nil=>.nil
 |_,_,n+1,.cons r t=>.cons r (Vals.take n t)
theorem Vals.drop:∀{xs:List V}{us:List Value}(n:Nat),Vals xs us->Vals (xs.drop n) (us.drop n)
 |_,_,0,r=>r
 |_,_,_+1,.nil=>.nil
 |_,_,n+1,.cons _ t=>Vals.drop n t
def lP:Option V->Option Value->Prop
 |some v,some u=>RelV v u
 |none,none=>True
 |_,_=>False
def KV{κ:Type}:List (κ×V)->List (κ×Value)->Prop:=Paired λ(p:κ×V)(q:κ×Value)=>p.1=q.1/\RelV p.2 q.2
def kV:Key->V
 | .inl i=>.int i
 | .inr x=>.str x
inductive HO where
 |lst (xs:List V)
 |tup (xs:List V)
 |dK (kvs:List (Key×V))|dT (kvs:List (List Key×V))
 |set (S:Int->Bool) (n:Nat)
 |ins (C dx:Addr) (fs:List (Str×V))
 |own (x:Addr)
 |xd (fs:List (Str×V))
 |met (f x:Addr)
 |Vv (lo hi:Int)
 |E1 (o:Obj) (u:HO)
 |OW (ps:Array Value)
 |ext (φ:Heap->Prop)
abbrev Hp:=Addr->Option HO
def upd(H:Hp)(a:Addr)(o:HO):Hp:=λb=>if b=a then some o else H b
theorem aj{H:Hp}{a:Addr}{o:HO}:upd H a o a=some o:=by unfold upd;rw[abe rfl]
theorem aD{H:Hp}{a b:Addr}{o:HO}(h:b≠a):upd H a o b=H b:=by unfold upd;rw[abb h]
theorem ji{H:Hp}{a b:Addr}{o u:HO}(h:H a=some o)(h':H b=some u)(d:o≠u):a≠b:=by
 intro e;subst e;rw[h]at h';exact d (abH h')
theorem aN{H:Hp}{a b:Addr}{o:HO}(h:H a=some o)(h':H b=none):a≠b:=by
 intro e;subst e;rw[h]at h';cases h'
section
variable(P:Program)(w:World)
def cW(H:Hp)(h:Heap)(a:Addr):HO->Prop
 | .lst xs=>xs.length<=sizeLine/\∃(its:List Value)(n:Nat),Vals xs its/\h.get? a=some {cls:=.type "list",data:=.seq its.toArray n}
 | .tup xs=>xs.length<=sizeLine/\∃its:List Value,Vals xs its/\IsTup h a its.toArray
 | .dK kvs=>kvs.length<=sizeLine/\(a==sysModules)=false/\∃vs,KV kvs vs/\h.DictOf (lO P w) a vs
 | .dT kvs=>kvs.length<=sizeLine/\(a==sysModules)=false/\∃xs:List (List Key×Addr×Value),Paired (λ(p:List Key×V)(q:List Key×Addr×Value)=>p.1=q.1/\H q.2.1=some (.tup (p.1.map kV))/\RelV p.2 q.2.2) kvs xs/\∃o es ep,h.get? a=some o/\o.ExactDict/\o.data=.dict es ep/\es.toList=xs.map (entryOfKey (tupleKind (lO P w)))/\(xs.map (·.1)).Nodup
 | .set S n=>h.SetOf (intKind P w) a S n
 | .ins C dx fs=>H dx=some (.own a)/\fs.length<=1000/\dx≠a/\h.get? a=some (W.instObj C dx)/\∃mA,h.Ns1 dx mA/\(∀f,lP (fs.lookup f) (mA f))/\PySem.Within mA (fs.map (·.1))
 | .own _=>∃o,h.get? a=some o
 | .xd fs=>∃mA,h.Ns1 a mA/\∀f,lP (fs.lookup f) (mA f)
 | .Vv lo hi=>∃t u v,h.get? a=some {cls:=.type "range",data:=.fields #[.int lo t,.int hi u,.int 1 v]}
 | .E1 o u=>h.get? a=some o/\cW H h a u
 | .OW ps=>h.get? a=some {cls:=.none,data:=.fields ps}
 | .met f x=>h.get? a=some (W.methodObj (.ref f) (.ref x))
 | .ext φ=>φ h/\(∃o,h.get? a=some o)/\∀h1 h2:Heap,φ h1->(∀o,h1.get? a=some o->h2.get? a=some o)->φ h2
def tS(H:Hp)(h:Heap):Prop:=∀a o,H a=some o->cW P w H h a o
end
section
variable{P:Program}{w:World}{H H':Hp}{h h':Heap}{a:Addr}{o:HO}
theorem cW.lt(x:cW P w H h a o):a<h.objs.size:=by
 cases o with
 |lst xs=>obtain⟨_,_,_,_,e⟩:=x;exact abu e
 |tup xs=>obtain⟨_,_,_,p⟩:=x;exact p.lt
 |dK kvs=>obtain⟨_,_,_,_,o,_,_,e,_⟩:=x;exact abu e
 |dT kvs=>obtain⟨_,_,_,_,o,_,_,e,_⟩:=x;exact abu e
 |set S n=>obtain⟨o,_,_,_,e,_⟩:=x;exact abu e
 |ins C dx fs=>obtain⟨_,_,_,e,_⟩:=x;exact abu e
 |own y=>obtain⟨_,e⟩:=x;exact abu e
 |xd fs=>obtain⟨_,⟨_,_,_,e,_⟩,_⟩:=x;exact abu e
 |Vv lo hi=>obtain⟨_,_,_,e⟩:=x;exact abu e
 |E1 ob u=>obtain⟨e,_⟩:=x;exact abu e
 |OW ps=>exact abu (show h.get? a=some _ from x)
 |met f y=>exact abu (show h.get? a=some _ from x)
 |ext φ=>obtain⟨_,⟨_,e⟩,_⟩:=x;exact abu e
theorem Paired.HQ{α β:Type}{F G:α->β->Prop}:∀{l₁:List α}{l₂:List β},Paired F l₁ l₂->(∀a b,F a b->G a b)->Paired G l₁ l₂
 |_,_,.nil,_=>.nil
 |_,_,.cons r t,f=>.cons (f _ _ r) (Paired.HQ t f)
theorem cW.stay(x:cW P w H h a o)(k:∀b u,(b=a\/H b=some (.own a))->h.get? b=some u->h'.get? b=some u)(ho:∀b,H b=some (.own a)->H' b=some (.own a))(ht:∀b xs,H b=some (.tup xs)->H' b=some (.tup xs)):cW P w H' h' a o:=by
 induction o with
 |lst xs=>obtain⟨z,its,n,r,e⟩:=x;exact⟨z,its,n,r,k _ _ (.inl rfl) e⟩
 |tup xs=>obtain⟨z,its,r,ob,e,c⟩:=x;exact⟨z,its,r,ob,k _ _ (.inl rfl) e,c⟩
 |dK kvs=>obtain⟨z,y,vs,r,ob,es,ep,e,c⟩:=x;exact⟨z,y,vs,r,ob,es,ep,k _ _ (.inl rfl) e,c⟩
 |dT kvs =>
  obtain⟨z,y,xs,r,ob,es,ep,e,c⟩:=x
  exact⟨z,y,xs,Paired.HQ r λp q z=>⟨z.1,ht _ _ z.2.1,z.2.2⟩,ob,es,ep,k _ _ (.inl rfl) e,c⟩
 |set S n=>obtain⟨ob,es,ep,t,e,c⟩:=x;exact⟨ob,es,ep,t,k _ _ (.inl rfl) e,c⟩
 |ins C dx fs =>
  obtain⟨d,z,ne,e,mA,⟨od,es,ep,e2,c⟩,r⟩:=x
  exact⟨ho _ d,z,ne,k _ _ (.inl rfl) e,mA,⟨od,es,ep,k _ _ (.inr d) e2,c⟩,r⟩
 |own y=>obtain⟨ob,e⟩:=x;exact⟨ob,k _ _ (.inl rfl) e⟩
 |xd fs=>obtain⟨mA,⟨od,es,ep,e,c⟩,r⟩:=x;exact⟨mA,⟨od,es,ep,k _ _ (.inl rfl) e,c⟩,r⟩
 |Vv lo hi=>obtain⟨t,u,v,e⟩:=x;exact⟨t,u,v,k _ _ (.inl rfl) e⟩
 |E1 ob u ih=>obtain⟨e,q⟩:=x;exact⟨k _ _ (.inl rfl) e,ih q⟩
 |OW ps =>
  have e:h.get? a=some {cls:=.none,data:=.fields ps}:=x
  show h'.get? a=some {cls:=.none,data:=.fields ps}
  exact k a _ (.inl rfl) e
 |met f y =>
  have e:h.get? a=some (W.methodObj (.ref f) (.ref y)):=x
  show h'.get? a=some (W.methodObj (.ref f) (.ref y))
  exact k a _ (.inl rfl) e
 |ext φ=>obtain⟨p,⟨o,e⟩,st⟩:=x;exact⟨st _ _ p λo q=>k _ _ (.inl rfl) q,⟨o,k _ _ (.inl rfl) e⟩,st⟩
theorem tS.lt(x:tS P w H h)(e:H a=some o):a<h.objs.size:=(x a o e).lt
theorem tS.fresh(x:tS P w H h)(e:h.objs.size<=a):H a=none:=by
 cases q:H a with
 |none=>rfl
 |some u=>exact absurd (abA (x.lt q) e) (acp _)
theorem tS.kept(x:tS P w H h)(k:∀b u,h.get? b=some u->h'.get? b=some u):tS P w H h':=λa o e =>
 (x a o e).stay (λb u _ q=>k b u q) (λ_ q=>q) λ_ _ q=>q
theorem tS.laid(x:tS P w H h)(k:∀b u,h.get? b=some u->h'.get? b=some u)(hp:h.objs.size<=a)(new:cW P w (upd H a o) h' a o):tS P w (upd H a o) h':=λb u e=>by
 have hn:=x.fresh hp
 by_cases hb:b=a
 ·subst hb;rw[aj]at e;cases e;exact new
 ·rw[aD hb]at e
  exact(x b u e).stay (λc v _ q=>k c v q) (λc q=>by rw[aD (aN q hn)];exact q) λc xs q=>by rw[aD (aN q hn)];exact q
end
def Rd(H:Hp)(a:Addr)(u:HO):Prop:=H a=some u\/∃o,H a=some (.E1 o u)
theorem Rd.ok{P:Program}{w:World}{H:Hp}{h:Heap}{a:Addr}{u:HO}(r:Rd H a u)(x:tS P w H h):cW P w H h a u:=by
 rcases r with r|⟨o,r⟩
 ·exact x a u r
 ·obtain⟨_,q⟩:=x a _ r
  exact q
def Vw:Option HO->Prop
 |some (.lst _)=>True
 |some (.dK _)=>True
 |some (.dT _)=>True
 |some (.set _ _)=>True
 |some (.ins _ _ _)=>True
 |some (.ext _)=>True
 |_=>False
section
variable{P:Program}{w:World}{H:Hp}{h h':Heap}{x e:Addr}{o':HO}
theorem tS.write(ok:tS P w H h)(mu:Vw (H x))(he:e=x\/H e=some (.own x))(k:∀b u,b≠e->h.get? b=some u->h'.get? b=some u)(OX:∃u,h'.get? e=some u)(new:cW P w (upd H x o') h' x o'):tS P w (upd H x o') h':=λb u q=>by
 have Sx:∀c y,H c=some (.own y)->c≠x:=λc y r z=>by subst z;rw[r]at mu;exact mu
 have V3:∀c xs,H c=some (.tup xs)->c≠x:=λc xs r z=>by subst z;rw[r]at mu;exact mu
 by_cases hb:b=x
 ·subst hb;rw[aj]at q;cases q;exact new
 ·rw[aD hb]at q
  by_cases Py:b=e
  ·have q':H b=some (.own x):=by
    rcases he with z|z
    ·exact absurd (Py.trans z) hb
    ·rw[Py];exact z
   rw[q]at q';cases q'
   obtain⟨v,hv⟩:=OX
   exact⟨v,by rw[Py];exact hv⟩
  ·refine(ok b u q).stay (λc v hc r=>k c v ?_ r) (λc r=>by rw[aD (Sx c b r)];exact r) λc xs r=>by rw[aD (V3 c xs r)];exact r
   rcases hc with rfl|hc
   ·exact Py
   ·rintro rfl
    rcases he with z|z
    ·exact Sx c b hc z
    ·rw[hc]at z;cases z;exact hb rfl
end
structure Un(fs ex:List Addr)(H H':Hp)(h h':Heap):Prop where
 keep:∀b o,h.get? b=some o->H b=none->b∉fs->b∉ex->h'.get? b=some o
 slot:∀b o,h.get? b=some o->H b=none->b∈fs->b∉ex->∃sl,h'.get? b=some {o with slots:=sl}
 free:∀b o,h.get? b=some o->H b=none->b∉ex->H' b=none
 there:∀b o,h.get? b=some o->b∉ex->∃o',h'.get? b=some o'
 tups:∀b xs,H b=some (.tup xs)->H' b=some (.tup xs)
 tU:∀b o u,H b=some (.E1 o u)->H' b=some (.E1 o u)
 vU:∀b ps,H b=some (.OW ps)->∃more,H' b=some (.OW (ps++more))
section
variable{fs fs' ex ex':List Addr}{H H1 H2:Hp}{h h1 h2 h':Heap}{a x e:Addr}{o:HO}
theorem Un.any(u:Un fs ex H H1 h h1){b:Addr}{ob:Obj}(q:h.get? b=some ob)(n:H b=none)(hx:b∉ex):∃sl,h1.get? b=some {ob with slots:=sl}:=by
 by_cases hb:b∈fs
 ·exact u.slot b ob q n hb hx
 ·exact⟨ob.slots,u.keep b ob q n hb hx⟩
theorem Un.kept(k:∀b u,h.get? b=some u->h'.get? b=some u):Un fs ex H H h h' :=
 ⟨λb ob q _ _ _=>k b ob q,λb ob q _ _ _=>⟨ob.slots,k b ob q⟩,λ_ _ _ n _=>n,λb ob q _=>⟨ob,k b ob q⟩,λ_ _ q=>q,λ_ _ _ q=>q,λ_ ps q=>⟨#[],by rw[q];simp⟩⟩
theorem Un.refl:Un fs ex H H h h:=Un.kept λ_ _ q=>q
theorem Un.laid(k:∀b u,h.get? b=some u->h'.get? b=some u)(hp:h.objs.size<=a)(hn:H a=none):Un fs ex H (upd H a o) h h' where
 keep:=λb u q _ _ _=>k b u q
 slot:=λb u q _ _ _=>⟨u.slots,k b u q⟩
 free:=λb u q n _=>by rw[aD (abK (abA (abu q) hp))];exact n
 there:=λb u q _=>⟨u,k b u q⟩
 tups:=λb xs q=>by rw[aD (aN q hn)];exact q
 tU:=λb u xs q=>by rw[aD (aN q hn)];exact q
 vU:=λb ps q=>⟨#[],by rw[aD (aN q hn),q];simp⟩
theorem Un.write(mu:Vw (H x))(he:e=x\/H e=some (.own x))(k:∀b u,b≠e->h.get? b=some u->h'.get? b=some u)(OX:∃u,h'.get? e=some u):Un fs ex H (upd H x o) h h':=by
 have hx:∀b,H b=none->b≠x:=λb n z=>by subst z;rw[n]at mu;exact mu
 have hb:∀b,H b=none->b≠e:=λb n z=>by
  subst z
  rcases he with r|r
  ·exact hx b n r
  ·rw[n]at r;cases r
 have hm:∀b u,H b=some u->¬Vw (some u)->b≠x:=λb u q nm z=>by subst z;rw[q]at mu;exact nm mu
 refine⟨λb u q n _ _=>k b u (hb b n) q,λb u q n _ _=>⟨u.slots,k b u (hb b n) q⟩,λb u q n _=>by rw[aD (hx b n)];exact n,λb u q _=>?_,λb xs q=>by rw[aD (hm b _ q λz=>z)];exact q,λb u xs q=>by rw[aD (hm b _ q λz=>z)];exact q,λb ps q=>⟨#[],by rw[aD (hm b _ q λz=>z),q];simp⟩⟩
 by_cases Py:b=e
 ·subst Py;exact OX
 ·exact⟨u,k b u Py q⟩
end
def Vx(h:Heap)(H:Hp):List Addr:=(List.range h.objs.size).filter λa=>(H a).isSome
def BC(h:Heap)(H:Hp):Heap:=W.hideAll h (Vx h H)
theorem HR(h:Heap)(H:Hp):(BC h H).objs.size=h.objs.size:=W.hideAll_size _ _
theorem JW{h:Heap}{H:Hp}{b:Addr}{o:Obj}(e:h.get? b=some o)(n:H b=none):(BC h H).get? b=some o :=
 W.hideAll_get _ e λhm=>by
  have q:(H b).isSome=true:=(List.mem_filter.mp hm).2
  rw[n]at q;simp at q
theorem MJ{h:Heap}{H:Hp}{b:Addr}{o:Obj}(e:(BC h H).get? b=some o):h.get? b=some o/\H b=none:=by
 have e':h.get? b=some o:=W.of_hideAll (Vx h H) e
 refine⟨e',?_⟩
 cases q:H b with
 |none=>rfl
 |some x =>
  have hm:b∈Vx h H:=List.mem_filter.mpr ⟨List.mem_range.mpr (abu e'),by simp[q]⟩
  have z:(BC h H).get? b=none:=W.hideAll_none (Vx h H) hm
  rw[z]at e;cases e
def MK(g h:Heap)(L:Addr):List (Addr×Obj):=(List.range h.objs.size).filterMap λa=>if a=L\/(g.get? a).isSome=true then none else (h.get? a).map λo=>(a,o)
def rest(g h:Heap)(L d:Addr):List (Addr×Obj):=(MK g h L).filter λp=>decide (p.1≠d)
structure Mod(K:W.Frag)(mg:Str->Option Value)(base:Heap):Prop where
 jr:K.In base
 glob:base.Ns mainGlobals mg
 blt:∃mb,base.Ns builtinsNs mb/\∀x:Str,x ≠ "__name__"->mb x=bootBuiltins x
 nolimit:base.NoLimit
structure Cx where
 prog:Program
 w:World
 K:W.Frag
 mg:Str->Option Value
 base:Heap
 A:Around
 N:List Str
 s₀:Shared
 H₀:Hp
 env:Env
 outer:List Env
 stack:List Env
 ex:List Addr
 fn:Str->Bool
 calm:Bool
 pn:List (Addr×Obj)
 xe:Value->Shared->Prop
def frs(l:List Env):List Addr:=l.filterMap (·.frame)
abbrev Cx.fs(X:Cx):List Addr:=frs X.outer
def V4(sc:Scope)(x:Str):Prop:=sc.names.lookup x=some .local\/sc.names.lookup x=some .cell\/sc.names.lookup x=some .free
def Loc(sc:Scope)(x:Str):Prop:=sc.names.lookup x=some .local\/sc.names.lookup x=some .cell
def Look(env:Env)(h:Heap)(m:Str->Option Value)(x:Str)(u:Value):Prop :=
 (env.kindOf x=some .local/\m x=some u)\/((env.kindOf x=some .cell\/env.kindOf x=some .free)/\∃c,env.cells.lookup x=some c/\h.IsCell c (some u))
structure Cx.Ok(X:Cx):Prop where
 mod:Mod X.K X.mg X.base
 kind:X.env.scope.kind=.function
 glob:X.env.globals=mainGlobals
 blt:X.env.builtins=builtinsNs
 above:X.s₀.heap.objs.size<=X.env.locals
 inj:∀x y c,X.env.cells.lookup x=some c->X.env.cells.lookup y=some c->x=y
 has:∀x,(X.env.kindOf x=some .cell\/X.env.kindOf x=some .free)->∃c,X.env.cells.lookup x=some c
 RY:∀x c,X.fn x=true->X.env.cells.lookup x=some c->X.s₀.heap.objs.size<=c
 hd:X.calm=true->X.A.handled=none
 frames:X.A.frames=some X.stack
 stk:X.stack=X.outer\/(X.stack=X.env::X.outer/\X.env.frame=some X.env.locals)
 V5:∀b∈X.ex,b≠X.env.locals/\∀x c,X.env.cells.lookup x=some c->c≠b
 bs:∀b o,X.base.get? b=some o->X.s₀.heap.get? b=some o/\X.H₀ b=none
 JI:X.base.objs.size<=X.s₀.heap.objs.size
 E2:∀b o,X.base.get? b=some o->b∉X.ex
 JX:∀b∈X.ex,b∉X.fs
 tV:X.s₀.heap.FunFrames X.base X.outer
 OY:∀b∈X.fs,X.H₀ b=none
structure Inv(X:Cx)(pins:List (Addr×Obj))(σ:List (Option V))(H:Hp)(s:Shared):Prop where
 ok:X.Ok
 os:s.os=X.s₀.os
 bare:AllBare s.gens
 base:Un X.fs X.ex X.H₀ H X.s₀.heap s.heap
 loc:∃m,s.heap.Ns X.env.locals m/\∀(i:Nat)(x:Str)(v:V),X.N[i]?=some x->σ[i]?=some (some v)->V4 X.env.scope x->∃u,RelV v u/\Look X.env s.heap m x u
 cell:∀x c,X.env.cells.lookup x=some c->∃v,s.heap.IsCell c v
 free:H X.env.locals=none
 iQ:∀x c,X.env.cells.lookup x=some c->H c=none
 pin:∀p∈X.pn++pins,s.heap.get? p.1=some p.2/\H p.1=none/\p.1≠X.env.locals/\p.1∉X.fs/\∀v,p.2.data≠.cell v
 hok:tS X.prog X.w H s.heap
 len:σ.length=X.N.length
section
variable{X:Cx}{pins:List (Addr×Obj)}{σ:List (Option V)}{H H':Hp}{s:Shared}{h':Heap}
theorem Cx.Ok.V6(ok:X.Ok){b:Addr}{o:Obj}(e:X.base.get? b=some o):b∉X.fs:=λhb=>by
 have:=(ok.tV.mem hb).1
 rw[e]at this;cases this
theorem Inv.bs(I:Inv X pins σ H s):∀b o,X.base.get? b=some o->s.heap.get? b=some o/\H b=none:=λb o e =>
 ⟨I.base.keep b o (I.ok.bs b o e).1 (I.ok.bs b o e).2 (I.ok.V6 e) (I.ok.E2 b o e),I.base.free b o (I.ok.bs b o e).1 (I.ok.bs b o e).2 (I.ok.E2 b o e)⟩
theorem Inv.bk(I:Inv X pins σ H s):∀b o,X.base.get? b=some o->s.heap.get? b=some o:=λb o e=>(I.bs b o e).1
theorem Inv.mod(I:Inv X pins σ H s):Mod X.K X.mg X.base:=I.ok.mod
theorem Inv.lu(I:Inv X pins σ H s):X.K.In s.heap:=I.ok.mod.jr.keeps I.bk
theorem Inv.lt(I:Inv X pins σ H s):X.env.locals<s.heap.objs.size:=let ⟨_,hn,_⟩:=I.loc;hn.lt
theorem Inv.sz(I:Inv X pins σ H s):X.s₀.heap.objs.size<=s.heap.objs.size:=abn I.ok.above (acN I.lt)
theorem Inv.V7(I:Inv X pins σ H s){a:Addr}(h:s.heap.objs.size<=a):a∉X.fs:=λhb=>by
 obtain⟨_,o,ho,_⟩:=I.ok.tV.mem hb
 exact absurd (abA (abu ho) (abn I.sz h)) (acp _)
theorem Inv.ML(I:Inv X pins σ H s):∀x c,X.env.cells.lookup x=some c->c≠X.env.locals:=λx c e z=>by
 obtain⟨v,o,ho,hd⟩:=I.cell x c e
 obtain⟨m,⟨o',es,ep,ho',hd',_⟩,_⟩:=I.loc
 rw[z,ho']at ho;cases ho;rw[hd']at hd;cases hd
theorem Inv.tV(I:Inv X pins σ H s):s.heap.FunFrames X.base X.outer:=by
 have all:∀(l:List Env),(∀b∈frs l,b∈X.fs)->X.s₀.heap.FunFrames X.base l->s.heap.FunFrames X.base l:=by
  intro l
  induction l with
  |nil=>intro _ _;trivial
  |cons env r ih =>
   intro hs hl
   obtain⟨hk,⟨L,o,hf,hn,ho,hd⟩,hr⟩:=hl
   have hL:L∈X.fs:=hs L (by unfold frs;rw[aco,hf];exact abN)
   obtain⟨sl,e⟩:=I.base.slot L o ho (I.ok.OY L hL) hL λz=>I.ok.JX L z hL
   exact⟨hk,⟨L,_,hf,hn,e,hd⟩,ih (λb hb=>hs b (by unfold frs;rw[aco,hf];exact abC _ hb)) hr⟩
 exact all X.outer (λ_ hb=>hb) I.ok.tV
theorem Inv.stack(I:Inv X pins σ H s):s.heap.FunFrames X.base X.stack:=by
 rcases I.ok.stk with e|⟨e,hf⟩
 ·rw[e];exact I.tV
 ·rw[e]
  obtain⟨m,hn,_⟩:=I.loc
  refine .cons (by rw[I.ok.kind];decide) hf hn ?_ I.tV
  exact acw (abn I.ok.JI I.ok.above)
theorem Inv.qx(I:Inv X pins σ H s):∀b∈frs X.stack,b∈X.env.locals::X.fs:=λb hb=>by
 rcases I.ok.stk with e|⟨e,hf⟩
 ·rw[e]at hb;exact abC _ hb
 ·rw[e]at hb
  unfold frs at hb
  rw[aco,hf]at hb
  exact hb
theorem Inv.xG(I:Inv X pins σ H s):∀b∈frs X.stack,H b=none:=λb hb=>by
 rcases abw.mp (I.qx b hb) with e|hb
 ·rw[e];exact I.free
 ·obtain⟨_,o,ho,_⟩:=I.ok.tV.mem hb
  exact I.base.free b o ho (I.ok.OY b hb) λz=>I.ok.JX b z hb
theorem Inv.step{g':Array GenState}{t':Nat}{d':Drawn}{ch:List Addr}(I:Inv X pins σ H s)(hch:∀b∈ch,(b∈X.ex\/X.s₀.heap.objs.size<=b)/\b≠X.env.locals/\(∀x c,X.env.cells.lookup x=some c->c≠b)/\∀p∈X.pn++pins,p.1≠b)(keep:∀b o,b≠X.env.locals->b∉X.fs->b∉ch->s.heap.get? b=some o->H b=none->h'.get? b=some o)(slot:∀b o,b≠X.env.locals->b∈X.fs->b∉ch->s.heap.get? b=some o->H b=none->∃sl,h'.get? b=some {o with slots:=sl})(free:∀b o,b∉ch->s.heap.get? b=some o->H b=none->H' b=none)(there:∀b o,b∉ch->s.heap.get? b=some o->∃o',h'.get? b=some o')(tups:∀b xs,H b=some (.tup xs)->H' b=some (.tup xs))(tU:∀b o u,H b=some (.E1 o u)->H' b=some (.E1 o u))(vU:∀b ps,H b=some (.OW ps)->∃more,H' b=some (.OW (ps++more)))(ns:∀m,s.heap.Ns X.env.locals m->h'.Ns X.env.locals m)(hok:tS X.prog X.w H' h')(hg:AllBare g'):Inv X pins σ H' {s with heap:=h',gens:=g',drawn:=d',toks:=t'}:=by
 have Vy:∀b o,X.s₀.heap.get? b=some o->b≠X.env.locals:=λb o e=>abK (abA (abu e) I.ok.above)
 have Vz:∀b o,X.s₀.heap.get? b=some o->b∉X.ex->b∉ch:=λb o e hx hb=>by
  rcases(hch b hb).1 with z|z
  ·exact hx z
  ·exact absurd (abA (abu e) z) (acp _)
 have cellK:∀x c,X.env.cells.lookup x=some c->∀v,s.heap.IsCell c v->h'.IsCell c v:=λx c e v ⟨o,ho,hd⟩=>by
  have MF:c∉ch:=λz=>(hch c z).2.2.1 x c e rfl
  by_cases hc:c∈X.fs
  ·obtain⟨sl,q⟩:=slot c o (I.ML x c e) hc MF ho (I.iQ x c e)
   exact⟨_,q,hd⟩
  ·exact⟨o,keep c o (I.ML x c e) hc MF ho (I.iQ x c e),hd⟩
 refine⟨I.ok,I.os,hg,⟨λb o e n hb hx=>?_,λb o e n hb hx=>?_,λb o e n hx=>?_,λb o e hx=>?_,λb xs e=>tups b xs (I.base.tups b xs e),λb o xs e=>tU b o xs (I.base.tU b o xs e),λb ps e=>?_⟩,?_,λx c e=>?_,?_,λx c e=>?_,λp hp=>?_,hok,I.len⟩
 ·exact keep b o (Vy b o e) hb (Vz b o e hx) (I.base.keep b o e n hb hx) (I.base.free b o e n hx)
 ·obtain⟨sl,e1⟩:=I.base.slot b o e n hb hx
  obtain⟨sl',e2⟩:=slot b _ (Vy b o e) hb (Vz b o e hx) e1 (I.base.free b o e n hx)
  exact⟨sl',e2⟩
 ·obtain⟨o',e1⟩:=I.base.there b o e hx
  exact free b o' (Vz b o e hx) e1 (I.base.free b o e n hx)
 ·obtain⟨o',e1⟩:=I.base.there b o e hx
  exact there b o' (Vz b o e hx) e1
 ·obtain⟨m1,e1⟩:=I.base.vU b ps e
  obtain⟨m2,e2⟩:=vU b _ e1
  exact⟨m1++m2,by rw[e2,Array.append_assoc]⟩
 ·obtain⟨m,hn,hl⟩:=I.loc
  refine⟨m,ns m hn,λi x v e1 e2 e3=>?_⟩
  obtain⟨u,r,l⟩:=hl i x v e1 e2 e3
  refine⟨u,r,?_⟩
  rcases l with l|⟨k,c,e,z⟩
  ·exact .inl l
  ·exact .inr ⟨k,c,e,cellK x c e _ z⟩
 ·obtain⟨v,z⟩:=I.cell x c e
  exact⟨v,cellK x c e v z⟩
 ·obtain⟨m,⟨o,_,_,ho,_⟩,_⟩:=I.loc
  exact free _ o (λz=>(hch _ z).2.1 rfl) ho I.free
 ·obtain⟨v,o,ho,hd⟩:=I.cell x c e
  exact free c o (λz=>(hch c z).2.2.1 x c e rfl) ho (I.iQ x c e)
 ·obtain⟨e,n,ne,nf,d⟩:=I.pin p hp
  have MF:p.1∉ch:=λz=>(hch p.1 z).2.2.2 p hp rfl
  exact⟨keep p.1 p.2 ne nf MF e n,free p.1 p.2 MF e n,ne,nf,d⟩
theorem Inv.un{t':Nat}(I:Inv X pins σ H s)(u:Un X.fs [] H H' s.heap h')(hok:tS X.prog X.w H' h'):Inv X pins σ H' {s with heap:=h',toks:=t'}:=by
 obtain⟨m,⟨o,es,ep,ho,r⟩,_⟩:=id I.loc
 obtain⟨sl,hL⟩:=u.any ho I.free (by simp)
 exact I.step (g':=s.gens) (d':=s.drawn) (ch:=[]) (λ_ z=>nomatch z) (λb o _ hb _ e n=>u.keep b o e n hb (by simp)) (λb o _ hb _ e n=>u.slot b o e n hb (by simp)) (λb o _ e n=>u.free b o e n (by simp)) (λb o _ e=>u.there b o e (by simp)) u.tups u.tU u.vU (λm' hm=>by
  obtain⟨o',es',VA,ho',r'⟩:=hm
  rw[ho]at ho';cases ho'
  exact⟨_,es',VA,hL,r'⟩) hok I.bare
theorem Inv.call{g':Array GenState}{t':Nat}{d':Drawn}{ch:List Addr}(I:Inv X pins σ H s)(u:Un (frs X.stack) ch H H' s.heap h')(hok:tS X.prog X.w H' h')(hg:AllBare g')(hch:∀b∈ch,(b∈X.ex\/X.s₀.heap.objs.size<=b)/\b≠X.env.locals/\(∀x c,X.env.cells.lookup x=some c->c≠b)/\∀p∈X.pn++pins,p.1≠b):Inv X pins σ H' {s with heap:=h',gens:=g',drawn:=d',toks:=t'}:=by
 obtain⟨m,⟨o,es,ep,ho,r⟩,_⟩:=id I.loc
 obtain⟨sl,hL⟩:=u.any ho I.free λz=>(hch _ z).2.1 rfl
 exact I.step (ch:=ch) hch (λb o hL hb hc e n=>u.keep b o e n (λz=>(abw.mp (I.qx b z)).elim hL hb) hc) (λb o _ _ hc e n=>u.any e n hc) (λb o hc e n=>u.free b o e n hc) (λb o hc e=>u.there b o e hc) u.tups u.tU u.vU (λm' hm=>by
  obtain⟨o',es',VA,ho',r'⟩:=hm
  rw[ho]at ho';cases ho'
  exact⟨_,es',VA,hL,r'⟩) hok hg
theorem Inv.turned{t':Nat}{it:Addr}(I:Inv X pins σ H s)(k:∀b o,b≠it->s.heap.get? b=some o->h'.get? b=some o)(hn:H it=none)(hL:it≠X.env.locals)(h1:it∈X.ex\/X.s₀.heap.objs.size<=it)(h2:∀x c,X.env.cells.lookup x=some c->c≠it)(h3:∀p∈X.pn++pins,p.1≠it):Inv X pins σ H {s with heap:=h',toks:=t'}:=by
 have Sy:∀b u,H b=some u->b≠it:=λb u e z=>by rw[z,hn]at e;cases e
 refine I.step (g':=s.gens) (d':=s.drawn) (ch:=[it]) (λb hb=>?_) (λb o _ _ hc e _=>k b o (λz=>hc (by simp[z])) e) (λb o _ _ hc e _=>⟨o.slots,k b o (λz=>hc (by simp[z])) e⟩) (λ_ _ _ _ n=>n)
  (λb o hc e=>⟨o,k b o (λz=>hc (by simp[z])) e⟩) (λ_ _ e=>e) (λ_ _ _ e=>e) (λb ps e=>⟨#[],by rw[e];simp⟩) (λm hm=>?_) (λb u e=>?_) I.bare
 ·have e:b=it:=by simpa using hb
  subst e
  exact⟨h1,hL,h2,h3⟩
 ·obtain⟨o,es,ep,ho,r⟩:=hm
  exact⟨o,es,ep,k _ o (ab9 hL) ho,r⟩
 ·refine(I.hok b u e).stay (λc v hc q=>k c v ?_ q) (λ_ q=>q) λ_ _ q=>q
  rcases hc with z|z
  ·rw[z];exact Sy b u e
  ·exact Sy c _ z
theorem Inv.tok(I:Inv X pins σ H s)(t:Nat):Inv X pins σ H {s with toks:=t}:=I.un (h':=s.heap) (t':=t) Un.refl I.hok
theorem Inv.kept{t':Nat}(I:Inv X pins σ H s)(k:∀b u,s.heap.get? b=some u->h'.get? b=some u):Inv X pins σ H {s with heap:=h',toks:=t'}:=I.un (Un.kept k) (I.hok.kept k)
theorem Inv.laid{a:Addr}{o:HO}{t':Nat}(I:Inv X pins σ H s)(k:∀b u,s.heap.get? b=some u->h'.get? b=some u)(hp:s.heap.objs.size<=a)(new:cW X.prog X.w (upd H a o) h' a o):Inv X pins σ (upd H a o) {s with heap:=h',toks:=t'}:=I.un (Un.laid k hp (I.hok.fresh hp)) (I.hok.laid k hp new)
theorem Inv.write{x e:Addr}{o:HO}{t':Nat}(I:Inv X pins σ H s)(mu:Vw (H x))(he:e=x\/H e=some (.own x))(k:∀b u,b≠e->s.heap.get? b=some u->h'.get? b=some u)(OX:∃u,h'.get? e=some u)(new:cW X.prog X.w (upd H x o) h' x o):Inv X pins σ (upd H x o) {s with heap:=h',toks:=t'}:=I.un (Un.write mu he k OX) (I.hok.write mu he k OX new)
theorem Inv.GL{OZ:List (Addr×Obj)}(I:Inv X pins σ H s)(h:∀p∈OZ,s.heap.get? p.1=some p.2/\H p.1=none/\p.1≠X.env.locals/\p.1∉X.fs/\∀v,p.2.data≠.cell v):Inv X OZ σ H s :=
 ⟨I.ok,I.os,I.bare,I.base,I.loc,I.cell,I.free,I.iQ,λp hp=>(abp.mp hp).elim (λz=>I.pin p (ab0 _ z)) (h p),I.hok,I.len⟩
theorem xU{N:List Str}(hN:N.Nodup){i j:Nat}{x:Str}(a:N[i]?=some x)(b:N[j]?=some x):i=j:=by
 obtain⟨h1,e1⟩:=abi.mp a
 obtain⟨h2,e2⟩:=abi.mp b
 exact(List.getElem_inj hN).mp (e1.trans e2.symm)
theorem tW{M:Model}{A:Around}{E:Value->Shared->Prop}{i:Nat}{x:Str}{v:V}{u:Value}{Q:Unit->Shared->Prop}(I:Inv X pins σ H s)(hN:X.N.Nodup)(hi:X.N[i]?=some x)(hx:Loc X.env.scope x)(r:RelV v u)(h:∀s',Inv X pins (σ.set i (some v)) H s'->(∃a,Heap.SameBut a s.heap s'.heap/\(a=X.env.locals\/X.env.cells.lookup x=some a))->Q () s')(hf:X.fn x=true\/X.env.scope.names.lookup x=some .local:=by first|exact .inl rfl|exact .inr rfl|assumption):wpAny M A (storeName X.env x u) Q E s:=by
 obtain⟨m,hn,hl⟩:=id I.loc
 have hcls:(X.env.scope.kind==.class||(X.env.scope.kind==.module&&X.env.locals != X.env.globals))=false:=by rw[I.ok.kind];rfl
 have Sz:i<σ.length:=by rw[I.len];exact(abi.mp hi).1
 have ML:=I.ML
 have tracked:∀{a:Addr}{h':Heap},(∃o,s.heap.get? a=some o/\H a=none)->Heap.SameBut a s.heap h'->tS X.prog X.w H h':=λ{a h'} ha hs b ob e=>by
  obtain⟨_,_,hfree⟩:=ha
  refine(I.hok b ob e).stay (λc w' hc q=>(hs.2 c ?_).trans q) (λ_ q=>q) λ_ _ q=>q
  rintro rfl
  rcases hc with rfl|hc
  ·rw[hfree]at e;cases e
  ·rw[hfree]at hc;cases hc
 rcases hx with hk|hk
 ·refine wpAny_storeName_local hk hn (λh' hn' hs=>?_) hcls
  obtain⟨oL,_,_,hoL,_⟩:=id hn
  refine h _ ⟨I.ok,I.os,I.bare,⟨λb o e n hb hx=>?_,λb o e n hb hx=>?_,I.base.free,λb o e hx=>?_,I.base.tups,I.base.tU,I.base.vU⟩,⟨_,hn',λj y v' e1 e2 e3=>?_⟩,λy c e=>?_,I.free,I.iQ,λp hp=>?_,tracked ⟨oL,hoL,I.free⟩ hs,by simpa using I.len⟩ ⟨_,hs,.inl rfl⟩
  ·exact(hs.2 b (abK (abA (abu e) I.ok.above))).trans (I.base.keep b o e n hb hx)
  ·obtain⟨sl,e1⟩:=I.base.slot b o e n hb hx
   exact⟨sl,(hs.2 b (abK (abA (abu e) I.ok.above))).trans e1⟩
  ·obtain⟨o',e1⟩:=I.base.there b o e hx
   exact⟨o',(hs.2 b (abK (abA (abu e) I.ok.above))).trans e1⟩
  ·by_cases hj:j=i
   ·subst hj
    rw[hi]at e1;cases e1
    rw[List.getElem?_set_self Sz]at e2
    cases e2
    exact⟨u,r,.inl ⟨hk,by simp⟩⟩
   ·rw[List.getElem?_set_ne (ab9 hj)]at e2
    obtain⟨u',r',q⟩:=hl j y v' e1 e2 e3
    refine⟨u',r',?_⟩
    rcases q with ⟨k,e⟩|⟨k,c,e,z⟩
    ·refine .inl ⟨k,?_⟩
     have:y≠x:=λe=>hj (xU hN e1 (e▸hi))
     simp[this,e]
    ·exact .inr ⟨k,c,e,z.sameBut hs (ML y c e)⟩
  ·obtain⟨w',z⟩:=I.cell y c e
   exact⟨w',z.sameBut hs (ML y c e)⟩
  ·obtain⟨e,n,ne,nf,d⟩:=I.pin p hp
   exact⟨(hs.2 p.1 ne).trans e,n,ne,nf,d⟩
 ·have hfn:X.fn x=true:=by
   rcases hf with z|z
   ·exact z
   ·rw[z]at hk;cases hk
  obtain⟨c,hc⟩:=I.ok.has x (.inl hk)
  obtain⟨w',z⟩:=I.cell x c hc
  refine wpAny_storeName_cell I.ok.kind hk hc z (λh' hc' hs=>?_)
  obtain⟨oc,hoc,V8⟩:=id z
  refine h {s with heap:=h'} ⟨I.ok,I.os,I.bare,⟨λb o e n hb hx=>?_,λb o e n hb hx=>?_,I.base.free,λb o e hx=>?_,I.base.tups,I.base.tU,I.base.vU⟩,⟨m,hn.sameBut hs (ab9 (ML x c hc)),λj y v' e1 e2 e3=>?_⟩,λy c' e=>?_,I.free,I.iQ,λp hp=>?_,tracked ⟨oc,hoc,I.iQ x c hc⟩ hs,by simpa using I.len⟩ ⟨c,hs,.inr hc⟩
  ·exact(hs.2 b (abK (abA (abu e) (I.ok.RY x c hfn hc)))).trans (I.base.keep b o e n hb hx)
  ·obtain⟨sl,e1⟩:=I.base.slot b o e n hb hx
   exact⟨sl,(hs.2 b (abK (abA (abu e) (I.ok.RY x c hfn hc)))).trans e1⟩
  ·obtain⟨o',e1⟩:=I.base.there b o e hx
   exact⟨o',(hs.2 b (abK (abA (abu e) (I.ok.RY x c hfn hc)))).trans e1⟩
  ·by_cases hj:j=i
   ·subst hj
    rw[hi]at e1;cases e1
    rw[List.getElem?_set_self Sz]at e2
    cases e2
    exact⟨u,r,.inr ⟨.inl hk,c,hc,hc'⟩⟩
   ·rw[List.getElem?_set_ne (ab9 hj)]at e2
    obtain⟨u',r',q⟩:=hl j y v' e1 e2 e3
    refine⟨u',r',?_⟩
    rcases q with q|⟨k,c',e,z'⟩
    ·exact .inl q
    ·refine .inr ⟨k,c',e,z'.sameBut hs ?_⟩
     rintro rfl
     exact hj (xU hN e1 (I.ok.inj _ _ _ e hc▸hi))
  ·by_cases hcc:c'=c
   ·subst hcc;exact⟨_,hc'⟩
   ·obtain⟨w2,z2⟩:=I.cell y c' e
    exact⟨w2,z2.sameBut hs hcc⟩
  ·obtain⟨e,n,ne,nf,d⟩:=I.pin p hp
   refine⟨(hs.2 p.1 ?_).trans e,n,ne,nf,d⟩
   intro q
   rw[q,hoc]at e
   have q':oc=p.2:=abH e
   exact d w' (by rw[←q'];exact V8)
theorem qU{M:Model}{A:Around}{E:Value->Shared->Prop}{i:Nat}{x:Str}{v:V}{u:Value}{Q:Unit->Shared->Prop}(I:Inv X pins σ H s)(hN:X.N.Nodup)(hi:X.N[i]?=some x)(hx:Loc X.env.scope x)(r:RelV v u)(h:∀s',Inv X pins (σ.set i (some v)) H s'->Q () s')(hf:X.fn x=true\/X.env.scope.names.lookup x=some .local:=by first|exact .inl rfl|exact .inr rfl|assumption):wpAny M A (storeName X.env x u) Q E s :=
 tW I hN hi hx r (λs' I' _=>h s' I') hf
theorem Inv.GN{s':Shared}{ch:List Addr}(I:Inv X pins σ H s)(ho:s'.os=s.os)(u:Un (frs X.stack) ch H H' s.heap s'.heap)(hok:tS X.prog X.w H' s'.heap)(hg:AllBare s'.gens)(hch:∀b∈ch,(b∈X.ex\/X.s₀.heap.objs.size<=b)/\b≠X.env.locals/\(∀x c,X.env.cells.lookup x=some c->c≠b)/\∀p∈X.pn++pins,p.1≠b):Inv X pins σ H' s':=by
 obtain⟨h',g',d',t',o'⟩:=s'
 have e:o'=s.os:=ho
 subst e
 exact I.call (g':=g') (t':=t') (d':=d') u hok hg hch
end
abbrev XK:=Value->Option Addr->Hp->Prop
abbrev St:=List (Option V)
abbrev VK:=V->Hp->Prop
abbrev TE:=St->Hp->VK->Prop
abbrev TT:=St->Hp->(Bool->Hp->Prop)->Prop
abbrev TA:=St->Hp->(List V->Hp->Prop)->Prop
structure Ends where
 nx:St->Hp->Prop
 rt:VK
 bk:St->Hp->Prop:=λ_ _=>False
 ct:St->Hp->Prop:=λ_ _=>False
abbrev TS:=Ends->St->Hp->Prop
def EP(X:Cx)(pins:List (Addr×Obj))(σ:St)(Q:VK)(u:Value)(s':Shared):Prop:=∃v H',Inv X pins σ H' s'/\RelV v u/\Q v H'
def TP(X:Cx)(pins:List (Addr×Obj))(σ:St)(Q:Bool->Hp->Prop)(b:Bool)(s':Shared):Prop:=∃H',Inv X pins σ H' s'/\Q b H'
def AP(X:Cx)(pins:List (Addr×Obj))(σ:St)(Q:List V->Hp->Prop)(us:List Value)(s':Shared):Prop:=∃vs H',Inv X pins σ H' s'/\Vals vs us/\Q vs H'
def SP(X:Cx)(pins:List (Addr×Obj))(D:Ends)(f:Flow)(s':Shared):Prop :=
 match f with
 | .next=>∃σ' H',Inv X pins σ' H' s'/\D.nx σ' H'
 | .brk=>∃σ' H',Inv X pins σ' H' s'/\D.bk σ' H'
 | .cont=>∃σ' H',Inv X pins σ' H' s'/\D.ct σ' H'
 | .ret u=>∃v σ' H',Inv X pins σ' H' s'/\RelV v u/\D.rt v H'
def PE(X:Cx)(e:Expr)(t:TE):Prop :=
 ∀(pins:List (Addr×Obj))(s:Shared)(σ:St)(H:Hp)(Q:VK),Inv X pins σ H s->t σ H Q->wpAny (model X.prog X.w) X.A (eval e X.env) (EP X pins σ Q) X.xe s
def PT(X:Cx)(e:Expr)(t:TT):Prop :=
 ∀(pins:List (Addr×Obj))(s:Shared)(σ:St)(H:Hp)(Q:Bool->Hp->Prop),Inv X pins σ H s->t σ H Q->wpAny (model X.prog X.w) X.A (isTrue e X.env (eval e X.env)) (TP X pins σ Q) X.xe s
def PW(X:Cx)(e:Expr)(t:TT):Prop :=
 ∀(whole:Sem Value)(pins:List (Addr×Obj))(s:Shared)(σ:St)(H:Hp)(Q:Bool->Hp->Prop),Inv X pins σ H s->t σ H Q->wpAny (model X.prog X.w) X.A (isTrue e X.env whole) (TP X pins σ Q) X.xe s
theorem PW.pt{X:Cx}{e:Expr}{t:TT}(h:PW X e t):PT X e t:=h _
def PA(X:Cx)(es:List Expr)(t:TA):Prop :=
 ∀(pos:Pos)(pins:List (Addr×Obj))(s:Shared)(σ:St)(H:Hp)(Q:List V->Hp->Prop),Inv X pins σ H s->t σ H Q->wpAny (model X.prog X.w) X.A (spliced (backTo pos (starEach es X.env))) (AP X pins σ Q) X.xe s
def PS(X:Cx)(st:Stmt)(t:TS):Prop :=
 ∀(pins:List (Addr×Obj))(s:Shared)(σ:St)(H:Hp)(D:Ends),Inv X pins σ H s->t D σ H->wpAny (model X.prog X.w) X.A (exec st X.env) (SP X pins D) X.xe s
def DA(X:Cx)(st:List Stmt)(t:TS):Prop :=
 ∀(pins:List (Addr×Obj))(s:Shared)(σ:St)(H:Hp)(D:Ends),Inv X pins σ H s->t D σ H->wpAny (model X.prog X.w) X.A (execs st X.env) (SP X pins D) X.xe s
theorem cC{α:Type}{t:Sem α}{Q Q':α->Shared->Prop}{M:Model}{A:Around}{E:Value->Shared->Prop}{s:Shared}(h:wpAny M A t Q E s)(hQ:∀a s,Q a s->Q' a s):wpAny M A t Q' E s:=ab1 h hQ λ_ _ x=>x
section
variable{X:Cx}
def JY(i:Nat):TE:=λσ H Q=>∃v,σ[i]?=some (some v)/\Q v H
def tC(v:V):TE:=λ_ H Q=>Q v H
theorem Pz{i:Nat}{x:Str}{pos:Pos}(hN:X.N[i]?=some x)(hv:V4 X.env.scope x)(hd:(x==("__debug__":Str))=false:=by decide)(hcd:(x==("__classdict__":Str))=false:=by decide):PE X (.Name x pos) (JY i):=by
 intro pins s σ H Q I h
 obtain⟨v,e,h⟩:=h
 obtain⟨m,hn,hl⟩:=I.loc
 obtain⟨u,r,l⟩:=hl i x v hN e hv
 have fin:EP X pins σ Q u s:=⟨v,H,I,r,h⟩
 rcases l with ⟨hk,hm⟩|⟨hk,c,hc,hcell⟩
 ·exact wpAny_Name (wpAny_loadName_local I.ok.kind hk hn hm fin) hd
 ·rcases hk with hk|hk
  ·exact wpAny_Name (wpAny_loadName_cell I.ok.kind hk hc hcell fin) hd
  ·exact wpAny_Name (wpAny_loadName_free I.ok.kind hk hc hcell fin hcd) hd
theorem aq{i j pos}:PE X (.Constant (.int i) j pos) (tC (.int i)):=λ_ _ _ H _ I h=>wpAny_Constant_int ⟨.int i,H,I.tok _,⟨_,rfl⟩,h⟩
theorem gR{b j pos}:PE X (.Constant (.bool b) j pos) (tC (.bl b)):=λ_ _ _ H _ I h=>Constant_bool ⟨.bl b,H,I,rfl,h⟩
theorem cO{j pos}:PE X (.Constant .none j pos) (tC .non):=λ_ _ _ H _ I h=>Constant_none ⟨.non,H,I,rfl,h⟩
theorem ao{x j pos}:PE X (.Constant (.str x) j pos) (tC (.str x)):=λ_ _ _ H _ I h=>Calls.Constant_str ⟨.str x,H,I.tok _,⟨_,rfl⟩,h⟩
def Gl(X:Cx)(x:Str):Prop:=X.env.kindOf x=some .globalImplicit
theorem kg{E:Value->Shared->Prop}{pins:List (Addr×Obj)}{s:Shared}{σ:St}{H:Hp}{x:Str}{u:Value}{pos:Pos}{Q:Value->Shared->Prop}(I:Inv X pins σ H s)(hg:Gl X x)(hm:X.mg x=some u)(h:Q u s)(hd:(x==("__debug__":Str))=false:=by decide):wpAny (model X.prog X.w) X.A (eval (.Name x pos) X.env) Q E s :=
 Calls.Name_function_global I.ok.kind hg (Calls.loadGlobal_global (by rw[I.ok.glob];exact I.mod.glob.keeps I.bk) hm h) hd
theorem tX{E:Value->Shared->Prop}{pins:List (Addr×Obj)}{s:Shared}{σ:St}{H:Hp}{x:Str}{u:Value}{pos:Pos}{Q:Value->Shared->Prop}(I:Inv X pins σ H s)(hg:Gl X x)(hm:X.mg x=none)(hv:bootBuiltins x=some u)(h:Q u s)(hn:x ≠ "__name__":=by decide)(hd:(x==("__debug__":Str))=false:=by decide):wpAny (model X.prog X.w) X.A (eval (.Name x pos) X.env) Q E s:=by
 obtain⟨mb,h1,h2⟩:=I.mod.blt
 exact Calls.Name_function_global I.ok.kind hg (Calls.loadGlobal_builtin (by rw[I.ok.glob];exact I.mod.glob.keeps I.bk) hm (by rw[I.ok.blt];exact h1.keeps I.bk) ((h2 x hn).trans hv) h) hd
theorem BD{x:Str}{v:V}{u:Value}{pos:Pos}(hg:Gl X x)(hm:X.mg x=some u)(r:RelV v u)(hd:(x==("__debug__":Str))=false:=by decide):PE X (.Name x pos) (tC v) :=
 λ_ _ _ H _ I h=>kg I hg hm ⟨v,H,I,r,h⟩ hd
theorem MN{x:Str}{v:V}{u:Value}{pos:Pos}(hg:Gl X x)(hm:X.mg x=none)(hv:bootBuiltins x=some u)(r:RelV v u)(hn:x ≠ "__name__":=by decide)(hd:(x==("__debug__":Str))=false:=by decide):PE X (.Name x pos) (tC v) :=
 λ_ _ _ H _ I h=>tX I hg hm hv ⟨v,H,I,r,h⟩ hn hd
variable{a b:Expr}{ta tb:TE}{pos:Pos}
def PC(X:Cx)(op:CmpOp)(a b:Expr)(t:TE):Prop :=
 ∀(pins:List (Addr×Obj))(s:Shared)(σ:St)(H:Hp)(Q:VK),Inv X pins σ H s->t σ H Q->wpAny (model X.prog X.w) X.A (eval a X.env) (λv s₁=>wpAny (model X.prog X.w) X.A (eval b X.env) (λu s₂=>wpAny (model X.prog X.w) X.A (compareOp op v u) (EP X pins σ Q) X.xe s₂) X.xe s₁) X.xe s
theorem JZ(b:Expr){op:CmpOp}(h:op≠.In)(h2:op≠.NotIn):behindInMarks op b=false:=by
 have e1:(op==CmpOp.In)=false:=by cases op<;>first|rfl|exact absurd rfl h
 have e2:(op==CmpOp.NotIn)=false:=by cases op<;>first|rfl|exact absurd rfl h2
 cases b<;>simp[behindInMarks,e1,e2]
def tB(t:TE):TT:=λσ H Q=>t σ H λx H1=>∃c,x=.bl c/\Q c H1
theorem J4{op:CmpOp}{t:TE}(h:PC X op a b t)(h1:behindInMarks op b=false:=by first|exact JZ _ (by decide) (by decide)|rfl):PT X (.Compare a [op] [b] pos) (tB t):=by
 intro pins s σ H Q I hw
 refine wpAny_isTrue_Compare1 (cC (h pins s σ H _ I hw) λv s1 h1=>cC h1 λu s2 h2=>cC h2 λc s3 ⟨x,H1,I1,r1,q1⟩=>?_) h1
 obtain⟨d,rfl,q⟩:=q1
 cases r1
 exact wpAny_truthy_bool ⟨H1,I1,q⟩
theorem bJ{e:Expr}{t:TE}(h:PE X e t)(he:∀whole,isTrue e X.env whole=(do let v ←whole;standAt e.pos;holding [v] (truthy v)):=by intro _;rfl):PT X e (tB t):=by
 intro pins s σ H Q I hw
 refine isTrue_plain (cC (h pins s σ H _ I hw) λv s1 ⟨x,H1,I1,r1,q1⟩=>?_) (he _)
 obtain⟨d,rfl,q⟩:=q1
 cases r1
 exact wpAny_truthy_bool ⟨H1,I1,q⟩
variable{tA VB:TT}{rest:List Expr}
def V9(t u:TT):TT:=λσ H Q=>t σ H λc H1=>if c=true then u σ H1 Q else Q false H1
def tOr(t u:TT):TT:=λσ H Q=>t σ H λc H1=>if c=true then Q true H1 else u σ H1 Q
def Wa(t:TT):TT:=λσ H Q=>t σ H λc H1=>Q (!c) H1
theorem cU(ha:PT X a tA):PW X (.BoolOp .And [a] pos) tA:=by
 intro wh pins s σ H Q I h
 refine isTrue_and (cC (ha pins s σ H Q I h) λc s1 e=>?_)
 cases c with
 |true=>exact isTrue_and_nil e
 |false=>exact e
theorem eZ(ha:PT X a tA):PW X (.BoolOp .Or [a] pos) tA:=by
 intro wh pins s σ H Q I h
 refine isTrue_or (cC (ha pins s σ H Q I h) λc s1 e=>?_)
 cases c with
 |false=>exact isTrue_or_nil e
 |true=>exact e
theorem dM(ha:PT X a tA)(hb:PW X (.BoolOp .And (b::rest) pos) VB):PW X (.BoolOp .And (a::b::rest) pos) (V9 tA VB):=by
 intro wh pins s σ H Q I h
 refine isTrue_and (cC (ha pins s σ H _ I h) λc s1 ⟨H1,I1,q1⟩=>?_)
 cases c with
 |true=>exact hb wh pins s1 σ H1 Q I1 q1
 |false=>exact⟨H1,I1,q1⟩
theorem gk(ha:PT X a tA)(hb:PW X (.BoolOp .Or (b::rest) pos) VB):PW X (.BoolOp .Or (a::b::rest) pos) (tOr tA VB):=by
 intro wh pins s σ H Q I h
 refine isTrue_or (cC (ha pins s σ H _ I h) λc s1 ⟨H1,I1,q1⟩=>?_)
 cases c with
 |true=>exact⟨H1,I1,q1⟩
 |false=>exact hb wh pins s1 σ H1 Q I1 q1
theorem cG(ha:PT X a tA):PT X (.UnaryOp .Not a pos) (Wa tA):=by
 intro pins s σ H Q I h
 exact isTrue_not (ha pins s σ H (λc H1=>Q (!c) H1) I h)
def SA(ta tb:TE):TE:=λσ H Q=>ta σ H λx H1=>∃c,x=.bl c/\if c=true then tb σ H1 Q else Q (.bl false) H1
def SD(ta tb:TE):TE:=λσ H Q=>ta σ H λx H1=>∃c,x=.bl c/\if c=true then Q (.bl true) H1 else tb σ H1 Q
theorem qy{op}{t:TE}(h:PE X a t):PE X (.BoolOp op [a] pos) t:=λpins s σ H Q I hw=>BoolOp_one (h pins s σ H Q I hw)
theorem tY(ha:PE X a ta)(hb:PE X (.BoolOp .And (b::rest) pos) tb):PE X (.BoolOp .And (a::b::rest) pos) (SA ta tb):=by
 intro pins s σ H Q I h
 refine BoolOp_and (cC (ha pins s σ H _ I h) λv s1 ⟨x,H1,I1,r1,q1⟩=>?_)
 obtain⟨c,rfl,q1⟩:=q1
 cases r1
 refine wpAny_truthy_bool ?_
 cases c with
 |true=>exact hb pins s1 σ H1 Q I1 q1
 |false=>exact⟨.bl false,H1,I1,rfl,q1⟩
theorem J5(ha:PE X a ta)(hb:PE X (.BoolOp .Or (b::rest) pos) tb):PE X (.BoolOp .Or (a::b::rest) pos) (SD ta tb):=by
 intro pins s σ H Q I h
 refine BoolOp_or (cC (ha pins s σ H _ I h) λv s1 ⟨x,H1,I1,r1,q1⟩=>?_)
 obtain⟨c,rfl,q1⟩:=q1
 cases r1
 refine wpAny_truthy_bool ?_
 cases c with
 |false=>exact hb pins s1 σ H1 Q I1 q1
 |true=>exact⟨.bl true,H1,I1,rfl,q1⟩
def tIf(t:TT)(ta tb:TE):TE:=λσ H Q=>t σ H λc H1=>if c=true then ta σ H1 Q else tb σ H1 Q
theorem qV{c:Expr}(hc:PT X c tA)(ha:PE X a ta)(hb:PE X b tb):PE X (.IfExp c a b pos) (tIf tA ta tb):=by
 intro pins s σ H Q I h
 refine wpAny_IfExp (cC (hc pins s σ H _ I h) λd s1 ⟨H1,I1,q1⟩=>?_)
 cases d with
 |true=>exact ha pins s1 σ H1 Q I1 q1
 |false=>exact hb pins s1 σ H1 Q I1 q1
end
def bw(K:W.Frag)(H:Hp)(a:Addr)(xs:List V):Prop :=
 Rd H a (.lst xs)\/
  ∃(o:Obj)(its:Array Value)(n:Nat),K.lookup a=some o/\o.cls=.type "list"/\o.dict=none/\o.data=.seq its n/\its.size<=sizeLine/\Vals xs its.toList
def bz(K:W.Frag)(H:Hp)(a:Addr)(xs:List V):Prop :=
 Rd H a (.tup xs)\/
  ∃(o:Obj)(its:Array Value)(n:Nat),K.lookup a=some o/\o.cls=.type "tuple"/\o.data=.seq its n/\its.size<=sizeLine/\Vals xs its.toList
def Wb:Value->Option V
 | .none=>some .non
 | .bool b=>some (.bl b)
 | .int i _=>some (.int i)
 | .str x _=>some (.str x)
 | .bytes b _=>some (.JH b)
 | .float b _=>some (.kL b)
 | .ref a=>some (.ref a)
 | .type n=>some (.ty n)
 |_=>none
theorem RelV.abs{x:V}{u:Value}(r:RelV x u):Wb u=some x:=by
 cases x with
 |non=>cases r;rfl
 |bl _=>cases r;rfl
 |int _=>obtain⟨t,rfl⟩:=r;rfl
 |str _=>obtain⟨t,rfl⟩:=r;rfl
 |JH _=>obtain⟨t,rfl⟩:=r;rfl
 |kL _=>obtain⟨t,rfl⟩:=r;rfl
 |ref _=>cases r;rfl
 |ty _=>cases r;rfl
theorem RelV.inj{x y:V}{u:Value}(r:RelV x u)(q:RelV y u):x=y:=abH (r.abs.symm.trans q.abs)
theorem Vals.inj:∀{xs ys:List V}{us:List Value},Vals xs us->Vals ys us->xs=ys
 |_,_,_,.nil,.nil=>rfl
 |_,_,_,.cons r t,.cons r' t'=>by rw[r.inj r',Vals.inj t t']
section
variable{X:Cx}{pins:List (Addr×Obj)}{σ:St}{H:Hp}{s:Shared}{a:Addr}{xs ys:List V}
theorem bw.of{K:W.Frag}(h:H a=some (.lst xs)):bw K H a xs:=.inl (.inl h)
theorem bz.of{K:W.Frag}(h:H a=some (.tup xs)):bz K H a xs:=.inl (.inl h)
theorem Inv.list(I:Inv X pins σ H s)(h:bw X.K H a xs):∃its:List Value,Vals xs its/\PlainL s.heap a its.toArray/\xs.length<=sizeLine:=by
 rcases h with h|⟨o,its,n,hk,hc,hd,hs,hz,r⟩
 ·obtain⟨z,its,n,r,e⟩:=h.ok I.hok
  exact⟨its,r,⟨_,n,e,O,O,O⟩,z⟩
 ·refine⟨its.toList,r,⟨o,n,I.lu a o hk,hc,hd,by simpa using hs⟩,?_⟩
  have e:=r.length
  simp only[abt]at e
  omega
theorem Inv.tuple(I:Inv X pins σ H s)(h:bz X.K H a xs):∃its:List Value,Vals xs its/\IsTup s.heap a its.toArray/\xs.length<=sizeLine:=by
 rcases h with h|⟨o,its,n,hk,hc,hs,hz,r⟩
 ·obtain⟨z,its,r,p⟩:=h.ok I.hok
  exact⟨its,r,p,z⟩
 ·refine⟨its.toList,r,⟨o,I.lu a o hk,hc,n,by simpa using hs⟩,?_⟩
  have e:=r.length
  simp only[abt]at e
  omega
theorem Inv.DB(I:Inv X pins σ H s)(h:bw X.K H a xs)(h':bw X.K H a ys):xs=ys:=by
 obtain⟨its,r,⟨o,n,e,_,_,d⟩,_⟩:=I.list h
 obtain⟨its',r',⟨o',n',e',_,_,d'⟩,_⟩:=I.list h'
 rw[e]at e';cases e'
 rw[d]at d'
 injection d' with d1 _
 have:its=its':=by simpa using congrArg Array.toList d1
 subst this
 exact r.inj r'
theorem Inv.HS(I:Inv X pins σ H s)(h:bz X.K H a xs)(h':bz X.K H a ys):xs=ys:=by
 obtain⟨its,r,⟨o,e,_,n,d⟩,_⟩:=I.tuple h
 obtain⟨its',r',⟨o',e',_,n',d'⟩,_⟩:=I.tuple h'
 rw[e]at e';cases e'
 rw[d]at d'
 injection d' with d1 _
 have:its=its':=by simpa using congrArg Array.toList d1
 subst this
 exact r.inj r'
end
abbrev Cx.xV(X:Cx)(E:Value->Shared->Prop):Cx:={X with xe:=E}
abbrev Cx.PB(X:Cx):Cx:=X.xV λ_ _=>False
theorem Cx.Ok.xV{X:Cx}(ok:X.Ok)(E:Value->Shared->Prop):(X.xV E).Ok :=
 ⟨ok.mod,ok.kind,ok.glob,ok.blt,ok.above,ok.inj,ok.has,ok.RY,ok.hd,ok.frames,ok.stk,ok.V5,ok.bs,ok.JI,ok.E2,ok.JX,ok.tV,ok.OY⟩
theorem Cx.Ok.kM{X:Cx}{E:Value->Shared->Prop}(ok:(X.xV E).Ok):X.Ok :=
 ⟨ok.mod,ok.kind,ok.glob,ok.blt,ok.above,ok.inj,ok.has,ok.RY,ok.hd,ok.frames,ok.stk,ok.V5,ok.bs,ok.JI,ok.E2,ok.JX,ok.tV,ok.OY⟩
section
variable{X:Cx}{pins:List (Addr×Obj)}{σ:St}{H:Hp}{s:Shared}{E:Value->Shared->Prop}
theorem Inv.xV(I:Inv X pins σ H s)(E:Value->Shared->Prop):Inv (X.xV E) pins σ H s:=⟨I.ok.xV E,I.os,I.bare,I.base,I.loc,I.cell,I.free,I.iQ,I.pin,I.hok,I.len⟩
theorem Inv.kM(I:Inv (X.xV E) pins σ H s):Inv X pins σ H s:=⟨I.ok.kM,I.os,I.bare,I.base,I.loc,I.cell,I.free,I.iQ,I.pin,I.hok,I.len⟩
theorem SP.kM{D:Ends}{f:Flow}{s':Shared}(h:SP (X.xV E) pins D f s'):SP X pins D f s':=by
 cases f with
 |next=>obtain⟨σ',H',I,q⟩:=h;exact⟨σ',H',I.kM,q⟩
 |brk=>obtain⟨σ',H',I,q⟩:=h;exact⟨σ',H',I.kM,q⟩
 |cont=>obtain⟨σ',H',I,q⟩:=h;exact⟨σ',H',I.kM,q⟩
 |ret u=>obtain⟨v,σ',H',I,r,q⟩:=h;exact⟨v,σ',H',I.kM,r,q⟩
theorem DA.PB{st:List Stmt}{t:TS}(h:DA X.PB st t):DA X st t:=λpins s σ H D I hw =>
 ab1 (h pins s σ H D (I.xV _) hw) (λ_ _ q=>q.kM) λ_ _ z=>False.elim z
end
section
variable{X:Cx}{st:Stmt}{rest:List Stmt}{t u:TS}{e:Expr}{te:TE}{pos:Pos}
def SE:TS:=λD σ H=>D.nx σ H
def MO(t u:TS):TS:=λD σ H=>t {D with nx:=u D} σ H
theorem aA:DA X [] SE:=λ_ _ σ H _ I h=>wpAny_execs_nil ⟨σ,H,I,h⟩
theorem ah(h1:PS X st t)(h2:DA X rest u):DA X (st::rest) (MO t u):=by
 intro pins s σ H D I h
 refine wpAny_execs_cons (cC (h1 pins s σ H {D with nx:=u D} I h) λf s1 q=>?_)
 cases f with
 |next =>
  obtain⟨σ',H',I',q⟩:=q
  exact h2 pins s1 σ' H' D I' q
 |ret v=>exact q
 |brk=>exact q
 |cont=>exact q
theorem ak(h1:PS X st t):DA X [st] t:=by
 intro pins s σ H D I h
 refine wpAny_execs_cons (cC (h1 pins s σ H D I h) λf s1 q=>?_)
 cases f with
 |next=>exact wpAny_execs_nil q
 |ret v=>exact q
 |brk=>exact q
 |cont=>exact q
theorem Inv.quiet{pins:List (Addr×Obj)}{σ:St}{H:Hp}{s:Shared}(I:Inv X pins σ H s):interactive X.env=false:=by simp[interactive,I.ok.kind]
def SG(te:TE):TS:=λD σ H=>te σ H λ_ H1=>D.nx σ H1
theorem d7(he:PE X e te)(hs:swapsWith e none pos.line X.env=pure false:=by rfl):PS X (.Expr e pos) (SG te):=by
 intro pins s σ H D I h
 exact wpAny_Expr_any (cC (he pins s σ H _ I h) λv s1 ⟨x,H1,I1,r1,q1⟩=>⟨σ,H1,I1,q1⟩) I.quiet hs
def Wc(te:TE):TS:=λD σ H=>te σ H D.rt
theorem ay(he:PE X e te):PS X (.Return (some e) pos) (Wc te):=by
 intro pins s σ H D I h
 exact wpAny_Return_some (cC (he pins s σ H _ I h) λv s1 ⟨x,H1,I1,r1,q1⟩=>⟨x,σ,H1,I1,r1,q1⟩)
def J6(c:TT)(t u:TS):TS:=λD σ H=>c σ H λb H1=>if b=true then t D σ H1 else u D σ H1
theorem aK{c:Expr}{a b:List Stmt}{tc:TT}(hc:PT X c tc)(ha:DA X a t)(hb:DA X b u):PS X (.If c a b pos) (J6 tc t u):=by
 intro pins s σ H D I h
 refine wpAny_If (cC (hc pins s σ H _ I h) λd s1 ⟨H1,I1,q1⟩=>?_)
 cases d with
 |true=>exact ha pins s1 σ H1 D I1 q1
 |false=>exact hb pins s1 σ H1 D I1 q1
def PD:TS:=λ_ _ _=>False
theorem ly:PS X st PD:=λ_ _ _ _ _ _ h=>h.elim
end
abbrev TG:=V->St->Hp->(St->Hp->Prop)->Prop
abbrev O0:=List V->St->Hp->(St->Hp->Prop)->Prop
def PG(X:Cx)(target:Expr)(t:TG):Prop :=
 ∀(pins:List (Addr×Obj))(s:Shared)(σ:St)(H:Hp)(v:V)(u:Value)(Q:St->Hp->Prop),Inv X pins σ H s->RelV v u->t v σ H Q->wpAny (model X.prog X.w) X.A (assign target X.env u) (λ_ s'=>∃σ' H',Inv X pins σ' H' s'/\Q σ' H') X.xe s
def SH(X:Cx)(ts:List Expr)(t:O0):Prop :=
 ∀(pins:List (Addr×Obj))(s:Shared)(σ:St)(H:Hp)(vs:List V)(us:List Value)(Q:St->Hp->Prop),Inv X pins σ H s->Vals vs us->t vs σ H Q->wpAny (model X.prog X.w) X.A (assignInOrder ((assignEach ts X.env).map (·.2)) us) (λ_ s'=>∃σ' H',Inv X pins σ' H' s'/\Q σ' H') X.xe s
section
variable{X:Cx}{pos:Pos}
def bR(i:Nat):TG:=λv σ H Q=>Q (σ.set i (some v)) H
theorem MP{i:Nat}{x:Str}(hN:X.N.Nodup)(hi:X.N[i]?=some x)(hx:Loc X.env.scope x)(hf:X.fn x=true\/X.env.scope.names.lookup x=some .local:=by first|exact .inl rfl|exact .inr rfl|assumption):PG X (.Name x pos) (bR i):=by
 intro pins s σ H v u Q I r h
 exact wpAny_assign_Name (qU I hN hi hx r (λs' I'=>⟨_,H,I',h⟩) hf)
def Wd:O0:=λvs σ H Q=>vs=[]/\Q σ H
def SI(t:TG)(u:O0):O0:=λvs σ H Q=>∃v r,vs=v::r/\t v σ H λσ' H'=>u r σ' H' Q
theorem fQ:SH X [] Wd:=by
 intro pins s σ H vs us Q I r h
 obtain⟨e,h⟩:=h
 subst e
 cases r
 exact assignInOrder_nil ⟨σ,H,I,h⟩
theorem aP{e:Expr}{es:List Expr}{t:TG}{u:O0}(h1:PG X e t)(h2:SH X es u)(hs:(assignEach (e::es) X.env).map (·.2)=assign e X.env::(assignEach es X.env).map (·.2):=by rfl):SH X (e::es) (SI t u):=by
 intro pins s σ H vs us Q I r h
 obtain⟨v,vr,e1,h⟩:=h
 subst e1
 cases r with
 |cons r rr =>
  rw[hs]
  refine assignInOrder_cons (cC (h1 pins s σ H _ _ _ I r h) λ_ s1 ⟨σ1,H1,I1,q1⟩=>?_)
  exact h2 pins s1 σ1 H1 _ _ Q I1 rr q1
def SJ(K:W.Frag)(n:Nat)(t:O0):TG:=λv σ H Q=>∃a xs,v=.ref a/\bz K H a xs/\xs.length=n/\t xs σ H Q
theorem PF{es:List Expr}{k:Nat}{t:O0}{n:Nat}(hc:X.calm=true)(h:SH X es t)(hn:(assignEach es X.env).length=n:=by rfl)(hst:(assignEach es X.env).findIdx? (·.1)=none:=by rfl):PG X (.Tuple es k pos) (SJ X.K n t):=by
 intro pins s σ H v u Q I r hw
 obtain⟨a,xs,e1,hq,hl,hw⟩:=hw
 subst e1
 cases r
 obtain⟨its,rv,ht,hz⟩:=I.tuple hq
 refine assign_Tuple_tuple (I.ok.hd hc) ht (by simp[hn,←hl,rv.length]) hst λh' hx=>?_
 have I1:Inv X pins σ H {s with heap:=h'}:=I.kept (t':=s.toks) λb o e=>hx b o (abK (abu e)) e
 exact h pins _ σ H xs _ Q I1 (by simpa using rv) hw
def J7(te:TE)(g:TG):TS:=λD σ H=>te σ H λx H1=>g x σ H1 D.nx
theorem iY{tg e:Expr}{te:TE}{g:TG}(he:PE X e te)(hg:PG X tg g)(hs:swapsWithSole [tg] e pos.line X.env=pure false:=by rfl)(hw:swappedStores [tg] e X.env=pure none:=by rfl)(h1:(assignEach [tg] X.env).map (·.2)=[assign tg X.env]:=by rfl):PS X (.Assign [tg] e pos) (J7 te g):=by
 intro pins s σ H D I h
 refine wpAny_Assign_stores (cC (he pins s σ H _ I h) λv s1 ⟨x,H1,I1,r1,q1⟩=>?_) hs hw
 rw[h1]
 exact cC (hg pins s1 σ H1 x v _ I1 r1 q1) λ_ s2 q=>q
theorem PK{i:Nat}{x:Str}{e:Expr}{te:TE}{pos':Pos}(hN:X.N.Nodup)(hi:X.N[i]?=some x)(hx:Loc X.env.scope x)(he:PE X e te)(hs:swapsWith e (some (.Name x pos')) pos.line X.env=pure false:=by rfl)(hf:X.fn x=true\/X.env.scope.names.lookup x=some .local:=by first|exact .inl rfl|exact .inr rfl|assumption):PS X (.Assign [.Name x pos'] e pos) (J7 te (bR i)):=by
 intro pins s σ H D I h
 refine wpAny_Assign_Name (cC (he pins s σ H _ I h) λv s1 ⟨y,H1,I1,r1,q1⟩=>?_) hs
 exact qU I1 hN hi hx r1 (λs2 I2=>⟨_,H1,I2,q1⟩) hf
end
section
variable{X:Cx}{pos:Pos}
def PL(c:TT)(tb:TS):TS:=λD σ H=>∃W:Nat->St->Hp->Prop,(∃m,W m σ H)/\∀m σ H,W m σ H->c σ H λb H1=>if b=true then ∃N:St->Hp->Prop,(∀σ' H',N σ' H'->∃m',m'<m/\W m' σ' H')/\tb {D with nx:=N,ct:=N,bk:=D.nx} σ H1 else D.nx σ H1
theorem xW{c:Expr}{body:List Stmt}{tc:TT}{tb:TS}(hp:PassesOwn (model X.prog X.w) X.A X.env X.xe)(hc:PT X c tc)(hb:DA X body tb):PS X (.While c body [] pos) (PL tc tb):=by
 intro pins s σ H D I h
 obtain⟨W,⟨m0,w0⟩,turn⟩:=h
 refine wpAny_While (codeAny_whileLoop (λn s'=>∃σ' H',Inv X pins σ' H' s'/\W n σ' H') ?_ m0 ⟨σ,H,I,w0⟩)
 rintro n s1 ⟨σ1,H1,I1,w1⟩
 refine acI hp (cC (hc pins s1 σ1 H1 _ I1 (turn n σ1 H1 w1)) λb s2 ⟨H2,I2,q2⟩=>?_)
 cases b with
 |true =>
  obtain⟨N,hN,q2⟩:=q2
  rw[abe rfl]
  refine acI hp (cC (hb pins s2 σ1 H2 _ I2 q2) λf s3 q3=>?_)
  cases f with
  |next =>
   obtain⟨σ3,H3,I3,n3⟩:=q3
   obtain⟨m',hm,w3⟩:=hN σ3 H3 n3
   exact⟨m',hm,σ3,H3,I3,w3⟩
  |cont =>
   obtain⟨σ3,H3,I3,n3⟩:=q3
   obtain⟨m',hm,w3⟩:=hN σ3 H3 n3
   exact⟨m',hm,σ3,H3,I3,w3⟩
  |brk=>exact q3
  |ret v=>exact q3
 |false =>
  rw[abb abv]
  exact wpAny_execs_nil ⟨σ1,H2,I2,q2⟩
end
structure It where
 go:Nat->Hp->Prop
 MG:Nat->Hp->V->Hp->Prop
 stop:Nat->Hp->Prop
def lQ(X:Cx)(pins:List (Addr×Obj))(H:Hp)(b:Addr):Prop :=
 H b=none/\b≠X.env.locals/\b∉X.fs/\(b∈X.ex\/X.s₀.heap.objs.size<=b)/\(∀x c,X.env.cells.lookup x=some c->c≠b)/\∀p∈X.pn++pins,p.1≠b
theorem Inv.vV{X:Cx}{pins:List (Addr×Obj)}{σ:St}{H H':Hp}{s:Shared}{b:Addr}(I:Inv X pins σ H s)(hb:s.heap.objs.size<=b)(hn:H' b=none):lQ X pins H' b:=by
 refine⟨hn,Nat.ne_of_gt (abA I.lt hb),I.V7 hb,.inr (abn I.sz hb),λx c e z=>?_,λp hp z=>?_⟩
 ·obtain⟨v,q⟩:=I.cell x c e
  exact absurd (abA q.lt (by rw[z];exact hb)) (acp _)
 ·exact absurd (abA (abu (I.pin p hp).1) (by rw[z];exact hb)) (acp _)
structure Turn(P:Program)(w:World)(K:W.Frag)(tg:Expr)(J:It)(fp:List Addr)(it:Addr)(tn:Nat->Heap->Prop):Prop where
 mem:it∈fp
 obj:∀i h,tn i h->∀b∈fp,∃o,h.get? b=some o/\∀v,o.data≠.cell v
 keep:∀i h h',tn i h->(∀b∈fp,∀o,h.get? b=some o->h'.get? b=some o)->tn i h'
 item:∀(X:Cx),X.prog=P->X.w=w->X.K=K->X.calm=true->∀(i:Nat)(pins:List (Addr×Obj))(s:Shared)(σ:St)(H:Hp)(E:Value->Shared->Prop),Inv X pins σ H s->(∀b∈fp,lQ X pins H b)->tn i s.heap->J.go i H->wpAny (model P w) X.A (pyNext (.ref it)) (λr s1=>∃u,r=some u/\wpAny (model P w) X.A (letOwnedTupleGo tg (.ref it) u) (λ_ s2=>∃x H',Inv X pins σ H' s2/\RelV x u/\J.MG i H x H'/\tn (i+1) s2.heap/\∀b∈fp,H' b=none) E s1) E s
 done:∀(X:Cx),X.prog=P->X.w=w->X.K=K->X.calm=true->∀(i:Nat)(pins:List (Addr×Obj))(s:Shared)(σ:St)(H:Hp)(E:Value->Shared->Prop),Inv X pins σ H s->(∀b∈fp,lQ X pins H b)->tn i s.heap->J.stop i H->wpAny (model P w) X.A (pyNext (.ref it)) (λr s1=>r=none/\Inv X pins σ H s1) E s
 self:∀(A:Around)(i:Nat)(s:Shared)(Q:Value->Shared->Prop)(E:Value->Shared->Prop),tn i s.heap->Q (.ref it) s->wpAny (model P w) A (pyIter (.ref it)) Q E s
abbrev TI:=St->Hp->(It->Hp->Prop)->Prop
def PIE(X:Cx)(pins:List (Addr×Obj))(σ:St)(tg:Expr)(R:It->Hp->Prop)(itv:Value)(s2:Shared):Prop :=
 ∃(it:Addr)(fp:List Addr)(tn:Nat->Heap->Prop)(J:It)(H':Hp),itv=.ref it/\Inv X pins σ H' s2/\Turn X.prog X.w X.K tg J fp it tn/\tn 0 s2.heap/\(∀b∈fp,lQ X pins H' b)/\R J H'
def PI(X:Cx)(tg iter:Expr)(wi:TI):Prop :=
 ∀(pins:List (Addr×Obj))(s:Shared)(σ:St)(H:Hp)(R:It->Hp->Prop),Inv X pins σ H s->wi σ H R->wpAny (model X.prog X.w) X.A (eval iter X.env) (λv s1=>wpAny (model X.prog X.w) X.A (pyIter v) (PIE X pins σ tg R) X.xe s1) X.xe s
theorem AH{M:Model}{A:Around}{E:Value->Shared->Prop}{s:Shared}{tg:Expr}{it:Addr}{u:Value}{o:Obj}{n:String}{vs:Array Value}{Q:Unit->Shared->Prop}(ho:s.heap.get? it=some o)(hc:o.cls=.type n)(hd:o.data=.fields vs)(hn:["enumerate","zip","dict_itemiterator","dict_reverseitemiterator","odict_iterator","itertools.zip_longest","itertools.pairwise"].contains n=false)(hQ:Q () s):wpAny M A (letOwnedTupleGo tg (.ref it) u) Q E s:=by
 unfold letOwnedTupleGo
 cases tg<;>first
   |exact abl hQ
   | (cases u<;>first
       |exact abl hQ
       | (refine abd (wpAny_load ho ?_)
          rw[hc,hd]
          show wpAny M A (if (["enumerate","zip","dict_itemiterator","dict_reverseitemiterator","odict_iterator","itertools.zip_longest","itertools.pairwise"].contains n&&vs[0]?==some (rawInt _))=true then _ else _) Q E s
          rw[abb (by intro h;rw[hn,Bool.false_and]at h;cases h)]
          exact abl hQ))
def RZ(K:W.Frag)(a:Addr):It :=
 ⟨λi H=>∃xs x,bw K H a xs/\xs[i]?=some x,λi H x H'=>H'=H/\∀xs,bw K H a xs->xs[i]?=some x,λi H=>∃xs,bw K H a xs/\xs.length<=i⟩
def SK(K:W.Frag)(a:Addr):It :=
 ⟨λi H=>∃xs x,bz K H a xs/\xs[i]?=some x,λi H x H'=>H'=H/\∀xs,bz K H a xs->xs[i]?=some x,λi H=>∃xs,bz K H a xs/\xs.length<=i⟩
def PM(lo:Int)(n:Nat):It:=⟨λi _=>i<n,λi H x H'=>H'=H/\x=.int (lo+i),λi _=>n<=i⟩
theorem HU{P:Program}{w:World}{K:W.Frag}{tg:Expr}(a it:Addr):Turn P w K tg (RZ K a) [it] it (λi h=>h.IsListIter it a i) where
 mem:=by simp
 obj:=λi h st b hb=>by
  have e:b=it:=by simpa using hb
  subst e
  obtain⟨o,e,c,d⟩:=st
  exact⟨o,e,λv z=>by rw[d]at z;cases z⟩
 keep:=λi h h' st k=>st.at λo e=>k it (by simp) o e
 item:=by
  intro X hP hw hK hc i pins s σ H E I hf st hg
  subst hP hw hK
  obtain⟨xs,x,hq,hx⟩:=hg
  obtain⟨its,rv,p,hz⟩:=I.list hq
  obtain⟨u,hu,ru⟩:=rv.get hx
  obtain⟨f0,f1,f2,f3,f4,f5⟩:=hf it (by simp)
  refine wpAny_pyNext_list_item st p.isList (x:=u) (by simpa using hu) λh' st' sb=>?_
  have I1:Inv X pins σ H {s with heap:=h'}:=I.turned (t':=s.toks) (λb o hb e=>(sb.2 b hb).trans e) f0 f1 f3 f4 f5
  obtain⟨o,e,c,d⟩:=id st'
  exact⟨u,rfl,AH (s:={s with heap:=h'}) e c d (by decide) ⟨x,H,I1,ru,⟨rfl,λys hy=>by rw[I.DB hy hq];exact hx⟩,st',λb hb=>(hf b hb).1⟩⟩
 done:=by
  intro X hP hw hK hc i pins s σ H E I hf st hg
  subst hP hw hK
  obtain⟨xs,hq,hx⟩:=hg
  obtain⟨its,rv,p,hz⟩:=I.list hq
  obtain⟨f0,f1,f2,f3,f4,f5⟩:=hf it (by simp)
  have hl:=rv.length
  exact wpAny_pyNext_list_end (I.ok.hd hc) st p.isList (by simp;omega) λh' eb=>⟨rfl,I.turned (t':=s.toks) (λb o hb e=>eb b o hb e) f0 f1 f3 f4 f5⟩
 self:=λ_ _ _ _ _ st h=>wpAny_pyIter_listiter st h
theorem E3{P:Program}{w:World}{K:W.Frag}{tg:Expr}(a it:Addr):Turn P w K tg (SK K a) [it] it (λi h=>h.IsTupleIter it a i) where
 mem:=by simp
 obj:=λi h st b hb=>by
  have e:b=it:=by simpa using hb
  subst e
  obtain⟨o,e,c,d⟩:=st
  exact⟨o,e,λv z=>by rw[d]at z;cases z⟩
 keep:=λi h h' st k=>st.at λo e=>k it (by simp) o e
 item:=by
  intro X hP hw hK hc i pins s σ H E I hf st hg
  subst hP hw hK
  obtain⟨xs,x,hq,hx⟩:=hg
  obtain⟨its,rv,p,hz⟩:=I.tuple hq
  obtain⟨u,hu,ru⟩:=rv.get hx
  obtain⟨f0,f1,f2,f3,f4,f5⟩:=hf it (by simp)
  refine wpAny_pyNext_tuple_item st (show s.heap.IsTuple a its.toArray from p) (x:=u) (by simpa using hu) λh' st' sb=>?_
  have I1:Inv X pins σ H {s with heap:=h'}:=I.turned (t':=s.toks) (λb o hb e=>(sb.2 b hb).trans e) f0 f1 f3 f4 f5
  obtain⟨o,e,c,d⟩:=id st'
  exact⟨u,rfl,AH (s:={s with heap:=h'}) e c d (by decide) ⟨x,H,I1,ru,⟨rfl,λys hy=>by rw[I.HS hy hq];exact hx⟩,st',λb hb=>(hf b hb).1⟩⟩
 done:=by
  intro X hP hw hK hc i pins s σ H E I hf st hg
  subst hP hw hK
  obtain⟨xs,hq,hx⟩:=hg
  obtain⟨its,rv,p,hz⟩:=I.tuple hq
  obtain⟨f0,f1,f2,f3,f4,f5⟩:=hf it (by simp)
  have hl:=rv.length
  exact wpAny_pyNext_tuple_end (I.ok.hd hc) st (show s.heap.IsTuple a its.toArray from p) (by simp;omega) λh' eb=>⟨rfl,I.turned (t':=s.toks) (λb o hb e=>eb b o hb e) f0 f1 f3 f4 f5⟩
 self:=λ_ _ _ _ _ st h=>wpAny_pyIter_tupleiter st h
theorem E4{P:Program}{w:World}{K:W.Frag}{tg:Expr}(it:Addr)(lo:Int)(n:Nat):Turn P w K tg (PM lo n) [it] it (λi h=>IsRangeIter h it (lo+(i:Nat)*1) ((n:Int)-(i:Nat)) 1) where
 mem:=by simp
 obj:=λi h st b hb=>by
  have e:b=it:=by simpa using hb
  subst e
  exact⟨_,st,λv z=>by
   have z':Data.fields _=Data.cell v:=z
   cases z'⟩
 keep:=λi h h' st k=>k it (by simp) _ st
 item:=by
  intro X hP hw hK hc i pins s σ H E I hf st hg
  subst hP hw hK
  obtain⟨f0,f1,f2,f3,f4,f5⟩:=hf it (by simp)
  have W:=Walks.range (prog:=X.prog) (w:=X.w) (I.ok.hd hc) it lo 1 n
  refine W.item i s _ _ hg st λv h' tk hv st' kk=>?_
  obtain⟨t,rfl⟩:=hv
  have I1:Inv X pins σ H {s with heap:=h',toks:=tk}:=I.turned (λb o hb e=>kk b o (by simpa using hb) e) f0 f1 f3 f4 f5
  refine⟨_,rfl,AH (s:={s with heap:=h',toks:=tk}) (n:="range_iterator") st' rfl rfl (by decide) ⟨.int (lo+i),H,I1,⟨t,?_⟩,⟨rfl,rfl⟩,st',λb hb=>(hf b hb).1⟩⟩
  rw[Int.mul_one]
 done:=by
  intro X hP hw hK hc i pins s σ H E I hf st hg
  subst hP hw hK
  obtain⟨f0,f1,f2,f3,f4,f5⟩:=hf it (by simp)
  exact wpAny_pyNext_range_end (I.ok.hd hc) st (by have:n<=i:=hg;omega) λh' eb=>⟨rfl,I.turned (t':=s.toks) (λb o hb e=>eb b o hb e) f0 f1 f3 f4 f5⟩
 self:=λ_ _ _ _ _ st h=>wpAny_pyIter_rangeiter st h
section
variable{X:Cx}{tg:Expr}
def O1(K:W.Frag)(tl:TE):TI:=λσ H R=>tl σ H λx H1=>∃a,x=.ref a/\(∃xs,bw K H1 a xs)/\R (RZ K a) H1
def SM(K:W.Frag)(tl:TE):TI:=λσ H R=>tl σ H λx H1=>∃a,x=.ref a/\(∃xs,bz K H1 a xs)/\R (SK K a) H1
theorem MQ{l:Expr}{tl:TE}(hl:PE X l tl):PI X tg l (O1 X.K tl):=by
 intro pins s σ H R I h
 refine cC (hl pins s σ H _ I h) λv s1 ⟨x,H1,I1,r1,q1⟩=>?_
 obtain⟨a,e,⟨xs,hq⟩,q⟩:=q1
 subst e
 cases r1
 obtain⟨its,rv,p,hz⟩:=I1.list hq
 refine wpAny_pyIter_list p.isList ?_
 refine⟨s1.heap.objs.size,[s1.heap.objs.size],_,_,H1,rfl,I1.kept (t':=s1.toks) λb o e=>abk _ e,HU a _,⟨_,abE _ rfl,rfl,rfl⟩,λb hb=>?_,q⟩
 have e:b=s1.heap.objs.size:=by simpa using hb
 subst e
 exact I1.vV (abf _) (I1.hok.fresh (abf _))
theorem PN{l:Expr}{tl:TE}(hl:PE X l tl):PI X tg l (SM X.K tl):=by
 intro pins s σ H R I h
 refine cC (hl pins s σ H _ I h) λv s1 ⟨x,H1,I1,r1,q1⟩=>?_
 obtain⟨a,e,⟨xs,hq⟩,q⟩:=q1
 subst e
 cases r1
 obtain⟨its,rv,p,hz⟩:=I1.tuple hq
 refine wpAny_pyIter_tuple (show s1.heap.IsTuple a its.toArray from p) ?_
 refine⟨s1.heap.objs.size,[s1.heap.objs.size],_,_,H1,rfl,I1.kept (t':=s1.toks) λb o e=>abk _ e,E3 a _,⟨_,abE _ rfl,rfl,rfl⟩,λb hb=>?_,q⟩
 have e:b=s1.heap.objs.size:=by simpa using hb
 subst e
 exact I1.vV (abf _) (I1.hok.fresh (abf _))
theorem J8{pins:List (Addr×Obj)}{σ:St}{H:Hp}{s:Shared}{R:It->Hp->Prop}{E:Value->Shared->Prop}{lo hi:Int}{t u v:Tok}{tk:Nat}(I:Inv X pins σ H s)(h1 : -(2 ^ 62)<=lo)(h2:lo<2 ^ 62)(h3 : -(2 ^ 62)<=hi)(h4:hi<2 ^ 62)(q:R (PM lo (hi-lo).toNat) H):wpAny (model X.prog X.w) X.A (pyIter (.ref s.heap.objs.size)) (PIE X pins σ tg R) E {s with heap:=s.heap.push {cls:=.type "range",data:=.fields #[.int lo t,.int hi u,.int 1 v]},toks:=tk}:=by
 refine wpAny_pyIter_range (IsRange.new ..) (small_one h1 h2 h3 h4) ?_
 have I1:Inv X pins σ H {s with heap:=s.heap.push {cls:=.type "range",data:=.fields #[.int lo t,.int hi u,.int 1 v]},toks:=tk}:=I.kept λb o e=>abk _ e
 refine⟨(s.heap.push {cls:=.type "range",data:=.fields #[.int lo t,.int hi u,.int 1 v]}).objs.size,[(s.heap.push {cls:=.type "range",data:=.fields #[.int lo t,.int hi u,.int 1 v]}).objs.size],_,_,H,rfl,I1.kept (t':=tk) λb o e=>abk _ e,E4 _ lo (hi-lo).toNat,?_,λb hb=>?_,q⟩
 ·have e1:lo+((0:Nat):Int)*1=lo:=by simp
  have e2:(((hi-lo).toNat:Nat):Int)-((0:Nat):Int)=Builtin.Range.rangeSize lo hi 1:=by rw[rangeSize_one];split<;>omega
  show IsRangeIter _ _ (lo+((0:Nat):Int)*1) ((((hi-lo).toNat:Nat):Int)-((0:Nat):Int)) 1
  rw[e1,e2]
  exact abE _ rfl
 ·have e:b=(s.heap.push {cls:=.type "range",data:=.fields #[.int lo t,.int hi u,.int 1 v]}).objs.size:=by simpa using hb
  subst e
  exact I1.vV (abf _) (I1.hok.fresh (abf _))
def SN(ta:TA):TI:=λσ H R=>ta σ H λvs H1=>∃j:Int,vs=[.int j]/\-(2 ^ 62)<=j/\j<2 ^ 62/\R (PM 0 j.toNat) H1
theorem gJ{a:Expr}{ta:TA}{p pos:Pos}(hg:Gl X "range")(hm:X.mg "range"=none)(ha:PA X [a] ta)(hs:starEach [a] X.env=[(false,eval a X.env)]:=by rfl):PI X tg (.Call (.Name "range" p) [a] [] pos) (SN ta):=by
 intro pins s σ H R I h
 refine Call_ (tX I hg hm boot_range (acG (cC (ha pos pins s σ H _ I h) λus s1 ⟨vs,H1,I1,r1,q1⟩=>?_) hs rfl))
 obtain⟨j,e,q1,q2,q⟩:=q1
 subst e
 cases r1 with
 |cons r rr =>
  cases rr
  obtain⟨t,rfl⟩:=r
  exact call_range_1 (J8 I1 (by omega) (by omega) q1 q2 (by simpa using q))
def We(wi:TI)(g:TG)(tb:TS):TS:=λD σ H=>wi σ H λJ H1=>∃W:Nat->Nat->St->Hp->Prop,(∃m,W 0 m σ H1)/\∀i m σ H,W i m σ H->(J.stop i H/\D.nx σ H)\/(J.go i H/\∃N:St->Hp->Prop,(∀σ' H',N σ' H'->∃m',m'<m/\W (i+1) m' σ' H')/\∀x H',J.MG i H x H'->g x σ H' λσ2 H2=>tb {D with nx:=N,ct:=N,bk:=D.nx} σ2 H2)
def tZ(fp:List Addr)(h:Heap):List (Addr×Obj):=fp.filterMap λb=>(h.get? b).map λo=>(b,o)
theorem iB{fp:List Addr}{h:Heap}{b:Addr}{o:Obj}(hb:b∈fp)(e:h.get? b=some o):(b,o)∈tZ fp h:=acs.mpr ⟨b,hb,by rw[e];rfl⟩
theorem HV{fp:List Addr}{h:Heap}{p:Addr×Obj}(hp:p∈tZ fp h):p.1∈fp/\h.get? p.1=some p.2:=by
 obtain⟨b,hb,e⟩:=acs.mp hp
 cases q:h.get? b with
 |none=>rw[q]at e;cases e
 |some o =>
  rw[q]at e
  have e':(b,o)=p:=abH e
  subst e'
  exact⟨hb,q⟩
theorem Inv.pinned{pins:List (Addr×Obj)}{σ:St}{H:Hp}{s:Shared}{fp:List Addr}(I:Inv X pins σ H s)(hf:∀b∈fp,lQ X pins H b)(ho:∀b∈fp,∃o,s.heap.get? b=some o/\∀v,o.data≠.cell v):Inv X (pins++tZ fp s.heap) σ H s :=
 I.GL λp hp=>(abp.mp hp).elim (λz=>I.pin p (abD _ z)) λz=>by
  obtain⟨hb,e⟩:=HV z
  obtain⟨f0,f1,f2,_⟩:=hf p.1 hb
  obtain⟨o,e',d⟩:=ho p.1 hb
  rw[e]at e';cases e'
  exact⟨e,f0,f1,f2,d⟩
theorem Inv.nG{pins pl:List (Addr×Obj)}{σ:St}{H:Hp}{s:Shared}(I:Inv X (pins++pl) σ H s):Inv X pins σ H s:=I.GL λp hp=>I.pin p (abD _ (ab0 _ hp))
theorem dO{iter:Expr}{body:List Stmt}{wi:TI}{g:TG}{tb:TS}{pos:Pos}(hp:PassesOwn (model X.prog X.w) X.A X.env X.xe)(hc:X.calm=true)(hi:PI X tg iter wi)(hg:PG X tg g)(hb:DA X body tb)(hs:∀x,foldedSetIterable iter X.env x=pure x:=by intro _;rfl):PS X (.For tg iter body [] pos) (We wi g tb):=by
 intro pins s σ H D I h
 refine wpAny_For (cC (hi pins s σ H _ I h) λv s1 h1=>cC h1 λitv s2 h2=>?_) hs
 obtain⟨it,fp,tn,J,H2,e,I2,T,st2,f2,W,⟨m0,w0⟩,turn⟩:=h2
 subst e
 have xX:∀{H':Hp},(∀b∈fp,H' b=none)->∀b∈fp,lQ X pins H' b:=λhn b hb=>⟨hn b hb,(f2 b hb).2⟩
 refine codeAny_forLoop_any (λn s'=>∃i σ' H',Inv X pins σ' H' s'/\tn i s'.heap/\(∀b∈fp,H' b=none)/\W i n σ' H') ?_ m0 ⟨0,σ,H2,I2,st2,λb hb=>(f2 b hb).1,w0⟩
 rintro n s3 ⟨i,σ3,H3,I3,st3,fr3,w3⟩
 rcases turn i n σ3 H3 w3 with ⟨stop,qn⟩|⟨go,N,hN,step⟩
 ·refine acI hp (cC (T.done X rfl rfl rfl hc i pins s3 σ3 H3 X.xe I3 (xX fr3) st3 stop) λr s4 ⟨hr,I4⟩=>?_)
  subst hr
  exact wpAny_execs_nil ⟨σ3,H3,I4,qn⟩
 ·refine acI hp (cC (T.item X rfl rfl rfl hc i pins s3 σ3 H3 X.xe I3 (xX fr3) st3 go) λr s4 ⟨u,hr,h4⟩=>?_)
  subst hr
  refine acI hp (cC h4 λ_ s5 ⟨x,H5,I5,r5,y5,Wf,fr5⟩=>?_)
  have I5':=I5.pinned (xX fr5) (T.obj _ _ Wf)
  refine acI hp (cC (hg _ s5 σ3 H5 x u _ I5' r5 (step x H5 y5)) λ_ s6 ⟨σ6,H6,I6,q6⟩=>?_)
  refine acI hp (cC (hb _ s6 σ6 H6 _ I6 q6) λf s7 q7=>?_)
  have again:∀{σ7:St}{H7:Hp},Inv X (pins++tZ fp s5.heap) σ7 H7 s7->N σ7 H7->∃m,m<n/\∃i σ' H',Inv X pins σ' H' s7/\tn i s7.heap/\(∀b∈fp,H' b=none)/\W i m σ' H':=λ{σ7 H7} I7 n7=>by
   obtain⟨m',hm,w7⟩:=hN σ7 H7 n7
   refine⟨m',hm,i+1,σ7,H7,I7.nG,T.keep _ _ _ Wf λb hb o e=>(I7.pin (b,o) (abD _ (abD _ (iB hb e)))).1,λb hb=>?_,w7⟩
   obtain⟨o,e,d⟩:=T.obj _ _ Wf b hb
   exact(I7.pin (b,o) (abD _ (abD _ (iB hb e)))).2.1
  cases f with
  |next=>obtain⟨σ7,H7,I7,n7⟩:=q7;exact again I7 n7
  |cont=>obtain⟨σ7,H7,I7,n7⟩:=q7;exact again I7 n7
  |brk=>obtain⟨σ7,H7,I7,q7⟩:=q7;exact⟨σ7,H7,I7.nG,q7⟩
  |ret v=>obtain⟨x7,σ7,H7,I7,r7,q7⟩:=q7;exact⟨x7,σ7,H7,I7.nG,r7,q7⟩
end
theorem jD{K:W.Frag}{a:Addr}{xs:List V}{g:TG}{tb:TS}{D:Ends}{σ:St}{H:Hp}(Pv:Nat->St->Hp->Prop)(h0:Pv 0 σ H)(hl:∀i σ H,i<=xs.length->Pv i σ H->bw K H a xs)(hs:∀i x σ H,xs[i]?=some x->Pv i σ H->g x σ H λσ2 H2=>tb {D with nx:=Pv (i+1),ct:=Pv (i+1),bk:=D.nx} σ2 H2)(hd:∀σ H,Pv xs.length σ H->D.nx σ H):∃W:Nat->Nat->St->Hp->Prop,(∃m,W 0 m σ H)/\∀i m σ H,W i m σ H->((RZ K a).stop i H/\D.nx σ H)\/((RZ K a).go i H/\∃N:St->Hp->Prop,(∀σ' H',N σ' H'->∃m',m'<m/\W (i+1) m' σ' H')/\∀x H',(RZ K a).MG i H x H'->g x σ H' λσ2 H2=>tb {D with nx:=N,ct:=N,bk:=D.nx} σ2 H2):=by
 refine⟨λi m σ H=>m=xs.length-i/\i<=xs.length/\Pv i σ H,⟨xs.length,by simp,abO _,h0⟩,?_⟩
 rintro i m σ H ⟨rfl,hi,p⟩
 have q:=hl i σ H hi p
 by_cases hlt:i<xs.length
 ·refine .inr ⟨⟨xs,xs[i],q,by simp[hlt]⟩,Pv (i+1),λσ' H' p'=>⟨xs.length-(i+1),by omega,rfl,hlt,p'⟩,λx H' y=>?_⟩
  obtain⟨e,y⟩:=y
  subst e
  exact hs i x σ _ (y xs q) p
 ·have e:i=xs.length:=by omega
  subst e
  exact .inl ⟨⟨xs,q,abf _⟩,hd σ H p⟩
theorem MR{K:W.Frag}{a:Addr}{xs:List V}{g:TG}{tb:TS}{D:Ends}{σ:St}{H:Hp}(Pv:Nat->St->Hp->Prop)(h0:Pv 0 σ H)(hl:∀i σ H,i<=xs.length->Pv i σ H->bz K H a xs)(hs:∀i x σ H,xs[i]?=some x->Pv i σ H->g x σ H λσ2 H2=>tb {D with nx:=Pv (i+1),ct:=Pv (i+1),bk:=D.nx} σ2 H2)(hd:∀σ H,Pv xs.length σ H->D.nx σ H):∃W:Nat->Nat->St->Hp->Prop,(∃m,W 0 m σ H)/\∀i m σ H,W i m σ H->((SK K a).stop i H/\D.nx σ H)\/((SK K a).go i H/\∃N:St->Hp->Prop,(∀σ' H',N σ' H'->∃m',m'<m/\W (i+1) m' σ' H')/\∀x H',(SK K a).MG i H x H'->g x σ H' λσ2 H2=>tb {D with nx:=N,ct:=N,bk:=D.nx} σ2 H2):=by
 refine⟨λi m σ H=>m=xs.length-i/\i<=xs.length/\Pv i σ H,⟨xs.length,by simp,abO _,h0⟩,?_⟩
 rintro i m σ H ⟨rfl,hi,p⟩
 have q:=hl i σ H hi p
 by_cases hlt:i<xs.length
 ·refine .inr ⟨⟨xs,xs[i],q,by simp[hlt]⟩,Pv (i+1),λσ' H' p'=>⟨xs.length-(i+1),by omega,rfl,hlt,p'⟩,λx H' y=>?_⟩
  obtain⟨e,y⟩:=y
  subst e
  exact hs i x σ _ (y xs q) p
 ·have e:i=xs.length:=by omega
  subst e
  exact .inl ⟨⟨xs,q,abf _⟩,hd σ H p⟩
theorem jB{lo:Int}{n:Nat}{g:TG}{tb:TS}{D:Ends}{σ:St}{H:Hp}(Pv:Nat->St->Hp->Prop)(h0:Pv 0 σ H)(hs:∀i σ H,i<n->Pv i σ H->g (.int (lo+i)) σ H λσ2 H2=>tb {D with nx:=Pv (i+1),ct:=Pv (i+1),bk:=D.nx} σ2 H2)(hd:∀σ H,Pv n σ H->D.nx σ H):∃W:Nat->Nat->St->Hp->Prop,(∃m,W 0 m σ H)/\∀i m σ H,W i m σ H->((PM lo n).stop i H/\D.nx σ H)\/((PM lo n).go i H/\∃N:St->Hp->Prop,(∀σ' H',N σ' H'->∃m',m'<m/\W (i+1) m' σ' H')/\∀x H',(PM lo n).MG i H x H'->g x σ H' λσ2 H2=>tb {D with nx:=N,ct:=N,bk:=D.nx} σ2 H2):=by
 refine⟨λi m σ H=>m=n-i/\i<=n/\Pv i σ H,⟨n,by simp,abO _,h0⟩,?_⟩
 rintro i m σ H ⟨rfl,hi,p⟩
 by_cases hlt:i<n
 ·refine .inr ⟨hlt,Pv (i+1),λσ' H' p'=>⟨n-(i+1),by omega,rfl,hlt,p'⟩,λx H' y=>?_⟩
  obtain⟨e,y⟩:=y
  subst e y
  exact hs i σ _ hlt p
 ·have e:i=n:=by omega
  subst e
  exact .inl ⟨abf _,hd σ H p⟩
abbrev R2:=V->V->Hp->VK->Prop
def nD(X:Cx)(f:Value->Value->Sem Value)(r:R2):Prop :=
 ∀(pins:List (Addr×Obj))(s:Shared)(σ:St)(H:Hp)(x y:V)(v u:Value)(Q:VK),Inv X pins σ H s->RelV x v->RelV y u->r x y H Q->wpAny (model X.prog X.w) X.A (f v u) (EP X pins σ Q) X.xe s
def Wg(X:Cx)(f:Value->Sem Value)(r:V->Hp->VK->Prop):Prop :=
 ∀(pins:List (Addr×Obj))(s:Shared)(σ:St)(H:Hp)(x:V)(v:Value)(Q:VK),Inv X pins σ H s->RelV x v->r x H Q->wpAny (model X.prog X.w) X.A (f v) (EP X pins σ Q) X.xe s
def gK(X:Cx)(f:Value)(r:List V->Hp->VK->Prop):Prop :=
 ∀(pins:List (Addr×Obj))(s:Shared)(σ:St)(H:Hp)(xs:List V)(us:List Value)(Q:VK),Inv X pins σ H s->Vals xs us->r xs H Q->wpAny (model X.prog X.w) X.A (call f us) (EP X pins σ Q) X.xe s
def HW(r:R2)(ta tb:TE):TE:=λσ H Q=>ta σ H λx H1=>tb σ H1 λy H2=>r x y H2 Q
def tUn(r:V->Hp->VK->Prop)(ta:TE):TE:=λσ H Q=>ta σ H λx H1=>r x H1 Q
def rI(C:Int->Int->Prop)(g:Int->Int->V):R2:=λx y H Q=>∃i j,x=.int i/\y=.int j/\C i j/\Q (g i j) H
def O2(g:Int->Int->V):R2:=λx y H Q=>∃i j,x=.int i/\y=.int j/\Q (g i j) H
def rU(g:Int->V):V->Hp->VK->Prop:=λx H Q=>∃i,x=.int i/\Q (g i) H
section
variable{X:Cx}{a b c:Expr}{ta tb tc:TE}{pos:Pos}
theorem PU(ha:PE X a ta)(hb:PE X b tb){pins:List (Addr×Obj)}{s:Shared}{σ:St}{H:Hp}{R:V->V->Hp->Prop}(I:Inv X pins σ H s)(h:ta σ H λx H1=>tb σ H1 λy H2=>R x y H2){Q:Value->Shared->Prop}{f:Value->Value->Sem Value}(hf:∀v u s2 x y H2,Inv X pins σ H2 s2->RelV x v->RelV y u->R x y H2->wpAny (model X.prog X.w) X.A (f v u) Q X.xe s2):wpAny (model X.prog X.w) X.A (eval a X.env) (λv s₁=>wpAny (model X.prog X.w) X.A (eval b X.env) (λu s₂=>wpAny (model X.prog X.w) X.A (f v u) Q X.xe s₂) X.xe s₁) X.xe s:=by
 refine cC (ha pins s σ H _ I h) λv s1 ⟨x,H1,I1,r1,q1⟩=>?_
 refine cC (hb pins s1 σ H1 _ I1 q1) λu s2 ⟨y,H2,I2,r2,q2⟩=>?_
 exact hf v u s2 x y H2 I2 r1 r2 q2
theorem aJ{op:Operator}{r:R2}(ho:nD X (binaryOp op) r)(ha:PE X a ta)(hb:PE X b tb):PE X (.BinOp a op b pos) (HW r ta tb):=by
 intro pins s σ H Q I h
 exact wpAny_BinOp (PU ha hb I h λv u s2 x y H2 I2 rx ry q=>ho pins s2 σ H2 x y v u Q I2 rx ry q)
theorem SO{op:UnaryOp}{r:V->Hp->VK->Prop}(ho:Wg X (unaryOp op) r)(ha:PE X a ta):PE X (.UnaryOp op a pos) (tUn r ta):=by
 intro pins s σ H Q I h
 exact UnaryOp_ (cC (ha pins s σ H _ I h) λv s1 ⟨x,H1,I1,r1,q1⟩=>ho pins s1 σ H1 x v Q I1 r1 q1)
theorem VC{f:Value->Value->Sem Value}{C:Int->Int->Prop}{g:Int->Int->Int}(rule:∀(i j:Int)(t u:Tok)(s:Shared)(Q:Value->Shared->Prop)(E:Value->Shared->Prop),C i j->Q (.int (g i j) s.toks) {s with toks:=s.toks+1}->wpAny (model X.prog X.w) X.A (f (.int i t) (.int j u)) Q E s):nD X f (rI C λi j=>.int (g i j)):=by
 intro pins s σ H x y v u Q I rx ry h
 obtain⟨i,j,rfl,rfl,hc,q⟩:=h
 obtain⟨t,rfl⟩:=rx
 obtain⟨t',rfl⟩:=ry
 exact rule i j t t' s _ _ hc ⟨.int (g i j),H,I.tok _,⟨_,rfl⟩,q⟩
theorem SQ{f:Value->Value->Sem Value}{g:Int->Int->Int}(rule:∀(i j:Int)(t u:Tok)(s:Shared)(Q:Value->Shared->Prop)(E:Value->Shared->Prop),Q (.int (g i j) s.toks) {s with toks:=s.toks+1}->wpAny (model X.prog X.w) X.A (f (.int i t) (.int j u)) Q E s):nD X f (O2 λi j=>.int (g i j)):=by
 intro pins s σ H x y v u Q I rx ry h
 obtain⟨i,j,rfl,rfl,q⟩:=h
 obtain⟨t,rfl⟩:=rx
 obtain⟨t',rfl⟩:=ry
 exact rule i j t t' s _ _ ⟨.int (g i j),H,I.tok _,⟨_,rfl⟩,q⟩
theorem MS{f:Value->Value->Sem Value}{g:Int->Int->Bool}(rule:∀(i j:Int)(t u:Tok)(s:Shared)(Q:Value->Shared->Prop)(E:Value->Shared->Prop),Q (.bool (g i j)) s->wpAny (model X.prog X.w) X.A (f (.int i t) (.int j u)) Q E s):nD X f (O2 λi j=>.bl (g i j)):=by
 intro pins s σ H x y v u Q I rx ry h
 obtain⟨i,j,rfl,rfl,q⟩:=h
 obtain⟨t,rfl⟩:=rx
 obtain⟨t',rfl⟩:=ry
 exact rule i j t t' s _ _ ⟨.bl (g i j),H,I,rfl,q⟩
def Wh(i j:Int):Prop:=0<j/\j<1073741824
def PV(i j:Int):Prop:=0<=j/\j<=1000000/\i.natAbs<2 ^ 64
def PX(i j:Int):Prop:=(-(2 ^ 64)<i/\i<2 ^ 64)\/(-(2 ^ 64)<j/\j<2 ^ 64)
theorem PX.ok{i j:Int}(h:PX i j):IntMulOk i j:=by
 rcases h with ⟨h1,h2⟩|⟨h1,h2⟩
 ·exact .of_left (intBits_le_64 h1 h2)
 ·exact .of_right (intBits_le_64 h1 h2)
theorem cX:nD X (binaryOp .Add) (O2 λi j=>.int (i+j)):=SQ λ_ _ _ _ _ _ _ q=>add_int q
theorem E5:nD X (binaryOp .Sub) (O2 λi j=>.int (i-j)):=SQ λ_ _ _ _ _ _ _ q=>sub_int q
theorem jE:nD X (binaryOp .Mult) (rI PX λi j=>.int (i*j)):=VC λ_ _ _ _ _ _ _ hc q=>mul_int q hc.ok
theorem gy:nD X (binaryOp .FloorDiv) (rI Wh λi j=>.int (i / j)):=VC λi j _ _ _ _ _ hc q=>by
 have h1:(0:Int)<j:=hc.1
 have h2:j<1073741824:=hc.2
 exact floordiv_int (by omega) (by rw[Int.fdiv_eq_ediv_of_nonneg i (by omega)];exact q) (.inl (PyProof.noPylong_small (by omega)))
theorem cY:nD X (binaryOp .Mod) (rI (λ_ j=>0<j) λi j=>.int (i % j)):=VC λi j _ _ _ _ _ hc q=>by
 have h1:(0:Int)<j:=hc
 exact mod_int' (by omega) (by rw[Int.fmod_eq_emod_of_nonneg i (by omega)];exact q)
theorem E6:nD X (binaryOp .Pow) (rI PV λi j=>.int (i ^ j.toNat)):=VC λ_ _ _ _ _ _ _ hc q=>pow_int_small hc.1 hc.2.1 hc.2.2 q
theorem unI{f:Value->Sem Value}{g:Int->Int}(rule:∀(i:Int)(t:Tok)(s:Shared)(Q:Value->Shared->Prop)(E:Value->Shared->Prop),Q (.int (g i) s.toks) {s with toks:=s.toks+1}->wpAny (model X.prog X.w) X.A (f (.int i t)) Q E s):Wg X f (rU λi=>.int (g i)):=by
 intro pins s σ H x v Q I rx h
 obtain⟨i,rfl,q⟩:=h
 obtain⟨t,rfl⟩:=rx
 exact rule i t s _ _ ⟨.int (g i),H,I.tok _,⟨_,rfl⟩,q⟩
theorem PY:Wg X (unaryOp .USub) (rU λi=>.int (-i)):=unI λ_ _ _ _ _ q=>neg_int q
end
def SR:V->V->Bool
 | .non,.non=>true | .non,.int _=>true | .int _,.non=>true | .non,.bl _=>true | .bl _,.non=>true | .non,.str _=>true | .str _,.non=>true
 | .int _,.int _=>true | .bl _,.bl _=>true | .str _,.str _=>true | .JH _,.JH _=>true
 | .int _,.str _=>true | .str _,.int _=>true | .bl _,.str _=>true | .str _,.bl _=>true
 |_,_=>false
def rEq:R2:=λx y H Q=>SR x y=true/\Q (.bl (decide (x=y))) H
def rNe:R2:=λx y H Q=>SR x y=true/\Q (.bl (!decide (x=y))) H
theorem GO{i j:Int}:decide (V.int i=V.int j)=(i==j):=by
 rw[acy]
 simp
theorem J9{i j:Bool}:decide (V.bl i=V.bl j)=(i==j):=by
 rw[acy]
 simp
theorem GP{i j:Str}:decide (V.str i=V.str j)=(i==j):=by
 rw[acy]
 simp
theorem GQ{i j:Array UInt8}:decide (V.JH i=V.JH j)=(i.toList==j.toList):=by
 rw[acy]
 cases i
 cases j
 simp
section
variable{X:Cx}{a b c:Expr}{ta tb tc:TE}{pos:Pos}
theorem bK{pins:List (Addr×Obj)}{σ:St}{H:Hp}{s:Shared}{Q:VK}{k k':Bool}(I:Inv X pins σ H s)(q:Q (.bl k) H)(e:k=k'):EP X pins σ Q (.bool k') s:=by
 subst e
 exact⟨.bl k,H,I,O,q⟩
theorem aZ:nD X (compareOp .Eq) rEq:=by
 intro pins s σ H x y v u Q I rx ry h
 obtain⟨hs,q⟩:=h
 cases x with
 |non =>
  cases rx
  cases y with
  |non=>cases ry;exact PySem.EqNone.eq_none_none (bK I q (by simp))
  |bl j=>cases ry;exact PySem.EqNone.eq_none_bool (bK I q (by simp))
  |int j=>obtain⟨t',rfl⟩:=ry;exact PySem.EqNone.eq_none_int (bK I q (by simp))
  |str j=>obtain⟨t',rfl⟩:=ry;exact PySem.EqNone.eq_none_str (bK I q (by simp))
  |_=>exact absurd (show false=true from hs) abv
 |bl i =>
  cases rx
  cases y with
  |non=>cases ry;exact PySem.EqNone.eq_bool_none (bK I q (by simp))
  |bl j=>cases ry;exact eq_bool (bK I q J9)
  |str j=>obtain⟨t',rfl⟩:=ry;exact PySem.EqMixed.eq_bool_str (bK I q (by simp))
  |_=>exact absurd (show false=true from hs) abv
 |int i =>
  obtain⟨t,rfl⟩:=rx
  cases y with
  |non=>cases ry;exact PySem.EqNone.eq_int_none (bK I q (by simp))
  |int j=>obtain⟨t',rfl⟩:=ry;exact eq_int (bK I q GO)
  |str j=>obtain⟨t',rfl⟩:=ry;exact PySem.EqMixed.eq_int_str (bK I q (by simp))
  |_=>exact absurd (show false=true from hs) abv
 |str i =>
  obtain⟨t,rfl⟩:=rx
  cases y with
  |non=>cases ry;exact PySem.EqNone.eq_str_none (bK I q (by simp))
  |bl j=>cases ry;exact PySem.EqMixed.eq_str_bool (bK I q (by simp))
  |int j=>obtain⟨t',rfl⟩:=ry;exact PySem.EqMixed.eq_str_int (bK I q (by simp))
  |str j=>obtain⟨t',rfl⟩:=ry;exact eq_str (bK I q GP)
  |_=>exact absurd (show false=true from hs) abv
 |JH i =>
  obtain⟨t,rfl⟩:=rx
  cases y with
  |JH j=>obtain⟨t',rfl⟩:=ry;exact W.eq_bytes (bK I q GQ)
  |_=>exact absurd (show false=true from hs) abv
 |_=>cases y<;>exact absurd (show false=true from hs) abv
theorem u9:nD X (compareOp .NotEq) rNe:=by
 intro pins s σ H x y v u Q I rx ry h
 obtain⟨hs,q⟩:=h
 cases x with
 |non =>
  cases rx
  cases y with
  |non=>cases ry;exact PySem.EqNone.ne_none_none (bK I q (by simp))
  |bl j=>cases ry;exact PySem.EqNone.ne_none_bool (bK I q (by simp))
  |int j=>obtain⟨t',rfl⟩:=ry;exact PySem.EqNone.ne_none_int (bK I q (by simp))
  |str j=>obtain⟨t',rfl⟩:=ry;exact PySem.EqNone.ne_none_str (bK I q (by simp))
  |_=>exact absurd (show false=true from hs) abv
 |bl i =>
  cases rx
  cases y with
  |non=>cases ry;exact PySem.EqNone.ne_bool_none (bK I q (by simp))
  |bl j=>cases ry;exact ne_bool (bK I q (congrArg not J9))
  |str j=>obtain⟨t',rfl⟩:=ry;exact PySem.EqMixed.ne_bool_str (bK I q (by simp))
  |_=>exact absurd (show false=true from hs) abv
 |int i =>
  obtain⟨t,rfl⟩:=rx
  cases y with
  |non=>cases ry;exact PySem.EqNone.ne_int_none (bK I q (by simp))
  |int j=>obtain⟨t',rfl⟩:=ry;exact ne_int (bK I q (congrArg not GO))
  |str j=>obtain⟨t',rfl⟩:=ry;exact PySem.EqMixed.ne_int_str (bK I q (by simp))
  |_=>exact absurd (show false=true from hs) abv
 |str i =>
  obtain⟨t,rfl⟩:=rx
  cases y with
  |non=>cases ry;exact PySem.EqNone.ne_str_none (bK I q (by simp))
  |bl j=>cases ry;exact PySem.EqMixed.ne_str_bool (bK I q (by simp))
  |int j=>obtain⟨t',rfl⟩:=ry;exact PySem.EqMixed.ne_str_int (bK I q (by simp))
  |str j=>obtain⟨t',rfl⟩:=ry;exact ne_str (bK I q (congrArg not GP))
  |_=>exact absurd (show false=true from hs) abv
 |JH i =>
  obtain⟨t,rfl⟩:=rx
  cases y with
  |JH j=>obtain⟨t',rfl⟩:=ry;exact W.ne_bytes (bK I q (congrArg not GQ))
  |_=>exact absurd (show false=true from hs) abv
 |_=>cases y<;>exact absurd (show false=true from hs) abv
theorem DC:nD X (compareOp .Lt) (O2 λi j=>.bl (decide (i<j))):=MS λ_ _ _ _ _ _ _ q=>lt_int q
theorem Ka:nD X (compareOp .LtE) (O2 λi j=>.bl (decide (i<=j))):=MS λ_ _ _ _ _ _ _ q=>le_int q
theorem qW:nD X (compareOp .Gt) (O2 λi j=>.bl (decide (j<i))):=MS λ_ _ _ _ _ _ _ q=>gt_int q
theorem Kc:nD X (compareOp .GtE) (O2 λi j=>.bl (decide (j<=i))):=MS λ_ _ _ _ _ _ _ q=>ge_int q
theorem cD:nD X (compareOp .In) (λx y H Q=>∃i j,x=.str i/\y=.str j/\Q (.bl (!(Builtin.Str.occurrences j i 0 j.length 1).isEmpty)) H):=by
 intro pins s σ H x y v u Q I rx ry h
 obtain⟨i,j,rfl,rfl,q⟩:=h
 obtain⟨t,rfl⟩:=rx
 obtain⟨t',rfl⟩:=ry
 exact in_str (bK I q rfl)
theorem t6:nD X (compareOp .Is) (λx y H Q=>y=.non/\Q (.bl (decide (x=.non))) H):=by
 intro pins s σ H x y v u Q I rx ry h
 obtain⟨rfl,q⟩:=h
 cases ry
 refine is_none_gen (bK I q ?_)
 cases x<;>first
  | (cases rx;rfl)
  | (obtain⟨t,rfl⟩:=rx;rfl)
theorem xH:nD X (compareOp .IsNot) (λx y H Q=>y=.non/\Q (.bl (!decide (x=.non))) H):=by
 intro pins s σ H x y v u Q I rx ry h
 obtain⟨rfl,q⟩:=h
 cases ry
 refine isnot_none_gen (bK I q ?_)
 cases x<;>first
  | (cases rx;rfl)
  | (obtain⟨t,rfl⟩:=rx;rfl)
theorem Kd(b:Expr){op:CmpOp}(h:op≠.In:=by decide)(h2:op≠.NotIn:=by decide):behindInMarks op b=false:=by
 have e1:(op==CmpOp.In)=false:=by cases op<;>first|rfl|exact absurd rfl h
 have e2:(op==CmpOp.NotIn)=false:=by cases op<;>first|rfl|exact absurd rfl h2
 cases b<;>simp[behindInMarks,e1,e2]
theorem xJ{op:CmpOp}{r:R2}(ho:nD X (compareOp op) r)(ha:PE X a ta)(hb:PE X b tb)(hm:behindInMarks op b=false):PE X (.Compare a [op] [b] pos) (HW r ta tb):=by
 intro pins s σ H Q I h
 exact wpAny_Compare1 (PU ha hb I h λv u s2 x y H2 I2 rx ry q=>ho pins s2 σ H2 x y v u Q I2 rx ry q) hm
def O3(t:TE):TT:=λσ H Q=>t σ H λx H'=>∃k,x=.bl k/\Q k H'
theorem cI{op:CmpOp}{r:R2}(ho:nD X (compareOp op) r)(ha:PE X a ta)(hb:PE X b tb)(hm:behindInMarks op b=false):PT X (.Compare a [op] [b] pos) (O3 (HW r ta tb)):=by
 intro pins s σ H Q I h
 refine wpAny_isTrue_Compare1 (cC (ha pins s σ H _ I h) λv s1 ⟨x,H1,I1,r1,q1⟩=>cC (hb pins s1 σ H1 _ I1 q1) λu s2 ⟨y,H2,I2,r2,q2⟩ =>
  cC (ho pins s2 σ H2 x y v u _ I2 r1 r2 q2) λc s3 ⟨z,H3,I3,r3,k,e,q3⟩=>?_) hm
 subst e
 cases r3
 exact wpAny_truthy_bool ⟨H3,I3,q3⟩
theorem xY:(sizeLine:Nat)<2 ^ 63:=by rw[sizeLine_eq];decide
theorem bF:nD X (binaryOp .Add) (λx y H Q=>∃i j,x=.str i/\y=.str j/\i.length+j.length<=sizeLine/\Q (.str (i++j)) H):=by
 intro pins s σ H x y v u Q I rx ry h
 obtain⟨i,j,rfl,rfl,hz,q⟩:=h
 obtain⟨t,rfl⟩:=rx
 obtain⟨t',rfl⟩:=ry
 exact add_str (λt' tk=>⟨.str (i++j),H,I.tok _,⟨_,rfl⟩,q⟩) hz
theorem vals1{x:V}{us:List Value}(r:Vals [x] us):∃u,us=[u]/\RelV x u:=by
 cases r with
 |cons r1 r2=>cases r2;exact⟨_,rfl,r1⟩
theorem vals2{x y:V}{us:List Value}(r:Vals [x,y] us):∃u w',us=[u,w']/\RelV x u/\RelV y w':=by
 cases r with
 |cons r1 r2 =>
  cases r2 with
  |cons r3 r4=>cases r4;exact⟨_,_,rfl,r1,r3⟩
theorem lz:gK X (.type "int") (λxs H Q=>(∃i,xs=[.int i]/\Q (.int i) H)\/∃k,xs=[.bl k]/\Q (.int (if k then 1 else 0)) H):=by
 intro pins s σ H xs us Q I r h
 rcases h with ⟨i,rfl,q⟩|⟨k,rfl,q⟩
 ·obtain⟨u,rfl,t,rfl⟩:=vals1 r
  exact call_int_int ⟨.int i,H,I,⟨_,rfl⟩,q⟩
 ·obtain⟨u,rfl,r1⟩:=vals1 r
  cases r1
  exact call_int_bool ⟨.int (if k then 1 else 0),H,I.tok _,⟨_,rfl⟩,q⟩
theorem Ke:gK X (.builtin "ord") (λxs H Q=>∃x,xs=[.str x]/\x.length=1/\Q (.int (x.cps.getD 0 0:Nat)) H):=by
 intro pins s σ H xs us Q I r h
 obtain⟨x,rfl,hz,q⟩:=h
 obtain⟨u,rfl,t,rfl⟩:=vals1 r
 exact ord_of_one hz ⟨.int _,H,I.tok _,⟨_,rfl⟩,q⟩
end
structure E7(h:Heap)(x dx C:Addr)(mA:Str->Option Value):Prop where
 obj:h.get? x=some (W.instObj C dx)
 ns:h.Ns1 dx mA
 ne:dx≠x
theorem t7{h:Heap}{dx:Addr}{mA:Str->Option Value}(n:h.Ns1 dx mA):∃od,h.get? dx=some od/\∀name,W.lookIn name od=some (mA name):=by
 obtain⟨o,es,ep,ho,hd,hk,_,hm⟩:=n
 refine⟨o,ho,λname=>?_⟩
 have e:=hm name
 unfold nsFind findBy at e
 rw[←Array.find?_toList]at e
 unfold W.lookIn
 rw[hd]
 dsimp only
 split
 ·rename_i y q
  rw[q]at e
  exact congrArg some e
 ·rename_i q
  rw[q]at e
  have a:es.toList.any (·.refKey)=false:=by
   rw[List.any_eq_false]
   intro y hy
   obtain⟨z,t,hkey⟩:=hk y (Array.mem_toList_iff.mp hy)
   simp[DictEntry.refKey,hkey]
  have a':¬es.toList.any (·.refKey)=true:=by rw[a];exact abv
  rw[abb a']
  exact congrArg some e
theorem E7.look{h:Heap}{x dx C:Addr}{mA:Str->Option Value}(I:E7 h x dx C mA):∃od,W.InstAt h x (W.instObj C dx) C (some od)/\∀name,W.lookIn name od=some (mA name) :=
 let ⟨od,ho,hl⟩:=t7 I.ns
 ⟨od,⟨I.obj,rfl,rfl,ho⟩,hl⟩
section
variable{prog:Program}{w:World}{A:Around}{E:Value->Shared->Prop}{s:Shared}{K:W.Frag}{x dx C f:Addr}{mA:Str->Option Value}{name:Str}{v:Value}
theorem get_map{expr:Bool}{Q:Value->Shared->Prop}(X:K.In s.heap)(I:E7 s.heap x dx C mA)(hg:W.plainGet K C name=true)(hh:W.hasDictIn K C=true)(ha:W.findIn K (.ref C) name=some none)(hv:mA name=some v)(hv':W.handedIn v=true)(h:Q v {s with toks:=s.toks+1}):wpAny (model prog w) A (getAttr (.ref x) name expr) Q E s:=by
 obtain⟨od,J,hl⟩:=I.look
 exact W.get_value X J (W.plainGet_of hg).1 (W.findObj_own hh ha rfl (by rw[hl,hv])) hv' h
theorem Kf{pl:Sem Bool}{Q:Value×List Value->Shared->Prop}(X:K.In s.heap)(I:E7 s.heap x dx C mA)(hg:W.plainGet K C name=true)(hf:W.findIn K (.ref C) name=some (some (.ref f)))(ht:W.isFn K (.ref f)=true)(hv:mA name=none)(h:Q (.ref f,[.ref x]) s):wpAny (model prog w) A (getMethod (.ref x) name pl) Q E s:=by
 obtain⟨od,J,hl⟩:=I.look
 exact W.method_fn X J (W.plainGet_of hg).1 (W.plainGet_of hg).2 hf (beq_iff_eq.mp ht) (by show(W.lookIn name od).map (·.isSome)=some false;rw[hl,hv];rfl) h
theorem MT{ns:List Str}{Q:Unit->Shared->Prop}(X:K.In s.heap)(I:E7 s.heap x dx C mA)(hs:W.findIn K (.ref C) "__setattr__"=some (some (.builtin "object.__setattr__")))(hp:W.plainOver K C=true)(ht:W.takerIn K C name=some none)(hh:W.hasDictIn K C=true)(hw:PySem.Within mA ns)(hsz:ns.length<=sizeLine)(h:∀h',E7 h' x dx C (λy=>if y=name then some v else mA y)->Heap.SameBut dx s.heap h'->Q () {s with heap:=h',toks:=s.toks+2}):wpAny (model prog w) A (setAttr (.ref x) name v) Q E s:=by
 obtain⟨od,J,hl⟩:=I.look
 refine W.set_plain X J hs (W.osa_open (s:={s with toks:=s.toks+1}) (r:=none) X J hp ht λb=>?_)
 obtain⟨cd,hc,hd'⟩:=W.any_some hh
 have hx:s.heap.get? x=some ⟨.ref C,some dx,.plain,#[]⟩:=I.obj
 refine abd (abl (abd (abd (wpAny_loadPart hx (abd (W.Looks.here (s:={s with toks:=s.toks+1}) (W.looks_clsIn X hc) ?_))))))
 rw[hd']
 refine abl (a:=some dx) (abd (abl (abd ?_)))
 refine wpAny_nsSet1 (s:={s with toks:=s.toks+1}) I.ns λh' hn2 hs2=>?_
 obtain⟨oD,esD,epD,SS,SV,SW⟩:=hn2.count (PySem.Within.cons name v hw)
 refine abd (wpAny_lookBehind SS (by rw[SV];exact pastItsLine_dict (abn SW (by rw[abG];omega))) ?_)
 exact abl (h _ ⟨(hs2.2 _ (ab9 I.ne)).trans I.obj,hn2,I.ne⟩ hs2)
theorem Kg{R:Result->Shared->Prop}{vs:List Value}{kw:List (Str×Value)}(X:K.In s.heap)(hm:W.makesIn K C=true)(hi:W.findIn K (.ref C) "__init__"=some (some (.ref f)))(hf:W.typeIn K (.ref f)=some (.type "function"))(h:codeAny (model prog w) (A.under (.builtin "type.__call__" ⟨.ref C::vs,kw⟩)) (.call (.ref f) ⟨.ref (s.heap.objs.size+1)::vs,kw⟩) (W.InitBack (s.heap.objs.size+1) R)
   {s with heap:=(s.heap.push W.emptyDict).push (W.instObj C s.heap.objs.size)}):codeAny (model prog w) A (.call (.ref C) ⟨vs,kw⟩) R s:=by
 obtain⟨hh,g,d,t,os⟩:=s
 exact W.make_core (W.makes_of X hm) (W.looks_findIn X hi) (λself=>W.bind_fn X self hf) (.inl rfl) h
end
def lA(f:Str)(v:V):List (Str×V)->List (Str×V)
 |[]=>[(f,v)]
 | (g,x)::r=>if g=f then (g,v)::r else (g,x)::lA f v r
theorem iR(f g:Str)(v:V):∀fs:List (Str×V),(lA f v fs).lookup g=if g=f then some v else fs.lookup g
 |[]=>by
  show List.lookup g [(f,v)]=_
  by_cases h:g=f
  ·have hb:(g==f)=true:=beq_iff_eq.mpr h
   simp only[List.lookup,hb,abe h]
  ·have hb:(g==f)=false:=acQ.mpr h
   simp only[List.lookup,hb,abb h]
 | (k,x)::r=>by
  have ih:=iR f g v r
  rw[show lA f v ((k,x)::r)=(if k=f then (k,v)::r else (k,x)::lA f v r) from rfl]
  by_cases hk:k=f
  ·rw[abe hk]
   by_cases h:g=k
   ·have hb:(g==k)=true:=beq_iff_eq.mpr h
    simp only[List.lookup,hb,abe (h.trans hk)]
   ·have hb:(g==k)=false:=acQ.mpr h
    simp only[List.lookup,hb,abb (λe:g=f=>h (e.trans hk.symm))]
  ·rw[abb hk]
   by_cases h:g=k
   ·have hb:(g==k)=true:=beq_iff_eq.mpr h
    simp only[List.lookup,hb,abb (λe:g=f=>hk (h.symm.trans e))]
   ·have hb:(g==k)=false:=acQ.mpr h
    simp only[List.lookup,hb]
    exact ih
theorem lB(f:Str)(v:V):∀fs:List (Str×V),f∈(lA f v fs).map (·.1)/\∀g,g∈fs.map (·.1)->g∈(lA f v fs).map (·.1)
 |[]=>⟨by simp[lA],λg h=>by simp at h⟩
 | (k,x)::r=>by
  obtain⟨i1,i2⟩:=lB f v r
  rw[show lA f v ((k,x)::r)=(if k=f then (k,v)::r else (k,x)::lA f v r) from rfl]
  by_cases hk:k=f
  ·rw[abe hk]
   subst hk
   exact⟨by simp,λg h=>by simpa using h⟩
  ·rw[abb hk]
   refine⟨?_,λg h=>?_⟩
   ·rw[abT]
    exact abC _ i1
   ·rw[abT]at h⊢
    rcases abw.mp h with e|e
    ·exact abw.mpr (.inl e)
    ·exact abC _ (i2 g e)
theorem vd(f:Str)(v:V):∀fs:List (Str×V),(lA f v fs).length<=fs.length+1
 |[]=>by simp[lA]
 | (k,x)::r=>by
  have ih:=vd f v r
  rw[show lA f v ((k,x)::r)=(if k=f then (k,v)::r else (k,x)::lA f v r) from rfl]
  by_cases hk:k=f
  ·rw[abe hk,abG,abG];omega
  ·rw[abb hk,abG,abG];omega
theorem lP.some_of{v:V}{o:Option Value}(r:lP (some v) o):∃u,o=some u/\RelV v u:=by
 cases o with
 |none=>exact(show False from r).elim
 |some u=>exact⟨u,rfl,r⟩
theorem lP.none_of{o:Option Value}(r:lP none o):o=none:=by
 cases o with
 |none=>rfl
 |some u=>exact(show False from r).elim
theorem AI{v:V}{u:Value}(r:RelV v u):W.handedIn u=true:=by
 cases v with
 |non=>cases(show u=Value.none from r);rfl
 |bl b=>cases(show u=Value.bool b from r);rfl
 |int i=>obtain⟨t,e⟩:=(show ∃t,u=Value.int i t from r);cases e;rfl
 |str x=>obtain⟨t,e⟩:=(show ∃t,u=Value.str x t from r);cases e;rfl
 |JH b=>obtain⟨t,e⟩:=(show ∃t,u=Value.bytes b t from r);cases e;rfl
 |kL b=>obtain⟨t,e⟩:=(show ∃t,u=Value.float b t from r);cases e;rfl
 |ref a=>cases(show u=Value.ref a from r);rfl
 |ty n=>cases(show u=Value.type n from r);rfl
section
variable{P:Program}{w:World}{H H':Hp}{h h':Heap}{a C dx:Addr}{fs fs':List (Str×V)}
theorem xK(hok:tS P w H h)(e:H a=some (.ins C dx fs)):∃mA,E7 h a dx C mA/\(∀f,lP (fs.lookup f) (mA f))/\PySem.Within mA (fs.map (·.1))/\fs.length<=1000/\H dx=some (.own a):=by
 obtain⟨d,z,ne,ob,mA,n,r,q⟩:=(show cW P w H h a (.ins C dx fs) from hok a _ e)
 exact⟨mA,⟨ob,n,ne⟩,r,q,z,d⟩
end
structure GR(K:W.Frag)(C:Addr):Prop where
 pg:W.plainGet K C Str.empty=true
 hd:W.hasDictIn K C=true
 po:W.plainOver K C=true
 sa:W.findIn K (.ref C) "__setattr__"=some (some (.builtin "object.__setattr__"))
theorem GR.get{K:W.Frag}{C:Addr}(c:GR K C)(f:Str):W.plainGet K C f=true:=c.pg
def d8(K:W.Frag)(C:Addr)(f:Str):Prop:=W.findIn K (.ref C) f=some none
theorem d8.SX{K:W.Frag}{C:Addr}{f:Str}(n:d8 K C f):W.takerIn K C f=some none:=by
 unfold W.takerIn
 rw[show W.findIn K (.ref C) f=some none from n]
 rfl
structure Meth(K:W.Frag)(C:Addr)(m:Str)(f:Addr):Prop where
 at_:W.findIn K (.ref C) m=some (some (.ref f))
 fn:W.isFn K (.ref f)=true
 kp:W.keepIn K (.ref f)=true
section
variable{X:Cx}{pins:List (Addr×Obj)}{σ:St}{H:Hp}{s:Shared}{a C dx:Addr}{fs:List (Str×V)}{f:Str}{v:V}{A:Around}{E:Value->Shared->Prop}
theorem E8{b:Bool}{Q:Value->Shared->Prop}(I:Inv X pins σ H s)(e:H a=some (.ins C dx fs))(c:GR X.K C)(n:d8 X.K C f)(l:fs.lookup f=some v)(h:∀u s',Inv X pins σ H s'->RelV v u->Q u s'):wpAny (model X.prog X.w) A (getAttr (.ref a) f b) Q E s:=by
 obtain⟨mA,O,r,_,_,_⟩:=xK I.hok e
 obtain⟨u,hu,ru⟩:=lP.some_of (v:=v) (o:=mA f) (by rw[←l];exact r f)
 exact get_map I.lu O (c.get f) c.hd n hu (AI ru) (h u _ (I.tok _) ru)
theorem xZ{m:Str}{g:Addr}{pl:Sem Bool}{Q:Value×List Value->Shared->Prop}(I:Inv X pins σ H s)(e:H a=some (.ins C dx fs))(c:GR X.K C)(k:Meth X.K C m g)(l:fs.lookup m=none)(h:Q (.ref g,[.ref a]) s):wpAny (model X.prog X.w) A (getMethod (.ref a) m pl) Q E s:=by
 obtain⟨mA,O,r,_,_,_⟩:=xK I.hok e
 have hn:mA m=none:=lP.none_of (by rw[←l];exact r m)
 exact Kf I.lu O (c.get m) k.at_ k.fn hn h
theorem E9{y:V}{u:Value}{Q:Unit->Shared->Prop}(I:Inv X pins σ H s)(e:H a=some (.ins C dx fs))(c:GR X.K C)(n:d8 X.K C f)(hl:fs.length<1000)(ry:RelV y u)(h:∀s',Inv X pins σ (upd H a (.ins C dx (lA f y fs))) s'->Q () s'):wpAny (model X.prog X.w) A (setAttr (.ref a) f u) Q E s:=by
 obtain⟨mA,O,r,wi,_,ho⟩:=xK I.hok e
 have hz:(fs.map (·.1)).length<=sizeLine:=by rw[abg,sizeLine_eq];omega
 refine MT I.lu O c.sa c.po n.SX c.hd wi hz λh' O' sb=>h _ ?_
 have hd:∃o,h'.get? dx=some o:=let ⟨o,_,_,e',_⟩:=O'.ns;⟨o,e'⟩
 refine I.write (x:=a) (e:=dx) (by rw[e];exact True.intro) (.inr ho) (λb q hb z=>(sb.2 b hb).trans z) hd ?_
 refine⟨by rw[aD O.ne];exact ho,?_,O.ne,O'.obj,_,O'.ns,λg=>?_,λg hg=>?_⟩
 ·have:=vd f y fs;omega
 ·show lP ((lA f y fs).lookup g) (if g=f then some u else mA g)
  rw[iR]
  by_cases q:g=f
  ·rw[abe q,abe q];exact ry
  ·rw[abb q,abb q];exact r g
 ·by_cases q:g=f
  ·rw[q];exact(lB f y fs).1
  ·refine(lB f y fs).2 g (wi g λz=>hg ?_)
   show(if g=f then some u else mA g)=none
   rw[abb q];exact z
theorem Inv.made(I:Inv X pins σ H s):Inv X pins σ (upd (upd H s.heap.objs.size (.own (s.heap.objs.size+1))) (s.heap.objs.size+1) (.ins C s.heap.objs.size []))
  {s with heap:=(s.heap.push W.emptyDict).push (W.instObj C s.heap.objs.size)}:=by
 have e1:(s.heap.push W.emptyDict).get? s.heap.objs.size=some W.emptyDict:=abE s.heap rfl
 have e2:((s.heap.push W.emptyDict).push (W.instObj C s.heap.objs.size)).get? (s.heap.objs.size+1)=some (W.instObj C s.heap.objs.size):=by
  have:=abE (s.heap.push W.emptyDict) (o:=W.instObj C s.heap.objs.size) rfl
  rwa [ack]at this
 have e3:(s.heap.push W.emptyDict).Ns s.heap.objs.size (λ_=>none):=⟨W.emptyDict,#[],_,e1,rfl,(λe he=>absurd he (by simp)),λ_=>rfl⟩
 have I1:=I.laid (a:=s.heap.objs.size) (o:=.own (s.heap.objs.size+1)) (h':=s.heap.push W.emptyDict) (t':=s.toks) (λb u q=>abk _ q) (abf _) ⟨_,e1⟩
 refine I1.laid (a:=s.heap.objs.size+1) (o:=.ins C s.heap.objs.size []) (t':=s.toks) (λb u q=>abk _ q) (Nat.le_of_eq (ack _ _)) ?_
 have ne:s.heap.objs.size≠s.heap.objs.size+1:=abK (acO _)
 refine⟨by rw[aD ne,aj],abO _,ne,e2,λ_=>none,(Heap.Ns1.of_empty e3).at λo q=>abk _ q,λ_=>True.intro,λy hy=>absurd rfl hy⟩
theorem GS{prog:Program}{w:World}{env:Env}{e:Expr}{f:Str}{pos:Pos}{s:Shared}{Q:Value->Shared->Prop}(hb:attributeBase e f env (eval e env)=eval e env)(h:wpAny (model prog w) A (eval e env) (λo s₁=>wpAny (model prog w) A (getAttr o f true) Q E s₁) E s):wpAny (model prog w) A (eval (.Attribute e f pos) env) Q E s :=
 Attribute_any_ h (by rw[arm_eval_Attribute,hb])
end
def SY(K:W.Frag)(ta:TE)(f:Str):TE:=λσ H Q=>ta σ H λx H1=>∃a C dx fs v,x=.ref a/\H1 a=some (.ins C dx fs)/\GR K C/\d8 K C f/\fs.lookup f=some v/\Q v H1
def Wi(K:W.Frag)(ta tv:TE)(f:Str):TS:=λD σ H=>tv σ H λy H1=>ta σ H1 λx H2=>∃a C dx fs,x=.ref a/\H2 a=some (.ins C dx fs)/\GR K C/\d8 K C f/\fs.length<1000/\D.nx σ (upd H2 a (.ins C dx (lA f y fs)))
section
variable{X:Cx}{o e value:Expr}{f:Str}{pos pos' tpos:Pos}{ta tv:TE}
theorem PZ(he:PE X e ta)(hb:attributeBase e f X.env (eval e X.env)=eval e X.env):PE X (.Attribute e f pos) (SY X.K ta f):=by
 intro pins s σ H Q I h
 refine GS hb (cC (he pins s σ H _ I h) λu s1 ⟨x,H1,I1,rx,a,C,dx,fs,v,ex,ea,c,n,l,q⟩=>?_)
 subst ex
 obtain rfl:u=Value.ref a:=rx
 exact E8 I1 ea c n l λu' s2 I2 ru=>⟨v,H1,I2,ru,q⟩
theorem iC(ha:PE X o ta)(hv:PE X value tv)(hs:swapsWith value (some (.Attribute o f pos')) pos.line X.env=pure false):PS X (.Assign [.Attribute o f pos'] value pos) (Wi X.K ta tv f):=by
 intro pins s σ H D I h
 refine plainObj_wpAny_Assign_Attribute (cC (hv pins s σ H _ I h) λu s1 ⟨y,H1,I1,ry,q⟩=>cC (ha pins s1 σ H1 _ I1 q) λov s2 ⟨x,H2,I2,rx,a,C,dx,fs,ex,ea,c,n,l,q2⟩=>?_) hs
 subst ex
 obtain rfl:ov=Value.ref a:=rx
 exact E9 I2 ea c n l ry λs3 I3=>⟨σ,_,I3,q2⟩
end
section
variable{X:Cx}{pins:List (Addr×Obj)}{σ:St}{H:Hp}{s:Shared}{A:Around}{E:Value->Shared->Prop}{Q:Value->Shared->Prop}{c:Value}{b:Bool}
inductive qX(K:W.Frag)(H:Hp):V->Value->Prop where
 |non:qX K H .non (.type "NoneType")
 |bl (x:Bool):qX K H (.bl x) (.type "bool")
 |int (i:Int):qX K H (.int i) (.type "int")
 |str (x:Str):qX K H (.str x) (.type "str")
 |kL (x:UInt64):qX K H (.kL x) (.type "float")
 |lst {a:Addr}{xs:List V} (e:H a=some (.lst xs)):qX K H (.ref a) (.type "list")
 |E1 {a:Addr}{o:Obj}{xs:List V} (e:H a=some (.E1 o (.lst xs))):qX K H (.ref a) (.type "list")
 |tup {a:Addr}{xs:List V} (e:H a=some (.tup xs)):qX K H (.ref a) (.type "tuple")
 |dK {a:Addr}{kvs:List (Key×V)} (e:H a=some (.dK kvs)):qX K H (.ref a) (.type "dict")
 |dT {a:Addr}{kvs:List (List Key×V)} (e:H a=some (.dT kvs)):qX K H (.ref a) (.type "dict")
 |ins {a C dx:Addr}{fs:List (Str×V)} (e:H a=some (.ins C dx fs)) (cl:GR K C) (ha:W.findIn K (.ref C) "__class__"=some (some (.builtin "object.__class__")))
   (hn:W.specialIn K (.builtin "object.__class__") "__get__"=some (some (.builtin "getset_descriptor.__get__"))) (htk:W.takesIn K (.builtin "object.__class__")=some true)
   (hm:W.mroIn K C (.type "object")=some true):qX K H (.ref a) (.ref C)
theorem AJ{x:V}{u t:Value}(I:Inv X pins σ H s)(rx:RelV x u)(ty:qX X.K H x t)(e:W.kitOne X.K t c=some b)(h:∀tk,Q (.bool b) {s with toks:=tk}):wpAny (model X.prog X.w) A (call (.builtin "isinstance") [u,c]) Q E s:=by
 cases ty with
 |non=>cases(show u=Value.none from rx);exact acF W.kitx_none I.lu True.intro e (λz=>nomatch z) h
 |bl y=>cases(show u=Value.bool y from rx);exact acF W.kitx_bool I.lu True.intro e (λz=>nomatch z) h
 |int i=>obtain⟨t,q⟩:=(show ∃t,u=Value.int i t from rx);cases q;exact acF W.kitx_int I.lu True.intro e (λz=>nomatch z) h
 |str y=>obtain⟨t,q⟩:=(show ∃t,u=Value.str y t from rx);cases q;exact acF W.kitx_str I.lu True.intro e (λz=>nomatch z) h
 |kL y=>obtain⟨t,q⟩:=(show ∃t,u=Value.float y t from rx);cases q;exact acF W.kitx_float I.lu True.intro e (λz=>nomatch z) h
 |@lst a xs ea =>
  cases(show u=Value.ref a from rx)
  obtain⟨_,_,n,_,h1⟩:=(show cW X.prog X.w H s.heap a (.lst xs) from I.hok a _ ea)
  exact acF W.kitx_list I.lu ⟨_,h1,rfl⟩ e (λz=>nomatch z) h
 |@E1 a ob xs ea =>
  cases(show u=Value.ref a from rx)
  obtain⟨_,_,_,n,_,h1⟩:=(show cW X.prog X.w H s.heap a (.E1 ob (.lst xs)) from I.hok a _ ea)
  exact acF W.kitx_list I.lu ⟨_,h1,rfl⟩ e (λz=>nomatch z) h
 |@tup a xs ea =>
  cases(show u=Value.ref a from rx)
  obtain⟨_,_,_,p⟩:=(show cW X.prog X.w H s.heap a (.tup xs) from I.hok a _ ea)
  obtain⟨o,h1,h2,_⟩:=p
  exact acF W.kitx_tuple I.lu ⟨o,h1,h2⟩ e (λz=>nomatch z) h
 |@dK a kvs ea =>
  cases(show u=Value.ref a from rx)
  obtain⟨_,_,vs,_,p⟩:=(show cW X.prog X.w H s.heap a (.dK kvs) from I.hok a _ ea)
  obtain⟨o,es,ep,h1,h2,_⟩:=p
  exact acF W.kitx_dict I.lu ⟨o,h1,h2.1⟩ e (λz=>nomatch z) h
 |@dT a kvs ea =>
  cases(show u=Value.ref a from rx)
  obtain⟨_,_,xs,_,o,es,ep,h1,h2,_⟩:=(show cW X.prog X.w H s.heap a (.dT kvs) from I.hok a _ ea)
  exact acF W.kitx_dict I.lu ⟨o,h1,h2.1⟩ e (λz=>nomatch z) h
 |@ins a C dx fs ea cl ha hn htk hm =>
  cases(show u=Value.ref a from rx)
  obtain⟨mA,O,_⟩:=xK I.hok ea
  obtain⟨od,J,_⟩:=O.look
  exact acF (W.kitx_own (cl.get _) cl.hd ha hn htk hm) I.lu J e (λz=>nomatch z) h
end
structure fR(k:Nat)(A:Around):Prop where
 hd:A.handled=none
 dp:A.depth+3*k+5<recursionLimit
 un:A.units+16*k+200<cLine
theorem fR.mono{j k:Nat}{A:Around}(r:fR k A)(h:j<=k):fR j A:=⟨r.hd,by have:=r.dp;omega,by have:=r.un;omega⟩
theorem fR.deeper{k:Nat}{A:Around}(r:fR (k+1) A)(env:Env):fR k (A.deeper env) :=
 ⟨r.hd,by have:=r.dp;show A.depth+1+3*k+5<_;omega,by have:=r.un;show A.units+3+16*k+200<_;omega⟩
theorem Fb{A:Around}{C:Addr}{us:List Value}{kw:List (Str×Value)}:(A.under (.builtin "type.__call__" ⟨.ref C::us,kw⟩)).depth=A.depth+1:=by
 first|rfl|simp[Around.under,Code.weight,Code.isCreation,Code.isGuard,Code.isCaller,Code.frames,Code.isFrame,guardIds]
theorem Fc{A:Around}{C:Addr}{us:List Value}{kw:List (Str×Value)}:(A.under (.builtin "type.__call__" ⟨.ref C::us,kw⟩)).units=A.units+1:=by
 first|rfl|simp[Around.under,Code.cUnits,Code.frames,Code.isFrame]
theorem fR.make{k:Nat}{A:Around}(r:fR (k+1) A)(C:Addr)(us:List Value)(kw:List (Str×Value)):fR k (A.under (.builtin "type.__call__" ⟨.ref C::us,kw⟩)) :=
 ⟨r.hd,by have:=r.dp;rw[Fb];omega,by have:=r.un;rw[Fc];omega⟩
theorem fR.depth{k:Nat}{A:Around}(r:fR k A):A.depth<recursionLimit:=by have:=r.dp;omega
theorem fR.units{k:Nat}{A:Around}(r:fR k A):A.units+64<cLine:=by have:=r.un;omega
theorem fR.aO{k:Nat}{A:Around}(r:fR k A):A.units<cLine:=by have:=r.un;omega
def P0:TA:=λ_ H Q=>Q [] H
def S0(ta:TE)(tr:TA):TA:=λσ H Q=>ta σ H λx H1=>tr σ H1 λxs H2=>Q (x::xs) H2
section
variable{X:Cx}{e:Expr}{es:List Expr}{te:TE}{t:TA}{pos:Pos}
theorem ai:PA X [] P0:=λ_ _ _ _ H Q I h=>Calls.spliced_nil ⟨[],H,I,.nil,h⟩
theorem af(ha:PE X e te)(hr:PA X es t)(hs:starEach (e::es) X.env=(false,eval e X.env)::starEach es X.env:=by rfl):PA X (e::es) (S0 te t):=by
 intro pos pins s σ H Q I h
 rw[hs]
 show wpAny _ _ (spliced ((false,eval e X.env)::backTo pos (starEach es X.env))) _ _ s
 refine Calls.spliced_cons (cC (ha pins s σ H _ I h) λu s1 ⟨x,H1,I1,r1,q1⟩=>?_)
 exact cC (hr pos pins s1 σ H1 _ I1 q1) λus s2 ⟨xs,H2,I2,r2,q2⟩=>⟨x::xs,H2,I2,.cons r1 r2,q2⟩
def Wj(t:TA):TE:=λσ H Q=>t σ H λxs H1=>xs.length<=sizeLine/\∀p,H1 p=none->Q (.ref p) (upd H1 p (.tup xs))
def Wk(t:TA):TE:=λσ H Q=>t σ H λxs H1=>xs.length<=sizeLine/\∀p,H1 p=none->Q (.ref p) (upd H1 p (.lst xs))
theorem aB{x1}(h:PA X es t):PE X (.Tuple es x1 pos) (Wj t):=by
 intro pins s σ H Q I hq
 refine wpAny_Tuple_spliced (cC (h pos pins s σ H _ I hq) λus s1 ⟨xs,H1,I1,r,z,q⟩=>⟨by rw[←r.length];exact z,?_⟩)
 have hf:H1 s1.heap.objs.size=none:=I1.hok.fresh (abf _)
 refine⟨.ref s1.heap.objs.size,upd H1 s1.heap.objs.size (.tup xs),I1.laid (t':=s1.toks) (λb u e=>abk _ e) (abf _) ?_,rfl,q _ hf⟩
 exact⟨z,us,r,⟨_,abE _ rfl,O,_,O⟩⟩
theorem bM(h:PA X es t):PE X (.List es pos) (Wk t):=by
 intro pins s σ H Q I hq
 refine wpAny_List_spliced (cC (h pos pins s σ H _ I hq) λus s1 ⟨xs,H1,I1,r,z,q⟩=>⟨by rw[←r.length];exact z,?_⟩)
 have hf:H1 s1.heap.objs.size=none:=I1.hok.fresh (abf _)
 refine⟨.ref s1.heap.objs.size,upd H1 s1.heap.objs.size (.lst xs),I1.laid (t':=s1.toks) (λb u e=>abk _ e) (abf _) ?_,rfl,q _ hf⟩
 exact⟨z,us,0,r,abE _ rfl⟩
end
abbrev Sp:=List V->Hp->VK->XK->Prop
abbrev GU:=List Env->Hp->Shared->XK->Value->Shared->Prop
structure Fd(P:Program)(w:World)(K:W.Frag)(mg:Str->Option Value)(base:Heap)(A:Around)(outer:List Env)(s:Shared)(H:Hp):Prop where
 frames:A.frames=some outer
 mod:Mod K mg base
 bs:∀b o,base.get? b=some o->s.heap.get? b=some o/\H b=none
 JI:base.objs.size<=s.heap.objs.size
 tV:s.heap.FunFrames base outer
 OY:∀b∈frs outer,H b=none
 hok:tS P w H s.heap
 bare:AllBare s.gens
def CE(outer:List Env)(P:Program)(w:World)(H:Hp)(s:Shared)(Q:VK)(u:Value)(s':Shared):Prop :=
 ∃v H',s'.os=s.os/\AllBare s'.gens/\Un (frs outer) [] H H' s.heap s'.heap/\tS P w H' s'.heap/\RelV v u/\Q v H'
def CR(CX:GU)(outer:List Env)(P:Program)(w:World)(H:Hp)(s:Shared)(Q:VK)(E:XK)(r:Result)(s':Shared):Prop :=
 match r with
 | .ok (.ret u)=>CE outer P w H s Q u s'
 | .ok _=>False
 | .error e=>CX outer H s E e s'
structure br(P:Program)(w:World)(K:W.Frag)(mg:Str->Option Value)(base:Heap)(CX:GU)(k:Nat)(f:Addr)(fd:FuncData)(ps:List Str)(sp:Sp):Prop where
 len:∀vs H Q E,sp vs H Q E->vs.length=ps.length
 run:∀(A:Around)(outer:List Env)(s:Shared)(H:Hp)(args:Args)(us:List Value)(vs:List V)(Q:VK)(E:XK),fR k A->Fd P w K mg base A outer s H->BindsTo s fd args (ps.zip us)->Vals vs us->sp vs H Q E->codeAny (model P w) A (.call (.ref f) args) (CR CX outer P w H s Q E) s
theorem br.mono{P:Program}{w:World}{K:W.Frag}{mg:Str->Option Value}{base:Heap}{CX:GU}{j k:Nat}{f:Addr}{fd:FuncData}{ps:List Str}{sp:Sp}(F:br P w K mg base CX j f fd ps sp)(h:j<=k):br P w K mg base CX k f fd ps sp:=⟨F.len,λA outer s H args us vs Q E hr=>F.run A outer s H args us vs Q E (hr.mono h)⟩
theorem Fd.make{P:Program}{w:World}{K:W.Frag}{mg:Str->Option Value}{base:Heap}{A:Around}{outer:List Env}{s:Shared}{H:Hp}(e:Fd P w K mg base A outer s H)(C:Addr)(us:List Value)(kw:List (Str×Value)):Fd P w K mg base (A.under (.builtin "type.__call__" ⟨.ref C::us,kw⟩)) outer s H:=⟨by first|exact e.frames | (simpa [Around.under,Code.envs,Code.isFrame,pushEnvs]using e.frames),e.mod,e.bs,e.JI,e.tV,e.OY,e.hok,e.bare⟩
section
variable{X:Cx}{pins:List (Addr×Obj)}{σ:St}{H:Hp}{s s':Shared}
theorem Inv.MU(I:Inv X pins σ H s):Fd X.prog X.w X.K X.mg X.base X.A X.stack s H :=
 ⟨I.ok.frames,I.ok.mod,I.bs,abn I.ok.JI I.sz,I.stack,I.xG,I.hok,I.bare⟩
theorem Inv.after{Q:VK}{u:Value}(I:Inv X pins σ H s)(h:CE X.stack X.prog X.w H s Q u s'):EP X pins σ Q u s':=by
 obtain⟨v,H',os,bare,un,hok,r,q⟩:=h
 obtain⟨hh,g,d,t,os'⟩:=s'
 obtain rfl:os'=s.os:=os
 exact⟨v,H',I.call (h':=hh) (g':=g) (d':=d) (t':=t) (ch:=[]) un hok bare (λb z=>absurd z (by simp)),r,q⟩
end
def Kh(sp:Sp)(p7:List V)(E:XK)(t:TA):TE:=λσ H Q=>t σ H λvs H1=>sp (vs++p7) H1 Q E
def O4(C:Addr)(m:Str)(sp:Sp)(p7:List V)(E:XK)(ta:TE)(t:TA):TE:=λσ H Q=>ta σ H λx H1=>∃a dx fs,x=.ref a/\H1 a=some (.ins C dx fs)/\fs.lookup m=none/\t σ H1 λvs H2=>sp (x::(vs++p7)) H2 Q E
def S1(C:Addr)(sp:Sp)(p7:List V)(E:XK)(t:TA):TE:=λσ H Q=>t σ H λvs H1=>∀x dx,H1 x=none->H1 dx=none->dx≠x->sp (.ref x::(vs++p7)) (upd (upd H1 dx (.own x)) x (.ins C dx [])) (λv H2=>v=.non/\Q (.ref x) H2) E
def Binds(K:W.Frag)(fd:FuncData)(ps:List Str)(ds:List Value):Prop :=
 ∀(s:Shared)(us:List Value),K.In s.heap->(us++ds).length=ps.length->BindsTo s fd ⟨us,[]⟩ (ps.zip (us++ds))
theorem Binds.all{K:W.Frag}{fd:FuncData}{ps:List Str}(h:∀us:List Value,us.length=ps.length->bindArgs fd ⟨us,[]⟩=pure (ps.zip us)):Binds K fd ps []:=λs us _ hl=>by
 rw[abI]at hl⊢
 exact .of_eq (h us hl)
def Passes(CX:GU)(X:Cx)(E:XK):Prop:=∀(pins:List (Addr×Obj))(σ:St)(H:Hp)(s:Shared)(e:Value)(s':Shared),Inv X pins σ H s->CX X.stack H s E e s'->X.xe e s'
section
variable{X:Cx}{CX:GU}{k:Nat}{f C:Addr}{fd:FuncData}{ps:List Str}{sp:Sp}{p7:List V}{ds:List Value}{E:XK}{x m:Str}{p pos apos:Pos}{e o:Expr}{es:List Expr}{ta:TE}{t:TA}
theorem BE{pins:List (Addr×Obj)}{σ:St}{H:Hp}{s:Shared}{Q:VK}{us:List Value}{vs:List V}(F:br X.prog X.w X.K X.mg X.base CX k f fd ps sp)(hr:fR k X.A)(hb:Binds X.K fd ps ds)(hd:Vals p7 ds)(hx:Passes CX X E)(I:Inv X pins σ H s)(r:Vals vs us)(h:sp (vs++p7) H Q E):wpAny (model X.prog X.w) X.A (call (.ref f) us) (EP X pins σ Q) X.xe s:=by
 have r2:Vals (vs++p7) (us++ds):=r.append hd
 have hl:(us++ds).length=ps.length:=by rw[←r2.length];exact F.len _ _ _ _ h
 refine wpAny_call (codeAny_mono (F.run X.A X.stack s H ⟨us,[]⟩ (us++ds) (vs++p7) Q E hr I.MU (hb s us I.lu hl) r2 h) λr s' hq=>?_)
 cases r with
 |error e=>exact hx pins σ H s e s' I hq
 |ok fl =>
  cases fl with
  |ret u=>exact I.after hq
  |next=>exact False.elim hq
  |brk=>exact False.elim hq
  |cont=>exact False.elim hq
theorem GV(F:br X.prog X.w X.K X.mg X.base CX k f fd ps sp)(hr:fR k X.A)(hg:Gl X x)(hm:X.mg x=some (.ref f))(hk:W.keepIn X.K (.ref f)=true)(hb:Binds X.K fd ps ds)(hd:Vals p7 ds)(hx:Passes CX X E)(ha:PA X (e::es) t)(hdb:(x==("__debug__":Str))=false:=by decide)(he:starEach (e::es) X.env=(false,eval e X.env)::starEach es X.env:=by rfl)(hpl:(backTo pos (starEach es X.env)).any (·.1)=false:=by rfl):PE X (.Call (.Name x p) (e::es) [] pos) (Kh sp p7 E t):=by
 intro pins s σ H Q I h
 refine aci (kg I hg hm ?_ hdb)
 refine W.callWith_K (h₀:=X.base) I.ok.mod.jr hk (cC (ha pos pins s σ H _ I h) λus s1 ⟨vs,H1,I1,r,q⟩=>⟨I1.lu,?_⟩) he hpl
 exact BE F hr hb hd hx I1 r q
theorem Kl(F:br X.prog X.w X.K X.mg X.base CX k f fd ps sp)(hr:fR k X.A)(hg:Gl X x)(hm:X.mg x=some (.ref f))(hk:W.keepIn X.K (.ref f)=true)(hb:Binds X.K fd ps ds)(hd:Vals p7 ds)(hx:Passes CX X E)(hdb:(x==("__debug__":Str))=false:=by decide):PE X (.Call (.Name x p) [] [] pos) (Kh sp p7 E P0):=by
 intro pins s σ H Q I h
 refine aci (kg I hg hm ?_ hdb)
 exact W.callWith_K0 I.lu hk (BE (us:=[]) F hr hb hd hx I .nil h)
theorem pN{pl:Sem Bool}(he:PE X o ta)(c:GR X.K C)(hm:Meth X.K C m f)(F:br X.prog X.w X.K X.mg X.base CX k f fd ps sp)(hr:fR k X.A)(hb:Binds X.K fd ps ds)(hd:Vals p7 ds)(hx:Passes CX X E)(ha:PA X (e::es) t)(hst:starEach (e::es) X.env=(false,eval e X.env)::starEach es X.env:=by rfl)(hpl:(backTo pos (starEach es X.env)).any (·.1)=false:=by rfl)(ht:eval (.Call (.Attribute o m apos) (e::es) [] pos) X.env=(do
   let ov ←eval o X.env
   standAt apos.atName
   let (f,first) ←holding [ov] (getMethod ov m pl)
   callWith pos f first (backTo pos (starEach (e::es) X.env)) (backToKw pos (keywordEach [] X.env))):=by rfl):PE X (.Call (.Attribute o m apos) (e::es) [] pos) (O4 C m sp p7 E ta t):=by
 intro pins s σ H Q I h
 refine W.methodCall_KW (pl:=pl) (cC (he pins s σ H _ I h) λu s1 ⟨x,H1,I1,rx,a,dx,fs,ex,ea,l,q⟩=>?_) ht
 subst ex
 obtain rfl:u=Value.ref a:=rx
 refine xZ I1 ea c hm l ?_
 refine W.callWith_K (first:=[.ref a]) (h₀:=X.base) I.ok.mod.jr hm.kp (cC (ha pos pins s1 σ H1 _ I1 q) λus s2 ⟨vs,H2,I2,r,q2⟩=>⟨I2.lu,?_⟩) hst hpl
 exact BE (us:=.ref a::us) (vs:=.ref a::vs) F hr hb hd hx I2 (.cons rfl r) q2
theorem qY{pl:Sem Bool}(he:PE X o ta)(c:GR X.K C)(hm:Meth X.K C m f)(F:br X.prog X.w X.K X.mg X.base CX k f fd ps sp)(hr:fR k X.A)(hb:Binds X.K fd ps ds)(hd:Vals p7 ds)(hx:Passes CX X E)(ht:eval (.Call (.Attribute o m apos) [] [] pos) X.env=(do
   let ov ←eval o X.env
   standAt apos.atName
   let (f,first) ←holding [ov] (getMethod ov m pl)
   callWith pos f first (backTo pos (starEach [] X.env)) (backToKw pos (keywordEach [] X.env))):=by rfl):PE X (.Call (.Attribute o m apos) [] [] pos) (O4 C m sp p7 E ta P0):=by
 intro pins s σ H Q I h
 refine W.methodCall_KW (pl:=pl) (cC (he pins s σ H _ I h) λu s1 ⟨x,H1,I1,rx,a,dx,fs,ex,ea,l,q⟩=>?_) ht
 subst ex
 obtain rfl:u=Value.ref a:=rx
 refine xZ I1 ea c hm l ?_
 exact W.callWith_K0 (first:=[.ref a]) I1.lu hm.kp (BE (us:=[.ref a]) (vs:=[.ref a]) F hr hb hd hx I1 (.cons rfl .nil) q)
structure Mk(K:W.Frag)(C f:Addr):Prop where
 makes:W.makesIn K C=true
 init:W.findIn K (.ref C) "__init__"=some (some (.ref f))
 fn:W.isFn K (.ref f)=true
 kp:W.keepIn K (.ref C)=true
theorem Km{pins:List (Addr×Obj)}{σ:St}{H:Hp}{s:Shared}{Q:VK}{us:List Value}{vs:List V}(M:Mk X.K C f)(F:br X.prog X.w X.K X.mg X.base CX k f fd ps sp)(hr:fR (k+1) X.A)(hb:Binds X.K fd ps ds)(hd:Vals p7 ds)(hx:Passes CX X E)(I:Inv X pins σ H s)(r:Vals vs us)(h:∀x dx,H x=none->H dx=none->dx≠x->sp (.ref x::(vs++p7)) (upd (upd H dx (.own x)) x (.ins C dx [])) (λv H2=>v=.non/\Q (.ref x) H2) E):wpAny (model X.prog X.w) X.A (call (.ref C) us) (EP X pins σ Q) X.xe s:=by
 have hq:=h (s.heap.objs.size+1) s.heap.objs.size (I.hok.fresh (Nat.le_succ _)) (I.hok.fresh (abf _)) (abK (acO _))
 have I2:=Inv.made (C:=C) I
 have r2:Vals (V.ref (s.heap.objs.size+1)::(vs++p7)) (Value.ref (s.heap.objs.size+1)::(us++ds)):=.cons rfl (r.append hd)
 have hl:(Value.ref (s.heap.objs.size+1)::us++ds).length=ps.length:=by
  have e:=r2.length
  rw[F.len _ _ _ _ hq]at e
  exact e.symm
 refine wpAny_call (Kg (f:=f) I.lu M.makes M.init (beq_iff_eq.mp M.fn) (codeAny_mono (F.run _ X.stack _ _ ⟨Value.ref (s.heap.objs.size+1)::us,[]⟩ (Value.ref (s.heap.objs.size+1)::(us++ds)) _ _ E (hr.make C us [])
  (I2.MU.make C us []) (hb _ (Value.ref (s.heap.objs.size+1)::us) I2.lu hl) r2 hq) λr s' hq'=>?_))
 cases r with
 |error e=>exact hx pins σ _ _ e s' I2 hq'
 |ok fl =>
  cases fl with
  |ret u =>
   obtain⟨v,H',I3,rv,ev,q3⟩:=I2.after hq'
   subst ev
   exact⟨rv,⟨V.ref (s.heap.objs.size+1),H',I3,O,q3⟩⟩
  |next=>exact False.elim hq'
  |brk=>exact False.elim hq'
  |cont=>exact False.elim hq'
theorem qZ(M:Mk X.K C f)(F:br X.prog X.w X.K X.mg X.base CX k f fd ps sp)(hr:fR (k+1) X.A)(hg:Gl X x)(hm:X.mg x=some (.ref C))(hb:Binds X.K fd ps ds)(hd:Vals p7 ds)(hx:Passes CX X E)(ha:PA X (e::es) t)(hdb:(x==("__debug__":Str))=false:=by decide)(he:starEach (e::es) X.env=(false,eval e X.env)::starEach es X.env:=by rfl)(hpl:(backTo pos (starEach es X.env)).any (·.1)=false:=by rfl):PE X (.Call (.Name x p) (e::es) [] pos) (S1 C sp p7 E t):=by
 intro pins s σ H Q I h
 refine aci (kg I hg hm ?_ hdb)
 refine W.callWith_K (h₀:=X.base) I.ok.mod.jr M.kp (cC (ha pos pins s σ H _ I h) λus s1 ⟨vs,H1,I1,r,q⟩=>⟨I1.lu,?_⟩) he hpl
 exact Km M F hr hb hd hx I1 r q
end
section
variable{X:Cx}{CX:GU}{k:Nat}{f C:Addr}{fd:FuncData}{ps ks:List Str}{sp:Sp}{E:XK}{x m:Str}{p pos apos kpos:Pos}{e o:Expr}{es:List Expr}{kws:List Keyword}{te ta:TE}{t tk:TA}{nm:Option Str}
variable{g:List Value->List Value->List Value}{gV:List V->List V->List V}
end
structure aG(N P:List Str)(sc:Scope):Prop where
 kind:sc.kind=.function
 co:sc.isCoroutine=false
 gen:sc.isGenerator=false
 nd:N.Nodup
 pre:N.take P.length=P
 par:∀x∈P,sc.names.lookup x=some .local\/sc.names.lookup x=some .cell
 P1:∀y∈sc.names,y.2≠.free
theorem AK{kindOf:Str->Option NameKind}{x:Str}:∀{binds:List (Str×Value)}{m:Str->Option Value},(∀v,(x,v)∉binds)->bindL kindOf binds m x=m x
 |[],_,_=>rfl
 | (n,v)::r,m,h=>by
  unfold bindL
  rw[AK λw hw=>h w (abC _ hw)]
  split
  ·have:x≠n:=by rintro rfl;exact h v abN
   simp[this]
  ·rfl
theorem AL{kindOf:Str->Option NameKind}{x:Str}:∀{binds:List (Str×Value)}{m:Str->Option Value},(∀v,(x,v)∉binds)->bindC kindOf binds m x=m x
 |[],_,_=>rfl
 | (n,v)::r,m,h=>by
  unfold bindC
  rw[AL λw hw=>h w (abC _ hw)]
  split
  ·rfl
  ·have:x≠n:=by rintro rfl;exact h v abN
   simp[this]
theorem AM{kindOf:Str->Option NameKind}{x:Str}{v:Value}:∀{P:List Str}{vs:List Value}{i:Nat}{m:Str->Option Value},P.Nodup->P[i]?=some x->vs[i]?=some v->kindOf x=some .local->bindL kindOf (P.zip vs) m x=some v
 |[],_,_,_,_,h,_,_=>by simp at h
 |_::_,[],_,_,_,_,h,_=>by simp at h
 |p::P,w::vs,0,m,nd,h1,h2,hk=>by
  simp at h1 h2;subst h1;subst h2
  show bindL kindOf ((p,w)::P.zip vs) m p=_
  unfold bindL
  rw[AK λv hv=>(List.nodup_cons.mp nd).1 (List.of_mem_zip hv).1,abe hk]
  simp
 |p::P,w::vs,i+1,m,nd,h1,h2,hk=>by
  show bindL kindOf ((p,w)::P.zip vs) m x=_
  unfold bindL
  exact AM (i:=i) (List.nodup_cons.mp nd).2 (by simpa using h1) (by simpa using h2) hk
theorem AO{kindOf:Str->Option NameKind}{x:Str}{v:Value}:∀{P:List Str}{vs:List Value}{i:Nat}{m:Str->Option Value},P.Nodup->P[i]?=some x->vs[i]?=some v->kindOf x≠some .local->bindC kindOf (P.zip vs) m x=some v
 |[],_,_,_,_,h,_,_=>by simp at h
 |_::_,[],_,_,_,_,h,_=>by simp at h
 |p::P,w::vs,0,m,nd,h1,h2,hk=>by
  simp at h1 h2;subst h1;subst h2
  show bindC kindOf ((p,w)::P.zip vs) m p=_
  unfold bindC
  rw[AL λv hv=>(List.nodup_cons.mp nd).1 (List.of_mem_zip hv).1,abb hk]
  simp
 |p::P,w::vs,i+1,m,nd,h1,h2,hk=>by
  show bindC kindOf ((p,w)::P.zip vs) m x=_
  unfold bindC
  exact AO (i:=i) (List.nodup_cons.mp nd).2 (by simpa using h1) (by simpa using h2) hk
def start(N:List Str)(vs:List V):St:=vs.map some++List.replicate (N.length-vs.length) none
def BF(CX:GU)(P:Program)(w:World)(K:W.Frag)(mg:Str->Option Value)(base:Heap)(N:List Str)(qual:Str)(scope:Scope)(f:Addr)(cd:Value)(A:Around)(outer:List Env)(s:Shared)(H:Hp)(E:XK):Cx where
 prog:=P
 w:=w
 K:=K
 mg:=mg
 base:=base
 A:=A.deeper (envOfC qual scope s.heap.objs.size f cd)
 N:=N
 s₀:=s
 H₀:=H
 env:=envOfC qual scope s.heap.objs.size f cd
 outer:=outer
 stack:=envOfC qual scope s.heap.objs.size f cd::outer
 ex:=[]
 calm:=true
 fn:=λ_=>true
 pn:=[]
 xe:=λe s'=>wpAny (model P w) (A.deeper (envOfC qual scope s.heap.objs.size f cd)) (leaving (envOfC qual scope s.heap.objs.size f cd) e) (λ_ s''=>CX outer H s E e s'') (λe' s''=>CX outer H s E e' s'') s'
theorem DE{sc:Scope}{n:Nat}{x:Str}(h:sc.names.lookup x=some .cell):∃c,(cellsFrom n sc.names []).lookup x=some c:=by
 have q:=W.cellsFrom_some sc.names n [] (.inl h)
 exact Option.isSome_iff_exists.mp q
theorem HX{CX:GU}{P:Program}{w:World}{K:W.Frag}{mg:Str->Option Value}{base:Heap}{N ps:List Str}{qual:Str}{scope:Scope}{f:Addr}{cd:Value}{A:Around}{outer:List Env}{s s1:Shared}{H:Hp}{E:XK}{us:List Value}{vs:List V}(S:aG N ps scope)(hd:A.handled=none)(e0:Fd P w K mg base A outer s H)(hl:vs.length=ps.length)(r:Vals vs us)(x:InCallC s s.heap.objs.size (bindL (envOfC qual scope s.heap.objs.size f cd).kindOf (ps.zip us) λ_=>none) (cellsFrom (s.heap.objs.size+1) scope.names []) (bindC (envOfC qual scope s.heap.objs.size f cd).kindOf (ps.zip us) λ_=>none) s1):Inv (BF CX P w K mg base N qual scope f cd A outer s H E) [] (start N vs) H s1:=by
 have hpl:ps.length<=N.length:=by have:=congrArg List.length S.pre;rw[abM]at this;omega
 obtain⟨h1,tk,rfl,hk⟩:=x.done
 have S2:∀b:Addr,b∉(BF CX P w K mg base N qual scope f cd A outer s H E).ex:=λb z=>absurd (show b∈([]:List Addr) from z) (by simp)
 refine⟨⟨e0.mod,S.kind,O,O,abf _,λy z c h1 h2=>?_,λy hy=>?_,λy c _ h=>?_,λ_=>hd,Around.frames_deeper e0.frames,.inr ⟨O,O⟩,λb z=>absurd z (S2 b),e0.bs,e0.JI,λb _ _=>S2 b,λb z=>absurd z (S2 b),e0.tV,e0.OY⟩,O,e0.bare,Un.kept hk,⟨_,x.toInCall.ns,λi y v h1 h2 h3=>?_⟩,λy c h=>⟨_,x.cell y c h⟩,e0.hok.fresh (abf _),λy c h=>?_,λp hp=>absurd (show p∈([]:List (Addr×Obj)) from hp) (by simp),e0.hok.kept hk,?_⟩
 ·exact name_of_addr x.apart (abS h1) (abS h2)
 ·have hy:scope.names.lookup y=some .cell\/scope.names.lookup y=some .free:=hy
  rcases hy with hy|hy
  ·exact DE hy
  ·exact absurd rfl (S.P1 _ (abS hy))
 ·exact acN (x.above y c (abS h))
 ·have hi:i<vs.length:=by
   unfold start at h2
   by_cases hi:i<vs.length
   ·exact hi
   ·rw[acJ (by simpa using hi)]at h2
    rw[List.getElem?_replicate]at h2
    split at h2<;>cases h2
  have ha:vs[i]?=some v:=by
   unfold start at h2
   rw[List.getElem?_append_left (by simpa using hi),abZ]at h2
   cases e:vs[i]? with
   |none=>rw[e]at h2;cases h2
   |some a=>rw[e]at h2;cases h2;rfl
  obtain⟨u,hu,rv⟩:=r.get ha
  have hp:ps[i]?=some y:=by
   rw[←S.pre,List.getElem?_take_of_lt (by omega)];exact h1
  have ndP:ps.Nodup:=by rw[←S.pre];exact S.nd.sublist (List.take_sublist _ _)
  refine⟨u,rv,?_⟩
  rcases S.par y (abq hp) with k|k
  ·exact .inl ⟨k,AM ndP hp hu k⟩
  ·obtain⟨c,e⟩:=DE (n:=s.heap.objs.size+1) k
   refine .inr ⟨.inl k,c,e,?_⟩
   have q:=x.cell y c e
   rw[AO ndP hp hu (by show scope.names.lookup y≠_;rw[k];decide)]at q
   exact q
 ·exact e0.hok.fresh (acN (x.above y c (abS h)))
 ·unfold start
  show _=N.length
  rw[abj,abg,acd]
  omega
theorem Kn{CX:GU}{P:Program}{w:World}{K:W.Frag}{mg:Str->Option Value}{base:Heap}{k:Nat}{f:Addr}{name qual:Str}{params:Arguments}{body:List Stmt}{scope:Scope}{dV kV doc pm cdv ct oc:Value}{an od:Option Addr}{osl:Array (Option Value)}{N ps:List Str}{sp:Sp}(lk:K.lookup f=some ⟨oc,od,.func (W.fnOf name qual params body scope dV kV doc pm an cdv ct),osl⟩)(hcd:W.codeIn K cdv qual=true)(S:aG N ps scope)(len:∀vs H Q E,sp vs H Q E->vs.length=ps.length)(hbody:∀(A:Around)(outer:List Env)(s:Shared)(H:Hp)(vs:List V)(Q:VK)(E:XK),fR k (A.deeper (envOfC qual scope s.heap.objs.size f cdv))->sp vs H Q E->∃t,DA (BF CX P w K mg base N qual scope f cdv A outer s H E) body t/\t {nx:=λ_ H'=>Q .non H',rt:=Q} (start N vs) H):br P w K mg base CX (k+1) f (W.fnOf name qual params body scope dV kV doc pm an cdv ct) ps sp:=by
 refine⟨len,λA outer s H args us vs Q E hr e0 hb r GW=>?_⟩
 have hl:=len _ _ _ _ GW
 have KX:K.In s.heap:=e0.mod.jr.keeps λb o e=>(e0.bs b o e).1
 have lim:s.heap.NoLimit:=e0.mod.nolimit.keeps λb o e=>(e0.bs b o e).1
 have hkind:∀y∈ps.zip us,scope.names.lookup y.1=some .local\/(scope.names.lookup y.1=some .cell/\((cellsFrom (s.heap.objs.size+1) scope.names []).lookup y.1).isSome=true):=λ⟨n,v⟩ hy=>by
  rcases S.par n (List.of_mem_zip hy).1 with q|q
  ·exact .inl q
  ·exact .inr ⟨q,W.cellsFrom_some _ _ _ (.inl q)⟩
 refine codeAny_call_function hr.depth (KX _ _ lk) rfl S.co S.gen rfl (W.codeRec_of KX hcd) (hb _ _ _ _ ?_)
 refine wpAny_newFunctionEnv_cells S.kind hkind λenv he s1 x=>?_
 subst he
 refine⟨lim.keeps x.toInCall.keep,codeAny_func ?_⟩
 obtain⟨t,ht,hq⟩:=hbody A outer s H vs Q E (hr.deeper _) GW
 have I:Inv (BF CX P w K mg base N qual scope f cdv A outer s H E) [] (start N vs) H s1:=HX S hr.hd e0 hl r x
 refine ab1 (ht [] s1 (start N vs) H _ I hq) (λfl s' hs=>?_) λe s' hs=>hs
 have fin:∀{σ':St}{H':Hp}{v:V}{u:Value},Inv (BF CX P w K mg base N qual scope f cdv A outer s H E) [] σ' H' s'->RelV v u->Q v H'->CE outer P w H s Q u s' :=
  λ{σ' H' v u} J rv q=>⟨v,H',J.os,J.bare,J.base,J.hok,rv,q⟩
 cases fl with
 |ret u =>
  obtain⟨v,σ',H',J,rv,q⟩:=hs
  exact fin J rv q
 |next =>
  obtain⟨σ',H',J,q⟩:=hs
  exact fin (v:=V.non) (u:=Value.none) J rfl q
 |brk =>
  obtain⟨_,_,_,q⟩:=hs
  exact False.elim q
 |cont =>
  obtain⟨_,_,_,q⟩:=hs
  exact False.elim q
section
variable{X:Cx}{x:Str}{p pos:Pos}{e:Expr}{es:List Expr}{t:TA}{id T:String}{r:List V->Hp->VK->Prop}
def VD(r:List V->Hp->VK->Prop)(t:TA):TE:=λσ H Q=>t σ H λvs H1=>r vs H1 Q
theorem Ko(hc:gK X (.builtin id) r)(hg:Gl X x)(hm:X.mg x=none)(hv:bootBuiltins x=some (.builtin id))(ha:PA X (e::es) t)(hn:x ≠ "__name__":=by decide)(hdb:(x==("__debug__":Str))=false:=by decide)(he:starEach (e::es) X.env=(false,eval e X.env)::starEach es X.env:=by rfl)(hpl:(backTo pos (starEach es X.env)).any (·.1)=false:=by rfl):PE X (.Call (.Name x p) (e::es) [] pos) (VD r t):=by
 intro pins s σ H Q I h
 refine aci (tX I hg hm hv ?_ hn hdb)
 exact PyProof.Rows.callWith_builtin1 (cC (ha pos pins s σ H _ I h) λus s1 ⟨vs,H1,I1,r1,q1⟩=>hc pins s1 σ H1 vs us Q I1 r1 q1) he hpl
theorem HY(hc:gK X (.type T) r)(hg:Gl X x)(hm:X.mg x=none)(hv:bootBuiltins x=some (.type T))(ha:PA X (e::es) t)(hn:x ≠ "__name__":=by decide)(hdb:(x==("__debug__":Str))=false:=by decide)(he:starEach (e::es) X.env=(false,eval e X.env)::starEach es X.env:=by rfl)(hpl:(backTo pos (starEach es X.env)).any (·.1)=false:=by rfl):PE X (.Call (.Name x p) (e::es) [] pos) (VD r t):=by
 intro pins s σ H Q I h
 refine aci (tX I hg hm hv ?_ hn hdb)
 exact acG (cC (ha pos pins s σ H _ I h) λus s1 ⟨vs,H1,I1,r1,q1⟩=>hc pins s1 σ H1 vs us Q I1 r1 q1) he hpl
end
end L2
namespace HT
open PySem PyProof.Rows
section
open PySem.SeqAt
open PySem.AutoSeq1 (wpAny_loadPart')
open PySem.MeetsSeq PySem.MeetsSeq2 PySem.MeetsSeq3
end
section
variable{prog:Program}{w:World}{A:Around}{E:Value->Shared->Prop}{s:Shared}
def BG(n d:Nat):Option Int->Nat
 |none=>d
 |some v=>if v<0 then (v+(n:Int)).toNat else min v.toNat n
end
end HT
namespace L2
open PySem PySem.Spec PyProof.Rows
abbrev TO:=St->Hp->(Option Int->Hp->Prop)->Prop
def PO(X:Cx)(e:Option Expr)(t:TO):Prop :=
 ∀(pins:List (Addr×Obj))(s:Shared)(σ:St)(H:Hp)(Q:Option Int->Hp->Prop),Inv X pins σ H s->t σ H Q->wpAny (model X.prog X.w) X.A (evalPart e X.env) (λu s'=>∃o H',Inv X pins σ H' s'/\IsPart u o/\Q o H') X.xe s
def MV:TO:=λ_ H Q=>Q none H
def S3(t:TE):TO:=λσ H Q=>t σ H λx H1=>∃i,x=.int i/\Q (some i) H1
section
variable{X:Cx}{e:Expr}{te:TE}{lo hi:Option Expr}{tl th:TO}{pos p2:Pos}
theorem GX:PO X none MV:=by
 intro pins s σ H Q I h
 rw[evalPart_none]
 exact abl ⟨none,H,I,.none,h⟩
theorem GY(h:PE X e te):PO X (some e) (S3 te):=by
 intro pins s σ H Q I hw
 rw[evalPart_some]
 refine cC (h pins s σ H _ I hw) λu s1 ⟨x,H1,I1,r1,q1⟩=>?_
 obtain⟨i,rfl,q⟩:=q1
 obtain⟨t,rfl⟩:=r1
 exact⟨some i,H1,I1,.int i t,q⟩
def Wl(X:Cx)(r:V->Option Int->Option Int->Hp->VK->Prop):Prop :=
 ∀(pins:List (Addr×Obj))(s:Shared)(σ:St)(H:Hp)(x:V)(v vl vu:Value)(lo hi:Option Int)(sl:Addr)(Q:VK),Inv X pins σ H s->RelV x v->s.heap.IsSliceOf sl vl vu .none->IsPart vl lo->IsPart vu hi->r x lo hi H Q->∃T id,typeLookup (.type T) "__getitem__"=pure (some (.builtin id))/\s.TypeIs v T/\wpAny (model X.prog X.w) X.A (getItem v (.ref sl)) (EP X pins σ Q) X.xe s
def tSl(r:V->Option Int->Option Int->Hp->VK->Prop)(te:TE)(tl th:TO):TE:=λσ H Q=>te σ H λx H1=>tl σ H1 λl H2=>th σ H2 λu H3=>r x l u H3 Q
theorem DF{r:V->Option Int->Option Int->Hp->VK->Prop}(hr:Wl X r)(he:PE X e te)(hl:PO X lo tl)(hu:PO X hi th):PE X (.Subscript e (.Slice lo hi none p2) pos) (tSl r te tl th):=by
 intro pins s σ H Q I h
 refine Subscript_ (cC (he pins s σ H _ I h) λv s1 ⟨x,H1,I1,r1,q1⟩=>?_)
 refine wpAny_Slice (cC (hl pins s1 σ H1 _ I1 q1) λvl s2 ⟨l,H2,I2,pl,q2⟩=>cC (hu pins s2 σ H2 _ I2 q2) λvu s3 ⟨u,H3,I3,pu,q3⟩=>?_)
 rw[evalPart_none]
 refine abl ?_
 have I4:Inv X pins σ H3 {s3 with heap:=s3.heap.push {cls:=.type "slice",data:=.fields #[vl,vu,.none]}}:=I3.kept (t':=s3.toks) λb ob q=>abk _ q
 obtain⟨T,id,hT,ht,hg⟩:=hr pins {s3 with heap:=s3.heap.push {cls:=.type "slice",data:=.fields #[vl,vu,.none]}} σ H3 x v vl vu l u s3.heap.objs.size Q I4 r1 (Heap.IsSliceOf.new ..) pl pu q3
 show wpAny (model X.prog X.w) X.A (subscriptTail e (.Slice lo hi none p2) v (.ref s3.heap.objs.size)) (EP X pins σ Q) X.xe {s3 with heap:=s3.heap.push {cls:=.type "slice",data:=.fields #[vl,vu,.none]}}
 exact tail_any (ops:=[.ref s3.heap.objs.size,v]) ht hT hg (by with_unfolding_all rfl)
def BH(xs:List V)(lo hi:Option Int):List V:=(xs.drop (HT.BG xs.length 0 lo)).take (HT.BG xs.length xs.length hi-HT.BG xs.length 0 lo)
theorem DG(xs:List V)(lo hi:Option Int):(BH xs lo hi).length<=xs.length:=by
 unfold BH
 rw[abM,List.length_drop]
 omega
end
def R0(n:Nat)(i:Int):Option Nat:=if 0<=i then (if i<n then some i.toNat else none) else if -(n:Int)<=i then some (i+n).toNat else none
def Dv{α:Type}(xs:List α)(i:Int):Option α:=(R0 xs.length i).bind λj=>xs[j]?
theorem MW{n:Nat}{i:Int}{j:Nat}(h:R0 n i=some j):seqIndex? i n=some j/\j<n/\-(n:Int)<=i/\i<n:=by
 unfold R0 at h
 by_cases h0:0<=i
 ·rw[abe h0]at h
  by_cases h1:i<n
  ·rw[abe h1]at h
   have e:i.toNat=j:=abH h
   exact⟨by rw[seqIndex_of h0 h1,e],by omega,by omega,h1⟩
  ·rw[abb h1]at h;cases h
 ·rw[abb h0]at h
  by_cases h1 : -(n:Int)<=i
  ·rw[abe h1]at h
   have e:(i+n).toNat=j:=abH h
   exact⟨by rw[seqIndex_neg (by omega) h1,e],by omega,h1,by omega⟩
  ·rw[abb h1]at h;cases h
theorem BI{α:Type}{xs:List α}{i:Int}{v:α}(h:Dv xs i=some v):∃j,seqIndex? i xs.length=some j/\xs[j]?=some v/\j<xs.length/\-(xs.length:Int)<=i/\i<xs.length:=by
 unfold Dv at h
 cases e:R0 xs.length i with
 |none=>rw[e]at h;cases h
 |some j =>
  rw[e]at h
  obtain⟨h1,h2,h3,h4⟩:=MW e
  exact⟨j,h1,h,h2,h3,h4⟩
theorem iK{α:Type}{xs:List α}{j:Nat}{v:α}(h:xs[j]?=some v):Dv xs (j:Int)=some v:=by
 have hj:j<xs.length:=(abi.mp h).1
 have e:R0 xs.length (j:Int)=some j:=by
  unfold R0
  rw[abe (by omega),abe (by omega)];simp
 unfold Dv;rw[e];exact h
def BJ(b:Expr):Prop:=∀o i,subscripted b false o i=operate [o,i] (getItem o i)
def R1(X:Cx)(r:R2):Prop :=
 ∀(value slice:Expr)(pins:List (Addr×Obj))(s:Shared)(σ:St)(H:Hp)(x y:V)(v u:Value)(Q:VK),Inv X pins σ H s->RelV x v->RelV y u->r x y H Q->subscripted slice false v u=operate [v,u] (getItem v u)->wpAny (model X.prog X.w) X.A (subscriptTail value slice v u) (EP X pins σ Q) X.xe s
def S4(X:Cx)(id:String)(r:V->List V->Hp->VK->Prop):Prop :=
 ∀(pins:List (Addr×Obj))(s:Shared)(σ:St)(H:Hp)(x:V)(xs:List V)(v:Value)(us:List Value)(Q:VK),Inv X pins σ H s->RelV x v->Vals xs us->r x xs H Q->wpAny (model X.prog X.w) X.A (call (.builtin id) (v::us)) (EP X pins σ Q) X.xe s
section
variable{X:Cx}{a b:Expr}{ta tb:TE}{pos:Pos}
theorem DH{r:R2}(hr:R1 X r)(ha:PE X a ta)(hb:PE X b tb)(hs:BJ b):PE X (.Subscript a b pos) (HW r ta tb):=by
 intro pins s σ H Q I h
 exact Subscript_ (PU ha hb I h λv u s2 x y H2 I2 rx ry q=>hr a b pins s2 σ H2 x y v u Q I2 rx ry q (hs _ _))
def P4(K:W.Frag):R2:=λx y H Q=>∃p xs i v,x=.ref p/\y=.int i/\bw K H p xs/\Dv xs i=some v/\Q v H
def HZ(K:W.Frag):R2:=λx y H Q=>∃p xs i v,x=.ref p/\y=.int i/\bz K H p xs/\Dv xs i=some v/\Q v H
def Wm:R2:=λx y H Q=>∃z i c,x=.str z/\y=.int i/\z.length<=sizeLine/\Dv z.cps.toList i=some c/\Q (.str ⟨#[c]⟩) H
theorem MX:R1 X (P4 X.K):=by
 intro value slice pins s σ H x y v u Q I rx ry h hs
 obtain⟨p,xs,i,z,rfl,rfl,hq,he,q⟩:=h
 cases rx
 obtain⟨t,rfl⟩:=ry
 obtain⟨its,r,pl,hz⟩:=I.list hq
 obtain⟨j,h1,h2,h3,h4,h5⟩:=BI he
 obtain⟨w,ew,rw'⟩:=r.get h2
 have hl:=r.length
 have hn:=xY
 have fin:EP X pins σ Q w s:=⟨z,H,I,rw',q⟩
 by_cases h0:0<=i
 ·have hj:i.toNat=j:=by
   rw[seqIndex_of h0 h5]at h1
   exact abH h1
  exact item_listR pl.isList h0 (by omega) (by rw[hj];simpa using ew) fin hs
 ·have hj:(i+(its.toArray.size:Int)).toNat=j:=by
   rw[seqIndex_neg (by omega) h4]at h1
   rw[abm,←hl]
   exact abH h1
  exact subscriptTail_builtinR (x:=w) pl.isList.typeIs slot_list_getitem.lookup
   (wpAny_getItem_list_neg (Q:=λr s'=>r=w/\EP X pins σ Q r s') pl.isList (by omega) (by rw[abm]<;>omega) (by omega) (by rw[hj];simpa using ew) ⟨rfl,fin⟩) hs
theorem P5:R1 X (HZ X.K):=by
 intro value slice pins s σ H x y v u Q I rx ry h hs
 obtain⟨p,xs,i,z,rfl,rfl,hq,he,q⟩:=h
 cases rx
 obtain⟨t,rfl⟩:=ry
 obtain⟨its,r,pl,hz⟩:=I.tuple hq
 obtain⟨j,h1,h2,h3,h4,h5⟩:=BI he
 obtain⟨w,ew,rw'⟩:=r.get h2
 have hl:=r.length
 have hn:=xY
 have fin:EP X pins σ Q w s:=⟨z,H,I,rw',q⟩
 exact subscriptTail_builtinR (x:=w) pl.typeIs slot_tuple_getitem.lookup
  (getItem_tuple (j:=j) (Q:=λr s'=>r=w/\EP X pins σ Q r s') pl (by omega) (by omega) (by rw[abm,←hl];exact h1) (by simpa using ew) ⟨rfl,fin⟩) hs
theorem Fe:R1 X Wm:=by
 intro value slice pins s σ H x y v u Q I rx ry h hs
 obtain⟨z,i,c,rfl,rfl,hz,he,q⟩:=h
 obtain⟨t,rfl⟩:=rx
 obtain⟨t',rfl⟩:=ry
 obtain⟨j,h1,h2,h3,h4,h5⟩:=BI he
 have hl:z.cps.toList.length=z.length:=by simp[Str.length]
 rw[hl]at h1 h4 h5
 have hn:=xY
 exact tail_any (typeIs_str s z t) slot_str_getitem.lookup (getItem_str (c:=c) (by
  have e1:decide (i < -(2 ^ 63:Int))=false:=abB (by omega)
  have e2:decide (i>=2 ^ 63)=false:=abB (by omega)
  rw[e1,e2,Bool.or_false]) (by rw[h1];simpa using h2) ⟨.str ⟨#[c]⟩,H,I.tok _,⟨_,rfl⟩,q⟩) hs
theorem BK(lo hi:Option Int)(n:Nat):(sliceBounds lo hi none n).1=((HT.BG n 0 lo:Nat):Int)/\(sliceBounds lo hi none n).2.1=((HT.BG n n hi:Nat):Int)/\(sliceBounds lo hi none n).2.2=1:=by
 refine⟨?_,?_,O⟩
 ·cases lo with
  |none=>simp[sliceBounds,HT.BG]
  |some i =>
   simp only[sliceBounds,HT.BG,Option.getD_none,show(1:Int)>0 by decide,if_true]
   by_cases h:i<0
   ·simp only[h,if_true]<;>omega
   ·simp only[h,acm]<;>omega
 ·cases hi with
  |none=>simp[sliceBounds,HT.BG]
  |some i =>
   simp only[sliceBounds,HT.BG,Option.getD_none,show(1:Int)>0 by decide,if_true]
   by_cases h:i<0
   ·simp only[h,if_true]<;>omega
   ·simp only[h,acm]<;>omega
theorem zE(its:List Value)(lo hi:Option Int):slicePick its.toArray lo hi none=((its.drop (HT.BG its.length 0 lo)).take (HT.BG its.length its.length hi-HT.BG its.length 0 lo)).toArray:=by
 obtain⟨h1,h2,h3⟩:=BK lo hi its.toArray.size
 unfold slicePick
 rw[h1,h2,h3]
 simp only[sliceRange_one,pick_run,abm]<;>rfl
def S5(K:W.Frag):V->Option Int->Option Int->Hp->VK->Prop:=λx lo hi H Q=>∃a xs,x=.ref a/\bw K H a xs/\∀p,H p=none->Q (.ref p) (upd H p (.lst (BH xs lo hi)))
theorem MY:Wl X (S5 X.K):=by
 intro pins s σ H x v vl vu lo hi sl Q I rx hs pl pu h
 obtain⟨a,xs,rfl,hx,q⟩:=h
 cases rx
 obtain⟨its,r,ht,hz⟩:=I.list hx
 have hlen:=r.length
 refine⟨"list",_,slot_list_getitem.lookup,ht.isList.typeIs,?_⟩
 refine wpAny_getItem_list_slice ht.isList hs pl pu .none (by simp) ?_ (by rw[abm]<;>omega)
 rw[zE,←hlen]
 refine⟨.ref s.heap.objs.size,_,I.laid (t':=s.toks) (o:=.lst (BH xs lo hi)) (λb ob q=>abk _ q) (abf _) ?_,rfl,q _ (I.hok.fresh (abf _))⟩
 exact⟨abn (DG xs lo hi) hz,_,0,(r.drop (HT.BG xs.length 0 lo)).take (HT.BG xs.length xs.length hi-HT.BG xs.length 0 lo),abE _ rfl⟩
def iy:V->Bool
 | .non=>true
 | .bl _=>true
 | .int _=>true
 | .str _=>true
 |_=>false
def ET:V->V->Bool
 | .non,.non=>true
 | .bl a,.bl b=>a==b
 | .bl a,.int b=>(if a then 1 else 0)==b
 | .int a,.bl b=>a==(if b then 1 else 0)
 | .int a,.int b=>a==b
 | .str a,.str b=>a==b
 |_,_=>false
theorem Ff{A:Around}{s:Shared}{y x:V}{u v:Value}(ry:RelV y u)(rx:RelV x v)(fy:iy y=true)(fx:iy x=true):SeqAt.EqAt A s u v (ET y x):=by
 cases y with
 |non =>
  cases ry
  cases x with
  |non=>cases rx;exact SeqAt.EqAt.same _
  |bl b=>cases rx;exact SeqAt.EqAt.none_bool b
  |int b=>obtain⟨t,rfl⟩:=rx;exact SeqAt.EqAt.none_int b t
  |str b=>obtain⟨t,rfl⟩:=rx;exact SeqAt.EqAt.none_str b t
  |_=>exact absurd (show false=true from fx) abv
 |bl a =>
  cases ry
  cases x with
  |non=>cases rx;exact SeqAt.EqAt.bool_none a
  |bl b=>cases rx;exact SeqAt.EqAt.bool_bool a b
  |int b=>obtain⟨t,rfl⟩:=rx;exact SeqAt.EqAt.bool_int a b t
  |str b=>obtain⟨t,rfl⟩:=rx;exact SeqAt.EqAt.bool_str a b t
  |_=>exact absurd (show false=true from fx) abv
 |int a =>
  obtain⟨t',rfl⟩:=ry
  cases x with
  |non=>cases rx;exact SeqAt.EqAt.int_none a t'
  |bl b=>cases rx;exact SeqAt.EqAt.int_bool a t' b
  |int b=>obtain⟨t,rfl⟩:=rx;exact SeqAt.EqAt.int_int a t' b t
  |str b=>obtain⟨t,rfl⟩:=rx;exact SeqAt.EqAt.int_str a t' b t
  |_=>exact absurd (show false=true from fx) abv
 |str a =>
  obtain⟨t',rfl⟩:=ry
  cases x with
  |non=>cases rx;exact SeqAt.EqAt.str_none a t'
  |bl b=>cases rx;exact SeqAt.EqAt.str_bool a t' b
  |int b=>obtain⟨t,rfl⟩:=rx;exact SeqAt.EqAt.str_int a t' b t
  |str b=>obtain⟨t,rfl⟩:=rx;exact SeqAt.EqAt.str_str a t' b t
  |_=>exact absurd (show false=true from fx) abv
 |_=>exact absurd (show false=true from fy) abv
def MZ(x:V)(u:Value):Bool:=match u with
 | .none=>ET .non x
 | .bool b=>ET (.bl b) x
 | .int i _=>ET (.int i) x
 | .str z _=>ET (.str z) x
 |_=>false
theorem Kp{x y:V}{u:Value}(r:RelV y u)(f:iy y=true):MZ x u=ET y x:=by
 cases y with
 |non=>cases r;rfl
 |bl b=>cases r;rfl
 |int i=>obtain⟨t,rfl⟩:=r;rfl
 |str z=>obtain⟨t,rfl⟩:=r;rfl
 |_=>exact absurd (show false=true from f) abv
theorem BL{x:V}:∀{xs:List V}{us:List Value},Vals xs us->xs.all iy=true->us.any (MZ x)=xs.any λy=>ET y x
 |_,_,.nil,_=>rfl
 |y::xs,u::us,.cons r t,f=>by
  rw[List.all_cons,acP]at f
  rw[acR,acR,Kp r f.1,BL t f.2]
theorem ya{A:Around}{s:Shared}{x:V}{v:Value}(rx:RelV x v)(fx:iy x=true):∀{xs:List V}{us:List Value},Vals xs us->xs.all iy=true->∀u∈us,SeqAt.EqAt A s u v (MZ x u)
 |_,_,.nil,_=>λu hu=>by cases hu
 |y::xs,u::us,.cons r t,f=>λu' hu=>by
  rw[List.all_cons,acP]at f
  rcases abw.mp hu with rfl|hu
  ·rw[Kp r f.1];exact Ff r rx f.1 fx
  ·exact ya rx fx t f.2 u' hu
def S6(x:V)(xs:List V):Bool:=xs.any λy=>ET y x
def rIn(K:W.Frag)(neg:Bool):R2:=λx y H Q=>∃p xs,y=.ref p/\(bw K H p xs\/bz K H p xs)/\iy x=true/\xs.all iy=true/\Q (.bl (if neg then !S6 x xs else S6 x xs)) H
theorem BN:nD X (compareOp .NotIn) (rIn X.K true):=by
 intro pins s σ H x y v u Q I rx ry h
 obtain⟨p,xs,rfl,hq,fx,fs,q⟩:=h
 cases ry
 rcases hq with hq|hq
 ·obtain⟨its,r,pl,hz⟩:=I.list hq
  refine SeqAt.notIn_listAt (MZ x) pl.isList (λw hw=>ya rx fx r fs w (by simpa using hw)) ⟨.bl _,H,I,rfl,?_⟩
  rw[show its.toArray.any (MZ x)=its.any (MZ x) by simp,BL r fs]
  exact q
 ·obtain⟨its,r,pl,hz⟩:=I.tuple hq
  refine SeqAt.notIn_tupleAt (MZ x) pl (λw hw=>ya rx fx r fs w (by simpa using hw)) ⟨.bl _,H,I,rfl,?_⟩
  rw[show its.toArray.any (MZ x)=its.any (MZ x) by simp,BL r fs]
  exact q
theorem gS:nD X (compareOp .NotIn) (λx y H Q=>∃i j,x=.str i/\y=.str j/\Q (.bl (!(!(Builtin.Str.occurrences j i 0 j.length 1).isEmpty))) H):=by
 intro pins s σ H x y v u Q I rx ry h
 obtain⟨i,j,rfl,rfl,q⟩:=h
 obtain⟨t,rfl⟩:=rx
 obtain⟨t',rfl⟩:=ry
 exact notIn_str ⟨.bl _,H,I,rfl,q⟩
theorem BO:gK X (.builtin "len") (λxs H Q=>∃p ys,xs=[.ref p]/\(bw X.K H p ys\/bz X.K H p ys)/\Q (.int ys.length) H):=by
 intro pins s σ H xs us Q I r h
 obtain⟨p,ys,rfl,hq,q⟩:=h
 obtain⟨u,rfl,rx⟩:=vals1 r
 cases rx
 have hn:=xY
 rcases hq with hq|hq
 ·obtain⟨its,r',pl,hz⟩:=I.list hq
  have hlen:=r'.length
  exact Calls.call_len_list pl.isList (by simp only[abm]<;>omega) ⟨.int ys.length,H,I.tok _,⟨s.toks+1,by rw[abm,hlen]⟩,q⟩
 ·obtain⟨its,r',pl,hz⟩:=I.tuple hq
  have hlen:=r'.length
  exact len_tuple pl (by simp only[abm]<;>omega) ⟨.int ys.length,H,I.tok _,⟨s.toks+1,by rw[abm,hlen]⟩,q⟩
theorem bB:gK X (.builtin "len") (λxs H Q=>∃z,xs=[.str z]/\z.length<=sizeLine/\Q (.int z.length) H):=by
 intro pins s σ H xs us Q I r h
 obtain⟨z,rfl,hz,q⟩:=h
 obtain⟨u,rfl,t,rfl⟩:=vals1 r
 have hn:=xY
 exact len_str (by omega) ⟨.int z.length,H,I.tok _,⟨_,rfl⟩,q⟩
theorem BP:gK X (.type "list") (λxs H Q=>∃p ys,xs=[.ref p]/\(bw X.K H p ys\/bz X.K H p ys)/\∀l,H l=none->Q (.ref l) (upd H l (.lst ys))):=by
 intro pins s σ H xs us Q I r h
 obtain⟨p,ys,rfl,hq,q⟩:=h
 obtain⟨u,rfl,rx⟩:=vals1 r
 cases rx
 have fin:∀(its:List Value),Vals ys its->ys.length<=sizeLine->∀(h':Heap)(c':Nat),(∀b o',s.heap.get? b=some o'->h'.get? b=some o')->h'.get? s.heap.objs.size=some {cls:=.type "list",dict:=none,data:=.seq its.toArray c',slots:=#[]}->EP X pins σ Q (.ref s.heap.objs.size) {s with heap:=h'}:=λits r' hz h' c' kp e =>
  ⟨.ref s.heap.objs.size,_,I.laid (t':=s.toks) kp (abf _) (show cW X.prog X.w _ h' _ (.lst ys) from⟨hz,its,c',r',e⟩),rfl,q _ (I.hok.fresh (abf _))⟩
 rcases hq with hq|hq
 ·obtain⟨its,r',pl,hz⟩:=I.list hq
  have hlen:=r'.length
  obtain⟨o,ho,hc,n,hd⟩:=pl.isList
  exact call_list_seq p (.inl rfl) ho hc hd (λh' c' kp e=>fin its r' hz h' c' kp e) (by simp only[abm]<;>omega)
 ·obtain⟨its,r',pl,hz⟩:=I.tuple hq
  have hlen:=r'.length
  obtain⟨o,ho,hc,n,hd⟩:=pl
  exact call_list_seq p (.inr rfl) ho hc hd (λh' c' kp e=>fin its r' hz h' c' kp e) (by simp only[abm]<;>omega)
def tyV(K:W.Frag)(T:String)(x:V)(H:Hp):Prop:=match x with
 | .str _=>T="str"
 | .int _=>T="int"
 | .ref p=>(T="list"/\∃xs,bw K H p xs)\/(T="tuple"/\∃o,K.lookup p=some o/\o.cls=.type "tuple"/\o.dict=none)\/
   (T="dict"/\((∃kvs,H p=some (.dK kvs))\/∃kvs,H p=some (.dT kvs)))\/(T="set"/\∃S n,H p=some (.set S n))
 |_=>False
theorem Kq{pins:List (Addr×Obj)}{σ:St}{H:Hp}{s:Shared}{T:String}{x:V}{v:Value}(I:Inv X pins σ H s)(r:RelV x v)(ty:tyV X.K T x H):s.TypeIs v T/\∀a,v=.ref a->∃ob,s.heap.get? a=some ob/\ob.dict=none:=by
 cases x with
 |str z =>
  obtain⟨t,rfl⟩:=r
  cases(show T="str" from ty)
  exact⟨typeIs_str s z t,λ_ e=>nomatch e⟩
 |int i =>
  obtain⟨t,rfl⟩:=r
  cases(show T="int" from ty)
  exact⟨typeIs_int s i t,λ_ e=>nomatch e⟩
 |ref p =>
  cases r
  rcases ty with ⟨rfl,xs,hq⟩|⟨rfl,o,hk,hc,hd⟩|⟨rfl,hk⟩|⟨rfl,S,n,hk⟩
  ·obtain⟨its,_,pl,_⟩:=I.list hq
   refine⟨pl.isList.typeIs,λa e=>?_⟩
   cases e
   obtain⟨o,n,e,c,hd,_⟩:=pl
   exact⟨o,e,hd⟩
  ·refine⟨⟨o,I.lu p o hk,hc⟩,λa e=>?_⟩
   cases e
   exact⟨o,I.lu _ o hk,hd⟩
  ·have z:∃o,s.heap.get? p=some o/\o.ExactDict:=by
    rcases hk with ⟨kvs,hk⟩|⟨kvs,hk⟩
    ·obtain⟨_,_,_,_,o,_,_,e,ex,_⟩:=I.hok p _ hk
     exact⟨o,e,ex⟩
    ·obtain⟨_,_,_,_,o,_,_,e,ex,_⟩:=I.hok p _ hk
     exact⟨o,e,ex⟩
   obtain⟨o,e,ex⟩:=z
   refine⟨⟨o,e,ex.1⟩,λa e2=>?_⟩
   cases e2
   exact⟨o,e,ex.2.1⟩
  ·obtain⟨o,_,_,_,e,ex,_⟩:=I.hok p _ hk
   refine⟨⟨o,e,ex.1⟩,λa e2=>?_⟩
   cases e2
   exact⟨o,e,ex.2.1⟩
 |_=>exact False.elim ty
def tBM(K:W.Frag)(T:String)(r:V->List V->Hp->VK->Prop)(to:TE)(t:TA):TE:=λσ H Q=>to σ H λx H1=>tyV K T x H1/\t σ H1 λxs H2=>r x xs H2 Q
variable{o e:Expr}{es:List Expr}{to:TE}{t:TA}{name:Str}{apos cpos:Pos}{T id:String}{r:V->List V->Hp->VK->Prop}
theorem S7(pa:PlainAttrs T)(slot:Slot T name id)(hty:typeOf (.builtin id)=pure (.type "method_descriptor"))(hm:S4 X id r)(ho:PE X o to)(ha:PA X (e::es) t)(hbase:attributeBase o name X.env (eval o X.env)=eval o X.env:=by rfl)(hfew:((backTo cpos (starEach (e::es) X.env)).all (λx=>!x.1)&&(backToKw cpos (keywordEach [] X.env)).all (λx=>x.1.isSome)
   && decide ((e::es).length+([]:List Keyword).length+(if ([]:List Keyword).isEmpty then 0 else 1)<30))=true:=by rfl)(hline:(apos.endLine==cpos.line)=true:=by rfl)(hs:starEach (e::es) X.env=(false,eval e X.env)::starEach es X.env:=by rfl)(hplain:(backTo cpos (starEach es X.env)).any (·.1)=false:=by rfl):PE X (.Call (.Attribute o name apos) (e::es) [] cpos) (tBM X.K T r to t):=by
 intro pins s σ H Q I h
 refine wpAny_Call_method_late hbase hfew hline rfl (cC (ho pins s σ H _ I h) λv s1 ⟨x,H1,I1,r1,ty,q1⟩=>?_)
 obtain⟨h1,h2⟩:=Kq I1 r1 ty
 refine⟨T,id,pa,slot,hty,h1,h2,?_⟩
 have hA:=ha cpos pins s1 σ H1 _ I1 q1
 rw[hs]at hA⊢
 refine Calls.callWith_builtin (by show(false||(backTo cpos (starEach es X.env)).any (·.1))=false;rw[hplain]<;>rfl) (Calls.evalArgs_plain ?_)
 exact cC hA λus s2 ⟨vs,H2,I2,r2,q2⟩=>hm pins s2 σ H2 x vs v us Q I2 r1 r2 q2
end
def MtM(X:Cx)(id:String)(r:V->List V->Hp->VK->Prop):Prop :=
 ∀(pins:List (Addr×Obj))(s:Shared)(σ:St)(H:Hp)(x:V)(xs:List V)(v:Value)(us:List Value)(Q:VK),Inv X pins σ H s->RelV x v->Vals xs us->r x xs H Q->wpAny (model X.prog X.w) X.A (call (.builtin id) (v::us)) (EP X pins σ Q) X.xe s
theorem Vals.one:∀{x:V}{us:List Value},Vals [x] us->∃u,us=[u]/\RelV x u
 |_,_,.cons r .nil=>⟨_,rfl,r⟩
theorem Vals.reverse{xs:List V}{us:List Value}(h:Vals xs us):Vals xs.reverse us.reverse:=by
 induction h with
 |nil=>exact .nil
 |cons r t ih=>rw[List.reverse_cons,List.reverse_cons];exact Vals.append ih (.cons r .nil)
section
variable{X:Cx}{pins:List (Addr×Obj)}{σ:St}{H:Hp}{s:Shared}{l b:Addr}{xs ys zs:List V}
theorem Inv.S8{its its':List Value}{n:Nat}{f:Array Value->Array Value}{t':Nat}(I:Inv X pins σ H s)(hH:H l=some (.lst xs))(e:s.heap.get? l=some {cls:=.type "list",data:=.seq its.toArray n})(hf:f its.toArray=its'.toArray)(hv:Vals ys its')(hz:ys.length<=sizeLine):Inv X pins σ (upd H l (.lst ys)) {s with heap:=s.heap.update l (Obj.mapSeq f),toks:=t'}:=by
 have q:=PySem.IsL.update e f
 rw[hf]at q
 refine I.write (x:=l) (e:=l) (by rw[hH];exact trivial) (.inl rfl) (λb' u hb hu=>(abX s.heap (Obj.mapSeq f) (ab9 hb)).trans hu) ⟨_,q⟩ ?_
 exact⟨hz,its',_,hv,q⟩
theorem Inv.P6{its:List Value}{t':Nat}(I:Inv X pins σ H s)(hv:Vals ys its)(hz:ys.length<=sizeLine):Inv X pins σ (upd H s.heap.objs.size (.lst ys)) {s with heap:=s.heap.push {cls:=.type "list",data:=.seq its.toArray},toks:=t'} :=
 I.laid (λ_ _ q=>abk _ q) (abf _) ⟨hz,its,0,hv,abE _ rfl⟩
theorem Inv.fresh(I:Inv X pins σ H s):H s.heap.objs.size=none:=I.hok.fresh (abf _)
theorem Inv.Kr(I:Inv X pins σ H s)(hH:H l=some (.lst xs)):xs.length<=sizeLine/\∃(its:List Value)(n:Nat),Vals xs its/\xs.length=its.length/\s.heap.get? l=some {cls:=.type "list",data:=.seq its.toArray n}:=by
 obtain⟨z,its,n,r,e⟩:=I.hok l _ hH
 exact⟨z,its,n,r,r.length,e⟩
theorem Ks{n:Nat}(h:n<=sizeLine):Builtin.List.listTooLong n=false:=by
 unfold Builtin.List.listTooLong
 exact abB (by omega)
end
section
variable{X:Cx}
def M0:V->List V->Hp->VK->Prop:=λx vs H Q=>∃l xs y,x=.ref l/\vs=[y]/\H l=some (.lst xs)/\xs.length<sizeLine/\Q .non (upd H l (.lst (xs++[y])))
theorem cN:MtM X "list.append" M0:=by
 intro pins s σ H x vs v us Q I rx rv h
 obtain⟨l,xs,y,rfl,rfl,hH,hz,q⟩:=h
 cases rx
 obtain⟨u,rfl,ru⟩:=rv.one
 obtain⟨z,its,n,r,hl,e⟩:=I.Kr hH
 refine call_meets F.slot_list_append ⟨_,e,rfl⟩ F.entry_list_append (F.args_list_append_2 _ _) (PySem.list_append l its.toArray n u (by rw[abm];omega)) ⟨e,?_⟩
 refine⟨.non,_,I.S8 (its':=its++[u]) hH e (by simp) (r.append (.cons ru .nil)) ?_,rfl,q⟩
 rw[abj,List.length_singleton]
 omega
def M1:V->List V->Hp->VK->Prop:=λx vs H Q=>∃l b xs zs,x=.ref l/\vs=[.ref b]/\H l=some (.lst xs)/\H b=some (.lst zs)/\xs.length+zs.length<=sizeLine/\Q .non (upd H l (.lst (xs++zs)))
theorem AQ:MtM X "list.extend" M1:=by
 intro pins s σ H x vs v us Q I rx rv h
 obtain⟨l,b,xs,zs,rfl,rfl,hH,hB,hz,q⟩:=h
 cases rx
 obtain⟨u,rfl,ru⟩:=rv.one
 cases ru
 obtain⟨z,its,n,r,hl,e⟩:=I.Kr hH
 obtain⟨z2,its2,n2,r2,hl2,e2⟩:=I.Kr hB
 have hsz:its.toArray.size+its2.toArray.size<=sizeLine:=by rw[abm,abm];omega
 have S9:¬(!its.toArray.isEmpty&&Builtin.List.listTooLong (its.toArray.size+its2.toArray.size))=true:=by
  rw[Ks hsz,Bool.and_false]
  exact abv
 refine call_meets F.slot_list_extend ⟨_,e,rfl⟩ F.entry_list_extend (F.args_list_extend_2 _ _)
  (AutoSeq1.list_extend_list_list_0 l its.toArray n b its2.toArray n2 S9 (by rw[abm];omega) (by omega)) ⟨e,e2,?_⟩
 refine⟨.non,_,I.S8 (its':=its++its2) hH e (by simp) (r.append r2) ?_,rfl,q⟩
 rw[abj]
 omega
def Wn:R2:=λx y H Q=>∃l b xs zs,x=.ref l/\y=.ref b/\H l=some (.lst xs)/\H b=some (.lst zs)/\xs.length+zs.length<=sizeLine/\∀p,H p=none->Q (.ref p) (upd H p (.lst (xs++zs)))
theorem BQ:nD X (binaryOp .Add) Wn:=by
 intro pins s σ H x y v u Q I rx ry h
 obtain⟨l,b,xs,zs,rfl,rfl,hH,hB,hz,q⟩:=h
 cases rx
 cases ry
 obtain⟨z,its,n,r,hl,e⟩:=I.Kr hH
 obtain⟨z2,its2,n2,r2,hl2,e2⟩:=I.Kr hB
 refine PySem.P.add_list e e2 ?_ (by rw[abm,abm];omega)
 have ea:its.toArray++its2.toArray=(its++its2).toArray:=by simp
 rw[ea]
 exact⟨.ref _,_,I.P6 (t':=s.toks) (r.append r2) (by rw[abj];omega),rfl,q _ I.fresh⟩
end
section
variable{prog:Program}{w:World}{A:Around}{E:Value->Shared->Prop}{s:Shared}
set_option maxRecDepth 100000 in
end
section
variable{X:Cx}
end
end L2
namespace Att
open PySem PySem.W PySem.Calls PyProof.Rows
theorem vW{P:Params}{h:Heap}:∀(ns:List Int)(vs:List Value),WellAll P h vs (ns.map WData.int)->IntsAre vs ns:=by
 intro ns
 induction ns with
 |nil =>
  intro vs w
  rw[List.map_nil]at w
  cases w
  exact .nil
 |cons n ns ih =>
  intro vs w
  rw[abT]at w
  cases w with
  |cons a b =>
   cases a
   exact .cons _ _ (ih _ b)
theorem Ia{l:OpenLaw}{n:Nat}(hn:l.most=some n){P:Params}{h:Heap}{args:List WData}{vals:List Value}(hpre:l.row.toRowW.claim.pre args=true)(hwl:WellAll P h vals args):∃a vs ns,vals=[Value.ref a]/\args=[WData.list (ns.map WData.int)]/\h.get? a=some {cls:=.type "list",data:=.seq vs.toArray}/\IntsAre vs ns/\ns.length<=n:=by
 have hsh:WShape.hasAll [] args [.list .int]=true:=(pre_splitW hpre).1
 have hc:l.pre.holds [] {args:=args}=true:=(pre_splitW hpre).2
 obtain⟨d,r,rfl,h1,h2⟩:=hasAllW_cons hsh
 obtain rfl:=hasAllW_nil h2
 obtain⟨xs,rfl,h3⟩:=hasW_list h1
 obtain⟨ns,rfl⟩:=items_int h3
 have hlen:ns.length<=n:=by
  unfold OpenLaw.pre at hc
  have h4:(WTm.not (.lt (.lit (.int (n:Int))) (.len (.arg 0)))).holds [] {args:=[.list (ns.map .int)]}=true:=by
   have h4:=(holds_andW hc).1
   rw[hn]at h4
   exact h4
  have h5:=condW_of h4 (w_not (w_lt w_lit (w_len_list (w_arg rfl))))
  rw[abg]at h5
  refine Nat.le_of_not_lt λq=>?_
  have q':(n:Int)<((ns.length:Nat):Int):=by omega
  first
   | (rw[abo q']at h5;exact absurd h5 (by decide))
   | (simp at h5;omega)
 cases hwl with
 |cons w1 w2 =>
  cases w2
  cases w1 with
  |list ho hall=>exact⟨_,_,ns,rfl,rfl,ho,vW ns _ hall,hlen⟩
theorem Ib(l:OpenLaw)(args:List WData):l.row.toRowW.claim.post args (.bool true) args=true :=
 postW_of (r:=l.row.toRowW) (X:=(true==true))
  (show WShape.has [] (.bool true) .bool=true by first|rfl|decide|simp[WShape.has,WShape.arms,WShape.armsAll])
  (show(WTm.eq .res (.lit (.bool true))).value [] {args:=args,res:=some (.bool true),after:=args}=some (.bool (true==true)) from w_eq_bool (w_res rfl) w_lit) rfl
theorem DI{l:OpenLaw}{n:Nat}{q:Program}{loose:List Str}{XP:(Str->Option Value)->Heap->Prop}{YP:World->Heap->Prop}{d:DefRec}(hn:l.most=some n)(hdf:d.params.defaults=[])(call:∀(w:World)(s₀ s₁:Shared)(mg mb:Str->Option Value)(fa:Addr)(o:Obj)(pm cd doc:Value)(a:Addr)(vs:List Value)(ns:List Int),Ground q loose [] XP w s₀ mg mb s₁.heap->YP w s₁.heap->s₁.heap.get? fa=some o->o.data=.func (docDef d.name d.params d.body d.scope pm cd doc)->s₁.heap.CodeRec cd d.name->mg d.name=some (.ref fa)->s₁.heap.get? a=some {cls:=.type "list",data:=.seq vs.toArray}->IntsAre vs ns->ns.length<=n->s₁.gens = #[]->codeAny (model l.prog w) callerA (.call (.ref fa) ⟨[.ref a],[]⟩) (λr s'=>r=.ok (.ret (.bool true))/\OldK s₁.heap s'.heap/\s'.os=s₁.os/\AllBare s'.gens) s₁):WalkO q loose XP YP l.row.toRowW d [] (λf vs=>PySem.call f vs):=by
 intro w s₀ s₁ mg mb G Y fa o pm cd doc dV kV ho hd hcd hD hmg hg args vals as hpre hlay hrd hwl hlo
 obtain rfl:dV=.none:=Dflts.none hD hdf
 obtain rfl:kV=.none:=Dflts.noKw hD
 obtain⟨a,vs,ns,rfl,rfl,hobj,hints,hlen⟩:=Ia hn hpre hwl
 refine enter_call (codeAny_mono (call w s₀ s₁ mg mb fa o pm cd doc a vs ns G Y ho (fd_plain hd) hcd hmg hobj hints hlen hg) λr s' hq=>?_)
 obtain⟨rfl,h2,h3,h4⟩:=hq
 exact⟨.inl ⟨.bool true,.bool true,[],rfl,λ_=>rfl,.bool true,Ib l _,λ_=>⟨List.Pairwise.nil,λ_ hm=>(nomatch hm)⟩⟩,h2,h3,h4⟩
section
variable{prog:Program}{w:World}{A:Around}{E:Value->Shared->Prop}{s:Shared}{K:Frag}
end
end Att
namespace L2
open PySem PySem.Spec PyProof.Rows
theorem AR:∀{vs:List Value}{ns:List Int},IntsAre vs ns->Vals (ns.map V.int) vs
 |_,_,.nil=>.nil
 |_,_,.cons n t h=>.cons ⟨t,rfl⟩ (AR h)
def P7(H:Hp):Prop:=∀b,H b=none\/∃o xs,H b=some (.E1 o (.lst xs))
theorem Ku{P:Program}{w:World}{K:W.Frag}{mg mb:Str->Option Value}{CX:GU}{k:Nat}{fa a:Addr}{fd:FuncData}{x:Str}{sp:Sp}{s₁:Shared}{vs:List Value}{ns:List Int}(KX:K.In s₁.heap)(hns:s₁.heap.Ns mainGlobals mg)(hb:s₁.heap.Ns builtinsNs mb)(hbb:∀x:Str,x ≠ "__name__"->mb x=bootBuiltins x)(hlim:s₁.heap.NoLimit)(hg:s₁.gens = #[])(ha:s₁.heap.get? a=some {cls:=.type "list",data:=.seq vs.toArray})(hi:IntsAre vs ns)(hl:ns.length<=sizeLine)(hr:fR k callerA)(F:∀base:Heap,K.In base->base.Ns mainGlobals mg->br P w K mg base CX k fa fd [x] sp)(hbind:∀(s:Shared)(u:Value),BindsTo s fd ⟨[u],[]⟩ [(x,u)])(GW:∀H:Hp,P7 H->bw K H a (ns.map V.int)->sp [.ref a] H (λv _=>v=.bl true) λ_ _ _=>False)(Wo:∀H e s',CX [] H s₁ (λ_ _ _=>False) e s'->False):codeAny (model P w) callerA (.call (.ref fa) ⟨[.ref a],[]⟩) (λr s'=>r=.ok (.ret (.bool true))/\OldK s₁.heap s'.heap/\s'.os=s₁.os/\AllBare s'.gens) s₁:=by
 have rv:=AR hi
 have Wq:=hi.length
 have core:∀H:Hp,P7 H->bw K H a (ns.map V.int)->tS P w H s₁.heap->(∀b,H b≠none->b=a)->(H a≠none->K.lookup a=none)->codeAny (model P w) callerA (.call (.ref fa) ⟨[.ref a],[]⟩) (λr s'=>r=.ok (.ret (.bool true))/\OldK s₁.heap s'.heap/\s'.os=s₁.os/\AllBare s'.gens) s₁:=by
  intro H hO hS hok hA hK
  have GZ:∀{b:Addr}{o:Obj},s₁.heap.get? b=some o->H b=none->(BC s₁.heap H).get? b=some o:=λe n=>JW e n
  have S2:∀{b:Addr}{o:Obj}{es:Array DictEntry}{ep:Nat},s₁.heap.get? b=some o->o.data=.dict es ep->H b=none:=λ{b o es ep} e d=>by
   cases q:H b with
   |none=>rfl
   |some u =>
    have e':b=a:=hA b (by rw[q];simp)
    subst e'
    rw[ha]at e;cases e
    have d':Data.seq vs.toArray _=Data.dict es ep:=d
    cases d'
  have VF:∀{b:Addr}{m:Str->Option Value},s₁.heap.Ns b m->(BC s₁.heap H).Ns b m:=λ{b m} ⟨o,es,ep,e,d,r⟩=>⟨o,es,ep,GZ e (S2 e d),d,r⟩
  have hKb:K.In (BC s₁.heap H):=λb o e=>GZ (KX b o e) (by
   cases q:H b with
   |none=>rfl
   |some u =>
    have e':b=a:=hA b (by rw[q];simp)
    subst e'
    rw[hK (by rw[q];simp)]at e;cases e)
  have hM:Mod K mg (BC s₁.heap H):=⟨hKb,VF hns,⟨mb,VF hb,hbb⟩,let ⟨mc,h1,h2⟩:=hlim;⟨mc,VF h1,h2⟩⟩
  have e0:Fd P w K mg (BC s₁.heap H) callerA [] s₁ H:=⟨rfl,hM,λb o e=>MJ e,Nat.le_of_eq (HR _ _),trivial,λb hb=>absurd (show b∈([]:List Addr) from hb) (by simp),hok,.of_eq hg⟩
  refine codeAny_mono ((F _ hKb (VF hns)).run callerA [] s₁ H ⟨[.ref a],[]⟩ [.ref a] [.ref a] _ _ hr e0 (hbind s₁ (.ref a)) (.cons rfl .nil) (GW H hO hS)) λr s' h=>?_
  cases r with
  |error e=>exact(Wo H e s' h).elim
  |ok fl =>
   cases fl with
   |next=>exact False.elim h
   |brk=>exact False.elim h
   |cont=>exact False.elim h
   |ret u =>
    obtain⟨v,H',os,bare,un,Wr,r',q⟩:=h
    have q':v=.bl true:=q
    subst q'
    obtain rfl:u=Value.bool true:=r'
    refine⟨O,OldK.of_keep λb o e=>?_,os,bare⟩
    cases q:H b with
    |none=>exact un.keep b o e q (by intro z;exact absurd (show b∈([]:List Addr) from z) (by simp)) (by simp)
    |some u =>
     rcases hO b with z|⟨ob,xs,z⟩
     ·rw[q]at z;cases z
     ·have z2:=un.tU b ob _ z
      obtain⟨e1,_⟩:=hok b _ z
      obtain⟨e2,_⟩:=Wr b _ z2
      rw[e]at e1;cases e1
      exact e2
 cases hk:K.lookup a with
 |some o =>
  have e:=KX a o hk
  rw[ha]at e
  cases e
  refine core (λ_=>none) (λ_=>.inl rfl) (.inr ⟨_,vs.toArray,_,hk,rfl,rfl,rfl,by rw[abm,Wq];exact hl,by simpa using rv⟩) (λb u z=>by have z':(none:Option HO)=some u:=z;cases z') (λb z=>absurd rfl z) λz=>absurd rfl z
 |none =>
  refine core (λb=>if b=a then some (.E1 {cls:=.type "list",data:=.seq vs.toArray} (.lst (ns.map V.int))) else none) (λb=>?_) (.inl (.inr ⟨{cls:=.type "list",data:=.seq vs.toArray},abe rfl⟩)) (λb u z=>?_) (λb z=>?_) λ_=>hk
  ·by_cases hb:b=a
   ·exact .inr ⟨_,_,abe hb⟩
   ·exact .inl (abb hb)
  ·by_cases hb:b=a
   ·have z':=(abe hb).symm.trans z
    cases z'
    subst hb
    exact⟨ha,by rw[abg];exact hl,vs,_,rv,ha⟩
   ·have z':=(abb hb).symm.trans z
    cases z'
  ·by_cases hb:b=a
   ·exact hb
   ·exact absurd (abb hb) z
theorem M3{l:W.OpenLaw}{n k:Nat}{q:Program}{loose:List Str}{XP:(Str->Option Value)->Heap->Prop}{YP:World->Heap->Prop}{d:DefRec}{K:Params->W.Frag}{CX:World->GU}{sp:World->Sp}{x:Str}(hn:l.most=some n)(hn2:n<=sizeLine)(hdf:d.params.defaults=[])(hr:fR k callerA)(hY:∀(w:World)(h:Heap),YP w h->(K w.params).In h)(F:∀(w:World)(mg:Str->Option Value)(fa:Addr)(h:Heap),(K w.params).In h->h.Ns mainGlobals mg->mg d.name=some (.ref fa)->∃fd:FuncData,(∀(s:Shared)(u:Value),BindsTo s fd ⟨[u],[]⟩ [(x,u)])/\∀base:Heap,(K w.params).In base->base.Ns mainGlobals mg->br l.prog w (K w.params) mg base (CX w) k fa fd [x] (sp w))(GW:∀(w:World)(H:Hp)(a:Addr)(ns:List Int),ns.length<=n->P7 H->bw (K w.params) H a (ns.map V.int)->sp w [.ref a] H (λv _=>v=.bl true) λ_ _ _=>False)(Wo:∀(w:World)(H:Hp)(s:Shared)(e:Value)(s':Shared),CX w [] H s (λ_ _ _=>False) e s'->False):W.WalkO q loose XP YP l.row.toRowW d [] (λf vs=>PySem.call f vs):=by
 refine Att.DI hn hdf λw s₀ s₁ mg mb fa o pm cd doc a vs ns G Y ho hd hcd hmg hobj hints hlen hg=>?_
 have KX:=hY w _ Y
 obtain⟨fd,hb,hF⟩:=F w mg fa _ KX G.T.g hmg
 exact Ku KX G.T.g G.T.b G.T.builtins G.T.nolimit hg hobj hints (abn hlen hn2) hr hF hb (λH hO hS=>GW w H a ns hlen hO hS) λH e s'=>Wo w H s₁ e s'
def inClass(s:Stmt)(j:Nat):Stmt:=match s with
 | .ClassDef _ _ _ body _ _ _ _ _ _ _=>body.getD j (.Pass ⟨0,0,0,0⟩)
 |_=>.Pass ⟨0,0,0,0⟩
def dh(s:Stmt):Arguments:=match s with
 | .FunctionDef _ a _ _ _ _ _ _ _ _=>a
 |_=>{posonlyargs:=[],args:=[],vararg:=none,kwonlyargs:=[],kw_defaults:=[],kwarg:=none,defaults:=[]}
def cE(s:Stmt):List Stmt:=match s with
 | .FunctionDef _ _ b _ _ _ _ _ _ _=>b
 |_=>[]
def av(s:Stmt):Scope:=match s with
 | .FunctionDef _ _ _ _ _ _ sc _ _ _=>sc
 |_=>{kind:=.function,names:=[],isGenerator:=false,isCoroutine:=false}
abbrev fO:GU:=λ_ _ _ _ _ _=>False
abbrev E0:XK:=λ_ _ _=>False
theorem iz{X:Cx}:Passes fO X E0:=λ_ _ _ _ _ _ _ h=>h.elim
structure fj(K:W.Frag)(x qual:Str)(st:Stmt)(f:Addr)(fd:FuncData):Prop where
 ex:∃(oc:Value)(od:Option Addr)(kV doc pm:Value)(an:Option Addr)(cdv ct:Value)(osl:Array (Option Value)),fd=W.fnOf x qual (dh st) (cE st) (av st) .none kV doc pm an cdv ct/\K.lookup f=some ⟨oc,od,.func fd,osl⟩/\W.codeIn K cdv qual=true
 kp:W.keepIn K (.ref f)=true
section
variable{P:Program}{w:World}{K:W.Frag}{mg:Str->Option Value}{base:Heap}
theorem fj.ok{x qual:Str}{st:Stmt}{f:Addr}{fd:FuncData}{N ps:List Str}{k:Nat}{sp:Sp}(F:fj K x qual st f fd)(S:aG N ps (av st))(len:∀vs H Q E,sp vs H Q E->vs.length=ps.length)(hbody:∀(cdv:Value)(A:Around)(outer:List Env)(s:Shared)(H:Hp)(vs:List V)(Q:VK)(E:XK),fR k (A.deeper (envOfC qual (av st) s.heap.objs.size f cdv))->sp vs H Q E->∃t,DA (BF fO P w K mg base N qual (av st) f cdv A outer s H E).PB (cE st) t/\t {nx:=λ_ H'=>Q .non H',rt:=Q} (start N vs) H):br P w K mg base fO (k+1) f fd ps sp:=by
 obtain⟨oc,od,kV,doc,pm,an,cdv,ct,osl,rfl,lk,hcd⟩:=F.ex
 refine Kn lk hcd S len λA outer s H vs Q E hr GW=>?_
 obtain⟨t,h,q⟩:=hbody cdv A outer s H vs Q E hr GW
 exact⟨t,h.PB,q⟩
theorem fj.binds{x qual:Str}{st:Stmt}{f:Addr}{fd:FuncData}{ps:List Str}(F:fj K x qual st f fd)(h:∀(kV doc pm:Value)(an:Option Addr)(cdv ct:Value)(us:List Value),us.length=ps.length->bindArgs (W.fnOf x qual (dh st) (cE st) (av st) .none kV doc pm an cdv ct) ⟨us,[]⟩=pure (ps.zip us)):Binds K fd ps []:=by
 obtain⟨oc,od,kV,doc,pm,an,cdv,ct,osl,rfl,lk,hcd⟩:=F.ex
 exact .all (h kV doc pm an cdv ct)
theorem Kv{x qual:Str}{st:Stmt}{f:Addr}{oc:Value}{od an:Option Addr}{osl:Array (Option Value)}{kV doc pm cdv ct:Value}(l:K.lookup f=some ⟨oc,od,.func (W.fnOf x qual (dh st) (cE st) (av st) .none kV doc pm an cdv ct),osl⟩)(c:W.codeIn K cdv qual=true)(k:W.keepIn K (.ref f)=true):fj K x qual st f (W.fnOf x qual (dh st) (cE st) (av st) .none kV doc pm an cdv ct):=⟨⟨oc,od,kV,doc,pm,an,cdv,ct,osl,rfl,l,c⟩,k⟩
end
theorem bf{A:Around}{k:Nat}(hr:fR k A):A.units+1<cLine:=abz (Nat.add_le_add_left (by decide:1<=64) _) hr.units
section
variable{X:Cx}
theorem pv(i:Nat){x:Str}{pos:Pos}(hN:X.N[i]?=some x:=by rfl)(hv:V4 X.env.scope x:=by first|exact Or.inl rfl|exact Or.inr (Or.inl rfl)|exact Or.inr (Or.inr rfl))(hd:(x==("__debug__":Str))=false:=by decide)(hcd:(x==("__classdict__":Str))=false:=by decide):PE X (.Name x pos) (JY i):=Pz hN hv hd hcd
end
theorem cJ{A B:Prop}(h:B):if false=true then A else B:=by
 rw[abb abv]
 exact h
theorem j9{A B:Prop}(h:A):if true=true then A else B:=by
 rw[abe rfl]
 exact h
theorem bg{c A B:Prop}[Decidable c](h1:c->A)(h2:¬c->B):if c then A else B:=by
 by_cases h:c
 ·rw[abe h]
  exact h1 h
 ·rw[abb h]
  exact h2 h
theorem Tc{c A B:Prop}[Decidable c](hc:c)(h:B):if (!decide c)=true then A else B:=by
 rw[abo hc]
 exact cJ h
def aH(H H':Hp):Prop:=∀b o,H b=some o->H' b=some o
theorem aH.refl(H:Hp):aH H H:=λ_ _ h=>h
theorem aH.trans{H H1 H2:Hp}(a:aH H H1)(b:aH H1 H2):aH H H2:=λc o h=>b c o (a c o h)
theorem aH.free{H H':Hp}(e:aH H H'){l:Addr}(h:H' l=Option.none):H l=Option.none:=by
 cases q:H l with
 |none=>rfl
 |some o =>
  rw[e l o q]at h
  cases h
theorem aH.seq{K:W.Frag}{H H':Hp}{a:Addr}{xs:List V}(e:aH H H')(h:bw K H a xs):bw K H' a xs:=by
 rcases h with (h|⟨o,h⟩)|h
 ·exact .inl (.inl (e _ _ h))
 ·exact .inl (.inr ⟨o,e _ _ h⟩)
 ·exact .inr h
end L2
set_option maxHeartbeats 4000000
namespace L2
open PySem PySem.Spec PyProof.Rows
def d9(env:Env):List (Str×NameKind)->List (Str×Addr)->List (Str×Addr)
 |[],cs=>cs
 | (n,k)::r,cs=>d9 env r (if k==.free then (n,(env.cells.lookup n).getD 0)::cs else cs)
theorem kN{scope:Scope}{env:Env}(h:∀n,(n,NameKind.free)∈scope.names->∃c,env.cells.lookup n=some c):closureFor scope env=pure (d9 env scope.names []):=by
 simp only[closureFor]
 have key:∀(l:List (Str×NameKind))(cs:List (Str×Addr)),(∀n,(n,NameKind.free)∈l->∃c,env.cells.lookup n=some c)->(forIn l cs (λx r=>if (x.2==NameKind.free)=true then (cellOf env x.1 >>= λa=>pure (ForInStep.yield ((x.1,a)::r))) else pure (ForInStep.yield r)):Sem (List (Str×Addr)))=pure (d9 env l cs):=by
  intro l
  induction l with
  |nil=>intro cs _;rfl
  |cons x l ih =>
   intro cs hl
   obtain⟨n,k⟩:=x
   have hl':∀n,(n,NameKind.free)∈l->∃c,env.cells.lookup n=some c:=λn hn=>hl n (abC _ hn)
   rw[List.forIn_cons]
   by_cases hk:k=.free
   ·subst hk
    obtain⟨c,hc⟩:=hl n abN
    have e1:cellOf env n=pure c:=by unfold cellOf;rw[hc]
    simp only[beq_self_eq_true,if_true,e1,pure_bind]
    rw[ih _ hl']
    simp only[d9,beq_self_eq_true,if_true,hc,Option.getD_some]
   ·have hb:(k==NameKind.free)=false:=by simpa using hk
    simp only[hb,abW,acm,pure_bind]
    rw[ih _ hl']
    simp only[d9,hb,abW,acm]
 exact(congrArg (λz=>z >>= λr=>pure r) (key scope.names [] h)).trans rfl
theorem jF{env:Env}:∀(l:List (Str×NameKind))(cs:List (Str×Addr)),(∀n,(n,NameKind.free)∈l->∃c,env.cells.lookup n=some c)->(∀x c,cs.lookup x=some c->env.cells.lookup x=some c)->∀x c,(d9 env l cs).lookup x=some c->env.cells.lookup x=some c
 |[],cs,_,h,x,c,e=>h x c e
 | (n,k)::r,cs,hl,h,x,c,e=>by
  refine jF r _ (λn hn=>hl n (abC _ hn)) ?_ x c e
  intro y d hy
  by_cases hk:(k==NameKind.free)=true
  ·rw[abe hk]at hy
   have hk':k=.free:=by simpa using hk
   subst hk'
   obtain⟨c',hc'⟩:=hl n abN
   rw[hc',Option.getD_some,acj]at hy
   cases Ws:y==n with
   |true =>
    rw[Ws]at hy
    have:y=n:=by simpa using Ws
    subst this
    rw[hc'];exact hy
   |false=>rw[Ws]at hy;exact h y d hy
  ·rw[abb hk]at hy;exact h y d hy
theorem iS{env:Env}:∀(l:List (Str×NameKind))(cs:List (Str×Addr))(x:Str),((x,NameKind.free)∈l\/∃c,cs.lookup x=some c)->∃c,(d9 env l cs).lookup x=some c
 |[],cs,x,h=>by
  rcases h with h|h
  ·cases h
  ·exact h
 | (n,k)::r,cs,x,h=>by
  refine iS r _ x ?_
  rcases h with h|⟨c,h⟩
  ·rcases abw.mp h with e|h
   ·cases e
    refine .inr ⟨(env.cells.lookup n).getD 0,?_⟩
    simp[acj]
   ·exact .inl h
  ·right
   by_cases hk:(k==NameKind.free)=true
   ·rw[abe hk,acj]
    cases x==n with
    |true=>exact⟨_,rfl⟩
    |false=>exact⟨c,h⟩
   ·rw[abb hk];exact⟨c,h⟩
theorem cP{env:Env}(x:Str):∀(names:List (Str×NameKind)),(names.map λ(n,k)=>if (k==NameKind.free&&env.scope.kind==.function&&env.kindOf n==some .cell) then (n,NameKind.cell) else (n,k)).lookup x =
   (names.lookup x).map λk=>if (k==NameKind.free&&env.scope.kind==.function&&env.kindOf x==some .cell) then NameKind.cell else k
 |[]=>rfl
 | (n,k)::r=>by
  have ih:=cP (env:=env) x r
  show List.lookup x ((if (k==NameKind.free&&env.scope.kind==.function&&env.kindOf n==some .cell)=true then (n,NameKind.cell) else (n,k))::_)=_
  cases hx:x==n with
  |true =>
   have e:x=n:=by simpa using hx
   subst e
   by_cases hc:(k==NameKind.free&&env.scope.kind==.function&&env.kindOf x==some .cell)=true
   ·rw[abe hc];simp only[acj,beq_self_eq_true,ab5,abe hc]
   ·rw[abb hc];simp only[acj,beq_self_eq_true,ab5,abb hc]
  |false =>
   by_cases hc:(k==NameKind.free&&env.scope.kind==.function&&env.kindOf n==some .cell)=true
   ·rw[abe hc];simp only[acj,hx];exact ih
   ·rw[abb hc];simp only[acj,hx];exact ih
structure bD(XN:List Str)(Ic:Scope)(N:List Str)(nv:Nat)(js:List Nat)(scope:Scope):Prop where
 kind:scope.kind=.function
 cell:∀y∈scope.names,y.2≠.cell
 loc:∀y∈scope.names,y.2=.local->scope.names.lookup y.1=some .local
 free:∀y∈scope.names,y.2=.free->(Ic.names.lookup y.1=some .cell\/Ic.names.lookup y.1=some .free)
 nd:N.Nodup
 len:N.length=nv+js.length
 pl:js.map (λj=>XN[j]?)=(N.drop nv).map some
 fr:∀x∈N.drop nv,scope.names.lookup x=some .free
abbrev jG(X:Cx)(N:List Str)(scope:Scope)(C:Addr)(s:Shared)(H:Hp)(fp:List Addr):Cx where
 prog:=X.prog
 w:=X.w
 K:=X.K
 mg:=X.mg
 base:=X.base
 A:=X.A
 N:=N
 s₀:=s
 H₀:=H
 env:=compEnvC scope (d9 X.env scope.names []) C X.env
 outer:=X.stack
 stack:=X.stack
 ex:=fp
 fn:=λ_=>false
 calm:=X.calm
 pn:=[]
 xe:=λ_ _=>False
def jH(nv:Nat)(js:List Nat)(σ:St):St:=List.replicate nv none++js.map λj=>(σ[j]?).getD none
section
variable{X:Cx}{pins:List (Addr×Obj)}{σ:St}{H:Hp}{s:Shared}
theorem Fg{N:List Str}{nv:Nat}{js:List Nat}{scope:Scope}{fp:List Addr}{h1:Heap}{tk:Nat}(I:Inv X pins σ H s)(S:bD X.N X.env.scope N nv js scope)(hf:∀b∈fp,lQ X pins H b)(hfl:∀b∈fp,b<s.heap.objs.size)(keep:∀b o,s.heap.get? b=some o->h1.get? b=some o)(ns:h1.Ns s.heap.objs.size λ_=>none):Inv (jG X N scope s.heap.objs.size s H fp) [] (jH nv js σ) H {s with heap:=h1,toks:=tk}:=by
 have hfr:∀n,(n,NameKind.free)∈scope.names->∃c,X.env.cells.lookup n=some c:=λn hn=>I.ok.has n (S.free _ hn rfl)
 have sub:∀x c,(d9 X.env scope.names []).lookup x=some c->X.env.cells.lookup x=some c:=jF scope.names [] hfr (λx c z=>by cases z)
 have P8:∀x,scope.names.lookup x≠some .cell:=λx z=>S.cell _ (abS z) rfl
 have P9:∀x,(relabel scope X.env).names.lookup x=some .cell\/(relabel scope X.env).names.lookup x=some .free->scope.names.lookup x=some .free:=by
  intro x hx
  have e:=cP (env:=X.env) x scope.names
  have hx':(relabel scope X.env).names.lookup x=_:=e
  rw[hx']at hx
  cases q:scope.names.lookup x with
  |none=>rw[q]at hx;rcases hx with hx|hx<;>cases hx
  |some k =>
   rw[q,ab5]at hx
   cases k<;>first|rfl | (exact absurd q (P8 x)) | (exfalso;rcases hx with hx|hx<;>simp at hx)
 refine⟨⟨I.ok.mod,S.kind,I.ok.glob,I.ok.blt,abf _,λx y c h1 h2=>I.ok.inj x y c (sub _ _ h1) (sub _ _ h2),λx hx=>?_,λx c z=>(by cases z),I.ok.hd,I.ok.frames,.inl rfl,λb hb=>?_,λb o e=>?_,?_,λb o e hb=>?_,λb hb z=>?_,I.stack,I.xG⟩,O,I.bare,Un.kept keep,⟨_,ns,λi x v e1 e2 e3=>?_⟩,λx c e=>?_,I.hok.fresh (abf _),λx c e=>I.iQ x c (sub _ _ e),λp hp=>absurd (show p∈([]:List (Addr×Obj)) from hp) (by simp),I.hok.kept keep,?_⟩
 ·exact iS _ _ _ (.inl (abS (P9 x hx)))
 ·obtain⟨f0,f1,f2,f3,f4,f5⟩:=hf b hb
  exact⟨abK (hfl b hb),λx c e=>f4 x c (sub x c e)⟩
 ·exact I.bs b o e
 ·exact abn I.ok.JI I.sz
 ·obtain⟨f0,f1,f2,f3,f4,f5⟩:=hf b hb
  rcases f3 with z|z
  ·exact I.ok.E2 b o e z
  ·exact absurd (abA (abu e) (abn I.ok.JI z)) (acp _)
 ·obtain⟨f0,f1,f2,f3,f4,f5⟩:=hf b hb
  rcases abw.mp (I.qx b z) with q|q
  ·exact f1 q
  ·exact f2 q
 ·
  have hi:¬i<nv:=λhlt=>by
   unfold jH at e2
   rw[List.getElem?_append_left (by simpa using hlt),List.getElem?_replicate,abe hlt]at e2
   cases e2
  obtain⟨k,rfl⟩:∃k,i=nv+k:=⟨i-nv,by omega⟩
  unfold jH at e2
  rw[acJ (by simp),acd,Nat.add_sub_cancel_left,abZ]at e2
  cases hj:js[k]? with
  |none=>rw[hj]at e2;cases e2
  |some j =>
   rw[hj,ab5]at e2
   have M4:(σ[j]?).getD none=some v:=abH e2
   have hσ:σ[j]?=some (some v):=by
    cases q:σ[j]? with
    |none=>rw[q]at M4;cases M4
    |some z=>rw[q]at M4;exact congrArg some M4
   have hd:(N.drop nv)[k]?=some x:=by rw[List.getElem?_drop];exact e1
   have hX:X.N[j]?=some x:=by
    have q:=congrArg (λl=>l[k]?) S.pl
    simp only[abZ,hj,hd,ab5]at q
    exact abH q
   have hfx:=S.fr x (abq hd)
   have kx:=S.free _ (abS hfx) rfl
   obtain⟨m,_,hl⟩:=I.loc
   obtain⟨u,r,l⟩:=hl j x v hX hσ (.inr kx)
   refine⟨u,r,?_⟩
   rcases l with ⟨k1,_⟩|⟨_,c,hc,hcell⟩
   ·exfalso
    have VG:X.env.scope.names.lookup x=some .local:=k1
    rcases kx with z|z<;>(rw[VG]at z;cases z)
   ·obtain⟨c',hc'⟩:=iS (env:=X.env) scope.names [] x (.inl (abS hfx))
    have e:=sub _ _ hc'
    rw[hc]at e;cases e
    refine .inr ⟨?_,c,hc',hcell.keeps keep⟩
    have e:=cP (env:=X.env) x scope.names
    have e':(relabel scope X.env).names.lookup x=_:=e
    rw[hfx,ab5]at e'
    show(relabel scope X.env).names.lookup x=some .cell\/(relabel scope X.env).names.lookup x=some .free
    rw[e']
    split
    ·exact .inl rfl
    ·exact .inr rfl
 ·obtain⟨v,q⟩:=I.cell x c (sub _ _ e)
  exact⟨v,q.keeps keep⟩
 ·unfold jH
  show _=N.length
  rw[abj,acd,abg,S.len]
end
def BR(X:Cx)(ifs:List Expr)(t:TT):Prop :=
 ∀(pins:List (Addr×Obj))(s:Shared)(σ:St)(H:Hp)(Q:Bool->Hp->Prop),Inv X pins σ H s->t σ H Q->wpAny (model X.prog X.w) X.A (forIn ifs true λc r=>if r=true then do let ok ←isTrue c X.env (eval c X.env);pure (ForInStep.yield ok) else pure (ForInStep.yield r)) (TP X pins σ Q) X.xe s
def Td:TT:=λ_ H Q=>Q true H
theorem eg{X:Cx}:BR X [] Td:=λ_ _ _ H _ I h=>wpAny_tests_nil ⟨H,I,h⟩
theorem M5{X:Cx}{c:Expr}{t:TT}(h:PT X c t):BR X [c] t:=λpins s σ H Q I q=>wpAny_tests_one (h pins s σ H Q I q)
def yb(J:It)(g:TG)(tt:TT)(te:TE)(Q:VK)(D:Addr)(τ:St)(H:Hp):Prop :=
 ∃W:Nat->Nat->List V->St->Hp->Prop,(∃m,W 0 m [] τ (upd H D (.lst [])))/\∀i m ys τ H,W i m ys τ H->H D=some (.lst ys)/\((J.stop i H/\Q (.ref D) H)\/(J.go i H/\∃N:List V->St->Hp->Prop,(∀zs σ' H',N zs σ' H'->∃m',m'<m/\W (i+1) m' zs σ' H')/\∀x H',J.MG i H x H'->g x τ H' λτ2 H2=>tt τ2 H2 λb H3 =>
   if b=true then te τ2 H3 λy H4=>H4 D=some (.lst ys)/\ys.length<sizeLine/\N (ys++[y]) τ2 (upd H4 D (.lst (ys++[y])))
   else N ys τ2 H3))
def Kw(wi:TI)(g:TG)(tt:TT)(te:TE)(nv:Nat)(js:List Nat):TE:=λσ H Q=>wi σ H λJ H1=>∀D,H1 D=none->yb J g tt te Q D (jH nv js σ) H1
theorem yc{prog:Program}{w:World}{A:Around}{R:Result->Shared->Prop}{s:Shared}{elt target iter:Expr}{ifs:List Expr}{scope:Scope}{pos:Pos}{it acc:Value}{env:Env}(I:Nat->Shared->Prop)(turn:∀n s,I n s->wpAny (model prog w) A (pyNext it) (λr s₁=>match r with
   |none=>R (.ok .next) s₁
   |some v=>wpAny (model prog w) A (letOwnedTupleGo target it v) (λ_ s₁'=>wpAny (model prog w) A (assign target env v) (λ_ s₂ =>
     wpAny (model prog w) A (forIn ifs true λc r=>if r=true then do let ok ←isTrue c env (eval c env);pure (ForInStep.yield ok) else pure (ForInStep.yield r)) (λok s₃ =>
      if ok=true then wpAny (model prog w) A (eval elt env) (λx s₄ =>
       wpAny (model prog w) A (call (.builtin "list.append") [acc,x]) (λ_ s₅=>∃m,m<n/\I m s₅) (λ_ _=>False) s₄) (λ_ _=>False) s₃
      else ∃m,m<n/\I m s₃) (λ_ _=>False) s₂) (λ_ _=>False) s₁') (λ_ _=>False) s₁) (λ_ _=>False) s)(n:Nat)(h:I n s):codeAny (model prog w) A (.compLoop (.ListComp elt [⟨target,iter,ifs,0⟩] scope pos) 0 it acc env) R s:=by
 refine codeAny_loop rfl I (λn s hI=>?_) n h
 show wpAny _ A ((compTurn (.ListComp elt [⟨target,iter,ifs,0⟩] scope pos) 0 it acc env).onRaise (λx=>do noteFrame x env;theTreesLotGoes x)) _ _ s
 refine wpAny_noted (ab1 (E:=λ_ _=>False) ?_ (λ_ _ q=>q) λ_ _ q=>q.elim)
 rw[compTurn_list]
 refine abd (wpAny_standAt (abd (ab1 (turn n s hI) (λr s₁ h₁=>?_) λ_ _ h'=>h')))
 cases r with
 |none=>exact abl h₁
 |some v =>
  refine abd (ab1 h₁ (λ_ s₁' h₁'=>?_) λ_ _ h'=>h')
  refine abd (ab1 h₁' (λ_ s₂ h₂=>abd (ab1 h₂ (λok s₃ h₃=>?_) λ_ _ h'=>h')) λ_ _ h'=>h')
  cases ok with
  |false=>exact abl ⟨rfl,h₃⟩
  |true =>
   exact abd (abd (ab1 h₃ (λx s₄ h₄=>abd (ab1 h₄ (λ_ s₅ h₅=>abl (abl ⟨rfl,h₅⟩)) λ_ _ h'=>h')) λ_ _ h'=>h'))
section
variable{X:Cx}{elt tg iter:Expr}{ifs:List Expr}{scope:Scope}{pos:Pos}{N:List Str}{nv:Nat}{js:List Nat}{wi:TI}{g:TG}{tt:TT}{te:TE}
theorem yd{pins:List (Addr×Obj)}{σ:St}{H:Hp}{s:Shared}{Q:VK}{it:Addr}{fp:List Addr}{tn:Nat->Heap->Prop}{J:It}{E:Value->Shared->Prop}{RR:Value->Addr->Result->Shared->Prop}(hc:X.calm=true)(S:bD X.N X.env.scope N nv js scope)(hg:∀C s H fp,PG (jG X N scope C s H fp) tg g)(ht:∀C s H fp,BR (jG X N scope C s H fp) ifs tt)(he:∀C s H fp,PE (jG X N scope C s H fp) elt te)(I:Inv X pins σ H s)(T:Turn X.prog X.w X.K tg J fp it tn)(st:tn 0 s.heap)(hf:∀b∈fp,lQ X pins H b)(hR:∀D,H D=none->yb J g tt te Q D (jH nv js σ) H)(hRR:∀D C H' s' m,Inv X pins σ H' s'->lQ X pins H' C->s'.heap.Ns C m->Q (.ref D) H'->RR (.ref D) C (.ok .next) s'):wpAny (model X.prog X.w) X.A (newList []) (λacc s₃=>wpAny (model X.prog X.w) X.A (newFunctionEnv scope X.env.globals (d9 X.env scope.names []) [] X.env.qual none .none (some X.env)) (λcenv s₄ =>
   codeAny (model X.prog X.w) X.A (.compStart (.ListComp elt [⟨tg,iter,ifs,0⟩] scope pos) 0 (.ref it) acc {cenv with scope:=relabel scope X.env}) (RR acc cenv.locals) s₄) E s₃) E s:=by
 refine acD (wpAny_newFunctionEnv S.cell (by intro y hy;simp at hy) (λh₁ ye Ky=>?_) S.kind)
 have I3:Inv X pins σ (upd H s.heap.objs.size (.lst [])) {s with heap:=s.heap.push {cls:=.type "list",data:=.seq ([]:List Value).toArray}}:=I.P6 (t':=s.toks) (its:=[]) .nil (abO _)
 have hD:=I.fresh
 obtain⟨W,⟨m0,w0⟩,turn⟩:=hR s.heap.objs.size hD
 have ho:=T.obj 0 s.heap st
 have Kz:∀b∈fp,b<s.heap.objs.size:=λb hb=>let ⟨o,e,_⟩:=ho b hb;abu e
 have Fi:∀b∈fp,lQ X pins (upd H s.heap.objs.size (.lst [])) b:=λb hb=>⟨by rw[aD (abK (Kz b hb))];exact(hf b hb).1,(hf b hb).2⟩
 generalize Te:({s with heap:=s.heap.push {cls:=.type "list",data:=.seq ([]:List Value).toArray}}:Shared)=s3 at I3 ye Ky
 have e3:s3.heap=s.heap.push {cls:=.type "list",data:=.seq ([]:List Value).toArray}:=by rw[←Te]
 have hfl:∀b∈fp,b<s3.heap.objs.size:=λb hb=>by rw[e3,ack];exact Nat.lt_succ_of_lt (Kz b hb)
 have keep:∀b o,s3.heap.get? b=some o->h₁.get? b=some o:=λb o e=>Ky.extBut b o (abK (abu e)) (abk _ e)
 have J0:=Fg (tk:=s3.toks+([]:List (Str×Value)).length) I3 S Fi hfl keep ye
 have st1:tn 0 h₁:=T.keep 0 s.heap h₁ st λb hb o e=>keep b o (by rw[e3];exact abk _ e)
 generalize hH3:upd H s.heap.objs.size (.lst [])=H3 at *
 generalize hY:jG X N scope s3.heap.objs.size s3 H3 fp=Y at *
 have sub:∀x c,(d9 X.env scope.names []).lookup x=some c->X.env.cells.lookup x=some c :=
  jF scope.names [] (λn hn=>I.ok.has n (S.free _ hn rfl)) (λx c z=>by cases z)
 have xX:∀{H':Hp},(∀b∈fp,H' b=none)->∀b∈fp,lQ Y [] H' b:=λ{H'} hn b hb=>by
  subst hY
  obtain⟨f0,f1,f2,f3,f4,f5⟩:=Fi b hb
  refine⟨hn b hb,abK (hfl b hb),λz=>?_,.inl hb,λx c e=>f4 x c (sub x c e),λp hp=>absurd (show p∈([]:List (Addr×Obj)) from hp) (by simp)⟩
  rcases abw.mp (I3.qx b z) with q|q
  ·exact f1 q
  ·exact f2 q
 have eA:Y.A=X.A:=by subst hY;rfl
 have eP:Y.prog=X.prog:=by subst hY;rfl
 have eW:Y.w=X.w:=by subst hY;rfl
 have eK:Y.K=X.K:=by subst hY;rfl
 have eC:Y.calm=true:=by subst hY;exact hc
 have eE:Y.env=compEnvC scope (d9 X.env scope.names []) s3.heap.objs.size X.env:=by subst hY;rfl
 have M6:Y.xe=λ_ _=>False:=by subst hY;rfl
 have Wt:PG Y tg g:=by subst hY;exact hg _ _ _ _
 have Wu:BR Y ifs tt:=by subst hY;exact ht _ _ _ _
 have Wv:PE Y elt te:=by subst hY;exact he _ _ _ _
 have loop:codeAny (model X.prog X.w) X.A (.compLoop (.ListComp elt [⟨tg,iter,ifs,0⟩] scope pos) 0 (.ref it) (.ref s.heap.objs.size) (compEnvC scope (d9 X.env scope.names []) s3.heap.objs.size X.env))
   (RR (.ref s.heap.objs.size) s3.heap.objs.size) {s3 with heap:=h₁,toks:=s3.toks+([]:List (Str×Value)).length}:=by
  refine yc (λn s'=>∃i ys τ H',Inv Y [] τ H' s'/\tn i s'.heap/\(∀b∈fp,H' b=none)/\W i n ys τ H') ?_ m0 ⟨0,[],_,H3,J0,st1,λb hb=>(Fi b hb).1,w0⟩
  rintro n s4 ⟨i,ys,τ,H4,I4,Tf,Tg,w4⟩
  obtain⟨hDl,tr⟩:=turn i n ys τ H4 w4
  rcases tr with ⟨stop,qn⟩|⟨go,Nn,Th,step⟩
  ·have d:=T.done Y eP eW eK eC i [] s4 τ H4 (λ_ _=>False) I4 (xX Tg) Tf stop
   rw[eA]at d
   refine cC d λr s5 ⟨hr,I5⟩=>?_
   subst hr
   have u:Inv X pins σ H4 s5:=by
    subst hY
    exact I3.GN (ch:=fp) I5.os I5.base I5.hok I5.bare λb hb=>⟨(Fi b hb).2.2.2.1,(Fi b hb).2.1,(Fi b hb).2.2.2.2.1,(Fi b hb).2.2.2.2.2⟩
   have hC:H4 s3.heap.objs.size=none:=by have z:=I5.free;rw[eE]at z;exact z
   obtain⟨m,hn,_⟩:=I5.loc
   rw[eE]at hn
   exact hRR _ _ H4 s5 m u (I3.vV (abf _) hC) hn qn
  ·have d:=T.item Y eP eW eK eC i [] s4 τ H4 (λ_ _=>False) I4 (xX Tg) Tf go
   rw[eA]at d
   refine cC d λr s5 ⟨u,hr,h5⟩=>?_
   subst hr
   refine cC h5 λ_ s6 ⟨x,H6,I6,r6,y6,Qa,Ww⟩=>?_
   have Wx:=I6.pinned (xX Ww) (T.obj _ _ Qa)
   have q6:=Wt _ s6 τ H6 x u _ Wx r6 (step x H6 y6)
   rw[eP,eW,eA,eE,M6]at q6
   refine cC q6 λ_ s7 ⟨σ7,H7,I7,q7⟩=>?_
   have q8:=Wu _ s7 σ7 H7 _ I7 q7
   rw[eP,eW,eA,eE,M6]at q8
   refine cC q8 λok s8 ⟨H8,I8,q8⟩=>?_
   have again:∀{σ9:St}{H9:Hp}{s9:Shared}{zs:List V},Inv Y ([]++tZ fp s6.heap) σ9 H9 s9->(∃m',m'<n/\W (i+1) m' zs σ9 H9)->∃m,m<n/\∃i ys τ H',Inv Y [] τ H' s9/\tn i s9.heap/\(∀b∈fp,H' b=none)/\W i m ys τ H':=λ{σ9 H9 s9 zs} I9 n9=>by
    obtain⟨m',hm,w9⟩:=n9
    refine⟨m',hm,i+1,zs,σ9,H9,I9.nG,T.keep _ _ _ Qa λb hb o e=>(I9.pin (b,o) (abD _ (abD _ (iB hb e)))).1,λb hb=>?_,w9⟩
    obtain⟨o,e,d⟩:=T.obj _ _ Qa b hb
    exact(I9.pin (b,o) (abD _ (abD _ (iB hb e)))).2.1
   cases ok with
   |false =>
    rw[abb abv]
    rw[abb abv]at q8
    exact again I8 (Th _ _ _ q8)
   |true =>
    rw[abe rfl]
    rw[abe rfl]at q8
    have q9:=Wv _ s8 σ7 H8 _ I8 q8
    rw[eP,eW,eA,eE,M6]at q9
    refine cC q9 λy s9 ⟨yv,H9,I9,r9,Wy,Wz,q9⟩=>?_
    have ap:=cN (X:=Y) _ s9 σ7 H9 (.ref s.heap.objs.size) [yv] (.ref s.heap.objs.size) [y] (λ_ R3=>Nn (ys++[yv]) σ7 R3) I9 rfl (.cons r9 .nil) ⟨_,ys,yv,rfl,rfl,Wy,Wz,q9⟩
    rw[eP,eW,eA,M6]at ap
    exact cC ap λ_ M7 ⟨_,R3,WA,_,WB⟩=>again WA (Th _ _ _ WB)
 subst Te
 exact codeAny_compStart_list loop (T.self _ 0 _ _ _ st1 loop)
theorem fS(hc:X.calm=true)(S:bD X.N X.env.scope N nv js scope)(hi:PI X tg iter wi)(hg:∀C s H fp,PG (jG X N scope C s H fp) tg g)(ht:∀C s H fp,BR (jG X N scope C s H fp) ifs tt)(he:∀C s H fp,PE (jG X N scope C s H fp) elt te)(hs:∀x,foldedSetIterable iter X.env x=pure x:=by intro _;rfl):PE X (.ListComp elt [⟨tg,iter,ifs,0⟩] scope pos) (Kw wi g tt te nv js):=by
 intro pins s σ H Q I h
 rw[eval_ListComp]
 refine wpAny_comprehension_free (use:=none) rfl hs (kN λn hn=>I.ok.has n (S.free _ hn rfl)) S.kind S.loc (cC (hi pins s σ H _ I h) λv s1 h1=>cC h1 λitv s2 h2=>?_)
 obtain⟨it,fp,tn,J,H2,e,I2,T,st2,f2,hR⟩:=h2
 subst e
 refine yd (RR:=λacc C=>compPost (model X.prog X.w) X.A X.xe none (EP X pins σ Q) acc C) hc S hg ht he I2 T st2 f2 hR ?_
 intro D C H' s' m I' fC hn q
 refine⟨m,hn,λh' sb=>⟨.ref D,H',?_,O,q⟩⟩
 exact I'.turned (t':=s'.toks) (λb o hb e=>(sb.2 b hb).trans e) fC.1 fC.2.1 fC.2.2.2.1 fC.2.2.2.2.1 fC.2.2.2.2.2
theorem G0{i:Nat}{x:Str}{pos' spos:Pos}(hc:X.calm=true)(hN:X.N.Nodup)(hi':X.N[i]?=some x)(hx:X.env.scope.names.lookup x=some .local)(S:bD X.N X.env.scope N nv js scope)(hi:PI X tg iter wi)(hg:∀C s H fp,PG (jG X N scope C s H fp) tg g)(ht:∀C s H fp,BR (jG X N scope C s H fp) ifs tt)(he:∀C s H fp,PE (jG X N scope C s H fp) elt te)(hsw:swapsWith (.ListComp elt [⟨tg,iter,ifs,0⟩] scope pos) (some (.Name x pos')) spos.line X.env=pure true:=by rfl)(hs:∀x,foldedSetIterable iter X.env x=pure x:=by intro _;rfl):PS X (.Assign [.Name x pos'] (.ListComp elt [⟨tg,iter,ifs,0⟩] scope pos) spos) (J7 (Kw wi g tt te nv js) (bR i)):=by
 intro pins s σ H D I h
 rw[exec_Assign_Name_used _ _ _ _ hsw]
 refine abd (wpAny_standAt (abd ?_))
 show wpAny _ X.A (do let _ ←comprehension (.ListComp elt [⟨tg,iter,ifs,0⟩] scope pos) scope X.env _ (newList []) false (eval iter X.env) (some (assign (.Name x pos') X.env))) _ _ s
 refine abd (ab1 (wpAny_comprehension_free (use:=some (assign (.Name x pos') X.env)) (Q:=λ_ s'=>SP X pins D .next s') rfl hs (kN λn hn=>I.ok.has n (S.free _ hn rfl)) S.kind S.loc
  (cC (hi pins s σ H _ I h) λv s1 h1=>cC h1 λitv s2 h2=>?_)) (λ_ s' hq=>abl (abl hq)) λ_ _ e=>e)
 obtain⟨it,fp,tn,J,H2,e,I2,T,st2,f2,hR⟩:=h2
 subst e
 refine yd (RR:=λacc C=>compPost (model X.prog X.w) X.A X.xe (some (assign (.Name x pos') X.env)) (λ_ s'=>SP X pins D .next s') acc C) hc S hg ht he I2 T st2 f2 hR ?_
 intro Dl C H' s' m I' fC hn q
 show wpAny _ X.A (assign (.Name x pos') X.env (.ref Dl)) _ _ _
 refine wpAny_assign_Name (tW I' hN hi' (.inl hx) (v:=.ref Dl) rfl (λs2 I3 ch=>?_) (.inr hx))
 obtain⟨a,sb,ha⟩:=ch
 have WC:C≠a:=by
  rcases ha with rfl|ha
  ·exact fC.2.1
  ·exact(fC.2.2.2.2.1 x a ha).symm
 refine⟨m,hn.sameBut sb WC,λh' sb'=>⟨_,H',?_,q⟩⟩
 exact I3.turned (t':=s2.toks) (λb o hb e=>(sb'.2 b hb).trans e) fC.1 fC.2.1 fC.2.2.2.1 fC.2.2.2.2.1 fC.2.2.2.2.2
end
theorem Fj:typeLookup (.type "list_reverseiterator") "__len__"=pure none:=by rw[typeLookup_type,builtinLookup_eq_fast];kernel_rfl
theorem KA:typeLookup (.type "list_reverseiterator") "__length_hint__"=pure (some (.builtin "list_reverseiterator.__length_hint__")):=by rw[typeLookup_type,builtinLookup_eq_fast];kernel_rfl
section
variable{prog:Program}{w:World}{A:Around}{E:Value->Shared->Prop}{s:Shared}
theorem KC{I l:Addr}{i:Int}{Q:Bool->Shared->Prop}(hit:s.heap.IsRevIter I l i)(h:Q false s):wpAny (model prog w) A (Builtin.List.listLengthHint (.ref I)) Q E s:=by
 unfold Builtin.List.listLengthHint
 refine abd (acz hit.typeIs Fj ?_)
 show wpAny _ _ (specialOf (Value.ref I) ("__length_hint__":Str) >>= _) _ _ _
 refine abd (acz hit.typeIs KA ?_)
 generalize hid:("list_reverseiterator.__length_hint__":String)=id0
 wp_delta
 rw[show splitId id0=some ("list_reverseiterator","__length_hint__") from by subst hid;decide +kernel]
 subst hid
 refine abd (wpAny_isInstance (T:="list_reverseiterator") (b:=true) hit.typeIs (by rw[isSubtype_type];kernel_rfl) ?_)
 refine wpAny_ite_split (λhab=>absurd hab (by decide)) (λ_=>?_)
 refine wpAny_ite_split (λ_=>?_) (λhab=>absurd (by decide +kernel) hab)
 refine wpAny_ite_split (λhab=>absurd hab (by decide +kernel)) (λ_=>?_)
 exact abl h
theorem Fl{R:Result->Shared->Prop}(hh:A.handled=none){I l:Addr}{items:Array Value}(hne:l≠I)(hit:s.heap.IsRevIter I l ((items.size:Int)-1))(hl:s.heap.IsList l items)(S:Addr)(hSl:S≠l)(res:Value)(c₀:Nat)(hS:s.heap.get? S=some {cls:=.type "list",data:=.seq #[] c₀})(hn:items.size<=sizeLine)(hR:∀h' tk acc' c',(∀b o,b≠S->b≠I->s.heap.get? b=some o->h'.get? b=some o)->h'.get? S=some {cls:=.type "list",dict:=none,data:=.seq acc' c',slots:=#[]}->ItemsOf (λi v=>items[items.size-1-i]?=some v) acc' items.size->R (.ok (.ret res)) {s with heap:=h',toks:=tk}):wpAny (model prog w) A.in1 (Builtin.List.listExtendWith (.ref S) (.ref I) res)
   (λfin s'=>match fin with | .done f=>R (.ok f) s' | .again c'=>c'.quiet=true/\codeAny (model prog w) A c' R s') (λe s'=>R (.error e) s') s:=by
 have hSI:S≠I:=λe=>by
  subst e
  obtain⟨o,ho,hc,_⟩:=hit
  rw[hS]at ho;cases ho
  exact absurd (show Value.type "list"=Value.type "list_reverseiterator" from hc) (by decide)
 have hSf:S∉[I,l]:=λhm=>by
  rcases abw.mp hm with e|hm
  ·exact hSI e
  ·exact hSl (abh.mp hm)
 unfold Builtin.List.listExtendWith
 refine abd (wpAny_typeOf hit.typeIs ?_)
 have h1:Builtin.List.listSameRef (.ref S) (.ref I)=false:=by simp[Builtin.List.listSameRef,hSI]
 have h2:(Value.type "list_reverseiterator"==Value.type "list")=false:=by decide
 have h3:(Value.type "list_reverseiterator"==Value.type "tuple")=false:=by decide
 simp only[h1,h2,h3,Bool.or_false,abW,acm]
 refine abd (wpAny_pyIter_revIter hit ?_)
 refine abd (wpAny_holding (KC hit ?_))
 rw[abb (by decide)]
 refine abl ⟨plainId_quiet F.plain_extend_loop _,codeAny_extend_loopS (Walks.listRev (prog:=prog) (w:=w) (A:=A.in1) hh I l hne items).toS hn _ hSf _ items.size 0 _ _ _ rfl (abO _) ⟨abO _,by simpa using hit,hl⟩ hS (ItemsOf.nil _) λs' acc' c' hm hS' hacc=>?_⟩
 rw[Moved.eq_with hm]
 refine hR s'.heap s'.toks acc' c' (λb ob hb hb2 e=>hm.heap b ob (λhmem=>?_) e) hS' hacc
 rcases abw.mp hmem with e'|hmem
 ·exact hb e'
 ·exact hb2 (abh.mp hmem)
end
theorem Ie{items:List Value}{acc:Array Value}(h:ItemsOf (λi v=>items.toArray[items.toArray.size-1-i]?=some v) acc items.toArray.size):acc.toList=items.reverse:=by
 have hz:=h.1
 refine List.ext_getElem? λi=>?_
 by_cases hi:i<items.length
 ·have hi':i<acc.size:=by rw[hz];simpa using hi
  have q:=h.2 i acc[i] (by simp[hi'])
  rw[List.getElem?_reverse hi]
  simp only[abm,List.getElem?_toArray]at q
  rw[q]
  simp[hi']
 ·rw[acg (by rw[abt,hz];simpa using hi),acg (by simpa using hi)]
section
variable{X:Cx}{e:Expr}{te:TE}
end
def sg(c:Nat):Str:=⟨#[c]⟩
def R4(z:Str):It:=⟨λi _=>i<z.cps.size,λi H x H'=>H'=H/\∃c,z.cps[i]?=some c/\x=.str (sg c),λi _=>z.cps.size<=i⟩
theorem KD{P:Program}{w:World}{K:W.Frag}{tg:Expr}(it:Addr)(z:Str)(t:Tok):Turn P w K tg (R4 z) [it] it (λi h=>h.IsStrIter it (strIterType z) z t i) where
 mem:=by simp
 obj:=λi h st b hb=>by
  have e:b=it:=by simpa using hb
  subst e
  obtain⟨o,e,c,d⟩:=st
  exact⟨o,e,λv z=>by rw[d]at z;cases z⟩
 keep:=λi h h' st k=>by
  obtain⟨o,e,r⟩:=st
  exact⟨o,k it (by simp) o e,r⟩
 item:=by
  intro X hP hw hK hc i pins s σ H E I hf st hg
  subst hP hw hK
  obtain⟨f0,f1,f2,f3,f4,f5⟩:=hf it (by simp)
  have hi:i<z.cps.size:=hg
  have hx:z.cps[i]?=some z.cps[i]:=by simp[hi]
  cases ha:z.cps.all (· < 128) with
  |true =>
   have et:strIterType z="str_ascii_iterator":=by simp only[strIterType,ha,if_true]
   rw[et]at st⊢
   refine wpAny_pyNext_ascii_item st hx λh' st' sb=>?_
   have I1:Inv X pins σ H {s with heap:=h',toks:=s.toks+1}:=I.turned (λb o hb e=>(sb.2 b hb).trans e) f0 f1 f3 f4 f5
   obtain⟨o,e,c,d⟩:=id st'
   exact⟨_,rfl,AH (s:={s with heap:=h',toks:=s.toks+1}) e c d (by decide) ⟨.str (sg z.cps[i]),H,I1,⟨_,rfl⟩,⟨rfl,_,hx,rfl⟩,st',λb hb=>(hf b hb).1⟩⟩
  |false =>
   have et:strIterType z="str_iterator":=by simp only[strIterType,ha,abW,acm]
   rw[et]at st⊢
   refine wpAny_pyNext_wide_item st hx λh' st' sb=>?_
   have I1:Inv X pins σ H {s with heap:=h',toks:=s.toks+1}:=I.turned (λb o hb e=>(sb.2 b hb).trans e) f0 f1 f3 f4 f5
   obtain⟨o,e,c,d⟩:=id st'
   exact⟨_,rfl,AH (s:={s with heap:=h',toks:=s.toks+1}) e c d (by decide) ⟨.str (sg z.cps[i]),H,I1,⟨_,rfl⟩,⟨rfl,_,hx,rfl⟩,st',λb hb=>(hf b hb).1⟩⟩
 done:=by
  intro X hP hw hK hc i pins s σ H E I hf st hg
  subst hP hw hK
  obtain⟨f0,f1,f2,f3,f4,f5⟩:=hf it (by simp)
  have hi:z.cps.size<=i:=hg
  have hx:z.cps[i]?=none:=by simp[hi]
  cases ha:z.cps.all (· < 128) with
  |true =>
   have et:strIterType z="str_ascii_iterator":=by simp only[strIterType,ha,if_true]
   rw[et]at st
   exact wpAny_pyNext_ascii_end (I.ok.hd hc) st hx λh' eb=>⟨rfl,I.turned (t':=s.toks) (λb o hb e=>eb b o hb e) f0 f1 f3 f4 f5⟩
  |false =>
   have et:strIterType z="str_iterator":=by simp only[strIterType,ha,abW,acm]
   rw[et]at st
   exact wpAny_pyNext_wide_end (I.ok.hd hc) st hx λh' eb=>⟨rfl,I.turned (t':=s.toks) (λb o hb e=>eb b o hb e) f0 f1 f3 f4 f5⟩
 self:=by
  intro A i s Q E st h
  cases ha:z.cps.all (· < 128) with
  |true =>
   have et:strIterType z="str_ascii_iterator":=by simp only[strIterType,ha,if_true]
   rw[et]at st
   exact wpAny_pyIter_striter_ascii st h
  |false =>
   have et:strIterType z="str_iterator":=by simp only[strIterType,ha,abW,acm]
   rw[et]at st
   exact wpAny_pyIter_striter_wide st h
section
variable{X:Cx}{tg:Expr}
def WD(tl:TE):TI:=λσ H R=>tl σ H λx H1=>∃z,x=.str z/\R (R4 z) H1
theorem lR{l:Expr}{tl:TE}(hl:PE X l tl):PI X tg l (WD tl):=by
 intro pins s σ H R I h
 refine cC (hl pins s σ H _ I h) λv s1 ⟨x,H1,I1,r1,q1⟩=>?_
 obtain⟨z,e,q⟩:=q1
 subst e
 obtain⟨t,rfl⟩:=r1
 refine wpAny_pyIter_strU ?_
 refine⟨s1.heap.objs.size,[s1.heap.objs.size],_,_,H1,rfl,I1.kept (t':=s1.toks) λb o e=>abk _ e,KD _ z t,⟨_,abE _ rfl,rfl,rfl⟩,λb hb=>?_,q⟩
 have e:b=s1.heap.objs.size:=by simpa using hb
 subst e
 exact I1.vV (abf _) (I1.hok.fresh (abf _))
end
theorem ri{z:Str}{g:TG}{tb:TS}{D:Ends}{σ:St}{H:Hp}(Pv:Nat->St->Hp->Prop)(h0:Pv 0 σ H)(hs:∀i c σ H,z.cps.toList[i]?=some c->Pv i σ H->g (.str (sg c)) σ H λσ2 H2=>tb {D with nx:=Pv (i+1),ct:=Pv (i+1),bk:=D.nx} σ2 H2)(hd:∀σ H,Pv z.cps.toList.length σ H->D.nx σ H):∃W:Nat->Nat->St->Hp->Prop,(∃m,W 0 m σ H)/\∀i m σ H,W i m σ H->((R4 z).stop i H/\D.nx σ H)\/((R4 z).go i H/\∃N:St->Hp->Prop,(∀σ' H',N σ' H'->∃m',m'<m/\W (i+1) m' σ' H')/\∀x H',(R4 z).MG i H x H'->g x σ H' λσ2 H2=>tb {D with nx:=N,ct:=N,bk:=D.nx} σ2 H2):=by
 refine⟨λi m σ H=>m=z.cps.size-i/\i<=z.cps.size/\Pv i σ H,⟨z.cps.size,by simp,abO _,h0⟩,?_⟩
 rintro i m σ H ⟨rfl,hi,p⟩
 by_cases hlt:i<z.cps.size
 ·refine .inr ⟨hlt,Pv (i+1),λσ' H' p'=>⟨z.cps.size-(i+1),by omega,rfl,hlt,p'⟩,λx H' y=>?_⟩
  obtain⟨e,c,hc,ex⟩:=y
  subst e ex
  exact hs i c σ _ (by simpa using hc) p
 ·have e:i=z.cps.size:=by omega
  subst e
  exact .inl ⟨abf _,hd σ H (by simpa using p)⟩
theorem gM{K:W.Frag}{a:Addr}{xs:List V}{g:TG}{tt:TT}{te:TE}{Q:VK}{D:Addr}{τ:St}{H:Hp}(Pv:Nat->List V->St->Hp->Prop)(h0:Pv 0 [] τ (upd H D (.lst [])))(hl:∀i ys τ H,i<=xs.length->Pv i ys τ H->bw K H a xs/\H D=some (.lst ys))(hs:∀i x ys τ H,xs[i]?=some x->Pv i ys τ H->g x τ H λτ2 H2=>tt τ2 H2 λb H3=>if b=true then te τ2 H3 λy H4=>H4 D=some (.lst ys)/\ys.length<sizeLine/\Pv (i+1) (ys++[y]) τ2 (upd H4 D (.lst (ys++[y]))) else Pv (i+1) ys τ2 H3)(hd:∀ys τ H,Pv xs.length ys τ H->Q (.ref D) H):yb (RZ K a) g tt te Q D τ H:=by
 refine⟨λi m ys τ H=>m=xs.length-i/\i<=xs.length/\Pv i ys τ H,⟨xs.length,by simp,abO _,h0⟩,?_⟩
 rintro i m ys τ H ⟨rfl,hi,p⟩
 obtain⟨q,hD⟩:=hl i ys τ H hi p
 refine⟨hD,?_⟩
 by_cases hlt:i<xs.length
 ·refine .inr ⟨⟨xs,xs[i],q,by simp[hlt]⟩,Pv (i+1),λzs σ' H' p'=>⟨xs.length-(i+1),by omega,rfl,hlt,p'⟩,λx H' y=>?_⟩
  obtain⟨e,y⟩:=y
  subst e
  exact hs i x ys τ _ (y xs q) p
 ·have e:i=xs.length:=by omega
  subst e
  exact .inl ⟨⟨xs,q,abf _⟩,hd ys τ H p⟩
theorem rj{z:Str}{g:TG}{tt:TT}{te:TE}{Q:VK}{D:Addr}{τ:St}{H:Hp}(Pv:Nat->List V->St->Hp->Prop)(h0:Pv 0 [] τ (upd H D (.lst [])))(hl:∀i ys τ H,i<=z.cps.toList.length->Pv i ys τ H->H D=some (.lst ys))(hs:∀i c ys τ H,z.cps.toList[i]?=some c->Pv i ys τ H->g (.str (sg c)) τ H λτ2 H2=>tt τ2 H2 λb H3=>if b=true then te τ2 H3 λy H4=>H4 D=some (.lst ys)/\ys.length<sizeLine/\Pv (i+1) (ys++[y]) τ2 (upd H4 D (.lst (ys++[y]))) else Pv (i+1) ys τ2 H3)(hd:∀ys τ H,Pv z.cps.toList.length ys τ H->Q (.ref D) H):yb (R4 z) g tt te Q D τ H:=by
 have hz:z.cps.toList.length=z.cps.size:=by simp
 refine⟨λi m ys τ H=>m=z.cps.size-i/\i<=z.cps.size/\Pv i ys τ H,⟨z.cps.size,by simp,abO _,h0⟩,?_⟩
 rintro i m ys τ H ⟨rfl,hi,p⟩
 refine⟨hl i ys τ H (by omega) p,?_⟩
 by_cases hlt:i<z.cps.size
 ·refine .inr ⟨hlt,Pv (i+1),λzs σ' H' p'=>⟨z.cps.size-(i+1),by omega,rfl,hlt,p'⟩,λx H' y=>?_⟩
  obtain⟨e,c,hc,ex⟩:=y
  subst e ex
  exact hs i c ys τ _ (by simpa using hc) p
 ·have e:i=z.cps.size:=by omega
  subst e
  exact .inl ⟨abf _,hd ys τ H (by rw[hz];exact p)⟩
theorem yf{lo:Int}{n:Nat}{g:TG}{tt:TT}{te:TE}{Q:VK}{D:Addr}{τ:St}{H:Hp}(Pv:Nat->List V->St->Hp->Prop)(h0:Pv 0 [] τ (upd H D (.lst [])))(hl:∀i ys τ H,i<=n->Pv i ys τ H->H D=some (.lst ys))(hs:∀i ys τ H,i<n->Pv i ys τ H->g (.int (lo+i)) τ H λτ2 H2=>tt τ2 H2 λb H3=>if b=true then te τ2 H3 λy H4=>H4 D=some (.lst ys)/\ys.length<sizeLine/\Pv (i+1) (ys++[y]) τ2 (upd H4 D (.lst (ys++[y]))) else Pv (i+1) ys τ2 H3)(hd:∀ys τ H,Pv n ys τ H->Q (.ref D) H):yb (PM lo n) g tt te Q D τ H:=by
 refine⟨λi m ys τ H=>m=n-i/\i<=n/\Pv i ys τ H,⟨n,by simp,abO _,h0⟩,?_⟩
 rintro i m ys τ H ⟨rfl,hi,p⟩
 refine⟨hl i ys τ H hi p,?_⟩
 by_cases hlt:i<n
 ·refine .inr ⟨hlt,Pv (i+1),λzs σ' H' p'=>⟨n-(i+1),by omega,rfl,hlt,p'⟩,λx H' y=>?_⟩
  obtain⟨e,y⟩:=y
  subst e y
  exact hs i ys τ _ hlt p
 ·have e:i=n:=by omega
  subst e
  exact .inl ⟨abf _,hd ys τ H p⟩
theorem G3:∀{zs:List Str}{us:List Value},Vals (zs.map V.str) us->StrsAre us zs
 |[],_,r=>by cases r;exact .nil
 |z::zs,_,r=>by
  cases r with
  |cons r1 r2 =>
   obtain⟨t,e⟩:=r1
   subst e
   exact .cons z t (G3 r2)
section
variable{X:Cx}
def rJoin(K:W.Frag):V->List V->Hp->VK->Prop:=λx vs H Q=>∃z p zs,x=.str z/\vs=[.ref p]/\bw K H p (zs.map V.str)/\(zs.map (·.length)).sum+zs.length*z.length<=16777216/\Q (.str (Txt.join z zs)) H
theorem M8:S4 X "str.join" (rJoin X.K):=by
 intro pins s σ H x vs v us Q I rx rv h
 obtain⟨z,p,zs,rfl,rfl,hq,hz,q⟩:=h
 obtain⟨t,rfl⟩:=rx
 obtain⟨u,rfl,ru⟩:=rv.one
 cases ru
 obtain⟨its,r,pl,_⟩:=I.list hq
 exact join_list pl.isList (by simpa using G3 r) hz λt' k=>⟨.str _,H,I.tok k,⟨t',rfl⟩,q⟩
theorem DJ:gK X (.builtin "isinstance") (λxs H Q=>∃x c t b,xs=[x,c]/\qX X.K H x t/\((∃n,c=.ty n/\W.kitOne X.K t (.type n)=some b)\/(∃a,c=.ref a/\W.kitOne X.K t (.ref a)=some b))/\Q (.bl b) H):=by
 intro pins s σ H xs us Q I r h
 obtain⟨x,c,t,b,rfl,ty,hc,q⟩:=h
 obtain⟨u,w',rfl,ru,rw'⟩:=vals2 r
 rcases hc with ⟨n,rfl,e⟩|⟨a,rfl,e⟩
 ·cases rw'
  exact AJ I ru ty e λtk=>⟨.bl b,H,I.tok tk,rfl,q⟩
 ·cases rw'
  exact AJ I ru ty e λtk=>⟨.bl b,H,I.tok tk,rfl,q⟩
end
theorem Qc(c:Nat):(sg c).length=1:=rfl
theorem G6(a b:List Nat):(⟨a.toArray⟩:Str)++(⟨b.toArray⟩:Str)=⟨(a++b).toArray⟩:=by
 show Str.mk (a.toArray++b.toArray)=_
 simp
section
variable{X:Cx}
def Ti(K:W.Frag):R2:=λx y H Q=>∃a b xs,x=.ref a/\y=.ref b/\bw K H a xs/\bw K H b []/\Q (.bl (!xs.isEmpty)) H
theorem Qd(hu:X.A.units<cLine):nD X (compareOp .NotEq) (Ti X.K):=by
 intro pins s σ H x y v u Q I rx ry h
 obtain⟨a,b,xs,rfl,rfl,ha,hb,q⟩:=h
 cases rx
 cases ry
 obtain⟨its,r1,p1,_⟩:=I.list ha
 obtain⟨its2,r2,p2,_⟩:=I.list hb
 cases r2
 show wpAny _ _ (richCompare .NotEq (.ref a) (.ref b)) _ _ _
 cases xs with
 |nil =>
  cases r1
  refine SeqAt.RcNeAt.lists (e:=λ_=>true) p1.isList p2.isList rfl hu (λj h1 _=>absurd h1 (by simp)) _ _ _ _ ⟨.bl false,H,I,?_,q⟩
  simp[RelV]
 |cons x xs =>
  cases r1 with
  |cons r rr =>
   exact SeqAt.RcNeAt.lists_lengths p1.isList p2.isList (by simp) hu _ _ _ _ ⟨.bl true,H,I,rfl,q⟩
end
section
variable{X:Cx}(K:W.Frag)(h:X.K=K)
include h
theorem KG:R1 X (P4 K):=by subst h;exact MX
theorem M9:R1 X (HZ K):=by subst h;exact P5
theorem DK:Wl X (S5 K):=by subst h;exact MY
theorem DL:S4 X "str.join" (rJoin K):=by subst h;exact M8
theorem aX:gK X (.builtin "len") (λxs H Q=>∃p ys,xs=[.ref p]/\(bw K H p ys\/bz K H p ys)/\Q (.int ys.length) H):=by subst h;exact BO
theorem fT:gK X (.builtin "isinstance") (λxs H Q=>∃x c t b,xs=[x,c]/\qX K H x t/\((∃n,c=.ty n/\W.kitOne K t (.type n)=some b)\/(∃a,c=.ref a/\W.kitOne K t (.ref a)=some b))/\Q (.bl b) H):=by subst h;exact DJ
theorem zF:gK X (.type "list") (λxs H Q=>∃p ys,xs=[.ref p]/\(bw K H p ys\/bz K H p ys)/\∀l,H l=none->Q (.ref l) (upd H l (.lst ys))):=by subst h;exact BP
theorem zG:nD X (compareOp .NotIn) (rIn K true):=by subst h;exact BN
theorem G7(hu:X.A.units<cLine):nD X (compareOp .NotEq) (Ti K):=by subst h;exact Qd hu
theorem cQ{tg l:Expr}{tl:TE}(hl:PE X l tl):PI X tg l (O1 K tl):=by subst h;exact MQ hl
theorem Na{tg l:Expr}{tl:TE}(hl:PE X l tl):PI X tg l (SM K tl):=by subst h;exact PN hl
theorem fV{es:List Expr}{k:Nat}{pos:Pos}{t:O0}(n:Nat)(hc:X.calm=true)(hh:SH X es t)(hn:(assignEach es X.env).length=n:=by rfl)(hst:(assignEach es X.env).findIdx? (·.1)=none:=by rfl):PG X (.Tuple es k pos) (SJ K n t):=by subst h;exact PF hc hh hn hst
theorem aT{e:Expr}{ta:TE}{f:Str}{pos:Pos}(he:PE X e ta)(hb:attributeBase e f X.env (eval e X.env)=eval e X.env):PE X (.Attribute e f pos) (SY K ta f):=by subst h;exact PZ he hb
theorem gc{o e:Expr}{es:List Expr}{to:TE}{t:TA}{name:Str}{apos cpos:Pos}{T id:String}{r:V->List V->Hp->VK->Prop}(pa:PlainAttrs T)(slot:Slot T name id)(hty:typeOf (.builtin id)=pure (.type "method_descriptor"))(hm:S4 X id r)(ho:PE X o to)(ha:PA X (e::es) t)(hbase:attributeBase o name X.env (eval o X.env)=eval o X.env:=by rfl)(hfew:((backTo cpos (starEach (e::es) X.env)).all (λx=>!x.1)&&(backToKw cpos (keywordEach [] X.env)).all (λx=>x.1.isSome)
  && decide ((e::es).length+([]:List Keyword).length+(if ([]:List Keyword).isEmpty then 0 else 1)<30))=true:=by rfl)(hline:(apos.endLine==cpos.line)=true:=by rfl)(hs:starEach (e::es) X.env=(false,eval e X.env)::starEach es X.env:=by rfl)(hplain:(backTo cpos (starEach es X.env)).any (·.1)=false:=by rfl):PE X (.Call (.Attribute o name apos) (e::es) [] cpos) (tBM K T r to t):=by subst h;exact S7 pa slot hty hm ho ha hbase hfew hline hs hplain
end
section
variable{X:Cx}
theorem lS{x:Str}{z:Str}{t:Tok}{pos:Pos}(hg:Gl X x)(hm:X.mg x=some (.str z t))(hd:(x==("__debug__":Str))=false:=by decide):PE X (.Name x pos) (tC (.str z)):=BD hg hm ⟨t,rfl⟩ hd
theorem jt{x:Str}{a:Addr}{pos:Pos}(hg:Gl X x)(hm:X.mg x=some (.ref a))(hd:(x==("__debug__":Str))=false:=by decide):PE X (.Name x pos) (tC (.ref a)):=BD hg hm rfl hd
theorem Qe(n:String){x:Str}{pos:Pos}(hg:Gl X x)(hm:X.mg x=none)(hv:bootBuiltins x=some (.type n))(hn:x ≠ "__name__":=by decide)(hd:(x==("__debug__":Str))=false:=by decide):PE X (.Name x pos) (tC (.ty n)):=MN hg hm hv rfl hn hd
end
structure KH(K:W.Frag)(x qual:Str)(st:Stmt)(f:Addr)(fd:FuncData)(dV:Value):Prop where
 ex:∃(oc:Value)(od:Option Addr)(kV doc pm:Value)(an:Option Addr)(cdv ct:Value)(osl:Array (Option Value)),fd=W.fnOf x qual (dh st) (cE st) (av st) dV kV doc pm an cdv ct/\K.lookup f=some ⟨oc,od,.func fd,osl⟩/\W.codeIn K cdv qual=true
 kp:W.keepIn K (.ref f)=true
section
variable{P:Program}{w:World}{K:W.Frag}{mg:Str->Option Value}{base:Heap}
theorem KH.ok{x qual:Str}{st:Stmt}{f:Addr}{fd:FuncData}{dV:Value}{N ps:List Str}{k:Nat}{sp:Sp}(F:KH K x qual st f fd dV)(S:aG N ps (av st))(len:∀vs H Q E,sp vs H Q E->vs.length=ps.length)(hbody:∀(cdv:Value)(A:Around)(outer:List Env)(s:Shared)(H:Hp)(vs:List V)(Q:VK)(E:XK),fR k (A.deeper (envOfC qual (av st) s.heap.objs.size f cdv))->sp vs H Q E->∃t,DA (BF fO P w K mg base N qual (av st) f cdv A outer s H E).PB (cE st) t/\t {nx:=λ_ H'=>Q .non H',rt:=Q} (start N vs) H):br P w K mg base fO (k+1) f fd ps sp:=by
 obtain⟨oc,od,kV,doc,pm,an,cdv,ct,osl,rfl,lk,hcd⟩:=F.ex
 refine Kn lk hcd S len λA outer s H vs Q E hr GW=>?_
 obtain⟨t,h,q⟩:=hbody cdv A outer s H vs Q E hr GW
 exact⟨t,h.PB,q⟩
theorem G8{x qual:Str}{st:Stmt}{f:Addr}{oc dV:Value}{od an:Option Addr}{osl:Array (Option Value)}{kV doc pm cdv ct:Value}(l:K.lookup f=some ⟨oc,od,.func (W.fnOf x qual (dh st) (cE st) (av st) dV kV doc pm an cdv ct),osl⟩)(c:W.codeIn K cdv qual=true)(k:W.keepIn K (.ref f)=true):KH K x qual st f (W.fnOf x qual (dh st) (cE st) (av st) dV kV doc pm an cdv ct) dV:=⟨⟨oc,od,kV,doc,pm,an,cdv,ct,osl,rfl,l,c⟩,k⟩
end
section
variable{X:Cx}
theorem ve:∀{bs:List Bool}{us:List Value}{i:Nat}{u:Value},Vals (bs.map V.bl) us->us[i]?=some u->u=.bool (bs.getD i true)
 |[],_,_,_,r,e=>by cases r;simp at e
 |b::bs,_,i,u,r,e=>by
  cases r with
  |cons r1 r2 =>
   cases i with
   |zero=>simp at e;subst e;exact r1
   |succ i=>simp at e;simpa using ve r2 e
theorem all_range(bs:List Bool):((List.range bs.length).all λi=>bs.getD i true)=bs.all id:=by
 rw[acy,abY,abY]
 constructor
 ·intro h b hb
  obtain⟨i,hi,rfl⟩:=List.mem_iff_getElem.mp hb
  have:=h i (by simpa using hi)
  simpa [List.getD,hi]using this
 ·intro h i hi
  have hi':i<bs.length:=by simpa using hi
  have:=h bs[i] (List.getElem_mem hi')
  simpa [List.getD,hi']using this
def Tj(K:W.Frag):List V->Hp->VK->Prop:=λxs H Q=>∃(p:Addr)(bs:List Bool),xs=[.ref p]/\bw K H p (bs.map V.bl)/\Q (.bl (bs.all id)) H
theorem KI(hc:X.calm=true):gK X (.builtin "all") (Tj X.K):=by
 intro pins s σ H xs us Q I r h
 obtain⟨p,bs,rfl,hq,q⟩:=h
 obtain⟨u,rfl,ru⟩:=vals1 r
 cases ru
 obtain⟨its,rv,pl,hz⟩:=I.list hq
 have hlen:=rv.length
 rw[abg]at hlen
 have hpl:p<s.heap.objs.size:=by obtain⟨o,ho,_⟩:=pl.isList;exact abu ho
 refine call_all_walk (wpAny_pyIter_list pl.isList ⟨s.heap.objs.size,_,_,_,_,_,λi=>bs.getD i true,rfl,Walks.list (A:=X.A.in1) (show X.A.in1.handled=none from I.ok.hd hc) s.heap.objs.size p (abK hpl) its.toArray,⟨⟨_,abE _ rfl,rfl,rfl⟩,pl.isList.at λo e=>abk _ e⟩,?_,?_⟩)
 ·intro i v s' Q' E' hv hq'
  have e:its[i]?=some v:=by simpa using hv
  rw[ve rv e]
  exact wpAny_truthy_bool hq'
 ·intro h' tk hk
  have f0:=I.vV (abf s.heap.objs.size) (I.hok.fresh (abf _))
  have I2:Inv X pins σ H {s with heap:=s.heap.push {cls:=.type "list_iterator",data:=.fields #[.ref p,rawInt 0]}}:=I.kept (t':=s.toks) λb o e=>abk _ e
  have I3:=I2.turned (h':=h') (t':=tk) (it:=s.heap.objs.size) (λb o hb e=>hk b o (by simpa using hb) e) f0.1 f0.2.1 f0.2.2.2.1 f0.2.2.2.2.1 f0.2.2.2.2.2
  refine⟨.bl (bs.all id),H,I3,?_,q⟩
  show Value.bool _=Value.bool _
  rw[abm,←hlen,all_range]
theorem pO(K:W.Frag)(h:X.K=K)(hc:X.calm=true):gK X (.builtin "all") (Tj K):=by subst h;exact KI hc
def Qf:V->List V->Hp->VK->Prop:=λx vs H Q=>∃(z:Str)(c:Nat),x=.str z/\vs=[.str (sg c)]/\Q (.int (PyProof.Rows.cnt c z.cps.toList)) H
theorem KJ:S4 X "str.count" Qf:=by
 intro pins s σ H x vs v us Q I rx rv h
 obtain⟨z,c,rfl,rfl,q⟩:=h
 obtain⟨t,rfl⟩:=rx
 obtain⟨u,rfl,ru⟩:=rv.one
 obtain⟨t',rfl⟩:=ru
 exact SC.count ⟨.int _,H,I.tok _,⟨_,rfl⟩,by
  have e:Txt.count z (sg c)=PyProof.Rows.cnt c z.cps.toList:=PyProof.Rows.count_is z c
  rw[e];exact q⟩
theorem G9:∀{l:List Nat}{c:Nat},l.Nodup->c∈l->PyProof.Rows.cnt c l=1
 |[],_,_,h=>by cases h
 |n::r,c,nd,h=>by
  rw[PyProof.Rows.cnt_cons]
  obtain⟨n1,n2⟩:=List.nodup_cons.mp nd
  by_cases e:n=c
  ·subst e
   rw[abe rfl,PyProof.Rows.cnt_none _ _ n1];rfl
  ·rw[abb e,G9 n2 ((abw.mp h).resolve_left (ab9 e))];rfl
def BS:List V->List V->Bool
 |[],[]=>true
 |x::xs,y::ys=>ET x y&&BS xs ys
 |_,_=>false
theorem yg:∀{x:V},iy x=true->ET x x=true
 | .non,_=>rfl
 | .bl b,_=>by cases b<;>rfl
 | .int i,_=>by simp[ET]
 | .str z,_=>by simp[ET]
theorem t8:∀{xs:List V},xs.all iy=true->BS xs xs=true
 |[],_=>rfl
 |x::xs,h=>by
  rw[List.all_cons,acP]at h
  unfold BS
  rw[yg h.1,t8 h.2];rfl
def O5(xs ys:List V)(j:Nat):Bool:=match xs[j]?,ys[j]? with
 |some x,some y=>ET x y
 |_,_=>true
theorem yh:∀(xs ys:List V),((List.range (min xs.length ys.length)).all (O5 xs ys)&&xs.length==ys.length)=BS xs ys
 |[],[]=>rfl
 |[],_::_=>by simp[BS]
 |_::_,[]=>by simp[BS]
 |x::xs,y::ys=>by
  have ih:=yh xs ys
  have e:min (x::xs).length (y::ys).length=min xs.length ys.length+1:=by rw[abG,abG];omega
  rw[e,List.range_succ_eq_map,List.all_cons,List.all_map]
  have e2:(O5 (x::xs) (y::ys)∘Nat.succ)=O5 xs ys:=by funext j;simp[O5]
  rw[e2]
  unfold BS
  rw[←ih]
  have e3:((x::xs).length==(y::ys).length)=(xs.length==ys.length):=by simp
  rw[e3]
  show(ET x y&&_&&_)=_
  rw[Bool.and_assoc]
def WE(K:W.Frag):R2:=λx y H Q=>∃a b xs ys,x=.ref a/\y=.ref b/\bz K H a xs/\bz K H b ys/\xs.all iy=true/\ys.all iy=true/\Q (.bl (BS xs ys)) H
theorem items_eqAt{A:Around}{s:Shared}{xs ys:List V}{us ws:List Value}(r1:Vals xs us)(r2:Vals ys ws)(f1:xs.all iy=true)(f2:ys.all iy=true)(j:Nat)(h1:j<us.toArray.size)(h2:j<ws.toArray.size):SeqAt.EqAt A s us.toArray[j] ws.toArray[j] (O5 xs ys j):=by
 have hl1:=r1.length
 have hl2:=r2.length
 have hj1:j<xs.length:=by rw[hl1];simpa using h1
 have hj2:j<ys.length:=by rw[hl2];simpa using h2
 obtain⟨u,eu,ru⟩:=r1.get (i:=j) (x:=xs[j]) (by simp[hj1])
 obtain⟨w,ew,rw'⟩:=r2.get (i:=j) (x:=ys[j]) (by simp[hj2])
 have e1:us.toArray[j]=u:=by
  have:=abi.mp eu
  obtain⟨_,q⟩:=this
  simpa using q
 have e2:ws.toArray[j]=w:=by
  have:=abi.mp ew
  obtain⟨_,q⟩:=this
  simpa using q
 rw[e1,e2]
 have e3:O5 xs ys j=ET xs[j] ys[j]:=by simp[O5,hj1,hj2]
 rw[e3]
 exact Ff ru rw' (abY.mp f1 _ (List.getElem_mem hj1)) (abY.mp f2 _ (List.getElem_mem hj2))
theorem Fo(K:W.Frag)(hK:X.K=K)(hu:X.A.units<cLine):nD X (compareOp .Eq) (WE K):=by
 subst hK
 intro pins s σ H x y v u Q I rx ry h
 obtain⟨a,b,xs,ys,rfl,rfl,ha,hb,f1,f2,q⟩:=h
 cases rx
 cases ry
 obtain⟨its,r1,p1,_⟩:=I.tuple ha
 obtain⟨its2,r2,p2,_⟩:=I.tuple hb
 refine SeqAt.eq_tupleAt (e:=O5 xs ys) p1 p2 hu (λj h1 h2=>items_eqAt r1 r2 f1 f2 j h1 h2) ⟨.bl _,H,I,?_,q⟩
 show Value.bool _=Value.bool _
 rw[abm,abm,←r1.length,←r2.length,yh]
end
inductive nH(K:W.Frag)(H:Hp):Nat->V->V->Prop where
 |flat {n:Nat}{x y:V}:iy x=true->iy y=true->ET x y=true->nH K H n x y
 |ref {n:Nat}{a:Addr}:nH K H n (.ref a) (.ref a)
 |tup {n:Nat}{a b:Addr}{xs ys:List V}:bz K H a xs->bz K H b ys->xs.length=ys.length->(∀(j:Nat) x y,xs[j]?=some x->ys[j]?=some y->nH K H n x y)->nH K H (n+1) (.ref a) (.ref b)
 |lst {n:Nat}{a b:Addr}{xs ys:List V}:bw K H a xs->bw K H b ys->xs.length=ys.length->(∀(j:Nat) x y,xs[j]?=some x->ys[j]?=some y->nH K H n x y)->nH K H (n+1) (.ref a) (.ref b)
theorem all_true(n:Nat):(List.range n).all (λ_=>true)=true:=by rw[abY];intro _ _;rfl
section
variable{X:Cx}{pins:List (Addr×Obj)}{σ:St}{H:Hp}{s:Shared}
theorem iD{A:Around}{R:V->V->Prop}{xs ys:List V}{us ws:List Value}(r1:Vals xs us)(r2:Vals ys ws)(h:∀(j:Nat) x y u w,xs[j]?=some x->ys[j]?=some y->RelV x u->RelV y w->SeqAt.EqAt A s u w true)(j:Nat)(h1:j<us.toArray.size)(h2:j<ws.toArray.size):SeqAt.EqAt A s us.toArray[j] ws.toArray[j] true:=by
 have hl1:=r1.length
 have hl2:=r2.length
 have hj1:j<xs.length:=by rw[hl1];simpa using h1
 have hj2:j<ys.length:=by rw[hl2];simpa using h2
 obtain⟨u,eu,ru⟩:=r1.get (i:=j) (x:=xs[j]) (by simp[hj1])
 obtain⟨w,ew,rw'⟩:=r2.get (i:=j) (x:=ys[j]) (by simp[hj2])
 have e1:us.toArray[j]=u:=by
  obtain⟨_,q⟩:=abi.mp eu
  simpa using q
 have e2:ws.toArray[j]=w:=by
  obtain⟨_,q⟩:=abi.mp ew
  simpa using q
 rw[e1,e2]
 exact h j _ _ u w (by simp[hj1]) (by simp[hj2]) ru rw'
theorem pP(I:Inv X pins σ H s){n:Nat}{x y:V}(h:nH X.K H n x y):∀{A:Around}{u v:Value},A.units+n<cLine->RelV x u->RelV y v->SeqAt.EqAt A s u v true:=by
 induction h with
 |flat f1 f2 e=>intro A u v _ ru rv;rw[←e];exact Ff ru rv f1 f2
 |ref=>intro A u v _ ru rv;cases ru;cases rv;exact SeqAt.EqAt.same _
 |@tup n a b xs ys ha hb hl _ ih =>
  intro A u v hu ru rv
  cases ru;cases rv
  by_cases e:a=b
  ·subst e;exact SeqAt.EqAt.same _
  ·obtain⟨its,r1,p1,_⟩:=I.tuple ha
   obtain⟨its2,r2,p2,_⟩:=I.tuple hb
   refine SeqAt.EqAt.of_refs e ?_
   have q:=SeqAt.RcAt.tuples (A:=A) (e:=λ_=>true) p1 p2 (by omega) λj h1 h2=>iD (R:=λ_ _=>True) r1 r2 (λj x y u w ex ey ru rw'=>ih j x y ex ey (by show A.units+1+n<cLine;omega) ru rw') j h1 h2
   have e2:((List.range (min its.toArray.size its2.toArray.size)).all (λ_=>true)&&its.toArray.size==its2.toArray.size)=true:=by
    rw[all_true,abm,abm,←r1.length,←r2.length,hl];simp
   rw[e2]at q
   exact q
 |@lst n a b xs ys ha hb hl _ ih =>
  intro A u v hu ru rv
  cases ru;cases rv
  by_cases e:a=b
  ·subst e;exact SeqAt.EqAt.same _
  ·obtain⟨its,r1,p1,_⟩:=I.list ha
   obtain⟨its2,r2,p2,_⟩:=I.list hb
   refine SeqAt.EqAt.of_refs e ?_
   have q:=SeqAt.RcAt.lists (A:=A) (e:=λ_=>true) p1.isList p2.isList (by rw[abm,abm,←r1.length,←r2.length,hl]) (by omega) λj h1 h2=>iD (R:=λ_ _=>True) r1 r2 (λj x y u w ex ey ru rw'=>ih j x y ex ey (by show A.units+1+n<cLine;omega) ru rw') j h1 h2
   rw[all_true]at q
   exact q
end
section
variable{X:Cx}
def TopD(K:W.Frag)(H:Hp)(x y:V):Prop:=∃(n:Nat)(a b:Addr)(xs ys:List V),x=.ref a/\y=.ref b/\n<=50/\xs.length=ys.length/\((bz K H a xs/\bz K H b ys)\/(bw K H a xs/\bw K H b ys))/\∀(j:Nat) x y,xs[j]?=some x->ys[j]?=some y->nH K H n x y
def WG(K:W.Frag):R2:=λx y H Q=>TopD K H x y/\Q (.bl true) H
def WH(K:W.Frag):R2:=λx y H Q=>TopD K H x y/\Q (.bl false) H
theorem Fp(K:W.Frag)(hK:X.K=K)(hu:X.A.units+64<cLine):nD X (compareOp .Eq) (WG K):=by
 subst hK
 intro pins s σ H x y v u Q I rx ry h
 obtain⟨⟨n,a,b,xs,ys,rfl,rfl,hn,hl,hk,hs⟩,q⟩:=h
 cases rx;cases ry
 rcases hk with ⟨ha,hb⟩|⟨ha,hb⟩
 ·obtain⟨its,r1,p1,_⟩:=I.tuple ha
  obtain⟨its2,r2,p2,_⟩:=I.tuple hb
  refine SeqAt.eq_tupleAt (e:=λ_=>true) p1 p2 (by omega) (λj h1 h2=>iD (R:=λ_ _=>True) r1 r2 (λj x y u w ex ey ru rw'=>pP I (hs j x y ex ey) (by show X.A.units+1+n<cLine;omega) ru rw') j h1 h2) ⟨.bl true,H,I,?_,q⟩
  show Value.bool _=Value.bool _
  rw[all_true,abm,abm,←r1.length,←r2.length,hl];simp
 ·obtain⟨its,r1,p1,_⟩:=I.list ha
  obtain⟨its2,r2,p2,_⟩:=I.list hb
  refine SeqAt.eq_listAt (e:=λ_=>true) p1.isList p2.isList (by rw[abm,abm,←r1.length,←r2.length,hl]) (by omega) (λj h1 h2=>iD (R:=λ_ _=>True) r1 r2 (λj x y u w ex ey ru rw'=>pP I (hs j x y ex ey) (by show X.A.units+1+n<cLine;omega) ru rw') j h1 h2) ⟨.bl true,H,I,?_,q⟩
  show Value.bool _=Value.bool _
  rw[all_true]
theorem Qg(K:W.Frag)(hK:X.K=K)(hu:X.A.units+64<cLine):nD X (compareOp .NotEq) (WH K):=by
 subst hK
 intro pins s σ H x y v u Q I rx ry h
 obtain⟨⟨n,a,b,xs,ys,rfl,rfl,hn,hl,hk,hs⟩,q⟩:=h
 cases rx;cases ry
 show wpAny _ _ (richCompare .NotEq (.ref a) (.ref b)) _ _ _
 rcases hk with ⟨ha,hb⟩|⟨ha,hb⟩
 ·obtain⟨its,r1,p1,_⟩:=I.tuple ha
  obtain⟨its2,r2,p2,_⟩:=I.tuple hb
  refine SeqAt.RcNeAt.tuples (e:=λ_=>true) p1 p2 (by omega) (λj h1 h2=>iD (R:=λ_ _=>True) r1 r2 (λj x y u w ex ey ru rw'=>pP I (hs j x y ex ey) (by show X.A.units+1+n<cLine;omega) ru rw') j h1 h2) _ _ _ _ ⟨.bl false,H,I,?_,q⟩
  show Value.bool _=Value.bool _
  rw[all_true,abm,abm,←r1.length,←r2.length,hl];simp
 ·obtain⟨its,r1,p1,_⟩:=I.list ha
  obtain⟨its2,r2,p2,_⟩:=I.list hb
  refine SeqAt.RcNeAt.lists (e:=λ_=>true) p1.isList p2.isList (by rw[abm,abm,←r1.length,←r2.length,hl]) (by omega) (λj h1 h2=>iD (R:=λ_ _=>True) r1 r2 (λj x y u w ex ey ru rw'=>pP I (hs j x y ex ey) (by show X.A.units+1+n<cLine;omega) ru rw') j h1 h2) _ _ _ _ ⟨.bl false,H,I,?_,q⟩
  show Value.bool _=Value.bool _
  rw[all_true];rfl
def Qh(K:W.Frag):List V->Hp->VK->Prop:=λxs H Q=>∃(a:Addr)(c:String)(ys:List V)(b:Bool),xs=[.ref a,.ty c]/\((bz K H a ys/\W.kitOne K (.type "tuple") (.type c)=some b)\/(bw K H a ys/\W.kitOne K (.type "list") (.type c)=some b))/\Q (.bl b) H
theorem nI(K:W.Frag)(hK:X.K=K):gK X (.builtin "isinstance") (Qh K):=by
 subst hK
 intro pins s σ H xs us Q I r h
 obtain⟨a,c,ys,b,rfl,hk,q⟩:=h
 obtain⟨u,w',rfl,ru,rw'⟩:=vals2 r
 cases ru;cases rw'
 have fin:∀tk,EP X pins σ Q (.bool b) {s with toks:=tk}:=λtk=>⟨.bl b,H,I.tok tk,rfl,q⟩
 rcases hk with ⟨ha,e⟩|⟨ha,e⟩
 ·obtain⟨its,r1,p1,_⟩:=I.tuple ha
  obtain⟨o,h1,h2,_⟩:=p1
  exact acF W.kitx_tuple I.lu ⟨o,h1,h2⟩ e (λz=>nomatch z) fin
 ·obtain⟨its,r1,p1,_⟩:=I.list ha
  obtain⟨o,h1,h2,_⟩:=p1.isList
  exact acF W.kitx_list I.lu ⟨o,h1,h2⟩ e (λz=>nomatch z) fin
end
section
variable{X:Cx}
theorem xM{x:Str}{z:Int}{t:Tok}{pos:Pos}(hg:Gl X x)(hm:X.mg x=some (.int z t))(hd:(x==("__debug__":Str))=false:=by decide):PE X (.Name x pos) (tC (.int z)):=BD hg hm ⟨t,rfl⟩ hd
end
section
variable{X:Cx}{CX:GU}{k:Nat}{f C:Addr}{fd:FuncData}{ps ks:List Str}{sp:Sp}{E:XK}{x m:Str}{p pos apos kpos:Pos}{e o:Expr}{es:List Expr}{kws:List Keyword}{te ta:TE}{t tk:TA}{nm:Option Str}{g:List Value->List Value->List Value}{gV:List V->List V->List V}
end
section
variable{X:Cx}{pins:List (Addr×Obj)}{σ:St}{H:Hp}{s:Shared}
end
section
variable{X:Cx}
end
section
variable{X:Cx}{pins:List (Addr×Obj)}{σ:St}{H:Hp}{s:Shared}{h':Heap}
theorem Inv.Hf{t':Nat}{wr:List Addr}(I:Inv X pins σ H s)(k:∀b o,b∉wr->s.heap.get? b=some o->h'.get? b=some o)(hf:∀it∈wr,lQ X pins H it):Inv X pins σ H {s with heap:=h',toks:=t'}:=by
 have Sy:∀b u,H b=some u->b∉wr:=λb u e z=>by rw[(hf b z).1]at e;cases e
 have hL:X.env.locals∉wr:=λz=>(hf _ z).2.1 rfl
 refine I.step (g':=s.gens) (d':=s.drawn) (ch:=wr) (λb hb=>?_) (λb o _ _ hc e _=>k b o hc e) (λb o _ _ hc e _=>⟨o.slots,k b o hc e⟩) (λ_ _ _ _ n=>n)
  (λb o hc e=>⟨o,k b o hc e⟩) (λ_ _ e=>e) (λ_ _ _ e=>e) (λb ps e=>⟨#[],by rw[e];simp⟩) (λm hm=>?_) (λb u e=>?_) I.bare
 ·obtain⟨f0,f1,f2,f3,f4,f5⟩:=hf b hb
  exact⟨f3,f1,f4,f5⟩
 ·obtain⟨o,es,ep,ho,r⟩:=hm
  exact⟨o,es,ep,k _ o hL ho,r⟩
 ·refine(I.hok b u e).stay (λc v hc q=>k c v ?_ q) (λ_ q=>q) λ_ _ q=>q
  rcases hc with z|z
  ·rw[z];exact Sy b u e
  ·exact Sy c _ z
end
def hmid(h h2:Heap):Heap:=⟨h.objs++(h2.objs.toList.drop h.objs.size).toArray,h2.life⟩
theorem KL{h h2:Heap}{a:Addr}(ha:a<h.objs.size):(hmid h h2).get? a=h.get? a:=by
 have e:(hmid h h2).objs[a]?=h.objs[a]?:=Array.getElem?_append_left ha
 unfold Heap.get?
 rw[e]
theorem KN{h h2:Heap}{a:Addr}(ha:h.objs.size<=a):(hmid h h2).get? a=h2.get? a:=by
 have e:(hmid h h2).objs[a]?=h2.objs[a]?:=by
  show(h.objs++(h2.objs.toList.drop h.objs.size).toArray)[a]?=_
  rw[Array.getElem?_append_right ha,List.getElem?_toArray,List.getElem?_drop,Array.getElem?_toList]
  congr 1
  omega
 unfold Heap.get?
 rw[e]
theorem Ig{X:Cx}{pins:List (Addr×Obj)}{σ:St}{H:Hp}{s:Shared}{E:Value->Shared->Prop}{it:Addr}{WI wr fp:List Addr}{n:Nat}{Pt:Nat->Array Value->Prop}{R5:Nat->Heap->Prop}{Mid:Nat->Addr->Heap->Prop}{elts:List Expr}{k:Nat}{pos:Pos}{J:It}{tn:Nat->Heap->Prop}{i:Nat}(W:WalksT X.prog X.w X.A it WI wr n Pt R5 Mid)(I:Inv X pins σ H s)(hfp:∀b∈fp,lQ X pins H b)(hwr:∀b∈wr,b∈fp)(hsz:∀b∈fp,b<s.heap.objs.size)(hi:i<n)(hst:R5 i s.heap)(hv:∀vals,Pt i vals->∃vs:List V,vs.length<=sizeLine/\Vals vs vals.toList/\∀T,H T=none->J.MG i H (.ref T) (upd H T (.tup vs)))(htn:∀h,R5 (i+1) h->tn (i+1) h):wpAny (model X.prog X.w) X.A (pyNext (.ref it)) (λr s1=>∃u,r=some u/\wpAny (model X.prog X.w) X.A (letOwnedTupleGo (.Tuple elts k pos) (.ref it) u) (λ_ s2=>∃x H',Inv X pins σ H' s2/\RelV x u/\J.MG i H x H'/\tn (i+1) s2.heap/\∀b∈fp,H' b=none) E s1) E s:=by
 refine W.item i s _ E hi hst λT vals h1 tk hPt hT WJ To hk=>⟨.ref T,rfl,?_⟩
 have hap:=W.apart i T h1 To
 refine W.go elts k pos i T _ _ E To λh2 hSt hk2=>?_
 obtain⟨vs,hlen,Tp,hy⟩:=hv vals hPt
 have hTn:H T=none:=I.hok.fresh hT
 obtain⟨o,ho,hoc,m,hod⟩:=WJ
 have ho2:h2.get? T=some o:=hk2 T o hap ho
 have I1:Inv X pins σ (upd H T (.tup vs)) {s with heap:=hmid s.heap h2,toks:=tk}:=by
  refine I.laid (λb u e=>(KL (abu e)).trans e) hT ?_
  refine⟨hlen,vals.toList,Tp,⟨o,(KN hT).trans ho2,hoc,m,?_⟩⟩
  rw[hod]
 have hne:∀b∈fp,b≠T:=λb hb e=>by
  have:=hsz b hb
  rw[e]at this
  exact absurd this (Nat.not_lt.mpr hT)
 have I2:=I1.Hf (h':=h2) (t':=tk) (wr:=wr) (λb ob hb e=>?_) (λb hb=>?_)
 ·exact⟨.ref T,_,I2,O,hy T hTn,htn _ hSt,λb hb=>(aD (hne b hb)).trans (hfp b hb).1⟩
 ·by_cases hlt:b<s.heap.objs.size
  ·have e:s.heap.get? b=some ob:=(KL hlt).symm.trans e
   exact hk2 b ob hb (hk b ob hb e)
  ·exact(KN (Nat.le_of_not_lt hlt)).symm.trans e
 ·have f:=hfp b (hwr b hb)
  exact⟨(aD (hne b (hwr b hb))).trans f.1,f.2⟩
theorem Ih{X:Cx}{pins:List (Addr×Obj)}{σ:St}{H:Hp}{s:Shared}{E:Value->Shared->Prop}{it:Addr}{WI wr fp:List Addr}{n:Nat}{Pt:Nat->Array Value->Prop}{R5:Nat->Heap->Prop}{Mid:Nat->Addr->Heap->Prop}(W:WalksT X.prog X.w X.A it WI wr n Pt R5 Mid)(I:Inv X pins σ H s)(hfp:∀b∈fp,lQ X pins H b)(hwr:∀b∈wr,b∈fp)(hst:R5 n s.heap):wpAny (model X.prog X.w) X.A (pyNext (.ref it)) (λr s1=>r=none/\Inv X pins σ H s1) E s :=
 W.done s _ E hst λh1 tk hk=>⟨rfl,I.Hf (h':=h1) (t':=tk) (wr:=wr) hk λb hb=>hfp b (hwr b hb)⟩
def R6(K:W.Frag)(a:Addr):It :=
 ⟨λi H=>∃xs x,bw K H a xs/\xs[i]?=some x,λi H v H'=>∃t x,H t=none/\v=.ref t/\H'=upd H t (.tup [.int i,x])/\∀xs,bw K H a xs->xs[i]?=some x,λi H=>∃xs,bw K H a xs/\xs.length=i⟩
theorem Ii{P:Program}{w:World}{K:W.Frag}{elts:List Expr}{k:Nat}{pos:Pos}{e it l:Addr}(hei:e≠it)(hle:l≠e)(hli:l≠it):Turn P w K (.Tuple elts k pos) (R6 K l) [e,it] e (λi h=>(∃old,IsEnum h e it i old)/\h.IsListIter it l i) where
 mem:=by simp
 obj:=λi h st b hb=>by
  obtain⟨⟨old,he⟩,⟨o1,e1,c1,d1⟩⟩:=st
  simp only[abw,List.mem_nil_iff,or_false]at hb
  rcases hb with rfl|rfl
  ·exact⟨_,he,λv q=>by cases q⟩
  ·exact⟨_,e1,λv q=>by rw[d1]at q;cases q⟩
 keep:=λi h h' st k=>by
  obtain⟨⟨old,he⟩,q1⟩:=st
  exact⟨⟨old,k e (by simp) _ he⟩,q1.at λo x=>k it (by simp) o x⟩
 item:=by
  intro X hP hw hK hc i pins s σ H E I hf st hg
  subst hP hw hK
  obtain⟨xs,x,hx,ex⟩:=hg
  obtain⟨its,rv,p,hz⟩:=I.list hx
  obtain⟨u,hu,ru⟩:=rv.get ex
  obtain⟨s1,s2⟩:=id st
  have W:=WalksT.enumerate (prog:=X.prog) (w:=X.w) (A:=X.A) (I.ok.hd hc) e it l hei hle hli its.toArray
  refine Ig (J:=R6 X.K l) (tn:=λi h=>(∃old,IsEnum h e it i old)/\h.IsListIter it l i) W I hf (λb hb=>hb) ?_ ?_ ?_ ?_ ?_
  ·intro b hb
   simp only[abw,List.mem_nil_iff,or_false]at hb
   obtain⟨old,s1⟩:=s1
   obtain⟨o1,e1,_⟩:=s2
   rcases hb with rfl|rfl
   ·exact abu s1
   ·exact abu e1
  ·have h1:=(abi.mp hu).1
   simpa using h1
  ·exact⟨s1,s2,p.isList⟩
  ·intro vals hp
   obtain⟨t,v1,e1,rfl⟩:=hp
   have e1:its[i]?=some v1:=by simpa using e1
   rw[hu]at e1;cases e1
   exact⟨[.int i,x],(by show 2<=sizeLine;decide),.cons ⟨_,O⟩ (.cons ru .nil),λT hT=>⟨T,x,hT,O,O,λzs hz=>by rw[I.DB hz hx];exact ex⟩⟩
  ·exact λh q=>⟨q.1,q.2.1⟩
 done:=by
  intro X hP hw hK hc i pins s σ H E I hf st hg
  subst hP hw hK
  obtain⟨xs,hx,hlen⟩:=hg
  obtain⟨its,rv,p,hz⟩:=I.list hx
  obtain⟨s1,s2⟩:=id st
  have e':i=its.toArray.size:=by rw[abm,←rv.length,hlen]
  subst e'
  have W:=WalksT.enumerate (prog:=X.prog) (w:=X.w) (A:=X.A) (I.ok.hd hc) e it l hei hle hli its.toArray
  exact Ih W I hf (λb hb=>hb) ⟨s1,s2,p.isList⟩
 self:=λ_ _ _ _ _ st h=>by
  obtain⟨⟨old,he⟩,_⟩:=st
  exact wpAny_pyIter_enum he h
def Tq(K:W.Frag)(ta:TA):TI:=λσ H R=>ta σ H λvs H1=>∃a,vs=[.ref a]/\(∃xs,bw K H1 a xs)/\R (R6 K a) H1
theorem KO{X:Cx}{elts:List Expr}{k:Nat}{tpos:Pos}{a:Expr}{ta:TA}{p pos:Pos}(K:W.Frag)(hK:X.K=K)(hg:Gl X "enumerate")(hm:X.mg "enumerate"=none)(ha:PA X [a] ta)(hs:starEach [a] X.env=[(false,eval a X.env)]:=by rfl):PI X (.Tuple elts k tpos) (.Call (.Name "enumerate" p) [a] [] pos) (Tq K ta):=by
 subst hK
 intro pins s σ H R I h
 refine Call_ (tX I hg hm (u:=.type "enumerate") (by decide +kernel) (acG (cC (ha pos pins s σ H _ I h) λus s1 ⟨vs,H1,I1,r1,q1⟩=>?_) hs rfl))
 obtain⟨l,e,⟨xs,hx⟩,q⟩:=q1
 subst e
 cases r1 with
 |cons r rr =>
  cases rr
  cases r
  obtain⟨its,rv,pl,hz⟩:=I1.list hx
  have hlt:l<s1.heap.objs.size:=by obtain⟨o,ho,_⟩:=pl.isList;exact abu ho
  refine call_enumerate_list pl.isList λh' hE hI hsz hk=>?_
  refine wpAny_pyIter_enum hE ?_
  have I2:Inv X pins σ H1 {s1 with heap:=h'}:=I1.kept (t':=s1.toks) λb o e=>hk b o e
  refine⟨s1.heap.objs.size+1,_,_,_,H1,O,I2,Ii (Nat.succ_ne_self _) (abK (Nat.lt_succ_of_lt hlt)) (abK hlt),⟨⟨_,hE⟩,hI⟩,λb hb=>?_,q⟩
  have hb':s1.heap.objs.size<=b:=by
   simp only[abw,List.mem_nil_iff,or_false]at hb
   rcases hb with rfl|rfl
   ·exact Nat.le_add_right _ _
   ·exact abf _
  exact I1.vV hb' (I1.hok.fresh hb')
theorem KP{K:W.Frag}{a:Addr}{xs:List V}{g:TG}{tb:TS}{D:Ends}{σ:St}{H:Hp}(Pv:Nat->St->Hp->Prop)(h0:Pv 0 σ H)(hl:∀i σ H,i<=xs.length->Pv i σ H->bw K H a xs)(hs:∀i x t σ H,xs[i]?=some x->H t=none->Pv i σ H->g (.ref t) σ (upd H t (.tup [.int i,x])) λσ2 H2=>tb {D with nx:=Pv (i+1),ct:=Pv (i+1),bk:=D.nx} σ2 H2)(hd:∀σ H,Pv xs.length σ H->D.nx σ H):∃W:Nat->Nat->St->Hp->Prop,(∃m,W 0 m σ H)/\∀i m σ H,W i m σ H->((R6 K a).stop i H/\D.nx σ H)\/((R6 K a).go i H/\∃N:St->Hp->Prop,(∀σ' H',N σ' H'->∃m',m'<m/\W (i+1) m' σ' H')/\∀x H',(R6 K a).MG i H x H'->g x σ H' λσ2 H2=>tb {D with nx:=N,ct:=N,bk:=D.nx} σ2 H2):=by
 refine⟨λi m σ H=>m=xs.length-i/\i<=xs.length/\Pv i σ H,⟨xs.length,by simp,abO _,h0⟩,?_⟩
 rintro i m σ H ⟨rfl,hi,p⟩
 have q:=hl i σ H hi p
 by_cases hlt:i<xs.length
 ·refine .inr ⟨⟨xs,xs[i],q,by simp[hlt]⟩,Pv (i+1),λσ' H' p'=>⟨xs.length-(i+1),by omega,rfl,hlt,p'⟩,λv H' y=>?_⟩
  obtain⟨t,x,ht,e1,e2,ex⟩:=y
  subst e1 e2
  exact hs i x t σ _ (ex xs q) ht p
 ·have e:i=xs.length:=by omega
  subst e
  exact .inl ⟨⟨xs,q,rfl⟩,hd σ H p⟩
def Tr(K:W.Frag):List V->Hp->VK->Prop:=λxs H Q=>∃(p:Addr)(ns:List Nat),xs=[.ref p]/\bw K H p (ns.map λn:Nat=>V.int n)/\ns.sum<1000000/\Q (.int (ns.sum:Nat)) H
theorem pre_take(ns:List Nat):∀k,k<=ns.length->preSum (λi=>((ns.getD i 0:Nat):Int)) k=((ns.take k).sum:Nat)
 | 0,_=>rfl
 |k+1,h=>by
  show preSum _ k+((ns.getD k 0:Nat):Int)=_
  rw[pre_take ns k (by omega)]
  have hk:k<ns.length:=by omega
  rw[List.take_succ,aby hk,acA]
  simp[List.getD,aby hk]
theorem kh(ns:List Nat)(k:Nat):(ns.take k).sum<=ns.sum:=by
 have e:=congrArg List.sum (List.take_append_drop k ns)
 rw[acA]at e
 omega
theorem ju:∀{ns:List Nat}{us:List Value}{i:Nat}{v:Value},Vals (ns.map λn:Nat=>V.int n) us->us[i]?=some v->∃t,v=.int (ns.getD i 0:Nat) t
 |[],_,i,v,r,e=>by cases r;simp at e
 |n::ns,_,0,v,r,e=>by
  cases r with
  |cons r1 r2 =>
   simp at e
   subst e
   obtain⟨t,e⟩:=r1
   exact⟨t,by simpa using e⟩
 |n::ns,_,i+1,v,r,e=>by
  cases r with
  |cons r1 r2 =>
   obtain⟨t,e2⟩:=ju r2 (i:=i) (v:=v) (by simpa using e)
   exact⟨t,by simpa using e2⟩
theorem Ij{X:Cx}(hc:X.calm=true):gK X (.builtin "sum") (Tr X.K):=by
 intro pins s σ H xs us Q I r h
 obtain⟨p,ns,rfl,hq,hs,q⟩:=h
 obtain⟨u,rfl,ru⟩:=vals1 r
 cases ru
 obtain⟨its,rv,pl,hz⟩:=I.list hq
 have hlen:=rv.length
 rw[abg]at hlen
 have hpl:p<s.heap.objs.size:=by obtain⟨o,ho,_⟩:=pl.isList;exact abu ho
 refine call_sum_walk (wpAny_pyIter_list pl.isList ⟨s.heap.objs.size,_,_,_,_,_,λi=>((ns.getD i 0:Nat):Int),rfl,Walks.list (A:=X.A.in1) (show X.A.in1.handled=none from I.ok.hd hc) s.heap.objs.size p (abK hpl) its.toArray,⟨⟨_,abE _ rfl,rfl,rfl⟩,pl.isList.at λo e=>abk _ e⟩,?_,?_,?_,?_⟩)
 ·intro b hb
  have e:b=s.heap.objs.size\/b=p:=by simpa using hb
  show b<(s.heap.push _).objs.size
  rw[ack]
  rcases e with rfl|rfl
  ·exact acO _
  ·exact Nat.lt_succ_of_lt hpl
 ·intro i v hv
  exact ju rv (by simpa using hv)
 ·intro j hj
  have hj':j<ns.length:=by rw[hlen];simpa using hj
  have h1:=kh ns (j+1)
  have h2:ns.getD j 0<=ns.sum:=by
   have:=kh ns (j+1)
   rw[List.take_succ,aby hj',acA]at this
   simp[List.getD,aby hj']at this⊢
   omega
  rw[pre_take ns (j+1) (by omega)]
  show InLong ((ns.getD j 0:Nat):Int)/\_
  constructor<;>(unfold InLong;constructor<;>omega)
 ·intro h' tk t' hk
  have f0:=I.vV (abf s.heap.objs.size) (I.hok.fresh (abf _))
  have I2:Inv X pins σ H {s with heap:=s.heap.push {cls:=.type "list_iterator",data:=.fields #[.ref p,rawInt 0]}}:=I.kept (t':=s.toks) λb o e=>abk _ e
  have I3:=I2.turned (h':=h') (t':=tk) (it:=s.heap.objs.size) (λb o hb e=>hk b o (by simpa using hb) e) f0.1 f0.2.1 f0.2.2.2.1 f0.2.2.2.2.1 f0.2.2.2.2.2
  refine⟨.int (ns.sum:Nat),H,I3,⟨t',?_⟩,q⟩
  rw[abm,←hlen,pre_take ns _ (abf _),abr (abf _)]
theorem AS{X:Cx}(K:W.Frag)(h:X.K=K)(hc:X.calm=true):gK X (.builtin "sum") (Tr K):=by subst h;exact Ij hc
section
variable{X:Cx}
end
section
variable{X:Cx}
end
section
variable{prog:Program}{w:World}{A:Around}{E:Value->Shared->Prop}{s:Shared}
end
section
variable{prog:Program}{w:World}{A:Around}{E:Value->Shared->Prop}{s:Shared}
end
section
variable{prog:Program}{w:World}{A:Around}{E:Value->Shared->Prop}{s:Shared}
end
section
variable{X:Cx}
end
section
variable{X:Cx}{pins:List (Addr×Obj)}{σ:St}{H:Hp}{s:Shared}
end
section
variable{X:Cx}
end
structure ki(prog:Program)(w:World)(K:Type)[DecidableEq K] where
 is:Heap->K->Value->Prop
 hash:K->Int
 draws:K->Nat
 f9:Nat
 inj:∀{h:Heap}{v:Value}{x y:K},is h x v->is h y v->x=y
 keeps:∀{h h':Heap}{k:K}{v:Value}{d:Addr}{o:Obj}{es ep},is h k v->h.get? d=some o->o.data=.dict es ep->Heap.SameBut d h h'->is h' k v
 pyHash:∀{A:Around}{E:Value->Shared->Prop}{s:Shared}{k:K}{v:Value}{Q:Int->Shared->Prop},A.units+f9<cLine->is s.heap k v->Q (hash k) {s with toks:=s.toks+draws k}->wpAny (model prog w) A (PySem.pyHash v) Q E s
 eq:∀{A:Around}{s:Shared}{x y:K}{u v:Value},A.units+f9<cLine->is s.heap x u->is s.heap y v->SeqAt.EqAt A s u v (decide (x=y))
 quiet:∀{A:Around}{E:Value->Shared->Prop}{s:Shared}{k:K}{v:Value}{Q:Bool->Shared->Prop}{n:Nat},f9<=n->is s.heap k v->Q true s->wpAny (model prog w) A (eqIsQuiet n v) Q E s
section
variable{prog:Program}{w:World}{K:Type}[DecidableEq K](V:ki prog w K)
def TupIs(h:Heap)(ks:List K)(a:Addr):Prop:=∃o items n,h.get? a=some o/\o.cls=.type "tuple"/\o.data=.seq items n/\Paired (λk v=>V.is h k v) ks items.toList
def xN(ks:List K):Int:=reduceHash (Builtin.Tuple.tupleHashOf (ks.map V.hash))
variable{V}
theorem TupIs.ty{s:Shared}{ks:List K}{a:Addr}(x:TupIs V s.heap ks a):s.TypeIs (.ref a) "tuple":=by obtain⟨o,_,_,ho,hc,_⟩:=x;exact⟨o,ho,hc⟩
theorem yi{h:Heap}:∀{x y:List K}{vs:List Value},Paired (λk v=>V.is h k v) x vs->Paired (λk v=>V.is h k v) y vs->x=y
 |_,_,_,.nil,.nil=>rfl
 |_,_,_,.cons a r,.cons b q=>by rw[V.inj a b,yi r q]
theorem TupIs.inj{h:Heap}{a:Addr}{x y:List K}(hx:TupIs V h x a)(hy:TupIs V h y a):x=y:=by
 obtain⟨o,items,n,ho,_,hd,hi⟩:=hx
 obtain⟨o',items',n',ho',_,hd',hi'⟩:=hy
 rw[ho]at ho'
 cases ho'
 rw[hd]at hd'
 cases hd'
 exact yi hi hi'
theorem TupIs.keeps{h h':Heap}{ks:List K}{a d:Addr}{o:Obj}{es ep}(x:TupIs V h ks a)(ho:h.get? d=some o)(hd:o.data=.dict es ep)(hs:Heap.SameBut d h h'):TupIs V h' ks a:=by
 obtain⟨o',items,n,e1,e2,e3,e4⟩:=x
 have hne:a≠d:=λe=>by
  subst e
  rw[e1]at ho
  cases ho
  rw[hd]at e3;cases e3
 exact⟨o',items,n,(hs.2 a hne).trans e1,e2,e3,Paired.HQ e4 λk v q=>V.keeps q ho hd hs⟩
variable{A:Around}{E:Value->Shared->Prop}{s:Shared}
theorem DM{ks:List K}{a:Addr}{Q:Int->Shared->Prop}(hu:A.units+(V.f9+1)<cLine)(hk:TupIs V s.heap ks a)(h:Q (xN V ks) {s with toks:=s.toks+((ks.map V.draws).sum+1)}):wpAny (model prog w) A (pyHash (.ref a)) Q E s:=by
 have hT:=hk.ty
 have gj:A.units<cLine:=by omega
 obtain⟨o,items,n,ho,_,hd,hi⟩:=hk
 unfold pyHash
 first|unfold pyHashByItsType|skip
 first|refine abd (wpAny_cRoomFor_or (.inr gj) ?_)|skip
 refine abd (acz hT F.slot_tuple_hash.lookup ?_);show wpAny _ _ (if (some (Value.builtin "tuple.__hash__")==some Value.none)=true then _ else _) Q E s
 rw[abb (by rw[beq_builtin_none];exact abv)];refine abd (acz hT F.slot_tuple_hash.lookup ?_)
 show wpAny _ _ (callSpecialIfBoundUnlessNone? (.ref a) "__hash__" _ >>= _) Q E s;refine abd (wpAny_callSpecialIfBoundUnlessNone?_slot hT F.slot_tuple_hash (wpAny_call_entry F.slot_tuple_hash hT F.entry_tuple_hash ?_ (F.args_tuple_hash_1 _)))
 have hu1:A.in1.units+V.f9<cLine:=by show A.units+1+V.f9<cLine;omega
 show wpAny _ _ (Builtin.Tuple.tupleItemsOf (.ref a) >>= _) _ _ s
 refine abd (wpAny_tupleItemsOf ho hd (abd ?_))
 rw[←Array.forIn_toList]
 refine wpAny_forIn_list _ (λrest (b:Array Int) s'=>∃done left,ks=done++left/\Paired (λk v=>V.is s.heap k v) left rest/\b.toList=done.map V.hash/\s'={s with toks:=s.toks+(done.map V.draws).sum}) _ ?_ ?_ _ _ ⟨[],ks,rfl,hi,rfl,rfl⟩
 ·rintro x rest b s' ⟨done,left,rfl,hl,hb,rfl⟩
  cases hl with
  |@cons k _ ks' _ h1 hl' =>
   have fin:∃d l,done++k::ks'=d++l/\Paired (λk v=>V.is s.heap k v) l rest/\(b.push (V.hash k)).toList=d.map V.hash/\({s with toks:=s.toks+(done.map V.draws).sum+V.draws k}:Shared)={s with toks:=s.toks+(d.map V.draws).sum}:=⟨done++[k],ks',by simp,hl',by simp[hb],by simp[Nat.add_assoc]⟩
   refine abd (V.pyHash hu1 h1 ?_)
   first
    |exact abl fin
    |exact abd (abl (abl fin))
 ·rintro b s' ⟨done,left,rfl,hl,hb,rfl⟩
  cases hl
  rw[abI]at h
  show wpAny _ _ (retInt (Builtin.Tuple.tupleHashOf b.toList)) _ _ _
  rw[hb]
  refine wpAny_ret_mkInt ?_
  generalize hz:Builtin.Tuple.tupleHashOf (done.map V.hash)=z
  unfold xN reduceHash at h
  rw[hz]at h
  show wpAny _ _ (if (decide (-(2:Int) ^ 63<=z)&&decide (z<2 ^ 63))=true then _ else _) Q E _
  by_cases hr:(decide (-(2:Int) ^ 63<=z)&&decide (z<2 ^ 63))=true
  ·rw[abe hr]at h⊢
   exact abl (by simpa [Nat.add_assoc]using h)
  ·rw[abb hr]at h⊢
   exact abd (wpAny_rule (abl (by simpa [Nat.add_assoc]using h)))
theorem qz{x y:List K}:((List.range (min x.length y.length)).all (λj=>decide (x[j]?=y[j]?))&&x.length==y.length)=decide (x=y):=by
 rw[acy,acP,abY,decide_eq_true_iff,beq_iff_eq]
 constructor
 ·rintro⟨q,hl⟩
  refine List.ext_getElem? λi=>?_
  by_cases hi:i<x.length
  ·exact abF (q i (List.mem_range.mpr (by omega)))
  ·rw[acg (by omega),acg (by omega)]
 ·rintro rfl
  exact⟨λi _=>abo rfl,O⟩
theorem gC{F:K->Value->Prop}:∀{ks:List K}{vs:List Value},Paired F ks vs->∀(j:Nat) v,vs[j]?=some v->∃k,ks[j]?=some k/\F k v
 |_,_,.nil,j,v,h=>by simp at h
 |_,_,.cons a r,0,v,h=>by cases h;exact⟨_,rfl,a⟩
 |_,_,.cons a r,j+1,v,h=>by
  rw[List.getElem?_cons_succ]at h
  obtain⟨k,e,q⟩:=gC r j v h
  exact⟨k,by rw[List.getElem?_cons_succ];exact e,q⟩
theorem KQ{x y:List K}{a b:Addr}(hu:A.units+(V.f9+1)<cLine)(hx:TupIs V s.heap x a)(hy:TupIs V s.heap y b):SeqAt.EqAt A s (.ref a) (.ref b) (decide (x=y)):=by
 by_cases e:a=b
 ·subst e
  rw[abo (hx.inj hy)]
  exact SeqAt.EqAt.same _
 ·obtain⟨o,items,n,h1,h2,h3,h4⟩:=hx
  obtain⟨o',items',n',Tt,h2',h3',O6⟩:=hy
  have l1:x.length=items.size:=by rw[ab8 h4,abt]
  have l2:y.length=items'.size:=by rw[ab8 O6,abt]
  refine SeqAt.EqAt.of_refs e ?_
  rw[←qz,l1,l2]
  refine SeqAt.RcAt.tuples ⟨o,h1,h2,n,h3⟩ ⟨o',Tt,h2',n',h3'⟩ (by omega) λj j1 j2=>?_
  obtain⟨k,ek,hk⟩:=gC h4 j items[j] (by simp[j1])
  obtain⟨k',Tu,hk'⟩:=gC O6 j items'[j] (by simp[j2])
  rw[ek,Tu,show decide (some k=some k')=decide (k=k') by simp]
  exact V.eq (by show A.units+1+V.f9<cLine;omega) hk hk'
theorem AU{ks:List K}{a:Addr}{Q:Bool->Shared->Prop}{n:Nat}(hn:V.f9+1<=n)(hk:TupIs V s.heap ks a)(h:Q true s):wpAny (model prog w) A (eqIsQuiet n (.ref a)) Q E s:=by
 have hT:=hk.ty
 obtain⟨o,items,m,ho,_,hd,hi⟩:=hk
 obtain⟨n,rfl⟩:∃n',n=n'+1:=⟨n-1,by omega⟩
 unfold eqIsQuiet
 refine abd (acz hT F.slot_tuple_eq.lookup ?_);show wpAny _ _ (isInstance (.ref a) (.type "tuple") >>= _) _ _ s
 refine abd (wpAny_isInstance hT isSubtype_tuple_tuple ?_)
 simp only[Bool.not_true,abW,acm]
 refine abd (wpAny_seqItems ho hd (abd ?_))
 show wpAny _ _ (forIn items _ _) _ _ s
 rw[←Array.forIn_toList]
 refine wpAny_forIn_list _ (λrest r s'=>r.1=none/\s'=s/\∃l,Paired (λk v=>V.is s.heap k v) l rest) _ ?_ ?_ _ _ ⟨rfl,rfl,ks,hi⟩
 ·rintro v rest r s' ⟨hr,rfl,l,hl⟩
  cases hl with
  |@cons k _ ks' _ h1 hl' =>
   refine abd (V.quiet (by omega) h1 ?_)
   simp only[Bool.not_true,abW,acm]
   exact abl ⟨rfl,rfl,ks',hl'⟩
 ·rintro⟨r1,r2⟩ s' ⟨hr,rfl,_⟩
  simp only at hr
  subst hr
  exact abl h
end
abbrev Lf:=Option Key
def DN:Lf->Value->Prop
 |none,v=>v=.none
 |some k,v=>u7 k v=true
section
variable{prog:Program}{w:World}{A:Around}{E:Value->Shared->Prop}{s:Shared}
theorem Ik{Q:Int->Shared->Prop}(hu:A.units<cLine)(h:Q 4238894112 {s with toks:=s.toks+1}):wpAny (model prog w) A (pyHash .none) Q E s:=by
 have hT:s.TypeIs .none "NoneType":=rfl
 unfold pyHash
 first|unfold pyHashByItsType|skip
 first|refine abd (wpAny_cRoomFor_or (.inr hu) ?_)|skip
 refine abd (acz hT F.slot_NoneType_hash.lookup ?_)
 show wpAny _ _ (if (some (Value.builtin "NoneType.__hash__")==some Value.none)=true then _ else _) Q E s
 rw[abb (by rw[beq_builtin_none];exact abv)];refine abd (acz hT F.slot_NoneType_hash.lookup ?_)
 show wpAny _ _ (callSpecialIfBoundUnlessNone? .none "__hash__" _ >>= _) Q E s
 refine abd (wpAny_callSpecialIfBoundUnlessNone?_slot hT F.slot_NoneType_hash (wpAny_call_entry F.slot_NoneType_hash hT F.entry_NoneType_hash ?_ (F.args_NoneType_hash_1 _)))
 show wpAny _ _ (retInt 4238894112) _ _ _
 refine wpAny_ret_mkInt ?_
 show wpAny _ _ (if (decide (-(2:Int) ^ 63<=4238894112)&&decide ((4238894112:Int)<2 ^ 63))=true then _ else _) Q E _
 rw[abe (by decide)]
 exact abl h
theorem kO{k:Key}{v:Value}(h:u7 k v=true):(∃i t,k=.inl i/\v=.int i t)\/∃z t,k=.inr z/\v=.str z t:=cM h
theorem KR(prog:Program)(w:World){v:Value}{x y:Lf}(hx:DN x v)(hy:DN y v):x=y:=by
 cases x with
 |none =>
  cases y with
  |none=>rfl
  |some k=>rcases kO hy with ⟨i,t,rfl,e⟩|⟨z,t,rfl,e⟩<;>(rw[show v=.none from hx]at e;cases e)
 |some k =>
  cases y with
  |none=>rcases kO hx with ⟨i,t,rfl,e⟩|⟨z,t,rfl,e⟩<;>(rw[show v=.none from hy]at e;cases e)
  |some k'=>rw[(lO prog w).inj v k k' hx hy]
theorem O7{x y:Lf}{u v:Value}(hx:DN x u)(hy:DN y v):SeqAt.EqAt A s u v (decide (x=y)):=by
 cases x with
 |none =>
  have hx:u=.none:=hx
  subst hx
  cases y with
  |none =>
   have hy:v=.none:=hy
   subst hy
   rw[abo rfl];exact SeqAt.EqAt.same _
  |some k =>
   rw[abB (by simp)]
   rcases kO hy with ⟨i,t,rfl,rfl⟩|⟨z,t,rfl,rfl⟩
   ·exact SeqAt.EqAt.none_int _ _
   ·exact SeqAt.EqAt.none_str _ _
 |some k =>
  cases y with
  |none =>
   have hy:v=.none:=hy
   subst hy
   rw[abB (by simp)]
   rcases kO hx with ⟨i,t,rfl,rfl⟩|⟨z,t,rfl,rfl⟩
   ·exact SeqAt.EqAt.int_none _ _
   ·exact SeqAt.EqAt.str_none _ _
  |some k' =>
   rw[show decide (some k=some k')=decide (k=k') by simp]
   rcases kO hx with ⟨i,t,rfl,rfl⟩|⟨z,t,rfl,rfl⟩<;>rcases kO hy with ⟨i',t',rfl,rfl⟩|⟨z',t',rfl,rfl⟩
   ·rw[JS];exact SeqAt.EqAt.int_int _ _ _ _
   ·rw[JU];exact SeqAt.EqAt.int_str _ _ _ _
   ·rw[JV];exact SeqAt.EqAt.str_int _ _ _ _
   ·rw[JT,show decide (z=z')=(z==z') by rw[acy,decide_eq_true_iff,beq_iff_eq]];exact SeqAt.EqAt.str_str _ _ _ _
theorem Fq{x:Lf}{v:Value}(h:DN x v):carriedByValue v=true:=by
 cases x with
 |none=>rw[show v=.none from h];rfl
 |some k=>rcases kO h with ⟨i,t,rfl,rfl⟩|⟨z,t,rfl,rfl⟩<;>rfl
end
def KS(w:World):Lf->Int
 |none=>4238894112
 |some k=>Sw w k
def DO(prog:Program)(w:World):ki prog w Lf where
 is:=λ_ k v=>DN k v
 hash:=KS w
 draws:=λ_=>1
 f9:=0
 inj:=λhx hy=>KR prog w hx hy
 keeps:=λh _ _ _=>h
 pyHash:=λ{A E s k v Q} hu h q=>by
  cases k with
  |none =>
   have h:v=.none:=h
   subst h
   exact Ik hu q
  |some k=>exact(lO prog w).pyHash h q
 eq:=λ_ hx hy=>O7 hx hy
 quiet:=λ{A E s k v Q n} _ h q=>by rw[eqIsQuiet_byValue n (Fq h)];exact abl q
section
variable{prog:Program}{w:World}{K:Type}[DecidableEq K](V:ki prog w K)
def Qi(h:Heap):Lf⊕List K->Value->Prop
 | .inl k,v=>DN k v
 | .inr ks,v=>∃a,v=.ref a/\TupIs V h ks a
def Qj:Lf⊕List K->Int
 | .inl k=>KS w k
 | .inr ks=>xN V ks
def Nb:Lf⊕List K->Nat
 | .inl _=>1
 | .inr ks=>(ks.map V.draws).sum+1
variable{V}
theorem KU{k:Lf}{a:Addr}(h:DN k (.ref a)):False:=by
 cases k with
 |none=>cases(show Value.ref a=.none from h)
 |some k=>rcases kO h with ⟨i,t,rfl,e⟩|⟨z,t,rfl,e⟩<;>cases e
theorem Tv{A:Around}{s:Shared}{x y:Lf⊕List K}{u v:Value}(hu:A.units+(V.f9+1)<cLine)(hx:Qi V s.heap x u)(hy:Qi V s.heap y v):SeqAt.EqAt A s u v (decide (x=y)):=by
 cases x with
 |inl k =>
  cases y with
  |inl k' =>
   rw[show decide ((Sum.inl k:Lf⊕List K)=.inl k')=decide (k=k') by simp]
   exact O7 hx hy
  |inr ks =>
   obtain⟨a,rfl,o,items,n,h1,h2,h3,h4⟩:=hy
   rw[abB (λq=>nomatch q)]
   cases k with
   |none =>
    have hx:u=.none:=hx
    subst hx
    exact SeqAt.EqAt.none_tuple ⟨o,h1,h2,n,h3⟩ (by omega)
   |some k =>
    rcases kO hx with ⟨i,t,rfl,rfl⟩|⟨z,t,rfl,rfl⟩
    ·exact SeqAt.EqAt.int_tuple _ _ ⟨o,h1,h2,n,h3⟩ (by omega)
    ·exact SeqAt.EqAt.str_tuple _ _ ⟨o,h1,h2,n,h3⟩ (by omega)
 |inr ks =>
  obtain⟨a,rfl,hxa⟩:=hx
  cases y with
  |inl k' =>
   obtain⟨o,items,n,h1,h2,h3,h4⟩:=hxa
   rw[abB (λq=>nomatch q)]
   cases k' with
   |none =>
    have hy:v=.none:=hy
    subst hy
    exact SeqAt.EqAt.tuple_none ⟨o,h1,h2,n,h3⟩ (by omega)
   |some k =>
    rcases kO hy with ⟨i,t,rfl,rfl⟩|⟨z,t,rfl,rfl⟩
    ·exact SeqAt.EqAt.tuple_int _ _ ⟨o,h1,h2,n,h3⟩ (by omega)
    ·exact SeqAt.EqAt.tuple_str _ _ ⟨o,h1,h2,n,h3⟩ (by omega)
  |inr ks' =>
   obtain⟨b,rfl,WK⟩:=hy
   rw[show decide ((Sum.inr ks:Lf⊕List K)=.inr ks')=decide (ks=ks') by simp]
   exact KQ hu hxa WK
def stepK(V:ki prog w K):ki prog w (Lf⊕List K) where
 is:=Qi V
 hash:=Qj V
 draws:=Nb V
 f9:=V.f9+1
 inj:=λ{h v x y} hx hy=>by
  cases x with
  |inl k =>
   cases y with
   |inl k'=>rw[KR prog w hx hy]
   |inr ks=>obtain⟨a,rfl,_⟩:=hy;exact(KU hx).elim
  |inr ks =>
   obtain⟨a,rfl,hxa⟩:=hx
   cases y with
   |inl k'=>exact(KU hy).elim
   |inr ks'=>obtain⟨b,e,WK⟩:=hy;cases e;rw[hxa.inj WK]
 keeps:=λ{h h' k v d o es ep} hx ho hd hs=>by
  cases k with
  |inl k=>exact hx
  |inr ks=>obtain⟨a,rfl,hxa⟩:=hx;exact⟨a,rfl,hxa.keeps ho hd hs⟩
 pyHash:=λ{A E s k v Q} hu hx q=>by
  cases k with
  |inl k=>exact(DO prog w).pyHash (by show A.units+0<cLine;omega) hx q
  |inr ks=>obtain⟨a,rfl,hxa⟩:=hx;exact DM hu hxa q
 eq:=λhu hx hy=>Tv hu hx hy
 quiet:=λ{A E s k v Q n} hn hx q=>by
  cases k with
  |inl k=>exact(DO prog w).quiet (abO _) hx q
  |inr ks=>obtain⟨a,rfl,hxa⟩:=hx;exact AU hn hxa q
def vf(V:ki prog w K)(hl:V.f9+1<=8):HeapKind prog w (List K) where
 is:=TupIs V
 hash:=xN V
 draws:=λks=>(ks.map V.draws).sum+1
 room:=λA=>A.units+(V.f9+1)<cLine
 inj:=λhx hy=>hx.inj hy
 keeps:=λx ho hd hs=>x.keeps ho hd hs
 pyHash:=λhu hk h=>DM hu hk h
 eqBool:=λhu hx hy h=>KQ hu hx hy prog w _ _ h
 quiet:=λhk h=>AU hl hk h
end
section
variable{κ:Type}[DecidableEq κ]
theorem lP.AV{o:Option V}{u:Option Value}(r:lP o u):o.isSome=u.isSome:=by
 cases o with
 |none=>cases u with
  |none=>rfl
  |some _=>exact(show False from r).elim
 |some _=>cases u with
  |none=>exact(show False from r).elim
  |some _=>rfl
theorem KV.length{kvs:List (κ×V)}{vs:List (κ×Value)}(r:KV kvs vs):kvs.length=vs.length:=ab8 r
end
theorem Tw{P:Program}{w:World}{k:Key}{u:Value}(r:RelV (kV k) u):(lO P w).is k u=true:=by
 cases k with
 |inl i=>obtain⟨t,e⟩:=(show ∃t,u=Value.int i t from r);subst e;exact Dy P w i t
 |inr x=>obtain⟨t,e⟩:=(show ∃t,u=Value.str x t from r);subst e;exact Dz P w x t
section
variable{P:Program}{w:World}{H:Hp}{h:Heap}{a:Addr}
end
section
variable{X:Cx}{pins:List (Addr×Obj)}{σ:St}{H:Hp}{s:Shared}{a:Addr}{y v:V}{u r:Value}{o:Option V}{A:Around}{E:Value->Shared->Prop}
theorem Inv.big(I:Inv X pins σ H s):sysModules<s.heap.objs.size:=by
 have h:mainGlobals<s.heap.objs.size:=(I.mod.glob.keeps I.bk).lt
 exact Nat.lt_trans (by decide) h
end
section
variable{X:Cx}{pins:List (Addr×Obj)}{σ:St}{H:Hp}{s:Shared}{a:Addr}{kvs:List (Key×V)}{k:Key}{u:Value}{A:Around}{E:Value->Shared->Prop}
end
def Qk(i:Expr):Prop:=∀ov iv,subscripted i false ov iv=operate [ov,iv] (getItem ov iv)
theorem Nc{prog:Program}{w:World}{A:Around}{E:Value->Shared->Prop}{s:Shared}{env:Env}{value slice:Expr}{pos:Pos}{T id:String}{Q:Value->Shared->Prop}(hl:typeLookup (.type T) "__getitem__"=pure (some (.builtin id)))(hs:Qk slice)(h:wpAny (model prog w) A (eval value env) (λo s₁=>wpAny (model prog w) A (eval slice env) (λi s₂=>s₂.TypeIs o T/\wpAny (model prog w) A (getItem o i) Q E s₂) E s₁) E s):wpAny (model prog w) A (eval (.Subscript value slice pos) env) Q E s:=by
 refine Subscript_ (ab1 h (λo s₁ h₁=>ab1 h₁ (λi s₂ h₂=>?_) λ_ _ x=>x) λ_ _ x=>x)
 obtain⟨hT,h₂⟩:=h₂
 unfold subscriptTail
 refine abd ?_
 rw[getitemInPython_of_ne hT.not_modules]
 refine abd (acz hT hl ?_)
 have fin:wpAny (model prog w) A (subscripted slice false o i) (λr s₃=>wpAny (model prog w) A (letTemporaryGo value o r >>= λ_=>pure r) Q E s₃) E s₂:=by
  rw[hs o i]
  exact wpAny_operating (ab1 h₂ (λr s₃ h₃=>abd (wpAny_letTemporaryGo (abl h₃))) λ_ _ x=>x)
 first
  |exact abl (abd fin)
  |exact abd (abl (abd fin))
  |exact abd fin
section
variable{X:Cx}{o i e value:Expr}{pos pos' tpos:Pos}{td ty tv:TE}
end
section
variable{X:Cx}{pos:Pos}
end
section
variable{X:Cx}{pins:List (Addr×Obj)}{σ:St}{H:Hp}{s:Shared}{a:Addr}{y d:V}{u r:Value}{o:Option V}{A:Around}{E:Value->Shared->Prop}
end
section
variable{X:Cx}{o e f:Expr}{apos cpos:Pos}{td ty tx:TE}
end
section
variable{X:Cx}{pins:List (Addr×Obj)}{σ:St}{H:Hp}{s:Shared}{a:Addr}{kvs:List (Key×V)}{A:Around}{E:Value->Shared->Prop}
end
section
variable{X:Cx}{pins:List (Addr×Obj)}{σ:St}{H:Hp}{s:Shared}{a:Addr}{y:V}{u:Value}{A:Around}{E:Value->Shared->Prop}
end
def lfV:Lf->V
 |none=>.non
 |some k=>kV k
theorem nJ{α β γ:Type}{F:α->β->Prop}{G:β->γ->Prop}:∀{xs:List α}{ys:List β}{zs:List γ},Paired F xs ys->Paired G ys zs->Paired (λa c=>∃b,F a b/\G b c) xs zs
 |_,_,_,.nil,.nil=>.nil
 |_,_,_,.cons a r,.cons b q=>.cons ⟨_,a,b⟩ (nJ r q)
section
variable{P:Program}{w:World}{K:Type}[DecidableEq K]
structure nK(F:W.Frag)(Z:ki P w K) where
 on:Hp->K->V->Prop
 ok:∀{X:Cx}{pins:List (Addr×Obj)}{σ:St}{H:Hp}{s:Shared}{k:K}{v:V}{u:Value},X.K=F->Inv X pins σ H s->RelV v u->on H k v->Z.is s.heap k u
 keep:∀{H H':Hp}{k:K}{v:V},(∀b xs,bz F H b xs->bz F H' b xs)->on H k v->on H' k v
def qA{F:W.Frag}{Z:ki P w K}(Y:nK F Z)(H:Hp)(ks:List K)(b:Addr):Prop:=∃vs,bz F H b vs/\Paired (λk v=>Y.on H k v) ks vs
variable{F:W.Frag}{Z:ki P w K}{Y:nK F Z}{H H':Hp}{ks:List K}{b:Addr}
theorem qA.is{X:Cx}{pins:List (Addr×Obj)}{σ:St}{s:Shared}(hF:X.K=F)(I:Inv X pins σ H s)(e:qA Y H ks b):TupIs Z s.heap ks b:=by
 obtain⟨vs,e,r⟩:=e
 obtain⟨its,rv,⟨o,h1,h2,n,h3⟩,_⟩:=I.tuple (by rw[hF];exact e)
 exact⟨o,its.toArray,n,h1,h2,h3,by simpa using Paired.HQ (nJ r rv) (λk u ⟨v,a,c⟩=>Y.ok hF I c a)⟩
theorem qA.keep(t:∀b xs,bz F H b xs->bz F H' b xs)(e:qA Y H ks b):qA Y H' ks b:=by
 obtain⟨vs,e,r⟩:=e
 exact⟨vs,t _ _ e,Paired.HQ r λk v q=>Y.keep t q⟩
theorem qA.mono(s:∀a o,H a=some o->H' a=some o)(e:qA Y H ks b):qA Y H' ks b:=e.keep λb xs q=>by
 rcases q with (q|⟨o,q⟩)|q
 ·exact .inl (.inl (s _ _ q))
 ·exact .inl (.inr ⟨o,s _ _ q⟩)
 ·exact .inr q
end
def KW(P:Program)(w:World)(F:W.Frag):nK F (DO P w) where
 on:=λ_ k v=>v=lfV k
 ok:=λ{X pins σ H s k v u} _ _ r e=>by
  subst e
  cases k with
  |none=>cases r;rfl
  |some k=>exact Tw (P:=P) (w:=w) r
 keep:=λ_ e=>e
section
variable{P:Program}{w:World}{K:Type}[DecidableEq K]
def WL{F:W.Frag}{Z:ki P w K}(Y:nK F Z)(H:Hp):Lf⊕List K->V->Prop
 | .inl k,v=>v=lfV k
 | .inr ks,v=>∃b,v=.ref b/\qA Y H ks b
def AW{F:W.Frag}{Z:ki P w K}(Y:nK F Z):nK F (stepK Z) where
 on:=WL Y
 ok:=λ{X pins σ H s k v u} hF I r e=>by
  cases k with
  |inl k=>exact(KW P w F).ok hF I r e
  |inr ks =>
   obtain⟨b,rfl,e⟩:=e
   cases r
   exact⟨b,O,e.is hF I⟩
 keep:=λ{H H' k v} t e=>by
  cases k with
  |inl k=>exact e
  |inr ks=>obtain⟨b,rfl,e⟩:=e;exact⟨b,rfl,e.keep t⟩
abbrev N3(K:Type):=List K×Addr×V
abbrev vX:List (N3 K)->List (List K×Addr×Value)->Prop:=Paired λp q=>p.1=q.1/\p.2.1=q.2.1/\RelV p.2.2 q.2.2
def DP(Z:ki P w K)(hl:Z.f9+1<=8)(a:Addr)(kvs:List (N3 K))(h:Heap):Prop :=
 kvs.length<=sizeLine/\(a==sysModules)=false/\∃xs,vX kvs xs/\∃o es ep,h.get? a=some o/\o.ExactDict/\o.data=.dict es ep/\es.toList=xs.map (entryOfKey (vf Z hl))/\(xs.map (·.1)).Nodup
def dN(Z:ki P w K)(hl:Z.f9+1<=8)(a:Addr)(kvs:List (N3 K)):HO:=.ext (DP Z hl a kvs)
structure Nd{F:W.Frag}{Z:ki P w K}(Y:nK F Z)(hl:Z.f9+1<=8)(H:Hp)(a:Addr)(kvs:List (N3 K)):Prop where
 ob:H a=some (dN Z hl a kvs)
 keys:∀e∈kvs,qA Y H e.1 e.2.1
variable{F:W.Frag}{Z:ki P w K}{Y:nK F Z}{hl:Z.f9+1<=8}{H H':Hp}{h:Heap}{a b:Addr}{kvs:List (N3 K)}
theorem Nd.mono(s:∀a o,H a=some o->H' a=some o)(d:Nd Y hl H a kvs):Nd Y hl H' a kvs:=⟨s _ _ d.ob,λe he=>(d.keys e he).mono s⟩
theorem KY{xs:List (List K×Addr×Value)}:∀{kvs:List (N3 K)},vX kvs xs->∀q∈xs,∃p∈kvs,p.1=q.1/\p.2.1=q.2.1:=by
 intro kvs r
 induction r with
 |nil=>intro q hq;cases hq
 |cons a r ih =>
  intro q hq
  rcases abw.mp hq with rfl|hq
  ·exact⟨_,abN ..,a.1,a.2.1⟩
  ·obtain⟨p,hp,e⟩:=ih q hq
   exact⟨p,abC _ hp,e⟩
theorem Nd.of{X:Cx}{K:Type}[DecidableEq K]{F:W.Frag}{Z:ki X.prog X.w K}{Y:nK F Z}{hl:Z.f9+1<=8}{H:Hp}{a:Addr}{kvs:List (N3 K)}{pins:List (Addr×Obj)}{σ:St}{s:Shared}(hF:X.K=F)(I:Inv X pins σ H s)(d:Nd Y hl H a kvs):kvs.length<=sizeLine/\(a==sysModules)=false/\∃xs,vX kvs xs/\s.heap.DictOfH (vf Z hl) a xs:=by
 obtain⟨⟨z,y,xs,r,o,es,ep,h1,h2,h3,h4,h5⟩,_⟩:=(show cW X.prog X.w H s.heap a (dN Z hl a kvs) from I.hok a _ d.ob)
 refine⟨z,y,xs,r,o,es,ep,h1,h2,h3,h4,λx hx=>?_,h5⟩
 obtain⟨p,hp,e1,e2⟩:=KY r x hx
 have:=(d.keys p hp).is hF I
 rw[e1,e2]at this
 exact this
theorem KZ{h':Heap}{xs:List (List K×Addr×Value)}(z:kvs.length<=sizeLine)(y:(a==sysModules)=false)(r:vX kvs xs)(dd:h'.DictOfH (vf Z hl) a xs):cW P w H h' a (dN Z hl a kvs):=by
 obtain⟨o,es,ep,h1,h2,h3,h4,_,h5⟩:=dd
 refine⟨⟨z,y,xs,r,o,es,ep,h1,h2,h3,h4,h5⟩,⟨o,h1⟩,λg1 g2 q k=>?_⟩
 obtain⟨z,y,xs,r,o,es,ep,h1,h2,h3,h4,h5⟩:=q
 exact⟨z,y,xs,r,o,es,ep,k _ h1,h2,h3,h4,h5⟩
def valN(kvs:List (N3 K))(k:List K):Option V:=(kvs.find? λx=>decide (x.1=k)).map (·.2.2)
theorem rm{k:List K}:∀{kvs:List (N3 K)}{xs:List (List K×Addr×Value)},vX kvs xs->lP (valN kvs k) ((atKey xs k).map (·.2))
 |_,_,.nil=>trivial
 |p::kvs,q::xs,.cons a r=>by
  have ih:=rm (k:=k) r
  unfold valN atKey at ih⊢
  rw[acB,acB,a.1]
  by_cases e:q.1=k
  ·rw[abo e];exact a.2.2
  ·rw[abB e];exact ih
def putN(kvs:List (N3 K))(k:List K)(b:Addr)(v:V):List (N3 K):=if (valN kvs k).isSome=true then kvs.map (λx=>if x.1=k then (x.1,x.2.1,v) else x) else kvs++[(k,b,v)]
theorem rq{k:List K}{v:V}(h:valN kvs k=none):putN kvs k b v=kvs++[(k,b,v)]:=by unfold putN;rw[h];rfl
theorem DQ{k:List K}{v:V}{u:Value}(rv:RelV v u):∀{kvs:List (N3 K)}{xs:List (List K×Addr×Value)},vX kvs xs->vX (kvs.map (λx=>if x.1=k then (x.1,x.2.1,v) else x)) (xs.map (putAt k u))
 |_,_,.nil=>.nil
 |p::kvs,q::xs,.cons a r=>by
  refine .cons ?_ (DQ rv r)
  unfold putAt
  by_cases e:q.1=k
  ·rw[abe e,show(λx:N3 K=>if x.1=k then (x.1,x.2.1,v) else x) p=(p.1,p.2.1,v) from abe (a.1.trans e)];exact⟨a.1,a.2.1,rv⟩
  ·rw[abb e,show(λx:N3 K=>if x.1=k then (x.1,x.2.1,v) else x) p=p from abb (λq=>e (a.1.symm.trans q))];exact a
theorem DR{kvs':List (N3 K)}{xs':List (List K×Addr×Value)}:∀{kvs:List (N3 K)}{xs:List (List K×Addr×Value)},vX kvs xs->vX kvs' xs'->vX (kvs++kvs') (xs++xs')
 |_,_,.nil,q=>q
 |_,_,.cons a r,q=>.cons a (DR r q)
theorem K0{k:List K}{v:V}{u:Value}{xs:List (List K×Addr×Value)}(r:vX kvs xs)(rv:RelV v u):vX (putN kvs k b v) (storedH xs k b u):=by
 have q:=(rm (k:=k) r).AV
 rw[Option.isSome_map]at q
 unfold putN storedH
 by_cases e:(valN kvs k).isSome=true
 ·rw[abe e,abe (by rw[←q];exact e)];exact DQ rv r
 ·rw[abb e,abb (by rw[←q];exact e)];exact DR r (.cons ⟨rfl,rfl,rv⟩ .nil)
theorem K1{k:List K}{v:V}:(putN kvs k b v).length<=kvs.length+1:=by
 unfold putN
 split
 ·rw[abg];omega
 ·rw[abj];exact abf _
theorem kP(d:H a=some (dN Z hl a kvs)){o:HO}:∀c xs,bz F H c xs->bz F (upd H a o) c xs:=λc xs e=>by
 rcases e with (e|⟨ob,e⟩)|e
 ·exact .inl (.inl ((aD (ji e d (λq=>nomatch q))).trans e))
 ·exact .inl (.inr ⟨ob,(aD (ji e d (λq=>nomatch q))).trans e⟩)
 ·exact .inr e
theorem Nd.put{k:List K}{v:V}(d:Nd Y hl H a kvs)(e:qA Y H k b):Nd Y hl (upd H a (dN Z hl a (putN kvs k b v))) a (putN kvs k b v):=by
 refine⟨aj,λp hp=>?_⟩
 have t:=kP (F:=F) d.ob (o:=dN Z hl a (putN kvs k b v))
 unfold putN at hp
 split at hp
 ·obtain⟨x,hx,rfl⟩:=abR.mp hp
  have:=(d.keys x hx).keep t
  split<;>exact this
 ·rcases abp.mp hp with q|q
  ·exact(d.keys p q).keep t
  ·rw[abh.mp q];exact e.keep t
end
section
variable{X:Cx}{K:Type}[DecidableEq K]{F:W.Frag}{Z:ki X.prog X.w K}{Y:nK F Z}{hl:Z.f9+1<=8}{pins:List (Addr×Obj)}{σ:St}{H:Hp}{s:Shared}{a b:Addr}{kvs:List (N3 K)}{k:List K}{v:V}{r:Value}{A:Around}{E:Value->Shared->Prop}
theorem Il{Q:Value->Shared->Prop}(hu:A.units+1+(Z.f9+1)<cLine)(hF:X.K=F)(I:Inv X pins σ H s)(d:Nd Y hl H a kvs)(e:qA Y H k b)(g:valN kvs k=some v)(h:∀w' s',Inv X pins σ H s'->RelV v w'->Q w' s'):wpAny (model X.prog X.w) A (getItem (.ref a) (.ref b)) Q E s:=by
 obtain⟨z,y,xs,rel,dd⟩:=d.of hF I
 obtain⟨w',hw,rw'⟩:=lP.some_of (v:=v) (o:=(atKey xs k).map (·.2)) (by rw[←g];exact rm rel)
 obtain⟨p,hp,hp2⟩:=Option.map_eq_some_iff.mp hw
 refine wpAny_getItem_heap (knd:=vf Z hl) hu (e.is hF I) dd hp ?_
 rw[hp2]
 exact h w' _ (I.tok _) rw'
theorem Nf{Q:Value->Shared->Prop}(hu:A.units+1+(Z.f9+1)<cLine)(hF:X.K=F)(I:Inv X pins σ H s)(d:Nd Y hl H a kvs)(e:qA Y H k b)(h:∀s',Inv X pins σ H s'->Q (.bool (!(valN kvs k).isSome)) s'):wpAny (model X.prog X.w) A (compareOp .NotIn (.ref b) (.ref a)) Q E s:=by
 obtain⟨z,y,xs,rel,dd⟩:=d.of hF I
 refine wpAny_notIn_heap (knd:=vf Z hl) hu (e.is hF I) y dd ?_
 have q:=(rm (k:=k) rel).AV
 rw[Option.isSome_map]at q
 rw[←q]
 exact h _ (I.tok _)
theorem Im{Q:Unit->Shared->Prop}(hu:A.units+1+(Z.f9+1)<cLine)(hF:X.K=F)(I:Inv X pins σ H s)(d:Nd Y hl H a kvs)(e:qA Y H k b)(hz:kvs.length<sizeLine)(rv:RelV v r)(h:∀s',Inv X pins σ (upd H a (dN Z hl a (putN kvs k b v))) s'->Q () s'):wpAny (model X.prog X.w) A (setItem (.ref a) (.ref b) r) Q E s:=by
 obtain⟨z,y,xs,rel,dd⟩:=d.of hF I
 have hxz:xs.length<=sizeLine:=by rw[←ab8 rel];exact z
 refine wpAny_setItem_heap (knd:=vf Z hl) (hsz:=hxz) hu (e.is hF I) dd λh' R7 hs=>h _ ?_
 have he:∃q,h'.get? a=some q:=let ⟨q,_,_,hq,_⟩:=R7;⟨q,hq⟩
 have:=K1 (kvs:=kvs) (k:=k) (b:=b) (v:=v)
 exact I.write (x:=a) (e:=a) (by rw[d.ob];exact True.intro) (.inl rfl) (λc q hc z=>(hs.2 c hc).trans z) he (KZ (by omega) y (K0 rel rv) R7)
variable{o i value kx:Expr}{pos pos':Pos}{td ty tv:TE}
def O8{P:Program}{w:World}{K:Type}[DecidableEq K]{F:W.Frag}{Z:ki P w K}(Y:nK F Z)(hl:Z.f9+1<=8)(td ty:TE):TE:=λσ H Q=>td σ H λx H1=>ty σ H1 λy H2=>∃a kvs k b v,x=.ref a/\y=.ref b/\Nd Y hl H2 a kvs/\qA Y H2 k b/\valN kvs k=some v/\Q v H2
def Hg{P:Program}{w:World}{K:Type}[DecidableEq K]{F:W.Frag}{Z:ki P w K}(Y:nK F Z)(hl:Z.f9+1<=8)(ty td:TE):TE:=λσ H Q=>ty σ H λy H1=>td σ H1 λx H2=>∃a kvs k b,x=.ref a/\y=.ref b/\Nd Y hl H2 a kvs/\qA Y H2 k b/\Q (.bl (!(valN kvs k).isSome)) H2
def O9{P:Program}{w:World}{K:Type}[DecidableEq K]{F:W.Frag}{Z:ki P w K}(Y:nK F Z)(hl:Z.f9+1<=8)(td ty tv:TE):TS:=λD σ H=>tv σ H λv H1=>td σ H1 λx H2=>ty σ H2 λy H3=>∃a kvs k b,x=.ref a/\y=.ref b/\Nd Y hl H3 a kvs/\qA Y H3 k b/\kvs.length<sizeLine/\D.nx σ (upd H3 a (dN Z hl a (putN kvs k b v)))
def Pa{P:Program}{w:World}{K:Type}[DecidableEq K]{F:W.Frag}{Z:ki P w K}(Y:nK F Z)(hl:Z.f9+1<=8)(tk tv:TE):TE:=λσ H Q=>∀p,H p=none->tk σ (upd H p (dN Z hl p [])) λy H1=>tv σ H1 λv H2=>∃k b,y=.ref b/\H2 p=some (dN Z hl p [])/\qA Y H2 k b/\Q (.ref p) (upd H2 p (dN Z hl p [(k,b,v)]))
theorem Ng(Y:nK F Z)(hl:Z.f9+1<=8)(hF:X.K=F)(hu:X.A.units+1+(Z.f9+1)<cLine)(ho:PE X o td)(hi:PE X i ty)(hs:Qk i):PE X (.Subscript o i pos) (O8 Y hl td ty):=by
 intro pins s σ H Q I h
 refine Nc PySem.F.slot_dict_getitem.lookup hs (cC (ho pins s σ H _ I h) λu s1 ⟨x,H1,I1,rx,q1⟩=>cC (hi pins s1 σ H1 _ I1 q1) λiv s2 ⟨y,H2,I2,ry,a,kvs,k,b,v,ex,ey,d,e,g,q2⟩=>?_)
 subst ex ey
 obtain rfl:u=Value.ref a:=rx
 obtain rfl:iv=Value.ref b:=ry
 obtain⟨_,_,xs,_,dd⟩:=d.of hF I2
 exact⟨dd.typeIs,Il hu hF I2 d e g λw' s3 I3 rw'=>⟨v,H2,I3,rw',q2⟩⟩
theorem Io(Y:nK F Z)(hl:Z.f9+1<=8)(hF:X.K=F)(hu:X.A.units+1+(Z.f9+1)<cLine)(hi:PE X i ty)(ho:PE X o td):PC X .NotIn i o (Hg Y hl ty td):=by
 intro pins s σ H Q I h
 refine cC (hi pins s σ H _ I h) λiv s1 ⟨y,H1,I1,ry,q1⟩=>cC (ho pins s1 σ H1 _ I1 q1) λu s2 ⟨x,H2,I2,rx,a,kvs,k,b,ex,ey,d,e,q2⟩=>?_
 subst ex ey
 obtain rfl:u=Value.ref a:=rx
 obtain rfl:iv=Value.ref b:=ry
 exact Nf hu hF I2 d e λs3 I3=>⟨.bl (!(valN kvs k).isSome),H2,I3,rfl,q2⟩
theorem Nh(Y:nK F Z)(hl:Z.f9+1<=8)(hF:X.K=F)(hu:X.A.units+1+(Z.f9+1)<cLine)(ho:PE X o td)(hi:PE X i ty)(hv:PE X value tv)(hs:swapsWith value (some (.Subscript o i pos')) pos.line X.env=pure false):PS X (.Assign [.Subscript o i pos'] value pos) (O9 Y hl td ty tv):=by
 intro pins s σ H D I h
 refine wpAny_Assign_Subscript (cC (hv pins s σ H _ I h) λr s1 ⟨v,H1,I1,rv,q1⟩=>cC (ho pins s1 σ H1 _ I1 q1) λu s2 ⟨x,H2,I2,rx,q2⟩=>cC (hi pins s2 σ H2 _ I2 q2) λiv s3 ⟨y,H3,I3,ry,a,kvs,k,b,ex,ey,d,e,hz,q3⟩=>?_) hs
 subst ex ey
 obtain rfl:u=Value.ref a:=rx
 obtain rfl:iv=Value.ref b:=ry
 exact Im hu hF I3 d e hz rv λs4 I4=>⟨σ,_,I4,q3⟩
theorem K2(Y:nK F Z)(hl:Z.f9+1<=8)(hF:X.K=F)(hu:X.A.units+(Z.f9+1)<cLine){tk:TE}(hk:PE X kx tk)(hv:PE X value tv):PE X (.Dict [some kx] [value] pos) (Pa Y hl tk tv):=by
 intro pins s σ H Q I q
 have hn:=I.hok.fresh (abf s.heap.objs.size)
 have y0:(s.heap.objs.size==sysModules)=false:=acQ.mpr (ab9 (abK I.big))
 have I1:=I.laid (a:=s.heap.objs.size) (o:=dN Z hl s.heap.objs.size []) (h':=s.heap.push {cls:=.type "dict",data:=.dict #[]}) (t':=s.toks) (λ_ _ q=>abk _ q) (abf _) (KZ (xs:=[]) (abO _) y0 .nil (Heap.DictOfH.new s.heap))
 refine wpAny_Dict_any rfl rfl (λz=>nomatch z) (by show 1<=15;decide) (pairTrees_cons_walk (cC (hk pins _ σ _ _ I1 (q _ hn)) λu s1 ⟨x,H1,I1',rx,q1⟩=>cC (hv pins s1 σ H1 _ I1' q1) λvu s2 ⟨v,H2,I2,rv,k,b,ex,e,ek,q2⟩=>pairTrees_nil_walk ?_))
 subst ex
 obtain rfl:u=Value.ref b:=rx
 have d0:Nd Y hl H2 s.heap.objs.size []:=⟨e,λx hx=>nomatch hx⟩
 obtain⟨z,y,xs,rel,dd⟩:=d0.of hF I2
 cases rel
 unfold storeAll
 refine wpAny_forIn_list _ (λrest _ s'=>(rest=[(Value.ref b,vu)]/\s'=s2)\/(rest=[]/\EP X pins σ Q (Value.ref s.heap.objs.size) s')) _ ?_ ?_ _ _ (.inl ⟨rfl,rfl⟩)
 ·rintro x rest u s' (⟨e1,rfl⟩|⟨e1,_⟩)
  ·cases e1
   refine abd (wpAny_dictSet_heap (knd:=vf Z hl) (hsz:=abO _) hu (ek.is hF I2) dd λh' R7 hs=>abl (.inr ⟨rfl,.ref s.heap.objs.size,_,?_,rfl,q2⟩))
   have he:∃q,h'.get? s.heap.objs.size=some q:=let ⟨q,_,_,hq,_⟩:=R7;⟨q,hq⟩
   exact I2.write (x:=s.heap.objs.size) (e:=s.heap.objs.size) (by rw[e];exact True.intro) (.inl rfl) (λc q hc z=>(hs.2 c hc).trans z) he (KZ (by show 1<=sizeLine;decide) y (.cons ⟨rfl,rfl,rv⟩ .nil) R7)
  ·cases e1
 ·rintro u s' (⟨e1,_⟩|⟨_,q⟩)
  ·cases e1
  ·exact q
end
section
variable{X:Cx}{K:Type}[DecidableEq K]{F:W.Frag}{Z:ki X.prog X.w K}
def WM{P:Program}{w:World}{K:Type}[DecidableEq K]{F:W.Frag}{Z:ki P w K}(Y:nK F Z):R2:=λx y H Q=>∃b b' ks ks',x=.ref b/\y=.ref b'/\qA Y H ks b/\qA Y H ks' b'/\Q (.bl (decide (ks=ks'))) H
theorem BU(Y:nK F Z)(hF:X.K=F)(hu:X.A.units+(Z.f9+1)<cLine):nD X (compareOp .Eq) (WM Y):=by
 intro pins s σ H x y v u Q I rx ry h
 obtain⟨b,b',ks,ks',rfl,rfl,e1,e2,q⟩:=h
 cases rx;cases ry
 obtain⟨o,items,n,h1,h2,h3,h4⟩:=e1.is hF I
 obtain⟨o',items',n',Tt,h2',h3',O6⟩:=e2.is hF I
 have l1:ks.length=items.size:=by rw[ab8 h4,abt]
 have l2:ks'.length=items'.size:=by rw[ab8 O6,abt]
 refine SeqAt.eq_tupleAt (e:=λj=>decide (ks[j]?=ks'[j]?)) ⟨o,h1,h2,n,h3⟩ ⟨o',Tt,h2',n',h3'⟩ (by omega) (λj j1 j2=>?_) ⟨.bl (decide (ks=ks')),H,I,?_,q⟩
 ·obtain⟨k,ek,hk⟩:=gC h4 j items[j] (by simp[j1])
  obtain⟨k',Tu,hk'⟩:=gC O6 j items'[j] (by simp[j2])
  rw[ek,Tu,show decide (some k=some k')=decide (k=k') by simp]
  exact Z.eq (by show X.A.units+1+Z.f9<cLine;omega) hk hk'
 ·show Value.bool _=Value.bool _
  rw[←l1,←l2,qz]
end
abbrev ZM(P:Program)(w:World):=stepK (DO P w)
abbrev YL(P:Program)(w:World)(F:W.Frag):=KW P w F
abbrev YM(P:Program)(w:World)(F:W.Frag):nK F (ZM P w):=AW (KW P w F)
theorem aM(P:Program)(w:World):(ZM P w).f9+1<=8:=by show 2<=8;decide
theorem hn0{A:Around}{P:Program}{w:World}(h:A.units+64<cLine):A.units+((DO P w).f9+1)<cLine:=by show A.units+1<cLine;omega
theorem hn1{A:Around}{P:Program}{w:World}(h:A.units+64<cLine):A.units+((ZM P w).f9+1)<cLine:=by show A.units+2<cLine;omega
theorem hn2{A:Around}{P:Program}{w:World}(h:A.units+64<cLine):A.units+1+((ZM P w).f9+1)<cLine:=by show A.units+1+2<cLine;omega
def DS(k s:Str):List Lf:=[some (.inr k),some (.inr s)]
def bq(m:(Str×Str)×Nat):List (Lf⊕List Lf):=[.inr (DS m.1.1 m.1.2),.inl (some (.inl m.2))]
theorem dP{k s k' s':Str}:DS k s=DS k' s'↔(k,s)=(k',s'):=by
 unfold DS
 constructor
 ·intro h;injection h with h1 h2;injection h2 with h2 _;injection h1 with h1;injection h2 with h2;injection h1 with h1;injection h2 with h2;rw[h1,h2]
 ·intro h;injection h with h1 h2;rw[h1,h2]
theorem lC{m m':(Str×Str)×Nat}:bq m=bq m'↔m=m':=by
 unfold bq
 constructor
 ·intro h
  injection h with h1 h2
  injection h2 with h2 _
  injection h1 with h1
  injection h2 with h2;injection h2 with h2;injection h2 with h2
  have e:=dP.mp h1
  obtain⟨⟨a,b⟩,n⟩:=m
  obtain⟨⟨a',b'⟩,n'⟩:=m'
  injection e with e1 e2
  have h2:n=n':=Int.ofNat.inj h2
  simp only at e1 e2
  rw[e1,e2,h2]
 ·rintro rfl;rfl
section
variable{P:Program}{w:World}{F:W.Frag}{H:Hp}
theorem gT{a:Addr}{k s:Str}(h:bz F H a [.str k,.str s]):qA (YL P w F) H (DS k s) a:=⟨_,h,.cons rfl (.cons rfl .nil)⟩
theorem iL{b s:Addr}{m:(Str×Str)×Nat}(h:bz F H b [.ref s,.int m.2])(h2:bz F H s [.str m.1.1,.str m.1.2]):qA (YM P w F) H (bq m) b:=⟨_,h,.cons ⟨s,rfl,gT h2⟩ (.cons rfl .nil)⟩
end
section
variable{X:Cx}{P:Program}{w:World}{K:Type}[DecidableEq K]{F:W.Frag}{Z:ki P w K}{o i value kx:Expr}{pos pos':Pos}{td ty tv tk:TE}
theorem DT(Y:nK F Z)(hl:Z.f9+1<=8)(hP:X.prog=P)(hw:X.w=w)(hF:X.K=F)(hu:X.A.units+1+(Z.f9+1)<cLine)(ho:PE X o td)(hi:PE X i ty)(hs:Qk i):PE X (.Subscript o i pos) (O8 Y hl td ty):=by
 subst hP hw;exact Ng Y hl hF hu ho hi hs
theorem yj(Y:nK F Z)(hl:Z.f9+1<=8)(hP:X.prog=P)(hw:X.w=w)(hF:X.K=F)(hu:X.A.units+1+(Z.f9+1)<cLine)(hi:PE X i ty)(ho:PE X o td):PC X .NotIn i o (Hg Y hl ty td):=by
 subst hP hw;exact Io Y hl hF hu hi ho
theorem DU(Y:nK F Z)(hl:Z.f9+1<=8)(hP:X.prog=P)(hw:X.w=w)(hF:X.K=F)(hu:X.A.units+1+(Z.f9+1)<cLine)(ho:PE X o td)(hi:PE X i ty)(hv:PE X value tv)(hs:swapsWith value (some (.Subscript o i pos')) pos.line X.env=pure false):PS X (.Assign [.Subscript o i pos'] value pos) (O9 Y hl td ty tv):=by
 subst hP hw;exact Nh Y hl hF hu ho hi hv hs
theorem AX(Y:nK F Z)(hl:Z.f9+1<=8)(hP:X.prog=P)(hw:X.w=w)(hF:X.K=F)(hu:X.A.units+(Z.f9+1)<cLine)(hk:PE X kx tk)(hv:PE X value tv):PE X (.Dict [some kx] [value] pos) (Pa Y hl tk tv):=by
 subst hP hw;exact K2 Y hl hF hu hk hv
end
section
variable{prog:Program}{w:World}{A:Around}{E:Value->Shared->Prop}{s:Shared}
theorem vY{R:Result->Shared->Prop}(hh:A.handled=none){I l:Addr}{items:List Value}(hne:l≠I)(hit:s.heap.IsRevIter I l ((items.toArray.size:Int)-1))(hl:s.heap.IsList l items.toArray)(hn:items.toArray.size<=sizeLine)(hR:∀h' tk acc' c',(∀b o,b≠I->s.heap.get? b=some o->h'.get? b=some o)->h'.get? s.heap.objs.size=some {cls:=.type "list",dict:=none,data:=.seq acc' c',slots:=#[]}->acc'.toList=items.reverse->R (.ok (.ret (.ref s.heap.objs.size))) {s with heap:=h',toks:=tk}):codeAny (model prog w) A (.builtin "proto.collect" ⟨[.ref I],[]⟩) R s:=by
 refine codeAny_builtin F.entry_proto_collect ?_;rw[Around.under_plainId F.plain_proto_collect _]
 show wpAny _ A.in1 (newList [] >>= λl=>again (.builtin "list.__iadd__" ⟨[l,.ref I],[]⟩)) _ _ s;refine abd (acD ?_)
 refine abl ⟨plainId_quiet F.plain_list_iadd _,codeAny_builtin F.entry_list_iadd ?_⟩
 rw[Around.under_plainId F.plain_list_iadd _]
 have hS:(s.heap.push {cls:=.type "list",data:=.seq #[]}).get? s.heap.objs.size=some {cls:=.type "list",data:=.seq #[]}:=abE _ rfl
 have hlt:l<s.heap.objs.size:=by obtain⟨o,ho,_⟩:=hl;exact abu ho
 show wpAny _ A.in1 (Builtin.List.listExtendWith (.ref s.heap.objs.size) (.ref I) (.ref s.heap.objs.size)) _ _ _
 exact Fl (R:=R) (s:={s with heap:=s.heap.push {cls:=.type "list",data:=.seq #[]}}) hh hne (hit.at λo e=>abk _ e) (hl.at λo e=>abk _ e) _ (Nat.ne_of_gt hlt) _ _ hS hn λh' tk acc' c' hk hS' hacc =>
  hR h' tk acc' c' (λb o hb e=>hk b o (abK (abu e)) hb (abk _ e)) hS' (Ie hacc)
theorem DV{Q:List Value->Shared->Prop}(hh:A.handled=none){I l:Addr}{items:List Value}(hne:l≠I)(hit:s.heap.IsRevIter I l ((items.toArray.size:Int)-1))(hl:s.heap.IsList l items.toArray)(hn:items.toArray.size<=sizeLine)(hQ:∀h' tk,(∀b o,b≠I->s.heap.get? b=some o->h'.get? b=some o)->Q items.reverse {s with heap:=h',toks:=tk}):wpAny (model prog w) A (collect (.ref I)) Q E s:=by
 unfold collect
 refine abd (wpAny_runValue (vY hh hne hit hl hn λh' tk acc' c' hk hS' hacc=>?_))
 show wpAny _ A (load s.heap.objs.size >>= _) _ _ _
 refine abd (wpAny_load hS' (abl ?_))
 show Q acc'.toList _
 rw[hacc]
 exact hQ h' tk hk
theorem K3{x:Str}{t:Tok}{Q:Value->Shared->Prop}(hh:A.handled=none){I l:Addr}{items:List Value}{ys:List Str}(hne:l≠I)(hit:s.heap.IsRevIter I l ((items.toArray.size:Int)-1))(hl:s.heap.IsList l items.toArray)(hn:items.toArray.size<=sizeLine)(hi:StrsAre items.reverse ys)(hok:(ys.map (·.length)).sum+ys.length*x.length<=16777216)(hQ:∀h' t' k,(∀b o,b≠I->s.heap.get? b=some o->h'.get? b=some o)->Q (.str (Txt.join x ys) t') {s with heap:=h',toks:=k}):wpAny (model prog w) A (call (.builtin "str.join") [.str x t,.ref I]) Q E s:=by
 refine wpAny_call (codeAny_call_builtin F.slot_str_join.plain F.entry_str_join (F.slot_str_join.check _ _ _ _ _ _ _ _ (typeIs_str _ _ _) (F.args_str_join_2 _ _) ?_))
 rw[join_tree_other]
 refine abd (wpAny_typeOf hit.typeIs ?_)
 show wpAny _ A.in1 ((pyIter (.ref I)).tryCatch _ >>= λit=>collect it >>= λitems=>joinTail x items) _ _ s
 refine abd (wpAny_tryCatch (wpAny_pyIter_revIter hit ?_))
 refine abd (DV (A:=A.in1) hh hne hit hl hn λh' tk hk=>?_)
 obtain⟨lt,hv,ht⟩:=strsAre_values hi
 rw[hv]
 have ok:=joinOk_of hok
 subst ht
 unfold JoinOk at ok
 rw[Bool.not_eq_true']at ok
 have g:Gives (joinTail x (strValues lt)) (joinMade x lt):=by
  have g0:=gives_joinTail x lt ok
  cases lt with
  |nil=>exact g0
  |cons p r=>cases r with
   |nil=>exact g0
   |cons q r'=>exact g0
 exact g prog w A (wants Q E) _ (post_join lt ⟨joinFit_length ok,λt' k=>hQ h' t' k hk⟩)
end
section
variable{X:Cx}{e:Expr}
def DW(K:W.Frag)(tx:TE)(ta:TA):TE:=λσ H Q=>tx σ H λx H0=>∃z,x=.str z/\ta σ H0 λvs H1=>∃p,∃ys:List Str,vs=[.ref p]/\bw K H1 p (ys.map V.str)/\(ys.map (·.length)).sum+ys.length*z.length<=16777216/\Q (.str (Txt.join z ys.reverse)) H1
theorem yk:∀{its:List Value}{ys:List Str},Vals (ys.map V.str) its->StrsAre its ys
 |_,[],h=>by cases h;exact .nil
 |_,y::ys,h=>by cases h with|cons a b=>obtain⟨t,rfl⟩:=a;exact .cons _ _ (yk b)
theorem Ft{o:Expr}{apos p2 pos2 cpos:Pos}{tx:TE}{ta:TA}(hc:X.calm=true)(WN:Gl X "reversed")(hm2:X.mg "reversed"=none)(hx:PE X o tx)(ha:PA X [e] ta)(hbase:attributeBase o "join" X.env (eval o X.env)=eval o X.env:=by rfl)(hfew:((backTo cpos (starEach [.Call (.Name "reversed" p2) [e] [] pos2] X.env)).all (λx=>!x.1)&&(backToKw cpos (keywordEach [] X.env)).all (λx=>x.1.isSome)
   && decide (([.Call (.Name "reversed" p2) [e] [] pos2]:List Expr).length+([]:List Keyword).length+(if ([]:List Keyword).isEmpty then 0 else 1)<30))=true:=by rfl)(hline:(apos.endLine==cpos.line)=true:=by rfl)(h1:starEach [.Call (.Name "reversed" p2) [e] [] pos2] X.env=[(false,eval (.Call (.Name "reversed" p2) [e] [] pos2) X.env)]:=by rfl)(h2:starEach [e] X.env=[(false,eval e X.env)]:=by rfl):PE X (.Call (.Attribute o "join" apos) [.Call (.Name "reversed" p2) [e] [] pos2] [] cpos) (DW X.K tx ta):=by
 intro pins s σ H Q I h
 refine wpAny_Call_method_late hbase hfew hline rfl (cC (hx pins s σ H _ I h) λv s1 ⟨x,H0,I0,r0,z,hz,q0⟩=>?_)
 subst hz
 obtain⟨t1,t2⟩:=Kq I0 r0 (T:="str") rfl
 refine⟨"str","str.join",F.plainAttrs_str,F.slot_str_join,O,t1,t2,?_⟩
 rw[h1]
 refine Calls.callWith_builtin rfl (Calls.evalArgs_plain ?_)
 refine Calls.spliced_cons ?_
 refine aci (tX I0 WN hm2 boot_reversed ?_ (by decide) (by decide))
 refine acG (cC (ha pos2 pins s1 σ H0 _ I0 q0) λus s2 ⟨vs,H1,I1,r1,q1⟩=>?_) h2 rfl
 obtain⟨p,ys,rfl,hq,hok,q⟩:=q1
 obtain⟨u,rfl,ru⟩:=vals1 r1
 cases ru
 obtain⟨its,rv,pl,hz⟩:=I1.list hq
 have hlen:=rv.length
 refine call_reversed_list pl.isList ?_
 refine Calls.spliced_nil ?_
 have hnew:s2.heap.objs.size<=s2.heap.objs.size:=abf _
 have I2:Inv X pins σ H1 {s2 with heap:=s2.heap.push (revObj p ((its.toArray.size:Int)-1))}:=I1.kept (t':=s2.toks) λb o e=>abk _ e
 have hpl:p<s2.heap.objs.size:=by obtain⟨o,ho,_⟩:=pl.isList;exact abu ho
 have f0:=I1.vV hnew (I1.hok.fresh hnew)
 obtain⟨t0,rfl⟩:=r0
 refine K3 (s:={s2 with heap:=s2.heap.push (revObj p ((its.toArray.size:Int)-1))}) (items:=its) (I.ok.hd hc) (abK hpl) ⟨_,abE _ rfl,rfl,rfl⟩ (pl.isList.at λo e=>abk _ e) (by rw[abm];omega) (ys:=ys.reverse) (yk (by rw[List.map_reverse];exact rv.reverse)) (by rw[List.map_reverse,List.sum_reverse,List.length_reverse];exact hok) λh' t' tk hk=>?_
 have I4:=I2.turned (t':=tk) (h':=h') (it:=s2.heap.objs.size) hk f0.1 f0.2.1 f0.2.2.2.1 f0.2.2.2.2.1 f0.2.2.2.2.2
 exact⟨.str _,_,I4,⟨t',O⟩,q⟩
theorem DX(K:W.Frag)(h:X.K=K){o:Expr}{apos p2 pos2 cpos:Pos}{tx:TE}{ta:TA}(hc:X.calm=true)(WN:Gl X "reversed")(hm2:X.mg "reversed"=none)(hx:PE X o tx)(ha:PA X [e] ta)(hbase:attributeBase o "join" X.env (eval o X.env)=eval o X.env:=by rfl)(hfew:((backTo cpos (starEach [.Call (.Name "reversed" p2) [e] [] pos2] X.env)).all (λx=>!x.1)&&(backToKw cpos (keywordEach [] X.env)).all (λx=>x.1.isSome)
  && decide (([.Call (.Name "reversed" p2) [e] [] pos2]:List Expr).length+([]:List Keyword).length+(if ([]:List Keyword).isEmpty then 0 else 1)<30))=true:=by rfl)(hline:(apos.endLine==cpos.line)=true:=by rfl)(h1:starEach [.Call (.Name "reversed" p2) [e] [] pos2] X.env=[(false,eval (.Call (.Name "reversed" p2) [e] [] pos2) X.env)]:=by rfl)(h2:starEach [e] X.env=[(false,eval e X.env)]:=by rfl):PE X (.Call (.Attribute o "join" apos) [.Call (.Name "reversed" p2) [e] [] pos2] [] cpos) (DW K tx ta):=by subst h;exact Ft hc WN hm2 hx ha hbase hfew hline h1 h2
end
section
variable{prog:Program}{w:World}{A:Around}{E:Value->Shared->Prop}{s:Shared}{d it i ep:Nat}{od:Obj}{es:Array DictEntry}
theorem K4{Q:Value->Shared->Prop}(nd:(d==sysModules)=false)(g:s.heap.get? d=some od)(c:od.ExactDict)(dt:od.data=.dict es ep)(q:Q (.ref s.heap.objs.size) {s with heap:=s.heap.push {cls:=.type "dict_keyiterator",data:=.fields #[.ref d,.int 0 0,.int es.size 0,.int ep 0]}}):wpAny (model prog w) A (pyIter (.ref d)) Q E s:=by
 have ty:s.TypeIs (.ref d) "dict":=⟨od,g,c.1⟩
 refine wpAny_pyIter_slot ty PySem.F.slot_dict_iter (wpAny_call_entry PySem.F.slot_dict_iter ty PySem.F.entry_dict_iter ?_ (PySem.F.args_dict_iter_1 _))
 unfold Builtin.«dict.__iter__»;refine abd ?_
 unfold Builtin.Dict.dictSlotNone;refine abd (wpAny_notOrdered_dict ty ?_)
 show wpAny _ _ (pure (Value.ref d)) _ _ _;refine abl ?_
 show wpAny _ _ (Builtin.Dict.showsAll d >>= _) _ _ _
 unfold Builtin.Dict.showsAll;rw[abb (λz=>by rw[nd]at z;cases z)];refine abd (abl ?_)
 refine abd (wpAny_dictEntries g dt (abd (wpAny_dictEpoch g dt ?_)))
 refine abd (acD (abl ⟨_,rfl,"dict_keyiterator",_,⟨_,abE _ rfl,rfl⟩,ab7.lookup,?_⟩))
 simpa [rawInt]using q
theorem K5{Q:Option Value->Shared->Prop}(EU:s.heap.IsKeyIter it d i es.size ep)(g:s.heap.get? d=some od)(dt:od.data=.dict es ep)(hi:i<es.size)(q:∀h',h'.IsKeyIter it d (i+1) es.size ep->Heap.SameBut it s.heap h'->Q (some es[i].key) {s with heap:=h'}):wpAny (model prog w) A (pyNext (.ref it)) Q E s:=by
 obtain⟨o,ho,hc,hd⟩:=id EU
 unfold pyNext;refine abd (wpAny_attempt (wpAny_callSpecial?_slot (name:=("__next__":Str)) EU.typeIs ab7 (wpAny_call_entry ab7 EU.typeIs PySem.F.entry_dict_keyiterator_next ?_ (PySem.F.args_dict_keyiterator_next_1 _))))
 refine abd (abl (abd (abd ?_)))
 first|refine abd (wpAny_typeNameOfWhole_keyiter EU.typeIs (abl ?_))|refine abd (wpAny_typeNameOf_keyiter EU.typeIs (abl ?_))
 refine abd (wpAny_fieldsOf ho hd ?_);simp only[(show Builtin.Dict_items.ownsTuple "dict_keyiterator"=false by decide),abW,acm]
 show wpAny _ _ (if (Value.ref d==Value.none)=true then _ else _) _ _ _;rw[abb (λz:(Value.ref d==Value.none)=true=>nomatch z)]
 refine abd (abl (abd (wpAny_dictEntries g dt ?_)))
 rw[abb (by simp)];refine abd (abl (abd (wpAny_dictEpoch g dt ?_)))
 rw[abb (by simp)];refine abl ?_
 simp only[show ¬((i:Int)<0) by omega,acm,acL,Array.getElem?_eq_getElem hi]
 refine abd ?_
 first|refine abd (wpAny_typeNameOfWhole_keyiter EU.typeIs (abl ?_))|refine abd (wpAny_typeNameOf_keyiter EU.typeIs (abl ?_))
 refine abd (wpAny_isOneOf_keyiter EU.typeIs ?_);show wpAny _ _ (setField (.ref it) 1 (rawInt ((i:Int)+1)) >>= _) _ _ _
 refine abd (wpAny_setField ho hd (by simp) ?_)
 have it1:(s.heap.update it (Obj.mapFields (·.setIfInBounds 1 (rawInt ((i:Int)+1))))).IsKeyIter it d (i+1) es.size ep:=⟨_,acu _ ho (ach (ab2 hd _)),(Obj.cls_mapFields ..).trans hc,by rw[ab2 hd];simp[rawInt]⟩
 refine abd (wpAny_holding (abd (wpAny_isOneOf_keyiter (s:={s with heap:=s.heap.update it (Obj.mapFields (·.setIfInBounds 1 (rawInt ((i:Int)+1))))}) it1.typeIs ?_)))
 show wpAny _ _ (pure es[i].key) _ _ _;exact abl (abl ⟨_,rfl,abl (q _ it1 (Heap.SameBut.update ..))⟩)
theorem Ni{Q:Option Value->Shared->Prop}(hh:A.handled=none)(EU:s.heap.IsKeyIter it d i es.size ep)(g:s.heap.get? d=some od)(dt:od.data=.dict es ep)(hi:es.size<=i)(q:∀h',Heap.ExtBut it s.heap h'->Q none {s with heap:=h'}):wpAny (model prog w) A (pyNext (.ref it)) Q E s:=by
 obtain⟨o,ho,hc,hd⟩:=id EU
 unfold pyNext;refine abd (wpAny_attempt (wpAny_callSpecial?_slot (name:=("__next__":Str)) EU.typeIs ab7 (wpAny_call_entry ab7 EU.typeIs PySem.F.entry_dict_keyiterator_next ?_ (PySem.F.args_dict_keyiterator_next_1 _))))
 refine abd (abl (abd (abd ?_)))
 first|refine abd (wpAny_typeNameOfWhole_keyiter EU.typeIs (abl ?_))|refine abd (wpAny_typeNameOf_keyiter EU.typeIs (abl ?_))
 refine abd (wpAny_fieldsOf ho hd ?_);simp only[(show Builtin.Dict_items.ownsTuple "dict_keyiterator"=false by decide),abW,acm]
 show wpAny _ _ (if (Value.ref d==Value.none)=true then _ else _) _ _ _;rw[abb (λz:(Value.ref d==Value.none)=true=>nomatch z)]
 refine abd (abl (abd (wpAny_dictEntries g dt ?_)))
 rw[abb (by simp)];refine abd (abl (abd (wpAny_dictEpoch g dt ?_)))
 rw[abb (by simp)];refine abl ?_
 simp only[show ¬((i:Int)<0) by omega,acm,acL,Array.getElem?_eq_none hi]
 refine abd ?_
 first|refine abd (wpAny_typeNameOfWhole_keyiter EU.typeIs (abl ?_))|refine abd (wpAny_typeNameOf_keyiter EU.typeIs (abl ?_))
 show wpAny _ _ (setField (.ref it) 0 .none >>= _) _ _ _;refine abd (wpAny_setField ho hd (by simp) ?_)
 show wpAny _ _ (newExc (.type "StopIteration") [] >>= _) _ _ _;refine abd ?_
 simp only[newExc,newTuple];refine abd (acD ?_ (by size_fits))
 refine abd (m:=firstArgMember _ _) (wpAny_of_eq (a:=Value.none) (by first|rfl | (simp only[firstArgMember];rfl)) (acD ?_ (by size_fits)))
 simp only[raiseNew];refine abd (wpAny_handled ?_)
 rw[show A.in1.handled=none from hh];refine abd (abl (wpAny_throw ?_))
 refine abd (wpAny_isInstance (T:="StopIteration") (b:=true) ⟨_,abE _ rfl,rfl⟩ isSubtype_stop (abl ?_))
 exact q _ (((Heap.SameBut.update ..).extBut.push _).push _)
end
theorem AY{α β:Type}{F:α->β->Prop}:∀{xs:List α}{ys:List β},Paired F xs ys->∀(i:Nat) x,xs[i]?=some x->∃y,ys[i]?=some y/\F x y
 |_,_,.nil,i,x,h=>by simp at h
 |_,_,.cons a r,0,x,h=>by cases h;exact⟨_,rfl,a⟩
 |_,_,.cons a r,i+1,x,h=>AY r i x h
section
variable{P:Program}{w:World}{K:Type}[DecidableEq K]
def dX(Z:ki P w K)(hl:Z.f9+1<=8)(a:Addr)(kvs:List (N3 K))(o:Obj):HO:=.ext λh=>DP Z hl a kvs h/\h.get? a=some o
def WO(Z:ki P w K)(hl:Z.f9+1<=8)(a:Addr)(kvs:List (N3 K))(o:Obj):It :=
 ⟨λi H=>H a=some (dX Z hl a kvs o)/\∃e,kvs[i]?=some e,λi H x H'=>H'=H/\∃e,kvs[i]?=some e/\x=.ref e.2.1,λi H=>H a=some (dX Z hl a kvs o)/\kvs.length<=i⟩
variable{Z:ki P w K}{hl:Z.f9+1<=8}
theorem Pb{X:Cx}{K:Type}[DecidableEq K]{Z:ki X.prog X.w K}{hl:Z.f9+1<=8}{pins:List (Addr×Obj)}{σ:St}{H:Hp}{s:Shared}{a:Addr}{kvs:List (N3 K)}{o:Obj}(I:Inv X pins σ H s)(d:H a=some (dX Z hl a kvs o)):DP Z hl a kvs s.heap/\s.heap.get? a=some o :=
 (show cW X.prog X.w H s.heap a (dX Z hl a kvs o) from I.hok a _ d).1
theorem yl{h:Heap}{a:Addr}{kvs:List (N3 K)}{o:Obj}{es:Array DictEntry}{ep:Nat}(q:DP Z hl a kvs h)(g:h.get? a=some o)(dt:o.data=.dict es ep):es.size=kvs.length/\∀(i:Nat)(hi:i<es.size)(e:N3 K),kvs[i]?=some e->es[i].key=.ref e.2.1:=by
 obtain⟨_,_,xs,r,o',es',VA,g',_,dt',he,_⟩:=q
 rw[g]at g';cases g'
 rw[dt]at dt';cases dt'
 have e1:es.size=xs.length:=size_of_entries he
 refine⟨by rw[e1];exact(ab8 r).symm,λi hi e h1=>?_⟩
 obtain⟨x,hx,q⟩:=AY r i e h1
 have e2:=entry_at he i
 rw[hx,Array.getElem?_eq_getElem hi]at e2
 have e3:es[i]=entryOfKey (vf Z hl) x:=abH e2
 rw[e3,q.2.1]
 rfl
theorem Nj{Fr:W.Frag}{tg:Expr}(a it:Addr)(kvs:List (N3 K))(o:Obj)(es:Array DictEntry)(ep:Nat)(dt:o.data=.dict es ep):Turn P w Fr tg (WO Z hl a kvs o) [it] it (λi h=>h.IsKeyIter it a i es.size ep) where
 mem:=by simp
 obj:=λi h st b hb=>by
  obtain rfl:b=it:=by simpa using hb
  obtain⟨x,e,c,d⟩:=st
  exact⟨x,e,λv z=>by rw[d]at z;cases z⟩
 keep:=λi h h' st k=>by
  obtain⟨x,e,c,d⟩:=st
  exact⟨x,k it (by simp) x e,c,d⟩
 item:=by
  intro X hP hw hK hc i pins s σ H E I hf st hg
  subst hP hw
  obtain⟨hd,e,he⟩:=hg
  obtain⟨nd,g⟩:=Pb I hd
  obtain⟨hsz,hkey⟩:=yl nd g dt
  obtain⟨f0,f1,f2,f3,f4,f5⟩:=hf it (by simp)
  have hi:i<es.size:=by rw[hsz];exact(abi.mp he).1
  refine K5 st g dt hi λh' st' sb=>?_
  have I1:Inv X pins σ H {s with heap:=h'}:=I.turned (t':=s.toks) (λb o hb e=>(sb.2 b hb).trans e) f0 f1 f3 f4 f5
  obtain⟨x,ex,cx,dx⟩:=id st'
  refine⟨_,rfl,AH (s:={s with heap:=h'}) ex cx dx (by decide) ⟨.ref e.2.1,H,I1,?_,⟨rfl,e,he,rfl⟩,st',λb hb=>(hf b hb).1⟩⟩
  exact hkey i hi e he
 done:=by
  intro X hP hw hK hc i pins s σ H E I hf st hg
  subst hP hw
  obtain⟨hd,he⟩:=hg
  obtain⟨nd,g⟩:=Pb I hd
  obtain⟨hsz,hkey⟩:=yl nd g dt
  obtain⟨f0,f1,f2,f3,f4,f5⟩:=hf it (by simp)
  exact Ni (I.ok.hd hc) st g dt (by omega) λh' eb=>⟨rfl,I.turned (t':=s.toks) (λb o hb e=>eb b o hb e) f0 f1 f3 f4 f5⟩
 self:=λ_ _ _ _ _ st h=>wpAny_pyIter_keyiter st h
end
section
variable{X:Cx}{K:Type}[DecidableEq K]{F:W.Frag}{Z:ki X.prog X.w K}
def Pc{P:Program}{w:World}{K:Type}[DecidableEq K]{F:W.Frag}{Z:ki P w K}(Y:nK F Z)(hl:Z.f9+1<=8)(td:TE):TI:=λσ H R=>td σ H λx H1=>∃a kvs,x=.ref a/\Nd Y hl H1 a kvs/\∀o,R (WO Z hl a kvs o) (upd H1 a (dX Z hl a kvs o))
theorem Nk{tg l:Expr}{td:TE}(Y:nK F Z)(hl:Z.f9+1<=8)(hF:X.K=F)(hp:PE X l td):PI X tg l (Pc Y hl td):=by
 intro pins s σ H R I h
 refine cC (hp pins s σ H _ I h) λv s1 ⟨x,H1,I1,r1,a,kvs,e,d,q⟩=>?_
 subst e
 cases r1
 have nd:DP Z hl a kvs s1.heap:=(show cW X.prog X.w H1 s1.heap a (dN Z hl a kvs) from I1.hok a _ d.ob).1
 obtain⟨z,y,xs,r,o,es,ep,g,c,dt,rest⟩:=id nd
 refine K4 y g c dt ?_
 have ok:cW X.prog X.w (upd H1 a (dX Z hl a kvs o)) s1.heap a (dX Z hl a kvs o):=by
  refine⟨⟨nd,g⟩,⟨o,g⟩,λg1 g2 q k=>?_⟩
  obtain⟨⟨z,y,xs,r,o',es,ep,h1,h2,h3,h4,h5⟩,h6⟩:=q
  exact⟨⟨z,y,xs,r,o',es,ep,k _ h1,h2,h3,h4,h5⟩,k _ h6⟩
 have I2:Inv X pins σ (upd H1 a (dX Z hl a kvs o)) {s1 with heap:=s1.heap,toks:=s1.toks}:=I1.write (x:=a) (e:=a) (by rw[d.ob];exact True.intro) (.inl rfl) (λb u _ e=>e) ⟨o,g⟩ ok
 refine⟨s1.heap.objs.size,[s1.heap.objs.size],_,_,_,rfl,I2.kept (t':=s1.toks) λb o e=>abk _ e,Nj a _ kvs o es ep dt,⟨_,abE _ rfl,rfl,rfl⟩,λb hb=>?_,q o⟩
 obtain rfl:b=s1.heap.objs.size:=by simpa using hb
 exact I2.vV (abf _) (I2.hok.fresh (abf _))
end
theorem DY{X:Cx}{P:Program}{w:World}{K:Type}[DecidableEq K]{F:W.Frag}{Z:ki P w K}{tg l:Expr}{td:TE}(Y:nK F Z)(hl:Z.f9+1<=8)(hP:X.prog=P)(hw:X.w=w)(hF:X.K=F)(hp:PE X l td):PI X tg l (Pc Y hl td):=by
 subst hP hw;exact Nk Y hl hF hp
theorem AZ{P:Program}{w:World}{K:Type}[DecidableEq K]{Z:ki P w K}{hl:Z.f9+1<=8}{a:Addr}{kvs:List (N3 K)}{o:Obj}{g:TG}{tt:TT}{te:TE}{Q:VK}{D:Addr}{τ:St}{H:Hp}(Pv:Nat->List V->St->Hp->Prop)(h0:Pv 0 [] τ (upd H D (.lst [])))(hl':∀i ys τ H,i<=kvs.length->Pv i ys τ H->H a=some (dX Z hl a kvs o)/\H D=some (.lst ys))(hs:∀i e ys τ H,kvs[i]?=some e->Pv i ys τ H->g (.ref e.2.1) τ H λτ2 H2=>tt τ2 H2 λb H3=>if b=true then te τ2 H3 λy H4=>H4 D=some (.lst ys)/\ys.length<sizeLine/\Pv (i+1) (ys++[y]) τ2 (upd H4 D (.lst (ys++[y]))) else Pv (i+1) ys τ2 H3)(hd:∀ys τ H,Pv kvs.length ys τ H->Q (.ref D) H):yb (WO Z hl a kvs o) g tt te Q D τ H:=by
 refine⟨λi m ys τ H=>m=kvs.length-i/\i<=kvs.length/\Pv i ys τ H,⟨kvs.length,by simp,abO _,h0⟩,?_⟩
 rintro i m ys τ H ⟨rfl,hi,p⟩
 obtain⟨q,hD⟩:=hl' i ys τ H hi p
 refine⟨hD,?_⟩
 by_cases hlt:i<kvs.length
 ·refine .inr ⟨⟨q,kvs[i],aby hlt⟩,Pv (i+1),λzs σ' H' p'=>⟨kvs.length-(i+1),by omega,rfl,hlt,p'⟩,λx H' y=>?_⟩
  obtain⟨e,e1,h1,h2⟩:=y
  subst e h2
  exact hs i e1 ys τ _ h1 p
 ·have e:i=kvs.length:=by omega
  subst e
  exact .inl ⟨⟨q,abf _⟩,hd ys τ H p⟩
def Tz(K:W.Frag):List V->Hp->VK->Prop:=λxs H Q=>∃(p:Addr)(ns:List Nat),xs=[.ref p]/\bw K H p (ns.map λn:Nat=>V.int n)/\ns≠[]/\∀n:Nat,n∈ns->(∀m∈ns,m<=n)->Q (.int n) H
theorem Ip{X:Cx}(hc:X.calm=true):gK X (.builtin "max") (Tz X.K):=by
 intro pins s σ H xs us Q I r h
 obtain⟨p,ns,rfl,hq,hne,q⟩:=h
 obtain⟨u,rfl,ru⟩:=vals1 r
 cases ru
 obtain⟨its,rv,pl,hz⟩:=I.list hq
 have hlen:=rv.length
 rw[abg]at hlen
 have hpl:p<s.heap.objs.size:=by obtain⟨o,ho,_⟩:=pl.isList;exact abu ho
 have hpos:=List.length_pos_iff.mpr hne
 refine call_max_walk (wpAny_pyIter_list pl.isList ⟨s.heap.objs.size,_,_,_,_,_,λi j=>decide (((ns.getD i 0:Nat):Int)>((ns.getD j 0:Nat):Int)),rfl,Walks.list (A:=X.A.in1) (show X.A.in1.handled=none from I.ok.hd hc) s.heap.objs.size p (abK hpl) its.toArray,⟨⟨_,abE _ rfl,rfl,rfl⟩,pl.isList.at λo e=>abk _ e⟩,?_,?_,?_,?_⟩)
 ·intro b hb
  have e:b=s.heap.objs.size\/b=p:=by simpa using hb
  show b<(s.heap.push _).objs.size
  rw[ack]
  rcases e with rfl|rfl
  ·exact acO _
  ·exact Nat.lt_succ_of_lt hpl
 ·simp;omega
 ·exact CmpOf.ints_gt (λi=>((ns.getD i 0:Nat):Int)) λi v hv=>ju rv (by simpa using hv)
 ·intro v h' tk hv hk
  have f0:=I.vV (abf s.heap.objs.size) (I.hok.fresh (abf _))
  have I2:Inv X pins σ H {s with heap:=s.heap.push {cls:=.type "list_iterator",data:=.fields #[.ref p,rawInt 0]}}:=I.kept (t':=s.toks) λb o e=>abk _ e
  have I3:=I2.turned (h':=h') (t':=tk) (it:=s.heap.objs.size) (λb o hb e=>hk b o (by simpa using hb) e) f0.1 f0.2.1 f0.2.2.2.1 f0.2.2.2.2.1 f0.2.2.2.2.2
  obtain⟨h1,h2⟩:=argBest_gt (λi=>((ns.getD i 0:Nat):Int)) (its.toArray.size-1)
  rw[abm]at h1 h2
  rw[abm]at hv
  generalize argBest (λi j=>decide (((ns.getD i 0:Nat):Int)>((ns.getD j 0:Nat):Int))) (its.length-1)=b at h1 h2 hv
  obtain⟨t,rfl⟩:=ju rv (i:=b) (by rw[←hv];simp)
  have hb:b<ns.length:=by omega
  refine⟨.int (ns.getD b 0:Nat),H,I3,⟨t,O⟩,q _ ?_ λm hm=>?_⟩
  ·rw[acK,aby hb];exact List.getElem_mem hb
  ·obtain⟨j,hj,rfl⟩:=List.getElem_of_mem hm
   have:=h2 j (by omega)
   have e:ns.getD j 0=ns[j]:=by rw[acK,aby hj];rfl
   rw[e]at this
   omega
theorem A0{X:Cx}(K:W.Frag)(h:X.K=K)(hc:X.calm=true):gK X (.builtin "max") (Tz K):=by subst h;exact Ip hc
section
variable{X:Cx}
end
section
variable{X:Cx}
end
open PySem
theorem rdT{A B:Prop}{b:Bool}(hb:b=true)(h:A):if b=true then A else B:=by rw[abe hb];exact h
theorem rdF{A B:Prop}{b:Bool}(hb:b=false)(h:B):if b=true then A else B:=by rw[abb (by rw[hb];decide)];exact h
theorem VH{p A B:Prop}[Decidable p](hp:p)(h:A):if decide p=true then A else B:=rdT (abo hp) h
theorem Iq{p A B:Prop}[Decidable p](hp:¬p)(h:B):if decide p=true then A else B:=rdF (abB hp) h
theorem TF{p A B:Prop}[Decidable p](hp:p)(h:B):if (!decide p)=true then A else B:=rdF (by rw[abo hp];rfl) h
theorem Ql{p A B:Prop}[Decidable p](hp:¬p)(h:A):if (!decide p)=true then A else B:=rdT (by rw[abB hp];rfl) h
theorem rdI{A B:Prop}{a b:Int}(hp:a=b)(h:A):if decide (V.int a=V.int b)=true then A else B:=VH (by rw[hp]) h
theorem WQ{A B:Prop}{a b:Int}(hp:¬a=b)(h:B):if decide (V.int a=V.int b)=true then A else B:=Iq (λe=>hp (V.int.inj e)) h
theorem rdJ{A B:Prop}{a b:Int}(hp:a=b)(h:B):if (!decide (V.int a=V.int b))=true then A else B:=TF (by rw[hp]) h
theorem VI{A B:Prop}{b:Bool}(h1:b=true->A)(h2:b=false->B):if b=true then A else B:=by
 cases b with
 |true=>exact j9 (h1 rfl)
 |false=>exact cJ (h2 rfl)
theorem TL{p A B:Prop}[Decidable p](h1:p->A)(h2:¬p->B):if decide p=true then A else B:=by
 by_cases h:p
 ·exact VH h (h1 h)
 ·exact Iq h (h2 h)
theorem WR{p A B:Prop}[Decidable p](h1:¬p->A)(h2:p->B):if (!decide p)=true then A else B:=by
 by_cases h:p
 ·exact TF h (h2 h)
 ·exact Ql h (h1 h)
theorem WS{A B:Prop}{a b:Int}(h1:a=b->A)(h2:¬a=b->B):if decide (V.int a=V.int b)=true then A else B:=by
 by_cases h:a=b
 ·exact rdI h (h1 h)
 ·exact WQ h (h2 h)
section
variable{prog:Program}{w:World}{A:Around}{E:Value->Shared->Prop}{s:Shared}
end
section
variable{X:Cx}{e:Expr}{te:TE}
end
section
variable{prog:Program}{w:World}{A:Around}{E:Value->Shared->Prop}{s:Shared}
end
def Qm(h₀:Heap)(H:Hp)(h:Heap)(e:Addr)(vs:Array Value):Option Value->Prop
 |none=>vs[1]?=some .none/\vs[2]?=some .none
 |some v=>∃T oT ts,vs[1]?=some (.ref T)/\H T=none/\h₀.get? T=none/\T≠e/\h.get? T=some oT/\oT.data=.fields ts/\ts[3]?=some v/\vs[2]?=some .none
theorem Qm.cx{h₀:Heap}{H:Hp}{h:Heap}{e:Addr}{vs:Array Value}{fl:Option Value}(x:Qm h₀ H h e vs fl):vs[2]?=some .none:=by
 cases fl with
 |none=>exact x.2
 |some v=>obtain⟨_,_,_,_,_,_,_,_,_,_,z⟩:=x;exact z
structure Exc(h₀:Heap)(H:Hp)(h:Heap)(e:Addr)(C:Value)(od:Option Addr)(fl:Option Value):Prop where
 fr:H e=none
 nw:h₀.get? e=none
 tr:∃oe vs,h.get? e=some oe/\oe.cls=C/\oe.dict=od/\oe.data=.fields vs/\Qm h₀ H h e vs fl
structure Mv(fs ch:List Addr)(h h':Heap):Prop where
 keep:∀b o,b∉ch->b∉fs->h.get? b=some o->h'.get? b=some o
 slot:∀b o,b∉ch->h.get? b=some o->∃sl,h'.get? b=some {o with slots:=sl}
 there:∀b o,h.get? b=some o->∃o',h'.get? b=some o'
theorem Mv.trans{fs ch:List Addr}{h h1 h2:Heap}(a:Mv fs ch h h1)(b:Mv fs ch h1 h2):Mv fs ch h h2 :=
 ⟨λc o n1 n2 q=>b.keep c o n1 n2 (a.keep c o n1 n2 q),λc o n q=>let ⟨sl,q1⟩:=a.slot c o n q;let ⟨sl2,q2⟩:=b.slot c _ n q1;⟨sl2,q2⟩,λc o q=>let ⟨o1,q1⟩:=a.there c o q;b.there c o1 q1⟩
theorem Mv.mono{fs fs' ch ch':List Addr}{h h':Heap}(a:Mv fs ch h h')(hf:∀b∈fs,b∈fs')(hc:∀b∈ch,b∈ch'):Mv fs' ch' h h' :=
 ⟨λc o n1 n2 q=>a.keep c o (λz=>n1 (hc c z)) (λz=>n2 (hf c z)) q,λc o n q=>a.slot c o (λz=>n (hc c z)) q,a.there⟩
theorem Mv.refl{fs ch:List Addr}{h:Heap}:Mv fs ch h h:=⟨λ_ _ _ _ q=>q,λ_ o _ q=>⟨o.slots,q⟩,λ_ o q=>⟨o,q⟩⟩
theorem Mv.of_slots{fs ch:List Addr}{h h':Heap}(x:Heap.SlotsOnly fs h h'):Mv fs ch h h' :=
 ⟨λb o _ n q=>(x.2.1 b n).trans q,λb o _ q=>x.2.2 b o q,λb o q=>let ⟨sl,e⟩:=x.2.2 b o q;⟨_,e⟩⟩
theorem Mv.push{fs ch:List Addr}{h:Heap}(o:Obj):Mv fs ch h (h.push o) :=
 ⟨λb u _ _ q=>abk _ q,λb u _ q=>⟨u.slots,abk _ q⟩,λb u q=>⟨u,abk _ q⟩⟩
theorem Mv.upd{fs ch:List Addr}{h:Heap}{a:Addr}{f:Obj->Obj}{o:Obj}(ha:a∈ch)(q:h.get? a=some o)(hf:(f o).isFreed=false):Mv fs ch h (h.update a f):=by
 have ne:∀b,b∉ch->a≠b:=λb n z=>n (z▸ha)
 refine⟨λb u n _ e=>(abX _ _ (ne b n)).trans e,λb u n e=>⟨u.slots,(abX _ _ (ne b n)).trans e⟩,λb u e=>?_⟩
 by_cases hb:a=b
 ·subst hb;exact⟨_,acu _ q hf⟩
 ·exact⟨u,(abX _ _ hb).trans e⟩
theorem Mv.frames{fs ch:List Addr}{h h' base:Heap}(x:Mv fs ch h h'){l:List Env}(hl:h.FunFrames base l)(hc:∀b∈ch,∀o,h.get? b=some o->∃vs,o.data=.fields vs):h'.FunFrames base l :=
 hl.of_keeps λb o q nf=>by
  have n:b∉ch:=λz=>let ⟨vs,e⟩:=hc b z o q;nf vs e
  obtain⟨sl,e⟩:=x.slot b o n q
  exact⟨_,e,O⟩
section
variable{M:Model}{A:Around}{E:Value->Shared->Prop}{s:Shared}{base:Heap}{env:Env}{outer:List Env}{L e:Addr}{Q:Unit->Shared->Prop}
theorem A3{oe:Obj}{vs:Array Value}{head:Value}{hn:Bool}(hfr:A.frames=some (env::outer))(hl:s.heap.FunFrames base (env::outer))(hf:env.frame=some L)(he:s.heap.get? e=some oe)(hd:oe.data=.fields vs)(hsz:1<vs.size)(k:∀h' T oT ts,Mv (frs (env::outer)) [e] s.heap h'->s.heap.objs.size<=T->T≠e->h'.get? e=some (oe.mapFields (·.setIfInBounds 1 (.ref T)))->h'.get? T=some oT->oT.data=.fields ts->ts[3]?=some (rawInt L)->Q () {s with heap:=h'}):wpAny M A (do let a ←frameOf env;let pl ←entryPlaceOf L hn;let b ←EntryCells.newEntry head a .none (rawInt L) .none pl;setField (.ref e) 1 b) Q E s:=by
 have hnf:e∉(env::outer).filterMap (·.frame):=λz=>by
  obtain⟨_,o,ho,nf⟩:=hl.mem z
  rw[he]at ho
  cases ho
  exact nf vs hd
 refine abd (wpAny_frameOf_fun hfr hl hf λh1 s1=>abd (wpAny_entryPlaceOf λpl hpl=>?_))
 unfold EntryCells.newEntry newFields
 refine abd (acD ?_ (hpl.sizeOk5 _ _ _ _ _))
 have e1:h1.get? e=some oe:=(s1.2.1 e hnf).trans he
 have e2:=λo=>abk (h:=h1) o e1
 refine wpAny_setField (e2 _) hd hsz ?_
 have hne:h1.objs.size≠e:=Nat.ne_of_gt (abu e1)
 have fd:=ab2 hd (·.setIfInBounds 1 (Value.ref h1.objs.size))
 have m1:Mv (frs (env::outer)) [e] s.heap h1:=Mv.of_slots s1
 refine k _ h1.objs.size _ _ ((m1.trans (Mv.push _)).trans (Mv.upd (abh.mpr rfl) (e2 _) (ach fd))) ?_ hne (acu _ (e2 _) (ach fd)) ((abX _ _ (ab9 hne)).trans (abE h1 rfl)) rfl ?_
 ·rw[s1.1];exact abf _
 ·first | (simp;done) | (rcases hpl with rfl|⟨_,_,_,_,_,_,_,rfl⟩<;>simp)
end
section
variable{M:Model}{A:Around}{E:Value->Shared->Prop}{s:Shared}{base h₀:Heap}{H:Hp}{env:Env}{outer:List Env}{L e:Addr}{C:Value}{od:Option Addr}{Q:Unit->Shared->Prop}
def Qn(h₀:Heap)(H:Hp)(ch:List Addr):Prop:=∀b∈ch,H b=none/\h₀.get? b=none
theorem ym(oe:Obj)(f:Array Value->Array Value):(oe.mapFields f).cls=oe.cls:=Obj.cls_mapFields _ _
theorem t9(oe:Obj)(f:Array Value->Array Value):(oe.mapFields f).dict=oe.dict:=by
 obtain⟨c,d,dt,sl⟩:=oe
 cases dt<;>rfl
theorem DZ{fl:Option Value}(hfr:A.frames=some (env::outer))(hl:s.heap.FunFrames base (env::outer))(hf:env.frame=some L)(x:Exc h₀ H s.heap e C od fl)(hfl:fl=none\/fl=some .none\/fl=some (rawInt L))(ht:∀b o,h₀.get? b=some o->∃o',s.heap.get? b=some o')(hH:∀b,s.heap.objs.size<=b->H b=none)(k:∀h' ch,Qn h₀ H ch->Mv (frs (env::outer)) ch s.heap h'->Exc h₀ H h' e C od (some (rawInt L))->Q () {s with heap:=h'}):wpAny M A (noteFrame (.ref e) env) Q E s:=by
 obtain⟨fr,nw,oe,vs,he,hc,hdi,hd,fa⟩:=x
 have TM:∀T,s.heap.get? T=none->h₀.get? T=none:=λT hT=>by
  cases q:h₀.get? T with
  |none=>rfl
  |some o=>obtain⟨o',z⟩:=ht T o q;rw[hT]at z;cases z
 unfold noteFrame
 simp only[hf]
 rcases hfl with rfl|rfl|rfl
 ·obtain⟨h1,Qo⟩:=fa
  refine abd (wpAny_field he hd h1 ?_)
  rw[abb (by decide)]
  have hsz:=(acq.mp h1).1
  refine A3 hfr hl hf he hd hsz λh' T oT ts m zT hne e1 eT dT t3=>?_
  have nT:s.heap.get? T=none:=acw zT
  have hT:H T=none:=hH T zT
  refine k h' [e] (λb hb=>?_) m ⟨fr,nw,_,_,e1,(ym _ _).trans hc,(t9 _ _).trans hdi,ab2 hd _,T,oT,ts,by simp[hsz],hT,TM T nT,hne,eT,dT,t3,by rw[acv (by decide)];exact Qo⟩
  rw[abh.mp hb]
  exact⟨fr,nw⟩
 ·obtain⟨T0,o0,t0,h1,n0,w0,Pd,q0,d0,z3,Qo⟩:=fa
  refine abd (wpAny_field he hd h1 ?_)
  rw[abe (show(Value.ref T0 != Value.none)=true from by simp)]
  refine abd (wpAny_field q0 d0 z3 ?_)
  rw[abb (show ¬((Value.none==rawInt L)=true) from by simp[rawInt])]
  have z3s:=(acq.mp z3).1
  refine abd (wpAny_setField q0 d0 z3s ?_)
  have hsz:=(acq.mp h1).1
  have m0:Mv (frs (env::outer)) [e,T0] s.heap (s.heap.update T0 (Obj.mapFields (·.setIfInBounds 3 Value.none))) :=
   Mv.upd (abC _ (abh.mpr rfl)) q0 (ach (ab2 d0 _))
  have R8:(s.heap.update T0 (Obj.mapFields (·.setIfInBounds 3 Value.none))).get? e=some oe:=(abX _ _ Pd).trans he
  have hl1:(s.heap.update T0 (Obj.mapFields (·.setIfInBounds 3 Value.none))).FunFrames base (env::outer):=m0.frames hl λb hb o q=>by
   rcases abw.mp hb with rfl|hb
   ·rw[he]at q;cases q;exact⟨vs,hd⟩
   ·rw[abh.mp hb,q0]at q;cases q;exact⟨t0,d0⟩
  have zs:(s.heap.update T0 (Obj.mapFields (·.setIfInBounds 3 Value.none))).objs.size=s.heap.objs.size:=Heap.size_after_update ..
  refine A3 (s:={s with heap:=s.heap.update T0 (Obj.mapFields (·.setIfInBounds 3 Value.none))}) hfr hl1 hf R8 hd hsz λh' T oT ts m zT hne e1 eT dT t3=>?_
  have zT:s.heap.objs.size<=T:=by rw[←zs];exact zT
  have nT:s.heap.get? T=none:=acw zT
  refine k h' [e,T0] (λb hb=>?_) (m0.trans (m.mono (λ_ z=>z) λb z=>by rw[abh.mp z];exact abN)) ⟨fr,nw,_,_,e1,(ym _ _).trans hc,(t9 _ _).trans hdi,ab2 hd _,T,oT,ts,by simp[hsz],hH T zT,TM T nT,hne,eT,dT,t3,by rw[acv (by decide)];exact Qo⟩
  rcases abw.mp hb with rfl|hb
  ·exact⟨fr,nw⟩
  ·rw[abh.mp hb];exact⟨n0,w0⟩
 ·obtain⟨T0,o0,t0,h1,n0,w0,Pd,q0,d0,z3,Qo⟩:=fa
  refine abd (wpAny_field he hd h1 ?_)
  rw[abe (show(Value.ref T0 != Value.none)=true from by simp)]
  refine abd (wpAny_field q0 d0 z3 ?_)
  rw[abe (show(rawInt L==rawInt L)=true from by simp)]
  refine abl ?_
  exact k s.heap [] (λb hb=>nomatch hb) Mv.refl ⟨fr,nw,oe,vs,he,hc,hdi,hd,T0,o0,t0,h1,n0,w0,Pd,q0,d0,z3,Qo⟩
theorem yo{v:Value}(x:Exc h₀ H s.heap e C od (some v))(k:∀h' ch,Qn h₀ H ch->Mv [] ch s.heap h'->Exc h₀ H h' e C od (some .none)->Q () {s with heap:=h'}):wpAny M A (setFlight (.ref e) none) Q E s:=by
 obtain⟨fr,nw,oe,vs,he,hc,hdi,hd,T,oT,ts,h1,n0,w0,Pd,q0,d0,z3,Qo⟩:=x
 have hsz:=(acq.mp z3).1
 refine wpAny_setFlight_none he hd h1 q0 d0 hsz (k _ [T] (λb hb=>?_) (Mv.upd (abh.mpr rfl) q0 (ach (ab2 d0 _))) ⟨fr,nw,oe,vs,(abX _ _ Pd).trans he,hc,hdi,hd,T,_,_,h1,n0,w0,Pd,acu _ q0 (ach (ab2 d0 _)),ab2 d0 _,by simp[hsz],Qo⟩)
 rw[abh.mp hb]
 exact⟨n0,w0⟩
theorem Ir{fl:Option Value}(hfr:A.frames=some (env::outer))(hl:s.heap.FunFrames base (env::outer))(hf:env.frame=some L)(x:Exc h₀ H s.heap e C od fl)(hfl:fl=none\/fl=some .none\/fl=some (rawInt L))(ht:∀b o,h₀.get? b=some o->∃o',s.heap.get? b=some o')(hH:∀b,s.heap.objs.size<=b->H b=none)(k:∀h' ch,Qn h₀ H ch->Mv (frs (env::outer)) ch s.heap h'->Exc h₀ H h' e C od (some .none)->Q () {s with heap:=h'}):wpAny M A (leaving env (.ref e)) Q E s:=by
 unfold leaving
 refine abd (DZ hfr hl hf x hfl ht hH λh1 c1 k1 m1 x1=>?_)
 refine yo x1 λh2 c2 k2 m2 x2=>?_
 refine k h2 (c1++c2) (λb hb=>(abp.mp hb).elim (k1 b) (k2 b)) ((m1.mono (λ_ z=>z) λb z=>ab0 _ z).trans (m2.mono (λb z=>nomatch z) λb z=>abD _ z)) x2
end
section
variable{X:Cx}{pins:List (Addr×Obj)}{σ σ':St}{H H':Hp}{s s1:Shared}
theorem Inv.mv{h':Heap}{ch:List Addr}(I:Inv X pins σ H s)(J:Inv X pins σ' H' s1)(m:Mv (frs X.stack) ch s1.heap h')(hc:∀b∈ch,H' b=none/\s.heap.get? b=none):Inv X pins σ' H' {s1 with heap:=h'}:=by
 have MF:∀b o,s.heap.get? b=some o->b∉ch:=λb o e z=>by rw[(hc b z).2]at e;cases e
 have n0:∀b o,X.s₀.heap.get? b=some o->b∉X.ex->b∉ch:=λb o e hx=>let ⟨o',e'⟩:=I.base.there b o e hx;MF b o' e'
 have Vy:∀b o,X.s₀.heap.get? b=some o->b≠X.env.locals:=λb o e=>abK (abA (abu e) I.ok.above)
 have nst:∀b,b≠X.env.locals->b∉X.fs->b∉frs X.stack:=λb h1 h2 z=>(abw.mp (I.qx b z)).elim h1 h2
 have cellK:∀x c,X.env.cells.lookup x=some c->∀v,s1.heap.IsCell c v->Heap.IsCell h' c v:=λx c e v ⟨o,ho,hd⟩=>by
  obtain⟨v0,o0,e0,_⟩:=I.cell x c e
  obtain⟨sl,q⟩:=m.slot c o (MF c o0 e0) ho
  exact⟨_,q,hd⟩
 have WT:∃o,s.heap.get? X.env.locals=some o:=let ⟨m',⟨o,_,_,ho,_⟩,_⟩:=I.loc;⟨o,ho⟩
 obtain⟨oL,eL⟩:=WT
 refine⟨J.ok,J.os,J.bare,⟨λb o e n hb hx=>m.keep b o (n0 b o e hx) (nst b (Vy b o e) hb) (J.base.keep b o e n hb hx),λb o e n hb hx=>?_,J.base.free,λb o e hx=>?_,J.base.tups,J.base.tU,J.base.vU⟩,?_,λx c e=>?_,J.free,J.iQ,λp hp=>?_,λa o e=>?_,J.len⟩
 ·obtain⟨sl,e1⟩:=J.base.slot b o e n hb hx
  obtain⟨sl2,e2⟩:=m.slot b _ (n0 b o e hx) e1
  exact⟨sl2,e2⟩
 ·obtain⟨o',e1⟩:=J.base.there b o e hx
  exact m.there b o' e1
 ·obtain⟨mm,⟨o,es,ep,ho,r⟩,hl⟩:=J.loc
  obtain⟨sl,q⟩:=m.slot _ o (MF _ oL eL) ho
  refine⟨mm,⟨_,es,ep,q,r⟩,λi x v e1 e2 e3=>?_⟩
  obtain⟨u,r1,l⟩:=hl i x v e1 e2 e3
  refine⟨u,r1,?_⟩
  rcases l with l|⟨k,c,e,z⟩
  ·exact .inl l
  ·exact .inr ⟨k,c,e,cellK x c e _ z⟩
 ·obtain⟨v,z⟩:=J.cell x c e
  exact⟨v,cellK x c e v z⟩
 ·obtain⟨e0,_,_,_,_⟩:=I.pin p hp
  obtain⟨e,n,ne,nf,d⟩:=J.pin p hp
  exact⟨m.keep p.1 p.2 (MF _ _ e0) (nst _ ne nf) e,n,ne,nf,d⟩
 ·refine(J.hok a o e).stay (λb u hb q=>m.keep b u (λz=>?_) (λz=>?_) q) (λ_ q=>q) λ_ _ q=>q
  ·have:=(hc b z).1
   rcases hb with rfl|hb
   ·rw[this]at e;cases e
   ·rw[this]at hb;cases hb
  ·have:=J.xG b z
   rcases hb with rfl|hb
   ·rw[this]at e;cases e
   ·rw[this]at hb;cases hb
def Nl(P:Program)(w:World):GU:=λouter H s E e s'=>∃ea C od H',e=.ref ea/\s'.os=s.os/\AllBare s'.gens/\Un (frs outer) [] H H' s.heap s'.heap/\tS P w H' s'.heap/\Exc s.heap H' s'.heap ea C od (some .none)/\E C od H'
theorem Exc.older{h₀ h1 h:Heap}{H:Hp}{e:Addr}{C:Value}{od:Option Addr}{fl:Option Value}(x:Exc h1 H h e C od fl)(ht:∀b,h1.get? b=none->h₀.get? b=none):Exc h₀ H h e C od fl:=by
 obtain⟨fr,nw,oe,vs,he,hc,hdi,hd,fa⟩:=x
 refine⟨fr,ht _ nw,oe,vs,he,hc,hdi,hd,?_⟩
 cases fl with
 |none=>exact fa
 |some v=>obtain⟨T,oT,ts,h1,n0,w0,r⟩:=fa;exact⟨T,oT,ts,h1,n0,ht _ w0,r⟩
theorem leaveX{E:XK}{E':Value->Shared->Prop}{ea:Addr}{C:Value}{od:Option Addr}{fl:Option Value}(hst:X.stack=X.env::X.outer)(hfm:X.env.frame=some X.env.locals)(hex:X.ex=[])(I:Inv X pins σ H s)(J:Inv X pins σ' H' s1)(ht:∀b o,s.heap.get? b=some o->∃o',s1.heap.get? b=some o')(x:Exc s.heap H' s1.heap ea C od fl)(hfl:fl=none\/fl=some .none\/fl=some (rawInt X.env.locals))(hE:E C od H'):wpAny (model X.prog X.w) X.A (leaving X.env (.ref ea)) (λ_ s''=>Nl X.prog X.w X.outer X.H₀ X.s₀ E (.ref ea) s'') E' s1:=by
 have hl:=J.stack
 rw[hst]at hl
 refine Ir (J.ok.frames.trans (by rw[hst])) hl hfm x hfl ht (λb hb=>J.hok.fresh hb) λh' ch hc m x'=>?_
 have K:=I.mv J (h':=h') (by rw[hst];exact m) hc
 have old:∀b,s.heap.get? b=none->X.s₀.heap.get? b=none:=λb hb=>by
  cases q:X.s₀.heap.get? b with
  |none=>rfl
  |some o=>obtain⟨o',z⟩:=I.base.there b o q (by rw[hex];simp);rw[hb]at z;cases z
 have U:=K.base
 rw[hex]at U
 exact⟨ea,C,od,H',O,J.os,J.bare,U,K.hok,x'.older old,hE⟩
end
section
variable{P:Program}{w:World}{K:W.Frag}{mg:Str->Option Value}{base:Heap}{N:List Str}{qual:Str}{scope:Scope}{f:Addr}{cd:Value}{A:Around}{outer:List Env}{s:Shared}{H:Hp}{E:XK}
theorem fj.okE{x:Str}{st:Stmt}{fd:FuncData}{ps:List Str}{k:Nat}{sp:Sp}(F:fj K x qual st f fd)(S:aG N ps (av st))(len:∀vs H Q E,sp vs H Q E->vs.length=ps.length)(hbody:∀(cdv:Value)(A:Around)(outer:List Env)(s:Shared)(H:Hp)(vs:List V)(Q:VK)(E:XK),fR k (A.deeper (envOfC qual (av st) s.heap.objs.size f cdv))->sp vs H Q E->∃t,DA (BF (Nl P w) P w K mg base N qual (av st) f cdv A outer s H E) (cE st) t/\t {nx:=λ_ H'=>Q .non H',rt:=Q} (start N vs) H):br P w K mg base (Nl P w) (k+1) f fd ps sp:=by
 obtain⟨oc,od,kV,doc,pm,an,cdv,ct,osl,rfl,lk,hcd⟩:=F.ex
 exact Kn lk hcd S len λA outer s H vs Q E hr GW=>hbody cdv A outer s H vs Q E hr GW
end
theorem cW.ex{P:Program}{w:World}{H:Hp}{h:Heap}{a:Addr}{o:HO}(x:cW P w H h a o):∃u,h.get? a=some u:=by
 cases o with
 |lst xs=>obtain⟨_,_,_,_,e⟩:=x;exact⟨_,e⟩
 |tup xs=>obtain⟨_,_,_,ob,e,_⟩:=x;exact⟨_,e⟩
 |dK kvs=>obtain⟨_,_,_,_,o,_,_,e,_⟩:=x;exact⟨_,e⟩
 |dT kvs=>obtain⟨_,_,_,_,o,_,_,e,_⟩:=x;exact⟨_,e⟩
 |set S n=>obtain⟨o,_,_,_,e,_⟩:=x;exact⟨_,e⟩
 |ins C dx fs=>obtain⟨_,_,_,e,_⟩:=x;exact⟨_,e⟩
 |own y=>exact x
 |xd fs=>obtain⟨_,⟨_,_,_,e,_⟩,_⟩:=x;exact⟨_,e⟩
 |Vv lo hi=>obtain⟨_,_,_,e⟩:=x;exact⟨_,e⟩
 |E1 ob u=>obtain⟨e,_⟩:=x;exact⟨_,e⟩
 |OW ps=>exact⟨_,x⟩
 |met f y=>exact⟨_,x⟩
 |ext φ=>exact x.2.1
theorem tS.none{P:Program}{w:World}{H:Hp}{h:Heap}{a:Addr}(x:tS P w H h)(e:h.get? a=Option.none):H a=Option.none:=by
 cases q:H a with
 |none=>rfl
 |some u=>obtain⟨o,z⟩:=(x a u q).ex;rw[e]at z;cases z
abbrev BV:List Value:=[.type "ValueError",.type "Exception",.type "BaseException",.type "object"]
structure vg(K:W.Frag)(C N:Addr)(bm:List Value)(ini:Option Value):Prop where
 ob:∃nm q bs hdct sn sub ab col dd k0 k1 k2 k3 k5,K.lookup C=some (excClassObj nm q C N bs bm hdct sn sub ab col dd k0 k1 k2 k3 k5 "ValueError.__new__")
 ns:∃oc od es n sl,K.lookup N=some ⟨oc,od,.dict es n,sl⟩/\(es.toList.all λe=>match e.key with | .str _ _=>true|_=>false)=true
 ini:W.nsIn K N "__init__"=some ini
def A4(K:W.Frag)(bm:List Value):Prop:=bm=BV\/∃D ND,bm=.ref D::BV/\vg K D ND BV none
section
variable{K:W.Frag}{h:Heap}{C N:Addr}{bm:List Value}{ini:Option Value}
theorem vg.names(x:vg K C N bm ini):∃m:Str->Option Value,m "__init__"=ini/\∀h,K.In h->h.Ns N m:=by
 obtain⟨oc,od,es,n,sl,lk,al⟩:=x.ns
 have sk:StrKeys es:=λe he=>by
  have z:=abY.mp al e (by simpa using he)
  revert z
  cases e.key<;>intro z<;>first|exact⟨_,_,rfl⟩|cases z
 refine⟨nsFind es,?_,λh jr=>⟨_,es,n,jr _ _ lk,O,sk,λ_=>rfl⟩⟩
 have e:=x.ini
 unfold W.nsIn at e
 rw[lk]at e
 dsimp only at e
 unfold nsFind findBy
 rw[←Array.find?_toList]
 cases q:es.toList.find? (·.key.isStr "__init__") with
 |some en =>
  rw[q]at e
  exact abH e
 |none =>
  rw[q]at e
  dsimp only at e
  split at e
  ·cases e
  ·exact abH e
theorem vg.obj(x:vg K C N bm ini)(jr:K.In h):∃nm q bs hdct sn sub ab col dd k0 k1 k2 k3 k5,h.get? C=some (excClassObj nm q C N bs bm hdct sn sub ab col dd k0 k1 k2 k3 k5 "ValueError.__new__"):=by
 obtain⟨nm,q,bs,hdct,sn,sub,ab,col,dd,k0,k1,k2,k3,k5,e⟩:=x.ob
 exact⟨nm,q,bs,hdct,sn,sub,ab,col,dd,k0,k1,k2,k3,k5,jr _ _ e⟩
theorem A4.tail(x:A4 K bm)(jr:K.In h):OwnTail h BV bm:=by
 rcases x with rfl|⟨D,ND,rfl,d⟩
 ·exact .base
 ·obtain⟨nm,q,bs,hdct,sn,sub,ab,col,dd,k0,k1,k2,k3,k5,e⟩:=d.obj jr
  obtain⟨m,mi,mn⟩:=d.names
  exact .own e (mn h jr) mi .base
theorem A4.base(x:A4 K bm):bm.contains (.type "BaseException")=true:=by
 rcases x with rfl|⟨D,ND,rfl,d⟩
 ·decide
 ·rw[acH];rfl
end
section
variable{P:Program}{w:World}{K:W.Frag}{mg:Str->Option Value}{base:Heap}{N0:List Str}{qual:Str}{scope:Scope}{f:Addr}{cd:Value}{A:Around}{outer:List Env}{s0:Shared}{H0:Hp}{E:XK}
end
section
abbrev WU:=St->Hp->VK->XK->Prop
abbrev TN:=Ends->XK->St->Hp->Prop
def XP(X:Cx)(pins:List (Addr×Obj))(σ:St)(Ex:XK)(e:Value)(s':Shared):Prop :=
 ∃ea C od H' s2 H2,e=.ref ea/\Inv X pins σ H2 s2/\Inv X pins σ H' s'/\(∀b o,s2.heap.get? b=some o->∃o',s'.heap.get? b=some o')/\Exc s2.heap H' s'.heap ea C od (some .none)/\Ex C od H'
def PEx(X:Cx)(e:Expr)(t:WU):Prop :=
 ∀(pins:List (Addr×Obj))(s:Shared)(σ:St)(H:Hp)(Q:VK)(Ex:XK),Inv X pins σ H s->t σ H Q Ex->wpAny (model X.prog X.w) X.A (eval e X.env) (EP X pins σ Q) (XP X pins σ Ex) s
def PSx(X:Cx)(st:Stmt)(t:TN):Prop :=
 ∀(pins:List (Addr×Obj))(s:Shared)(σ:St)(H:Hp)(D:Ends)(Ex:XK),Inv X pins σ H s->t D Ex σ H->wpAny (model X.prog X.w) X.A (exec st X.env) (SP X pins D) (XP X pins σ Ex) s
def TQ(X:Cx)(st:List Stmt)(t:TN):Prop :=
 ∀(pins:List (Addr×Obj))(s:Shared)(σ:St)(H:Hp)(D:Ends)(Ex:XK),Inv X pins σ H s->t D Ex σ H->wpAny (model X.prog X.w) X.A (execs st X.env) (SP X pins D) (XP X pins σ Ex) s
variable{X:Cx}{k:Nat}{f C:Addr}{fd:FuncData}{ps:List Str}{sp:Sp}{p7:List V}{ds:List Value}{x m:Str}{p pos apos:Pos}{e o:Expr}{es:List Expr}{ta:TE}{t:TA}{te:WU}
theorem WV{α:Type}{u:Sem α}{Q Q':α->Shared->Prop}{M:Model}{A:Around}{E:Value->Shared->Prop}{s:Shared}(h:wpAny M A u Q (λ_ _=>False) s)(hQ:∀a s,Q a s->Q' a s):wpAny M A u Q' E s:=ab1 h hQ λ_ _ z=>z.elim
theorem Nm{pins:List (Addr×Obj)}{σ:St}{H:Hp}{s:Shared}{Q:VK}{Ex:XK}{us:List Value}{vs:List V}(F:br X.prog X.w X.K X.mg X.base (Nl X.prog X.w) k f fd ps sp)(hr:fR k X.A)(hb:Binds X.K fd ps ds)(hd:Vals p7 ds)(I:Inv X pins σ H s)(r:Vals vs us)(h:sp (vs++p7) H Q Ex):wpAny (model X.prog X.w) X.A (call (.ref f) us) (EP X pins σ Q) (XP X pins σ Ex) s:=by
 have r2:Vals (vs++p7) (us++ds):=r.append hd
 have hl:(us++ds).length=ps.length:=by rw[←r2.length];exact F.len _ _ _ _ h
 refine wpAny_call (codeAny_mono (F.run X.A X.stack s H ⟨us,[]⟩ (us++ds) (vs++p7) Q Ex hr I.MU (hb s us I.lu hl) r2 h) λr s' hq=>?_)
 cases r with
 |error e =>
  obtain⟨ea,C,od,H',rfl,os,bare,un,hok,y,hE⟩:=hq
  exact⟨ea,C,od,H',s,H,rfl,I,I.GN os un hok bare (λb z=>nomatch z),λb o q=>un.there b o q (by simp),y,hE⟩
 |ok fl =>
  cases fl with
  |ret u=>exact I.after hq
  |next=>exact False.elim hq
  |brk=>exact False.elim hq
  |cont=>exact False.elim hq
def Qp(sp:Sp)(p7:List V)(t:TA):WU:=λσ H Q Ex=>t σ H λvs H1=>sp (vs++p7) H1 Q Ex
theorem K6(F:br X.prog X.w X.K X.mg X.base (Nl X.prog X.w) k f fd ps sp)(hr:fR k X.A)(hg:Gl X x)(hm:X.mg x=some (.ref f))(hk:W.keepIn X.K (.ref f)=true)(hb:Binds X.K fd ps ds)(hd:Vals p7 ds)(ha:PA X.PB (e::es) t)(hdb:(x==("__debug__":Str))=false:=by decide)(he:starEach (e::es) X.env=(false,eval e X.env)::starEach es X.env:=by rfl)(hpl:(backTo pos (starEach es X.env)).any (·.1)=false:=by rfl):PEx X (.Call (.Name x p) (e::es) [] pos) (Qp sp p7 t):=by
 intro pins s σ H Q Ex I h
 refine aci (kg I hg hm ?_ hdb)
 refine W.callWith_K (h₀:=X.base) I.ok.mod.jr hk (WV (ha pos pins s σ H _ (I.xV _) h) λus s1 ⟨vs,H1,I1,r,q⟩=>⟨I1.kM.lu,?_⟩) he hpl
 exact Nm F hr hb hd I1.kM r q
theorem Np{i:Nat}{pos':Pos}(hN:X.N.Nodup)(hi:X.N[i]?=some x)(hx:Loc X.env.scope x)(he:PEx X e te)(hs:swapsWith e (some (.Name x pos')) pos.line X.env=pure false:=by rfl)(hf:X.fn x=true\/X.env.scope.names.lookup x=some .local:=by first|exact .inl rfl|exact .inr rfl|assumption):PSx X (.Assign [.Name x pos'] e pos) (λD Ex σ H=>te σ H (λv H1=>D.nx (σ.set i (some v)) H1) Ex):=by
 intro pins s σ H D Ex I h
 refine wpAny_Assign_Name (cC (he pins s σ H _ _ I h) λv s1 ⟨y,H1,I1,r1,q1⟩=>?_) hs
 exact qU I1 hN hi hx r1 (λs2 I2=>⟨_,H1,I2,q1⟩) hf
theorem K7{st:Stmt}{ts:TN}(h1:PSx X st ts):TQ X [st] ts:=by
 intro pins s σ H D Ex I h
 refine wpAny_execs_cons (cC (h1 pins s σ H D Ex I h) λf s1 q=>?_)
 cases f with
 |next=>exact wpAny_execs_nil q
 |ret v=>exact q
 |brk=>exact q
 |cont=>exact q
end
def Nq(e:Addr)(C:Value)(od:Option Addr):HO:=.ext λh=>∃o vs,h.get? e=some o/\o.cls=C/\o.dict=od/\o.data=.fields vs/\vs[2]?=some .none
theorem Iu{e:Addr}{C:Value}{od:Option Addr}:∀h1 h2:Heap,(∃o vs,h1.get? e=some o/\o.cls=C/\o.dict=od/\o.data=.fields vs/\vs[2]?=some .none)->(∀o,h1.get? e=some o->h2.get? e=some o)->∃o vs,h2.get? e=some o/\o.cls=C/\o.dict=od/\o.data=.fields vs/\vs[2]?=some .none :=
 λ_ _ ⟨o,vs,q,r⟩ k=>⟨o,vs,k o q,r⟩
theorem TR{P:Program}{w:World}{H:Hp}{h:Heap}{e:Addr}{C:Value}{od:Option Addr}(x:∃o vs,h.get? e=some o/\o.cls=C/\o.dict=od/\o.data=.fields vs/\vs[2]?=some .none):cW P w H h e (Nq e C od) :=
 ⟨x,(let ⟨o,_,q,_⟩:=x;⟨o,q⟩),Iu⟩
section
variable{X:Cx}{pins:List (Addr×Obj)}{σ σ':St}{H H':Hp}{s s1:Shared}
theorem Inv.K8{a:Addr}{o:HO}(I:Inv X pins σ H s)(J:Inv X pins σ' H' s1)(hex:X.ex=[])(hn:H' a=none)(hw:s.heap.get? a=none)(new:cW X.prog X.w (upd H' a o) s1.heap a o):Inv X pins σ' (upd H' a o) s1:=by
 have ne:∀b u,s.heap.get? b=some u->b≠a:=λb u e z=>by rw[z,hw]at e;cases e
 have Pd:∀b u,X.s₀.heap.get? b=some u->b≠a:=λb u e=>let ⟨o',e'⟩:=I.base.there b u e (by rw[hex];simp);ne b o' e'
 refine⟨J.ok,J.os,J.bare,⟨J.base.keep,J.base.slot,λb u e n hx=>?_,J.base.there,λb xs e=>?_,λb u v e=>?_,λb ps e=>?_⟩,J.loc,J.cell,?_,λx c e=>?_,λp hp=>?_,λb u e=>?_,J.len⟩
 ·rw[aD (Pd b u e)];exact J.base.free b u e n hx
 ·have z:=J.base.tups b xs e
  rw[aD (aN z hn)];exact z
 ·have z:=J.base.tU b u v e
  rw[aD (aN z hn)];exact z
 ·obtain⟨more,z⟩:=J.base.vU b ps e
  exact⟨more,by rw[aD (aN z hn)];exact z⟩
 ·obtain⟨m,⟨oL,_,_,eL,_⟩,_⟩:=I.loc
  rw[aD (ne _ _ eL)];exact J.free
 ·obtain⟨v,oc,ec,_⟩:=I.cell x c e
  rw[aD (ne _ _ ec)];exact J.iQ x c e
 ·obtain⟨e0,_⟩:=I.pin p hp
  obtain⟨e1,n1,r⟩:=J.pin p hp
  exact⟨e1,by rw[aD (ne _ _ e0)];exact n1,r⟩
 ·by_cases hb:b=a
  ·subst hb;rw[aj]at e;cases e;exact new
  ·rw[aD hb]at e
   exact(J.hok b u e).stay (λc v _ q=>q) (λc q=>by rw[aD (aN q hn)];exact q) λc xs q=>by rw[aD (aN q hn)];exact q
theorem Inv.gone{i:Nat}{n:Str}{h':Heap}{v:Option Value}{tk:Nat}{m:Str->Option Value}(I:Inv X pins σ H s)(hN:X.N.Nodup)(hi:X.N[i]?=some n)(hm:s.heap.Ns X.env.locals m)(hn:h'.Ns X.env.locals (λx=>if x=n then v else m x))(hs:Heap.SameBut X.env.locals s.heap h'):Inv X pins (σ.set i none) H {s with heap:=h',toks:=tk}:=by
 obtain⟨m0,hn0,hl⟩:=I.loc
 have em:m0=m:=by
  obtain⟨o1,es1,ep1,q1,d1,_,f1⟩:=hn0
  obtain⟨o2,VJ,ep2,q2,d2,_,f2⟩:=hm
  rw[q1]at q2
  cases q2
  rw[d1]at d2
  cases d2
  funext x
  rw[←f1,←f2]
 subst em
 have hil:i<σ.length:=by rw[I.len];exact(abi.mp hi).1
 have ab:∀b o,X.s₀.heap.get? b=some o->b≠X.env.locals:=λb o e=>abK (abA (abu e) I.ok.above)
 have hk:tS X.prog X.w H h':=λb ob e=>by
  refine(I.hok b ob e).stay (λc w' hc q=>(hs.2 c ?_).trans q) (λ_ q=>q) λ_ _ q=>q
  rintro rfl
  rcases hc with rfl|hc
  ·rw[I.free]at e;cases e
  ·rw[I.free]at hc;cases hc
 refine⟨I.ok,I.os,I.bare,⟨λb o e n hb hx=>(hs.2 b (ab b o e)).trans (I.base.keep b o e n hb hx),λb o e n hb hx=>?_,I.base.free,λb o e hx=>?_,I.base.tups,I.base.tU,I.base.vU⟩,⟨_,hn,λj y u e1 e2 e3=>?_⟩,λy c e=>?_,I.free,I.iQ,λp hp=>?_,hk,by simpa using I.len⟩
 ·obtain⟨sl,e1⟩:=I.base.slot b o e n hb hx
  exact⟨sl,(hs.2 b (ab b o e)).trans e1⟩
 ·obtain⟨o',e1⟩:=I.base.there b o e hx
  exact⟨o',(hs.2 b (ab b o e)).trans e1⟩
 ·by_cases hj:j=i
  ·subst hj
   rw[List.getElem?_set_self hil]at e2
   cases e2
  ·rw[List.getElem?_set_ne (ab9 hj)]at e2
   obtain⟨u',r',q⟩:=hl j y u e1 e2 e3
   refine⟨u',r',?_⟩
   have hne:y≠n:=λz=>hj (xU hN e1 (z▸hi))
   rcases q with ⟨k,e⟩|⟨k,c,e,z⟩
   ·exact .inl ⟨k,by simp[hne,e]⟩
   ·exact .inr ⟨k,c,e,z.sameBut hs (I.ML y c e)⟩
 ·obtain⟨w',z⟩:=I.cell y c e
  exact⟨w',z.sameBut hs (I.ML y c e)⟩
 ·obtain⟨e,n,ne,nf,d⟩:=I.pin p hp
  exact⟨(hs.2 p.1 ne).trans e,n,ne,nf,d⟩
end
section
variable{M:Model}{A:Around}{E:Value->Shared->Prop}{K:W.Frag}{s:Shared}{C D N N' ea:Addr}{bm bm':List Value}{ini TU:Option Value}{Q:Bool->Shared->Prop}
theorem D0{oe:Obj}(jr:K.In s.heap)(c:vg K C N bm ini)(d:vg K D N' bm' TU)(td:A4 K bm')(he:s.heap.get? ea=some oe)(hc:oe.cls=.ref C)(h:Q ((Value.ref C::bm).contains (.ref D)) s):wpAny M A (excMatches (.ref ea) (.ref D)) Q E s:=by
 obtain⟨nm,q,bs,hdct,sn,sub,ab,col,dd,k0,k1,k2,k3,k5,lc⟩:=c.obj jr
 obtain⟨nm',q',bs',aa4,sn',sub',ab',col',R7,TV,VG,k2',k3',k5',ld⟩:=d.obj jr
 have hB:(Value.ref D::bm').contains (.type "BaseException")=true:=by rw[acH,td.base];rfl
 have f:=tc_notTuple
 obtain⟨hp,g,dr,tk,os⟩:=s
 unfold excMatches
 repeat (first | (with_reducible refine acE he ?_;rw[hc])|with_reducible refine acE ld ?_ | (with_reducible refine wpAny_isSubtype_exc ld ?_;rw[hB])|with_reducible refine wpAny_isSubtype_exc lc ?_|wp_step)
 cases hb:(Value.ref C::bm).contains (.ref D)<;>(rw[hb]at h;wp_walk;exact h)
end
abbrev Cx.han(X:Cx)(ea:Addr):Cx:={X with A:=X.A.mark (some (.ref ea)),calm:=false,xe:=λ_ _=>False}
section
variable{X:Cx}{pins:List (Addr×Obj)}{σ:St}{H:Hp}{s:Shared}{ea:Addr}
theorem Cx.Ok.han(ok:X.Ok)(ea:Addr):(X.han ea).Ok :=
 ⟨ok.mod,ok.kind,ok.glob,ok.blt,ok.above,ok.inj,ok.has,ok.RY,(λz=>nomatch (show false=true from z)),ok.frames,ok.stk,ok.V5,ok.bs,ok.JI,ok.E2,ok.JX,ok.tV,ok.OY⟩
theorem Inv.han(I:Inv X pins σ H s)(ea:Addr):Inv (X.han ea) pins σ H s:=⟨I.ok.han ea,I.os,I.bare,I.base,I.loc,I.cell,I.free,I.iQ,I.pin,I.hok,I.len⟩
theorem Inv.TX(ok:X.Ok)(I:Inv (X.han ea) pins σ H s):Inv X pins σ H s:=⟨ok,I.os,I.bare,I.base,I.loc,I.cell,I.free,I.iQ,I.pin,I.hok,I.len⟩
abbrev TH:=Addr->Value->Option Addr->TS
def VL(X:Cx)(hs:List ExceptHandler)(t:TH):Prop :=
 ∀(pins:List (Addr×Obj))(s:Shared)(σ:St)(H:Hp)(D:Ends)(ea:Addr)(C:Value)(od:Option Addr)(s2:Shared)(H2:Hp),Inv X pins σ H2 s2->Inv X pins σ H s->(∀b o,s2.heap.get? b=some o->∃o',s.heap.get? b=some o')->Exc s2.heap H s.heap ea C od (some .none)->t ea C od D σ H->wpAny (model X.prog X.w) X.A (handleBy (.ref ea) X.env hs) (SP X pins D) X.xe s
theorem Qq:VL X [] (λ_ _ _ _ _ _=>False):=λ_ _ _ _ _ _ _ _ _ _ _ _ _ _ h=>h.elim
def TY(K:W.Frag)(Dc:Addr)(i:Nat)(tb:Addr->TS)(tr:TH):TH:=λea C od D σ H=>∃Cc N bm ini,C=.ref Cc/\vg K Cc N bm ini/\if (Value.ref Cc::bm).contains (.ref Dc)=true then tb ea {nx:=λσ' H'=>D.nx (σ'.set i none) H',rt:=D.rt,bk:=λσ' H'=>D.bk (σ'.set i none) H',ct:=λσ' H'=>D.ct (σ'.set i none) H'} (σ.set i (some (.ref ea))) (upd H ea (Nq ea C od)) else tr ea C od D σ H
theorem TZ{i:Nat}{x n:Str}{np hpos:Pos}{b₀:Stmt}{suite:List Stmt}{rest:List ExceptHandler}{Dc ND:Addr}{bmD:List Value}{WW:Option Value}{tb:Addr->TS}{tr:TH}(hex:X.ex=[])(hg:Gl X x)(hm:X.mg x=some (.ref Dc))(d:vg X.K Dc ND bmD WW)(td:A4 X.K bmD)(hN:X.N.Nodup)(hi:X.N[i]?=some n)(hl:X.env.scope.names.lookup n=some .local)(hb:∀ea,DA (X.han ea) (b₀::suite) (tb ea))(hr:VL X rest tr)(hdb:(x==("__debug__":Str))=false:=by decide):VL X (.ExceptHandler (some (.Name x np)) (some n) (b₀::suite) hpos::rest) (TY X.K Dc i tb tr):=by
 rintro pins s σ H D ea C od s2 H2 I2 J ht y ⟨Cc,N,bm,ini,rfl,c,q⟩
 obtain⟨fr,nw,oe,vs,he,hc,hdi,hd,fa⟩:=id y
 refine wpAny_handleBy_cons (codeAny_handlers_test (kg (X:=X.han ea) (J.han ea) hg hm ?_ hdb)) (by intro z;cases z)
 refine D0 J.lu c d td he hc ?_
 cases hb2:(Value.ref Cc::bm).contains (.ref Dc) with
 |false =>
  rw[hb2,abb abv]at q
  exact hr pins s σ H D ea _ od s2 H2 I2 J ht y q
 |true =>
  rw[hb2,abe rfl]at q
  refine codeAny_handlers_suite_as ?_
  refine yo y λh1 ch hch mv y1=>?_
  have J1:=I2.mv J (mv.mono (λb z=>nomatch z) λb z=>z) hch
  obtain⟨fr1,nw1,oe1,vs1,R8,hc1,WX,hd1,fa1⟩:=id y1
  have J2:=I2.K8 J1 (o:=Nq ea (.ref Cc) od) hex fr1 nw1 (TR ⟨oe1,vs1,R8,hc1,WX,hd1,fa1.cx⟩)
  refine qU J2 hN hi (.inl hl) (show RelV (.ref ea) (.ref ea) from rfl) (λs3 J3=>?_) (.inr hl)
  refine ab1 (hb ea pins s3 _ _ _ (J3.han ea) q) (λf s4 r=>?_) λ_ _ z=>z.elim
  have hp:(X.env.scope.kind==.class||(X.env.scope.kind==.module&&X.env.locals != X.env.globals))=false:=by rw[J.ok.kind];rfl
  have go:∀{σ':St}{H':Hp}{Q:Unit->Shared->Prop},Inv (X.han ea) pins σ' H' s4->(∀s5,Inv X pins (σ'.set i none) H' s5->Q () s5)->wpAny (model X.prog X.w) X.A (do bindName X.env n .none;unbindBehindTheSuite X.env n hpos) Q X.xe s4:=λ{σ' H' Q} I4 k=>by
   have I5:=I4.TX J.ok
   obtain⟨m,hn,_⟩:=id I5.loc
   exact wpAny_nameGoes_keeps hl hn hp λh' v hn' hs=>k _ (I5.gone hN hi hn hn' hs)
  cases f with
  |next=>obtain⟨σ',H',I4,q4⟩:=r;exact go I4 λs5 I5=>⟨_,H',I5,q4⟩
  |brk=>obtain⟨σ',H',I4,q4⟩:=r;exact go I4 λs5 I5=>⟨_,H',I5,q4⟩
  |cont=>obtain⟨σ',H',I4,q4⟩:=r;exact go I4 λs5 I5=>⟨_,H',I5,q4⟩
  |ret u=>obtain⟨v,σ',H',I4,rv,q4⟩:=r;exact go I4 λs5 I5=>⟨v,_,H',I5,rv,q4⟩
def T3(tb:TN)(th:TH)(to:TS):TS:=λD σ H=>tb {D with nx:=λσ1 H1=>to D σ1 H1} (λC od H'=>∀ea,H' ea=none->th ea C od D σ H') σ H
theorem Nr{body orelse:List Stmt}{h₀:ExceptHandler}{hs:List ExceptHandler}{pos:Pos}{tb:TN}{th:TH}{to:TS}(hst:X.stack=X.env::X.outer)(hfm:X.env.frame=some X.env.locals)(hb:TQ X body tb)(hh:VL X (h₀::hs) th)(ho:DA X orelse to):PS X (.Try body (h₀::hs) orelse [] pos) (T3 tb th to):=by
 intro pins s σ H D I h
 refine wpAny_Try_except (ab1 (hb pins s σ H _ _ I h) (λf s1 q=>?_) λe s1 q=>?_)
 ·cases f with
  |next=>obtain⟨σ1,H1,I1,q1⟩:=q;exact ho pins s1 σ1 H1 D I1 q1
  |ret u=>exact q
  |brk=>exact q
  |cont=>exact q
 ·obtain⟨ea,C,od,H',s2,H2,rfl,I2,J,ht,y,hE⟩:=q
  have hl:=J.stack
  rw[hst]at hl
  refine DZ (J.ok.frames.trans (by rw[hst])) hl hfm y (.inr (.inl rfl)) ht (λb hb=>J.hok.fresh hb) λh1 ch hc m y1=>?_
  have J1:=I2.mv J (h':=h1) (by rw[hst];exact m) hc
  have ht1:∀b o,s2.heap.get? b=some o->∃o',h1.get? b=some o':=λb o q=>let ⟨o',q'⟩:=ht b o q;m.there b o' q'
  refine yo y1 λh2 ch2 hc2 m2 y2=>?_
  have J2:=I2.mv J1 (h':=h2) (m2.mono (λb z=>nomatch z) λb z=>z) hc2
  exact hh pins _ σ H' D ea C od s2 H2 I2 J2 (λb o q=>let ⟨o',q'⟩:=ht1 b o q;m2.there b o' q') y2 (hE ea y2.fr)
end
end L2
set_option maxHeartbeats 1000000
namespace L2
open PySem PySem.Spec PyProof.Rows PySem.Builtin PySem.Builtin.ObjectAttr
theorem A5(self:Value):refuseLoop self "__setattr__" BV=pure ():=by kernel_rfl
theorem D3{K:W.Frag}{bm:List Value}(tl:A4 K bm)(self:Value):refuseLoop self "__setattr__" bm=pure ():=by
 rcases tl with rfl|⟨D,ND,rfl,d⟩
 ·exact A5 self
 ·rw[refuseLoop_ref];exact A5 self
structure Nt(K:W.Frag)(C:Addr)(f:Str):Prop where
 no:W.findIn K (.ref C) f=some none
 sa:W.findIn K (.ref C) "__setattr__"=some (some (.builtin "object.__setattr__"))
 ga:W.findIn K (.ref C) "__getattribute__"=some (some (.builtin "BaseException.__getattribute__"))
 gx:W.findIn K (.ref C) "__getattr__"=some none
 hd:W.hasDictIn K C=true
section
variable{P:Program}{w:World}{A:Around}{E:Value->Shared->Prop}{s:Shared}{K:W.Frag}{C N x:Addr}{bm:List Value}{ini:Option Value}{f:Str}{v:Value}{ox:Obj}{vs:Array Value}
theorem vg.cls(c:vg K C N bm ini)(h:W.hasDictIn K C=true):∃cd,W.clsIn K C=some cd/\cd.mro=.ref C::bm/\cd.hasDict=true:=by
 obtain⟨nm,q,bs,hdct,sn,sub,ab,col,dd,k0,k1,k2,k3,k5,lk⟩:=c.ob
 obtain⟨cd,hc,hd⟩:=W.any_some h
 refine⟨cd,hc,?_,hd⟩
 unfold W.clsIn at hc
 rw[lk]at hc
 cases hc
 rfl
theorem Hh{od:Option Obj}{tk:Tok}{R:Result->Shared->Prop}(jr:K.In s.heap)(c:vg K C N bm ini)(tl:A4 K bm)(a:Nt K C f)(J:W.InstAt s.heap x ox C od)(h:∀b,wpAny (model P w) A.in1 (storeInOwnDict (.ref x) (.ref C) (.str f tk) f v b) (λfin s'=>match fin with | .done g=>R (.ok g) s' | .again c'=>c'.quiet=true/\codeAny (model P w) A c' R s') (λe s'=>R (.error e) s') s):codeAny (model P w) A (.call (.builtin "object.__setattr__") ⟨[.ref x,.str f tk,v],[]⟩) R s:=by
 obtain⟨cd,hc,hm,hd⟩:=c.cls a.hd
 have SF:=PySem.F.store_object
 have WY:W.Looks (model P w) s.heap (mroOf (.ref C)) cd.mro:=(W.looks_clsIn jr hc).andThen .now
 have hob:(cd.mro.contains (.type "object"))=true:=by
  rw[hm,acH]
  rcases tl with rfl|⟨D,ND,rfl,d⟩
  ·rfl
  ·rw[acH];rfl
 have ne:cd.mro.isEmpty=false:=by rw[hm];rfl
 have sub:W.Looks (model P w) s.heap (isInstance (.ref x) (.type "object")) true :=
  J.type.andThen (W.looks_mroIn jr (by unfold W.mroIn;rw[hc,Option.bind_some,abb (by rw[ne];decide),hob]))
 refine codeAny_call_builtin SF.slot.plain SF.entry (W.check_slot (M:=model P w) (s:=s) (i:="object.__setattr__") (owner:="object") (n:="__setattr__") (self:=.ref x) (rest:=[.str f tk,v]) (kw:=[]) SF.kind SF.split sub (SF.args (.ref x) (.str f tk) v) ?_)
 rw[W.osa_eq,refuse_eq]
 refine abd (abd (J.type.here (abd (WY.here ?_))))
 rw[hm,refuseLoop_ref,D3 tl]
 have L3:W.Looks (model P w) s.heap (storeTaker? none) none:=.now
 refine abl (abd (J.type.here (abd ((W.looks_findIn jr a.no).here (abd (L3.here ?_))))))
 exact h _
theorem Nu{h:Heap}{d:Addr}{o:Obj}(e:h.get? d=some o)(hd:o.data=.dict #[] 0):h.Ns1 d (λ_=>none) :=
 ⟨o,#[],0,e,hd,λe he=>absurd he (by simp),(by first|exact λi j e e' h1=>absurd h1 (by simp)|simp[UniqKeys]),λ_=>rfl⟩
theorem K9{Q:Unit->Shared->Prop}(jr:K.In s.heap)(c:vg K C N bm ini)(tl:A4 K bm)(a:Nt K C f)(hx:s.heap.get? x=some ox)(hc:ox.cls=.ref C)(hdi:ox.dict=none)(hd:ox.data=.fields vs)(h:∀h' tk,h'.get? x=some {ox with dict:=some s.heap.objs.size}->h'.Ns1 s.heap.objs.size (λy=>if y=f then some v else none)->(∀b o,b≠x->s.heap.get? b=some o->h'.get? b=some o)->Q () {s with heap:=h',toks:=tk}):wpAny (model P w) A (setAttr (.ref x) f v) Q E s:=by
 have J:W.InstAt s.heap x ox C none:=⟨hx,hc,by obtain⟨oc,VM,VN,osl⟩:=ox;cases hd;rfl,by rw[hdi];exact True.intro⟩
 refine W.set_plain jr J a.sa (Hh (s:={s with toks:=s.toks+1}) jr c tl a J λb=>?_)
 obtain⟨cd,hcd,hm,VO⟩:=c.cls a.hd
 obtain⟨oc,VM,VN,osl⟩:=ox
 dsimp only at hc hdi hd
 subst hc hdi hd
 refine abd (abl (abd (abd (wpAny_loadPart hx (abd (W.Looks.here (s:={s with toks:=s.toks+1}) (W.looks_clsIn jr hcd) ?_))))))
 rw[VO]
 refine abd (wpAny_alloc ?_)
 have x1:(s.heap.push {cls:=.type "dict",data:=.dict #[]}).get? x=some ⟨.ref C,none,.fields vs,osl⟩:=abk _ hx
 refine abd (wpAny_update x1 ?_)
 refine abl (a:=some s.heap.objs.size) ?_
 show wpAny _ _ (storeInDict s.heap.objs.size (Value.str f s.toks) f v) _ _ _
 unfold storeInDict
 refine abd (m:=newKeyGuard _ _ _) ?_
 refine abl (abd ?_)
 have ne:s.heap.objs.size≠x:=Nat.ne_of_gt (abu hx)
 have d1:((s.heap.push {cls:=.type "dict",data:=.dict #[]}).update x λo=>{o with dict:=some s.heap.objs.size}).get? s.heap.objs.size=some {cls:=.type "dict",data:=.dict #[]} :=
  (abX _ _ (ab9 ne)).trans (abE s.heap rfl)
 have x2:((s.heap.push {cls:=.type "dict",data:=.dict #[]}).update x λo=>{o with dict:=some s.heap.objs.size}).get? x=some ⟨.ref C,some s.heap.objs.size,.fields vs,osl⟩:=acu _ x1 rfl
 refine wpAny_nsSet1 (Nu d1 rfl) λh' hn2 hs2=>?_
 obtain⟨oD,esD,epD,SS,SV,SW⟩:=hn2.count (ns:=[f]) (PySem.Within.cons f v (ns:=[]) (λy hy=>absurd rfl hy))
 refine abd (wpAny_lookBehind SS (by rw[SV];exact pastItsLine_dict (abn SW (Nat.le_add_left 1 sizeLine))) ?_)
 refine abl (h _ _ ((hs2.2 _ (ab9 ne)).trans x2) hn2 λb o hb q=>?_)
 have nb:b≠s.heap.objs.size:=abK (abu q)
 exact(hs2.2 b nb).trans ((abX _ _ (ab9 hb)).trans (abk _ q))
theorem La{d:Addr}{mA:Str->Option Value}{ns:List Str}{Q:Unit->Shared->Prop}(jr:K.In s.heap)(c:vg K C N bm ini)(tl:A4 K bm)(a:Nt K C f)(hx:s.heap.get? x=some ox)(hc:ox.cls=.ref C)(hdi:ox.dict=some d)(hd:ox.data=.fields vs)(hn:s.heap.Ns1 d mA)(hw:PySem.Within mA ns)(hsz:ns.length<=sizeLine)(h:∀h' tk,h'.Ns1 d (λy=>if y=f then some v else mA y)->Heap.SameBut d s.heap h'->Q () {s with heap:=h',toks:=tk}):wpAny (model P w) A (setAttr (.ref x) f v) Q E s:=by
 obtain⟨od,ho,hl⟩:=t7 hn
 have J:W.InstAt s.heap x ox C (some od):=⟨hx,hc,by obtain⟨oc,VM,VN,osl⟩:=ox;cases hd;rfl,by rw[hdi];exact ho⟩
 refine W.set_plain jr J a.sa (Hh (s:={s with toks:=s.toks+1}) jr c tl a J λb=>?_)
 obtain⟨cd,hcd,hm,VO⟩:=c.cls a.hd
 obtain⟨oc,VM,VN,osl⟩:=ox
 dsimp only at hc hdi hd
 subst hc hdi hd
 refine abd (abl (abd (abd (wpAny_loadPart hx (abd (W.Looks.here (s:={s with toks:=s.toks+1}) (W.looks_clsIn jr hcd) ?_))))))
 rw[VO]
 refine abl (a:=some d) ?_
 show wpAny _ _ (storeInDict d (Value.str f s.toks) f v) _ _ _
 unfold storeInDict
 refine abd (m:=newKeyGuard _ _ _) ?_
 refine abl (abd ?_)
 refine wpAny_nsSet1 (s:={s with toks:=s.toks+1}) hn λh' hn2 hs2=>?_
 obtain⟨oD,esD,epD,SS,SV,SW⟩:=hn2.count (PySem.Within.cons f v hw)
 refine abd (wpAny_lookBehind SS (by rw[SV];exact pastItsLine_dict (abn SW (by rw[abG];omega))) ?_)
 exact abl (h _ _ hn2 hs2)
theorem Nv{tk:Tok}{Q:Fin->Shared->Prop}{tp:Value}(L0:W.Looks (model P w) s.heap (typeOf (.ref x)) tp)(L1:W.Looks (model P w) s.heap (find (.ref x) tp f) (.value v))(h:Q (.done (.ret v)) s):wpAny (model P w) A (Builtin.«object.__getattribute__» ⟨[.ref x,.str f tk],[]⟩) Q E s:=by
 unfold Builtin.«object.__getattribute__»
 refine abd (m:=slotArgs _ _ _) ?_
 refine abl (a:=(Value.ref x,[Value.str f tk])) ?_
 refine abd (m:=attrName _) ?_
 refine abl (a:=f) ?_
 refine abd (L0.here ?_)
 refine abd (L1.here ?_)
 exact abl h
theorem Nx{d:Addr}{mA:Str->Option Value}{expr:Bool}{Q:Value->Shared->Prop}(jr:K.In s.heap)(c:vg K C N bm ini)(tl:A4 K bm)(a:Nt K C f)(hx:s.heap.get? x=some ox)(hc:ox.cls=.ref C)(hdi:ox.dict=some d)(hd:ox.data=.fields vs)(hn:s.heap.Ns1 d mA)(hv:mA f=some v)(hh:W.handedIn v=true)(h:Q v {s with toks:=s.toks+1}):wpAny (model P w) A (getAttr (.ref x) f expr) Q E s:=by
 obtain⟨od,ho,hl⟩:=t7 hn
 have J:W.InstAt s.heap x ox C (some od):=⟨hx,hc,by obtain⟨oc,VM,VN,osl⟩:=ox;cases hd;rfl,by rw[hdi];exact ho⟩
 have FO:W.findObj K C (some od) f=some (.value v):=W.findObj_own a.hd a.no rfl (by rw[hl,hv])
 obtain⟨cd,hcd,hm,VO⟩:=c.cls a.hd
 have hob:(cd.mro.contains (.type "BaseException"))=true:=by rw[hm,acH,tl.base];rfl
 have ne:cd.mro.isEmpty=false:=by rw[hm];rfl
 have sub:W.Looks (model P w) s.heap (isInstance (.ref x) (.type "BaseException")) true :=
  J.type.andThen (W.looks_mroIn jr (by unfold W.mroIn;rw[hcd,Option.bind_some,abb (by rw[ne];decide),hob]))
 have hk:W.Looks (model P w) s.heap (hookBefore (.ref C)) none:=W.looks_hook jr (by show(if onTheHeap (.ref C) then _ else _)=_;exact a.gx)
 refine abd (wpAny_mkText (wpAny_holding (abd (J.type _ _ _ _ (λ_ _ e=>e) (abd (W.looks_findIn jr a.ga _ _ _ _ (λ_ _ e=>e) ?_))))))
 dsimp only
 rw[show(onTheHeap (Value.ref C)&&Value.builtin "BaseException.__getattribute__"==Value.builtin "object.__getattribute__")=false from by rw[show(Value.builtin "BaseException.__getattribute__"==Value.builtin "object.__getattribute__")=false from by decide +kernel];exact Bool.and_false _,abb (by decide)]
 refine abd (hk _ _ _ _ (λ_ _ e=>e) (abd (wpAny_attempt (wpAny_holding ?_))))
 unfold callGetattribute
 rw[show(expr&&onTheHeap (Value.builtin "BaseException.__getattribute__"))=false from Bool.and_false _,abb (by decide)]
 unfold boundAndCalled
 rw[PySem.F.attr_ValueError.ga.bind]
 refine abd (abl ?_)
 show wpAny _ _ (call (.builtin "BaseException.__getattribute__") [.ref x,.str f s.toks]) _ _ _
 refine wpAny_call (codeAny_call_builtin PySem.F.attr_ValueError.ga.plain PySem.F.entry_bexc_ga (W.check_slot (M:=model P w) (s:={s with toks:=s.toks+1}) (i:="BaseException.__getattribute__") (owner:="BaseException") (n:="__getattribute__") (self:=.ref x) (rest:=[.str f s.toks]) (kw:=[]) (by decide +kernel) (by decide +kernel) sub (PySem.F.args_bexc_ga (.ref x) (.str f s.toks)) ?_))
 have L1:=W.looks_find (M:=model P w) jr J FO
 refine Nv (s:={s with toks:=s.toks+1}) J.type L1 ?_
 show wpAny _ _ (handedOut v) _ _ _
 rw[W.handedOut_of hh]
 exact abl h
end
section
variable{P:Program}{w:World}{A:Around}{E:Value->Shared->Prop}{K:W.Frag}{C N fI:Addr}{bm:List Value}{us:List Value}
theorem zH{h:Heap}{g:Array GenState}{dr:Drawn}{tk:Nat}{os:OsState}{oI:Obj}{Q:Fin->Shared->Prop}(jr:K.In h)(c:vg K C N bm (some (.ref fI)))(tl:A4 K bm)(lf:h.get? fI=some oI)(cf:oI.cls=.type "function")(k:∀h' e,Heap.MadeExcOf h h' e (.ref C) us->wpAny (model P w) A (call (.ref fI) (.ref e::us)) (λr s'=>r=.none/\Q (.done (.ret (.ref e))) s') E ⟨h',g,dr,tk,os⟩)(hu:us.length<=sizeLine):wpAny (model P w) A (Builtin.«type.__call__» ⟨.ref C::us,[]⟩) Q E ⟨h,g,dr,tk,os⟩:=by
 obtain⟨nm,q,bs,hdct,sn,sub,ab,col,dd,k0,k1,k2,k3,k5,lc⟩:=c.obj jr
 obtain⟨m,mi,mn⟩:=c.names
 have T:=tl.tail jr
 have VE:=PySem.F.excBase_ValueError
 repeat (first|with_reducible refine acE lc ?_|with_reducible refine wpAny_madeBy_exc lc ?_|wp_step)
 refine codeAny_call_builtin_code (Code.quiet_builtin _ VE.quiet) (wpAny_check_new_subU VE (by decide) T lc (codeAny_exc_new_subU VE (by decide) VE T lc ?_ hu))
 show wpAny _ _ _ _ _ _
 generalize ho1:({cls:=.type "tuple",data:=.seq us.toArray}:Obj)=o1
 generalize ho2:({cls:=.ref C,data:=.fields #[.ref h.objs.size,.none,.none,.none,.bool false,.none]}:Obj)=o2
 have up:∀b o,h.get? b=some o->((h.push o1).push o2).get? b=some o:=λb o z=>abk _ (abk _ z)
 have lc1:=up _ _ lc
 have lf1:=up _ _ lf
 have n1:=mn _ (jr.keeps up)
 have T1:=T.keeps up
 have z2:(h.push o1).objs.size=h.objs.size+1:=ack ..
 have ge:((h.push o1).push o2).get? (h.objs.size+1)=some o2:=by rw[←z2];exact abE _ (by rw[←ho2];rfl)
 have oc:o2.cls=.ref C:=by rw[←ho2]
 have cc:(Value.ref C::bm).contains (.ref C)=true:=by simp
 unfold isInstance
 repeat (first | (with_reducible refine acE ge ?_;rw[oc]) | (with_reducible refine wpAny_isSubtype_exc lc1 ?_;rw[cc])|wp_step)
 show wpAny _ _ (typeLookup (.ref C) _) _ _ _
 refine wpAny_typeLookup_tail lc1 n1 T1 VE.mroIs VE.init.lookup ?_
 rw[mi]
 refine wpAny_holding (abd ?_)
 unfold bindSpecial
 refine abd (wpAny_typeOf (T:="function") ⟨_,lf1,cf⟩ ?_)
 rw[abe (by decide)]
 have hm:Heap.MadeExcOf h ((h.push o1).push o2) (h.objs.size+1) (.ref C) us :=
  ⟨up,acw (Nat.le_succ _),h.objs.size,by rw[ge,←ho2],acw (abf _),by rw[abk _ (Heap.get?_push_at rfl (by rw[←ho1];rfl)),←ho1]⟩
 refine abl (abd (ab1 (k _ _ hm) (λr s' hr=>?_) λ_ _ z=>z))
 obtain⟨rfl,hQ⟩:=hr
 wp_walk
 exact hQ
theorem Lb{s:Shared}{oI:Obj}{Q:Value->Shared->Prop}(jr:K.In s.heap)(c:vg K C N bm (some (.ref fI)))(tl:A4 K bm)(lf:s.heap.get? fI=some oI)(cf:oI.cls=.type "function")(k:∀h' e,Heap.MadeExcOf s.heap h' e (.ref C) us->wpAny (model P w) (A.under (.builtin "type.__call__" ⟨.ref C::us,[]⟩)) (call (.ref fI) (.ref e::us)) (λr s'=>r=.none/\Q (.ref e) s') E {s with heap:=h'})(hu:us.length<=sizeLine):wpAny (model P w) A (call (.ref C) us) Q E s:=by
 obtain⟨nm,q,bs,hdct,sn,sub,ab,col,dd,k0,k1,k2,k3,k5,lc⟩:=c.obj jr
 obtain⟨h,g,dr,tk,os⟩:=s
 have t1:=tc_lookup
 have t2:=tc_bind (.ref C)
 have tT:(⟨h,g,dr,tk,os⟩:Shared).TypeIs (.ref C) "type":=⟨_,lc,rfl⟩
 refine wpAny_call (codeAny_of_tree ?_)
 show wpAny _ _ (callAny (.ref C) _) _ _ _
 repeat (any_goals (first|assumption|with_reducible refine acE lc ?_|wp_step))
 exact⟨O,codeAny_call_builtin_at (Code.quiet_builtin _ (by decide +kernel)) entry_typeCall (wpAny_check_type_call_sub lc (zH jr c tl lf cf k hu))⟩
theorem Lc{s:Shared}{ea:Addr}{oe:Obj}{vs:Array Value}{v:Value}{ini:Option Value}{Q:Value->Shared->Prop}(jr:K.In s.heap)(c:vg K C N bm ini)(tl:A4 K bm)(he:s.heap.get? ea=some oe)(hc:oe.cls=.ref C)(hd:oe.data=.fields vs)(hz:0<vs.size)(k:∀h' t,(∀b o,b≠ea->s.heap.get? b=some o->h'.get? b=some o)->h'.get? ea=some (oe.mapFields (·.setIfInBounds 0 (.ref t)))->Q .none {s with heap:=h'}):wpAny (model P w) A (call (.builtin "ValueError.__init__") [.ref ea,v]) Q E s:=by
 obtain⟨nm,q,bs,hdct,sn,sub,ab,col,dd,k0,k1,k2,k3,k5,lc⟩:=c.obj jr
 have VE:=PySem.F.excBase_ValueError
 obtain⟨h,g,dr,tk,os⟩:=s
 refine wpAny_call (codeAny_call_builtin VE.init.plain VE.initEntry (wpAny_check_init_subU VE (tl.tail jr) lc he hc ?_))
 wp_walk
 obtain⟨x0,WZ⟩:∃x0,vs[0]?=some x0:=⟨vs[0],Array.getElem?_eq_getElem hz⟩
 have R8:(h.push {cls:=.type "tuple",data:=.seq #[v]}).get? ea=some oe:=abk _ he
 have fin:=k ((h.push {cls:=.type "tuple",data:=.seq #[v]}).update ea (Obj.mapFields (·.setIfInBounds 0 (.ref h.objs.size)))) h.objs.size (λb o hb q=>(abX _ _ (ab9 hb)).trans (abk _ q))
  (acu _ R8 (ach (ab2 hd _)))
 rw[hd]
 refine abl ?_
 rw[WZ]
 refine abl (abd (wpAny_setField R8 hd hz ?_))
 cases x0<;>(wp_walk;exact fin)
theorem Fv{M:Model}{s:Shared}{env:Env}{ex:Expr}{pos:Pos}{ini:Option Value}{Q:Flow->Shared->Prop}(c:vg K C N bm ini)(tl:A4 K bm)(hh:A.handled=none)(h:wpAny M A (eval ex env) (λv s1=>∃e oe vs,v=.ref e/\K.In s1.heap/\s1.heap.get? e=some oe/\oe.cls=.ref C/\oe.data=.fields vs/\vs[1]?=some .none/\E (.ref e) s1) E s):wpAny M A (exec (.Raise (some ex) none pos) env) Q E s:=by
 have bc:(Value.ref C::bm).contains (.type "BaseException")=true:=by rw[acH,tl.base,Bool.or_true]
 rw[arm_exec_Raise]
 refine abd (wpAny_standAt ?_)
 show wpAny M A (raiseStmt env (some _) none) Q E s
 unfold raiseStmt
 refine abd (abd (ab1 h (λv s1 h1=>?_) λ_ _ z=>z))
 obtain⟨e,oe,vs,rfl,jr,he,hc,hd,h1,hE⟩:=h1
 refine abd (wpAny_standAt (abl ?_))
 obtain⟨nm,q,bs,hdct,sn,sub,ab,col,dd,k0,k1,k2,k3,k5,lc⟩:=c.obj jr
 obtain⟨hp,g,dr,tk,os⟩:=s1
 repeat (first | (with_reducible refine acE he ?_;rw[hc])|with_reducible refine acE lc ?_ | (with_reducible refine wpAny_isSubtype_exc lc ?_;rw[bc])|with_reducible refine wpAny_field he hd h1 ?_|wp_step)
 exact wpAny_raiseNew_none hh hE
end
def Iv(e:Addr)(C:Value)(od:Option Addr):HO:=.ext λh=>∃o vs,h.get? e=some o/\o.cls=C/\o.dict=od/\o.data=.fields vs/\vs[1]?=some .none/\vs[2]?=some .none
theorem Ld{P:Program}{w:World}{H:Hp}{h:Heap}{e:Addr}{C:Value}{od:Option Addr}(x:∃o vs,h.get? e=some o/\o.cls=C/\o.dict=od/\o.data=.fields vs/\vs[1]?=some .none/\vs[2]?=some .none):cW P w H h e (Iv e C od) :=
 ⟨x,(let ⟨o,_,q,_⟩:=x;⟨o,q⟩),λ_ _ ⟨o,vs,q,r⟩ k=>⟨o,vs,k o q,r⟩⟩
def Ny(d:Addr)(fs:List (Str×V)):HO:=.ext λh=>∃mA,h.Ns1 d mA/\(∀g,lP (fs.lookup g) (mA g))/\PySem.Within mA (fs.map (·.1))
theorem Pe{P:Program}{w:World}{H:Hp}{h:Heap}{d:Addr}{fs:List (Str×V)}(x:∃mA,h.Ns1 d mA/\(∀g,lP (fs.lookup g) (mA g))/\PySem.Within mA (fs.map (·.1))):cW P w H h d (Ny d fs) :=
 ⟨x,(let ⟨_,⟨o,_,_,q,_⟩,_⟩:=x;⟨o,q⟩),λ_ _ ⟨m,n,r⟩ k=>⟨m,n.at k,r⟩⟩
def del(H:Hp)(a:Addr):Hp:=λb=>if b=a then none else H b
theorem D4{H:Hp}{a:Addr}:del H a a=none:=abe rfl
theorem BW{H:Hp}{a b:Addr}(h:b≠a):del H a b=H b:=abb h
theorem Qs{H:Hp}{a:Addr}{o:HO}(h:H a=some o):upd H a o=H:=by
 funext b
 unfold upd
 split
 ·rename_i z;rw[z,h]
 ·rfl
section
variable{X:Cx}{pins:List (Addr×Obj)}{σ:St}{H:Hp}{s:Shared}{a:Addr}{φ:Heap->Prop}
theorem Inv.Nz(I:Inv X pins σ H s)(e:H a=some (.ext φ)):Inv X pins σ (del H a) s:=by
 have nn:∀b,H b=none->del H a b=none:=λb z=>by unfold del;split<;>first|rfl|exact z
 have nx:∀b u,H b=some u->(∀ψ,u≠.ext ψ)->del H a b=some u:=λb u z k=>by
  rw[BW]
  ·exact z
  ·rintro rfl;rw[e]at z;cases z;exact k φ rfl
 refine⟨I.ok,I.os,I.bare,⟨I.base.keep,I.base.slot,λb u q n hx=>nn b (I.base.free b u q n hx),I.base.there,λb xs q=>nx b _ (I.base.tups b xs q) (λ_ z=>nomatch z),λb u v q=>nx b _ (I.base.tU b u v q) (λ_ z=>nomatch z),λb ps q=>?_⟩,I.loc,I.cell,nn _ I.free,λx c q=>nn _ (I.iQ x c q),λp hp=>?_,λb u q=>?_,I.len⟩
 ·obtain⟨more,z⟩:=I.base.vU b ps q
  exact⟨more,nx b _ z (λ_ z=>nomatch z)⟩
 ·obtain⟨e1,n1,r⟩:=I.pin p hp
  exact⟨e1,nn _ n1,r⟩
 ·by_cases hb:b=a
  ·subst hb;rw[D4]at q;cases q
  ·rw[BW hb]at q
   exact(I.hok b u q).stay (λc v _ z=>z) (λc z=>nx c _ z (λ_ y=>nomatch y)) λc xs z=>nx c _ z (λ_ y=>nomatch y)
end
def W0(v:V):Prop:=(∃a:Int,v=.int a/\a.natAbs.log2<1920)\/∃x:Str,v=.str x/\x.length<=2000
section
variable{X:Cx}{e:Expr}{te:TE}{pos:Pos}
def W2(te:TE):TE:=λσ H Q=>te σ H λv H1=>W0 v/\∀z:Str,z.length<=2000->Q (.str z) H1
theorem Le(he:PE X e te):PE X (.FormattedValue e (-1) none pos) (W2 te):=by
 intro pins s σ H Q I h
 refine wpAny_FormattedValue_plain (cC (he pins s σ H _ I h) λu s1 ⟨v,H1,I1,r,f,q⟩=>?_)
 rcases f with ⟨a,rfl,ha⟩|⟨x,rfl,hx⟩
 ·obtain⟨t,rfl⟩:=(show ∃t,u=Value.int a t from r)
  exact wpAny_formatField_int ha ⟨.str (Str.ofString (toString a)),H1,I1.tok _,⟨_,rfl⟩,q _ (abn (int_text_len_1921 ha) (by decide))⟩
 ·obtain⟨t,rfl⟩:=(show ∃t,u=Value.str x t from r)
  exact wpAny_formatField_str ⟨.str x,H1,I1,⟨_,rfl⟩,q _ hx⟩ ⟨.str x,H1,I1.tok _,⟨_,rfl⟩,q _ hx⟩ (abn hx (by decide))
abbrev TJ:=St->Hp->(Hp->Prop)->Prop
def PJ(X:Cx)(parts:List Expr)(t:TJ):Prop:=∀(pins:List (Addr×Obj))(s:Shared)(σ:St)(H:Hp)(out:Str)(Q:Hp->Prop),Inv X pins σ H s->t σ H Q->out.length+2000*parts.length<=100000->wpAny (model X.prog X.w) X.A (joinParts out (evalEach parts X.env)) (λu s'=>∃z H',RelV (.str z) u/\Inv X pins σ H' s'/\Q H') X.xe s
theorem Qt:PJ X [] (λ_ H Q=>Q H):=λpins s σ H out Q I h hl=>joinParts_nil ⟨out,H,⟨_,rfl⟩,I.tok _,h⟩ (abn (show out.length<=100000 by simp at hl;exact hl) (by decide))
theorem xO{rest:List Expr}{t:TJ}(he:PE X e te)(hr:PJ X rest t)(hs:evalEach (e::rest) X.env=eval e X.env::evalEach rest X.env:=by rfl):PJ X (e::rest) (λσ H Q=>te σ H λv H1=>∃y:Str,v=.str y/\y.length<=2000/\t σ H1 Q):=by
 intro pins s σ H out Q I h hl
 rw[hs]
 refine joinParts_cons (cC (he pins s σ H _ I h) λu s1 ⟨v,H1,I1,r,y,ev,hy,q⟩=>?_)
 subst ev
 obtain⟨t,rfl⟩:=(show ∃t,u=Value.str y t from r)
 have el:(out++y).length=out.length+y.length:=Str.length_append ..
 rw[abG]at hl
 exact⟨abn (show(out++y).length<=100000 by omega) (by decide),hr pins s1 σ H1 (out++y) Q I1 q (by omega)⟩
theorem Iw{v1 v2:Expr}{rest:List Expr}{t:TJ}(h:PJ X (v1::v2::rest) t)(hn:2000*(v1::v2::rest).length<=100000:=by decide):PE X (.JoinedStr (v1::v2::rest) pos) (λσ H Q=>t σ H λH'=>∀z:Str,Q (.str z) H'):=by
 intro pins s σ H Q I hq
 refine JoinedStr_many ?_
 exact cC (h pins s σ H Str.empty _ I hq (by show 0+_<=_;omega)) λu s1 ⟨z,H1,r,I1,q⟩=>⟨.str z,H1,I1,r,q z⟩
end
section
variable{X:Cx}{C N D fI:Addr}{bm:List Value}{ini:Option Value}{x f:Str}{np ap pos cpos pos':Pos}{e o value a1 a2:Expr}{es:List Expr}{t:TA}{ta tv te:TE}
structure XIn(K:W.Frag)(D:Addr):Prop where
 sp:W.specialIn K (.ref D) "__getattribute__"=some (some (.builtin "type.__getattribute__"))
 rd:W.readsIn K D (.type "type")=true
 fc:W.findCls K (.ref D) (.type "type") "__init__"=some (.val (.builtin "ValueError.__init__"))
def Qu(C:Addr)(t:TA):TE:=λσ H Q=>t σ H λvs H1=>∃ea od z,vs=[.ref ea,z]/\H1 ea=some (Iv ea (.ref C) od)/\Q .non H1
theorem Lg{pl:Sem Bool}(hg:Gl X x)(hm:X.mg x=some (.ref D))(i:XIn X.K D)(c:vg X.K C N bm ini)(tl:A4 X.K bm)(ha:PA X [a1,a2] t)(hdb:(x==("__debug__":Str))=false:=by decide)(hst:starEach [a1,a2] X.env=(false,eval a1 X.env)::starEach [a2] X.env:=by rfl)(hpl:(backTo pos (starEach [a2] X.env)).any (·.1)=false:=by rfl)(ht:eval (.Call (.Attribute (.Name x np) "__init__" ap) [a1,a2] [] pos) X.env=(do
   let ov ←eval (.Name x np) X.env
   standAt ap.atName
   let (f,first) ←holding [ov] (getMethod ov "__init__" pl)
   callWith pos f first (backTo pos (starEach [a1,a2] X.env)) (backToKw pos (keywordEach [] X.env))):=by rfl):PE X (.Call (.Attribute (.Name x np) "__init__" ap) [a1,a2] [] pos) (Qu C t):=by
 intro pins s σ H Q I h
 refine W.methodCall_KW (pl:=pl) (kg I hg hm ?_ hdb) ht
 refine W.method_cls I.lu i.sp (W.cls_value I.lu i.rd i.fc (by decide +kernel) ?_)
 have I0:=I.tok (s.toks+1)
 refine PyProof.Rows.callWith_builtin1 (cC (ha pos pins _ σ H _ I0 h) λus s1 ⟨vs,H1,I1,r,ea,od,z,ev,vZ,q⟩=>?_) hst hpl
 subst ev
 obtain⟨⟨oe,ws,he,hc,hdi,hd,h1⟩,_⟩:=I1.hok ea _ vZ
 cases r with
 |cons r1 r' =>
  cases r' with
  |cons r2 r'' =>
   cases r''
   obtain rfl:=(show _=Value.ref ea from r1)
   have hz:=(acq.mp h1.1).1
   refine Lc I1.lu c tl he hc hd (by omega) λh' ta kp he'=>?_
   have W:=I1.write (x:=ea) (e:=ea) (o:=Iv ea (.ref C) od) (h':=h') (t':=s1.toks) (by rw[vZ];exact True.intro) (.inl rfl) kp ⟨_,he'⟩ (Ld ⟨_,_,he',(ym _ _).trans hc,(t9 _ _).trans hdi,ab2 hd _,by rw[acv (by decide)];exact h1.1,by rw[acv (by decide)];exact h1.2⟩)
   rw[Qs vZ]at W
   exact⟨.non,H1,W,O,q⟩
def Qv(C:Addr)(ta tv:TE)(f:Str):TS:=λD σ H=>tv σ H λy H1=>ta σ H1 λx H2=>∃ea,x=.ref ea/\H2 ea=some (Iv ea (.ref C) none)/\∀d,H2 d=none->D.nx σ (upd (upd H2 ea (Iv ea (.ref C) (some d))) d (Ny d [(f,y)]))
theorem Lh(hex:X.ex=[])(c:vg X.K C N bm ini)(tl:A4 X.K bm)(a:Nt X.K C f)(ha:PE X o ta)(hv:PE X value tv)(hs:swapsWith value (some (.Attribute o f pos')) pos.line X.env=pure false):PS X (.Assign [.Attribute o f pos'] value pos) (Qv C ta tv f):=by
 intro pins s σ H D I h
 refine plainObj_wpAny_Assign_Attribute (cC (hv pins s σ H _ I h) λu s1 ⟨y,H1,I1,ry,q⟩=>cC (ha pins s1 σ H1 _ I1 q) λov s2 ⟨x,H2,I2,rx,ea,ex,vZ,q2⟩=>?_) hs
 subst ex
 obtain rfl:ov=Value.ref ea:=rx
 obtain⟨⟨oe,ws,he,hc,hdi,hd,h1⟩,_⟩:=I2.hok ea _ vZ
 refine K9 I2.lu c tl a he hc hdi hd λh' tk x1 n1 kp=>?_
 have nd:H2 s2.heap.objs.size=none:=I2.hok.fresh (abf _)
 have W:=I2.write (x:=ea) (e:=ea) (o:=Iv ea (.ref C) (some s2.heap.objs.size)) (h':=h') (t':=tk) (by rw[vZ];exact True.intro) (.inl rfl) kp ⟨_,x1⟩ (Ld ⟨_,_,x1,hc,rfl,hd,h1⟩)
 have ne:s2.heap.objs.size≠ea:=λz=>by rw[z,vZ]at nd;cases nd
 have T:=I2.K8 W (a:=s2.heap.objs.size) (o:=Ny s2.heap.objs.size [(f,y)]) hex (by rw[aD ne];exact nd) (acw (abf _)) (Pe ⟨_,n1,λg=>?_,λg hg=>?_⟩)
 ·exact⟨σ,_,T,q2 _ nd⟩
 ·show lP (List.lookup g [(f,y)]) (if g=f then some u else none)
  by_cases z:g=f
  ·subst z;simp[List.lookup];exact ry
  ·rw[abb z];simp[List.lookup,beq_false_of_ne z];exact True.intro
 ·by_cases z:g=f
  ·rw[z];exact abh.mpr rfl
  ·exact absurd (abb z) hg
def Qw(C:Addr)(ta tv:TE)(f:Str):TS:=λD σ H=>tv σ H λy H1=>ta σ H1 λx H2=>∃ea d fs,x=.ref ea/\H2 ea=some (Iv ea (.ref C) (some d))/\H2 d=some (Ny d fs)/\fs.length<1000/\D.nx σ (upd H2 d (Ny d (lA f y fs)))
theorem Li(c:vg X.K C N bm ini)(tl:A4 X.K bm)(a:Nt X.K C f)(ha:PE X o ta)(hv:PE X value tv)(hs:swapsWith value (some (.Attribute o f pos')) pos.line X.env=pure false):PS X (.Assign [.Attribute o f pos'] value pos) (Qw C ta tv f):=by
 intro pins s σ H D I h
 refine plainObj_wpAny_Assign_Attribute (cC (hv pins s σ H _ I h) λu s1 ⟨y,H1,I1,ry,q⟩=>cC (ha pins s1 σ H1 _ I1 q) λov s2 ⟨x,H2,I2,rx,ea,d,fs,ex,vZ,hed,hl,q2⟩=>?_) hs
 subst ex
 obtain rfl:ov=Value.ref ea:=rx
 obtain⟨⟨oe,ws,he,hc,hdi,hd,h1⟩,_⟩:=I2.hok ea _ vZ
 obtain⟨⟨mA,hn,r,wi⟩,_⟩:=I2.hok d _ hed
 have hz:(fs.map (·.1)).length<=sizeLine:=by rw[abg,sizeLine_eq];omega
 refine La I2.lu c tl a he hc hdi hd hn wi hz λh' tk n1 sb=>?_
 have OX:∃o,h'.get? d=some o:=let ⟨o,_,_,e',_⟩:=n1;⟨o,e'⟩
 have W:=I2.write (x:=d) (e:=d) (o:=Ny d (lA f y fs)) (h':=h') (t':=tk) (by rw[hed];exact True.intro) (.inl rfl) (λb q hb z=>(sb.2 b hb).trans z) OX (Pe ⟨_,n1,λg=>?_,λg hg=>?_⟩)
 ·exact⟨σ,_,W,q2⟩
 ·show lP ((lA f y fs).lookup g) (if g=f then some u else mA g)
  rw[iR]
  by_cases q:g=f
  ·rw[abe q,abe q];exact ry
  ·rw[abb q,abb q];exact r g
 ·by_cases q:g=f
  ·rw[q];exact(lB f y fs).1
  ·refine(lB f y fs).2 g (wi g λz=>hg ?_)
   show(if g=f then some u else mA g)=none
   rw[abb q];exact z
def T4(C:Addr)(te:TE)(f:Str):TE:=λσ H Q=>te σ H λx H1=>∃ea d fs v,x=.ref ea/\H1 ea=some (Nq ea (.ref C) (some d))/\H1 d=some (Ny d fs)/\fs.lookup f=some v/\Q v H1
theorem Hi(c:vg X.K C N bm ini)(tl:A4 X.K bm)(a:Nt X.K C f)(he:PE X e te)(hb:attributeBase e f X.env (eval e X.env)=eval e X.env):PE X (.Attribute e f pos) (T4 C te f):=by
 intro pins s σ H Q I h
 refine GS hb (cC (he pins s σ H _ I h) λu s1 ⟨x,H1,I1,rx,ea,d,fs,v,ex,vZ,hed,l,q⟩=>?_)
 subst ex
 obtain rfl:u=Value.ref ea:=rx
 obtain⟨⟨oe,ws,he,hc,hdi,hd,_⟩,_⟩:=I1.hok ea _ vZ
 obtain⟨⟨mA,hn,r,wi⟩,_⟩:=I1.hok d _ hed
 obtain⟨u,hu,ru⟩:=lP.some_of (v:=v) (o:=mA f) (by rw[←l];exact r f)
 exact Nx I1.lu c tl a he hc hdi hd hn hu (AI ru) ⟨v,H1,I1.tok _,ru,q⟩
end
section
variable{P:Program}{w:World}{K:W.Frag}{mg:Str->Option Value}{base:Heap}{N0:List Str}{qual:Str}{scope:Scope}{f:Addr}{cd:Value}{A:Around}{outer:List Env}{s0:Shared}{H0:Hp}{E:XK}
def NB(E:XK)(C:Addr)(sp:Sp)(t:TA):TS:=λ_ σ H=>t σ H λvs H1=>vs.length<=sizeLine/\∀ea,H1 ea=none->sp (.ref ea::vs) (upd H1 ea (Iv ea (.ref C) none)) (λv H2=>v=.non/\∃od,H2 ea=some (Iv ea (.ref C) od)/\E (.ref C) od (del H2 ea)) E0
theorem Iz{X:Cx}(hX:X=BF (Nl P w) P w K mg base N0 qual scope f cd A outer s0 H0 E){C N fI:Addr}{bm:List Value}{x:Str}{np cpos pos:Pos}{e:Expr}{es:List Expr}{t:TA}{k:Nat}{fd:FuncData}{ps:List Str}{sp:Sp}{oI:Obj}(c:vg K C N bm (some (.ref fI)))(tl:A4 K bm)(lf:K.lookup fI=some oI)(cf:oI.cls=.type "function")(F:br P w K mg base fO k fI fd ps sp)(hr:fR (k+1) X.A)(hb:Binds K fd ps [])(hk:W.keepIn K (.ref C)=true)(hg:Gl X x)(hm:mg x=some (.ref C))(ha:PA X (e::es) t)(hdb:(x==("__debug__":Str))=false:=by decide)(he:starEach (e::es) X.env=(false,eval e X.env)::starEach es X.env:=by rfl)(hpl:(backTo cpos (starEach es X.env)).any (·.1)=false:=by rfl):PS X (.Raise (some (.Call (.Name x np) (e::es) [] cpos)) none pos) (NB E C sp t):=by
 intro pins s σ H D I h
 have hx:X.xe=λ(e:Value)(s':Shared)=>wpAny (model X.prog X.w) X.A (leaving X.env e) (λ_ s''=>Nl X.prog X.w X.outer X.H₀ X.s₀ E e s'') (λe' s''=>Nl X.prog X.w X.outer X.H₀ X.s₀ E e' s'') s':=by subst hX;rfl
 have hst:X.stack=X.env::X.outer:=by subst hX;rfl
 have hfm:X.env.frame=some X.env.locals:=by subst hX;rfl
 have hex:X.ex=[]:=by subst hX;rfl
 have hmg:X.mg x=some (.ref C):=by subst hX;exact hm
 have Qx:X.calm=true:=by subst hX;rfl
 have hK:X.K=K:=by subst hX;rfl
 have F':br X.prog X.w X.K X.mg X.base fO k fI fd ps sp:=by subst hX;exact F
 refine Fv (K:=K) c tl (I.ok.hd Qx) (aci (kg I hg hmg ?_ hdb))
 refine W.callWith_K (K:=X.K) (h₀:=X.base) I.ok.mod.jr (by rw[hK];exact hk) (cC (ha cpos pins s σ H _ I h) λus s1 ⟨vs,H1,I1,r,hl,q⟩=>⟨I1.lu,?_⟩) he hpl
 have jr:K.In s1.heap:=by rw[←hK];exact I1.lu
 refine Lb jr c tl (jr _ _ lf) cf (λh' ea md=>?_) (by show us.length<=sizeLine;rw[←r.length];exact hl)
 obtain⟨tt,q1,_,_⟩:=md.there
 have nea:H1 ea=none:=I1.hok.none md.new
 have I2:=I1.kept (t':=s1.toks) (h':=h') md.keeps
 have I3:=I1.K8 I2 (a:=ea) (o:=Iv ea (.ref C) none) hex nea md.new (Ld ⟨_,_,q1,rfl,rfl,rfl,rfl,rfl⟩)
 have hq:=q ea nea
 have r2:Vals (V.ref ea::vs) (Value.ref ea::us):=.cons rfl r
 have hlen:(Value.ref ea::us++[]).length=ps.length:=by rw[abI,←r2.length];exact F'.len _ _ _ _ hq
 have hb':=hb {s1 with heap:=h'} (Value.ref ea::us) (by rw[←hK];exact I3.lu) hlen
 rw[abI]at hb'
 refine wpAny_call (codeAny_mono (F'.run _ X.stack _ _ ⟨Value.ref ea::us,[]⟩ (Value.ref ea::us) _ _ E0 (hr.make C us []) (I3.MU.make C us []) hb' r2 hq) λrr s' hq'=>?_)
 cases rr with
 |error e=>exact hq'.elim
 |ok fl =>
  cases fl with
  |next=>exact hq'.elim
  |brk=>exact hq'.elim
  |cont=>exact hq'.elim
  |ret u =>
   obtain⟨v,H',os,bare,un,hok,rv,ev,od,vZ,hE⟩:=hq'
   subst ev
   have J:=I3.GN os un hok bare (λb z=>nomatch z)
   obtain⟨⟨oe,ws,R9,hc2,W3,hd2,h12⟩,_⟩:=J.hok ea _ vZ
   refine⟨rv,ea,oe,ws,O,by rw[←hK];exact J.lu,R9,hc2,hd2,h12.1,?_⟩
   rw[hx]
   exact leaveX (fl:=none) hst hfm hex I1 (J.Nz vZ) (λb o z=>un.there b o (md.keeps b o z) (by simp)) ⟨D4,md.new,oe,ws,R9,hc2,W3,hd2,h12⟩ (.inl rfl) hE
end
section
variable{P:Program}{w:World}{A:Around}{E:Value->Shared->Prop}{s:Shared}{K:W.Frag}{C N x:Addr}{bm:List Value}{ini:Option Value}{f:Str}{v:Value}{ox:Obj}{vs:Array Value}
end
section
variable{X:Cx}{K:W.Frag}
end
section
variable{X:Cx}{C N fI:Addr}{bm:List Value}{x:Str}{np cpos:Pos}{e:Expr}{es:List Expr}{t:TA}
end
section
variable{K:W.Frag}{C D N N':Addr}{bm bm':List Value}{ini TU:Option Value}{b:Bool}
end
open PySem PySem.Spec PyProof.Rows PySem.Builtin
section
variable{prog:Program}{w:World}{A:Around}{E:Value->Shared->Prop}{s:Shared}{α:Type}
end
end L2
set_option maxHeartbeats 4000000
namespace L2
open PySem PySem.Spec PyProof.Rows
section
variable{X:Cx}{tg:Expr}{ea:Addr}
end
section
variable{X:Cx}{elt tg iter:Expr}{ifs:List Expr}{scope:Scope}{pos:Pos}{N:List Str}{nv:Nat}{js:List Nat}{wi:TI}{g:TG}{tt:TT}{te:TE}
end
end L2
set_option maxHeartbeats 1000000
namespace L2
open PySem PySem.Spec PyProof.Rows
section
variable{P:Program}{w:World}{K:W.Frag}{mg:Str->Option Value}{base:Heap}
end
section
variable{X:Cx}{k:Nat}{f:Addr}{fd:FuncData}{ps:List Str}{sp:Sp}{x:Str}{p pos:Pos}{e:Expr}{es:List Expr}{t:TA}
end
end L2
set_option maxHeartbeats 4000000
namespace L2
open PySem PySem.Spec PyProof.Rows
section
variable{X:Cx}
end
section
variable{X:Cx}{K:Type}[DecidableEq K]{F:W.Frag}{Z:ki X.prog X.w K}
def W4{P:Program}{w:World}{K:Type}[DecidableEq K]{F:W.Frag}{Z:ki P w K}(Y:nK F Z):R2:=λx y H Q=>∃b b' ks ks',x=.ref b/\y=.ref b'/\qA Y H ks b/\qA Y H ks' b'/\Q (.bl (!decide (ks=ks'))) H
theorem Qy(Y:nK F Z)(hF:X.K=F)(hu:X.A.units+(Z.f9+1)<cLine):nD X (compareOp .NotEq) (W4 Y):=by
 intro pins s σ H x y v u Q I rx ry h
 obtain⟨b,b',ks,ks',rfl,rfl,e1,e2,q⟩:=h
 cases rx;cases ry
 obtain⟨o,items,n,h1,h2,h3,h4⟩:=e1.is hF I
 obtain⟨o',items',n',Tt,h2',h3',O6⟩:=e2.is hF I
 have l1:ks.length=items.size:=by rw[ab8 h4,abt]
 have l2:ks'.length=items'.size:=by rw[ab8 O6,abt]
 show wpAny _ _ (richCompare .NotEq (.ref b) (.ref b')) _ _ _
 refine SeqAt.RcNeAt.tuples (e:=λj=>decide (ks[j]?=ks'[j]?)) ⟨o,h1,h2,n,h3⟩ ⟨o',Tt,h2',n',h3'⟩ (by omega) (λj j1 j2=>?_) _ _ _ _ ⟨.bl (!decide (ks=ks')),H,I,?_,q⟩
 ·obtain⟨k,ek,hk⟩:=gC h4 j items[j] (by simp[j1])
  obtain⟨k',Tu,hk'⟩:=gC O6 j items'[j] (by simp[j2])
  rw[ek,Tu,show decide (some k=some k')=decide (k=k') by simp]
  exact Z.eq (by show X.A.units+1+Z.f9<cLine;omega) hk hk'
 ·show Value.bool _=Value.bool _
  rw[←l1,←l2,qz]
end
section
variable{prog:Program}{w:World}{A:Around}{E:Value->Shared->Prop}{s:Shared}
end
section
variable{prog:Program}{w:World}{A:Around}{E:Value->Shared->Prop}{s:Shared}
end
end L2
set_option synthInstance.maxSize 100000
set_option synthInstance.maxHeartbeats 400000
namespace L2
open PySem PySem.Spec PyProof.Rows
section
variable{X:Cx}{K:Type}[DecidableEq K]{F:W.Frag}{Z:ki X.prog X.w K}
end
abbrev ZP(P:Program)(w:World):=stepK (stepK (ZM P w))
abbrev YP(P:Program)(w:World)(F:W.Frag):nK F (ZP P w):=AW (AW (YM P w F))
theorem hp1{A:Around}{P:Program}{w:World}(h:A.units+64<cLine):A.units+((ZP P w).f9+1)<cLine:=by show A.units+4<cLine;omega
theorem hp2{A:Around}{P:Program}{w:World}(h:A.units+64<cLine):A.units+1+((ZP P w).f9+1)<cLine:=by show A.units+1+4<cLine;omega
section
variable{P:Program}{w:World}{F:W.Frag}{H:Hp}
end
section
variable{prog:Program}{w:World}{A:Around}{E:Value->Shared->Prop}{s:Shared}{d ep:Nat}{od:Obj}{es:Array DictEntry}
end
section
variable{X:Cx}{P:Program}{w:World}{K:Type}[DecidableEq K]{F:W.Frag}{Z:ki P w K}
end
section
variable{prog:Program}{w:World}{A:Around}{E:Value->Shared->Prop}{s:Shared}{d ep:Nat}{od:Obj}{es:Array DictEntry}
end
section
variable{prog:Program}{w:World}{A:Around}{E:Value->Shared->Prop}{s:Shared}{d ep:Nat}{od:Obj}{es:Array DictEntry}
end
section
variable{X:Cx}{P:Program}{w:World}{K:Type}[DecidableEq K]{F:W.Frag}{Z:ki P w K}
end
section
variable{X:Cx}{K:Type}[DecidableEq K]{F:W.Frag}{Z:ki X.prog X.w K}
def Lj{K:Type}[DecidableEq K](ks:List K)(k:K):Bool:=ks.any λx=>decide (x=k)
theorem NC(Y:nK F Z){pins:List (Addr×Obj)}{σ:St}{H:Hp}{s:Shared}(hF:X.K=F)(I:Inv X pins σ H s){kx:K}{x:V}{u:Value}(rx:RelV x u)(hx:Y.on H kx x){ks:List K}{ws:List V}{its:List Value}(pk:Paired (λk v=>Y.on H k v) ks ws)(rw':Vals ws its)(hu:X.A.units+1+Z.f9<cLine):∃e:Value->Bool,(∀v∈its,SeqAt.EqAt X.A.in1 s v u (e v))/\its.any e=Lj ks kx:=by
 have hxi:=Y.ok hF I rx hx
 have key:∀{ks:List K}{ws:List V}{its:List Value},Paired (λk v=>Y.on H k v) ks ws->Vals ws its->Paired (λk v=>Z.is s.heap k v) ks its:=by
  intro ks ws its a b
  exact Paired.HQ (nJ a b) λk u ⟨v,p,q⟩=>Y.ok hF I q p
 have pi:=key pk rw'
 clear pk rw' key
 refine⟨λv=>@decide (Z.is s.heap kx v) (Classical.propDecidable _),λv hv=>?_,?_⟩
 ·have h:∃k,Z.is s.heap k v:=by
   induction pi with
   |nil=>cases hv
   |cons a _ ih =>
    rcases abw.mp hv with q|q
    ·rw[q];exact⟨_,a⟩
    ·exact ih q
  obtain⟨k,hk⟩:=h
  have q:=Z.eq (A:=X.A.in1) (s:=s) (by show X.A.units+1+Z.f9<cLine;omega) hk hxi
  by_cases e:k=kx
  ·rw[abo e]at q
   have e2:@decide (Z.is s.heap kx v) (Classical.propDecidable _)=true:=@decide_eq_true _ (Classical.propDecidable _) (by rw[←e];exact hk)
   dsimp only
   rw[e2];exact q
  ·rw[abB e]at q
   have e2:@decide (Z.is s.heap kx v) (Classical.propDecidable _)=false:=@decide_eq_false _ (Classical.propDecidable _) (λz=>e (Z.inj hk z))
   dsimp only
   rw[e2];exact q
 ·induction pi with
  |nil=>rfl
  |@cons k v ks its a r ih =>
   unfold Lj at *
   rw[acR,acR,ih]
   congr 1
   by_cases e:k=kx
   ·rw[abo e];exact@decide_eq_true _ (Classical.propDecidable _) (by rw[←e];exact a)
   ·rw[abB e];exact@decide_eq_false _ (Classical.propDecidable _) (λz=>e (Z.inj a z))
end
section
variable{P:Program}{w:World}{K:Type}[DecidableEq K]
end
section
variable{X:Cx}{K:Type}[DecidableEq K]{Z:ki X.prog X.w K}{hl:Z.f9+1<=8}
end
section
variable{X:Cx}
end
section
variable{P:Program}{w:World}{K:Type}[DecidableEq K]{F:W.Frag}{Z:ki P w K}
end
section
variable{X:Cx}{K:Type}[DecidableEq K]{F:W.Frag}{Z:ki X.prog X.w K}{Y:nK F Z}{hl:Z.f9+1<=8}{i o:Expr}{ty td:TE}{pos:Pos}
end
section
variable{X:Cx}{P:Program}{w:World}{K:Type}[DecidableEq K]{F:W.Frag}{Z:ki P w K}{i o:Expr}{ty td:TE}{pos:Pos}
end
section
variable{X:Cx}{K:Type}[DecidableEq K]{F:W.Frag}{Z:ki X.prog X.w K}
def W5{P:Program}{w:World}{K:Type}[DecidableEq K]{F:W.Frag}{Z:ki P w K}(Y:nK F Z):R2:=λx y H Q=>∃p kx ks ws,y=.ref p/\Y.on H kx x/\bw F H p ws/\Paired (λk v=>Y.on H k v) ks ws/\Q (.bl (Lj ks kx)) H
theorem Qz(Y:nK F Z)(hF:X.K=F)(hu:X.A.units+1+Z.f9<cLine):nD X (compareOp .In) (W5 Y):=by
 intro pins s σ H x y v u Q I rx ry h
 obtain⟨p,kx,ks,ws,rfl,hx,hp,pk,q⟩:=h
 cases ry
 obtain⟨its,r,pl,hz⟩:=I.list (by rw[hF];exact hp)
 obtain⟨e,h1,h2⟩:=NC Y hF I rx hx pk r hu
 refine SeqAt.in_listAt e pl.isList (λw hwm=>h1 w (by simpa using hwm)) ⟨.bl _,H,I,rfl,?_⟩
 rw[show its.toArray.any e=its.any e by simp,h2]
 exact q
end
theorem Lk{scope:Scope}{env:Env}{x:Str}(h:scope.names.lookup x=some .free):(relabel scope env).names.lookup x=some .cell\/(relabel scope env).names.lookup x=some .free:=by
 have e:(relabel scope env).names.lookup x=(scope.names.lookup x).map λk=>if (k==NameKind.free&&env.scope.kind==.function&&env.kindOf x==some .cell) then NameKind.cell else k:=cP x scope.names
 rw[e,h,ab5]
 by_cases hc:(NameKind.free==NameKind.free&&env.scope.kind==.function&&env.kindOf x==some .cell)=true
 ·rw[abe hc];exact .inl rfl
 ·rw[abb hc];exact .inr rfl
theorem QA{scope:Scope}{env:Env}{x:Str}(h:scope.names.lookup x=some .cell\/scope.names.lookup x=some .free):(relabel scope env).names.lookup x=some .cell\/(relabel scope env).names.lookup x=some .free:=by
 rcases h with h|h
 ·have e:(relabel scope env).names.lookup x=(scope.names.lookup x).map λk=>if (k==NameKind.free&&env.scope.kind==.function&&env.kindOf x==some .cell) then NameKind.cell else k:=cP x scope.names
  rw[e,h,ab5]
  exact .inl rfl
 ·exact Lk h
structure jI(XN:List Str)(Ic:Scope)(N:List Str)(nv:Nat)(js:List Nat)(scope:Scope):Prop where
 kind:scope.kind=.function
 cell:∀y∈scope.names,y.2=.cell->scope.names.lookup y.1=some .cell
 loc:∀y∈scope.names,y.2=.local->scope.names.lookup y.1=some .local
 free:∀y∈scope.names,y.2=.free->scope.names.lookup y.1=some .free/\(Ic.names.lookup y.1=some .cell\/Ic.names.lookup y.1=some .free)
 nd:N.Nodup
 len:N.length=nv+js.length
 pl:js.map (λj=>XN[j]?)=(N.drop nv).map some
 fr:∀x∈N.drop nv,scope.names.lookup x=some .free
abbrev pT(scope:Scope)(C:Addr):List (Str×Addr):=cellsFrom (C+1) scope.names []
abbrev BX(X:Cx)(scope:Scope)(C:Addr):List (Str×Addr):=pT scope C++d9 X.env scope.names []
theorem kQ:∀(r:List (Str×NameKind))(n:Nat)(a b:List (Str×Addr)),cellsFrom n r (a++b)=cellsFrom n r a++b
 |[],_,_,_=>rfl
 | (x,k)::r,n,a,b=>by
  unfold cellsFrom
  split
  ·exact kQ r (n+1) ((x,n)::a) b
  ·exact kQ r n a b
theorem kR{x:Str}{c:Addr}:∀(r:List (Str×NameKind))(n:Nat)(a:List (Str×Addr)),(x,c)∈cellsFrom n r a->(x,NameKind.cell)∈r\/(x,c)∈a
 |[],_,_,h=>.inr h
 | (y,k)::r,n,a,h=>by
  unfold cellsFrom at h
  split at h
  ·rename_i hk
   have hk:k=.cell:=by simpa using hk
   rcases kR r (n+1) _ h with q|q
   ·exact .inl (abC _ q)
   ·rcases abw.mp q with q|q
    ·cases q;rw[hk];exact .inl abN
    ·exact .inr q
  ·rcases kR r n _ h with q|q
   ·exact .inl (abC _ q)
   ·exact .inr q
theorem jJ{α:Type}{x:Str}:∀(a b:List (Str×α)),(a++b).lookup x=(match a.lookup x with|some c=>some c|none=>b.lookup x)
 |[],_=>rfl
 | (y,c)::a,b=>by
  rw[List.cons_append,acj,acj]
  cases x==y with
  |true=>rfl
  |false=>exact jJ a b
abbrev kj(X:Cx)(N:List Str)(scope:Scope)(C:Addr)(s:Shared)(H:Hp)(fp:List Addr):Cx where
 prog:=X.prog
 w:=X.w
 K:=X.K
 mg:=X.mg
 base:=X.base
 A:=X.A
 N:=N
 s₀:=s
 H₀:=H
 env:=compEnvC scope (BX X scope C) C X.env
 outer:=X.stack
 stack:=X.stack
 ex:=fp
 fn:=λx=>(pT scope C).lookup x != none
 calm:=X.calm
 pn:=[]
 xe:=λ_ _=>False
theorem NF{M:Model}{A:Around}{E:Value->Shared->Prop}{s:Shared}{scope:Scope}{globals:Addr}{cl:List (Str×Addr)}{qual:Str}{env:Env}{Q:Env->Shared->Prop}(hQ:∀h1,(∀b o,s.heap.get? b=some o->h1.get? b=some o)->h1.Ns s.heap.objs.size (λ_=>none)->CellsOk h1 (s.heap.objs.size+1) (pT scope s.heap.objs.size)->Q (newEnv scope s.heap.objs.size globals (pT scope s.heap.objs.size++cl) qual none .none (some env) builtinsNs) {s with heap:=h1}):wpAny M A (newFunctionEnv scope globals cl [] qual none .none (some env)) Q E s:=by
 simp only[newFunctionEnv,Option.isSome_some,if_true]
 refine abd (wpAny_alloc ?_)
 refine abd (wpAny_layCells _ (λname kind cells=>by cases hkc:kind==NameKind.cell<;>simp[hkc]) _ _ _ _ ?_)
 have ok:=cellsFrom_ok scope.names (s.heap.push {cls:=.type "dict",data:=.dict #[]}) (s.heap.objs.size+1) [] ⟨λ_ _ hm=>(nomatch hm),List.Pairwise.nil⟩ (by rw[ack];exact abf _)
 rw[ack]at ok
 rw[show({s with heap:=s.heap.push {cls:=.type "dict",data:=.dict #[]}}:Shared).heap.objs.size=s.heap.objs.size+1 from ack ..]
 have e:=kQ scope.names (s.heap.objs.size+1) [] cl
 rw[acC]at e
 rw[e,List.forIn_nil]
 refine abd (abl (abl ?_))
 exact hQ _ (λb o e=>pushCells_keeps _ _ b o (abk _ e)) ((Heap.Ns.new s.heap (.type "dict")).keeps (pushCells_keeps _ _)) ok
section
variable{X:Cx}{pins:List (Addr×Obj)}{σ:St}{H:Hp}{s:Shared}
theorem Pf{scope:Scope}{C:Addr}{h1:Heap}(hfr:∀n,(n,NameKind.free)∈scope.names->∃c,X.env.cells.lookup n=some c)(ck:CellsOk h1 (C+1) (pT scope C)){x:Str}{c:Addr}(e:(BX X scope C).lookup x=some c):((x,c)∈pT scope C/\C<c/\h1.IsCell c none)\/(X.env.cells.lookup x=some c/\(d9 X.env scope.names []).lookup x=some c):=by
 rw[jJ]at e
 cases q:(pT scope C).lookup x with
 |some d =>
  rw[q]at e;cases e
  have hm:=abS q
  exact .inl ⟨hm,(ck.empty _ _ hm).2,(ck.empty _ _ hm).1⟩
 |none =>
  rw[q]at e
  exact .inr ⟨jF scope.names [] hfr (λx c z=>by cases z) _ _ e,e⟩
theorem D5{N:List Str}{nv:Nat}{js:List Nat}{scope:Scope}{fp:List Addr}{h1:Heap}{tk:Nat}(I:Inv X pins σ H s)(S:jI X.N X.env.scope N nv js scope)(hf:∀b∈fp,lQ X pins H b)(hfl:∀b∈fp,b<s.heap.objs.size)(keep:∀b o,s.heap.get? b=some o->h1.get? b=some o)(ns:h1.Ns s.heap.objs.size λ_=>none)(ck:CellsOk h1 (s.heap.objs.size+1) (pT scope s.heap.objs.size)):Inv (kj X N scope s.heap.objs.size s H fp) [] (jH nv js σ) H {s with heap:=h1,toks:=tk}:=by
 have hfr:∀n,(n,NameKind.free)∈scope.names->∃c,X.env.cells.lookup n=some c:=λn hn=>I.ok.has n (S.free _ hn rfl).2
 have sub:∀x c,(d9 X.env scope.names []).lookup x=some c->X.env.cells.lookup x=some c:=jF scope.names [] hfr (λx c z=>by cases z)
 have hlt:∀x c,X.env.cells.lookup x=some c->c<s.heap.objs.size:=λx c e=>by
  obtain⟨v,q⟩:=I.cell x c e
  exact q.lt
 have inv:∀x c,(BX X scope s.heap.objs.size).lookup x=some c->((x,c)∈pT scope s.heap.objs.size/\s.heap.objs.size<c/\h1.IsCell c none)\/(X.env.cells.lookup x=some c/\(d9 X.env scope.names []).lookup x=some c):=λx c e=>Pf hfr ck e
 have P9:∀x,(relabel scope X.env).names.lookup x=some .cell\/(relabel scope X.env).names.lookup x=some .free->scope.names.lookup x=some .free\/scope.names.lookup x=some .cell:=by
  intro x hx
  have e:=cP (env:=X.env) x scope.names
  have hx':(relabel scope X.env).names.lookup x=_:=e
  rw[hx']at hx
  cases q:scope.names.lookup x with
  |none=>rw[q]at hx;rcases hx with hx|hx<;>cases hx
  |some k =>
   rw[q,ab5]at hx
   cases k<;>first|exact .inl rfl|exact .inr rfl | (exfalso;rcases hx with hx|hx<;>simp at hx)
 refine⟨⟨I.ok.mod,S.kind,I.ok.glob,I.ok.blt,abf _,λx y c e1 e2=>?_,λx hx=>?_,λx c z e=>?_,I.ok.hd,I.ok.frames,.inl rfl,λb hb=>?_,λb o e=>?_,?_,λb o e hb=>?_,λb hb z=>?_,I.stack,I.xG⟩,O,I.bare,Un.kept keep,⟨_,ns,λi x v e1 e2 e3=>?_⟩,λx c e=>?_,I.hok.fresh (abf _),λx c e=>?_,λp hp=>absurd (show p∈([]:List (Addr×Obj)) from hp) (by simp),I.hok.kept keep,?_⟩
 ·rcases inv x c e1 with ⟨m1,l1,_⟩|⟨o1,_⟩<;>rcases inv y c e2 with ⟨m2,l2,_⟩|⟨o2,_⟩
  ·exact name_of_addr ck.apart m1 m2
  ·exact absurd (hlt _ _ o2) (Nat.not_lt.mpr (acN l1))
  ·exact absurd (hlt _ _ o1) (Nat.not_lt.mpr (acN l2))
  ·exact I.ok.inj x y c o1 o2
 ·show ∃c,(BX X scope s.heap.objs.size).lookup x=some c
  rw[jJ]
  cases q:(pT scope s.heap.objs.size).lookup x with
  |some d=>exact⟨d,rfl⟩
  |none =>
   rcases P9 x hx with z|z
   ·exact iS _ _ _ (.inl (abS z))
   ·have:=W.cellsFrom_some (x:=x) scope.names (s.heap.objs.size+1) [] (.inl z)
    rw[show cellsFrom (s.heap.objs.size+1) scope.names []=pT scope s.heap.objs.size from rfl,q]at this
    cases this
 ·have e:(BX X scope s.heap.objs.size).lookup x=some c:=e
  rw[jJ]at e
  cases q:(pT scope s.heap.objs.size).lookup x with
  |some d=>rw[q]at e;cases e;exact acN (ck.empty _ _ (abS q)).2
  |none =>
   have z:((pT scope s.heap.objs.size).lookup x != none)=true:=z
   rw[q]at z;cases z
 ·obtain⟨f0,f1,f2,f3,f4,f5⟩:=hf b hb
  refine⟨abK (hfl b hb),λx c e=>?_⟩
  rcases inv x c e with ⟨m1,l1,_⟩|⟨o1,_⟩
  ·exact Nat.ne_of_gt (Nat.lt_trans (hfl b hb) l1)
  ·exact f4 x c o1
 ·exact I.bs b o e
 ·exact abn I.ok.JI I.sz
 ·obtain⟨f0,f1,f2,f3,f4,f5⟩:=hf b hb
  rcases f3 with z|z
  ·exact I.ok.E2 b o e z
  ·exact absurd (abA (abu e) (abn I.ok.JI z)) (acp _)
 ·obtain⟨f0,f1,f2,f3,f4,f5⟩:=hf b hb
  rcases abw.mp (I.qx b z) with q|q
  ·exact f1 q
  ·exact f2 q
 ·
  have hi:¬i<nv:=λhlt=>by
   unfold jH at e2
   rw[List.getElem?_append_left (by simpa using hlt),List.getElem?_replicate,abe hlt]at e2
   cases e2
  obtain⟨k,rfl⟩:∃k,i=nv+k:=⟨i-nv,by omega⟩
  unfold jH at e2
  rw[acJ (by simp),acd,Nat.add_sub_cancel_left,abZ]at e2
  cases hj:js[k]? with
  |none=>rw[hj]at e2;cases e2
  |some j =>
   rw[hj,ab5]at e2
   have M4:(σ[j]?).getD none=some v:=abH e2
   have hσ:σ[j]?=some (some v):=by
    cases q:σ[j]? with
    |none=>rw[q]at M4;cases M4
    |some z=>rw[q]at M4;exact congrArg some M4
   have hd:(N.drop nv)[k]?=some x:=by rw[List.getElem?_drop];exact e1
   have hX:X.N[j]?=some x:=by
    have q:=congrArg (λl=>l[k]?) S.pl
    simp only[abZ,hj,hd,ab5]at q
    exact abH q
   have hfx:=S.fr x (abq hd)
   have kx:=(S.free _ (abS hfx) rfl).2
   obtain⟨m,_,hl⟩:=I.loc
   obtain⟨u,r,l⟩:=hl j x v hX hσ (.inr kx)
   refine⟨u,r,?_⟩
   rcases l with ⟨k1,_⟩|⟨_,c,hc,hcell⟩
   ·exfalso
    have VG:X.env.scope.names.lookup x=some .local:=k1
    rcases kx with z|z<;>(rw[VG]at z;cases z)
   ·obtain⟨c',hc'⟩:=iS (env:=X.env) scope.names [] x (.inl (abS hfx))
    have e:=sub _ _ hc'
    rw[hc]at e;cases e
    have hno:(pT scope s.heap.objs.size).lookup x=none:=by
     cases q:(pT scope s.heap.objs.size).lookup x with
     |none=>rfl
     |some d =>
      rcases kR _ _ _ (abS q) with z|z
      ·have:=S.cell _ z rfl
       rw[hfx]at this;cases this
      ·cases z
    refine .inr ⟨?_,c,?_,hcell.keeps keep⟩
    rotate_left
    ·show(BX X scope s.heap.objs.size).lookup x=some c
     rw[jJ,hno];exact hc'
    have e:=cP (env:=X.env) x scope.names
    have e':(relabel scope X.env).names.lookup x=_:=e
    rw[hfx,ab5]at e'
    show(relabel scope X.env).names.lookup x=some .cell\/(relabel scope X.env).names.lookup x=some .free
    rw[e']
    split
    ·exact .inl rfl
    ·exact .inr rfl
 ·rcases inv x c e with ⟨_,_,q⟩|⟨o1,_⟩
  ·exact⟨none,q⟩
  ·obtain⟨v,q⟩:=I.cell x c o1
   exact⟨v,q.keeps keep⟩
 ·rcases inv x c e with ⟨_,q,_⟩|⟨o1,_⟩
  ·exact I.hok.fresh (acN q)
  ·exact I.iQ x c o1
 ·unfold jH
  show _=N.length
  rw[abj,acd,abg,S.len]
end
section
variable{X:Cx}{elt tg iter:Expr}{ifs:List Expr}{scope:Scope}{pos:Pos}{N:List Str}{nv:Nat}{js:List Nat}{wi:TI}{g:TG}{tt:TT}{te:TE}
theorem D6{pins:List (Addr×Obj)}{σ:St}{H:Hp}{s:Shared}{Q:VK}{it:Addr}{fp:List Addr}{tn:Nat->Heap->Prop}{J:It}{E:Value->Shared->Prop}{RR:Value->Addr->Result->Shared->Prop}(hc:X.calm=true)(S:jI X.N X.env.scope N nv js scope)(hg:∀C s H fp,PG (kj X N scope C s H fp) tg g)(ht:∀C s H fp,BR (kj X N scope C s H fp) ifs tt)(he:∀C s H fp,PE (kj X N scope C s H fp) elt te)(I:Inv X pins σ H s)(T:Turn X.prog X.w X.K tg J fp it tn)(st:tn 0 s.heap)(hf:∀b∈fp,lQ X pins H b)(hR:∀D,H D=none->yb J g tt te Q D (jH nv js σ) H)(hRR:∀D C H' s' m,Inv X pins σ H' s'->lQ X pins H' C->s'.heap.Ns C m->Q (.ref D) H'->RR (.ref D) C (.ok .next) s'):wpAny (model X.prog X.w) X.A (newList []) (λacc s₃=>wpAny (model X.prog X.w) X.A (newFunctionEnv scope X.env.globals (d9 X.env scope.names []) [] X.env.qual none .none (some X.env)) (λcenv s₄ =>
   codeAny (model X.prog X.w) X.A (.compStart (.ListComp elt [⟨tg,iter,ifs,0⟩] scope pos) 0 (.ref it) acc {cenv with scope:=relabel scope X.env}) (RR acc cenv.locals) s₄) E s₃) E s:=by
 refine acD (NF λh₁ Hj ye Ll=>?_)
 have I3:Inv X pins σ (upd H s.heap.objs.size (.lst [])) {s with heap:=s.heap.push {cls:=.type "list",data:=.seq ([]:List Value).toArray}}:=I.P6 (t':=s.toks) (its:=[]) .nil (abO _)
 have hD:=I.fresh
 obtain⟨W,⟨m0,w0⟩,turn⟩:=hR s.heap.objs.size hD
 have ho:=T.obj 0 s.heap st
 have Kz:∀b∈fp,b<s.heap.objs.size:=λb hb=>let ⟨o,e,_⟩:=ho b hb;abu e
 have Fi:∀b∈fp,lQ X pins (upd H s.heap.objs.size (.lst [])) b:=λb hb=>⟨by rw[aD (abK (Kz b hb))];exact(hf b hb).1,(hf b hb).2⟩
 generalize Te:({s with heap:=s.heap.push {cls:=.type "list",data:=.seq ([]:List Value).toArray}}:Shared)=s3 at I3 ye Hj Ll
 have e3:s3.heap=s.heap.push {cls:=.type "list",data:=.seq ([]:List Value).toArray}:=by rw[←Te]
 have hfl:∀b∈fp,b<s3.heap.objs.size:=λb hb=>by rw[e3,ack];exact Nat.lt_succ_of_lt (Kz b hb)
 have keep:=Hj
 have J0:=D5 (tk:=s3.toks) I3 S Fi hfl keep ye Ll
 have st1:tn 0 h₁:=T.keep 0 s.heap h₁ st λb hb o e=>keep b o (by rw[e3];exact abk _ e)
 generalize hH3:upd H s.heap.objs.size (.lst [])=H3 at *
 generalize hY:kj X N scope s3.heap.objs.size s3 H3 fp=Y at *
 have inv:∀x c,(BX X scope s3.heap.objs.size).lookup x=some c->((x,c)∈pT scope s3.heap.objs.size/\s3.heap.objs.size<c/\h₁.IsCell c none)\/(X.env.cells.lookup x=some c/\(d9 X.env scope.names []).lookup x=some c):=λx c e=>Pf (λn hn=>I.ok.has n (S.free _ hn rfl).2) Ll e
 have xX:∀{H':Hp},(∀b∈fp,H' b=none)->∀b∈fp,lQ Y [] H' b:=λ{H'} hn b hb=>by
  subst hY
  obtain⟨f0,f1,f2,f3,f4,f5⟩:=Fi b hb
  refine⟨hn b hb,abK (hfl b hb),λz=>?_,.inl hb,λx c e=>?_,λp hp=>absurd (show p∈([]:List (Addr×Obj)) from hp) (by simp)⟩
  ·rcases abw.mp (I3.qx b z) with q|q
   ·exact f1 q
   ·exact f2 q
  ·rcases inv x c e with ⟨_,q,_⟩|⟨o1,_⟩
   ·exact Nat.ne_of_gt (Nat.lt_trans (hfl b hb) q)
   ·exact f4 x c o1
 have eA:Y.A=X.A:=by subst hY;rfl
 have eP:Y.prog=X.prog:=by subst hY;rfl
 have eW:Y.w=X.w:=by subst hY;rfl
 have eK:Y.K=X.K:=by subst hY;rfl
 have eC:Y.calm=true:=by subst hY;exact hc
 have eE:Y.env=compEnvC scope (BX X scope s3.heap.objs.size) s3.heap.objs.size X.env:=by subst hY;rfl
 have M6:Y.xe=λ_ _=>False:=by subst hY;rfl
 have Wt:PG Y tg g:=by subst hY;exact hg _ _ _ _
 have Wu:BR Y ifs tt:=by subst hY;exact ht _ _ _ _
 have Wv:PE Y elt te:=by subst hY;exact he _ _ _ _
 have loop:codeAny (model X.prog X.w) X.A (.compLoop (.ListComp elt [⟨tg,iter,ifs,0⟩] scope pos) 0 (.ref it) (.ref s.heap.objs.size) (compEnvC scope (BX X scope s3.heap.objs.size) s3.heap.objs.size X.env))
   (RR (.ref s.heap.objs.size) s3.heap.objs.size) {s3 with heap:=h₁,toks:=s3.toks}:=by
  refine yc (λn s'=>∃i ys τ H',Inv Y [] τ H' s'/\tn i s'.heap/\(∀b∈fp,H' b=none)/\W i n ys τ H') ?_ m0 ⟨0,[],_,H3,J0,st1,λb hb=>(Fi b hb).1,w0⟩
  rintro n s4 ⟨i,ys,τ,H4,I4,Tf,Tg,w4⟩
  obtain⟨hDl,tr⟩:=turn i n ys τ H4 w4
  rcases tr with ⟨stop,qn⟩|⟨go,Nn,Th,step⟩
  ·have d:=T.done Y eP eW eK eC i [] s4 τ H4 (λ_ _=>False) I4 (xX Tg) Tf stop
   rw[eA]at d
   refine cC d λr s5 ⟨hr,I5⟩=>?_
   subst hr
   have u:Inv X pins σ H4 s5:=by
    subst hY
    exact I3.GN (ch:=fp) I5.os I5.base I5.hok I5.bare λb hb=>⟨(Fi b hb).2.2.2.1,(Fi b hb).2.1,(Fi b hb).2.2.2.2.1,(Fi b hb).2.2.2.2.2⟩
   have hC:H4 s3.heap.objs.size=none:=by have z:=I5.free;rw[eE]at z;exact z
   obtain⟨m,hn,_⟩:=I5.loc
   rw[eE]at hn
   exact hRR _ _ H4 s5 m u (I3.vV (abf _) hC) hn qn
  ·have d:=T.item Y eP eW eK eC i [] s4 τ H4 (λ_ _=>False) I4 (xX Tg) Tf go
   rw[eA]at d
   refine cC d λr s5 ⟨u,hr,h5⟩=>?_
   subst hr
   refine cC h5 λ_ s6 ⟨x,H6,I6,r6,y6,Qa,Ww⟩=>?_
   have Wx:=I6.pinned (xX Ww) (T.obj _ _ Qa)
   have q6:=Wt _ s6 τ H6 x u _ Wx r6 (step x H6 y6)
   rw[eP,eW,eA,eE,M6]at q6
   refine cC q6 λ_ s7 ⟨σ7,H7,I7,q7⟩=>?_
   have q8:=Wu _ s7 σ7 H7 _ I7 q7
   rw[eP,eW,eA,eE,M6]at q8
   refine cC q8 λok s8 ⟨H8,I8,q8⟩=>?_
   have again:∀{σ9:St}{H9:Hp}{s9:Shared}{zs:List V},Inv Y ([]++tZ fp s6.heap) σ9 H9 s9->(∃m',m'<n/\W (i+1) m' zs σ9 H9)->∃m,m<n/\∃i ys τ H',Inv Y [] τ H' s9/\tn i s9.heap/\(∀b∈fp,H' b=none)/\W i m ys τ H':=λ{σ9 H9 s9 zs} I9 n9=>by
    obtain⟨m',hm,w9⟩:=n9
    refine⟨m',hm,i+1,zs,σ9,H9,I9.nG,T.keep _ _ _ Qa λb hb o e=>(I9.pin (b,o) (abD _ (abD _ (iB hb e)))).1,λb hb=>?_,w9⟩
    obtain⟨o,e,d⟩:=T.obj _ _ Qa b hb
    exact(I9.pin (b,o) (abD _ (abD _ (iB hb e)))).2.1
   cases ok with
   |false =>
    rw[abb abv]
    rw[abb abv]at q8
    exact again I8 (Th _ _ _ q8)
   |true =>
    rw[abe rfl]
    rw[abe rfl]at q8
    have q9:=Wv _ s8 σ7 H8 _ I8 q8
    rw[eP,eW,eA,eE,M6]at q9
    refine cC q9 λy s9 ⟨yv,H9,I9,r9,Wy,Wz,q9⟩=>?_
    have ap:=cN (X:=Y) _ s9 σ7 H9 (.ref s.heap.objs.size) [yv] (.ref s.heap.objs.size) [y] (λ_ R3=>Nn (ys++[yv]) σ7 R3) I9 rfl (.cons r9 .nil) ⟨_,ys,yv,rfl,rfl,Wy,Wz,q9⟩
    rw[eP,eW,eA,M6]at ap
    exact cC ap λ_ M7 ⟨_,R3,WA,_,WB⟩=>again WA (Th _ _ _ WB)
 subst Te
 exact codeAny_compStart_list loop (T.self _ 0 _ _ _ st1 loop)
theorem Lm{i:Nat}{x:Str}{pos' spos:Pos}(hc:X.calm=true)(hN:X.N.Nodup)(hi':X.N[i]?=some x)(hx:X.env.scope.names.lookup x=some .local)(S:jI X.N X.env.scope N nv js scope)(hi:PI X tg iter wi)(hg:∀C s H fp,PG (kj X N scope C s H fp) tg g)(ht:∀C s H fp,BR (kj X N scope C s H fp) ifs tt)(he:∀C s H fp,PE (kj X N scope C s H fp) elt te)(hsw:swapsWith (.ListComp elt [⟨tg,iter,ifs,0⟩] scope pos) (some (.Name x pos')) spos.line X.env=pure true:=by rfl)(hs:∀x,foldedSetIterable iter X.env x=pure x:=by intro _;rfl):PS X (.Assign [.Name x pos'] (.ListComp elt [⟨tg,iter,ifs,0⟩] scope pos) spos) (J7 (Kw wi g tt te nv js) (bR i)):=by
 intro pins s σ H D I h
 rw[exec_Assign_Name_used _ _ _ _ hsw]
 refine abd (wpAny_standAt (abd ?_))
 show wpAny _ X.A (do let _ ←comprehension (.ListComp elt [⟨tg,iter,ifs,0⟩] scope pos) scope X.env _ (newList []) false (eval iter X.env) (some (assign (.Name x pos') X.env))) _ _ s
 refine abd (ab1 (wpAny_comprehension_free (use:=some (assign (.Name x pos') X.env)) (Q:=λ_ s'=>SP X pins D .next s') rfl hs (kN λn hn=>I.ok.has n (S.free _ hn rfl).2) S.kind S.loc
  (cC (hi pins s σ H _ I h) λv s1 h1=>cC h1 λitv s2 h2=>?_)) (λ_ s' hq=>abl (abl hq)) λ_ _ e=>e)
 obtain⟨it,fp,tn,J,H2,e,I2,T,st2,f2,hR⟩:=h2
 subst e
 refine D6 (RR:=λacc C=>compPost (model X.prog X.w) X.A X.xe (some (assign (.Name x pos') X.env)) (λ_ s'=>SP X pins D .next s') acc C) hc S hg ht he I2 T st2 f2 hR ?_
 intro Dl C H' s' m I' fC hn q
 show wpAny _ X.A (assign (.Name x pos') X.env (.ref Dl)) _ _ _
 refine wpAny_assign_Name (tW I' hN hi' (.inl hx) (v:=.ref Dl) rfl (λs2 I3 ch=>?_) (.inr hx))
 obtain⟨a,sb,ha⟩:=ch
 have WC:C≠a:=by
  rcases ha with rfl|ha
  ·exact fC.2.1
  ·exact(fC.2.2.2.2.1 x a ha).symm
 refine⟨m,hn.sameBut sb WC,λh' sb'=>⟨_,H',?_,q⟩⟩
 exact I3.turned (t':=s2.toks) (λb o hb e=>(sb'.2 b hb).trans e) fC.1 fC.2.1 fC.2.2.2.1 fC.2.2.2.2.1 fC.2.2.2.2.2
end
theorem W6{XN:List Str}{Ic:Scope}{N:List Str}{nv:Nat}{js:List Nat}{scope:Scope}(kind:scope.kind=.function:=by rfl)(cell:∀y∈scope.names,y.2=.cell->scope.names.lookup y.1=some .cell:=by decide +kernel)(loc:∀y∈scope.names,y.2=.local->scope.names.lookup y.1=some .local:=by decide +kernel)(free:∀y∈scope.names,y.2=.free->scope.names.lookup y.1=some .free/\(Ic.names.lookup y.1=some .cell\/Ic.names.lookup y.1=some .free):=by decide +kernel)(nd:N.Nodup:=by decide +kernel)(len:N.length=nv+js.length:=by rfl)(pl:js.map (λj=>XN[j]?)=(N.drop nv).map some:=by rfl)(fr:∀x∈N.drop nv,scope.names.lookup x=some .free:=by decide +kernel):jI XN Ic N nv js scope:=⟨kind,cell,loc,free,nd,len,pl,fr⟩
theorem IA{x:Str}:[x].Nodup:=.cons (λy hy=>nomatch hy) .nil
section
variable{X:Cx}
theorem fu(i:Nat){x:Str}{pos:Pos}(hN:X.N.Nodup)(hi:X.N[i]?=some x:=by rfl)(hx:Loc X.env.scope x:=by first|exact .inl rfl|exact .inr rfl)(hf:X.fn x=true\/X.env.scope.names.lookup x=some .local:=by first|exact .inl rfl|exact .inr rfl|assumption):PG X (.Name x pos) (bR i):=MP hN hi hx hf
theorem dg(i:Nat){x:Str}{e:Expr}{te:TE}{pos pos':Pos}(hN:X.N.Nodup)(he:PE X e te)(hi:X.N[i]?=some x:=by rfl)(hx:Loc X.env.scope x:=by first|exact .inl rfl|exact .inr rfl)(hs:swapsWith e (some (.Name x pos')) pos.line X.env=pure false:=by rfl)(hf:X.fn x=true\/X.env.scope.names.lookup x=some .local:=by first|exact .inl rfl|exact .inr rfl|assumption):PS X (.Assign [.Name x pos'] e pos) (J7 te (bR i)):=PK hN hi hx he hs hf
theorem Hl{XN:List Str}{Ic:Scope}{N:List Str}{nv:Nat}{js:List Nat}{scope:Scope}(kind:scope.kind=.function:=by rfl)(cell:∀y∈scope.names,y.2≠.cell:=by decide +kernel)(loc:∀y∈scope.names,y.2=.local->scope.names.lookup y.1=some .local:=by decide +kernel)(free:∀y∈scope.names,y.2=.free->(Ic.names.lookup y.1=some .cell\/Ic.names.lookup y.1=some .free):=by decide +kernel)(nd:N.Nodup:=by decide +kernel)(len:N.length=nv+js.length:=by rfl)(pl:js.map (λj=>XN[j]?)=(N.drop nv).map some:=by rfl)(fr:∀x∈N.drop nv,scope.names.lookup x=some .free:=by decide +kernel):bD XN Ic N nv js scope:=⟨kind,cell,loc,free,nd,len,pl,fr⟩
theorem jC{id:String}{r:List V->Hp->VK->Prop}{x:Str}{e:Expr}{es:List Expr}{t:TA}{p pos:Pos}(hc:gK X (.builtin id) r)(hm:X.mg x=none)(ha:PA X (e::es) t)(hg:Gl X x:=by rfl)(hv:bootBuiltins x=some (.builtin id):=by decide +kernel)(hn:x ≠ "__name__":=by decide)(hdb:(x==("__debug__":Str))=false:=by decide)(he:starEach (e::es) X.env=(false,eval e X.env)::starEach es X.env:=by rfl)(hpl:(backTo pos (starEach es X.env)).any (·.1)=false:=by rfl):PE X (.Call (.Name x p) (e::es) [] pos) (VD r t):=Ko hc hg hm hv ha hn hdb he hpl
theorem Sa{T:String}{r:List V->Hp->VK->Prop}{x:Str}{e:Expr}{es:List Expr}{t:TA}{p pos:Pos}(hc:gK X (.type T) r)(hm:X.mg x=none)(ha:PA X (e::es) t)(hg:Gl X x:=by rfl)(hv:bootBuiltins x=some (.type T):=by decide +kernel)(hn:x ≠ "__name__":=by decide)(hdb:(x==("__debug__":Str))=false:=by decide)(he:starEach (e::es) X.env=(false,eval e X.env)::starEach es X.env:=by rfl)(hpl:(backTo pos (starEach es X.env)).any (·.1)=false:=by rfl):PE X (.Call (.Name x p) (e::es) [] pos) (VD r t):=HY hc hg hm hv ha hn hdb he hpl
theorem NG(n:String){x:Str}{pos:Pos}(hm:X.mg x=none)(hg:Gl X x:=by rfl)(hv:bootBuiltins x=some (.type n):=by decide +kernel)(hn:x ≠ "__name__":=by decide)(hd:(x==("__debug__":Str))=false:=by decide):PE X (.Name x pos) (tC (.ty n)):=Qe n hg hm hv hn hd
theorem fP{k kk:Nat}{f:Addr}{fd:FuncData}{ps:List Str}{sp:Sp}{x:Str}{e:Expr}{es:List Expr}{t:TA}{p pos:Pos}(F:br X.prog X.w X.K X.mg X.base fO k f fd ps sp)(hr:fR kk X.A)(hm:X.mg x=some (.ref f))(hk:W.keepIn X.K (.ref f)=true)(hb:Binds X.K fd ps [])(ha:PA X (e::es) t)(hkk:k<=kk:=by decide)(hg:Gl X x:=by rfl)(hdb:(x==("__debug__":Str))=false:=by decide)(he:starEach (e::es) X.env=(false,eval e X.env)::starEach es X.env:=by rfl)(hpl:(backTo pos (starEach es X.env)).any (·.1)=false:=by rfl):PE X (.Call (.Name x p) (e::es) [] pos) (Kh sp [] E0 t):=GV F (hr.mono hkk) hg hm hk hb .nil iz ha hdb he hpl
theorem gg(K:W.Frag){a b:Expr}{ta tb:TE}{pos:Pos}(ha:PE X a ta)(hb:PE X b tb)(hs:BJ b:=by exact λ_ _=>rfl)(h:X.K=K:=by rfl):PE X (.Subscript a b pos) (HW (HZ K) ta tb):=DH (M9 K h) ha hb hs
theorem rz(K:W.Frag){a b:Expr}{ta tb:TE}{pos:Pos}(ha:PE X a ta)(hb:PE X b tb)(hs:BJ b:=by exact λ_ _=>rfl)(h:X.K=K:=by rfl):PE X (.Subscript a b pos) (HW (P4 K) ta tb):=DH (KG K h) ha hb hs
theorem di{op:CmpOp}{r:R2}{a b:Expr}{ta tb:TE}{pos:Pos}(ho:nD X (compareOp op) r)(ha:PE X a ta)(hb:PE X b tb)(h:op≠.In:=by decide)(h2:op≠.NotIn:=by decide):PT X (.Compare a [op] [b] pos) (O3 (HW r ta tb)):=cI ho ha hb (Kd b h h2)
theorem yp{op:CmpOp}{r:R2}{a b:Expr}{ta tb:TE}{pos:Pos}(ho:nD X (compareOp op) r)(ha:PE X a ta)(hb:PE X b tb)(h:op≠.In:=by decide)(h2:op≠.NotIn:=by decide):PE X (.Compare a [op] [b] pos) (HW r ta tb):=xJ ho ha hb (Kd b h h2)
end
theorem bU{a b:TS}{D:Ends}{σ:St}{H:Hp}(h:∀R:TS,(∀D σ H,b D σ H->R D σ H)->MO a R D σ H):MO a b D σ H:=h b λ_ _ _ z=>z
abbrev FO(n q:Str)(s:Stmt)(d oc:Value)(od:Option Addr)(kV dc pm:Value)(an:Option Addr)(cd ct:Value)(sl:Array (Option Value)):Option Obj:=some ⟨oc,od,.func (W.fnOf n q (dh s) (cE s) (av s) d kV dc pm an cd ct),sl⟩
abbrev FN(n q:Str)(s:Stmt)(d kV dc pm:Value)(an:Option Addr)(cd ct:Value):FuncData:=W.fnOf n q (dh s) (cE s) (av s) d kV dc pm an cd ct
abbrev RF(a:Addr):Option (Option Value):=some (some (.ref a))
theorem fj.ng{K:W.Frag}{x qual:Str}{st:Stmt}{f:Addr}{fd:FuncData}{ps:List Str}(F:fj K x qual st f fd)(hp:ps.length=1:=by rfl)(h:∀(kV doc pm:Value)(an:Option Addr)(cdv ct a0:Value),bindArgs (W.fnOf x qual (dh st) (cE st) (av st) .none kV doc pm an cdv ct) ⟨[a0],[]⟩=pure (ps.zip [a0]):=by intros;rfl):Binds K fd ps [] :=
 F.binds λkV doc pm an cdv ct us hl=>by
  rw[hp]at hl
  match us,hl with
  |[a0],_=>exact h kV doc pm an cdv ct a0
theorem fj.lD{K:W.Frag}{x qual:Str}{st:Stmt}{f:Addr}{fd:FuncData}{ps:List Str}(F:fj K x qual st f fd)(hp:ps.length=2:=by rfl)(h:∀(kV doc pm:Value)(an:Option Addr)(cdv ct a0 a1:Value),bindArgs (W.fnOf x qual (dh st) (cE st) (av st) .none kV doc pm an cdv ct) ⟨[a0,a1],[]⟩=pure (ps.zip [a0,a1]):=by intros;rfl):Binds K fd ps [] :=
 F.binds λkV doc pm an cdv ct us hl=>by
  rw[hp]at hl
  match us,hl with
  |[a0,a1],_=>exact h kV doc pm an cdv ct a0 a1
theorem fj.pU{K:W.Frag}{x qual:Str}{st:Stmt}{f:Addr}{fd:FuncData}{ps:List Str}(F:fj K x qual st f fd)(hp:ps.length=3:=by rfl)(h:∀(kV doc pm:Value)(an:Option Addr)(cdv ct a0 a1 a2:Value),bindArgs (W.fnOf x qual (dh st) (cE st) (av st) .none kV doc pm an cdv ct) ⟨[a0,a1,a2],[]⟩=pure (ps.zip [a0,a1,a2]):=by intros;rfl):Binds K fd ps [] :=
 F.binds λkV doc pm an cdv ct us hl=>by
  rw[hp]at hl
  match us,hl with
  |[a0,a1,a2],_=>exact h kV doc pm an cdv ct a0 a1 a2
theorem fj.QB{K:W.Frag}{x qual:Str}{st:Stmt}{f:Addr}{fd:FuncData}{ps:List Str}(F:fj K x qual st f fd)(hp:ps.length=4:=by rfl)(h:∀(kV doc pm:Value)(an:Option Addr)(cdv ct a0 a1 a2 a3:Value),bindArgs (W.fnOf x qual (dh st) (cE st) (av st) .none kV doc pm an cdv ct) ⟨[a0,a1,a2,a3],[]⟩=pure (ps.zip [a0,a1,a2,a3]):=by intros;rfl):Binds K fd ps [] :=
 F.binds λkV doc pm an cdv ct us hl=>by
  rw[hp]at hl
  match us,hl with
  |[a0,a1,a2,a3],_=>exact h kV doc pm an cdv ct a0 a1 a2 a3
def FE(K:W.Frag)(x q:Str)(st:Stmt)(f:Addr):Prop:=∃fd,fj K x q st f fd
structure FQ(K:W.Frag)(x:Str)(st:Stmt)(f:Addr):Prop where
 a:W.nsIn K mainGlobals x=RF f
 e:FE K x x st f
structure FV(K:W.Frag)(C:Addr)(x q:Str)(st:Stmt)(f:Addr):Prop where
 a:W.findIn K (.ref C) x=RF f
 i:W.isFn K (.ref f)=true
 e:FE K x q st f
theorem FE.of{K:W.Frag}{x q:Str}{st:Stmt}{f:Addr}{oc:Value}{od an:Option Addr}{sl:Array (Option Value)}{kV dc pm cd ct:Value}(l:K.lookup f=FO x q st .none oc od kV dc pm an cd ct sl)(c:W.codeIn K cd q=true)(k:W.keepIn K (.ref f)=true):FE K x q st f:=⟨_,Kv l c k⟩
theorem FQ.of{K:W.Frag}{x:Str}{st:Stmt}{f:Addr}{oc:Value}{od an:Option Addr}{sl:Array (Option Value)}{kV dc pm cd ct:Value}(a:W.nsIn K mainGlobals x=RF f)(l:K.lookup f=FO x x st .none oc od kV dc pm an cd ct sl)(c:W.codeIn K cd x=true)(k:W.keepIn K (.ref f)=true):FQ K x st f:=⟨a,.of l c k⟩
theorem FV.of{K:W.Frag}{C:Addr}{x q:Str}{st:Stmt}{f:Addr}{oc:Value}{od an:Option Addr}{sl:Array (Option Value)}{kV dc pm cd ct:Value}(a:W.findIn K (.ref C) x=RF f)(i:W.isFn K (.ref f)=true)(l:K.lookup f=FO x q st .none oc od kV dc pm an cd ct sl)(c:W.codeIn K cd q=true)(k:W.keepIn K (.ref f)=true):FV K C x q st f:=⟨a,i,.of l c k⟩
end L2
namespace My
open PySem L2
def top(i:Nat):Stmt:=PySem.Challenge.pw_dialecthall_k43_written_and_read.main.body.getD i (.Pass ⟨0,0,0,0⟩)
abbrev jK:Stmt:=top 10
abbrev eo:Stmt:=top 28
abbrev bG:Stmt:=inClass (top 29) 0
abbrev jL:Stmt:=inClass (top 29) 1
abbrev lT:Stmt:=top 30
abbrev iZ:Stmt:=inClass (top 38) 0
abbrev gU:Stmt:=inClass (top 40) 0
abbrev Fw:Stmt:=top 16
abbrev gW:Stmt:=inClass (top 29) 2
abbrev gX:Stmt:=inClass (top 45) 0
abbrev fz:Stmt:=inClass (top 4) 0
abbrev fm:Stmt:=top 11
abbrev ua:Stmt:=top 12
abbrev rA:Stmt:=top 13
abbrev gY:Stmt:=top 14
abbrev jM:Stmt:=top 15
abbrev uc:Stmt:=top 19
abbrev gA:Stmt:=top 23
abbrev kT:Stmt:=top 24
abbrev nL:Stmt:=top 25
abbrev jN:Stmt:=top 26
abbrev gh:Stmt:=top 32
abbrev i0:Stmt:=top 33
abbrev kU:Stmt:=top 34
abbrev kW:Stmt:=top 35
abbrev i7:Stmt:=top 36
abbrev lU:Stmt:=top 37
abbrev nM:Stmt:=inClass (top 38) 1
abbrev iE:Stmt:=inClass (top 38) 2
abbrev fB:Stmt:=inClass (top 40) 1
abbrev e9:Stmt:=inClass (top 40) 2
abbrev fD:Stmt:=inClass (top 45) 1
abbrev iF:Stmt:=inClass (top 45) 2
abbrev fE:Stmt:=top 42
abbrev ud:Stmt:=top 43
abbrev uf:Stmt:=top 46
abbrev lV:Stmt:=top 47
abbrev jO:Stmt:=top 49
abbrev lW:Stmt:=top 50
abbrev kX:Stmt:=top 51
abbrev ug:Stmt:=top 52
abbrev nN:Stmt:=top 53
abbrev lX:Stmt:=top 54
abbrev nO:Stmt:=top 55
abbrev nP:Stmt:=top 56
abbrev nQ:Stmt:=top 58
abbrev nR:Stmt:=top 57
abbrev nS:Stmt:=top 59
abbrev nU:Stmt:=top 60
abbrev lY:Stmt:=top 61
abbrev kY:Stmt:=top 62
abbrev nV:Stmt:=top 63
abbrev jv:Stmt:=top 64
abbrev lZ:Stmt:=top 65
abbrev iM:Stmt:=top 66
abbrev jP:Stmt:=top 67
abbrev jQ:Stmt:=top 68
abbrev jw:Stmt:=top 69
abbrev jx:Stmt:=top 70
abbrev rB:Stmt:=top 71
theorem au{H:Hp}{l:Addr}{o:HO}(h:H l=none):aH H (upd H l o):=λb u e=>by rw[aD (aN e h)];exact e
theorem aR{H H2:Hp}{l:Addr}{o:HO}(h:H l=none)(s:aH H H2):aH H (upd H2 l o):=λb u e=>by rw[aD (aN e h)];exact s b u e
theorem qB{i:Nat}{x:V}{σ:St}{H:Hp}{A B:St->Hp->Prop}(h:A (σ.set i (some x)) H):bR i x σ H (λτ2 H2=>Td τ2 H2 λb H3=>if b=true then A τ2 H3 else B τ2 H3):=by
 show(if true=true then A (σ.set i (some x)) H else B (σ.set i (some x)) H)
 exact j9 h
theorem T5{p A B:Prop}[Decidable p](hp:p)(h:A):if decide p=true then A else B:=by rw[abe (abo hp)];exact h
theorem Ln{p A B:Prop}[Decidable p](hp:¬p)(h:B):if decide p=true then A else B:=by rw[abb (by simpa using hp)];exact h
theorem A6{A B:Prop}{b:Bool}(hb:b=true)(h:B):if (!b)=true then A else B:=by rw[hb];exact cJ h
theorem Fx{α:Type}{xs:List α}{i:Int}(h0:0<=i)(h:i<xs.length):∃c,Dv xs i=some c/\c∈xs:=by
 obtain⟨j,rfl⟩:∃j:Nat,i=j:=⟨i.toNat,by omega⟩
 have hj:j<xs.length:=by omega
 exact⟨xs[j],iK (by simp[hj]),List.getElem_mem hj⟩
theorem take_snoc{l:List Nat}{i c:Nat}(h:l[i]?=some c):l.take (i+1)=l.take i++[c]:=by
 rw[List.take_succ,h];rfl
def Pn(c:Nat):Prop:=32<=c/\c<=126/\c≠37
instance(c:Nat):Decidable (Pn c):=by unfold Pn;exact inferInstance
structure Sg(z:Str):Prop where
 nd:z.cps.toList.Nodup
 pr:∀c∈z.cps.toList,Pn c
def Mn(z:Str):Prop:=0<z.length/\z.length<=100/\∀c∈z.cps.toList,Pn c
instance(z:Str):Decidable (Mn z):=by unfold Mn;exact inferInstance
structure Gd(p q f:Str):Prop where
 gp:Sg p
 gq:Sg q
 gf:Sg f
 p1:1<=p.length
 p3:p.length<=3
 q2:q.length<=2
 f2:f.length<=2
def gb(p q f:Str)(b1 b2 b3 b4:Bool):List V:=[.str p,.str q,.str f,.bl b1,.bl b2,.bl b3,.bl b4]
def zI(p q f:Str)(b1 b2 b3 b4:Bool):List (Str×V):=[("parts",.str p),("quotes",.str q),("frees",.str f),("twin",.bl b1),("wide",.bl b2),("thin",.bl b3),("stray",.bl b4)]
def away(t:Str)(c:Nat):Bool:=!(!(Builtin.Str.occurrences t (sg c) 0 t.length 1).isEmpty)
theorem lE(t:Str)(c:Nat):away t c=true↔c∉t.cps.toList:=by
 unfold away
 have e:(!(Builtin.Str.occurrences t (sg c) 0 t.length 1).isEmpty)=decide (c∈t.cps.toList):=StrLaws.found_one t c
 rw[e]
 simp
theorem QC{z:Str}{c:Nat}(h:Sg z)(hc:Pn c)(ha:away z c=true):Sg (z++sg c):=by
 have e:(z++sg c).cps.toList=z.cps.toList++[c]:=by
  show(z.cps ++ #[c]).toList=_
  simp
 have hn:=(lE z c).mp ha
 refine⟨?_,?_⟩
 ·rw[e,List.nodup_append]
  refine⟨h.nd,by simp,λa ha b hb=>?_⟩
  rw[abh.mp hb]
  intro q;exact hn (q▸ha)
 ·rw[e]
  intro d hd
  rcases abp.mp hd with z'|z'
  ·exact h.pr d z'
  ·rw[abh.mp z'];exact hc
theorem QD:Sg ("":Str):=by
 have e:("":Str).cps.toList=[]:=by decide +kernel
 refine⟨?_,?_⟩
 ·rw[e];exact List.nodup_nil
 ·rw[e];intro c hc;cases hc
theorem bE(a b:Str):(a++b).length=a.length+b.length:=by
 show(a.cps++b.cps).size=_
 rw[Array.size_append];rfl
theorem aF{K:W.Frag}{H H':Hp}{a:Addr}{xs:List V}(e:aH H H')(h:bz K H a xs):bz K H' a xs:=by
 rcases h with (h|⟨o,h⟩)|h
 ·exact .inl (.inl (e _ _ h))
 ·exact .inl (.inr ⟨o,e _ _ h⟩)
 ·exact .inr h
theorem Lo{A B:Prop}{b:Bool}(hb:b=false)(h:A):if (!b)=true then A else B:=by rw[hb];exact j9 h
theorem ko{A B:Prop}{b:Bool}(hb:b=true)(h:A):if b=true then A else B:=by rw[hb];exact j9 h
theorem jj{A B:Prop}{b:Bool}(hb:b=false)(h:B):if b=true then A else B:=by rw[hb];exact cJ h
def gQ(c:Nat)(z:Str):Bool:=!(Builtin.Str.occurrences z (sg c) 0 z.length 1).isEmpty
def aU(a b:Str):Bool:=decide (V.str a=V.str b)
theorem gi{a b:Str}(h:aU a b=true):a=b:=by have:=abF h;cases this;rfl
theorem aY(a:Str):aU a a=true:=abo rfl
inductive Res where
 |go (k w u:Str)
 |kL (w:Str)
def wc(K:W.Frag)(H:Hp)(v:V):Res->Prop
 | .go k w u=>aU k ("fault":Str)=false/\∃a b,v=.ref a/\bz K H a [.str k,.ref b]/\bz K H b [.str w,.str u]
 | .kL w=>∃a,v=.ref a/\bz K H a [.str ("fault":Str),.str w]
theorem bT{K:W.Frag}{H:Hp}{Q:VK}{k w u:Str}{r:Res}(e:r=.go k w u)(hk:aU k ("fault":Str)=false)(h:∀v H',aH H H'->wc K H' v r->Q v H'):[V.str w,V.str u].length<=sizeLine/\∀b,H b=none->([V.str k,V.ref b].length<=sizeLine/\∀a,(upd H b (.tup [.str w,.str u])) a=none->Q (.ref a) (upd (upd H b (.tup [.str w,.str u])) a (.tup [.str k,.ref b]))):=by
 refine⟨(by show 2<=sizeLine;decide),λb hb=>⟨(by show 2<=sizeLine;decide),λa ha=>?_⟩⟩
 have s1:=au (o:=HO.tup [.str w,.str u]) hb
 have s2:=au (o:=HO.tup [.str k,.ref b]) ha
 refine h _ _ (s1.trans s2) ?_
 rw[e]
 exact⟨hk,a,b,O,bz.of aj,aF s2 (bz.of aj)⟩
theorem iG{K:W.Frag}{H H0:Hp}{Q:VK}{k w u:Str}{r:Res}{b:Addr}(e:r=.go k w u)(hk:aU k ("fault":Str)=false)(s0:aH H0 H)(hb:bz K H b [.str w,.str u])(h:∀v H',aH H0 H'->wc K H' v r->Q v H'):[V.str k,V.ref b].length<=sizeLine/\∀a,H a=none->Q (.ref a) (upd H a (.tup [.str k,.ref b])):=by
 refine⟨(by show 2<=sizeLine;decide),λa ha=>?_⟩
 have s2:=au (o:=HO.tup [.str k,.ref b]) ha
 refine h _ _ (s0.trans s2) ?_
 rw[e]
 exact⟨hk,a,b,O,bz.of aj,aF s2 hb⟩
theorem ja{K:W.Frag}{H:Hp}{Q:VK}{w:Str}{r:Res}(e:r=.kL w)(h:∀v H',aH H H'->wc K H' v r->Q v H'):[V.str ("fault":Str),V.str w].length<=sizeLine/\∀a,H a=none->Q (.ref a) (upd H a (.tup [.str ("fault":Str),.str w])):=by
 refine⟨(by show 2<=sizeLine;decide),λa ha=>?_⟩
 have s2:=au (o:=HO.tup [.str ("fault":Str),.str w]) ha
 refine h _ _ s2 ?_
 rw[e]
 exact⟨a,O,bz.of aj⟩
theorem dj:aU ("skip":Str) ("fault":Str)=false:=by decide +kernel
theorem qC:aU ("end":Str) ("fault":Str)=false:=by decide +kernel
theorem mh:aU ("part":Str) ("fault":Str)=false:=by decide +kernel
theorem cZ:aU ("put":Str) ("fault":Str)=false:=by decide +kernel
def eB(p q f:Str)(b3:Bool)(w u:Str)(c:Nat):Res :=
 if gQ c f=true then .go ("skip":Str) ("freed":Str) ("":Str) else
 if aU (sg c) (Str.ofString "\n")=true then .go ("end":Str) ("row":Str) ("":Str) else
 if gQ c q=true then .go ("skip":Str) ("within":Str) (sg c) else
 if gQ c p=true then .go ("part":Str) ("cell":Str) ("":Str) else
 if aU (sg c) (" ":Str)=true then (if b3=true then .go ("skip":Str) w u else .go ("put":Str) ("plain":Str) ("":Str)) else
 .go ("put":Str) ("plain":Str) ("":Str)
def ff(p q f:Str)(b4:Bool)(c:Nat):Res :=
 if gQ c f=true then .go ("skip":Str) ("freed":Str) ("":Str) else
 if aU (sg c) (Str.ofString "\n")=true then .go ("end":Str) ("row":Str) ("":Str) else
 if gQ c p=true then .go ("part":Str) ("cell":Str) ("":Str) else
 if gQ c q=true then (if (!b4)=true then .kL ("quote":Str) else .go ("put":Str) ("plain":Str) ("":Str)) else
 .go ("put":Str) ("plain":Str) ("":Str)
def cF(f:Str)(b1 b2:Bool)(u:Str)(c:Nat):Res :=
 if gQ c f=true then .go ("skip":Str) ("freed":Str) u else
 if aU (sg c) u=true then (if b1=true then .go ("skip":Str) ("doubt":Str) u else .go ("skip":Str) ("behind":Str) ("":Str)) else
 if aU (sg c) (Str.ofString "\n")=true then (if (!b2)=true then .kL ("line":Str) else .go ("put":Str) ("within":Str) u) else
 .go ("put":Str) ("within":Str) u
def bO(p:Str)(b3:Bool)(c:Nat):Res :=
 if aU (sg c) (Str.ofString "\n")=true then .go ("end":Str) ("row":Str) ("":Str) else
 if gQ c p=true then .go ("part":Str) ("cell":Str) ("":Str) else
 if aU (sg c) (" ":Str)=true then (if b3=true then .go ("skip":Str) ("behind":Str) ("":Str) else .kL ("behind":Str)) else
 .kL ("behind":Str)
def gD(p:Str)(b3:Bool)(u:Str)(c:Nat):Res:=if aU (sg c) u=true then .go ("put":Str) ("within":Str) u else bO p b3 c
def dw(u:Str):Res:=if aU u ("":Str)=true then .go ("put":Str) ("plain":Str) ("":Str) else .go ("put":Str) ("within":Str) u
def fF(b2:Bool)(u:Str)(c:Nat):Res :=
 if aU (sg c) (Str.ofString "\n")=true then (if (!b2)=true then .kL ("line":Str) else dw u) else dw u
def fq(p q f:Str)(b3 b4:Bool)(w u:Str)(c:Nat):Res:=if aU w ("plain":Str)=true then ff p q f b4 c else eB p q f b3 w u c
def bA(p q f:Str)(b1 b2 b3 b4:Bool)(w u:Str)(c:Nat):Res :=
 if aU w ("within":Str)=true then cF f b1 b2 u c else
 if aU w ("freed":Str)=true then fF b2 u c else
 if aU w ("doubt":Str)=true then gD p b3 u c else
 if aU w ("behind":Str)=true then bO p b3 c else
 fq p q f b3 b4 w u c
theorem ns{a b:String}(h:aU (Str.ofString a) (Str.ofString b)=false):¬aU (Str.ofString a) (Str.ofString b)=true:=by rw[h];decide
theorem Lp{p q f:Str}{b1 b2 b3 b4:Bool}{w u:Str}{c:Nat}(h:aU w ("plain":Str)=true):bA p q f b1 b2 b3 b4 w u c=ff p q f b4 c:=by
 cases gi h
 unfold bA fq
 rw[abb (ns (by decide +kernel)),abb (ns (by decide +kernel)),abb (ns (by decide +kernel)),abb (ns (by decide +kernel)),abe (aY _)]
theorem fW{p q f:Str}{b1 b2 b3 b4:Bool}{w u:Str}{c:Nat}(h:aU w ("within":Str)=true):bA p q f b1 b2 b3 b4 w u c=cF f b1 b2 u c:=by
 unfold bA
 rw[abe h]
theorem iT{p q f:Str}{b1 b2 b3 b4:Bool}{w u:Str}{c:Nat}(h:aU w ("doubt":Str)=true):bA p q f b1 b2 b3 b4 w u c=gD p b3 u c:=by
 cases gi h
 unfold bA
 rw[abb (ns (by decide +kernel)),abb (ns (by decide +kernel)),abe (aY _)]
theorem iH{p q f:Str}{b1 b2 b3 b4:Bool}{w u:Str}{c:Nat}(h:aU w ("behind":Str)=true):bA p q f b1 b2 b3 b4 w u c=bO p b3 c:=by
 cases gi h
 unfold bA
 rw[abb (ns (by decide +kernel)),abb (ns (by decide +kernel)),abb (ns (by decide +kernel)),abe (aY _)]
theorem jR{p q f:Str}{b1 b2 b3 b4:Bool}{w u:Str}{c:Nat}(h:aU w ("freed":Str)=true):bA p q f b1 b2 b3 b4 w u c=fF b2 u c:=by
 cases gi h
 unfold bA
 rw[abb (ns (by decide +kernel)),abe (aY _)]
theorem BY{p q f:Str}{b1 b2 b3 b4:Bool}{w u:Str}{c:Nat}(h1:aU w ("within":Str)=false)(h2:aU w ("freed":Str)=false)(h3:aU w ("doubt":Str)=false)(h4:aU w ("behind":Str)=false):bA p q f b1 b2 b3 b4 w u c=fq p q f b3 b4 w u c:=by
 unfold bA
 rw[h1,h2,h3,h4]
 rfl
theorem gZ{b:Bool}(h:¬b=true):b=false:=by cases b<;>simp_all
def W7(d:Addr):List (Str×V):=[("dialect",.ref d)]
structure Tn(C CT:Addr)(H:Hp)(y:Addr)(p q f:Str)(b1 b2 b3 b4:Bool):Prop where
 ok:∃dy d dd,H y=some (.ins CT dy (W7 d))/\H d=some (.ins C dd (zI p q f b1 b2 b3 b4))
theorem Tn.mono{C CT:Addr}{H H':Hp}{y:Addr}{p q f:Str}{b1 b2 b3 b4:Bool}(s:aH H H')(h:Tn C CT H y p q f b1 b2 b3 b4):Tn C CT H' y p q f b1 b2 b3 b4:=by
 obtain⟨dy,d,dd,e1,e2⟩:=h.ok
 exact⟨dy,d,dd,s _ _ e1,s _ _ e2⟩
theorem uh{H H':Hp}{y dy:Addr}{o:HO}(hy:H y=none)(Sb:H dy=none)(kp:∀b o',upd (upd H dy (.own y)) y o b=some o'->b≠y->H' b=some o'):aH H H':=λb o' e=>kp b o' (by rw[aD (aN e hy),aD (aN e Sb)];exact e) (aN e hy)
theorem nW{H:Hp}{y dy b:Addr}{o o':HO}(hy:H y=none)(Sb:H dy=none)(e:H b=some o'):upd (upd H dy (.own y)) y o b=some o':=by rw[aD (aN e hy),aD (aN e Sb)];exact e
def c7(K:W.Frag)(H:Hp)(x:V)(w:Str×Str):Prop:=∃a,x=.ref a/\bz K H a [.str w.1,.str w.2]
theorem c7.mono{K:W.Frag}{H H':Hp}{x:V}{w:Str×Str}(e:aH H H')(h:c7 K H x w):c7 K H' x w:=let ⟨a,e1,e2⟩:=h;⟨a,e1,aF e e2⟩
theorem c7.but{K:W.Frag}{H:Hp}{x:V}{w:Str×Str}{l:Addr}{ys:List V}{o:HO}(hl:H l=some (.lst ys))(h:c7 K H x w):c7 K (upd H l o) x w:=by
 obtain⟨a,e1,e2⟩:=h
 refine⟨a,e1,?_⟩
 rcases e2 with (h|⟨ob,h⟩)|h
 ·exact .inl (.inl ((aD (ji h hl (by intro z;cases z))).trans h))
 ·exact .inl (.inr ⟨ob,(aD (ji h hl (by intro z;cases z))).trans h⟩)
 ·exact .inr h
theorem aE{α β:Type}{F G:α->β->Prop}(h:∀a b,F a b->G a b):∀{xs:List α}{ys:List β},Paired F xs ys->Paired G xs ys
 |_,_,.nil=>.nil
 |_,_,.cons q r=>.cons (h _ _ q) (aE h r)
theorem dI{α β:Type}{F:α->β->Prop}:∀{xs xs':List α}{ys ys':List β},Paired F xs ys->Paired F xs' ys'->Paired F (xs++xs') (ys++ys')
 |_,_,_,_,.nil,r=>r
 |_,_,_,_,.cons q t,r=>.cons q (dI t r)
theorem aW{α β:Type}{F:α->β->Prop}:∀{xs:List α}{ys:List β},Paired F xs ys->∀(j:Nat) x,xs[j]?=some x->∃y,ys[j]?=some y/\F x y
 |_,_,.nil,j,x,h=>by simp at h
 |_,_,.cons q t,0,x,h=>by simp at h;subst h;exact⟨_,rfl,q⟩
 |_,_,.cons q t,j+1,x,h=>by
  obtain⟨y,h1,h2⟩:=aW t j x (by simpa using h)
  exact⟨y,by simpa using h1,h2⟩
def c5:List (Str×Str):=[(Str.ofString "row",("":Str)),(Str.ofString "cell",("":Str)),(Str.ofString "plain",("":Str)),(Str.ofString "behind",("":Str)),(Str.ofString "freed",("":Str))]
def c3(c:Nat):List (Str×Str):=[(Str.ofString "within",sg c),(Str.ofString "doubt",sg c),(Str.ofString "freed",sg c)]
def cont(l:List Nat):List (Str×Str):=c5++l.flatMap c3
def W8(u f:Str):Bool:=!(!(Builtin.Str.occurrences f u 0 f.length 1).isEmpty)
def cg(f w u:Str):Bool:=if aU u ("":Str)=true then true else if aU w ("doubt":Str)=true then true else W8 u f
def D7(w u:Str):Bool:=BS [.str w,.str u] [.str ("row":Str),.str ("":Str)]
theorem BZ(c:Nat)(z:Str):gQ c z=decide (c∈z.cps.toList):=StrLaws.found_one z c
theorem B0{c:Nat}{z:Str}(h:c∉z.cps.toList):¬gQ c z=true:=by rw[BZ];simpa using h
theorem l10{z:Str}(g:Sg z):¬gQ 10 z=true:=B0 λh=>by have:=(g.pr 10 h).1;omega
theorem Fy{c d:Nat}(h:c≠d):¬aU (sg c) (sg d)=true:=λe=>by
 have:=gi e
 unfold sg at this
 injection this with e2
 exact h (by simpa using e2)
theorem mT:∀c:Nat,¬aU (sg c) ("":Str)=true:=λc e=>by
 have:=congrArg Str.length (gi e)
 have e0:("":Str).length=0:=by decide +kernel
 rw[e0]at this
 exact absurd this (by show ¬(1=0);decide)
theorem app_list(a b:Str):(a++b).cps.toList=a.cps.toList++b.cps.toList:=by
 show(a.cps++b.cps).toList=_
 simp
theorem xP:("":Str).cps.toList=[]:=by decide +kernel
def jS(q w u:Str):Prop:=(u=Str.ofString ""/\(w=Str.ofString "row"\/w=Str.ofString "cell"\/w=Str.ofString "plain"\/w=Str.ofString "behind"\/w=("freed":Str)))\/∃c,c∈q.cps.toList/\u=sg c/\(w=Str.ofString "within"\/w=Str.ofString "doubt"\/w=("freed":Str))
theorem um{p q f:Str}{b1 b2 b3 b4:Bool}{u:Str}{c:Nat}(a:String)(h1:aU (Str.ofString a) ("within":Str)=false)(h2:aU (Str.ofString a) ("freed":Str)=false)(h3:aU (Str.ofString a) ("doubt":Str)=false)(h4:aU (Str.ofString a) ("behind":Str)=false):bA p q f b1 b2 b3 b4 (Str.ofString a) u c=fq p q f b3 b4 (Str.ofString a) u c:=BY h1 h2 h3 h4
theorem g5{K:W.Frag}{H:Hp}{a l:Addr}{xs ys:List V}{o:HO}(hl:H l=some (.lst ys))(e2:bz K H a xs):bz K (upd H l o) a xs:=by
 rcases e2 with (h|⟨ob,h⟩)|h
 ·exact .inl (.inl ((aD (ji h hl (by intro z;cases z))).trans h))
 ·exact .inl (.inr ⟨ob,(aD (ji h hl (by intro z;cases z))).trans h⟩)
 ·exact .inr h
def far(w u:Str):Nat:=if D7 w u=true then 0 else if aU w ("within":Str)=true then 2 else if aU w ("freed":Str)=true then (if aU u ("":Str)=true then 2 else 3) else 1
theorem aQ{α:Type}{l:List α}{i:Nat}{c:α}(h:l[i]?=some c):l.take (i+1)=l.take i++[c]:=by
 rw[List.take_succ,h];rfl
def bH(z:Str):Prop:=∀k∈z.cps.toList,k=10\/Pn k
theorem sgL{c:Nat}{z:Str}(e:z=("\n":Str))(h:¬decide (V.str (sg c)=V.str z)=true):c≠10:=λe2=>h (by
 have:Str.ofString "\n"=sg 10:=by decide +kernel
 rw[e,e2,this];exact abo rfl)
theorem pQ{t u:TS}{D:Ends}{σ:St}{H:Hp}(N:St->Hp->Prop)(hu:∀σ' H',N σ' H'->u D σ' H')(ht:(∀σ' H',N σ' H'->u D σ' H')->t {D with nx:=u D} σ H):MO t u D σ H:=ht hu
theorem D8{z:Str}{c:Nat}(h:bH z)(hc:c=10\/Pn c):bH (z++sg c):=by
 intro k hk
 have e:(z++sg c).cps.toList=z.cps.toList++[c]:=by
  show(z.cps ++ #[c]).toList=_
  simp
 rw[e]at hk
 rcases abp.mp hk with hk|hk
 ·exact h k hk
 ·rw[abh.mp hk];exact hc
theorem yq:bH ("":Str):=by
 have e:("":Str).cps.toList=[]:=by decide +kernel
 intro k hk;rw[e]at hk;cases hk
theorem uq:("":Str).length=0:=by decide +kernel
def runM(p q f:Str)(b1 b2 b3 b4:Bool):Str->Str->List Nat->List Str×Str×Str×Option Str
 |w,u,[]=>([],w,u,none)
 |w,u,c::cs=>match bA p q f b1 b2 b3 b4 w u c with
  | .kL e=>([],w,u,some e)
  | .go k w' u'=>(k::(runM p q f b1 b2 b3 b4 w' u' cs).1,(runM p q f b1 b2 b3 b4 w' u' cs).2)
def D9(ks:List Str)(r:List Str×Str×Str×Option Str):List Str×Str×Str×Option Str:=(ks++r.1,r.2)
theorem QE{p q f:Str}{b1 b2 b3 b4:Bool}{w u k w' u':Str}{c:Nat}{cs:List Nat}{ks:List Str}(h:bA p q f b1 b2 b3 b4 w u c=.go k w' u'):D9 ks (runM p q f b1 b2 b3 b4 w u (c::cs))=D9 (ks++[k]) (runM p q f b1 b2 b3 b4 w' u' cs):=by
 have e:runM p q f b1 b2 b3 b4 w u (c::cs)=(k::(runM p q f b1 b2 b3 b4 w' u' cs).1,(runM p q f b1 b2 b3 b4 w' u' cs).2):=by
  show(match bA p q f b1 b2 b3 b4 w u c with | .kL e=>([],w,u,some e) | .go k w' u'=>(k::(runM p q f b1 b2 b3 b4 w' u' cs).1,(runM p q f b1 b2 b3 b4 w' u' cs).2))=_
  rw[h]
 rw[e]
 unfold D9
 rw[abJ]
 rfl
theorem NH{p q f:Str}{b1 b2 b3 b4:Bool}{w u e:Str}{c:Nat}{cs:List Nat}{ks:List Str}(h:bA p q f b1 b2 b3 b4 w u c=.kL e):D9 ks (runM p q f b1 b2 b3 b4 w u (c::cs))=(ks,w,u,some e):=by
 have e2:runM p q f b1 b2 b3 b4 w u (c::cs)=([],w,u,some e):=by
  show(match bA p q f b1 b2 b3 b4 w u c with | .kL e=>([],w,u,some e) | .go k w' u'=>(k::(runM p q f b1 b2 b3 b4 w' u' cs).1,(runM p q f b1 b2 b3 b4 w' u' cs).2))=_
  rw[h]
 rw[e2]
 unfold D9
 rw[abI]
theorem NI{p q f:Str}{b1 b2 b3 b4:Bool}{w u:Str}{ks:List Str}:D9 ks (runM p q f b1 b2 b3 b4 w u [])=(ks,w,u,none):=by
 show(ks++[],w,u,none)=_
 rw[abI]
def B3(r:List Str×Str×Str×Option Str):Str:=match r.2.2.2 with
 |some e=>e
 |none=>if D7 r.2.1 r.2.2.1=true then Str.ofString "" else Str.ofString "cut"
theorem drop_cons{l:List Nat}{i c:Nat}(h:l[i]?=some c):l.drop i=c::l.drop (i+1):=by
 obtain⟨h1,h2⟩:=abi.mp h
 rw[List.drop_eq_getElem_cons h1,h2]
theorem xQ{p q f:Str}{b1 b2 b3 b4:Bool}{w u k w' u':Str}{c:Nat}{cs:List Nat}(h:bA p q f b1 b2 b3 b4 w u c=.go k w' u'):runM p q f b1 b2 b3 b4 w u (c::cs)=(k::(runM p q f b1 b2 b3 b4 w' u' cs).1,(runM p q f b1 b2 b3 b4 w' u' cs).2):=by
 show(match bA p q f b1 b2 b3 b4 w u c with | .kL e=>([],w,u,some e) | .go k w' u'=>(k::(runM p q f b1 b2 b3 b4 w' u' cs).1,(runM p q f b1 b2 b3 b4 w' u' cs).2))=_
 rw[h]
theorem Ea{p q f:Str}{b1 b2 b3 b4:Bool}{w u e:Str}{c:Nat}{cs:List Nat}(h:bA p q f b1 b2 b3 b4 w u c=.kL e):runM p q f b1 b2 b3 b4 w u (c::cs)=([],w,u,some e):=by
 show(match bA p q f b1 b2 b3 b4 w u c with | .kL e=>([],w,u,some e) | .go k w' u'=>(k::(runM p q f b1 b2 b3 b4 w' u' cs).1,(runM p q f b1 b2 b3 b4 w' u' cs).2))=_
 rw[h]
theorem Lq{q:Str}{c:Nat}(h:gQ c q=true):c∈q.cps.toList:=by rw[BZ]at h;exact abF h
theorem pR{p q f:Str}{b1 b2 b3 b4:Bool}{w u k w' u':Str}{c:Nat}(h:jS q w u)(hs:bA p q f b1 b2 b3 b4 w u c=.go k w' u'):jS q w' u':=by
 have Lr:∀{w u:Str},jS q w u->fq p q f b3 b4 w u c=.go k w' u'->jS q w' u':=by
  intro w u h hs
  unfold fq ff eB at hs
  repeat' split at hs
  all_goals first
   | (cases hs;exact .inl ⟨rfl,.inl rfl⟩)
   | (cases hs;exact .inl ⟨rfl,.inr (.inl rfl)⟩)
   | (cases hs;exact .inl ⟨rfl,.inr (.inr (.inl rfl))⟩)
   | (cases hs;exact .inl ⟨rfl,.inr (.inr (.inr (.inr rfl)))⟩)
   | (cases hs;rename_i hq _ _;exact .inr ⟨c,Lq (by assumption),rfl,.inl rfl⟩)
   | (cases hs;exact .inr ⟨c,Lq (by assumption),rfl,.inl rfl⟩)
   | (cases hs;exact h)
   |cases hs
 have T6:bO p b3 c=.go k w' u'->jS q w' u':=by
  intro hs
  unfold bO at hs
  repeat' split at hs
  all_goals first
   | (cases hs;exact .inl ⟨rfl,.inl rfl⟩)
   | (cases hs;exact .inl ⟨rfl,.inr (.inl rfl)⟩)
   | (cases hs;exact .inl ⟨rfl,.inr (.inr (.inr (.inl rfl)))⟩)
   |cases hs
 rcases h with ⟨rfl,rfl|rfl|rfl|rfl|rfl⟩|⟨d,hd,rfl,rfl|rfl|rfl⟩
 ·rw[um "row" (by decide +kernel) (by decide +kernel) (by decide +kernel) (by decide +kernel)]at hs
  exact Lr (.inl ⟨rfl,.inl rfl⟩) hs
 ·rw[um "cell" (by decide +kernel) (by decide +kernel) (by decide +kernel) (by decide +kernel)]at hs
  exact Lr (.inl ⟨rfl,.inr (.inl rfl)⟩) hs
 ·rw[um "plain" (by decide +kernel) (by decide +kernel) (by decide +kernel) (by decide +kernel)]at hs
  exact Lr (.inl ⟨rfl,.inr (.inr (.inl rfl))⟩) hs
 ·rw[iH (aY _)]at hs
  exact T6 hs
 ·rw[jR (aY _)]at hs
  unfold fF dw at hs
  rw[abe (aY _)]at hs
  repeat' split at hs
  all_goals first
   | (cases hs;exact .inl ⟨rfl,.inr (.inr (.inl rfl))⟩)
   |cases hs
 ·rw[fW (aY _)]at hs
  unfold cF at hs
  repeat' split at hs
  all_goals first
   | (cases hs;exact .inr ⟨d,hd,rfl,.inr (.inr rfl)⟩)
   | (cases hs;exact .inr ⟨d,hd,rfl,.inr (.inl rfl)⟩)
   | (cases hs;exact .inr ⟨d,hd,rfl,.inl rfl⟩)
   | (cases hs;exact .inl ⟨rfl,.inr (.inr (.inr (.inl rfl)))⟩)
   |cases hs
 ·rw[iT (aY _)]at hs
  unfold gD at hs
  split at hs
  ·cases hs;exact .inr ⟨d,hd,rfl,.inl rfl⟩
  ·exact T6 hs
 ·rw[jR (aY _)]at hs
  unfold fF dw at hs
  rw[abb (mT d)]at hs
  repeat' split at hs
  all_goals first
   | (cases hs;exact .inr ⟨d,hd,rfl,.inl rfl⟩)
   |cases hs
structure IB where
 rows:List (List Str)
 row:List Str
 cell:Str
def Ls(g:IB)(c:Nat)(k:Str):IB :=
 if aU k ("put":Str)=true then ⟨g.rows,g.row,g.cell++sg c⟩
 else if aU k ("part":Str)=true then ⟨g.rows,g.row++[g.cell],("":Str)⟩
 else if aU k ("end":Str)=true then ⟨g.rows++[g.row++[g.cell]],[],("":Str)⟩
 else g
def ur:IB->List Nat->List Str->IB
 |g,c::cs,k::ks=>ur (Ls g c k) cs ks
 |g,_,_=>g
def Lu:IB:=⟨[],[],("":Str)⟩
def IC(z:Str)(ks:List Str):List (List Str):=(ur Lu z.cps.toList ks).rows
theorem A7:∀(g:IB)(cs:List Nat)(ks:List Str)(i:Nat)(c:Nat)(k:Str),cs[i]?=some c->ks[i]?=some k->ur g (cs.take (i+1)) (ks.take (i+1))=Ls (ur g (cs.take i) (ks.take i)) c k
 |g,[],_,i,c,k,h,_=>by simp at h
 |g,_::_,[],i,c,k,_,h=>by simp at h
 |g,d::cs,j::ks,0,c,k,h1,h2=>by cases h1;cases h2;rfl
 |g,d::cs,j::ks,i+1,c,k,h1,h2=>by
  show ur (Ls g d j) (cs.take (i+1)) (ks.take (i+1))=Ls (ur (Ls g d j) (cs.take i) (ks.take i)) c k
  exact A7 _ cs ks i c k h1 h2
theorem Eb:∀(g:IB)(cs:List Nat)(ks:List Str),ur g (cs.take (min cs.length ks.length)) (ks.take (min cs.length ks.length))=ur g cs ks
 |g,[],ks=>by simp[ur]
 |g,_::_,[]=>by simp[ur]
 |g,d::cs,j::ks=>by
  have e:min (d::cs).length (j::ks).length=min cs.length ks.length+1:=by rw[abG,abG];omega
  rw[e]
  exact Eb (Ls g d j) cs ks
abbrev wg(H0 H:Hp):List V->List (List Str)->Prop:=Paired λe r=>∃a,e=V.ref a/\H0 a=none/\H a=some (.lst (r.map V.str))
theorem wg.mono{H0 H H':Hp}(s:aH H H'):∀{es:List V}{rs:List (List Str)},wg H0 H es rs->wg H0 H' es rs
 |_,_,.nil=>.nil
 |_,_,.cons ⟨a,e,n,h⟩ r=>.cons ⟨a,e,n,s _ _ h⟩ (wg.mono s r)
theorem wg.but{H0 H:Hp}{l:Addr}{o:HO}:∀{es:List V}{rs:List (List Str)},(V.ref l∉es)->wg H0 H es rs->wg H0 (upd H l o) es rs
 |_,_,_,.nil=>.nil
 |_,_,hn,.cons ⟨a,e,n,h⟩ r=>by
  subst e
  have:a≠l:=λq=>hn (by rw[q];exact abN ..)
  exact .cons ⟨a,rfl,n,(aD this).trans h⟩ (wg.but (λq=>hn (abC _ q)) r)
theorem wg.app{H0 H:Hp}:∀{es es':List V}{rs rs':List (List Str)},wg H0 H es rs->wg H0 H es' rs'->wg H0 H (es++es') (rs++rs')
 |_,_,_,_,.nil,h=>h
 |_,_,_,_,.cons r t,h=>.cons r (wg.app t h)
theorem wg.has{H0 H:Hp}:∀{es:List V}{rs:List (List Str)},wg H0 H es rs->∀{a:Addr},V.ref a∈es->H0 a=none/\∃ys,H a=some (.lst ys)
 |_,_,.nil,_,h=>by cases h
 |_,_,.cons ⟨b,e,n,h⟩ r,a,ha=>by
  rcases abw.mp ha with q|q
  ·subst e;cases q;exact⟨n,_,h⟩
  ·exact wg.has r q
theorem same_self{K:W.Frag}{H:Hp}{xs:List V}(h:xs.all iy=true):∀(j:Nat) x y,xs[j]?=some x->xs[j]?=some y->nH K H 1 x y:=λj x y ex ey=>by
 rw[ex]at ey;cases ey
 have:=abY.mp h x (abq ex)
 exact .flat this this (yg this)
def VP:List Nat:=("a7ZbXq9KwM":Str).cps.toList
theorem nX{a b:Str}(h1:bH a)(h2:bH b):bH (a++b):=λc hc=>by
 rw[app_list]at hc
 rcases abp.mp hc with q|q
 ·exact h1 c q
 ·exact h2 c q
theorem Fz{H H1 H':Hp}{ea d:Addr}{o:HO}(s:aH H H1)(vZ:H1 ea=none)(hd:(upd H1 ea o) d=none)(VP:∀b,b≠ea->b≠d->H' b=upd H1 ea o b):aH H (del H' ea):=λb u hb=>by
 have hb1:=s b u hb
 have n1:b≠ea:=λz=>by rw[z,vZ]at hb1;cases hb1
 have n2:b≠d:=λz=>by rw[←z,aD n1,hb1]at hd;cases hd
 rw[BW n1,VP b n1 n2,aD n1];exact hb1
theorem A8{n:Nat}(h:n<=2000):((n:Int)).natAbs.log2<1920:=by
 rw[Int.natAbs_natCast]
 by_cases hz:n=0
 ·subst hz;decide
 ·exact(Nat.log2_lt hz).mpr (abA (show n<2 ^ 11 by omega) (Nat.pow_le_pow_right (by decide) (by decide)))
theorem B5{a b:String}(h:aU (Str.ofString a) (Str.ofString b)=false):Str.ofString a≠Str.ofString b:=λe=>by rw[e,aY]at h;cases h
theorem yr{p q f:Str}{b1 b2 b3 b4:Bool}{ds:List Nat}:∀{cs:List Nat}{w u:Str},(runM p q f b1 b2 b3 b4 w u cs).2.2.2=none->runM p q f b1 b2 b3 b4 w u (cs++ds)=D9 (runM p q f b1 b2 b3 b4 w u cs).1 (runM p q f b1 b2 b3 b4 (runM p q f b1 b2 b3 b4 w u cs).2.1 (runM p q f b1 b2 b3 b4 w u cs).2.2.1 ds)
 |[],w,u,_=>by
  show runM p q f b1 b2 b3 b4 w u ds=([]++(runM p q f b1 b2 b3 b4 w u ds).1,(runM p q f b1 b2 b3 b4 w u ds).2)
  rw[acC]
 |c::cs,w,u,h=>by
  show runM p q f b1 b2 b3 b4 w u (c::(cs++ds))=_
  cases hs:bA p q f b1 b2 b3 b4 w u c with
  |go k w' u' =>
   rw[xQ hs]at h
   have e:=yr (cs:=cs) (w:=w') (u:=u') (ds:=ds) h
   rw[xQ hs,xQ hs,e]
   rfl
  |kL e=>rw[Ea hs]at h;cases h
abbrev W9(p q f:Str)(b1 b2 b3 b4:Bool)(z:Str):=runM p q f b1 b2 b3 b4 ("row":Str) ("":Str) z.cps.toList
theorem Ho{r:List Str×Str×Str×Option Str}(h:r.2=(Str.ofString "row",("":Str),none)):B3 r=("":Str):=by
 unfold B3
 rw[h]
 exact abe (by decide +kernel)
theorem ID{K:W.Frag}{H:Hp}{f4 t2:Addr}{xs:List V}(h1:H f4=some (.tup xs))(h2:H t2=some (.tup xs))(fl:xs.all iy=true):TopD K H (.ref f4) (.ref t2) :=
 ⟨1,f4,t2,xs,xs,rfl,rfl,by decide,rfl,.inl ⟨bz.of h1,bz.of h2⟩,same_self fl⟩
theorem rC{a b:Str}(h:a.cps.toList=b.cps.toList):a=b:=by
 obtain⟨x⟩:=a;obtain⟨y⟩:=b
 have:x=y:=Array.toList_inj.mp h
 rw[this]
def eG:List Str->Str
 |[]=>Str.ofString ""
 |z::r=>z++eG r
theorem Lv(z:Str):Str.ofString ""++z=z:=rC (by rw[app_list,xP];rfl)
theorem Lw(z:Str):z++Str.ofString ""=z:=rC (by rw[app_list,xP,abI])
def lens(r:List Str):List Nat:=r.map λz=>z.length
def total(t:List (List Str)):Nat:=(t.map λr=>(lens r).sum).sum
structure nY(r:List Str):Prop where
 lo:1<=r.length
 hi:r.length<=20
 ok:∀c∈r,bH c
structure TabOk(t:List (List Str)):Prop where
 n:t.length<=60
 rows:∀r∈t,nY r
 sum:total t<=400
theorem B6{ns:List Nat}{n:Nat}(h:n∈ns):n<=ns.sum:=by
 induction ns with
 |nil=>cases h
 |cons m ns ih =>
  rw[ab4]
  rcases abw.mp h with rfl|h
  ·omega
  ·have:=ih h;omega
theorem pS{t:List (List Str)}{r:List Str}(h:r∈t):(lens r).sum<=total t:=B6 (List.mem_map_of_mem h)
theorem rD{r:List Str}{c:Str}(h:c∈r):c.length<=(lens r).sum:=B6 (List.mem_map_of_mem (f:=λz:Str=>z.length) h)
def bC(H:Hp)(v:V)(r:List Str):Prop:=∃a,v=.ref a/\H a=some (.lst (r.map V.str))
theorem bC.mono{H H':Hp}{v:V}{r:List Str}(s:aH H H')(h:bC H v r):bC H' v r:=let ⟨a,e1,e2⟩:=h;⟨a,e1,s _ _ e2⟩
def kZ(z:Str):List (Str×Str):=z.cps.toList.map λk=>(Str.ofString "put",sg k)
def dY:Str×Str:=(Str.ofString "part",("":Str))
def rE:Str×Str:=(Str.ofString "end",("":Str))
def gm:List Str->Nat->List (Str×Str)
 |_,0=>[]
 |r,n+1=>gm r n++((if n=0 then [] else [dY])++kZ (r.getD n ("":Str)))
def c9(r:List Str):List (Str×Str):=gm r r.length++[rE]
def az(t:List (List Str)):List (Str×Str):=t.flatMap c9
theorem iI{r:List Str}{n:Nat}{z:Str}(h:r[n]?=some z):gm r (n+1)=gm r n++((if n=0 then [] else [dY])++kZ z):=by
 show gm r n++((if n=0 then [] else [dY])++kZ (r.getD n ("":Str)))=_
 rw[acK,h];rfl
theorem yt(z:Str):(kZ z).length=z.length:=by unfold kZ;rw[abg,abt];rfl
theorem rF(r:List Str):∀n,n<=r.length->(gm r n).length+(if n=0 then 0 else 1)=n+(lens (r.take n)).sum
 | 0,_=>by simp[gm,lens]
 |n+1,h=>by
  have hn:n<r.length:=by omega
  rw[iI (z:=r[n]) (by simp[hn]),abj,abj,yt,aQ (c:=r[n]) (by simp[hn])]
  have ih:=rF r n (by omega)
  unfold lens at ih⊢
  rw[abx,acA]
  simp only[abT,List.map_nil,ab4,List.sum_nil]
  by_cases h0:n=0
  ·subst h0;simp[gm];omega
  ·simp[h0]at ih⊢;omega
theorem FA{r:List Str}(h:1<=r.length):(c9 r).length=r.length+(lens r).sum:=by
 unfold c9
 have:=rF r r.length (abf _)
 rw[abr (abf _),abb (by omega)]at this
 rw[abj];show _+1=_;omega
theorem yu{t:List (List Str)}(h:∀r∈t,nY r):(az t).length=(t.map λr=>r.length+(lens r).sum).sum:=by
 unfold az
 induction t with
 |nil=>rfl
 |cons r t ih =>
  rw[List.flatMap_cons,abj,ih (λr' h'=>h r' (abC _ h')),FA (h r (abN ..)).lo,abT,ab4]
theorem IE{t:List (List Str)}(h:∀r∈t,nY r):(t.map λr=>r.length+(lens r).sum).sum<=20*t.length+total t:=by
 unfold total
 induction t with
 |nil=>exact abf _
 |cons r t ih =>
  have h1:=(h r (abN ..)).hi
  have h2:=ih λr' h'=>h r' (abC _ h')
  rw[abT,ab4,abT,ab4,abG]
  omega
theorem nZ{t:List (List Str)}(h:TabOk t)(i:Nat):(az (t.take i)).length<=1600:=by
 have hr:∀r∈t.take i,nY r:=λr hr=>h.rows r (List.mem_of_mem_take hr)
 rw[yu hr]
 have h1:=IE hr
 have h2:(t.take i).length<=60:=by rw[abM];have:=h.n;omega
 have h3:total (t.take i)<=total t:=by
  unfold total
  have e:=congrArg (λl=>(l.map λr=>(lens r).sum).sum) (List.take_append_drop i t)
  simp only[abx,acA]at e
  omega
 have:=h.sum
 omega
theorem iU(t:List (List Str))(r:List Str):az (t++[r])=az t++c9 r:=by unfold az;rw[List.flatMap_append];simp
theorem cz{α β:Type}{F:α->β->Prop}{xs:List α}{ys:List β}{x:α}{y:β}(h:Paired F xs ys)(q:F x y):Paired F (xs++[x]) (ys++[y]):=dI h (.cons q .nil)
def bI(l:Addr)(H:Hp)(v:V)(r:List Str):Prop:=∃a,v=.ref a/\a≠l/\H a=some (.lst (r.map V.str))
theorem bI.mono{l:Addr}{H H':Hp}{v:V}{r:List Str}(s:aH H H')(h:bI l H v r):bI l H' v r:=let ⟨a,e1,n,e2⟩:=h;⟨a,e1,n,s _ _ e2⟩
theorem bI.but{l:Addr}{H:Hp}{v:V}{r:List Str}{o:HO}(h:bI l H v r):bI l (upd H l o) v r:=let ⟨a,e1,n,e2⟩:=h;⟨a,e1,n,(aD n).trans e2⟩
theorem bI.row{l:Addr}{H:Hp}{v:V}{r:List Str}(h:bI l H v r):bC H v r:=let ⟨a,e1,n,e2⟩:=h;⟨a,e1,e2⟩
theorem qD(t:List (List Str))(r:List Str):total (t++[r])=total t+(lens r).sum:=by unfold total;rw[abx,acA];simp
theorem uu(r:List Str)(z:Str):(lens (r++[z])).sum=(lens r).sum+z.length:=by unfold lens;rw[abx,acA];simp
theorem uv(a b:Str):(a++b).cps.toList=a.cps.toList++b.cps.toList:=by
 show(a.cps++b.cps).toList=_
 simp
theorem Lx{K:W.Frag}{H:Hp}{x y:V}{r:List Str}(h1:bC H x r)(h2:bC H y r):nH K H 1 x y:=by
 obtain⟨a,rfl,ha⟩:=h1
 obtain⟨b,rfl,hb⟩:=h2
 refine .lst (bw.of ha) (bw.of hb) rfl λj x y ex ey=>?_
 rw[ex]at ey;cases ey
 obtain⟨z,_,rfl⟩:=abR.mp (abq ex)
 exact .flat rfl rfl (yg rfl)
theorem IF{K:W.Frag}{H:Hp}{xs ys:List V}{t:List (List Str)}(h1:Paired (bC H) xs t)(h2:Paired (bC H) ys t):∀(j:Nat) x y,xs[j]?=some x->ys[j]?=some y->nH K H 1 x y:=by
 intro j x y ex ey
 obtain⟨r,e1,q1⟩:=aW h1 j x ex
 obtain⟨r',e2,q2⟩:=aW h2 j y ey
 rw[e1]at e2;cases e2
 exact Lx q1 q2
def kq(acc:List Nat)(c:Nat):List Nat:=if away ⟨acc.toArray⟩ c=true then acc++[c] else acc
def jk(l:List Nat):List Nat:=l.foldl kq []
theorem mj(l:List Nat)(c:Nat):jk (l++[c])=kq (jk l) c:=by unfold jk;rw[abP];rfl
theorem A9(l:List Nat):(jk l).length<=l.length:=by
 have key:∀(l acc:List Nat),(l.foldl kq acc).length<=acc.length+l.length:=by
  intro l
  induction l with
  |nil=>intro acc;exact abf _
  |cons c l ih =>
   intro acc
   rw[ab6,abG]
   have h1:=ih (kq acc c)
   have h2:(kq acc c).length<=acc.length+1:=by
    unfold kq
    split
    ·rw[abj];exact abf _
    ·omega
   omega
 have:=key l []
 simpa [jk]using this
def jl(z:Str):Str:=⟨(jk z.cps.toList).toArray⟩
theorem uw(z:Str):(jl z).length<=z.length:=by
 show(jk z.cps.toList).toArray.size<=_
 rw[abm]
 refine abn (A9 _) ?_
 rw[abt];exact abf _
def gn(p q f:Str)(b1 b2 b3 b4:Bool)(w u:Str)(c:Nat):Option (Str×Str×Str):=match bA p q f b1 b2 b3 b4 w u c with
 | .go k w' u'=>if cg f w' u'=true then some (k,w',u') else none
 | .kL _=>none
def Xa(K:W.Frag)(x:Option (Str×Str×Str))(H:Hp)(v:V):Prop:=match x with
 |none=>v=.non
 |some (k,w,u)=>∃a b,v=.ref a/\bz K H a [.str k,.ref b]/\bz K H b [.str w,.str u]
def lF(ts:List (Str×Str))(n:Nat)(k s:Str):Option Nat:=if aU k ("skip":Str)=true then some n else if ts[n]?=some (k,if aU k ("put":Str)=true then s else Str.ofString "") then some (n+1) else none
def Xb(x:Option Nat):V:=match x with
 |none=>.non
 |some n=>.int n
abbrev aV:=(Str×Str)×Nat
def bV(K:W.Frag)(H:Hp)(m:aV)(v:V):Prop:=∃b s,v=.ref b/\bz K H b [.ref s,.int m.2]/\bz K H s [.str m.1.1,.str m.1.2]
theorem bV.mono{K:W.Frag}{H H':Hp}{m:aV}{v:V}(e:aH H H')(h:bV K H m v):bV K H' m v:=by
 obtain⟨b,s,e1,e2,e3⟩:=h
 exact⟨b,s,e1,aF e e2,aF e e3⟩
def gu(p q f:Str)(b1 b2 b3 b4:Bool)(ts:List (Str×Str))(m:aV)(c:Nat):Option aV:=match gn p q f b1 b2 b3 b4 m.1.1 m.1.2 c with
 |none=>none
 |some (k,w,u)=>(match lF ts m.2 k (sg c) with
  |none=>none
  |some n=>some ((w,u),n))
def mq(K:W.Frag)(x:Option aV)(H:Hp)(v:V):Prop:=match x with
 |none=>v=.non
 |some m=>bV K H m v
def mfl(y l:Addr):List (Str×V):=[("turn",.ref y),("tokens",.ref l)]
structure IG(K:W.Frag)(C CT CM:Addr)(H:Hp)(m:Addr)(p q f:Str)(b1 b2 b3 b4:Bool)(ts:List (Str×Str)):Prop where
 ok:∃dm y l ys,H m=some (.ins CM dm (mfl y l))/\Tn C CT H y p q f b1 b2 b3 b4/\H l=some (.lst ys)/\Paired (c7 K H) ys ts
theorem bW{K:W.Frag}{H H':Hp}(s:aH H H'):∀{ys:List V}{ts:List (Str×Str)},Paired (c7 K H) ys ts->Paired (c7 K H') ys ts
 |_,_,.nil=>.nil
 |_,_,.cons a r=>.cons (a.mono s) (bW s r)
theorem IG.mono{K:W.Frag}{C CT CM:Addr}{H H':Hp}{m:Addr}{p q f:Str}{b1 b2 b3 b4:Bool}{ts:List (Str×Str)}(s:aH H H')(h:IG K C CT CM H m p q f b1 b2 b3 b4 ts):IG K C CT CM H' m p q f b1 b2 b3 b4 ts:=by
 obtain⟨dm,y,l,ys,e1,e2,e3,e4⟩:=h.ok
 exact⟨dm,y,l,ys,s _ _ e1,e2.mono s,s _ _ e3,bW s e4⟩
theorem NJ{K:W.Frag}{H:Hp}{m a C dm:Addr}{fs:List (Str×V)}{xs:List V}{o:HO}(hm:H m=some (.ins C dm fs))(h:bz K H a xs):bz K (upd H m o) a xs:=by
 rcases h with (h|⟨ob,h⟩)|h
 ·exact .inl (.inl ((aD (ji h hm (by intro z;cases z))).trans h))
 ·exact .inl (.inr ⟨ob,(aD (ji h hm (by intro z;cases z))).trans h⟩)
 ·exact .inr h
theorem jT{K:W.Frag}{H:Hp}{m C dm:Addr}{fs:List (Str×V)}{o:HO}(hm:H m=some (.ins C dm fs)):∀{ys:List V}{ts:List (Str×Str)},Paired (c7 K H) ys ts->Paired (c7 K (upd H m o)) ys ts
 |_,_,.nil=>.nil
 |_,_,.cons ⟨a,e1,e2⟩ r=>.cons ⟨a,e1,NJ hm e2⟩ (jT hm r)
theorem Tn.off{C CT:Addr}{H:Hp}{y m:Addr}{p q f:Str}{b1 b2 b3 b4:Bool}{o o':HO}(hm:H m=some o')(n1:∀d fs,o'≠.ins CT d (W7 fs))(n2:∀d,o'≠.ins C d (zI p q f b1 b2 b3 b4))(h:Tn C CT H y p q f b1 b2 b3 b4):Tn C CT (upd H m o) y p q f b1 b2 b3 b4:=by
 obtain⟨dy,d,dd,e1,e2⟩:=h.ok
 exact⟨dy,d,dd,(aD (λq=>by rw[q,hm]at e1;exact n1 _ _ (abH e1))).trans e1,(aD (λq=>by rw[q,hm]at e2;exact n2 _ (abH e2))).trans e2⟩
theorem IG.off{K:W.Frag}{C CT CM CW:Addr}{H:Hp}{m z dz:Addr}{fs:List (Str×V)}{p q f:Str}{b1 b2 b3 b4:Bool}{ts:List (Str×Str)}{o:HO}(hz:H z=some (.ins CW dz fs))(n0:∀y l,fs≠mfl y l)(n1:∀d,fs≠W7 d)(n2:fs≠zI p q f b1 b2 b3 b4)(h:IG K C CT CM H m p q f b1 b2 b3 b4 ts):IG K C CT CM (upd H z o) m p q f b1 b2 b3 b4 ts:=by
 obtain⟨dm,y,l,ys,e1,e2,e3,e4⟩:=h.ok
 refine⟨dm,y,l,ys,(aD (λq=>?_)).trans e1,Tn.off hz (λd fs q=>?_) (λd q=>?_) e2,(aD (λq=>by rw[q,hz]at e3;cases e3)).trans e3,jT hz e4⟩
 ·rw[q,hz]at e1;injection e1 with e1;injection e1 with a b c;exact n0 _ _ c
 ·injection q with a b c;exact n1 _ c
 ·injection q with a b c;exact n2 c
theorem Ba{H:Hp}{x dx:Addr}{o:HO}(hx:H x=none)(hdx:H dx=none):aH H (upd (upd H dx (.own x)) x o):=λb o' e=>by
 rw[aD (aN e hx),aD (aN e hdx)];exact e
def wfl(m l:Addr)(z:Str):List (Str×V):=[("marker",.ref m),("tokens",.ref l),("usual",.str z)]
def JJ(p q f:Str):Str:=jl ((p++q)++f)++Str.ofString "\n"++Str.ofString " "
structure QF(K:W.Frag)(C CT CM CW:Addr)(H:Hp)(x:Addr)(p q f:Str)(b1 b2 b3 b4:Bool)(ts:List (Str×Str)):Prop where
 ok:∃dx m l ys,H x=some (.ins CW dx (wfl m l (JJ p q f)))/\IG K C CT CM H m p q f b1 b2 b3 b4 ts/\H l=some (.lst ys)/\Paired (c7 K H) ys ts
theorem QF.mono{K:W.Frag}{C CT CM CW:Addr}{H H':Hp}{x:Addr}{p q f:Str}{b1 b2 b3 b4:Bool}{ts:List (Str×Str)}(s:aH H H')(h:QF K C CT CM CW H x p q f b1 b2 b3 b4 ts):QF K C CT CM CW H' x p q f b1 b2 b3 b4 ts:=by
 obtain⟨dx,m,l,ys,e1,e2,e3,e4⟩:=h.ok
 exact⟨dx,m,l,ys,s _ _ e1,e2.mono s,s _ _ e3,bW s e4⟩
def cH(p q f:Str)(b1 b2 b3 b4:Bool)(ts:List (Str×Str))(m:aV):List (Nat×aV):=match ts[m.2]? with
 |none=>[]
 |some t=>(jl (JJ p q f++t.2)).cps.toList.filterMap λc=>(gu p q f b1 b2 b3 b4 ts m c).map λm'=>(c,m')
theorem bV.but{K:W.Frag}{H:Hp}{m:aV}{v:V}{l:Addr}{ws:List V}{o:HO}(hl:H l=some (.lst ws))(h:bV K H m v):bV K (upd H l o) m v:=by
 obtain⟨b,s,e1,e2,e3⟩:=h
 exact⟨b,s,e1,g5 hl e2,g5 hl e3⟩
theorem mq.mono{K:W.Frag}{x:Option aV}{H H':Hp}{v:V}(s:aH H H')(h:mq K x H v):mq K x H' v:=by
 cases x with
 |none=>exact h
 |some m=>exact bV.mono s h
theorem mq.but{K:W.Frag}{x:Option aV}{H:Hp}{v:V}{l:Addr}{ws:List V}{o:HO}(hl:H l=some (.lst ws))(h:mq K x H v):mq K x (upd H l o) v:=by
 cases x with
 |none=>exact h
 |some m=>exact bV.but hl h
abbrev wj(K:W.Frag)(F:Nat->Option aV)(H:Hp):List V->List Nat->Prop:=Paired λv c=>∃t w,v=.ref t/\H t=some (.tup [.str (sg c),w])/\mq K (F c) H w
theorem wj.mono{K:W.Frag}{F:Nat->Option aV}{H H':Hp}(s:aH H H'):∀{vs:List V}{cs:List Nat},wj K F H vs cs->wj K F H' vs cs
 |_,_,.nil=>.nil
 |_,_,.cons ⟨t,w,e,h,q⟩ r=>.cons ⟨t,w,e,s _ _ h,mq.mono s q⟩ (wj.mono s r)
theorem wj.but{K:W.Frag}{F:Nat->Option aV}{H:Hp}{l:Addr}{ws:List V}{o:HO}(hl:H l=some (.lst ws)):∀{vs:List V}{cs:List Nat},wj K F H vs cs->wj K F (upd H l o) vs cs
 |_,_,.nil=>.nil
 |_,_,.cons ⟨t,w,e,h,q⟩ r=>.cons ⟨t,w,e,(aD (ji h hl (by intro z;cases z))).trans h,mq.but hl q⟩ (wj.but hl r)
abbrev n5(K:W.Frag)(H:Hp):List V->List (Nat×aV)->Prop:=Paired λv e=>∃t w,v=.ref t/\H t=some (.tup [.str (sg e.1),w])/\bV K H e.2 w
theorem n5.mono{K:W.Frag}{H H':Hp}(s:aH H H'):∀{vs:List V}{es:List (Nat×aV)},n5 K H vs es->n5 K H' vs es
 |_,_,.nil=>.nil
 |_,_,.cons ⟨t,w,e,h,q⟩ r=>.cons ⟨t,w,e,s _ _ h,q.mono s⟩ (n5.mono s r)
theorem n5.but{K:W.Frag}{H:Hp}{l:Addr}{ws:List V}{o:HO}(hl:H l=some (.lst ws)):∀{vs:List V}{es:List (Nat×aV)},n5 K H vs es->n5 K (upd H l o) vs es
 |_,_,.nil=>.nil
 |_,_,.cons ⟨t,w,e,h,q⟩ r=>.cons ⟨t,w,e,(aD (ji h hl (by intro z;cases z))).trans h,q.but hl⟩ (n5.but hl r)
abbrev Cm:=List (aV×Option (aV×Nat))
def cK(cm:Cm)(m:aV):Bool:=cm.any λe=>decide (e.1=m)
def dB(p:aV)(acc:Cm×List aV)(e:Nat×aV):Cm×List aV:=if cK acc.1 e.2=true then acc else (acc.1++[(e.2,some (p,e.1))],acc.2++[e.2])
def gv(led:aV->List (Nat×aV))(acc:Cm×List aV)(p:aV):Cm×List aV:=(led p).foldl (dB p) acc
def expand(led:aV->List (Nat×aV))(cm:Cm)(aS:List aV):Cm×List aV:=aS.foldl (gv led) (cm,[])
inductive yw(good:aV->Bool)(led:aV->List (Nat×aV)):Cm->List aV->Option aV->Cm->Prop where
 |stop {cm:Cm}:yw good led cm [] none cm
 |found {cm:Cm}{aS:List aV}{m:aV}:aS.find? good=some m->yw good led cm aS (some m) cm
 |go {cm zJ:Cm}{aS:List aV}{r:Option aV}:aS≠[]->aS.find? good=none->yw good led (expand led cm aS).1 (expand led cm aS).2 r zJ->yw good led cm aS r zJ
def rG(K:W.Frag)(x:Option (aV×Nat))(H:Hp)(v:V):Prop:=match x with
 |none=>v=.non
 |some (m,c)=>∃t w,v=.ref t/\bz K H t [w,.str (sg c)]/\bV K H m w
abbrev B7(K:W.Frag)(H:Hp):List (N3 (Lf⊕List Lf))->Cm->Prop:=Paired λe p=>e.1=bq p.1/\bV K H p.1 (.ref e.2.1)/\rG K p.2 H e.2.2
structure eH(P:Program)(w:World)(K:W.Frag)(H:Hp)(a:Addr)(cm:Cm):Prop where
 ok:∃kvs,Nd (YM P w K) (aM P w) H a kvs/\B7 K H kvs cm
theorem bV.keep{K:W.Frag}{H H':Hp}{m:aV}{v:V}(t:∀b xs,bz K H b xs->bz K H' b xs)(h:bV K H m v):bV K H' m v:=by
 obtain⟨b,s,e1,e2,e3⟩:=h
 exact⟨b,s,e1,t _ _ e2,t _ _ e3⟩
theorem rG.keep{K:W.Frag}{H H':Hp}{x:Option (aV×Nat)}{v:V}(t:∀b xs,bz K H b xs->bz K H' b xs)(h:rG K x H v):rG K x H' v:=by
 cases x with
 |none=>exact h
 |some mc=>obtain⟨t1,w1,e1,e2,e3⟩:=h;exact⟨t1,w1,e1,t _ _ e2,e3.keep t⟩
theorem B7.keep{K:W.Frag}{H H':Hp}(t:∀b xs,bz K H b xs->bz K H' b xs):∀{kvs:List (N3 (Lf⊕List Lf))}{cm:Cm},B7 K H kvs cm->B7 K H' kvs cm
 |_,_,.nil=>.nil
 |_,_,.cons a r=>.cons ⟨a.1,a.2.1.keep t,a.2.2.keep t⟩ (B7.keep t r)
theorem eH.mono{P:Program}{w:World}{K:W.Frag}{H H':Hp}{a:Addr}{cm:Cm}(s:aH H H')(h:eH P w K H a cm):eH P w K H' a cm:=by
 obtain⟨kvs,d,r⟩:=h.ok
 exact⟨kvs,d.mono s,r.keep λb xs q=>aF s q⟩
theorem eH.but{P:Program}{w:World}{K:W.Frag}{H:Hp}{a l:Addr}{cm:Cm}{ws:List V}{o:HO}(hl:H l=some (.lst ws))(h:eH P w K H a cm):eH P w K (upd H l o) a cm:=by
 obtain⟨kvs,d,r⟩:=h.ok
 have t:∀b xs,bz K H b xs->bz K (upd H l o) b xs:=λb xs q=>g5 hl q
 exact⟨kvs,⟨(aD (ji d.ob hl (λq=>nomatch q))).trans d.ob,λe he=>(d.keys e he).keep t⟩,r.keep t⟩
theorem yx{K:W.Frag}{H:Hp}{m:aV}:∀{kvs:List (N3 (Lf⊕List Lf))}{cm:Cm},B7 K H kvs cm->(valN kvs (bq m)).isSome=cK cm m
 |_,_,.nil=>rfl
 |e::kvs,p::cm,.cons a r=>by
  have ih:=yx (m:=m) r
  unfold valN cK at ih⊢
  rw[acB,acR,a.1]
  by_cases q:p.1=m
  ·rw[abo q,abo (by rw[q])];rfl
  ·rw[abB q,abB (λz=>q (lC.mp z)),Bool.false_or];exact ih
theorem Ec{K:W.Frag}{H:Hp}{kvs:List (N3 (Lf⊕List Lf))}{cm:Cm}(h:B7 K H kvs cm):kvs.length=cm.length:=ab8 h
theorem jU{cm:Cm}{m:aV}:cK cm m=true↔m∈cm.map (·.1):=by
 unfold cK
 rw[List.any_eq_true,abR]
 constructor
 ·rintro⟨e,he,q⟩;exact⟨e,he,abF q⟩
 ·rintro⟨e,he,q⟩;exact⟨e,he,abo q⟩
structure JK(U:List aV)(cm:Cm):Prop where
 nd:(cm.map (·.1)).Nodup
 sub:∀m∈cm.map (·.1),m∈U
theorem JK.len{U:List aV}{cm:Cm}(h:JK U cm):cm.length<=U.length:=by
 have:=List.Nodup.length_le_of_subset h.nd (λm hm=>h.sub m hm)
 rw[abg]at this
 exact this
theorem Hq{U:List aV}{p:aV}{acc:Cm×List aV}{e:Nat×aV}(h:JK U acc.1)(he:e.2∈U):JK U (dB p acc e).1:=by
 unfold dB
 by_cases q:cK acc.1 e.2=true
 ·rw[abe q];exact h
 ·rw[abb q]
  refine⟨?_,λm hm=>?_⟩
  ·rw[abx,List.nodup_append]
   refine⟨h.nd,by simp,λa ha b hb z=>q (jU.mpr ?_)⟩
   rw[abh.mp hb]at z
   have z:a=e.2:=z
   rw[z]at ha;exact ha
  ·rw[abx]at hm
   rcases abp.mp hm with hm|hm
   ·exact h.sub m hm
   ·rw[abh.mp hm];exact he
theorem Ly(p:aV)(acc:Cm×List aV)(e:Nat×aV):(dB p acc e).1.length+acc.2.length=acc.1.length+(dB p acc e).2.length:=by
 unfold dB
 split
 ·rfl
 ·rw[abj,abj];show acc.1.length+1+_=_+(_+1);omega
theorem Nd.one{P:Program}{w:World}{K:W.Frag}{H:Hp}{a b:Addr}{k:List (Lf⊕List Lf)}{v:V}(h:H a=some (dN (ZM P w) (aM P w) a []))(e:qA (YM P w K) H k b):Nd (YM P w K) (aM P w) (upd H a (dN (ZM P w) (aM P w) a [(k,b,v)])) a [(k,b,v)]:=by
 refine⟨aj,λp hp=>?_⟩
 rw[abh.mp hp]
 exact e.keep (kP h)
theorem eH.one{P:Program}{w:World}{K:W.Frag}{H:Hp}{a b:Addr}{m:aV}(h:H a=some (dN (ZM P w) (aM P w) a []))(hm:bV K H m (.ref b)):eH P w K (upd H a (dN (ZM P w) (aM P w) a [(bq m,b,.non)])) a [(m,none)]:=by
 obtain⟨b',s,e1,e2,e3⟩:=hm
 cases e1
 have t:=kP (F:=K) h (o:=dN (ZM P w) (aM P w) a [(bq m,b,.non)])
 exact⟨_,Nd.one h (iL e2 e3),.cons ⟨O,⟨b,s,O,t _ _ e2,t _ _ e3⟩,O⟩ .nil⟩
theorem eH.put{P:Program}{w:World}{K:W.Frag}{H:Hp}{a b:Addr}{m:aV}{cm:Cm}{kvs:List (N3 (Lf⊕List Lf))}{x:Option (aV×Nat)}{v:V}(d:Nd (YM P w K) (aM P w) H a kvs)(r:B7 K H kvs cm)(hm:bV K H m (.ref b))(hn:cK cm m=false)(hv:rG K x H v):eH P w K (upd H a (dN (ZM P w) (aM P w) a (putN kvs (bq m) b v))) a (cm++[(m,x)]):=by
 obtain⟨b',s,e1,e2,e3⟩:=id hm
 cases e1
 have t:=kP (F:=K) d.ob (o:=dN (ZM P w) (aM P w) a (putN kvs (bq m) b v))
 refine⟨_,d.put (iL e2 e3),?_⟩
 have q:=yx (m:=m) r
 rw[hn]at q
 have hv0:valN kvs (bq m)=none:=by
  cases z:valN kvs (bq m) with
  |none=>rfl
  |some y=>rw[z]at q;cases q
 rw[rq hv0]
 rw[rq hv0]at t
 exact dI (r.keep t) (.cons ⟨rfl,hm.keep t,hv.keep t⟩ .nil)
theorem n5.keep{K:W.Frag}{H H':Hp}(t1:∀b xs,H b=some (.tup xs)->H' b=some (.tup xs))(t:∀b xs,bz K H b xs->bz K H' b xs):∀{vs:List V}{es:List (Nat×aV)},n5 K H vs es->n5 K H' vs es
 |_,_,.nil=>.nil
 |_,_,.cons ⟨x,w,e,h,q⟩ r=>.cons ⟨x,w,e,t1 _ _ h,q.keep t⟩ (n5.keep t1 t r)
abbrev mw(K:W.Frag)(H:Hp):List V->List aV->Prop:=Paired λv m=>bV K H m v
theorem mw.keep{K:W.Frag}{H H':Hp}(t:∀b xs,bz K H b xs->bz K H' b xs):∀{vs:List V}{ms:List aV},mw K H vs ms->mw K H' vs ms
 |_,_,.nil=>.nil
 |_,_,.cons a r=>.cons (a.keep t) (mw.keep t r)
theorem NK{α:Type}{f:α->Bool}{l:List α}{i:Nat}{m:α}(hi:l[i]?=some m)(hg:f m=true)(hb:∀m'∈l.take i,f m'=false):l.find? f=some m:=by
 have e:l=l.take i++m::l.drop (i+1):=by
  obtain⟨h1,h2⟩:=abi.mp hi
  rw[←h2,←List.drop_eq_getElem_cons h1,List.take_append_drop]
 rw[e,List.find?_append,List.find?_eq_none.mpr (λx hx=>by rw[hb x hx];decide),acB,hg]
 rfl
theorem Hr{α:Type}{f:α->Bool}{l:List α}(hb:∀m'∈l,f m'=false):l.find? f=none:=List.find?_eq_none.mpr λx hx=>by rw[hb x hx];decide
theorem rH{p:aV}:∀(es:List (Nat×aV))(acc:Cm×List aV),(es.foldl (dB p) acc).1.length+acc.2.length=acc.1.length+(es.foldl (dB p) acc).2.length
 |[],_=>rfl
 |e::es,acc=>by
  have h1:=Ly p acc e
  have h2:=rH (p:=p) es (dB p acc e)
  rw[ab6];omega
theorem lG{led:aV->List (Nat×aV)}:∀(ms:List aV)(acc:Cm×List aV),(ms.foldl (gv led) acc).1.length+acc.2.length=acc.1.length+(ms.foldl (gv led) acc).2.length
 |[],_=>rfl
 |m::ms,acc=>by
  have h1:=rH (p:=m) (led m) acc
  have h2:=lG (led:=led) ms (gv led acc m)
  rw[ab6]
  unfold gv at h2⊢
  omega
def m0:aV:=((Str.ofString "row",("":Str)),0)
def vh(ts:List (Str×Str))(m:aV):Bool:=decide (m=((Str.ofString "row",("":Str)),ts.length))
def yy(cm:Cm)(m:aV):Option (Option (aV×Nat)):=(cm.find? λe=>decide (e.1=m)).map (·.2)
inductive rJ(cm:Cm):Option (aV×Nat)->List Nat->Prop where
 |nil:rJ cm none []
 |cons {m:aV}{c:Nat}{x:Option (aV×Nat)}{r:List Nat}:yy cm m=some x->rJ cm x r->rJ cm (some (m,c)) (c::r)
theorem yz{K:W.Frag}{H:Hp}{m:aV}{x:Option (aV×Nat)}:∀{kvs:List (N3 (Lf⊕List Lf))}{cm:Cm},B7 K H kvs cm->yy cm m=some x->∃v,valN kvs (bq m)=some v/\rG K x H v
 |_,_,.nil,h=>by cases h
 |e::kvs,p::cm,.cons a r,h=>by
  unfold yy at h
  unfold valN
  rw[acB]at h⊢
  rw[a.1]
  by_cases q:p.1=m
  ·rw[abo q]at h
   rw[abo (by rw[q])]
   cases h
   exact⟨_,O,a.2.2⟩
  ·rw[abB q]at h
   rw[abB (λz=>q (lC.mp z))]
   exact yz r h
theorem Hs:∀(xs:List Nat),((xs.map sg).map (·.length)).sum=xs.length
 |[]=>rfl
 |x::xs=>by rw[abT,abT,ab4,Hs xs,Qc,abG];omega
inductive cR(led:aV->List (Nat×aV))(a:aV):List Nat->aV->Prop where
 |nil:cR led a [] a
 |snoc {xs:List Nat}{p q:aV}{c:Nat}:cR led a xs p->(c,q)∈led p->cR led a (xs++[c]) q
theorem yC{cm l:Cm}{m:aV}{x:Option (aV×Nat)}(h:yy cm m=some x):yy (cm++l) m=some x:=by
 unfold yy at h⊢
 rw[List.find?_append]
 cases e:cm.find? λe=>decide (e.1=m) with
 |none=>rw[e]at h;cases h
 |some y=>rw[e]at h;exact h
theorem Lz{cm:Cm}{m:aV}{x:Option (aV×Nat)}(h:cK cm m=false):yy (cm++[(m,x)]) m=some x:=by
 unfold yy
 rw[List.find?_append,List.find?_eq_none.mpr,acB,abo rfl]
 ·rfl
 ·intro e he q
  have z:cK cm m=true:=List.any_eq_true.mpr ⟨e,he,q⟩
  rw[h]at z;cases z
theorem rJ.app{cm l:Cm}{x:Option (aV×Nat)}{xs:List Nat}(h:rJ cm x xs):rJ (cm++l) x xs:=by
 induction h with
 |nil=>exact .nil
 |cons e _ ih=>exact .cons (yC e) ih
theorem n6{cm l:Cm}{m:aV}:cK (cm++l) m=(cK cm m||cK l m):=List.any_append ..
theorem jV{m q:aV}{x:Option (aV×Nat)}:cK [(q,x)] m=true↔m=q:=by
 unfold cK
 rw[acR,List.any_nil,Bool.or_false]
 exact⟨λh=>(abF h).symm,λh=>abo h.symm⟩
def g6(led:aV->List (Nat×aV))(a:aV)(cm:Cm)(m:aV)(n:Nat):Prop:=∃x xs,yy cm m=some x/\rJ cm x xs/\cR led a xs.reverse m/\xs.length=n
theorem g6.app{led:aV->List (Nat×aV)}{a m:aV}{cm l:Cm}{n:Nat}(h:g6 led a cm m n):g6 led a (cm++l) m n:=by
 obtain⟨x,xs,h1,h2,h3,h4⟩:=h
 exact⟨x,xs,yC h1,h2.app,h3,h4⟩
section
variable{good:aV->Bool}{led:aV->List (Nat×aV)}{a:aV}
structure Mid(led:aV->List (Nat×aV))(a:aV)(cm:Cm)(k:Nat)(acc:Cm×List aV):Prop where
 pre:∃l,acc.1=cm++l
 told:∀m,cK acc.1 m=true->∃n,n<=k+1/\g6 led a acc.1 m n
 new:∀m∈acc.2,g6 led a acc.1 m (k+1)/\cK acc.1 m=true
 old:∀m,cK acc.1 m=true->cK cm m=true\/m∈acc.2
theorem Mid.vis{cm:Cm}{k:Nat}{acc:Cm×List aV}{p:aV}{e:Nat×aV}(h:Mid led a cm k acc)(hp:g6 led a acc.1 p k)(he:e∈led p):Mid led a cm k (dB p acc e)/\cK (dB p acc e).1 e.2=true/\(∃l,(dB p acc e).1=acc.1++l):=by
 unfold dB
 cases hh:cK acc.1 e.2 with
 |true=>rw[abe rfl];exact⟨h,hh,[],(abI _).symm⟩
 |false =>
  rw[abb (by decide)]
  obtain⟨x,xs,h1,h2,h3,h4⟩:=hp
  have hnew:g6 led a (acc.1++[(e.2,some (p,e.1))]) e.2 (k+1):=by
   refine⟨some (p,e.1),e.1::xs,Lz hh,.cons (yC h1) h2.app,?_,by rw[abG,h4]⟩
   rw[List.reverse_cons]
   exact .snoc h3 he
  have hhas:cK (acc.1++[(e.2,some (p,e.1))]) e.2=true:=by rw[n6,jV.mpr rfl,Bool.or_true]
  refine⟨⟨?_,λm hm=>?_,λm hm=>?_,λm hm=>?_⟩,hhas,_,O⟩
  ·obtain⟨l,q⟩:=h.pre
   exact⟨l++[(e.2,some (p,e.1))],by show acc.1++_=_;rw[q,abJ]⟩
  ·have hm:cK (acc.1++[(e.2,some (p,e.1))]) m=true:=hm
   rw[n6,Bool.or_eq_true]at hm
   rcases hm with z|z
   ·obtain⟨n,hn,t⟩:=h.told m z
    exact⟨n,hn,t.app⟩
   ·rw[jV]at z;subst z
    exact⟨_,abf _,hnew⟩
  ·rcases abp.mp hm with z|z
   ·obtain⟨t,u⟩:=h.new m z
    exact⟨t.app,by show cK (acc.1++_) m=true;rw[n6,u];rfl⟩
   ·rw[abh.mp z];exact⟨hnew,hhas⟩
  ·have hm:cK (acc.1++[(e.2,some (p,e.1))]) m=true:=hm
   rw[n6,Bool.or_eq_true]at hm
   rcases hm with z|z
   ·rcases h.old m z with y|y
    ·exact .inl y
    ·exact .inr (ab0 _ y)
   ·rw[jV]at z;subst z
    exact .inr (abD _ (abh.mpr rfl))
theorem rK{cm l:Cm}{m:aV}(h:cK cm m=true):cK (cm++l) m=true:=by rw[n6,h];rfl
theorem Mid.T7{cm:Cm}{k:Nat}{p:aV}:∀{es:List (Nat×aV)}{acc:Cm×List aV},Mid led a cm k acc->g6 led a acc.1 p k->(∀e∈es,e∈led p)->Mid led a cm k (es.foldl (dB p) acc)/\(∀e∈es,cK (es.foldl (dB p) acc).1 e.2=true)/\∃l,(es.foldl (dB p) acc).1=acc.1++l
 |[],acc,h,_,_=>⟨h,(λ_ z=>nomatch z),[],(abI _).symm⟩
 |e::es,acc,h,hp,he=>by
  obtain⟨h1,h2,l,h3⟩:=h.vis hp (he e (abN ..))
  have hp1:g6 led a (dB p acc e).1 p k:=by rw[h3];exact hp.app
  obtain⟨g1,g2,l',g3⟩:=Mid.T7 h1 hp1 λe' z=>he e' (abC _ z)
  rw[ab6]
  refine⟨g1,λe' z=>?_,l++l',by rw[g3,h3,abJ]⟩
  rcases abw.mp z with y|y
  ·subst y;rw[g3];exact rK h2
  ·exact g2 e' y
theorem Mid.T8{cm:Cm}{k:Nat}:∀{ms:List aV}{acc:Cm×List aV},Mid led a cm k acc->(∀p∈ms,g6 led a acc.1 p k)->Mid led a cm k (ms.foldl (gv led) acc)/\(∀p∈ms,∀e∈led p,cK (ms.foldl (gv led) acc).1 e.2=true)/\∃l,(ms.foldl (gv led) acc).1=acc.1++l
 |[],acc,h,_=>⟨h,(λ_ z=>nomatch z),[],(abI _).symm⟩
 |p::ms,acc,h,hp=>by
  obtain⟨h1,h2,l,h3⟩:=h.T7 (p:=p) (es:=led p) (hp p (abN ..)) λe z=>z
  have h1:Mid led a cm k (gv led acc p):=h1
  have h3:(gv led acc p).1=acc.1++l:=h3
  have h2:∀e∈led p,cK (gv led acc p).1 e.2=true:=h2
  obtain⟨g1,g2,l',g3⟩:=Mid.T8 h1 λp' z=>by rw[h3];exact(hp p' (abC _ z)).app
  rw[ab6]
  refine⟨g1,λp' z e' ze=>?_,l++l',by rw[g3,h3,abJ]⟩
  rcases abw.mp z with y|y
  ·subst y;rw[g3];exact rK (h2 e' ze)
  ·exact g2 p' y e' ze
structure EV(good:aV->Bool)(led:aV->List (Nat×aV))(a:aV)(cm:Cm)(aS:List aV)(k:Nat):Prop where
 told:∀m,cK cm m=true->∃n,n<=k/\g6 led a cm m n
 VQ:∀m∈aS,g6 led a cm m k/\cK cm m=true
 all:∀ys m,cR led a ys m->ys.length<=k->cK cm m=true
 shut:∀p,cK cm p=true->p∉aS->∀e∈led p,cK cm e.2=true
 bad:∀p,cK cm p=true->p∉aS->good p=false
 less:∀ys m,cR led a ys m->ys.length<k->good m=false
theorem EV.go{cm:Cm}{aS:List aV}{k:Nat}(h:EV good led a cm aS k)(hf:aS.find? good=none):EV good led a (expand led cm aS).1 (expand led cm aS).2 (k+1):=by
 have hm:Mid led a cm k (cm,[]):=⟨⟨[],(abI _).symm⟩,λm hm=>by obtain⟨n,hn,t⟩:=h.told m hm;exact⟨n,by omega,t⟩,(λ_ z=>nomatch z),λm hm=>.inl hm⟩
 obtain⟨g1,g2,l,g3⟩:=hm.T8 (ms:=aS) λp hp=>(h.VQ p hp).1
 have hno:∀m∈aS,good m=false:=λm hm=>by
  have:=List.find?_eq_none.mp hf m hm
  cases e:good m with
  |true=>exact absurd e this
  |false=>rfl
 have hbad:∀p,cK cm p=true->good p=false:=λp hp=>by
  by_cases q:p∈aS
  ·exact hno p q
  ·exact h.bad p hp q
 have Pg:∀p,cK cm p=true->∀e∈led p,cK (expand led cm aS).1 e.2=true:=λp hp e he=>by
  by_cases q:p∈aS
  ·exact g2 p q e he
  ·unfold expand;rw[g3];exact rK (h.shut p hp q e he)
 refine⟨g1.told,g1.new,λys m hw hl=>?_,λp hp hq e he=>?_,λp hp hq=>?_,λys m hw hl=>?_⟩
 ·cases hw with
  |nil=>unfold expand;rw[g3];exact rK (h.all [] a .nil (abO _))
  |@snoc xs p q c hw1 he =>
   rw[abj]at hl
   exact Pg p (h.all xs p hw1 (by simpa using hl)) _ he
 ·rcases g1.old p hp with z|z
  ·exact Pg p z e he
  ·exact absurd z hq
 ·rcases g1.old p hp with z|z
  ·exact hbad p z
  ·exact absurd z hq
 ·exact hbad m (h.all ys m hw (by omega))
theorem EV.zero:EV good led a [(a,none)] [a] 0:=by
 have hv:g6 led a [(a,none)] a 0:=⟨none,[],by unfold yy;rw[acB,abo rfl];rfl,.nil,.nil,rfl⟩
 have ha:cK [(a,none)] a=true:=jV.mpr rfl
 refine⟨λm hm=>?_,λm hm=>?_,λys m hw hl=>?_,λp hp hq=>?_,λp hp hq=>?_,λys m hw hl=>absurd hl (Nat.not_lt_zero _)⟩
 ·rw[jV.mp hm];exact⟨0,abf _,hv⟩
 ·rw[abh.mp hm];exact⟨hv,ha⟩
 ·cases hw with
  |nil=>exact ha
  |snoc _ _=>rw[abj]at hl;simp at hl
 ·exact absurd (abh.mpr (jV.mp hp)) hq
 ·exact absurd (abh.mpr (jV.mp hp)) hq
def T9(good:aV->Bool)(led:aV->List (Nat×aV))(a:aV)(zJ:Cm)(r:Option aV):Prop :=
 match r with
 |some m=>good m=true/\∃n,g6 led a zJ m n/\∀ys m',cR led a ys m'->good m'=true->n<=ys.length
 |none=>(∀m,cK zJ m=true->∃n,g6 led a zJ m n)/\∀ys m',cR led a ys m'->cK zJ m'=true/\good m'=false
theorem EV.run{cm zJ:Cm}{aS:List aV}{r:Option aV}(h:yw good led cm aS r zJ):∀{k:Nat},EV good led a cm aS k->T9 good led a zJ r:=by
 induction h with
 |stop =>
  rename_i cm
  intro k L
  have hw:∀ys m',cR led a ys m'->cK cm m'=true:=λys m' hw=>by
   induction hw with
   |nil=>exact L.all [] a .nil (abO _)
   |snoc _ he ih=>exact L.shut _ ih (λz=>nomatch z) _ he
  exact⟨λm hm=>by obtain⟨n,_,t⟩:=L.told m hm;exact⟨n,t⟩,λys m' q=>⟨hw ys m' q,L.bad m' (hw ys m' q) λz=>nomatch z⟩⟩
 |found hf =>
  intro k L
  have hm:=List.mem_of_find?_eq_some hf
  refine⟨List.find?_some hf,k,(L.VQ _ hm).1,λys m' hw hg=>?_⟩
  cases Nat.lt_or_ge ys.length k with
  |inl z=>rw[L.less ys m' hw z]at hg;cases hg
  |inr z=>exact z
 |go _ hf _ ih=>intro k L;exact ih (L.go hf)
theorem NL{cm:Cm}{r:Option aV}(h:yw good led [(a,none)] [a] r cm):T9 good led a cm r:=EV.run h EV.zero
end
structure UOk(p q f:Str)(b1 b2 b3 b4:Bool)(ts:List (Str×Str))(U:List aV):Prop where
 len:U.length<=100000
 one:m0∈U
 shut:∀m∈U,m.2<ts.length->∀e∈cH p q f b1 b2 b3 b4 ts m,e.2∈U
 good:∀m∈U,m.2<ts.length\/vh ts m=true
theorem II{z:Str}:∀t∈kZ z,t.2.length<=1:=λt ht=>by
 obtain⟨k,_,rfl⟩:=abR.mp ht
 exact abf _
theorem LA{r:List Str}:∀{n:Nat},∀t∈gm r n,t.2.length<=1
 | 0,t,ht=>nomatch ht
 |n+1,t,ht=>by
  rcases abp.mp ht with z|z
  ·exact LA t z
  ·rcases abp.mp z with y|y
   ·split at y
    ·cases y
    ·rw[abh.mp y];exact abO _
   ·exact II t y
theorem LB{t:List (List Str)}:∀x∈az t,x.2.length<=1:=λx hx=>by
 obtain⟨r,_,h⟩:=acr.mp hx
 rcases abp.mp h with z|z
 ·exact LA x z
 ·rw[abh.mp z];exact abO _
def Shp(p q f u:Str)(c:Nat)(k w' u':Str):Prop :=
 (k=Str.ofString "skip"/\(gQ c f=true\/gQ c q=true\/aU (sg c) u=true\/aU (sg c) (" ":Str)=true))\/(k=Str.ofString "end"/\aU (sg c) (Str.ofString "\n")=true/\w'=Str.ofString "row"/\u'=("":Str))\/(k=Str.ofString "part"/\gQ c p=true)\/k=("put":Str)
theorem Ed{p q f:Str}{b1 b2 b3 b4:Bool}{w u k w' u':Str}{c:Nat}(h:bA p q f b1 b2 b3 b4 w u c=.go k w' u'):Shp p q f u c k w' u':=by
 have hB:bO p b3 c=.go k w' u'->Shp p q f u c k w' u':=by
  intro h
  unfold bO at h
  repeat' split at h
  all_goals first
   | (cases h;done)
   | (cases h;exact .inr (.inl ⟨rfl,by assumption,rfl,rfl⟩))
   | (cases h;exact .inr (.inr (.inl ⟨rfl,by assumption⟩)))
   | (cases h;exact .inl ⟨rfl,.inr (.inr (.inr (by assumption)))⟩)
 unfold bA at h
 split at h
 ·unfold cF at h
  repeat' split at h
  all_goals first
   | (cases h;done)
   | (cases h;exact .inr (.inr (.inr rfl)))
   | (cases h;exact .inl ⟨rfl,.inl (by assumption)⟩)
   | (cases h;exact .inl ⟨rfl,.inr (.inr (.inl (by assumption)))⟩)
 split at h
 ·unfold fF dw at h
  repeat' split at h
  all_goals first
   | (cases h;done)
   | (cases h;exact .inr (.inr (.inr rfl)))
 split at h
 ·unfold gD at h
  split at h
  ·cases h;exact .inr (.inr (.inr rfl))
  ·exact hB h
 split at h
 ·exact hB h
 unfold fq at h
 split at h
 ·unfold ff at h
  repeat' split at h
  all_goals first
   | (cases h;done)
   | (cases h;exact .inr (.inr (.inr rfl)))
   | (cases h;exact .inr (.inl ⟨rfl,by assumption,rfl,rfl⟩))
   | (cases h;exact .inr (.inr (.inl ⟨rfl,by assumption⟩)))
   | (cases h;exact .inl ⟨rfl,.inl (by assumption)⟩)
 ·unfold eB at h
  repeat' split at h
  all_goals first
   | (cases h;done)
   | (cases h;exact .inr (.inr (.inr rfl)))
   | (cases h;exact .inr (.inl ⟨rfl,by assumption,rfl,rfl⟩))
   | (cases h;exact .inr (.inr (.inl ⟨rfl,by assumption⟩)))
   | (cases h;exact .inl ⟨rfl,.inl (by assumption)⟩)
   | (cases h;exact .inl ⟨rfl,.inr (.inl (by assumption))⟩)
   | (cases h;exact .inl ⟨rfl,.inr (.inr (.inr (by assumption)))⟩)
theorem IJ:¬Str.ofString "skip"=("end":Str):=B5 (by decide +kernel)
theorem Ef:¬Str.ofString "put"=("end":Str):=B5 (by decide +kernel)
theorem Bb:¬Str.ofString "part"=("end":Str):=B5 (by decide +kernel)
theorem ux{p q f:Str}{b1 b2 b3 b4:Bool}{w u w' u':Str}{c:Nat}(h:bA p q f b1 b2 b3 b4 w u c=.go ("end":Str) w' u'):(w',u')=(Str.ofString "row",("":Str)):=by
 rcases Ed h with ⟨z,_⟩|⟨_,_,e1,e2⟩|⟨z,_⟩|z
 ·exact absurd z.symm IJ
 ·rw[e1,e2]
 ·exact absurd z.symm Bb
 ·exact absurd z.symm Ef
def Ph(q:Str):List (Str×Str):=[(Str.ofString "row",("":Str)),(Str.ofString "cell",("":Str)),(Str.ofString "plain",("":Str)),(Str.ofString "behind",("":Str)),(Str.ofString "freed",("":Str))]++q.cps.toList.flatMap λc=>[(Str.ofString "within",sg c),(Str.ofString "doubt",sg c),(Str.ofString "freed",sg c)]
theorem FD{q w u:Str}(h:jS q w u):(w,u)∈Ph q:=by
 unfold Ph
 rcases h with ⟨rfl,rfl|rfl|rfl|rfl|rfl⟩|⟨d,hd,rfl,rfl|rfl|rfl⟩
 ·exact ab0 _ (by simp)
 ·exact ab0 _ (by simp)
 ·exact ab0 _ (by simp)
 ·exact ab0 _ (by simp)
 ·exact ab0 _ (by simp)
 ·exact abD _ (acr.mpr ⟨d,hd,by simp⟩)
 ·exact abD _ (acr.mpr ⟨d,hd,by simp⟩)
 ·exact abD _ (acr.mpr ⟨d,hd,by simp⟩)
theorem FF{q:Str}{s:Str×Str}(h:s∈Ph q):jS q s.1 s.2:=by
 unfold Ph at h
 rcases abp.mp h with z|z
 ·simp only[abw,List.not_mem_nil,or_false]at z
  rcases z with rfl|rfl|rfl|rfl|rfl
  ·exact .inl ⟨rfl,.inl rfl⟩
  ·exact .inl ⟨rfl,.inr (.inl rfl)⟩
  ·exact .inl ⟨rfl,.inr (.inr (.inl rfl))⟩
  ·exact .inl ⟨rfl,.inr (.inr (.inr (.inl rfl)))⟩
  ·exact .inl ⟨rfl,.inr (.inr (.inr (.inr rfl)))⟩
 ·obtain⟨d,hd,y⟩:=acr.mp z
  simp only[abw,List.not_mem_nil,or_false]at y
  rcases y with rfl|rfl|rfl
  ·exact .inr ⟨d,hd,rfl,.inl rfl⟩
  ·exact .inr ⟨d,hd,rfl,.inr (.inl rfl)⟩
  ·exact .inr ⟨d,hd,rfl,.inr (.inr rfl)⟩
theorem NN{p q f:Str}(g:Gd p q f):(Ph q).length<=11:=by
 have e:∀l:List Nat,(l.flatMap λc=>[(Str.ofString "within",sg c),(Str.ofString "doubt",sg c),(Str.ofString "freed",sg c)]).length=3*l.length:=by
  intro l
  induction l with
  |nil=>rfl
  |cons a l ih=>rw[List.flatMap_cons,abj,ih];show 3+3*l.length=3*(l.length+1);omega
 unfold Ph
 rw[abj,e]
 have:q.cps.toList.length<=2:=by rw[abt];exact g.q2
 show 5+_<=11
 omega
def lH(ts:List (Str×Str)):Prop:=∀n,n+1=ts.length->ts[n]?=some rE
theorem yD{p q f:Str}{b1 b2 b3 b4:Bool}{ts:List (Str×Str)}{m m':aV}{c:Nat}(he:lH ts)(hm:m.2<ts.length)(h:gu p q f b1 b2 b3 b4 ts m c=some m')(hq:jS q m.1.1 m.1.2):jS q m'.1.1 m'.1.2/\(m'.2<ts.length\/m'=((Str.ofString "row",("":Str)),ts.length)):=by
 unfold gu gn at h
 cases hs:bA p q f b1 b2 b3 b4 m.1.1 m.1.2 c with
 |kL e=>rw[hs]at h;cases h
 |go k w u =>
  rw[hs]at h
  dsimp only at h
  by_cases hl:cg f w u=true
  ·rw[abe hl]at h
   dsimp only at h
   cases hc:lF ts m.2 k (sg c) with
   |none=>rw[hc]at h;cases h
   |some n =>
    rw[hc]at h
    cases h
    refine⟨pR hq hs,?_⟩
    unfold lF at hc
    by_cases hsk:aU k ("skip":Str)=true
    ·rw[abe hsk]at hc;cases hc;exact .inl hm
    ·rw[abb hsk]at hc
     by_cases ht:ts[m.2]?=some (k,if aU k ("put":Str)=true then sg c else Str.ofString "")
     ·rw[abe ht]at hc
      cases hc
      by_cases hz:m.2+1=ts.length
      ·have e:=he _ hz
       rw[e]at ht
       have hk:k=("end":Str):=by injection ht with ht;exact(congrArg Prod.fst ht).symm
       rw[hk]at hs
       have:=ux hs
       exact .inr (by show((w,u),m.2+1)=_;rw[this,hz])
      ·exact .inl (by show m.2+1<_;omega)
     ·rw[abb ht]at hc;cases hc
  ·rw[abb hl]at h;cases h
def uL(q:Str)(ts:List (Str×Str)):List aV:=((Str.ofString "row",("":Str)),ts.length)::(Ph q).flatMap λs=>(List.range ts.length).map λn=>(s,n)
theorem n8{q:Str}{ts:List (Str×Str)}{m:aV}:m∈uL q ts↔m=((Str.ofString "row",("":Str)),ts.length)\/(m.1∈Ph q/\m.2<ts.length):=by
 unfold uL
 rw[abw,acr]
 constructor
 ·rintro(e|⟨s,hs,h⟩)
  ·exact .inl e
  ·obtain⟨n,hn,rfl⟩:=abR.mp h
   exact .inr ⟨hs,List.mem_range.mp hn⟩
 ·rintro(e|⟨h1,h2⟩)
  ·exact .inl e
  ·exact .inr ⟨m.1,h1,abR.mpr ⟨m.2,List.mem_range.mpr h2,rfl⟩⟩
theorem LC{p q f:Str}(g:Gd p q f)(ts:List (Str×Str)):(uL q ts).length<=1+11*ts.length:=by
 have e:∀l:List (Str×Str),(l.flatMap λs=>(List.range ts.length).map λn=>(s,n)).length=l.length*ts.length:=by
  intro l
  induction l with
  |nil=>simp
  |cons a l ih=>rw[List.flatMap_cons,abj,ih,abG,abg,acM,Nat.succ_mul];omega
 unfold uL
 rw[abG,e]
 have:=Nat.mul_le_mul_right ts.length (NN g)
 omega
theorem xR{p q f:Str}{b1 b2 b3 b4:Bool}{ts:List (Str×Str)}{m:aV}{e:Nat×aV}(h:e∈cH p q f b1 b2 b3 b4 ts m):gu p q f b1 b2 b3 b4 ts m e.1=some e.2:=by
 unfold cH at h
 split at h
 ·cases h
 ·obtain⟨c,_,hc⟩:=acs.mp h
  cases hm:gu p q f b1 b2 b3 b4 ts m c with
  |none=>rw[hm]at hc;cases hc
  |some m'=>rw[hm]at hc;cases hc;exact hm
theorem uok{p q f:Str}{b1 b2 b3 b4:Bool}{ts:List (Str×Str)}(g:Gd p q f)(he:lH ts)(hl:ts.length<=9000):UOk p q f b1 b2 b3 b4 ts (uL q ts):=by
 refine⟨abn (LC g ts) (by omega),?_,λm hm hlt e hE=>?_,λm hm=>?_⟩
 ·rw[n8]
  cases ts with
  |nil=>exact .inl rfl
  |cons a l=>exact .inr ⟨FD (.inl ⟨rfl,.inl rfl⟩),Nat.zero_lt_succ _⟩
 ·have hs:jS q m.1.1 m.1.2:=by
   rcases n8.mp hm with z|z
   ·rw[z]at hlt;exact absurd hlt (acp _)
   ·exact FF z.1
  obtain⟨h1,h2⟩:=yD he hlt (xR hE) hs
  rw[n8]
  rcases h2 with z|z
  ·exact .inr ⟨FD h1,z⟩
  ·exact .inl z
 ·rcases n8.mp hm with z|z
  ·exact .inr (abo z)
  ·exact .inl z.2
theorem rL{a b:Nat}(h:sg a=sg b):a=b:=by
 have e:(sg a).cps.toList=(sg b).cps.toList:=by rw[h]
 exact(List.cons.inj e).1
theorem Bc{c:Nat}:∀(l:List Nat)(acc:List Nat),c∈l.foldl kq acc↔c∈acc\/c∈l
 |[],acc=>by simp
 |a::l,acc=>by
  rw[ab6,Bc l]
  unfold kq
  by_cases h:away ⟨acc.toArray⟩ a=true
  ·rw[abe h,abp,abh,abw,or_assoc]
  ·rw[abb h]
   have ha:a∈acc:=by
    by_cases z:a∈acc
    ·exact z
    ·exact absurd ((lE _ _).mpr (by simpa using z)) h
   rw[abw]
   constructor
   ·rintro(z|z)
    ·exact .inl z
    ·exact .inr (.inr z)
   ·rintro(z|z|z)
    ·exact .inl z
    ·subst z;exact .inl ha
    ·exact .inr z
theorem lI{c:Nat}{z:Str}:c∈(jl z).cps.toList↔c∈z.cps.toList:=by
 show c∈(jk z.cps.toList).toArray.toList↔_
 unfold jk
 rw[show((z.cps.toList.foldl kq []).toArray).toList=z.cps.toList.foldl kq []from rfl,Bc]
 simp
theorem FG{p q f:Str}{c:Nat}:c∈(JJ p q f).cps.toList↔c∈p.cps.toList\/c∈q.cps.toList\/c∈f.cps.toList\/c=10\/c=32:=by
 unfold JJ
 rw[app_list,app_list,abp,abp,lI,app_list,app_list,abp,abp]
 have e1:(Str.ofString "\n").cps.toList=[10]:=by decide +kernel
 have e2:(" ":Str).cps.toList=[32]:=by decide +kernel
 rw[e1,e2,abh,abh]
 simp only[or_assoc]
def zD:List Str->List Nat->List (Str×Str)
 |k::ks,c::cs=>(if aU k ("skip":Str)=true then [] else [(k,if aU k ("put":Str)=true then sg c else Str.ofString "")])++zD ks cs
 |_,_=>[]
theorem Ua{c:Nat}(h:aU (sg c) (Str.ofString "\n")=true):c=10:=rL ((gi h).trans (by decide +kernel))
theorem Ub{c:Nat}(h:aU (sg c) (" ":Str)=true):c=32:=rL ((gi h).trans (by decide +kernel))
theorem tried{p q f:Str}{b1 b2 b3 b4:Bool}{ts:List (Str×Str)}{w u k w' u':Str}{c n n':Nat}(hq:jS q w u)(hs:bA p q f b1 b2 b3 b4 w u c=.go k w' u')(hl:cg f w' u'=true)(hn:n<ts.length)(hc:lF ts n k (sg c)=some n'):(c,((w',u'),n'))∈cH p q f b1 b2 b3 b4 ts ((w,u),n):=by
 have hm:gu p q f b1 b2 b3 b4 ts ((w,u),n) c=some ((w',u'),n'):=by
  unfold gu gn
  dsimp only
  rw[hs]
  dsimp only
  rw[abe hl]
  dsimp only
  rw[hc]
 unfold cH
 obtain⟨t,ht⟩:∃t,ts[n]?=some t:=⟨ts[n],aby hn⟩
 dsimp only
 rw[ht]
 refine acs.mpr ⟨c,?_,by rw[hm];rfl⟩
 rw[lI,app_list,abp,FG]
 rcases Ed hs with ⟨e,z⟩|⟨e,z,_⟩|⟨e,z⟩|e
 ·rcases z with z|z|z|z
  ·exact .inl (.inr (.inr (.inl (Lq z))))
  ·exact .inl (.inr (.inl (Lq z)))
  ·rcases hq with ⟨rfl,_⟩|⟨d,hd,rfl,_⟩
   ·exact absurd z (mT c)
   ·rw[rL (gi z)];exact .inl (.inr (.inl hd))
  ·exact .inl (.inr (.inr (.inr (.inr (Ub z)))))
 ·exact .inl (.inr (.inr (.inr (.inl (Ua z)))))
 ·exact .inl (.inl (Lq z))
 ·subst e
  unfold lF at hc
  rw[abb (ns (by decide +kernel)),abe (aY _),ht]at hc
  by_cases e:some t=some (Str.ofString "put",sg c)
  ·injection e with e
   right
   rw[e]
   exact abh.mpr rfl
  ·rw[abb e]at hc;cases hc
theorem IK{p q f:Str}{b1 b2 b3 b4:Bool}{w u k w' u':Str}{c:Nat}(h:jS q w u)(hl:cg f w u=false)(hs:bA p q f b1 b2 b3 b4 w u c=.go k w' u'):cg f w' u'=false:=by
 have key:∀{d:Nat}{w:Str},(w=Str.ofString "within"\/w=("freed":Str))->gQ d f=true->cg f w (sg d)=false:=by
  intro d w hw hd
  unfold cg
  have e:W8 (sg d) f=!(gQ d f):=rfl
  rcases hw with rfl|rfl
  ·rw[abb (mT d),abb (ns (by decide +kernel)),e,hd];rfl
  ·rw[abb (mT d),abb (ns (by decide +kernel)),e,hd];rfl
 have hdf:∀{d:Nat}{w:Str},cg f w (sg d)=false->gQ d f=true:=by
  intro d w hl
  unfold cg at hl
  rw[abb (mT d)]at hl
  split at hl
  ·cases hl
  ·have e:W8 (sg d) f=!(gQ d f):=rfl
   rw[e]at hl
   cases hx:gQ d f with
   |true=>rfl
   |false=>rw[hx]at hl;cases hl
 rcases h with ⟨rfl,_⟩|⟨d,hd,rfl,rfl|rfl|rfl⟩
 ·unfold cg at hl;rw[abe (aY _)]at hl;cases hl
 ·have hf:=hdf hl
  rw[fW (aY _)]at hs
  unfold cF at hs
  by_cases hcf:gQ c f=true
  ·rw[abe hcf]at hs;cases hs;exact key (.inr rfl) hf
  ·rw[abb hcf]at hs
   have hcd:¬aU (sg c) (sg d)=true:=λz=>by rw[rL (gi z)]at hcf;exact hcf hf
   rw[abb hcd]at hs
   repeat' split at hs
   all_goals first
    | (cases hs;done)
    | (cases hs;exact key (.inl rfl) hf)
 ·unfold cg at hl;rw[abb (mT d),abe (aY _)]at hl;cases hl
 ·have hf:=hdf hl
  rw[jR (aY _)]at hs
  unfold fF dw at hs
  rw[abb (mT d)]at hs
  repeat' split at hs
  all_goals first
   | (cases hs;done)
   | (cases hs;exact key (.inl rfl) hf)
theorem Eg(f:Str):cg f ("row":Str) ("":Str)=true:=by unfold cg;rw[abe (aY _)]
theorem Eh{p q f:Str}{b1 b2 b3 b4:Bool}:∀{cs:List Nat}{w u:Str},jS q w u->cg f w u=false->(runM p q f b1 b2 b3 b4 w u cs).2≠(Str.ofString "row",("":Str),none)
 |[],w,u,_,hl=>λe=>by
  have e:(w,u,(none:Option Str))=(Str.ofString "row",("":Str),none):=e
  injection e with e1 e2
  injection e2 with e2 _
  rw[e1,e2,Eg]at hl
  cases hl
 |c::cs,w,u,h,hl=>by
  unfold runM
  cases hs:bA p q f b1 b2 b3 b4 w u c with
  |kL e=>dsimp only;intro z;injection z with _ z;injection z with _ z;cases z
  |go k w' u'=>exact Eh (pR h hs) (IK h hl hs)
theorem Ei{p q f:Str}{b1 b2 b3 b4:Bool}{ts:List (Str×Str)}{a:aV}(he:lH ts):∀{cs:List Nat}{w u:Str}{n:Nat}{pre:List Nat},jS q w u->cR (cH p q f b1 b2 b3 b4 ts) a pre ((w,u),n)->n<=ts.length->(n=ts.length->(w,u)=(Str.ofString "row",("":Str)))->(runM p q f b1 b2 b3 b4 w u cs).2=(Str.ofString "row",("":Str),none)->ts.drop n=zD (runM p q f b1 b2 b3 b4 w u cs).1 cs->∃ds,ds.length<=cs.length/\cR (cH p q f b1 b2 b3 b4 ts) a (pre++ds) ((Str.ofString "row",("":Str)),ts.length):=by
 intro cs
 induction cs with
 |nil =>
  intro w u n pre hq hw hn hr _ ht
  have e:n=ts.length:=by
   have:(ts.drop n).length=0:=by rw[ht];rfl
   rw[List.length_drop]at this
   omega
  have hr:=hr e
  rw[e,hr]at hw
  exact⟨[],abf _,by rw[abI];exact hw⟩
 |cons c cs ih =>
  intro w u n pre hq hw hn hr oh ht
  by_cases e:n=ts.length
  ·have hr:=hr e
   rw[e,hr]at hw
   exact⟨[],abO _,by rw[abI];exact hw⟩
  have hlt:n<ts.length:=by omega
  unfold runM at oh ht
  cases hs:bA p q f b1 b2 b3 b4 w u c with
  |kL e=>rw[hs]at oh;dsimp only at oh;injection oh with _ z;injection z with _ z;cases z
  |go k w' u' =>
   rw[hs]at oh ht
   dsimp only at oh ht
   have hl:cg f w' u'=true:=by
    cases z:cg f w' u' with
    |true=>rfl
    |false=>exact absurd oh (Eh (pR hq hs) z)
   unfold zD at ht
   by_cases hk:aU k ("skip":Str)=true
   ·rw[abe hk,acC]at ht
    have hc:lF ts n k (sg c)=some n:=by unfold lF;rw[abe hk]
    obtain⟨ds,h1,h2⟩:=ih (pR hq hs) (.snoc hw (tried hq hs hl hlt hc)) hn (λz=>absurd z e) oh ht
    exact⟨c::ds,Nat.succ_le_succ h1,by rw[abJ]at h2;exact h2⟩
   ·rw[abb hk]at ht
    have hx:ts[n]?=some (k,if aU k ("put":Str)=true then sg c else Str.ofString ""):=by
     have:=congrArg List.head? ht
     rw[List.head?_drop]at this
     exact this
    have hd:ts.drop (n+1)=zD (runM p q f b1 b2 b3 b4 w' u' cs).1 cs:=by
     have:=congrArg List.tail ht
     rw[List.tail_drop]at this
     exact this
    have hc:lF ts n k (sg c)=some (n+1):=by unfold lF;rw[abb hk,abe hx]
    have Xc:n+1=ts.length->(w',u')=(Str.ofString "row",("":Str)):=λz=>by
     have e1:=he n z
     rw[hx]at e1
     have hk:k=("end":Str):=by injection e1 with e1;exact congrArg Prod.fst e1
     rw[hk]at hs
     exact ux hs
    obtain⟨ds,h1,h2⟩:=ih (pR hq hs) (.snoc hw (tried hq hs hl hlt hc)) hlt Xc oh hd
    exact⟨c::ds,Nat.succ_le_succ h1,by rw[abJ]at h2;exact h2⟩
theorem B8:∀{ks:List Str}{cs:List Nat}{ks':List Str}{cs':List Nat},ks.length=cs.length->zD (ks++ks') (cs++cs')=zD ks cs++zD ks' cs'
 |[],[],_,_,_=>rfl
 |k::ks,c::cs,ks',cs',h=>by
  show _++zD (ks++ks') (cs++cs')=(_++zD ks cs)++_
  rw[B8 (by simpa using h),abJ]
theorem oi{p q f:Str}{b1 b2 b3 b4:Bool}:∀{cs:List Nat}{w u:Str},(runM p q f b1 b2 b3 b4 w u cs).2.2.2=none->(runM p q f b1 b2 b3 b4 w u cs).1.length=cs.length
 |[],_,_,_=>rfl
 |c::cs,w,u,h=>by
  unfold runM at h⊢
  cases hs:bA p q f b1 b2 b3 b4 w u c with
  |kL e=>rw[hs]at h;cases h
  |go k w' u'=>rw[hs]at h;show _+1=_+1;rw[oi h]
theorem Ej{p q f:Str}{b1 b2 b3 b4:Bool}{ts:List (Str×Str)}{cs:List Nat}{m:aV}(h:cR (cH p q f b1 b2 b3 b4 ts) m0 cs m):(runM p q f b1 b2 b3 b4 ("row":Str) ("":Str) cs).2=(m.1.1,m.1.2,none)/\zD (runM p q f b1 b2 b3 b4 ("row":Str) ("":Str) cs).1 cs=ts.take m.2:=by
 induction h with
 |nil=>exact⟨rfl,rfl⟩
 |@snoc xs m m' c _ hE ih =>
  obtain⟨i1,i2⟩:=ih
  have hM:=xR hE
  have h0:(runM p q f b1 b2 b3 b4 ("row":Str) ("":Str) xs).2.2.2=none:=by rw[i1]
  have ea:=yr (ds:=[c]) h0
  rw[i1]at ea
  dsimp only at ea
  unfold gu gn at hM
  dsimp only at hM
  cases hs:bA p q f b1 b2 b3 b4 m.1.1 m.1.2 c with
  |kL e=>rw[hs]at hM;cases hM
  |go k w u =>
   rw[hs]at hM
   dsimp only at hM
   by_cases hl:cg f w u=true
   ·rw[abe hl]at hM
    dsimp only at hM
    cases hc:lF ts m.2 k (sg c) with
    |none=>rw[hc]at hM;cases hM
    |some n =>
     rw[hc]at hM
     cases hM
     have e1:runM p q f b1 b2 b3 b4 m.1.1 m.1.2 [c]=([k],w,u,none):=by
      unfold runM
      rw[hs]
      rfl
     rw[e1]at ea
     rw[ea]
     refine⟨O,?_⟩
     show zD (_++[k]) (xs++[c])=_
     rw[B8 (oi h0),i2]
     unfold lF at hc
     by_cases hk:aU k ("skip":Str)=true
     ·rw[abe hk]at hc
      cases hc
      unfold zD
      rw[abe hk]
      exact abI _
     ·rw[abb hk]at hc
      by_cases ht:ts[m.2]?=some (k,if aU k ("put":Str)=true then sg c else Str.ofString "")
      ·rw[abe ht]at hc
       cases hc
       unfold zD
       rw[abb hk]
       show _=ts.take (m.2+1)
       rw[aQ ht]
       rfl
      ·rw[abb ht]at hc;cases hc
   ·rw[abb hl]at hM;cases hM
section
variable{p q f:Str}{b1 b2 b3 b4:Bool}
def Pj(p q f:Str)(b1 b2 b3 b4:Bool)(w u:Str)(ts:List (Str×Str))(cs:List Nat):Prop:=(runM p q f b1 b2 b3 b4 w u cs).2=(Str.ofString "row",("":Str),none)/\zD (runM p q f b1 b2 b3 b4 w u cs).1 cs=ts
abbrev Bd(p q f:Str)(b1 b2 b3 b4:Bool)(ts:List (Str×Str))(cs:List Nat):Prop:=Pj p q f b1 b2 b3 b4 ("row":Str) ("":Str) ts cs
theorem Bd.walk{ts:List (Str×Str)}{cs:List Nat}(he:lH ts)(h:Bd p q f b1 b2 b3 b4 ts cs):∃ds,ds.length<=cs.length/\cR (cH p q f b1 b2 b3 b4 ts) m0 ds ((Str.ofString "row",("":Str)),ts.length) :=
 Ei (pre:=[]) he (.inl ⟨rfl,.inl rfl⟩) .nil (abO _) (λ_=>rfl) h.1 (by rw[h.2];rfl)
theorem yE{ts:List (Str×Str)}{cs:List Nat}{m:aV}(h:cR (cH p q f b1 b2 b3 b4 ts) m0 cs m)(hg:vh ts m=true):Bd p q f b1 b2 b3 b4 ts cs:=by
 obtain⟨h1,h2⟩:=Ej h
 have e:=abF hg
 rw[e]at h1 h2
 exact⟨h1,by rw[h2];exact List.take_length⟩
theorem Bd.app{ts ts':List (Str×Str)}{cs cs':List Nat}(h:Bd p q f b1 b2 b3 b4 ts cs)(h':Bd p q f b1 b2 b3 b4 ts' cs'):Bd p q f b1 b2 b3 b4 (ts++ts') (cs++cs'):=by
 have h0:(runM p q f b1 b2 b3 b4 ("row":Str) ("":Str) cs).2.2.2=none:=by rw[h.1]
 have ea:=yr (ds:=cs') h0
 rw[h.1]at ea
 dsimp only at ea
 refine⟨by rw[ea];exact h'.1,?_⟩
 rw[ea]
 show zD (_++_) (cs++cs')=_
 rw[B8 (oi h0),h.2,h'.2]
theorem Pj.split{ts ts':List (Str×Str)}:∀{cs:List Nat}{w u:Str},lH ts->(ts=[]->(w,u)=(Str.ofString "row",("":Str)))->Pj p q f b1 b2 b3 b4 w u (ts++ts') cs->∃c1 c2,cs=c1++c2/\Pj p q f b1 b2 b3 b4 w u ts c1/\Bd p q f b1 b2 b3 b4 ts' c2:=by
 intro cs
 induction cs generalizing ts with
 |nil =>
  intro w u he hr h
  have e:ts++ts'=[]:=h.2.symm
  obtain⟨e1,e2⟩:=List.append_eq_nil_iff.mp e
  subst e1 e2
  exact⟨[],[],O,h,O,O⟩
 |cons c cs ih =>
  intro w u he hr h
  cases ts with
  |nil =>
   have e:=hr rfl
   injection e with e1 e2
   subst e1 e2
   exact⟨[],c::cs,O,⟨O,O⟩,h⟩
  |cons t ts =>
   obtain⟨h1,h2⟩:=h
   unfold runM at h1 h2
   cases hs:bA p q f b1 b2 b3 b4 w u c with
   |kL e=>rw[hs]at h1;dsimp only at h1;injection h1 with _ z;injection z with _ z;cases z
   |go k w' u' =>
    rw[hs]at h1 h2
    dsimp only at h1 h2
    unfold zD at h2
    have oh:∀c1,runM p q f b1 b2 b3 b4 w u (c::c1)=(k::(runM p q f b1 b2 b3 b4 w' u' c1).1,(runM p q f b1 b2 b3 b4 w' u' c1).2):=λc1=>by
     show(match bA p q f b1 b2 b3 b4 w u c with | .kL e=>([],w,u,some e) | .go k w' u'=>(k::(runM p q f b1 b2 b3 b4 w' u' c1).1,(runM p q f b1 b2 b3 b4 w' u' c1).2))=_
     rw[hs]
    by_cases hk:aU k ("skip":Str)=true
    ·rw[abe hk,acC]at h2
     obtain⟨c1,c2,e,g1,g2⟩:=ih (ts:=t::ts) he (λz=>nomatch z) ⟨h1,h2⟩
     refine⟨c::c1,c2,by rw[e];rfl,⟨by rw[oh];exact g1.1,?_⟩,g2⟩
     rw[oh]
     unfold zD
     rw[abe hk,acC]
     exact g1.2
    ·rw[abb hk]at h2
     have h2:(k,if aU k ("put":Str)=true then sg c else Str.ofString "")::zD (runM p q f b1 b2 b3 b4 w' u' cs).1 cs=t::(ts++ts'):=h2
     injection h2 with e1 e2
     have he':lH ts:=λn hn=>by
      have:=he (n+1) (by rw[abG,←hn])
      rw[List.getElem?_cons_succ]at this
      exact this
     obtain⟨c1,c2,e,g1,g2⟩:=ih (ts:=ts) he' (λz=>by
      subst z
      have:=he 0 rfl
      have e3:t=rE:=by simpa using this
      rw[e3]at e1
      have hk:k=("end":Str):=congrArg Prod.fst e1
      rw[hk]at hs
      exact ux hs) ⟨h1,e2⟩
     refine⟨c::c1,c2,by rw[e];rfl,⟨by rw[oh];exact g1.1,?_⟩,g2⟩
     rw[oh]
     unfold zD
     rw[abb hk,g1.2,e1]
     rfl
def fH(p q f:Str)(b1 b2 b3 b4:Bool)(ts:List (Str×Str))(n:Nat):Prop:=(∃cs,Bd p q f b1 b2 b3 b4 ts cs/\cs.length=n)/\∀cs,Bd p q f b1 b2 b3 b4 ts cs->n<=cs.length
theorem fH.one{ts:List (Str×Str)}{n n':Nat}(h:fH p q f b1 b2 b3 b4 ts n)(h':fH p q f b1 b2 b3 b4 ts n'):n=n':=by
 obtain⟨⟨cs,r,e⟩,m⟩:=h
 obtain⟨⟨cs',r',e'⟩,m'⟩:=h'
 have:=m cs' r'
 have:=m' cs r
 omega
theorem LD{ts:List (Str×Str)}{cs:List Nat}{m:aV}(he:lH ts)(h:cR (cH p q f b1 b2 b3 b4 ts) m0 cs m)(hg:vh ts m=true)(hmin:∀ys m,cR (cH p q f b1 b2 b3 b4 ts) m0 ys m->vh ts m=true->cs.length<=ys.length):Bd p q f b1 b2 b3 b4 ts cs/\fH p q f b1 b2 b3 b4 ts cs.length:=by
 have r:=yE h hg
 refine⟨r,⟨cs,r,O⟩,λds rd=>?_⟩
 obtain⟨es,h1,h2⟩:=rd.walk he
 exact abn (hmin es _ h2 (abo rfl)) h1
end
def mC(g:IB)(t:Str×Str):IB :=
 if aU t.1 ("put":Str)=true then ⟨g.rows,g.row,g.cell++t.2⟩
 else if aU t.1 ("part":Str)=true then ⟨g.rows,g.row++[g.cell],("":Str)⟩
 else if aU t.1 ("end":Str)=true then ⟨g.rows++[g.row++[g.cell]],[],("":Str)⟩
 else g
theorem NO{g:IB}{c:Nat}{k:Str}:Ls g c k=(if aU k ("skip":Str)=true then [] else [(k,if aU k ("put":Str)=true then sg c else Str.ofString "")]).foldl mC g:=by
 by_cases hk:aU k ("skip":Str)=true
 ·rw[abe hk,gi hk]
  unfold Ls
  rw[abb (ns (by decide +kernel)),abb (ns (by decide +kernel)),abb (ns (by decide +kernel))]
  rfl
 ·rw[abb hk]
  show _=mC g _
  unfold Ls mC
  dsimp only
  by_cases hp:aU k ("put":Str)=true
  ·rw[abe hp,abe hp,abe hp]
  ·rw[abb hp,abb hp]
theorem Ek:∀{cs:List Nat}{ks:List Str}{g:IB},ur g cs ks=(zD ks cs).foldl mC g
 |[],[],_=>rfl
 |[],_::_,_=>rfl
 |_::_,[],_=>rfl
 |c::cs,k::ks,g=>by
  show ur (Ls g c k) cs ks=((if _ then _ else _)++zD ks cs).foldl mC g
  rw[abP,←NO,Ek]
theorem qE(a b:List (List Str)):az (a++b)=az a++az b:=by unfold az;rw[List.flatMap_append]
theorem dQ{t:List (List Str)}:lH (az t):=by
 intro n hn
 rcases List.eq_nil_or_concat t with e|⟨l,r,e⟩
 ·rw[e]at hn;exact absurd hn (Nat.succ_ne_zero _)
 ·rw[List.concat_eq_append]at e
  subst e
  rw[iU]at hn⊢
  unfold c9 at hn⊢
  rw[←abJ]at hn⊢
  rw[abj]at hn
  have e:n=(az l++gm r r.length).length:=by simpa using hn
  rw[e,acJ (abf _),Nat.sub_self]
  rfl
theorem LF{p q f:Str}{b1 b2 b3 b4:Bool}{z:Str}{ts:List (Str×Str)}(h:Bd p q f b1 b2 b3 b4 ts z.cps.toList):IC z (runM p q f b1 b2 b3 b4 ("row":Str) ("":Str) z.cps.toList).1=(ts.foldl mC Lu).rows:=by
 unfold IC
 rw[Ek,h.2]
theorem yF(cs:List Nat):(Txt.join ("":Str) (cs.map sg)).cps.toList=cs:=by
 have ee:("":Str).cps.toList=[]:=by decide +kernel
 show(Builtin.Str.glued ("":Str) (cs.map sg)).cps.toList=_
 rw[StrLaws.glued_eq_join]
 induction cs with
 |nil=>exact ee
 |cons c cs ih =>
  cases cs with
  |nil=>rfl
  |cons d cs =>
   show(sg c++("":Str)++Str.join ("":Str) ((d::cs).map sg)).cps.toList=_
   rw[app_list,app_list,ee,abI,ih]
   rfl
def B9(r:List Str):Bool:=decide (1<=r.length/\r.length<=20)
def yG(t:List (List Str)):Bool:=decide (t.length<=60)&&t.all B9
theorem LG{r:List Str}(h1:1<=r.length)(h2:r.length<=20):B9 r=true:=abo ⟨h1,h2⟩
theorem LH{r:List Str}(h:¬(1<=r.length/\r.length<=20)):B9 r=false:=abB h
structure QG(t:List (List Str)):Prop where
 n:t.length<=1000
 rl:∀r∈t,r.length<=1000
 ok:∀r∈t,∀c∈r,bH c
 sum:total t<=400
theorem NP{t:List (List Str)}(g:QG t)(h:yG t=true):TabOk t:=by
 unfold yG at h
 rw[acP,abY]at h
 refine⟨abF h.1,λr hr=>?_,g.sum⟩
 obtain⟨a,b⟩:=abF (h.2 r hr)
 exact⟨a,b,g.ok r hr⟩
theorem NQ{t:List (List Str)}(h:TabOk t):yG t=true:=by
 unfold yG
 rw[acP,abY]
 exact⟨abo h.n,λr hr=>LG (h.rows r hr).lo (h.rows r hr).hi⟩
theorem TabOk.s{t:List (List Str)}(h:TabOk t):QG t:=⟨by have:=h.n;omega,λr hr=>by have:=(h.rows r hr).hi;omega,λr hr=>(h.rows r hr).ok,h.sum⟩
theorem Ht{A H:Hp}{es:List V}{R:List (List Str)}(h:wg A H es R):Paired (bC H) es R:=aE (λ_ _ ⟨a,e1,_,e3⟩=>⟨a,e1,e3⟩) h
theorem FH{K:W.Frag}{H:Hp}{l l2:Addr}{es VJ:List V}{R:List (List Str)}(h1:H l=some (.lst es))(h2:H l2=some (.lst VJ))(r1:Paired (bC H) es R)(r2:Paired (bC H) VJ R):TopD K H (.ref l) (.ref l2) :=
 ⟨1,l,l2,es,VJ,rfl,rfl,by decide,r1.length.trans r2.length.symm,.inr ⟨bw.of h1,bw.of h2⟩,IF r1 r2⟩
theorem NR{p q f:Str}{b1 b2 b3 b4:Bool}{ts:List (Str×Str)}(g:Gd p q f)(ht:∀t∈ts,bH t.2){cs:List Nat}{m:aV}(h:cR (cH p q f b1 b2 b3 b4 ts) m0 cs m):∀c∈cs,c=10\/Pn c:=by
 induction h with
 |nil=>intro c hc;cases hc
 |@snoc xs m m' c _ hE ih =>
  intro d hd
  rcases abp.mp hd with z|z
  ·exact ih d z
  ·rw[abh.mp z]
   unfold cH at hE
   cases e:ts[m.2]? with
   |none=>rw[e]at hE;cases hE
   |some t =>
    rw[e]at hE
    obtain⟨c',hc',hm⟩:=acs.mp hE
    have ec:c'=c:=by
     cases hM:gu p q f b1 b2 b3 b4 ts m c' with
     |none=>rw[hM]at hm;cases hm
     |some y=>rw[hM]at hm;cases hm;rfl
    rw[lI,app_list,abp,FG]at hc'
    subst ec
    rcases hc' with (z|z|z|z|z)|z
    ·exact .inr (g.gp.pr _ z)
    ·exact .inr (g.gq.pr _ z)
    ·exact .inr (g.gf.pr _ z)
    ·exact .inl z
    ·rw[z];exact .inr (by decide)
    ·exact ht t (abq e) _ z
theorem LI{t:List (List Str)}(h:∀r∈t,∀c∈r,bH c):∀x∈az t,bH x.2:=by
 have em:bH ("":Str):=λd hd=>by rw[xP]at hd;cases hd
 have hp:∀z,bH z->∀x∈kZ z,bH x.2:=λz hz x hx=>by
  obtain⟨c,hc,rfl⟩:=abR.mp hx
  intro d hd
  rw[abh.mp (show d∈[c]from hd)]
  exact hz c hc
 have hC:∀r,(∀c∈r,bH c)->∀n,∀x∈gm r n,bH x.2:=λr hr n=>by
  induction n with
  |zero=>intro x hx;cases hx
  |succ n ih =>
   intro x hx
   rcases abp.mp hx with z|z
   ·exact ih x z
   ·rcases abp.mp z with y|y
    ·split at y
     ·cases y
     ·rw[abh.mp y];exact em
    ·refine hp _ ?_ x y
     rw[acK]
     cases e:r[n]? with
     |none=>exact em
     |some c=>exact hr c (abq e)
 intro x hx
 obtain⟨r,hr,hx⟩:=acr.mp hx
 rcases abp.mp hx with z|z
 ·exact hC r (h r hr) _ x z
 ·rw[abh.mp z];exact em
theorem Ca{t:List (List Str)}(h:TabOk t):(az t).length<=9000:=by
 have:=nZ h t.length
 rw[List.take_length]at this
 omega
theorem LJ(xs:List V)(n:Nat)(h:n<=xs.length):BH xs none (some (n:Int))=xs.take n:=by
 unfold BH
 have e1:HT.BG xs.length 0 none=0:=rfl
 have e2:HT.BG xs.length xs.length (some (n:Int))=n:=by
  show(if (n:Int)<0 then ((n:Int)+(xs.length:Int)).toNat else min (n:Int).toNat xs.length)=_
  rw[abb (by omega),acL];omega
 rw[e1,e2,List.drop_zero,Nat.sub_zero]
theorem vj{α β:Type}{F:α->β->Prop}:∀{xs:List α}{ys:List β}(n:Nat),Paired F xs ys->Paired F (xs.take n) (ys.take n)
 |_,_,0,_=>.nil
 |_,_,n+1,.nil=>.nil
 |_,_,n+1,.cons a r=>.cons a (vj n r)
theorem El(cs:List Nat):(Txt.join ("":Str) (cs.map sg)).length=cs.length:=by
 have:=congrArg List.length (yF cs)
 rw[abt]at this
 exact this
def nF(rc:Nat×Nat)(t:Str×Str):Nat×Nat:=if t=dY then (rc.1,rc.2+1) else if t=rE then (rc.1+1,0) else rc
def cellAt(ts:List (Str×Str)):Nat×Nat:=ts.foldl nF (0,0)
theorem Em:dY≠rE:=λe=>by
 have e:Str.ofString "part"=("end":Str):=congrArg Prod.fst e
 exact Bb e
theorem yH(c:Str):(Str.ofString "put",c)≠rE:=λe=>Ef (congrArg Prod.fst e)
theorem vn(c:Str):(Str.ofString "put",c)≠dY:=λe=>absurd (congrArg Prod.fst e) (B5 (by decide +kernel))
theorem QH(rc:Nat×Nat)(t:Str×Str):(nF rc t).1<=rc.1+1/\(nF rc t).2<=rc.2+1:=by
 unfold nF
 split
 ·exact⟨Nat.le_succ _,abf _⟩
 split
 ·exact⟨abf _,abO _⟩
 ·exact⟨Nat.le_succ _,Nat.le_succ _⟩
theorem uy:∀(ts:List (Str×Str))(rc:Nat×Nat),(ts.foldl nF rc).1<=rc.1+ts.length/\(ts.foldl nF rc).2<=rc.2+ts.length
 |[],rc=>⟨abf _,abf _⟩
 |t::ts,rc=>by
  have h1:=QH rc t
  have h2:=uy ts (nF rc t)
  rw[ab6,abG]
  omega
def Sd(r c:Int):List (Str×V):=lA ("cell":Str) (.int c) [(Str.ofString "row",.int r)]
theorem NS(r c:Int):(Sd r c).lookup ("row":Str)=some (.int r):=by
 unfold Sd
 rw[iR,abb (by decide +kernel)]
 simp[List.lookup]
theorem LK(r c:Int):(Sd r c).lookup ("cell":Str)=some (.int c):=by
 unfold Sd
 rw[iR,abe rfl]
def zK(p q f:Str)(b1 b2 b3 b4:Bool)(ts:List (Str×Str))(n:Nat):Prop:=(∃cs m,cR (cH p q f b1 b2 b3 b4 ts) m0 cs m/\m.2=n)/\∀cs m,cR (cH p q f b1 b2 b3 b4 ts) m0 cs m->m.2<=n
def QI(p q f:Str)(b1 b2 b3 b4:Bool)(ts:List (Str×Str)):Prop:=∀cs,¬Bd p q f b1 b2 b3 b4 ts cs
section
variable{good:aV->Bool}{led:aV->List (Nat×aV)}{a:aV}
theorem IL{cm zJ:Cm}{aS:List aV}{m:aV}{r:Option aV}(h:yw good led cm aS r zJ):∀{k:Nat},r=some m->EV good led a cm aS k->k<=cm.length->∃n,n<=zJ.length/\g6 led a zJ m n/\∀ys m',cR led a ys m'->good m'=true->n<=ys.length:=by
 induction h with
 |stop=>intro k e;cases e
 |@found cm aS m1 hf =>
  intro k e L hk
  cases e
  refine⟨k,hk,(L.VQ _ (List.mem_of_find?_eq_some hf)).1,λys m' hw hg=>?_⟩
  cases Nat.lt_or_ge ys.length k with
  |inl z=>rw[L.less ys m' hw z]at hg;cases hg
  |inr z=>exact z
 |@go cm zJ aS r _ hf hR ih =>
  intro k e L hk
  refine ih e (L.go hf) ?_
  have q:=lG (led:=led) aS (cm,[])
  simp only[acn,Nat.add_zero]at q
  unfold expand at hR⊢
  by_cases z:(aS.foldl (gv led) (cm,[])).2=[]
  ·rw[z]at hR
   cases hR with
   |stop=>cases e
   |found hf2=>cases hf2
   |go h _ _=>exact absurd rfl h
  ·have:=List.length_pos_iff.mpr z
   omega
theorem NT{cm:Cm}{m:aV}(h:yw good led [(a,none)] [a] (some m) cm):∃n,n<=cm.length/\g6 led a cm m n/\∀ys m',cR led a ys m'->good m'=true->n<=ys.length:=IL h rfl EV.zero (abO _)
end
section
variable{p q f:Str}{b1 b2 b3 b4:Bool}
theorem FI{ts:List (Str×Str)}(he:lH ts):QI p q f b1 b2 b3 b4 ts↔∀cs m,cR (cH p q f b1 b2 b3 b4 ts) m0 cs m->vh ts m=false:=by
 constructor
 ·intro h cs m hw
  cases e:vh ts m with
  |false=>rfl
  |true=>exact absurd (yE hw e) (h cs)
 ·intro h cs r
  obtain⟨ds,_,hw⟩:=r.walk he
  have:=h ds _ hw
  rw[show vh ts ((Str.ofString "row",("":Str)),ts.length)=true from abo rfl]at this
  cases this
theorem NU{ts:List (Str×Str)}(he:lH ts){cs:List Nat}{m:aV}(h:cR (cH p q f b1 b2 b3 b4 ts) m0 cs m):jS q m.1.1 m.1.2/\cg f m.1.1 m.1.2=true/\(m.2<ts.length\/m=((Str.ofString "row",("":Str)),ts.length)):=by
 induction h with
 |nil =>
  refine⟨.inl ⟨O,.inl rfl⟩,Eg f,?_⟩
  cases ts with
  |nil=>exact .inr rfl
  |cons a l=>exact .inl (Nat.zero_lt_succ _)
 |@snoc xs m m' c _ hE ih =>
  have hM:=xR hE
  have hlt:m.2<ts.length:=by
   unfold cH at hE
   cases e:ts[m.2]? with
   |none=>rw[e]at hE;cases hE
   |some t=>exact(abi.mp e).1
  obtain⟨h1,h2⟩:=yD he hlt hM ih.1
  refine⟨h1,?_,h2⟩
  have hM:gu p q f b1 b2 b3 b4 ts m c=some m':=hM
  unfold gu gn at hM
  cases hs:bA p q f b1 b2 b3 b4 m.1.1 m.1.2 c with
  |kL e=>rw[hs]at hM;cases hM
  |go k w u =>
   rw[hs]at hM
   dsimp only at hM
   by_cases hl:cg f w u=true
   ·rw[abe hl]at hM
    dsimp only at hM
    cases hc:lF ts m.2 k (sg c) with
    |none=>rw[hc]at hM;cases hM
    |some n=>rw[hc]at hM;cases hM;exact hl
   ·rw[abb hl]at hM;cases hM
def PR(p q f:Str)(b1 b2 b3 b4:Bool)(w u:Str)(ts:List (Str×Str))(cs:List Nat)(w' u':Str):Prop:=(runM p q f b1 b2 b3 b4 w u cs).2=(w',u',none)/\zD (runM p q f b1 b2 b3 b4 w u cs).1 cs=ts
theorem Bd.pr{ts:List (Str×Str)}{cs:List Nat}:Bd p q f b1 b2 b3 b4 ts cs↔PR p q f b1 b2 b3 b4 ("row":Str) ("":Str) ts cs ("row":Str) ("":Str):=Iff.rfl
theorem Hu{B:List (Str×Str)}{n:Nat}(hB:lH B)(hn:QI p q f b1 b2 b3 b4 B)(hm:zK p q f b1 b2 b3 b4 B n):n<B.length:=by
 obtain⟨⟨cs,m,hw,e⟩,_⟩:=hm
 rcases(NU hB hw).2.2 with z|z
 ·omega
 ·have:=(FI hB).mp hn cs m hw
  rw[z,show vh B ((Str.ofString "row",("":Str)),B.length)=true from abo rfl]at this
  cases this
theorem zK.one{ts:List (Str×Str)}{n n':Nat}(h:zK p q f b1 b2 b3 b4 ts n)(h':zK p q f b1 b2 b3 b4 ts n'):n=n':=by
 obtain⟨⟨cs,m,hw,e⟩,hm⟩:=h
 obtain⟨⟨cs',m',Xd,e'⟩,hm'⟩:=h'
 have:=hm _ _ Xd
 have:=hm' _ _ hw
 omega
end
theorem Be:∀(l:List (Str×Str))(a:Nat)(rc:Nat×Nat),l.foldl nF (a+rc.1,rc.2)=(a+(l.foldl nF rc).1,(l.foldl nF rc).2)
 |[],a,rc=>rfl
 |t::l,a,rc=>by
  rw[ab6,ab6]
  have e:nF (a+rc.1,rc.2) t=(a+(nF rc t).1,(nF rc t).2):=by
   unfold nF
   split
   ·rfl
   split
   ·rfl
   ·rfl
  rw[e,Be l a (nF rc t)]
theorem LL:∀(z:Str)(rc:Nat×Nat),(kZ z).foldl nF rc=rc:=by
 intro z rc
 unfold kZ
 induction z.cps.toList with
 |nil=>rfl
 |cons c cs ih =>
  rw[abT,ab6]
  have e:nF rc (Str.ofString "put",sg c)=rc:=by unfold nF;rw[abb (vn _),abb (yH _)]
  rw[e];exact ih
theorem yI(r:List Str):∀(n a:Nat),(gm r n).foldl nF (a,0)=(a,n-1)
 | 0,a=>rfl
 |n+1,a=>by
  show(gm r n++((if n=0 then [] else [dY])++kZ (r.getD n _))).foldl nF (a,0)=_
  rw[abP,abP,yI r n a,LL]
  by_cases h:n=0
  ·subst h;rfl
  ·rw[abb h]
   show nF (a,n-1) dY=_
   unfold nF
   rw[abe rfl]
   show(a,n-1+1)=(a,n+1-1)
   rw[show n-1+1=n+1-1 by omega]
theorem NV(r:List Str)(a:Nat):(c9 r).foldl nF (a,0)=(a+1,0):=by
 unfold c9
 rw[abP,yI]
 show nF _ rE=_
 unfold nF
 rw[abb (λe=>Em e.symm),abe rfl]
theorem Hv:∀(t:List (List Str))(a:Nat),(az t).foldl nF (a,0)=(a+t.length,0)
 |[],a=>rfl
 |r::t,a=>by
  have e:az (r::t)=c9 r++az t:=rfl
  rw[e,abP,NV,Hv t (a+1),abG]
  rw[show a+1+t.length=a+(t.length+1) by omega]
theorem yJ(r:List Str):az [r]=c9 r:=by unfold az;rw[List.flatMap_cons,List.flatMap_nil,abI]
theorem FJ(t:List (List Str))(l:List (Str×Str)):cellAt (az t++l)=(t.length+(cellAt l).1,(cellAt l).2):=by
 unfold cellAt
 rw[abP,Hv]
 have:=Be l t.length (0,0)
 rw[←this,Nat.zero_add]
 rfl
def cells(t:List (List Str)):Nat:=(t.map List.length).sum
theorem yK(t:List (List Str))(r:List Str):cells (t++[r])=cells t+r.length:=by
 unfold cells;rw[abx,acA];simp
theorem Bf:∀(t:List (List Str)),(t.map λr=>r.length+(lens r).sum).sum=cells t+total t
 |[]=>rfl
 |r::t=>by
  have ih:=Bf t
  unfold cells total at ih⊢
  rw[abT,abT,abT,ab4,ab4,ab4,ih]
  omega
theorem Cb{t:List (List Str)}(h:∀r∈t,nY r):(az t).length=cells t+total t:=by rw[yu h,Bf]
structure Xe(p q f:Str)(b1 b2 b3 b4:Bool)(t:List (List Str))(F:Str):Prop where
 rd:Bd p q f b1 b2 b3 b4 (az t) F.cps.toList
 ls:fH p q f b1 b2 b3 b4 (az t) F.length
 le:F.length<=1+11*(az t).length
 ok:bH F
def VR(p q f:Str)(b1 b2 b3 b4:Bool)(H:Hp)(tf:Addr)(t:List (List Str)):Prop :=
 (∃F,H tf=some (.tup [.str ("text":Str),.str F])/\Xe p q f b1 b2 b3 b4 t F)\/
 (∃n,H tf=some (.tup [.str ("none":Str),.int (cellAt ((az t).take n)).1,.int (cellAt ((az t).take n)).2])/\QI p q f b1 b2 b3 b4 (az t)/\zK p q f b1 b2 b3 b4 (az t) n)
theorem VR.mono{p q f:Str}{b1 b2 b3 b4:Bool}{H H':Hp}{tf:Addr}{t:List (List Str)}(s:aH H H')(h:VR p q f b1 b2 b3 b4 H tf t):VR p q f b1 b2 b3 b4 H' tf t:=by
 rcases h with ⟨F,h1,h2⟩|⟨n,h1,h2⟩
 ·exact .inl ⟨F,s _ _ h1,h2⟩
 ·exact .inr ⟨n,s _ _ h1,h2⟩
theorem Bg(R:List (List Str))(row:List Str):∀(y z:Str),(kZ y).foldl mC ⟨R,row,z⟩=⟨R,row,z++y⟩:=by
 intro y
 have key:∀(cs:List Nat)(z:Str),(cs.map λk=>(Str.ofString "put",sg k)).foldl mC ⟨R,row,z⟩=⟨R,row,z++⟨cs.toArray⟩⟩:=by
  intro cs
  induction cs with
  |nil=>intro z;show(⟨R,row,z⟩:IB)=_;rw[show z++(⟨[].toArray⟩:Str)=z from rC (by rw[app_list];simp)]
  |cons c cs ih =>
   intro z
   rw[abT,ab6]
   have e:mC ⟨R,row,z⟩ (Str.ofString "put",sg c)=⟨R,row,z++sg c⟩:=by unfold mC;dsimp only;rw[abe (aY _)]
   rw[e,ih]
   congr 1
   refine rC ?_
   rw[app_list,app_list,app_list]
   simp[sg]
 intro z
 have:=key y.cps.toList z
 rw[show(⟨y.cps.toList.toArray⟩:Str)=y from rC (by simp)]at this
 exact this
theorem Bh(R:List (List Str))(r:List Str):∀(n:Nat)(c:Str),r[n]?=some c->(gm r (n+1)).foldl mC ⟨R,[],("":Str)⟩=⟨R,r.take n,c⟩
 | 0,c,h=>by
  rw[iI h]
  show(([]:List (Str×Str))++((if 0=0 then [] else [dY])++kZ c)).foldl mC _=_
  rw[abe rfl,acC,acC,Bg,Lv]
  rfl
 |n+1,c,h=>by
  obtain⟨d,hd⟩:∃d,r[n]?=some d:=⟨_,aby (by have:=(abi.mp h).1;omega)⟩
  rw[iI h,abP,Bh R r n d hd,abb (by omega),abP]
  have e:[dY].foldl mC ⟨R,r.take n,d⟩=⟨R,r.take n++[d],("":Str)⟩:=by
   show mC _ dY=_
   unfold mC
   rw[show dY.1=("part":Str) from rfl,abb (ns (by decide +kernel)),abe (aY _)]
  rw[e,Bg,Lv,←aQ hd]
theorem En:∀(t R:List (List Str)),(∀r∈t,1<=r.length)->(az t).foldl mC ⟨R,[],("":Str)⟩=⟨R++t,[],("":Str)⟩
 |[],R,_=>by show(⟨R,[],_⟩:IB)=_;rw[abI]
 |r::t,R,h=>by
  have e:az (r::t)=c9 r++az t:=rfl
  have h1:=h r (abN ..)
  obtain⟨n,hn⟩:∃n,r.length=n+1:=⟨r.length-1,by omega⟩
  obtain⟨c,hc⟩:∃c,r[n]?=some c:=⟨_,aby (by omega)⟩
  have e2:(c9 r).foldl mC ⟨R,[],("":Str)⟩=⟨R++[r],[],("":Str)⟩:=by
   unfold c9
   rw[hn,abP,Bh R r n c hc]
   show mC _ rE=_
   unfold mC
   rw[show rE.1=("end":Str) from rfl,abb (ns (by decide +kernel)),abb (ns (by decide +kernel)),abe (aY _)]
   dsimp only
   rw[←aQ hc,abr (by omega)]
  rw[e,abP,e2,En t (R++[r]) λr' h'=>h r' (abC _ h'),abJ]
  rfl
theorem tab_of{p q f:Str}{b1 b2 b3 b4:Bool}{F:Str}{t:List (List Str)}(ht:∀r∈t,1<=r.length)(h:Bd p q f b1 b2 b3 b4 (az t) F.cps.toList):IC F (runM p q f b1 b2 b3 b4 ("row":Str) ("":Str) F.cps.toList).1=t:=by
 rw[LF h,show Lu=⟨[],[],("":Str)⟩ from rfl,En t [] ht]
 rfl
theorem fH.plus{p q f:Str}{b1 b2 b3 b4:Bool}{ts ts':List (Str×Str)}{n1 n2:Nat}(he:lH ts)(h1:fH p q f b1 b2 b3 b4 ts n1)(h2:fH p q f b1 b2 b3 b4 ts' n2):fH p q f b1 b2 b3 b4 (ts++ts') (n1+n2):=by
 obtain⟨⟨cs1,r1,e1⟩,m1⟩:=h1
 obtain⟨⟨cs2,r2,e2⟩,m2⟩:=h2
 refine⟨⟨cs1++cs2,r1.app r2,by rw[abj,e1,e2]⟩,λcs r=>?_⟩
 obtain⟨d1,d2,ed,g1,g2⟩:=Pj.split he (λ_=>rfl) r
 have:=m1 _ g1
 have:=m2 _ g2
 rw[ed,abj]
 omega
section
variable{p q f:Str}{b1 b2 b3 b4:Bool}
theorem rM:∀(fs:List Str),(fs.map (·.length)).sum=(eG fs).length
 |[]=>uq.symm
 |F::fs=>by rw[abT,ab4,rM fs];show _=(F++eG fs).length;rw[bE]
theorem Hw:∀(fs:List Str),Txt.join ("":Str) fs=eG fs:=by
 intro fs
 show Builtin.Str.glued ("":Str) fs=_
 rw[StrLaws.glued_eq_join]
 induction fs with
 |nil=>rfl
 |cons F fs ih =>
  cases fs with
  |nil=>show F=F++Str.ofString "";rw[Lw]
  |cons G fs =>
   show F++Str.ofString ""++Str.join ("":Str) (G::fs)=F++eG (G::fs)
   rw[ih,Lw]
theorem NW(xs:List V):BH xs none (some 1)=xs.take 1:=by
 unfold BH
 have e1:HT.BG xs.length 0 none=0:=rfl
 have e2:HT.BG xs.length xs.length (some 1)=min 1 xs.length:=rfl
 rw[e1,e2,List.drop_zero,Nat.sub_zero]
 cases xs with
 |nil=>rfl
 |cons a l=>rw[abG,show min 1 (l.length+1)=1 by omega]
end
theorem join_list(zs:List Str):(Txt.join ("":Str) zs).cps.toList=zs.flatMap (λz=>z.cps.toList):=by
 have ee:("":Str).cps.toList=[]:=by decide +kernel
 show(Builtin.Str.glued ("":Str) zs).cps.toList=_
 rw[StrLaws.glued_eq_join]
 induction zs with
 |nil=>exact ee
 |cons c cs ih =>
  cases cs with
  |nil =>
   show c.cps.toList=_
   simp
  |cons d cs =>
   show(c++("":Str)++Str.join ("":Str) (d::cs)).cps.toList=_
   rw[app_list,app_list,ee,abI,ih]
   simp[List.flatMap_cons]
structure B4 where
 a:Bool
 b:Bool
 c:Bool
 d:Bool
def B4.vs(b:B4):List V:=[.bl b.a,.bl b.b,.bl b.c,.bl b.d]
abbrev FL:=Str×Str×Str×B4
def QJ(x:FL):List V:=gb x.1 x.2.1 x.2.2.1 x.2.2.2.a x.2.2.2.b x.2.2.2.c x.2.2.2.d
abbrev GdC(x:FL):Prop:=Gd x.1 x.2.1 x.2.2.1
section
variable{good:aV->Bool}{led:aV->List (Nat×aV)}{a:aV}
end
section
variable{p q f:Str}{b1 b2 b3 b4:Bool}
end
section
variable{good:aV->Bool}{led:aV->List (Nat×aV)}{a:aV}
end
section
variable{p q f:Str}{b1 b2 b3 b4:Bool}
end
theorem PR.un{p q f:Str}{b1 b2 b3 b4:Bool}{w u wE uE:Str}{c:Nat}{cs:List Nat}{ts:List (Str×Str)}(h:PR p q f b1 b2 b3 b4 w u ts (c::cs) wE uE):∃k w' u' ts',bA p q f b1 b2 b3 b4 w u c=.go k w' u'/\ts=(if aU k ("skip":Str)=true then [] else [(k,if aU k ("put":Str)=true then sg c else Str.ofString "")])++ts'/\PR p q f b1 b2 b3 b4 w' u' ts' cs wE uE:=by
 obtain⟨h1,h2⟩:=h
 cases hs:bA p q f b1 b2 b3 b4 w u c with
 |kL e=>rw[Ea hs]at h1;injection h1 with _ z;injection z with _ z;cases z
 |go k w' u'=>rw[xQ hs]at h1 h2;exact⟨k,w',u',_,rfl,h2.symm,h1,rfl⟩
section
variable{p q f:Str}{b1 b2 b3 b4:Bool}{ts:List (Str×Str)}
end
theorem Cd:∀{r:List Str},(∀c∈r,bH c)->bH (eG r)
 |[],_=>λd hd=>by rw[show(eG []).cps.toList=[]from xP]at hd;cases hd
 |z::r,h=>λd hd=>by
  have hd:d∈(z++eG r).cps.toList:=hd
  rw[app_list]at hd
  rcases abp.mp hd with q|q
  ·exact h z (abN ..) d q
  ·exact Cd (λc hc=>h c (abC _ hc)) d q
theorem Eo(r:List Str):(eG r).length=(lens r).sum:=(rM r).symm
theorem Bj:∀(t:List (List Str)),(eG (t.map eG)).length=total t
 |[]=>uq
 |r::t=>by
  show(eG r++eG (t.map eG)).length=_
  rw[bE,Bj t,Eo]
  unfold total
  rw[abT,ab4]
section
variable{good:aV->Bool}{led:aV->List (Nat×aV)}{a:aV}
end
section
variable{p q f:Str}{b1 b2 b3 b4:Bool}
end
section
variable{M:Type}[DecidableEq M]
variable{good:M->Bool}{led:M->List (Nat×M)}{a:M}
end
section
variable{M:Type}[DecidableEq M]{good:M->Bool}{led:M->List (Nat×M)}{most:Option Nat}{a:M}
end
def LM(r:List Str)(i:Nat):Str×Str:=if i+1=r.length then rE else dY
def wm(r:List Str)(i:Nat):List (Str×Str):=gm r i++(if i=0 then [] else [dY])
theorem Bk{r:List Str}{i:Nat}{c:Str}(h:r[i]?=some c):gm r (i+1)=wm r i++kZ c:=by rw[iI h];unfold wm;rw[abJ]
theorem Bl(r:List Str)(i:Nat):∀(n:Nat),∃R,gm r (i+1+n)=gm r (i+1)++R/\(n=0->R=[])/\(0<n->∃R',R=dY::R')
 | 0=>⟨[],(abI _).symm,λ_=>rfl,λz=>absurd z (acp _)⟩
 |n+1=>by
  obtain⟨R,e,h0,h1⟩:=Bl r i n
  have e2:gm r (i+1+(n+1))=gm r (i+1+n)++([dY]++kZ (r.getD (i+1+n) ("":Str))):=by
   show gm r (i+1+n)++((if i+1+n=0 then [] else [dY])++kZ (r.getD (i+1+n) ("":Str)))=_
   rw[abb (by omega)]
  refine⟨R++([dY]++kZ (r.getD (i+1+n) ("":Str))),by rw[e2,e,abJ],λz=>by omega,λ_=>?_⟩
  cases n with
  |zero=>rw[h0 rfl];exact⟨_,rfl⟩
  |succ n=>obtain⟨R',e3⟩:=h1 (by omega);rw[e3];exact⟨_,rfl⟩
theorem IM{r:List Str}{i:Nat}{c:Str}(h:r[i]?=some c):∃R,c9 r=wm r i++((kZ c++[LM r i])++R):=by
 have hi:=(abi.mp h).1
 obtain⟨R,e,h0,h1⟩:=Bl r i (r.length-(i+1))
 rw[show i+1+(r.length-(i+1))=r.length by omega,Bk h]at e
 unfold c9
 rw[e]
 by_cases hl:i+1=r.length
 ·refine⟨[],?_⟩
  unfold LM
  rw[abe hl,h0 (by omega)]
  simp
 ·obtain⟨R',e3⟩:=h1 (by omega)
  refine⟨R'++[rE],?_⟩
  unfold LM
  rw[abb hl,e3]
  simp
theorem NX(r:List Str)(i:Nat):cellAt (wm r i)=(0,i):=by
 unfold cellAt wm
 rw[abP,yI]
 by_cases h:i=0
 ·subst h;rfl
 ·rw[abb h]
  show nF (0,i-1) dY=_
  unfold nF
  rw[abe rfl]
  show(0,i-1+1)=_
  rw[show i-1+1=i by omega]
theorem LN(z:Str)(n:Nat)(rc:Nat×Nat):((kZ z).take n).foldl nF rc=rc:=by
 have:∀l:List (Str×Str),(∀t∈l,∃c,t=(Str.ofString "put",c))->l.foldl nF rc=rc:=by
  intro l
  induction l with
  |nil=>intro _;rfl
  |cons t l ih =>
   intro h
   obtain⟨c,rfl⟩:=h t (abN ..)
   rw[ab6]
   have e:nF rc (Str.ofString "put",c)=rc:=by unfold nF;rw[abb (vn _),abb (yH _)]
   rw[e];exact ih λt z=>h t (abC _ z)
 refine this _ λt ht=>?_
 obtain⟨c,_,rfl⟩:=abR.mp (List.mem_of_mem_take ht)
 exact⟨_,O⟩
theorem NY{r:List Str}{j:Nat}{c:Str}(h:r[j]?=some c):(wm r (j+1)).length=(wm r j).length+c.length+1:=by
 show(gm r (j+1)++(if j+1=0 then [] else [dY])).length=_
 rw[abb (by omega),Bk h,abj,abj,yt];rfl
theorem FP{r:List Str}(h:1<=r.length):(c9 r).length=(wm r r.length).length:=by
 unfold c9 wm
 rw[abb (by omega),abj,abj];rfl
theorem LO{t:List (List Str)}{i j n l:Nat}{r:List Str}{c:Str}(hr:t[i]?=some r)(hc:r[j]?=some c)(hn:(az (t.take i)).length+((wm r j).length+l)=n)(hl:l<=c.length):cellAt ((az t).take n)=(i,j):=by
 have hil:=(abi.mp hr).1
 have e:az t=az (t.take i)++(c9 r++az (t.drop (i+1))):=by
  rw[←yJ r,←qE,←qE]
  congr 1
  rw[←(abi.mp hr).2]
  exact(List.take_append_drop i t).symm.trans (by rw[List.drop_eq_getElem_cons hil];rfl)
 obtain⟨R,eR⟩:=IM hc
 have hpl:(kZ c).length=c.length:=yt c
 rw[e,←hn,List.take_length_add_append,eR,abJ,List.take_length_add_append,abJ,abJ,List.take_append_of_le_length (by omega),FJ,abM]
 have q:cellAt (wm r j++(kZ c).take l)=(0,j):=by
  have:=NX r j
  unfold cellAt at this⊢
  rw[abP,this,LN]
 rw[q,show min i t.length=i by omega];rfl
def dD(x:FL)(ts:List (Str×Str))(l:List Nat)(m:aV):List (Nat×aV):=l.filterMap λc=>(gu x.1 x.2.1 x.2.2.1 x.2.2.2.a x.2.2.2.b x.2.2.2.c x.2.2.2.d ts m c).map λm'=>(c,m')
theorem IP{x:FL}{ts:List (Str×Str)}{l:List Nat}{m:aV}{c:Nat}:dD x ts (l++[c]) m=dD x ts l m++(match gu x.1 x.2.1 x.2.2.1 x.2.2.2.a x.2.2.2.b x.2.2.2.c x.2.2.2.d ts m c with|none=>[]|some m'=>[(c,m')]):=by
 unfold dD
 rw[List.filterMap_append]
 congr 1
 cases h:gu x.1 x.2.1 x.2.2.1 x.2.2.2.a x.2.2.2.b x.2.2.2.c x.2.2.2.d ts m c with
 |none=>rw[aco,h];rfl
 |some m'=>rw[aco,h];rfl
theorem yL{x:FL}{ts:List (Str×Str)}{l:List Nat}{m:aV}{e:Nat×aV}:e∈dD x ts l m↔e.1∈l/\gu x.1 x.2.1 x.2.2.1 x.2.2.2.a x.2.2.2.b x.2.2.2.c x.2.2.2.d ts m e.1=some e.2:=by
 unfold dD
 rw[acs]
 constructor
 ·rintro⟨c,hc,h⟩
  cases hm:gu x.1 x.2.1 x.2.2.1 x.2.2.2.a x.2.2.2.b x.2.2.2.c x.2.2.2.d ts m c with
  |none=>rw[hm]at h;cases h
  |some m'=>rw[hm]at h;cases h;exact⟨hc,hm⟩
 ·rintro⟨h1,h2⟩
  exact⟨e.1,h1,by rw[h2];rfl⟩
theorem LP{x:FL}{ts:List (Str×Str)}{m m':aV}{c:Nat}(he:lH ts)(hm:m∈uL x.2.1 ts)(hlt:m.2<ts.length)(h:gu x.1 x.2.1 x.2.2.1 x.2.2.2.a x.2.2.2.b x.2.2.2.c x.2.2.2.d ts m c=some m'):m'∈uL x.2.1 ts:=by
 have hs:jS x.2.1 m.1.1 m.1.2:=by
  rcases n8.mp hm with z|z
  ·rw[z]at hlt;exact absurd hlt (acp _)
  ·exact FF z.1
 obtain⟨h1,h2⟩:=yD he hlt h hs
 rw[n8]
 rcases h2 with z|z
 ·exact .inr ⟨FD h1,z⟩
 ·exact .inl z
theorem Uc{x:FL}{ts:List (Str×Str)}{m:aV}(hm:m∈uL x.2.1 ts):jS x.2.1 m.1.1 m.1.2/\m.2<=ts.length:=by
 rcases n8.mp hm with z|z
 ·rw[z];exact⟨.inl ⟨rfl,.inl rfl⟩,abf _⟩
 ·exact⟨FF z.1,acN z.2⟩
theorem Hx{c:Nat}{r:List Str}:∀n,n<=r.length->∀x∈gm r n,c∈x.2.cps.toList->∃z∈r,c∈z.cps.toList
 | 0,_,x,h,_=>nomatch h
 |n+1,hn,x,h,hx=>by
  obtain⟨z,hz⟩:∃z,r[n]?=some z:=⟨_,aby (by omega)⟩
  rw[iI hz]at h
  rcases abp.mp h with q|q
  ·exact Hx n (by omega) x q hx
  ·rcases abp.mp q with q|q
   ·exfalso
    split at q
    ·cases q
    ·rw[abh.mp q]at hx
     exact absurd hx (by rw[show dY.2.cps.toList=[] by decide +kernel];exact λz=>nomatch z)
   ·unfold kZ at q
    obtain⟨d,hd,rfl⟩:=abR.mp q
    have e:c=d:=abh.mp hx
    rw[e]
    exact⟨z,abq hz,hd⟩
theorem uz{c:Nat}{z:Str}:∀{r:List Str},z∈r->c∈z.cps.toList->c∈(eG r).cps.toList
 |y::r,h,hc=>by
  show c∈(y++eG r).cps.toList
  rw[app_list]
  rcases abw.mp h with e|h
  ·rw[←e];exact ab0 _ hc
  ·exact abD _ (uz h hc)
theorem NZ{c:Nat}{t:List (List Str)}{x:Str×Str}(h:x∈az t)(hx:c∈x.2.cps.toList):c∈(eG (t.map eG)).cps.toList:=by
 obtain⟨r,hr,h⟩:=acr.mp h
 rcases abp.mp h with q|q
 ·obtain⟨z,hz,hc⟩:=Hx r.length (abf _) x q hx
  exact uz (abR.mpr ⟨r,hr,rfl⟩) (uz hz hc)
 ·exfalso
  rw[abh.mp q]at hx
  exact absurd hx (by rw[show rE.2.cps.toList=[] by decide +kernel];exact λz=>nomatch z)
def zL(x:FL)(t:List (List Str)):Str:=jl ((((x.1++x.2.1)++x.2.2.1)++Str.ofString "\n ")++eG (t.map eG))
theorem LQ{x:FL}{t:List (List Str)}{c:Nat}:c∈(zL x t).cps.toList↔c∈x.1.cps.toList\/c∈x.2.1.cps.toList\/c∈x.2.2.1.cps.toList\/c=10\/c=32\/c∈(eG (t.map eG)).cps.toList:=by
 unfold zL
 have en:(Str.ofString "\n ").cps.toList=[10,32]:=by decide +kernel
 rw[lI,app_list,app_list,app_list,app_list,en]
 simp only[abp,abw,List.not_mem_nil,or_false,or_assoc]
theorem QK{x:FL}{t:List (List Str)}{m:aV}{e:Nat×aV}(h:e∈cH x.1 x.2.1 x.2.2.1 x.2.2.2.a x.2.2.2.b x.2.2.2.c x.2.2.2.d (az t) m):e∈dD x (az t) (zL x t).cps.toList m:=by
 rw[yL]
 refine⟨?_,xR h⟩
 unfold cH at h
 cases ht:(az t)[m.2]? with
 |none=>rw[ht]at h;cases h
 |some y =>
  rw[ht]at h
  obtain⟨c,hc,hm⟩:=acs.mp h
  have e1:e.1=c:=by
   cases hq:gu x.1 x.2.1 x.2.2.1 x.2.2.2.a x.2.2.2.b x.2.2.2.c x.2.2.2.d (az t) m c with
   |none=>rw[hq]at hm;cases hm
   |some m'=>rw[hq]at hm;cases hm;rfl
  rw[lI,app_list]at hc
  rw[e1,LQ]
  rcases abp.mp hc with q|q
  ·rcases FG.mp q with q|q|q|q|q
   ·exact .inl q
   ·exact .inr (.inl q)
   ·exact .inr (.inr (.inl q))
   ·exact .inr (.inr (.inr (.inl q)))
   ·exact .inr (.inr (.inr (.inr (.inl q))))
  ·exact .inr (.inr (.inr (.inr (.inr (NZ (abq ht) q)))))
theorem QL{x:FL}{ts:List (Str×Str)}{l:List Nat}{m:aV}{e:Nat×aV}(hq:jS x.2.1 m.1.1 m.1.2)(hn:m.2<ts.length)(h:e∈dD x ts l m):e∈cH x.1 x.2.1 x.2.2.1 x.2.2.2.a x.2.2.2.b x.2.2.2.c x.2.2.2.d ts m:=by
 have h:=(yL.mp h).2
 obtain⟨c,m'⟩:=e
 have h:gu x.1 x.2.1 x.2.2.1 x.2.2.2.a x.2.2.2.b x.2.2.2.c x.2.2.2.d ts m c=some m':=h
 unfold gu gn at h
 cases hs:bA x.1 x.2.1 x.2.2.1 x.2.2.2.a x.2.2.2.b x.2.2.2.c x.2.2.2.d m.1.1 m.1.2 c with
 |kL e=>rw[hs]at h;cases h
 |go k w u =>
  rw[hs]at h
  dsimp only at h
  by_cases hl:cg x.2.2.1 w u=true
  ·rw[abe hl]at h
   dsimp only at h
   cases hc:lF ts m.2 k (sg c) with
   |none=>rw[hc]at h;cases h
   |some n=>rw[hc]at h;cases h;exact tried hq hs hl hn hc
  ·rw[abb hl]at h;cases h
section
variable{x:FL}{t:List (List Str)}
abbrev LR(t:List (List Str)):aV:=((Str.ofString "row",("":Str)),(az t).length)
theorem Hy{ys:List Nat}{m:aV}(Hz:m0∈uL x.2.1 (az t))(h:cR (dD x (az t) (zL x t).cps.toList) m0 ys m):(cR (cH x.1 x.2.1 x.2.2.1 x.2.2.2.a x.2.2.2.b x.2.2.2.c x.2.2.2.d (az t)) m0 ys m/\m∈uL x.2.1 (az t))\/∃ds,ds.length<ys.length/\cR (cH x.1 x.2.1 x.2.2.1 x.2.2.2.a x.2.2.2.b x.2.2.2.c x.2.2.2.d (az t)) m0 ds (LR t):=by
 induction h with
 |nil=>exact .inl ⟨.nil,Hz⟩
 |snoc hw he ih =>
  rename_i ys c m m'
  rcases ih with ⟨h1,h2⟩|⟨ds,h1,h2⟩
  ·rcases n8.mp h2 with z|z
   ·exact .inr ⟨ys,by rw[abj];exact acO _,by rw[z]at h1;exact h1⟩
   ·exact .inl ⟨.snoc h1 (QL (Uc h2).1 z.2 he),LP dQ h2 z.2 (yL.mp he).2⟩
  ·exact .inr ⟨ds,by rw[abj];omega,h2⟩
theorem rN{ys:List Nat}{m:aV}(h:cR (cH x.1 x.2.1 x.2.2.1 x.2.2.2.a x.2.2.2.b x.2.2.2.c x.2.2.2.d (az t)) m0 ys m):cR (dD x (az t) (zL x t).cps.toList) m0 ys m:=by
 induction h with
 |nil=>exact .nil
 |snoc _ he ih=>exact .snoc ih (QK he)
theorem N1{m:aV}{cm:Cm}{n:Nat}(Hz:m0∈uL x.2.1 (az t))(hg:vh (az t) m=true)(ht:g6 (dD x (az t) (zL x t).cps.toList) m0 cm m n)(hmin:∀ys m',cR (dD x (az t) (zL x t).cps.toList) m0 ys m'->vh (az t) m'=true->n<=ys.length):fH x.1 x.2.1 x.2.2.1 x.2.2.2.a x.2.2.2.b x.2.2.2.c x.2.2.2.d (az t) n:=by
 obtain⟨_,xs,_,_,hw,hl⟩:=ht
 have hl:xs.reverse.length=n:=by rw[List.length_reverse];exact hl
 rcases Hy Hz hw with ⟨h1,_⟩|⟨ds,h1,h2⟩
 ·refine⟨⟨_,yE h1 hg,hl⟩,λcs r=>?_⟩
  obtain⟨ds,h3,h4⟩:=r.walk dQ
  exact abn (hmin ds _ (rN h4) (abo rfl)) h3
 ·have:=hmin ds _ (rN h2) (abo rfl)
  omega
theorem QM{cm:Cm}(Hz:m0∈uL x.2.1 (az t))(h1:∀m,cK cm m=true->∃n,g6 (dD x (az t) (zL x t).cps.toList) m0 cm m n)(h2:∀ys m',cR (dD x (az t) (zL x t).cps.toList) m0 ys m'->cK cm m'=true/\vh (az t) m'=false){n:Nat}(hn1:n∈cm.map λe=>e.1.2)(hn2:∀k∈cm.map (λe=>e.1.2),k<=n):QI x.1 x.2.1 x.2.2.1 x.2.2.2.a x.2.2.2.b x.2.2.2.c x.2.2.2.d (az t)/\zK x.1 x.2.1 x.2.2.1 x.2.2.2.a x.2.2.2.b x.2.2.2.c x.2.2.2.d (az t) n:=by
 refine⟨(FI dQ).mpr λcs m hw=>(h2 cs m (rN hw)).2,?_,λcs m hw=>?_⟩
 ·obtain⟨e,he,rfl⟩:=abR.mp hn1
  obtain⟨_,_,xs,_,_,hw,_⟩:=h1 e.1 (jU.mpr (abR.mpr ⟨e,he,rfl⟩))
  rcases Hy Hz hw with ⟨h3,_⟩|⟨ds,h3,h4⟩
  ·exact⟨_,_,h3,O⟩
  ·have:=(h2 ds _ (rN h4)).2
   rw[show vh (az t) (LR t)=true from abo rfl]at this
   cases this
 ·obtain⟨e,he,e2⟩:=abR.mp (jU.mp (h2 cs m (rN hw)).1)
  exact hn2 _ (abR.mpr ⟨e,he,by rw[e2]⟩)
end
abbrev oj(K:W.Frag)(H:Hp):List (N3 (Lf⊕List Lf))->Cm->Prop:=Paired λe p=>e.1=bq p.1/\bV K H p.1 (.ref e.2.1)
structure om(P:Program)(w:World)(K:W.Frag)(H:Hp)(a:Addr)(cm:Cm):Prop where
 ok:∃kvs,Nd (YM P w K) (aM P w) H a kvs/\oj K H kvs cm
theorem oj.keep{K:W.Frag}{H H':Hp}(t:∀b xs,bz K H b xs->bz K H' b xs):∀{kvs:List (N3 (Lf⊕List Lf))}{cm:Cm},oj K H kvs cm->oj K H' kvs cm
 |_,_,.nil=>.nil
 |_,_,.cons a r=>.cons ⟨a.1,a.2.keep t⟩ (oj.keep t r)
theorem om.mono{P:Program}{w:World}{K:W.Frag}{H H':Hp}{a:Addr}{cm:Cm}(s:aH H H')(h:om P w K H a cm):om P w K H' a cm:=by
 obtain⟨kvs,d,r⟩:=h.ok
 exact⟨kvs,d.mono s,oj.keep (λb xs q=>aF s q) r⟩
theorem om.but{P:Program}{w:World}{K:W.Frag}{H:Hp}{a l:Addr}{cm:Cm}{ws:List V}{o:HO}(hl:H l=some (.lst ws))(h:om P w K H a cm):om P w K (upd H l o) a cm:=by
 obtain⟨kvs,d,r⟩:=h.ok
 have t:∀b xs,bz K H b xs->bz K (upd H l o) b xs:=λb xs q=>g5 hl q
 exact⟨kvs,⟨(aD (ji d.ob hl (λq=>nomatch q))).trans d.ob,λe he=>(d.keys e he).keep t⟩,oj.keep t r⟩
theorem uA{K:W.Frag}{H:Hp}{m:aV}:∀{kvs:List (N3 (Lf⊕List Lf))}{cm:Cm},oj K H kvs cm->(valN kvs (bq m)).isSome=cK cm m
 |_,_,.nil=>rfl
 |e::kvs,p::cm,.cons a r=>by
  have ih:=uA (m:=m) r
  unfold valN cK at ih⊢
  rw[acB,acR,a.1]
  by_cases q:p.1=m
  ·rw[abo q,abo (by rw[q])];rfl
  ·rw[abB q,abB (λz=>q (lC.mp z)),Bool.false_or];exact ih
theorem xS{P:Program}{w:World}{K:W.Frag}{H:Hp}{m:aV}{b:Addr}(hm:bV K H m (.ref b)):qA (YM P w K) H (bq m) b:=by
 obtain⟨b',s,e1,e2,e3⟩:=hm
 cases e1
 exact iL e2 e3
theorem om.put{P:Program}{w:World}{K:W.Frag}{H:Hp}{a b:Addr}{m:aV}{cm:Cm}{kvs:List (N3 (Lf⊕List Lf))}{x:Option (aV×Nat)}{v:V}(d:Nd (YM P w K) (aM P w) H a kvs)(r:oj K H kvs cm)(hm:bV K H m (.ref b))(hn:cK cm m=false):om P w K (upd H a (dN (ZM P w) (aM P w) a (putN kvs (bq m) b v))) a (cm++[(m,x)]):=by
 have t:=kP (F:=K) d.ob (o:=dN (ZM P w) (aM P w) a (putN kvs (bq m) b v))
 refine⟨_,d.put (xS hm),?_⟩
 have q:=uA (m:=m) r
 rw[hn]at q
 have hv0:valN kvs (bq m)=none:=by
  cases z:valN kvs (bq m) with
  |none=>rfl
  |some y=>rw[z]at q;cases q
 rw[rq hv0]
 rw[rq hv0]at t
 exact dI (oj.keep t r) (.cons ⟨rfl,hm.keep t⟩ .nil)
theorem om.one{P:Program}{w:World}{K:W.Frag}{H:Hp}{a b:Addr}{m:aV}{v:V}(h:H a=some (dN (ZM P w) (aM P w) a []))(hm:bV K H m (.ref b)):om P w K (upd H a (dN (ZM P w) (aM P w) a [(bq m,b,v)])) a [(m,none)]:=by
 have t:=kP (F:=K) h (o:=dN (ZM P w) (aM P w) a [(bq m,b,v)])
 exact⟨_,Nd.one h (xS hm),.cons ⟨O,hm.keep t⟩ .nil⟩
theorem HA{K:W.Frag}{H:Hp}{m:aV}{v:V}(h:bV K H m v):∃b,v=.ref b:=by
 obtain⟨b,_,e,_⟩:=h;exact⟨b,e⟩
def Xf(x:FL)(t:List (List Str))(v:V)(n:Nat):Prop:=(∃k:Nat,v=.int k/\fH x.1 x.2.1 x.2.2.1 x.2.2.2.a x.2.2.2.b x.2.2.2.c x.2.2.2.d (az t) k)\/(v=.non/\QI x.1 x.2.1 x.2.2.1 x.2.2.2.a x.2.2.2.b x.2.2.2.c x.2.2.2.d (az t)/\zK x.1 x.2.1 x.2.2.1 x.2.2.2.a x.2.2.2.b x.2.2.2.c x.2.2.2.d (az t) n)
theorem HB{P:Program}{w:World}{K:W.Frag}{H:Hp}{m:aV}{v:V}(h:bV K H m v):(AW (YM P w K)).on H (.inr (bq m)) v:=by
 obtain⟨b,s,rfl,e2,e3⟩:=h
 exact⟨b,O,iL e2 e3⟩
theorem HC{P:Program}{w:World}{K:W.Frag}{H:Hp}:∀{vs:List V}{ms:List aV},mw K H vs ms->Paired (λk v=>(AW (YM P w K)).on H k v) (ms.map λm=>.inr (bq m)) vs
 |_,_,.nil=>.nil
 |_,_,.cons a r=>.cons (HB a) (HC r)
theorem HD{ms:List aV}{m:aV}:Lj (ms.map λm=>(.inr (bq m):Lf⊕List (Lf⊕List Lf))) (.inr (bq m))=true↔m∈ms:=by
 unfold Lj
 rw[List.any_map,List.any_eq_true]
 constructor
 ·rintro⟨y,hy,h⟩
  have h:=abF h
  injection h with h
  rw[←lC.mp h];exact hy
 ·intro h
  exact⟨m,h,abo rfl⟩
theorem Xg{A:Around}{P:Program}{w:World}(h:A.units+64<cLine):A.units+1+(stepK (ZM P w)).f9<cLine:=by show A.units+1+2<cLine;omega
def LS(w u:Str):Res :=
 if aU w ("within":Str)=true then .go ("put":Str) ("within":Str) u else
 if aU w ("freed":Str)=true then dw u else
 if aU w ("doubt":Str)=true then .kL ("behind":Str) else
 if aU w ("behind":Str)=true then .kL ("behind":Str) else .go ("put":Str) ("plain":Str) ("":Str)
structure Off(p q f:Str)(c:Nat):Prop where
 p:¬gQ c p=true
 q:¬gQ c q=true
 f:¬gQ c f=true
 l:¬aU (sg c) (Str.ofString "\n")=true
 b:¬aU (sg c) (" ":Str)=true
theorem LU{p q f:Str}{b1 b2 b3 b4:Bool}{w u:Str}{c:Nat}(o:Off p q f c)(h:jS q w u):bA p q f b1 b2 b3 b4 w u c=LS w u:=by
 have hu:¬aU (sg c) u=true:=by
  rcases h with ⟨rfl,_⟩|⟨d,hd,rfl,_⟩
  ·exact mT c
  ·refine Fy λe=>o.q ?_
   rw[e,BZ]
   exact abo hd
 have e1:cF f b1 b2 u c=.go ("put":Str) ("within":Str) u:=by unfold cF;rw[abb o.f,abb hu,abb o.l]
 have e2:fF b2 u c=dw u:=by unfold fF;rw[abb o.l]
 have e4:bO p b3 c=.kL ("behind":Str):=by unfold bO;rw[abb o.l,abb o.p,abb o.b]
 have e3:gD p b3 u c=.kL ("behind":Str):=by unfold gD;rw[abb hu];exact e4
 have e5:fq p q f b3 b4 w u c=.go ("put":Str) ("plain":Str) ("":Str):=by
  unfold fq ff eB
  rw[abb o.f,abb o.f,abb o.l,abb o.l,abb o.p,abb o.q,abb o.q,abb o.p,abb o.b]
  split<;>rfl
 unfold bA LS
 rw[e1,e2,e3,e4,e5]
theorem IQ(w u:Str):(∃w' u',LS w u=.go ("put":Str) w' u')\/∃w',LS w u=.kL w':=by
 unfold LS dw
 split
 ·exact .inl ⟨_,_,rfl⟩
 split
 ·split
  ·exact .inl ⟨_,_,rfl⟩
  ·exact .inl ⟨_,_,rfl⟩
 split
 ·exact .inr ⟨_,rfl⟩
 split
 ·exact .inr ⟨_,rfl⟩
 ·exact .inl ⟨_,_,rfl⟩
theorem c10{c:Nat}(h:c≠10):¬aU (sg c) (Str.ofString "\n")=true:=by
 have e:Str.ofString "\n"=sg 10:=by decide +kernel
 rw[e];exact Fy h
theorem Ud{c:Nat}(h:c≠32):¬aU (sg c) (" ":Str)=true:=by
 have e:Str.ofString " "=sg 32:=by decide +kernel
 rw[e];exact Fy h
theorem QN{p q f:Str}{c:Nat}(h1:c≠10)(h2:c≠32)(h:away ((p++q)++f) c=true):Off p q f c:=by
 have hn:=(lE _ _).mp h
 have e:((p++q)++f).cps.toList=(p.cps.toList++q.cps.toList)++f.cps.toList:=by
  show((p.cps++q.cps)++f.cps).toList=_
  simp
 rw[e,abp,abp]at hn
 exact⟨B0 λz=>hn (.inl (.inl z)),B0 λz=>hn (.inl (.inr z)),B0 λz=>hn (.inr z),c10 h1,Ud h2⟩
abbrev pG:Str:=(",":Str)
abbrev qG:Str:=("'":Str)
abbrev fG:Str:=("":Str)
def VS:List (Str×Str):=[(Str.ofString "row",("":Str)),(Str.ofString "cell",("":Str)),(Str.ofString "plain",("":Str)),(Str.ofString "behind",("":Str)),(Str.ofString "within",("'":Str)),(Str.ofString "doubt",("'":Str))]
def N2(w:Str):Bool:=aU w ("within":Str)
def kc:Str×Str:=(Str.ofString "put",sg 44)
def okG(s:Str×Str)(c:Nat):Bool:=match bA pG qG fG false false false false s.1 s.2 c with
 | .kL _=>true
 | .go k w' u'=>decide ((w',u')∈VS)&&(if aU k ("skip":Str)=true then true else if aU k ("put":Str)=true then (decide (c≠44)||(N2 s.1&&N2 w')) else !N2 s.1 && !N2 w')
theorem N4:∀s∈VS,∀c∈[44,39,10,32],okG s c=true:=by decide +kernel
theorem QO{s:Str×Str}(h:s∈VS):jS qG s.1 s.2:=by
 have q39:(39:Nat)∈qG.cps.toList:=by decide +kernel
 have e39:Str.ofString "'"=sg 39:=by decide +kernel
 rcases abw.mp h with rfl|h
 ·exact .inl ⟨rfl,.inl rfl⟩
 rcases abw.mp h with rfl|h
 ·exact .inl ⟨rfl,.inr (.inl rfl)⟩
 rcases abw.mp h with rfl|h
 ·exact .inl ⟨rfl,.inr (.inr (.inl rfl))⟩
 rcases abw.mp h with rfl|h
 ·exact .inl ⟨rfl,.inr (.inr (.inr (.inl rfl)))⟩
 rcases abw.mp h with rfl|h
 ·exact .inr ⟨39,q39,e39,.inl rfl⟩
 rcases abw.mp h with rfl|h
 ·exact .inr ⟨39,q39,e39,.inr (.inl rfl)⟩
 cases h
def vo:List (Str×Str)->Nat
 |[]=>0
 |t::ts=>(if t=kc then 3 else 1)+vo ts
def FT(w:Str)(ts:List (Str×Str)):Nat:=if N2 w=true then (if ts.head?=some kc then vo ts-1 else vo ts+1) else vo ts
def goodG:List (Str×Str)->Bool
 |[]=>true
 |t::ts=>(decide (t=kc) || !aU t.1 ("put":Str))&&(!decide (t=kc) || !decide (ts.head?=some kc))&&goodG ts
theorem LV(w w':Str)(ts:List (Str×Str)):FT w ts<=FT w' ts+1:=by
 unfold FT
 by_cases hh:ts.head?=some kc
 ·rw[abe hh]
  split<;>split<;>omega
 ·rw[abb hh]
  split<;>split<;>omega
theorem Ce:∀{cs:List Nat}{w u:Str}{ts:List (Str×Str)},(w,u)∈VS->goodG ts=true->Pj pG qG fG false false false false w u ts cs->FT w ts<=cs.length
 |[],w,u,ts,_,_,h=>by
  have e:ts=[]:=h.2.symm
  have e2:w=("row":Str):=congrArg (λx:Str×Str×Option Str=>x.1) h.1
  rw[e,e2]
  exact Nat.le_of_eq (by decide +kernel)
 |c::cs,w,u,ts,hs,hg,h=>by
  obtain⟨k,w',u',ts',hst,HE,h'⟩:=PR.un (wE:=("row":Str)) (uE:=("":Str)) (show PR pG qG fG false false false false w u ts (c::cs) ("row":Str) ("":Str) from h)
  have h':Pj pG qG fG false false false false w' u' ts' cs:=h'
  have Pk:aU k ("put":Str)=true->aU k ("skip":Str)=false->c=44:=λh1 h2=>by
   rw[abb (by rw[h2];decide),abe h1]at HE
   rw[HE]at hg
   have hg:((decide ((k,sg c)=kc) || !aU k ("put":Str))&&_&&goodG ts')=true:=hg
   rw[h1,Bool.not_true,Bool.or_false]at hg
   have:=(acf.mp (acf.mp hg).1).1
   have:=abF this
   exact rL (congrArg (λx:Str×Str=>x.2) this)
  have hc:c∈[44,39,10,32]:=by
   by_cases h1:c=10
   ·rw[h1];decide
   by_cases h2:c=32
   ·rw[h2];decide
   by_cases h3:c=44
   ·rw[h3];decide
   by_cases h4:c=39
   ·rw[h4];decide
   exfalso
   have off:Off pG qG fG c:=QN h1 h2 ((lE _ _).mpr (by
    rw[show((pG++qG)++fG).cps.toList=[44,39] by decide +kernel]
    intro z
    rcases abw.mp z with z|z
    ·exact h3 z
    ·exact h4 (abh.mp z)))
   rw[LU off (QO hs)]at hst
   rcases IQ w u with ⟨w2,u2,q⟩|⟨w2,q⟩
   ·rw[q]at hst
    injection hst with e1 e2 e3
    exact h3 (Pk (by rw[←e1];exact aY _) (by rw[←e1];decide +kernel))
   ·rw[q]at hst;cases hst
  have ok:=N4 (w,u) hs c hc
  unfold okG at ok
  rw[hst]at ok
  dsimp only at ok
  obtain⟨ok1,QS⟩:=acf.mp ok
  have hs':=abF ok1
  rw[abG]
  by_cases hk:aU k ("skip":Str)=true
  ·rw[abe hk,acC]at HE
   rw[HE]at hg⊢
   have ih:=Ce hs' hg h'
   have:=LV w w' ts'
   omega
  have hk0:aU k ("skip":Str)=false:=by simpa using hk
  rw[abb hk]at QS HE
  by_cases hp:aU k ("put":Str)=true
  ·rw[abe hp]at QS HE
   have Xh:=Pk hp hk0
   subst Xh
   have QS:(N2 w&&N2 w')=true:=by simpa using QS
   obtain⟨q1,q2⟩:=acf.mp QS
   have et:(k,sg 44)=kc:=by rw[gi hp];rfl
   rw[et]at HE
   have HE:ts=kc::ts':=HE
   rw[HE]at hg⊢
   have hg:((decide (kc=kc)||_)&&(!decide (kc=kc) || !decide (ts'.head?=some kc))&&goodG ts')=true:=hg
   obtain⟨g1,g2⟩:=acf.mp hg
   have g3:=(acf.mp g1).2
   have hh:¬ts'.head?=some kc:=λz=>by rw[abo z,abo rfl]at g3;cases g3
   have ih:=Ce hs' g2 h'
   unfold FT at ih⊢
   rw[abe q2,abb hh]at ih
   rw[abe q1,abe (show(kc::ts').head?=some kc from rfl)]
   have:vo (kc::ts')=3+vo ts':=by show(if kc=kc then 3 else 1)+_=_;rw[abe rfl]
   omega
  ·rw[abb hp]at QS HE
   obtain⟨q1,q2⟩:=acf.mp QS
   have q1:N2 w=false:=by simpa using q1
   have q2:N2 w'=false:=by simpa using q2
   have hne:(k,("":Str))≠kc:=λz=>hp (by rw[show k=("put":Str) from congrArg Prod.fst z];exact aY _)
   have HE:ts=(k,("":Str))::ts':=HE
   rw[HE]at hg⊢
   have g2:goodG ts'=true:=(acf.mp hg).2
   have ih:=Ce hs' g2 h'
   unfold FT at ih⊢
   rw[q2,abb (by decide)]at ih
   rw[q1,abb (by decide)]
   have:vo ((k,("":Str))::ts')=1+vo ts':=by show(if _=kc then 3 else 1)+_=_;rw[abb hne]
   omega
def IS(n:Nat):Str:=if n % 3=0 then Str.ofString "," else Str.ofString ""
def nh(i:Nat):List Str:=(List.range 20).map λj=>IS (20*i+j)
def N5(k:Nat):Nat:=if k=2 then 38 else 41
def Ue(k:Nat):List Nat:=(List.range 20).flatMap λj=>(if (20*k+j) % 3=0 then [39,44,39] else [])++[if j=19 then 10 else 44]
theorem LW(i:Nat):nh i=nh (i % 3):=by
 unfold nh IS
 refine List.map_congr_left λj _=>?_
 rw[show(20*i+j) % 3=(20*(i % 3)+j) % 3 by omega]
theorem rdG:∀k∈List.range 3,Bd pG qG fG false false false false (c9 (nh k)) (Ue k)/\(Ue k).length=N5 k/\goodG (c9 (nh k))=true/\FT ("row":Str) (c9 (nh k))=N5 k:=by
 unfold Bd Pj
 decide +kernel
theorem Xi(i:Nat):fH pG qG fG false false false false (az [nh i]) (N5 (i % 3)):=by
 obtain⟨h1,h2,h3,h4⟩:=rdG (i % 3) (List.mem_range.mpr (Nat.mod_lt _ (by decide)))
 rw[yJ,LW]
 refine⟨⟨_,h1,h2⟩,λcs r=>?_⟩
 rw[←h4]
 exact Ce (by decide +kernel) h3 r
def QT:Nat->Nat
 | 0=>0
 |n+1=>QT n+N5 (n % 3)
theorem QU:∀n,fH pG qG fG false false false false (az ((List.range n).map nh)) (QT n)
 | 0=>⟨⟨[],⟨rfl,rfl⟩,rfl⟩,λcs _=>abO _⟩
 |n+1=>by
  rw[List.range_succ,abx,qE]
  exact fH.plus dQ (QU n) (Xi n)
theorem N6(i:Nat):nY (nh i):=by
 refine⟨by unfold nh;rw[abg,acM];decide,by unfold nh;rw[abg,acM];decide,λc hc=>?_⟩
 obtain⟨j,_,rfl⟩:=abR.mp hc
 unfold IS
 split
 ·show ∀k∈_,_;decide +kernel
 ·show ∀k∈_,_;decide +kernel
theorem HF:TabOk ((List.range 60).map nh):=by
 refine⟨by rw[abg,acM];decide,λr hr=>?_,?_⟩
 ·obtain⟨i,_,rfl⟩:=abR.mp hr
  exact N6 i
 ·decide +kernel
theorem QV:QT 60=2400:=by decide +kernel
theorem gdG:Gd pG qG fG:=by
 refine⟨⟨by decide +kernel,?_⟩,⟨by decide +kernel,?_⟩,⟨by decide +kernel,?_⟩,by decide +kernel,by decide +kernel,by decide +kernel,by decide +kernel⟩
 ·show ∀c∈_,_;decide +kernel
 ·show ∀c∈_,_;decide +kernel
 ·show ∀c∈_,_;decide +kernel
theorem Bm{r:List Str}(h:nY r):nY (r.take 1)/\(r.take 1).length<=r.length/\(lens (r.take 1)).sum<=(lens r).sum:=by
 cases r with
 |nil=>exact absurd h.lo (by decide)
 |cons a r =>
  have e:(a::r).take 1=[a]:=rfl
  rw[e]
  refine⟨⟨abf 1,(by show 1<=20;decide),λc hc=>h.ok c (by rw[abh.mp hc];exact abN ..)⟩,by show 1<=r.length+1;omega,?_⟩
  show a.length+0<=a.length+(lens r).sum
  omega
theorem Bo:∀{t:List (List Str)},(∀r∈t,nY r)->total (t.map (List.take 1))<=total t/\cells (t.map (List.take 1))<=cells t
 |[],_=>⟨abf _,abf _⟩
 |r::t,h=>by
  obtain⟨h1,h2,h3⟩:=Bm (h r (abN ..))
  obtain⟨i1,i2⟩:=Bo (t:=t) λr' q=>h r' (abC _ q)
  unfold total cells at *
  rw[abT,abT,abT,abT,abT,ab4,ab4,ab4,ab4]
  omega
theorem IT{t:List (List Str)}(h:TabOk t):TabOk (t.map (List.take 1))/\(az (t.map (List.take 1))).length<=(az t).length:=by
 obtain⟨h1,h2⟩:=Bo h.rows
 have ok:TabOk (t.map (List.take 1)):=⟨by rw[abg];exact h.n,λr hr=>by
  obtain⟨r',hr',rfl⟩:=abR.mp hr
  exact(Bm (h.rows r' hr')).1,abn h1 h.sum⟩
 refine⟨ok,?_⟩
 rw[Cb ok.rows,Cb h.rows]
 omega
theorem mU:aG ["sign","number"] ["sign"] (av jK):=⟨rfl,rfl,rfl,by decide +kernel,rfl,by decide +kernel,by decide +kernel⟩
theorem pV:aG ["thing","least","most"] ["thing","least","most"] (av eo):=⟨rfl,rfl,rfl,by decide +kernel,rfl,by decide +kernel,by decide +kernel⟩
theorem jm:aG ["self","parts","quotes","frees","twin","wide","thin","stray","truth"] ["self","parts","quotes","frees","twin","wide","thin","stray"] (av bG):=⟨rfl,rfl,rfl,by decide +kernel,rfl,by decide +kernel,by decide +kernel⟩
theorem wo:aG ["self"] ["self"] (av jL):=⟨rfl,rfl,rfl,by decide +kernel,rfl,by decide +kernel,by decide +kernel⟩
theorem zM:aG ["told"] ["told"] (av lT):=⟨rfl,rfl,rfl,by decide +kernel,rfl,by decide +kernel,by decide +kernel⟩
theorem uB:aG ["self","dialect"] ["self","dialect"] (av iZ):=⟨rfl,rfl,rfl,by decide +kernel,rfl,by decide +kernel,by decide +kernel⟩
theorem qF:aG ["self","dialect","tokens"] ["self","dialect","tokens"] (av gU):=⟨rfl,rfl,rfl,by decide +kernel,rfl,by decide +kernel,by decide +kernel⟩
theorem xT:aG ["text","found","sign"] ["text"] (av Fw):=⟨rfl,rfl,rfl,by decide +kernel,rfl,by decide +kernel,by decide +kernel⟩
theorem qH:aG ["self"] ["self"] (av gW):=⟨rfl,rfl,rfl,by decide +kernel,rfl,by decide +kernel,by decide +kernel⟩
theorem qI:aG ["self","dialect","tokens"] ["self","dialect","tokens"] (av gX):=⟨rfl,rfl,rfl,by decide +kernel,rfl,by decide +kernel,by decide +kernel⟩
theorem ni:aG ["self","row","cell"] ["self","row","cell"] (av fz):=⟨rfl,rfl,rfl,by decide +kernel,rfl,by decide +kernel,by decide +kernel⟩
theorem qJ:aG ["text"] ["text"] (av fm):=⟨rfl,rfl,rfl,by decide +kernel,rfl,by decide +kernel,by decide +kernel⟩
theorem FU:aG ["thing"] ["thing"] (av ua):=⟨rfl,rfl,rfl,by decide +kernel,rfl,by decide +kernel,by decide +kernel⟩
theorem IU:aG ["thing"] ["thing"] (av rA):=⟨rfl,rfl,rfl,by decide +kernel,rfl,by decide +kernel,by decide +kernel⟩
theorem wu:aG ["row"] ["row"] (av gY):=⟨rfl,rfl,rfl,by decide +kernel,rfl,by decide +kernel,by decide +kernel⟩
theorem Ep:aG ["thing"] ["thing"] (av jM):=⟨rfl,rfl,rfl,by decide +kernel,rfl,by decide +kernel,by decide +kernel⟩
theorem FW:aG ["dialect","state"] ["dialect","state"] (av uc):=⟨rfl,rfl,rfl,by decide +kernel,rfl,by decide +kernel,by decide +kernel⟩
theorem fX:aG ["row","tokens","place","cell"] ["row"] (av gA):=⟨rfl,rfl,rfl,by decide +kernel,rfl,by decide +kernel,by decide +kernel⟩
theorem yM:aG ["thing"] ["thing"] (av kT):=⟨rfl,rfl,rfl,by decide +kernel,rfl,by decide +kernel,by decide +kernel⟩
theorem mD:aG ["table","tokens","row"] ["table"] (av nL):=⟨rfl,rfl,rfl,by decide +kernel,rfl,by decide +kernel,by decide +kernel⟩
theorem mV:aG ["tokens","count","kind","sign","token"] ["tokens","count","kind","sign"] (av jN):=⟨rfl,rfl,rfl,by decide +kernel,rfl,by decide +kernel,by decide +kernel⟩
theorem oq:aG ["dialect","state","sign"] ["dialect","state","sign"] (av gh):=⟨rfl,rfl,rfl,by decide +kernel,rfl,by decide +kernel,by decide +kernel⟩
theorem uC:aG ["dialect","sign"] ["dialect","sign"] (av i0):=⟨rfl,rfl,rfl,by decide +kernel,rfl,by decide +kernel,by decide +kernel⟩
theorem yN:aG ["dialect","quote","sign"] ["dialect","quote","sign"] (av kU):=⟨rfl,rfl,rfl,by decide +kernel,rfl,by decide +kernel,by decide +kernel⟩
theorem yO:aG ["dialect","sign"] ["dialect","sign"] (av kW):=⟨rfl,rfl,rfl,by decide +kernel,rfl,by decide +kernel,by decide +kernel⟩
theorem uD:aG ["dialect","quote","sign"] ["dialect","quote","sign"] (av i7):=⟨rfl,rfl,rfl,by decide +kernel,rfl,by decide +kernel,by decide +kernel⟩
theorem zN:aG ["dialect","quote","sign"] ["dialect","quote","sign"] (av lU):=⟨rfl,rfl,rfl,by decide +kernel,rfl,by decide +kernel,by decide +kernel⟩
theorem mE:aG ["self","state","sign","word","quote"] ["self","state","sign"] (av nM):=⟨rfl,rfl,rfl,by decide +kernel,rfl,by decide +kernel,by decide +kernel⟩
theorem kr:aG ["self","state","sign","step"] ["self","state","sign"] (av iE):=⟨rfl,rfl,rfl,by decide +kernel,rfl,by decide +kernel,by decide +kernel⟩
theorem fh:aG ["self","mark","sign","step","count"] ["self","mark","sign"] (av fB):=⟨rfl,rfl,rfl,by decide +kernel,rfl,by decide +kernel,by decide +kernel⟩
theorem mF:aG ["self","mark"] ["self","mark"] (av e9):=⟨rfl,rfl,rfl,by decide +kernel,rfl,by decide +kernel,by decide +kernel⟩
theorem jb:aG ["self","place","signs","found"] ["self","place"] (av fD):=⟨rfl,rfl,rfl,by decide +kernel,rfl,by decide +kernel,by decide +kernel⟩
theorem rO:aG ["self","place"] ["self","place"] (av iF):=⟨rfl,rfl,rfl,by decide +kernel,rfl,by decide +kernel,by decide +kernel⟩
theorem gO:aG ["first","searched","most","came","edge","place","farther","lead"] ["first","searched","most"] (av fE):=⟨rfl,rfl,rfl,by decide +kernel,rfl,by decide +kernel,by decide +kernel⟩
theorem mG:aG ["came","place","signs","link"] ["came","place"] (av ud):=⟨rfl,rfl,rfl,by decide +kernel,rfl,by decide +kernel,by decide +kernel⟩
theorem gE:aG ["tokens","count","row","cell","token"] ["tokens","count"] (av uf):=⟨rfl,rfl,rfl,by decide +kernel,rfl,by decide +kernel,by decide +kernel⟩
theorem iV:aG ["dialect","table","tokens","found","came","lacking"] ["dialect","table"] (av lV):=⟨rfl,rfl,rfl,by decide +kernel,rfl,by decide +kernel,by decide +kernel⟩
theorem wz:aG ["_law_script","_law_k"] ["_law_script","_law_k"] (av jO):=⟨rfl,rfl,rfl,by decide +kernel,rfl,by decide +kernel,by decide +kernel⟩
theorem k6:aG ["_law_number_here","_law_salt","_law_one","_law_two"] ["_law_number_here","_law_salt"] (av lW):=⟨rfl,rfl,rfl,by decide +kernel,rfl,by decide +kernel,by decide +kernel⟩
theorem jW:aG ["_law_cell","_law_salt","_law_number_here","_law_high"] ["_law_cell","_law_salt"] (av kX):=⟨rfl,rfl,rfl,by decide +kernel,rfl,by decide +kernel,by decide +kernel⟩
theorem FY:aG ["_law_number_here","_law_cell","_law_k"] ["_law_number_here","_law_cell","_law_k"] (av ug):=⟨rfl,rfl,rfl,by decide +kernel,rfl,by decide +kernel,by decide +kernel⟩
theorem fY:aG ["_law_number_here","_law_many","_law_menu","_law_found","_law_k","_law_sign"] ["_law_number_here","_law_many","_law_menu"] (av nN):=⟨rfl,rfl,rfl,by decide +kernel,rfl,by decide +kernel,by decide +kernel⟩
theorem p8:aG ["_law_way","_law_every"] ["_law_way"] (av lX):=⟨rfl,rfl,rfl,by decide +kernel,rfl,by decide +kernel,by decide +kernel⟩
theorem bP:aG ["_law_cell","_law_number_here","_law_flags","_law_sizes","_law_menus_here","_law_parts","_law_quotes","_law_frees","_law_truths"] ["_law_cell"] (av nO):=⟨rfl,rfl,rfl,by decide +kernel,rfl,by decide +kernel,by decide +kernel⟩
theorem Cf:aG ["_law_told_here"] ["_law_told_here"] (av nP):=⟨rfl,rfl,rfl,by decide +kernel,rfl,by decide +kernel,by decide +kernel⟩
theorem dF:aG ["_law_told_here","_law_state","_law_sign","_law_parts","_law_quotes","_law_frees","_law_twin","_law_wide","_law_thin","_law_stray"] ["_law_told_here","_law_state","_law_sign"] (av nQ):=⟨rfl,rfl,rfl,by decide +kernel,rfl,by decide +kernel,by decide +kernel⟩
theorem cj:aG ["_law_told_here","_law_state","_law_sign","_law_parts","_law_quotes","_law_frees","_law_twin","_law_wide","_law_thin","_law_stray","_law_word","_law_quote"] ["_law_told_here","_law_state","_law_sign"] (av nR):=⟨rfl,rfl,rfl,by decide +kernel,rfl,by decide +kernel,by decide +kernel⟩
theorem eN:aG ["_law_told_here","_law_text","_law_spot","_law_kinds","_law_sign","_law_kind","_law_there"] ["_law_told_here","_law_text"] (av nS):=⟨rfl,rfl,rfl,by decide +kernel,rfl,by decide +kernel,by decide +kernel⟩
theorem cL:aG ["_law_text","_law_kinds","_law_rows_here","_law_row","_law_cell","_law_k"] ["_law_text","_law_kinds"] (av nU):=⟨rfl,rfl,rfl,by decide +kernel,rfl,by decide +kernel,by decide +kernel⟩
theorem bh:aG ["_law_told_here","_law_cell","_law_salt","_law_most","_law_number_here","_law_many","_law_every","_law_table_here","_law_row","_law_text","_law_k","_law_way"] ["_law_told_here","_law_cell","_law_salt","_law_most"] (av lY):=⟨rfl,rfl,rfl,by decide +kernel,rfl,by decide +kernel,by decide +kernel⟩
theorem fJ:aG ["_law_table_here","_law_tokens_here","_law_row","_law_k","_law_sign"] ["_law_table_here"] (av kY):=⟨rfl,rfl,rfl,by decide +kernel,rfl,by decide +kernel,by decide +kernel⟩
theorem Cg:aG ["_law_told_here","_law_spot"] ["_law_told_here","_law_spot"] (av nV):=⟨rfl,rfl,rfl,by decide +kernel,rfl,by decide +kernel,by decide +kernel⟩
theorem iN:aG ["_law_told_here","_law_table_here","_law_found","_law_sign"] ["_law_told_here","_law_table_here"] (av jv):=⟨rfl,rfl,rfl,by decide +kernel,rfl,by decide +kernel,by decide +kernel⟩
theorem gw:aG ["_law_told_here","_law_place","_law_sign","_law_tokens_here","_law_spot","_law_many","_law_kind","_law_there"] ["_law_told_here","_law_place","_law_sign","_law_tokens_here"] (av lZ):=⟨rfl,rfl,rfl,by decide +kernel,rfl,by decide +kernel,by decide +kernel⟩
theorem bu:aG ["_law_told_here","_law_table_here","_law_tokens_here","_law_signs_here","_law_begin","_law_seen","_law_front","_law_many","_law_behind","_law_place","_law_sign","_law_there"] ["_law_told_here","_law_table_here"] (av iM):=⟨rfl,rfl,rfl,by decide +kernel,rfl,by decide +kernel,by decide +kernel⟩
theorem eS:aG ["_law_table_here","_law_many","_law_left","_law_r","_law_c"] ["_law_table_here","_law_many"] (av jP):=⟨rfl,rfl,rfl,by decide +kernel,rfl,by decide +kernel,by decide +kernel⟩
theorem jc:aG ["_law_made_here","_law_table_here","_law_text","e"] ["_law_made_here","_law_table_here"] (av jQ):=⟨rfl,rfl,rfl,by decide +kernel,rfl,by decide +kernel,by decide +kernel⟩
theorem cu:aG ["_law_made_here","_law_told_here","_law_table_here","_law_handed","_law_found","_law_many","_law_far","_law_due","_law_kinds","_law_spot","_law_word"] ["_law_made_here","_law_told_here","_law_table_here"] (av jw):=⟨rfl,rfl,rfl,by decide +kernel,rfl,by decide +kernel,by decide +kernel⟩
theorem dJ:aG ["_law_told_here","_law_table_here","_law_found","_law_kinds","_law_spot","_law_word"] [] (av jx):=⟨rfl,rfl,rfl,by decide +kernel,rfl,by decide +kernel,by decide +kernel⟩
theorem qK:aG ["_law_script","_law_told_here","_law_second","_law_one","_law_two","_law_table_here","_law_small"] ["_law_script"] (av rB):=⟨rfl,rfl,rfl,by decide +kernel,rfl,by decide +kernel,by decide +kernel⟩
structure Txt(K:W.Frag)(mg:Str->Option Value)(aC:Nat->Addr)(aL:Nat->FuncData)(cV:Nat->Str):Prop where
 jX:fj K "is_printable" "is_printable" jK (aC 0) (aL 0)
 ou:Binds K (aL 0) ["sign"] []
 ow:mg "is_printable"=some (.ref (aC 0))
 eO:fj K "are_unlike_signs" "are_unlike_signs" eo (aC 1) (aL 1)
 gF:Binds K (aL 1) ["thing","least","most"] []
 gG:mg "are_unlike_signs"=some (.ref (aC 1))
 qL:KH K "__init__" "Dialect.__init__" bG (aC 2) (aL 2) (.ref (aC 71))
 jY:Binds K (aL 2) ["self","parts","quotes","frees","twin","wide","thin","stray"] []
 yP:fj K "told" "Dialect.told" jL (aC 3) (aL 3)
 jZ:Binds K (aL 3) ["self"] []
 j0:Meth K (aC 60) "told" (aC 3)
 rP:fj K "dialect_of" "dialect_of" lT (aC 4) (aL 4)
 Ci:Binds K (aL 4) ["told"] []
 Cj:mg "dialect_of"=some (.ref (aC 4))
 wA:fj K "__init__" "Turn.__init__" iZ (aC 5) (aL 5)
 wB:Binds K (aL 5) ["self","dialect"] []
 rQ:fj K "__init__" "Marker.__init__" gU (aC 6) (aL 6)
 rR:Binds K (aL 6) ["self","dialect","tokens"] []
 FZ:fj K "once" "once" Fw (aC 7) (aL 7)
 LX:Binds K (aL 7) ["text"] []
 LY:mg "once"=some (.ref (aC 7))
 rS:fj K "special" "Dialect.special" gW (aC 8) (aL 8)
 rT:Binds K (aL 8) ["self"] []
 rV:Meth K (aC 60) "special" (aC 8)
 rW:fj K "__init__" "Writer.__init__" gX (aC 9) (aL 9)
 rX:Binds K (aL 9) ["self","dialect","tokens"] []
 oA:fj K "__init__" "NoWriting.__init__" fz (aC 10) (aL 10)
 oB:Binds K (aL 10) ["self","row","cell"] []
 ku:fj K "has_signs_alone" "has_signs_alone" fm (aC 11) (aL 11)
 rY:Binds K (aL 11) ["text"] []
 rZ:mg "has_signs_alone"=some (.ref (aC 11))
 Bp:fj K "is_cell" "is_cell" ua (aC 12) (aL 12)
 IV:Binds K (aL 12) ["thing"] []
 IW:mg "is_cell"=some (.ref (aC 12))
 Er:fj K "is_row" "is_row" rA (aC 13) (aL 13)
 LZ:Binds K (aL 13) ["thing"] []
 L4:mg "is_row"=some (.ref (aC 13))
 oE:fj K "signs_in_row" "signs_in_row" gY (aC 14) (aL 14)
 yQ:Binds K (aL 14) ["row"] []
 yR:mg "signs_in_row"=some (.ref (aC 14))
 yS:fj K "is_table" "is_table" jM (aC 15) (aL 15)
 Ga:Binds K (aL 15) ["thing"] []
 Gb:mg "is_table"=some (.ref (aC 15))
 Bq:fj K "is_live" "is_live" uc (aC 16) (aL 16)
 IX:Binds K (aL 16) ["dialect","state"] []
 IY:mg "is_live"=some (.ref (aC 16))
 mW:fj K "tokens_of_row" "tokens_of_row" gA (aC 17) (aL 17)
 wC:Binds K (aL 17) ["row"] []
 wD:mg "tokens_of_row"=some (.ref (aC 17))
 p9:fj K "check_table" "check_table" kT (aC 18) (aL 18)
 zO:Binds K (aL 18) ["thing"] []
 zP:mg "check_table"=some (.ref (aC 18))
 vp:fj K "tokens_of" "tokens_of" nL (aC 19) (aL 19)
 Es:Binds K (aL 19) ["table"] []
 Et:mg "tokens_of"=some (.ref (aC 19))
 oG:fj K "count_behind" "count_behind" jN (aC 20) (aL 20)
 yT:Binds K (aL 20) ["tokens","count","kind","sign"] []
 yU:mg "count_behind"=some (.ref (aC 20))
 jn:fj K "step_at_beginning" "step_at_beginning" gh (aC 21) (aL 21)
 pW:Binds K (aL 21) ["dialect","state","sign"] []
 pX:mg "step_at_beginning"=some (.ref (aC 21))
 mX:fj K "step_in_plain" "step_in_plain" i0 (aC 22) (aL 22)
 wF:Binds K (aL 22) ["dialect","sign"] []
 wG:mg "step_in_plain"=some (.ref (aC 22))
 qc:fj K "step_within" "step_within" kU (aC 23) (aL 23)
 zQ:Binds K (aL 23) ["dialect","quote","sign"] []
 zR:mg "step_within"=some (.ref (aC 23))
 k7:fj K "step_behind" "step_behind" kW (aC 24) (aL 24)
 qd:Binds K (aL 24) ["dialect","sign"] []
 qe:mg "step_behind"=some (.ref (aC 24))
 mY:fj K "step_in_doubt" "step_in_doubt" i7 (aC 25) (aL 25)
 wH:Binds K (aL 25) ["dialect","quote","sign"] []
 wI:mg "step_in_doubt"=some (.ref (aC 25))
 sd:fj K "step_freed" "step_freed" lU (aC 26) (aL 26)
 Ck:Binds K (aL 26) ["dialect","quote","sign"] []
 Cn:mg "step_freed"=some (.ref (aC 26))
 Eu:fj K "step" "Turn.step" nM (aC 27) (aL 27)
 Ew:Binds K (aL 27) ["self","state","sign"] []
 Ey:Meth K (aC 61) "step" (aC 27)
 uF:fj K "live_step" "Turn.live_step" iE (aC 28) (aL 28)
 uG:Binds K (aL 28) ["self","state","sign"] []
 uH:Meth K (aC 61) "live_step" (aC 28)
 oH:fj K "mark_behind" "Marker.mark_behind" fB (aC 29) (aL 29)
 oJ:Binds K (aL 29) ["self","mark","sign"] []
 oK:Meth K (aC 62) "mark_behind" (aC 29)
 nj:fj K "has_read_all" "Marker.has_read_all" e9 (aC 30) (aL 30)
 nk:Binds K (aL 30) ["self","mark"] []
 nq:Meth K (aC 62) "has_read_all" (aC 30)
 yV:fj K "leads" "Writer.leads" fD (aC 31) (aL 31)
 yW:Binds K (aL 31) ["self","place"] []
 yX:Meth K (aC 63) "leads" (aC 31)
 uI:fj K "is_good" "Writer.is_good" iF (aC 32) (aL 32)
 uJ:Binds K (aL 32) ["self","place"] []
 uK:Meth K (aC 63) "is_good" (aC 32)
 Ez:KH K "search" "search" fE (aC 33) (aL 33) (.ref (aC 72))
 Ug:Binds K (aL 33) ["first","searched","most"] []
 L5:mg "search"=some (.ref (aC 33))
 Br:fj K "text_to" "text_to" ud (aC 34) (aL 34)
 IZ:Binds K (aL 34) ["came","place"] []
 Ja:mg "text_to"=some (.ref (aC 34))
 Bs:fj K "cell_at" "cell_at" uf (aC 35) (aL 35)
 Jb:Binds K (aL 35) ["tokens","count"] []
 Jc:mg "cell_at"=some (.ref (aC 35))
 yY:fj K "shortest" "shortest" lV (aC 36) (aL 36)
 Ge:Binds K (aL 36) ["dialect","table"] []
 Gf:mg "shortest"=some (.ref (aC 36))
 dR:fj K "_law_cell_at" "_law_cell_at" jO (aC 37) (aL 37)
 fK:Binds K (aL 37) ["_law_script","_law_k"] []
 fL:mg "_law_cell_at"=some (.ref (aC 37))
 fZ:fj K "_law_mixed" "_law_mixed" lW (aC 38) (aL 38)
 g7:Binds K (aL 38) ["_law_number_here","_law_salt"] []
 g8:mg "_law_mixed"=some (.ref (aC 38))
 k8:fj K "_law_number" "_law_number" kX (aC 39) (aL 39)
 qf:Binds K (aL 39) ["_law_cell","_law_salt"] []
 qg:mg "_law_number"=some (.ref (aC 39))
 Bt:fj K "_law_on" "_law_on" ug (aC 40) (aL 40)
 Jd:Binds K (aL 40) ["_law_number_here","_law_cell","_law_k"] []
 Je:mg "_law_on"=some (.ref (aC 40))
 kB:fj K "_law_some" "_law_some" nN (aC 41) (aL 41)
 oM:Binds K (aL 41) ["_law_number_here","_law_many","_law_menu"] []
 oN:mg "_law_some"=some (.ref (aC 41))
 sj:fj K "_law_menus" "_law_menus" lX (aC 42) (aL 42)
 Co:Binds K (aL 42) ["_law_way"] []
 Cp:mg "_law_menus"=some (.ref (aC 42))
 oO:fj K "_law_told" "_law_told" nO (aC 43) (aL 43)
 vq:Binds K (aL 43) ["_law_cell"] []
 vt:mg "_law_told"=some (.ref (aC 43))
 kC:fj K "_law_made" "_law_made" nP (aC 44) (aL 44)
 oQ:Binds K (aL 44) ["_law_told_here"] []
 oR:mg "_law_made"=some (.ref (aC 44))
 vv:fj K "_law_open" "_law_open" nQ (aC 45) (aL 45)
 EA:Binds K (aL 45) ["_law_told_here","_law_state","_law_sign"] []
 EB:mg "_law_open"=some (.ref (aC 45))
 oS:fj K "_law_step" "_law_step" nR (aC 46) (aL 46)
 vz:Binds K (aL 46) ["_law_told_here","_law_state","_law_sign"] []
 vA:mg "_law_step"=some (.ref (aC 46))
 oU:fj K "_law_walk" "_law_walk" nS (aC 47) (aL 47)
 vB:Binds K (aL 47) ["_law_told_here","_law_text"] []
 vC:mg "_law_walk"=some (.ref (aC 47))
 oV:fj K "_law_rows" "_law_rows" nU (aC 48) (aL 48)
 vD:Binds K (aL 48) ["_law_text","_law_kinds"] []
 vE:mg "_law_rows"=some (.ref (aC 48))
 mH:fj K "_law_table" "_law_table" lY (aC 49) (aL 49)
 sF:Binds K (aL 49) ["_law_told_here","_law_cell","_law_salt","_law_most"] []
 sH:mg "_law_table"=some (.ref (aC 49))
 qh:fj K "_law_tokens" "_law_tokens" kY (aC 50) (aL 50)
 zS:Binds K (aL 50) ["_law_table_here"] []
 zU:mg "_law_tokens"=some (.ref (aC 50))
 vF:fj K "_law_live" "_law_live" nV (aC 51) (aL 51)
 EC:Binds K (aL 51) ["_law_told_here","_law_spot"] []
 ED:mg "_law_live"=some (.ref (aC 51))
 sI:fj K "_law_signs" "_law_signs" jv (aC 52) (aL 52)
 Cq:Binds K (aL 52) ["_law_told_here","_law_table_here"] []
 Cr:mg "_law_signs"=some (.ref (aC 52))
 sL:fj K "_law_after" "_law_after" lZ (aC 53) (aL 53)
 Cs:Binds K (aL 53) ["_law_told_here","_law_place","_law_sign","_law_tokens_here"] []
 Ct:mg "_law_after"=some (.ref (aC 53))
 qi:fj K "_law_search" "_law_search" iM (aC 54) (aL 54)
 zV:Binds K (aL 54) ["_law_told_here","_law_table_here"] []
 zW:mg "_law_search"=some (.ref (aC 54))
 oW:fj K "_law_cell_of" "_law_cell_of" jP (aC 55) (aL 55)
 yZ:Binds K (aL 55) ["_law_table_here","_law_many"] []
 za:mg "_law_cell_of"=some (.ref (aC 55))
 j3:fj K "_law_written" "_law_written" jQ (aC 56) (aL 56)
 oX:Binds K (aL 56) ["_law_made_here","_law_table_here"] []
 oY:mg "_law_written"=some (.ref (aC 56))
 g9:fj K "_law_right" "_law_right" jw (aC 57) (aL 57)
 jy:Binds K (aL 57) ["_law_made_here","_law_told_here","_law_table_here"] []
 jz:mg "_law_right"=some (.ref (aC 57))
 sM:fj K "_law_great" "_law_great" jx (aC 58) (aL 58)
 Cu:Binds K (aL 58) [] []
 Cv:mg "_law_great"=some (.ref (aC 58))
 Uh:fj K "law" "law" rB (aC 59) (aL 59)
 aa5:Binds K (aL 59) ["_law_script"] []
 aa6:mg "law"=some (.ref (aC 59))
 aI:GR K (aC 60)
 Bu:mg "Dialect"=some (.ref (aC 60))
 Bv:Mk K (aC 60) (aC 2)
 bY:d8 K (aC 60) "parts"
 bZ:d8 K (aC 60) "quotes"
 bQ:d8 K (aC 60) "frees"
 fM:d8 K (aC 60) "twin"
 dS:d8 K (aC 60) "wide"
 dU:d8 K (aC 60) "thin"
 eV:d8 K (aC 60) "stray"
 iO:GR K (aC 61)
 QW:mg "Turn"=some (.ref (aC 61))
 QX:Mk K (aC 61) (aC 5)
 bN:d8 K (aC 61) "dialect"
 iJ:GR K (aC 62)
 L6:mg "Marker"=some (.ref (aC 62))
 L7:Mk K (aC 62) (aC 6)
 iP:d8 K (aC 62) "turn"
 eX:d8 K (aC 62) "tokens"
 f6:GR K (aC 63)
 L8:mg "Writer"=some (.ref (aC 63))
 Ma:Mk K (aC 63) (aC 9)
 eY:d8 K (aC 63) "marker"
 gB:d8 K (aC 63) "tokens"
 ia:d8 K (aC 63) "usual"
 vG:∃ds,Vals [V.non] ds/\Binds K (aL 33) ["first","searched","most"] ds
 zb:mg "DialectError"=some (.ref (aC 64))
 cS:vg K (aC 64) (aC 65) BV none
 wJ:XIn K (aC 64)
 vH:mg "NoWriting"=some (.ref (aC 66))
 dZ:vg K (aC 66) (aC 67) (.ref (aC 64)::BV) (some (.ref (aC 10)))
 zX:W.keepIn K (.ref (aC 66))=true
 sN:∃oI:Obj,K.lookup (aC 10)=some oI/\oI.cls=.type "function"
 lJ:Nt K (aC 66) "row"
 kD:Nt K (aC 66) "cell"
 Cw:mg "all"=none
 Cy:mg "bool"=none
 Cz:mg "enumerate"=none
 zc:mg "int"=none
 cy:mg "isinstance"=none
 bS:mg "len"=none
 CA:mg "list"=none
 Mb:mg "max"=none
 QY:mg "ord"=none
 iW:mg "range"=none
 EE:mg "reversed"=none
 Gg:mg "str"=none
 Mc:mg "sum"=none
 Me:mg "tuple"=none
 mJ:∃t,mg "LINE"=some (.str (cV 0) t)
 kE:(cV 0)=("\n":Str)
 CB:∃t,mg "MOST_ROWS"=some (.int 60 t)
 zY:∃t,mg "MOST_CELLS"=some (.int 20 t)
 ic:∃t,mg "MOST_SIGNS_IN_CELLS"=some (.int 400 t)
 oZ:mg "START"=some (.ref (aC 68))
 o4:∃(o:Obj)(its:Array Value)(n:Nat),K.lookup (aC 68)=some o/\o.cls=.type "tuple"/\o.data=.seq its n/\its.size<=sizeLine/\Vals [.str ("row":Str),.str ("":Str)] its.toList
 HG:mg "PART"=some (.ref (aC 69))
 HH:∃(o:Obj)(its:Array Value)(n:Nat),K.lookup (aC 69)=some o/\o.cls=.type "tuple"/\o.data=.seq its n/\its.size<=sizeLine/\Vals [.str ("part":Str),.str ("":Str)] its.toList
 Mf:mg "END"=some (.ref (aC 70))
 Mg:∃(o:Obj)(its:Array Value)(n:Nat),K.lookup (aC 70)=some o/\o.cls=.type "tuple"/\o.data=.seq its n/\its.size<=sizeLine/\Vals [.str ("end":Str),.str ("":Str)] its.toList
section
variable{P:Program}{w:World}{K:W.Frag}{mg:Str->Option Value}{base:Heap}{aC:Nat->Addr}{aL:Nat->FuncData}{cV:Nat->Str}
def wK:Sp:=λvs H Q _=>∃c:Nat,vs=[.str (sg c)]/\Pn c/\Q (.bl true) H
section
variable(T:Txt K mg aC aL cV)
include T
theorem mZ:br P w K mg base fO 1 (aC 0) (aL 0) ["sign"] wK:=by
 refine T.jX.ok mU (λvs H Q E h=>?_) (λcdv A outer s H vs Q E hr h=>?_)
 ·obtain⟨c,rfl,_⟩:=h;rfl
 ·have hu:=bf hr
  have gj:=hr.aO
  obtain⟨c,rfl,⟨h1,h2,h3⟩,k⟩:=h
  refine⟨_,(ah (dg 1 mU.nd (jC Ke T.QY (af (pv 0) ai)))
   (ak (ay (tY (yp Kc (pv 1) aq) (tY (yp Ka (pv 1) aq) (qy (yp u9 (pv 1) aq))))))),?_⟩
  refine⟨_,O,_,O,O,?_⟩
  refine⟨_,O,_,_,O,O,_,O,T5 (by show(32:Int)<=((c:Nat):Int);omega) ?_⟩
  refine⟨_,O,_,_,O,O,_,O,T5 (by show((c:Nat):Int)<=126;omega) ?_⟩
  refine⟨_,O,O,?_⟩
  have e:¬(V.int ((c:Nat):Int)=V.int 37):=λz=>h3 (by injection z with z;omega)
  have e2:(!decide (V.int ((c:Nat):Int)=V.int 37))=true:=by rw[abB e];rfl
  show Q (.bl (!decide (V.int ((c:Nat):Int)=V.int 37))) H
  rw[e2]
  exact k
def pY:Sp:=λvs H Q _=>∃(z:Str)(lo hi:Int),vs=[.str z,.int lo,.int hi]/\Sg z/\lo<=z.length/\(z.length:Int)<=hi/\z.length<=1000/\∀H',aH H H'->Q (.bl true) H'
theorem pZ:br P w K mg base fO 2 (aC 1) (aL 1) ["thing","least","most"] pY:=by
 have j5:=@mZ P w K mg base aC aL cV T
 refine T.eO.ok pV (λvs H Q E h=>?_) (λcdv A outer s H vs Q E hr h=>?_)
 ·obtain⟨z,lo,hi,rfl,_⟩:=h;rfl
 ·have hu:=bf hr
  have gj:=hr.aO
  obtain⟨z,lo,hi,rfl,g,hlo,hhi,hz,k⟩:=h
  have Gh:z.length<=sizeLine:=abn hz (by decide)
  refine⟨_,(ah (aK (PW.pt (gk (cG (bJ (jC (fT K rfl) T.cy (af (pv 0) (af (NG "str" T.Gg) ai))))) (gk (di DC (jC bB T.bS (af (pv 0) ai)) (pv 1)) (eZ (di qW (jC bB T.bS (af (pv 0) ai)) (pv 2)))))) (ak (ay gR)) aA)
   (ak (ay (jC (pO K rfl rfl) T.Cw (af (fS rfl (show bD ["thing","least","most"] (av eo) ["sign","thing"] 1 [0] _ from Hl) (lR (pv 0)) (λ_ _ _ _=>(fu 0 (show(["sign","thing"]:List Str).Nodup by decide +kernel))) (λ_ _ _ _=>eg) (λ_ _ _ _=>(tY (fP j5 hr T.ow T.jX.kp T.ou (af (pv 0) ai)) (qy (yp aZ (gc K rfl PySem.F.plainAttrs_str PySem.F.slot_str_count PySem.F.type_str_count KJ (pv 1) (af (pv 0) ai)) aq))))) ai))))),?_⟩
  refine⟨_,O,_,_,_,true,O,.str _,.inl ⟨_,O,O⟩,true,O,cJ ?_⟩
  refine⟨_,O,z,O,Gh,_,O,_,_,O,O,_,O,Ln (by omega) ?_⟩
  refine⟨_,O,z,O,Gh,_,O,_,_,O,O,_,O,Ln (by omega) ?_⟩
  refine⟨_,O,z,O,λD hD=>?_⟩
  have hsz:z.cps.toList.length=z.length:=by rw[abt];rfl
  refine rj (λi ys τ H2=>(∃v,τ=[v,some (.str z)])/\aH H H2/\H2 D=some (.lst ys)/\ys=(List.replicate i true).map V.bl) ⟨⟨_,rfl⟩,au hD,aj,rfl⟩ (λi ys τ H2 _ p=>p.2.2.1) ?_ ?_
  ·rintro i c ys τ H2 hi ⟨⟨v,rfl⟩,s2,hl,rfl⟩
   have hc:c∈z.cps.toList:=abq hi
   have hil:i<z.cps.toList.length:=(abi.mp hi).1
   refine qB ?_
   refine⟨_,O,c,O,g.pr c hc,true,O,j9 ?_⟩
   refine⟨_,O,O,_,O,z,c,O,O,O,?_⟩
   have e:decide (V.int (PyProof.Rows.cnt c z.cps.toList)=V.int 1)=true:=by rw[G9 g.nd hc];exact abo rfl
   rw[e]
   refine⟨hl,?_,⟨_,O⟩,aR hD s2,aj,?_⟩
   ·rw[abg,acd]
    exact abA (show i<1001 by omega) (by decide)
   ·rw[List.replicate_succ',abx];rfl
  ·rintro ys τ H2 ⟨⟨v,rfl⟩,s2,hl,rfl⟩
   refine⟨D,List.replicate _ true,O,bw.of hl,?_⟩
   have e:(List.replicate z.cps.toList.length true).all id=true:=by
    rw[abY]
    intro b hb
    exact(List.mem_replicate.mp hb).2
   rw[e]
   exact k H2 s2
def p5(C:Addr):Sp:=λvs H Q _=>∃(x dx:Addr)(p q f:Str)(b1 b2 b3 b4:Bool),vs=.ref x::gb p q f b1 b2 b3 b4/\H x=some (.ins C dx [])/\Gd p q f/\∀H',H' x=some (.ins C dx (zI p q f b1 b2 b3 b4))->(∀b o,H b=some o->b≠x->H' b=some o)->Q .non H'
theorem jo:br P w K mg base fO 3 (aC 2) (aL 2) ["self","parts","quotes","frees","twin","wide","thin","stray"] (p5 (aC 60)):=by
 have gH:=@pZ P w K mg base aC aL cV T
 refine T.qL.ok jm (λvs H Q E h=>?_) (λcdv A outer s H vs Q E hr h=>?_)
 ·obtain⟨x,dx,p,q,f,b1,b2,b3,b4,rfl,_⟩:=h;rfl
 ·have hu:=bf hr
  have gj:=hr.aO
  obtain⟨x,dx,p,q,f,b1,b2,b3,b4,rfl,hx,g,k⟩:=h
  have hp1:=g.p1;have hp3:=g.p3;have hq2:=g.q2;have hf2:=g.f2
  refine⟨_,(ah (aK (cG (bJ (fP gH hr T.gG T.eO.kp T.gF (af (pv 1) (af aq (af aq ai)))))) (ak ly) aA)
   (ah (aK (cG (bJ (fP gH hr T.gG T.eO.kp T.gF (af (pv 2) (af aq (af aq ai)))))) (ak ly) aA)
   (ah (aK (cG (bJ (fP gH hr T.gG T.eO.kp T.gF (af (pv 3) (af aq (af aq ai)))))) (ak ly) aA)
   (ah (dO abL rfl (Na K rfl (aB (af (pv 4) (af (pv 5) (af (pv 6) (af (pv 7) ai)))))) (fu 8 jm.nd)
   (ak (aK (cG (bJ (jC (fT K rfl) T.cy (af (pv 8) (af (NG "bool" T.Cy) ai))))) (ak ly) aA)))
   (ah (iC (pv 0) (pv 1) rfl)
   (ah (iC (pv 0) (pv 2) rfl)
   (ah (iC (pv 0) (pv 3) rfl)
   (ah (iC (pv 0) (pv 4) rfl)
   (ah (iC (pv 0) (pv 5) rfl)
   (ah (iC (pv 0) (pv 6) rfl)
   (ak (iC (pv 0) (pv 7) rfl)))))))))))),?_⟩
  refine⟨_,O,p,1,3,O,g.gp,by omega,by omega,by omega,λH1 s1=>⟨true,O,cJ ?_⟩⟩
  refine⟨_,O,q,0,2,O,g.gq,by omega,by omega,by omega,λH2 s2=>⟨true,O,cJ ?_⟩⟩
  refine⟨_,O,f,0,2,O,g.gf,by omega,by omega,by omega,λH3 s3=>⟨true,O,cJ ?_⟩⟩
  refine⟨_,O,_,O,_,O,_,O,(by show 4<=sizeLine;decide),λt ht=>⟨t,O,⟨_,bz.of aj⟩,?_⟩⟩
  have Xj:aH H (upd H3 t (.tup [.bl b1,.bl b2,.bl b3,.bl b4])):=((s1.trans s2).trans s3).trans (au ht)
  have CC:(upd H3 t (.tup [.bl b1,.bl b2,.bl b3,.bl b4])) t=some (.tup [.bl b1,.bl b2,.bl b3,.bl b4]):=aj
  generalize upd H3 t (.tup [.bl b1,.bl b2,.bl b3,.bl b4])=H4 at Xj CC⊢
  refine MR (K:=K) (a:=t) (xs:=[.bl b1,.bl b2,.bl b3,.bl b4]) (λi σ H5=>H5=H4/\∃v,σ=[some (.ref x),some (.str p),some (.str q),some (.str f),some (.bl b1),some (.bl b2),some (.bl b3),some (.bl b4),v]) ⟨rfl,_,rfl⟩ (λi σ H5 _ q=>by rw[q.1];exact bz.of CC) ?_ ?_
  ·rintro i y σ H5 hi ⟨rfl,v,rfl⟩
   obtain⟨b,rfl⟩:∃b,y=V.bl b:=by
    have hi4:i<4:=(abi.mp hi).1
    match i,hi4,hi with
    | 0,_,hi=>exact⟨_,(abH hi).symm⟩
    | 1,_,hi=>exact⟨_,(abH hi).symm⟩
    | 2,_,hi=>exact⟨_,(abH hi).symm⟩
    | 3,_,hi=>exact⟨_,(abH hi).symm⟩
   refine⟨_,O,_,_,_,true,O,.bl _,.inl ⟨_,O,O⟩,true,O,cJ ?_⟩
   exact⟨O,_,O⟩
  ·rintro σ H5 ⟨rfl,v,rfl⟩
   have hx5:=Xj _ _ hx
   refine⟨_,O,_,O,x,(aC 60),dx,_,O,hx5,T.aI,T.bY,(by show 0<1000;decide),_,O,_,O,x,(aC 60),dx,_,O,aj,T.aI,T.bZ,(by show 1<1000;decide),_,O,_,O,x,(aC 60),dx,_,O,aj,T.aI,T.bQ,(by show 2<1000;decide),_,O,_,O,x,(aC 60),dx,_,O,aj,T.aI,T.fM,(by show 3<1000;decide),_,O,_,O,x,(aC 60),dx,_,O,aj,T.aI,T.dS,(by show 4<1000;decide),_,O,_,O,x,(aC 60),dx,_,O,aj,T.aI,T.dU,(by show 5<1000;decide),_,O,_,O,x,(aC 60),dx,_,O,aj,T.aI,T.eV,(by show 6<1000;decide),?_⟩
   refine k _ aj λb o e hb=>?_
   rw[aD hb,aD hb,aD hb,aD hb,aD hb,aD hb,aD hb]
   exact Xj _ _ e
def wL(C:Addr):Sp:=λvs H Q _=>∃(x dx:Addr)(p q f:Str)(b1 b2 b3 b4:Bool),vs=[.ref x]/\H x=some (.ins C dx (zI p q f b1 b2 b3 b4))/\∀t,H t=none->Q (.ref t) (upd H t (.tup (gb p q f b1 b2 b3 b4)))
theorem m5:br P w K mg base fO 1 (aC 3) (aL 3) ["self"] (wL (aC 60)):=by
 refine T.yP.ok wo (λvs H Q E h=>?_) (λcdv A outer s H vs Q E hr h=>?_)
 ·obtain⟨x,dx,p,q,f,b1,b2,b3,b4,rfl,_⟩:=h;rfl
 ·have hu:=bf hr
  have gj:=hr.aO
  obtain⟨x,dx,p,q,f,b1,b2,b3,b4,rfl,hx,k⟩:=h
  refine⟨_,(ak (ay (aB (af (aT K rfl (pv 0) rfl) (af (aT K rfl (pv 0) rfl) (af (aT K rfl (pv 0) rfl) (af (aT K rfl (pv 0) rfl) (af (aT K rfl (pv 0) rfl) (af (aT K rfl (pv 0) rfl) (af (aT K rfl (pv 0) rfl) ai)))))))))),?_⟩
  refine⟨_,O,x,(aC 60),dx,_,_,O,hx,T.aI,T.bY,O,_,O,x,(aC 60),dx,_,_,O,hx,T.aI,T.bZ,O,_,O,x,(aC 60),dx,_,_,O,hx,T.aI,T.bQ,O,_,O,x,(aC 60),dx,_,_,O,hx,T.aI,T.fM,O,_,O,x,(aC 60),dx,_,_,O,hx,T.aI,T.dS,O,_,O,x,(aC 60),dx,_,_,O,hx,T.aI,T.dU,O,_,O,x,(aC 60),dx,_,_,O,hx,T.aI,T.eV,O,(by show 7<=sizeLine;decide),λt ht=>?_⟩
  exact k t ht
def zZ(C:Addr):Sp:=λvs H Q _=>∃(t:Addr)(p q f:Str)(b1 b2 b3 b4:Bool),vs=[.ref t]/\H t=some (.tup (gb p q f b1 b2 b3 b4))/\Gd p q f/\∀(x dx:Addr)(H':Hp),H x=none->H' x=some (.ins C dx (zI p q f b1 b2 b3 b4))->aH H H'->Q (.ref x) H'
theorem Aa:br P w K mg base fO 5 (aC 4) (aL 4) ["told"] (zZ (aC 60)):=by
 have gI:=@jo P w K mg base aC aL cV T
 refine T.rP.ok zM (λvs H Q E h=>?_) (λcdv A outer s H vs Q E hr h=>?_)
 ·obtain⟨t,p,q,f,b1,b2,b3,b4,rfl,_⟩:=h;rfl
 ·have hu:=bf hr
  have gj:=hr.aO
  obtain⟨t,p,q,f,b1,b2,b3,b4,rfl,ht,g,k⟩:=h
  have hS:bz K H t (gb p q f b1 b2 b3 b4):=bz.of ht
  refine⟨_,(ah (aK (PW.pt (gk (cG (bJ (jC (nI K rfl) T.cy (af (pv 0) (af (NG "tuple" T.Me) ai))))) (eZ (di u9 (jC (aX K rfl) T.bS (af (pv 0) ai)) aq)))) (ak ly) aA)
   (ak (ay (qZ (k:=3) T.Bv gI (hr.mono (by decide)) rfl T.Bu T.jY .nil iz (af (gg K (pv 0) aq) (af (gg K (pv 0) aq) (af (gg K (pv 0) aq) (af (gg K (pv 0) aq) (af (gg K (pv 0) aq) (af (gg K (pv 0) aq) (af (gg K (pv 0) aq) ai))))))))))),?_⟩
  refine⟨_,O,t,_,_,true,O,.inl ⟨hS,O⟩,true,O,cJ ?_⟩
  refine⟨_,O,t,_,O,.inr hS,O,_,O,Tc rfl ?_⟩
  refine⟨_,O,t,_,_,_,O,O,hS,O,_,O,t,_,_,_,O,O,hS,O,_,O,t,_,_,_,O,O,hS,O,_,O,t,_,_,_,O,O,hS,O,_,O,t,_,_,_,O,O,hS,O,_,O,t,_,_,_,O,O,hS,O,_,O,t,_,_,_,O,O,hS,O,λx dx hx hdx ne=>?_⟩
  refine⟨x,dx,p,q,f,b1,b2,b3,b4,O,aj,g,λH2 h2 kp=>⟨O,k x dx H2 hx h2 λb o e=>kp b o ?_ (aN e hx)⟩⟩
  rw[aD (aN e hx),aD (aN e hdx)]
  exact e
def uM(C CT:Addr):Sp:=λvs H Q _=>∃(y dy x dx:Addr)(p q f:Str)(b1 b2 b3 b4:Bool),vs=[.ref y,.ref x]/\H y=some (.ins CT dy [])/\H x=some (.ins C dx (zI p q f b1 b2 b3 b4))/\Gd p q f/\∀H',Tn C CT H' y p q f b1 b2 b3 b4->(∀b o,H b=some o->b≠y->H' b=some o)->Q .non H'
theorem uN:br P w K mg base fO 6 (aC 5) (aL 5) ["self","dialect"] (uM (aC 60) (aC 61)):=by
 have ie:=@m5 P w K mg base aC aL cV T
 have CD:=@Aa P w K mg base aC aL cV T
 refine T.wA.ok uB (λvs H Q E h=>?_) (λcdv A outer s H vs Q E hr h=>?_)
 ·obtain⟨y,dy,x,dx,p,q,f,b1,b2,b3,b4,rfl,_⟩:=h;rfl
 ·have hu:=bf hr
  have gj:=hr.aO
  obtain⟨y,dy,x,dx,p,q,f,b1,b2,b3,b4,rfl,hy,hx,g,k⟩:=h
  refine⟨_,(ak (iC (pv 0) (fP CD hr T.Cj T.rP.kp T.Ci (af (qY (k:=1) (pv 1) T.aI T.j0 ie (hr.mono (by decide)) T.jZ .nil iz) ai)) rfl)),?_⟩
  refine⟨_,O,x,dx,_,O,hx,O,x,dx,p,q,f,b1,b2,b3,b4,O,hx,λt ht=>?_⟩
  have s1:=au (o:=HO.tup (gb p q f b1 b2 b3 b4)) ht
  refine⟨t,p,q,f,b1,b2,b3,b4,O,aj,g,λd dd H2 hd h2 s2=>?_⟩
  have s12:=s1.trans s2
  have nyd:d≠y:=λe=>by subst e;rw[s1 _ _ hy]at hd;cases hd
  refine⟨_,O,y,(aC 61),dy,_,O,s12 _ _ hy,T.iO,T.bN,(by show 0<1000;decide),?_⟩
  refine k _ ⟨⟨dy,d,dd,aj,(aD nyd).trans h2⟩⟩ λb o e hb=>(aD hb).trans (s12 _ _ e)
def qM(K:W.Frag)(C CT CM:Addr):Sp:=λvs H Q _=>∃(m dm x dx l:Addr)(ys:List V)(ts:List (Str×Str))(p q f:Str)(b1 b2 b3 b4:Bool),vs=[.ref m,.ref x,.ref l]/\H m=some (.ins CM dm [])/\H x=some (.ins C dx (zI p q f b1 b2 b3 b4))/\Gd p q f/\H l=some (.lst ys)/\Paired (c7 K H) ys ts/\∀H',IG K C CT CM H' m p q f b1 b2 b3 b4 ts->(∀b o,H b=some o->b≠m->H' b=some o)->Q .non H'
theorem qN:br P w K mg base fO 8 (aC 6) (aL 6) ["self","dialect","tokens"] (qM K (aC 60) (aC 61) (aC 62)):=by
 have wM:=@uN P w K mg base aC aL cV T
 refine T.rQ.ok qF (λvs H Q E h=>?_) (λcdv A outer s H vs Q E hr h=>?_)
 ·obtain⟨m,dm,x,dx,l,ys,ts,p,q,f,b1,b2,b3,b4,rfl,_⟩:=h;rfl
 ·have hu:=bf hr
  have gj:=hr.aO
  obtain⟨m,dm,x,dx,l,ys,ts,p,q,f,b1,b2,b3,b4,rfl,hm,hx,g,hl,tp,k⟩:=h
  refine⟨_,(ah (iC (pv 0) (qZ (k:=6) T.QX wM (hr.mono (by decide)) rfl T.QW T.wB .nil iz (af (pv 1) ai)) rfl)
   (ak (iC (pv 0) (pv 2) rfl))),?_⟩
  refine⟨_,O,λy dy hy Sb ne=>⟨y,dy,x,dx,p,q,f,b1,b2,b3,b4,O,aj,nW hy Sb hx,g,λH2 hT kp=>⟨O,?_⟩⟩⟩
  have s2:=uh hy Sb kp
  have hm2:=s2 _ _ hm
  refine⟨_,O,m,(aC 62),dm,_,O,hm2,T.iJ,T.iP,(by show 0<1000;decide),?_⟩
  refine⟨_,O,_,O,m,(aC 62),dm,_,O,aj,T.iJ,T.eX,(by show 1<1000;decide),?_⟩
  have nlm:l≠m:=λq=>by rw[q,hm]at hl;cases hl
  refine k _ ⟨dm,y,l,ys,aj,?_,(aD nlm).trans ((aD nlm).trans (s2 _ _ hl)),jT aj (jT hm2 (bW s2 tp))⟩ λb o e hb=>(aD hb).trans ((aD hb).trans (s2 _ _ e))
  refine Tn.off aj ?_ ?_ (Tn.off hm2 ?_ ?_ hT)
  ·intro d fs q;injection q with q1 q2 q3;injection q3 with q4 q5;injection q4 with q6 q7;exact absurd q6 (by decide +kernel)
  ·intro d q;injection q with q1 q2 q3;injection q3 with q4 q5;injection q4 with q6 q7;exact absurd q6 (by decide +kernel)
  ·intro d fs q;injection q with q1 q2 q3;cases q3
  ·intro d q;injection q with q1 q2 q3;cases q3
def N7:Sp:=λvs H Q _=>∃z:Str,vs=[.str z]/\z.length<=4000/\Q (.str (jl z)) H
theorem HJ:br P w K mg base fO 1 (aC 7) (aL 7) ["text"] N7:=by
 refine T.FZ.ok xT (λvs H Q E h=>?_) (λcdv A outer s H vs Q E hr h=>?_)
 ·obtain⟨z,rfl,_⟩:=h;rfl
 ·have hu:=bf hr
  have gj:=hr.aO
  obtain⟨z,rfl,Ui,k⟩:=h
  have e0:Str.ofString ""=⟨(jk []).toArray⟩:=by decide +kernel
  have e0:([some (V.str z),some (V.str ("":Str)),none]:St)=[some (.str z),some (.str ⟨(jk []).toArray⟩),none]:=by rw[e0]
  refine⟨_,(ah (dg 1 xT.nd ao)
   (ah (dO abL rfl (lR (pv 0)) (fu 2 xT.nd)
   (ak (aK (cI gS (pv 2) (pv 1) rfl) (ak (dg 1 xT.nd (aJ bF (pv 1) (pv 2)))) aA)))
   (ak (ay (pv 1))))),?_⟩
  refine⟨_,O,_,O,?_⟩
  unfold jl at k
  refine ri (λi σ H2=>H2=H/\∃v,σ=[some (.str z),some (.str ⟨(jk (z.cps.toList.take i)).toArray⟩),v]) ⟨rfl,none,by rw[List.take_zero];exact e0⟩ ?_ ?_
  ·rintro i c σ H2 hi ⟨rfl,v,rfl⟩
   have hl:(jk (z.cps.toList.take i)).length<=4000:=by
    refine abn (A9 _) ?_
    rw[abM,abt]
    have:z.cps.size<=4000:=Ui
    omega
   refine⟨_,O,_,O,_,_,O,O,_,O,?_⟩
   refine bg (λha=>?_) (λha=>?_)
   ·have ha':away ⟨(jk (z.cps.toList.take i)).toArray⟩ c=true:=ha
    refine⟨_,O,_,O,_,_,O,O,?_,O,some (.str (sg c)),?_⟩
    ·refine abn (show _<=4001 from ?_) (by decide)
     show Array.size _+1<=4001
     rw[abm];omega
    ·rw[take_snoc hi,mj]
     unfold kq
     rw[abe ha',←G6]
     rfl
   ·have ha':¬away ⟨(jk (z.cps.toList.take i)).toArray⟩ c=true:=ha
    refine⟨O,some (.str (sg c)),?_⟩
    rw[take_snoc hi,mj]
    unfold kq
    rw[abb ha']
    rfl
  ·rintro σ H2 ⟨rfl,v,rfl⟩
   refine⟨_,O,?_⟩
   rw[abr (abf _)]
   exact k
def qO(C:Addr):Sp:=λvs H Q _=>∃(x dx:Addr)(p q f:Str)(b1 b2 b3 b4:Bool),vs=[.ref x]/\H x=some (.ins C dx (zI p q f b1 b2 b3 b4))/\Gd p q f/\Q (.str (jl ((p++q)++f))) H
theorem qP:br P w K mg base fO 2 (aC 8) (aL 8) ["self"] (qO (aC 60)):=by
 have Gi:=@HJ P w K mg base aC aL cV T
 refine T.rS.ok qH (λvs H Q E h=>?_) (λcdv A outer s H vs Q E hr h=>?_)
 ·obtain⟨x,dx,p,q,f,b1,b2,b3,b4,rfl,_⟩:=h;rfl
 ·have hu:=bf hr
  have gj:=hr.aO
  obtain⟨x,dx,p,q,f,b1,b2,b3,b4,rfl,hx,g,k⟩:=h
  have hp3:=g.p3;have hq2:=g.q2;have hf2:=g.f2
  refine⟨_,(ak (ay (fP Gi hr T.LY T.FZ.kp T.LX (af (aJ bF (aJ bF (aT K rfl (pv 0) rfl) (aT K rfl (pv 0) rfl)) (aT K rfl (pv 0) rfl)) ai)))),?_⟩
  refine⟨_,O,x,(aC 60),dx,_,_,O,hx,T.aI,T.bY,O,_,O,x,(aC 60),dx,_,_,O,hx,T.aI,T.bZ,O,_,_,O,O,abn (show p.length+q.length<=5 by omega) (by decide),_,O,x,(aC 60),dx,_,_,O,hx,T.aI,T.bQ,O,_,_,O,O,?_,_,O,?_,k⟩
  ·rw[bE];exact abn (show p.length+q.length+f.length<=7 by omega) (by decide)
  ·rw[bE,bE];omega
def qQ(K:W.Frag)(C CT CM CW:Addr):Sp:=λvs H Q _=>∃(z dz x dx l:Addr)(ys:List V)(ts:List (Str×Str))(p q f:Str)(b1 b2 b3 b4:Bool),vs=[.ref z,.ref x,.ref l]/\H z=some (.ins CW dz [])/\H x=some (.ins C dx (zI p q f b1 b2 b3 b4))/\Gd p q f/\H l=some (.lst ys)/\Paired (c7 K H) ys ts/\∀H',QF K C CT CM CW H' z p q f b1 b2 b3 b4 ts->(∀b o,H b=some o->b≠z->H' b=some o)->Q .non H'
theorem qR:br P w K mg base fO 10 (aC 9) (aL 9) ["self","dialect","tokens"] (qQ K (aC 60) (aC 61) (aC 62) (aC 63)):=by
 have sO:=@qP P w K mg base aC aL cV T
 have sP:=@qN P w K mg base aC aL cV T
 refine T.rW.ok qI (λvs H Q E h=>?_) (λcdv A outer s H vs Q E hr h=>?_)
 ·obtain⟨z,dz,x,dx,l,ys,ts,p,q,f,b1,b2,b3,b4,rfl,_⟩:=h;rfl
 ·have hu:=bf hr
  have gj:=hr.aO
  obtain⟨z,dz,x,dx,l,ys,ts,p,q,f,b1,b2,b3,b4,rfl,hz,hx,g,hl,tp,k⟩:=h
  refine⟨_,(ah (iC (pv 0) (qZ (k:=8) T.L7 sP (hr.mono (by decide)) rfl T.L6 T.rR .nil iz (af (pv 1) (af (pv 2) ai))) rfl)
   (ah (iC (pv 0) (pv 2) rfl)
   (ak (iC (pv 0) (aJ bF (aJ bF (qY (k:=2) (pv 1) T.aI T.rV sO (hr.mono (by decide)) T.rT .nil iz) (lS rfl T.mJ.choose_spec)) ao) rfl)))),?_⟩
  refine⟨_,O,_,O,λm dm hm VT ne=>⟨m,dm,x,dx,l,ys,ts,p,q,f,b1,b2,b3,b4,O,aj,nW hm VT hx,g,nW hm VT hl,bW (Ba hm VT) tp,λH2 hM kp=>⟨O,?_⟩⟩⟩
  have s2:=uh hm VT kp
  have hz2:=s2 _ _ hz
  refine⟨_,O,z,(aC 63),dz,_,O,hz2,T.f6,T.eY,(by show 0<1000;decide),?_⟩
  refine⟨_,O,_,O,z,(aC 63),dz,_,O,aj,T.f6,T.gB,(by show 1<1000;decide),?_⟩
  have nx:x≠z:=λq=>by rw[q,hz]at hx;injection hx with hx;injection hx with h1 h2 h3;cases h3
  have nl:l≠z:=λq=>by rw[q,hz]at hl;cases hl
  have Uj:=(aD (o:=HO.ins (aC 63) dz [("marker",V.ref m),("tokens",V.ref l)]) nx).trans ((aD (o:=HO.ins (aC 63) dz [("marker",V.ref m)]) nx).trans (s2 _ _ hx))
  have sl:=uw ((p++q)++f)
  have a1:=bE p q
  have a2:=bE (p++q) f
  have hp3:=g.p3;have hq2:=g.q2;have hf2:=g.f2
  have zl:(cV 0).length=1:=by rw[T.kE];decide +kernel
  have sp1:(" ":Str).length=1:=by decide +kernel
  have a3:=bE (jl ((p++q)++f)) (cV 0)
  have Uk:1000<=sizeLine:=by decide
  refine⟨_,O,_,_,_,O,Uj,O,_,_,_,_,_,_,_,_,_,O,Uj,g,_,_,O,O,by omega,_,_,O,O,by omega,_,O,_,_,_,_,O,aj,T.f6,T.ia,(by show 2<1000;decide),k _ ?_ λb o e hb=>(aD hb).trans ((aD hb).trans ((aD hb).trans (s2 _ _ e)))⟩
  have h3:(upd H2 z (HO.ins (aC 63) dz [("marker",V.ref m)])) z=some (HO.ins (aC 63) dz [("marker",V.ref m)]):=aj
  have h4:(upd (upd H2 z (HO.ins (aC 63) dz [("marker",V.ref m)])) z (HO.ins (aC 63) dz [("marker",V.ref m),("tokens",V.ref l)])) z=some (HO.ins (aC 63) dz [("marker",V.ref m),("tokens",V.ref l)]):=aj
  refine⟨dz,m,l,ys,?_,IG.off h4 ?_ ?_ ?_ (IG.off h3 ?_ ?_ ?_ (IG.off hz2 ?_ ?_ ?_ hM)),(aD nl).trans ((aD nl).trans ((aD nl).trans (s2 _ _ hl))),jT h4 (jT h3 (jT hz2 (bW s2 tp)))⟩
  ·rw[T.kE];exact aj
  ·intro y l q;injection q with q1 q2;injection q1 with q3 q4;exact absurd q3 (by decide +kernel)
  ·intro d q;injection q with q1 q2;injection q1 with q3 q4;exact absurd q3 (by decide +kernel)
  ·intro q;injection q with q1 q2;injection q1 with q3 q4;exact absurd q3 (by decide +kernel)
  ·intro y l q;injection q with q1 q2;injection q1 with q3 q4;exact absurd q3 (by decide +kernel)
  ·intro d q;injection q with q1 q2;injection q1 with q3 q4;exact absurd q3 (by decide +kernel)
  ·intro q;injection q with q1 q2;injection q1 with q3 q4;exact absurd q3 (by decide +kernel)
  ·intro y l q;cases q
  ·intro d q;cases q
  ·intro q;cases q
def nt(CN:Addr):Sp:=λvs H Q _=>∃(ea:Addr)(r c:Int),vs=[.ref ea,.int r,.int c]/\H ea=some (Iv ea (.ref CN) none)/\r.natAbs.log2<1920/\c.natAbs.log2<1920/\∀d H',H d=none->d≠ea->H' ea=some (Iv ea (.ref CN) (some d))->H' d=some (Ny d (Sd r c))->(∀b,b≠ea->b≠d->H' b=H b)->Q .non H'
theorem nu:br P w K mg base fO 1 (aC 10) (aL 10) ["self","row","cell"] (nt (aC 66)):=by
 refine T.oA.ok ni (λvs H Q E h=>?_) (λcdv A outer s H vs Q E hr h=>?_)
 ·obtain⟨ea,r,c,rfl,_⟩:=h;rfl
 ·have hu:=bf hr
  have gj:=hr.aO
  obtain⟨ea,r,c,rfl,vZ,hr0,hc0,k⟩:=h
  refine⟨_,(ah (d7 (Lg rfl T.zb T.wJ T.dZ (.inr ⟨_,_,O,T.cS⟩) (af (pv 0) (af (Iw (xO ao (xO (Le (pv 2)) (xO ao (xO (Le (pv 1)) Qt))))) ai))))
   (ah (Lh rfl T.dZ (.inr ⟨_,_,rfl,T.cS⟩) T.lJ (pv 0) (pv 1) rfl)
   (ak (Li T.dZ (.inr ⟨_,_,rfl,T.cS⟩) T.kD (pv 0) (pv 2) rfl)))),?_⟩
  refine⟨_,O,_,O,by decide +kernel,_,O,.inl ⟨c,O,hc0⟩,λz1 l1=>⟨_,O,l1,_,O,by decide +kernel,_,O,.inl ⟨r,O,hr0⟩,λz2 l2=>⟨_,O,l2,λzz=>?_⟩⟩⟩
  refine⟨ea,none,_,O,vZ,?_⟩
  refine⟨_,O,_,O,ea,O,vZ,λd hd=>?_⟩
  have nd:d≠ea:=λz=>by rw[z,vZ]at hd;cases hd
  refine⟨_,O,_,O,ea,d,_,O,(aD (ab9 nd)).trans aj,aj,(by show 1<1000;decide),?_⟩
  refine k d _ hd nd ((aD (ab9 nd)).trans ((aD (ab9 nd)).trans aj)) aj λb h1 h2=>?_
  rw[aD h2,aD h2,aD h1]
def qS:Sp:=λvs H Q _=>∃z:Str,vs=[.str z]/\bH z/\z.length<=2000/\∀H',aH H H'->Q (.bl true) H'
theorem qT:br P w K mg base fO 2 (aC 11) (aL 11) ["text"] qS:=by
 have j5:=@mZ P w K mg base aC aL cV T
 refine T.ku.ok qJ (λvs H Q E h=>?_) (λcdv A outer s H vs Q E hr h=>?_)
 ·obtain⟨z,rfl,_⟩:=h;rfl
 ·have hu:=bf hr
  have gj:=hr.aO
  obtain⟨z,rfl,g,hz,k⟩:=h
  refine⟨_,(ak (ay (jC (pO K rfl rfl) T.Cw (af (fS rfl (show bD ["text"] (av fm) ["sign"] 1 [] _ from Hl) (lR (pv 0)) (λ_ _ _ _=>(fu 0 IA)) (λ_ _ _ _=>eg) (λ_ _ _ _=>(J5 (yp aZ (pv 0) (lS rfl T.mJ.choose_spec)) (qy (fP j5 hr T.ow T.jX.kp T.ou (af (pv 0) ai)))))) ai)))),?_⟩
  refine⟨_,O,z,O,λD hD=>?_⟩
  have hsz:z.cps.toList.length=z.length:=by rw[abt];rfl
  refine rj (λi ys τ H2=>(∃v,τ=[v])/\aH H H2/\H2 D=some (.lst ys)/\ys=(List.replicate i true).map V.bl) ⟨⟨_,rfl⟩,au hD,aj,rfl⟩ (λi ys τ H2 _ p=>p.2.2.1) ?_ ?_
  ·rintro i c ys τ H2 hi ⟨⟨v,rfl⟩,s2,hl,rfl⟩
   have hc:c∈z.cps.toList:=abq hi
   have hil:i<z.cps.toList.length:=(abi.mp hi).1
   refine qB ?_
   have fin:∀B:Prop,B=B->H2 D=some (.lst ((List.replicate i true).map V.bl))/\((List.replicate i true).map V.bl).length<sizeLine/\(∃v,[some (V.str (sg c))]=[v])/\aH H (upd H2 D (.lst ((List.replicate i true).map V.bl++[.bl true])))/\(upd H2 D (.lst ((List.replicate i true).map V.bl++[.bl true]))) D=some (.lst ((List.replicate i true).map V.bl++[.bl true]))/\(List.replicate i true).map V.bl++[.bl true]=(List.replicate (i+1) true).map V.bl:=λ_ _=>by
    refine⟨hl,?_,⟨_,O⟩,aR hD s2,aj,?_⟩
    ·rw[abg,acd]
     exact abA (show i<2001 by omega) (by decide)
    ·rw[List.replicate_succ',abx];rfl
   refine⟨_,O,O,_,O,bg (λ_=>?_) (λh=>?_)⟩
   ·exact fin True rfl
   ·have hp:Pn c:=(g c hc).resolve_left (sgL T.kE h)
    exact⟨_,O,c,O,hp,fin True rfl⟩
  ·rintro ys τ H2 ⟨⟨v,rfl⟩,s2,hl,rfl⟩
   refine⟨D,List.replicate _ true,O,bw.of hl,?_⟩
   have e:(List.replicate z.cps.toList.length true).all id=true:=by
    rw[abY]
    intro b hb
    exact(List.mem_replicate.mp hb).2
   rw[e]
   exact k H2 s2
def Gj:Sp:=λvs H Q _=>∃z:Str,vs=[.str z]/\bH z/\z.length<=400/\∀H',aH H H'->Q (.bl true) H'
theorem Gk:br P w K mg base fO 3 (aC 12) (aL 12) ["thing"] Gj:=by
 have sQ:=@qT P w K mg base aC aL cV T
 refine T.Bp.ok FU (λvs H Q E h=>?_) (λcdv A outer s H vs Q E hr h=>?_)
 ·obtain⟨z,rfl,_⟩:=h;rfl
 ·have hu:=bf hr
  have gj:=hr.aO
  obtain⟨z,rfl,g,hz,k⟩:=h
  refine⟨_,(ah (aK (PW.pt (gk (cG (bJ (jC (fT K rfl) T.cy (af (pv 0) (af (NG "str" T.Gg) ai))))) (eZ (di qW (jC bB T.bS (af (pv 0) ai)) (xM rfl T.ic.choose_spec))))) (ak (ay gR)) aA)
   (ak (ay (fP sQ hr T.rZ T.ku.kp T.rY (af (pv 0) ai))))),?_⟩
  refine⟨_,O,_,_,_,true,O,.str _,.inl ⟨_,O,O⟩,true,O,cJ ?_⟩
  refine⟨_,O,z,O,abn hz (by decide),_,_,O,O,_,O,Ln (by omega) ?_⟩
  exact⟨_,O,z,O,g,by omega,k⟩
def Jf(K:W.Frag):Sp:=λvs H Q _=>∃(a:Addr)(r:List Str),vs=[.ref a]/\H a=some (.lst (r.map V.str))/\(∀c∈r,bH c)/\(lens r).sum<=400/\r.length<=1000/\∀H',aH H H'->Q (.bl (B9 r)) H'
theorem Jg:br P w K mg base fO 4 (aC 13) (aL 13) ["thing"] (Jf K):=by
 have Jh:=@Gk P w K mg base aC aL cV T
 refine T.Er.ok IU (λvs H Q E h=>?_) (λcdv A outer s H vs Q E hr h=>?_)
 ·obtain⟨a,r,rfl,_⟩:=h;rfl
 ·have hu:=bf hr
  have gj:=hr.aO
  obtain⟨a,r,rfl,ha,g,hs,hrl,k⟩:=h
  have hml:(r.map V.str).length=r.length:=abg ..
  refine⟨_,(ah (aK (PW.pt (gk (cG (bJ (jC (nI K rfl) T.cy (af (pv 0) (af (NG "list" T.CA) ai))))) (gk (di DC (jC (aX K rfl) T.bS (af (pv 0) ai)) aq) (eZ (di qW (jC (aX K rfl) T.bS (af (pv 0) ai)) (xM rfl T.zY.choose_spec)))))) (ak (ay gR)) aA)
   (ak (ay (jC (pO K rfl rfl) T.Cw (af (fS rfl (show bD ["thing"] (av rA) ["cell"] 1 [] _ from Hl) (cQ K rfl (pv 0)) (λ_ _ _ _=>(fu 0 IA)) (λ_ _ _ _=>eg) (λ_ _ _ _=>(fP Jh hr T.IW T.Bp.kp T.IV (af (pv 0) ai)))) ai))))),?_⟩
  refine⟨_,O,a,_,_,true,O,.inr ⟨bw.of ha,O⟩,true,O,cJ ?_⟩
  refine⟨_,O,a,_,O,.inl (bw.of ha),_,_,O,O,_,O,TL (λh1=>?_) (λh1=>?_)⟩
  ·rw[LH (by omega)]at k
   exact j9 (k H (aH.refl _))
  refine⟨_,O,a,_,O,.inl (bw.of ha),_,_,O,O,_,O,TL (λh2=>?_) (λh2=>?_)⟩
  ·rw[LH (by omega)]at k
   exact k H (aH.refl _)
  rw[LG (by omega) (by omega)]at k
  refine⟨_,O,a,O,⟨_,bw.of ha⟩,λD hD=>?_⟩
  refine gM (K:=K) (a:=a) (xs:=r.map V.str) (λi ys τ H2=>(∃v,τ=[v])/\aH H H2/\H2 D=some (.lst ys)/\ys=(List.replicate i true).map V.bl) ⟨⟨_,rfl⟩,au hD,aj,rfl⟩ (λi ys τ H2 _ p=>⟨bw.of (p.2.1 _ _ ha),p.2.2.1⟩) ?_ ?_
  ·rintro i e ys τ H2 hi ⟨⟨v,rfl⟩,s2,hl,rfl⟩
   have hil:i<(r.map V.str).length:=(abi.mp hi).1
   obtain⟨z,hz,rfl⟩:∃z∈r,e=V.str z:=by
    obtain⟨z,hz,e2⟩:=abR.mp (abq hi)
    exact⟨z,hz,e2.symm⟩
   refine qB ?_
   refine⟨_,O,z,O,g z hz,abn (rD hz) hs,λH3 s3=>⟨s3 _ _ hl,?_,⟨_,O⟩,aR hD (s2.trans s3),aj,?_⟩⟩
   ·rw[abg,acd]
    exact abA (show i<1001 by (rw[abg]at hil;omega)) (by decide)
   ·rw[List.replicate_succ',abx];rfl
  ·rintro ys τ H2 ⟨⟨v,rfl⟩,s2,hl,rfl⟩
   refine⟨D,List.replicate _ true,O,bw.of hl,?_⟩
   have e:(List.replicate (r.map V.str).length true).all id=true:=by
    rw[abY]
    intro b hb
    exact(List.mem_replicate.mp hb).2
   rw[e]
   exact k H2 s2
def wN(K:W.Frag):Sp:=λvs H Q _=>∃(a:Addr)(r:List Str),vs=[.ref a]/\H a=some (.lst (r.map V.str))/\r.length<=20/\(lens r).sum<=400/\∀H',aH H H'->Q (.int ((lens r).sum:Nat)) H'
theorem wO:br P w K mg base fO 1 (aC 14) (aL 14) ["row"] (wN K):=by
 refine T.oE.ok wu (λvs H Q E h=>?_) (λcdv A outer s H vs Q E hr h=>?_)
 ·obtain⟨a,r,rfl,_⟩:=h;rfl
 ·have hu:=bf hr
  have gj:=hr.aO
  obtain⟨a,r,rfl,ha,hr,hs,k⟩:=h
  refine⟨_,(ak (ay (jC (AS K rfl rfl) T.Mc (af (fS rfl (show bD ["row"] (av gY) ["cell"] 1 [] _ from Hl) (cQ K rfl (pv 0)) (λ_ _ _ _=>(fu 0 IA)) (λ_ _ _ _=>eg) (λ_ _ _ _=>(jC bB T.bS (af (pv 0) ai)))) ai)))),?_⟩
  refine⟨_,O,a,O,⟨_,bw.of ha⟩,λD hD=>?_⟩
  refine gM (K:=K) (a:=a) (xs:=r.map V.str) (λi ys τ H2=>(∃v,τ=[v])/\aH H H2/\H2 D=some (.lst ys)/\ys=((lens r).take i).map λn:Nat=>V.int n) ⟨⟨_,rfl⟩,au hD,aj,rfl⟩ (λi ys τ H2 _ p=>⟨bw.of (p.2.1 _ _ ha),p.2.2.1⟩) ?_ ?_
  ·rintro i e ys τ H2 hi ⟨⟨v,rfl⟩,s2,hl,rfl⟩
   rw[abZ]at hi
   cases hz:r[i]? with
   |none=>rw[hz]at hi;cases hi
   |some z =>
    rw[hz]at hi
    cases hi
    have hzr:=abq hz
    have Ui:=abn (rD hzr) hs
    refine qB ?_
    refine⟨_,O,z,O,abn Ui (by decide),hl,?_,⟨_,O⟩,aR hD s2,aj,?_⟩
    ·rw[abg,abM]
     unfold lens;rw[abg]
     exact abz (show _<=20 by omega) (by decide)
    ·rw[aQ (l:=lens r) (c:=z.length) (by unfold lens;rw[abZ,hz];rfl),abx];rfl
  ·rintro ys τ H2 ⟨⟨v,rfl⟩,s2,hl,rfl⟩
   refine⟨D,lens r,O,?_,by omega,k H2 s2⟩
   have e:(lens r).take (r.map V.str).length=lens r:=abr (by unfold lens;rw[abg,abg];exact abf _)
   rw[e]at hl
   exact bw.of hl
def EF(K:W.Frag):Sp:=λvs H Q _=>∃(a:Addr)(xs:List V)(t:List (List Str)),vs=[.ref a]/\H a=some (.lst xs)/\Paired (bC H) xs t/\QG t/\∀H',aH H H'->Q (.bl (yG t)) H'
theorem EG:br P w K mg base fO 5 (aC 15) (aL 15) ["thing"] (EF K):=by
 have Mh:=@Jg P w K mg base aC aL cV T
 have zd:=@wO P w K mg base aC aL cV T
 refine T.yS.ok Ep (λvs H Q E h=>?_) (λcdv A outer s H vs Q E hr h=>?_)
 ·obtain⟨a,xs,t,rfl,_⟩:=h;rfl
 ·have hu:=bf hr
  have gj:=hr.aO
  obtain⟨a,xs,t,rfl,ha,tr,g,k⟩:=h
  have hn:=g.n
  have hlx:=tr.length
  refine⟨_,(ah (aK (PW.pt (gk (cG (bJ (jC (nI K rfl) T.cy (af (pv 0) (af (NG "list" T.CA) ai))))) (eZ (di qW (jC (aX K rfl) T.bS (af (pv 0) ai)) (xM rfl T.CB.choose_spec))))) (ak (ay gR)) aA)
   (ah (aK (cG (bJ (jC (pO K rfl rfl) T.Cw (af (fS rfl (show bD ["thing"] (av jM) ["row"] 1 [] _ from Hl) (cQ K rfl (pv 0)) (λ_ _ _ _=>(fu 0 IA)) (λ_ _ _ _=>eg) (λ_ _ _ _=>(fP Mh hr T.L4 T.Er.kp T.LZ (af (pv 0) ai)))) ai)))) (ak (ay gR)) aA)
   (ak (ay (yp Ka (jC (AS K rfl rfl) T.Mc (af (fS rfl (show bD ["thing"] (av jM) ["row"] 1 [] _ from Hl) (cQ K rfl (pv 0)) (λ_ _ _ _=>(fu 0 IA)) (λ_ _ _ _=>eg) (λ_ _ _ _=>(fP zd hr T.yR T.oE.kp T.yQ (af (pv 0) ai)))) ai)) (xM rfl T.ic.choose_spec)))))),?_⟩
  refine⟨_,O,a,_,_,true,O,.inr ⟨bw.of ha,O⟩,true,O,cJ ?_⟩
  refine⟨_,O,a,_,O,.inl (bw.of ha),_,_,O,O,_,O,TL (λh1=>?_) (λh1=>?_)⟩
  ·have e:yG t=false:=by unfold yG;rw[abB (by omega)];rfl
   rw[e]at k
   exact k H (aH.refl _)
  refine⟨_,O,a,O,⟨_,bw.of ha⟩,λD hD=>?_⟩
  refine gM (K:=K) (a:=a) (xs:=xs) (λi ys τ H2=>(∃v,τ=[v])/\aH H H2/\H2 D=some (.lst ys)/\ys=((t.take i).map B9).map V.bl) ⟨⟨_,rfl⟩,au hD,aj,rfl⟩ (λi ys τ H2 _ p=>⟨bw.of (p.2.1 _ _ ha),p.2.2.1⟩) ?_ ?_
  ·rintro i e ys τ H2 hi ⟨⟨v,rfl⟩,s2,hl,rfl⟩
   have hil:i<xs.length:=(abi.mp hi).1
   obtain⟨r,hr,b,rfl,hb⟩:=aW tr i e hi
   have JL:=abq hr
   refine qB ?_
   refine⟨_,O,b,r,O,s2 _ _ hb,g.ok r JL,abn (pS JL) g.sum,g.rl r JL,λH3 s3=>⟨s3 _ _ hl,?_,⟨_,O⟩,aR hD (s2.trans s3),aj,?_⟩⟩
   ·rw[abg,abg,abM]
    exact abz (show _<=1000 by omega) (by decide)
   ·rw[aQ hr,abx,abx];rfl
  ·rintro ys τ H2 ⟨⟨v,rfl⟩,s2,hl,rfl⟩
   rw[hlx,abr (abf _)]at hl
   refine⟨D,t.map B9,O,bw.of hl,?_⟩
   have ea:(t.map B9).all id=t.all B9:=by rw[List.all_map];rfl
   rw[ea]
   cases hA:t.all B9 with
   |false =>
    have e:yG t=false:=by unfold yG;rw[hA,Bool.and_false]
    rw[e]at k
    exact⟨_,O,j9 (k H2 s2)⟩
   |true =>
    have hB:yG t=true:=by unfold yG;rw[hA,abo (by omega)];rfl
    have Xk:=NP g hB
    rw[hB]at k
    refine⟨true,O,cJ ?_⟩
    clear hl
    have ha2:=s2 _ _ ha
    refine⟨_,O,a,O,⟨_,bw.of ha2⟩,λE hE=>?_⟩
    refine gM (K:=K) (a:=a) (xs:=xs) (λi ys τ H3=>(∃v,τ=[v])/\aH H2 H3/\H3 E=some (.lst ys)/\ys=((t.map λr=>(lens r).sum).take i).map λn:Nat=>V.int n) ⟨⟨_,rfl⟩,au hE,aj,rfl⟩ (λi ys τ H3 _ p=>⟨bw.of (p.2.1 _ _ ha2),p.2.2.1⟩) ?_ ?_
    ·rintro i e ys τ H3 hi ⟨⟨v,rfl⟩,s3,hl,rfl⟩
     obtain⟨r,hr,b,rfl,hb⟩:=aW tr i e hi
     have JL:=abq hr
     have hil:i<xs.length:=(abi.mp hi).1
     refine qB ?_
     refine⟨_,O,b,r,O,s3 _ _ (s2 _ _ hb),(Xk.rows r JL).hi,abn (pS JL) Xk.sum,λH4 s4=>⟨s4 _ _ hl,?_,⟨_,O⟩,aR hE (s3.trans s4),aj,?_⟩⟩
     ·rw[abg,abM,abg]
      exact abz (show _<=60 by omega) (by decide)
     ·rw[aQ (l:=t.map λr=>(lens r).sum) (c:=(lens r).sum) (by rw[abZ,hr];rfl),abx];rfl
    ·rintro ys τ H3 ⟨⟨v,rfl⟩,s3,hl,rfl⟩
     have e:(t.map λr=>(lens r).sum).take xs.length=t.map λr=>(lens r).sum:=abr (by rw[abg,hlx];exact abf _)
     rw[e]at hl
     have hsum:=Xk.sum
     refine⟨E,t.map λr=>(lens r).sum,O,bw.of hl,by unfold total at hsum;omega,_,_,O,O,?_⟩
     have e2:decide ((((t.map λr=>(lens r).sum).sum:Nat):Int)<=400)=true:=abo (by unfold total at hsum;omega)
     have q:=k H3 (s2.trans s3)
     rw[←e2]at q
     exact q
def Gm(K:W.Frag)(C:Addr):Sp:=λvs H Q _=>∃(x dx s:Addr)(w u:Str)(p q f:Str)(b1 b2 b3 b4:Bool),vs=[.ref x,.ref s]/\H x=some (.ins C dx (zI p q f b1 b2 b3 b4))/\bz K H s [.str w,.str u]/\Q (.bl (cg f w u)) H
theorem Gn:br P w K mg base fO 1 (aC 16) (aL 16) ["dialect","state"] (Gm K (aC 60)):=by
 refine T.Bq.ok FW (λvs H Q E h=>?_) (λcdv A outer s H vs Q E hr h=>?_)
 ·obtain⟨x,dx,s,w,u,p,q,f,b1,b2,b3,b4,rfl,_⟩:=h;rfl
 ·have hu:=bf hr
  have gj:=hr.aO
  obtain⟨x,dx,s,w,u,p,q,f,b1,b2,b3,b4,rfl,hx,hs,k⟩:=h
  unfold cg at k
  refine⟨_,(ah (aK (PW.pt (gk (di aZ (gg K (pv 1) aq) ao) (eZ (di aZ (gg K (pv 1) aq) ao)))) (ak (ay gR)) aA)
   (ak (ay (xJ gS (gg K (pv 1) aq) (aT K rfl (pv 0) rfl) rfl)))),?_⟩
  refine⟨_,O,s,_,_,_,O,O,hs,O,O,_,O,bg (λ(h1:aU u ("":Str)=true)=>j9 ?_) (λ(h1:¬aU u ("":Str)=true)=>?_)⟩
  ·rw[abe h1]at k
   exact k
  rw[abb h1]at k
  refine⟨_,O,s,_,_,_,O,O,hs,O,O,_,O,bg (λ(h2:aU w ("doubt":Str)=true)=>?_) (λ(h2:¬aU w ("doubt":Str)=true)=>?_)⟩
  ·rw[abe h2]at k
   exact k
  rw[abb h2]at k
  exact⟨_,O,s,_,_,_,O,O,hs,O,_,O,x,(aC 60),dx,_,_,O,hx,T.aI,T.bQ,O,_,_,O,O,k⟩
def uO(K:W.Frag):Sp:=λvs H Q _=>∃(a:Addr)(r:List Str),vs=[.ref a]/\H a=some (.lst (r.map V.str))/\r.length<=20/\(lens r).sum<=400/\∀(l:Addr)(ys:List V) H',H l=none->H' l=some (.lst ys)->Paired (c7 K H') ys (c9 r)->aH H H'->Q (.ref l) H'
theorem uP:br P w K mg base fO 1 (aC 17) (aL 17) ["row"] (uO K):=by
 refine T.mW.ok fX (λvs H Q E h=>?_) (λcdv A outer s H vs Q E hr h=>?_)
 ·obtain⟨a,r,rfl,_⟩:=h;rfl
 ·have hu:=bf hr
  have gj:=hr.aO
  obtain⟨a,r,rfl,ha,hr,hs,k⟩:=h
  refine⟨_,(ah (dg 1 fX.nd (bM ai))
   (ah (dO abL rfl (KO K rfl rfl T.Cz (af (pv 0) ai)) (fV K rfl 2 rfl (aP (fu 2 fX.nd) (aP (fu 3 fX.nd) fQ)))
   (ah (aK (di qW (pv 2) aq) (ak (d7 (gc K rfl abQ abU abV cN (pv 1) (af (jt rfl T.HG) ai)))) aA)
   (ak (d7 (gc K rfl abQ PySem.F.slot_list_extend PySem.F.type_list_extend AQ (pv 1) (af (fS rfl (show bD ["row","tokens","place","cell"] (av gA) ["sign"] 1 [] _ from Hl) (lR (pv 3)) (λ_ _ _ _=>(fu 0 IA)) (λ_ _ _ _=>eg) (λ_ _ _ _=>(aB (af ao (af (pv 0) ai))))) ai))))))
   (ah (d7 (gc K rfl abQ abU abV cN (pv 1) (af (jt rfl T.Mf) ai)))
   (ak (ay (pv 1)))))),?_⟩
  refine⟨by decide,λl hl=>?_⟩
  have s0:=au (o:=HO.lst []) hl
  have Mi:∀n,n<=r.length->(gm r n).length<=420:=λn hn=>by
   have:=rF r n hn
   have h2:(lens (r.take n)).sum<=(lens r).sum:=by
    unfold lens;rw[List.map_take];exact kh _ _
   omega
  refine⟨_,O,a,O,⟨_,bw.of (s0 _ _ ha)⟩,?_⟩
  refine KP (K:=K) (a:=a) (xs:=r.map V.str) (λi σ H2=>(∃v1 v2,σ=[some (.ref a),some (.ref l),v1,v2])/\aH H H2/\∃ys,H2 l=some (.lst ys)/\Paired (c7 K H2) ys (gm r i)) ⟨⟨_,_,rfl⟩,s0,[],aj,.nil⟩ (λi σ H2 _ q=>bw.of (q.2.1 _ _ ha)) ?_ ?_
  ·rintro i e t σ H2 hi ht ⟨⟨v1,v2,rfl⟩,s2,ys,hy,hp⟩
   have hil:i<r.length:=by
    have:=(abi.mp hi).1
    rwa [abg]at this
   rw[abZ]at hi
   cases hz:r[i]? with
   |none=>rw[hz]at hi;cases hi
   |some z =>
    rw[hz]at hi
    cases hi
    have Ui:z.length<=400:=abn (rD (abq hz)) hs
    have st:=au (o:=HO.tup [.int (i:Int),.str z]) ht
    have hb:=Mi i (by omega)
    have hyl:=hp.length
    refine⟨t,_,O,bz.of aj,O,_,_,O,_,_,O,O,?_⟩
    have hy1:=st _ _ hy
    have hp1:=aE (λa b h=>c7.mono st h) hp
    have Se:=s2.trans st
    generalize upd H2 t (HO.tup [.int (i:Int),.str z])=H3 at st hy1 hp1 Se⊢
    clear hp hy s2 st
    refine pQ (t:=J6 _ _ _) (λσ' H'=>σ'=[some (.ref a),some (.ref l),some (.int (i:Int)),some (.str z)]/\aH H H'/\∃ws,H' l=some (.lst ws)/\Paired (c7 K H') ws (gm r i++(if i=0 then [] else [dY]))) ?_ (λgo=>?_)
    rotate_left
    ·refine⟨_,O,_,_,O,O,_,O,bg (λh=>?_) (λh=>?_)⟩
     ·have h0:(0:Int)<i:=abF h
      refine⟨_,O,.inl ⟨O,_,bw.of hy1⟩,l,ys,_,O,O,hy1,abz (show ys.length<=420 by omega) (by decide),go _ _ ⟨O,aR hl Se,_,aj,?_⟩⟩
      rw[abb (by omega)]
      exact aE (λa b h=>c7.but hy1 h) (cz hp1 ⟨(aC 69),rfl,.inr T.HH⟩)
     ·have h0:i=0:=by
       have:¬(0:Int)<i:=λq=>h (abo q)
       omega
      refine go _ _ ⟨rfl,Se,ys,hy1,?_⟩
      rw[abe h0,abI]
      exact hp1
    clear hy1 hp1 Se hyl
    rintro σ' H4 ⟨rfl,s4,ws,hw,EW⟩
    have hwl:=EW.length
    have Xl:ws.length<=421:=by
     rw[hwl,abj]
     split
     ·simp;omega
     ·show _+1<=421;omega
    refine⟨_,O,.inl ⟨O,_,bw.of hw⟩,_,O,z,O,λD hD=>?_⟩
    refine rj (λj zs τ H5=>(∃v,τ=[v])/\aH H4 H5/\H5 D=some (.lst zs)/\Paired (c7 K H5) zs ((z.cps.toList.take j).map λc=>(Str.ofString "put",sg c))) ⟨⟨_,rfl⟩,au hD,aj,.nil⟩ (λj zs τ H5 _ p=>p.2.2.1) ?_ ?_
    ·rintro j c zs τ H5 hj ⟨⟨v,rfl⟩,s5,h5,Ji⟩
     have hjl:j<z.cps.toList.length:=(abi.mp hj).1
     rw[abt]at hjl
     have hjl:j<z.length:=hjl
     have Gh:=Ji.length
     rw[abg,abM]at Gh
     refine qB ?_
     refine⟨_,O,(by show 2<=sizeLine;decide),λu CF=>?_⟩
     have s6:=au (o:=HO.tup [.str ("put":Str),.str (sg c)]) CF
     refine⟨s6 _ _ h5,abz (show zs.length<=400 by omega) (by decide),⟨_,O⟩,aR hD (s5.trans s6),aj,?_⟩
     rw[aQ hj,abx]
     exact aE (λa b h=>c7.but (s6 _ _ h5) h) (cz (aE (λa b h=>c7.mono s6 h) Ji) ⟨u,rfl,bz.of aj⟩)
    ·rintro zs τ H5 ⟨⟨v,rfl⟩,s5,h5,Ji⟩
     rw[abr (abf _)]at Ji
     have Gh:=Ji.length
     rw[abg,abt]at Gh
     have Gh:zs.length=z.length:=Gh
     have Mj:=s5 _ _ hw
     refine⟨l,D,ws,zs,O,O,Mj,h5,abn (show ws.length+zs.length<=1000 by omega) (by decide),⟨_,_,O⟩,aR hl (s4.trans s5),_,aj,?_⟩
     rw[iI hz,←abJ]
     exact aE (λa b h=>c7.but Mj h) (dI (aE (λa b h=>c7.mono s5 h) EW) Ji)
  ·rintro σ H2 ⟨⟨v1,v2,rfl⟩,s2,ys,hy,hp⟩
   rw[abg]at hp
   have hb:=Mi r.length (abf _)
   have hyl:=hp.length
   refine⟨_,O,.inl ⟨O,_,bw.of hy⟩,l,ys,_,O,O,hy,abz (show ys.length<=420 by omega) (by decide),?_⟩
   refine⟨_,O,k l _ _ hl aj ?_ (aR hl s2)⟩
   exact aE (λa b h=>c7.but hy h) (cz hp ⟨(aC 70),rfl,.inr T.Mg⟩)
def zf(K:W.Frag):Sp:=λvs H Q _=>∃(a:Addr)(xs:List V)(t:List (List Str)),vs=[.ref a]/\H a=some (.lst xs)/\Paired (bC H) xs t/\TabOk t/\∀H',aH H H'->Q .non H'
theorem zg:br P w K mg base fO 6 (aC 18) (aL 18) ["thing"] (zf K):=by
 have Gp:=@EG P w K mg base aC aL cV T
 refine T.p9.ok yM (λvs H Q E h=>?_) (λcdv A outer s H vs Q E hr h=>?_)
 ·obtain⟨a,xs,t,rfl,_⟩:=h;rfl
 ·have hu:=bf hr
  have gj:=hr.aO
  obtain⟨a,xs,t,rfl,ha,tr,g,k⟩:=h
  refine⟨_,(ak (aK (cG (bJ (fP Gp hr T.Gb T.yS.kp T.Ga (af (pv 0) ai)))) (ak ly) aA)),?_⟩
  exact⟨_,O,a,xs,t,O,ha,tr,g.s,λH1 s1=>⟨_,O,A6 (NQ g) (k _ s1)⟩⟩
def CG(K:W.Frag):Sp:=λvs H Q _=>∃(a:Addr)(xs:List V)(t:List (List Str)),vs=[.ref a]/\H a=some (.lst xs)/\Paired (bC H) xs t/\TabOk t/\∀(l:Addr)(ys:List V) H',H l=none->H' l=some (.lst ys)->Paired (c7 K H') ys (az t)->aH H H'->Q (.ref l) H'
theorem CH:br P w K mg base fO 7 (aC 19) (aL 19) ["table"] (CG K):=by
 have Ab:=@zg P w K mg base aC aL cV T
 have wQ:=@uP P w K mg base aC aL cV T
 refine T.vp.ok mD (λvs H Q E h=>?_) (λcdv A outer s H vs Q E hr h=>?_)
 ·obtain⟨a,xs,t,rfl,_⟩:=h;rfl
 ·have hu:=bf hr
  have gj:=hr.aO
  obtain⟨a,xs,t,rfl,ha,tr,g,k⟩:=h
  have hlx:=tr.length
  refine⟨_,(ah (d7 (fP Ab hr T.zP T.p9.kp T.zO (af (pv 0) ai)))
   (ah (dg 1 mD.nd (bM ai))
   (ah (dO abL rfl (cQ K rfl (pv 0)) (fu 2 mD.nd)
   (ak (d7 (gc K rfl abQ PySem.F.slot_list_extend PySem.F.type_list_extend AQ (pv 1) (af (fP wQ hr T.wD T.mW.kp T.wC (af (pv 2) ai)) ai)))))
   (ak (ay (pv 1)))))),?_⟩
  refine⟨_,O,a,xs,t,O,ha,tr,g,λH1 s1=>?_⟩
  refine⟨by decide,λl hl=>?_⟩
  have s0:=s1.trans (au (o:=HO.lst []) hl)
  have JM:H l=none:=s1.free hl
  refine⟨_,O,a,O,⟨_,bw.of (s0 _ _ ha)⟩,?_⟩
  refine jD (K:=K) (a:=a) (xs:=xs) (λi σ H2=>(∃v,σ=[some (.ref a),some (.ref l),v])/\aH H H2/\∃ys,H2 l=some (.lst ys)/\Paired (c7 K H2) ys (az (t.take i))) ⟨⟨_,rfl⟩,s0,[],aj,.nil⟩ (λi σ H2 _ q=>bw.of (q.2.1 _ _ ha)) ?_ ?_
  ·rintro i e σ H2 hi ⟨⟨v,rfl⟩,s2,ys,hy,hp⟩
   obtain⟨r,hr,b,rfl,hb⟩:=aW tr i e hi
   have JL:=abq hr
   have b1:=nZ g i
   have b2:=nZ g (i+1)
   rw[aQ hr,iU,abj]at b2
   have hyl:=hp.length
   refine⟨_,O,.inl ⟨O,_,bw.of hy⟩,_,O,b,r,O,s2 _ _ hb,(g.rows r JL).hi,abn (pS JL) g.sum,λm zs H3 hm h3 hp3 s3=>?_⟩
   have Gh:=hp3.length
   have hy3:=s3 _ _ hy
   refine⟨l,m,ys,zs,O,O,hy3,h3,abn (show ys.length+zs.length<=1600 by omega) (by decide),⟨_,O⟩,aR JM (s2.trans s3),_,aj,?_⟩
   rw[aQ hr,iU]
   exact aE (λa b h=>c7.but hy3 h) (dI (aE (λa b h=>c7.mono s3 h) hp) hp3)
  ·rintro σ H2 ⟨⟨v,rfl⟩,s2,ys,hy,hp⟩
   rw[hlx,abr (abf _)]at hp
   exact⟨_,O,k l ys H2 JM hy hp s2⟩
def wR(K:W.Frag):Sp:=λvs H Q _=>∃(l:Addr)(ys:List V)(ts:List (Str×Str))(n:Nat)(kd s:Str),vs=[.ref l,.int n,.str kd,.str s]/\H l=some (.lst ys)/\Paired (c7 K H) ys ts/\∀H',aH H H'->Q (Xb (lF ts n kd s)) H'
theorem wU:br P w K mg base fO 1 (aC 20) (aL 20) ["tokens","count","kind","sign"] (wR K):=by
 refine T.oG.ok mV (λvs H Q E h=>?_) (λcdv A outer s H vs Q E hr h=>?_)
 ·obtain⟨l,ys,ts,n,kd,s,rfl,_⟩:=h;rfl
 ·have hu:=bf hr
  have gj:=hr.aO
  obtain⟨l,ys,ts,n,kd,s,rfl,hl,tp,k⟩:=h
  have ig:=hr.units
  refine⟨_,(ah (aK (di aZ (pv 2) ao) (ak (ay (pv 1))) aA)
   (ah (dg 4 mV.nd (aB (af (pv 2) (af (qV (di aZ (pv 2) ao) (pv 3) ao) ai))))
   (ah (aK (PW.pt (dM (di DC (pv 1) (jC (aX K rfl) T.bS (af (pv 0) ai))) (cU (di (BU (YL _ _ K) rfl (hn0 ig)) (rz K (pv 0) (pv 1)) (pv 4))))) (ak (ay (aJ cX (pv 1) aq))) aA)
   (ak (ay cO))))),?_⟩
  unfold lF at k
  have tl:=tp.length
  refine⟨_,O,O,_,O,bg (λ(h1:aU kd ("skip":Str)=true)=>?_) (λ(h1:¬aU kd ("skip":Str)=true)=>?_)⟩
  ·rw[abe h1]at k
   exact⟨_,O,k H (aH.refl _)⟩
  rw[abb h1]at k
  refine⟨_,O,_,O,O,_,O,bg (λ(h2:aU kd ("put":Str)=true)=>?_) (λ(h2:¬aU kd ("put":Str)=true)=>?_)⟩
  ·rw[abe h2]at k
   refine⟨_,O,(by show 2<=sizeLine;decide),λt ht=>?_⟩
   (have s1:=au (o:=HO.tup [V.str kd,V.str s]) ht;have g1:=aj (H:=H) (a:=t) (o:=HO.tup [V.str kd,V.str s]);generalize upd H t (HO.tup [V.str kd,V.str s])=H1 at s1 g1⊢)
   have hl1:=s1 _ _ hl
   dsimp only[bR]
   refine⟨_,O,_,O,l,_,O,.inl (bw.of hl1),_,_,O,O,_,O,bg (λh3=>?_) (λh3=>?_)⟩
   ·have h3:=abF h3
    have hn:n<ys.length:=by omega
    obtain⟨y,hy⟩:∃y,ys[n]?=some y:=⟨_,aby hn⟩
    obtain⟨⟨k1,s2⟩,ht1,a,rfl,ha⟩:=aW tp n y hy
    have hat:Dv ys (n:Int)=some (.ref a):=iK hy
    refine⟨_,O,_,O,l,_,_,.ref a,O,O,bw.of hl1,hat,_,O,a,t,_,_,O,O,gT (aF s1 ha),gT (bz.of g1),_,O,bg (λh4=>?_) (λh4=>?_)⟩
    ·have h4:=dP.mp (abF h4)
     rw[ht1,abe (by rw[h4])]at k
     have kk:=k H1 s1
     exact⟨_,O,_,_,O,O,kk⟩
    ·have h4:¬(k1,s2)=(kd,s):=λq=>h4 (abo (dP.mpr q))
     rw[ht1,abb (λq=>h4 (abH q))]at k
     exact k H1 s1
   ·have h3:=of_decide_eq_false (Bool.eq_false_iff.mpr h3)
    have hn:ts[n]?=none:=acg (by omega)
    rw[hn,abb (λq=>nomatch q)]at k
    exact k H1 s1
  ·rw[abb h2]at k
   refine⟨(by show 2<=sizeLine;decide),λt ht=>?_⟩
   (have s1:=au (o:=HO.tup [V.str kd,V.str ("":Str)]) ht;have g1:=aj (H:=H) (a:=t) (o:=HO.tup [V.str kd,V.str ("":Str)]);generalize upd H t (HO.tup [V.str kd,V.str ("":Str)])=H1 at s1 g1⊢)
   have hl1:=s1 _ _ hl
   dsimp only[bR]
   refine⟨_,O,_,O,l,_,O,.inl (bw.of hl1),_,_,O,O,_,O,bg (λh3=>?_) (λh3=>?_)⟩
   ·have h3:=abF h3
    have hn:n<ys.length:=by omega
    obtain⟨y,hy⟩:∃y,ys[n]?=some y:=⟨_,aby hn⟩
    obtain⟨⟨k1,s2⟩,ht1,a,rfl,ha⟩:=aW tp n y hy
    have hat:Dv ys (n:Int)=some (.ref a):=iK hy
    refine⟨_,O,_,O,l,_,_,.ref a,O,O,bw.of hl1,hat,_,O,a,t,_,_,O,O,gT (aF s1 ha),gT (bz.of g1),_,O,bg (λh4=>?_) (λh4=>?_)⟩
    ·have h4:=dP.mp (abF h4)
     rw[ht1,abe (by rw[h4])]at k
     have kk:=k H1 s1
     exact⟨_,O,_,_,O,O,kk⟩
    ·have h4:¬(k1,s2)=(kd,("":Str)):=λq=>h4 (abo (dP.mpr q))
     rw[ht1,abb (λq=>h4 (abH q))]at k
     exact k H1 s1
   ·have h3:=of_decide_eq_false (Bool.eq_false_iff.mpr h3)
    have hn:ts[n]?=none:=acg (by omega)
    rw[hn,abb (λq=>nomatch q)]at k
    exact k H1 s1
def o5(K:W.Frag)(C:Addr):Sp:=λvs H Q _=>∃(x dx:Addr)(p q f:Str)(b1 b2 b3 b4:Bool)(s:Addr)(w u:Str)(c:Nat),vs=[.ref x,.ref s,.str (sg c)]/\H x=some (.ins C dx (zI p q f b1 b2 b3 b4))/\bz K H s [.str w,.str u]/\∀v H',aH H H'->wc K H' v (eB p q f b3 w u c)->Q v H'
theorem o6:br P w K mg base fO 1 (aC 21) (aL 21) ["dialect","state","sign"] (o5 K (aC 60)):=by
 refine T.jn.ok oq (λvs H Q E h=>?_) (λcdv A outer s H vs Q E hr h=>?_)
 ·obtain⟨x,dx,p,q,f,b1,b2,b3,b4,s,w,u,c,rfl,_⟩:=h;rfl
 ·have hu:=bf hr
  have gj:=hr.aO
  obtain⟨x,dx,p,q,f,b1,b2,b3,b4,s,w,u,c,rfl,hx,hs,k⟩:=h
  refine'⟨_,?aa,?bb⟩
  case aa =>
   refine' ah ?s0 ?r0
   case s0 =>
    refine' aK ?c1 ?b1 ?e1
    case c1=>exact(cI cD (pv 2) (aT K rfl (pv 0) rfl) rfl)
    case b1 =>
     refine' ak ?s2
     case s2 =>
      refine' ay ?v3
      case v3 =>
       refine' aB ?a4
       case a4 =>
        refine' af ?x5 ?y5 ?z5
        case z5=>exact rfl
        case x5 =>
         exact ao
        case y5 =>
         refine' af ?x6 ?y6 ?z6
         case z6=>exact rfl
         case x6 =>
          refine' aB ?a7
          case a7 =>
           refine' af ?x8 ?y8 ?z8
           case z8=>exact rfl
           case x8 =>
            exact ao
           case y8 =>
            refine' af ?x9 ?y9 ?z9
            case z9=>exact rfl
            case x9 =>
             exact ao
            case y9 =>
             exact ai
         case y6 =>
          exact ai
    case e1 =>
     exact aA
   case r0 =>
    refine' ah ?M7 ?Ul
    case M7 =>
     refine' aK ?Um ?QZ ?Uo
     case Um=>exact(di aZ (pv 2) (lS rfl T.mJ.choose_spec))
     case QZ =>
      refine' ak ?s12
      case s12 =>
       refine' ay ?Up
       case Up =>
        refine' aB ?N8
        case N8 =>
         refine' af ?Q0 ?Q3 ?Q4
         case Q4=>exact rfl
         case Q0 =>
          exact ao
         case Q3 =>
          refine' af ?N9 ?Oa ?Ob
          case Ob=>exact rfl
          case N9 =>
           exact(jt rfl T.oZ)
          case Oa =>
           exact ai
     case Uo =>
      exact aA
    case Ul =>
     refine' ah ?Q5 ?Q6
     case Q5 =>
      refine' aK ?Q7 ?Oc ?Q8
      case Q7=>exact(cI cD (pv 2) (aT K rfl (pv 0) rfl) rfl)
      case Oc =>
       refine' ak ?Q9
       case Q9 =>
        refine' ay ?v20
        case v20 =>
         refine' aB ?Od
         case Od =>
          refine' af ?Ra ?Rb ?Rc
          case Rc=>exact rfl
          case Ra =>
           exact ao
          case Rb =>
           refine' af ?Oe ?Og ?Oh
           case Oh=>exact rfl
           case Oe =>
            refine' aB ?Oi
            case Oi =>
             refine' af ?Rf ?Rg ?Rh
             case Rh=>exact rfl
             case Rf =>
              exact ao
             case Rg =>
              refine' af ?Oj ?Ol ?Om
              case Om=>exact rfl
              case Oj =>
               exact(pv 2)
              case Ol =>
               exact ai
           case Og =>
            exact ai
      case Q8 =>
       exact aA
     case Q6 =>
      refine' ah ?Uq ?Xm
      case Uq =>
       refine' aK ?Xn ?Ur ?Xo
       case Xn=>exact(cI cD (pv 2) (aT K rfl (pv 0) rfl) rfl)
       case Ur =>
        refine' ak ?Xp
        case Xp =>
         refine' ay ?v30
         case v30 =>
          refine' aB ?Us
          case Us =>
           refine' af ?Xq ?Xr ?Xs
           case Xs=>exact rfl
           case Xq =>
            exact ao
           case Xr =>
            refine' af ?Xu ?Xv ?Xw
            case Xw=>exact rfl
            case Xu =>
             refine' aB ?Xx
             case Xx =>
              refine' af ?x35 ?y35 ?z35
              case z35=>exact rfl
              case x35 =>
               exact ao
              case y35 =>
               refine' af ?Ut ?Uu ?Uv
               case Uv=>exact rfl
               case Ut =>
                exact ao
               case Uu =>
                exact ai
            case Xv =>
             exact ai
       case Xo =>
        exact aA
      case Xm =>
       refine' ah ?s37 ?r37
       case s37 =>
        refine' aK ?c38 ?Xy ?e38
        case c38=>exact(PW.pt (dM (di aZ (pv 2) ao) (cU (bJ (aT K rfl (pv 0) rfl)))))
        case Xy =>
         refine' ak ?s39
         case s39 =>
          refine' ay ?v40
          case v40 =>
           refine' aB ?Xz
           case Xz =>
            refine' af ?XA ?XC ?XD
            case XD=>exact rfl
            case XA =>
             exact ao
            case XC =>
             refine' af ?x43 ?y43 ?z43
             case z43=>exact rfl
             case x43 =>
              exact(pv 1)
             case y43 =>
              exact ai
        case e38 =>
         exact aA
       case r37 =>
        refine' ak ?s44
        case s44 =>
         refine' ay ?v45
         case v45 =>
          refine' aB ?XE
          case XE =>
           refine' af ?XF ?XG ?XH
           case XH=>exact rfl
           case XF =>
            exact ao
           case XG =>
            refine' af ?x48 ?y48 ?z48
            case z48=>exact rfl
            case x48 =>
             refine' aB ?Uw
             case Uw =>
              refine' af ?XI ?XJ ?XM
              case XM=>exact rfl
              case XI =>
               exact ao
              case XJ =>
               refine' af ?XO ?XQ ?XR
               case XR=>exact rfl
               case XO =>
                exact ao
               case XQ =>
                exact ai
            case y48 =>
             exact ai
  have e2:aU (sg c) (cV 0)=aU (sg c) (Str.ofString "\n"):=by rw[T.kE]
  refine⟨_,O,_,O,x,(aC 60),dx,_,_,O,hx,T.aI,T.bQ,O,_,_,O,O,_,O,bg (λ(h1:gQ c f=true)=>?_) (λ(h1:¬gQ c f=true)=>?_)⟩
  ·exact bT (by unfold eB;rw[abe h1]) dj k
  refine⟨_,O,O,_,O,bg (λ(h2:aU (sg c) (cV 0)=true)=>?_) (λ(h2:¬aU (sg c) (cV 0)=true)=>?_)⟩
  ·rw[e2]at h2
   exact iG (by unfold eB;rw[abb h1,abe h2]) qC (aH.refl _) (.inr T.o4) k
  rw[e2]at h2
  refine⟨_,O,_,O,x,(aC 60),dx,_,_,O,hx,T.aI,T.bZ,O,_,_,O,O,_,O,bg (λ(h3:gQ c q=true)=>?_) (λ(h3:¬gQ c q=true)=>?_)⟩
  ·exact⟨_,O,bT (by unfold eB;rw[abb h1,abb h2,abe h3]) dj k⟩
  refine⟨_,O,_,O,x,(aC 60),dx,_,_,O,hx,T.aI,T.bY,O,_,_,O,O,_,O,bg (λ(h4:gQ c p=true)=>?_) (λ(h4:¬gQ c p=true)=>?_)⟩
  ·exact bT (by unfold eB;rw[abb h1,abb h2,abb h3,abe h4]) mh k
  refine⟨_,O,O,_,O,bg (λ(h5:aU (sg c) (" ":Str)=true)=>?_) (λ(h5:¬aU (sg c) (" ":Str)=true)=>?_)⟩
  ·refine⟨_,O,x,(aC 60),dx,_,_,O,hx,T.aI,T.dU,O,_,O,bg (λ(h6:b3=true)=>?_) (λ(h6:¬b3=true)=>?_)⟩
   ·exact⟨_,O,iG (by unfold eB;rw[abb h1,abb h2,abb h3,abb h4,abe h5,abe h6]) dj (aH.refl _) hs k⟩
   exact bT (by unfold eB;rw[abb h1,abb h2,abb h3,abb h4,abe h5,abb h6]) cZ k
  refine cJ ?_
  exact bT (by unfold eB;rw[abb h1,abb h2,abb h3,abb h4,abb h5]) cZ k
def uQ(K:W.Frag)(C:Addr):Sp:=λvs H Q _=>∃(x dx:Addr)(p q f:Str)(b1 b2 b3 b4:Bool)(c:Nat),vs=[.ref x,.str (sg c)]/\H x=some (.ins C dx (zI p q f b1 b2 b3 b4))/\∀v H',aH H H'->wc K H' v (ff p q f b4 c)->Q v H'
theorem uR:br P w K mg base fO 1 (aC 22) (aL 22) ["dialect","sign"] (uQ K (aC 60)):=by
 refine T.mX.ok uC (λvs H Q E h=>?_) (λcdv A outer s H vs Q E hr h=>?_)
 ·obtain⟨x,dx,p,q,f,b1,b2,b3,b4,c,rfl,_⟩:=h;rfl
 ·have hu:=bf hr
  have gj:=hr.aO
  obtain⟨x,dx,p,q,f,b1,b2,b3,b4,c,rfl,hx,k⟩:=h
  refine'⟨_,?aa,?bb⟩
  case aa =>
   refine' ah ?s0 ?r0
   case s0 =>
    refine' aK ?c1 ?b1 ?e1
    case c1=>exact(cI cD (pv 1) (aT K rfl (pv 0) rfl) rfl)
    case b1 =>
     refine' ak ?s2
     case s2 =>
      refine' ay ?v3
      case v3 =>
       refine' aB ?a4
       case a4 =>
        refine' af ?x5 ?y5 ?z5
        case z5=>exact rfl
        case x5 =>
         exact ao
        case y5 =>
         refine' af ?x6 ?y6 ?z6
         case z6=>exact rfl
         case x6 =>
          refine' aB ?a7
          case a7 =>
           refine' af ?x8 ?y8 ?z8
           case z8=>exact rfl
           case x8 =>
            exact ao
           case y8 =>
            refine' af ?x9 ?y9 ?z9
            case z9=>exact rfl
            case x9 =>
             exact ao
            case y9 =>
             exact ai
         case y6 =>
          exact ai
    case e1 =>
     exact aA
   case r0 =>
    refine' ah ?M7 ?Ul
    case M7 =>
     refine' aK ?Um ?QZ ?Uo
     case Um=>exact(di aZ (pv 1) (lS rfl T.mJ.choose_spec))
     case QZ =>
      refine' ak ?s12
      case s12 =>
       refine' ay ?Up
       case Up =>
        refine' aB ?N8
        case N8 =>
         refine' af ?Q0 ?Q3 ?Q4
         case Q4=>exact rfl
         case Q0 =>
          exact ao
         case Q3 =>
          refine' af ?N9 ?Oa ?Ob
          case Ob=>exact rfl
          case N9 =>
           exact(jt rfl T.oZ)
          case Oa =>
           exact ai
     case Uo =>
      exact aA
    case Ul =>
     refine' ah ?Q5 ?Q6
     case Q5 =>
      refine' aK ?Q7 ?Oc ?Q8
      case Q7=>exact(cI cD (pv 1) (aT K rfl (pv 0) rfl) rfl)
      case Oc =>
       refine' ak ?Q9
       case Q9 =>
        refine' ay ?v20
        case v20 =>
         refine' aB ?Od
         case Od =>
          refine' af ?Ra ?Rb ?Rc
          case Rc=>exact rfl
          case Ra =>
           exact ao
          case Rb =>
           refine' af ?Oe ?Og ?Oh
           case Oh=>exact rfl
           case Oe =>
            refine' aB ?Oi
            case Oi =>
             refine' af ?Rf ?Rg ?Rh
             case Rh=>exact rfl
             case Rf =>
              exact ao
             case Rg =>
              refine' af ?Oj ?Ol ?Om
              case Om=>exact rfl
              case Oj =>
               exact ao
              case Ol =>
               exact ai
           case Og =>
            exact ai
      case Q8 =>
       exact aA
     case Q6 =>
      refine' ah ?Uq ?Xm
      case Uq =>
       refine' aK ?Xn ?Ur ?Xo
       case Xn=>exact(PW.pt (dM (cI cD (pv 1) (aT K rfl (pv 0) rfl) rfl) (cU (cG (bJ (aT K rfl (pv 0) rfl))))))
       case Ur =>
        refine' ak ?Xp
        case Xp =>
         refine' ay ?v30
         case v30 =>
          refine' aB ?Us
          case Us =>
           refine' af ?Xq ?Xr ?Xs
           case Xs=>exact rfl
           case Xq =>
            exact ao
           case Xr =>
            refine' af ?Xu ?Xv ?Xw
            case Xw=>exact rfl
            case Xu =>
             exact ao
            case Xv =>
             exact ai
       case Xo =>
        exact aA
      case Xm =>
       refine' ak ?JN
       case JN =>
        refine' ay ?v35
        case v35 =>
         refine' aB ?XS
         case XS =>
          refine' af ?Ux ?Uy ?Uz
          case Uz=>exact rfl
          case Ux =>
           exact ao
          case Uy =>
           refine' af ?x38 ?y38 ?z38
           case z38=>exact rfl
           case x38 =>
            refine' aB ?XT
            case XT =>
             refine' af ?XU ?XW ?XX
             case XX=>exact rfl
             case XU =>
              exact ao
             case XW =>
              refine' af ?XY ?XZ ?X0
              case X0=>exact rfl
              case XY =>
               exact ao
              case XZ =>
               exact ai
           case y38 =>
            exact ai
  have e2:aU (sg c) (cV 0)=aU (sg c) (Str.ofString "\n"):=by rw[T.kE]
  refine⟨_,O,_,O,x,(aC 60),dx,_,_,O,hx,T.aI,T.bQ,O,_,_,O,O,_,O,bg (λ(h1:gQ c f=true)=>?_) (λ(h1:¬gQ c f=true)=>?_)⟩
  ·exact bT (by unfold ff;rw[abe h1]) dj k
  refine⟨_,O,O,_,O,bg (λ(h2:aU (sg c) (cV 0)=true)=>?_) (λ(h2:¬aU (sg c) (cV 0)=true)=>?_)⟩
  ·rw[e2]at h2
   exact iG (by unfold ff;rw[abb h1,abe h2]) qC (aH.refl _) (.inr T.o4) k
  rw[e2]at h2
  refine⟨_,O,_,O,x,(aC 60),dx,_,_,O,hx,T.aI,T.bY,O,_,_,O,O,_,O,bg (λ(h3:gQ c p=true)=>?_) (λ(h3:¬gQ c p=true)=>?_)⟩
  ·exact bT (by unfold ff;rw[abb h1,abb h2,abe h3]) mh k
  refine⟨_,O,_,O,x,(aC 60),dx,_,_,O,hx,T.aI,T.bZ,O,_,_,O,O,_,O,bg (λ(h4:gQ c q=true)=>?_) (λ(h4:¬gQ c q=true)=>?_)⟩
  ·refine⟨_,O,x,(aC 60),dx,_,_,O,hx,T.aI,T.eV,O,_,O,bg (λ(h5:(!b4)=true)=>?_) (λ(h5:¬(!b4)=true)=>?_)⟩
   ·exact ja (by unfold ff;rw[abb h1,abb h2,abb h3,abe h4,abe h5]) k
   exact bT (by unfold ff;rw[abb h1,abb h2,abb h3,abe h4,abb h5]) cZ k
  refine cJ ?_
  exact bT (by unfold ff;rw[abb h1,abb h2,abb h3,abb h4]) cZ k
def zh(K:W.Frag)(C:Addr):Sp:=λvs H Q _=>∃(x dx:Addr)(p q f:Str)(b1 b2 b3 b4:Bool)(u:Str)(c:Nat),vs=[.ref x,.str u,.str (sg c)]/\H x=some (.ins C dx (zI p q f b1 b2 b3 b4))/\∀v H',aH H H'->wc K H' v (cF f b1 b2 u c)->Q v H'
theorem zj:br P w K mg base fO 1 (aC 23) (aL 23) ["dialect","quote","sign"] (zh K (aC 60)):=by
 refine T.qc.ok yN (λvs H Q E h=>?_) (λcdv A outer s H vs Q E hr h=>?_)
 ·obtain⟨x,dx,p,q,f,b1,b2,b3,b4,u,c,rfl,_⟩:=h;rfl
 ·have hu:=bf hr
  have gj:=hr.aO
  obtain⟨x,dx,p,q,f,b1,b2,b3,b4,u,c,rfl,hx,k⟩:=h
  refine'⟨_,?aa,?bb⟩
  case aa =>
   refine' ah ?s0 ?r0
   case s0 =>
    refine' aK ?c1 ?b1 ?e1
    case c1=>exact(cI cD (pv 2) (aT K rfl (pv 0) rfl) rfl)
    case b1 =>
     refine' ak ?s2
     case s2 =>
      refine' ay ?v3
      case v3 =>
       refine' aB ?a4
       case a4 =>
        refine' af ?x5 ?y5 ?z5
        case z5=>exact rfl
        case x5 =>
         exact ao
        case y5 =>
         refine' af ?x6 ?y6 ?z6
         case z6=>exact rfl
         case x6 =>
          refine' aB ?a7
          case a7 =>
           refine' af ?x8 ?y8 ?z8
           case z8=>exact rfl
           case x8 =>
            exact ao
           case y8 =>
            refine' af ?x9 ?y9 ?z9
            case z9=>exact rfl
            case x9 =>
             exact(pv 1)
            case y9 =>
             exact ai
         case y6 =>
          exact ai
    case e1 =>
     exact aA
   case r0 =>
    refine' ah ?M7 ?Ul
    case M7 =>
     refine' aK ?Um ?QZ ?Uo
     case Um=>exact(di aZ (pv 2) (pv 1))
     case QZ =>
      refine' ak ?s12
      case s12 =>
       refine' ay ?Up
       case Up =>
        refine' aB ?N8
        case N8 =>
         refine' af ?Q0 ?Q3 ?Q4
         case Q4=>exact rfl
         case Q0 =>
          exact ao
         case Q3 =>
          refine' af ?N9 ?Oa ?Ob
          case Ob=>exact rfl
          case N9 =>
           exact(qV (bJ (aT K rfl (pv 0) rfl)) (aB (af ao (af (pv 1) ai))) (aB (af ao (af ao ai))))
          case Oa =>
           exact ai
     case Uo =>
      exact aA
    case Ul =>
     refine' ah ?Q5 ?Q6
     case Q5 =>
      refine' aK ?Q7 ?Oc ?Q8
      case Q7=>exact(PW.pt (dM (di aZ (pv 2) (lS rfl T.mJ.choose_spec)) (cU (cG (bJ (aT K rfl (pv 0) rfl))))))
      case Oc =>
       refine' ak ?Q9
       case Q9 =>
        refine' ay ?v20
        case v20 =>
         refine' aB ?Od
         case Od =>
          refine' af ?Ra ?Rb ?Rc
          case Rc=>exact rfl
          case Ra =>
           exact ao
          case Rb =>
           refine' af ?Oe ?Og ?Oh
           case Oh=>exact rfl
           case Oe =>
            exact ao
           case Og =>
            exact ai
      case Q8 =>
       exact aA
     case Q6 =>
      refine' ak ?HK
      case HK =>
       refine' ay ?v25
       case v25 =>
        refine' aB ?X3
        case X3 =>
         refine' af ?UA ?UB ?UC
         case UC=>exact rfl
         case UA =>
          exact ao
         case UB =>
          refine' af ?x28 ?y28 ?z28
          case z28=>exact rfl
          case x28 =>
           refine' aB ?UD
           case UD =>
            refine' af ?Ri ?Rj ?Rl
            case Rl=>exact rfl
            case Ri =>
             exact ao
            case Rj =>
             refine' af ?X4 ?X5 ?X6
             case X6=>exact rfl
             case X4 =>
              exact(pv 1)
             case X5 =>
              exact ai
          case y28 =>
           exact ai
  have e2:aU (sg c) (cV 0)=aU (sg c) (Str.ofString "\n"):=by rw[T.kE]
  refine⟨_,O,_,O,x,(aC 60),dx,_,_,O,hx,T.aI,T.bQ,O,_,_,O,O,_,O,bg (λ(h1:gQ c f=true)=>?_) (λ(h1:¬gQ c f=true)=>?_)⟩
  ·exact⟨_,O,bT (by unfold cF;rw[abe h1]) dj k⟩
  refine⟨_,O,_,O,O,_,O,bg (λ(h2:aU (sg c) u=true)=>?_) (λ(h2:¬aU (sg c) u=true)=>?_)⟩
  ·refine⟨_,O,x,(aC 60),dx,_,_,O,hx,T.aI,T.fM,O,_,O,bg (λ(h3:b1=true)=>?_) (λ(h3:¬b1=true)=>?_)⟩
   ·exact⟨_,O,bT (by unfold cF;rw[abb h1,abe h2,abe h3]) dj k⟩
   exact bT (by unfold cF;rw[abb h1,abe h2,abb h3]) dj k
  refine⟨_,O,O,_,O,bg (λ(h3:aU (sg c) (cV 0)=true)=>?_) (λ(h3:¬aU (sg c) (cV 0)=true)=>?_)⟩
  ·rw[e2]at h3
   refine⟨_,O,x,(aC 60),dx,_,_,O,hx,T.aI,T.dS,O,_,O,bg (λ(h4:(!b2)=true)=>?_) (λ(h4:¬(!b2)=true)=>?_)⟩
   ·exact ja (by unfold cF;rw[abb h1,abb h2,abe h3,abe h4]) k
   exact⟨_,O,bT (by unfold cF;rw[abb h1,abb h2,abe h3,abb h4]) cZ k⟩
  rw[e2]at h3
  refine cJ ?_
  exact⟨_,O,bT (by unfold cF;rw[abb h1,abb h2,abb h3]) cZ k⟩
def zk(K:W.Frag)(C:Addr):Sp:=λvs H Q _=>∃(x dx:Addr)(p q f:Str)(b1 b2 b3 b4:Bool)(c:Nat),vs=[.ref x,.str (sg c)]/\H x=some (.ins C dx (zI p q f b1 b2 b3 b4))/\∀v H',aH H H'->wc K H' v (bO p b3 c)->Q v H'
theorem o7:br P w K mg base fO 1 (aC 24) (aL 24) ["dialect","sign"] (zk K (aC 60)):=by
 refine T.k7.ok yO (λvs H Q E h=>?_) (λcdv A outer s H vs Q E hr h=>?_)
 ·obtain⟨x,dx,p,q,f,b1,b2,b3,b4,c,rfl,_⟩:=h;rfl
 ·have hu:=bf hr
  have gj:=hr.aO
  obtain⟨x,dx,p,q,f,b1,b2,b3,b4,c,rfl,hx,k⟩:=h
  refine'⟨_,?aa,?bb⟩
  case aa =>
   refine' ah ?s0 ?r0
   case s0 =>
    refine' aK ?c1 ?b1 ?e1
    case c1=>exact(di aZ (pv 1) (lS rfl T.mJ.choose_spec))
    case b1 =>
     refine' ak ?s2
     case s2 =>
      refine' ay ?v3
      case v3 =>
       refine' aB ?a4
       case a4 =>
        refine' af ?x5 ?y5 ?z5
        case z5=>exact rfl
        case x5 =>
         exact ao
        case y5 =>
         refine' af ?x6 ?y6 ?z6
         case z6=>exact rfl
         case x6 =>
          exact(jt rfl T.oZ)
         case y6 =>
          exact ai
    case e1 =>
     exact aA
   case r0 =>
    refine' ah ?s7 ?r7
    case s7 =>
     refine' aK ?c8 ?b8 ?e8
     case c8=>exact(cI cD (pv 1) (aT K rfl (pv 0) rfl) rfl)
     case b8 =>
      refine' ak ?s9
      case s9 =>
       refine' ay ?v10
       case v10 =>
        refine' aB ?Rm
        case Rm =>
         refine' af ?UE ?Ml ?Po
         case Po=>exact rfl
         case UE =>
          exact ao
         case Ml =>
          refine' af ?UG ?UH ?UI
          case UI=>exact rfl
          case UG =>
           refine' aB ?N8
           case N8 =>
            refine' af ?Q0 ?Q3 ?Q4
            case Q4=>exact rfl
            case Q0 =>
             exact ao
            case Q3 =>
             refine' af ?N9 ?Oa ?Ob
             case Ob=>exact rfl
             case N9 =>
              exact ao
             case Oa =>
              exact ai
          case UH =>
           exact ai
     case e8 =>
      exact aA
    case r7 =>
     refine' ah ?Q5 ?Q6
     case Q5 =>
      refine' aK ?Q7 ?Oc ?Q8
      case Q7=>exact(PW.pt (dM (di aZ (pv 1) ao) (cU (bJ (aT K rfl (pv 0) rfl)))))
      case Oc =>
       refine' ak ?Q9
       case Q9 =>
        refine' ay ?v20
        case v20 =>
         refine' aB ?Od
         case Od =>
          refine' af ?Ra ?Rb ?Rc
          case Rc=>exact rfl
          case Ra =>
           exact ao
          case Rb =>
           refine' af ?Oe ?Og ?Oh
           case Oh=>exact rfl
           case Oe =>
            refine' aB ?Oi
            case Oi =>
             refine' af ?Rf ?Rg ?Rh
             case Rh=>exact rfl
             case Rf =>
              exact ao
             case Rg =>
              refine' af ?Oj ?Ol ?Om
              case Om=>exact rfl
              case Oj =>
               exact ao
              case Ol =>
               exact ai
           case Og =>
            exact ai
      case Q8 =>
       exact aA
     case Q6 =>
      refine' ak ?Uq
      case Uq =>
       refine' ay ?v28
       case v28 =>
        refine' aB ?UD
        case UD =>
         refine' af ?Ri ?Rj ?Rl
         case Rl=>exact rfl
         case Ri =>
          exact ao
         case Rj =>
          refine' af ?X4 ?X5 ?X6
          case X6=>exact rfl
          case X4 =>
           exact ao
          case X5 =>
           exact ai
  have e2:aU (sg c) (cV 0)=aU (sg c) (Str.ofString "\n"):=by rw[T.kE]
  refine⟨_,O,O,_,O,bg (λ(h1:aU (sg c) (cV 0)=true)=>?_) (λ(h1:¬aU (sg c) (cV 0)=true)=>?_)⟩
  ·rw[e2]at h1
   exact iG (by unfold bO;rw[abe h1]) qC (aH.refl _) (.inr T.o4) k
  rw[e2]at h1
  refine⟨_,O,_,O,x,(aC 60),dx,_,_,O,hx,T.aI,T.bY,O,_,_,O,O,_,O,bg (λ(h2:gQ c p=true)=>?_) (λ(h2:¬gQ c p=true)=>?_)⟩
  ·exact bT (by unfold bO;rw[abb h1,abe h2]) mh k
  refine⟨_,O,O,_,O,bg (λ(h3:aU (sg c) (" ":Str)=true)=>?_) (λ(h3:¬aU (sg c) (" ":Str)=true)=>?_)⟩
  ·refine⟨_,O,x,(aC 60),dx,_,_,O,hx,T.aI,T.dU,O,_,O,bg (λ(h4:b3=true)=>?_) (λ(h4:¬b3=true)=>?_)⟩
   ·exact bT (by unfold bO;rw[abb h1,abb h2,abe h3,abe h4]) dj k
   exact ja (by unfold bO;rw[abb h1,abb h2,abe h3,abb h4]) k
  refine cJ ?_
  exact ja (by unfold bO;rw[abb h1,abb h2,abb h3]) k
def uS(K:W.Frag)(C:Addr):Sp:=λvs H Q _=>∃(x dx:Addr)(p q f:Str)(b1 b2 b3 b4:Bool)(u:Str)(c:Nat),vs=[.ref x,.str u,.str (sg c)]/\H x=some (.ins C dx (zI p q f b1 b2 b3 b4))/\∀v H',aH H H'->wc K H' v (gD p b3 u c)->Q v H'
theorem uT:br P w K mg base fO 2 (aC 25) (aL 25) ["dialect","quote","sign"] (uS K (aC 60)):=by
 have k9:=@o7 P w K mg base aC aL cV T
 refine T.mY.ok uD (λvs H Q E h=>?_) (λcdv A outer s H vs Q E hr h=>?_)
 ·obtain⟨x,dx,p,q,f,b1,b2,b3,b4,u,c,rfl,_⟩:=h;rfl
 ·have hu:=bf hr
  have gj:=hr.aO
  obtain⟨x,dx,p,q,f,b1,b2,b3,b4,u,c,rfl,hx,k⟩:=h
  refine⟨_,(ah (aK (di aZ (pv 2) (pv 1)) (ak (ay (aB (af ao (af (aB (af ao (af (pv 1) ai))) ai))))) aA)
   (ak (ay (fP k9 hr T.qe T.k7.kp T.qd (af (pv 0) (af (pv 2) ai)))))),?_⟩
  refine⟨_,O,_,O,O,_,O,bg (λ(h1:aU (sg c) u=true)=>?_) (λ(h1:¬aU (sg c) u=true)=>?_)⟩
  ·exact⟨_,O,bT (by unfold gD;rw[abe h1]) cZ k⟩
  refine⟨_,O,_,O,x,dx,p,q,f,b1,b2,b3,b4,c,O,hx,λv H2 s2 r=>k v H2 s2 ?_⟩
  unfold gD
  rw[abb h1]
  exact r
def Ac(K:W.Frag)(C:Addr):Sp:=λvs H Q _=>∃(x dx:Addr)(p q f:Str)(b1 b2 b3 b4:Bool)(u:Str)(c:Nat),vs=[.ref x,.str u,.str (sg c)]/\H x=some (.ins C dx (zI p q f b1 b2 b3 b4))/\∀v H',aH H H'->wc K H' v (fF b2 u c)->Q v H'
theorem Ad:br P w K mg base fO 1 (aC 26) (aL 26) ["dialect","quote","sign"] (Ac K (aC 60)):=by
 refine T.sd.ok zN (λvs H Q E h=>?_) (λcdv A outer s H vs Q E hr h=>?_)
 ·obtain⟨x,dx,p,q,f,b1,b2,b3,b4,u,c,rfl,_⟩:=h;rfl
 ·have hu:=bf hr
  have gj:=hr.aO
  obtain⟨x,dx,p,q,f,b1,b2,b3,b4,u,c,rfl,hx,k⟩:=h
  refine'⟨_,?aa,?bb⟩
  case aa =>
   refine' ah ?s0 ?r0
   case s0 =>
    refine' aK ?c1 ?b1 ?e1
    case c1=>exact(PW.pt (dM (di aZ (pv 2) (lS rfl T.mJ.choose_spec)) (cU (cG (bJ (aT K rfl (pv 0) rfl))))))
    case b1 =>
     refine' ak ?s2
     case s2 =>
      refine' ay ?v3
      case v3 =>
       refine' aB ?a4
       case a4 =>
        refine' af ?x5 ?y5 ?z5
        case z5=>exact rfl
        case x5 =>
         exact ao
        case y5 =>
         refine' af ?x6 ?y6 ?z6
         case z6=>exact rfl
         case x6 =>
          exact ao
         case y6 =>
          exact ai
    case e1 =>
     exact aA
   case r0 =>
    refine' ak ?s7
    case s7 =>
     refine' ay ?v8
     case v8 =>
      refine' aB ?a9
      case a9 =>
       refine' af ?UJ ?UK ?UL
       case UL=>exact rfl
       case UJ =>
        exact ao
       case UK =>
        refine' af ?x11 ?y11 ?z11
        case z11=>exact rfl
        case x11 =>
         exact(qV (di aZ (pv 1) ao) (aB (af ao (af ao ai))) (aB (af ao (af (pv 1) ai))))
        case y11 =>
         exact ai
  have e2:aU (sg c) (cV 0)=aU (sg c) (Str.ofString "\n"):=by rw[T.kE]
  refine⟨_,O,O,_,O,bg (λ(h1:aU (sg c) (cV 0)=true)=>?_) (λ(h1:¬aU (sg c) (cV 0)=true)=>?_)⟩
  ·rw[e2]at h1
   refine⟨_,O,x,(aC 60),dx,_,_,O,hx,T.aI,T.dS,O,_,O,bg (λ(h2:(!b2)=true)=>?_) (λ(h2:¬(!b2)=true)=>?_)⟩
   ·exact ja (by unfold fF;rw[abe h1,abe h2]) k
   refine⟨_,O,O,_,O,bg (λ(h9:aU u ("":Str)=true)=>?_) (λ(h9:¬aU u ("":Str)=true)=>?_)⟩
   ·exact bT (by unfold fF dw;rw[abe h1,abb h2,abe h9]) cZ k
   exact⟨_,O,bT (by unfold fF dw;rw[abe h1,abb h2,abb h9]) cZ k⟩
  rw[e2]at h1
  refine cJ ?_
  refine⟨_,O,O,_,O,bg (λ(h9:aU u ("":Str)=true)=>?_) (λ(h9:¬aU u ("":Str)=true)=>?_)⟩
  ·exact bT (by unfold fF dw;rw[abb h1,abe h9]) cZ k
  exact⟨_,O,bT (by unfold fF dw;rw[abb h1,abb h9]) cZ k⟩
def CI(K:W.Frag)(C CT:Addr):Sp:=λvs H Q _=>∃(y s:Addr)(w u:Str)(c:Nat)(p q f:Str)(b1 b2 b3 b4:Bool),vs=[.ref y,.ref s,.str (sg c)]/\Tn C CT H y p q f b1 b2 b3 b4/\bz K H s [.str w,.str u]/\∀v H',aH H H'->wc K H' v (bA p q f b1 b2 b3 b4 w u c)->Q v H'
theorem CJ:br P w K mg base fO 3 (aC 27) (aL 27) ["self","state","sign"] (CI K (aC 60) (aC 61)):=by
 have p6:=@o6 P w K mg base aC aL cV T
 have k9:=@o7 P w K mg base aC aL cV T
 have CK:=@Ad P w K mg base aC aL cV T
 have wV:=@uT P w K mg base aC aL cV T
 have wW:=@uR P w K mg base aC aL cV T
 have Ae:=@zj P w K mg base aC aL cV T
 refine T.Eu.ok mE (λvs H Q E h=>?_) (λcdv A outer s H vs Q E hr h=>?_)
 ·obtain⟨y,s,w,u,c,p,q,f,b1,b2,b3,b4,rfl,_⟩:=h;rfl
 ·have hu:=bf hr
  have gj:=hr.aO
  obtain⟨y,s,w,u,c,p,q,f,b1,b2,b3,b4,rfl,hT,hs,k⟩:=h
  obtain⟨dy,d,dd,hy,hd⟩:=hT.ok
  refine⟨_,(ah (dg 3 mE.nd (gg K (pv 1) aq))
   (ah (dg 4 mE.nd (gg K (pv 1) aq))
   (ah (aK (di aZ (pv 3) ao) (ak (ay (fP wW hr T.wG T.mX.kp T.wF (af (aT K rfl (pv 0) rfl) (af (pv 2) ai))))) aA)
   (ah (aK (di aZ (pv 3) ao) (ak (ay (fP Ae hr T.zR T.qc.kp T.zQ (af (aT K rfl (pv 0) rfl) (af (pv 4) (af (pv 2) ai)))))) aA)
   (ah (aK (di aZ (pv 3) ao) (ak (ay (fP wV hr T.wI T.mY.kp T.wH (af (aT K rfl (pv 0) rfl) (af (pv 4) (af (pv 2) ai)))))) aA)
   (ah (aK (di aZ (pv 3) ao) (ak (ay (fP k9 hr T.qe T.k7.kp T.qd (af (aT K rfl (pv 0) rfl) (af (pv 2) ai))))) aA)
   (ah (aK (di aZ (pv 3) ao) (ak (ay (fP CK hr T.Cn T.sd.kp T.Ck (af (aT K rfl (pv 0) rfl) (af (pv 4) (af (pv 2) ai)))))) aA)
   (ak (ay (fP p6 hr T.pX T.jn.kp T.pW (af (aT K rfl (pv 0) rfl) (af (pv 1) (af (pv 2) ai))))))))))))),?_⟩
  refine⟨_,O,s,_,_,_,O,O,hs,O,_,O,s,_,_,_,O,O,hs,O,?_⟩
  refine⟨_,O,O,_,O,bg (λ(h1:aU w ("plain":Str)=true)=>?_) (λ(h1:¬aU w ("plain":Str)=true)=>?_)⟩
  ·refine⟨_,O,y,(aC 61),dy,_,_,O,hy,T.iO,T.bN,O,_,O,d,dd,p,q,f,b1,b2,b3,b4,c,O,hd,λv H2 s2 r=>k v H2 s2 ?_⟩
   rw[Lp h1]
   exact r
  refine⟨_,O,O,_,O,bg (λ(h2:aU w ("within":Str)=true)=>?_) (λ(h2:¬aU w ("within":Str)=true)=>?_)⟩
  ·refine⟨_,O,y,(aC 61),dy,_,_,O,hy,T.iO,T.bN,O,_,O,_,O,d,dd,p,q,f,b1,b2,b3,b4,u,c,O,hd,λv H2 s2 r=>k v H2 s2 ?_⟩
   rw[fW h2]
   exact r
  refine⟨_,O,O,_,O,bg (λ(h3:aU w ("doubt":Str)=true)=>?_) (λ(h3:¬aU w ("doubt":Str)=true)=>?_)⟩
  ·refine⟨_,O,y,(aC 61),dy,_,_,O,hy,T.iO,T.bN,O,_,O,_,O,d,dd,p,q,f,b1,b2,b3,b4,u,c,O,hd,λv H2 s2 r=>k v H2 s2 ?_⟩
   rw[iT h3]
   exact r
  refine⟨_,O,O,_,O,bg (λ(h4:aU w ("behind":Str)=true)=>?_) (λ(h4:¬aU w ("behind":Str)=true)=>?_)⟩
  ·refine⟨_,O,y,(aC 61),dy,_,_,O,hy,T.iO,T.bN,O,_,O,d,dd,p,q,f,b1,b2,b3,b4,c,O,hd,λv H2 s2 r=>k v H2 s2 ?_⟩
   rw[iH h4]
   exact r
  refine⟨_,O,O,_,O,bg (λ(h5:aU w ("freed":Str)=true)=>?_) (λ(h5:¬aU w ("freed":Str)=true)=>?_)⟩
  ·refine⟨_,O,y,(aC 61),dy,_,_,O,hy,T.iO,T.bN,O,_,O,_,O,d,dd,p,q,f,b1,b2,b3,b4,u,c,O,hd,λv H2 s2 r=>k v H2 s2 ?_⟩
   rw[jR h5]
   exact r
  refine⟨_,O,y,(aC 61),dy,_,_,O,hy,T.iO,T.bN,O,_,O,_,O,d,dd,p,q,f,b1,b2,b3,b4,s,w,u,c,O,hd,hs,λv H2 s2 r=>k v H2 s2 ?_⟩
  rw[BY (gZ h2) (gZ h5) (gZ h3) (gZ h4)]
  unfold fq
  rw[abb h1]
  exact r
def sR(K:W.Frag)(C CT:Addr):Sp:=λvs H Q _=>∃(y s:Addr)(w u:Str)(c:Nat)(p q f:Str)(b1 b2 b3 b4:Bool),vs=[.ref y,.ref s,.str (sg c)]/\Tn C CT H y p q f b1 b2 b3 b4/\bz K H s [.str w,.str u]/\∀v H',aH H H'->Xa K (gn p q f b1 b2 b3 b4 w u c) H' v->Q v H'
theorem sS:br P w K mg base fO 4 (aC 28) (aL 28) ["self","state","sign"] (sR K (aC 60) (aC 61)):=by
 have EH:=@CJ P w K mg base aC aL cV T
 have Jj:=@Gn P w K mg base aC aL cV T
 refine T.uF.ok kr (λvs H Q E h=>?_) (λcdv A outer s H vs Q E hr h=>?_)
 ·obtain⟨y,s,w,u,c,p,q,f,b1,b2,b3,b4,rfl,_⟩:=h;rfl
 ·have hu:=bf hr
  have gj:=hr.aO
  obtain⟨y,s,w,u,c,p,q,f,b1,b2,b3,b4,rfl,hT,hs,k⟩:=h
  unfold gn at k
  refine⟨_,(ah (aK (di t6 (pv 1) cO) (ak (ay cO)) aA)
   (ah (dg 3 kr.nd (pN (k:=3) (pv 0) T.iO T.Ey EH (hr.mono (by decide)) T.Ew .nil iz (af (pv 1) (af (pv 2) ai))))
   (ah (aK (PW.pt (gk (di aZ (gg K (pv 3) aq) ao) (eZ (cG (bJ (fP Jj hr T.IY T.Bq.kp T.IX (af (aT K rfl (pv 0) rfl) (af (gg K (pv 3) aq) ai)))))))) (ak (ay cO)) aA)
   (ak (ay (pv 3)))))),?_⟩
  obtain⟨dy,d,dd,ey,ed⟩:=hT.ok
  refine⟨_,rfl,rfl,_,rfl,Iq (λz=>nomatch z) ⟨_,rfl,y,dy,_,rfl,ey,rfl,_,rfl,_,rfl,y,s,w,u,c,p,q,f,b1,b2,b3,b4,rfl,hT,hs,λv H5 s5 r=>?_⟩⟩
  cases Gq:bA p q f b1 b2 b3 b4 w u c with
  |go kd w3 u3 =>
   rw[Gq]at r k
   obtain⟨hk,a,b,rfl,ha,hb⟩:=r
   have ey5:=s5 _ _ ey
   have ed5:=s5 _ _ ed
   have k:∀v H',aH H H'->Xa K (if cg f w3 u3=true then some (kd,w3,u3) else none) H' v->Q v H':=k
   refine⟨_,O,a,_,_,_,O,O,ha,O,O,_,O,jj hk ?_⟩
   refine⟨_,O,y,_,_,_,_,O,ey5,T.iO,T.bN,O,_,O,a,_,_,_,O,O,ha,O,d,dd,b,w3,u3,p,q,f,b1,b2,b3,b4,O,ed5,hb,_,O,?_⟩
   by_cases hL:cg f w3 u3=true
   ·rw[abe hL]at k
    exact A6 hL ⟨_,rfl,k _ _ s5 ⟨a,b,rfl,ha,hb⟩⟩
   ·rw[abb hL]at k
    exact Lo (gZ hL) (k _ _ s5 rfl)
  |kL e =>
   rw[Gq]at r k
   obtain⟨a,rfl,ha⟩:=r
   have k:∀v H',aH H H'->Xa K none H' v->Q v H':=k
   exact⟨_,O,a,_,_,_,O,O,ha,O,O,_,O,ko (aY _) (j9 (k _ _ s5 rfl))⟩
def ny(K:W.Frag)(C CT CM:Addr):Sp:=λvs H Q _=>∃(m:Addr)(v:V)(mk:aV)(c:Nat)(ts:List (Str×Str))(p q f:Str)(b1 b2 b3 b4:Bool),vs=[.ref m,v,.str (sg c)]/\IG K C CT CM H m p q f b1 b2 b3 b4 ts/\bV K H mk v/\∀v' H',aH H H'->mq K (gu p q f b1 b2 b3 b4 ts mk c) H' v'->Q v' H'
theorem nA:br P w K mg base fO 5 (aC 29) (aL 29) ["self","mark","sign"] (ny K (aC 60) (aC 61) (aC 62)):=by
 have uU:=@sS P w K mg base aC aL cV T
 have zm:=@wU P w K mg base aC aL cV T
 refine T.oH.ok fh (λvs H Q E h=>?_) (λcdv A outer s H vs Q E hr h=>?_)
 ·obtain⟨m,v,mk,c,ts,p,q,f,b1,b2,b3,b4,rfl,_⟩:=h;rfl
 ·have hu:=bf hr
  have gj:=hr.aO
  obtain⟨m,v,mk,c,ts,p,q,f,b1,b2,b3,b4,rfl,hM,hv,k⟩:=h
  obtain⟨dm,y,l,ys,em,eT,el,tp⟩:=hM.ok
  obtain⟨b,s,rfl,hb,hs⟩:=hv
  obtain⟨dy,d,dd,ey,ed⟩:=eT.ok
  refine⟨_,(ah (aK (di t6 (pv 1) cO) (ak (ay cO)) aA)
   (ah (dg 3 fh.nd (pN (k:=4) (aT K rfl (pv 0) rfl) T.iO T.uH uU (hr.mono (by decide)) T.uG .nil iz (af (gg K (pv 1) aq) (af (pv 2) ai))))
   (ah (aK (di t6 (pv 3) cO) (ak (ay cO)) aA)
   (ah (dg 4 fh.nd (fP zm hr T.yU T.oG.kp T.yT (af (aT K rfl (pv 0) rfl) (af (gg K (pv 1) aq) (af (gg K (pv 3) aq) (af (pv 2) ai))))))
   (ak (ay (qV (di t6 (pv 4) cO) cO (aB (af (gg K (pv 3) aq) (af (pv 4) ai)))))))))),?_⟩
  unfold gu at k
  refine⟨_,rfl,rfl,_,rfl,Iq (λz=>nomatch z) (⟨_,rfl,_,_,_,_,_,rfl,em,T.iJ,T.iP,rfl,_,_,_,rfl,ey,rfl,_,rfl,_,_,_,_,rfl,rfl,hb,rfl,_,rfl,_,_,_,_,_,_,_,_,_,_,_,_,rfl,eT,hs,λv5 H5 s5 r=>?_⟩)⟩
  cases hL:gn p q f b1 b2 b3 b4 mk.1.1 mk.1.2 c with
  |none =>
   rw[hL]at r k
   have r:v5=.non:=r
   subst r
   have k:∀v' H',aH H H'->mq K none H' v'->Q v' H':=k
   exact⟨_,O,O,_,O,VH rfl (k _ _ s5 rfl)⟩
  |some kwu =>
   obtain⟨kd,w3,u3⟩:=kwu
   rw[hL]at r k
   obtain⟨a,b2,rfl,ha,hb2⟩:=r
   have k:∀v' H',aH H H'->mq K (match lF ts mk.2 kd (sg c) with|none=>none|some n=>some ((w3,u3),n)) H' v'->Q v' H':=k
   have Rn:=s5 _ _ em
   have el5:=s5 _ _ el
   have X7:=bW s5 tp
   have hb5:=aF s5 hb
   refine⟨_,rfl,rfl,_,rfl,Iq (λz=>nomatch z) ?_⟩
   refine⟨_,O,_,_,_,_,_,O,Rn,T.iJ,T.eX,O,_,O,_,_,_,_,O,O,hb5,O,_,O,_,_,_,_,O,O,ha,O,_,O,l,ys,ts,mk.2,kd,sg c,O,el5,X7,λH6 s6=>?_⟩
   have Sf:=s5.trans s6
   cases hC:lF ts mk.2 kd (sg c) with
   |none =>
    rw[hC]at k
    exact⟨_,O,O,_,O,VH rfl (k _ _ Sf rfl)⟩
   |some n =>
    rw[hC]at k
    refine⟨_,rfl,rfl,_,rfl,Iq (λz=>nomatch z) ⟨_,rfl,_,_,_,_,rfl,rfl,aF s6 ha,rfl,_,rfl,(by show 2<=sizeLine;decide),λt ht=>?_⟩⟩
    exact k _ _ (Sf.trans (au ht)) ⟨t,b2,rfl,bz.of aj,aF (s6.trans (au ht)) hb2⟩
def mK(K:W.Frag)(C CT CM:Addr):Sp:=λvs H Q _=>∃(m:Addr)(v:V)(mk:aV)(ts:List (Str×Str))(p q f:Str)(b1 b2 b3 b4:Bool),vs=[.ref m,v]/\IG K C CT CM H m p q f b1 b2 b3 b4 ts/\bV K H mk v/\∀H',aH H H'->Q (.bl (decide (mk=((Str.ofString "row",("":Str)),ts.length)))) H'
theorem mL:br P w K mg base fO 1 (aC 30) (aL 30) ["self","mark"] (mK K (aC 60) (aC 61) (aC 62)):=by
 refine T.nj.ok mF (λvs H Q E h=>?_) (λcdv A outer s H vs Q E hr h=>?_)
 ·obtain⟨m,v,mk,ts,p,q,f,b1,b2,b3,b4,rfl,_⟩:=h;rfl
 ·have hu:=bf hr
  have gj:=hr.aO
  obtain⟨m,v,mk,ts,p,q,f,b1,b2,b3,b4,rfl,hM,hv,k⟩:=h
  have ig:=hr.units
  obtain⟨dm,y,l,ys,em,eT,el,tp⟩:=hM.ok
  obtain⟨b,s,rfl,hb,hs⟩:=hv
  have tl:=tp.length
  refine⟨_,(ak (ay (yp (BU (YM _ _ K) rfl (hn1 ig)) (pv 1) (aB (af (jt rfl T.oZ) (af (jC (aX K rfl) T.bS (af (aT K rfl (pv 0) rfl) ai)) ai)))))),?_⟩
  refine⟨_,O,_,O,_,_,_,_,_,O,em,T.iJ,T.eX,O,_,_,O,.inl (bw.of el),(by show(2:Nat)<=sizeLine;decide),λt ht=>?_⟩
  (have st:=au (o:=HO.tup [V.ref (aC 68),V.int ↑ys.length]) ht;have g1:=aj (H:=H) (a:=t) (o:=HO.tup [V.ref (aC 68),V.int ↑ys.length]);generalize upd H t (HO.tup [V.ref (aC 68),V.int ↑ys.length])=H1 at st g1⊢)
  have e1:qA (YM _ _ K) H1 (bq mk) b:=iL (P:=P) (w:=w) (aF st hb) (aF st hs)
  have e2:qA (YM _ _ K) H1 (bq ((Str.ofString "row",("":Str)),ts.length)) t:=iL (P:=P) (w:=w) (m:=((Str.ofString "row",("":Str)),ts.length)) (by rw[←tl];exact bz.of g1) (.inr T.o4)
  refine⟨b,t,_,_,O,O,e1,e2,?_⟩
  have ed:decide (bq mk=bq ((Str.ofString "row",("":Str)),ts.length))=decide (mk=((Str.ofString "row",("":Str)),ts.length)):=by rw[acy,decide_eq_true_iff,decide_eq_true_iff];exact lC
  rw[ed]
  exact k _ st
def wX(K:W.Frag)(C CT CM CW:Addr):Sp:=λvs H Q _=>∃(x:Addr)(v:V)(mk:aV)(ts:List (Str×Str))(p q f:Str)(b1 b2 b3 b4:Bool),vs=[.ref x,v]/\QF K C CT CM CW H x p q f b1 b2 b3 b4 ts/\bV K H mk v/\Gd p q f/\mk.2<ts.length/\(∀t∈ts,t.2.length<=1)/\∀l vs H',H l=none->H' l=some (.lst vs)->n5 K H' vs (cH p q f b1 b2 b3 b4 ts mk)->aH H H'->Q (.ref l) H'
theorem wY:br P w K mg base fO 6 (aC 31) (aL 31) ["self","place"] (wX K (aC 60) (aC 61) (aC 62) (aC 63)):=by
 have o8:=@nA P w K mg base aC aL cV T
 have Gi:=@HJ P w K mg base aC aL cV T
 refine T.yV.ok jb (λvs H Q E h=>?_) (λcdv A outer s H vs Q E hr h=>?_)
 ·obtain⟨x,v,mk,ts,p,q,f,b1,b2,b3,b4,rfl,_⟩:=h;rfl
 ·have hu:=bf hr
  have gj:=hr.aO
  obtain⟨x,v,mk,ts,p,q,f,b1,b2,b3,b4,rfl,hW,hv,g,hn,ht1,k⟩:=h
  obtain⟨dx,m,l,ys,ex,eM,el,tp⟩:=hW.ok
  obtain⟨b,s,rfl,hb,hs⟩:=hv
  refine⟨_,(ah (dg 2 jb.nd (fP Gi hr T.LY T.FZ.kp T.LX (af (aJ bF (aT K rfl (pv 0) rfl) (gg K (rz K (aT K rfl (pv 0) rfl) (gg K (pv 1) aq)) aq)) ai)))
   (ah (G0 (i:=3) rfl jb.nd rfl rfl (show bD ["self","place","signs","found"] (av fD) ["sign","place","self"] 1 [1,0] _ from Hl) (lR (pv 2)) (λ_ _ _ _=>(fu 0 (show(["sign","place","self"]:List Str).Nodup by decide +kernel))) (λ_ _ _ _=>eg) (λ_ _ _ _=>(aB (af (pv 0) (af (pN (k:=5) (aT K rfl (pv 2) rfl) T.iJ T.oK o8 (hr.mono (by decide)) T.oJ .nil iz (af (pv 1) (af (pv 0) ai))) ai)))))
   (ak (ay (fS rfl (show bD ["self","place","signs","found"] (av fD) ["lead"] 1 [] _ from Hl) (cQ K rfl (pv 3)) (λ_ _ _ _=>(fu 0 IA)) (λ_ _ _ _=>(M5 (di xH (gg K (pv 0) aq) cO))) (λ_ _ _ _=>(pv 0))))))),?_⟩
  have tl:=tp.length
  obtain⟨t,ht⟩:∃t,ts[mk.2]?=some t:=⟨_,aby hn⟩
  obtain⟨y,hy⟩:∃y,ys[mk.2]?=some y:=⟨_,aby (by omega)⟩
  obtain⟨t',ht',a,rfl,ha⟩:=aW tp mk.2 y hy
  rw[ht]at ht';cases ht'
  have hat:Dv ys (mk.2:Int)=some (.ref a):=iK hy
  have hl1:=ht1 t (abq ht)
  have sl:=uw ((p++q)++f)
  have a1:=bE p q
  have a2:=bE (p++q) f
  have hp3:=g.p3;have hq2:=g.q2;have hf2:=g.f2
  have ul:(JJ p q f).length<=9:=by
   unfold JJ
   have n1:(Str.ofString "\n").length=1:=by decide +kernel
   have n2:(" ":Str).length=1:=by decide +kernel
   have a3:=bE (jl ((p++q)++f)) (Str.ofString "\n")
   have a4:=bE (jl ((p++q)++f)++Str.ofString "\n") (" ":Str)
   omega
  have a5:=bE (JJ p q f) t.2
  have Uk:1000<=sizeLine:=by decide
  have sl2:=uw (JJ p q f++t.2)
  refine⟨_,O,_,_,_,_,_,O,ex,T.f6,T.ia,O,_,O,_,_,_,_,_,O,ex,T.f6,T.gB,O,_,O,_,_,_,_,O,O,hb,O,_,_,_,_,O,O,bw.of el,hat,_,_,_,_,O,O,ha,O,_,_,O,O,(by omega),_,O,(by omega),_,O,_,O,λD hD=>?_⟩
  have X8:(jl (JJ p q f++t.2)).cps.toList.length<=20:=by rw[abt];show(jl (JJ p q f++t.2)).length<=20;omega
  have Yb:cH p q f b1 b2 b3 b4 ts mk=(jl (JJ p q f++t.2)).cps.toList.filterMap λc=>(gu p q f b1 b2 b3 b4 ts mk c).map λm'=>(c,m'):=by unfold cH;rw[ht]
  rw[Yb]at k
  generalize jl (JJ p q f++t.2)=zs at X8 k⊢
  refine rj (z:=zs) (λi vs τ J=>(∃v,τ=[v,some (.ref b),some (.ref x)])/\aH H J/\J D=some (.lst vs)/\wj K (gu p q f b1 b2 b3 b4 ts mk) J vs (zs.cps.toList.take i)) ⟨⟨_,rfl⟩,au hD,aj,.nil⟩ (λi vs τ J _ p=>p.2.2.1) ?_ ?_
  ·rintro i c vs τ J hi ⟨⟨v,rfl⟩,sJ,hJ,fd⟩
   have hil:i<zs.cps.toList.length:=(abi.mp hi).1
   have hvl:=fd.length
   rw[abM]at hvl
   have eMJ:=eM.mono sJ
   obtain⟨dm,y,l',ys',em,eT,el',tp'⟩:=eMJ.ok
   refine qB ?_
   refine⟨_,O,_,O,_,_,_,_,_,O,sJ _ _ ex,T.f6,T.eY,O,_,_,_,O,em,O,_,O,_,O,m,.ref b,mk,c,ts,p,q,f,b1,b2,b3,b4,O,eMJ,⟨b,s,O,aF sJ hb,aF sJ hs⟩,λv' J2 s2 hv'=>?_⟩
   refine⟨(by show 2<=sizeLine;decide),λt2 Jk=>?_⟩
   have st:=au (o:=HO.tup [.str (sg c),v']) Jk
   have Yc:=st _ _ (s2 _ _ hJ)
   refine⟨Yc,abz (show vs.length<=100 by omega) (by decide),⟨_,O⟩,aR hD (sJ.trans (s2.trans st)),aj,?_⟩
   rw[aQ hi]
   exact dI (wj.but Yc (wj.mono (s2.trans st) fd)) (wj.but Yc (.cons ⟨t2,v',rfl,aj,mq.mono st hv'⟩ .nil))
  rintro vs τ J ⟨⟨v,rfl⟩,sJ,hJ,fd⟩
  rw[abr (abf _)]at fd
  have hvl:=fd.length
  dsimp only[bR]
  refine⟨_,O,D,O,⟨_,bw.of hJ⟩,λL hL=>?_⟩
  refine gM (K:=K) (a:=D) (xs:=vs) (λi us τ G=>(∃v,τ=[v])/\aH J G/\G L=some (.lst us)/\us.length<=i/\n5 K G us ((zs.cps.toList.take i).filterMap λc=>(gu p q f b1 b2 b3 b4 ts mk c).map λm'=>(c,m'))) ⟨⟨_,rfl⟩,au hL,aj,abf _,.nil⟩ (λi us τ G _ p=>⟨bw.of (p.2.1 _ _ hJ),p.2.2.1⟩) ?_ ?_
  ·rintro i e us τ G hi ⟨⟨v,rfl⟩,sG,hG,hul,ld⟩
   have hil:i<vs.length:=(abi.mp hi).1
   obtain⟨c,hc,t2,w2,rfl,h2,hm⟩:=aW fd i e hi
   have Yd:=sG _ _ h2
   have Sh:=mq.mono sG hm
   rw[aQ hc,List.filterMap_append]
   cases hM:gu p q f b1 b2 b3 b4 ts mk c with
   |none =>
    rw[hM]at Sh
    have Sh:w2=.non:=Sh
    subst Sh
    refine⟨_,O,t2,_,_,_,O,O,bz.of Yd,O,O,_,O,TF rfl ⟨⟨_,O⟩,sG,hG,by omega,?_⟩⟩
    rw[aco,hM]
    simpa using ld
   |some m' =>
    rw[hM]at Sh
    obtain⟨b3,s3,rfl,q1,q2⟩:=(show bV K G m' w2 from Sh)
    refine⟨_,rfl,t2,_,_,_,rfl,rfl,bz.of Yd,rfl,rfl,_,rfl,Ql (λz=>nomatch z) ⟨_,rfl,hG,abz (show us.length<=100 by omega) (by decide),⟨_,rfl⟩,aR hL sG,aj,by rw[abj];show us.length+1<=_;omega,?_⟩⟩
    rw[aco,hM]
    exact dI (n5.but hG ld) (n5.but hG (.cons ⟨t2,_,rfl,Yd,⟨b3,s3,rfl,q1,q2⟩⟩ .nil))
  ·rintro us τ G ⟨⟨v,rfl⟩,sG,hG,hul,ld⟩
   rw[hvl,abr (abf _)]at ld
   exact k L us G (sJ.free hL) hG ld (sJ.trans sG)
def sU(K:W.Frag)(C CT CM CW:Addr):Sp:=λvs H Q _=>∃(x:Addr)(v:V)(mk:aV)(ts:List (Str×Str))(p q f:Str)(b1 b2 b3 b4:Bool),vs=[.ref x,v]/\QF K C CT CM CW H x p q f b1 b2 b3 b4 ts/\bV K H mk v/\∀H',aH H H'->Q (.bl (decide (mk=((Str.ofString "row",("":Str)),ts.length)))) H'
theorem sV:br P w K mg base fO 2 (aC 32) (aL 32) ["self","place"] (sU K (aC 60) (aC 61) (aC 62) (aC 63)):=by
 have nB:=@mL P w K mg base aC aL cV T
 refine T.uI.ok rO (λvs H Q E h=>?_) (λcdv A outer s H vs Q E hr h=>?_)
 ·obtain⟨x,v,mk,ts,p,q,f,b1,b2,b3,b4,rfl,_⟩:=h;rfl
 ·have hu:=bf hr
  have gj:=hr.aO
  obtain⟨x,v,mk,ts,p,q,f,b1,b2,b3,b4,rfl,hW,hv,k⟩:=h
  obtain⟨dx,m,l,ys,ex,eM,el,tp⟩:=hW.ok
  obtain⟨dm,y,l',ys',em,eT,el',tp'⟩:=eM.ok
  refine⟨_,(ak (ay (pN (k:=1) (aT K rfl (pv 0) rfl) T.iJ T.nq nB (hr.mono (by decide)) T.nk .nil iz (af (pv 1) ai)))),?_⟩
  exact⟨_,O,_,_,_,_,_,O,ex,T.f6,T.eY,O,_,_,_,O,em,O,_,O,m,v,mk,ts,p,q,f,b1,b2,b3,b4,O,eM,hv,k⟩
def Jl(P:Program)(w:World)(K:W.Frag)(C CT CM CW:Addr):Sp:=λvs H Q _=>∃(x:Addr)(v:V)(U:List aV)(ts:List (Str×Str))(p q f:Str)(b1 b2 b3 b4:Bool),vs=[v,.ref x,.non]/\QF K C CT CM CW H x p q f b1 b2 b3 b4 ts/\Gd p q f/\bV K H m0 v/\(∀t∈ts,t.2.length<=1)/\U.length<=100000/\m0∈U/\(∀m∈U,m.2<ts.length->∀e∈cH p q f b1 b2 b3 b4 ts m,e.2∈U)/\(∀m∈U,m.2<ts.length\/vh ts m=true)/\∀t rv r a cm H',H a=none->cm.length<=U.length->H' t=some (.tup [rv,.ref a])->mq K r H' rv->eH P w K H' a cm->yw (vh ts) (cH p q f b1 b2 b3 b4 ts) [(m0,none)] [m0] r cm->aH H H'->Q (.ref t) H'
theorem Jm:br P w K mg base fO 7 (aC 33) (aL 33) ["first","searched","most"] (Jl P w K (aC 60) (aC 61) (aC 62) (aC 63)):=by
 have uV:=@sV P w K mg base aC aL cV T
 have zo:=@wY P w K mg base aC aL cV T
 refine T.Ez.ok gO (λvs H Q E h=>?_) (λcdv A outer s H vs Q E hr h=>?_)
 ·obtain⟨x,v,U,ts,p,q,f,b1,b2,b3,b4,rfl,_⟩:=h;rfl
 ·have hu:=bf hr
  have gj:=hr.aO
  obtain⟨x,v,U,ts,p,q,f,b1,b2,b3,b4,rfl,hW,g,hv,ht1,hUl,Hz,hU,UM,k⟩:=h
  have ig:=hr.units
  obtain⟨b,s,rfl,hb,hs⟩:=hv
  refine⟨_,(ah (dg 3 gO.nd (AX (YM P w K) (aM P w) rfl rfl rfl (hn1 ig) (pv 0) cO))
   (ah (dg 4 gO.nd (bM (af (pv 0) ai)))
   (ah (xW abL (di (G7 K rfl gj) (pv 4) (bM ai))
   (ah (dO abL rfl (cQ K rfl (pv 4)) (fu 5 gO.nd)
   (ak (aK (bJ (pN (k:=2) (pv 1) T.f6 T.uK uV (hr.mono (by decide)) T.uJ .nil iz (af (pv 5) ai))) (ak (ay (aB (af (pv 5) (af (pv 3) ai))))) aA)))
   (ah (aK (PW.pt (dM (di xH (pv 2) cO) (cU (di qW (jC (aX K rfl) T.bS (af (pv 3) ai)) (pv 2))))) (ak (ay (aB (af cO (af (pv 3) ai))))) aA)
   (ah (dg 6 gO.nd (bM ai))
   (ah (dO abL rfl (cQ K rfl (pv 4)) (fu 5 gO.nd)
   (ak (dO abL rfl (cQ K rfl (pN (k:=6) (pv 1) T.f6 T.yX zo (hr.mono (by decide)) T.yW .nil iz (af (pv 5) ai))) (fu 7 gO.nd)
   (ak (aK (J4 (yj (YM P w K) (aM P w) rfl rfl rfl (hn2 ig) (gg K (pv 7) aq) (pv 3))) (ah (DU (YM P w K) (aM P w) rfl rfl rfl (hn2 ig) (pv 3) (gg K (pv 7) aq) (aB (af (pv 5) (af (gg K (pv 7) aq) ai))) rfl)
   (ak (d7 (gc K rfl abQ abU abV cN (pv 6) (af (gg K (pv 7) aq) ai))))) aA)))))
   (ak (dg 4 gO.nd (pv 6))))))))
   (ak (ay (aB (af cO (af (pv 3) ai)))))))),?_⟩
  refine λa ha=>?_
  have sA:=au (o:=dN (ZM P w) (aM P w) a []) ha
  refine⟨_,rfl,bq m0,b,rfl,aj,iL (P:=P) (w:=w) (m:=m0) (aF sA hb) (aF sA hs),?_⟩
  have c1:eH P w K (upd (upd H a (dN (ZM P w) (aM P w) a [])) a (dN (ZM P w) (aM P w) a [(bq m0,b,.non)])) a [(m0,none)]:=eH.one aj ⟨b,s,rfl,aF sA hb,aF sA hs⟩
  have s1:aH H (upd (upd H a (dN (ZM P w) (aM P w) a [])) a (dN (ZM P w) (aM P w) a [(bq m0,b,.non)])):=aR ha sA
  generalize upd (upd H a (dN (ZM P w) (aM P w) a [])) a (dN (ZM P w) (aM P w) a [(bq m0,b,.non)])=H1 at c1 s1⊢
  refine⟨_,O,(by show 1<=sizeLine;decide),λl0 JM=>?_⟩
  have s2:=au (o:=HO.lst [.ref b]) JM
  have g2:=aj (H:=H1) (a:=l0) (o:=HO.lst [.ref b])
  generalize upd H1 l0 (.lst [.ref b])=H2 at s2 g2⊢
  have s12:=s1.trans s2
  dsimp only[bR]
  refine⟨λn σ J=>∃l vs aS cm v5 v6 v7,σ=[some (.ref b),some (.ref x),some .non,some (.ref a),some (.ref l),v5,v6,v7]/\aH H J/\J l=some (.lst vs)/\mw K J vs aS/\eH P w K J a cm/\JK U cm/\(∀m∈aS,m∈U)/\(∀r zJ,yw (vh ts) (cH p q f b1 b2 b3 b4 ts) cm aS r zJ->yw (vh ts) (cH p q f b1 b2 b3 b4 ts) [(m0,none)] [m0] r zJ)/\n=2*(U.length-cm.length)+(if aS=[] then 0 else 1),⟨_,l0,_,[m0],_,_,_,_,O,s12,g2,.cons ⟨b,s,O,aF s12 hb,aF s12 hs⟩ .nil,c1.mono s2,⟨by simp,λm hm=>?_⟩,λm hm=>?_,λr zJ q=>q,O⟩,?_⟩
  ·rw[abh.mp hm];exact Hz
  ·rw[abh.mp hm];exact Hz
  rintro n σ J ⟨l,vs,aS,cm,v5,v6,v7,rfl,sJ,hl,em,ca,iu,eU,hR,hn⟩
  refine⟨_,O,(by decide),λe he=>⟨_,_,_,O,O,bw.of (au he _ _ hl),bw.of aj,_,O,?_⟩⟩
  have se:=au (o:=HO.lst []) he
  replace sJ:=sJ.trans se
  replace hl:=se _ _ hl
  replace em:=em.keep λb xs q=>aF se q
  replace ca:=ca.mono se
  generalize upd J e (.lst [])=J1 at sJ hl em ca⊢
  clear se he
  cases em with
  |nil =>
   refine cJ ⟨_,rfl,(by show 2<=sizeLine;decide),λt ht=>?_⟩
   exact k t .non none a cm _ ha iu.len aj rfl (ca.mono (au ht)) (hR _ _ .stop) (sJ.trans (au ht))
  |@cons v1 e1 vs aS h1 em =>
  have em:mw K J1 (v1::vs) (e1::aS):=.cons h1 em
  have hne:e1::aS≠[]:=λq=>nomatch q
  refine j9 ?_
  generalize e1::aS=aS at em hne hn hR eU
  generalize v1::vs=vs at em hl
  rw[abb hne]at hn
  refine⟨λσ G=>∃l vs v5 v6 v7,σ=[some (.ref b),some (.ref x),some .non,some (.ref a),some (.ref l),v5,v6,v7]/\aS.find? (vh ts)=none/\aH H G/\G l=some (.lst vs)/\mw K G vs (expand (cH p q f b1 b2 b3 b4 ts) cm aS).2/\eH P w K G a (expand (cH p q f b1 b2 b3 b4 ts) cm aS).1/\JK U (expand (cH p q f b1 b2 b3 b4 ts) cm aS).1/\∀m∈(expand (cH p q f b1 b2 b3 b4 ts) cm aS).2,m∈U,?_,?_⟩
  ·rintro σ G ⟨l,vs,v5,v6,v7,rfl,hf,sG,hl,em,ca,EI,Ye⟩
   refine⟨_,?_,l,vs,_,_,v5,v6,v7,O,sG,hl,em,ca,EI,Ye,λr zJ q=>hR r zJ (.go hne hf q),O⟩
   have e1:=lG (led:=cH p q f b1 b2 b3 b4 ts) aS (cm,[])
   have e2:=EI.len
   have e3:=iu.len
   unfold expand at e2⊢
   rw[hn]
   simp only[acn,Nat.add_zero]at e1
   by_cases q:(aS.foldl (gv (cH p q f b1 b2 b3 b4 ts)) (cm,[])).2=[]
   ·rw[abe q];rw[q,acn]at e1;omega
   ·rw[abb q]
    have:=List.length_pos_iff.mpr q
    omega
  refine⟨_,O,l,O,⟨_,bw.of hl⟩,?_⟩
  refine jD (K:=K) (a:=l) (xs:=vs) (λi σ G=>aH J1 G/\(∀m∈aS.take i,vh ts m=false)/\∃v5,σ=[some (.ref b),some (.ref x),some .non,some (.ref a),some (.ref l),v5,v6,v7]) ⟨aH.refl _,(λm hm=>nomatch hm),_,rfl⟩ (λi σ G _ q=>bw.of (q.1 _ _ hl)) ?_ ?_
  ·rintro i e2 σ G hi ⟨sG,hno,Yg,rfl⟩
   obtain⟨m,hm,hv⟩:=aW em i e2 hi
   have Gr:=hv.mono sG
   have UN:=hW.mono (sJ.trans sG)
   obtain⟨dx,mm,ll,ys,ex,eM,el,tp⟩:=UN.ok
   obtain⟨bx,sx,rfl,q1,q2⟩:=id Gr
   dsimp only[bR]
   refine⟨_,O,_,_,_,O,ex,O,_,O,x,.ref bx,m,ts,p,q,f,b1,b2,b3,b4,O,UN,Gr,λG2 s2=>⟨_,O,?_⟩⟩
   by_cases hg:vh ts m=true
   ·refine ko hg ⟨_,rfl,_,rfl,(by show 2<=sizeLine;decide),λt ht=>?_⟩
    have st:=(sG.trans s2).trans (au (o:=HO.tup [.ref bx,.ref a]) ht)
    exact k t _ (some m) a cm _ ha iu.len aj (hv.mono st) (ca.mono st) (hR _ _ (.found (NK hm hg hno))) (sJ.trans st)
   ·refine jj (gZ hg) ⟨sG.trans s2,λm' hm'=>?_,_,rfl⟩
    rw[aQ hm]at hm'
    rcases abp.mp hm' with z|z
    ·exact hno m' z
    ·rw[abh.mp z];exact gZ hg
  rintro σ G ⟨sG,hno,Yg,rfl⟩
  rw[em.length,abr (abf _)]at hno
  have hf:=Hr hno
  replace sJ:=sJ.trans sG
  replace hl:=sG _ _ hl
  replace em:=em.keep λb xs q=>aF sG q
  replace ca:=ca.mono sG
  clear sG
  dsimp only[bR]
  refine⟨_,O,O,_,O,TF rfl (cJ (⟨(by decide),λlf Jo=>⟨_,O,_,O,⟨_,bw.of (au Jo _ _ hl)⟩,?_⟩⟩))⟩
  have sf:=au (o:=HO.lst []) Jo
  have Mm:=aj (H:=G) (a:=lf) (o:=HO.lst [])
  have Yh:lf≠l:=λq=>by rw[q,hl]at Jo;cases Jo
  have Yi:H lf=none:=sJ.free Jo
  replace sJ:=sJ.trans sf
  replace hl:=sf _ _ hl
  replace em:=em.keep λb xs q=>aF sf q
  replace ca:=ca.mono sf
  generalize upd G lf (.lst [])=G1 at sJ hl em ca Mm⊢
  clear sf Jo
  refine jD (K:=K) (a:=l) (xs:=vs) (λi σ J=>aH H J/\J l=some (.lst vs)/\mw K J vs aS/\∃fv v5 v7,σ=[some (.ref b),some (.ref x),some .non,some (.ref a),some (.ref l),v5,some (.ref lf),v7]/\J lf=some (.lst fv)/\mw K J fv ((aS.take i).foldl (gv (cH p q f b1 b2 b3 b4 ts)) (cm,[])).2/\eH P w K J a ((aS.take i).foldl (gv (cH p q f b1 b2 b3 b4 ts)) (cm,[])).1/\JK U ((aS.take i).foldl (gv (cH p q f b1 b2 b3 b4 ts)) (cm,[])).1/\∀m∈((aS.take i).foldl (gv (cH p q f b1 b2 b3 b4 ts)) (cm,[])).2,m∈U) ⟨sJ,hl,em,[],_,_,rfl,Mm,.nil,ca,iu,λm hm=>nomatch hm⟩ (λi σ J _ q=>bw.of q.2.1) ?_ ?_
  ·rintro i e2 σ J hi ⟨MH,hl',Ro,fv,Yg,Yj,rfl,Pp,mf,Mp,EI,fU⟩
   obtain⟨m,hm,hv⟩:=aW Ro i e2 hi
   have Si:=eU m (abq hm)
   have hmt:m.2<ts.length:=by
    rcases UM m Si with z|z
    ·exact z
    ·rw[hno m (abq hm)]at z;cases z
   have Pq:=hU m Si hmt
   have ef:(aS.take (i+1)).foldl (gv (cH p q f b1 b2 b3 b4 ts)) (cm,[])=(cH p q f b1 b2 b3 b4 ts m).foldl (dB m) ((aS.take i).foldl (gv (cH p q f b1 b2 b3 b4 ts)) (cm,[])):=by rw[aQ hm,abP];rfl
   rw[ef]
   have hal:((aS.take i).foldl (gv (cH p q f b1 b2 b3 b4 ts)) (cm,[])).2.length<=((aS.take i).foldl (gv (cH p q f b1 b2 b3 b4 ts)) (cm,[])).1.length:=by
    have q:=lG (led:=cH p q f b1 b2 b3 b4 ts) (aS.take i) (cm,[])
    simp only[acn,Nat.add_zero]at q
    omega
   generalize (aS.take i).foldl (gv (cH p q f b1 b2 b3 b4 ts)) (cm,[])=acc at mf Mp EI fU hal⊢
   have UN:=hW.mono MH
   obtain⟨dx,mm,ll0,ys,ex,eM,el,tp⟩:=UN.ok
   obtain⟨bx,sx,rfl,q1,q2⟩:=id hv
   dsimp only[bR]
   refine⟨_,O,_,_,_,O,ex,O,_,O,x,.ref bx,m,ts,p,q,f,b1,b2,b3,b4,O,UN,hv,g,hmt,ht1,λll us J2 UO hll ld s2=>?_⟩
   have nll:ll≠lf:=λq=>by rw[q,Pp]at UO;cases UO
   have ca2:=Mp.mono s2
   refine⟨ll,O,⟨_,bw.of hll⟩,?_⟩
   generalize hes:cH p q f b1 b2 b3 b4 ts m=es at ld Pq⊢
   refine jD (K:=K) (a:=ll) (xs:=us) (λj σ G=>aH H G/\G ll=some (.lst us)/\n5 K G us es/\G l=some (.lst vs)/\mw K G vs aS/\bV K G m (.ref bx)/\∃fv v7,σ=[some (.ref b),some (.ref x),some .non,some (.ref a),some (.ref l),some (.ref bx),some (.ref lf),v7]/\G lf=some (.lst fv)/\mw K G fv ((es.take j).foldl (dB m) acc).2/\eH P w K G a ((es.take j).foldl (dB m) acc).1/\JK U ((es.take j).foldl (dB m) acc).1/\∀m'∈((es.take j).foldl (dB m) acc).2,m'∈U) ⟨MH.trans s2,hll,ld,s2 _ _ hl',Ro.keep (λb xs q=>aF s2 q),hv.mono s2,fv,_,rfl,s2 _ _ Pp,mf.keep (λb xs q=>aF s2 q),ca2,EI,fU⟩ (λj σ G _ q=>bw.of q.2.1) ?_ ?_
   ·rintro j e3 σ G hj ⟨sG,Rp,ldG,JO,JP,Gr,fv,Yj,rfl,JQ,EX,EY,EZ,HL⟩
    obtain⟨⟨c,m'⟩,Qx,t3,w3,rfl,h3,Jp⟩:=aW ldG j e3 hj
    have Mq:=Pq _ (abq Qx)
    have ev:(es.take (j+1)).foldl (dB m) acc=dB m ((es.take j).foldl (dB m) acc) (c,m'):=by rw[aQ Qx,abP];rfl
    rw[ev]
    have Rq:((es.take j).foldl (dB m) acc).2.length<=((es.take j).foldl (dB m) acc).1.length:=by
     have q:=rH (p:=m) (es.take j) acc
     omega
    generalize (es.take j).foldl (dB m) acc=ac at EX EY EZ HL Rq⊢
    have UP:=Hq (p:=m) (e:=(c,m')) EZ Mq
    have hlen:=EZ.len
    obtain⟨kvs,d,cr⟩:=EY.ok
    have kl:=Ec cr
    obtain⟨b3,s3,rfl,z1,z2⟩:=id Jp
    have ka:qA (YM P w K) G (bq m') b3:=iL z1 z2
    dsimp only[bR]
    refine⟨_,O,t3,_,_,_,O,O,bz.of h3,O,_,O,a,kvs,bq m',b3,O,O,d,ka,_,O,?_⟩
    rw[yx cr]
    cases hh:cK ac.1 m' with
    |true =>
     have e4:dB m ac (c,m')=ac:=abe hh
     rw[e4]
     exact cJ ⟨sG,Rp,ldG,JO,JP,Gr,fv,_,rfl,JQ,EX,EY,EZ,HL⟩
    |false =>
     have e4:dB m ac (c,m')=(ac.1++[(m',some (m,c))],ac.2++[m']):=abb (by rw[hh];decide)
     rw[e4]at UP⊢
     refine j9 ?_
     refine⟨_,O,_,O,t3,_,_,_,O,O,bz.of h3,O,(by show 2<=sizeLine;decide),λt4 UQ=>?_⟩
     have s4:=au (o:=HO.tup [.ref bx,.str (sg c)]) UQ
     have g4:=aj (H:=G) (a:=t4) (o:=HO.tup [.ref bx,.str (sg c)])
     generalize upd G t4 (.tup [.ref bx,.str (sg c)])=G4 at s4 g4⊢
     have d4:=d.mono s4
     have cr4:=cr.keep λb xs q=>aF s4 q
     have hm4:=Jp.mono s4
     have lk4:rG K (some (m,c)) G4 (.ref t4):=⟨t4,.ref bx,rfl,bz.of g4,Gr.mono s4⟩
     have c5:=eH.put d4 cr4 hm4 hh lk4
     have Pr:kvs.length<sizeLine:=abz (show kvs.length<=100000 by omega) (by decide)
     refine⟨_,O,_,O,t3,_,_,_,O,O,bz.of (s4 _ _ h3),O,a,kvs,bq m',b3,O,O,d4,qA.mono s4 ka,Pr,?_⟩
     have tq:=kP (F:=K) d4.ob (o:=dN (ZM P w) (aM P w) a (putN kvs (bq m') b3 (.ref t4)))
     have t1:∀b' xs,G4 b'=some (.tup xs)->(upd G4 a (dN (ZM P w) (aM P w) a (putN kvs (bq m') b3 (.ref t4)))) b'=some (.tup xs):=λb' xs e=>(aD (ji e d4.ob (λq=>nomatch q))).trans e
     have tl:∀b' xs,G4 b'=some (.lst xs)->(upd G4 a (dN (ZM P w) (aM P w) a (putN kvs (bq m') b3 (.ref t4)))) b'=some (.lst xs):=λb' xs e=>(aD (ji e d4.ob (λq=>nomatch q))).trans e
     have s5:aH H (upd G4 a (dN (ZM P w) (aM P w) a (putN kvs (bq m') b3 (.ref t4)))):=aR ha (sG.trans s4)
     have ll5:=tl _ _ (s4 _ _ Rp)
     have l5:=tl _ _ (s4 _ _ JO)
     have Dw:=tl _ _ (s4 _ _ JQ)
     have ld5:=(ldG.mono s4).keep t1 tq
     have Rn:=(JP.keep λb xs q=>aF s4 q).keep tq
     have Rr:=(EX.keep λb xs q=>aF s4 q).keep tq
     have hv5:=(Gr.mono s4).keep tq
     have UR:=hm4.keep tq
     have h35:=t1 _ _ (s4 _ _ h3)
     generalize upd G4 a (dN (ZM P w) (aM P w) a (putN kvs (bq m') b3 (.ref t4)))=G5 at c5 s5 ll5 l5 Dw ld5 Rn Rr hv5 UR h35⊢
     have Yk:=Rr.length
     refine⟨_,O,.inl ⟨O,_,bw.of Dw⟩,_,O,t3,_,_,_,O,O,bz.of h35,O,lf,_,_,O,O,Dw,?_,?_⟩
     ·exact abz (show fv.length<=200000 by rw[Yk];omega) (by decide)
     refine⟨aR Yi s5,(aD nll).trans ll5,ld5.but Dw,(aD (ab9 Yh)).trans l5,Rn.keep (λb xs q=>g5 Dw q),hv5.but Dw,fv++[.ref b3],_,O,aj,dI (Rr.keep λb xs q=>g5 Dw q) (.cons (UR.but Dw) .nil),c5.but Dw,UP,λm1 hm1=>?_⟩
     rcases abp.mp hm1 with z|z
     ·exact HL m1 z
     ·rw[abh.mp z];exact Mq
   ·rintro σ G ⟨sG,Rp,ldG,JO,JP,Gr,fv,Yj,rfl,JQ,EX,EY,EZ,HL⟩
    rw[ld.length,abr (abf _)]at EX EY EZ HL
    exact⟨sG,JO,JP,fv,_,_,O,JQ,EX,EY,EZ,HL⟩
  ·rintro σ J ⟨MH,hl',Ro,fv,Yg,Yj,rfl,Pp,mf,Mp,EI,fU⟩
   rw[em.length,abr (abf _)]at mf Mp EI fU
   exact⟨_,O,lf,fv,_,_,_,O,hf,MH,Pp,mf,Mp,EI,fU⟩
def Gs(P:Program)(w:World)(K:W.Frag):Sp:=λvs H Q _=>∃(a:Addr)(v:V)(cm:Cm)(m:aV)(x:Option (aV×Nat))(xs:List Nat),vs=[.ref a,v]/\eH P w K H a cm/\bV K H m v/\yy cm m=some x/\rJ cm x xs/\xs.length<=100000/\∀H',aH H H'->Q (.str (Txt.join ("":Str) (xs.map sg).reverse)) H'
theorem Gu:br P w K mg base fO 1 (aC 34) (aL 34) ["came","place"] (Gs P w K):=by
 refine T.Br.ok mG (λvs H Q E h=>?_) (λcdv A outer s H vs Q E hr h=>?_)
 ·obtain⟨a,v,cm,m,x,xs,rfl,_⟩:=h;rfl
 ·have hu:=bf hr
  have gj:=hr.aO
  obtain⟨a,v,cm,m,x,xs,rfl,hC,hm,hx,hp,Sj,k⟩:=h
  have ig:=hr.units
  obtain⟨b,s,rfl,hb,hs⟩:=hm
  refine⟨_,(ah (dg 2 mG.nd (bM ai))
   (ah (dg 3 mG.nd (DT (YM P w K) (aM P w) rfl rfl rfl (hn2 ig) (pv 0) (pv 1) (λ_ _=>rfl)))
   (ah (xW abL (di xH (pv 3) cO)
   (ah (d7 (gc K rfl abQ abU abV cN (pv 2) (af (gg K (pv 3) aq) ai)))
   (ak (dg 3 mG.nd (DT (YM P w K) (aM P w) rfl rfl rfl (hn2 ig) (pv 0) (gg K (pv 3) aq) (λ_ _=>rfl))))))
   (ak (ay (DX K rfl rfl rfl T.EE ao (af (pv 2) ai))))))),?_⟩
  refine⟨(by decide),λl hl=>⟨_,O,_,O,?_⟩⟩
  have s1:=au (o:=HO.lst []) hl
  have hl1:=aj (H:=H) (a:=l) (o:=HO.lst [])
  generalize upd H l (.lst [])=H1 at s1 hl1⊢
  obtain⟨kvs,d,cr⟩:=(hC.mono s1).ok
  obtain⟨v,hv,lv⟩:=yz cr hx
  refine⟨a,kvs,bq m,b,v,O,O,d,iL (aF s1 hb) (aF s1 hs),hv,?_⟩
  dsimp only[bR]
  refine⟨λn σ J=>∃done rest x v,σ=[some (.ref a),some (.ref b),some (.ref l),some v]/\aH H J/\J l=some (.lst ((done.map sg).map V.str))/\rG K x J v/\rJ cm x rest/\xs=done++rest/\n=rest.length,⟨_,[],xs,x,v,O,s1,hl1,lv,hp,O,O⟩,?_⟩
  rintro n σ J ⟨done,rest,x,v,rfl,sJ,Sk,lv,hp,hxs,hn⟩
  cases hp with
  |nil =>
   have lv:v=.non:=lv
   subst lv
   rw[abI]at hxs
   subst hxs
   refine⟨_,O,O,_,O,jj rfl ?_⟩
   refine⟨_,O,_,O,l,xs.map sg,O,bw.of Sk,?_,k J sJ⟩
   rw[Hs,abg]
   show xs.length+xs.length*0<=_
   omega
  |@cons m1 c1 x1 r1 hx1 hp1 =>
   obtain⟨t,w1,rfl,ht,hw⟩:=lv
   refine⟨_,O,O,_,O,ko rfl ?_⟩
   refine⟨λσ J=>∃v,σ=[some (.ref a),some (.ref b),some (.ref l),some v]/\aH H J/\J l=some (.lst (((done++[c1]).map sg).map V.str))/\rG K x1 J v,?_,?_⟩
   ·rintro σ J' ⟨v,rfl,MH,hl',lv'⟩
    exact⟨_,by rw[hn];exact acO _,_,_,_,_,O,MH,hl',lv',hp1,by rw[hxs,abJ];rfl,O⟩
   have hdl:done.length<=100000:=by rw[hxs,abj]at Sj;omega
   refine⟨_,O,.inl ⟨O,_,bw.of Sk⟩,_,O,t,_,_,_,O,O,ht,O,l,_,_,O,O,Sk,?_,?_⟩
   ·exact abz (show((done.map sg).map V.str).length<=100000 by rw[abg,abg];exact hdl) (by decide)
   have Jk:=g5 (o:=HO.lst ((done.map sg).map V.str++[.str (sg c1)])) Sk ht
   obtain⟨kvs,d,cr⟩:=((hC.mono sJ).but (o:=HO.lst ((done.map sg).map V.str++[.str (sg c1)])) Sk).ok
   obtain⟨v,hv,lv⟩:=yz cr hx1
   obtain⟨b1,s1,rfl,q1,q2⟩:=hw.keep (λb xs q=>g5 (o:=HO.lst ((done.map sg).map V.str++[.str (sg c1)])) Sk q)
   refine⟨_,O,_,O,t,_,_,_,O,O,Jk,O,a,kvs,bq m1,b1,v,O,O,d,iL q1 q2,hv,?_⟩
   exact⟨v,O,aR hl sJ,by rw[abx,abx];exact aj,lv⟩
def Gv(K:W.Frag):Sp:=λvs H Q _=>∃(l:Addr)(ys:List V)(ts:List (Str×Str))(n:Nat),vs=[.ref l,.int n]/\H l=some (.lst ys)/\Paired (c7 K H) ys ts/\n<=ts.length/\ts.length<=9000/\∀t H',H' t=some (.tup [.int (cellAt (ts.take n)).1,.int (cellAt (ts.take n)).2])->aH H H'->Q (.ref t) H'
theorem Gw:br P w K mg base fO 1 (aC 35) (aL 35) ["tokens","count"] (Gv K):=by
 refine T.Bs.ok gE (λvs H Q E h=>?_) (λcdv A outer s H vs Q E hr h=>?_)
 ·obtain⟨l,ys,ts,n,rfl,_⟩:=h;rfl
 ·have hu:=bf hr
  have gj:=hr.aO
  obtain⟨l,ys,ts,n,rfl,hl,tp,hn,Pu,k⟩:=h
  have ig:=hr.units
  refine⟨_,(ah (dg 2 gE.nd aq)
   (ah (dg 3 gE.nd aq)
   (ah (dO abL rfl (cQ K rfl (DF (DK K rfl) (pv 0) GX (GY (pv 1)))) (fu 4 gE.nd)
   (ak (aK (di (BU (YL _ _ K) rfl (hn0 ig)) (pv 4) (jt rfl T.HG)) (ak (dg 3 gE.nd (aJ cX (pv 3) aq))) (ak (aK (di (BU (YL _ _ K) rfl (hn0 ig)) (pv 4) (jt rfl T.Mf)) (ah (dg 2 gE.nd (aJ cX (pv 2) aq))
   (ak (dg 3 gE.nd aq))) aA)))))
   (ak (ay (aB (af (pv 2) (af (pv 3) ai)))))))),?_⟩
  have tl:=tp.length
  refine⟨_,O,_,O,_,O,_,_,O,bw.of hl,λl1 hl1=>⟨_,O,⟨_,bw.of aj⟩,?_⟩⟩
  rw[LJ _ _ (by omega)]
  (have s1:=au (o:=HO.lst (List.take n ys)) hl1;have g1:=aj (H:=H) (a:=l1) (o:=HO.lst (List.take n ys));generalize upd H l1 (HO.lst (List.take n ys))=H1 at s1 g1⊢)
  have tp1:=vj n (bW s1 tp)
  have htk:(ts.take n).length=n:=by rw[abM];omega
  refine jD (K:=K) (a:=l1) (xs:=ys.take n) (λi σ J=>aH H1 J/\∃v,σ=[some (.ref l),some (.int n),some (.int (cellAt ((ts.take n).take i)).1),some (.int (cellAt ((ts.take n).take i)).2),v]) ⟨aH.refl _,_,rfl⟩ (λi σ J _ q=>bw.of (q.1 _ _ g1)) ?_ ?_
  ·rintro i e σ J hi ⟨sJ,v,rfl⟩
   obtain⟨t,ht,a,rfl,ha⟩:=aW tp1 i e hi
   have hil:i<(ys.take n).length:=(abi.mp hi).1
   rw[abM]at hil
   have hc:cellAt ((ts.take n).take (i+1))=nF (cellAt ((ts.take n).take i)) t:=by rw[aQ ht];unfold cellAt;rw[abP];rfl
   rw[hc]
   have hb:=uy ((ts.take n).take i) (0,0)
   rw[abM]at hb
   have hb:(cellAt ((ts.take n).take i)).1<=9000/\(cellAt ((ts.take n).take i)).2<=9000:=by unfold cellAt;omega
   generalize cellAt ((ts.take n).take i)=rc at hb⊢
   have haJ:=aF sJ ha
   dsimp only[bR]
   refine⟨_,rfl,a,(aC 69),_,_,rfl,rfl,gT (P:=P) (w:=w) haJ,gT (P:=P) (w:=w) (.inr T.HH),_,rfl,TL (λh1=>?_) (λh1=>?_)⟩
   ·have h1:=dP.mp h1
    have e1:t=dY:=h1
    refine⟨_,O,_,_,O,O,sJ,some (.ref a),?_⟩
    unfold nF
    rw[abe e1]
    rfl
   ·have h1:¬t=dY:=λq=>h1 (dP.mpr q)
    refine⟨_,rfl,a,(aC 70),_,_,rfl,rfl,gT (P:=P) (w:=w) haJ,gT (P:=P) (w:=w) (.inr T.Mg),_,rfl,TL (λh2=>?_) (λh2=>?_)⟩
    ·have h2:=dP.mp h2
     have e2:t=rE:=h2
     refine⟨_,O,_,_,O,O,sJ,some (.ref a),?_⟩
     unfold nF
     rw[abb h1,abe e2]
     rfl
    ·have h2:¬t=rE:=λq=>h2 (dP.mpr q)
     refine⟨sJ,some (.ref a),?_⟩
     unfold nF
     rw[abb h1,abb h2]
     rfl
  rintro σ J ⟨sJ,v,rfl⟩
  rw[abM,show min n ys.length=n by omega,abr (by omega)]
  refine⟨_,O,_,O,(by show 2<=sizeLine;decide),λt ht=>?_⟩
  exact k t _ aj (s1.trans (sJ.trans (au ht)))
def EJ(P:Program)(w:World)(K:W.Frag)(C CT CM CW CN:Addr):Sp:=λvs H Q E=>∃(x dx a:Addr)(xs:List V)(t:List (List Str))(p q f:Str)(b1 b2 b3 b4:Bool),vs=[.ref x,.ref a]/\H x=some (.ins C dx (zI p q f b1 b2 b3 b4))/\Gd p q f/\H a=some (.lst xs)/\Paired (bC H) xs t/\TabOk t/\(∀cs H',Bd p q f b1 b2 b3 b4 (az t) cs->fH p q f b1 b2 b3 b4 (az t) cs.length->cs.length<=1+11*(az t).length->(∀c∈cs,c=10\/Pn c)->aH H H'->Q (.str (Txt.join ("":Str) (cs.map sg))) H')/\(∀n,QI p q f b1 b2 b3 b4 (az t)->zK p q f b1 b2 b3 b4 (az t) n->∀d H',H d=none->H' d=some (Ny d (Sd (cellAt ((az t).take n)).1 (cellAt ((az t).take n)).2))->aH H H'->E (.ref CN) (some d) H')
theorem EK:br P w K mg base (Nl P w) 12 (aC 36) (aL 36) ["dialect","table"] (EJ P w K (aC 60) (aC 61) (aC 62) (aC 63) (aC 66)):=by
 have o9:=@nu P w K mg base aC aL cV T
 have sW:=@qR P w K mg base aC aL cV T
 have Jq:=@Gw P w K mg base aC aL cV T
 have Mr:=@Jm P w K mg base aC aL cV T
 have Jr:=@Gu P w K mg base aC aL cV T
 have EL:=@CH P w K mg base aC aL cV T
 refine T.yY.okE iV (λvs H Q E h=>?_) (λcdv A outer s H vs Q E hr h=>?_)
 ·obtain⟨x,dx,a,xs,t,p,q,f,b1,b2,b3,b4,rfl,_⟩:=h;rfl
 ·have hu:=bf hr
  have gj:=hr.aO
  obtain⟨x,dx,a,xs,t,p,q,f,b1,b2,b3,b4,rfl,hx,g,ha,pr,tok,k1,k2⟩:=h
  have ig:=hr.units
  have uo:=uok (b1:=b1) (b2:=b2) (b3:=b3) (b4:=b4) g (dQ (t:=t)) (Ca tok)
  refine⟨_,(ah (dg 2 iV.nd (fP EL hr T.Et T.vp.kp T.Es (af (pv 1) ai)))
   (ah (dg 3 iV.nd (GV (k:=7) Mr (hr.mono (by decide)) rfl T.L5 T.Ez.kp T.vG.choose_spec.2 T.vG.choose_spec.1 iz (af (aB (af (jt rfl T.oZ) (af aq ai))) (af (qZ (k:=10) T.Ma sW (hr.mono (by decide)) rfl T.L8 T.rX .nil iz (af (pv 0) (af (pv 2) ai))) ai))))
   (ah (dg 4 iV.nd (gg K (pv 3) aq))
   (ah (aK (di t6 (gg K (pv 3) aq) cO) (ah (dg 5 iV.nd (fP Jq hr T.Jc T.Bs.kp T.Jb (af (pv 2) (af (jC (A0 K rfl rfl) T.Mb (af (fS rfl (show bD ["dialect","table","tokens","found","came","lacking"] (av lV) ["place"] 1 [] _ from Hl) (DY (YM P w K) (aM P w) rfl rfl rfl (pv 4)) (λ_ _ _ _=>(fu 0 IA)) (λ_ _ _ _=>eg) (λ_ _ _ _=>(gg K (pv 0) aq))) ai)) ai))))
   (ak (Iz rfl T.dZ (.inr ⟨_,_,rfl,T.cS⟩) T.sN.choose_spec.1 T.sN.choose_spec.2 o9 (hr.mono (by decide)) T.oB T.zX rfl T.vH (af (gg K (pv 5) aq) (af (gg K (pv 5) aq) ai))))) aA)
   (ak (ay (fP Jr hr T.Ja T.Br.kp T.IZ (af (pv 4) (af (gg K (pv 3) aq) ai))))))))),?_⟩
  refine⟨_,O,a,xs,t,O,ha,pr,tok,λl ts H1 JM hl1 rt s1=>?_⟩
  dsimp only[bR]
  refine⟨(by show 2<=sizeLine;decide),λt2 Jk=>?_⟩
  have s2:=au (o:=HO.tup [.ref (aC 68),.int 0]) Jk
  have h2:=aj (H:=H1) (a:=t2) (o:=HO.tup [.ref (aC 68),.int 0])
  generalize upd H1 t2 (HO.tup [.ref (aC 68),.int 0])=H2 at s2 h2⊢
  have s12:=s1.trans s2
  refine⟨_,O,_,O,λz dz hz VU ne=>⟨z,dz,x,dx,l,ts,az t,p,q,f,b1,b2,b3,b4,O,aj,nW hz VU (s12 _ _ hx),g,nW hz VU (s2 _ _ hl1),bW (s2.trans (Ba hz VU)) rt,λH3 hW kp=>⟨O,?_⟩⟩⟩
  have s3:=uh hz VU kp
  have VV:=s12.trans s3
  have hm0:bV K H3 m0 (.ref t2):=⟨t2,(aC 68),rfl,bz.of (s3 _ _ h2),.inr T.o4⟩
  refine⟨z,.ref t2,uL q (az t),az t,p,q,f,b1,b2,b3,b4,O,hW,g,hm0,LB,uo.len,uo.one,uo.shut,uo.good,λtf rv r a2 cm H4 ha2 hcl htf US Qx oh s4=>?_⟩
  have out:=NL oh
  have ule:=LC g (az t)
  dsimp only[bR]
  have Oo:=VV.trans s4
  refine⟨_,O,tf,_,_,_,O,O,bz.of htf,O,?_⟩
  dsimp only[bR]
  cases r with
  |none =>
   have US:rv=.non:=US
   subst US
   obtain⟨kvs,nd,cr⟩:=Qx.ok
   have hno:∀cs m,cR (cH p q f b1 b2 b3 b4 (az t)) m0 cs m->vh (az t) m=false:=λcs m hw=>(out.2 cs m hw).2
   refine⟨_,O,tf,_,_,_,O,O,bz.of htf,O,O,_,O,ko rfl ?_⟩
   have Yl:H a2=none:=VV.free ha2
   have JN:=(s2.trans s3).trans s4
   have hl4:=JN _ _ hl1
   have rt4:=bW JN rt
   have nla:l≠a2:=ji hl4 nd.ob (λq=>nomatch q)
   refine⟨_,O,_,O,a2,kvs,O,nd,λo D hD=>?_⟩
   have tq:=kP (F:=K) nd.ob (o:=dX (ZM P w) (aM P w) a2 kvs o)
   have Rt:=cr.keep tq
   have s5:aH H (upd H4 a2 (dX (ZM P w) (aM P w) a2 kvs o)):=aR Yl Oo
   have VW:=(aD (o:=dX (ZM P w) (aM P w) a2 kvs o) nla).trans hl4
   have rt5:Paired (c7 K (upd H4 a2 (dX (ZM P w) (aM P w) a2 kvs o))) ts (az t):=aE (λv y ⟨b,e1,e2⟩=>⟨b,e1,tq _ _ e2⟩) rt4
   have UT:(upd H4 a2 (dX (ZM P w) (aM P w) a2 kvs o)) a2=some (dX (ZM P w) (aM P w) a2 kvs o):=aj
   generalize upd H4 a2 (dX (ZM P w) (aM P w) a2 kvs o)=H5 at hD Rt s5 VW rt5 UT⊢
   have kl:=Ec Rt
   refine AZ (λi ys τ G=>(∃v,τ=[v])/\aH H5 G/\G D=some (.lst ys)/\ys=((cm.take i).map (λe=>e.1.2)).map λn:Nat=>V.int n) ⟨⟨_,rfl⟩,au hD,aj,rfl⟩ (λi ys τ G _ p=>⟨p.2.1 _ _ UT,p.2.2.1⟩) ?_ ?_
   ·rintro i e ys τ G hi ⟨⟨v,rfl⟩,sG,hG,rfl⟩
    have hil:=(abi.mp hi).1
    obtain⟨pm,Ym,e1,⟨b,sb,eb,hb,Yn⟩,_⟩:=aW Rt i e hi
    refine qB ?_
    refine⟨_,O,b,_,_,_,eb,O,aF sG hb,O,hG,?_,⟨_,O⟩,aR hD sG,aj,?_⟩
    ·rw[abg,abg,abM]
     exact abz (show _<=100000 by have:=uo.len;omega) (by decide)
    ·rw[aQ Ym,abx,abx];rfl
   ·rintro ys τ G ⟨⟨v,rfl⟩,sG,hG,rfl⟩
    rw[kl,abr (abf _)]at hG
    have hhas:=λcs m hw=>(out.2 cs m hw).1
    refine⟨D,cm.map (λe=>e.1.2),O,bw.of hG,?_,λn hn1 hn2=>?_⟩
    ·have:=jU.mp (hhas [] m0 .nil)
     intro q
     rw[List.map_eq_nil_iff]at q
     rw[q]at this;cases this
    have UU:zK p q f b1 b2 b3 b4 (az t) n:=by
     refine⟨?_,λcs m hw=>?_⟩
     ·obtain⟨e,he,e2⟩:=abR.mp hn1
      obtain⟨n',x',xs',_,_,Xd,_⟩:=out.1 e.1 (jU.mpr (abR.mpr ⟨e,he,rfl⟩))
      exact⟨_,_,Xd,e2⟩
     ·obtain⟨e,he,e2⟩:=abR.mp (jU.mp (hhas cs m hw))
      have:=hn2 e.1.2 (abR.mpr ⟨e,he,rfl⟩)
      rw[e2]at this
      exact this
    have hW0:QI p q f b1 b2 b3 b4 (az t):=(FI dQ).mpr hno
    have hlt:=Hu dQ hW0 UU
    have Pu:=Ca tok
    refine⟨l,ts,az t,n,O,sG _ _ VW,bW sG rt5,by omega,Pu,λtc H6 htc s6=>?_⟩
    dsimp only[bR]
    have Sl:=s5.trans (sG.trans s6)
    have hT:=bz.of (K:=K) htc
    have hb:=uy ((az t).take n) (0,0)
    rw[abM]at hb
    have hb:(cellAt ((az t).take n)).1<=1600/\(cellAt ((az t).take n)).2<=1600:=by
     have:=nZ tok t.length
     rw[List.take_length]at this
     unfold cellAt;omega
    refine⟨_,O,tc,_,_,_,O,O,hT,O,_,O,tc,_,_,_,O,O,hT,O,(by show 2<=sizeLine;decide),λea vZ=>?_⟩
    refine⟨ea,_,_,O,aj,A8 (by omega),A8 (by omega),λd H' hd nd e1 e2 VP=>⟨O,some d,e1,?_⟩⟩
    refine k2 n hW0 UU d _ (Sl.free ((aD (o:=Iv ea (.ref (aC 66)) none) nd).symm.trans hd)) ?_ (Fz Sl vZ hd VP)
    rw[BW nd];exact e2
  |some m1 =>
   obtain⟨n,hnl,⟨x1,xs1,v1,l1,w1,e1⟩,hmin⟩:=NT oh
   have hg1:=out.1
   obtain⟨b1',s1',rfl,q1,q2⟩:=(show bV K H4 m1 rv from US)
   have Pu:=Ca tok
   refine⟨_,O,tf,_,_,_,O,O,bz.of htf,O,O,_,O,jj rfl ?_⟩
   refine⟨_,O,_,O,tf,_,_,_,O,O,bz.of htf,O,a2,.ref b1',cm,m1,x1,xs1,O,Qx,US,v1,l1,by omega,λH5 s5=>?_⟩
   rw[←List.map_reverse]
   obtain⟨hrd,hls⟩:=LD dQ w1 hg1 λys m a b=>by rw[List.length_reverse,e1];exact hmin ys m a b
   exact k1 xs1.reverse H5 hrd hls (by rw[List.length_reverse];omega) (NR g (LI λr hr=>(tok.rows r hr).ok) w1) (Oo.trans s5)
def wZ(K:W.Frag):Sp:=λvs H Q _=>∃(a:Addr)(ns:List Int)(i:Int),vs=[.ref a,.int i]/\bw K H a (ns.map V.int)/\0<=i/\∀r:Int,Q (.int r) H
theorem w5:br P w K mg base fO 1 (aC 37) (aL 37) ["_law_script","_law_k"] (wZ K):=by
 refine T.dR.ok wz (λvs H Q E h=>?_) (λcdv A outer s H vs Q E hr h=>?_)
 ·obtain⟨a,ns,i,rfl,_⟩:=h;rfl
 ·have hu:=bf hr
  have gj:=hr.aO
  obtain⟨a,ns,i,rfl,hS,hi,k⟩:=h
  refine⟨_,(ah (aK (di DC (pv 1) (jC (aX K rfl) T.bS (af (pv 0) ai))) (ak (ay (rz K (pv 0) (pv 1)))) aA)
   (ak (ay aq))),?_⟩
  refine⟨_,O,_,O,a,_,O,.inl hS,_,_,O,O,_,O,?_⟩
  refine bg (λhc=>?_) (λ_=>?_)
  ·have hlt:=abF hc
   obtain⟨v,ev,hv⟩:=Fx hi hlt
   obtain⟨r,_,rfl⟩:=abR.mp hv
   exact⟨_,O,_,O,a,_,_,_,O,O,hS,ev,k r⟩
  ·exact k 0
def Af:Sp:=λvs H Q _=>∃a b:Int,vs=[.int a,.int b]/\0<=a/\a<4294967296/\0<=b/\b<65536/\∀r:Int,0<=r->r<49979687->Q (.int r) H
theorem qj:br P w K mg base fO 1 (aC 38) (aL 38) ["_law_number_here","_law_salt"] Af:=by
 refine T.fZ.ok k6 (λvs H Q E h=>?_) (λcdv A outer s H vs Q E hr h=>?_)
 ·obtain⟨a,b,rfl,_⟩:=h;rfl
 ·have hu:=bf hr
  have gj:=hr.aO
  obtain⟨a,b,rfl,ha,ha',hb,hb',k⟩:=h
  refine⟨_,(ah (dg 2 k6.nd (aJ cY (aJ cX (aJ jE (pv 0) (aJ cX aq (aJ jE aq (pv 1)))) (aJ jE aq (pv 1))) aq))
   (ah (dg 3 k6.nd (aJ cY (aJ cX (aJ jE (pv 2) (pv 2)) (pv 1)) aq))
   (ak (ay (aJ cY (aJ cX (aJ jE (pv 3) (pv 3)) (pv 2)) aq))))),?_⟩
  refine⟨_,O,_,O,_,_,O,O,.inl ⟨by decide,by decide⟩,_,_,O,O,_,_,O,O,.inl ⟨by omega,by omega⟩,_,O,_,_,O,O,.inl ⟨by decide,by decide⟩,_,_,O,O,_,_,O,O,(by show(0:Int)<15485863;decide),?_⟩
  have h1:=ace (a*(1299709+210*b)+7919*b) (show(15485863:Int)≠0 by decide)
  have h2:=ab3 (a*(1299709+210*b)+7919*b) (show(0:Int)<15485863 by decide)
  refine⟨_,O,_,O,_,_,O,O,.inl ⟨by omega,by omega⟩,_,O,_,_,O,O,_,_,O,O,(by show(0:Int)<32452843;decide),?_⟩
  refine⟨_,O,_,O,_,_,O,O,.inl ⟨?_,?_⟩,_,O,_,_,O,O,_,_,O,O,(by show(0:Int)<49979687;decide),?_⟩
  ·exact Int.lt_of_lt_of_le (by decide) (ace _ (by decide))
  ·exact Int.lt_trans (ab3 _ (by decide)) (by decide)
  ·exact k _ (ace _ (by decide)) (ab3 _ (by decide))
def zp:Sp:=λvs H Q _=>∃c s:Int,vs=[.int c,.int s]/\0<=s/\s<60000/\∀r:Int,Q (.int r) H
theorem pe:br P w K mg base fO 2 (aC 39) (aL 39) ["_law_cell","_law_salt"] zp:=by
 have f7:=@qj P w K mg base aC aL cV T
 refine T.k8.ok jW (λvs H Q E h=>?_) (λcdv A outer s H vs Q E hr h=>?_)
 ·obtain⟨c,s,rfl,_⟩:=h;rfl
 ·have hu:=bf hr
  have gj:=hr.aO
  obtain⟨c,sa,rfl,hs,hs',k⟩:=h
  refine⟨_,(ah (aK (PW.pt (dM (di aZ (aJ cY (pv 0) aq) aq) (cU (di Kc (pv 0) (aJ jE aq (aJ E6 aq aq)))))) (ak (ay (aJ E5 (aJ gy (pv 0) aq) (aJ E6 aq aq)))) aA)
   (ah (dg 2 jW.nd (aJ cY (pv 0) aq))
   (ah (dg 3 jW.nd (aJ cX (aJ jE (fP f7 hr T.g8 T.fZ.kp T.g7 (af (pv 2) (af (pv 1) ai))) aq) (fP f7 hr T.g8 T.fZ.kp T.g7 (af (pv 2) (af (aJ cX (pv 1) aq) ai)))))
   (ak (ay (aJ cX (aJ jE (pv 3) aq) (fP f7 hr T.g8 T.fZ.kp T.g7 (af (pv 2) (af (aJ cX (pv 1) aq) ai))))))))),?_⟩
  have VX:PV 10 18:=⟨by decide,by decide,by decide⟩
  have n0:0<=c % 1000000007:=ace _ (by decide)
  have n1:c % 1000000007<4294967296:=Int.lt_trans (ab3 _ (by decide)) (by decide)
  refine⟨_,O,_,_,O,O,(by show(0:Int)<2;decide),O,_,O,?_⟩
  refine bg (λ_=>?_) (λ_=>?_)
  ·refine⟨_,O,_,_,O,O,VX,_,_,O,O,.inl ⟨by decide,by decide⟩,_,_,O,O,_,O,?_⟩
   refine bg (λ_=>?_) (λ_=>?_)
   ·exact⟨_,O,_,_,O,O,⟨by decide,by decide⟩,_,_,O,O,VX,_,_,O,O,k _⟩
   ·refine⟨_,O,_,_,O,O,(by show(0:Int)<1000000007;decide),?_⟩
    refine⟨_,O,_,O,_,_,O,n0,n1,by omega,by omega,λr1 _ _=>?_⟩
    refine⟨_,_,O,O,.inr ⟨by decide,by decide⟩,_,O,_,O,_,_,O,O,_,_,O,n0,n1,by omega,by omega,λr2 _ _=>⟨_,_,O,O,?_⟩⟩
    refine⟨_,O,_,_,O,O,.inr ⟨by decide,by decide⟩,_,O,_,O,_,_,O,O,_,_,O,n0,n1,by omega,by omega,λr3 _ _=>⟨_,_,O,O,k _⟩⟩
  ·refine⟨_,O,_,_,O,O,(by show(0:Int)<1000000007;decide),?_⟩
   refine⟨_,O,_,O,_,_,O,n0,n1,by omega,by omega,λr1 _ _=>?_⟩
   refine⟨_,_,O,O,.inr ⟨by decide,by decide⟩,_,O,_,O,_,_,O,O,_,_,O,n0,n1,by omega,by omega,λr2 _ _=>⟨_,_,O,O,?_⟩⟩
   refine⟨_,O,_,_,O,O,.inr ⟨by decide,by decide⟩,_,O,_,O,_,_,O,O,_,_,O,n0,n1,by omega,by omega,λr3 _ _=>⟨_,_,O,O,k _⟩⟩
def Gx:Sp:=λvs H Q _=>∃n c k:Int,vs=[.int n,.int c,.int k]/\0<=k/\k<60/\∀r:Int,Q (.int r) H
theorem Gy:br P w K mg base fO 2 (aC 40) (aL 40) ["_law_number_here","_law_cell","_law_k"] Gx:=by
 have f7:=@qj P w K mg base aC aL cV T
 refine T.Bt.ok FY (λvs H Q E h=>?_) (λcdv A outer s H vs Q E hr h=>?_)
 ·obtain⟨n,c,k,rfl,_⟩:=h;rfl
 ·have hu:=bf hr
  have gj:=hr.aO
  obtain⟨n,c,j,rfl,hj,hj',k⟩:=h
  refine⟨_,(ah (aK (PW.pt (gk (di qW (pv 0) aq) (eZ (PW.pt (dM (di aZ (aJ cY (pv 1) aq) aq) (cU (di Kc (pv 1) (aJ jE aq (aJ E6 aq aq))))))))) (ak (ay (pv 0))) aA)
   (ak (ay (aJ cX (aJ jE (fP f7 hr T.g8 T.fZ.kp T.g7 (af (aJ cY (pv 1) aq) (af (aJ cX aq (pv 2)) ai))) aq) (fP f7 hr T.g8 T.fZ.kp T.g7 (af (aJ cY (pv 1) aq) (af (aJ cX aq (pv 2)) ai))))))),?_⟩
  have VX:PV 10 18:=⟨by decide,by decide,by decide⟩
  have n0:0<=c % 15485863:=ace _ (by decide)
  have n1:c % 15485863<4294967296:=Int.lt_trans (ab3 _ (by decide)) (by decide)
  refine⟨_,O,_,_,O,O,_,O,bg (λ_=>j9 ?_) (λ_=>?_)⟩
  ·exact⟨_,O,k _⟩
  have rest:∀Q2:V->Hp->Prop,(∀r:Int,Q2 (.int r) H)->True:=λ_ _=>True.intro
  refine⟨_,O,_,_,O,O,(by show(0:Int)<2;decide),O,_,O,bg (λ_=>?_) (λ_=>?_)⟩
  ·refine⟨_,O,_,_,O,O,VX,_,_,O,O,.inl ⟨by decide,by decide⟩,_,_,O,O,_,O,bg (λ_=>?_) (λ_=>?_)⟩
   ·exact⟨_,O,k _⟩
   ·refine⟨_,O,_,_,O,O,(by show(0:Int)<15485863;decide),_,O,_,_,O,O,_,_,O,n0,n1,by omega,by omega,λr1 _ _=>?_⟩
    refine⟨_,_,O,O,.inr ⟨by decide,by decide⟩,_,O,_,_,O,O,(by show(0:Int)<15485863;decide),_,O,_,_,O,O,_,_,O,n0,n1,by omega,by omega,λr2 _ _=>⟨_,_,O,O,k _⟩⟩
  ·refine cJ ?_
   refine⟨_,O,_,_,O,O,(by show(0:Int)<15485863;decide),_,O,_,_,O,O,_,_,O,n0,n1,by omega,by omega,λr1 _ _=>?_⟩
   refine⟨_,_,O,O,.inr ⟨by decide,by decide⟩,_,O,_,_,O,O,(by show(0:Int)<15485863;decide),_,O,_,_,O,O,_,_,O,n0,n1,by omega,by omega,λr2 _ _=>⟨_,_,O,O,k _⟩⟩
def CL:Sp:=λvs H Q _=>∃(n m:Int)(me:Str),vs=[.int n,.int m,.str me]/\Mn me/\0<=m/\m<=3/\∀(t:Addr)(z:Str)(r:Int),Sg z->(z.length:Int)<=m->(1<=m->1<=z.length)->H t=none->Q (.ref t) (upd H t (.tup [.str z,.int r]))
theorem CO:br P w K mg base fO 1 (aC 41) (aL 41) ["_law_number_here","_law_many","_law_menu"] CL:=by
 refine T.kB.ok fY (λvs H Q E h=>?_) (λcdv A outer s H vs Q E hr h=>?_)
 ·obtain⟨n,m,me,rfl,_⟩:=h;rfl
 ·have hu:=bf hr
  have gj:=hr.aO
  obtain⟨n,m,me,rfl,⟨hm1,hm2,Jp⟩,h0,h3,k⟩:=h
  have hml:me.length<=sizeLine:=abn hm2 (by decide)
  refine⟨_,(ah (dg 3 fY.nd ao)
   (ah (dO abL rfl (gJ rfl T.iW (af (pv 1) ai)) (fu 4 fY.nd)
   (ah (dg 5 fY.nd (DH Fe (pv 2) (aJ cY (pv 0) (jC bB T.bS (af (pv 2) ai))) (λ_ _=>rfl)))
   (ah (dg 0 fY.nd (aJ gy (pv 0) (jC bB T.bS (af (pv 2) ai))))
   (ak (aK (cI gS (pv 5) (pv 3) rfl) (ak (dg 3 fY.nd (aJ bF (pv 3) (pv 5)))) aA)))))
   (ak (ay (aB (af (pv 3) (af (pv 0) ai))))))),?_⟩
  refine⟨_,O,m,O,by omega,by omega,?_⟩
  refine jB (λi σ H2=>H2=H/\∃(r:Int)(z:Str)(v1 v2:Option V),σ=[some (.int r),some (.int m),some (.str me),some (.str z),v1,v2]/\Sg z/\z.length<=i/\(1<=i->1<=z.length)) ⟨rfl,n,_,_,_,rfl,QD,by decide,λz=>absurd z (by decide)⟩ ?_ ?_
  ·rintro i σ H2 hi ⟨rfl,r,z,v1,v2,rfl,g,hz,hz1⟩
   have hlen:me.cps.toList.length=me.length:=by rw[abt];rfl
   obtain⟨c,ec,hc⟩:=Fx (xs:=me.cps.toList) (ace r (show(me.length:Int)≠0 by omega)) (by rw[hlen];exact ab3 r (by omega))
   refine⟨_,O,_,O,_,O,me,O,hml,_,_,O,O,(by show(0:Int)<me.length;omega),me,_,c,O,O,hml,ec,?_⟩
   refine⟨_,O,_,O,me,O,hml,_,_,O,O,⟨by show(0:Int)<me.length;omega,by show(me.length:Int)<1073741824;omega⟩,?_⟩
   refine⟨_,O,_,O,_,_,O,O,_,O,?_⟩
   refine bg (λha=>?_) (λha=>?_)
   ·have e1:(z++(⟨#[c]⟩:Str)).length=z.length+1:=bE _ _
    refine⟨_,O,_,O,_,_,O,O,?_,O,_,_,_,_,O,QC g (Jp c hc) ha,by rw[e1];omega,λ_=>by rw[e1];omega⟩
    exact abn (show z.length+1<=5 by omega) (by decide)
   ·refine⟨O,_,_,_,_,O,g,by omega,λ_=>?_⟩
    have hin:c∈z.cps.toList:=Classical.byContradiction λq=>ha ((lE z c).mpr q)
    have:=List.length_pos_of_mem hin
    rw[abt]at this
    exact this
  ·rintro σ H2 ⟨rfl,r,z,v1,v2,rfl,g,hz,hz1⟩
   exact⟨_,O,_,O,(by show 2<=sizeLine;decide),λt ht=>k t z r g (by omega) (λq=>hz1 (by omega)) ht⟩
def Ag:Sp:=λvs H Q _=>∃n:Int,vs=[.int n]/\∀(l:Addr)(m1 m2 m3:Str),Mn m1->Mn m2->Mn m3->H l=none->Q (.ref l) (upd H l (.lst [.str m1,.str m2,.str m3]))
theorem Ah:br P w K mg base fO 1 (aC 42) (aL 42) ["_law_way"] Ag:=by
 refine T.sj.ok p8 (λvs H Q E h=>?_) (λcdv A outer s H vs Q E hr h=>?_)
 ·obtain⟨n,rfl,_⟩:=h;rfl
 ·have hu:=bf hr
  have gj:=hr.aO
  obtain⟨n,rfl,k⟩:=h
  refine⟨_,(ah (dg 1 p8.nd ao)
   (ah (aK (di aZ (pv 0) aq) (ak (ay (bM (af ao (af ao (af ao ai)))))) aA)
   (ah (aK (di aZ (pv 0) aq) (ak (ay (bM (af ao (af ao (af ao ai)))))) aA)
   (ak (ay (bM (af (pv 1) (af (pv 1) (af (pv 1) ai))))))))),?_⟩
  refine⟨_,O,O,_,O,?_⟩
  refine bg (λ_=>?_) (λ_=>?_)
  ·exact⟨by decide,λl hl=>k l _ _ _ (by decide +kernel) (by decide +kernel) (by decide +kernel) hl⟩
  ·refine⟨_,O,O,_,O,?_⟩
   refine bg (λ_=>?_) (λ_=>?_)
   ·exact⟨by decide,λl hl=>k l _ _ _ (by decide +kernel) (by decide +kernel) (by decide +kernel) hl⟩
   ·exact⟨_,O,_,O,_,O,by decide,λl hl=>k l _ _ _ (by decide +kernel) (by decide +kernel) (by decide +kernel) hl⟩
def CP:Sp:=λvs H Q _=>∃c:Int,vs=[.int c]/\∀(t:Addr)(p q f:Str)(b1 b2 b3 b4:Bool)(H':Hp),Gd p q f->H t=none->H' t=some (.tup (gb p q f b1 b2 b3 b4))->aH H H'->Q (.ref t) H'
theorem CQ:br P w K mg base fO 3 (aC 43) (aL 43) ["_law_cell"] CP:=by
 have CS:=@Ah P w K mg base aC aL cV T
 have lg:=@pe P w K mg base aC aL cV T
 have pq:=@CO P w K mg base aC aL cV T
 refine T.oO.ok bP (λvs H Q E h=>?_) (λcdv A outer s H vs Q E hr h=>?_)
 ·obtain⟨c,rfl,_⟩:=h;rfl
 ·have hu:=bf hr
  have gj:=hr.aO
  obtain⟨c,rfl,k⟩:=h
  refine⟨_,(ah (dg 1 bP.nd (fP lg hr T.qg T.k8.kp T.qf (af (pv 0) (af aq ai))))
   (ah (dg 2 bP.nd (aJ cY (pv 1) aq))
   (ah (dg 3 bP.nd (bM (af (aJ cX aq (aJ cY (aJ gy (pv 1) aq) aq)) (af (aJ cY (aJ gy (pv 1) aq) aq) (af (aJ cY (aJ gy (pv 1) aq) aq) ai)))))
   (ah (dg 4 bP.nd (fP CS hr T.Cp T.sj.kp T.Co (af (aJ cY (aJ gy (pv 1) aq) aq) ai)))
   (ah (iY (fP pq hr T.oN T.kB.kp T.oM (af (aJ gy (pv 1) aq) (af (rz K (pv 3) aq) (af (rz K (pv 4) aq) ai)))) (fV K rfl 2 rfl (aP (fu 5 bP.nd) (aP (fu 1 bP.nd) fQ))))
   (ah (iY (fP pq hr T.oN T.kB.kp T.oM (af (pv 1) (af (rz K (pv 3) aq) (af (rz K (pv 4) aq) ai)))) (fV K rfl 2 rfl (aP (fu 6 bP.nd) (aP (fu 1 bP.nd) fQ))))
   (ah (iY (fP pq hr T.oN T.kB.kp T.oM (af (pv 1) (af (rz K (pv 3) aq) (af (rz K (pv 4) aq) ai)))) (fV K rfl 2 rfl (aP (fu 7 bP.nd) (aP (fu 1 bP.nd) fQ))))
   (ah (dg 8 bP.nd (bM (af (yp aZ (aJ cY (pv 2) aq) aq) (af (yp aZ (aJ cY (aJ gy (pv 2) aq) aq) aq) (af (yp aZ (aJ cY (aJ gy (pv 2) aq) aq) aq) (af (yp aZ (aJ cY (aJ gy (pv 2) aq) aq) aq) ai))))))
   (ak (ay (aB (af (pv 5) (af (pv 6) (af (pv 7) (af (rz K (pv 8) aq) (af (rz K (pv 8) aq) (af (rz K (pv 8) aq) (af (rz K (pv 8) aq) ai)))))))))))))))))),?_⟩
  refine⟨_,O,_,_,O,by decide,by decide,λn=>?_⟩
  refine⟨_,O,_,_,O,O,(by show(0:Int)<16;decide),?_⟩
  refine⟨_,O,_,_,O,O,⟨by decide,by decide⟩,_,_,O,O,(by show(0:Int)<3;decide),_,_,O,O,_,O,_,_,O,O,⟨by decide,by decide⟩,_,_,O,O,(by show(0:Int)<3;decide),_,O,_,_,O,O,⟨by decide,by decide⟩,_,_,O,O,(by show(0:Int)<3;decide),(by show 3<=sizeLine;decide),λl hl=>?_⟩
  have m1:=ace (n / 16) (show(3:Int)≠0 by decide)
  have m1':=ab3 (n / 16) (show(0:Int)<3 by decide)
  have m2:=ace (n / 48) (show(3:Int)≠0 by decide)
  have m2':=ab3 (n / 48) (show(0:Int)<3 by decide)
  have m3:=ace (n / 144) (show(3:Int)≠0 by decide)
  have m3':=ab3 (n / 144) (show(0:Int)<3 by decide)
  have h1:(upd H l (.lst [.int (1+n / 16 % 3),.int (n / 48 % 3),.int (n / 144 % 3)])) l=some (.lst [.int (1+n / 16 % 3),.int (n / 48 % 3),.int (n / 144 % 3)]):=aj
  have s1:aH H (upd H l (.lst [.int (1+n / 16 % 3),.int (n / 48 % 3),.int (n / 144 % 3)])):=au hl
  generalize upd H l (.lst [.int (1+n / 16 % 3),.int (n / 48 % 3),.int (n / 144 % 3)])=H1 at h1 s1⊢
  refine⟨_,O,_,_,O,O,⟨by decide,by decide⟩,_,_,O,O,(by show(0:Int)<3;decide),_,O,λl2 e1 e2 e3 g1 g2 g3 hl2=>?_⟩
  have h2:(upd H1 l2 (.lst [.str e1,.str e2,.str e3])) l2=some (.lst [.str e1,.str e2,.str e3]):=aj
  have s2:aH H1 (upd H1 l2 (.lst [.str e1,.str e2,.str e3])):=au hl2
  generalize upd H1 l2 (.lst [.str e1,.str e2,.str e3])=H2 at h2 s2⊢
  have h12:=s2 _ _ h1
  refine⟨_,O,_,_,O,O,⟨by decide,by decide⟩,_,O,l,_,_,_,O,O,bw.of h12,O,_,O,l2,_,_,_,O,O,bw.of h2,O,_,_,_,O,g1,by omega,by omega,λt1 p r1 gp lp lp1 ht1=>?_⟩
  refine⟨t1,_,O,bz.of aj,O,_,_,O,_,_,O,O,?_⟩
  have s3:aH H2 (upd H2 t1 (.tup [.str p,.int r1])):=au ht1
  generalize upd H2 t1 (.tup [.str p,.int r1])=H3 at s3⊢
  refine⟨_,O,_,O,l,_,_,_,O,O,bw.of (s3 _ _ h12),O,_,O,l2,_,_,_,O,O,bw.of (s3 _ _ h2),O,_,_,_,O,g2,by omega,by omega,λt2 q r2 gq lq lq1 Jk=>?_⟩
  refine⟨t2,_,O,bz.of aj,O,_,_,O,_,_,O,O,?_⟩
  have s4:aH H3 (upd H3 t2 (.tup [.str q,.int r2])):=au Jk
  generalize upd H3 t2 (.tup [.str q,.int r2])=H4 at s4⊢
  refine⟨_,O,_,O,l,_,_,_,O,O,bw.of (s4 _ _ (s3 _ _ h12)),O,_,O,l2,_,_,_,O,O,bw.of (s4 _ _ (s3 _ _ h2)),O,_,_,_,O,g3,by omega,by omega,λt3 f r3 gf lf lf1 Ru=>?_⟩
  refine⟨t3,_,O,bz.of aj,O,_,_,O,_,_,O,O,?_⟩
  have s5:aH H4 (upd H4 t3 (.tup [.str f,.int r3])):=au Ru
  generalize upd H4 t3 (.tup [.str f,.int r3])=H5 at s5⊢
  refine⟨_,O,_,_,O,O,(by show(0:Int)<2;decide),O,_,O,_,_,O,O,⟨by decide,by decide⟩,_,_,O,O,(by show(0:Int)<2;decide),O,_,O,_,_,O,O,⟨by decide,by decide⟩,_,_,O,O,(by show(0:Int)<2;decide),O,_,O,_,_,O,O,⟨by decide,by decide⟩,_,_,O,O,(by show(0:Int)<2;decide),O,(by show 4<=sizeLine;decide),λl6 Rv=>?_⟩
  have s6:=au (o:=HO.lst [.bl (decide (V.int (n % 16 % 2)=V.int 1)),.bl (decide (V.int (n % 16 / 2 % 2)=V.int 1)),.bl (decide (V.int (n % 16 / 4 % 2)=V.int 1)),.bl (decide (V.int (n % 16 / 8 % 2)=V.int 1))]) Rv
  refine⟨_,O,_,O,_,O,_,O,l6,_,_,_,O,O,bw.of aj,O,_,O,l6,_,_,_,O,O,bw.of aj,O,_,O,l6,_,_,_,O,O,bw.of aj,O,_,O,l6,_,_,_,O,O,bw.of aj,O,(by show 7<=sizeLine;decide),λt ht=>?_⟩
  have Ms:=((((s1.trans s2).trans s3).trans s4).trans s5).trans s6
  exact k t p q f _ _ _ _ _ ⟨gp,gq,gf,lp1 (by omega),by omega,by omega,by omega⟩ (Ms.free ht) aj (Ms.trans (au ht))
def CU(C:Addr):Sp:=λvs H Q _=>∃(t:Addr)(p q f:Str)(b1 b2 b3 b4:Bool),vs=[.ref t]/\H t=some (.tup (gb p q f b1 b2 b3 b4))/\Gd p q f/\∀(x dx:Addr)(H':Hp),H x=none->H' x=some (.ins C dx (zI p q f b1 b2 b3 b4))->aH H H'->Q (.ref x) H'
theorem sX:br P w K mg base fO 5 (aC 44) (aL 44) ["_law_told_here"] (CU (aC 60)):=by
 have gI:=@jo P w K mg base aC aL cV T
 refine T.kC.ok Cf (λvs H Q E h=>?_) (λcdv A outer s H vs Q E hr h=>?_)
 ·obtain⟨t,p,q,f,b1,b2,b3,b4,rfl,_⟩:=h;rfl
 ·have hu:=bf hr
  have gj:=hr.aO
  obtain⟨t,p,q,f,b1,b2,b3,b4,rfl,ht,g,k⟩:=h
  have hS:bz K H t (gb p q f b1 b2 b3 b4):=bz.of ht
  refine⟨_,(ak (ay (qZ (k:=3) T.Bv gI (hr.mono (by decide)) rfl T.Bu T.jY .nil iz (af (gg K (pv 0) aq) (af (gg K (pv 0) aq) (af (gg K (pv 0) aq) (af (gg K (pv 0) aq) (af (gg K (pv 0) aq) (af (gg K (pv 0) aq) (af (gg K (pv 0) aq) ai)))))))))),?_⟩
  refine⟨_,O,t,_,_,_,O,O,hS,O,_,O,t,_,_,_,O,O,hS,O,_,O,t,_,_,_,O,O,hS,O,_,O,t,_,_,_,O,O,hS,O,_,O,t,_,_,_,O,O,hS,O,_,O,t,_,_,_,O,O,hS,O,_,O,t,_,_,_,O,O,hS,O,λx dx hx hdx ne=>?_⟩
  refine⟨x,dx,p,q,f,b1,b2,b3,b4,O,aj,g,λH2 h2 kp=>⟨O,k x dx H2 hx h2 λb o e=>kp b o ?_ (aN e hx)⟩⟩
  rw[aD (aN e hx),aD (aN e hdx)]
  exact e
def CV(K:W.Frag):Sp:=λvs H Q _=>∃(t s:Addr)(w u:Str)(c:Nat)(p q f:Str)(b1 b2 b3 b4:Bool),vs=[.ref t,.ref s,.str (sg c)]/\bz K H t (gb p q f b1 b2 b3 b4)/\bz K H s [.str w,.str u]/\∀v H',aH H H'->wc K H' v (fq p q f b3 b4 w u c)->Q v H'
theorem CY:br P w K mg base fO 1 (aC 45) (aL 45) ["_law_told_here","_law_state","_law_sign"] (CV K):=by
 refine T.vv.ok dF (λvs H Q E h=>?_) (λcdv A outer s H vs Q E hr h=>?_)
 ·obtain⟨t,s,w,u,c,p,q,f,b1,b2,b3,b4,rfl,_⟩:=h;rfl
 ·have hu:=bf hr
  have gj:=hr.aO
  obtain⟨t,s,w,u,c,p,q,f,b1,b2,b3,b4,rfl,ht,hs,k⟩:=h
  refine'⟨_,?aa,?bb⟩
  case aa =>
   refine' ah ?s0 ?r0
   case s0 =>
    exact(iY (pv 0) (fV K rfl 7 rfl (aP (fu 3 dF.nd) (aP (fu 4 dF.nd) (aP (fu 5 dF.nd) (aP (fu 6 dF.nd) (aP (fu 7 dF.nd) (aP (fu 8 dF.nd) (aP (fu 9 dF.nd) fQ)))))))))
   case r0 =>
    refine' ah ?s1 ?r1
    case s1 =>
     refine' aK ?c2 ?b2 ?e2
     case c2=>exact(cI cD (pv 2) (pv 5) rfl)
     case b2 =>
      refine' ak ?s3
      case s3 =>
       refine' ay ?v4
       case v4 =>
        refine' aB ?a5
        case a5 =>
         refine' af ?x6 ?y6 ?z6
         case z6=>exact rfl
         case x6 =>
          exact ao
         case y6 =>
          refine' af ?x7 ?y7 ?z7
          case z7=>exact rfl
          case x7 =>
           refine' aB ?a8
           case a8 =>
            refine' af ?x9 ?y9 ?z9
            case z9=>exact rfl
            case x9 =>
             exact ao
            case y9 =>
             refine' af ?UJ ?UK ?UL
             case UL=>exact rfl
             case UJ =>
              exact ao
             case UK =>
              exact ai
          case y7 =>
           exact ai
     case e2 =>
      exact aA
    case r1 =>
     refine' ah ?Yo ?r11
     case Yo =>
      refine' aK ?c12 ?Yp ?e12
      case c12=>exact(di aZ (pv 2) ao)
      case Yp =>
       refine' ak ?VV
       case VV =>
        refine' ay ?v14
        case v14 =>
         refine' aB ?Yq
         case Yq =>
          refine' af ?N9 ?Oa ?Ob
          case Ob=>exact rfl
          case N9 =>
           exact ao
          case Oa =>
           refine' af ?Yr ?Ys ?Yt
           case Yt=>exact rfl
           case Yr =>
            refine' aB ?UW
            case UW =>
             refine' af ?Yu ?Yv ?Yw
             case Yw=>exact rfl
             case Yu =>
              exact ao
             case Yv =>
              refine' af ?Yx ?Yy ?Yz
              case Yz=>exact rfl
              case Yx =>
               exact ao
              case Yy =>
               exact ai
           case Ys =>
            exact ai
      case e12 =>
       exact aA
     case r11 =>
      refine' ah ?Se ?r21
      case Se =>
       refine' aK ?c22 ?YA ?e22
       case c22=>exact(PW.pt (dM (di u9 (gg K (pv 1) aq) ao) (cU (cI cD (pv 2) (pv 4) rfl))))
       case YA =>
        refine' ak ?Sm
        case Sm =>
         refine' ay ?v24
         case v24 =>
          refine' aB ?YB
          case YB =>
           refine' af ?Oj ?Ol ?Om
           case Om=>exact rfl
           case Oj =>
            exact ao
           case Ol =>
            refine' af ?UA ?UB ?UC
            case UC=>exact rfl
            case UA =>
             refine' aB ?UX
             case UX =>
              refine' af ?YC ?YD ?YE
              case YE=>exact rfl
              case YC =>
               exact ao
              case YD =>
               refine' af ?Ri ?Rj ?Rl
               case Rl=>exact rfl
               case Ri =>
                exact(pv 2)
               case Rj =>
                exact ai
            case UB =>
             exact ai
       case e22 =>
        exact aA
      case r21 =>
       refine' ah ?YF ?YG
       case YF =>
        refine' aK ?Ud ?UY ?YH
        case Ud=>exact(cI cD (pv 2) (pv 3) rfl)
        case UY =>
         refine' ak ?YI
         case YI =>
          refine' ay ?YJ
          case YJ =>
           refine' aB ?UZ
           case UZ =>
            refine' af ?Ut ?Uu ?Uv
            case Uv=>exact rfl
            case Ut =>
             exact ao
            case Uu =>
             refine' af ?Ux ?Uy ?Uz
             case Uz=>exact rfl
             case Ux =>
              refine' aB ?YK
              case YK =>
               refine' af ?x39 ?y39 ?z39
               case z39=>exact rfl
               case x39 =>
                exact ao
               case y39 =>
                refine' af ?XU ?XW ?XX
                case XX=>exact rfl
                case XU =>
                 exact ao
                case XW =>
                 exact ai
             case Uy =>
              exact ai
        case YH =>
         exact aA
       case YG =>
        refine' ah ?s41 ?r41
        case s41 =>
         refine' aK ?c42 ?YN ?e42
         case c42=>exact(PW.pt (dM (di u9 (gg K (pv 1) aq) ao) (dM (bJ (pv 8)) (cU (di aZ (pv 2) ao)))))
         case YN =>
          refine' ak ?YO
          case YO =>
           refine' ay ?v44
           case v44 =>
            refine' aB ?YQ
            case YQ =>
             refine' af ?x46 ?y46 ?z46
             case z46=>exact rfl
             case x46 =>
              exact ao
             case y46 =>
              refine' af ?XF ?XG ?XH
              case XH=>exact rfl
              case XF =>
               exact(pv 1)
              case XG =>
               exact ai
         case e42 =>
          exact aA
        case r41 =>
         refine' ah ?s48 ?r48
         case s48 =>
          refine' aK ?c49 ?YR ?e49
          case c49=>exact(PW.pt (dM (cI cD (pv 2) (pv 4) rfl) (dM (cG (bJ (pv 9))) (cU (di aZ (gg K (pv 1) aq) ao)))))
          case YR =>
           refine' ak ?s50
           case s50 =>
            refine' ay ?v51
            case v51 =>
             refine' aB ?YS
             case YS =>
              refine' af ?x53 ?y53 ?z53
              case z53=>exact rfl
              case x53 =>
               exact ao
              case y53 =>
               refine' af ?x54 ?y54 ?z54
               case z54=>exact rfl
               case x54 =>
                exact ao
               case y54 =>
                exact ai
          case e49 =>
           exact aA
         case r48 =>
          refine' ak ?s55
          case s55 =>
           refine' ay ?v56
           case v56 =>
            refine' aB ?YT
            case YT =>
             refine' af ?x58 ?y58 ?z58
             case z58=>exact rfl
             case x58 =>
              exact ao
             case y58 =>
              refine' af ?YU ?YV ?YW
              case YW=>exact rfl
              case YU =>
               refine' aB ?YX
               case YX =>
                refine' af ?YY ?YZ ?Y0
                case Y0=>exact rfl
                case YY =>
                 exact ao
                case YZ =>
                 refine' af ?Y3 ?Y4 ?Y5
                 case Y5=>exact rfl
                 case Y3 =>
                  exact ao
                 case Y4 =>
                  exact ai
              case YV =>
               exact ai
  refine⟨_,O,t,_,O,ht,O,_,_,O,_,_,O,_,_,O,_,_,O,_,_,O,_,_,O,_,_,O,O,?_⟩
  by_cases hw:aU w ("plain":Str)=true
  ·refine⟨_,O,_,O,_,_,O,O,_,O,bg (λ(h1:gQ c f=true)=>?_) (λ(h1:¬gQ c f=true)=>?_)⟩
   ·exact bT (by unfold fq ff;rw[abe hw,abe h1]) dj k
   refine⟨_,O,O,_,O,bg (λ(h2:aU (sg c) (Str.ofString "\n")=true)=>?_) (λ(h2:¬aU (sg c) (Str.ofString "\n")=true)=>?_)⟩
   ·exact bT (by unfold fq ff;rw[abe hw,abb h1,abe h2]) qC k
   refine⟨_,O,s,_,_,_,O,O,hs,O,O,_,O,A6 hw (cJ ?_)⟩
   refine⟨_,O,_,O,_,_,O,O,_,O,bg (λ(h3:gQ c p=true)=>?_) (λ(h3:¬gQ c p=true)=>?_)⟩
   ·exact bT (by unfold fq ff;rw[abe hw,abb h1,abb h2,abe h3]) mh k
   refine⟨_,O,s,_,_,_,O,O,hs,O,O,_,O,A6 hw (cJ ?_)⟩
   refine⟨_,O,_,O,_,_,O,O,_,O,bg (λ(h4:gQ c q=true)=>?_) (λ(h4:¬gQ c q=true)=>?_)⟩
   ·refine⟨_,O,_,O,bg (λ(h5:(!b4)=true)=>?_) (λ(h5:¬(!b4)=true)=>?_)⟩
    ·refine⟨_,O,s,_,_,_,O,O,hs,O,O,_,O,ko hw ?_⟩
     exact ja (by unfold fq ff;rw[abe hw,abb h1,abb h2,abb h3,abe h4,abe h5]) k
    refine cJ ?_
    exact bT (by unfold fq ff;rw[abe hw,abb h1,abb h2,abb h3,abe h4,abb h5]) cZ k
   refine cJ ?_
   exact bT (by unfold fq ff;rw[abe hw,abb h1,abb h2,abb h3,abb h4]) cZ k
  ·refine⟨_,O,_,O,_,_,O,O,_,O,bg (λ(h1:gQ c f=true)=>?_) (λ(h1:¬gQ c f=true)=>?_)⟩
   ·exact bT (by unfold fq eB;rw[abb hw,abe h1]) dj k
   refine⟨_,O,O,_,O,bg (λ(h2:aU (sg c) (Str.ofString "\n")=true)=>?_) (λ(h2:¬aU (sg c) (Str.ofString "\n")=true)=>?_)⟩
   ·exact bT (by unfold fq eB;rw[abb hw,abb h1,abe h2]) qC k
   refine⟨_,O,s,_,_,_,O,O,hs,O,O,_,O,Lo (gZ hw) ?_⟩
   refine⟨_,O,_,O,_,_,O,O,_,O,bg (λ(h3:gQ c q=true)=>?_) (λ(h3:¬gQ c q=true)=>?_)⟩
   ·exact⟨_,O,bT (by unfold fq eB;rw[abb hw,abb h1,abb h2,abe h3]) dj k⟩
   refine⟨_,O,_,O,_,_,O,O,_,O,bg (λ(h4:gQ c p=true)=>?_) (λ(h4:¬gQ c p=true)=>?_)⟩
   ·exact bT (by unfold fq eB;rw[abb hw,abb h1,abb h2,abb h3,abe h4]) mh k
   refine⟨_,O,s,_,_,_,O,O,hs,O,O,_,O,Lo (gZ hw) ?_⟩
   refine⟨_,O,_,O,bg (λ(h5:b3=true)=>?_) (λ(h5:¬b3=true)=>?_)⟩
   ·refine⟨_,O,O,_,O,bg (λ(h6:aU (sg c) (" ":Str)=true)=>?_) (λ(h6:¬aU (sg c) (" ":Str)=true)=>?_)⟩
    ·exact⟨_,O,iG (by unfold fq eB;rw[abb hw,abb h1,abb h2,abb h3,abb h4,abe h6,abe h5]) dj (aH.refl _) hs k⟩
    refine⟨_,O,_,O,_,_,O,O,_,O,jj (gZ h3) (cJ ?_)⟩
    exact bT (by unfold fq eB;rw[abb hw,abb h1,abb h2,abb h3,abb h4,abb h6]) cZ k
   refine cJ ?_
   refine⟨_,O,_,O,_,_,O,O,_,O,jj (gZ h3) (cJ ?_)⟩
   exact bT (by unfold fq eB;rw[abb hw,abb h1,abb h2,abb h3,abb h4];by_cases h6:aU (sg c) (" ":Str)=true<;>simp only[h6,h5,if_true,acm,abW]) cZ k
def CZ(K:W.Frag):Sp:=λvs H Q _=>∃(t s:Addr)(w u:Str)(c:Nat)(p q f:Str)(b1 b2 b3 b4:Bool),vs=[.ref t,.ref s,.str (sg c)]/\bz K H t (gb p q f b1 b2 b3 b4)/\bz K H s [.str w,.str u]/\∀v H',aH H H'->wc K H' v (bA p q f b1 b2 b3 b4 w u c)->Q v H'
theorem sY:br P w K mg base fO 2 (aC 46) (aL 46) ["_law_told_here","_law_state","_law_sign"] (CZ K):=by
 have EM:=@CY P w K mg base aC aL cV T
 refine T.oS.ok cj (λvs H Q E h=>?_) (λcdv A outer s H vs Q E hr h=>?_)
 ·obtain⟨t,s,w,u,c,p,q,f,b1,b2,b3,b4,rfl,_⟩:=h;rfl
 ·have hu:=bf hr
  have gj:=hr.aO
  obtain⟨t,s,w,u,c,p,q,f,b1,b2,b3,b4,rfl,ht,hs,k⟩:=h
  refine'⟨_,?aa,?bb⟩
  case aa =>
   refine' ah ?s0 ?r0
   case s0 =>
    exact(iY (pv 0) (fV K rfl 7 rfl (aP (fu 3 cj.nd) (aP (fu 4 cj.nd) (aP (fu 5 cj.nd) (aP (fu 6 cj.nd) (aP (fu 7 cj.nd) (aP (fu 8 cj.nd) (aP (fu 9 cj.nd) fQ)))))))))
   case r0 =>
    refine' ah ?s1 ?r1
    case s1 =>
     exact(iY (pv 1) (fV K rfl 2 rfl (aP (fu 10 cj.nd) (aP (fu 11 cj.nd) fQ))))
    case r1 =>
     refine' ah ?s2 ?r2
     case s2 =>
      refine' aK ?c3 ?b3 ?e3
      case c3=>exact(di aZ (pv 10) ao)
      case b3 =>
       refine' ah ?s4 ?r4
       case s4 =>
        refine' aK ?c5 ?b5 ?e5
        case c5=>exact(cI cD (pv 2) (pv 5) rfl)
        case b5 =>
         refine' ak ?s6
         case s6 =>
          refine' ay ?v7
          case v7 =>
           refine' aB ?a8
           case a8 =>
            refine' af ?x9 ?y9 ?z9
            case z9=>exact rfl
            case x9 =>
             exact ao
            case y9 =>
             refine' af ?UJ ?UK ?UL
             case UL=>exact rfl
             case UJ =>
              refine' aB ?Rm
              case Rm =>
               refine' af ?UE ?Ml ?Po
               case Po=>exact rfl
               case UE =>
                exact ao
               case Ml =>
                refine' af ?UG ?UH ?UI
                case UI=>exact rfl
                case UG =>
                 exact(pv 11)
                case UH =>
                 exact ai
             case UK =>
              exact ai
        case e5 =>
         exact aA
       case r4 =>
        refine' ah ?Oo ?r14
        case Oo =>
         refine' aK ?c15 ?Y6 ?e15
         case c15=>exact(di aZ (pv 2) (pv 11))
         case Y6 =>
          refine' ak ?Sl
          case Sl =>
           refine' ay ?v17
           case v17 =>
            refine' aB ?UW
            case UW =>
             refine' af ?Yu ?Yv ?Yw
             case Yw=>exact rfl
             case Yu =>
              exact ao
             case Yv =>
              refine' af ?Yx ?Yy ?Yz
              case Yz=>exact rfl
              case Yx =>
               refine' rz K ?o21 ?i21 ?h21 ?k21
               case h21=>exact λ_ _=>rfl
               case k21=>exact rfl
               case o21 =>
                refine' bM ?Y7
                case Y7 =>
                 refine' af ?Oe ?Og ?Oh
                 case Oh=>exact rfl
                 case Oe =>
                  refine' aB ?Oi
                  case Oi =>
                   refine' af ?Rf ?Rg ?Rh
                   case Rh=>exact rfl
                   case Rf =>
                    exact ao
                   case Rg =>
                    refine' af ?Oj ?Ol ?Om
                    case Om=>exact rfl
                    case Oj =>
                     exact ao
                    case Ol =>
                     exact ai
                 case Og =>
                  refine' af ?UA ?UB ?UC
                  case UC=>exact rfl
                  case UA =>
                   refine' aB ?UX
                   case UX =>
                    refine' af ?YC ?YD ?YE
                    case YE=>exact rfl
                    case YC =>
                     exact ao
                    case YD =>
                     refine' af ?Ri ?Rj ?Rl
                     case Rl=>exact rfl
                     case Ri =>
                      exact(pv 11)
                     case Rj =>
                      exact ai
                  case UB =>
                   exact ai
               case i21=>exact(Sa lz T.zc (af (pv 6) ai))
              case Yy =>
               exact ai
         case e15 =>
          exact aA
        case r14 =>
         refine' ah ?YF ?YG
         case YF =>
          refine' aK ?Ud ?UY ?YH
          case Ud=>exact(PW.pt (dM (di aZ (pv 2) ao) (cU (cG (bJ (pv 7))))))
          case UY =>
           refine' ak ?YI
           case YI =>
            refine' ay ?YJ
            case YJ =>
             refine' aB ?UZ
             case UZ =>
              refine' af ?Ut ?Uu ?Uv
              case Uv=>exact rfl
              case Ut =>
               exact ao
              case Uu =>
               refine' af ?Ux ?Uy ?Uz
               case Uz=>exact rfl
               case Ux =>
                exact ao
               case Uy =>
                exact ai
          case YH =>
           exact aA
         case YG =>
          refine' ak ?s38
          case s38 =>
           refine' ay ?v39
           case v39 =>
            refine' aB ?Y8
            case Y8 =>
             refine' af ?XY ?XZ ?X0
             case X0=>exact rfl
             case XY =>
              exact ao
             case XZ =>
              refine' af ?XA ?XC ?XD
              case XD=>exact rfl
              case XA =>
               exact(pv 1)
              case XC =>
               exact ai
      case e3 =>
       exact aA
     case r2 =>
      refine' ah ?YO ?r43
      case YO =>
       refine' aK ?c44 ?Y9 ?Xh
       case c44=>exact(di aZ (pv 10) ao)
       case Y9 =>
        refine' ah ?s45 ?r45
        case s45 =>
         refine' aK ?c46 ?Za ?e46
         case c46=>exact(PW.pt (dM (di aZ (pv 2) ao) (cU (cG (bJ (pv 7))))))
         case Za =>
          refine' ak ?s47
          case s47 =>
           refine' ay ?v48
           case v48 =>
            refine' aB ?Uw
            case Uw =>
             refine' af ?XI ?XJ ?XM
             case XM=>exact rfl
             case XI =>
              exact ao
             case XJ =>
              refine' af ?XO ?XQ ?XR
              case XR=>exact rfl
              case XO =>
               exact ao
              case XQ =>
               exact ai
         case e46 =>
          exact aA
        case r45 =>
         refine' ak ?s52
         case s52 =>
          refine' ay ?v53
          case v53 =>
           refine' aB ?Zb
           case Zb =>
            refine' af ?x55 ?y55 ?z55
            case z55=>exact rfl
            case x55 =>
             exact ao
            case y55 =>
             refine' af ?x56 ?y56 ?z56
             case z56=>exact rfl
             case x56 =>
              refine' rz K ?o57 ?i57 ?h57 ?k57
              case h57=>exact λ_ _=>rfl
              case k57=>exact rfl
              case o57 =>
               refine' bM ?Zc
               case Zc =>
                refine' af ?YU ?YV ?YW
                case YW=>exact rfl
                case YU =>
                 refine' aB ?YX
                 case YX =>
                  refine' af ?YY ?YZ ?Y0
                  case Y0=>exact rfl
                  case YY =>
                   exact ao
                  case YZ =>
                   refine' af ?Y3 ?Y4 ?Y5
                   case Y5=>exact rfl
                   case Y3 =>
                    exact(pv 11)
                   case Y4 =>
                    exact ai
                case YV =>
                 refine' af ?x63 ?y63 ?z63
                 case z63=>exact rfl
                 case x63 =>
                  refine' aB ?a64
                  case a64 =>
                   refine' af ?x65 ?y65 ?z65
                   case z65=>exact rfl
                   case x65 =>
                    exact ao
                   case y65 =>
                    refine' af ?x66 ?y66 ?z66
                    case z66=>exact rfl
                    case x66 =>
                     exact ao
                    case y66 =>
                     exact ai
                 case y63 =>
                  exact ai
              case i57=>exact(Sa lz T.zc (af (yp aZ (pv 11) ao) ai))
             case y56 =>
              exact ai
       case Xh =>
        exact aA
      case r43 =>
       refine' ah ?Sn ?r67
       case Sn =>
        refine' aK ?c68 ?b68 ?e68
        case c68=>exact(PW.pt (dM (di aZ (pv 10) ao) (cU (di aZ (pv 2) (pv 11)))))
        case b68 =>
         refine' ak ?U0
         case U0 =>
          refine' ay ?v70
          case v70 =>
           refine' aB ?a71
           case a71 =>
            refine' af ?x72 ?y72 ?z72
            case z72=>exact rfl
            case x72 =>
             exact ao
            case y72 =>
             refine' af ?x73 ?y73 ?z73
             case z73=>exact rfl
             case x73 =>
              refine' aB ?a74
              case a74 =>
               refine' af ?x75 ?y75 ?z75
               case z75=>exact rfl
               case x75 =>
                exact ao
               case y75 =>
                refine' af ?x76 ?y76 ?z76
                case z76=>exact rfl
                case x76 =>
                 exact(pv 11)
                case y76 =>
                 exact ai
             case y73 =>
              exact ai
        case e68 =>
         exact aA
       case r67 =>
        refine' ah ?s77 ?r77
        case s77 =>
         refine' aK ?c78 ?b78 ?e78
         case c78=>exact(PW.pt (gk (di aZ (pv 10) ao) (eZ (di aZ (pv 10) ao))))
         case b78 =>
          refine' ah ?s79 ?r79
          case s79 =>
           refine' aK ?c80 ?b80 ?e80
           case c80=>exact(di aZ (pv 2) ao)
           case b80 =>
            refine' ak ?s81
            case s81 =>
             refine' ay ?v82
             case v82 =>
              refine' aB ?a83
              case a83 =>
               refine' af ?x84 ?y84 ?z84
               case z84=>exact rfl
               case x84 =>
                exact ao
               case y84 =>
                refine' af ?x85 ?y85 ?z85
                case z85=>exact rfl
                case x85 =>
                 refine' aB ?a86
                 case a86 =>
                  refine' af ?x87 ?y87 ?z87
                  case z87=>exact rfl
                  case x87 =>
                   exact ao
                  case y87 =>
                   refine' af ?x88 ?y88 ?z88
                   case z88=>exact rfl
                   case x88 =>
                    exact ao
                   case y88 =>
                    exact ai
                case y85 =>
                 exact ai
           case e80 =>
            exact aA
          case r79 =>
           refine' ah ?s89 ?r89
           case s89 =>
            refine' aK ?c90 ?b90 ?e90
            case c90=>exact(cI cD (pv 2) (pv 3) rfl)
            case b90 =>
             refine' ak ?s91
             case s91 =>
              refine' ay ?v92
              case v92 =>
               refine' aB ?a93
               case a93 =>
                refine' af ?x94 ?y94 ?z94
                case z94=>exact rfl
                case x94 =>
                 exact ao
                case y94 =>
                 refine' af ?x95 ?y95 ?z95
                 case z95=>exact rfl
                 case x95 =>
                  refine' aB ?a96
                  case a96 =>
                   refine' af ?x97 ?y97 ?z97
                   case z97=>exact rfl
                   case x97 =>
                    exact ao
                   case y97 =>
                    refine' af ?x98 ?y98 ?z98
                    case z98=>exact rfl
                    case x98 =>
                     exact ao
                    case y98 =>
                     exact ai
                 case y95 =>
                  exact ai
            case e90 =>
             exact aA
           case r89 =>
            refine' ah ?s99 ?r99
            case s99 =>
             refine' aK ?Zd ?Ze ?Zf
             case Zd=>exact(PW.pt (dM (bJ (pv 8)) (cU (di aZ (pv 2) ao))))
             case Ze =>
              refine' ak ?Zg
              case Zg =>
               refine' ay ?Zh
               case Zh =>
                refine' aB ?Zi
                case Zi =>
                 refine' af ?Zj ?Zk ?Zl
                 case Zl=>exact rfl
                 case Zj =>
                  exact ao
                 case Zk =>
                  refine' af ?Zm ?Zn ?Zo
                  case Zo=>exact rfl
                  case Zm =>
                   refine' aB ?Zp
                   case Zp =>
                    refine' af ?Zq ?Zr ?Zs
                    case Zs=>exact rfl
                    case Zq =>
                     exact ao
                    case Zr =>
                     refine' af ?Zt ?Zu ?Zv
                     case Zv=>exact rfl
                     case Zt =>
                      exact ao
                     case Zu =>
                      exact ai
                  case Zn =>
                   exact ai
             case Zf =>
              exact aA
            case r99 =>
             refine' ak ?Zw
             case Zw =>
              refine' ay ?Zx
              case Zx =>
               refine' aB ?Zy
               case Zy =>
                refine' af ?Zz ?ZA ?ZC
                case ZC=>exact rfl
                case Zz =>
                 exact ao
                case ZA =>
                 refine' af ?ZD ?ZE ?ZF
                 case ZF=>exact rfl
                 case ZD =>
                  exact ao
                 case ZE =>
                  exact ai
         case e78 =>
          exact aA
        case r77 =>
         refine' ak ?ZG
         case ZG =>
          exact(ay (fP EM hr T.EB T.vv.kp T.EA (af (pv 0) (af (pv 1) (af (pv 2) ai)))))
  refine⟨_,O,t,_,O,ht,O,_,_,O,_,_,O,_,_,O,_,_,O,_,_,O,_,_,O,_,_,O,O,?_⟩
  refine⟨_,O,s,_,O,hs,O,_,_,O,_,_,O,O,?_⟩
  refine⟨_,O,O,_,O,bg (λ(h0:aU w ("within":Str)=true)=>?_) (λ(h0:¬aU w ("within":Str)=true)=>?_)⟩
  ·refine⟨_,O,_,O,_,_,O,O,_,O,bg (λ(h1:gQ c f=true)=>?_) (λ(h1:¬gQ c f=true)=>?_)⟩
   ·exact⟨_,O,bT (by rw[fW h0];unfold cF;rw[abe h1]) dj k⟩
   refine⟨_,O,_,O,O,_,O,bg (λ(h2:aU (sg c) u=true)=>?_) (λ(h2:¬aU (sg c) u=true)=>?_)⟩
   ·refine⟨(by show 2<=sizeLine;decide),λt1 g1=>⟨_,O,(by show 2<=sizeLine;decide),λt2 g2=>⟨(by show 2<=sizeLine;decide),λl gl=>?_⟩⟩⟩
    have z1:=au (o:=HO.tup [.str ("behind":Str),.str ("":Str)]) g1
    have z2:=au (o:=HO.tup [.str ("doubt":Str),.str u]) g2
    have z3:=au (o:=HO.lst [.ref t1,.ref t2]) gl
    have y1:bz K _ t1 [.str ("behind":Str),.str ("":Str)]:=aF (z2.trans z3) (bz.of aj)
    have y2:bz K _ t2 [.str ("doubt":Str),.str u]:=aF z3 (bz.of aj)
    refine⟨_,O,.inr ⟨b1,O,?_⟩⟩
    cases b1 with
    |true=>exact⟨l,_,_,.ref t2,rfl,rfl,bw.of aj,rfl,iG (by rw[fW h0];unfold cF;rw[abb h1,abe h2];rfl) dj ((z1.trans z2).trans z3) y2 k⟩
    |false=>exact⟨l,_,_,.ref t1,rfl,rfl,bw.of aj,rfl,iG (by rw[fW h0];unfold cF;rw[abb h1,abe h2];rfl) dj ((z1.trans z2).trans z3) y1 k⟩
   refine⟨_,O,O,_,O,bg (λ(h3:aU (sg c) (Str.ofString "\n")=true)=>?_) (λ(h3:¬aU (sg c) (Str.ofString "\n")=true)=>?_)⟩
   ·refine⟨_,O,_,O,bg (λ(h4:(!b2)=true)=>?_) (λ(h4:¬(!b2)=true)=>?_)⟩
    ·exact ja (by rw[fW h0];unfold cF;rw[abb h1,abb h2,abe h3,abe h4]) k
    cases gi h0
    exact⟨_,O,iG (by rw[fW h0];unfold cF;rw[abb h1,abb h2,abe h3,abb h4]) cZ (aH.refl _) hs k⟩
   cases gi h0
   refine cJ ?_
   exact⟨_,O,iG (by rw[fW h0];unfold cF;rw[abb h1,abb h2,abb h3]) cZ (aH.refl _) hs k⟩
  have n0:=h0
  clear h0
  refine⟨_,O,O,_,O,bg (λ(h0:aU w ("freed":Str)=true)=>?_) (λ(h0:¬aU w ("freed":Str)=true)=>?_)⟩
  ·refine⟨_,O,O,_,O,bg (λ(h1:aU (sg c) (Str.ofString "\n")=true)=>?_) (λ(h1:¬aU (sg c) (Str.ofString "\n")=true)=>?_)⟩
   ·refine⟨_,O,_,O,bg (λ(h2:(!b2)=true)=>?_) (λ(h2:¬(!b2)=true)=>?_)⟩
    ·exact ja (by rw[jR h0];unfold fF;rw[abe h1,abe h2]) k
    refine⟨_,O,(by show 2<=sizeLine;decide),λt1 g1=>⟨(by show 2<=sizeLine;decide),λt2 g2=>⟨(by show 2<=sizeLine;decide),λl gl=>?_⟩⟩⟩
    have z1:=au (o:=HO.tup [.str ("within":Str),.str u]) g1
    have z2:=au (o:=HO.tup [.str ("plain":Str),.str ("":Str)]) g2
    have z3:=au (o:=HO.lst [.ref t1,.ref t2]) gl
    have y1:bz K _ t1 [.str ("within":Str),.str u]:=aF (z2.trans z3) (bz.of aj)
    have y2:bz K _ t2 [.str ("plain":Str),.str ("":Str)]:=aF z3 (bz.of aj)
    refine⟨_,O,O,.inr ⟨aU u ("":Str),O,?_⟩⟩
    have ex:bA p q f b1 b2 b3 b4 w u c=dw u:=by rw[jR h0];unfold fF;rw[abe h1,abb h2]
    unfold dw at ex
    cases U1:aU u ("":Str) with
    |true=>exact⟨l,_,_,.ref t2,rfl,rfl,bw.of aj,rfl,iG (by rw[ex,abe U1]) cZ ((z1.trans z2).trans z3) y2 k⟩
    |false=>exact⟨l,_,_,.ref t1,rfl,rfl,bw.of aj,rfl,iG (by rw[ex,abb (by rw[U1];decide)]) cZ ((z1.trans z2).trans z3) y1 k⟩
   refine cJ ?_
   refine⟨_,O,(by show 2<=sizeLine;decide),λt1 g1=>⟨(by show 2<=sizeLine;decide),λt2 g2=>⟨(by show 2<=sizeLine;decide),λl gl=>?_⟩⟩⟩
   have z1:=au (o:=HO.tup [.str ("within":Str),.str u]) g1
   have z2:=au (o:=HO.tup [.str ("plain":Str),.str ("":Str)]) g2
   have z3:=au (o:=HO.lst [.ref t1,.ref t2]) gl
   have y1:bz K _ t1 [.str ("within":Str),.str u]:=aF (z2.trans z3) (bz.of aj)
   have y2:bz K _ t2 [.str ("plain":Str),.str ("":Str)]:=aF z3 (bz.of aj)
   refine⟨_,O,O,.inr ⟨aU u ("":Str),O,?_⟩⟩
   have ex:bA p q f b1 b2 b3 b4 w u c=dw u:=by rw[jR h0];unfold fF;rw[abb h1]
   unfold dw at ex
   cases U1:aU u ("":Str) with
   |true=>exact⟨l,_,_,.ref t2,rfl,rfl,bw.of aj,rfl,iG (by rw[ex,abe U1]) cZ ((z1.trans z2).trans z3) y2 k⟩
   |false=>exact⟨l,_,_,.ref t1,rfl,rfl,bw.of aj,rfl,iG (by rw[ex,abb (by rw[U1];decide)]) cZ ((z1.trans z2).trans z3) y1 k⟩
  have n1:=h0
  clear h0
  refine⟨_,O,O,_,O,bg (λ(h0:aU w ("doubt":Str)=true)=>?_) (λ(h0:¬aU w ("doubt":Str)=true)=>?_)⟩
  ·refine⟨_,O,_,O,O,_,O,bg (λ(h1:aU (sg c) u=true)=>?_) (λ(h1:¬aU (sg c) u=true)=>?_)⟩
   ·exact⟨_,O,bT (by rw[iT h0];unfold gD;rw[abe h1]) cZ k⟩
   refine⟨_,O,O,_,O,ko h0 (j9 ?_)⟩
   refine⟨_,O,O,_,O,bg (λ(g1:aU (sg c) (Str.ofString "\n")=true)=>?_) (λ(g1:¬aU (sg c) (Str.ofString "\n")=true)=>?_)⟩
   ·exact bT (by rw[iT h0];unfold gD bO;rw[abb h1,abe g1]) qC k
   refine⟨_,O,_,O,_,_,O,O,_,O,bg (λ(g2:gQ c p=true)=>?_) (λ(g2:¬gQ c p=true)=>?_)⟩
   ·exact bT (by rw[iT h0];unfold gD bO;rw[abb h1,abb g1,abe g2]) mh k
   refine⟨_,O,_,O,bg (λ(g3:b3=true)=>?_) (λ(g3:¬b3=true)=>?_)⟩
   ·refine⟨_,O,O,_,O,bg (λ(g4:aU (sg c) (" ":Str)=true)=>?_) (λ(g4:¬aU (sg c) (" ":Str)=true)=>?_)⟩
    ·exact bT (by rw[iT h0];unfold gD bO;rw[abb h1,abb g1,abb g2,abe g4,abe g3]) dj k
    exact ja (by rw[iT h0];unfold gD bO;rw[abb h1,abb g1,abb g2,abb g4]) k
   refine cJ ?_
   exact ja (by rw[iT h0];unfold gD bO;rw[abb h1,abb g1,abb g2];by_cases g4:aU (sg c) (" ":Str)=true<;>simp only[g4,g3,if_true,acm,abW]) k
  refine cJ ?_
  refine⟨_,O,O,_,O,jj (gZ h0) ?_⟩
  refine⟨_,O,O,_,O,bg (λ(h9:aU w ("behind":Str)=true)=>?_) (λ(h9:¬aU w ("behind":Str)=true)=>?_)⟩
  ·refine⟨_,O,O,_,O,bg (λ(g1:aU (sg c) (Str.ofString "\n")=true)=>?_) (λ(g1:¬aU (sg c) (Str.ofString "\n")=true)=>?_)⟩
   ·exact bT (by rw[iH h9];unfold bO;rw[abe g1]) qC k
   refine⟨_,O,_,O,_,_,O,O,_,O,bg (λ(g2:gQ c p=true)=>?_) (λ(g2:¬gQ c p=true)=>?_)⟩
   ·exact bT (by rw[iH h9];unfold bO;rw[abb g1,abe g2]) mh k
   refine⟨_,O,_,O,bg (λ(g3:b3=true)=>?_) (λ(g3:¬b3=true)=>?_)⟩
   ·refine⟨_,O,O,_,O,bg (λ(g4:aU (sg c) (" ":Str)=true)=>?_) (λ(g4:¬aU (sg c) (" ":Str)=true)=>?_)⟩
    ·exact bT (by rw[iH h9];unfold bO;rw[abb g1,abb g2,abe g4,abe g3]) dj k
    exact ja (by rw[iH h9];unfold bO;rw[abb g1,abb g2,abb g4]) k
   refine cJ ?_
   exact ja (by rw[iH h9];unfold bO;rw[abb g1,abb g2];by_cases g4:aU (sg c) (" ":Str)=true<;>simp only[g4,g3,if_true,acm,abW]) k
  refine⟨_,O,_,O,_,O,t,s,w,u,c,p,q,f,b1,b2,b3,b4,O,ht,hs,λv H2 s2 r=>k v H2 s2 ?_⟩
  rw[BY (gZ n0) (gZ n1) (gZ h0) (gZ h9)]
  exact r
def C0(K:W.Frag):Sp:=λvs H Q _=>∃(t:Addr)(z:Str)(p q f:Str)(b1 b2 b3 b4:Bool),vs=[.ref t,.str z]/\H t=some (.tup (gb p q f b1 b2 b3 b4))/\z.length<=3000/\∀(tw lk s:Addr) H',H' tw=some (.tup [.ref lk,.ref s,.str (B3 (runM p q f b1 b2 b3 b4 ("row":Str) ("":Str) z.cps.toList))])->H lk=none->H' lk=some (.lst ((runM p q f b1 b2 b3 b4 ("row":Str) ("":Str) z.cps.toList).1.map V.str))->bz K H' s [.str (runM p q f b1 b2 b3 b4 ("row":Str) ("":Str) z.cps.toList).2.1,.str (runM p q f b1 b2 b3 b4 ("row":Str) ("":Str) z.cps.toList).2.2.1]->aH H H'->Q (.ref tw) H'
theorem sZ:br P w K mg base fO 3 (aC 47) (aL 47) ["_law_told_here","_law_text"] (C0 K):=by
 have pA:=@sY P w K mg base aC aL cV T
 refine T.oU.ok eN (λvs H Q E h=>?_) (λcdv A outer s H vs Q E hr h=>?_)
 ·obtain⟨t,z,p,q,f,b1,b2,b3,b4,rfl,_⟩:=h;rfl
 ·have hu:=bf hr
  have gj:=hr.aO
  obtain⟨t,z,p,q,f,b1,b2,b3,b4,rfl,ht,hz2,k⟩:=h
  refine'⟨_,?aa,?bb⟩
  case aa =>
   refine' ah ?s0 ?r0
   case s0 =>
    refine' dg 2 eN.nd ?v1
    case v1 =>
     refine' aB ?a2
     case a2 =>
      refine' af ?x3 ?y3 ?z3
      case z3=>exact rfl
      case x3 =>
       exact ao
      case y3 =>
       refine' af ?x4 ?y4 ?z4
       case z4=>exact rfl
       case x4 =>
        exact ao
       case y4 =>
        exact ai
   case r0 =>
    refine' ah ?s5 ?r5
    case s5 =>
     refine' dg 3 eN.nd ?v6
     case v6 =>
      refine' bM ?a7
      case a7 =>
       exact ai
    case r5 =>
     refine' ah ?s8 ?r8
     case s8 =>
      exact(dO abL rfl (lR (pv 1)) (fu 4 eN.nd)
     (ah (iY (fP pA hr T.vA T.oS.kp T.vz (af (pv 0) (af (pv 2) (af (pv 4) ai)))) (fV K rfl 2 rfl (aP (fu 5 eN.nd) (aP (fu 6 eN.nd) fQ))))
     (ah (aK (di aZ (pv 5) ao) (ak (ay (aB (af (pv 3) (af (pv 2) (af (pv 6) ai)))))) aA)
     (ah (d7 (gc K rfl abQ abU abV cN (pv 3) (af (pv 5) ai)))
     (ak (dg 2 eN.nd (pv 6)))))))
     case r8 =>
      refine' ak ?s9
      case s9 =>
       refine' ay ?v10
       case v10 =>
        refine' aB ?Rm
        case Rm =>
         refine' af ?UE ?Ml ?Po
         case Po=>exact rfl
         case UE =>
          exact(pv 3)
         case Ml =>
          refine' af ?UG ?UH ?UI
          case UI=>exact rfl
          case UG =>
           exact(pv 2)
          case UH =>
           refine' af ?x14 ?y14 ?z14
           case z14=>exact rfl
           case x14 =>
            refine' rz K ?o15 ?i15 ?U3 ?k15
            case U3=>exact λ_ _=>rfl
            case k15=>exact rfl
            case o15 =>
             refine' bM ?ZH
             case ZH =>
              refine' af ?Yr ?Ys ?Yt
              case Yt=>exact rfl
              case Yr =>
               exact ao
              case Ys =>
               refine' af ?x18 ?y18 ?z18
               case z18=>exact rfl
               case x18 =>
                exact ao
               case y18 =>
                exact ai
            case i15=>exact(Sa lz T.zc (af (yp (Fo K rfl gj) (pv 2) (aB (af ao (af ao ai)))) ai))
           case y14 =>
            exact ai
  refine⟨by decide,λs0 hs0=>?_⟩
  have z0:=au (o:=HO.tup [.str ("row":Str),.str ("":Str)]) hs0
  refine⟨by decide,λlk hlk=>?_⟩
  have z1:=au (o:=HO.lst []) hlk
  have JM:H lk=none:=z0.free hlk
  refine⟨_,O,z,O,?_⟩
  refine ri (λi σ H4=>aH H H4/\∃(w u:Str)(s:Addr)(ks:List Str)(v1 v2 v3:Option V),σ=[some (.ref t),some (.str z),some (.ref s),some (.ref lk),v1,v2,v3]/\H4 lk=some (.lst (ks.map V.str))/\bz K H4 s [.str w,.str u]/\ks.length=i/\runM p q f b1 b2 b3 b4 ("row":Str) ("":Str) z.cps.toList=D9 ks (runM p q f b1 b2 b3 b4 w u (z.cps.toList.drop i))) ⟨z0.trans z1,_,_,s0,[],_,_,_,rfl,aj,bz.of (z1 _ _ aj),rfl,rfl⟩ ?_ ?_
  ·rintro i c σ H4 hi ⟨s4,w,u,s,ks,v1,v2,v3,rfl,h4,hs,Pr,er⟩
   rw[drop_cons hi]at er
   have hil:=(abi.mp hi).1
   rw[abt]at hil
   have hil:i<z.length:=hil
   refine⟨_,O,_,O,_,O,t,s,w,u,c,p,q,f,b1,b2,b3,b4,O,bz.of (s4 _ _ ht),hs,λv H5 s5 r=>?_⟩
   have h5:=s5 _ _ h4
   cases Gq:bA p q f b1 b2 b3 b4 w u c with
   |go kd w3 u3 =>
    rw[Gq]at r
    obtain⟨hk,a,b,rfl,ha,hb⟩:=r
    refine⟨a,_,O,ha,O,_,_,O,_,_,O,O,?_⟩
    refine⟨_,O,O,_,O,jj hk ?_⟩
    refine⟨_,O,.inl ⟨O,_,bw.of h5⟩,_,O,lk,_,_,O,O,h5,?_,?_⟩
    ·rw[abg];exact abz (show ks.length<=3000 by omega) (by decide)
    refine⟨_,O,aR JM (s4.trans s5),w3,u3,b,ks++[kd],_,_,_,O,?_,g5 h5 hb,by rw[abj,Pr];rfl,er.trans (QE Gq)⟩
    rw[abx];exact aj
   |kL e =>
    rw[Gq]at r
    obtain⟨a,rfl,ha⟩:=r
    refine⟨a,_,O,ha,O,_,_,O,_,_,O,O,?_⟩
    refine⟨_,O,O,_,O,ko (aY _) ?_⟩
    refine⟨_,O,_,O,_,O,(by show 3<=sizeLine;decide),λtw htw=>?_⟩
    have st:=au (o:=HO.tup [.ref lk,.ref s,.str e]) htw
    rw[NH Gq]at er
    refine k tw lk s _ ?_ JM ?_ ?_ ((s4.trans s5).trans st)
    ·rw[er];exact aj
    ·rw[er];exact st _ _ h5
    ·rw[er];exact aF (s5.trans st) hs
  ·rintro σ H4 ⟨s4,w,u,s,ks,v1,v2,v3,rfl,h4,hs,Pr,er⟩
   rw[List.drop_length,NI]at er
   refine⟨_,O,_,O,(by show 2<=sizeLine;decide),λl hl=>?_⟩
   have y1:=au (o:=HO.lst [.str ("cut":Str),.str ("":Str)]) hl
   refine⟨_,O,(by show 2<=sizeLine;decide),λm hm=>?_⟩
   have y2:=au (o:=HO.tup [.str ("row":Str),.str ("":Str)]) hm
   have Ml:=y1.trans y2
   have hl2:=y2 _ _ (show(upd H4 l (.lst [.str ("cut":Str),.str ("":Str)])) l=some (.lst [.str ("cut":Str),.str ("":Str)]) from aj)
   refine⟨s,m,_,_,O,O,aF Ml hs,bz.of aj,O,O,.inr ⟨D7 w u,O,?_⟩⟩
   generalize upd (upd H4 l (HO.lst [.str ("cut":Str),.str ("":Str)])) m (HO.tup [.str ("row":Str),.str ("":Str)])=H5 at Ml hl2⊢
   have fin:∀wd:Str,wd=B3 (runM p q f b1 b2 b3 b4 ("row":Str) ("":Str) z.cps.toList)->[V.ref lk,V.ref s,V.str wd].length<=sizeLine/\∀tw,H5 tw=none->Q (.ref tw) (upd H5 tw (.tup [.ref lk,.ref s,.str wd])):=λwd ew=>by
    refine⟨(by show 3<=sizeLine;decide),λtw htw=>?_⟩
    have st:=au (o:=HO.tup [.ref lk,.ref s,.str wd]) htw
    refine k tw lk s _ ?_ JM ?_ ?_ ((s4.trans Ml).trans st)
    ·rw[←ew];exact aj
    ·rw[er];exact(Ml.trans st) _ _ h4
    ·rw[er];exact aF (Ml.trans st) hs
   cases hrw:D7 w u with
   |true=>exact⟨l,_,_,.str ("":Str),rfl,rfl,bw.of hl2,rfl,fin _ (by rw[er];unfold B3;exact(abe hrw).symm)⟩
   |false=>exact⟨l,_,_,.str ("cut":Str),rfl,rfl,bw.of hl2,rfl,fin _ (by rw[er];unfold B3;exact(abb (by show ¬D7 w u=true;rw[hrw];decide)).symm)⟩
def C1(K:W.Frag):Sp:=λvs H Q _=>∃(z:Str)(lk:Addr)(ks:List Str),vs=[.str z,.ref lk]/\bw K H lk (ks.map V.str)/\z.length<=3000/\ks.length<=z.length/\∀(l:Addr)(es:List V)(H':Hp),H l=none->H' l=some (.lst es)->V.ref l∉es->es.Nodup->wg H H' es (IC z ks)->aH H H'->Q (.ref l) H'
theorem tu:br P w K mg base fO 1 (aC 48) (aL 48) ["_law_text","_law_kinds"] (C1 K):=by
 refine T.oV.ok cL (λvs H Q E h=>?_) (λcdv A outer s H vs Q E hr h=>?_)
 ·obtain⟨z,lk,ks,rfl,_⟩:=h;rfl
 ·have hu:=bf hr
  have gj:=hr.aO
  obtain⟨z,lk,ks,rfl,hk,hz,hkz,k⟩:=h
  refine⟨_,(ah (dg 2 cL.nd (bM ai))
   (ah (dg 3 cL.nd (bM ai))
   (ah (dg 4 cL.nd ao)
   (ah (dO abL rfl (gJ rfl T.iW (af (jC (aX K rfl) T.bS (af (pv 1) ai)) ai)) (fu 5 cL.nd)
   (ah (aK (di aZ (rz K (pv 1) (pv 5)) ao) (ak (dg 4 cL.nd (aJ bF (pv 4) (DH Fe (pv 0) (pv 5) (λ_ _=>rfl))))) aA)
   (ah (aK (PW.pt (gk (di aZ (rz K (pv 1) (pv 5)) ao) (eZ (di aZ (rz K (pv 1) (pv 5)) ao)))) (ah (dg 3 cL.nd (aJ BQ (pv 3) (bM (af (pv 4) ai))))
   (ak (dg 4 cL.nd ao))) aA)
   (ak (aK (di aZ (rz K (pv 1) (pv 5)) ao) (ah (d7 (gc K rfl abQ abU abV cN (pv 2) (af (pv 3) ai)))
   (ak (dg 3 cL.nd (bM ai)))) aA)))))
   (ak (ay (pv 2))))))),?_⟩
  refine⟨by decide,λlt hlt=>?_⟩
  have s1:=au (o:=HO.lst []) hlt
  refine⟨by decide,λr0 hr0=>?_⟩
  have s2:=au (o:=HO.lst []) hr0
  have a1:(upd (upd H lt (.lst [])) r0 (.lst [])) lt=some (.lst []):=s2 _ _ aj
  have a2:(upd (upd H lt (.lst [])) r0 (.lst [])) r0=some (.lst []):=aj
  have n0:r0≠lt:=λq=>by rw[q,aj]at hr0;cases hr0
  have fr:=s1.free hr0
  have s12:=s1.trans s2
  generalize upd (upd H lt (.lst [])) r0 (.lst [])=H1 at a1 a2 s12⊢
  have e0:("":Str).length=0:=by decide +kernel
  have hzz:z.length<=sizeLine:=abn hz (by decide)
  have ekl:(ks.map V.str).length=ks.length:=abg _
  refine⟨_,O,lk,_,O,.inl (s12.seq hk),_,O,by omega,by omega,?_⟩
  refine jB (λi σ H2=>aH H H2/\∃rr es row cell v5,σ=[some (.str z),some (.ref lk),some (.ref lt),some (.ref rr),some (.str cell),v5]/\H rr=none/\H2 lt=some (.lst es)/\H2 rr=some (.lst (row.map V.str))/\rr≠lt/\V.ref lt∉es/\V.ref rr∉es/\es.Nodup/\∃rows,wg H H2 es rows/\ur Lu (z.cps.toList.take i) (ks.take i)=⟨rows,row,cell⟩/\cell.length<=i/\row.length<=i/\es.length<=i) ⟨s12,r0,[],[],_,_,rfl,fr,a1,a2,n0,by simp,by simp,List.nodup_nil,[],.nil,rfl,by rw[e0];exact abf _,abf _,abf _⟩ ?_ ?_
  ·rintro i σ H2 hi ⟨s3,rr,es,row,cell,v5,rfl,ZI,b1,b2,nr,n1,n2,nd,rows,rw',hg,l1,l2,l3⟩
   have hi:i<ks.length:=by rw[←ekl];simpa using hi
   have Gh:z.cps.toList.length=z.length:=by rw[abt];rfl
   have hiz:i<z.cps.toList.length:=by omega
   obtain⟨kd,hkd⟩:∃kd,ks[i]?=some kd:=⟨_,aby hi⟩
   obtain⟨c,hc⟩:∃c,z.cps.toList[i]?=some c:=⟨_,aby hiz⟩
   have JR:=A7 Lu z.cps.toList ks i c kd hc hkd
   rw[hg]at JR
   have hat:Dv (ks.map V.str) (0+(i:Int))=some (.str kd):=by rw[Int.zero_add];exact iK (by rw[abZ,hkd];rfl)
   have hac:Dv z.cps.toList (0+(i:Int))=some c:=by rw[Int.zero_add];exact iK hc
   have Oq:=s3.seq hk
   unfold Ls at JR
   refine⟨_,O,_,O,lk,_,_,.str kd,O,O,Oq,hat,O,_,O,bg (λh1=>?_) (λh1=>?_)⟩
   ·have h1:aU kd ("put":Str)=true:=h1
    rw[abe h1]at JR
    refine⟨_,O,_,O,_,O,z,_,c,O,O,hzz,hac,_,_,O,O,abn (show cell.length+1<=3001 by omega) (by decide),?_⟩
    have ek:=gi h1
    refine⟨_,O,_,O,lk,_,_,.str kd,O,O,Oq,hat,O,_,O,jj (by rw[ek];decide +kernel) ?_⟩
    refine⟨_,O,_,O,lk,_,_,.str kd,O,O,Oq,hat,O,_,O,jj (by rw[ek];decide +kernel) ?_⟩
    refine⟨_,O,_,O,lk,_,_,.str kd,O,O,Oq,hat,O,_,O,jj (by rw[ek];decide +kernel) ?_⟩
    exact⟨s3,rr,es,row,_,_,O,ZI,b1,b2,nr,n1,n2,nd,rows,rw',JR,by rw[bE];show cell.length+1<=_;omega,by omega,by omega⟩
   have h1:¬aU kd ("put":Str)=true:=h1
   rw[abb h1]at JR
   by_cases h2:aU kd ("part":Str)=true
   ·rw[abe h2]at JR
    have ek:=gi h2
    refine⟨_,O,_,O,lk,_,_,.str kd,O,O,Oq,hat,O,_,O,ko h2 ?_⟩
    refine j9 ?_
    refine⟨_,O,_,O,(by show 1<=sizeLine;decide),λq hq=>?_⟩
    have sq:=au (o:=HO.lst [.str cell]) hq
    refine⟨rr,q,_,_,O,O,sq _ _ b2,aj,?_,λp hp=>?_⟩
    ·rw[abg];exact abn (show row.length+1<=3001 by omega) (by decide)
    have sp:=au (o:=HO.lst (row.map V.str++[.str cell])) hp
    have Rw:=sq.trans sp
    have fp:=(s3.trans sq).free hp
    have s5:=s3.trans Rw
    have d1:=Rw _ _ b1
    have d2:(upd (upd H2 q (.lst [.str cell])) p (.lst (row.map V.str++[.str cell]))) p=some (.lst ((row++[cell]).map V.str)):=by rw[aj,abx];rfl
    have np:p≠lt:=λe=>by rw[e,sq _ _ b1]at hp;cases hp
    have ZJ:V.ref p∉es:=λe=>by
     obtain⟨_,ys,hys⟩:=rw'.has e
     rw[sq _ _ hys]at hp;cases hp
    have U4:=wg.mono Rw rw'
    have U5:=s5.seq hk
    generalize upd (upd H2 q (.lst [.str cell])) p (.lst (row.map V.str++[.str cell]))=H5 at s5 d1 d2 U4 U5⊢
    refine⟨_,O,_,O,lk,_,_,.str kd,O,O,U5,hat,O,_,O,jj (by rw[ek];decide +kernel) ?_⟩
    exact⟨s5,p,es,row++[cell],_,_,O,fp,d1,d2,np,n1,ZJ,nd,rows,U4,JR,by rw[e0];omega,by rw[abj];show row.length+1<=_;omega,by omega⟩
   rw[abb h2]at JR
   refine⟨_,O,_,O,lk,_,_,.str kd,O,O,Oq,hat,O,_,O,jj (gZ h2) ?_⟩
   by_cases h3:aU kd ("end":Str)=true
   ·rw[abe h3]at JR
    refine⟨_,O,_,O,lk,_,_,.str kd,O,O,Oq,hat,O,_,O,ko h3 ?_⟩
    refine⟨_,O,_,O,(by show 1<=sizeLine;decide),λq hq=>?_⟩
    have sq:=au (o:=HO.lst [.str cell]) hq
    refine⟨rr,q,_,_,O,O,sq _ _ b2,aj,?_,λp hp=>?_⟩
    ·rw[abg];exact abn (show row.length+1<=3001 by omega) (by decide)
    have sp:=au (o:=HO.lst (row.map V.str++[.str cell])) hp
    have Rw:=sq.trans sp
    have fp:=(s3.trans sq).free hp
    have s5:=s3.trans Rw
    have d1:=Rw _ _ b1
    have d2:(upd (upd H2 q (.lst [.str cell])) p (.lst (row.map V.str++[.str cell]))) p=some (.lst ((row++[cell]).map V.str)):=by rw[aj,abx];rfl
    have np:p≠lt:=λe=>by rw[e,sq _ _ b1]at hp;cases hp
    have ZJ:V.ref p∉es:=λe=>by
     obtain⟨_,ys,hys⟩:=rw'.has e
     rw[sq _ _ hys]at hp;cases hp
    have U4:=wg.mono Rw rw'
    have U5:=s5.seq hk
    generalize upd (upd H2 q (.lst [.str cell])) p (.lst (row.map V.str++[.str cell]))=H5 at s5 d1 d2 U4 U5⊢
    refine⟨_,O,_,O,lk,_,_,.str kd,O,O,U5,hat,O,_,O,ko h3 ?_⟩
    refine⟨_,O,.inl ⟨O,_,bw.of d1⟩,_,O,lt,es,_,O,O,d1,abz l3 (abA (show i<3001 by omega) (by decide)),?_⟩
    have s6:aH H (upd H5 lt (.lst (es++[.ref p]))):=aR hlt s5
    have g1:(upd H5 lt (.lst (es++[.ref p]))) lt=some (.lst (es++[.ref p])):=aj
    have g2:=(aD (o:=HO.lst (es++[.ref p])) np).trans d2
    have nl:V.ref lt∉es++[V.ref p]:=λe=>by
     rcases abp.mp e with e|e
     ·exact n1 e
     ·exact np (V.ref.inj (abh.mp e)).symm
    have ZK:wg H (upd H5 lt (.lst (es++[.ref p]))) (es++[.ref p]) (rows++[row++[cell]]):=wg.app (wg.but n1 U4) (.cons ⟨p,rfl,fp,g2⟩ .nil)
    have nd6:(es++[V.ref p]).Nodup:=List.nodup_append.mpr ⟨nd,by simp,λx hx y hy e=>ZJ (by rw[abh.mp hy]at e;exact e▸hx)⟩
    generalize upd H5 lt (.lst (es++[.ref p]))=H6 at s6 g1 g2 ZK⊢
    refine⟨by decide,λr2 hr2=>?_⟩
    have sn:=au (o:=HO.lst []) hr2
    have nr2:r2≠lt:=λe=>by rw[e,g1]at hr2;cases hr2
    refine⟨s6.trans sn,r2,es++[.ref p],[],_,_,O,s6.free hr2,sn _ _ g1,aj,nr2,nl,λe=>?_,nd6,_,wg.mono sn ZK,JR,by rw[e0];omega,abO _,by rw[abj];show es.length+1<=_;omega⟩
    obtain⟨_,ys,hys⟩:=ZK.has e
    rw[hys]at hr2;cases hr2
   rw[abb h3]at JR
   refine⟨_,O,_,O,lk,_,_,.str kd,O,O,Oq,hat,O,_,O,jj (gZ h3) ?_⟩
   refine⟨_,O,_,O,lk,_,_,.str kd,O,O,Oq,hat,O,_,O,jj (gZ h3) ?_⟩
   exact⟨s3,rr,es,row,cell,_,O,ZI,b1,b2,nr,n1,n2,nd,rows,rw',JR,by omega,by omega,by omega⟩
  ·rintro σ H2 ⟨s3,rr,es,row,cell,v5,rfl,ZI,b1,b2,nr,n1,n2,nd,rows,rw',hg,l1,l2,l3⟩
   refine⟨_,O,k lt es H2 hlt b1 n1 nd ?_ s3⟩
   have e:((ks.map V.str).length:Int).toNat=min z.cps.toList.length ks.length:=by
    have Gh:z.cps.toList.length=z.length:=by rw[abt];rfl
    rw[acL,ekl,Gh];omega
   rw[e,Eb]at hg
   have:IC z ks=rows:=by unfold IC;rw[hg]
   rw[this]
   exact rw'
def Ai(K:W.Frag):Sp:=λvs H Q _=>∃(t:Addr)(c sa m:Int)(p q f:Str)(b1 b2 b3 b4:Bool),vs=[.ref t,.int c,.int sa,.int m]/\H t=some (.tup (gb p q f b1 b2 b3 b4))/\Gd p q f/\0<=sa/\sa<60000/\0<=m/\m<=59/\∀(l:Addr)(xs:List V)(tb:List (List Str)) H',H l=none->H' l=some (.lst xs)->Paired (bC H') xs tb->TabOk tb->((az tb).length:Int)<=m+1->aH H H'->Q (.ref l) H'
theorem Aj:br P w K mg base fO 3 (aC 49) (aL 49) ["_law_told_here","_law_cell","_law_salt","_law_most"] (Ai K):=by
 have lg:=@pe P w K mg base aC aL cV T
 have Js:=@Gy P w K mg base aC aL cV T
 refine T.mH.ok bh (λvs H Q E h=>?_) (λcdv A outer s H vs Q E hr h=>?_)
 ·obtain⟨t,c,sa,m,p,q,f,b1,b2,b3,b4,rfl,_⟩:=h;rfl
 ·have hu:=bf hr
  have gj:=hr.aO
  obtain⟨t,c,sa,m,p,q,f,b1,b2,b3,b4,rfl,ht,g,hs0,hs1,hm0,hm1,k⟩:=h
  have hp3:=g.p3;have hq2:=g.q2;have hf2:=g.f2
  have hS:bz K H t (gb p q f b1 b2 b3 b4):=bz.of ht
  refine⟨_,(ah (dg 4 bh.nd (fP lg hr T.qg T.k8.kp T.qf (af (pv 1) (af (pv 2) ai))))
   (ah (dg 5 bh.nd (aJ cY (pv 4) (aJ cX (pv 3) aq)))
   (ah (dg 4 bh.nd (aJ gy (pv 4) (aJ cX (pv 3) aq)))
   (ah (dg 6 bh.nd (aJ bF (aJ bF (aJ bF (gg K (pv 0) aq) (gg K (pv 0) aq)) (gg K (pv 0) aq)) ao))
   (ah (dg 7 bh.nd (bM ai))
   (ah (dg 8 bh.nd (bM ai))
   (ah (dg 9 bh.nd ao)
   (ah (dO abL rfl (gJ rfl T.iW (af (pv 5) ai)) (fu 10 bh.nd)
   (ah (dg 11 bh.nd (aJ cY (pv 4) (aJ cX (jC bB T.bS (af (pv 6) ai)) aq)))
   (ah (dg 4 bh.nd (fP Js hr T.Je T.Bt.kp T.Jd (af (aJ gy (pv 4) (aJ cX (jC bB T.bS (af (pv 6) ai)) aq)) (af (pv 1) (af (pv 10) ai)))))
   (ah (aK (di DC (pv 11) (jC bB T.bS (af (pv 6) ai))) (ak (dg 9 bh.nd (aJ bF (pv 9) (DH Fe (pv 6) (pv 11) (λ_ _=>rfl))))) (ah (dg 8 bh.nd (aJ BQ (pv 8) (bM (af (pv 9) ai))))
   (ak (dg 9 bh.nd ao))))
   (ak (aK (PW.pt (gk (di qW (pv 11) (jC bB T.bS (af (pv 6) ai))) (eZ (di aZ (jC (aX K rfl) T.bS (af (pv 8) ai)) aq)))) (ah (d7 (gc K rfl abQ abU abV cN (pv 7) (af (pv 8) ai)))
   (ak (dg 8 bh.nd (bM ai)))) aA))))))
   (ak (ay (aJ BQ (pv 7) (bM (af (aJ BQ (pv 8) (bM (af (pv 9) ai))) ai))))))))))))),?_⟩
  refine⟨_,O,_,O,_,_,O,hs0,hs1,λnn=>?_⟩
  have a0:=ace nn (show m+1≠0 by omega)
  have a1:=ab3 nn (show(0:Int)<m+1 by omega)
  refine⟨_,O,_,O,_,_,O,O,_,_,O,O,(by show(0:Int)<m+1;omega),?_⟩
  refine⟨_,O,_,O,_,_,O,O,_,_,O,O,⟨by show(0:Int)<m+1;omega,by show m+1<1073741824;omega⟩,?_⟩
  refine⟨_,O,t,_,_,_,O,O,hS,O,_,O,t,_,_,_,O,O,hS,O,_,_,O,O,abn (show p.length+q.length<=5 by omega) (by decide),_,O,t,_,_,_,O,O,hS,O,_,_,O,O,?_,_,_,O,O,?_,?_⟩
  ·rw[bE];exact abn (show p.length+q.length+f.length<=7 by omega) (by decide)
  ·rw[bE,bE]
   have e4:(Str.ofString "\n ab").length=4:=by decide +kernel
   exact abn (show p.length+q.length+f.length+(Str.ofString "\n ab").length<=20 by omega) (by decide)
  have hev:(((p++q)++f)++Str.ofString "\n ab").length<=11/\∀d∈(((p++q)++f)++Str.ofString "\n ab").cps.toList,d=10\/Pn d:=by
   have e4:(Str.ofString "\n ab").length=4:=by decide +kernel
   refine⟨by rw[bE,bE,bE];omega,λd hd=>?_⟩
   rw[uv,uv,uv]at hd
   have e5:∀d∈(Str.ofString "\n ab").cps.toList,d=10\/Pn d:=by decide +kernel
   rcases abp.mp hd with hd|hd
   ·rcases abp.mp hd with hd|hd
    ·rcases abp.mp hd with hd|hd
     ·exact .inr (g.gp.pr d hd)
     ·exact .inr (g.gq.pr d hd)
    ·exact .inr (g.gf.pr d hd)
   ·exact e5 d hd
  generalize ((p++q)++f)++Str.ofString "\n ab"=ev at hev⊢
  obtain⟨ZL,ZN⟩:=hev
  have Mt:ev.length<=sizeLine:=abn ZL (by decide)
  refine⟨by decide,λlt hlt=>⟨by decide,λSo Rx=>?_⟩⟩
  have z1:=au (o:=HO.lst []) hlt
  have z2:=au (o:=HO.lst []) Rx
  have Po:=z1.trans z2
  have nlr:So≠lt:=ab9 (aN aj Rx)
  have w1:(upd (upd H lt (.lst [])) So (.lst [])) lt=some (.lst []):=z2 _ _ aj
  have w2:(upd (upd H lt (.lst [])) So (.lst [])) So=some (.lst []):=aj
  generalize upd (upd H lt (.lst [])) So (.lst [])=H0 at Po w1 w2⊢
  clear z1 z2 Rx
  obtain⟨many,em⟩:∃many:Int,many=nn % (m+1):=⟨_,rfl⟩
  dsimp only[bR]
  rw[←em]
  rw[←em]at a0 a1
  refine⟨_,O,many,O,by omega,by omega,?_⟩
  refine jB (λi σ H2=>aH H H2/\∃(nn:Int)(lr:Addr)(z:Str)(xs:List V)(tb:List (List Str))(r:List Str)(v1 v2:Option V),σ=[some (.ref t),some (.int c),some (.int sa),some (.int m),some (.int nn),some (.int many),some (.str ev),some (.ref lt),some (.ref lr),some (.str z),v1,v2]/\H2 lt=some (.lst xs)/\Paired (bI lt H2) xs tb/\lr≠lt/\H2 lr=some (.lst (r.map V.str))/\tb.length<=i/\(∀q∈tb,nY q)/\r.length<=19/\(∀q∈r,bH q)/\bH z/\cells tb+total tb+r.length+(lens r).sum+z.length<=i) ⟨Po,_,So,_,[],[],[],none,none,rfl,w1,.nil,nlr,w2,abf _,(λ_ z=>nomatch z),by decide,(λ_ z=>nomatch z),yq,by rw[uq];exact abf _⟩ ?_ ?_
  ·rintro i σ H2 hi ⟨s2,nn,lr,z,xs,tb,r,v1,v2,rfl,h2,hp,nl,hr,Pu,HM,hrl,Pw,hz,Ot⟩
   have aa7:i<59:=by omega
   have e0:=ace nn (show(ev.length:Int)+2≠0 by omega)
   have e1:=ab3 nn (show(0:Int)<(ev.length:Int)+2 by omega)
   refine⟨_,O,_,O,ev,O,Mt,_,_,O,O,_,_,O,O,(by show(0:Int)<(ev.length:Int)+2;omega),?_⟩
   refine⟨_,O,_,O,ev,O,Mt,_,_,O,O,_,_,O,O,⟨by show(0:Int)<(ev.length:Int)+2;omega,by show(ev.length:Int)+2<1073741824;omega⟩,_,O,_,O,_,_,_,O,by omega,by omega,λn2=>?_⟩
   obtain⟨way,ew⟩:∃way:Int,way=nn % ((ev.length:Int)+2):=⟨_,rfl⟩
   dsimp only[bR]
   rw[←ew]
   rw[←ew]at e0 e1
   refine pQ (t:=J6 _ _ _) (λσ' H'=>aH H H'/\∃(lr:Addr)(z:Str)(r:List Str),σ'=[some (.ref t),some (.int c),some (.int sa),some (.int m),some (.int n2),some (.int many),some (.str ev),some (.ref lt),some (.ref lr),some (.str z),some (.int (0+(i:Int))),some (.int way)]/\H' lt=some (.lst xs)/\Paired (bI lt H') xs tb/\lr≠lt/\H' lr=some (.lst (r.map V.str))/\r.length<=20/\(∀q∈r,bH q)/\bH z/\cells tb+total tb+r.length+(lens r).sum+z.length<=i+1/\(way>ev.length->1<=r.length)) ?_ (λgo=>?_)
   rotate_left
   ·refine⟨_,O,_,O,ev,O,Mt,_,_,O,O,_,O,bg (λhw=>?_) (λhw=>?_)⟩
    ·have hw:way<ev.length:=abF hw
     have hlen:ev.cps.toList.length=ev.length:=by rw[abt];rfl
     obtain⟨d,ed,hd⟩:=Fx (xs:=ev.cps.toList) e0 (by rw[hlen];exact hw)
     refine⟨_,O,_,O,_,O,ev,_,d,O,O,Mt,ed,_,_,O,O,abn (show z.length+1<=100 by omega) (by decide),?_⟩
     exact go _ _ ⟨s2,lr,_,r,rfl,h2,hp,nl,hr,by omega,Pw,D8 hz (ZN d hd),by rw[bE];show _+(z.length+1)<=i+1;omega,λq=>by omega⟩
    ·refine⟨_,O,_,O,(by show 1<=sizeLine;decide),λu CF=>?_⟩
     have su:=au (o:=HO.lst [.str z]) CF
     refine⟨lr,u,_,_,O,O,su _ _ hr,aj,?_,λw Mj=>?_⟩
     ·rw[abg];exact abn (show r.length+1<=100 by omega) (by decide)
     have sw:=au (o:=HO.lst (r.map V.str++[.str z])) Mj
     have Px:=su.trans sw
     refine go _ _ ⟨s2.trans Px,w,("":Str),r++[z],rfl,Px _ _ h2,aE (λa b h=>bI.mono Px h) hp,ab9 (aN (su _ _ h2) Mj),?_,?_,?_,yq,?_,λ_=>?_⟩
     ·rw[abx];exact aj
     ·rw[abj];show r.length+1<=20;omega
     ·intro q hq
      rcases abp.mp hq with hq|hq
      ·exact Pw q hq
      ·rw[abh.mp hq];exact hz
     ·rw[uu,uq,abj,List.length_singleton];omega
     ·rw[abj];show 1<=r.length+1;omega
   clear h2 hp nl hr hrl Pw hz Ot s2
   rintro σ' H3 ⟨s3,lr,z,r,rfl,h3,Ou,nl,hr,hrl,Pw,hz,Ot,ZO⟩
   have big:1<=r.length->H3 lt=some (.lst xs)/\xs.length<sizeLine/\∀(w:Addr),(upd H3 lt (.lst (xs++[.ref lr]))) w=none->True:=λ_=>⟨h3,abz (show xs.length<=100 by rw[Ou.length];omega) (by decide),λ_ _=>True.intro⟩
   have Sj:xs.length<sizeLine:=abz (show xs.length<=100 by rw[Ou.length];omega) (by decide)
   have yes:∀hr1:1<=r.length,∀w,(upd H3 lt (.lst (xs++[.ref lr]))) w=none->(λ(i:Nat)(σ:St)(H2:Hp)=>aH H H2/\∃(nn:Int)(lr:Addr)(z:Str)(xs:List V)(tb:List (List Str))(r:List Str)(v1 v2:Option V),σ=[some (.ref t),some (.int c),some (.int sa),some (.int m),some (.int nn),some (.int many),some (.str ev),some (.ref lt),some (.ref lr),some (.str z),v1,v2]/\H2 lt=some (.lst xs)/\Paired (bI lt H2) xs tb/\lr≠lt/\H2 lr=some (.lst (r.map V.str))/\tb.length<=i/\(∀q∈tb,nY q)/\r.length<=19/\(∀q∈r,bH q)/\bH z/\cells tb+total tb+r.length+(lens r).sum+z.length<=i) (i+1) [some (.ref t),some (.int c),some (.int sa),some (.int m),some (.int n2),some (.int many),some (.str ev),some (.ref lt),some (.ref w),some (.str z),some (.int (0+(i:Int))),some (.int way)] (upd (upd H3 lt (.lst (xs++[.ref lr]))) w (.lst [])):=λhr1 w hw=>by
    have sw:=au (o:=HO.lst []) hw
    refine⟨(aR hlt s3).trans sw,n2,w,z,xs++[.ref lr],tb++[r],[],_,_,rfl,sw _ _ aj,?_,ab9 (aN aj hw),aj,?_,?_,by decide,(λ_ z=>nomatch z),hz,?_⟩
    ·exact aE (λa b h=>bI.mono sw h) (aE (λa b h=>bI.but h) (cz Ou ⟨lr,rfl,nl,hr⟩))
    ·rw[abj];show tb.length+1<=i+1;omega
    ·intro q hq
     rcases abp.mp hq with hq|hq
     ·exact HM q hq
     ·rw[abh.mp hq];exact⟨hr1,hrl,Pw⟩
    ·rw[qD,yK];show _+_+0+0+z.length<=i+1;omega
   refine⟨_,O,_,O,ev,O,Mt,_,_,O,O,_,O,bg (λhw=>j9 ?_) (λhw=>?_)⟩
   ·have hw:way>ev.length:=abF hw
    refine⟨_,O,.inl ⟨O,_,bw.of h3⟩,_,O,lt,xs,_,O,O,h3,Sj,?_⟩
    exact⟨by decide,λw Mj=>yes (ZO hw) w Mj⟩
   ·refine⟨_,O,lr,_,O,.inl (bw.of hr),O,_,O,bg (λSq=>?_) (λSq=>?_)⟩
    ·have Sq:(((r.map V.str).length:Nat):Int)=20:=V.int.inj (abF Sq)
     rw[abg]at Sq
     refine⟨_,O,.inl ⟨O,_,bw.of h3⟩,_,O,lt,xs,_,O,O,h3,Sj,?_⟩
     exact⟨by decide,λw Mj=>yes (by omega) w Mj⟩
    ·have Sq:r.length≠20:=λe=>Sq (by
      have e2:(((r.map V.str).length:Nat):Int)=20:=by rw[abg,e];rfl
      exact abo (congrArg V.int e2))
     exact⟨s3,n2,lr,z,xs,tb,r,_,_,O,h3,Ou,nl,hr,by omega,HM,by omega,Pw,hz,Ot⟩
  ·rintro σ H2 ⟨s2,nn,lr,z,xs,tb,r,v1,v2,rfl,h2,hp,nl,hr,Pu,HM,hrl,Pw,hz,Ot⟩
   have hpl:=hp.length
   refine⟨_,O,_,O,_,O,(by show 1<=sizeLine;decide),λu CF=>?_⟩
   have su:=au (o:=HO.lst [.str z]) CF
   refine⟨lr,u,_,_,O,O,su _ _ hr,aj,?_,λw Mj=>?_⟩
   ·rw[abg];exact abn (show r.length+1<=100 by omega) (by decide)
   have sw:=au (o:=HO.lst (r.map V.str++[.str z])) Mj
   have Px:=su.trans sw
   have VY:(upd (upd H2 u (.lst [.str z])) w (.lst (r.map V.str++[.str z]))) w=some (.lst ((r++[z]).map V.str)):=by rw[abx];exact aj
   generalize upd (upd H2 u (.lst [.str z])) w (.lst (r.map V.str++[.str z]))=H3 at Px VY⊢
   refine⟨(by show 1<=sizeLine;decide),λy hy5=>?_⟩
   have sy:=au (o:=HO.lst [.ref w]) hy5
   refine⟨lt,y,_,_,O,O,sy _ _ (Px _ _ h2),aj,abn (show xs.length+1<=100 by omega) (by decide),λe he5=>?_⟩
   have se:=au (o:=HO.lst (xs++[.ref w])) he5
   have Ms:=(Px.trans sy).trans se
   have hTB:TabOk (tb++[r++[z]]):=by
    refine⟨?_,?_,?_⟩
    ·rw[abj];show tb.length+1<=60;omega
    ·intro q hq
     rcases abp.mp hq with hq|hq
     ·exact HM q hq
     ·rw[abh.mp hq]
      refine⟨?_,?_,?_⟩
      ·rw[abj];show 1<=r.length+1;omega
      ·rw[abj];show r.length+1<=20;omega
      ·intro q hq
       rcases abp.mp hq with hq|hq
       ·exact Pw q hq
       ·rw[abh.mp hq];exact hz
    ·rw[qD,uu];omega
   refine k e _ (tb++[r++[z]]) _ ((s2.trans (Px.trans sy)).free he5) aj ?_ hTB ?_ (s2.trans Ms)
   ·exact cz (aE (λa b h=>(bI.mono Ms h).row) hp) ⟨w,rfl,(sy.trans se) _ _ VY⟩
   ·rw[Cb hTB.rows,qD,yK,uu,abj,List.length_singleton];omega
def zq(K:W.Frag):Sp:=λvs H Q _=>∃(a:Addr)(xs:List V)(t:List (List Str)),vs=[.ref a]/\H a=some (.lst xs)/\Paired (bC H) xs t/\TabOk t/\∀(l:Addr)(ys:List V) H',H l=none->H' l=some (.lst ys)->Paired (c7 K H') ys (az t)->aH H H'->Q (.ref l) H'
theorem zu:br P w K mg base fO 1 (aC 50) (aL 50) ["_law_table_here"] (zq K):=by
 refine T.qh.ok fJ (λvs H Q E h=>?_) (λcdv A outer s H vs Q E hr h=>?_)
 ·obtain⟨a,xs,t,rfl,_⟩:=h;rfl
 ·have hu:=bf hr
  have gj:=hr.aO
  obtain⟨a,xs,t,rfl,ha,tr,g,k⟩:=h
  have hlx:=tr.length
  refine⟨_,(ah (dg 1 fJ.nd (bM ai))
   (ah (dO abL rfl (cQ K rfl (pv 0)) (fu 2 fJ.nd)
   (ah (dO abL rfl (gJ rfl T.iW (af (jC (aX K rfl) T.bS (af (pv 2) ai)) ai)) (fu 3 fJ.nd)
   (ah (aK (di qW (pv 3) aq) (ak (d7 (gc K rfl abQ abU abV cN (pv 1) (af (aB (af ao (af ao ai))) ai)))) aA)
   (ak (dO abL rfl (lR (rz K (pv 2) (pv 3))) (fu 4 fJ.nd)
   (ak (d7 (gc K rfl abQ abU abV cN (pv 1) (af (aB (af ao (af (pv 4) ai))) ai))))))))
   (ak (d7 (gc K rfl abQ abU abV cN (pv 1) (af (aB (af ao (af ao ai))) ai))))))
   (ak (ay (pv 1))))),?_⟩
  refine⟨by decide,λl hl=>?_⟩
  have s0:=au (o:=HO.lst []) hl
  refine⟨_,O,a,O,⟨_,bw.of (s0 _ _ ha)⟩,?_⟩
  refine jD (K:=K) (a:=a) (xs:=xs) (λi σ H2=>(∃v1 v2 v3,σ=[some (.ref a),some (.ref l),v1,v2,v3])/\aH H H2/\∃ys,H2 l=some (.lst ys)/\Paired (c7 K H2) ys (az (t.take i))) ⟨⟨_,_,_,rfl⟩,s0,[],aj,.nil⟩ (λi σ H2 _ q=>bw.of (q.2.1 _ _ ha)) ?_ ?_
  ·rintro i e σ H2 hi ⟨⟨v1,v2,v3,rfl⟩,s2,ys,hy,hp⟩
   obtain⟨r,hr,b,rfl,hb⟩:=aW tr i e hi
   have JL:=abq hr
   have b1:=nZ g i
   have hs:=abn (pS JL) g.sum
   have hrh:=(g.rows r JL).hi
   have Mi:∀n,n<=r.length->(gm r n).length<=420:=λn hn=>by
    have:=rF r n hn
    have h2:(lens (r.take n)).sum<=(lens r).sum:=by
     unfold lens;rw[List.map_take];exact kh _ _
    omega
   have hbm:=s2 _ _ hb
   refine⟨_,O,b,_,O,.inl (bw.of hbm),_,O,by rw[abg];omega,by rw[abg];omega,?_⟩
   rw[abg]
   refine jB (λj σ H3=>(∃v2 v3,σ=[some (.ref a),some (.ref l),some (.ref b),v2,v3])/\aH H H3/\∃ws,H3 l=some (.lst ws)/\Paired (c7 K H3) ws (az (t.take i)++gm r j)) ⟨⟨_,_,rfl⟩,s2,ys,hy,by show Paired _ _ (_++[]);rw[abI];exact hp⟩ ?_ ?_
   ·rintro j σ H3 hj ⟨⟨v2,v3,rfl⟩,s3,ws,hw,EW⟩
    have hjr:j<r.length:=by omega
    have bj:=Mi j (by omega)
    have hwl:=EW.length
    rw[abj]at hwl
    dsimp only[bR]
    refine pQ (t:=J6 _ _ _) (λσ' H'=>(∃v3,σ'=[some (.ref a),some (.ref l),some (.ref b),some (.int (0+(j:Int))),v3])/\aH H H'/\∃ws,H' l=some (.lst ws)/\Paired (c7 K H') ws (az (t.take i)++(gm r j++(if j=0 then [] else [dY])))) ?_ (λgo=>?_)
    rotate_left
    ·refine⟨_,O,_,_,O,O,_,O,bg (λh=>?_) (λh=>?_)⟩
     ·have h0:(0:Int)<0+j:=abF h
      refine⟨_,O,.inl ⟨O,_,bw.of hw⟩,(by show 2<=sizeLine;decide),λu CF=>?_⟩
      have su:=au (o:=HO.tup [.str ("part":Str),.str ("":Str)]) CF
      have U6:=su _ _ hw
      refine⟨l,ws,_,O,O,U6,abz (show ws.length<=3000 by omega) (by decide),go _ _ ⟨⟨_,O⟩,aR hl (s3.trans su),_,aj,?_⟩⟩
      rw[abb (by omega),←abJ]
      exact aE (λa b h=>c7.but U6 h) (cz (aE (λa b h=>c7.mono su h) EW) ⟨u,rfl,bz.of aj⟩)
     ·have h0:j=0:=by
       have:¬(0:Int)<0+j:=λq=>h (abo q)
       omega
      refine go _ _ ⟨⟨_,rfl⟩,s3,ws,hw,?_⟩
      rw[abe h0,abI]
      exact EW
    clear hw EW s3 hwl
    rintro σ' H4 ⟨⟨v4,rfl⟩,s4,ws,hw,EW⟩
    have hwl:=EW.length
    have Xl:ws.length<=2100:=by
     rw[hwl,abj,abj]
     split
     ·simp;omega
     ·show _+(_+1)<=2100;omega
    obtain⟨z,hz⟩:∃z,r[j]?=some z:=⟨r[j],by simp[hjr]⟩
    have Ui:z.length<=400:=abn (rD (abq hz)) hs
    have hb4:=s4 _ _ hb
    refine⟨_,O,_,O,b,_,_,.str z,O,O,bw.of hb4,?_,z,O,?_⟩
    ·rw[Int.zero_add];exact iK (by rw[abZ,hz];rfl)
    refine ri (λn σ H5=>(∃v4,σ=[some (.ref a),some (.ref l),some (.ref b),some (.int (0+(j:Int))),v4])/\aH H H5/\∃zs,H5 l=some (.lst zs)/\Paired (c7 K H5) zs ((az (t.take i)++(gm r j++(if j=0 then [] else [dY])))++((z.cps.toList.take n).map λc=>(Str.ofString "put",sg c)))) ⟨⟨_,rfl⟩,s4,ws,hw,by rw[List.take_zero];show Paired _ _ (_++[]);rw[abI];exact EW⟩ ?_ ?_
    ·rintro n d σ H5 hn ⟨⟨v5,rfl⟩,s5,zs,h5,Ji⟩
     have hnl:n<z.cps.toList.length:=(abi.mp hn).1
     rw[abt]at hnl
     have hnl:n<z.length:=hnl
     have Gh:=Ji.length
     rw[abj,←hwl,abg,abM]at Gh
     refine⟨_,O,.inl ⟨O,_,bw.of h5⟩,_,O,(by show 2<=sizeLine;decide),λu CF=>?_⟩
     have s6:=au (o:=HO.tup [.str ("put":Str),.str (sg d)]) CF
     have h56:=s6 _ _ h5
     refine⟨l,zs,_,O,O,h56,abz (show zs.length<=3000 by omega) (by decide),⟨_,O⟩,aR hl (s5.trans s6),_,aj,?_⟩
     rw[aQ hn,abx,←abJ]
     exact aE (λa b h=>c7.but h56 h) (cz (aE (λa b h=>c7.mono s6 h) Ji) ⟨u,rfl,bz.of aj⟩)
    ·rintro σ H5 ⟨⟨v5,rfl⟩,s5,zs,h5,Ji⟩
     rw[abr (abf _)]at Ji
     refine⟨⟨_,_,O⟩,s5,zs,h5,?_⟩
     rw[iI hz]
     rw[abJ,abJ]at Ji
     exact Ji
   ·rintro σ H3 ⟨⟨v2,v3,rfl⟩,s3,ws,hw,EW⟩
    have bj:=Mi r.length (abf _)
    have hwl:=EW.length
    have EW:Paired (c7 K H3) ws (az (t.take i)++gm r r.length):=EW
    rw[abj]at hwl
    refine⟨_,O,.inl ⟨O,_,bw.of hw⟩,(by show 2<=sizeLine;decide),λu CF=>?_⟩
    have su:=au (o:=HO.tup [.str ("end":Str),.str ("":Str)]) CF
    have U6:=su _ _ hw
    have hbl:ws.length<=2100:=by
     have:ws.length=(az (t.take i)).length+(gm r r.length).length:=EW.length.trans (abj ..)
     omega
    refine⟨l,ws,_,O,O,U6,abz hbl (by decide),⟨_,_,_,O⟩,aR hl (s3.trans su),_,aj,?_⟩
    rw[aQ hr,iU]
    unfold c9
    rw[←abJ]
    exact aE (λa b h=>c7.but U6 h) (cz (aE (λa b h=>c7.mono su h) EW) ⟨u,rfl,bz.of aj⟩)
  ·rintro σ H2 ⟨⟨v1,v2,v3,rfl⟩,s2,ys,hy,hp⟩
   rw[hlx,abr (abf _)]at hp
   exact⟨_,O,k l ys H2 hl hy hp s2⟩
def C2(K:W.Frag):Sp:=λvs H Q _=>∃(tt s:Addr)(w u:Str)(p q f:Str)(b1 b2 b3 b4:Bool),vs=[.ref tt,.ref s]/\H tt=some (.tup (gb p q f b1 b2 b3 b4))/\bz K H s [.str w,.str u]/\jS q w u/\∀H',aH H H'->Q (.bl (cg f w u)) H'
theorem C3:br P w K mg base fO 1 (aC 51) (aL 51) ["_law_told_here","_law_spot"] (C2 K):=by
 refine T.vF.ok Cg (λvs H Q E h=>?_) (λcdv A outer s H vs Q E hr h=>?_)
 ·obtain⟨tt,s,w,u,p,q,f,b1,b2,b3,b4,rfl,_⟩:=h;rfl
 ·have hu:=bf hr
  have gj:=hr.aO
  obtain⟨tt,s,w,u,p,q,f,b1,b2,b3,b4,rfl,CC,hs,hst,k⟩:=h
  refine⟨_,(ak (ay (J5 (xJ (zG K rfl) (gg K (pv 1) aq) (bM (af ao (af ao ai))) rfl) (J5 (yp aZ (gg K (pv 1) aq) ao) (qy (xJ gS (gg K (pv 1) aq) (gg K (pv 0) aq) rfl)))))),?_⟩
  refine⟨_,O,s,_,_,_,O,O,hs,O,(by show(2:Nat)<=sizeLine;decide),λm hm=>⟨_,_,O,.inl (bw.of aj),O,O,?_⟩⟩
  have s6:=au (o:=HO.lst [.str ("within":Str),.str ("freed":Str)]) hm
  have VZ:=aF s6 hs
  have U7:=s6 _ _ CC
  generalize upd H m (HO.lst [.str ("within":Str),.str ("freed":Str)])=H6 at s6 VZ U7⊢
  have k:=k H6 s6
  rcases hst with ⟨rfl,hw⟩|⟨d,hd,rfl,hw⟩
  ·have Mu:cg f w ("":Str)=true:=by unfold cg;rw[abe (aY _)]
   rw[Mu]at k
   exact⟨_,O,bg (λ_=>k) (λ_=>⟨_,O,s,_,_,_,O,O,VZ,O,O,_,O,j9 k⟩)⟩
  have hin:∀{w:Str},w=Str.ofString "within"\/w=Str.ofString "freed"->cg f w (sg d)=!(gQ d f):=λhw=>by
   unfold cg
   rcases hw with rfl|rfl
   ·rw[abb (mT d),abb (ns (by decide +kernel))];rfl
   ·rw[abb (mT d),abb (ns (by decide +kernel))];rfl
  have hne:decide (V.str (sg d)=V.str ("":Str))=false:=abB λz=>mT d (by rw[V.str.inj z];exact aY _)
  have two:Q (.bl (!(gQ d f))) H6->SD (HW rEq (HW (HZ K) (JY 1) (tC (V.int 1))) (tC (V.str ("":Str)))) (HW (λx y H Q=>∃i j,x=V.str i/\y=V.str j/\Q (V.bl !!(Builtin.Str.occurrences j i 0 j.length 1).isEmpty) H) (HW (HZ K) (JY 1) (tC (V.int 1))) (HW (HZ K) (JY 0) (tC (V.int 2)))) [some (V.ref tt),some (V.ref s)] H6 Q:=λk=>by
   refine⟨_,O,s,_,_,_,O,O,VZ,O,O,_,O,?_⟩
   rw[hne]
   exact⟨_,O,s,_,_,_,O,O,VZ,O,_,O,tt,_,_,_,O,O,bz.of U7,O,_,_,O,O,k⟩
  rcases hw with rfl|rfl|rfl
  ·rw[hin (.inl rfl)]at k
   have e:S6 (V.str ("within":Str)) [V.str ("within":Str),V.str ("freed":Str)]=true:=by decide +kernel
   rw[e]
   exact⟨_,O,two k⟩
  ·have e:S6 (V.str ("doubt":Str)) [V.str ("within":Str),V.str ("freed":Str)]=false:=by decide +kernel
   have Mu:cg f ("doubt":Str) (sg d)=true:=by unfold cg;rw[abb (mT d),abe (aY _)]
   rw[Mu]at k
   rw[e]
   exact⟨_,O,k⟩
  ·rw[hin (.inr rfl)]at k
   have e:S6 (V.str ("freed":Str)) [V.str ("within":Str),V.str ("freed":Str)]=true:=by decide +kernel
   rw[e]
   exact⟨_,O,two k⟩
def Ak(K:W.Frag):Sp:=λvs H Q _=>∃(tt a:Addr)(x:FL)(xs:List V)(t:List (List Str)),vs=[.ref tt,.ref a]/\H tt=some (.tup (QJ x))/\GdC x/\H a=some (.lst xs)/\Paired (bC H) xs t/\TabOk t/\∀(F:Str) H',F=jl ((((x.1++x.2.1)++x.2.2.1)++Str.ofString "\n ")++eG (t.map eG))->bH F->1<=F.length->F.length<=1000->aH H H'->Q (.str F) H'
theorem Al:br P w K mg base fO 1 (aC 52) (aL 52) ["_law_told_here","_law_table_here"] (Ak K):=by
 refine T.sI.ok iN (λvs H Q E h=>?_) (λcdv A outer s H vs Q E hr h=>?_)
 ·obtain⟨tt,a,x,xs,t,rfl,_⟩:=h;rfl
 ·have hu:=bf hr
  have gj:=hr.aO
  obtain⟨tt,a,x,xs,t,rfl,CC,g,ha,pr,tok,k⟩:=h
  have pl:=pr.length
  have hn:=tok.n
  have hsum:=tok.sum
  have hp3:=g.p3;have hq2:=g.q2;have hf2:=g.f2
  have hS:bz K H tt (QJ x):=bz.of CC
  have e7:((x.1++x.2.1)++x.2.2.1).length<=7:=by rw[bE,bE];omega
  have co:bH ((x.1++x.2.1)++x.2.2.1):=nX (nX (λc h=>.inr (g.gp.pr c h)) (λc h=>.inr (g.gq.pr c h))) (λc h=>.inr (g.gf.pr c h))
  have Uk:100000<=sizeLine:=by decide
  have nl2:(Str.ofString "\n ").length=2:=by decide +kernel
  have nlo:bH (Str.ofString "\n "):=by show ∀c∈_,_;decide +kernel
  have j4:=bE ((x.1++x.2.1)++x.2.2.1) (Str.ofString "\n ")
  refine⟨_,(ah (dg 2 iN.nd ao)
   (ah (dO abL rfl (lR (aJ bF (aJ bF (aJ bF (aJ bF (gg K (pv 0) aq) (gg K (pv 0) aq)) (gg K (pv 0) aq)) ao) (gc K rfl PySem.F.plainAttrs_str PySem.F.slot_str_join PySem.F.type_str_join (DL K rfl) ao (af (fS rfl (show bD ["_law_told_here","_law_table_here","_law_found","_law_sign"] (av jv) ["_law_row"] 1 [] _ from Hl) (cQ K rfl (pv 1)) (λ_ _ _ _=>(fu 0 IA)) (λ_ _ _ _=>eg) (λ_ _ _ _=>(gc K rfl PySem.F.plainAttrs_str PySem.F.slot_str_join PySem.F.type_str_join (DL K rfl) ao (af (pv 0) ai)))) ai)))) (fu 3 iN.nd)
   (ak (aK (cI gS (pv 3) (pv 2) rfl) (ak (dg 2 iN.nd (aJ bF (pv 2) (pv 3)))) aA)))
   (ak (ay (pv 2))))),?_⟩
  refine⟨_,O,tt,_,_,_,O,O,hS,O,_,O,tt,_,_,_,O,O,hS,O,_,_,O,O,abn (show x.1.length+x.2.1.length<=5 by omega) (by decide),_,O,tt,_,_,_,O,O,hS,O,_,_,O,O,by rw[bE];exact abn (show x.1.length+x.2.1.length+x.2.2.1.length<=7 by omega) (by decide),_,_,O,O,by omega,?_⟩
  have A1:bH (((x.1++x.2.1)++x.2.2.1)++Str.ofString "\n "):=nX co nlo
  have A2:(((x.1++x.2.1)++x.2.2.1)++Str.ofString "\n ").length<=142/\2<=(((x.1++x.2.1)++x.2.2.1)++Str.ofString "\n ").length:=by omega
  obtain⟨zA,hzA⟩:∃zA,zA=((x.1++x.2.1)++x.2.2.1)++Str.ofString "\n ":=⟨_,rfl⟩
  rw[←hzA]at A1 A2⊢
  refine⟨O,_,O,a,O,⟨_,bw.of ha⟩,λE hE=>?_⟩
  refine gM (K:=K) (a:=a) (xs:=xs) (λi ws τ G=>(∃v,τ=[v])/\aH H G/\G E=some (.lst ws)/\ws=((t.take i).map eG).map V.str) ⟨⟨_,rfl⟩,au hE,aj,rfl⟩ (λi ws τ G _ p=>⟨bw.of (p.2.1 _ _ ha),p.2.2.1⟩) ?_ ?_
  ·rintro i e ws τ G hi ⟨⟨v,rfl⟩,sG,hG,rfl⟩
   have hil:=(abi.mp hi).1
   obtain⟨r,hr',b,rfl,hb⟩:=aW pr i e hi
   have hrs:=pS (abq hr')
   have hrl:=(tok.rows r (abq hr')).hi
   have hes:=rM r
   have hcs:=Eo r
   refine qB ?_
   refine⟨O,_,O,_,b,r,O,O,bw.of (sG _ _ hb),by rw[uq];omega,hG,?_,⟨_,O⟩,aR hE sG,aj,?_⟩
   ·rw[abg,abg,abM]
    exact abz (show _<=100 by omega) (by decide)
   ·rw[Hw,aQ hr',abx,abx];rfl
  rintro ws τ G ⟨⟨v,rfl⟩,sG,hG,rfl⟩
  rw[pl,abr (abf _)]at hG
  have k1:=Bj t
  have k2:=rM (t.map eG)
  have k3:bH (eG (t.map eG)):=Cd λc hc=>by
   obtain⟨r,hr,rfl⟩:=abR.mp hc
   exact Cd (tok.rows r hr).ok
  refine⟨_,E,t.map eG,O,O,bw.of hG,by rw[uq,abg];omega,?_⟩
  rw[Hw]
  have j6:=bE zA (eG (t.map eG))
  refine⟨_,_,O,O,by omega,?_⟩
  have B1:bH (zA++eG (t.map eG)):=nX A1 k3
  have B2:2<=(zA++eG (t.map eG)).length/\(zA++eG (t.map eG)).length<=600:=by omega
  obtain⟨z,ez⟩:∃z,z=zA++eG (t.map eG):=⟨_,rfl⟩
  rw[←hzA,←ez]at k
  rw[←ez]at B1 B2⊢
  refine⟨_,O,?_⟩
  have Gh:z.cps.toList.length=z.length:=by rw[abt];rfl
  refine ri (λi σ J2=>J2=G/\∃(F:Str)(v:Option V),σ=[some (.ref tt),some (.ref a),some (.str F),v]/\F=⟨(jk (z.cps.toList.take i)).toArray⟩/\bH F/\F.length<=i/\(1<=i->1<=F.length)) ⟨rfl,_,none,rfl,(by rw[List.take_zero];decide +kernel),(by show ∀c∈_,_;decide +kernel),by decide,λq=>absurd q (by decide)⟩ ?_ ?_
  ·rintro i c σ J2 hi ⟨rfl,F,v,rfl,eF,oF,hF,h1⟩
   have hil:=(abi.mp hi).1
   have e1:(F++(⟨#[c]⟩:Str)).length=F.length+1:=bE _ _
   refine⟨_,O,_,O,_,_,O,O,_,O,bg (λhA=>?_) (λhA=>?_)⟩
   ·refine⟨_,O,_,O,_,_,O,O,?_,O,_,_,O,?_,?_,?_,λ_=>?_⟩
    ·exact abn (show F.length+1<=1000 by omega) (by decide)
    ·rw[aQ hi,mj]
     unfold kq
     rw[abe (by rw[←eF];exact hA),←G6,←eF]
     rfl
    ·exact nX oF (λd hd=>by rw[abh.mp (show d∈[c]from hd)];exact B1 c (abq hi))
    ·show(F++(⟨#[c]⟩:Str)).length<=_;rw[e1];omega
    ·show 1<=(F++(⟨#[c]⟩:Str)).length;rw[e1];omega
   ·refine⟨O,F,_,O,?_,oF,by omega,λ_=>?_⟩
    ·rw[aQ hi,mj]
     unfold kq
     rw[abb (by rw[←eF];exact hA)]
     exact eF
    by_cases h0:1<=F.length
    ·exact h0
    ·exfalso
     refine hA ((lE F c).mpr λhm=>?_)
     have:0<F.cps.toList.length:=List.length_pos_of_mem hm
     rw[abt]at this
     exact h0 this
  ·rintro σ J2 ⟨rfl,F,v,rfl,eF,oF,hF,h1⟩
   rw[abr (abf _)]at eF
   exact⟨_,O,k F _ eF oF (h1 (by omega)) (by omega) sG⟩
def Am(K:W.Frag):Sp:=λvs H Q _=>∃(tt l:Addr)(ys:List V)(ts:List (Str×Str))(mk:aV)(v:V)(c:Nat)(p q f:Str)(b1 b2 b3 b4:Bool),vs=[.ref tt,v,.str (sg c),.ref l]/\H tt=some (.tup (gb p q f b1 b2 b3 b4))/\H l=some (.lst ys)/\Paired (c7 K H) ys ts/\bV K H mk v/\jS q mk.1.1 mk.1.2/\mk.2<=ts.length/\∀v' H',aH H H'->mq K (gu p q f b1 b2 b3 b4 ts mk c) H' v'->Q v' H'
theorem An:br P w K mg base fO 3 (aC 53) (aL 53) ["_law_told_here","_law_place","_law_sign","_law_tokens_here"] (Am K):=by
 have EN:=@C3 P w K mg base aC aL cV T
 have pA:=@sY P w K mg base aC aL cV T
 refine T.sL.ok gw (λvs H Q E h=>?_) (λcdv A outer s H vs Q E hr h=>?_)
 ·obtain⟨tt,l,ys,ts,mk,v,c,p,q,f,b1,b2,b3,b4,rfl,_⟩:=h;rfl
 ·have hu:=bf hr
  have gj:=hr.aO
  obtain⟨tt,l,ys,ts,mk,v,c,p,q,f,b1,b2,b3,b4,rfl,CC,hl,tp,hv,hst,hmn,k⟩:=h
  have ig:=hr.units
  obtain⟨b,s,rfl,hb,hs⟩:=hv
  have tl:=tp.length
  unfold gu gn at k
  refine⟨_,(ah (iY (pv 1) (fV K rfl 2 rfl (aP (fu 4 gw.nd) (aP (fu 5 gw.nd) fQ))))
   (ah (iY (fP pA hr T.vA T.oS.kp T.vz (af (pv 0) (af (pv 4) (af (pv 2) ai)))) (fV K rfl 2 rfl (aP (fu 6 gw.nd) (aP (fu 7 gw.nd) fQ))))
   (ah (aK (PW.pt (gk (di aZ (pv 6) ao) (eZ (cG (bJ (fP EN hr T.ED T.vF.kp T.EC (af (pv 0) (af (pv 7) ai)))))))) (ak (ay cO)) aA)
   (ah (aK (di aZ (pv 6) ao) (ak (ay (aB (af (pv 7) (af (pv 5) ai))))) aA)
   (ah (aK (PW.pt (gk (di aZ (pv 5) (jC (aX K rfl) T.bS (af (pv 3) ai))) (eZ (di (Qy (YL _ _ K) rfl (hn0 ig)) (rz K (pv 3) (pv 5)) (aB (af (pv 6) (af (rz K (bM (af ao (af (pv 2) ai))) (Sa lz T.zc (af (yp aZ (pv 6) ao) ai))) ai))))))) (ak (ay cO)) aA)
   (ak (ay (aB (af (pv 7) (af (aJ cX (pv 5) aq) ai)))))))))),?_⟩
  refine⟨_,O,b,_,O,hb,O,_,_,O,_,_,O,O,?_⟩
  dsimp only[bR]
  refine⟨_,O,_,O,_,O,tt,s,mk.1.1,mk.1.2,c,p,q,f,b1,b2,b3,b4,O,bz.of CC,hs,λv5 H5 s5 r=>?_⟩
  have hb5:=aF s5 hb
  have ZQ:=s5 _ _ CC
  have VW:=s5 _ _ hl
  have X7:=bW s5 tp
  cases Gq:bA p q f b1 b2 b3 b4 mk.1.1 mk.1.2 c with
  |kL e =>
   rw[Gq]at r k
   obtain⟨a,rfl,ha⟩:=r
   have k:∀v' H',aH H H'->mq K none H' v'->Q v' H':=k
   refine⟨a,_,O,ha,O,_,_,O,_,_,O,O,?_⟩
   exact⟨_,O,O,_,O,ko (aY _) (j9 (k _ _ s5 rfl))⟩
  |go kd w3 u3 =>
   rw[Gq]at r k
   obtain⟨hk,a,b2,rfl,ha,hb2⟩:=r
   have ZR:=pR hst Gq
   have k:∀v' H',aH H H'->mq K (match (if cg f w3 u3=true then some (kd,w3,u3) else none) with|none=>none|some (k,w,u)=>(match lF ts mk.2 k (sg c) with|none=>none|some n=>some ((w,u),n))) H' v'->Q v' H':=k
   refine⟨a,_,O,ha,O,_,_,O,_,_,O,O,?_⟩
   dsimp only[bR]
   refine⟨_,O,O,_,O,jj hk ⟨_,O,_,O,tt,b2,w3,u3,p,q,f,b1,_,b3,b4,O,ZQ,hb2,ZR,λH6 s6=>⟨_,O,VI (λ(Mu:(!cg f w3 u3)=true)=>?_) (λ(Mu:(!cg f w3 u3)=false)=>?_)⟩⟩⟩
   ·have Mu:cg f w3 u3=false:=by simpa using Mu
    rw[Mu]at k
    exact k _ _ (s5.trans s6) rfl
   have Mu:cg f w3 u3=true:=by simpa using Mu
   rw[abe Mu]at k
   have k:∀v' H',aH H H'->mq K (match lF ts mk.2 kd (sg c) with|none=>none|some n=>some ((w3,u3),n)) H' v'->Q v' H':=k
   unfold lF at k
   have Sf:=s5.trans s6
   have U8:=aF s6 hb2
   have Rv:=s6 _ _ VW
   have tp6:=bW s6 X7
   refine⟨_,O,O,_,O,bg (λ(h1:aU kd ("skip":Str)=true)=>?_) (λ(h1:¬aU kd ("skip":Str)=true)=>?_)⟩
   ·rw[abe h1]at k
    refine⟨_,O,_,O,(by show 2<=sizeLine;decide),λt ht=>?_⟩
    exact k _ _ (Sf.trans (au ht)) ⟨t,b2,rfl,bz.of aj,aF (au ht) U8⟩
   rw[abb h1]at k
   refine⟨_,O,_,O,l,_,O,.inl (bw.of Rv),O,_,O,WS (λh2=>?_) (λh2=>?_)⟩
   ·rw[acg (by omega),abb (λq=>nomatch q)]at k
    exact j9 (k _ _ Sf rfl)
   have hlt:mk.2<ys.length:=by omega
   obtain⟨y,hy⟩:∃y,ys[mk.2]?=some y:=⟨_,aby hlt⟩
   have Ov:Dv ys (mk.2:Int)=some y:=iK hy
   have hat:Dv [V.str ("":Str),V.str (sg c)] (if aU kd ("put":Str)=true then 1 else 0)=some (.str (if aU kd ("put":Str)=true then sg c else Str.ofString "")):=by
    by_cases hp:aU kd ("put":Str)=true
    ·rw[abe hp,abe hp];rfl
    ·rw[abb hp,abb hp];rfl
   refine⟨_,O,_,O,l,_,_,y,O,O,bw.of Rv,Ov,_,O,⟨_,O,(by show(2:Nat)<=sizeLine;decide),λl2 hl2=>⟨_,O,O,.inr ⟨_,O,_,_,_,_,O,O,bw.of aj,hat,(by show(2:Nat)<=sizeLine;decide),λt1 ht1=>?_⟩⟩⟩⟩
   have e1:=au (o:=HO.lst [.str ("":Str),.str (sg c)]) hl2
   have e2:=au (o:=HO.tup [.str kd,.str (if aU kd ("put":Str)=true then sg c else Str.ofString "")]) ht1
   have q1:=aj (H:=upd H6 l2 (HO.lst [.str ("":Str),.str (sg c)])) (a:=t1) (o:=HO.tup [.str kd,.str (if aU kd ("put":Str)=true then sg c else Str.ofString "")])
   have Sn:=e1.trans e2
   generalize upd (upd H6 l2 (HO.lst [.str ("":Str),.str (sg c)])) t1 (HO.tup [.str kd,.str (if aU kd ("put":Str)=true then sg c else Str.ofString "")])=H7 at q1 Sn⊢
   clear e1 e2
   have tp7:=bW Sn tp6
   have s07:=Sf.trans Sn
   have ZS:=aF Sn U8
   obtain⟨⟨k1,s2⟩,U9,a',rfl,ha'⟩:=aW tp7 mk.2 y hy
   refine⟨a',t1,_,_,rfl,rfl,gT (P:=P) (w:=w) ha',gT (P:=P) (w:=w) (bz.of q1),_,rfl,WR (λh4=>?_) (λh4=>?_)⟩
   ·have h4:¬(k1,s2)=(kd,if aU kd ("put":Str)=true then sg c else Str.ofString ""):=λq=>h4 (dP.mpr q)
    rw[U9,abb (λq=>h4 (abH q))]at k
    exact k _ _ s07 rfl
   ·have h4:=dP.mp h4
    rw[U9,abe (by rw[h4])]at k
    refine⟨_,O,_,O,_,_,O,O,(by show 2<=sizeLine;decide),λt3 Ru=>?_⟩
    exact k _ _ (s07.trans (au Ru)) ⟨t3,b2,rfl,bz.of aj,aF (au Ru) ZS⟩
def zv(P:Program)(w:World)(K:W.Frag):Sp:=λvs H Q _=>∃(tt a0:Addr)(x:FL)(xs:List V)(t:List (List Str)),vs=[.ref tt,.ref a0]/\H tt=some (.tup (QJ x))/\GdC x/\H a0=some (.lst xs)/\Paired (bC H) xs t/\TabOk t/\∀t2 v (n:Nat) H',Xf x t v n->H' t2=some (.tup [v,.int n])->aH H H'->Q (.ref t2) H'
theorem zw:br P w K mg base fO 4 (aC 54) (aL 54) ["_law_told_here","_law_table_here"] (zv P w K):=by
 have C4:=@An P w K mg base aC aL cV T
 have C5:=@Al P w K mg base aC aL cV T
 have Ao:=@zu P w K mg base aC aL cV T
 refine T.qi.ok bu (λvs H Q E h=>?_) (λcdv A outer s H vs Q E hr h=>?_)
 ·obtain⟨tt,a0,x,xs,t,rfl,_⟩:=h;rfl
 ·have hu:=bf hr
  have gj:=hr.aO
  obtain⟨tt,a0,x,xs,t,rfl,CC,g,ha0,pr,tok,k⟩:=h
  have ig:=hr.units
  refine⟨_,(ah (dg 2 bu.nd (fP Ao hr T.zU T.qh.kp T.zS (af (pv 1) ai)))
   (ah (dg 3 bu.nd (fP C5 hr T.Cr T.sI.kp T.Cq (af (pv 0) (af (pv 1) ai))))
   (ah (dg 4 bu.nd (aB (af (aB (af ao (af ao ai))) (af aq ai))))
   (ah (dg 5 bu.nd (AX (YM P w K) (aM P w) rfl rfl rfl (hn1 ig) (pv 4) gR))
   (ah (dg 6 bu.nd (bM (af (pv 4) ai)))
   (ah (dg 7 bu.nd aq)
   (ah (xW abL (di (G7 K rfl gj) (pv 6) (bM ai))
   (ah (aK (cI (Qz (AW (YM _ _ K)) rfl (Xg ig)) (aB (af (aB (af ao (af ao ai))) (af (jC (aX K rfl) T.bS (af (pv 2) ai)) ai))) (pv 6) rfl) (ak (ay (aB (af (pv 7) (af (jC (aX K rfl) T.bS (af (pv 2) ai)) ai))))) aA)
   (ah (dg 8 bu.nd (bM ai))
   (ah (dO abL rfl (cQ K rfl (pv 6)) (fu 9 bu.nd)
   (ak (dO abL rfl (lR (pv 3)) (fu 10 bu.nd)
   (ah (dg 11 bu.nd (fP C4 hr T.Ct T.sL.kp T.Cs (af (pv 0) (af (pv 9) (af (pv 10) (af (pv 2) ai))))))
   (ak (aK (PW.pt (dM (di xH (pv 11) cO) (cU (J4 (yj (YM P w K) (aM P w) rfl rfl rfl (hn2 ig) (pv 11) (pv 5)))))) (ah (DU (YM P w K) (aM P w) rfl rfl rfl (hn2 ig) (pv 5) (pv 11) gR rfl)
   (ak (d7 (gc K rfl abQ abU abV cN (pv 8) (af (pv 11) ai))))) aA))))))
   (ah (dg 6 bu.nd (pv 8))
   (ak (dg 7 bu.nd (aJ cX (pv 7) aq))))))))
   (ak (ay (aB (af cO (af (jC (A0 K rfl rfl) T.Mb (af (fS rfl (show bD ["_law_told_here","_law_table_here","_law_tokens_here","_law_signs_here","_law_begin","_law_seen","_law_front","_law_many","_law_behind","_law_place","_law_sign","_law_there"] (av iM) ["_law_place"] 1 [] _ from Hl) (DY (YM P w K) (aM P w) rfl rfl rfl (pv 5)) (λ_ _ _ _=>(fu 0 IA)) (λ_ _ _ _=>eg) (λ_ _ _ _=>(gg K (pv 0) aq))) ai)) ai)))))))))))),?_⟩
  refine bU λRk hk=>?_
  refine⟨_,O,a0,xs,t,O,ha0,pr,tok,λl1 ys H1 aa8 hl1 tp s1=>?_⟩
  dsimp only[bR]
  refine hk _ _ _ (bU λRk hk=>?_)
  refine⟨_,O,_,O,tt,a0,x,xs,t,O,s1 _ _ CC,g,s1 _ _ ha0,aE (λa b h=>bC.mono s1 h) pr,tok,λz H2 ez oz hz1 hz2 s2=>?_⟩
  dsimp only[bR]
  have s12:=s1.trans s2
  have tl:=tp.length
  have ez:z=zL x t:=ez
  refine hk _ _ _ (bU λRk hk=>?_)
  refine⟨(by show 2<=sizeLine;decide),λsb Yn=>⟨(by show 2<=sizeLine;decide),λb hb0=>?_⟩⟩
  have Va:=au (o:=HO.tup [.str ("row":Str),.str ("":Str)]) Yn
  have ZT:=aj (H:=H2) (a:=sb) (o:=HO.tup [.str ("row":Str),.str ("":Str)])
  generalize upd H2 sb (HO.tup [.str ("row":Str),.str ("":Str)])=H3a at Va ZT hb0⊢
  have Ss:=au (o:=HO.tup [.ref sb,.int 0]) hb0
  have ZU:=aj (H:=H3a) (a:=b) (o:=HO.tup [.ref sb,.int 0])
  generalize upd H3a b (HO.tup [.ref sb,.int 0])=H3 at Ss ZU⊢
  dsimp only[bR]
  have s3:=s12.trans (Va.trans Ss)
  have Jp:bV K H3 m0 (.ref b):=⟨b,sb,rfl,bz.of ZU,bz.of (Ss _ _ ZT)⟩
  have ZV:=s3 _ _ CC
  have Ry:=(s2.trans (Va.trans Ss)) _ _ hl1
  have tp3:=bW (s2.trans (Va.trans Ss)) tp
  clear s1 s2 s12 Va Ss ZT ZU hl1 tp
  refine hk _ _ _ (bU λRk hk=>?_)
  refine λa ha=>?_
  have sA:=au (o:=dN (ZM P w) (aM P w) a []) ha
  refine⟨_,O,bq m0,b,O,aj,xS (Jp.mono sA),?_⟩
  have c1:om P w K (upd (upd H3 a (dN (ZM P w) (aM P w) a [])) a (dN (ZM P w) (aM P w) a [(bq m0,b,.bl true)])) a [(m0,none)]:=om.one aj (Jp.mono sA)
  have s5:aH H3 (upd (upd H3 a (dN (ZM P w) (aM P w) a [])) a (dN (ZM P w) (aM P w) a [(bq m0,b,.bl true)])):=aR ha sA
  generalize upd (upd H3 a (dN (ZM P w) (aM P w) a [])) a (dN (ZM P w) (aM P w) a [(bq m0,b,.bl true)])=H5 at c1 s5⊢
  dsimp only[bR]
  refine hk _ _ _ (bU λRk hk=>?_)
  refine⟨_,O,(by show 1<=sizeLine;decide),λl0 JM=>?_⟩
  have s6:=au (o:=HO.lst [.ref b]) JM
  have q6:=aj (H:=H5) (a:=l0) (o:=HO.lst [.ref b])
  generalize upd H5 l0 (.lst [.ref b])=H6 at s6 q6⊢
  have c6:=c1.mono s6
  have s36:=s5.trans s6
  clear c1 s5 sA
  dsimp only[bR]
  refine hk _ _ _ (bU λRk hk=>?_)
  refine hk _ _ _ (bU λRk hk=>?_)
  have uo:=uok (b1:=x.2.2.2.a) (b2:=x.2.2.2.b) (b3:=x.2.2.2.c) (b4:=x.2.2.2.d) g (dQ (t:=t)) (Ca tok)
  have hUl:=uo.len
  have Hz:=uo.one
  have UM:=uo.good
  have ZW:∀m∈uL x.2.1 (az t),m.2<(az t).length->∀c m',gu x.1 x.2.1 x.2.2.1 x.2.2.2.a x.2.2.2.b x.2.2.2.c x.2.2.2.d (az t) m c=some m'->m'∈uL x.2.1 (az t):=λm h1 h2 c m' h3=>LP dQ h1 h2 h3
  have ZX:∀m∈uL x.2.1 (az t),jS x.2.1 m.1.1 m.1.2/\m.2<=(az t).length:=λm h1=>Uc h1
  have Vb:∀{cm aS k0 m},EV (vh (az t)) (dD x (az t) z.cps.toList) m0 cm aS k0->m∈aS->vh (az t) m=true->Xf x t (.int k0) ys.length:=λL hm hg=>.inl ⟨_,rfl,by
   rw[ez]at L
   exact N1 Hz hg (L.VQ _ hm).1 λys m' hw hg=>by
    cases Nat.lt_or_ge ys.length _ with
    |inl z=>rw[L.less ys m' hw z]at hg;cases hg
    |inr z=>exact z⟩
  have fin2:∀{cm k0 n},EV (vh (az t)) (dD x (az t) z.cps.toList) m0 cm [] k0->n∈cm.map (λe=>e.1.2)->(∀k∈cm.map (λe=>e.1.2),k<=n)->Xf x t .non n:=λL h1 h2=>.inr ⟨rfl,by
   rw[ez]at L
   have out:=EV.run .stop L
   exact QM Hz out.1 out.2 h1 h2⟩
  clear uo ez
  generalize uL x.2.1 (az t)=U at hUl Hz UM ZW ZX
  generalize az t=ts at tp3 tl UM ZW ZX Vb fin2
  refine⟨λnn σ J=>∃(l:Addr)(vs:List V)(aS:List aV)(cm:Cm)(k0:Nat)(v8 v9 v10 v11:Option V),σ=[some (.ref tt),some (.ref a0),some (.ref l1),some (.str z),some (.ref b),some (.ref a),some (.ref l),some (.int k0),v8,v9,v10,v11]/\aH H3 J/\J l=some (.lst vs)/\mw K J vs aS/\om P w K J a cm/\JK U cm/\aS.length<=cm.length/\(∀m∈aS,m∈U)/\EV (vh ts) (dD x ts z.cps.toList) m0 cm aS k0/\nn=2*(U.length-cm.length)+(if aS=[] then 0 else 1),⟨_,l0,_,[m0],_,0,_,_,_,_,O,s36,q6,.cons (Jp.mono s36) .nil,c6,⟨by simp,λm hm=>?_⟩,abf _,λm hm=>?_,EV.zero,O⟩,?_⟩
  ·rw[abh.mp hm];exact Hz
  ·rw[abh.mp hm];exact Hz
  rintro nn σ J ⟨l,vs,aS,cm,k0,v8,v9,v10,v11,rfl,sJ,hl,em,ca,iu,hec,eU,lv,hn⟩
  refine⟨_,O,(by decide),λe he=>⟨_,_,_,O,O,bw.of (au he _ _ hl),bw.of aj,_,O,?_⟩⟩
  have se:=au (o:=HO.lst []) he
  replace sJ:=sJ.trans se
  replace hl:=se _ _ hl
  replace em:=em.keep λb xs q=>aF se q
  replace ca:=ca.mono se
  generalize upd J e (.lst [])=J1 at sJ hl em ca⊢
  clear se he
  cases em with
  |nil =>
   refine cJ (hk _ _ _ ?_)
   obtain⟨kvs,nd,cr⟩:=ca.ok
   refine⟨_,O,a,kvs,O,nd,λo D hD=>?_⟩
   have tq:=kP (F:=K) nd.ob (o:=dX (ZM P w) (aM P w) a kvs o)
   have Rt:=oj.keep tq cr
   have s5:aH H3 (upd J1 a (dX (ZM P w) (aM P w) a kvs o)):=aR ha sJ
   have UT:(upd J1 a (dX (ZM P w) (aM P w) a kvs o)) a=some (dX (ZM P w) (aM P w) a kvs o):=aj
   generalize upd J1 a (dX (ZM P w) (aM P w) a kvs o)=H5 at hD Rt s5 UT⊢
   have kl:=ab8 Rt
   have il:=iu.len
   refine AZ (λi ys τ G=>(∃v,τ=[v])/\aH H5 G/\G D=some (.lst ys)/\ys=((cm.take i).map (λe=>e.1.2)).map λn:Nat=>V.int n) ⟨⟨_,rfl⟩,au hD,aj,rfl⟩ (λi ys τ G _ p=>⟨p.2.1 _ _ UT,p.2.2.1⟩) ?_ ?_
   ·rintro i e ys τ G hi ⟨⟨v,rfl⟩,sG,hG,rfl⟩
    have hil:=(abi.mp hi).1
    obtain⟨pm,Ym,e1,⟨b,sb,eb,hb,Yn⟩⟩:=aW Rt i e hi
    refine qB ?_
    refine⟨_,O,b,_,_,_,eb,O,aF sG hb,O,hG,?_,⟨_,O⟩,aR hD sG,aj,?_⟩
    ·rw[abg,abg,abM]
     exact abz (show _<=100000 by omega) (by decide)
    ·rw[aQ Ym,abx,abx];rfl
   ·rintro ys τ G ⟨⟨v,rfl⟩,sG,hG,rfl⟩
    rw[kl,abr (abf _)]at hG
    refine⟨D,cm.map (λe=>e.1.2),O,bw.of hG,?_,λn hn1 hn2=>?_⟩
    ·have:=jU.mp (lv.all [] m0 .nil (abO _))
     intro q
     rw[List.map_eq_nil_iff]at q
     rw[q]at this;cases this
    ·refine⟨(by show 2<=sizeLine;decide),λt2 Jk=>?_⟩
     exact k t2 _ n _ (fin2 lv hn1 hn2) aj (s3.trans (s5.trans (sG.trans (au Jk))))
  |@cons v1 e1 vs aS h1 em =>
  have em:mw K J1 (v1::vs) (e1::aS):=.cons h1 em
  have hne:e1::aS≠[]:=λq=>nomatch q
  refine j9 ?_
  generalize e1::aS=aS at em hne hn eU lv hec
  generalize v1::vs=vs at em hl
  rw[abb hne]at hn
  refine⟨λσ G=>∃(l:Addr)(vs:List V)(TV:Nat)(v8 v9 v10 v11:Option V),σ=[some (.ref tt),some (.ref a0),some (.ref l1),some (.str z),some (.ref b),some (.ref a),some (.ref l),some (.int TV),v8,v9,v10,v11]/\TV=k0+1/\aS.find? (vh ts)=none/\aH H3 G/\G l=some (.lst vs)/\mw K G vs (expand (dD x ts z.cps.toList) cm aS).2/\om P w K G a (expand (dD x ts z.cps.toList) cm aS).1/\JK U (expand (dD x ts z.cps.toList) cm aS).1/\∀m∈(expand (dD x ts z.cps.toList) cm aS).2,m∈U,?_,?_⟩
  ·rintro σ G ⟨l,vs,TV,v8,v9,v10,v11,rfl,ek,hf,sG,hl,em,ca,EI,Ye⟩
   have e1:=lG (led:=dD x ts z.cps.toList) aS (cm,[])
   simp only[acn,Nat.add_zero]at e1
   have e2:=EI.len
   have e3:=iu.len
   refine⟨_,?_,l,vs,_,_,TV,v8,v9,v10,v11,O,sG,hl,em,ca,EI,(by unfold expand;omega),Ye,(by rw[ek];exact lv.go hf),O⟩
   unfold expand at e2⊢
   rw[hn]
   by_cases q:(aS.foldl (gv (dD x ts z.cps.toList)) (cm,[])).2=[]
   ·rw[abe q];rw[q,acn]at e1;omega
   ·rw[abb q]
    have:=List.length_pos_iff.mpr q
    omega
  refine bU λR2 Vc=>?_
  refine⟨(by show 2<=sizeLine;decide),λSu Rz=>⟨_,O,l1,ys,O,.inl (bw.of ((sJ.trans (au Rz)) _ _ Ry)),(by show 2<=sizeLine;decide),λb2 hb2=>?_⟩⟩
  have sa:=au (o:=HO.tup [.str ("row":Str),.str ("":Str)]) Rz
  have qa:=aj (H:=J1) (a:=Su) (o:=HO.tup [.str ("row":Str),.str ("":Str)])
  generalize upd J1 Su (HO.tup [.str ("row":Str),.str ("":Str)])=J2 at sa qa hb2⊢
  have sb':=au (o:=HO.tup [.ref Su,.int (ys.length:Nat)]) hb2
  have qb:=aj (H:=J2) (a:=b2) (o:=HO.tup [.ref Su,.int (ys.length:Nat)])
  generalize upd J2 b2 (HO.tup [.ref Su,.int (ys.length:Nat)])=G1 at sb' qb⊢
  have hgm:bV K G1 ((Str.ofString "row",("":Str)),ys.length) (.ref b2):=⟨b2,Su,rfl,bz.of qb,bz.of (sb' _ _ qa)⟩
  have se:=sa.trans sb'
  replace sJ:=sJ.trans se
  replace hl:=se _ _ hl
  replace em:=em.keep λb xs q=>aF se q
  replace ca:=ca.mono se
  clear sa qa sb' qb Rz hb2 se
  refine⟨_,O,l,.inr (bq ((Str.ofString "row",("":Str)),ys.length)),_,vs,O,HB hgm,bw.of hl,HC em,_,O,VI (λhin=>?_) (λhin=>?_)⟩
  ·have hin:=HD.mp hin
   rw[tl]at hin
   refine⟨_,O,_,O,l1,ys,O,.inl (bw.of (sJ _ _ Ry)),(by show 2<=sizeLine;decide),λt2 Jk=>?_⟩
   exact k t2 _ ys.length _ (Vb lv hin (abo rfl)) aj (s3.trans (sJ.trans (au Jk)))
  have hno:∀m∈aS,vh ts m=false:=λm hm=>abB λe=>by
   have:=HD.mpr (show((Str.ofString "row",("":Str)),ys.length)∈aS by rw[tl,←e];exact hm)
   rw[hin]at this;cases this
  have hf:=Hr hno
  clear hin
  refine Vc _ _ _ (bU λR2 Vc=>⟨(by decide),λlf Jo=>Vc _ _ _ (bU λR2 Vc=>⟨_,rfl,l,rfl,⟨_,bw.of (au Jo _ _ hl)⟩,?_⟩)⟩)
  have sf:=au (o:=HO.lst []) Jo
  have Mm:=aj (H:=G1) (a:=lf) (o:=HO.lst [])
  have Yh:lf≠l:=λq=>by rw[q,hl]at Jo;cases Jo
  have Yi:H3 lf=none:=sJ.free Jo
  replace sJ:=sJ.trans sf
  replace hl:=sf _ _ hl
  replace em:=em.keep λb xs q=>aF sf q
  replace ca:=ca.mono sf
  generalize upd G1 lf (.lst [])=G2 at sJ hl em ca Mm⊢
  clear sf Jo hgm
  refine jD (K:=K) (a:=l) (xs:=vs) (λi σ J=>aH H3 J/\J l=some (.lst vs)/\mw K J vs aS/\∃fv v9 v10 v11,σ=[some (.ref tt),some (.ref a0),some (.ref l1),some (.str z),some (.ref b),some (.ref a),some (.ref l),some (.int k0),some (.ref lf),v9,v10,v11]/\J lf=some (.lst fv)/\mw K J fv ((aS.take i).foldl (gv (dD x ts z.cps.toList)) (cm,[])).2/\om P w K J a ((aS.take i).foldl (gv (dD x ts z.cps.toList)) (cm,[])).1/\JK U ((aS.take i).foldl (gv (dD x ts z.cps.toList)) (cm,[])).1/\∀m∈((aS.take i).foldl (gv (dD x ts z.cps.toList)) (cm,[])).2,m∈U) ⟨sJ,hl,em,[],_,_,_,rfl,Mm,.nil,ca,iu,λm hm=>nomatch hm⟩ (λi σ J _ q=>bw.of q.2.1) ?_ ?_
  ·rintro i e2 σ J hi ⟨MH,hl',Ro,fv,v9',RA,RB,rfl,Pp,mf,Mp,EI,fU⟩
   obtain⟨m,hm,hv⟩:=aW Ro i e2 hi
   have Si:=eU m (abq hm)
   have okm:=ZX m Si
   have hmt:m.2<ts.length:=by
    rcases UM m Si with z|z
    ·exact z
    ·rw[hno m (abq hm)]at z;cases z
   have hnx:=ZW m Si hmt
   have ef:(aS.take (i+1)).foldl (gv (dD x ts z.cps.toList)) (cm,[])=(dD x ts z.cps.toList m).foldl (dB m) ((aS.take i).foldl (gv (dD x ts z.cps.toList)) (cm,[])):=by rw[aQ hm,abP];rfl
   rw[ef]
   have hal:((aS.take i).foldl (gv (dD x ts z.cps.toList)) (cm,[])).2.length<=((aS.take i).foldl (gv (dD x ts z.cps.toList)) (cm,[])).1.length:=by
    have q:=lG (led:=dD x ts z.cps.toList) (aS.take i) (cm,[])
    simp only[acn,Nat.add_zero]at q
    omega
   generalize (aS.take i).foldl (gv (dD x ts z.cps.toList)) (cm,[])=acc at mf Mp EI fU hal⊢
   obtain⟨bx,rfl⟩:=HA hv
   dsimp only[bR]
   refine⟨_,O,_,O,?_⟩
   refine ri (λj σ G=>aH H3 G/\G l=some (.lst vs)/\mw K G vs aS/\bV K G m (.ref bx)/\∃fv v10 v11,σ=[some (.ref tt),some (.ref a0),some (.ref l1),some (.str z),some (.ref b),some (.ref a),some (.ref l),some (.int k0),some (.ref lf),some (.ref bx),v10,v11]/\G lf=some (.lst fv)/\mw K G fv ((dD x ts (z.cps.toList.take j) m).foldl (dB m) acc).2/\om P w K G a ((dD x ts (z.cps.toList.take j) m).foldl (dB m) acc).1/\JK U ((dD x ts (z.cps.toList.take j) m).foldl (dB m) acc).1/\∀m'∈((dD x ts (z.cps.toList.take j) m).foldl (dB m) acc).2,m'∈U) ⟨MH,hl',Ro,hv,fv,_,_,rfl,Pp,mf,Mp,EI,fU⟩ ?_ ?_
   ·rintro j c σ G hj ⟨sG,JO,JP,Gr,fv,RA,RB,rfl,JQ,EX,EY,EZ,HL⟩
    have Rq:((dD x ts (z.cps.toList.take j) m).foldl (dB m) acc).2.length<=((dD x ts (z.cps.toList.take j) m).foldl (dB m) acc).1.length:=by
     have q:=rH (p:=m) (dD x ts (z.cps.toList.take j) m) acc
     omega
    have esn:(dD x ts (z.cps.toList.take (j+1)) m).foldl (dB m) acc=(match gu x.1 x.2.1 x.2.2.1 x.2.2.2.a x.2.2.2.b x.2.2.2.c x.2.2.2.d ts m c with|none=>((dD x ts (z.cps.toList.take j) m).foldl (dB m) acc)|some m'=>dB m ((dD x ts (z.cps.toList.take j) m).foldl (dB m) acc) (c,m')):=by
     rw[aQ hj,IP,abP]
     cases gu x.1 x.2.1 x.2.2.1 x.2.2.2.a x.2.2.2.b x.2.2.2.c x.2.2.2.d ts m c<;>rfl
    rw[esn]
    generalize (dD x ts (z.cps.toList.take j) m).foldl (dB m) acc=ac at EX EY EZ HL Rq⊢
    dsimp only[bR]
    refine⟨_,O,_,O,_,O,_,O,tt,l1,ys,ts,m,.ref bx,c,x.1,x.2.1,x.2.2.1,x.2.2.2.a,x.2.2.2.b,x.2.2.2.c,x.2.2.2.d,O,sG _ _ ZV,sG _ _ Ry,bW sG tp3,Gr,okm.1,okm.2,λv' G2 s2 hb=>?_⟩
    dsimp only[bR]
    replace JP:=JP.keep λb xs q=>aF s2 q
    replace EX:=EX.keep λb xs q=>aF s2 q
    replace Gr:=Gr.mono s2
    replace EY:=EY.mono s2
    replace JO:=s2 _ _ JO
    replace JQ:=s2 _ _ JQ
    replace sG:=sG.trans s2
    have hlen:=EZ.len
    cases hB:gu x.1 x.2.1 x.2.2.1 x.2.2.2.a x.2.2.2.b x.2.2.2.c x.2.2.2.d ts m c with
    |none =>
     rw[hB]at hb
     have hb:v'=.non:=hb
     subst hb
     exact⟨_,O,O,_,O,TF rfl (cJ ⟨sG,JO,JP,Gr,fv,_,_,O,JQ,EX,EY,EZ,HL⟩)⟩
    |some m' =>
     rw[hB]at hb
     have Jp:bV K G2 m' v':=hb
     obtain⟨b3,rfl⟩:=HA Jp
     have Mq:=hnx c m' hB
     have UP:=Hq (p:=m) (e:=(c,m')) EZ Mq
     obtain⟨kvs,d,cr⟩:=EY.ok
     have kl:=ab8 cr
     have ka:qA (YM P w K) G2 (bq m') b3:=xS Jp
     refine⟨_,rfl,rfl,_,rfl,Ql (λz=>nomatch z) (⟨_,rfl,_,rfl,a,kvs,bq m',b3,rfl,rfl,d,ka,_,rfl,?_⟩)⟩
     rw[uA cr]
     cases hh:cK ac.1 m' with
     |true =>
      have e4:dB m ac (c,m')=ac:=abe hh
      dsimp only
      rw[e4]
      exact cJ ⟨sG,JO,JP,Gr,fv,_,_,rfl,JQ,EX,EY,EZ,HL⟩
     |false =>
      have e4:dB m ac (c,m')=(ac.1++[(m',some (m,c))],ac.2++[m']):=abb (by rw[hh];decide)
      dsimp only
      rw[e4]at UP⊢
      refine j9 ?_
      have c5:=om.put (x:=some (m,c)) (v:=.bl true) d cr Jp hh
      have Pr:kvs.length<sizeLine:=abz (show kvs.length<=100000 by omega) (by decide)
      refine⟨_,O,_,O,a,kvs,bq m',b3,O,O,d,ka,Pr,?_⟩
      have tq:=kP (F:=K) d.ob (o:=dN (ZM P w) (aM P w) a (putN kvs (bq m') b3 (.bl true)))
      have tl':∀b' xs,G2 b'=some (.lst xs)->(upd G2 a (dN (ZM P w) (aM P w) a (putN kvs (bq m') b3 (.bl true)))) b'=some (.lst xs):=λb' xs e=>(aD (ji e d.ob (λq=>nomatch q))).trans e
      have s5':aH H3 (upd G2 a (dN (ZM P w) (aM P w) a (putN kvs (bq m') b3 (.bl true)))):=aR ha sG
      have l5:=tl' _ _ JO
      have Dw:=tl' _ _ JQ
      have Rn:=JP.keep tq
      have Rr:=EX.keep tq
      have Vd:=Gr.keep tq
      have UR:=Jp.keep tq
      generalize upd G2 a (dN (ZM P w) (aM P w) a (putN kvs (bq m') b3 (.bl true)))=G5 at c5 s5' l5 Dw Rn Rr Vd UR⊢
      have Yk:=Rr.length
      refine⟨_,O,.inl ⟨O,_,bw.of Dw⟩,_,O,lf,_,_,O,O,Dw,?_,?_⟩
      ·exact abz (show fv.length<=100000 by rw[Yk];omega) (by decide)
      refine⟨aR Yi s5',(aD (ab9 Yh)).trans l5,Rn.keep (λb xs q=>g5 Dw q),Vd.but Dw,fv++[.ref b3],_,_,O,aj,dI (Rr.keep λb xs q=>g5 Dw q) (.cons (UR.but Dw) .nil),c5.but Dw,UP,λm1 hm1=>?_⟩
      rcases abp.mp hm1 with z|z
      ·exact HL m1 z
      ·rw[abh.mp z];exact Mq
   ·rintro σ G ⟨sG,JO,JP,Gr,fv,RA,RB,rfl,JQ,EX,EY,EZ,HL⟩
    rw[abr (abf _)]at EX EY EZ HL
    exact⟨sG,JO,JP,fv,_,_,_,O,JQ,EX,EY,EZ,HL⟩
  ·rintro σ J ⟨MH,hl',Ro,fv,v9',RA,RB,rfl,Pp,mf,Mp,EI,fU⟩
   rw[em.length,abr (abf _)]at mf Mp EI fU
   exact Vc _ _ _ ⟨_,rfl,_,rfl,_,_,rfl,rfl,lf,fv,k0+1,_,_,_,_,rfl,rfl,hf,MH,Pp,mf,Mp,EI,fU⟩
def w6(K:W.Frag):Sp:=λvs H Q _=>∃(a:Addr)(xs:List V)(t:List (List Str))(n:Nat),vs=[.ref a,.int n]/\H a=some (.lst xs)/\Paired (bC H) xs t/\TabOk t/\n<(az t).length/\∀b H',bz K H' b [.int (cellAt ((az t).take n)).1,.int (cellAt ((az t).take n)).2]->aH H H'->Q (.ref b) H'
theorem xg:br P w K mg base fO 1 (aC 55) (aL 55) ["_law_table_here","_law_many"] (w6 K):=by
 refine T.oW.ok eS (λvs H Q E h=>?_) (λcdv A outer s H vs Q E hr h=>?_)
 ·obtain⟨a,xs,t,n,rfl,_⟩:=h;rfl
 ·have hu:=bf hr
  have gj:=hr.aO
  obtain⟨a,xs,t,n,rfl,ha,pr,tok,hnt,k⟩:=h
  have pl:=pr.length
  have hn:=tok.n
  have ig:=hr.units
  have Uk:100000<=sizeLine:=by decide
  refine⟨_,(ah (dg 2 eS.nd (pv 1))
   (ah (dO abL rfl (gJ rfl T.iW (af (jC (aX K rfl) T.bS (af (pv 0) ai)) ai)) (fu 3 eS.nd)
   (ak (dO abL rfl (gJ rfl T.iW (af (jC (aX K rfl) T.bS (af (rz K (pv 0) (pv 3)) ai)) ai)) (fu 4 eS.nd)
   (ah (aK (di Ka (pv 2) (jC bB T.bS (af (rz K (rz K (pv 0) (pv 3)) (pv 4)) ai))) (ak (ay (aB (af (pv 3) (af (pv 4) ai))))) aA)
   (ak (dg 2 eS.nd (aJ E5 (aJ E5 (pv 2) (jC bB T.bS (af (rz K (rz K (pv 0) (pv 3)) (pv 4)) ai))) aq)))))))
   (ak (ay cO)))),?_⟩
  refine⟨_,O,?_⟩
  dsimp only[bR]
  refine⟨_,O,a,_,O,.inl (bw.of ha),_,O,by omega,by omega,?_⟩
  refine jB (λi σ H2=>H2=H/\∃(l:Nat)(v3 v4:Option V),σ=[some (.ref a),some (.int n),some (.int l),v3,v4]/\(az (t.take i)).length+l=n) ⟨rfl,n,_,_,rfl,by rw[List.take_zero];exact Nat.zero_add n⟩ ?_ ?_
  ·rintro i σ H2 hi ⟨rfl,l,v3,v4,rfl,hl⟩
   have hi:i<xs.length:=by omega
   obtain⟨x,hx⟩:∃x,xs[i]?=some x:=⟨_,aby hi⟩
   obtain⟨r,hr',b,rfl,hb⟩:=aW pr i x hx
   have hat:Dv xs (0+(i:Int))=some (.ref b):=by rw[Int.zero_add];exact iK hx
   have hrm:=tok.rows r (abq hr')
   have hrl:=hrm.hi
   have hr1:=hrm.lo
   have hml:(r.map V.str).length=r.length:=abg ..
   refine⟨_,O,_,O,a,_,_,_,O,O,bw.of ha,hat,b,_,O,.inl (bw.of hb),_,O,by omega,by omega,?_⟩
   refine jB (λj σ H3=>H3=H2/\∃(l:Nat)(v4:Option V),σ=[some (.ref a),some (.int n),some (.int l),some (.int (0+(i:Int))),v4]/\(az (t.take i)).length+((wm r j).length+l)=n) ⟨rfl,l,_,rfl,?_⟩ ?_ ?_
   ·show _+(([]:List (Str×Str)).length+l)=n
    rw[acn,Nat.zero_add];exact hl
   ·rintro j σ H3 hj ⟨rfl,l,v4,rfl,hl⟩
    have hj:j<r.length:=by omega
    obtain⟨c,hc⟩:∃c,r[j]?=some c:=⟨_,aby hj⟩
    have Ov:Dv (r.map V.str) (0+(j:Int))=some (.str c):=by rw[Int.zero_add];exact iK (by rw[abZ,hc];rfl)
    have hcs:c.length<=sizeLine:=by
     have:=pS (abq hr')
     have:c.length<=(lens r).sum:=B6 (List.mem_map_of_mem (abq hc))
     have:=tok.sum
     omega
    refine⟨_,O,_,O,_,O,a,_,_,_,O,O,bw.of ha,hat,_,O,b,_,_,_,O,O,bw.of hb,Ov,c,O,hcs,_,_,O,O,_,O,VI (λ(h1:decide ((l:Int)<=(c.length:Int))=true)=>?_) (λ(h1:decide ((l:Int)<=(c.length:Int))=false)=>?_)⟩
    ·have h1:=abF h1
     have e:=LO hr' hc hl (by omega)
     refine⟨_,O,_,O,(by show 2<=sizeLine;decide),λd hd=>k d _ ?_ (au hd)⟩
     rw[e]
     have:=bz.of (K:=K) (aj (H:=H3) (a:=d) (o:=HO.tup [.int (0+(i:Int)),.int (0+(j:Int))]))
     rw[Int.zero_add,Int.zero_add]at this⊢
     exact this
    ·have h1:=of_decide_eq_false h1
     have e:=NY hc
     refine⟨_,O,_,O,_,O,a,_,_,_,O,O,bw.of ha,hat,_,O,b,_,_,_,O,O,bw.of hb,Ov,c,O,hcs,_,_,O,O,_,_,O,O,O,l-c.length-1,some (.int (0+(j:Int))),?_,by omega⟩
     rw[show((l-c.length-1:Nat):Int)=(l:Int)-(c.length:Int)-1 by omega];rfl
   ·rintro σ H3 ⟨rfl,l,v4,rfl,hl⟩
    refine⟨O,l,_,_,O,?_⟩
    have e:=FP hr1
    rw[hml,acL]at hl
    rw[aQ hr',iU,abj,e];omega
  ·rintro σ H2 ⟨rfl,l,v3,v4,rfl,hl⟩
   rw[pl,acL,abr (abf _)]at hl
   exfalso;omega
def xh(K:W.Frag)(C:Addr):Sp:=λvs H Q _=>∃(x dx a:Addr)(xs:List V)(t:List (List Str))(p q f:Str)(b1 b2 b3 b4:Bool),vs=[.ref x,.ref a]/\H x=some (.ins C dx (zI p q f b1 b2 b3 b4))/\Gd p q f/\H a=some (.lst xs)/\Paired (bC H) xs t/\TabOk t/\∀tf H',VR p q f b1 b2 b3 b4 H' tf t->aH H H'->Q (.ref tf) H'
theorem m6:br P w K mg base fO 13 (aC 56) (aL 56) ["_law_made_here","_law_table_here"] (xh K (aC 60)):=by
 have Gz:=@EK P w K mg base aC aL cV T
 refine T.j3.ok jc (λvs H Q E h=>?_) (λcdv A outer s H vs Q E hr h=>?_)
 ·obtain⟨x,dx,a,xs,t,p,q,f,b1,b2,b3,b4,rfl,_⟩:=h;rfl
 ·have hu:=bf hr
  have gj:=hr.aO
  obtain⟨x,dx,a,xs,t,p,q,f,b1,b2,b3,b4,rfl,hx,g,ha,pr,tok,k⟩:=h
  refine⟨_,(ah (Nr rfl rfl (K7 (Np (i:=2) jc.nd rfl (by first|exact Or.inl rfl|exact Or.inr rfl) (K6 (k:=12) Gz (hr.mono (by decide)) rfl T.Gf T.yY.kp T.Ge .nil (af (pv 0) (af (pv 1) ai))))) (TZ (i:=3) rfl rfl T.vH T.dZ (.inr ⟨_,_,rfl,T.cS⟩) jc.nd rfl rfl (λea=>(ak (ay (aB (af ao (af (Hi T.dZ (.inr ⟨_,_,rfl,T.cS⟩) T.lJ (pv 3) rfl) (af (Hi T.dZ (.inr ⟨_,_,rfl,T.cS⟩) T.kD (pv 3) rfl) ai))))))) Qq) aA)
   (ak (ay (aB (af ao (af (pv 2) ai)))))),?_⟩
  refine⟨_,O,_,O,x,dx,a,xs,t,p,q,f,b1,b2,b3,b4,O,hx,g,ha,pr,tok,λcs H1 hrd hls hcl hok s1=>?_,λn hW hM d H1 hd hd1 s1 ea vZ=>?_⟩
  ·refine⟨_,O,(by show 2<=sizeLine;decide),λtf htf=>?_⟩
   refine k tf _ (.inl ⟨_,aj,⟨?_,?_,?_,?_⟩⟩) (s1.trans (au htf))
   ·rw[yF];exact hrd
   ·rw[El];exact hls
   ·rw[El];exact hcl
   ·intro c hc;rw[yF]at hc;exact hok c hc
  have nde:d≠ea:=λq=>by rw[q,vZ]at hd1;cases hd1
  have hd2:=(aD (o:=Nq ea (.ref (aC 66)) (some d)) nde).trans hd1
  have s2:=au (o:=Nq ea (.ref (aC 66)) (some d)) vZ
  have R9:(upd H1 ea (Nq ea (.ref (aC 66)) (some d))) ea=some (Nq ea (.ref (aC 66)) (some d)):=aj
  refine⟨(aC 66),(aC 67),_,_,O,T.dZ,ko (by simp) ?_⟩
  generalize upd H1 ea (Nq ea (.ref (aC 66)) (some d))=H2 at hd2 s2 R9⊢
  refine⟨_,O,ea,d,_,_,O,R9,hd2,NS _ _,_,O,ea,d,_,_,O,R9,hd2,LK _ _,(by show 3<=sizeLine;decide),λtf htf=>?_⟩
  exact k tf _ (.inr ⟨n,aj,hW,hM⟩) ((s1.trans s2).trans (au htf))
def Aq(K:W.Frag)(C:Addr):Sp:=λvs H Q _=>∃(x dx tt a:Addr)(xs:List V)(t:List (List Str))(p q f:Str)(b1 b2 b3 b4:Bool),vs=[.ref x,.ref tt,.ref a]/\H x=some (.ins C dx (zI p q f b1 b2 b3 b4))/\H tt=some (.tup (gb p q f b1 b2 b3 b4))/\Gd p q f/\H a=some (.lst xs)/\Paired (bC H) xs t/\TabOk t/\(az t).length<=150/\∀H',aH H H'->Q (.bl true) H'
theorem Ar:br P w K mg base fO 14 (aC 57) (aL 57) ["_law_made_here","_law_told_here","_law_table_here"] (Aq K (aC 60)):=by
 have zx:=@xg P w K mg base aC aL cV T
 have pB:=@tu P w K mg base aC aL cV T
 have As:=@zw P w K mg base aC aL cV T
 have pC:=@sZ P w K mg base aC aL cV T
 have j7:=@m6 P w K mg base aC aL cV T
 refine T.g9.ok cu (λvs H Q E h=>?_) (λcdv A outer s H vs Q E hr h=>?_)
 ·obtain⟨x,dx,tt,a,xs,t,p,q,f,b1,b2,b3,b4,rfl,_⟩:=h;rfl
 ·have hu:=bf hr
  have gj:=hr.aO
  obtain⟨x,dx,tt,a,xs,t,p,q,f,b1,b2,b3,b4,rfl,hx,CC,g,ha,tr,tok,Pu,k⟩:=h
  have ig:=hr.units
  have hlx:=tr.length
  have hn:=tok.n
  have Uk:100000<=sizeLine:=by decide
  refine⟨_,(ah (G0 (i:=3) rfl cu.nd rfl rfl (show bD ["_law_made_here","_law_told_here","_law_table_here","_law_handed","_law_found","_law_many","_law_far","_law_due","_law_kinds","_law_spot","_law_word"] (av jw) ["_law_row"] 1 [] _ from Hl) (cQ K rfl (pv 2)) (λ_ _ _ _=>(fu 0 IA)) (λ_ _ _ _=>eg) (λ_ _ _ _=>(Sa (zF K rfl) T.CA (af (pv 0) ai))))
   (ah (dg 4 cu.nd (fP j7 hr T.oY T.j3.kp T.oX (af (pv 0) (af (pv 3) ai))))
   (ah (iY (fP As hr T.zW T.qi.kp T.zV (af (pv 1) (af (pv 2) ai))) (fV K rfl 2 rfl (aP (fu 5 cu.nd) (aP (fu 6 cu.nd) fQ))))
   (ah (aK (di (Qg K rfl ig) (pv 3) (pv 2)) (ak (ay gR)) aA)
   (ah (aK (di t6 (pv 5) cO) (ah (dg 7 cu.nd (fP zx hr T.za T.oW.kp T.yZ (af (pv 2) (af (pv 6) ai))))
   (ah (aK (PW.pt (gk (bJ (jC (fT K rfl) T.cy (af (gg K (pv 4) aq) (af (NG "bool" T.Cy) ai)))) (eZ (bJ (jC (fT K rfl) T.cy (af (gg K (pv 4) (SO PY aq)) (af (NG "bool" T.Cy) ai))))))) (ak (ay gR)) aA)
   (ak (ay (yp (Fp K rfl ig) (pv 4) (aB (af ao (af (gg K (pv 7) aq) (af (gg K (pv 7) aq) ai))))))))) aA)
   (ah (aK (PW.pt (gk (di u9 (gg K (pv 4) aq) ao) (gk (cG (bJ (jC (fT K rfl) T.cy (af (gg K (pv 4) aq) (af (NG "str" T.Gg) ai))))) (eZ (di u9 (jC bB T.bS (af (gg K (pv 4) aq) ai)) (pv 5)))))) (ak (ay gR)) aA)
   (ah (iY (fP pC hr T.vC T.oU.kp T.vB (af (pv 1) (af (gg K (pv 4) aq) ai))) (fV K rfl 3 rfl (aP (fu 8 cu.nd) (aP (fu 9 cu.nd) (aP (fu 10 cu.nd) fQ)))))
   (ak (ay (tY (yp aZ (pv 10) ao) (qy (yp (Fp K rfl ig) (fP pB hr T.vE T.oV.kp T.vD (af (gg K (pv 4) aq) (af (pv 8) ai))) (pv 2))))))))))))),?_⟩
  refine⟨_,O,a,O,⟨_,bw.of ha⟩,λD hD=>?_⟩
  refine gM (K:=K) (a:=a) (xs:=xs) (λi ys τ H2=>(∃v,τ=[v])/\aH H H2/\H2 D=some (.lst ys)/\Paired (bI D H2) ys (t.take i)) ⟨⟨_,rfl⟩,au hD,aj,.nil⟩ (λi ys τ H2 _ p=>⟨bw.of (p.2.1 _ _ ha),p.2.2.1⟩) ?_ ?_
  ·rintro i e ys τ H2 hi ⟨⟨v,rfl⟩,s2,h2,hp⟩
   obtain⟨r,Gq,b,rfl,hb⟩:=aW tr i e hi
   have hil:i<xs.length:=(abi.mp hi).1
   have hyl:=hp.length
   rw[abM]at hyl
   refine qB ?_
   refine⟨_,O,b,_,O,.inl (bw.of (s2 _ _ hb)),λu CF=>?_⟩
   have su:=au (o:=HO.lst (r.map V.str)) CF
   refine⟨su _ _ h2,abz (show ys.length<=60 by omega) (by decide),⟨_,O⟩,aR hD (s2.trans su),aj,?_⟩
   rw[aQ Gq]
   exact aE (λa b h=>bI.but h) (cz (aE (λa b h=>bI.mono su h) hp) ⟨u,rfl,ab9 (aN h2 CF),aj⟩)
  rintro ys τ H2 ⟨⟨v,rfl⟩,s2,h2,hp⟩
  rw[hlx,abr (abf _)]at hp
  have MI:=aE (λa b h=>bI.row h) hp
  clear hp
  have tr2:=aE (λa b h=>bC.mono s2 h) tr
  have hyl:=MI.length
  have ha2:=s2 _ _ ha
  dsimp only[bR]
  refine⟨_,O,_,O,x,dx,D,ys,t,p,q,f,b1,b2,b3,b4,O,s2 _ _ hx,g,h2,MI,tok,λf1 H3 w1 s3=>?_⟩
  dsimp only[bR]
  have Sm:=s2.trans s3
  refine⟨_,O,_,O,tt,a,(p,q,f,⟨b1,b2,b3,b4⟩),xs,t,O,Sm _ _ CC,g,Sm _ _ ha,aE (λa b h=>bC.mono Sm h) tr,tok,λt2 vm far H4 sr Jk s4=>?_⟩
  have JN:=s3.trans s4
  have HK:=Sm.trans s4
  replace w1:=w1.mono s4
  refine⟨t2,_,O,bz.of Jk,O,_,_,O,_,_,O,O,?_⟩
  dsimp only[bR]
  have hD4:=JN _ _ h2
  have ZY:=HK _ _ ha
  have Ve:=aE (λa b h=>bC.mono HK h) tr
  refine⟨_,O,_,O,FH hD4 ZY (aE (λa b h=>bC.mono JN h) MI) Ve,_,O,cJ ?_⟩
  clear MI hD4
  rcases sr with ⟨kk,rfl,Vf⟩|⟨rfl,hno,hmx⟩
  ·rcases w1 with ⟨F1,h1,wk⟩|⟨n1,h1,q1,m1⟩
   rotate_left
   ·obtain⟨cs,hcs,_⟩:=Vf.1
    exact absurd hcs (q1 _)
   obtain⟨r1,l1,le1,o1⟩:=wk
   have el:=fH.one l1 Vf
   have lo:∀r∈t,1<=r.length:=λr hr=>(tok.rows r hr).lo
   have t1:=tab_of lo r1
   have Vg:B3 (W9 p q f b1 b2 b3 b4 F1)=("":Str):=Ho r1.1
   refine⟨_,O,O,_,O,cJ ?_⟩
   refine⟨_,O,f1,_,_,_,O,O,bz.of h1,O,O,_,O,A6 (aY _) ?_⟩
   refine⟨_,O,_,_,_,_,O,O,bz.of h1,O,_,_,_,_,O,.str _,.inl ⟨_,⟨O,O⟩⟩,_,O,cJ (⟨_,O,_,_,_,_,O,O,bz.of h1,O,_,O,(by omega),_,O,O,_,O,rdJ (by omega) (⟨_,O,_,O,_,_,_,_,O,O,bz.of h1,O,_,_,_,_,_,_,_,_,_,O,(HK _ _ CC),(by omega),λtw lk sp H5 htw ZZ hlk GW s5=>⟨_,_,O,bz.of htw,O,_,_,O,_,_,O,_,_,O,O,_,O,O,_,O,?_⟩⟩)⟩)⟩
   have Pr:(runM p q f b1 b2 b3 b4 ("row":Str) ("":Str) F1.cps.toList).1.length=F1.length:=by rw[oi (by rw[r1.1]),abt];rfl
   have Vg:B3 (runM p q f b1 b2 b3 b4 ("row":Str) ("":Str) F1.cps.toList)=("":Str):=Vg
   refine ko (abo (by rw[Vg])) ?_
   refine⟨_,O,f1,_,_,_,O,O,bz.of (s5 _ _ h1),O,_,O,F1,lk,_,O,bw.of hlk,by omega,by omega,λl3 es3 H6 _ hl3 _ _ Z0 s6=>?_⟩
   have p3:=Ht Z0
   rw[t1]at p3
   exact⟨_,O,FH hl3 (s6 _ _ (s5 _ _ ZY)) p3 (aE (λa b h=>bC.mono (s5.trans s6) h) Ve),k _ (HK.trans (s5.trans s6))⟩
  ·rcases w1 with ⟨F1,h1,wk⟩|⟨n1,h1,q1,m1⟩
   ·exact absurd wk.rd (hno _)
   have e:=zK.one m1 hmx
   subst e
   refine⟨_,O,O,_,O,j9 ?_⟩
   refine⟨_,O,_,O,a,xs,t,n1,O,ZY,Ve,tok,Hu dQ hno hmx,λb2 H5 hb2 s5=>?_⟩
   dsimp only[bR]
   have U3:=s5 _ _ h1
   refine⟨_,O,_,_,_,_,O,O,bz.of U3,O,_,_,_,_,O,.int _,.inl ⟨_,⟨O,O⟩⟩,_,O,cJ (⟨_,O,_,O,_,_,_,_,O,O,bz.of U3,O,_,_,_,_,O,.int _,.inl ⟨_,⟨O,O⟩⟩,_,O,cJ (⟨_,O,_,O,_,_,_,_,O,O,hb2,O,_,O,_,_,_,_,O,O,hb2,O,(by show(3:Nat)<=sizeLine;decide),λt3 Ru=>⟨?_,k _ (aR ((HK.trans s5).free Ru) (HK.trans s5))⟩⟩)⟩)⟩
   ·exact ID (au Ru _ _ U3) aj rfl
def Au(K:W.Frag):Sp:=λvs H Q _=>vs=[]/\∀H',aH H H'->Q (.bl true) H'
theorem Av:br P w K mg base fO 14 (aC 58) (aL 58) [] (Au K):=by
 have kF:=@sX P w K mg base aC aL cV T
 have pB:=@tu P w K mg base aC aL cV T
 have pC:=@sZ P w K mg base aC aL cV T
 have j7:=@m6 P w K mg base aC aL cV T
 refine T.sM.ok dJ (λvs H Q E h=>?_) (λcdv A outer s H vs Q E hr h=>?_)
 ·obtain⟨rfl,_⟩:=h;rfl
 ·have hu:=bf hr
  have gj:=hr.aO
  obtain⟨rfl,k⟩:=h
  have ig:=hr.units
  have Uk:100000<=sizeLine:=by decide
  refine⟨_,(ah (dg 0 dJ.nd (aB (af ao (af ao (af ao (af gR (af gR (af gR (af gR ai)))))))))
   (ah (Lm (i:=1) rfl dJ.nd rfl rfl (show jI ["_law_told_here","_law_table_here","_law_found","_law_kinds","_law_spot","_law_word"] (av jx) ["_law_i"] 1 [] _ from W6) (gJ rfl T.iW (af aq ai)) (λ_ _ _ _=>(fu 0 IA)) (λ_ _ _ _=>eg) (λ_ _ _ _=>(fS rfl (show bD ["_law_i"] _ ["_law_j","_law_i"] 1 [0] _ from⟨rfl,by decide +kernel,by decide +kernel,λy hy hf=>QA ((by decide +kernel:∀y∈_,y.2=PySem.NameKind.free->(List.lookup y.1 _=some PySem.NameKind.cell\/List.lookup y.1 _=some PySem.NameKind.free)) y hy hf),by decide +kernel,rfl,rfl,by decide +kernel⟩) (gJ rfl T.iW (af aq ai)) (λ_ _ _ _=>(fu 0 (show(["_law_j","_law_i"]:List Str).Nodup by decide +kernel))) (λ_ _ _ _=>eg) (λ_ _ _ _=>(rz K (bM (af ao (af ao ai))) (Sa lz T.zc (af (yp aZ (aJ cY (aJ cX (aJ jE aq (pv 1)) (pv 0)) aq) aq) ai)))))))
   (ah (dg 2 dJ.nd (fP j7 hr T.oY T.j3.kp T.oX (af (fP kF hr T.oR T.kC.kp T.oQ (af (pv 0) ai)) (af (pv 1) ai))))
   (ah (aK (PW.pt (gk (di u9 (gg K (pv 2) aq) ao) (eZ (di u9 (jC bB T.bS (af (gg K (pv 2) aq) ai)) aq)))) (ak (ay gR)) aA)
   (ah (iY (fP pC hr T.vC T.oU.kp T.vB (af (pv 0) (af (gg K (pv 2) aq) ai))) (fV K rfl 3 rfl (aP (fu 3 dJ.nd) (aP (fu 4 dJ.nd) (aP (fu 5 dJ.nd) fQ)))))
   (ak (ay (tY (yp aZ (pv 5) ao) (qy (yp (Fp K rfl ig) (fP pB hr T.vE T.oV.kp T.vD (af (gg K (pv 2) aq) (af (pv 3) ai))) (pv 1))))))))))),?_⟩
  refine⟨(by show 7<=sizeLine;decide),λtt Z1=>?_⟩
  have s1:=au (o:=HO.tup [.str pG,.str qG,.str fG,.bl false,.bl false,.bl false,.bl false]) Z1
  have CC:=aj (H:=H) (a:=tt) (o:=HO.tup [.str pG,.str qG,.str fG,.bl false,.bl false,.bl false,.bl false])
  generalize upd H tt (HO.tup [.str pG,.str qG,.str fG,.bl false,.bl false,.bl false,.bl false])=H1 at s1 CC⊢
  dsimp only[bR]
  refine⟨_,O,(by omega),(by omega),λD hD=>?_⟩
  refine yf (λi ys τ H2=>(∃v,τ=[v])/\aH H1 H2/\H2 D=some (.lst ys)/\Paired (bI D H2) ys ((List.range i).map nh)) ⟨⟨_,rfl⟩,au hD,aj,.nil⟩ (λi ys τ H2 _ p=>p.2.2.1) ?_ ?_
  ·rintro i ys τ H2 hi ⟨⟨v,rfl⟩,s2,h2,hp⟩
   have hyl:=hp.length
   rw[abg,acM]at hyl
   refine qB ?_
   refine⟨_,O,(by omega),(by omega),λE hE=>?_⟩
   refine yf (λj zs τ2 H3=>(∃v,τ2=[v,some (.int (0+(i:Int)))])/\aH H2 H3/\H3 E=some (.lst zs)/\zs=((List.range j).map λm=>IS (20*i+m)).map V.str) ⟨⟨_,rfl⟩,au hE,aj,rfl⟩ (λi ys τ H2 _ p=>p.2.2.1) ?_ ?_
   ·rintro j zs τ2 H3 hj ⟨⟨v,rfl⟩,s3,h3,rfl⟩
    have hj:j<20:=by simpa using hj
    refine qB ?_
    refine⟨(by decide),λq hq=>⟨_,O,_,_,O,O,.inl ⟨(by omega),(by omega)⟩,_,O,_,_,O,O,_,_,O,O,(by omega),O,.inr (⟨_,O,?_⟩)⟩⟩
    have hat:Dv [V.str ("":Str),V.str (",":Str)] (if decide ((λi j=>V.int (i % j)) (20*(0+(i:Int))+(0+(j:Int))) 3=V.int 0)=true then 1 else 0)=some (.str (IS (20*i+j))):=by
     unfold IS
     by_cases hc:(20*i+j) % 3=0
     ·have e:(λi j=>V.int (i % j)) (20*(0+(i:Int))+(0+(j:Int))) 3=V.int 0:=congrArg V.int (by omega)
      rw[abe hc,abo e,abe rfl];rfl
     ·have e:¬(λi j=>V.int (i % j)) (20*(0+(i:Int))+(0+(j:Int))) 3=V.int 0:=λz=>by
       have z:V.int ((20*(0+(i:Int))+(0+(j:Int))) % 3)=V.int 0:=z
       injection z with z
       omega
      rw[abb hc,abB e,abb (by decide)];rfl
    refine⟨q,_,_,_,O,O,bw.of aj,hat,(au hq) _ _ h3,?_,⟨_,O⟩,aR hE (s3.trans (au hq)),aj,?_⟩
    ·rw[abg,abg,acM]
     exact abA hj (by decide)
    ·rw[List.range_succ,abx,abx];rfl
   ·rintro zs τ2 H3 ⟨⟨v,rfl⟩,s3,h3,rfl⟩
    have h3:H3 E=some (.lst ((nh i).map V.str)):=h3
    have nE:E≠D:=λq=>by rw[q,h2]at hE;cases hE
    refine⟨s3 _ _ h2,by rw[hyl];exact abA (show i<60 by simpa using hi) (by decide),⟨_,O⟩,aR hD (s2.trans s3),aj,?_⟩
    rw[List.range_succ,abx]
    exact aE (λa b h=>bI.but h) (cz (aE (λa b h=>bI.mono s3 h) hp) ⟨E,rfl,nE,h3⟩)
  rintro ys τ H2 ⟨⟨v,rfl⟩,s2,h2,hp⟩
  have MI:Paired (bC H2) ys ((List.range 60).map nh):=aE (λa b h=>bI.row h) hp
  clear hp
  dsimp only[bR]
  have RC:=s2 _ _ CC
  refine⟨_,O,tt,pG,qG,fG,false,false,false,false,O,RC,gdG,λx dx H3 WZ hx s3=>⟨_,O,x,dx,D,ys,(List.range 60).map nh,pG,qG,fG,false,false,false,false,O,hx,gdG,s3 _ _ h2,aE (λa b h=>bC.mono s3 h) MI,HF,λf1 H4 w1 s4=>?_⟩⟩
  dsimp only[bR]
  rcases w1 with ⟨F1,h1,wk⟩|⟨n1,h1,q1,m1⟩
  rotate_left
  ·obtain⟨cs,hcs,_⟩:=(QU 60).1
   exact absurd hcs (q1 _)
  obtain⟨r1,l1,le1,o1⟩:=wk
  have el:F1.length=2400:=(fH.one l1 (QU 60)).trans QV
  have lo:∀r∈(List.range 60).map nh,1<=r.length:=λr hr=>(HF.rows r hr).lo
  have t1:=tab_of lo r1
  have Vg:B3 (runM pG qG fG false false false false ("row":Str) ("":Str) F1.cps.toList)=("":Str):=Ho r1.1
  have Pr:(runM pG qG fG false false false false ("row":Str) ("":Str) F1.cps.toList).1.length=F1.length:=by rw[oi (by rw[r1.1]),abt];rfl
  have HK:=s3.trans s4
  have Z2:H4 tt=some (.tup (gb pG qG fG false false false false)):=HK _ _ RC
  have h24:=HK _ _ h2
  have Ve:=aE (λa b h=>bC.mono HK h) MI
  have s04:=s1.trans (s2.trans HK)
  generalize (List.range 60).map nh=t at *
  clear r1 l1 le1 o1 lo MI h2 RC CC s1 s2 s3 s4 HK
  refine⟨_,O,f1,_,_,_,O,O,bz.of h1,O,O,_,O,A6 (aY _) ?_⟩
  refine⟨_,O,_,_,_,_,O,O,bz.of h1,O,_,O,(by omega),O,_,O,rdJ (by omega) (⟨_,O,_,O,_,_,_,_,O,O,bz.of h1,O,_,_,_,_,_,_,_,_,_,O,Z2,(by omega),λtw lk sp H5 htw ZZ hlk GW s5=>⟨_,_,O,bz.of htw,O,_,_,O,_,_,O,_,_,O,O,_,O,O,_,O,?_⟩⟩)⟩
  refine ko (abo (by rw[Vg])) ?_
  refine⟨_,O,f1,_,_,_,O,O,bz.of (s5 _ _ h1),O,_,O,F1,lk,_,O,bw.of hlk,by omega,by omega,λl3 es3 H6 _ hl3 _ _ Z0 s6=>?_⟩
  have p3:=Ht Z0
  rw[t1]at p3
  exact⟨_,O,FH hl3 (s6 _ _ (s5 _ _ h24)) p3 (aE (λa b h=>bC.mono (s5.trans s6) h) Ve),k _ (s04.trans (s5.trans s6))⟩
def C6(K:W.Frag):Sp:=λvs H Q _=>∃(a:Addr)(ns:List Int),vs=[.ref a]/\bw K H a (ns.map V.int)/\ns.length<=63/\∀H',Q (.bl true) H'
theorem RD:br P w K mg base fO 15 (aC 59) (aL 59) ["_law_script"] (C6 K):=by
 have ie:=@m5 P w K mg base aC aL cV T
 have fN:=@w5 P w K mg base aC aL cV T
 have C7:=@Av P w K mg base aC aL cV T
 have kF:=@sX P w K mg base aC aL cV T
 have jA:=@Ar P w K mg base aC aL cV T
 have tD:=@Aj P w K mg base aC aL cV T
 have vI:=@CQ P w K mg base aC aL cV T
 refine T.Uh.ok qK (λvs H Q E h=>?_) (λcdv A outer s H vs Q E hr h=>?_)
 ·obtain⟨a,ns,rfl,_⟩:=h;rfl
 ·have hu:=bf hr
  have gj:=hr.aO
  obtain⟨a,ns,rfl,hS,hlen,k⟩:=h
  have ig:=hr.units
  refine⟨_,(ah (dg 1 qK.nd (fP vI hr T.vt T.oO.kp T.vq (af (fP fN hr T.fL T.dR.kp T.fK (af (pv 0) (af aq ai))) ai)))
   (ah (dg 2 qK.nd (fP vI hr T.vt T.oO.kp T.vq (af (fP fN hr T.fL T.dR.kp T.fK (af (pv 0) (af aq ai))) ai)))
   (ah (dg 3 qK.nd (fP kF hr T.oR T.kC.kp T.oQ (af (pv 1) ai)))
   (ah (dg 4 qK.nd (fP kF hr T.oR T.kC.kp T.oQ (af (pv 2) ai)))
   (ah (dg 5 qK.nd (fP tD hr T.sH T.mH.kp T.sF (af (pv 1) (af (fP fN hr T.fL T.dR.kp T.fK (af (pv 0) (af aq ai))) (af aq (af aq ai))))))
   (ah (dg 6 qK.nd (fP tD hr T.sH T.mH.kp T.sF (af (pv 2) (af (fP fN hr T.fL T.dR.kp T.fK (af (pv 0) (af aq ai))) (af aq (af aq ai))))))
   (ah (aK (PW.pt (gk (cG (bJ (fP jA hr T.jz T.g9.kp T.jy (af (pv 3) (af (pv 1) (af (pv 5) ai)))))) (eZ (cG (bJ (fP jA hr T.jz T.g9.kp T.jy (af (pv 4) (af (pv 2) (af (pv 6) ai))))))))) (ak (ay gR)) aA)
   (ah (aK (PW.pt (dM (di aZ (aJ cY (fP fN hr T.fL T.dR.kp T.fK (af (pv 0) (af aq ai))) aq) aq) (cU (cG (bJ (Kl (C7.mono (by decide)) (k:=14) (hr.mono (by decide)) rfl T.Cv T.sM.kp T.Cu .nil iz)))))) (ak (ay gR)) aA)
   (ah (aK (PW.pt (gk (cG (bJ (fP jA hr T.jz T.g9.kp T.jy (af (pv 4) (af (pv 2) (af (fS rfl (show bD ["_law_script","_law_told_here","_law_second","_law_one","_law_two","_law_table_here","_law_small"] (av rB) ["_law_row"] 1 [] _ from Hl) (cQ K rfl (pv 5)) (λ_ _ _ _=>(fu 0 IA)) (λ_ _ _ _=>eg) (λ_ _ _ _=>(DF (DK K rfl) (pv 0) GX (GY aq)))) ai)))))) (eZ (cG (bJ (fP jA hr T.jz T.g9.kp T.jy (af (pv 3) (af (pv 1) (af (pv 6) ai))))))))) (ak (ay gR)) aA)
   (ak (ay (tY (yp (Fo K rfl gj) (qY (k:=1) (pv 3) T.aI T.j0 ie (hr.mono (by decide)) T.jZ .nil iz) (pv 1)) (qy (yp (Fo K rfl gj) (qY (k:=1) (pv 4) T.aI T.j0 ie (hr.mono (by decide)) T.jZ .nil iz) (pv 2))))))))))))))),?_⟩
  refine bU λR hR=>?_
  refine⟨_,O,a,_,_,O,hS,by decide,λc0=>⟨c0,O,λt p q f b1 b2 b3 b4 H1 g ht h1 s1=>?_⟩⟩
  refine hR _ _ _ (bU λR hR=>?_)
  refine⟨_,O,a,_,_,O,s1.seq hS,by decide,λc1=>⟨c1,O,λt' p' q' f' d1 d2 d3 d4 H2 g' ht' h2 s2=>?_⟩⟩
  have s12:=s1.trans s2
  have h12:=s2 _ _ h1
  refine hR _ _ _ (bU λR hR=>?_)
  refine⟨_,O,t,p,q,f,b1,b2,b3,b4,O,h12,g,λx dx H3 WZ hx s3=>?_⟩
  refine hR _ _ _ (bU λR hR=>?_)
  refine⟨_,O,t',p',q',f',d1,d2,d3,d4,O,s3 _ _ h2,g',λy dy H4 hy0 hy s4=>?_⟩
  have JN:=s3.trans s4
  have Oo:=s12.trans JN
  have UQ:=JN _ _ h12
  have Z3:=JN _ _ h2
  have Uj:=s4 _ _ hx
  clear h1 h2 h12 hx s1 s2 s3 s12 JN s4
  refine hR _ _ _ (bU λR hR=>?_)
  refine⟨_,O,_,O,a,_,_,O,Oo.seq hS,by decide,λc2=>⟨t,_,_,_,p,q,f,b1,b2,b3,b4,O,UQ,g,by decide,by decide,by decide,by decide,λl xs tb H5 JM hl pr tok Pu s5=>?_⟩⟩
  have Pu:(az tb).length<=21:=by omega
  have s15:=Oo.trans s5
  refine hR _ _ _ (bU λR hR=>?_)
  refine⟨_,O,_,O,a,_,_,O,s15.seq hS,by decide,λc3=>⟨t',_,_,_,p',q',f',d1,d2,d3,d4,O,s5 _ _ Z3,g',by decide,by decide,by decide,by decide,λl' xs' tb' H6 aa9 hl' pr' tok' Z4 s6=>?_⟩⟩
  have Z4:(az tb').length<=7:=by omega
  have Sv:=s5.trans s6
  have Sl:=Oo.trans Sv
  have Z5:=Sv _ _ UQ
  have Z6:=Sv _ _ Z3
  have V0:=Sv _ _ Uj
  have V1:=Sv _ _ hy
  have Rv:=s6 _ _ hl
  have pr6:=aE (λa b h=>bC.mono s6 h) pr
  clear UQ Z3 Uj hy hl pr Oo s5 s6 s15 Sv
  refine hR _ _ _ (bU λR hR=>?_)
  refine⟨_,O,_,O,_,O,x,dx,t,l,xs,tb,p,q,f,b1,b2,b3,b4,O,V0,Z5,g,Rv,pr6,tok,by omega,λH7 s7=>⟨true,O,cJ ?_⟩⟩
  refine⟨_,O,_,O,_,O,y,dy,t',l',xs',tb',p',q',f',d1,d2,d3,d4,O,s7 _ _ V1,s7 _ _ Z6,g',s7 _ _ hl',aE (λa b h=>bC.mono s7 h) pr',tok',by omega,λH8 s8=>⟨true,O,cJ ?_⟩⟩
  have s68:=s7.trans s8
  refine hR _ _ _ (bU λR hR=>?_)
  refine pQ (t:=J6 _ _ _) (λσ G=>aH H8 G/\σ=[some (.ref a),some (.ref t),some (.ref t'),some (.ref x),some (.ref y),some (.ref l),some (.ref l')]) ?_ (λgo=>?_)
  ·rintro σ9 H9 ⟨s9,rfl⟩
   have U0:=s68.trans s9
   have pr9:=aE (λa b h=>bC.mono U0 h) pr6
   have hl9:=U0 _ _ Rv
   have Sj:=pr9.length
   have hn:=tok.n
   refine hR _ _ _ (bU λR hR=>?_)
   refine⟨_,O,_,O,_,O,_,O,⟨_,bw.of hl9⟩,λD hD=>?_⟩
   refine gM (K:=K) (a:=l) (xs:=xs) (λi ys τ G=>(∃v,τ=[v])/\aH H9 G/\G D=some (.lst ys)/\Paired (bI D G) ys ((tb.take i).map (List.take 1))) ⟨⟨_,rfl⟩,au hD,aj,.nil⟩ (λi ys τ G _ p=>⟨bw.of (p.2.1 _ _ hl9),p.2.2.1⟩) ?_ ?_
   ·rintro i e ys τ G hi ⟨⟨v,rfl⟩,sG,hG,hp⟩
    obtain⟨r,Gq,b,rfl,hb⟩:=aW pr9 i e hi
    have hil:i<xs.length:=(abi.mp hi).1
    have hyl:=hp.length
    rw[abg,abM]at hyl
    refine qB ?_
    refine⟨_,O,_,O,_,_,O,bw.of (sG _ _ hb),λu CF=>⟨(au CF _ _ hG),?_,⟨_,O⟩,(aR hD (aR (sG.free CF) sG)),aj,?_⟩⟩
    ·exact abz (show ys.length<=60 by omega) (by decide)
    ·have e:BH (r.map V.str) none (some 1)=(r.take 1).map V.str:=by rw[NW,List.map_take]
     rw[e,aQ Gq,abx]
     exact aE (λa b h=>bI.but h) (cz (aE (λa b h=>bI.mono (au CF) h) hp) ⟨u,rfl,ab9 (aN hG CF),aj⟩)
   ·rintro ys τ G ⟨⟨v,rfl⟩,sG,hG,hp⟩
    rw[Sj,abr (abf _)]at hp
    have MI:=aE (λa b h=>bI.row h) hp
    clear hp
    obtain⟨fk,fl⟩:=IT tok
    have Z7:=U0.trans sG
    refine⟨y,dy,t',D,ys,tb.map (List.take 1),p',q',f',d1,d2,d3,d4,O,Z7 _ _ V1,Z7 _ _ Z6,g',hG,MI,fk,by omega,λR3 M7=>⟨true,O,cJ ?_⟩⟩
    have sA:=Z7.trans M7
    refine⟨_,O,_,O,_,O,x,dx,t,l',xs',tb',p,q,f,b1,b2,b3,b4,O,sA _ _ V0,sA _ _ Z5,g,sA _ _ hl',aE (λa b h=>bC.mono sA h) pr',tok',by omega,λH11 Yo=>⟨true,O,cJ ?_⟩⟩
    have sB:=sA.trans Yo
    refine hR _ _ _ ?_
    refine⟨_,O,x,dx,_,O,sB _ _ V0,O,x,dx,p,q,f,b1,b2,b3,b4,O,sB _ _ V0,λw hw=>?_⟩
    have sC:=au (o:=HO.tup (gb p q f b1 b2 b3 b4)) hw
    refine⟨_,O,w,t,_,_,O,O,bz.of aj,bz.of (sC _ _ (sB _ _ Z5)),O,O,?_⟩
    rw[t8 (xs:=gb p q f b1 b2 b3 b4) rfl]
    have sD:=sB.trans sC
    refine⟨_,O,j9 ?_⟩
    refine⟨_,O,y,dy,_,O,sD _ _ V1,O,y,dy,p',q',f',d1,d2,d3,d4,O,sD _ _ V1,λw2 VY=>?_⟩
    have sE:=au (o:=HO.tup (gb p' q' f' d1 d2 d3 d4)) VY
    refine⟨_,O,w2,t',_,_,O,O,bz.of aj,bz.of (sE _ _ (sD _ _ Z6)),O,O,?_⟩
    rw[t8 (xs:=gb p' q' f' d1 d2 d3 d4) rfl]
    exact k _
  refine⟨_,O,_,_,_,O,(Sl.trans s68).seq hS,(by omega),λc4=>⟨_,_,O,O,(by omega),O,_,O,?_⟩⟩
  refine VI (λhc=>?_) (λhc=>?_)
  ·refine⟨O,λH9 s9=>⟨true,O,cJ (go _ _ ⟨s9,O⟩)⟩⟩
  ·exact cJ (go _ _ ⟨aH.refl _,rfl⟩)
end
end
theorem all_mk{l:W.OpenLaw}{w:World}{K:W.Frag}{h:Heap}{mg:Str->Option Value}{fa pD j8 cT pF tE m7 kG Mw kH kI dG kJ Bw EO pH zy Bx m8 qk vJ pI jq m9 ql qm nc tF vK lK iX iA pJ lM tG By BA zB pK tH qo BB vL tK vM vN vO vP vQ vR tL qp vS tM tN qq pL pM tO tP Mx bL jd dW dH cA iw cB kK C8 GA Mz:Addr}{od2 Z8 Z9 Ow aac RE:Option Addr}{sl2 aad aae:Array (Option Value)}{oc2 kV2 dc2 pm2 V2 ct2 aaf Ox Oz OA MA OB aag RG RH RI OC RJ:Value}{GB:Str}{bX gP:Addr}(X:K.In h)(G:h.Ns mainGlobals mg)(hfa:mg "law"=some (.ref fa))(GC:W.nsIn K mainGlobals "Dialect"=some (some (.ref bL)))(OD:W.nsIn K mainGlobals "Turn"=some (some (.ref jd)))(Jt:W.nsIn K mainGlobals "Marker"=some (some (.ref dW)))(Ju:W.nsIn K mainGlobals "Writer"=some (some (.ref dH)))(je:W.nsIn K mainGlobals "DialectError"=some (some (.ref cA)))(mO:W.nsIn K mainGlobals "NoWriting"=some (some (.ref cB)))(l0:FQ K "is_printable" jK pD)(l1:FQ K "are_unlike_signs" eo j8)(a2:W.findIn K (.ref bL) "__init__"=some (some (.ref cT)))(i2:W.isFn K (.ref cT)=true)(l2:K.lookup cT=FO "__init__" "Dialect.__init__" bG (.ref bX) oc2 od2 kV2 dc2 pm2 Z8 V2 ct2 sl2)(c2:W.codeIn K V2 "Dialect.__init__"=true)(k2:W.keepIn K (.ref cT)=true){Vh:Option Addr}{aah:Nat}{Vi:Array (Option Value)}{Vj Vk:Tok}(d2:K.lookup bX=some ⟨.type "tuple",Vh,.seq #[.str ("":Str) Vj,.str ("":Str) Vk,.bool false,.bool false,.bool false,.bool false] aah,Vi⟩)(l3:FV K bL "told" "Dialect.told" jL pF)(l4:FQ K "dialect_of" lT tE)(l5:FV K jd "__init__" "Turn.__init__" iZ m7)(l6:FV K dW "__init__" "Marker.__init__" gU kG)(l7:FQ K "once" Fw Mw)(l8:FV K bL "special" "Dialect.special" gW kH)(l9:FV K dH "__init__" "Writer.__init__" gX kI)(l10:FE K "__init__" "NoWriting.__init__" fz dG)(l11:FQ K "has_signs_alone" fm kJ)(l12:FQ K "is_cell" ua Bw)(l13:FQ K "is_row" rA EO)(l14:FQ K "signs_in_row" gY pH)(l15:FQ K "is_table" jM zy)(l16:FQ K "is_live" uc Bx)(l17:FQ K "tokens_of_row" gA m8)(l18:FQ K "check_table" kT qk)(l19:FQ K "tokens_of" nL vJ)(l20:FQ K "count_behind" jN pI)(l21:FQ K "step_at_beginning" gh jq)(l22:FQ K "step_in_plain" i0 m9)(l23:FQ K "step_within" kU ql)(l24:FQ K "step_behind" kW qm)(l25:FQ K "step_in_doubt" i7 nc)(l26:FQ K "step_freed" lU tF)(l27:FV K jd "step" "Turn.step" nM vK)(l28:FV K jd "live_step" "Turn.live_step" iE lK)(l29:FV K dW "mark_behind" "Marker.mark_behind" fB iX)(l30:FV K dW "has_read_all" "Marker.has_read_all" e9 iA)(l31:FV K dH "leads" "Writer.leads" fD pJ)(l32:FV K dH "is_good" "Writer.is_good" iF lM)(a33:W.nsIn K mainGlobals "search"=RF tG)(l33:K.lookup tG=FO "search" "search" fE (.ref gP) aaf Z9 Ox Oz OA Ow MA OB aad)(c33:W.codeIn K MA "search"=true)(k33:W.keepIn K (.ref tG)=true){RK:Option Addr}{Vl:Nat}{RL:Array (Option Value)}(d33:K.lookup gP=some ⟨.type "tuple",RK,.seq #[.none] Vl,RL⟩)(l34:FQ K "text_to" ud By)(l35:FQ K "cell_at" uf BA)(l36:FQ K "shortest" lV zB)(l37:FQ K "_law_cell_at" jO pK)(l38:FQ K "_law_mixed" lW tH)(l39:FQ K "_law_number" kX qo)(l40:FQ K "_law_on" ug BB)(l41:FQ K "_law_some" nN vL)(l42:FQ K "_law_menus" lX tK)(l43:FQ K "_law_told" nO vM)(l44:FQ K "_law_made" nP vN)(l45:FQ K "_law_open" nQ vO)(l46:FQ K "_law_step" nR vP)(l47:FQ K "_law_walk" nS vQ)(l48:FQ K "_law_rows" nU vR)(l49:FQ K "_law_table" lY tL)(l50:FQ K "_law_tokens" kY qp)(l51:FQ K "_law_live" nV vS)(l52:FQ K "_law_signs" jv tM)(l53:FQ K "_law_after" lZ tN)(l54:FQ K "_law_search" iM qq)(l55:FQ K "_law_cell_of" jP pL)(l56:FQ K "_law_written" jQ pM)(l57:FQ K "_law_right" jw tO)(l58:FQ K "_law_great" jx tP)(a59:W.nsIn K mainGlobals "law"=RF Mx)(l59:K.lookup Mx=FO "law" "law" rB .none aag aac RG RH RI RE OC RJ aae)(c59:W.codeIn K OC "law"=true)(k59:W.keepIn K (.ref Mx)=true)(GD:W.plainGet K bL Str.empty=true)(GF:W.hasDictIn K bL=true)(GG:W.plainOver K bL=true)(GH:W.findIn K (.ref bL) "__setattr__"=some (some (.builtin "object.__setattr__")))(GI:W.makesIn K bL=true)(GJ:W.keepIn K (.ref bL)=true)(bY:W.findIn K (.ref bL) "parts"=some none)(bZ:W.findIn K (.ref bL) "quotes"=some none)(bQ:W.findIn K (.ref bL) "frees"=some none)(fM:W.findIn K (.ref bL) "twin"=some none)(dS:W.findIn K (.ref bL) "wide"=some none)(dU:W.findIn K (.ref bL) "thin"=some none)(eV:W.findIn K (.ref bL) "stray"=some none)(OE:W.plainGet K jd Str.empty=true)(OG:W.hasDictIn K jd=true)(OH:W.plainOver K jd=true)(OI:W.findIn K (.ref jd) "__setattr__"=some (some (.builtin "object.__setattr__")))(OJ:W.makesIn K jd=true)(OL:W.keepIn K (.ref jd)=true)(bN:W.findIn K (.ref jd) "dialect"=some none)(Jv:W.plainGet K dW Str.empty=true)(Jw:W.hasDictIn K dW=true)(Jx:W.plainOver K dW=true)(Jy:W.findIn K (.ref dW) "__setattr__"=some (some (.builtin "object.__setattr__")))(Jz:W.makesIn K dW=true)(JA:W.keepIn K (.ref dW)=true)(iP:W.findIn K (.ref dW) "turn"=some none)(eX:W.findIn K (.ref dW) "tokens"=some none)(JB:W.plainGet K dH Str.empty=true)(JC:W.hasDictIn K dH=true)(JD:W.plainOver K dH=true)(JE:W.findIn K (.ref dH) "__setattr__"=some (some (.builtin "object.__setattr__")))(JF:W.makesIn K dH=true)(JG:W.keepIn K (.ref dH)=true)(eY:W.findIn K (.ref dH) "marker"=some none)(gB:W.findIn K (.ref dH) "tokens"=some none)(ia:W.findIn K (.ref dH) "usual"=some none){xj xm:Str}{xo uW:List Value}{uX xq:Bool}{xr:List Str}{uY:Option Bool}{xu uZ:Option Addr}{xw xx xy xA xB:Option Value}{u0:Value}{lN:Array DictEntry}{xC:Nat}{u5:Array (Option Value)}(jf:K.lookup cA=some (excClassObj xj xm cA iw xo BV uX xr uW xq uY xu xw xx xy xA xB "ValueError.__new__"))(jg:K.lookup iw=some ⟨u0,uZ,.dict lN xC,u5⟩)(tQ:(lN.toList.all λe=>match e.key with | .str _ _=>true|_=>false)=true)(jh:W.nsIn K iw "__init__"=some none)(xD:W.specialIn K (.ref cA) "__getattribute__"=some (some (.builtin "type.__getattribute__")))(xE:W.readsIn K cA (.type "type")=true)(xF:W.findCls K (.ref cA) (.type "type") "__init__"=some (.val (.builtin "ValueError.__init__"))){C9 Dd:Str}{De Aw:List Value}{Ax Df:Bool}{Dg:List Str}{Ay:Option Bool}{Dh Az:Option Addr}{Di Dj Dk Dm Dn:Option Value}{AA:Value}{qs:Array DictEntry}{Dp:Nat}{AB:Array (Option Value)}(mP:K.lookup cB=some (excClassObj C9 Dd cB kK De (.ref cA::BV) Ax Dg Aw Df Ay Dh Di Dj Dk Dm Dn "ValueError.__new__"))(mQ:K.lookup kK=some ⟨AA,Az,.dict qs Dp,AB⟩)(zC:(qs.toList.all λe=>match e.key with | .str _ _=>true|_=>false)=true)(mR:W.nsIn K kK "__init__"=some (some (.ref dG))){AD:Option Addr}{AE:Data}{AF:Array (Option Value)}(Dq:W.keepIn K (.ref cB)=true)(Dr:K.lookup dG=some ⟨.type "function",AD,AE,AF⟩)(qt:W.findIn K (.ref cB) "__setattr__"=some (some (.builtin "object.__setattr__")))(qu:W.findIn K (.ref cB) "__getattribute__"=some (some (.builtin "BaseException.__getattribute__")))(qv:W.findIn K (.ref cB) "__getattr__"=some none)(qw:W.hasDictIn K cB=true)(u6:W.findIn K (.ref cB) "row"=some none)(tR:W.findIn K (.ref cB) "cell"=some none)(Vm:W.nsIn K mainGlobals "all"=some none)(RM:W.nsIn K mainGlobals "bool"=some none)(ER:W.nsIn K mainGlobals "enumerate"=some none)(Vn:W.nsIn K mainGlobals "int"=some none)(Ds:W.nsIn K mainGlobals "isinstance"=some none)(Vo:W.nsIn K mainGlobals "len"=some none)(RN:W.nsIn K mainGlobals "list"=some none)(Vp:W.nsIn K mainGlobals "max"=some none)(z_ord:W.nsIn K mainGlobals "ord"=some none)(OM:W.nsIn K mainGlobals "range"=some none)(GK:W.nsIn K mainGlobals "reversed"=some none)(Vq:W.nsIn K mainGlobals "str"=some none)(Vr:W.nsIn K mainGlobals "sum"=some none)(ON:W.nsIn K mainGlobals "tuple"=some none){OO:Tok}(RO:W.nsIn K mainGlobals "LINE"=some (some (.str GB OO)))(RP:GB=("\n":Str)){Dt:Tok}(ES:W.nsIn K mainGlobals "MOST_ROWS"=some (some (.int 60 Dt))){AG:Tok}(Du:W.nsIn K mainGlobals "MOST_CELLS"=some (some (.int 20 AG))){mS:Tok}(nC:W.nsIn K mainGlobals "MOST_SIGNS_IN_CELLS"=some (some (.int 400 mS)))(OP:W.nsIn K mainGlobals "START"=some (some (.ref C8))){MB:Option Addr}{OQ:Nat}{MC:Array (Option Value)}{MD ME:Tok}(OR:K.lookup C8=some ⟨.type "tuple",MB,.seq #[.str ("row":Str) MD,.str ("":Str) ME] OQ,MC⟩)(RQ:W.nsIn K mainGlobals "PART"=some (some (.ref GA))){OS:Option Addr}{RS:Nat}{OT:Array (Option Value)}{OU OV:Tok}(RT:K.lookup GA=some ⟨.type "tuple",OS,.seq #[.str ("part":Str) OU,.str ("":Str) OV] RS,OT⟩)(Vs:W.nsIn K mainGlobals "END"=some (some (.ref Mz))){RU:Option Addr}{Vt:Nat}{RV:Array (Option Value)}{RW RX:Tok}(Vu:K.lookup Mz=some ⟨.type "tuple",RU,.seq #[.str ("end":Str) RW,.str ("":Str) RX] Vt,RV⟩):∃fd:FuncData,(∀(s:Shared)(v:Value),BindsTo s fd ⟨[v],[]⟩ [("_law_script",v)])/\∀base:Heap,K.In base->base.Ns mainGlobals mg->br l.prog w K mg base fO 15 fa fd ["_law_script"] (C6 K):=by
 have e:=hfa.symm.trans (W.mg_of X G a59)
 cases e
 have mo:∀{n:Str}{v:Value},W.nsIn K mainGlobals n=some (some v)->mg n=some v:=λe=>W.mg_of X G e
 have mz:∀{n:Str},W.nsIn K mainGlobals n=some none->mg n=none:=λe=>W.mg_none_of X G e
 obtain⟨a0,fd0,F0⟩:=l0
 have b0:=F0.ng (ps:=["sign"])
 obtain⟨a1,fd1,F1⟩:=l1
 have b1:=F1.pU (ps:=["thing","least","most"])
 have F2:=G8 (st:=bG) l2 c2 k2
 have b2:Binds K (W.fnOf "__init__" "Dialect.__init__" (dh bG) (cE bG) (av bG) (.ref bX) kV2 dc2 pm2 Z8 V2 ct2) ["self","parts","quotes","frees","twin","wide","thin","stray"] []:=λs us hK hl=>match us,hl with |[_,_,_,_,_,_,_,_],_=>BindsTo.of_defaults (T:=bX) rfl (hK _ _ d2) rfl rfl rfl
 obtain⟨a3,i3,fd3,F3⟩:=l3
 have b3:=F3.ng (ps:=["self"])
 obtain⟨a4,fd4,F4⟩:=l4
 have b4:=F4.ng (ps:=["told"])
 obtain⟨a5,i5,fd5,F5⟩:=l5
 have b5:=F5.lD (ps:=["self","dialect"])
 obtain⟨a6,i6,fd6,F6⟩:=l6
 have b6:=F6.pU (ps:=["self","dialect","tokens"])
 obtain⟨a7,fd7,F7⟩:=l7
 have b7:=F7.ng (ps:=["text"])
 obtain⟨a8,i8,fd8,F8⟩:=l8
 have b8:=F8.ng (ps:=["self"])
 obtain⟨a9,i9,fd9,F9⟩:=l9
 have b9:=F9.pU (ps:=["self","dialect","tokens"])
 obtain⟨aai,F10⟩:=l10
 have b10:=F10.pU (ps:=["self","row","cell"])
 obtain⟨Rm,aaj,F11⟩:=l11
 have QZ:=F11.ng (ps:=["text"])
 obtain⟨a12,aak,F12⟩:=l12
 have Yp:=F12.ng (ps:=["thing"])
 obtain⟨a13,aal,F13⟩:=l13
 have b13:=F13.ng (ps:=["thing"])
 obtain⟨N8,aam,F14⟩:=l14
 have b14:=F14.ng (ps:=["row"])
 obtain⟨Yq,aan,F15⟩:=l15
 have Y6:=F15.ng (ps:=["thing"])
 obtain⟨ZH,aao,F16⟩:=l16
 have b16:=F16.lD (ps:=["dialect","state"])
 obtain⟨a17,aap,F17⟩:=l17
 have b17:=F17.ng (ps:=["row"])
 obtain⟨UW,aaq,F18⟩:=l18
 have Oc:=F18.ng (ps:=["thing"])
 obtain⟨a19,aar,F19⟩:=l19
 have b19:=F19.ng (ps:=["table"])
 obtain⟨a20,aas,F20⟩:=l20
 have b20:=F20.QB (ps:=["tokens","count","kind","sign"])
 obtain⟨Od,aat,F21⟩:=l21
 have b21:=F21.pU (ps:=["dialect","state","sign"])
 obtain⟨Y7,aau,F22⟩:=l22
 have YA:=F22.lD (ps:=["dialect","sign"])
 obtain⟨a23,aav,F23⟩:=l23
 have b23:=F23.pU (ps:=["dialect","quote","sign"])
 obtain⟨Oi,aaw,F24⟩:=l24
 have b24:=F24.lD (ps:=["dialect","sign"])
 obtain⟨YB,aax,F25⟩:=l25
 have b25:=F25.pU (ps:=["dialect","quote","sign"])
 obtain⟨X3,aay,F26⟩:=l26
 have b26:=F26.pU (ps:=["dialect","quote","sign"])
 obtain⟨a27,i27,aaz,F27⟩:=l27
 have b27:=F27.pU (ps:=["self","state","sign"])
 obtain⟨UX,i28,aaA,F28⟩:=l28
 have Ur:=F28.pU (ps:=["self","state","sign"])
 obtain⟨UD,i29,aaB,F29⟩:=l29
 have b29:=F29.pU (ps:=["self","mark","sign"])
 obtain⟨a30,i30,aaC,F30⟩:=l30
 have b30:=F30.lD (ps:=["self","mark"])
 obtain⟨Us,i31,aaD,F31⟩:=l31
 have b31:=F31.lD (ps:=["self","place"])
 obtain⟨a32,i32,aaE,F32⟩:=l32
 have UY:=F32.lD (ps:=["self","place"])
 have F33:=G8 (st:=fE) l33 c33 k33
 have b33:Binds K (W.fnOf "search" "search" (dh fE) (cE fE) (av fE) (.ref gP) Ox Oz OA Ow MA OB) ["first","searched","most"] []:=λs us hK hl=>match us,hl with |[_,_,_],_=>BindsTo.of_defaults (T:=gP) rfl (hK _ _ d33) rfl rfl rfl
 obtain⟨Xx,aaF,F34⟩:=l34
 have b34:=F34.lD (ps:=["came","place"])
 obtain⟨UZ,aaG,F35⟩:=l35
 have b35:=F35.lD (ps:=["tokens","count"])
 obtain⟨XS,aaH,F36⟩:=l36
 have b36:=F36.lD (ps:=["dialect","table"])
 obtain⟨a37,aaI,F37⟩:=l37
 have b37:=F37.lD (ps:=["_law_script","_law_k"])
 obtain⟨YK,aaJ,F38⟩:=l38
 have Xy:=F38.lD (ps:=["_law_number_here","_law_salt"])
 obtain⟨XT,aaK,F39⟩:=l39
 have b39:=F39.lD (ps:=["_law_cell","_law_salt"])
 obtain⟨Y8,aaL,F40⟩:=l40
 have b40:=F40.pU (ps:=["_law_number_here","_law_cell","_law_k"])
 obtain⟨Xz,aaM,F41⟩:=l41
 have b41:=F41.pU (ps:=["_law_number_here","_law_many","_law_menu"])
 obtain⟨a42,aaN,F42⟩:=l42
 have YN:=F42.ng (ps:=["_law_way"])
 obtain⟨a43,aaO,F43⟩:=l43
 have b43:=F43.ng (ps:=["_law_cell"])
 obtain⟨a44,aaP,F44⟩:=l44
 have Y9:=F44.ng (ps:=["_law_told_here"])
 obtain⟨YQ,aaQ,F45⟩:=l45
 have b45:=F45.pU (ps:=["_law_told_here","_law_state","_law_sign"])
 obtain⟨XE,aaR,F46⟩:=l46
 have Za:=F46.pU (ps:=["_law_told_here","_law_state","_law_sign"])
 obtain⟨a47,aaS,F47⟩:=l47
 have b47:=F47.lD (ps:=["_law_told_here","_law_text"])
 obtain⟨a48,aaT,F48⟩:=l48
 have b48:=F48.lD (ps:=["_law_text","_law_kinds"])
 obtain⟨Uw,aaU,F49⟩:=l49
 have YR:=F49.QB (ps:=["_law_told_here","_law_cell","_law_salt","_law_most"])
 obtain⟨a50,aaV,F50⟩:=l50
 have b50:=F50.ng (ps:=["_law_table_here"])
 obtain⟨a51,aaW,F51⟩:=l51
 have b51:=F51.lD (ps:=["_law_told_here","_law_spot"])
 obtain⟨YS,aaX,F52⟩:=l52
 have b52:=F52.lD (ps:=["_law_told_here","_law_table_here"])
 obtain⟨a53,aaY,F53⟩:=l53
 have b53:=F53.QB (ps:=["_law_told_here","_law_place","_law_sign","_law_tokens_here"])
 obtain⟨Zb,aaZ,F54⟩:=l54
 have b54:=F54.lD (ps:=["_law_told_here","_law_table_here"])
 obtain⟨a55,aa0,F55⟩:=l55
 have b55:=F55.lD (ps:=["_law_table_here","_law_many"])
 obtain⟨a56,aa1,F56⟩:=l56
 have b56:=F56.lD (ps:=["_law_made_here","_law_table_here"])
 obtain⟨YT,aa2,F57⟩:=l57
 have b57:=F57.pU (ps:=["_law_made_here","_law_told_here","_law_table_here"])
 obtain⟨Zc,aa3,F58⟩:=l58
 have b58:=F58.binds (ps:=[]) λ_ _ _ _ _ _ us hl=>match us,hl with |[],_=>rfl
 have F59:=Kv (st:=rB) l59 c59 k59
 have b59:=F59.ng (ps:=["_law_script"])
 have bf0:∃ds,Vals [V.non] ds/\Binds K (W.fnOf "search" "search" (dh fE) (cE fE) (av fE) (.ref gP) Ox Oz OA Ow MA OB) ["first","searched","most"] ds:=⟨[.none],(.cons rfl .nil),λs us hK hl=>by
  have hn:us.length=2:=by rw[abj]at hl;simp only[abG,acn]at hl;omega
  exact match us,hn with |[_,_],_=>BindsTo.of_defaults (T:=gP) rfl (hK _ _ d33) rfl rfl rfl⟩
 exact⟨W.fnOf "law" "law" (dh rB) (cE rB) (av rB) .none RG RH RI RE OC RJ,λs v=>.of_eq rfl,λbase _ _=>RD (aC:=λi=>[pD,j8,cT,pF,tE,m7,kG,Mw,kH,kI,dG,kJ,Bw,EO,pH,zy,Bx,m8,qk,vJ,pI,jq,m9,ql,qm,nc,tF,vK,lK,iX,iA,pJ,lM,tG,By,BA,zB,pK,tH,qo,BB,vL,tK,vM,vN,vO,vP,vQ,vR,tL,qp,vS,tM,tN,qq,pL,pM,tO,tP,fa,bL,jd,dW,dH,cA,iw,cB,kK,C8,GA,Mz,bX,gP].getD i fa) (aL:=λi=>[fd0,fd1,FN "__init__" "Dialect.__init__" bG (.ref bX) kV2 dc2 pm2 Z8 V2 ct2,fd3,fd4,fd5,fd6,fd7,fd8,fd9,aai,aaj,aak,aal,aam,aan,aao,aap,aaq,aar,aas,aat,aau,aav,aaw,aax,aay,aaz,aaA,aaB,aaC,aaD,aaE,FN "search" "search" fE (.ref gP) Ox Oz OA Ow MA OB,aaF,aaG,aaH,aaI,aaJ,aaK,aaL,aaM,aaN,aaO,aaP,aaQ,aaR,aaS,aaT,aaU,aaV,aaW,aaX,aaY,aaZ,aa0,aa1,aa2,aa3,FN "law" "law" rB .none RG RH RI RE OC RJ].getD i (fd0)) (cV:=λi=>[GB].getD i "") ⟨F0,b0,mo a0,F1,b1,mo a1,F2,b2,F3,b3,⟨a3,i3,F3.kp⟩,F4,b4,mo a4,F5,b5,F6,b6,F7,b7,mo a7,F8,b8,⟨a8,i8,F8.kp⟩,F9,b9,F10,b10,F11,QZ,mo Rm,F12,Yp,mo a12,F13,b13,mo a13,F14,b14,mo N8,F15,Y6,mo Yq,F16,b16,mo ZH,F17,b17,mo a17,F18,Oc,mo UW,F19,b19,mo a19,F20,b20,mo a20,F21,b21,mo Od,F22,YA,mo Y7,F23,b23,mo a23,F24,b24,mo Oi,F25,b25,mo YB,F26,b26,mo X3,F27,b27,⟨a27,i27,F27.kp⟩,F28,Ur,⟨UX,i28,F28.kp⟩,F29,b29,⟨UD,i29,F29.kp⟩,F30,b30,⟨a30,i30,F30.kp⟩,F31,b31,⟨Us,i31,F31.kp⟩,F32,UY,⟨a32,i32,F32.kp⟩,F33,b33,mo a33,F34,b34,mo Xx,F35,b35,mo UZ,F36,b36,mo XS,F37,b37,mo a37,F38,Xy,mo YK,F39,b39,mo XT,F40,b40,mo Y8,F41,b41,mo Xz,F42,YN,mo a42,F43,b43,mo a43,F44,Y9,mo a44,F45,b45,mo YQ,F46,Za,mo XE,F47,b47,mo a47,F48,b48,mo a48,F49,YR,mo Uw,F50,b50,mo a50,F51,b51,mo a51,F52,b52,mo YS,F53,b53,mo a53,F54,b54,mo Zb,F55,b55,mo a55,F56,b56,mo a56,F57,b57,mo YT,F58,b58,mo Zc,F59,b59,mo a59,⟨GD,GF,GG,GH⟩,mo GC,⟨GI,a2,i2,GJ⟩,bY,bZ,bQ,fM,dS,dU,eV,⟨OE,OG,OH,OI⟩,mo OD,⟨OJ,a5,i5,OL⟩,bN,⟨Jv,Jw,Jx,Jy⟩,mo Jt,⟨Jz,a6,i6,JA⟩,iP,eX,⟨JB,JC,JD,JE⟩,mo Ju,⟨JF,a9,i9,JG⟩,eY,gB,ia,bf0,mo je,⟨⟨_,_,_,_,_,_,_,_,_,_,_,_,_,_,jf⟩,⟨_,_,_,_,_,jg,tQ⟩,jh⟩,⟨xD,xE,xF⟩,mo mO,⟨⟨_,_,_,_,_,_,_,_,_,_,_,_,_,_,mP⟩,⟨_,_,_,_,_,mQ,zC⟩,mR⟩,Dq,⟨_,Dr,rfl⟩,⟨u6,qt,qu,qv,qw⟩,⟨tR,qt,qu,qv,qw⟩,mz Vm,mz RM,mz ER,mz Vn,mz Ds,mz Vo,mz RN,mz Vp,mz z_ord,mz OM,mz GK,mz Vq,mz Vr,mz ON,⟨_,mo RO⟩,RP,⟨_,mo ES⟩,⟨_,mo Du⟩,⟨_,mo nC⟩,mo OP,⟨_,_,_,OR,rfl,rfl,(by show 2<=sizeLine;decide),(.cons ⟨_,rfl⟩ (.cons ⟨_,rfl⟩ .nil))⟩,mo RQ,⟨_,_,_,RT,rfl,rfl,(by show 2<=sizeLine;decide),(.cons ⟨_,rfl⟩ (.cons ⟨_,rfl⟩ .nil))⟩,mo Vs,⟨_,_,_,Vu,rfl,rfl,(by show 2<=sizeLine;decide),(.cons ⟨_,rfl⟩ (.cons ⟨_,rfl⟩ .nil))⟩⟩⟩
theorem walk{l:W.OpenLaw}{q:Program}{loose:List Str}{XP:(Str->Option Value)->Heap->Prop}{YP:World->Heap->Prop}{d:DefRec}{K:Params->W.Frag}(hn:l.most=some 63)(hdf:d.params.defaults=[])(hY:∀(w:World)(h:Heap),YP w h->(K w.params).In h)(F:∀(w:World)(mg:Str->Option Value)(fa:Addr)(h:Heap),(K w.params).In h->h.Ns mainGlobals mg->mg d.name=some (.ref fa)->∃fd:FuncData,(∀(s:Shared)(u:Value),BindsTo s fd ⟨[u],[]⟩ [("_law_script",u)])/\∀base:Heap,(K w.params).In base->base.Ns mainGlobals mg->br l.prog w (K w.params) mg base fO 15 fa fd ["_law_script"] (C6 (K w.params))):W.WalkO q loose XP YP l.row.toRowW d [] (λf vs=>PySem.call f vs) :=
 L2.M3 (n:=63) (k:=15) (x:="_law_script") (CX:=λ_=>fO) (sp:=λw=>C6 (K w.params)) hn (by decide) hdf ⟨rfl,by decide,by decide⟩ hY F (λ_ _ a ns hl _ hS=>⟨a,ns,rfl,hS,hl,λ_=>rfl⟩) λ_ _ _ _ _ z=>z
end My
def PySem.W.Fast.tw16624395493738778342:Unit:=()
def PySem.W.Fast.tw16257727836653960138:Unit:=()
def PySem.W.Fast.tw10697085217677675445:Unit:=()
def PySem.W.Fast.tw16573135478263808737:Unit:=()
def PySem.W.Fast.tw17636636997304814014:Unit:=()
def PySem.W.Fast.tw4225612066857891505:Unit:=()
def PySem.W.Fast.tw11791465060487608044:Unit:=()
def PySem.W.Fast.tw7574805022938320696:Unit:=()
def PySem.W.Fast.tw9604402879698756779:Unit:=()
def PySem.W.Fast.tw8565204434413018551:Unit:=()
def PySem.W.Fast.tw5176043101650383960:Unit:=()
def PySem.W.Fast.tw9593094147631465081:Unit:=()
def PySem.W.Fast.tw14610710570951830494:Unit:=()
def PySem.W.Fast.tw13636567538093706610:Unit:=()
def PySem.W.Fast.tw6018281071668679398:Unit:=()
def PySem.W.Fast.tw13128562429700159648:Unit:=()
def PySem.W.Fast.tw9562577448014321771:Unit:=()
def PySem.W.Fast.tw106914253522956366:Unit:=()
def PySem.W.Fast.tw2914533630066877673:Unit:=()
def PySem.W.Fast.tw10294364042811550014:Unit:=()
def PySem.W.Fast.tw2785449286708471949:Unit:=()
def PySem.W.Fast.tw13384962442608161259:Unit:=()
def PySem.W.Fast.tw770605655432548885:Unit:=()
def PySem.W.Fast.tw18129405005137553465:Unit:=()
def PySem.W.Fast.tw16090031995393907022:Unit:=()
def PySem.W.Fast.tw14153420324270187850:Unit:=()
def PySem.W.Fast.tw17619597978419949218:Unit:=()
def PySem.W.Fast.tw4220512413327372063:Unit:=()
def PySem.W.Fast.tw16718816785450505551:Unit:=()
def PySem.W.Fast.tw15722435216637020133:Unit:=()
def PySem.W.Fast.tw6734744962776948119:Unit:=()
def PySem.W.Fast.tw486938173270767651:Unit:=()
def PySem.W.Fast.tw16241749736168650187:Unit:=()
def PySem.W.Fast.tw146683122230773994:Unit:=()
def PySem.W.Fast.tw13192645727060891856:Unit:=()
def PySem.W.Fast.tw5474052500035725811:Unit:=()
def PySem.W.Fast.tw14994687817635007175:Unit:=()
def PySem.W.Fast.tw4187456749294995631:Unit:=()
def PySem.W.Fast.tw2391503654676869836:Unit:=()
def PySem.W.Fast.tw2861828765275095594:Unit:=()
def PySem.W.Fast.tw823062947619355567:Unit:=()
def PySem.W.Fast.tw1376470474489544374:Unit:=()
def PySem.W.Fast.tw18303416043532789877:Unit:=()
def PySem.W.Fast.tw16673508780524285320:Unit:=()
def PySem.W.Fast.tw14925394591752468759:Unit:=()
def PySem.W.Fast.tw18259659905932544466:Unit:=()
def PySem.W.Fast.tw5377885206411342784:Unit:=()
def PySem.W.Fast.tw1084733581501333343:Unit:=()
def PySem.W.Fast.tw16158877197513086964:Unit:=()
def PySem.W.Fast.tw10325963041861710969:Unit:=()
def PySem.W.Fast.tw12644489811940544806:Unit:=()
def PySem.W.Fast.tw6055580444611855707:Unit:=()
def PySem.W.Fast.tw5950202021053984749:Unit:=()
def PySem.W.Fast.tw5725570771036301386:Unit:=()
def PySem.W.Fast.tw13291840183797475788:Unit:=()
def PySem.W.Fast.tw1334264377869826575:Unit:=()
def PySem.W.Fast.tw13903020022876559159:Unit:=()
def PySem.W.Fast.tw16140206311971800556:Unit:=()
def PySem.W.Fast.tw13949566053372133620:Unit:=()
def PySem.W.Fast.tw17249689575728857126:Unit:=()
def PySem.W.Fast.tw18301341264848726294:Unit:=()
def PySem.W.Fast.tw5824677609492444590:Unit:=()
def PySem.W.Fast.tw16382301537257435984:Unit:=()
def PySem.W.Fast.tw696337140490408300:Unit:=()
def PySem.W.Fast.tw12105277509337056274:Unit:=()
def PySem.W.Fast.tw2474267152643851335:Unit:=()
def PySem.W.Fast.tw17617781416044426019:Unit:=()
def PySem.W.Fast.tw12958324721115526484:Unit:=()
def PySem.W.Fast.tw3959142350610974297:Unit:=()
def PySem.W.Fast.tw457638277529339701:Unit:=()
def PySem.W.Fast.tw1720491832360743588:Unit:=()
def PySem.W.Fast.tw11602008283085893930:Unit:=()
def PySem.W.Fast.tw3917537308730139590:Unit:=()
def PySem.W.Fast.tw7826658549904043609:Unit:=()
def PySem.W.Fast.tw17647595877671939638:Unit:=()
def PySem.W.Fast.tw18398095337379376511:Unit:=()
def PySem.W.Fast.tw9059218816786721357:Unit:=()
def PySem.W.Fast.tw10734373923100962198:Unit:=()
def PySem.W.Fast.tw10843848821776318436:Unit:=()
def PySem.W.Fast.tw11471293249854027471:Unit:=()
def PySem.W.Fast.tw1236968910123458821:Unit:=()
def PySem.W.Fast.tw16760801974890782640:Unit:=()
def PySem.W.Fast.tw9711518966923272275:Unit:=()
def PySem.W.Fast.tw14249288968537786473:Unit:=()
def PySem.W.Fast.tw3217346984718956322:Unit:=()
def PySem.W.Fast.tw6999270039719220275:Unit:=()
def PySem.W.Fast.tw6727172666099604180:Unit:=()
def PySem.W.Fast.tw1704184224361677116:Unit:=()
def PySem.W.Fast.tw13542185210634467400:Unit:=()
def PySem.W.Fast.tw884647926289097529:Unit:=()
def PySem.W.Fast.tw11524386790855663338:Unit:=()
def PySem.W.Fast.tw15806152206645153656:Unit:=()
def PySem.W.Fast.tw8971012003028980020:Unit:=()
def PySem.W.Fast.tw11983923387117045324:Unit:=()
def PySem.W.Fast.tw6564086955523917465:Unit:=()
def PySem.W.Fast.tw18381414097354702335:Unit:=()
def PySem.W.Fast.tw15508766319252731545:Unit:=()
def PySem.W.Fast.tw17629742703733887083:Unit:=()
def PySem.W.Fast.tw1466128598722171310:Unit:=()
def PySem.W.Fast.tw17242697803704039614:Unit:=()
def PySem.W.Fast.tw13538820816859981617:Unit:=()
def PySem.W.Fast.tw5421195977351098677:Unit:=()
def PySem.W.Fast.tw13466232885153936224:Unit:=()
def PySem.W.Fast.tw11047797052509812198:Unit:=()
def PySem.W.Fast.tw10637711799049868808:Unit:=()
def PySem.W.Fast.tw10867646541394717037:Unit:=()
def PySem.W.Fast.tw12351138549541567966:Unit:=()
def PySem.W.Fast.tw369847347720029700:Unit:=()
def PySem.W.Fast.tw17645473643728847984:Unit:=()
def PySem.W.Fast.tw608730908230452280:Unit:=()
def PySem.W.Fast.tw18020710511516881219:Unit:=()
def PySem.W.Fast.tw4486840938413424236:Unit:=()
def PySem.W.Fast.tw2407588719253676955:Unit:=()
def PySem.W.Fast.tw3971439831473450790:Unit:=()
def PySem.W.Fast.tw17187410944583897190:Unit:=()
def PySem.W.Fast.tw5066960961935509098:Unit:=()
def PySem.W.Fast.tw833094538018888627:Unit:=()
def PySem.W.Fast.tw6650795292356848305:Unit:=()
def PySem.W.Fast.tw9117339779340864677:Unit:=()
def PySem.W.Fast.tw9615136197943726360:Unit:=()
def PySem.W.Fast.tw7712769027199492325:Unit:=()
def PySem.W.Fast.tw5917218603388956811:Unit:=()
def PySem.W.Fast.tw12711254066334873030:Unit:=()
def PySem.W.Fast.tw5522500259327737123:Unit:=()
open PySem PySem.W PyProof.Rows
set_option maxRecDepth 100000 in
set_option maxHeartbeats 0 in
theorem PySem.Challenge.cw_dialecthall_k43_written_and_read_holds : PySem.Challenge.rw_dialecthall_k43_written_and_read.Holds := by
 w_on;o_law;k_head;(case hw=>w_witness2)
 k_fill
 refine My.walk (l:=PySem.Challenge.rw_dialecthall_k43_written_and_read) rfl rfl (fun w h Y=>W.kIn_of Y) ?F
 case F =>
  intro w mg fa h KX G hmg
  refine' My.all_mk KX G hmg ?_ ?_ ?_ ?_ ?je ?mO ?_ ?_ ?_ ?_ ?_ ?_ ?_ ?_ ?_ ?_ ?_ ?_ ?_ ?_ ?_ ?_ ?_ ?_ ?_ ?_ ?_ ?_ ?_ ?_ ?_ ?_ ?_ ?_ ?_ ?_ ?_ ?_ ?_ ?_ ?_ ?_ ?_ ?_ ?_ ?_ ?_ ?_ ?_ ?_ ?_ ?_ ?_ ?_ ?_ ?_ ?_ ?_ ?_ ?_ ?_ ?_ ?_ ?_ ?_ ?_ ?_ ?_ ?_ ?_ ?_ ?_ ?_ ?_ ?_ ?_ ?_ ?_ ?_ ?_ ?_ ?_ ?_ ?_ ?_ ?_ ?_ ?_ ?_ ?_ ?_ ?_ ?_ ?_ ?_ ?_ ?_ ?_ ?_ ?_ ?_ ?_ ?_ ?_ ?_ ?_ ?_ ?_ ?_ ?_ ?_ ?_ ?_ ?_ ?_ ?jf ?jg ?_ ?jh ?_ ?_ ?_ ?mP ?mQ ?_ ?mR ?_ ?_ ?_ ?_ ?_ ?_ ?_ ?_ ?_ ?_ ?_ ?_ ?_ ?_ ?_ ?_ ?_ ?_ ?_ ?_ ?_ ?_ ?_ ?_ ?_ ?_ ?_ ?_ ?_ ?_ ?_ ?_ ?_
  (case je=>k_is)
  (case mO=>k_is)
  (case jf=>k_is)
  (case jg=>k_is)
  (case jh=>k_is)
  (case mP=>k_is)
  (case mQ=>k_is)
  (case mR=>k_is)
  all_goals try first | (refine' L2.FQ.of ?a ?l ?c ?k;(case a=>k_is);(case l=>k_is);(case c=>k_is);(case k=>k_is)) | (refine' L2.FV.of ?a ?i ?l ?c ?k;(case a=>k_is);(case i=>k_is);(case l=>k_is);(case c=>k_is);(case k=>k_is)) | (refine' L2.FE.of ?l ?c ?k;(case l=>k_is);(case c=>k_is);(case k=>k_is)) | k_is | rfl
