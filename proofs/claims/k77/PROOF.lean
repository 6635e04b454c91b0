import PyProof.Rows.All
import Wide.All
import OpenK.AllK
import Wide.FinOn
import Lean
import PyProof.EqAt
import PyProof.EqKinds
import PyProof.TupleCall
import PyProof.JoinWalk
import PyProof.DictIter
import PyProof.SeqI3
import PyProof.WalkInts
import PyProof.DictTruth
import PyProof.ListRange
import PyProof.DictWalks
import PyProof.DictRoadsH
import PySem.Challenge.RW_dialecthall_k77_whole_as_short_as_writte
set_option Elab.async false
set_option linter.all false
set_option maxRecDepth 100000
set_option hygiene false
local macro_rules
|`('a')=>`((λcdv A outer s H vs Q E hr h=>?_))
|`('b')=>`((by decide +kernel))
|`('c')=>`((by decide))
|`('d')=>`(("":Str))
|`('e')=>`((λvs H Q E h=>?_))
|`('f')=>`((by omega))
|`('g')=>`(model X.prog X.w)
|`('h')=>`(aQ K rfl (pv 0) rfl)
theorem ad4:type_of% @PySem.wpAny_bind:=@PySem.wpAny_bind
theorem ad5:type_of% @if_neg:=@if_neg
theorem ad6:type_of% @Nat.le_refl:=@Nat.le_refl
theorem ad7:type_of% @List.mem_singleton:=@List.mem_singleton
theorem ad8:type_of% @List.getElem?_eq_some_iff:=@List.getElem?_eq_some_iff
theorem ad9:type_of% @PySem.Heap.get?_push_of_some:=@PySem.Heap.get?_push_of_some
theorem aea:type_of% @PySem.wpAny_pure:=@PySem.wpAny_pure
theorem aeb:type_of% @decide_eq_true:=@decide_eq_true
theorem aec:type_of% @List.length_map:=@List.length_map
theorem aed:type_of% @List.size_toArray:=@List.size_toArray
theorem aee:type_of% @if_pos:=@if_pos
theorem aef:type_of% @List.length_append:=@List.length_append
theorem aeg:type_of% @decide_eq_false:=@decide_eq_false
theorem aeh:type_of% @List.mem_cons:=@List.mem_cons
theorem aei:type_of% @PySem.Heap.lt_size:=@PySem.Heap.lt_size
theorem aej:type_of% @List.mem_append:=@List.mem_append
theorem aek:type_of% @List.take_of_length_le:=@List.take_of_length_le
theorem ael:type_of% @PySem.Heap.get?_push_size:=@PySem.Heap.get?_push_size
theorem aem:type_of% @Nat.lt_of_le_of_lt:=@Nat.lt_of_le_of_lt
theorem aen:type_of% @List.mem_of_getElem?:=@List.mem_of_getElem?
theorem aeo:type_of% @List.map_append:=@List.map_append
theorem aep:type_of% @Nat.le_trans:=@Nat.le_trans
theorem aeq:type_of% @Array.length_toList:=@Array.length_toList
theorem aer:type_of% @List.mem_cons_of_mem:=@List.mem_cons_of_mem
theorem aes:type_of% @Option.some.inj:=@Option.some.inj
theorem aeu:type_of% @Nat.lt_of_lt_of_le:=@Nat.lt_of_lt_of_le
theorem aev:type_of% @Bool.false_ne_true:=@Bool.false_ne_true
theorem aew:type_of% @List.mem_cons_self:=@List.mem_cons_self
theorem aex:type_of% @List.length_cons:=@List.length_cons
theorem aey:type_of% @List.length_take:=@List.length_take
theorem aez:type_of% @of_decide_eq_true:=@of_decide_eq_true
theorem aeA:type_of% @Nat.zero_le:=@Nat.zero_le
theorem aeB:type_of% @List.getElem?_eq_getElem:=@List.getElem?_eq_getElem
theorem aeC:type_of% @List.append_assoc:=@List.append_assoc
theorem aeD:type_of% @List.append_nil:=@List.append_nil
theorem aeE:type_of% @PySem.F.plainAttrs_list:=@PySem.F.plainAttrs_list
theorem aeF:type_of% @PySem.PassesOwn.never:=@PySem.PassesOwn.never
theorem aeG:type_of% @PySem.Heap.get?_update_other:=@PySem.Heap.get?_update_other
theorem aeH:type_of% @Nat.ne_of_lt:=@Nat.ne_of_lt
theorem aeI:type_of% @List.mem_append_right:=@List.mem_append_right
theorem aeJ:type_of% @List.map_cons:=@List.map_cons
theorem aeK:type_of% @PySem.wpAny_field:=@PySem.wpAny_field
theorem aeL:type_of% @PySem.F.slot_list_append:=@PySem.F.slot_list_append
theorem aeM:type_of% @PySem.F.type_list_append:=@PySem.F.type_list_append
theorem aeN:type_of% @List.foldl_append:=@List.foldl_append
theorem aeO:type_of% @decide_eq_true_iff:=@decide_eq_true_iff
theorem aeP:type_of% @List.all_eq_true:=@List.all_eq_true
theorem aeQ:type_of% @List.mem_nil_iff:=@List.mem_nil_iff
theorem aeR:type_of% @List.mem_map:=@List.mem_map
theorem aeS:type_of% @Bool.eq_iff_iff:=@Bool.eq_iff_iff
theorem aeT:type_of% @PySem.Obj.data_mapFields:=@PySem.Obj.data_mapFields
theorem aeU:type_of% @PySem.wpAny_callSpecial?_slot:=@PySem.wpAny_callSpecial?_slot
theorem aeV:type_of% @List.foldl_cons:=@List.foldl_cons
theorem aeW:type_of% @PySem.wpAny_seqItems:=@PySem.wpAny_seqItems
theorem aeX:type_of% @List.mem_append_left:=@List.mem_append_left
theorem aeY:type_of% @PySem.wpAny_setField_rec:=@PySem.wpAny_setField_rec
theorem aeZ:type_of% @PySem.Heap.get?_update_self:=@PySem.Heap.get?_update_self
theorem ae0:type_of% @PySem.wpAny_newObj_type:=@PySem.wpAny_newObj_type
theorem ae1:type_of% @Bool.false_eq_true:=@Bool.false_eq_true
theorem ae2:type_of% @Int.emod_lt_of_pos:=@Int.emod_lt_of_pos
theorem ae3:type_of% @PySem.Heap.size_push:=@PySem.Heap.size_push
theorem ae4:type_of% @List.find?_cons:=@List.find?_cons
theorem ae5:type_of% @List.sum_cons:=@List.sum_cons
theorem ae6:type_of% @PySem.wpAny_call_entry:=@PySem.wpAny_call_entry
theorem ae7:type_of% @Bool.and_eq_true:=@Bool.and_eq_true
theorem ae8:type_of% @PySem.wpAny_mono:=@PySem.wpAny_mono
theorem ae9:type_of% @List.length_replicate:=@List.length_replicate
theorem afa:type_of% @Ne.symm:=@Ne.symm
theorem afb:type_of% @Array.getElem?_eq_some_iff:=@Array.getElem?_eq_some_iff
theorem afc:type_of% @PySem.mem_of_lookup:=@PySem.mem_of_lookup
theorem afd:type_of% @PySem.F.slot_dict_keyiterator_next:=@PySem.F.slot_dict_keyiterator_next
theorem afe:type_of% @List.getElem?_eq_none:=@List.getElem?_eq_none
theorem afg:type_of% @PySem.Obj.isFreed_of_fields:=@PySem.Obj.isFreed_of_fields
theorem afh:type_of% @Int.emod_nonneg:=@Int.emod_nonneg
theorem afi:type_of% @PyProof.Rows.callWith_type1:=@PyProof.Rows.callWith_type1
theorem afj:type_of% @List.mem_filterMap:=@List.mem_filterMap
theorem afk:type_of% @or_false:=@or_false
theorem afl:type_of% @List.mem_flatMap:=@List.mem_flatMap
theorem afm:type_of% @PySem.Paired.length:=@PySem.Paired.length
theorem afn:type_of% @List.getD_eq_getElem?_getD:=@List.getD_eq_getElem?_getD
theorem afo:type_of% @PySem.F.plainAttrs_str:=@PySem.F.plainAttrs_str
theorem afp:type_of% @List.length_nil:=@List.length_nil
theorem afq:type_of% @Nat.le_add_right:=@Nat.le_add_right
theorem afr:type_of% @List.find?_eq_none:=@List.find?_eq_none
theorem afs:type_of% @PySem.wpAny_truthy_bool:=@PySem.wpAny_truthy_bool
theorem aft:type_of% @List.getElem?_map:=@List.getElem?_map
theorem afu:type_of% @PySem.W.kia_one:=@PySem.W.kia_one
theorem afv:type_of% @PySem.wpAny_specialOf:=@PySem.wpAny_specialOf
theorem afw:type_of% @List.nil_append:=@List.nil_append
theorem afx:type_of% @List.filterMap_cons:=@List.filterMap_cons
theorem afy:type_of% @if_false:=@if_false
theorem afz:type_of% @PySem.wpAny_Call_Name_kw:=@PySem.wpAny_Call_Name_kw
theorem afA:type_of% @PySem.F.slot_str_join:=@PySem.F.slot_str_join
theorem afB:type_of% @PySem.F.type_str_join:=@PySem.F.type_str_join
theorem afC:type_of% @List.drop_eq_getElem_cons:=@List.drop_eq_getElem_cons
theorem afD:type_of% @Array.getElem?_setIfInBounds_ne:=@Array.getElem?_setIfInBounds_ne
theorem afE:type_of% @PySem.Heap.get?_none_of_le:=@PySem.Heap.get?_none_of_le
theorem afF:type_of% @Nat.ne_of_gt:=@Nat.ne_of_gt
theorem afG:type_of% @List.sum_append:=@List.sum_append
theorem afH:type_of% @PySem.wpAny_updateSeq_pair:=@PySem.wpAny_updateSeq_pair
theorem afI:type_of% @PySem.F.slot_zip_next:=@PySem.F.slot_zip_next
theorem afJ:type_of% @List.replicate_succ':=@List.replicate_succ'
theorem afK:type_of% @PySem.wpAny_pyIter_list:=@PySem.wpAny_pyIter_list
theorem afL:type_of% @PySem.wpAny_loadPart_at:=@PySem.wpAny_loadPart_at
theorem afM:type_of% @beq_eq_false_iff_ne:=@beq_eq_false_iff_ne
theorem afN:type_of% @List.lookup_cons:=@List.lookup_cons
theorem afO:type_of% @List.any_eq_true:=@List.any_eq_true
theorem afP:type_of% @PySem.wpAny_passesOwn:=@PySem.wpAny_passesOwn
theorem afQ:type_of% @List.take_append_drop:=@List.take_append_drop
theorem afR:type_of% @Nat.lt_irrefl:=@Nat.lt_irrefl
theorem afS:type_of% @PySem.wpAny_onRaise:=@PySem.wpAny_onRaise
theorem afT:type_of% @List.reverse_cons:=@List.reverse_cons
theorem afU:type_of% @List.flatMap_cons:=@List.flatMap_cons
theorem afV:type_of% @List.find?_append:=@List.find?_append
theorem afW:type_of% @if_true:=@if_true
theorem afX:type_of% @Nat.lt_succ_self:=@Nat.lt_succ_self
theorem afY:type_of% @List.getElem_mem:=@List.getElem_mem
theorem afZ:type_of% @Nat.add_zero:=@Nat.add_zero
theorem af0:type_of% @List.length_reverse:=@List.length_reverse
theorem af1:type_of% @List.length_pos_iff:=@List.length_pos_iff
theorem af2:type_of% @List.map_congr_left:=@List.map_congr_left
theorem af3:type_of% @List.nodup_cons:=@List.nodup_cons
theorem af4:type_of% @Option.map_some:=@Option.map_some
theorem O{α:Sort _}{a:α}:a=a:=rfl
namespace L2
open PySem PySem.Spec PyProof.Rows
abbrev Key:=Sum Int Str
def zo:Key->Value->Bool
 | .inl k,v=>Value.isInt k v
 | .inr x,v=>Value.isStrOf x v
def aao(w:World):Key->Int
 | .inl k=>hashInt k
 | .inr x=>hashStr w x
theorem cV:∀{k:Key}{v:Value},zo k v=true->(∃i t,k=Sum.inl i/\v=Value.int i t)\/(∃x t,k=Sum.inr x/\v=Value.str x t)
 | .inl i,v,h=>by
  obtain⟨t,e⟩:=Value.isInt_shape (k:=i) (v:=v) h
  exact .inl ⟨i,t,rfl,e⟩
 | .inr x,v,h=>by
  obtain⟨t,e⟩:=Value.isStrOf_shape (x:=x) (v:=v) h
  exact .inr ⟨x,t,rfl,e⟩
theorem Ol(i:Int)(t:Tok):zo (.inl i) (.int i t)=true:=by simp[zo,Value.isInt]
theorem Om(x:Str)(t:Tok):zo (.inr x) (.str x t)=true:=by simp[zo,Value.isStrOf]
theorem QZ(a b:Int):decide ((Sum.inl a:Key)=Sum.inl b)=(a==b):=by
 by_cases e:a=b
 ·subst e;simp
 ·have h:¬(Sum.inl a:Key)=Sum.inl b:=λq=>e (Sum.inl.inj q)
  rw[aeg h]
  exact(afM.mpr e).symm
theorem Q0(a b:Str):decide ((Sum.inr a:Key)=Sum.inr b)=decide (a=b):=by
 by_cases e:a=b
 ·subst e;simp
 ·have h:¬(Sum.inr a:Key)=Sum.inr b:=λq=>e (Sum.inr.inj q)
  rw[aeg h,aeg e]
theorem Q2(a:Int)(b:Str):decide ((Sum.inl a:Key)=Sum.inr b)=false:=aeg (λq=>nomatch q)
theorem Q3(a:Str)(b:Int):decide ((Sum.inr a:Key)=Sum.inl b)=false:=aeg (λq=>nomatch q)
def oO(prog:Program)(w:World):PySem.KeyKind prog w Key where
 is:=zo
 hash:=aao w
 inj:=λv a b ha hb=>by
  rcases cV ha with ⟨i,t,rfl,rfl⟩|⟨x,t,rfl,rfl⟩
  ·rcases cV hb with ⟨j,u,rfl,e⟩|⟨y,u,rfl,e⟩
   ·injection e with e1 _;rw[e1]
   ·exact nomatch e
  ·rcases cV hb with ⟨j,u,rfl,e⟩|⟨y,u,rfl,e⟩
   ·exact nomatch e
   ·injection e with e1 _;rw[e1]
 byValue:=λk v h=>by
  rcases cV h with ⟨i,t,rfl,rfl⟩|⟨x,t,rfl,rfl⟩<;>rfl
 pyHash:=λhv h=>by
  rcases cV hv with ⟨i,t,rfl,rfl⟩|⟨x,t,rfl,rfl⟩
  ·exact wpAny_pyHash_int h
  ·exact wpAny_pyHash_str h
 eqBool:=λhu hv h=>by
  rcases cV hu with ⟨i,t,rfl,rfl⟩|⟨x,t,rfl,rfl⟩
  ·rcases cV hv with ⟨j,u,rfl,rfl⟩|⟨y,u,rfl,rfl⟩
   ·rw[QZ]at h;exact wpAny_eqBool_int h
   ·rw[Q2]at h;exact SeqAt.EqAt.int_str i t y u _ _ _ _ h
  ·rcases cV hv with ⟨j,u,rfl,rfl⟩|⟨y,u,rfl,rfl⟩
   ·rw[Q3]at h;exact SeqAt.EqAt.str_int x t j u _ _ _ _ h
   ·rw[Q0]at h;exact wpAny_eqBool_str h
 «strs» := λk x t v h=>by
  rcases cV h with ⟨i,u,rfl,e⟩|⟨y,u,rfl,e⟩
  ·exact nomatch e
  ·injection e with e1 _
   subst e1
   cases v<;>rfl
theorem Ii(prog:Program)(w:World)(i:Int)(t:Tok):(oO prog w).is (.inl i) (.int i t)=true:=Ol i t
theorem Ij(prog:Program)(w:World)(x:Str)(t:Tok):(oO prog w).is (.inr x) (.str x t)=true:=Om x t
inductive V where
 |non|bl (b:Bool)|int (i:Int)|str (x:Str)|QN (b:Array UInt8)|lU (b:UInt64)|ref (a:Addr)|ty (n:String)
 deriving DecidableEq
def RelV:V->Value->Prop
 | .non,u=>u=Value.none
 | .bl b,u=>u=Value.bool b
 | .int i,u=>∃t,u=Value.int i t
 | .str x,u=>∃t,u=Value.str x t
 | .QN b,u=>∃t,u=Value.bytes b t
 | .lU b,u=>∃t,u=Value.float b t
 | .ref a,u=>u=Value.ref a
 | .ty n,u=>u=Value.type n
abbrev Vals:List V->List Value->Prop:=Paired RelV
theorem Vals.length{xs:List V}{us:List Value}(r:Vals xs us):xs.length=us.length:=afm r
theorem Vals.get:∀{xs:List V}{us:List Value}{i:Nat}{x:V},Vals xs us->xs[i]?=some x->∃u,us[i]?=some u/\RelV x u
 |_,_,_,_,.nil,e=>by simp at e
 |_,_,0,_,.cons r _,e=>by simp at e;subst e;exact⟨_,rfl,r⟩
 |_,_,i+1,x,.cons _ t,e=>by
  obtain⟨u,h1,h2⟩:=Vals.get (i:=i) (x:=x) t (by simpa using e)
  exact⟨u,by simpa using h1,h2⟩
theorem Vals.append:∀{xs ys:List V}{us ws:List Value},Vals xs us->Vals ys ws->Vals (xs++ys) (us++ws)
 |_,_,_,_,.nil,s=>s
 |_,_,_,_,.cons r t,s=>.cons r (Vals.append t s)
theorem Vals.take:∀{xs:List V}{us:List Value}(n:Nat),Vals xs us->Vals (xs.take n) (us.take n)
 |_,_,0,_=>.nil
 |_,_,_+1,.nil=>.nil
 |_,_,n+1,.cons r t=>.cons r (Vals.take n t)
theorem Vals.drop:∀{xs:List V}{us:List Value}(n:Nat),Vals xs us->Vals (xs.drop n) (us.drop n)
 |_,_,0,r=>r
 |_,_,_+1,.nil=>.nil
 |_,_,n+1,.cons _ t=>Vals.drop n t
def qs:Option V->Option Value->Prop
 |some v,some u=>RelV v u
 |none,none=>True
 |_,_=>False
def KV{κ:Type}:List (κ×V)->List (κ×Value)->Prop:=Paired λ(p:κ×V)(q:κ×Value)=>p.1=q.1/\RelV p.2 q.2
def kV:Key->V
 | .inl i=>.int i
 | .inr x=>.str x
inductive HO where
 |lst (xs:List V)
 |tup (xs:List V)
 |dK (kvs:List (Key×V))|dT (kvs:List (List Key×V))
 |set (S:Int->Bool) (n:Nat)
 |ins (C dx:Addr) (fs:List (Str×V))
 |own (x:Addr)
 |xd (fs:List (Str×V))
 |met (f x:Addr)
 |rng (lo hi:Int)
 |KU (o:Obj) (u:HO)
 |W3 (ps:Array Value)
 |ext (φ:Heap->Prop)
abbrev Hp:=Addr->Option HO
def upd(H:Hp)(a:Addr)(o:HO):Hp:=λb=>if b=a then some o else H b
theorem ai{H:Hp}{a:Addr}{o:HO}:upd H a o a=some o:=by unfold upd;rw[aee rfl]
theorem az{H:Hp}{a b:Addr}{o:HO}(h:b≠a):upd H a o b=H b:=by unfold upd;rw[ad5 h]
theorem dP{H:Hp}{a b:Addr}{o u:HO}(h:H a=some o)(h':H b=some u)(d:o≠u):a≠b:=by
 intro e;subst e;rw[h]at h';exact d (aes h')
theorem aV{H:Hp}{a b:Addr}{o:HO}(h:H a=some o)(h':H b=none):a≠b:=by
 intro e;subst e;rw[h]at h';cases h'
section
variable(P:Program)(w:World)
def cM(H:Hp)(h:Heap)(a:Addr):HO->Prop
 | .lst xs=>xs.length<=sizeLine/\∃(its:List Value)(n:Nat),Vals xs its/\h.get? a=some {cls:=.type "list",data:=.seq its.toArray n}
 | .tup xs=>xs.length<=sizeLine/\∃its:List Value,Vals xs its/\IsTup h a its.toArray
 | .dK kvs=>kvs.length<=sizeLine/\(a==sysModules)=false/\∃vs,KV kvs vs/\h.DictOf (oO P w) a vs
 | .dT kvs=>kvs.length<=sizeLine/\(a==sysModules)=false/\∃xs:List (List Key×Addr×Value),Paired (λ(p:List Key×V)(q:List Key×Addr×Value)=>p.1=q.1/\H q.2.1=some (.tup (p.1.map kV))/\RelV p.2 q.2.2) kvs xs/\∃o es ep,h.get? a=some o/\o.ExactDict/\o.data=.dict es ep/\es.toList=xs.map (entryOfKey (tupleKind (oO P w)))/\(xs.map (·.1)).Nodup
 | .set S n=>h.SetOf (intKind P w) a S n
 | .ins C dx fs=>H dx=some (.own a)/\fs.length<=1000/\dx≠a/\h.get? a=some (W.instObj C dx)/\∃mA,h.Ns1 dx mA/\(∀f,qs (fs.lookup f) (mA f))/\PySem.Within mA (fs.map (·.1))
 | .own _=>∃o,h.get? a=some o
 | .xd fs=>∃mA,h.Ns1 a mA/\∀f,qs (fs.lookup f) (mA f)
 | .rng lo hi=>∃t u v,h.get? a=some {cls:=.type "range",data:=.fields #[.int lo t,.int hi u,.int 1 v]}
 | .KU o u=>h.get? a=some o/\cM H h a u
 | .W3 ps=>h.get? a=some {cls:=.none,data:=.fields ps}
 | .met f x=>h.get? a=some (W.methodObj (.ref f) (.ref x))
 | .ext φ=>φ h/\(∃o,h.get? a=some o)/\∀h1 h2:Heap,φ h1->(∀o,h1.get? a=some o->h2.get? a=some o)->φ h2
def xK(H:Hp)(h:Heap):Prop:=∀a o,H a=some o->cM P w H h a o
end
section
variable{P:Program}{w:World}{H H':Hp}{h h':Heap}{a:Addr}{o:HO}
theorem cM.lt(x:cM P w H h a o):a<h.objs.size:=by
 cases o with
 |lst xs=>obtain⟨_,_,_,_,e⟩:=x;exact aei e
 |tup xs=>obtain⟨_,_,_,p⟩:=x;exact p.lt
 |dK kvs=>obtain⟨_,_,_,_,o,_,_,e,_⟩:=x;exact aei e
 |dT kvs=>obtain⟨_,_,_,_,o,_,_,e,_⟩:=x;exact aei e
 |set S n=>obtain⟨o,_,_,_,e,_⟩:=x;exact aei e
 |ins C dx fs=>obtain⟨_,_,_,e,_⟩:=x;exact aei e
 |own y=>obtain⟨_,e⟩:=x;exact aei e
 |xd fs=>obtain⟨_,⟨_,_,_,e,_⟩,_⟩:=x;exact aei e
 |rng lo hi=>obtain⟨_,_,_,e⟩:=x;exact aei e
 |KU ob u=>obtain⟨e,_⟩:=x;exact aei e
 |W3 ps=>exact aei (show h.get? a=some _ from x)
 |met f y=>exact aei (show h.get? a=some _ from x)
 |ext φ=>obtain⟨_,⟨_,e⟩,_⟩:=x;exact aei e
theorem Paired.Q4{α β:Type}{F G:α->β->Prop}:∀{l₁:List α}{l₂:List β},Paired F l₁ l₂->(∀a b,F a b->G a b)->Paired G l₁ l₂
 |_,_,.nil,_=>.nil
 |_,_,.cons r t,f=>.cons (f _ _ r) (Paired.Q4 t f)
theorem cM.stay(x:cM P w H h a o)(k:∀b u,(b=a\/H b=some (.own a))->h.get? b=some u->h'.get? b=some u)(ho:∀b,H b=some (.own a)->H' b=some (.own a))(ht:∀b xs,H b=some (.tup xs)->H' b=some (.tup xs)):cM P w H' h' a o:=by
 induction o with
 |lst xs=>obtain⟨z,its,n,r,e⟩:=x;exact⟨z,its,n,r,k _ _ (.inl rfl) e⟩
 |tup xs=>obtain⟨z,its,r,ob,e,c⟩:=x;exact⟨z,its,r,ob,k _ _ (.inl rfl) e,c⟩
 |dK kvs=>obtain⟨z,y,vs,r,ob,es,ep,e,c⟩:=x;exact⟨z,y,vs,r,ob,es,ep,k _ _ (.inl rfl) e,c⟩
 |dT kvs =>
  obtain⟨z,y,xs,r,ob,es,ep,e,c⟩:=x
  exact⟨z,y,xs,Paired.Q4 r λp q z=>⟨z.1,ht _ _ z.2.1,z.2.2⟩,ob,es,ep,k _ _ (.inl rfl) e,c⟩
 |set S n=>obtain⟨ob,es,ep,t,e,c⟩:=x;exact⟨ob,es,ep,t,k _ _ (.inl rfl) e,c⟩
 |ins C dx fs =>
  obtain⟨d,z,ne,e,mA,⟨od,es,ep,e2,c⟩,r⟩:=x
  exact⟨ho _ d,z,ne,k _ _ (.inl rfl) e,mA,⟨od,es,ep,k _ _ (.inr d) e2,c⟩,r⟩
 |own y=>obtain⟨ob,e⟩:=x;exact⟨ob,k _ _ (.inl rfl) e⟩
 |xd fs=>obtain⟨mA,⟨od,es,ep,e,c⟩,r⟩:=x;exact⟨mA,⟨od,es,ep,k _ _ (.inl rfl) e,c⟩,r⟩
 |rng lo hi=>obtain⟨t,u,v,e⟩:=x;exact⟨t,u,v,k _ _ (.inl rfl) e⟩
 |KU ob u ih=>obtain⟨e,q⟩:=x;exact⟨k _ _ (.inl rfl) e,ih q⟩
 |W3 ps =>
  have e:h.get? a=some {cls:=.none,data:=.fields ps}:=x
  show h'.get? a=some {cls:=.none,data:=.fields ps}
  exact k a _ (.inl rfl) e
 |met f y =>
  have e:h.get? a=some (W.methodObj (.ref f) (.ref y)):=x
  show h'.get? a=some (W.methodObj (.ref f) (.ref y))
  exact k a _ (.inl rfl) e
 |ext φ=>obtain⟨p,⟨o,e⟩,st⟩:=x;exact⟨st _ _ p λo q=>k _ _ (.inl rfl) q,⟨o,k _ _ (.inl rfl) e⟩,st⟩
theorem xK.lt(x:xK P w H h)(e:H a=some o):a<h.objs.size:=(x a o e).lt
theorem xK.fresh(x:xK P w H h)(e:h.objs.size<=a):H a=none:=by
 cases q:H a with
 |none=>rfl
 |some u=>exact absurd (aeu (x.lt q) e) (afR _)
theorem xK.kept(x:xK P w H h)(k:∀b u,h.get? b=some u->h'.get? b=some u):xK P w H h':=λa o e =>
 (x a o e).stay (λb u _ q=>k b u q) (λ_ q=>q) λ_ _ q=>q
theorem xK.laid(x:xK P w H h)(k:∀b u,h.get? b=some u->h'.get? b=some u)(hp:h.objs.size<=a)(new:cM P w (upd H a o) h' a o):xK P w (upd H a o) h':=λb u e=>by
 have hn:=x.fresh hp
 by_cases hb:b=a
 ·subst hb;rw[ai]at e;cases e;exact new
 ·rw[az hb]at e
  exact(x b u e).stay (λc v _ q=>k c v q) (λc q=>by rw[az (aV q hn)];exact q) λc xs q=>by rw[az (aV q hn)];exact q
end
def Rd(H:Hp)(a:Addr)(u:HO):Prop:=H a=some u\/∃o,H a=some (.KU o u)
theorem Rd.ok{P:Program}{w:World}{H:Hp}{h:Heap}{a:Addr}{u:HO}(r:Rd H a u)(x:xK P w H h):cM P w H h a u:=by
 rcases r with r|⟨o,r⟩
 ·exact x a u r
 ·obtain⟨_,q⟩:=x a _ r
  exact q
def Mut:Option HO->Prop
 |some (.lst _)=>True
 |some (.dK _)=>True
 |some (.dT _)=>True
 |some (.set _ _)=>True
 |some (.ins _ _ _)=>True
 |some (.ext _)=>True
 |_=>False
section
variable{P:Program}{w:World}{H:Hp}{h h':Heap}{x e:Addr}{o':HO}
theorem xK.write(ok:xK P w H h)(mu:Mut (H x))(he:e=x\/H e=some (.own x))(k:∀b u,b≠e->h.get? b=some u->h'.get? b=some u)(W4:∃u,h'.get? e=some u)(new:cM P w (upd H x o') h' x o'):xK P w (upd H x o') h':=λb u q=>by
 have aap:∀c y,H c=some (.own y)->c≠x:=λc y r z=>by subst z;rw[r]at mu;exact mu
 have abW:∀c xs,H c=some (.tup xs)->c≠x:=λc xs r z=>by subst z;rw[r]at mu;exact mu
 by_cases hb:b=x
 ·subst hb;rw[ai]at q;cases q;exact new
 ·rw[az hb]at q
  by_cases XF:b=e
  ·have q':H b=some (.own x):=by
    rcases he with z|z
    ·exact absurd (XF.trans z) hb
    ·rw[XF];exact z
   rw[q]at q';cases q'
   obtain⟨v,hv⟩:=W4
   exact⟨v,by rw[XF];exact hv⟩
  ·refine(ok b u q).stay (λc v hc r=>k c v ?_ r) (λc r=>by rw[az (aap c b r)];exact r) λc xs r=>by rw[az (abW c xs r)];exact r
   rcases hc with rfl|hc
   ·exact XF
   ·rintro rfl
    rcases he with z|z
    ·exact aap c b hc z
    ·rw[hc]at z;cases z;exact hb rfl
end
structure Un(fs ex:List Addr)(H H':Hp)(h h':Heap):Prop where
 keep:∀b o,h.get? b=some o->H b=none->b∉fs->b∉ex->h'.get? b=some o
 slot:∀b o,h.get? b=some o->H b=none->b∈fs->b∉ex->∃sl,h'.get? b=some {o with slots:=sl}
 free:∀b o,h.get? b=some o->H b=none->b∉ex->H' b=none
 there:∀b o,h.get? b=some o->b∉ex->∃o',h'.get? b=some o'
 tups:∀b xs,H b=some (.tup xs)->H' b=some (.tup xs)
 Ad:∀b o u,H b=some (.KU o u)->H' b=some (.KU o u)
 Bo:∀b ps,H b=some (.W3 ps)->∃more,H' b=some (.W3 (ps++more))
section
variable{fs fs' ex ex':List Addr}{H H1 H2:Hp}{h h1 h2 h':Heap}{a x e:Addr}{o:HO}
theorem Un.any(u:Un fs ex H H1 h h1){b:Addr}{ob:Obj}(q:h.get? b=some ob)(n:H b=none)(hx:b∉ex):∃sl,h1.get? b=some {ob with slots:=sl}:=by
 by_cases hb:b∈fs
 ·exact u.slot b ob q n hb hx
 ·exact⟨ob.slots,u.keep b ob q n hb hx⟩
theorem Un.kept(k:∀b u,h.get? b=some u->h'.get? b=some u):Un fs ex H H h h' :=
 ⟨λb ob q _ _ _=>k b ob q,λb ob q _ _ _=>⟨ob.slots,k b ob q⟩,λ_ _ _ n _=>n,λb ob q _=>⟨ob,k b ob q⟩,λ_ _ q=>q,λ_ _ _ q=>q,λ_ ps q=>⟨#[],by rw[q];simp⟩⟩
theorem Un.refl:Un fs ex H H h h:=Un.kept λ_ _ q=>q
theorem Un.laid(k:∀b u,h.get? b=some u->h'.get? b=some u)(hp:h.objs.size<=a)(hn:H a=none):Un fs ex H (upd H a o) h h' where
 keep:=λb u q _ _ _=>k b u q
 slot:=λb u q _ _ _=>⟨u.slots,k b u q⟩
 free:=λb u q n _=>by rw[az (aeH (aeu (aei q) hp))];exact n
 there:=λb u q _=>⟨u,k b u q⟩
 tups:=λb xs q=>by rw[az (aV q hn)];exact q
 Ad:=λb u xs q=>by rw[az (aV q hn)];exact q
 Bo:=λb ps q=>⟨#[],by rw[az (aV q hn),q];simp⟩
theorem Un.write(mu:Mut (H x))(he:e=x\/H e=some (.own x))(k:∀b u,b≠e->h.get? b=some u->h'.get? b=some u)(W4:∃u,h'.get? e=some u):Un fs ex H (upd H x o) h h':=by
 have hx:∀b,H b=none->b≠x:=λb n z=>by subst z;rw[n]at mu;exact mu
 have hb:∀b,H b=none->b≠e:=λb n z=>by
  subst z
  rcases he with r|r
  ·exact hx b n r
  ·rw[n]at r;cases r
 have hm:∀b u,H b=some u->¬Mut (some u)->b≠x:=λb u q nm z=>by subst z;rw[q]at mu;exact nm mu
 refine⟨λb u q n _ _=>k b u (hb b n) q,λb u q n _ _=>⟨u.slots,k b u (hb b n) q⟩,λb u q n _=>by rw[az (hx b n)];exact n,λb u q _=>?_,λb xs q=>by rw[az (hm b _ q λz=>z)];exact q,λb u xs q=>by rw[az (hm b _ q λz=>z)];exact q,λb ps q=>⟨#[],by rw[az (hm b _ q λz=>z),q];simp⟩⟩
 by_cases XF:b=e
 ·subst XF;exact W4
 ·exact⟨u,k b u XF q⟩
end
def trk(h:Heap)(H:Hp):List Addr:=(List.range h.objs.size).filter λa=>(H a).isSome
def FZ(h:Heap)(H:Hp):Heap:=W.hideAll h (trk h H)
theorem Oo(h:Heap)(H:Hp):(FZ h H).objs.size=h.objs.size:=W.hideAll_size _ _
theorem Q5{h:Heap}{H:Hp}{b:Addr}{o:Obj}(e:h.get? b=some o)(n:H b=none):(FZ h H).get? b=some o :=
 W.hideAll_get _ e λhm=>by
  have q:(H b).isSome=true:=(List.mem_filter.mp hm).2
  rw[n]at q;simp at q
theorem UR{h:Heap}{H:Hp}{b:Addr}{o:Obj}(e:(FZ h H).get? b=some o):h.get? b=some o/\H b=none:=by
 have e':h.get? b=some o:=W.of_hideAll (trk h H) e
 refine⟨e',?_⟩
 cases q:H b with
 |none=>rfl
 |some x =>
  have hm:b∈trk h H:=List.mem_filter.mpr ⟨List.mem_range.mpr (aei e'),by simp[q]⟩
  have z:(FZ h H).get? b=none:=W.hideAll_none (trk h H) hm
  rw[z]at e;cases e
def US(g h:Heap)(L:Addr):List (Addr×Obj):=(List.range h.objs.size).filterMap λa=>if a=L\/(g.get? a).isSome=true then none else (h.get? a).map λo=>(a,o)
def rest(g h:Heap)(L d:Addr):List (Addr×Obj):=(US g h L).filter λp=>decide (p.1≠d)
structure Mod(K:W.Frag)(mg:Str->Option Value)(base:Heap):Prop where
 lZ:K.In base
 glob:base.Ns mainGlobals mg
 blt:∃mb,base.Ns builtinsNs mb/\∀x:Str,x ≠ "__name__"->mb x=bootBuiltins x
 nolimit:base.NoLimit
structure Cx where
 prog:Program
 w:World
 K:W.Frag
 mg:Str->Option Value
 base:Heap
 A:Around
 N:List Str
 s₀:Shared
 H₀:Hp
 env:Env
 outer:List Env
 stack:List Env
 ex:List Addr
 fn:Str->Bool
 calm:Bool
 pn:List (Addr×Obj)
 xe:Value->Shared->Prop
def frs(l:List Env):List Addr:=l.filterMap (·.frame)
abbrev Cx.fs(X:Cx):List Addr:=frs X.outer
def Vis(sc:Scope)(x:Str):Prop:=sc.names.lookup x=some .local\/sc.names.lookup x=some .cell\/sc.names.lookup x=some .free
def Loc(sc:Scope)(x:Str):Prop:=sc.names.lookup x=some .local\/sc.names.lookup x=some .cell
def Look(env:Env)(h:Heap)(m:Str->Option Value)(x:Str)(u:Value):Prop :=
 (env.kindOf x=some .local/\m x=some u)\/((env.kindOf x=some .cell\/env.kindOf x=some .free)/\∃c,env.cells.lookup x=some c/\h.IsCell c (some u))
structure Cx.Ok(X:Cx):Prop where
 mod:Mod X.K X.mg X.base
 kind:X.env.scope.kind=.function
 glob:X.env.globals=mainGlobals
 blt:X.env.builtins=builtinsNs
 above:X.s₀.heap.objs.size<=X.env.locals
 inj:∀x y c,X.env.cells.lookup x=some c->X.env.cells.lookup y=some c->x=y
 has:∀x,(X.env.kindOf x=some .cell\/X.env.kindOf x=some .free)->∃c,X.env.cells.lookup x=some c
 cab:∀x c,X.fn x=true->X.env.cells.lookup x=some c->X.s₀.heap.objs.size<=c
 hd:X.calm=true->X.A.handled=none
 frames:X.A.frames=some X.stack
 stk:X.stack=X.outer\/(X.stack=X.env::X.outer/\X.env.frame=some X.env.locals)
 exf:∀b∈X.ex,b≠X.env.locals/\∀x c,X.env.cells.lookup x=some c->c≠b
 bs:∀b o,X.base.get? b=some o->X.s₀.heap.get? b=some o/\X.H₀ b=none
 UM:X.base.objs.size<=X.s₀.heap.objs.size
 Oq:∀b o,X.base.get? b=some o->b∉X.ex
 Q6:∀b∈X.ex,b∉X.fs
 xM:X.s₀.heap.FunFrames X.base X.outer
 W5:∀b∈X.fs,X.H₀ b=none
structure Inv(X:Cx)(pins:List (Addr×Obj))(σ:List (Option V))(H:Hp)(s:Shared):Prop where
 ok:X.Ok
 os:s.os=X.s₀.os
 bare:AllBare s.gens
 base:Un X.fs X.ex X.H₀ H X.s₀.heap s.heap
 loc:∃m,s.heap.Ns X.env.locals m/\∀(i:Nat)(x:Str)(v:V),X.N[i]?=some x->σ[i]?=some (some v)->Vis X.env.scope x->∃u,RelV v u/\Look X.env s.heap m x u
 cell:∀x c,X.env.cells.lookup x=some c->∃v,s.heap.IsCell c v
 free:H X.env.locals=none
 kD:∀x c,X.env.cells.lookup x=some c->H c=none
 pin:∀p∈X.pn++pins,s.heap.get? p.1=some p.2/\H p.1=none/\p.1≠X.env.locals/\p.1∉X.fs/\∀v,p.2.data≠.cell v
 hok:xK X.prog X.w H s.heap
 len:σ.length=X.N.length
section
variable{X:Cx}{pins:List (Addr×Obj)}{σ:List (Option V)}{H H':Hp}{s:Shared}{h':Heap}
theorem Cx.Ok.abX(ok:X.Ok){b:Addr}{o:Obj}(e:X.base.get? b=some o):b∉X.fs:=λhb=>by
 have:=(ok.xM.mem hb).1
 rw[e]at this;cases this
theorem Inv.bs(I:Inv X pins σ H s):∀b o,X.base.get? b=some o->s.heap.get? b=some o/\H b=none:=λb o e =>
 ⟨I.base.keep b o (I.ok.bs b o e).1 (I.ok.bs b o e).2 (I.ok.abX e) (I.ok.Oq b o e),I.base.free b o (I.ok.bs b o e).1 (I.ok.bs b o e).2 (I.ok.Oq b o e)⟩
theorem Inv.bk(I:Inv X pins σ H s):∀b o,X.base.get? b=some o->s.heap.get? b=some o:=λb o e=>(I.bs b o e).1
theorem Inv.mod(I:Inv X pins σ H s):Mod X.K X.mg X.base:=I.ok.mod
theorem Inv.nQ(I:Inv X pins σ H s):X.K.In s.heap:=I.ok.mod.lZ.keeps I.bk
theorem Inv.lt(I:Inv X pins σ H s):X.env.locals<s.heap.objs.size:=let ⟨_,hn,_⟩:=I.loc;hn.lt
theorem Inv.sz(I:Inv X pins σ H s):X.s₀.heap.objs.size<=s.heap.objs.size:=aep I.ok.above (Nat.le_of_lt I.lt)
theorem Inv.abY(I:Inv X pins σ H s){a:Addr}(h:s.heap.objs.size<=a):a∉X.fs:=λhb=>by
 obtain⟨_,o,ho,_⟩:=I.ok.xM.mem hb
 exact absurd (aeu (aei ho) (aep I.sz h)) (afR _)
theorem Inv.XG(I:Inv X pins σ H s):∀x c,X.env.cells.lookup x=some c->c≠X.env.locals:=λx c e z=>by
 obtain⟨v,o,ho,hd⟩:=I.cell x c e
 obtain⟨m,⟨o',es,ep,ho',hd',_⟩,_⟩:=I.loc
 rw[z,ho']at ho;cases ho;rw[hd']at hd;cases hd
theorem Inv.xM(I:Inv X pins σ H s):s.heap.FunFrames X.base X.outer:=by
 have all:∀(l:List Env),(∀b∈frs l,b∈X.fs)->X.s₀.heap.FunFrames X.base l->s.heap.FunFrames X.base l:=by
  intro l
  induction l with
  |nil=>intro _ _;trivial
  |cons env r ih =>
   intro hs hl
   obtain⟨hk,⟨L,o,hf,hn,ho,hd⟩,hr⟩:=hl
   have hL:L∈X.fs:=hs L (by unfold frs;rw[afx,hf];exact aew)
   obtain⟨sl,e⟩:=I.base.slot L o ho (I.ok.W5 L hL) hL λz=>I.ok.Q6 L z hL
   exact⟨hk,⟨L,_,hf,hn,e,hd⟩,ih (λb hb=>hs b (by unfold frs;rw[afx,hf];exact aer _ hb)) hr⟩
 exact all X.outer (λ_ hb=>hb) I.ok.xM
theorem Inv.stack(I:Inv X pins σ H s):s.heap.FunFrames X.base X.stack:=by
 rcases I.ok.stk with e|⟨e,hf⟩
 ·rw[e];exact I.xM
 ·rw[e]
  obtain⟨m,hn,_⟩:=I.loc
  refine .cons (by rw[I.ok.kind];decide) hf hn ?_ I.xM
  exact afE (aep I.ok.UM I.ok.above)
theorem Inv.Bp(I:Inv X pins σ H s):∀b∈frs X.stack,b∈X.env.locals::X.fs:=λb hb=>by
 rcases I.ok.stk with e|⟨e,hf⟩
 ·rw[e]at hb;exact aer _ hb
 ·rw[e]at hb
  unfold frs at hb
  rw[afx,hf]at hb
  exact hb
theorem Inv.Ga(I:Inv X pins σ H s):∀b∈frs X.stack,H b=none:=λb hb=>by
 rcases aeh.mp (I.Bp b hb) with e|hb
 ·rw[e];exact I.free
 ·obtain⟨_,o,ho,_⟩:=I.ok.xM.mem hb
  exact I.base.free b o ho (I.ok.W5 b hb) λz=>I.ok.Q6 b z hb
theorem Inv.step{g':Array GenState}{t':Nat}{d':Drawn}{ch:List Addr}(I:Inv X pins σ H s)(hch:∀b∈ch,(b∈X.ex\/X.s₀.heap.objs.size<=b)/\b≠X.env.locals/\(∀x c,X.env.cells.lookup x=some c->c≠b)/\∀p∈X.pn++pins,p.1≠b)(keep:∀b o,b≠X.env.locals->b∉X.fs->b∉ch->s.heap.get? b=some o->H b=none->h'.get? b=some o)(slot:∀b o,b≠X.env.locals->b∈X.fs->b∉ch->s.heap.get? b=some o->H b=none->∃sl,h'.get? b=some {o with slots:=sl})(free:∀b o,b∉ch->s.heap.get? b=some o->H b=none->H' b=none)(there:∀b o,b∉ch->s.heap.get? b=some o->∃o',h'.get? b=some o')(tups:∀b xs,H b=some (.tup xs)->H' b=some (.tup xs))(Ad:∀b o u,H b=some (.KU o u)->H' b=some (.KU o u))(Bo:∀b ps,H b=some (.W3 ps)->∃more,H' b=some (.W3 (ps++more)))(ns:∀m,s.heap.Ns X.env.locals m->h'.Ns X.env.locals m)(hok:xK X.prog X.w H' h')(hg:AllBare g'):Inv X pins σ H' {s with heap:=h',gens:=g',drawn:=d',toks:=t'}:=by
 have neL:∀b o,X.s₀.heap.get? b=some o->b≠X.env.locals:=λb o e=>aeH (aeu (aei e) I.ok.above)
 have neC:∀b o,X.s₀.heap.get? b=some o->b∉X.ex->b∉ch:=λb o e hx hb=>by
  rcases(hch b hb).1 with z|z
  ·exact hx z
  ·exact absurd (aeu (aei e) z) (afR _)
 have cellK:∀x c,X.env.cells.lookup x=some c->∀v,s.heap.IsCell c v->h'.IsCell c v:=λx c e v ⟨o,ho,hd⟩=>by
  have UN:c∉ch:=λz=>(hch c z).2.2.1 x c e rfl
  by_cases hc:c∈X.fs
  ·obtain⟨sl,q⟩:=slot c o (I.XG x c e) hc UN ho (I.kD x c e)
   exact⟨_,q,hd⟩
  ·exact⟨o,keep c o (I.XG x c e) hc UN ho (I.kD x c e),hd⟩
 refine⟨I.ok,I.os,hg,⟨λb o e n hb hx=>?_,λb o e n hb hx=>?_,λb o e n hx=>?_,λb o e hx=>?_,λb xs e=>tups b xs (I.base.tups b xs e),λb o xs e=>Ad b o xs (I.base.Ad b o xs e),λb ps e=>?_⟩,?_,λx c e=>?_,?_,λx c e=>?_,λp hp=>?_,hok,I.len⟩
 ·exact keep b o (neL b o e) hb (neC b o e hx) (I.base.keep b o e n hb hx) (I.base.free b o e n hx)
 ·obtain⟨sl,e1⟩:=I.base.slot b o e n hb hx
  obtain⟨sl',e2⟩:=slot b _ (neL b o e) hb (neC b o e hx) e1 (I.base.free b o e n hx)
  exact⟨sl',e2⟩
 ·obtain⟨o',e1⟩:=I.base.there b o e hx
  exact free b o' (neC b o e hx) e1 (I.base.free b o e n hx)
 ·obtain⟨o',e1⟩:=I.base.there b o e hx
  exact there b o' (neC b o e hx) e1
 ·obtain⟨m1,e1⟩:=I.base.Bo b ps e
  obtain⟨m2,e2⟩:=Bo b _ e1
  exact⟨m1++m2,by rw[e2,Array.append_assoc]⟩
 ·obtain⟨m,hn,hl⟩:=I.loc
  refine⟨m,ns m hn,λi x v e1 e2 e3=>?_⟩
  obtain⟨u,r,l⟩:=hl i x v e1 e2 e3
  refine⟨u,r,?_⟩
  rcases l with l|⟨k,c,e,z⟩
  ·exact .inl l
  ·exact .inr ⟨k,c,e,cellK x c e _ z⟩
 ·obtain⟨v,z⟩:=I.cell x c e
  exact⟨v,cellK x c e v z⟩
 ·obtain⟨m,⟨o,_,_,ho,_⟩,_⟩:=I.loc
  exact free _ o (λz=>(hch _ z).2.1 rfl) ho I.free
 ·obtain⟨v,o,ho,hd⟩:=I.cell x c e
  exact free c o (λz=>(hch c z).2.2.1 x c e rfl) ho (I.kD x c e)
 ·obtain⟨e,n,ne,nf,d⟩:=I.pin p hp
  have UN:p.1∉ch:=λz=>(hch p.1 z).2.2.2 p hp rfl
  exact⟨keep p.1 p.2 ne nf UN e n,free p.1 p.2 UN e n,ne,nf,d⟩
theorem Inv.un{t':Nat}(I:Inv X pins σ H s)(u:Un X.fs [] H H' s.heap h')(hok:xK X.prog X.w H' h'):Inv X pins σ H' {s with heap:=h',toks:=t'}:=by
 obtain⟨m,⟨o,es,ep,ho,r⟩,_⟩:=id I.loc
 obtain⟨sl,hL⟩:=u.any ho I.free (by simp)
 exact I.step (g':=s.gens) (d':=s.drawn) (ch:=[]) (λ_ z=>nomatch z) (λb o _ hb _ e n=>u.keep b o e n hb (by simp)) (λb o _ hb _ e n=>u.slot b o e n hb (by simp)) (λb o _ e n=>u.free b o e n (by simp)) (λb o _ e=>u.there b o e (by simp)) u.tups u.Ad u.Bo (λm' hm=>by
  obtain⟨o',es',ep',ho',r'⟩:=hm
  rw[ho]at ho';cases ho'
  exact⟨_,es',ep',hL,r'⟩) hok I.bare
theorem Inv.call{g':Array GenState}{t':Nat}{d':Drawn}{ch:List Addr}(I:Inv X pins σ H s)(u:Un (frs X.stack) ch H H' s.heap h')(hok:xK X.prog X.w H' h')(hg:AllBare g')(hch:∀b∈ch,(b∈X.ex\/X.s₀.heap.objs.size<=b)/\b≠X.env.locals/\(∀x c,X.env.cells.lookup x=some c->c≠b)/\∀p∈X.pn++pins,p.1≠b):Inv X pins σ H' {s with heap:=h',gens:=g',drawn:=d',toks:=t'}:=by
 obtain⟨m,⟨o,es,ep,ho,r⟩,_⟩:=id I.loc
 obtain⟨sl,hL⟩:=u.any ho I.free λz=>(hch _ z).2.1 rfl
 exact I.step (ch:=ch) hch (λb o hL hb hc e n=>u.keep b o e n (λz=>(aeh.mp (I.Bp b z)).elim hL hb) hc) (λb o _ _ hc e n=>u.any e n hc) (λb o hc e n=>u.free b o e n hc) (λb o hc e=>u.there b o e hc) u.tups u.Ad u.Bo (λm' hm=>by
  obtain⟨o',es',ep',ho',r'⟩:=hm
  rw[ho]at ho';cases ho'
  exact⟨_,es',ep',hL,r'⟩) hok hg
theorem Inv.turned{t':Nat}{it:Addr}(I:Inv X pins σ H s)(k:∀b o,b≠it->s.heap.get? b=some o->h'.get? b=some o)(hn:H it=none)(hL:it≠X.env.locals)(h1:it∈X.ex\/X.s₀.heap.objs.size<=it)(h2:∀x c,X.env.cells.lookup x=some c->c≠it)(h3:∀p∈X.pn++pins,p.1≠it):Inv X pins σ H {s with heap:=h',toks:=t'}:=by
 have nit:∀b u,H b=some u->b≠it:=λb u e z=>by rw[z,hn]at e;cases e
 refine I.step (g':=s.gens) (d':=s.drawn) (ch:=[it]) (λb hb=>?_) (λb o _ _ hc e _=>k b o (λz=>hc (by simp[z])) e) (λb o _ _ hc e _=>⟨o.slots,k b o (λz=>hc (by simp[z])) e⟩) (λ_ _ _ _ n=>n)
  (λb o hc e=>⟨o,k b o (λz=>hc (by simp[z])) e⟩) (λ_ _ e=>e) (λ_ _ _ e=>e) (λb ps e=>⟨#[],by rw[e];simp⟩) (λm hm=>?_) (λb u e=>?_) I.bare
 ·have e:b=it:=by simpa using hb
  subst e
  exact⟨h1,hL,h2,h3⟩
 ·obtain⟨o,es,ep,ho,r⟩:=hm
  exact⟨o,es,ep,k _ o (afa hL) ho,r⟩
 ·refine(I.hok b u e).stay (λc v hc q=>k c v ?_ q) (λ_ q=>q) λ_ _ q=>q
  rcases hc with z|z
  ·rw[z];exact nit b u e
  ·exact nit c _ z
theorem Inv.tok(I:Inv X pins σ H s)(t:Nat):Inv X pins σ H {s with toks:=t}:=I.un (h':=s.heap) (t':=t) Un.refl I.hok
theorem Inv.kept{t':Nat}(I:Inv X pins σ H s)(k:∀b u,s.heap.get? b=some u->h'.get? b=some u):Inv X pins σ H {s with heap:=h',toks:=t'}:=I.un (Un.kept k) (I.hok.kept k)
theorem Inv.laid{a:Addr}{o:HO}{t':Nat}(I:Inv X pins σ H s)(k:∀b u,s.heap.get? b=some u->h'.get? b=some u)(hp:s.heap.objs.size<=a)(new:cM X.prog X.w (upd H a o) h' a o):Inv X pins σ (upd H a o) {s with heap:=h',toks:=t'}:=I.un (Un.laid k hp (I.hok.fresh hp)) (I.hok.laid k hp new)
theorem Inv.write{x e:Addr}{o:HO}{t':Nat}(I:Inv X pins σ H s)(mu:Mut (H x))(he:e=x\/H e=some (.own x))(k:∀b u,b≠e->s.heap.get? b=some u->h'.get? b=some u)(W4:∃u,h'.get? e=some u)(new:cM X.prog X.w (upd H x o) h' x o):Inv X pins σ (upd H x o) {s with heap:=h',toks:=t'}:=I.un (Un.write mu he k W4) (I.hok.write mu he k W4 new)
theorem Inv.Nk{W6:List (Addr×Obj)}(I:Inv X pins σ H s)(h:∀p∈W6,s.heap.get? p.1=some p.2/\H p.1=none/\p.1≠X.env.locals/\p.1∉X.fs/\∀v,p.2.data≠.cell v):Inv X W6 σ H s :=
 ⟨I.ok,I.os,I.bare,I.base,I.loc,I.cell,I.free,I.kD,λp hp=>(aej.mp hp).elim (λz=>I.pin p (aeX _ z)) (h p),I.hok,I.len⟩
theorem Ik{N:List Str}(hN:N.Nodup){i j:Nat}{x:Str}(a:N[i]?=some x)(b:N[j]?=some x):i=j:=by
 obtain⟨h1,e1⟩:=ad8.mp a
 obtain⟨h2,e2⟩:=ad8.mp b
 exact(List.getElem_inj hN).mp (e1.trans e2.symm)
theorem Eu{M:Model}{A:Around}{E:Value->Shared->Prop}{i:Nat}{x:Str}{v:V}{u:Value}{Q:Unit->Shared->Prop}(I:Inv X pins σ H s)(hN:X.N.Nodup)(hi:X.N[i]?=some x)(hx:Loc X.env.scope x)(r:RelV v u)(h:∀s',Inv X pins (σ.set i (some v)) H s'->(∃a,Heap.SameBut a s.heap s'.heap/\(a=X.env.locals\/X.env.cells.lookup x=some a))->Q () s')(hf:X.fn x=true\/X.env.scope.names.lookup x=some .local:=by first|exact .inl rfl|exact .inr rfl|assumption):wpAny M A (storeName X.env x u) Q E s:=by
 obtain⟨m,hn,hl⟩:=id I.loc
 have hcls:(X.env.scope.kind==.class||(X.env.scope.kind==.module&&X.env.locals != X.env.globals))=false:=by rw[I.ok.kind];rfl
 have aaq:i<σ.length:=by rw[I.len];exact(ad8.mp hi).1
 have XG:=I.XG
 have tracked:∀{a:Addr}{h':Heap},(∃o,s.heap.get? a=some o/\H a=none)->Heap.SameBut a s.heap h'->xK X.prog X.w H h':=λ{a h'} ha hs b ob e=>by
  obtain⟨_,_,hfree⟩:=ha
  refine(I.hok b ob e).stay (λc w' hc q=>(hs.2 c ?_).trans q) (λ_ q=>q) λ_ _ q=>q
  rintro rfl
  rcases hc with rfl|hc
  ·rw[hfree]at e;cases e
  ·rw[hfree]at hc;cases hc
 rcases hx with hk|hk
 ·refine wpAny_storeName_local hk hn (λh' hn' hs=>?_) hcls
  obtain⟨oL,_,_,hoL,_⟩:=id hn
  refine h _ ⟨I.ok,I.os,I.bare,⟨λb o e n hb hx=>?_,λb o e n hb hx=>?_,I.base.free,λb o e hx=>?_,I.base.tups,I.base.Ad,I.base.Bo⟩,⟨_,hn',λj y v' e1 e2 e3=>?_⟩,λy c e=>?_,I.free,I.kD,λp hp=>?_,tracked ⟨oL,hoL,I.free⟩ hs,by simpa using I.len⟩ ⟨_,hs,.inl rfl⟩
  ·exact(hs.2 b (aeH (aeu (aei e) I.ok.above))).trans (I.base.keep b o e n hb hx)
  ·obtain⟨sl,e1⟩:=I.base.slot b o e n hb hx
   exact⟨sl,(hs.2 b (aeH (aeu (aei e) I.ok.above))).trans e1⟩
  ·obtain⟨o',e1⟩:=I.base.there b o e hx
   exact⟨o',(hs.2 b (aeH (aeu (aei e) I.ok.above))).trans e1⟩
  ·by_cases hj:j=i
   ·subst hj
    rw[hi]at e1;cases e1
    rw[List.getElem?_set_self aaq]at e2
    cases e2
    exact⟨u,r,.inl ⟨hk,by simp⟩⟩
   ·rw[List.getElem?_set_ne (afa hj)]at e2
    obtain⟨u',r',q⟩:=hl j y v' e1 e2 e3
    refine⟨u',r',?_⟩
    rcases q with ⟨k,e⟩|⟨k,c,e,z⟩
    ·refine .inl ⟨k,?_⟩
     have:y≠x:=λe=>hj (Ik hN e1 (e▸hi))
     simp[this,e]
    ·exact .inr ⟨k,c,e,z.sameBut hs (XG y c e)⟩
  ·obtain⟨w',z⟩:=I.cell y c e
   exact⟨w',z.sameBut hs (XG y c e)⟩
  ·obtain⟨e,n,ne,nf,d⟩:=I.pin p hp
   exact⟨(hs.2 p.1 ne).trans e,n,ne,nf,d⟩
 ·have hfn:X.fn x=true:=by
   rcases hf with z|z
   ·exact z
   ·rw[z]at hk;cases hk
  obtain⟨c,hc⟩:=I.ok.has x (.inl hk)
  obtain⟨w',z⟩:=I.cell x c hc
  refine wpAny_storeName_cell I.ok.kind hk hc z (λh' hc' hs=>?_)
  obtain⟨oc,hoc,abZ⟩:=id z
  refine h {s with heap:=h'} ⟨I.ok,I.os,I.bare,⟨λb o e n hb hx=>?_,λb o e n hb hx=>?_,I.base.free,λb o e hx=>?_,I.base.tups,I.base.Ad,I.base.Bo⟩,⟨m,hn.sameBut hs (afa (XG x c hc)),λj y v' e1 e2 e3=>?_⟩,λy c' e=>?_,I.free,I.kD,λp hp=>?_,tracked ⟨oc,hoc,I.kD x c hc⟩ hs,by simpa using I.len⟩ ⟨c,hs,.inr hc⟩
  ·exact(hs.2 b (aeH (aeu (aei e) (I.ok.cab x c hfn hc)))).trans (I.base.keep b o e n hb hx)
  ·obtain⟨sl,e1⟩:=I.base.slot b o e n hb hx
   exact⟨sl,(hs.2 b (aeH (aeu (aei e) (I.ok.cab x c hfn hc)))).trans e1⟩
  ·obtain⟨o',e1⟩:=I.base.there b o e hx
   exact⟨o',(hs.2 b (aeH (aeu (aei e) (I.ok.cab x c hfn hc)))).trans e1⟩
  ·by_cases hj:j=i
   ·subst hj
    rw[hi]at e1;cases e1
    rw[List.getElem?_set_self aaq]at e2
    cases e2
    exact⟨u,r,.inr ⟨.inl hk,c,hc,hc'⟩⟩
   ·rw[List.getElem?_set_ne (afa hj)]at e2
    obtain⟨u',r',q⟩:=hl j y v' e1 e2 e3
    refine⟨u',r',?_⟩
    rcases q with q|⟨k,c',e,z'⟩
    ·exact .inl q
    ·refine .inr ⟨k,c',e,z'.sameBut hs ?_⟩
     rintro rfl
     exact hj (Ik hN e1 (I.ok.inj _ _ _ e hc▸hi))
  ·by_cases hcc:c'=c
   ·subst hcc;exact⟨_,hc'⟩
   ·obtain⟨w2,z2⟩:=I.cell y c' e
    exact⟨w2,z2.sameBut hs hcc⟩
  ·obtain⟨e,n,ne,nf,d⟩:=I.pin p hp
   refine⟨(hs.2 p.1 ?_).trans e,n,ne,nf,d⟩
   intro q
   rw[q,hoc]at e
   have q':oc=p.2:=aes e
   exact d w' (by rw[←q'];exact abZ)
theorem Bq{M:Model}{A:Around}{E:Value->Shared->Prop}{i:Nat}{x:Str}{v:V}{u:Value}{Q:Unit->Shared->Prop}(I:Inv X pins σ H s)(hN:X.N.Nodup)(hi:X.N[i]?=some x)(hx:Loc X.env.scope x)(r:RelV v u)(h:∀s',Inv X pins (σ.set i (some v)) H s'->Q () s')(hf:X.fn x=true\/X.env.scope.names.lookup x=some .local:=by first|exact .inl rfl|exact .inr rfl|assumption):wpAny M A (storeName X.env x u) Q E s :=
 Eu I hN hi hx r (λs' I' _=>h s' I') hf
theorem Inv.Q7{s':Shared}{ch:List Addr}(I:Inv X pins σ H s)(ho:s'.os=s.os)(u:Un (frs X.stack) ch H H' s.heap s'.heap)(hok:xK X.prog X.w H' s'.heap)(hg:AllBare s'.gens)(hch:∀b∈ch,(b∈X.ex\/X.s₀.heap.objs.size<=b)/\b≠X.env.locals/\(∀x c,X.env.cells.lookup x=some c->c≠b)/\∀p∈X.pn++pins,p.1≠b):Inv X pins σ H' s':=by
 obtain⟨h',g',d',t',o'⟩:=s'
 have e:o'=s.os:=ho
 subst e
 exact I.call (g':=g') (t':=t') (d':=d') u hok hg hch
end
abbrev XK:=Value->Option Addr->Hp->Prop
abbrev St:=List (Option V)
abbrev VK:=V->Hp->Prop
abbrev TE:=St->Hp->VK->Prop
abbrev TT:=St->Hp->(Bool->Hp->Prop)->Prop
abbrev TA:=St->Hp->(List V->Hp->Prop)->Prop
structure Ends where
 nx:St->Hp->Prop
 rt:VK
 bk:St->Hp->Prop:=λ_ _=>False
 ct:St->Hp->Prop:=λ_ _=>False
abbrev TS:=Ends->St->Hp->Prop
def EP(X:Cx)(pins:List (Addr×Obj))(σ:St)(Q:VK)(u:Value)(s':Shared):Prop:=∃v H',Inv X pins σ H' s'/\RelV v u/\Q v H'
def TP(X:Cx)(pins:List (Addr×Obj))(σ:St)(Q:Bool->Hp->Prop)(b:Bool)(s':Shared):Prop:=∃H',Inv X pins σ H' s'/\Q b H'
def AP(X:Cx)(pins:List (Addr×Obj))(σ:St)(Q:List V->Hp->Prop)(us:List Value)(s':Shared):Prop:=∃vs H',Inv X pins σ H' s'/\Vals vs us/\Q vs H'
def SP(X:Cx)(pins:List (Addr×Obj))(D:Ends)(f:Flow)(s':Shared):Prop :=
 match f with
 | .next=>∃σ' H',Inv X pins σ' H' s'/\D.nx σ' H'
 | .brk=>∃σ' H',Inv X pins σ' H' s'/\D.bk σ' H'
 | .cont=>∃σ' H',Inv X pins σ' H' s'/\D.ct σ' H'
 | .ret u=>∃v σ' H',Inv X pins σ' H' s'/\RelV v u/\D.rt v H'
def PE(X:Cx)(e:Expr)(t:TE):Prop :=
 ∀(pins:List (Addr×Obj))(s:Shared)(σ:St)(H:Hp)(Q:VK),Inv X pins σ H s->t σ H Q->wpAny 'g' X.A (eval e X.env) (EP X pins σ Q) X.xe s
def PT(X:Cx)(e:Expr)(t:TT):Prop :=
 ∀(pins:List (Addr×Obj))(s:Shared)(σ:St)(H:Hp)(Q:Bool->Hp->Prop),Inv X pins σ H s->t σ H Q->wpAny 'g' X.A (isTrue e X.env (eval e X.env)) (TP X pins σ Q) X.xe s
def PW(X:Cx)(e:Expr)(t:TT):Prop :=
 ∀(whole:Sem Value)(pins:List (Addr×Obj))(s:Shared)(σ:St)(H:Hp)(Q:Bool->Hp->Prop),Inv X pins σ H s->t σ H Q->wpAny 'g' X.A (isTrue e X.env whole) (TP X pins σ Q) X.xe s
theorem PW.pt{X:Cx}{e:Expr}{t:TT}(h:PW X e t):PT X e t:=h _
def PA(X:Cx)(es:List Expr)(t:TA):Prop :=
 ∀(pos:Pos)(pins:List (Addr×Obj))(s:Shared)(σ:St)(H:Hp)(Q:List V->Hp->Prop),Inv X pins σ H s->t σ H Q->wpAny 'g' X.A (spliced (backTo pos (starEach es X.env))) (AP X pins σ Q) X.xe s
def PS(X:Cx)(st:Stmt)(t:TS):Prop :=
 ∀(pins:List (Addr×Obj))(s:Shared)(σ:St)(H:Hp)(D:Ends),Inv X pins σ H s->t D σ H->wpAny 'g' X.A (exec st X.env) (SP X pins D) X.xe s
def Il(X:Cx)(st:List Stmt)(t:TS):Prop :=
 ∀(pins:List (Addr×Obj))(s:Shared)(σ:St)(H:Hp)(D:Ends),Inv X pins σ H s->t D σ H->wpAny 'g' X.A (execs st X.env) (SP X pins D) X.xe s
theorem cS{α:Type}{t:Sem α}{Q Q':α->Shared->Prop}{M:Model}{A:Around}{E:Value->Shared->Prop}{s:Shared}(h:wpAny M A t Q E s)(hQ:∀a s,Q a s->Q' a s):wpAny M A t Q' E s:=ae8 h hQ λ_ _ x=>x
section
variable{X:Cx}
inductive XH(i:Nat)(σ:St)(H:Hp)(Q:VK):Prop where
 |mk v:(σ[i]?=some (some v))->(Q v H)->XH i σ H Q
def tC(v:V):TE:=λ_ H Q=>Q v H
theorem XI{i:Nat}{x:Str}{pos:Pos}(hN:X.N[i]?=some x)(hv:Vis X.env.scope x)(hd:(x==("__debug__":Str))=false:=by decide)(hcd:(x==("__classdict__":Str))=false:=by decide):PE X (.Name x pos) (XH i):=by
 intro pins s σ H Q I h
 obtain⟨v,e,h⟩:=h
 obtain⟨m,hn,hl⟩:=I.loc
 obtain⟨u,r,l⟩:=hl i x v hN e hv
 have fin:EP X pins σ Q u s:=⟨v,H,I,r,h⟩
 rcases l with ⟨hk,hm⟩|⟨hk,c,hc,hcell⟩
 ·exact wpAny_Name (wpAny_loadName_local I.ok.kind hk hn hm fin) hd
 ·rcases hk with hk|hk
  ·exact wpAny_Name (wpAny_loadName_cell I.ok.kind hk hc hcell fin) hd
  ·exact wpAny_Name (wpAny_loadName_free I.ok.kind hk hc hcell fin hcd) hd
theorem aq{i j pos}:PE X (.Constant (.int i) j pos) (tC (.int i)):=λ_ _ _ H _ I h=>wpAny_Constant_int ⟨.int i,H,I.tok _,⟨_,rfl⟩,h⟩
theorem fJ{b j pos}:PE X (.Constant (.bool b) j pos) (tC (.bl b)):=λ_ _ _ H _ I h=>Constant_bool ⟨.bl b,H,I,rfl,h⟩
theorem bf{j pos}:PE X (.Constant .none j pos) (tC .non):=λ_ _ _ H _ I h=>Constant_none ⟨.non,H,I,rfl,h⟩
theorem aB{x j pos}:PE X (.Constant (.str x) j pos) (tC (.str x)):=λ_ _ _ H _ I h=>Calls.Constant_str ⟨.str x,H,I.tok _,⟨_,rfl⟩,h⟩
def Gl(X:Cx)(x:Str):Prop:=X.env.kindOf x=some .globalImplicit
theorem oQ{E:Value->Shared->Prop}{pins:List (Addr×Obj)}{s:Shared}{σ:St}{H:Hp}{x:Str}{u:Value}{pos:Pos}{Q:Value->Shared->Prop}(I:Inv X pins σ H s)(hg:Gl X x)(hm:X.mg x=some u)(h:Q u s)(hd:(x==("__debug__":Str))=false:=by decide):wpAny 'g' X.A (eval (.Name x pos) X.env) Q E s :=
 Calls.Name_function_global I.ok.kind hg (Calls.loadGlobal_global (by rw[I.ok.glob];exact I.mod.glob.keeps I.bk) hm h) hd
theorem qB{E:Value->Shared->Prop}{pins:List (Addr×Obj)}{s:Shared}{σ:St}{H:Hp}{x:Str}{u:Value}{pos:Pos}{Q:Value->Shared->Prop}(I:Inv X pins σ H s)(hg:Gl X x)(hm:X.mg x=none)(hv:bootBuiltins x=some u)(h:Q u s)(hn:x ≠ "__name__":=by decide)(hd:(x==("__debug__":Str))=false:=by decide):wpAny 'g' X.A (eval (.Name x pos) X.env) Q E s:=by
 obtain⟨mb,h1,h2⟩:=I.mod.blt
 exact Calls.Name_function_global I.ok.kind hg (Calls.loadGlobal_builtin (by rw[I.ok.glob];exact I.mod.glob.keeps I.bk) hm (by rw[I.ok.blt];exact h1.keeps I.bk) ((h2 x hn).trans hv) h) hd
theorem Gb{x:Str}{v:V}{u:Value}{pos:Pos}(hg:Gl X x)(hm:X.mg x=some u)(r:RelV v u)(hd:(x==("__debug__":Str))=false:=by decide):PE X (.Name x pos) (tC v) :=
 λ_ _ _ H _ I h=>oQ I hg hm ⟨v,H,I,r,h⟩ hd
theorem UT{x:Str}{v:V}{u:Value}{pos:Pos}(hg:Gl X x)(hm:X.mg x=none)(hv:bootBuiltins x=some u)(r:RelV v u)(hn:x ≠ "__name__":=by decide)(hd:(x==("__debug__":Str))=false:=by decide):PE X (.Name x pos) (tC v) :=
 λ_ _ _ H _ I h=>qB I hg hm hv ⟨v,H,I,r,h⟩ hn hd
variable{a b:Expr}{ta tb:TE}{pos:Pos}
def PC(X:Cx)(op:CmpOp)(a b:Expr)(t:TE):Prop :=
 ∀(pins:List (Addr×Obj))(s:Shared)(σ:St)(H:Hp)(Q:VK),Inv X pins σ H s->t σ H Q->wpAny 'g' X.A (eval a X.env) (λv s₁=>wpAny 'g' X.A (eval b X.env) (λu s₂=>wpAny 'g' X.A (compareOp op v u) (EP X pins σ Q) X.xe s₂) X.xe s₁) X.xe s
theorem Im(b:Expr){op:CmpOp}(h:op≠.In)(h2:op≠.NotIn):behindInMarks op b=false:=by
 have e1:(op==CmpOp.In)=false:=by cases op<;>first|rfl|exact absurd rfl h
 have e2:(op==CmpOp.NotIn)=false:=by cases op<;>first|rfl|exact absurd rfl h2
 cases b<;>simp[behindInMarks,e1,e2]
inductive aar(Q:Bool->Hp->Prop)(x:V)(H1:Hp):Prop where
 |mk c:(x=.bl c)->(Q c H1)->aar Q x H1
def tB(t:TE):TT:=λσ H Q=>t σ H λx H1=>aar Q x H1
theorem XJ{op:CmpOp}{t:TE}(h:PC X op a b t)(h1:behindInMarks op b=false:=by first|exact Im _ 'c' 'c'|rfl):PE X (.Compare a [op] [b] pos) t:=λpins s σ H Q I hw=>wpAny_Compare1 (h pins s σ H Q I hw) h1
theorem KW{op:CmpOp}{t:TE}(h:PC X op a b t)(h1:behindInMarks op b=false:=by first|exact Im _ 'c' 'c'|rfl):PT X (.Compare a [op] [b] pos) (tB t):=by
 intro pins s σ H Q I hw
 refine wpAny_isTrue_Compare1 (cS (h pins s σ H _ I hw) λv s1 h1=>cS h1 λu s2 h2=>cS h2 λc s3 ⟨x,H1,I1,r1,q1⟩=>?_) h1
 obtain⟨d,rfl,q⟩:=q1
 cases r1
 exact afs ⟨H1,I1,q⟩
theorem bD{e:Expr}{t:TE}(h:PE X e t)(he:∀whole,isTrue e X.env whole=(do let v ←whole;standAt e.pos;holding [v] (truthy v)):=by intro _;rfl):PT X e (tB t):=by
 intro pins s σ H Q I hw
 refine isTrue_plain (cS (h pins s σ H _ I hw) λv s1 ⟨x,H1,I1,r1,q1⟩=>?_) (he _)
 obtain⟨d,rfl,q⟩:=q1
 cases r1
 exact afs ⟨H1,I1,q⟩
variable{tA tB':TT}{rest:List Expr}
def ab0(t u:TT):TT:=λσ H Q=>t σ H λc H1=>if c=true then u σ H1 Q else Q false H1
def tOr(t u:TT):TT:=λσ H Q=>t σ H λc H1=>if c=true then Q true H1 else u σ H1 Q
def ab1(t:TT):TT:=λσ H Q=>t σ H λc H1=>Q (!c) H1
theorem jv(ha:PT X a tA):PW X (.BoolOp .And [a] pos) tA:=by
 intro wh pins s σ H Q I h
 refine isTrue_and (cS (ha pins s σ H Q I h) λc s1 e=>?_)
 cases c with
 |true=>exact isTrue_and_nil e
 |false=>exact e
theorem fD(ha:PT X a tA):PW X (.BoolOp .Or [a] pos) tA:=by
 intro wh pins s σ H Q I h
 refine isTrue_or (cS (ha pins s σ H Q I h) λc s1 e=>?_)
 cases c with
 |false=>exact isTrue_or_nil e
 |true=>exact e
theorem nj(ha:PT X a tA)(hb:PW X (.BoolOp .And (b::rest) pos) tB'):PW X (.BoolOp .And (a::b::rest) pos) (ab0 tA tB'):=by
 intro wh pins s σ H Q I h
 refine isTrue_and (cS (ha pins s σ H _ I h) λc s1 ⟨H1,I1,q1⟩=>?_)
 cases c with
 |true=>exact hb wh pins s1 σ H1 Q I1 q1
 |false=>exact⟨H1,I1,q1⟩
theorem ia(ha:PT X a tA)(hb:PW X (.BoolOp .Or (b::rest) pos) tB'):PW X (.BoolOp .Or (a::b::rest) pos) (tOr tA tB'):=by
 intro wh pins s σ H Q I h
 refine isTrue_or (cS (ha pins s σ H _ I h) λc s1 ⟨H1,I1,q1⟩=>?_)
 cases c with
 |true=>exact⟨H1,I1,q1⟩
 |false=>exact hb wh pins s1 σ H1 Q I1 q1
theorem bT(ha:PT X a tA):PT X (.UnaryOp .Not a pos) (ab1 tA):=by
 intro pins s σ H Q I h
 exact isTrue_not (ha pins s σ H (λc H1=>Q (!c) H1) I h)
inductive Nl(tb:TE)(σ:St)(Q:VK)(x:V)(H1:Hp):Prop where
 |mk c:(x=.bl c)->(if c=true then tb σ H1 Q else Q (.bl false) H1)->Nl tb σ Q x H1
def aas(ta tb:TE):TE:=λσ H Q=>ta σ H λx H1=>Nl tb σ Q x H1
inductive Q8(tb:TE)(σ:St)(Q:VK)(x:V)(H1:Hp):Prop where
 |mk c:(x=.bl c)->(if c=true then Q (.bl true) H1 else tb σ H1 Q)->Q8 tb σ Q x H1
def ab2(ta tb:TE):TE:=λσ H Q=>ta σ H λx H1=>Q8 tb σ Q x H1
inductive Nm(Q:VK)(x:V)(H1:Hp):Prop where
 |mk c:(x=.bl c)->(Q (.bl (!c)) H1)->Nm Q x H1
def aat(ta:TE):TE:=λσ H Q=>ta σ H λx H1=>Nm Q x H1
theorem nk{op}{t:TE}(h:PE X a t):PE X (.BoolOp op [a] pos) t:=λpins s σ H Q I hw=>BoolOp_one (h pins s σ H Q I hw)
theorem oR(ha:PE X a ta)(hb:PE X (.BoolOp .And (b::rest) pos) tb):PE X (.BoolOp .And (a::b::rest) pos) (aas ta tb):=by
 intro pins s σ H Q I h
 refine BoolOp_and (cS (ha pins s σ H _ I h) λv s1 ⟨x,H1,I1,r1,q1⟩=>?_)
 obtain⟨c,rfl,q1⟩:=q1
 cases r1
 refine afs ?_
 cases c with
 |true=>exact hb pins s1 σ H1 Q I1 q1
 |false=>exact⟨.bl false,H1,I1,rfl,q1⟩
theorem W7(ha:PE X a ta)(hb:PE X (.BoolOp .Or (b::rest) pos) tb):PE X (.BoolOp .Or (a::b::rest) pos) (ab2 ta tb):=by
 intro pins s σ H Q I h
 refine BoolOp_or (cS (ha pins s σ H _ I h) λv s1 ⟨x,H1,I1,r1,q1⟩=>?_)
 obtain⟨c,rfl,q1⟩:=q1
 cases r1
 refine afs ?_
 cases c with
 |false=>exact hb pins s1 σ H1 Q I1 q1
 |true=>exact⟨.bl true,H1,I1,rfl,q1⟩
theorem Q9(ha:PE X a ta):PE X (.UnaryOp .Not a pos) (aat ta):=by
 intro pins s σ H Q I h
 refine UnaryOp_ (cS (ha pins s σ H _ I h) λv s1 ⟨x,H1,I1,r1,q1⟩=>?_)
 obtain⟨c,rfl,q1⟩:=q1
 cases r1
 exact not_of (afs ⟨.bl (!c),H1,I1,rfl,q1⟩)
def tIf(t:TT)(ta tb:TE):TE:=λσ H Q=>t σ H λc H1=>if c=true then ta σ H1 Q else tb σ H1 Q
theorem kE{c:Expr}(hc:PT X c tA)(ha:PE X a ta)(hb:PE X b tb):PE X (.IfExp c a b pos) (tIf tA ta tb):=by
 intro pins s σ H Q I h
 refine wpAny_IfExp (cS (hc pins s σ H _ I h) λd s1 ⟨H1,I1,q1⟩=>?_)
 cases d with
 |true=>exact ha pins s1 σ H1 Q I1 q1
 |false=>exact hb pins s1 σ H1 Q I1 q1
end
def aT(K:W.Frag)(H:Hp)(a:Addr)(xs:List V):Prop :=
 Rd H a (.lst xs)\/
  ∃(o:Obj)(its:Array Value)(n:Nat),K.lookup a=some o/\o.cls=.type "list"/\o.dict=none/\o.data=.seq its n/\its.size<=sizeLine/\Vals xs its.toList
def aX(K:W.Frag)(H:Hp)(a:Addr)(xs:List V):Prop :=
 Rd H a (.tup xs)\/
  ∃(o:Obj)(its:Array Value)(n:Nat),K.lookup a=some o/\o.cls=.type "tuple"/\o.data=.seq its n/\its.size<=sizeLine/\Vals xs its.toList
def ab3:Value->Option V
 | .none=>some .non
 | .bool b=>some (.bl b)
 | .int i _=>some (.int i)
 | .str x _=>some (.str x)
 | .bytes b _=>some (.QN b)
 | .float b _=>some (.lU b)
 | .ref a=>some (.ref a)
 | .type n=>some (.ty n)
 |_=>none
theorem RelV.abs{x:V}{u:Value}(r:RelV x u):ab3 u=some x:=by
 cases x with
 |non=>cases r;rfl
 |bl _=>cases r;rfl
 |int _=>obtain⟨t,rfl⟩:=r;rfl
 |str _=>obtain⟨t,rfl⟩:=r;rfl
 |QN _=>obtain⟨t,rfl⟩:=r;rfl
 |lU _=>obtain⟨t,rfl⟩:=r;rfl
 |ref _=>cases r;rfl
 |ty _=>cases r;rfl
theorem RelV.inj{x y:V}{u:Value}(r:RelV x u)(q:RelV y u):x=y:=aes (r.abs.symm.trans q.abs)
theorem Vals.inj:∀{xs ys:List V}{us:List Value},Vals xs us->Vals ys us->xs=ys
 |_,_,_,.nil,.nil=>rfl
 |_,_,_,.cons r t,.cons r' t'=>by rw[r.inj r',Vals.inj t t']
section
variable{X:Cx}{pins:List (Addr×Obj)}{σ:St}{H:Hp}{s:Shared}{a:Addr}{xs ys:List V}
theorem aT.of{K:W.Frag}(h:H a=some (.lst xs)):aT K H a xs:=.inl (.inl h)
theorem aX.of{K:W.Frag}(h:H a=some (.tup xs)):aX K H a xs:=.inl (.inl h)
theorem Inv.list(I:Inv X pins σ H s)(h:aT X.K H a xs):∃its:List Value,Vals xs its/\PlainL s.heap a its.toArray/\xs.length<=sizeLine:=by
 rcases h with h|⟨o,its,n,hk,hc,hd,hs,hz,r⟩
 ·obtain⟨z,its,n,r,e⟩:=h.ok I.hok
  exact⟨its,r,⟨_,n,e,O,O,O⟩,z⟩
 ·refine⟨its.toList,r,⟨o,n,I.nQ a o hk,hc,hd,by simpa using hs⟩,?_⟩
  have e:=r.length
  simp only[aeq]at e
  omega
theorem Inv.tuple(I:Inv X pins σ H s)(h:aX X.K H a xs):∃its:List Value,Vals xs its/\IsTup s.heap a its.toArray/\xs.length<=sizeLine:=by
 rcases h with h|⟨o,its,n,hk,hc,hs,hz,r⟩
 ·obtain⟨z,its,r,p⟩:=h.ok I.hok
  exact⟨its,r,p,z⟩
 ·refine⟨its.toList,r,⟨o,I.nQ a o hk,hc,n,by simpa using hs⟩,?_⟩
  have e:=r.length
  simp only[aeq]at e
  omega
theorem Inv.vt(I:Inv X pins σ H s)(h:aT X.K H a xs)(h':aT X.K H a ys):xs=ys:=by
 obtain⟨its,r,⟨o,n,e,_,_,d⟩,_⟩:=I.list h
 obtain⟨its',r',⟨o',n',e',_,_,d'⟩,_⟩:=I.list h'
 rw[e]at e';cases e'
 rw[d]at d'
 injection d' with d1 _
 have:its=its':=by simpa using congrArg Array.toList d1
 subst this
 exact r.inj r'
theorem Inv.xN(I:Inv X pins σ H s)(h:aX X.K H a xs)(h':aX X.K H a ys):xs=ys:=by
 obtain⟨its,r,⟨o,e,_,n,d⟩,_⟩:=I.tuple h
 obtain⟨its',r',⟨o',e',_,n',d'⟩,_⟩:=I.tuple h'
 rw[e]at e';cases e'
 rw[d]at d'
 injection d' with d1 _
 have:its=its':=by simpa using congrArg Array.toList d1
 subst this
 exact r.inj r'
end
abbrev Cx.Br(X:Cx)(E:Value->Shared->Prop):Cx:={X with xe:=E}
abbrev Cx.XM(X:Cx):Cx:=X.Br λ_ _=>False
theorem Cx.Ok.Br{X:Cx}(ok:X.Ok)(E:Value->Shared->Prop):(X.Br E).Ok :=
 ⟨ok.mod,ok.kind,ok.glob,ok.blt,ok.above,ok.inj,ok.has,ok.cab,ok.hd,ok.frames,ok.stk,ok.exf,ok.bs,ok.UM,ok.Oq,ok.Q6,ok.xM,ok.W5⟩
theorem Cx.Ok.nq{X:Cx}{E:Value->Shared->Prop}(ok:(X.Br E).Ok):X.Ok :=
 ⟨ok.mod,ok.kind,ok.glob,ok.blt,ok.above,ok.inj,ok.has,ok.cab,ok.hd,ok.frames,ok.stk,ok.exf,ok.bs,ok.UM,ok.Oq,ok.Q6,ok.xM,ok.W5⟩
section
variable{X:Cx}{pins:List (Addr×Obj)}{σ:St}{H:Hp}{s:Shared}{E:Value->Shared->Prop}
theorem Inv.Br(I:Inv X pins σ H s)(E:Value->Shared->Prop):Inv (X.Br E) pins σ H s:=⟨I.ok.Br E,I.os,I.bare,I.base,I.loc,I.cell,I.free,I.kD,I.pin,I.hok,I.len⟩
theorem Inv.nq(I:Inv (X.Br E) pins σ H s):Inv X pins σ H s:=⟨I.ok.nq,I.os,I.bare,I.base,I.loc,I.cell,I.free,I.kD,I.pin,I.hok,I.len⟩
theorem SP.nq{D:Ends}{f:Flow}{s':Shared}(h:SP (X.Br E) pins D f s'):SP X pins D f s':=by
 cases f with
 |next=>obtain⟨σ',H',I,q⟩:=h;exact⟨σ',H',I.nq,q⟩
 |brk=>obtain⟨σ',H',I,q⟩:=h;exact⟨σ',H',I.nq,q⟩
 |cont=>obtain⟨σ',H',I,q⟩:=h;exact⟨σ',H',I.nq,q⟩
 |ret u=>obtain⟨v,σ',H',I,r,q⟩:=h;exact⟨v,σ',H',I.nq,r,q⟩
theorem Il.XM{st:List Stmt}{t:TS}(h:Il X.XM st t):Il X st t:=λpins s σ H D I hw =>
 ae8 (h pins s σ H D (I.Br _) hw) (λ_ _ q=>q.nq) λ_ _ z=>False.elim z
end
section
variable{X:Cx}{st:Stmt}{rest:List Stmt}{t u:TS}{e:Expr}{te:TE}{pos:Pos}
def Bs:TS:=λD σ H=>D.nx σ H
def UU(t u:TS):TS:=λD σ H=>t {D with nx:=u D} σ H
theorem aC:Il X [] Bs:=λ_ _ σ H _ I h=>wpAny_execs_nil ⟨σ,H,I,h⟩
theorem aj(h1:PS X st t)(h2:Il X rest u):Il X (st::rest) (UU t u):=by
 intro pins s σ H D I h
 refine wpAny_execs_cons (cS (h1 pins s σ H {D with nx:=u D} I h) λf s1 q=>?_)
 cases f with
 |next =>
  obtain⟨σ',H',I',q⟩:=q
  exact h2 pins s1 σ' H' D I' q
 |ret v=>exact q
 |brk=>exact q
 |cont=>exact q
theorem ak(h1:PS X st t):Il X [st] t:=by
 intro pins s σ H D I h
 refine wpAny_execs_cons (cS (h1 pins s σ H D I h) λf s1 q=>?_)
 cases f with
 |next=>exact wpAny_execs_nil q
 |ret v=>exact q
 |brk=>exact q
 |cont=>exact q
theorem Inv.quiet{pins:List (Addr×Obj)}{σ:St}{H:Hp}{s:Shared}(I:Inv X pins σ H s):interactive X.env=false:=by simp[interactive,I.ok.kind]
def aau(te:TE):TS:=λD σ H=>te σ H λ_ H1=>D.nx σ H1
theorem cH(he:PE X e te)(hs:swapsWith e none pos.line X.env=pure false:=by rfl):PS X (.Expr e pos) (aau te):=by
 intro pins s σ H D I h
 exact wpAny_Expr_any (cS (he pins s σ H _ I h) λv s1 ⟨x,H1,I1,r1,q1⟩=>⟨σ,H1,I1,q1⟩) I.quiet hs
def ab4(te:TE):TS:=λD σ H=>te σ H D.rt
theorem ay(he:PE X e te):PS X (.Return (some e) pos) (ab4 te):=by
 intro pins s σ H D I h
 exact wpAny_Return_some (cS (he pins s σ H _ I h) λv s1 ⟨x,H1,I1,r1,q1⟩=>⟨x,σ,H1,I1,r1,q1⟩)
def aav(c:TT)(t u:TS):TS:=λD σ H=>c σ H λb H1=>if b=true then t D σ H1 else u D σ H1
theorem aP{c:Expr}{a b:List Stmt}{tc:TT}(hc:PT X c tc)(ha:Il X a t)(hb:Il X b u):PS X (.If c a b pos) (aav tc t u):=by
 intro pins s σ H D I h
 refine wpAny_If (cS (hc pins s σ H _ I h) λd s1 ⟨H1,I1,q1⟩=>?_)
 cases d with
 |true=>exact ha pins s1 σ H1 D I1 q1
 |false=>exact hb pins s1 σ H1 D I1 q1
def XO:TS:=λ_ _ _=>False
theorem gH:PS X st XO:=λ_ _ _ _ _ _ h=>h.elim
end
abbrev TG:=V->St->Hp->(St->Hp->Prop)->Prop
abbrev W8:=List V->St->Hp->(St->Hp->Prop)->Prop
def PG(X:Cx)(target:Expr)(t:TG):Prop :=
 ∀(pins:List (Addr×Obj))(s:Shared)(σ:St)(H:Hp)(v:V)(u:Value)(Q:St->Hp->Prop),Inv X pins σ H s->RelV v u->t v σ H Q->wpAny 'g' X.A (assign target X.env u) (λ_ s'=>∃σ' H',Inv X pins σ' H' s'/\Q σ' H') X.xe s
def PGs(X:Cx)(ts:List Expr)(t:W8):Prop :=
 ∀(pins:List (Addr×Obj))(s:Shared)(σ:St)(H:Hp)(vs:List V)(us:List Value)(Q:St->Hp->Prop),Inv X pins σ H s->Vals vs us->t vs σ H Q->wpAny 'g' X.A (assignInOrder ((assignEach ts X.env).map (·.2)) us) (λ_ s'=>∃σ' H',Inv X pins σ' H' s'/\Q σ' H') X.xe s
section
variable{X:Cx}{pos:Pos}
def bF(i:Nat):TG:=λv σ H Q=>Q (σ.set i (some v)) H
theorem UW{i:Nat}{x:Str}(hN:X.N.Nodup)(hi:X.N[i]?=some x)(hx:Loc X.env.scope x)(hf:X.fn x=true\/X.env.scope.names.lookup x=some .local:=by first|exact .inl rfl|exact .inr rfl|assumption):PG X (.Name x pos) (bF i):=by
 intro pins s σ H v u Q I r h
 exact wpAny_assign_Name (Bq I hN hi hx r (λs' I'=>⟨_,H,I',h⟩) hf)
def ab5:W8:=λvs σ H Q=>vs=[]/\Q σ H
def aaw(t:TG)(u:W8):W8:=λvs σ H Q=>∃v r,vs=v::r/\t v σ H λσ' H'=>u r σ' H' Q
theorem mh:PGs X [] ab5:=by
 intro pins s σ H vs us Q I r h
 obtain⟨e,h⟩:=h
 subst e
 cases r
 exact assignInOrder_nil ⟨σ,H,I,h⟩
theorem cN{e:Expr}{es:List Expr}{t:TG}{u:W8}(h1:PG X e t)(h2:PGs X es u)(hs:(assignEach (e::es) X.env).map (·.2)=assign e X.env::(assignEach es X.env).map (·.2):=by rfl):PGs X (e::es) (aaw t u):=by
 intro pins s σ H vs us Q I r h
 obtain⟨v,vr,e1,h⟩:=h
 subst e1
 cases r with
 |cons r rr =>
  rw[hs]
  refine assignInOrder_cons (cS (h1 pins s σ H _ _ _ I r h) λ_ s1 ⟨σ1,H1,I1,q1⟩=>?_)
  exact h2 pins s1 σ1 H1 _ _ Q I1 rr q1
def aax(K:W.Frag)(n:Nat)(t:W8):TG:=λv σ H Q=>∃a xs,v=.ref a/\aX K H a xs/\xs.length=n/\t xs σ H Q
theorem XQ{es:List Expr}{k:Nat}{t:W8}{n:Nat}(hc:X.calm=true)(h:PGs X es t)(hn:(assignEach es X.env).length=n:=by rfl)(hst:(assignEach es X.env).findIdx? (·.1)=none:=by rfl):PG X (.Tuple es k pos) (aax X.K n t):=by
 intro pins s σ H v u Q I r hw
 obtain⟨a,xs,e1,hq,hl,hw⟩:=hw
 subst e1
 cases r
 obtain⟨its,rv,ht,hz⟩:=I.tuple hq
 refine assign_Tuple_tuple (I.ok.hd hc) ht (by simp[hn,←hl,rv.length]) hst λh' hx=>?_
 have I1:Inv X pins σ H {s with heap:=h'}:=I.kept (t':=s.toks) λb o e=>hx b o (aeH (aei e)) e
 exact h pins _ σ H xs _ Q I1 (by simpa using rv) hw
def UX(te:TE)(g:TG):TS:=λD σ H=>te σ H λx H1=>g x σ H1 D.nx
theorem KY{tg e:Expr}{te:TE}{g:TG}(he:PE X e te)(hg:PG X tg g)(hs:swapsWithSole [tg] e pos.line X.env=pure false:=by rfl)(hw:swappedStores [tg] e X.env=pure none:=by rfl)(h1:(assignEach [tg] X.env).map (·.2)=[assign tg X.env]:=by rfl):PS X (.Assign [tg] e pos) (UX te g):=by
 intro pins s σ H D I h
 refine wpAny_Assign_stores (cS (he pins s σ H _ I h) λv s1 ⟨x,H1,I1,r1,q1⟩=>?_) hs hw
 rw[h1]
 exact cS (hg pins s1 σ H1 x v _ I1 r1 q1) λ_ s2 q=>q
theorem XR{i:Nat}{x:Str}{e:Expr}{te:TE}{pos':Pos}(hN:X.N.Nodup)(hi:X.N[i]?=some x)(hx:Loc X.env.scope x)(he:PE X e te)(hs:swapsWith e (some (.Name x pos')) pos.line X.env=pure false:=by rfl)(hf:X.fn x=true\/X.env.scope.names.lookup x=some .local:=by first|exact .inl rfl|exact .inr rfl|assumption):PS X (.Assign [.Name x pos'] e pos) (UX te (bF i)):=by
 intro pins s σ H D I h
 refine wpAny_Assign_Name (cS (he pins s σ H _ I h) λv s1 ⟨y,H1,I1,r1,q1⟩=>?_) hs
 exact Bq I1 hN hi hx r1 (λs2 I2=>⟨_,H1,I2,q1⟩) hf
end
section
variable{X:Cx}{pos:Pos}
def XS(c:TT)(tb:TS):TS:=λD σ H=>∃W:Nat->St->Hp->Prop,(∃m,W m σ H)/\∀m σ H,W m σ H->c σ H λb H1=>if b=true then ∃N:St->Hp->Prop,(∀σ' H',N σ' H'->∃m',m'<m/\W m' σ' H')/\tb {D with nx:=N,ct:=N,bk:=D.nx} σ H1 else D.nx σ H1
theorem vv{c:Expr}{body:List Stmt}{tc:TT}{tb:TS}(hp:PassesOwn 'g' X.A X.env X.xe)(hc:PT X c tc)(hb:Il X body tb):PS X (.While c body [] pos) (XS tc tb):=by
 intro pins s σ H D I h
 obtain⟨W,⟨m0,w0⟩,turn⟩:=h
 refine wpAny_While (codeAny_whileLoop (λn s'=>∃σ' H',Inv X pins σ' H' s'/\W n σ' H') ?_ m0 ⟨σ,H,I,w0⟩)
 rintro n s1 ⟨σ1,H1,I1,w1⟩
 refine afP hp (cS (hc pins s1 σ1 H1 _ I1 (turn n σ1 H1 w1)) λb s2 ⟨H2,I2,q2⟩=>?_)
 cases b with
 |true =>
  obtain⟨N,hN,q2⟩:=q2
  rw[aee rfl]
  refine afP hp (cS (hb pins s2 σ1 H2 _ I2 q2) λf s3 q3=>?_)
  cases f with
  |next =>
   obtain⟨σ3,H3,I3,n3⟩:=q3
   obtain⟨m',hm,w3⟩:=hN σ3 H3 n3
   exact⟨m',hm,σ3,H3,I3,w3⟩
  |cont =>
   obtain⟨σ3,H3,I3,n3⟩:=q3
   obtain⟨m',hm,w3⟩:=hN σ3 H3 n3
   exact⟨m',hm,σ3,H3,I3,w3⟩
  |brk=>exact q3
  |ret v=>exact q3
 |false =>
  rw[ad5 aev]
  exact wpAny_execs_nil ⟨σ1,H2,I2,q2⟩
end
structure It where
 go:Nat->Hp->Prop
 QO:Nat->Hp->V->Hp->Prop
 stop:Nat->Hp->Prop
def vz(X:Cx)(pins:List (Addr×Obj))(H:Hp)(b:Addr):Prop :=
 H b=none/\b≠X.env.locals/\b∉X.fs/\(b∈X.ex\/X.s₀.heap.objs.size<=b)/\(∀x c,X.env.cells.lookup x=some c->c≠b)/\∀p∈X.pn++pins,p.1≠b
theorem Inv.vA{X:Cx}{pins:List (Addr×Obj)}{σ:St}{H H':Hp}{s:Shared}{b:Addr}(I:Inv X pins σ H s)(hb:s.heap.objs.size<=b)(hn:H' b=none):vz X pins H' b:=by
 refine⟨hn,afF (aeu I.lt hb),I.abY hb,.inr (aep I.sz hb),λx c e z=>?_,λp hp z=>?_⟩
 ·obtain⟨v,q⟩:=I.cell x c e
  exact absurd (aeu q.lt (by rw[z];exact hb)) (afR _)
 ·exact absurd (aeu (aei (I.pin p hp).1) (by rw[z];exact hb)) (afR _)
structure Turn(P:Program)(w:World)(K:W.Frag)(tg:Expr)(J:It)(fp:List Addr)(it:Addr)(tn:Nat->Heap->Prop):Prop where
 mem:it∈fp
 obj:∀i h,tn i h->∀b∈fp,∃o,h.get? b=some o/\∀v,o.data≠.cell v
 keep:∀i h h',tn i h->(∀b∈fp,∀o,h.get? b=some o->h'.get? b=some o)->tn i h'
 item:∀(X:Cx),X.prog=P->X.w=w->X.K=K->X.calm=true->∀(i:Nat)(pins:List (Addr×Obj))(s:Shared)(σ:St)(H:Hp)(E:Value->Shared->Prop),Inv X pins σ H s->(∀b∈fp,vz X pins H b)->tn i s.heap->J.go i H->wpAny (model P w) X.A (pyNext (.ref it)) (λr s1=>∃u,r=some u/\wpAny (model P w) X.A (letOwnedTupleGo tg (.ref it) u) (λ_ s2=>∃x H',Inv X pins σ H' s2/\RelV x u/\J.QO i H x H'/\tn (i+1) s2.heap/\∀b∈fp,H' b=none) E s1) E s
 done:∀(X:Cx),X.prog=P->X.w=w->X.K=K->X.calm=true->∀(i:Nat)(pins:List (Addr×Obj))(s:Shared)(σ:St)(H:Hp)(E:Value->Shared->Prop),Inv X pins σ H s->(∀b∈fp,vz X pins H b)->tn i s.heap->J.stop i H->wpAny (model P w) X.A (pyNext (.ref it)) (λr s1=>r=none/\Inv X pins σ H s1) E s
 self:∀(A:Around)(i:Nat)(s:Shared)(Q:Value->Shared->Prop)(E:Value->Shared->Prop),tn i s.heap->Q (.ref it) s->wpAny (model P w) A (pyIter (.ref it)) Q E s
abbrev TI:=St->Hp->(It->Hp->Prop)->Prop
def PIE(X:Cx)(pins:List (Addr×Obj))(σ:St)(tg:Expr)(R:It->Hp->Prop)(itv:Value)(s2:Shared):Prop :=
 ∃(it:Addr)(fp:List Addr)(tn:Nat->Heap->Prop)(J:It)(H':Hp),itv=.ref it/\Inv X pins σ H' s2/\Turn X.prog X.w X.K tg J fp it tn/\tn 0 s2.heap/\(∀b∈fp,vz X pins H' b)/\R J H'
def PI(X:Cx)(tg iter:Expr)(wi:TI):Prop :=
 ∀(pins:List (Addr×Obj))(s:Shared)(σ:St)(H:Hp)(R:It->Hp->Prop),Inv X pins σ H s->wi σ H R->wpAny 'g' X.A (eval iter X.env) (λv s1=>wpAny 'g' X.A (pyIter v) (PIE X pins σ tg R) X.xe s1) X.xe s
theorem Ew{M:Model}{A:Around}{E:Value->Shared->Prop}{s:Shared}{tg:Expr}{it:Addr}{u:Value}{o:Obj}{n:String}{vs:Array Value}{Q:Unit->Shared->Prop}(ho:s.heap.get? it=some o)(hc:o.cls=.type n)(hd:o.data=.fields vs)(hn:["enumerate","zip","dict_itemiterator","dict_reverseitemiterator","odict_iterator","itertools.zip_longest","itertools.pairwise"].contains n=false)(hQ:Q () s):wpAny M A (letOwnedTupleGo tg (.ref it) u) Q E s:=by
 unfold letOwnedTupleGo
 cases tg<;>first
   |exact aea hQ
   | (cases u<;>first
       |exact aea hQ
       | (refine ad4 (wpAny_load ho ?_)
          rw[hc,hd]
          show wpAny M A (if (["enumerate","zip","dict_itemiterator","dict_reverseitemiterator","odict_iterator","itertools.zip_longest","itertools.pairwise"].contains n&&vs[0]?==some (rawInt _))=true then _ else _) Q E s
          rw[ad5 (by intro h;rw[hn,Bool.false_and]at h;cases h)]
          exact aea hQ))
def Itl(K:W.Frag)(a:Addr):It :=
 ⟨λi H=>∃xs x,aT K H a xs/\xs[i]?=some x,λi H x H'=>H'=H/\∀xs,aT K H a xs->xs[i]?=some x,λi H=>∃xs,aT K H a xs/\xs.length<=i⟩
def Itt(K:W.Frag)(a:Addr):It :=
 ⟨λi H=>∃xs x,aX K H a xs/\xs[i]?=some x,λi H x H'=>H'=H/\∀xs,aX K H a xs->xs[i]?=some x,λi H=>∃xs,aX K H a xs/\xs.length<=i⟩
def Itr(lo:Int)(n:Nat):It:=⟨λi _=>i<n,λi H x H'=>H'=H/\x=.int (lo+i),λi _=>n<=i⟩
theorem Ot{P:Program}{w:World}{K:W.Frag}{tg:Expr}(a it:Addr):Turn P w K tg (Itl K a) [it] it (λi h=>h.IsListIter it a i) where
 mem:=by simp
 obj:=λi h st b hb=>by
  have e:b=it:=by simpa using hb
  subst e
  obtain⟨o,e,c,d⟩:=st
  exact⟨o,e,λv z=>by rw[d]at z;cases z⟩
 keep:=λi h h' st k=>st.at λo e=>k it (by simp) o e
 item:=by
  intro X hP hw hK hc i pins s σ H E I hf st hg
  subst hP hw hK
  obtain⟨xs,x,hq,hx⟩:=hg
  obtain⟨its,rv,p,hz⟩:=I.list hq
  obtain⟨u,hu,ru⟩:=rv.get hx
  obtain⟨f0,f1,f2,f3,f4,f5⟩:=hf it (by simp)
  refine wpAny_pyNext_list_item st p.isList (x:=u) (by simpa using hu) λh' st' sb=>?_
  have I1:Inv X pins σ H {s with heap:=h'}:=I.turned (t':=s.toks) (λb o hb e=>(sb.2 b hb).trans e) f0 f1 f3 f4 f5
  obtain⟨o,e,c,d⟩:=id st'
  exact⟨u,rfl,Ew (s:={s with heap:=h'}) e c d 'c' ⟨x,H,I1,ru,⟨rfl,λys hy=>by rw[I.vt hy hq];exact hx⟩,st',λb hb=>(hf b hb).1⟩⟩
 done:=by
  intro X hP hw hK hc i pins s σ H E I hf st hg
  subst hP hw hK
  obtain⟨xs,hq,hx⟩:=hg
  obtain⟨its,rv,p,hz⟩:=I.list hq
  obtain⟨f0,f1,f2,f3,f4,f5⟩:=hf it (by simp)
  have hl:=rv.length
  exact wpAny_pyNext_list_end (I.ok.hd hc) st p.isList (by simp;omega) λh' eb=>⟨rfl,I.turned (t':=s.toks) (λb o hb e=>eb b o hb e) f0 f1 f3 f4 f5⟩
 self:=λ_ _ _ _ _ st h=>wpAny_pyIter_listiter st h
theorem KZ{P:Program}{w:World}{K:W.Frag}{tg:Expr}(a it:Addr):Turn P w K tg (Itt K a) [it] it (λi h=>h.IsTupleIter it a i) where
 mem:=by simp
 obj:=λi h st b hb=>by
  have e:b=it:=by simpa using hb
  subst e
  obtain⟨o,e,c,d⟩:=st
  exact⟨o,e,λv z=>by rw[d]at z;cases z⟩
 keep:=λi h h' st k=>st.at λo e=>k it (by simp) o e
 item:=by
  intro X hP hw hK hc i pins s σ H E I hf st hg
  subst hP hw hK
  obtain⟨xs,x,hq,hx⟩:=hg
  obtain⟨its,rv,p,hz⟩:=I.tuple hq
  obtain⟨u,hu,ru⟩:=rv.get hx
  obtain⟨f0,f1,f2,f3,f4,f5⟩:=hf it (by simp)
  refine wpAny_pyNext_tuple_item st (show s.heap.IsTuple a its.toArray from p) (x:=u) (by simpa using hu) λh' st' sb=>?_
  have I1:Inv X pins σ H {s with heap:=h'}:=I.turned (t':=s.toks) (λb o hb e=>(sb.2 b hb).trans e) f0 f1 f3 f4 f5
  obtain⟨o,e,c,d⟩:=id st'
  exact⟨u,rfl,Ew (s:={s with heap:=h'}) e c d 'c' ⟨x,H,I1,ru,⟨rfl,λys hy=>by rw[I.xN hy hq];exact hx⟩,st',λb hb=>(hf b hb).1⟩⟩
 done:=by
  intro X hP hw hK hc i pins s σ H E I hf st hg
  subst hP hw hK
  obtain⟨xs,hq,hx⟩:=hg
  obtain⟨its,rv,p,hz⟩:=I.tuple hq
  obtain⟨f0,f1,f2,f3,f4,f5⟩:=hf it (by simp)
  have hl:=rv.length
  exact wpAny_pyNext_tuple_end (I.ok.hd hc) st (show s.heap.IsTuple a its.toArray from p) (by simp;omega) λh' eb=>⟨rfl,I.turned (t':=s.toks) (λb o hb e=>eb b o hb e) f0 f1 f3 f4 f5⟩
 self:=λ_ _ _ _ _ st h=>wpAny_pyIter_tupleiter st h
theorem K0{P:Program}{w:World}{K:W.Frag}{tg:Expr}(it:Addr)(lo:Int)(n:Nat):Turn P w K tg (Itr lo n) [it] it (λi h=>IsRangeIter h it (lo+(i:Nat)*1) ((n:Int)-(i:Nat)) 1) where
 mem:=by simp
 obj:=λi h st b hb=>by
  have e:b=it:=by simpa using hb
  subst e
  exact⟨_,st,λv z=>by
   have z':Data.fields _=Data.cell v:=z
   cases z'⟩
 keep:=λi h h' st k=>k it (by simp) _ st
 item:=by
  intro X hP hw hK hc i pins s σ H E I hf st hg
  subst hP hw hK
  obtain⟨f0,f1,f2,f3,f4,f5⟩:=hf it (by simp)
  have W:=Walks.range (prog:=X.prog) (w:=X.w) (I.ok.hd hc) it lo 1 n
  refine W.item i s _ _ hg st λv h' tk hv st' kk=>?_
  obtain⟨t,rfl⟩:=hv
  have I1:Inv X pins σ H {s with heap:=h',toks:=tk}:=I.turned (λb o hb e=>kk b o (by simpa using hb) e) f0 f1 f3 f4 f5
  refine⟨_,rfl,Ew (s:={s with heap:=h',toks:=tk}) (n:="range_iterator") st' rfl rfl 'c' ⟨.int (lo+i),H,I1,⟨t,?_⟩,⟨rfl,rfl⟩,st',λb hb=>(hf b hb).1⟩⟩
  rw[Int.mul_one]
 done:=by
  intro X hP hw hK hc i pins s σ H E I hf st hg
  subst hP hw hK
  obtain⟨f0,f1,f2,f3,f4,f5⟩:=hf it (by simp)
  exact wpAny_pyNext_range_end (I.ok.hd hc) st (by have:n<=i:=hg;omega) λh' eb=>⟨rfl,I.turned (t':=s.toks) (λb o hb e=>eb b o hb e) f0 f1 f3 f4 f5⟩
 self:=λ_ _ _ _ _ st h=>wpAny_pyIter_rangeiter st h
section
variable{X:Cx}{tg:Expr}
def W9(K:W.Frag)(tl:TE):TI:=λσ H R=>tl σ H λx H1=>∃a,x=.ref a/\(∃xs,aT K H1 a xs)/\R (Itl K a) H1
def aay(K:W.Frag)(tl:TE):TI:=λσ H R=>tl σ H λx H1=>∃a,x=.ref a/\(∃xs,aX K H1 a xs)/\R (Itt K a) H1
theorem UY{l:Expr}{tl:TE}(hl:PE X l tl):PI X tg l (W9 X.K tl):=by
 intro pins s σ H R I h
 refine cS (hl pins s σ H _ I h) λv s1 ⟨x,H1,I1,r1,q1⟩=>?_
 obtain⟨a,e,⟨xs,hq⟩,q⟩:=q1
 subst e
 cases r1
 obtain⟨its,rv,p,hz⟩:=I1.list hq
 refine afK p.isList ?_
 refine⟨s1.heap.objs.size,[s1.heap.objs.size],_,_,H1,rfl,I1.kept (t':=s1.toks) λb o e=>ad9 _ e,Ot a _,⟨_,ael _ rfl,rfl,rfl⟩,λb hb=>?_,q⟩
 have e:b=s1.heap.objs.size:=by simpa using hb
 subst e
 exact I1.vA (ad6 _) (I1.hok.fresh (ad6 _))
theorem XT{l:Expr}{tl:TE}(hl:PE X l tl):PI X tg l (aay X.K tl):=by
 intro pins s σ H R I h
 refine cS (hl pins s σ H _ I h) λv s1 ⟨x,H1,I1,r1,q1⟩=>?_
 obtain⟨a,e,⟨xs,hq⟩,q⟩:=q1
 subst e
 cases r1
 obtain⟨its,rv,p,hz⟩:=I1.tuple hq
 refine wpAny_pyIter_tuple (show s1.heap.IsTuple a its.toArray from p) ?_
 refine⟨s1.heap.objs.size,[s1.heap.objs.size],_,_,H1,rfl,I1.kept (t':=s1.toks) λb o e=>ad9 _ e,KZ a _,⟨_,ael _ rfl,rfl,rfl⟩,λb hb=>?_,q⟩
 have e:b=s1.heap.objs.size:=by simpa using hb
 subst e
 exact I1.vA (ad6 _) (I1.hok.fresh (ad6 _))
theorem Ra{pins:List (Addr×Obj)}{σ:St}{H:Hp}{s:Shared}{R:It->Hp->Prop}{E:Value->Shared->Prop}{lo hi:Int}{t u v:Tok}{tk:Nat}(I:Inv X pins σ H s)(h1 : -(2 ^ 62)<=lo)(h2:lo<2 ^ 62)(h3 : -(2 ^ 62)<=hi)(h4:hi<2 ^ 62)(q:R (Itr lo (hi-lo).toNat) H):wpAny 'g' X.A (pyIter (.ref s.heap.objs.size)) (PIE X pins σ tg R) E {s with heap:=s.heap.push {cls:=.type "range",data:=.fields #[.int lo t,.int hi u,.int 1 v]},toks:=tk}:=by
 refine wpAny_pyIter_range (IsRange.new ..) (small_one h1 h2 h3 h4) ?_
 have I1:Inv X pins σ H {s with heap:=s.heap.push {cls:=.type "range",data:=.fields #[.int lo t,.int hi u,.int 1 v]},toks:=tk}:=I.kept λb o e=>ad9 _ e
 refine⟨(s.heap.push {cls:=.type "range",data:=.fields #[.int lo t,.int hi u,.int 1 v]}).objs.size,[(s.heap.push {cls:=.type "range",data:=.fields #[.int lo t,.int hi u,.int 1 v]}).objs.size],_,_,H,rfl,I1.kept (t':=tk) λb o e=>ad9 _ e,K0 _ lo (hi-lo).toNat,?_,λb hb=>?_,q⟩
 ·have e1:lo+((0:Nat):Int)*1=lo:=by simp
  have e2:(((hi-lo).toNat:Nat):Int)-((0:Nat):Int)=Builtin.Range.rangeSize lo hi 1:=by rw[rangeSize_one];split<;>omega
  show IsRangeIter _ _ (lo+((0:Nat):Int)*1) ((((hi-lo).toNat:Nat):Int)-((0:Nat):Int)) 1
  rw[e1,e2]
  exact ael _ rfl
 ·have e:b=(s.heap.push {cls:=.type "range",data:=.fields #[.int lo t,.int hi u,.int 1 v]}).objs.size:=by simpa using hb
  subst e
  exact I1.vA (ad6 _) (I1.hok.fresh (ad6 _))
def aaz(ta:TA):TI:=λσ H R=>ta σ H λvs H1=>∃j:Int,vs=[.int j]/\-(2 ^ 62)<=j/\j<2 ^ 62/\R (Itr 0 j.toNat) H1
theorem sN{a:Expr}{ta:TA}{p pos:Pos}(hg:Gl X "range")(hm:X.mg "range"=none)(ha:PA X [a] ta)(hs:starEach [a] X.env=[(false,eval a X.env)]:=by rfl):PI X tg (.Call (.Name "range" p) [a] [] pos) (aaz ta):=by
 intro pins s σ H R I h
 refine Call_ (qB I hg hm boot_range (afi (cS (ha pos pins s σ H _ I h) λus s1 ⟨vs,H1,I1,r1,q1⟩=>?_) hs rfl))
 obtain⟨j,e,q1,q2,q⟩:=q1
 subst e
 cases r1 with
 |cons r rr =>
  cases rr
  obtain⟨t,rfl⟩:=r
  exact call_range_1 (Ra I1 'f' 'f' q1 q2 (by simpa using q))
def ab6(wi:TI)(g:TG)(tb:TS):TS:=λD σ H=>wi σ H λJ H1=>∃W:Nat->Nat->St->Hp->Prop,(∃m,W 0 m σ H1)/\∀i m σ H,W i m σ H->(J.stop i H/\D.nx σ H)\/(J.go i H/\∃N:St->Hp->Prop,(∀σ' H',N σ' H'->∃m',m'<m/\W (i+1) m' σ' H')/\∀x H',J.QO i H x H'->g x σ H' λσ2 H2=>tb {D with nx:=N,ct:=N,bk:=D.nx} σ2 H2)
def Bt(fp:List Addr)(h:Heap):List (Addr×Obj):=fp.filterMap λb=>(h.get? b).map λo=>(b,o)
theorem oU{fp:List Addr}{h:Heap}{b:Addr}{o:Obj}(hb:b∈fp)(e:h.get? b=some o):(b,o)∈Bt fp h:=afj.mpr ⟨b,hb,by rw[e];rfl⟩
theorem Ou{fp:List Addr}{h:Heap}{p:Addr×Obj}(hp:p∈Bt fp h):p.1∈fp/\h.get? p.1=some p.2:=by
 obtain⟨b,hb,e⟩:=afj.mp hp
 cases q:h.get? b with
 |none=>rw[q]at e;cases e
 |some o =>
  rw[q]at e
  have e':(b,o)=p:=aes e
  subst e'
  exact⟨hb,q⟩
theorem Inv.pinned{pins:List (Addr×Obj)}{σ:St}{H:Hp}{s:Shared}{fp:List Addr}(I:Inv X pins σ H s)(hf:∀b∈fp,vz X pins H b)(ho:∀b∈fp,∃o,s.heap.get? b=some o/\∀v,o.data≠.cell v):Inv X (pins++Bt fp s.heap) σ H s :=
 I.Nk λp hp=>(aej.mp hp).elim (λz=>I.pin p (aeI _ z)) λz=>by
  obtain⟨hb,e⟩:=Ou z
  obtain⟨f0,f1,f2,_⟩:=hf p.1 hb
  obtain⟨o,e',d⟩:=ho p.1 hb
  rw[e]at e';cases e'
  exact⟨e,f0,f1,f2,d⟩
theorem Inv.vB{pins pl:List (Addr×Obj)}{σ:St}{H:Hp}{s:Shared}(I:Inv X (pins++pl) σ H s):Inv X pins σ H s:=I.Nk λp hp=>I.pin p (aeI _ (aeX _ hp))
theorem c9{iter:Expr}{body:List Stmt}{wi:TI}{g:TG}{tb:TS}{pos:Pos}(hp:PassesOwn 'g' X.A X.env X.xe)(hc:X.calm=true)(hi:PI X tg iter wi)(hg:PG X tg g)(hb:Il X body tb)(hs:∀x,foldedSetIterable iter X.env x=pure x:=by intro _;rfl):PS X (.For tg iter body [] pos) (ab6 wi g tb):=by
 intro pins s σ H D I h
 refine wpAny_For (cS (hi pins s σ H _ I h) λv s1 h1=>cS h1 λitv s2 h2=>?_) hs
 obtain⟨it,fp,tn,J,H2,e,I2,T,st2,f2,W,⟨m0,w0⟩,turn⟩:=h2
 subst e
 have K1:∀{H':Hp},(∀b∈fp,H' b=none)->∀b∈fp,vz X pins H' b:=λhn b hb=>⟨hn b hb,(f2 b hb).2⟩
 refine codeAny_forLoop_any (λn s'=>∃i σ' H',Inv X pins σ' H' s'/\tn i s'.heap/\(∀b∈fp,H' b=none)/\W i n σ' H') ?_ m0 ⟨0,σ,H2,I2,st2,λb hb=>(f2 b hb).1,w0⟩
 rintro n s3 ⟨i,σ3,H3,I3,st3,fr3,w3⟩
 rcases turn i n σ3 H3 w3 with ⟨stop,qn⟩|⟨go,N,hN,step⟩
 ·refine afP hp (cS (T.done X rfl rfl rfl hc i pins s3 σ3 H3 X.xe I3 (K1 fr3) st3 stop) λr s4 ⟨hr,I4⟩=>?_)
  subst hr
  exact wpAny_execs_nil ⟨σ3,H3,I4,qn⟩
 ·refine afP hp (cS (T.item X rfl rfl rfl hc i pins s3 σ3 H3 X.xe I3 (K1 fr3) st3 go) λr s4 ⟨u,hr,h4⟩=>?_)
  subst hr
  refine afP hp (cS h4 λ_ s5 ⟨x,H5,I5,r5,y5,st5,fr5⟩=>?_)
  have I5':=I5.pinned (K1 fr5) (T.obj _ _ st5)
  refine afP hp (cS (hg _ s5 σ3 H5 x u _ I5' r5 (step x H5 y5)) λ_ s6 ⟨σ6,H6,I6,q6⟩=>?_)
  refine afP hp (cS (hb _ s6 σ6 H6 _ I6 q6) λf s7 q7=>?_)
  have again:∀{σ7:St}{H7:Hp},Inv X (pins++Bt fp s5.heap) σ7 H7 s7->N σ7 H7->∃m,m<n/\∃i σ' H',Inv X pins σ' H' s7/\tn i s7.heap/\(∀b∈fp,H' b=none)/\W i m σ' H':=λ{σ7 H7} I7 n7=>by
   obtain⟨m',hm,w7⟩:=hN σ7 H7 n7
   refine⟨m',hm,i+1,σ7,H7,I7.vB,T.keep _ _ _ st5 λb hb o e=>(I7.pin (b,o) (aeI _ (aeI _ (oU hb e)))).1,λb hb=>?_,w7⟩
   obtain⟨o,e,d⟩:=T.obj _ _ st5 b hb
   exact(I7.pin (b,o) (aeI _ (aeI _ (oU hb e)))).2.1
  cases f with
  |next=>obtain⟨σ7,H7,I7,n7⟩:=q7;exact again I7 n7
  |cont=>obtain⟨σ7,H7,I7,n7⟩:=q7;exact again I7 n7
  |brk=>obtain⟨σ7,H7,I7,q7⟩:=q7;exact⟨σ7,H7,I7.vB,q7⟩
  |ret v=>obtain⟨x7,σ7,H7,I7,r7,q7⟩:=q7;exact⟨x7,σ7,H7,I7.vB,r7,q7⟩
end
theorem iA{K:W.Frag}{a:Addr}{xs:List V}{g:TG}{tb:TS}{D:Ends}{σ:St}{H:Hp}(Pv:Nat->St->Hp->Prop)(h0:Pv 0 σ H)(hl:∀i σ H,i<=xs.length->Pv i σ H->aT K H a xs)(hs:∀i x σ H,xs[i]?=some x->Pv i σ H->g x σ H λσ2 H2=>tb {D with nx:=Pv (i+1),ct:=Pv (i+1),bk:=D.nx} σ2 H2)(hd:∀σ H,Pv xs.length σ H->D.nx σ H):∃W:Nat->Nat->St->Hp->Prop,(∃m,W 0 m σ H)/\∀i m σ H,W i m σ H->((Itl K a).stop i H/\D.nx σ H)\/((Itl K a).go i H/\∃N:St->Hp->Prop,(∀σ' H',N σ' H'->∃m',m'<m/\W (i+1) m' σ' H')/\∀x H',(Itl K a).QO i H x H'->g x σ H' λσ2 H2=>tb {D with nx:=N,ct:=N,bk:=D.nx} σ2 H2):=by
 refine⟨λi m σ H=>m=xs.length-i/\i<=xs.length/\Pv i σ H,⟨xs.length,by simp,aeA _,h0⟩,?_⟩
 rintro i m σ H ⟨rfl,hi,p⟩
 have q:=hl i σ H hi p
 by_cases hlt:i<xs.length
 ·refine .inr ⟨⟨xs,xs[i],q,by simp[hlt]⟩,Pv (i+1),λσ' H' p'=>⟨xs.length-(i+1),by omega,rfl,hlt,p'⟩,λx H' y=>?_⟩
  obtain⟨e,y⟩:=y
  subst e
  exact hs i x σ _ (y xs q) p
 ·have e:i=xs.length:=by omega
  subst e
  exact .inl ⟨⟨xs,q,ad6 _⟩,hd σ H p⟩
theorem UZ{K:W.Frag}{a:Addr}{xs:List V}{g:TG}{tb:TS}{D:Ends}{σ:St}{H:Hp}(Pv:Nat->St->Hp->Prop)(h0:Pv 0 σ H)(hl:∀i σ H,i<=xs.length->Pv i σ H->aX K H a xs)(hs:∀i x σ H,xs[i]?=some x->Pv i σ H->g x σ H λσ2 H2=>tb {D with nx:=Pv (i+1),ct:=Pv (i+1),bk:=D.nx} σ2 H2)(hd:∀σ H,Pv xs.length σ H->D.nx σ H):∃W:Nat->Nat->St->Hp->Prop,(∃m,W 0 m σ H)/\∀i m σ H,W i m σ H->((Itt K a).stop i H/\D.nx σ H)\/((Itt K a).go i H/\∃N:St->Hp->Prop,(∀σ' H',N σ' H'->∃m',m'<m/\W (i+1) m' σ' H')/\∀x H',(Itt K a).QO i H x H'->g x σ H' λσ2 H2=>tb {D with nx:=N,ct:=N,bk:=D.nx} σ2 H2):=by
 refine⟨λi m σ H=>m=xs.length-i/\i<=xs.length/\Pv i σ H,⟨xs.length,by simp,aeA _,h0⟩,?_⟩
 rintro i m σ H ⟨rfl,hi,p⟩
 have q:=hl i σ H hi p
 by_cases hlt:i<xs.length
 ·refine .inr ⟨⟨xs,xs[i],q,by simp[hlt]⟩,Pv (i+1),λσ' H' p'=>⟨xs.length-(i+1),by omega,rfl,hlt,p'⟩,λx H' y=>?_⟩
  obtain⟨e,y⟩:=y
  subst e
  exact hs i x σ _ (y xs q) p
 ·have e:i=xs.length:=by omega
  subst e
  exact .inl ⟨⟨xs,q,ad6 _⟩,hd σ H p⟩
theorem sO{lo:Int}{n:Nat}{g:TG}{tb:TS}{D:Ends}{σ:St}{H:Hp}(Pv:Nat->St->Hp->Prop)(h0:Pv 0 σ H)(hs:∀i σ H,i<n->Pv i σ H->g (.int (lo+i)) σ H λσ2 H2=>tb {D with nx:=Pv (i+1),ct:=Pv (i+1),bk:=D.nx} σ2 H2)(hd:∀σ H,Pv n σ H->D.nx σ H):∃W:Nat->Nat->St->Hp->Prop,(∃m,W 0 m σ H)/\∀i m σ H,W i m σ H->((Itr lo n).stop i H/\D.nx σ H)\/((Itr lo n).go i H/\∃N:St->Hp->Prop,(∀σ' H',N σ' H'->∃m',m'<m/\W (i+1) m' σ' H')/\∀x H',(Itr lo n).QO i H x H'->g x σ H' λσ2 H2=>tb {D with nx:=N,ct:=N,bk:=D.nx} σ2 H2):=by
 refine⟨λi m σ H=>m=n-i/\i<=n/\Pv i σ H,⟨n,by simp,aeA _,h0⟩,?_⟩
 rintro i m σ H ⟨rfl,hi,p⟩
 by_cases hlt:i<n
 ·refine .inr ⟨hlt,Pv (i+1),λσ' H' p'=>⟨n-(i+1),by omega,rfl,hlt,p'⟩,λx H' y=>?_⟩
  obtain⟨e,y⟩:=y
  subst e y
  exact hs i σ _ hlt p
 ·have e:i=n:=by omega
  subst e
  exact .inl ⟨ad6 _,hd σ H p⟩
abbrev R2:=V->V->Hp->VK->Prop
def kF(X:Cx)(f:Value->Value->Sem Value)(r:R2):Prop :=
 ∀(pins:List (Addr×Obj))(s:Shared)(σ:St)(H:Hp)(x y:V)(v u:Value)(Q:VK),Inv X pins σ H s->RelV x v->RelV y u->r x y H Q->wpAny 'g' X.A (f v u) (EP X pins σ Q) X.xe s
def eZ(X:Cx)(f:Value)(r:List V->Hp->VK->Prop):Prop :=
 ∀(pins:List (Addr×Obj))(s:Shared)(σ:St)(H:Hp)(xs:List V)(us:List Value)(Q:VK),Inv X pins σ H s->Vals xs us->r xs H Q->wpAny 'g' X.A (call f us) (EP X pins σ Q) X.xe s
def Xa(r:R2)(ta tb:TE):TE:=λσ H Q=>ta σ H λx H1=>tb σ H1 λy H2=>r x y H2 Q
inductive rI(C:Int->Int->Prop)(g:Int->Int->V)(x:V)(y:V)(H:Hp)(Q:VK):Prop where
 |mk i j:(x=.int i)->(y=.int j)->(C i j)->(Q (g i j) H)->rI C g x y H Q
inductive U0(g:Int->Int->V)(x:V)(y:V)(H:Hp)(Q:VK):Prop where
 |mk i j:(x=.int i)->(y=.int j)->(Q (g i j) H)->U0 g x y H Q
section
variable{X:Cx}{a b c:Expr}{ta tb tc:TE}{pos:Pos}
theorem XU(ha:PE X a ta)(hb:PE X b tb){pins:List (Addr×Obj)}{s:Shared}{σ:St}{H:Hp}{R:V->V->Hp->Prop}(I:Inv X pins σ H s)(h:ta σ H λx H1=>tb σ H1 λy H2=>R x y H2){Q:Value->Shared->Prop}{f:Value->Value->Sem Value}(hf:∀v u s2 x y H2,Inv X pins σ H2 s2->RelV x v->RelV y u->R x y H2->wpAny 'g' X.A (f v u) Q X.xe s2):wpAny 'g' X.A (eval a X.env) (λv s₁=>wpAny 'g' X.A (eval b X.env) (λu s₂=>wpAny 'g' X.A (f v u) Q X.xe s₂) X.xe s₁) X.xe s:=by
 refine cS (ha pins s σ H _ I h) λv s1 ⟨x,H1,I1,r1,q1⟩=>?_
 refine cS (hb pins s1 σ H1 _ I1 q1) λu s2 ⟨y,H2,I2,r2,q2⟩=>?_
 exact hf v u s2 x y H2 I2 r1 r2 q2
theorem aR{op:Operator}{r:R2}(ho:kF X (binaryOp op) r)(ha:PE X a ta)(hb:PE X b tb):PE X (.BinOp a op b pos) (Xa r ta tb):=by
 intro pins s σ H Q I h
 exact wpAny_BinOp (XU ha hb I h λv u s2 x y H2 I2 rx ry q=>ho pins s2 σ H2 x y v u Q I2 rx ry q)
theorem opI{f:Value->Value->Sem Value}{C:Int->Int->Prop}{g:Int->Int->Int}(rule:∀(i j:Int)(t u:Tok)(s:Shared)(Q:Value->Shared->Prop)(E:Value->Shared->Prop),C i j->Q (.int (g i j) s.toks) {s with toks:=s.toks+1}->wpAny 'g' X.A (f (.int i t) (.int j u)) Q E s):kF X f (rI C λi j=>.int (g i j)):=by
 intro pins s σ H x y v u Q I rx ry h
 obtain⟨i,j,rfl,rfl,hc,q⟩:=h
 obtain⟨t,rfl⟩:=rx
 obtain⟨t',rfl⟩:=ry
 exact rule i j t t' s _ _ hc ⟨.int (g i j),H,I.tok _,⟨_,rfl⟩,q⟩
theorem aaA{f:Value->Value->Sem Value}{g:Int->Int->Int}(rule:∀(i j:Int)(t u:Tok)(s:Shared)(Q:Value->Shared->Prop)(E:Value->Shared->Prop),Q (.int (g i j) s.toks) {s with toks:=s.toks+1}->wpAny 'g' X.A (f (.int i t) (.int j u)) Q E s):kF X f (U0 λi j=>.int (g i j)):=by
 intro pins s σ H x y v u Q I rx ry h
 obtain⟨i,j,rfl,rfl,q⟩:=h
 obtain⟨t,rfl⟩:=rx
 obtain⟨t',rfl⟩:=ry
 exact rule i j t t' s _ _ ⟨.int (g i j),H,I.tok _,⟨_,rfl⟩,q⟩
theorem U1{f:Value->Value->Sem Value}{g:Int->Int->Bool}(rule:∀(i j:Int)(t u:Tok)(s:Shared)(Q:Value->Shared->Prop)(E:Value->Shared->Prop),Q (.bool (g i j)) s->wpAny 'g' X.A (f (.int i t) (.int j u)) Q E s):kF X f (U0 λi j=>.bl (g i j)):=by
 intro pins s σ H x y v u Q I rx ry h
 obtain⟨i,j,rfl,rfl,q⟩:=h
 obtain⟨t,rfl⟩:=rx
 obtain⟨t',rfl⟩:=ry
 exact rule i j t t' s _ _ ⟨.bl (g i j),H,I,rfl,q⟩
def ab7(i j:Int):Prop:=0<j/\j<1073741824
def aaB(i j:Int):Prop:=0<=j/\j<=1000000/\i.natAbs<2 ^ 64
def XW(i j:Int):Prop:=(-(2 ^ 64)<i/\i<2 ^ 64)\/(-(2 ^ 64)<j/\j<2 ^ 64)
theorem XW.ok{i j:Int}(h:XW i j):IntMulOk i j:=by
 rcases h with ⟨h1,h2⟩|⟨h1,h2⟩
 ·exact .of_left (intBits_le_64 h1 h2)
 ·exact .of_right (intBits_le_64 h1 h2)
theorem jf:kF X (binaryOp .Add) (U0 λi j=>.int (i+j)):=aaA λ_ _ _ _ _ _ _ q=>add_int q
theorem XX:kF X (binaryOp .Sub) (U0 λi j=>.int (i-j)):=aaA λ_ _ _ _ _ _ _ q=>sub_int q
theorem oV:kF X (binaryOp .Mult) (rI XW λi j=>.int (i*j)):=opI λ_ _ _ _ _ _ _ hc q=>mul_int q hc.ok
theorem fK:kF X (binaryOp .FloorDiv) (rI ab7 λi j=>.int (i / j)):=opI λi j _ _ _ _ _ hc q=>by
 have h1:(0:Int)<j:=hc.1
 have h2:j<1073741824:=hc.2
 exact floordiv_int 'f' (by rw[Int.fdiv_eq_ediv_of_nonneg i 'f'];exact q) (.inl (PyProof.noPylong_small 'f'))
theorem eB:kF X (binaryOp .Mod) (rI (λ_ j=>0<j) λi j=>.int (i % j)):=opI λi j _ _ _ _ _ hc q=>by
 have h1:(0:Int)<j:=hc
 exact mod_int' 'f' (by rw[Int.fmod_eq_emod_of_nonneg i 'f'];exact q)
theorem Rb:kF X (binaryOp .Pow) (rI aaB λi j=>.int (i ^ j.toNat)):=opI λ_ _ _ _ _ _ _ hc q=>pow_int_small hc.1 hc.2.1 hc.2.2 q
end
def aaC:V->V->Bool
 | .non,.non=>true | .non,.int _=>true | .int _,.non=>true | .non,.bl _=>true | .bl _,.non=>true | .non,.str _=>true | .str _,.non=>true
 | .int _,.int _=>true | .bl _,.bl _=>true | .str _,.str _=>true | .QN _,.QN _=>true
 | .int _,.str _=>true | .str _,.int _=>true | .bl _,.str _=>true | .str _,.bl _=>true
 |_,_=>false
def rEq:R2:=λx y H Q=>aaC x y=true/\Q (.bl (decide (x=y))) H
def rNe:R2:=λx y H Q=>aaC x y=true/\Q (.bl (!decide (x=y))) H
theorem Np{i j:Int}:decide (V.int i=V.int j)=(i==j):=by
 rw[aeS]
 simp
theorem Rc{i j:Bool}:decide (V.bl i=V.bl j)=(i==j):=by
 rw[aeS]
 simp
theorem Nq{i j:Str}:decide (V.str i=V.str j)=(i==j):=by
 rw[aeS]
 simp
theorem Nr{i j:Array UInt8}:decide (V.QN i=V.QN j)=(i.toList==j.toList):=by
 rw[aeS]
 cases i
 cases j
 simp
section
variable{X:Cx}{a b c:Expr}{ta tb tc:TE}{pos:Pos}
theorem bK{pins:List (Addr×Obj)}{σ:St}{H:Hp}{s:Shared}{Q:VK}{k k':Bool}(I:Inv X pins σ H s)(q:Q (.bl k) H)(e:k=k'):EP X pins σ Q (.bool k') s:=by
 subst e
 exact⟨.bl k,H,I,O,q⟩
theorem cE:kF X (compareOp .Eq) rEq:=by
 intro pins s σ H x y v u Q I rx ry h
 obtain⟨hs,q⟩:=h
 cases x with
 |non =>
  cases rx
  cases y with
  |non=>cases ry;exact PySem.EqNone.eq_none_none (bK I q (by simp))
  |bl j=>cases ry;exact PySem.EqNone.eq_none_bool (bK I q (by simp))
  |int j=>obtain⟨t',rfl⟩:=ry;exact PySem.EqNone.eq_none_int (bK I q (by simp))
  |str j=>obtain⟨t',rfl⟩:=ry;exact PySem.EqNone.eq_none_str (bK I q (by simp))
  |_=>exact absurd (show false=true from hs) aev
 |bl i =>
  cases rx
  cases y with
  |non=>cases ry;exact PySem.EqNone.eq_bool_none (bK I q (by simp))
  |bl j=>cases ry;exact eq_bool (bK I q Rc)
  |str j=>obtain⟨t',rfl⟩:=ry;exact PySem.EqMixed.eq_bool_str (bK I q (by simp))
  |_=>exact absurd (show false=true from hs) aev
 |int i =>
  obtain⟨t,rfl⟩:=rx
  cases y with
  |non=>cases ry;exact PySem.EqNone.eq_int_none (bK I q (by simp))
  |int j=>obtain⟨t',rfl⟩:=ry;exact eq_int (bK I q Np)
  |str j=>obtain⟨t',rfl⟩:=ry;exact PySem.EqMixed.eq_int_str (bK I q (by simp))
  |_=>exact absurd (show false=true from hs) aev
 |str i =>
  obtain⟨t,rfl⟩:=rx
  cases y with
  |non=>cases ry;exact PySem.EqNone.eq_str_none (bK I q (by simp))
  |bl j=>cases ry;exact PySem.EqMixed.eq_str_bool (bK I q (by simp))
  |int j=>obtain⟨t',rfl⟩:=ry;exact PySem.EqMixed.eq_str_int (bK I q (by simp))
  |str j=>obtain⟨t',rfl⟩:=ry;exact eq_str (bK I q Nq)
  |_=>exact absurd (show false=true from hs) aev
 |QN i =>
  obtain⟨t,rfl⟩:=rx
  cases y with
  |QN j=>obtain⟨t',rfl⟩:=ry;exact W.eq_bytes (bK I q Nr)
  |_=>exact absurd (show false=true from hs) aev
 |_=>cases y<;>exact absurd (show false=true from hs) aev
theorem vC:kF X (compareOp .NotEq) rNe:=by
 intro pins s σ H x y v u Q I rx ry h
 obtain⟨hs,q⟩:=h
 cases x with
 |non =>
  cases rx
  cases y with
  |non=>cases ry;exact PySem.EqNone.ne_none_none (bK I q (by simp))
  |bl j=>cases ry;exact PySem.EqNone.ne_none_bool (bK I q (by simp))
  |int j=>obtain⟨t',rfl⟩:=ry;exact PySem.EqNone.ne_none_int (bK I q (by simp))
  |str j=>obtain⟨t',rfl⟩:=ry;exact PySem.EqNone.ne_none_str (bK I q (by simp))
  |_=>exact absurd (show false=true from hs) aev
 |bl i =>
  cases rx
  cases y with
  |non=>cases ry;exact PySem.EqNone.ne_bool_none (bK I q (by simp))
  |bl j=>cases ry;exact ne_bool (bK I q (congrArg not Rc))
  |str j=>obtain⟨t',rfl⟩:=ry;exact PySem.EqMixed.ne_bool_str (bK I q (by simp))
  |_=>exact absurd (show false=true from hs) aev
 |int i =>
  obtain⟨t,rfl⟩:=rx
  cases y with
  |non=>cases ry;exact PySem.EqNone.ne_int_none (bK I q (by simp))
  |int j=>obtain⟨t',rfl⟩:=ry;exact ne_int (bK I q (congrArg not Np))
  |str j=>obtain⟨t',rfl⟩:=ry;exact PySem.EqMixed.ne_int_str (bK I q (by simp))
  |_=>exact absurd (show false=true from hs) aev
 |str i =>
  obtain⟨t,rfl⟩:=rx
  cases y with
  |non=>cases ry;exact PySem.EqNone.ne_str_none (bK I q (by simp))
  |bl j=>cases ry;exact PySem.EqMixed.ne_str_bool (bK I q (by simp))
  |int j=>obtain⟨t',rfl⟩:=ry;exact PySem.EqMixed.ne_str_int (bK I q (by simp))
  |str j=>obtain⟨t',rfl⟩:=ry;exact ne_str (bK I q (congrArg not Nq))
  |_=>exact absurd (show false=true from hs) aev
 |QN i =>
  obtain⟨t,rfl⟩:=rx
  cases y with
  |QN j=>obtain⟨t',rfl⟩:=ry;exact W.ne_bytes (bK I q (congrArg not Nr))
  |_=>exact absurd (show false=true from hs) aev
 |_=>cases y<;>exact absurd (show false=true from hs) aev
theorem Io:kF X (compareOp .Lt) (U0 λi j=>.bl (decide (i<j))):=U1 λ_ _ _ _ _ _ _ q=>lt_int q
theorem Rf:kF X (compareOp .LtE) (U0 λi j=>.bl (decide (i<=j))):=U1 λ_ _ _ _ _ _ _ q=>le_int q
theorem qD:kF X (compareOp .Gt) (U0 λi j=>.bl (decide (j<i))):=U1 λ_ _ _ _ _ _ _ q=>gt_int q
theorem Rg:kF X (compareOp .GtE) (U0 λi j=>.bl (decide (j<=i))):=U1 λ_ _ _ _ _ _ _ q=>ge_int q
theorem ic:kF X (compareOp .In) (λx y H Q=>∃i j,x=.str i/\y=.str j/\Q (.bl (!(Builtin.Str.occurrences j i 0 j.length 1).isEmpty)) H):=by
 intro pins s σ H x y v u Q I rx ry h
 obtain⟨i,j,rfl,rfl,q⟩:=h
 obtain⟨t,rfl⟩:=rx
 obtain⟨t',rfl⟩:=ry
 exact in_str (bK I q rfl)
theorem gX:kF X (compareOp .Is) (λx y H Q=>y=.non/\Q (.bl (decide (x=.non))) H):=by
 intro pins s σ H x y v u Q I rx ry h
 obtain⟨rfl,q⟩:=h
 cases ry
 refine is_none_gen (bK I q ?_)
 cases x<;>first
  | (cases rx;rfl)
  | (obtain⟨t,rfl⟩:=rx;rfl)
theorem mj:kF X (compareOp .IsNot) (λx y H Q=>y=.non/\Q (.bl (!decide (x=.non))) H):=by
 intro pins s σ H x y v u Q I rx ry h
 obtain⟨rfl,q⟩:=h
 cases ry
 refine isnot_none_gen (bK I q ?_)
 cases x<;>first
  | (cases rx;rfl)
  | (obtain⟨t,rfl⟩:=rx;rfl)
theorem Rh(b:Expr){op:CmpOp}(h:op≠.In:=by decide)(h2:op≠.NotIn:=by decide):behindInMarks op b=false:=by
 have e1:(op==CmpOp.In)=false:=by cases op<;>first|rfl|exact absurd rfl h
 have e2:(op==CmpOp.NotIn)=false:=by cases op<;>first|rfl|exact absurd rfl h2
 cases b<;>simp[behindInMarks,e1,e2]
theorem Ge{op:CmpOp}{r:R2}(ho:kF X (compareOp op) r)(ha:PE X a ta)(hb:PE X b tb)(hm:behindInMarks op b=false):PE X (.Compare a [op] [b] pos) (Xa r ta tb):=by
 intro pins s σ H Q I h
 exact wpAny_Compare1 (XU ha hb I h λv u s2 x y H2 I2 rx ry q=>ho pins s2 σ H2 x y v u Q I2 rx ry q) hm
def Xb(t:TE):TT:=λσ H Q=>t σ H λx H'=>∃k,x=.bl k/\Q k H'
theorem gR{op:CmpOp}{r:R2}(ho:kF X (compareOp op) r)(ha:PE X a ta)(hb:PE X b tb)(hm:behindInMarks op b=false):PT X (.Compare a [op] [b] pos) (Xb (Xa r ta tb)):=by
 intro pins s σ H Q I h
 refine wpAny_isTrue_Compare1 (cS (ha pins s σ H _ I h) λv s1 ⟨x,H1,I1,r1,q1⟩=>cS (hb pins s1 σ H1 _ I1 q1) λu s2 ⟨y,H2,I2,r2,q2⟩ =>
  cS (ho pins s2 σ H2 x y v u _ I2 r1 r2 q2) λc s3 ⟨z,H3,I3,r3,k,e,q3⟩=>?_) hm
 subst e
 cases r3
 exact afs ⟨H3,I3,q3⟩
theorem Bu:(sizeLine:Nat)<2 ^ 63:=by rw[sizeLine_eq];decide
theorem bG:kF X (binaryOp .Add) (λx y H Q=>∃i j,x=.str i/\y=.str j/\i.length+j.length<=sizeLine/\Q (.str (i++j)) H):=by
 intro pins s σ H x y v u Q I rx ry h
 obtain⟨i,j,rfl,rfl,hz,q⟩:=h
 obtain⟨t,rfl⟩:=rx
 obtain⟨t',rfl⟩:=ry
 exact add_str (λt' tk=>⟨.str (i++j),H,I.tok _,⟨_,rfl⟩,q⟩) hz
theorem vals1{x:V}{us:List Value}(r:Vals [x] us):∃u,us=[u]/\RelV x u:=by
 cases r with
 |cons r1 r2=>cases r2;exact⟨_,rfl,r1⟩
theorem vals2{x y:V}{us:List Value}(r:Vals [x,y] us):∃u w',us=[u,w']/\RelV x u/\RelV y w':=by
 cases r with
 |cons r1 r2 =>
  cases r2 with
  |cons r3 r4=>cases r4;exact⟨_,_,rfl,r1,r3⟩
theorem Ov:eZ X (.type "int") (λxs H Q=>(∃i,xs=[.int i]/\Q (.int i) H)\/∃k,xs=[.bl k]/\Q (.int (if k then 1 else 0)) H):=by
 intro pins s σ H xs us Q I r h
 rcases h with ⟨i,rfl,q⟩|⟨k,rfl,q⟩
 ·obtain⟨u,rfl,t,rfl⟩:=vals1 r
  exact call_int_int ⟨.int i,H,I,⟨_,rfl⟩,q⟩
 ·obtain⟨u,rfl,r1⟩:=vals1 r
  cases r1
  exact call_int_bool ⟨.int (if k then 1 else 0),H,I.tok _,⟨_,rfl⟩,q⟩
theorem Ri:eZ X (.builtin "ord") (λxs H Q=>∃x,xs=[.str x]/\x.length=1/\Q (.int (x.cps.getD 0 0:Nat)) H):=by
 intro pins s σ H xs us Q I r h
 obtain⟨x,rfl,hz,q⟩:=h
 obtain⟨u,rfl,t,rfl⟩:=vals1 r
 exact ord_of_one hz ⟨.int _,H,I.tok _,⟨_,rfl⟩,q⟩
end
structure K2(h:Heap)(x dx C:Addr)(mA:Str->Option Value):Prop where
 obj:h.get? x=some (W.instObj C dx)
 ns:h.Ns1 dx mA
 ne:dx≠x
theorem Ey{h:Heap}{dx:Addr}{mA:Str->Option Value}(n:h.Ns1 dx mA):∃od,h.get? dx=some od/\∀name,W.lookIn name od=some (mA name):=by
 obtain⟨o,es,ep,ho,hd,hk,_,hm⟩:=n
 refine⟨o,ho,λname=>?_⟩
 have e:=hm name
 unfold nsFind findBy at e
 rw[←Array.find?_toList]at e
 unfold W.lookIn
 rw[hd]
 dsimp only
 split
 ·rename_i y q
  rw[q]at e
  exact congrArg some e
 ·rename_i q
  rw[q]at e
  have a:es.toList.any (·.refKey)=false:=by
   rw[List.any_eq_false]
   intro y hy
   obtain⟨z,t,hkey⟩:=hk y (Array.mem_toList_iff.mp hy)
   simp[DictEntry.refKey,hkey]
  have a':¬es.toList.any (·.refKey)=true:=by rw[a];exact aev
  rw[ad5 a']
  exact congrArg some e
theorem K2.look{h:Heap}{x dx C:Addr}{mA:Str->Option Value}(I:K2 h x dx C mA):∃od,W.InstAt h x (W.instObj C dx) C (some od)/\∀name,W.lookIn name od=some (mA name) :=
 let ⟨od,ho,hl⟩:=Ey I.ns
 ⟨od,⟨I.obj,rfl,rfl,ho⟩,hl⟩
section
variable{prog:Program}{w:World}{A:Around}{E:Value->Shared->Prop}{s:Shared}{K:W.Frag}{x dx C f:Addr}{mA:Str->Option Value}{name:Str}{v:Value}
theorem get_map{expr:Bool}{Q:Value->Shared->Prop}(X:K.In s.heap)(I:K2 s.heap x dx C mA)(hg:W.plainGet K C name=true)(hh:W.hasDictIn K C=true)(ha:W.findIn K (.ref C) name=some none)(hv:mA name=some v)(hv':W.handedIn v=true)(h:Q v {s with toks:=s.toks+1}):wpAny (model prog w) A (getAttr (.ref x) name expr) Q E s:=by
 obtain⟨od,J,hl⟩:=I.look
 exact W.get_value X J (W.plainGet_of hg).1 (W.findObj_own hh ha rfl (by rw[hl,hv])) hv' h
theorem Rj{pl:Sem Bool}{Q:Value×List Value->Shared->Prop}(X:K.In s.heap)(I:K2 s.heap x dx C mA)(hg:W.plainGet K C name=true)(hf:W.findIn K (.ref C) name=some (some (.ref f)))(ht:W.isFn K (.ref f)=true)(hv:mA name=none)(h:Q (.ref f,[.ref x]) s):wpAny (model prog w) A (getMethod (.ref x) name pl) Q E s:=by
 obtain⟨od,J,hl⟩:=I.look
 exact W.method_fn X J (W.plainGet_of hg).1 (W.plainGet_of hg).2 hf (beq_iff_eq.mp ht) (by show(W.lookIn name od).map (·.isSome)=some false;rw[hl,hv];rfl) h
theorem U3{ns:List Str}{Q:Unit->Shared->Prop}(X:K.In s.heap)(I:K2 s.heap x dx C mA)(hs:W.findIn K (.ref C) "__setattr__"=some (some (.builtin "object.__setattr__")))(hp:W.plainOver K C=true)(ht:W.takerIn K C name=some none)(hh:W.hasDictIn K C=true)(hw:PySem.Within mA ns)(hsz:ns.length<=sizeLine)(h:∀h',K2 h' x dx C (λy=>if y=name then some v else mA y)->Heap.SameBut dx s.heap h'->Q () {s with heap:=h',toks:=s.toks+2}):wpAny (model prog w) A (setAttr (.ref x) name v) Q E s:=by
 obtain⟨od,J,hl⟩:=I.look
 refine W.set_plain X J hs (W.osa_open (s:={s with toks:=s.toks+1}) (r:=none) X J hp ht λb=>?_)
 obtain⟨cd,hc,hd'⟩:=W.any_some hh
 have hx:s.heap.get? x=some ⟨.ref C,some dx,.plain,#[]⟩:=I.obj
 refine ad4 (aea (ad4 (ad4 (wpAny_loadPart hx (ad4 (W.Looks.here (s:={s with toks:=s.toks+1}) (W.looks_clsIn X hc) ?_))))))
 rw[hd']
 refine aea (a:=some dx) (ad4 (aea (ad4 ?_)))
 refine wpAny_nsSet1 (s:={s with toks:=s.toks+1}) I.ns λh' hn2 hs2=>?_
 obtain⟨oD,esD,epD,hoD,hdD,hcD⟩:=hn2.count (PySem.Within.cons name v hw)
 refine ad4 (wpAny_lookBehind hoD (by rw[hdD];exact pastItsLine_dict (aep hcD (by rw[aex];omega))) ?_)
 exact aea (h _ ⟨(hs2.2 _ (afa I.ne)).trans I.obj,hn2,I.ne⟩ hs2)
theorem Rl{R:Result->Shared->Prop}{vs:List Value}{kw:List (Str×Value)}(X:K.In s.heap)(hm:W.makesIn K C=true)(hi:W.findIn K (.ref C) "__init__"=some (some (.ref f)))(hf:W.typeIn K (.ref f)=some (.type "function"))(h:codeAny (model prog w) (A.under (.builtin "type.__call__" ⟨.ref C::vs,kw⟩)) (.call (.ref f) ⟨.ref (s.heap.objs.size+1)::vs,kw⟩) (W.InitBack (s.heap.objs.size+1) R)
   {s with heap:=(s.heap.push W.emptyDict).push (W.instObj C s.heap.objs.size)}):codeAny (model prog w) A (.call (.ref C) ⟨vs,kw⟩) R s:=by
 obtain⟨hh,g,d,t,os⟩:=s
 exact W.make_core (W.makes_of X hm) (W.looks_findIn X hi) (λself=>W.bind_fn X self hf) (.inl rfl) h
end
def kG(f:Str)(v:V):List (Str×V)->List (Str×V)
 |[]=>[(f,v)]
 | (g,x)::r=>if g=f then (g,v)::r else (g,x)::kG f v r
theorem qE(f g:Str)(v:V):∀fs:List (Str×V),(kG f v fs).lookup g=if g=f then some v else fs.lookup g
 |[]=>by
  show List.lookup g [(f,v)]=_
  by_cases h:g=f
  ·have hb:(g==f)=true:=beq_iff_eq.mpr h
   simp only[List.lookup,hb,aee h]
  ·have hb:(g==f)=false:=afM.mpr h
   simp only[List.lookup,hb,ad5 h]
 | (k,x)::r=>by
  have ih:=qE f g v r
  rw[show kG f v ((k,x)::r)=(if k=f then (k,v)::r else (k,x)::kG f v r) from rfl]
  by_cases hk:k=f
  ·rw[aee hk]
   by_cases h:g=k
   ·have hb:(g==k)=true:=beq_iff_eq.mpr h
    simp only[List.lookup,hb,aee (h.trans hk)]
   ·have hb:(g==k)=false:=afM.mpr h
    simp only[List.lookup,hb,ad5 (λe:g=f=>h (e.trans hk.symm))]
  ·rw[ad5 hk]
   by_cases h:g=k
   ·have hb:(g==k)=true:=beq_iff_eq.mpr h
    simp only[List.lookup,hb,ad5 (λe:g=f=>hk (h.symm.trans e))]
   ·have hb:(g==k)=false:=afM.mpr h
    simp only[List.lookup,hb]
    exact ih
theorem nR(f:Str)(v:V):∀fs:List (Str×V),f∈(kG f v fs).map (·.1)/\∀g,g∈fs.map (·.1)->g∈(kG f v fs).map (·.1)
 |[]=>⟨by simp[kG],λg h=>by simp at h⟩
 | (k,x)::r=>by
  obtain⟨i1,i2⟩:=nR f v r
  rw[show kG f v ((k,x)::r)=(if k=f then (k,v)::r else (k,x)::kG f v r) from rfl]
  by_cases hk:k=f
  ·rw[aee hk]
   subst hk
   exact⟨by simp,λg h=>by simpa using h⟩
  ·rw[ad5 hk]
   refine⟨?_,λg h=>?_⟩
   ·rw[aeJ]
    exact aer _ i1
   ·rw[aeJ]at h⊢
    rcases aeh.mp h with e|e
    ·exact aeh.mpr (.inl e)
    ·exact aer _ (i2 g e)
theorem zp(f:Str)(v:V):∀fs:List (Str×V),(kG f v fs).length<=fs.length+1
 |[]=>by simp[kG]
 | (k,x)::r=>by
  have ih:=zp f v r
  rw[show kG f v ((k,x)::r)=(if k=f then (k,v)::r else (k,x)::kG f v r) from rfl]
  by_cases hk:k=f
  ·rw[aee hk,aex,aex];omega
  ·rw[ad5 hk,aex,aex];omega
theorem qs.some_of{v:V}{o:Option Value}(r:qs (some v) o):∃u,o=some u/\RelV v u:=by
 cases o with
 |none=>exact(show False from r).elim
 |some u=>exact⟨u,rfl,r⟩
theorem qs.none_of{o:Option Value}(r:qs none o):o=none:=by
 cases o with
 |none=>rfl
 |some u=>exact(show False from r).elim
theorem Ow{v:V}{u:Value}(r:RelV v u):W.handedIn u=true:=by
 cases v with
 |non=>cases(show u=Value.none from r);rfl
 |bl b=>cases(show u=Value.bool b from r);rfl
 |int i=>obtain⟨t,e⟩:=(show ∃t,u=Value.int i t from r);cases e;rfl
 |str x=>obtain⟨t,e⟩:=(show ∃t,u=Value.str x t from r);cases e;rfl
 |QN b=>obtain⟨t,e⟩:=(show ∃t,u=Value.bytes b t from r);cases e;rfl
 |lU b=>obtain⟨t,e⟩:=(show ∃t,u=Value.float b t from r);cases e;rfl
 |ref a=>cases(show u=Value.ref a from r);rfl
 |ty n=>cases(show u=Value.type n from r);rfl
section
variable{P:Program}{w:World}{H H':Hp}{h h':Heap}{a C dx:Addr}{fs fs':List (Str×V)}
theorem A9(hok:xK P w H h)(e:H a=some (.ins C dx fs)):∃mA,K2 h a dx C mA/\(∀f,qs (fs.lookup f) (mA f))/\PySem.Within mA (fs.map (·.1))/\fs.length<=1000/\H dx=some (.own a):=by
 obtain⟨d,z,ne,ob,mA,n,r,q⟩:=(show cM P w H h a (.ins C dx fs) from hok a _ e)
 exact⟨mA,⟨ob,n,ne⟩,r,q,z,d⟩
end
structure K3(K:W.Frag)(C:Addr):Prop where
 pg:W.plainGet K C Str.empty=true
 hd:W.hasDictIn K C=true
 po:W.plainOver K C=true
 sa:W.findIn K (.ref C) "__setattr__"=some (some (.builtin "object.__setattr__"))
theorem K3.get{K:W.Frag}{C:Addr}(c:K3 K C)(f:Str):W.plainGet K C f=true:=c.pg
def dg(K:W.Frag)(C:Addr)(f:Str):Prop:=W.findIn K (.ref C) f=some none
theorem dg.aaD{K:W.Frag}{C:Addr}{f:Str}(n:dg K C f):W.takerIn K C f=some none:=by
 unfold W.takerIn
 rw[show W.findIn K (.ref C) f=some none from n]
 rfl
structure Meth(K:W.Frag)(C:Addr)(m:Str)(f:Addr):Prop where
 at_:W.findIn K (.ref C) m=some (some (.ref f))
 fn:W.isFn K (.ref f)=true
 kp:W.keepIn K (.ref f)=true
section
variable{X:Cx}{pins:List (Addr×Obj)}{σ:St}{H:Hp}{s:Shared}{a C dx:Addr}{fs:List (Str×V)}{f:Str}{v:V}{A:Around}{E:Value->Shared->Prop}
theorem K4{b:Bool}{Q:Value->Shared->Prop}(I:Inv X pins σ H s)(e:H a=some (.ins C dx fs))(c:K3 X.K C)(n:dg X.K C f)(l:fs.lookup f=some v)(h:∀u s',Inv X pins σ H s'->RelV v u->Q u s'):wpAny 'g' A (getAttr (.ref a) f b) Q E s:=by
 obtain⟨mA,O,r,_,_,_⟩:=A9 I.hok e
 obtain⟨u,hu,ru⟩:=qs.some_of (v:=v) (o:=mA f) (by rw[←l];exact r f)
 exact get_map I.nQ O (c.get f) c.hd n hu (Ow ru) (h u _ (I.tok _) ru)
theorem Bv{m:Str}{g:Addr}{pl:Sem Bool}{Q:Value×List Value->Shared->Prop}(I:Inv X pins σ H s)(e:H a=some (.ins C dx fs))(c:K3 X.K C)(k:Meth X.K C m g)(l:fs.lookup m=none)(h:Q (.ref g,[.ref a]) s):wpAny 'g' A (getMethod (.ref a) m pl) Q E s:=by
 obtain⟨mA,O,r,_,_,_⟩:=A9 I.hok e
 have hn:mA m=none:=qs.none_of (by rw[←l];exact r m)
 exact Rj I.nQ O (c.get m) k.at_ k.fn hn h
theorem K5{y:V}{u:Value}{Q:Unit->Shared->Prop}(I:Inv X pins σ H s)(e:H a=some (.ins C dx fs))(c:K3 X.K C)(n:dg X.K C f)(hl:fs.length<1000)(ry:RelV y u)(h:∀s',Inv X pins σ (upd H a (.ins C dx (kG f y fs))) s'->Q () s'):wpAny 'g' A (setAttr (.ref a) f u) Q E s:=by
 obtain⟨mA,O,r,wi,_,ho⟩:=A9 I.hok e
 have hz:(fs.map (·.1)).length<=sizeLine:=by rw[aec,sizeLine_eq];omega
 refine U3 I.nQ O c.sa c.po n.aaD c.hd wi hz λh' O' sb=>h _ ?_
 have hd:∃o,h'.get? dx=some o:=let ⟨o,_,_,e',_⟩:=O'.ns;⟨o,e'⟩
 refine I.write (x:=a) (e:=dx) (by rw[e];exact True.intro) (.inr ho) (λb q hb z=>(sb.2 b hb).trans z) hd ?_
 refine⟨by rw[az O.ne];exact ho,?_,O.ne,O'.obj,_,O'.ns,λg=>?_,λg hg=>?_⟩
 ·have:=zp f y fs;omega
 ·show qs ((kG f y fs).lookup g) (if g=f then some u else mA g)
  rw[qE]
  by_cases q:g=f
  ·rw[aee q,aee q];exact ry
  ·rw[ad5 q,ad5 q];exact r g
 ·by_cases q:g=f
  ·rw[q];exact(nR f y fs).1
  ·refine(nR f y fs).2 g (wi g λz=>hg ?_)
   show(if g=f then some u else mA g)=none
   rw[ad5 q];exact z
theorem Inv.made(I:Inv X pins σ H s):Inv X pins σ (upd (upd H s.heap.objs.size (.own (s.heap.objs.size+1))) (s.heap.objs.size+1) (.ins C s.heap.objs.size []))
  {s with heap:=(s.heap.push W.emptyDict).push (W.instObj C s.heap.objs.size)}:=by
 have e1:(s.heap.push W.emptyDict).get? s.heap.objs.size=some W.emptyDict:=ael s.heap rfl
 have e2:((s.heap.push W.emptyDict).push (W.instObj C s.heap.objs.size)).get? (s.heap.objs.size+1)=some (W.instObj C s.heap.objs.size):=by
  have:=ael (s.heap.push W.emptyDict) (o:=W.instObj C s.heap.objs.size) rfl
  rwa [ae3]at this
 have e3:(s.heap.push W.emptyDict).Ns s.heap.objs.size (λ_=>none):=⟨W.emptyDict,#[],_,e1,rfl,(λe he=>absurd he (by simp)),λ_=>rfl⟩
 have I1:=I.laid (a:=s.heap.objs.size) (o:=.own (s.heap.objs.size+1)) (h':=s.heap.push W.emptyDict) (t':=s.toks) (λb u q=>ad9 _ q) (ad6 _) ⟨_,e1⟩
 refine I1.laid (a:=s.heap.objs.size+1) (o:=.ins C s.heap.objs.size []) (t':=s.toks) (λb u q=>ad9 _ q) (Nat.le_of_eq (ae3 _ _)) ?_
 have ne:s.heap.objs.size≠s.heap.objs.size+1:=aeH (afX _)
 refine⟨by rw[az ne,ai],aeA _,ne,e2,λ_=>none,(Heap.Ns1.of_empty e3).at λo q=>ad9 _ q,λ_=>True.intro,λy hy=>absurd rfl hy⟩
theorem U4{prog:Program}{w:World}{env:Env}{e:Expr}{f:Str}{pos:Pos}{s:Shared}{Q:Value->Shared->Prop}(hb:attributeBase e f env (eval e env)=eval e env)(h:wpAny (model prog w) A (eval e env) (λo s₁=>wpAny (model prog w) A (getAttr o f true) Q E s₁) E s):wpAny (model prog w) A (eval (.Attribute e f pos) env) Q E s :=
 Attribute_any_ h (by rw[arm_eval_Attribute,hb])
end
inductive Rm(K:W.Frag)(f:Str)(Q:VK)(x:V)(H1:Hp):Prop where
 |mk a C dx fs v:(x=.ref a)->(H1 a=some (.ins C dx fs))->(K3 K C)->(dg K C f)->(fs.lookup f=some v)->(Q v H1)->Rm K f Q x H1
def aaE(K:W.Frag)(ta:TE)(f:Str):TE:=λσ H Q=>ta σ H λx H1=>Rm K f Q x H1
def ab8(K:W.Frag)(ta tv:TE)(f:Str):TS:=λD σ H=>tv σ H λy H1=>ta σ H1 λx H2=>∃a C dx fs,x=.ref a/\H2 a=some (.ins C dx fs)/\K3 K C/\dg K C f/\fs.length<1000/\D.nx σ (upd H2 a (.ins C dx (kG f y fs)))
section
variable{X:Cx}{o e value:Expr}{f:Str}{pos pos' tpos:Pos}{ta tv:TE}
theorem XY(he:PE X e ta)(hb:attributeBase e f X.env (eval e X.env)=eval e X.env):PE X (.Attribute e f pos) (aaE X.K ta f):=by
 intro pins s σ H Q I h
 refine U4 hb (cS (he pins s σ H _ I h) λu s1 ⟨x,H1,I1,rx,a,C,dx,fs,v,ex,ea,c,n,l,q⟩=>?_)
 subst ex
 obtain rfl:u=Value.ref a:=rx
 exact K4 I1 ea c n l λu' s2 I2 ru=>⟨v,H1,I2,ru,q⟩
theorem fE(ha:PE X o ta)(hv:PE X value tv)(hs:swapsWith value (some (.Attribute o f pos')) pos.line X.env=pure false):PS X (.Assign [.Attribute o f pos'] value pos) (ab8 X.K ta tv f):=by
 intro pins s σ H D I h
 refine plainObj_wpAny_Assign_Attribute (cS (hv pins s σ H _ I h) λu s1 ⟨y,H1,I1,ry,q⟩=>cS (ha pins s1 σ H1 _ I1 q) λov s2 ⟨x,H2,I2,rx,a,C,dx,fs,ex,ea,c,n,l,q2⟩=>?_) hs
 subst ex
 obtain rfl:ov=Value.ref a:=rx
 exact K5 I2 ea c n l ry λs3 I3=>⟨σ,_,I3,q2⟩
end
section
variable{X:Cx}{pins:List (Addr×Obj)}{σ:St}{H:Hp}{s:Shared}{A:Around}{E:Value->Shared->Prop}{Q:Value->Shared->Prop}{c:Value}{b:Bool}
inductive uK(K:W.Frag)(H:Hp):V->Value->Prop where
 |non:uK K H .non (.type "NoneType")
 |bl (x:Bool):uK K H (.bl x) (.type "bool")
 |int (i:Int):uK K H (.int i) (.type "int")
 |str (x:Str):uK K H (.str x) (.type "str")
 |lU (x:UInt64):uK K H (.lU x) (.type "float")
 |lst {a:Addr}{xs:List V} (e:H a=some (.lst xs)):uK K H (.ref a) (.type "list")
 |KU {a:Addr}{o:Obj}{xs:List V} (e:H a=some (.KU o (.lst xs))):uK K H (.ref a) (.type "list")
 |tup {a:Addr}{xs:List V} (e:H a=some (.tup xs)):uK K H (.ref a) (.type "tuple")
 |dK {a:Addr}{kvs:List (Key×V)} (e:H a=some (.dK kvs)):uK K H (.ref a) (.type "dict")
 |dT {a:Addr}{kvs:List (List Key×V)} (e:H a=some (.dT kvs)):uK K H (.ref a) (.type "dict")
 |ins {a C dx:Addr}{fs:List (Str×V)} (e:H a=some (.ins C dx fs)) (cl:K3 K C) (ha:W.findIn K (.ref C) "__class__"=some (some (.builtin "object.__class__")))
   (hn:W.specialIn K (.builtin "object.__class__") "__get__"=some (some (.builtin "getset_descriptor.__get__"))) (htk:W.takesIn K (.builtin "object.__class__")=some true)
   (hm:W.mroIn K C (.type "object")=some true):uK K H (.ref a) (.ref C)
theorem Ez{x:V}{u t:Value}(I:Inv X pins σ H s)(rx:RelV x u)(ty:uK X.K H x t)(e:W.kitOne X.K t c=some b)(h:∀tk,Q (.bool b) {s with toks:=tk}):wpAny 'g' A (call (.builtin "isinstance") [u,c]) Q E s:=by
 cases ty with
 |non=>cases(show u=Value.none from rx);exact afu W.kitx_none I.nQ True.intro e (λz=>nomatch z) h
 |bl y=>cases(show u=Value.bool y from rx);exact afu W.kitx_bool I.nQ True.intro e (λz=>nomatch z) h
 |int i=>obtain⟨t,q⟩:=(show ∃t,u=Value.int i t from rx);cases q;exact afu W.kitx_int I.nQ True.intro e (λz=>nomatch z) h
 |str y=>obtain⟨t,q⟩:=(show ∃t,u=Value.str y t from rx);cases q;exact afu W.kitx_str I.nQ True.intro e (λz=>nomatch z) h
 |lU y=>obtain⟨t,q⟩:=(show ∃t,u=Value.float y t from rx);cases q;exact afu W.kitx_float I.nQ True.intro e (λz=>nomatch z) h
 |@lst a xs ea =>
  cases(show u=Value.ref a from rx)
  obtain⟨_,_,n,_,h1⟩:=(show cM X.prog X.w H s.heap a (.lst xs) from I.hok a _ ea)
  exact afu W.kitx_list I.nQ ⟨_,h1,rfl⟩ e (λz=>nomatch z) h
 |@KU a ob xs ea =>
  cases(show u=Value.ref a from rx)
  obtain⟨_,_,_,n,_,h1⟩:=(show cM X.prog X.w H s.heap a (.KU ob (.lst xs)) from I.hok a _ ea)
  exact afu W.kitx_list I.nQ ⟨_,h1,rfl⟩ e (λz=>nomatch z) h
 |@tup a xs ea =>
  cases(show u=Value.ref a from rx)
  obtain⟨_,_,_,p⟩:=(show cM X.prog X.w H s.heap a (.tup xs) from I.hok a _ ea)
  obtain⟨o,h1,h2,_⟩:=p
  exact afu W.kitx_tuple I.nQ ⟨o,h1,h2⟩ e (λz=>nomatch z) h
 |@dK a kvs ea =>
  cases(show u=Value.ref a from rx)
  obtain⟨_,_,vs,_,p⟩:=(show cM X.prog X.w H s.heap a (.dK kvs) from I.hok a _ ea)
  obtain⟨o,es,ep,h1,h2,_⟩:=p
  exact afu W.kitx_dict I.nQ ⟨o,h1,h2.1⟩ e (λz=>nomatch z) h
 |@dT a kvs ea =>
  cases(show u=Value.ref a from rx)
  obtain⟨_,_,xs,_,o,es,ep,h1,h2,_⟩:=(show cM X.prog X.w H s.heap a (.dT kvs) from I.hok a _ ea)
  exact afu W.kitx_dict I.nQ ⟨o,h1,h2.1⟩ e (λz=>nomatch z) h
 |@ins a C dx fs ea cl ha hn htk hm =>
  cases(show u=Value.ref a from rx)
  obtain⟨mA,O,_⟩:=A9 I.hok ea
  obtain⟨od,J,_⟩:=O.look
  exact afu (W.kitx_own (cl.get _) cl.hd ha hn htk hm) I.nQ J e (λz=>nomatch z) h
end
structure fS(k:Nat)(A:Around):Prop where
 hd:A.handled=none
 dp:A.depth+3*k+5<recursionLimit
 un:A.units+16*k+200<cLine
theorem fS.mono{j k:Nat}{A:Around}(r:fS k A)(h:j<=k):fS j A:=⟨r.hd,by have:=r.dp;omega,by have:=r.un;omega⟩
theorem fS.deeper{k:Nat}{A:Around}(r:fS (k+1) A)(env:Env):fS k (A.deeper env) :=
 ⟨r.hd,by have:=r.dp;show A.depth+1+3*k+5<_;omega,by have:=r.un;show A.units+3+16*k+200<_;omega⟩
theorem K6{A:Around}{C:Addr}{us:List Value}{kw:List (Str×Value)}:(A.under (.builtin "type.__call__" ⟨.ref C::us,kw⟩)).depth=A.depth+1:=by
 first|rfl|simp[Around.under,Code.weight,Code.isCreation,Code.isGuard,Code.isCaller,Code.frames,Code.isFrame,guardIds]
theorem K7{A:Around}{C:Addr}{us:List Value}{kw:List (Str×Value)}:(A.under (.builtin "type.__call__" ⟨.ref C::us,kw⟩)).units=A.units+1:=by
 first|rfl|simp[Around.under,Code.cUnits,Code.frames,Code.isFrame]
theorem fS.make{k:Nat}{A:Around}(r:fS (k+1) A)(C:Addr)(us:List Value)(kw:List (Str×Value)):fS k (A.under (.builtin "type.__call__" ⟨.ref C::us,kw⟩)) :=
 ⟨r.hd,by have:=r.dp;rw[K6];omega,by have:=r.un;rw[K7];omega⟩
theorem fS.depth{k:Nat}{A:Around}(r:fS k A):A.depth<recursionLimit:=by have:=r.dp;omega
theorem fS.units{k:Nat}{A:Around}(r:fS k A):A.units+64<cLine:=by have:=r.un;omega
theorem fS.aK{k:Nat}{A:Around}(r:fS k A):A.units<cLine:=by have:=r.un;omega
def aaF:TA:=λ_ H Q=>Q [] H
def aaG(ta:TE)(tr:TA):TA:=λσ H Q=>ta σ H λx H1=>tr σ H1 λxs H2=>Q (x::xs) H2
section
variable{X:Cx}{e:Expr}{es:List Expr}{te:TE}{t:TA}{pos:Pos}
theorem ah:PA X [] aaF:=λ_ _ _ _ H Q I h=>Calls.spliced_nil ⟨[],H,I,.nil,h⟩
theorem af(ha:PE X e te)(hr:PA X es t)(hs:starEach (e::es) X.env=(false,eval e X.env)::starEach es X.env:=by rfl):PA X (e::es) (aaG te t):=by
 intro pos pins s σ H Q I h
 rw[hs]
 show wpAny _ _ (spliced ((false,eval e X.env)::backTo pos (starEach es X.env))) _ _ s
 refine Calls.spliced_cons (cS (ha pins s σ H _ I h) λu s1 ⟨x,H1,I1,r1,q1⟩=>?_)
 exact cS (hr pos pins s1 σ H1 _ I1 q1) λus s2 ⟨xs,H2,I2,r2,q2⟩=>⟨x::xs,H2,I2,.cons r1 r2,q2⟩
def ab9(t:TA):TE:=λσ H Q=>t σ H λxs H1=>xs.length<=sizeLine/\∀p,H1 p=none->Q (.ref p) (upd H1 p (.tup xs))
def acd(t:TA):TE:=λσ H Q=>t σ H λxs H1=>xs.length<=sizeLine/\∀p,H1 p=none->Q (.ref p) (upd H1 p (.lst xs))
theorem aH{x1}(h:PA X es t):PE X (.Tuple es x1 pos) (ab9 t):=by
 intro pins s σ H Q I hq
 refine wpAny_Tuple_spliced (cS (h pos pins s σ H _ I hq) λus s1 ⟨xs,H1,I1,r,z,q⟩=>⟨by rw[←r.length];exact z,?_⟩)
 have hf:H1 s1.heap.objs.size=none:=I1.hok.fresh (ad6 _)
 refine⟨.ref s1.heap.objs.size,upd H1 s1.heap.objs.size (.tup xs),I1.laid (t':=s1.toks) (λb u e=>ad9 _ e) (ad6 _) ?_,rfl,q _ hf⟩
 exact⟨z,us,r,⟨_,ael _ rfl,O,_,O⟩⟩
theorem bL(h:PA X es t):PE X (.List es pos) (acd t):=by
 intro pins s σ H Q I hq
 refine wpAny_List_spliced (cS (h pos pins s σ H _ I hq) λus s1 ⟨xs,H1,I1,r,z,q⟩=>⟨by rw[←r.length];exact z,?_⟩)
 have hf:H1 s1.heap.objs.size=none:=I1.hok.fresh (ad6 _)
 refine⟨.ref s1.heap.objs.size,upd H1 s1.heap.objs.size (.lst xs),I1.laid (t':=s1.toks) (λb u e=>ad9 _ e) (ad6 _) ?_,rfl,q _ hf⟩
 exact⟨z,us,0,r,ael _ rfl⟩
end
abbrev Sp:=List V->Hp->VK->XK->Prop
abbrev Ox:=List Env->Hp->Shared->XK->Value->Shared->Prop
structure K8(P:Program)(w:World)(K:W.Frag)(mg:Str->Option Value)(base:Heap)(A:Around)(outer:List Env)(s:Shared)(H:Hp):Prop where
 frames:A.frames=some outer
 mod:Mod K mg base
 bs:∀b o,base.get? b=some o->s.heap.get? b=some o/\H b=none
 UM:base.objs.size<=s.heap.objs.size
 xM:s.heap.FunFrames base outer
 W5:∀b∈frs outer,H b=none
 hok:xK P w H s.heap
 bare:AllBare s.gens
def CE(outer:List Env)(P:Program)(w:World)(H:Hp)(s:Shared)(Q:VK)(u:Value)(s':Shared):Prop :=
 ∃v H',s'.os=s.os/\AllBare s'.gens/\Un (frs outer) [] H H' s.heap s'.heap/\xK P w H' s'.heap/\RelV v u/\Q v H'
def CR(CX:Ox)(outer:List Env)(P:Program)(w:World)(H:Hp)(s:Shared)(Q:VK)(E:XK)(r:Result)(s':Shared):Prop :=
 match r with
 | .ok (.ret u)=>CE outer P w H s Q u s'
 | .ok _=>False
 | .error e=>CX outer H s E e s'
structure bg(P:Program)(w:World)(K:W.Frag)(mg:Str->Option Value)(base:Heap)(CX:Ox)(k:Nat)(f:Addr)(fd:FuncData)(ps:List Str)(sp:Sp):Prop where
 len:∀vs H Q E,sp vs H Q E->vs.length=ps.length
 run:∀(A:Around)(outer:List Env)(s:Shared)(H:Hp)(args:Args)(us:List Value)(vs:List V)(Q:VK)(E:XK),fS k A->K8 P w K mg base A outer s H->BindsTo s fd args (ps.zip us)->Vals vs us->sp vs H Q E->codeAny (model P w) A (.call (.ref f) args) (CR CX outer P w H s Q E) s
theorem K8.make{P:Program}{w:World}{K:W.Frag}{mg:Str->Option Value}{base:Heap}{A:Around}{outer:List Env}{s:Shared}{H:Hp}(e:K8 P w K mg base A outer s H)(C:Addr)(us:List Value)(kw:List (Str×Value)):K8 P w K mg base (A.under (.builtin "type.__call__" ⟨.ref C::us,kw⟩)) outer s H:=⟨by first|exact e.frames | (simpa [Around.under,Code.envs,Code.isFrame,pushEnvs]using e.frames),e.mod,e.bs,e.UM,e.xM,e.W5,e.hok,e.bare⟩
section
variable{X:Cx}{pins:List (Addr×Obj)}{σ:St}{H:Hp}{s s':Shared}
theorem Inv.U5(I:Inv X pins σ H s):K8 X.prog X.w X.K X.mg X.base X.A X.stack s H :=
 ⟨I.ok.frames,I.ok.mod,I.bs,aep I.ok.UM I.sz,I.stack,I.Ga,I.hok,I.bare⟩
theorem Inv.after{Q:VK}{u:Value}(I:Inv X pins σ H s)(h:CE X.stack X.prog X.w H s Q u s'):EP X pins σ Q u s':=by
 obtain⟨v,H',os,bare,un,hok,r,q⟩:=h
 obtain⟨hh,g,d,t,os'⟩:=s'
 obtain rfl:os'=s.os:=os
 exact⟨v,H',I.call (h':=hh) (g':=g) (d':=d) (t':=t) (ch:=[]) un hok bare (λb z=>absurd z (by simp)),r,q⟩
end
def Xc(sp:Sp)(tG:List V)(E:XK)(t:TA):TE:=λσ H Q=>t σ H λvs H1=>sp (vs++tG) H1 Q E
inductive Nt(C:Addr)(m:Str)(sp:Sp)(tG:List V)(E:XK)(t:TA)(σ:St)(Q:VK)(x:V)(H1:Hp):Prop where
 |mk a dx fs:(x=.ref a)->(H1 a=some (.ins C dx fs))->(fs.lookup m=none)->(t σ H1 λvs H2=>sp (x::(vs++tG)) H2 Q E)->Nt C m sp tG E t σ Q x H1
def Xd(C:Addr)(m:Str)(sp:Sp)(tG:List V)(E:XK)(ta:TE)(t:TA):TE:=λσ H Q=>ta σ H λx H1=>Nt C m sp tG E t σ Q x H1
def aaH(C:Addr)(sp:Sp)(tG:List V)(E:XK)(t:TA):TE:=λσ H Q=>t σ H λvs H1=>∀x dx,H1 x=none->H1 dx=none->dx≠x->sp (.ref x::(vs++tG)) (upd (upd H1 dx (.own x)) x (.ins C dx [])) (λv H2=>v=.non/\Q (.ref x) H2) E
def Binds(K:W.Frag)(fd:FuncData)(ps:List Str)(ds:List Value):Prop :=
 ∀(s:Shared)(us:List Value),K.In s.heap->(us++ds).length=ps.length->BindsTo s fd ⟨us,[]⟩ (ps.zip (us++ds))
theorem Binds.all{K:W.Frag}{fd:FuncData}{ps:List Str}(h:∀us:List Value,us.length=ps.length->bindArgs fd ⟨us,[]⟩=pure (ps.zip us)):Binds K fd ps []:=λs us _ hl=>by
 rw[aeD]at hl⊢
 exact .of_eq (h us hl)
def Passes(CX:Ox)(X:Cx)(E:XK):Prop:=∀(pins:List (Addr×Obj))(σ:St)(H:Hp)(s:Shared)(e:Value)(s':Shared),Inv X pins σ H s->CX X.stack H s E e s'->X.xe e s'
section
variable{X:Cx}{CX:Ox}{k:Nat}{f C:Addr}{fd:FuncData}{ps:List Str}{sp:Sp}{tG:List V}{ds:List Value}{E:XK}{x m:Str}{p pos apos:Pos}{e o:Expr}{es:List Expr}{ta:TE}{t:TA}
theorem K9{pins:List (Addr×Obj)}{σ:St}{H:Hp}{s:Shared}{Q:VK}{us:List Value}{vs:List V}(F:bg X.prog X.w X.K X.mg X.base CX k f fd ps sp)(hr:fS k X.A)(hb:Binds X.K fd ps ds)(hd:Vals tG ds)(hx:Passes CX X E)(I:Inv X pins σ H s)(r:Vals vs us)(h:sp (vs++tG) H Q E):wpAny 'g' X.A (call (.ref f) us) (EP X pins σ Q) X.xe s:=by
 have r2:Vals (vs++tG) (us++ds):=r.append hd
 have hl:(us++ds).length=ps.length:=by rw[←r2.length];exact F.len _ _ _ _ h
 refine wpAny_call (codeAny_mono (F.run X.A X.stack s H ⟨us,[]⟩ (us++ds) (vs++tG) Q E hr I.U5 (hb s us I.nQ hl) r2 h) λr s' hq=>?_)
 cases r with
 |error e=>exact hx pins σ H s e s' I hq
 |ok fl =>
  cases fl with
  |ret u=>exact I.after hq
  |next=>exact False.elim hq
  |brk=>exact False.elim hq
  |cont=>exact False.elim hq
theorem Nu(F:bg X.prog X.w X.K X.mg X.base CX k f fd ps sp)(hr:fS k X.A)(hg:Gl X x)(hm:X.mg x=some (.ref f))(hk:W.keepIn X.K (.ref f)=true)(hb:Binds X.K fd ps ds)(hd:Vals tG ds)(hx:Passes CX X E)(ha:PA X (e::es) t)(hdb:(x==("__debug__":Str))=false:=by decide)(he:starEach (e::es) X.env=(false,eval e X.env)::starEach es X.env:=by rfl)(hpl:(backTo pos (starEach es X.env)).any (·.1)=false:=by rfl):PE X (.Call (.Name x p) (e::es) [] pos) (Xc sp tG E t):=by
 intro pins s σ H Q I h
 refine afz (oQ I hg hm ?_ hdb)
 refine W.callWith_K (h₀:=X.base) I.ok.mod.lZ hk (cS (ha pos pins s σ H _ I h) λus s1 ⟨vs,H1,I1,r,q⟩=>⟨I1.nQ,?_⟩) he hpl
 exact K9 F hr hb hd hx I1 r q
theorem dw{pl:Sem Bool}(he:PE X o ta)(c:K3 X.K C)(hm:Meth X.K C m f)(F:bg X.prog X.w X.K X.mg X.base CX k f fd ps sp)(hr:fS k X.A)(hb:Binds X.K fd ps ds)(hd:Vals tG ds)(hx:Passes CX X E)(ha:PA X (e::es) t)(hst:starEach (e::es) X.env=(false,eval e X.env)::starEach es X.env:=by rfl)(hpl:(backTo pos (starEach es X.env)).any (·.1)=false:=by rfl)(ht:eval (.Call (.Attribute o m apos) (e::es) [] pos) X.env=(do
   let ov ←eval o X.env
   standAt apos.atName
   let (f,first) ←holding [ov] (getMethod ov m pl)
   callWith pos f first (backTo pos (starEach (e::es) X.env)) (backToKw pos (keywordEach [] X.env))):=by rfl):PE X (.Call (.Attribute o m apos) (e::es) [] pos) (Xd C m sp tG E ta t):=by
 intro pins s σ H Q I h
 refine W.methodCall_KW (pl:=pl) (cS (he pins s σ H _ I h) λu s1 ⟨x,H1,I1,rx,a,dx,fs,ex,ea,l,q⟩=>?_) ht
 subst ex
 obtain rfl:u=Value.ref a:=rx
 refine Bv I1 ea c hm l ?_
 refine W.callWith_K (first:=[.ref a]) (h₀:=X.base) I.ok.mod.lZ hm.kp (cS (ha pos pins s1 σ H1 _ I1 q) λus s2 ⟨vs,H2,I2,r,q2⟩=>⟨I2.nQ,?_⟩) hst hpl
 exact K9 (us:=.ref a::us) (vs:=.ref a::vs) F hr hb hd hx I2 (.cons rfl r) q2
theorem Bw{pl:Sem Bool}(he:PE X o ta)(c:K3 X.K C)(hm:Meth X.K C m f)(F:bg X.prog X.w X.K X.mg X.base CX k f fd ps sp)(hr:fS k X.A)(hb:Binds X.K fd ps ds)(hd:Vals tG ds)(hx:Passes CX X E)(ht:eval (.Call (.Attribute o m apos) [] [] pos) X.env=(do
   let ov ←eval o X.env
   standAt apos.atName
   let (f,first) ←holding [ov] (getMethod ov m pl)
   callWith pos f first (backTo pos (starEach [] X.env)) (backToKw pos (keywordEach [] X.env))):=by rfl):PE X (.Call (.Attribute o m apos) [] [] pos) (Xd C m sp tG E ta aaF):=by
 intro pins s σ H Q I h
 refine W.methodCall_KW (pl:=pl) (cS (he pins s σ H _ I h) λu s1 ⟨x,H1,I1,rx,a,dx,fs,ex,ea,l,q⟩=>?_) ht
 subst ex
 obtain rfl:u=Value.ref a:=rx
 refine Bv I1 ea c hm l ?_
 exact W.callWith_K0 (first:=[.ref a]) I1.nQ hm.kp (K9 (us:=[.ref a]) (vs:=[.ref a]) F hr hb hd hx I1 (.cons rfl .nil) q)
structure Mk(K:W.Frag)(C f:Addr):Prop where
 makes:W.makesIn K C=true
 init:W.findIn K (.ref C) "__init__"=some (some (.ref f))
 fn:W.isFn K (.ref f)=true
 kp:W.keepIn K (.ref C)=true
theorem Rn{pins:List (Addr×Obj)}{σ:St}{H:Hp}{s:Shared}{Q:VK}{us:List Value}{vs:List V}(M:Mk X.K C f)(F:bg X.prog X.w X.K X.mg X.base CX k f fd ps sp)(hr:fS (k+1) X.A)(hb:Binds X.K fd ps ds)(hd:Vals tG ds)(hx:Passes CX X E)(I:Inv X pins σ H s)(r:Vals vs us)(h:∀x dx,H x=none->H dx=none->dx≠x->sp (.ref x::(vs++tG)) (upd (upd H dx (.own x)) x (.ins C dx [])) (λv H2=>v=.non/\Q (.ref x) H2) E):wpAny 'g' X.A (call (.ref C) us) (EP X pins σ Q) X.xe s:=by
 have hq:=h (s.heap.objs.size+1) s.heap.objs.size (I.hok.fresh (Nat.le_succ _)) (I.hok.fresh (ad6 _)) (aeH (afX _))
 have I2:=Inv.made (C:=C) I
 have r2:Vals (V.ref (s.heap.objs.size+1)::(vs++tG)) (Value.ref (s.heap.objs.size+1)::(us++ds)):=.cons rfl (r.append hd)
 have hl:(Value.ref (s.heap.objs.size+1)::us++ds).length=ps.length:=by
  have e:=r2.length
  rw[F.len _ _ _ _ hq]at e
  exact e.symm
 refine wpAny_call (Rl (f:=f) I.nQ M.makes M.init (beq_iff_eq.mp M.fn) (codeAny_mono (F.run _ X.stack _ _ ⟨Value.ref (s.heap.objs.size+1)::us,[]⟩ (Value.ref (s.heap.objs.size+1)::(us++ds)) _ _ E (hr.make C us [])
  (I2.U5.make C us []) (hb _ (Value.ref (s.heap.objs.size+1)::us) I2.nQ hl) r2 hq) λr s' hq'=>?_))
 cases r with
 |error e=>exact hx pins σ _ _ e s' I2 hq'
 |ok fl =>
  cases fl with
  |ret u =>
   obtain⟨v,H',I3,rv,ev,q3⟩:=I2.after hq'
   subst ev
   exact⟨rv,⟨V.ref (s.heap.objs.size+1),H',I3,O,q3⟩⟩
  |next=>exact False.elim hq'
  |brk=>exact False.elim hq'
  |cont=>exact False.elim hq'
theorem iB(M:Mk X.K C f)(F:bg X.prog X.w X.K X.mg X.base CX k f fd ps sp)(hr:fS (k+1) X.A)(hg:Gl X x)(hm:X.mg x=some (.ref C))(hb:Binds X.K fd ps ds)(hd:Vals tG ds)(hx:Passes CX X E)(ha:PA X (e::es) t)(hdb:(x==("__debug__":Str))=false:=by decide)(he:starEach (e::es) X.env=(false,eval e X.env)::starEach es X.env:=by rfl)(hpl:(backTo pos (starEach es X.env)).any (·.1)=false:=by rfl):PE X (.Call (.Name x p) (e::es) [] pos) (aaH C sp tG E t):=by
 intro pins s σ H Q I h
 refine afz (oQ I hg hm ?_ hdb)
 refine W.callWith_K (h₀:=X.base) I.ok.mod.lZ M.kp (cS (ha pos pins s σ H _ I h) λus s1 ⟨vs,H1,I1,r,q⟩=>⟨I1.nQ,?_⟩) he hpl
 exact Rn M F hr hb hd hx I1 r q
end
section
variable{X:Cx}{CX:Ox}{k:Nat}{f C:Addr}{fd:FuncData}{ps ks:List Str}{sp:Sp}{E:XK}{x m:Str}{p pos apos kpos:Pos}{e o:Expr}{es:List Expr}{kws:List Keyword}{te ta:TE}{t tk:TA}{nm:Option Str}
variable{g:List Value->List Value->List Value}{gV:List V->List V->List V}
end
structure aF(N P:List Str)(sc:Scope):Prop where
 kind:sc.kind=.function
 co:sc.isCoroutine=false
 gen:sc.isGenerator=false
 nd:N.Nodup
 pre:N.take P.length=P
 par:∀x∈P,sc.names.lookup x=some .local\/sc.names.lookup x=some .cell
 XZ:∀y∈sc.names,y.2≠.free
theorem EA{kindOf:Str->Option NameKind}{x:Str}:∀{binds:List (Str×Value)}{m:Str->Option Value},(∀v,(x,v)∉binds)->bindL kindOf binds m x=m x
 |[],_,_=>rfl
 | (n,v)::r,m,h=>by
  unfold bindL
  rw[EA λw hw=>h w (aer _ hw)]
  split
  ·have:x≠n:=by rintro rfl;exact h v aew
   simp[this]
  ·rfl
theorem EB{kindOf:Str->Option NameKind}{x:Str}:∀{binds:List (Str×Value)}{m:Str->Option Value},(∀v,(x,v)∉binds)->bindC kindOf binds m x=m x
 |[],_,_=>rfl
 | (n,v)::r,m,h=>by
  unfold bindC
  rw[EB λw hw=>h w (aer _ hw)]
  split
  ·rfl
  ·have:x≠n:=by rintro rfl;exact h v aew
   simp[this]
theorem EC{kindOf:Str->Option NameKind}{x:Str}{v:Value}:∀{P:List Str}{vs:List Value}{i:Nat}{m:Str->Option Value},P.Nodup->P[i]?=some x->vs[i]?=some v->kindOf x=some .local->bindL kindOf (P.zip vs) m x=some v
 |[],_,_,_,_,h,_,_=>by simp at h
 |_::_,[],_,_,_,_,h,_=>by simp at h
 |p::P,w::vs,0,m,nd,h1,h2,hk=>by
  simp at h1 h2;subst h1;subst h2
  show bindL kindOf ((p,w)::P.zip vs) m p=_
  unfold bindL
  rw[EA λv hv=>(af3.mp nd).1 (List.of_mem_zip hv).1,aee hk]
  simp
 |p::P,w::vs,i+1,m,nd,h1,h2,hk=>by
  show bindL kindOf ((p,w)::P.zip vs) m x=_
  unfold bindL
  exact EC (i:=i) (af3.mp nd).2 (by simpa using h1) (by simpa using h2) hk
theorem ED{kindOf:Str->Option NameKind}{x:Str}{v:Value}:∀{P:List Str}{vs:List Value}{i:Nat}{m:Str->Option Value},P.Nodup->P[i]?=some x->vs[i]?=some v->kindOf x≠some .local->bindC kindOf (P.zip vs) m x=some v
 |[],_,_,_,_,h,_,_=>by simp at h
 |_::_,[],_,_,_,_,h,_=>by simp at h
 |p::P,w::vs,0,m,nd,h1,h2,hk=>by
  simp at h1 h2;subst h1;subst h2
  show bindC kindOf ((p,w)::P.zip vs) m p=_
  unfold bindC
  rw[EB λv hv=>(af3.mp nd).1 (List.of_mem_zip hv).1,ad5 hk]
  simp
 |p::P,w::vs,i+1,m,nd,h1,h2,hk=>by
  show bindC kindOf ((p,w)::P.zip vs) m x=_
  unfold bindC
  exact ED (i:=i) (af3.mp nd).2 (by simpa using h1) (by simpa using h2) hk
def start(N:List Str)(vs:List V):St:=vs.map some++List.replicate (N.length-vs.length) none
def Gf(CX:Ox)(P:Program)(w:World)(K:W.Frag)(mg:Str->Option Value)(base:Heap)(N:List Str)(qual:Str)(scope:Scope)(f:Addr)(cd:Value)(A:Around)(outer:List Env)(s:Shared)(H:Hp)(E:XK):Cx where
 prog:=P
 w:=w
 K:=K
 mg:=mg
 base:=base
 A:=A.deeper (envOfC qual scope s.heap.objs.size f cd)
 N:=N
 s₀:=s
 H₀:=H
 env:=envOfC qual scope s.heap.objs.size f cd
 outer:=outer
 stack:=envOfC qual scope s.heap.objs.size f cd::outer
 ex:=[]
 calm:=true
 fn:=λ_=>true
 pn:=[]
 xe:=λe s'=>wpAny (model P w) (A.deeper (envOfC qual scope s.heap.objs.size f cd)) (leaving (envOfC qual scope s.heap.objs.size f cd) e) (λ_ s''=>CX outer H s E e s'') (λe' s''=>CX outer H s E e' s'') s'
theorem Ip{sc:Scope}{n:Nat}{x:Str}(h:sc.names.lookup x=some .cell):∃c,(cellsFrom n sc.names []).lookup x=some c:=by
 have q:=W.cellsFrom_some sc.names n [] (.inl h)
 exact Option.isSome_iff_exists.mp q
theorem Oz{CX:Ox}{P:Program}{w:World}{K:W.Frag}{mg:Str->Option Value}{base:Heap}{N ps:List Str}{qual:Str}{scope:Scope}{f:Addr}{cd:Value}{A:Around}{outer:List Env}{s s1:Shared}{H:Hp}{E:XK}{us:List Value}{vs:List V}(S:aF N ps scope)(hd:A.handled=none)(e0:K8 P w K mg base A outer s H)(hl:vs.length=ps.length)(r:Vals vs us)(x:InCallC s s.heap.objs.size (bindL (envOfC qual scope s.heap.objs.size f cd).kindOf (ps.zip us) λ_=>none) (cellsFrom (s.heap.objs.size+1) scope.names []) (bindC (envOfC qual scope s.heap.objs.size f cd).kindOf (ps.zip us) λ_=>none) s1):Inv (Gf CX P w K mg base N qual scope f cd A outer s H E) [] (start N vs) H s1:=by
 have hpl:ps.length<=N.length:=by have:=congrArg List.length S.pre;rw[aey]at this;omega
 obtain⟨h1,tk,rfl,hk⟩:=x.done
 have noA:∀b:Addr,b∉(Gf CX P w K mg base N qual scope f cd A outer s H E).ex:=λb z=>absurd (show b∈([]:List Addr) from z) (by simp)
 refine⟨⟨e0.mod,S.kind,O,O,ad6 _,λy z c h1 h2=>?_,λy hy=>?_,λy c _ h=>?_,λ_=>hd,Around.frames_deeper e0.frames,.inr ⟨O,O⟩,λb z=>absurd z (noA b),e0.bs,e0.UM,λb _ _=>noA b,λb z=>absurd z (noA b),e0.xM,e0.W5⟩,O,e0.bare,Un.kept hk,⟨_,x.toInCall.ns,λi y v h1 h2 h3=>?_⟩,λy c h=>⟨_,x.cell y c h⟩,e0.hok.fresh (ad6 _),λy c h=>?_,λp hp=>absurd (show p∈([]:List (Addr×Obj)) from hp) (by simp),e0.hok.kept hk,?_⟩
 ·exact name_of_addr x.apart (afc h1) (afc h2)
 ·have hy:scope.names.lookup y=some .cell\/scope.names.lookup y=some .free:=hy
  rcases hy with hy|hy
  ·exact Ip hy
  ·exact absurd rfl (S.XZ _ (afc hy))
 ·exact Nat.le_of_lt (x.above y c (afc h))
 ·have hi:i<vs.length:=by
   unfold start at h2
   by_cases hi:i<vs.length
   ·exact hi
   ·rw[List.getElem?_append_right (by simpa using hi)]at h2
    rw[List.getElem?_replicate]at h2
    split at h2<;>cases h2
  have ha:vs[i]?=some v:=by
   unfold start at h2
   rw[List.getElem?_append_left (by simpa using hi),aft]at h2
   cases e:vs[i]? with
   |none=>rw[e]at h2;cases h2
   |some a=>rw[e]at h2;cases h2;rfl
  obtain⟨u,hu,rv⟩:=r.get ha
  have hp:ps[i]?=some y:=by
   rw[←S.pre,List.getElem?_take_of_lt 'f'];exact h1
  have ndP:ps.Nodup:=by rw[←S.pre];exact S.nd.sublist (List.take_sublist _ _)
  refine⟨u,rv,?_⟩
  rcases S.par y (aen hp) with k|k
  ·exact .inl ⟨k,EC ndP hp hu k⟩
  ·obtain⟨c,e⟩:=Ip (n:=s.heap.objs.size+1) k
   refine .inr ⟨.inl k,c,e,?_⟩
   have q:=x.cell y c e
   rw[ED ndP hp hu (by show scope.names.lookup y≠_;rw[k];decide)]at q
   exact q
 ·exact e0.hok.fresh (Nat.le_of_lt (x.above y c (afc h)))
 ·unfold start
  show _=N.length
  rw[aef,aec,ae9]
  omega
theorem Ro{CX:Ox}{P:Program}{w:World}{K:W.Frag}{mg:Str->Option Value}{base:Heap}{k:Nat}{f:Addr}{name qual:Str}{params:Arguments}{body:List Stmt}{scope:Scope}{dV kV doc pm cdv ct oc:Value}{an od:Option Addr}{osl:Array (Option Value)}{N ps:List Str}{sp:Sp}(lk:K.lookup f=some ⟨oc,od,.func (W.fnOf name qual params body scope dV kV doc pm an cdv ct),osl⟩)(hcd:W.codeIn K cdv qual=true)(S:aF N ps scope)(len:∀vs H Q E,sp vs H Q E->vs.length=ps.length)(hbody:∀(A:Around)(outer:List Env)(s:Shared)(H:Hp)(vs:List V)(Q:VK)(E:XK),fS k (A.deeper (envOfC qual scope s.heap.objs.size f cdv))->sp vs H Q E->∃t,Il (Gf CX P w K mg base N qual scope f cdv A outer s H E) body t/\t {nx:=λ_ H'=>Q .non H',rt:=Q} (start N vs) H):bg P w K mg base CX (k+1) f (W.fnOf name qual params body scope dV kV doc pm an cdv ct) ps sp:=by
 refine⟨len,λA outer s H args us vs Q E hr e0 hb r QS=>?_⟩
 have hl:=len _ _ _ _ QS
 have KX:K.In s.heap:=e0.mod.lZ.keeps λb o e=>(e0.bs b o e).1
 have lim:s.heap.NoLimit:=e0.mod.nolimit.keeps λb o e=>(e0.bs b o e).1
 have hkind:∀y∈ps.zip us,scope.names.lookup y.1=some .local\/(scope.names.lookup y.1=some .cell/\((cellsFrom (s.heap.objs.size+1) scope.names []).lookup y.1).isSome=true):=λ⟨n,v⟩ hy=>by
  rcases S.par n (List.of_mem_zip hy).1 with q|q
  ·exact .inl q
  ·exact .inr ⟨q,W.cellsFrom_some _ _ _ (.inl q)⟩
 refine codeAny_call_function hr.depth (KX _ _ lk) rfl S.co S.gen rfl (W.codeRec_of KX hcd) (hb _ _ _ _ ?_)
 refine wpAny_newFunctionEnv_cells S.kind hkind λenv he s1 x=>?_
 subst he
 refine⟨lim.keeps x.toInCall.keep,codeAny_func ?_⟩
 obtain⟨t,ht,hq⟩:=hbody A outer s H vs Q E (hr.deeper _) QS
 have I:Inv (Gf CX P w K mg base N qual scope f cdv A outer s H E) [] (start N vs) H s1:=Oz S hr.hd e0 hl r x
 refine ae8 (ht [] s1 (start N vs) H _ I hq) (λfl s' hs=>?_) λe s' hs=>hs
 have fin:∀{σ':St}{H':Hp}{v:V}{u:Value},Inv (Gf CX P w K mg base N qual scope f cdv A outer s H E) [] σ' H' s'->RelV v u->Q v H'->CE outer P w H s Q u s' :=
  λ{σ' H' v u} J rv q=>⟨v,H',J.os,J.bare,J.base,J.hok,rv,q⟩
 cases fl with
 |ret u =>
  obtain⟨v,σ',H',J,rv,q⟩:=hs
  exact fin J rv q
 |next =>
  obtain⟨σ',H',J,q⟩:=hs
  exact fin (v:=V.non) (u:=Value.none) J rfl q
 |brk =>
  obtain⟨_,_,_,q⟩:=hs
  exact False.elim q
 |cont =>
  obtain⟨_,_,_,q⟩:=hs
  exact False.elim q
section
variable{X:Cx}{x:Str}{p pos:Pos}{e:Expr}{es:List Expr}{t:TA}{id T:String}{r:List V->Hp->VK->Prop}
def tCB(r:List V->Hp->VK->Prop)(t:TA):TE:=λσ H Q=>t σ H λvs H1=>r vs H1 Q
theorem Rp(hc:eZ X (.builtin id) r)(hg:Gl X x)(hm:X.mg x=none)(hv:bootBuiltins x=some (.builtin id))(ha:PA X (e::es) t)(hn:x ≠ "__name__":=by decide)(hdb:(x==("__debug__":Str))=false:=by decide)(he:starEach (e::es) X.env=(false,eval e X.env)::starEach es X.env:=by rfl)(hpl:(backTo pos (starEach es X.env)).any (·.1)=false:=by rfl):PE X (.Call (.Name x p) (e::es) [] pos) (tCB r t):=by
 intro pins s σ H Q I h
 refine afz (qB I hg hm hv ?_ hn hdb)
 exact PyProof.Rows.callWith_builtin1 (cS (ha pos pins s σ H _ I h) λus s1 ⟨vs,H1,I1,r1,q1⟩=>hc pins s1 σ H1 vs us Q I1 r1 q1) he hpl
theorem OA(hc:eZ X (.type T) r)(hg:Gl X x)(hm:X.mg x=none)(hv:bootBuiltins x=some (.type T))(ha:PA X (e::es) t)(hn:x ≠ "__name__":=by decide)(hdb:(x==("__debug__":Str))=false:=by decide)(he:starEach (e::es) X.env=(false,eval e X.env)::starEach es X.env:=by rfl)(hpl:(backTo pos (starEach es X.env)).any (·.1)=false:=by rfl):PE X (.Call (.Name x p) (e::es) [] pos) (tCB r t):=by
 intro pins s σ H Q I h
 refine afz (qB I hg hm hv ?_ hn hdb)
 exact afi (cS (ha pos pins s σ H _ I h) λus s1 ⟨vs,H1,I1,r1,q1⟩=>hc pins s1 σ H1 vs us Q I1 r1 q1) he hpl
end
end L2
namespace HT
open PySem PyProof.Rows
section
open PySem.SeqAt
open PySem.AutoSeq1 (wpAny_loadPart')
open PySem.MeetsSeq PySem.MeetsSeq2 PySem.MeetsSeq3
end
section
variable{prog:Program}{w:World}{A:Around}{E:Value->Shared->Prop}{s:Shared}
theorem U6{t b:Addr}{vs ws:List Value}{Q:Value->Shared->Prop}(ht:IsTup s.heap t vs.toArray)(hb:IsTup s.heap b ws.toArray)(hv:vs≠[])(h1:ws=[]->Q (.ref t) s)(h2:ws≠[]->Q (.ref s.heap.objs.size) {s with heap:=s.heap.push {cls:=.type "tuple",data:=.seq (vs++ws).toArray}})(hsz:vs.length+ws.length<=sizeLine):wpAny (model prog w) A (binaryOp .Add (.ref t) (.ref b)) Q E s:=by
 obtain⟨⟨cls,dd,data,sl⟩,ho,hc,n,hd⟩:=id ht
 obtain⟨⟨adY,dd2,data2,sl2⟩,ho2,hc2,n2,hd2⟩:=id hb
 simp only at hc hd hc2 hd2
 subst hc hd hc2 hd2
 have e:vs.toArray++ws.toArray=(vs++ws).toArray:=by simp
 by_cases hw:ws=[]
 ·exact concat_meets ⟨_,ho,rfl⟩ ⟨_,ho2,rfl⟩ noFill_tuple_add seq_tuple_add PySem.F.slot_tuple_add PySem.F.entry_tuple_add (PySem.F.args_tuple_add_2 _ _)
   (tuple_addW1 t b vs.toArray ws.toArray n n2 dd dd2 sl sl2 (by simpa using hv) (by simp[hw])) ⟨ho,ho2,h1 hw⟩
 ·refine concat_meets ⟨_,ho,rfl⟩ ⟨_,ho2,rfl⟩ noFill_tuple_add seq_tuple_add PySem.F.slot_tuple_add PySem.F.entry_tuple_add (PySem.F.args_tuple_add_2 _ _)
   (tuple_addW2 t b vs.toArray ws.toArray n n2 dd dd2 sl sl2 (by simpa using hv) (by simpa using hw) (by rw[aed,aed];exact hsz)) ⟨ho,ho2,?_⟩
  rw[e]
  exact h2 hw
def jA(n d:Nat):Option Int->Nat
 |none=>d
 |some v=>if v<0 then (v+(n:Int)).toNat else min v.toNat n
theorem X0(n d:Nat)(hd:d<=n)(o:Option Int):jA n d o<=n:=by
 cases o with
 |none=>exact hd
 |some v =>
  show(if v<0 then (v+(n:Int)).toNat else min v.toNat n)<=n
  by_cases hv:v<0
  ·rw[aee hv];omega
  ·rw[ad5 hv];exact Nat.min_le_right _ _
theorem Nv(v:Int)(n d:Nat):(if v<0 then max (v+(n:Int)) 0 else min v (n:Int))=((jA n d (some v):Nat):Int):=by
 show(if v<0 then max (v+(n:Int)) 0 else min v (n:Int))=(((if v<0 then (v+(n:Int)).toNat else min v.toNat n):Nat):Int)
 by_cases hv:v<0
 ·simp only[aee hv];omega
 ·simp only[ad5 hv];omega
theorem La(lo hi:Option Int)(n:Nat):Builtin.Slice.sliceAdjust lo hi 1 (n:Int)=(((jA n 0 lo:Nat):Int),((jA n n hi:Nat):Int)):=by
 have h1:¬((1:Int)<0):=by omega
 unfold Builtin.Slice.sliceAdjust
 simp only[h1,afy]
 refine Prod.ext ?_ ?_
 ·cases lo with
  |none=>rfl
  |some v=>exact Nv v n 0
 ·cases hi with
  |none=>rfl
  |some v=>exact Nv v n n
theorem Lb(i j:Nat):Builtin.Slice.slicePlaces (i:Int) (j:Int) 1=j-i:=by
 unfold Builtin.Slice.slicePlaces
 have h1:(1:Int)>0:=by omega
 simp only[h1,afW,Int.ediv_one]
 split<;>omega
theorem Bx{v:Value}{o:Option Int}{Q:Option Int->Shared->Prop}(p:IsPart v o)(h:Q o s):wpAny (model prog w) A (Builtin.Slice.slicePartIndex v) Q E s:=by
 cases p with
 |none=>exact slicePart_none h
 |int i t=>exact slicePart_int h
theorem xO{sl:Addr}{vl vu:Value}{lo hi:Option Int}{n:Nat}{Q:Int×Int×Nat->Shared->Prop}(hs:s.heap.IsSliceOf sl vl vu .none)(pl:IsPart vl lo)(pu:IsPart vu hi)(h:Q (((jA n 0 lo:Nat):Int),1,jA n n hi-jA n 0 lo) s):wpAny (model prog w) A (Builtin.Slice.sliceApplied (.ref sl) (pure (n:Int))) Q E s:=by
 obtain⟨os,hos,hcs,hds⟩:=id hs
 unfold Builtin.Slice.sliceApplied Builtin.Slice.sliceFields
 refine ad4 (ad4 (aeK hos hds (x:=vl) rfl (ad4 (aeK hos hds (x:=vu) rfl (ad4 (aeK hos hds (x:=.none) rfl (aea ?_)))))))
 refine ad4 (slicePart_none ?_)
 show wpAny _ _ (if ((1:Int)==0)=true then _ else _) _ _ s
 rw[ad5 'c']
 refine ad4 (Bx pl (ad4 (Bx pu (ad4 (aea ?_)))))
 show wpAny _ _ (match Builtin.Slice.sliceAdjust lo hi 1 (n:Int) with | (lo,hi)=>pure (lo,(1:Int),Builtin.Slice.slicePlaces lo hi 1)) _ _ s
 rw[La lo hi n]
 show wpAny _ _ (pure (((jA n 0 lo:Nat):Int),(1:Int),Builtin.Slice.slicePlaces ((jA n 0 lo:Nat):Int) ((jA n n hi:Nat):Int) 1)) _ _ s
 rw[Lb]
 exact aea h
theorem Rq(xs:Array Value)(i k:Nat):((List.range k).filterMap λ(m:Nat)=>xs[((i:Int)+(m:Int)*1).toNat]?).toArray=((xs.toList.drop i).take k).toArray:=by
 have e:(λ(m:Nat)=>xs[((i:Int)+(m:Int)*1).toNat]?)=λm=>xs[i+m]?:=by
  funext m
  have:((i:Int)+(m:Int)*1).toNat=i+m:=by omega
  rw[this]
 rw[e]
 have:=pick_run xs i k
 rw[List.filterMap_map]at this
 have e2:((λx=>xs[x]?)∘λx=>i+x)=λm=>xs[i+m]?:=rfl
 rw[e2]at this
 rw[this]
theorem vD{t sl:Addr}{items:Array Value}{vl vu:Value}{lo hi:Option Int}{Q:Value->Shared->Prop}(ht:IsTup s.heap t items)(hs:s.heap.IsSliceOf sl vl vu .none)(pl:IsPart vl lo)(pu:IsPart vu hi)(hw:¬(jA items.size 0 lo=0/\jA items.size items.size hi=items.size))(h:Q (.ref s.heap.objs.size) {s with heap:=s.heap.push {cls:=.type "tuple",data:=.seq ((items.toList.drop (jA items.size 0 lo)).take (jA items.size items.size hi-jA items.size 0 lo)).toArray}})(hsz:items.size<=sizeLine):wpAny (model prog w) A (getItem (.ref t) (.ref sl)) Q E s:=by
 have Nx:sizeOk (.seq ((items.toList.drop (jA items.size 0 lo)).take (jA items.size items.size hi-jA items.size 0 lo)).toArray):=by
  show((items.toList.drop (jA items.size 0 lo)).take (jA items.size items.size hi-jA items.size 0 lo)).toArray.size<=sizeLine
  rw[aed,aey,List.length_drop,aeq]
  omega
 have hj:jA items.size items.size hi<=items.size:=X0 _ _ (ad6 _) hi
 obtain⟨os,hos,hcs,hds⟩:=id hs
 have hTs:s.TypeIs (.ref sl) "slice":=⟨os,hos,hcs⟩
 unfold getItem
 try with_reducible refine wpAny_holding ?_
 first|refine ad4 (aea ?_)|skip
 refine ad4 (wpAny_sequenceKey ht.typeIs 'c' ?_)
 refine ad4 (aeU (name:=("__getitem__":Str)) ht.typeIs PyProof.Rows.slot_tuple_getitem
  (ae6 PyProof.Rows.slot_tuple_getitem ht.typeIs entry_tuple_getitem ?_ (args_tuple_getitem _ _)))
 show wpAny _ _ (Builtin.Tuple.tupleItemsOf (.ref t) >>= _) _ _ s
 refine ad4 (tupleItemsOf_ ht ?_)
 refine ad4 (wpAny_typeOf hTs ?_)
 rw[aee 'c']
 refine ad4 (xO hs pl pu ?_)
 have hno:¬((((jA items.size 0 lo:Nat):Int)==0&&(1:Int)==1&&(jA items.size items.size hi-jA items.size 0 lo)==items.size)=true):=by
  intro q
  rw[ae7,ae7]at q
  have q1:((jA items.size 0 lo:Nat):Int)=0:=eq_of_beq q.1.1
  have q2:jA items.size items.size hi-jA items.size 0 lo=items.size:=eq_of_beq q.2
  exact hw ⟨by omega,by omega⟩
 show wpAny _ _ (if (((jA items.size 0 lo:Nat):Int)==0&&(1:Int)==1&&(jA items.size items.size hi-jA items.size 0 lo)==items.size)=true then _ else _) _ _ s
 rw[ad5 hno,Rq]
 first
  |exact ad4 (m:=Builtin.Tuple.tupleExact _) (ae0 (aea ⟨_,rfl,aea h⟩) Nx)
  |exact ad4 (m:=Builtin.Tuple.tupleExact _) (ae0 (ad4 (aea (aea ⟨_,rfl,aea h⟩))) Nx)
  |exact ad4 (ad4 (m:=Builtin.Tuple.tupleExact _) (ae0 (aea (aea ⟨_,rfl,aea h⟩)) Nx))
  |exact ad4 (ad4 (m:=Builtin.Tuple.tupleExact _) (ae0 (aea ⟨_,rfl,aea h⟩) Nx))
end
end HT
namespace L2
open PySem PySem.Spec PyProof.Rows
abbrev TO:=St->Hp->(Option Int->Hp->Prop)->Prop
def PO(X:Cx)(e:Option Expr)(t:TO):Prop :=
 ∀(pins:List (Addr×Obj))(s:Shared)(σ:St)(H:Hp)(Q:Option Int->Hp->Prop),Inv X pins σ H s->t σ H Q->wpAny 'g' X.A (evalPart e X.env) (λu s'=>∃o H',Inv X pins σ H' s'/\IsPart u o/\Q o H') X.xe s
def U7:TO:=λ_ H Q=>Q none H
inductive Ny(Q:Option Int->Hp->Prop)(x:V)(H1:Hp):Prop where
 |mk i:(x=.int i)->(Q (some i) H1)->Ny Q x H1
def aaI(t:TE):TO:=λσ H Q=>t σ H λx H1=>Ny Q x H1
section
variable{X:Cx}{e:Expr}{te:TE}{lo hi:Option Expr}{tl th:TO}{pos p2:Pos}
theorem Ba:PO X none U7:=by
 intro pins s σ H Q I h
 rw[evalPart_none]
 exact aea ⟨none,H,I,.none,h⟩
theorem Bb(h:PE X e te):PO X (some e) (aaI te):=by
 intro pins s σ H Q I hw
 rw[evalPart_some]
 refine cS (h pins s σ H _ I hw) λu s1 ⟨x,H1,I1,r1,q1⟩=>?_
 obtain⟨i,rfl,q⟩:=q1
 obtain⟨t,rfl⟩:=r1
 exact⟨some i,H1,I1,.int i t,q⟩
def SlR(X:Cx)(r:V->Option Int->Option Int->Hp->VK->Prop):Prop :=
 ∀(pins:List (Addr×Obj))(s:Shared)(σ:St)(H:Hp)(x:V)(v vl vu:Value)(lo hi:Option Int)(sl:Addr)(Q:VK),Inv X pins σ H s->RelV x v->s.heap.IsSliceOf sl vl vu .none->IsPart vl lo->IsPart vu hi->r x lo hi H Q->∃T id,typeLookup (.type T) "__getitem__"=pure (some (.builtin id))/\s.TypeIs v T/\wpAny 'g' X.A (getItem v (.ref sl)) (EP X pins σ Q) X.xe s
def tSl(r:V->Option Int->Option Int->Hp->VK->Prop)(te:TE)(tl th:TO):TE:=λσ H Q=>te σ H λx H1=>tl σ H1 λl H2=>th σ H2 λu H3=>r x l u H3 Q
theorem vE{r:V->Option Int->Option Int->Hp->VK->Prop}(hr:SlR X r)(he:PE X e te)(hl:PO X lo tl)(hu:PO X hi th):PE X (.Subscript e (.Slice lo hi none p2) pos) (tSl r te tl th):=by
 intro pins s σ H Q I h
 refine Subscript_ (cS (he pins s σ H _ I h) λv s1 ⟨x,H1,I1,r1,q1⟩=>?_)
 refine wpAny_Slice (cS (hl pins s1 σ H1 _ I1 q1) λvl s2 ⟨l,H2,I2,pl,q2⟩=>cS (hu pins s2 σ H2 _ I2 q2) λvu s3 ⟨u,H3,I3,pu,q3⟩=>?_)
 rw[evalPart_none]
 refine aea ?_
 have I4:Inv X pins σ H3 {s3 with heap:=s3.heap.push {cls:=.type "slice",data:=.fields #[vl,vu,.none]}}:=I3.kept (t':=s3.toks) λb ob q=>ad9 _ q
 obtain⟨T,id,hT,ht,hg⟩:=hr pins {s3 with heap:=s3.heap.push {cls:=.type "slice",data:=.fields #[vl,vu,.none]}} σ H3 x v vl vu l u s3.heap.objs.size Q I4 r1 (Heap.IsSliceOf.new ..) pl pu q3
 show wpAny 'g' X.A (subscriptTail e (.Slice lo hi none p2) v (.ref s3.heap.objs.size)) (EP X pins σ Q) X.xe {s3 with heap:=s3.heap.push {cls:=.type "slice",data:=.fields #[vl,vu,.none]}}
 exact tail_any (ops:=[.ref s3.heap.objs.size,v]) ht hT hg (by with_unfolding_all rfl)
def By(xs:List V)(lo hi:Option Int):List V:=(xs.drop (HT.jA xs.length 0 lo)).take (HT.jA xs.length xs.length hi-HT.jA xs.length 0 lo)
theorem zq(xs:List V)(lo hi:Option Int):(By xs lo hi).length<=xs.length:=by
 unfold By
 rw[aey,List.length_drop]
 omega
inductive X3(K:W.Frag)(x:V)(lo:Option Int)(hi:Option Int)(H:Hp)(Q:VK):Prop where
 |mk a xs:(x=.ref a)->(aX K H a xs)->(¬(HT.jA xs.length 0 lo=0/\HT.jA xs.length xs.length hi=xs.length))->(∀p,H p=none->Q (.ref p) (upd H p (.tup (By xs lo hi))))->X3 K x lo hi H Q
theorem X4:SlR X (X3 X.K):=by
 intro pins s σ H x v vl vu lo hi sl Q I rx hs pl pu h
 obtain⟨a,xs,rfl,hx,hw,q⟩:=h
 cases rx
 obtain⟨its,r,ht,hz⟩:=I.tuple hx
 have hlen:its.toArray.size=xs.length:=by rw[aed];exact r.length.symm
 refine⟨"tuple",_,PyProof.Rows.slot_tuple_getitem.lookup,ht.typeIs,?_⟩
 refine HT.vD ht hs pl pu (by rw[hlen];exact hw) ?_ (by rw[hlen];exact hz)
 rw[hlen]
 refine⟨.ref s.heap.objs.size,_,I.laid (t':=s.toks) (o:=.tup (By xs lo hi)) (λb ob q=>ad9 _ q) (ad6 _) ?_,rfl,q _ (I.hok.fresh (ad6 _))⟩
 exact⟨aep (zq xs lo hi) hz,_,(r.drop (HT.jA xs.length 0 lo)).take (HT.jA xs.length xs.length hi-HT.jA xs.length 0 lo),IsTup.new _ _⟩
inductive Rr(K:W.Frag)(x:V)(y:V)(H:Hp)(Q:VK):Prop where
 |mk a b xs ys:(x=.ref a)->(y=.ref b)->(aX K H a xs)->(aX K H b ys)->(xs≠[])->(xs.length+ys.length<=sizeLine)->((ys=[]->Q (.ref a) H))->((ys≠[]->∀p,H p=none->Q (.ref p) (upd H p (.tup (xs++ys)))))->Rr K x y H Q
theorem Vals.Gg{xs:List V}{us:List Value}(r:Vals xs us):us=[]↔xs=[]:=by
 cases r with
 |nil=>simp
 |cons _ _=>simp
theorem U8:kF X (binaryOp .Add) (Rr X.K):=by
 intro pins s σ H x y v u Q I rx ry h
 obtain⟨a,b,xs,ys,rfl,rfl,ha,hb,hx,hz,q1,q2⟩:=h
 cases rx
 cases ry
 obtain⟨its,r1,p1,_⟩:=I.tuple ha
 obtain⟨its2,r2,p2,_⟩:=I.tuple hb
 refine HT.U6 p1 p2 (λz=>hx (r1.Gg.mp z)) (λz=>⟨.ref a,H,I,rfl,q1 (r2.Gg.mp z)⟩) (λz=>?_) (by rw[←r1.length,←r2.length];exact hz)
 refine⟨.ref s.heap.objs.size,_,I.laid (t':=s.toks) (o:=.tup (xs++ys)) (λb ob q=>ad9 _ q) (ad6 _) ?_,rfl,q2 (λw=>z (r2.Gg.mpr w)) _ (I.hok.fresh (ad6 _))⟩
 exact⟨by rw[aef];exact hz,_,r1.append r2,IsTup.new _ _⟩
end
def ixN(n:Nat)(i:Int):Option Nat:=if 0<=i then (if i<n then some i.toNat else none) else if -(n:Int)<=i then some (i+n).toNat else none
def OB{α:Type}(xs:List α)(i:Int):Option α:=(ixN xs.length i).bind λj=>xs[j]?
theorem U9{n:Nat}{i:Int}{j:Nat}(h:ixN n i=some j):seqIndex? i n=some j/\j<n/\-(n:Int)<=i/\i<n:=by
 unfold ixN at h
 by_cases h0:0<=i
 ·rw[aee h0]at h
  by_cases h1:i<n
  ·rw[aee h1]at h
   have e:i.toNat=j:=aes h
   exact⟨by rw[seqIndex_of h0 h1,e],by omega,by omega,h1⟩
  ·rw[ad5 h1]at h;cases h
 ·rw[ad5 h0]at h
  by_cases h1 : -(n:Int)<=i
  ·rw[aee h1]at h
   have e:(i+n).toNat=j:=aes h
   exact⟨by rw[seqIndex_neg 'f' h1,e],by omega,h1,by omega⟩
  ·rw[ad5 h1]at h;cases h
theorem Gh{α:Type}{xs:List α}{i:Int}{v:α}(h:OB xs i=some v):∃j,seqIndex? i xs.length=some j/\xs[j]?=some v/\j<xs.length/\-(xs.length:Int)<=i/\i<xs.length:=by
 unfold OB at h
 cases e:ixN xs.length i with
 |none=>rw[e]at h;cases h
 |some j =>
  rw[e]at h
  obtain⟨h1,h2,h3,h4⟩:=U9 e
  exact⟨j,h1,h,h2,h3,h4⟩
theorem Bc{α:Type}{xs:List α}{j:Nat}{v:α}(h:xs[j]?=some v):OB xs (j:Int)=some v:=by
 have hj:j<xs.length:=(ad8.mp h).1
 have e:ixN xs.length (j:Int)=some j:=by
  unfold ixN
  rw[aee 'f',aee 'f'];simp
 unfold OB;rw[e];exact h
def Gi(b:Expr):Prop:=∀o i,subscripted b false o i=operate [o,i] (getItem o i)
def IxR(X:Cx)(r:R2):Prop :=
 ∀(value slice:Expr)(pins:List (Addr×Obj))(s:Shared)(σ:St)(H:Hp)(x y:V)(v u:Value)(Q:VK),Inv X pins σ H s->RelV x v->RelV y u->r x y H Q->subscripted slice false v u=operate [v,u] (getItem v u)->wpAny 'g' X.A (subscriptTail value slice v u) (EP X pins σ Q) X.xe s
def X5(X:Cx)(id:String)(r:V->List V->Hp->VK->Prop):Prop :=
 ∀(pins:List (Addr×Obj))(s:Shared)(σ:St)(H:Hp)(x:V)(xs:List V)(v:Value)(us:List Value)(Q:VK),Inv X pins σ H s->RelV x v->Vals xs us->r x xs H Q->wpAny 'g' X.A (call (.builtin id) (v::us)) (EP X pins σ Q) X.xe s
section
variable{X:Cx}{a b:Expr}{ta tb:TE}{pos:Pos}
theorem Nz{r:R2}(hr:IxR X r)(ha:PE X a ta)(hb:PE X b tb)(hs:Gi b):PE X (.Subscript a b pos) (Xa r ta tb):=by
 intro pins s σ H Q I h
 exact Subscript_ (XU ha hb I h λv u s2 x y H2 I2 rx ry q=>hr a b pins s2 σ H2 x y v u Q I2 rx ry q (hs _ _))
inductive Va(K:W.Frag)(x:V)(y:V)(H:Hp)(Q:VK):Prop where
 |mk p xs i v:(x=.ref p)->(y=.int i)->(aT K H p xs)->(OB xs i=some v)->(Q v H)->Va K x y H Q
inductive Vb(K:W.Frag)(x:V)(y:V)(H:Hp)(Q:VK):Prop where
 |mk p xs i v:(x=.ref p)->(y=.int i)->(aX K H p xs)->(OB xs i=some v)->(Q v H)->Vb K x y H Q
inductive aaJ(x:V)(y:V)(H:Hp)(Q:VK):Prop where
 |mk z i c:(x=.str z)->(y=.int i)->(z.length<=sizeLine)->(OB z.cps.toList i=some c)->(Q (.str ⟨#[c]⟩) H)->aaJ x y H Q
theorem Vc:IxR X (Va X.K):=by
 intro value slice pins s σ H x y v u Q I rx ry h hs
 obtain⟨p,xs,i,z,rfl,rfl,hq,he,q⟩:=h
 cases rx
 obtain⟨t,rfl⟩:=ry
 obtain⟨its,r,pl,hz⟩:=I.list hq
 obtain⟨j,h1,h2,h3,h4,h5⟩:=Gh he
 obtain⟨w,ew,rw'⟩:=r.get h2
 have hl:=r.length
 have hn:=Bu
 have fin:EP X pins σ Q w s:=⟨z,H,I,rw',q⟩
 by_cases h0:0<=i
 ·have hj:i.toNat=j:=by
   rw[seqIndex_of h0 h5]at h1
   exact aes h1
  exact item_listR pl.isList h0 'f' (by rw[hj];simpa using ew) fin hs
 ·have hj:(i+(its.toArray.size:Int)).toNat=j:=by
   rw[seqIndex_neg 'f' h4]at h1
   rw[aed,←hl]
   exact aes h1
  exact subscriptTail_builtinR (x:=w) pl.isList.typeIs slot_list_getitem.lookup
   (wpAny_getItem_list_neg (Q:=λr s'=>r=w/\EP X pins σ Q r s') pl.isList 'f' (by rw[aed]<;>omega) 'f' (by rw[hj];simpa using ew) ⟨rfl,fin⟩) hs
theorem X6:IxR X (Vb X.K):=by
 intro value slice pins s σ H x y v u Q I rx ry h hs
 obtain⟨p,xs,i,z,rfl,rfl,hq,he,q⟩:=h
 cases rx
 obtain⟨t,rfl⟩:=ry
 obtain⟨its,r,pl,hz⟩:=I.tuple hq
 obtain⟨j,h1,h2,h3,h4,h5⟩:=Gh he
 obtain⟨w,ew,rw'⟩:=r.get h2
 have hl:=r.length
 have hn:=Bu
 have fin:EP X pins σ Q w s:=⟨z,H,I,rw',q⟩
 exact subscriptTail_builtinR (x:=w) pl.typeIs slot_tuple_getitem.lookup
  (getItem_tuple (j:=j) (Q:=λr s'=>r=w/\EP X pins σ Q r s') pl 'f' 'f' (by rw[aed,←hl];exact h1) (by simpa using ew) ⟨rfl,fin⟩) hs
theorem Rt:IxR X aaJ:=by
 intro value slice pins s σ H x y v u Q I rx ry h hs
 obtain⟨z,i,c,rfl,rfl,hz,he,q⟩:=h
 obtain⟨t,rfl⟩:=rx
 obtain⟨t',rfl⟩:=ry
 obtain⟨j,h1,h2,h3,h4,h5⟩:=Gh he
 have hl:z.cps.toList.length=z.length:=by simp[Str.length]
 rw[hl]at h1 h4 h5
 have hn:=Bu
 exact tail_any (typeIs_str s z t) slot_str_getitem.lookup (getItem_str (c:=c) (by
  have e1:decide (i < -(2 ^ 63:Int))=false:=aeg 'f'
  have e2:decide (i>=2 ^ 63)=false:=aeg 'f'
  rw[e1,e2,Bool.or_false]) (by rw[h1];simpa using h2) ⟨.str ⟨#[c]⟩,H,I.tok _,⟨_,rfl⟩,q⟩) hs
theorem Gj(lo hi:Option Int)(n:Nat):(sliceBounds lo hi none n).1=((HT.jA n 0 lo:Nat):Int)/\(sliceBounds lo hi none n).2.1=((HT.jA n n hi:Nat):Int)/\(sliceBounds lo hi none n).2.2=1:=by
 refine⟨?_,?_,O⟩
 ·cases lo with
  |none=>simp[sliceBounds,HT.jA]
  |some i =>
   simp only[sliceBounds,HT.jA,Option.getD_none,show(1:Int)>0 by decide,afW]
   by_cases h:i<0
   ·simp only[h,afW]<;>omega
   ·simp only[h,afy]<;>omega
 ·cases hi with
  |none=>simp[sliceBounds,HT.jA]
  |some i =>
   simp only[sliceBounds,HT.jA,Option.getD_none,show(1:Int)>0 by decide,afW]
   by_cases h:i<0
   ·simp only[h,afW]<;>omega
   ·simp only[h,afy]<;>omega
theorem DC(its:List Value)(lo hi:Option Int):slicePick its.toArray lo hi none=((its.drop (HT.jA its.length 0 lo)).take (HT.jA its.length its.length hi-HT.jA its.length 0 lo)).toArray:=by
 obtain⟨h1,h2,h3⟩:=Gj lo hi its.toArray.size
 unfold slicePick
 rw[h1,h2,h3]
 simp only[sliceRange_one,pick_run,aed]<;>rfl
inductive X7(K:W.Frag)(x:V)(lo:Option Int)(hi:Option Int)(H:Hp)(Q:VK):Prop where
 |mk a xs:(x=.ref a)->(aT K H a xs)->(∀p,H p=none->Q (.ref p) (upd H p (.lst (By xs lo hi))))->X7 K x lo hi H Q
theorem Vd:SlR X (X7 X.K):=by
 intro pins s σ H x v vl vu lo hi sl Q I rx hs pl pu h
 obtain⟨a,xs,rfl,hx,q⟩:=h
 cases rx
 obtain⟨its,r,ht,hz⟩:=I.list hx
 have hlen:=r.length
 refine⟨"list",_,slot_list_getitem.lookup,ht.isList.typeIs,?_⟩
 refine wpAny_getItem_list_slice ht.isList hs pl pu .none (by simp) ?_ (by rw[aed]<;>omega)
 rw[DC,←hlen]
 refine⟨.ref s.heap.objs.size,_,I.laid (t':=s.toks) (o:=.lst (By xs lo hi)) (λb ob q=>ad9 _ q) (ad6 _) ?_,rfl,q _ (I.hok.fresh (ad6 _))⟩
 exact⟨aep (zq xs lo hi) hz,_,0,(r.drop (HT.jA xs.length 0 lo)).take (HT.jA xs.length xs.length hi-HT.jA xs.length 0 lo),ael _ rfl⟩
def eg:V->Bool
 | .non=>true
 | .bl _=>true
 | .int _=>true
 | .str _=>true
 |_=>false
def Bd:V->V->Bool
 | .non,.non=>true
 | .bl a,.bl b=>a==b
 | .bl a,.int b=>(if a then 1 else 0)==b
 | .int a,.bl b=>a==(if b then 1 else 0)
 | .int a,.int b=>a==b
 | .str a,.str b=>a==b
 |_,_=>false
theorem Lc{A:Around}{s:Shared}{y x:V}{u v:Value}(ry:RelV y u)(rx:RelV x v)(fy:eg y=true)(fx:eg x=true):SeqAt.EqAt A s u v (Bd y x):=by
 cases y with
 |non =>
  cases ry
  cases x with
  |non=>cases rx;exact SeqAt.EqAt.same _
  |bl b=>cases rx;exact SeqAt.EqAt.none_bool b
  |int b=>obtain⟨t,rfl⟩:=rx;exact SeqAt.EqAt.none_int b t
  |str b=>obtain⟨t,rfl⟩:=rx;exact SeqAt.EqAt.none_str b t
  |_=>exact absurd (show false=true from fx) aev
 |bl a =>
  cases ry
  cases x with
  |non=>cases rx;exact SeqAt.EqAt.bool_none a
  |bl b=>cases rx;exact SeqAt.EqAt.bool_bool a b
  |int b=>obtain⟨t,rfl⟩:=rx;exact SeqAt.EqAt.bool_int a b t
  |str b=>obtain⟨t,rfl⟩:=rx;exact SeqAt.EqAt.bool_str a b t
  |_=>exact absurd (show false=true from fx) aev
 |int a =>
  obtain⟨t',rfl⟩:=ry
  cases x with
  |non=>cases rx;exact SeqAt.EqAt.int_none a t'
  |bl b=>cases rx;exact SeqAt.EqAt.int_bool a t' b
  |int b=>obtain⟨t,rfl⟩:=rx;exact SeqAt.EqAt.int_int a t' b t
  |str b=>obtain⟨t,rfl⟩:=rx;exact SeqAt.EqAt.int_str a t' b t
  |_=>exact absurd (show false=true from fx) aev
 |str a =>
  obtain⟨t',rfl⟩:=ry
  cases x with
  |non=>cases rx;exact SeqAt.EqAt.str_none a t'
  |bl b=>cases rx;exact SeqAt.EqAt.str_bool a t' b
  |int b=>obtain⟨t,rfl⟩:=rx;exact SeqAt.EqAt.str_int a t' b t
  |str b=>obtain⟨t,rfl⟩:=rx;exact SeqAt.EqAt.str_str a t' b t
  |_=>exact absurd (show false=true from fx) aev
 |_=>exact absurd (show false=true from fy) aev
def eqU(x:V)(u:Value):Bool:=match u with
 | .none=>Bd .non x
 | .bool b=>Bd (.bl b) x
 | .int i _=>Bd (.int i) x
 | .str z _=>Bd (.str z) x
 |_=>false
theorem Gk{x y:V}{u:Value}(r:RelV y u)(f:eg y=true):eqU x u=Bd y x:=by
 cases y with
 |non=>cases r;rfl
 |bl b=>cases r;rfl
 |int i=>obtain⟨t,rfl⟩:=r;rfl
 |str z=>obtain⟨t,rfl⟩:=r;rfl
 |_=>exact absurd (show false=true from f) aev
theorem Iq{A:Around}{s:Shared}{x:V}{v:Value}(rx:RelV x v)(fx:eg x=true):∀{xs:List V}{us:List Value},Vals xs us->xs.all eg=true->∀u∈us,SeqAt.EqAt A s u v (eqU x u)
 |_,_,.nil,_=>λu hu=>by cases hu
 |y::xs,u::us,.cons r t,f=>λu' hu=>by
  rw[List.all_cons,ae7]at f
  rcases aeh.mp hu with rfl|hu
  ·rw[Gk r f.1];exact Lc r rx f.1 fx
  ·exact Iq rx fx t f.2 u' hu
theorem kc:kF X (compareOp .NotIn) (λx y H Q=>∃i j,x=.str i/\y=.str j/\Q (.bl (!(!(Builtin.Str.occurrences j i 0 j.length 1).isEmpty))) H):=by
 intro pins s σ H x y v u Q I rx ry h
 obtain⟨i,j,rfl,rfl,q⟩:=h
 obtain⟨t,rfl⟩:=rx
 obtain⟨t',rfl⟩:=ry
 exact notIn_str ⟨.bl _,H,I,rfl,q⟩
theorem Gm:eZ X (.builtin "len") (λxs H Q=>∃p ys,xs=[.ref p]/\(aT X.K H p ys\/aX X.K H p ys)/\Q (.int ys.length) H):=by
 intro pins s σ H xs us Q I r h
 obtain⟨p,ys,rfl,hq,q⟩:=h
 obtain⟨u,rfl,rx⟩:=vals1 r
 cases rx
 have hn:=Bu
 rcases hq with hq|hq
 ·obtain⟨its,r',pl,hz⟩:=I.list hq
  have hlen:=r'.length
  exact Calls.call_len_list pl.isList (by simp only[aed]<;>omega) ⟨.int ys.length,H,I.tok _,⟨s.toks+1,by rw[aed,hlen]⟩,q⟩
 ·obtain⟨its,r',pl,hz⟩:=I.tuple hq
  have hlen:=r'.length
  exact len_tuple pl (by simp only[aed]<;>omega) ⟨.int ys.length,H,I.tok _,⟨s.toks+1,by rw[aed,hlen]⟩,q⟩
theorem bV:eZ X (.builtin "len") (λxs H Q=>∃z,xs=[.str z]/\z.length<=sizeLine/\Q (.int z.length) H):=by
 intro pins s σ H xs us Q I r h
 obtain⟨z,rfl,hz,q⟩:=h
 obtain⟨u,rfl,t,rfl⟩:=vals1 r
 have hn:=Bu
 exact len_str 'f' ⟨.int z.length,H,I.tok _,⟨_,rfl⟩,q⟩
theorem DE:eZ X (.type "tuple") (λxs H Q=>∃p ys,xs=[.ref p]/\((aT X.K H p ys/\∀l,H l=none->Q (.ref l) (upd H l (.tup ys)))\/(aX X.K H p ys/\Q (.ref p) H))):=by
 intro pins s σ H xs us Q I r h
 obtain⟨p,ys,rfl,h⟩:=h
 obtain⟨u,rfl,rx⟩:=vals1 r
 cases rx
 rcases h with ⟨hq,q⟩|⟨hq,q⟩
 ·obtain⟨its,r',pl,hz⟩:=I.list hq
  have hlen:=r'.length
  refine call_tuple_list pl.isList (λh' kp=>?_) (by simp only[aed]<;>omega)
  have I1:Inv X pins σ H {s with heap:=h'}:=I.kept (t':=s.toks) kp
  have I2:Inv X pins σ (upd H h'.objs.size (.tup ys)) {s with heap:=h'.push {cls:=.type "tuple",data:=.seq its.toArray}} :=
   I1.laid (t':=s.toks) (λb o e=>ad9 _ e) (ad6 _) (show cM X.prog X.w _ _ _ (.tup ys) from⟨hz,its,r',IsTup.new _ _⟩)
  exact⟨.ref h'.objs.size,_,I2,O,q _ (I1.hok.fresh (ad6 _))⟩
 ·obtain⟨its,r',pl,hz⟩:=I.tuple hq
  exact call_tuple_same pl ⟨.ref p,H,I,rfl,q⟩
def tyV(K:W.Frag)(T:String)(x:V)(H:Hp):Prop:=match x with
 | .str _=>T="str"
 | .int _=>T="int"
 | .ref p=>(T="list"/\∃xs,aT K H p xs)\/(T="tuple"/\∃o,K.lookup p=some o/\o.cls=.type "tuple"/\o.dict=none)\/
   (T="dict"/\((∃kvs,H p=some (.dK kvs))\/∃kvs,H p=some (.dT kvs)))\/(T="set"/\∃S n,H p=some (.set S n))
 |_=>False
theorem Ru{pins:List (Addr×Obj)}{σ:St}{H:Hp}{s:Shared}{T:String}{x:V}{v:Value}(I:Inv X pins σ H s)(r:RelV x v)(ty:tyV X.K T x H):s.TypeIs v T/\∀a,v=.ref a->∃ob,s.heap.get? a=some ob/\ob.dict=none:=by
 cases x with
 |str z =>
  obtain⟨t,rfl⟩:=r
  cases(show T="str" from ty)
  exact⟨typeIs_str s z t,λ_ e=>nomatch e⟩
 |int i =>
  obtain⟨t,rfl⟩:=r
  cases(show T="int" from ty)
  exact⟨typeIs_int s i t,λ_ e=>nomatch e⟩
 |ref p =>
  cases r
  rcases ty with ⟨rfl,xs,hq⟩|⟨rfl,o,hk,hc,hd⟩|⟨rfl,hk⟩|⟨rfl,S,n,hk⟩
  ·obtain⟨its,_,pl,_⟩:=I.list hq
   refine⟨pl.isList.typeIs,λa e=>?_⟩
   cases e
   obtain⟨o,n,e,c,hd,_⟩:=pl
   exact⟨o,e,hd⟩
  ·refine⟨⟨o,I.nQ p o hk,hc⟩,λa e=>?_⟩
   cases e
   exact⟨o,I.nQ _ o hk,hd⟩
  ·have z:∃o,s.heap.get? p=some o/\o.ExactDict:=by
    rcases hk with ⟨kvs,hk⟩|⟨kvs,hk⟩
    ·obtain⟨_,_,_,_,o,_,_,e,ex,_⟩:=I.hok p _ hk
     exact⟨o,e,ex⟩
    ·obtain⟨_,_,_,_,o,_,_,e,ex,_⟩:=I.hok p _ hk
     exact⟨o,e,ex⟩
   obtain⟨o,e,ex⟩:=z
   refine⟨⟨o,e,ex.1⟩,λa e2=>?_⟩
   cases e2
   exact⟨o,e,ex.2.1⟩
  ·obtain⟨o,_,_,_,e,ex,_⟩:=I.hok p _ hk
   refine⟨⟨o,e,ex.1⟩,λa e2=>?_⟩
   cases e2
   exact⟨o,e,ex.2.1⟩
 |_=>exact False.elim ty
def tBM(K:W.Frag)(T:String)(r:V->List V->Hp->VK->Prop)(to:TE)(t:TA):TE:=λσ H Q=>to σ H λx H1=>tyV K T x H1/\t σ H1 λxs H2=>r x xs H2 Q
variable{o e:Expr}{es:List Expr}{to:TE}{t:TA}{name:Str}{apos cpos:Pos}{T id:String}{r:V->List V->Hp->VK->Prop}
theorem aaK(pa:PlainAttrs T)(slot:Slot T name id)(hty:typeOf (.builtin id)=pure (.type "method_descriptor"))(hm:X5 X id r)(ho:PE X o to)(ha:PA X (e::es) t)(hbase:attributeBase o name X.env (eval o X.env)=eval o X.env:=by rfl)(hfew:((backTo cpos (starEach (e::es) X.env)).all (λx=>!x.1)&&(backToKw cpos (keywordEach [] X.env)).all (λx=>x.1.isSome)
   && decide ((e::es).length+([]:List Keyword).length+(if ([]:List Keyword).isEmpty then 0 else 1)<30))=true:=by rfl)(hline:(apos.endLine==cpos.line)=true:=by rfl)(hs:starEach (e::es) X.env=(false,eval e X.env)::starEach es X.env:=by rfl)(hplain:(backTo cpos (starEach es X.env)).any (·.1)=false:=by rfl):PE X (.Call (.Attribute o name apos) (e::es) [] cpos) (tBM X.K T r to t):=by
 intro pins s σ H Q I h
 refine wpAny_Call_method_late hbase hfew hline rfl (cS (ho pins s σ H _ I h) λv s1 ⟨x,H1,I1,r1,ty,q1⟩=>?_)
 obtain⟨h1,h2⟩:=Ru I1 r1 ty
 refine⟨T,id,pa,slot,hty,h1,h2,?_⟩
 have hA:=ha cpos pins s1 σ H1 _ I1 q1
 rw[hs]at hA⊢
 refine Calls.callWith_builtin (by show(false||(backTo cpos (starEach es X.env)).any (·.1))=false;rw[hplain]<;>rfl) (Calls.evalArgs_plain ?_)
 exact cS hA λus s2 ⟨vs,H2,I2,r2,q2⟩=>hm pins s2 σ H2 x vs v us Q I2 r1 r2 q2
end
def MtM(X:Cx)(id:String)(r:V->List V->Hp->VK->Prop):Prop :=
 ∀(pins:List (Addr×Obj))(s:Shared)(σ:St)(H:Hp)(x:V)(xs:List V)(v:Value)(us:List Value)(Q:VK),Inv X pins σ H s->RelV x v->Vals xs us->r x xs H Q->wpAny 'g' X.A (call (.builtin id) (v::us)) (EP X pins σ Q) X.xe s
theorem Vals.one:∀{x:V}{us:List Value},Vals [x] us->∃u,us=[u]/\RelV x u
 |_,_,.cons r .nil=>⟨_,rfl,r⟩
theorem Vals.reverse{xs:List V}{us:List Value}(h:Vals xs us):Vals xs.reverse us.reverse:=by
 induction h with
 |nil=>exact .nil
 |cons r t ih=>rw[afT,afT];exact Vals.append ih (.cons r .nil)
section
variable{X:Cx}{pins:List (Addr×Obj)}{σ:St}{H:Hp}{s:Shared}{l b:Addr}{xs ys zs:List V}
theorem Inv.aaL{its its':List Value}{n:Nat}{f:Array Value->Array Value}{t':Nat}(I:Inv X pins σ H s)(hH:H l=some (.lst xs))(e:s.heap.get? l=some {cls:=.type "list",data:=.seq its.toArray n})(hf:f its.toArray=its'.toArray)(hv:Vals ys its')(hz:ys.length<=sizeLine):Inv X pins σ (upd H l (.lst ys)) {s with heap:=s.heap.update l (Obj.mapSeq f),toks:=t'}:=by
 have q:=PySem.IsL.update e f
 rw[hf]at q
 refine I.write (x:=l) (e:=l) (by rw[hH];exact trivial) (.inl rfl) (λb' u hb hu=>(aeG s.heap (Obj.mapSeq f) (afa hb)).trans hu) ⟨_,q⟩ ?_
 exact⟨hz,its',_,hv,q⟩
theorem Inv.aaM{its:List Value}{t':Nat}(I:Inv X pins σ H s)(hv:Vals ys its)(hz:ys.length<=sizeLine):Inv X pins σ (upd H s.heap.objs.size (.lst ys)) {s with heap:=s.heap.push {cls:=.type "list",data:=.seq its.toArray},toks:=t'} :=
 I.laid (λ_ _ q=>ad9 _ q) (ad6 _) ⟨hz,its,0,hv,ael _ rfl⟩
theorem Inv.fresh(I:Inv X pins σ H s):H s.heap.objs.size=none:=I.hok.fresh (ad6 _)
theorem Inv.Rv(I:Inv X pins σ H s)(hH:H l=some (.lst xs)):xs.length<=sizeLine/\∃(its:List Value)(n:Nat),Vals xs its/\xs.length=its.length/\s.heap.get? l=some {cls:=.type "list",data:=.seq its.toArray n}:=by
 obtain⟨z,its,n,r,e⟩:=I.hok l _ hH
 exact⟨z,its,n,r,r.length,e⟩
theorem Rx{n:Nat}(h:n<=sizeLine):Builtin.List.listTooLong n=false:=by
 unfold Builtin.List.listTooLong
 exact aeg 'f'
end
section
variable{X:Cx}
inductive NB(x:V)(vs:List V)(H:Hp)(Q:VK):Prop where
 |mk l xs y:(x=.ref l)->(vs=[y])->(H l=some (.lst xs))->(xs.length<sizeLine)->(Q .non (upd H l (.lst (xs++[y]))))->NB x vs H Q
theorem cI:MtM X "list.append" NB:=by
 intro pins s σ H x vs v us Q I rx rv h
 obtain⟨l,xs,y,rfl,rfl,hH,hz,q⟩:=h
 cases rx
 obtain⟨u,rfl,ru⟩:=rv.one
 obtain⟨z,its,n,r,hl,e⟩:=I.Rv hH
 refine call_meets F.slot_list_append ⟨_,e,rfl⟩ F.entry_list_append (F.args_list_append_2 _ _) (PySem.list_append l its.toArray n u (by rw[aed];omega)) ⟨e,?_⟩
 refine⟨.non,_,I.aaL (its':=its++[u]) hH e (by simp) (r.append (.cons ru .nil)) ?_,rfl,q⟩
 rw[aef,List.length_singleton]
 omega
inductive NC(x:V)(vs:List V)(H:Hp)(Q:VK):Prop where
 |mk l b xs zs:(x=.ref l)->(vs=[.ref b])->(H l=some (.lst xs))->(H b=some (.lst zs))->(xs.length+zs.length<=sizeLine)->(Q .non (upd H l (.lst (xs++zs))))->NC x vs H Q
theorem xP:MtM X "list.extend" NC:=by
 intro pins s σ H x vs v us Q I rx rv h
 obtain⟨l,b,xs,zs,rfl,rfl,hH,hB,hz,q⟩:=h
 cases rx
 obtain⟨u,rfl,ru⟩:=rv.one
 cases ru
 obtain⟨z,its,n,r,hl,e⟩:=I.Rv hH
 obtain⟨z2,its2,n2,r2,hl2,e2⟩:=I.Rv hB
 have hsz:its.toArray.size+its2.toArray.size<=sizeLine:=by rw[aed,aed];omega
 have aaN:¬(!its.toArray.isEmpty&&Builtin.List.listTooLong (its.toArray.size+its2.toArray.size))=true:=by
  rw[Rx hsz,Bool.and_false]
  exact aev
 refine call_meets F.slot_list_extend ⟨_,e,rfl⟩ F.entry_list_extend (F.args_list_extend_2 _ _)
  (AutoSeq1.list_extend_list_list_0 l its.toArray n b its2.toArray n2 aaN (by rw[aed];omega) 'f') ⟨e,e2,?_⟩
 refine⟨.non,_,I.aaL (its':=its++its2) hH e (by simp) (r.append r2) ?_,rfl,q⟩
 rw[aef]
 omega
inductive aaO(x:V)(y:V)(H:Hp)(Q:VK):Prop where
 |mk l b xs zs:(x=.ref l)->(y=.ref b)->(H l=some (.lst xs))->(H b=some (.lst zs))->(xs.length+zs.length<=sizeLine)->(∀p,H p=none->Q (.ref p) (upd H p (.lst (xs++zs))))->aaO x y H Q
theorem X8:kF X (binaryOp .Add) aaO:=by
 intro pins s σ H x y v u Q I rx ry h
 obtain⟨l,b,xs,zs,rfl,rfl,hH,hB,hz,q⟩:=h
 cases rx
 cases ry
 obtain⟨z,its,n,r,hl,e⟩:=I.Rv hH
 obtain⟨z2,its2,n2,r2,hl2,e2⟩:=I.Rv hB
 refine PySem.P.add_list e e2 ?_ (by rw[aed,aed];omega)
 have ea:its.toArray++its2.toArray=(its++its2).toArray:=by simp
 rw[ea]
 exact⟨.ref _,_,I.aaM (t':=s.toks) (r.append r2) (by rw[aef];omega),rfl,q _ I.fresh⟩
end
section
variable{prog:Program}{w:World}{A:Around}{E:Value->Shared->Prop}{s:Shared}
set_option maxRecDepth 100000 in
end
section
variable{X:Cx}
end
end L2
namespace Att
open PySem PySem.W PySem.Calls PyProof.Rows
theorem Ae{P:Params}{h:Heap}:∀(ns:List Int)(vs:List Value),WellAll P h vs (ns.map WData.int)->IntsAre vs ns:=by
 intro ns
 induction ns with
 |nil =>
  intro vs w
  rw[List.map_nil]at w
  cases w
  exact .nil
 |cons n ns ih =>
  intro vs w
  rw[aeJ]at w
  cases w with
  |cons a b =>
   cases a
   exact .cons _ _ (ih _ b)
theorem OC{l:OpenLaw}{n:Nat}(hn:l.most=some n){P:Params}{h:Heap}{args:List WData}{vals:List Value}(hpre:l.row.toRowW.claim.pre args=true)(hwl:WellAll P h vals args):∃a vs ns,vals=[Value.ref a]/\args=[WData.list (ns.map WData.int)]/\h.get? a=some {cls:=.type "list",data:=.seq vs.toArray}/\IntsAre vs ns/\ns.length<=n:=by
 have hsh:WShape.hasAll [] args [.list .int]=true:=(pre_splitW hpre).1
 have hc:l.pre.holds [] {args:=args}=true:=(pre_splitW hpre).2
 obtain⟨d,r,rfl,h1,h2⟩:=hasAllW_cons hsh
 obtain rfl:=hasAllW_nil h2
 obtain⟨xs,rfl,h3⟩:=hasW_list h1
 obtain⟨ns,rfl⟩:=items_int h3
 have hlen:ns.length<=n:=by
  unfold OpenLaw.pre at hc
  have h4:(WTm.not (.lt (.lit (.int (n:Int))) (.len (.arg 0)))).holds [] {args:=[.list (ns.map .int)]}=true:=by
   have h4:=(holds_andW hc).1
   rw[hn]at h4
   exact h4
  have h5:=condW_of h4 (w_not (w_lt w_lit (w_len_list (w_arg rfl))))
  rw[aec]at h5
  refine Nat.le_of_not_lt λq=>?_
  have q':(n:Int)<((ns.length:Nat):Int):=by omega
  first
   | (rw[aeb q']at h5;exact absurd h5 'c')
   | (simp at h5;omega)
 cases hwl with
 |cons w1 w2 =>
  cases w2
  cases w1 with
  |list ho hall=>exact⟨_,_,ns,rfl,rfl,ho,Ae ns _ hall,hlen⟩
theorem OD(l:OpenLaw)(args:List WData):l.row.toRowW.claim.post args (.bool true) args=true :=
 postW_of (r:=l.row.toRowW) (X:=(true==true))
  (show WShape.has [] (.bool true) .bool=true by first|rfl|decide|simp[WShape.has,WShape.arms,WShape.armsAll])
  (show(WTm.eq .res (.lit (.bool true))).value [] {args:=args,res:=some (.bool true),after:=args}=some (.bool (true==true)) from w_eq_bool (w_res rfl) w_lit) rfl
theorem Ir{l:OpenLaw}{n:Nat}{q:Program}{loose:List Str}{XP:(Str->Option Value)->Heap->Prop}{YP:World->Heap->Prop}{d:DefRec}(hn:l.most=some n)(hdf:d.params.defaults=[])(call:∀(w:World)(s₀ s₁:Shared)(mg mb:Str->Option Value)(fa:Addr)(o:Obj)(pm cd doc:Value)(a:Addr)(vs:List Value)(ns:List Int),Ground q loose [] XP w s₀ mg mb s₁.heap->YP w s₁.heap->s₁.heap.get? fa=some o->o.data=.func (docDef d.name d.params d.body d.scope pm cd doc)->s₁.heap.CodeRec cd d.name->mg d.name=some (.ref fa)->s₁.heap.get? a=some {cls:=.type "list",data:=.seq vs.toArray}->IntsAre vs ns->ns.length<=n->s₁.gens = #[]->codeAny (model l.prog w) callerA (.call (.ref fa) ⟨[.ref a],[]⟩) (λr s'=>r=.ok (.ret (.bool true))/\OldK s₁.heap s'.heap/\s'.os=s₁.os/\AllBare s'.gens) s₁):WalkO q loose XP YP l.row.toRowW d [] (λf vs=>PySem.call f vs):=by
 intro w s₀ s₁ mg mb G Y fa o pm cd doc dV kV ho hd hcd hD hmg hg args vals as hpre hlay hrd hwl hlo
 obtain rfl:dV=.none:=Dflts.none hD hdf
 obtain rfl:kV=.none:=Dflts.noKw hD
 obtain⟨a,vs,ns,rfl,rfl,hobj,hints,hlen⟩:=OC hn hpre hwl
 refine enter_call (codeAny_mono (call w s₀ s₁ mg mb fa o pm cd doc a vs ns G Y ho (fd_plain hd) hcd hmg hobj hints hlen hg) λr s' hq=>?_)
 obtain⟨rfl,h2,h3,h4⟩:=hq
 exact⟨.inl ⟨.bool true,.bool true,[],rfl,λ_=>rfl,.bool true,OD l _,λ_=>⟨List.Pairwise.nil,λ_ hm=>(nomatch hm)⟩⟩,h2,h3,h4⟩
section
variable{prog:Program}{w:World}{A:Around}{E:Value->Shared->Prop}{s:Shared}{K:Frag}
end
end Att
namespace L2
open PySem PySem.Spec PyProof.Rows
theorem EE:∀{vs:List Value}{ns:List Int},IntsAre vs ns->Vals (ns.map V.int) vs
 |_,_,.nil=>.nil
 |_,_,.cons n t h=>.cons ⟨t,rfl⟩ (EE h)
def Yb(H:Hp):Prop:=∀b,H b=none\/∃o xs,H b=some (.KU o (.lst xs))
theorem Ry{P:Program}{w:World}{K:W.Frag}{mg mb:Str->Option Value}{CX:Ox}{k:Nat}{fa a:Addr}{fd:FuncData}{x:Str}{sp:Sp}{s₁:Shared}{vs:List Value}{ns:List Int}(KX:K.In s₁.heap)(hns:s₁.heap.Ns mainGlobals mg)(hb:s₁.heap.Ns builtinsNs mb)(hbb:∀x:Str,x ≠ "__name__"->mb x=bootBuiltins x)(hlim:s₁.heap.NoLimit)(hg:s₁.gens = #[])(ha:s₁.heap.get? a=some {cls:=.type "list",data:=.seq vs.toArray})(hi:IntsAre vs ns)(hl:ns.length<=sizeLine)(hr:fS k callerA)(F:∀base:Heap,K.In base->base.Ns mainGlobals mg->bg P w K mg base CX k fa fd [x] sp)(hbind:∀(s:Shared)(u:Value),BindsTo s fd ⟨[u],[]⟩ [(x,u)])(QS:∀H:Hp,Yb H->aT K H a (ns.map V.int)->sp [.ref a] H (λv _=>v=.bl true) λ_ _ _=>False)(hCX:∀H e s',CX [] H s₁ (λ_ _ _=>False) e s'->False):codeAny (model P w) callerA (.call (.ref fa) ⟨[.ref a],[]⟩) (λr s'=>r=.ok (.ret (.bool true))/\OldK s₁.heap s'.heap/\s'.os=s₁.os/\AllBare s'.gens) s₁:=by
 have rv:=EE hi
 have ace:=hi.length
 have core:∀H:Hp,Yb H->aT K H a (ns.map V.int)->xK P w H s₁.heap->(∀b,H b≠none->b=a)->(H a≠none->K.lookup a=none)->codeAny (model P w) callerA (.call (.ref fa) ⟨[.ref a],[]⟩) (λr s'=>r=.ok (.ret (.bool true))/\OldK s₁.heap s'.heap/\s'.os=s₁.os/\AllBare s'.gens) s₁:=by
  intro H hO hS hok hA hK
  have NF:∀{b:Addr}{o:Obj},s₁.heap.get? b=some o->H b=none->(FZ s₁.heap H).get? b=some o:=λe n=>Q5 e n
  have noA:∀{b:Addr}{o:Obj}{es:Array DictEntry}{ep:Nat},s₁.heap.get? b=some o->o.data=.dict es ep->H b=none:=λ{b o es ep} e d=>by
   cases q:H b with
   |none=>rfl
   |some u =>
    have e':b=a:=hA b (by rw[q];simp)
    subst e'
    rw[ha]at e;cases e
    have d':Data.seq vs.toArray _=Data.dict es ep:=d
    cases d'
  have nsK:∀{b:Addr}{m:Str->Option Value},s₁.heap.Ns b m->(FZ s₁.heap H).Ns b m:=λ{b m} ⟨o,es,ep,e,d,r⟩=>⟨o,es,ep,NF e (noA e d),d,r⟩
  have hKb:K.In (FZ s₁.heap H):=λb o e=>NF (KX b o e) (by
   cases q:H b with
   |none=>rfl
   |some u =>
    have e':b=a:=hA b (by rw[q];simp)
    subst e'
    rw[hK (by rw[q];simp)]at e;cases e)
  have hM:Mod K mg (FZ s₁.heap H):=⟨hKb,nsK hns,⟨mb,nsK hb,hbb⟩,let ⟨mc,h1,h2⟩:=hlim;⟨mc,nsK h1,h2⟩⟩
  have e0:K8 P w K mg (FZ s₁.heap H) callerA [] s₁ H:=⟨rfl,hM,λb o e=>UR e,Nat.le_of_eq (Oo _ _),trivial,λb hb=>absurd (show b∈([]:List Addr) from hb) (by simp),hok,.of_eq hg⟩
  refine codeAny_mono ((F _ hKb (nsK hns)).run callerA [] s₁ H ⟨[.ref a],[]⟩ [.ref a] [.ref a] _ _ hr e0 (hbind s₁ (.ref a)) (.cons rfl .nil) (QS H hO hS)) λr s' h=>?_
  cases r with
  |error e=>exact(hCX H e s' h).elim
  |ok fl =>
   cases fl with
   |next=>exact False.elim h
   |brk=>exact False.elim h
   |cont=>exact False.elim h
   |ret u =>
    obtain⟨v,H',os,bare,un,acf,r',q⟩:=h
    have q':v=.bl true:=q
    subst q'
    obtain rfl:u=Value.bool true:=r'
    refine⟨O,OldK.of_keep λb o e=>?_,os,bare⟩
    cases q:H b with
    |none=>exact un.keep b o e q (by intro z;exact absurd (show b∈([]:List Addr) from z) (by simp)) (by simp)
    |some u =>
     rcases hO b with z|⟨ob,xs,z⟩
     ·rw[q]at z;cases z
     ·have z2:=un.Ad b ob _ z
      obtain⟨e1,_⟩:=hok b _ z
      obtain⟨e2,_⟩:=acf b _ z2
      rw[e]at e1;cases e1
      exact e2
 cases hk:K.lookup a with
 |some o =>
  have e:=KX a o hk
  rw[ha]at e
  cases e
  refine core (λ_=>none) (λ_=>.inl rfl) (.inr ⟨_,vs.toArray,_,hk,rfl,rfl,rfl,by rw[aed,ace];exact hl,by simpa using rv⟩) (λb u z=>by have z':(none:Option HO)=some u:=z;cases z') (λb z=>absurd rfl z) λz=>absurd rfl z
 |none =>
  refine core (λb=>if b=a then some (.KU {cls:=.type "list",data:=.seq vs.toArray} (.lst (ns.map V.int))) else none) (λb=>?_) (.inl (.inr ⟨{cls:=.type "list",data:=.seq vs.toArray},aee rfl⟩)) (λb u z=>?_) (λb z=>?_) λ_=>hk
  ·by_cases hb:b=a
   ·exact .inr ⟨_,_,aee hb⟩
   ·exact .inl (ad5 hb)
  ·by_cases hb:b=a
   ·have z':=(aee hb).symm.trans z
    cases z'
    subst hb
    exact⟨ha,by rw[aec];exact hl,vs,_,rv,ha⟩
   ·have z':=(ad5 hb).symm.trans z
    cases z'
  ·by_cases hb:b=a
   ·exact hb
   ·exact absurd (ad5 hb) z
theorem Ve{l:W.OpenLaw}{n k:Nat}{q:Program}{loose:List Str}{XP:(Str->Option Value)->Heap->Prop}{YP:World->Heap->Prop}{d:DefRec}{K:Params->W.Frag}{CX:World->Ox}{sp:World->Sp}{x:Str}(hn:l.most=some n)(hn2:n<=sizeLine)(hdf:d.params.defaults=[])(hr:fS k callerA)(hY:∀(w:World)(h:Heap),YP w h->(K w.params).In h)(F:∀(w:World)(mg:Str->Option Value)(fa:Addr)(h:Heap),(K w.params).In h->h.Ns mainGlobals mg->mg d.name=some (.ref fa)->∃fd:FuncData,(∀(s:Shared)(u:Value),BindsTo s fd ⟨[u],[]⟩ [(x,u)])/\∀base:Heap,(K w.params).In base->base.Ns mainGlobals mg->bg l.prog w (K w.params) mg base (CX w) k fa fd [x] (sp w))(QS:∀(w:World)(H:Hp)(a:Addr)(ns:List Int),ns.length<=n->Yb H->aT (K w.params) H a (ns.map V.int)->sp w [.ref a] H (λv _=>v=.bl true) λ_ _ _=>False)(hCX:∀(w:World)(H:Hp)(s:Shared)(e:Value)(s':Shared),CX w [] H s (λ_ _ _=>False) e s'->False):W.WalkO q loose XP YP l.row.toRowW d [] (λf vs=>PySem.call f vs):=by
 refine Att.Ir hn hdf λw s₀ s₁ mg mb fa o pm cd doc a vs ns G Y ho hd hcd hmg hobj hints hlen hg=>?_
 have KX:=hY w _ Y
 obtain⟨fd,hb,hF⟩:=F w mg fa _ KX G.T.g hmg
 exact Ry KX G.T.g G.T.b G.T.builtins G.T.nolimit hg hobj hints (aep hlen hn2) hr hF hb (λH hO hS=>QS w H a ns hlen hO hS) λH e s'=>hCX w H s₁ e s'
def inClass(s:Stmt)(j:Nat):Stmt:=match s with
 | .ClassDef _ _ _ body _ _ _ _ _ _ _=>body.getD j (.Pass ⟨0,0,0,0⟩)
 |_=>.Pass ⟨0,0,0,0⟩
def dB(s:Stmt):Arguments:=match s with
 | .FunctionDef _ a _ _ _ _ _ _ _ _=>a
 |_=>{posonlyargs:=[],args:=[],vararg:=none,kwonlyargs:=[],kw_defaults:=[],kwarg:=none,defaults:=[]}
def cJ(s:Stmt):List Stmt:=match s with
 | .FunctionDef _ _ b _ _ _ _ _ _ _=>b
 |_=>[]
def au(s:Stmt):Scope:=match s with
 | .FunctionDef _ _ _ _ _ _ sc _ _ _=>sc
 |_=>{kind:=.function,names:=[],isGenerator:=false,isCoroutine:=false}
abbrev dQ:Ox:=λ_ _ _ _ _ _=>False
abbrev E0:XK:=λ_ _ _=>False
theorem cO{X:Cx}:Passes dQ X E0:=λ_ _ _ _ _ _ _ h=>h.elim
structure dR(K:W.Frag)(x qual:Str)(st:Stmt)(f:Addr)(fd:FuncData):Prop where
 ex:∃(oc:Value)(od:Option Addr)(kV doc pm:Value)(an:Option Addr)(cdv ct:Value)(osl:Array (Option Value)),fd=W.fnOf x qual (dB st) (cJ st) (au st) .none kV doc pm an cdv ct/\K.lookup f=some ⟨oc,od,.func fd,osl⟩/\W.codeIn K cdv qual=true
 kp:W.keepIn K (.ref f)=true
section
variable{P:Program}{w:World}{K:W.Frag}{mg:Str->Option Value}{base:Heap}
theorem dR.ok{x qual:Str}{st:Stmt}{f:Addr}{fd:FuncData}{N ps:List Str}{k:Nat}{sp:Sp}(F:dR K x qual st f fd)(S:aF N ps (au st))(len:∀vs H Q E,sp vs H Q E->vs.length=ps.length)(hbody:∀(cdv:Value)(A:Around)(outer:List Env)(s:Shared)(H:Hp)(vs:List V)(Q:VK)(E:XK),fS k (A.deeper (envOfC qual (au st) s.heap.objs.size f cdv))->sp vs H Q E->∃t,Il (Gf dQ P w K mg base N qual (au st) f cdv A outer s H E).XM (cJ st) t/\t {nx:=λ_ H'=>Q .non H',rt:=Q} (start N vs) H):bg P w K mg base dQ (k+1) f fd ps sp:=by
 obtain⟨oc,od,kV,doc,pm,an,cdv,ct,osl,rfl,lk,hcd⟩:=F.ex
 refine Ro lk hcd S len λA outer s H vs Q E hr QS=>?_
 obtain⟨t,h,q⟩:=hbody cdv A outer s H vs Q E hr QS
 exact⟨t,h.XM,q⟩
theorem dR.binds{x qual:Str}{st:Stmt}{f:Addr}{fd:FuncData}{ps:List Str}(F:dR K x qual st f fd)(h:∀(kV doc pm:Value)(an:Option Addr)(cdv ct:Value)(us:List Value),us.length=ps.length->bindArgs (W.fnOf x qual (dB st) (cJ st) (au st) .none kV doc pm an cdv ct) ⟨us,[]⟩=pure (ps.zip us)):Binds K fd ps []:=by
 obtain⟨oc,od,kV,doc,pm,an,cdv,ct,osl,rfl,lk,hcd⟩:=F.ex
 exact .all (h kV doc pm an cdv ct)
theorem Rz{x qual:Str}{st:Stmt}{f:Addr}{oc:Value}{od an:Option Addr}{osl:Array (Option Value)}{kV doc pm cdv ct:Value}(l:K.lookup f=some ⟨oc,od,.func (W.fnOf x qual (dB st) (cJ st) (au st) .none kV doc pm an cdv ct),osl⟩)(c:W.codeIn K cdv qual=true)(k:W.keepIn K (.ref f)=true):dR K x qual st f (W.fnOf x qual (dB st) (cJ st) (au st) .none kV doc pm an cdv ct):=⟨⟨oc,od,kV,doc,pm,an,cdv,ct,osl,rfl,l,c⟩,k⟩
end
theorem aS{A:Around}{k:Nat}(hr:fS k A):A.units+1<cLine:=aem (Nat.add_le_add_left (by decide:1<=64) _) hr.units
section
variable{X:Cx}
theorem pv(i:Nat){x:Str}{pos:Pos}(hN:X.N[i]?=some x:=by rfl)(hv:Vis X.env.scope x:=by first|exact Or.inl rfl|exact Or.inr (Or.inl rfl)|exact Or.inr (Or.inr rfl))(hd:(x==("__debug__":Str))=false:=by decide)(hcd:(x==("__classdict__":Str))=false:=by decide):PE X (.Name x pos) (XH i):=XI hN hv hd hcd
end
theorem dh{A B:Prop}(h:B):if false=true then A else B:=by
 rw[ad5 aev]
 exact h
theorem i7{A B:Prop}(h:A):if true=true then A else B:=by
 rw[aee rfl]
 exact h
theorem cz{c A B:Prop}[Decidable c](h1:c->A)(h2:¬c->B):if c then A else B:=by
 by_cases h:c
 ·rw[aee h]
  exact h1 h
 ·rw[ad5 h]
  exact h2 h
theorem aaP{c A B:Prop}[Decidable c](hc:c)(h:B):if (!decide c)=true then A else B:=by
 rw[aeb hc]
 exact dh h
def aE(H H':Hp):Prop:=∀b o,H b=some o->H' b=some o
theorem aE.refl(H:Hp):aE H H:=λ_ _ h=>h
theorem aE.trans{H H1 H2:Hp}(a:aE H H1)(b:aE H1 H2):aE H H2:=λc o h=>b c o (a c o h)
theorem aE.free{H H':Hp}(e:aE H H'){l:Addr}(h:H' l=Option.none):H l=Option.none:=by
 cases q:H l with
 |none=>rfl
 |some o =>
  rw[e l o q]at h
  cases h
theorem aE.seq{K:W.Frag}{H H':Hp}{a:Addr}{xs:List V}(e:aE H H')(h:aT K H a xs):aT K H' a xs:=by
 rcases h with (h|⟨o,h⟩)|h
 ·exact .inl (.inl (e _ _ h))
 ·exact .inl (.inr ⟨o,e _ _ h⟩)
 ·exact .inr h
end L2
set_option maxHeartbeats 4000000
namespace L2
open PySem PySem.Spec PyProof.Rows
def jg(env:Env):List (Str×NameKind)->List (Str×Addr)->List (Str×Addr)
 |[],cs=>cs
 | (n,k)::r,cs=>jg env r (if k==.free then (n,(env.cells.lookup n).getD 0)::cs else cs)
theorem tR{scope:Scope}{env:Env}(h:∀n,(n,NameKind.free)∈scope.names->∃c,env.cells.lookup n=some c):closureFor scope env=pure (jg env scope.names []):=by
 simp only[closureFor]
 have key:∀(l:List (Str×NameKind))(cs:List (Str×Addr)),(∀n,(n,NameKind.free)∈l->∃c,env.cells.lookup n=some c)->(forIn l cs (λx r=>if (x.2==NameKind.free)=true then (cellOf env x.1 >>= λa=>pure (ForInStep.yield ((x.1,a)::r))) else pure (ForInStep.yield r)):Sem (List (Str×Addr)))=pure (jg env l cs):=by
  intro l
  induction l with
  |nil=>intro cs _;rfl
  |cons x l ih =>
   intro cs hl
   obtain⟨n,k⟩:=x
   have hl':∀n,(n,NameKind.free)∈l->∃c,env.cells.lookup n=some c:=λn hn=>hl n (aer _ hn)
   rw[List.forIn_cons]
   by_cases hk:k=.free
   ·subst hk
    obtain⟨c,hc⟩:=hl n aew
    have e1:cellOf env n=pure c:=by unfold cellOf;rw[hc]
    simp only[beq_self_eq_true,afW,e1,pure_bind]
    rw[ih _ hl']
    simp only[jg,beq_self_eq_true,afW,hc,Option.getD_some]
   ·have hb:(k==NameKind.free)=false:=by simpa using hk
    simp only[hb,ae1,afy,pure_bind]
    rw[ih _ hl']
    simp only[jg,hb,ae1,afy]
 exact(congrArg (λz=>z >>= λr=>pure r) (key scope.names [] h)).trans rfl
theorem uM{env:Env}:∀(l:List (Str×NameKind))(cs:List (Str×Addr)),(∀n,(n,NameKind.free)∈l->∃c,env.cells.lookup n=some c)->(∀x c,cs.lookup x=some c->env.cells.lookup x=some c)->∀x c,(jg env l cs).lookup x=some c->env.cells.lookup x=some c
 |[],cs,_,h,x,c,e=>h x c e
 | (n,k)::r,cs,hl,h,x,c,e=>by
  refine uM r _ (λn hn=>hl n (aer _ hn)) ?_ x c e
  intro y d hy
  by_cases hk:(k==NameKind.free)=true
  ·rw[aee hk]at hy
   have hk':k=.free:=by simpa using hk
   subst hk'
   obtain⟨c',hc'⟩:=hl n aew
   rw[hc',Option.getD_some,afN]at hy
   cases hyn:y==n with
   |true =>
    rw[hyn]at hy
    have:y=n:=by simpa using hyn
    subst this
    rw[hc'];exact hy
   |false=>rw[hyn]at hy;exact h y d hy
  ·rw[ad5 hk]at hy;exact h y d hy
theorem qF{env:Env}:∀(l:List (Str×NameKind))(cs:List (Str×Addr))(x:Str),((x,NameKind.free)∈l\/∃c,cs.lookup x=some c)->∃c,(jg env l cs).lookup x=some c
 |[],cs,x,h=>by
  rcases h with h|h
  ·cases h
  ·exact h
 | (n,k)::r,cs,x,h=>by
  refine qF r _ x ?_
  rcases h with h|⟨c,h⟩
  ·rcases aeh.mp h with e|h
   ·cases e
    refine .inr ⟨(env.cells.lookup n).getD 0,?_⟩
    simp[afN]
   ·exact .inl h
  ·right
   by_cases hk:(k==NameKind.free)=true
   ·rw[aee hk,afN]
    cases x==n with
    |true=>exact⟨_,rfl⟩
    |false=>exact⟨c,h⟩
   ·rw[ad5 hk];exact⟨c,h⟩
theorem kH{env:Env}(x:Str):∀(names:List (Str×NameKind)),(names.map λ(n,k)=>if (k==NameKind.free&&env.scope.kind==.function&&env.kindOf n==some .cell) then (n,NameKind.cell) else (n,k)).lookup x =
   (names.lookup x).map λk=>if (k==NameKind.free&&env.scope.kind==.function&&env.kindOf x==some .cell) then NameKind.cell else k
 |[]=>rfl
 | (n,k)::r=>by
  have ih:=kH (env:=env) x r
  show List.lookup x ((if (k==NameKind.free&&env.scope.kind==.function&&env.kindOf n==some .cell)=true then (n,NameKind.cell) else (n,k))::_)=_
  cases hx:x==n with
  |true =>
   have e:x=n:=by simpa using hx
   subst e
   by_cases hc:(k==NameKind.free&&env.scope.kind==.function&&env.kindOf x==some .cell)=true
   ·rw[aee hc];simp only[afN,beq_self_eq_true,af4,aee hc]
   ·rw[ad5 hc];simp only[afN,beq_self_eq_true,af4,ad5 hc]
  |false =>
   by_cases hc:(k==NameKind.free&&env.scope.kind==.function&&env.kindOf n==some .cell)=true
   ·rw[aee hc];simp only[afN,hx];exact ih
   ·rw[ad5 hc];simp only[afN,hx];exact ih
structure aZ(XN:List Str)(xsc:Scope)(N:List Str)(nv:Nat)(js:List Nat)(scope:Scope):Prop where
 kind:scope.kind=.function
 cell:∀y∈scope.names,y.2≠.cell
 loc:∀y∈scope.names,y.2=.local->scope.names.lookup y.1=some .local
 free:∀y∈scope.names,y.2=.free->(xsc.names.lookup y.1=some .cell\/xsc.names.lookup y.1=some .free)
 nd:N.Nodup
 len:N.length=nv+js.length
 pl:js.map (λj=>XN[j]?)=(N.drop nv).map some
 fr:∀x∈N.drop nv,scope.names.lookup x=some .free
abbrev kI(X:Cx)(N:List Str)(scope:Scope)(C:Addr)(s:Shared)(H:Hp)(fp:List Addr):Cx where
 prog:=X.prog
 w:=X.w
 K:=X.K
 mg:=X.mg
 base:=X.base
 A:=X.A
 N:=N
 s₀:=s
 H₀:=H
 env:=compEnvC scope (jg X.env scope.names []) C X.env
 outer:=X.stack
 stack:=X.stack
 ex:=fp
 fn:=λ_=>false
 calm:=X.calm
 pn:=[]
 xe:=λ_ _=>False
def xQ(nv:Nat)(js:List Nat)(σ:St):St:=List.replicate nv none++js.map λj=>(σ[j]?).getD none
section
variable{X:Cx}{pins:List (Addr×Obj)}{σ:St}{H:Hp}{s:Shared}
theorem Ld{N:List Str}{nv:Nat}{js:List Nat}{scope:Scope}{fp:List Addr}{h1:Heap}{tk:Nat}(I:Inv X pins σ H s)(S:aZ X.N X.env.scope N nv js scope)(hf:∀b∈fp,vz X pins H b)(hfl:∀b∈fp,b<s.heap.objs.size)(keep:∀b o,s.heap.get? b=some o->h1.get? b=some o)(ns:h1.Ns s.heap.objs.size λ_=>none):Inv (kI X N scope s.heap.objs.size s H fp) [] (xQ nv js σ) H {s with heap:=h1,toks:=tk}:=by
 have hfr:∀n,(n,NameKind.free)∈scope.names->∃c,X.env.cells.lookup n=some c:=λn hn=>I.ok.has n (S.free _ hn rfl)
 have sub:∀x c,(jg X.env scope.names []).lookup x=some c->X.env.cells.lookup x=some c:=uM scope.names [] hfr (λx c z=>by cases z)
 have Yc:∀x,scope.names.lookup x≠some .cell:=λx z=>S.cell _ (afc z) rfl
 have acg:∀x,(relabel scope X.env).names.lookup x=some .cell\/(relabel scope X.env).names.lookup x=some .free->scope.names.lookup x=some .free:=by
  intro x hx
  have e:=kH (env:=X.env) x scope.names
  have hx':(relabel scope X.env).names.lookup x=_:=e
  rw[hx']at hx
  cases q:scope.names.lookup x with
  |none=>rw[q]at hx;rcases hx with hx|hx<;>cases hx
  |some k =>
   rw[q,af4]at hx
   cases k<;>first|rfl | (exact absurd q (Yc x)) | (exfalso;rcases hx with hx|hx<;>simp at hx)
 refine⟨⟨I.ok.mod,S.kind,I.ok.glob,I.ok.blt,ad6 _,λx y c h1 h2=>I.ok.inj x y c (sub _ _ h1) (sub _ _ h2),λx hx=>?_,λx c z=>(by cases z),I.ok.hd,I.ok.frames,.inl rfl,λb hb=>?_,λb o e=>?_,?_,λb o e hb=>?_,λb hb z=>?_,I.stack,I.Ga⟩,O,I.bare,Un.kept keep,⟨_,ns,λi x v e1 e2 e3=>?_⟩,λx c e=>?_,I.hok.fresh (ad6 _),λx c e=>I.kD x c (sub _ _ e),λp hp=>absurd (show p∈([]:List (Addr×Obj)) from hp) (by simp),I.hok.kept keep,?_⟩
 ·exact qF _ _ _ (.inl (afc (acg x hx)))
 ·obtain⟨f0,f1,f2,f3,f4,f5⟩:=hf b hb
  exact⟨aeH (hfl b hb),λx c e=>f4 x c (sub x c e)⟩
 ·exact I.bs b o e
 ·exact aep I.ok.UM I.sz
 ·obtain⟨f0,f1,f2,f3,f4,f5⟩:=hf b hb
  rcases f3 with z|z
  ·exact I.ok.Oq b o e z
  ·exact absurd (aeu (aei e) (aep I.ok.UM z)) (afR _)
 ·obtain⟨f0,f1,f2,f3,f4,f5⟩:=hf b hb
  rcases aeh.mp (I.Bp b z) with q|q
  ·exact f1 q
  ·exact f2 q
 ·
  have hi:¬i<nv:=λhlt=>by
   unfold xQ at e2
   rw[List.getElem?_append_left (by simpa using hlt),List.getElem?_replicate,aee hlt]at e2
   cases e2
  obtain⟨k,rfl⟩:∃k,i=nv+k:=⟨i-nv,by omega⟩
  unfold xQ at e2
  rw[List.getElem?_append_right (by simp),ae9,Nat.add_sub_cancel_left,aft]at e2
  cases hj:js[k]? with
  |none=>rw[hj]at e2;cases e2
  |some j =>
   rw[hj,af4]at e2
   have e2':(σ[j]?).getD none=some v:=aes e2
   have hσ:σ[j]?=some (some v):=by
    cases q:σ[j]? with
    |none=>rw[q]at e2';cases e2'
    |some z=>rw[q]at e2';exact congrArg some e2'
   have hd:(N.drop nv)[k]?=some x:=by rw[List.getElem?_drop];exact e1
   have hX:X.N[j]?=some x:=by
    have q:=congrArg (λl=>l[k]?) S.pl
    simp only[aft,hj,hd,af4]at q
    exact aes q
   have hfx:=S.fr x (aen hd)
   have kx:=S.free _ (afc hfx) rfl
   obtain⟨m,_,hl⟩:=I.loc
   obtain⟨u,r,l⟩:=hl j x v hX hσ (.inr kx)
   refine⟨u,r,?_⟩
   rcases l with ⟨k1,_⟩|⟨_,c,hc,hcell⟩
   ·exfalso
    have k1':X.env.scope.names.lookup x=some .local:=k1
    rcases kx with z|z<;>(rw[k1']at z;cases z)
   ·obtain⟨c',hc'⟩:=qF (env:=X.env) scope.names [] x (.inl (afc hfx))
    have e:=sub _ _ hc'
    rw[hc]at e;cases e
    refine .inr ⟨?_,c,hc',hcell.keeps keep⟩
    have e:=kH (env:=X.env) x scope.names
    have e':(relabel scope X.env).names.lookup x=_:=e
    rw[hfx,af4]at e'
    show(relabel scope X.env).names.lookup x=some .cell\/(relabel scope X.env).names.lookup x=some .free
    rw[e']
    split
    ·exact .inl rfl
    ·exact .inr rfl
 ·obtain⟨v,q⟩:=I.cell x c (sub _ _ e)
  exact⟨v,q.keeps keep⟩
 ·unfold xQ
  show _=N.length
  rw[aef,ae9,aec,S.len]
end
def OE(X:Cx)(ifs:List Expr)(t:TT):Prop :=
 ∀(pins:List (Addr×Obj))(s:Shared)(σ:St)(H:Hp)(Q:Bool->Hp->Prop),Inv X pins σ H s->t σ H Q->wpAny 'g' X.A (forIn ifs true λc r=>if r=true then do let ok ←isTrue c X.env (eval c X.env);pure (ForInStep.yield ok) else pure (ForInStep.yield r)) (TP X pins σ Q) X.xe s
def RA:TT:=λ_ H Q=>Q true H
theorem cB{X:Cx}:OE X [] RA:=λ_ _ _ H _ I h=>wpAny_tests_nil ⟨H,I,h⟩
theorem Vf{X:Cx}{c:Expr}{t:TT}(h:PT X c t):OE X [c] t:=λpins s σ H Q I q=>wpAny_tests_one (h pins s σ H Q I q)
def EF(J:It)(g:TG)(tt:TT)(te:TE)(Q:VK)(D:Addr)(τ:St)(H:Hp):Prop :=
 ∃W:Nat->Nat->List V->St->Hp->Prop,(∃m,W 0 m [] τ (upd H D (.lst [])))/\∀i m ys τ H,W i m ys τ H->H D=some (.lst ys)/\((J.stop i H/\Q (.ref D) H)\/(J.go i H/\∃N:List V->St->Hp->Prop,(∀zs σ' H',N zs σ' H'->∃m',m'<m/\W (i+1) m' zs σ' H')/\∀x H',J.QO i H x H'->g x τ H' λτ2 H2=>tt τ2 H2 λb H3 =>
   if b=true then te τ2 H3 λy H4=>H4 D=some (.lst ys)/\ys.length<sizeLine/\N (ys++[y]) τ2 (upd H4 D (.lst (ys++[y])))
   else N ys τ2 H3))
def Xe(wi:TI)(g:TG)(tt:TT)(te:TE)(nv:Nat)(js:List Nat):TE:=λσ H Q=>wi σ H λJ H1=>∀D,H1 D=none->EF J g tt te Q D (xQ nv js σ) H1
theorem Le{prog:Program}{w:World}{A:Around}{R:Result->Shared->Prop}{s:Shared}{elt target iter:Expr}{ifs:List Expr}{scope:Scope}{pos:Pos}{it acc:Value}{env:Env}(I:Nat->Shared->Prop)(turn:∀n s,I n s->wpAny (model prog w) A (pyNext it) (λr s₁=>match r with
   |none=>R (.ok .next) s₁
   |some v=>wpAny (model prog w) A (letOwnedTupleGo target it v) (λ_ s₁'=>wpAny (model prog w) A (assign target env v) (λ_ s₂ =>
     wpAny (model prog w) A (forIn ifs true λc r=>if r=true then do let ok ←isTrue c env (eval c env);pure (ForInStep.yield ok) else pure (ForInStep.yield r)) (λok s₃ =>
      if ok=true then wpAny (model prog w) A (eval elt env) (λx s₄ =>
       wpAny (model prog w) A (call (.builtin "list.append") [acc,x]) (λ_ s₅=>∃m,m<n/\I m s₅) (λ_ _=>False) s₄) (λ_ _=>False) s₃
      else ∃m,m<n/\I m s₃) (λ_ _=>False) s₂) (λ_ _=>False) s₁') (λ_ _=>False) s₁) (λ_ _=>False) s)(n:Nat)(h:I n s):codeAny (model prog w) A (.compLoop (.ListComp elt [⟨target,iter,ifs,0⟩] scope pos) 0 it acc env) R s:=by
 refine codeAny_loop rfl I (λn s hI=>?_) n h
 show wpAny _ A ((compTurn (.ListComp elt [⟨target,iter,ifs,0⟩] scope pos) 0 it acc env).onRaise (λx=>do noteFrame x env;theTreesLotGoes x)) _ _ s
 refine wpAny_noted (ae8 (E:=λ_ _=>False) ?_ (λ_ _ q=>q) λ_ _ q=>q.elim)
 rw[compTurn_list]
 refine ad4 (wpAny_standAt (ad4 (ae8 (turn n s hI) (λr s₁ h₁=>?_) λ_ _ h'=>h')))
 cases r with
 |none=>exact aea h₁
 |some v =>
  refine ad4 (ae8 h₁ (λ_ s₁' h₁'=>?_) λ_ _ h'=>h')
  refine ad4 (ae8 h₁' (λ_ s₂ h₂=>ad4 (ae8 h₂ (λok s₃ h₃=>?_) λ_ _ h'=>h')) λ_ _ h'=>h')
  cases ok with
  |false=>exact aea ⟨rfl,h₃⟩
  |true =>
   exact ad4 (ad4 (ae8 h₃ (λx s₄ h₄=>ad4 (ae8 h₄ (λ_ s₅ h₅=>aea (aea ⟨rfl,h₅⟩)) λ_ _ h'=>h')) λ_ _ h'=>h'))
section
variable{X:Cx}{elt tg iter:Expr}{ifs:List Expr}{scope:Scope}{pos:Pos}{N:List Str}{nv:Nat}{js:List Nat}{wi:TI}{g:TG}{tt:TT}{te:TE}
theorem BA{pins:List (Addr×Obj)}{σ:St}{H:Hp}{s:Shared}{Q:VK}{it:Addr}{fp:List Addr}{tn:Nat->Heap->Prop}{J:It}{E:Value->Shared->Prop}{RR:Value->Addr->Result->Shared->Prop}(hc:X.calm=true)(S:aZ X.N X.env.scope N nv js scope)(hg:∀C s H fp,PG (kI X N scope C s H fp) tg g)(ht:∀C s H fp,OE (kI X N scope C s H fp) ifs tt)(he:∀C s H fp,PE (kI X N scope C s H fp) elt te)(I:Inv X pins σ H s)(T:Turn X.prog X.w X.K tg J fp it tn)(st:tn 0 s.heap)(hf:∀b∈fp,vz X pins H b)(hR:∀D,H D=none->EF J g tt te Q D (xQ nv js σ) H)(hRR:∀D C H' s' m,Inv X pins σ H' s'->vz X pins H' C->s'.heap.Ns C m->Q (.ref D) H'->RR (.ref D) C (.ok .next) s'):wpAny 'g' X.A (newList []) (λacc s₃=>wpAny 'g' X.A (newFunctionEnv scope X.env.globals (jg X.env scope.names []) [] X.env.qual none .none (some X.env)) (λcenv s₄ =>
   codeAny 'g' X.A (.compStart (.ListComp elt [⟨tg,iter,ifs,0⟩] scope pos) 0 (.ref it) acc {cenv with scope:=relabel scope X.env}) (RR acc cenv.locals) s₄) E s₃) E s:=by
 refine ae0 (wpAny_newFunctionEnv S.cell (by intro y hy;simp at hy) (λh₁ RB RC=>?_) S.kind)
 have I3:Inv X pins σ (upd H s.heap.objs.size (.lst [])) {s with heap:=s.heap.push {cls:=.type "list",data:=.seq ([]:List Value).toArray}}:=I.aaM (t':=s.toks) (its:=[]) .nil (aeA _)
 have hD:=I.fresh
 obtain⟨W,⟨m0,w0⟩,turn⟩:=hR s.heap.objs.size hD
 have ho:=T.obj 0 s.heap st
 have aaQ:∀b∈fp,b<s.heap.objs.size:=λb hb=>let ⟨o,e,_⟩:=ho b hb;aei e
 have Yd:∀b∈fp,vz X pins (upd H s.heap.objs.size (.lst [])) b:=λb hb=>⟨by rw[az (aeH (aaQ b hb))];exact(hf b hb).1,(hf b hb).2⟩
 generalize hs3:({s with heap:=s.heap.push {cls:=.type "list",data:=.seq ([]:List Value).toArray}}:Shared)=s3 at I3 RB RC
 have e3:s3.heap=s.heap.push {cls:=.type "list",data:=.seq ([]:List Value).toArray}:=by rw[←hs3]
 have hfl:∀b∈fp,b<s3.heap.objs.size:=λb hb=>by rw[e3,ae3];exact Nat.lt_succ_of_lt (aaQ b hb)
 have keep:∀b o,s3.heap.get? b=some o->h₁.get? b=some o:=λb o e=>RC.extBut b o (aeH (aei e)) (ad9 _ e)
 have J0:=Ld (tk:=s3.toks+([]:List (Str×Value)).length) I3 S Yd hfl keep RB
 have st1:tn 0 h₁:=T.keep 0 s.heap h₁ st λb hb o e=>keep b o (by rw[e3];exact ad9 _ e)
 generalize hH3:upd H s.heap.objs.size (.lst [])=H3 at *
 generalize hY:kI X N scope s3.heap.objs.size s3 H3 fp=Y at *
 have sub:∀x c,(jg X.env scope.names []).lookup x=some c->X.env.cells.lookup x=some c :=
  uM scope.names [] (λn hn=>I.ok.has n (S.free _ hn rfl)) (λx c z=>by cases z)
 have K1:∀{H':Hp},(∀b∈fp,H' b=none)->∀b∈fp,vz Y [] H' b:=λ{H'} hn b hb=>by
  subst hY
  obtain⟨f0,f1,f2,f3,f4,f5⟩:=Yd b hb
  refine⟨hn b hb,aeH (hfl b hb),λz=>?_,.inl hb,λx c e=>f4 x c (sub x c e),λp hp=>absurd (show p∈([]:List (Addr×Obj)) from hp) (by simp)⟩
  rcases aeh.mp (I3.Bp b z) with q|q
  ·exact f1 q
  ·exact f2 q
 have eA:Y.A=X.A:=by subst hY;rfl
 have eP:Y.prog=X.prog:=by subst hY;rfl
 have eW:Y.w=X.w:=by subst hY;rfl
 have eK:Y.K=X.K:=by subst hY;rfl
 have eC:Y.calm=true:=by subst hY;exact hc
 have eE:Y.env=compEnvC scope (jg X.env scope.names []) s3.heap.objs.size X.env:=by subst hY;rfl
 have eXe:Y.xe=λ_ _=>False:=by subst hY;rfl
 have hgY:PG Y tg g:=by subst hY;exact hg _ _ _ _
 have htY:OE Y ifs tt:=by subst hY;exact ht _ _ _ _
 have heY:PE Y elt te:=by subst hY;exact he _ _ _ _
 have loop:codeAny 'g' X.A (.compLoop (.ListComp elt [⟨tg,iter,ifs,0⟩] scope pos) 0 (.ref it) (.ref s.heap.objs.size) (compEnvC scope (jg X.env scope.names []) s3.heap.objs.size X.env))
   (RR (.ref s.heap.objs.size) s3.heap.objs.size) {s3 with heap:=h₁,toks:=s3.toks+([]:List (Str×Value)).length}:=by
  refine Le (λn s'=>∃i ys τ H',Inv Y [] τ H' s'/\tn i s'.heap/\(∀b∈fp,H' b=none)/\W i n ys τ H') ?_ m0 ⟨0,[],_,H3,J0,st1,λb hb=>(Yd b hb).1,w0⟩
  rintro n s4 ⟨i,ys,τ,H4,I4,st4,fr4,w4⟩
  obtain⟨hDl,tr⟩:=turn i n ys τ H4 w4
  rcases tr with ⟨stop,qn⟩|⟨go,Nn,hNn,step⟩
  ·have d:=T.done Y eP eW eK eC i [] s4 τ H4 (λ_ _=>False) I4 (K1 fr4) st4 stop
   rw[eA]at d
   refine cS d λr s5 ⟨hr,I5⟩=>?_
   subst hr
   have u:Inv X pins σ H4 s5:=by
    subst hY
    exact I3.Q7 (ch:=fp) I5.os I5.base I5.hok I5.bare λb hb=>⟨(Yd b hb).2.2.2.1,(Yd b hb).2.1,(Yd b hb).2.2.2.2.1,(Yd b hb).2.2.2.2.2⟩
   have hC:H4 s3.heap.objs.size=none:=by have z:=I5.free;rw[eE]at z;exact z
   obtain⟨m,hn,_⟩:=I5.loc
   rw[eE]at hn
   exact hRR _ _ H4 s5 m u (I3.vA (ad6 _) hC) hn qn
  ·have d:=T.item Y eP eW eK eC i [] s4 τ H4 (λ_ _=>False) I4 (K1 fr4) st4 go
   rw[eA]at d
   refine cS d λr s5 ⟨u,hr,h5⟩=>?_
   subst hr
   refine cS h5 λ_ s6 ⟨x,H6,I6,r6,y6,st6,fr6⟩=>?_
   have I6':=I6.pinned (K1 fr6) (T.obj _ _ st6)
   have q6:=hgY _ s6 τ H6 x u _ I6' r6 (step x H6 y6)
   rw[eP,eW,eA,eE,eXe]at q6
   refine cS q6 λ_ s7 ⟨σ7,H7,I7,q7⟩=>?_
   have q8:=htY _ s7 σ7 H7 _ I7 q7
   rw[eP,eW,eA,eE,eXe]at q8
   refine cS q8 λok s8 ⟨H8,I8,q8⟩=>?_
   have again:∀{σ9:St}{H9:Hp}{s9:Shared}{zs:List V},Inv Y ([]++Bt fp s6.heap) σ9 H9 s9->(∃m',m'<n/\W (i+1) m' zs σ9 H9)->∃m,m<n/\∃i ys τ H',Inv Y [] τ H' s9/\tn i s9.heap/\(∀b∈fp,H' b=none)/\W i m ys τ H':=λ{σ9 H9 s9 zs} I9 n9=>by
    obtain⟨m',hm,w9⟩:=n9
    refine⟨m',hm,i+1,zs,σ9,H9,I9.vB,T.keep _ _ _ st6 λb hb o e=>(I9.pin (b,o) (aeI _ (aeI _ (oU hb e)))).1,λb hb=>?_,w9⟩
    obtain⟨o,e,d⟩:=T.obj _ _ st6 b hb
    exact(I9.pin (b,o) (aeI _ (aeI _ (oU hb e)))).2.1
   cases ok with
   |false =>
    rw[ad5 aev]
    rw[ad5 aev]at q8
    exact again I8 (hNn _ _ _ q8)
   |true =>
    rw[aee rfl]
    rw[aee rfl]at q8
    have q9:=heY _ s8 σ7 H8 _ I8 q8
    rw[eP,eW,eA,eE,eXe]at q9
    refine cS q9 λy s9 ⟨yv,H9,I9,r9,hD9,hz9,q9⟩=>?_
    have ap:=cI (X:=Y) _ s9 σ7 H9 (.ref s.heap.objs.size) [yv] (.ref s.heap.objs.size) [y] (λ_ H10=>Nn (ys++[yv]) σ7 H10) I9 rfl (.cons r9 .nil) ⟨_,ys,yv,rfl,rfl,hD9,hz9,q9⟩
    rw[eP,eW,eA,eXe]at ap
    exact cS ap λ_ s10 ⟨_,H10,I10,_,q10⟩=>again I10 (hNn _ _ _ q10)
 subst hs3
 exact codeAny_compStart_list loop (T.self _ 0 _ _ _ st1 loop)
theorem cK(hc:X.calm=true)(S:aZ X.N X.env.scope N nv js scope)(hi:PI X tg iter wi)(hg:∀C s H fp,PG (kI X N scope C s H fp) tg g)(ht:∀C s H fp,OE (kI X N scope C s H fp) ifs tt)(he:∀C s H fp,PE (kI X N scope C s H fp) elt te)(hs:∀x,foldedSetIterable iter X.env x=pure x:=by intro _;rfl):PE X (.ListComp elt [⟨tg,iter,ifs,0⟩] scope pos) (Xe wi g tt te nv js):=by
 intro pins s σ H Q I h
 rw[eval_ListComp]
 refine wpAny_comprehension_free (use:=none) rfl hs (tR λn hn=>I.ok.has n (S.free _ hn rfl)) S.kind S.loc (cS (hi pins s σ H _ I h) λv s1 h1=>cS h1 λitv s2 h2=>?_)
 obtain⟨it,fp,tn,J,H2,e,I2,T,st2,f2,hR⟩:=h2
 subst e
 refine BA (RR:=λacc C=>compPost 'g' X.A X.xe none (EP X pins σ Q) acc C) hc S hg ht he I2 T st2 f2 hR ?_
 intro D C H' s' m I' fC hn q
 refine⟨m,hn,λh' sb=>⟨.ref D,H',?_,O,q⟩⟩
 exact I'.turned (t':=s'.toks) (λb o hb e=>(sb.2 b hb).trans e) fC.1 fC.2.1 fC.2.2.2.1 fC.2.2.2.2.1 fC.2.2.2.2.2
theorem NG{i:Nat}{x:Str}{pos' spos:Pos}(hc:X.calm=true)(hN:X.N.Nodup)(hi':X.N[i]?=some x)(hx:X.env.scope.names.lookup x=some .local)(S:aZ X.N X.env.scope N nv js scope)(hi:PI X tg iter wi)(hg:∀C s H fp,PG (kI X N scope C s H fp) tg g)(ht:∀C s H fp,OE (kI X N scope C s H fp) ifs tt)(he:∀C s H fp,PE (kI X N scope C s H fp) elt te)(hsw:swapsWith (.ListComp elt [⟨tg,iter,ifs,0⟩] scope pos) (some (.Name x pos')) spos.line X.env=pure true:=by rfl)(hs:∀x,foldedSetIterable iter X.env x=pure x:=by intro _;rfl):PS X (.Assign [.Name x pos'] (.ListComp elt [⟨tg,iter,ifs,0⟩] scope pos) spos) (UX (Xe wi g tt te nv js) (bF i)):=by
 intro pins s σ H D I h
 rw[exec_Assign_Name_used _ _ _ _ hsw]
 refine ad4 (wpAny_standAt (ad4 ?_))
 show wpAny _ X.A (do let _ ←comprehension (.ListComp elt [⟨tg,iter,ifs,0⟩] scope pos) scope X.env _ (newList []) false (eval iter X.env) (some (assign (.Name x pos') X.env))) _ _ s
 refine ad4 (ae8 (wpAny_comprehension_free (use:=some (assign (.Name x pos') X.env)) (Q:=λ_ s'=>SP X pins D .next s') rfl hs (tR λn hn=>I.ok.has n (S.free _ hn rfl)) S.kind S.loc
  (cS (hi pins s σ H _ I h) λv s1 h1=>cS h1 λitv s2 h2=>?_)) (λ_ s' hq=>aea (aea hq)) λ_ _ e=>e)
 obtain⟨it,fp,tn,J,H2,e,I2,T,st2,f2,hR⟩:=h2
 subst e
 refine BA (RR:=λacc C=>compPost 'g' X.A X.xe (some (assign (.Name x pos') X.env)) (λ_ s'=>SP X pins D .next s') acc C) hc S hg ht he I2 T st2 f2 hR ?_
 intro Dl C H' s' m I' fC hn q
 show wpAny _ X.A (assign (.Name x pos') X.env (.ref Dl)) _ _ _
 refine wpAny_assign_Name (Eu I' hN hi' (.inl hx) (v:=.ref Dl) rfl (λs2 I3 ch=>?_) (.inr hx))
 obtain⟨a,sb,ha⟩:=ch
 have hCa:C≠a:=by
  rcases ha with rfl|ha
  ·exact fC.2.1
  ·exact(fC.2.2.2.2.1 x a ha).symm
 refine⟨m,hn.sameBut sb hCa,λh' sb'=>⟨_,H',?_,q⟩⟩
 exact I3.turned (t':=s2.toks) (λb o hb e=>(sb'.2 b hb).trans e) fC.1 fC.2.1 fC.2.2.2.1 fC.2.2.2.2.1 fC.2.2.2.2.2
end
theorem Lg:typeLookup (.type "list_reverseiterator") "__len__"=pure none:=by rw[typeLookup_type,builtinLookup_eq_fast];kernel_rfl
theorem RD:typeLookup (.type "list_reverseiterator") "__length_hint__"=pure (some (.builtin "list_reverseiterator.__length_hint__")):=by rw[typeLookup_type,builtinLookup_eq_fast];kernel_rfl
section
variable{prog:Program}{w:World}{A:Around}{E:Value->Shared->Prop}{s:Shared}
theorem RE{I l:Addr}{i:Int}{Q:Bool->Shared->Prop}(hit:s.heap.IsRevIter I l i)(h:Q false s):wpAny (model prog w) A (Builtin.List.listLengthHint (.ref I)) Q E s:=by
 unfold Builtin.List.listLengthHint
 refine ad4 (afv hit.typeIs Lg ?_)
 show wpAny _ _ (specialOf (Value.ref I) ("__length_hint__":Str) >>= _) _ _ _
 refine ad4 (afv hit.typeIs RD ?_)
 generalize hid:("list_reverseiterator.__length_hint__":String)=id0
 wp_delta
 rw[show splitId id0=some ("list_reverseiterator","__length_hint__") from by subst hid;decide +kernel]
 subst hid
 refine ad4 (wpAny_isInstance (T:="list_reverseiterator") (b:=true) hit.typeIs (by rw[isSubtype_type];kernel_rfl) ?_)
 refine wpAny_ite_split (λhab=>absurd hab 'c') (λ_=>?_)
 refine wpAny_ite_split (λ_=>?_) (λhab=>absurd 'b' hab)
 refine wpAny_ite_split (λhab=>absurd hab 'b') (λ_=>?_)
 exact aea h
theorem Lh{R:Result->Shared->Prop}(hh:A.handled=none){I l:Addr}{items:Array Value}(hne:l≠I)(hit:s.heap.IsRevIter I l ((items.size:Int)-1))(hl:s.heap.IsList l items)(S:Addr)(hSl:S≠l)(res:Value)(c₀:Nat)(hS:s.heap.get? S=some {cls:=.type "list",data:=.seq #[] c₀})(hn:items.size<=sizeLine)(hR:∀h' tk acc' c',(∀b o,b≠S->b≠I->s.heap.get? b=some o->h'.get? b=some o)->h'.get? S=some {cls:=.type "list",dict:=none,data:=.seq acc' c',slots:=#[]}->ItemsOf (λi v=>items[items.size-1-i]?=some v) acc' items.size->R (.ok (.ret res)) {s with heap:=h',toks:=tk}):wpAny (model prog w) A.in1 (Builtin.List.listExtendWith (.ref S) (.ref I) res)
   (λfin s'=>match fin with | .done f=>R (.ok f) s' | .again c'=>c'.quiet=true/\codeAny (model prog w) A c' R s') (λe s'=>R (.error e) s') s:=by
 have hSI:S≠I:=λe=>by
  subst e
  obtain⟨o,ho,hc,_⟩:=hit
  rw[hS]at ho;cases ho
  exact absurd (show Value.type "list"=Value.type "list_reverseiterator" from hc) 'c'
 have hSf:S∉[I,l]:=λhm=>by
  rcases aeh.mp hm with e|hm
  ·exact hSI e
  ·exact hSl (ad7.mp hm)
 unfold Builtin.List.listExtendWith
 refine ad4 (wpAny_typeOf hit.typeIs ?_)
 have h1:Builtin.List.listSameRef (.ref S) (.ref I)=false:=by simp[Builtin.List.listSameRef,hSI]
 have h2:(Value.type "list_reverseiterator"==Value.type "list")=false:=by decide
 have h3:(Value.type "list_reverseiterator"==Value.type "tuple")=false:=by decide
 simp only[h1,h2,h3,Bool.or_false,ae1,afy]
 refine ad4 (wpAny_pyIter_revIter hit ?_)
 refine ad4 (wpAny_holding (RE hit ?_))
 rw[ad5 'c']
 refine aea ⟨plainId_quiet F.plain_extend_loop _,codeAny_extend_loopS (Walks.listRev (prog:=prog) (w:=w) (A:=A.in1) hh I l hne items).toS hn _ hSf _ items.size 0 _ _ _ rfl (aeA _) ⟨aeA _,by simpa using hit,hl⟩ hS (ItemsOf.nil _) λs' acc' c' hm hS' hacc=>?_⟩
 rw[Moved.eq_with hm]
 refine hR s'.heap s'.toks acc' c' (λb ob hb hb2 e=>hm.heap b ob (λhmem=>?_) e) hS' hacc
 rcases aeh.mp hmem with e'|hmem
 ·exact hb e'
 ·exact hb2 (ad7.mp hmem)
end
theorem OG{items:List Value}{acc:Array Value}(h:ItemsOf (λi v=>items.toArray[items.toArray.size-1-i]?=some v) acc items.toArray.size):acc.toList=items.reverse:=by
 have hz:=h.1
 refine List.ext_getElem? λi=>?_
 by_cases hi:i<items.length
 ·have hi':i<acc.size:=by rw[hz];simpa using hi
  have q:=h.2 i acc[i] (by simp[hi'])
  rw[List.getElem?_reverse hi]
  simp only[aed,List.getElem?_toArray]at q
  rw[q]
  simp[hi']
 ·rw[afe (by rw[aeq,hz];simpa using hi),afe (by simpa using hi)]
section
variable{X:Cx}{e:Expr}{te:TE}
end
def sg(c:Nat):Str:=⟨#[c]⟩
def Its(z:Str):It:=⟨λi _=>i<z.cps.size,λi H x H'=>H'=H/\∃c,z.cps[i]?=some c/\x=.str (sg c),λi _=>z.cps.size<=i⟩
theorem RG{P:Program}{w:World}{K:W.Frag}{tg:Expr}(it:Addr)(z:Str)(t:Tok):Turn P w K tg (Its z) [it] it (λi h=>h.IsStrIter it (strIterType z) z t i) where
 mem:=by simp
 obj:=λi h st b hb=>by
  have e:b=it:=by simpa using hb
  subst e
  obtain⟨o,e,c,d⟩:=st
  exact⟨o,e,λv z=>by rw[d]at z;cases z⟩
 keep:=λi h h' st k=>by
  obtain⟨o,e,r⟩:=st
  exact⟨o,k it (by simp) o e,r⟩
 item:=by
  intro X hP hw hK hc i pins s σ H E I hf st hg
  subst hP hw hK
  obtain⟨f0,f1,f2,f3,f4,f5⟩:=hf it (by simp)
  have hi:i<z.cps.size:=hg
  have hx:z.cps[i]?=some z.cps[i]:=by simp[hi]
  cases ha:z.cps.all (· < 128) with
  |true =>
   have et:strIterType z="str_ascii_iterator":=by simp only[strIterType,ha,afW]
   rw[et]at st⊢
   refine wpAny_pyNext_ascii_item st hx λh' st' sb=>?_
   have I1:Inv X pins σ H {s with heap:=h',toks:=s.toks+1}:=I.turned (λb o hb e=>(sb.2 b hb).trans e) f0 f1 f3 f4 f5
   obtain⟨o,e,c,d⟩:=id st'
   exact⟨_,rfl,Ew (s:={s with heap:=h',toks:=s.toks+1}) e c d 'c' ⟨.str (sg z.cps[i]),H,I1,⟨_,rfl⟩,⟨rfl,_,hx,rfl⟩,st',λb hb=>(hf b hb).1⟩⟩
  |false =>
   have et:strIterType z="str_iterator":=by simp only[strIterType,ha,ae1,afy]
   rw[et]at st⊢
   refine wpAny_pyNext_wide_item st hx λh' st' sb=>?_
   have I1:Inv X pins σ H {s with heap:=h',toks:=s.toks+1}:=I.turned (λb o hb e=>(sb.2 b hb).trans e) f0 f1 f3 f4 f5
   obtain⟨o,e,c,d⟩:=id st'
   exact⟨_,rfl,Ew (s:={s with heap:=h',toks:=s.toks+1}) e c d 'c' ⟨.str (sg z.cps[i]),H,I1,⟨_,rfl⟩,⟨rfl,_,hx,rfl⟩,st',λb hb=>(hf b hb).1⟩⟩
 done:=by
  intro X hP hw hK hc i pins s σ H E I hf st hg
  subst hP hw hK
  obtain⟨f0,f1,f2,f3,f4,f5⟩:=hf it (by simp)
  have hi:z.cps.size<=i:=hg
  have hx:z.cps[i]?=none:=by simp[hi]
  cases ha:z.cps.all (· < 128) with
  |true =>
   have et:strIterType z="str_ascii_iterator":=by simp only[strIterType,ha,afW]
   rw[et]at st
   exact wpAny_pyNext_ascii_end (I.ok.hd hc) st hx λh' eb=>⟨rfl,I.turned (t':=s.toks) (λb o hb e=>eb b o hb e) f0 f1 f3 f4 f5⟩
  |false =>
   have et:strIterType z="str_iterator":=by simp only[strIterType,ha,ae1,afy]
   rw[et]at st
   exact wpAny_pyNext_wide_end (I.ok.hd hc) st hx λh' eb=>⟨rfl,I.turned (t':=s.toks) (λb o hb e=>eb b o hb e) f0 f1 f3 f4 f5⟩
 self:=by
  intro A i s Q E st h
  cases ha:z.cps.all (· < 128) with
  |true =>
   have et:strIterType z="str_ascii_iterator":=by simp only[strIterType,ha,afW]
   rw[et]at st
   exact wpAny_pyIter_striter_ascii st h
  |false =>
   have et:strIterType z="str_iterator":=by simp only[strIterType,ha,ae1,afy]
   rw[et]at st
   exact wpAny_pyIter_striter_wide st h
section
variable{X:Cx}{tg:Expr}
def ach(tl:TE):TI:=λσ H R=>tl σ H λx H1=>∃z,x=.str z/\R (Its z) H1
theorem oW{l:Expr}{tl:TE}(hl:PE X l tl):PI X tg l (ach tl):=by
 intro pins s σ H R I h
 refine cS (hl pins s σ H _ I h) λv s1 ⟨x,H1,I1,r1,q1⟩=>?_
 obtain⟨z,e,q⟩:=q1
 subst e
 obtain⟨t,rfl⟩:=r1
 refine wpAny_pyIter_strU ?_
 refine⟨s1.heap.objs.size,[s1.heap.objs.size],_,_,H1,rfl,I1.kept (t':=s1.toks) λb o e=>ad9 _ e,RG _ z t,⟨_,ael _ rfl,rfl,rfl⟩,λb hb=>?_,q⟩
 have e:b=s1.heap.objs.size:=by simpa using hb
 subst e
 exact I1.vA (ad6 _) (I1.hok.fresh (ad6 _))
end
theorem vF{z:Str}{g:TG}{tb:TS}{D:Ends}{σ:St}{H:Hp}(Pv:Nat->St->Hp->Prop)(h0:Pv 0 σ H)(hs:∀i c σ H,z.cps.toList[i]?=some c->Pv i σ H->g (.str (sg c)) σ H λσ2 H2=>tb {D with nx:=Pv (i+1),ct:=Pv (i+1),bk:=D.nx} σ2 H2)(hd:∀σ H,Pv z.cps.toList.length σ H->D.nx σ H):∃W:Nat->Nat->St->Hp->Prop,(∃m,W 0 m σ H)/\∀i m σ H,W i m σ H->((Its z).stop i H/\D.nx σ H)\/((Its z).go i H/\∃N:St->Hp->Prop,(∀σ' H',N σ' H'->∃m',m'<m/\W (i+1) m' σ' H')/\∀x H',(Its z).QO i H x H'->g x σ H' λσ2 H2=>tb {D with nx:=N,ct:=N,bk:=D.nx} σ2 H2):=by
 refine⟨λi m σ H=>m=z.cps.size-i/\i<=z.cps.size/\Pv i σ H,⟨z.cps.size,by simp,aeA _,h0⟩,?_⟩
 rintro i m σ H ⟨rfl,hi,p⟩
 by_cases hlt:i<z.cps.size
 ·refine .inr ⟨hlt,Pv (i+1),λσ' H' p'=>⟨z.cps.size-(i+1),by omega,rfl,hlt,p'⟩,λx H' y=>?_⟩
  obtain⟨e,c,hc,ex⟩:=y
  subst e ex
  exact hs i c σ _ (by simpa using hc) p
 ·have e:i=z.cps.size:=by omega
  subst e
  exact .inl ⟨ad6 _,hd σ H (by simpa using p)⟩
theorem cL{K:W.Frag}{a:Addr}{xs:List V}{g:TG}{tt:TT}{te:TE}{Q:VK}{D:Addr}{τ:St}{H:Hp}(Pv:Nat->List V->St->Hp->Prop)(h0:Pv 0 [] τ (upd H D (.lst [])))(hl:∀i ys τ H,i<=xs.length->Pv i ys τ H->aT K H a xs/\H D=some (.lst ys))(hs:∀i x ys τ H,xs[i]?=some x->Pv i ys τ H->g x τ H λτ2 H2=>tt τ2 H2 λb H3=>if b=true then te τ2 H3 λy H4=>H4 D=some (.lst ys)/\ys.length<sizeLine/\Pv (i+1) (ys++[y]) τ2 (upd H4 D (.lst (ys++[y]))) else Pv (i+1) ys τ2 H3)(hd:∀ys τ H,Pv xs.length ys τ H->Q (.ref D) H):EF (Itl K a) g tt te Q D τ H:=by
 refine⟨λi m ys τ H=>m=xs.length-i/\i<=xs.length/\Pv i ys τ H,⟨xs.length,by simp,aeA _,h0⟩,?_⟩
 rintro i m ys τ H ⟨rfl,hi,p⟩
 obtain⟨q,hD⟩:=hl i ys τ H hi p
 refine⟨hD,?_⟩
 by_cases hlt:i<xs.length
 ·refine .inr ⟨⟨xs,xs[i],q,by simp[hlt]⟩,Pv (i+1),λzs σ' H' p'=>⟨xs.length-(i+1),by omega,rfl,hlt,p'⟩,λx H' y=>?_⟩
  obtain⟨e,y⟩:=y
  subst e
  exact hs i x ys τ _ (y xs q) p
 ·have e:i=xs.length:=by omega
  subst e
  exact .inl ⟨⟨xs,q,ad6 _⟩,hd ys τ H p⟩
theorem vG{z:Str}{g:TG}{tt:TT}{te:TE}{Q:VK}{D:Addr}{τ:St}{H:Hp}(Pv:Nat->List V->St->Hp->Prop)(h0:Pv 0 [] τ (upd H D (.lst [])))(hl:∀i ys τ H,i<=z.cps.toList.length->Pv i ys τ H->H D=some (.lst ys))(hs:∀i c ys τ H,z.cps.toList[i]?=some c->Pv i ys τ H->g (.str (sg c)) τ H λτ2 H2=>tt τ2 H2 λb H3=>if b=true then te τ2 H3 λy H4=>H4 D=some (.lst ys)/\ys.length<sizeLine/\Pv (i+1) (ys++[y]) τ2 (upd H4 D (.lst (ys++[y]))) else Pv (i+1) ys τ2 H3)(hd:∀ys τ H,Pv z.cps.toList.length ys τ H->Q (.ref D) H):EF (Its z) g tt te Q D τ H:=by
 have hz:z.cps.toList.length=z.cps.size:=by simp
 refine⟨λi m ys τ H=>m=z.cps.size-i/\i<=z.cps.size/\Pv i ys τ H,⟨z.cps.size,by simp,aeA _,h0⟩,?_⟩
 rintro i m ys τ H ⟨rfl,hi,p⟩
 refine⟨hl i ys τ H 'f' p,?_⟩
 by_cases hlt:i<z.cps.size
 ·refine .inr ⟨hlt,Pv (i+1),λzs σ' H' p'=>⟨z.cps.size-(i+1),by omega,rfl,hlt,p'⟩,λx H' y=>?_⟩
  obtain⟨e,c,hc,ex⟩:=y
  subst e ex
  exact hs i c ys τ _ (by simpa using hc) p
 ·have e:i=z.cps.size:=by omega
  subst e
  exact .inl ⟨ad6 _,hd ys τ H (by rw[hz];exact p)⟩
theorem NH:∀{zs:List Str}{us:List Value},Vals (zs.map V.str) us->StrsAre us zs
 |[],_,r=>by cases r;exact .nil
 |z::zs,_,r=>by
  cases r with
  |cons r1 r2 =>
   obtain⟨t,e⟩:=r1
   subst e
   exact .cons z t (NH r2)
section
variable{X:Cx}
inductive rJoin(K:W.Frag)(x:V)(vs:List V)(H:Hp)(Q:VK):Prop where
 |mk z p zs:(x=.str z)->(vs=[.ref p])->(aT K H p (zs.map V.str))->((zs.map (·.length)).sum+zs.length*z.length<=16777216)->(Q (.str (Txt.join z zs)) H)->rJoin K x vs H Q
theorem Vg:X5 X "str.join" (rJoin X.K):=by
 intro pins s σ H x vs v us Q I rx rv h
 obtain⟨z,p,zs,rfl,rfl,hq,hz,q⟩:=h
 obtain⟨t,rfl⟩:=rx
 obtain⟨u,rfl,ru⟩:=rv.one
 cases ru
 obtain⟨its,r,pl,_⟩:=I.list hq
 exact join_list pl.isList (by simpa using NH r) hz λt' k=>⟨.str _,H,I.tok k,⟨t',rfl⟩,q⟩
theorem Iu:eZ X (.builtin "isinstance") (λxs H Q=>∃x c t b,xs=[x,c]/\uK X.K H x t/\((∃n,c=.ty n/\W.kitOne X.K t (.type n)=some b)\/(∃a,c=.ref a/\W.kitOne X.K t (.ref a)=some b))/\Q (.bl b) H):=by
 intro pins s σ H xs us Q I r h
 obtain⟨x,c,t,b,rfl,ty,hc,q⟩:=h
 obtain⟨u,w',rfl,ru,rw'⟩:=vals2 r
 rcases hc with ⟨n,rfl,e⟩|⟨a,rfl,e⟩
 ·cases rw'
  exact Ez I ru ty e λtk=>⟨.bl b,H,I.tok tk,rfl,q⟩
 ·cases rw'
  exact Ez I ru ty e λtk=>⟨.bl b,H,I.tok tk,rfl,q⟩
end
theorem Ye(c:Nat):(sg c).length=1:=rfl
theorem NI(a b:List Nat):(⟨a.toArray⟩:Str)++(⟨b.toArray⟩:Str)=⟨(a++b).toArray⟩:=by
 show Str.mk (a.toArray++b.toArray)=_
 simp
section
variable{X:Cx}
inductive Yg(K:W.Frag)(x:V)(y:V)(H:Hp)(Q:VK):Prop where
 |mk a b xs:(x=.ref a)->(y=.ref b)->(aT K H a xs)->(aT K H b [])->(Q (.bl (!xs.isEmpty)) H)->Yg K x y H Q
theorem Yh(hu:X.A.units<cLine):kF X (compareOp .NotEq) (Yg X.K):=by
 intro pins s σ H x y v u Q I rx ry h
 obtain⟨a,b,xs,rfl,rfl,ha,hb,q⟩:=h
 cases rx
 cases ry
 obtain⟨its,r1,p1,_⟩:=I.list ha
 obtain⟨its2,r2,p2,_⟩:=I.list hb
 cases r2
 show wpAny _ _ (richCompare .NotEq (.ref a) (.ref b)) _ _ _
 cases xs with
 |nil =>
  cases r1
  refine SeqAt.RcNeAt.lists (e:=λ_=>true) p1.isList p2.isList rfl hu (λj h1 _=>absurd h1 (by simp)) _ _ _ _ ⟨.bl false,H,I,?_,q⟩
  simp[RelV]
 |cons x xs =>
  cases r1 with
  |cons r rr =>
   exact SeqAt.RcNeAt.lists_lengths p1.isList p2.isList (by simp) hu _ _ _ _ ⟨.bl true,H,I,rfl,q⟩
end
section
variable{X:Cx}(K:W.Frag)(h:X.K=K)
include h
theorem RH:IxR X (Va K):=by subst h;exact Vc
theorem Vh:IxR X (Vb K):=by subst h;exact X6
theorem RI:SlR X (X7 K):=by subst h;exact Vd
theorem Gn:SlR X (X3 K):=by subst h;exact X4
theorem nS:X5 X "str.join" (rJoin K):=by subst h;exact Vg
theorem aU:eZ X (.builtin "len") (λxs H Q=>∃p ys,xs=[.ref p]/\(aT K H p ys\/aX K H p ys)/\Q (.int ys.length) H):=by subst h;exact Gm
theorem cC:eZ X (.builtin "isinstance") (λxs H Q=>∃x c t b,xs=[x,c]/\uK K H x t/\((∃n,c=.ty n/\W.kitOne K t (.type n)=some b)\/(∃a,c=.ref a/\W.kitOne K t (.ref a)=some b))/\Q (.bl b) H):=by subst h;exact Iu
theorem qG:eZ X (.type "tuple") (λxs H Q=>∃p ys,xs=[.ref p]/\((aT K H p ys/\∀l,H l=none->Q (.ref l) (upd H l (.tup ys)))\/(aX K H p ys/\Q (.ref p) H))):=by subst h;exact DE
theorem RJ:kF X (binaryOp .Add) (Rr K):=by subst h;exact U8
theorem NJ(hu:X.A.units<cLine):kF X (compareOp .NotEq) (Yg K):=by subst h;exact Yh hu
theorem bH{tg l:Expr}{tl:TE}(hl:PE X l tl):PI X tg l (W9 K tl):=by subst h;exact UY hl
theorem Vi{tg l:Expr}{tl:TE}(hl:PE X l tl):PI X tg l (aay K tl):=by subst h;exact XT hl
theorem mq{es:List Expr}{k:Nat}{pos:Pos}{t:W8}(n:Nat)(hc:X.calm=true)(hh:PGs X es t)(hn:(assignEach es X.env).length=n:=by rfl)(hst:(assignEach es X.env).findIdx? (·.1)=none:=by rfl):PG X (.Tuple es k pos) (aax K n t):=by subst h;exact XQ hc hh hn hst
theorem aQ{e:Expr}{ta:TE}{f:Str}{pos:Pos}(he:PE X e ta)(hb:attributeBase e f X.env (eval e X.env)=eval e X.env):PE X (.Attribute e f pos) (aaE K ta f):=by subst h;exact XY he hb
theorem cT{o e:Expr}{es:List Expr}{to:TE}{t:TA}{name:Str}{apos cpos:Pos}{T id:String}{r:V->List V->Hp->VK->Prop}(pa:PlainAttrs T)(slot:Slot T name id)(hty:typeOf (.builtin id)=pure (.type "method_descriptor"))(hm:X5 X id r)(ho:PE X o to)(ha:PA X (e::es) t)(hbase:attributeBase o name X.env (eval o X.env)=eval o X.env:=by rfl)(hfew:((backTo cpos (starEach (e::es) X.env)).all (λx=>!x.1)&&(backToKw cpos (keywordEach [] X.env)).all (λx=>x.1.isSome)
  && decide ((e::es).length+([]:List Keyword).length+(if ([]:List Keyword).isEmpty then 0 else 1)<30))=true:=by rfl)(hline:(apos.endLine==cpos.line)=true:=by rfl)(hs:starEach (e::es) X.env=(false,eval e X.env)::starEach es X.env:=by rfl)(hplain:(backTo cpos (starEach es X.env)).any (·.1)=false:=by rfl):PE X (.Call (.Attribute o name apos) (e::es) [] cpos) (tBM K T r to t):=by subst h;exact aaK pa slot hty hm ho ha hbase hfew hline hs hplain
end
section
variable{X:Cx}
theorem mw{x:Str}{z:Str}{t:Tok}{pos:Pos}(hg:Gl X x)(hm:X.mg x=some (.str z t))(hd:(x==("__debug__":Str))=false:=by decide):PE X (.Name x pos) (tC (.str z)):=Gb hg hm ⟨t,rfl⟩ hd
theorem eG{x:Str}{a:Addr}{pos:Pos}(hg:Gl X x)(hm:X.mg x=some (.ref a))(hd:(x==("__debug__":Str))=false:=by decide):PE X (.Name x pos) (tC (.ref a)):=Gb hg hm rfl hd
theorem Yi(n:String){x:Str}{pos:Pos}(hg:Gl X x)(hm:X.mg x=none)(hv:bootBuiltins x=some (.type n))(hn:x ≠ "__name__":=by decide)(hd:(x==("__debug__":Str))=false:=by decide):PE X (.Name x pos) (tC (.ty n)):=UT hg hm hv rfl hn hd
end
structure RK(K:W.Frag)(x qual:Str)(st:Stmt)(f:Addr)(fd:FuncData)(dV:Value):Prop where
 ex:∃(oc:Value)(od:Option Addr)(kV doc pm:Value)(an:Option Addr)(cdv ct:Value)(osl:Array (Option Value)),fd=W.fnOf x qual (dB st) (cJ st) (au st) dV kV doc pm an cdv ct/\K.lookup f=some ⟨oc,od,.func fd,osl⟩/\W.codeIn K cdv qual=true
 kp:W.keepIn K (.ref f)=true
section
variable{P:Program}{w:World}{K:W.Frag}{mg:Str->Option Value}{base:Heap}
theorem RK.ok{x qual:Str}{st:Stmt}{f:Addr}{fd:FuncData}{dV:Value}{N ps:List Str}{k:Nat}{sp:Sp}(F:RK K x qual st f fd dV)(S:aF N ps (au st))(len:∀vs H Q E,sp vs H Q E->vs.length=ps.length)(hbody:∀(cdv:Value)(A:Around)(outer:List Env)(s:Shared)(H:Hp)(vs:List V)(Q:VK)(E:XK),fS k (A.deeper (envOfC qual (au st) s.heap.objs.size f cdv))->sp vs H Q E->∃t,Il (Gf dQ P w K mg base N qual (au st) f cdv A outer s H E).XM (cJ st) t/\t {nx:=λ_ H'=>Q .non H',rt:=Q} (start N vs) H):bg P w K mg base dQ (k+1) f fd ps sp:=by
 obtain⟨oc,od,kV,doc,pm,an,cdv,ct,osl,rfl,lk,hcd⟩:=F.ex
 refine Ro lk hcd S len λA outer s H vs Q E hr QS=>?_
 obtain⟨t,h,q⟩:=hbody cdv A outer s H vs Q E hr QS
 exact⟨t,h.XM,q⟩
theorem NK{x qual:Str}{st:Stmt}{f:Addr}{oc dV:Value}{od an:Option Addr}{osl:Array (Option Value)}{kV doc pm cdv ct:Value}(l:K.lookup f=some ⟨oc,od,.func (W.fnOf x qual (dB st) (cJ st) (au st) dV kV doc pm an cdv ct),osl⟩)(c:W.codeIn K cdv qual=true)(k:W.keepIn K (.ref f)=true):RK K x qual st f (W.fnOf x qual (dB st) (cJ st) (au st) dV kV doc pm an cdv ct) dV:=⟨⟨oc,od,kV,doc,pm,an,cdv,ct,osl,rfl,l,c⟩,k⟩
end
section
variable{X:Cx}
theorem qH:∀{bs:List Bool}{us:List Value}{i:Nat}{u:Value},Vals (bs.map V.bl) us->us[i]?=some u->u=.bool (bs.getD i true)
 |[],_,_,_,r,e=>by cases r;simp at e
 |b::bs,_,i,u,r,e=>by
  cases r with
  |cons r1 r2 =>
   cases i with
   |zero=>simp at e;subst e;exact r1
   |succ i=>simp at e;simpa using qH r2 e
theorem all_range(bs:List Bool):((List.range bs.length).all λi=>bs.getD i true)=bs.all id:=by
 rw[aeS,aeP,aeP]
 constructor
 ·intro h b hb
  obtain⟨i,hi,rfl⟩:=List.mem_iff_getElem.mp hb
  have:=h i (by simpa using hi)
  simpa [List.getD,hi]using this
 ·intro h i hi
  have hi':i<bs.length:=by simpa using hi
  have:=h bs[i] (afY hi')
  simpa [List.getD,hi']using this
inductive Yj(K:W.Frag)(xs:List V)(H:Hp)(Q:VK):Prop where
 |mk (p:Addr) (bs:List Bool):(xs=[.ref p])->(aT K H p (bs.map V.bl))->(Q (.bl (bs.all id)) H)->Yj K xs H Q
theorem RL(hc:X.calm=true):eZ X (.builtin "all") (Yj X.K):=by
 intro pins s σ H xs us Q I r h
 obtain⟨p,bs,rfl,hq,q⟩:=h
 obtain⟨u,rfl,ru⟩:=vals1 r
 cases ru
 obtain⟨its,rv,pl,hz⟩:=I.list hq
 have hlen:=rv.length
 rw[aec]at hlen
 have hpl:p<s.heap.objs.size:=by obtain⟨o,ho,_⟩:=pl.isList;exact aei ho
 refine call_all_walk (afK pl.isList ⟨s.heap.objs.size,_,_,_,_,_,λi=>bs.getD i true,rfl,Walks.list (A:=X.A.in1) (show X.A.in1.handled=none from I.ok.hd hc) s.heap.objs.size p (aeH hpl) its.toArray,⟨⟨_,ael _ rfl,rfl,rfl⟩,pl.isList.at λo e=>ad9 _ e⟩,?_,?_⟩)
 ·intro i v s' Q' E' hv hq'
  have e:its[i]?=some v:=by simpa using hv
  rw[qH rv e]
  exact afs hq'
 ·intro h' tk hk
  have f0:=I.vA (ad6 s.heap.objs.size) (I.hok.fresh (ad6 _))
  have I2:Inv X pins σ H {s with heap:=s.heap.push {cls:=.type "list_iterator",data:=.fields #[.ref p,rawInt 0]}}:=I.kept (t':=s.toks) λb o e=>ad9 _ e
  have I3:=I2.turned (h':=h') (t':=tk) (it:=s.heap.objs.size) (λb o hb e=>hk b o (by simpa using hb) e) f0.1 f0.2.1 f0.2.2.2.1 f0.2.2.2.2.1 f0.2.2.2.2.2
  refine⟨.bl (bs.all id),H,I3,?_,q⟩
  show Value.bool _=Value.bool _
  rw[aed,←hlen,all_range]
theorem jh(K:W.Frag)(h:X.K=K)(hc:X.calm=true):eZ X (.builtin "all") (Yj K):=by subst h;exact RL hc
inductive RM(x:V)(vs:List V)(H:Hp)(Q:VK):Prop where
 |mk (z:Str) (c:Nat):(x=.str z)->(vs=[.str (sg c)])->(Q (.int (PyProof.Rows.cnt c z.cps.toList)) H)->RM x vs H Q
theorem RN:X5 X "str.count" RM:=by
 intro pins s σ H x vs v us Q I rx rv h
 obtain⟨z,c,rfl,rfl,q⟩:=h
 obtain⟨t,rfl⟩:=rx
 obtain⟨u,rfl,ru⟩:=rv.one
 obtain⟨t',rfl⟩:=ru
 exact SC.count ⟨.int _,H,I.tok _,⟨_,rfl⟩,by
  have e:Txt.count z (sg c)=PyProof.Rows.cnt c z.cps.toList:=PyProof.Rows.count_is z c
  rw[e];exact q⟩
theorem NL:∀{l:List Nat}{c:Nat},l.Nodup->c∈l->PyProof.Rows.cnt c l=1
 |[],_,_,h=>by cases h
 |n::r,c,nd,h=>by
  rw[PyProof.Rows.cnt_cons]
  obtain⟨n1,n2⟩:=af3.mp nd
  by_cases e:n=c
  ·subst e
   rw[aee rfl,PyProof.Rows.cnt_none _ _ n1];rfl
  ·rw[ad5 e,NL n2 ((aeh.mp h).resolve_left (afa e))];rfl
def qt:List V->List V->Bool
 |[],[]=>true
 |x::xs,y::ys=>Bd x y&&qt xs ys
 |_,_=>false
theorem BB:∀{x:V},eg x=true->Bd x x=true
 | .non,_=>rfl
 | .bl b,_=>by cases b<;>rfl
 | .int i,_=>by simp[Bd]
 | .str z,_=>by simp[Bd]
def Vj(xs ys:List V)(j:Nat):Bool:=match xs[j]?,ys[j]? with
 |some x,some y=>Bd x y
 |_,_=>true
theorem uN:∀(xs ys:List V),((List.range (min xs.length ys.length)).all (Vj xs ys)&&xs.length==ys.length)=qt xs ys
 |[],[]=>rfl
 |[],_::_=>by simp[qt]
 |_::_,[]=>by simp[qt]
 |x::xs,y::ys=>by
  have ih:=uN xs ys
  have e:min (x::xs).length (y::ys).length=min xs.length ys.length+1:=by rw[aex,aex];omega
  rw[e,List.range_succ_eq_map,List.all_cons,List.all_map]
  have e2:(Vj (x::xs) (y::ys)∘Nat.succ)=Vj xs ys:=by funext j;simp[Vj]
  rw[e2]
  unfold qt
  rw[←ih]
  have e3:((x::xs).length==(y::ys).length)=(xs.length==ys.length):=by simp
  rw[e3]
  show(Bd x y&&_&&_)=_
  rw[Bool.and_assoc]
inductive aaR(K:W.Frag)(x:V)(y:V)(H:Hp)(Q:VK):Prop where
 |mk a b xs ys:(x=.ref a)->(y=.ref b)->(aX K H a xs)->(aX K H b ys)->(xs.all eg=true)->(ys.all eg=true)->(Q (.bl (qt xs ys)) H)->aaR K x y H Q
theorem items_eqAt{A:Around}{s:Shared}{xs ys:List V}{us ws:List Value}(r1:Vals xs us)(r2:Vals ys ws)(f1:xs.all eg=true)(f2:ys.all eg=true)(j:Nat)(h1:j<us.toArray.size)(h2:j<ws.toArray.size):SeqAt.EqAt A s us.toArray[j] ws.toArray[j] (Vj xs ys j):=by
 have hl1:=r1.length
 have hl2:=r2.length
 have hj1:j<xs.length:=by rw[hl1];simpa using h1
 have hj2:j<ys.length:=by rw[hl2];simpa using h2
 obtain⟨u,eu,ru⟩:=r1.get (i:=j) (x:=xs[j]) (by simp[hj1])
 obtain⟨w,ew,rw'⟩:=r2.get (i:=j) (x:=ys[j]) (by simp[hj2])
 have e1:us.toArray[j]=u:=by
  have:=ad8.mp eu
  obtain⟨_,q⟩:=this
  simpa using q
 have e2:ws.toArray[j]=w:=by
  have:=ad8.mp ew
  obtain⟨_,q⟩:=this
  simpa using q
 rw[e1,e2]
 have e3:Vj xs ys j=Bd xs[j] ys[j]:=by simp[Vj,hj1,hj2]
 rw[e3]
 exact Lc ru rw' (aeP.mp f1 _ (afY hj1)) (aeP.mp f2 _ (afY hj2))
theorem Yk(K:W.Frag)(hK:X.K=K)(hu:X.A.units<cLine):kF X (compareOp .Eq) (aaR K):=by
 subst hK
 intro pins s σ H x y v u Q I rx ry h
 obtain⟨a,b,xs,ys,rfl,rfl,ha,hb,f1,f2,q⟩:=h
 cases rx
 cases ry
 obtain⟨its,r1,p1,_⟩:=I.tuple ha
 obtain⟨its2,r2,p2,_⟩:=I.tuple hb
 refine SeqAt.eq_tupleAt (e:=Vj xs ys) p1 p2 hu (λj h1 h2=>items_eqAt r1 r2 f1 f2 j h1 h2) ⟨.bl _,H,I,?_,q⟩
 show Value.bool _=Value.bool _
 rw[aed,aed,←r1.length,←r2.length,uN]
end
section
variable{X:Cx}{pins:List (Addr×Obj)}{σ:St}{H:Hp}{s:Shared}
end
section
variable{X:Cx}
inductive RO(K:W.Frag)(xs:List V)(H:Hp)(Q:VK):Prop where
 |mk (a:Addr) (c:String) (ys:List V) (b:Bool):(xs=[.ref a,.ty c])->(((aX K H a ys/\W.kitOne K (.type "tuple") (.type c)=some b)\/(aT K H a ys/\W.kitOne K (.type "list") (.type c)=some b)))->(Q (.bl b) H)->RO K xs H Q
theorem qI(K:W.Frag)(hK:X.K=K):eZ X (.builtin "isinstance") (RO K):=by
 subst hK
 intro pins s σ H xs us Q I r h
 obtain⟨a,c,ys,b,rfl,hk,q⟩:=h
 obtain⟨u,w',rfl,ru,rw'⟩:=vals2 r
 cases ru;cases rw'
 have fin:∀tk,EP X pins σ Q (.bool b) {s with toks:=tk}:=λtk=>⟨.bl b,H,I.tok tk,rfl,q⟩
 rcases hk with ⟨ha,e⟩|⟨ha,e⟩
 ·obtain⟨its,r1,p1,_⟩:=I.tuple ha
  obtain⟨o,h1,h2,_⟩:=p1
  exact afu W.kitx_tuple I.nQ ⟨o,h1,h2⟩ e (λz=>nomatch z) fin
 ·obtain⟨its,r1,p1,_⟩:=I.list ha
  obtain⟨o,h1,h2,_⟩:=p1.isList
  exact afu W.kitx_list I.nQ ⟨o,h1,h2⟩ e (λz=>nomatch z) fin
end
section
variable{X:Cx}
theorem mC{x:Str}{z:Int}{t:Tok}{pos:Pos}(hg:Gl X x)(hm:X.mg x=some (.int z t))(hd:(x==("__debug__":Str))=false:=by decide):PE X (.Name x pos) (tC (.int z)):=Gb hg hm ⟨t,rfl⟩ hd
end
section
variable{X:Cx}{CX:Ox}{k:Nat}{f C:Addr}{fd:FuncData}{ps ks:List Str}{sp:Sp}{E:XK}{x m:Str}{p pos apos kpos:Pos}{e o:Expr}{es:List Expr}{kws:List Keyword}{te ta:TE}{t tk:TA}{nm:Option Str}{g:List Value->List Value->List Value}{gV:List V->List V->List V}
end
theorem EG:∀{xs ys:List V}{us:List Value},Vals xs us->Vals ys us->xs.all eg=true->ys.all eg=true->qt ys xs=true
 |_,_,_,.nil,.nil,_,_=>rfl
 |x::xs,y::ys,u::us,.cons r1 t1,.cons r2 t2,f1,f2=>by
  rw[List.all_cons,ae7]at f1 f2
  unfold qt
  have e1:eqU x u=Bd y x:=Gk r2 f2.1
  have e2:eqU x u=Bd x x:=Gk r1 f1.1
  rw[←e1,e2,BB f1.1,EG t1 t2 f1.2 f2.2]
  rfl
section
variable{X:Cx}{pins:List (Addr×Obj)}{σ:St}{H:Hp}{s:Shared}
theorem RP(I:Inv X pins σ H s){a b:Addr}{xs ys:List V}(ha:aX X.K H a xs)(hb:aX X.K H b ys)(f1:xs.all eg=true)(f2:ys.all eg=true){A:Around}(hu:A.units<cLine):SeqAt.EqAt A s (.ref b) (.ref a) (qt ys xs):=by
 obtain⟨its,r1,p1,_⟩:=I.tuple ha
 obtain⟨its2,r2,p2,_⟩:=I.tuple hb
 by_cases e:b=a
 ·subst e
  have ei:its2=its:=by
   obtain⟨o,ho,_,n,hd⟩:=id p1
   obtain⟨o2,ho2,_,n2,hd2⟩:=id p2
   rw[ho]at ho2;cases ho2
   rw[hd]at hd2
   injection hd2 with h1 h2
   have:=congrArg Array.toList h1
   simpa using this.symm
  subst ei
  rw[EG r1 r2 f1 f2]
  exact SeqAt.EqAt.same _
 ·refine SeqAt.EqAt.of_refs e ?_
  have q:=SeqAt.RcAt.tuples (A:=A) (e:=Vj ys xs) p2 p1 hu λj h1 h2=>items_eqAt r2 r1 f2 f1 j h1 h2
  rw[aed,aed,←r1.length,←r2.length,uN]at q
  exact q
end
theorem xR:∀{xs:List V}{us:List Value},Vals xs us->∀u∈us,∃x∈xs,RelV x u
 |_,_,.nil=>λu hu=>by cases hu
 |x::xs,v::us,.cons r t=>λu hu=>by
  rcases aeh.mp hu with rfl|hu
  ·exact⟨x,aew ..,r⟩
  ·obtain⟨y,h1,h2⟩:=xR t u hu
   exact⟨y,aer _ h1,h2⟩
section
variable{X:Cx}
end
section
variable{X:Cx}{pins:List (Addr×Obj)}{σ:St}{H:Hp}{s:Shared}{h':Heap}
theorem Inv.NN{t':Nat}{wr:List Addr}(I:Inv X pins σ H s)(k:∀b o,b∉wr->s.heap.get? b=some o->h'.get? b=some o)(hf:∀it∈wr,vz X pins H it):Inv X pins σ H {s with heap:=h',toks:=t'}:=by
 have nit:∀b u,H b=some u->b∉wr:=λb u e z=>by rw[(hf b z).1]at e;cases e
 have hL:X.env.locals∉wr:=λz=>(hf _ z).2.1 rfl
 refine I.step (g':=s.gens) (d':=s.drawn) (ch:=wr) (λb hb=>?_) (λb o _ _ hc e _=>k b o hc e) (λb o _ _ hc e _=>⟨o.slots,k b o hc e⟩) (λ_ _ _ _ n=>n)
  (λb o hc e=>⟨o,k b o hc e⟩) (λ_ _ e=>e) (λ_ _ _ e=>e) (λb ps e=>⟨#[],by rw[e];simp⟩) (λm hm=>?_) (λb u e=>?_) I.bare
 ·obtain⟨f0,f1,f2,f3,f4,f5⟩:=hf b hb
  exact⟨f3,f1,f4,f5⟩
 ·obtain⟨o,es,ep,ho,r⟩:=hm
  exact⟨o,es,ep,k _ o hL ho,r⟩
 ·refine(I.hok b u e).stay (λc v hc q=>k c v ?_ q) (λ_ q=>q) λ_ _ q=>q
  rcases hc with z|z
  ·rw[z];exact nit b u e
  ·exact nit c _ z
end
def hmid(h h2:Heap):Heap:=⟨h.objs++(h2.objs.toList.drop h.objs.size).toArray,h2.life⟩
theorem RQ{h h2:Heap}{a:Addr}(ha:a<h.objs.size):(hmid h h2).get? a=h.get? a:=by
 have e:(hmid h h2).objs[a]?=h.objs[a]?:=Array.getElem?_append_left ha
 unfold Heap.get?
 rw[e]
theorem RS{h h2:Heap}{a:Addr}(ha:h.objs.size<=a):(hmid h h2).get? a=h2.get? a:=by
 have e:(hmid h h2).objs[a]?=h2.objs[a]?:=by
  show(h.objs++(h2.objs.toList.drop h.objs.size).toArray)[a]?=_
  rw[Array.getElem?_append_right ha,List.getElem?_toArray,List.getElem?_drop,Array.getElem?_toList]
  congr 1
  omega
 unfold Heap.get?
 rw[e]
theorem xS{X:Cx}{pins:List (Addr×Obj)}{σ:St}{H:Hp}{s:Shared}{E:Value->Shared->Prop}{it:Addr}{fpW wr fp:List Addr}{n:Nat}{Pt:Nat->Array Value->Prop}{St':Nat->Heap->Prop}{Mid:Nat->Addr->Heap->Prop}{elts:List Expr}{k:Nat}{pos:Pos}{J:It}{tn:Nat->Heap->Prop}{i:Nat}(W:WalksT X.prog X.w X.A it fpW wr n Pt St' Mid)(I:Inv X pins σ H s)(hfp:∀b∈fp,vz X pins H b)(hwr:∀b∈wr,b∈fp)(hsz:∀b∈fp,b<s.heap.objs.size)(hi:i<n)(hst:St' i s.heap)(hv:∀vals,Pt i vals->∃vs:List V,vs.length<=sizeLine/\Vals vs vals.toList/\∀T,H T=none->J.QO i H (.ref T) (upd H T (.tup vs)))(htn:∀h,St' (i+1) h->tn (i+1) h):wpAny 'g' X.A (pyNext (.ref it)) (λr s1=>∃u,r=some u/\wpAny 'g' X.A (letOwnedTupleGo (.Tuple elts k pos) (.ref it) u) (λ_ s2=>∃x H',Inv X pins σ H' s2/\RelV x u/\J.QO i H x H'/\tn (i+1) s2.heap/\∀b∈fp,H' b=none) E s1) E s:=by
 refine W.item i s _ E hi hst λT vals h1 tk hPt hT aci aaS hk=>⟨.ref T,rfl,?_⟩
 have hap:=W.apart i T h1 aaS
 refine W.go elts k pos i T _ _ E aaS λh2 hSt hk2=>?_
 obtain⟨vs,hlen,aaT,hy⟩:=hv vals hPt
 have hTn:H T=none:=I.hok.fresh hT
 obtain⟨o,ho,hoc,m,hod⟩:=aci
 have ho2:h2.get? T=some o:=hk2 T o hap ho
 have I1:Inv X pins σ (upd H T (.tup vs)) {s with heap:=hmid s.heap h2,toks:=tk}:=by
  refine I.laid (λb u e=>(RQ (aei e)).trans e) hT ?_
  refine⟨hlen,vals.toList,aaT,⟨o,(RS hT).trans ho2,hoc,m,?_⟩⟩
  rw[hod]
 have hne:∀b∈fp,b≠T:=λb hb e=>by
  have:=hsz b hb
  rw[e]at this
  exact absurd this (Nat.not_lt.mpr hT)
 have I2:=I1.NN (h':=h2) (t':=tk) (wr:=wr) (λb ob hb e=>?_) (λb hb=>?_)
 ·exact⟨.ref T,_,I2,O,hy T hTn,htn _ hSt,λb hb=>(az (hne b hb)).trans (hfp b hb).1⟩
 ·by_cases hlt:b<s.heap.objs.size
  ·have e:s.heap.get? b=some ob:=(RQ hlt).symm.trans e
   exact hk2 b ob hb (hk b ob hb e)
  ·exact(RS (Nat.le_of_not_lt hlt)).symm.trans e
 ·have f:=hfp b (hwr b hb)
  exact⟨(az (hne b (hwr b hb))).trans f.1,f.2⟩
theorem xT{X:Cx}{pins:List (Addr×Obj)}{σ:St}{H:Hp}{s:Shared}{E:Value->Shared->Prop}{it:Addr}{fpW wr fp:List Addr}{n:Nat}{Pt:Nat->Array Value->Prop}{St':Nat->Heap->Prop}{Mid:Nat->Addr->Heap->Prop}(W:WalksT X.prog X.w X.A it fpW wr n Pt St' Mid)(I:Inv X pins σ H s)(hfp:∀b∈fp,vz X pins H b)(hwr:∀b∈wr,b∈fp)(hst:St' n s.heap):wpAny 'g' X.A (pyNext (.ref it)) (λr s1=>r=none/\Inv X pins σ H s1) E s :=
 W.done s _ E hst λh1 tk hk=>⟨rfl,I.NN (h':=h1) (t':=tk) (wr:=wr) hk λb hb=>hfp b (hwr b hb)⟩
theorem RT(I l1 l2:Nat)(h1:@LT.lt Nat _ l1 I)(h2:@LT.lt Nat _ l2 I):ZipApart (I+4) (I+2) (I+3) I (I+1) l1 l2:=by
 constructor<;>(intro e;have e':=@id (@Eq Nat _ _) e;omega)
def Ite(K:W.Frag)(a:Addr):It :=
 ⟨λi H=>∃xs x,aT K H a xs/\xs[i]?=some x,λi H v H'=>∃t x,H t=none/\v=.ref t/\H'=upd H t (.tup [.int i,x])/\∀xs,aT K H a xs->xs[i]?=some x,λi H=>∃xs,aT K H a xs/\xs.length=i⟩
theorem OH{P:Program}{w:World}{K:W.Frag}{elts:List Expr}{k:Nat}{pos:Pos}{e it l:Addr}(hei:e≠it)(hle:l≠e)(hli:l≠it):Turn P w K (.Tuple elts k pos) (Ite K l) [e,it] e (λi h=>(∃old,IsEnum h e it i old)/\h.IsListIter it l i) where
 mem:=by simp
 obj:=λi h st b hb=>by
  obtain⟨⟨old,he⟩,⟨o1,e1,c1,d1⟩⟩:=st
  simp only[aeh,aeQ,afk]at hb
  rcases hb with rfl|rfl
  ·exact⟨_,he,λv q=>by cases q⟩
  ·exact⟨_,e1,λv q=>by rw[d1]at q;cases q⟩
 keep:=λi h h' st k=>by
  obtain⟨⟨old,he⟩,q1⟩:=st
  exact⟨⟨old,k e (by simp) _ he⟩,q1.at λo x=>k it (by simp) o x⟩
 item:=by
  intro X hP hw hK hc i pins s σ H E I hf st hg
  subst hP hw hK
  obtain⟨xs,x,hx,ex⟩:=hg
  obtain⟨its,rv,p,hz⟩:=I.list hx
  obtain⟨u,hu,ru⟩:=rv.get ex
  obtain⟨s1,s2⟩:=id st
  have W:=WalksT.enumerate (prog:=X.prog) (w:=X.w) (A:=X.A) (I.ok.hd hc) e it l hei hle hli its.toArray
  refine xS (J:=Ite X.K l) (tn:=λi h=>(∃old,IsEnum h e it i old)/\h.IsListIter it l i) W I hf (λb hb=>hb) ?_ ?_ ?_ ?_ ?_
  ·intro b hb
   simp only[aeh,aeQ,afk]at hb
   obtain⟨old,s1⟩:=s1
   obtain⟨o1,e1,_⟩:=s2
   rcases hb with rfl|rfl
   ·exact aei s1
   ·exact aei e1
  ·have h1:=(ad8.mp hu).1
   simpa using h1
  ·exact⟨s1,s2,p.isList⟩
  ·intro vals hp
   obtain⟨t,v1,e1,rfl⟩:=hp
   have e1:its[i]?=some v1:=by simpa using e1
   rw[hu]at e1;cases e1
   exact⟨[.int i,x],(by show 2<=sizeLine;decide),.cons ⟨_,O⟩ (.cons ru .nil),λT hT=>⟨T,x,hT,O,O,λzs hz=>by rw[I.vt hz hx];exact ex⟩⟩
  ·exact λh q=>⟨q.1,q.2.1⟩
 done:=by
  intro X hP hw hK hc i pins s σ H E I hf st hg
  subst hP hw hK
  obtain⟨xs,hx,hlen⟩:=hg
  obtain⟨its,rv,p,hz⟩:=I.list hx
  obtain⟨s1,s2⟩:=id st
  have e':i=its.toArray.size:=by rw[aed,←rv.length,hlen]
  subst e'
  have W:=WalksT.enumerate (prog:=X.prog) (w:=X.w) (A:=X.A) (I.ok.hd hc) e it l hei hle hli its.toArray
  exact xT W I hf (λb hb=>hb) ⟨s1,s2,p.isList⟩
 self:=λ_ _ _ _ _ st h=>by
  obtain⟨⟨old,he⟩,_⟩:=st
  exact wpAny_pyIter_enum he h
def aaU(K:W.Frag)(ta:TA):TI:=λσ H R=>ta σ H λvs H1=>∃a,vs=[.ref a]/\(∃xs,aT K H1 a xs)/\R (Ite K a) H1
theorem RU{X:Cx}{elts:List Expr}{k:Nat}{tpos:Pos}{a:Expr}{ta:TA}{p pos:Pos}(K:W.Frag)(hK:X.K=K)(hg:Gl X "enumerate")(hm:X.mg "enumerate"=none)(ha:PA X [a] ta)(hs:starEach [a] X.env=[(false,eval a X.env)]:=by rfl):PI X (.Tuple elts k tpos) (.Call (.Name "enumerate" p) [a] [] pos) (aaU K ta):=by
 subst hK
 intro pins s σ H R I h
 refine Call_ (qB I hg hm (u:=.type "enumerate") 'b' (afi (cS (ha pos pins s σ H _ I h) λus s1 ⟨vs,H1,I1,r1,q1⟩=>?_) hs rfl))
 obtain⟨l,e,⟨xs,hx⟩,q⟩:=q1
 subst e
 cases r1 with
 |cons r rr =>
  cases rr
  cases r
  obtain⟨its,rv,pl,hz⟩:=I1.list hx
  have hlt:l<s1.heap.objs.size:=by obtain⟨o,ho,_⟩:=pl.isList;exact aei ho
  refine call_enumerate_list pl.isList λh' hE hI hsz hk=>?_
  refine wpAny_pyIter_enum hE ?_
  have I2:Inv X pins σ H1 {s1 with heap:=h'}:=I1.kept (t':=s1.toks) λb o e=>hk b o e
  refine⟨s1.heap.objs.size+1,_,_,_,H1,O,I2,OH (Nat.succ_ne_self _) (aeH (Nat.lt_succ_of_lt hlt)) (aeH hlt),⟨⟨_,hE⟩,hI⟩,λb hb=>?_,q⟩
  have hb':s1.heap.objs.size<=b:=by
   simp only[aeh,aeQ,afk]at hb
   rcases hb with rfl|rfl
   ·exact afq _ _
   ·exact ad6 _
  exact I1.vA hb' (I1.hok.fresh hb')
theorem RV{K:W.Frag}{a:Addr}{xs:List V}{g:TG}{tb:TS}{D:Ends}{σ:St}{H:Hp}(Pv:Nat->St->Hp->Prop)(h0:Pv 0 σ H)(hl:∀i σ H,i<=xs.length->Pv i σ H->aT K H a xs)(hs:∀i x t σ H,xs[i]?=some x->H t=none->Pv i σ H->g (.ref t) σ (upd H t (.tup [.int i,x])) λσ2 H2=>tb {D with nx:=Pv (i+1),ct:=Pv (i+1),bk:=D.nx} σ2 H2)(hd:∀σ H,Pv xs.length σ H->D.nx σ H):∃W:Nat->Nat->St->Hp->Prop,(∃m,W 0 m σ H)/\∀i m σ H,W i m σ H->((Ite K a).stop i H/\D.nx σ H)\/((Ite K a).go i H/\∃N:St->Hp->Prop,(∀σ' H',N σ' H'->∃m',m'<m/\W (i+1) m' σ' H')/\∀x H',(Ite K a).QO i H x H'->g x σ H' λσ2 H2=>tb {D with nx:=N,ct:=N,bk:=D.nx} σ2 H2):=by
 refine⟨λi m σ H=>m=xs.length-i/\i<=xs.length/\Pv i σ H,⟨xs.length,by simp,aeA _,h0⟩,?_⟩
 rintro i m σ H ⟨rfl,hi,p⟩
 have q:=hl i σ H hi p
 by_cases hlt:i<xs.length
 ·refine .inr ⟨⟨xs,xs[i],q,by simp[hlt]⟩,Pv (i+1),λσ' H' p'=>⟨xs.length-(i+1),by omega,rfl,hlt,p'⟩,λv H' y=>?_⟩
  obtain⟨t,x,ht,e1,e2,ex⟩:=y
  subst e1 e2
  exact hs i x t σ _ (ex xs q) ht p
 ·have e:i=xs.length:=by omega
  subst e
  exact .inl ⟨⟨xs,q,rfl⟩,hd σ H p⟩
inductive Yl(K:W.Frag)(xs:List V)(H:Hp)(Q:VK):Prop where
 |mk (p:Addr) (ns:List Nat):(xs=[.ref p])->(aT K H p (ns.map λn:Nat=>V.int n))->(ns.sum<1000000)->(Q (.int (ns.sum:Nat)) H)->Yl K xs H Q
theorem pre_take(ns:List Nat):∀k,k<=ns.length->preSum (λi=>((ns.getD i 0:Nat):Int)) k=((ns.take k).sum:Nat)
 | 0,_=>rfl
 |k+1,h=>by
  show preSum _ k+((ns.getD k 0:Nat):Int)=_
  rw[pre_take ns k 'f']
  have hk:k<ns.length:=by omega
  rw[List.take_succ,aeB hk,afG]
  simp[List.getD,aeB hk]
theorem qJ(ns:List Nat)(k:Nat):(ns.take k).sum<=ns.sum:=by
 have e:=congrArg List.sum (afQ k ns)
 rw[afG]at e
 omega
theorem kg:∀{ns:List Nat}{us:List Value}{i:Nat}{v:Value},Vals (ns.map λn:Nat=>V.int n) us->us[i]?=some v->∃t,v=.int (ns.getD i 0:Nat) t
 |[],_,i,v,r,e=>by cases r;simp at e
 |n::ns,_,0,v,r,e=>by
  cases r with
  |cons r1 r2 =>
   simp at e
   subst e
   obtain⟨t,e⟩:=r1
   exact⟨t,by simpa using e⟩
 |n::ns,_,i+1,v,r,e=>by
  cases r with
  |cons r1 r2 =>
   obtain⟨t,e2⟩:=kg r2 (i:=i) (v:=v) (by simpa using e)
   exact⟨t,by simpa using e2⟩
theorem OI{X:Cx}(hc:X.calm=true):eZ X (.builtin "sum") (Yl X.K):=by
 intro pins s σ H xs us Q I r h
 obtain⟨p,ns,rfl,hq,hs,q⟩:=h
 obtain⟨u,rfl,ru⟩:=vals1 r
 cases ru
 obtain⟨its,rv,pl,hz⟩:=I.list hq
 have hlen:=rv.length
 rw[aec]at hlen
 have hpl:p<s.heap.objs.size:=by obtain⟨o,ho,_⟩:=pl.isList;exact aei ho
 refine call_sum_walk (afK pl.isList ⟨s.heap.objs.size,_,_,_,_,_,λi=>((ns.getD i 0:Nat):Int),rfl,Walks.list (A:=X.A.in1) (show X.A.in1.handled=none from I.ok.hd hc) s.heap.objs.size p (aeH hpl) its.toArray,⟨⟨_,ael _ rfl,rfl,rfl⟩,pl.isList.at λo e=>ad9 _ e⟩,?_,?_,?_,?_⟩)
 ·intro b hb
  have e:b=s.heap.objs.size\/b=p:=by simpa using hb
  show b<(s.heap.push _).objs.size
  rw[ae3]
  rcases e with rfl|rfl
  ·exact afX _
  ·exact Nat.lt_succ_of_lt hpl
 ·intro i v hv
  exact kg rv (by simpa using hv)
 ·intro j hj
  have hj':j<ns.length:=by rw[hlen];simpa using hj
  have h1:=qJ ns (j+1)
  have h2:ns.getD j 0<=ns.sum:=by
   have:=qJ ns (j+1)
   rw[List.take_succ,aeB hj',afG]at this
   simp[List.getD,aeB hj']at this⊢
   omega
  rw[pre_take ns (j+1) 'f']
  show InLong ((ns.getD j 0:Nat):Int)/\_
  constructor<;>(unfold InLong;constructor<;>omega)
 ·intro h' tk t' hk
  have f0:=I.vA (ad6 s.heap.objs.size) (I.hok.fresh (ad6 _))
  have I2:Inv X pins σ H {s with heap:=s.heap.push {cls:=.type "list_iterator",data:=.fields #[.ref p,rawInt 0]}}:=I.kept (t':=s.toks) λb o e=>ad9 _ e
  have I3:=I2.turned (h':=h') (t':=tk) (it:=s.heap.objs.size) (λb o hb e=>hk b o (by simpa using hb) e) f0.1 f0.2.1 f0.2.2.2.1 f0.2.2.2.2.1 f0.2.2.2.2.2
  refine⟨.int (ns.sum:Nat),H,I3,⟨t',?_⟩,q⟩
  rw[aed,←hlen,pre_take ns _ (ad6 _),aek (ad6 _)]
theorem EH{X:Cx}(K:W.Frag)(h:X.K=K)(hc:X.calm=true):eZ X (.builtin "sum") (Yl K):=by subst h;exact OI hc
theorem BC{y:V}:∀{xs:List V}{us:List Value},Vals xs us->xs.all eg=true->us.countP (eqU y)=xs.countP (λz=>Bd z y)
 |_,_,.nil,_=>rfl
 |x::xs,u::us,.cons r t,f=>by
  rw[List.all_cons,ae7]at f
  rw[List.countP_cons,List.countP_cons,BC t f.2,Gk r f.1]
section
variable{X:Cx}
inductive Gp(K:W.Frag)(x:V)(vs:List V)(H:Hp)(Q:VK):Prop where
 |mk (p:Addr) (xs:List V) (y:V):(x=.ref p)->(vs=[y])->(aT K H p xs)->(eg y=true)->(xs.all eg=true)->(Q (.int (xs.countP λz=>Bd z y:Nat)) H)->Gp K x vs H Q
theorem OJ:X5 X "list.count" (Gp X.K):=by
 intro pins s σ H x vs v us Q I rx rv h
 obtain⟨p,xs,y,rfl,rfl,hq,fy,fs,q⟩:=h
 cases rx
 obtain⟨u,rfl,ru⟩:=rv.one
 obtain⟨its,r,pl,_⟩:=I.list hq
 obtain⟨⟨cls,dd,data,sl⟩,ho,hc,n,hd⟩:=pl.isList
 simp only at hc hd
 subst hc hd
 refine call_meets F.slot_list_count ⟨_,ho,rfl⟩ F.entry_list_count (F.args_list_count_2 _ _) (SeqAt.list_countAt p its.toArray n dd sl u (eqU y)) ⟨ho,λw hw=>Iq ru fy r fs w (by simpa using hw),?_⟩
 refine⟨.int _,H,I.tok _,⟨_,O⟩,?_⟩
 rw[show its.toArray.toList=its from rfl,BC r fs]
 exact q
theorem Li(K:W.Frag)(h:X.K=K):X5 X "list.count" (Gp K):=by subst h;exact OJ
theorem kF.orR{f:Value->Value->Sem Value}{r r':R2}(h:kF X f r)(h':kF X f r'):kF X f (λx y H Q=>r x y H Q\/r' x y H Q):=by
 intro pins s σ H x y v u Q I rx ry q
 rcases q with q|q
 ·exact h pins s σ H x y v u Q I rx ry q
 ·exact h' pins s σ H x y v u Q I rx ry q
end
def isIn(K:W.Frag)(H:Hp)(ws xs:List V):Prop:=∃w∈ws,∃b ys,w=V.ref b/\aX K H b ys/\qt ys xs=true
inductive aaV(K:W.Frag)(neg:Bool)(x:V)(y:V)(H:Hp)(Q:VK):Prop where
 |mk a p xs ws:(x=.ref a)->(y=.ref p)->(aX K H a xs)->(xs.all eg=true)->(aT K H p ws)->((∀w∈ws,∃b ys,w=V.ref b/\aX K H b ys/\ys.all eg=true))->(∀r:Bool,(r=true↔isIn K H ws xs)->Q (.bl (if neg then !r else r)) H)->aaV K neg x y H Q
theorem Iv:∀{xs:List V}{us:List Value},Vals xs us->∀x∈xs,∃u∈us,RelV x u
 |_,_,.nil=>λx hx=>by cases hx
 |y::xs,v::us,.cons r t=>λx hx=>by
  rcases aeh.mp hx with rfl|hx
  ·exact⟨v,aew ..,r⟩
  ·obtain⟨u,h1,h2⟩:=Iv t x hx
   exact⟨u,aer _ h1,h2⟩
section
variable{X:Cx}
theorem Vk{pins:List (Addr×Obj)}{σ:St}{H:Hp}{s:Shared}(I:Inv X pins σ H s){a p:Addr}{xs ws:List V}{its:List Value}(ha:aX X.K H a xs)(fa:xs.all eg=true)(r:Vals ws its)(hw:∀w∈ws,∃b ys,w=V.ref b/\aX X.K H b ys/\ys.all eg=true)(hu:X.A.units+64<cLine):∃e:Value->Bool,(∀v∈its,SeqAt.EqAt X.A.in1 s v (.ref a) (e v))/\(its.any e=true↔isIn X.K H ws xs):=by
 refine⟨λv=>@decide (∃b ys,v=Value.ref b/\aX X.K H b ys/\qt ys xs=true) (Classical.propDecidable _),λv hv=>?_,?_⟩
 ·obtain⟨y,hy,ry⟩:=xR r v hv
  obtain⟨b,ys,rfl,hb,fb⟩:=hw y hy
  cases ry
  have q:=RP (A:=X.A.in1) I ha hb fa fb (show X.A.units+1<cLine by omega)
  cases he:qt ys xs with
  |true =>
   rw[he]at q
   have e:@decide (∃b' ys',Value.ref b=Value.ref b'/\aX X.K H b' ys'/\qt ys' xs=true) (Classical.propDecidable _)=true:=@decide_eq_true _ (Classical.propDecidable _) ⟨b,ys,rfl,hb,he⟩
   dsimp only
   rw[e];exact q
  |false =>
   rw[he]at q
   have e:@decide (∃b' ys',Value.ref b=Value.ref b'/\aX X.K H b' ys'/\qt ys' xs=true) (Classical.propDecidable _)=false:=@decide_eq_false _ (Classical.propDecidable _) (by
    rintro⟨b',ys',e1,e2,e3⟩
    cases e1
    rw[I.xN hb e2]at he
    rw[he]at e3;cases e3)
   dsimp only
   rw[e];exact q
 ·rw[afO]
  constructor
  ·rintro⟨v,hv,e⟩
   obtain⟨b,ys,rfl,hb,he⟩:=@of_decide_eq_true _ (Classical.propDecidable _) e
   obtain⟨y,hy,ry⟩:=xR r _ hv
   obtain⟨b',ys',rfl,hb',_⟩:=hw y hy
   cases ry
   exact⟨_,hy,_,ys,O,hb,he⟩
  ·rintro⟨w,hwm,b,ys,rfl,hb,he⟩
   obtain⟨u,hu2,ru⟩:=Iv r _ hwm
   cases ru
   exact⟨_,hu2,@decide_eq_true _ (Classical.propDecidable _) ⟨b,ys,O,hb,he⟩⟩
theorem Ym(K:W.Frag)(hK:X.K=K)(hu:X.A.units+64<cLine):kF X (compareOp .In) (aaV K false):=by
 subst hK
 intro pins s σ H x y v u Q I rx ry h
 obtain⟨a,p,xs,ws,rfl,rfl,ha,fa,hp,hw,q⟩:=h
 cases rx;cases ry
 obtain⟨its,r,pl,hz⟩:=I.list hp
 obtain⟨e,h1,h2⟩:=Vk (p:=p) I ha fa r hw hu
 refine SeqAt.in_listAt e pl.isList (λw hwm=>h1 w (by simpa using hwm)) ⟨.bl _,H,I,rfl,?_⟩
 exact q (its.toArray.any e) (by rw[show its.toArray.any e=its.any e by simp];exact h2)
end
section
variable{prog:Program}{w:World}{A:Around}{E:Value->Shared->Prop}{s:Shared}
theorem Vl{z TI TO i1 i2 l:Addr}{n1 n2 k:Nat}{P1 P2:Nat->Value->Prop}{S1 S2:Nat->Heap->Prop}{a b:Value}{Q:Value->Shared->Prop}(D:ZipApart z TI TO i1 i2 l l)(G1:Draws prog w A i1 [i1] n1 P1 S1)(G2:Draws prog w A i2 [i2,l] n2 P2 S2)(hz:IsZip s.heap z TI TO .none)(hTI:IsPair s.heap TI (.ref i1) (.ref i2))(hTO:IsPair s.heap TO a b)(g1:S1 k s.heap)(g2:S2 k s.heap)(k1:k<n1)(k2:k<n2)(hQ:∀h' tk x y,P1 k x->P2 k y->IsZip h' z TI TO (rawInt s.heap.objs.size)->IsPair h' TO x y->S1 (k+1) h'->S2 (k+1) h'->IsPair h' s.heap.objs.size x y->(∀c o,c≠z->c≠TO->c≠i1->c≠i2->s.heap.get? c=some o->h'.get? c=some o)->Q (.ref s.heap.objs.size) {s with heap:=h',toks:=tk}):wpAny (model prog w) A (Builtin.«zip.__next__» ⟨[.ref z],[]⟩) (λfin s'=>∃v,fin=.done (.ret v)/\Q v s') E s:=by
 have e1:∀{i:Nat}{h h':Heap}{c:Addr},Heap.SameBut c h h'->i1≠c->S1 i h->S1 i h':=λhs hn g=>G1.frame _ _ _ g λb hb o e=>by
  rw[ad7.mp hb]at e⊢;exact hs.extBut _ _ hn e
 have e2:∀{i:Nat}{h h':Heap}{c:Addr},Heap.SameBut c h h'->i2≠c->l≠c->S2 i h->S2 i h':=λhs hn hl g=>G2.frame _ _ _ g λb hb o e=>by
  rcases aeh.mp hb with q|q
  ·rw[q]at e⊢;exact hs.extBut _ _ hn e
  ·rw[ad7.mp q]at e⊢;exact hs.extBut _ _ hl e
 show wpAny _ _ (field (.ref z) 2 >>= _) _ _ _
 refine ad4 (aeK hz rfl (x:=.bool false) rfl ?_)
 show wpAny _ _ (field (.ref z) 3 >>= _) _ _ _
 refine ad4 (aeK hz rfl (x:=.ref TI) rfl (ad4 (aeW hTI rfl ?_)))
 show wpAny _ _ (Builtin.SmallTypes.ownedTupleIsFree (.ref z) >>= _) _ _ _
 refine ad4 ?_
 unfold Builtin.SmallTypes.ownedTupleIsFree
 refine ad4 (aeK hz rfl (x:=.none) rfl (aea ?_))
 simp only[afW]
 refine ad4 (wpAny_rule (ad4 (aeK hz rfl (x:=.ref TO) rfl (ad4 (aeY hz (by simp) λA1 z1 q1=>?_)))))
 replace z1:IsZip A1 z TI TO .ellipsis:=z1
 refine ad4 ?_
 simp only[List.zipIdx_cons,List.zipIdx_nil,List.forIn_cons,List.forIn_nil]
 refine ad4 (ad4 (afS ?_))
 show wpAny _ _ (Builtin.SmallTypes.nextOf (.ref i1) >>= _) _ _ _
 refine ad4 (G1.item k _ _ _ k1 (e1 q1 D.i1z g1) λx A2 tk px g1' q2=>aea ?_)
 have o2:IsPair A2 TO a b:=q2.extBut _ _ D.TOi1 (q1.extBut _ _ D.TOz hTO)
 refine ad4 (aeW o2 rfl (ad4 (afH o2 λA3 o3 q3=>?_)))
 replace o3:IsPair A3 TO x b:=o3
 refine ad4 (wpAny_letGo (aea (ad4 (ad4 (afS ?_)))))
 show wpAny _ _ (Builtin.SmallTypes.nextOf (.ref i2) >>= _) _ _ _
 refine ad4 (G2.item k _ _ _ k2 (e2 q3 D.TOi2.symm D.l2TO (e2 q2 D.i12.symm D.l2i1 (e2 q1 D.i2z D.l2z g2))) λy A4 tk2 py g2' q4=>aea ?_)
 have o4:IsPair A4 TO x b:=q4.extBut _ _ D.TOi2 o3
 refine ad4 (aeW o4 rfl (ad4 (afH o4 λA5 o5 q5=>?_)))
 replace o5:IsPair A5 TO x y:=o5
 refine ad4 (wpAny_letGo (aea (aea (ad4 (aeW o5 rfl (ad4 (wpAny_newTuple ?_)))))))
 have sz:A5.objs.size=s.heap.objs.size:=by rw[q5.1,q4.1,q3.1,q2.1,q1.1]
 have z5:IsZip A5 z TI TO .ellipsis:=q5.extBut _ _ D.TOz.symm (q4.extBut _ _ D.i2z.symm (q3.extBut _ _ D.TOz.symm (q2.extBut _ _ D.i1z.symm z1)))
 have w1:S1 (k+1) A5:=e1 q5 D.TOi1.symm (e1 q4 D.i12 (e1 q3 D.TOi1.symm g1'))
 have w2:S2 (k+1) A5:=e2 q5 D.TOi2.symm D.l2TO g2'
 have kp:∀c o,c≠z->c≠TO->c≠i1->c≠i2->s.heap.get? c=some o->A5.get? c=some o:=λc o c1 c2 c3 c4 e=>q5.extBut _ _ c2 (q4.extBut _ _ c4 (q3.extBut _ _ c2 (q2.extBut _ _ c3 (q1.extBut _ _ c1 e))))
 have lz:z<A5.objs.size:=aei z5
 have z6:IsZip (A5.push {cls:=.type "tuple",data:=.seq #[x,y]}) z TI TO .ellipsis:=ad9 _ z5
 show wpAny _ _ (Builtin.SmallTypes.ownedTupleHandOut (.ref z) (.ref A5.objs.size) >>= _) _ _ _
 refine ad4 ?_
 unfold Builtin.SmallTypes.ownedTupleHandOut
 refine ad4 (aeY z6 (by simp) λA7 z7 q7=>?_)
 replace z7:IsZip A7 z TI TO (rawInt A5.objs.size):=z7
 refine aeY z7 (by simp) λA8 z8 q8=>?_
 replace z8:IsZip A8 z TI TO (rawInt A5.objs.size):=z8
 have up:∀c o,c≠z->A5.get? c=some o->A8.get? c=some o:=λc o c1 e=>q8.extBut _ _ c1 (q7.extBut _ _ c1 (ad9 _ e))
 have t8:IsPair A8 A5.objs.size x y:=q8.extBut _ _ (afF lz) (q7.extBut _ _ (afF lz) (ael _ rfl))
 have v1:S1 (k+1) A8:=G1.frame _ _ _ w1 λb hb o e=>by
  rw[ad7.mp hb]at e⊢;exact up _ o D.i1z e
 have v2:S2 (k+1) A8:=G2.frame _ _ _ w2 λb hb o e=>by
  rcases aeh.mp hb with q|q
  ·rw[q]at e⊢;exact up _ o D.i2z e
  ·rw[ad7.mp q]at e⊢;exact up _ o D.l2z e
 rw[sz]at z8 t8
 refine aea ⟨_,rfl,?_⟩
 show Q (.ref A5.objs.size) _
 rw[sz]
 exact hQ A8 _ x y px py z8 (up _ _ D.TOz o5) v1 v2 t8 λc o c1 c2 c3 c4 e=>up c o c1 (kp c o c1 c2 c3 c4 e)
theorem Yn{z TI TO i1 i2 l:Addr}{n1 n2 k:Nat}{P1 P2:Nat->Value->Prop}{S1 S2:Nat->Heap->Prop}{a b:Value}{Q:Fin->Shared->Prop}(D:ZipApart z TI TO i1 i2 l l)(G1:Draws prog w A i1 [i1] n1 P1 S1)(G2:Draws prog w A i2 [i2,l] n2 P2 S2)(hz:IsZip s.heap z TI TO .none)(hTI:IsPair s.heap TI (.ref i1) (.ref i2))(hTO:IsPair s.heap TO a b)(g1:S1 k s.heap)(g2:S2 k s.heap)(hk:k=n1\/(k<n1/\k=n2))(hE:∀h' tk e,(∀c o,c≠z->c≠TO->c≠i1->c≠i2->s.heap.get? c=some o->h'.get? c=some o)->(∃o,h'.get? e=some o/\o.cls=.type "StopIteration")->E (.ref e) {s with heap:=h',toks:=tk}):wpAny (model prog w) A (Builtin.«zip.__next__» ⟨[.ref z],[]⟩) Q E s:=by
 have e1:∀{i:Nat}{h h':Heap}{c:Addr},Heap.SameBut c h h'->i1≠c->S1 i h->S1 i h':=λhs hn g=>G1.frame _ _ _ g λb hb o e=>by
  rw[ad7.mp hb]at e⊢;exact hs.extBut _ _ hn e
 have e2:∀{i:Nat}{h h':Heap}{c:Addr},Heap.SameBut c h h'->i2≠c->l≠c->S2 i h->S2 i h':=λhs hn hl g=>G2.frame _ _ _ g λb hb o e=>by
  rcases aeh.mp hb with q|q
  ·rw[q]at e⊢;exact hs.extBut _ _ hn e
  ·rw[ad7.mp q]at e⊢;exact hs.extBut _ _ hl e
 show wpAny _ _ (field (.ref z) 2 >>= _) _ _ _
 refine ad4 (aeK hz rfl (x:=.bool false) rfl ?_)
 show wpAny _ _ (field (.ref z) 3 >>= _) _ _ _
 refine ad4 (aeK hz rfl (x:=.ref TI) rfl (ad4 (aeW hTI rfl ?_)))
 show wpAny _ _ (Builtin.SmallTypes.ownedTupleIsFree (.ref z) >>= _) _ _ _
 refine ad4 ?_
 unfold Builtin.SmallTypes.ownedTupleIsFree
 refine ad4 (aeK hz rfl (x:=.none) rfl (aea ?_))
 simp only[afW]
 refine ad4 (wpAny_rule (ad4 (aeK hz rfl (x:=.ref TO) rfl (ad4 (aeY hz (by simp) λA1 z1 q1=>?_)))))
 replace z1:IsZip A1 z TI TO .ellipsis:=z1
 refine ad4 ?_
 simp only[List.zipIdx_cons,List.zipIdx_nil,List.forIn_cons,List.forIn_nil]
 refine ad4 (ad4 (afS ?_))
 show wpAny _ _ (Builtin.SmallTypes.nextOf (.ref i1) >>= _) _ _ _
 rcases hk with rfl|⟨k1,rfl⟩
 ·refine ad4 (G1.done _ _ _ (e1 q1 D.i1z g1) λA2 e q2 he=>?_)
  obtain⟨oe,Lj,hce⟩:=he
  have z2:IsZip A2 z TI TO .ellipsis:=q2 _ _ D.i1z.symm z1
  have ez:e≠z:=λq=>by rw[q,z2]at Lj;cases Lj;exact absurd (show Value.type "zip"=Value.type "StopIteration" from hce) 'c'
  exact aeY z2 (by simp) λA3 _ q3=>hE A3 _ e (λc o c1 _ c3 _ p=>q3.extBut _ _ c1 (q2 _ _ c3 (q1.extBut _ _ c1 p))) ⟨oe,q3.extBut _ _ ez Lj,hce⟩
 ·refine ad4 (G1.item k _ _ _ k1 (e1 q1 D.i1z g1) λx A2 tk px g1' q2=>aea ?_)
  have o2:IsPair A2 TO a b:=q2.extBut _ _ D.TOi1 (q1.extBut _ _ D.TOz hTO)
  refine ad4 (aeW o2 rfl (ad4 (afH o2 λA3 o3 q3=>?_)))
  refine ad4 (wpAny_letGo (aea (ad4 (ad4 (afS ?_)))))
  show wpAny _ _ (Builtin.SmallTypes.nextOf (.ref i2) >>= _) _ _ _
  refine ad4 (G2.done _ _ _ (e2 q3 D.TOi2.symm D.l2TO (e2 q2 D.i12.symm D.l2i1 (e2 q1 D.i2z D.l2z g2))) λA4 e q4 he=>?_)
  obtain⟨oe,Lj,hce⟩:=he
  have z4:IsZip A4 z TI TO .ellipsis:=q4 _ _ D.i2z.symm (q3.extBut _ _ D.TOz.symm (q2.extBut _ _ D.i1z.symm z1))
  have ez:e≠z:=λq=>by rw[q,z4]at Lj;cases Lj;exact absurd (show Value.type "zip"=Value.type "StopIteration" from hce) 'c'
  exact aeY z4 (by simp) λA5 _ q5=>hE A5 _ e (λc o c1 c2 c3 c4 p=>q5.extBut _ _ c1 (q4 _ _ c4 (q3.extBut _ _ c2 (q2.extBut _ _ c3 (q1.extBut _ _ c1 p))))) ⟨oe,q5.extBut _ _ ez Lj,hce⟩
def Af(h:Heap)(it:Addr)(x:Str)(t:Tok)(i:Nat):Prop:=h.IsStrIter it "str_ascii_iterator" x t i\/h.IsStrIter it "str_iterator" x t i
theorem Iw(hh:A.handled=none)(it:Addr)(x:Str)(t:Tok):Draws prog w A it [it] x.cps.size (λi v=>∃c u,x.cps[i]?=some c/\v=.str ⟨#[c]⟩ u) (λi h=>Af h it x t i) where
 live:=λi h st=>by
  rcases st with st|st
  ·exact(Draws.strAscii (prog:=prog) (w:=w) hh it x t).live i h st
  ·exact(Draws.strWide (prog:=prog) (w:=w) hh it x t).live i h st
 frame:=λi h h' st hk=>by
  rcases st with st|st
  ·exact .inl ((Draws.strAscii (prog:=prog) (w:=w) hh it x t).frame i h h' st hk)
  ·exact .inr ((Draws.strWide (prog:=prog) (w:=w) hh it x t).frame i h h' st hk)
 item:=λi s Q E hi st hQ=>by
  rcases st with st|st
  ·exact(Draws.strAscii (prog:=prog) (w:=w) hh it x t).item i s Q E hi st λv h' tk p q r=>hQ v h' tk p (.inl q) r
  ·exact(Draws.strWide (prog:=prog) (w:=w) hh it x t).item i s Q E hi st λv h' tk p q r=>hQ v h' tk p (.inr q) r
 done:=λs Q E st hE=>by
  rcases st with st|st
  ·exact(Draws.strAscii (prog:=prog) (w:=w) hh it x t).done s Q E st hE
  ·exact(Draws.strWide (prog:=prog) (w:=w) hh it x t).done s Q E st hE
theorem RW{h h':Heap}{it:Addr}{x:Str}{t:Tok}{i:Nat}(q:Af h it x t i)(e:∀o,h.get? it=some o->h'.get? it=some o):Af h' it x t i:=by
 rcases q with ⟨o,ho,r⟩|⟨o,ho,r⟩
 ·exact .inl ⟨o,e _ ho,r⟩
 ·exact .inr ⟨o,e _ ho,r⟩
theorem Lk{h:Heap}{it:Addr}{x:Str}{t:Tok}{i:Nat}(q:Af h it x t i):∃o,h.get? it=some o/\∃vs,o.data=.fields vs:=by
 rcases q with ⟨o,ho,_,r⟩|⟨o,ho,_,r⟩
 ·exact⟨o,ho,_,r⟩
 ·exact⟨o,ho,_,r⟩
theorem Iz(hh:A.handled=none)(z TI TO i1 i2 l:Addr)(D:ZipApart z TI TO i1 i2 l l)(x:Str)(t:Tok)(ys:Array Value):WalksT prog w A z [z,TI,TO,i1,i2,l] [z,TO,i1,i2] (min x.cps.size ys.size)
   (λi vals=>∃c u y,x.cps[i]?=some c/\ys[i]?=some y/\vals = #[.str ⟨#[c]⟩ u,y])
   (λi h=>IsZip h z TI TO .none/\IsPair h TI (.ref i1) (.ref i2)/\(∃a b,IsPair h TO a b)/\Af h i1 x t i/\h.IsListIter i2 l i/\h.IsList l ys)
   (λi T h=>IsZip h z TI TO (rawInt T)/\IsPair h TI (.ref i1) (.ref i2)/\(∃a b,IsPair h TO a b)/\Af h i1 x t (i+1)/\h.IsListIter i2 l (i+1)/\h.IsList l ys/\T≠z/\T≠TO/\T≠i1/\T≠i2) where
 sub:=λc hc=>by
  simp only[aeh,aeQ,afk]at hc⊢
  rcases hc with q|q|q|q<;>simp[q]
 frame:=λi h h' st hk=>by
  obtain⟨p1,p2,⟨a,b,p3⟩,p4,p5,p6⟩:=st
  exact⟨hk z (by simp) _ p1,hk TI (by simp) _ p2,⟨a,b,hk TO (by simp) _ p3⟩,RW p4 λo e=>hk i1 (by simp) o e,p5.at λo e=>hk i2 (by simp) o e,p6.at λo e=>hk l (by simp) o e⟩
 item:=λi s Q E hi st hQ=>by
  obtain⟨p1,p2,⟨a,b,p3⟩,p4,p5,p6⟩:=st
  have hT:s.TypeIs (.ref z) "zip":=⟨_,p1,rfl⟩
  unfold pyNext
  refine ad4 (wpAny_attempt (aeU (name:=("__next__":Str)) hT afI (ae6 afI hT F.entry_zip_next ?_ (F.args_zip_next_1 _))))
  refine Vl (S1:=λi h=>Af h i1 x t i) (S2:=λi h=>h.IsListIter i2 l i/\h.IsList l ys) D (Iw (A:=A.in1) hh i1 x t) (Draws.list (A:=A.in1) hh i2 l D.l2i2 ys) p1 p2 p3 p4 ⟨p5,p6⟩ (aeu hi (Nat.min_le_left ..)) (aeu hi (Nat.min_le_right ..)) λh' tk u y pu py r1 r2 r3 r4 r5 kp=>?_
  obtain⟨c,tu,hc,rfl⟩:=pu
  have lt:∀{c o},s.heap.get? c=some o->s.heap.objs.size≠c:=λe=>afF (aei e)
  refine aea (hQ s.heap.objs.size #[.str ⟨#[c]⟩ tu,y] h' tk ⟨c,tu,y,hc,py,rfl⟩ (ad6 _) ⟨_,r5,rfl,_,rfl⟩ ⟨r1,kp _ _ D.TIz D.TITO D.TIi1 D.TIi2 p2,⟨_,_,r2⟩,r3,r4.1,r4.2,lt p1,lt p3,?_,?_⟩ λc o hc e=>kp c o (λq=>hc (by simp[q])) (λq=>hc (by simp[q])) (λq=>hc (by simp[q])) (λq=>hc (by simp[q])) e)
  ·obtain⟨o,ho,_⟩:=Lk p4;exact lt ho
  ·obtain⟨o,ho,_⟩:=p5;exact lt ho
 go:=λelts k pos i T s Q E hm hQ=>by
  obtain⟨p1,p2,⟨a,b,p3⟩,p4,p5,p6,_⟩:=hm
  refine wpAny_letOwnedTupleGo_zip p1 λh' z' q=>hQ h' ⟨z',q.extBut _ _ D.TIz p2,⟨a,b,q.extBut _ _ D.TOz p3⟩,RW p4 λo e=>q.extBut _ _ D.i1z e,p5.extBut q.extBut D.i2z,p6.extBut q.extBut D.l2z⟩ λc o hc e=>q.extBut _ _ (λy=>hc (by simp[y])) e
 apart:=λi T h hm hT=>by
  obtain⟨_,_,_,_,_,_,t1,t2,t3,t4⟩:=hm
  simp only[aeh,aeQ,afk]at hT
  rcases hT with q|q|q|q
  ·exact t1 q
  ·exact t2 q
  ·exact t3 q
  ·exact t4 q
 done:=λs Q E st hQ=>by
  obtain⟨p1,p2,⟨a,b,p3⟩,p4,p5,p6⟩:=st
  have hT:s.TypeIs (.ref z) "zip":=⟨_,p1,rfl⟩
  unfold pyNext
  refine ad4 (wpAny_attempt (aeU (name:=("__next__":Str)) hT afI (ae6 afI hT F.entry_zip_next ?_ (F.args_zip_next_1 _))))
  refine Yn (S1:=λi h=>Af h i1 x t i) (S2:=λi h=>h.IsListIter i2 l i/\h.IsList l ys) D (Iw (A:=A.in1) hh i1 x t) (Draws.list (A:=A.in1) hh i2 l D.l2i2 ys) p1 p2 p3 p4 ⟨p5,p6⟩ ?_ λh' tk e kp he=>?_
  ·by_cases q:x.cps.size<=ys.size
   ·exact .inl (Nat.min_eq_left q)
   ·exact .inr ⟨by omega,Nat.min_eq_right 'f'⟩
  ·obtain⟨o,ho,hc⟩:=he
   refine ad4 (wpAny_isInstance (T:="StopIteration") (b:=true) ⟨o,ho,hc⟩ isSubtype_stop (aea (hQ _ _ λc o hc e=>kp c o (λq=>hc (by simp[q])) (λq=>hc (by simp[q])) (λq=>hc (by simp[q])) (λq=>hc (by simp[q])) e)))
 self:=λi s Q E st hQ=>wpAny_pyIter_zip st.1 hQ
end
def OL(K:W.Frag)(z:Str)(b:Addr):It :=
 ⟨λi H=>∃ys c y,aT K H b ys/\z.cps[i]?=some c/\ys[i]?=some y,λi H v H'=>∃t c y,H t=none/\v=.ref t/\H'=upd H t (.tup [.str (sg c),y])/\z.cps[i]?=some c/\(∀ys,aT K H b ys->ys[i]?=some y),λi H=>∃ys,aT K H b ys/\min z.cps.size ys.length=i⟩
theorem OM{P:Program}{w:World}{K:W.Frag}{elts:List Expr}{k:Nat}{pos:Pos}{z TI TO i1 i2 l:Addr}{x:Str}{t:Tok}(D:ZipApart z TI TO i1 i2 l l):Turn P w K (.Tuple elts k pos) (OL K x l) [z,TI,TO,i1,i2] z (λi h=>IsZip h z TI TO .none/\IsPair h TI (.ref i1) (.ref i2)/\(∃a b,IsPair h TO a b)/\Af h i1 x t i/\h.IsListIter i2 l i) where
 mem:=by simp
 obj:=λi h st b hb=>by
  obtain⟨p1,p2,⟨a,c,p3⟩,p4,⟨o2,e2,c2,d2⟩⟩:=st
  simp only[aeh,aeQ,afk]at hb
  rcases hb with rfl|rfl|rfl|rfl|rfl
  ·exact⟨_,p1,λv q=>by cases q⟩
  ·exact⟨_,p2,λv q=>by cases q⟩
  ·exact⟨_,p3,λv q=>by cases q⟩
  ·obtain⟨o,ho,vs,hv⟩:=Lk p4;exact⟨o,ho,λv q=>by rw[hv]at q;cases q⟩
  ·exact⟨_,e2,λv q=>by rw[d2]at q;cases q⟩
 keep:=λi h h' st k=>by
  obtain⟨p1,p2,⟨a,c,p3⟩,p4,p5⟩:=st
  exact⟨k z (by simp) _ p1,k TI (by simp) _ p2,⟨a,c,k TO (by simp) _ p3⟩,RW p4 λo e=>k i1 (by simp) o e,p5.at λo e=>k i2 (by simp) o e⟩
 item:=by
  intro X hP hw hK hc i pins s σ H E I hf st hg
  subst hP hw hK
  obtain⟨ys,c,y,hy,ec,ey⟩:=hg
  obtain⟨its,rv,p,hz⟩:=I.list hy
  obtain⟨u,hu,ru⟩:=rv.get ey
  obtain⟨p1,p2,p3,p4,p5⟩:=id st
  have W:=Iz (prog:=X.prog) (w:=X.w) (A:=X.A) (I.ok.hd hc) z TI TO i1 i2 l D x t its.toArray
  have hsub:∀b∈[z,TO,i1,i2],b∈[z,TI,TO,i1,i2]:=by
   intro b hb
   simp only[aeh,aeQ,afk]at hb⊢
   rcases hb with q|q|q|q<;>simp[q]
  refine xS (J:=OL X.K x l) (tn:=λi h=>IsZip h z TI TO .none/\IsPair h TI (.ref i1) (.ref i2)/\(∃a b,IsPair h TO a b)/\Af h i1 x t i/\h.IsListIter i2 l i) W I hf hsub ?_ ?_ ?_ ?_ ?_
  ·intro b hb
   obtain⟨a',b',p3⟩:=p3
   obtain⟨o1,e1,_⟩:=Lk p4
   obtain⟨o2,e2,_⟩:=p5
   simp only[aeh,aeQ,afk]at hb
   rcases hb with rfl|rfl|rfl|rfl|rfl
   ·exact aei p1
   ·exact aei p2
   ·exact aei p3
   ·exact aei e1
   ·exact aei e2
  ·have h1:=(afb.mp ec).1
   have h2:=(ad8.mp hu).1
   simp only[aed]
   omega
  ·exact⟨p1,p2,p3,p4,p5,p.isList⟩
  ·rintro vals ⟨c',tu,v2,q1,q2,rfl⟩
   rw[ec]at q1;cases q1
   have q2:its[i]?=some v2:=by simpa using q2
   rw[hu]at q2;cases q2
   exact⟨[.str (sg c),y],(by show 2<=sizeLine;decide),.cons ⟨tu,O⟩ (.cons ru .nil),λT hT=>⟨T,c,y,hT,O,O,ec,λzs hz=>by rw[I.vt hz hy];exact ey⟩⟩
  ·exact λh q=>⟨q.1,q.2.1,q.2.2.1,q.2.2.2.1,q.2.2.2.2.1⟩
 done:=by
  intro X hP hw hK hc i pins s σ H E I hf st hg
  subst hP hw hK
  obtain⟨ys,hy,hmin⟩:=hg
  obtain⟨its,rv,p,hz⟩:=I.list hy
  obtain⟨p1,p2,p3,p4,p5⟩:=id st
  have e2:its.toArray.size=ys.length:=by rw[rv.length];exact aed ..
  have e:i=min x.cps.size its.toArray.size:=by rw[e2,hmin]
  subst e
  have W:=Iz (prog:=X.prog) (w:=X.w) (A:=X.A) (I.ok.hd hc) z TI TO i1 i2 l D x t its.toArray
  have hsub:∀b∈[z,TO,i1,i2],b∈[z,TI,TO,i1,i2]:=by
   intro b hb
   simp only[aeh,aeQ,afk]at hb⊢
   rcases hb with q|q|q|q<;>simp[q]
  exact xT W I hf hsub ⟨p1,p2,p3,p4,p5,p.isList⟩
 self:=λ_ _ _ _ _ st h=>wpAny_pyIter_zip st.1 h
def gI(x:Str)(t:Tok):Obj:={cls:=.type (if x.cps.all (· < 128)=true then "str_ascii_iterator" else "str_iterator"),data:=.fields #[.str x t,.int 0 0]}
theorem Yo{h:Heap}{it:Addr}{x:Str}{t:Tok}(e:h.get? it=some (gI x t)):Af h it x t 0:=by
 unfold gI at e
 cases ha:x.cps.all (· < 128)
 ·rw[ha,ad5 'c']at e;exact .inr ⟨_,e,rfl,rfl⟩
 ·rw[ha,aee rfl]at e;exact .inl ⟨_,e,rfl,rfl⟩
section
variable{prog:Program}{w:World}{A:Around}{E:Value->Shared->Prop}{s:Shared}
theorem Vm{x:Str}{t:Tok}{Q:Value->Shared->Prop}(hQ:Q (.ref s.heap.objs.size) {s with heap:=s.heap.push (gI x t)}):wpAny (model prog w) A (pyIter (.str x t)) Q E s:=by
 unfold gI at hQ
 cases ha:x.cps.all (· < 128)
 ·rw[ha,ad5 'c']at hQ;exact wpAny_pyIter_wide ha hQ
 ·rw[ha,aee rfl]at hQ;exact wpAny_pyIter_ascii ha hQ
end
abbrev zs1(h:Heap)(o:Obj):Heap:=h.push o
abbrev zs2(h:Heap)(o:Obj)(l:Addr):Heap:=(zs1 h o).push {cls:=.type "list_iterator",data:=.fields #[.ref l,.int 0 0]}
abbrev zs3(h:Heap)(o:Obj)(l:Addr):Heap:=(zs2 h o l).push {cls:=.type "tuple",data:=.seq #[.ref h.objs.size,.ref (zs1 h o).objs.size]}
abbrev zs4(h:Heap)(o:Obj)(l:Addr):Heap:=(zs3 h o l).push {cls:=.type "tuple",data:=.seq #[.none,.none]}
abbrev zs5(h:Heap)(o:Obj)(l:Addr):Heap:=(zs4 h o l).push {cls:=.type "zip",data:=.fields #[.none,.bool false,.bool false,.ref (zs2 h o l).objs.size,.ref (zs3 h o l).objs.size]}
theorem RX(x:Str)(t:Tok)(l:Addr)(ys:Array Value):Meets (Builtin.«zip.__new__» ⟨[.type "zip",.str x t,.ref l],[]⟩) (λ_ R s=>s.heap.IsList l ys/\R (.ok (.ret (.ref (zs4 s.heap (gI x t) l).objs.size))) {s with heap:=zs5 s.heap (gI x t) l}) :=
 .of_wp λprog w A R s h=>by
  obtain⟨hp,g,d,tk,os⟩:=s
  obtain⟨hl,h⟩:=h
  have hsub:=sub_zip
  have hL:Heap.IsList (Shared.heap ⟨hp.push (gI x t),g,d,tk,os⟩) l ys:=Heap.IsList.push hl _
  wp_walk using Vm,afK hL
  exact⟨_,O,h⟩
section
variable{prog:Program}{w:World}{A:Around}{E:Value->Shared->Prop}{s:Shared}
theorem ON{x:Str}{t:Tok}{l:Addr}{ys:Array Value}{Q:Value->Shared->Prop}(hl:s.heap.IsList l ys)(h:∀h',IsZip h' (s.heap.objs.size+4) (s.heap.objs.size+2) (s.heap.objs.size+3) .none->IsPair h' (s.heap.objs.size+2) (.ref s.heap.objs.size) (.ref (s.heap.objs.size+1))->IsPair h' (s.heap.objs.size+3) .none .none->Af h' s.heap.objs.size x t 0->h'.IsListIter (s.heap.objs.size+1) l 0->(∀c o,s.heap.get? c=some o->h'.get? c=some o)->Q (.ref (s.heap.objs.size+4)) {s with heap:=h'}):wpAny (model prog w) A (call (.type "zip") [.str x t,.ref l]) Q E s:=by
 refine callType_new F.called_zip 'c' (F.typeCall_zip_2 _ _) (F.newCall_zip_2 _ _) (λobj=>F.args_object_init_3 obj _ _) F.entry_zip_new (RX x t l ys) ⟨hl,?_⟩
 have n1:(zs1 s.heap (gI x t)).objs.size=s.heap.objs.size+1:=ae3 ..
 have n2:(zs2 s.heap (gI x t) l).objs.size=s.heap.objs.size+2:=by rw[ae3,n1]
 have n3:(zs3 s.heap (gI x t) l).objs.size=s.heap.objs.size+3:=by rw[ae3,n2]
 have n4:(zs4 s.heap (gI x t) l).objs.size=s.heap.objs.size+4:=by rw[ae3,n3]
 have up:∀{h:Heap}{c:Addr}{u o:Obj},h.get? c=some o->(h.push u).get? c=some o:=λe=>ad9 _ e
 have r5:(zs5 s.heap (gI x t) l).get? (zs4 s.heap (gI x t) l).objs.size=some _:=ael _ rfl
 have r4:(zs5 s.heap (gI x t) l).get? (zs3 s.heap (gI x t) l).objs.size=some _:=up (ael _ rfl)
 have r3:(zs5 s.heap (gI x t) l).get? (zs2 s.heap (gI x t) l).objs.size=some _:=up (up (ael _ rfl))
 have r2:(zs5 s.heap (gI x t) l).get? (zs1 s.heap (gI x t)).objs.size=some _:=up (up (up (ael _ rfl)))
 have r1:(zs5 s.heap (gI x t) l).get? s.heap.objs.size=some (gI x t):=up (up (up (up (ael _ rfl))))
 show _/\_
 rw[n2,n3,n4]at r5
 rw[n1,n2]at r3
 rw[n3]at r4
 rw[n1]at r2
 rw[n4]
 exact⟨⟨_,r5,O⟩,h _ r5 r3 r4 (Yo r1) ⟨_,r2,O,O⟩ λc o q=>up (up (up (up (up q))))⟩
end
def aaW(K:W.Frag)(ta:TA):TI:=λσ H R=>ta σ H λvs H1=>∃z b,vs=[.str z,.ref b]/\(∃ys,aT K H1 b ys)/\R (OL K z b) H1
theorem RY{X:Cx}{elts:List Expr}{k:Nat}{tpos:Pos}{a b:Expr}{ta:TA}{p pos:Pos}(K:W.Frag)(hK:X.K=K)(hg:Gl X "zip")(hm:X.mg "zip"=none)(ha:PA X [a,b] ta)(hs:starEach [a,b] X.env=[(false,eval a X.env),(false,eval b X.env)]:=by rfl)(hs2:starEach [b] X.env=[(false,eval b X.env)]:=by rfl):PI X (.Tuple elts k tpos) (.Call (.Name "zip" p) [a,b] [] pos) (aaW K ta):=by
 subst hK
 intro pins s σ H R I h
 refine Call_ (qB I hg hm (u:=.type "zip") 'b' (afi (cS (ha pos pins s σ H _ I h) λus s1 ⟨vs,H1,I1,r1,q1⟩=>?_) (by rw[hs,hs2]) (by rw[hs2];rfl)))
 obtain⟨z,l,e,⟨ys,hy⟩,q⟩:=q1
 subst e
 cases r1 with
 |cons r rr =>
  cases rr with
  |cons r' rr =>
   cases rr
   obtain⟨t,rfl⟩:=r
   cases r'
   obtain⟨its,rv,pl,hz⟩:=I1.list hy
   have hlt:l<s1.heap.objs.size:=by obtain⟨o,ho,_⟩:=pl.isList;exact aei ho
   refine ON pl.isList λh' hz' hTI hTO hi1 hi2 hk=>?_
   refine wpAny_pyIter_zip hz' ?_
   have I2:Inv X pins σ H1 {s1 with heap:=h'}:=I1.kept (t':=s1.toks) λb o e=>hk b o e
   refine⟨s1.heap.objs.size+4,_,_,_,H1,rfl,I2,OM (x:=z) (t:=t) (RT s1.heap.objs.size l l hlt hlt),⟨hz',hTI,⟨_,_,hTO⟩,hi1,hi2⟩,λb hb=>?_,q⟩
   have hb':s1.heap.objs.size<=b:=by
    simp only[aeh,aeQ,afk]at hb
    rcases hb with rfl|rfl|rfl|rfl|rfl
    ·exact afq _ _
    ·exact afq _ _
    ·exact afq _ _
    ·exact ad6 _
    ·exact afq _ _
   exact I1.vA hb' (I1.hok.fresh hb')
theorem RZ{K:W.Frag}{z:Str}{b:Addr}{ys:List V}{g:TG}{tb:TS}{D:Ends}{σ:St}{H:Hp}(Pv:Nat->St->Hp->Prop)(h0:Pv 0 σ H)(hl:∀i σ H,i<=min z.cps.size ys.length->Pv i σ H->aT K H b ys)(hs:∀i c y t σ H,z.cps[i]?=some c->ys[i]?=some y->H t=none->Pv i σ H->g (.ref t) σ (upd H t (.tup [.str (sg c),y])) λσ2 H2=>tb {D with nx:=Pv (i+1),ct:=Pv (i+1),bk:=D.nx} σ2 H2)(hd:∀σ H,Pv (min z.cps.size ys.length) σ H->D.nx σ H):∃W:Nat->Nat->St->Hp->Prop,(∃m,W 0 m σ H)/\∀i m σ H,W i m σ H->((OL K z b).stop i H/\D.nx σ H)\/((OL K z b).go i H/\∃N:St->Hp->Prop,(∀σ' H',N σ' H'->∃m',m'<m/\W (i+1) m' σ' H')/\∀x H',(OL K z b).QO i H x H'->g x σ H' λσ2 H2=>tb {D with nx:=N,ct:=N,bk:=D.nx} σ2 H2):=by
 refine⟨λi m σ H=>m=min z.cps.size ys.length-i/\i<=min z.cps.size ys.length/\Pv i σ H,⟨_,O,aeA _,h0⟩,?_⟩
 rintro i m σ H ⟨rfl,hi,p⟩
 have q:=hl i σ H hi p
 by_cases hlt:i<min z.cps.size ys.length
 ·have h1:i<z.cps.size:=by omega
  have h2:i<ys.length:=by omega
  refine .inr ⟨⟨ys,z.cps[i],ys[i],q,by simp[h1],by simp[h2]⟩,Pv (i+1),λσ' H' p'=>⟨_,(by omega:min z.cps.size ys.length-(i+1)<_),rfl,hlt,p'⟩,λv H' y=>?_⟩
  obtain⟨t,c,y,ht,e1,e2,ec,ey⟩:=y
  subst e1 e2
  exact hs i c y t σ _ ec (ey ys q) ht p
 ·have e:i=min z.cps.size ys.length:=by omega
  subst e
  exact .inl ⟨⟨ys,q,rfl⟩,hd σ H p⟩
section
variable{X:Cx}
theorem any_range(bs:List Bool):((List.range bs.length).any λi=>bs.getD i true)=bs.any id:=by
 rw[aeS,afO,afO]
 constructor
 ·rintro⟨i,hi,h⟩
  have hi':i<bs.length:=by simpa using hi
  exact⟨bs[i],afY hi',by simpa [List.getD,hi']using h⟩
 ·rintro⟨b,hb,h⟩
  obtain⟨i,hi,rfl⟩:=List.mem_iff_getElem.mp hb
  exact⟨i,by simpa using hi,by simpa [List.getD,hi]using h⟩
inductive Yp(K:W.Frag)(xs:List V)(H:Hp)(Q:VK):Prop where
 |mk (p:Addr) (bs:List Bool):(xs=[.ref p])->(aT K H p (bs.map V.bl))->(Q (.bl (bs.any id)) H)->Yp K xs H Q
theorem R1(hc:X.calm=true):eZ X (.builtin "any") (Yp X.K):=by
 intro pins s σ H xs us Q I r h
 obtain⟨p,bs,rfl,hq,q⟩:=h
 obtain⟨u,rfl,ru⟩:=vals1 r
 cases ru
 obtain⟨its,rv,pl,hz⟩:=I.list hq
 have hlen:=rv.length
 rw[aec]at hlen
 have hpl:p<s.heap.objs.size:=by obtain⟨o,ho,_⟩:=pl.isList;exact aei ho
 refine call_any_walk (afK pl.isList ⟨s.heap.objs.size,_,_,_,_,_,λi=>bs.getD i true,rfl,Walks.list (A:=X.A.in1) (show X.A.in1.handled=none from I.ok.hd hc) s.heap.objs.size p (aeH hpl) its.toArray,⟨⟨_,ael _ rfl,rfl,rfl⟩,pl.isList.at λo e=>ad9 _ e⟩,?_,?_⟩)
 ·intro i v s' Q' E' hv hq'
  have e:its[i]?=some v:=by simpa using hv
  rw[qH rv e]
  exact afs hq'
 ·intro h' tk hk
  have f0:=I.vA (ad6 s.heap.objs.size) (I.hok.fresh (ad6 _))
  have I2:Inv X pins σ H {s with heap:=s.heap.push {cls:=.type "list_iterator",data:=.fields #[.ref p,rawInt 0]}}:=I.kept (t':=s.toks) λb o e=>ad9 _ e
  have I3:=I2.turned (h':=h') (t':=tk) (it:=s.heap.objs.size) (λb o hb e=>hk b o (by simpa using hb) e) f0.1 f0.2.1 f0.2.2.2.1 f0.2.2.2.2.1 f0.2.2.2.2.2
  refine⟨.bl (bs.any id),H,I3,?_,q⟩
  show Value.bool _=Value.bool _
  rw[aed,←hlen,any_range]
theorem EI(K:W.Frag)(h:X.K=K)(hc:X.calm=true):eZ X (.builtin "any") (Yp K):=by subst h;exact R1 hc
end
inductive xU(K:W.Frag)(H:Hp):Nat->V->V->Bool->Prop where
 |flat {n:Nat}{x y:V}:eg x=true->eg y=true->xU K H n x y (Bd x y)
 |same {n:Nat}{a:Addr}:xU K H n (.ref a) (.ref a) true
 |tup {n:Nat}{a b:Addr}{xs ys:List V}{e:Nat->Bool}:a≠b->aX K H a xs->aX K H b ys->(∀(j:Nat) x y,xs[j]?=some x->ys[j]?=some y->xU K H n x y (e j))->xU K H (n+1) (.ref a) (.ref b) ((List.range (min xs.length ys.length)).all e&&xs.length==ys.length)
 |lst {n:Nat}{a b:Addr}{xs ys:List V}{e:Nat->Bool}:a≠b->aT K H a xs->aT K H b ys->xs.length=ys.length->(∀(j:Nat) x y,xs[j]?=some x->ys[j]?=some y->xU K H n x y (e j))->xU K H (n+1) (.ref a) (.ref b) ((List.range xs.length).all e)
 |len {n:Nat}{a b:Addr}{xs ys:List V}:a≠b->aT K H a xs->aT K H b ys->xs.length≠ys.length->xU K H (n+1) (.ref a) (.ref b) false
section
variable{X:Cx}{pins:List (Addr×Obj)}{σ:St}{H:Hp}{s:Shared}
theorem kB{A:Around}{e:Nat->Bool}{xs ys:List V}{us ws:List Value}(r1:Vals xs us)(r2:Vals ys ws)(h:∀(j:Nat) x y u w,xs[j]?=some x->ys[j]?=some y->RelV x u->RelV y w->SeqAt.EqAt A s u w (e j))(j:Nat)(h1:j<us.toArray.size)(h2:j<ws.toArray.size):SeqAt.EqAt A s us.toArray[j] ws.toArray[j] (e j):=by
 have hl1:=r1.length
 have hl2:=r2.length
 have hj1:j<xs.length:=by rw[hl1];simpa using h1
 have hj2:j<ys.length:=by rw[hl2];simpa using h2
 obtain⟨u,eu,ru⟩:=r1.get (i:=j) (x:=xs[j]) (by simp[hj1])
 obtain⟨w,ew,rw'⟩:=r2.get (i:=j) (x:=ys[j]) (by simp[hj2])
 have e1:us.toArray[j]=u:=by
  obtain⟨_,q⟩:=ad8.mp eu
  simpa using q
 have e2:ws.toArray[j]=w:=by
  obtain⟨_,q⟩:=ad8.mp ew
  simpa using q
 rw[e1,e2]
 exact h j _ _ u w (by simp[hj1]) (by simp[hj2]) ru rw'
theorem vH(I:Inv X pins σ H s){n:Nat}{x y:V}{b:Bool}(h:xU X.K H n x y b):∀{A:Around}{u v:Value},A.units+n<cLine->RelV x u->RelV y v->SeqAt.EqAt A s u v b:=by
 induction h with
 |flat f1 f2=>intro A u v _ ru rv;exact Lc ru rv f1 f2
 |same=>intro A u v _ ru rv;cases ru;cases rv;exact SeqAt.EqAt.same _
 |@tup n a b xs ys e ne ha hb _ ih =>
  intro A u v hu ru rv
  cases ru;cases rv
  obtain⟨its,r1,p1,_⟩:=I.tuple ha
  obtain⟨its2,r2,p2,_⟩:=I.tuple hb
  refine SeqAt.EqAt.of_refs ne ?_
  have q:=SeqAt.RcAt.tuples (A:=A) (e:=e) p1 p2 'f' λj h1 h2=>kB r1 r2 (λj x y u w ex ey ru rw'=>ih j x y ex ey (by show A.units+1+n<cLine;omega) ru rw') j h1 h2
  rw[aed,aed,←r1.length,←r2.length]at q
  exact q
 |@lst n a b xs ys e ne ha hb hl _ ih =>
  intro A u v hu ru rv
  cases ru;cases rv
  obtain⟨its,r1,p1,_⟩:=I.list ha
  obtain⟨its2,r2,p2,_⟩:=I.list hb
  refine SeqAt.EqAt.of_refs ne ?_
  have q:=SeqAt.RcAt.lists (A:=A) (e:=e) p1.isList p2.isList (by rw[aed,aed,←r1.length,←r2.length,hl]) 'f' λj h1 h2=>kB r1 r2 (λj x y u w ex ey ru rw'=>ih j x y ex ey (by show A.units+1+n<cLine;omega) ru rw') j h1 h2
  rw[aed,←r1.length]at q
  exact q
 |@len n a b xs ys ne ha hb hl =>
  intro A u v hu ru rv
  cases ru;cases rv
  obtain⟨its,r1,p1,_⟩:=I.list ha
  obtain⟨its2,r2,p2,_⟩:=I.list hb
  refine SeqAt.EqAt.of_refs ne ?_
  exact SeqAt.RcAt.lists_lengths (A:=A) p1.isList p2.isList (by rw[aed,aed,←r1.length,←r2.length];simpa using hl) 'f'
end
section
variable{X:Cx}
inductive TopC(K:W.Frag)(H:Hp):V->V->Bool->Prop where
 |tup {n:Nat}{a b:Addr}{xs ys:List V}{e:Nat->Bool}:n<=50->aX K H a xs->aX K H b ys->(∀(j:Nat) x y,xs[j]?=some x->ys[j]?=some y->xU K H n x y (e j))->TopC K H (.ref a) (.ref b) ((List.range (min xs.length ys.length)).all e&&xs.length==ys.length)
 |lst {n:Nat}{a b:Addr}{xs ys:List V}{e:Nat->Bool}:n<=50->aT K H a xs->aT K H b ys->xs.length=ys.length->(∀(j:Nat) x y,xs[j]?=some x->ys[j]?=some y->xU K H n x y (e j))->TopC K H (.ref a) (.ref b) ((List.range xs.length).all e)
 |len {a b:Addr}{xs ys:List V}:aT K H a xs->aT K H b ys->xs.length≠ys.length->TopC K H (.ref a) (.ref b) false
inductive Yq(K:W.Frag)(x:V)(y:V)(H:Hp)(Q:VK):Prop where
 |mk b:(TopC K H x y b)->(Q (.bl b) H)->Yq K x y H Q
inductive Yr(K:W.Frag)(x:V)(y:V)(H:Hp)(Q:VK):Prop where
 |mk b:(TopC K H x y b)->(Q (.bl (!b)) H)->Yr K x y H Q
theorem Ys(K:W.Frag)(hK:X.K=K)(hu:X.A.units+64<cLine):kF X (compareOp .Eq) (Yq K):=by
 subst hK
 intro pins s σ H x y v u Q I rx ry h
 obtain⟨b,hk,q⟩:=h
 cases hk with
 |@tup n a b xs ys e hn ha hb hs =>
  cases rx;cases ry
  obtain⟨its,r1,p1,_⟩:=I.tuple ha
  obtain⟨its2,r2,p2,_⟩:=I.tuple hb
  refine SeqAt.eq_tupleAt (e:=e) p1 p2 'f' (λj h1 h2=>kB r1 r2 (λj x y u w ex ey ru rw'=>vH I (hs j x y ex ey) (by show X.A.units+1+n<cLine;omega) ru rw') j h1 h2) ⟨.bl _,H,I,?_,q⟩
  show Value.bool _=Value.bool _
  rw[aed,aed,←r1.length,←r2.length]
 |@lst n a b xs ys e hn ha hb hl hs =>
  cases rx;cases ry
  obtain⟨its,r1,p1,_⟩:=I.list ha
  obtain⟨its2,r2,p2,_⟩:=I.list hb
  refine SeqAt.eq_listAt (e:=e) p1.isList p2.isList (by rw[aed,aed,←r1.length,←r2.length,hl]) 'f' (λj h1 h2=>kB r1 r2 (λj x y u w ex ey ru rw'=>vH I (hs j x y ex ey) (by show X.A.units+1+n<cLine;omega) ru rw') j h1 h2) ⟨.bl _,H,I,?_,q⟩
  show Value.bool _=Value.bool _
  rw[aed,←r1.length]
 |@len a b xs ys ha hb hl =>
  cases rx;cases ry
  obtain⟨its,r1,p1,_⟩:=I.list ha
  obtain⟨its2,r2,p2,_⟩:=I.list hb
  show wpAny _ _ (richCompare .Eq (.ref a) (.ref b)) _ _ _
  exact SeqAt.RcAt.lists_lengths p1.isList p2.isList (by rw[aed,aed,←r1.length,←r2.length];simpa using hl) 'f' _ _ _ _ ⟨.bl false,H,I,rfl,q⟩
theorem Yt(K:W.Frag)(hK:X.K=K)(hu:X.A.units+64<cLine):kF X (compareOp .NotEq) (Yr K):=by
 subst hK
 intro pins s σ H x y v u Q I rx ry h
 obtain⟨b,hk,q⟩:=h
 cases hk with
 |@tup n a b xs ys e hn ha hb hs =>
  cases rx;cases ry
  show wpAny _ _ (richCompare .NotEq (.ref a) (.ref b)) _ _ _
  obtain⟨its,r1,p1,_⟩:=I.tuple ha
  obtain⟨its2,r2,p2,_⟩:=I.tuple hb
  refine SeqAt.RcNeAt.tuples (e:=e) p1 p2 'f' (λj h1 h2=>kB r1 r2 (λj x y u w ex ey ru rw'=>vH I (hs j x y ex ey) (by show X.A.units+1+n<cLine;omega) ru rw') j h1 h2) _ _ _ _ ⟨.bl _,H,I,?_,q⟩
  show Value.bool _=Value.bool _
  rw[aed,aed,←r1.length,←r2.length]
 |@lst n a b xs ys e hn ha hb hl hs =>
  cases rx;cases ry
  show wpAny _ _ (richCompare .NotEq (.ref a) (.ref b)) _ _ _
  obtain⟨its,r1,p1,_⟩:=I.list ha
  obtain⟨its2,r2,p2,_⟩:=I.list hb
  refine SeqAt.RcNeAt.lists (e:=e) p1.isList p2.isList (by rw[aed,aed,←r1.length,←r2.length,hl]) 'f' (λj h1 h2=>kB r1 r2 (λj x y u w ex ey ru rw'=>vH I (hs j x y ex ey) (by show X.A.units+1+n<cLine;omega) ru rw') j h1 h2) _ _ _ _ ⟨.bl _,H,I,?_,q⟩
  show Value.bool _=Value.bool _
  rw[aed,←r1.length]
 |@len a b xs ys ha hb hl =>
  cases rx;cases ry
  obtain⟨its,r1,p1,_⟩:=I.list ha
  obtain⟨its2,r2,p2,_⟩:=I.list hb
  show wpAny _ _ (richCompare .NotEq (.ref a) (.ref b)) _ _ _
  exact SeqAt.RcNeAt.lists_lengths p1.isList p2.isList (by rw[aed,aed,←r1.length,←r2.length];simpa using hl) 'f' _ _ _ _ ⟨.bl true,H,I,rfl,q⟩
end
structure jJ(prog:Program)(w:World)(K:Type)[DecidableEq K] where
 is:Heap->K->Value->Prop
 hash:K->Int
 draws:K->Nat
 c7:Nat
 inj:∀{h:Heap}{v:Value}{x y:K},is h x v->is h y v->x=y
 keeps:∀{h h':Heap}{k:K}{v:Value}{d:Addr}{o:Obj}{es ep},is h k v->h.get? d=some o->o.data=.dict es ep->Heap.SameBut d h h'->is h' k v
 pyHash:∀{A:Around}{E:Value->Shared->Prop}{s:Shared}{k:K}{v:Value}{Q:Int->Shared->Prop},A.units+c7<cLine->is s.heap k v->Q (hash k) {s with toks:=s.toks+draws k}->wpAny (model prog w) A (PySem.pyHash v) Q E s
 eq:∀{A:Around}{s:Shared}{x y:K}{u v:Value},A.units+c7<cLine->is s.heap x u->is s.heap y v->SeqAt.EqAt A s u v (decide (x=y))
 quiet:∀{A:Around}{E:Value->Shared->Prop}{s:Shared}{k:K}{v:Value}{Q:Bool->Shared->Prop}{n:Nat},c7<=n->is s.heap k v->Q true s->wpAny (model prog w) A (eqIsQuiet n v) Q E s
section
variable{prog:Program}{w:World}{K:Type}[DecidableEq K](V:jJ prog w K)
def TupIs(h:Heap)(ks:List K)(a:Addr):Prop:=∃o items n,h.get? a=some o/\o.cls=.type "tuple"/\o.data=.seq items n/\Paired (λk v=>V.is h k v) ks items.toList
def Be(ks:List K):Int:=reduceHash (Builtin.Tuple.tupleHashOf (ks.map V.hash))
variable{V}
theorem TupIs.ty{s:Shared}{ks:List K}{a:Addr}(x:TupIs V s.heap ks a):s.TypeIs (.ref a) "tuple":=by obtain⟨o,_,_,ho,hc,_⟩:=x;exact⟨o,ho,hc⟩
theorem BD{h:Heap}:∀{x y:List K}{vs:List Value},Paired (λk v=>V.is h k v) x vs->Paired (λk v=>V.is h k v) y vs->x=y
 |_,_,_,.nil,.nil=>rfl
 |_,_,_,.cons a r,.cons b q=>by rw[V.inj a b,BD r q]
theorem TupIs.inj{h:Heap}{a:Addr}{x y:List K}(hx:TupIs V h x a)(hy:TupIs V h y a):x=y:=by
 obtain⟨o,items,n,ho,_,hd,hi⟩:=hx
 obtain⟨o',items',n',ho',_,hd',hi'⟩:=hy
 rw[ho]at ho'
 cases ho'
 rw[hd]at hd'
 cases hd'
 exact BD hi hi'
theorem TupIs.keeps{h h':Heap}{ks:List K}{a d:Addr}{o:Obj}{es ep}(x:TupIs V h ks a)(ho:h.get? d=some o)(hd:o.data=.dict es ep)(hs:Heap.SameBut d h h'):TupIs V h' ks a:=by
 obtain⟨o',items,n,e1,e2,e3,e4⟩:=x
 have hne:a≠d:=λe=>by
  subst e
  rw[e1]at ho
  cases ho
  rw[hd]at e3;cases e3
 exact⟨o',items,n,(hs.2 a hne).trans e1,e2,e3,Paired.Q4 e4 λk v q=>V.keeps q ho hd hs⟩
variable{A:Around}{E:Value->Shared->Prop}{s:Shared}
theorem IA{ks:List K}{a:Addr}{Q:Int->Shared->Prop}(hu:A.units+(V.c7+1)<cLine)(hk:TupIs V s.heap ks a)(h:Q (Be V ks) {s with toks:=s.toks+((ks.map V.draws).sum+1)}):wpAny (model prog w) A (pyHash (.ref a)) Q E s:=by
 have hT:=hk.ty
 have eo:A.units<cLine:=by omega
 obtain⟨o,items,n,ho,_,hd,hi⟩:=hk
 unfold pyHash
 first|unfold pyHashByItsType|skip
 first|refine ad4 (wpAny_cRoomFor_or (.inr eo) ?_)|skip
 refine ad4 (afv hT F.slot_tuple_hash.lookup ?_);show wpAny _ _ (if (some (Value.builtin "tuple.__hash__")==some Value.none)=true then _ else _) Q E s
 rw[ad5 (by rw[beq_builtin_none];exact aev)];refine ad4 (afv hT F.slot_tuple_hash.lookup ?_)
 show wpAny _ _ (callSpecialIfBoundUnlessNone? (.ref a) "__hash__" _ >>= _) Q E s;refine ad4 (wpAny_callSpecialIfBoundUnlessNone?_slot hT F.slot_tuple_hash (ae6 F.slot_tuple_hash hT F.entry_tuple_hash ?_ (F.args_tuple_hash_1 _)))
 have hu1:A.in1.units+V.c7<cLine:=by show A.units+1+V.c7<cLine;omega
 show wpAny _ _ (Builtin.Tuple.tupleItemsOf (.ref a) >>= _) _ _ s
 refine ad4 (wpAny_tupleItemsOf ho hd (ad4 ?_))
 rw[←Array.forIn_toList]
 refine wpAny_forIn_list _ (λrest (b:Array Int) s'=>∃done left,ks=done++left/\Paired (λk v=>V.is s.heap k v) left rest/\b.toList=done.map V.hash/\s'={s with toks:=s.toks+(done.map V.draws).sum}) _ ?_ ?_ _ _ ⟨[],ks,rfl,hi,rfl,rfl⟩
 ·rintro x rest b s' ⟨done,left,rfl,hl,hb,rfl⟩
  cases hl with
  |@cons k _ ks' _ h1 hl' =>
   have fin:∃d l,done++k::ks'=d++l/\Paired (λk v=>V.is s.heap k v) l rest/\(b.push (V.hash k)).toList=d.map V.hash/\({s with toks:=s.toks+(done.map V.draws).sum+V.draws k}:Shared)={s with toks:=s.toks+(d.map V.draws).sum}:=⟨done++[k],ks',by simp,hl',by simp[hb],by simp[Nat.add_assoc]⟩
   refine ad4 (V.pyHash hu1 h1 ?_)
   first
    |exact aea fin
    |exact ad4 (aea (aea fin))
 ·rintro b s' ⟨done,left,rfl,hl,hb,rfl⟩
  cases hl
  rw[aeD]at h
  show wpAny _ _ (retInt (Builtin.Tuple.tupleHashOf b.toList)) _ _ _
  rw[hb]
  refine wpAny_ret_mkInt ?_
  generalize hz:Builtin.Tuple.tupleHashOf (done.map V.hash)=z
  unfold Be reduceHash at h
  rw[hz]at h
  show wpAny _ _ (if (decide (-(2:Int) ^ 63<=z)&&decide (z<2 ^ 63))=true then _ else _) Q E _
  by_cases hr:(decide (-(2:Int) ^ 63<=z)&&decide (z<2 ^ 63))=true
  ·rw[aee hr]at h⊢
   exact aea (by simpa [Nat.add_assoc]using h)
  ·rw[ad5 hr]at h⊢
   exact ad4 (wpAny_rule (aea (by simpa [Nat.add_assoc]using h)))
theorem BE{x y:List K}:((List.range (min x.length y.length)).all (λj=>decide (x[j]?=y[j]?))&&x.length==y.length)=decide (x=y):=by
 rw[aeS,ae7,aeP,aeO,beq_iff_eq]
 constructor
 ·rintro⟨q,hl⟩
  refine List.ext_getElem? λi=>?_
  by_cases hi:i<x.length
  ·exact aez (q i (List.mem_range.mpr 'f'))
  ·rw[afe 'f',afe 'f']
 ·rintro rfl
  exact⟨λi _=>aeb rfl,O⟩
theorem kJ{F:K->Value->Prop}:∀{ks:List K}{vs:List Value},Paired F ks vs->∀(j:Nat) v,vs[j]?=some v->∃k,ks[j]?=some k/\F k v
 |_,_,.nil,j,v,h=>by simp at h
 |_,_,.cons a r,0,v,h=>by cases h;exact⟨_,rfl,a⟩
 |_,_,.cons a r,j+1,v,h=>by
  rw[List.getElem?_cons_succ]at h
  obtain⟨k,e,q⟩:=kJ r j v h
  exact⟨k,by rw[List.getElem?_cons_succ];exact e,q⟩
theorem R4{x y:List K}{a b:Addr}(hu:A.units+(V.c7+1)<cLine)(hx:TupIs V s.heap x a)(hy:TupIs V s.heap y b):SeqAt.EqAt A s (.ref a) (.ref b) (decide (x=y)):=by
 by_cases e:a=b
 ·subst e
  rw[aeb (hx.inj hy)]
  exact SeqAt.EqAt.same _
 ·obtain⟨o,items,n,h1,h2,h3,h4⟩:=hx
  obtain⟨o',items',n',UO,h2',h3',h4'⟩:=hy
  have l1:x.length=items.size:=by rw[afm h4,aeq]
  have l2:y.length=items'.size:=by rw[afm h4',aeq]
  refine SeqAt.EqAt.of_refs e ?_
  rw[←BE,l1,l2]
  refine SeqAt.RcAt.tuples ⟨o,h1,h2,n,h3⟩ ⟨o',UO,h2',n',h3'⟩ 'f' λj j1 j2=>?_
  obtain⟨k,ek,hk⟩:=kJ h4 j items[j] (by simp[j1])
  obtain⟨k',ek',hk'⟩:=kJ h4' j items'[j] (by simp[j2])
  rw[ek,ek',show decide (some k=some k')=decide (k=k') by simp]
  exact V.eq (by show A.units+1+V.c7<cLine;omega) hk hk'
theorem EJ{ks:List K}{a:Addr}{Q:Bool->Shared->Prop}{n:Nat}(hn:V.c7+1<=n)(hk:TupIs V s.heap ks a)(h:Q true s):wpAny (model prog w) A (eqIsQuiet n (.ref a)) Q E s:=by
 have hT:=hk.ty
 obtain⟨o,items,m,ho,_,hd,hi⟩:=hk
 obtain⟨n,rfl⟩:∃n',n=n'+1:=⟨n-1,by omega⟩
 unfold eqIsQuiet
 refine ad4 (afv hT F.slot_tuple_eq.lookup ?_);show wpAny _ _ (isInstance (.ref a) (.type "tuple") >>= _) _ _ s
 refine ad4 (wpAny_isInstance hT isSubtype_tuple_tuple ?_)
 simp only[Bool.not_true,ae1,afy]
 refine ad4 (aeW ho hd (ad4 ?_))
 show wpAny _ _ (forIn items _ _) _ _ s
 rw[←Array.forIn_toList]
 refine wpAny_forIn_list _ (λrest r s'=>r.1=none/\s'=s/\∃l,Paired (λk v=>V.is s.heap k v) l rest) _ ?_ ?_ _ _ ⟨rfl,rfl,ks,hi⟩
 ·rintro v rest r s' ⟨hr,rfl,l,hl⟩
  cases hl with
  |@cons k _ ks' _ h1 hl' =>
   refine ad4 (V.quiet 'f' h1 ?_)
   simp only[Bool.not_true,ae1,afy]
   exact aea ⟨rfl,rfl,ks',hl'⟩
 ·rintro⟨r1,r2⟩ s' ⟨hr,rfl,_⟩
  simp only at hr
  subst hr
  exact aea h
end
abbrev Lf:=Option Key
def IB:Lf->Value->Prop
 |none,v=>v=.none
 |some k,v=>zo k v=true
section
variable{prog:Program}{w:World}{A:Around}{E:Value->Shared->Prop}{s:Shared}
theorem OO{Q:Int->Shared->Prop}(hu:A.units<cLine)(h:Q 4238894112 {s with toks:=s.toks+1}):wpAny (model prog w) A (pyHash .none) Q E s:=by
 have hT:s.TypeIs .none "NoneType":=rfl
 unfold pyHash
 first|unfold pyHashByItsType|skip
 first|refine ad4 (wpAny_cRoomFor_or (.inr hu) ?_)|skip
 refine ad4 (afv hT F.slot_NoneType_hash.lookup ?_)
 show wpAny _ _ (if (some (Value.builtin "NoneType.__hash__")==some Value.none)=true then _ else _) Q E s
 rw[ad5 (by rw[beq_builtin_none];exact aev)];refine ad4 (afv hT F.slot_NoneType_hash.lookup ?_)
 show wpAny _ _ (callSpecialIfBoundUnlessNone? .none "__hash__" _ >>= _) Q E s
 refine ad4 (wpAny_callSpecialIfBoundUnlessNone?_slot hT F.slot_NoneType_hash (ae6 F.slot_NoneType_hash hT F.entry_NoneType_hash ?_ (F.args_NoneType_hash_1 _)))
 show wpAny _ _ (retInt 4238894112) _ _ _
 refine wpAny_ret_mkInt ?_
 show wpAny _ _ (if (decide (-(2:Int) ^ 63<=4238894112)&&decide ((4238894112:Int)<2 ^ 63))=true then _ else _) Q E _
 rw[aee 'c']
 exact aea h
theorem nt{k:Key}{v:Value}(h:zo k v=true):(∃i t,k=.inl i/\v=.int i t)\/∃z t,k=.inr z/\v=.str z t:=cV h
theorem R5(prog:Program)(w:World){v:Value}{x y:Lf}(hx:IB x v)(hy:IB y v):x=y:=by
 cases x with
 |none =>
  cases y with
  |none=>rfl
  |some k=>rcases nt hy with ⟨i,t,rfl,e⟩|⟨z,t,rfl,e⟩<;>(rw[show v=.none from hx]at e;cases e)
 |some k =>
  cases y with
  |none=>rcases nt hx with ⟨i,t,rfl,e⟩|⟨z,t,rfl,e⟩<;>(rw[show v=.none from hy]at e;cases e)
  |some k'=>rw[(oO prog w).inj v k k' hx hy]
theorem Xf{x y:Lf}{u v:Value}(hx:IB x u)(hy:IB y v):SeqAt.EqAt A s u v (decide (x=y)):=by
 cases x with
 |none =>
  have hx:u=.none:=hx
  subst hx
  cases y with
  |none =>
   have hy:v=.none:=hy
   subst hy
   rw[aeb rfl];exact SeqAt.EqAt.same _
  |some k =>
   rw[aeg (by simp)]
   rcases nt hy with ⟨i,t,rfl,rfl⟩|⟨z,t,rfl,rfl⟩
   ·exact SeqAt.EqAt.none_int _ _
   ·exact SeqAt.EqAt.none_str _ _
 |some k =>
  cases y with
  |none =>
   have hy:v=.none:=hy
   subst hy
   rw[aeg (by simp)]
   rcases nt hx with ⟨i,t,rfl,rfl⟩|⟨z,t,rfl,rfl⟩
   ·exact SeqAt.EqAt.int_none _ _
   ·exact SeqAt.EqAt.str_none _ _
  |some k' =>
   rw[show decide (some k=some k')=decide (k=k') by simp]
   rcases nt hx with ⟨i,t,rfl,rfl⟩|⟨z,t,rfl,rfl⟩<;>rcases nt hy with ⟨i',t',rfl,rfl⟩|⟨z',t',rfl,rfl⟩
   ·rw[QZ];exact SeqAt.EqAt.int_int _ _ _ _
   ·rw[Q2];exact SeqAt.EqAt.int_str _ _ _ _
   ·rw[Q3];exact SeqAt.EqAt.str_int _ _ _ _
   ·rw[Q0,show decide (z=z')=(z==z') by rw[aeS,aeO,beq_iff_eq]];exact SeqAt.EqAt.str_str _ _ _ _
theorem Ll{x:Lf}{v:Value}(h:IB x v):carriedByValue v=true:=by
 cases x with
 |none=>rw[show v=.none from h];rfl
 |some k=>rcases nt h with ⟨i,t,rfl,rfl⟩|⟨z,t,rfl,rfl⟩<;>rfl
end
def R6(w:World):Lf->Int
 |none=>4238894112
 |some k=>aao w k
def IC(prog:Program)(w:World):jJ prog w Lf where
 is:=λ_ k v=>IB k v
 hash:=R6 w
 draws:=λ_=>1
 c7:=0
 inj:=λhx hy=>R5 prog w hx hy
 keeps:=λh _ _ _=>h
 pyHash:=λ{A E s k v Q} hu h q=>by
  cases k with
  |none =>
   have h:v=.none:=h
   subst h
   exact OO hu q
  |some k=>exact(oO prog w).pyHash h q
 eq:=λ_ hx hy=>Xf hx hy
 quiet:=λ{A E s k v Q n} _ h q=>by rw[eqIsQuiet_byValue n (Ll h)];exact aea q
section
variable{prog:Program}{w:World}{K:Type}[DecidableEq K](V:jJ prog w K)
def Yu(h:Heap):Lf⊕List K->Value->Prop
 | .inl k,v=>IB k v
 | .inr ks,v=>∃a,v=.ref a/\TupIs V h ks a
def Yv:Lf⊕List K->Int
 | .inl k=>R6 w k
 | .inr ks=>Be V ks
def Vn:Lf⊕List K->Nat
 | .inl _=>1
 | .inr ks=>(ks.map V.draws).sum+1
variable{V}
theorem R7{k:Lf}{a:Addr}(h:IB k (.ref a)):False:=by
 cases k with
 |none=>cases(show Value.ref a=.none from h)
 |some k=>rcases nt h with ⟨i,t,rfl,e⟩|⟨z,t,rfl,e⟩<;>cases e
theorem aaX{A:Around}{s:Shared}{x y:Lf⊕List K}{u v:Value}(hu:A.units+(V.c7+1)<cLine)(hx:Yu V s.heap x u)(hy:Yu V s.heap y v):SeqAt.EqAt A s u v (decide (x=y)):=by
 cases x with
 |inl k =>
  cases y with
  |inl k' =>
   rw[show decide ((Sum.inl k:Lf⊕List K)=.inl k')=decide (k=k') by simp]
   exact Xf hx hy
  |inr ks =>
   obtain⟨a,rfl,o,items,n,h1,h2,h3,h4⟩:=hy
   rw[aeg (λq=>nomatch q)]
   cases k with
   |none =>
    have hx:u=.none:=hx
    subst hx
    exact SeqAt.EqAt.none_tuple ⟨o,h1,h2,n,h3⟩ 'f'
   |some k =>
    rcases nt hx with ⟨i,t,rfl,rfl⟩|⟨z,t,rfl,rfl⟩
    ·exact SeqAt.EqAt.int_tuple _ _ ⟨o,h1,h2,n,h3⟩ 'f'
    ·exact SeqAt.EqAt.str_tuple _ _ ⟨o,h1,h2,n,h3⟩ 'f'
 |inr ks =>
  obtain⟨a,rfl,hxa⟩:=hx
  cases y with
  |inl k' =>
   obtain⟨o,items,n,h1,h2,h3,h4⟩:=hxa
   rw[aeg (λq=>nomatch q)]
   cases k' with
   |none =>
    have hy:v=.none:=hy
    subst hy
    exact SeqAt.EqAt.tuple_none ⟨o,h1,h2,n,h3⟩ 'f'
   |some k =>
    rcases nt hy with ⟨i,t,rfl,rfl⟩|⟨z,t,rfl,rfl⟩
    ·exact SeqAt.EqAt.tuple_int _ _ ⟨o,h1,h2,n,h3⟩ 'f'
    ·exact SeqAt.EqAt.tuple_str _ _ ⟨o,h1,h2,n,h3⟩ 'f'
  |inr ks' =>
   obtain⟨b,rfl,hyb⟩:=hy
   rw[show decide ((Sum.inr ks:Lf⊕List K)=.inr ks')=decide (ks=ks') by simp]
   exact R4 hu hxa hyb
def stepK(V:jJ prog w K):jJ prog w (Lf⊕List K) where
 is:=Yu V
 hash:=Yv V
 draws:=Vn V
 c7:=V.c7+1
 inj:=λ{h v x y} hx hy=>by
  cases x with
  |inl k =>
   cases y with
   |inl k'=>rw[R5 prog w hx hy]
   |inr ks=>obtain⟨a,rfl,_⟩:=hy;exact(R7 hx).elim
  |inr ks =>
   obtain⟨a,rfl,hxa⟩:=hx
   cases y with
   |inl k'=>exact(R7 hy).elim
   |inr ks'=>obtain⟨b,e,hyb⟩:=hy;cases e;rw[hxa.inj hyb]
 keeps:=λ{h h' k v d o es ep} hx ho hd hs=>by
  cases k with
  |inl k=>exact hx
  |inr ks=>obtain⟨a,rfl,hxa⟩:=hx;exact⟨a,rfl,hxa.keeps ho hd hs⟩
 pyHash:=λ{A E s k v Q} hu hx q=>by
  cases k with
  |inl k=>exact(IC prog w).pyHash (by show A.units+0<cLine;omega) hx q
  |inr ks=>obtain⟨a,rfl,hxa⟩:=hx;exact IA hu hxa q
 eq:=λhu hx hy=>aaX hu hx hy
 quiet:=λ{A E s k v Q n} hn hx q=>by
  cases k with
  |inl k=>exact(IC prog w).quiet (aeA _) hx q
  |inr ks=>obtain⟨a,rfl,hxa⟩:=hx;exact EJ hn hxa q
def tS(V:jJ prog w K)(hl:V.c7+1<=8):HeapKind prog w (List K) where
 is:=TupIs V
 hash:=Be V
 draws:=λks=>(ks.map V.draws).sum+1
 room:=λA=>A.units+(V.c7+1)<cLine
 inj:=λhx hy=>hx.inj hy
 keeps:=λx ho hd hs=>x.keeps ho hd hs
 pyHash:=λhu hk h=>IA hu hk h
 eqBool:=λhu hx hy h=>R4 hu hx hy prog w _ _ h
 quiet:=λhk h=>EJ hl hk h
end
section
variable{κ:Type}[DecidableEq κ]
theorem qs.xV{o:Option V}{u:Option Value}(r:qs o u):o.isSome=u.isSome:=by
 cases o with
 |none=>cases u with
  |none=>rfl
  |some _=>exact(show False from r).elim
 |some _=>cases u with
  |none=>exact(show False from r).elim
  |some _=>rfl
theorem KV.keys{kvs:List (κ×V)}{vs:List (κ×Value)}(r:KV kvs vs):kvs.map (·.1)=vs.map (·.1):=by
 unfold KV at r
 induction r with
 |nil=>rfl
 |cons h t ih=>rw[aeJ,aeJ,ih,h.1]
theorem KV.length{kvs:List (κ×V)}{vs:List (κ×Value)}(r:KV kvs vs):kvs.length=vs.length:=afm r
end
theorem aaY{P:Program}{w:World}{k:Key}{u:Value}(r:RelV (kV k) u):(oO P w).is k u=true:=by
 cases k with
 |inl i=>obtain⟨t,e⟩:=(show ∃t,u=Value.int i t from r);subst e;exact Ii P w i t
 |inr x=>obtain⟨t,e⟩:=(show ∃t,u=Value.str x t from r);subst e;exact Ij P w x t
section
variable{P:Program}{w:World}{H:Hp}{h:Heap}{a:Addr}
end
section
variable{X:Cx}{pins:List (Addr×Obj)}{σ:St}{H:Hp}{s:Shared}{a:Addr}{y v:V}{u r:Value}{o:Option V}{A:Around}{E:Value->Shared->Prop}
theorem Inv.big(I:Inv X pins σ H s):sysModules<s.heap.objs.size:=by
 have h:mainGlobals<s.heap.objs.size:=(I.mod.glob.keeps I.bk).lt
 exact Nat.lt_trans 'c' h
end
section
variable{X:Cx}{pins:List (Addr×Obj)}{σ:St}{H:Hp}{s:Shared}{a:Addr}{kvs:List (Key×V)}{k:Key}{u:Value}{A:Around}{E:Value->Shared->Prop}
end
def Yw(i:Expr):Prop:=∀ov iv,subscripted i false ov iv=operate [ov,iv] (getItem ov iv)
theorem Vo{prog:Program}{w:World}{A:Around}{E:Value->Shared->Prop}{s:Shared}{env:Env}{value slice:Expr}{pos:Pos}{T id:String}{Q:Value->Shared->Prop}(hl:typeLookup (.type T) "__getitem__"=pure (some (.builtin id)))(hs:Yw slice)(h:wpAny (model prog w) A (eval value env) (λo s₁=>wpAny (model prog w) A (eval slice env) (λi s₂=>s₂.TypeIs o T/\wpAny (model prog w) A (getItem o i) Q E s₂) E s₁) E s):wpAny (model prog w) A (eval (.Subscript value slice pos) env) Q E s:=by
 refine Subscript_ (ae8 h (λo s₁ h₁=>ae8 h₁ (λi s₂ h₂=>?_) λ_ _ x=>x) λ_ _ x=>x)
 obtain⟨hT,h₂⟩:=h₂
 unfold subscriptTail
 refine ad4 ?_
 rw[getitemInPython_of_ne hT.not_modules]
 refine ad4 (afv hT hl ?_)
 have fin:wpAny (model prog w) A (subscripted slice false o i) (λr s₃=>wpAny (model prog w) A (letTemporaryGo value o r >>= λ_=>pure r) Q E s₃) E s₂:=by
  rw[hs o i]
  exact wpAny_operating (ae8 h₂ (λr s₃ h₃=>ad4 (wpAny_letTemporaryGo (aea h₃))) λ_ _ x=>x)
 first
  |exact aea (ad4 fin)
  |exact ad4 (aea (ad4 fin))
  |exact ad4 fin
section
variable{X:Cx}{o i e value:Expr}{pos pos' tpos:Pos}{td ty tv:TE}
end
section
variable{X:Cx}{pos:Pos}
end
section
variable{X:Cx}{pins:List (Addr×Obj)}{σ:St}{H:Hp}{s:Shared}{a:Addr}{y d:V}{u r:Value}{o:Option V}{A:Around}{E:Value->Shared->Prop}
end
section
variable{X:Cx}{o e f:Expr}{apos cpos:Pos}{td ty tx:TE}
end
section
variable{X:Cx}{pins:List (Addr×Obj)}{σ:St}{H:Hp}{s:Shared}{a:Addr}{kvs:List (Key×V)}{A:Around}{E:Value->Shared->Prop}
end
section
variable{X:Cx}{pins:List (Addr×Obj)}{σ:St}{H:Hp}{s:Shared}{a:Addr}{y:V}{u:Value}{A:Around}{E:Value->Shared->Prop}
end
def lfV:Lf->V
 |none=>.non
 |some k=>kV k
theorem zu{α β γ:Type}{F:α->β->Prop}{G:β->γ->Prop}:∀{xs:List α}{ys:List β}{zs:List γ},Paired F xs ys->Paired G ys zs->Paired (λa c=>∃b,F a b/\G b c) xs zs
 |_,_,_,.nil,.nil=>.nil
 |_,_,_,.cons a r,.cons b q=>.cons ⟨_,a,b⟩ (zu r q)
section
variable{P:Program}{w:World}{K:Type}[DecidableEq K]
structure nP(F:W.Frag)(Z:jJ P w K) where
 on:Hp->K->V->Prop
 ok:∀{X:Cx}{pins:List (Addr×Obj)}{σ:St}{H:Hp}{s:Shared}{k:K}{v:V}{u:Value},X.K=F->Inv X pins σ H s->RelV v u->on H k v->Z.is s.heap k u
 keep:∀{H H':Hp}{k:K}{v:V},(∀b xs,aX F H b xs->aX F H' b xs)->on H k v->on H' k v
def oX{F:W.Frag}{Z:jJ P w K}(Y:nP F Z)(H:Hp)(ks:List K)(b:Addr):Prop:=∃vs,aX F H b vs/\Paired (λk v=>Y.on H k v) ks vs
variable{F:W.Frag}{Z:jJ P w K}{Y:nP F Z}{H H':Hp}{ks:List K}{b:Addr}
theorem oX.is{X:Cx}{pins:List (Addr×Obj)}{σ:St}{s:Shared}(hF:X.K=F)(I:Inv X pins σ H s)(e:oX Y H ks b):TupIs Z s.heap ks b:=by
 obtain⟨vs,e,r⟩:=e
 obtain⟨its,rv,⟨o,h1,h2,n,h3⟩,_⟩:=I.tuple (by rw[hF];exact e)
 exact⟨o,its.toArray,n,h1,h2,h3,by simpa using Paired.Q4 (zu r rv) (λk u ⟨v,a,c⟩=>Y.ok hF I c a)⟩
theorem oX.keep(t:∀b xs,aX F H b xs->aX F H' b xs)(e:oX Y H ks b):oX Y H' ks b:=by
 obtain⟨vs,e,r⟩:=e
 exact⟨vs,t _ _ e,Paired.Q4 r λk v q=>Y.keep t q⟩
theorem oX.mono(s:∀a o,H a=some o->H' a=some o)(e:oX Y H ks b):oX Y H' ks b:=e.keep λb xs q=>by
 rcases q with (q|⟨o,q⟩)|q
 ·exact .inl (.inl (s _ _ q))
 ·exact .inl (.inr ⟨o,s _ _ q⟩)
 ·exact .inr q
end
def R8(P:Program)(w:World)(F:W.Frag):nP F (IC P w) where
 on:=λ_ k v=>v=lfV k
 ok:=λ{X pins σ H s k v u} _ _ r e=>by
  subst e
  cases k with
  |none=>cases r;rfl
  |some k=>exact aaY (P:=P) (w:=w) r
 keep:=λ_ e=>e
section
variable{P:Program}{w:World}{K:Type}[DecidableEq K]
def acj{F:W.Frag}{Z:jJ P w K}(Y:nP F Z)(H:Hp):Lf⊕List K->V->Prop
 | .inl k,v=>v=lfV k
 | .inr ks,v=>∃b,v=.ref b/\oX Y H ks b
def ID{F:W.Frag}{Z:jJ P w K}(Y:nP F Z):nP F (stepK Z) where
 on:=acj Y
 ok:=λ{X pins σ H s k v u} hF I r e=>by
  cases k with
  |inl k=>exact(R8 P w F).ok hF I r e
  |inr ks =>
   obtain⟨b,rfl,e⟩:=e
   cases r
   exact⟨b,O,e.is hF I⟩
 keep:=λ{H H' k v} t e=>by
  cases k with
  |inl k=>exact e
  |inr ks=>obtain⟨b,rfl,e⟩:=e;exact⟨b,rfl,e.keep t⟩
abbrev N3(K:Type):=List K×Addr×V
abbrev xW:List (N3 K)->List (List K×Addr×Value)->Prop:=Paired λp q=>p.1=q.1/\p.2.1=q.2.1/\RelV p.2.2 q.2.2
def zv(Z:jJ P w K)(hl:Z.c7+1<=8)(a:Addr)(kvs:List (N3 K))(h:Heap):Prop :=
 kvs.length<=sizeLine/\(a==sysModules)=false/\∃xs,xW kvs xs/\∃o es ep,h.get? a=some o/\o.ExactDict/\o.data=.dict es ep/\es.toList=xs.map (entryOfKey (tS Z hl))/\(xs.map (·.1)).Nodup
def dN(Z:jJ P w K)(hl:Z.c7+1<=8)(a:Addr)(kvs:List (N3 K)):HO:=.ext (zv Z hl a kvs)
structure Nd{F:W.Frag}{Z:jJ P w K}(Y:nP F Z)(hl:Z.c7+1<=8)(H:Hp)(a:Addr)(kvs:List (N3 K)):Prop where
 ob:H a=some (dN Z hl a kvs)
 keys:∀e∈kvs,oX Y H e.1 e.2.1
variable{F:W.Frag}{Z:jJ P w K}{Y:nP F Z}{hl:Z.c7+1<=8}{H H':Hp}{h:Heap}{a b:Addr}{kvs:List (N3 K)}
theorem Nd.mono(s:∀a o,H a=some o->H' a=some o)(d:Nd Y hl H a kvs):Nd Y hl H' a kvs:=⟨s _ _ d.ob,λe he=>(d.keys e he).mono s⟩
theorem IE{xs:List (List K×Addr×Value)}:∀{kvs:List (N3 K)},xW kvs xs->∀q∈xs,∃p∈kvs,p.1=q.1/\p.2.1=q.2.1:=by
 intro kvs r
 induction r with
 |nil=>intro q hq;cases hq
 |cons a r ih =>
  intro q hq
  rcases aeh.mp hq with rfl|hq
  ·exact⟨_,aew ..,a.1,a.2.1⟩
  ·obtain⟨p,hp,e⟩:=ih q hq
   exact⟨p,aer _ hp,e⟩
theorem Nd.of{X:Cx}{K:Type}[DecidableEq K]{F:W.Frag}{Z:jJ X.prog X.w K}{Y:nP F Z}{hl:Z.c7+1<=8}{H:Hp}{a:Addr}{kvs:List (N3 K)}{pins:List (Addr×Obj)}{σ:St}{s:Shared}(hF:X.K=F)(I:Inv X pins σ H s)(d:Nd Y hl H a kvs):kvs.length<=sizeLine/\(a==sysModules)=false/\∃xs,xW kvs xs/\s.heap.DictOfH (tS Z hl) a xs:=by
 obtain⟨⟨z,y,xs,r,o,es,ep,h1,h2,h3,h4,h5⟩,_⟩:=(show cM X.prog X.w H s.heap a (dN Z hl a kvs) from I.hok a _ d.ob)
 refine⟨z,y,xs,r,o,es,ep,h1,h2,h3,h4,λx hx=>?_,h5⟩
 obtain⟨p,hp,e1,e2⟩:=IE r x hx
 have:=(d.keys p hp).is hF I
 rw[e1,e2]at this
 exact this
theorem NO{h':Heap}{xs:List (List K×Addr×Value)}(z:kvs.length<=sizeLine)(y:(a==sysModules)=false)(r:xW kvs xs)(dd:h'.DictOfH (tS Z hl) a xs):cM P w H h' a (dN Z hl a kvs):=by
 obtain⟨o,es,ep,h1,h2,h3,h4,_,h5⟩:=dd
 refine⟨⟨z,y,xs,r,o,es,ep,h1,h2,h3,h4,h5⟩,⟨o,h1⟩,λg1 g2 q k=>?_⟩
 obtain⟨z,y,xs,r,o,es,ep,h1,h2,h3,h4,h5⟩:=q
 exact⟨z,y,xs,r,o,es,ep,k _ h1,h2,h3,h4,h5⟩
def valN(kvs:List (N3 K))(k:List K):Option V:=(kvs.find? λx=>decide (x.1=k)).map (·.2.2)
theorem qK{k:List K}:∀{kvs:List (N3 K)}{xs:List (List K×Addr×Value)},xW kvs xs->qs (valN kvs k) ((atKey xs k).map (·.2))
 |_,_,.nil=>trivial
 |p::kvs,q::xs,.cons a r=>by
  have ih:=qK (k:=k) r
  unfold valN atKey at ih⊢
  rw[ae4,ae4,a.1]
  by_cases e:q.1=k
  ·rw[aeb e];exact a.2.2
  ·rw[aeg e];exact ih
def putN(kvs:List (N3 K))(k:List K)(b:Addr)(v:V):List (N3 K):=if (valN kvs k).isSome=true then kvs.map (λx=>if x.1=k then (x.1,x.2.1,v) else x) else kvs++[(k,b,v)]
theorem nU{k:List K}{v:V}(h:valN kvs k=none):putN kvs k b v=kvs++[(k,b,v)]:=by unfold putN;rw[h];rfl
theorem IF{k:List K}{v:V}{u:Value}(rv:RelV v u):∀{kvs:List (N3 K)}{xs:List (List K×Addr×Value)},xW kvs xs->xW (kvs.map (λx=>if x.1=k then (x.1,x.2.1,v) else x)) (xs.map (putAt k u))
 |_,_,.nil=>.nil
 |p::kvs,q::xs,.cons a r=>by
  refine .cons ?_ (IF rv r)
  unfold putAt
  by_cases e:q.1=k
  ·rw[aee e,show(λx:N3 K=>if x.1=k then (x.1,x.2.1,v) else x) p=(p.1,p.2.1,v) from aee (a.1.trans e)];exact⟨a.1,a.2.1,rv⟩
  ·rw[ad5 e,show(λx:N3 K=>if x.1=k then (x.1,x.2.1,v) else x) p=p from ad5 (λq=>e (a.1.symm.trans q))];exact a
theorem IG{kvs':List (N3 K)}{xs':List (List K×Addr×Value)}:∀{kvs:List (N3 K)}{xs:List (List K×Addr×Value)},xW kvs xs->xW kvs' xs'->xW (kvs++kvs') (xs++xs')
 |_,_,.nil,q=>q
 |_,_,.cons a r,q=>.cons a (IG r q)
theorem R9{k:List K}{v:V}{u:Value}{xs:List (List K×Addr×Value)}(r:xW kvs xs)(rv:RelV v u):xW (putN kvs k b v) (storedH xs k b u):=by
 have q:=(qK (k:=k) r).xV
 rw[Option.isSome_map]at q
 unfold putN storedH
 by_cases e:(valN kvs k).isSome=true
 ·rw[aee e,aee (by rw[←q];exact e)];exact IF rv r
 ·rw[ad5 e,ad5 (by rw[←q];exact e)];exact IG r (.cons ⟨rfl,rfl,rv⟩ .nil)
theorem Sa{k:List K}{v:V}:(putN kvs k b v).length<=kvs.length+1:=by
 unfold putN
 split
 ·rw[aec];omega
 ·rw[aef];exact ad6 _
theorem jK(d:H a=some (dN Z hl a kvs)){o:HO}:∀c xs,aX F H c xs->aX F (upd H a o) c xs:=λc xs e=>by
 rcases e with (e|⟨ob,e⟩)|e
 ·exact .inl (.inl ((az (dP e d (λq=>nomatch q))).trans e))
 ·exact .inl (.inr ⟨ob,(az (dP e d (λq=>nomatch q))).trans e⟩)
 ·exact .inr e
theorem Nd.put{k:List K}{v:V}(d:Nd Y hl H a kvs)(e:oX Y H k b):Nd Y hl (upd H a (dN Z hl a (putN kvs k b v))) a (putN kvs k b v):=by
 refine⟨ai,λp hp=>?_⟩
 have t:=jK (F:=F) d.ob (o:=dN Z hl a (putN kvs k b v))
 unfold putN at hp
 split at hp
 ·obtain⟨x,hx,rfl⟩:=aeR.mp hp
  have:=(d.keys x hx).keep t
  split<;>exact this
 ·rcases aej.mp hp with q|q
  ·exact(d.keys p q).keep t
  ·rw[ad7.mp q];exact e.keep t
end
section
variable{X:Cx}{K:Type}[DecidableEq K]{F:W.Frag}{Z:jJ X.prog X.w K}{Y:nP F Z}{hl:Z.c7+1<=8}{pins:List (Addr×Obj)}{σ:St}{H:Hp}{s:Shared}{a b:Addr}{kvs:List (N3 K)}{k:List K}{v:V}{r:Value}{A:Around}{E:Value->Shared->Prop}
theorem OP{Q:Value->Shared->Prop}(hu:A.units+1+(Z.c7+1)<cLine)(hF:X.K=F)(I:Inv X pins σ H s)(d:Nd Y hl H a kvs)(e:oX Y H k b)(g:valN kvs k=some v)(h:∀w' s',Inv X pins σ H s'->RelV v w'->Q w' s'):wpAny 'g' A (getItem (.ref a) (.ref b)) Q E s:=by
 obtain⟨z,y,xs,rel,dd⟩:=d.of hF I
 obtain⟨w',hw,rw'⟩:=qs.some_of (v:=v) (o:=(atKey xs k).map (·.2)) (by rw[←g];exact qK rel)
 obtain⟨p,hp,hp2⟩:=Option.map_eq_some_iff.mp hw
 refine wpAny_getItem_heap (knd:=tS Z hl) hu (e.is hF I) dd hp ?_
 rw[hp2]
 exact h w' _ (I.tok _) rw'
theorem Vp{Q:Value->Shared->Prop}(hu:A.units+1+(Z.c7+1)<cLine)(hF:X.K=F)(I:Inv X pins σ H s)(d:Nd Y hl H a kvs)(e:oX Y H k b)(h:∀s',Inv X pins σ H s'->Q (.bool (!(valN kvs k).isSome)) s'):wpAny 'g' A (compareOp .NotIn (.ref b) (.ref a)) Q E s:=by
 obtain⟨z,y,xs,rel,dd⟩:=d.of hF I
 refine wpAny_notIn_heap (knd:=tS Z hl) hu (e.is hF I) y dd ?_
 have q:=(qK (k:=k) rel).xV
 rw[Option.isSome_map]at q
 rw[←q]
 exact h _ (I.tok _)
theorem OQ{Q:Unit->Shared->Prop}(hu:A.units+1+(Z.c7+1)<cLine)(hF:X.K=F)(I:Inv X pins σ H s)(d:Nd Y hl H a kvs)(e:oX Y H k b)(hz:kvs.length<sizeLine)(rv:RelV v r)(h:∀s',Inv X pins σ (upd H a (dN Z hl a (putN kvs k b v))) s'->Q () s'):wpAny 'g' A (setItem (.ref a) (.ref b) r) Q E s:=by
 obtain⟨z,y,xs,rel,dd⟩:=d.of hF I
 have hxz:xs.length<=sizeLine:=by rw[←afm rel];exact z
 refine wpAny_setItem_heap (knd:=tS Z hl) (hsz:=hxz) hu (e.is hF I) dd λh' dd' hs=>h _ ?_
 have he:∃q,h'.get? a=some q:=let ⟨q,_,_,hq,_⟩:=dd';⟨q,hq⟩
 have:=Sa (kvs:=kvs) (k:=k) (b:=b) (v:=v)
 exact I.write (x:=a) (e:=a) (by rw[d.ob];exact True.intro) (.inl rfl) (λc q hc z=>(hs.2 c hc).trans z) he (NO 'f' y (R9 rel rv) dd')
variable{o i value kx:Expr}{pos pos':Pos}{td ty tv:TE}
def Xg{P:Program}{w:World}{K:Type}[DecidableEq K]{F:W.Frag}{Z:jJ P w K}(Y:nP F Z)(hl:Z.c7+1<=8)(td ty:TE):TE:=λσ H Q=>td σ H λx H1=>ty σ H1 λy H2=>∃a kvs k b v,x=.ref a/\y=.ref b/\Nd Y hl H2 a kvs/\oX Y H2 k b/\valN kvs k=some v/\Q v H2
def NP{P:Program}{w:World}{K:Type}[DecidableEq K]{F:W.Frag}{Z:jJ P w K}(Y:nP F Z)(hl:Z.c7+1<=8)(ty td:TE):TE:=λσ H Q=>ty σ H λy H1=>td σ H1 λx H2=>∃a kvs k b,x=.ref a/\y=.ref b/\Nd Y hl H2 a kvs/\oX Y H2 k b/\Q (.bl (!(valN kvs k).isSome)) H2
def Xh{P:Program}{w:World}{K:Type}[DecidableEq K]{F:W.Frag}{Z:jJ P w K}(Y:nP F Z)(hl:Z.c7+1<=8)(td ty tv:TE):TS:=λD σ H=>tv σ H λv H1=>td σ H1 λx H2=>ty σ H2 λy H3=>∃a kvs k b,x=.ref a/\y=.ref b/\Nd Y hl H3 a kvs/\oX Y H3 k b/\kvs.length<sizeLine/\D.nx σ (upd H3 a (dN Z hl a (putN kvs k b v)))
def Xi{P:Program}{w:World}{K:Type}[DecidableEq K]{F:W.Frag}{Z:jJ P w K}(Y:nP F Z)(hl:Z.c7+1<=8)(tk tv:TE):TE:=λσ H Q=>∀p,H p=none->tk σ (upd H p (dN Z hl p [])) λy H1=>tv σ H1 λv H2=>∃k b,y=.ref b/\H2 p=some (dN Z hl p [])/\oX Y H2 k b/\Q (.ref p) (upd H2 p (dN Z hl p [(k,b,v)]))
theorem Vq(Y:nP F Z)(hl:Z.c7+1<=8)(hF:X.K=F)(hu:X.A.units+1+(Z.c7+1)<cLine)(ho:PE X o td)(hi:PE X i ty)(hs:Yw i):PE X (.Subscript o i pos) (Xg Y hl td ty):=by
 intro pins s σ H Q I h
 refine Vo PySem.F.slot_dict_getitem.lookup hs (cS (ho pins s σ H _ I h) λu s1 ⟨x,H1,I1,rx,q1⟩=>cS (hi pins s1 σ H1 _ I1 q1) λiv s2 ⟨y,H2,I2,ry,a,kvs,k,b,v,ex,ey,d,e,g,q2⟩=>?_)
 subst ex ey
 obtain rfl:u=Value.ref a:=rx
 obtain rfl:iv=Value.ref b:=ry
 obtain⟨_,_,xs,_,dd⟩:=d.of hF I2
 exact⟨dd.typeIs,OP hu hF I2 d e g λw' s3 I3 rw'=>⟨v,H2,I3,rw',q2⟩⟩
theorem OR(Y:nP F Z)(hl:Z.c7+1<=8)(hF:X.K=F)(hu:X.A.units+1+(Z.c7+1)<cLine)(hi:PE X i ty)(ho:PE X o td):PC X .NotIn i o (NP Y hl ty td):=by
 intro pins s σ H Q I h
 refine cS (hi pins s σ H _ I h) λiv s1 ⟨y,H1,I1,ry,q1⟩=>cS (ho pins s1 σ H1 _ I1 q1) λu s2 ⟨x,H2,I2,rx,a,kvs,k,b,ex,ey,d,e,q2⟩=>?_
 subst ex ey
 obtain rfl:u=Value.ref a:=rx
 obtain rfl:iv=Value.ref b:=ry
 exact Vp hu hF I2 d e λs3 I3=>⟨.bl (!(valN kvs k).isSome),H2,I3,rfl,q2⟩
theorem Vr(Y:nP F Z)(hl:Z.c7+1<=8)(hF:X.K=F)(hu:X.A.units+1+(Z.c7+1)<cLine)(ho:PE X o td)(hi:PE X i ty)(hv:PE X value tv)(hs:swapsWith value (some (.Subscript o i pos')) pos.line X.env=pure false):PS X (.Assign [.Subscript o i pos'] value pos) (Xh Y hl td ty tv):=by
 intro pins s σ H D I h
 refine wpAny_Assign_Subscript (cS (hv pins s σ H _ I h) λr s1 ⟨v,H1,I1,rv,q1⟩=>cS (ho pins s1 σ H1 _ I1 q1) λu s2 ⟨x,H2,I2,rx,q2⟩=>cS (hi pins s2 σ H2 _ I2 q2) λiv s3 ⟨y,H3,I3,ry,a,kvs,k,b,ex,ey,d,e,hz,q3⟩=>?_) hs
 subst ex ey
 obtain rfl:u=Value.ref a:=rx
 obtain rfl:iv=Value.ref b:=ry
 exact OQ hu hF I3 d e hz rv λs4 I4=>⟨σ,_,I4,q3⟩
theorem Sb(Y:nP F Z)(hl:Z.c7+1<=8)(hF:X.K=F)(hu:X.A.units+(Z.c7+1)<cLine){tk:TE}(hk:PE X kx tk)(hv:PE X value tv):PE X (.Dict [some kx] [value] pos) (Xi Y hl tk tv):=by
 intro pins s σ H Q I q
 have hn:=I.hok.fresh (ad6 s.heap.objs.size)
 have y0:(s.heap.objs.size==sysModules)=false:=afM.mpr (afa (aeH I.big))
 have I1:=I.laid (a:=s.heap.objs.size) (o:=dN Z hl s.heap.objs.size []) (h':=s.heap.push {cls:=.type "dict",data:=.dict #[]}) (t':=s.toks) (λ_ _ q=>ad9 _ q) (ad6 _) (NO (xs:=[]) (aeA _) y0 .nil (Heap.DictOfH.new s.heap))
 refine wpAny_Dict_any rfl rfl (λz=>nomatch z) (by show 1<=15;decide) (pairTrees_cons_walk (cS (hk pins _ σ _ _ I1 (q _ hn)) λu s1 ⟨x,H1,I1',rx,q1⟩=>cS (hv pins s1 σ H1 _ I1' q1) λvu s2 ⟨v,H2,I2,rv,k,b,ex,e,ek,q2⟩=>pairTrees_nil_walk ?_))
 subst ex
 obtain rfl:u=Value.ref b:=rx
 have d0:Nd Y hl H2 s.heap.objs.size []:=⟨e,λx hx=>nomatch hx⟩
 obtain⟨z,y,xs,rel,dd⟩:=d0.of hF I2
 cases rel
 unfold storeAll
 refine wpAny_forIn_list _ (λrest _ s'=>(rest=[(Value.ref b,vu)]/\s'=s2)\/(rest=[]/\EP X pins σ Q (Value.ref s.heap.objs.size) s')) _ ?_ ?_ _ _ (.inl ⟨rfl,rfl⟩)
 ·rintro x rest u s' (⟨e1,rfl⟩|⟨e1,_⟩)
  ·cases e1
   refine ad4 (wpAny_dictSet_heap (knd:=tS Z hl) (hsz:=aeA _) hu (ek.is hF I2) dd λh' dd' hs=>aea (.inr ⟨rfl,.ref s.heap.objs.size,_,?_,rfl,q2⟩))
   have he:∃q,h'.get? s.heap.objs.size=some q:=let ⟨q,_,_,hq,_⟩:=dd';⟨q,hq⟩
   exact I2.write (x:=s.heap.objs.size) (e:=s.heap.objs.size) (by rw[e];exact True.intro) (.inl rfl) (λc q hc z=>(hs.2 c hc).trans z) he (NO (by show 1<=sizeLine;decide) y (.cons ⟨rfl,rfl,rv⟩ .nil) dd')
  ·cases e1
 ·rintro u s' (⟨e1,_⟩|⟨_,q⟩)
  ·cases e1
  ·exact q
end
section
variable{X:Cx}{K:Type}[DecidableEq K]{F:W.Frag}{Z:jJ X.prog X.w K}
def ack{P:Program}{w:World}{K:Type}[DecidableEq K]{F:W.Frag}{Z:jJ P w K}(Y:nP F Z):R2:=λx y H Q=>∃b b' ks ks',x=.ref b/\y=.ref b'/\oX Y H ks b/\oX Y H ks' b'/\Q (.bl (decide (ks=ks'))) H
theorem BF(Y:nP F Z)(hF:X.K=F)(hu:X.A.units+(Z.c7+1)<cLine):kF X (compareOp .Eq) (ack Y):=by
 intro pins s σ H x y v u Q I rx ry h
 obtain⟨b,b',ks,ks',rfl,rfl,e1,e2,q⟩:=h
 cases rx;cases ry
 obtain⟨o,items,n,h1,h2,h3,h4⟩:=e1.is hF I
 obtain⟨o',items',n',UO,h2',h3',h4'⟩:=e2.is hF I
 have l1:ks.length=items.size:=by rw[afm h4,aeq]
 have l2:ks'.length=items'.size:=by rw[afm h4',aeq]
 refine SeqAt.eq_tupleAt (e:=λj=>decide (ks[j]?=ks'[j]?)) ⟨o,h1,h2,n,h3⟩ ⟨o',UO,h2',n',h3'⟩ 'f' (λj j1 j2=>?_) ⟨.bl (decide (ks=ks')),H,I,?_,q⟩
 ·obtain⟨k,ek,hk⟩:=kJ h4 j items[j] (by simp[j1])
  obtain⟨k',ek',hk'⟩:=kJ h4' j items'[j] (by simp[j2])
  rw[ek,ek',show decide (some k=some k')=decide (k=k') by simp]
  exact Z.eq (by show X.A.units+1+Z.c7<cLine;omega) hk hk'
 ·show Value.bool _=Value.bool _
  rw[←l1,←l2,BE]
end
abbrev ZM(P:Program)(w:World):=stepK (IC P w)
abbrev YL(P:Program)(w:World)(F:W.Frag):=R8 P w F
abbrev YM(P:Program)(w:World)(F:W.Frag):nP F (ZM P w):=ID (R8 P w F)
theorem bI(P:Program)(w:World):(ZM P w).c7+1<=8:=by show 2<=8;decide
theorem hn0{A:Around}{P:Program}{w:World}(h:A.units+64<cLine):A.units+((IC P w).c7+1)<cLine:=by show A.units+1<cLine;omega
theorem hn1{A:Around}{P:Program}{w:World}(h:A.units+64<cLine):A.units+((ZM P w).c7+1)<cLine:=by show A.units+2<cLine;omega
theorem hn2{A:Around}{P:Program}{w:World}(h:A.units+64<cLine):A.units+1+((ZM P w).c7+1)<cLine:=by show A.units+1+2<cLine;omega
def II(k s:Str):List Lf:=[some (.inr k),some (.inr s)]
def cA(m:(Str×Str)×Nat):List (Lf⊕List Lf):=[.inr (II m.1.1 m.1.2),.inl (some (.inl m.2))]
theorem gi{k s k' s':Str}:II k s=II k' s'↔(k,s)=(k',s'):=by
 unfold II
 constructor
 ·intro h;injection h with h1 h2;injection h2 with h2 _;injection h1 with h1;injection h2 with h2;injection h1 with h1;injection h2 with h2;rw[h1,h2]
 ·intro h;injection h with h1 h2;rw[h1,h2]
theorem nV{m m':(Str×Str)×Nat}:cA m=cA m'↔m=m':=by
 unfold cA
 constructor
 ·intro h
  injection h with h1 h2
  injection h2 with h2 _
  injection h1 with h1
  injection h2 with h2;injection h2 with h2;injection h2 with h2
  have e:=gi.mp h1
  obtain⟨⟨a,b⟩,n⟩:=m
  obtain⟨⟨a',b'⟩,n'⟩:=m'
  injection e with e1 e2
  have h2:n=n':=Int.ofNat.inj h2
  simp only at e1 e2
  rw[e1,e2,h2]
 ·rintro rfl;rfl
section
variable{P:Program}{w:World}{F:W.Frag}{H:Hp}
theorem kh{a:Addr}{k s:Str}(h:aX F H a [.str k,.str s]):oX (YL P w F) H (II k s) a:=⟨_,h,.cons rfl (.cons rfl .nil)⟩
theorem iC{b s:Addr}{m:(Str×Str)×Nat}(h:aX F H b [.ref s,.int m.2])(h2:aX F H s [.str m.1.1,.str m.1.2]):oX (YM P w F) H (cA m) b:=⟨_,h,.cons ⟨s,rfl,kh h2⟩ (.cons rfl .nil)⟩
end
section
variable{X:Cx}{P:Program}{w:World}{K:Type}[DecidableEq K]{F:W.Frag}{Z:jJ P w K}{o i value kx:Expr}{pos pos':Pos}{td ty tv tk:TE}
theorem vI(Y:nP F Z)(hl:Z.c7+1<=8)(hP:X.prog=P)(hw:X.w=w)(hF:X.K=F)(hu:X.A.units+1+(Z.c7+1)<cLine)(ho:PE X o td)(hi:PE X i ty)(hs:Yw i):PE X (.Subscript o i pos) (Xg Y hl td ty):=by
 subst hP hw;exact Vq Y hl hF hu ho hi hs
theorem uO(Y:nP F Z)(hl:Z.c7+1<=8)(hP:X.prog=P)(hw:X.w=w)(hF:X.K=F)(hu:X.A.units+1+(Z.c7+1)<cLine)(hi:PE X i ty)(ho:PE X o td):PC X .NotIn i o (NP Y hl ty td):=by
 subst hP hw;exact OR Y hl hF hu hi ho
theorem BG(Y:nP F Z)(hl:Z.c7+1<=8)(hP:X.prog=P)(hw:X.w=w)(hF:X.K=F)(hu:X.A.units+1+(Z.c7+1)<cLine)(ho:PE X o td)(hi:PE X i ty)(hv:PE X value tv)(hs:swapsWith value (some (.Subscript o i pos')) pos.line X.env=pure false):PS X (.Assign [.Subscript o i pos'] value pos) (Xh Y hl td ty tv):=by
 subst hP hw;exact Vr Y hl hF hu ho hi hv hs
theorem EK(Y:nP F Z)(hl:Z.c7+1<=8)(hP:X.prog=P)(hw:X.w=w)(hF:X.K=F)(hu:X.A.units+(Z.c7+1)<cLine)(hk:PE X kx tk)(hv:PE X value tv):PE X (.Dict [some kx] [value] pos) (Xi Y hl tk tv):=by
 subst hP hw;exact Sb Y hl hF hu hk hv
end
section
variable{X:Cx}
def aaZ(K:W.Frag):R2:=λx y H Q=>((x=.non/\∃a xs,y=.ref a/\aT K H a xs)\/(y=.non/\∃a xs,x=.ref a/\aT K H a xs))/\Q (.bl true) H
theorem Yx(K:W.Frag)(hK:X.K=K)(hu:X.A.units<cLine):kF X (compareOp .NotEq) (aaZ K):=by
 subst hK
 intro pins s σ H x y v u Q I rx ry h
 obtain⟨h,q⟩:=h
 rcases h with ⟨rfl,a,xs,rfl,ha⟩|⟨rfl,a,xs,rfl,ha⟩
 ·cases rx;cases ry
  obtain⟨its,r1,p1,_⟩:=I.list ha
  show wpAny _ _ (richCompare .NotEq .none (.ref a)) _ _ _
  exact SeqAt.RcNeAt.none_list p1.isList hu _ _ _ _ ⟨.bl true,H,I,rfl,q⟩
 ·cases rx;cases ry
  obtain⟨its,r1,p1,_⟩:=I.list ha
  show wpAny _ _ (richCompare .NotEq (.ref a) .none) _ _ _
  exact SeqAt.RcNeAt.list_none p1.isList hu _ _ _ _ ⟨.bl true,H,I,rfl,q⟩
theorem Lm:kF X (compareOp .Is) (λx y H Q=>∃a b,x=.bl a/\y=.bl b/\Q (.bl (a==b)) H):=by
 intro pins s σ H x y v u Q I rx ry h
 obtain⟨a,b,rfl,rfl,q⟩:=h
 cases rx
 cases ry
 refine wpAny_is_plain (by cases a<;>cases b<;>rfl) (bK I q ?_)
 cases a<;>cases b<;>rfl
end
section
variable{X:Cx}
def aa0(K:W.Frag):R2:=λx y H Q=>((x=.non/\∃a xs,y=.ref a/\aT K H a xs)\/(y=.non/\∃a xs,x=.ref a/\aT K H a xs))/\Q (.bl false) H
theorem Yy(K:W.Frag)(hK:X.K=K)(hu:X.A.units<cLine):kF X (compareOp .Eq) (aa0 K):=by
 subst hK
 intro pins s σ H x y v u Q I rx ry h
 obtain⟨h,q⟩:=h
 rcases h with ⟨rfl,a,xs,rfl,ha⟩|⟨rfl,a,xs,rfl,ha⟩
 ·cases rx;cases ry
  obtain⟨its,r1,p1,_⟩:=I.list ha
  show wpAny _ _ (richCompare .Eq .none (.ref a)) _ _ _
  exact SeqAt.RcAt.none_list p1.isList hu _ _ _ _ ⟨.bl false,H,I,rfl,q⟩
 ·cases rx;cases ry
  obtain⟨its,r1,p1,_⟩:=I.list ha
  show wpAny _ _ (richCompare .Eq (.ref a) .none) _ _ _
  exact SeqAt.RcAt.list_none p1.isList hu _ _ _ _ ⟨.bl false,H,I,rfl,q⟩
end
section
variable{X:Cx}{K:Type}[DecidableEq K]{F:W.Frag}{Z:jJ X.prog X.w K}
end
section
variable{prog:Program}{w:World}{A:Around}{E:Value->Shared->Prop}{s:Shared}
theorem Ag{R:Result->Shared->Prop}(hh:A.handled=none){I l:Addr}{items:List Value}(hne:l≠I)(hit:s.heap.IsRevIter I l ((items.toArray.size:Int)-1))(hl:s.heap.IsList l items.toArray)(hn:items.toArray.size<=sizeLine)(hR:∀h' tk acc' c',(∀b o,b≠I->s.heap.get? b=some o->h'.get? b=some o)->h'.get? s.heap.objs.size=some {cls:=.type "list",dict:=none,data:=.seq acc' c',slots:=#[]}->acc'.toList=items.reverse->R (.ok (.ret (.ref s.heap.objs.size))) {s with heap:=h',toks:=tk}):codeAny (model prog w) A (.builtin "proto.collect" ⟨[.ref I],[]⟩) R s:=by
 refine codeAny_builtin F.entry_proto_collect ?_;rw[Around.under_plainId F.plain_proto_collect _]
 show wpAny _ A.in1 (newList [] >>= λl=>again (.builtin "list.__iadd__" ⟨[l,.ref I],[]⟩)) _ _ s;refine ad4 (ae0 ?_)
 refine aea ⟨plainId_quiet F.plain_list_iadd _,codeAny_builtin F.entry_list_iadd ?_⟩
 rw[Around.under_plainId F.plain_list_iadd _]
 have hS:(s.heap.push {cls:=.type "list",data:=.seq #[]}).get? s.heap.objs.size=some {cls:=.type "list",data:=.seq #[]}:=ael _ rfl
 have hlt:l<s.heap.objs.size:=by obtain⟨o,ho,_⟩:=hl;exact aei ho
 show wpAny _ A.in1 (Builtin.List.listExtendWith (.ref s.heap.objs.size) (.ref I) (.ref s.heap.objs.size)) _ _ _
 exact Lh (R:=R) (s:={s with heap:=s.heap.push {cls:=.type "list",data:=.seq #[]}}) hh hne (hit.at λo e=>ad9 _ e) (hl.at λo e=>ad9 _ e) _ (afF hlt) _ _ hS hn λh' tk acc' c' hk hS' hacc =>
  hR h' tk acc' c' (λb o hb e=>hk b o (aeH (aei e)) hb (ad9 _ e)) hS' (OG hacc)
theorem IJ{Q:List Value->Shared->Prop}(hh:A.handled=none){I l:Addr}{items:List Value}(hne:l≠I)(hit:s.heap.IsRevIter I l ((items.toArray.size:Int)-1))(hl:s.heap.IsList l items.toArray)(hn:items.toArray.size<=sizeLine)(hQ:∀h' tk,(∀b o,b≠I->s.heap.get? b=some o->h'.get? b=some o)->Q items.reverse {s with heap:=h',toks:=tk}):wpAny (model prog w) A (collect (.ref I)) Q E s:=by
 unfold collect
 refine ad4 (wpAny_runValue (Ag hh hne hit hl hn λh' tk acc' c' hk hS' hacc=>?_))
 show wpAny _ A (load s.heap.objs.size >>= _) _ _ _
 refine ad4 (wpAny_load hS' (aea ?_))
 show Q acc'.toList _
 rw[hacc]
 exact hQ h' tk hk
theorem Sd{x:Str}{t:Tok}{Q:Value->Shared->Prop}(hh:A.handled=none){I l:Addr}{items:List Value}{ys:List Str}(hne:l≠I)(hit:s.heap.IsRevIter I l ((items.toArray.size:Int)-1))(hl:s.heap.IsList l items.toArray)(hn:items.toArray.size<=sizeLine)(hi:StrsAre items.reverse ys)(hok:(ys.map (·.length)).sum+ys.length*x.length<=16777216)(hQ:∀h' t' k,(∀b o,b≠I->s.heap.get? b=some o->h'.get? b=some o)->Q (.str (Txt.join x ys) t') {s with heap:=h',toks:=k}):wpAny (model prog w) A (call (.builtin "str.join") [.str x t,.ref I]) Q E s:=by
 refine wpAny_call (codeAny_call_builtin F.slot_str_join.plain F.entry_str_join (F.slot_str_join.check _ _ _ _ _ _ _ _ (typeIs_str _ _ _) (F.args_str_join_2 _ _) ?_))
 rw[join_tree_other]
 refine ad4 (wpAny_typeOf hit.typeIs ?_)
 show wpAny _ A.in1 ((pyIter (.ref I)).tryCatch _ >>= λit=>collect it >>= λitems=>joinTail x items) _ _ s
 refine ad4 (wpAny_tryCatch (wpAny_pyIter_revIter hit ?_))
 refine ad4 (IJ (A:=A.in1) hh hne hit hl hn λh' tk hk=>?_)
 obtain⟨lt,hv,ht⟩:=strsAre_values hi
 rw[hv]
 have ok:=joinOk_of hok
 subst ht
 unfold JoinOk at ok
 rw[Bool.not_eq_true']at ok
 have g:Gives (joinTail x (strValues lt)) (joinMade x lt):=by
  have g0:=gives_joinTail x lt ok
  cases lt with
  |nil=>exact g0
  |cons p r=>cases r with
   |nil=>exact g0
   |cons q r'=>exact g0
 exact g prog w A (wants Q E) _ (post_join lt ⟨joinFit_length ok,λt' k=>hQ h' t' k hk⟩)
end
section
variable{X:Cx}{e:Expr}
inductive BH(K:W.Frag)(ta:TA)(σ:St)(Q:VK)(x:V)(H0:Hp):Prop where
 |mk z:(x=.str z)->(ta σ H0 λvs H1=>∃p,∃ys:List Str,vs=[.ref p]/\aT K H1 p (ys.map V.str)/\(ys.map (·.length)).sum+ys.length*z.length<=16777216/\Q (.str (Txt.join z ys.reverse)) H1)->BH K ta σ Q x H0
def IK(K:W.Frag)(tx:TE)(ta:TA):TE:=λσ H Q=>tx σ H λx H0=>BH K ta σ Q x H0
theorem BI:∀{its:List Value}{ys:List Str},Vals (ys.map V.str) its->StrsAre its ys
 |_,[],h=>by cases h;exact .nil
 |_,y::ys,h=>by cases h with|cons a b=>obtain⟨t,rfl⟩:=a;exact .cons _ _ (BI b)
theorem Ln{o:Expr}{apos p2 pos2 cpos:Pos}{tx:TE}{ta:TA}(hc:X.calm=true)(hg2:Gl X "reversed")(hm2:X.mg "reversed"=none)(hx:PE X o tx)(ha:PA X [e] ta)(hbase:attributeBase o "join" X.env (eval o X.env)=eval o X.env:=by rfl)(hfew:((backTo cpos (starEach [.Call (.Name "reversed" p2) [e] [] pos2] X.env)).all (λx=>!x.1)&&(backToKw cpos (keywordEach [] X.env)).all (λx=>x.1.isSome)
   && decide (([.Call (.Name "reversed" p2) [e] [] pos2]:List Expr).length+([]:List Keyword).length+(if ([]:List Keyword).isEmpty then 0 else 1)<30))=true:=by rfl)(hline:(apos.endLine==cpos.line)=true:=by rfl)(h1:starEach [.Call (.Name "reversed" p2) [e] [] pos2] X.env=[(false,eval (.Call (.Name "reversed" p2) [e] [] pos2) X.env)]:=by rfl)(h2:starEach [e] X.env=[(false,eval e X.env)]:=by rfl):PE X (.Call (.Attribute o "join" apos) [.Call (.Name "reversed" p2) [e] [] pos2] [] cpos) (IK X.K tx ta):=by
 intro pins s σ H Q I h
 refine wpAny_Call_method_late hbase hfew hline rfl (cS (hx pins s σ H _ I h) λv s1 ⟨x,H0,I0,r0,z,hz,q0⟩=>?_)
 subst hz
 obtain⟨t1,t2⟩:=Ru I0 r0 (T:="str") rfl
 refine⟨"str","str.join",F.plainAttrs_str,F.slot_str_join,O,t1,t2,?_⟩
 rw[h1]
 refine Calls.callWith_builtin rfl (Calls.evalArgs_plain ?_)
 refine Calls.spliced_cons ?_
 refine afz (qB I0 hg2 hm2 boot_reversed ?_ 'c' 'c')
 refine afi (cS (ha pos2 pins s1 σ H0 _ I0 q0) λus s2 ⟨vs,H1,I1,r1,q1⟩=>?_) h2 rfl
 obtain⟨p,ys,rfl,hq,hok,q⟩:=q1
 obtain⟨u,rfl,ru⟩:=vals1 r1
 cases ru
 obtain⟨its,rv,pl,hz⟩:=I1.list hq
 have hlen:=rv.length
 refine call_reversed_list pl.isList ?_
 refine Calls.spliced_nil ?_
 have hnew:s2.heap.objs.size<=s2.heap.objs.size:=ad6 _
 have I2:Inv X pins σ H1 {s2 with heap:=s2.heap.push (revObj p ((its.toArray.size:Int)-1))}:=I1.kept (t':=s2.toks) λb o e=>ad9 _ e
 have hpl:p<s2.heap.objs.size:=by obtain⟨o,ho,_⟩:=pl.isList;exact aei ho
 have f0:=I1.vA hnew (I1.hok.fresh hnew)
 obtain⟨t0,rfl⟩:=r0
 refine Sd (s:={s2 with heap:=s2.heap.push (revObj p ((its.toArray.size:Int)-1))}) (items:=its) (I.ok.hd hc) (aeH hpl) ⟨_,ael _ rfl,rfl,rfl⟩ (pl.isList.at λo e=>ad9 _ e) (by rw[aed];omega) (ys:=ys.reverse) (BI (by rw[List.map_reverse];exact rv.reverse)) (by rw[List.map_reverse,List.sum_reverse,af0];exact hok) λh' t' tk hk=>?_
 have I4:=I2.turned (t':=tk) (h':=h') (it:=s2.heap.objs.size) hk f0.1 f0.2.1 f0.2.2.2.1 f0.2.2.2.2.1 f0.2.2.2.2.2
 exact⟨.str _,_,I4,⟨t',O⟩,q⟩
theorem zw(K:W.Frag)(h:X.K=K){o:Expr}{apos p2 pos2 cpos:Pos}{tx:TE}{ta:TA}(hc:X.calm=true)(hg2:Gl X "reversed")(hm2:X.mg "reversed"=none)(hx:PE X o tx)(ha:PA X [e] ta)(hbase:attributeBase o "join" X.env (eval o X.env)=eval o X.env:=by rfl)(hfew:((backTo cpos (starEach [.Call (.Name "reversed" p2) [e] [] pos2] X.env)).all (λx=>!x.1)&&(backToKw cpos (keywordEach [] X.env)).all (λx=>x.1.isSome)
  && decide (([.Call (.Name "reversed" p2) [e] [] pos2]:List Expr).length+([]:List Keyword).length+(if ([]:List Keyword).isEmpty then 0 else 1)<30))=true:=by rfl)(hline:(apos.endLine==cpos.line)=true:=by rfl)(h1:starEach [.Call (.Name "reversed" p2) [e] [] pos2] X.env=[(false,eval (.Call (.Name "reversed" p2) [e] [] pos2) X.env)]:=by rfl)(h2:starEach [e] X.env=[(false,eval e X.env)]:=by rfl):PE X (.Call (.Attribute o "join" apos) [.Call (.Name "reversed" p2) [e] [] pos2] [] cpos) (IK K tx ta):=by subst h;exact Ln hc hg2 hm2 hx ha hbase hfew hline h1 h2
end
section
variable{prog:Program}{w:World}{A:Around}{E:Value->Shared->Prop}{s:Shared}{d it i ep:Nat}{od:Obj}{es:Array DictEntry}
theorem IL{Q:Value->Shared->Prop}(nd:(d==sysModules)=false)(g:s.heap.get? d=some od)(c:od.ExactDict)(dt:od.data=.dict es ep)(q:Q (.ref s.heap.objs.size) {s with heap:=s.heap.push {cls:=.type "dict_keyiterator",data:=.fields #[.ref d,.int 0 0,.int es.size 0,.int ep 0]}}):wpAny (model prog w) A (pyIter (.ref d)) Q E s:=by
 have ty:s.TypeIs (.ref d) "dict":=⟨od,g,c.1⟩
 refine wpAny_pyIter_slot ty PySem.F.slot_dict_iter (ae6 PySem.F.slot_dict_iter ty PySem.F.entry_dict_iter ?_ (PySem.F.args_dict_iter_1 _))
 unfold Builtin.«dict.__iter__»;refine ad4 ?_
 unfold Builtin.Dict.dictSlotNone;refine ad4 (wpAny_notOrdered_dict ty ?_)
 show wpAny _ _ (pure (Value.ref d)) _ _ _;refine aea ?_
 show wpAny _ _ (Builtin.Dict.showsAll d >>= _) _ _ _
 unfold Builtin.Dict.showsAll;rw[ad5 (λz=>by rw[nd]at z;cases z)];refine ad4 (aea ?_)
 refine ad4 (wpAny_dictEntries g dt (ad4 (wpAny_dictEpoch g dt ?_)))
 refine ad4 (ae0 (aea ⟨_,rfl,"dict_keyiterator",_,⟨_,ael _ rfl,rfl⟩,afd.lookup,?_⟩))
 simpa [rawInt]using q
theorem IM{Q:Option Value->Shared->Prop}(KO:s.heap.IsKeyIter it d i es.size ep)(g:s.heap.get? d=some od)(dt:od.data=.dict es ep)(hi:i<es.size)(q:∀h',h'.IsKeyIter it d (i+1) es.size ep->Heap.SameBut it s.heap h'->Q (some es[i].key) {s with heap:=h'}):wpAny (model prog w) A (pyNext (.ref it)) Q E s:=by
 obtain⟨o,ho,hc,hd⟩:=id KO
 unfold pyNext;refine ad4 (wpAny_attempt (aeU (name:=("__next__":Str)) KO.typeIs afd (ae6 afd KO.typeIs PySem.F.entry_dict_keyiterator_next ?_ (PySem.F.args_dict_keyiterator_next_1 _))))
 refine ad4 (aea (ad4 (ad4 ?_)))
 first|refine ad4 (wpAny_typeNameOfWhole_keyiter KO.typeIs (aea ?_))|refine ad4 (wpAny_typeNameOf_keyiter KO.typeIs (aea ?_))
 refine ad4 (wpAny_fieldsOf ho hd ?_);simp only[(show Builtin.Dict_items.ownsTuple "dict_keyiterator"=false by decide),ae1,afy]
 show wpAny _ _ (if (Value.ref d==Value.none)=true then _ else _) _ _ _;rw[ad5 (λz:(Value.ref d==Value.none)=true=>nomatch z)]
 refine ad4 (aea (ad4 (wpAny_dictEntries g dt ?_)))
 rw[ad5 (by simp)];refine ad4 (aea (ad4 (wpAny_dictEpoch g dt ?_)))
 rw[ad5 (by simp)];refine aea ?_
 simp only[show ¬((i:Int)<0) by omega,afy,Int.toNat_natCast,Array.getElem?_eq_getElem hi]
 refine ad4 ?_
 first|refine ad4 (wpAny_typeNameOfWhole_keyiter KO.typeIs (aea ?_))|refine ad4 (wpAny_typeNameOf_keyiter KO.typeIs (aea ?_))
 refine ad4 (wpAny_isOneOf_keyiter KO.typeIs ?_);show wpAny _ _ (setField (.ref it) 1 (rawInt ((i:Int)+1)) >>= _) _ _ _
 refine ad4 (wpAny_setField ho hd (by simp) ?_)
 have it1:(s.heap.update it (Obj.mapFields (·.setIfInBounds 1 (rawInt ((i:Int)+1))))).IsKeyIter it d (i+1) es.size ep:=⟨_,aeZ _ ho (afg (aeT hd _)),(Obj.cls_mapFields ..).trans hc,by rw[aeT hd];simp[rawInt]⟩
 refine ad4 (wpAny_holding (ad4 (wpAny_isOneOf_keyiter (s:={s with heap:=s.heap.update it (Obj.mapFields (·.setIfInBounds 1 (rawInt ((i:Int)+1))))}) it1.typeIs ?_)))
 show wpAny _ _ (pure es[i].key) _ _ _;exact aea (aea ⟨_,rfl,aea (q _ it1 (Heap.SameBut.update ..))⟩)
theorem NQ{Q:Option Value->Shared->Prop}(hh:A.handled=none)(KO:s.heap.IsKeyIter it d i es.size ep)(g:s.heap.get? d=some od)(dt:od.data=.dict es ep)(hi:es.size<=i)(q:∀h',Heap.ExtBut it s.heap h'->Q none {s with heap:=h'}):wpAny (model prog w) A (pyNext (.ref it)) Q E s:=by
 obtain⟨o,ho,hc,hd⟩:=id KO
 unfold pyNext;refine ad4 (wpAny_attempt (aeU (name:=("__next__":Str)) KO.typeIs afd (ae6 afd KO.typeIs PySem.F.entry_dict_keyiterator_next ?_ (PySem.F.args_dict_keyiterator_next_1 _))))
 refine ad4 (aea (ad4 (ad4 ?_)))
 first|refine ad4 (wpAny_typeNameOfWhole_keyiter KO.typeIs (aea ?_))|refine ad4 (wpAny_typeNameOf_keyiter KO.typeIs (aea ?_))
 refine ad4 (wpAny_fieldsOf ho hd ?_);simp only[(show Builtin.Dict_items.ownsTuple "dict_keyiterator"=false by decide),ae1,afy]
 show wpAny _ _ (if (Value.ref d==Value.none)=true then _ else _) _ _ _;rw[ad5 (λz:(Value.ref d==Value.none)=true=>nomatch z)]
 refine ad4 (aea (ad4 (wpAny_dictEntries g dt ?_)))
 rw[ad5 (by simp)];refine ad4 (aea (ad4 (wpAny_dictEpoch g dt ?_)))
 rw[ad5 (by simp)];refine aea ?_
 simp only[show ¬((i:Int)<0) by omega,afy,Int.toNat_natCast,Array.getElem?_eq_none hi]
 refine ad4 ?_
 first|refine ad4 (wpAny_typeNameOfWhole_keyiter KO.typeIs (aea ?_))|refine ad4 (wpAny_typeNameOf_keyiter KO.typeIs (aea ?_))
 show wpAny _ _ (setField (.ref it) 0 .none >>= _) _ _ _;refine ad4 (wpAny_setField ho hd (by simp) ?_)
 show wpAny _ _ (newExc (.type "StopIteration") [] >>= _) _ _ _;refine ad4 ?_
 simp only[newExc,newTuple];refine ad4 (ae0 ?_ (by size_fits))
 refine ad4 (m:=firstArgMember _ _) (wpAny_of_eq (a:=Value.none) (by first|rfl | (simp only[firstArgMember];rfl)) (ae0 ?_ (by size_fits)))
 simp only[raiseNew];refine ad4 (wpAny_handled ?_)
 rw[show A.in1.handled=none from hh];refine ad4 (aea (wpAny_throw ?_))
 refine ad4 (wpAny_isInstance (T:="StopIteration") (b:=true) ⟨_,ael _ rfl,rfl⟩ isSubtype_stop (aea ?_))
 exact q _ (((Heap.SameBut.update ..).extBut.push _).push _)
end
theorem EL{α β:Type}{F:α->β->Prop}:∀{xs:List α}{ys:List β},Paired F xs ys->∀(i:Nat) x,xs[i]?=some x->∃y,ys[i]?=some y/\F x y
 |_,_,.nil,i,x,h=>by simp at h
 |_,_,.cons a r,0,x,h=>by cases h;exact⟨_,rfl,a⟩
 |_,_,.cons a r,i+1,x,h=>EL r i x h
section
variable{P:Program}{w:World}{K:Type}[DecidableEq K]
def dX(Z:jJ P w K)(hl:Z.c7+1<=8)(a:Addr)(kvs:List (N3 K))(o:Obj):HO:=.ext λh=>zv Z hl a kvs h/\h.get? a=some o
def Itn(Z:jJ P w K)(hl:Z.c7+1<=8)(a:Addr)(kvs:List (N3 K))(o:Obj):It :=
 ⟨λi H=>H a=some (dX Z hl a kvs o)/\∃e,kvs[i]?=some e,λi H x H'=>H'=H/\∃e,kvs[i]?=some e/\x=.ref e.2.1,λi H=>H a=some (dX Z hl a kvs o)/\kvs.length<=i⟩
variable{Z:jJ P w K}{hl:Z.c7+1<=8}
theorem NR{X:Cx}{K:Type}[DecidableEq K]{Z:jJ X.prog X.w K}{hl:Z.c7+1<=8}{pins:List (Addr×Obj)}{σ:St}{H:Hp}{s:Shared}{a:Addr}{kvs:List (N3 K)}{o:Obj}(I:Inv X pins σ H s)(d:H a=some (dX Z hl a kvs o)):zv Z hl a kvs s.heap/\s.heap.get? a=some o :=
 (show cM X.prog X.w H s.heap a (dX Z hl a kvs o) from I.hok a _ d).1
theorem oY{h:Heap}{a:Addr}{kvs:List (N3 K)}{o:Obj}{es:Array DictEntry}{ep:Nat}(q:zv Z hl a kvs h)(g:h.get? a=some o)(dt:o.data=.dict es ep):es.size=kvs.length/\∀(i:Nat)(hi:i<es.size)(e:N3 K),kvs[i]?=some e->es[i].key=.ref e.2.1:=by
 obtain⟨_,_,xs,r,o',es',ep',g',_,dt',he,_⟩:=q
 rw[g]at g';cases g'
 rw[dt]at dt';cases dt'
 have e1:es.size=xs.length:=size_of_entries he
 refine⟨by rw[e1];exact(afm r).symm,λi hi e h1=>?_⟩
 obtain⟨x,hx,q⟩:=EL r i e h1
 have e2:=entry_at he i
 rw[hx,Array.getElem?_eq_getElem hi]at e2
 have e3:es[i]=entryOfKey (tS Z hl) x:=aes e2
 rw[e3,q.2.1]
 rfl
theorem Vs{Fr:W.Frag}{tg:Expr}(a it:Addr)(kvs:List (N3 K))(o:Obj)(es:Array DictEntry)(ep:Nat)(dt:o.data=.dict es ep):Turn P w Fr tg (Itn Z hl a kvs o) [it] it (λi h=>h.IsKeyIter it a i es.size ep) where
 mem:=by simp
 obj:=λi h st b hb=>by
  obtain rfl:b=it:=by simpa using hb
  obtain⟨x,e,c,d⟩:=st
  exact⟨x,e,λv z=>by rw[d]at z;cases z⟩
 keep:=λi h h' st k=>by
  obtain⟨x,e,c,d⟩:=st
  exact⟨x,k it (by simp) x e,c,d⟩
 item:=by
  intro X hP hw hK hc i pins s σ H E I hf st hg
  subst hP hw
  obtain⟨hd,e,he⟩:=hg
  obtain⟨nd,g⟩:=NR I hd
  obtain⟨hsz,hkey⟩:=oY nd g dt
  obtain⟨f0,f1,f2,f3,f4,f5⟩:=hf it (by simp)
  have hi:i<es.size:=by rw[hsz];exact(ad8.mp he).1
  refine IM st g dt hi λh' st' sb=>?_
  have I1:Inv X pins σ H {s with heap:=h'}:=I.turned (t':=s.toks) (λb o hb e=>(sb.2 b hb).trans e) f0 f1 f3 f4 f5
  obtain⟨x,ex,cx,dx⟩:=id st'
  refine⟨_,rfl,Ew (s:={s with heap:=h'}) ex cx dx 'c' ⟨.ref e.2.1,H,I1,?_,⟨rfl,e,he,rfl⟩,st',λb hb=>(hf b hb).1⟩⟩
  exact hkey i hi e he
 done:=by
  intro X hP hw hK hc i pins s σ H E I hf st hg
  subst hP hw
  obtain⟨hd,he⟩:=hg
  obtain⟨nd,g⟩:=NR I hd
  obtain⟨hsz,hkey⟩:=oY nd g dt
  obtain⟨f0,f1,f2,f3,f4,f5⟩:=hf it (by simp)
  exact NQ (I.ok.hd hc) st g dt 'f' λh' eb=>⟨rfl,I.turned (t':=s.toks) (λb o hb e=>eb b o hb e) f0 f1 f3 f4 f5⟩
 self:=λ_ _ _ _ _ st h=>wpAny_pyIter_keyiter st h
end
section
variable{X:Cx}{K:Type}[DecidableEq K]{F:W.Frag}{Z:jJ X.prog X.w K}
def Xj{P:Program}{w:World}{K:Type}[DecidableEq K]{F:W.Frag}{Z:jJ P w K}(Y:nP F Z)(hl:Z.c7+1<=8)(td:TE):TI:=λσ H R=>td σ H λx H1=>∃a kvs,x=.ref a/\Nd Y hl H1 a kvs/\∀o,R (Itn Z hl a kvs o) (upd H1 a (dX Z hl a kvs o))
theorem Vt{tg l:Expr}{td:TE}(Y:nP F Z)(hl:Z.c7+1<=8)(hF:X.K=F)(hp:PE X l td):PI X tg l (Xj Y hl td):=by
 intro pins s σ H R I h
 refine cS (hp pins s σ H _ I h) λv s1 ⟨x,H1,I1,r1,a,kvs,e,d,q⟩=>?_
 subst e
 cases r1
 have nd:zv Z hl a kvs s1.heap:=(show cM X.prog X.w H1 s1.heap a (dN Z hl a kvs) from I1.hok a _ d.ob).1
 obtain⟨z,y,xs,r,o,es,ep,g,c,dt,rest⟩:=id nd
 refine IL y g c dt ?_
 have ok:cM X.prog X.w (upd H1 a (dX Z hl a kvs o)) s1.heap a (dX Z hl a kvs o):=by
  refine⟨⟨nd,g⟩,⟨o,g⟩,λg1 g2 q k=>?_⟩
  obtain⟨⟨z,y,xs,r,o',es,ep,h1,h2,h3,h4,h5⟩,h6⟩:=q
  exact⟨⟨z,y,xs,r,o',es,ep,k _ h1,h2,h3,h4,h5⟩,k _ h6⟩
 have I2:Inv X pins σ (upd H1 a (dX Z hl a kvs o)) {s1 with heap:=s1.heap,toks:=s1.toks}:=I1.write (x:=a) (e:=a) (by rw[d.ob];exact True.intro) (.inl rfl) (λb u _ e=>e) ⟨o,g⟩ ok
 refine⟨s1.heap.objs.size,[s1.heap.objs.size],_,_,_,rfl,I2.kept (t':=s1.toks) λb o e=>ad9 _ e,Vs a _ kvs o es ep dt,⟨_,ael _ rfl,rfl,rfl⟩,λb hb=>?_,q o⟩
 obtain rfl:b=s1.heap.objs.size:=by simpa using hb
 exact I2.vA (ad6 _) (I2.hok.fresh (ad6 _))
end
theorem IP{X:Cx}{P:Program}{w:World}{K:Type}[DecidableEq K]{F:W.Frag}{Z:jJ P w K}{tg l:Expr}{td:TE}(Y:nP F Z)(hl:Z.c7+1<=8)(hP:X.prog=P)(hw:X.w=w)(hF:X.K=F)(hp:PE X l td):PI X tg l (Xj Y hl td):=by
 subst hP hw;exact Vt Y hl hF hp
theorem OS{P:Program}{w:World}{K:Type}[DecidableEq K]{Z:jJ P w K}{hl:Z.c7+1<=8}{a:Addr}{kvs:List (N3 K)}{o:Obj}{g:TG}{tt:TT}{te:TE}{Q:VK}{D:Addr}{τ:St}{H:Hp}(Pv:Nat->List V->St->Hp->Prop)(h0:Pv 0 [] τ (upd H D (.lst [])))(hl':∀i ys τ H,i<=kvs.length->Pv i ys τ H->H a=some (dX Z hl a kvs o)/\H D=some (.lst ys))(hs:∀i e ys τ H,kvs[i]?=some e->Pv i ys τ H->g (.ref e.2.1) τ H λτ2 H2=>tt τ2 H2 λb H3=>if b=true then te τ2 H3 λy H4=>H4 D=some (.lst ys)/\ys.length<sizeLine/\Pv (i+1) (ys++[y]) τ2 (upd H4 D (.lst (ys++[y]))) else Pv (i+1) ys τ2 H3)(hd:∀ys τ H,Pv kvs.length ys τ H->Q (.ref D) H):EF (Itn Z hl a kvs o) g tt te Q D τ H:=by
 refine⟨λi m ys τ H=>m=kvs.length-i/\i<=kvs.length/\Pv i ys τ H,⟨kvs.length,by simp,aeA _,h0⟩,?_⟩
 rintro i m ys τ H ⟨rfl,hi,p⟩
 obtain⟨q,hD⟩:=hl' i ys τ H hi p
 refine⟨hD,?_⟩
 by_cases hlt:i<kvs.length
 ·refine .inr ⟨⟨q,kvs[i],aeB hlt⟩,Pv (i+1),λzs σ' H' p'=>⟨kvs.length-(i+1),by omega,rfl,hlt,p'⟩,λx H' y=>?_⟩
  obtain⟨e,e1,h1,h2⟩:=y
  subst e h2
  exact hs i e1 ys τ _ h1 p
 ·have e:i=kvs.length:=by omega
  subst e
  exact .inl ⟨⟨q,ad6 _⟩,hd ys τ H p⟩
inductive Yz(K:W.Frag)(xs:List V)(H:Hp)(Q:VK):Prop where
 |mk (p:Addr) (ns:List Nat):(xs=[.ref p])->(aT K H p (ns.map λn:Nat=>V.int n))->(ns≠[])->(∀n:Nat,n∈ns->(∀m∈ns,m<=n)->Q (.int n) H)->Yz K xs H Q
theorem OT{X:Cx}(hc:X.calm=true):eZ X (.builtin "max") (Yz X.K):=by
 intro pins s σ H xs us Q I r h
 obtain⟨p,ns,rfl,hq,hne,q⟩:=h
 obtain⟨u,rfl,ru⟩:=vals1 r
 cases ru
 obtain⟨its,rv,pl,hz⟩:=I.list hq
 have hlen:=rv.length
 rw[aec]at hlen
 have hpl:p<s.heap.objs.size:=by obtain⟨o,ho,_⟩:=pl.isList;exact aei ho
 have hpos:=af1.mpr hne
 refine call_max_walk (afK pl.isList ⟨s.heap.objs.size,_,_,_,_,_,λi j=>decide (((ns.getD i 0:Nat):Int)>((ns.getD j 0:Nat):Int)),rfl,Walks.list (A:=X.A.in1) (show X.A.in1.handled=none from I.ok.hd hc) s.heap.objs.size p (aeH hpl) its.toArray,⟨⟨_,ael _ rfl,rfl,rfl⟩,pl.isList.at λo e=>ad9 _ e⟩,?_,?_,?_,?_⟩)
 ·intro b hb
  have e:b=s.heap.objs.size\/b=p:=by simpa using hb
  show b<(s.heap.push _).objs.size
  rw[ae3]
  rcases e with rfl|rfl
  ·exact afX _
  ·exact Nat.lt_succ_of_lt hpl
 ·simp;omega
 ·exact CmpOf.ints_gt (λi=>((ns.getD i 0:Nat):Int)) λi v hv=>kg rv (by simpa using hv)
 ·intro v h' tk hv hk
  have f0:=I.vA (ad6 s.heap.objs.size) (I.hok.fresh (ad6 _))
  have I2:Inv X pins σ H {s with heap:=s.heap.push {cls:=.type "list_iterator",data:=.fields #[.ref p,rawInt 0]}}:=I.kept (t':=s.toks) λb o e=>ad9 _ e
  have I3:=I2.turned (h':=h') (t':=tk) (it:=s.heap.objs.size) (λb o hb e=>hk b o (by simpa using hb) e) f0.1 f0.2.1 f0.2.2.2.1 f0.2.2.2.2.1 f0.2.2.2.2.2
  obtain⟨h1,h2⟩:=argBest_gt (λi=>((ns.getD i 0:Nat):Int)) (its.toArray.size-1)
  rw[aed]at h1 h2
  rw[aed]at hv
  generalize argBest (λi j=>decide (((ns.getD i 0:Nat):Int)>((ns.getD j 0:Nat):Int))) (its.length-1)=b at h1 h2 hv
  obtain⟨t,rfl⟩:=kg rv (i:=b) (by rw[←hv];simp)
  have hb:b<ns.length:=by omega
  refine⟨.int (ns.getD b 0:Nat),H,I3,⟨t,O⟩,q _ ?_ λm hm=>?_⟩
  ·rw[afn,aeB hb];exact afY hb
  ·obtain⟨j,hj,rfl⟩:=List.getElem_of_mem hm
   have:=h2 j 'f'
   have e:ns.getD j 0=ns[j]:=by rw[afn,aeB hj];rfl
   rw[e]at this
   omega
theorem OU{X:Cx}(K:W.Frag)(h:X.K=K)(hc:X.calm=true):eZ X (.builtin "max") (Yz K):=by subst h;exact OT hc
section
variable{X:Cx}
end
open PySem
theorem rdT{A B:Prop}{b:Bool}(hb:b=true)(h:A):if b=true then A else B:=by rw[aee hb];exact h
theorem rdF{A B:Prop}{b:Bool}(hb:b=false)(h:B):if b=true then A else B:=by rw[ad5 (by rw[hb];decide)];exact h
theorem rdD{p A B:Prop}[Decidable p](hp:p)(h:A):if decide p=true then A else B:=rdT (aeb hp) h
theorem DF{p A B:Prop}[Decidable p](hp:¬p)(h:B):if decide p=true then A else B:=rdF (aeg hp) h
theorem rdN{p A B:Prop}[Decidable p](hp:p)(h:B):if (!decide p)=true then A else B:=rdF (by rw[aeb hp];rfl) h
theorem YA{p A B:Prop}[Decidable p](hp:¬p)(h:A):if (!decide p)=true then A else B:=rdT (by rw[aeg hp];rfl) h
theorem rdJ{A B:Prop}{a b:Int}(hp:a=b)(h:B):if (!decide (V.int a=V.int b))=true then A else B:=rdN (by rw[hp]) h
theorem rd2{p A B:Prop}[Decidable p](h1:p->A)(h2:¬p->B):if decide p=true then A else B:=by
 by_cases h:p
 ·exact rdD h (h1 h)
 ·exact DF h (h2 h)
section
variable{prog:Program}{w:World}{A:Around}{E:Value->Shared->Prop}{s:Shared}
end
section
variable{X:Cx}{e:Expr}{te:TE}
end
section
variable{prog:Program}{w:World}{A:Around}{E:Value->Shared->Prop}{s:Shared}
end
def YB(h₀:Heap)(H:Hp)(h:Heap)(e:Addr)(vs:Array Value):Option Value->Prop
 |none=>vs[1]?=some .none/\vs[2]?=some .none
 |some v=>∃T oT ts,vs[1]?=some (.ref T)/\H T=none/\h₀.get? T=none/\T≠e/\h.get? T=some oT/\oT.data=.fields ts/\ts[3]?=some v/\vs[2]?=some .none
theorem YB.cx{h₀:Heap}{H:Hp}{h:Heap}{e:Addr}{vs:Array Value}{fl:Option Value}(x:YB h₀ H h e vs fl):vs[2]?=some .none:=by
 cases fl with
 |none=>exact x.2
 |some v=>obtain⟨_,_,_,_,_,_,_,_,_,_,z⟩:=x;exact z
structure Exc(h₀:Heap)(H:Hp)(h:Heap)(e:Addr)(C:Value)(od:Option Addr)(fl:Option Value):Prop where
 fr:H e=none
 nw:h₀.get? e=none
 tr:∃oe vs,h.get? e=some oe/\oe.cls=C/\oe.dict=od/\oe.data=.fields vs/\YB h₀ H h e vs fl
structure Mv(fs ch:List Addr)(h h':Heap):Prop where
 keep:∀b o,b∉ch->b∉fs->h.get? b=some o->h'.get? b=some o
 slot:∀b o,b∉ch->h.get? b=some o->∃sl,h'.get? b=some {o with slots:=sl}
 there:∀b o,h.get? b=some o->∃o',h'.get? b=some o'
theorem Mv.trans{fs ch:List Addr}{h h1 h2:Heap}(a:Mv fs ch h h1)(b:Mv fs ch h1 h2):Mv fs ch h h2 :=
 ⟨λc o n1 n2 q=>b.keep c o n1 n2 (a.keep c o n1 n2 q),λc o n q=>let ⟨sl,q1⟩:=a.slot c o n q;let ⟨sl2,q2⟩:=b.slot c _ n q1;⟨sl2,q2⟩,λc o q=>let ⟨o1,q1⟩:=a.there c o q;b.there c o1 q1⟩
theorem Mv.mono{fs fs' ch ch':List Addr}{h h':Heap}(a:Mv fs ch h h')(hf:∀b∈fs,b∈fs')(hc:∀b∈ch,b∈ch'):Mv fs' ch' h h' :=
 ⟨λc o n1 n2 q=>a.keep c o (λz=>n1 (hc c z)) (λz=>n2 (hf c z)) q,λc o n q=>a.slot c o (λz=>n (hc c z)) q,a.there⟩
theorem Mv.refl{fs ch:List Addr}{h:Heap}:Mv fs ch h h:=⟨λ_ _ _ _ q=>q,λ_ o _ q=>⟨o.slots,q⟩,λ_ o q=>⟨o,q⟩⟩
theorem Mv.of_slots{fs ch:List Addr}{h h':Heap}(x:Heap.SlotsOnly fs h h'):Mv fs ch h h' :=
 ⟨λb o _ n q=>(x.2.1 b n).trans q,λb o _ q=>x.2.2 b o q,λb o q=>let ⟨sl,e⟩:=x.2.2 b o q;⟨_,e⟩⟩
theorem Mv.push{fs ch:List Addr}{h:Heap}(o:Obj):Mv fs ch h (h.push o) :=
 ⟨λb u _ _ q=>ad9 _ q,λb u _ q=>⟨u.slots,ad9 _ q⟩,λb u q=>⟨u,ad9 _ q⟩⟩
theorem Mv.upd{fs ch:List Addr}{h:Heap}{a:Addr}{f:Obj->Obj}{o:Obj}(ha:a∈ch)(q:h.get? a=some o)(hf:(f o).isFreed=false):Mv fs ch h (h.update a f):=by
 have ne:∀b,b∉ch->a≠b:=λb n z=>n (z▸ha)
 refine⟨λb u n _ e=>(aeG _ _ (ne b n)).trans e,λb u n e=>⟨u.slots,(aeG _ _ (ne b n)).trans e⟩,λb u e=>?_⟩
 by_cases hb:a=b
 ·subst hb;exact⟨_,aeZ _ q hf⟩
 ·exact⟨u,(aeG _ _ hb).trans e⟩
theorem Mv.frames{fs ch:List Addr}{h h' base:Heap}(x:Mv fs ch h h'){l:List Env}(hl:h.FunFrames base l)(hc:∀b∈ch,∀o,h.get? b=some o->∃vs,o.data=.fields vs):h'.FunFrames base l :=
 hl.of_keeps λb o q nf=>by
  have n:b∉ch:=λz=>let ⟨vs,e⟩:=hc b z o q;nf vs e
  obtain⟨sl,e⟩:=x.slot b o n q
  exact⟨_,e,O⟩
section
variable{M:Model}{A:Around}{E:Value->Shared->Prop}{s:Shared}{base:Heap}{env:Env}{outer:List Env}{L e:Addr}{Q:Unit->Shared->Prop}
theorem EM{oe:Obj}{vs:Array Value}{head:Value}{hn:Bool}(hfr:A.frames=some (env::outer))(hl:s.heap.FunFrames base (env::outer))(hf:env.frame=some L)(he:s.heap.get? e=some oe)(hd:oe.data=.fields vs)(hsz:1<vs.size)(k:∀h' T oT ts,Mv (frs (env::outer)) [e] s.heap h'->s.heap.objs.size<=T->T≠e->h'.get? e=some (oe.mapFields (·.setIfInBounds 1 (.ref T)))->h'.get? T=some oT->oT.data=.fields ts->ts[3]?=some (rawInt L)->Q () {s with heap:=h'}):wpAny M A (do let a ←frameOf env;let pl ←entryPlaceOf L hn;let b ←EntryCells.newEntry head a .none (rawInt L) .none pl;setField (.ref e) 1 b) Q E s:=by
 have hnf:e∉(env::outer).filterMap (·.frame):=λz=>by
  obtain⟨_,o,ho,nf⟩:=hl.mem z
  rw[he]at ho
  cases ho
  exact nf vs hd
 refine ad4 (wpAny_frameOf_fun hfr hl hf λh1 s1=>ad4 (wpAny_entryPlaceOf λpl hpl=>?_))
 unfold EntryCells.newEntry newFields
 refine ad4 (ae0 ?_ (hpl.sizeOk5 _ _ _ _ _))
 have e1:h1.get? e=some oe:=(s1.2.1 e hnf).trans he
 have e2:=λo=>ad9 (h:=h1) o e1
 refine wpAny_setField (e2 _) hd hsz ?_
 have hne:h1.objs.size≠e:=afF (aei e1)
 have fd:=aeT hd (·.setIfInBounds 1 (Value.ref h1.objs.size))
 have m1:Mv (frs (env::outer)) [e] s.heap h1:=Mv.of_slots s1
 refine k _ h1.objs.size _ _ ((m1.trans (Mv.push _)).trans (Mv.upd (ad7.mpr rfl) (e2 _) (afg fd))) ?_ hne (aeZ _ (e2 _) (afg fd)) ((aeG _ _ (afa hne)).trans (ael h1 rfl)) rfl ?_
 ·rw[s1.1];exact ad6 _
 ·first | (simp;done) | (rcases hpl with rfl|⟨_,_,_,_,_,_,_,rfl⟩<;>simp)
end
section
variable{M:Model}{A:Around}{E:Value->Shared->Prop}{s:Shared}{base h₀:Heap}{H:Hp}{env:Env}{outer:List Env}{L e:Addr}{C:Value}{od:Option Addr}{Q:Unit->Shared->Prop}
def YC(h₀:Heap)(H:Hp)(ch:List Addr):Prop:=∀b∈ch,H b=none/\h₀.get? b=none
theorem BJ(oe:Obj)(f:Array Value->Array Value):(oe.mapFields f).cls=oe.cls:=Obj.cls_mapFields _ _
theorem xX(oe:Obj)(f:Array Value->Array Value):(oe.mapFields f).dict=oe.dict:=by
 obtain⟨c,d,dt,sl⟩:=oe
 cases dt<;>rfl
theorem IQ{fl:Option Value}(hfr:A.frames=some (env::outer))(hl:s.heap.FunFrames base (env::outer))(hf:env.frame=some L)(x:Exc h₀ H s.heap e C od fl)(hfl:fl=none\/fl=some .none\/fl=some (rawInt L))(ht:∀b o,h₀.get? b=some o->∃o',s.heap.get? b=some o')(hH:∀b,s.heap.objs.size<=b->H b=none)(k:∀h' ch,YC h₀ H ch->Mv (frs (env::outer)) ch s.heap h'->Exc h₀ H h' e C od (some (rawInt L))->Q () {s with heap:=h'}):wpAny M A (noteFrame (.ref e) env) Q E s:=by
 obtain⟨fr,nw,oe,vs,he,hc,hdi,hd,fa⟩:=x
 have aa1:∀T,s.heap.get? T=none->h₀.get? T=none:=λT hT=>by
  cases q:h₀.get? T with
  |none=>rfl
  |some o=>obtain⟨o',z⟩:=ht T o q;rw[hT]at z;cases z
 unfold noteFrame
 simp only[hf]
 rcases hfl with rfl|rfl|rfl
 ·obtain⟨h1,UP⟩:=fa
  refine ad4 (aeK he hd h1 ?_)
  rw[ad5 'c']
  have hsz:=(afb.mp h1).1
  refine EM hfr hl hf he hd hsz λh' T oT ts m zT hne e1 eT dT t3=>?_
  have nT:s.heap.get? T=none:=afE zT
  have hT:H T=none:=hH T zT
  refine k h' [e] (λb hb=>?_) m ⟨fr,nw,_,_,e1,(BJ _ _).trans hc,(xX _ _).trans hdi,aeT hd _,T,oT,ts,by simp[hsz],hT,aa1 T nT,hne,eT,dT,t3,by rw[afD 'c'];exact UP⟩
  rw[ad7.mp hb]
  exact⟨fr,nw⟩
 ·obtain⟨T0,o0,t0,h1,n0,w0,Xk,q0,d0,z3,UP⟩:=fa
  refine ad4 (aeK he hd h1 ?_)
  rw[aee (show(Value.ref T0 != Value.none)=true from by simp)]
  refine ad4 (aeK q0 d0 z3 ?_)
  rw[ad5 (show ¬((Value.none==rawInt L)=true) from by simp[rawInt])]
  have z3s:=(afb.mp z3).1
  refine ad4 (wpAny_setField q0 d0 z3s ?_)
  have hsz:=(afb.mp h1).1
  have m0:Mv (frs (env::outer)) [e,T0] s.heap (s.heap.update T0 (Obj.mapFields (·.setIfInBounds 3 Value.none))) :=
   Mv.upd (aer _ (ad7.mpr rfl)) q0 (afg (aeT d0 _))
  have he1:(s.heap.update T0 (Obj.mapFields (·.setIfInBounds 3 Value.none))).get? e=some oe:=(aeG _ _ Xk).trans he
  have hl1:(s.heap.update T0 (Obj.mapFields (·.setIfInBounds 3 Value.none))).FunFrames base (env::outer):=m0.frames hl λb hb o q=>by
   rcases aeh.mp hb with rfl|hb
   ·rw[he]at q;cases q;exact⟨vs,hd⟩
   ·rw[ad7.mp hb,q0]at q;cases q;exact⟨t0,d0⟩
  have zs:(s.heap.update T0 (Obj.mapFields (·.setIfInBounds 3 Value.none))).objs.size=s.heap.objs.size:=Heap.size_after_update ..
  refine EM (s:={s with heap:=s.heap.update T0 (Obj.mapFields (·.setIfInBounds 3 Value.none))}) hfr hl1 hf he1 hd hsz λh' T oT ts m zT hne e1 eT dT t3=>?_
  have zT:s.heap.objs.size<=T:=by rw[←zs];exact zT
  have nT:s.heap.get? T=none:=afE zT
  refine k h' [e,T0] (λb hb=>?_) (m0.trans (m.mono (λ_ z=>z) λb z=>by rw[ad7.mp z];exact aew)) ⟨fr,nw,_,_,e1,(BJ _ _).trans hc,(xX _ _).trans hdi,aeT hd _,T,oT,ts,by simp[hsz],hH T zT,aa1 T nT,hne,eT,dT,t3,by rw[afD 'c'];exact UP⟩
  rcases aeh.mp hb with rfl|hb
  ·exact⟨fr,nw⟩
  ·rw[ad7.mp hb];exact⟨n0,w0⟩
 ·obtain⟨T0,o0,t0,h1,n0,w0,Xk,q0,d0,z3,UP⟩:=fa
  refine ad4 (aeK he hd h1 ?_)
  rw[aee (show(Value.ref T0 != Value.none)=true from by simp)]
  refine ad4 (aeK q0 d0 z3 ?_)
  rw[aee (show(rawInt L==rawInt L)=true from by simp)]
  refine aea ?_
  exact k s.heap [] (λb hb=>nomatch hb) Mv.refl ⟨fr,nw,oe,vs,he,hc,hdi,hd,T0,o0,t0,h1,n0,w0,Xk,q0,d0,z3,UP⟩
theorem BK{v:Value}(x:Exc h₀ H s.heap e C od (some v))(k:∀h' ch,YC h₀ H ch->Mv [] ch s.heap h'->Exc h₀ H h' e C od (some .none)->Q () {s with heap:=h'}):wpAny M A (setFlight (.ref e) none) Q E s:=by
 obtain⟨fr,nw,oe,vs,he,hc,hdi,hd,T,oT,ts,h1,n0,w0,Xk,q0,d0,z3,UP⟩:=x
 have hsz:=(afb.mp z3).1
 refine wpAny_setFlight_none he hd h1 q0 d0 hsz (k _ [T] (λb hb=>?_) (Mv.upd (ad7.mpr rfl) q0 (afg (aeT d0 _))) ⟨fr,nw,oe,vs,(aeG _ _ Xk).trans he,hc,hdi,hd,T,_,_,h1,n0,w0,Xk,aeZ _ q0 (afg (aeT d0 _)),aeT d0 _,by simp[hsz],UP⟩)
 rw[ad7.mp hb]
 exact⟨n0,w0⟩
theorem OV{fl:Option Value}(hfr:A.frames=some (env::outer))(hl:s.heap.FunFrames base (env::outer))(hf:env.frame=some L)(x:Exc h₀ H s.heap e C od fl)(hfl:fl=none\/fl=some .none\/fl=some (rawInt L))(ht:∀b o,h₀.get? b=some o->∃o',s.heap.get? b=some o')(hH:∀b,s.heap.objs.size<=b->H b=none)(k:∀h' ch,YC h₀ H ch->Mv (frs (env::outer)) ch s.heap h'->Exc h₀ H h' e C od (some .none)->Q () {s with heap:=h'}):wpAny M A (leaving env (.ref e)) Q E s:=by
 unfold leaving
 refine ad4 (IQ hfr hl hf x hfl ht hH λh1 c1 k1 m1 x1=>?_)
 refine BK x1 λh2 c2 k2 m2 x2=>?_
 refine k h2 (c1++c2) (λb hb=>(aej.mp hb).elim (k1 b) (k2 b)) ((m1.mono (λ_ z=>z) λb z=>aeX _ z).trans (m2.mono (λb z=>nomatch z) λb z=>aeI _ z)) x2
end
section
variable{X:Cx}{pins:List (Addr×Obj)}{σ σ':St}{H H':Hp}{s s1:Shared}
theorem Inv.mv{h':Heap}{ch:List Addr}(I:Inv X pins σ H s)(J:Inv X pins σ' H' s1)(m:Mv (frs X.stack) ch s1.heap h')(hc:∀b∈ch,H' b=none/\s.heap.get? b=none):Inv X pins σ' H' {s1 with heap:=h'}:=by
 have UN:∀b o,s.heap.get? b=some o->b∉ch:=λb o e z=>by rw[(hc b z).2]at e;cases e
 have n0:∀b o,X.s₀.heap.get? b=some o->b∉X.ex->b∉ch:=λb o e hx=>let ⟨o',e'⟩:=I.base.there b o e hx;UN b o' e'
 have neL:∀b o,X.s₀.heap.get? b=some o->b≠X.env.locals:=λb o e=>aeH (aeu (aei e) I.ok.above)
 have nst:∀b,b≠X.env.locals->b∉X.fs->b∉frs X.stack:=λb h1 h2 z=>(aeh.mp (I.Bp b z)).elim h1 h2
 have cellK:∀x c,X.env.cells.lookup x=some c->∀v,s1.heap.IsCell c v->Heap.IsCell h' c v:=λx c e v ⟨o,ho,hd⟩=>by
  obtain⟨v0,o0,e0,_⟩:=I.cell x c e
  obtain⟨sl,q⟩:=m.slot c o (UN c o0 e0) ho
  exact⟨_,q,hd⟩
 have acm:∃o,s.heap.get? X.env.locals=some o:=let ⟨m',⟨o,_,_,ho,_⟩,_⟩:=I.loc;⟨o,ho⟩
 obtain⟨oL,eL⟩:=acm
 refine⟨J.ok,J.os,J.bare,⟨λb o e n hb hx=>m.keep b o (n0 b o e hx) (nst b (neL b o e) hb) (J.base.keep b o e n hb hx),λb o e n hb hx=>?_,J.base.free,λb o e hx=>?_,J.base.tups,J.base.Ad,J.base.Bo⟩,?_,λx c e=>?_,J.free,J.kD,λp hp=>?_,λa o e=>?_,J.len⟩
 ·obtain⟨sl,e1⟩:=J.base.slot b o e n hb hx
  obtain⟨sl2,e2⟩:=m.slot b _ (n0 b o e hx) e1
  exact⟨sl2,e2⟩
 ·obtain⟨o',e1⟩:=J.base.there b o e hx
  exact m.there b o' e1
 ·obtain⟨mm,⟨o,es,ep,ho,r⟩,hl⟩:=J.loc
  obtain⟨sl,q⟩:=m.slot _ o (UN _ oL eL) ho
  refine⟨mm,⟨_,es,ep,q,r⟩,λi x v e1 e2 e3=>?_⟩
  obtain⟨u,r1,l⟩:=hl i x v e1 e2 e3
  refine⟨u,r1,?_⟩
  rcases l with l|⟨k,c,e,z⟩
  ·exact .inl l
  ·exact .inr ⟨k,c,e,cellK x c e _ z⟩
 ·obtain⟨v,z⟩:=J.cell x c e
  exact⟨v,cellK x c e v z⟩
 ·obtain⟨e0,_,_,_,_⟩:=I.pin p hp
  obtain⟨e,n,ne,nf,d⟩:=J.pin p hp
  exact⟨m.keep p.1 p.2 (UN _ _ e0) (nst _ ne nf) e,n,ne,nf,d⟩
 ·refine(J.hok a o e).stay (λb u hb q=>m.keep b u (λz=>?_) (λz=>?_) q) (λ_ q=>q) λ_ _ q=>q
  ·have:=(hc b z).1
   rcases hb with rfl|hb
   ·rw[this]at e;cases e
   ·rw[this]at hb;cases hb
  ·have:=J.Ga b z
   rcases hb with rfl|hb
   ·rw[this]at e;cases e
   ·rw[this]at hb;cases hb
def Vu(P:Program)(w:World):Ox:=λouter H s E e s'=>∃ea C od H',e=.ref ea/\s'.os=s.os/\AllBare s'.gens/\Un (frs outer) [] H H' s.heap s'.heap/\xK P w H' s'.heap/\Exc s.heap H' s'.heap ea C od (some .none)/\E C od H'
theorem Exc.older{h₀ h1 h:Heap}{H:Hp}{e:Addr}{C:Value}{od:Option Addr}{fl:Option Value}(x:Exc h1 H h e C od fl)(ht:∀b,h1.get? b=none->h₀.get? b=none):Exc h₀ H h e C od fl:=by
 obtain⟨fr,nw,oe,vs,he,hc,hdi,hd,fa⟩:=x
 refine⟨fr,ht _ nw,oe,vs,he,hc,hdi,hd,?_⟩
 cases fl with
 |none=>exact fa
 |some v=>obtain⟨T,oT,ts,h1,n0,w0,r⟩:=fa;exact⟨T,oT,ts,h1,n0,ht _ w0,r⟩
theorem leaveX{E:XK}{E':Value->Shared->Prop}{ea:Addr}{C:Value}{od:Option Addr}{fl:Option Value}(hst:X.stack=X.env::X.outer)(hfm:X.env.frame=some X.env.locals)(hex:X.ex=[])(I:Inv X pins σ H s)(J:Inv X pins σ' H' s1)(ht:∀b o,s.heap.get? b=some o->∃o',s1.heap.get? b=some o')(x:Exc s.heap H' s1.heap ea C od fl)(hfl:fl=none\/fl=some .none\/fl=some (rawInt X.env.locals))(hE:E C od H'):wpAny 'g' X.A (leaving X.env (.ref ea)) (λ_ s''=>Vu X.prog X.w X.outer X.H₀ X.s₀ E (.ref ea) s'') E' s1:=by
 have hl:=J.stack
 rw[hst]at hl
 refine OV (J.ok.frames.trans (by rw[hst])) hl hfm x hfl ht (λb hb=>J.hok.fresh hb) λh' ch hc m x'=>?_
 have K:=I.mv J (h':=h') (by rw[hst];exact m) hc
 have old:∀b,s.heap.get? b=none->X.s₀.heap.get? b=none:=λb hb=>by
  cases q:X.s₀.heap.get? b with
  |none=>rfl
  |some o=>obtain⟨o',z⟩:=I.base.there b o q (by rw[hex];simp);rw[hb]at z;cases z
 have U:=K.base
 rw[hex]at U
 exact⟨ea,C,od,H',O,J.os,J.bare,U,K.hok,x'.older old,hE⟩
end
section
variable{P:Program}{w:World}{K:W.Frag}{mg:Str->Option Value}{base:Heap}{N:List Str}{qual:Str}{scope:Scope}{f:Addr}{cd:Value}{A:Around}{outer:List Env}{s:Shared}{H:Hp}{E:XK}
theorem dR.okE{x:Str}{st:Stmt}{fd:FuncData}{ps:List Str}{k:Nat}{sp:Sp}(F:dR K x qual st f fd)(S:aF N ps (au st))(len:∀vs H Q E,sp vs H Q E->vs.length=ps.length)(hbody:∀(cdv:Value)(A:Around)(outer:List Env)(s:Shared)(H:Hp)(vs:List V)(Q:VK)(E:XK),fS k (A.deeper (envOfC qual (au st) s.heap.objs.size f cdv))->sp vs H Q E->∃t,Il (Gf (Vu P w) P w K mg base N qual (au st) f cdv A outer s H E) (cJ st) t/\t {nx:=λ_ H'=>Q .non H',rt:=Q} (start N vs) H):bg P w K mg base (Vu P w) (k+1) f fd ps sp:=by
 obtain⟨oc,od,kV,doc,pm,an,cdv,ct,osl,rfl,lk,hcd⟩:=F.ex
 exact Ro lk hcd S len λA outer s H vs Q E hr QS=>hbody cdv A outer s H vs Q E hr QS
end
theorem cM.ex{P:Program}{w:World}{H:Hp}{h:Heap}{a:Addr}{o:HO}(x:cM P w H h a o):∃u,h.get? a=some u:=by
 cases o with
 |lst xs=>obtain⟨_,_,_,_,e⟩:=x;exact⟨_,e⟩
 |tup xs=>obtain⟨_,_,_,ob,e,_⟩:=x;exact⟨_,e⟩
 |dK kvs=>obtain⟨_,_,_,_,o,_,_,e,_⟩:=x;exact⟨_,e⟩
 |dT kvs=>obtain⟨_,_,_,_,o,_,_,e,_⟩:=x;exact⟨_,e⟩
 |set S n=>obtain⟨o,_,_,_,e,_⟩:=x;exact⟨_,e⟩
 |ins C dx fs=>obtain⟨_,_,_,e,_⟩:=x;exact⟨_,e⟩
 |own y=>exact x
 |xd fs=>obtain⟨_,⟨_,_,_,e,_⟩,_⟩:=x;exact⟨_,e⟩
 |rng lo hi=>obtain⟨_,_,_,e⟩:=x;exact⟨_,e⟩
 |KU ob u=>obtain⟨e,_⟩:=x;exact⟨_,e⟩
 |W3 ps=>exact⟨_,x⟩
 |met f y=>exact⟨_,x⟩
 |ext φ=>exact x.2.1
theorem xK.none{P:Program}{w:World}{H:Hp}{h:Heap}{a:Addr}(x:xK P w H h)(e:h.get? a=Option.none):H a=Option.none:=by
 cases q:H a with
 |none=>rfl
 |some u=>obtain⟨o,z⟩:=(x a u q).ex;rw[e]at z;cases z
abbrev qM:List Value:=[.type "ValueError",.type "Exception",.type "BaseException",.type "object"]
structure xJ(K:W.Frag)(C N:Addr)(bm:List Value)(ini:Option Value):Prop where
 ob:∃nm q bs hdct sn sub ab col dd k0 k1 k2 k3 k5,K.lookup C=some (excClassObj nm q C N bs bm hdct sn sub ab col dd k0 k1 k2 k3 k5 "ValueError.__new__")
 ns:∃oc od es n sl,K.lookup N=some ⟨oc,od,.dict es n,sl⟩/\(es.toList.all λe=>match e.key with | .str _ _=>true|_=>false)=true
 ini:W.nsIn K N "__init__"=some ini
def Ih(K:W.Frag)(bm:List Value):Prop:=bm=qM\/∃D ND,bm=.ref D::qM/\xJ K D ND qM none
section
variable{K:W.Frag}{h:Heap}{C N:Addr}{bm:List Value}{ini:Option Value}
theorem xJ.names(x:xJ K C N bm ini):∃m:Str->Option Value,m "__init__"=ini/\∀h,K.In h->h.Ns N m:=by
 obtain⟨oc,od,es,n,sl,lk,al⟩:=x.ns
 have sk:StrKeys es:=λe he=>by
  have z:=aeP.mp al e (by simpa using he)
  revert z
  cases e.key<;>intro z<;>first|exact⟨_,_,rfl⟩|cases z
 refine⟨nsFind es,?_,λh lZ=>⟨_,es,n,lZ _ _ lk,O,sk,λ_=>rfl⟩⟩
 have e:=x.ini
 unfold W.nsIn at e
 rw[lk]at e
 dsimp only at e
 unfold nsFind findBy
 rw[←Array.find?_toList]
 cases q:es.toList.find? (·.key.isStr "__init__") with
 |some en =>
  rw[q]at e
  exact aes e
 |none =>
  rw[q]at e
  dsimp only at e
  split at e
  ·cases e
  ·exact aes e
theorem xJ.obj(x:xJ K C N bm ini)(lZ:K.In h):∃nm q bs hdct sn sub ab col dd k0 k1 k2 k3 k5,h.get? C=some (excClassObj nm q C N bs bm hdct sn sub ab col dd k0 k1 k2 k3 k5 "ValueError.__new__"):=by
 obtain⟨nm,q,bs,hdct,sn,sub,ab,col,dd,k0,k1,k2,k3,k5,e⟩:=x.ob
 exact⟨nm,q,bs,hdct,sn,sub,ab,col,dd,k0,k1,k2,k3,k5,lZ _ _ e⟩
theorem Ih.tail(x:Ih K bm)(lZ:K.In h):OwnTail h qM bm:=by
 rcases x with rfl|⟨D,ND,rfl,d⟩
 ·exact .base
 ·obtain⟨nm,q,bs,hdct,sn,sub,ab,col,dd,k0,k1,k2,k3,k5,e⟩:=d.obj lZ
  obtain⟨m,mi,mn⟩:=d.names
  exact .own e (mn h lZ) mi .base
theorem Ih.base(x:Ih K bm):bm.contains (.type "BaseException")=true:=by
 rcases x with rfl|⟨D,ND,rfl,d⟩
 ·decide
 ·rw[List.contains_cons];rfl
end
section
variable{P:Program}{w:World}{K:W.Frag}{mg:Str->Option Value}{base:Heap}{N0:List Str}{qual:Str}{scope:Scope}{f:Addr}{cd:Value}{A:Around}{outer:List Env}{s0:Shared}{H0:Hp}{E:XK}
end
section
abbrev TEx:=St->Hp->VK->XK->Prop
abbrev TSx:=Ends->XK->St->Hp->Prop
def XP(X:Cx)(pins:List (Addr×Obj))(σ:St)(Ex:XK)(e:Value)(s':Shared):Prop :=
 ∃ea C od H' s2 H2,e=.ref ea/\Inv X pins σ H2 s2/\Inv X pins σ H' s'/\(∀b o,s2.heap.get? b=some o->∃o',s'.heap.get? b=some o')/\Exc s2.heap H' s'.heap ea C od (some .none)/\Ex C od H'
def PEx(X:Cx)(e:Expr)(t:TEx):Prop :=
 ∀(pins:List (Addr×Obj))(s:Shared)(σ:St)(H:Hp)(Q:VK)(Ex:XK),Inv X pins σ H s->t σ H Q Ex->wpAny 'g' X.A (eval e X.env) (EP X pins σ Q) (XP X pins σ Ex) s
def PSx(X:Cx)(st:Stmt)(t:TSx):Prop :=
 ∀(pins:List (Addr×Obj))(s:Shared)(σ:St)(H:Hp)(D:Ends)(Ex:XK),Inv X pins σ H s->t D Ex σ H->wpAny 'g' X.A (exec st X.env) (SP X pins D) (XP X pins σ Ex) s
def aa2(X:Cx)(st:List Stmt)(t:TSx):Prop :=
 ∀(pins:List (Addr×Obj))(s:Shared)(σ:St)(H:Hp)(D:Ends)(Ex:XK),Inv X pins σ H s->t D Ex σ H->wpAny 'g' X.A (execs st X.env) (SP X pins D) (XP X pins σ Ex) s
variable{X:Cx}{k:Nat}{f C:Addr}{fd:FuncData}{ps:List Str}{sp:Sp}{tG:List V}{ds:List Value}{x m:Str}{p pos apos:Pos}{e o:Expr}{es:List Expr}{ta:TE}{t:TA}{te:TEx}
theorem acn{α:Type}{u:Sem α}{Q Q':α->Shared->Prop}{M:Model}{A:Around}{E:Value->Shared->Prop}{s:Shared}(h:wpAny M A u Q (λ_ _=>False) s)(hQ:∀a s,Q a s->Q' a s):wpAny M A u Q' E s:=ae8 h hQ λ_ _ z=>z.elim
theorem Vv{pins:List (Addr×Obj)}{σ:St}{H:Hp}{s:Shared}{Q:VK}{Ex:XK}{us:List Value}{vs:List V}(F:bg X.prog X.w X.K X.mg X.base (Vu X.prog X.w) k f fd ps sp)(hr:fS k X.A)(hb:Binds X.K fd ps ds)(hd:Vals tG ds)(I:Inv X pins σ H s)(r:Vals vs us)(h:sp (vs++tG) H Q Ex):wpAny 'g' X.A (call (.ref f) us) (EP X pins σ Q) (XP X pins σ Ex) s:=by
 have r2:Vals (vs++tG) (us++ds):=r.append hd
 have hl:(us++ds).length=ps.length:=by rw[←r2.length];exact F.len _ _ _ _ h
 refine wpAny_call (codeAny_mono (F.run X.A X.stack s H ⟨us,[]⟩ (us++ds) (vs++tG) Q Ex hr I.U5 (hb s us I.nQ hl) r2 h) λr s' hq=>?_)
 cases r with
 |error e =>
  obtain⟨ea,C,od,H',rfl,os,bare,un,hok,y,hE⟩:=hq
  exact⟨ea,C,od,H',s,H,rfl,I,I.Q7 os un hok bare (λb z=>nomatch z),λb o q=>un.there b o q (by simp),y,hE⟩
 |ok fl =>
  cases fl with
  |ret u=>exact I.after hq
  |next=>exact False.elim hq
  |brk=>exact False.elim hq
  |cont=>exact False.elim hq
def YD(sp:Sp)(tG:List V)(t:TA):TEx:=λσ H Q Ex=>t σ H λvs H1=>sp (vs++tG) H1 Q Ex
theorem Se(F:bg X.prog X.w X.K X.mg X.base (Vu X.prog X.w) k f fd ps sp)(hr:fS k X.A)(hg:Gl X x)(hm:X.mg x=some (.ref f))(hk:W.keepIn X.K (.ref f)=true)(hb:Binds X.K fd ps ds)(hd:Vals tG ds)(ha:PA X.XM (e::es) t)(hdb:(x==("__debug__":Str))=false:=by decide)(he:starEach (e::es) X.env=(false,eval e X.env)::starEach es X.env:=by rfl)(hpl:(backTo pos (starEach es X.env)).any (·.1)=false:=by rfl):PEx X (.Call (.Name x p) (e::es) [] pos) (YD sp tG t):=by
 intro pins s σ H Q Ex I h
 refine afz (oQ I hg hm ?_ hdb)
 refine W.callWith_K (h₀:=X.base) I.ok.mod.lZ hk (acn (ha pos pins s σ H _ (I.Br _) h) λus s1 ⟨vs,H1,I1,r,q⟩=>⟨I1.nq.nQ,?_⟩) he hpl
 exact Vv F hr hb hd I1.nq r q
theorem Vw{i:Nat}{pos':Pos}(hN:X.N.Nodup)(hi:X.N[i]?=some x)(hx:Loc X.env.scope x)(he:PEx X e te)(hs:swapsWith e (some (.Name x pos')) pos.line X.env=pure false:=by rfl)(hf:X.fn x=true\/X.env.scope.names.lookup x=some .local:=by first|exact .inl rfl|exact .inr rfl|assumption):PSx X (.Assign [.Name x pos'] e pos) (λD Ex σ H=>te σ H (λv H1=>D.nx (σ.set i (some v)) H1) Ex):=by
 intro pins s σ H D Ex I h
 refine wpAny_Assign_Name (cS (he pins s σ H _ _ I h) λv s1 ⟨y,H1,I1,r1,q1⟩=>?_) hs
 exact Bq I1 hN hi hx r1 (λs2 I2=>⟨_,H1,I2,q1⟩) hf
theorem Sf{st:Stmt}{ts:TSx}(h1:PSx X st ts):aa2 X [st] ts:=by
 intro pins s σ H D Ex I h
 refine wpAny_execs_cons (cS (h1 pins s σ H D Ex I h) λf s1 q=>?_)
 cases f with
 |next=>exact wpAny_execs_nil q
 |ret v=>exact q
 |brk=>exact q
 |cont=>exact q
end
def xcO(e:Addr)(C:Value)(od:Option Addr):HO:=.ext λh=>∃o vs,h.get? e=some o/\o.cls=C/\o.dict=od/\o.data=.fields vs/\vs[2]?=some .none
theorem OW{e:Addr}{C:Value}{od:Option Addr}:∀h1 h2:Heap,(∃o vs,h1.get? e=some o/\o.cls=C/\o.dict=od/\o.data=.fields vs/\vs[2]?=some .none)->(∀o,h1.get? e=some o->h2.get? e=some o)->∃o vs,h2.get? e=some o/\o.cls=C/\o.dict=od/\o.data=.fields vs/\vs[2]?=some .none :=
 λ_ _ ⟨o,vs,q,r⟩ k=>⟨o,vs,k o q,r⟩
theorem aa3{P:Program}{w:World}{H:Hp}{h:Heap}{e:Addr}{C:Value}{od:Option Addr}(x:∃o vs,h.get? e=some o/\o.cls=C/\o.dict=od/\o.data=.fields vs/\vs[2]?=some .none):cM P w H h e (xcO e C od) :=
 ⟨x,(let ⟨o,_,q,_⟩:=x;⟨o,q⟩),OW⟩
section
variable{X:Cx}{pins:List (Addr×Obj)}{σ σ':St}{H H':Hp}{s s1:Shared}
theorem Inv.Sh{a:Addr}{o:HO}(I:Inv X pins σ H s)(J:Inv X pins σ' H' s1)(hex:X.ex=[])(hn:H' a=none)(hw:s.heap.get? a=none)(new:cM X.prog X.w (upd H' a o) s1.heap a o):Inv X pins σ' (upd H' a o) s1:=by
 have ne:∀b u,s.heap.get? b=some u->b≠a:=λb u e z=>by rw[z,hw]at e;cases e
 have Xk:∀b u,X.s₀.heap.get? b=some u->b≠a:=λb u e=>let ⟨o',e'⟩:=I.base.there b u e (by rw[hex];simp);ne b o' e'
 refine⟨J.ok,J.os,J.bare,⟨J.base.keep,J.base.slot,λb u e n hx=>?_,J.base.there,λb xs e=>?_,λb u v e=>?_,λb ps e=>?_⟩,J.loc,J.cell,?_,λx c e=>?_,λp hp=>?_,λb u e=>?_,J.len⟩
 ·rw[az (Xk b u e)];exact J.base.free b u e n hx
 ·have z:=J.base.tups b xs e
  rw[az (aV z hn)];exact z
 ·have z:=J.base.Ad b u v e
  rw[az (aV z hn)];exact z
 ·obtain⟨more,z⟩:=J.base.Bo b ps e
  exact⟨more,by rw[az (aV z hn)];exact z⟩
 ·obtain⟨m,⟨oL,_,_,eL,_⟩,_⟩:=I.loc
  rw[az (ne _ _ eL)];exact J.free
 ·obtain⟨v,oc,ec,_⟩:=I.cell x c e
  rw[az (ne _ _ ec)];exact J.kD x c e
 ·obtain⟨e0,_⟩:=I.pin p hp
  obtain⟨e1,n1,r⟩:=J.pin p hp
  exact⟨e1,by rw[az (ne _ _ e0)];exact n1,r⟩
 ·by_cases hb:b=a
  ·subst hb;rw[ai]at e;cases e;exact new
  ·rw[az hb]at e
   exact(J.hok b u e).stay (λc v _ q=>q) (λc q=>by rw[az (aV q hn)];exact q) λc xs q=>by rw[az (aV q hn)];exact q
end
section
variable{M:Model}{A:Around}{E:Value->Shared->Prop}{K:W.Frag}{s:Shared}{C D N N' ea:Addr}{bm bm':List Value}{ini aa4:Option Value}{Q:Bool->Shared->Prop}
theorem IS{oe:Obj}(lZ:K.In s.heap)(c:xJ K C N bm ini)(d:xJ K D N' bm' aa4)(td:Ih K bm')(he:s.heap.get? ea=some oe)(hc:oe.cls=.ref C)(h:Q ((Value.ref C::bm).contains (.ref D)) s):wpAny M A (excMatches (.ref ea) (.ref D)) Q E s:=by
 obtain⟨nm,q,bs,hdct,sn,sub,ab,col,dd,k0,k1,k2,k3,k5,lc⟩:=c.obj lZ
 obtain⟨nm',q',bs',adV,sn',sub',ab',col',dd',k0',k1',k2',k3',k5',ld⟩:=d.obj lZ
 have hB:(Value.ref D::bm').contains (.type "BaseException")=true:=by rw[List.contains_cons,td.base];rfl
 have f:=tc_notTuple
 obtain⟨hp,g,dr,tk,os⟩:=s
 unfold excMatches
 repeat (first | (with_reducible refine afL he ?_;rw[hc])|with_reducible refine afL ld ?_ | (with_reducible refine wpAny_isSubtype_exc ld ?_;rw[hB])|with_reducible refine wpAny_isSubtype_exc lc ?_|wp_step)
 cases hb:(Value.ref C::bm).contains (.ref D)<;>(rw[hb]at h;wp_walk;exact h)
end
abbrev Cx.han(X:Cx)(ea:Addr):Cx:={X with A:=X.A.mark (some (.ref ea)),calm:=false,xe:=λ_ _=>False}
section
variable{X:Cx}{pins:List (Addr×Obj)}{σ:St}{H:Hp}{s:Shared}{ea:Addr}
theorem Cx.Ok.han(ok:X.Ok)(ea:Addr):(X.han ea).Ok :=
 ⟨ok.mod,ok.kind,ok.glob,ok.blt,ok.above,ok.inj,ok.has,ok.cab,(λz=>nomatch (show false=true from z)),ok.frames,ok.stk,ok.exf,ok.bs,ok.UM,ok.Oq,ok.Q6,ok.xM,ok.W5⟩
theorem Inv.han(I:Inv X pins σ H s)(ea:Addr):Inv (X.han ea) pins σ H s:=⟨I.ok.han ea,I.os,I.bare,I.base,I.loc,I.cell,I.free,I.kD,I.pin,I.hok,I.len⟩
theorem Inv.NS(ok:X.Ok)(I:Inv (X.han ea) pins σ H s):Inv X pins σ H s:=⟨ok,I.os,I.bare,I.base,I.loc,I.cell,I.free,I.kD,I.pin,I.hok,I.len⟩
abbrev TH:=Addr->Value->Option Addr->TS
def PHs(X:Cx)(hs:List ExceptHandler)(t:TH):Prop :=
 ∀(pins:List (Addr×Obj))(s:Shared)(σ:St)(H:Hp)(D:Ends)(ea:Addr)(C:Value)(od:Option Addr)(s2:Shared)(H2:Hp),Inv X pins σ H2 s2->Inv X pins σ H s->(∀b o,s2.heap.get? b=some o->∃o',s.heap.get? b=some o')->Exc s2.heap H s.heap ea C od (some .none)->t ea C od D σ H->wpAny 'g' X.A (handleBy (.ref ea) X.env hs) (SP X pins D) X.xe s
theorem YE:PHs X [] (λ_ _ _ _ _ _=>False):=λ_ _ _ _ _ _ _ _ _ _ _ _ _ _ h=>h.elim
def YF(K:W.Frag)(Dc:Addr)(tb:Addr->TS)(tr:TH):TH:=λea C od D σ H=>∃Cc N bm ini,C=.ref Cc/\xJ K Cc N bm ini/\if (Value.ref Cc::bm).contains (.ref Dc)=true then tb ea D σ (upd H ea (xcO ea C od)) else tr ea C od D σ H
theorem aa5{x:Str}{np hpos:Pos}{b₀:Stmt}{suite:List Stmt}{rest:List ExceptHandler}{Dc ND:Addr}{bmD:List Value}{aco:Option Value}{tb:Addr->TS}{tr:TH}(hex:X.ex=[])(hg:Gl X x)(hm:X.mg x=some (.ref Dc))(d:xJ X.K Dc ND bmD aco)(td:Ih X.K bmD)(hb:∀ea,Il (X.han ea) (b₀::suite) (tb ea))(hr:PHs X rest tr)(hdb:(x==("__debug__":Str))=false:=by decide):PHs X (.ExceptHandler (some (.Name x np)) none (b₀::suite) hpos::rest) (YF X.K Dc tb tr):=by
 rintro pins s σ H D ea C od s2 H2 I2 J ht y ⟨Cc,N,bm,ini,rfl,c,q⟩
 obtain⟨fr,nw,oe,vs,he,hc,hdi,hd,fa⟩:=id y
 refine wpAny_handleBy_cons (codeAny_handlers_test (oQ (X:=X.han ea) (J.han ea) hg hm ?_ hdb)) (by intro z;cases z)
 refine IS J.nQ c d td he hc ?_
 cases hb2:(Value.ref Cc::bm).contains (.ref Dc) with
 |false =>
  rw[hb2,ad5 aev]at q
  exact hr pins s σ H D ea _ od s2 H2 I2 J ht y q
 |true =>
  rw[hb2,aee rfl]at q
  refine codeAny_handlers_suite ?_
  refine BK y λh1 ch hch mv y1=>?_
  have J1:=I2.mv J (mv.mono (λb z=>nomatch z) λb z=>z) hch
  obtain⟨fr1,nw1,oe1,vs1,he1,hc1,acp,hd1,fa1⟩:=id y1
  have J2:=I2.Sh J1 (o:=xcO ea (.ref Cc) od) hex fr1 nw1 (aa3 ⟨oe1,vs1,he1,hc1,acp,hd1,fa1.cx⟩)
  refine ae8 (hb ea pins _ _ _ _ (J2.han ea) q) (λf s4 r=>?_) λ_ _ z=>z.elim
  cases f with
  |next=>obtain⟨σ',H',I4,q4⟩:=r;exact⟨_,H',I4.NS J.ok,q4⟩
  |brk=>obtain⟨σ',H',I4,q4⟩:=r;exact⟨_,H',I4.NS J.ok,q4⟩
  |cont=>obtain⟨σ',H',I4,q4⟩:=r;exact⟨_,H',I4.NS J.ok,q4⟩
  |ret u=>obtain⟨v,σ',H',I4,rv,q4⟩:=r;exact⟨v,_,H',I4.NS J.ok,rv,q4⟩
def aa6(tb:TSx)(th:TH)(to:TS):TS:=λD σ H=>tb {D with nx:=λσ1 H1=>to D σ1 H1} (λC od H'=>∀ea,H' ea=none->th ea C od D σ H') σ H
theorem Vx{body orelse:List Stmt}{h₀:ExceptHandler}{hs:List ExceptHandler}{pos:Pos}{tb:TSx}{th:TH}{to:TS}(hst:X.stack=X.env::X.outer)(hfm:X.env.frame=some X.env.locals)(hb:aa2 X body tb)(hh:PHs X (h₀::hs) th)(ho:Il X orelse to):PS X (.Try body (h₀::hs) orelse [] pos) (aa6 tb th to):=by
 intro pins s σ H D I h
 refine wpAny_Try_except (ae8 (hb pins s σ H _ _ I h) (λf s1 q=>?_) λe s1 q=>?_)
 ·cases f with
  |next=>obtain⟨σ1,H1,I1,q1⟩:=q;exact ho pins s1 σ1 H1 D I1 q1
  |ret u=>exact q
  |brk=>exact q
  |cont=>exact q
 ·obtain⟨ea,C,od,H',s2,H2,rfl,I2,J,ht,y,hE⟩:=q
  have hl:=J.stack
  rw[hst]at hl
  refine IQ (J.ok.frames.trans (by rw[hst])) hl hfm y (.inr (.inl rfl)) ht (λb hb=>J.hok.fresh hb) λh1 ch hc m y1=>?_
  have J1:=I2.mv J (h':=h1) (by rw[hst];exact m) hc
  have ht1:∀b o,s2.heap.get? b=some o->∃o',h1.get? b=some o':=λb o q=>let ⟨o',q'⟩:=ht b o q;m.there b o' q'
  refine BK y1 λh2 ch2 hc2 m2 y2=>?_
  have J2:=I2.mv J1 (h':=h2) (m2.mono (λb z=>nomatch z) λb z=>z) hc2
  exact hh pins _ σ H' D ea C od s2 H2 I2 J2 (λb o q=>let ⟨o',q'⟩:=ht1 b o q;m2.there b o' q') y2 (hE ea y2.fr)
end
end L2
set_option maxHeartbeats 1000000
namespace L2
open PySem PySem.Spec PyProof.Rows PySem.Builtin PySem.Builtin.ObjectAttr
theorem EN(self:Value):refuseLoop self "__setattr__" qM=pure ():=by kernel_rfl
theorem IT{K:W.Frag}{bm:List Value}(tl:Ih K bm)(self:Value):refuseLoop self "__setattr__" bm=pure ():=by
 rcases tl with rfl|⟨D,ND,rfl,d⟩
 ·exact EN self
 ·rw[refuseLoop_ref];exact EN self
structure Xl(K:W.Frag)(C:Addr)(f:Str):Prop where
 no:W.findIn K (.ref C) f=some none
 sa:W.findIn K (.ref C) "__setattr__"=some (some (.builtin "object.__setattr__"))
 ga:W.findIn K (.ref C) "__getattribute__"=some (some (.builtin "BaseException.__getattribute__"))
 gx:W.findIn K (.ref C) "__getattr__"=some none
 hd:W.hasDictIn K C=true
section
variable{P:Program}{w:World}{A:Around}{E:Value->Shared->Prop}{s:Shared}{K:W.Frag}{C N x:Addr}{bm:List Value}{ini:Option Value}{f:Str}{v:Value}{ox:Obj}{vs:Array Value}
theorem xJ.cls(c:xJ K C N bm ini)(h:W.hasDictIn K C=true):∃cd,W.clsIn K C=some cd/\cd.mro=.ref C::bm/\cd.hasDict=true:=by
 obtain⟨nm,q,bs,hdct,sn,sub,ab,col,dd,k0,k1,k2,k3,k5,lk⟩:=c.ob
 obtain⟨cd,hc,hd⟩:=W.any_some h
 refine⟨cd,hc,?_,hd⟩
 unfold W.clsIn at hc
 rw[lk]at hc
 cases hc
 rfl
theorem NT{od:Option Obj}{tk:Tok}{R:Result->Shared->Prop}(lZ:K.In s.heap)(c:xJ K C N bm ini)(tl:Ih K bm)(a:Xl K C f)(J:W.InstAt s.heap x ox C od)(h:∀b,wpAny (model P w) A.in1 (storeInOwnDict (.ref x) (.ref C) (.str f tk) f v b) (λfin s'=>match fin with | .done g=>R (.ok g) s' | .again c'=>c'.quiet=true/\codeAny (model P w) A c' R s') (λe s'=>R (.error e) s') s):codeAny (model P w) A (.call (.builtin "object.__setattr__") ⟨[.ref x,.str f tk,v],[]⟩) R s:=by
 obtain⟨cd,hc,hm,hd⟩:=c.cls a.hd
 have SF:=PySem.F.store_object
 have acq:W.Looks (model P w) s.heap (mroOf (.ref C)) cd.mro:=(W.looks_clsIn lZ hc).andThen .now
 have hob:(cd.mro.contains (.type "object"))=true:=by
  rw[hm,List.contains_cons]
  rcases tl with rfl|⟨D,ND,rfl,d⟩
  ·rfl
  ·rw[List.contains_cons];rfl
 have ne:cd.mro.isEmpty=false:=by rw[hm];rfl
 have sub:W.Looks (model P w) s.heap (isInstance (.ref x) (.type "object")) true :=
  J.type.andThen (W.looks_mroIn lZ (by unfold W.mroIn;rw[hc,Option.bind_some,ad5 (by rw[ne];decide),hob]))
 refine codeAny_call_builtin SF.slot.plain SF.entry (W.check_slot (M:=model P w) (s:=s) (i:="object.__setattr__") (owner:="object") (n:="__setattr__") (self:=.ref x) (rest:=[.str f tk,v]) (kw:=[]) SF.kind SF.split sub (SF.args (.ref x) (.str f tk) v) ?_)
 rw[W.osa_eq,refuse_eq]
 refine ad4 (ad4 (J.type.here (ad4 (acq.here ?_))))
 rw[hm,refuseLoop_ref,IT tl]
 have L3:W.Looks (model P w) s.heap (storeTaker? none) none:=.now
 refine aea (ad4 (J.type.here (ad4 ((W.looks_findIn lZ a.no).here (ad4 (L3.here ?_))))))
 exact h _
theorem Vy{h:Heap}{d:Addr}{o:Obj}(e:h.get? d=some o)(hd:o.data=.dict #[] 0):h.Ns1 d (λ_=>none) :=
 ⟨o,#[],0,e,hd,λe he=>absurd he (by simp),(by first|exact λi j e e' h1=>absurd h1 (by simp)|simp[UniqKeys]),λ_=>rfl⟩
theorem Si{Q:Unit->Shared->Prop}(lZ:K.In s.heap)(c:xJ K C N bm ini)(tl:Ih K bm)(a:Xl K C f)(hx:s.heap.get? x=some ox)(hc:ox.cls=.ref C)(hdi:ox.dict=none)(hd:ox.data=.fields vs)(h:∀h' tk,h'.get? x=some {ox with dict:=some s.heap.objs.size}->h'.Ns1 s.heap.objs.size (λy=>if y=f then some v else none)->(∀b o,b≠x->s.heap.get? b=some o->h'.get? b=some o)->Q () {s with heap:=h',toks:=tk}):wpAny (model P w) A (setAttr (.ref x) f v) Q E s:=by
 have J:W.InstAt s.heap x ox C none:=⟨hx,hc,by obtain⟨oc,odi,oda,osl⟩:=ox;cases hd;rfl,by rw[hdi];exact True.intro⟩
 refine W.set_plain lZ J a.sa (NT (s:={s with toks:=s.toks+1}) lZ c tl a J λb=>?_)
 obtain⟨cd,hcd,hm,hdd⟩:=c.cls a.hd
 obtain⟨oc,odi,oda,osl⟩:=ox
 dsimp only at hc hdi hd
 subst hc hdi hd
 refine ad4 (aea (ad4 (ad4 (wpAny_loadPart hx (ad4 (W.Looks.here (s:={s with toks:=s.toks+1}) (W.looks_clsIn lZ hcd) ?_))))))
 rw[hdd]
 refine ad4 (wpAny_alloc ?_)
 have x1:(s.heap.push {cls:=.type "dict",data:=.dict #[]}).get? x=some ⟨.ref C,none,.fields vs,osl⟩:=ad9 _ hx
 refine ad4 (wpAny_update x1 ?_)
 refine aea (a:=some s.heap.objs.size) ?_
 show wpAny _ _ (storeInDict s.heap.objs.size (Value.str f s.toks) f v) _ _ _
 unfold storeInDict
 refine ad4 (m:=newKeyGuard _ _ _) ?_
 refine aea (ad4 ?_)
 have ne:s.heap.objs.size≠x:=afF (aei hx)
 have d1:((s.heap.push {cls:=.type "dict",data:=.dict #[]}).update x λo=>{o with dict:=some s.heap.objs.size}).get? s.heap.objs.size=some {cls:=.type "dict",data:=.dict #[]} :=
  (aeG _ _ (afa ne)).trans (ael s.heap rfl)
 have x2:((s.heap.push {cls:=.type "dict",data:=.dict #[]}).update x λo=>{o with dict:=some s.heap.objs.size}).get? x=some ⟨.ref C,some s.heap.objs.size,.fields vs,osl⟩:=aeZ _ x1 rfl
 refine wpAny_nsSet1 (Vy d1 rfl) λh' hn2 hs2=>?_
 obtain⟨oD,esD,epD,hoD,hdD,hcD⟩:=hn2.count (ns:=[f]) (PySem.Within.cons f v (ns:=[]) (λy hy=>absurd rfl hy))
 refine ad4 (wpAny_lookBehind hoD (by rw[hdD];exact pastItsLine_dict (aep hcD (Nat.le_add_left 1 sizeLine))) ?_)
 refine aea (h _ _ ((hs2.2 _ (afa ne)).trans x2) hn2 λb o hb q=>?_)
 have nb:b≠s.heap.objs.size:=aeH (aei q)
 exact(hs2.2 b nb).trans ((aeG _ _ (afa hb)).trans (ad9 _ q))
theorem Sj{d:Addr}{mA:Str->Option Value}{ns:List Str}{Q:Unit->Shared->Prop}(lZ:K.In s.heap)(c:xJ K C N bm ini)(tl:Ih K bm)(a:Xl K C f)(hx:s.heap.get? x=some ox)(hc:ox.cls=.ref C)(hdi:ox.dict=some d)(hd:ox.data=.fields vs)(hn:s.heap.Ns1 d mA)(hw:PySem.Within mA ns)(hsz:ns.length<=sizeLine)(h:∀h' tk,h'.Ns1 d (λy=>if y=f then some v else mA y)->Heap.SameBut d s.heap h'->Q () {s with heap:=h',toks:=tk}):wpAny (model P w) A (setAttr (.ref x) f v) Q E s:=by
 obtain⟨od,ho,hl⟩:=Ey hn
 have J:W.InstAt s.heap x ox C (some od):=⟨hx,hc,by obtain⟨oc,odi,oda,osl⟩:=ox;cases hd;rfl,by rw[hdi];exact ho⟩
 refine W.set_plain lZ J a.sa (NT (s:={s with toks:=s.toks+1}) lZ c tl a J λb=>?_)
 obtain⟨cd,hcd,hm,hdd⟩:=c.cls a.hd
 obtain⟨oc,odi,oda,osl⟩:=ox
 dsimp only at hc hdi hd
 subst hc hdi hd
 refine ad4 (aea (ad4 (ad4 (wpAny_loadPart hx (ad4 (W.Looks.here (s:={s with toks:=s.toks+1}) (W.looks_clsIn lZ hcd) ?_))))))
 rw[hdd]
 refine aea (a:=some d) ?_
 show wpAny _ _ (storeInDict d (Value.str f s.toks) f v) _ _ _
 unfold storeInDict
 refine ad4 (m:=newKeyGuard _ _ _) ?_
 refine aea (ad4 ?_)
 refine wpAny_nsSet1 (s:={s with toks:=s.toks+1}) hn λh' hn2 hs2=>?_
 obtain⟨oD,esD,epD,hoD,hdD,hcD⟩:=hn2.count (PySem.Within.cons f v hw)
 refine ad4 (wpAny_lookBehind hoD (by rw[hdD];exact pastItsLine_dict (aep hcD (by rw[aex];omega))) ?_)
 exact aea (h _ _ hn2 hs2)
end
section
variable{P:Program}{w:World}{A:Around}{E:Value->Shared->Prop}{K:W.Frag}{C N fI:Addr}{bm:List Value}{us:List Value}
theorem DG{h:Heap}{g:Array GenState}{dr:Drawn}{tk:Nat}{os:OsState}{oI:Obj}{Q:Fin->Shared->Prop}(lZ:K.In h)(c:xJ K C N bm (some (.ref fI)))(tl:Ih K bm)(lf:h.get? fI=some oI)(cf:oI.cls=.type "function")(k:∀h' e,Heap.MadeExcOf h h' e (.ref C) us->wpAny (model P w) A (call (.ref fI) (.ref e::us)) (λr s'=>r=.none/\Q (.done (.ret (.ref e))) s') E ⟨h',g,dr,tk,os⟩)(hu:us.length<=sizeLine):wpAny (model P w) A (Builtin.«type.__call__» ⟨.ref C::us,[]⟩) Q E ⟨h,g,dr,tk,os⟩:=by
 obtain⟨nm,q,bs,hdct,sn,sub,ab,col,dd,k0,k1,k2,k3,k5,lc⟩:=c.obj lZ
 obtain⟨m,mi,mn⟩:=c.names
 have T:=tl.tail lZ
 have VE:=PySem.F.excBase_ValueError
 repeat (first|with_reducible refine afL lc ?_|with_reducible refine wpAny_madeBy_exc lc ?_|wp_step)
 refine codeAny_call_builtin_code (Code.quiet_builtin _ VE.quiet) (wpAny_check_new_subU VE 'c' T lc (codeAny_exc_new_subU VE 'c' VE T lc ?_ hu))
 show wpAny _ _ _ _ _ _
 generalize ho1:({cls:=.type "tuple",data:=.seq us.toArray}:Obj)=o1
 generalize ho2:({cls:=.ref C,data:=.fields #[.ref h.objs.size,.none,.none,.none,.bool false,.none]}:Obj)=o2
 have up:∀b o,h.get? b=some o->((h.push o1).push o2).get? b=some o:=λb o z=>ad9 _ (ad9 _ z)
 have lc1:=up _ _ lc
 have lf1:=up _ _ lf
 have n1:=mn _ (lZ.keeps up)
 have T1:=T.keeps up
 have z2:(h.push o1).objs.size=h.objs.size+1:=ae3 ..
 have ge:((h.push o1).push o2).get? (h.objs.size+1)=some o2:=by rw[←z2];exact ael _ (by rw[←ho2];rfl)
 have oc:o2.cls=.ref C:=by rw[←ho2]
 have cc:(Value.ref C::bm).contains (.ref C)=true:=by simp
 unfold isInstance
 repeat (first | (with_reducible refine afL ge ?_;rw[oc]) | (with_reducible refine wpAny_isSubtype_exc lc1 ?_;rw[cc])|wp_step)
 show wpAny _ _ (typeLookup (.ref C) _) _ _ _
 refine wpAny_typeLookup_tail lc1 n1 T1 VE.mroIs VE.init.lookup ?_
 rw[mi]
 refine wpAny_holding (ad4 ?_)
 unfold bindSpecial
 refine ad4 (wpAny_typeOf (T:="function") ⟨_,lf1,cf⟩ ?_)
 rw[aee 'c']
 have hm:Heap.MadeExcOf h ((h.push o1).push o2) (h.objs.size+1) (.ref C) us :=
  ⟨up,afE (Nat.le_succ _),h.objs.size,by rw[ge,←ho2],afE (ad6 _),by rw[ad9 _ (Heap.get?_push_at rfl (by rw[←ho1];rfl)),←ho1]⟩
 refine aea (ad4 (ae8 (k _ _ hm) (λr s' hr=>?_) λ_ _ z=>z))
 obtain⟨rfl,hQ⟩:=hr
 wp_walk
 exact hQ
theorem Sk{s:Shared}{oI:Obj}{Q:Value->Shared->Prop}(lZ:K.In s.heap)(c:xJ K C N bm (some (.ref fI)))(tl:Ih K bm)(lf:s.heap.get? fI=some oI)(cf:oI.cls=.type "function")(k:∀h' e,Heap.MadeExcOf s.heap h' e (.ref C) us->wpAny (model P w) (A.under (.builtin "type.__call__" ⟨.ref C::us,[]⟩)) (call (.ref fI) (.ref e::us)) (λr s'=>r=.none/\Q (.ref e) s') E {s with heap:=h'})(hu:us.length<=sizeLine):wpAny (model P w) A (call (.ref C) us) Q E s:=by
 obtain⟨nm,q,bs,hdct,sn,sub,ab,col,dd,k0,k1,k2,k3,k5,lc⟩:=c.obj lZ
 obtain⟨h,g,dr,tk,os⟩:=s
 have t1:=tc_lookup
 have t2:=tc_bind (.ref C)
 have tT:(⟨h,g,dr,tk,os⟩:Shared).TypeIs (.ref C) "type":=⟨_,lc,rfl⟩
 refine wpAny_call (codeAny_of_tree ?_)
 show wpAny _ _ (callAny (.ref C) _) _ _ _
 repeat (any_goals (first|assumption|with_reducible refine afL lc ?_|wp_step))
 exact⟨O,codeAny_call_builtin_at (Code.quiet_builtin _ 'b') entry_typeCall (wpAny_check_type_call_sub lc (DG lZ c tl lf cf k hu))⟩
theorem Sl{s:Shared}{ea:Addr}{oe:Obj}{vs:Array Value}{v:Value}{ini:Option Value}{Q:Value->Shared->Prop}(lZ:K.In s.heap)(c:xJ K C N bm ini)(tl:Ih K bm)(he:s.heap.get? ea=some oe)(hc:oe.cls=.ref C)(hd:oe.data=.fields vs)(hz:0<vs.size)(k:∀h' t,(∀b o,b≠ea->s.heap.get? b=some o->h'.get? b=some o)->h'.get? ea=some (oe.mapFields (·.setIfInBounds 0 (.ref t)))->Q .none {s with heap:=h'}):wpAny (model P w) A (call (.builtin "ValueError.__init__") [.ref ea,v]) Q E s:=by
 obtain⟨nm,q,bs,hdct,sn,sub,ab,col,dd,k0,k1,k2,k3,k5,lc⟩:=c.obj lZ
 have VE:=PySem.F.excBase_ValueError
 obtain⟨h,g,dr,tk,os⟩:=s
 refine wpAny_call (codeAny_call_builtin VE.init.plain VE.initEntry (wpAny_check_init_subU VE (tl.tail lZ) lc he hc ?_))
 wp_walk
 obtain⟨x0,hx0⟩:∃x0,vs[0]?=some x0:=⟨vs[0],Array.getElem?_eq_getElem hz⟩
 have he1:(h.push {cls:=.type "tuple",data:=.seq #[v]}).get? ea=some oe:=ad9 _ he
 have fin:=k ((h.push {cls:=.type "tuple",data:=.seq #[v]}).update ea (Obj.mapFields (·.setIfInBounds 0 (.ref h.objs.size)))) h.objs.size (λb o hb q=>(aeG _ _ (afa hb)).trans (ad9 _ q))
  (aeZ _ he1 (afg (aeT hd _)))
 rw[hd]
 refine aea ?_
 rw[hx0]
 refine aea (ad4 (wpAny_setField he1 hd hz ?_))
 cases x0<;>(wp_walk;exact fin)
theorem Lo{M:Model}{s:Shared}{env:Env}{ex:Expr}{pos:Pos}{ini:Option Value}{Q:Flow->Shared->Prop}(c:xJ K C N bm ini)(tl:Ih K bm)(hh:A.handled=none)(h:wpAny M A (eval ex env) (λv s1=>∃e oe vs,v=.ref e/\K.In s1.heap/\s1.heap.get? e=some oe/\oe.cls=.ref C/\oe.data=.fields vs/\vs[1]?=some .none/\E (.ref e) s1) E s):wpAny M A (exec (.Raise (some ex) none pos) env) Q E s:=by
 have bc:(Value.ref C::bm).contains (.type "BaseException")=true:=by rw[List.contains_cons,tl.base,Bool.or_true]
 rw[arm_exec_Raise]
 refine ad4 (wpAny_standAt ?_)
 show wpAny M A (raiseStmt env (some _) none) Q E s
 unfold raiseStmt
 refine ad4 (ad4 (ae8 h (λv s1 h1=>?_) λ_ _ z=>z))
 obtain⟨e,oe,vs,rfl,lZ,he,hc,hd,h1,hE⟩:=h1
 refine ad4 (wpAny_standAt (aea ?_))
 obtain⟨nm,q,bs,hdct,sn,sub,ab,col,dd,k0,k1,k2,k3,k5,lc⟩:=c.obj lZ
 obtain⟨hp,g,dr,tk,os⟩:=s1
 repeat (first | (with_reducible refine afL he ?_;rw[hc])|with_reducible refine afL lc ?_ | (with_reducible refine wpAny_isSubtype_exc lc ?_;rw[bc])|with_reducible refine aeK he hd h1 ?_|wp_step)
 exact wpAny_raiseNew_none hh hE
end
def OX(e:Addr)(C:Value)(od:Option Addr):HO:=.ext λh=>∃o vs,h.get? e=some o/\o.cls=C/\o.dict=od/\o.data=.fields vs/\vs[1]?=some .none/\vs[2]?=some .none
theorem Sm{P:Program}{w:World}{H:Hp}{h:Heap}{e:Addr}{C:Value}{od:Option Addr}(x:∃o vs,h.get? e=some o/\o.cls=C/\o.dict=od/\o.data=.fields vs/\vs[1]?=some .none/\vs[2]?=some .none):cM P w H h e (OX e C od) :=
 ⟨x,(let ⟨o,_,q,_⟩:=x;⟨o,q⟩),λ_ _ ⟨o,vs,q,r⟩ k=>⟨o,vs,k o q,r⟩⟩
def Xm(d:Addr)(fs:List (Str×V)):HO:=.ext λh=>∃mA,h.Ns1 d mA/\(∀g,qs (fs.lookup g) (mA g))/\PySem.Within mA (fs.map (·.1))
theorem Xn{P:Program}{w:World}{H:Hp}{h:Heap}{d:Addr}{fs:List (Str×V)}(x:∃mA,h.Ns1 d mA/\(∀g,qs (fs.lookup g) (mA g))/\PySem.Within mA (fs.map (·.1))):cM P w H h d (Xm d fs) :=
 ⟨x,(let ⟨_,⟨o,_,_,q,_⟩,_⟩:=x;⟨o,q⟩),λ_ _ ⟨m,n,r⟩ k=>⟨m,n.at k,r⟩⟩
def del(H:Hp)(a:Addr):Hp:=λb=>if b=a then none else H b
theorem IU{H:Hp}{a:Addr}:del H a a=none:=aee rfl
theorem Gq{H:Hp}{a b:Addr}(h:b≠a):del H a b=H b:=ad5 h
theorem YG{H:Hp}{a:Addr}{o:HO}(h:H a=some o):upd H a o=H:=by
 funext b
 unfold upd
 split
 ·rename_i z;rw[z,h]
 ·rfl
section
variable{X:Cx}{pins:List (Addr×Obj)}{σ:St}{H:Hp}{s:Shared}{a:Addr}{φ:Heap->Prop}
theorem Inv.Vz(I:Inv X pins σ H s)(e:H a=some (.ext φ)):Inv X pins σ (del H a) s:=by
 have nn:∀b,H b=none->del H a b=none:=λb z=>by unfold del;split<;>first|rfl|exact z
 have nx:∀b u,H b=some u->(∀ψ,u≠.ext ψ)->del H a b=some u:=λb u z k=>by
  rw[Gq]
  ·exact z
  ·rintro rfl;rw[e]at z;cases z;exact k φ rfl
 refine⟨I.ok,I.os,I.bare,⟨I.base.keep,I.base.slot,λb u q n hx=>nn b (I.base.free b u q n hx),I.base.there,λb xs q=>nx b _ (I.base.tups b xs q) (λ_ z=>nomatch z),λb u v q=>nx b _ (I.base.Ad b u v q) (λ_ z=>nomatch z),λb ps q=>?_⟩,I.loc,I.cell,nn _ I.free,λx c q=>nn _ (I.kD x c q),λp hp=>?_,λb u q=>?_,I.len⟩
 ·obtain⟨more,z⟩:=I.base.Bo b ps q
  exact⟨more,nx b _ z (λ_ z=>nomatch z)⟩
 ·obtain⟨e1,n1,r⟩:=I.pin p hp
  exact⟨e1,nn _ n1,r⟩
 ·by_cases hb:b=a
  ·subst hb;rw[IU]at q;cases q
  ·rw[Gq hb]at q
   exact(I.hok b u q).stay (λc v _ z=>z) (λc z=>nx c _ z (λ_ y=>nomatch y)) λc xs z=>nx c _ z (λ_ y=>nomatch y)
end
def acr(v:V):Prop:=(∃a:Int,v=.int a/\a.natAbs.log2<1920)\/∃x:Str,v=.str x/\x.length<=2000
section
variable{X:Cx}{e:Expr}{te:TE}{pos:Pos}
def acs(te:TE):TE:=λσ H Q=>te σ H λv H1=>acr v/\∀z:Str,z.length<=2000->Q (.str z) H1
theorem Sn(he:PE X e te):PE X (.FormattedValue e (-1) none pos) (acs te):=by
 intro pins s σ H Q I h
 refine wpAny_FormattedValue_plain (cS (he pins s σ H _ I h) λu s1 ⟨v,H1,I1,r,f,q⟩=>?_)
 rcases f with ⟨a,rfl,ha⟩|⟨x,rfl,hx⟩
 ·obtain⟨t,rfl⟩:=(show ∃t,u=Value.int a t from r)
  exact wpAny_formatField_int ha ⟨.str (Str.ofString (toString a)),H1,I1.tok _,⟨_,rfl⟩,q _ (aep (int_text_len_1921 ha) 'c')⟩
 ·obtain⟨t,rfl⟩:=(show ∃t,u=Value.str x t from r)
  exact wpAny_formatField_str ⟨.str x,H1,I1,⟨_,rfl⟩,q _ hx⟩ ⟨.str x,H1,I1.tok _,⟨_,rfl⟩,q _ hx⟩ (aep hx 'c')
abbrev TJ:=St->Hp->(Hp->Prop)->Prop
def PJ(X:Cx)(parts:List Expr)(t:TJ):Prop:=∀(pins:List (Addr×Obj))(s:Shared)(σ:St)(H:Hp)(out:Str)(Q:Hp->Prop),Inv X pins σ H s->t σ H Q->out.length+2000*parts.length<=100000->wpAny 'g' X.A (joinParts out (evalEach parts X.env)) (λu s'=>∃z H',RelV (.str z) u/\Inv X pins σ H' s'/\Q H') X.xe s
theorem YH:PJ X [] (λ_ H Q=>Q H):=λpins s σ H out Q I h hl=>joinParts_nil ⟨out,H,⟨_,rfl⟩,I.tok _,h⟩ (aep (show out.length<=100000 by simp at hl;exact hl) 'c')
theorem Bf{rest:List Expr}{t:TJ}(he:PE X e te)(hr:PJ X rest t)(hs:evalEach (e::rest) X.env=eval e X.env::evalEach rest X.env:=by rfl):PJ X (e::rest) (λσ H Q=>te σ H λv H1=>∃y:Str,v=.str y/\y.length<=2000/\t σ H1 Q):=by
 intro pins s σ H out Q I h hl
 rw[hs]
 refine joinParts_cons (cS (he pins s σ H _ I h) λu s1 ⟨v,H1,I1,r,y,ev,hy,q⟩=>?_)
 subst ev
 obtain⟨t,rfl⟩:=(show ∃t,u=Value.str y t from r)
 have el:(out++y).length=out.length+y.length:=Str.length_append ..
 rw[aex]at hl
 exact⟨aep (show(out++y).length<=100000 by omega) 'c',hr pins s1 σ H1 (out++y) Q I1 q 'f'⟩
theorem OY{v1 v2:Expr}{rest:List Expr}{t:TJ}(h:PJ X (v1::v2::rest) t)(hn:2000*(v1::v2::rest).length<=100000:=by decide):PE X (.JoinedStr (v1::v2::rest) pos) (λσ H Q=>t σ H λH'=>∀z:Str,Q (.str z) H'):=by
 intro pins s σ H Q I hq
 refine JoinedStr_many ?_
 exact cS (h pins s σ H Str.empty _ I hq (by show 0+_<=_;omega)) λu s1 ⟨z,H1,r,I1,q⟩=>⟨.str z,H1,I1,r,q z⟩
end
section
variable{X:Cx}{C N D fI:Addr}{bm:List Value}{ini:Option Value}{x f:Str}{np ap pos cpos pos':Pos}{e o value a1 a2:Expr}{es:List Expr}{t:TA}{ta tv te:TE}
structure XIn(K:W.Frag)(D:Addr):Prop where
 sp:W.specialIn K (.ref D) "__getattribute__"=some (some (.builtin "type.__getattribute__"))
 rd:W.readsIn K D (.type "type")=true
 fc:W.findCls K (.ref D) (.type "type") "__init__"=some (.val (.builtin "ValueError.__init__"))
inductive IV(C:Addr)(Q:VK)(vs:List V)(H1:Hp):Prop where
 |mk ea od z:(vs=[.ref ea,z])->(H1 ea=some (OX ea (.ref C) od))->(Q .non H1)->IV C Q vs H1
def YI(C:Addr)(t:TA):TE:=λσ H Q=>t σ H λvs H1=>IV C Q vs H1
theorem So{pl:Sem Bool}(hg:Gl X x)(hm:X.mg x=some (.ref D))(i:XIn X.K D)(c:xJ X.K C N bm ini)(tl:Ih X.K bm)(ha:PA X [a1,a2] t)(hdb:(x==("__debug__":Str))=false:=by decide)(hst:starEach [a1,a2] X.env=(false,eval a1 X.env)::starEach [a2] X.env:=by rfl)(hpl:(backTo pos (starEach [a2] X.env)).any (·.1)=false:=by rfl)(ht:eval (.Call (.Attribute (.Name x np) "__init__" ap) [a1,a2] [] pos) X.env=(do
   let ov ←eval (.Name x np) X.env
   standAt ap.atName
   let (f,first) ←holding [ov] (getMethod ov "__init__" pl)
   callWith pos f first (backTo pos (starEach [a1,a2] X.env)) (backToKw pos (keywordEach [] X.env))):=by rfl):PE X (.Call (.Attribute (.Name x np) "__init__" ap) [a1,a2] [] pos) (YI C t):=by
 intro pins s σ H Q I h
 refine W.methodCall_KW (pl:=pl) (oQ I hg hm ?_ hdb) ht
 refine W.method_cls I.nQ i.sp (W.cls_value I.nQ i.rd i.fc 'b' ?_)
 have I0:=I.tok (s.toks+1)
 refine PyProof.Rows.callWith_builtin1 (cS (ha pos pins _ σ H _ I0 h) λus s1 ⟨vs,H1,I1,r,ea,od,z,ev,Dz,q⟩=>?_) hst hpl
 subst ev
 obtain⟨⟨oe,ws,he,hc,hdi,hd,h1⟩,_⟩:=I1.hok ea _ Dz
 cases r with
 |cons r1 r' =>
  cases r' with
  |cons r2 r'' =>
   cases r''
   obtain rfl:=(show _=Value.ref ea from r1)
   have hz:=(afb.mp h1.1).1
   refine Sl I1.nQ c tl he hc hd 'f' λh' ta kp he'=>?_
   have W:=I1.write (x:=ea) (e:=ea) (o:=OX ea (.ref C) od) (h':=h') (t':=s1.toks) (by rw[Dz];exact True.intro) (.inl rfl) kp ⟨_,he'⟩ (Sm ⟨_,_,he',(BJ _ _).trans hc,(xX _ _).trans hdi,aeT hd _,by rw[afD 'c'];exact h1.1,by rw[afD 'c'];exact h1.2⟩)
   rw[YG Dz]at W
   exact⟨.non,H1,W,O,q⟩
def YJ(C:Addr)(ta tv:TE)(f:Str):TS:=λD σ H=>tv σ H λy H1=>ta σ H1 λx H2=>∃ea,x=.ref ea/\H2 ea=some (OX ea (.ref C) none)/\∀d,H2 d=none->D.nx σ (upd (upd H2 ea (OX ea (.ref C) (some d))) d (Xm d [(f,y)]))
theorem Sq(hex:X.ex=[])(c:xJ X.K C N bm ini)(tl:Ih X.K bm)(a:Xl X.K C f)(ha:PE X o ta)(hv:PE X value tv)(hs:swapsWith value (some (.Attribute o f pos')) pos.line X.env=pure false):PS X (.Assign [.Attribute o f pos'] value pos) (YJ C ta tv f):=by
 intro pins s σ H D I h
 refine plainObj_wpAny_Assign_Attribute (cS (hv pins s σ H _ I h) λu s1 ⟨y,H1,I1,ry,q⟩=>cS (ha pins s1 σ H1 _ I1 q) λov s2 ⟨x,H2,I2,rx,ea,ex,Dz,q2⟩=>?_) hs
 subst ex
 obtain rfl:ov=Value.ref ea:=rx
 obtain⟨⟨oe,ws,he,hc,hdi,hd,h1⟩,_⟩:=I2.hok ea _ Dz
 refine Si I2.nQ c tl a he hc hdi hd λh' tk x1 n1 kp=>?_
 have nd:H2 s2.heap.objs.size=none:=I2.hok.fresh (ad6 _)
 have W:=I2.write (x:=ea) (e:=ea) (o:=OX ea (.ref C) (some s2.heap.objs.size)) (h':=h') (t':=tk) (by rw[Dz];exact True.intro) (.inl rfl) kp ⟨_,x1⟩ (Sm ⟨_,_,x1,hc,rfl,hd,h1⟩)
 have ne:s2.heap.objs.size≠ea:=λz=>by rw[z,Dz]at nd;cases nd
 have T:=I2.Sh W (a:=s2.heap.objs.size) (o:=Xm s2.heap.objs.size [(f,y)]) hex (by rw[az ne];exact nd) (afE (ad6 _)) (Xn ⟨_,n1,λg=>?_,λg hg=>?_⟩)
 ·exact⟨σ,_,T,q2 _ nd⟩
 ·show qs (List.lookup g [(f,y)]) (if g=f then some u else none)
  by_cases z:g=f
  ·subst z;simp[List.lookup];exact ry
  ·rw[ad5 z];simp[List.lookup,beq_false_of_ne z];exact True.intro
 ·by_cases z:g=f
  ·rw[z];exact ad7.mpr rfl
  ·exact absurd (ad5 z) hg
def YK(C:Addr)(ta tv:TE)(f:Str):TS:=λD σ H=>tv σ H λy H1=>ta σ H1 λx H2=>∃ea d fs,x=.ref ea/\H2 ea=some (OX ea (.ref C) (some d))/\H2 d=some (Xm d fs)/\fs.length<1000/\D.nx σ (upd H2 d (Xm d (kG f y fs)))
theorem Ss(c:xJ X.K C N bm ini)(tl:Ih X.K bm)(a:Xl X.K C f)(ha:PE X o ta)(hv:PE X value tv)(hs:swapsWith value (some (.Attribute o f pos')) pos.line X.env=pure false):PS X (.Assign [.Attribute o f pos'] value pos) (YK C ta tv f):=by
 intro pins s σ H D I h
 refine plainObj_wpAny_Assign_Attribute (cS (hv pins s σ H _ I h) λu s1 ⟨y,H1,I1,ry,q⟩=>cS (ha pins s1 σ H1 _ I1 q) λov s2 ⟨x,H2,I2,rx,ea,d,fs,ex,Dz,hed,hl,q2⟩=>?_) hs
 subst ex
 obtain rfl:ov=Value.ref ea:=rx
 obtain⟨⟨oe,ws,he,hc,hdi,hd,h1⟩,_⟩:=I2.hok ea _ Dz
 obtain⟨⟨mA,hn,r,wi⟩,_⟩:=I2.hok d _ hed
 have hz:(fs.map (·.1)).length<=sizeLine:=by rw[aec,sizeLine_eq];omega
 refine Sj I2.nQ c tl a he hc hdi hd hn wi hz λh' tk n1 sb=>?_
 have W4:∃o,h'.get? d=some o:=let ⟨o,_,_,e',_⟩:=n1;⟨o,e'⟩
 have W:=I2.write (x:=d) (e:=d) (o:=Xm d (kG f y fs)) (h':=h') (t':=tk) (by rw[hed];exact True.intro) (.inl rfl) (λb q hb z=>(sb.2 b hb).trans z) W4 (Xn ⟨_,n1,λg=>?_,λg hg=>?_⟩)
 ·exact⟨σ,_,W,q2⟩
 ·show qs ((kG f y fs).lookup g) (if g=f then some u else mA g)
  rw[qE]
  by_cases q:g=f
  ·rw[aee q,aee q];exact ry
  ·rw[ad5 q,ad5 q];exact r g
 ·by_cases q:g=f
  ·rw[q];exact(nR f y fs).1
  ·refine(nR f y fs).2 g (wi g λz=>hg ?_)
   show(if g=f then some u else mA g)=none
   rw[ad5 q];exact z
end
section
variable{P:Program}{w:World}{K:W.Frag}{mg:Str->Option Value}{base:Heap}{N0:List Str}{qual:Str}{scope:Scope}{f:Addr}{cd:Value}{A:Around}{outer:List Env}{s0:Shared}{H0:Hp}{E:XK}
def VA(E:XK)(C:Addr)(sp:Sp)(t:TA):TS:=λ_ σ H=>t σ H λvs H1=>vs.length<=sizeLine/\∀ea,H1 ea=none->sp (.ref ea::vs) (upd H1 ea (OX ea (.ref C) none)) (λv H2=>v=.non/\∃od,H2 ea=some (OX ea (.ref C) od)/\E (.ref C) od (del H2 ea)) E0
theorem OZ{X:Cx}(hX:X=Gf (Vu P w) P w K mg base N0 qual scope f cd A outer s0 H0 E){C N fI:Addr}{bm:List Value}{x:Str}{np cpos pos:Pos}{e:Expr}{es:List Expr}{t:TA}{k:Nat}{fd:FuncData}{ps:List Str}{sp:Sp}{oI:Obj}(c:xJ K C N bm (some (.ref fI)))(tl:Ih K bm)(lf:K.lookup fI=some oI)(cf:oI.cls=.type "function")(F:bg P w K mg base dQ k fI fd ps sp)(hr:fS (k+1) X.A)(hb:Binds K fd ps [])(hk:W.keepIn K (.ref C)=true)(hg:Gl X x)(hm:mg x=some (.ref C))(ha:PA X (e::es) t)(hdb:(x==("__debug__":Str))=false:=by decide)(he:starEach (e::es) X.env=(false,eval e X.env)::starEach es X.env:=by rfl)(hpl:(backTo cpos (starEach es X.env)).any (·.1)=false:=by rfl):PS X (.Raise (some (.Call (.Name x np) (e::es) [] cpos)) none pos) (VA E C sp t):=by
 intro pins s σ H D I h
 have hx:X.xe=λ(e:Value)(s':Shared)=>wpAny 'g' X.A (leaving X.env e) (λ_ s''=>Vu X.prog X.w X.outer X.H₀ X.s₀ E e s'') (λe' s''=>Vu X.prog X.w X.outer X.H₀ X.s₀ E e' s'') s':=by subst hX;rfl
 have hst:X.stack=X.env::X.outer:=by subst hX;rfl
 have hfm:X.env.frame=some X.env.locals:=by subst hX;rfl
 have hex:X.ex=[]:=by subst hX;rfl
 have hmg:X.mg x=some (.ref C):=by subst hX;exact hm
 have IW:X.calm=true:=by subst hX;rfl
 have hK:X.K=K:=by subst hX;rfl
 have F':bg X.prog X.w X.K X.mg X.base dQ k fI fd ps sp:=by subst hX;exact F
 refine Lo (K:=K) c tl (I.ok.hd IW) (afz (oQ I hg hmg ?_ hdb))
 refine W.callWith_K (K:=X.K) (h₀:=X.base) I.ok.mod.lZ (by rw[hK];exact hk) (cS (ha cpos pins s σ H _ I h) λus s1 ⟨vs,H1,I1,r,hl,q⟩=>⟨I1.nQ,?_⟩) he hpl
 have lZ:K.In s1.heap:=by rw[←hK];exact I1.nQ
 refine Sk lZ c tl (lZ _ _ lf) cf (λh' ea md=>?_) (by show us.length<=sizeLine;rw[←r.length];exact hl)
 obtain⟨tt,q1,_,_⟩:=md.there
 have nea:H1 ea=none:=I1.hok.none md.new
 have I2:=I1.kept (t':=s1.toks) (h':=h') md.keeps
 have I3:=I1.Sh I2 (a:=ea) (o:=OX ea (.ref C) none) hex nea md.new (Sm ⟨_,_,q1,rfl,rfl,rfl,rfl,rfl⟩)
 have hq:=q ea nea
 have r2:Vals (V.ref ea::vs) (Value.ref ea::us):=.cons rfl r
 have hlen:(Value.ref ea::us++[]).length=ps.length:=by rw[aeD,←r2.length];exact F'.len _ _ _ _ hq
 have hb':=hb {s1 with heap:=h'} (Value.ref ea::us) (by rw[←hK];exact I3.nQ) hlen
 rw[aeD]at hb'
 refine wpAny_call (codeAny_mono (F'.run _ X.stack _ _ ⟨Value.ref ea::us,[]⟩ (Value.ref ea::us) _ _ E0 (hr.make C us []) (I3.U5.make C us []) hb' r2 hq) λrr s' hq'=>?_)
 cases rr with
 |error e=>exact hq'.elim
 |ok fl =>
  cases fl with
  |next=>exact hq'.elim
  |brk=>exact hq'.elim
  |cont=>exact hq'.elim
  |ret u =>
   obtain⟨v,H',os,bare,un,hok,rv,ev,od,Dz,hE⟩:=hq'
   subst ev
   have J:=I3.Q7 os un hok bare (λb z=>nomatch z)
   obtain⟨⟨oe,ws,he2,hc2,acu,hd2,h12⟩,_⟩:=J.hok ea _ Dz
   refine⟨rv,ea,oe,ws,O,by rw[←hK];exact J.nQ,he2,hc2,hd2,h12.1,?_⟩
   rw[hx]
   exact leaveX (fl:=none) hst hfm hex I1 (J.Vz Dz) (λb o z=>un.there b o (md.keeps b o z) (by simp)) ⟨IU,md.new,oe,ws,he2,hc2,acu,hd2,h12⟩ (.inl rfl) hE
end
open PySem PySem.Spec PyProof.Rows
structure aa7(k:Nat)(A:Around):Prop where
 dp:A.depth+3*k+5<recursionLimit
 un:A.units+16*k+200<cLine
theorem fS.m{k:Nat}{A:Around}(r:fS k A):aa7 k A:=⟨r.dp,r.un⟩
section
variable{P:Program}{w:World}{K:W.Frag}{mg:Str->Option Value}{base:Heap}
end
section
variable{X:Cx}{k:Nat}{f:Addr}{fd:FuncData}{ps:List Str}{sp:Sp}{x:Str}{p pos:Pos}{e:Expr}{es:List Expr}{t:TA}
end
end L2
set_option maxHeartbeats 4000000
namespace L2
open PySem PySem.Spec PyProof.Rows
section
variable{prog:Program}{w:World}{A:Around}{E:Value->Shared->Prop}{s:Shared}
theorem Lp{it t:Addr}{i:Nat}{items:Array Value}{x:Value}{Q:Value->Shared->Prop}(hit:s.heap.IsTupleIter it t i)(ht:s.heap.IsTuple t items)(hx:items[i]?=some x)(hQ:∀h',h'.IsTupleIter it t (i+1)->Heap.SameBut it s.heap h'->Q x {s with heap:=h'}):wpAny (model prog w) A (Builtin.SmallTypes.nextOf (.ref it)) Q E s:=by
 obtain⟨o,ho,hc,hd⟩:=id hit
 obtain⟨ol,YN,_,nl,hdl⟩:=id ht
 unfold Builtin.SmallTypes.nextOf;refine ad4 (aeU (name:=("__next__":Str)) hit.typeIs F.slot_tuple_iterator_next (ae6 F.slot_tuple_iterator_next hit.typeIs F.entry_tuple_iterator_next ?_ (F.args_tuple_iterator_next_1 _)))
 show wpAny _ _ (field (.ref it) 0 >>= _) _ _ _;refine ad4 (aeK ho hd (x:=.ref t) rfl ?_)
 show wpAny _ _ (if (Value.ref t==Value.none)=true then _ else _) _ _ _;rw[ad5 (λq:(Value.ref t==Value.none)=true=>nomatch q)]
 show wpAny _ _ (field (.ref it) 1 >>= _) _ _ _;refine ad4 (aeK ho hd (x:=.int i 0) rfl ?_)
 show wpAny _ _ (seqItems? (.ref t) >>= _) _ _ _;refine ad4 (aeW YN hdl ?_)
 simp only[Int.toNat_natCast,hx]
 refine ad4 (wpAny_setField ho hd (by simp) (aea ⟨x,rfl,aea (hQ _ ⟨_,aeZ _ ho (afg (aeT hd _)),(Obj.cls_mapFields ..).trans hc,by rw[aeT hd];simp[rawInt]⟩ (Heap.SameBut.update ..))⟩))
theorem O0{it t:Addr}{i:Nat}{items:Array Value}{Q:Value->Shared->Prop}(hh:A.handled=none)(hit:s.heap.IsTupleIter it t i)(ht:s.heap.IsTuple t items)(hx:items[i]?=none)(hE:∀h' e,Heap.ExtBut it s.heap h'->(∃o,h'.get? e=some o/\o.cls=.type "StopIteration")->E (.ref e) {s with heap:=h'}):wpAny (model prog w) A (Builtin.SmallTypes.nextOf (.ref it)) Q E s:=by
 obtain⟨o,ho,hc,hd⟩:=id hit
 obtain⟨ol,YN,_,nl,hdl⟩:=id ht
 unfold Builtin.SmallTypes.nextOf;refine ad4 (aeU (name:=("__next__":Str)) hit.typeIs F.slot_tuple_iterator_next (ae6 F.slot_tuple_iterator_next hit.typeIs F.entry_tuple_iterator_next ?_ (F.args_tuple_iterator_next_1 _)))
 show wpAny _ _ (field (.ref it) 0 >>= _) _ _ _;refine ad4 (aeK ho hd (x:=.ref t) rfl ?_)
 show wpAny _ _ (if (Value.ref t==Value.none)=true then _ else _) _ _ _;rw[ad5 (λq:(Value.ref t==Value.none)=true=>nomatch q)]
 show wpAny _ _ (field (.ref it) 1 >>= _) _ _ _;refine ad4 (aeK ho hd (x:=.int i 0) rfl ?_)
 show wpAny _ _ (seqItems? (.ref t) >>= _) _ _ _;refine ad4 (aeW YN hdl ?_)
 simp only[Int.toNat_natCast,hx]
 refine ad4 (wpAny_rule (ad4 (wpAny_setField ho hd (by simp) ?_)));   show wpAny _ _ (newExc (.type "StopIteration") [] >>= _) _ _ _;refine ad4 ?_
 simp only[newExc,newTuple];refine ad4 (ae0 ?_ (by size_fits))
 refine ad4 (m:=firstArgMember _ _) (wpAny_of_eq (a:=Value.none) (by first|rfl | (simp only[firstArgMember];rfl)) (ae0 ?_ (by size_fits)))
 simp only[raiseNew];refine ad4 (wpAny_handled ?_)
 first|rw[show A.in1.handled=none from hh];refine ad4 (aea (wpAny_throw ?_))|rw[hh];refine ad4 (aea (wpAny_throw ?_))
 exact hE _ _ (((Heap.SameBut.update ..).extBut.push _).push _) ⟨_,ael _ rfl,rfl⟩
theorem Su(hh:A.handled=none)(it l:Addr)(hne:l≠it)(items:Array Value):Draws prog w A it [it,l] items.size (λi v=>items[i]?=some v) (λi h=>h.IsTupleIter it l i/\h.IsTuple l items) where
 live:=λ_ _ st=>let ⟨o,ho,_⟩:=st.1;⟨o,ho⟩
 frame:=λ_ _ _ st hk=>⟨let ⟨o,ho,r⟩:=st.1;⟨o,hk it (by simp) o ho,r⟩,let ⟨o,ho,r⟩:=st.2;⟨o,hk l (by simp) o ho,r⟩⟩
 item:=λi s Q E hi st hQ=>Lp st.1 st.2 (x:=items[i]) (by simp[hi]) λh' YO hs'=>hQ _ h' s.toks (by simp[hi]) ⟨YO,st.2.extBut hs'.extBut hne⟩ hs'
 done:=λs Q E st hE=>O0 hh st.1 st.2 (by simp) hE
theorem Sv{z TI TO i1 i2 l1 l2:Addr}{n1 n2 k:Nat}{P1 P2:Nat->Value->Prop}{S1 S2:Nat->Heap->Prop}{a b:Value}{Q:Value->Shared->Prop}(D:ZipApart z TI TO i1 i2 l1 l2)(G1:Draws prog w A i1 [i1,l1] n1 P1 S1)(G2:Draws prog w A i2 [i2,l2] n2 P2 S2)(hz:IsZip s.heap z TI TO .none)(hTI:IsPair s.heap TI (.ref i1) (.ref i2))(hTO:IsPair s.heap TO a b)(g1:S1 k s.heap)(g2:S2 k s.heap)(k1:k<n1)(k2:k<n2)(hQ:∀h' tk x y,P1 k x->P2 k y->IsZip h' z TI TO (rawInt s.heap.objs.size)->IsPair h' TO x y->S1 (k+1) h'->S2 (k+1) h'->IsPair h' s.heap.objs.size x y->(∀c o,c≠z->c≠TO->c≠i1->c≠i2->s.heap.get? c=some o->h'.get? c=some o)->Q (.ref s.heap.objs.size) {s with heap:=h',toks:=tk}):wpAny (model prog w) A (Builtin.«zip.__next__» ⟨[.ref z],[]⟩) (λfin s'=>∃v,fin=.done (.ret v)/\Q v s') E s:=by
 have e1:∀{i:Nat}{h h':Heap}{c:Addr},Heap.SameBut c h h'->i1≠c->l1≠c->S1 i h->S1 i h':=λhs hn hl g=>G1.frame _ _ _ g λb hb o e=>by
  rcases aeh.mp hb with q|q
  ·rw[q]at e⊢;exact hs.extBut _ _ hn e
  ·rw[ad7.mp q]at e⊢;exact hs.extBut _ _ hl e
 have e2:∀{i:Nat}{h h':Heap}{c:Addr},Heap.SameBut c h h'->i2≠c->l2≠c->S2 i h->S2 i h':=λhs hn hl g=>G2.frame _ _ _ g λb hb o e=>by
  rcases aeh.mp hb with q|q
  ·rw[q]at e⊢;exact hs.extBut _ _ hn e
  ·rw[ad7.mp q]at e⊢;exact hs.extBut _ _ hl e
 show wpAny _ _ (field (.ref z) 2 >>= _) _ _ _
 refine ad4 (aeK hz rfl (x:=.bool false) rfl ?_)
 show wpAny _ _ (field (.ref z) 3 >>= _) _ _ _
 refine ad4 (aeK hz rfl (x:=.ref TI) rfl (ad4 (aeW hTI rfl ?_)))
 show wpAny _ _ (Builtin.SmallTypes.ownedTupleIsFree (.ref z) >>= _) _ _ _
 refine ad4 ?_
 unfold Builtin.SmallTypes.ownedTupleIsFree
 refine ad4 (aeK hz rfl (x:=.none) rfl (aea ?_))
 simp only[afW]
 refine ad4 (wpAny_rule (ad4 (aeK hz rfl (x:=.ref TO) rfl (ad4 (aeY hz (by simp) λA1 z1 q1=>?_)))))
 replace z1:IsZip A1 z TI TO .ellipsis:=z1
 refine ad4 ?_
 simp only[List.zipIdx_cons,List.zipIdx_nil,List.forIn_cons,List.forIn_nil]
 refine ad4 (ad4 (afS ?_))
 show wpAny _ _ (Builtin.SmallTypes.nextOf (.ref i1) >>= _) _ _ _
 refine ad4 (G1.item k _ _ _ k1 (e1 q1 D.i1z D.l1z g1) λx A2 tk px g1' q2=>aea ?_)
 have o2:IsPair A2 TO a b:=q2.extBut _ _ D.TOi1 (q1.extBut _ _ D.TOz hTO)
 refine ad4 (aeW o2 rfl (ad4 (afH o2 λA3 o3 q3=>?_)))
 replace o3:IsPair A3 TO x b:=o3
 refine ad4 (wpAny_letGo (aea (ad4 (ad4 (afS ?_)))))
 show wpAny _ _ (Builtin.SmallTypes.nextOf (.ref i2) >>= _) _ _ _
 refine ad4 (G2.item k _ _ _ k2 (e2 q3 D.TOi2.symm D.l2TO (e2 q2 D.i12.symm D.l2i1 (e2 q1 D.i2z D.l2z g2))) λy A4 tk2 py g2' q4=>aea ?_)
 have o4:IsPair A4 TO x b:=q4.extBut _ _ D.TOi2 o3
 refine ad4 (aeW o4 rfl (ad4 (afH o4 λA5 o5 q5=>?_)))
 replace o5:IsPair A5 TO x y:=o5
 refine ad4 (wpAny_letGo (aea (aea (ad4 (aeW o5 rfl (ad4 (wpAny_newTuple ?_)))))))
 have sz:A5.objs.size=s.heap.objs.size:=by rw[q5.1,q4.1,q3.1,q2.1,q1.1]
 have z5:IsZip A5 z TI TO .ellipsis:=q5.extBut _ _ D.TOz.symm (q4.extBut _ _ D.i2z.symm (q3.extBut _ _ D.TOz.symm (q2.extBut _ _ D.i1z.symm z1)))
 have w1:S1 (k+1) A5:=e1 q5 D.TOi1.symm D.l1TO (e1 q4 D.i12 D.l1i2 (e1 q3 D.TOi1.symm D.l1TO g1'))
 have w2:S2 (k+1) A5:=e2 q5 D.TOi2.symm D.l2TO g2'
 have kp:∀c o,c≠z->c≠TO->c≠i1->c≠i2->s.heap.get? c=some o->A5.get? c=some o:=λc o c1 c2 c3 c4 e=>q5.extBut _ _ c2 (q4.extBut _ _ c4 (q3.extBut _ _ c2 (q2.extBut _ _ c3 (q1.extBut _ _ c1 e))))
 have lz:z<A5.objs.size:=aei z5
 have z6:IsZip (A5.push {cls:=.type "tuple",data:=.seq #[x,y]}) z TI TO .ellipsis:=ad9 _ z5
 show wpAny _ _ (Builtin.SmallTypes.ownedTupleHandOut (.ref z) (.ref A5.objs.size) >>= _) _ _ _
 refine ad4 ?_
 unfold Builtin.SmallTypes.ownedTupleHandOut
 refine ad4 (aeY z6 (by simp) λA7 z7 q7=>?_)
 replace z7:IsZip A7 z TI TO (rawInt A5.objs.size):=z7
 refine aeY z7 (by simp) λA8 z8 q8=>?_
 replace z8:IsZip A8 z TI TO (rawInt A5.objs.size):=z8
 have up:∀c o,c≠z->A5.get? c=some o->A8.get? c=some o:=λc o c1 e=>q8.extBut _ _ c1 (q7.extBut _ _ c1 (ad9 _ e))
 have t8:IsPair A8 A5.objs.size x y:=q8.extBut _ _ (afF lz) (q7.extBut _ _ (afF lz) (ael _ rfl))
 have v1:S1 (k+1) A8:=G1.frame _ _ _ w1 λb hb o e=>by
  rcases aeh.mp hb with q|q
  ·rw[q]at e⊢;exact up _ o D.i1z e
  ·rw[ad7.mp q]at e⊢;exact up _ o D.l1z e
 have v2:S2 (k+1) A8:=G2.frame _ _ _ w2 λb hb o e=>by
  rcases aeh.mp hb with q|q
  ·rw[q]at e⊢;exact up _ o D.i2z e
  ·rw[ad7.mp q]at e⊢;exact up _ o D.l2z e
 rw[sz]at z8 t8
 refine aea ⟨_,rfl,?_⟩
 show Q (.ref A5.objs.size) _
 rw[sz]
 exact hQ A8 _ x y px py z8 (up _ _ D.TOz o5) v1 v2 t8 λc o c1 c2 c3 c4 e=>up c o c1 (kp c o c1 c2 c3 c4 e)
theorem VB{z TI TO i1 i2 l1 l2:Addr}{n1 n2 k:Nat}{P1 P2:Nat->Value->Prop}{S1 S2:Nat->Heap->Prop}{a b:Value}{Q:Fin->Shared->Prop}(D:ZipApart z TI TO i1 i2 l1 l2)(G1:Draws prog w A i1 [i1,l1] n1 P1 S1)(G2:Draws prog w A i2 [i2,l2] n2 P2 S2)(hz:IsZip s.heap z TI TO .none)(hTI:IsPair s.heap TI (.ref i1) (.ref i2))(hTO:IsPair s.heap TO a b)(g1:S1 k s.heap)(g2:S2 k s.heap)(hk:k=n1\/(k<n1/\k=n2))(hE:∀h' tk e,(∀c o,c≠z->c≠TO->c≠i1->c≠i2->s.heap.get? c=some o->h'.get? c=some o)->(∃o,h'.get? e=some o/\o.cls=.type "StopIteration")->E (.ref e) {s with heap:=h',toks:=tk}):wpAny (model prog w) A (Builtin.«zip.__next__» ⟨[.ref z],[]⟩) Q E s:=by
 have e1:∀{i:Nat}{h h':Heap}{c:Addr},Heap.SameBut c h h'->i1≠c->l1≠c->S1 i h->S1 i h':=λhs hn hl g=>G1.frame _ _ _ g λb hb o e=>by
  rcases aeh.mp hb with q|q
  ·rw[q]at e⊢;exact hs.extBut _ _ hn e
  ·rw[ad7.mp q]at e⊢;exact hs.extBut _ _ hl e
 have e2:∀{i:Nat}{h h':Heap}{c:Addr},Heap.SameBut c h h'->i2≠c->l2≠c->S2 i h->S2 i h':=λhs hn hl g=>G2.frame _ _ _ g λb hb o e=>by
  rcases aeh.mp hb with q|q
  ·rw[q]at e⊢;exact hs.extBut _ _ hn e
  ·rw[ad7.mp q]at e⊢;exact hs.extBut _ _ hl e
 show wpAny _ _ (field (.ref z) 2 >>= _) _ _ _
 refine ad4 (aeK hz rfl (x:=.bool false) rfl ?_)
 show wpAny _ _ (field (.ref z) 3 >>= _) _ _ _
 refine ad4 (aeK hz rfl (x:=.ref TI) rfl (ad4 (aeW hTI rfl ?_)))
 show wpAny _ _ (Builtin.SmallTypes.ownedTupleIsFree (.ref z) >>= _) _ _ _
 refine ad4 ?_
 unfold Builtin.SmallTypes.ownedTupleIsFree
 refine ad4 (aeK hz rfl (x:=.none) rfl (aea ?_))
 simp only[afW]
 refine ad4 (wpAny_rule (ad4 (aeK hz rfl (x:=.ref TO) rfl (ad4 (aeY hz (by simp) λA1 z1 q1=>?_)))))
 replace z1:IsZip A1 z TI TO .ellipsis:=z1
 refine ad4 ?_
 simp only[List.zipIdx_cons,List.zipIdx_nil,List.forIn_cons,List.forIn_nil]
 refine ad4 (ad4 (afS ?_))
 show wpAny _ _ (Builtin.SmallTypes.nextOf (.ref i1) >>= _) _ _ _
 rcases hk with rfl|⟨k1,rfl⟩
 ·refine ad4 (G1.done _ _ _ (e1 q1 D.i1z D.l1z g1) λA2 e q2 he=>?_)
  obtain⟨oe,Lj,hce⟩:=he
  have z2:IsZip A2 z TI TO .ellipsis:=q2 _ _ D.i1z.symm z1
  have ez:e≠z:=λq=>by rw[q,z2]at Lj;cases Lj;exact absurd (show Value.type "zip"=Value.type "StopIteration" from hce) 'c'
  exact aeY z2 (by simp) λA3 _ q3=>hE A3 _ e (λc o c1 _ c3 _ p=>q3.extBut _ _ c1 (q2 _ _ c3 (q1.extBut _ _ c1 p))) ⟨oe,q3.extBut _ _ ez Lj,hce⟩
 ·refine ad4 (G1.item k _ _ _ k1 (e1 q1 D.i1z D.l1z g1) λx A2 tk px g1' q2=>aea ?_)
  have o2:IsPair A2 TO a b:=q2.extBut _ _ D.TOi1 (q1.extBut _ _ D.TOz hTO)
  refine ad4 (aeW o2 rfl (ad4 (afH o2 λA3 o3 q3=>?_)))
  refine ad4 (wpAny_letGo (aea (ad4 (ad4 (afS ?_)))))
  show wpAny _ _ (Builtin.SmallTypes.nextOf (.ref i2) >>= _) _ _ _
  refine ad4 (G2.done _ _ _ (e2 q3 D.TOi2.symm D.l2TO (e2 q2 D.i12.symm D.l2i1 (e2 q1 D.i2z D.l2z g2))) λA4 e q4 he=>?_)
  obtain⟨oe,Lj,hce⟩:=he
  have z4:IsZip A4 z TI TO .ellipsis:=q4 _ _ D.i2z.symm (q3.extBut _ _ D.TOz.symm (q2.extBut _ _ D.i1z.symm z1))
  have ez:e≠z:=λq=>by rw[q,z4]at Lj;cases Lj;exact absurd (show Value.type "zip"=Value.type "StopIteration" from hce) 'c'
  exact aeY z4 (by simp) λA5 _ q5=>hE A5 _ e (λc o c1 c2 c3 c4 p=>q5.extBut _ _ c1 (q4 _ _ c4 (q3.extBut _ _ c2 (q2.extBut _ _ c3 (q1.extBut _ _ c1 p))))) ⟨oe,q5.extBut _ _ ez Lj,hce⟩
theorem IX(hh:A.handled=none)(z TI TO i1 i2 l1 l2:Addr)(D:ZipApart z TI TO i1 i2 l1 l2)(xs ys:Array Value):WalksT prog w A z [z,TI,TO,i1,i2,l1,l2] [z,TO,i1,i2] (min xs.size ys.size)
   (λi vals=>∃x y,xs[i]?=some x/\ys[i]?=some y/\vals = #[x,y])
   (λi h=>IsZip h z TI TO .none/\IsPair h TI (.ref i1) (.ref i2)/\(∃a b,IsPair h TO a b)/\h.IsListIter i1 l1 i/\h.IsList l1 xs/\h.IsTupleIter i2 l2 i/\h.IsTuple l2 ys)
   (λi T h=>IsZip h z TI TO (rawInt T)/\IsPair h TI (.ref i1) (.ref i2)/\(∃a b,IsPair h TO a b)/\h.IsListIter i1 l1 (i+1)/\h.IsList l1 xs/\h.IsTupleIter i2 l2 (i+1)/\h.IsTuple l2 ys/\T≠z/\T≠TO/\T≠i1/\T≠i2) where
 sub:=λc hc=>by
  simp only[aeh,aeQ,afk]at hc⊢
  rcases hc with q|q|q|q<;>simp[q]
 frame:=λi h h' st hk=>by
  obtain⟨p1,p2,⟨a,b,p3⟩,p4,p5,p6,p7⟩:=st
  exact⟨hk z (by simp) _ p1,hk TI (by simp) _ p2,⟨a,b,hk TO (by simp) _ p3⟩,p4.at λo e=>hk i1 (by simp) o e,p5.at λo e=>hk l1 (by simp) o e,(let ⟨o,ho,r⟩:=p6;⟨o,hk i2 (by simp) o ho,r⟩),(let ⟨o,ho,r⟩:=p7;⟨o,hk l2 (by simp) o ho,r⟩)⟩
 item:=λi s Q E hi st hQ=>by
  obtain⟨p1,p2,⟨a,b,p3⟩,p4,p5,p6,p7⟩:=st
  have hT:s.TypeIs (.ref z) "zip":=⟨_,p1,rfl⟩
  unfold pyNext
  refine ad4 (wpAny_attempt (aeU (name:=("__next__":Str)) hT afI (ae6 afI hT F.entry_zip_next ?_ (F.args_zip_next_1 _))))
  refine Sv (S1:=λi h=>h.IsListIter i1 l1 i/\h.IsList l1 xs) (S2:=λi h=>h.IsTupleIter i2 l2 i/\h.IsTuple l2 ys) D (Draws.list (A:=A.in1) hh i1 l1 D.l1i1 xs) (Su (A:=A.in1) hh i2 l2 D.l2i2 ys) p1 p2 p3 ⟨p4,p5⟩ ⟨p6,p7⟩ (aeu hi (Nat.min_le_left ..)) (aeu hi (Nat.min_le_right ..)) λh' tk u y pu py r1 r2 r3 r4 r5 kp=>?_
  have lt:∀{c o},s.heap.get? c=some o->s.heap.objs.size≠c:=λe=>afF (aei e)
  refine aea (hQ s.heap.objs.size #[u,y] h' tk ⟨u,y,pu,py,rfl⟩ (ad6 _) ⟨_,r5,rfl,_,rfl⟩ ⟨r1,kp _ _ D.TIz D.TITO D.TIi1 D.TIi2 p2,⟨_,_,r2⟩,r3.1,r3.2,r4.1,r4.2,lt p1,lt p3,?_,?_⟩ λc o hc e=>kp c o (λq=>hc (by simp[q])) (λq=>hc (by simp[q])) (λq=>hc (by simp[q])) (λq=>hc (by simp[q])) e)
  ·obtain⟨o,ho,_⟩:=p4;exact lt ho
  ·obtain⟨o,ho,_⟩:=p6;exact lt ho
 go:=λelts k pos i T s Q E hm hQ=>by
  obtain⟨p1,p2,⟨a,b,p3⟩,p4,p5,p6,p7,_⟩:=hm
  refine wpAny_letOwnedTupleGo_zip p1 λh' z' q=>hQ h' ⟨z',q.extBut _ _ D.TIz p2,⟨a,b,q.extBut _ _ D.TOz p3⟩,p4.extBut q.extBut D.i1z,p5.extBut q.extBut D.l1z,p6.extBut q.extBut D.i2z,p7.extBut q.extBut D.l2z⟩ λc o hc e=>q.extBut _ _ (λy=>hc (by simp[y])) e
 apart:=λi T h hm hT=>by
  obtain⟨_,_,_,_,_,_,_,t1,t2,t3,t4⟩:=hm
  simp only[aeh,aeQ,afk]at hT
  rcases hT with q|q|q|q
  ·exact t1 q
  ·exact t2 q
  ·exact t3 q
  ·exact t4 q
 done:=λs Q E st hQ=>by
  obtain⟨p1,p2,⟨a,b,p3⟩,p4,p5,p6,p7⟩:=st
  have hT:s.TypeIs (.ref z) "zip":=⟨_,p1,rfl⟩
  unfold pyNext
  refine ad4 (wpAny_attempt (aeU (name:=("__next__":Str)) hT afI (ae6 afI hT F.entry_zip_next ?_ (F.args_zip_next_1 _))))
  refine VB (S1:=λi h=>h.IsListIter i1 l1 i/\h.IsList l1 xs) (S2:=λi h=>h.IsTupleIter i2 l2 i/\h.IsTuple l2 ys) D (Draws.list (A:=A.in1) hh i1 l1 D.l1i1 xs) (Su (A:=A.in1) hh i2 l2 D.l2i2 ys) p1 p2 p3 ⟨p4,p5⟩ ⟨p6,p7⟩ ?_ λh' tk e kp he=>?_
  ·by_cases q:xs.size<=ys.size
   ·exact .inl (Nat.min_eq_left q)
   ·exact .inr ⟨by omega,Nat.min_eq_right 'f'⟩
  ·obtain⟨o,ho,hc⟩:=he
   refine ad4 (wpAny_isInstance (T:="StopIteration") (b:=true) ⟨o,ho,hc⟩ isSubtype_stop (aea (hQ _ _ λc o hc e=>kp c o (λq=>hc (by simp[q])) (λq=>hc (by simp[q])) (λq=>hc (by simp[q])) (λq=>hc (by simp[q])) e)))
 self:=λi s Q E st hQ=>wpAny_pyIter_zip st.1 hQ
end
def VC(K:W.Frag)(a b:Addr):It :=
 ⟨λi H=>∃xs ys x y,aT K H a xs/\aX K H b ys/\xs[i]?=some x/\ys[i]?=some y,λi H v H'=>∃t x y,H t=none/\v=.ref t/\H'=upd H t (.tup [x,y])/\(∀xs,aT K H a xs->xs[i]?=some x)/\(∀ys,aX K H b ys->ys[i]?=some y),λi H=>∃xs ys,aT K H a xs/\aX K H b ys/\min xs.length ys.length=i⟩
theorem Lq{P:Program}{w:World}{K:W.Frag}{elts:List Expr}{k:Nat}{pos:Pos}{z TI TO i1 i2 l1 l2:Addr}(D:ZipApart z TI TO i1 i2 l1 l2):Turn P w K (.Tuple elts k pos) (VC K l1 l2) [z,TI,TO,i1,i2] z (λi h=>IsZip h z TI TO .none/\IsPair h TI (.ref i1) (.ref i2)/\(∃a b,IsPair h TO a b)/\h.IsListIter i1 l1 i/\h.IsTupleIter i2 l2 i) where
 mem:=by simp
 obj:=λi h st b hb=>by
  obtain⟨p1,p2,⟨a,c,p3⟩,⟨o1,e1,c1,d1⟩,⟨o2,e2,c2,d2⟩⟩:=st
  simp only[aeh,aeQ,afk]at hb
  rcases hb with rfl|rfl|rfl|rfl|rfl
  ·exact⟨_,p1,λv q=>by cases q⟩
  ·exact⟨_,p2,λv q=>by cases q⟩
  ·exact⟨_,p3,λv q=>by cases q⟩
  ·exact⟨_,e1,λv q=>by rw[d1]at q;cases q⟩
  ·exact⟨_,e2,λv q=>by rw[d2]at q;cases q⟩
 keep:=λi h h' st k=>by
  obtain⟨p1,p2,⟨a,c,p3⟩,p4,p5⟩:=st
  exact⟨k z (by simp) _ p1,k TI (by simp) _ p2,⟨a,c,k TO (by simp) _ p3⟩,p4.at λo e=>k i1 (by simp) o e,(let ⟨o,ho,r⟩:=p5;⟨o,k i2 (by simp) o ho,r⟩)⟩
 item:=by
  intro X hP hw hK hc i pins s σ H E I hf st hg
  subst hP hw hK
  obtain⟨xs,ys,x,y,hx,hy,ex,ey⟩:=hg
  obtain⟨Lr,rv1,pl1,hz1⟩:=I.list hx
  obtain⟨u1,hu1,ru1⟩:=rv1.get ex
  obtain⟨its,rv,p,hz⟩:=I.tuple hy
  obtain⟨u,hu,ru⟩:=rv.get ey
  obtain⟨p1,p2,p3,p4,p5⟩:=id st
  have W:=IX (prog:=X.prog) (w:=X.w) (A:=X.A) (I.ok.hd hc) z TI TO i1 i2 l1 l2 D Lr.toArray its.toArray
  have hsub:∀b∈[z,TO,i1,i2],b∈[z,TI,TO,i1,i2]:=by
   intro b hb
   simp only[aeh,aeQ,afk]at hb⊢
   rcases hb with q|q|q|q<;>simp[q]
  refine xS (J:=VC X.K l1 l2) (tn:=λi h=>IsZip h z TI TO .none/\IsPair h TI (.ref i1) (.ref i2)/\(∃a b,IsPair h TO a b)/\h.IsListIter i1 l1 i/\h.IsTupleIter i2 l2 i) W I hf hsub ?_ ?_ ?_ ?_ ?_
  ·intro b hb
   obtain⟨a',b',p3⟩:=p3
   obtain⟨o1,e1,_⟩:=p4
   obtain⟨o2,e2,_⟩:=p5
   simp only[aeh,aeQ,afk]at hb
   rcases hb with rfl|rfl|rfl|rfl|rfl
   ·exact aei p1
   ·exact aei p2
   ·exact aei p3
   ·exact aei e1
   ·exact aei e2
  ·have h1:=(ad8.mp hu1).1
   have h2:=(ad8.mp hu).1
   simp only[aed]
   omega
  ·exact⟨p1,p2,p3,p4,pl1.isList,p5,p⟩
  ·rintro vals ⟨v1,v2,q1,q2,rfl⟩
   have q1:Lr[i]?=some v1:=by simpa using q1
   rw[hu1]at q1;cases q1
   have q2:its[i]?=some v2:=by simpa using q2
   rw[hu]at q2;cases q2
   exact⟨[x,y],(by show 2<=sizeLine;decide),.cons ru1 (.cons ru .nil),λT hT=>⟨T,x,y,hT,O,O,λzs hz=>by rw[I.vt hz hx];exact ex,λzs hz=>by rw[I.xN hz hy];exact ey⟩⟩
  ·exact λh q=>⟨q.1,q.2.1,q.2.2.1,q.2.2.2.1,q.2.2.2.2.2.1⟩
 done:=by
  intro X hP hw hK hc i pins s σ H E I hf st hg
  subst hP hw hK
  obtain⟨xs,ys,hx,hy,hmin⟩:=hg
  obtain⟨Lr,rv1,pl1,hz1⟩:=I.list hx
  obtain⟨its,rv,p,hz⟩:=I.tuple hy
  obtain⟨p1,p2,p3,p4,p5⟩:=id st
  have e2:its.toArray.size=ys.length:=by rw[rv.length];exact aed ..
  have e1:Lr.toArray.size=xs.length:=by rw[rv1.length];exact aed ..
  have e:i=min Lr.toArray.size its.toArray.size:=by rw[e1,e2,hmin]
  subst e
  have W:=IX (prog:=X.prog) (w:=X.w) (A:=X.A) (I.ok.hd hc) z TI TO i1 i2 l1 l2 D Lr.toArray its.toArray
  have hsub:∀b∈[z,TO,i1,i2],b∈[z,TI,TO,i1,i2]:=by
   intro b hb
   simp only[aeh,aeQ,afk]at hb⊢
   rcases hb with q|q|q|q<;>simp[q]
  exact xT W I hf hsub ⟨p1,p2,p3,p4,pl1.isList,p5,p⟩
 self:=λ_ _ _ _ _ st h=>wpAny_pyIter_zip st.1 h
abbrev zl1(h:Heap)(a:Addr):Heap:=h.push {cls:=.type "list_iterator",data:=.fields #[.ref a,.int 0 0]}
abbrev zl2(h:Heap)(a l:Addr):Heap:=(zl1 h a).push {cls:=.type "tuple_iterator",data:=.fields #[.ref l,.int 0 0]}
abbrev zl3(h:Heap)(a l:Addr):Heap:=(zl2 h a l).push {cls:=.type "tuple",data:=.seq #[.ref h.objs.size,.ref (zl1 h a).objs.size]}
abbrev zl4(h:Heap)(a l:Addr):Heap:=(zl3 h a l).push {cls:=.type "tuple",data:=.seq #[.none,.none]}
abbrev zl5(h:Heap)(a l:Addr):Heap:=(zl4 h a l).push {cls:=.type "zip",data:=.fields #[.none,.bool false,.bool false,.ref (zl2 h a l).objs.size,.ref (zl3 h a l).objs.size]}
theorem Sw(a l:Addr)(xs ys:Array Value):Meets (Builtin.«zip.__new__» ⟨[.type "zip",.ref a,.ref l],[]⟩) (λ_ R s=>(s.heap.IsList a xs/\s.heap.IsTuple l ys)/\R (.ok (.ret (.ref (zl4 s.heap a l).objs.size))) {s with heap:=zl5 s.heap a l}) :=
 .of_wp λprog w A R s h=>by
  obtain⟨hp,g,d,tk,os⟩:=s
  obtain⟨⟨hl1,hl⟩,h⟩:=h
  have hsub:=sub_zip
  have hL:Heap.IsTuple (Shared.heap ⟨zl1 hp a,g,d,tk,os⟩) l ys:=Heap.IsTuple.push hl _
  wp_walk using afK hl1,wpAny_pyIter_tuple hL
  exact⟨_,O,h⟩
section
variable{prog:Program}{w:World}{A:Around}{E:Value->Shared->Prop}{s:Shared}
theorem Ls{a l:Addr}{xs ys:Array Value}{Q:Value->Shared->Prop}(hl1:s.heap.IsList a xs)(hl:s.heap.IsTuple l ys)(h:∀h',IsZip h' (s.heap.objs.size+4) (s.heap.objs.size+2) (s.heap.objs.size+3) .none->IsPair h' (s.heap.objs.size+2) (.ref s.heap.objs.size) (.ref (s.heap.objs.size+1))->IsPair h' (s.heap.objs.size+3) .none .none->h'.IsListIter s.heap.objs.size a 0->h'.IsTupleIter (s.heap.objs.size+1) l 0->(∀c o,s.heap.get? c=some o->h'.get? c=some o)->Q (.ref (s.heap.objs.size+4)) {s with heap:=h'}):wpAny (model prog w) A (call (.type "zip") [.ref a,.ref l]) Q E s:=by
 refine callType_new F.called_zip 'c' (F.typeCall_zip_2 _ _) (F.newCall_zip_2 _ _) (λobj=>F.args_object_init_3 obj _ _) F.entry_zip_new (Sw a l xs ys) ⟨⟨hl1,hl⟩,?_⟩
 have n1:(zl1 s.heap a).objs.size=s.heap.objs.size+1:=ae3 ..
 have n2:(zl2 s.heap a l).objs.size=s.heap.objs.size+2:=by rw[ae3,n1]
 have n3:(zl3 s.heap a l).objs.size=s.heap.objs.size+3:=by rw[ae3,n2]
 have n4:(zl4 s.heap a l).objs.size=s.heap.objs.size+4:=by rw[ae3,n3]
 have up:∀{h:Heap}{c:Addr}{u o:Obj},h.get? c=some o->(h.push u).get? c=some o:=λe=>ad9 _ e
 have r5:(zl5 s.heap a l).get? (zl4 s.heap a l).objs.size=some _:=ael _ rfl
 have r4:(zl5 s.heap a l).get? (zl3 s.heap a l).objs.size=some _:=up (ael _ rfl)
 have r3:(zl5 s.heap a l).get? (zl2 s.heap a l).objs.size=some _:=up (up (ael _ rfl))
 have r2:(zl5 s.heap a l).get? (zl1 s.heap a).objs.size=some _:=up (up (up (ael _ rfl)))
 have r1:(zl5 s.heap a l).get? s.heap.objs.size=some _:=up (up (up (up (ael _ rfl))))
 show _/\_
 rw[n2,n3,n4]at r5
 rw[n1,n2]at r3
 rw[n3]at r4
 rw[n1]at r2
 rw[n4]
 exact⟨⟨_,r5,O⟩,h _ r5 r3 r4 ⟨_,r1,O,O⟩ ⟨_,r2,O,O⟩ λc o q=>up (up (up (up (up q))))⟩
end
def YQ(K:W.Frag)(ta:TA):TI:=λσ H R=>ta σ H λvs H1=>∃a b,vs=[.ref a,.ref b]/\(∃xs,aT K H1 a xs)/\(∃ys,aX K H1 b ys)/\R (VC K a b) H1
theorem xY{X:Cx}{elts:List Expr}{k:Nat}{tpos:Pos}{a b:Expr}{ta:TA}{p pos:Pos}(K:W.Frag)(hK:X.K=K)(hg:Gl X "zip")(hm:X.mg "zip"=none)(ha:PA X [a,b] ta)(hs:starEach [a,b] X.env=[(false,eval a X.env),(false,eval b X.env)]:=by rfl)(hs2:starEach [b] X.env=[(false,eval b X.env)]:=by rfl):PI X (.Tuple elts k tpos) (.Call (.Name "zip" p) [a,b] [] pos) (YQ K ta):=by
 subst hK
 intro pins s σ H R I h
 refine Call_ (qB I hg hm (u:=.type "zip") 'b' (afi (cS (ha pos pins s σ H _ I h) λus s1 ⟨vs,H1,I1,r1,q1⟩=>?_) (by rw[hs,hs2]) (by rw[hs2];rfl)))
 obtain⟨l1,l,e,⟨xs,hx⟩,⟨ys,hy⟩,q⟩:=q1
 subst e
 cases r1 with
 |cons r rr =>
  cases rr with
  |cons r' rr =>
   cases rr
   cases r;cases r'
   obtain⟨Lr,rv1,pl1,hz1⟩:=I1.list hx
   obtain⟨its,rv,pl,hz⟩:=I1.tuple hy
   have acv:l1<s1.heap.objs.size:=by obtain⟨o,ho,_⟩:=pl1.isList;exact aei ho
   have hlt:l<s1.heap.objs.size:=by obtain⟨o,ho,_⟩:=pl;exact aei ho
   refine Ls pl1.isList pl λh' hz' hTI hTO hi1 hi2 hk=>?_
   refine wpAny_pyIter_zip hz' ?_
   have I2:Inv X pins σ H1 {s1 with heap:=h'}:=I1.kept (t':=s1.toks) λb o e=>hk b o e
   refine⟨s1.heap.objs.size+4,_,_,_,H1,O,I2,Lq (RT s1.heap.objs.size l1 l acv hlt),⟨hz',hTI,⟨_,_,hTO⟩,hi1,hi2⟩,λb hb=>?_,q⟩
   have hb':s1.heap.objs.size<=b:=by
    simp only[aeh,aeQ,afk]at hb
    rcases hb with rfl|rfl|rfl|rfl|rfl
    ·exact afq _ _
    ·exact afq _ _
    ·exact afq _ _
    ·exact ad6 _
    ·exact afq _ _
   exact I1.vA hb' (I1.hok.fresh hb')
theorem uP{K:W.Frag}{a b:Addr}{xs ys:List V}{g:TG}{tt:TT}{te:TE}{Q:VK}{D:Addr}{τ:St}{H:Hp}(Pv:Nat->List V->St->Hp->Prop)(h0:Pv 0 [] τ (upd H D (.lst [])))(hl:∀i ws τ H,i<=min xs.length ys.length->Pv i ws τ H->aT K H a xs/\aX K H b ys/\H D=some (.lst ws))(hs:∀i x y t ws τ H,xs[i]?=some x->ys[i]?=some y->H t=none->Pv i ws τ H->g (.ref t) τ (upd H t (.tup [x,y])) λτ2 H2=>tt τ2 H2 λb H3=>if b=true then te τ2 H3 λv H4=>H4 D=some (.lst ws)/\ws.length<sizeLine/\Pv (i+1) (ws++[v]) τ2 (upd H4 D (.lst (ws++[v]))) else Pv (i+1) ws τ2 H3)(hd:∀ws τ H,Pv (min xs.length ys.length) ws τ H->Q (.ref D) H):EF (VC K a b) g tt te Q D τ H:=by
 refine⟨λi m ws τ H=>m=min xs.length ys.length-i/\i<=min xs.length ys.length/\Pv i ws τ H,⟨min xs.length ys.length,by simp,aeA _,h0⟩,?_⟩
 rintro i m ws τ H ⟨rfl,hi,p⟩
 obtain⟨q1,q2,hD⟩:=hl i ws τ H hi p
 refine⟨hD,?_⟩
 by_cases hlt:i<min xs.length ys.length
 ·have k1:i<xs.length:=by omega
  have k2:i<ys.length:=by omega
  refine .inr ⟨⟨xs,ys,xs[i],ys[i],q1,q2,by simp[k1],by simp[k2]⟩,Pv (i+1),λzs σ' H' p'=>⟨min xs.length ys.length-(i+1),by omega,rfl,hlt,p'⟩,λv H' y=>?_⟩
  obtain⟨t,x,y,ht,e1,e2,ex,ey⟩:=y
  subst e1 e2
  exact hs i x y t ws τ _ (ex xs q1) (ey ys q2) ht p
 ·have e:i=min xs.length ys.length:=by omega
  subst e
  exact .inl ⟨⟨xs,ys,q1,q2,rfl⟩,hd ws τ H p⟩
end L2
set_option synthInstance.maxSize 100000
set_option synthInstance.maxHeartbeats 400000
namespace L2
open PySem PySem.Spec PyProof.Rows
section
variable{X:Cx}{K:Type}[DecidableEq K]{F:W.Frag}{Z:jJ X.prog X.w K}
def acw{P:Program}{w:World}{K:Type}[DecidableEq K]{F:W.Frag}{Z:jJ P w K}(Y:nP F Z):R2:=λx y H Q=>∃b' ks',y=.ref b'/\oX Y H ks' b'/\((x=.non/\Q (.bl false) H)\/∃b ks,x=.ref b/\oX Y H ks b/\Q (.bl (decide (ks=ks'))) H)
theorem YR(Y:nP F Z)(hF:X.K=F)(hu:X.A.units+(Z.c7+1)<cLine):kF X (compareOp .Eq) (acw Y):=by
 intro pins s σ H x y v u Q I rx ry h
 obtain⟨b',ks',rfl,e2,h⟩:=h
 rcases h with ⟨rfl,q⟩|⟨b,ks,rfl,e1,q⟩
 ·cases rx;cases ry
  obtain⟨o',items',n',UO,h2',h3',h4'⟩:=e2.is hF I
  show wpAny _ _ (richCompare .Eq .none (.ref b')) _ _ _
  exact SeqAt.RcAt.none_tuple ⟨o',UO,h2',n',h3'⟩ 'f' _ _ _ _ ⟨.bl false,H,I,rfl,q⟩
 ·exact BF Y hF hu pins s σ H _ _ v u Q I rx ry ⟨b,b',ks,ks',rfl,rfl,e1,e2,q⟩
end
abbrev ZP(P:Program)(w:World):=stepK (stepK (ZM P w))
abbrev YP(P:Program)(w:World)(F:W.Frag):nP F (ZP P w):=ID (ID (YM P w F))
theorem aY(P:Program)(w:World):(ZP P w).c7+1<=8:=by show 4<=8;decide
theorem hp1{A:Around}{P:Program}{w:World}(h:A.units+64<cLine):A.units+((ZP P w).c7+1)<cLine:=by show A.units+4<cLine;omega
theorem hp2{A:Around}{P:Program}{w:World}(h:A.units+64<cLine):A.units+1+((ZP P w).c7+1)<cLine:=by show A.units+1+4<cLine;omega
abbrev VD:=(Str×Str)×Nat
abbrev dM:=VD×List (Option VD)
def Lu:Option VD->Lf⊕List (Lf⊕List Lf)
 |none=>.inl none
 |some m=>.inr (cA m)
theorem Sx{a b:Option VD}(h:Lu a=Lu b):a=b:=by
 cases a with
 |none=>cases b with
  |none=>rfl
  |some y=>exact nomatch h
 |some x=>cases b with
  |none=>exact nomatch h
  |some y=>injection h with h;rw[nV.mp h]
theorem EO:∀{a b:List (Option VD)},a.map Lu=b.map Lu->a=b
 |[],[],_=>rfl
 |[],_::_,h=>nomatch h
 |_::_,[],h=>nomatch h
 |x::a,y::b,h=>by injection h with h1 h2;rw[Sx h1,EO h2]
def bE(m:dM):List (Lf⊕List (Lf⊕List (Lf⊕List Lf))):=[.inr [.inl (some (.inr m.1.1.1)),.inl (some (.inr m.1.1.2))],.inl (some (.inl m.1.2)),.inr (m.2.map Lu)]
theorem uQ{m m':dM}:bE m=bE m'↔m=m':=by
 constructor
 ·obtain⟨⟨⟨a,b⟩,n⟩,l⟩:=m
  obtain⟨⟨⟨a',b'⟩,n'⟩,l'⟩:=m'
  intro h
  unfold bE at h
  injection h with h1 h2
  injection h2 with h2 h3
  injection h3 with h3 _
  injection h3 with h3
  injection h1 with h1;injection h1 with h1 h4;injection h4 with h4 _
  injection h1 with h1;injection h1 with h1;injection h1 with h1
  injection h4 with h4;injection h4 with h4;injection h4 with h4
  injection h2 with h2;injection h2 with h2;injection h2 with h2
  have h2:n=n':=Int.ofNat.inj h2
  have h3:=EO h3
  have h1:a=a':=h1
  have h4:b=b':=h4
  have h3:l=l':=h3
  rw[h1,h4,h2,h3]
 ·rintro rfl;rfl
section
variable{P:Program}{w:World}{F:W.Frag}{H:Hp}
def fL(F:W.Frag)(H:Hp):Option VD->V->Prop
 |none,v=>v=.non
 |some m,v=>∃b s,v=.ref b/\aX F H b [.ref s,.int m.2]/\aX F H s [.str m.1.1,.str m.1.2]
def dD(F:W.Frag)(H:Hp)(m:dM)(v:V):Prop:=∃b s u vs,v=.ref b/\aX F H b [.ref s,.int m.1.2,.ref u]/\aX F H s [.str m.1.1.1,.str m.1.1.2]/\aX F H u vs/\Paired (fL F H) m.2 vs
theorem dD.keep{H':Hp}{m:dM}{v:V}(t:∀b xs,aX F H b xs->aX F H' b xs)(h:dD F H m v):dD F H' m v:=by
 obtain⟨b,s,u,vs,e1,e2,e3,e4,e5⟩:=h
 have key:∀{os:List (Option VD)}{vs:List V},Paired (fL F H) os vs->Paired (fL F H') os vs:=by
  intro os vs h
  induction h with
  |nil=>exact .nil
  |cons h _ ih =>
   refine .cons ?_ ih
   rename_i o v _ _ _
   cases o with
   |none=>exact h
   |some m=>obtain⟨b,s,e1,e2,e3⟩:=h;exact⟨b,s,e1,t _ _ e2,t _ _ e3⟩
 exact⟨b,s,u,vs,e1,t _ _ e2,t _ _ e3,t _ _ e4,key e5⟩
theorem YS{o:Option VD}{v:V}(h:fL F H o v):(ID (YM P w F)).on H (Lu o) v:=by
 cases o with
 |none=>have h:v=.non:=h;subst h;rfl
 |some m =>
  obtain⟨b,s,rfl,h1,h2⟩:=h
  exact⟨b,O,iC h1 h2⟩
theorem NU:∀{os:List (Option VD)}{vs:List V},Paired (fL F H) os vs->Paired (λk v=>(ID (YM P w F)).on H k v) (os.map Lu) vs
 |_,_,.nil=>.nil
 |_,_,.cons a r=>.cons (YS a) (NU r)
theorem Sy{m:dM}{b s u:Addr}{vs:List V}(h:aX F H b [.ref s,.int m.1.2,.ref u])(h2:aX F H s [.str m.1.1.1,.str m.1.1.2])(h3:aX F H u vs)(h4:Paired (fL F H) m.2 vs):oX (YP P w F) H (bE m) b :=
 ⟨_,h,.cons ⟨s,rfl,_,h2,.cons rfl (.cons rfl .nil)⟩ (.cons rfl (.cons ⟨u,rfl,vs,h3,NU h4⟩ .nil))⟩
end
section
variable{prog:Program}{w:World}{A:Around}{E:Value->Shared->Prop}{s:Shared}{d ep:Nat}{od:Obj}{es:Array DictEntry}
theorem DH(hd:(d==sysModules)=false):MeetsIn prog w (Builtin.«dict.__len__» ⟨[.ref d],[]⟩) (λ_ R s=>∃(o:Obj)(es:Array DictEntry)(ep:Nat),s.heap.get? d=some o/\o.data=.dict es ep/\R (.ok (.ret (.int es.size s.toks))) {s with toks:=s.toks+1}) :=
 .of_wp λA R s ⟨o,es,ep,ho,hdat,h⟩=>by
  show wpAny _ _ (dictSize d >>= _) _ _ s
  unfold dictSize
  refine ad4 (ad4 (wpAny_dictEntries ho hdat (aea ?_)))
  show wpAny _ _ (Builtin.Dict.pendingCount d >>= _) _ _ s
  refine ad4 (wpAny_pendingCount_other hd ?_)
  refine wpAny_ret_mkInt ?_
  rw[afZ];exact h
theorem VF{Q:Value->Shared->Prop}(hd:(d==sysModules)=false)(g:s.heap.get? d=some od)(c:od.ExactDict)(dt:od.data=.dict es ep)(hfit:(es.size:Int)<2 ^ 63)(h:Q (.int es.size (s.toks+1)) {s with toks:=s.toks+1+1}):wpAny (model prog w) A (call (.builtin "len") [.ref d]) Q E s:=by
 have ty:s.TypeIs (.ref d) "dict":=⟨od,g,c.1⟩
 refine Calls.call_function_entry kind_len plain_len entry_len (args_len1 _) ?_
 unfold Builtin.«len»
 refine ad4 (m:=oneArg "len" _) (aea ?_)
 refine ad4 (m:=callSpecial? (.ref d) ("__len__":Str)) (aeU (name:=("__len__":Str)) ty PySem.F.slot_dict_len
  (call_meetsIn PySem.F.slot_dict_len ty PySem.F.entry_dict_len (PySem.F.args_dict_len_1 _) (DH hd) ⟨od,es,ep,g,dt,?_⟩))
 show wpAny _ _ _ _ _ {s with toks:=s.toks+1}
 refine ad4 (wpAny_holding (aea ?_))
 refine ad4 (wpAny_letGo ?_)
 show wpAny _ _ (if ((es.size:Nat):Int)<0 then _ else _) _ _ _
 rw[ad5 'f']
 show wpAny _ _ (if ((es.size:Nat):Int)>=2 ^ 63 then _ else _) _ _ _
 rw[ad5 'f']
 exact ad4 (wpAny_mkInt (aea ⟨_,rfl,h⟩))
end
section
variable{X:Cx}{P:Program}{w:World}{K:Type}[DecidableEq K]{F:W.Frag}{Z:jJ P w K}
def aa8{P:Program}{w:World}{K:Type}[DecidableEq K]{F:W.Frag}{Z:jJ P w K}(Y:nP F Z)(hl:Z.c7+1<=8):List V->Hp->VK->Prop:=λxs H Q=>∃a kvs,xs=[.ref a]/\Nd Y hl H a kvs/\Q (.int kvs.length) H
theorem ER(Y:nP F Z)(hl:Z.c7+1<=8)(hP:X.prog=P)(hw:X.w=w)(hF:X.K=F):eZ X (.builtin "len") (aa8 Y hl):=by
 subst hP;subst hw
 intro pins s σ H xs vs Q I rx h
 obtain⟨a,kvs,rfl,nd,q⟩:=h
 obtain⟨z,y,ys,r,dd⟩:=Nd.of hF I nd
 obtain⟨o,es,ep,g,c,dt,he,_⟩:=dd
 cases rx with
 |cons r1 r2 =>
 cases r1;cases r2
 have e1:es.size=ys.length:=size_of_entries he
 have e2:=afm r
 have e3:es.size=kvs.length:=by omega
 refine VF y g c dt (by rw[e3];have:sizeLine=2 ^ 24:=rfl;omega) ⟨.int kvs.length,H,I.tok _,⟨_,by rw[e3]⟩,q⟩
end
section
variable{prog:Program}{w:World}{A:Around}{E:Value->Shared->Prop}{s:Shared}{d ep:Nat}{od:Obj}{es:Array DictEntry}
def IY(es:Array DictEntry)(i:Nat)(v:Value):Prop:=∃h:i<es.size,v=es[i].key
theorem O1(hh:A.handled=none)(I d:Addr)(hne:d≠I)(dt:od.data=.dict es ep):Walks prog w A I [I,d] [I] es.size (IY es) (λi h=>h.IsKeyIter I d i es.size ep/\h.get? d=some od) where
 sub:=λb hb=>by simp at hb;simp[hb]
 frame:=λ_ _ _ st hk=>⟨st.1.at λo e=>hk I (by simp) o e,hk d (by simp) _ st.2⟩
 item:=λi s Q E hi st hQ=>by
  refine IM st.1 st.2 dt hi λh' YO hs'=>?_
  exact hQ _ h' s.toks ⟨hi,rfl⟩ ⟨YO,(hs'.2 d hne).trans st.2⟩ λb o hb e=>(hs'.2 b (λh=>hb (by simp[h]))).trans e
 done:=λs Q E st hQ=>NQ hh st.1 st.2 dt (ad6 _) λh' he'=>hQ h' s.toks λb o hb e=>he' b o (λh=>hb (by simp[h])) e
 self:=λ_ _ _ _ st hQ=>wpAny_pyIter_keyiter st.1 hQ
theorem Sz{Q:Bool->Shared->Prop}(g:s.heap.get? d=some od)(c:od.ExactDict)(h:Q false s):wpAny (model prog w) A (Builtin.List.listLengthHint (.ref d)) Q E s:=by
 have ty:s.TypeIs (.ref d) "dict":=⟨od,g,c.1⟩
 unfold Builtin.List.listLengthHint
 refine ad4 (afv ty PySem.F.slot_dict_len.lookup ?_)
 generalize hid:("dict.__len__":String)=id0
 wp_delta
 rw[show splitId id0=some ("dict","__len__") from by subst hid;decide +kernel]
 subst hid
 refine ad4 (wpAny_isInstance (T:="dict") (b:=true) ty (by rw[isSubtype_type];kernel_rfl) ?_)
 refine wpAny_ite_split (λhab=>absurd hab 'c') (λ_=>?_)
 refine wpAny_ite_split (λ_=>?_) (λhab=>absurd 'b' hab)
 show wpAny _ _ (typeOf (Value.ref d) >>= _) _ _ _
 refine ad4 (wpAny_typeOf ty ?_)
 exact aea h
theorem Lv{R:Result->Shared->Prop}(hh:A.handled=none)(nd:(d==sysModules)=false)(g:s.heap.get? d=some od)(c:od.ExactDict)(dt:od.data=.dict es ep)(hlen:es.size<=2 ^ 24)(S:Addr)(res:Value)(c₀:Nat)(hS:s.heap.get? S=some {cls:=.type "list",data:=.seq #[] c₀})(hR:∀h' tk acc' c',(∀b o,b≠S->s.heap.get? b=some o->h'.get? b=some o)->h'.get? S=some {cls:=.type "list",dict:=none,data:=.seq acc' c',slots:=#[]}->ItemsOf (IY es) acc' es.size->R (.ok (.ret res)) {s with heap:=h',toks:=tk}):wpAny (model prog w) A.in1 (Builtin.List.listExtendWith (.ref S) (.ref d) res)
   (λfin s'=>match fin with | .done f=>R (.ok f) s' | .again c'=>c'.quiet=true/\codeAny (model prog w) A c' R s') (λe s'=>R (.error e) s') s:=by
 have hSd:S≠d:=λe=>by rw[e,g]at hS;cases hS;cases dt
 have acy:S<s.heap.objs.size:=aei hS
 have hSI:S≠s.heap.objs.size:=aeH acy
 have hdI:d≠s.heap.objs.size:=aeH (aei g)
 have hSf:S∉[s.heap.objs.size,d]:=λhm=>by
  rcases aeh.mp hm with q|q
  ·exact hSI q
  ·exact hSd (ad7.mp q)
 have W:=(O1 (prog:=prog) (w:=w) (A:=A.in1) hh s.heap.objs.size d hdI dt).toS
 have key:∀(h:Heap)(c₁ tk:Nat),h.IsKeyIter s.heap.objs.size d 0 es.size ep->h.get? d=some od->(∀b o,b≠S->s.heap.get? b=some o->h.get? b=some o)->h.get? S=some {cls:=.type "list",data:=.seq #[] c₁}->codeAny (model prog w) A (.builtin "list.extend.loop" ⟨[.ref S,.ref s.heap.objs.size,res],[]⟩) R {s with heap:=h,toks:=tk}:=by
  intro h c₁ tk hit hd' hk IZ
  refine codeAny_extend_loopS W (by rw[sizeLine_eq];omega) S hSf res es.size 0 _ #[] c₁ rfl (aeA _) ⟨hit,hd'⟩ IZ (ItemsOf.nil _) λs' acc' c' hm hS' hacc=>?_
  rw[Moved.eq_with hm]
  refine hR s'.heap s'.toks acc' c' (λb o hb e=>hm.heap b o (λhmem=>?_) (hk b o hb e)) hS' hacc
  rcases aeh.mp hmem with e'|hmem
  ·exact hb e'
  ·exact absurd (aei e) (by rw[ad7.mp hmem];exact afR _)
 have ty:s.TypeIs (.ref d) "dict":=⟨od,g,c.1⟩
 unfold Builtin.List.listExtendWith
 refine ad4 (wpAny_typeOf (T:="dict") ty ?_)
 have h1:Builtin.List.listSameRef (.ref S) (.ref d)=false:=by simp[Builtin.List.listSameRef,hSd]
 have h2:(Value.type "dict"==Value.type "list")=false:=by decide
 have h3:(Value.type "dict"==Value.type "tuple")=false:=by decide
 simp only[h1,h2,h3,Bool.or_false,ae1,afy]
 refine ad4 (IL nd g c dt ?_)
 refine ad4 (wpAny_holding (Sz (ad9 _ g) c ?_))
 have SA:(s.heap.push {cls:=.type "dict_keyiterator",data:=.fields #[.ref d,.int 0 0,.int es.size 0,.int ep 0]}).IsKeyIter s.heap.objs.size d 0 es.size ep:=⟨_,ael _ rfl,rfl,rfl⟩
 have IZ:=ad9 {cls:=.type "dict_keyiterator",data:=.fields #[.ref d,.int 0 0,.int es.size 0,.int ep 0]} hS
 have g₁:=ad9 {cls:=.type "dict_keyiterator",data:=.fields #[.ref d,.int 0 0,.int es.size 0,.int ep 0]} g
 refine wpAny_ite_split (λ_=>?_) (λ_=>aea ⟨plainId_quiet PySem.F.plain_extend_loop _,key _ c₀ _ SA g₁ (λb o _ e=>ad9 _ e) IZ⟩)
 refine ad4 (wpAny_rule ?_)
 refine ad4 ?_
 show wpAny _ _ (updateSeq S (·.push .none) >>= λ_=>updateSeq S (·.pop)) _ _ _
 refine ad4 (wpAny_updateSeq IZ rfl ?_)
 have NV:=aeZ (Obj.mapSeq (·.push Value.none)) IZ rfl
 refine wpAny_updateSeq (hz:=by seq_fits) NV rfl ?_
 have aa9:=aeZ (Obj.mapSeq (·.pop)) NV rfl
 refine aea ⟨plainId_quiet PySem.F.plain_extend_loop _,key _ _ _ ?_ ?_ (λb o hb e=>?_) aa9⟩
 ·exact SA.at λo e=>(aeG _ _ hSI).trans ((aeG _ _ hSI).trans e)
 ·exact(aeG _ _ hSd).trans ((aeG _ _ hSd).trans g₁)
 ·exact(aeG _ _ (afa hb)).trans ((aeG _ _ (afa hb)).trans (ad9 _ e))
theorem SD{R:Result->Shared->Prop}(hh:A.handled=none)(nd:(d==sysModules)=false)(g:s.heap.get? d=some od)(c:od.ExactDict)(dt:od.data=.dict es ep)(hlen:es.size<=2 ^ 24)(S:Addr)(hS:s.heap.get? S=some {cls:=.type "list",data:=.seq #[]})(hR:∀h' tk acc' c',(∀b o,b≠S->s.heap.get? b=some o->h'.get? b=some o)->h'.get? S=some {cls:=.type "list",dict:=none,data:=.seq acc' c',slots:=#[]}->ItemsOf (IY es) acc' es.size->R (.ok (.ret .none)) {s with heap:=h',toks:=tk}):wpAny (model prog w) A.in1 (Builtin.«list.__init__» ⟨[.ref S,.ref d],[]⟩)
   (λfin s'=>match fin with | .done f=>R (.ok f) s' | .again c'=>c'.quiet=true/\codeAny (model prog w) A c' R s') (λe s'=>R (.error e) s') s:=by
 have hSd:S≠d:=λe=>by rw[e,g]at hS;cases hS;cases dt
 show wpAny _ _ (do let old ←Builtin.List.listItems (.ref S);Builtin.List.listUpdate (.ref S) (λ_=>#[]);letGo old.toList.reverse;Builtin.List.listExtendWith (.ref S) (.ref d) .none) _ _ s
 refine ad4 ?_
 unfold Builtin.List.listItems
 refine ad4 (aeW hS rfl (aea ?_))
 show wpAny _ _ (updateSeq S (λ_=>#[]) >>= λ_=>letGo (#[]:Array Value).toList.reverse >>= λ_=>Builtin.List.listExtendWith (.ref S) (.ref d) .none) _ _ s
 refine ad4 (wpAny_updateSeq hS rfl ?_)
 have NV:=aeZ (Obj.mapSeq (λ_=>(#[]:Array Value))) hS rfl
 have YT:∀b o,b≠S->s.heap.get? b=some o->(s.heap.update S (Obj.mapSeq (λ_=>(#[]:Array Value)))).get? b=some o :=
  λb o hb e=>(aeG _ _ (afa hb)).trans e
 refine ad4 (wpAny_letGo ?_)
 refine Lv hh nd (YT d _ (afa hSd) g) c dt hlen S .none _ NV λh' tk acc' c' hk hS' hacc=>?_
 exact hR h' tk acc' c' (λb o hb e=>hk b o hb (YT b o hb e)) hS' hacc
end
section
variable{prog:Program}{w:World}{A:Around}{E:Value->Shared->Prop}{s:Shared}{d ep:Nat}{od:Obj}{es:Array DictEntry}
theorem SE{Q:Value->Shared->Prop}(hh:A.handled=none)(nd:(d==sysModules)=false)(g:s.heap.get? d=some od)(c:od.ExactDict)(dt:od.data=.dict es ep)(hlen:es.size<=2 ^ 24)(hQ:∀h' tk acc' c',(∀b o,s.heap.get? b=some o->h'.get? b=some o)->h'.get? s.heap.objs.size=some {cls:=.type "list",dict:=none,data:=.seq acc' c',slots:=#[]}->ItemsOf (IY es) acc' es.size->Q (.ref s.heap.objs.size) {s with heap:=h',toks:=tk}):wpAny (model prog w) A (call (.type "list") [.ref d]) Q E s:=by
 refine callType_codes (Q₁:=λobj s₁=>obj=.ref s.heap.objs.size/\s₁={s with heap:=s.heap.push {cls:=.type "list",data:=.seq #[]}}) PySem.F.called_list (PySem.F.typeCall_list_1 _) PySem.F.entry_list_init
  (code_list_new _ ⟨rfl,rfl⟩) λobj s₁ h₁=>?_
 obtain⟨rfl,rfl⟩:=h₁
 have hS:(s.heap.push {cls:=.type "list",data:=.seq #[]}).get? s.heap.objs.size=some {cls:=.type "list",data:=.seq #[]}:=ael _ rfl
 refine⟨⟨_,hS,rfl⟩,PySem.F.args_list_init_2 _ _,SD (A:=A.in1) hh nd (ad9 _ g) c dt hlen _ hS λh' tk acc' c' hk hS' hacc=>?_⟩
 exact⟨O,hQ h' tk acc' c' (λb o e=>hk b o (aeH (aei e)) (ad9 _ e)) hS' hacc⟩
end
section
variable{X:Cx}{P:Program}{w:World}{K:Type}[DecidableEq K]{F:W.Frag}{Z:jJ P w K}
theorem O2{Z:jJ P w K}{hl:Z.c7+1<=8}{h:Heap}{a:Addr}{kvs:List (N3 K)}{o:Obj}{es:Array DictEntry}{ep:Nat}(q:zv Z hl a kvs h)(g:h.get? a=some o)(dt:o.data=.dict es ep){acc:Array Value}(hacc:ItemsOf (IY es) acc es.size):Vals (kvs.map λ(e:N3 K)=>V.ref e.2.1) acc.toList:=by
 obtain⟨hsz,hkey⟩:=oY q g dt
 have uR:acc.toList.length=kvs.length:=by rw[aeq,hacc.1,hsz]
 have hat:∀j v,acc.toList[j]?=some v->∃e:N3 K,kvs[j]?=some e/\v=Value.ref e.2.1:=λj v hv=>by
  rw[Array.getElem?_toList]at hv
  obtain⟨hj,rfl⟩:=hacc.2 j v hv
  have hj':j<kvs.length:=by omega
  exact⟨kvs[j],aeB hj',hkey j hj _ (aeB hj')⟩
 clear hacc hkey hsz q g dt
 generalize acc.toList=us at uR hat
 induction kvs generalizing us with
 |nil=>cases us with
  |nil=>exact .nil
  |cons u us=>cases uR
 |cons e kvs ih=>cases us with
  |nil=>cases uR
  |cons u us =>
   obtain⟨e',h1,h2⟩:=hat 0 u rfl
   have h1:some e=some e':=h1
   cases h1
   subst h2
   exact .cons rfl (ih us (Nat.succ.inj uR) λj v hv=>hat (j+1) v hv)
def YU{P:Program}{w:World}{K:Type}[DecidableEq K]{F:W.Frag}{Z:jJ P w K}(Y:nP F Z)(hl:Z.c7+1<=8):List V->Hp->VK->Prop:=λxs H Q=>∃(a:Addr)(kvs:List (N3 K)),xs=[.ref a]/\Nd Y hl H a kvs/\∀l,H l=none->Q (.ref l) (upd H l (.lst (kvs.map λ(e:N3 K)=>V.ref e.2.1)))
theorem Lw(Y:nP F Z)(hl:Z.c7+1<=8)(hc:X.calm=true)(hP:X.prog=P)(hw:X.w=w)(hF:X.K=F):eZ X (.type "list") (YU Y hl):=by
 subst hP;subst hw
 intro pins s σ H xs vs Q I rx h
 obtain⟨a,kvs,rfl,nd,q⟩:=h
 have nn:zv Z hl a kvs s.heap:=(show cM X.prog X.w H s.heap a (dN Z hl a kvs) from I.hok a _ nd.ob).1
 obtain⟨z,y,ys,r,o,es,ep,g,c,dt,rest⟩:=id nn
 cases rx with
 |cons r1 r2 =>
 cases r1;cases r2
 obtain⟨hsz,_⟩:=oY nn g dt
 refine SE (I.ok.hd hc) y g c dt (by rw[hsz];exact z) λh' tk acc' c' hk hS hacc=>?_
 refine⟨.ref _,_,I.laid (t':=tk) (o:=.lst (kvs.map λe=>V.ref e.2.1)) (λb u e=>hk b u e) (ad6 _) ⟨?_,acc'.toList,c',O2 nn g dt hacc,?_⟩,rfl,q _ (I.hok.fresh (ad6 _))⟩
 ·rw[aec];exact z
 ·rw[hS]
end
section
variable{X:Cx}{K:Type}[DecidableEq K]{F:W.Frag}{Z:jJ X.prog X.w K}
end
section
variable{P:Program}{w:World}{K:Type}[DecidableEq K]
def Back(Z:jJ P w K)(hl:Z.c7+1<=8)(G G':Hp):Prop:=G'=G\/∃a kvs o,G a=some (dX Z hl a kvs o)/\G'=upd G a (dN Z hl a kvs)
def Xo(Z:jJ P w K)(hl:Z.c7+1<=8)(t:TS):TS:=λD σ H=>t ⟨λσ' G=>∃G',Back Z hl G G'/\D.nx σ' G',λv G=>∃G',Back Z hl G G'/\D.rt v G',λσ' G=>∃G',Back Z hl G G'/\D.bk σ' G',λσ' G=>∃G',Back Z hl G G'/\D.ct σ' G'⟩ σ H
end
section
variable{X:Cx}{K:Type}[DecidableEq K]{Z:jJ X.prog X.w K}{hl:Z.c7+1<=8}
theorem Inv.back{pins:List (Addr×Obj)}{σ:St}{G G':Hp}{s:Shared}(I:Inv X pins σ G s)(b:Back Z hl G G'):Inv X pins σ G' s:=by
 rcases b with rfl|⟨a,kvs,o,d,rfl⟩
 ·exact I
 ·obtain⟨nd,g⟩:=NR I d
  have ok:cM X.prog X.w (upd G a (dN Z hl a kvs)) s.heap a (dN Z hl a kvs):=by
   refine⟨nd,⟨o,g⟩,λg1 g2 q k=>?_⟩
   obtain⟨z,y,xs,r,o',es,ep,h1,h2,h3,h4,h5⟩:=q
   exact⟨z,y,xs,r,o',es,ep,k _ h1,h2,h3,h4,h5⟩
  exact I.write (x:=a) (e:=a) (t':=s.toks) (h':=s.heap) (by rw[d];exact True.intro) (.inl rfl) (λb u _ e=>e) ⟨o,g⟩ ok
theorem SG{st:Stmt}{t:TS}(h:PS X st t):PS X st (Xo Z hl t):=by
 intro pins s σ H D I q
 refine cS (h pins s σ H _ I q) λf s' r=>?_
 cases f with
 |next=>obtain⟨σ',H',I',G',b,z⟩:=r;exact⟨σ',G',I'.back b,z⟩
 |brk=>obtain⟨σ',H',I',G',b,z⟩:=r;exact⟨σ',G',I'.back b,z⟩
 |cont=>obtain⟨σ',H',I',G',b,z⟩:=r;exact⟨σ',G',I'.back b,z⟩
 |ret u=>obtain⟨v,σ',H',I',rv,G',b,z⟩:=r;exact⟨v,σ',G',I'.back b,rv,z⟩
end
theorem VG{X:Cx}{P:Program}{w:World}{K:Type}[DecidableEq K](Z:jJ P w K)(hl:Z.c7+1<=8)(hP:X.prog=P)(hw:X.w=w){st:Stmt}{t:TS}(h:PS X st t):PS X st (Xo Z hl t):=by
 subst hP hw;exact SG h
theorem SH{P:Program}{w:World}{K:Type}[DecidableEq K]{Z:jJ P w K}{hl:Z.c7+1<=8}{a:Addr}{kvs:List (N3 K)}{o:Obj}{g:TG}{tb:TS}{D:Ends}{σ:St}{H:Hp}(Pv:Nat->St->Hp->Prop)(h0:Pv 0 σ H)(hl':∀i σ H,i<=kvs.length->Pv i σ H->H a=some (dX Z hl a kvs o))(hs:∀i e σ H,kvs[i]?=some e->Pv i σ H->g (.ref e.2.1) σ H λσ2 H2=>tb {D with nx:=Pv (i+1),ct:=Pv (i+1),bk:=D.nx} σ2 H2)(hd:∀σ H,Pv kvs.length σ H->D.nx σ H):∃W:Nat->Nat->St->Hp->Prop,(∃m,W 0 m σ H)/\∀i m σ H,W i m σ H->((Itn Z hl a kvs o).stop i H/\D.nx σ H)\/((Itn Z hl a kvs o).go i H/\∃N:St->Hp->Prop,(∀σ' H',N σ' H'->∃m',m'<m/\W (i+1) m' σ' H')/\∀x H',(Itn Z hl a kvs o).QO i H x H'->g x σ H' λσ2 H2=>tb {D with nx:=N,ct:=N,bk:=D.nx} σ2 H2):=by
 refine⟨λi m σ H=>m=kvs.length-i/\i<=kvs.length/\Pv i σ H,⟨kvs.length,by simp,aeA _,h0⟩,?_⟩
 rintro i m σ H ⟨rfl,hi,p⟩
 have q:=hl' i σ H hi p
 by_cases hlt:i<kvs.length
 ·refine .inr ⟨⟨q,kvs[i],aeB hlt⟩,Pv (i+1),λσ' H' p'=>⟨kvs.length-(i+1),by omega,rfl,hlt,p'⟩,λx H' y=>?_⟩
  obtain⟨e,e1,h1,h2⟩:=y
  subst e h2
  exact hs i e1 σ _ h1 p
 ·have e:i=kvs.length:=by omega
  subst e
  exact .inl ⟨⟨q,ad6 _⟩,hd σ H p⟩
inductive TyX(K:W.Frag)(H:Hp):V->Value->Prop where
 |of {x:V}{t:Value} (h:uK K H x t):TyX K H x t
 |sqt {a:Addr}{xs:List V} (h:aX K H a xs):TyX K H (.ref a) (.type "tuple")
 |sql {a:Addr}{xs:List V} (h:aT K H a xs):TyX K H (.ref a) (.type "list")
section
variable{X:Cx}
inductive abb(K:W.Frag)(xs:List V)(H:Hp)(Q:VK):Prop where
 |mk x n t b:(xs=[x,.ty n])->(TyX K H x t)->(W.kitOne K t (.type n)=some b)->(Q (.bl b) H)->abb K xs H Q
theorem ki(K:W.Frag)(h:X.K=K):eZ X (.builtin "isinstance") (abb K):=by
 subst h
 intro pins s σ H xs vs Q I rx q
 obtain⟨x,n,t,b,rfl,ty,e,q⟩:=q
 cases ty with
 |of ty=>exact cC X.K rfl pins s σ H _ vs Q I rx ⟨x,_,t,b,rfl,ty,.inl ⟨n,rfl,e⟩,q⟩
 |@sqt a xs ha =>
  obtain⟨its,r,⟨o,h1,h2,_⟩,_⟩:=I.tuple ha
  cases rx with
  |cons r1 r2 =>
  cases r2 with
  |cons r2 r3 =>
  cases r1;cases r2;cases r3
  exact afu W.kitx_tuple I.nQ ⟨o,h1,h2⟩ e (λz=>nomatch z) λtk=>⟨.bl b,H,I.tok _,rfl,q⟩
 |@sql a xs ha =>
  obtain⟨its,r,p,_⟩:=I.list ha
  cases rx with
  |cons r1 r2 =>
  cases r2 with
  |cons r2 r3 =>
  cases r1;cases r2;cases r3
  obtain⟨o,h1,h2⟩:∃o,s.heap.get? a=some o/\o.cls=.type "list":=by
   obtain⟨o,h1,h2,_⟩:=p.isList
   exact⟨o,h1,h2⟩
  exact afu W.kitx_list I.nQ ⟨o,h1,h2⟩ e (λz=>nomatch z) λtk=>⟨.bl b,H,I.tok _,rfl,q⟩
end
section
variable{P:Program}{w:World}{K:Type}[DecidableEq K]{F:W.Frag}{Z:jJ P w K}
structure Ndx(Y:nP F Z)(hl:Z.c7+1<=8)(H:Hp)(a:Addr)(kvs:List (N3 K)):Prop where
 ob:H a=some (dN Z hl a kvs)\/∃o,H a=some (dX Z hl a kvs o)
 keys:∀e∈kvs,oX Y H e.1 e.2.1
theorem Nd.x{Y:nP F Z}{hl:Z.c7+1<=8}{H:Hp}{a:Addr}{kvs:List (N3 K)}(d:Nd Y hl H a kvs):Ndx Y hl H a kvs:=⟨.inl d.ob,d.keys⟩
def Xp(Z:jJ P w K)(hl:Z.c7+1<=8):TE:=λ_ H Q=>∀p,H p=none->Q (.ref p) (upd H p (dN Z hl p []))
inductive SI(neg:Bool)(Y:nP F Z)(hl:Z.c7+1<=8)(Q:VK)(y:V)(x:V)(H2:Hp):Prop where
 |mk a kvs k b:(x=.ref a)->(y=.ref b)->(Ndx Y hl H2 a kvs)->(oX Y H2 k b)->(Q (.bl (if neg then !(valN kvs k).isSome else (valN kvs k).isSome)) H2)->SI neg Y hl Q y x H2
def abd(neg:Bool)(Y:nP F Z)(hl:Z.c7+1<=8)(ty td:TE):TE:=λσ H Q=>ty σ H λy H1=>td σ H1 λx H2=>SI neg Y hl Q y x H2
end
section
variable{X:Cx}{K:Type}[DecidableEq K]{F:W.Frag}{Z:jJ X.prog X.w K}{Y:nP F Z}{hl:Z.c7+1<=8}{i o:Expr}{ty td:TE}{pos:Pos}
theorem Ndx.of{H:Hp}{a:Addr}{kvs:List (N3 K)}{pins:List (Addr×Obj)}{σ:St}{s:Shared}(hF:X.K=F)(I:Inv X pins σ H s)(d:Ndx Y hl H a kvs):kvs.length<=sizeLine/\(a==sysModules)=false/\∃xs,xW kvs xs/\s.heap.DictOfH (tS Z hl) a xs:=by
 have nd:zv Z hl a kvs s.heap:=by
  rcases d.ob with q|⟨ob,q⟩
  ·exact(show cM X.prog X.w H s.heap a (dN Z hl a kvs) from I.hok a _ q).1
  ·exact(NR I q).1
 obtain⟨z,y,xs,r,o,es,ep,h1,h2,h3,h4,h5⟩:=nd
 refine⟨z,y,xs,r,o,es,ep,h1,h2,h3,h4,λx hx=>?_,h5⟩
 obtain⟨p,hp,e1,e2⟩:=IE r x hx
 have:=(d.keys p hp).is hF I
 rw[e1,e2]at this
 exact this
theorem VH:PE X (.Dict [] [] pos) (Xp Z hl):=λpins s σ H Q I h=>by
 have hn:=I.hok.fresh (ad6 s.heap.objs.size)
 have y0:(s.heap.objs.size==sysModules)=false:=afM.mpr (afa (aeH I.big))
 have I1:=I.laid (a:=s.heap.objs.size) (o:=dN Z hl s.heap.objs.size []) (h':=s.heap.push {cls:=.type "dict",data:=.dict #[]}) (t':=s.toks) (λ_ _ q=>ad9 _ q) (ad6 _) (NO (xs:=[]) (aeA _) y0 .nil (Heap.DictOfH.new s.heap))
 exact wpAny_Dict_empty ⟨.ref s.heap.objs.size,_,I1,rfl,h _ hn⟩
theorem YV(Y:nP F Z)(hl:Z.c7+1<=8)(hF:X.K=F)(hu:X.A.units+1+(Z.c7+1)<cLine)(hi:PE X i ty)(ho:PE X o td):PC X .In i o (abd false Y hl ty td):=by
 intro pins s σ H Q I h
 refine cS (hi pins s σ H _ I h) λiv s1 ⟨y,H1,I1,ry,q1⟩=>cS (ho pins s1 σ H1 _ I1 q1) λu s2 ⟨x,H2,I2,rx,a,kvs,k,b,ex,ey,d,e,q2⟩=>?_
 subst ex ey
 obtain rfl:u=Value.ref a:=rx
 obtain rfl:iv=Value.ref b:=ry
 obtain⟨z,y,xs,rel,dd⟩:=d.of hF I2
 refine wpAny_in_heap (knd:=tS Z hl) hu (e.is hF I2) y dd ?_
 have q:=(qK (k:=k) rel).xV
 rw[Option.isSome_map]at q
 rw[←q]
 exact⟨.bl (valN kvs k).isSome,H2,I2.tok _,O,q2⟩
end
section
variable{X:Cx}{P:Program}{w:World}{K:Type}[DecidableEq K]{F:W.Frag}{Z:jJ P w K}{i o:Expr}{ty td:TE}{pos:Pos}
theorem SJ(Z:jJ P w K)(hl:Z.c7+1<=8)(hP:X.prog=P)(hw:X.w=w):PE X (.Dict [] [] pos) (Xp Z hl):=by subst hP hw;exact VH
theorem VI(Y:nP F Z)(hl:Z.c7+1<=8)(hP:X.prog=P)(hw:X.w=w)(hF:X.K=F)(hu:X.A.units+1+(Z.c7+1)<cLine)(hi:PE X i ty)(ho:PE X o td):PC X .In i o (abd false Y hl ty td):=by
 subst hP hw;exact YV Y hl hF hu hi ho
end
section
variable{prog:Program}{w:World}{A:Around}{E:Value->Shared->Prop}{s:Shared}
end
section
variable{X:Cx}
end
end L2
set_option maxHeartbeats 1000000
namespace L2
open PySem PySem.Spec PyProof.Rows PySem.Builtin PySem.Builtin.ObjectAttr
section
variable{P:Program}{w:World}{A:Around}{E:Value->Shared->Prop}{s:Shared}{K:W.Frag}{C N x:Addr}{bm:List Value}{ini:Option Value}{f:Str}{v:Value}{ox:Obj}{vs:Array Value}
end
section
variable{X:Cx}{K:W.Frag}
end
section
variable{X:Cx}{C N fI:Addr}{bm:List Value}{x:Str}{np cpos:Pos}{e:Expr}{es:List Expr}{t:TA}
end
section
variable{K:W.Frag}{C D N N':Addr}{bm bm':List Value}{ini aa4:Option Value}{b:Bool}
end
open PySem PySem.Spec PyProof.Rows PySem.Builtin
section
variable{prog:Program}{w:World}{A:Around}{E:Value->Shared->Prop}{s:Shared}{α:Type}
end
end L2
set_option maxHeartbeats 4000000
namespace L2
open PySem PySem.Spec PyProof.Rows
section
variable{X:Cx}{tg:Expr}{ea:Addr}
end
section
variable{X:Cx}{elt tg iter:Expr}{ifs:List Expr}{scope:Scope}{pos:Pos}{N:List Str}{nv:Nat}{js:List Nat}{wi:TI}{g:TG}{tt:TT}{te:TE}
end
theorem O3{x:Str}:[x].Nodup:=.cons (λy hy=>nomatch hy) .nil
section
variable{X:Cx}
theorem ji(i:Nat){x:Str}{pos:Pos}(hN:X.N.Nodup)(hi:X.N[i]?=some x:=by rfl)(hx:Loc X.env.scope x:=by first|exact .inl rfl|exact .inr rfl)(hf:X.fn x=true\/X.env.scope.names.lookup x=some .local:=by first|exact .inl rfl|exact .inr rfl|assumption):PG X (.Name x pos) (bF i):=UW hN hi hx hf
theorem cP(i:Nat){x:Str}{e:Expr}{te:TE}{pos pos':Pos}(hN:X.N.Nodup)(he:PE X e te)(hi:X.N[i]?=some x:=by rfl)(hx:Loc X.env.scope x:=by first|exact .inl rfl|exact .inr rfl)(hs:swapsWith e (some (.Name x pos')) pos.line X.env=pure false:=by rfl)(hf:X.fn x=true\/X.env.scope.names.lookup x=some .local:=by first|exact .inl rfl|exact .inr rfl|assumption):PS X (.Assign [.Name x pos'] e pos) (UX te (bF i)):=XR hN hi hx he hs hf
theorem DA{XN:List Str}{xsc:Scope}{N:List Str}{nv:Nat}{js:List Nat}{scope:Scope}(kind:scope.kind=.function:=by rfl)(cell:∀y∈scope.names,y.2≠.cell:=by decide +kernel)(loc:∀y∈scope.names,y.2=.local->scope.names.lookup y.1=some .local:=by decide +kernel)(free:∀y∈scope.names,y.2=.free->(xsc.names.lookup y.1=some .cell\/xsc.names.lookup y.1=some .free):=by decide +kernel)(nd:N.Nodup:=by decide +kernel)(len:N.length=nv+js.length:=by rfl)(pl:js.map (λj=>XN[j]?)=(N.drop nv).map some:=by rfl)(fr:∀x∈N.drop nv,scope.names.lookup x=some .free:=by decide +kernel):aZ XN xsc N nv js scope:=⟨kind,cell,loc,free,nd,len,pl,fr⟩
theorem iz{id:String}{r:List V->Hp->VK->Prop}{x:Str}{e:Expr}{es:List Expr}{t:TA}{p pos:Pos}(hc:eZ X (.builtin id) r)(hm:X.mg x=none)(ha:PA X (e::es) t)(hg:Gl X x:=by rfl)(hv:bootBuiltins x=some (.builtin id):=by decide +kernel)(hn:x ≠ "__name__":=by decide)(hdb:(x==("__debug__":Str))=false:=by decide)(he:starEach (e::es) X.env=(false,eval e X.env)::starEach es X.env:=by rfl)(hpl:(backTo pos (starEach es X.env)).any (·.1)=false:=by rfl):PE X (.Call (.Name x p) (e::es) [] pos) (tCB r t):=Rp hc hg hm hv ha hn hdb he hpl
theorem pcy{T:String}{r:List V->Hp->VK->Prop}{x:Str}{e:Expr}{es:List Expr}{t:TA}{p pos:Pos}(hc:eZ X (.type T) r)(hm:X.mg x=none)(ha:PA X (e::es) t)(hg:Gl X x:=by rfl)(hv:bootBuiltins x=some (.type T):=by decide +kernel)(hn:x ≠ "__name__":=by decide)(hdb:(x==("__debug__":Str))=false:=by decide)(he:starEach (e::es) X.env=(false,eval e X.env)::starEach es X.env:=by rfl)(hpl:(backTo pos (starEach es X.env)).any (·.1)=false:=by rfl):PE X (.Call (.Name x p) (e::es) [] pos) (tCB r t):=OA hc hg hm hv ha hn hdb he hpl
theorem KP(n:String){x:Str}{pos:Pos}(hm:X.mg x=none)(hg:Gl X x:=by rfl)(hv:bootBuiltins x=some (.type n):=by decide +kernel)(hn:x ≠ "__name__":=by decide)(hd:(x==("__debug__":Str))=false:=by decide):PE X (.Name x pos) (tC (.ty n)):=Yi n hg hm hv hn hd
theorem e9{k kk:Nat}{f:Addr}{fd:FuncData}{ps:List Str}{sp:Sp}{x:Str}{e:Expr}{es:List Expr}{t:TA}{p pos:Pos}(F:bg X.prog X.w X.K X.mg X.base dQ k f fd ps sp)(hr:fS kk X.A)(hm:X.mg x=some (.ref f))(hk:W.keepIn X.K (.ref f)=true)(hb:Binds X.K fd ps [])(ha:PA X (e::es) t)(hkk:k<=kk:=by decide)(hg:Gl X x:=by rfl)(hdb:(x==("__debug__":Str))=false:=by decide)(he:starEach (e::es) X.env=(false,eval e X.env)::starEach es X.env:=by rfl)(hpl:(backTo pos (starEach es X.env)).any (·.1)=false:=by rfl):PE X (.Call (.Name x p) (e::es) [] pos) (Xc sp [] E0 t):=Nu F (hr.mono hkk) hg hm hk hb .nil cO ha hdb he hpl
theorem d8(K:W.Frag){a b:Expr}{ta tb:TE}{pos:Pos}(ha:PE X a ta)(hb:PE X b tb)(hs:Gi b:=by exact λ_ _=>rfl)(h:X.K=K:=by rfl):PE X (.Subscript a b pos) (Xa (Vb K) ta tb):=Nz (Vh K h) ha hb hs
theorem Lx(K:W.Frag){a b:Expr}{ta tb:TE}{pos:Pos}(ha:PE X a ta)(hb:PE X b tb)(hs:Gi b:=by exact λ_ _=>rfl)(h:X.K=K:=by rfl):PE X (.Subscript a b pos) (Xa (Va K) ta tb):=Nz (RH K h) ha hb hs
theorem eH{op:CmpOp}{r:R2}{a b:Expr}{ta tb:TE}{pos:Pos}(ho:kF X (compareOp op) r)(ha:PE X a ta)(hb:PE X b tb)(h:op≠.In:=by decide)(h2:op≠.NotIn:=by decide):PT X (.Compare a [op] [b] pos) (Xb (Xa r ta tb)):=gR ho ha hb (Rh b h h2)
theorem DI{op:CmpOp}{r:R2}{a b:Expr}{ta tb:TE}{pos:Pos}(ho:kF X (compareOp op) r)(ha:PE X a ta)(hb:PE X b tb)(h:op≠.In:=by decide)(h2:op≠.NotIn:=by decide):PE X (.Compare a [op] [b] pos) (Xa r ta tb):=Ge ho ha hb (Rh b h h2)
end
theorem kK{a b:TS}{D:Ends}{σ:St}{H:Hp}(h:∀R:TS,(∀D σ H,b D σ H->R D σ H)->UU a R D σ H):UU a b D σ H:=h b λ_ _ _ z=>z
abbrev FO(n q:Str)(s:Stmt)(d oc:Value)(od:Option Addr)(kV dc pm:Value)(an:Option Addr)(cd ct:Value)(sl:Array (Option Value)):Option Obj:=some ⟨oc,od,.func (W.fnOf n q (dB s) (cJ s) (au s) d kV dc pm an cd ct),sl⟩
abbrev FN(n q:Str)(s:Stmt)(d kV dc pm:Value)(an:Option Addr)(cd ct:Value):FuncData:=W.fnOf n q (dB s) (cJ s) (au s) d kV dc pm an cd ct
abbrev RF(a:Addr):Option (Option Value):=some (some (.ref a))
theorem dR.lV{K:W.Frag}{x qual:Str}{st:Stmt}{f:Addr}{fd:FuncData}{ps:List Str}(F:dR K x qual st f fd)(hp:ps.length=1:=by rfl)(h:∀(kV doc pm:Value)(an:Option Addr)(cdv ct a0:Value),bindArgs (W.fnOf x qual (dB st) (cJ st) (au st) .none kV doc pm an cdv ct) ⟨[a0],[]⟩=pure (ps.zip [a0]):=by intros;rfl):Binds K fd ps [] :=
 F.binds λkV doc pm an cdv ct us hl=>by
  rw[hp]at hl
  match us,hl with
  |[a0],_=>exact h kV doc pm an cdv ct a0
theorem dR.kL{K:W.Frag}{x qual:Str}{st:Stmt}{f:Addr}{fd:FuncData}{ps:List Str}(F:dR K x qual st f fd)(hp:ps.length=2:=by rfl)(h:∀(kV doc pm:Value)(an:Option Addr)(cdv ct a0 a1:Value),bindArgs (W.fnOf x qual (dB st) (cJ st) (au st) .none kV doc pm an cdv ct) ⟨[a0,a1],[]⟩=pure (ps.zip [a0,a1]):=by intros;rfl):Binds K fd ps [] :=
 F.binds λkV doc pm an cdv ct us hl=>by
  rw[hp]at hl
  match us,hl with
  |[a0,a1],_=>exact h kV doc pm an cdv ct a0 a1
theorem dR.qN{K:W.Frag}{x qual:Str}{st:Stmt}{f:Addr}{fd:FuncData}{ps:List Str}(F:dR K x qual st f fd)(hp:ps.length=3:=by rfl)(h:∀(kV doc pm:Value)(an:Option Addr)(cdv ct a0 a1 a2:Value),bindArgs (W.fnOf x qual (dB st) (cJ st) (au st) .none kV doc pm an cdv ct) ⟨[a0,a1,a2],[]⟩=pure (ps.zip [a0,a1,a2]):=by intros;rfl):Binds K fd ps [] :=
 F.binds λkV doc pm an cdv ct us hl=>by
  rw[hp]at hl
  match us,hl with
  |[a0,a1,a2],_=>exact h kV doc pm an cdv ct a0 a1 a2
theorem dR.O4{K:W.Frag}{x qual:Str}{st:Stmt}{f:Addr}{fd:FuncData}{ps:List Str}(F:dR K x qual st f fd)(hp:ps.length=4:=by rfl)(h:∀(kV doc pm:Value)(an:Option Addr)(cdv ct a0 a1 a2 a3:Value),bindArgs (W.fnOf x qual (dB st) (cJ st) (au st) .none kV doc pm an cdv ct) ⟨[a0,a1,a2,a3],[]⟩=pure (ps.zip [a0,a1,a2,a3]):=by intros;rfl):Binds K fd ps [] :=
 F.binds λkV doc pm an cdv ct us hl=>by
  rw[hp]at hl
  match us,hl with
  |[a0,a1,a2,a3],_=>exact h kV doc pm an cdv ct a0 a1 a2 a3
def FE(K:W.Frag)(x q:Str)(st:Stmt)(f:Addr):Prop:=∃fd,dR K x q st f fd
structure FQ(K:W.Frag)(x:Str)(st:Stmt)(f:Addr):Prop where
 a:W.nsIn K mainGlobals x=RF f
 e:FE K x x st f
structure FV(K:W.Frag)(C:Addr)(x q:Str)(st:Stmt)(f:Addr):Prop where
 a:W.findIn K (.ref C) x=RF f
 i:W.isFn K (.ref f)=true
 e:FE K x q st f
theorem FE.of{K:W.Frag}{x q:Str}{st:Stmt}{f:Addr}{oc:Value}{od an:Option Addr}{sl:Array (Option Value)}{kV dc pm cd ct:Value}(l:K.lookup f=FO x q st .none oc od kV dc pm an cd ct sl)(c:W.codeIn K cd q=true)(k:W.keepIn K (.ref f)=true):FE K x q st f:=⟨_,Rz l c k⟩
theorem FQ.of{K:W.Frag}{x:Str}{st:Stmt}{f:Addr}{oc:Value}{od an:Option Addr}{sl:Array (Option Value)}{kV dc pm cd ct:Value}(a:W.nsIn K mainGlobals x=RF f)(l:K.lookup f=FO x x st .none oc od kV dc pm an cd ct sl)(c:W.codeIn K cd x=true)(k:W.keepIn K (.ref f)=true):FQ K x st f:=⟨a,.of l c k⟩
theorem FV.of{K:W.Frag}{C:Addr}{x q:Str}{st:Stmt}{f:Addr}{oc:Value}{od an:Option Addr}{sl:Array (Option Value)}{kV dc pm cd ct:Value}(a:W.findIn K (.ref C) x=RF f)(i:W.isFn K (.ref f)=true)(l:K.lookup f=FO x q st .none oc od kV dc pm an cd ct sl)(c:W.codeIn K cd q=true)(k:W.keepIn K (.ref f)=true):FV K C x q st f:=⟨a,i,.of l c k⟩
end L2
namespace My
open PySem L2
def top(i:Nat):Stmt:=PySem.Challenge.pw_dialecthall_k77_whole_as_short_as_writte.main.body.getD i (.Pass ⟨0,0,0,0⟩)
abbrev kM:Stmt:=top 15
abbrev eN:Stmt:=top 36
abbrev bJ:Stmt:=inClass (top 37) 0
abbrev kN:Stmt:=inClass (top 37) 1
abbrev oZ:Stmt:=top 38
abbrev jL:Stmt:=inClass (top 46) 0
abbrev iD:Stmt:=inClass (top 48) 0
abbrev gS:Stmt:=top 31
abbrev fM:Stmt:=top 16
abbrev xZ:Stmt:=top 18
abbrev vJ:Stmt:=top 19
abbrev iE:Stmt:=top 20
abbrev kO:Stmt:=top 21
abbrev nu:Stmt:=top 32
abbrev qO:Stmt:=top 33
abbrev Ly:Stmt:=top 22
abbrev iF:Stmt:=inClass (top 37) 2
abbrev cY:Stmt:=top 51
abbrev fN:Stmt:=inClass (top 52) 0
abbrev fT:Stmt:=inClass (top 7) 0
abbrev kP:Stmt:=inClass (top 6) 0
abbrev uS:Stmt:=top 14
abbrev ya:Stmt:=top 17
abbrev qP:Stmt:=top 25
abbrev yb:Stmt:=top 26
abbrev jM:Stmt:=top 27
abbrev kQ:Stmt:=top 34
abbrev gD:Stmt:=top 40
abbrev jN:Stmt:=top 41
abbrev nA:Stmt:=top 42
abbrev nB:Stmt:=top 43
abbrev jO:Stmt:=top 44
abbrev o6:Stmt:=top 45
abbrev qQ:Stmt:=inClass (top 46) 1
abbrev jj:Stmt:=inClass (top 46) 2
abbrev fV:Stmt:=inClass (top 48) 1
abbrev fF:Stmt:=inClass (top 48) 2
abbrev jw:Stmt:=top 50
abbrev iG:Stmt:=inClass (top 52) 1
abbrev gj:Stmt:=inClass (top 52) 2
abbrev fW:Stmt:=top 54
abbrev yc:Stmt:=top 55
abbrev nC:Stmt:=top 60
abbrev Lz:Stmt:=top 61
abbrev o7:Stmt:=top 63
abbrev LA:Stmt:=top 64
abbrev BL:Stmt:=top 65
abbrev uT:Stmt:=top 66
abbrev o8:Stmt:=top 67
abbrev yd:Stmt:=top 69
abbrev mD:Stmt:=top 70
abbrev uU:Stmt:=top 71
abbrev nW:Stmt:=top 72
abbrev sP:Stmt:=top 73
abbrev ye:Stmt:=top 76
abbrev iH:Stmt:=inClass (top 75) 0
abbrev jk:Stmt:=inClass (top 75) 2
abbrev fX:Stmt:=inClass (top 75) 1
abbrev o9:Stmt:=top 77
abbrev kR:Stmt:=top 79
abbrev pe:Stmt:=top 80
abbrev nD:Stmt:=top 81
abbrev qS:Stmt:=top 82
abbrev pq:Stmt:=top 83
abbrev qT:Stmt:=top 84
abbrev qU:Stmt:=top 85
abbrev iI:Stmt:=top 88
abbrev pA:Stmt:=top 89
abbrev kT:Stmt:=top 90
abbrev zx:Stmt:=top 91
theorem ao{H:Hp}{l:Addr}{o:HO}(h:H l=none):aE H (upd H l o):=λb u e=>by rw[az (aV e h)];exact e
theorem aM{H H2:Hp}{l:Addr}{o:HO}(h:H l=none)(s:aE H H2):aE H (upd H2 l o):=λb u e=>by rw[az (aV e h)];exact s b u e
theorem qu{i:Nat}{x:V}{σ:St}{H:Hp}{A B:St->Hp->Prop}(h:A (σ.set i (some x)) H):bF i x σ H (λτ2 H2=>RA τ2 H2 λb H3=>if b=true then A τ2 H3 else B τ2 H3):=by
 show(if true=true then A (σ.set i (some x)) H else B (σ.set i (some x)) H)
 exact i7 h
theorem SK{p A B:Prop}[Decidable p](hp:¬p)(h:B):if decide p=true then A else B:=by rw[ad5 (by simpa using hp)];exact h
theorem NW{A B:Prop}{b:Bool}(hb:b=true)(h:B):if (!b)=true then A else B:=by rw[hb];exact dh h
theorem LB{α:Type}{xs:List α}{i:Int}(h0:0<=i)(h:i<xs.length):∃c,OB xs i=some c/\c∈xs:=by
 obtain⟨j,rfl⟩:∃j:Nat,i=j:=⟨i.toNat,by omega⟩
 have hj:j<xs.length:=by omega
 exact⟨xs[j],Bc (by simp[hj]),afY hj⟩
theorem take_snoc{l:List Nat}{i c:Nat}(h:l[i]?=some c):l.take (i+1)=l.take i++[c]:=by
 rw[List.take_succ,h];rfl
def Pn(c:Nat):Prop:=32<=c/\c<=126/\c≠37
instance(c:Nat):Decidable (Pn c):=by unfold Pn;exact inferInstance
structure Sg(z:Str):Prop where
 nd:z.cps.toList.Nodup
 pr:∀c∈z.cps.toList,Pn c
def Mn(z:Str):Prop:=0<z.length/\z.length<=100/\∀c∈z.cps.toList,Pn c
instance(z:Str):Decidable (Mn z):=by unfold Mn;exact inferInstance
structure Gd(p q f:Str):Prop where
 gp:Sg p
 gq:Sg q
 gf:Sg f
 p1:1<=p.length
 p3:p.length<=3
 q2:q.length<=2
 f2:f.length<=2
def vK(p q f:Str)(b1 b2 b3 b4:Bool):List V:=[.str p,.str q,.str f,.bl b1,.bl b2,.bl b3,.bl b4]
def zy(p q f:Str)(b1 b2 b3 b4:Bool):List (Str×V):=[("parts",.str p),("quotes",.str q),("frees",.str f),("twin",.bl b1),("wide",.bl b2),("thin",.bl b3),("stray",.bl b4)]
def away(t:Str)(c:Nat):Bool:=!(!(Builtin.Str.occurrences t (sg c) 0 t.length 1).isEmpty)
theorem kU(t:Str)(c:Nat):away t c=true↔c∉t.cps.toList:=by
 unfold away
 have e:(!(Builtin.Str.occurrences t (sg c) 0 t.length 1).isEmpty)=decide (c∈t.cps.toList):=StrLaws.found_one t c
 rw[e]
 simp
theorem YW{z:Str}{c:Nat}(h:Sg z)(hc:Pn c)(ha:away z c=true):Sg (z++sg c):=by
 have e:(z++sg c).cps.toList=z.cps.toList++[c]:=by
  show(z.cps ++ #[c]).toList=_
  simp
 have hn:=(kU z c).mp ha
 refine⟨?_,?_⟩
 ·rw[e,List.nodup_append]
  refine⟨h.nd,by simp,λa ha b hb=>?_⟩
  rw[ad7.mp hb]
  intro q;exact hn (q▸ha)
 ·rw[e]
  intro d hd
  rcases aej.mp hd with z'|z'
  ·exact h.pr d z'
  ·rw[ad7.mp z'];exact hc
theorem YX:Sg 'd':=by
 have e:'d'.cps.toList=[]:=by decide +kernel
 refine⟨?_,?_⟩
 ·rw[e];exact List.nodup_nil
 ·rw[e];intro c hc;cases hc
theorem bz(a b:Str):(a++b).length=a.length+b.length:=by
 show(a.cps++b.cps).size=_
 rw[Array.size_append];rfl
theorem aA{K:W.Frag}{H H':Hp}{a:Addr}{xs:List V}(e:aE H H')(h:aX K H a xs):aX K H' a xs:=by
 rcases h with (h|⟨o,h⟩)|h
 ·exact .inl (.inl (e _ _ h))
 ·exact .inl (.inr ⟨o,e _ _ h⟩)
 ·exact .inr h
theorem Xq{A B:Prop}{b:Bool}(hb:b=false)(h:A):if (!b)=true then A else B:=by rw[hb];exact i7 h
theorem mE{A B:Prop}{b:Bool}(hb:b=true)(h:A):if b=true then A else B:=by rw[hb];exact i7 h
theorem pT{A B:Prop}{b:Bool}(hb:b=false)(h:B):if b=true then A else B:=by rw[hb];exact dh h
def oM(c:Nat)(z:Str):Bool:=!(Builtin.Str.occurrences z (sg c) 0 z.length 1).isEmpty
def bC(a b:Str):Bool:=decide (V.str a=V.str b)
theorem kW{a b:Str}(h:bC a b=true):a=b:=by have:=aez h;cases this;rfl
theorem br(a:Str):bC a a=true:=aeb rfl
inductive Res where
 |go (k w u:Str)
 |lU (w:Str)
def DJ(K:W.Frag)(H:Hp)(v:V):Res->Prop
 | .go k w u=>bC k ("fault":Str)=false/\∃a b,v=.ref a/\aX K H a [.str k,.ref b]/\aX K H b [.str w,.str u]
 | .lU w=>∃a,v=.ref a/\aX K H a [.str ("fault":Str),.str w]
theorem gJ{K:W.Frag}{H:Hp}{Q:VK}{k w u:Str}{r:Res}(e:r=.go k w u)(hk:bC k ("fault":Str)=false)(h:∀v H',aE H H'->DJ K H' v r->Q v H'):[V.str w,V.str u].length<=sizeLine/\∀b,H b=none->([V.str k,V.ref b].length<=sizeLine/\∀a,(upd H b (.tup [.str w,.str u])) a=none->Q (.ref a) (upd (upd H b (.tup [.str w,.str u])) a (.tup [.str k,.ref b]))):=by
 refine⟨(by show 2<=sizeLine;decide),λb hb=>⟨(by show 2<=sizeLine;decide),λa ha=>?_⟩⟩
 have s1:=ao (o:=HO.tup [.str w,.str u]) hb
 have s2:=ao (o:=HO.tup [.str k,.ref b]) ha
 refine h _ _ (s1.trans s2) ?_
 rw[e]
 exact⟨hk,a,b,O,aX.of ai,aA s2 (aX.of ai)⟩
theorem Gr{K:W.Frag}{H H0:Hp}{Q:VK}{k w u:Str}{r:Res}{b:Addr}(e:r=.go k w u)(hk:bC k ("fault":Str)=false)(s0:aE H0 H)(hb:aX K H b [.str w,.str u])(h:∀v H',aE H0 H'->DJ K H' v r->Q v H'):[V.str k,V.ref b].length<=sizeLine/\∀a,H a=none->Q (.ref a) (upd H a (.tup [.str k,.ref b])):=by
 refine⟨(by show 2<=sizeLine;decide),λa ha=>?_⟩
 have s2:=ao (o:=HO.tup [.str k,.ref b]) ha
 refine h _ _ (s0.trans s2) ?_
 rw[e]
 exact⟨hk,a,b,O,aX.of ai,aA s2 hb⟩
theorem BN{K:W.Frag}{H:Hp}{Q:VK}{w:Str}{r:Res}(e:r=.lU w)(h:∀v H',aE H H'->DJ K H' v r->Q v H'):[V.str ("fault":Str),V.str w].length<=sizeLine/\∀a,H a=none->Q (.ref a) (upd H a (.tup [.str ("fault":Str),.str w])):=by
 refine⟨(by show 2<=sizeLine;decide),λa ha=>?_⟩
 have s2:=ao (o:=HO.tup [.str ("fault":Str),.str w]) ha
 refine h _ _ s2 ?_
 rw[e]
 exact⟨a,O,aX.of ai⟩
theorem mF:bC ("skip":Str) ("fault":Str)=false:=by decide +kernel
theorem LC:bC ("end":Str) ("fault":Str)=false:=by decide +kernel
theorem Gs:bC ("part":Str) ("fault":Str)=false:=by decide +kernel
theorem kX:bC ("put":Str) ("fault":Str)=false:=by decide +kernel
def iJ(p q f:Str)(b3:Bool)(w u:Str)(c:Nat):Res :=
 if oM c f=true then .go ("skip":Str) ("freed":Str) 'd' else
 if bC (sg c) (Str.ofString "\n")=true then .go ("end":Str) ("row":Str) 'd' else
 if oM c q=true then .go ("skip":Str) ("within":Str) (sg c) else
 if oM c p=true then .go ("part":Str) ("cell":Str) 'd' else
 if bC (sg c) (" ":Str)=true then (if b3=true then .go ("skip":Str) w u else .go ("put":Str) ("plain":Str) 'd') else
 .go ("put":Str) ("plain":Str) 'd'
def iK(p q f:Str)(b4:Bool)(c:Nat):Res :=
 if oM c f=true then .go ("skip":Str) ("freed":Str) 'd' else
 if bC (sg c) (Str.ofString "\n")=true then .go ("end":Str) ("row":Str) 'd' else
 if oM c p=true then .go ("part":Str) ("cell":Str) 'd' else
 if oM c q=true then (if (!b4)=true then .lU ("quote":Str) else .go ("put":Str) ("plain":Str) 'd') else
 .go ("put":Str) ("plain":Str) 'd'
def dS(f:Str)(b1 b2:Bool)(u:Str)(c:Nat):Res :=
 if oM c f=true then .go ("skip":Str) ("freed":Str) u else
 if bC (sg c) u=true then (if b1=true then .go ("skip":Str) ("doubt":Str) u else .go ("skip":Str) ("behind":Str) 'd') else
 if bC (sg c) (Str.ofString "\n")=true then (if (!b2)=true then .lU ("line":Str) else .go ("put":Str) ("within":Str) u) else
 .go ("put":Str) ("within":Str) u
def cU(p:Str)(b3:Bool)(c:Nat):Res :=
 if bC (sg c) (Str.ofString "\n")=true then .go ("end":Str) ("row":Str) 'd' else
 if oM c p=true then .go ("part":Str) ("cell":Str) 'd' else
 if bC (sg c) (" ":Str)=true then (if b3=true then .go ("skip":Str) ("behind":Str) 'd' else .lU ("behind":Str)) else
 .lU ("behind":Str)
def kY(p:Str)(b3:Bool)(u:Str)(c:Nat):Res:=if bC (sg c) u=true then .go ("put":Str) ("within":Str) u else cU p b3 c
def eO(u:Str):Res:=if bC u 'd'=true then .go ("put":Str) ("plain":Str) 'd' else .go ("put":Str) ("within":Str) u
def gE(b2:Bool)(u:Str)(c:Nat):Res :=
 if bC (sg c) (Str.ofString "\n")=true then (if (!b2)=true then .lU ("line":Str) else eO u) else eO u
def pU(p q f:Str)(b3 b4:Bool)(w u:Str)(c:Nat):Res:=if bC w ("plain":Str)=true then iK p q f b4 c else iJ p q f b3 w u c
def bw(p q f:Str)(b1 b2 b3 b4:Bool)(w u:Str)(c:Nat):Res :=
 if bC w ("within":Str)=true then dS f b1 b2 u c else
 if bC w ("freed":Str)=true then gE b2 u c else
 if bC w ("doubt":Str)=true then kY p b3 u c else
 if bC w ("behind":Str)=true then cU p b3 c else
 pU p q f b3 b4 w u c
theorem ns{a b:String}(h:bC (Str.ofString a) (Str.ofString b)=false):¬bC (Str.ofString a) (Str.ofString b)=true:=by rw[h];decide
theorem SM{p q f:Str}{b1 b2 b3 b4:Bool}{w u:Str}{c:Nat}(h:bC w ("plain":Str)=true):bw p q f b1 b2 b3 b4 w u c=iK p q f b4 c:=by
 cases kW h
 unfold bw pU
 rw[ad5 (ns 'b'),ad5 (ns 'b'),ad5 (ns 'b'),ad5 (ns 'b'),aee (br _)]
theorem yf{p q f:Str}{b1 b2 b3 b4:Bool}{w u:Str}{c:Nat}(h:bC w ("within":Str)=true):bw p q f b1 b2 b3 b4 w u c=dS f b1 b2 u c:=by
 unfold bw
 rw[aee h]
theorem Ja{p q f:Str}{b1 b2 b3 b4:Bool}{w u:Str}{c:Nat}(h:bC w ("doubt":Str)=true):bw p q f b1 b2 b3 b4 w u c=kY p b3 u c:=by
 cases kW h
 unfold bw
 rw[ad5 (ns 'b'),ad5 (ns 'b'),aee (br _)]
theorem ES{p q f:Str}{b1 b2 b3 b4:Bool}{w u:Str}{c:Nat}(h:bC w ("behind":Str)=true):bw p q f b1 b2 b3 b4 w u c=cU p b3 c:=by
 cases kW h
 unfold bw
 rw[ad5 (ns 'b'),ad5 (ns 'b'),ad5 (ns 'b'),aee (br _)]
theorem vL{p q f:Str}{b1 b2 b3 b4:Bool}{w u:Str}{c:Nat}(h:bC w ("freed":Str)=true):bw p q f b1 b2 b3 b4 w u c=gE b2 u c:=by
 cases kW h
 unfold bw
 rw[ad5 (ns 'b'),aee (br _)]
theorem NX{p q f:Str}{b1 b2 b3 b4:Bool}{w u:Str}{c:Nat}(h1:bC w ("within":Str)=false)(h2:bC w ("freed":Str)=false)(h3:bC w ("doubt":Str)=false)(h4:bC w ("behind":Str)=false):bw p q f b1 b2 b3 b4 w u c=pU p q f b3 b4 w u c:=by
 unfold bw
 rw[h1,h2,h3,h4]
 rfl
theorem qV{b:Bool}(h:¬b=true):b=false:=by cases b<;>simp_all
def tfl(d:Addr):List (Str×V):=[("dialect",.ref d)]
structure Tn(C CT:Addr)(H:Hp)(y:Addr)(p q f:Str)(b1 b2 b3 b4:Bool):Prop where
 ok:∃dy d dd,H y=some (.ins CT dy (tfl d))/\H d=some (.ins C dd (zy p q f b1 b2 b3 b4))
theorem Tn.mono{C CT:Addr}{H H':Hp}{y:Addr}{p q f:Str}{b1 b2 b3 b4:Bool}(s:aE H H')(h:Tn C CT H y p q f b1 b2 b3 b4):Tn C CT H' y p q f b1 b2 b3 b4:=by
 obtain⟨dy,d,dd,e1,e2⟩:=h.ok
 exact⟨dy,d,dd,s _ _ e1,s _ _ e2⟩
theorem gk{H H':Hp}{y dy:Addr}{o:HO}(hy:H y=none)(QT:H dy=none)(kp:∀b o',upd (upd H dy (.own y)) y o b=some o'->b≠y->H' b=some o'):aE H H':=λb o' e=>kp b o' (by rw[az (aV e hy),az (aV e QT)];exact e) (aV e hy)
theorem cF{H:Hp}{y dy b:Addr}{o o':HO}(hy:H y=none)(QT:H dy=none)(e:H b=some o'):upd (upd H dy (.own y)) y o b=some o':=by rw[az (aV e hy),az (aV e QT)];exact e
def dU(K:W.Frag)(H:Hp)(x:V)(w:Str×Str):Prop:=∃a,x=.ref a/\aX K H a [.str w.1,.str w.2]
theorem dU.mono{K:W.Frag}{H H':Hp}{x:V}{w:Str×Str}(e:aE H H')(h:dU K H x w):dU K H' x w:=let ⟨a,e1,e2⟩:=h;⟨a,e1,aA e e2⟩
theorem dU.but{K:W.Frag}{H:Hp}{x:V}{w:Str×Str}{l:Addr}{ys:List V}{o:HO}(hl:H l=some (.lst ys))(h:dU K H x w):dU K (upd H l o) x w:=by
 obtain⟨a,e1,e2⟩:=h
 refine⟨a,e1,?_⟩
 rcases e2 with (h|⟨ob,h⟩)|h
 ·exact .inl (.inl ((az (dP h hl (by intro z;cases z))).trans h))
 ·exact .inl (.inr ⟨ob,(az (dP h hl (by intro z;cases z))).trans h⟩)
 ·exact .inr h
theorem aI{α β:Type}{F G:α->β->Prop}(h:∀a b,F a b->G a b):∀{xs:List α}{ys:List β},Paired F xs ys->Paired G xs ys
 |_,_,.nil=>.nil
 |_,_,.cons q r=>.cons (h _ _ q) (aI h r)
theorem bM{α β:Type}{F:α->β->Prop}:∀{xs xs':List α}{ys ys':List β},Paired F xs ys->Paired F xs' ys'->Paired F (xs++xs') (ys++ys')
 |_,_,_,_,.nil,r=>r
 |_,_,_,_,.cons q t,r=>.cons q (bM t r)
theorem aN{α β:Type}{F:α->β->Prop}:∀{xs:List α}{ys:List β},Paired F xs ys->∀(j:Nat) x,xs[j]?=some x->∃y,ys[j]?=some y/\F x y
 |_,_,.nil,j,x,h=>by simp at h
 |_,_,.cons q t,0,x,h=>by simp at h;subst h;exact⟨_,rfl,q⟩
 |_,_,.cons q t,j+1,x,h=>by
  obtain⟨y,h1,h2⟩:=aN t j x (by simpa using h)
  exact⟨y,by simpa using h1,h2⟩
def c5:List (Str×Str):=[(Str.ofString "row",'d'),(Str.ofString "cell",'d'),(Str.ofString "plain",'d'),(Str.ofString "behind",'d'),(Str.ofString "freed",'d')]
def c3(c:Nat):List (Str×Str):=[(Str.ofString "within",sg c),(Str.ofString "doubt",sg c),(Str.ofString "freed",sg c)]
def cont(l:List Nat):List (Str×Str):=c5++l.flatMap c3
theorem O5(l:List Nat)(c:Nat):cont (l++[c])=cont l++c3 c:=by
 unfold cont;rw[List.flatMap_append,←aeC];simp
theorem SN(l:List Nat):(cont l).length=5+3*l.length:=by
 unfold cont
 rw[aef]
 have e:(l.flatMap c3).length=3*l.length:=by
  induction l with
  |nil=>rfl
  |cons c l ih=>rw[afU,aef,ih,aex];show 3+_=_;omega
 rw[e];rfl
theorem abe{K:W.Frag}{H:Hp}{t0 t1 t2 t3 t4:Addr}(q0:aX K H t0 [.str ("row":Str),.str 'd'])(q1:aX K H t1 [.str ("cell":Str),.str 'd'])(q2:aX K H t2 [.str ("plain":Str),.str 'd'])(q3:aX K H t3 [.str ("behind":Str),.str 'd'])(q4:aX K H t4 [.str ("freed":Str),.str 'd']):Paired (dU K H) [.ref t0,.ref t1,.ref t2,.ref t3,.ref t4] (cont []):=by
 show Paired (dU K H) _ c5
 unfold c5
 exact .cons ⟨_,rfl,q0⟩ (.cons ⟨_,rfl,q1⟩ (.cons ⟨_,rfl,q2⟩ (.cons ⟨_,rfl,q3⟩ (.cons ⟨_,rfl,q4⟩ .nil))))
theorem abf{K:W.Frag}{H:Hp}{u1 u2 u3:Addr}{c:Nat}(q1:aX K H u1 [.str ("within":Str),.str (sg c)])(q2:aX K H u2 [.str ("doubt":Str),.str (sg c)])(q3:aX K H u3 [.str ("freed":Str),.str (sg c)]):Paired (dU K H) [.ref u1,.ref u2,.ref u3] (c3 c):=by
 unfold c3
 exact .cons ⟨_,rfl,q1⟩ (.cons ⟨_,rfl,q2⟩ (.cons ⟨_,rfl,q3⟩ .nil))
def nin(u f:Str):Bool:=!(!(Builtin.Str.occurrences f u 0 f.length 1).isEmpty)
def cQ(f w u:Str):Bool:=if bC u 'd'=true then true else if bC w ("doubt":Str)=true then true else nin u f
def zB(w u:Str):Bool:=qt [.str w,.str u] [.str ("row":Str),.str 'd']
theorem Gu(c:Nat)(z:Str):oM c z=decide (c∈z.cps.toList):=StrLaws.found_one z c
theorem Gv{c:Nat}{z:Str}(h:c∉z.cps.toList):¬oM c z=true:=by rw[Gu];simpa using h
theorem l10{z:Str}(g:Sg z):¬oM 10 z=true:=Gv λh=>by have:=(g.pr 10 h).1;omega
theorem LD{c d:Nat}(h:c≠d):¬bC (sg c) (sg d)=true:=λe=>by
 have:=kW e
 unfold sg at this
 injection this with e2
 exact h (by simpa using e2)
theorem zC:∀c:Nat,¬bC (sg c) 'd'=true:=λc e=>by
 have:=congrArg Str.length (kW e)
 have e0:'d'.length=0:=by decide +kernel
 rw[e0]at this
 exact absurd this (by show ¬(1=0);decide)
theorem la:Str.ofString "a"=sg 97:=by decide +kernel
theorem app_list(a b:Str):(a++b).cps.toList=a.cps.toList++b.cps.toList:=by
 show(a.cps++b.cps).toList=_
 simp
theorem sQ:'d'.cps.toList=[]:=by decide +kernel
def i8(q w u:Str):Prop:=(u=Str.ofString ""/\(w=Str.ofString "row"\/w=Str.ofString "cell"\/w=Str.ofString "plain"\/w=Str.ofString "behind"\/w=("freed":Str)))\/∃c,c∈q.cps.toList/\u=sg c/\(w=Str.ofString "within"\/w=Str.ofString "doubt"\/w=("freed":Str))
theorem yg{p q f:Str}{b1 b2 b3 b4:Bool}{u:Str}{c:Nat}(a:String)(h1:bC (Str.ofString a) ("within":Str)=false)(h2:bC (Str.ofString a) ("freed":Str)=false)(h3:bC (Str.ofString a) ("doubt":Str)=false)(h4:bC (Str.ofString a) ("behind":Str)=false):bw p q f b1 b2 b3 b4 (Str.ofString a) u c=pU p q f b3 b4 (Str.ofString a) u c:=NX h1 h2 h3 h4
theorem fO{K:W.Frag}{H:Hp}{a l:Addr}{xs ys:List V}{o:HO}(hl:H l=some (.lst ys))(e2:aX K H a xs):aX K (upd H l o) a xs:=by
 rcases e2 with (h|⟨ob,h⟩)|h
 ·exact .inl (.inl ((az (dP h hl (by intro z;cases z))).trans h))
 ·exact .inl (.inr ⟨ob,(az (dP h hl (by intro z;cases z))).trans h⟩)
 ·exact .inr h
theorem aO{α:Type}{l:List α}{i:Nat}{c:α}(h:l[i]?=some c):l.take (i+1)=l.take i++[c]:=by
 rw[List.take_succ,h];rfl
def bA(z:Str):Prop:=∀k∈z.cps.toList,k=10\/Pn k
theorem sgL{c:Nat}{z:Str}(e:z=("\n":Str))(h:¬decide (V.str (sg c)=V.str z)=true):c≠10:=λe2=>h (by
 have:Str.ofString "\n"=sg 10:=by decide +kernel
 rw[e,e2,this];exact aeb rfl)
theorem O6{t u:TS}{D:Ends}{σ:St}{H:Hp}(N:St->Hp->Prop)(hu:∀σ' H',N σ' H'->u D σ' H')(ht:(∀σ' H',N σ' H'->u D σ' H')->t {D with nx:=u D} σ H):UU t u D σ H:=ht hu
theorem LF:bA 'd':=by
 have e:'d'.cps.toList=[]:=by decide +kernel
 intro k hk;rw[e]at hk;cases hk
theorem uV:'d'.length=0:=by decide +kernel
def runM(p q f:Str)(b1 b2 b3 b4:Bool):Str->Str->List Nat->List Str×Str×Str×Option Str
 |w,u,[]=>([],w,u,none)
 |w,u,c::cs=>match bw p q f b1 b2 b3 b4 w u c with
  | .lU e=>([],w,u,some e)
  | .go k w' u'=>(k::(runM p q f b1 b2 b3 b4 w' u' cs).1,(runM p q f b1 b2 b3 b4 w' u' cs).2)
def Jb(ks:List Str)(r:List Str×Str×Str×Option Str):List Str×Str×Str×Option Str:=(ks++r.1,r.2)
theorem YY{p q f:Str}{b1 b2 b3 b4:Bool}{w u k w' u':Str}{c:Nat}{cs:List Nat}{ks:List Str}(h:bw p q f b1 b2 b3 b4 w u c=.go k w' u'):Jb ks (runM p q f b1 b2 b3 b4 w u (c::cs))=Jb (ks++[k]) (runM p q f b1 b2 b3 b4 w' u' cs):=by
 have e:runM p q f b1 b2 b3 b4 w u (c::cs)=(k::(runM p q f b1 b2 b3 b4 w' u' cs).1,(runM p q f b1 b2 b3 b4 w' u' cs).2):=by
  show(match bw p q f b1 b2 b3 b4 w u c with | .lU e=>([],w,u,some e) | .go k w' u'=>(k::(runM p q f b1 b2 b3 b4 w' u' cs).1,(runM p q f b1 b2 b3 b4 w' u' cs).2))=_
  rw[h]
 rw[e]
 unfold Jb
 rw[aeC]
 rfl
theorem VJ{p q f:Str}{b1 b2 b3 b4:Bool}{w u e:Str}{c:Nat}{cs:List Nat}{ks:List Str}(h:bw p q f b1 b2 b3 b4 w u c=.lU e):Jb ks (runM p q f b1 b2 b3 b4 w u (c::cs))=(ks,w,u,some e):=by
 have e2:runM p q f b1 b2 b3 b4 w u (c::cs)=([],w,u,some e):=by
  show(match bw p q f b1 b2 b3 b4 w u c with | .lU e=>([],w,u,some e) | .go k w' u'=>(k::(runM p q f b1 b2 b3 b4 w' u' cs).1,(runM p q f b1 b2 b3 b4 w' u' cs).2))=_
  rw[h]
 rw[e2]
 unfold Jb
 rw[aeD]
theorem VL{p q f:Str}{b1 b2 b3 b4:Bool}{w u:Str}{ks:List Str}:Jb ks (runM p q f b1 b2 b3 b4 w u [])=(ks,w,u,none):=by
 show(ks++[],w,u,none)=_
 rw[aeD]
def SO:Option Str->V
 |none=>.non
 |some e=>.str e
def Gw(r:List Str×Str×Str×Option Str):Str:=match r.2.2.2 with
 |some e=>e
 |none=>if zB r.2.1 r.2.2.1=true then Str.ofString "" else Str.ofString "cut"
theorem Tn.but{C CT:Addr}{H:Hp}{y:Addr}{p q f:Str}{b1 b2 b3 b4:Bool}{l:Addr}{ys:List V}{o:HO}(hl:H l=some (.lst ys))(h:Tn C CT H y p q f b1 b2 b3 b4):Tn C CT (upd H l o) y p q f b1 b2 b3 b4:=by
 obtain⟨dy,d,dd,e1,e2⟩:=h.ok
 exact⟨dy,d,dd,(az (dP e1 hl (by intro z;cases z))).trans e1,(az (dP e2 hl (by intro z;cases z))).trans e2⟩
theorem drop_cons{l:List Nat}{i c:Nat}(h:l[i]?=some c):l.drop i=c::l.drop (i+1):=by
 obtain⟨h1,h2⟩:=ad8.mp h
 rw[afC h1,h2]
def acz(ks:List Str):Nat:=(ks.map V.str).countP λz=>Bd z (.str ("end":Str))
theorem ET(ks:List Str):(ks.map V.str).all eg=true:=by rw[List.all_map,aeP];intro _ _;rfl
theorem SQ{p q f:Str}{b1 b2 b3 b4:Bool}{w u e:Str}{c:Nat}(h:bw p q f b1 b2 b3 b4 w u c=.lU e):e=Str.ofString "line"\/e=Str.ofString "quote"\/e=("behind":Str):=by
 have hb:∀{p:Str}{b3:Bool},cU p b3 c=.lU e->e=Str.ofString "line"\/e=Str.ofString "quote"\/e=("behind":Str):=by
  intro p b3 h
  unfold cU at h
  split at h
  ·cases h
  split at h
  ·cases h
  split at h
  ·split at h
   ·cases h
   ·cases h;exact .inr (.inr rfl)
  ·cases h;exact .inr (.inr rfl)
 unfold bw at h
 split at h
 ·unfold dS at h
  split at h
  ·cases h
  split at h
  ·split at h<;>cases h
  split at h
  ·split at h
   ·cases h;exact .inl rfl
   ·cases h
  ·cases h
 split at h
 ·unfold gE eO at h
  split at h
  ·split at h
   ·cases h;exact .inl rfl
   ·split at h<;>cases h
  ·split at h<;>cases h
 split at h
 ·unfold kY at h
  split at h
  ·cases h
  ·exact hb h
 split at h
 ·exact hb h
 unfold pU at h
 split at h
 ·unfold iK at h
  split at h
  ·cases h
  split at h
  ·cases h
  split at h
  ·cases h
  split at h
  ·split at h
   ·cases h;exact .inr (.inl rfl)
   ·cases h
  ·cases h
 ·unfold iJ at h
  split at h
  ·cases h
  split at h
  ·cases h
  split at h
  ·cases h
  split at h
  ·cases h
  split at h
  ·split at h<;>cases h
  ·cases h
theorem iL{p q f:Str}{b1 b2 b3 b4:Bool}{w u k w' u':Str}{c:Nat}{cs:List Nat}(h:bw p q f b1 b2 b3 b4 w u c=.go k w' u'):runM p q f b1 b2 b3 b4 w u (c::cs)=(k::(runM p q f b1 b2 b3 b4 w' u' cs).1,(runM p q f b1 b2 b3 b4 w' u' cs).2):=by
 show(match bw p q f b1 b2 b3 b4 w u c with | .lU e=>([],w,u,some e) | .go k w' u'=>(k::(runM p q f b1 b2 b3 b4 w' u' cs).1,(runM p q f b1 b2 b3 b4 w' u' cs).2))=_
 rw[h]
theorem qW{p q f:Str}{b1 b2 b3 b4:Bool}{w u e:Str}{c:Nat}{cs:List Nat}(h:bw p q f b1 b2 b3 b4 w u c=.lU e):runM p q f b1 b2 b3 b4 w u (c::cs)=([],w,u,some e):=by
 show(match bw p q f b1 b2 b3 b4 w u c with | .lU e=>([],w,u,some e) | .go k w' u'=>(k::(runM p q f b1 b2 b3 b4 w' u' cs).1,(runM p q f b1 b2 b3 b4 w' u' cs).2))=_
 rw[h]
theorem Jc{p q f:Str}{b1 b2 b3 b4:Bool}{w u e:Str}{cs:List Nat}(h:(runM p q f b1 b2 b3 b4 w u cs).2.2.2=some e):e≠Str.ofString ""/\e≠Str.ofString "cut":=by
 induction cs generalizing w u with
 |nil=>cases h
 |cons c cs ih =>
  cases hs:bw p q f b1 b2 b3 b4 w u c with
  |go k w' u' =>
   rw[iL hs]at h
   exact ih h
  |lU e2 =>
   rw[qW hs]at h
   cases h
   rcases SQ hs with rfl|rfl|rfl
   ·exact⟨λz=>absurd (congrArg (λz=>bC z ("line":Str)) z) 'b',λz=>absurd (congrArg (λz=>bC z ("line":Str)) z) 'b'⟩
   ·exact⟨λz=>absurd (congrArg (λz=>bC z ("quote":Str)) z) 'b',λz=>absurd (congrArg (λz=>bC z ("quote":Str)) z) 'b'⟩
   ·exact⟨λz=>absurd (congrArg (λz=>bC z ("behind":Str)) z) 'b',λz=>absurd (congrArg (λz=>bC z ("behind":Str)) z) 'b'⟩
theorem SR{q:Str}{c:Nat}(h:oM c q=true):c∈q.cps.toList:=by rw[Gu]at h;exact aez h
theorem iM{p q f:Str}{b1 b2 b3 b4:Bool}{w u k w' u':Str}{c:Nat}(h:i8 q w u)(hs:bw p q f b1 b2 b3 b4 w u c=.go k w' u'):i8 q w' u':=by
 have SS:∀{w u:Str},i8 q w u->pU p q f b3 b4 w u c=.go k w' u'->i8 q w' u':=by
  intro w u h hs
  unfold pU iK iJ at hs
  repeat' split at hs
  all_goals first
   | (cases hs;exact .inl ⟨rfl,.inl rfl⟩)
   | (cases hs;exact .inl ⟨rfl,.inr (.inl rfl)⟩)
   | (cases hs;exact .inl ⟨rfl,.inr (.inr (.inl rfl))⟩)
   | (cases hs;exact .inl ⟨rfl,.inr (.inr (.inr (.inr rfl)))⟩)
   | (cases hs;rename_i hq _ _;exact .inr ⟨c,SR (by assumption),rfl,.inl rfl⟩)
   | (cases hs;exact .inr ⟨c,SR (by assumption),rfl,.inl rfl⟩)
   | (cases hs;exact h)
   |cases hs
 have abg:cU p b3 c=.go k w' u'->i8 q w' u':=by
  intro hs
  unfold cU at hs
  repeat' split at hs
  all_goals first
   | (cases hs;exact .inl ⟨rfl,.inl rfl⟩)
   | (cases hs;exact .inl ⟨rfl,.inr (.inl rfl)⟩)
   | (cases hs;exact .inl ⟨rfl,.inr (.inr (.inr (.inl rfl)))⟩)
   |cases hs
 rcases h with ⟨rfl,rfl|rfl|rfl|rfl|rfl⟩|⟨d,hd,rfl,rfl|rfl|rfl⟩
 ·rw[yg "row" 'b' 'b' 'b' 'b']at hs
  exact SS (.inl ⟨rfl,.inl rfl⟩) hs
 ·rw[yg "cell" 'b' 'b' 'b' 'b']at hs
  exact SS (.inl ⟨rfl,.inr (.inl rfl)⟩) hs
 ·rw[yg "plain" 'b' 'b' 'b' 'b']at hs
  exact SS (.inl ⟨rfl,.inr (.inr (.inl rfl))⟩) hs
 ·rw[ES (br _)]at hs
  exact abg hs
 ·rw[vL (br _)]at hs
  unfold gE eO at hs
  rw[aee (br _)]at hs
  repeat' split at hs
  all_goals first
   | (cases hs;exact .inl ⟨rfl,.inr (.inr (.inl rfl))⟩)
   |cases hs
 ·rw[yf (br _)]at hs
  unfold dS at hs
  repeat' split at hs
  all_goals first
   | (cases hs;exact .inr ⟨d,hd,rfl,.inr (.inr rfl)⟩)
   | (cases hs;exact .inr ⟨d,hd,rfl,.inr (.inl rfl)⟩)
   | (cases hs;exact .inr ⟨d,hd,rfl,.inl rfl⟩)
   | (cases hs;exact .inl ⟨rfl,.inr (.inr (.inr (.inl rfl)))⟩)
   |cases hs
 ·rw[Ja (br _)]at hs
  unfold kY at hs
  split at hs
  ·cases hs;exact .inr ⟨d,hd,rfl,.inl rfl⟩
  ·exact abg hs
 ·rw[vL (br _)]at hs
  unfold gE eO at hs
  rw[ad5 (zC d)]at hs
  repeat' split at hs
  all_goals first
   | (cases hs;exact .inr ⟨d,hd,rfl,.inl rfl⟩)
   |cases hs
theorem YZ{p q f:Str}{b1 b2 b3 b4:Bool}{w u:Str}{cs:List Nat}(h:i8 q w u):i8 q (runM p q f b1 b2 b3 b4 w u cs).2.1 (runM p q f b1 b2 b3 b4 w u cs).2.2.1:=by
 induction cs generalizing w u with
 |nil=>exact h
 |cons c cs ih =>
  cases hs:bw p q f b1 b2 b3 b4 w u c with
  |go k w' u' =>
   rw[iL hs]
   exact ih (iM h hs)
  |lU e2 =>
   rw[qW hs]
   exact h
structure Gx where
 rows:List (List Str)
 row:List Str
 cell:Str
def Jd(g:Gx)(c:Nat)(k:Str):Gx :=
 if bC k ("put":Str)=true then ⟨g.rows,g.row,g.cell++sg c⟩
 else if bC k ("part":Str)=true then ⟨g.rows,g.row++[g.cell],'d'⟩
 else if bC k ("end":Str)=true then ⟨g.rows++[g.row++[g.cell]],[],'d'⟩
 else g
def qX:Gx->List Nat->List Str->Gx
 |g,c::cs,k::ks=>qX (Jd g c k) cs ks
 |g,_,_=>g
def Je:Gx:=⟨[],[],'d'⟩
def Jf(z:Str)(ks:List Str):List (List Str):=(qX Je z.cps.toList ks).rows
theorem EU:∀(g:Gx)(cs:List Nat)(ks:List Str)(i:Nat)(c:Nat)(k:Str),cs[i]?=some c->ks[i]?=some k->qX g (cs.take (i+1)) (ks.take (i+1))=Jd (qX g (cs.take i) (ks.take i)) c k
 |g,[],_,i,c,k,h,_=>by simp at h
 |g,_::_,[],i,c,k,_,h=>by simp at h
 |g,d::cs,j::ks,0,c,k,h1,h2=>by cases h1;cases h2;rfl
 |g,d::cs,j::ks,i+1,c,k,h1,h2=>by
  show qX (Jd g d j) (cs.take (i+1)) (ks.take (i+1))=Jd (qX (Jd g d j) (cs.take i) (ks.take i)) c k
  exact EU _ cs ks i c k h1 h2
theorem Jg:∀(g:Gx)(cs:List Nat)(ks:List Str),qX g (cs.take (min cs.length ks.length)) (ks.take (min cs.length ks.length))=qX g cs ks
 |g,[],ks=>by simp[qX]
 |g,_::_,[]=>by simp[qX]
 |g,d::cs,j::ks=>by
  have e:min (d::cs).length (j::ks).length=min cs.length ks.length+1:=by rw[aex,aex];omega
  rw[e]
  exact Jg (Jd g d j) cs ks
theorem Gy{l:List Str}{i:Nat}{e:V}(h:(l.map V.str)[i]?=some e):∃z,l[i]?=some z/\e=.str z:=by
 rw[aft]at h
 cases hz:l[i]? with
 |none=>rw[hz]at h;cases h
 |some z=>rw[hz]at h;exact⟨z,rfl,(aes h).symm⟩
abbrev pB(H0 H:Hp):List V->List (List Str)->Prop:=Paired λe r=>∃a,e=V.ref a/\H0 a=none/\H a=some (.lst (r.map V.str))
theorem pB.mono{H0 H H':Hp}(s:aE H H'):∀{es:List V}{rs:List (List Str)},pB H0 H es rs->pB H0 H' es rs
 |_,_,.nil=>.nil
 |_,_,.cons ⟨a,e,n,h⟩ r=>.cons ⟨a,e,n,s _ _ h⟩ (pB.mono s r)
theorem pB.but{H0 H:Hp}{l:Addr}{o:HO}:∀{es:List V}{rs:List (List Str)},(V.ref l∉es)->pB H0 H es rs->pB H0 (upd H l o) es rs
 |_,_,_,.nil=>.nil
 |_,_,hn,.cons ⟨a,e,n,h⟩ r=>by
  subst e
  have:a≠l:=λq=>hn (by rw[q];exact aew ..)
  exact .cons ⟨a,rfl,n,(az this).trans h⟩ (pB.but (λq=>hn (aer _ q)) r)
theorem pB.app{H0 H:Hp}:∀{es es':List V}{rs rs':List (List Str)},pB H0 H es rs->pB H0 H es' rs'->pB H0 H (es++es') (rs++rs')
 |_,_,_,_,.nil,h=>h
 |_,_,_,_,.cons r t,h=>.cons r (pB.app t h)
theorem pB.has{H0 H:Hp}:∀{es:List V}{rs:List (List Str)},pB H0 H es rs->∀{a:Addr},V.ref a∈es->H0 a=none/\∃ys,H a=some (.lst ys)
 |_,_,.nil,_,h=>by cases h
 |_,_,.cons ⟨b,e,n,h⟩ r,a,ha=>by
  rcases aeh.mp ha with q|q
  ·subst e;cases q;exact⟨n,_,h⟩
  ·exact pB.has r q
def YT:List Nat:=("a7ZbXq9KwM":Str).cps.toList
theorem nX{a b:Str}(h1:bA a)(h2:bA b):bA (a++b):=λc hc=>by
 rw[app_list]at hc
 rcases aej.mp hc with q|q
 ·exact h1 c q
 ·exact h2 c q
theorem jm{a b:String}(h:bC (Str.ofString a) (Str.ofString b)=false):Str.ofString a≠Str.ofString b:=λe=>by rw[e,br]at h;cases h
theorem SV{p q f:Str}{b1 b2 b3 b4:Bool}{w u k w' u':Str}{c:Nat}(h:bw p q f b1 b2 b3 b4 w u c=.go k w' u'):(k=Str.ofString "end"/\w'=Str.ofString "row"/\u'='d')\/(k≠Str.ofString "end"/\(w'=Str.ofString "row"->k=Str.ofString "skip"/\w=("row":Str))):=by
 have n1:Str.ofString "skip"≠Str.ofString "end":=jm 'b'
 have n2:Str.ofString "put"≠Str.ofString "end":=jm 'b'
 have n3:Str.ofString "part"≠Str.ofString "end":=jm 'b'
 have m1:Str.ofString "freed"≠Str.ofString "row":=jm 'b'
 have m2:Str.ofString "within"≠Str.ofString "row":=jm 'b'
 have m3:Str.ofString "cell"≠Str.ofString "row":=jm 'b'
 have m4:Str.ofString "plain"≠Str.ofString "row":=jm 'b'
 have m5:Str.ofString "behind"≠Str.ofString "row":=jm 'b'
 have m6:Str.ofString "doubt"≠Str.ofString "row":=jm 'b'
 have hB:cU p b3 c=.go k w' u'->(k=Str.ofString "end"/\w'=Str.ofString "row"/\u'='d')\/(k≠Str.ofString "end"/\(w'=Str.ofString "row"->k=Str.ofString "skip"/\w=("row":Str))):=by
  intro h
  unfold cU at h
  repeat' split at h
  all_goals first
   | (cases h;done)
   | (cases h;exact .inl ⟨rfl,rfl,rfl⟩)
   | (cases h;exact .inr ⟨by assumption,λz=>absurd z (by assumption)⟩)
   | (cases h;exact .inr ⟨by assumption,λz=>⟨rfl,z⟩⟩)
 unfold bw at h
 split at h
 ·unfold dS at h
  repeat' split at h
  all_goals first
   | (cases h;done)
   | (cases h;exact .inl ⟨rfl,rfl,rfl⟩)
   | (cases h;exact .inr ⟨by assumption,λz=>absurd z (by assumption)⟩)
   | (cases h;exact .inr ⟨by assumption,λz=>⟨rfl,z⟩⟩)
 split at h
 ·unfold gE eO at h
  repeat' split at h
  all_goals first
   | (cases h;done)
   | (cases h;exact .inl ⟨rfl,rfl,rfl⟩)
   | (cases h;exact .inr ⟨by assumption,λz=>absurd z (by assumption)⟩)
   | (cases h;exact .inr ⟨by assumption,λz=>⟨rfl,z⟩⟩)
 split at h
 ·unfold kY at h
  split at h
  ·cases h;exact .inr ⟨n2,λz=>absurd z m2⟩
  ·exact hB h
 split at h
 ·exact hB h
 unfold pU at h
 split at h
 ·unfold iK at h
  repeat' split at h
  all_goals first
   | (cases h;done)
   | (cases h;exact .inl ⟨rfl,rfl,rfl⟩)
   | (cases h;exact .inr ⟨by assumption,λz=>absurd z (by assumption)⟩)
   | (cases h;exact .inr ⟨by assumption,λz=>⟨rfl,z⟩⟩)
 ·unfold iJ at h
  repeat' split at h
  all_goals first
   | (cases h;done)
   | (cases h;exact .inl ⟨rfl,rfl,rfl⟩)
   | (cases h;exact .inr ⟨by assumption,λz=>absurd z (by assumption)⟩)
   | (cases h;exact .inr ⟨by assumption,λz=>⟨rfl,z⟩⟩)
theorem Jh{p q f:Str}{b1 b2 b3 b4:Bool}{ds:List Nat}:∀{cs:List Nat}{w u:Str},(runM p q f b1 b2 b3 b4 w u cs).2.2.2=none->runM p q f b1 b2 b3 b4 w u (cs++ds)=Jb (runM p q f b1 b2 b3 b4 w u cs).1 (runM p q f b1 b2 b3 b4 (runM p q f b1 b2 b3 b4 w u cs).2.1 (runM p q f b1 b2 b3 b4 w u cs).2.2.1 ds)
 |[],w,u,_=>by
  show runM p q f b1 b2 b3 b4 w u ds=([]++(runM p q f b1 b2 b3 b4 w u ds).1,(runM p q f b1 b2 b3 b4 w u ds).2)
  rw[afw]
 |c::cs,w,u,h=>by
  show runM p q f b1 b2 b3 b4 w u (c::(cs++ds))=_
  cases hs:bw p q f b1 b2 b3 b4 w u c with
  |go k w' u' =>
   rw[iL hs]at h
   have e:=Jh (cs:=cs) (w:=w') (u:=u') (ds:=ds) h
   rw[iL hs,iL hs,e]
   rfl
  |lU e=>rw[qW hs]at h;cases h
theorem VM(g:Gx)(c:Nat):Jd g c ("end":Str)=⟨g.rows++[g.row++[g.cell]],[],'d'⟩:=by
 unfold Jd
 rw[ad5 (ns 'b'),ad5 (ns 'b'),aee (br _)]
theorem SW(g:Gx)(c:Nat):Jd g c ("skip":Str)=g:=by
 unfold Jd
 rw[ad5 (ns 'b'),ad5 (ns 'b'),ad5 (ns 'b')]
theorem EV{p q f:Str}{b1 b2 b3 b4:Bool}:∀{cs:List Nat}{w u:Str}{g:Gx},(w=Str.ofString "row"->g.row=[]/\g.cell='d')->(runM p q f b1 b2 b3 b4 w u cs).2.2.2=none->(runM p q f b1 b2 b3 b4 w u cs).2.1=Str.ofString "row"->(qX g cs (runM p q f b1 b2 b3 b4 w u cs).1).row=[]/\(qX g cs (runM p q f b1 b2 b3 b4 w u cs).1).cell='d'
 |[],w,u,g,hg,_,hr=>hg hr
 |c::cs,w,u,g,hg,hn,hr=>by
  cases hs:bw p q f b1 b2 b3 b4 w u c with
  |go k w' u' =>
   rw[iL hs]at hn hr⊢
   show(qX (Jd g c k) cs _).row=[]/\(qX (Jd g c k) cs _).cell=_
   refine EV (cs:=cs) (w:=w') (u:=u') (λhw=>?_) hn hr
   rcases SV hs with ⟨rfl,_,_⟩|⟨_,h2⟩
   ·rw[VM];exact⟨rfl,rfl⟩
   ·obtain⟨rfl,hw0⟩:=h2 hw
    rw[SW];exact hg hw0
  |lU e=>rw[qW hs]at hn;cases hn
theorem Y0{w u:Str}(h:zB w u=true):w=Str.ofString "row"/\u='d':=by
 unfold zB qt qt qt at h
 simp[Bd]at h
 exact h
theorem Y3{p q f:Str}{b1 b2 b3 b4:Bool}{w u:Str}{cs:List Nat}(h:Gw (runM p q f b1 b2 b3 b4 w u cs)='d'):(runM p q f b1 b2 b3 b4 w u cs).2.2.2=none/\(runM p q f b1 b2 b3 b4 w u cs).2.1=Str.ofString "row"/\(runM p q f b1 b2 b3 b4 w u cs).2.2.1='d':=by
 unfold Gw at h
 cases he:(runM p q f b1 b2 b3 b4 w u cs).2.2.2 with
 |some e=>rw[he]at h;exact absurd h (Jc he).1
 |none =>
  rw[he]at h
  dsimp only at h
  split at h
  ·rename_i hh;exact⟨rfl,Y0 hh⟩
  ·exact absurd h (jm 'b')
abbrev VN(p q f:Str)(b1 b2 b3 b4:Bool)(z:Str):=runM p q f b1 b2 b3 b4 ("row":Str) 'd' z.cps.toList
theorem VO{r:List Str×Str×Str×Option Str}(h:r.2=(Str.ofString "row",'d',none)):Gw r='d':=by
 unfold Gw
 rw[h]
 exact aee 'b'
def NY(c:Nat):Bool:=decide (c=10\/Pn c)
def textOk(z:Str):Bool:=z.cps.toList.all NY
theorem VP{z:Str}(h:bA z):textOk z=true:=by
 unfold textOk
 rw[aeP]
 exact λc hc=>aeb (h c hc)
def NZ:V->Bool
 | .str z=>decide (z.length<=2000)&&textOk z
 |_=>false
theorem N1{z:Str}(h:bA z):NZ (.str z)=decide ((z.length:Int)<=2000):=by
 show(decide (z.length<=2000)&&textOk z)=_
 rw[VP h,Bool.and_true]
 by_cases c:z.length<=2000
 ·rw[aeb c,aeb (show(z.length:Int)<=2000 by omega)]
 ·rw[aeg c,aeg (show ¬(z.length:Int)<=2000 by omega)]
inductive VQ(H:Hp):V->Prop where
 |str (z:Str):VQ H (.str z)
 |non:VQ H .non
 |bl (b:Bool):VQ H (.bl b)
 |int (n:Int):VQ H (.int n)
 |lst {a:Addr}{xs:List V}:H a=some (.lst xs)->xs.all eg=true->VQ H (.ref a)
 |tup {a:Addr}{xs:List V}:H a=some (.tup xs)->xs.all eg=true->VQ H (.ref a)
 |dic {a:Addr}{xs:List (Key×V)}:H a=some (.dK xs)->True->VQ H (.ref a)
theorem VR{v:V}(h:NZ v=true):∃z,v=.str z/\bA z/\z.length<=2000:=by
 cases v with
 |str z =>
  have h:(decide (z.length<=2000)&&textOk z)=true:=h
  rw[ae7]at h
  refine⟨z,O,λc hc=>?_,aez h.1⟩
  exact aez (aeP.mp h.2 c hc)
 |_=>cases h
theorem join_list(zs:List Str):(Txt.join 'd' zs).cps.toList=zs.flatMap (λz=>z.cps.toList):=by
 have ee:'d'.cps.toList=[]:=by decide +kernel
 show(Builtin.Str.glued 'd' zs).cps.toList=_
 rw[StrLaws.glued_eq_join]
 induction zs with
 |nil=>exact ee
 |cons c cs ih =>
  cases cs with
  |nil =>
   show c.cps.toList=_
   simp
  |cons d cs =>
   show(c++'d'++Str.join 'd' (d::cs)).cps.toList=_
   rw[app_list,app_list,ee,aeD,ih]
   simp[afU]
theorem vM{a b:Str}(h:a.cps.toList=b.cps.toList):a=b:=by
 cases a;cases b
 congr 1
 exact Array.toList_inj.mp h
theorem SX{a b:Int}(h:decide (V.int a=V.int b)=true):a=b:=by have:=aez h;cases this;rfl
theorem SY{α:Type}[DecidableEq α]{r r':List α}(h:r.length=r'.length):((List.range r.length).all λj=>decide (r[j]?=r'[j]?))=decide (r=r'):=by
 rw[aeS,aeP,aeO]
 constructor
 ·intro q
  refine List.ext_getElem? λi=>?_
  by_cases hi:i<r.length
  ·exact aez (q i (List.mem_range.mpr hi))
  ·rw[afe 'f',afe 'f']
 ·rintro rfl i _
  exact aeb rfl
theorem VS(z z':Str):Bd (.str z) (.str z')=decide (z=z'):=by
 show(z==z')=_
 rw[aeS,beq_iff_eq,aeO]
theorem VT{K:W.Frag}{H:Hp}{a b:Addr}{r r':List Str}(ha:H a=some (.lst (r.map V.str)))(hb:H b=some (.lst (r'.map V.str))):xU K H 1 (.ref a) (.ref b) (decide (r=r')):=by
 by_cases hne:a=b
 ·subst hne
  rw[ha]at hb
  have e:r=r':=by
   have:=HO.lst.inj (aes hb)
   exact(List.map_inj_right (λx y h=>V.str.inj h)).mp this
  rw[aeb e]
  exact .same
 by_cases hl:r.length=r'.length
 ·rw[←SY hl]
  have e:r.length=(r.map V.str).length:=(aec _).symm
  rw[e]
  refine xU.lst hne (aT.of ha) (aT.of hb) (by rw[aec,aec,hl]) λj x y ex ey=>?_
  obtain⟨z,hz,rfl⟩:=Gy ex
  obtain⟨z',hz',rfl⟩:=Gy ey
  have e2:decide (r[j]?=r'[j]?)=Bd (.str z) (.str z'):=by
   rw[hz,hz',VS,aeS,aeO,aeO]
   exact⟨λq=>aes q,λq=>by rw[q]⟩
  rw[e2]
  exact .flat rfl rfl
 ·rw[aeg (λq=>hl (by rw[q]))]
  exact xU.len hne (aT.of ha) (aT.of hb) (by rw[aec,aec];exact hl)
theorem N2{K:W.Frag}{A B H:Hp}{la lb:Addr}{es ds:List V}{T T':List (List Str)}(ha:H la=some (.lst es))(hb:H lb=some (.lst ds))(h1:pB A H es T)(h2:pB B H ds T'):TopC K H (.ref la) (.ref lb) (decide (T=T')):=by
 have l1:=h1.length
 have l2:=h2.length
 by_cases hl:T.length=T'.length
 ·rw[←SY hl,←l1]
  refine TopC.lst (n:=1) 'c' (aT.of ha) (aT.of hb) 'f' λj x y ex ey=>?_
  obtain⟨r,hr,a,rfl,_,ha⟩:=aN h1 j x ex
  obtain⟨r',hr',b,rfl,_,hb⟩:=aN h2 j y ey
  have e2:decide (T[j]?=T'[j]?)=decide (r=r'):=by
   rw[hr,hr',aeS,aeO,aeO]
   exact⟨λq=>aes q,λq=>by rw[q]⟩
  rw[e2]
  exact VT ha hb
 ·rw[aeg (λq=>hl (by rw[q]))]
  exact TopC.len (aT.of ha) (aT.of hb) 'f'
def S0(r:List Str×Str×Str×Option Str)(z:Str):Option (List (List Str)):=if Gw r='d' then some (Jf z r.1) else none
def RdV(A H:Hp)(v:V):Option (List (List Str))->Prop
 |none=>v=.non
 |some T=>∃l es,v=.ref l/\A l=none/\H l=some (.lst es)/\pB A H es T
theorem abh{K:W.Frag}{A B H:Hp}{v w:V}{o o':Option (List (List Str))}{Q:VK}(h1:RdV A H v o)(h2:RdV B H w o')(q:Q (.bl (!decide (o=o'))) H):rNe v w H Q\/(Yr K v w H Q\/aaZ K v w H Q):=by
 cases o with
 |none =>
  cases h1
  cases o' with
  |none=>cases h2;rw[aeb rfl]at q;exact .inl ⟨rfl,by rw[aeb rfl];exact q⟩
  |some T =>
   obtain⟨l,es,rfl,_,e3,_⟩:=h2
   rw[aeg (by intro z;cases z)]at q
   exact .inr (.inr ⟨.inl ⟨rfl,l,_,rfl,aT.of e3⟩,q⟩)
 |some T =>
  obtain⟨l,es,rfl,_,e3,e4⟩:=h1
  cases o' with
  |none =>
   cases h2
   rw[aeg (by intro z;cases z)]at q
   exact .inr (.inr ⟨.inr ⟨rfl,l,_,rfl,aT.of e3⟩,q⟩)
  |some T' =>
   obtain⟨l',es',rfl,_,e3',e4'⟩:=h2
   have e:decide (some T=some T')=decide (T=T'):=by
    by_cases h:T=T'
    ·rw[h,aeb rfl,aeb rfl]
    ·rw[aeg h,aeg λz=>h (aes z)]
   rw[e]at q
   exact .inr (.inl ⟨_,N2 e3 e3' e4 e4',q⟩)
def oS(c:Nat)(k:Str):List Str:=if bC k ("put":Str)=true then [sg c] else if bC k ("skip":Str)=true then [] else [k]
structure B4 where
 a:Bool
 b:Bool
 c:Bool
 d:Bool
def B4.vs(b:B4):List V:=[.bl b.a,.bl b.b,.bl b.c,.bl b.d]
abbrev cD:=Str×Str×Str×B4
def Y4(x:cD):List V:=vK x.1 x.2.1 x.2.2.1 x.2.2.2.a x.2.2.2.b x.2.2.2.c x.2.2.2.d
def DK(x:cD):List (Str×V):=zy x.1 x.2.1 x.2.2.1 x.2.2.2.a x.2.2.2.b x.2.2.2.c x.2.2.2.d
abbrev vN(x:cD):Prop:=Gd x.1 x.2.1 x.2.2.1
abbrev Y5(H:Hp):List V->List cD->Prop:=Paired λe x=>∃t,e=V.ref t/\H t=some (.tup (Y4 x))
theorem Y5.mono{H H':Hp}(s:aE H H'):∀{es:List V}{xs:List cD},Y5 H es xs->Y5 H' es xs
 |_,_,.nil=>.nil
 |_,_,.cons ⟨t,e,h⟩ r=>.cons ⟨t,e,s _ _ h⟩ (Y5.mono s r)
abbrev Gz(C:Addr)(H:Hp):List V->List cD->Prop:=Paired λe x=>∃y dy,e=V.ref y/\H y=some (.ins C dy (DK x))
theorem Gz.mono{C:Addr}{H H':Hp}(s:aE H H'):∀{es:List V}{xs:List cD},Gz C H es xs->Gz C H' es xs
 |_,_,.nil=>.nil
 |_,_,.cons ⟨y,dy,e,h⟩ r=>.cons ⟨y,dy,e,s _ _ h⟩ (Gz.mono s r)
def runC(x:cD)(z:Str):List Str×Str×Str×Option Str:=runM x.1 x.2.1 x.2.2.1 x.2.2.2.a x.2.2.2.b x.2.2.2.c x.2.2.2.d ("row":Str) 'd' z.cps.toList
theorem zD{α β:Type}{F:α->β->Prop}:∀{xs:List α}{ys:List β}(n:Nat),Paired F xs ys->Paired F (xs.take n) (ys.take n)
 |_,_,0,_=>.nil
 |_,_,_+1,.nil=>.nil
 |_,_,n+1,.cons r t=>.cons r (zD n t)
theorem LG{H H1 H':Hp}{ea d:Addr}{o:HO}(s:aE H H1)(Dz:H1 ea=none)(hd:(upd H1 ea o) d=none)(YT:∀b,b≠ea->b≠d->H' b=upd H1 ea o b):aE H (del H' ea):=λb u hb=>by
 have hb1:=s b u hb
 have n1:b≠ea:=λz=>by rw[z,Dz]at hb1;cases hb1
 have n2:b≠d:=λz=>by rw[←z,az n1,hb1]at hd;cases hd
 rw[Gq n1,YT b n1 n2,az n1];exact hb1
theorem EW{n:Nat}(h:n<=2000):((n:Int)).natAbs.log2<1920:=by
 rw[Int.natAbs_natCast]
 by_cases hz:n=0
 ·subst hz;decide
 ·exact(Nat.log2_lt hz).mpr (aeu (show n<2 ^ 11 by omega) (Nat.pow_le_pow_right 'c' 'c'))
def bW:List Str->Str
 |[]=>Str.ofString ""
 |z::r=>z++bW r
theorem S3(z:Str):Str.ofString ""++z=z:=vM (by rw[app_list,sQ];rfl)
theorem S4(z:Str):z++Str.ofString ""=z:=vM (by rw[app_list,sQ,aeD])
def lens(r:List Str):List Nat:=r.map λz=>z.length
def total(t:List (List Str)):Nat:=(t.map λr=>(lens r).sum).sum
structure BO(r:List Str):Prop where
 lo:1<=r.length
 hi:r.length<=20
 ok:∀c∈r,bA c
structure TabOk(t:List (List Str)):Prop where
 n:t.length<=60
 rows:∀r∈t,BO r
 sum:total t<=400
theorem N4{ns:List Nat}{n:Nat}(h:n∈ns):n<=ns.sum:=by
 induction ns with
 |nil=>cases h
 |cons m ns ih =>
  rw[ae5]
  rcases aeh.mp h with rfl|h
  ·omega
  ·have:=ih h;omega
theorem vO{t:List (List Str)}{r:List Str}(h:r∈t):(lens r).sum<=total t:=N4 (List.mem_map_of_mem h)
theorem BP{r:List Str}{c:Str}(h:c∈r):c.length<=(lens r).sum:=N4 (List.mem_map_of_mem (f:=λz:Str=>z.length) h)
def bX(H:Hp)(v:V)(r:List Str):Prop:=∃a,v=.ref a/\H a=some (.lst (r.map V.str))
theorem bX.mono{H H':Hp}{v:V}{r:List Str}(s:aE H H')(h:bX H v r):bX H' v r:=let ⟨a,e1,e2⟩:=h;⟨a,e1,s _ _ e2⟩
def qY(z:Str):List (Str×Str):=z.cps.toList.map λk=>(Str.ofString "put",sg k)
def mG:Str×Str:=(Str.ofString "part",'d')
def GA:Str×Str:=(Str.ofString "end",'d')
def jP:List Str->Nat->List (Str×Str)
 |_,0=>[]
 |r,n+1=>jP r n++((if n=0 then [] else [mG])++qY (r.getD n 'd'))
def nE(r:List Str):List (Str×Str):=jP r r.length++[GA]
def aD(t:List (List Str)):List (Str×Str):=t.flatMap nE
theorem kC{r:List Str}{n:Nat}{z:Str}(h:r[n]?=some z):jP r (n+1)=jP r n++((if n=0 then [] else [mG])++qY z):=by
 show jP r n++((if n=0 then [] else [mG])++qY (r.getD n 'd'))=_
 rw[afn,h];rfl
theorem S5(z:Str):(qY z).length=z.length:=by unfold qY;rw[aec,aeq];rfl
theorem BQ(r:List Str):∀n,n<=r.length->(jP r n).length+(if n=0 then 0 else 1)=n+(lens (r.take n)).sum
 | 0,_=>by simp[jP,lens]
 |n+1,h=>by
  have hn:n<r.length:=by omega
  rw[kC (z:=r[n]) (by simp[hn]),aef,aef,S5,aO (c:=r[n]) (by simp[hn])]
  have ih:=BQ r n 'f'
  unfold lens at ih⊢
  rw[aeo,afG]
  simp only[aeJ,List.map_nil,ae5,List.sum_nil]
  by_cases h0:n=0
  ·subst h0;simp[jP];omega
  ·simp[h0]at ih⊢;omega
theorem LH{r:List Str}(h:1<=r.length):(nE r).length=r.length+(lens r).sum:=by
 unfold nE
 have:=BQ r r.length (ad6 _)
 rw[aek (ad6 _),ad5 'f']at this
 rw[aef];show _+1=_;omega
theorem BR{t:List (List Str)}(h:∀r∈t,BO r):(aD t).length=(t.map λr=>r.length+(lens r).sum).sum:=by
 unfold aD
 induction t with
 |nil=>rfl
 |cons r t ih =>
  rw[afU,aef,ih (λr' h'=>h r' (aer _ h')),LH (h r (aew ..)).lo,aeJ,ae5]
theorem O7{t:List (List Str)}(h:∀r∈t,BO r):(t.map λr=>r.length+(lens r).sum).sum<=20*t.length+total t:=by
 unfold total
 induction t with
 |nil=>exact ad6 _
 |cons r t ih =>
  have h1:=(h r (aew ..)).hi
  have h2:=ih λr' h'=>h r' (aer _ h')
  rw[aeJ,ae5,aeJ,ae5,aex]
  omega
theorem vP{t:List (List Str)}(h:TabOk t)(i:Nat):(aD (t.take i)).length<=1600:=by
 have hr:∀r∈t.take i,BO r:=λr hr=>h.rows r (List.mem_of_mem_take hr)
 rw[BR hr]
 have h1:=O7 hr
 have h2:(t.take i).length<=60:=by rw[aey];have:=h.n;omega
 have h3:total (t.take i)<=total t:=by
  unfold total
  have e:=congrArg (λl=>(l.map λr=>(lens r).sum).sum) (afQ i t)
  simp only[aeo,afG]at e
  omega
 have:=h.sum
 omega
theorem mH(t:List (List Str))(r:List Str):aD (t++[r])=aD t++nE r:=by unfold aD;rw[List.flatMap_append];simp
theorem qZ{α β:Type}{F:α->β->Prop}{xs:List α}{ys:List β}{x:α}{y:β}(h:Paired F xs ys)(q:F x y):Paired F (xs++[x]) (ys++[y]):=bM h (.cons q .nil)
theorem LI(t:List (List Str))(r:List Str):total (t++[r])=total t+(lens r).sum:=by unfold total;rw[aeo,afG];simp
theorem O8(r:List Str)(z:Str):(lens (r++[z])).sum=(lens r).sum+z.length:=by unfold lens;rw[aeo,afG];simp
def ff(acc:List Nat)(c:Nat):List Nat:=if away ⟨acc.toArray⟩ c=true then acc++[c] else acc
def cR(l:List Nat):List Nat:=l.foldl ff []
theorem kZ(l:List Nat)(c:Nat):cR (l++[c])=ff (cR l) c:=by unfold cR;rw[aeN];rfl
theorem EX(l:List Nat):(cR l).length<=l.length:=by
 have key:∀(l acc:List Nat),(l.foldl ff acc).length<=acc.length+l.length:=by
  intro l
  induction l with
  |nil=>intro acc;exact ad6 _
  |cons c l ih =>
   intro acc
   rw[aeV,aex]
   have h1:=ih (ff acc c)
   have h2:(ff acc c).length<=acc.length+1:=by
    unfold ff
    split
    ·rw[aef];exact ad6 _
    ·omega
   omega
 have:=key l []
 simpa [cR]using this
def gK(z:Str):Str:=⟨(cR z.cps.toList).toArray⟩
theorem nY(z:Str):(gK z).length<=z.length:=by
 show(cR z.cps.toList).toArray.size<=_
 rw[aed]
 refine aep (EX _) ?_
 rw[aeq];exact ad6 _
def fY(p q f:Str)(b1 b2 b3 b4:Bool)(w u:Str)(c:Nat):Option (Str×Str×Str):=match bw p q f b1 b2 b3 b4 w u c with
 | .go k w' u'=>if cQ f w' u'=true then some (k,w',u') else none
 | .lU _=>none
def lvV(K:W.Frag)(x:Option (Str×Str×Str))(H:Hp)(v:V):Prop:=match x with
 |none=>v=.non
 |some (k,w,u)=>∃a b,v=.ref a/\aX K H a [.str k,.ref b]/\aX K H b [.str w,.str u]
def i9(ts:List (Str×Str))(n:Nat)(k s:Str):Option Nat:=if bC k ("skip":Str)=true then some n else if ts[n]?=some (k,if bC k ("put":Str)=true then s else Str.ofString "") then some (n+1) else none
def acA(x:Option Nat):V:=match x with
 |none=>.non
 |some n=>.int n
abbrev aW:=(Str×Str)×Nat
def dF(K:W.Frag)(H:Hp)(m:aW)(v:V):Prop:=∃b s,v=.ref b/\aX K H b [.ref s,.int m.2]/\aX K H s [.str m.1.1,.str m.1.2]
theorem dF.mono{K:W.Frag}{H H':Hp}{m:aW}{v:V}(e:aE H H')(h:dF K H m v):dF K H' m v:=by
 obtain⟨b,s,e1,e2,e3⟩:=h
 exact⟨b,s,e1,aA e e2,aA e e3⟩
def fh(p q f:Str)(b1 b2 b3 b4:Bool)(ts:List (Str×Str))(m:aW)(c:Nat):Option aW:=match fY p q f b1 b2 b3 b4 m.1.1 m.1.2 c with
 |none=>none
 |some (k,w,u)=>(match i9 ts m.2 k (sg c) with
  |none=>none
  |some n=>some ((w,u),n))
def nF(K:W.Frag)(x:Option aW)(H:Hp)(v:V):Prop:=match x with
 |none=>v=.non
 |some m=>dF K H m v
def Y6(y l:Addr):List (Str×V):=[("turn",.ref y),("tokens",.ref l)]
structure oN(K:W.Frag)(C CT CM:Addr)(H:Hp)(m:Addr)(p q f:Str)(b1 b2 b3 b4:Bool)(ts:List (Str×Str)):Prop where
 ok:∃dm y l ys,H m=some (.ins CM dm (Y6 y l))/\Tn C CT H y p q f b1 b2 b3 b4/\H l=some (.lst ys)/\Paired (dU K H) ys ts
theorem bY{K:W.Frag}{H H':Hp}(s:aE H H'):∀{ys:List V}{ts:List (Str×Str)},Paired (dU K H) ys ts->Paired (dU K H') ys ts
 |_,_,.nil=>.nil
 |_,_,.cons a r=>.cons (a.mono s) (bY s r)
theorem oN.mono{K:W.Frag}{C CT CM:Addr}{H H':Hp}{m:Addr}{p q f:Str}{b1 b2 b3 b4:Bool}{ts:List (Str×Str)}(s:aE H H')(h:oN K C CT CM H m p q f b1 b2 b3 b4 ts):oN K C CT CM H' m p q f b1 b2 b3 b4 ts:=by
 obtain⟨dm,y,l,ys,e1,e2,e3,e4⟩:=h.ok
 exact⟨dm,y,l,ys,s _ _ e1,e2.mono s,s _ _ e3,bY s e4⟩
theorem VU{K:W.Frag}{H:Hp}{m a C dm:Addr}{fs:List (Str×V)}{xs:List V}{o:HO}(hm:H m=some (.ins C dm fs))(h:aX K H a xs):aX K (upd H m o) a xs:=by
 rcases h with (h|⟨ob,h⟩)|h
 ·exact .inl (.inl ((az (dP h hm (by intro z;cases z))).trans h))
 ·exact .inl (.inr ⟨ob,(az (dP h hm (by intro z;cases z))).trans h⟩)
 ·exact .inr h
theorem gM{K:W.Frag}{H:Hp}{m C dm:Addr}{fs:List (Str×V)}{o:HO}(hm:H m=some (.ins C dm fs)):∀{ys:List V}{ts:List (Str×Str)},Paired (dU K H) ys ts->Paired (dU K (upd H m o)) ys ts
 |_,_,.nil=>.nil
 |_,_,.cons ⟨a,e1,e2⟩ r=>.cons ⟨a,e1,VU hm e2⟩ (gM hm r)
theorem Tn.off{C CT:Addr}{H:Hp}{y m:Addr}{p q f:Str}{b1 b2 b3 b4:Bool}{o o':HO}(hm:H m=some o')(n1:∀d fs,o'≠.ins CT d (tfl fs))(n2:∀d,o'≠.ins C d (zy p q f b1 b2 b3 b4))(h:Tn C CT H y p q f b1 b2 b3 b4):Tn C CT (upd H m o) y p q f b1 b2 b3 b4:=by
 obtain⟨dy,d,dd,e1,e2⟩:=h.ok
 exact⟨dy,d,dd,(az (λq=>by rw[q,hm]at e1;exact n1 _ _ (aes e1))).trans e1,(az (λq=>by rw[q,hm]at e2;exact n2 _ (aes e2))).trans e2⟩
theorem oN.off{K:W.Frag}{C CT CM CW:Addr}{H:Hp}{m z dz:Addr}{fs:List (Str×V)}{p q f:Str}{b1 b2 b3 b4:Bool}{ts:List (Str×Str)}{o:HO}(hz:H z=some (.ins CW dz fs))(n0:∀y l,fs≠Y6 y l)(n1:∀d,fs≠tfl d)(n2:fs≠zy p q f b1 b2 b3 b4)(h:oN K C CT CM H m p q f b1 b2 b3 b4 ts):oN K C CT CM (upd H z o) m p q f b1 b2 b3 b4 ts:=by
 obtain⟨dm,y,l,ys,e1,e2,e3,e4⟩:=h.ok
 refine⟨dm,y,l,ys,(az (λq=>?_)).trans e1,Tn.off hz (λd fs q=>?_) (λd q=>?_) e2,(az (λq=>by rw[q,hz]at e3;cases e3)).trans e3,gM hz e4⟩
 ·rw[q,hz]at e1;injection e1 with e1;injection e1 with a b c;exact n0 _ _ c
 ·injection q with a b c;exact n1 _ c
 ·injection q with a b c;exact n2 c
theorem ie{H:Hp}{x dx:Addr}{o:HO}(hx:H x=none)(hdx:H dx=none):aE H (upd (upd H dx (.own x)) x o):=λb o' e=>by
 rw[az (aV e hx),az (aV e hdx)];exact e
def wfl(m l:Addr)(z:Str):List (Str×V):=[("marker",.ref m),("tokens",.ref l),("usual",.str z)]
def QU(p q f:Str):Str:=gK ((p++q)++f)++Str.ofString "\n"++Str.ofString " "
structure Y7(K:W.Frag)(C CT CM CW:Addr)(H:Hp)(x:Addr)(p q f:Str)(b1 b2 b3 b4:Bool)(ts:List (Str×Str)):Prop where
 ok:∃dx m l ys,H x=some (.ins CW dx (wfl m l (QU p q f)))/\oN K C CT CM H m p q f b1 b2 b3 b4 ts/\H l=some (.lst ys)/\Paired (dU K H) ys ts
theorem Y7.mono{K:W.Frag}{C CT CM CW:Addr}{H H':Hp}{x:Addr}{p q f:Str}{b1 b2 b3 b4:Bool}{ts:List (Str×Str)}(s:aE H H')(h:Y7 K C CT CM CW H x p q f b1 b2 b3 b4 ts):Y7 K C CT CM CW H' x p q f b1 b2 b3 b4 ts:=by
 obtain⟨dx,m,l,ys,e1,e2,e3,e4⟩:=h.ok
 exact⟨dx,m,l,ys,s _ _ e1,e2.mono s,s _ _ e3,bY s e4⟩
def di(p q f:Str)(b1 b2 b3 b4:Bool)(ts:List (Str×Str))(m:aW):List (Nat×aW):=match ts[m.2]? with
 |none=>[]
 |some t=>(gK (QU p q f++t.2)).cps.toList.filterMap λc=>(fh p q f b1 b2 b3 b4 ts m c).map λm'=>(c,m')
theorem dF.but{K:W.Frag}{H:Hp}{m:aW}{v:V}{l:Addr}{ws:List V}{o:HO}(hl:H l=some (.lst ws))(h:dF K H m v):dF K (upd H l o) m v:=by
 obtain⟨b,s,e1,e2,e3⟩:=h
 exact⟨b,s,e1,fO hl e2,fO hl e3⟩
theorem nF.mono{K:W.Frag}{x:Option aW}{H H':Hp}{v:V}(s:aE H H')(h:nF K x H v):nF K x H' v:=by
 cases x with
 |none=>exact h
 |some m=>exact dF.mono s h
theorem nF.but{K:W.Frag}{x:Option aW}{H:Hp}{v:V}{l:Addr}{ws:List V}{o:HO}(hl:H l=some (.lst ws))(h:nF K x H v):nF K x (upd H l o) v:=by
 cases x with
 |none=>exact h
 |some m=>exact dF.but hl h
abbrev Ah(K:W.Frag)(F:Nat->Option aW)(H:Hp):List V->List Nat->Prop:=Paired λv c=>∃t w,v=.ref t/\H t=some (.tup [.str (sg c),w])/\nF K (F c) H w
theorem Ah.mono{K:W.Frag}{F:Nat->Option aW}{H H':Hp}(s:aE H H'):∀{vs:List V}{cs:List Nat},Ah K F H vs cs->Ah K F H' vs cs
 |_,_,.nil=>.nil
 |_,_,.cons ⟨t,w,e,h,q⟩ r=>.cons ⟨t,w,e,s _ _ h,nF.mono s q⟩ (Ah.mono s r)
theorem Ah.but{K:W.Frag}{F:Nat->Option aW}{H:Hp}{l:Addr}{ws:List V}{o:HO}(hl:H l=some (.lst ws)):∀{vs:List V}{cs:List Nat},Ah K F H vs cs->Ah K F (upd H l o) vs cs
 |_,_,.nil=>.nil
 |_,_,.cons ⟨t,w,e,h,q⟩ r=>.cons ⟨t,w,e,(az (dP h hl (by intro z;cases z))).trans h,nF.but hl q⟩ (Ah.but hl r)
abbrev ri(K:W.Frag)(H:Hp):List V->List (Nat×aW)->Prop:=Paired λv e=>∃t w,v=.ref t/\H t=some (.tup [.str (sg e.1),w])/\dF K H e.2 w
theorem ri.mono{K:W.Frag}{H H':Hp}(s:aE H H'):∀{vs:List V}{es:List (Nat×aW)},ri K H vs es->ri K H' vs es
 |_,_,.nil=>.nil
 |_,_,.cons ⟨t,w,e,h,q⟩ r=>.cons ⟨t,w,e,s _ _ h,q.mono s⟩ (ri.mono s r)
theorem ri.but{K:W.Frag}{H:Hp}{l:Addr}{ws:List V}{o:HO}(hl:H l=some (.lst ws)):∀{vs:List V}{es:List (Nat×aW)},ri K H vs es->ri K (upd H l o) vs es
 |_,_,.nil=>.nil
 |_,_,.cons ⟨t,w,e,h,q⟩ r=>.cons ⟨t,w,e,(az (dP h hl (by intro z;cases z))).trans h,q.but hl⟩ (ri.but hl r)
abbrev Cm:=List (aW×Option (aW×Nat))
def dO(cm:Cm)(m:aW):Bool:=cm.any λe=>decide (e.1=m)
def iy(p:aW)(acc:Cm×List aW)(e:Nat×aW):Cm×List aW:=if dO acc.1 e.2=true then acc else (acc.1++[(e.2,some (p,e.1))],acc.2++[e.2])
def lW(led:aW->List (Nat×aW))(acc:Cm×List aW)(p:aW):Cm×List aW:=(led p).foldl (iy p) acc
def expand(led:aW->List (Nat×aW))(cm:Cm)(aJ:List aW):Cm×List aW:=aJ.foldl (lW led) (cm,[])
inductive BS(good:aW->Bool)(led:aW->List (Nat×aW)):Cm->List aW->Option aW->Cm->Prop where
 |stop {cm:Cm}:BS good led cm [] none cm
 |found {cm:Cm}{aJ:List aW}{m:aW}:aJ.find? good=some m->BS good led cm aJ (some m) cm
 |go {cm sR:Cm}{aJ:List aW}{r:Option aW}:aJ≠[]->aJ.find? good=none->BS good led (expand led cm aJ).1 (expand led cm aJ).2 r sR->BS good led cm aJ r sR
def vQ(K:W.Frag)(x:Option (aW×Nat))(H:Hp)(v:V):Prop:=match x with
 |none=>v=.non
 |some (m,c)=>∃t w,v=.ref t/\aX K H t [w,.str (sg c)]/\dF K H m w
abbrev GB(K:W.Frag)(H:Hp):List (N3 (Lf⊕List Lf))->Cm->Prop:=Paired λe p=>e.1=cA p.1/\dF K H p.1 (.ref e.2.1)/\vQ K p.2 H e.2.2
structure eV(P:Program)(w:World)(K:W.Frag)(H:Hp)(a:Addr)(cm:Cm):Prop where
 ok:∃kvs,Nd (YM P w K) (bI P w) H a kvs/\GB K H kvs cm
theorem dF.keep{K:W.Frag}{H H':Hp}{m:aW}{v:V}(t:∀b xs,aX K H b xs->aX K H' b xs)(h:dF K H m v):dF K H' m v:=by
 obtain⟨b,s,e1,e2,e3⟩:=h
 exact⟨b,s,e1,t _ _ e2,t _ _ e3⟩
theorem vQ.keep{K:W.Frag}{H H':Hp}{x:Option (aW×Nat)}{v:V}(t:∀b xs,aX K H b xs->aX K H' b xs)(h:vQ K x H v):vQ K x H' v:=by
 cases x with
 |none=>exact h
 |some mc=>obtain⟨t1,w1,e1,e2,e3⟩:=h;exact⟨t1,w1,e1,t _ _ e2,e3.keep t⟩
theorem GB.keep{K:W.Frag}{H H':Hp}(t:∀b xs,aX K H b xs->aX K H' b xs):∀{kvs:List (N3 (Lf⊕List Lf))}{cm:Cm},GB K H kvs cm->GB K H' kvs cm
 |_,_,.nil=>.nil
 |_,_,.cons a r=>.cons ⟨a.1,a.2.1.keep t,a.2.2.keep t⟩ (GB.keep t r)
theorem eV.mono{P:Program}{w:World}{K:W.Frag}{H H':Hp}{a:Addr}{cm:Cm}(s:aE H H')(h:eV P w K H a cm):eV P w K H' a cm:=by
 obtain⟨kvs,d,r⟩:=h.ok
 exact⟨kvs,d.mono s,r.keep λb xs q=>aA s q⟩
theorem eV.but{P:Program}{w:World}{K:W.Frag}{H:Hp}{a l:Addr}{cm:Cm}{ws:List V}{o:HO}(hl:H l=some (.lst ws))(h:eV P w K H a cm):eV P w K (upd H l o) a cm:=by
 obtain⟨kvs,d,r⟩:=h.ok
 have t:∀b xs,aX K H b xs->aX K (upd H l o) b xs:=λb xs q=>fO hl q
 exact⟨kvs,⟨(az (dP d.ob hl (λq=>nomatch q))).trans d.ob,λe he=>(d.keys e he).keep t⟩,r.keep t⟩
theorem BU{K:W.Frag}{H:Hp}{m:aW}:∀{kvs:List (N3 (Lf⊕List Lf))}{cm:Cm},GB K H kvs cm->(valN kvs (cA m)).isSome=dO cm m
 |_,_,.nil=>rfl
 |e::kvs,p::cm,.cons a r=>by
  have ih:=BU (m:=m) r
  unfold valN dO at ih⊢
  rw[ae4,List.any_cons,a.1]
  by_cases q:p.1=m
  ·rw[aeb q,aeb (by rw[q])];rfl
  ·rw[aeg q,aeg (λz=>q (nV.mp z)),Bool.false_or];exact ih
theorem Ji{K:W.Frag}{H:Hp}{kvs:List (N3 (Lf⊕List Lf))}{cm:Cm}(h:GB K H kvs cm):kvs.length=cm.length:=afm h
theorem vR{cm:Cm}{m:aW}:dO cm m=true↔m∈cm.map (·.1):=by
 unfold dO
 rw[afO,aeR]
 constructor
 ·rintro⟨e,he,q⟩;exact⟨e,he,aez q⟩
 ·rintro⟨e,he,q⟩;exact⟨e,he,aeb q⟩
structure Xr(U:List aW)(cm:Cm):Prop where
 nd:(cm.map (·.1)).Nodup
 sub:∀m∈cm.map (·.1),m∈U
theorem Xr.len{U:List aW}{cm:Cm}(h:Xr U cm):cm.length<=U.length:=by
 have:=List.Nodup.length_le_of_subset h.nd (λm hm=>h.sub m hm)
 rw[aec]at this
 exact this
theorem VV{U:List aW}{p:aW}{acc:Cm×List aW}{e:Nat×aW}(h:Xr U acc.1)(he:e.2∈U):Xr U (iy p acc e).1:=by
 unfold iy
 by_cases q:dO acc.1 e.2=true
 ·rw[aee q];exact h
 ·rw[ad5 q]
  refine⟨?_,λm hm=>?_⟩
  ·rw[aeo,List.nodup_append]
   refine⟨h.nd,by simp,λa ha b hb z=>q (vR.mpr ?_)⟩
   rw[ad7.mp hb]at z
   have z:a=e.2:=z
   rw[z]at ha;exact ha
  ·rw[aeo]at hm
   rcases aej.mp hm with hm|hm
   ·exact h.sub m hm
   ·rw[ad7.mp hm];exact he
theorem S6(p:aW)(acc:Cm×List aW)(e:Nat×aW):(iy p acc e).1.length+acc.2.length=acc.1.length+(iy p acc e).2.length:=by
 unfold iy
 split
 ·rfl
 ·rw[aef,aef];show acc.1.length+1+_=_+(_+1);omega
theorem Nd.one{P:Program}{w:World}{K:W.Frag}{H:Hp}{a b:Addr}{k:List (Lf⊕List Lf)}{v:V}(h:H a=some (dN (ZM P w) (bI P w) a []))(e:oX (YM P w K) H k b):Nd (YM P w K) (bI P w) (upd H a (dN (ZM P w) (bI P w) a [(k,b,v)])) a [(k,b,v)]:=by
 refine⟨ai,λp hp=>?_⟩
 rw[ad7.mp hp]
 exact e.keep (jK h)
theorem eV.one{P:Program}{w:World}{K:W.Frag}{H:Hp}{a b:Addr}{m:aW}(h:H a=some (dN (ZM P w) (bI P w) a []))(hm:dF K H m (.ref b)):eV P w K (upd H a (dN (ZM P w) (bI P w) a [(cA m,b,.non)])) a [(m,none)]:=by
 obtain⟨b',s,e1,e2,e3⟩:=hm
 cases e1
 have t:=jK (F:=K) h (o:=dN (ZM P w) (bI P w) a [(cA m,b,.non)])
 exact⟨_,Nd.one h (iC e2 e3),.cons ⟨O,⟨b,s,O,t _ _ e2,t _ _ e3⟩,O⟩ .nil⟩
theorem eV.put{P:Program}{w:World}{K:W.Frag}{H:Hp}{a b:Addr}{m:aW}{cm:Cm}{kvs:List (N3 (Lf⊕List Lf))}{x:Option (aW×Nat)}{v:V}(d:Nd (YM P w K) (bI P w) H a kvs)(r:GB K H kvs cm)(hm:dF K H m (.ref b))(hn:dO cm m=false)(hv:vQ K x H v):eV P w K (upd H a (dN (ZM P w) (bI P w) a (putN kvs (cA m) b v))) a (cm++[(m,x)]):=by
 obtain⟨b',s,e1,e2,e3⟩:=id hm
 cases e1
 have t:=jK (F:=K) d.ob (o:=dN (ZM P w) (bI P w) a (putN kvs (cA m) b v))
 refine⟨_,d.put (iC e2 e3),?_⟩
 have q:=BU (m:=m) r
 rw[hn]at q
 have hv0:valN kvs (cA m)=none:=by
  cases z:valN kvs (cA m) with
  |none=>rfl
  |some y=>rw[z]at q;cases q
 rw[nU hv0]
 rw[nU hv0]at t
 exact bM (r.keep t) (.cons ⟨rfl,hm.keep t,hv.keep t⟩ .nil)
theorem ri.keep{K:W.Frag}{H H':Hp}(t1:∀b xs,H b=some (.tup xs)->H' b=some (.tup xs))(t:∀b xs,aX K H b xs->aX K H' b xs):∀{vs:List V}{es:List (Nat×aW)},ri K H vs es->ri K H' vs es
 |_,_,.nil=>.nil
 |_,_,.cons ⟨x,w,e,h,q⟩ r=>.cons ⟨x,w,e,t1 _ _ h,q.keep t⟩ (ri.keep t1 t r)
abbrev BV(K:W.Frag)(H:Hp):List V->List aW->Prop:=Paired λv m=>dF K H m v
theorem BV.keep{K:W.Frag}{H H':Hp}(t:∀b xs,aX K H b xs->aX K H' b xs):∀{vs:List V}{ms:List aW},BV K H vs ms->BV K H' vs ms
 |_,_,.nil=>.nil
 |_,_,.cons a r=>.cons (a.keep t) (BV.keep t r)
theorem VW{α:Type}{f:α->Bool}{l:List α}{i:Nat}{m:α}(hi:l[i]?=some m)(hg:f m=true)(hb:∀m'∈l.take i,f m'=false):l.find? f=some m:=by
 have e:l=l.take i++m::l.drop (i+1):=by
  obtain⟨h1,h2⟩:=ad8.mp hi
  rw[←h2,←afC h1,afQ]
 rw[e,afV,afr.mpr (λx hx=>by rw[hb x hx];decide),ae4,hg]
 rfl
theorem VX{α:Type}{f:α->Bool}{l:List α}(hb:∀m'∈l,f m'=false):l.find? f=none:=afr.mpr λx hx=>by rw[hb x hx];decide
theorem BW{p:aW}:∀(es:List (Nat×aW))(acc:Cm×List aW),(es.foldl (iy p) acc).1.length+acc.2.length=acc.1.length+(es.foldl (iy p) acc).2.length
 |[],_=>rfl
 |e::es,acc=>by
  have h1:=S6 p acc e
  have h2:=BW (p:=p) es (iy p acc e)
  rw[aeV];omega
theorem vS{led:aW->List (Nat×aW)}:∀(ms:List aW)(acc:Cm×List aW),(ms.foldl (lW led) acc).1.length+acc.2.length=acc.1.length+(ms.foldl (lW led) acc).2.length
 |[],_=>rfl
 |m::ms,acc=>by
  have h1:=BW (p:=m) (led m) acc
  have h2:=vS (led:=led) ms (lW led acc m)
  rw[aeV]
  unfold lW at h2⊢
  omega
def m0:aW:=((Str.ofString "row",'d'),0)
def KQ(ts:List (Str×Str))(m:aW):Bool:=decide (m=((Str.ofString "row",'d'),ts.length))
def BX(cm:Cm)(m:aW):Option (Option (aW×Nat)):=(cm.find? λe=>decide (e.1=m)).map (·.2)
inductive vU(cm:Cm):Option (aW×Nat)->List Nat->Prop where
 |nil:vU cm none []
 |cons {m:aW}{c:Nat}{x:Option (aW×Nat)}{r:List Nat}:BX cm m=some x->vU cm x r->vU cm (some (m,c)) (c::r)
theorem BY{K:W.Frag}{H:Hp}{m:aW}{x:Option (aW×Nat)}:∀{kvs:List (N3 (Lf⊕List Lf))}{cm:Cm},GB K H kvs cm->BX cm m=some x->∃v,valN kvs (cA m)=some v/\vQ K x H v
 |_,_,.nil,h=>by cases h
 |e::kvs,p::cm,.cons a r,h=>by
  unfold BX at h
  unfold valN
  rw[ae4]at h⊢
  rw[a.1]
  by_cases q:p.1=m
  ·rw[aeb q]at h
   rw[aeb (by rw[q])]
   cases h
   exact⟨_,O,a.2.2⟩
  ·rw[aeg q]at h
   rw[aeg (λz=>q (nV.mp z))]
   exact BY r h
theorem GC:∀(xs:List Nat),((xs.map sg).map (·.length)).sum=xs.length
 |[]=>rfl
 |x::xs=>by rw[aeJ,aeJ,ae5,GC xs,Ye,aex];omega
inductive fP(led:aW->List (Nat×aW))(a:aW):List Nat->aW->Prop where
 |nil:fP led a [] a
 |snoc {xs:List Nat}{p q:aW}{c:Nat}:fP led a xs p->(c,q)∈led p->fP led a (xs++[c]) q
theorem BZ{cm l:Cm}{m:aW}{x:Option (aW×Nat)}(h:BX cm m=some x):BX (cm++l) m=some x:=by
 unfold BX at h⊢
 rw[afV]
 cases e:cm.find? λe=>decide (e.1=m) with
 |none=>rw[e]at h;cases h
 |some y=>rw[e]at h;exact h
theorem S7{cm:Cm}{m:aW}{x:Option (aW×Nat)}(h:dO cm m=false):BX (cm++[(m,x)]) m=some x:=by
 unfold BX
 rw[afV,afr.mpr,ae4,aeb rfl]
 ·rfl
 ·intro e he q
  have z:dO cm m=true:=afO.mpr ⟨e,he,q⟩
  rw[h]at z;cases z
theorem vU.app{cm l:Cm}{x:Option (aW×Nat)}{xs:List Nat}(h:vU cm x xs):vU (cm++l) x xs:=by
 induction h with
 |nil=>exact .nil
 |cons e _ ih=>exact .cons (BZ e) ih
theorem rj{cm l:Cm}{m:aW}:dO (cm++l) m=(dO cm m||dO l m):=List.any_append ..
theorem k6{m q:aW}{x:Option (aW×Nat)}:dO [(q,x)] m=true↔m=q:=by
 unfold dO
 rw[List.any_cons,List.any_nil,Bool.or_false]
 exact⟨λh=>(aez h).symm,λh=>aeb h.symm⟩
def jB(led:aW->List (Nat×aW))(a:aW)(cm:Cm)(m:aW)(n:Nat):Prop:=∃x xs,BX cm m=some x/\vU cm x xs/\fP led a xs.reverse m/\xs.length=n
theorem jB.app{led:aW->List (Nat×aW)}{a m:aW}{cm l:Cm}{n:Nat}(h:jB led a cm m n):jB led a (cm++l) m n:=by
 obtain⟨x,xs,h1,h2,h3,h4⟩:=h
 exact⟨x,xs,BZ h1,h2.app,h3,h4⟩
section
variable{good:aW->Bool}{led:aW->List (Nat×aW)}{a:aW}
structure Mid(led:aW->List (Nat×aW))(a:aW)(cm:Cm)(k:Nat)(acc:Cm×List aW):Prop where
 pre:∃l,acc.1=cm++l
 told:∀m,dO acc.1 m=true->∃n,n<=k+1/\jB led a acc.1 m n
 new:∀m∈acc.2,jB led a acc.1 m (k+1)/\dO acc.1 m=true
 old:∀m,dO acc.1 m=true->dO cm m=true\/m∈acc.2
theorem Mid.vis{cm:Cm}{k:Nat}{acc:Cm×List aW}{p:aW}{e:Nat×aW}(h:Mid led a cm k acc)(hp:jB led a acc.1 p k)(he:e∈led p):Mid led a cm k (iy p acc e)/\dO (iy p acc e).1 e.2=true/\(∃l,(iy p acc e).1=acc.1++l):=by
 unfold iy
 cases hh:dO acc.1 e.2 with
 |true=>rw[aee rfl];exact⟨h,hh,[],(aeD _).symm⟩
 |false =>
  rw[ad5 'c']
  obtain⟨x,xs,h1,h2,h3,h4⟩:=hp
  have hnew:jB led a (acc.1++[(e.2,some (p,e.1))]) e.2 (k+1):=by
   refine⟨some (p,e.1),e.1::xs,S7 hh,.cons (BZ h1) h2.app,?_,by rw[aex,h4]⟩
   rw[afT]
   exact .snoc h3 he
  have hhas:dO (acc.1++[(e.2,some (p,e.1))]) e.2=true:=by rw[rj,k6.mpr rfl,Bool.or_true]
  refine⟨⟨?_,λm hm=>?_,λm hm=>?_,λm hm=>?_⟩,hhas,_,O⟩
  ·obtain⟨l,q⟩:=h.pre
   exact⟨l++[(e.2,some (p,e.1))],by show acc.1++_=_;rw[q,aeC]⟩
  ·have hm:dO (acc.1++[(e.2,some (p,e.1))]) m=true:=hm
   rw[rj,Bool.or_eq_true]at hm
   rcases hm with z|z
   ·obtain⟨n,hn,t⟩:=h.told m z
    exact⟨n,hn,t.app⟩
   ·rw[k6]at z;subst z
    exact⟨_,ad6 _,hnew⟩
  ·rcases aej.mp hm with z|z
   ·obtain⟨t,u⟩:=h.new m z
    exact⟨t.app,by show dO (acc.1++_) m=true;rw[rj,u];rfl⟩
   ·rw[ad7.mp z];exact⟨hnew,hhas⟩
  ·have hm:dO (acc.1++[(e.2,some (p,e.1))]) m=true:=hm
   rw[rj,Bool.or_eq_true]at hm
   rcases hm with z|z
   ·rcases h.old m z with y|y
    ·exact .inl y
    ·exact .inr (aeX _ y)
   ·rw[k6]at z;subst z
    exact .inr (aeI _ (ad7.mpr rfl))
theorem vV{cm l:Cm}{m:aW}(h:dO cm m=true):dO (cm++l) m=true:=by rw[rj,h];rfl
theorem Mid.S8{cm:Cm}{k:Nat}{p:aW}:∀{es:List (Nat×aW)}{acc:Cm×List aW},Mid led a cm k acc->jB led a acc.1 p k->(∀e∈es,e∈led p)->Mid led a cm k (es.foldl (iy p) acc)/\(∀e∈es,dO (es.foldl (iy p) acc).1 e.2=true)/\∃l,(es.foldl (iy p) acc).1=acc.1++l
 |[],acc,h,_,_=>⟨h,(λ_ z=>nomatch z),[],(aeD _).symm⟩
 |e::es,acc,h,hp,he=>by
  obtain⟨h1,h2,l,h3⟩:=h.vis hp (he e (aew ..))
  have hp1:jB led a (iy p acc e).1 p k:=by rw[h3];exact hp.app
  obtain⟨g1,g2,l',g3⟩:=Mid.S8 h1 hp1 λe' z=>he e' (aer _ z)
  rw[aeV]
  refine⟨g1,λe' z=>?_,l++l',by rw[g3,h3,aeC]⟩
  rcases aeh.mp z with y|y
  ·subst y;rw[g3];exact vV h2
  ·exact g2 e' y
theorem Mid.S9{cm:Cm}{k:Nat}:∀{ms:List aW}{acc:Cm×List aW},Mid led a cm k acc->(∀p∈ms,jB led a acc.1 p k)->Mid led a cm k (ms.foldl (lW led) acc)/\(∀p∈ms,∀e∈led p,dO (ms.foldl (lW led) acc).1 e.2=true)/\∃l,(ms.foldl (lW led) acc).1=acc.1++l
 |[],acc,h,_=>⟨h,(λ_ z=>nomatch z),[],(aeD _).symm⟩
 |p::ms,acc,h,hp=>by
  obtain⟨h1,h2,l,h3⟩:=h.S8 (p:=p) (es:=led p) (hp p (aew ..)) λe z=>z
  have h1:Mid led a cm k (lW led acc p):=h1
  have h3:(lW led acc p).1=acc.1++l:=h3
  have h2:∀e∈led p,dO (lW led acc p).1 e.2=true:=h2
  obtain⟨g1,g2,l',g3⟩:=Mid.S9 h1 λp' z=>by rw[h3];exact(hp p' (aer _ z)).app
  rw[aeV]
  refine⟨g1,λp' z e' ze=>?_,l++l',by rw[g3,h3,aeC]⟩
  rcases aeh.mp z with y|y
  ·subst y;rw[g3];exact vV (h2 e' ze)
  ·exact g2 p' y e' ze
structure Tc(good:aW->Bool)(led:aW->List (Nat×aW))(a:aW)(cm:Cm)(aJ:List aW)(k:Nat):Prop where
 told:∀m,dO cm m=true->∃n,n<=k/\jB led a cm m n
 edg:∀m∈aJ,jB led a cm m k/\dO cm m=true
 all:∀ys m,fP led a ys m->ys.length<=k->dO cm m=true
 shut:∀p,dO cm p=true->p∉aJ->∀e∈led p,dO cm e.2=true
 bad:∀p,dO cm p=true->p∉aJ->good p=false
 less:∀ys m,fP led a ys m->ys.length<k->good m=false
theorem Tc.go{cm:Cm}{aJ:List aW}{k:Nat}(h:Tc good led a cm aJ k)(hf:aJ.find? good=none):Tc good led a (expand led cm aJ).1 (expand led cm aJ).2 (k+1):=by
 have hm:Mid led a cm k (cm,[]):=⟨⟨[],(aeD _).symm⟩,λm hm=>by obtain⟨n,hn,t⟩:=h.told m hm;exact⟨n,by omega,t⟩,(λ_ z=>nomatch z),λm hm=>.inl hm⟩
 obtain⟨g1,g2,l,g3⟩:=hm.S9 (ms:=aJ) λp hp=>(h.edg p hp).1
 have hno:∀m∈aJ,good m=false:=λm hm=>by
  have:=afr.mp hf m hm
  cases e:good m with
  |true=>exact absurd e this
  |false=>rfl
 have hbad:∀p,dO cm p=true->good p=false:=λp hp=>by
  by_cases q:p∈aJ
  ·exact hno p q
  ·exact h.bad p hp q
 have Jj:∀p,dO cm p=true->∀e∈led p,dO (expand led cm aJ).1 e.2=true:=λp hp e he=>by
  by_cases q:p∈aJ
  ·exact g2 p q e he
  ·unfold expand;rw[g3];exact vV (h.shut p hp q e he)
 refine⟨g1.told,g1.new,λys m hw hl=>?_,λp hp hq e he=>?_,λp hp hq=>?_,λys m hw hl=>?_⟩
 ·cases hw with
  |nil=>unfold expand;rw[g3];exact vV (h.all [] a .nil (aeA _))
  |@snoc xs p q c hw1 he =>
   rw[aef]at hl
   exact Jj p (h.all xs p hw1 (by simpa using hl)) _ he
 ·rcases g1.old p hp with z|z
  ·exact Jj p z e he
  ·exact absurd z hq
 ·rcases g1.old p hp with z|z
  ·exact hbad p z
  ·exact absurd z hq
 ·exact hbad m (h.all ys m hw 'f')
theorem Tc.zero:Tc good led a [(a,none)] [a] 0:=by
 have hv:jB led a [(a,none)] a 0:=⟨none,[],by unfold BX;rw[ae4,aeb rfl];rfl,.nil,.nil,rfl⟩
 have ha:dO [(a,none)] a=true:=k6.mpr rfl
 refine⟨λm hm=>?_,λm hm=>?_,λys m hw hl=>?_,λp hp hq=>?_,λp hp hq=>?_,λys m hw hl=>absurd hl (Nat.not_lt_zero _)⟩
 ·rw[k6.mp hm];exact⟨0,ad6 _,hv⟩
 ·rw[ad7.mp hm];exact⟨hv,ha⟩
 ·cases hw with
  |nil=>exact ha
  |snoc _ _=>rw[aef]at hl;simp at hl
 ·exact absurd (ad7.mpr (k6.mp hp)) hq
 ·exact absurd (ad7.mpr (k6.mp hp)) hq
def abi(good:aW->Bool)(led:aW->List (Nat×aW))(a:aW)(sR:Cm)(r:Option aW):Prop :=
 match r with
 |some m=>good m=true/\∃n,jB led a sR m n/\∀ys m',fP led a ys m'->good m'=true->n<=ys.length
 |none=>(∀m,dO sR m=true->∃n,jB led a sR m n)/\∀ys m',fP led a ys m'->dO sR m'=true/\good m'=false
theorem Tc.run{cm sR:Cm}{aJ:List aW}{r:Option aW}(h:BS good led cm aJ r sR):∀{k:Nat},Tc good led a cm aJ k->abi good led a sR r:=by
 induction h with
 |stop =>
  rename_i cm
  intro k L
  have hw:∀ys m',fP led a ys m'->dO cm m'=true:=λys m' hw=>by
   induction hw with
   |nil=>exact L.all [] a .nil (aeA _)
   |snoc _ he ih=>exact L.shut _ ih (λz=>nomatch z) _ he
  exact⟨λm hm=>by obtain⟨n,_,t⟩:=L.told m hm;exact⟨n,t⟩,λys m' q=>⟨hw ys m' q,L.bad m' (hw ys m' q) λz=>nomatch z⟩⟩
 |found hf =>
  intro k L
  have hm:=List.mem_of_find?_eq_some hf
  refine⟨List.find?_some hf,k,(L.edg _ hm).1,λys m' hw hg=>?_⟩
  cases Nat.lt_or_ge ys.length k with
  |inl z=>rw[L.less ys m' hw z]at hg;cases hg
  |inr z=>exact z
 |go _ hf _ ih=>intro k L;exact ih (L.go hf)
theorem VY{cm:Cm}{r:Option aW}(h:BS good led [(a,none)] [a] r cm):abi good led a cm r:=Tc.run h Tc.zero
end
structure UOk(p q f:Str)(b1 b2 b3 b4:Bool)(ts:List (Str×Str))(U:List aW):Prop where
 len:U.length<=100000
 one:m0∈U
 shut:∀m∈U,m.2<ts.length->∀e∈di p q f b1 b2 b3 b4 ts m,e.2∈U
 good:∀m∈U,m.2<ts.length\/KQ ts m=true
theorem O9{z:Str}:∀t∈qY z,t.2.length<=1:=λt ht=>by
 obtain⟨k,_,rfl⟩:=aeR.mp ht
 exact ad6 _
theorem Td{r:List Str}:∀{n:Nat},∀t∈jP r n,t.2.length<=1
 | 0,t,ht=>nomatch ht
 |n+1,t,ht=>by
  rcases aej.mp ht with z|z
  ·exact Td t z
  ·rcases aej.mp z with y|y
   ·split at y
    ·cases y
    ·rw[ad7.mp y];exact aeA _
   ·exact O9 t y
theorem Te{t:List (List Str)}:∀x∈aD t,x.2.length<=1:=λx hx=>by
 obtain⟨r,_,h⟩:=afl.mp hx
 rcases aej.mp h with z|z
 ·exact Td x z
 ·rw[ad7.mp z];exact aeA _
def Shp(p q f u:Str)(c:Nat)(k w' u':Str):Prop :=
 (k=Str.ofString "skip"/\(oM c f=true\/oM c q=true\/bC (sg c) u=true\/bC (sg c) (" ":Str)=true))\/(k=Str.ofString "end"/\bC (sg c) (Str.ofString "\n")=true/\w'=Str.ofString "row"/\u'='d')\/(k=Str.ofString "part"/\oM c p=true)\/k=("put":Str)
theorem B0{p q f:Str}{b1 b2 b3 b4:Bool}{w u k w' u':Str}{c:Nat}(h:bw p q f b1 b2 b3 b4 w u c=.go k w' u'):Shp p q f u c k w' u':=by
 have hB:cU p b3 c=.go k w' u'->Shp p q f u c k w' u':=by
  intro h
  unfold cU at h
  repeat' split at h
  all_goals first
   | (cases h;done)
   | (cases h;exact .inr (.inl ⟨rfl,by assumption,rfl,rfl⟩))
   | (cases h;exact .inr (.inr (.inl ⟨rfl,by assumption⟩)))
   | (cases h;exact .inl ⟨rfl,.inr (.inr (.inr (by assumption)))⟩)
 unfold bw at h
 split at h
 ·unfold dS at h
  repeat' split at h
  all_goals first
   | (cases h;done)
   | (cases h;exact .inr (.inr (.inr rfl)))
   | (cases h;exact .inl ⟨rfl,.inl (by assumption)⟩)
   | (cases h;exact .inl ⟨rfl,.inr (.inr (.inl (by assumption)))⟩)
 split at h
 ·unfold gE eO at h
  repeat' split at h
  all_goals first
   | (cases h;done)
   | (cases h;exact .inr (.inr (.inr rfl)))
 split at h
 ·unfold kY at h
  split at h
  ·cases h;exact .inr (.inr (.inr rfl))
  ·exact hB h
 split at h
 ·exact hB h
 unfold pU at h
 split at h
 ·unfold iK at h
  repeat' split at h
  all_goals first
   | (cases h;done)
   | (cases h;exact .inr (.inr (.inr rfl)))
   | (cases h;exact .inr (.inl ⟨rfl,by assumption,rfl,rfl⟩))
   | (cases h;exact .inr (.inr (.inl ⟨rfl,by assumption⟩)))
   | (cases h;exact .inl ⟨rfl,.inl (by assumption)⟩)
 ·unfold iJ at h
  repeat' split at h
  all_goals first
   | (cases h;done)
   | (cases h;exact .inr (.inr (.inr rfl)))
   | (cases h;exact .inr (.inl ⟨rfl,by assumption,rfl,rfl⟩))
   | (cases h;exact .inr (.inr (.inl ⟨rfl,by assumption⟩)))
   | (cases h;exact .inl ⟨rfl,.inl (by assumption)⟩)
   | (cases h;exact .inl ⟨rfl,.inr (.inl (by assumption))⟩)
   | (cases h;exact .inl ⟨rfl,.inr (.inr (.inr (by assumption)))⟩)
theorem Pa:¬Str.ofString "skip"=("end":Str):=jm 'b'
theorem Tf:¬Str.ofString "put"=("end":Str):=jm 'b'
theorem Pb:¬Str.ofString "part"=("end":Str):=jm 'b'
theorem EY{p q f:Str}{b1 b2 b3 b4:Bool}{w u w' u':Str}{c:Nat}(h:bw p q f b1 b2 b3 b4 w u c=.go ("end":Str) w' u'):(w',u')=(Str.ofString "row",'d'):=by
 rcases B0 h with ⟨z,_⟩|⟨_,_,e1,e2⟩|⟨z,_⟩|z
 ·exact absurd z.symm Pa
 ·rw[e1,e2]
 ·exact absurd z.symm Pb
 ·exact absurd z.symm Tf
def VZ(q:Str):List (Str×Str):=[(Str.ofString "row",'d'),(Str.ofString "cell",'d'),(Str.ofString "plain",'d'),(Str.ofString "behind",'d'),(Str.ofString "freed",'d')]++q.cps.toList.flatMap λc=>[(Str.ofString "within",sg c),(Str.ofString "doubt",sg c),(Str.ofString "freed",sg c)]
theorem LJ{q w u:Str}(h:i8 q w u):(w,u)∈VZ q:=by
 unfold VZ
 rcases h with ⟨rfl,rfl|rfl|rfl|rfl|rfl⟩|⟨d,hd,rfl,rfl|rfl|rfl⟩
 ·exact aeX _ (by simp)
 ·exact aeX _ (by simp)
 ·exact aeX _ (by simp)
 ·exact aeX _ (by simp)
 ·exact aeX _ (by simp)
 ·exact aeI _ (afl.mpr ⟨d,hd,by simp⟩)
 ·exact aeI _ (afl.mpr ⟨d,hd,by simp⟩)
 ·exact aeI _ (afl.mpr ⟨d,hd,by simp⟩)
theorem Y8{q:Str}{s:Str×Str}(h:s∈VZ q):i8 q s.1 s.2:=by
 unfold VZ at h
 rcases aej.mp h with z|z
 ·simp only[aeh,List.not_mem_nil,afk]at z
  rcases z with rfl|rfl|rfl|rfl|rfl
  ·exact .inl ⟨rfl,.inl rfl⟩
  ·exact .inl ⟨rfl,.inr (.inl rfl)⟩
  ·exact .inl ⟨rfl,.inr (.inr (.inl rfl))⟩
  ·exact .inl ⟨rfl,.inr (.inr (.inr (.inl rfl)))⟩
  ·exact .inl ⟨rfl,.inr (.inr (.inr (.inr rfl)))⟩
 ·obtain⟨d,hd,y⟩:=afl.mp z
  simp only[aeh,List.not_mem_nil,afk]at y
  rcases y with rfl|rfl|rfl
  ·exact .inr ⟨d,hd,rfl,.inl rfl⟩
  ·exact .inr ⟨d,hd,rfl,.inr (.inl rfl)⟩
  ·exact .inr ⟨d,hd,rfl,.inr (.inr rfl)⟩
theorem N5{p q f:Str}(g:Gd p q f):(VZ q).length<=11:=by
 have e:∀l:List Nat,(l.flatMap λc=>[(Str.ofString "within",sg c),(Str.ofString "doubt",sg c),(Str.ofString "freed",sg c)]).length=3*l.length:=by
  intro l
  induction l with
  |nil=>rfl
  |cons a l ih=>rw[afU,aef,ih];show 3+3*l.length=3*(l.length+1);omega
 unfold VZ
 rw[aef,e]
 have:q.cps.toList.length<=2:=by rw[aeq];exact g.q2
 show 5+_<=11
 omega
def vW(ts:List (Str×Str)):Prop:=∀n,n+1=ts.length->ts[n]?=some GA
theorem Jk{p q f:Str}{b1 b2 b3 b4:Bool}{ts:List (Str×Str)}{m m':aW}{c:Nat}(he:vW ts)(hm:m.2<ts.length)(h:fh p q f b1 b2 b3 b4 ts m c=some m')(hq:i8 q m.1.1 m.1.2):i8 q m'.1.1 m'.1.2/\(m'.2<ts.length\/m'=((Str.ofString "row",'d'),ts.length)):=by
 unfold fh fY at h
 cases hs:bw p q f b1 b2 b3 b4 m.1.1 m.1.2 c with
 |lU e=>rw[hs]at h;cases h
 |go k w u =>
  rw[hs]at h
  dsimp only at h
  by_cases hl:cQ f w u=true
  ·rw[aee hl]at h
   dsimp only at h
   cases hc:i9 ts m.2 k (sg c) with
   |none=>rw[hc]at h;cases h
   |some n =>
    rw[hc]at h
    cases h
    refine⟨iM hq hs,?_⟩
    unfold i9 at hc
    by_cases hsk:bC k ("skip":Str)=true
    ·rw[aee hsk]at hc;cases hc;exact .inl hm
    ·rw[ad5 hsk]at hc
     by_cases ht:ts[m.2]?=some (k,if bC k ("put":Str)=true then sg c else Str.ofString "")
     ·rw[aee ht]at hc
      cases hc
      by_cases hz:m.2+1=ts.length
      ·have e:=he _ hz
       rw[e]at ht
       have hk:k=("end":Str):=by injection ht with ht;exact(congrArg Prod.fst ht).symm
       rw[hk]at hs
       have:=EY hs
       exact .inr (by show((w,u),m.2+1)=_;rw[this,hz])
      ·exact .inl (by show m.2+1<_;omega)
     ·rw[ad5 ht]at hc;cases hc
  ·rw[ad5 hl]at h;cases h
def uL(q:Str)(ts:List (Str×Str)):List aW:=((Str.ofString "row",'d'),ts.length)::(VZ q).flatMap λs=>(List.range ts.length).map λn=>(s,n)
theorem GD{q:Str}{ts:List (Str×Str)}{m:aW}:m∈uL q ts↔m=((Str.ofString "row",'d'),ts.length)\/(m.1∈VZ q/\m.2<ts.length):=by
 unfold uL
 rw[aeh,afl]
 constructor
 ·rintro(e|⟨s,hs,h⟩)
  ·exact .inl e
  ·obtain⟨n,hn,rfl⟩:=aeR.mp h
   exact .inr ⟨hs,List.mem_range.mp hn⟩
 ·rintro(e|⟨h1,h2⟩)
  ·exact .inl e
  ·exact .inr ⟨m.1,h1,aeR.mpr ⟨m.2,List.mem_range.mpr h2,rfl⟩⟩
theorem Tg{p q f:Str}(g:Gd p q f)(ts:List (Str×Str)):(uL q ts).length<=1+11*ts.length:=by
 have e:∀l:List (Str×Str),(l.flatMap λs=>(List.range ts.length).map λn=>(s,n)).length=l.length*ts.length:=by
  intro l
  induction l with
  |nil=>simp
  |cons a l ih=>rw[afU,aef,ih,aex,aec,List.length_range,Nat.succ_mul];omega
 unfold uL
 rw[aex,e]
 have:=Nat.mul_le_mul_right ts.length (N5 g)
 omega
theorem GF{p q f:Str}{b1 b2 b3 b4:Bool}{ts:List (Str×Str)}{m:aW}{e:Nat×aW}(h:e∈di p q f b1 b2 b3 b4 ts m):fh p q f b1 b2 b3 b4 ts m e.1=some e.2:=by
 unfold di at h
 split at h
 ·cases h
 ·obtain⟨c,_,hc⟩:=afj.mp h
  cases hm:fh p q f b1 b2 b3 b4 ts m c with
  |none=>rw[hm]at hc;cases hc
  |some m'=>rw[hm]at hc;cases hc;exact hm
theorem uok{p q f:Str}{b1 b2 b3 b4:Bool}{ts:List (Str×Str)}(g:Gd p q f)(he:vW ts)(hl:ts.length<=9000):UOk p q f b1 b2 b3 b4 ts (uL q ts):=by
 refine⟨aep (Tg g ts) 'f',?_,λm hm hlt e hE=>?_,λm hm=>?_⟩
 ·rw[GD]
  cases ts with
  |nil=>exact .inl rfl
  |cons a l=>exact .inr ⟨LJ (.inl ⟨rfl,.inl rfl⟩),Nat.zero_lt_succ _⟩
 ·have hs:i8 q m.1.1 m.1.2:=by
   rcases GD.mp hm with z|z
   ·rw[z]at hlt;exact absurd hlt (afR _)
   ·exact Y8 z.1
  obtain⟨h1,h2⟩:=Jk he hlt (GF hE) hs
  rw[GD]
  rcases h2 with z|z
  ·exact .inr ⟨LJ h1,z⟩
  ·exact .inl z
 ·rcases GD.mp hm with z|z
  ·exact .inr (aeb z)
  ·exact .inl z.2
theorem Bg{a b:Nat}(h:sg a=sg b):a=b:=by
 have e:(sg a).cps.toList=(sg b).cps.toList:=by rw[h]
 exact(List.cons.inj e).1
theorem sS{c:Nat}:∀(l:List Nat)(acc:List Nat),c∈l.foldl ff acc↔c∈acc\/c∈l
 |[],acc=>by simp
 |a::l,acc=>by
  rw[aeV,sS l]
  unfold ff
  by_cases h:away ⟨acc.toArray⟩ a=true
  ·rw[aee h,aej,ad7,aeh,or_assoc]
  ·rw[ad5 h]
   have ha:a∈acc:=by
    by_cases z:a∈acc
    ·exact z
    ·exact absurd ((kU _ _).mpr (by simpa using z)) h
   rw[aeh]
   constructor
   ·rintro(z|z)
    ·exact .inl z
    ·exact .inr (.inr z)
   ·rintro(z|z|z)
    ·exact .inl z
    ·subst z;exact .inl ha
    ·exact .inr z
theorem yh{c:Nat}{z:Str}:c∈(gK z).cps.toList↔c∈z.cps.toList:=by
 show c∈(cR z.cps.toList).toArray.toList↔_
 unfold cR
 rw[show((z.cps.toList.foldl ff []).toArray).toList=z.cps.toList.foldl ff []from rfl,sS]
 simp
theorem Th{p q f:Str}{c:Nat}:c∈(QU p q f).cps.toList↔c∈p.cps.toList\/c∈q.cps.toList\/c∈f.cps.toList\/c=10\/c=32:=by
 unfold QU
 rw[app_list,app_list,aej,aej,yh,app_list,app_list,aej,aej]
 have e1:(Str.ofString "\n").cps.toList=[10]:=by decide +kernel
 have e2:(" ":Str).cps.toList=[32]:=by decide +kernel
 rw[e1,e2,ad7,ad7]
 simp only[or_assoc]
def DL:List Str->List Nat->List (Str×Str)
 |k::ks,c::cs=>(if bC k ("skip":Str)=true then [] else [(k,if bC k ("put":Str)=true then sg c else Str.ofString "")])++DL ks cs
 |_,_=>[]
theorem abj{c:Nat}(h:bC (sg c) (Str.ofString "\n")=true):c=10:=Bg ((kW h).trans 'b')
theorem abk{c:Nat}(h:bC (sg c) (" ":Str)=true):c=32:=Bg ((kW h).trans 'b')
theorem tried{p q f:Str}{b1 b2 b3 b4:Bool}{ts:List (Str×Str)}{w u k w' u':Str}{c n n':Nat}(hq:i8 q w u)(hs:bw p q f b1 b2 b3 b4 w u c=.go k w' u')(hl:cQ f w' u'=true)(hn:n<ts.length)(hc:i9 ts n k (sg c)=some n'):(c,((w',u'),n'))∈di p q f b1 b2 b3 b4 ts ((w,u),n):=by
 have hm:fh p q f b1 b2 b3 b4 ts ((w,u),n) c=some ((w',u'),n'):=by
  unfold fh fY
  dsimp only
  rw[hs]
  dsimp only
  rw[aee hl]
  dsimp only
  rw[hc]
 unfold di
 obtain⟨t,ht⟩:∃t,ts[n]?=some t:=⟨ts[n],aeB hn⟩
 dsimp only
 rw[ht]
 refine afj.mpr ⟨c,?_,by rw[hm];rfl⟩
 rw[yh,app_list,aej,Th]
 rcases B0 hs with ⟨e,z⟩|⟨e,z,_⟩|⟨e,z⟩|e
 ·rcases z with z|z|z|z
  ·exact .inl (.inr (.inr (.inl (SR z))))
  ·exact .inl (.inr (.inl (SR z)))
  ·rcases hq with ⟨rfl,_⟩|⟨d,hd,rfl,_⟩
   ·exact absurd z (zC c)
   ·rw[Bg (kW z)];exact .inl (.inr (.inl hd))
  ·exact .inl (.inr (.inr (.inr (.inr (abk z)))))
 ·exact .inl (.inr (.inr (.inr (.inl (abj z)))))
 ·exact .inl (.inl (SR z))
 ·subst e
  unfold i9 at hc
  rw[ad5 (ns 'b'),aee (br _),ht]at hc
  by_cases e:some t=some (Str.ofString "put",sg c)
  ·injection e with e
   right
   rw[e]
   exact ad7.mpr rfl
  ·rw[ad5 e]at hc;cases hc
theorem EZ{p q f:Str}{b1 b2 b3 b4:Bool}{w u k w' u':Str}{c:Nat}(h:i8 q w u)(hl:cQ f w u=false)(hs:bw p q f b1 b2 b3 b4 w u c=.go k w' u'):cQ f w' u'=false:=by
 have key:∀{d:Nat}{w:Str},(w=Str.ofString "within"\/w=("freed":Str))->oM d f=true->cQ f w (sg d)=false:=by
  intro d w hw hd
  unfold cQ
  have e:nin (sg d) f=!(oM d f):=rfl
  rcases hw with rfl|rfl
  ·rw[ad5 (zC d),ad5 (ns 'b'),e,hd];rfl
  ·rw[ad5 (zC d),ad5 (ns 'b'),e,hd];rfl
 have hdf:∀{d:Nat}{w:Str},cQ f w (sg d)=false->oM d f=true:=by
  intro d w hl
  unfold cQ at hl
  rw[ad5 (zC d)]at hl
  split at hl
  ·cases hl
  ·have e:nin (sg d) f=!(oM d f):=rfl
   rw[e]at hl
   cases hx:oM d f with
   |true=>rfl
   |false=>rw[hx]at hl;cases hl
 rcases h with ⟨rfl,_⟩|⟨d,hd,rfl,rfl|rfl|rfl⟩
 ·unfold cQ at hl;rw[aee (br _)]at hl;cases hl
 ·have hf:=hdf hl
  rw[yf (br _)]at hs
  unfold dS at hs
  by_cases hcf:oM c f=true
  ·rw[aee hcf]at hs;cases hs;exact key (.inr rfl) hf
  ·rw[ad5 hcf]at hs
   have hcd:¬bC (sg c) (sg d)=true:=λz=>by rw[Bg (kW z)]at hcf;exact hcf hf
   rw[ad5 hcd]at hs
   repeat' split at hs
   all_goals first
    | (cases hs;done)
    | (cases hs;exact key (.inl rfl) hf)
 ·unfold cQ at hl;rw[ad5 (zC d),aee (br _)]at hl;cases hl
 ·have hf:=hdf hl
  rw[vL (br _)]at hs
  unfold gE eO at hs
  rw[ad5 (zC d)]at hs
  repeat' split at hs
  all_goals first
   | (cases hs;done)
   | (cases hs;exact key (.inl rfl) hf)
theorem vX(f:Str):cQ f ("row":Str) 'd'=true:=by unfold cQ;rw[aee (br _)]
theorem Jl{p q f:Str}{b1 b2 b3 b4:Bool}:∀{cs:List Nat}{w u:Str},i8 q w u->cQ f w u=false->(runM p q f b1 b2 b3 b4 w u cs).2≠(Str.ofString "row",'d',none)
 |[],w,u,_,hl=>λe=>by
  have e:(w,u,(none:Option Str))=(Str.ofString "row",'d',none):=e
  injection e with e1 e2
  injection e2 with e2 _
  rw[e1,e2,vX]at hl
  cases hl
 |c::cs,w,u,h,hl=>by
  unfold runM
  cases hs:bw p q f b1 b2 b3 b4 w u c with
  |lU e=>dsimp only;intro z;injection z with _ z;injection z with _ z;cases z
  |go k w' u'=>exact Jl (iM h hs) (EZ h hl hs)
theorem Jm{p q f:Str}{b1 b2 b3 b4:Bool}{ts:List (Str×Str)}{a:aW}(he:vW ts):∀{cs:List Nat}{w u:Str}{n:Nat}{pre:List Nat},i8 q w u->fP (di p q f b1 b2 b3 b4 ts) a pre ((w,u),n)->n<=ts.length->(n=ts.length->(w,u)=(Str.ofString "row",'d'))->(runM p q f b1 b2 b3 b4 w u cs).2=(Str.ofString "row",'d',none)->ts.drop n=DL (runM p q f b1 b2 b3 b4 w u cs).1 cs->∃ds,ds.length<=cs.length/\fP (di p q f b1 b2 b3 b4 ts) a (pre++ds) ((Str.ofString "row",'d'),ts.length):=by
 intro cs
 induction cs with
 |nil =>
  intro w u n pre hq hw hn hr _ ht
  have e:n=ts.length:=by
   have:(ts.drop n).length=0:=by rw[ht];rfl
   rw[List.length_drop]at this
   omega
  have hr:=hr e
  rw[e,hr]at hw
  exact⟨[],ad6 _,by rw[aeD];exact hw⟩
 |cons c cs ih =>
  intro w u n pre hq hw hn hr pC ht
  by_cases e:n=ts.length
  ·have hr:=hr e
   rw[e,hr]at hw
   exact⟨[],aeA _,by rw[aeD];exact hw⟩
  have hlt:n<ts.length:=by omega
  unfold runM at pC ht
  cases hs:bw p q f b1 b2 b3 b4 w u c with
  |lU e=>rw[hs]at pC;dsimp only at pC;injection pC with _ z;injection z with _ z;cases z
  |go k w' u' =>
   rw[hs]at pC ht
   dsimp only at pC ht
   have hl:cQ f w' u'=true:=by
    cases z:cQ f w' u' with
    |true=>rfl
    |false=>exact absurd pC (Jl (iM hq hs) z)
   unfold DL at ht
   by_cases hk:bC k ("skip":Str)=true
   ·rw[aee hk,afw]at ht
    have hc:i9 ts n k (sg c)=some n:=by unfold i9;rw[aee hk]
    obtain⟨ds,h1,h2⟩:=ih (iM hq hs) (.snoc hw (tried hq hs hl hlt hc)) hn (λz=>absurd z e) pC ht
    exact⟨c::ds,Nat.succ_le_succ h1,by rw[aeC]at h2;exact h2⟩
   ·rw[ad5 hk]at ht
    have hx:ts[n]?=some (k,if bC k ("put":Str)=true then sg c else Str.ofString ""):=by
     have:=congrArg List.head? ht
     rw[List.head?_drop]at this
     exact this
    have hd:ts.drop (n+1)=DL (runM p q f b1 b2 b3 b4 w' u' cs).1 cs:=by
     have:=congrArg List.tail ht
     rw[List.tail_drop]at this
     exact this
    have hc:i9 ts n k (sg c)=some (n+1):=by unfold i9;rw[ad5 hk,aee hx]
    have acB:n+1=ts.length->(w',u')=(Str.ofString "row",'d'):=λz=>by
     have e1:=he n z
     rw[hx]at e1
     have hk:k=("end":Str):=by injection e1 with e1;exact congrArg Prod.fst e1
     rw[hk]at hs
     exact EY hs
    obtain⟨ds,h1,h2⟩:=ih (iM hq hs) (.snoc hw (tried hq hs hl hlt hc)) hlt acB pC hd
    exact⟨c::ds,Nat.succ_le_succ h1,by rw[aeC]at h2;exact h2⟩
theorem N6:∀{ks:List Str}{cs:List Nat}{ks':List Str}{cs':List Nat},ks.length=cs.length->DL (ks++ks') (cs++cs')=DL ks cs++DL ks' cs'
 |[],[],_,_,_=>rfl
 |k::ks,c::cs,ks',cs',h=>by
  show _++DL (ks++ks') (cs++cs')=(_++DL ks cs)++_
  rw[N6 (by simpa using h),aeC]
theorem Jo{p q f:Str}{b1 b2 b3 b4:Bool}:∀{cs:List Nat}{w u:Str},(runM p q f b1 b2 b3 b4 w u cs).2.2.2=none->(runM p q f b1 b2 b3 b4 w u cs).1.length=cs.length
 |[],_,_,_=>rfl
 |c::cs,w,u,h=>by
  unfold runM at h⊢
  cases hs:bw p q f b1 b2 b3 b4 w u c with
  |lU e=>rw[hs]at h;cases h
  |go k w' u'=>rw[hs]at h;show _+1=_+1;rw[Jo h]
theorem Jp{p q f:Str}{b1 b2 b3 b4:Bool}{ts:List (Str×Str)}{cs:List Nat}{m:aW}(h:fP (di p q f b1 b2 b3 b4 ts) m0 cs m):(runM p q f b1 b2 b3 b4 ("row":Str) 'd' cs).2=(m.1.1,m.1.2,none)/\DL (runM p q f b1 b2 b3 b4 ("row":Str) 'd' cs).1 cs=ts.take m.2:=by
 induction h with
 |nil=>exact⟨rfl,rfl⟩
 |@snoc xs m m' c _ hE ih =>
  obtain⟨i1,i2⟩:=ih
  have hM:=GF hE
  have h0:(runM p q f b1 b2 b3 b4 ("row":Str) 'd' xs).2.2.2=none:=by rw[i1]
  have ea:=Jh (ds:=[c]) h0
  rw[i1]at ea
  dsimp only at ea
  unfold fh fY at hM
  dsimp only at hM
  cases hs:bw p q f b1 b2 b3 b4 m.1.1 m.1.2 c with
  |lU e=>rw[hs]at hM;cases hM
  |go k w u =>
   rw[hs]at hM
   dsimp only at hM
   by_cases hl:cQ f w u=true
   ·rw[aee hl]at hM
    dsimp only at hM
    cases hc:i9 ts m.2 k (sg c) with
    |none=>rw[hc]at hM;cases hM
    |some n =>
     rw[hc]at hM
     cases hM
     have e1:runM p q f b1 b2 b3 b4 m.1.1 m.1.2 [c]=([k],w,u,none):=by
      unfold runM
      rw[hs]
      rfl
     rw[e1]at ea
     rw[ea]
     refine⟨O,?_⟩
     show DL (_++[k]) (xs++[c])=_
     rw[N6 (Jo h0),i2]
     unfold i9 at hc
     by_cases hk:bC k ("skip":Str)=true
     ·rw[aee hk]at hc
      cases hc
      unfold DL
      rw[aee hk]
      exact aeD _
     ·rw[ad5 hk]at hc
      by_cases ht:ts[m.2]?=some (k,if bC k ("put":Str)=true then sg c else Str.ofString "")
      ·rw[aee ht]at hc
       cases hc
       unfold DL
       rw[ad5 hk]
       show _=ts.take (m.2+1)
       rw[aO ht]
       rfl
      ·rw[ad5 ht]at hc;cases hc
   ·rw[ad5 hl]at hM;cases hM
section
variable{p q f:Str}{b1 b2 b3 b4:Bool}
def Rd0(p q f:Str)(b1 b2 b3 b4:Bool)(w u:Str)(ts:List (Str×Str))(cs:List Nat):Prop:=(runM p q f b1 b2 b3 b4 w u cs).2=(Str.ofString "row",'d',none)/\DL (runM p q f b1 b2 b3 b4 w u cs).1 cs=ts
abbrev KR(p q f:Str)(b1 b2 b3 b4:Bool)(ts:List (Str×Str))(cs:List Nat):Prop:=Rd0 p q f b1 b2 b3 b4 ("row":Str) 'd' ts cs
theorem KR.walk{ts:List (Str×Str)}{cs:List Nat}(he:vW ts)(h:KR p q f b1 b2 b3 b4 ts cs):∃ds,ds.length<=cs.length/\fP (di p q f b1 b2 b3 b4 ts) m0 ds ((Str.ofString "row",'d'),ts.length) :=
 Jm (pre:=[]) he (.inl ⟨rfl,.inl rfl⟩) .nil (aeA _) (λ_=>rfl) h.1 (by rw[h.2];rfl)
theorem Jq{ts:List (Str×Str)}{cs:List Nat}{m:aW}(h:fP (di p q f b1 b2 b3 b4 ts) m0 cs m)(hg:KQ ts m=true):KR p q f b1 b2 b3 b4 ts cs:=by
 obtain⟨h1,h2⟩:=Jp h
 have e:=aez hg
 rw[e]at h1 h2
 exact⟨h1,by rw[h2];exact List.take_length⟩
def LK(p q f:Str)(b1 b2 b3 b4:Bool)(ts:List (Str×Str))(n:Nat):Prop:=(∃cs,KR p q f b1 b2 b3 b4 ts cs/\cs.length=n)/\∀cs,KR p q f b1 b2 b3 b4 ts cs->n<=cs.length
theorem Ti{ts:List (Str×Str)}{cs:List Nat}{m:aW}(he:vW ts)(h:fP (di p q f b1 b2 b3 b4 ts) m0 cs m)(hg:KQ ts m=true)(hmin:∀ys m,fP (di p q f b1 b2 b3 b4 ts) m0 ys m->KQ ts m=true->cs.length<=ys.length):KR p q f b1 b2 b3 b4 ts cs/\LK p q f b1 b2 b3 b4 ts cs.length:=by
 have r:=Jq h hg
 refine⟨r,⟨cs,r,O⟩,λds rd=>?_⟩
 obtain⟨es,h1,h2⟩:=rd.walk he
 exact aep (hmin es _ h2 (aeb rfl)) h1
end
def kj(g:Gx)(t:Str×Str):Gx :=
 if bC t.1 ("put":Str)=true then ⟨g.rows,g.row,g.cell++t.2⟩
 else if bC t.1 ("part":Str)=true then ⟨g.rows,g.row++[g.cell],'d'⟩
 else if bC t.1 ("end":Str)=true then ⟨g.rows++[g.row++[g.cell]],[],'d'⟩
 else g
theorem V0{g:Gx}{c:Nat}{k:Str}:Jd g c k=(if bC k ("skip":Str)=true then [] else [(k,if bC k ("put":Str)=true then sg c else Str.ofString "")]).foldl kj g:=by
 by_cases hk:bC k ("skip":Str)=true
 ·rw[aee hk,kW hk]
  unfold Jd
  rw[ad5 (ns 'b'),ad5 (ns 'b'),ad5 (ns 'b')]
  rfl
 ·rw[ad5 hk]
  show _=kj g _
  unfold Jd kj
  dsimp only
  by_cases hp:bC k ("put":Str)=true
  ·rw[aee hp,aee hp,aee hp]
  ·rw[ad5 hp,ad5 hp]
theorem B3:∀{cs:List Nat}{ks:List Str}{g:Gx},qX g cs ks=(DL ks cs).foldl kj g
 |[],[],_=>rfl
 |[],_::_,_=>rfl
 |_::_,[],_=>rfl
 |c::cs,k::ks,g=>by
  show qX (Jd g c k) cs ks=((if _ then _ else _)++DL ks cs).foldl kj g
  rw[aeN,←V0,B3]
theorem Pc(z:Str)(c:Nat):qY (z++sg c)=qY z++[(Str.ofString "put",sg c)]:=by
 unfold qY
 rw[app_list,aeo]
 rfl
theorem Jr{r s:List Str}:∀{n:Nat},n<=r.length->jP (r++s) n=jP r n
 | 0,_=>rfl
 |n+1,h=>by
  show jP (r++s) n++(_++qY ((r++s).getD n _))=jP r n++(_++qY (r.getD n _))
  rw[Jr (Nat.le_of_succ_le h),afn,afn,List.getElem?_append_left h]
theorem nZ{r:List Str}{z:Str}:jP (r++[z]) (r.length+1)=jP r r.length++((if r.length=0 then [] else [mG])++qY z):=by
 rw[kC (z:=z) (by simp),Jr (ad6 _)]
def GG(g:Gx):List (Str×Str):=aD g.rows++jP (g.row++[g.cell]) (g.row.length+1)
def Y9(t:Str×Str):Prop:=(∃c,t=(Str.ofString "put",sg c))\/t=mG\/t=GA
theorem GH:qY 'd'=[]:=by decide +kernel
theorem Pd{g:Gx}{t:Str×Str}(h:Y9 t):GG (kj g t)=GG g++[t]:=by
 rcases h with ⟨c,rfl⟩|rfl|rfl
 ·unfold kj GG
  dsimp only
  rw[aee (br _)]
  dsimp only
  rw[nZ,nZ,Pc]
  simp only[aeC]
 ·unfold kj GG
  rw[show mG.1=("part":Str) from rfl,ad5 (ns 'b'),aee (br _)]
  dsimp only
  rw[nZ (r:=g.row++[g.cell]),GH,ad5 (by simp),aef]
  simp only[aeC,aeD]
  rfl
 ·unfold kj GG
  rw[show GA.1=("end":Str) from rfl,ad5 (ns 'b'),ad5 (ns 'b'),aee (br _)]
  dsimp only
  rw[mH]
  unfold nE
  rw[aef]
  have e:jP ([]++['d']) (([]:List Str).length+1)=[]:=by rw[nZ,GH];rfl
  rw[e,aeD,aeC]
  rfl
theorem B5:∀{ts:List (Str×Str)}{g:Gx},(∀t∈ts,Y9 t)->GG (ts.foldl kj g)=GG g++ts
 |[],_,_=>(aeD _).symm
 |t::ts,g,h=>by
  rw[aeV,B5 λt z=>h t (aer _ z),Pd (h t (aew ..)),aeC]
  rfl
theorem Tj{p q f:Str}{b1 b2 b3 b4:Bool}:∀{cs:List Nat}{w u:Str},∀t∈DL (runM p q f b1 b2 b3 b4 w u cs).1 cs,Y9 t
 |[],w,u,t,h=>nomatch h
 |c::cs,w,u,t,h=>by
  unfold runM at h
  cases hs:bw p q f b1 b2 b3 b4 w u c with
  |lU e=>rw[hs]at h;cases h
  |go k w' u' =>
   rw[hs]at h
   dsimp only at h
   unfold DL at h
   rcases aej.mp h with z|z
   ·by_cases hk:bC k ("skip":Str)=true
    ·rw[aee hk]at z;cases z
    ·rw[ad5 hk]at z
     have z:=ad7.mp z
     rcases B0 hs with ⟨e,_⟩|⟨e,_⟩|⟨e,_⟩|e
     ·rw[e,br]at hk;exact absurd rfl hk
     ·subst e;rw[ad5 (ns 'b')]at z;exact .inr (.inr z)
     ·subst e;rw[ad5 (ns 'b')]at z;exact .inr (.inl z)
     ·subst e;rw[aee (br _)]at z;exact .inl ⟨c,z⟩
   ·exact Tj t z
theorem sU{t:List (List Str)}:vW (aD t):=by
 intro n hn
 rcases List.eq_nil_or_concat t with e|⟨l,r,e⟩
 ·rw[e]at hn;exact absurd hn (Nat.succ_ne_zero _)
 ·rw[List.concat_eq_append]at e
  subst e
  rw[mH]at hn⊢
  unfold nE at hn⊢
  rw[←aeC]at hn⊢
  rw[aef]at hn
  have e:n=(aD l++jP r r.length).length:=by simpa using hn
  rw[e,List.getElem?_append_right (ad6 _),Nat.sub_self]
  rfl
theorem To{p q f:Str}{b1 b2 b3 b4:Bool}{z:Str}(h:(runM p q f b1 b2 b3 b4 ("row":Str) 'd' z.cps.toList).2=(Str.ofString "row",'d',none)):KR p q f b1 b2 b3 b4 (aD (Jf z (runM p q f b1 b2 b3 b4 ("row":Str) 'd' z.cps.toList).1)) z.cps.toList:=by
 refine⟨h,?_⟩
 have h1:(runM p q f b1 b2 b3 b4 ("row":Str) 'd' z.cps.toList).2.2.2=none:=by rw[h]
 have h2:(runM p q f b1 b2 b3 b4 ("row":Str) 'd' z.cps.toList).2.1=("row":Str):=by rw[h]
 obtain⟨c1,c2⟩:=EV (g:=Je) (λ_=>⟨rfl,rfl⟩) h1 h2
 have e:=B5 (g:=Je) (Tj (p:=p) (q:=q) (f:=f) (b1:=b1) (b2:=b2) (b3:=b3) (b4:=b4) (cs:=z.cps.toList) (w:=("row":Str)) (u:='d'))
 rw[←B3]at e
 have e0:jP ([]++['d']) (([]:List Str).length+1)=[]:=by rw[nZ,GH];rfl
 have g0:GG Je=[]:=e0
 rw[g0,afw]at e
 rw[←e]
 unfold GG
 rw[c1,c2,e0,aeD]
 rfl
theorem Tp{p q f:Str}{b1 b2 b3 b4:Bool}{z:Str}{ts:List (Str×Str)}(h:KR p q f b1 b2 b3 b4 ts z.cps.toList):Jf z (runM p q f b1 b2 b3 b4 ("row":Str) 'd' z.cps.toList).1=(ts.foldl kj Je).rows:=by
 unfold Jf
 rw[B3,h.2]
theorem rm(cs:List Nat):(Txt.join 'd' (cs.map sg)).cps.toList=cs:=by
 have ee:'d'.cps.toList=[]:=by decide +kernel
 show(Builtin.Str.glued 'd' (cs.map sg)).cps.toList=_
 rw[StrLaws.glued_eq_join]
 induction cs with
 |nil=>exact ee
 |cons c cs ih =>
  cases cs with
  |nil=>rfl
  |cons d cs =>
   show(sg c++'d'++Str.join 'd' ((d::cs).map sg)).cps.toList=_
   rw[app_list,app_list,ee,aeD,ih]
   rfl
def GI(r:List Str):Bool:=decide (1<=r.length/\r.length<=20)
def B6(t:List (List Str)):Bool:=decide (t.length<=60)&&t.all GI
theorem Tq{r:List Str}(h1:1<=r.length)(h2:r.length<=20):GI r=true:=aeb ⟨h1,h2⟩
theorem Tr{r:List Str}(h:¬(1<=r.length/\r.length<=20)):GI r=false:=aeg h
structure Za(t:List (List Str)):Prop where
 n:t.length<=1000
 rl:∀r∈t,r.length<=1000
 ok:∀r∈t,∀c∈r,bA c
 sum:total t<=400
theorem V1{t:List (List Str)}(g:Za t)(h:B6 t=true):TabOk t:=by
 unfold B6 at h
 rw[ae7,aeP]at h
 refine⟨aez h.1,λr hr=>?_,g.sum⟩
 obtain⟨a,b⟩:=aez (h.2 r hr)
 exact⟨a,b,g.ok r hr⟩
theorem V2{t:List (List Str)}(h:TabOk t):B6 t=true:=by
 unfold B6
 rw[ae7,aeP]
 exact⟨aeb h.n,λr hr=>Tq (h.rows r hr).lo (h.rows r hr).hi⟩
theorem TabOk.s{t:List (List Str)}(h:TabOk t):Za t:=⟨by have:=h.n;omega,λr hr=>by have:=(h.rows r hr).hi;omega,λr hr=>(h.rows r hr).ok,h.sum⟩
theorem V3{A H:Hp}{es:List V}{R:List (List Str)}(h:pB A H es R):Paired (bX H) es R:=aI (λ_ _ ⟨a,e1,_,e3⟩=>⟨a,e1,e3⟩) h
theorem V4{p q f:Str}{b1 b2 b3 b4:Bool}{ts:List (Str×Str)}(g:Gd p q f)(ht:∀t∈ts,bA t.2){cs:List Nat}{m:aW}(h:fP (di p q f b1 b2 b3 b4 ts) m0 cs m):∀c∈cs,c=10\/Pn c:=by
 induction h with
 |nil=>intro c hc;cases hc
 |@snoc xs m m' c _ hE ih =>
  intro d hd
  rcases aej.mp hd with z|z
  ·exact ih d z
  ·rw[ad7.mp z]
   unfold di at hE
   cases e:ts[m.2]? with
   |none=>rw[e]at hE;cases hE
   |some t =>
    rw[e]at hE
    obtain⟨c',hc',hm⟩:=afj.mp hE
    have ec:c'=c:=by
     cases hM:fh p q f b1 b2 b3 b4 ts m c' with
     |none=>rw[hM]at hm;cases hm
     |some y=>rw[hM]at hm;cases hm;rfl
    rw[yh,app_list,aej,Th]at hc'
    subst ec
    rcases hc' with (z|z|z|z|z)|z
    ·exact .inr (g.gp.pr _ z)
    ·exact .inr (g.gq.pr _ z)
    ·exact .inr (g.gf.pr _ z)
    ·exact .inl z
    ·rw[z];exact .inr 'c'
    ·exact ht t (aen e) _ z
theorem Tt{t:List (List Str)}(h:∀r∈t,∀c∈r,bA c):∀x∈aD t,bA x.2:=by
 have em:bA 'd':=λd hd=>by rw[sQ]at hd;cases hd
 have hp:∀z,bA z->∀x∈qY z,bA x.2:=λz hz x hx=>by
  obtain⟨c,hc,rfl⟩:=aeR.mp hx
  intro d hd
  rw[ad7.mp (show d∈[c]from hd)]
  exact hz c hc
 have hC:∀r,(∀c∈r,bA c)->∀n,∀x∈jP r n,bA x.2:=λr hr n=>by
  induction n with
  |zero=>intro x hx;cases hx
  |succ n ih =>
   intro x hx
   rcases aej.mp hx with z|z
   ·exact ih x z
   ·rcases aej.mp z with y|y
    ·split at y
     ·cases y
     ·rw[ad7.mp y];exact em
    ·refine hp _ ?_ x y
     rw[afn]
     cases e:r[n]? with
     |none=>exact em
     |some c=>exact hr c (aen e)
 intro x hx
 obtain⟨r,hr,hx⟩:=afl.mp hx
 rcases aej.mp hx with z|z
 ·exact hC r (h r hr) _ x z
 ·rw[ad7.mp z];exact em
theorem LL{t:List (List Str)}(h:TabOk t):(aD t).length<=9000:=by
 have:=vP h t.length
 rw[List.take_length]at this
 omega
theorem Tu(xs:List V)(n:Nat)(h:n<=xs.length):By xs none (some (n:Int))=xs.take n:=by
 unfold By
 have e1:HT.jA xs.length 0 none=0:=rfl
 have e2:HT.jA xs.length xs.length (some (n:Int))=n:=by
  show(if (n:Int)<0 then ((n:Int)+(xs.length:Int)).toNat else min (n:Int).toNat xs.length)=_
  rw[ad5 'f',Int.toNat_natCast];omega
 rw[e1,e2,List.drop_zero,Nat.sub_zero]
def Tv(rc:Nat×Nat)(t:Str×Str):Nat×Nat:=if t=mG then (rc.1,rc.2+1) else if t=GA then (rc.1+1,0) else rc
def cellAt(ts:List (Str×Str)):Nat×Nat:=ts.foldl Tv (0,0)
theorem Zb(rc:Nat×Nat)(t:Str×Str):(Tv rc t).1<=rc.1+1/\(Tv rc t).2<=rc.2+1:=by
 unfold Tv
 split
 ·exact⟨Nat.le_succ _,ad6 _⟩
 split
 ·exact⟨ad6 _,aeA _⟩
 ·exact⟨Nat.le_succ _,Nat.le_succ _⟩
theorem yi:∀(ts:List (Str×Str))(rc:Nat×Nat),(ts.foldl Tv rc).1<=rc.1+ts.length/\(ts.foldl Tv rc).2<=rc.2+ts.length
 |[],rc=>⟨ad6 _,ad6 _⟩
 |t::ts,rc=>by
  have h1:=Zb rc t
  have h2:=yi ts (Tv rc t)
  rw[aeV,aex]
  omega
def nwF(r c:Int):List (Str×V):=kG ("cell":Str) (.int c) [(Str.ofString "row",.int r)]
def Zc(p q f:Str)(b1 b2 b3 b4:Bool)(ts:List (Str×Str))(n:Nat):Prop:=(∃cs m,fP (di p q f b1 b2 b3 b4 ts) m0 cs m/\m.2=n)/\∀cs m,fP (di p q f b1 b2 b3 b4 ts) m0 cs m->m.2<=n
def NoW(p q f:Str)(b1 b2 b3 b4:Bool)(ts:List (Str×Str)):Prop:=∀cs,¬KR p q f b1 b2 b3 b4 ts cs
section
variable{good:aW->Bool}{led:aW->List (Nat×aW)}{a:aW}
theorem Pe{cm sR:Cm}{aJ:List aW}{m:aW}{r:Option aW}(h:BS good led cm aJ r sR):∀{k:Nat},r=some m->Tc good led a cm aJ k->k<=cm.length->∃n,n<=sR.length/\jB led a sR m n/\∀ys m',fP led a ys m'->good m'=true->n<=ys.length:=by
 induction h with
 |stop=>intro k e;cases e
 |@found cm aJ m1 hf =>
  intro k e L hk
  cases e
  refine⟨k,hk,(L.edg _ (List.mem_of_find?_eq_some hf)).1,λys m' hw hg=>?_⟩
  cases Nat.lt_or_ge ys.length k with
  |inl z=>rw[L.less ys m' hw z]at hg;cases hg
  |inr z=>exact z
 |@go cm sR aJ r _ hf hR ih =>
  intro k e L hk
  refine ih e (L.go hf) ?_
  have q:=vS (led:=led) aJ (cm,[])
  simp only[afp,afZ]at q
  unfold expand at hR⊢
  by_cases z:(aJ.foldl (lW led) (cm,[])).2=[]
  ·rw[z]at hR
   cases hR with
   |stop=>cases e
   |found hf2=>cases hf2
   |go h _ _=>exact absurd rfl h
  ·have:=af1.mpr z
   omega
theorem V5{cm:Cm}{m:aW}(h:BS good led [(a,none)] [a] (some m) cm):∃n,n<=cm.length/\jB led a cm m n/\∀ys m',fP led a ys m'->good m'=true->n<=ys.length:=Pe h rfl Tc.zero (aeA _)
end
section
variable{p q f:Str}{b1 b2 b3 b4:Bool}
theorem Tw{ts:List (Str×Str)}(he:vW ts):NoW p q f b1 b2 b3 b4 ts↔∀cs m,fP (di p q f b1 b2 b3 b4 ts) m0 cs m->KQ ts m=false:=by
 constructor
 ·intro h cs m hw
  cases e:KQ ts m with
  |false=>rfl
  |true=>exact absurd (Jq hw e) (h cs)
 ·intro h cs r
  obtain⟨ds,_,hw⟩:=r.walk he
  have:=h ds _ hw
  rw[show KQ ts ((Str.ofString "row",'d'),ts.length)=true from aeb rfl]at this
  cases this
theorem V6{ts:List (Str×Str)}(he:vW ts){cs:List Nat}{m:aW}(h:fP (di p q f b1 b2 b3 b4 ts) m0 cs m):i8 q m.1.1 m.1.2/\cQ f m.1.1 m.1.2=true/\(m.2<ts.length\/m=((Str.ofString "row",'d'),ts.length)):=by
 induction h with
 |nil =>
  refine⟨.inl ⟨O,.inl rfl⟩,vX f,?_⟩
  cases ts with
  |nil=>exact .inr rfl
  |cons a l=>exact .inl (Nat.zero_lt_succ _)
 |@snoc xs m m' c _ hE ih =>
  have hM:=GF hE
  have hlt:m.2<ts.length:=by
   unfold di at hE
   cases e:ts[m.2]? with
   |none=>rw[e]at hE;cases hE
   |some t=>exact(ad8.mp e).1
  obtain⟨h1,h2⟩:=Jk he hlt hM ih.1
  refine⟨h1,?_,h2⟩
  have hM:fh p q f b1 b2 b3 b4 ts m c=some m':=hM
  unfold fh fY at hM
  cases hs:bw p q f b1 b2 b3 b4 m.1.1 m.1.2 c with
  |lU e=>rw[hs]at hM;cases hM
  |go k w u =>
   rw[hs]at hM
   dsimp only at hM
   by_cases hl:cQ f w u=true
   ·rw[aee hl]at hM
    dsimp only at hM
    cases hc:i9 ts m.2 k (sg c) with
    |none=>rw[hc]at hM;cases hM
    |some n=>rw[hc]at hM;cases hM;exact hl
   ·rw[ad5 hl]at hM;cases hM
theorem Js:∀{cs:List Nat}{w u w' u':Str},i8 q w u->cQ f w u=false->(runM p q f b1 b2 b3 b4 w u cs).2=(w',u',none)->cQ f w' u'=false
 |[],w,u,w',u',_,hl,e=>by
  have e:(w,u,(none:Option Str))=(w',u',none):=e
  injection e with e1 e2
  injection e2 with e2 _
  rw[←e1,←e2];exact hl
 |c::cs,w,u,w',u',h,hl,e=>by
  unfold runM at e
  cases hs:bw p q f b1 b2 b3 b4 w u c with
  |lU e'=>rw[hs]at e;dsimp only at e;injection e with _ z;injection z with _ z;cases z
  |go k w2 u2=>rw[hs]at e;exact Js (iM h hs) (EZ h hl hs) e
def PR(p q f:Str)(b1 b2 b3 b4:Bool)(w u:Str)(ts:List (Str×Str))(cs:List Nat)(w' u':Str):Prop:=(runM p q f b1 b2 b3 b4 w u cs).2=(w',u',none)/\DL (runM p q f b1 b2 b3 b4 w u cs).1 cs=ts
theorem KR.pr{ts:List (Str×Str)}{cs:List Nat}:KR p q f b1 b2 b3 b4 ts cs↔PR p q f b1 b2 b3 b4 ("row":Str) 'd' ts cs ("row":Str) 'd':=Iff.rfl
theorem V7{B:List (Str×Str)}{n:Nat}(hB:vW B)(hn:NoW p q f b1 b2 b3 b4 B)(hm:Zc p q f b1 b2 b3 b4 B n):n<B.length:=by
 obtain⟨⟨cs,m,hw,e⟩,_⟩:=hm
 rcases(V6 hB hw).2.2 with z|z
 ·omega
 ·have:=(Tw hB).mp hn cs m hw
  rw[z,show KQ B ((Str.ofString "row",'d'),B.length)=true from aeb rfl]at this
  cases this
end
def cells(t:List (List Str)):Nat:=(t.map List.length).sum
theorem LM(t:List (List Str))(r:List Str):cells (t++[r])=cells t+r.length:=by
 unfold cells;rw[aeo,afG];simp
theorem E1:∀(t:List (List Str)),(t.map λr=>r.length+(lens r).sum).sum=cells t+total t
 |[]=>rfl
 |r::t=>by
  have ih:=E1 t
  unfold cells total at ih⊢
  rw[aeJ,aeJ,aeJ,ae5,ae5,ae5,ih]
  omega
theorem V8{t:List (List Str)}(h:∀r∈t,BO r):(aD t).length=cells t+total t:=by rw[BR h,E1]
theorem Jt:∀{t:List (List Str)},(∀r∈t,BO r)->t.length<=cells t
 |[],_=>ad6 _
 |r::t,h=>by
  have ih:=Jt (t:=t) λr' h'=>h r' (aer _ h')
  have h1:=(h r (aew ..)).lo
  unfold cells at ih⊢
  rw[aeJ,ae5,aex]
  omega
theorem E2(R:List (List Str))(row:List Str):∀(y z:Str),(qY y).foldl kj ⟨R,row,z⟩=⟨R,row,z++y⟩:=by
 intro y
 have key:∀(cs:List Nat)(z:Str),(cs.map λk=>(Str.ofString "put",sg k)).foldl kj ⟨R,row,z⟩=⟨R,row,z++⟨cs.toArray⟩⟩:=by
  intro cs
  induction cs with
  |nil=>intro z;show(⟨R,row,z⟩:Gx)=_;rw[show z++(⟨[].toArray⟩:Str)=z from vM (by rw[app_list];simp)]
  |cons c cs ih =>
   intro z
   rw[aeJ,aeV]
   have e:kj ⟨R,row,z⟩ (Str.ofString "put",sg c)=⟨R,row,z++sg c⟩:=by unfold kj;dsimp only;rw[aee (br _)]
   rw[e,ih]
   congr 1
   refine vM ?_
   rw[app_list,app_list,app_list]
   simp[sg]
 intro z
 have:=key y.cps.toList z
 rw[show(⟨y.cps.toList.toArray⟩:Str)=y from vM (by simp)]at this
 exact this
theorem E3(R:List (List Str))(r:List Str):∀(n:Nat)(c:Str),r[n]?=some c->(jP r (n+1)).foldl kj ⟨R,[],'d'⟩=⟨R,r.take n,c⟩
 | 0,c,h=>by
  rw[kC h]
  show(([]:List (Str×Str))++((if 0=0 then [] else [mG])++qY c)).foldl kj _=_
  rw[aee rfl,afw,afw,E2,S3]
  rfl
 |n+1,c,h=>by
  obtain⟨d,hd⟩:∃d,r[n]?=some d:=⟨_,aeB (by have:=(ad8.mp h).1;omega)⟩
  rw[kC h,aeN,E3 R r n d hd,ad5 'f',aeN]
  have e:[mG].foldl kj ⟨R,r.take n,d⟩=⟨R,r.take n++[d],'d'⟩:=by
   show kj _ mG=_
   unfold kj
   rw[show mG.1=("part":Str) from rfl,ad5 (ns 'b'),aee (br _)]
  rw[e,E2,S3,←aO hd]
theorem Ju:∀(t R:List (List Str)),(∀r∈t,1<=r.length)->(aD t).foldl kj ⟨R,[],'d'⟩=⟨R++t,[],'d'⟩
 |[],R,_=>by show(⟨R,[],_⟩:Gx)=_;rw[aeD]
 |r::t,R,h=>by
  have e:aD (r::t)=nE r++aD t:=rfl
  have h1:=h r (aew ..)
  obtain⟨n,hn⟩:∃n,r.length=n+1:=⟨r.length-1,by omega⟩
  obtain⟨c,hc⟩:∃c,r[n]?=some c:=⟨_,aeB 'f'⟩
  have e2:(nE r).foldl kj ⟨R,[],'d'⟩=⟨R++[r],[],'d'⟩:=by
   unfold nE
   rw[hn,aeN,E3 R r n c hc]
   show kj _ GA=_
   unfold kj
   rw[show GA.1=("end":Str) from rfl,ad5 (ns 'b'),ad5 (ns 'b'),aee (br _)]
   dsimp only
   rw[←aO hc,aek 'f']
  rw[e,aeN,e2,Ju t (R++[r]) λr' h'=>h r' (aer _ h'),aeC]
  rfl
theorem tab_of{p q f:Str}{b1 b2 b3 b4:Bool}{F:Str}{t:List (List Str)}(ht:∀r∈t,1<=r.length)(h:KR p q f b1 b2 b3 b4 (aD t) F.cps.toList):Jf F (runM p q f b1 b2 b3 b4 ("row":Str) 'd' F.cps.toList).1=t:=by
 rw[Tp h,show Je=⟨[],[],'d'⟩ from rfl,Ju t [] ht]
 rfl
theorem PR.un{p q f:Str}{b1 b2 b3 b4:Bool}{w u wE uE:Str}{c:Nat}{cs:List Nat}{ts:List (Str×Str)}(h:PR p q f b1 b2 b3 b4 w u ts (c::cs) wE uE):∃k w' u' ts',bw p q f b1 b2 b3 b4 w u c=.go k w' u'/\ts=(if bC k ("skip":Str)=true then [] else [(k,if bC k ("put":Str)=true then sg c else Str.ofString "")])++ts'/\PR p q f b1 b2 b3 b4 w' u' ts' cs wE uE:=by
 obtain⟨h1,h2⟩:=h
 cases hs:bw p q f b1 b2 b3 b4 w u c with
 |lU e=>rw[qW hs]at h1;injection h1 with _ z;injection z with _ z;cases z
 |go k w' u'=>rw[iL hs]at h1 h2;exact⟨k,w',u',_,rfl,h2.symm,h1,rfl⟩
theorem n6:∀(fs:List Str),(fs.map (·.length)).sum=(bW fs).length
 |[]=>uV.symm
 |F::fs=>by rw[aeJ,ae5,n6 fs];show _=(F++bW fs).length;rw[bz]
theorem pD:∀(fs:List Str),Txt.join 'd' fs=bW fs:=by
 intro fs
 show Builtin.Str.glued 'd' fs=_
 rw[StrLaws.glued_eq_join]
 induction fs with
 |nil=>rfl
 |cons F fs ih =>
  cases fs with
  |nil=>show F=F++Str.ofString "";rw[S4]
  |cons G fs =>
   show F++Str.ofString ""++Str.join 'd' (G::fs)=F++bW (G::fs)
   rw[ih,S4]
def DM(x:cD)(t:List (List Str))(z:Str):Bool:=decide (S0 (runC x z) z=some t)
def zE(x:cD)(cs:List cD)(t:List (List Str))(z:Str):Bool:=DM x t z && !(cs.any λy=>DM y t z)
def Jv(x:cD)(cs:List cD)(t:List (List Str)):V->Bool
 | .str z=>NZ (.str z)&&zE x cs t z
 |_=>false
theorem V9{x:cD}{cs:List cD}{t:List (List Str)}{v:V}(h:NZ v=false):Jv x cs t v=false:=by
 cases v with
 |str z=>show(NZ (.str z)&&_)=false;rw[h];rfl
 |_=>rfl
theorem abl{K:W.Frag}{A B H:Hp}{v w:V}{o o':Option (List (List Str))}{Q:VK}(h1:RdV A H v o)(h2:RdV B H w o')(q:Q (.bl (decide (o=o'))) H):rEq v w H Q\/(Yq K v w H Q\/aa0 K v w H Q):=by
 cases o with
 |none =>
  cases h1
  cases o' with
  |none=>cases h2;rw[aeb rfl]at q;exact .inl ⟨rfl,by rw[aeb rfl];exact q⟩
  |some T =>
   obtain⟨l,es,rfl,_,e3,_⟩:=h2
   rw[aeg (by intro z;cases z)]at q
   exact .inr (.inr ⟨.inl ⟨rfl,l,_,rfl,aT.of e3⟩,q⟩)
 |some T =>
  obtain⟨l,es,rfl,_,e3,e4⟩:=h1
  cases o' with
  |none =>
   cases h2
   rw[aeg (by intro z;cases z)]at q
   exact .inr (.inr ⟨.inr ⟨rfl,l,_,rfl,aT.of e3⟩,q⟩)
  |some T' =>
   obtain⟨l',es',rfl,_,e3',e4'⟩:=h2
   have e:decide (some T=some T')=decide (T=T'):=by
    by_cases h:T=T'
    ·rw[h,aeb rfl,aeb rfl]
    ·rw[aeg h,aeg λz=>h (aes z)]
   rw[e]at q
   exact .inr (.inl ⟨_,N2 e3 e3' e4 e4',q⟩)
theorem Wa{H:Hp}{es:List V}{R:List (List Str)}(h:Paired (bX H) es R):pB (λ_=>none) H es R:=aI (λ_ _ ⟨a,e1,e3⟩=>⟨a,e1,rfl,e3⟩) h
theorem N7{H:Hp}{a:Addr}{es:List V}{R:List (List Str)}(ha:H a=some (.lst es))(h:Paired (bX H) es R):RdV (λ_=>none) H (.ref a) (some R):=⟨a,es,rfl,rfl,ha,Wa h⟩
def Xs(p q f:Str)(b1 b2 b3 b4:Bool)(ts:List (Str×Str))(m:aW):List Nat->Option aW
 |[]=>some m
 |c::cs=>(fh p q f b1 b2 b3 b4 ts m c).bind λm'=>Xs p q f b1 b2 b3 b4 ts m' cs
section
variable{p q f:Str}{b1 b2 b3 b4:Bool}{ts:List (Str×Str)}
theorem Jw{c:Nat}:∀{cs:List Nat}{m:aW},Xs p q f b1 b2 b3 b4 ts m (cs++[c])=(Xs p q f b1 b2 b3 b4 ts m cs).bind λm'=>fh p q f b1 b2 b3 b4 ts m' c
 |[],m=>by show(fh p q f b1 b2 b3 b4 ts m c).bind (λm'=>some m')=fh p q f b1 b2 b3 b4 ts m c;cases fh p q f b1 b2 b3 b4 ts m c<;>rfl
 |d::cs,m=>by
  show(fh p q f b1 b2 b3 b4 ts m d).bind _=((fh p q f b1 b2 b3 b4 ts m d).bind _).bind _
  cases h:fh p q f b1 b2 b3 b4 ts m d with
  |none=>rfl
  |some m'=>exact Jw
theorem GJ{m m':aW}{c:Nat}(h:fh p q f b1 b2 b3 b4 ts m c=some m'):∃k,bw p q f b1 b2 b3 b4 m.1.1 m.1.2 c=.go k m'.1.1 m'.1.2/\cQ f m'.1.1 m'.1.2=true/\i9 ts m.2 k (sg c)=some m'.2:=by
 unfold fh fY at h
 cases hs:bw p q f b1 b2 b3 b4 m.1.1 m.1.2 c with
 |lU e=>rw[hs]at h;cases h
 |go k w u =>
  rw[hs]at h
  dsimp only at h
  by_cases hl:cQ f w u=true
  ·rw[aee hl]at h
   dsimp only at h
   cases hc:i9 ts m.2 k (sg c) with
   |none=>rw[hc]at h;cases h
   |some n=>rw[hc]at h;cases h;exact⟨k,rfl,hl,hc⟩
  ·rw[ad5 hl]at h;cases h
theorem Tz{m:aW}{c n:Nat}{k w u:Str}(hs:bw p q f b1 b2 b3 b4 m.1.1 m.1.2 c=.go k w u)(hl:cQ f w u=true)(hc:i9 ts m.2 k (sg c)=some n):fh p q f b1 b2 b3 b4 ts m c=some ((w,u),n):=by
 unfold fh fY
 rw[hs]
 dsimp only
 rw[aee hl]
 dsimp only
 rw[hc]
theorem GK:∀{cs:List Nat}{m m':aW},m.2<=ts.length->Xs p q f b1 b2 b3 b4 ts m cs=some m'->m.2<=m'.2/\m'.2<=ts.length/\PR p q f b1 b2 b3 b4 m.1.1 m.1.2 ((ts.take m'.2).drop m.2) cs m'.1.1 m'.1.2
 |[],m,m',hm,h=>by
  cases h
  refine⟨ad6 _,hm,O,?_⟩
  show []=_
  rw[List.drop_eq_nil_of_le (by rw[aey];omega)]
 |c::cs,m,m',hm,h=>by
  have h:(fh p q f b1 b2 b3 b4 ts m c).bind _=some m':=h
  cases hM:fh p q f b1 b2 b3 b4 ts m c with
  |none=>rw[hM]at h;cases h
  |some m1 =>
   rw[hM]at h
   obtain⟨k,hs,hl,hc⟩:=GJ hM
   unfold i9 at hc
   by_cases hk:bC k ("skip":Str)=true
   ·rw[aee hk]at hc
    have e:m.2=m1.2:=aes hc
    obtain⟨i1,i2,i3,i4⟩:=GK 'f' h
    refine⟨by omega,i2,by rw[iL hs];exact i3,?_⟩
    rw[iL hs]
    unfold DL
    rw[aee hk,afw,i4,e]
   ·rw[ad5 hk]at hc
    by_cases ht:ts[m.2]?=some (k,if bC k ("put":Str)=true then sg c else Str.ofString "")
    ·rw[aee ht]at hc
     have e:m.2+1=m1.2:=aes hc
     have hlt:=(ad8.mp ht).1
     obtain⟨i1,i2,i3,i4⟩:=GK 'f' h
     refine⟨by omega,i2,by rw[iL hs];exact i3,?_⟩
     rw[iL hs]
     unfold DL
     rw[ad5 hk,i4,←e]
     have hx:(ts.take m'.2)[m.2]?=some (k,if bC k ("put":Str)=true then sg c else Str.ofString ""):=by rw[List.getElem?_take,aee 'f'];exact ht
     obtain⟨h1,h2⟩:=ad8.mp hx
     rw[afC h1,h2]
     rfl
    ·rw[ad5 ht]at hc;cases hc
theorem LN:∀{cs:List Nat}{m:aW}{w u:Str}{n:Nat},i8 q m.1.1 m.1.2->cQ f w u=true->m.2<=n->n<=ts.length->PR p q f b1 b2 b3 b4 m.1.1 m.1.2 ((ts.take n).drop m.2) cs w u->Xs p q f b1 b2 b3 b4 ts m cs=some ((w,u),n)
 |[],m,w,u,n,_,_,hmn,hn,h=>by
  obtain⟨h1,h2⟩:=h
  have e:(m.1.1,m.1.2,(none:Option Str))=(w,u,none):=h1
  injection e with e1 e2
  injection e2 with e2 _
  have hl:((ts.take n).drop m.2).length=0:=by rw[←h2];rfl
  rw[List.length_drop,aey]at hl
  show some m=_
  rw[←e1,←e2,show n=m.2 by omega]
 |c::cs,m,w,u,n,hq,Xu,hmn,hn,h=>by
  obtain⟨k,w',u',ts',hs,e,h'⟩:=h.un
  have hl:cQ f w' u'=true:=by
   cases z:cQ f w' u' with
   |true=>rfl
   |false=>rw[Js (iM hq hs) z h'.1]at Xu;cases Xu
  show(fh p q f b1 b2 b3 b4 ts m c).bind _=_
  by_cases hk:bC k ("skip":Str)=true
  ·rw[aee hk,afw]at e
   have hc:i9 ts m.2 k (sg c)=some m.2:=by unfold i9;rw[aee hk]
   rw[Tz hs hl hc]
   refine LN (m:=((w',u'),m.2)) (iM hq hs) Xu hmn hn ?_
   show PR _ _ _ _ _ _ _ w' u' ((ts.take n).drop m.2) cs w u
   rw[e];exact h'
  ·rw[ad5 hk]at e
   have hx:(ts.take n)[m.2]?=some (k,if bC k ("put":Str)=true then sg c else Str.ofString ""):=by
    have:=congrArg List.head? e
    rw[List.head?_drop]at this
    exact this
   have hin:m.2<n:=by
    have:=(ad8.mp hx).1
    rw[aey]at this
    omega
   rw[List.getElem?_take,aee hin]at hx
   have hd:(ts.take n).drop (m.2+1)=ts':=by
    have:=congrArg List.tail e
    rw[List.tail_drop]at this
    exact this
   have hc:i9 ts m.2 k (sg c)=some (m.2+1):=by unfold i9;rw[ad5 hk,aee hx]
   rw[Tz hs hl hc]
   refine LN (m:=((w',u'),m.2+1)) (iM hq hs) Xu hin hn ?_
   show PR _ _ _ _ _ _ _ w' u' ((ts.take n).drop (m.2+1)) cs w u
   rw[hd];exact h'
theorem LO{cs:List Nat}:Xs p q f b1 b2 b3 b4 ts m0 cs=some ((Str.ofString "row",'d'),ts.length)↔KR p q f b1 b2 b3 b4 ts cs:=by
 constructor
 ·intro h
  obtain⟨_,_,h3⟩:=GK (aeA _) h
  rw[List.take_length]at h3
  exact h3
 ·intro h
  refine LN (.inl ⟨rfl,.inl rfl⟩) (vX f) (aeA _) (ad6 _) ?_
  rw[List.take_length]
  exact h
end
theorem Xv{x:cD}{t:List (List Str)}{z:Str}(ht:∀r∈t,1<=r.length):DM x t z=decide (Xs x.1 x.2.1 x.2.2.1 x.2.2.2.a x.2.2.2.b x.2.2.2.c x.2.2.2.d (aD t) m0 z.cps.toList=some ((Str.ofString "row",'d'),(aD t).length)):=by
 unfold DM
 rw[aeS,aeO,aeO,LO]
 unfold S0 runC
 constructor
 ·intro h
  split at h
  ·rename_i hW
   obtain⟨e1,e2,e3⟩:=Y3 hW
   have pC:(runM x.1 x.2.1 x.2.2.1 x.2.2.2.a x.2.2.2.b x.2.2.2.c x.2.2.2.d ("row":Str) 'd' z.cps.toList).2=(Str.ofString "row",'d',none):=Prod.ext e2 (Prod.ext e3 e1)
   have:=To pC
   rw[aes h]at this
   exact this
  ·cases h
 ·intro h
  rw[aee (VO h.1),tab_of ht h]
theorem Bh:∀{r:List Str},(∀c∈r,bA c)->bA (bW r)
 |[],_=>λd hd=>by rw[show(bW []).cps.toList=[]from sQ]at hd;cases hd
 |z::r,h=>λd hd=>by
  have hd:d∈(z++bW r).cps.toList:=hd
  rw[app_list]at hd
  rcases aej.mp hd with q|q
  ·exact h z (aew ..) d q
  ·exact Bh (λc hc=>h c (aer _ hc)) d q
theorem N8:∀{r:List Str}{m:Nat},(∀c∈r,c.length<=m)->(bW r).length<=r.length*m
 |[],m,_=>by rw[show(bW []).length=0 from uV];exact aeA _
 |z::r,m,h=>by
  show(z++bW r).length<=(r.length+1)*m
  have h1:=h z (aew ..)
  have h2:=N8 (r:=r) (m:=m) λc hc=>h c (aer _ hc)
  rw[bz,Nat.succ_mul]
  omega
theorem Jx(r:List Str):(bW r).length=(lens r).sum:=(n6 r).symm
theorem E4:∀(t:List (List Str)),(bW (t.map bW)).length=total t
 |[]=>uV
 |r::t=>by
  show(bW r++bW (t.map bW)).length=_
  rw[bz,E4 t,Jx]
  unfold total
  rw[aeJ,ae5]
theorem N9{z:Str}(h:bA z)(hl:z.length<=2000):NZ (.str z)=true:=by rw[N1 h,aeb (show(z.length:Int)<=2000 by omega)]
section
variable{good:aW->Bool}{led:aW->List (Nat×aW)}{a:aW}
end
section
variable{p q f:Str}{b1 b2 b3 b4:Bool}
end
theorem vY{K:W.Frag}{H H':Hp}{o:Option aW}{v:V}(s:aE H H')(h:fL K H o v):fL K H' o v:=by
 cases o with
 |none=>exact h
 |some m=>obtain⟨b,t,rfl,h1,h2⟩:=h;exact⟨b,t,rfl,aA s h1,aA s h2⟩
theorem jn{K:W.Frag}{H H':Hp}(s:aE H H'):∀{os:List (Option aW)}{vs:List V},Paired (fL K H) os vs->Paired (fL K H') os vs
 |_,_,.nil=>.nil
 |_,_,.cons a r=>.cons (vY s a) (jn s r)
theorem cy{K:W.Frag}{H H':Hp}{m:dM}{v:V}(s:aE H H')(h:dD K H m v):dD K H' m v:=by
 obtain⟨b,t,u,vs,rfl,h1,h2,h3,h4⟩:=h
 exact⟨b,t,u,vs,O,aA s h1,aA s h2,aA s h3,jn s h4⟩
theorem Oa{K:W.Frag}{H:Hp}{o:Option aW}{v:V}(h:nF K o H v):fL K H o v:=by
 cases o with
 |none=>exact h
 |some m=>exact h
def acC(p q f:Str)(b1 b2 b3 b4:Bool)(ts:List (Str×Str))(o:Option aW)(c:Nat):Option aW:=o.bind λm=>fh p q f b1 b2 b3 b4 ts m c
def tH(x:cD)(ts:List (Str×Str))(m:aW)(c:Nat):Option aW:=fh x.1 x.2.1 x.2.2.1 x.2.2.2.a x.2.2.2.b x.2.2.2.c x.2.2.2.d ts m c
def Jy(x:cD)(ts:List (Str×Str))(o:Option aW)(c:Nat):Option aW:=o.bind λm=>tH x ts m c
def Jz(K:W.Frag)(C CT CM:Addr)(H:Hp)(m:Addr)(x:cD)(ts:List (Str×Str)):Prop:=oN K C CT CM H m x.1 x.2.1 x.2.2.1 x.2.2.2.a x.2.2.2.b x.2.2.2.c x.2.2.2.d ts
abbrev TF(K:W.Frag)(C CT CM:Addr)(ts:List (Str×Str))(H:Hp):List V->List cD->Prop:=Paired λv x=>∃m,v=.ref m/\Jz K C CT CM H m x ts
theorem TF.mono{K:W.Frag}{C CT CM:Addr}{ts:List (Str×Str)}{H H':Hp}(s:aE H H'){vs:List V}{cs:List cD}(h:TF K C CT CM ts H vs cs):TF K C CT CM ts H' vs cs:=aI (λ_ _ ⟨m,e,q⟩=>⟨m,e,oN.mono s q⟩) h
theorem Wb{K:W.Frag}{H:Hp}{o:Option aW}{v:V}(h:fL K H o v):nF K o H v:=by
 cases o with
 |none=>exact h
 |some m=>exact h
theorem Wc{K:W.Frag}{H:Hp}{l:Addr}{ws:List V}{x:HO}{o:Option aW}{v:V}(hl:H l=some (.lst ws))(h:fL K H o v):fL K (upd H l x) o v:=Oa (nF.but hl (Wb h))
theorem n8{K:W.Frag}{H:Hp}{l:Addr}{ws:List V}{x:HO}(hl:H l=some (.lst ws)):∀{os:List (Option aW)}{vs:List V},Paired (fL K H) os vs->Paired (fL K (upd H l x)) os vs
 |_,_,.nil=>.nil
 |_,_,.cons a r=>.cons (Wc hl a) (n8 hl r)
def stM:aW:=((Str.ofString "row",'d'),0)
def gF(n:Nat):dM:=(stM,List.replicate n (some stM))
def pfl(m lm:Addr)(z:Str):List (Str×V):=[("marker",.ref m),("markers",.ref lm),("signs",.str z)]
structure B7(K:W.Frag)(C CT CM CP:Addr)(H:Hp)(y:Addr)(x:cD)(cs:List cD)(ts:List (Str×Str))(z:Str):Prop where
 ok:∃dy m lm ms,H y=some (.ins CP dy (pfl m lm z))/\Jz K C CT CM H m x ts/\H lm=some (.lst ms)/\TF K C CT CM ts H ms cs
theorem B7.mono{K:W.Frag}{C CT CM CP:Addr}{H H':Hp}{y:Addr}{x:cD}{cs:List cD}{ts:List (Str×Str)}{z:Str}(s:aE H H')(h:B7 K C CT CM CP H y x cs ts z):B7 K C CT CM CP H' y x cs ts z:=by
 obtain⟨dy,m,lm,ms,e1,e2,e3,e4⟩:=h.ok
 exact⟨dy,m,lm,ms,s _ _ e1,oN.mono s e2,s _ _ e3,TF.mono s e4⟩
theorem jC{α β:Type}{F:α->β->Prop}:∀{xs:List α}{ys:List β},Paired F xs ys->∀(i:Nat)(y:β),ys[i]?=some y->∃x,xs[i]?=some x/\F x y
 |_,_,.nil,_,_,h=>nomatch h
 |x::_,_,.cons a r,0,y,h=>⟨x,rfl,by have h:some _=some y:=h;cases h;exact a⟩
 |_::_,_,.cons a r,i+1,y,h=>jC r i y h
def vZ(ts:List (Str×Str)):aW:=((Str.ofString "row",'d'),ts.length)
def gO(ts:List (Str×Str))(m:dM):Bool:=decide (m.1=vZ ts) && !(m.2.any λo=>decide (o=some (vZ ts)))
def gY(cs:List cD)(ts:List (Str×Str))(os:List (Option aW))(c:Nat):List (Option aW):=(cs.zip os).map λp=>Jy p.1 ts p.2 c
def d9(x:cD)(cs:List cD)(ts:List (Str×Str))(z:Str)(m:dM):List (Nat×dM):=z.cps.toList.filterMap λc=>(tH x ts m.1 c).map λm'=>(c,(m',gY cs ts m.2 c))
abbrev Ai(K:W.Frag)(H:Hp):List V->List (Nat×dM)->Prop:=Paired λv e=>∃t w,v=.ref t/\H t=some (.tup [.str (sg e.1),w])/\dD K H e.2 w
theorem v9{K:W.Frag}{H:Hp}{l a:Addr}{ws xs:List V}{o:HO}(hl:H l=some (.lst ws))(h:aX K H a xs):aX K (upd H l o) a xs:=by
 rcases h with (h|⟨ob,h⟩)|h
 ·exact .inl (.inl ((az (dP h hl (by intro z;cases z))).trans h))
 ·exact .inl (.inr ⟨ob,(az (dP h hl (by intro z;cases z))).trans h⟩)
 ·exact .inr h
theorem GL{K:W.Frag}{H:Hp}{l:Addr}{ws:List V}{o:HO}{m:dM}{v:V}(hl:H l=some (.lst ws))(h:dD K H m v):dD K (upd H l o) m v:=by
 obtain⟨b,t,u,vs,rfl,h1,h2,h3,h4⟩:=h
 exact⟨b,t,u,vs,O,v9 hl h1,v9 hl h2,v9 hl h3,n8 hl h4⟩
theorem sV{K:W.Frag}{H H':Hp}(s:aE H H'):∀{vs:List V}{es:List (Nat×dM)},Ai K H vs es->Ai K H' vs es
 |_,_,.nil=>.nil
 |_,_,.cons ⟨t,w,e,h,q⟩ r=>.cons ⟨t,w,e,s _ _ h,cy s q⟩ (sV s r)
theorem wc{K:W.Frag}{H:Hp}{l:Addr}{ws:List V}{o:HO}(hl:H l=some (.lst ws)):∀{vs:List V}{es:List (Nat×dM)},Ai K H vs es->Ai K (upd H l o) vs es
 |_,_,.nil=>.nil
 |_,_,.cons ⟨t,w,e,h,q⟩ r=>.cons ⟨t,w,e,(az (dP h hl (by intro z;cases z))).trans h,GL hl q⟩ (wc hl r)
def Aj(x:cD):Str:=gK ((x.1++x.2.1)++x.2.2.1)
def ko(cs:List cD)(t:List (List Str)):Str:=gK (((Txt.join 'd' (cs.map Aj)++Str.ofString "\n")++Str.ofString " ")++Txt.join 'd' (t.map (Txt.join 'd')))
theorem oh(fs:List Str):(Txt.join 'd' fs).length=(fs.map (·.length)).sum:=by rw[pD,n6]
theorem Wd{c:cD}(g:vN c):(Aj c).length<=7:=by
 have h:=nY ((c.1++c.2.1)++c.2.2.1)
 have a1:=bz c.1 c.2.1
 have a2:=bz (c.1++c.2.1) c.2.2.1
 have g1:c.1.length<=3:=Gd.p3 g
 have g2:c.2.1.length<=2:=Gd.q2 g
 have g3:c.2.2.1.length<=2:=Gd.f2 g
 unfold Aj
 omega
theorem GN:∀{cs:List cD},(∀c∈cs,vN c)->((cs.map Aj).map (·.length)).sum<=7*cs.length
 |[],_=>ad6 _
 |c::cs,h=>by
  have h1:=Wd (h c (aew ..))
  have h2:=GN λd hd=>h d (aer _ hd)
  rw[aeJ,aeJ,ae5,aex]
  omega
theorem yj:∀(t:List (List Str)),((t.map (Txt.join 'd')).map (·.length)).sum=total t
 |[]=>rfl
 |r::t=>by
  rw[aeJ,aeJ,ae5,yj t,oh]
  unfold total lens
  rw[aeJ,ae5]
theorem oN.acD{K:W.Frag}{C CT CM:Addr}{H:Hp}{m l D:Addr}{vs:List V}{p q f:Str}{b1 b2 b3 b4:Bool}{ts:List (Str×Str)}{o:HO}(hD:H D=some (.lst vs))(hl:l≠D)(hm:∃dm y,H m=some (.ins CM dm (Y6 y l)))(h:oN K C CT CM H m p q f b1 b2 b3 b4 ts):oN K C CT CM (upd H D o) m p q f b1 b2 b3 b4 ts:=by
 obtain⟨dm,y,l',ys,e1,e2,e3,e4⟩:=h.ok
 obtain⟨dm',y',e0⟩:=hm
 rw[e1]at e0
 injection e0 with e0
 injection e0 with i1 i2 i3
 injection i3 with j1 j2
 injection j2 with j3 j4
 injection j3 with j5 j6
 injection j6 with j6
 subst j6
 refine⟨dm,y,l',ys,(az (dP e1 hD (by intro z;cases z))).trans e1,Tn.off hD (λd fs q=>by cases q) (λd q=>by cases q) e2,(az hl).trans e3,aI (λv t h=>?_) e4⟩
 obtain⟨a,q1,q2⟩:=h
 exact⟨a,q1,v9 hD q2⟩
abbrev rq(K:W.Frag)(C CT CM:Addr)(ts:List (Str×Str))(l:Addr)(H:Hp):List V->List cD->Prop:=Paired λv x=>∃m,v=.ref m/\Jz K C CT CM H m x ts/\∃dm y,H m=some (.ins CM dm (Y6 y l))
theorem rq.mono{K:W.Frag}{C CT CM l:Addr}{ts:List (Str×Str)}{H H':Hp}(s:aE H H'){vs:List V}{cs:List cD}(h:rq K C CT CM ts l H vs cs):rq K C CT CM ts l H' vs cs:=aI (λ_ _ ⟨m,e,q,dm,y,z⟩=>⟨m,e,oN.mono s q,dm,y,s _ _ z⟩) h
theorem rq.but{K:W.Frag}{C CT CM l D:Addr}{ts:List (Str×Str)}{H:Hp}{ws:List V}{o:HO}(hD:H D=some (.lst ws))(hl:l≠D){vs:List V}{cs:List cD}(h:rq K C CT CM ts l H vs cs):rq K C CT CM ts l (upd H D o) vs cs:=aI (λ_ _ ⟨m,e,q,dm,y,z⟩=>⟨m,e,oN.acD hD hl ⟨dm,y,z⟩ q,dm,y,(az (dP z hD (by intro z;cases z))).trans z⟩) h
theorem rq.off{K:W.Frag}{C CT CM CP l q dq:Addr}{fs:List (Str×V)}{ts:List (Str×Str)}{H:Hp}{o:HO}(hq:H q=some (.ins CP dq fs))(n0:∀y l,fs≠Y6 y l)(n1:∀d,fs≠tfl d)(n2:∀p q f b1 b2 b3 b4,fs≠zy p q f b1 b2 b3 b4){vs:List V}{cs:List cD}(h:rq K C CT CM ts l H vs cs):rq K C CT CM ts l (upd H q o) vs cs:=aI (λ_ _ ⟨m,e,r,dm,y,z⟩=>⟨m,e,oN.off hq n0 n1 (n2 _ _ _ _ _ _ _) r,dm,y,(az (λt=>by rw[t,hq]at z;injection z with z;injection z with z1 z2 z3;exact n0 _ _ z3)).trans z⟩) h
theorem TL{n:Str}{v:V}{r:List (Str×V)}(h:n="marker"):(∀y l,(n,v)::r≠Y6 y l)/\(∀d,(n,v)::r≠tfl d)/\(∀p q f b1 b2 b3 b4,(n,v)::r≠zy p q f b1 b2 b3 b4):=by
 subst h
 refine⟨λy l q=>?_,λd q=>?_,λp q f b1 b2 b3 b4 q=>?_⟩
 ·injection q with q1 q2;injection q1 with q3 q4;exact absurd q3 'b'
 ·injection q with q1 q2;injection q1 with q3 q4;exact absurd q3 'b'
 ·injection q with q1 q2;injection q1 with q3 q4;exact absurd q3 'b'
section
variable{good:aW->Bool}{led:aW->List (Nat×aW)}{a:aW}
end
section
variable{p q f:Str}{b1 b2 b3 b4:Bool}
end
section
variable{M:Type}[DecidableEq M]
variable{good:M->Bool}{led:M->List (Nat×M)}{a:M}
abbrev gT(M:Type):=List (M×Option (M×Nat))
def cX(cm:gT M)(m:M):Bool:=cm.any λe=>decide (e.1=m)
def gZ(p:M)(acc:gT M×List M)(e:Nat×M):gT M×List M:=if cX acc.1 e.2=true then acc else (acc.1++[(e.2,some (p,e.1))],acc.2++[e.2])
def lX(led:M->List (Nat×M))(acc:gT M×List M)(p:M):gT M×List M:=(led p).foldl (gZ p) acc
def fQ(led:M->List (Nat×M))(cm:gT M)(aJ:List M):gT M×List M:=aJ.foldl (lX led) (cm,[])
theorem jD{cm:gT M}{m:M}:cX cm m=true↔m∈cm.map (·.1):=by
 unfold cX
 rw[afO,aeR]
 constructor
 ·rintro⟨e,he,q⟩;exact⟨e,he,aez q⟩
 ·rintro⟨e,he,q⟩;exact⟨e,he,aeb q⟩
theorem TM(p:M)(acc:gT M×List M)(e:Nat×M):(gZ p acc e).1.length+acc.2.length=acc.1.length+(gZ p acc e).2.length:=by
 unfold gZ
 split
 ·rfl
 ·rw[aef,aef];show acc.1.length+1+_=_+(_+1);omega
theorem TN{α:Type}{f:α->Bool}{l:List α}{i:Nat}{m:α}(hi:l[i]?=some m)(hg:f m=true)(hb:∀m'∈l.take i,f m'=false):l.find? f=some m:=by
 have e:l=l.take i++m::l.drop (i+1):=by
  obtain⟨h1,h2⟩:=ad8.mp hi
  rw[←h2,←afC h1,afQ]
 rw[e,afV,afr.mpr (λx hx=>by rw[hb x hx];decide),ae4,hg]
 rfl
theorem TQ{α:Type}{f:α->Bool}{l:List α}(hb:∀m'∈l,f m'=false):l.find? f=none:=afr.mpr λx hx=>by rw[hb x hx];decide
theorem yk{p:M}:∀(es:List (Nat×M))(acc:gT M×List M),(es.foldl (gZ p) acc).1.length+acc.2.length=acc.1.length+(es.foldl (gZ p) acc).2.length
 |[],_=>rfl
 |e::es,acc=>by
  have h1:=TM p acc e
  have h2:=yk (p:=p) es (gZ p acc e)
  rw[aeV];omega
theorem oi{led:M->List (Nat×M)}:∀(ms:List M)(acc:gT M×List M),(ms.foldl (lX led) acc).1.length+acc.2.length=acc.1.length+(ms.foldl (lX led) acc).2.length
 |[],_=>rfl
 |m::ms,acc=>by
  have h1:=yk (p:=m) (led m) acc
  have h2:=oi (led:=led) ms (lX led acc m)
  rw[aeV]
  unfold lX at h2⊢
  omega
def B8(cm:gT M)(m:M):Option (Option (M×Nat)):=(cm.find? λe=>decide (e.1=m)).map (·.2)
inductive wg(cm:gT M):Option (M×Nat)->List Nat->Prop where
 |nil:wg cm none []
 |cons {m:M}{c:Nat}{x:Option (M×Nat)}{r:List Nat}:B8 cm m=some x->wg cm x r->wg cm (some (m,c)) (c::r)
inductive WalkG(led:M->List (Nat×M))(a:M):List Nat->M->Prop where
 |nil:WalkG led a [] a
 |snoc {xs:List Nat}{p q:M}{c:Nat}:WalkG led a xs p->(c,q)∈led p->WalkG led a (xs++[c]) q
theorem B9{cm l:gT M}{m:M}{x:Option (M×Nat)}(h:B8 cm m=some x):B8 (cm++l) m=some x:=by
 unfold B8 at h⊢
 rw[afV]
 cases e:cm.find? λe=>decide (e.1=m) with
 |none=>rw[e]at h;cases h
 |some y=>rw[e]at h;exact h
theorem TR{cm:gT M}{m:M}{x:Option (M×Nat)}(h:cX cm m=false):B8 (cm++[(m,x)]) m=some x:=by
 unfold B8
 rw[afV,afr.mpr,ae4,aeb rfl]
 ·rfl
 ·intro e he q
  have z:cX cm m=true:=afO.mpr ⟨e,he,q⟩
  rw[h]at z;cases z
theorem wg.app{cm l:gT M}{x:Option (M×Nat)}{xs:List Nat}(h:wg cm x xs):wg (cm++l) x xs:=by
 induction h with
 |nil=>exact .nil
 |cons e _ ih=>exact .cons (B9 e) ih
theorem rz{cm l:gT M}{m:M}:cX (cm++l) m=(cX cm m||cX l m):=List.any_append ..
theorem k7{m q:M}{x:Option (M×Nat)}:cX [(q,x)] m=true↔m=q:=by
 unfold cX
 rw[List.any_cons,List.any_nil,Bool.or_false]
 exact⟨λh=>(aez h).symm,λh=>aeb h.symm⟩
def oj(led:M->List (Nat×M))(a:M)(cm:gT M)(m:M)(n:Nat):Prop:=∃x xs,B8 cm m=some x/\wg cm x xs/\WalkG led a xs.reverse m/\xs.length=n
theorem oj.app{led:M->List (Nat×M)}{a m:M}{cm l:gT M}{n:Nat}(h:oj led a cm m n):oj led a (cm++l) m n:=by
 obtain⟨x,xs,h1,h2,h3,h4⟩:=h
 exact⟨x,xs,B9 h1,h2.app,h3,h4⟩
structure yl(led:M->List (Nat×M))(a:M)(cm:gT M)(k:Nat)(acc:gT M×List M):Prop where
 pre:∃l,acc.1=cm++l
 told:∀m,cX acc.1 m=true->∃n,n<=k+1/\oj led a acc.1 m n
 new:∀m∈acc.2,oj led a acc.1 m (k+1)/\cX acc.1 m=true
 old:∀m,cX acc.1 m=true->cX cm m=true\/m∈acc.2
theorem yl.vis{cm:gT M}{k:Nat}{acc:gT M×List M}{p:M}{e:Nat×M}(h:yl led a cm k acc)(hp:oj led a acc.1 p k)(he:e∈led p):yl led a cm k (gZ p acc e)/\cX (gZ p acc e).1 e.2=true/\(∃l,(gZ p acc e).1=acc.1++l):=by
 unfold gZ
 cases hh:cX acc.1 e.2 with
 |true=>rw[aee rfl];exact⟨h,hh,[],(aeD _).symm⟩
 |false =>
  rw[ad5 'c']
  obtain⟨x,xs,h1,h2,h3,h4⟩:=hp
  have hnew:oj led a (acc.1++[(e.2,some (p,e.1))]) e.2 (k+1):=by
   refine⟨some (p,e.1),e.1::xs,TR hh,.cons (B9 h1) h2.app,?_,by rw[aex,h4]⟩
   rw[afT]
   exact .snoc h3 he
  have hhas:cX (acc.1++[(e.2,some (p,e.1))]) e.2=true:=by rw[rz,k7.mpr rfl,Bool.or_true]
  refine⟨⟨?_,λm hm=>?_,λm hm=>?_,λm hm=>?_⟩,hhas,_,O⟩
  ·obtain⟨l,q⟩:=h.pre
   exact⟨l++[(e.2,some (p,e.1))],by show acc.1++_=_;rw[q,aeC]⟩
  ·have hm:cX (acc.1++[(e.2,some (p,e.1))]) m=true:=hm
   rw[rz,Bool.or_eq_true]at hm
   rcases hm with z|z
   ·obtain⟨n,hn,t⟩:=h.told m z
    exact⟨n,hn,t.app⟩
   ·rw[k7]at z;subst z
    exact⟨_,ad6 _,hnew⟩
  ·rcases aej.mp hm with z|z
   ·obtain⟨t,u⟩:=h.new m z
    exact⟨t.app,by show cX (acc.1++_) m=true;rw[rz,u];rfl⟩
   ·rw[ad7.mp z];exact⟨hnew,hhas⟩
  ·have hm:cX (acc.1++[(e.2,some (p,e.1))]) m=true:=hm
   rw[rz,Bool.or_eq_true]at hm
   rcases hm with z|z
   ·rcases h.old m z with y|y
    ·exact .inl y
    ·exact .inr (aeX _ y)
   ·rw[k7]at z;subst z
    exact .inr (aeI _ (ad7.mpr rfl))
theorem wj{cm l:gT M}{m:M}(h:cX cm m=true):cX (cm++l) m=true:=by rw[rz,h];rfl
theorem yl.S8{cm:gT M}{k:Nat}{p:M}:∀{es:List (Nat×M)}{acc:gT M×List M},yl led a cm k acc->oj led a acc.1 p k->(∀e∈es,e∈led p)->yl led a cm k (es.foldl (gZ p) acc)/\(∀e∈es,cX (es.foldl (gZ p) acc).1 e.2=true)/\∃l,(es.foldl (gZ p) acc).1=acc.1++l
 |[],acc,h,_,_=>⟨h,(λ_ z=>nomatch z),[],(aeD _).symm⟩
 |e::es,acc,h,hp,he=>by
  obtain⟨h1,h2,l,h3⟩:=h.vis hp (he e (aew ..))
  have hp1:oj led a (gZ p acc e).1 p k:=by rw[h3];exact hp.app
  obtain⟨g1,g2,l',g3⟩:=yl.S8 h1 hp1 λe' z=>he e' (aer _ z)
  rw[aeV]
  refine⟨g1,λe' z=>?_,l++l',by rw[g3,h3,aeC]⟩
  rcases aeh.mp z with y|y
  ·subst y;rw[g3];exact wj h2
  ·exact g2 e' y
theorem yl.S9{cm:gT M}{k:Nat}:∀{ms:List M}{acc:gT M×List M},yl led a cm k acc->(∀p∈ms,oj led a acc.1 p k)->yl led a cm k (ms.foldl (lX led) acc)/\(∀p∈ms,∀e∈led p,cX (ms.foldl (lX led) acc).1 e.2=true)/\∃l,(ms.foldl (lX led) acc).1=acc.1++l
 |[],acc,h,_=>⟨h,(λ_ z=>nomatch z),[],(aeD _).symm⟩
 |p::ms,acc,h,hp=>by
  obtain⟨h1,h2,l,h3⟩:=h.S8 (p:=p) (es:=led p) (hp p (aew ..)) λe z=>z
  have h1:yl led a cm k (lX led acc p):=h1
  have h3:(lX led acc p).1=acc.1++l:=h3
  have h2:∀e∈led p,cX (lX led acc p).1 e.2=true:=h2
  obtain⟨g1,g2,l',g3⟩:=yl.S9 h1 λp' z=>by rw[h3];exact(hp p' (aer _ z)).app
  rw[aeV]
  refine⟨g1,λp' z e' ze=>?_,l++l',by rw[g3,h3,aeC]⟩
  rcases aeh.mp z with y|y
  ·subst y;rw[g3];exact wj (h2 e' ze)
  ·exact g2 p' y e' ze
structure DN(good:M->Bool)(led:M->List (Nat×M))(a:M)(cm:gT M)(aJ:List M)(k:Nat):Prop where
 told:∀m,cX cm m=true->∃n,n<=k/\oj led a cm m n
 edg:∀m∈aJ,oj led a cm m k/\cX cm m=true
 all:∀ys m,WalkG led a ys m->ys.length<=k->cX cm m=true
 shut:∀p,cX cm p=true->p∉aJ->∀e∈led p,cX cm e.2=true
 bad:∀p,cX cm p=true->p∉aJ->good p=false
 less:∀ys m,WalkG led a ys m->ys.length<k->good m=false
theorem DN.go{cm:gT M}{aJ:List M}{k:Nat}(h:DN good led a cm aJ k)(hf:aJ.find? good=none):DN good led a (fQ led cm aJ).1 (fQ led cm aJ).2 (k+1):=by
 have hm:yl led a cm k (cm,[]):=⟨⟨[],(aeD _).symm⟩,λm hm=>by obtain⟨n,hn,t⟩:=h.told m hm;exact⟨n,by omega,t⟩,(λ_ z=>nomatch z),λm hm=>.inl hm⟩
 obtain⟨g1,g2,l,g3⟩:=hm.S9 (ms:=aJ) λp hp=>(h.edg p hp).1
 have hno:∀m∈aJ,good m=false:=λm hm=>by
  have:=afr.mp hf m hm
  cases e:good m with
  |true=>exact absurd e this
  |false=>rfl
 have hbad:∀p,cX cm p=true->good p=false:=λp hp=>by
  by_cases q:p∈aJ
  ·exact hno p q
  ·exact h.bad p hp q
 have Jj:∀p,cX cm p=true->∀e∈led p,cX (fQ led cm aJ).1 e.2=true:=λp hp e he=>by
  by_cases q:p∈aJ
  ·exact g2 p q e he
  ·unfold fQ;rw[g3];exact wj (h.shut p hp q e he)
 refine⟨g1.told,g1.new,λys m hw hl=>?_,λp hp hq e he=>?_,λp hp hq=>?_,λys m hw hl=>?_⟩
 ·cases hw with
  |nil=>unfold fQ;rw[g3];exact wj (h.all [] a .nil (aeA _))
  |@snoc xs p q c hw1 he =>
   rw[aef]at hl
   exact Jj p (h.all xs p hw1 (by simpa using hl)) _ he
 ·rcases g1.old p hp with z|z
  ·exact Jj p z e he
  ·exact absurd z hq
 ·rcases g1.old p hp with z|z
  ·exact hbad p z
  ·exact absurd z hq
 ·exact hbad m (h.all ys m hw 'f')
theorem DN.zero:DN good led a [(a,none)] [a] 0:=by
 have hv:oj led a [(a,none)] a 0:=⟨none,[],by unfold B8;rw[ae4,aeb rfl];rfl,.nil,.nil,rfl⟩
 have ha:cX [(a,none)] a=true:=k7.mpr rfl
 refine⟨λm hm=>?_,λm hm=>?_,λys m hw hl=>?_,λp hp hq=>?_,λp hp hq=>?_,λys m hw hl=>absurd hl (Nat.not_lt_zero _)⟩
 ·rw[k7.mp hm];exact⟨0,ad6 _,hv⟩
 ·rw[ad7.mp hm];exact⟨hv,ha⟩
 ·cases hw with
  |nil=>exact ha
  |snoc _ _=>rw[aef]at hl;simp at hl
 ·exact absurd (ad7.mpr (k7.mp hp)) hq
 ·exact absurd (ad7.mpr (k7.mp hp)) hq
end
section
variable{M:Type}[DecidableEq M]{good:M->Bool}{led:M->List (Nat×M)}{most:Option Nat}{a:M}
theorem We{p:M}{acc:gT M×List M}{e:Nat×M}(h:(acc.1.map (·.1)).Nodup):((gZ p acc e).1.map (·.1)).Nodup:=by
 unfold gZ
 by_cases q:cX acc.1 e.2=true
 ·rw[aee q];exact h
 ·rw[ad5 q,aeo,List.nodup_append]
  refine⟨h,by simp,λx hx y hy z=>q (jD.mpr ?_)⟩
  rw[ad7.mp hy]at z
  have z:x=e.2:=z
  rw[←z];exact hx
theorem JA{p:M}:∀{es:List (Nat×M)}{acc:gT M×List M},(acc.1.map (·.1)).Nodup->((es.foldl (gZ p) acc).1.map (·.1)).Nodup
 |[],_,h=>h
 |e::es,acc,h=>by rw[aeV];exact JA (We h)
theorem JB:∀{ms:List M}{acc:gT M×List M},(acc.1.map (·.1)).Nodup->((ms.foldl (lX led) acc).1.map (·.1)).Nodup
 |[],_,h=>h
 |m::ms,acc,h=>by rw[aeV];exact JB (JA h)
inductive Ca(good:M->Bool)(led:M->List (Nat×M))(most:Option Nat):gT M->List M->Option M->gT M->Prop where
 |stop {cm:gT M}:Ca good led most cm [] none cm
 |found {cm:gT M}{aJ:List M}{m:M}:aJ.find? good=some m->Ca good led most cm aJ (some m) cm
 |over {cm:gT M}{aJ:List M}{n:Nat}:most=some n->aJ≠[]->aJ.find? good=none->n<cm.length->Ca good led most cm aJ none cm
 |go {cm sR:gT M}{aJ:List M}{r:Option M}:aJ≠[]->aJ.find? good=none->(∀n,most=some n->cm.length<=n)->Ca good led most (fQ led cm aJ).1 (fQ led cm aJ).2 r sR->Ca good led most cm aJ r sR
structure Wf(good:M->Bool)(led:M->List (Nat×M))(most:Option Nat)(a:M)(r:Option M)(cm:gT M)(aJ:List M)(k:Nat):Prop where
 c7:DN good led a cm aJ k
 nd:(cm.map (·.1)).Nodup
 res:r=aJ.find? good
 why:r=none->aJ=[]\/∃n,most=some n/\n<cm.length
 len:aJ≠[]->k<=cm.length
 few:aJ.length<=cm.length
end
theorem jx{P:Program}{w:World}{K:W.Frag}{H:Hp}{m:dM}{b:Addr}(h:dD K H m (.ref b)):oX (YP P w K) H (bE m) b:=by
 obtain⟨b',s,u,vs,e1,e2,e3,e4,e5⟩:=h
 cases e1
 exact Sy e2 e3 e4 e5
def wk(K:W.Frag)(x:Option (dM×Nat))(H:Hp)(v:V):Prop:=match x with
 |none=>v=.non
 |some (m,c)=>∃t w,v=.ref t/\aX K H t [w,.str (sg c)]/\dD K H m w
abbrev tU(K:W.Frag)(H:Hp):List (N3 (Lf⊕List (Lf⊕List (Lf⊕List Lf))))->(gT dM)->Prop:=Paired λe p=>e.1=bE p.1/\dD K H p.1 (.ref e.2.1)/\wk K p.2 H e.2.2
structure iN(P:Program)(w:World)(K:W.Frag)(H:Hp)(a:Addr)(cm:(gT dM)):Prop where
 ok:∃kvs,Nd (YP P w K) (aY P w) H a kvs/\tU K H kvs cm
theorem wk.keep{K:W.Frag}{H H':Hp}{x:Option (dM×Nat)}{v:V}(t:∀b xs,aX K H b xs->aX K H' b xs)(h:wk K x H v):wk K x H' v:=by
 cases x with
 |none=>exact h
 |some mc=>obtain⟨t1,w1,e1,e2,e3⟩:=h;exact⟨t1,w1,e1,t _ _ e2,e3.keep t⟩
theorem tU.keep{K:W.Frag}{H H':Hp}(t:∀b xs,aX K H b xs->aX K H' b xs):∀{kvs:List (N3 (Lf⊕List (Lf⊕List (Lf⊕List Lf))))}{cm:(gT dM)},tU K H kvs cm->tU K H' kvs cm
 |_,_,.nil=>.nil
 |_,_,.cons a r=>.cons ⟨a.1,a.2.1.keep t,a.2.2.keep t⟩ (tU.keep t r)
theorem iN.mono{P:Program}{w:World}{K:W.Frag}{H H':Hp}{a:Addr}{cm:(gT dM)}(s:aE H H')(h:iN P w K H a cm):iN P w K H' a cm:=by
 obtain⟨kvs,d,r⟩:=h.ok
 exact⟨kvs,d.mono s,r.keep λb xs q=>aA s q⟩
theorem iN.but{P:Program}{w:World}{K:W.Frag}{H:Hp}{a l:Addr}{cm:(gT dM)}{ws:List V}{o:HO}(hl:H l=some (.lst ws))(h:iN P w K H a cm):iN P w K (upd H l o) a cm:=by
 obtain⟨kvs,d,r⟩:=h.ok
 have t:∀b xs,aX K H b xs->aX K (upd H l o) b xs:=λb xs q=>fO hl q
 exact⟨kvs,⟨(az (dP d.ob hl (λq=>nomatch q))).trans d.ob,λe he=>(d.keys e he).keep t⟩,r.keep t⟩
theorem ym{K:W.Frag}{H:Hp}{m:dM}:∀{kvs:List (N3 (Lf⊕List (Lf⊕List (Lf⊕List Lf))))}{cm:(gT dM)},tU K H kvs cm->(valN kvs (bE m)).isSome=cX cm m
 |_,_,.nil=>rfl
 |e::kvs,p::cm,.cons a r=>by
  have ih:=ym (m:=m) r
  unfold valN cX at ih⊢
  rw[ae4,List.any_cons,a.1]
  by_cases q:p.1=m
  ·rw[aeb q,aeb (by rw[q])];rfl
  ·rw[aeg q,aeg (λz=>q (uQ.mp z)),Bool.false_or];exact ih
theorem yo{K:W.Frag}{H:Hp}{kvs:List (N3 (Lf⊕List (Lf⊕List (Lf⊕List Lf))))}{cm:(gT dM)}(h:tU K H kvs cm):kvs.length=cm.length:=afm h
theorem Nd.acE{P:Program}{w:World}{K:W.Frag}{H:Hp}{a b:Addr}{k:List (Lf⊕List (Lf⊕List (Lf⊕List Lf)))}{v:V}(h:H a=some (dN (ZP P w) (aY P w) a []))(e:oX (YP P w K) H k b):Nd (YP P w K) (aY P w) (upd H a (dN (ZP P w) (aY P w) a [(k,b,v)])) a [(k,b,v)]:=by
 refine⟨ai,λp hp=>?_⟩
 rw[ad7.mp hp]
 exact e.keep (jK h)
theorem iN.one{P:Program}{w:World}{K:W.Frag}{H:Hp}{a b:Addr}{m:dM}(h:H a=some (dN (ZP P w) (aY P w) a []))(hm:dD K H m (.ref b)):iN P w K (upd H a (dN (ZP P w) (aY P w) a [(bE m,b,.non)])) a [(m,none)]:=by
 have e2:=jx (P:=P) (w:=w) hm
 have t:=jK (F:=K) h (o:=dN (ZP P w) (aY P w) a [(bE m,b,.non)])
 exact⟨_,Nd.acE h (e2),.cons ⟨O,hm.keep t,O⟩ .nil⟩
theorem iN.put{P:Program}{w:World}{K:W.Frag}{H:Hp}{a b:Addr}{m:dM}{cm:(gT dM)}{kvs:List (N3 (Lf⊕List (Lf⊕List (Lf⊕List Lf))))}{x:Option (dM×Nat)}{v:V}(d:Nd (YP P w K) (aY P w) H a kvs)(r:tU K H kvs cm)(hm:dD K H m (.ref b))(hn:cX cm m=false)(hv:wk K x H v):iN P w K (upd H a (dN (ZP P w) (aY P w) a (putN kvs (bE m) b v))) a (cm++[(m,x)]):=by
 have e2:=jx (P:=P) (w:=w) hm
 have t:=jK (F:=K) d.ob (o:=dN (ZP P w) (aY P w) a (putN kvs (bE m) b v))
 refine⟨_,d.put (e2),?_⟩
 have q:=ym (m:=m) r
 rw[hn]at q
 have hv0:valN kvs (bE m)=none:=by
  cases z:valN kvs (bE m) with
  |none=>rfl
  |some y=>rw[z]at q;cases q
 rw[nU hv0]
 rw[nU hv0]at t
 exact bM (r.keep t) (.cons ⟨rfl,hm.keep t,hv.keep t⟩ .nil)
theorem Ai.keep{K:W.Frag}{H H':Hp}(t1:∀b xs,H b=some (.tup xs)->H' b=some (.tup xs))(t:∀b xs,aX K H b xs->aX K H' b xs):∀{vs:List V}{es:List (Nat×dM)},Ai K H vs es->Ai K H' vs es
 |_,_,.nil=>.nil
 |_,_,.cons ⟨x,w,e,h,q⟩ r=>.cons ⟨x,w,e,t1 _ _ h,q.keep t⟩ (Ai.keep t1 t r)
abbrev wm(K:W.Frag)(H:Hp):List V->List dM->Prop:=Paired λv m=>dD K H m v
theorem wm.keep{K:W.Frag}{H H':Hp}(t:∀b xs,aX K H b xs->aX K H' b xs):∀{vs:List V}{ms:List dM},wm K H vs ms->wm K H' vs ms
 |_,_,.nil=>.nil
 |_,_,.cons a r=>.cons (a.keep t) (wm.keep t r)
theorem yp{K:W.Frag}{H:Hp}{m:dM}{x:Option (dM×Nat)}:∀{kvs:List (N3 (Lf⊕List (Lf⊕List (Lf⊕List Lf))))}{cm:(gT dM)},tU K H kvs cm->B8 cm m=some x->∃v,valN kvs (bE m)=some v/\wk K x H v
 |_,_,.nil,h=>by cases h
 |e::kvs,p::cm,.cons a r,h=>by
  unfold B8 at h
  unfold valN
  rw[ae4]at h⊢
  rw[a.1]
  by_cases q:p.1=m
  ·rw[aeb q]at h
   rw[aeb (by rw[q])]
   cases h
   exact⟨_,O,a.2.2⟩
  ·rw[aeg q]at h
   rw[aeg (λz=>q (uQ.mp z))]
   exact yp r h
def acF(K:W.Frag)(x:Option dM)(H:Hp)(v:V):Prop:=match x with
 |none=>v=.non
 |some m=>dD K H m v
theorem TU{x:cD}{cs:List cD}{ts:List (Str×Str)}{z:Str}{m:dM}(hm:m.2.length=cs.length){e:Nat×dM}(he:e∈d9 x cs ts z m):e.2.2.length=cs.length:=by
 obtain⟨c,_,hc⟩:=afj.mp he
 cases h:tH x ts m.1 c with
 |none=>rw[h]at hc;cases hc
 |some m'=>rw[h]at hc;cases hc;show(gY cs ts m.2 c).length=_;unfold gY;rw[aec,List.length_zip,hm,Nat.min_self]
theorem E5{x:cD}{cs:List cD}{ts:List (Str×Str)}{z:Str}{m:dM}:(d9 x cs ts z m).length<=z.length:=by
 unfold d9
 refine aep (List.length_filterMap_le ..) ?_
 rw[aeq];exact ad6 _
theorem jy{K:W.Frag}{H:Hp}{m:dM}{v:V}(h:dD K H m v):∃b,v=.ref b:=let ⟨b,_,_,_,e,_⟩:=h;⟨b,e⟩
theorem Cb{K:W.Frag}{H:Hp}:∀{kvs:List (N3 (Lf⊕List (Lf⊕List (Lf⊕List Lf))))}{cm:gT dM},tU K H kvs cm->wm K H (kvs.map λe=>V.ref e.2.1) (cm.map (·.1))
 |_,_,.nil=>.nil
 |_,_,.cons a r=>.cons a.2.1 (Cb r)
section
variable{M:Type}[DecidableEq M]{good:M->Bool}{led:M->List (Nat×M)}{n:Nat}{a:M}
theorem TV{cm sR:gT M}{aJ:List M}{r:Option M}(h:Ca good led (some n) cm aJ r sR):∀{k:Nat},DN good led a cm aJ k->(cm.map (·.1)).Nodup->(aJ≠[]->k<=cm.length)->aJ.length<=cm.length->k<=n+1->∃Xw k',Wf good led (some n) a r sR Xw k'/\(Xw≠[]->k'<=n+1):=by
 generalize hmo:some n=most at h
 induction h with
 |stop=>intro k L nd hk hf hk2;exact⟨_,k,⟨L,nd,rfl,(λ_=>.inl rfl),hk,hf⟩,λ_=>hk2⟩
 |found hF=>intro k L nd hk hf hk2;exact⟨_,k,⟨L,nd,hF.symm,(λz=>nomatch z),hk,hf⟩,λ_=>hk2⟩
 |@over cm aJ n' hn _ hF hlt=>intro k L nd hk hf hk2;exact⟨_,k,⟨L,nd,hF.symm,(λ_=>.inr ⟨n',hn,hlt⟩),hk,hf⟩,λ_=>hk2⟩
 |@go cm sR aJ r hne hF hm hR ih =>
  intro k L nd hk hf hk2
  have q:=oi (led:=led) aJ (cm,[])
  simp only[afp,afZ]at q
  have h1:=hm n hmo.symm
  have h2:=hk hne
  refine ih (L.go hF) (JB nd) (λz=>?_) (by unfold fQ;omega) 'f'
  have:=af1.mpr z
  unfold fQ at *
  omega
theorem TX{cm:gT M}{r:Option M}(h:Ca good led (some n) [(a,none)] [a] r cm):∃aJ k,Wf good led (some n) a r cm aJ k/\(aJ≠[]->k<=n+1):=TV h DN.zero (by simp) (λ_=>aeA _) (by simp) (aeA _)
end
def acG(K:W.Frag)(led:dM->List (Nat×dM))(p0:dM)(n:Nat)(r:Option dM)(cm:gT dM)(k:Nat)(H0 H:Hp)(t:Addr):Prop:=match r with
 |some m=>∃xs,H t=some (.tup [.str ("text":Str),.str (Txt.join 'd' (xs.map sg))])/\WalkG led p0 xs m/\xs.length=k/\k<=n+1
 |none=>(n<cm.length/\H t=some (.tup [.str ("open":Str)]))\/(cm.length<=n/\∃l vs,H t=some (.tup [.str ("none":Str),.ref l])/\H0 l=none/\H l=some (.lst vs)/\wm K H vs (cm.map (·.1)))
theorem JC{cs:List cD}{t:List (List Str)}(gs:∀c∈cs,vN c)(tok:TabOk t):(ko cs t).length<=7*cs.length+402:=by
 have n1:(Str.ofString "\n").length=1:=by decide +kernel
 have n2:(" ":Str).length=1:=by decide +kernel
 have a0:=GN gs
 have j1:=oh (cs.map Aj)
 have j2:=oh (t.map (Txt.join 'd'))
 have c1:=yj t
 have ts:=tok.sum
 unfold ko
 generalize Txt.join 'd' (cs.map Aj)=S1 at j1⊢
 generalize Txt.join 'd' (t.map (Txt.join 'd'))=S2 at j2⊢
 have a1:=bz S1 (Str.ofString "\n")
 have a2:=bz (S1++Str.ofString "\n") (" ":Str)
 have a3:=bz ((S1++Str.ofString "\n")++Str.ofString " ") S2
 have m1:=nY (((S1++Str.ofString "\n")++Str.ofString " ")++S2)
 omega
def OkM(x:cD)(ts:List (Str×Str))(m:aW):Prop:=i8 x.2.1 m.1.1 m.1.2/\m.2<=ts.length
def Wg(x:cD)(cs:List cD)(ts:List (Str×Str))(m:dM)(c:Nat):Option dM:=(tH x ts m.1 c).map λm'=>(m',gY cs ts m.2 c)
theorem Xx(l:List Nat)(c:Nat):away ⟨l.toArray⟩ c=true↔c∉l:=by
 rw[kU]
theorem E6{acc:List Nat}{c:Nat}(h:c∈acc):ff acc c=acc:=by
 unfold ff
 rw[ad5]
 rw[Xx]
 exact λz=>z h
theorem Pf(l:List Nat):∀acc:List Nat,(cR l).foldl ff acc=l.foldl ff acc:=by
 suffices h:∀(r:List Nat)(acc:List Nat),(cR r.reverse).foldl ff acc=r.reverse.foldl ff acc by
  intro acc;have:=h l.reverse acc;rwa [List.reverse_reverse]at this
 intro r
 induction r with
 |nil=>intro acc;rfl
 |cons c r ih =>
  intro acc
  rw[afT,kZ,aeN]
  show _=ff (r.reverse.foldl ff acc) c
  by_cases hc:c∈cR r.reverse
  ·rw[E6 hc,ih,E6]
   rw[←ih]
   exact(sS _ _).mpr (.inr hc)
  ·have e:ff (cR r.reverse) c=cR r.reverse++[c]:=by
    unfold ff
    rw[aee]
    rw[Xx]
    exact hc
   rw[e,aeN,ih]
   rfl
theorem TY(a b c:List Nat):cR (a++cR b++c)=cR (a++b++c):=by
 unfold cR
 rw[aeN,aeN,aeN,aeN]
 have:=Pf b (a.foldl ff [])
 unfold cR at this
 rw[this]
theorem E7:∀(xs:List (List Nat))(a c:List Nat),cR (a++(xs.map cR).flatten++c)=cR (a++xs.flatten++c)
 |[],_,_=>rfl
 |x::xs,a,c=>by
  rw[aeJ,List.flatten_cons,List.flatten_cons,←aeC,aeC (a++cR x),TY a x,←aeC,E7 xs (a++x) c,aeC a x]
def Xy(x:cD):Str:=(x.1++x.2.1)++x.2.2.1
theorem E8:∀(r:List Str),(bW r).cps.toList=(r.map λz=>z.cps.toList).flatten
 |[]=>sQ
 |z::r=>by show(z++bW r).cps.toList=_;rw[app_list,E8 r];rfl
theorem Ob(cs:List cD)(t:List (List Str)):gK ((bW (cs.map Xy)++Str.ofString "\n ")++bW (t.map bW))=ko cs t:=by
 unfold ko gK
 rw[pD,pD]
 have e2:t.map (Txt.join 'd')=t.map bW:=af2 λr _=>pD r
 rw[e2]
 have en:(Str.ofString "\n ").cps.toList=(Str.ofString "\n").cps.toList++(" ":Str).cps.toList:=by decide +kernel
 simp only[app_list,E8,en]
 have h:=E7 (cs.map λc=>(Xy c).cps.toList) [] (((Str.ofString "\n").cps.toList++(" ":Str).cps.toList)++(List.map (λz=>z.cps.toList) (List.map bW t)).flatten)
 rw[afw,afw]at h
 have e3:(cs.map λc=>(Xy c).cps.toList).map cR=(cs.map Aj).map λz=>z.cps.toList:=by
  rw[List.map_map,List.map_map];exact af2 λc _=>rfl
 rw[e3]at h
 congr 2
 simp only[aeC,List.map_map]at h⊢
 exact h.symm
section
variable{p q f:Str}{b1 b2 b3 b4:Bool}{ts:List (Str×Str)}
theorem TZ{m m':aW}{c:Nat}(h:i8 q m.1.1 m.1.2)(hn:m.2<=ts.length)(e:fh p q f b1 b2 b3 b4 ts m c=some m'):i8 q m'.1.1 m'.1.2/\m'.2<=ts.length:=by
 obtain⟨k,hs,hl,hc⟩:=GJ e
 refine⟨iM h hs,?_⟩
 unfold i9 at hc
 by_cases hk:bC k ("skip":Str)=true
 ·rw[aee hk]at hc
  have e:m.2=m'.2:=aes hc
  omega
 ·rw[ad5 hk]at hc
  by_cases ht:ts[m.2]?=some (k,if bC k ("put":Str)=true then sg c else Str.ofString "")
  ·rw[aee ht]at hc
   have e:m.2+1=m'.2:=aes hc
   have hlt:=(ad8.mp ht).1
   omega
  ·rw[ad5 ht]at hc;cases hc
end
theorem OkM.step{x:cD}{ts:List (Str×Str)}{m m':aW}{c:Nat}(h:OkM x ts m)(e:tH x ts m c=some m'):OkM x ts m':=TZ h.1 h.2 e
theorem abm(x:cD)(ts:List (Str×Str)):OkM x ts stM:=⟨.inl ⟨rfl,.inl rfl⟩,aeA _⟩
abbrev tV(K:W.Frag)(H:Hp):List (N3 (Lf⊕List (Lf⊕List (Lf⊕List Lf))))->gT dM->Prop:=Paired λe p=>e.1=bE p.1/\dD K H p.1 (.ref e.2.1)
structure JD(P:Program)(w:World)(K:W.Frag)(H:Hp)(a:Addr)(cm:gT dM):Prop where
 ok:∃kvs,Nd (YP P w K) (aY P w) H a kvs/\tV K H kvs cm
theorem tV.keep{K:W.Frag}{H H':Hp}(t:∀b xs,aX K H b xs->aX K H' b xs):∀{kvs:List (N3 (Lf⊕List (Lf⊕List (Lf⊕List Lf))))}{cm:gT dM},tV K H kvs cm->tV K H' kvs cm
 |_,_,.nil=>.nil
 |_,_,.cons a r=>.cons ⟨a.1,a.2.keep t⟩ (tV.keep t r)
theorem JD.mono{P:Program}{w:World}{K:W.Frag}{H H':Hp}{a:Addr}{cm:gT dM}(s:aE H H')(h:JD P w K H a cm):JD P w K H' a cm:=by
 obtain⟨kvs,d,r⟩:=h.ok
 exact⟨kvs,d.mono s,tV.keep (λb xs q=>aA s q) r⟩
theorem sW{K:W.Frag}{H:Hp}{m:dM}:∀{kvs:List (N3 (Lf⊕List (Lf⊕List (Lf⊕List Lf))))}{cm:gT dM},tV K H kvs cm->(valN kvs (bE m)).isSome=cX cm m
 |_,_,.nil=>rfl
 |e::kvs,p::cm,.cons a r=>by
  have ih:=sW (m:=m) r
  unfold valN cX at ih⊢
  rw[ae4,List.any_cons,a.1]
  by_cases q:p.1=m
  ·rw[aeb q,aeb (by rw[q])];rfl
  ·rw[aeg q,aeg (λz=>q (uQ.mp z)),Bool.false_or];exact ih
theorem JD.put{P:Program}{w:World}{K:W.Frag}{H:Hp}{a b:Addr}{m:dM}{cm:gT dM}{kvs:List (N3 (Lf⊕List (Lf⊕List (Lf⊕List Lf))))}{x:Option (dM×Nat)}{v:V}(d:Nd (YP P w K) (aY P w) H a kvs)(r:tV K H kvs cm)(hm:dD K H m (.ref b))(hn:cX cm m=false):JD P w K (upd H a (dN (ZP P w) (aY P w) a (putN kvs (bE m) b v))) a (cm++[(m,x)]):=by
 have e2:=jx (P:=P) (w:=w) hm
 have t:=jK (F:=K) d.ob (o:=dN (ZP P w) (aY P w) a (putN kvs (bE m) b v))
 refine⟨_,d.put (e2),?_⟩
 have q:=sW (m:=m) r
 rw[hn]at q
 have hv0:valN kvs (bE m)=none:=by
  cases z:valN kvs (bE m) with
  |none=>rfl
  |some y=>rw[z]at q;cases q
 rw[nU hv0]
 rw[nU hv0]at t
 exact bM (tV.keep t r) (.cons ⟨rfl,hm.keep t⟩ .nil)
theorem JE{x:cD}{cs:List cD}{ts:List (Str×Str)}{z:Str}{m:dM}{e:Nat×dM}(h:e∈d9 x cs ts z m):Wg x cs ts m e.1=some e.2:=by
 obtain⟨c,_,hc⟩:=afj.mp h
 unfold Wg
 cases hM:tH x ts m.1 c with
 |none=>rw[hM]at hc;cases hc
 |some m'=>rw[hM]at hc;cases hc;rw[hM];rfl
theorem yq{ts:List (Str×Str)}{c:Nat}{g:cD->Option aW}:∀(cs:List cD),gY cs ts (cs.map g) c=cs.map λy=>Jy y ts (g y) c
 |[]=>rfl
 |y::cs=>by
  have ih:=yq (ts:=ts) (c:=c) (g:=g) cs
  unfold gY at ih⊢
  rw[aeJ,List.zip_cons_cons,aeJ,aeJ,ih]
def tK(y:cD)(ts:List (Str×Str))(xs:List Nat):Option aW:=Xs y.1 y.2.1 y.2.2.1 y.2.2.2.a y.2.2.2.b y.2.2.2.c y.2.2.2.d ts m0 xs
theorem sY{y:cD}{ts:List (Str×Str)}{xs:List Nat}{c:Nat}:tK y ts (xs++[c])=Jy y ts (tK y ts xs) c:=by unfold tK;rw[Jw];rfl
theorem Xz{x:cD}{cs:List cD}{ts:List (Str×Str)}{z:Str}{xs:List Nat}{m:dM}(h:WalkG (d9 x cs ts z) (gF cs.length) xs m):tK x ts xs=some m.1/\m.2=cs.map λy=>tK y ts xs:=by
 induction h with
 |nil =>
  refine⟨O,?_⟩
  show List.replicate cs.length (some stM)=_
  have e:(cs.map λy=>tK y ts [])=cs.map λ_=>some stM:=af2 λy _=>rfl
  rw[e,List.map_const']
 |@snoc xs p q c _ he ih =>
  have hb:=JE he
  unfold Wg at hb
  rw[sY,ih.1]
  cases hM:tH x ts p.1 c with
  |none=>rw[hM]at hb;cases hb
  |some m' =>
   rw[hM]at hb
   have hb:some (m',gY cs ts p.2 c)=some q:=hb
   cases hb
   refine⟨hM,?_⟩
   show gY cs ts p.2 c=_
   rw[ih.2,yq]
   exact af2 λy _=>sY.symm
theorem E9{x:cD}{cs:List cD}{t:List (List Str)}{z:Str}{xs:List Nat}{m:dM}(tok:TabOk t)(h:WalkG (d9 x cs (aD t) z) (gF cs.length) xs m)(hg:gO (aD t) m=true):zE x cs t (Txt.join 'd' (xs.map sg))=true:=by
 obtain⟨h1,h2⟩:=Xz h
 have hlo:∀r∈t,1<=r.length:=λr hr=>(tok.rows r hr).lo
 unfold gO at hg
 rw[ae7]at hg
 have g1:=aez hg.1
 unfold zE
 rw[ae7]
 refine⟨?_,?_⟩
 ·rw[Xv hlo,rm]
  refine aeb ?_
  show tK x (aD t) xs=_
  rw[h1,g1];rfl
 ·have g2:=hg.2
  rw[h2,List.any_map]at g2
  rw[←g2]
  congr 2
  funext y
  rw[Xv hlo,rm]
  rfl
theorem abn{t:List (List Str)}(h:TabOk t)(hl:cells t+total t<=18):(aD t).length<=24:=by rw[V8 h.rows];omega
theorem Wh{q w u:Str}(h:i8 q w u):(w,u)∈cont q.cps.toList:=by
 unfold cont
 rcases h with ⟨rfl,h⟩|⟨c,hc,rfl,h⟩
 ·refine aeX _ ?_
  unfold c5
  rcases h with rfl|rfl|rfl|rfl|rfl<;>simp
 ·refine aeI _ (afl.mpr ⟨c,hc,?_⟩)
  unfold c3
  rcases h with rfl|rfl|rfl<;>simp
def OkL(x:cD)(ts:List (Str×Str))(m:aW):Prop:=OkM x ts m/\cQ x.2.2.1 m.1.1 m.1.2=true
def T3(cs:List cD)(ts:List (Str×Str))(os:List (Option aW)):Prop:=Paired (λx o=>∀m,o=some m->OkL x ts m) cs os
def Zd(x:cD)(cs:List cD)(ts:List (Str×Str))(m:dM):Prop:=OkL x ts m.1/\T3 cs ts m.2
theorem JF{x:cD}{ts:List (Str×Str)}{m m':aW}{c:Nat}(h:OkL x ts m)(e:tH x ts m c=some m'):OkL x ts m':=⟨OkM.step h.1 e,(GJ e).choose_spec.2.1⟩
theorem Fb{ts:List (Str×Str)}{c:Nat}:∀{cs:List cD}{os:List (Option aW)},T3 cs ts os->T3 cs ts (gY cs ts os c)
 |_,_,.nil=>.nil
 |x::cs,o::os,.cons a r=>by
  refine .cons (λm' e=>?_) (Fb r)
  cases o with
  |none=>cases e
  |some m=>exact JF (a m rfl) e
theorem T4(x:cD)(ts:List (Str×Str)):OkL x ts stM:=⟨abm x ts,vX x.2.2.1⟩
theorem Cd{ts:List (Str×Str)}:∀(cs:List cD),T3 cs ts (List.replicate cs.length (some stM))
 |[]=>.nil
 |x::cs=>.cons (λm e=>by cases e;exact T4 x ts) (Cd cs)
theorem JG{x:cD}{cs:List cD}{ts:List (Str×Str)}{z:Str}{xs:List Nat}{m:dM}(h:WalkG (d9 x cs ts z) (gF cs.length) xs m):Zd x cs ts m:=by
 induction h with
 |nil=>exact⟨T4 x ts,Cd cs⟩
 |@snoc xs p q c _ he ih =>
  have hb:=JE he
  unfold Wg at hb
  cases hM:tH x ts p.1 c with
  |none=>rw[hM]at hb;cases hb
  |some m' =>
   rw[hM]at hb
   have hb:some (m',gY cs ts p.2 c)=some q:=hb
   cases hb
   exact⟨JF ih.1 hM,Fb ih.2⟩
def T5(ms:List dM):gT dM:=ms.map λm=>(m,none)
theorem GO{ms:List dM}{m:dM}:cX (T5 ms) m=true↔m∈ms:=by
 rw[jD]
 unfold T5
 rw[List.map_map]
 show m∈ms.map (λm=>m)↔_
 rw[List.map_id']
theorem T6(ms:List dM)(m:dM):T5 (ms++[m])=T5 ms++[(m,none)]:=by unfold T5;rw[aeo];rfl
theorem T7{α:Type}{l:List α}(h:l.Nodup){i:Nat}{x:α}(hx:l[i]?=some x):x∉l.take i:=by
 intro hm
 have e:l=l.take i++x::l.drop (i+1):=by
  obtain⟨h1,h2⟩:=ad8.mp hx
  rw[←h2,←afC h1,afQ]
 rw[e,List.nodup_append]at h
 exact h.2.2 x hm x (aew ..) rfl
theorem oN.ext{K:W.Frag}{C CT CM:Addr}{H:Hp}{m D:Addr}{p q f:Str}{b1 b2 b3 b4:Bool}{ts:List (Str×Str)}{E:Heap->Prop}{o:HO}(hD:H D=some (.ext E))(tq:∀b xs,aX K H b xs->aX K (upd H D o) b xs)(h:oN K C CT CM H m p q f b1 b2 b3 b4 ts):oN K C CT CM (upd H D o) m p q f b1 b2 b3 b4 ts:=by
 obtain⟨dm,y,l,ys,e1,e2,e3,e4⟩:=h.ok
 refine⟨dm,y,l,ys,(az (dP e1 hD (λz=>nomatch z))).trans e1,Tn.off hD (λd fs z=>nomatch z) (λd z=>nomatch z) e2,(az (dP e3 hD (λz=>nomatch z))).trans e3,aI (λv t h=>?_) e4⟩
 obtain⟨a,q1,q2⟩:=h
 exact⟨a,q1,tq _ _ q2⟩
theorem B7.ext{K:W.Frag}{C CT CM CP:Addr}{H:Hp}{y D:Addr}{x:cD}{cs:List cD}{ts:List (Str×Str)}{z:Str}{E:Heap->Prop}{o:HO}(hD:H D=some (.ext E))(tq:∀b xs,aX K H b xs->aX K (upd H D o) b xs)(h:B7 K C CT CM CP H y x cs ts z):B7 K C CT CM CP (upd H D o) y x cs ts z:=by
 obtain⟨dy,m,lm,ms,e1,e2,e3,e4⟩:=h.ok
 exact⟨dy,m,lm,ms,(az (dP e1 hD (λz=>nomatch z))).trans e1,oN.ext hD tq e2,(az (dP e3 hD (λz=>nomatch z))).trans e3,aI (λv x ⟨m,q1,q2⟩=>⟨m,q1,oN.ext hD tq q2⟩) e4⟩
def T8(w u:Str):Res :=
 if bC w ("within":Str)=true then .go ("put":Str) ("within":Str) u else
 if bC w ("freed":Str)=true then eO u else
 if bC w ("doubt":Str)=true then .lU ("behind":Str) else
 if bC w ("behind":Str)=true then .lU ("behind":Str) else .go ("put":Str) ("plain":Str) 'd'
structure Off(p q f:Str)(c:Nat):Prop where
 p:¬oM c p=true
 q:¬oM c q=true
 f:¬oM c f=true
 l:¬bC (sg c) (Str.ofString "\n")=true
 b:¬bC (sg c) (" ":Str)=true
theorem T9{p q f:Str}{b1 b2 b3 b4:Bool}{w u:Str}{c:Nat}(o:Off p q f c)(h:i8 q w u):bw p q f b1 b2 b3 b4 w u c=T8 w u:=by
 have hu:¬bC (sg c) u=true:=by
  rcases h with ⟨rfl,_⟩|⟨d,hd,rfl,_⟩
  ·exact zC c
  ·refine LD λe=>o.q ?_
   rw[e,Gu]
   exact aeb hd
 have e1:dS f b1 b2 u c=.go ("put":Str) ("within":Str) u:=by unfold dS;rw[ad5 o.f,ad5 hu,ad5 o.l]
 have e2:gE b2 u c=eO u:=by unfold gE;rw[ad5 o.l]
 have e4:cU p b3 c=.lU ("behind":Str):=by unfold cU;rw[ad5 o.l,ad5 o.p,ad5 o.b]
 have e3:kY p b3 u c=.lU ("behind":Str):=by unfold kY;rw[ad5 hu];exact e4
 have e5:pU p q f b3 b4 w u c=.go ("put":Str) ("plain":Str) 'd':=by
  unfold pU iK iJ
  rw[ad5 o.f,ad5 o.f,ad5 o.l,ad5 o.l,ad5 o.p,ad5 o.q,ad5 o.q,ad5 o.p,ad5 o.b]
  split<;>rfl
 unfold bw T8
 rw[e1,e2,e3,e4,e5]
theorem Pg(w u:Str):(∃w' u',T8 w u=.go ("put":Str) w' u')\/∃w',T8 w u=.lU w':=by
 unfold T8 eO
 split
 ·exact .inl ⟨_,_,rfl⟩
 split
 ·split
  ·exact .inl ⟨_,_,rfl⟩
  ·exact .inl ⟨_,_,rfl⟩
 split
 ·exact .inr ⟨_,rfl⟩
 split
 ·exact .inr ⟨_,rfl⟩
 ·exact .inl ⟨_,_,rfl⟩
theorem c10{c:Nat}(h:c≠10):¬bC (sg c) (Str.ofString "\n")=true:=by
 have e:Str.ofString "\n"=sg 10:=by decide +kernel
 rw[e];exact LD h
theorem c32{c:Nat}(h:c≠32):¬bC (sg c) (" ":Str)=true:=by
 have e:Str.ofString " "=sg 32:=by decide +kernel
 rw[e];exact LD h
theorem Ze{p q f:Str}{c:Nat}(h1:c≠10)(h2:c≠32)(h:away ((p++q)++f) c=true):Off p q f c:=by
 have hn:=(kU _ _).mp h
 have e:((p++q)++f).cps.toList=(p.cps.toList++q.cps.toList)++f.cps.toList:=by
  show((p.cps++q.cps)++f.cps).toList=_
  simp
 rw[e,aej,aej]at hn
 exact⟨Gv λz=>hn (.inl (.inl z)),Gv λz=>hn (.inl (.inr z)),Gv λz=>hn (.inr z),c10 h1,c32 h2⟩
theorem Oc{cs:List cD}{t:List (List Str)}{c:Nat}:c∈(ko cs t).cps.toList↔c∈(bW (cs.map Xy)).cps.toList\/c=10\/c=32\/c∈(bW (t.map bW)).cps.toList:=by
 rw[←Ob]
 unfold gK
 show c∈cR _↔_
 unfold cR
 rw[sS,app_list,app_list,aej,aej]
 have en:(Str.ofString "\n ").cps.toList=[10,32]:=by decide +kernel
 rw[en]
 simp only[List.not_mem_nil,false_or,aeh,afk]
 constructor
 ·rintro((h|h|h)|h)
  ·exact .inl h
  ·exact .inr (.inl h)
  ·exact .inr (.inr (.inl h))
  ·exact .inr (.inr (.inr h))
 ·rintro(h|h|h|h)
  ·exact .inl (.inl h)
  ·exact .inl (.inr (.inl h))
  ·exact .inl (.inr (.inr h))
  ·exact .inr h
theorem Bj{c:Nat}:∀{r:List Str}{z:Str},z∈r->c∈z.cps.toList->c∈(bW r).cps.toList
 |y::r,z,hz,hc=>by
  show c∈(y++bW r).cps.toList
  rw[app_list,aej]
  rcases aeh.mp hz with q|q
  ·rw[←q];exact .inl hc
  ·exact .inr (Bj q hc)
theorem Bk{c:Nat}:∀{r:List Str},c∈(bW r).cps.toList->∃z∈r,c∈z.cps.toList
 |[],h=>by rw[show(bW []).cps.toList=[]from sQ]at h;cases h
 |y::r,h=>by
  have h:c∈(y++bW r).cps.toList:=h
  rw[app_list,aej]at h
  rcases h with q|q
  ·exact⟨y,aew ..,q⟩
  ·obtain⟨z,h1,h2⟩:=Bk q;exact⟨z,aer _ h1,h2⟩
theorem Zf{c d:Nat}(h:sg c=sg d):c=d:=by
 have:=congrArg (λz:Str=>z.cps.toList) h
 have:[c]=[d]:=this
 exact(List.cons.inj this).1
theorem XA{c:Nat}{r:List Str}:∀n,n<=r.length->(Str.ofString "put",sg c)∈jP r n->∃z∈r,c∈z.cps.toList
 | 0,_,h=>nomatch h
 |n+1,hn,h=>by
  obtain⟨z,hz⟩:∃z,r[n]?=some z:=⟨_,aeB 'f'⟩
  rw[kC hz]at h
  rcases aej.mp h with q|q
  ·exact XA n 'f' q
  ·rcases aej.mp q with q|q
   ·exfalso
    split at q
    ·cases q
    ·have e:=congrArg (λx:Str×Str=>x.1) (ad7.mp q)
     exact absurd (show Str.ofString "put"=("part":Str) from e) 'b'
   ·unfold qY at q
    obtain⟨d,hd,e⟩:=aeR.mp q
    have e2:sg d=sg c:=congrArg (λx:Str×Str=>x.2) e
    rw[←Zf e2]
    exact⟨z,aen hz,hd⟩
theorem Wi{c:Nat}{t:List (List Str)}(h:(Str.ofString "put",sg c)∈aD t):c∈(bW (t.map bW)).cps.toList:=by
 obtain⟨r,hr,h⟩:=afl.mp h
 rcases aej.mp h with q|q
 ·obtain⟨z,hz,hc⟩:=XA r.length (ad6 _) q
  exact Bj (aeR.mpr ⟨r,hr,rfl⟩) (Bj hz hc)
 ·exfalso
  have e:=congrArg (λx:Str×Str=>x.1) (ad7.mp q)
  exact absurd (show Str.ofString "put"=("end":Str) from e) 'b'
theorem Ua{x:cD}{cs:List cD}{t:List (List Str)}{m m':aW}{c:Nat}(hq:i8 x.2.1 m.1.1 m.1.2)(hx:x∈cs)(e:tH x (aD t) m c=some m'):c∈(ko cs t).cps.toList:=by
 rw[Oc]
 by_cases h1:c=10
 ·exact .inr (.inl h1)
 by_cases h2:c=32
 ·exact .inr (.inr (.inl h2))
 by_cases h3:c∈(Xy x).cps.toList
 ·exact .inl (Bj (aeR.mpr ⟨x,hx,rfl⟩) h3)
 have off:Off x.1 x.2.1 x.2.2.1 c:=Ze h1 h2 ((kU _ _).mpr h3)
 obtain⟨k,hs,hl,hc⟩:=GJ (show fh x.1 x.2.1 x.2.2.1 x.2.2.2.a x.2.2.2.b x.2.2.2.c x.2.2.2.d (aD t) m c=some m' from e)
 rw[T9 off hq]at hs
 rcases Pg m.1.1 m.1.2 with ⟨w',u',q⟩|⟨w',q⟩
 ·rw[q]at hs
  injection hs with e1 e2 e3
  subst e1
  unfold i9 at hc
  rw[ad5 'b',aee (br _)]at hc
  by_cases ht:(aD t)[m.2]?=some (Str.ofString "put",sg c)
  ·exact .inr (.inr (.inr (Wi (aen ht))))
  ·rw[ad5 ht]at hc;cases hc
 ·rw[q]at hs;cases hs
theorem Wj{x:cD}{ts:List (Str×Str)}{xs:List Nat}{m:aW}(h:tK x ts xs=some m):i8 x.2.1 m.1.1 m.1.2:=by
 obtain⟨_,_,hpr⟩:=GK (aeA _) h
 have:=YZ (p:=x.1) (q:=x.2.1) (f:=x.2.2.1) (b1:=x.2.2.2.a) (b2:=x.2.2.2.b) (b3:=x.2.2.2.c) (b4:=x.2.2.2.d) (cs:=xs) (show i8 x.2.1 ("row":Str) 'd' from .inl ⟨rfl,.inl rfl⟩)
 rw[show(runM x.1 x.2.1 x.2.2.1 x.2.2.2.a x.2.2.2.b x.2.2.2.c x.2.2.2.d ("row":Str) 'd' xs).2=(m.1.1,m.1.2,none) from hpr.1]at this
 exact this
theorem Ce{x:cD}{cs:List cD}{t:List (List Str)}{xs:List Nat}{m:dM}:WalkG (d9 x cs (aD t) (ko (x::cs) t)) (gF cs.length) xs m↔tK x (aD t) xs=some m.1/\m.2=cs.map λy=>tK y (aD t) xs:=by
 refine⟨Xz,?_⟩
 suffices H:∀(r:List Nat)(m:dM),tK x (aD t) r.reverse=some m.1/\(m.2=cs.map λy=>tK y (aD t) r.reverse)->WalkG (d9 x cs (aD t) (ko (x::cs) t)) (gF cs.length) r.reverse m by
  intro h
  have:=H xs.reverse m
  rw[List.reverse_reverse]at this
  exact this h
 intro r
 induction r with
 |nil =>
  rintro⟨m1,m2⟩ ⟨h1,h2⟩
  have e1:stM=m1:=aes h1
  have e2:m2=List.replicate cs.length (some stM):=by
   have h2:m2=cs.map λ_=>some stM:=h2
   rw[h2,List.map_const']
  rw[←e1,e2]
  exact .nil
 |cons c r ih =>
  rintro⟨m1,m2⟩ ⟨h1,h2⟩
  rw[afT]at h1 h2⊢
  rw[sY]at h1
  cases hM:tK x (aD t) r.reverse with
  |none=>rw[hM]at h1;cases h1
  |some p1 =>
   rw[hM]at h1
   have h1:tH x (aD t) p1 c=some m1:=h1
   refine .snoc (p:=(p1,cs.map λy=>tK y (aD t) r.reverse)) (ih _ ⟨hM,rfl⟩) ?_
   refine afj.mpr ⟨c,Ua (Wj hM) (aew ..) h1,?_⟩
   show(tH x (aD t) p1 c).map _=_
   rw[h1]
   show some (c,(m1,gY cs (aD t) _ c))=_
   rw[yq]
   have h2:m2=cs.map λy=>Jy y (aD t) (tK y (aD t) r.reverse) c:=by
    rw[show m2=_ from h2]
    exact af2 λy _=>sY
   rw[h2]
section
variable{M N:Type}[DecidableEq M][DecidableEq N]{gA:M->Bool}{lA:M->List (Nat×M)}{a:M}{gB:N->Bool}{lB:N->List (Nat×N)}{b:N}{f:M->N}{most:Option Nat}
theorem Fc{cm:gT M}{aJ:List M}{k:Nat}(h:DN gA lA a cm aJ k){m:M}(hm:cX cm m=true):∃xs,WalkG lA a xs m/\xs.length<=k:=by
 obtain⟨n,hn,_,xs,_,_,hw,hl⟩:=h.told m hm
 exact⟨_,hw,by rw[af0];omega⟩
end
theorem Zg{cs:List cD}{t:List (List Str)}(gs:∀c∈cs,vN c)(tok:TabOk t):bA (ko cs t):=by
 intro c hc
 rcases Oc.mp hc with h|h|h|h
 ·obtain⟨z,hz,hc⟩:=Bk h
  obtain⟨x,hx,rfl⟩:=aeR.mp hz
  have g:=gs x hx
  unfold Xy at hc
  rw[app_list,app_list,aej,aej]at hc
  rcases hc with (q|q)|q
  ·exact .inr (g.gp.pr c q)
  ·exact .inr (g.gq.pr c q)
  ·exact .inr (g.gf.pr c q)
 ·exact .inl h
 ·rw[h];exact .inr 'c'
 ·obtain⟨z,hz,hc⟩:=Bk h
  obtain⟨r,hr,rfl⟩:=aeR.mp hz
  obtain⟨y,hy,hc⟩:=Bk hc
  exact(tok.rows r hr).ok y hy c hc
theorem LP{x:cD}{cs:List cD}{ts:List (Str×Str)}{z:Str}{a m:dM}{xs:List Nat}(h:WalkG (d9 x cs ts z) a xs m):∀c∈xs,c∈z.cps.toList:=by
 induction h with
 |nil=>intro c hc;cases hc
 |@snoc xs p q c _ he ih =>
  intro d hd
  rcases aej.mp hd with z1|z1
  ·exact ih d z1
  ·rw[ad7.mp z1]
   obtain⟨c',hc',e⟩:=afj.mp he
   cases hM:tH x ts p.1 c' with
   |none=>rw[hM]at e;cases e
   |some m' =>
    rw[hM]at e
    have e:some (c',(m',gY cs ts p.2 c'))=some (c,q):=e
    injection e with e
    injection e with e1 e2
    rw[←e1];exact hc'
theorem JH{x:cD}{cs:List cD}{t:List (List Str)}{a m:dM}{xs:List Nat}(gs:∀c∈x::cs,vN c)(tok:TabOk t)(h:WalkG (d9 x cs (aD t) (ko (x::cs) t)) a xs m)(hl:xs.length<=2000):NZ (.str (Txt.join 'd' (xs.map sg)))=true:=by
 have ez:(Txt.join 'd' (xs.map sg)).length=xs.length:=by
  have:=congrArg List.length (rm xs)
  rw[aeq]at this
  exact this
 refine N9 (λc hc=>?_) 'f'
 rw[rm]at hc
 exact Zg gs tok c (LP h c hc)
theorem Cf{α:Type}[DecidableEq α]:∀{l U:List α},l.Nodup->(∀a∈l,a∈U)->l.length<=U.length
 |[],U,_,_=>aeA _
 |a::l,U,nd,h=>by
  have hn:=af3.mp nd
  have ha:=h a (aew ..)
  have:=Cf (U:=U.erase a) hn.2 λb hb=>(List.mem_erase_of_ne (λe=>hn.1 (by rw[←e];exact hb))).mpr (h b (aer _ hb))
  rw[List.length_erase_of_mem ha]at this
  have hp:=List.length_pos_of_mem ha
  rw[aex]
  omega
theorem abo{x:cD}{t:List (List Str)}{n k:Nat}{r:Option dM}{cm:gT dM}{aJ:List dM}(gx:vN x)(hE:Wf (gO (aD t)) (d9 x [] (aD t) (ko [x] t)) (some n) (gF 0) r cm aJ k):cm.length<=11*((aD t).length+1):=by
 have e:∀l:List (Str×Str),(l.flatMap λs=>(List.range ((aD t).length+1)).map λc=>(((s,c),[]):dM)).length=l.length*((aD t).length+1):=by
  intro l
  induction l with
  |nil=>simp
  |cons a l ih=>rw[afU,aef,ih,aex,aec,List.length_range,Nat.succ_mul];omega
 have h1:=Cf (U:=(VZ x.2.1).flatMap λs=>(List.range ((aD t).length+1)).map λc=>(((s,c),[]):dM)) hE.nd λm hm=>by
  obtain⟨LQ,hw,_⟩:=Fc hE.c7 (jD.mpr hm)
  have ok:=(JG (cs:=[]) hw).1.1
  have m2:m.2=[]:=(Ce (cs:=[]).mp hw).2
  refine afl.mpr ⟨m.1.1,LJ ok.1,aeR.mpr ⟨m.1.2,List.mem_range.mpr (by have:=ok.2;omega),?_⟩⟩
  rw[←m2]
 rw[e,aec]at h1
 have:=Nat.mul_le_mul_right ((aD t).length+1) (N5 gx)
 omega
theorem Ub{ts:List (Str×Str)}{m:dM}(h2:m.2=[]):gO ts m=decide (m.1=vZ ts):=by
 unfold gO;rw[h2];simp
theorem Zh{x:cD}{t:List (List Str)}{xs:List Nat}:KR x.1 x.2.1 x.2.2.1 x.2.2.2.a x.2.2.2.b x.2.2.2.c x.2.2.2.d (aD t) xs↔∃m,WalkG (d9 x [] (aD t) (ko [x] t)) (gF 0) xs m/\gO (aD t) m=true:=by
 constructor
 ·intro h
  have h1:tK x (aD t) xs=some (vZ (aD t)):=LO.mpr h
  exact⟨(vZ (aD t),[]),(Ce (cs:=[])).mpr ⟨h1,rfl⟩,by rw[Ub rfl];exact aeb rfl⟩
 ·rintro⟨m,hw,hg⟩
  obtain⟨h1,h2⟩:=(Ce (cs:=[])).mp hw
  rw[Ub h2]at hg
  rw[aez hg]at h1
  exact LO.mp h1
theorem Zi{M:Type}[DecidableEq M]{good:M->Bool}{led:M->List (Nat×M)}{a:M}{cm:gT M}{k:Nat}(h:DN good led a cm [] k){ys:List Nat}{m:M}(w:WalkG led a ys m):cX cm m=true:=by
 induction w with
 |nil=>exact h.all [] _ .nil (aeA _)
 |snoc w he ih=>exact h.shut _ ih (λq=>nomatch q) _ he
def acH(x:cD)(t:List (List Str))(v:V):Prop:=(v=.non/\NoW x.1 x.2.1 x.2.2.1 x.2.2.2.a x.2.2.2.b x.2.2.2.c x.2.2.2.d (aD t))\/∃xs,v=.str (Txt.join 'd' (xs.map sg))/\KR x.1 x.2.1 x.2.2.1 x.2.2.2.a x.2.2.2.b x.2.2.2.c x.2.2.2.d (aD t) xs/\LK x.1 x.2.1 x.2.2.1 x.2.2.2.a x.2.2.2.b x.2.2.2.c x.2.2.2.d (aD t) xs.length/\xs.length<=1+11*(aD t).length
theorem pV:aF ["sign","number"] ["sign"] (au kM):=⟨rfl,rfl,rfl,by decide +kernel,rfl,by decide +kernel,by decide +kernel⟩
theorem tL:aF ["thing","least","most"] ["thing","least","most"] (au eN):=⟨rfl,rfl,rfl,by decide +kernel,rfl,by decide +kernel,by decide +kernel⟩
theorem jX:aF ["self","parts","quotes","frees","twin","wide","thin","stray","truth"] ["self","parts","quotes","frees","twin","wide","thin","stray"] (au bJ):=⟨rfl,rfl,rfl,by decide +kernel,rfl,by decide +kernel,by decide +kernel⟩
theorem Ak:aF ["self"] ["self"] (au kN):=⟨rfl,rfl,rfl,by decide +kernel,rfl,by decide +kernel,by decide +kernel⟩
theorem DO:aF ["told"] ["told"] (au oZ):=⟨rfl,rfl,rfl,by decide +kernel,rfl,by decide +kernel,by decide +kernel⟩
theorem yr:aF ["self","dialect"] ["self","dialect"] (au jL):=⟨rfl,rfl,rfl,by decide +kernel,rfl,by decide +kernel,by decide +kernel⟩
theorem k8:aF ["self","dialect","tokens"] ["self","dialect","tokens"] (au iD):=⟨rfl,rfl,rfl,by decide +kernel,rfl,by decide +kernel,by decide +kernel⟩
theorem gm:aF ["row","tokens","place","cell"] ["row"] (au gS):=⟨rfl,rfl,rfl,by decide +kernel,rfl,by decide +kernel,by decide +kernel⟩
theorem uW:aF ["text"] ["text"] (au fM):=⟨rfl,rfl,rfl,by decide +kernel,rfl,by decide +kernel,by decide +kernel⟩
theorem LR:aF ["thing"] ["thing"] (au xZ):=⟨rfl,rfl,rfl,by decide +kernel,rfl,by decide +kernel,by decide +kernel⟩
theorem Ph:aF ["thing"] ["thing"] (au vJ):=⟨rfl,rfl,rfl,by decide +kernel,rfl,by decide +kernel,by decide +kernel⟩
theorem Al:aF ["row"] ["row"] (au iE):=⟨rfl,rfl,rfl,by decide +kernel,rfl,by decide +kernel,by decide +kernel⟩
theorem JI:aF ["thing"] ["thing"] (au kO):=⟨rfl,rfl,rfl,by decide +kernel,rfl,by decide +kernel,by decide +kernel⟩
theorem Cg:aF ["thing"] ["thing"] (au nu):=⟨rfl,rfl,rfl,by decide +kernel,rfl,by decide +kernel,by decide +kernel⟩
theorem pF:aF ["table","tokens","row"] ["table"] (au qO):=⟨rfl,rfl,rfl,by decide +kernel,rfl,by decide +kernel,by decide +kernel⟩
theorem Bl:aF ["text","found","sign"] ["text"] (au Ly):=⟨rfl,rfl,rfl,by decide +kernel,rfl,by decide +kernel,by decide +kernel⟩
theorem uX:aF ["self"] ["self"] (au iF):=⟨rfl,rfl,rfl,by decide +kernel,rfl,by decide +kernel,by decide +kernel⟩
theorem gG:aF ["dialect","table","others","special","cells"] ["dialect","table","others"] (au cY):=⟨rfl,rfl,rfl,by decide +kernel,rfl,by decide +kernel,by decide +kernel⟩
theorem k9:aF ["self","dialect","table","others","tokens"] ["self","dialect","table","others"] (au fN):=⟨rfl,rfl,rfl,by decide +kernel,rfl,by decide +kernel,by decide +kernel⟩
theorem qv:aF ["self","row","cell"] ["self","row","cell"] (au fT):=⟨rfl,rfl,rfl,by decide +kernel,rfl,by decide +kernel,by decide +kernel⟩
theorem JJ:aF ["thing","least","most"] ["thing","least","most"] (au uS):=⟨rfl,rfl,rfl,by decide +kernel,rfl,by decide +kernel,by decide +kernel⟩
theorem LS:aF ["thing"] ["thing"] (au ya):=⟨rfl,rfl,rfl,by decide +kernel,rfl,by decide +kernel,by decide +kernel⟩
theorem pG:aF ["dialect","states","quote"] ["dialect"] (au qP):=⟨rfl,rfl,rfl,by decide +kernel,rfl,by decide +kernel,by decide +kernel⟩
theorem LU:aF ["dialect","state"] ["dialect","state"] (au yb):=⟨rfl,rfl,rfl,by decide +kernel,rfl,by decide +kernel,by decide +kernel⟩
theorem yu:aF ["dialect","thing"] ["dialect","thing"] (au jM):=⟨rfl,rfl,rfl,by decide +kernel,rfl,by decide +kernel,by decide +kernel⟩
theorem pW:aF ["tokens","count","kind","sign","token"] ["tokens","count","kind","sign"] (au kQ):=⟨rfl,rfl,rfl,by decide +kernel,rfl,by decide +kernel,by decide +kernel⟩
theorem rA:aF ["dialect","state","sign"] ["dialect","state","sign"] (au gD):=⟨rfl,rfl,rfl,by decide +kernel,rfl,by decide +kernel,by decide +kernel⟩
theorem yw:aF ["dialect","sign"] ["dialect","sign"] (au jN):=⟨rfl,rfl,rfl,by decide +kernel,rfl,by decide +kernel,by decide +kernel⟩
theorem Ci:aF ["dialect","quote","sign"] ["dialect","quote","sign"] (au nA):=⟨rfl,rfl,rfl,by decide +kernel,rfl,by decide +kernel,by decide +kernel⟩
theorem Cj:aF ["dialect","sign"] ["dialect","sign"] (au nB):=⟨rfl,rfl,rfl,by decide +kernel,rfl,by decide +kernel,by decide +kernel⟩
theorem yx:aF ["dialect","quote","sign"] ["dialect","quote","sign"] (au jO):=⟨rfl,rfl,rfl,by decide +kernel,rfl,by decide +kernel,by decide +kernel⟩
theorem DP:aF ["dialect","quote","sign"] ["dialect","quote","sign"] (au o6):=⟨rfl,rfl,rfl,by decide +kernel,rfl,by decide +kernel,by decide +kernel⟩
theorem pH:aF ["self","state","sign","word","quote"] ["self","state","sign"] (au qQ):=⟨rfl,rfl,rfl,by decide +kernel,rfl,by decide +kernel,by decide +kernel⟩
theorem mJ:aF ["self","state","sign","step"] ["self","state","sign"] (au jj):=⟨rfl,rfl,rfl,by decide +kernel,rfl,by decide +kernel,by decide +kernel⟩
theorem bu:aF ["self","mark","sign","step","count"] ["self","mark","sign"] (au fV):=⟨rfl,rfl,rfl,by decide +kernel,rfl,by decide +kernel,by decide +kernel⟩
theorem iO:aF ["self","mark"] ["self","mark"] (au fF):=⟨rfl,rfl,rfl,by decide +kernel,rfl,by decide +kernel,by decide +kernel⟩
theorem Ck:aF ["others"] ["others"] (au jw):=⟨rfl,rfl,rfl,by decide +kernel,rfl,by decide +kernel,by decide +kernel⟩
theorem fj:aF ["self","place","found","sign","mark","marks"] ["self","place"] (au iG):=⟨rfl,rfl,rfl,by decide +kernel,rfl,by decide +kernel,by decide +kernel⟩
theorem wo:aF ["self","place"] ["self","place"] (au gj):=⟨rfl,rfl,rfl,by decide +kernel,rfl,by decide +kernel,by decide +kernel⟩
theorem bZ:aF ["first","searched","most","came","edge","place","farther","lead"] ["first","searched","most"] (au fW):=⟨rfl,rfl,rfl,by decide +kernel,rfl,by decide +kernel,by decide +kernel⟩
theorem fZ:aF ["came","place","signs","link"] ["came","place"] (au yc):=⟨rfl,rfl,rfl,by decide +kernel,rfl,by decide +kernel,by decide +kernel⟩
theorem Cn:aF ["table","others","most"] ["table","others","most"] (au nC):=⟨rfl,rfl,rfl,by decide +kernel,rfl,by decide +kernel,by decide +kernel⟩
theorem GP:aF ["dialect","table","others","most","found","came"] ["dialect","table","others","most"] (au Lz):=⟨rfl,rfl,rfl,by decide +kernel,rfl,by decide +kernel,by decide +kernel⟩
theorem DQ:aF ["thing"] ["thing"] (au o7):=⟨rfl,rfl,rfl,by decide +kernel,rfl,by decide +kernel,by decide +kernel⟩
theorem pI:aF ["dialect","text","turn","kinds","state","sign","step"] ["dialect","text"] (au LA):=⟨rfl,rfl,rfl,by decide +kernel,rfl,by decide +kernel,by decide +kernel⟩
theorem yy:aF ["walked","kinds","word"] ["walked"] (au BL):=⟨rfl,rfl,rfl,by decide +kernel,rfl,by decide +kernel,by decide +kernel⟩
theorem cW:aF ["text","kinds","table","row","cell","sign","kind"] ["text","kinds"] (au uT):=⟨rfl,rfl,rfl,by decide +kernel,rfl,by decide +kernel,by decide +kernel⟩
theorem tW:aF ["dialect","text","walked"] ["dialect","text"] (au o8):=⟨rfl,rfl,rfl,by decide +kernel,rfl,by decide +kernel,by decide +kernel⟩
theorem LV:aF ["dialect","most","thing"] ["dialect","most","thing"] (au yd):=⟨rfl,rfl,rfl,by decide +kernel,rfl,by decide +kernel,by decide +kernel⟩
theorem GQ:aF ["others","most","thing"] ["others","most","thing"] (au mD):=⟨rfl,rfl,rfl,by decide +kernel,rfl,by decide +kernel,by decide +kernel⟩
theorem JK:aF ["dialect","others","most","thing"] ["dialect","others","most","thing"] (au uU):=⟨rfl,rfl,rfl,by decide +kernel,rfl,by decide +kernel,by decide +kernel⟩
theorem jo:aF ["dialect","table","others","places","most","known","place","searched"] ["dialect","table","others","places"] (au nW):=⟨rfl,rfl,rfl,by decide +kernel,rfl,by decide +kernel,by decide +kernel⟩
theorem LW:aF ["dialect","table","others","text"] ["dialect","table","others","text"] (au sP):=⟨rfl,rfl,rfl,by decide +kernel,rfl,by decide +kernel,by decide +kernel⟩
theorem g5:aF ["tokens","count","row","cell","token"] ["tokens","count"] (au ye):=⟨rfl,rfl,rfl,by decide +kernel,rfl,by decide +kernel,by decide +kernel⟩
theorem uY:aF ["self","dialect","tokens"] ["self","dialect","tokens"] (au iH):=⟨rfl,rfl,rfl,by decide +kernel,rfl,by decide +kernel,by decide +kernel⟩
theorem wu:aF ["self","place"] ["self","place"] (au jk):=⟨rfl,rfl,rfl,by decide +kernel,rfl,by decide +kernel,by decide +kernel⟩
theorem jQ:aF ["self","place","signs","found"] ["self","place"] (au fX):=⟨rfl,rfl,rfl,by decide +kernel,rfl,by decide +kernel,by decide +kernel⟩
theorem jE:aF ["dialect","table","tokens","found","came","lacking"] ["dialect","table"] (au o9):=⟨rfl,rfl,rfl,by decide +kernel,rfl,by decide +kernel,by decide +kernel⟩
theorem Am:aF ["_law_script","_law_k"] ["_law_script","_law_k"] (au kR):=⟨rfl,rfl,rfl,by decide +kernel,rfl,by decide +kernel,by decide +kernel⟩
theorem nG:aF ["_law_number_here","_law_salt","_law_one","_law_two"] ["_law_number_here","_law_salt"] (au pe):=⟨rfl,rfl,rfl,by decide +kernel,rfl,by decide +kernel,by decide +kernel⟩
theorem lg:aF ["_law_cell","_law_salt","_law_number_here","_law_high"] ["_law_cell","_law_salt"] (au nD):=⟨rfl,rfl,rfl,by decide +kernel,rfl,by decide +kernel,by decide +kernel⟩
theorem gn:aF ["_law_number_here","_law_many","_law_menu","_law_found","_law_k","_law_sign"] ["_law_number_here","_law_many","_law_menu"] (au qS):=⟨rfl,rfl,rfl,by decide +kernel,rfl,by decide +kernel,by decide +kernel⟩
theorem tX:aF ["_law_way","_law_every"] ["_law_way"] (au pq):=⟨rfl,rfl,rfl,by decide +kernel,rfl,by decide +kernel,by decide +kernel⟩
theorem bP:aF ["_law_cell","_law_number_here","_law_flags","_law_sizes","_law_menus_here","_law_parts","_law_quotes","_law_frees","_law_truths"] ["_law_cell"] (au qT):=⟨rfl,rfl,rfl,by decide +kernel,rfl,by decide +kernel,by decide +kernel⟩
theorem GR:aF ["_law_told_here"] ["_law_told_here"] (au qU):=⟨rfl,rfl,rfl,by decide +kernel,rfl,by decide +kernel,by decide +kernel⟩
theorem gP:aF ["_law_tolds","_law_table_here","_law_some_here","_law_found","_law_sign"] ["_law_tolds","_law_table_here"] (au iI):=⟨rfl,rfl,rfl,by decide +kernel,rfl,by decide +kernel,by decide +kernel⟩
theorem bh:aF ["_law_cell","_law_tolds","_law_number_here","_law_signs_here","_law_rows","_law_cells","_law_table_here","_law_r","_law_row","_law_c","_law_size","_law_text","_law_k"] ["_law_cell","_law_tolds"] (au pA):=⟨rfl,rfl,rfl,by decide +kernel,rfl,by decide +kernel,by decide +kernel⟩
theorem gU:aF ["_law_made_here","_law_table_here","_law_text"] ["_law_made_here","_law_table_here"] (au kT):=⟨rfl,rfl,rfl,by decide +kernel,rfl,by decide +kernel,by decide +kernel⟩
theorem yz:aF ["_law_script","_law_told_here","_law_table_here","_law_made_here","_law_text","_law_found"] ["_law_script"] (au zx):=⟨rfl,rfl,rfl,by decide +kernel,rfl,by decide +kernel,by decide +kernel⟩
structure Txt(P:Program)(w:World)(base:Heap)(K:W.Frag)(mg:Str->Option Value)(av:Nat->Addr)(aG:Nat->FuncData)(bU:Nat->Str):Prop where
 lu:dR K "is_printable" "is_printable" kM (av 0) (aG 0)
 rB:Binds K (aG 0) ["sign"] []
 rC:mg "is_printable"=some (.ref (av 0))
 eX:dR K "are_unlike_signs" "are_unlike_signs" eN (av 1) (aG 1)
 g6:Binds K (aG 1) ["thing","least","most"] []
 g7:mg "are_unlike_signs"=some (.ref (av 1))
 uZ:RK K "__init__" "Dialect.__init__" bJ (av 2) (aG 2) (.ref (av 90))
 ly:Binds K (aG 2) ["self","parts","quotes","frees","twin","wide","thin","stray"] []
 Co:dR K "told" "Dialect.told" kN (av 3) (aG 3)
 Cp:Binds K (aG 3) ["self"] []
 Cq:Meth K (av 70) "told" (av 3)
 wz:dR K "dialect_of" "dialect_of" oZ (av 4) (aG 4)
 GS:Binds K (aG 4) ["told"] []
 GU:mg "dialect_of"=some (.ref (av 4))
 An:dR K "__init__" "Turn.__init__" jL (av 5) (aG 5)
 jR:Binds K (aG 5) ["self","dialect"] []
 mK:dR K "__init__" "Marker.__init__" iD (av 6) (aG 6)
 iP:Binds K (aG 6) ["self","dialect","tokens"] []
 pX:dR K "tokens_of_row" "tokens_of_row" gS (av 7) (aG 7)
 Ao:Binds K (aG 7) ["row"] []
 Aq:mg "tokens_of_row"=some (.ref (av 7))
 iQ:dR K "has_signs_alone" "has_signs_alone" fM (av 8) (aG 8)
 mL:Binds K (aG 8) ["text"] []
 mO:mg "has_signs_alone"=some (.ref (av 8))
 Fd:dR K "is_cell" "is_cell" xZ (av 9) (aG 9)
 Pj:Binds K (aG 9) ["thing"] []
 Pk:mg "is_cell"=some (.ref (av 9))
 JL:dR K "is_row" "is_row" vJ (av 10) (aG 10)
 Uc:Binds K (aG 10) ["thing"] []
 Ud:mg "is_row"=some (.ref (av 10))
 rD:dR K "signs_in_row" "signs_in_row" iE (av 11) (aG 11)
 Cr:Binds K (aG 11) ["row"] []
 Cs:mg "signs_in_row"=some (.ref (av 11))
 Ct:dR K "is_table" "is_table" kO (av 12) (aG 12)
 LX:Binds K (aG 12) ["thing"] []
 LY:mg "is_table"=some (.ref (av 12))
 tY:dR K "check_table" "check_table" nu (av 13) (aG 13)
 DR:Binds K (aG 13) ["thing"] []
 DS:mg "check_table"=some (.ref (av 13))
 jF:dR K "tokens_of" "tokens_of" qO (av 14) (aG 14)
 mP:Binds K (aG 14) ["table"] []
 mQ:mg "tokens_of"=some (.ref (av 14))
 GV:dR K "once" "once" Ly (av 15) (aG 15)
 LZ:Binds K (aG 15) ["text"] []
 L0:mg "once"=some (.ref (av 15))
 wA:dR K "special" "Dialect.special" iF (av 16) (aG 16)
 mR:Binds K (aG 16) ["self"] []
 mS:Meth K (av 70) "special" (av 16)
 lC:dR K "signs_that_count" "signs_that_count" cY (av 17) (aG 17)
 u0:Binds K (aG 17) ["dialect","table","others"] []
 u5:mg "signs_that_count"=some (.ref (av 17))
 wB:dR K "__init__" "Places.__init__" fN (av 18) (aG 18)
 mT:Binds K (aG 18) ["self","dialect","table","others"] []
 rE:dR K "__init__" "NoWriting.__init__" fT (av 19) (aG 19)
 rF:Binds K (aG 19) ["self","row","cell"] []
 L1:dR K "__init__" "TooMany.__init__" kP (av 20) (aG 20)
 L4:Binds K (aG 20) ["self","most"] []
 u6:dR K "is_whole" "is_whole" uS (av 21) (aG 21)
 Cu:Binds K (aG 21) ["thing","least","most"] []
 Cv:mg "is_whole"=some (.ref (av 21))
 yC:dR K "is_text" "is_text" ya (av 22) (aG 22)
 Fe:Binds K (aG 22) ["thing"] []
 Ff:mg "is_text"=some (.ref (av 22))
 zF:dR K "states_of" "states_of" qP (av 23) (aG 23)
 JM:Binds K (aG 23) ["dialect"] []
 JN:mg "states_of"=some (.ref (av 23))
 yD:dR K "is_live" "is_live" yb (av 24) (aG 24)
 Fg:Binds K (aG 24) ["dialect","state"] []
 Fi:mg "is_live"=some (.ref (av 24))
 pY:dR K "is_live_state" "is_live_state" jM (av 25) (aG 25)
 Ar:Binds K (aG 25) ["dialect","thing"] []
 As:mg "is_live_state"=some (.ref (av 25))
 iR:dR K "count_behind" "count_behind" kQ (av 26) (aG 26)
 lD:Binds K (aG 26) ["tokens","count","kind","sign"] []
 lE:mg "count_behind"=some (.ref (av 26))
 jY:dR K "step_at_beginning" "step_at_beginning" gD (av 27) (aG 27)
 tM:Binds K (aG 27) ["dialect","state","sign"] []
 tN:mg "step_at_beginning"=some (.ref (av 27))
 pZ:dR K "step_in_plain" "step_in_plain" jN (av 28) (aG 28)
 Au:Binds K (aG 28) ["dialect","sign"] []
 Av:mg "step_in_plain"=some (.ref (av 28))
 tZ:dR K "step_within" "step_within" nA (av 29) (aG 29)
 DT:Binds K (aG 29) ["dialect","quote","sign"] []
 DU:mg "step_within"=some (.ref (av 29))
 nH:dR K "step_behind" "step_behind" nB (av 30) (aG 30)
 t6:Binds K (aG 30) ["dialect","sign"] []
 t7:mg "step_behind"=some (.ref (av 30))
 p8:dR K "step_in_doubt" "step_in_doubt" jO (av 31) (aG 31)
 Aw:Binds K (aG 31) ["dialect","quote","sign"] []
 Ax:mg "step_in_doubt"=some (.ref (av 31))
 wC:dR K "step_freed" "step_freed" o6 (av 32) (aG 32)
 GW:Binds K (aG 32) ["dialect","quote","sign"] []
 GX:mg "step_freed"=some (.ref (av 32))
 JO:dR K "step" "Turn.step" qQ (av 33) (aG 33)
 zG:Binds K (aG 33) ["self","state","sign"] []
 zH:Meth K (av 71) "step" (av 33)
 yE:dR K "live_step" "Turn.live_step" jj (av 34) (aG 34)
 jq:Binds K (aG 34) ["self","state","sign"] []
 jr:Meth K (av 71) "live_step" (av 34)
 jG:dR K "mark_behind" "Marker.mark_behind" fV (av 35) (aG 35)
 f6:Binds K (aG 35) ["self","mark","sign"] []
 f7:Meth K (av 72) "mark_behind" (av 35)
 ja:dR K "has_read_all" "Marker.has_read_all" fF (av 36) (aG 36)
 fG:Binds K (aG 36) ["self","mark"] []
 fH:Meth K (av 72) "has_read_all" (av 36)
 nI:dR K "first_place" "first_place" jw (av 37) (aG 37)
 t9:Binds K (aG 37) ["others"] []
 ua:mg "first_place"=some (.ref (av 37))
 Cw:dR K "leads" "Places.leads" iG (av 38) (aG 38)
 rG:Binds K (aG 38) ["self","place"] []
 rH:Meth K (av 73) "leads" (av 38)
 yF:dR K "is_good" "Places.is_good" gj (av 39) (aG 39)
 oq:Binds K (aG 39) ["self","place"] []
 ou:Meth K (av 73) "is_good" (av 39)
 wD:RK K "search" "search" fW (av 40) (aG 40) (.ref (av 91))
 Ue:Binds K (aG 40) ["first","searched","most"] []
 JP:mg "search"=some (.ref (av 40))
 sZ:dR K "text_to" "text_to" yc (av 41) (aG 41)
 Fj:Binds K (aG 41) ["came","place"] []
 Fl:mg "text_to"=some (.ref (av 41))
 uc:dR K "check_asked" "check_asked" nC (av 42) (aG 42)
 DV:Binds K (aG 42) ["table","others","most"] []
 DW:mg "check_asked"=some (.ref (av 42))
 Ug:dR K "sole" "sole" Lz (av 43) (aG 43)
 Zj:Binds K (aG 43) ["dialect","table","others","most"] []
 Zk:mg "sole"=some (.ref (av 43))
 wF:dR K "check_text" "check_text" o7 (av 44) (aG 44)
 GY:Binds K (aG 44) ["thing"] []
 GZ:mg "check_text"=some (.ref (av 44))
 Uh:dR K "walk" "walk" LA (av 45) (aG 45)
 Zl:Binds K (aG 45) ["dialect","text"] []
 Zm:mg "walk"=some (.ref (av 45))
 JQ:dR K "end_of" "end_of" BL (av 46) (aG 46)
 Ui:Binds K (aG 46) ["walked"] []
 Uj:mg "end_of"=some (.ref (av 46))
 Cy:dR K "table_of" "table_of" uT (av 47) (aG 47)
 L5:Binds K (aG 47) ["text","kinds"] []
 L6:mg "table_of"=some (.ref (av 47))
 pJ:dR K "reading_of" "reading_of" o8 (av 48) (aG 48)
 wG:Binds K (aG 48) ["dialect","text"] []
 wH:mg "reading_of"=some (.ref (av 48))
 yG:dR K "is_mark" "is_mark" yd (av 49) (aG 49)
 Fo:Binds K (aG 49) ["dialect","most","thing"] []
 Fp:mg "is_mark"=some (.ref (av 49))
 zI:dR K "are_marks" "are_marks" mD (av 50) (aG 50)
 JR:Binds K (aG 50) ["others","most","thing"] []
 JS:mg "are_marks"=some (.ref (av 50))
 Cz:dR K "is_place" "is_place" uU (av 51) (aG 51)
 L7:Binds K (aG 51) ["dialect","others","most","thing"] []
 L8:mg "is_place"=some (.ref (av 51))
 Fq:dR K "is_none" "is_none" nW (av 52) (aG 52)
 Po:Binds K (aG 52) ["dialect","table","others","places"] []
 Pp:mg "is_none"=some (.ref (av 52))
 yH:dR K "is_sole" "is_sole" sP (av 53) (aG 53)
 Ft:Binds K (aG 53) ["dialect","table","others","text"] []
 Fv:mg "is_sole"=some (.ref (av 53))
 Fw:dR K "cell_at" "cell_at" ye (av 54) (aG 54)
 Pq:Binds K (aG 54) ["tokens","count"] []
 Pr:mg "cell_at"=some (.ref (av 54))
 wI:dR K "__init__" "Writer.__init__" iH (av 55) (aG 55)
 wJ:Binds K (aG 55) ["self","dialect","tokens"] []
 yI:dR K "is_good" "Writer.is_good" jk (av 56) (aG 56)
 yJ:Binds K (aG 56) ["self","place"] []
 yK:Meth K (av 74) "is_good" (av 56)
 CA:dR K "leads" "Writer.leads" fX (av 57) (aG 57)
 CB:Binds K (aG 57) ["self","place"] []
 CC:Meth K (av 74) "leads" (av 57)
 CD:dR K "shortest" "shortest" o9 (av 58) (aG 58)
 Ma:Binds K (aG 58) ["dialect","table"] []
 Mb:mg "shortest"=some (.ref (av 58))
 lF:dR K "_law_cell_at" "_law_cell_at" kR (av 59) (aG 59)
 rJ:Binds K (aG 59) ["_law_script","_law_k"] []
 rK:mg "_law_cell_at"=some (.ref (av 59))
 kr:dR K "_law_mixed" "_law_mixed" pe (av 60) (aG 60)
 pK:Binds K (aG 60) ["_law_number_here","_law_salt"] []
 pL:mg "_law_mixed"=some (.ref (av 60))
 nJ:dR K "_law_number" "_law_number" nD (av 61) (aG 61)
 ud:Binds K (aG 61) ["_law_cell","_law_salt"] []
 uf:mg "_law_number"=some (.ref (av 61))
 mU:dR K "_law_some" "_law_some" qS (av 62) (aG 62)
 rL:Binds K (aG 62) ["_law_number_here","_law_many","_law_menu"] []
 rM:mg "_law_some"=some (.ref (av 62))
 wK:dR K "_law_menus" "_law_menus" pq (av 63) (aG 63)
 G6:Binds K (aG 63) ["_law_way"] []
 G7:mg "_law_menus"=some (.ref (av 63))
 zJ:dR K "_law_told" "_law_told" qT (av 64) (aG 64)
 JT:Binds K (aG 64) ["_law_cell"] []
 JU:mg "_law_told"=some (.ref (av 64))
 zK:dR K "_law_made" "_law_made" qU (av 65) (aG 65)
 JV:Binds K (aG 65) ["_law_told_here"] []
 JW:mg "_law_made"=some (.ref (av 65))
 wL:dR K "_law_signs" "_law_signs" iI (av 66) (aG 66)
 G8:Binds K (aG 66) ["_law_tolds","_law_table_here"] []
 G9:mg "_law_signs"=some (.ref (av 66))
 wM:dR K "_law_table" "_law_table" pA (av 67) (aG 67)
 Hf:Binds K (aG 67) ["_law_cell","_law_tolds"] []
 Hg:mg "_law_table"=some (.ref (av 67))
 rN:dR K "_law_written" "_law_written" kT (av 68) (aG 68)
 CF:Binds K (aG 68) ["_law_made_here","_law_table_here"] []
 CG:mg "_law_written"=some (.ref (av 68))
 abp:dR K "law" "law" zx (av 69) (aG 69)
 adW:Binds K (aG 69) ["_law_script"] []
 adX:mg "law"=some (.ref (av 69))
 aL:K3 K (av 70)
 Fx:mg "Dialect"=some (.ref (av 70))
 Fy:Mk K (av 70) (av 2)
 ck:dg K (av 70) "parts"
 bS:dg K (av 70) "quotes"
 bQ:dg K (av 70) "frees"
 f9:dg K (av 70) "twin"
 dW:dg K (av 70) "wide"
 dY:dg K (av 70) "thin"
 fk:dg K (av 70) "stray"
 gu:K3 K (av 71)
 Mc:mg "Turn"=some (.ref (av 71))
 Me:Mk K (av 71) (av 5)
 bO:dg K (av 71) "dialect"
 cg:K3 K (av 72)
 CH:mg "Marker"=some (.ref (av 72))
 CI:Mk K (av 72) (av 6)
 fz:dg K (av 72) "turn"
 cu:dg K (av 72) "tokens"
 dj:K3 K (av 73)
 JX:mg "Places"=some (.ref (av 73))
 JY:Mk K (av 73) (av 18)
 fm:dg K (av 73) "marker"
 dZ:dg K (av 73) "markers"
 iS:dg K (av 73) "signs"
 gv:K3 K (av 74)
 Uk:mg "Writer"=some (.ref (av 74))
 Ul:Mk K (av 74) (av 55)
 fq:dg K (av 74) "marker"
 gW:dg K (av 74) "tokens"
 iT:dg K (av 74) "usual"
 zL:∃ds,Vals [V.non] ds/\Binds K (aG 40) ["first","searched","most"] ds
 CJ:mg "DialectError"=some (.ref (av 75))
 gb:xJ K (av 75) (av 76) qM none
 Ay:XIn K (av 75)
 abq:mg "NoText"=some (.ref (av 77))
 abr:xJ K (av 77) (av 78) (.ref (av 75)::qM) none
 aak:mg "NoTable"=some (.ref (av 79))
 aal:xJ K (av 79) (av 80) (.ref (av 75)::qM) none
 abt:mg "NoMost"=some (.ref (av 81))
 abu:xJ K (av 81) (av 82) (.ref (av 75)::qM) none
 aam:mg "TooMany"=some (.ref (av 83))
 aan:xJ K (av 83) (av 84) (.ref (av 75)::qM) (some (.ref (av 20)))
 XC:W.keepIn K (.ref (av 83))=true
 Zn:∃oI:Obj,K.lookup (av 20)=some oI/\oI.cls=.type "function"
 QV:Xl K (av 83) "most"
 zM:mg "NoWriting"=some (.ref (av 85))
 ig:xJ K (av 85) (av 86) (.ref (av 75)::qM) (some (.ref (av 19)))
 DX:W.keepIn K (.ref (av 85))=true
 wN:∃oI:Obj,K.lookup (av 19)=some oI/\oI.cls=.type "function"
 yL:Xl K (av 85) "row"
 wO:Xl K (av 85) "cell"
 u7:mg "all"=none
 Um:mg "any"=none
 Od:mg "bool"=none
 Hh:mg "enumerate"=none
 Uo:mg "int"=none
 bq:mg "isinstance"=none
 bR:mg "len"=none
 Bm:mg "list"=none
 Zo:mg "max"=none
 Zp:mg "ord"=none
 wQ:mg "range"=none
 zN:mg "reversed"=none
 CK:mg "str"=none
 Up:mg "sum"=none
 lG:mg "tuple"=none
 Hi:mg "zip"=none
 mV:∃t,mg "LINE"=some (.str (bU 0) t)
 jz:(bU 0)=("\n":Str)
 DY:∃t,mg "MOST_SIGNS"=some (.int 2000 t)
 Hj:∃t,mg "MOST_ROWS"=some (.int 60 t)
 DZ:∃t,mg "MOST_CELLS"=some (.int 20 t)
 iU:∃t,mg "MOST_SIGNS_IN_CELLS"=some (.int 400 t)
 CL:∃t,mg "MOST_TOKENS"=some (.int 24 t)
 CO:∃t,mg "MOST_OTHERS"=some (.int 3 t)
 CQ:∃t,mg "MOST_PLACES"=some (.int 4000 t)
 gc:mg "START"=some (.ref (av 87))
 gg:∃(o:Obj)(its:Array Value)(n:Nat),K.lookup (av 87)=some o/\o.cls=.type "tuple"/\o.data=.seq its n/\its.size<=sizeLine/\Vals [.str ("row":Str),.str 'd'] its.toList
 Oe:mg "PART"=some (.ref (av 88))
 Og:∃(o:Obj)(its:Array Value)(n:Nat),K.lookup (av 88)=some o/\o.cls=.type "tuple"/\o.data=.seq its n/\its.size<=sizeLine/\Vals [.str ("part":Str),.str 'd'] its.toList
 Uq:mg "END"=some (.ref (av 89))
 Ur:∃(o:Obj)(its:Array Value)(n:Nat),K.lookup (av 89)=some o/\o.cls=.type "tuple"/\o.data=.seq its n/\its.size<=sizeLine/\Vals [.str ("end":Str),.str 'd'] its.toList
section
variable{P:Program}{w:World}{K:W.Frag}{mg:Str->Option Value}{base:Heap}{av:Nat->Addr}{aG:Nat->FuncData}{bU:Nat->Str}
inductive p9(vs:List V)(H:Hp)(Q:VK)(E_:XK):Prop where
 |mk (c:Nat):(vs=[.str (sg c)])->(Q (.bl (decide (Pn c))) H)->p9 vs H Q E_
section
variable(T:Txt P w base K mg av aG bU)
include T
abbrev zzz(_:Txt P w base K mg av aG bU)(e)(n i:Nat)(a b):=bg P w K mg base e n (av i) (aG i) a b
theorem qb:zzz T dQ 1 0 ["sign"] p9:=by
 refine T.lu.ok pV 'e' 'a'
 ·obtain⟨c,rfl,_⟩:=h;rfl
 ·have hu:=aS hr
  obtain⟨c,rfl,k⟩:=h
  refine⟨_,(aj (cP 1 pV.nd (iz Ri T.Zp (af (pv 0) ah)))
   (ak (ay (oR (DI Rg (pv 1) aq) (oR (DI Rf (pv 1) aq) (nk (DI vC (pv 1) aq))))))),?_⟩
  refine⟨_,O,_,O,O,?_⟩
  refine⟨_,O,_,_,O,O,_,O,cz (λh1=>?_) (λh1=>?_)⟩
  ·have h1:(32:Int)<=((c:Nat):Int):=aez h1
   refine⟨_,O,_,_,O,O,_,O,cz (λh2=>?_) (λh2=>?_)⟩
   ·have h2:((c:Nat):Int)<=126:=aez h2
    refine⟨_,O,O,?_⟩
    have e:(!decide (V.int ((c:Nat):Int)=V.int 37))=decide (Pn c):=by
     by_cases h3:c=37
     ·subst h3;decide
     ·have n1:¬(V.int ((c:Nat):Int)=V.int 37):=λz=>h3 (by injection z with z;omega)
      rw[aeg n1,aeb (show Pn c from⟨by omega,by omega,h3⟩)];rfl
    show Q (.bl (!decide (V.int ((c:Nat):Int)=V.int 37))) H
    rw[e];exact k
   ·have e:decide (((c:Nat):Int)<=126)=decide (Pn c):=by
     have n1:¬((c:Nat):Int)<=126:=λz=>h2 (aeb z)
     rw[aeg n1,aeg (λz:Pn c=>n1 (by have:=z.2.1;omega))]
    rw[←e,show decide (((c:Nat):Int)<=126)=false from Bool.eq_false_iff.mpr h2]at k
    exact k
  ·have e:decide ((32:Int)<=((c:Nat):Int))=decide (Pn c):=by
    have n1:¬(32:Int)<=((c:Nat):Int):=λz=>h1 (aeb z)
    rw[aeg n1,aeg (λz:Pn c=>n1 (by have:=z.1;omega))]
   rw[←e,show decide ((32:Int)<=((c:Nat):Int))=false from Bool.eq_false_iff.mpr h1]at k
   exact k
inductive jZ(vs:List V)(H:Hp)(Q:VK)(E_:XK):Prop where
 |mk (z:Str) (lo hi:Int):(vs=[.str z,.int lo,.int hi])->(Sg z)->(lo<=z.length)->((z.length:Int)<=hi)->(z.length<=1000)->(∀H',aE H H'->Q (.bl true) H')->jZ vs H Q E_
theorem tO:zzz T dQ 2 1 ["thing","least","most"] jZ:=by
 have lH:=qb T
 refine T.eX.ok tL 'e' 'a'
 ·obtain⟨z,lo,hi,rfl,_⟩:=h;rfl
 ·have hu:=aS hr
  obtain⟨z,lo,hi,rfl,g,hlo,hhi,hz,k⟩:=h
  have Fz:z.length<=sizeLine:=aep hz 'c'
  refine⟨_,(aj (aP (PW.pt (ia (bT (bD (iz (cC K rfl) T.bq (af (pv 0) (af (KP "str" T.CK) ah))))) (ia (eH Io (iz bV T.bR (af (pv 0) ah)) (pv 1)) (fD (eH qD (iz bV T.bR (af (pv 0) ah)) (pv 2)))))) (ak (ay fJ)) aC)
   (ak (ay (iz (jh K rfl rfl) T.u7 (af (cK rfl (show aZ ["thing","least","most"] (au eN) ["sign","thing"] 1 [0] _ from DA) (oW (pv 0)) (λ_ _ _ _=>(ji 0 (show(["sign","thing"]:List Str).Nodup by decide +kernel))) (λ_ _ _ _=>cB) (λ_ _ _ _=>(oR (e9 lH hr T.rC T.lu.kp T.rB (af (pv 0) ah)) (nk (DI cE (cT K rfl afo PySem.F.slot_str_count PySem.F.type_str_count RN (pv 1) (af (pv 0) ah)) aq))))) ah))))),?_⟩
  refine⟨_,O,_,_,_,true,O,.str _,.inl ⟨_,O,O⟩,true,O,dh ?_⟩
  refine⟨_,O,z,O,Fz,_,O,_,_,O,O,_,O,SK 'f' ?_⟩
  refine⟨_,O,z,O,Fz,_,O,_,_,O,O,_,O,SK 'f' ?_⟩
  refine⟨_,O,z,O,λD hD=>?_⟩
  have hsz:z.cps.toList.length=z.length:=by rw[aeq];rfl
  refine vG (λi ys τ H2=>(∃v,τ=[v,some (.str z)])/\aE H H2/\H2 D=some (.lst ys)/\ys=(List.replicate i true).map V.bl) ⟨⟨_,rfl⟩,ao hD,ai,rfl⟩ (λi ys τ H2 _ p=>p.2.2.1) ?_ ?_
  ·rintro i c ys τ H2 hi ⟨⟨v,rfl⟩,s2,hl,rfl⟩
   have hc:c∈z.cps.toList:=aen hi
   have hil:i<z.cps.toList.length:=(ad8.mp hi).1
   refine qu ?_
   refine⟨_,O,c,O,_,O,mE (aeb (g.pr c hc)) ?_⟩
   refine⟨_,O,O,_,O,z,c,O,O,O,?_⟩
   have e:decide (V.int (PyProof.Rows.cnt c z.cps.toList)=V.int 1)=true:=by rw[NL g.nd hc];exact aeb rfl
   rw[e]
   refine⟨hl,?_,⟨_,O⟩,aM hD s2,ai,?_⟩
   ·rw[aec,ae9]
    exact aeu (show i<1001 by omega) 'c'
   ·rw[afJ,aeo];rfl
  ·rintro ys τ H2 ⟨⟨v,rfl⟩,s2,hl,rfl⟩
   refine⟨D,List.replicate _ true,O,aT.of hl,?_⟩
   have e:(List.replicate z.cps.toList.length true).all id=true:=by
    rw[aeP]
    intro b hb
    exact(List.mem_replicate.mp hb).2
   rw[e]
   exact k H2 s2
inductive j0(C:Addr)(vs:List V)(H:Hp)(Q:VK)(E_:XK):Prop where
 |mk (x dx:Addr) (p q f:Str) (b1 b2 b3 b4:Bool):(vs=.ref x::vK p q f b1 b2 b3 b4)->(H x=some (.ins C dx []))->(Gd p q f)->(∀H',H' x=some (.ins C dx (zy p q f b1 b2 b3 b4))->(∀b o,H b=some o->b≠x->H' b=some o)->Q .non H')->j0 C vs H Q E_
theorem j7:zzz T dQ 3 2 ["self","parts","quotes","frees","twin","wide","thin","stray"] (j0 (av 70)):=by
 have g8:=tO T
 refine T.uZ.ok jX 'e' 'a'
 ·obtain⟨x,dx,p,q,f,b1,b2,b3,b4,rfl,_⟩:=h;rfl
 ·have hu:=aS hr
  obtain⟨x,dx,p,q,f,b1,b2,b3,b4,rfl,hx,g,k⟩:=h
  have hp1:=g.p1;have hp3:=g.p3;have hq2:=g.q2;have hf2:=g.f2
  refine⟨_,(aj (aP (bT (bD (e9 g8 hr T.g7 T.eX.kp T.g6 (af (pv 1) (af aq (af aq ah)))))) (ak gH) aC)
   (aj (aP (bT (bD (e9 g8 hr T.g7 T.eX.kp T.g6 (af (pv 2) (af aq (af aq ah)))))) (ak gH) aC)
   (aj (aP (bT (bD (e9 g8 hr T.g7 T.eX.kp T.g6 (af (pv 3) (af aq (af aq ah)))))) (ak gH) aC)
   (aj (c9 aeF rfl (Vi K rfl (aH (af (pv 4) (af (pv 5) (af (pv 6) (af (pv 7) ah)))))) (ji 8 jX.nd)
   (ak (aP (bT (bD (iz (cC K rfl) T.bq (af (pv 8) (af (KP "bool" T.Od) ah))))) (ak gH) aC)))
   (aj (fE (pv 0) (pv 1) rfl)
   (aj (fE (pv 0) (pv 2) rfl)
   (aj (fE (pv 0) (pv 3) rfl)
   (aj (fE (pv 0) (pv 4) rfl)
   (aj (fE (pv 0) (pv 5) rfl)
   (aj (fE (pv 0) (pv 6) rfl)
   (ak (fE (pv 0) (pv 7) rfl)))))))))))),?_⟩
  refine⟨_,O,p,1,3,O,g.gp,by omega,by omega,by omega,λH1 s1=>⟨true,O,dh ?_⟩⟩
  refine⟨_,O,q,0,2,O,g.gq,by omega,by omega,by omega,λH2 s2=>⟨true,O,dh ?_⟩⟩
  refine⟨_,O,f,0,2,O,g.gf,by omega,by omega,by omega,λH3 s3=>⟨true,O,dh ?_⟩⟩
  refine⟨_,O,_,O,_,O,_,O,(by show 4<=sizeLine;decide),λt ht=>⟨t,O,⟨_,aX.of ai⟩,?_⟩⟩
  have s03:aE H (upd H3 t (.tup [.bl b1,.bl b2,.bl b3,.bl b4])):=((s1.trans s2).trans s3).trans (ao ht)
  have DB:(upd H3 t (.tup [.bl b1,.bl b2,.bl b3,.bl b4])) t=some (.tup [.bl b1,.bl b2,.bl b3,.bl b4]):=ai
  generalize upd H3 t (.tup [.bl b1,.bl b2,.bl b3,.bl b4])=H4 at s03 DB⊢
  refine UZ (K:=K) (a:=t) (xs:=[.bl b1,.bl b2,.bl b3,.bl b4]) (λi σ H5=>H5=H4/\∃v,σ=[some (.ref x),some (.str p),some (.str q),some (.str f),some (.bl b1),some (.bl b2),some (.bl b3),some (.bl b4),v]) ⟨rfl,_,rfl⟩ (λi σ H5 _ q=>by rw[q.1];exact aX.of DB) ?_ ?_
  ·rintro i y σ H5 hi ⟨rfl,v,rfl⟩
   obtain⟨b,rfl⟩:∃b,y=V.bl b:=by
    have hi4:i<4:=(ad8.mp hi).1
    match i,hi4,hi with
    | 0,_,hi=>exact⟨_,(aes hi).symm⟩
    | 1,_,hi=>exact⟨_,(aes hi).symm⟩
    | 2,_,hi=>exact⟨_,(aes hi).symm⟩
    | 3,_,hi=>exact⟨_,(aes hi).symm⟩
   refine⟨_,O,_,_,_,true,O,.bl _,.inl ⟨_,O,O⟩,true,O,dh ?_⟩
   exact⟨O,_,O⟩
  ·rintro σ H5 ⟨rfl,v,rfl⟩
   have hx5:=s03 _ _ hx
   refine⟨_,O,_,O,x,(av 70),dx,_,O,hx5,T.aL,T.ck,(by show 0<1000;decide),_,O,_,O,x,(av 70),dx,_,O,ai,T.aL,T.bS,(by show 1<1000;decide),_,O,_,O,x,(av 70),dx,_,O,ai,T.aL,T.bQ,(by show 2<1000;decide),_,O,_,O,x,(av 70),dx,_,O,ai,T.aL,T.f9,(by show 3<1000;decide),_,O,_,O,x,(av 70),dx,_,O,ai,T.aL,T.dW,(by show 4<1000;decide),_,O,_,O,x,(av 70),dx,_,O,ai,T.aL,T.dY,(by show 5<1000;decide),_,O,_,O,x,(av 70),dx,_,O,ai,T.aL,T.fk,(by show 6<1000;decide),?_⟩
   refine k _ ai λb o e hb=>?_
   rw[az hb,az hb,az hb,az hb,az hb,az hb,az hb]
   exact s03 _ _ e
inductive qc(C:Addr)(vs:List V)(H:Hp)(Q:VK)(E_:XK):Prop where
 |mk (x dx:Addr) (p q f:Str) (b1 b2 b3 b4:Bool):(vs=[.ref x])->(H x=some (.ins C dx (zy p q f b1 b2 b3 b4)))->(∀t,H t=none->Q (.ref t) (upd H t (.tup (vK p q f b1 b2 b3 b4))))->qc C vs H Q E_
theorem Az:zzz T dQ 1 3 ["self"] (qc (av 70)):=by
 refine T.Co.ok Ak 'e' 'a'
 ·obtain⟨x,dx,p,q,f,b1,b2,b3,b4,rfl,_⟩:=h;rfl
 ·have hu:=aS hr
  obtain⟨x,dx,p,q,f,b1,b2,b3,b4,rfl,hx,k⟩:=h
  refine⟨_,(ak (ay (aH (af 'h' (af 'h' (af 'h' (af 'h' (af 'h' (af 'h' (af 'h' ah)))))))))),?_⟩
  refine⟨_,O,x,(av 70),dx,_,_,O,hx,T.aL,T.ck,O,_,O,x,(av 70),dx,_,_,O,hx,T.aL,T.bS,O,_,O,x,(av 70),dx,_,_,O,hx,T.aL,T.bQ,O,_,O,x,(av 70),dx,_,_,O,hx,T.aL,T.f9,O,_,O,x,(av 70),dx,_,_,O,hx,T.aL,T.dW,O,_,O,x,(av 70),dx,_,_,O,hx,T.aL,T.dY,O,_,O,x,(av 70),dx,_,_,O,hx,T.aL,T.fk,O,(by show 7<=sizeLine;decide),λt ht=>?_⟩
  exact k t ht
inductive ug(C:Addr)(vs:List V)(H:Hp)(Q:VK)(E_:XK):Prop where
 |mk (t:Addr) (p q f:Str) (b1 b2 b3 b4:Bool):(vs=[.ref t])->(H t=some (.tup (vK p q f b1 b2 b3 b4)))->(Gd p q f)->(∀(x dx:Addr)(H':Hp),H x=none->H' x=some (.ins C dx (zy p q f b1 b2 b3 b4))->aE H H'->Q (.ref x) H')->ug C vs H Q E_
theorem D0:zzz T dQ 5 4 ["told"] (ug (av 70)):=by
 have g9:=j7 T
 refine T.wz.ok DO 'e' 'a'
 ·obtain⟨t,p,q,f,b1,b2,b3,b4,rfl,_⟩:=h;rfl
 ·have hu:=aS hr
  obtain⟨t,p,q,f,b1,b2,b3,b4,rfl,ht,g,k⟩:=h
  have hS:aX K H t (vK p q f b1 b2 b3 b4):=aX.of ht
  refine⟨_,(aj (aP (PW.pt (ia (bT (bD (iz (qI K rfl) T.bq (af (pv 0) (af (KP "tuple" T.lG) ah))))) (fD (eH vC (iz (aU K rfl) T.bR (af (pv 0) ah)) aq)))) (ak gH) aC)
   (ak (ay (iB (k:=3) T.Fy g9 (hr.mono 'c') rfl T.Fx T.ly .nil cO (af (d8 K (pv 0) aq) (af (d8 K (pv 0) aq) (af (d8 K (pv 0) aq) (af (d8 K (pv 0) aq) (af (d8 K (pv 0) aq) (af (d8 K (pv 0) aq) (af (d8 K (pv 0) aq) ah))))))))))),?_⟩
  refine⟨_,O,t,_,_,true,O,.inl ⟨hS,O⟩,true,O,dh ?_⟩
  refine⟨_,O,t,_,O,.inr hS,O,_,O,aaP rfl ?_⟩
  refine⟨_,O,t,_,_,_,O,O,hS,O,_,O,t,_,_,_,O,O,hS,O,_,O,t,_,_,_,O,O,hS,O,_,O,t,_,_,_,O,O,hS,O,_,O,t,_,_,_,O,O,hS,O,_,O,t,_,_,_,O,O,hS,O,_,O,t,_,_,_,O,O,hS,O,λx dx hx hdx ne=>?_⟩
  refine⟨x,dx,p,q,f,b1,b2,b3,b4,O,ai,g,λH2 h2 kp=>⟨O,k x dx H2 hx h2 λb o e=>kp b o ?_ (aV e hx)⟩⟩
  rw[az (aV e hx),az (aV e hdx)]
  exact e
inductive ow(C CT:Addr)(vs:List V)(H:Hp)(Q:VK)(E_:XK):Prop where
 |mk (y dy x dx:Addr) (p q f:Str) (b1 b2 b3 b4:Bool):(vs=[.ref y,.ref x])->(H y=some (.ins CT dy []))->(H x=some (.ins C dx (zy p q f b1 b2 b3 b4)))->(Gd p q f)->(∀H',Tn C CT H' y p q f b1 b2 b3 b4->(∀b o,H b=some o->b≠y->H' b=some o)->Q .non H')->ow C CT vs H Q E_
theorem jt:zzz T dQ 6 5 ["self","dialect"] (ow (av 70) (av 71)):=by
 have CS:=Az T
 have Hl:=D0 T
 refine T.An.ok yr 'e' 'a'
 ·obtain⟨y,dy,x,dx,p,q,f,b1,b2,b3,b4,rfl,_⟩:=h;rfl
 ·have hu:=aS hr
  obtain⟨y,dy,x,dx,p,q,f,b1,b2,b3,b4,rfl,hy,hx,g,k⟩:=h
  refine⟨_,(ak (fE (pv 0) (e9 Hl hr T.GU T.wz.kp T.GS (af (Bw (k:=1) (pv 1) T.aL T.Cq CS (hr.mono 'c') T.Cp .nil cO) ah)) rfl)),?_⟩
  refine⟨_,O,x,dx,_,O,hx,O,x,dx,p,q,f,b1,b2,b3,b4,O,hx,λt ht=>?_⟩
  have s1:=ao (o:=HO.tup (vK p q f b1 b2 b3 b4)) ht
  refine⟨t,p,q,f,b1,b2,b3,b4,O,ai,g,λd dd H2 hd h2 s2=>?_⟩
  have s12:=s1.trans s2
  have nyd:d≠y:=λe=>by subst e;rw[s1 _ _ hy]at hd;cases hd
  refine⟨_,O,y,(av 71),dy,_,O,s12 _ _ hy,T.gu,T.bO,(by show 0<1000;decide),?_⟩
  refine k _ ⟨⟨dy,d,dd,ai,(az nyd).trans h2⟩⟩ λb o e hb=>(az hb).trans (s12 _ _ e)
inductive lI(K:W.Frag)(C CT CM:Addr)(vs:List V)(H:Hp)(Q:VK)(E_:XK):Prop where
 |mk (m dm x dx l:Addr) (ys:List V) (ts:List (Str×Str)) (p q f:Str) (b1 b2 b3 b4:Bool):(vs=[.ref m,.ref x,.ref l])->(H m=some (.ins CM dm []))->(H x=some (.ins C dx (zy p q f b1 b2 b3 b4)))->(Gd p q f)->(H l=some (.lst ys))->(Paired (dU K H) ys ts)->(∀H',oN K C CT CM H' m p q f b1 b2 b3 b4 ts->(∀b o,H b=some o->b≠m->H' b=some o)->(∃dm y,H' m=some (.ins CM dm (Y6 y l)))->Q .non H')->lI K C CT CM vs H Q E_
theorem u9:zzz T dQ 8 6 ["self","dialect","tokens"] (lI K (av 70) (av 71) (av 72)):=by
 have fu:=jt T
 refine T.mK.ok k8 'e' 'a'
 ·obtain⟨m,dm,x,dx,l,ys,ts,p,q,f,b1,b2,b3,b4,rfl,_⟩:=h;rfl
 ·have hu:=aS hr
  obtain⟨m,dm,x,dx,l,ys,ts,p,q,f,b1,b2,b3,b4,rfl,hm,hx,g,hl,tp,k⟩:=h
  refine⟨_,(aj (fE (pv 0) (iB (k:=6) T.Me fu (hr.mono 'c') rfl T.Mc T.jR .nil cO (af (pv 1) ah)) rfl)
   (ak (fE (pv 0) (pv 2) rfl))),?_⟩
  refine⟨_,O,λy dy hy QT ne=>⟨y,dy,x,dx,p,q,f,b1,b2,b3,b4,O,ai,cF hy QT hx,g,λH2 hT kp=>⟨O,?_⟩⟩⟩
  have s2:=gk hy QT kp
  have hm2:=s2 _ _ hm
  refine⟨_,O,m,(av 72),dm,_,O,hm2,T.cg,T.fz,(by show 0<1000;decide),?_⟩
  refine⟨_,O,_,O,m,(av 72),dm,_,O,ai,T.cg,T.cu,(by show 1<1000;decide),?_⟩
  have nlm:l≠m:=λq=>by rw[q,hm]at hl;cases hl
  refine k _ ⟨dm,y,l,ys,ai,?_,(az nlm).trans ((az nlm).trans (s2 _ _ hl)),gM ai (gM hm2 (bY s2 tp))⟩ (λb o e hb=>(az hb).trans ((az hb).trans (s2 _ _ e))) ⟨dm,y,ai⟩
  refine Tn.off ai ?_ ?_ (Tn.off hm2 ?_ ?_ hT)
  ·intro d fs q;injection q with q1 q2 q3;injection q3 with q4 q5;injection q4 with q6 q7;exact absurd q6 'b'
  ·intro d q;injection q with q1 q2 q3;injection q3 with q4 q5;injection q4 with q6 q7;exact absurd q6 'b'
  ·intro d fs q;injection q with q1 q2 q3;cases q3
  ·intro d q;injection q with q1 q2 q3;cases q3
inductive oz(K:W.Frag)(vs:List V)(H:Hp)(Q:VK)(E_:XK):Prop where
 |mk (a:Addr) (r:List Str):(vs=[.ref a])->(H a=some (.lst (r.map V.str)))->(r.length<=20)->((lens r).sum<=400)->(∀(l:Addr)(ys:List V) H',H l=none->H' l=some (.lst ys)->Paired (dU K H') ys (nE r)->aE H H'->Q (.ref l) H')->oz K vs H Q E_
theorem yM:zzz T dQ 1 7 ["row"] (oz K):=by
 refine T.pX.ok gm 'e' 'a'
 ·obtain⟨a,r,rfl,_⟩:=h;rfl
 ·have hu:=aS hr
  obtain⟨a,r,rfl,ha,hr,hs,k⟩:=h
  refine⟨_,(aj (cP 1 gm.nd (bL ah))
   (aj (c9 aeF rfl (RU K rfl rfl T.Hh (af (pv 0) ah)) (mq K rfl 2 rfl (cN (ji 2 gm.nd) (cN (ji 3 gm.nd) mh)))
   (aj (aP (eH qD (pv 2) aq) (ak (cH (cT K rfl aeE aeL aeM cI (pv 1) (af (eG rfl T.Oe) ah)))) aC)
   (ak (cH (cT K rfl aeE PySem.F.slot_list_extend PySem.F.type_list_extend xP (pv 1) (af (cK rfl (show aZ ["row","tokens","place","cell"] (au gS) ["sign"] 1 [] _ from DA) (oW (pv 3)) (λ_ _ _ _=>(ji 0 O3)) (λ_ _ _ _=>cB) (λ_ _ _ _=>(aH (af aB (af (pv 0) ah))))) ah))))))
   (aj (cH (cT K rfl aeE aeL aeM cI (pv 1) (af (eG rfl T.Uq) ah)))
   (ak (ay (pv 1)))))),?_⟩
  refine⟨by decide,λl hl=>?_⟩
  have s0:=ao (o:=HO.lst []) hl
  have abv:∀n,n<=r.length->(jP r n).length<=420:=λn hn=>by
   have:=BQ r n hn
   have h2:(lens (r.take n)).sum<=(lens r).sum:=by
    unfold lens;rw[List.map_take];exact qJ _ _
   omega
  refine⟨_,O,a,O,⟨_,aT.of (s0 _ _ ha)⟩,?_⟩
  refine RV (K:=K) (a:=a) (xs:=r.map V.str) (λi σ H2=>(∃v1 v2,σ=[some (.ref a),some (.ref l),v1,v2])/\aE H H2/\∃ys,H2 l=some (.lst ys)/\Paired (dU K H2) ys (jP r i)) ⟨⟨_,_,rfl⟩,s0,[],ai,.nil⟩ (λi σ H2 _ q=>aT.of (q.2.1 _ _ ha)) ?_ ?_
  ·rintro i e t σ H2 hi ht ⟨⟨v1,v2,rfl⟩,s2,ys,hy,hp⟩
   have hil:i<r.length:=by
    have:=(ad8.mp hi).1
    rwa [aec]at this
   rw[aft]at hi
   cases hz:r[i]? with
   |none=>rw[hz]at hi;cases hi
   |some z =>
    rw[hz]at hi
    cases hi
    have hz4:z.length<=400:=aep (BP (aen hz)) hs
    have st:=ao (o:=HO.tup [.int (i:Int),.str z]) ht
    have hb:=abv i 'f'
    have hyl:=hp.length
    refine⟨t,_,O,aX.of ai,O,_,_,O,_,_,O,O,?_⟩
    have hy1:=st _ _ hy
    have hp1:=aI (λa b h=>dU.mono st h) hp
    have s21:=s2.trans st
    generalize upd H2 t (HO.tup [.int (i:Int),.str z])=H3 at st hy1 hp1 s21⊢
    clear hp hy s2 st
    refine O6 (t:=aav _ _ _) (λσ' H'=>σ'=[some (.ref a),some (.ref l),some (.int (i:Int)),some (.str z)]/\aE H H'/\∃ws,H' l=some (.lst ws)/\Paired (dU K H') ws (jP r i++(if i=0 then [] else [mG]))) ?_ (λgo=>?_)
    rotate_left
    ·refine⟨_,O,_,_,O,O,_,O,cz (λh=>?_) (λh=>?_)⟩
     ·have h0:(0:Int)<i:=aez h
      refine⟨_,O,.inl ⟨O,_,aT.of hy1⟩,l,ys,_,O,O,hy1,aem (show ys.length<=420 by omega) 'c',go _ _ ⟨O,aM hl s21,_,ai,?_⟩⟩
      rw[ad5 'f']
      exact aI (λa b h=>dU.but hy1 h) (qZ hp1 ⟨(av 88),rfl,.inr T.Og⟩)
     ·have h0:i=0:=by
       have:¬(0:Int)<i:=λq=>h (aeb q)
       omega
      refine go _ _ ⟨rfl,s21,ys,hy1,?_⟩
      rw[aee h0,aeD]
      exact hp1
    clear hy1 hp1 s21 hyl
    rintro σ' H4 ⟨rfl,s4,ws,hw,hpw⟩
    have hwl:=hpw.length
    have adZ:ws.length<=421:=by
     rw[hwl,aef]
     split
     ·simp;omega
     ·show _+1<=421;omega
    refine⟨_,O,.inl ⟨O,_,aT.of hw⟩,_,O,z,O,λD hD=>?_⟩
    refine vG (λj zs τ H5=>(∃v,τ=[v])/\aE H4 H5/\H5 D=some (.lst zs)/\Paired (dU K H5) zs ((z.cps.toList.take j).map λc=>(Str.ofString "put",sg c))) ⟨⟨_,rfl⟩,ao hD,ai,.nil⟩ (λj zs τ H5 _ p=>p.2.2.1) ?_ ?_
    ·rintro j c zs τ H5 hj ⟨⟨v,rfl⟩,s5,h5,hp5⟩
     have hjl:j<z.cps.toList.length:=(ad8.mp hj).1
     rw[aeq]at hjl
     have hjl:j<z.length:=hjl
     have Fz:=hp5.length
     rw[aec,aey]at Fz
     refine qu ?_
     refine⟨_,O,(by show 2<=sizeLine;decide),λu hu5=>?_⟩
     have s6:=ao (o:=HO.tup [.str ("put":Str),.str (sg c)]) hu5
     refine⟨s6 _ _ h5,aem (show zs.length<=400 by omega) 'c',⟨_,O⟩,aM hD (s5.trans s6),ai,?_⟩
     rw[aO hj,aeo]
     exact aI (λa b h=>dU.but (s6 _ _ h5) h) (qZ (aI (λa b h=>dU.mono s6 h) hp5) ⟨u,rfl,aX.of ai⟩)
    ·rintro zs τ H5 ⟨⟨v,rfl⟩,s5,h5,hp5⟩
     rw[aek (ad6 _)]at hp5
     have Fz:=hp5.length
     rw[aec,aeq]at Fz
     have Fz:zs.length=z.length:=Fz
     have hw5:=s5 _ _ hw
     refine⟨l,D,ws,zs,O,O,hw5,h5,aep (show ws.length+zs.length<=1000 by omega) 'c',⟨_,_,O⟩,aM hl (s4.trans s5),_,ai,?_⟩
     rw[kC hz,←aeC]
     exact aI (λa b h=>dU.but hw5 h) (bM (aI (λa b h=>dU.mono s5 h) hpw) hp5)
  ·rintro σ H2 ⟨⟨v1,v2,rfl⟩,s2,ys,hy,hp⟩
   rw[aec]at hp
   have hb:=abv r.length (ad6 _)
   have hyl:=hp.length
   refine⟨_,O,.inl ⟨O,_,aT.of hy⟩,l,ys,_,O,O,hy,aem (show ys.length<=420 by omega) 'c',?_⟩
   refine⟨_,O,k l _ _ hl ai ?_ (aM hl s2)⟩
   exact aI (λa b h=>dU.but hy h) (qZ hp ⟨(av 89),rfl,.inr T.Ur⟩)
inductive lJ(vs:List V)(H:Hp)(Q:VK)(E_:XK):Prop where
 |mk (z:Str):(vs=[.str z])->(z.length<=2000)->(∀H',aE H H'->Q (.bl (textOk z)) H')->lJ vs H Q E_
theorem lK:zzz T dQ 2 8 ["text"] lJ:=by
 have lH:=qb T
 refine T.iQ.ok uW 'e' 'a'
 ·obtain⟨z,rfl,_⟩:=h;rfl
 ·have hu:=aS hr
  obtain⟨z,rfl,hz,k⟩:=h
  refine⟨_,(ak (ay (iz (jh K rfl rfl) T.u7 (af (cK rfl (show aZ ["text"] (au fM) ["sign"] 1 [] _ from DA) (oW (pv 0)) (λ_ _ _ _=>(ji 0 O3)) (λ_ _ _ _=>cB) (λ_ _ _ _=>(W7 (DI cE (pv 0) (mw rfl T.mV.choose_spec)) (nk (e9 lH hr T.rC T.lu.kp T.rB (af (pv 0) ah)))))) ah)))),?_⟩
  refine⟨_,O,z,O,λD hD=>?_⟩
  have hsz:z.cps.toList.length=z.length:=by rw[aeq];rfl
  refine vG (λi ys τ H2=>(∃v,τ=[v])/\aE H H2/\H2 D=some (.lst ys)/\ys=((z.cps.toList.take i).map NY).map V.bl) ⟨⟨_,rfl⟩,ao hD,ai,rfl⟩ (λi ys τ H2 _ p=>p.2.2.1) ?_ ?_
  ·rintro i c ys τ H2 hi ⟨⟨v,rfl⟩,s2,hl,rfl⟩
   have hil:i<z.cps.toList.length:=(ad8.mp hi).1
   have hlen:(((z.cps.toList.take i).map NY).map V.bl).length<sizeLine:=by
    rw[aec,aec,aey]
    exact aem (show min i z.cps.toList.length<=2000 by omega) 'c'
   have fin:∀b,b=NY c->H2 D=some (.lst (((z.cps.toList.take i).map NY).map V.bl))/\(((z.cps.toList.take i).map NY).map V.bl).length<sizeLine/\(∃v,[some (V.str (sg c))]=[v])/\aE H (upd H2 D (.lst (((z.cps.toList.take i).map NY).map V.bl++[.bl b])))/\(upd H2 D (.lst (((z.cps.toList.take i).map NY).map V.bl++[.bl b]))) D=some (.lst (((z.cps.toList.take i).map NY).map V.bl++[.bl b]))/\((z.cps.toList.take i).map NY).map V.bl++[.bl b]=((z.cps.toList.take (i+1)).map NY).map V.bl:=λb hb=>by
    refine⟨hl,hlen,⟨_,O⟩,aM hD s2,ai,?_⟩
    rw[aO hi,aeo,aeo,hb];rfl
   refine qu ?_
   refine⟨_,O,O,_,O,cz (λh=>?_) (λh=>?_)⟩
   ·have h:decide (V.str (sg c)=V.str (bU 0))=true:=h
    have hc:c=10:=by
     have e:=aez h
     rw[T.jz]at e
     have e2:sg c=sg 10:=(V.str.inj e).trans 'b'
     have:=congrArg (λz:Str=>z.cps.toList) e2
     exact(List.cons.inj (show [c]=[10]from this)).1
    exact fin true (by rw[hc];exact(aeb (.inl rfl)).symm)
   ·have hc:c≠10:=sgL T.jz h
    refine⟨_,O,c,O,fin _ ?_⟩
    unfold NY
    by_cases hp:Pn c
    ·rw[aeb hp,aeb (.inr hp)]
    ·rw[aeg hp,aeg (λz=>z.elim hc hp)]
  ·rintro ys τ H2 ⟨⟨v,rfl⟩,s2,hl,rfl⟩
   refine⟨D,(z.cps.toList.take z.cps.toList.length).map NY,O,aT.of hl,?_⟩
   have e:((z.cps.toList.take z.cps.toList.length).map NY).all id=textOk z:=by
    rw[aek (ad6 _),List.all_map];rfl
   rw[e]
   exact k H2 s2
inductive CU(vs:List V)(H:Hp)(Q:VK)(E_:XK):Prop where
 |mk (z:Str):(vs=[.str z])->(bA z)->(z.length<=400)->(∀H',aE H H'->Q (.bl true) H')->CU vs H Q E_
theorem Mf:zzz T dQ 3 9 ["thing"] CU:=by
 have iV:=lK T
 refine T.Fd.ok LR 'e' 'a'
 ·obtain⟨z,rfl,_⟩:=h;rfl
 ·have hu:=aS hr
  obtain⟨z,rfl,g,hz,k⟩:=h
  refine⟨_,(aj (aP (PW.pt (ia (bT (bD (iz (cC K rfl) T.bq (af (pv 0) (af (KP "str" T.CK) ah))))) (fD (eH qD (iz bV T.bR (af (pv 0) ah)) (mC rfl T.iU.choose_spec))))) (ak (ay fJ)) aC)
   (ak (ay (e9 iV hr T.mO T.iQ.kp T.mL (af (pv 0) ah))))),?_⟩
  refine⟨_,O,_,_,_,true,O,.str _,.inl ⟨_,O,O⟩,true,O,dh ?_⟩
  refine⟨_,O,z,O,aep hz 'c',_,_,O,O,_,O,SK 'f' ?_⟩
  refine⟨_,O,z,O,by omega,?_⟩
  have e:textOk z=true:=by
   have:=N9 g (show z.length<=2000 by omega)
   have this:(decide (z.length<=2000)&&textOk z)=true:=this
   rw[ae7]at this
   exact this.2
  rw[e]
  exact k
inductive FA(K:W.Frag)(vs:List V)(H:Hp)(Q:VK)(E_:XK):Prop where
 |mk (a:Addr) (r:List Str):(vs=[.ref a])->(H a=some (.lst (r.map V.str)))->((∀c∈r,bA c))->((lens r).sum<=400)->(r.length<=1000)->(∀H',aE H H'->Q (.bl (GI r)) H')->FA K vs H Q E_
theorem Pu:zzz T dQ 4 10 ["thing"] (FA K):=by
 have Pw:=Mf T
 refine T.JL.ok Ph 'e' 'a'
 ·obtain⟨a,r,rfl,_⟩:=h;rfl
 ·have hu:=aS hr
  obtain⟨a,r,rfl,ha,g,hs,hrl,k⟩:=h
  have hml:(r.map V.str).length=r.length:=aec ..
  refine⟨_,(aj (aP (PW.pt (ia (bT (bD (iz (qI K rfl) T.bq (af (pv 0) (af (KP "list" T.Bm) ah))))) (ia (eH Io (iz (aU K rfl) T.bR (af (pv 0) ah)) aq) (fD (eH qD (iz (aU K rfl) T.bR (af (pv 0) ah)) (mC rfl T.DZ.choose_spec)))))) (ak (ay fJ)) aC)
   (ak (ay (iz (jh K rfl rfl) T.u7 (af (cK rfl (show aZ ["thing"] (au vJ) ["cell"] 1 [] _ from DA) (bH K rfl (pv 0)) (λ_ _ _ _=>(ji 0 O3)) (λ_ _ _ _=>cB) (λ_ _ _ _=>(e9 Pw hr T.Pk T.Fd.kp T.Pj (af (pv 0) ah)))) ah))))),?_⟩
  refine⟨_,O,a,_,_,true,O,.inr ⟨aT.of ha,O⟩,true,O,dh ?_⟩
  refine⟨_,O,a,_,O,.inl (aT.of ha),_,_,O,O,_,O,rd2 (λh1=>?_) (λh1=>?_)⟩
  ·rw[Tr 'f']at k
   exact i7 (k H (aE.refl _))
  refine⟨_,O,a,_,O,.inl (aT.of ha),_,_,O,O,_,O,rd2 (λh2=>?_) (λh2=>?_)⟩
  ·rw[Tr 'f']at k
   exact k H (aE.refl _)
  rw[Tq 'f' 'f']at k
  refine⟨_,O,a,O,⟨_,aT.of ha⟩,λD hD=>?_⟩
  refine cL (K:=K) (a:=a) (xs:=r.map V.str) (λi ys τ H2=>(∃v,τ=[v])/\aE H H2/\H2 D=some (.lst ys)/\ys=(List.replicate i true).map V.bl) ⟨⟨_,rfl⟩,ao hD,ai,rfl⟩ (λi ys τ H2 _ p=>⟨aT.of (p.2.1 _ _ ha),p.2.2.1⟩) ?_ ?_
  ·rintro i e ys τ H2 hi ⟨⟨v,rfl⟩,s2,hl,rfl⟩
   have hil:i<(r.map V.str).length:=(ad8.mp hi).1
   obtain⟨z,hz,rfl⟩:∃z∈r,e=V.str z:=by
    obtain⟨z,hz,e2⟩:=aeR.mp (aen hi)
    exact⟨z,hz,e2.symm⟩
   refine qu ?_
   refine⟨_,O,z,O,g z hz,aep (BP hz) hs,λH3 s3=>⟨s3 _ _ hl,?_,⟨_,O⟩,aM hD (s2.trans s3),ai,?_⟩⟩
   ·rw[aec,ae9]
    exact aeu (show i<1001 by (rw[aec]at hil;omega)) 'c'
   ·rw[afJ,aeo];rfl
  ·rintro ys τ H2 ⟨⟨v,rfl⟩,s2,hl,rfl⟩
   refine⟨D,List.replicate _ true,O,aT.of hl,?_⟩
   have e:(List.replicate (r.map V.str).length true).all id=true:=by
    rw[aeP]
    intro b hb
    exact(List.mem_replicate.mp hb).2
   rw[e]
   exact k H2 s2
inductive qd(K:W.Frag)(vs:List V)(H:Hp)(Q:VK)(E_:XK):Prop where
 |mk (a:Addr) (r:List Str):(vs=[.ref a])->(H a=some (.lst (r.map V.str)))->(r.length<=20)->((lens r).sum<=400)->(∀H',aE H H'->Q (.int ((lens r).sum:Nat)) H')->qd K vs H Q E_
theorem AA:zzz T dQ 1 11 ["row"] (qd K):=by
 refine T.rD.ok Al 'e' 'a'
 ·obtain⟨a,r,rfl,_⟩:=h;rfl
 ·have hu:=aS hr
  obtain⟨a,r,rfl,ha,hr,hs,k⟩:=h
  refine⟨_,(ak (ay (iz (EH K rfl rfl) T.Up (af (cK rfl (show aZ ["row"] (au iE) ["cell"] 1 [] _ from DA) (bH K rfl (pv 0)) (λ_ _ _ _=>(ji 0 O3)) (λ_ _ _ _=>cB) (λ_ _ _ _=>(iz bV T.bR (af (pv 0) ah)))) ah)))),?_⟩
  refine⟨_,O,a,O,⟨_,aT.of ha⟩,λD hD=>?_⟩
  refine cL (K:=K) (a:=a) (xs:=r.map V.str) (λi ys τ H2=>(∃v,τ=[v])/\aE H H2/\H2 D=some (.lst ys)/\ys=((lens r).take i).map λn:Nat=>V.int n) ⟨⟨_,rfl⟩,ao hD,ai,rfl⟩ (λi ys τ H2 _ p=>⟨aT.of (p.2.1 _ _ ha),p.2.2.1⟩) ?_ ?_
  ·rintro i e ys τ H2 hi ⟨⟨v,rfl⟩,s2,hl,rfl⟩
   rw[aft]at hi
   cases hz:r[i]? with
   |none=>rw[hz]at hi;cases hi
   |some z =>
    rw[hz]at hi
    cases hi
    have hzr:=aen hz
    have hz4:=aep (BP hzr) hs
    refine qu ?_
    refine⟨_,O,z,O,aep hz4 'c',hl,?_,⟨_,O⟩,aM hD s2,ai,?_⟩
    ·rw[aec,aey]
     unfold lens;rw[aec]
     exact aem (show _<=20 by omega) 'c'
    ·rw[aO (l:=lens r) (c:=z.length) (by unfold lens;rw[aft,hz];rfl),aeo];rfl
  ·rintro ys τ H2 ⟨⟨v,rfl⟩,s2,hl,rfl⟩
   refine⟨D,lens r,O,?_,by omega,k H2 s2⟩
   have e:(lens r).take (r.map V.str).length=lens r:=aek (by unfold lens;rw[aec,aec];exact ad6 _)
   rw[e]at hl
   exact aT.of hl
inductive zO(K:W.Frag)(vs:List V)(H:Hp)(Q:VK)(E_:XK):Prop where
 |mk (a:Addr) (xs:List V) (t:List (List Str)):(vs=[.ref a])->(H a=some (.lst xs))->(Paired (bX H) xs t)->(Za t)->(∀H',aE H H'->Q (.bl (B6 t)) H')->zO K vs H Q E_
theorem JZ:zzz T dQ 5 12 ["thing"] (zO K):=by
 have Us:=Pu T
 have CV:=AA T
 refine T.Ct.ok JI 'e' 'a'
 ·obtain⟨a,xs,t,rfl,_⟩:=h;rfl
 ·have hu:=aS hr
  obtain⟨a,xs,t,rfl,ha,tr,g,k⟩:=h
  have hn:=g.n
  have hlx:=tr.length
  refine⟨_,(aj (aP (PW.pt (ia (bT (bD (iz (qI K rfl) T.bq (af (pv 0) (af (KP "list" T.Bm) ah))))) (fD (eH qD (iz (aU K rfl) T.bR (af (pv 0) ah)) (mC rfl T.Hj.choose_spec))))) (ak (ay fJ)) aC)
   (aj (aP (bT (bD (iz (jh K rfl rfl) T.u7 (af (cK rfl (show aZ ["thing"] (au kO) ["row"] 1 [] _ from DA) (bH K rfl (pv 0)) (λ_ _ _ _=>(ji 0 O3)) (λ_ _ _ _=>cB) (λ_ _ _ _=>(e9 Us hr T.Ud T.JL.kp T.Uc (af (pv 0) ah)))) ah)))) (ak (ay fJ)) aC)
   (ak (ay (DI Rf (iz (EH K rfl rfl) T.Up (af (cK rfl (show aZ ["thing"] (au kO) ["row"] 1 [] _ from DA) (bH K rfl (pv 0)) (λ_ _ _ _=>(ji 0 O3)) (λ_ _ _ _=>cB) (λ_ _ _ _=>(e9 CV hr T.Cs T.rD.kp T.Cr (af (pv 0) ah)))) ah)) (mC rfl T.iU.choose_spec)))))),?_⟩
  refine⟨_,O,a,_,_,true,O,.inr ⟨aT.of ha,O⟩,true,O,dh ?_⟩
  refine⟨_,O,a,_,O,.inl (aT.of ha),_,_,O,O,_,O,rd2 (λh1=>?_) (λh1=>?_)⟩
  ·have e:B6 t=false:=by unfold B6;rw[aeg 'f'];rfl
   rw[e]at k
   exact k H (aE.refl _)
  refine⟨_,O,a,O,⟨_,aT.of ha⟩,λD hD=>?_⟩
  refine cL (K:=K) (a:=a) (xs:=xs) (λi ys τ H2=>(∃v,τ=[v])/\aE H H2/\H2 D=some (.lst ys)/\ys=((t.take i).map GI).map V.bl) ⟨⟨_,rfl⟩,ao hD,ai,rfl⟩ (λi ys τ H2 _ p=>⟨aT.of (p.2.1 _ _ ha),p.2.2.1⟩) ?_ ?_
  ·rintro i e ys τ H2 hi ⟨⟨v,rfl⟩,s2,hl,rfl⟩
   have hil:i<xs.length:=(ad8.mp hi).1
   obtain⟨r,hr,b,rfl,hb⟩:=aN tr i e hi
   have Ut:=aen hr
   refine qu ?_
   refine⟨_,O,b,r,O,s2 _ _ hb,g.ok r Ut,aep (vO Ut) g.sum,g.rl r Ut,λH3 s3=>⟨s3 _ _ hl,?_,⟨_,O⟩,aM hD (s2.trans s3),ai,?_⟩⟩
   ·rw[aec,aec,aey]
    exact aem (show _<=1000 by omega) 'c'
   ·rw[aO hr,aeo,aeo];rfl
  ·rintro ys τ H2 ⟨⟨v,rfl⟩,s2,hl,rfl⟩
   rw[hlx,aek (ad6 _)]at hl
   refine⟨D,t.map GI,O,aT.of hl,?_⟩
   have ea:(t.map GI).all id=t.all GI:=by rw[List.all_map];rfl
   rw[ea]
   cases hA:t.all GI with
   |false =>
    have e:B6 t=false:=by unfold B6;rw[hA,Bool.and_false]
    rw[e]at k
    exact⟨_,O,i7 (k H2 s2)⟩
   |true =>
    have hB:B6 t=true:=by unfold B6;rw[hA,aeb 'f'];rfl
    have gok:=V1 g hB
    rw[hB]at k
    refine⟨true,O,dh ?_⟩
    clear hl
    have ha2:=s2 _ _ ha
    refine⟨_,O,a,O,⟨_,aT.of ha2⟩,λE hE=>?_⟩
    refine cL (K:=K) (a:=a) (xs:=xs) (λi ys τ H3=>(∃v,τ=[v])/\aE H2 H3/\H3 E=some (.lst ys)/\ys=((t.map λr=>(lens r).sum).take i).map λn:Nat=>V.int n) ⟨⟨_,rfl⟩,ao hE,ai,rfl⟩ (λi ys τ H3 _ p=>⟨aT.of (p.2.1 _ _ ha2),p.2.2.1⟩) ?_ ?_
    ·rintro i e ys τ H3 hi ⟨⟨v,rfl⟩,s3,hl,rfl⟩
     obtain⟨r,hr,b,rfl,hb⟩:=aN tr i e hi
     have Ut:=aen hr
     have hil:i<xs.length:=(ad8.mp hi).1
     refine qu ?_
     refine⟨_,O,b,r,O,s3 _ _ (s2 _ _ hb),(gok.rows r Ut).hi,aep (vO Ut) gok.sum,λH4 s4=>⟨s4 _ _ hl,?_,⟨_,O⟩,aM hE (s3.trans s4),ai,?_⟩⟩
     ·rw[aec,aey,aec]
      exact aem (show _<=60 by omega) 'c'
     ·rw[aO (l:=t.map λr=>(lens r).sum) (c:=(lens r).sum) (by rw[aft,hr];rfl),aeo];rfl
    ·rintro ys τ H3 ⟨⟨v,rfl⟩,s3,hl,rfl⟩
     have e:(t.map λr=>(lens r).sum).take xs.length=t.map λr=>(lens r).sum:=aek (by rw[aec,hlx];exact ad6 _)
     rw[e]at hl
     have hsum:=gok.sum
     refine⟨E,t.map λr=>(lens r).sum,O,aT.of hl,by unfold total at hsum;omega,_,_,O,O,?_⟩
     have e2:decide ((((t.map λr=>(lens r).sum).sum:Nat):Int)<=400)=true:=aeb (by unfold total at hsum;omega)
     have q:=k H3 (s2.trans s3)
     rw[←e2]at q
     exact q
inductive rO(K:W.Frag)(vs:List V)(H:Hp)(Q:VK)(E_:XK):Prop where
 |mk (a:Addr) (xs:List V) (t:List (List Str)):(vs=[.ref a])->(H a=some (.lst xs))->(Paired (bX H) xs t)->(TabOk t)->(∀H',aE H H'->Q .non H')->rO K vs H Q E_
theorem CY:zzz T dQ 6 13 ["thing"] (rO K):=by
 have Mg:=JZ T
 refine T.tY.ok Cg 'e' 'a'
 ·obtain⟨a,xs,t,rfl,_⟩:=h;rfl
 ·have hu:=aS hr
  obtain⟨a,xs,t,rfl,ha,tr,g,k⟩:=h
  refine⟨_,(ak (aP (bT (bD (e9 Mg hr T.LY T.Ct.kp T.LX (af (pv 0) ah)))) (ak gH) aC)),?_⟩
  exact⟨_,O,a,xs,t,O,ha,tr,g.s,λH1 s1=>⟨_,O,NW (V2 g) (k _ s1)⟩⟩
inductive wR(K:W.Frag)(vs:List V)(H:Hp)(Q:VK)(E_:XK):Prop where
 |mk (a:Addr) (xs:List V) (t:List (List Str)):(vs=[.ref a])->(H a=some (.lst xs))->(Paired (bX H) xs t)->(TabOk t)->(∀(l:Addr)(ys:List V) H',H l=none->H' l=some (.lst ys)->Paired (dU K H') ys (aD t)->aE H H'->Q (.ref l) H')->wR K vs H Q E_
theorem ku:zzz T dQ 7 14 ["table"] (wR K):=by
 have D3:=CY T
 have AB:=yM T
 refine T.jF.ok pF 'e' 'a'
 ·obtain⟨a,xs,t,rfl,_⟩:=h;rfl
 ·have hu:=aS hr
  obtain⟨a,xs,t,rfl,ha,tr,g,k⟩:=h
  have hlx:=tr.length
  refine⟨_,(aj (cH (e9 D3 hr T.DS T.tY.kp T.DR (af (pv 0) ah)))
   (aj (cP 1 pF.nd (bL ah))
   (aj (c9 aeF rfl (bH K rfl (pv 0)) (ji 2 pF.nd)
   (ak (cH (cT K rfl aeE PySem.F.slot_list_extend PySem.F.type_list_extend xP (pv 1) (af (e9 AB hr T.Aq T.pX.kp T.Ao (af (pv 2) ah)) ah)))))
   (ak (ay (pv 1)))))),?_⟩
  refine⟨_,O,a,xs,t,O,ha,tr,g,λH1 s1=>?_⟩
  refine⟨by decide,λl hl=>?_⟩
  have s0:=s1.trans (ao (o:=HO.lst []) hl)
  have uR:H l=none:=s1.free hl
  refine⟨_,O,a,O,⟨_,aT.of (s0 _ _ ha)⟩,?_⟩
  refine iA (K:=K) (a:=a) (xs:=xs) (λi σ H2=>(∃v,σ=[some (.ref a),some (.ref l),v])/\aE H H2/\∃ys,H2 l=some (.lst ys)/\Paired (dU K H2) ys (aD (t.take i))) ⟨⟨_,rfl⟩,s0,[],ai,.nil⟩ (λi σ H2 _ q=>aT.of (q.2.1 _ _ ha)) ?_ ?_
  ·rintro i e σ H2 hi ⟨⟨v,rfl⟩,s2,ys,hy,hp⟩
   obtain⟨r,hr,b,rfl,hb⟩:=aN tr i e hi
   have Ut:=aen hr
   have b1:=vP g i
   have b2:=vP g (i+1)
   rw[aO hr,mH,aef]at b2
   have hyl:=hp.length
   refine⟨_,O,.inl ⟨O,_,aT.of hy⟩,_,O,b,r,O,s2 _ _ hb,(g.rows r Ut).hi,aep (vO Ut) g.sum,λm zs H3 hm h3 hp3 s3=>?_⟩
   have Fz:=hp3.length
   have hy3:=s3 _ _ hy
   refine⟨l,m,ys,zs,O,O,hy3,h3,aep (show ys.length+zs.length<=1600 by omega) 'c',⟨_,O⟩,aM uR (s2.trans s3),_,ai,?_⟩
   rw[aO hr,mH]
   exact aI (λa b h=>dU.but hy3 h) (bM (aI (λa b h=>dU.mono s3 h) hp) hp3)
  ·rintro σ H2 ⟨⟨v,rfl⟩,s2,ys,hy,hp⟩
   rw[hlx,aek (ad6 _)]at hp
   exact⟨_,O,k l ys H2 uR hy hp s2⟩
inductive Oh(vs:List V)(H:Hp)(Q:VK)(E_:XK):Prop where
 |mk (z:Str):(vs=[.str z])->(z.length<=4000)->(Q (.str (gK z)) H)->Oh vs H Q E_
theorem Ho:zzz T dQ 1 15 ["text"] Oh:=by
 refine T.GV.ok Bl 'e' 'a'
 ·obtain⟨z,rfl,_⟩:=h;rfl
 ·have hu:=aS hr
  obtain⟨z,rfl,hz4,k⟩:=h
  have e0:Str.ofString ""=⟨(cR []).toArray⟩:=by decide +kernel
  have e0:([some (V.str z),some (V.str 'd'),none]:St)=[some (.str z),some (.str ⟨(cR []).toArray⟩),none]:=by rw[e0]
  refine⟨_,(aj (cP 1 Bl.nd aB)
   (aj (c9 aeF rfl (oW (pv 0)) (ji 2 Bl.nd)
   (ak (aP (gR kc (pv 2) (pv 1) rfl) (ak (cP 1 Bl.nd (aR bG (pv 1) (pv 2)))) aC)))
   (ak (ay (pv 1))))),?_⟩
  refine⟨_,O,_,O,?_⟩
  unfold gK at k
  refine vF (λi σ H2=>H2=H/\∃v,σ=[some (.str z),some (.str ⟨(cR (z.cps.toList.take i)).toArray⟩),v]) ⟨rfl,none,by rw[List.take_zero];exact e0⟩ ?_ ?_
  ·rintro i c σ H2 hi ⟨rfl,v,rfl⟩
   have hl:(cR (z.cps.toList.take i)).length<=4000:=by
    refine aep (EX _) ?_
    rw[aey,aeq]
    have:z.cps.size<=4000:=hz4
    omega
   refine⟨_,O,_,O,_,_,O,O,_,O,?_⟩
   refine cz (λha=>?_) (λha=>?_)
   ·have ha':away ⟨(cR (z.cps.toList.take i)).toArray⟩ c=true:=ha
    refine⟨_,O,_,O,_,_,O,O,?_,O,some (.str (sg c)),?_⟩
    ·refine aep (show _<=4001 from ?_) 'c'
     show Array.size _+1<=4001
     rw[aed];omega
    ·rw[take_snoc hi,kZ]
     unfold ff
     rw[aee ha',←NI]
     rfl
   ·have ha':¬away ⟨(cR (z.cps.toList.take i)).toArray⟩ c=true:=ha
    refine⟨O,some (.str (sg c)),?_⟩
    rw[take_snoc hi,kZ]
    unfold ff
    rw[ad5 ha']
    rfl
  ·rintro σ H2 ⟨rfl,v,rfl⟩
   refine⟨_,O,?_⟩
   rw[aek (ad6 _)]
   exact k
inductive lM(C:Addr)(vs:List V)(H:Hp)(Q:VK)(E_:XK):Prop where
 |mk (x dx:Addr) (p q f:Str) (b1 b2 b3 b4:Bool):(vs=[.ref x])->(H x=some (.ins C dx (zy p q f b1 b2 b3 b4)))->(Gd p q f)->(Q (.str (gK ((p++q)++f))) H)->lM C vs H Q E_
theorem lN:zzz T dQ 2 16 ["self"] (lM (av 70)):=by
 have CZ:=Ho T
 refine T.wA.ok uX 'e' 'a'
 ·obtain⟨x,dx,p,q,f,b1,b2,b3,b4,rfl,_⟩:=h;rfl
 ·have hu:=aS hr
  obtain⟨x,dx,p,q,f,b1,b2,b3,b4,rfl,hx,g,k⟩:=h
  have hp3:=g.p3;have hq2:=g.q2;have hf2:=g.f2
  refine⟨_,(ak (ay (e9 CZ hr T.L0 T.GV.kp T.LZ (af (aR bG (aR bG 'h' 'h') 'h') ah)))),?_⟩
  refine⟨_,O,x,(av 70),dx,_,_,O,hx,T.aL,T.ck,O,_,O,x,(av 70),dx,_,_,O,hx,T.aL,T.bS,O,_,_,O,O,aep (show p.length+q.length<=5 by omega) 'c',_,O,x,(av 70),dx,_,_,O,hx,T.aL,T.bQ,O,_,_,O,O,?_,_,O,?_,k⟩
  ·rw[bz];exact aep (show p.length+q.length+f.length<=7 by omega) 'c'
  ·rw[bz,bz];omega
inductive j8(K:W.Frag)(C:Addr)(vs:List V)(H:Hp)(Q:VK)(E_:XK):Prop where
 |mk (y dy a o:Addr) (xs os:List V) (t:List (List Str)) (x:cD) (cs:List cD):(vs=[.ref y,.ref a,.ref o])->(H y=some (.ins C dy (DK x)))->(vN x)->(H a=some (.lst xs))->(Paired (bX H) xs t)->(TabOk t)->(H o=some (.lst os))->(Gz C H os cs)->((∀c∈cs,vN c))->(cs.length<=20)->(∀H',aE H H'->Q (.str (ko (x::cs) t)) H')->j8 K C vs H Q E_
theorem tP:zzz T dQ 3 17 ["dialect","table","others"] (j8 K (av 70)):=by
 have iW:=lN T
 have CZ:=Ho T
 refine T.lC.ok gG 'e' 'a'
 ·obtain⟨y,dy,a,o,xs,os,t,x,cs,rfl,_⟩:=h;rfl
 ·have hu:=aS hr
  obtain⟨y,dy,a,o,xs,os,t,x,cs,rfl,hy,gx,ha,pr,tok,ho,mk,gs,hcl,k⟩:=h
  have szb:10000<=sizeLine:=by decide
  refine⟨_,(aj (cP 3 gG.nd (cT K rfl afo afA afB (nS K rfl) aB (af (cK rfl (show aZ ["dialect","table","others","special","cells"] (au cY) ["each"] 1 [] _ from DA) (bH K rfl (aR X8 (bL (af (pv 0) ah)) (pv 2))) (λ_ _ _ _=>(ji 0 O3)) (λ_ _ _ _=>cB) (λ_ _ _ _=>(Bw (k:=2) (pv 0) T.aL T.mS iW (hr.mono 'c') T.mR .nil cO))) ah)))
   (aj (cP 4 gG.nd (cT K rfl afo afA afB (nS K rfl) aB (af (cK rfl (show aZ ["dialect","table","others","special","cells"] (au cY) ["row"] 1 [] _ from DA) (bH K rfl (pv 1)) (λ_ _ _ _=>(ji 0 O3)) (λ_ _ _ _=>cB) (λ_ _ _ _=>(cT K rfl afo afA afB (nS K rfl) aB (af (pv 0) ah)))) ah)))
   (ak (ay (e9 CZ hr T.L0 T.GV.kp T.LZ (af (aR bG (aR bG (aR bG (pv 3) (mw rfl T.mV.choose_spec)) aB) (pv 4)) ah)))))),?_⟩
  have mkl:=mk.length
  refine⟨O,_,O,(by show(1:Nat)<=sizeLine;decide),λl0 uR=>⟨_,O,l0,o,_,_,O,O,ai,ao uR _ _ ho,(by show 1+os.length<=sizeLine;omega),λL hL=>⟨L,O,⟨_,aT.of ai⟩,λD hD=>?_⟩⟩⟩
  have f1:=(ao (o:=HO.lst [.ref y]) uR).trans (ao (o:=HO.lst ([V.ref y]++os)) hL)
  have w1:=ai (H:=upd H l0 (HO.lst [.ref y])) (a:=L) (o:=HO.lst ([V.ref y]++os))
  generalize upd (upd H l0 (HO.lst [.ref y])) L (HO.lst ([V.ref y]++os))=H2 at f1 w1 hD⊢
  have mk2:Gz (av 70) H2 ([V.ref y]++os) (x::cs):=.cons ⟨y,dy,rfl,f1 _ _ hy⟩ (Gz.mono f1 mk)
  have Wk:∀c∈x::cs,vN c:=λc hc=>by
   rcases aeh.mp hc with q|q
   ·rw[q];exact gx
   ·exact gs c q
  refine cL (K:=K) (a:=L) (xs:=[V.ref y]++os) (λi vs τ J=>(∃v,τ=[v])/\aE H2 J/\J D=some (.lst vs)/\vs=((x::cs).take i).map λc=>V.str (Aj c)) ⟨⟨_,rfl⟩,ao hD,ai,rfl⟩ (λi vs τ J _ p=>⟨aT.of (p.2.1 _ _ w1),p.2.2.1⟩) ?_ ?_
  ·rintro i e vs τ J hi ⟨⟨v,rfl⟩,sJ,hJ,hvs⟩
   obtain⟨x',hx',y',Wl,rfl,hy'⟩:=aN mk2 i e hi
   have hvl:vs.length<=i:=by rw[hvs,aec,aey];omega
   have hil:i<([V.ref y]++os).length:=(ad8.mp hi).1
   rw[aef]at hil
   have hil:i<1+os.length:=hil
   refine qu ⟨_,rfl,_,_,_,rfl,sJ _ _ hy',rfl,y',Wl,_,_,_,_,_,_,_,rfl,sJ _ _ hy',Wk x' (aen hx'),?_⟩
   refine⟨hJ,aem (show vs.length<=100 by omega) 'c',⟨_,O⟩,aM hD sJ,ai,?_⟩
   rw[aO hx',aeo,←hvs]
   rfl
  rintro vs τ J ⟨⟨v,rfl⟩,sJ,hJ,hvs⟩
  rw[aek (by rw[aef,aex];show cs.length+1<=1+os.length;omega)]at hvs
  subst hvs
  have hjl:=GN Wk
  rw[aex]at hjl
  have e0:'d'.length=0:=by decide +kernel
  have s3:=f1.trans sJ
  refine⟨_,D,(x::cs).map Aj,O,O,(by rw[List.map_map];exact aT.of hJ),(by rw[e0];omega),?_⟩
  have jl:=oh ((x::cs).map Aj)
  have kk:∀H',aE H H'->Q (.str (gK (((Txt.join 'd' ((x::cs).map Aj)++Str.ofString "\n")++Str.ofString " ")++Txt.join 'd' (t.map (Txt.join 'd'))))) H':=k
  clear k
  generalize Txt.join 'd' ((x::cs).map Aj)=S1 at jl kk⊢
  dsimp only[bF]
  have tl:=pr.length
  have tn:=tok.n
  have ad0:=tok.sum
  refine⟨O,_,O,_,O,⟨_,aT.of (s3 _ _ ha)⟩,λD2 hD2=>?_⟩
  refine cL (K:=K) (a:=a) (xs:=xs) (λi vs τ G=>(∃v,τ=[v])/\aE J G/\G D2=some (.lst vs)/\vs=(t.take i).map λr=>V.str (Txt.join 'd' r)) ⟨⟨_,rfl⟩,ao hD2,ai,rfl⟩ (λi vs τ G _ p=>⟨aT.of (p.2.1 _ _ (s3 _ _ ha)),p.2.2.1⟩) ?_ ?_
  ·rintro i e vs τ G hi ⟨⟨v,rfl⟩,sG,hG,hvs⟩
   obtain⟨r,hr',ra,rfl,hra⟩:=aN pr i e hi
   have hvl:vs.length<=i:=by rw[hvs,aec,aey];omega
   have hil:i<xs.length:=(ad8.mp hi).1
   have rs:=vO (aen hr')
   refine qu ⟨rfl,_,rfl,_,ra,r,rfl,rfl,aT.of (sG _ _ (s3 _ _ hra)),(by rw[e0];show(lens r).sum+_<=_;omega),?_⟩
   refine⟨hG,aem (show vs.length<=100 by omega) 'c',⟨_,O⟩,aM hD2 sG,ai,?_⟩
   rw[aO hr',aeo,←hvs]
   rfl
  rintro vs τ G ⟨⟨v,rfl⟩,sG,hG,hvs⟩
  rw[aek 'f']at hvs
  subst hvs
  have ad1:=yj t
  have jl2:=oh (t.map (Txt.join 'd'))
  refine⟨_,D2,t.map (Txt.join 'd'),O,O,(by rw[List.map_map];exact aT.of hG),(by rw[e0];omega),?_⟩
  generalize Txt.join 'd' (t.map (Txt.join 'd'))=S2 at jl2 kk⊢
  dsimp only[bF]
  have n1:(Str.ofString "\n").length=1:=by decide +kernel
  have n2:(" ":Str).length=1:=by decide +kernel
  have a1:=bz S1 (Str.ofString "\n")
  have a2:=bz (S1++Str.ofString "\n") (" ":Str)
  have a3:=bz ((S1++Str.ofString "\n")++Str.ofString " ") S2
  have kq:=kk G (s3.trans sG)
  have eL:(bU 0)=("\n":Str):=T.jz
  rw[←eL]at a1 a2 a3 n1 kq
  exact⟨_,O,_,_,O,O,by omega,_,_,O,O,by omega,_,O,_,_,O,O,by omega,_,O,by omega,kq⟩
inductive lO(K:W.Frag)(C CT CM CP:Addr)(vs:List V)(H:Hp)(Q:VK)(E_:XK):Prop where
 |mk (q dq:Addr) (y dy a o:Addr) (xs os:List V) (t:List (List Str)) (x:cD) (cs:List cD):(vs=[.ref q,.ref y,.ref a,.ref o])->(H q=some (.ins CP dq []))->(H y=some (.ins C dy (DK x)))->(vN x)->(H a=some (.lst xs))->(Paired (bX H) xs t)->(TabOk t)->(H o=some (.lst os))->(Gz C H os cs)->((∀c∈cs,vN c))->(cs.length<=20)->(∀H',B7 K C CT CM CP H' q x cs (aD t) (ko (x::cs) t)->(∀b o,H b=some o->b≠q->H' b=some o)->Q .non H')->lO K C CT CM CP vs H Q E_
theorem lP:zzz T dQ 10 18 ["self","dialect","table","others"] (lO K (av 70) (av 71) (av 72) (av 73)):=by
 have fR:=u9 T
 have vd:=tP T
 have gh:=ku T
 refine T.wB.ok k9 'e' 'a'
 ·obtain⟨q,dq,y,dy,a,o,xs,os,t,x,cs,rfl,_⟩:=h;rfl
 ·have hu:=aS hr
  obtain⟨q,dq,y,dy,a,o,xs,os,t,x,cs,rfl,hq,hy,gx,ha,pr,tok,ho,mk,gs,hcl,k⟩:=h
  have mkl:=mk.length
  have ny:y≠q:=λe=>by rw[e,hq]at hy;injection hy with hy;injection hy with h1 h2 h3;cases h3
  have na:a≠q:=λe=>by rw[e,hq]at ha;cases ha
  have no:o≠q:=λe=>by rw[e,hq]at ho;cases ho
  refine⟨_,(aj (cP 4 k9.nd (e9 gh hr T.mQ T.jF.kp T.mP (af (pv 2) ah)))
   (aj (fE (pv 0) (iB (k:=8) T.CI fR (hr.mono 'c') rfl T.CH T.iP .nil cO (af (pv 1) (af (pv 4) ah))) rfl)
   (aj (fE (pv 0) (cK rfl (show aZ ["self","dialect","table","others","tokens"] (au fN) ["other","tokens"] 1 [4] _ from DA) (bH K rfl (pv 3)) (λ_ _ _ _=>(ji 0 (show(["other","tokens"]:List Str).Nodup by decide +kernel))) (λ_ _ _ _=>cB) (λ_ _ _ _=>(iB (k:=8) T.CI fR (hr.mono 'c') rfl T.CH T.iP .nil cO (af (pv 0) (af (pv 1) ah))))) rfl)
   (ak (fE (pv 0) (e9 vd hr T.u5 T.lC.kp T.u0 (af (pv 1) (af (pv 2) (af (pv 3) ah)))) rfl))))),?_⟩
  refine⟨_,O,a,xs,t,O,ha,pr,tok,λl ys H1 uR hl tp s1=>?_⟩
  dsimp only[bF]
  refine⟨_,O,_,O,λm dm hm Wm ne=>⟨m,dm,y,dy,l,ys,aD t,_,_,_,_,_,_,_,O,ai,cF hm Wm (s1 _ _ hy),gx,cF hm Wm hl,bY (ie hm Wm) tp,λH2 hM kp hml=>⟨O,?_⟩⟩⟩
  have s2:=gk hm Wm kp
  have s12:=s1.trans s2
  have hq2:=s12 _ _ hq
  refine⟨_,O,q,(av 73),dq,_,O,hq2,T.dj,T.fm,(by show 0<1000;decide),?_⟩
  have b3:∀b o',H b=some o'->b≠q->(upd H2 q (HO.ins (av 73) dq [("marker",V.ref m)])) b=some o':=λb o' e hb=>(az hb).trans (s12 _ _ e)
  have w3:(upd H2 q (HO.ins (av 73) dq [("marker",V.ref m)])) q=some (HO.ins (av 73) dq [("marker",V.ref m)]):=ai
  have nlq:l≠q:=λe=>by rw[e,hq]at uR;cases uR
  have hl3:(upd H2 q (HO.ins (av 73) dq [("marker",V.ref m)])) l=some (.lst ys):=(az nlq).trans (s2 _ _ hl)
  have tp3:Paired (dU K (upd H2 q (HO.ins (av 73) dq [("marker",V.ref m)]))) ys (aD t):=gM hq2 (bY s2 tp)
  have hM3:Jz K (av 70) (av 71) (av 72) (upd H2 q (HO.ins (av 73) dq [("marker",V.ref m)])) m x (aD t):=oN.off hq2 (λy l e=>by cases e) (λd e=>by cases e) (λe=>by cases e) hM
  rw[show kG ("marker":Str) (V.ref m) []=([(("marker":Str),V.ref m)]:List (Str×V)) from rfl]
  generalize upd H2 q (HO.ins (av 73) dq [("marker",V.ref m)])=H3 at b3 w3 hl3 tp3 hM3⊢
  have ho3:=b3 _ _ ho no
  have mk3:Gz (av 70) H3 os cs:=aI (λe x' ⟨y',Wl,e1,e2⟩=>⟨y',Wl,e1,b3 _ _ e2 (λz=>by rw[z,hq]at e2;injection e2 with e2;injection e2 with h1 h2 h3;cases h3)⟩) mk
  refine⟨_,O,_,O,⟨_,aT.of ho3⟩,λD hD=>?_⟩
  have nlD:l≠D:=λe=>by rw[e,hD]at hl3;cases hl3
  refine cL (K:=K) (a:=o) (xs:=os) (λi vs τ J=>(∃v,τ=[v,some (.ref l)])/\aE H3 J/\J D=some (.lst vs)/\rq K (av 70) (av 71) (av 72) (aD t) l J vs (cs.take i)) ⟨⟨_,rfl⟩,ao hD,ai,.nil⟩ (λi vs τ J _ p=>⟨aT.of (p.2.1 _ _ ho3),p.2.2.1⟩) ?_ ?_
  ·rintro i e vs τ J hi ⟨⟨v,rfl⟩,sJ,hJ,ml⟩
   obtain⟨x',hx',y',Wl,rfl,hy'⟩:=aN mk3 i e hi
   have hvl:=ml.length
   rw[aey]at hvl
   have hil:i<os.length:=(ad8.mp hi).1
   refine qu ⟨_,rfl,_,rfl,λm' dm' hm' Wn ne'=>⟨m',dm',y',Wl,l,ys,aD t,_,_,_,_,_,_,_,rfl,ai,cF hm' Wn (sJ _ _ hy'),gs x' (aen hx'),cF hm' Wn (sJ _ _ hl3),bY ((sJ.trans (ie hm' Wn))) tp3,λJ2 hM' kp' acI=>⟨rfl,?_⟩⟩⟩
   have s2':=gk hm' Wn kp'
   have XD:=s2' _ _ hJ
   refine⟨XD,aem (show vs.length<=1000 by omega) 'c',⟨_,O⟩,aM hD (sJ.trans s2'),ai,?_⟩
   rw[aO hx']
   exact bM (rq.but XD nlD (rq.mono s2' ml)) (rq.but XD nlD (.cons ⟨m',rfl,hM',acI⟩ .nil))
  rintro vs τ J ⟨⟨v,rfl⟩,sJ,hJ,ml⟩
  rw[aek 'f']at ml
  have n3:=TL (v:=V.ref m) (r:=[]) (n:="marker") rfl
  have n5:=TL (v:=V.ref m) (r:=[("markers",V.ref D)]) (n:="marker") rfl
  have hqJ:=sJ _ _ w3
  refine⟨_,O,q,(av 73),dq,_,O,hqJ,T.dj,T.dZ,(by show 1<1000;decide),?_⟩
  rw[show kG ("markers":Str) (V.ref D) ([(("marker":Str),V.ref m)]:List (Str×V))=([(("marker":Str),V.ref m),(("markers":Str),V.ref D)]:List (Str×V)) from rfl]
  have b5:∀b o',H b=some o'->b≠q->(upd J q (HO.ins (av 73) dq [("marker",V.ref m),("markers",V.ref D)])) b=some o':=λb o' e hb=>(az hb).trans (sJ _ _ (b3 _ _ e hb))
  have w5:(upd J q (HO.ins (av 73) dq [("marker",V.ref m),("markers",V.ref D)])) q=some (HO.ins (av 73) dq [("marker",V.ref m),("markers",V.ref D)]):=ai
  have nDq:D≠q:=λe=>by rw[e,w3]at hD;cases hD
  have hD5:(upd J q (HO.ins (av 73) dq [("marker",V.ref m),("markers",V.ref D)])) D=some (.lst vs):=(az nDq).trans hJ
  have ml5:rq K (av 70) (av 71) (av 72) (aD t) l (upd J q (HO.ins (av 73) dq [("marker",V.ref m),("markers",V.ref D)])) vs cs:=rq.off hqJ n3.1 n3.2.1 n3.2.2 ml
  have hM5:Jz K (av 70) (av 71) (av 72) (upd J q (HO.ins (av 73) dq [("marker",V.ref m),("markers",V.ref D)])) m x (aD t):=oN.off hqJ n3.1 n3.2.1 (n3.2.2 _ _ _ _ _ _ _) (oN.mono sJ hM3)
  generalize upd J q (HO.ins (av 73) dq [("marker",V.ref m),("markers",V.ref D)])=H5 at b5 w5 hD5 ml5 hM5⊢
  have pr5:Paired (bX H5) xs t:=aI (λv r ⟨ra,e1,e2⟩=>⟨ra,e1,b5 _ _ e2 (λz=>by rw[z,hq]at e2;cases e2)⟩) pr
  have mk5:Gz (av 70) H5 os cs:=aI (λe x' ⟨y',Wl,e1,e2⟩=>⟨y',Wl,e1,b5 _ _ e2 (λz=>by rw[z,hq]at e2;injection e2 with e2;injection e2 with h1 h2 h3;cases h3)⟩) mk
  refine⟨_,O,_,O,_,O,y,dy,a,o,xs,os,t,x,cs,O,b5 _ _ hy ny,gx,b5 _ _ ha na,pr5,tok,b5 _ _ ho no,mk5,gs,hcl,λH6 s6=>?_⟩
  refine⟨_,O,q,(av 73),dq,_,O,s6 _ _ w5,T.dj,T.iS,(by show 2<1000;decide),k _ ?_ λb o' e hb=>(az hb).trans (s6 _ _ (b5 _ _ e hb))⟩
  have ml7:=rq.off (o:=HO.ins (av 73) dq (kG ("signs":Str) (V.str (ko (x::cs) t)) [("marker",V.ref m),("markers",V.ref D)])) (s6 _ _ w5) n5.1 n5.2.1 n5.2.2 (rq.mono s6 ml5)
  exact⟨dq,m,D,vs,ai,oN.off (s6 _ _ w5) n5.1 n5.2.1 (n5.2.2 _ _ _ _ _ _ _) (oN.mono s6 hM5),(az nDq).trans (s6 _ _ hD5),aI (λv x' ⟨m',e1,e2,_⟩=>⟨m',e1,e2⟩) ml7⟩
inductive jb(CN:Addr)(vs:List V)(H:Hp)(Q:VK)(E_:XK):Prop where
 |mk (ea:Addr) (r c:Int):(vs=[.ref ea,.int r,.int c])->(H ea=some (OX ea (.ref CN) none))->(r.natAbs.log2<1920)->(c.natAbs.log2<1920)->(∀d H',H d=none->d≠ea->H' ea=some (OX ea (.ref CN) (some d))->H' d=some (Xm d (nwF r c))->(∀b,b≠ea->b≠d->H' b=H b)->Q .non H')->jb CN vs H Q E_
theorem qw:zzz T dQ 1 19 ["self","row","cell"] (jb (av 85)):=by
 refine T.rE.ok qv 'e' 'a'
 ·obtain⟨ea,r,c,rfl,_⟩:=h;rfl
 ·have hu:=aS hr
  obtain⟨ea,r,c,rfl,Dz,hr0,hc0,k⟩:=h
  refine⟨_,(aj (cH (So rfl T.CJ T.Ay T.ig (.inr ⟨_,_,O,T.gb⟩) (af (pv 0) (af (OY (Bf aB (Bf (Sn (pv 2)) (Bf aB (Bf (Sn (pv 1)) YH))))) ah))))
   (aj (Sq rfl T.ig (.inr ⟨_,_,rfl,T.gb⟩) T.yL (pv 0) (pv 1) rfl)
   (ak (Ss T.ig (.inr ⟨_,_,rfl,T.gb⟩) T.wO (pv 0) (pv 2) rfl)))),?_⟩
  refine⟨_,O,_,O,by decide +kernel,_,O,.inl ⟨c,O,hc0⟩,λz1 l1=>⟨_,O,l1,_,O,by decide +kernel,_,O,.inl ⟨r,O,hr0⟩,λz2 l2=>⟨_,O,l2,λzz=>?_⟩⟩⟩
  refine⟨ea,none,_,O,Dz,?_⟩
  refine⟨_,O,_,O,ea,O,Dz,λd hd=>?_⟩
  have nd:d≠ea:=λz=>by rw[z,Dz]at hd;cases hd
  refine⟨_,O,_,O,ea,d,_,O,(az (afa nd)).trans ai,ai,(by show 1<1000;decide),?_⟩
  refine k d _ hd nd ((az (afa nd)).trans ((az (afa nd)).trans ai)) ai λb h1 h2=>?_
  rw[az h2,az h2,az h1]
inductive zP(vs:List V)(H:Hp)(Q:VK)(E_:XK):Prop where
 |mk (n a b:Int):(vs=[.int n,.int a,.int b])->(Q (.bl (decide (a<=n/\n<=b))) H)->zP vs H Q E_
theorem zQ:zzz T dQ 1 21 ["thing","least","most"] zP:=by
 refine T.u6.ok JJ 'e' 'a'
 ·obtain⟨n,a,b,rfl,_⟩:=h;rfl
 ·have hu:=aS hr
  obtain⟨n,a,b,rfl,k⟩:=h
  refine⟨_,(aj (aP (PW.pt (ia (bT (bD (iz (cC K rfl) T.bq (af (pv 0) (af (KP "int" T.Uo) ah))))) (fD (bD (iz (cC K rfl) T.bq (af (pv 0) (af (KP "bool" T.Od) ah))))))) (ak (ay fJ)) aC)
   (ak (ay (oR (DI Rg (pv 0) (pv 1)) (nk (DI Rf (pv 0) (pv 2))))))),?_⟩
  refine⟨_,O,_,_,_,_,O,.int _,.inl ⟨_,⟨O,O⟩⟩,_,O,dh (⟨_,O,_,_,_,_,O,.int _,.inl ⟨_,⟨O,O⟩⟩,_,O,dh (⟨_,O,_,O,_,_,O,O,_,O,?_⟩)⟩)⟩
  by_cases h1:a<=n
  ·rw[aee (aeb h1)]
   refine⟨_,O,_,O,_,_,O,O,?_⟩
   show Q (.bl (decide (n<=b))) H
   rw[show decide (n<=b)=decide (a<=n/\n<=b) by rw[aeS,aeO,aeO];exact⟨λz=>⟨h1,z⟩,λz=>z.2⟩]
   exact k
  ·rw[ad5 (by rw[aeg h1];decide)]
   rw[show decide (a<=n/\n<=b)=false from aeg λz=>h1 z.1]at k
   exact k
inductive C0(K:W.Frag)(vs:List V)(H:Hp)(Q:VK)(E_:XK):Prop where
 |mk (v:V):(vs=[v])->(VQ H v)->((∀z,v=.str z->z.length<=10000))->(∀H',aE H H'->Q (.bl (NZ v)) H')->C0 K vs H Q E_
theorem C3:zzz T dQ 3 22 ["thing"] (C0 K):=by
 have iV:=lK T
 refine T.yC.ok LS 'e' 'a'
 ·obtain⟨v,rfl,_⟩:=h;rfl
 ·have hu:=aS hr
  obtain⟨v,rfl,hk,hb,k⟩:=h
  refine⟨_,(aj (aP (PW.pt (ia (bT (bD (iz (cC K rfl) T.bq (af (pv 0) (af (KP "str" T.CK) ah))))) (fD (eH qD (iz bV T.bR (af (pv 0) ah)) (mC rfl T.DY.choose_spec))))) (ak (ay fJ)) aC)
   (ak (ay (e9 iV hr T.mO T.iQ.kp T.mL (af (pv 0) ah))))),?_⟩
  cases hk with
  |str z =>
   have hb:=hb z rfl
   refine⟨_,O,_,_,_,true,O,.str _,.inl ⟨_,O,O⟩,true,O,dh ⟨_,O,z,O,aep hb 'c',_,_,O,O,_,O,cz (λh1=>?_) (λh1=>?_)⟩⟩
   ·have e:NZ (.str z)=false:=by
     have n1:¬z.length<=2000:=λh2=>by have:=aez h1;omega
     show(decide (z.length<=2000)&&textOk z)=false
     rw[aeg n1];rfl
    have kk:=k H (aE.refl H)
    rw[e]at kk
    exact kk
   ·have n1:z.length<=2000:=by
     rcases Nat.lt_or_ge 2000 z.length with h2|h2
     ·exact absurd (aeb (show(2000:Int)<(z.length:Int) by omega)) h1
     ·exact h2
    have e:NZ (.str z)=textOk z:=by
     show(decide (z.length<=2000)&&textOk z)=_
     rw[aeb n1];rfl
    rw[e]at k
    exact⟨_,O,z,O,n1,k⟩
  |non=>exact⟨_,rfl,_,_,_,false,rfl,.non,.inl ⟨_,rfl,rfl⟩,false,rfl,i7 (k H (aE.refl H))⟩
  |bl b=>exact⟨_,rfl,_,_,_,false,rfl,.bl _,.inl ⟨_,rfl,rfl⟩,false,rfl,i7 (k H (aE.refl H))⟩
  |int n=>exact⟨_,rfl,_,_,_,false,rfl,.int _,.inl ⟨_,rfl,rfl⟩,false,rfl,i7 (k H (aE.refl H))⟩
  |lst e f=>exact⟨_,rfl,_,_,_,false,rfl,.lst e,.inl ⟨_,rfl,rfl⟩,false,rfl,i7 (k H (aE.refl H))⟩
  |tup e f=>exact⟨_,rfl,_,_,_,false,rfl,.tup e,.inl ⟨_,rfl,rfl⟩,false,rfl,i7 (k H (aE.refl H))⟩
  |dic e f=>exact⟨_,rfl,_,_,_,false,rfl,.dK e,.inl ⟨_,rfl,rfl⟩,false,rfl,i7 (k H (aE.refl H))⟩
inductive wU(K:W.Frag)(C:Addr)(vs:List V)(H:Hp)(Q:VK)(E_:XK):Prop where
 |mk (x dx:Addr) (p q f:Str) (b1 b2 b3 b4:Bool):(vs=[.ref x])->(H x=some (.ins C dx (zy p q f b1 b2 b3 b4)))->(q.length<=2)->(∀(l:Addr)(xs:List V)(H':Hp),H l=none->H' l=some (.lst xs)->Paired (dU K H') xs (cont q.cps.toList)->aE H H'->Q (.ref l) H')->wU K C vs H Q E_
theorem Hq:zzz T dQ 1 23 ["dialect"] (wU K (av 70)):=by
 refine T.zF.ok pG 'e' 'a'
 ·obtain⟨x,dx,p,q,f,b1,b2,b3,b4,rfl,_⟩:=h;rfl
 ·have hu:=aS hr
  obtain⟨x,dx,p,q,f,b1,b2,b3,b4,rfl,hx,hq2,k⟩:=h
  refine⟨_,(aj (cP 1 pG.nd (bL (af (eG rfl T.gc) (af (aH (af aB (af aB ah))) (af (aH (af aB (af aB ah))) (af (aH (af aB (af aB ah))) (af (aH (af aB (af aB ah))) ah)))))))
   (aj (c9 aeF rfl (oW 'h') (ji 2 pG.nd)
   (ak (cH (cT K rfl aeE PySem.F.slot_list_extend PySem.F.type_list_extend xP (pv 1) (af (bL (af (aH (af aB (af (pv 2) ah))) (af (aH (af aB (af (pv 2) ah))) (af (aH (af aB (af (pv 2) ah))) ah)))) ah)))))
   (ak (ay (pv 1))))),?_⟩
  refine⟨by decide,λt1 h1=>⟨by decide,λt2 h2=>⟨by decide,λt3 h3=>⟨by decide,λt4 h4=>⟨(by show 5<=sizeLine;decide),λl hl=>?_⟩⟩⟩⟩⟩
  have s1:=ao (o:=HO.tup [.str ("cell":Str),.str 'd']) h1
  have s2:=ao (o:=HO.tup [.str ("plain":Str),.str 'd']) h2
  have s3:=ao (o:=HO.tup [.str ("behind":Str),.str 'd']) h3
  have s4:=ao (o:=HO.tup [.str ("freed":Str),.str 'd']) h4
  have s5:=ao (o:=HO.lst [.ref (av 87),.ref t1,.ref t2,.ref t3,.ref t4]) hl
  have p0:Paired (dU K (upd (upd (upd (upd (upd H t1 (.tup [.str ("cell":Str),.str 'd'])) t2 (.tup [.str ("plain":Str),.str 'd'])) t3 (.tup [.str ("behind":Str),.str 'd'])) t4 (.tup [.str ("freed":Str),.str 'd'])) l (.lst [.ref (av 87),.ref t1,.ref t2,.ref t3,.ref t4]))) [.ref (av 87),.ref t1,.ref t2,.ref t3,.ref t4] (cont []) :=
   abe (.inr T.gg) (aA (((s2.trans s3).trans s4).trans s5) (aX.of ai)) (aA ((s3.trans s4).trans s5) (aX.of ai)) (aA (s4.trans s5) (aX.of ai)) (aA s5 (aX.of ai))
  have sH:=(((s1.trans s2).trans s3).trans s4).trans s5
  have Uu:(upd (upd (upd (upd (upd H t1 (.tup [.str ("cell":Str),.str 'd'])) t2 (.tup [.str ("plain":Str),.str 'd'])) t3 (.tup [.str ("behind":Str),.str 'd'])) t4 (.tup [.str ("freed":Str),.str 'd'])) l (.lst [.ref (av 87),.ref t1,.ref t2,.ref t3,.ref t4])) l=some (.lst [.ref (av 87),.ref t1,.ref t2,.ref t3,.ref t4]):=ai
  have uR:H l=none:=(((s1.trans s2).trans s3).trans s4).free hl
  generalize upd (upd (upd (upd (upd H t1 (.tup [.str ("cell":Str),.str 'd'])) t2 (.tup [.str ("plain":Str),.str 'd'])) t3 (.tup [.str ("behind":Str),.str 'd'])) t4 (.tup [.str ("freed":Str),.str 'd'])) l (.lst [.ref (av 87),.ref t1,.ref t2,.ref t3,.ref t4])=H5 at p0 sH Uu⊢
  refine⟨_,O,x,(av 70),dx,_,_,O,sH _ _ hx,T.aL,T.bS,O,q,O,?_⟩
  refine vF (λi σ H2=>(∃v,σ=[some (.ref x),some (.ref l),v])/\aE H H2/\∃xs,H2 l=some (.lst xs)/\Paired (dU K H2) xs (cont (q.cps.toList.take i))) ⟨⟨_,rfl⟩,sH,_,Uu,p0⟩ ?_ ?_
  ·rintro i c σ H2 hi ⟨⟨v,rfl⟩,s2,xs,hxs,hp⟩
   have hi2:i<2:=by
    have:=(ad8.mp hi).1
    rw[aeq]at this
    exact aeu this hq2
   refine⟨_,O,.inl ⟨O,_,aT.of hxs⟩,_,O,(by show 2<=sizeLine;decide),λu1 g1=>⟨_,O,(by show 2<=sizeLine;decide),λu2 g2=>⟨_,O,(by show 2<=sizeLine;decide),λu3 g3=>⟨(by show 3<=sizeLine;decide),λm hm=>?_⟩⟩⟩⟩
   have z1:=ao (o:=HO.tup [.str ("within":Str),.str (sg c)]) g1
   have z2:=ao (o:=HO.tup [.str ("doubt":Str),.str (sg c)]) g2
   have z3:=ao (o:=HO.tup [.str ("freed":Str),.str (sg c)]) g3
   have z4:=ao (o:=HO.lst [.ref u1,.ref u2,.ref u3]) hm
   have zz:=((z1.trans z2).trans z3).trans z4
   have hlen:xs.length<=20:=by
    rw[hp.length,SN,aey];omega
   refine⟨l,m,xs,_,O,O,zz _ _ hxs,ai,?_,⟨_,O⟩,?_,_,ai,?_⟩
   ·exact aep (show xs.length+3<=23 by omega) 'c'
   ·exact aM uR (s2.trans zz)
   ·rw[take_snoc hi,O5]
    refine aI (λa b h=>dU.but (zz _ _ hxs) h) (bM (aI (λa b h=>h.mono zz) hp) ?_)
    exact abf (aA ((z2.trans z3).trans z4) (aX.of ai)) (aA (z3.trans z4) (aX.of ai)) (aA z4 (aX.of ai))
  ·rintro σ H2 ⟨⟨v,rfl⟩,s2,xs,hxs,hp⟩
   rw[aek (ad6 _)]at hp
   exact⟨_,O,k l xs H2 uR hxs hp s2⟩
inductive C4(K:W.Frag)(C:Addr)(vs:List V)(H:Hp)(Q:VK)(E_:XK):Prop where
 |mk (x dx s:Addr) (w u:Str) (p q f:Str) (b1 b2 b3 b4:Bool):(vs=[.ref x,.ref s])->(H x=some (.ins C dx (zy p q f b1 b2 b3 b4)))->(aX K H s [.str w,.str u])->(Q (.bl (cQ f w u)) H)->C4 K C vs H Q E_
theorem C5:zzz T dQ 1 24 ["dialect","state"] (C4 K (av 70)):=by
 refine T.yD.ok LU 'e' 'a'
 ·obtain⟨x,dx,s,w,u,p,q,f,b1,b2,b3,b4,rfl,_⟩:=h;rfl
 ·have hu:=aS hr
  obtain⟨x,dx,s,w,u,p,q,f,b1,b2,b3,b4,rfl,hx,hs,k⟩:=h
  unfold cQ at k
  refine⟨_,(aj (aP (PW.pt (ia (eH cE (d8 K (pv 1) aq) aB) (fD (eH cE (d8 K (pv 1) aq) aB)))) (ak (ay fJ)) aC)
   (ak (ay (Ge kc (d8 K (pv 1) aq) 'h' rfl)))),?_⟩
  refine⟨_,O,s,_,_,_,O,O,hs,O,O,_,O,cz (λ(h1:bC u 'd'=true)=>i7 ?_) (λ(h1:¬bC u 'd'=true)=>?_)⟩
  ·rw[aee h1]at k
   exact k
  rw[ad5 h1]at k
  refine⟨_,O,s,_,_,_,O,O,hs,O,O,_,O,cz (λ(h2:bC w ("doubt":Str)=true)=>?_) (λ(h2:¬bC w ("doubt":Str)=true)=>?_)⟩
  ·rw[aee h2]at k
   exact k
  rw[ad5 h2]at k
  exact⟨_,O,s,_,_,_,O,O,hs,O,_,O,x,(av 70),dx,_,_,O,hx,T.aL,T.bQ,O,_,_,O,O,k⟩
inductive oA(K:W.Frag)(C:Addr)(vs:List V)(H:Hp)(Q:VK)(E_:XK):Prop where
 |mk (y dy s:Addr) (w u:Str) (x:cD):(vs=[.ref y,.ref s])->(H y=some (.ins C dy (DK x)))->(vN x)->(aX K H s [.str w,.str u])->(i8 x.2.1 w u)->(cQ x.2.2.1 w u=true)->(∀H',aE H H'->Q (.bl true) H')->oA K C vs H Q E_
theorem yN:zzz T dQ 2 25 ["dialect","thing"] (oA K (av 70)):=by
 have yO:=C5 T
 have J5:=Hq T
 refine T.pY.ok yu 'e' 'a'
 ·obtain⟨y,dy,s,w,u,x,rfl,_⟩:=h;rfl
 ·have hu:=aS hr
  obtain⟨y,dy,s,w,u,x,rfl,hy,g,hs,hst,Xu,k⟩:=h
  have gw:=hr.units
  have hq2:=g.q2
  refine⟨_,(aj (aP (PW.pt (ia (bT (bD (iz (ki K rfl) T.bq (af (pv 1) (af (KP "tuple" T.lG) ah))))) (fD (eH vC (iz (aU K rfl) T.bR (af (pv 1) ah)) aq)))) (ak (ay fJ)) aC)
   (aj (aP (PW.pt (ia (bT (bD (iz (cC K rfl) T.bq (af (d8 K (pv 1) aq) (af (KP "str" T.CK) ah))))) (fD (bT (bD (iz (cC K rfl) T.bq (af (d8 K (pv 1) aq) (af (KP "str" T.CK) ah)))))))) (ak (ay fJ)) aC)
   (ak (ay (oR (Ge (Ym K rfl gw) (pv 1) (e9 J5 hr T.JN T.zF.kp T.JM (af (pv 0) ah)) rfl) (nk (e9 yO hr T.Fi T.yD.kp T.Fg (af (pv 0) (af (pv 1) ah))))))))),?_⟩
  refine⟨_,O,_,_,_,_,O,.sqt hs,O,_,O,dh ?_⟩
  refine⟨_,O,_,_,O,.inr hs,O,_,O,rdJ (by simp) (⟨_,O,_,_,_,_,O,O,hs,O,_,_,_,_,O,.str _,.inl ⟨_,⟨O,O⟩⟩,_,O,dh (⟨_,O,_,_,_,_,O,O,hs,O,_,_,_,_,O,.str _,.inl ⟨_,⟨O,O⟩⟩,_,O,dh (⟨_,O,_,O,_,_,_,_,_,_,_,_,_,O,hy,'f',λl xs H1 uR hl prs s1=>?_⟩)⟩)⟩)⟩
  obtain⟨i,hi⟩:=List.getElem?_of_mem (Wh hst)
  obtain⟨e,he,a,rfl,ha⟩:=jC prs i _ hi
  refine⟨s,l,_,xs,O,O,aA s1 hs,O,aT.of hl,λw' hw'=>?_,λr hr'=>?_⟩
  ·obtain⟨j,hj⟩:=List.getElem?_of_mem hw'
   obtain⟨⟨k1,k2⟩,_,a',rfl,ha'⟩:=aN prs j w' hj
   exact⟨a',_,O,ha',O⟩
  have Ut:r=true:=hr'.mpr ⟨_,aen he,a,_,rfl,ha,by show(Bd (.str w) (.str w)&&(Bd (.str u) (.str u)&&true))=true;rw[BB rfl,BB rfl];rfl⟩
  subst Ut
  refine⟨_,O,i7 ⟨_,O,_,O,y,dy,s,w,u,_,_,_,_,_,_,_,O,s1 _ _ hy,aA s1 hs,?_⟩⟩
  rw[Xu]
  exact k _ s1
inductive qe(K:W.Frag)(vs:List V)(H:Hp)(Q:VK)(E_:XK):Prop where
 |mk (l:Addr) (ys:List V) (ts:List (Str×Str)) (n:Nat) (kd s:Str):(vs=[.ref l,.int n,.str kd,.str s])->(H l=some (.lst ys))->(Paired (dU K H) ys ts)->(∀H',aE H H'->Q (acA (i9 ts n kd s)) H')->qe K vs H Q E_
theorem qf:zzz T dQ 1 26 ["tokens","count","kind","sign"] (qe K):=by
 refine T.iR.ok pW 'e' 'a'
 ·obtain⟨l,ys,ts,n,kd,s,rfl,_⟩:=h;rfl
 ·have hu:=aS hr
  obtain⟨l,ys,ts,n,kd,s,rfl,hl,tp,k⟩:=h
  have gw:=hr.units
  refine⟨_,(aj (aP (eH cE (pv 2) aB) (ak (ay (pv 1))) aC)
   (aj (cP 4 pW.nd (aH (af (pv 2) (af (kE (eH cE (pv 2) aB) (pv 3) aB) ah))))
   (aj (aP (PW.pt (nj (eH Io (pv 1) (iz (aU K rfl) T.bR (af (pv 0) ah))) (jv (eH (BF (YL _ _ K) rfl (hn0 gw)) (Lx K (pv 0) (pv 1)) (pv 4))))) (ak (ay (aR jf (pv 1) aq))) aC)
   (ak (ay bf))))),?_⟩
  unfold i9 at k
  have tl:=tp.length
  refine⟨_,O,O,_,O,cz (λ(h1:bC kd ("skip":Str)=true)=>?_) (λ(h1:¬bC kd ("skip":Str)=true)=>?_)⟩
  ·rw[aee h1]at k
   exact⟨_,O,k H (aE.refl _)⟩
  rw[ad5 h1]at k
  refine⟨_,O,_,O,O,_,O,cz (λ(h2:bC kd ("put":Str)=true)=>?_) (λ(h2:¬bC kd ("put":Str)=true)=>?_)⟩
  ·rw[aee h2]at k
   refine⟨_,O,(by show 2<=sizeLine;decide),λt ht=>?_⟩
   (have s1:=ao (o:=HO.tup [V.str kd,V.str s]) ht;have g1:=ai (H:=H) (a:=t) (o:=HO.tup [V.str kd,V.str s]);generalize upd H t (HO.tup [V.str kd,V.str s])=H1 at s1 g1⊢)
   have hl1:=s1 _ _ hl
   dsimp only[bF]
   refine⟨_,O,_,O,l,_,O,.inl (aT.of hl1),_,_,O,O,_,O,cz (λh3=>?_) (λh3=>?_)⟩
   ·have h3:=aez h3
    have hn:n<ys.length:=by omega
    obtain⟨y,hy⟩:∃y,ys[n]?=some y:=⟨_,aeB hn⟩
    obtain⟨⟨k1,s2⟩,ht1,a,rfl,ha⟩:=aN tp n y hy
    have hat:OB ys (n:Int)=some (.ref a):=Bc hy
    refine⟨_,O,_,O,l,_,_,.ref a,O,O,aT.of hl1,hat,_,O,a,t,_,_,O,O,kh (aA s1 ha),kh (aX.of g1),_,O,cz (λh4=>?_) (λh4=>?_)⟩
    ·have h4:=gi.mp (aez h4)
     rw[ht1,aee (by rw[h4])]at k
     have kk:=k H1 s1
     exact⟨_,O,_,_,O,O,kk⟩
    ·have h4:¬(k1,s2)=(kd,s):=λq=>h4 (aeb (gi.mpr q))
     rw[ht1,ad5 (λq=>h4 (aes q))]at k
     exact k H1 s1
   ·have h3:=of_decide_eq_false (Bool.eq_false_iff.mpr h3)
    have hn:ts[n]?=none:=afe 'f'
    rw[hn,ad5 (λq=>nomatch q)]at k
    exact k H1 s1
  ·rw[ad5 h2]at k
   refine⟨(by show 2<=sizeLine;decide),λt ht=>?_⟩
   (have s1:=ao (o:=HO.tup [V.str kd,V.str 'd']) ht;have g1:=ai (H:=H) (a:=t) (o:=HO.tup [V.str kd,V.str 'd']);generalize upd H t (HO.tup [V.str kd,V.str 'd'])=H1 at s1 g1⊢)
   have hl1:=s1 _ _ hl
   dsimp only[bF]
   refine⟨_,O,_,O,l,_,O,.inl (aT.of hl1),_,_,O,O,_,O,cz (λh3=>?_) (λh3=>?_)⟩
   ·have h3:=aez h3
    have hn:n<ys.length:=by omega
    obtain⟨y,hy⟩:∃y,ys[n]?=some y:=⟨_,aeB hn⟩
    obtain⟨⟨k1,s2⟩,ht1,a,rfl,ha⟩:=aN tp n y hy
    have hat:OB ys (n:Int)=some (.ref a):=Bc hy
    refine⟨_,O,_,O,l,_,_,.ref a,O,O,aT.of hl1,hat,_,O,a,t,_,_,O,O,kh (aA s1 ha),kh (aX.of g1),_,O,cz (λh4=>?_) (λh4=>?_)⟩
    ·have h4:=gi.mp (aez h4)
     rw[ht1,aee (by rw[h4])]at k
     have kk:=k H1 s1
     exact⟨_,O,_,_,O,O,kk⟩
    ·have h4:¬(k1,s2)=(kd,'d'):=λq=>h4 (aeb (gi.mpr q))
     rw[ht1,ad5 (λq=>h4 (aes q))]at k
     exact k H1 s1
   ·have h3:=of_decide_eq_false (Bool.eq_false_iff.mpr h3)
    have hn:ts[n]?=none:=afe 'f'
    rw[hn,ad5 (λq=>nomatch q)]at k
    exact k H1 s1
inductive jH(K:W.Frag)(C:Addr)(vs:List V)(H:Hp)(Q:VK)(E_:XK):Prop where
 |mk (x dx:Addr) (p q f:Str) (b1 b2 b3 b4:Bool) (s:Addr) (w u:Str) (c:Nat):(vs=[.ref x,.ref s,.str (sg c)])->(H x=some (.ins C dx (zy p q f b1 b2 b3 b4)))->(aX K H s [.str w,.str u])->(∀v H',aE H H'->DJ K H' v (iJ p q f b3 w u c)->Q v H')->jH K C vs H Q E_
theorem rP:zzz T dQ 1 27 ["dialect","state","sign"] (jH K (av 70)):=by
 refine T.jY.ok rA 'e' 'a'
 ·obtain⟨x,dx,p,q,f,b1,b2,b3,b4,s,w,u,c,rfl,_⟩:=h;rfl
 ·have hu:=aS hr
  obtain⟨x,dx,p,q,f,b1,b2,b3,b4,s,w,u,c,rfl,hx,hs,k⟩:=h
  refine'⟨_,?aa,?bb⟩
  case aa =>
   refine' aj ?s0 ?r0
   case s0 =>
    refine' aP ?c1 ?b1 ?e1
    case c1=>exact(gR ic (pv 2) 'h' rfl)
    case b1 =>
     refine' ak ?s2
     case s2 =>
      refine' ay ?v3
      case v3 =>
       refine' aH ?a4
       case a4 =>
        refine' af ?x5 ?y5 ?z5
        case z5=>exact rfl
        case x5 =>
         exact aB
        case y5 =>
         refine' af ?x6 ?y6 ?z6
         case z6=>exact rfl
         case x6 =>
          refine' aH ?a7
          case a7 =>
           refine' af ?x8 ?y8 ?z8
           case z8=>exact rfl
           case x8 =>
            exact aB
           case y8 =>
            refine' af ?x9 ?y9 ?z9
            case z9=>exact rfl
            case x9 =>
             exact aB
            case y9 =>
             exact ah
         case y6 =>
          exact ah
    case e1 =>
     exact aC
   case r0 =>
    refine' aj ?s10 ?r10
    case s10 =>
     refine' aP ?c11 ?Zq ?e11
     case c11=>exact(eH cE (pv 2) (mw rfl T.mV.choose_spec))
     case Zq =>
      refine' ak ?s12
      case s12 =>
       refine' ay ?v13
       case v13 =>
        refine' aH ?Wo
        case Wo =>
         refine' af ?Zr ?Zs ?Zt
         case Zt=>exact rfl
         case Zr =>
          exact aB
         case Zs =>
          refine' af ?Zu ?Zv ?Zw
          case Zw=>exact rfl
          case Zu =>
           exact(eG rfl T.gc)
          case Zv =>
           exact ah
     case e11 =>
      exact aC
    case r10 =>
     refine' aj ?Zx ?Zy
     case Zx =>
      refine' aP ?Zz ?Wq ?ZA
      case Zz=>exact(gR ic (pv 2) 'h' rfl)
      case Wq =>
       refine' ak ?ZC
       case ZC =>
        refine' ay ?v20
        case v20 =>
         refine' aH ?Wr
         case Wr =>
          refine' af ?ZD ?ZE ?ZF
          case ZF=>exact rfl
          case ZD =>
           exact aB
          case ZE =>
           refine' af ?ZG ?ZH ?ZI
           case ZI=>exact rfl
           case ZG =>
            refine' aH ?ZJ
            case ZJ =>
             refine' af ?x25 ?y25 ?z25
             case z25=>exact rfl
             case x25 =>
              exact aB
             case y25 =>
              refine' af ?x26 ?y26 ?z26
              case z26=>exact rfl
              case x26 =>
               exact(pv 2)
              case y26 =>
               exact ah
           case ZH =>
            exact ah
      case ZA =>
       exact aC
     case Zy =>
      refine' aj ?s27 ?r27
      case s27 =>
       refine' aP ?c28 ?b28 ?e28
       case c28=>exact(gR ic (pv 2) 'h' rfl)
       case b28 =>
        refine' ak ?s29
        case s29 =>
         refine' ay ?v30
         case v30 =>
          refine' aH ?a31
          case a31 =>
           refine' af ?x32 ?y32 ?z32
           case z32=>exact rfl
           case x32 =>
            exact aB
           case y32 =>
            refine' af ?x33 ?y33 ?z33
            case z33=>exact rfl
            case x33 =>
             refine' aH ?a34
             case a34 =>
              refine' af ?x35 ?y35 ?z35
              case z35=>exact rfl
              case x35 =>
               exact aB
              case y35 =>
               refine' af ?x36 ?y36 ?z36
               case z36=>exact rfl
               case x36 =>
                exact aB
               case y36 =>
                exact ah
            case y33 =>
             exact ah
       case e28 =>
        exact aC
      case r27 =>
       refine' aj ?s37 ?r37
       case s37 =>
        refine' aP ?c38 ?b38 ?e38
        case c38=>exact(PW.pt (nj (eH cE (pv 2) aB) (jv (bD 'h'))))
        case b38 =>
         refine' ak ?s39
         case s39 =>
          refine' ay ?v40
          case v40 =>
           refine' aH ?a41
           case a41 =>
            refine' af ?x42 ?y42 ?z42
            case z42=>exact rfl
            case x42 =>
             exact aB
            case y42 =>
             refine' af ?x43 ?y43 ?z43
             case z43=>exact rfl
             case x43 =>
              exact(pv 1)
             case y43 =>
              exact ah
        case e38 =>
         exact aC
       case r37 =>
        refine' ak ?s44
        case s44 =>
         refine' ay ?v45
         case v45 =>
          refine' aH ?a46
          case a46 =>
           refine' af ?x47 ?y47 ?z47
           case z47=>exact rfl
           case x47 =>
            exact aB
           case y47 =>
            refine' af ?x48 ?y48 ?z48
            case z48=>exact rfl
            case x48 =>
             refine' aH ?a49
             case a49 =>
              refine' af ?x50 ?y50 ?z50
              case z50=>exact rfl
              case x50 =>
               exact aB
              case y50 =>
               refine' af ?x51 ?y51 ?z51
               case z51=>exact rfl
               case x51 =>
                exact aB
               case y51 =>
                exact ah
            case y48 =>
             exact ah
  have e2:bC (sg c) (bU 0)=bC (sg c) (Str.ofString "\n"):=by rw[T.jz]
  refine⟨_,O,_,O,x,(av 70),dx,_,_,O,hx,T.aL,T.bQ,O,_,_,O,O,_,O,cz (λ(h1:oM c f=true)=>?_) (λ(h1:¬oM c f=true)=>?_)⟩
  ·exact gJ (by unfold iJ;rw[aee h1]) mF k
  refine⟨_,O,O,_,O,cz (λ(h2:bC (sg c) (bU 0)=true)=>?_) (λ(h2:¬bC (sg c) (bU 0)=true)=>?_)⟩
  ·rw[e2]at h2
   exact Gr (by unfold iJ;rw[ad5 h1,aee h2]) LC (aE.refl _) (.inr T.gg) k
  rw[e2]at h2
  refine⟨_,O,_,O,x,(av 70),dx,_,_,O,hx,T.aL,T.bS,O,_,_,O,O,_,O,cz (λ(h3:oM c q=true)=>?_) (λ(h3:¬oM c q=true)=>?_)⟩
  ·exact⟨_,O,gJ (by unfold iJ;rw[ad5 h1,ad5 h2,aee h3]) mF k⟩
  refine⟨_,O,_,O,x,(av 70),dx,_,_,O,hx,T.aL,T.ck,O,_,_,O,O,_,O,cz (λ(h4:oM c p=true)=>?_) (λ(h4:¬oM c p=true)=>?_)⟩
  ·exact gJ (by unfold iJ;rw[ad5 h1,ad5 h2,ad5 h3,aee h4]) Gs k
  refine⟨_,O,O,_,O,cz (λ(h5:bC (sg c) (" ":Str)=true)=>?_) (λ(h5:¬bC (sg c) (" ":Str)=true)=>?_)⟩
  ·refine⟨_,O,x,(av 70),dx,_,_,O,hx,T.aL,T.dY,O,_,O,cz (λ(h6:b3=true)=>?_) (λ(h6:¬b3=true)=>?_)⟩
   ·exact⟨_,O,Gr (by unfold iJ;rw[ad5 h1,ad5 h2,ad5 h3,ad5 h4,aee h5,aee h6]) mF (aE.refl _) hs k⟩
   exact gJ (by unfold iJ;rw[ad5 h1,ad5 h2,ad5 h3,ad5 h4,aee h5,ad5 h6]) kX k
  refine dh ?_
  exact gJ (by unfold iJ;rw[ad5 h1,ad5 h2,ad5 h3,ad5 h4,ad5 h5]) kX k
inductive oB(K:W.Frag)(C:Addr)(vs:List V)(H:Hp)(Q:VK)(E_:XK):Prop where
 |mk (x dx:Addr) (p q f:Str) (b1 b2 b3 b4:Bool) (c:Nat):(vs=[.ref x,.str (sg c)])->(H x=some (.ins C dx (zy p q f b1 b2 b3 b4)))->(∀v H',aE H H'->DJ K H' v (iK p q f b4 c)->Q v H')->oB K C vs H Q E_
theorem yP:zzz T dQ 1 28 ["dialect","sign"] (oB K (av 70)):=by
 refine T.pZ.ok yw 'e' 'a'
 ·obtain⟨x,dx,p,q,f,b1,b2,b3,b4,c,rfl,_⟩:=h;rfl
 ·have hu:=aS hr
  obtain⟨x,dx,p,q,f,b1,b2,b3,b4,c,rfl,hx,k⟩:=h
  refine'⟨_,?aa,?bb⟩
  case aa =>
   refine' aj ?s0 ?r0
   case s0 =>
    refine' aP ?c1 ?b1 ?e1
    case c1=>exact(gR ic (pv 1) 'h' rfl)
    case b1 =>
     refine' ak ?s2
     case s2 =>
      refine' ay ?v3
      case v3 =>
       refine' aH ?a4
       case a4 =>
        refine' af ?x5 ?y5 ?z5
        case z5=>exact rfl
        case x5 =>
         exact aB
        case y5 =>
         refine' af ?x6 ?y6 ?z6
         case z6=>exact rfl
         case x6 =>
          refine' aH ?a7
          case a7 =>
           refine' af ?x8 ?y8 ?z8
           case z8=>exact rfl
           case x8 =>
            exact aB
           case y8 =>
            refine' af ?x9 ?y9 ?z9
            case z9=>exact rfl
            case x9 =>
             exact aB
            case y9 =>
             exact ah
         case y6 =>
          exact ah
    case e1 =>
     exact aC
   case r0 =>
    refine' aj ?s10 ?r10
    case s10 =>
     refine' aP ?c11 ?Zq ?e11
     case c11=>exact(eH cE (pv 1) (mw rfl T.mV.choose_spec))
     case Zq =>
      refine' ak ?s12
      case s12 =>
       refine' ay ?v13
       case v13 =>
        refine' aH ?Wo
        case Wo =>
         refine' af ?Zr ?Zs ?Zt
         case Zt=>exact rfl
         case Zr =>
          exact aB
         case Zs =>
          refine' af ?Zu ?Zv ?Zw
          case Zw=>exact rfl
          case Zu =>
           exact(eG rfl T.gc)
          case Zv =>
           exact ah
     case e11 =>
      exact aC
    case r10 =>
     refine' aj ?Zx ?Zy
     case Zx =>
      refine' aP ?Zz ?Wq ?ZA
      case Zz=>exact(gR ic (pv 1) 'h' rfl)
      case Wq =>
       refine' ak ?ZC
       case ZC =>
        refine' ay ?v20
        case v20 =>
         refine' aH ?Wr
         case Wr =>
          refine' af ?ZD ?ZE ?ZF
          case ZF=>exact rfl
          case ZD =>
           exact aB
          case ZE =>
           refine' af ?ZG ?ZH ?ZI
           case ZI=>exact rfl
           case ZG =>
            refine' aH ?ZJ
            case ZJ =>
             refine' af ?x25 ?y25 ?z25
             case z25=>exact rfl
             case x25 =>
              exact aB
             case y25 =>
              refine' af ?x26 ?y26 ?z26
              case z26=>exact rfl
              case x26 =>
               exact aB
              case y26 =>
               exact ah
           case ZH =>
            exact ah
      case ZA =>
       exact aC
     case Zy =>
      refine' aj ?s27 ?r27
      case s27 =>
       refine' aP ?c28 ?b28 ?e28
       case c28=>exact(PW.pt (nj (gR ic (pv 1) 'h' rfl) (jv (bT (bD 'h')))))
       case b28 =>
        refine' ak ?s29
        case s29 =>
         refine' ay ?v30
         case v30 =>
          refine' aH ?a31
          case a31 =>
           refine' af ?x32 ?y32 ?z32
           case z32=>exact rfl
           case x32 =>
            exact aB
           case y32 =>
            refine' af ?x33 ?y33 ?z33
            case z33=>exact rfl
            case x33 =>
             exact aB
            case y33 =>
             exact ah
       case e28 =>
        exact aC
      case r27 =>
       refine' ak ?s34
       case s34 =>
        refine' ay ?v35
        case v35 =>
         refine' aH ?a36
         case a36 =>
          refine' af ?x37 ?y37 ?z37
          case z37=>exact rfl
          case x37 =>
           exact aB
          case y37 =>
           refine' af ?x38 ?y38 ?z38
           case z38=>exact rfl
           case x38 =>
            refine' aH ?a39
            case a39 =>
             refine' af ?x40 ?y40 ?z40
             case z40=>exact rfl
             case x40 =>
              exact aB
             case y40 =>
              refine' af ?x41 ?y41 ?z41
              case z41=>exact rfl
              case x41 =>
               exact aB
              case y41 =>
               exact ah
           case y38 =>
            exact ah
  have e2:bC (sg c) (bU 0)=bC (sg c) (Str.ofString "\n"):=by rw[T.jz]
  refine⟨_,O,_,O,x,(av 70),dx,_,_,O,hx,T.aL,T.bQ,O,_,_,O,O,_,O,cz (λ(h1:oM c f=true)=>?_) (λ(h1:¬oM c f=true)=>?_)⟩
  ·exact gJ (by unfold iK;rw[aee h1]) mF k
  refine⟨_,O,O,_,O,cz (λ(h2:bC (sg c) (bU 0)=true)=>?_) (λ(h2:¬bC (sg c) (bU 0)=true)=>?_)⟩
  ·rw[e2]at h2
   exact Gr (by unfold iK;rw[ad5 h1,aee h2]) LC (aE.refl _) (.inr T.gg) k
  rw[e2]at h2
  refine⟨_,O,_,O,x,(av 70),dx,_,_,O,hx,T.aL,T.ck,O,_,_,O,O,_,O,cz (λ(h3:oM c p=true)=>?_) (λ(h3:¬oM c p=true)=>?_)⟩
  ·exact gJ (by unfold iK;rw[ad5 h1,ad5 h2,aee h3]) Gs k
  refine⟨_,O,_,O,x,(av 70),dx,_,_,O,hx,T.aL,T.bS,O,_,_,O,O,_,O,cz (λ(h4:oM c q=true)=>?_) (λ(h4:¬oM c q=true)=>?_)⟩
  ·refine⟨_,O,x,(av 70),dx,_,_,O,hx,T.aL,T.fk,O,_,O,cz (λ(h5:(!b4)=true)=>?_) (λ(h5:¬(!b4)=true)=>?_)⟩
   ·exact BN (by unfold iK;rw[ad5 h1,ad5 h2,ad5 h3,aee h4,aee h5]) k
   exact gJ (by unfold iK;rw[ad5 h1,ad5 h2,ad5 h3,aee h4,ad5 h5]) kX k
  refine dh ?_
  exact gJ (by unfold iK;rw[ad5 h1,ad5 h2,ad5 h3,ad5 h4]) kX k
inductive rQ(K:W.Frag)(C:Addr)(vs:List V)(H:Hp)(Q:VK)(E_:XK):Prop where
 |mk (x dx:Addr) (p q f:Str) (b1 b2 b3 b4:Bool) (u:Str) (c:Nat):(vs=[.ref x,.str u,.str (sg c)])->(H x=some (.ins C dx (zy p q f b1 b2 b3 b4)))->(∀v H',aE H H'->DJ K H' v (dS f b1 b2 u c)->Q v H')->rQ K C vs H Q E_
theorem C6:zzz T dQ 1 29 ["dialect","quote","sign"] (rQ K (av 70)):=by
 refine T.tZ.ok Ci 'e' 'a'
 ·obtain⟨x,dx,p,q,f,b1,b2,b3,b4,u,c,rfl,_⟩:=h;rfl
 ·have hu:=aS hr
  obtain⟨x,dx,p,q,f,b1,b2,b3,b4,u,c,rfl,hx,k⟩:=h
  refine'⟨_,?aa,?bb⟩
  case aa =>
   refine' aj ?s0 ?r0
   case s0 =>
    refine' aP ?c1 ?b1 ?e1
    case c1=>exact(gR ic (pv 2) 'h' rfl)
    case b1 =>
     refine' ak ?s2
     case s2 =>
      refine' ay ?v3
      case v3 =>
       refine' aH ?a4
       case a4 =>
        refine' af ?x5 ?y5 ?z5
        case z5=>exact rfl
        case x5 =>
         exact aB
        case y5 =>
         refine' af ?x6 ?y6 ?z6
         case z6=>exact rfl
         case x6 =>
          refine' aH ?a7
          case a7 =>
           refine' af ?x8 ?y8 ?z8
           case z8=>exact rfl
           case x8 =>
            exact aB
           case y8 =>
            refine' af ?x9 ?y9 ?z9
            case z9=>exact rfl
            case x9 =>
             exact(pv 1)
            case y9 =>
             exact ah
         case y6 =>
          exact ah
    case e1 =>
     exact aC
   case r0 =>
    refine' aj ?s10 ?r10
    case s10 =>
     refine' aP ?c11 ?Zq ?e11
     case c11=>exact(eH cE (pv 2) (pv 1))
     case Zq =>
      refine' ak ?s12
      case s12 =>
       refine' ay ?v13
       case v13 =>
        refine' aH ?Wo
        case Wo =>
         refine' af ?Zr ?Zs ?Zt
         case Zt=>exact rfl
         case Zr =>
          exact aB
         case Zs =>
          refine' af ?Zu ?Zv ?Zw
          case Zw=>exact rfl
          case Zu =>
           exact(kE (bD 'h') (aH (af aB (af (pv 1) ah))) (aH (af aB (af aB ah))))
          case Zv =>
           exact ah
     case e11 =>
      exact aC
    case r10 =>
     refine' aj ?Zx ?Zy
     case Zx =>
      refine' aP ?Zz ?Wq ?ZA
      case Zz=>exact(PW.pt (nj (eH cE (pv 2) (mw rfl T.mV.choose_spec)) (jv (bT (bD 'h')))))
      case Wq =>
       refine' ak ?ZC
       case ZC =>
        refine' ay ?v20
        case v20 =>
         refine' aH ?Wr
         case Wr =>
          refine' af ?ZD ?ZE ?ZF
          case ZF=>exact rfl
          case ZD =>
           exact aB
          case ZE =>
           refine' af ?ZG ?ZH ?ZI
           case ZI=>exact rfl
           case ZG =>
            exact aB
           case ZH =>
            exact ah
      case ZA =>
       exact aC
     case Zy =>
      refine' ak ?s24
      case s24 =>
       refine' ay ?v25
       case v25 =>
        refine' aH ?a26
        case a26 =>
         refine' af ?x27 ?y27 ?z27
         case z27=>exact rfl
         case x27 =>
          exact aB
         case y27 =>
          refine' af ?x28 ?y28 ?z28
          case z28=>exact rfl
          case x28 =>
           refine' aH ?a29
           case a29 =>
            refine' af ?x30 ?y30 ?z30
            case z30=>exact rfl
            case x30 =>
             exact aB
            case y30 =>
             refine' af ?x31 ?y31 ?z31
             case z31=>exact rfl
             case x31 =>
              exact(pv 1)
             case y31 =>
              exact ah
          case y28 =>
           exact ah
  have e2:bC (sg c) (bU 0)=bC (sg c) (Str.ofString "\n"):=by rw[T.jz]
  refine⟨_,O,_,O,x,(av 70),dx,_,_,O,hx,T.aL,T.bQ,O,_,_,O,O,_,O,cz (λ(h1:oM c f=true)=>?_) (λ(h1:¬oM c f=true)=>?_)⟩
  ·exact⟨_,O,gJ (by unfold dS;rw[aee h1]) mF k⟩
  refine⟨_,O,_,O,O,_,O,cz (λ(h2:bC (sg c) u=true)=>?_) (λ(h2:¬bC (sg c) u=true)=>?_)⟩
  ·refine⟨_,O,x,(av 70),dx,_,_,O,hx,T.aL,T.f9,O,_,O,cz (λ(h3:b1=true)=>?_) (λ(h3:¬b1=true)=>?_)⟩
   ·exact⟨_,O,gJ (by unfold dS;rw[ad5 h1,aee h2,aee h3]) mF k⟩
   exact gJ (by unfold dS;rw[ad5 h1,aee h2,ad5 h3]) mF k
  refine⟨_,O,O,_,O,cz (λ(h3:bC (sg c) (bU 0)=true)=>?_) (λ(h3:¬bC (sg c) (bU 0)=true)=>?_)⟩
  ·rw[e2]at h3
   refine⟨_,O,x,(av 70),dx,_,_,O,hx,T.aL,T.dW,O,_,O,cz (λ(h4:(!b2)=true)=>?_) (λ(h4:¬(!b2)=true)=>?_)⟩
   ·exact BN (by unfold dS;rw[ad5 h1,ad5 h2,aee h3,aee h4]) k
   exact⟨_,O,gJ (by unfold dS;rw[ad5 h1,ad5 h2,aee h3,ad5 h4]) kX k⟩
  rw[e2]at h3
  refine dh ?_
  exact⟨_,O,gJ (by unfold dS;rw[ad5 h1,ad5 h2,ad5 h3]) kX k⟩
inductive rR(K:W.Frag)(C:Addr)(vs:List V)(H:Hp)(Q:VK)(E_:XK):Prop where
 |mk (x dx:Addr) (p q f:Str) (b1 b2 b3 b4:Bool) (c:Nat):(vs=[.ref x,.str (sg c)])->(H x=some (.ins C dx (zy p q f b1 b2 b3 b4)))->(∀v H',aE H H'->DJ K H' v (cU p b3 c)->Q v H')->rR K C vs H Q E_
theorem rS:zzz T dQ 1 30 ["dialect","sign"] (rR K (av 70)):=by
 refine T.nH.ok Cj 'e' 'a'
 ·obtain⟨x,dx,p,q,f,b1,b2,b3,b4,c,rfl,_⟩:=h;rfl
 ·have hu:=aS hr
  obtain⟨x,dx,p,q,f,b1,b2,b3,b4,c,rfl,hx,k⟩:=h
  refine'⟨_,?aa,?bb⟩
  case aa =>
   refine' aj ?s0 ?r0
   case s0 =>
    refine' aP ?c1 ?b1 ?e1
    case c1=>exact(eH cE (pv 1) (mw rfl T.mV.choose_spec))
    case b1 =>
     refine' ak ?s2
     case s2 =>
      refine' ay ?v3
      case v3 =>
       refine' aH ?a4
       case a4 =>
        refine' af ?x5 ?y5 ?z5
        case z5=>exact rfl
        case x5 =>
         exact aB
        case y5 =>
         refine' af ?x6 ?y6 ?z6
         case z6=>exact rfl
         case x6 =>
          exact(eG rfl T.gc)
         case y6 =>
          exact ah
    case e1 =>
     exact aC
   case r0 =>
    refine' aj ?s7 ?r7
    case s7 =>
     refine' aP ?c8 ?b8 ?e8
     case c8=>exact(gR ic (pv 1) 'h' rfl)
     case b8 =>
      refine' ak ?s9
      case s9 =>
       refine' ay ?v10
       case v10 =>
        refine' aH ?a11
        case a11 =>
         refine' af ?x12 ?y12 ?z12
         case z12=>exact rfl
         case x12 =>
          exact aB
         case y12 =>
          refine' af ?x13 ?y13 ?z13
          case z13=>exact rfl
          case x13 =>
           refine' aH ?Wo
           case Wo =>
            refine' af ?Zr ?Zs ?Zt
            case Zt=>exact rfl
            case Zr =>
             exact aB
            case Zs =>
             refine' af ?Zu ?Zv ?Zw
             case Zw=>exact rfl
             case Zu =>
              exact aB
             case Zv =>
              exact ah
          case y13 =>
           exact ah
     case e8 =>
      exact aC
    case r7 =>
     refine' aj ?Zx ?Zy
     case Zx =>
      refine' aP ?Zz ?Wq ?ZA
      case Zz=>exact(PW.pt (nj (eH cE (pv 1) aB) (jv (bD 'h'))))
      case Wq =>
       refine' ak ?ZC
       case ZC =>
        refine' ay ?v20
        case v20 =>
         refine' aH ?Wr
         case Wr =>
          refine' af ?ZD ?ZE ?ZF
          case ZF=>exact rfl
          case ZD =>
           exact aB
          case ZE =>
           refine' af ?ZG ?ZH ?ZI
           case ZI=>exact rfl
           case ZG =>
            refine' aH ?ZJ
            case ZJ =>
             refine' af ?x25 ?y25 ?z25
             case z25=>exact rfl
             case x25 =>
              exact aB
             case y25 =>
              refine' af ?x26 ?y26 ?z26
              case z26=>exact rfl
              case x26 =>
               exact aB
              case y26 =>
               exact ah
           case ZH =>
            exact ah
      case ZA =>
       exact aC
     case Zy =>
      refine' ak ?s27
      case s27 =>
       refine' ay ?v28
       case v28 =>
        refine' aH ?a29
        case a29 =>
         refine' af ?x30 ?y30 ?z30
         case z30=>exact rfl
         case x30 =>
          exact aB
         case y30 =>
          refine' af ?x31 ?y31 ?z31
          case z31=>exact rfl
          case x31 =>
           exact aB
          case y31 =>
           exact ah
  have e2:bC (sg c) (bU 0)=bC (sg c) (Str.ofString "\n"):=by rw[T.jz]
  refine⟨_,O,O,_,O,cz (λ(h1:bC (sg c) (bU 0)=true)=>?_) (λ(h1:¬bC (sg c) (bU 0)=true)=>?_)⟩
  ·rw[e2]at h1
   exact Gr (by unfold cU;rw[aee h1]) LC (aE.refl _) (.inr T.gg) k
  rw[e2]at h1
  refine⟨_,O,_,O,x,(av 70),dx,_,_,O,hx,T.aL,T.ck,O,_,_,O,O,_,O,cz (λ(h2:oM c p=true)=>?_) (λ(h2:¬oM c p=true)=>?_)⟩
  ·exact gJ (by unfold cU;rw[ad5 h1,aee h2]) Gs k
  refine⟨_,O,O,_,O,cz (λ(h3:bC (sg c) (" ":Str)=true)=>?_) (λ(h3:¬bC (sg c) (" ":Str)=true)=>?_)⟩
  ·refine⟨_,O,x,(av 70),dx,_,_,O,hx,T.aL,T.dY,O,_,O,cz (λ(h4:b3=true)=>?_) (λ(h4:¬b3=true)=>?_)⟩
   ·exact gJ (by unfold cU;rw[ad5 h1,ad5 h2,aee h3,aee h4]) mF k
   exact BN (by unfold cU;rw[ad5 h1,ad5 h2,aee h3,ad5 h4]) k
  refine dh ?_
  exact BN (by unfold cU;rw[ad5 h1,ad5 h2,ad5 h3]) k
inductive oE(K:W.Frag)(C:Addr)(vs:List V)(H:Hp)(Q:VK)(E_:XK):Prop where
 |mk (x dx:Addr) (p q f:Str) (b1 b2 b3 b4:Bool) (u:Str) (c:Nat):(vs=[.ref x,.str u,.str (sg c)])->(H x=some (.ins C dx (zy p q f b1 b2 b3 b4)))->(∀v H',aE H H'->DJ K H' v (kY p b3 u c)->Q v H')->oE K C vs H Q E_
theorem yQ:zzz T dQ 2 31 ["dialect","quote","sign"] (oE K (av 70)):=by
 have nK:=rS T
 refine T.p8.ok yx 'e' 'a'
 ·obtain⟨x,dx,p,q,f,b1,b2,b3,b4,u,c,rfl,_⟩:=h;rfl
 ·have hu:=aS hr
  obtain⟨x,dx,p,q,f,b1,b2,b3,b4,u,c,rfl,hx,k⟩:=h
  refine⟨_,(aj (aP (eH cE (pv 2) (pv 1)) (ak (ay (aH (af aB (af (aH (af aB (af (pv 1) ah))) ah))))) aC)
   (ak (ay (e9 nK hr T.t7 T.nH.kp T.t6 (af (pv 0) (af (pv 2) ah)))))),?_⟩
  refine⟨_,O,_,O,O,_,O,cz (λ(h1:bC (sg c) u=true)=>?_) (λ(h1:¬bC (sg c) u=true)=>?_)⟩
  ·exact⟨_,O,gJ (by unfold kY;rw[aee h1]) kX k⟩
  refine⟨_,O,_,O,x,dx,p,q,f,b1,b2,b3,b4,c,O,hx,λv H2 s2 r=>k v H2 s2 ?_⟩
  unfold kY
  rw[ad5 h1]
  exact r
inductive uh(K:W.Frag)(C:Addr)(vs:List V)(H:Hp)(Q:VK)(E_:XK):Prop where
 |mk (x dx:Addr) (p q f:Str) (b1 b2 b3 b4:Bool) (u:Str) (c:Nat):(vs=[.ref x,.str u,.str (sg c)])->(H x=some (.ins C dx (zy p q f b1 b2 b3 b4)))->(∀v H',aE H H'->DJ K H' v (gE b2 u c)->Q v H')->uh K C vs H Q E_
theorem D4:zzz T dQ 1 32 ["dialect","quote","sign"] (uh K (av 70)):=by
 refine T.wC.ok DP 'e' 'a'
 ·obtain⟨x,dx,p,q,f,b1,b2,b3,b4,u,c,rfl,_⟩:=h;rfl
 ·have hu:=aS hr
  obtain⟨x,dx,p,q,f,b1,b2,b3,b4,u,c,rfl,hx,k⟩:=h
  refine'⟨_,?aa,?bb⟩
  case aa =>
   refine' aj ?s0 ?r0
   case s0 =>
    refine' aP ?c1 ?b1 ?e1
    case c1=>exact(PW.pt (nj (eH cE (pv 2) (mw rfl T.mV.choose_spec)) (jv (bT (bD 'h')))))
    case b1 =>
     refine' ak ?s2
     case s2 =>
      refine' ay ?v3
      case v3 =>
       refine' aH ?a4
       case a4 =>
        refine' af ?x5 ?y5 ?z5
        case z5=>exact rfl
        case x5 =>
         exact aB
        case y5 =>
         refine' af ?x6 ?y6 ?z6
         case z6=>exact rfl
         case x6 =>
          exact aB
         case y6 =>
          exact ah
    case e1 =>
     exact aC
   case r0 =>
    refine' ak ?s7
    case s7 =>
     refine' ay ?v8
     case v8 =>
      refine' aH ?a9
      case a9 =>
       refine' af ?x10 ?y10 ?z10
       case z10=>exact rfl
       case x10 =>
        exact aB
       case y10 =>
        refine' af ?x11 ?y11 ?z11
        case z11=>exact rfl
        case x11 =>
         exact(kE (eH cE (pv 1) aB) (aH (af aB (af aB ah))) (aH (af aB (af (pv 1) ah))))
        case y11 =>
         exact ah
  have e2:bC (sg c) (bU 0)=bC (sg c) (Str.ofString "\n"):=by rw[T.jz]
  refine⟨_,O,O,_,O,cz (λ(h1:bC (sg c) (bU 0)=true)=>?_) (λ(h1:¬bC (sg c) (bU 0)=true)=>?_)⟩
  ·rw[e2]at h1
   refine⟨_,O,x,(av 70),dx,_,_,O,hx,T.aL,T.dW,O,_,O,cz (λ(h2:(!b2)=true)=>?_) (λ(h2:¬(!b2)=true)=>?_)⟩
   ·exact BN (by unfold gE;rw[aee h1,aee h2]) k
   refine⟨_,O,O,_,O,cz (λ(h9:bC u 'd'=true)=>?_) (λ(h9:¬bC u 'd'=true)=>?_)⟩
   ·exact gJ (by unfold gE eO;rw[aee h1,ad5 h2,aee h9]) kX k
   exact⟨_,O,gJ (by unfold gE eO;rw[aee h1,ad5 h2,ad5 h9]) kX k⟩
  rw[e2]at h1
  refine dh ?_
  refine⟨_,O,O,_,O,cz (λ(h9:bC u 'd'=true)=>?_) (λ(h9:¬bC u 'd'=true)=>?_)⟩
  ·exact gJ (by unfold gE eO;rw[ad5 h1,aee h9]) kX k
  exact⟨_,O,gJ (by unfold gE eO;rw[ad5 h1,ad5 h9]) kX k⟩
inductive wV(K:W.Frag)(C CT:Addr)(vs:List V)(H:Hp)(Q:VK)(E_:XK):Prop where
 |mk (y s:Addr) (w u:Str) (c:Nat) (p q f:Str) (b1 b2 b3 b4:Bool):(vs=[.ref y,.ref s,.str (sg c)])->(Tn C CT H y p q f b1 b2 b3 b4)->(aX K H s [.str w,.str u])->(∀v H',aE H H'->DJ K H' v (bw p q f b1 b2 b3 b4 w u c)->Q v H')->wV K C CT vs H Q E_
theorem wW:zzz T dQ 3 33 ["self","state","sign"] (wV K (av 70) (av 71)):=by
 have tQ:=rP T
 have nK:=rS T
 have Hr:=D4 T
 have AD:=yQ T
 have AE:=yP T
 have D5:=C6 T
 refine T.JO.ok pH 'e' 'a'
 ·obtain⟨y,s,w,u,c,p,q,f,b1,b2,b3,b4,rfl,_⟩:=h;rfl
 ·have hu:=aS hr
  obtain⟨y,s,w,u,c,p,q,f,b1,b2,b3,b4,rfl,hT,hs,k⟩:=h
  obtain⟨dy,d,dd,hy,hd⟩:=hT.ok
  refine⟨_,(aj (cP 3 pH.nd (d8 K (pv 1) aq))
   (aj (cP 4 pH.nd (d8 K (pv 1) aq))
   (aj (aP (eH cE (pv 3) aB) (ak (ay (e9 AE hr T.Av T.pZ.kp T.Au (af 'h' (af (pv 2) ah))))) aC)
   (aj (aP (eH cE (pv 3) aB) (ak (ay (e9 D5 hr T.DU T.tZ.kp T.DT (af 'h' (af (pv 4) (af (pv 2) ah)))))) aC)
   (aj (aP (eH cE (pv 3) aB) (ak (ay (e9 AD hr T.Ax T.p8.kp T.Aw (af 'h' (af (pv 4) (af (pv 2) ah)))))) aC)
   (aj (aP (eH cE (pv 3) aB) (ak (ay (e9 nK hr T.t7 T.nH.kp T.t6 (af 'h' (af (pv 2) ah))))) aC)
   (aj (aP (eH cE (pv 3) aB) (ak (ay (e9 Hr hr T.GX T.wC.kp T.GW (af 'h' (af (pv 4) (af (pv 2) ah)))))) aC)
   (ak (ay (e9 tQ hr T.tN T.jY.kp T.tM (af 'h' (af (pv 1) (af (pv 2) ah))))))))))))),?_⟩
  refine⟨_,O,s,_,_,_,O,O,hs,O,_,O,s,_,_,_,O,O,hs,O,?_⟩
  refine⟨_,O,O,_,O,cz (λ(h1:bC w ("plain":Str)=true)=>?_) (λ(h1:¬bC w ("plain":Str)=true)=>?_)⟩
  ·refine⟨_,O,y,(av 71),dy,_,_,O,hy,T.gu,T.bO,O,_,O,d,dd,p,q,f,b1,b2,b3,b4,c,O,hd,λv H2 s2 r=>k v H2 s2 ?_⟩
   rw[SM h1]
   exact r
  refine⟨_,O,O,_,O,cz (λ(h2:bC w ("within":Str)=true)=>?_) (λ(h2:¬bC w ("within":Str)=true)=>?_)⟩
  ·refine⟨_,O,y,(av 71),dy,_,_,O,hy,T.gu,T.bO,O,_,O,_,O,d,dd,p,q,f,b1,b2,b3,b4,u,c,O,hd,λv H2 s2 r=>k v H2 s2 ?_⟩
   rw[yf h2]
   exact r
  refine⟨_,O,O,_,O,cz (λ(h3:bC w ("doubt":Str)=true)=>?_) (λ(h3:¬bC w ("doubt":Str)=true)=>?_)⟩
  ·refine⟨_,O,y,(av 71),dy,_,_,O,hy,T.gu,T.bO,O,_,O,_,O,d,dd,p,q,f,b1,b2,b3,b4,u,c,O,hd,λv H2 s2 r=>k v H2 s2 ?_⟩
   rw[Ja h3]
   exact r
  refine⟨_,O,O,_,O,cz (λ(h4:bC w ("behind":Str)=true)=>?_) (λ(h4:¬bC w ("behind":Str)=true)=>?_)⟩
  ·refine⟨_,O,y,(av 71),dy,_,_,O,hy,T.gu,T.bO,O,_,O,d,dd,p,q,f,b1,b2,b3,b4,c,O,hd,λv H2 s2 r=>k v H2 s2 ?_⟩
   rw[ES h4]
   exact r
  refine⟨_,O,O,_,O,cz (λ(h5:bC w ("freed":Str)=true)=>?_) (λ(h5:¬bC w ("freed":Str)=true)=>?_)⟩
  ·refine⟨_,O,y,(av 71),dy,_,_,O,hy,T.gu,T.bO,O,_,O,_,O,d,dd,p,q,f,b1,b2,b3,b4,u,c,O,hd,λv H2 s2 r=>k v H2 s2 ?_⟩
   rw[vL h5]
   exact r
  refine⟨_,O,y,(av 71),dy,_,_,O,hy,T.gu,T.bO,O,_,O,_,O,d,dd,p,q,f,b1,b2,b3,b4,s,w,u,c,O,hd,hs,λv H2 s2 r=>k v H2 s2 ?_⟩
  rw[NX (qV h2) (qV h5) (qV h3) (qV h4)]
  unfold pU
  rw[ad5 h1]
  exact r
inductive mW(K:W.Frag)(C CT:Addr)(vs:List V)(H:Hp)(Q:VK)(E_:XK):Prop where
 |mk (y s:Addr) (w u:Str) (c:Nat) (p q f:Str) (b1 b2 b3 b4:Bool):(vs=[.ref y,.ref s,.str (sg c)])->(Tn C CT H y p q f b1 b2 b3 b4)->(aX K H s [.str w,.str u])->(∀v H',aE H H'->lvV K (fY p q f b1 b2 b3 b4 w u c) H' v->Q v H')->mW K C CT vs H Q E_
theorem mX:zzz T dQ 4 34 ["self","state","sign"] (mW K (av 70) (av 71)):=by
 have rT:=wW T
 have yO:=C5 T
 refine T.yE.ok mJ 'e' 'a'
 ·obtain⟨y,s,w,u,c,p,q,f,b1,b2,b3,b4,rfl,_⟩:=h;rfl
 ·have hu:=aS hr
  obtain⟨y,s,w,u,c,p,q,f,b1,b2,b3,b4,rfl,hT,hs,k⟩:=h
  unfold fY at k
  refine⟨_,(aj (aP (eH gX (pv 1) bf) (ak (ay bf)) aC)
   (aj (cP 3 mJ.nd (dw (k:=3) (pv 0) T.gu T.zH rT (hr.mono 'c') T.zG .nil cO (af (pv 1) (af (pv 2) ah))))
   (aj (aP (PW.pt (ia (eH cE (d8 K (pv 3) aq) aB) (fD (bT (bD (e9 yO hr T.Fi T.yD.kp T.Fg (af 'h' (af (d8 K (pv 3) aq) ah)))))))) (ak (ay bf)) aC)
   (ak (ay (pv 3)))))),?_⟩
  obtain⟨dy,d,dd,ey,ed⟩:=hT.ok
  refine⟨_,rfl,rfl,_,rfl,DF (λz=>nomatch z) ⟨_,rfl,y,dy,_,rfl,ey,rfl,_,rfl,_,rfl,y,s,w,u,c,p,q,f,b1,b2,b3,b4,rfl,hT,hs,λv H5 s5 r=>?_⟩⟩
  cases ZK:bw p q f b1 b2 b3 b4 w u c with
  |go kd w3 u3 =>
   rw[ZK]at r k
   obtain⟨hk,a,b,rfl,ha,hb⟩:=r
   have ey5:=s5 _ _ ey
   have ed5:=s5 _ _ ed
   have k:∀v H',aE H H'->lvV K (if cQ f w3 u3=true then some (kd,w3,u3) else none) H' v->Q v H':=k
   refine⟨_,O,a,_,_,_,O,O,ha,O,O,_,O,pT hk ?_⟩
   refine⟨_,O,y,_,_,_,_,O,ey5,T.gu,T.bO,O,_,O,a,_,_,_,O,O,ha,O,d,dd,b,w3,u3,p,q,f,b1,b2,b3,b4,O,ed5,hb,_,O,?_⟩
   by_cases hL:cQ f w3 u3=true
   ·rw[aee hL]at k
    exact NW hL ⟨_,rfl,k _ _ s5 ⟨a,b,rfl,ha,hb⟩⟩
   ·rw[ad5 hL]at k
    exact Xq (qV hL) (k _ _ s5 rfl)
  |lU e =>
   rw[ZK]at r k
   obtain⟨a,rfl,ha⟩:=r
   have k:∀v H',aE H H'->lvV K none H' v->Q v H':=k
   exact⟨_,O,a,_,_,_,O,O,ha,O,O,_,O,mE (br _) (i7 (k _ _ s5 rfl))⟩
inductive jc(K:W.Frag)(C CT CM:Addr)(vs:List V)(H:Hp)(Q:VK)(E_:XK):Prop where
 |mk (m:Addr) (v:V) (o:Option aW) (c:Nat) (ts:List (Str×Str)) (p q f:Str) (b1 b2 b3 b4:Bool):(vs=[.ref m,v,.str (sg c)])->(oN K C CT CM H m p q f b1 b2 b3 b4 ts)->(fL K H o v)->(∀v' H',aE H H'->fL K H' (acC p q f b1 b2 b3 b4 ts o c) v'->Q v' H')->jc K C CT CM vs H Q E_
theorem qx:zzz T dQ 5 35 ["self","mark","sign"] (jc K (av 70) (av 71) (av 72)):=by
 have gy:=mX T
 have iX:=qf T
 refine T.jG.ok bu 'e' 'a'
 ·obtain⟨m,v,o,c,ts,p,q,f,b1,b2,b3,b4,rfl,_⟩:=h;rfl
 ·have hu:=aS hr
  obtain⟨m,v,o,c,ts,p,q,f,b1,b2,b3,b4,rfl,hM,hv,k⟩:=h
  obtain⟨dm,y,l,ys,em,eT,el,tp⟩:=hM.ok
  cases o with
  |none =>
   have hv:v=.non:=hv
   subst hv
   refine⟨_,(aj (aP (eH gX (pv 1) bf) (ak (ay bf)) aC)
   (aj (cP 3 bu.nd (dw (k:=4) 'h' T.gu T.jr gy (hr.mono 'c') T.jq .nil cO (af (d8 K (pv 1) aq) (af (pv 2) ah))))
   (aj (aP (eH gX (pv 3) bf) (ak (ay bf)) aC)
   (aj (cP 4 bu.nd (e9 iX hr T.lE T.iR.kp T.lD (af 'h' (af (d8 K (pv 1) aq) (af (d8 K (pv 3) aq) (af (pv 2) ah))))))
   (ak (ay (kE (eH gX (pv 4) bf) bf (aH (af (d8 K (pv 3) aq) (af (pv 4) ah)))))))))),?_⟩
   exact⟨_,O,O,_,O,rdD rfl (k _ _ (aE.refl _) rfl)⟩
  |some mk =>
  have k:∀v' H',aE H H'->nF K (fh p q f b1 b2 b3 b4 ts mk c) H' v'->Q v' H':=λv' H' s' q'=>k v' H' s' (Oa q')
  obtain⟨b,s,rfl,hb,hs⟩:=hv
  obtain⟨dy,d,dd,ey,ed⟩:=eT.ok
  refine⟨_,(aj (aP (eH gX (pv 1) bf) (ak (ay bf)) aC)
   (aj (cP 3 bu.nd (dw (k:=4) 'h' T.gu T.jr gy (hr.mono 'c') T.jq .nil cO (af (d8 K (pv 1) aq) (af (pv 2) ah))))
   (aj (aP (eH gX (pv 3) bf) (ak (ay bf)) aC)
   (aj (cP 4 bu.nd (e9 iX hr T.lE T.iR.kp T.lD (af 'h' (af (d8 K (pv 1) aq) (af (d8 K (pv 3) aq) (af (pv 2) ah))))))
   (ak (ay (kE (eH gX (pv 4) bf) bf (aH (af (d8 K (pv 3) aq) (af (pv 4) ah)))))))))),?_⟩
  unfold fh at k
  refine⟨_,rfl,rfl,_,rfl,DF (λz=>nomatch z) (⟨_,rfl,_,_,_,_,_,rfl,em,T.cg,T.fz,rfl,_,_,_,rfl,ey,rfl,_,rfl,_,_,_,_,rfl,rfl,hb,rfl,_,rfl,_,_,_,_,_,_,_,_,_,_,_,_,rfl,eT,hs,λv5 H5 s5 r=>?_⟩)⟩
  cases hL:fY p q f b1 b2 b3 b4 mk.1.1 mk.1.2 c with
  |none =>
   rw[hL]at r k
   have r:v5=.non:=r
   subst r
   have k:∀v' H',aE H H'->nF K none H' v'->Q v' H':=k
   exact⟨_,O,O,_,O,rdD rfl (k _ _ s5 rfl)⟩
  |some kwu =>
   obtain⟨kd,w3,u3⟩:=kwu
   rw[hL]at r k
   obtain⟨a,b2,rfl,ha,hb2⟩:=r
   have k:∀v' H',aE H H'->nF K (match i9 ts mk.2 kd (sg c) with|none=>none|some n=>some ((w3,u3),n)) H' v'->Q v' H':=k
   have Ws:=s5 _ _ em
   have el5:=s5 _ _ el
   have tp5:=bY s5 tp
   have hb5:=aA s5 hb
   refine⟨_,rfl,rfl,_,rfl,DF (λz=>nomatch z) ?_⟩
   refine⟨_,O,_,_,_,_,_,O,Ws,T.cg,T.cu,O,_,O,_,_,_,_,O,O,hb5,O,_,O,_,_,_,_,O,O,ha,O,_,O,l,ys,ts,mk.2,kd,sg c,O,el5,tp5,λH6 s6=>?_⟩
   have s56:=s5.trans s6
   cases hC:i9 ts mk.2 kd (sg c) with
   |none =>
    rw[hC]at k
    exact⟨_,O,O,_,O,rdD rfl (k _ _ s56 rfl)⟩
   |some n =>
    rw[hC]at k
    refine⟨_,rfl,rfl,_,rfl,DF (λz=>nomatch z) ⟨_,rfl,_,_,_,_,rfl,rfl,aA s6 ha,rfl,_,rfl,(by show 2<=sizeLine;decide),λt ht=>?_⟩⟩
    exact k _ _ (s56.trans (ao ht)) ⟨t,b2,rfl,aX.of ai,aA (s6.trans (ao ht)) hb2⟩
inductive iY(K:W.Frag)(C CT CM:Addr)(vs:List V)(H:Hp)(Q:VK)(E_:XK):Prop where
 |mk (m:Addr) (v:V) (o:Option aW) (ts:List (Str×Str)) (p q f:Str) (b1 b2 b3 b4:Bool):(vs=[.ref m,v])->(oN K C CT CM H m p q f b1 b2 b3 b4 ts)->(fL K H o v)->(∀H',aE H H'->Q (.bl (decide (o=some ((Str.ofString "row",'d'),ts.length)))) H')->iY K C CT CM vs H Q E_
theorem pM:zzz T dQ 1 36 ["self","mark"] (iY K (av 70) (av 71) (av 72)):=by
 refine T.ja.ok iO 'e' 'a'
 ·obtain⟨m,v,o,ts,p,q,f,b1,b2,b3,b4,rfl,_⟩:=h;rfl
 ·have hu:=aS hr
  obtain⟨m,v,o,ts,p,q,f,b1,b2,b3,b4,rfl,hM,hv,k⟩:=h
  have gw:=hr.units
  obtain⟨dm,y,l,ys,em,eT,el,tp⟩:=hM.ok
  have tl:=tp.length
  refine⟨_,(ak (ay (DI (YR (YM _ _ K) rfl (hn1 gw)) (pv 1) (aH (af (eG rfl T.gc) (af (iz (aU K rfl) T.bR (af 'h' ah)) ah)))))),?_⟩
  refine⟨_,O,_,O,_,_,_,_,_,O,em,T.cg,T.cu,O,_,_,O,.inl (aT.of el),(by show(2:Nat)<=sizeLine;decide),λt ht=>?_⟩
  (have st:=ao (o:=HO.tup [V.ref (av 87),V.int ↑ys.length]) ht;have g1:=ai (H:=H) (a:=t) (o:=HO.tup [V.ref (av 87),V.int ↑ys.length]);generalize upd H t (HO.tup [V.ref (av 87),V.int ↑ys.length])=H1 at st g1⊢)
  have e2:oX (YM _ _ K) H1 (cA ((Str.ofString "row",'d'),ts.length)) t:=iC (P:=P) (w:=w) (m:=((Str.ofString "row",'d'),ts.length)) (by rw[←tl];exact aX.of g1) (.inr T.gg)
  refine⟨t,_,O,e2,?_⟩
  cases o with
  |none =>
   have hv:v=.non:=hv
   subst hv
   exact .inl ⟨rfl,k _ st⟩
  |some mk =>
   obtain⟨b,s,rfl,hb,hs⟩:=hv
   have e1:oX (YM _ _ K) H1 (cA mk) b:=iC (P:=P) (w:=w) (aA st hb) (aA st hs)
   refine .inr ⟨b,_,rfl,e1,?_⟩
   have ed:decide (cA mk=cA ((Str.ofString "row",'d'),ts.length))=decide (some mk=some ((Str.ofString "row",'d'),ts.length)):=by rw[aeS,aeO,aeO,Option.some_inj];exact nV
   rw[ed]
   exact k _ st
inductive rU(K:W.Frag)(vs:List V)(H:Hp)(Q:VK)(E_:XK):Prop where
 |mk (l:Addr) (os:List V):(vs=[.ref l])->(H l=some (.lst os))->(os.length<=1000)->(∀v H',aE H H'->dD K H' (gF os.length) v->Q v H')->rU K vs H Q E_
theorem rV:zzz T dQ 1 37 ["others"] (rU K):=by
 refine T.nI.ok Ck 'e' 'a'
 ·obtain⟨l,os,rfl,_⟩:=h;rfl
 ·have hu:=aS hr
  obtain⟨l,os,rfl,hl,hn,k⟩:=h
  refine⟨_,(ak (ay (aH (af (eG rfl T.gc) (af aq (af (pcy (qG K rfl) T.lG (af (cK rfl (show aZ ["others"] (au jw) ["other"] 1 [] _ from DA) (bH K rfl (pv 0)) (λ_ _ _ _=>(ji 0 O3)) (λ_ _ _ _=>cB) (λ_ _ _ _=>(aH (af (eG rfl T.gc) (af aq ah))))) ah)) ah)))))),?_⟩
  refine⟨_,O,_,O,⟨_,aT.of hl⟩,λD hD=>?_⟩
  refine cL (K:=K) (a:=l) (xs:=os) (λi vs τ J=>(∃v,τ=[v])/\aE H J/\J D=some (.lst vs)/\vs.length=i/\Paired (fL K J) (List.replicate i (some stM)) vs) ⟨⟨_,rfl⟩,ao hD,ai,rfl,.nil⟩ (λi vs τ J _ p=>⟨aT.of (p.2.1 _ _ hl),p.2.2.1⟩) ?_ ?_
  ·rintro i e vs τ J hi ⟨⟨v,rfl⟩,sJ,hJ,hvl,pr⟩
   have hil:i<os.length:=(ad8.mp hi).1
   refine qu ⟨(by show 2<=sizeLine;decide),λt ht=>?_⟩
   have st:=ao (o:=HO.tup [.ref (av 87),.int 0]) ht
   have ZL:=st _ _ hJ
   refine⟨ZL,aem (show vs.length<=1000 by omega) 'c',⟨_,O⟩,aM hD (sJ.trans st),ai,(by rw[aef];show vs.length+1=_;omega),?_⟩
   rw[afJ]
   exact bM (n8 ZL (jn st pr)) (n8 ZL (.cons ⟨t,(av 87),rfl,aX.of ai,.inr T.gg⟩ .nil))
  rintro vs τ J ⟨⟨v,rfl⟩,sJ,hJ,hvl,pr⟩
  refine⟨D,vs,O,.inl ⟨aT.of hJ,λu hu=>⟨(by show 3<=sizeLine;decide),λt ht=>?_⟩⟩⟩
  have s1:=ao (o:=HO.tup vs) hu
  have s2:=ao (o:=HO.tup [.ref (av 87),.int 0,.ref u]) ht
  exact k _ _ (sJ.trans (s1.trans s2)) ⟨t,(av 87),u,vs,rfl,aX.of ai,.inr T.gg,aX.of (s2 _ _ ai),jn (s1.trans s2) pr⟩
inductive qg(K:W.Frag)(C CT CM CP:Addr)(vs:List V)(H:Hp)(Q:VK)(E_:XK):Prop where
 |mk (y:Addr) (v:V) (m:dM) (x:cD) (cs:List cD) (ts:List (Str×Str)) (z:Str):(vs=[.ref y,v])->(B7 K C CT CM CP H y x cs ts z)->(dD K H m v)->(cs.length=m.2.length)->(cs.length<=1000)->(z.length<=1000)->(∀l vs H',H l=none->H' l=some (.lst vs)->Ai K H' vs (d9 x cs ts z m)->aE H H'->Q (.ref l) H')->qg K C CT CM CP vs H Q E_
theorem qh:zzz T dQ 6 38 ["self","place"] (qg K (av 70) (av 71) (av 72) (av 73)):=by
 have dG:=qx T
 refine T.Cw.ok fj 'e' 'a'
 ·obtain⟨y,v,m,x,cs,ts,z,rfl,_⟩:=h;rfl
 ·have hu:=aS hr
  obtain⟨y,v,m,x,cs,ts,z,rfl,hP,hv,hcl,hcn,Fz,k⟩:=h
  obtain⟨dy,mm,lm,ms,ey,eM,elm,eMs⟩:=hP.ok
  obtain⟨b,s,u,vs,rfl,hb,hs,hu,ho⟩:=hv
  refine⟨_,(aj (cP 2 fj.nd (bL ah))
   (aj (c9 aeF rfl (oW 'h') (ji 3 fj.nd)
   (aj (cP 4 fj.nd (dw (k:=5) 'h' T.cg T.f7 dG (hr.mono 'c') T.f6 .nil cO (af (vE (Gn K rfl) (pv 1) Ba (Bb aq)) (af (pv 3) ah))))
   (ak (aP (eH mj (pv 4) bf) (aj (NG (i:=5) rfl fj.nd rfl rfl (show aZ ["self","place","found","sign","mark","marks"] (au iG) ["marker","other","sign"] 2 [3] _ from DA) (xY K rfl rfl T.Hi (af 'h' (af (d8 K (pv 1) aq) ah))) (λ_ _ _ _=>(mq K rfl 2 rfl (cN (ji 0 (show(["marker","other","sign"]:List Str).Nodup by decide +kernel)) (cN (ji 1 (show(["marker","other","sign"]:List Str).Nodup by decide +kernel)) mh)))) (λ_ _ _ _=>cB) (λ_ _ _ _=>(dw (k:=5) (pv 0) T.cg T.f7 dG (hr.mono 'c') T.f6 .nil cO (af (pv 1) (af (pv 2) ah)))))
   (ak (cH (cT K rfl aeE aeL aeM cI (pv 2) (af (aH (af (pv 3) (af (aR (RJ K rfl) (pv 4) (aH (af (pcy (qG K rfl) T.lG (af (pv 5) ah)) ah))) ah))) ah))))) aC))))
   (ak (ay (pv 2))))),?_⟩
  have YN:=ho.length
  have hml:=eMs.length
  refine⟨'c',λl hl=>⟨_,O,_,_,_,_,_,O,ao hl _ _ ey,T.dj,T.iS,O,_,O,?_⟩⟩
  refine vF (λi σ J=>∃us v1 v2 v3,σ=[some (.ref y),some (.ref b),some (.ref l),v1,v2,v3]/\aE H J/\J l=some (.lst us)/\us.length<=i/\Ai K J us ((z.cps.toList.take i).filterMap λc=>(tH x ts m.1 c).map λm'=>(c,(m',gY cs ts m.2 c)))) ⟨[],none,none,none,rfl,ao hl,ai,ad6 _,.nil⟩ ?_ ?_
  ·rintro i c σ J hi ⟨us,v1,v2,v3,rfl,sJ,hJ,hul,ld⟩
   rw[aO hi,List.filterMap_append]
   have hil:i<z.cps.toList.length:=(ad8.mp hi).1
   rw[aeq]at hil
   have hil:i<z.length:=hil
   have eMJ:Jz K (av 70) (av 71) (av 72) J mm x ts:=oN.mono sJ eM
   obtain⟨dm,yt,lt,yts,em,eT,el,tp⟩:=eMJ.ok
   refine⟨_,O,_,_,_,_,_,O,sJ _ _ ey,T.dj,T.fm,O,_,_,_,O,em,O,_,O,_,O,_,_,O,aA sJ hb,(by show ¬(_/\(2:Nat)=3);omega),λpa hpa=>?_⟩
   have s1:=ao (o:=HO.tup [.ref s,.int (m.1.2:Int)]) hpa
   have q1:=ai (H:=J) (a:=pa) (o:=HO.tup [.ref s,.int (m.1.2:Int)])
   rw[show By [V.ref s,.int (m.1.2:Int),.ref u] none (some 2)=[.ref s,.int (m.1.2:Int)]from rfl]
   generalize upd J pa (HO.tup [.ref s,.int (m.1.2:Int)])=J1 at s1 q1⊢
   refine⟨_,O,mm,.ref pa,some m.1,c,ts,_,_,_,_,_,_,_,O,oN.mono s1 eMJ,⟨pa,s,O,aX.of q1,aA (sJ.trans s1) hs⟩,λv' J2 s2 hv'=>?_⟩
   have hv':fL K J2 (tH x ts m.1 c) v':=hv'
   have KS:=sJ.trans (s1.trans s2)
   have XD:=s2 _ _ (s1 _ _ hJ)
   cases hM:tH x ts m.1 c with
   |none =>
    rw[hM]at hv'
    have hv':v'=.non:=hv'
    subst hv'
    refine⟨_,O,O,_,O,rdN rfl ⟨us,_,_,_,O,KS,XD,by omega,?_⟩⟩
    rw[afx,hM]
    simpa using sV (s1.trans s2) ld
   |some m' =>
    rw[hM]at hv'
    obtain⟨b3,s3,rfl,q3,q4⟩:=hv'
    refine⟨_,rfl,rfl,_,rfl,YA (λz=>nomatch z) ?_⟩
    refine⟨_,O,_,_,_,_,_,O,KS _ _ ey,T.dj,T.dZ,O,_,O,_,_,_,_,O,O,aA KS hb,O,lm,u,O,⟨_,aT.of (KS _ _ elm)⟩,⟨_,aA KS hu⟩,λD hD=>?_⟩
    refine uP (K:=K) (a:=lm) (b:=u) (xs:=ms) (ys:=vs) (λj ws τ G=>(∃v w,τ=[v,w,some (.str (sg c))])/\aE J2 G/\G D=some (.lst ws)/\Paired (fL K G) (((cs.zip m.2).take j).map λp=>Jy p.1 ts p.2 c) ws) ⟨⟨_,_,rfl⟩,ao hD,ai,.nil⟩ (λj ws τ G _ p=>⟨aT.of (p.2.1 _ _ (KS _ _ elm)),aA (KS.trans p.2.1) hu,p.2.2.1⟩) ?_ ?_
    ·rintro j e w' t ws τ G hj hw ht ⟨⟨u1,u2,rfl⟩,sG,hG,pr⟩
     obtain⟨x',hx',ma,rfl,hma⟩:=aN eMs j e hj
     obtain⟨o,hoi,hoa⟩:=jC ho j w' hw
     have st:=ao (o:=HO.tup [.ref ma,w']) ht
     have sT:=(KS.trans sG).trans st
     have Uv:Jz K (av 70) (av 71) (av 72) _ ma x' ts:=oN.mono sT hma
     obtain⟨dm',y',l',ys',Px,_⟩:=Uv.ok
     refine⟨t,_,O,aX.of ai,O,_,_,O,_,_,O,O,?_⟩
     dsimp only[RA]
     rw[aee rfl]
     refine⟨_,O,_,_,_,O,Px,O,_,O,_,O,ma,w',o,c,ts,_,_,_,_,_,_,_,O,Uv,vY sT hoa,λv2 G2 s2' hv2=>?_⟩
     have hG2:=s2' _ _ (st _ _ hG)
     have hjl:j<ms.length:=(ad8.mp hj).1
     have hpl:=pr.length
     rw[aec,aey]at hpl
     refine⟨hG2,aem (show ws.length<=1000 by omega) 'c',⟨_,_,O⟩,aM hD (sG.trans (st.trans s2')),ai,?_⟩
     have hz:(cs.zip m.2)[j]?=some (x',o):=by rw[List.getElem?_zip_eq_some];exact⟨hx',hoi⟩
     rw[aO hz,aeo]
     exact bM (n8 hG2 (jn (st.trans s2') pr)) (n8 hG2 (.cons hv2 .nil))
    rintro ws τ G ⟨⟨u1,u2,rfl⟩,sG,hG,pr⟩
    rw[aek (by rw[List.length_zip];omega)]at pr
    have pr:Paired (fL K G) (gY cs ts m.2 c) ws:=pr
    have hJG:=sG _ _ XD
    have q3G:=aA sG q3
    dsimp only[bF]
    refine⟨_,O,.inl ⟨O,⟨_,aT.of hJG⟩⟩,_,O,_,O,_,O,_,_,O,.inl (⟨aT.of hG,λtu htu=>⟨(by show 1<=sizeLine;decide),λt1 ht1=>?_⟩⟩)⟩
    have f1:=ao (o:=HO.tup ws) htu
    have f2:=ao (o:=HO.tup [.ref tu]) ht1
    have w1:=f2 _ _ (ai (H:=G) (a:=tu) (o:=HO.tup ws))
    have w2:=ai (H:=upd G tu (HO.tup ws)) (a:=t1) (o:=HO.tup [.ref tu])
    have f12:=f1.trans f2
    generalize upd (upd G tu (HO.tup ws)) t1 (HO.tup [.ref tu])=G1 at w1 w2 f12⊢
    refine⟨b3,t1,_,_,O,O,aA f12 q3G,aX.of w2,(by simp),(by show 3<=sizeLine;decide),(λz=>by cases z),λ_ p3 hp3=>⟨(by show 2<=sizeLine;decide),λp4 hp4=>?_⟩⟩
    have f3:=ao (o:=HO.tup [.ref s3,.int (m'.2:Int),.ref tu]) hp3
    have f4:=ao (o:=HO.tup [.str (sg c),.ref p3]) hp4
    have w3:=f4 _ _ (ai (H:=G1) (a:=p3) (o:=HO.tup [.ref s3,.int (m'.2:Int),.ref tu]))
    have w4:=ai (H:=upd G1 p3 (HO.tup [.ref s3,.int (m'.2:Int),.ref tu])) (a:=p4) (o:=HO.tup [.str (sg c),.ref p3])
    have f14:=f12.trans (f3.trans f4)
    have w14:=(f3.trans f4) _ _ w1
    have hl4:=f14 _ _ hJG
    have hpl:dD K (upd (upd G1 p3 (HO.tup [.ref s3,.int (m'.2:Int),.ref tu])) p4 (HO.tup [.str (sg c),.ref p3])) (m',gY cs ts m.2 c) (.ref p3):=⟨p3,s3,tu,ws,rfl,aX.of w3,aA (sG.trans f14) q4,aX.of w14,jn f14 pr⟩
    refine⟨l,us,_,O,O,hl4,(aem (show us.length<=1000 by omega) 'c'),_,_,_,_,O,aM hl (KS.trans (sG.trans f14)),ai,(by rw[aef];show us.length+1<=_;omega),?_⟩
    rw[afx,hM]
    exact bM (wc hl4 (sV (s1.trans (s2.trans (sG.trans f14))) ld)) (wc hl4 (.cons ⟨p4,.ref p3,rfl,w4,hpl⟩ .nil))
  ·rintro σ J ⟨us,v1,v2,v3,rfl,sJ,hJ,hul,ld⟩
   rw[aek (ad6 _)]at ld
   exact⟨_,O,k l us J hl hJ ld sJ⟩
inductive mY(K:W.Frag)(C CT CM CP:Addr)(vs:List V)(H:Hp)(Q:VK)(E_:XK):Prop where
 |mk (y:Addr) (v:V) (m:dM) (x:cD) (cs:List cD) (ts:List (Str×Str)) (z:Str):(vs=[.ref y,v])->(B7 K C CT CM CP H y x cs ts z)->(dD K H m v)->(cs.length=m.2.length)->(cs.length<=1000)->(∀H',aE H H'->Q (.bl (gO ts m)) H')->mY K C CT CM CP vs H Q E_
theorem mZ:zzz T dQ 2 39 ["self","place"] (mY K (av 70) (av 71) (av 72) (av 73)):=by
 have c6:=pM T
 refine T.yF.ok wo 'e' 'a'
 ·obtain⟨y,v,m,x,cs,ts,z,rfl,_⟩:=h;rfl
 ·have hu:=aS hr
  obtain⟨y,v,m,x,cs,ts,z,rfl,hP,hv,hcl,hcn,k⟩:=h
  obtain⟨dy,mm,lm,ms,ey,eM,elm,eMs⟩:=hP.ok
  obtain⟨b,s,u,vs,rfl,hb,hs,hu,ho⟩:=hv
  obtain⟨dm,yt,lt,yts,em,eT,el,tp⟩:=eM.ok
  refine⟨_,(aj (aP (bT (bD (dw (k:=1) 'h' T.cg T.fH c6 (hr.mono 'c') T.fG .nil cO (af (vE (Gn K rfl) (pv 1) Ba (Bb aq)) ah)))) (ak (ay fJ)) aC)
   (ak (ay (Q9 (iz (EI K rfl rfl) T.Um (af (cK rfl (show aZ ["self","place"] (au gj) ["marker","mark"] 2 [] _ from DA) (xY K rfl rfl T.Hi (af 'h' (af (d8 K (pv 1) aq) ah))) (λ_ _ _ _=>(mq K rfl 2 rfl (cN (ji 0 (show(["marker","mark"]:List Str).Nodup by decide +kernel)) (cN (ji 1 (show(["marker","mark"]:List Str).Nodup by decide +kernel)) mh)))) (λ_ _ _ _=>cB) (λ_ _ _ _=>(dw (k:=1) (pv 0) T.cg T.fH c6 (hr.mono 'c') T.fG .nil cO (af (pv 1) ah)))) ah)))))),?_⟩
  refine⟨_,O,_,_,_,_,_,O,ey,T.dj,T.fm,O,_,_,_,O,em,O,_,O,_,O,_,_,O,hb,(by show ¬(_/\(2:Nat)=3);omega),λpa hpa=>?_⟩
  have s1:=ao (o:=HO.tup [.ref s,.int (m.1.2:Int)]) hpa
  have q1:=ai (H:=H) (a:=pa) (o:=HO.tup [.ref s,.int (m.1.2:Int)])
  rw[show By [V.ref s,.int (m.1.2:Int),.ref u] none (some 2)=[.ref s,.int (m.1.2:Int)]from rfl]
  generalize upd H pa (HO.tup [.ref s,.int (m.1.2:Int)])=H1 at s1 q1⊢
  refine⟨mm,.ref pa,some m.1,ts,_,_,_,_,_,_,_,O,oN.mono s1 eM,⟨pa,s,O,aX.of q1,aA s1 hs⟩,λH2 s2=>?_⟩
  have s12:=s1.trans s2
  by_cases hd:m.1=vZ ts
  rotate_left
  ·rw[show decide (some m.1=some ((Str.ofString "row",'d'),ts.length))=false from aeg λz=>hd (aes z)]
   refine⟨_,O,i7 ?_⟩
   rw[show gO ts m=false by unfold gO;rw[aeg hd];rfl]at k
   exact k _ s12
  rw[show decide (some m.1=some ((Str.ofString "row",'d'),ts.length))=true from aeb (congrArg some hd)]
  refine⟨_,O,dh ?_⟩
  have YN:=ho.length
  have hml:=eMs.length
  refine⟨_,O,_,_,_,_,_,O,s12 _ _ ey,T.dj,T.dZ,O,_,O,_,_,_,_,O,O,aA s12 hb,O,lm,u,O,⟨_,aT.of (s12 _ _ elm)⟩,⟨_,aA s12 hu⟩,λD hD=>?_⟩
  refine uP (K:=K) (a:=lm) (b:=u) (xs:=ms) (ys:=vs) (λi us τ J=>(∃v w,τ=[v,w])/\aE H2 J/\J D=some (.lst us)/\us=(m.2.take i).map λo=>V.bl (decide (o=some (vZ ts)))) ⟨⟨_,_,rfl⟩,ao hD,ai,rfl⟩ (λi us τ J _ p=>⟨aT.of (p.2.1 _ _ (s12 _ _ elm)),aA (s12.trans p.2.1) hu,p.2.2.1⟩) ?_ ?_
  ·rintro i e w' t us τ J hi hw ht ⟨⟨v1,v2,rfl⟩,sJ,hJ,hus⟩
   obtain⟨x',hx',ma,rfl,hma⟩:=aN eMs i e hi
   obtain⟨o,hoi,hoa⟩:=jC ho i w' hw
   have st:=ao (o:=HO.tup [.ref ma,w']) ht
   have sT:=(s12.trans sJ).trans st
   have Uv:Jz K (av 70) (av 71) (av 72) _ ma x' ts:=oN.mono sT hma
   obtain⟨dm',y',l',ys',Px,_⟩:=Uv.ok
   refine⟨t,_,O,aX.of ai,O,_,_,O,_,_,O,O,?_⟩
   dsimp only[RA]
   rw[aee rfl]
   refine⟨_,O,_,_,_,O,Px,O,_,O,ma,w',o,ts,_,_,_,_,_,_,_,O,Uv,vY sT hoa,λJ2 s2=>?_⟩
   have XD:=s2 _ _ (st _ _ hJ)
   have hil:i<ms.length:=(ad8.mp hi).1
   have hul:us.length<=i:=by rw[hus,aec,aey];omega
   refine⟨XD,aem (show us.length<=1000 by omega) 'c',⟨_,_,O⟩,aM hD (sJ.trans (st.trans s2)),ai,?_⟩
   rw[aO hoi,aeo,←hus]
   rfl
  rintro us τ J ⟨⟨v1,v2,rfl⟩,sJ,hJ,hus⟩
  rw[aek 'f']at hus
  refine⟨D,m.2.map (λo=>decide (o=some (vZ ts))),O,?_,_,O,?_⟩
  ·rw[List.map_map]
   rw[hus]at hJ
   exact aT.of hJ
  have hg:(!(m.2.map (λo=>decide (o=some (vZ ts)))).any id)=gO ts m:=by unfold gO;rw[aeb hd,List.any_map];rfl
  rw[hg]
  exact k _ (s12.trans sJ)
inductive FD(P:Program)(w:World)(K:W.Frag)(C CT CM CP:Addr)(vs:List V)(H:Hp)(Q:VK)(E_:XK):Prop where
 |mk (qa:Addr) (v:V) (n:Nat) (p0:dM) (x:cD) (cs:List cD) (ts:List (Str×Str)) (z:Str):(vs=[v,.ref qa,.int n])->(B7 K C CT CM CP H qa x cs ts z)->(dD K H p0 v)->(p0.2.length=cs.length)->(cs.length<=1000)->(z.length<=1000)->(n<=4000)->(∀t rv r a cm H',H a=none->H' t=some (.tup [rv,.ref a])->acF K r H' rv->iN P w K H' a cm->Ca (gO ts) (d9 x cs ts z) (some n) [(p0,none)] [p0] r cm->aE H H'->Q (.ref t) H')->FD P w K C CT CM CP vs H Q E_
theorem Py:zzz T dQ 7 40 ["first","searched","most"] (FD P w K (av 70) (av 71) (av 72) (av 73)):=by
 have ju:=mZ T
 have lQ:=qh T
 refine T.wD.ok bZ 'e' 'a'
 ·obtain⟨qa,v,n,p0,x,cs,ts,z,rfl,_⟩:=h;rfl
 ·have hu:=aS hr
  have eo:=hr.aK
  obtain⟨qa,v,n,p0,x,cs,ts,z,rfl,hW,hv,hp0,hcl,Fz,hn4,k⟩:=h
  have gw:=hr.units
  obtain⟨b,rfl⟩:=jy hv
  refine⟨_,(aj (cP 3 bZ.nd (EK (YP P w K) (aY P w) rfl rfl rfl (hp1 gw) (pv 0) bf))
   (aj (cP 4 bZ.nd (bL (af (pv 0) ah)))
   (aj (vv aeF (eH (NJ K rfl eo) (pv 4) (bL ah))
   (aj (c9 aeF rfl (bH K rfl (pv 4)) (ji 5 bZ.nd)
   (ak (aP (bD (dw (k:=2) (pv 1) T.dj T.ou ju (hr.mono 'c') T.oq .nil cO (af (pv 5) ah))) (ak (ay (aH (af (pv 5) (af (pv 3) ah))))) aC)))
   (aj (aP (PW.pt (nj (eH mj (pv 2) bf) (jv (eH qD (iz (ER (YP P w K) (aY P w) rfl rfl rfl) T.bR (af (pv 3) ah)) (pv 2))))) (ak (ay (aH (af bf (af (pv 3) ah))))) aC)
   (aj (cP 6 bZ.nd (bL ah))
   (aj (c9 aeF rfl (bH K rfl (pv 4)) (ji 5 bZ.nd)
   (ak (c9 aeF rfl (bH K rfl (dw (k:=6) (pv 1) T.dj T.rH lQ (hr.mono 'c') T.rG .nil cO (af (pv 5) ah))) (ji 7 bZ.nd)
   (ak (aP (KW (uO (YP P w K) (aY P w) rfl rfl rfl (hp2 gw) (d8 K (pv 7) aq) (pv 3))) (aj (BG (YP P w K) (aY P w) rfl rfl rfl (hp2 gw) (pv 3) (d8 K (pv 7) aq) (aH (af (pv 5) (af (d8 K (pv 7) aq) ah))) rfl)
   (ak (cH (cT K rfl aeE aeL aeM cI (pv 6) (af (d8 K (pv 7) aq) ah))))) aC)))))
   (ak (cP 4 bZ.nd (pv 6))))))))
   (ak (ay (aH (af bf (af (pv 3) ah)))))))),?_⟩
  refine kK λRk hk=>?_
  refine λa ha=>?_
  have sA:=ao (o:=dN (ZP P w) (aY P w) a []) ha
  refine⟨_,O,bE p0,b,O,ai,jx (cy sA hv),?_⟩
  have c1:iN P w K (upd (upd H a (dN (ZP P w) (aY P w) a [])) a (dN (ZP P w) (aY P w) a [(bE p0,b,.non)])) a [(p0,none)]:=iN.one ai (cy sA hv)
  have s1:aE H (upd (upd H a (dN (ZP P w) (aY P w) a [])) a (dN (ZP P w) (aY P w) a [(bE p0,b,.non)])):=aM ha sA
  generalize upd (upd H a (dN (ZP P w) (aY P w) a [])) a (dN (ZP P w) (aY P w) a [(bE p0,b,.non)])=H1 at c1 s1⊢
  refine hk _ _ _ (kK λRk hk=>?_)
  refine⟨_,O,(by show 1<=sizeLine;decide),λl0 uR=>?_⟩
  have s2:=ao (o:=HO.lst [.ref b]) uR
  have g2:=ai (H:=H1) (a:=l0) (o:=HO.lst [.ref b])
  generalize upd H1 l0 (.lst [.ref b])=H2 at s2 g2⊢
  have s12:=s1.trans s2
  dsimp only[bF]
  refine hk _ _ _ (kK λRk hk=>?_)
  refine⟨λnn σ J=>∃l vs aJ cm v5 v6 v7,σ=[some (.ref b),some (.ref qa),some (.int n),some (.ref a),some (.ref l),v5,v6,v7]/\aE H J/\J l=some (.lst vs)/\wm K J vs aJ/\iN P w K J a cm/\aJ.length<=cm.length/\(∀m∈aJ,m.2.length=cs.length)/\(∀r sR,Ca (gO ts) (d9 x cs ts z) (some n) cm aJ r sR->Ca (gO ts) (d9 x cs ts z) (some n) [(p0,none)] [p0] r sR)/\nn=2*(n+1-cm.length)+(if aJ=[] then 0 else 1),⟨_,l0,_,[p0],_,_,_,_,O,s12,g2,.cons (cy s12 hv) .nil,c1.mono s2,(by simp),(λm hm=>by rw[ad7.mp hm];exact hp0),λr sR q=>q,O⟩,?_⟩
  rintro nn σ J ⟨l,vs,aJ,cm,v5,v6,v7,rfl,sJ,hl,em,ca,iu,eU,hR,hn⟩
  refine⟨_,O,'c',λe he=>⟨_,_,_,O,O,aT.of (ao he _ _ hl),aT.of ai,_,O,?_⟩⟩
  have se:=ao (o:=HO.lst []) he
  replace sJ:=sJ.trans se
  replace hl:=se _ _ hl
  replace em:=em.keep λb xs q=>aA se q
  replace ca:=ca.mono se
  generalize upd J e (.lst [])=J1 at sJ hl em ca⊢
  clear se he
  cases em with
  |nil =>
   refine dh (hk _ _ _ ⟨_,rfl,(by show 2<=sizeLine;decide),λt ht=>?_⟩)
   exact k t .non none a cm _ ha ai rfl (ca.mono (ao ht)) (hR _ _ .stop) (sJ.trans (ao ht))
  |@cons v1 e1 vs aJ h1 em =>
  have em:wm K J1 (v1::vs) (e1::aJ):=.cons h1 em
  have hne:e1::aJ≠[]:=λq=>nomatch q
  refine i7 ?_
  generalize e1::aJ=aJ at em hne hn hR eU iu
  generalize v1::vs=vs at em hl
  rw[ad5 hne]at hn
  refine⟨λσ G=>∃l vs v5 v6 v7,σ=[some (.ref b),some (.ref qa),some (.int n),some (.ref a),some (.ref l),v5,v6,v7]/\aJ.find? (gO ts)=none/\cm.length<=n/\aE H G/\G l=some (.lst vs)/\wm K G vs (fQ (d9 x cs ts z) cm aJ).2/\iN P w K G a (fQ (d9 x cs ts z) cm aJ).1/\∀m∈(fQ (d9 x cs ts z) cm aJ).2,m.2.length=cs.length,?_,?_⟩
  ·rintro σ G ⟨l,vs,v5,v6,v7,rfl,hf,hmo,sG,hl,em,ca,eU'⟩
   refine⟨_,?_,l,vs,_,_,v5,v6,v7,rfl,sG,hl,em,ca,(by have q:=oi (led:=d9 x cs ts z) aJ (cm,[]);simp only[afp,afZ]at q;unfold fQ;omega),eU',λr sR q=>hR r sR (.go hne hf (λn' e=>by cases e;exact hmo) q),rfl⟩
   have e1:=oi (led:=d9 x cs ts z) aJ (cm,[])
   unfold fQ
   rw[hn]
   simp only[afp,afZ]at e1
   by_cases q:(aJ.foldl (lX (d9 x cs ts z)) (cm,[])).2=[]
   ·rw[aee q];rw[q,afp]at e1;omega
   ·rw[ad5 q]
    have:=af1.mpr q
    omega
  refine kK λR2 hk2=>?_
  refine⟨_,O,l,O,⟨_,aT.of hl⟩,?_⟩
  refine iA (K:=K) (a:=l) (xs:=vs) (λi σ G=>aE J1 G/\(∀m∈aJ.take i,gO ts m=false)/\∃v5,σ=[some (.ref b),some (.ref qa),some (.int n),some (.ref a),some (.ref l),v5,v6,v7]) ⟨aE.refl _,(λm hm=>nomatch hm),_,rfl⟩ (λi σ G _ q=>aT.of (q.1 _ _ hl)) ?_ ?_
  ·rintro i e2 σ G hi ⟨sG,hno,ZN,rfl⟩
   obtain⟨m,hm,hv⟩:=aN em i e2 hi
   have Hs:=cy sG hv
   have Uw:=hW.mono (sJ.trans sG)
   obtain⟨dx,mm,ll,ys,ex,eM,el,tp⟩:=Uw.ok
   obtain⟨bx,rfl⟩:=jy Hs
   dsimp only[bF]
   refine⟨_,O,_,_,_,O,ex,O,_,O,qa,.ref bx,m,x,cs,ts,z,O,Uw,Hs,(eU m (aen hm)).symm,hcl,λG2 s2=>⟨_,O,?_⟩⟩
   by_cases hg:gO ts m=true
   ·refine mE hg ⟨_,rfl,_,rfl,(by show 2<=sizeLine;decide),λt ht=>?_⟩
    have st:=(sG.trans s2).trans (ao (o:=HO.tup [.ref bx,.ref a]) ht)
    exact k t _ (some m) a cm _ ha ai (cy st hv) (ca.mono st) (hR _ _ (.found (TN hm hg hno))) (sJ.trans st)
   ·refine pT (qV hg) ⟨sG.trans s2,λm' hm'=>?_,_,rfl⟩
    rw[aO hm]at hm'
    rcases aej.mp hm' with z|z
    ·exact hno m' z
    ·rw[ad7.mp z];exact qV hg
  rintro σ G ⟨sG,hno,ZN,rfl⟩
  rw[em.length,aek (ad6 _)]at hno
  have hf:=TQ hno
  replace sJ:=sJ.trans sG
  replace hl:=sG _ _ hl
  replace em:=em.keep λb xs q=>aA sG q
  replace ca:=ca.mono sG
  clear sG
  dsimp only[bF]
  obtain⟨abw,nd0,cr0⟩:=ca.ok
  have kl0:=yo cr0
  refine hk2 _ _ _ (kK λR2 hk2=>?_)
  refine⟨_,rfl,rfl,_,rfl,YA (λz=>nomatch z) (⟨_,rfl,_,_,rfl,nd0,_,rfl,_,_,rfl,rfl,_,rfl,?_⟩)⟩
  by_cases hmo:cm.length<=n
  rotate_left
  ·refine mE (aeb (show(n:Int)<(abw.length:Int) by omega)) ⟨_,rfl,(by show 2<=sizeLine;decide),λt ht=>?_⟩
   exact k t .non none a cm _ ha ai rfl (ca.mono (ao ht)) (hR _ _ (.over rfl hne hf 'f')) (sJ.trans (ao ht))
  refine pT (aeg (show ¬(n:Int)<(abw.length:Int) by omega)) (hk2 _ _ _ (kK λR2 hk2=>⟨'c',λlf Pz=>hk2 _ _ _ (kK λR2 hk2=>⟨_,rfl,l,rfl,⟨_,aT.of (ao Pz _ _ hl)⟩,?_⟩)⟩))
  have sf:=ao (o:=HO.lst []) Pz
  have Ux:=ai (H:=G) (a:=lf) (o:=HO.lst [])
  have nlf:lf≠l:=λq=>by rw[q,hl]at Pz;cases Pz
  have flf:H lf=none:=sJ.free Pz
  replace sJ:=sJ.trans sf
  replace hl:=sf _ _ hl
  replace em:=em.keep λb xs q=>aA sf q
  replace ca:=ca.mono sf
  generalize upd G lf (.lst [])=G1 at sJ hl em ca Ux⊢
  clear sf Pz
  refine iA (K:=K) (a:=l) (xs:=vs) (λi σ J=>aE H J/\J l=some (.lst vs)/\wm K J vs aJ/\∃fv v5 v7,σ=[some (.ref b),some (.ref qa),some (.int n),some (.ref a),some (.ref l),v5,some (.ref lf),v7]/\J lf=some (.lst fv)/\wm K J fv ((aJ.take i).foldl (lX (d9 x cs ts z)) (cm,[])).2/\iN P w K J a ((aJ.take i).foldl (lX (d9 x cs ts z)) (cm,[])).1/\((aJ.take i).foldl (lX (d9 x cs ts z)) (cm,[])).1.length<=cm.length+i*1000/\∀m∈((aJ.take i).foldl (lX (d9 x cs ts z)) (cm,[])).2,m.2.length=cs.length) ⟨sJ,hl,em,[],_,_,rfl,Ux,.nil,ca,(by show cm.length<=cm.length+0*1000;omega),λm hm=>nomatch hm⟩ (λi σ J _ q=>aT.of q.2.1) ?_ ?_
  ·rintro i e2 σ J hi ⟨FF,hl',Px,fv,ZN,ZO,rfl,Wt,mf,Uy,PB,fU⟩
   obtain⟨m,hm,hv⟩:=aN Px i e2 hi
   have hmU:=eU m (aen hm)
   have hil:=(ad8.mp hm).1
   have J6:∀e∈d9 x cs ts z m,e.2.2.length=cs.length:=λe he=>TU hmU he
   have XE:=E5 (x:=x) (cs:=cs) (ts:=ts) (z:=z) (m:=m)
   have ef:(aJ.take (i+1)).foldl (lX (d9 x cs ts z)) (cm,[])=(d9 x cs ts z m).foldl (gZ m) ((aJ.take i).foldl (lX (d9 x cs ts z)) (cm,[])):=by rw[aO hm,aeN];rfl
   rw[ef]
   have hal:((aJ.take i).foldl (lX (d9 x cs ts z)) (cm,[])).2.length<=((aJ.take i).foldl (lX (d9 x cs ts z)) (cm,[])).1.length:=by
    have q:=oi (led:=d9 x cs ts z) (aJ.take i) (cm,[])
    simp only[afp,afZ]at q
    omega
   generalize (aJ.take i).foldl (lX (d9 x cs ts z)) (cm,[])=acc at mf Uy PB fU hal⊢
   have Uw:=hW.mono FF
   obtain⟨dx,mm,ll0,ys,ex,eM,el,tp⟩:=Uw.ok
   obtain⟨bx,rfl⟩:=jy hv
   dsimp only[bF]
   refine⟨_,O,_,_,_,O,ex,O,_,O,qa,.ref bx,m,x,cs,ts,z,O,Uw,hv,hmU.symm,hcl,Fz,λll us J2 PD Uu ld s2=>?_⟩
   have nll:ll≠lf:=λq=>by rw[q,Wt]at PD;cases PD
   have ca2:=Uy.mono s2
   refine⟨ll,O,⟨_,aT.of Uu⟩,?_⟩
   generalize hes:d9 x cs ts z m=es at ld J6 XE⊢
   refine iA (K:=K) (a:=ll) (xs:=us) (λj σ G=>aE H G/\G ll=some (.lst us)/\Ai K G us es/\G l=some (.lst vs)/\wm K G vs aJ/\dD K G m (.ref bx)/\∃fv v7,σ=[some (.ref b),some (.ref qa),some (.int n),some (.ref a),some (.ref l),some (.ref bx),some (.ref lf),v7]/\G lf=some (.lst fv)/\wm K G fv ((es.take j).foldl (gZ m) acc).2/\iN P w K G a ((es.take j).foldl (gZ m) acc).1/\((es.take j).foldl (gZ m) acc).1.length<=cm.length+i*1000+j/\∀m'∈((es.take j).foldl (gZ m) acc).2,m'.2.length=cs.length) ⟨FF.trans s2,Uu,ld,s2 _ _ hl',Px.keep (λb xs q=>aA s2 q),cy s2 hv,fv,_,rfl,s2 _ _ Wt,mf.keep (λb xs q=>aA s2 q),ca2,PB,fU⟩ (λj σ G _ q=>aT.of q.2.1) ?_ ?_
   ·rintro j e3 σ G hj ⟨sG,Mh,ldG,Wu,Wv,Hs,fv,ZO,rfl,Ww,PF,PK,Uz,PL⟩
    obtain⟨⟨c,m'⟩,IW,t3,w3,rfl,h3,UQ⟩:=aN ldG j e3 hj
    have Wx:=J6 _ (aen IW)
    have ev:(es.take (j+1)).foldl (gZ m) acc=gZ m ((es.take j).foldl (gZ m) acc) (c,m'):=by rw[aO IW,aeN];rfl
    rw[ev]
    have ZQ:((es.take j).foldl (gZ m) acc).2.length<=((es.take j).foldl (gZ m) acc).1.length:=by
     have q:=yk (p:=m) (es.take j) acc
     omega
    generalize (es.take j).foldl (gZ m) acc=ac at PF PK Uz PL ZQ⊢
    have hjl:=(ad8.mp IW).1
    obtain⟨kvs,d,cr⟩:=PK.ok
    have kl:=yo cr
    obtain⟨b3,rfl⟩:=jy UQ
    have ka:oX (YP P w K) G (bE m') b3:=jx UQ
    dsimp only[bF]
    refine⟨_,O,t3,_,_,_,O,O,aX.of h3,O,_,O,a,kvs,bE m',b3,O,O,d,ka,_,O,?_⟩
    rw[ym cr]
    cases hh:cX ac.1 m' with
    |true =>
     have e4:gZ m ac (c,m')=ac:=aee hh
     rw[e4]
     exact dh ⟨sG,Mh,ldG,Wu,Wv,Hs,fv,_,rfl,Ww,PF,PK,by omega,PL⟩
    |false =>
     have e4:gZ m ac (c,m')=(ac.1++[(m',some (m,c))],ac.2++[m']):=ad5 (by rw[hh];decide)
     rw[e4]
     refine i7 ?_
     refine⟨_,O,_,O,t3,_,_,_,O,O,aX.of h3,O,(by show 2<=sizeLine;decide),λt4 ht4=>?_⟩
     have s4:=ao (o:=HO.tup [.ref bx,.str (sg c)]) ht4
     have g4:=ai (H:=G) (a:=t4) (o:=HO.tup [.ref bx,.str (sg c)])
     generalize upd G t4 (.tup [.ref bx,.str (sg c)])=G4 at s4 g4⊢
     have d4:=d.mono s4
     have cr4:=cr.keep λb xs q=>aA s4 q
     have hm4:=cy s4 UQ
     have lk4:wk K (some (m,c)) G4 (.ref t4):=⟨t4,.ref bx,rfl,aX.of g4,cy s4 Hs⟩
     have c5:=iN.put d4 cr4 hm4 hh lk4
     have hkl:kvs.length<sizeLine:=aem (show kvs.length<=5000000 by omega) 'c'
     refine⟨_,O,_,O,t3,_,_,_,O,O,aX.of (s4 _ _ h3),O,a,kvs,bE m',b3,O,O,d4,oX.mono s4 ka,hkl,?_⟩
     have tq:=jK (F:=K) d4.ob (o:=dN (ZP P w) (aY P w) a (putN kvs (bE m') b3 (.ref t4)))
     have t1:∀b' xs,G4 b'=some (.tup xs)->(upd G4 a (dN (ZP P w) (aY P w) a (putN kvs (bE m') b3 (.ref t4)))) b'=some (.tup xs):=λb' xs e=>(az (dP e d4.ob (λq=>nomatch q))).trans e
     have tl:∀b' xs,G4 b'=some (.lst xs)->(upd G4 a (dN (ZP P w) (aY P w) a (putN kvs (bE m') b3 (.ref t4)))) b'=some (.lst xs):=λb' xs e=>(az (dP e d4.ob (λq=>nomatch q))).trans e
     have s5:aE H (upd G4 a (dN (ZP P w) (aY P w) a (putN kvs (bE m') b3 (.ref t4)))):=aM ha (sG.trans s4)
     have ll5:=tl _ _ (s4 _ _ Mh)
     have l5:=tl _ _ (s4 _ _ Wu)
     have Ht:=tl _ _ (s4 _ _ Ww)
     have ld5:=Ai.keep t1 tq (sV s4 ldG)
     have Ws:=(Wv.keep λb xs q=>aA s4 q).keep tq
     have ZR:=(PF.keep λb xs q=>aA s4 q).keep tq
     have hv5:=dD.keep tq (cy s4 Hs)
     have hm5:=hm4.keep tq
     have h35:=t1 _ _ (s4 _ _ h3)
     generalize upd G4 a (dN (ZP P w) (aY P w) a (putN kvs (bE m') b3 (.ref t4)))=G5 at c5 s5 ll5 l5 Ht ld5 Ws ZR hv5 hm5 h35⊢
     have fvl:=ZR.length
     refine⟨_,O,.inl ⟨O,_,aT.of Ht⟩,_,O,t3,_,_,_,O,O,aX.of h35,O,lf,_,_,O,O,Ht,?_,?_⟩
     ·exact aem (show fv.length<=5000000 by rw[fvl];omega) 'c'
     refine⟨aM flf s5,(az nll).trans ll5,wc Ht ld5,(az (afa nlf)).trans l5,Ws.keep (λb xs q=>fO Ht q),GL Ht hv5,fv++[.ref b3],_,O,ai,bM (ZR.keep λb xs q=>fO Ht q) (.cons (GL Ht hm5) .nil),c5.but Ht,(by rw[aef];show ac.1.length+1<=_;omega),λm1 hm1=>?_⟩
     rcases aej.mp hm1 with z|z
     ·exact PL m1 z
     ·rw[ad7.mp z];exact Wx
   ·rintro σ G ⟨sG,Mh,ldG,Wu,Wv,Hs,fv,ZO,rfl,Ww,PF,PK,Uz,PL⟩
    rw[ld.length,aek (ad6 _)]at PF PK Uz PL
    exact⟨sG,Wu,Wv,fv,_,_,O,Ww,PF,PK,by omega,PL⟩
  ·rintro σ J ⟨FF,hl',Px,fv,ZN,ZO,rfl,Wt,mf,Uy,PB,fU⟩
   rw[em.length,aek (ad6 _)]at mf Uy PB fU
   exact hk2 _ _ _ ⟨_,rfl,lf,fv,_,_,_,rfl,hf,hmo,FF,Wt,mf,Uy,fU⟩
inductive C7(P:Program)(w:World)(K:W.Frag)(vs:List V)(H:Hp)(Q:VK)(E_:XK):Prop where
 |mk (a:Addr) (v:V) (cm:(gT dM)) (m:dM) (x:Option (dM×Nat)) (xs:List Nat):(vs=[.ref a,v])->(iN P w K H a cm)->(dD K H m v)->(B8 cm m=some x)->(wg cm x xs)->(xs.length<=100000)->(∀H',aE H H'->Q (.str (Txt.join 'd' (xs.map sg).reverse)) H')->C7 P w K vs H Q E_
theorem Mi:zzz T dQ 1 41 ["came","place"] (C7 P w K):=by
 refine T.sZ.ok fZ 'e' 'a'
 ·obtain⟨a,v,cm,m,x,xs,rfl,_⟩:=h;rfl
 ·have hu:=aS hr
  obtain⟨a,v,cm,m,x,xs,rfl,hC,hm,hx,hp,hxl,k⟩:=h
  have gw:=hr.units
  obtain⟨b,rfl⟩:=jy hm
  refine⟨_,(aj (cP 2 fZ.nd (bL ah))
   (aj (cP 3 fZ.nd (vI (YP P w K) (aY P w) rfl rfl rfl (hp2 gw) (pv 0) (pv 1) (λ_ _=>rfl)))
   (aj (vv aeF (eH mj (pv 3) bf)
   (aj (cH (cT K rfl aeE aeL aeM cI (pv 2) (af (d8 K (pv 3) aq) ah)))
   (ak (cP 3 fZ.nd (vI (YP P w K) (aY P w) rfl rfl rfl (hp2 gw) (pv 0) (d8 K (pv 3) aq) (λ_ _=>rfl))))))
   (ak (ay (zw K rfl rfl rfl T.zN aB (af (pv 2) ah))))))),?_⟩
  refine⟨'c',λl hl=>⟨_,O,_,O,?_⟩⟩
  have s1:=ao (o:=HO.lst []) hl
  have hl1:=ai (H:=H) (a:=l) (o:=HO.lst [])
  generalize upd H l (.lst [])=H1 at s1 hl1⊢
  obtain⟨kvs,d,cr⟩:=(hC.mono s1).ok
  obtain⟨v,hv,lv⟩:=yp cr hx
  refine⟨a,kvs,bE m,b,v,O,O,d,jx (cy s1 hm),hv,?_⟩
  dsimp only[bF]
  refine⟨λn σ J=>∃done rest x v,σ=[some (.ref a),some (.ref b),some (.ref l),some v]/\aE H J/\J l=some (.lst ((done.map sg).map V.str))/\wk K x J v/\wg cm x rest/\xs=done++rest/\n=rest.length,⟨_,[],xs,x,v,O,s1,hl1,lv,hp,O,O⟩,?_⟩
  rintro n σ J ⟨done,rest,x,v,rfl,sJ,PM,lv,hp,hxs,hn⟩
  cases hp with
  |nil =>
   have lv:v=.non:=lv
   subst lv
   rw[aeD]at hxs
   subst hxs
   refine⟨_,O,O,_,O,pT rfl ?_⟩
   refine⟨_,O,_,O,l,xs.map sg,O,aT.of PM,?_,k J sJ⟩
   rw[GC,aec]
   show xs.length+xs.length*0<=_
   omega
  |@cons m1 c1 x1 r1 hx1 hp1 =>
   obtain⟨t,w1,rfl,ht,hw⟩:=lv
   refine⟨_,O,O,_,O,mE rfl ?_⟩
   refine⟨λσ J=>∃v,σ=[some (.ref a),some (.ref b),some (.ref l),some v]/\aE H J/\J l=some (.lst (((done++[c1]).map sg).map V.str))/\wk K x1 J v,?_,?_⟩
   ·rintro σ J' ⟨v,rfl,FF,hl',lv'⟩
    exact⟨_,by rw[hn];exact afX _,_,_,_,_,O,FF,hl',lv',hp1,by rw[hxs,aeC];rfl,O⟩
   have hdl:done.length<=100000:=by rw[hxs,aef]at hxl;omega
   refine⟨_,O,.inl ⟨O,_,aT.of PM⟩,_,O,t,_,_,_,O,O,ht,O,l,_,_,O,O,PM,?_,?_⟩
   ·exact aem (show((done.map sg).map V.str).length<=100000 by rw[aec,aec];exact hdl) 'c'
   have Wy:=fO (o:=HO.lst ((done.map sg).map V.str++[.str (sg c1)])) PM ht
   obtain⟨kvs,d,cr⟩:=((hC.mono sJ).but (o:=HO.lst ((done.map sg).map V.str++[.str (sg c1)])) PM).ok
   obtain⟨v,hv,lv⟩:=yp cr hx1
   have hw2:=dD.keep (λb xs q=>fO (o:=HO.lst ((done.map sg).map V.str++[.str (sg c1)])) PM q) hw
   obtain⟨b1,rfl⟩:=jy hw2
   refine⟨_,O,_,O,t,_,_,_,O,O,Wy,O,a,kvs,bE m1,b1,v,O,O,d,jx hw2,hv,?_⟩
   exact⟨v,O,aM hl sJ,by rw[aeo,aeo];exact ai,lv⟩
inductive rW(K:W.Frag)(vs:List V)(H:Hp)(Q:VK)(E_:XK):Prop where
 |mk (a o:Addr) (xs os:List V) (t:List (List Str)) (n:Nat):(vs=[.ref a,.ref o,.int n])->(H a=some (.lst xs))->(Paired (bX H) xs t)->(TabOk t)->((aD t).length<=24)->(H o=some (.lst os))->(os.length<=3)->(1<=n)->(n<=4000)->(∀H',aE H H'->Q .non H')->rW K vs H Q E_
theorem C8:zzz T dQ 8 42 ["table","others","most"] (rW K):=by
 have ve:=zQ T
 have gh:=ku T
 refine T.uc.ok Cn 'e' 'a'
 ·obtain⟨a,o,xs,os,t,n,rfl,_⟩:=h;rfl
 ·have hu:=aS hr
  obtain⟨a,o,xs,os,t,n,rfl,ha,pr,tok,t24,ho,o3,n1,n4,k⟩:=h
  refine⟨_,(aj (aP (eH qD (iz (aU K rfl) T.bR (af (e9 gh hr T.mQ T.jF.kp T.mP (af (pv 0) ah)) ah)) (mC rfl T.CL.choose_spec)) (ak gH) aC)
   (aj (aP (eH qD (iz (aU K rfl) T.bR (af (pv 1) ah)) (mC rfl T.CO.choose_spec)) (ak gH) aC)
   (ak (aP (bT (bD (e9 ve hr T.Cv T.u6.kp T.Cu (af (pv 2) (af aq (af (mC rfl T.CQ.choose_spec) ah)))))) (ak gH) aC)))),?_⟩
  refine⟨_,O,a,xs,t,O,ha,pr,tok,λl ys H1 uR hl tp s1=>?_⟩
  have tl:=tp.length
  refine⟨_,_,O,.inl (aT.of hl),_,_,O,O,_,O,DF 'f' (⟨_,O,_,_,O,.inl (aT.of (s1 _ _ ho)),_,_,O,O,_,O,DF 'f' (⟨_,O,_,_,_,O,_,O,rdN 'f' (k _ s1)⟩)⟩)⟩
inductive Oi(P:Program)(w:World)(K:W.Frag)(C CT CM CP:Addr)(vs:List V)(H:Hp)(Q:VK)(E_:XK):Prop where
 |mk (y dy a o:Addr) (xs os:List V) (t:List (List Str)) (x:cD) (cs:List cD) (n:Nat):(vs=[.ref y,.ref a,.ref o,.int n])->(H y=some (.ins C dy (DK x)))->(vN x)->(H a=some (.lst xs))->(Paired (bX H) xs t)->(TabOk t)->(H o=some (.lst os))->(Gz C H os cs)->((∀c∈cs,vN c))->(cs.length<=20)->((aD t).length<=24)->(cs.length<=3)->(1<=n)->(n<=4000)->(∀tt r cm aJ k H',aE H H'->H tt=none->Ca (gO (aD t)) (d9 x cs (aD t) (ko (x::cs) t)) (some n) [(gF cs.length,none)] [gF cs.length] r cm->Wf (gO (aD t)) (d9 x cs (aD t) (ko (x::cs) t)) (some n) (gF cs.length) r cm aJ k->acG K (d9 x cs (aD t) (ko (x::cs) t)) (gF cs.length) n r cm k H H' tt->Q (.ref tt) H')->Oi P w K C CT CM CP vs H Q E_
theorem Wz:zzz T dQ 12 43 ["dialect","table","others","most"] (Oi P w K (av 70) (av 71) (av 72) (av 73)):=by
 have iZ:=lP T
 have D6:=C8 T
 have nM:=rV T
 have C9:=Py T
 have yR:=Mi T
 refine T.Ug.ok GP 'e' 'a'
 ·obtain⟨y,dy,a,o,xs,os,t,x,cs,n,rfl,_⟩:=h;rfl
 ·have hu:=aS hr
  obtain⟨y,dy,a,o,xs,os,t,x,cs,n,rfl,hy,gx,ha,pr,tok,ho,mk,gs,hcl,t24,c3,n1,n4,k⟩:=h
  have mkl:=mk.length
  refine⟨_,(aj (cH (e9 D6 hr T.DW T.uc.kp T.DV (af (pv 1) (af (pv 2) (af (pv 3) ah)))))
   (aj (cP 4 GP.nd (e9 C9 hr T.JP T.wD.kp T.Ue (af (e9 nM hr T.ua T.nI.kp T.t9 (af (pv 2) ah)) (af (iB (k:=10) T.JY iZ (hr.mono 'c') rfl T.JX T.mT .nil cO (af (pv 0) (af (pv 1) (af (pv 2) ah)))) (af (pv 3) ah)))))
   (aj (cP 5 GP.nd (d8 K (pv 4) aq))
   (aj (aP (eH mj (d8 K (pv 4) aq) bf) (ak (ay (aH (af aB (af (e9 yR hr T.Fl T.sZ.kp T.Fj (af (pv 5) (af (d8 K (pv 4) aq) ah))) ah))))) aC)
   (aj (aP (eH qD (iz (ER (YP P w K) (aY P w) rfl rfl rfl) T.bR (af (pv 5) ah)) (pv 3)) (ak (ay (aH (af aB ah)))) aC)
   (ak (ay (aH (af aB (af (pcy (Lw (YP P w K) (aY P w) rfl rfl rfl rfl) T.Bm (af (pv 5) ah)) ah)))))))))),?_⟩
  refine⟨_,O,_,O,_,O,a,o,xs,os,t,n,O,ha,pr,tok,t24,ho,by omega,n1,n4,λH1 s1=>?_⟩
  dsimp only[bF]
  refine⟨_,O,o,os,O,s1 _ _ ho,by omega,λv0 H2 s2 hv0=>?_⟩
  have s12:=s1.trans s2
  rw[mkl]at hv0
  refine⟨_,O,_,O,_,O,λq dq hq PN ne=>⟨q,dq,y,dy,a,o,xs,os,t,x,cs,O,ai,cF hq PN (s12 _ _ hy),gx,cF hq PN (s12 _ _ ha),aI (λa b h=>bX.mono (s12.trans (ie hq PN)) h) pr,tok,cF hq PN (s12 _ _ ho),Gz.mono (s12.trans (ie hq PN)) mk,gs,hcl,λH3 hP kp=>⟨O,?_⟩⟩⟩
  have s3:=gk hq PN kp
  have ZS:=s12.trans s3
  have Wk:∀c∈x::cs,vN c:=λc hc=>by
   rcases aeh.mp hc with q|q
   ·rw[q];exact gx
   ·exact gs c q
  have Fz:=JC Wk tok
  rw[aex]at Fz
  have hp0:(gF cs.length).2.length=cs.length:=ae9
  refine⟨_,O,q,v0,n,gF cs.length,x,cs,aD t,ko (x::cs) t,O,hP,cy s3 hv0,hp0,by omega,by omega,n4,λtf rv r a2 cm H4 _ htf PU IW pC s4=>?_⟩
  have QW:=ZS.trans s4
  dsimp only[bF]
  refine⟨_,O,tf,_,_,_,O,O,aX.of htf,O,?_⟩
  dsimp only[bF]
  obtain⟨aJ,kk,hE,hkk⟩:=TX pC
  cases r with
  |none =>
   have PU:rv=.non:=PU
   subst PU
   obtain⟨kvs,nd0,cr0⟩:=IW.ok
   have kl:=yo cr0
   refine⟨_,O,tf,_,_,_,O,O,aX.of htf,O,O,_,O,pT rfl ?_⟩
   refine⟨_,O,a2,kvs,O,nd0,_,O,_,_,O,O,_,O,?_⟩
   by_cases hmo:n<cm.length
   ·refine mE (aeb (show(n:Int)<(kvs.length:Int) by omega)) ⟨(by show 1<=sizeLine;decide),λtt DB=>?_⟩
    exact k tt none cm aJ kk _ (QW.trans (ao DB)) (QW.free DB) pC hE (.inl ⟨hmo,ai⟩)
   ·refine pT (aeg (show ¬(n:Int)<(kvs.length:Int) by omega)) ?_
    refine⟨_,O,a2,kvs,O,nd0,λl hl=>⟨(by show 2<=sizeLine;decide),λtt DB=>?_⟩⟩
    have f1:=ao (o:=HO.lst (kvs.map λe=>V.ref e.2.1)) hl
    have f2:=ao (o:=HO.tup [.str ("none":Str),.ref l]) DB
    exact k tt none cm aJ kk _ (QW.trans (f1.trans f2)) ((QW.trans f1).free DB) pC hE (.inr ⟨by omega,l,_,ai,QW.free hl,f2 _ _ ai,(Cb cr0).keep λb xs q=>aA (f1.trans f2) q⟩)
  |some m1 =>
   have PU:dD K H4 m1 rv:=PU
   obtain⟨b1,rfl⟩:=jy PU
   have hmem:=List.mem_of_find?_eq_some hE.res.symm
   obtain⟨⟨x1,LQ,v1,l1,w1,e1⟩,_⟩:=hE.c7.edg m1 hmem
   have hk1:=hkk (List.ne_nil_of_mem hmem)
   refine⟨_,O,tf,_,_,_,O,O,aX.of htf,O,O,_,O,mE rfl ?_⟩
   refine⟨_,O,_,O,tf,_,_,_,O,O,aX.of htf,O,a2,.ref b1,cm,m1,x1,LQ,O,IW,PU,v1,l1,by omega,λH5 s5=>⟨(by show 2<=sizeLine;decide),λtt DB=>?_⟩⟩
   refine k tt (some m1) cm aJ kk _ (QW.trans (s5.trans (ao DB))) ((QW.trans s5).free DB) pC hE ⟨LQ.reverse,?_,w1,by rw[af0];exact e1,hk1⟩
   rw[List.map_reverse]
   exact ai
inductive um(vs:List V)(H:Hp)(Q:VK)(E_:XK):Prop where
 |mk (z:Str):(vs=[.str z])->(bA z)->(z.length<=2000)->(∀H',aE H H'->Q .non H')->um vs H Q E_
theorem D7:zzz T dQ 4 44 ["thing"] um:=by
 have yS:=C3 T
 refine T.wF.ok DQ 'e' 'a'
 ·obtain⟨z,rfl,_⟩:=h;rfl
 ·have hu:=aS hr
  obtain⟨z,rfl,g,hz,k⟩:=h
  refine⟨_,(ak (aP (bT (bD (e9 yS hr T.Ff T.yC.kp T.Fe (af (pv 0) ah)))) (ak gH) aC)),?_⟩
  refine⟨_,O,.str z,O,.str z,λz' e=>(by cases e;omega),λH1 s1=>?_⟩
  rw[N1 g,aeb (show(z.length:Int)<=2000 by omega)]
  exact⟨true,O,dh (k H1 s1)⟩
inductive Oj(K:W.Frag)(C:Addr)(vs:List V)(H:Hp)(Q:VK)(E_:XK):Prop where
 |mk (x dx:Addr) (z:Str) (p q f:Str) (b1 b2 b3 b4:Bool):(vs=[.ref x,.str z])->(H x=some (.ins C dx (zy p q f b1 b2 b3 b4)))->(Gd p q f)->(bA z)->(z.length<=2000)->(∀(tw lk s:Addr) H',H' tw=some (.tup [.ref lk,.ref s,SO (runM p q f b1 b2 b3 b4 ("row":Str) 'd' z.cps.toList).2.2.2])->H lk=none->H' lk=some (.lst ((runM p q f b1 b2 b3 b4 ("row":Str) 'd' z.cps.toList).1.map V.str))->aX K H' s [.str (runM p q f b1 b2 b3 b4 ("row":Str) 'd' z.cps.toList).2.1,.str (runM p q f b1 b2 b3 b4 ("row":Str) 'd' z.cps.toList).2.2.1]->aE H H'->Q (.ref tw) H')->Oj K C vs H Q E_
theorem WA:zzz T dQ 8 45 ["dialect","text"] (Oj K (av 70)):=by
 have fu:=jt T
 have rT:=wW T
 have Hu:=D7 T
 refine T.Uh.ok pI 'e' 'a'
 ·obtain⟨x,dx,z,p,q,f,b1,b2,b3,b4,rfl,_⟩:=h;rfl
 ·have hu:=aS hr
  obtain⟨x,dx,z,p,q,f,b1,b2,b3,b4,rfl,hx,g,hz,hz2,k⟩:=h
  refine'⟨_,?aa,?bb⟩
  case aa =>
   refine' aj ?s0 ?r0
   case s0 =>
    exact(cH (e9 Hu hr T.GZ T.wF.kp T.GY (af (pv 1) ah)))
   case r0 =>
    refine' aj ?s1 ?r1
    case s1 =>
     exact(cP 2 pI.nd (iB (k:=6) T.Me fu (hr.mono 'c') rfl T.Mc T.jR .nil cO (af (pv 0) ah)))
    case r1 =>
     refine' aj ?s2 ?r2
     case s2 =>
      refine' cP 3 pI.nd ?v3
      case v3 =>
       refine' bL ?a4
       case a4 =>
        exact ah
     case r2 =>
      refine' aj ?s5 ?r5
      case s5 =>
       exact(cP 4 pI.nd (eG rfl T.gc))
      case r5 =>
       refine' aj ?s6 ?r6
       case s6 =>
        exact(c9 aeF rfl (oW (pv 1)) (ji 5 pI.nd)
     (aj (cP 6 pI.nd (dw (k:=3) (pv 2) T.gu T.zH rT (hr.mono 'c') T.zG .nil cO (af (pv 4) (af (pv 5) ah))))
     (aj (aP (eH cE (d8 K (pv 6) aq) aB) (ak (ay (aH (af (pv 3) (af (pv 4) (af (d8 K (pv 6) aq) ah)))))) aC)
     (aj (cH (cT K rfl aeE aeL aeM cI (pv 3) (af (d8 K (pv 6) aq) ah)))
     (ak (cP 4 pI.nd (d8 K (pv 6) aq)))))))
       case r6 =>
        refine' ak ?s7
        case s7 =>
         refine' ay ?v8
         case v8 =>
          refine' aH ?a9
          case a9 =>
           refine' af ?x10 ?y10 ?z10
           case z10=>exact rfl
           case x10 =>
            exact(pv 3)
           case y10 =>
            refine' af ?x11 ?y11 ?z11
            case z11=>exact rfl
            case x11 =>
             exact(pv 4)
            case y11 =>
             refine' af ?x12 ?y12 ?z12
             case z12=>exact rfl
             case x12 =>
              exact bf
             case y12 =>
              exact ah
  refine⟨_,O,z,O,hz,hz2,λH1 s1=>?_⟩
  refine⟨_,O,λy dy hy QT ne=>⟨y,dy,x,dx,p,q,f,b1,b2,b3,b4,O,ai,cF hy QT (s1 _ _ hx),g,λH2 hT kp=>⟨O,?_⟩⟩⟩
  have s2:=s1.trans (gk hy QT kp)
  refine⟨by decide,λlk hlk=>?_⟩
  have s3:=ao (o:=HO.lst []) hlk
  have uR:H lk=none:=s2.free hlk
  refine⟨_,O,z,O,?_⟩
  refine vF (λi σ H4=>aE H H4/\∃(w u:Str)(s:Addr)(ks:List Str)(v1 v2:Option V),σ=[some (.ref x),some (.str z),some (.ref y),some (.ref lk),some (.ref s),v1,v2]/\Tn (av 70) (av 71) H4 y p q f b1 b2 b3 b4/\H4 lk=some (.lst (ks.map V.str))/\aX K H4 s [.str w,.str u]/\ks.length=i/\runM p q f b1 b2 b3 b4 ("row":Str) 'd' z.cps.toList=Jb ks (runM p q f b1 b2 b3 b4 w u (z.cps.toList.drop i))) ⟨s2.trans s3,_,_,(av 87),[],_,_,rfl,hT.mono s3,ai,.inr T.gg,rfl,rfl⟩ ?_ ?_
  ·rintro i c σ H4 hi ⟨s4,w,u,s,ks,v1,v2,rfl,hT4,h4,hs,hkl,er⟩
   rw[drop_cons hi]at er
   have hil:=(ad8.mp hi).1
   rw[aeq]at hil
   have hil:i<z.length:=hil
   obtain⟨dy4,d4,dd4,ey4,ed4⟩:=hT4.ok
   refine⟨_,O,y,dy4,_,O,ey4,O,_,O,_,O,y,s,w,u,c,p,q,f,b1,b2,b3,b4,O,hT4,hs,λv H5 s5 r=>?_⟩
   have h5:=s5 _ _ h4
   cases ZK:bw p q f b1 b2 b3 b4 w u c with
   |go kd w3 u3 =>
    rw[ZK]at r
    obtain⟨hk,a,b,rfl,ha,hb⟩:=r
    refine⟨_,O,a,_,_,_,O,O,ha,O,O,_,O,pT hk ?_⟩
    refine⟨_,O,.inl ⟨O,_,aT.of h5⟩,_,O,a,_,_,_,O,O,ha,O,lk,_,_,O,O,h5,?_,?_⟩
    ·rw[aec];exact aem (show ks.length<=2000 by omega) 'c'
    refine⟨_,O,a,_,_,_,O,O,fO h5 ha,O,aM uR (s4.trans s5),w3,u3,b,ks++[kd],_,_,O,Tn.but h5 (hT4.mono s5),?_,fO h5 hb,by rw[aef,hkl];rfl,er.trans (YY ZK)⟩
    rw[aeo];exact ai
   |lU e =>
    rw[ZK]at r
    obtain⟨a,rfl,ha⟩:=r
    refine⟨_,O,a,_,_,_,O,O,ha,O,O,_,O,mE (br _) ?_⟩
    refine⟨_,O,_,O,_,O,a,_,_,_,O,O,ha,O,(by show 3<=sizeLine;decide),λt ht=>?_⟩
    have st:=ao (o:=HO.tup [.ref lk,.ref s,.str e]) ht
    rw[VJ ZK]at er
    refine k t lk s _ ?_ uR ?_ ?_ ((s4.trans s5).trans st)
    ·rw[er];exact ai
    ·rw[er];exact st _ _ h5
    ·rw[er];exact aA (s5.trans st) hs
  ·rintro σ H4 ⟨s4,w,u,s,ks,v1,v2,rfl,hT4,h4,hs,hkl,er⟩
   rw[List.drop_length,VL]at er
   refine⟨_,O,_,O,(by show 3<=sizeLine;decide),λt ht=>?_⟩
   have st:=ao (o:=HO.tup [.ref lk,.ref s,.non]) ht
   refine k t lk s _ ?_ uR ?_ ?_ (s4.trans st)
   ·rw[er];exact ai
   ·rw[er];exact st _ _ h4
   ·rw[er];exact aA st hs
inductive FG(K:W.Frag)(vs:List V)(H:Hp)(Q:VK)(E_:XK):Prop where
 |mk (tw lk s:Addr) (ks:List Str) (w u:Str) (o:Option Str):(vs=[.ref tw])->(H tw=some (.tup [.ref lk,.ref s,SO o]))->(H lk=some (.lst (ks.map V.str)))->(aX K H s [.str w,.str u])->((o=none->zB w u=true->Q .non H))->(((o=none->zB w u=false)->∀t,H t=none->Q (.ref t) (upd H t (.tup [.int ks.length,.int (acz ks),.str (o.getD ("cut":Str))]))))->FG K vs H Q E_
theorem PV:zzz T dQ 1 46 ["walked"] (FG K):=by
 refine T.JQ.ok yy 'e' 'a'
 ·obtain⟨tw,lk,s,ks,w,u,o,rfl,_⟩:=h;rfl
 ·have hu:=aS hr
  have eo:=hr.aK
  obtain⟨tw,lk,s,ks,w,u,o,rfl,ht,hk,hs,k1,k2⟩:=h
  have hT:aX K H tw [.ref lk,.ref s,SO o]:=aX.of ht
  refine⟨_,(aj (cP 1 yy.nd (d8 K (pv 0) aq))
   (aj (cP 2 yy.nd (d8 K (pv 0) aq))
   (aj (aP (PW.pt (nj (eH gX (pv 2) bf) (jv (eH (Yk K rfl eo) (d8 K (pv 0) aq) (eG rfl T.gc))))) (ak (ay bf)) aC)
   (ak (ay (aH (af (iz (aU K rfl) T.bR (af (pv 1) ah)) (af (cT K rfl aeE PySem.F.slot_list_count PySem.F.type_list_count (Li K rfl) (pv 1) (af aB ah)) (af (kE (eH gX (pv 2) bf) aB (pv 2)) ah))))))))),?_⟩
  refine⟨_,O,tw,_,_,_,O,O,hT,O,_,O,tw,_,_,_,O,O,hT,O,?_⟩
  cases o with
  |none =>
   refine⟨_,O,O,_,O,mE (aeb rfl) ?_⟩
   refine⟨_,O,tw,_,_,_,O,O,hT,O,s,(av 87),_,_,O,O,hs,.inr T.gg,O,O,_,O,cz (λ(h1:zB w u=true)=>?_) (λ(h1:¬zB w u=true)=>?_)⟩
   ·exact k1 rfl h1
   ·refine⟨_,O,lk,_,O,.inl (aT.of hk),_,O,.inl ⟨O,_,aT.of hk⟩,lk,_,_,O,O,aT.of hk,O,ET ks,_,O,O,_,O,mE (aeb rfl) ?_⟩
    rw[aec]
    exact⟨(by show 3<=sizeLine;decide),λt ht=>k2 (λ_=>qV h1) t ht⟩
  |some e =>
   refine⟨_,O,O,_,O,pT (aeg (by intro z;cases z)) (dh ?_)⟩
   refine⟨_,O,lk,_,O,.inl (aT.of hk),_,O,.inl ⟨O,_,aT.of hk⟩,lk,_,_,O,O,aT.of hk,O,ET ks,_,O,O,_,O,pT (aeg (by intro z;cases z)) ?_⟩
   rw[aec]
   exact⟨_,O,(by show 3<=sizeLine;decide),λt ht=>k2 (λz=>by cases z) t ht⟩
inductive zR(K:W.Frag)(vs:List V)(H:Hp)(Q:VK)(E_:XK):Prop where
 |mk (z:Str) (lk:Addr) (ks:List Str):(vs=[.str z,.ref lk])->(H lk=some (.lst (ks.map V.str)))->(z.length<=2000)->(∀(l:Addr)(es:List V)(H':Hp),H l=none->H' l=some (.lst es)->V.ref l∉es->es.Nodup->pB H H' es (Jf z ks)->aE H H'->Q (.ref l) H')->zR K vs H Q E_
theorem J7:zzz T dQ 1 47 ["text","kinds"] (zR K):=by
 refine T.Cy.ok cW 'e' 'a'
 ·obtain⟨z,lk,ks,rfl,_⟩:=h;rfl
 ·have hu:=aS hr
  obtain⟨z,lk,ks,rfl,hk,hz,k⟩:=h
  refine⟨_,(aj (cP 2 cW.nd (bL ah))
   (aj (cP 3 cW.nd (bL ah))
   (aj (cP 4 cW.nd aB)
   (aj (c9 aeF rfl (RY K rfl rfl T.Hi (af (pv 0) (af (pv 1) ah))) (mq K rfl 2 rfl (cN (ji 5 cW.nd) (cN (ji 6 cW.nd) mh)))
   (ak (aP (eH cE (pv 6) aB) (ak (cP 4 cW.nd (aR bG (pv 4) (pv 5)))) (ak (aP (eH cE (pv 6) aB) (aj (cH (cT K rfl aeE aeL aeM cI (pv 3) (af (pv 4) ah)))
   (ak (cP 4 cW.nd aB))) (ak (aP (eH cE (pv 6) aB) (aj (cH (cT K rfl aeE aeL aeM cI (pv 3) (af (pv 4) ah)))
   (aj (cH (cT K rfl aeE aeL aeM cI (pv 2) (af (pv 3) ah)))
   (aj (cP 3 cW.nd (bL ah))
   (ak (cP 4 cW.nd aB))))) aC)))))))
   (ak (ay (pv 2))))))),?_⟩
  refine⟨by decide,λlt hlt=>?_⟩
  have s1:=ao (o:=HO.lst []) hlt
  refine⟨by decide,λr0 hr0=>?_⟩
  have s2:=ao (o:=HO.lst []) hr0
  have a1:(upd (upd H lt (.lst [])) r0 (.lst [])) lt=some (.lst []):=s2 _ _ ai
  have a2:(upd (upd H lt (.lst [])) r0 (.lst [])) r0=some (.lst []):=ai
  have n0:r0≠lt:=λq=>by rw[q,ai]at hr0;cases hr0
  have fr:=s1.free hr0
  have s12:=s1.trans s2
  generalize upd (upd H lt (.lst [])) r0 (.lst [])=H1 at a1 a2 s12⊢
  refine⟨_,O,_,O,z,lk,O,⟨_,aT.of (s12 _ _ hk)⟩,?_⟩
  have hz':z.cps.size<=2000:=hz
  have e0:'d'.length=0:=by decide +kernel
  refine RZ (K:=K) (z:=z) (b:=lk) (ys:=ks.map V.str) (λi σ H2=>aE H H2/\∃rr es row cell v5 v6,σ=[some (.str z),some (.ref lk),some (.ref lt),some (.ref rr),some (.str cell),v5,v6]/\H rr=none/\H2 lt=some (.lst es)/\H2 rr=some (.lst (row.map V.str))/\rr≠lt/\V.ref lt∉es/\V.ref rr∉es/\es.Nodup/\∃rows,pB H H2 es rows/\qX Je (z.cps.toList.take i) (ks.take i)=⟨rows,row,cell⟩/\cell.length<=i/\row.length<=i/\es.length<=i) ⟨s12,r0,[],[],_,_,_,rfl,fr,a1,a2,n0,by simp,by simp,List.nodup_nil,[],.nil,rfl,by rw[e0];exact ad6 _,ad6 _,ad6 _⟩ (λi σ H2 _ q=>aT.of (q.1 _ _ hk)) ?_ ?_
  ·rintro i c y t σ H2 hc hy ht ⟨s3,rr,es,row,cell,v5,v6,rfl,ZT,b1,b2,nr,n1,n2,nd,rows,rw',hg,l1,l2,l3⟩
   obtain⟨kd,hkd,rfl⟩:=Gy hy
   have hil:=(afb.mp hc).1
   have hc':z.cps.toList[i]?=some c:=by simpa using hc
   have QX:=EU Je z.cps.toList ks i c kd hc' hkd
   rw[hg]at QX
   have st:=ao (o:=HO.tup [.str (sg c),.str kd]) ht
   refine⟨t,_,O,aX.of ai,O,_,_,O,_,_,O,O,?_⟩
   have s4:=s3.trans st
   replace b1:=st _ _ b1
   replace b2:=st _ _ b2
   replace rw':=pB.mono st rw'
   generalize upd H2 t (.tup [.str (sg c),.str kd])=H3 at s4 b1 b2 rw'⊢
   clear st ht s3
   unfold Jd at QX
   refine⟨_,O,O,_,O,cz (λh1=>?_) (λh1=>?_)⟩
   ·have h1:bC kd ("put":Str)=true:=h1
    rw[aee h1]at QX
    refine⟨_,O,_,O,_,_,O,O,aep (show cell.length+1<=2001 by omega) 'c',?_⟩
    exact⟨s4,rr,es,row,_,_,_,O,ZT,b1,b2,nr,n1,n2,nd,rows,rw',QX,by rw[bz];show cell.length+1<=_;omega,by omega,by omega⟩
   have h1:¬bC kd ("put":Str)=true:=h1
   rw[ad5 h1]at QX
   refine⟨_,O,O,_,O,cz (λh2=>?_) (λh2=>?_)⟩
   ·have h2:bC kd ("part":Str)=true:=h2
    rw[aee h2]at QX
    refine⟨_,O,.inl ⟨O,_,aT.of b2⟩,_,O,rr,_,_,O,O,b2,by rw[aec];exact aem l2 (aeu (show i<2001 by omega) 'c'),?_⟩
    refine⟨aM ZT s4,rr,es,row++[cell],_,_,_,O,ZT,(az (afa nr)).trans b1,by rw[ai,aeo];rfl,nr,n1,n2,nd,rows,pB.but n2 rw',QX,by rw[e0];omega,by rw[aef];show row.length+1<=_;omega,by omega⟩
   have h2:¬bC kd ("part":Str)=true:=h2
   rw[ad5 h2]at QX
   refine⟨_,O,O,_,O,cz (λh3=>?_) (λh3=>?_)⟩
   ·have h3:bC kd ("end":Str)=true:=h3
    rw[aee h3]at QX
    refine⟨_,O,.inl ⟨O,_,aT.of b2⟩,_,O,rr,_,_,O,O,b2,by rw[aec];exact aem l2 (aeu (show i<2001 by omega) 'c'),?_⟩
    have c1:(upd H3 rr (.lst (row.map V.str++[.str cell]))) lt=some (.lst es):=(az (afa nr)).trans b1
    refine⟨_,O,.inl ⟨O,_,aT.of c1⟩,_,O,lt,es,_,O,O,c1,aem l3 (aeu (show i<2001 by omega) 'c'),?_⟩
    have s5:aE H (upd (upd H3 rr (.lst (row.map V.str++[.str cell]))) lt (.lst (es++[.ref rr]))):=aM hlt (aM ZT s4)
    have d1:(upd (upd H3 rr (.lst (row.map V.str++[.str cell]))) lt (.lst (es++[.ref rr]))) lt=some (.lst (es++[.ref rr])):=ai
    have d2:(upd (upd H3 rr (.lst (row.map V.str++[.str cell]))) lt (.lst (es++[.ref rr]))) rr=some (.lst ((row++[cell]).map V.str)):=by rw[az nr,ai,aeo];rfl
    have nl:V.ref lt∉es++[V.ref rr]:=λq=>by
     rcases aej.mp q with q|q
     ·exact n1 q
     ·exact nr (V.ref.inj (ad7.mp q)).symm
    have rw5:pB H (upd (upd H3 rr (.lst (row.map V.str++[.str cell]))) lt (.lst (es++[.ref rr]))) (es++[.ref rr]) (rows++[row++[cell]]):=pB.app (pB.but n1 (pB.but n2 rw')) (.cons ⟨rr,rfl,ZT,d2⟩ .nil)
    have nd5:(es++[V.ref rr]).Nodup:=List.nodup_append.mpr ⟨nd,by simp,λx hx y hy e=>n2 (by rw[ad7.mp hy]at e;exact e▸hx)⟩
    generalize upd (upd H3 rr (.lst (row.map V.str++[.str cell]))) lt (.lst (es++[.ref rr]))=H5 at s5 d1 d2 rw5⊢
    refine⟨by decide,λr2 hr2=>?_⟩
    have sn:=ao (o:=HO.lst []) hr2
    have nr2:r2≠lt:=λq=>by rw[q,d1]at hr2;cases hr2
    refine⟨s5.trans sn,r2,es++[.ref rr],[],_,_,_,O,s5.free hr2,sn _ _ d1,ai,nr2,nl,λq=>?_,nd5,_,pB.mono sn rw5,QX,by rw[e0];omega,aeA _,by rw[aef];show es.length+1<=_;omega⟩
    obtain⟨_,ys,hys⟩:=rw5.has q
    rw[hys]at hr2;cases hr2
   have h3:¬bC kd ("end":Str)=true:=h3
   rw[ad5 h3]at QX
   exact⟨s4,rr,es,row,cell,_,_,O,ZT,b1,b2,nr,n1,n2,nd,rows,rw',QX,by omega,by omega,by omega⟩
  ·rintro σ H2 ⟨s3,rr,es,row,cell,v5,v6,rfl,ZT,b1,b2,nr,n1,n2,nd,rows,rw',hg,l1,l2,l3⟩
   refine⟨_,O,k lt es H2 hlt b1 n1 nd ?_ s3⟩
   have e:min z.cps.size (ks.map V.str).length=min z.cps.toList.length ks.length:=by
    have ez:z.cps.toList.length=z.cps.size:=aeq
    rw[aec,ez]
   rw[e,Jg]at hg
   have:Jf z ks=rows:=by unfold Jf;rw[hg]
   rw[this]
   exact rw'
inductive uq(K:W.Frag)(C:Addr)(vs:List V)(H:Hp)(Q:VK)(E_:XK):Prop where
 |mk (x dx:Addr) (z:Str) (p q f:Str) (b1 b2 b3 b4:Bool):(vs=[.ref x,.str z])->(H x=some (.ins C dx (zy p q f b1 b2 b3 b4)))->(Gd p q f)->(bA z)->(z.length<=2000)->(∀v H',RdV H H' v (S0 (VN p q f b1 b2 b3 b4 z) z)->aE H H'->Q v H')->uq K C vs H Q E_
theorem D8:zzz T dQ 9 48 ["dialect","text"] (uq K (av 70)):=by
 have UA:=PV T
 have Mj:=J7 T
 have ZU:=WA T
 refine T.pJ.ok tW 'e' 'a'
 ·obtain⟨x,dx,z,p,q,f,b1,b2,b3,b4,rfl,_⟩:=h;rfl
 ·have hu:=aS hr
  obtain⟨x,dx,z,p,q,f,b1,b2,b3,b4,rfl,hx,g,hz,hz2,k⟩:=h
  have hw:=λe=>Jc (p:=p) (q:=q) (f:=f) (b1:=b1) (b2:=b2) (b3:=b3) (b4:=b4) (w:=("row":Str)) (u:='d') (cs:=z.cps.toList) (e:=e)
  refine⟨_,(aj (cP 2 tW.nd (e9 ZU hr T.Zm T.Uh.kp T.Zl (af (pv 0) (af (pv 1) ah))))
   (aj (aP (eH mj (e9 UA hr T.Uj T.JQ.kp T.Ui (af (pv 2) ah)) bf) (ak (ay bf)) aC)
   (ak (ay (e9 Mj hr T.L6 T.Cy.kp T.L5 (af (pv 1) (af (d8 K (pv 2) aq) ah))))))),?_⟩
  refine⟨_,O,_,O,x,dx,z,p,q,f,b1,b2,b3,b4,O,hx,g,hz,hz2,λtw lk s H1 ht uR hk hs s1=>?_⟩
  unfold VN at k
  generalize runM p q f b1 b2 b3 b4 ("row":Str) 'd' z.cps.toList=r at ht hk hs hw k
  refine⟨_,O,tw,lk,s,r.1,r.2.1,r.2.2.1,r.2.2.2,O,ht,hk,hs,λh1 h2=>?_,λh1 t ht5=>?_⟩
  ·refine⟨O,_,O,NW (aeb rfl) ?_⟩
   have hW:Gw r='d':=by unfold Gw;rw[h1];exact aee h2
   refine⟨_,O,_,O,tw,_,_,_,O,O,aX.of ht,O,z,lk,r.1,O,hk,hz2,λl es H2 hl hl2 nl nd rw2 s2=>?_⟩
   refine k (.ref l) H2 ?_ (s1.trans s2)
   unfold S0
   rw[aee hW]
   exact⟨l,es,O,s1.free hl,hl2,aI (λa b ⟨c,e1,e2,e3⟩=>⟨c,e1,s1.free e2,e3⟩) rw2⟩
  have hW:Gw r≠Str.ofString "":=by
   unfold Gw
   cases ho:r.2.2.2 with
   |some e=>exact(hw e ho).1
   |none =>
    show(if zB r.2.1 r.2.2.1=true then Str.ofString "" else Str.ofString "cut")≠_
    rw[ad5 (by rw[h1 ho];decide)]
    exact λq=>absurd (congrArg (λz=>bC z 'd') q) 'b'
  refine⟨O,_,O,Xq (aeg (by intro z;cases z)) ?_⟩
  refine k .non _ ?_ (s1.trans (ao ht5))
  unfold S0
  rw[ad5 hW]
  rfl
inductive Dd(K:W.Frag)(C:Addr)(vs:List V)(H:Hp)(Q:VK)(E_:XK):Prop where
 |mk (y dy:Addr) (v:V) (n:Nat) (x:cD) (m:aW) (ts:List (Str×Str)):(vs=[.ref y,.int n,v])->(H y=some (.ins C dy (DK x)))->(vN x)->(dF K H m v)->(OkL x ts m)->(ts.length=n)->(∀H',aE H H'->Q (.bl true) H')->Dd K C vs H Q E_
theorem De:zzz T dQ 3 49 ["dialect","most","thing"] (Dd K (av 70)):=by
 have AF:=yN T
 have ve:=zQ T
 refine T.yG.ok LV 'e' 'a'
 ·obtain⟨y,dy,v,n,x,m,ts,rfl,_⟩:=h;rfl
 ·have hu:=aS hr
  obtain⟨y,dy,v,n,x,m,ts,rfl,hy,g,hv,QY,hn,k⟩:=h
  obtain⟨b,s,rfl,hb,hs⟩:=hv
  have hst:=QY.1.1
  have hmn:=QY.1.2
  have Xu:=QY.2
  refine⟨_,(aj (aP (PW.pt (ia (bT (bD (iz (ki K rfl) T.bq (af (pv 2) (af (KP "tuple" T.lG) ah))))) (fD (eH vC (iz (aU K rfl) T.bR (af (pv 2) ah)) aq)))) (ak (ay fJ)) aC)
   (ak (ay (oR (e9 AF hr T.As T.pY.kp T.Ar (af (pv 0) (af (d8 K (pv 2) aq) ah))) (nk (e9 ve hr T.Cv T.u6.kp T.Cu (af (d8 K (pv 2) aq) (af aq (af (pv 1) ah))))))))),?_⟩
  refine⟨_,O,_,_,_,_,O,.sqt hb,O,_,O,dh ?_⟩
  refine⟨_,O,_,_,O,.inr hb,O,_,O,rdJ (by simp) (⟨_,O,_,O,_,_,_,_,O,O,hb,O,_,_,_,_,_,_,O,hy,g,hs,hst,Xu,λH1 s1=>⟨_,O,i7 (⟨_,O,?_⟩)⟩⟩)⟩
  refine⟨b,_,_,_,O,O,aA s1 hb,O,_,O,_,_,_,O,?_⟩
  rw[aeb (show(0:Int)<=(m.2:Int)/\(m.2:Int)<=(n:Int) from⟨by omega,by omega⟩)]
  exact k _ s1
inductive wX(K:W.Frag)(C:Addr)(vs:List V)(H:Hp)(Q:VK)(E_:XK):Prop where
 |mk (o u:Addr) (n:Nat) (os us:List V) (cs:List cD) (ms:List (Option aW)) (ts:List (Str×Str)):(vs=[.ref o,.int n,.ref u])->(H o=some (.lst os))->(Gz C H os cs)->((∀c∈cs,vN c))->(cs.length<=20)->(aX K H u us)->(Paired (fL K H) ms us)->(T3 cs ts ms)->(ts.length=n)->(∀H',aE H H'->Q (.bl true) H')->wX K C vs H Q E_
theorem Hv:zzz T dQ 4 50 ["others","most","thing"] (wX K (av 70)):=by
 have yT:=De T
 refine T.zI.ok GQ 'e' 'a'
 ·obtain⟨o,u,n,os,us,cs,ms,ts,rfl,_⟩:=h;rfl
 ·have hu:=aS hr
  obtain⟨o,u,n,os,us,cs,ms,ts,rfl,ho,mk,gs,hcl,hu',om,okl,hn,k⟩:=h
  have l1:=mk.length
  have l2:=om.length
  have l3:=okl.length
  refine⟨_,(aj (aP (PW.pt (ia (bT (bD (iz (ki K rfl) T.bq (af (pv 2) (af (KP "tuple" T.lG) ah))))) (fD (eH vC (iz (aU K rfl) T.bR (af (pv 2) ah)) (iz (aU K rfl) T.bR (af (pv 0) ah)))))) (ak (ay fJ)) aC)
   (ak (ay (iz (jh K rfl rfl) T.u7 (af (cK rfl (show aZ ["others","most","thing"] (au mD) ["other","mark","most"] 2 [1] _ from DA) (xY K rfl rfl T.Hi (af (pv 0) (af (pv 2) ah))) (λ_ _ _ _=>(mq K rfl 2 rfl (cN (ji 0 (show(["other","mark","most"]:List Str).Nodup by decide +kernel)) (cN (ji 1 (show(["other","mark","most"]:List Str).Nodup by decide +kernel)) mh)))) (λ_ _ _ _=>cB) (λ_ _ _ _=>(W7 (DI gX (pv 1) bf) (nk (e9 yT hr T.Fp T.yG.kp T.Fo (af (pv 0) (af (pv 2) (af (pv 1) ah)))))))) ah))))),?_⟩
  refine⟨_,O,_,_,_,_,O,.sqt hu',O,_,O,dh ⟨_,O,_,_,O,.inr hu',_,O,_,_,O,.inl (aT.of ho),O,_,O,rdJ (by show(us.length:Int)=(os.length:Int);omega) ?_⟩⟩
  dsimp only[Bs]
  refine⟨_,O,_,O,o,u,O,⟨_,aT.of ho⟩,⟨_,hu'⟩,λD hD=>?_⟩
  refine uP (K:=K) (a:=o) (b:=u) (xs:=os) (ys:=us) (λi ws τ J=>(∃v w,τ=[v,w,some (.int n)])/\aE H J/\J D=some (.lst ws)/\ws=(List.replicate i true).map V.bl) ⟨⟨_,_,rfl⟩,ao hD,ai,rfl⟩ (λi ws τ J _ p=>⟨aT.of (p.2.1 _ _ ho),aA p.2.1 hu',p.2.2.1⟩) ?_ ?_
  ·rintro i e w' t ws τ J hi hw ht ⟨⟨v1,v2,rfl⟩,sJ,hJ,hws⟩
   obtain⟨x',hx',y',Wl,rfl,hy'⟩:=aN mk i e hi
   obtain⟨m,hm,hoa⟩:=jC om i w' hw
   obtain⟨m',hm',QY⟩:=aN okl i x' hx'
   rw[hm]at hm';cases hm'
   have hil:i<os.length:=(ad8.mp hi).1
   have hwl:ws.length=i:=by rw[hws,aec,ae9]
   have st:=ao (o:=HO.tup [.ref y',w']) ht
   have sT:=sJ.trans st
   have hJ1:=st _ _ hJ
   refine⟨t,_,O,aX.of ai,O,_,_,O,_,_,O,O,?_⟩
   dsimp only[RA]
   rw[aee rfl]
   generalize upd J t (HO.tup [.ref y',w'])=J1 at sT hJ1⊢
   have fin:∀J2,aE J1 J2->J2 D=some (.lst ws)/\ws.length<sizeLine/\aE H (upd J2 D (.lst (ws++[.bl true])))/\ws++[V.bl true]=(List.replicate (i+1) true).map V.bl:=λJ2 s2=>⟨s2 _ _ hJ1,aem (show ws.length<=100 by omega) 'c',aM hD (sT.trans s2),by rw[hws,afJ,aeo];rfl⟩
   cases m with
   |none =>
    have hoa:w'=.non:=hoa
    subst hoa
    obtain⟨f1,f2,f3,f4⟩:=fin J1 (aE.refl _)
    exact⟨_,O,O,_,O,i7 ⟨f1,f2,⟨_,_,O⟩,f3,ai,f4⟩⟩
   |some mk1 =>
    obtain⟨b1,s1,rfl,q1,q2⟩:=vY sT hoa
    refine⟨_,O,O,_,O,dh ⟨_,O,_,O,_,O,y',Wl,.ref b1,n,x',mk1,ts,O,sT _ _ hy',gs x' (aen hx'),⟨b1,s1,O,q1,q2⟩,QY mk1 rfl,hn,λJ2 s2=>?_⟩⟩
    obtain⟨f1,f2,f3,f4⟩:=fin J2 s2
    exact⟨f1,f2,⟨_,_,O⟩,f3,ai,f4⟩
  rintro ws τ J ⟨⟨v1,v2,rfl⟩,sJ,hJ,rfl⟩
  refine⟨D,_,O,aT.of hJ,?_⟩
  rw[show(List.replicate (min os.length us.length) true).all id=true from aeP.mpr λb hb=>(List.mem_replicate.mp hb).2]
  exact k _ sJ
inductive zS(K:W.Frag)(C:Addr)(vs:List V)(H:Hp)(Q:VK)(E_:XK):Prop where
 |mk (y dy o:Addr) (v:V) (n:Nat) (os:List V) (x:cD) (cs:List cD) (m:dM) (ts:List (Str×Str)):(vs=[.ref y,.ref o,.int n,v])->(H y=some (.ins C dy (DK x)))->(vN x)->(H o=some (.lst os))->(Gz C H os cs)->((∀c∈cs,vN c))->(cs.length<=20)->(dD K H m v)->(Zd x cs ts m)->(ts.length=n)->(∀H',aE H H'->Q (.bl true) H')->zS K C vs H Q E_
theorem J8:zzz T dQ 5 51 ["dialect","others","most","thing"] (zS K (av 70)):=by
 have J9:=Hv T
 have yT:=De T
 refine T.Cz.ok JK 'e' 'a'
 ·obtain⟨y,dy,o,v,n,os,x,cs,m,ts,rfl,_⟩:=h;rfl
 ·have hu:=aS hr
  obtain⟨y,dy,o,v,n,os,x,cs,m,ts,rfl,hy,g,ho,mk,gs,hcl,hv,QY,hn,k⟩:=h
  obtain⟨b,s,u,us,rfl,hb,hs,hu',om⟩:=hv
  refine⟨_,(aj (aP (PW.pt (ia (bT (bD (iz (ki K rfl) T.bq (af (pv 3) (af (KP "tuple" T.lG) ah))))) (fD (eH vC (iz (aU K rfl) T.bR (af (pv 3) ah)) aq)))) (ak (ay fJ)) aC)
   (ak (ay (oR (e9 yT hr T.Fp T.yG.kp T.Fo (af (pv 0) (af (pv 2) (af (vE (Gn K rfl) (pv 3) Ba (Bb aq)) ah)))) (nk (e9 J9 hr T.JS T.zI.kp T.JR (af (pv 1) (af (pv 2) (af (d8 K (pv 3) aq) ah))))))))),?_⟩
  refine⟨_,O,_,_,_,_,O,.sqt hb,O,_,O,dh ⟨_,O,_,_,O,.inr hb,O,_,O,rdJ (by simp) ?_⟩⟩
  dsimp only[Bs]
  refine⟨_,O,_,O,_,O,_,O,_,_,O,hb,(by show ¬(_/\(2:Nat)=3);omega),λpa hpa=>?_⟩
  have s1:=ao (o:=HO.tup [.ref s,.int (m.1.2:Int)]) hpa
  have q1:=ai (H:=H) (a:=pa) (o:=HO.tup [.ref s,.int (m.1.2:Int)])
  rw[show By [V.ref s,.int (m.1.2:Int),.ref u] none (some 2)=[.ref s,.int (m.1.2:Int)]from rfl]
  generalize upd H pa (HO.tup [.ref s,.int (m.1.2:Int)])=H1 at s1 q1⊢
  refine⟨y,dy,.ref pa,n,x,m.1,ts,O,s1 _ _ hy,g,⟨pa,s,O,aX.of q1,aA s1 hs⟩,QY.1,hn,λH2 s2=>⟨_,O,i7 ?_⟩⟩
  have s12:=s1.trans s2
  exact⟨_,O,_,O,_,O,b,_,_,_,O,O,aA s12 hb,O,o,u,n,os,us,cs,m.2,ts,O,s12 _ _ ho,Gz.mono s12 mk,gs,hcl,aA s12 hu',jn s12 om,QY.2,hn,λH3 s3=>k _ (s12.trans s3)⟩
inductive Df(P:Program)(w:World)(K:W.Frag)(C CT CM CP:Addr)(vs:List V)(H:Hp)(Q:VK)(E_:XK):Prop where
 |mk (y dy a o:Addr) (xs os:List V) (t:List (List Str)) (x:cD) (cs:List cD) (lp:Addr) (vs':List V) (ms:List dM):(vs=[.ref y,.ref a,.ref o,.ref lp])->(H y=some (.ins C dy (DK x)))->(vN x)->(H a=some (.lst xs))->(Paired (bX H) xs t)->(TabOk t)->(H o=some (.lst os))->(Gz C H os cs)->((∀c∈cs,vN c))->(cs.length<=20)->(H lp=some (.lst vs'))->(wm K H vs' ms)->(ms.Nodup)->(ms.length<=5000000)->((∀m∈ms,Zd x cs (aD t) m))->(gF cs.length∈ms)->((∀m∈ms,gO (aD t) m=false))->((∀m∈ms,∀e∈d9 x cs (aD t) (ko (x::cs) t) m,e.2∈ms))->(∀H',aE H H'->Q (.bl true) H')->Df P w K C CT CM CP vs H Q E_
theorem Ml:zzz T dQ 12 52 ["dialect","table","others","places"] (Df P w K (av 70) (av 71) (av 72) (av 73)):=by
 have iZ:=lP T
 have ju:=mZ T
 have lQ:=qh T
 have nM:=rV T
 have Mm:=J8 T
 have gh:=ku T
 refine T.Fq.ok jo 'e' 'a'
 ·obtain⟨y,dy,a,o,xs,os,t,x,cs,lp,vs',ms,rfl,_⟩:=h;rfl
 ·have hu:=aS hr
  obtain⟨y,dy,a,o,xs,os,t,x,cs,lp,vs',ms,rfl,hy,gx,ha,pr,tok,ho,mk,gs,hcl,hlp,em,nd,hbig,QY,hst,hgd,abx,k⟩:=h
  have gw:=hr.units
  have mkl:=mk.length
  have eml:=em.length
  refine⟨_,(aj (cP 4 jo.nd (iz (aU K rfl) T.bR (af (e9 gh hr T.mQ T.jF.kp T.mP (af (pv 1) ah)) ah)))
   (aj (aP (PW.pt (ia (bT (bD (iz (cC K rfl) T.bq (af (pv 3) (af (KP "list" T.Bm) ah))))) (fD (bT (bD (iz (jh K rfl rfl) T.u7 (af (cK rfl (show aZ ["dialect","table","others","places","most","known","place","searched"] (au nW) ["place","dialect","others","most"] 1 [0,2,4] _ from DA) (bH K rfl (pv 3)) (λ_ _ _ _=>(ji 0 (show(["place","dialect","others","most"]:List Str).Nodup by decide +kernel))) (λ_ _ _ _=>cB) (λ_ _ _ _=>(e9 Mm hr T.L8 T.Cz.kp T.L7 (af (pv 1) (af (pv 2) (af (pv 3) (af (pv 0) ah))))))) ah))))))) (ak (ay fJ)) aC)
   (aj (cP 5 jo.nd (SJ (ZP P w) (aY P w) rfl rfl))
   (aj (c9 aeF rfl (bH K rfl (pv 3)) (ji 6 jo.nd)
   (ak (BG (YP P w K) (aY P w) rfl rfl rfl (hp2 gw) (pv 5) (pv 6) fJ rfl)))
   (aj (aP (KW (uO (YP P w K) (aY P w) rfl rfl rfl (hp2 gw) (e9 nM hr T.ua T.nI.kp T.t9 (af (pv 2) ah)) (pv 5))) (ak (ay fJ)) aC)
   (aj (cP 7 jo.nd (iB (k:=10) T.JY iZ (hr.mono 'c') rfl T.JX T.mT .nil cO (af (pv 0) (af (pv 1) (af (pv 2) ah)))))
   (aj (VG (ZP P w) (aY P w) rfl rfl (c9 aeF rfl (IP (YP P w K) (aY P w) rfl rfl rfl (pv 5)) (ji 6 jo.nd)
   (ak (aP (PW.pt (ia (bD (dw (k:=2) (pv 7) T.dj T.ou ju (hr.mono 'c') T.oq .nil cO (af (pv 6) ah))) (fD (bT (bD (iz (jh K rfl rfl) T.u7 (af (cK rfl (show aZ ["dialect","table","others","places","most","known","place","searched"] (au nW) ["lead","known"] 1 [5] _ from DA) (bH K rfl (dw (k:=6) (pv 7) T.dj T.rH lQ (hr.mono 'c') T.rG .nil cO (af (pv 6) ah))) (λ_ _ _ _=>(ji 0 (show(["lead","known"]:List Str).Nodup by decide +kernel))) (λ_ _ _ _=>cB) (λ_ _ _ _=>(XJ (VI (YP P w K) (aY P w) rfl rfl rfl (hp2 gw) (d8 K (pv 0) aq) (pv 1))))) ah))))))) (ak (ay fJ)) aC))))
   (ak (ay fJ))))))))),?_⟩
  refine⟨_,O,a,xs,t,O,ha,pr,tok,λl1 ys H1 ad2 hl1 tp s1=>?_⟩
  have tl:=tp.length
  refine⟨_,_,O,.inl (aT.of hl1),?_⟩
  dsimp only[bF]
  obtain⟨n,en⟩:∃n:Nat,n=ys.length:=⟨_,rfl⟩
  rw[←en]at tl⊢
  generalize hts:aD t=ts at tp tl QY hgd abx
  have ZV:=s1 _ _ hlp
  refine⟨_,O,_,_,_,_,O,.lst ZV,.inl ⟨_,⟨O,O⟩⟩,_,O,dh ⟨_,O,lp,O,⟨_,aT.of ZV⟩,λD hD=>?_⟩⟩
  refine cL (K:=K) (a:=lp) (xs:=vs') (λi ws τ J=>(∃v,τ=[v,some (.ref y),some (.ref o),some (.int n)])/\aE H1 J/\J D=some (.lst ws)/\ws=(List.replicate i true).map V.bl) ⟨⟨_,rfl⟩,ao hD,ai,rfl⟩ (λi ws τ J _ p=>⟨aT.of (p.2.1 _ _ ZV),p.2.2.1⟩) ?_ ?_
  ·rintro i e ws τ J hi ⟨⟨v,rfl⟩,sJ,hJ,hws⟩
   obtain⟨m,hm,hv⟩:=aN em i e hi
   have hil:=(ad8.mp hi).1
   have WB:=s1.trans sJ
   have hwl:ws.length=i:=by rw[hws,aec,ae9]
   refine qu ?_
   refine⟨_,O,_,O,_,O,_,O,y,dy,o,e,n,os,x,cs,m,ts,O,WB _ _ hy,gx,WB _ _ ho,Gz.mono WB mk,gs,hcl,cy WB hv,QY m (aen hm),tl.symm,λJ2 s2=>?_⟩
   exact⟨s2 _ _ hJ,aem (show ws.length<=5000000 by omega) 'c',⟨_,O⟩,aM hD (sJ.trans s2),ai,by rw[hws,afJ,aeo];rfl⟩
  rintro ws τ J ⟨⟨v,rfl⟩,sJ,hJ,rfl⟩
  refine⟨D,_,O,aT.of hJ,?_⟩
  rw[show(List.replicate vs'.length true).all id=true from aeP.mpr λb hb=>(List.mem_replicate.mp hb).2]
  refine⟨_,O,dh ?_⟩
  dsimp only[Bs]
  have WB:=s1.trans sJ
  refine λkn hkn=>?_
  have sK:=ao (o:=dN (ZP P w) (aY P w) kn []) hkn
  have c0:JD P w K (upd J kn (dN (ZP P w) (aY P w) kn [])) kn (T5 (ms.take 0)):=⟨[],⟨ai,λe he=>nomatch he⟩,.nil⟩
  have aby:H kn=none:=WB.free hkn
  generalize upd J kn (dN (ZP P w) (aY P w) kn [])=J0 at sK c0⊢
  dsimp only[bF]
  have abz:=WB _ _ hlp
  refine⟨_,O,lp,O,⟨_,aT.of (sK _ _ abz)⟩,?_⟩
  refine iA (K:=K) (a:=lp) (xs:=vs') (λi σ G=>aE J G/\JD P w K G kn (T5 (ms.take i))/\∃v6 v7,σ=[some (.ref y),some (.ref a),some (.ref o),some (.ref lp),some (.int n),some (.ref kn),v6,v7]) ⟨sK,c0,_,_,rfl⟩ (λi σ G _ q=>aT.of (q.1 _ _ abz)) ?_ ?_
  ·rintro i e σ G hi ⟨sG,ca,v6,v7,rfl⟩
   obtain⟨m,hm,hv⟩:=aN em i e hi
   have hil:=(ad8.mp hi).1
   have Hs:=cy (WB.trans sG) hv
   obtain⟨b,rfl⟩:=jy Hs
   obtain⟨kvs,d,cr⟩:=ca.ok
   have kl:=afm cr
   have kl2:(T5 (ms.take i)).length<=5000000:=by unfold T5;rw[aec,aey];omega
   have hno:cX (T5 (ms.take i)) m=false:=by
    cases q:cX (T5 (ms.take i)) m with
    |false=>rfl
    |true=>exact absurd (GO.mp q) (T7 nd hm)
   dsimp only[bF]
   refine⟨_,O,_,O,kn,kvs,bE m,b,O,O,d,jx Hs,aem (show kvs.length<=5000000 by omega) 'c',aM hkn sG,?_,_,_,O⟩
   rw[aO hm,T6]
   exact JD.put d cr Hs hno
  rintro σ G ⟨sG,ca,v6,v7,rfl⟩
  rw[eml,aek (ad6 _)]at ca
  have s0G:=WB.trans sG
  refine⟨_,O,o,os,O,s0G _ _ ho,by omega,λv0 H2 s2 hv0=>?_⟩
  rw[mkl]at hv0
  obtain⟨b0,rfl⟩:=jy hv0
  have ca2:=ca.mono s2
  obtain⟨kvs,d,cr⟩:=ca2.ok
  refine⟨_,O,kn,kvs,bE (gF cs.length),b0,O,O,d,jx hv0,_,O,?_⟩
  rw[sW cr,GO.mpr hst]
  refine dh ?_
  have KS:=s0G.trans s2
  dsimp only[Bs]
  refine⟨_,O,_,O,_,O,λq dq hq PN ne=>⟨q,dq,y,dy,a,o,xs,os,t,x,cs,O,ai,cF hq PN (KS _ _ hy),gx,cF hq PN (KS _ _ ha),aI (λa b h=>bX.mono (KS.trans (ie hq PN)) h) pr,tok,cF hq PN (KS _ _ ho),Gz.mono (KS.trans (ie hq PN)) mk,gs,hcl,λH3 hP kp=>⟨O,?_⟩⟩⟩
  rw[hts]at hP
  have s3:=gk hq PN kp
  have s03:=KS.trans s3
  have ca3:=ca2.mono s3
  clear d cr kvs
  obtain⟨kvs,d,cr⟩:=ca3.ok
  dsimp only[bF]
  refine⟨_,O,kn,kvs,O,d,λob=>?_⟩
  have tq:=jK (F:=K) d.ob (o:=dX (ZP P w) (aY P w) kn kvs ob)
  have hx:=ai (H:=H3) (a:=kn) (o:=dX (ZP P w) (aY P w) kn kvs ob)
  have hP2:=B7.ext (o:=dX (ZP P w) (aY P w) kn kvs ob) d.ob tq hP
  have cr2:=tV.keep tq cr
  have dk2:∀e∈kvs,oX (YP P w K) (upd H3 kn (dX (ZP P w) (aY P w) kn kvs ob)) e.1 e.2.1:=λe he=>(d.keys e he).keep tq
  have sX:aE H (upd H3 kn (dX (ZP P w) (aY P w) kn kvs ob)):=aM aby s03
  generalize upd H3 kn (dX (ZP P w) (aY P w) kn kvs ob)=G0 at hx hP2 cr2 dk2 sX⊢
  have Fz:(ko (x::cs) t).length<=1000:=by
   have Wk:∀c∈x::cs,vN c:=λc hc=>by
    rcases aeh.mp hc with q|q
    ·rw[q];exact gx
    ·exact gs c q
   have:=JC Wk tok
   rw[aex]at this
   omega
  refine SH (λi σ G'=>aE G0 G'/\∃v6,σ=[some (.ref y),some (.ref a),some (.ref o),some (.ref lp),some (.int n),some (.ref kn),v6,some (.ref q)]) ⟨aE.refl _,_,rfl⟩ (λi σ G' _ q=>q.1 _ _ hx) ?_ ?_
  ·rintro i e σ G' hi ⟨sG',v6',rfl⟩
   obtain⟨pm,hpm,hke,hv⟩:=aN cr2 i e hi
   obtain⟨m,hm,Px⟩:∃m∈ms,pm=(m,none):=by
    obtain⟨m,h1,h2⟩:=aeR.mp (aen hpm)
    exact⟨m,h1,h2.symm⟩
   subst Px
   have hP':=hP2.mono sG'
   obtain⟨dyq,mm,lm,msq,exq,_⟩:=hP'.ok
   have hlm:cs.length=m.2.length:=(QY m hm).2.length
   dsimp only[bF]
   refine⟨_,O,_,_,_,O,exq,O,_,O,q,.ref e.2.1,m,x,cs,ts,_,O,hP',cy sG' hv,hlm,by omega,λG2 s2=>⟨_,O,?_⟩⟩
   rw[hgd m hm]
   refine dh ?_
   have sG2:=sG'.trans s2
   have hPG:=hP2.mono sG2
   obtain⟨dyq,mm,lm,msq,exq,_⟩:=hPG.ok
   refine⟨_,O,_,_,_,O,exq,O,_,O,q,.ref e.2.1,m,x,cs,ts,_,O,hPG,cy sG2 hv,hlm,by omega,Fz,λll us G3 PD Uu ld sG3=>?_⟩
   have s3':=sG2.trans sG3
   refine⟨ll,O,⟨_,aT.of Uu⟩,λD2 hD2=>?_⟩
   refine cL (K:=K) (a:=ll) (xs:=us) (λj ws τ J=>(∃v,τ=[v,some (.ref kn)])/\aE G3 J/\J D2=some (.lst ws)/\ws=(List.replicate j true).map V.bl) ⟨⟨_,rfl⟩,ao hD2,ai,rfl⟩ (λj ws τ J _ p=>⟨aT.of (p.2.1 _ _ Uu),p.2.2.1⟩) ?_ ?_
   ·rintro j e3 ws τ J hj ⟨⟨v,rfl⟩,FF,hJ',hws⟩
    obtain⟨⟨c,m'⟩,IW,t3,w3,rfl,h3,UQ⟩:=aN ld j e3 hj
    have abA:=cy FF UQ
    obtain⟨b3,rfl⟩:=jy abA
    have sJJ:=s3'.trans FF
    have hwl:ws.length=j:=by rw[hws,aec,ae9]
    have hjl:=(ad8.mp IW).1
    have XE:=E5 (x:=x) (cs:=cs) (ts:=ts) (z:=ko (x::cs) t) (m:=m)
    refine qu ?_
    refine⟨_,O,t3,_,_,_,O,O,aX.of (FF _ _ h3),O,_,O,kn,kvs,bE m',b3,O,O,⟨.inr ⟨ob,sJJ _ _ hx⟩,λe he=>(dk2 e he).mono sJJ⟩,jx abA,?_⟩
    rw[ad5 'c',sW cr2,GO.mpr (abx m hm _ (aen IW))]
    exact⟨hJ',aem (show ws.length<=5000000 by omega) 'c',⟨_,O⟩,aM hD2 FF,ai,by rw[hws,afJ,aeo];rfl⟩
   rintro ws τ J ⟨⟨v,rfl⟩,FF,hJ',rfl⟩
   refine⟨D2,_,O,aT.of hJ',?_⟩
   rw[show(List.replicate us.length true).all id=true from aeP.mpr λb hb=>(List.mem_replicate.mp hb).2]
   exact⟨_,O,dh ⟨s3'.trans FF,_,O⟩⟩
  ·rintro σ G' ⟨sG',v6',rfl⟩
   exact⟨_,.inr ⟨kn,kvs,ob,sG' _ _ hx,O⟩,k _ (aM aby (sX.trans sG'))⟩
inductive Dg(K:W.Frag)(C:Addr)(vs:List V)(H:Hp)(Q:VK)(E_:XK):Prop where
 |mk (y dy a o:Addr) (xs os:List V) (t:List (List Str)) (x:cD) (cs:List cD) (v:V):(vs=[.ref y,.ref a,.ref o,v])->(H y=some (.ins C dy (DK x)))->(vN x)->(H a=some (.lst xs))->(Paired (bX H) xs t)->(H o=some (.lst os))->(Gz C H os cs)->((∀c∈cs,vN c))->(cs.length<=20)->(VQ H v)->((∀z,v=.str z->z.length<=10000))->(∀H',aE H H'->Q (.bl (Jv x cs t v)) H')->Dg K C vs H Q E_
theorem Mp:zzz T dQ 10 53 ["dialect","table","others","text"] (Dg K (av 70)):=by
 have yS:=C3 T
 have wY:=D8 T
 refine T.yH.ok LW 'e' 'a'
 ·obtain⟨y,dy,a,o,xs,os,t,x,cs,v,rfl,_⟩:=h;rfl
 ·have hu:=aS hr
  have eo:=hr.aK
  obtain⟨y,dy,a,o,xs,os,t,x,cs,v,rfl,hy,g,ha,pr,ho,mk,gs,hcl,hk,hb,k⟩:=h
  have gw:=hr.units
  have YN:=mk.length
  refine⟨_,(aj (aP (PW.pt (ia (bT (bD (e9 yS hr T.Ff T.yC.kp T.Fe (af (pv 3) ah)))) (fD (eH (kF.orR vC (kF.orR (Yt K rfl gw) (Yx K rfl eo))) (e9 wY hr T.wH T.pJ.kp T.wG (af (pv 0) (af (pv 3) ah))) (pv 1))))) (ak (ay fJ)) aC)
   (ak (ay (Q9 (iz (EI K rfl rfl) T.Um (af (cK rfl (show aZ ["dialect","table","others","text"] (au sP) ["other","table","text"] 1 [1,3] _ from DA) (bH K rfl (pv 2)) (λ_ _ _ _=>(ji 0 (show(["other","table","text"]:List Str).Nodup by decide +kernel))) (λ_ _ _ _=>cB) (λ_ _ _ _=>(DI (kF.orR cE (kF.orR (Ys K rfl gw) (Yy K rfl eo))) (e9 wY hr T.wH T.pJ.kp T.wG (af (pv 0) (af (pv 2) ah))) (pv 1)))) ah)))))),?_⟩
  refine⟨_,O,v,O,hk,hb,λH1 s1=>⟨_,O,?_⟩⟩
  cases hT:NZ v with
  |false =>
   have kk:=k H1 s1
   rw[V9 hT]at kk
   exact i7 (i7 kk)
  |true =>
   obtain⟨z,rfl,hz,hz2⟩:=VR hT
   have eS:Jv x cs t (.str z)=zE x cs t z:=by show(NZ (.str z)&&_)=_;rw[hT];rfl
   rw[eS]at k
   refine dh ?_
   refine⟨_,O,_,O,y,dy,z,x.1,x.2.1,x.2.2.1,x.2.2.2.a,x.2.2.2.b,x.2.2.2.c,x.2.2.2.d,O,s1 _ _ hy,g,hz,hz2,λv1 H2 r1 s2=>?_⟩
   have s12:=s1.trans s2
   refine⟨_,O,abh r1 (N7 (s12 _ _ ha) (aI (λa b h=>bX.mono s12 h) pr)) ?_⟩
   by_cases h1:DM x t z=true
   ·have UO:S0 (runC x z) z=some t:=aez h1
    rw[show S0 (VN x.1 x.2.1 x.2.2.1 x.2.2.2.a x.2.2.2.b x.2.2.2.c x.2.2.2.d z) z=S0 (runC x z) z from rfl,UO,aeb rfl]
    refine⟨_,O,dh ?_⟩
    dsimp only[Bs]
    refine⟨_,O,o,O,⟨_,aT.of (s12 _ _ ho)⟩,λD hD=>?_⟩
    refine cL (K:=K) (a:=o) (xs:=os) (λi ys τ J=>(∃v,τ=[v,some (.ref a),some (.str z)])/\aE H2 J/\J D=some (.lst ys)/\ys=((cs.take i).map λy=>DM y t z).map V.bl) ⟨⟨_,rfl⟩,ao hD,ai,rfl⟩ (λi ys τ J _ p=>⟨aT.of (p.2.1 _ _ (s12 _ _ ho)),p.2.2.1⟩) ?_ ?_
    ·rintro i e ys τ J hi ⟨⟨w,rfl⟩,sJ,hJ,rfl⟩
     have hil:=(ad8.mp hi).1
     obtain⟨x2,UP,y2,dy2,rfl,hy2⟩:=aN mk i e hi
     have s3:=s12.trans sJ
     refine qu ?_
     refine⟨_,O,_,O,y2,dy2,z,x2.1,x2.2.1,x2.2.2.1,x2.2.2.2.a,x2.2.2.2.b,x2.2.2.2.c,x2.2.2.2.d,O,s3 _ _ hy2,gs x2 (aen UP),hz,hz2,λv3 J3 r3 sJ3=>?_⟩
     have s33:=s3.trans sJ3
     refine⟨_,O,abl r3 (N7 (s33 _ _ ha) (aI (λa b h=>bX.mono s33 h) pr)) ?_⟩
     refine⟨sJ3 _ _ hJ,?_,⟨_,O⟩,aM hD (sJ.trans sJ3),ai,?_⟩
     ·rw[aec,aec,aey]
      exact aem (show _<=20 by omega) 'c'
     ·rw[aO UP,aeo,aeo];rfl
    ·rintro ys τ J ⟨⟨w,rfl⟩,sJ,hJ,rfl⟩
     rw[YN,aek (ad6 _)]at hJ
     refine⟨D,cs.map λy=>DM y t z,O,aT.of hJ,?_⟩
     have kk:=k J (s12.trans sJ)
     unfold zE at kk
     rw[h1,Bool.true_and]at kk
     have e:(cs.map λy=>DM y t z).any id=cs.any λy=>DM y t z:=by rw[List.any_map];rfl
     rw[e]
     exact⟨_,O,kk⟩
   ·have UO:DM x t z=false:=qV h1
    have h2:decide (S0 (runC x z) z=some t)=false:=UO
    rw[show S0 (VN x.1 x.2.1 x.2.2.1 x.2.2.2.a x.2.2.2.b x.2.2.2.c x.2.2.2.d z) z=S0 (runC x z) z from rfl,h2]
    have kk:=k H2 s12
    unfold zE at kk
    rw[UO,Bool.false_and]at kk
    exact⟨_,O,i7 kk⟩
inductive Dh(K:W.Frag)(vs:List V)(H:Hp)(Q:VK)(E_:XK):Prop where
 |mk (l:Addr) (ys:List V) (ts:List (Str×Str)) (n:Nat):(vs=[.ref l,.int n])->(H l=some (.lst ys))->(Paired (dU K H) ys ts)->(n<=ts.length)->(ts.length<=9000)->(∀t H',H' t=some (.tup [.int (cellAt (ts.take n)).1,.int (cellAt (ts.take n)).2])->aE H H'->Q (.ref t) H')->Dh K vs H Q E_
theorem Mq:zzz T dQ 1 54 ["tokens","count"] (Dh K):=by
 refine T.Fw.ok g5 'e' 'a'
 ·obtain⟨l,ys,ts,n,rfl,_⟩:=h;rfl
 ·have hu:=aS hr
  obtain⟨l,ys,ts,n,rfl,hl,tp,hn,htl,k⟩:=h
  have gw:=hr.units
  refine⟨_,(aj (cP 2 g5.nd aq)
   (aj (cP 3 g5.nd aq)
   (aj (c9 aeF rfl (bH K rfl (vE (RI K rfl) (pv 0) Ba (Bb (pv 1)))) (ji 4 g5.nd)
   (ak (aP (eH (BF (YL _ _ K) rfl (hn0 gw)) (pv 4) (eG rfl T.Oe)) (ak (cP 3 g5.nd (aR jf (pv 3) aq))) (ak (aP (eH (BF (YL _ _ K) rfl (hn0 gw)) (pv 4) (eG rfl T.Uq)) (aj (cP 2 g5.nd (aR jf (pv 2) aq))
   (ak (cP 3 g5.nd aq))) aC)))))
   (ak (ay (aH (af (pv 2) (af (pv 3) ah)))))))),?_⟩
  have tl:=tp.length
  refine⟨_,O,_,O,_,O,_,_,O,aT.of hl,λl1 hl1=>⟨_,O,⟨_,aT.of ai⟩,?_⟩⟩
  rw[Tu _ _ 'f']
  (have s1:=ao (o:=HO.lst (List.take n ys)) hl1;have g1:=ai (H:=H) (a:=l1) (o:=HO.lst (List.take n ys));generalize upd H l1 (HO.lst (List.take n ys))=H1 at s1 g1⊢)
  have tp1:=zD n (bY s1 tp)
  have htk:(ts.take n).length=n:=by rw[aey];omega
  refine iA (K:=K) (a:=l1) (xs:=ys.take n) (λi σ J=>aE H1 J/\∃v,σ=[some (.ref l),some (.int n),some (.int (cellAt ((ts.take n).take i)).1),some (.int (cellAt ((ts.take n).take i)).2),v]) ⟨aE.refl _,_,rfl⟩ (λi σ J _ q=>aT.of (q.1 _ _ g1)) ?_ ?_
  ·rintro i e σ J hi ⟨sJ,v,rfl⟩
   obtain⟨t,ht,a,rfl,ha⟩:=aN tp1 i e hi
   have hil:i<(ys.take n).length:=(ad8.mp hi).1
   rw[aey]at hil
   have hc:cellAt ((ts.take n).take (i+1))=Tv (cellAt ((ts.take n).take i)) t:=by rw[aO ht];unfold cellAt;rw[aeN];rfl
   rw[hc]
   have hb:=yi ((ts.take n).take i) (0,0)
   rw[aey]at hb
   have hb:(cellAt ((ts.take n).take i)).1<=9000/\(cellAt ((ts.take n).take i)).2<=9000:=by unfold cellAt;omega
   generalize cellAt ((ts.take n).take i)=rc at hb⊢
   have haJ:=aA sJ ha
   dsimp only[bF]
   refine⟨_,rfl,a,(av 88),_,_,rfl,rfl,kh (P:=P) (w:=w) haJ,kh (P:=P) (w:=w) (.inr T.Og),_,rfl,rd2 (λh1=>?_) (λh1=>?_)⟩
   ·have h1:=gi.mp h1
    have e1:t=mG:=h1
    refine⟨_,O,_,_,O,O,sJ,some (.ref a),?_⟩
    unfold Tv
    rw[aee e1]
    rfl
   ·have h1:¬t=mG:=λq=>h1 (gi.mpr q)
    refine⟨_,rfl,a,(av 89),_,_,rfl,rfl,kh (P:=P) (w:=w) haJ,kh (P:=P) (w:=w) (.inr T.Ur),_,rfl,rd2 (λh2=>?_) (λh2=>?_)⟩
    ·have h2:=gi.mp h2
     have e2:t=GA:=h2
     refine⟨_,O,_,_,O,O,sJ,some (.ref a),?_⟩
     unfold Tv
     rw[ad5 h1,aee e2]
     rfl
    ·have h2:¬t=GA:=λq=>h2 (gi.mpr q)
     refine⟨sJ,some (.ref a),?_⟩
     unfold Tv
     rw[ad5 h1,ad5 h2]
     rfl
  rintro σ J ⟨sJ,v,rfl⟩
  rw[aey,show min n ys.length=n by omega,aek 'f']
  refine⟨_,O,_,O,(by show 2<=sizeLine;decide),λt ht=>?_⟩
  exact k t _ ai (s1.trans (sJ.trans (ao ht)))
inductive jd(K:W.Frag)(C CT CM:Addr)(vs:List V)(H:Hp)(Q:VK)(E_:XK):Prop where
 |mk (m dm x dx l:Addr) (ys:List V) (ts:List (Str×Str)) (p q f:Str) (b1 b2 b3 b4:Bool):(vs=[.ref m,.ref x,.ref l])->(H m=some (.ins CM dm []))->(H x=some (.ins C dx (zy p q f b1 b2 b3 b4)))->(Gd p q f)->(H l=some (.lst ys))->(Paired (dU K H) ys ts)->(∀H',oN K C CT CM H' m p q f b1 b2 b3 b4 ts->(∀b o,H b=some o->b≠m->H' b=some o)->Q .non H')->jd K C CT CM vs H Q E_
theorem qy:zzz T dQ 8 6 ["self","dialect","tokens"] (jd K (av 70) (av 71) (av 72)):=by
 have fu:=jt T
 refine T.mK.ok k8 'e' 'a'
 ·obtain⟨m,dm,x,dx,l,ys,ts,p,q,f,b1,b2,b3,b4,rfl,_⟩:=h;rfl
 ·have hu:=aS hr
  obtain⟨m,dm,x,dx,l,ys,ts,p,q,f,b1,b2,b3,b4,rfl,hm,hx,g,hl,tp,k⟩:=h
  refine⟨_,(aj (fE (pv 0) (iB (k:=6) T.Me fu (hr.mono 'c') rfl T.Mc T.jR .nil cO (af (pv 1) ah)) rfl)
   (ak (fE (pv 0) (pv 2) rfl))),?_⟩
  refine⟨_,O,λy dy hy QT ne=>⟨y,dy,x,dx,p,q,f,b1,b2,b3,b4,O,ai,cF hy QT hx,g,λH2 hT kp=>⟨O,?_⟩⟩⟩
  have s2:=gk hy QT kp
  have hm2:=s2 _ _ hm
  refine⟨_,O,m,(av 72),dm,_,O,hm2,T.cg,T.fz,(by show 0<1000;decide),?_⟩
  refine⟨_,O,_,O,m,(av 72),dm,_,O,ai,T.cg,T.cu,(by show 1<1000;decide),?_⟩
  have nlm:l≠m:=λq=>by rw[q,hm]at hl;cases hl
  refine k _ ⟨dm,y,l,ys,ai,?_,(az nlm).trans ((az nlm).trans (s2 _ _ hl)),gM ai (gM hm2 (bY s2 tp))⟩ λb o e hb=>(az hb).trans ((az hb).trans (s2 _ _ e))
  refine Tn.off ai ?_ ?_ (Tn.off hm2 ?_ ?_ hT)
  ·intro d fs q;injection q with q1 q2 q3;injection q3 with q4 q5;injection q4 with q6 q7;exact absurd q6 'b'
  ·intro d q;injection q with q1 q2 q3;injection q3 with q4 q5;injection q4 with q6 q7;exact absurd q6 'b'
  ·intro d fs q;injection q with q1 q2 q3;cases q3
  ·intro d q;injection q with q1 q2 q3;cases q3
inductive gQ(K:W.Frag)(C CT CM:Addr)(vs:List V)(H:Hp)(Q:VK)(E_:XK):Prop where
 |mk (m:Addr) (v:V) (mk:aW) (c:Nat) (ts:List (Str×Str)) (p q f:Str) (b1 b2 b3 b4:Bool):(vs=[.ref m,v,.str (sg c)])->(oN K C CT CM H m p q f b1 b2 b3 b4 ts)->(dF K H mk v)->(∀v' H',aE H H'->nF K (fh p q f b1 b2 b3 b4 ts mk c) H' v'->Q v' H')->gQ K C CT CM vs H Q E_
theorem nN:zzz T dQ 5 35 ["self","mark","sign"] (gQ K (av 70) (av 71) (av 72)):=by
 have gy:=mX T
 have iX:=qf T
 refine T.jG.ok bu 'e' 'a'
 ·obtain⟨m,v,mk,c,ts,p,q,f,b1,b2,b3,b4,rfl,_⟩:=h;rfl
 ·have hu:=aS hr
  obtain⟨m,v,mk,c,ts,p,q,f,b1,b2,b3,b4,rfl,hM,hv,k⟩:=h
  obtain⟨dm,y,l,ys,em,eT,el,tp⟩:=hM.ok
  obtain⟨b,s,rfl,hb,hs⟩:=hv
  obtain⟨dy,d,dd,ey,ed⟩:=eT.ok
  refine⟨_,(aj (aP (eH gX (pv 1) bf) (ak (ay bf)) aC)
   (aj (cP 3 bu.nd (dw (k:=4) 'h' T.gu T.jr gy (hr.mono 'c') T.jq .nil cO (af (d8 K (pv 1) aq) (af (pv 2) ah))))
   (aj (aP (eH gX (pv 3) bf) (ak (ay bf)) aC)
   (aj (cP 4 bu.nd (e9 iX hr T.lE T.iR.kp T.lD (af 'h' (af (d8 K (pv 1) aq) (af (d8 K (pv 3) aq) (af (pv 2) ah))))))
   (ak (ay (kE (eH gX (pv 4) bf) bf (aH (af (d8 K (pv 3) aq) (af (pv 4) ah)))))))))),?_⟩
  unfold fh at k
  refine⟨_,rfl,rfl,_,rfl,DF (λz=>nomatch z) (⟨_,rfl,_,_,_,_,_,rfl,em,T.cg,T.fz,rfl,_,_,_,rfl,ey,rfl,_,rfl,_,_,_,_,rfl,rfl,hb,rfl,_,rfl,_,_,_,_,_,_,_,_,_,_,_,_,rfl,eT,hs,λv5 H5 s5 r=>?_⟩)⟩
  cases hL:fY p q f b1 b2 b3 b4 mk.1.1 mk.1.2 c with
  |none =>
   rw[hL]at r k
   have r:v5=.non:=r
   subst r
   have k:∀v' H',aE H H'->nF K none H' v'->Q v' H':=k
   exact⟨_,O,O,_,O,rdD rfl (k _ _ s5 rfl)⟩
  |some kwu =>
   obtain⟨kd,w3,u3⟩:=kwu
   rw[hL]at r k
   obtain⟨a,b2,rfl,ha,hb2⟩:=r
   have k:∀v' H',aE H H'->nF K (match i9 ts mk.2 kd (sg c) with|none=>none|some n=>some ((w3,u3),n)) H' v'->Q v' H':=k
   have Ws:=s5 _ _ em
   have el5:=s5 _ _ el
   have tp5:=bY s5 tp
   have hb5:=aA s5 hb
   refine⟨_,rfl,rfl,_,rfl,DF (λz=>nomatch z) ?_⟩
   refine⟨_,O,_,_,_,_,_,O,Ws,T.cg,T.cu,O,_,O,_,_,_,_,O,O,hb5,O,_,O,_,_,_,_,O,O,ha,O,_,O,l,ys,ts,mk.2,kd,sg c,O,el5,tp5,λH6 s6=>?_⟩
   have s56:=s5.trans s6
   cases hC:i9 ts mk.2 kd (sg c) with
   |none =>
    rw[hC]at k
    exact⟨_,O,O,_,O,rdD rfl (k _ _ s56 rfl)⟩
   |some n =>
    rw[hC]at k
    refine⟨_,rfl,rfl,_,rfl,DF (λz=>nomatch z) ⟨_,rfl,_,_,_,_,rfl,rfl,aA s6 ha,rfl,_,rfl,(by show 2<=sizeLine;decide),λt ht=>?_⟩⟩
    exact k _ _ (s56.trans (ao ht)) ⟨t,b2,rfl,aX.of ai,aA (s6.trans (ao ht)) hb2⟩
inductive gC(K:W.Frag)(C CT CM:Addr)(vs:List V)(H:Hp)(Q:VK)(E_:XK):Prop where
 |mk (m:Addr) (v:V) (mk:aW) (ts:List (Str×Str)) (p q f:Str) (b1 b2 b3 b4:Bool):(vs=[.ref m,v])->(oN K C CT CM H m p q f b1 b2 b3 b4 ts)->(dF K H mk v)->(∀H',aE H H'->Q (.bl (decide (mk=((Str.ofString "row",'d'),ts.length)))) H')->gC K C CT CM vs H Q E_
theorem lY:zzz T dQ 1 36 ["self","mark"] (gC K (av 70) (av 71) (av 72)):=by
 refine T.ja.ok iO 'e' 'a'
 ·obtain⟨m,v,mk,ts,p,q,f,b1,b2,b3,b4,rfl,_⟩:=h;rfl
 ·have hu:=aS hr
  obtain⟨m,v,mk,ts,p,q,f,b1,b2,b3,b4,rfl,hM,hv,k⟩:=h
  have gw:=hr.units
  obtain⟨dm,y,l,ys,em,eT,el,tp⟩:=hM.ok
  obtain⟨b,s,rfl,hb,hs⟩:=hv
  have tl:=tp.length
  refine⟨_,(ak (ay (DI (BF (YM _ _ K) rfl (hn1 gw)) (pv 1) (aH (af (eG rfl T.gc) (af (iz (aU K rfl) T.bR (af 'h' ah)) ah)))))),?_⟩
  refine⟨_,O,_,O,_,_,_,_,_,O,em,T.cg,T.cu,O,_,_,O,.inl (aT.of el),(by show(2:Nat)<=sizeLine;decide),λt ht=>?_⟩
  (have st:=ao (o:=HO.tup [V.ref (av 87),V.int ↑ys.length]) ht;have g1:=ai (H:=H) (a:=t) (o:=HO.tup [V.ref (av 87),V.int ↑ys.length]);generalize upd H t (HO.tup [V.ref (av 87),V.int ↑ys.length])=H1 at st g1⊢)
  have e1:oX (YM _ _ K) H1 (cA mk) b:=iC (P:=P) (w:=w) (aA st hb) (aA st hs)
  have e2:oX (YM _ _ K) H1 (cA ((Str.ofString "row",'d'),ts.length)) t:=iC (P:=P) (w:=w) (m:=((Str.ofString "row",'d'),ts.length)) (by rw[←tl];exact aX.of g1) (.inr T.gg)
  refine⟨b,t,_,_,O,O,e1,e2,?_⟩
  have ed:decide (cA mk=cA ((Str.ofString "row",'d'),ts.length))=decide (mk=((Str.ofString "row",'d'),ts.length)):=by rw[aeS,aeO,aeO];exact nV
  rw[ed]
  exact k _ st
inductive lR(K:W.Frag)(C CT CM CW:Addr)(vs:List V)(H:Hp)(Q:VK)(E_:XK):Prop where
 |mk (z dz x dx l:Addr) (ys:List V) (ts:List (Str×Str)) (p q f:Str) (b1 b2 b3 b4:Bool):(vs=[.ref z,.ref x,.ref l])->(H z=some (.ins CW dz []))->(H x=some (.ins C dx (zy p q f b1 b2 b3 b4)))->(Gd p q f)->(H l=some (.lst ys))->(Paired (dU K H) ys ts)->(∀H',Y7 K C CT CM CW H' z p q f b1 b2 b3 b4 ts->(∀b o,H b=some o->b≠z->H' b=some o)->Q .non H')->lR K C CT CM CW vs H Q E_
theorem vf:zzz T dQ 10 55 ["self","dialect","tokens"] (lR K (av 70) (av 71) (av 72) (av 74)):=by
 have iW:=lN T
 have fR:=qy T
 refine T.wI.ok uY 'e' 'a'
 ·obtain⟨z,dz,x,dx,l,ys,ts,p,q,f,b1,b2,b3,b4,rfl,_⟩:=h;rfl
 ·have hu:=aS hr
  obtain⟨z,dz,x,dx,l,ys,ts,p,q,f,b1,b2,b3,b4,rfl,hz,hx,g,hl,tp,k⟩:=h
  refine⟨_,(aj (fE (pv 0) (iB (k:=8) T.CI fR (hr.mono 'c') rfl T.CH T.iP .nil cO (af (pv 1) (af (pv 2) ah))) rfl)
   (aj (fE (pv 0) (pv 2) rfl)
   (ak (fE (pv 0) (aR bG (aR bG (Bw (k:=2) (pv 1) T.aL T.mS iW (hr.mono 'c') T.mR .nil cO) (mw rfl T.mV.choose_spec)) aB) rfl)))),?_⟩
  refine⟨_,O,_,O,λm dm hm Wm ne=>⟨m,dm,x,dx,l,ys,ts,p,q,f,b1,b2,b3,b4,O,ai,cF hm Wm hx,g,cF hm Wm hl,bY (ie hm Wm) tp,λH2 hM kp=>⟨O,?_⟩⟩⟩
  have s2:=gk hm Wm kp
  have hz2:=s2 _ _ hz
  refine⟨_,O,z,(av 74),dz,_,O,hz2,T.gv,T.fq,(by show 0<1000;decide),?_⟩
  refine⟨_,O,_,O,z,(av 74),dz,_,O,ai,T.gv,T.gW,(by show 1<1000;decide),?_⟩
  have nx:x≠z:=λq=>by rw[q,hz]at hx;injection hx with hx;injection hx with h1 h2 h3;cases h3
  have nl:l≠z:=λq=>by rw[q,hz]at hl;cases hl
  have hx4:=(az (o:=HO.ins (av 74) dz [("marker",V.ref m),("tokens",V.ref l)]) nx).trans ((az (o:=HO.ins (av 74) dz [("marker",V.ref m)]) nx).trans (s2 _ _ hx))
  have sl:=nY ((p++q)++f)
  have a1:=bz p q
  have a2:=bz (p++q) f
  have hp3:=g.p3;have hq2:=g.q2;have hf2:=g.f2
  have zl:(bU 0).length=1:=by rw[T.jz];decide +kernel
  have sp1:(" ":Str).length=1:=by decide +kernel
  have a3:=bz (gK ((p++q)++f)) (bU 0)
  have szb:1000<=sizeLine:=by decide
  refine⟨_,O,_,_,_,O,hx4,O,_,_,_,_,_,_,_,_,_,O,hx4,g,_,_,O,O,by omega,_,_,O,O,by omega,_,O,_,_,_,_,O,ai,T.gv,T.iT,(by show 2<1000;decide),k _ ?_ λb o e hb=>(az hb).trans ((az hb).trans ((az hb).trans (s2 _ _ e)))⟩
  have h3:(upd H2 z (HO.ins (av 74) dz [("marker",V.ref m)])) z=some (HO.ins (av 74) dz [("marker",V.ref m)]):=ai
  have h4:(upd (upd H2 z (HO.ins (av 74) dz [("marker",V.ref m)])) z (HO.ins (av 74) dz [("marker",V.ref m),("tokens",V.ref l)])) z=some (HO.ins (av 74) dz [("marker",V.ref m),("tokens",V.ref l)]):=ai
  refine⟨dz,m,l,ys,?_,oN.off h4 ?_ ?_ ?_ (oN.off h3 ?_ ?_ ?_ (oN.off hz2 ?_ ?_ ?_ hM)),(az nl).trans ((az nl).trans ((az nl).trans (s2 _ _ hl))),gM h4 (gM h3 (gM hz2 (bY s2 tp)))⟩
  ·rw[T.jz];exact ai
  ·intro y l q;injection q with q1 q2;injection q1 with q3 q4;exact absurd q3 'b'
  ·intro d q;injection q with q1 q2;injection q1 with q3 q4;exact absurd q3 'b'
  ·intro q;injection q with q1 q2;injection q1 with q3 q4;exact absurd q3 'b'
  ·intro y l q;injection q with q1 q2;injection q1 with q3 q4;exact absurd q3 'b'
  ·intro d q;injection q with q1 q2;injection q1 with q3 q4;exact absurd q3 'b'
  ·intro q;injection q with q1 q2;injection q1 with q3 q4;exact absurd q3 'b'
  ·intro y l q;cases q
  ·intro d q;cases q
  ·intro q;cases q
inductive m7(K:W.Frag)(C CT CM CW:Addr)(vs:List V)(H:Hp)(Q:VK)(E_:XK):Prop where
 |mk (x:Addr) (v:V) (mk:aW) (ts:List (Str×Str)) (p q f:Str) (b1 b2 b3 b4:Bool):(vs=[.ref x,v])->(Y7 K C CT CM CW H x p q f b1 b2 b3 b4 ts)->(dF K H mk v)->(∀H',aE H H'->Q (.bl (decide (mk=((Str.ofString "row",'d'),ts.length)))) H')->m7 K C CT CM CW vs H Q E_
theorem wZ:zzz T dQ 2 56 ["self","place"] (m7 K (av 70) (av 71) (av 72) (av 74)):=by
 have c6:=lY T
 refine T.yI.ok wu 'e' 'a'
 ·obtain⟨x,v,mk,ts,p,q,f,b1,b2,b3,b4,rfl,_⟩:=h;rfl
 ·have hu:=aS hr
  obtain⟨x,v,mk,ts,p,q,f,b1,b2,b3,b4,rfl,hW,hv,k⟩:=h
  obtain⟨dx,m,l,ys,ex,eM,el,tp⟩:=hW.ok
  obtain⟨dm,y,l',ys',em,eT,el',tp'⟩:=eM.ok
  refine⟨_,(ak (ay (dw (k:=1) 'h' T.cg T.fH c6 (hr.mono 'c') T.fG .nil cO (af (pv 1) ah)))),?_⟩
  exact⟨_,O,_,_,_,_,_,O,ex,T.gv,T.fq,O,_,_,_,O,em,O,_,O,m,v,mk,ts,p,q,f,b1,b2,b3,b4,O,eM,hv,k⟩
inductive qi(K:W.Frag)(C CT CM CW:Addr)(vs:List V)(H:Hp)(Q:VK)(E_:XK):Prop where
 |mk (x:Addr) (v:V) (mk:aW) (ts:List (Str×Str)) (p q f:Str) (b1 b2 b3 b4:Bool):(vs=[.ref x,v])->(Y7 K C CT CM CW H x p q f b1 b2 b3 b4 ts)->(dF K H mk v)->(Gd p q f)->(mk.2<ts.length)->((∀t∈ts,t.2.length<=1))->(∀l vs H',H l=none->H' l=some (.lst vs)->ri K H' vs (di p q f b1 b2 b3 b4 ts mk)->aE H H'->Q (.ref l) H')->qi K C CT CM CW vs H Q E_
theorem AG:zzz T dQ 6 57 ["self","place"] (qi K (av 70) (av 71) (av 72) (av 74)):=by
 have dG:=nN T
 have CZ:=Ho T
 refine T.CA.ok jQ 'e' 'a'
 ·obtain⟨x,v,mk,ts,p,q,f,b1,b2,b3,b4,rfl,_⟩:=h;rfl
 ·have hu:=aS hr
  obtain⟨x,v,mk,ts,p,q,f,b1,b2,b3,b4,rfl,hW,hv,g,hn,ht1,k⟩:=h
  obtain⟨dx,m,l,ys,ex,eM,el,tp⟩:=hW.ok
  obtain⟨b,s,rfl,hb,hs⟩:=hv
  refine⟨_,(aj (cP 2 jQ.nd (e9 CZ hr T.L0 T.GV.kp T.LZ (af (aR bG 'h' (d8 K (Lx K 'h' (d8 K (pv 1) aq)) aq)) ah)))
   (aj (NG (i:=3) rfl jQ.nd rfl rfl (show aZ ["self","place","signs","found"] (au fX) ["sign","place","self"] 1 [1,0] _ from DA) (oW (pv 2)) (λ_ _ _ _=>(ji 0 (show(["sign","place","self"]:List Str).Nodup by decide +kernel))) (λ_ _ _ _=>cB) (λ_ _ _ _=>(aH (af (pv 0) (af (dw (k:=5) (aQ K rfl (pv 2) rfl) T.cg T.f7 dG (hr.mono 'c') T.f6 .nil cO (af (pv 1) (af (pv 0) ah))) ah)))))
   (ak (ay (cK rfl (show aZ ["self","place","signs","found"] (au fX) ["lead"] 1 [] _ from DA) (bH K rfl (pv 3)) (λ_ _ _ _=>(ji 0 O3)) (λ_ _ _ _=>(Vf (eH mj (d8 K (pv 0) aq) bf))) (λ_ _ _ _=>(pv 0))))))),?_⟩
  have tl:=tp.length
  obtain⟨t,ht⟩:∃t,ts[mk.2]?=some t:=⟨_,aeB hn⟩
  obtain⟨y,hy⟩:∃y,ys[mk.2]?=some y:=⟨_,aeB 'f'⟩
  obtain⟨t',ht',a,rfl,ha⟩:=aN tp mk.2 y hy
  rw[ht]at ht';cases ht'
  have hat:OB ys (mk.2:Int)=some (.ref a):=Bc hy
  have hl1:=ht1 t (aen ht)
  have sl:=nY ((p++q)++f)
  have a1:=bz p q
  have a2:=bz (p++q) f
  have hp3:=g.p3;have hq2:=g.q2;have hf2:=g.f2
  have ul:(QU p q f).length<=9:=by
   unfold QU
   have n1:(Str.ofString "\n").length=1:=by decide +kernel
   have n2:(" ":Str).length=1:=by decide +kernel
   have a3:=bz (gK ((p++q)++f)) (Str.ofString "\n")
   have a4:=bz (gK ((p++q)++f)++Str.ofString "\n") (" ":Str)
   omega
  have a5:=bz (QU p q f) t.2
  have szb:1000<=sizeLine:=by decide
  have sl2:=nY (QU p q f++t.2)
  refine⟨_,O,_,_,_,_,_,O,ex,T.gv,T.iT,O,_,O,_,_,_,_,_,O,ex,T.gv,T.gW,O,_,O,_,_,_,_,O,O,hb,O,_,_,_,_,O,O,aT.of el,hat,_,_,_,_,O,O,ha,O,_,_,O,O,'f',_,O,'f',_,O,_,O,λD hD=>?_⟩
  have acJ:(gK (QU p q f++t.2)).cps.toList.length<=20:=by rw[aeq];show(gK (QU p q f++t.2)).length<=20;omega
  have acK:di p q f b1 b2 b3 b4 ts mk=(gK (QU p q f++t.2)).cps.toList.filterMap λc=>(fh p q f b1 b2 b3 b4 ts mk c).map λm'=>(c,m'):=by unfold di;rw[ht]
  rw[acK]at k
  generalize gK (QU p q f++t.2)=zs at acJ k⊢
  refine vG (z:=zs) (λi vs τ J=>(∃v,τ=[v,some (.ref b),some (.ref x)])/\aE H J/\J D=some (.lst vs)/\Ah K (fh p q f b1 b2 b3 b4 ts mk) J vs (zs.cps.toList.take i)) ⟨⟨_,rfl⟩,ao hD,ai,.nil⟩ (λi vs τ J _ p=>p.2.2.1) ?_ ?_
  ·rintro i c vs τ J hi ⟨⟨v,rfl⟩,sJ,hJ,fd⟩
   have hil:i<zs.cps.toList.length:=(ad8.mp hi).1
   have hvl:=fd.length
   rw[aey]at hvl
   have eMJ:=eM.mono sJ
   obtain⟨dm,y,l',ys',em,eT,el',tp'⟩:=eMJ.ok
   refine qu ?_
   refine⟨_,O,_,O,_,_,_,_,_,O,sJ _ _ ex,T.gv,T.fq,O,_,_,_,O,em,O,_,O,_,O,m,.ref b,mk,c,ts,p,q,f,b1,b2,b3,b4,O,eMJ,⟨b,s,O,aA sJ hb,aA sJ hs⟩,λv' J2 s2 hv'=>?_⟩
   refine⟨(by show 2<=sizeLine;decide),λt2 Wy=>?_⟩
   have st:=ao (o:=HO.tup [.str (sg c),v']) Wy
   have ZL:=st _ _ (s2 _ _ hJ)
   refine⟨ZL,aem (show vs.length<=100 by omega) 'c',⟨_,O⟩,aM hD (sJ.trans (s2.trans st)),ai,?_⟩
   rw[aO hi]
   exact bM (Ah.but ZL (Ah.mono (s2.trans st) fd)) (Ah.but ZL (.cons ⟨t2,v',rfl,ai,nF.mono st hv'⟩ .nil))
  rintro vs τ J ⟨⟨v,rfl⟩,sJ,hJ,fd⟩
  rw[aek (ad6 _)]at fd
  have hvl:=fd.length
  dsimp only[bF]
  refine⟨_,O,D,O,⟨_,aT.of hJ⟩,λL hL=>?_⟩
  refine cL (K:=K) (a:=D) (xs:=vs) (λi us τ G=>(∃v,τ=[v])/\aE J G/\G L=some (.lst us)/\us.length<=i/\ri K G us ((zs.cps.toList.take i).filterMap λc=>(fh p q f b1 b2 b3 b4 ts mk c).map λm'=>(c,m'))) ⟨⟨_,rfl⟩,ao hL,ai,ad6 _,.nil⟩ (λi us τ G _ p=>⟨aT.of (p.2.1 _ _ hJ),p.2.2.1⟩) ?_ ?_
  ·rintro i e us τ G hi ⟨⟨v,rfl⟩,sG,hG,hul,ld⟩
   have hil:i<vs.length:=(ad8.mp hi).1
   obtain⟨c,hc,t2,w2,rfl,h2,hm⟩:=aN fd i e hi
   have h2G:=sG _ _ h2
   have hmG:=nF.mono sG hm
   rw[aO hc,List.filterMap_append]
   cases hM:fh p q f b1 b2 b3 b4 ts mk c with
   |none =>
    rw[hM]at hmG
    have hmG:w2=.non:=hmG
    subst hmG
    refine⟨_,O,t2,_,_,_,O,O,aX.of h2G,O,O,_,O,rdN rfl ⟨⟨_,O⟩,sG,hG,by omega,?_⟩⟩
    rw[afx,hM]
    simpa using ld
   |some m' =>
    rw[hM]at hmG
    obtain⟨b3,s3,rfl,q1,q2⟩:=(show dF K G m' w2 from hmG)
    refine⟨_,rfl,t2,_,_,_,rfl,rfl,aX.of h2G,rfl,rfl,_,rfl,YA (λz=>nomatch z) ⟨_,rfl,hG,aem (show us.length<=100 by omega) 'c',⟨_,rfl⟩,aM hL sG,ai,by rw[aef];show us.length+1<=_;omega,?_⟩⟩
    rw[afx,hM]
    exact bM (ri.but hG ld) (ri.but hG (.cons ⟨t2,_,rfl,h2G,⟨b3,s3,rfl,q1,q2⟩⟩ .nil))
  ·rintro us τ G ⟨⟨v,rfl⟩,sG,hG,hul,ld⟩
   rw[hvl,aek (ad6 _)]at ld
   exact k L us G (sJ.free hL) hG ld (sJ.trans sG)
inductive w6(P:Program)(w:World)(K:W.Frag)(C CT CM CW:Addr)(vs:List V)(H:Hp)(Q:VK)(E_:XK):Prop where
 |mk (x:Addr) (v:V) (U:List aW) (ts:List (Str×Str)) (p q f:Str) (b1 b2 b3 b4:Bool):(vs=[v,.ref x,.non])->(Y7 K C CT CM CW H x p q f b1 b2 b3 b4 ts)->(Gd p q f)->(dF K H m0 v)->((∀t∈ts,t.2.length<=1))->(U.length<=100000)->(m0∈U)->((∀m∈U,m.2<ts.length->∀e∈di p q f b1 b2 b3 b4 ts m,e.2∈U))->((∀m∈U,m.2<ts.length\/KQ ts m=true))->(∀t rv r a cm H',H a=none->cm.length<=U.length->H' t=some (.tup [rv,.ref a])->nF K r H' rv->eV P w K H' a cm->BS (KQ ts) (di p q f b1 b2 b3 b4 ts) [(m0,none)] [m0] r cm->aE H H'->Q (.ref t) H')->w6 P w K C CT CM CW vs H Q E_
theorem Hw:zzz T dQ 7 40 ["first","searched","most"] (w6 P w K (av 70) (av 71) (av 72) (av 74)):=by
 have yU:=wZ T
 have Di:=AG T
 refine T.wD.ok bZ 'e' 'a'
 ·obtain⟨x,v,U,ts,p,q,f,b1,b2,b3,b4,rfl,_⟩:=h;rfl
 ·have hu:=aS hr
  have eo:=hr.aK
  obtain⟨x,v,U,ts,p,q,f,b1,b2,b3,b4,rfl,hW,g,hv,ht1,hUl,hU0,hU,hUg,k⟩:=h
  have gw:=hr.units
  obtain⟨b,s,rfl,hb,hs⟩:=hv
  refine⟨_,(aj (cP 3 bZ.nd (EK (YM P w K) (bI P w) rfl rfl rfl (hn1 gw) (pv 0) bf))
   (aj (cP 4 bZ.nd (bL (af (pv 0) ah)))
   (aj (vv aeF (eH (NJ K rfl eo) (pv 4) (bL ah))
   (aj (c9 aeF rfl (bH K rfl (pv 4)) (ji 5 bZ.nd)
   (ak (aP (bD (dw (k:=2) (pv 1) T.gv T.yK yU (hr.mono 'c') T.yJ .nil cO (af (pv 5) ah))) (ak (ay (aH (af (pv 5) (af (pv 3) ah))))) aC)))
   (aj (aP (PW.pt (nj (eH mj (pv 2) bf) (jv (eH qD (iz (aU K rfl) T.bR (af (pv 3) ah)) (pv 2))))) (ak (ay (aH (af bf (af (pv 3) ah))))) aC)
   (aj (cP 6 bZ.nd (bL ah))
   (aj (c9 aeF rfl (bH K rfl (pv 4)) (ji 5 bZ.nd)
   (ak (c9 aeF rfl (bH K rfl (dw (k:=6) (pv 1) T.gv T.CC Di (hr.mono 'c') T.CB .nil cO (af (pv 5) ah))) (ji 7 bZ.nd)
   (ak (aP (KW (uO (YM P w K) (bI P w) rfl rfl rfl (hn2 gw) (d8 K (pv 7) aq) (pv 3))) (aj (BG (YM P w K) (bI P w) rfl rfl rfl (hn2 gw) (pv 3) (d8 K (pv 7) aq) (aH (af (pv 5) (af (d8 K (pv 7) aq) ah))) rfl)
   (ak (cH (cT K rfl aeE aeL aeM cI (pv 6) (af (d8 K (pv 7) aq) ah))))) aC)))))
   (ak (cP 4 bZ.nd (pv 6))))))))
   (ak (ay (aH (af bf (af (pv 3) ah)))))))),?_⟩
  refine λa ha=>?_
  have sA:=ao (o:=dN (ZM P w) (bI P w) a []) ha
  refine⟨_,rfl,cA m0,b,rfl,ai,iC (P:=P) (w:=w) (m:=m0) (aA sA hb) (aA sA hs),?_⟩
  have c1:eV P w K (upd (upd H a (dN (ZM P w) (bI P w) a [])) a (dN (ZM P w) (bI P w) a [(cA m0,b,.non)])) a [(m0,none)]:=eV.one ai ⟨b,s,rfl,aA sA hb,aA sA hs⟩
  have s1:aE H (upd (upd H a (dN (ZM P w) (bI P w) a [])) a (dN (ZM P w) (bI P w) a [(cA m0,b,.non)])):=aM ha sA
  generalize upd (upd H a (dN (ZM P w) (bI P w) a [])) a (dN (ZM P w) (bI P w) a [(cA m0,b,.non)])=H1 at c1 s1⊢
  refine⟨_,O,(by show 1<=sizeLine;decide),λl0 uR=>?_⟩
  have s2:=ao (o:=HO.lst [.ref b]) uR
  have g2:=ai (H:=H1) (a:=l0) (o:=HO.lst [.ref b])
  generalize upd H1 l0 (.lst [.ref b])=H2 at s2 g2⊢
  have s12:=s1.trans s2
  dsimp only[bF]
  refine⟨λn σ J=>∃l vs aJ cm v5 v6 v7,σ=[some (.ref b),some (.ref x),some .non,some (.ref a),some (.ref l),v5,v6,v7]/\aE H J/\J l=some (.lst vs)/\BV K J vs aJ/\eV P w K J a cm/\Xr U cm/\(∀m∈aJ,m∈U)/\(∀r sR,BS (KQ ts) (di p q f b1 b2 b3 b4 ts) cm aJ r sR->BS (KQ ts) (di p q f b1 b2 b3 b4 ts) [(m0,none)] [m0] r sR)/\n=2*(U.length-cm.length)+(if aJ=[] then 0 else 1),⟨_,l0,_,[m0],_,_,_,_,O,s12,g2,.cons ⟨b,s,O,aA s12 hb,aA s12 hs⟩ .nil,c1.mono s2,⟨by simp,λm hm=>?_⟩,λm hm=>?_,λr sR q=>q,O⟩,?_⟩
  ·rw[ad7.mp hm];exact hU0
  ·rw[ad7.mp hm];exact hU0
  rintro n σ J ⟨l,vs,aJ,cm,v5,v6,v7,rfl,sJ,hl,em,ca,iu,eU,hR,hn⟩
  refine⟨_,O,'c',λe he=>⟨_,_,_,O,O,aT.of (ao he _ _ hl),aT.of ai,_,O,?_⟩⟩
  have se:=ao (o:=HO.lst []) he
  replace sJ:=sJ.trans se
  replace hl:=se _ _ hl
  replace em:=em.keep λb xs q=>aA se q
  replace ca:=ca.mono se
  generalize upd J e (.lst [])=J1 at sJ hl em ca⊢
  clear se he
  cases em with
  |nil =>
   refine dh ⟨_,rfl,(by show 2<=sizeLine;decide),λt ht=>?_⟩
   exact k t .non none a cm _ ha iu.len ai rfl (ca.mono (ao ht)) (hR _ _ .stop) (sJ.trans (ao ht))
  |@cons v1 e1 vs aJ h1 em =>
  have em:BV K J1 (v1::vs) (e1::aJ):=.cons h1 em
  have hne:e1::aJ≠[]:=λq=>nomatch q
  refine i7 ?_
  generalize e1::aJ=aJ at em hne hn hR eU
  generalize v1::vs=vs at em hl
  rw[ad5 hne]at hn
  refine⟨λσ G=>∃l vs v5 v6 v7,σ=[some (.ref b),some (.ref x),some .non,some (.ref a),some (.ref l),v5,v6,v7]/\aJ.find? (KQ ts)=none/\aE H G/\G l=some (.lst vs)/\BV K G vs (expand (di p q f b1 b2 b3 b4 ts) cm aJ).2/\eV P w K G a (expand (di p q f b1 b2 b3 b4 ts) cm aJ).1/\Xr U (expand (di p q f b1 b2 b3 b4 ts) cm aJ).1/\∀m∈(expand (di p q f b1 b2 b3 b4 ts) cm aJ).2,m∈U,?_,?_⟩
  ·rintro σ G ⟨l,vs,v5,v6,v7,rfl,hf,sG,hl,em,ca,PB,eU'⟩
   refine⟨_,?_,l,vs,_,_,v5,v6,v7,O,sG,hl,em,ca,PB,eU',λr sR q=>hR r sR (.go hne hf q),O⟩
   have e1:=vS (led:=di p q f b1 b2 b3 b4 ts) aJ (cm,[])
   have e2:=PB.len
   have e3:=iu.len
   unfold expand at e2⊢
   rw[hn]
   simp only[afp,afZ]at e1
   by_cases q:(aJ.foldl (lW (di p q f b1 b2 b3 b4 ts)) (cm,[])).2=[]
   ·rw[aee q];rw[q,afp]at e1;omega
   ·rw[ad5 q]
    have:=af1.mpr q
    omega
  refine⟨_,O,l,O,⟨_,aT.of hl⟩,?_⟩
  refine iA (K:=K) (a:=l) (xs:=vs) (λi σ G=>aE J1 G/\(∀m∈aJ.take i,KQ ts m=false)/\∃v5,σ=[some (.ref b),some (.ref x),some .non,some (.ref a),some (.ref l),v5,v6,v7]) ⟨aE.refl _,(λm hm=>nomatch hm),_,rfl⟩ (λi σ G _ q=>aT.of (q.1 _ _ hl)) ?_ ?_
  ·rintro i e2 σ G hi ⟨sG,hno,ZN,rfl⟩
   obtain⟨m,hm,hv⟩:=aN em i e2 hi
   have Hs:=hv.mono sG
   have Uw:=hW.mono (sJ.trans sG)
   obtain⟨dx,mm,ll,ys,ex,eM,el,tp⟩:=Uw.ok
   obtain⟨bx,sx,rfl,q1,q2⟩:=id Hs
   dsimp only[bF]
   refine⟨_,O,_,_,_,O,ex,O,_,O,x,.ref bx,m,ts,p,q,f,b1,b2,b3,b4,O,Uw,Hs,λG2 s2=>⟨_,O,?_⟩⟩
   by_cases hg:KQ ts m=true
   ·refine mE hg ⟨_,rfl,_,rfl,(by show 2<=sizeLine;decide),λt ht=>?_⟩
    have st:=(sG.trans s2).trans (ao (o:=HO.tup [.ref bx,.ref a]) ht)
    exact k t _ (some m) a cm _ ha iu.len ai (hv.mono st) (ca.mono st) (hR _ _ (.found (VW hm hg hno))) (sJ.trans st)
   ·refine pT (qV hg) ⟨sG.trans s2,λm' hm'=>?_,_,rfl⟩
    rw[aO hm]at hm'
    rcases aej.mp hm' with z|z
    ·exact hno m' z
    ·rw[ad7.mp z];exact qV hg
  rintro σ G ⟨sG,hno,ZN,rfl⟩
  rw[em.length,aek (ad6 _)]at hno
  have hf:=VX hno
  replace sJ:=sJ.trans sG
  replace hl:=sG _ _ hl
  replace em:=em.keep λb xs q=>aA sG q
  replace ca:=ca.mono sG
  clear sG
  dsimp only[bF]
  refine⟨_,O,O,_,O,rdN rfl (dh (⟨'c',λlf Pz=>⟨_,O,_,O,⟨_,aT.of (ao Pz _ _ hl)⟩,?_⟩⟩))⟩
  have sf:=ao (o:=HO.lst []) Pz
  have Ux:=ai (H:=G) (a:=lf) (o:=HO.lst [])
  have nlf:lf≠l:=λq=>by rw[q,hl]at Pz;cases Pz
  have flf:H lf=none:=sJ.free Pz
  replace sJ:=sJ.trans sf
  replace hl:=sf _ _ hl
  replace em:=em.keep λb xs q=>aA sf q
  replace ca:=ca.mono sf
  generalize upd G lf (.lst [])=G1 at sJ hl em ca Ux⊢
  clear sf Pz
  refine iA (K:=K) (a:=l) (xs:=vs) (λi σ J=>aE H J/\J l=some (.lst vs)/\BV K J vs aJ/\∃fv v5 v7,σ=[some (.ref b),some (.ref x),some .non,some (.ref a),some (.ref l),v5,some (.ref lf),v7]/\J lf=some (.lst fv)/\BV K J fv ((aJ.take i).foldl (lW (di p q f b1 b2 b3 b4 ts)) (cm,[])).2/\eV P w K J a ((aJ.take i).foldl (lW (di p q f b1 b2 b3 b4 ts)) (cm,[])).1/\Xr U ((aJ.take i).foldl (lW (di p q f b1 b2 b3 b4 ts)) (cm,[])).1/\∀m∈((aJ.take i).foldl (lW (di p q f b1 b2 b3 b4 ts)) (cm,[])).2,m∈U) ⟨sJ,hl,em,[],_,_,rfl,Ux,.nil,ca,iu,λm hm=>nomatch hm⟩ (λi σ J _ q=>aT.of q.2.1) ?_ ?_
  ·rintro i e2 σ J hi ⟨FF,hl',Px,fv,ZN,ZO,rfl,Wt,mf,Uy,PB,fU⟩
   obtain⟨m,hm,hv⟩:=aN Px i e2 hi
   have hmU:=eU m (aen hm)
   have hmt:m.2<ts.length:=by
    rcases hUg m hmU with z|z
    ·exact z
    ·rw[hno m (aen hm)]at z;cases z
   have J6:=hU m hmU hmt
   have ef:(aJ.take (i+1)).foldl (lW (di p q f b1 b2 b3 b4 ts)) (cm,[])=(di p q f b1 b2 b3 b4 ts m).foldl (iy m) ((aJ.take i).foldl (lW (di p q f b1 b2 b3 b4 ts)) (cm,[])):=by rw[aO hm,aeN];rfl
   rw[ef]
   have hal:((aJ.take i).foldl (lW (di p q f b1 b2 b3 b4 ts)) (cm,[])).2.length<=((aJ.take i).foldl (lW (di p q f b1 b2 b3 b4 ts)) (cm,[])).1.length:=by
    have q:=vS (led:=di p q f b1 b2 b3 b4 ts) (aJ.take i) (cm,[])
    simp only[afp,afZ]at q
    omega
   generalize (aJ.take i).foldl (lW (di p q f b1 b2 b3 b4 ts)) (cm,[])=acc at mf Uy PB fU hal⊢
   have Uw:=hW.mono FF
   obtain⟨dx,mm,ll0,ys,ex,eM,el,tp⟩:=Uw.ok
   obtain⟨bx,sx,rfl,q1,q2⟩:=id hv
   dsimp only[bF]
   refine⟨_,O,_,_,_,O,ex,O,_,O,x,.ref bx,m,ts,p,q,f,b1,b2,b3,b4,O,Uw,hv,g,hmt,ht1,λll us J2 PD Uu ld s2=>?_⟩
   have nll:ll≠lf:=λq=>by rw[q,Wt]at PD;cases PD
   have ca2:=Uy.mono s2
   refine⟨ll,O,⟨_,aT.of Uu⟩,?_⟩
   generalize hes:di p q f b1 b2 b3 b4 ts m=es at ld J6⊢
   refine iA (K:=K) (a:=ll) (xs:=us) (λj σ G=>aE H G/\G ll=some (.lst us)/\ri K G us es/\G l=some (.lst vs)/\BV K G vs aJ/\dF K G m (.ref bx)/\∃fv v7,σ=[some (.ref b),some (.ref x),some .non,some (.ref a),some (.ref l),some (.ref bx),some (.ref lf),v7]/\G lf=some (.lst fv)/\BV K G fv ((es.take j).foldl (iy m) acc).2/\eV P w K G a ((es.take j).foldl (iy m) acc).1/\Xr U ((es.take j).foldl (iy m) acc).1/\∀m'∈((es.take j).foldl (iy m) acc).2,m'∈U) ⟨FF.trans s2,Uu,ld,s2 _ _ hl',Px.keep (λb xs q=>aA s2 q),hv.mono s2,fv,_,rfl,s2 _ _ Wt,mf.keep (λb xs q=>aA s2 q),ca2,PB,fU⟩ (λj σ G _ q=>aT.of q.2.1) ?_ ?_
   ·rintro j e3 σ G hj ⟨sG,Mh,ldG,Wu,Wv,Hs,fv,ZO,rfl,Ww,PF,PK,Uz,PL⟩
    obtain⟨⟨c,m'⟩,IW,t3,w3,rfl,h3,UQ⟩:=aN ldG j e3 hj
    have Wx:=J6 _ (aen IW)
    have ev:(es.take (j+1)).foldl (iy m) acc=iy m ((es.take j).foldl (iy m) acc) (c,m'):=by rw[aO IW,aeN];rfl
    rw[ev]
    have ZQ:((es.take j).foldl (iy m) acc).2.length<=((es.take j).foldl (iy m) acc).1.length:=by
     have q:=BW (p:=m) (es.take j) acc
     omega
    generalize (es.take j).foldl (iy m) acc=ac at PF PK Uz PL ZQ⊢
    have iu1:=VV (p:=m) (e:=(c,m')) Uz Wx
    have hlen:=Uz.len
    obtain⟨kvs,d,cr⟩:=PK.ok
    have kl:=Ji cr
    obtain⟨b3,s3,rfl,z1,z2⟩:=id UQ
    have ka:oX (YM P w K) G (cA m') b3:=iC z1 z2
    dsimp only[bF]
    refine⟨_,O,t3,_,_,_,O,O,aX.of h3,O,_,O,a,kvs,cA m',b3,O,O,d,ka,_,O,?_⟩
    rw[BU cr]
    cases hh:dO ac.1 m' with
    |true =>
     have e4:iy m ac (c,m')=ac:=aee hh
     rw[e4]
     exact dh ⟨sG,Mh,ldG,Wu,Wv,Hs,fv,_,rfl,Ww,PF,PK,Uz,PL⟩
    |false =>
     have e4:iy m ac (c,m')=(ac.1++[(m',some (m,c))],ac.2++[m']):=ad5 (by rw[hh];decide)
     rw[e4]at iu1⊢
     refine i7 ?_
     refine⟨_,O,_,O,t3,_,_,_,O,O,aX.of h3,O,(by show 2<=sizeLine;decide),λt4 ht4=>?_⟩
     have s4:=ao (o:=HO.tup [.ref bx,.str (sg c)]) ht4
     have g4:=ai (H:=G) (a:=t4) (o:=HO.tup [.ref bx,.str (sg c)])
     generalize upd G t4 (.tup [.ref bx,.str (sg c)])=G4 at s4 g4⊢
     have d4:=d.mono s4
     have cr4:=cr.keep λb xs q=>aA s4 q
     have hm4:=UQ.mono s4
     have lk4:vQ K (some (m,c)) G4 (.ref t4):=⟨t4,.ref bx,rfl,aX.of g4,Hs.mono s4⟩
     have c5:=eV.put d4 cr4 hm4 hh lk4
     have hkl:kvs.length<sizeLine:=aem (show kvs.length<=100000 by omega) 'c'
     refine⟨_,O,_,O,t3,_,_,_,O,O,aX.of (s4 _ _ h3),O,a,kvs,cA m',b3,O,O,d4,oX.mono s4 ka,hkl,?_⟩
     have tq:=jK (F:=K) d4.ob (o:=dN (ZM P w) (bI P w) a (putN kvs (cA m') b3 (.ref t4)))
     have t1:∀b' xs,G4 b'=some (.tup xs)->(upd G4 a (dN (ZM P w) (bI P w) a (putN kvs (cA m') b3 (.ref t4)))) b'=some (.tup xs):=λb' xs e=>(az (dP e d4.ob (λq=>nomatch q))).trans e
     have tl:∀b' xs,G4 b'=some (.lst xs)->(upd G4 a (dN (ZM P w) (bI P w) a (putN kvs (cA m') b3 (.ref t4)))) b'=some (.lst xs):=λb' xs e=>(az (dP e d4.ob (λq=>nomatch q))).trans e
     have s5:aE H (upd G4 a (dN (ZM P w) (bI P w) a (putN kvs (cA m') b3 (.ref t4)))):=aM ha (sG.trans s4)
     have ll5:=tl _ _ (s4 _ _ Mh)
     have l5:=tl _ _ (s4 _ _ Wu)
     have Ht:=tl _ _ (s4 _ _ Ww)
     have ld5:=(ldG.mono s4).keep t1 tq
     have Ws:=(Wv.keep λb xs q=>aA s4 q).keep tq
     have ZR:=(PF.keep λb xs q=>aA s4 q).keep tq
     have hv5:=(Hs.mono s4).keep tq
     have hm5:=hm4.keep tq
     have h35:=t1 _ _ (s4 _ _ h3)
     generalize upd G4 a (dN (ZM P w) (bI P w) a (putN kvs (cA m') b3 (.ref t4)))=G5 at c5 s5 ll5 l5 Ht ld5 Ws ZR hv5 hm5 h35⊢
     have fvl:=ZR.length
     refine⟨_,O,.inl ⟨O,_,aT.of Ht⟩,_,O,t3,_,_,_,O,O,aX.of h35,O,lf,_,_,O,O,Ht,?_,?_⟩
     ·exact aem (show fv.length<=200000 by rw[fvl];omega) 'c'
     refine⟨aM flf s5,(az nll).trans ll5,ld5.but Ht,(az (afa nlf)).trans l5,Ws.keep (λb xs q=>fO Ht q),hv5.but Ht,fv++[.ref b3],_,O,ai,bM (ZR.keep λb xs q=>fO Ht q) (.cons (hm5.but Ht) .nil),c5.but Ht,iu1,λm1 hm1=>?_⟩
     rcases aej.mp hm1 with z|z
     ·exact PL m1 z
     ·rw[ad7.mp z];exact Wx
   ·rintro σ G ⟨sG,Mh,ldG,Wu,Wv,Hs,fv,ZO,rfl,Ww,PF,PK,Uz,PL⟩
    rw[ld.length,aek (ad6 _)]at PF PK Uz PL
    exact⟨sG,Wu,Wv,fv,_,_,O,Ww,PF,PK,Uz,PL⟩
  ·rintro σ J ⟨FF,hl',Px,fv,ZN,ZO,rfl,Wt,mf,Uy,PB,fU⟩
   rw[em.length,aek (ad6 _)]at mf Uy PB fU
   exact⟨_,O,lf,fv,_,_,_,O,hf,FF,Wt,mf,Uy,PB,fU⟩
inductive ur(P:Program)(w:World)(K:W.Frag)(vs:List V)(H:Hp)(Q:VK)(E_:XK):Prop where
 |mk (a:Addr) (v:V) (cm:Cm) (m:aW) (x:Option (aW×Nat)) (xs:List Nat):(vs=[.ref a,v])->(eV P w K H a cm)->(dF K H m v)->(BX cm m=some x)->(vU cm x xs)->(xs.length<=100000)->(∀H',aE H H'->Q (.str (Txt.join 'd' (xs.map sg).reverse)) H')->ur P w K vs H Q E_
theorem D9:zzz T dQ 1 41 ["came","place"] (ur P w K):=by
 refine T.sZ.ok fZ 'e' 'a'
 ·obtain⟨a,v,cm,m,x,xs,rfl,_⟩:=h;rfl
 ·have hu:=aS hr
  obtain⟨a,v,cm,m,x,xs,rfl,hC,hm,hx,hp,hxl,k⟩:=h
  have gw:=hr.units
  obtain⟨b,s,rfl,hb,hs⟩:=hm
  refine⟨_,(aj (cP 2 fZ.nd (bL ah))
   (aj (cP 3 fZ.nd (vI (YM P w K) (bI P w) rfl rfl rfl (hn2 gw) (pv 0) (pv 1) (λ_ _=>rfl)))
   (aj (vv aeF (eH mj (pv 3) bf)
   (aj (cH (cT K rfl aeE aeL aeM cI (pv 2) (af (d8 K (pv 3) aq) ah)))
   (ak (cP 3 fZ.nd (vI (YM P w K) (bI P w) rfl rfl rfl (hn2 gw) (pv 0) (d8 K (pv 3) aq) (λ_ _=>rfl))))))
   (ak (ay (zw K rfl rfl rfl T.zN aB (af (pv 2) ah))))))),?_⟩
  refine⟨'c',λl hl=>⟨_,O,_,O,?_⟩⟩
  have s1:=ao (o:=HO.lst []) hl
  have hl1:=ai (H:=H) (a:=l) (o:=HO.lst [])
  generalize upd H l (.lst [])=H1 at s1 hl1⊢
  obtain⟨kvs,d,cr⟩:=(hC.mono s1).ok
  obtain⟨v,hv,lv⟩:=BY cr hx
  refine⟨a,kvs,cA m,b,v,O,O,d,iC (aA s1 hb) (aA s1 hs),hv,?_⟩
  dsimp only[bF]
  refine⟨λn σ J=>∃done rest x v,σ=[some (.ref a),some (.ref b),some (.ref l),some v]/\aE H J/\J l=some (.lst ((done.map sg).map V.str))/\vQ K x J v/\vU cm x rest/\xs=done++rest/\n=rest.length,⟨_,[],xs,x,v,O,s1,hl1,lv,hp,O,O⟩,?_⟩
  rintro n σ J ⟨done,rest,x,v,rfl,sJ,PM,lv,hp,hxs,hn⟩
  cases hp with
  |nil =>
   have lv:v=.non:=lv
   subst lv
   rw[aeD]at hxs
   subst hxs
   refine⟨_,O,O,_,O,pT rfl ?_⟩
   refine⟨_,O,_,O,l,xs.map sg,O,aT.of PM,?_,k J sJ⟩
   rw[GC,aec]
   show xs.length+xs.length*0<=_
   omega
  |@cons m1 c1 x1 r1 hx1 hp1 =>
   obtain⟨t,w1,rfl,ht,hw⟩:=lv
   refine⟨_,O,O,_,O,mE rfl ?_⟩
   refine⟨λσ J=>∃v,σ=[some (.ref a),some (.ref b),some (.ref l),some v]/\aE H J/\J l=some (.lst (((done++[c1]).map sg).map V.str))/\vQ K x1 J v,?_,?_⟩
   ·rintro σ J' ⟨v,rfl,FF,hl',lv'⟩
    exact⟨_,by rw[hn];exact afX _,_,_,_,_,O,FF,hl',lv',hp1,by rw[hxs,aeC];rfl,O⟩
   have hdl:done.length<=100000:=by rw[hxs,aef]at hxl;omega
   refine⟨_,O,.inl ⟨O,_,aT.of PM⟩,_,O,t,_,_,_,O,O,ht,O,l,_,_,O,O,PM,?_,?_⟩
   ·exact aem (show((done.map sg).map V.str).length<=100000 by rw[aec,aec];exact hdl) 'c'
   have Wy:=fO (o:=HO.lst ((done.map sg).map V.str++[.str (sg c1)])) PM ht
   obtain⟨kvs,d,cr⟩:=((hC.mono sJ).but (o:=HO.lst ((done.map sg).map V.str++[.str (sg c1)])) PM).ok
   obtain⟨v,hv,lv⟩:=BY cr hx1
   obtain⟨b1,s1,rfl,q1,q2⟩:=hw.keep (λb xs q=>fO (o:=HO.lst ((done.map sg).map V.str++[.str (sg c1)])) PM q)
   refine⟨_,O,_,O,t,_,_,_,O,O,Wy,O,a,kvs,cA m1,b1,v,O,O,d,iC q1 q2,hv,?_⟩
   exact⟨v,O,aM hl sJ,by rw[aeo,aeo];exact ai,lv⟩
inductive zU(P:Program)(w:World)(K:W.Frag)(C CT CM CW CN:Addr)(vs:List V)(H:Hp)(Q:VK)(E:XK):Prop where
 |mk (x dx a:Addr) (xs:List V) (t:List (List Str)) (p q f:Str) (b1 b2 b3 b4:Bool):(vs=[.ref x,.ref a])->(H x=some (.ins C dx (zy p q f b1 b2 b3 b4)))->(Gd p q f)->(H a=some (.lst xs))->(Paired (bX H) xs t)->(TabOk t)->((∀cs H',KR p q f b1 b2 b3 b4 (aD t) cs->LK p q f b1 b2 b3 b4 (aD t) cs.length->cs.length<=1+11*(aD t).length->(∀c∈cs,c=10\/Pn c)->aE H H'->Q (.str (Txt.join 'd' (cs.map sg))) H'))->((∀n,NoW p q f b1 b2 b3 b4 (aD t)->Zc p q f b1 b2 b3 b4 (aD t) n->∀d H',H d=none->H' d=some (Xm d (nwF (cellAt ((aD t).take n)).1 (cellAt ((aD t).take n)).2))->aE H H'->E (.ref CN) (some d) H'))->zU P w K C CT CM CW CN vs H Q E
theorem Ka:zzz T (Vu P w) 12 58 ["dialect","table"] (zU P w K (av 70) (av 71) (av 72) (av 74) (av 85)):=by
 have rX:=qw T
 have xg:=vf T
 have PX:=Mq T
 have C9:=Hw T
 have yR:=D9 T
 have gh:=ku T
 refine T.CD.okE jE 'e' 'a'
 ·obtain⟨x,dx,a,xs,t,p,q,f,b1,b2,b3,b4,rfl,_⟩:=h;rfl
 ·have hu:=aS hr
  obtain⟨x,dx,a,xs,t,p,q,f,b1,b2,b3,b4,rfl,hx,g,ha,pr,tok,k1,k2⟩:=h
  have uo:=uok (b1:=b1) (b2:=b2) (b3:=b3) (b4:=b4) g (sU (t:=t)) (LL tok)
  refine⟨_,(aj (cP 2 jE.nd (e9 gh hr T.mQ T.jF.kp T.mP (af (pv 1) ah)))
   (aj (cP 3 jE.nd (Nu (k:=7) C9 (hr.mono 'c') rfl T.JP T.wD.kp T.zL.choose_spec.2 T.zL.choose_spec.1 cO (af (aH (af (eG rfl T.gc) (af aq ah))) (af (iB (k:=10) T.Ul xg (hr.mono 'c') rfl T.Uk T.wJ .nil cO (af (pv 0) (af (pv 2) ah))) ah))))
   (aj (cP 4 jE.nd (d8 K (pv 3) aq))
   (aj (aP (eH gX (d8 K (pv 3) aq) bf) (aj (cP 5 jE.nd (e9 PX hr T.Pr T.Fw.kp T.Pq (af (pv 2) (af (iz (OU K rfl rfl) T.Zo (af (cK rfl (show aZ ["dialect","table","tokens","found","came","lacking"] (au o9) ["place"] 1 [] _ from DA) (IP (YM P w K) (bI P w) rfl rfl rfl (pv 4)) (λ_ _ _ _=>(ji 0 O3)) (λ_ _ _ _=>cB) (λ_ _ _ _=>(d8 K (pv 0) aq))) ah)) ah))))
   (ak (OZ rfl T.ig (.inr ⟨_,_,rfl,T.gb⟩) T.wN.choose_spec.1 T.wN.choose_spec.2 rX (hr.mono 'c') T.rF T.DX rfl T.zM (af (d8 K (pv 5) aq) (af (d8 K (pv 5) aq) ah))))) aC)
   (ak (ay (e9 yR hr T.Fl T.sZ.kp T.Fj (af (pv 4) (af (d8 K (pv 3) aq) ah))))))))),?_⟩
  refine⟨_,O,a,xs,t,O,ha,pr,tok,λl ts H1 uR hl1 rt s1=>?_⟩
  dsimp only[bF]
  refine⟨(by show 2<=sizeLine;decide),λt2 Wy=>?_⟩
  have s2:=ao (o:=HO.tup [.ref (av 87),.int 0]) Wy
  have h2:=ai (H:=H1) (a:=t2) (o:=HO.tup [.ref (av 87),.int 0])
  generalize upd H1 t2 (HO.tup [.ref (av 87),.int 0])=H2 at s2 h2⊢
  have s12:=s1.trans s2
  refine⟨_,O,_,O,λz dz hz hdz ne=>⟨z,dz,x,dx,l,ts,aD t,p,q,f,b1,b2,b3,b4,O,ai,cF hz hdz (s12 _ _ hx),g,cF hz hdz (s2 _ _ hl1),bY (s2.trans (ie hz hdz)) rt,λH3 hW kp=>⟨O,?_⟩⟩⟩
  have s3:=gk hz hdz kp
  have ZS:=s12.trans s3
  have hm0:dF K H3 m0 (.ref t2):=⟨t2,(av 87),rfl,aX.of (s3 _ _ h2),.inr T.gg⟩
  refine⟨z,.ref t2,uL q (aD t),aD t,p,q,f,b1,b2,b3,b4,O,hW,g,hm0,Te,uo.len,uo.one,uo.shut,uo.good,λtf rv r a2 cm H4 ha2 hcl htf PU IW pC s4=>?_⟩
  have out:=VY pC
  have ule:=Tg g (aD t)
  dsimp only[bF]
  have QW:=ZS.trans s4
  refine⟨_,O,tf,_,_,_,O,O,aX.of htf,O,?_⟩
  dsimp only[bF]
  cases r with
  |none =>
   have PU:rv=.non:=PU
   subst PU
   obtain⟨kvs,nd,cr⟩:=IW.ok
   have hno:∀cs m,fP (di p q f b1 b2 b3 b4 (aD t)) m0 cs m->KQ (aD t) m=false:=λcs m hw=>(out.2 cs m hw).2
   refine⟨_,O,tf,_,_,_,O,O,aX.of htf,O,O,_,O,mE rfl ?_⟩
   have acL:H a2=none:=ZS.free ha2
   have s34:=(s2.trans s3).trans s4
   have hl4:=s34 _ _ hl1
   have rt4:=bY s34 rt
   have nla:l≠a2:=dP hl4 nd.ob (λq=>nomatch q)
   refine⟨_,O,_,O,a2,kvs,O,nd,λo D hD=>?_⟩
   have tq:=jK (F:=K) nd.ob (o:=dX (ZM P w) (bI P w) a2 kvs o)
   have cr5:=cr.keep tq
   have s5:aE H (upd H4 a2 (dX (ZM P w) (bI P w) a2 kvs o)):=aM acL QW
   have hl5:=(az (o:=dX (ZM P w) (bI P w) a2 kvs o) nla).trans hl4
   have rt5:Paired (dU K (upd H4 a2 (dX (ZM P w) (bI P w) a2 kvs o))) ts (aD t):=aI (λv y ⟨b,e1,e2⟩=>⟨b,e1,tq _ _ e2⟩) rt4
   have h5a:(upd H4 a2 (dX (ZM P w) (bI P w) a2 kvs o)) a2=some (dX (ZM P w) (bI P w) a2 kvs o):=ai
   generalize upd H4 a2 (dX (ZM P w) (bI P w) a2 kvs o)=H5 at hD cr5 s5 hl5 rt5 h5a⊢
   have kl:=Ji cr5
   refine OS (λi ys τ G=>(∃v,τ=[v])/\aE H5 G/\G D=some (.lst ys)/\ys=((cm.take i).map (λe=>e.1.2)).map λn:Nat=>V.int n) ⟨⟨_,rfl⟩,ao hD,ai,rfl⟩ (λi ys τ G _ p=>⟨p.2.1 _ _ h5a,p.2.2.1⟩) ?_ ?_
   ·rintro i e ys τ G hi ⟨⟨v,rfl⟩,sG,hG,rfl⟩
    have hil:=(ad8.mp hi).1
    obtain⟨pm,hpm,e1,⟨b,sb,eb,hb,hsb⟩,_⟩:=aN cr5 i e hi
    refine qu ?_
    refine⟨_,O,b,_,_,_,eb,O,aA sG hb,O,hG,?_,⟨_,O⟩,aM hD sG,ai,?_⟩
    ·rw[aec,aec,aey]
     exact aem (show _<=100000 by have:=uo.len;omega) 'c'
    ·rw[aO hpm,aeo,aeo];rfl
   ·rintro ys τ G ⟨⟨v,rfl⟩,sG,hG,rfl⟩
    rw[kl,aek (ad6 _)]at hG
    have hhas:=λcs m hw=>(out.2 cs m hw).1
    refine⟨D,cm.map (λe=>e.1.2),O,aT.of hG,?_,λn hn1 hn2=>?_⟩
    ·have:=vR.mp (hhas [] m0 .nil)
     intro q
     rw[List.map_eq_nil_iff]at q
     rw[q]at this;cases this
    have abB:Zc p q f b1 b2 b3 b4 (aD t) n:=by
     refine⟨?_,λcs m hw=>?_⟩
     ·obtain⟨e,he,e2⟩:=aeR.mp hn1
      obtain⟨n',x',xs',_,_,hw',_⟩:=out.1 e.1 (vR.mpr (aeR.mpr ⟨e,he,rfl⟩))
      exact⟨_,_,hw',e2⟩
     ·obtain⟨e,he,e2⟩:=aeR.mp (vR.mp (hhas cs m hw))
      have:=hn2 e.1.2 (aeR.mpr ⟨e,he,rfl⟩)
      rw[e2]at this
      exact this
    have hW0:NoW p q f b1 b2 b3 b4 (aD t):=(Tw sU).mpr hno
    have hlt:=V7 sU hW0 abB
    have htl:=LL tok
    refine⟨l,ts,aD t,n,O,sG _ _ hl5,bY sG rt5,by omega,htl,λtc H6 htc s6=>?_⟩
    dsimp only[bF]
    have s16:=s5.trans (sG.trans s6)
    have hT:=aX.of (K:=K) htc
    have hb:=yi ((aD t).take n) (0,0)
    rw[aey]at hb
    have hb:(cellAt ((aD t).take n)).1<=1600/\(cellAt ((aD t).take n)).2<=1600:=by
     have:=vP tok t.length
     rw[List.take_length]at this
     unfold cellAt;omega
    refine⟨_,O,tc,_,_,_,O,O,hT,O,_,O,tc,_,_,_,O,O,hT,O,(by show 2<=sizeLine;decide),λea Dz=>?_⟩
    refine⟨ea,_,_,O,ai,EW 'f',EW 'f',λd H' hd nd e1 e2 YT=>⟨O,some d,e1,?_⟩⟩
    refine k2 n hW0 abB d _ (s16.free ((az (o:=OX ea (.ref (av 85)) none) nd).symm.trans hd)) ?_ (LG s16 Dz hd YT)
    rw[Gq nd];exact e2
  |some m1 =>
   obtain⟨n,hnl,⟨x1,LQ,v1,l1,w1,e1⟩,hmin⟩:=V5 pC
   have hg1:=out.1
   obtain⟨b1',s1',rfl,q1,q2⟩:=(show dF K H4 m1 rv from PU)
   have htl:=LL tok
   refine⟨_,O,tf,_,_,_,O,O,aX.of htf,O,O,_,O,pT rfl ?_⟩
   refine⟨_,O,_,O,tf,_,_,_,O,O,aX.of htf,O,a2,.ref b1',cm,m1,x1,LQ,O,IW,PU,v1,l1,by omega,λH5 s5=>?_⟩
   rw[←List.map_reverse]
   obtain⟨hrd,hls⟩:=Ti sU w1 hg1 λys m a b=>by rw[af0,e1];exact hmin ys m a b
   exact k1 LQ.reverse H5 hrd hls (by rw[af0];omega) (V4 g (Tt λr hr=>(tok.rows r hr).ok) w1) (QW.trans s5)
inductive qj(K:W.Frag)(vs:List V)(H:Hp)(Q:VK)(E_:XK):Prop where
 |mk (a:Addr) (ns:List Int) (i:Int):(vs=[.ref a,.int i])->(aT K H a (ns.map V.int))->(0<=i)->(∀r:Int,Q (.int r) H)->qj K vs H Q E_
theorem AH:zzz T dQ 1 59 ["_law_script","_law_k"] (qj K):=by
 refine T.lF.ok Am 'e' 'a'
 ·obtain⟨a,ns,i,rfl,_⟩:=h;rfl
 ·have hu:=aS hr
  obtain⟨a,ns,i,rfl,hS,hi,k⟩:=h
  refine⟨_,(aj (aP (eH Io (pv 1) (iz (aU K rfl) T.bR (af (pv 0) ah))) (ak (ay (Lx K (pv 0) (pv 1)))) aC)
   (ak (ay aq))),?_⟩
  refine⟨_,O,_,O,a,_,O,.inl hS,_,_,O,O,_,O,?_⟩
  refine cz (λhc=>?_) (λ_=>?_)
  ·have hlt:=aez hc
   obtain⟨v,ev,hv⟩:=LB hi hlt
   obtain⟨r,_,rfl⟩:=aeR.mp hv
   exact⟨_,O,_,O,a,_,_,_,O,O,hS,ev,k r⟩
  ·exact k 0
inductive uu(vs:List V)(H:Hp)(Q:VK)(E_:XK):Prop where
 |mk (a b:Int):(vs=[.int a,.int b])->(0<=a)->(a<4294967296)->(0<=b)->(b<65536)->(∀r:Int,0<=r->r<49979687->Q (.int r) H)->uu vs H Q E_
theorem Ea:zzz T dQ 1 60 ["_law_number_here","_law_salt"] uu:=by
 refine T.kr.ok nG 'e' 'a'
 ·obtain⟨a,b,rfl,_⟩:=h;rfl
 ·have hu:=aS hr
  obtain⟨a,b,rfl,ha,ha',hb,hb',k⟩:=h
  refine⟨_,(aj (cP 2 nG.nd (aR eB (aR jf (aR oV (pv 0) (aR jf aq (aR oV aq (pv 1)))) (aR oV aq (pv 1))) aq))
   (aj (cP 3 nG.nd (aR eB (aR jf (aR oV (pv 2) (pv 2)) (pv 1)) aq))
   (ak (ay (aR eB (aR jf (aR oV (pv 3) (pv 3)) (pv 2)) aq))))),?_⟩
  refine⟨_,O,_,O,_,_,O,O,.inl ⟨by decide,by decide⟩,_,_,O,O,_,_,O,O,.inl ⟨by omega,by omega⟩,_,O,_,_,O,O,.inl ⟨by decide,by decide⟩,_,_,O,O,_,_,O,O,(by show(0:Int)<15485863;decide),?_⟩
  have h1:=afh (a*(1299709+210*b)+7919*b) (show(15485863:Int)≠0 by decide)
  have h2:=ae2 (a*(1299709+210*b)+7919*b) (show(0:Int)<15485863 by decide)
  refine⟨_,O,_,O,_,_,O,O,.inl ⟨by omega,by omega⟩,_,O,_,_,O,O,_,_,O,O,(by show(0:Int)<32452843;decide),?_⟩
  refine⟨_,O,_,O,_,_,O,O,.inl ⟨?_,?_⟩,_,O,_,_,O,O,_,_,O,O,(by show(0:Int)<49979687;decide),?_⟩
  ·exact Int.lt_of_lt_of_le 'c' (afh _ 'c')
  ·exact Int.lt_trans (ae2 _ 'c') 'c'
  ·exact k _ (afh _ 'c') (ae2 _ 'c')
inductive rY(vs:List V)(H:Hp)(Q:VK)(E_:XK):Prop where
 |mk (c s:Int):(vs=[.int c,.int s])->(0<=s)->(s<60000)->(∀r:Int,Q (.int r) H)->rY vs H Q E_
theorem rZ:zzz T dQ 2 61 ["_law_cell","_law_salt"] rY:=by
 have pN:=Ea T
 refine T.nJ.ok lg 'e' 'a'
 ·obtain⟨c,s,rfl,_⟩:=h;rfl
 ·have hu:=aS hr
  obtain⟨c,sa,rfl,hs,hs',k⟩:=h
  refine⟨_,(aj (aP (PW.pt (nj (eH cE (aR eB (pv 0) aq) aq) (jv (eH Rg (pv 0) (aR oV aq (aR Rb aq aq)))))) (ak (ay (aR XX (aR fK (pv 0) aq) (aR Rb aq aq)))) aC)
   (aj (cP 2 lg.nd (aR eB (pv 0) aq))
   (aj (cP 3 lg.nd (aR jf (aR oV (e9 pN hr T.pL T.kr.kp T.pK (af (pv 2) (af (pv 1) ah))) aq) (e9 pN hr T.pL T.kr.kp T.pK (af (pv 2) (af (aR jf (pv 1) aq) ah)))))
   (ak (ay (aR jf (aR oV (pv 3) aq) (e9 pN hr T.pL T.kr.kp T.pK (af (pv 2) (af (aR jf (pv 1) aq) ah))))))))),?_⟩
  have p18:aaB 10 18:=⟨by decide,by decide,by decide⟩
  have n0:0<=c % 1000000007:=afh _ 'c'
  have n1:c % 1000000007<4294967296:=Int.lt_trans (ae2 _ 'c') 'c'
  refine⟨_,O,_,_,O,O,(by show(0:Int)<2;decide),O,_,O,?_⟩
  refine cz (λ_=>?_) (λ_=>?_)
  ·refine⟨_,O,_,_,O,O,p18,_,_,O,O,.inl ⟨by decide,by decide⟩,_,_,O,O,_,O,?_⟩
   refine cz (λ_=>?_) (λ_=>?_)
   ·exact⟨_,O,_,_,O,O,⟨by decide,by decide⟩,_,_,O,O,p18,_,_,O,O,k _⟩
   ·refine⟨_,O,_,_,O,O,(by show(0:Int)<1000000007;decide),?_⟩
    refine⟨_,O,_,O,_,_,O,n0,n1,by omega,by omega,λr1 _ _=>?_⟩
    refine⟨_,_,O,O,.inr ⟨by decide,by decide⟩,_,O,_,O,_,_,O,O,_,_,O,n0,n1,by omega,by omega,λr2 _ _=>⟨_,_,O,O,?_⟩⟩
    refine⟨_,O,_,_,O,O,.inr ⟨by decide,by decide⟩,_,O,_,O,_,_,O,O,_,_,O,n0,n1,by omega,by omega,λr3 _ _=>⟨_,_,O,O,k _⟩⟩
  ·refine⟨_,O,_,_,O,O,(by show(0:Int)<1000000007;decide),?_⟩
   refine⟨_,O,_,O,_,_,O,n0,n1,by omega,by omega,λr1 _ _=>?_⟩
   refine⟨_,_,O,O,.inr ⟨by decide,by decide⟩,_,O,_,O,_,_,O,O,_,_,O,n0,n1,by omega,by omega,λr2 _ _=>⟨_,_,O,O,?_⟩⟩
   refine⟨_,O,_,_,O,O,.inr ⟨by decide,by decide⟩,_,O,_,O,_,_,O,O,_,_,O,n0,n1,by omega,by omega,λr3 _ _=>⟨_,_,O,O,k _⟩⟩
inductive xh(vs:List V)(H:Hp)(Q:VK)(E_:XK):Prop where
 |mk (n m:Int) (me:Str):(vs=[.int n,.int m,.str me])->(Mn me)->(0<=m)->(m<=3)->(∀(t:Addr)(z:Str)(r:Int),Sg z->(z.length:Int)<=m->(1<=m->1<=z.length)->H t=none->Q (.ref t) (upd H t (.tup [.str z,.int r])))->xh vs H Q E_
theorem Hx:zzz T dQ 1 62 ["_law_number_here","_law_many","_law_menu"] xh:=by
 refine T.mU.ok gn 'e' 'a'
 ·obtain⟨n,m,me,rfl,_⟩:=h;rfl
 ·have hu:=aS hr
  obtain⟨n,m,me,rfl,⟨hm1,hm2,UQ⟩,h0,h3,k⟩:=h
  have hml:me.length<=sizeLine:=aep hm2 'c'
  refine⟨_,(aj (cP 3 gn.nd aB)
   (aj (c9 aeF rfl (sN rfl T.wQ (af (pv 1) ah)) (ji 4 gn.nd)
   (aj (cP 5 gn.nd (Nz Rt (pv 2) (aR eB (pv 0) (iz bV T.bR (af (pv 2) ah))) (λ_ _=>rfl)))
   (aj (cP 0 gn.nd (aR fK (pv 0) (iz bV T.bR (af (pv 2) ah))))
   (ak (aP (gR kc (pv 5) (pv 3) rfl) (ak (cP 3 gn.nd (aR bG (pv 3) (pv 5)))) aC)))))
   (ak (ay (aH (af (pv 3) (af (pv 0) ah))))))),?_⟩
  refine⟨_,O,m,O,by omega,by omega,?_⟩
  refine sO (λi σ H2=>H2=H/\∃(r:Int)(z:Str)(v1 v2:Option V),σ=[some (.int r),some (.int m),some (.str me),some (.str z),v1,v2]/\Sg z/\z.length<=i/\(1<=i->1<=z.length)) ⟨rfl,n,_,_,_,rfl,YX,by decide,λz=>absurd z 'c'⟩ ?_ ?_
  ·rintro i σ H2 hi ⟨rfl,r,z,v1,v2,rfl,g,hz,hz1⟩
   have hlen:me.cps.toList.length=me.length:=by rw[aeq];rfl
   obtain⟨c,ec,hc⟩:=LB (xs:=me.cps.toList) (afh r (show(me.length:Int)≠0 by omega)) (by rw[hlen];exact ae2 r 'f')
   refine⟨_,O,_,O,_,O,me,O,hml,_,_,O,O,(by show(0:Int)<me.length;omega),me,_,c,O,O,hml,ec,?_⟩
   refine⟨_,O,_,O,me,O,hml,_,_,O,O,⟨by show(0:Int)<me.length;omega,by show(me.length:Int)<1073741824;omega⟩,?_⟩
   refine⟨_,O,_,O,_,_,O,O,_,O,?_⟩
   refine cz (λha=>?_) (λha=>?_)
   ·have e1:(z++(⟨#[c]⟩:Str)).length=z.length+1:=bz _ _
    refine⟨_,O,_,O,_,_,O,O,?_,O,_,_,_,_,O,YW g (UQ c hc) ha,by rw[e1];omega,λ_=>by rw[e1];omega⟩
    exact aep (show z.length+1<=5 by omega) 'c'
   ·refine⟨O,_,_,_,_,O,g,by omega,λ_=>?_⟩
    have hin:c∈z.cps.toList:=Classical.byContradiction λq=>ha ((kU z c).mpr q)
    have:=List.length_pos_of_mem hin
    rw[aeq]at this
    exact this
  ·rintro σ H2 ⟨rfl,r,z,v1,v2,rfl,g,hz,hz1⟩
   exact⟨_,O,_,O,(by show 2<=sizeLine;decide),λt ht=>k t z r g 'f' (λq=>hz1 'f') ht⟩
inductive uv(vs:List V)(H:Hp)(Q:VK)(E_:XK):Prop where
 |mk (n:Int):(vs=[.int n])->(∀(l:Addr)(m1 m2 m3:Str),Mn m1->Mn m2->Mn m3->(n≠0->n≠1->m1.length=94)->H l=none->Q (.ref l) (upd H l (.lst [.str m1,.str m2,.str m3])))->uv vs H Q E_
theorem Eb:zzz T dQ 1 63 ["_law_way"] uv:=by
 refine T.wK.ok tX 'e' 'a'
 ·obtain⟨n,rfl,_⟩:=h;rfl
 ·have hu:=aS hr
  obtain⟨n,rfl,k⟩:=h
  refine⟨_,(aj (cP 1 tX.nd aB)
   (aj (aP (eH cE (pv 0) aq) (ak (ay (bL (af aB (af aB (af aB ah)))))) aC)
   (aj (aP (eH cE (pv 0) aq) (ak (ay (bL (af aB (af aB (af aB ah)))))) aC)
   (ak (ay (bL (af (pv 1) (af (pv 1) (af (pv 1) ah))))))))),?_⟩
  refine⟨_,O,O,_,O,?_⟩
  refine cz (λh0=>?_) (λ_=>?_)
  ·exact⟨by decide,λl hl=>k l _ _ _ 'b' 'b' 'b' (λq _=>absurd (SX h0) q) hl⟩
  ·refine⟨_,O,O,_,O,?_⟩
   refine cz (λh1=>?_) (λ_=>?_)
   ·exact⟨by decide,λl hl=>k l _ _ _ 'b' 'b' 'b' (λ_ q=>absurd (SX h1) q) hl⟩
   ·exact⟨_,O,_,O,_,O,by decide,λl hl=>k l _ _ _ 'b' 'b' 'b' (λ_ _=>by decide +kernel) hl⟩
inductive xj(vs:List V)(H:Hp)(Q:VK)(E_:XK):Prop where
 |mk (c:Int):(vs=[.int c])->(∀(t:Addr)(p q f:Str)(b1 b2 b3 b4:Bool)(H':Hp),Gd p q f->H t=none->H' t=some (.tup (vK p q f b1 b2 b3 b4))->aE H H'->Q (.ref t) H')->xj vs H Q E_
theorem Hy:zzz T dQ 3 64 ["_law_cell"] xj:=by
 have Hz:=Eb T
 have nO:=rZ T
 have r8:=Hx T
 refine T.zJ.ok bP 'e' 'a'
 ·obtain⟨c,rfl,_⟩:=h;rfl
 ·have hu:=aS hr
  obtain⟨c,rfl,k⟩:=h
  refine⟨_,(aj (cP 1 bP.nd (e9 nO hr T.uf T.nJ.kp T.ud (af (pv 0) (af aq ah))))
   (aj (cP 2 bP.nd (aR eB (pv 1) aq))
   (aj (cP 3 bP.nd (bL (af (aR jf aq (aR eB (aR fK (pv 1) aq) aq)) (af (aR eB (aR fK (pv 1) aq) aq) (af (aR eB (aR fK (pv 1) aq) aq) ah)))))
   (aj (cP 4 bP.nd (e9 Hz hr T.G7 T.wK.kp T.G6 (af (aR eB (aR fK (pv 1) aq) aq) ah)))
   (aj (KY (e9 r8 hr T.rM T.mU.kp T.rL (af (aR fK (pv 1) aq) (af (Lx K (pv 3) aq) (af (Lx K (pv 4) aq) ah)))) (mq K rfl 2 rfl (cN (ji 5 bP.nd) (cN (ji 1 bP.nd) mh))))
   (aj (KY (e9 r8 hr T.rM T.mU.kp T.rL (af (pv 1) (af (Lx K (pv 3) aq) (af (Lx K (pv 4) aq) ah)))) (mq K rfl 2 rfl (cN (ji 6 bP.nd) (cN (ji 1 bP.nd) mh))))
   (aj (KY (e9 r8 hr T.rM T.mU.kp T.rL (af (pv 1) (af (Lx K (pv 3) aq) (af (Lx K (pv 4) aq) ah)))) (mq K rfl 2 rfl (cN (ji 7 bP.nd) (cN (ji 1 bP.nd) mh))))
   (aj (cP 8 bP.nd (bL (af (DI cE (aR eB (pv 2) aq) aq) (af (DI cE (aR eB (aR fK (pv 2) aq) aq) aq) (af (DI cE (aR eB (aR fK (pv 2) aq) aq) aq) (af (DI cE (aR eB (aR fK (pv 2) aq) aq) aq) ah))))))
   (ak (ay (aH (af (pv 5) (af (pv 6) (af (pv 7) (af (Lx K (pv 8) aq) (af (Lx K (pv 8) aq) (af (Lx K (pv 8) aq) (af (Lx K (pv 8) aq) ah)))))))))))))))))),?_⟩
  refine⟨_,O,_,_,O,by decide,by decide,λn=>?_⟩
  refine⟨_,O,_,_,O,O,(by show(0:Int)<16;decide),?_⟩
  refine⟨_,O,_,_,O,O,⟨by decide,by decide⟩,_,_,O,O,(by show(0:Int)<3;decide),_,_,O,O,_,O,_,_,O,O,⟨by decide,by decide⟩,_,_,O,O,(by show(0:Int)<3;decide),_,O,_,_,O,O,⟨by decide,by decide⟩,_,_,O,O,(by show(0:Int)<3;decide),(by show 3<=sizeLine;decide),λl hl=>?_⟩
  have m1:=afh (n / 16) (show(3:Int)≠0 by decide)
  have m1':=ae2 (n / 16) (show(0:Int)<3 by decide)
  have m2:=afh (n / 48) (show(3:Int)≠0 by decide)
  have m2':=ae2 (n / 48) (show(0:Int)<3 by decide)
  have m3:=afh (n / 144) (show(3:Int)≠0 by decide)
  have m3':=ae2 (n / 144) (show(0:Int)<3 by decide)
  have h1:(upd H l (.lst [.int (1+n / 16 % 3),.int (n / 48 % 3),.int (n / 144 % 3)])) l=some (.lst [.int (1+n / 16 % 3),.int (n / 48 % 3),.int (n / 144 % 3)]):=ai
  have s1:aE H (upd H l (.lst [.int (1+n / 16 % 3),.int (n / 48 % 3),.int (n / 144 % 3)])):=ao hl
  generalize upd H l (.lst [.int (1+n / 16 % 3),.int (n / 48 % 3),.int (n / 144 % 3)])=H1 at h1 s1⊢
  refine⟨_,O,_,_,O,O,⟨by decide,by decide⟩,_,_,O,O,(by show(0:Int)<3;decide),_,O,λl2 e1 e2 e3 g1 g2 g3 _ hl2=>?_⟩
  have h2:(upd H1 l2 (.lst [.str e1,.str e2,.str e3])) l2=some (.lst [.str e1,.str e2,.str e3]):=ai
  have s2:aE H1 (upd H1 l2 (.lst [.str e1,.str e2,.str e3])):=ao hl2
  generalize upd H1 l2 (.lst [.str e1,.str e2,.str e3])=H2 at h2 s2⊢
  have h12:=s2 _ _ h1
  refine⟨_,O,_,_,O,O,⟨by decide,by decide⟩,_,O,l,_,_,_,O,O,aT.of h12,O,_,O,l2,_,_,_,O,O,aT.of h2,O,_,_,_,O,g1,by omega,by omega,λt1 p r1 gp lp lp1 ht1=>?_⟩
  refine⟨t1,_,O,aX.of ai,O,_,_,O,_,_,O,O,?_⟩
  have s3:aE H2 (upd H2 t1 (.tup [.str p,.int r1])):=ao ht1
  generalize upd H2 t1 (.tup [.str p,.int r1])=H3 at s3⊢
  refine⟨_,O,_,O,l,_,_,_,O,O,aT.of (s3 _ _ h12),O,_,O,l2,_,_,_,O,O,aT.of (s3 _ _ h2),O,_,_,_,O,g2,by omega,by omega,λt2 q r2 gq lq lq1 Wy=>?_⟩
  refine⟨t2,_,O,aX.of ai,O,_,_,O,_,_,O,O,?_⟩
  have s4:aE H3 (upd H3 t2 (.tup [.str q,.int r2])):=ao Wy
  generalize upd H3 t2 (.tup [.str q,.int r2])=H4 at s4⊢
  refine⟨_,O,_,O,l,_,_,_,O,O,aT.of (s4 _ _ (s3 _ _ h12)),O,_,O,l2,_,_,_,O,O,aT.of (s4 _ _ (s3 _ _ h2)),O,_,_,_,O,g3,by omega,by omega,λt3 f r3 gf lf lf1 ht3=>?_⟩
  refine⟨t3,_,O,aX.of ai,O,_,_,O,_,_,O,O,?_⟩
  have s5:aE H4 (upd H4 t3 (.tup [.str f,.int r3])):=ao ht3
  generalize upd H4 t3 (.tup [.str f,.int r3])=H5 at s5⊢
  refine⟨_,O,_,_,O,O,(by show(0:Int)<2;decide),O,_,O,_,_,O,O,⟨by decide,by decide⟩,_,_,O,O,(by show(0:Int)<2;decide),O,_,O,_,_,O,O,⟨by decide,by decide⟩,_,_,O,O,(by show(0:Int)<2;decide),O,_,O,_,_,O,O,⟨by decide,by decide⟩,_,_,O,O,(by show(0:Int)<2;decide),O,(by show 4<=sizeLine;decide),λl6 hl6=>?_⟩
  have s6:=ao (o:=HO.lst [.bl (decide (V.int (n % 16 % 2)=V.int 1)),.bl (decide (V.int (n % 16 / 2 % 2)=V.int 1)),.bl (decide (V.int (n % 16 / 4 % 2)=V.int 1)),.bl (decide (V.int (n % 16 / 8 % 2)=V.int 1))]) hl6
  refine⟨_,O,_,O,_,O,_,O,l6,_,_,_,O,O,aT.of ai,O,_,O,l6,_,_,_,O,O,aT.of ai,O,_,O,l6,_,_,_,O,O,aT.of ai,O,_,O,l6,_,_,_,O,O,aT.of ai,O,(by show 7<=sizeLine;decide),λt ht=>?_⟩
  have abC:=((((s1.trans s2).trans s3).trans s4).trans s5).trans s6
  exact k t p q f _ _ _ _ _ ⟨gp,gq,gf,lp1 'f',by omega,by omega,by omega⟩ (abC.free ht) ai (abC.trans (ao ht))
inductive xm(C:Addr)(vs:List V)(H:Hp)(Q:VK)(E_:XK):Prop where
 |mk (t:Addr) (p q f:Str) (b1 b2 b3 b4:Bool):(vs=[.ref t])->(H t=some (.tup (vK p q f b1 b2 b3 b4)))->(Gd p q f)->(∀(x dx:Addr)(H':Hp),H x=none->H' x=some (.ins C dx (zy p q f b1 b2 b3 b4))->aE H H'->Q (.ref x) H')->xm C vs H Q E_
theorem HE:zzz T dQ 5 65 ["_law_told_here"] (xm (av 70)):=by
 have g9:=j7 T
 refine T.zK.ok GR 'e' 'a'
 ·obtain⟨t,p,q,f,b1,b2,b3,b4,rfl,_⟩:=h;rfl
 ·have hu:=aS hr
  obtain⟨t,p,q,f,b1,b2,b3,b4,rfl,ht,g,k⟩:=h
  have hS:aX K H t (vK p q f b1 b2 b3 b4):=aX.of ht
  refine⟨_,(ak (ay (iB (k:=3) T.Fy g9 (hr.mono 'c') rfl T.Fx T.ly .nil cO (af (d8 K (pv 0) aq) (af (d8 K (pv 0) aq) (af (d8 K (pv 0) aq) (af (d8 K (pv 0) aq) (af (d8 K (pv 0) aq) (af (d8 K (pv 0) aq) (af (d8 K (pv 0) aq) ah)))))))))),?_⟩
  refine⟨_,O,t,_,_,_,O,O,hS,O,_,O,t,_,_,_,O,O,hS,O,_,O,t,_,_,_,O,O,hS,O,_,O,t,_,_,_,O,O,hS,O,_,O,t,_,_,_,O,O,hS,O,_,O,t,_,_,_,O,O,hS,O,_,O,t,_,_,_,O,O,hS,O,λx dx hx hdx ne=>?_⟩
  refine⟨x,dx,p,q,f,b1,b2,b3,b4,O,ai,g,λH2 h2 kp=>⟨O,k x dx H2 hx h2 λb o e=>kp b o ?_ (aV e hx)⟩⟩
  rw[az (aV e hx),az (aV e hdx)]
  exact e
inductive uw(K:W.Frag)(vs:List V)(H:Hp)(Q:VK)(E_:XK):Prop where
 |mk (l a:Addr) (ls xs:List V) (cs:List cD) (t:List (List Str)):(vs=[.ref l,.ref a])->(H l=some (.lst ls))->(Y5 H ls cs)->((∀c∈cs,vN c))->(cs.length<=20)->(H a=some (.lst xs))->(Paired (bX H) xs t)->(TabOk t)->(∀(F:Str) H',F=ko cs t->bA F->1<=F.length->F.length<=1000->aE H H'->Q (.str F) H')->uw K vs H Q E_
theorem Ec:zzz T dQ 1 66 ["_law_tolds","_law_table_here"] (uw K):=by
 refine T.wL.ok gP 'e' 'a'
 ·obtain⟨l,a,ls,xs,cs,t,rfl,_⟩:=h;rfl
 ·have hu:=aS hr
  obtain⟨l,a,ls,xs,cs,t,rfl,hl,tp,gs,hcl,ha,pr,tok,k⟩:=h
  have tl:=tp.length
  have pl:=pr.length
  have hn:=tok.n
  have hsum:=tok.sum
  refine⟨_,(aj (cP 2 gP.nd (aR bG (aR bG (cT K rfl afo afA afB (nS K rfl) aB (af (cK rfl (show aZ ["_law_tolds","_law_table_here","_law_some_here","_law_found","_law_sign"] (au iI) ["_law_told_here"] 1 [] _ from DA) (bH K rfl (pv 0)) (λ_ _ _ _=>(ji 0 O3)) (λ_ _ _ _=>cB) (λ_ _ _ _=>(aR bG (aR bG (d8 K (pv 0) aq) (d8 K (pv 0) aq)) (d8 K (pv 0) aq)))) ah)) aB) (cT K rfl afo afA afB (nS K rfl) aB (af (cK rfl (show aZ ["_law_tolds","_law_table_here","_law_some_here","_law_found","_law_sign"] (au iI) ["_law_row"] 1 [] _ from DA) (bH K rfl (pv 1)) (λ_ _ _ _=>(ji 0 O3)) (λ_ _ _ _=>cB) (λ_ _ _ _=>(cT K rfl afo afA afB (nS K rfl) aB (af (pv 0) ah)))) ah))))
   (aj (cP 3 gP.nd aB)
   (aj (c9 aeF rfl (oW (pv 2)) (ji 4 gP.nd)
   (ak (aP (gR kc (pv 4) (pv 3) rfl) (ak (cP 3 gP.nd (aR bG (pv 3) (pv 4)))) aC)))
   (ak (ay (pv 3)))))),?_⟩
  refine⟨O,_,O,l,O,⟨_,aT.of hl⟩,λD hD=>?_⟩
  refine cL (K:=K) (a:=l) (xs:=ls) (λi ws τ J=>(∃v,τ=[v])/\aE H J/\J D=some (.lst ws)/\∃zs:List Str,ws=zs.map V.str/\zs.length=i/\zs=(cs.take i).map Xy/\∀z∈zs,bA z/\z.length<=7) ⟨⟨_,rfl⟩,ao hD,ai,[],rfl,rfl,rfl,λz q=>nomatch q⟩ (λi ws τ J _ p=>⟨aT.of (p.2.1 _ _ hl),p.2.2.1⟩) ?_ ?_
  ·rintro i e ws τ J hi ⟨⟨v,rfl⟩,sJ,hJ,zs,rfl,Fz,hze,hzs⟩
   have hil:=(ad8.mp hi).1
   obtain⟨x,hx,tt,rfl,DB⟩:=aN tp i e hi
   have g:=gs x (aen hx)
   have hp3:=g.p3;have hq2:=g.q2;have hf2:=g.f2
   have hS:aX K J tt (Y4 x):=aX.of (sJ _ _ DB)
   have e7:((x.1++x.2.1)++x.2.2.1).length<=7:=by rw[bz,bz];omega
   have co:bA ((x.1++x.2.1)++x.2.2.1):=nX (nX (λc h=>.inr (g.gp.pr c h)) (λc h=>.inr (g.gq.pr c h))) (λc h=>.inr (g.gf.pr c h))
   refine qu ?_
   refine⟨_,O,tt,_,_,_,O,O,hS,O,_,O,tt,_,_,_,O,O,hS,O,_,_,O,O,aep (show x.1.length+x.2.1.length<=5 by omega) 'c',_,O,tt,_,_,_,O,O,hS,O,_,_,O,O,?_,hJ,?_,⟨_,O⟩,aM hD sJ,ai,zs++[(x.1++x.2.1)++x.2.2.1],?_,?_,by rw[aO hx,aeo,hze];rfl,?_⟩
   ·rw[bz];exact aep (show x.1.length+x.2.1.length+x.2.2.1.length<=7 by omega) 'c'
   ·rw[aec];exact aem (show zs.length<=20 by omega) 'c'
   ·rw[aeo];rfl
   ·rw[aef,Fz];rfl
   ·intro z hz
    rcases aej.mp hz with h|h
    ·exact hzs z h
    ·rw[ad7.mp h];exact⟨co,e7⟩
  rintro ws τ J ⟨⟨v,rfl⟩,sJ,hJ,zs,rfl,Fz,hze,hzs⟩
  have j1:=N8 (r:=zs) (m:=7) λz hz=>(hzs z hz).2
  have j2:bA (bW zs):=Bh λz hz=>(hzs z hz).1
  have j3:=n6 zs
  have szb:100000<=sizeLine:=by decide
  have nl2:(Str.ofString "\n ").length=2:=by decide +kernel
  have nlo:bA (Str.ofString "\n "):=by show ∀c∈_,_;decide +kernel
  have j4:=bz (bW zs) (Str.ofString "\n ")
  refine⟨_,D,zs,O,O,aT.of hJ,by rw[uV];omega,?_⟩
  rw[pD]
  refine⟨_,_,O,O,by omega,?_⟩
  have A1:bA (bW zs++Str.ofString "\n "):=nX j2 nlo
  have A2:(bW zs++Str.ofString "\n ").length<=142/\2<=(bW zs++Str.ofString "\n ").length:=by omega
  rw[tl,aek (ad6 _)]at hze
  have hzA:bW zs++Str.ofString "\n "=bW (cs.map Xy)++Str.ofString "\n ":=by rw[hze]
  generalize bW zs++Str.ofString "\n "=zA at A1 A2 hzA⊢
  have haJ:=sJ _ _ ha
  refine⟨O,_,O,a,O,⟨_,aT.of haJ⟩,λE hE=>?_⟩
  refine cL (K:=K) (a:=a) (xs:=xs) (λi ws τ G=>(∃v,τ=[v])/\aE J G/\G E=some (.lst ws)/\ws=((t.take i).map bW).map V.str) ⟨⟨_,rfl⟩,ao hE,ai,rfl⟩ (λi ws τ G _ p=>⟨aT.of (p.2.1 _ _ haJ),p.2.2.1⟩) ?_ ?_
  ·rintro i e ws τ G hi ⟨⟨v,rfl⟩,sG,hG,rfl⟩
   have hil:=(ad8.mp hi).1
   obtain⟨r,hr,b,rfl,hb⟩:=aN pr i e hi
   have hrs:=vO (aen hr)
   have hrl:=(tok.rows r (aen hr)).hi
   have hes:=n6 r
   have hcs:=Jx r
   refine qu ?_
   refine⟨O,_,O,_,b,r,O,O,aT.of ((sJ.trans sG) _ _ hb),by rw[uV];omega,hG,?_,⟨_,O⟩,aM hE sG,ai,?_⟩
   ·rw[aec,aec,aey]
    exact aem (show _<=100 by omega) 'c'
   ·rw[pD,aO hr,aeo,aeo];rfl
  rintro ws τ G ⟨⟨v,rfl⟩,sG,hG,rfl⟩
  rw[pl,aek (ad6 _)]at hG
  have k1:=E4 t
  have k2:=n6 (t.map bW)
  have k3:bA (bW (t.map bW)):=Bh λc hc=>by
   obtain⟨r,hr,rfl⟩:=aeR.mp hc
   exact Bh (tok.rows r hr).ok
  refine⟨_,E,t.map bW,O,O,aT.of hG,by rw[uV,aec];omega,?_⟩
  rw[pD]
  have j6:=bz zA (bW (t.map bW))
  refine⟨_,_,O,O,by omega,?_⟩
  have B1:bA (zA++bW (t.map bW)):=nX A1 k3
  have B2:2<=(zA++bW (t.map bW)).length/\(zA++bW (t.map bW)).length<=600:=by omega
  have abD:gK (zA++bW (t.map bW))=ko cs t:=by rw[hzA];exact Ob cs t
  generalize zA++bW (t.map bW)=z at B1 B2 abD⊢
  refine⟨_,O,_,O,?_⟩
  have Fz:z.cps.toList.length=z.length:=by rw[aeq];rfl
  refine vF (λi σ J2=>J2=G/\∃(F:Str)(v:Option V),σ=[some (.ref l),some (.ref a),some (.str z),some (.str F),v]/\F=⟨(cR (z.cps.toList.take i)).toArray⟩/\bA F/\F.length<=i/\(1<=i->1<=F.length)) ⟨rfl,_,none,rfl,(by rw[List.take_zero];decide +kernel),(by show ∀c∈_,_;decide +kernel),by decide,λq=>absurd q 'c'⟩ ?_ ?_
  ·rintro i c σ J2 hi ⟨rfl,F,v,rfl,eF,oF,hF,h1⟩
   have hil:=(ad8.mp hi).1
   have e1:(F++(⟨#[c]⟩:Str)).length=F.length+1:=bz _ _
   refine⟨_,O,_,O,_,_,O,O,_,O,cz (λhA=>?_) (λhA=>?_)⟩
   ·refine⟨_,O,_,O,_,_,O,O,?_,O,_,_,O,?_,?_,?_,λ_=>?_⟩
    ·exact aep (show F.length+1<=1000 by omega) 'c'
    ·rw[aO hi,kZ]
     unfold ff
     rw[aee (by rw[←eF];exact hA),←NI,←eF]
     rfl
    ·exact nX oF (λd hd=>by rw[ad7.mp (show d∈[c]from hd)];exact B1 c (aen hi))
    ·show(F++(⟨#[c]⟩:Str)).length<=_;rw[e1];omega
    ·show 1<=(F++(⟨#[c]⟩:Str)).length;rw[e1];omega
   ·refine⟨O,F,_,O,?_,oF,by omega,λ_=>?_⟩
    ·rw[aO hi,kZ]
     unfold ff
     rw[ad5 (by rw[←eF];exact hA)]
     exact eF
    by_cases h0:1<=F.length
    ·exact h0
    ·exfalso
     refine hA ((kU F c).mpr λhm=>?_)
     have:0<F.cps.toList.length:=List.length_pos_of_mem hm
     rw[aeq]at this
     exact h0 this
  ·rintro σ J2 ⟨rfl,F,v,rfl,eF,oF,hF,h1⟩
   rw[aek (ad6 _)]at eF
   exact⟨_,O,k F _ (by rw[eF];exact abD) oF (h1 'f') 'f' (sJ.trans sG)⟩
inductive ux(K:W.Frag)(vs:List V)(H:Hp)(Q:VK)(E_:XK):Prop where
 |mk (c:Int) (l:Addr) (ls:List V) (cs:List cD):(vs=[.int c,.ref l])->(H l=some (.lst ls))->(Y5 H ls cs)->((∀c∈cs,vN c))->(cs.length<=20)->(∀L es t H',H L=none->H' L=some (.lst es)->pB H H' es t->TabOk t->cells t+total t<=18->aE H H'->Q (.ref L) H')->ux K vs H Q E_
theorem Ed:zzz T dQ 3 67 ["_law_cell","_law_tolds"] (ux K):=by
 have nO:=rZ T
 have HF:=Ec T
 refine T.wM.ok bh 'e' 'a'
 ·obtain⟨c,l,ls,cs,rfl,_⟩:=h;rfl
 ·have hu:=aS hr
  obtain⟨c,l,ls,cs,rfl,hl,tp,gs,hcl,k⟩:=h
  refine⟨_,(aj (cP 2 bh.nd (e9 nO hr T.uf T.nJ.kp T.ud (af (pv 0) (af aq ah))))
   (aj (cP 3 bh.nd (e9 HF hr T.G9 T.wL.kp T.G8 (af (pv 1) (af (bL (af (bL (af aB ah)) ah)) ah))))
   (aj (cP 4 bh.nd (Lx K (bL (af aq (af aq (af aq (af aq (af aq (af aq ah))))))) (aR eB (pv 2) aq)))
   (aj (cP 5 bh.nd (aR jf aq (aR oV (aR eB (aR fK (pv 2) aq) aq) (pcy Ov T.Uo (af (DI Io (pv 4) aq) ah)))))
   (aj (cP 2 bh.nd (aR fK (pv 2) aq))
   (aj (cP 6 bh.nd (bL ah))
   (aj (c9 aeF rfl (sN rfl T.wQ (af (pv 4) ah)) (ji 7 bh.nd)
   (aj (cP 8 bh.nd (bL ah))
   (aj (c9 aeF rfl (sN rfl T.wQ (af (pv 5) ah)) (ji 9 bh.nd)
   (aj (cP 10 bh.nd (aR eB (pv 2) (Lx K (bL (af aq (af aq (af aq (af aq ah))))) (pv 4))))
   (aj (cP 2 bh.nd (aR fK (pv 2) aq))
   (aj (cP 11 bh.nd aB)
   (aj (c9 aeF rfl (sN rfl T.wQ (af (pv 10) ah)) (ji 12 bh.nd)
   (aj (cP 11 bh.nd (aR bG (pv 11) (Nz Rt (pv 3) (aR eB (pv 2) (iz bV T.bR (af (pv 3) ah))) (λ_ _=>rfl))))
   (ak (cP 2 bh.nd (aR fK (pv 2) (iz bV T.bR (af (pv 3) ah)))))))
   (ak (cH (cT K rfl aeE aeL aeM cI (pv 8) (af (pv 11) ah)))))))))
   (ak (cH (cT K rfl aeE aeL aeM cI (pv 6) (af (pv 8) ah)))))))
   (ak (ay (pv 6)))))))))),?_⟩
  refine⟨_,O,_,_,O,by decide,by decide,λn=>?_⟩
  dsimp only[bF]
  refine⟨_,O,'c',λr1 hr1=>⟨(by show(1:Nat)<=sizeLine;decide),λa1 ha1=>?_⟩⟩
  have f1:=ao (o:=HO.lst [.str ("a":Str)]) hr1
  have f2:=ao (o:=HO.lst [.ref r1]) ha1
  have w1:=f2 _ _ (ai (H:=H) (a:=r1) (o:=HO.lst [.str ("a":Str)]))
  have w2:=ai (H:=upd H r1 (HO.lst [.str ("a":Str)])) (a:=a1) (o:=HO.lst [.ref r1])
  have s1:=f1.trans f2
  generalize upd (upd H r1 (HO.lst [.str ("a":Str)])) a1 (HO.lst [.ref r1])=H1 at w1 w2 s1⊢
  have aok:bA ("a":Str):=by show ∀c∈_,_;decide +kernel
  have al:("a":Str).length=1:=by decide +kernel
  have tok:TabOk [[("a":Str)]]:=⟨by show 1<=60;omega,λr hr=>by rw[ad7.mp hr];exact⟨by show 1<=1;omega,by show 1<=20;omega,λc hc=>by rw[ad7.mp hc];exact aok⟩,by show("a":Str).length+0+0<=400;omega⟩
  refine⟨l,a1,ls,_,cs,[[("a":Str)]],O,s1 _ _ hl,Y5.mono s1 tp,gs,hcl,w2,.cons ⟨r1,O,w1⟩ .nil,tok,λS H2 _ oS hS1 hS2 s2=>?_⟩
  have s12:=s1.trans s2
  dsimp only[bF]
  refine⟨'c',λl3 hl3=>?_⟩
  have s3:=ao (o:=HO.lst [.int 1,.int 1,.int 2,.int 1,.int 0,.int 3]) hl3
  have b0:=afh n (show(6:Int)≠0 by decide)
  have b1:=ae2 n (show(0:Int)<6 by decide)
  obtain⟨R,hR,R0,R3⟩:∃R:Int,OB [V.int 1,.int 1,.int 2,.int 1,.int 0,.int 3] (n % 6)=some (.int R)/\0<=R/\R<=3:=by
   rcases(show n % 6=0\/n % 6=1\/n % 6=2\/n % 6=3\/n % 6=4\/n % 6=5 by omega) with q|q|q|q|q|q<;>rw[q]<;>exact⟨_,rfl,by decide,by decide⟩
  refine⟨_,O,_,_,O,O,(by show(0:Int)<6;decide),l3,_,_,_,O,O,aT.of ai,hR,?_⟩
  generalize upd H2 l3 (HO.lst [.int 1,.int 1,.int 2,.int 1,.int 0,.int 3])=H3 at s3⊢
  dsimp only[bF]
  have ZS:=s12.trans s3
  refine⟨_,O,_,_,O,O,⟨'f','f'⟩,_,_,O,O,'f',_,O,_,_,O,O,.inr (⟨_,O,_,_,O,O,.inl ⟨'f','f'⟩,_,_,O,O,_,O,_,_,O,O,⟨'f','f'⟩,'c',λL hL=>?_⟩)⟩
  have sL:=ao (o:=HO.lst []) hL
  have qL:=ai (H:=H3) (a:=L) (o:=HO.lst [])
  have hL0:H L=none:=ZS.free hL
  generalize upd H3 L (HO.lst [])=H4 at sL qL⊢
  have QW:=ZS.trans sL
  dsimp only[bF]
  obtain⟨C,eC,C1,C2⟩:∃C:Int,C=1+n / 6 % 2*(if decide (R<2)=true then 1 else 0)/\1<=C/\C<=2:=by
   refine⟨_,O,?_,?_⟩<;>split<;>omega
  rw[←eC]
  obtain⟨m,em⟩:∃m:Int,m=n / 12:=⟨_,rfl⟩
  rw[←em]
  clear eC em
  obtain⟨d,hd,hd2⟩:∃d:Int,OB [V.int 3,.int 3,.int 3,.int 2] R=some (.int d)/\(d=3\/d=2):=by
   rcases(show R=0\/R=1\/R=2\/R=3 by omega) with rfl|rfl|rfl|rfl
   ·exact⟨_,O,.inl rfl⟩
   ·exact⟨_,O,.inl rfl⟩
   ·exact⟨_,O,.inl rfl⟩
   ·exact⟨_,O,.inr rfl⟩
  refine⟨_,O,R,O,by omega,by omega,?_⟩
  refine sO (λi σ J=>aE H J/\∃(m:Int)(es:List V)(T:List (List Str))(v1 v2 v3 v4 v5 v6:Option V),σ=[some (.int c),some (.ref l),some (.int m),some (.str S),some (.int R),some (.int C),some (.ref L),v1,v2,v3,v4,v5,v6]/\J L=some (.lst es)/\V.ref L∉es/\pB H J es T/\(∀r∈T,BO r)/\cells T+total T<=6*i/\T.length<=i) ⟨QW,m,[],[],none,none,none,none,none,none,rfl,qL,(λz=>nomatch z),.nil,(λ_ z=>nomatch z),ad6 _,ad6 _⟩ ?_ ?_
  ·rintro i σ J hi ⟨sJ,m,es,T,v1,v2,v3,v4,v5,v6,rfl,hLJ,nL,ZW,okT,acM,hTl⟩
   have hel:=ZW.length
   refine⟨'c',λRw hRw=>?_⟩
   have sr:=ao (o:=HO.lst []) hRw
   have qR:=ai (H:=J) (a:=Rw) (o:=HO.lst [])
   have hR0:H Rw=none:=sJ.free hRw
   have nRL:Rw≠L:=λq=>by rw[q,hLJ]at hRw;cases hRw
   have nRe:V.ref Rw∉es:=λq=>by
    obtain⟨_,ys,hy⟩:=pB.has ZW q
    rw[hRw]at hy;cases hy
   have hL4:=sr _ _ hLJ
   have rw4:=pB.mono sr ZW
   have sJ4:=sJ.trans sr
   generalize upd J Rw (HO.lst [])=J4 at qR hL4 rw4 sJ4⊢
   dsimp only[bF]
   refine⟨_,O,C,O,by omega,by omega,?_⟩
   refine sO (λj σ G=>aE H G/\∃(m:Int)(r:List Str)(v1 v3 v4 v5 v6:Option V),σ=[some (.int c),some (.ref l),some (.int m),some (.str S),some (.int R),some (.int C),some (.ref L),v1,some (.ref Rw),v3,v4,v5,v6]/\G L=some (.lst es)/\G Rw=some (.lst (r.map V.str))/\pB H G es T/\(∀c∈r,bA c)/\r.length=j/\r.length+(lens r).sum<=3*j) ⟨sJ4,m,[],_,v3,v4,v5,v6,rfl,hL4,qR,rw4,(λ_ z=>nomatch z),rfl,ad6 _⟩ ?_ ?_
   ·rintro j σ G hj ⟨sG,m,r,v1,v3,v4,v5,v6,rfl,hLG,hRG,rwG,okr,hrl,hrc⟩
    refine⟨_,O,'c',λl5 hl5=>?_⟩
    have s5:=ao (o:=HO.lst [.int 3,.int 3,.int 3,.int 2]) hl5
    have q5:=ai (H:=G) (a:=l5) (o:=HO.lst [.int 3,.int 3,.int 3,.int 2])
    have sG5:=sG.trans s5
    have hL5:=s5 _ _ hLG;have hR5:=s5 _ _ hRG;have rw5:=pB.mono s5 rwG
    generalize upd G l5 (HO.lst [.int 3,.int 3,.int 3,.int 2])=G5 at sG5 q5 hL5 hR5 rw5⊢
    refine⟨_,O,l5,_,_,_,O,O,aT.of q5,hd,_,_,O,O,'f',?_⟩
    dsimp only[bF]
    have c0:=afh m (show d≠0 by omega)
    have c1:=ae2 m (show(0:Int)<d by omega)
    generalize m % d=z at c0 c1⊢
    refine⟨_,O,_,_,O,O,⟨by decide,by decide⟩,?_⟩
    refine⟨_,O,z,O,by omega,by omega,?_⟩
    refine sO (λi2 σ G2=>G2=G5/\∃(m:Int)(F:Str)(v1 v3 v6:Option V),σ=[some (.int c),some (.ref l),some (.int m),some (.str S),some (.int R),some (.int C),some (.ref L),v1,some (.ref Rw),v3,some (.int z),some (.str F),v6]/\bA F/\F.length<=i2) ⟨rfl,_,_,_,_,v6,rfl,LF,by rw[uV];exact ad6 _⟩ ?_ ?_
    ·rintro i2 σ G2 hi2 ⟨rfl,m,F,v1,v3,v6,rfl,oF,hF⟩
     have hml:S.length<=sizeLine:=aep hS2 'c'
     have hlen:S.cps.toList.length=S.length:=by rw[aeq];rfl
     obtain⟨dd,ed,hdd⟩:=LB (xs:=S.cps.toList) (afh m (show(S.length:Int)≠0 by omega)) (by rw[hlen];exact ae2 m 'f')
     have e1:(F++(⟨#[dd]⟩:Str)).length=F.length+1:=bz _ _
     refine⟨_,O,_,O,_,O,_,O,_,O,'f',_,_,O,O,'f',_,_,_,O,O,'f',ed,_,_,O,O,?_,_,O,_,O,_,O,'f',_,_,O,O,⟨'f','f'⟩,O,_,_,_,_,_,O,?_,?_⟩
     ·exact aep (show F.length+1<=100 by omega) 'c'
     ·exact nX oF (λb hb=>by rw[ad7.mp (show b∈[dd]from hb)];exact oS dd hdd)
     ·rw[e1];omega
    ·rintro σ G2 ⟨rfl,m,F,v1,v3,v6,rfl,oF,hF⟩
     refine⟨_,O,.inl ⟨O,_,aT.of hR5⟩,_,O,Rw,_,_,O,O,hR5,?_,?_⟩
     ·rw[aec];exact aem (show r.length<=100 by omega) 'c'
     refine⟨aM hR0 sG5,m,r++[F],_,_,_,_,_,O,(az (afa nRL)).trans hL5,by rw[aeo];exact ai,pB.but nRe rw5,λc hc=>?_,by rw[aef,hrl];rfl,?_⟩
     ·rcases aej.mp hc with q|q
      ·exact okr c q
      ·rw[ad7.mp q];exact oF
     ·rw[O8,aef,List.length_singleton];omega
   ·rintro σ G ⟨sG,m,r,v1,v3,v4,v5,v6,rfl,hLG,hRG,rwG,okr,hrl,hrc⟩
    refine⟨_,O,.inl ⟨O,_,aT.of hLG⟩,_,O,L,_,_,O,O,hLG,?_,?_⟩
    ·exact aem (show es.length<=100 by omega) 'c'
    have nL2:V.ref L∉es++[.ref Rw]:=λq=>by
     rcases aej.mp q with q|q
     ·exact nL q
     ·have:=ad7.mp q;cases this;exact nRL rfl
    refine⟨aM hL0 sG,m,es++[.ref Rw],T++[r],_,_,_,_,_,_,O,ai,nL2,pB.but nL2 (pB.app rwG (.cons ⟨Rw,O,hR0,hRG⟩ .nil)),λr' hr'=>?_,?_,?_⟩
    ·rcases aej.mp hr' with q|q
     ·exact okT r' q
     ·rw[ad7.mp q];exact⟨by omega,by omega,okr⟩
    ·rw[LI,LM];omega
    ·rw[aef,List.length_singleton];omega
  ·rintro σ J ⟨sJ,m,es,T,v1,v2,v3,v4,v5,v6,rfl,hLJ,nL,ZW,okT,acM,hTl⟩
   have hcg:=Jt okT
   exact⟨_,O,k L es T J hL0 hLJ ZW ⟨by omega,okT,by omega⟩ 'f' sJ⟩
inductive qk(K:W.Frag)(C:Addr)(vs:List V)(H:Hp)(Q:VK)(E_:XK):Prop where
 |mk (y dy a:Addr) (xs:List V) (t:List (List Str)) (x:cD):(vs=[.ref y,.ref a])->(H y=some (.ins C dy (DK x)))->(vN x)->(H a=some (.lst xs))->(Paired (bX H) xs t)->(TabOk t)->(∀v H',acH x t v->aE H H'->Q v H')->qk K C vs H Q E_
theorem AI:zzz T dQ 13 68 ["_law_made_here","_law_table_here"] (qk K (av 70)):=by
 have Mr:=Ka T
 refine T.rN.ok gU 'e' 'a'
 ·obtain⟨y,dy,a,xs,t,x,rfl,_⟩:=h;rfl
 ·have hu:=aS hr
  obtain⟨y,dy,a,xs,t,x,rfl,hx,g,ha,pr,tok,k⟩:=h
  refine⟨_,(aj (cP 2 gU.nd bf)
   (aj (Vx rfl rfl (Sf (Vw (i:=2) gU.nd rfl (by first|exact Or.inl rfl|exact Or.inr rfl) (Se (k:=12) Mr (hr.mono 'c') rfl T.Mb T.CD.kp T.Ma .nil (af (pv 0) (af (pv 1) ah))))) (aa5 rfl rfl T.zM T.ig (.inr ⟨_,_,rfl,T.gb⟩) (λea=>(ak (cP 2 gU.nd bf))) YE) aC)
   (ak (ay (pv 2))))),?_⟩
  refine⟨_,O,_,O,y,dy,a,xs,t,x.1,x.2.1,x.2.2.1,x.2.2.2.a,x.2.2.2.b,x.2.2.2.c,x.2.2.2.d,O,hx,g,ha,pr,tok,λcs H1 hrd hls hcl hok s1=>?_,λn hW hM d H1 hd hd1 s1 ea Dz=>?_⟩
  ·exact⟨_,O,k _ _ (.inr ⟨cs,O,hrd,hls,hcl⟩) s1⟩
  refine⟨(av 85),(av 86),_,_,O,T.ig,mE (by simp) ?_⟩
  have s2:=ao (o:=xcO ea (.ref (av 85)) (some d)) Dz
  exact⟨_,O,k _ _ (.inl ⟨O,hW⟩) (s1.trans s2)⟩
inductive Dj(K:W.Frag)(vs:List V)(H:Hp)(Q:VK)(E_:XK):Prop where
 |mk (a:Addr) (ns:List Int):(vs=[.ref a])->(aT K H a (ns.map V.int))->(ns.length<=63)->(∀H',Q (.bl true) H')->Dj K vs H Q E_
theorem ZX:zzz T dQ 14 69 ["_law_script"] (Dj K):=by
 have sd:=AH T
 have Kc:=HE T
 have HG:=Ed T
 have Kd:=Hy T
 have Dk:=AI T
 have PY:=Ml T
 have FH:=Mp T
 have ZY:=Wz T
 refine T.abp.ok yz 'e' 'a'
 ·obtain⟨a,ns,rfl,_⟩:=h;rfl
 ·have hu:=aS hr
  obtain⟨a,ns,rfl,hS,hlen,k⟩:=h
  refine⟨_,(aj (cP 1 yz.nd (e9 Kd hr T.JU T.zJ.kp T.JT (af (e9 sd hr T.rK T.lF.kp T.rJ (af (pv 0) (af aq ah))) ah)))
   (aj (cP 2 yz.nd (e9 HG hr T.Hg T.wM.kp T.Hf (af (e9 sd hr T.rK T.lF.kp T.rJ (af (pv 0) (af aq ah))) (af (bL (af (pv 1) ah)) ah))))
   (aj (cP 3 yz.nd (e9 Kc hr T.JW T.zK.kp T.JV (af (pv 1) ah)))
   (aj (cP 4 yz.nd (e9 Dk hr T.CG T.rN.kp T.CF (af (pv 3) (af (pv 2) ah))))
   (aj (cP 5 yz.nd (e9 ZY hr T.Zk T.Ug.kp T.Zj (af (pv 3) (af (pv 2) (af (bL ah) (af aq ah))))))
   (aj (aP (eH gX (pv 4) bf) (ak (ay (oR (DI cE (d8 K (pv 5) aq) aB) (nk (DI Lm (e9 PY hr T.Pp T.Fq.kp T.Po (af (pv 3) (af (pv 2) (af (bL ah) (af (d8 K (pv 5) aq) ah))))) fJ))))) aC)
   (aj (aP (PW.pt (ia (eH vC (d8 K (pv 5) aq) aB) (fD (eH vC (iz bV T.bR (af (d8 K (pv 5) aq) ah)) (iz bV T.bR (af (pv 4) ah)))))) (ak (ay fJ)) aC)
   (ak (ay (oR (DI Lm (e9 FH hr T.Fv T.yH.kp T.Ft (af (pv 3) (af (pv 2) (af (bL ah) (af (pv 4) ah))))) fJ) (nk (DI Lm (e9 FH hr T.Fv T.yH.kp T.Ft (af (pv 3) (af (pv 2) (af (bL ah) (af (d8 K (pv 5) aq) ah))))) fJ)))))))))))),?_⟩
  refine⟨_,O,a,_,_,O,hS,by decide,λc0=>⟨c0,O,λt p q f b1 b2 b3 b4 H1 g ht h1 s1=>?_⟩⟩
  obtain⟨x,ex⟩:∃x:cD,x=(p,q,f,⟨b1,b2,b3,b4⟩):=⟨_,rfl⟩
  have g:vN x:=by rw[ex];exact g
  have h1:H1 t=some (.tup (Y4 x)):=by rw[ex];exact h1
  clear ex
  dsimp only[bF]
  have hS1:=s1.seq hS
  refine⟨_,O,a,_,_,O,hS1,by decide,λc1=>⟨_,O,(by show(1:Nat)<=sizeLine;decide),λl0 uR=>?_⟩⟩
  (have s2:=ao (o:=HO.lst [V.ref t]) uR;have q2:=ai (H:=H1) (a:=l0) (o:=HO.lst [V.ref t]);generalize upd H1 l0 (HO.lst [V.ref t])=H2 at s2 q2⊢)
  refine⟨c1,l0,_,[x],O,q2,.cons ⟨t,O,s2 _ _ h1⟩ .nil,(λc hc=>by rw[ad7.mp hc];exact g),(by show(1:Nat)<=20;decide),λlt es T H5 ad3 hlt ZW Ke acN s5=>?_⟩
  dsimp only[bF]
  have pr5:=V3 ZW
  have h24:=abn Ke acN
  have s25:=s2.trans s5
  refine⟨_,O,t,x.1,x.2.1,x.2.2.1,x.2.2.2.a,x.2.2.2.b,x.2.2.2.c,x.2.2.2.d,O,s25 _ _ h1,g,λy dy H6 hy0 hy s6=>?_⟩
  have abE:=s6 _ _ hlt
  have pr6:=aI (λa b h=>bX.mono s6 h) pr5
  refine⟨_,O,_,O,y,dy,lt,es,T,x,O,hy,g,abE,pr6,Ke,λv H7 wn s7=>?_⟩
  refine⟨_,O,_,O,'c',λo ho=>?_⟩
  (have s8:=ao (o:=HO.lst []) ho;have q8:=ai (H:=H7) (a:=o) (o:=HO.lst []);generalize upd H7 o (HO.lst [])=H8 at s8 q8⊢)
  have s78:=s7.trans s8
  have abF:=s78 _ _ abE
  have pr8:=aI (λa b h=>bX.mono s78 h) pr6
  have hy8:=s78 _ _ hy
  refine⟨y,dy,lt,o,es,[],T,x,[],4000,rfl,hy8,g,abF,pr8,Ke,q8,.nil,(λ_ z=>nomatch z),(by show(0:Nat)<=20;decide),h24,(by show(0:Nat)<=3;decide),'c','c',λtt r cm aJ kk H9 s9 ht9 run en sv=>?_⟩
  have few:=abo g en
  have ZZ:=s9 _ _ abF
  have pr9:=aI (λa b h=>bX.mono s9 h) pr8
  have hy9:=s9 _ _ hy8
  have Wk:∀c∈[x],vN c:=λc hc=>by rw[ad7.mp hc];exact g
  dsimp only[bF]
  rcases wn with ⟨rfl,nw⟩|⟨LQ,rfl,hrd,hls,hxl⟩
  ·cases r with
   |some m =>
    obtain⟨WC,DB,hw,hl,hk⟩:=sv
    exact absurd (Zh.mpr ⟨m,hw,List.find?_some en.res.symm⟩) (nw WC)
   |none =>
    rcases sv with ⟨q,_⟩|⟨_,l,vs',DB,uR,hl,em⟩
    ·omega
    have he:aJ=[]:=by
     rcases en.why rfl with q|⟨n',e,q⟩
     ·exact q
     ·cases e;omega
    subst he
    refine⟨_,O,O,_,O,i7 ?_⟩
    refine⟨_,O,tt,_,_,_,O,O,aX.of DB,O,O,_,O,i7 ?_⟩
    refine⟨_,O,_,O,'c',λo2 ho2=>?_⟩
    (have sA:=ao (o:=HO.lst []) ho2;have qA:=ai (H:=H9) (a:=o2) (o:=HO.lst []);generalize upd H9 o2 (HO.lst [])=HA at sA qA⊢)
    refine⟨_,O,tt,_,_,_,O,O,aX.of (sA _ _ DB),O,?_⟩
    refine⟨y,dy,lt,o2,es,[],T,x,[],l,vs',cm.map (·.1),rfl,sA _ _ hy9,g,sA _ _ ZZ,aI (λa b h=>bX.mono sA h) pr9,Ke,qA,.nil,(λ_ z=>nomatch z),(by show(0:Nat)<=20;decide),sA _ _ hl,aI (λ_ _ q=>cy sA q) em,en.nd,by rw[aec];omega,λm hm=>?_,?_,?_,?_,λHB sB=>?_⟩
    ·obtain⟨LQ,hw,_⟩:=Fc en.c7 (jD.mpr hm)
     exact JG hw
    ·exact jD.mp (en.c7.all [] _ .nil (aeA _))
    ·exact λm hm=>en.c7.bad m (jD.mpr hm) (λq=>nomatch q)
    ·exact λm hm e he=>jD.mp (en.c7.shut m (jD.mpr hm) (λq=>nomatch q) e he)
    ·exact⟨_,_,O,O,k _⟩
  obtain⟨m1,hw1,hg1⟩:=Zh.mp hrd
  cases r with
  |none =>
   exfalso
   rcases en.why rfl with q|⟨n',e,q⟩
   ·subst q
    have:=en.c7.bad m1 (Zi en.c7 hw1) (λq=>nomatch q)
    rw[hg1]at this;cases this
   ·cases e;omega
  |some m =>
   obtain⟨WC,DB,hw,hl,hk⟩:=sv
   have hg2:gO (aD T) m=true:=List.find?_some en.res.symm
   have l12:LQ.length<=WC.length:=hls.2 WC (Zh.mpr ⟨m,hw,hg2⟩)
   have l21:WC.length<=LQ.length:=by
    rw[hl]
    refine Nat.le_of_not_lt λq=>?_
    have:=en.c7.less LQ m1 hw1 q
    rw[hg1]at this;cases this
   have ez:∀ys:List Nat,(Txt.join 'd' (ys.map sg)).length=ys.length:=λys=>by
    have:=congrArg List.length (rm ys)
    rw[aeq]at this
    exact this
   have sv1:Jv x [] T (.str (Txt.join 'd' (LQ.map sg)))=true:=by
    show(NZ (.str _)&&zE x [] T _)=true
    rw[JH Wk Ke hw1 'f',E9 Ke hw1 hg1];rfl
   have sv2:Jv x [] T (.str (Txt.join 'd' (WC.map sg)))=true:=by
    show(NZ (.str _)&&zE x [] T _)=true
    rw[JH Wk Ke hw 'f',E9 Ke hw hg2];rfl
   have e1:=ez LQ
   have e2:=ez WC
   generalize Txt.join 'd' (LQ.map sg)=F1 at sv1 e1⊢
   generalize Txt.join 'd' (WC.map sg)=F2 at sv2 e2 DB⊢
   refine⟨_,O,O,_,O,dh ?_⟩
   dsimp only[Bs]
   refine⟨_,O,tt,_,_,_,O,O,aX.of DB,O,O,_,O,dh ?_⟩
   refine⟨_,O,tt,_,_,_,O,O,aX.of DB,O,F2,O,aep (show F2.length<=2000 by omega) 'c',_,O,F1,O,aep (show F1.length<=2000 by omega) 'c',O,_,O,?_⟩
   have el:V.int (F2.length:Nat)=V.int (F1.length:Nat):=by rw[e1,e2,show WC.length=LQ.length by omega]
   refine NW (aeb el) ?_
   refine⟨_,O,_,O,'c',λo2 ho2=>?_⟩
   (have sA:=ao (o:=HO.lst []) ho2;have qA:=ai (H:=H9) (a:=o2) (o:=HO.lst []);generalize upd H9 o2 (HO.lst [])=HA at sA qA⊢)
   refine⟨_,rfl,y,dy,lt,o2,es,[],T,x,[],.str F1,rfl,sA _ _ hy9,g,sA _ _ ZZ,aI (λa b h=>bX.mono sA h) pr9,qA,.nil,(λ_ z=>nomatch z),(by show(0:Nat)<=20;decide),.str _,(λz' e=>by cases e;omega),λHB sB=>?_⟩
   rw[sv1]
   refine⟨_,_,O,O,_,O,i7 ?_⟩
   refine⟨_,O,_,O,'c',λo3 ho3=>?_⟩
   (have sC:=ao (o:=HO.lst []) ho3;have qC:=ai (H:=HB) (a:=o3) (o:=HO.lst []);generalize upd HB o3 (HO.lst [])=HC at sC qC⊢)
   have sAC:=sA.trans (sB.trans sC)
   refine⟨_,O,tt,_,_,_,O,O,aX.of (sAC _ _ DB),O,?_⟩
   refine⟨y,dy,lt,o3,es,[],T,x,[],.str F2,rfl,sAC _ _ hy9,g,sAC _ _ ZZ,aI (λa b h=>bX.mono sAC h) pr9,qC,.nil,(λ_ z=>nomatch z),(by show(0:Nat)<=20;decide),.str _,(λz' e=>by cases e;omega),λHD sD=>?_⟩
   rw[sv2]
   exact⟨_,_,O,O,k _⟩
end
end
theorem all_mk{l:W.OpenLaw}{w:World}{K:W.Frag}{h:Heap}{mg:Str->Option Value}{fa sj lS cZ sq xo ql m8 qm m9 FI Kf su Dm uy zV UB nc lT ng dH eY Dn FJ zW FL qo sy j9 qp uz uA qq xq zX oG jI je uB sE oH xr FP uC UC xu UD Kg Dp xw FT zY Dq FU FW FY nh oJ sF Dr sI xx uD zZ xy z0 Aa xA xB sM UE bN jS d7 dI dJ bB i0 xC xD tD tE xE xF fB tF cG ni HH Ms UG:Addr}{od2 an2 acO WD acP Z0:Option Addr}{sl2 acQ acR:Array (Option Value)}{oc2 kV2 dc2 pm2 cd2 ct2 acS WE WG WH UH WI acT Z1 Z2 Z3 WJ Z4:Value}{Mt:Str}{cj iw:Addr}(X:K.In h)(G:h.Ns mainGlobals mg)(hfa:mg "law"=some (.ref fa))(Mu:W.nsIn K mainGlobals "Dialect"=some (some (.ref bN)))(WK:W.nsIn K mainGlobals "Turn"=some (some (.ref jS)))(PZ:W.nsIn K mainGlobals "Marker"=some (some (.ref d7)))(P0:W.nsIn K mainGlobals "Places"=some (some (.ref dI)))(P4:W.nsIn K mainGlobals "Writer"=some (some (.ref dJ)))(jT:W.nsIn K mainGlobals "DialectError"=some (some (.ref bB)))(yV:W.nsIn K mainGlobals "NoText"=some (some (.ref xC)))(vg:W.nsIn K mainGlobals "NoTable"=some (some (.ref tD)))(yW:W.nsIn K mainGlobals "NoMost"=some (some (.ref xE)))(vh:W.nsIn K mainGlobals "TooMany"=some (some (.ref fB)))(pO:W.nsIn K mainGlobals "NoWriting"=some (some (.ref cG)))(l0:FQ K "is_printable" kM sj)(l1:FQ K "are_unlike_signs" eN lS)(a2:W.findIn K (.ref bN) "__init__"=some (some (.ref cZ)))(i2:W.isFn K (.ref cZ)=true)(l2:K.lookup cZ=FO "__init__" "Dialect.__init__" bJ (.ref cj) oc2 od2 kV2 dc2 pm2 an2 cd2 ct2 sl2)(c2:W.codeIn K cd2 "Dialect.__init__"=true)(k2:W.keepIn K (.ref cZ)=true){abG:Option Addr}{acU:Nat}{abH:Array (Option Value)}{abI abJ:Tok}(d2:K.lookup cj=some ⟨.type "tuple",abG,.seq #[.str 'd' abI,.str 'd' abJ,.bool false,.bool false,.bool false,.bool false] acU,abH⟩)(l3:FV K bN "told" "Dialect.told" kN sq)(l4:FQ K "dialect_of" oZ xo)(l5:FV K jS "__init__" "Turn.__init__" jL ql)(l6:FV K d7 "__init__" "Marker.__init__" iD m8)(l7:FQ K "tokens_of_row" gS qm)(l8:FQ K "has_signs_alone" fM m9)(l9:FQ K "is_cell" xZ FI)(l10:FQ K "is_row" vJ Kf)(l11:FQ K "signs_in_row" iE su)(l12:FQ K "is_table" kO Dm)(l13:FQ K "check_table" nu uy)(l14:FQ K "tokens_of" qO zV)(l15:FQ K "once" Ly UB)(l16:FV K bN "special" "Dialect.special" iF nc)(l17:FQ K "signs_that_count" cY lT)(l18:FV K dI "__init__" "Places.__init__" fN ng)(l19:FE K "__init__" "NoWriting.__init__" fT dH)(l20:FE K "__init__" "TooMany.__init__" kP eY)(l21:FQ K "is_whole" uS Dn)(l22:FQ K "is_text" ya FJ)(l23:FQ K "states_of" qP zW)(l24:FQ K "is_live" yb FL)(l25:FQ K "is_live_state" jM qo)(l26:FQ K "count_behind" kQ sy)(l27:FQ K "step_at_beginning" gD j9)(l28:FQ K "step_in_plain" jN qp)(l29:FQ K "step_within" nA uz)(l30:FQ K "step_behind" nB uA)(l31:FQ K "step_in_doubt" jO qq)(l32:FQ K "step_freed" o6 xq)(l33:FV K jS "step" "Turn.step" qQ zX)(l34:FV K jS "live_step" "Turn.live_step" jj oG)(l35:FV K d7 "mark_behind" "Marker.mark_behind" fV jI)(l36:FV K d7 "has_read_all" "Marker.has_read_all" fF je)(l37:FQ K "first_place" jw uB)(l38:FV K dI "leads" "Places.leads" iG sE)(l39:FV K dI "is_good" "Places.is_good" gj oH)(a40:W.nsIn K mainGlobals "search"=RF xr)(l40:K.lookup xr=FO "search" "search" fW (.ref iw) acS acO WE WG WH WD UH WI acQ)(c40:W.codeIn K UH "search"=true)(k40:W.keepIn K (.ref xr)=true){Z5:Option Addr}{abK:Nat}{Z6:Array (Option Value)}(d40:K.lookup iw=some ⟨.type "tuple",Z5,.seq #[.none] abK,Z6⟩)(l41:FQ K "text_to" yc FP)(l42:FQ K "check_asked" nC uC)(l43:FQ K "sole" Lz UC)(l44:FQ K "check_text" o7 xu)(l45:FQ K "walk" LA UD)(l46:FQ K "end_of" BL Kg)(l47:FQ K "table_of" uT Dp)(l48:FQ K "reading_of" o8 xw)(l49:FQ K "is_mark" yd FT)(l50:FQ K "are_marks" mD zY)(l51:FQ K "is_place" uU Dq)(l52:FQ K "is_none" nW FU)(l53:FQ K "is_sole" sP FW)(l54:FQ K "cell_at" ye FY)(l55:FV K dJ "__init__" "Writer.__init__" iH nh)(l56:FV K dJ "is_good" "Writer.is_good" jk oJ)(l57:FV K dJ "leads" "Writer.leads" fX sF)(l58:FQ K "shortest" o9 Dr)(l59:FQ K "_law_cell_at" kR sI)(l60:FQ K "_law_mixed" pe xx)(l61:FQ K "_law_number" nD uD)(l62:FQ K "_law_some" qS zZ)(l63:FQ K "_law_menus" pq xy)(l64:FQ K "_law_told" qT z0)(l65:FQ K "_law_made" qU Aa)(l66:FQ K "_law_signs" iI xA)(l67:FQ K "_law_table" pA xB)(l68:FQ K "_law_written" kT sM)(a69:W.nsIn K mainGlobals "law"=RF UE)(l69:K.lookup UE=FO "law" "law" zx .none acT acP Z1 Z2 Z3 Z0 WJ Z4 acR)(c69:W.codeIn K WJ "law"=true)(k69:W.keepIn K (.ref UE)=true)(Mw:W.plainGet K bN Str.empty=true)(Mx:W.hasDictIn K bN=true)(Mz:W.plainOver K bN=true)(MA:W.findIn K (.ref bN) "__setattr__"=some (some (.builtin "object.__setattr__")))(MB:W.makesIn K bN=true)(MC:W.keepIn K (.ref bN)=true)(ck:W.findIn K (.ref bN) "parts"=some none)(bS:W.findIn K (.ref bN) "quotes"=some none)(bQ:W.findIn K (.ref bN) "frees"=some none)(f9:W.findIn K (.ref bN) "twin"=some none)(dW:W.findIn K (.ref bN) "wide"=some none)(dY:W.findIn K (.ref bN) "thin"=some none)(fk:W.findIn K (.ref bN) "stray"=some none)(WL:W.plainGet K jS Str.empty=true)(WM:W.hasDictIn K jS=true)(WN:W.plainOver K jS=true)(WO:W.findIn K (.ref jS) "__setattr__"=some (some (.builtin "object.__setattr__")))(WQ:W.makesIn K jS=true)(WR:W.keepIn K (.ref jS)=true)(bO:W.findIn K (.ref jS) "dialect"=some none)(P5:W.plainGet K d7 Str.empty=true)(P6:W.hasDictIn K d7=true)(P7:W.plainOver K d7=true)(P8:W.findIn K (.ref d7) "__setattr__"=some (some (.builtin "object.__setattr__")))(P9:W.makesIn K d7=true)(Qa:W.keepIn K (.ref d7)=true)(fz:W.findIn K (.ref d7) "turn"=some none)(cu:W.findIn K (.ref d7) "tokens"=some none)(Qc:W.plainGet K dI Str.empty=true)(Qd:W.hasDictIn K dI=true)(Qe:W.plainOver K dI=true)(Qf:W.findIn K (.ref dI) "__setattr__"=some (some (.builtin "object.__setattr__")))(Qg:W.makesIn K dI=true)(Qh:W.keepIn K (.ref dI)=true)(fm:W.findIn K (.ref dI) "marker"=some none)(dZ:W.findIn K (.ref dI) "markers"=some none)(iS:W.findIn K (.ref dI) "signs"=some none)(Qi:W.plainGet K dJ Str.empty=true)(Qj:W.hasDictIn K dJ=true)(Qk:W.plainOver K dJ=true)(Ql:W.findIn K (.ref dJ) "__setattr__"=some (some (.builtin "object.__setattr__")))(Qm:W.makesIn K dJ=true)(Qn:W.keepIn K (.ref dJ)=true)(fq:W.findIn K (.ref dJ) "marker"=some none)(gW:W.findIn K (.ref dJ) "tokens"=some none)(iT:W.findIn K (.ref dJ) "usual"=some none){AJ AK:Str}{AL yX:List Value}{yY AM:Bool}{AO:List Str}{yZ:Option Bool}{AQ za:Option Addr}{AR AS AU AV AW:Option Value}{zb:Value}{oK:Array DictEntry}{AX:Nat}{zc:Array (Option Value)}(jU:K.lookup bB=some (excClassObj AJ AK bB i0 AL qM yY AO yX AM yZ AQ AR AS AU AV AW "ValueError.__new__"))(jV:K.lookup i0=some ⟨zb,za,.dict oK AX,zc⟩)(xG:(oK.toList.all λe=>match e.key with | .str _ _=>true|_=>false)=true)(jW:W.nsIn K i0 "__init__"=some none)(AY:W.specialIn K (.ref bB) "__getattribute__"=some (some (.builtin "type.__getattribute__")))(AZ:W.readsIn K bB (.type "type")=true)(A0:W.findCls K (.ref bB) (.type "type") "__init__"=some (.val (.builtin "ValueError.__init__"))){Qo Qp:Str}{Qq MD:List Value}{ME Qs:Bool}{Qt:List Str}{MF:Option Bool}{Qu MG:Option Addr}{Qv Qw Qx Qy Qz:Option Value}{MH:Value}{Ds:Array DictEntry}{QA:Nat}{MI:Array (Option Value)}(zd:K.lookup xC=some (excClassObj Qo Qp xC xD Qq (.ref bB::qM) ME Qt MD Qs MF Qu Qv Qw Qx Qy Qz "ValueError.__new__"))(zf:K.lookup xD=some ⟨MH,MG,.dict Ds QA,MI⟩)(Kh:(Ds.toList.all λe=>match e.key with | .str _ _=>true|_=>false)=true)(zg:W.nsIn K xD "__init__"=some none){MJ MK:Str}{ML Kl:List Value}{Km MN:Bool}{MO:List Str}{Kn:Option Bool}{MP Ko:Option Addr}{MQ MR MS MT MU:Option Value}{Kp:Value}{Ab:Array DictEntry}{MV:Nat}{Kq:Array (Option Value)}(vj:K.lookup tD=some (excClassObj MJ MK tD tE ML (.ref bB::qM) Km MO Kl MN Kn MP MQ MR MS MT MU "ValueError.__new__"))(vm:K.lookup tE=some ⟨Kp,Ko,.dict Ab MV,Kq⟩)(HJ:(Ab.toList.all λe=>match e.key with | .str _ _=>true|_=>false)=true)(vn:W.nsIn K tE "__init__"=some none){QB QC:Str}{QD MW:List Value}{MX QE:Bool}{QF:List Str}{MY:Option Bool}{QG MZ:Option Addr}{QH QI QJ QK QL:Option Value}{M0:Value}{Dt:Array DictEntry}{QM:Nat}{M1:Array (Option Value)}(zh:K.lookup xE=some (excClassObj QB QC xE xF QD (.ref bB::qM) MX QF MW QE MY QG QH QI QJ QK QL "ValueError.__new__"))(zj:K.lookup xF=some ⟨M0,MZ,.dict Dt QM,M1⟩)(Kr:(Dt.toList.all λe=>match e.key with | .str _ _=>true|_=>false)=true)(zk:W.nsIn K xF "__init__"=some none){M3 M4:Str}{M5 Ks:List Value}{Ku M6:Bool}{M7:List Str}{Kv:Option Bool}{M8 Kw:Option Addr}{M9 Na Nb Nc Nf:Option Value}{Ky:Value}{Ac:Array DictEntry}{Ng:Nat}{Kz:Array (Option Value)}(vo:K.lookup fB=some (excClassObj M3 M4 fB tF M5 (.ref bB::qM) Ku M7 Ks M6 Kv M8 M9 Na Nb Nc Nf "ValueError.__new__"))(vp:K.lookup tF=some ⟨Ky,Kw,.dict Ac Ng,Kz⟩)(HK:(Ac.toList.all λe=>match e.key with | .str _ _=>true|_=>false)=true)(vq:W.nsIn K tF "__init__"=some (some (.ref eY))){KA:Option Addr}{KC:Data}{KD:Array (Option Value)}(Nh:W.keepIn K (.ref fB)=true)(Ni:K.lookup eY=some ⟨.type "function",KA,KC,KD⟩)(KG:W.findIn K (.ref fB) "__setattr__"=some (some (.builtin "object.__setattr__")))(KH:W.findIn K (.ref fB) "__getattribute__"=some (some (.builtin "BaseException.__getattribute__")))(KI:W.findIn K (.ref fB) "__getattr__"=some none)(KJ:W.hasDictIn K fB=true)(A6:W.findIn K (.ref fB) "most"=some none){HL HM:Str}{HN Ef:List Value}{Eg HP:Bool}{HQ:List Str}{Eh:Option Bool}{HR Ei:Option Addr}{HS HU HV HW HX:Option Value}{Ej:Value}{uF:Array DictEntry}{HY:Nat}{Ek:Array (Option Value)}(pP:K.lookup cG=some (excClassObj HL HM cG ni HN (.ref bB::qM) Eg HQ Ef HP Eh HR HS HU HV HW HX "ValueError.__new__"))(pQ:K.lookup ni=some ⟨Ej,Ei,.dict uF HY,Ek⟩)(Du:(uF.toList.all λe=>match e.key with | .str _ _=>true|_=>false)=true)(pR:W.nsIn K ni "__init__"=some (some (.ref dH))){El:Option Addr}{Em:Data}{En:Array (Option Value)}(HZ:W.keepIn K (.ref cG)=true)(Ia:K.lookup dH=some ⟨.type "function",El,Em,En⟩)(uG:W.findIn K (.ref cG) "__setattr__"=some (some (.builtin "object.__setattr__")))(uH:W.findIn K (.ref cG) "__getattribute__"=some (some (.builtin "BaseException.__getattribute__")))(uI:W.findIn K (.ref cG) "__getattr__"=some none)(uJ:W.hasDictIn K cG=true)(zm:W.findIn K (.ref cG) "row"=some none)(xH:W.findIn K (.ref cG) "cell"=some none)(abL:W.nsIn K mainGlobals "all"=some none)(abM:W.nsIn K mainGlobals "any"=some none)(Z7:W.nsIn K mainGlobals "bool"=some none)(KL:W.nsIn K mainGlobals "enumerate"=some none)(abN:W.nsIn K mainGlobals "int"=some none)(Ib:W.nsIn K mainGlobals "isinstance"=some none)(abO:W.nsIn K mainGlobals "len"=some none)(Z8:W.nsIn K mainGlobals "list"=some none)(abP:W.nsIn K mainGlobals "max"=some none)(z_ord:W.nsIn K mainGlobals "ord"=some none)(WS:W.nsIn K mainGlobals "range"=some none)(Nj:W.nsIn K mainGlobals "reversed"=some none)(abQ:W.nsIn K mainGlobals "str"=some none)(abR:W.nsIn K mainGlobals "sum"=some none)(WT:W.nsIn K mainGlobals "tuple"=some none)(abS:W.nsIn K mainGlobals "zip"=some none){WU:Tok}(Z9:W.nsIn K mainGlobals "LINE"=some (some (.str Mt WU)))(aac:Mt=("\n":Str)){Eo:Tok}(Ic:W.nsIn K mainGlobals "MOST_SIGNS"=some (some (.int 2000 Eo))){Ie:Tok}(KN:W.nsIn K mainGlobals "MOST_ROWS"=some (some (.int 60 Ie))){Ep:Tok}(Ig:W.nsIn K mainGlobals "MOST_CELLS"=some (some (.int 20 Ep))){pS:Tok}(qz:W.nsIn K mainGlobals "MOST_SIGNS_IN_CELLS"=some (some (.int 400 pS))){Dv:Tok}(Er:W.nsIn K mainGlobals "MOST_TOKENS"=some (some (.int 24 Dv))){Dw:Tok}(Es:W.nsIn K mainGlobals "MOST_OTHERS"=some (some (.int 3 Dw))){Dy:Tok}(Et:W.nsIn K mainGlobals "MOST_PLACES"=some (some (.int 4000 Dy)))(WV:W.nsIn K mainGlobals "START"=some (some (.ref HH))){UI:Option Addr}{WW:Nat}{UJ:Array (Option Value)}{UK UL:Tok}(WX:K.lookup HH=some ⟨.type "tuple",UI,.seq #[.str ("row":Str) UK,.str 'd' UL] WW,UJ⟩)(aad:W.nsIn K mainGlobals "PART"=some (some (.ref Ms))){WY:Option Addr}{aae:Nat}{WZ:Array (Option Value)}{W0 W2:Tok}(aaf:K.lookup Ms=some ⟨.type "tuple",WY,.seq #[.str ("part":Str) W0,.str 'd' W2] aae,WZ⟩)(abT:W.nsIn K mainGlobals "END"=some (some (.ref UG))){aag:Option Addr}{abU:Nat}{aah:Array (Option Value)}{aai aaj:Tok}(abV:K.lookup UG=some ⟨.type "tuple",aag,.seq #[.str ("end":Str) aai,.str 'd' aaj] abU,aah⟩):∃fd:FuncData,(∀(s:Shared)(v:Value),BindsTo s fd ⟨[v],[]⟩ [("_law_script",v)])/\∀base:Heap,K.In base->base.Ns mainGlobals mg->bg l.prog w K mg base dQ 14 fa fd ["_law_script"] (Dj K):=by
 have e:=hfa.symm.trans (W.mg_of X G a69)
 cases e
 have mo:∀{n:Str}{v:Value},W.nsIn K mainGlobals n=some (some v)->mg n=some v:=λe=>W.mg_of X G e
 have mz:∀{n:Str},W.nsIn K mainGlobals n=some none->mg n=none:=λe=>W.mg_none_of X G e
 obtain⟨a0,fd0,F0⟩:=l0
 have b0:=F0.lV (ps:=["sign"])
 obtain⟨a1,fd1,F1⟩:=l1
 have b1:=F1.qN (ps:=["thing","least","most"])
 have F2:=NK (st:=bJ) l2 c2 k2
 have b2:Binds K (W.fnOf "__init__" "Dialect.__init__" (dB bJ) (cJ bJ) (au bJ) (.ref cj) kV2 dc2 pm2 an2 cd2 ct2) ["self","parts","quotes","frees","twin","wide","thin","stray"] []:=λs us hK hl=>match us,hl with |[_,_,_,_,_,_,_,_],_=>BindsTo.of_defaults (T:=cj) rfl (hK _ _ d2) rfl rfl rfl
 obtain⟨a3,i3,fd3,F3⟩:=l3
 have b3:=F3.lV (ps:=["self"])
 obtain⟨a4,fd4,F4⟩:=l4
 have b4:=F4.lV (ps:=["told"])
 obtain⟨a5,i5,fd5,F5⟩:=l5
 have b5:=F5.kL (ps:=["self","dialect"])
 obtain⟨a6,i6,fd6,F6⟩:=l6
 have b6:=F6.qN (ps:=["self","dialect","tokens"])
 obtain⟨a7,fd7,F7⟩:=l7
 have b7:=F7.lV (ps:=["row"])
 obtain⟨a8,fd8,F8⟩:=l8
 have b8:=F8.lV (ps:=["text"])
 obtain⟨a9,fd9,F9⟩:=l9
 have b9:=F9.lV (ps:=["thing"])
 obtain⟨a10,acV,F10⟩:=l10
 have b10:=F10.lV (ps:=["thing"])
 obtain⟨a11,acW,F11⟩:=l11
 have Zq:=F11.lV (ps:=["row"])
 obtain⟨a12,acX,F12⟩:=l12
 have b12:=F12.lV (ps:=["thing"])
 obtain⟨a13,acY,F13⟩:=l13
 have b13:=F13.lV (ps:=["thing"])
 obtain⟨Wo,acZ,F14⟩:=l14
 have b14:=F14.lV (ps:=["table"])
 obtain⟨a15,ac0,F15⟩:=l15
 have b15:=F15.lV (ps:=["text"])
 obtain⟨a16,i16,ac1,F16⟩:=l16
 have b16:=F16.lV (ps:=["self"])
 obtain⟨a17,ac2,F17⟩:=l17
 have b17:=F17.qN (ps:=["dialect","table","others"])
 obtain⟨a18,i18,ac3,F18⟩:=l18
 have Wq:=F18.O4 (ps:=["self","dialect","table","others"])
 obtain⟨ac4,F19⟩:=l19
 have b19:=F19.qN (ps:=["self","row","cell"])
 obtain⟨ac5,F20⟩:=l20
 have b20:=F20.kL (ps:=["self","most"])
 obtain⟨Wr,ac6,F21⟩:=l21
 have b21:=F21.qN (ps:=["thing","least","most"])
 obtain⟨a22,ac7,F22⟩:=l22
 have b22:=F22.lV (ps:=["thing"])
 obtain⟨a23,ac8,F23⟩:=l23
 have b23:=F23.lV (ps:=["dialect"])
 obtain⟨ZJ,ac9,F24⟩:=l24
 have b24:=F24.kL (ps:=["dialect","state"])
 obtain⟨a25,ada,F25⟩:=l25
 have b25:=F25.kL (ps:=["dialect","thing"])
 obtain⟨a26,adb,F26⟩:=l26
 have b26:=F26.O4 (ps:=["tokens","count","kind","sign"])
 obtain⟨a27,ade,F27⟩:=l27
 have b27:=F27.qN (ps:=["dialect","state","sign"])
 obtain⟨a28,adf,F28⟩:=l28
 have b28:=F28.kL (ps:=["dialect","sign"])
 obtain⟨a29,adg,F29⟩:=l29
 have b29:=F29.qN (ps:=["dialect","quote","sign"])
 obtain⟨a30,adh,F30⟩:=l30
 have b30:=F30.kL (ps:=["dialect","sign"])
 obtain⟨a31,adi,F31⟩:=l31
 have b31:=F31.qN (ps:=["dialect","quote","sign"])
 obtain⟨a32,adj,F32⟩:=l32
 have b32:=F32.qN (ps:=["dialect","quote","sign"])
 obtain⟨a33,i33,adk,F33⟩:=l33
 have b33:=F33.qN (ps:=["self","state","sign"])
 obtain⟨a34,i34,adl,F34⟩:=l34
 have b34:=F34.qN (ps:=["self","state","sign"])
 obtain⟨a35,i35,adn,F35⟩:=l35
 have b35:=F35.qN (ps:=["self","mark","sign"])
 obtain⟨a36,i36,ado,F36⟩:=l36
 have b36:=F36.kL (ps:=["self","mark"])
 obtain⟨a37,adp,F37⟩:=l37
 have b37:=F37.lV (ps:=["others"])
 obtain⟨a38,i38,adq,F38⟩:=l38
 have b38:=F38.kL (ps:=["self","place"])
 obtain⟨a39,i39,ads,F39⟩:=l39
 have b39:=F39.kL (ps:=["self","place"])
 have F40:=NK (st:=fW) l40 c40 k40
 have b40:Binds K (W.fnOf "search" "search" (dB fW) (cJ fW) (au fW) (.ref iw) WE WG WH WD UH WI) ["first","searched","most"] []:=λs us hK hl=>match us,hl with |[_,_,_],_=>BindsTo.of_defaults (T:=iw) rfl (hK _ _ d40) rfl rfl rfl
 obtain⟨a41,adt,F41⟩:=l41
 have b41:=F41.kL (ps:=["came","place"])
 obtain⟨a42,adu,F42⟩:=l42
 have b42:=F42.qN (ps:=["table","others","most"])
 obtain⟨a43,adv,F43⟩:=l43
 have b43:=F43.O4 (ps:=["dialect","table","others","most"])
 obtain⟨a44,adw,F44⟩:=l44
 have b44:=F44.lV (ps:=["thing"])
 obtain⟨a45,adx,F45⟩:=l45
 have b45:=F45.kL (ps:=["dialect","text"])
 obtain⟨a46,ady,F46⟩:=l46
 have b46:=F46.lV (ps:=["walked"])
 obtain⟨a47,adz,F47⟩:=l47
 have b47:=F47.kL (ps:=["text","kinds"])
 obtain⟨a48,adA,F48⟩:=l48
 have b48:=F48.kL (ps:=["dialect","text"])
 obtain⟨a49,adB,F49⟩:=l49
 have b49:=F49.qN (ps:=["dialect","most","thing"])
 obtain⟨a50,adC,F50⟩:=l50
 have b50:=F50.qN (ps:=["others","most","thing"])
 obtain⟨a51,adD,F51⟩:=l51
 have b51:=F51.O4 (ps:=["dialect","others","most","thing"])
 obtain⟨a52,adE,F52⟩:=l52
 have b52:=F52.O4 (ps:=["dialect","table","others","places"])
 obtain⟨a53,adF,F53⟩:=l53
 have b53:=F53.O4 (ps:=["dialect","table","others","text"])
 obtain⟨a54,adG,F54⟩:=l54
 have b54:=F54.kL (ps:=["tokens","count"])
 obtain⟨a55,i55,adH,F55⟩:=l55
 have b55:=F55.qN (ps:=["self","dialect","tokens"])
 obtain⟨a56,i56,adI,F56⟩:=l56
 have b56:=F56.kL (ps:=["self","place"])
 obtain⟨a57,i57,adJ,F57⟩:=l57
 have b57:=F57.kL (ps:=["self","place"])
 obtain⟨a58,adK,F58⟩:=l58
 have b58:=F58.kL (ps:=["dialect","table"])
 obtain⟨a59,adL,F59⟩:=l59
 have b59:=F59.kL (ps:=["_law_script","_law_k"])
 obtain⟨a60,adM,F60⟩:=l60
 have b60:=F60.kL (ps:=["_law_number_here","_law_salt"])
 obtain⟨a61,adN,F61⟩:=l61
 have b61:=F61.kL (ps:=["_law_cell","_law_salt"])
 obtain⟨a62,adO,F62⟩:=l62
 have b62:=F62.qN (ps:=["_law_number_here","_law_many","_law_menu"])
 obtain⟨a63,adP,F63⟩:=l63
 have b63:=F63.lV (ps:=["_law_way"])
 obtain⟨a64,adQ,F64⟩:=l64
 have b64:=F64.lV (ps:=["_law_cell"])
 obtain⟨a65,adR,F65⟩:=l65
 have b65:=F65.lV (ps:=["_law_told_here"])
 obtain⟨a66,adS,F66⟩:=l66
 have b66:=F66.kL (ps:=["_law_tolds","_law_table_here"])
 obtain⟨a67,adT,F67⟩:=l67
 have b67:=F67.kL (ps:=["_law_cell","_law_tolds"])
 obtain⟨a68,adU,F68⟩:=l68
 have b68:=F68.kL (ps:=["_law_made_here","_law_table_here"])
 have F69:=Rz (st:=zx) l69 c69 k69
 have b69:=F69.lV (ps:=["_law_script"])
 have bf0:∃ds,Vals [V.non] ds/\Binds K (W.fnOf "search" "search" (dB fW) (cJ fW) (au fW) (.ref iw) WE WG WH WD UH WI) ["first","searched","most"] ds:=⟨[.none],(.cons rfl .nil),λs us hK hl=>by
  have hn:us.length=2:=by rw[aef]at hl;simp only[aex,afp]at hl;omega
  exact match us,hn with |[_,_],_=>BindsTo.of_defaults (T:=iw) rfl (hK _ _ d40) rfl rfl rfl⟩
 exact⟨W.fnOf "law" "law" (dB zx) (cJ zx) (au zx) .none Z1 Z2 Z3 Z0 WJ Z4,λs v=>.of_eq rfl,λbase _ _=>ZX (av:=λi=>[sj,lS,cZ,sq,xo,ql,m8,qm,m9,FI,Kf,su,Dm,uy,zV,UB,nc,lT,ng,dH,eY,Dn,FJ,zW,FL,qo,sy,j9,qp,uz,uA,qq,xq,zX,oG,jI,je,uB,sE,oH,xr,FP,uC,UC,xu,UD,Kg,Dp,xw,FT,zY,Dq,FU,FW,FY,nh,oJ,sF,Dr,sI,xx,uD,zZ,xy,z0,Aa,xA,xB,sM,fa,bN,jS,d7,dI,dJ,bB,i0,xC,xD,tD,tE,xE,xF,fB,tF,cG,ni,HH,Ms,UG,cj,iw].getD i fa) (aG:=λi=>[fd0,fd1,FN "__init__" "Dialect.__init__" bJ (.ref cj) kV2 dc2 pm2 an2 cd2 ct2,fd3,fd4,fd5,fd6,fd7,fd8,fd9,acV,acW,acX,acY,acZ,ac0,ac1,ac2,ac3,ac4,ac5,ac6,ac7,ac8,ac9,ada,adb,ade,adf,adg,adh,adi,adj,adk,adl,adn,ado,adp,adq,ads,FN "search" "search" fW (.ref iw) WE WG WH WD UH WI,adt,adu,adv,adw,adx,ady,adz,adA,adB,adC,adD,adE,adF,adG,adH,adI,adJ,adK,adL,adM,adN,adO,adP,adQ,adR,adS,adT,adU,FN "law" "law" zx .none Z1 Z2 Z3 Z0 WJ Z4].getD i (fd0)) (bU:=λi=>[Mt].getD i "") ⟨F0,b0,mo a0,F1,b1,mo a1,F2,b2,F3,b3,⟨a3,i3,F3.kp⟩,F4,b4,mo a4,F5,b5,F6,b6,F7,b7,mo a7,F8,b8,mo a8,F9,b9,mo a9,F10,b10,mo a10,F11,Zq,mo a11,F12,b12,mo a12,F13,b13,mo a13,F14,b14,mo Wo,F15,b15,mo a15,F16,b16,⟨a16,i16,F16.kp⟩,F17,b17,mo a17,F18,Wq,F19,b19,F20,b20,F21,b21,mo Wr,F22,b22,mo a22,F23,b23,mo a23,F24,b24,mo ZJ,F25,b25,mo a25,F26,b26,mo a26,F27,b27,mo a27,F28,b28,mo a28,F29,b29,mo a29,F30,b30,mo a30,F31,b31,mo a31,F32,b32,mo a32,F33,b33,⟨a33,i33,F33.kp⟩,F34,b34,⟨a34,i34,F34.kp⟩,F35,b35,⟨a35,i35,F35.kp⟩,F36,b36,⟨a36,i36,F36.kp⟩,F37,b37,mo a37,F38,b38,⟨a38,i38,F38.kp⟩,F39,b39,⟨a39,i39,F39.kp⟩,F40,b40,mo a40,F41,b41,mo a41,F42,b42,mo a42,F43,b43,mo a43,F44,b44,mo a44,F45,b45,mo a45,F46,b46,mo a46,F47,b47,mo a47,F48,b48,mo a48,F49,b49,mo a49,F50,b50,mo a50,F51,b51,mo a51,F52,b52,mo a52,F53,b53,mo a53,F54,b54,mo a54,F55,b55,F56,b56,⟨a56,i56,F56.kp⟩,F57,b57,⟨a57,i57,F57.kp⟩,F58,b58,mo a58,F59,b59,mo a59,F60,b60,mo a60,F61,b61,mo a61,F62,b62,mo a62,F63,b63,mo a63,F64,b64,mo a64,F65,b65,mo a65,F66,b66,mo a66,F67,b67,mo a67,F68,b68,mo a68,F69,b69,mo a69,⟨Mw,Mx,Mz,MA⟩,mo Mu,⟨MB,a2,i2,MC⟩,ck,bS,bQ,f9,dW,dY,fk,⟨WL,WM,WN,WO⟩,mo WK,⟨WQ,a5,i5,WR⟩,bO,⟨P5,P6,P7,P8⟩,mo PZ,⟨P9,a6,i6,Qa⟩,fz,cu,⟨Qc,Qd,Qe,Qf⟩,mo P0,⟨Qg,a18,i18,Qh⟩,fm,dZ,iS,⟨Qi,Qj,Qk,Ql⟩,mo P4,⟨Qm,a55,i55,Qn⟩,fq,gW,iT,bf0,mo jT,⟨⟨_,_,_,_,_,_,_,_,_,_,_,_,_,_,jU⟩,⟨_,_,_,_,_,jV,xG⟩,jW⟩,⟨AY,AZ,A0⟩,mo yV,⟨⟨_,_,_,_,_,_,_,_,_,_,_,_,_,_,zd⟩,⟨_,_,_,_,_,zf,Kh⟩,zg⟩,mo vg,⟨⟨_,_,_,_,_,_,_,_,_,_,_,_,_,_,vj⟩,⟨_,_,_,_,_,vm,HJ⟩,vn⟩,mo yW,⟨⟨_,_,_,_,_,_,_,_,_,_,_,_,_,_,zh⟩,⟨_,_,_,_,_,zj,Kr⟩,zk⟩,mo vh,⟨⟨_,_,_,_,_,_,_,_,_,_,_,_,_,_,vo⟩,⟨_,_,_,_,_,vp,HK⟩,vq⟩,Nh,⟨_,Ni,rfl⟩,⟨A6,KG,KH,KI,KJ⟩,mo pO,⟨⟨_,_,_,_,_,_,_,_,_,_,_,_,_,_,pP⟩,⟨_,_,_,_,_,pQ,Du⟩,pR⟩,HZ,⟨_,Ia,rfl⟩,⟨zm,uG,uH,uI,uJ⟩,⟨xH,uG,uH,uI,uJ⟩,mz abL,mz abM,mz Z7,mz KL,mz abN,mz Ib,mz abO,mz Z8,mz abP,mz z_ord,mz WS,mz Nj,mz abQ,mz abR,mz WT,mz abS,⟨_,mo Z9⟩,aac,⟨_,mo Ic⟩,⟨_,mo KN⟩,⟨_,mo Ig⟩,⟨_,mo qz⟩,⟨_,mo Er⟩,⟨_,mo Es⟩,⟨_,mo Et⟩,mo WV,⟨_,_,_,WX,rfl,rfl,(by show 2<=sizeLine;decide),(.cons ⟨_,rfl⟩ (.cons ⟨_,rfl⟩ .nil))⟩,mo aad,⟨_,_,_,aaf,rfl,rfl,(by show 2<=sizeLine;decide),(.cons ⟨_,rfl⟩ (.cons ⟨_,rfl⟩ .nil))⟩,mo abT,⟨_,_,_,abV,rfl,rfl,(by show 2<=sizeLine;decide),(.cons ⟨_,rfl⟩ (.cons ⟨_,rfl⟩ .nil))⟩⟩⟩
theorem walk{l:W.OpenLaw}{q:Program}{loose:List Str}{XP:(Str->Option Value)->Heap->Prop}{YP:World->Heap->Prop}{d:DefRec}{K:Params->W.Frag}(hn:l.most=some 63)(hdf:d.params.defaults=[])(hY:∀(w:World)(h:Heap),YP w h->(K w.params).In h)(F:∀(w:World)(mg:Str->Option Value)(fa:Addr)(h:Heap),(K w.params).In h->h.Ns mainGlobals mg->mg d.name=some (.ref fa)->∃fd:FuncData,(∀(s:Shared)(u:Value),BindsTo s fd ⟨[u],[]⟩ [("_law_script",u)])/\∀base:Heap,(K w.params).In base->base.Ns mainGlobals mg->bg l.prog w (K w.params) mg base dQ 14 fa fd ["_law_script"] (Dj (K w.params))):W.WalkO q loose XP YP l.row.toRowW d [] (λf vs=>PySem.call f vs) :=
 L2.Ve (n:=63) (k:=14) (x:="_law_script") (CX:=λ_=>dQ) (sp:=λw=>Dj (K w.params)) hn 'c' hdf ⟨rfl,by decide,by decide⟩ hY F (λ_ _ a ns hl _ hS=>⟨a,ns,rfl,hS,hl,λ_=>rfl⟩) λ_ _ _ _ _ z=>z
end My
def PySem.W.Fast.tw5440735679680725036:Unit:=()
def PySem.W.Fast.tw10105814386273744230:Unit:=()
def PySem.W.Fast.tw15217751800539024676:Unit:=()
def PySem.W.Fast.tw14538070693676594760:Unit:=()
def PySem.W.Fast.tw14722670055301127223:Unit:=()
def PySem.W.Fast.tw367833728004203690:Unit:=()
def PySem.W.Fast.tw16635848604192096839:Unit:=()
def PySem.W.Fast.tw8325126436872407569:Unit:=()
def PySem.W.Fast.tw5227110916355429298:Unit:=()
def PySem.W.Fast.tw8809415054419906293:Unit:=()
def PySem.W.Fast.tw5778944487386019479:Unit:=()
def PySem.W.Fast.tw791143965589216605:Unit:=()
def PySem.W.Fast.tw2140457826184231477:Unit:=()
def PySem.W.Fast.tw6788798056451679459:Unit:=()
def PySem.W.Fast.tw17936899231564661971:Unit:=()
def PySem.W.Fast.tw7356584858967713168:Unit:=()
def PySem.W.Fast.tw17713961875712561052:Unit:=()
def PySem.W.Fast.tw11750380564013505474:Unit:=()
def PySem.W.Fast.tw16304498561011398265:Unit:=()
def PySem.W.Fast.tw7175768502334735297:Unit:=()
def PySem.W.Fast.tw14738678363333448557:Unit:=()
def PySem.W.Fast.tw18035693168385885828:Unit:=()
def PySem.W.Fast.tw10698330227397411707:Unit:=()
def PySem.W.Fast.tw10754052755021934259:Unit:=()
def PySem.W.Fast.tw15092146761477431025:Unit:=()
def PySem.W.Fast.tw5536965938403085545:Unit:=()
def PySem.W.Fast.tw11430151911691386508:Unit:=()
def PySem.W.Fast.tw8089706578253551843:Unit:=()
def PySem.W.Fast.tw18423503020425762188:Unit:=()
def PySem.W.Fast.tw2774082823440436505:Unit:=()
def PySem.W.Fast.tw14891468254758355138:Unit:=()
def PySem.W.Fast.tw5720861704871104660:Unit:=()
def PySem.W.Fast.tw10748646325770064533:Unit:=()
def PySem.W.Fast.tw1983728445614273239:Unit:=()
def PySem.W.Fast.tw3758336207045233159:Unit:=()
def PySem.W.Fast.tw16654277860805179859:Unit:=()
def PySem.W.Fast.tw152790186955845856:Unit:=()
def PySem.W.Fast.tw5266686454633790502:Unit:=()
def PySem.W.Fast.tw10617257795405643526:Unit:=()
def PySem.W.Fast.tw5788059378234901591:Unit:=()
def PySem.W.Fast.tw1199128034107811631:Unit:=()
def PySem.W.Fast.tw15629193573932632128:Unit:=()
def PySem.W.Fast.tw4879896043552785448:Unit:=()
def PySem.W.Fast.tw14989102628244332805:Unit:=()
def PySem.W.Fast.tw1967788983514903201:Unit:=()
def PySem.W.Fast.tw18011175781289047104:Unit:=()
def PySem.W.Fast.tw9953499868148494726:Unit:=()
def PySem.W.Fast.tw9040361387343308025:Unit:=()
def PySem.W.Fast.tw10607306976080166591:Unit:=()
def PySem.W.Fast.tw17506239018029177882:Unit:=()
def PySem.W.Fast.tw8695153113236488714:Unit:=()
def PySem.W.Fast.tw13889381865592674409:Unit:=()
def PySem.W.Fast.tw14146300280787415330:Unit:=()
def PySem.W.Fast.tw8600308580370627858:Unit:=()
def PySem.W.Fast.tw1645667974135521652:Unit:=()
def PySem.W.Fast.tw3049310042131721720:Unit:=()
def PySem.W.Fast.tw5347574980901505832:Unit:=()
def PySem.W.Fast.tw9704103198631623645:Unit:=()
def PySem.W.Fast.tw2898672584403934811:Unit:=()
def PySem.W.Fast.tw9731704243333351713:Unit:=()
def PySem.W.Fast.tw17928618104466163499:Unit:=()
def PySem.W.Fast.tw821482079695793591:Unit:=()
def PySem.W.Fast.tw7363548075813926609:Unit:=()
def PySem.W.Fast.tw17872034459479756369:Unit:=()
def PySem.W.Fast.tw16824471993222776730:Unit:=()
def PySem.W.Fast.tw10958236393180608228:Unit:=()
def PySem.W.Fast.tw9661538532593488366:Unit:=()
def PySem.W.Fast.tw3689989559912861364:Unit:=()
def PySem.W.Fast.tw1016217552035827611:Unit:=()
def PySem.W.Fast.tw8180847832870416557:Unit:=()
def PySem.W.Fast.tw15465781659107608574:Unit:=()
def PySem.W.Fast.tw6849518812143834698:Unit:=()
def PySem.W.Fast.tw10773131690627740840:Unit:=()
def PySem.W.Fast.tw1457358708809258972:Unit:=()
def PySem.W.Fast.tw15263979280167557434:Unit:=()
def PySem.W.Fast.tw1748957389942826896:Unit:=()
def PySem.W.Fast.tw16503126701317822668:Unit:=()
def PySem.W.Fast.tw16669155713860934553:Unit:=()
def PySem.W.Fast.tw16401068298190174679:Unit:=()
def PySem.W.Fast.tw4383420522206406695:Unit:=()
def PySem.W.Fast.tw5217703220396935495:Unit:=()
def PySem.W.Fast.tw12658804067438807456:Unit:=()
def PySem.W.Fast.tw9299305215426641442:Unit:=()
def PySem.W.Fast.tw4603722000489509951:Unit:=()
def PySem.W.Fast.tw7645249124891020175:Unit:=()
def PySem.W.Fast.tw16310475999657424002:Unit:=()
def PySem.W.Fast.tw13751548837556381572:Unit:=()
def PySem.W.Fast.tw8128291561314250929:Unit:=()
def PySem.W.Fast.tw10353783658590410807:Unit:=()
def PySem.W.Fast.tw17848814144344683270:Unit:=()
def PySem.W.Fast.tw384732375775426531:Unit:=()
def PySem.W.Fast.tw6422753720794679749:Unit:=()
def PySem.W.Fast.tw7575817636335568390:Unit:=()
def PySem.W.Fast.tw12188020918761813898:Unit:=()
def PySem.W.Fast.tw12735126418856819641:Unit:=()
def PySem.W.Fast.tw514870854253507828:Unit:=()
def PySem.W.Fast.tw12182788229456393770:Unit:=()
def PySem.W.Fast.tw13333885905399019478:Unit:=()
def PySem.W.Fast.tw4775983742254762531:Unit:=()
def PySem.W.Fast.tw4188817903879257663:Unit:=()
def PySem.W.Fast.tw8644563044234228535:Unit:=()
def PySem.W.Fast.tw10809858658172417873:Unit:=()
def PySem.W.Fast.tw6766705957600014041:Unit:=()
def PySem.W.Fast.tw11231489107642633706:Unit:=()
def PySem.W.Fast.tw6075655269750686843:Unit:=()
def PySem.W.Fast.tw9453252430154875426:Unit:=()
def PySem.W.Fast.tw16602329864809773446:Unit:=()
def PySem.W.Fast.tw12753511282988832269:Unit:=()
def PySem.W.Fast.tw6765986026192023159:Unit:=()
def PySem.W.Fast.tw3282112278113161359:Unit:=()
def PySem.W.Fast.tw13235182756809416621:Unit:=()
def PySem.W.Fast.tw15135361878693802394:Unit:=()
def PySem.W.Fast.tw8165192411634758118:Unit:=()
def PySem.W.Fast.tw1326784676063492628:Unit:=()
def PySem.W.Fast.tw4918322460097921570:Unit:=()
def PySem.W.Fast.tw15964661145551500615:Unit:=()
def PySem.W.Fast.tw14245023782114999259:Unit:=()
def PySem.W.Fast.tw15944863790936571144:Unit:=()
def PySem.W.Fast.tw16617145498071151126:Unit:=()
def PySem.W.Fast.tw3319120767906795750:Unit:=()
def PySem.W.Fast.tw15416693625978769373:Unit:=()
def PySem.W.Fast.tw1469490534994989869:Unit:=()
def PySem.W.Fast.tw16756276341682077528:Unit:=()
def PySem.W.Fast.tw17289353904241088754:Unit:=()
def PySem.W.Fast.tw9137408950568236481:Unit:=()
def PySem.W.Fast.tw12828888870552240124:Unit:=()
def PySem.W.Fast.tw14265617259629719707:Unit:=()
def PySem.W.Fast.tw8751006127429194303:Unit:=()
def PySem.W.Fast.tw10210615633883126153:Unit:=()
def PySem.W.Fast.tw13282420309180443250:Unit:=()
def PySem.W.Fast.tw5399288680533574741:Unit:=()
def PySem.W.Fast.tw5053580863987187526:Unit:=()
def PySem.W.Fast.tw3970899865527229307:Unit:=()
def PySem.W.Fast.tw11471398975424376509:Unit:=()
def PySem.W.Fast.tw13419513755523612789:Unit:=()
def PySem.W.Fast.tw15473373348116363590:Unit:=()
def PySem.W.Fast.tw6258471188101404134:Unit:=()
def PySem.W.Fast.tw17895359872347795507:Unit:=()
def PySem.W.Fast.tw14836998729079118060:Unit:=()
def PySem.W.Fast.tw16644836955707869002:Unit:=()
def PySem.W.Fast.tw5774106693119469681:Unit:=()
def PySem.W.Fast.tw470630693340984184:Unit:=()
def PySem.W.Fast.tw13239603266539571115:Unit:=()
def PySem.W.Fast.tw17437019377668992564:Unit:=()
def PySem.W.Fast.tw9836635338829487518:Unit:=()
def PySem.W.Fast.tw2841213496541699358:Unit:=()
def PySem.W.Fast.tw10183091549156053232:Unit:=()
def PySem.W.Fast.tw1614369286704636015:Unit:=()
def PySem.W.Fast.tw17378097056466652472:Unit:=()
def PySem.W.Fast.tw13267250209981966855:Unit:=()
def PySem.W.Fast.tw17753439669377282092:Unit:=()
def PySem.W.Fast.tw10620358681735143783:Unit:=()
def PySem.W.Fast.tw11959643644667739795:Unit:=()
def PySem.W.Fast.tw14973892943526875524:Unit:=()
def PySem.W.Fast.tw12247414004320102937:Unit:=()
def PySem.W.Fast.tw15129717209711304385:Unit:=()
def PySem.W.Fast.tw3740900624080607408:Unit:=()
def PySem.W.Fast.tw9712362335912323813:Unit:=()
def PySem.W.Fast.tw1771595160298802657:Unit:=()
def PySem.W.Fast.tw3289155603433300722:Unit:=()
def PySem.W.Fast.tw9705311376975695161:Unit:=()
def PySem.W.Fast.tw3662905104476876111:Unit:=()
def PySem.W.Fast.tw14350756443909857852:Unit:=()
def PySem.W.Fast.tw15082841623171202661:Unit:=()
def PySem.W.Fast.tw8533433821533457414:Unit:=()
def PySem.W.Fast.tw6276886485508918407:Unit:=()
def PySem.W.Fast.tw3425913864533403521:Unit:=()
def PySem.W.Fast.tw15459786999057171755:Unit:=()
def PySem.W.Fast.tw2004653117373597503:Unit:=()
def PySem.W.Fast.tw15232614681009371754:Unit:=()
def PySem.W.Fast.tw10488265947930319882:Unit:=()
def PySem.W.Fast.tw3783993535817191483:Unit:=()
def PySem.W.Fast.tw5327768636116055062:Unit:=()
def PySem.W.Fast.tw4732641931019619090:Unit:=()
def PySem.W.Fast.tw8300340968842449816:Unit:=()
def PySem.W.Fast.tw17960444065799524074:Unit:=()
def PySem.W.Fast.tw4652966148904270387:Unit:=()
def PySem.W.Fast.tw16167437749956782980:Unit:=()
def PySem.W.Fast.tw14263815176689519980:Unit:=()
def PySem.W.Fast.tw5376966611495694830:Unit:=()
def PySem.W.Fast.tw18037115549026646645:Unit:=()
def PySem.W.Fast.tw16285399318859573676:Unit:=()
def PySem.W.Fast.tw6016053679319227293:Unit:=()
def PySem.W.Fast.tw15553427894258732694:Unit:=()
def PySem.W.Fast.tw14836664484494282774:Unit:=()
def PySem.W.Fast.tw1016090225592360389:Unit:=()
def PySem.W.Fast.tw10193012900186221418:Unit:=()
def PySem.W.Fast.tw13490191123479014544:Unit:=()
def PySem.W.Fast.tw14925075583954707114:Unit:=()
def PySem.W.Fast.tw15229415665966832110:Unit:=()
def PySem.W.Fast.tw5940806047010388436:Unit:=()
def PySem.W.Fast.tw5653529185265586547:Unit:=()
def PySem.W.Fast.tw5164178214186771082:Unit:=()
def PySem.W.Fast.tw10545509540219023210:Unit:=()
def PySem.W.Fast.tw17234346722660638322:Unit:=()
def PySem.W.Fast.tw6855254643754027197:Unit:=()
def PySem.W.Fast.tw111045673300278250:Unit:=()
def PySem.W.Fast.tw1320905924699281706:Unit:=()
def PySem.W.Fast.tw12355232401464272575:Unit:=()
open PySem PySem.W PyProof.Rows
set_option maxRecDepth 100000 in
set_option maxHeartbeats 0 in
theorem PySem.Challenge.cw_dialecthall_k77_whole_as_short_as_writte_holds : PySem.Challenge.rw_dialecthall_k77_whole_as_short_as_writte.Holds := by
 w_on;o_law;k_head;(case hw=>w_witness2)
 k_fill
 refine My.walk (l:=PySem.Challenge.rw_dialecthall_k77_whole_as_short_as_writte) rfl rfl (fun w h Y=>W.kIn_of Y) ?F
 case F =>
  intro w mg fa h KX G hmg
  refine' My.all_mk KX G hmg ?_ ?_ ?_ ?_ ?_ ?jT ?yV ?vg ?yW ?vh ?pO ?_ ?_ ?_ ?_ ?_ ?_ ?_ ?_ ?_ ?_ ?_ ?_ ?_ ?_ ?_ ?_ ?_ ?_ ?_ ?_ ?_ ?_ ?_ ?_ ?_ ?_ ?_ ?_ ?_ ?_ ?_ ?_ ?_ ?_ ?_ ?_ ?_ ?_ ?_ ?_ ?_ ?_ ?_ ?_ ?_ ?_ ?_ ?_ ?_ ?_ ?_ ?_ ?_ ?_ ?_ ?_ ?_ ?_ ?_ ?_ ?_ ?_ ?_ ?_ ?_ ?_ ?_ ?_ ?_ ?_ ?_ ?_ ?_ ?_ ?_ ?_ ?_ ?_ ?_ ?_ ?_ ?_ ?_ ?_ ?_ ?_ ?_ ?_ ?_ ?_ ?_ ?_ ?_ ?_ ?_ ?_ ?_ ?_ ?_ ?_ ?_ ?_ ?_ ?_ ?_ ?_ ?_ ?_ ?_ ?_ ?_ ?_ ?_ ?_ ?_ ?_ ?_ ?_ ?_ ?_ ?_ ?_ ?_ ?_ ?_ ?_ ?_ ?_ ?jU ?jV ?_ ?jW ?_ ?_ ?_ ?zd ?zf ?_ ?zg ?vj ?vm ?_ ?vn ?zh ?zj ?_ ?zk ?vo ?vp ?_ ?vq ?_ ?_ ?_ ?_ ?_ ?_ ?_ ?pP ?pQ ?_ ?pR ?_ ?_ ?_ ?_ ?_ ?_ ?_ ?_ ?_ ?_ ?_ ?_ ?_ ?_ ?_ ?_ ?_ ?_ ?_ ?_ ?_ ?_ ?_ ?_ ?_ ?_ ?_ ?_ ?_ ?_ ?_ ?_ ?_ ?_ ?_ ?_ ?_ ?_ ?_
  (case jT=>k_is)
  (case yV=>k_is)
  (case vg=>k_is)
  (case yW=>k_is)
  (case vh=>k_is)
  (case pO=>k_is)
  (case jU=>k_is)
  (case jV=>k_is)
  (case jW=>k_is)
  (case zd=>k_is)
  (case zf=>k_is)
  (case zg=>k_is)
  (case vj=>k_is)
  (case vm=>k_is)
  (case vn=>k_is)
  (case zh=>k_is)
  (case zj=>k_is)
  (case zk=>k_is)
  (case vo=>k_is)
  (case vp=>k_is)
  (case vq=>k_is)
  (case pP=>k_is)
  (case pQ=>k_is)
  (case pR=>k_is)
  all_goals try first | (refine' L2.FQ.of ?a ?l ?c ?k;(case a=>k_is);(case l=>k_is);(case c=>k_is);(case k=>k_is)) | (refine' L2.FV.of ?a ?i ?l ?c ?k;(case a=>k_is);(case i=>k_is);(case l=>k_is);(case c=>k_is);(case k=>k_is)) | (refine' L2.FE.of ?l ?c ?k;(case l=>k_is);(case c=>k_is);(case k=>k_is)) | k_is | rfl
