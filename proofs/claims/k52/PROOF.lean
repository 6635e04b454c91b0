import PyProof.Rows.All
import Wide.All
import OpenK.AllK
import Wide.FinOn
import Lean
import PyProof.EqAt
import PyProof.EqKinds
import PyProof.TupleCall
import PySem.Challenge.RW_dialecthall_k52_no_families
set_option Elab.async false
set_option linter.all false
set_option maxRecDepth 100000
namespace L2
open PySem PySem.Spec PyProof.Rows
abbrev Key:=Sum Int Str
def uo:Key→Value→Bool
 | .inl k,v=>Value.isInt k v
 | .inr x,v=>Value.isStrOf x v
def NS (w:World):Key→Int
 | .inl k=>hashInt k
 | .inr x=>hashStr w x
theorem bY:∀{k:Key}{v:Value},uo k v=true→(∃ i t,k=Sum.inl i∧v=Value.int i t)∨(∃ x t,k=Sum.inr x∧v=Value.str x t)
 | .inl i,v,h=>by
  obtain⟨t,e⟩:=Value.isInt_shape (k:=i) (v:=v) h
  exact .inl ⟨i,t,rfl,e⟩
 | .inr x,v,h=>by
  obtain⟨t,e⟩:=Value.isStrOf_shape (x:=x) (v:=v) h
  exact .inr ⟨x,t,rfl,e⟩
theorem Bf (i:Int) (t:Tok):uo (.inl i) (.int i t)=true:=by simp[uo,Value.isInt]
theorem Bg (x:Str) (t:Tok):uo (.inr x) (.str x t)=true:=by simp[uo,Value.isStrOf]
theorem Hl (a b:Int):decide ((Sum.inl a:Key)=Sum.inl b)=(a == b):=by
 by_cases e:a=b
 ·subst e;simp
 ·have h:¬(Sum.inl a:Key)=Sum.inl b:=fun q=>e (Sum.inl.inj q)
  rw[decide_eq_false h]
  exact(beq_eq_false_iff_ne.mpr e).symm
theorem Ho (a b:Str):decide ((Sum.inr a:Key)=Sum.inr b)=decide (a=b):=by
 by_cases e:a=b
 ·subst e;simp
 ·have h:¬(Sum.inr a:Key)=Sum.inr b:=fun q=>e (Sum.inr.inj q)
  rw[decide_eq_false h,decide_eq_false e]
theorem Hq (a:Int) (b:Str):decide ((Sum.inl a:Key)=Sum.inr b)=false:=decide_eq_false (fun q=>nomatch q)
theorem Hr (a:Str) (b:Int):decide ((Sum.inr a:Key)=Sum.inl b)=false:=decide_eq_false (fun q=>nomatch q)
def gA (prog:Program) (w:World):PySem.KeyKind prog w Key where
 is:=uo
 hash:=NS w
 inj:=fun v a b ha hb=>by
  rcases bY ha with ⟨i,t,rfl,rfl⟩ | ⟨x,t,rfl,rfl⟩
  ·rcases bY hb with ⟨j,u,rfl,e⟩ | ⟨y,u,rfl,e⟩
   ·injection e with e1 _;rw[e1]
   ·exact nomatch e
  ·rcases bY hb with ⟨j,u,rfl,e⟩ | ⟨y,u,rfl,e⟩
   ·exact nomatch e
   ·injection e with e1 _;rw[e1]
 byValue:=fun k v h=>by
  rcases bY h with ⟨i,t,rfl,rfl⟩ | ⟨x,t,rfl,rfl⟩ <;> rfl
 pyHash:=fun hv h=>by
  rcases bY hv with ⟨i,t,rfl,rfl⟩ | ⟨x,t,rfl,rfl⟩
  ·exact wpAny_pyHash_int h
  ·exact wpAny_pyHash_str h
 eqBool:=fun hu hv h=>by
  rcases bY hu with ⟨i,t,rfl,rfl⟩ | ⟨x,t,rfl,rfl⟩
  ·rcases bY hv with ⟨j,u,rfl,rfl⟩ | ⟨y,u,rfl,rfl⟩
   ·rw[Hl] at h;exact wpAny_eqBool_int h
   ·rw[Hq] at h;exact SeqAt.EqAt.int_str i t y u _ _ _ _ h
  ·rcases bY hv with ⟨j,u,rfl,rfl⟩ | ⟨y,u,rfl,rfl⟩
   ·rw[Hr] at h;exact SeqAt.EqAt.str_int x t j u _ _ _ _ h
   ·rw[Ho] at h;exact wpAny_eqBool_str h
 «strs» := fun k x t v h=>by
  rcases bY h with ⟨i,u,rfl,e⟩ | ⟨y,u,rfl,e⟩
  ·exact nomatch e
  ·injection e with e1 _
   subst e1
   cases v <;> rfl
theorem wR (prog:Program) (w:World) (i:Int) (t:Tok):(gA prog w).is (.inl i) (.int i t)=true:=Bf i t
theorem wU (prog:Program) (w:World) (x:Str) (t:Tok):(gA prog w).is (.inr x) (.str x t)=true:=Bg x t
inductive V where
 | non | bl (b:Bool) | int (i:Int) | str (x:Str) | C5 (b:Array UInt8) | Dg (b:UInt64) | ref (a:Addr) | ty (n:String)
 deriving DecidableEq
def RelV:V→Value→Prop
 | .non,u=>u=Value.none
 | .bl b,u=>u=Value.bool b
 | .int i,u=>∃ t,u=Value.int i t
 | .str x,u=>∃ t,u=Value.str x t
 | .C5 b,u=>∃ t,u=Value.bytes b t
 | .Dg b,u=>∃ t,u=Value.float b t
 | .ref a,u=>u=Value.ref a
 | .ty n,u=>u=Value.type n
abbrev Vals:List V→List Value→Prop:=Paired RelV
theorem Vals.length {xs:List V}{us:List Value} (r:Vals xs us):xs.length=us.length:=Paired.length r
theorem Vals.get:∀{xs:List V}{us:List Value}{i:Nat}{x:V},Vals xs us→xs[i]? = some x→∃ u,us[i]? = some u∧RelV x u
 | _,_,_,_,.nil,e=>by simp at e
 | _,_,0,_,.cons r _,e=>by simp at e;subst e;exact⟨_,rfl,r⟩
 | _,_,i+1,x,.cons _ t,e=>by
  obtain⟨u,h1,h2⟩:=Vals.get (i:=i) (x:=x) t (by simpa using e)
  exact⟨u,by simpa using h1,h2⟩
theorem Vals.set {x:V}{u:Value} (r:RelV x u):∀{xs:List V}{us:List Value} (i:Nat),Vals xs us→Vals (xs.set i x) (us.set i u)
 | _,_,_,.nil=>.nil
 | _,_,0,.cons _ t=>.cons r t
 | _,_,i+1,.cons q t=>.cons q (Vals.set r i t)
theorem Vals.append:∀{xs ys:List V}{us ws:List Value},Vals xs us→Vals ys ws→Vals (xs++ys) (us++ws)
 | _,_,_,_,.nil,s=>s
 | _,_,_,_,.cons r t,s=>.cons r (Vals.append t s)
theorem Vals.take:∀{xs:List V}{us:List Value} (n:Nat),Vals xs us→Vals (xs.take n) (us.take n)
 | _,_,0,_=>.nil
 | _,_,_+1,.nil=>.nil
 | _,_,n+1,.cons r t=>.cons r (Vals.take n t)
theorem Vals.drop:∀{xs:List V}{us:List Value} (n:Nat),Vals xs us→Vals (xs.drop n) (us.drop n)
 | _,_,0,r=>r
 | _,_,_+1,.nil=>.nil
 | _,_,n+1,.cons _ t=>Vals.drop n t
def tw:Option V→Option Value→Prop
 | some v,some u=>RelV v u
 | none,none=>True
 | _,_=>False
def KV {κ:Type}:List (κ×V)→List (κ×Value)→Prop:=Paired fun (p:κ×V) (q:κ×Value)=>p.1=q.1∧RelV p.2 q.2
def kV:Key→V
 | .inl i=>.int i
 | .inr x=>.str x
inductive HO where
 | lst (xs:List V)
 | tup (xs:List V)
 | dK (kvs:List (Key×V)) | dT (kvs:List (List Key×V))
 | set (S:Int→Bool) (n:Nat)
 | ins (C dx:Addr) (fs:List (Str×V))
 | own (x:Addr)
 | xd (fs:List (Str×V))
 | met (f x:Addr)
 | Nf (lo hi:Int)
 | ou (o:Obj) (u:HO)
 | GJ (ps:Array Value)
 | ext (φ:Heap→Prop)
abbrev Hp:=Addr→Option HO
def upd (H:Hp) (a:Addr) (o:HO):Hp:=fun b=>if b=a then some o else H b
theorem ah {H:Hp}{a:Addr}{o:HO}:upd H a o a=some o:=by unfold upd;rw[if_pos rfl]
theorem aC {H:Hp}{a b:Addr}{o:HO} (h:b≠a):upd H a o b=H b:=by unfold upd;rw[if_neg h]
theorem JT {H:Hp}{a b:Addr}{o u:HO} (h:H a=some o) (h':H b=some u) (d:o≠u):a≠b:=by
 intro e;subst e;rw[h] at h';exact d (Option.some.inj h')
theorem aZ {H:Hp}{a b:Addr}{o:HO} (h:H a=some o) (h':H b=none):a≠b:=by
 intro e;subst e;rw[h] at h';cases h'
section
variable (P:Program) (w:World)
def bQ (H:Hp) (h:Heap) (a:Addr):HO→Prop
 | .lst xs=>xs.length≤sizeLine∧∃(its:List Value) (n:Nat),Vals xs its∧h.get? a=some { cls:=.type "list",data:=.seq its.toArray n }
 | .tup xs=>xs.length≤sizeLine∧∃ its:List Value,Vals xs its∧IsTup h a its.toArray
 | .dK kvs=>kvs.length≤sizeLine∧(a == sysModules)=false∧∃ vs,KV kvs vs∧h.DictOf (gA P w) a vs
 | .dT kvs=>kvs.length≤sizeLine∧(a == sysModules)=false∧∃ xs:List (List Key×Addr×Value),
   Paired (fun (p:List Key×V) (q:List Key×Addr×Value)=>p.1=q.1∧H q.2.1=some (.tup (p.1.map kV))∧RelV p.2 q.2.2) kvs xs ∧
   ∃ o es ep,h.get? a=some o∧o.ExactDict∧o.data=.dict es ep∧es.toList=xs.map (entryOfKey (tupleKind (gA P w)))∧(xs.map (·.1)).Nodup
 | .set S n=>h.SetOf (intKind P w) a S n
 | .ins C dx fs=>H dx=some (.own a)∧fs.length≤1000∧dx≠a∧h.get? a=some (W.instObj C dx) ∧
   ∃ mA,h.Ns1 dx mA∧(∀ f,tw (fs.lookup f) (mA f))∧PySem.Within mA (fs.map (·.1))
 | .own _=>∃ o,h.get? a=some o
 | .xd fs=>∃ mA,h.Ns1 a mA∧∀ f,tw (fs.lookup f) (mA f)
 | .Nf lo hi=>∃ t u v,h.get? a=some { cls:=.type "range",data:=.fields #[.int lo t,.int hi u,.int 1 v] }
 | .ou o u=>h.get? a=some o∧bQ H h a u
 | .GJ ps=>h.get? a=some { cls:=.none,data:=.fields ps }
 | .met f x=>h.get? a=some (W.methodObj (.ref f) (.ref x))
 | .ext φ=>φ h∧(∃ o,h.get? a=some o)∧∀ h1 h2:Heap,φ h1→(∀ o,h1.get? a=some o→h2.get? a=some o)→φ h2
def nH (H:Hp) (h:Heap):Prop:=∀ a o,H a=some o→bQ P w H h a o
end
section
variable {P:Program}{w:World}{H H':Hp}{h h':Heap}{a:Addr}{o:HO}
theorem bQ.lt (x:bQ P w H h a o):a < h.objs.size:=by
 cases o with
 | lst xs=>obtain⟨_,_,_,_,e⟩:=x;exact Heap.lt_size e
 | tup xs=>obtain⟨_,_,_,p⟩:=x;exact p.lt
 | dK kvs=>obtain⟨_,_,_,_,o,_,_,e,_⟩:=x;exact Heap.lt_size e
 | dT kvs=>obtain⟨_,_,_,_,o,_,_,e,_⟩:=x;exact Heap.lt_size e
 | set S n=>obtain⟨o,_,_,_,e,_⟩:=x;exact Heap.lt_size e
 | ins C dx fs=>obtain⟨_,_,_,e,_⟩:=x;exact Heap.lt_size e
 | own y=>obtain⟨_,e⟩:=x;exact Heap.lt_size e
 | xd fs=>obtain⟨_,⟨_,_,_,e,_⟩,_⟩:=x;exact Heap.lt_size e
 | Nf lo hi=>obtain⟨_,_,_,e⟩:=x;exact Heap.lt_size e
 | ou ob u=>obtain⟨e,_⟩:=x;exact Heap.lt_size e
 | GJ ps=>exact Heap.lt_size (show h.get? a=some _ from x)
 | met f y=>exact Heap.lt_size (show h.get? a=some _ from x)
 | ext φ=>obtain⟨_,⟨_,e⟩,_⟩:=x;exact Heap.lt_size e
theorem Paired.Hs {α β:Type}{F G:α→β→Prop}:∀{l₁:List α}{l₂:List β},Paired F l₁ l₂→(∀ a b,F a b→G a b)→Paired G l₁ l₂
 | _,_,.nil,_=>.nil
 | _,_,.cons r t,f=>.cons (f _ _ r) (Paired.Hs t f)
theorem Paired.imp' {α β:Type}{F G:α→β→Prop} (f:∀ a b,F a b→G a b) {l₁:List α}{l₂:List β} (r:Paired F l₁ l₂):Paired G l₁ l₂:=Paired.Hs r f
theorem bQ.stay (x:bQ P w H h a o) (k:∀ b u,(b=a∨H b=some (.own a))→h.get? b=some u→h'.get? b=some u)
  (ho:∀ b,H b=some (.own a)→H' b=some (.own a)) (ht:∀ b xs,H b=some (.tup xs)→H' b=some (.tup xs)):bQ P w H' h' a o:=by
 induction o with
 | lst xs=>obtain⟨z,its,n,r,e⟩:=x;exact⟨z,its,n,r,k _ _ (.inl rfl) e⟩
 | tup xs=>obtain⟨z,its,r,ob,e,c⟩:=x;exact⟨z,its,r,ob,k _ _ (.inl rfl) e,c⟩
 | dK kvs=>obtain⟨z,y,vs,r,ob,es,ep,e,c⟩:=x;exact⟨z,y,vs,r,ob,es,ep,k _ _ (.inl rfl) e,c⟩
 | dT kvs =>
  obtain⟨z,y,xs,r,ob,es,ep,e,c⟩:=x
  exact⟨z,y,xs,Paired.Hs r fun p q z=>⟨z.1,ht _ _ z.2.1,z.2.2⟩,ob,es,ep,k _ _ (.inl rfl) e,c⟩
 | set S n=>obtain⟨ob,es,ep,t,e,c⟩:=x;exact⟨ob,es,ep,t,k _ _ (.inl rfl) e,c⟩
 | ins C dx fs =>
  obtain⟨d,z,ne,e,mA,⟨od,es,ep,e2,c⟩,r⟩:=x
  exact⟨ho _ d,z,ne,k _ _ (.inl rfl) e,mA,⟨od,es,ep,k _ _ (.inr d) e2,c⟩,r⟩
 | own y=>obtain⟨ob,e⟩:=x;exact⟨ob,k _ _ (.inl rfl) e⟩
 | xd fs=>obtain⟨mA,⟨od,es,ep,e,c⟩,r⟩:=x;exact⟨mA,⟨od,es,ep,k _ _ (.inl rfl) e,c⟩,r⟩
 | Nf lo hi=>obtain⟨t,u,v,e⟩:=x;exact⟨t,u,v,k _ _ (.inl rfl) e⟩
 | ou ob u ih=>obtain⟨e,q⟩:=x;exact⟨k _ _ (.inl rfl) e,ih q⟩
 | GJ ps =>
  have e:h.get? a=some { cls:=.none,data:=.fields ps }:=x
  show h'.get? a=some { cls:=.none,data:=.fields ps }
  exact k a _ (.inl rfl) e
 | met f y =>
  have e:h.get? a=some (W.methodObj (.ref f) (.ref y)):=x
  show h'.get? a=some (W.methodObj (.ref f) (.ref y))
  exact k a _ (.inl rfl) e
 | ext φ=>obtain⟨p,⟨o,e⟩,st⟩:=x;exact⟨st _ _ p fun o q=>k _ _ (.inl rfl) q,⟨o,k _ _ (.inl rfl) e⟩,st⟩
theorem nH.lt (x:nH P w H h) (e:H a=some o):a < h.objs.size:=(x a o e).lt
theorem nH.fresh (x:nH P w H h) (e:h.objs.size≤a):H a=none:=by
 cases q:H a with
 | none=>rfl
 | some u=>exact absurd (Nat.lt_of_lt_of_le (x.lt q) e) (Nat.lt_irrefl _)
theorem nH.kept (x:nH P w H h) (k:∀ b u,h.get? b=some u→h'.get? b=some u):nH P w H h':=fun a o e =>
 (x a o e).stay (fun b u _ q=>k b u q) (fun _ q=>q) fun _ _ q=>q
theorem nH.laid (x:nH P w H h) (k:∀ b u,h.get? b=some u→h'.get? b=some u) (hp:h.objs.size≤a) (new:bQ P w (upd H a o) h' a o):nH P w (upd H a o) h':=fun b u e=>by
 have hn:=x.fresh hp
 by_cases hb:b=a
 ·subst hb;rw[ah] at e;cases e;exact new
 ·rw[aC hb] at e
  exact(x b u e).stay (fun c v _ q=>k c v q) (fun c q=>by rw[aC (aZ q hn)];exact q) fun c xs q=>by rw[aC (aZ q hn)];exact q
end
def Rd (H:Hp) (a:Addr) (u:HO):Prop:=H a=some u∨∃ o,H a=some (.ou o u)
theorem Rd.ok {P:Program}{w:World}{H:Hp}{h:Heap}{a:Addr}{u:HO} (r:Rd H a u) (x:nH P w H h):bQ P w H h a u:=by
 rcases r with r | ⟨o,r⟩
 ·exact x a u r
 ·obtain⟨_,q⟩:=x a _ r
  exact q
def JU:Option HO→Prop
 | some (.lst _)=>True
 | some (.dK _)=>True
 | some (.dT _)=>True
 | some (.set _ _)=>True
 | some (.ins _ _ _)=>True
 | some (.ext _)=>True
 | _=>False
section
variable {P:Program}{w:World}{H:Hp}{h h':Heap}{x e:Addr}{o':HO}
theorem nH.write (ok:nH P w H h) (mu:JU (H x)) (he:e=x∨H e=some (.own x)) (k:∀ b u,b≠e→h.get? b=some u→h'.get? b=some u) (JA:∃ u,h'.get? e=some u)
  (new:bQ P w (upd H x o') h' x o'):nH P w (upd H x o') h':=fun b u q=>by
 have JV:∀ c y,H c=some (.own y)→c≠x:=fun c y r z=>by subst z;rw[r] at mu;exact mu
 have NT:∀ c xs,H c=some (.tup xs)→c≠x:=fun c xs r z=>by subst z;rw[r] at mu;exact mu
 by_cases hb:b=x
 ·subst hb;rw[ah] at q;cases q;exact new
 ·rw[aC hb] at q
  by_cases Ht:b=e
  ·have q':H b=some (.own x):=by
    rcases he with z | z
    ·exact absurd (Ht.trans z) hb
    ·rw[Ht];exact z
   rw[q] at q';cases q'
   obtain⟨v,hv⟩:=JA
   exact⟨v,by rw[Ht];exact hv⟩
  ·refine(ok b u q).stay (fun c v hc r=>k c v ?_ r) (fun c r=>by rw[aC (JV c b r)];exact r) fun c xs r=>by rw[aC (NT c xs r)];exact r
   rcases hc with rfl | hc
   ·exact Ht
   ·rintro rfl
    rcases he with z | z
    ·exact JV c b hc z
    ·rw[hc] at z;cases z;exact hb rfl
end
structure Un (fs ex:List Addr) (H H':Hp) (h h':Heap):Prop where
 keep:∀ b o,h.get? b=some o→H b=none→b∉fs→b∉ex→h'.get? b=some o
 slot:∀ b o,h.get? b=some o→H b=none→b∈fs→b∉ex→∃ sl,h'.get? b=some { o with slots:=sl }
 free:∀ b o,h.get? b=some o→H b=none→b∉ex→H' b=none
 there:∀ b o,h.get? b=some o→b∉ex→∃ o',h'.get? b=some o'
 tups:∀ b xs,H b=some (.tup xs)→H' b=some (.tup xs)
 pI:∀ b o u,H b=some (.ou o u)→H' b=some (.ou o u)
 qD:∀ b ps,H b=some (.GJ ps)→∃ more,H' b=some (.GJ (ps++more))
section
variable {fs fs' ex ex':List Addr}{H H1 H2:Hp}{h h1 h2 h':Heap}{a x e:Addr}{o:HO}
theorem Un.any (u:Un fs ex H H1 h h1) {b:Addr}{ob:Obj} (q:h.get? b=some ob) (n:H b=none) (hx:b∉ex):∃ sl,h1.get? b=some { ob with slots:=sl }:=by
 by_cases hb:b∈fs
 ·exact u.slot b ob q n hb hx
 ·exact⟨ob.slots,u.keep b ob q n hb hx⟩
theorem Un.kept (k:∀ b u,h.get? b=some u→h'.get? b=some u):Un fs ex H H h h' :=
 ⟨fun b ob q _ _ _=>k b ob q,fun b ob q _ _ _=>⟨ob.slots,k b ob q⟩,fun _ _ _ n _=>n,fun b ob q _=>⟨ob,k b ob q⟩,fun _ _ q=>q,fun _ _ _ q=>q,fun _ ps q=>⟨#[],by rw[q];simp⟩⟩
theorem Un.refl:Un fs ex H H h h:=Un.kept fun _ _ q=>q
theorem Un.laid (k:∀ b u,h.get? b=some u→h'.get? b=some u) (hp:h.objs.size≤a) (hn:H a=none):Un fs ex H (upd H a o) h h' where
 keep:=fun b u q _ _ _=>k b u q
 slot:=fun b u q _ _ _=>⟨u.slots,k b u q⟩
 free:=fun b u q n _=>by rw[aC (Nat.ne_of_lt (Nat.lt_of_lt_of_le (Heap.lt_size q) hp))];exact n
 there:=fun b u q _=>⟨u,k b u q⟩
 tups:=fun b xs q=>by rw[aC (aZ q hn)];exact q
 pI:=fun b u xs q=>by rw[aC (aZ q hn)];exact q
 qD:=fun b ps q=>⟨#[],by rw[aC (aZ q hn),q];simp⟩
theorem Un.write (mu:JU (H x)) (he:e=x∨H e=some (.own x)) (k:∀ b u,b≠e→h.get? b=some u→h'.get? b=some u) (JA:∃ u,h'.get? e=some u):Un fs ex H (upd H x o) h h':=by
 have hx:∀ b,H b=none→b≠x:=fun b n z=>by subst z;rw[n] at mu;exact mu
 have hb:∀ b,H b=none→b≠e:=fun b n z=>by
  subst z
  rcases he with r | r
  ·exact hx b n r
  ·rw[n] at r;cases r
 have hm:∀ b u,H b=some u→¬JU (some u)→b≠x:=fun b u q nm z=>by subst z;rw[q] at mu;exact nm mu
 refine⟨fun b u q n _ _=>k b u (hb b n) q,fun b u q n _ _=>⟨u.slots,k b u (hb b n) q⟩,fun b u q n _=>by rw[aC (hx b n)];exact n,fun b u q _=>?_,
  fun b xs q=>by rw[aC (hm b _ q fun z=>z)];exact q,fun b u xs q=>by rw[aC (hm b _ q fun z=>z)];exact q,fun b ps q=>⟨#[],by rw[aC (hm b _ q fun z=>z),q];simp⟩⟩
 by_cases Ht:b=e
 ·subst Ht;exact JA
 ·exact⟨u,k b u Ht q⟩
end
def Ng (h:Heap) (H:Hp):List Addr:=(List.range h.objs.size).filter fun a=>(H a).isSome
def uN (h:Heap) (H:Hp):Heap:=W.hideAll h (Ng h H)
theorem Bh (h:Heap) (H:Hp):(uN h H).objs.size=h.objs.size:=W.hideAll_size _ _
theorem Dh {h:Heap}{H:Hp}{b:Addr}{o:Obj} (e:h.get? b=some o) (n:H b=none):(uN h H).get? b=some o :=
 W.hideAll_get _ e fun hm=>by
  have q:(H b).isSome=true:=(List.mem_filter.mp hm).2
  rw[n] at q;simp at q
theorem Fc {h:Heap}{H:Hp}{b:Addr}{o:Obj} (e:(uN h H).get? b=some o):h.get? b=some o∧H b=none:=by
 have e':h.get? b=some o:=W.of_hideAll (Ng h H) e
 refine⟨e',?_⟩
 cases q:H b with
 | none=>rfl
 | some x =>
  have hm:b∈Ng h H:=List.mem_filter.mpr ⟨List.mem_range.mpr (Heap.lt_size e'),by simp[q]⟩
  have z:(uN h H).get? b=none:=W.hideAll_none (Ng h H) hm
  rw[z] at e;cases e
def Fd (g h:Heap) (L:Addr):List (Addr×Obj):=(List.range h.objs.size).filterMap fun a=>if a=L∨(g.get? a).isSome=true then none else (h.get? a).map fun o=>(a,o)
def rest (g h:Heap) (L d:Addr):List (Addr×Obj):=(Fd g h L).filter fun p=>decide (p.1≠d)
structure Mod (K:W.Frag) (mg:Str→Option Value) (base:Heap):Prop where
 dw:K.In base
 glob:base.Ns mainGlobals mg
 blt:∃ mb,base.Ns builtinsNs mb∧∀ x:Str,x ≠ "__name__"→mb x=bootBuiltins x
 nolimit:base.NoLimit
structure Cx where
 prog:Program
 w:World
 K:W.Frag
 mg:Str→Option Value
 base:Heap
 A:Around
 N:List Str
 s₀:Shared
 H₀:Hp
 env:Env
 outer:List Env
 stack:List Env
 ex:List Addr
 fn:Str→Bool
 calm:Bool
 pn:List (Addr×Obj)
 xe:Value→Shared→Prop
def frs (l:List Env):List Addr:=l.filterMap (·.frame)
abbrev Cx.fs (X:Cx):List Addr:=frs X.outer
def NU (sc:Scope) (x:Str):Prop:=sc.names.lookup x=some .local∨sc.names.lookup x=some .cell∨sc.names.lookup x=some .free
def Loc (sc:Scope) (x:Str):Prop:=sc.names.lookup x=some .local∨sc.names.lookup x=some .cell
def Look (env:Env) (h:Heap) (m:Str→Option Value) (x:Str) (u:Value):Prop :=
 (env.kindOf x=some .local∧m x=some u)∨((env.kindOf x=some .cell∨env.kindOf x=some .free)∧∃ c,env.cells.lookup x=some c∧h.IsCell c (some u))
structure Cx.Ok (X:Cx):Prop where
 mod:Mod X.K X.mg X.base
 kind:X.env.scope.kind=.function
 glob:X.env.globals=mainGlobals
 blt:X.env.builtins=builtinsNs
 above:X.s₀.heap.objs.size≤X.env.locals
 inj:∀ x y c,X.env.cells.lookup x=some c→X.env.cells.lookup y=some c→x=y
 has:∀ x,(X.env.kindOf x=some .cell∨X.env.kindOf x=some .free)→∃ c,X.env.cells.lookup x=some c
 Hu:∀ x c,X.fn x=true→X.env.cells.lookup x=some c→X.s₀.heap.objs.size≤c
 hd:X.calm=true→X.A.handled=none
 frames:X.A.frames=some X.stack
 stk:X.stack=X.outer∨(X.stack=X.env :: X.outer∧X.env.frame=some X.env.locals)
 Nh:∀ b∈X.ex,b≠X.env.locals∧∀ x c,X.env.cells.lookup x=some c→c≠b
 bs:∀ b o,X.base.get? b=some o→X.s₀.heap.get? b=some o∧X.H₀ b=none
 C6:X.base.objs.size≤X.s₀.heap.objs.size
 yM:∀ b o,X.base.get? b=some o→b∉X.ex
 Bj:∀ b∈X.ex,b∉X.fs
 nI:X.s₀.heap.FunFrames X.base X.outer
 E3:∀ b∈X.fs,X.H₀ b=none
structure Inv (X:Cx) (pins:List (Addr×Obj)) (σ:List (Option V)) (H:Hp) (s:Shared):Prop where
 ok:X.Ok
 os:s.os=X.s₀.os
 bare:AllBare s.gens
 base:Un X.fs X.ex X.H₀ H X.s₀.heap s.heap
 loc:∃ m,s.heap.Ns X.env.locals m∧∀(i:Nat) (x:Str) (v:V),X.N[i]? = some x→σ[i]? = some (some v)→NU X.env.scope x→∃ u,RelV v u∧Look X.env s.heap m x u
 cell:∀ x c,X.env.cells.lookup x=some c→∃ v,s.heap.IsCell c v
 free:H X.env.locals=none
 gG:∀ x c,X.env.cells.lookup x=some c→H c=none
 pin:∀ p∈X.pn++pins,s.heap.get? p.1=some p.2∧H p.1=none∧p.1≠X.env.locals∧p.1∉X.fs∧∀ v,p.2.data≠.cell v
 hok:nH X.prog X.w H s.heap
 len:σ.length=X.N.length
section
variable {X:Cx}{pins:List (Addr×Obj)}{σ:List (Option V)}{H H':Hp}{s:Shared}{h':Heap}
theorem Cx.Ok.NV (ok:X.Ok) {b:Addr}{o:Obj} (e:X.base.get? b=some o):b∉X.fs:=fun hb=>by
 have:=(ok.nI.mem hb).1
 rw[e] at this;cases this
theorem Inv.bs (I:Inv X pins σ H s):∀ b o,X.base.get? b=some o→s.heap.get? b=some o∧H b=none:=fun b o e =>
 ⟨I.base.keep b o (I.ok.bs b o e).1 (I.ok.bs b o e).2 (I.ok.NV e) (I.ok.yM b o e),I.base.free b o (I.ok.bs b o e).1 (I.ok.bs b o e).2 (I.ok.yM b o e)⟩
theorem Inv.bk (I:Inv X pins σ H s):∀ b o,X.base.get? b=some o→s.heap.get? b=some o:=fun b o e=>(I.bs b o e).1
theorem Inv.mod (I:Inv X pins σ H s):Mod X.K X.mg X.base:=I.ok.mod
theorem Inv.j4 (I:Inv X pins σ H s):X.K.In s.heap:=I.ok.mod.dw.keeps I.bk
theorem Inv.lt (I:Inv X pins σ H s):X.env.locals < s.heap.objs.size:=let ⟨_,hn,_⟩:=I.loc;hn.lt
theorem Inv.sz (I:Inv X pins σ H s):X.s₀.heap.objs.size≤s.heap.objs.size:=Nat.le_trans I.ok.above (Nat.le_of_lt I.lt)
theorem Inv.NW (I:Inv X pins σ H s) {a:Addr} (h:s.heap.objs.size≤a):a∉X.fs:=fun hb=>by
 obtain⟨_,o,ho,_⟩:=I.ok.nI.mem hb
 exact absurd (Nat.lt_of_lt_of_le (Heap.lt_size ho) (Nat.le_trans I.sz h)) (Nat.lt_irrefl _)
theorem Inv.Fe (I:Inv X pins σ H s):∀ x c,X.env.cells.lookup x=some c→c≠X.env.locals:=fun x c e z=>by
 obtain⟨v,o,ho,hd⟩:=I.cell x c e
 obtain⟨m,⟨o',es,ep,ho',hd',_⟩,_⟩:=I.loc
 rw[z,ho'] at ho;cases ho;rw[hd'] at hd;cases hd
theorem Inv.nI (I:Inv X pins σ H s):s.heap.FunFrames X.base X.outer:=by
 have all:∀(l:List Env),(∀ b∈frs l,b∈X.fs)→X.s₀.heap.FunFrames X.base l→s.heap.FunFrames X.base l:=by
  intro l
  induction l with
  | nil=>intro _ _;trivial
  | cons env r ih =>
   intro hs hl
   obtain⟨hk,⟨L,o,hf,hn,ho,hd⟩,hr⟩:=hl
   have hL:L∈X.fs:=hs L (by unfold frs;rw[List.filterMap_cons,hf];exact List.mem_cons_self)
   obtain⟨sl,e⟩:=I.base.slot L o ho (I.ok.E3 L hL) hL fun z=>I.ok.Bj L z hL
   exact⟨hk,⟨L,_,hf,hn,e,hd⟩,ih (fun b hb=>hs b (by unfold frs;rw[List.filterMap_cons,hf];exact List.mem_cons_of_mem _ hb)) hr⟩
 exact all X.outer (fun _ hb=>hb) I.ok.nI
theorem Inv.stack (I:Inv X pins σ H s):s.heap.FunFrames X.base X.stack:=by
 rcases I.ok.stk with e | ⟨e,hf⟩
 ·rw[e];exact I.nI
 ·rw[e]
  obtain⟨m,hn,_⟩:=I.loc
  refine .cons (by rw[I.ok.kind];decide) hf hn ?_ I.nI
  exact Heap.get?_none_of_le (Nat.le_trans I.ok.C6 I.ok.above)
theorem Inv.pJ (I:Inv X pins σ H s):∀ b∈frs X.stack,b∈X.env.locals :: X.fs:=fun b hb=>by
 rcases I.ok.stk with e | ⟨e,hf⟩
 ·rw[e] at hb;exact List.mem_cons_of_mem _ hb
 ·rw[e] at hb
  unfold frs at hb
  rw[List.filterMap_cons,hf] at hb
  exact hb
theorem Inv.uO (I:Inv X pins σ H s):∀ b∈frs X.stack,H b=none:=fun b hb=>by
 rcases List.mem_cons.mp (I.pJ b hb) with e | hb
 ·rw[e];exact I.free
 ·obtain⟨_,o,ho,_⟩:=I.ok.nI.mem hb
  exact I.base.free b o ho (I.ok.E3 b hb) fun z=>I.ok.Bj b z hb
theorem Inv.step {g':Array GenState}{t':Nat}{d':Drawn}{ch:List Addr} (I:Inv X pins σ H s)
  (hch:∀ b∈ch,(b∈X.ex∨X.s₀.heap.objs.size≤b)∧b≠X.env.locals∧(∀ x c,X.env.cells.lookup x=some c→c≠b)∧∀ p∈X.pn++pins,p.1≠b)
  (keep:∀ b o,b≠X.env.locals→b∉X.fs→b∉ch→s.heap.get? b=some o→H b=none→h'.get? b=some o)
  (slot:∀ b o,b≠X.env.locals→b∈X.fs→b∉ch→s.heap.get? b=some o→H b=none→∃ sl,h'.get? b=some { o with slots:=sl }) (free:∀ b o,b∉ch→s.heap.get? b=some o→H b=none→H' b=none)
  (there:∀ b o,b∉ch→s.heap.get? b=some o→∃ o',h'.get? b=some o')
  (tups:∀ b xs,H b=some (.tup xs)→H' b=some (.tup xs)) (pI:∀ b o u,H b=some (.ou o u)→H' b=some (.ou o u)) (qD:∀ b ps,H b=some (.GJ ps)→∃ more,H' b=some (.GJ (ps++more)))
  (ns:∀ m,s.heap.Ns X.env.locals m→h'.Ns X.env.locals m) (hok:nH X.prog X.w H' h') (hg:AllBare g') :
  Inv X pins σ H' { s with heap:=h',gens:=g',drawn:=d',toks:=t' }:=by
 have Ni:∀ b o,X.s₀.heap.get? b=some o→b≠X.env.locals:=fun b o e=>Nat.ne_of_lt (Nat.lt_of_lt_of_le (Heap.lt_size e) I.ok.above)
 have Nj:∀ b o,X.s₀.heap.get? b=some o→b∉X.ex→b∉ch:=fun b o e hx hb=>by
  rcases(hch b hb).1 with z | z
  ·exact hx z
  ·exact absurd (Nat.lt_of_lt_of_le (Heap.lt_size e) z) (Nat.lt_irrefl _)
 have cellK:∀ x c,X.env.cells.lookup x=some c→∀ v,s.heap.IsCell c v→h'.IsCell c v:=fun x c e v ⟨o,ho,hd⟩=>by
  have E4:c∉ch:=fun z=>(hch c z).2.2.1 x c e rfl
  by_cases hc:c∈X.fs
  ·obtain⟨sl,q⟩:=slot c o (I.Fe x c e) hc E4 ho (I.gG x c e)
   exact⟨_,q,hd⟩
  ·exact⟨o,keep c o (I.Fe x c e) hc E4 ho (I.gG x c e),hd⟩
 refine⟨I.ok,I.os,hg,⟨fun b o e n hb hx=>?_,fun b o e n hb hx=>?_,fun b o e n hx=>?_,fun b o e hx=>?_,fun b xs e=>tups b xs (I.base.tups b xs e),fun b o xs e=>pI b o xs (I.base.pI b o xs e),fun b ps e=>?_⟩,?_,fun x c e=>?_,?_,fun x c e=>?_,fun p hp=>?_,hok,I.len⟩
 ·exact keep b o (Ni b o e) hb (Nj b o e hx) (I.base.keep b o e n hb hx) (I.base.free b o e n hx)
 ·obtain⟨sl,e1⟩:=I.base.slot b o e n hb hx
  obtain⟨Tw,e2⟩:=slot b _ (Ni b o e) hb (Nj b o e hx) e1 (I.base.free b o e n hx)
  exact⟨Tw,e2⟩
 ·obtain⟨o',e1⟩:=I.base.there b o e hx
  exact free b o' (Nj b o e hx) e1 (I.base.free b o e n hx)
 ·obtain⟨o',e1⟩:=I.base.there b o e hx
  exact there b o' (Nj b o e hx) e1
 ·obtain⟨m1,e1⟩:=I.base.qD b ps e
  obtain⟨m2,e2⟩:=qD b _ e1
  exact⟨m1++m2,by rw[e2,Array.append_assoc]⟩
 ·obtain⟨m,hn,hl⟩:=I.loc
  refine⟨m,ns m hn,fun i x v e1 e2 e3=>?_⟩
  obtain⟨u,r,l⟩:=hl i x v e1 e2 e3
  refine⟨u,r,?_⟩
  rcases l with l | ⟨k,c,e,z⟩
  ·exact .inl l
  ·exact .inr ⟨k,c,e,cellK x c e _ z⟩
 ·obtain⟨v,z⟩:=I.cell x c e
  exact⟨v,cellK x c e v z⟩
 ·obtain⟨m,⟨o,_,_,ho,_⟩,_⟩:=I.loc
  exact free _ o (fun z=>(hch _ z).2.1 rfl) ho I.free
 ·obtain⟨v,o,ho,hd⟩:=I.cell x c e
  exact free c o (fun z=>(hch c z).2.2.1 x c e rfl) ho (I.gG x c e)
 ·obtain⟨e,n,ne,nf,d⟩:=I.pin p hp
  have E4:p.1∉ch:=fun z=>(hch p.1 z).2.2.2 p hp rfl
  exact⟨keep p.1 p.2 ne nf E4 e n,free p.1 p.2 E4 e n,ne,nf,d⟩
theorem Inv.un {t':Nat} (I:Inv X pins σ H s) (u:Un X.fs [] H H' s.heap h') (hok:nH X.prog X.w H' h'):Inv X pins σ H' { s with heap:=h',toks:=t' }:=by
 obtain⟨m,⟨o,es,ep,ho,r⟩,_⟩:=id I.loc
 obtain⟨sl,hL⟩:=u.any ho I.free (by simp)
 exact I.step (g':=s.gens) (d':=s.drawn) (ch:=[]) (fun _ z=>nomatch z) (fun b o _ hb _ e n=>u.keep b o e n hb (by simp)) (fun b o _ hb _ e n=>u.slot b o e n hb (by simp)) (fun b o _ e n=>u.free b o e n (by simp)) (fun b o _ e=>u.there b o e (by simp)) u.tups u.pI u.qD (fun m' hm=>by
  obtain⟨o',es',NX,ho',r'⟩:=hm
  rw[ho] at ho';cases ho'
  exact⟨_,es',NX,hL,r'⟩) hok I.bare
theorem Inv.call {g':Array GenState}{t':Nat}{d':Drawn}{ch:List Addr} (I:Inv X pins σ H s) (u:Un (frs X.stack) ch H H' s.heap h') (hok:nH X.prog X.w H' h') (hg:AllBare g')
  (hch:∀ b∈ch,(b∈X.ex∨X.s₀.heap.objs.size≤b)∧b≠X.env.locals∧(∀ x c,X.env.cells.lookup x=some c→c≠b)∧∀ p∈X.pn++pins,p.1≠b) :
  Inv X pins σ H' { s with heap:=h',gens:=g',drawn:=d',toks:=t' }:=by
 obtain⟨m,⟨o,es,ep,ho,r⟩,_⟩:=id I.loc
 obtain⟨sl,hL⟩:=u.any ho I.free fun z=>(hch _ z).2.1 rfl
 exact I.step (ch:=ch) hch (fun b o hL hb hc e n=>u.keep b o e n (fun z=>(List.mem_cons.mp (I.pJ b z)).elim hL hb) hc) (fun b o _ _ hc e n=>u.any e n hc) (fun b o hc e n=>u.free b o e n hc) (fun b o hc e=>u.there b o e hc) u.tups u.pI u.qD (fun m' hm=>by
  obtain⟨o',es',NX,ho',r'⟩:=hm
  rw[ho] at ho';cases ho'
  exact⟨_,es',NX,hL,r'⟩) hok hg
theorem Inv.turned {t':Nat}{it:Addr} (I:Inv X pins σ H s) (k:∀ b o,b≠it→s.heap.get? b=some o→h'.get? b=some o) (hn:H it=none) (hL:it≠X.env.locals)
  (h1:it∈X.ex∨X.s₀.heap.objs.size≤it) (h2:∀ x c,X.env.cells.lookup x=some c→c≠it) (h3:∀ p∈X.pn++pins,p.1≠it):Inv X pins σ H { s with heap:=h',toks:=t' }:=by
 have Rb:∀ b u,H b=some u→b≠it:=fun b u e z=>by rw[z,hn] at e;cases e
 refine I.step (g':=s.gens) (d':=s.drawn) (ch:=[it]) (fun b hb=>?_) (fun b o _ _ hc e _=>k b o (fun z=>hc (by simp[z])) e) (fun b o _ _ hc e _=>⟨o.slots,k b o (fun z=>hc (by simp[z])) e⟩) (fun _ _ _ _ n=>n)
  (fun b o hc e=>⟨o,k b o (fun z=>hc (by simp[z])) e⟩) (fun _ _ e=>e) (fun _ _ _ e=>e) (fun b ps e=>⟨#[],by rw[e];simp⟩) (fun m hm=>?_) (fun b u e=>?_) I.bare
 ·have e:b=it:=by simpa using hb
  subst e
  exact⟨h1,hL,h2,h3⟩
 ·obtain⟨o,es,ep,ho,r⟩:=hm
  exact⟨o,es,ep,k _ o (Ne.symm hL) ho,r⟩
 ·refine(I.hok b u e).stay (fun c v hc q=>k c v ?_ q) (fun _ q=>q) fun _ _ q=>q
  rcases hc with z | z
  ·rw[z];exact Rb b u e
  ·exact Rb c _ z
theorem Inv.tok (I:Inv X pins σ H s) (t:Nat):Inv X pins σ H { s with toks:=t }:=I.un (h':=s.heap) (t':=t) Un.refl I.hok
theorem Inv.kept {t':Nat} (I:Inv X pins σ H s) (k:∀ b u,s.heap.get? b=some u→h'.get? b=some u):Inv X pins σ H { s with heap:=h',toks:=t' }:=I.un (Un.kept k) (I.hok.kept k)
theorem Inv.laid {a:Addr}{o:HO}{t':Nat} (I:Inv X pins σ H s) (k:∀ b u,s.heap.get? b=some u→h'.get? b=some u) (hp:s.heap.objs.size≤a) (new:bQ X.prog X.w (upd H a o) h' a o) :
 Inv X pins σ (upd H a o) { s with heap:=h',toks:=t' }:=I.un (Un.laid k hp (I.hok.fresh hp)) (I.hok.laid k hp new)
theorem Inv.write {x e:Addr}{o:HO}{t':Nat} (I:Inv X pins σ H s) (mu:JU (H x)) (he:e=x∨H e=some (.own x)) (k:∀ b u,b≠e→s.heap.get? b=some u→h'.get? b=some u) (JA:∃ u,h'.get? e=some u)
 (new:bQ X.prog X.w (upd H x o) h' x o):Inv X pins σ (upd H x o) { s with heap:=h',toks:=t' }:=I.un (Un.write mu he k JA) (I.hok.write mu he k JA new)
theorem Inv.AE {GK:List (Addr×Obj)} (I:Inv X pins σ H s) (h:∀ p∈GK,s.heap.get? p.1=some p.2∧H p.1=none∧p.1≠X.env.locals∧p.1∉X.fs∧∀ v,p.2.data≠.cell v):Inv X GK σ H s :=
 ⟨I.ok,I.os,I.bare,I.base,I.loc,I.cell,I.free,I.gG,fun p hp=>(List.mem_append.mp hp).elim (fun z=>I.pin p (List.mem_append_left _ z)) (h p),I.hok,I.len⟩
theorem rH {N:List Str} (hN:N.Nodup) {i j:Nat}{x:Str} (a:N[i]? = some x) (b:N[j]? = some x):i=j:=by
 obtain⟨h1,e1⟩:=List.getElem?_eq_some_iff.mp a
 obtain⟨h2,e2⟩:=List.getElem?_eq_some_iff.mp b
 exact(List.getElem_inj hN).mp (e1.trans e2.symm)
theorem uq {M:Model}{A:Around}{E:Value→Shared→Prop}{i:Nat}{x:Str}{v:V}{u:Value}{Q:Unit→Shared→Prop} (I:Inv X pins σ H s) (hN:X.N.Nodup) (hi:X.N[i]? = some x) (hx:Loc X.env.scope x) (r:RelV v u)
  (h:∀ s',Inv X pins (σ.set i (some v)) H s'→(∃ a,Heap.SameBut a s.heap s'.heap∧(a=X.env.locals∨X.env.cells.lookup x=some a))→Q () s') (hf:X.fn x=true∨X.env.scope.names.lookup x=some .local:=by first | exact .inl rfl | exact .inr rfl | assumption):wpAny M A (storeName X.env x u) Q E s:=by
 obtain⟨m,hn,hl⟩:=id I.loc
 have hcls:(X.env.scope.kind == .class || (X.env.scope.kind == .module && X.env.locals != X.env.globals))=false:=by rw[I.ok.kind];rfl
 have JW:i < σ.length:=by rw[I.len];exact(List.getElem?_eq_some_iff.mp hi).1
 have Fe:=I.Fe
 have tracked:∀{a:Addr}{h':Heap},(∃ o,s.heap.get? a=some o∧H a=none)→Heap.SameBut a s.heap h'→nH X.prog X.w H h':=fun {a h'} ha hs b ob e=>by
  obtain⟨_,_,hfree⟩:=ha
  refine(I.hok b ob e).stay (fun c w' hc q=>(hs.2 c ?_).trans q) (fun _ q=>q) fun _ _ q=>q
  rintro rfl
  rcases hc with rfl | hc
  ·rw[hfree] at e;cases e
  ·rw[hfree] at hc;cases hc
 rcases hx with hk | hk
 ·refine wpAny_storeName_local hk hn (fun h' hn' hs=>?_) hcls
  obtain⟨oL,_,_,Tz,_⟩:=id hn
  refine h _ ⟨I.ok,I.os,I.bare,⟨fun b o e n hb hx=>?_,fun b o e n hb hx=>?_,I.base.free,fun b o e hx=>?_,I.base.tups,I.base.pI,I.base.qD⟩,⟨_,hn',fun j y v' e1 e2 e3=>?_⟩,fun y c e=>?_,I.free,I.gG,fun p hp=>?_,tracked ⟨oL,Tz,I.free⟩ hs,by simpa using I.len⟩ ⟨_,hs,.inl rfl⟩
  ·exact(hs.2 b (Nat.ne_of_lt (Nat.lt_of_lt_of_le (Heap.lt_size e) I.ok.above))).trans (I.base.keep b o e n hb hx)
  ·obtain⟨sl,e1⟩:=I.base.slot b o e n hb hx
   exact⟨sl,(hs.2 b (Nat.ne_of_lt (Nat.lt_of_lt_of_le (Heap.lt_size e) I.ok.above))).trans e1⟩
  ·obtain⟨o',e1⟩:=I.base.there b o e hx
   exact⟨o',(hs.2 b (Nat.ne_of_lt (Nat.lt_of_lt_of_le (Heap.lt_size e) I.ok.above))).trans e1⟩
  ·by_cases hj:j=i
   ·subst hj
    rw[hi] at e1;cases e1
    rw[List.getElem?_set_self JW] at e2
    cases e2
    exact⟨u,r,.inl ⟨hk,by simp⟩⟩
   ·rw[List.getElem?_set_ne (Ne.symm hj)] at e2
    obtain⟨u',r',q⟩:=hl j y v' e1 e2 e3
    refine⟨u',r',?_⟩
    rcases q with ⟨k,e⟩ | ⟨k,c,e,z⟩
    ·refine .inl ⟨k,?_⟩
     have:y≠x:=fun e=>hj (rH hN e1 (e ▸ hi))
     simp[this,e]
    ·exact .inr ⟨k,c,e,z.sameBut hs (Fe y c e)⟩
  ·obtain⟨w',z⟩:=I.cell y c e
   exact⟨w',z.sameBut hs (Fe y c e)⟩
  ·obtain⟨e,n,ne,nf,d⟩:=I.pin p hp
   exact⟨(hs.2 p.1 ne).trans e,n,ne,nf,d⟩
 ·have hfn:X.fn x=true:=by
   rcases hf with z | z
   ·exact z
   ·rw[z] at hk;cases hk
  obtain⟨c,hc⟩:=I.ok.has x (.inl hk)
  obtain⟨w',z⟩:=I.cell x c hc
  refine wpAny_storeName_cell I.ok.kind hk hc z (fun h' hc' hs=>?_)
  obtain⟨oc,hoc,NY⟩:=id z
  refine h { s with heap:=h' } ⟨I.ok,I.os,I.bare,⟨fun b o e n hb hx=>?_,fun b o e n hb hx=>?_,I.base.free,fun b o e hx=>?_,I.base.tups,I.base.pI,I.base.qD⟩,⟨m,hn.sameBut hs (Ne.symm (Fe x c hc)),fun j y v' e1 e2 e3=>?_⟩,fun y c' e=>?_,I.free,I.gG,fun p hp=>?_,tracked ⟨oc,hoc,I.gG x c hc⟩ hs,by simpa using I.len⟩ ⟨c,hs,.inr hc⟩
  ·exact(hs.2 b (Nat.ne_of_lt (Nat.lt_of_lt_of_le (Heap.lt_size e) (I.ok.Hu x c hfn hc)))).trans (I.base.keep b o e n hb hx)
  ·obtain⟨sl,e1⟩:=I.base.slot b o e n hb hx
   exact⟨sl,(hs.2 b (Nat.ne_of_lt (Nat.lt_of_lt_of_le (Heap.lt_size e) (I.ok.Hu x c hfn hc)))).trans e1⟩
  ·obtain⟨o',e1⟩:=I.base.there b o e hx
   exact⟨o',(hs.2 b (Nat.ne_of_lt (Nat.lt_of_lt_of_le (Heap.lt_size e) (I.ok.Hu x c hfn hc)))).trans e1⟩
  ·by_cases hj:j=i
   ·subst hj
    rw[hi] at e1;cases e1
    rw[List.getElem?_set_self JW] at e2
    cases e2
    exact⟨u,r,.inr ⟨.inl hk,c,hc,hc'⟩⟩
   ·rw[List.getElem?_set_ne (Ne.symm hj)] at e2
    obtain⟨u',r',q⟩:=hl j y v' e1 e2 e3
    refine⟨u',r',?_⟩
    rcases q with q | ⟨k,c',e,z'⟩
    ·exact .inl q
    ·refine .inr ⟨k,c',e,z'.sameBut hs ?_⟩
     rintro rfl
     exact hj (rH hN e1 (I.ok.inj _ _ _ e hc ▸ hi))
  ·by_cases hcc:c'=c
   ·subst hcc;exact⟨_,hc'⟩
   ·obtain⟨w2,z2⟩:=I.cell y c' e
    exact⟨w2,z2.sameBut hs hcc⟩
  ·obtain⟨e,n,ne,nf,d⟩:=I.pin p hp
   refine⟨(hs.2 p.1 ?_).trans e,n,ne,nf,d⟩
   intro q
   rw[q,hoc] at e
   have q':oc=p.2:=Option.some.inj e
   exact d w' (by rw[←q'];exact NY)
theorem rJ {M:Model}{A:Around}{E:Value→Shared→Prop}{i:Nat}{x:Str}{v:V}{u:Value}{Q:Unit→Shared→Prop} (I:Inv X pins σ H s) (hN:X.N.Nodup) (hi:X.N[i]? = some x) (hx:Loc X.env.scope x) (r:RelV v u)
  (h:∀ s',Inv X pins (σ.set i (some v)) H s'→Q () s') (hf:X.fn x=true∨X.env.scope.names.lookup x=some .local:=by first | exact .inl rfl | exact .inr rfl | assumption):wpAny M A (storeName X.env x u) Q E s :=
 uq I hN hi hx r (fun s' I' _=>h s' I') hf
theorem Inv.wV {s':Shared}{ch:List Addr} (I:Inv X pins σ H s) (ho:s'.os=s.os) (u:Un (frs X.stack) ch H H' s.heap s'.heap) (hok:nH X.prog X.w H' s'.heap) (hg:AllBare s'.gens)
  (hch:∀ b∈ch,(b∈X.ex∨X.s₀.heap.objs.size≤b)∧b≠X.env.locals∧(∀ x c,X.env.cells.lookup x=some c→c≠b)∧∀ p∈X.pn++pins,p.1≠b):Inv X pins σ H' s':=by
 obtain⟨h',g',d',t',o'⟩:=s'
 have e:o'=s.os:=ho
 subst e
 exact I.call (g':=g') (t':=t') (d':=d') u hok hg hch
end
abbrev XK:=Value→Option Addr→Hp→Prop
abbrev St:=List (Option V)
abbrev VK:=V→Hp→Prop
abbrev TE:=St→Hp→VK→Prop
abbrev TT:=St→Hp→(Bool→Hp→Prop)→Prop
abbrev TA:=St→Hp→(List V→Hp→Prop)→Prop
structure Ends where
 nx:St→Hp→Prop
 rt:VK
 bk:St→Hp→Prop:=fun _ _=>False
 ct:St→Hp→Prop:=fun _ _=>False
abbrev TS:=Ends→St→Hp→Prop
def EP (X:Cx) (pins:List (Addr×Obj)) (σ:St) (Q:VK) (u:Value) (s':Shared):Prop:=∃ v H',Inv X pins σ H' s'∧RelV v u∧Q v H'
def TP (X:Cx) (pins:List (Addr×Obj)) (σ:St) (Q:Bool→Hp→Prop) (b:Bool) (s':Shared):Prop:=∃ H',Inv X pins σ H' s'∧Q b H'
def AP (X:Cx) (pins:List (Addr×Obj)) (σ:St) (Q:List V→Hp→Prop) (us:List Value) (s':Shared):Prop:=∃ vs H',Inv X pins σ H' s'∧Vals vs us∧Q vs H'
def SP (X:Cx) (pins:List (Addr×Obj)) (D:Ends) (f:Flow) (s':Shared):Prop :=
 match f with
 | .next=>∃ σ' H',Inv X pins σ' H' s'∧D.nx σ' H'
 | .brk=>∃ σ' H',Inv X pins σ' H' s'∧D.bk σ' H'
 | .cont=>∃ σ' H',Inv X pins σ' H' s'∧D.ct σ' H'
 | .ret u=>∃ v σ' H',Inv X pins σ' H' s'∧RelV v u∧D.rt v H'
def PE (X:Cx) (e:Expr) (t:TE):Prop :=
 ∀(pins:List (Addr×Obj)) (s:Shared) (σ:St) (H:Hp) (Q:VK),Inv X pins σ H s→t σ H Q→wpAny (model X.prog X.w) X.A (eval e X.env) (EP X pins σ Q) X.xe s
def PT (X:Cx) (e:Expr) (t:TT):Prop :=
 ∀(pins:List (Addr×Obj)) (s:Shared) (σ:St) (H:Hp) (Q:Bool→Hp→Prop),Inv X pins σ H s→t σ H Q→wpAny (model X.prog X.w) X.A (isTrue e X.env (eval e X.env)) (TP X pins σ Q) X.xe s
def PW (X:Cx) (e:Expr) (t:TT):Prop :=
 ∀(whole:Sem Value) (pins:List (Addr×Obj)) (s:Shared) (σ:St) (H:Hp) (Q:Bool→Hp→Prop),Inv X pins σ H s→t σ H Q→wpAny (model X.prog X.w) X.A (isTrue e X.env whole) (TP X pins σ Q) X.xe s
theorem PW.pt {X:Cx}{e:Expr}{t:TT} (h:PW X e t):PT X e t:=h _
def PA (X:Cx) (es:List Expr) (t:TA):Prop :=
 ∀(pos:Pos) (pins:List (Addr×Obj)) (s:Shared) (σ:St) (H:Hp) (Q:List V→Hp→Prop),Inv X pins σ H s→t σ H Q→wpAny (model X.prog X.w) X.A (spliced (backTo pos (starEach es X.env))) (AP X pins σ Q) X.xe s
def PS (X:Cx) (st:Stmt) (t:TS):Prop :=
 ∀(pins:List (Addr×Obj)) (s:Shared) (σ:St) (H:Hp) (D:Ends),Inv X pins σ H s→t D σ H→wpAny (model X.prog X.w) X.A (exec st X.env) (SP X pins D) X.xe s
def wO (X:Cx) (st:List Stmt) (t:TS):Prop :=
 ∀(pins:List (Addr×Obj)) (s:Shared) (σ:St) (H:Hp) (D:Ends),Inv X pins σ H s→t D σ H→wpAny (model X.prog X.w) X.A (execs st X.env) (SP X pins D) X.xe s
theorem bZ {α:Type}{t:Sem α}{Q Q':α→Shared→Prop}{M:Model}{A:Around}{E:Value→Shared→Prop}{s:Shared} (h:wpAny M A t Q E s) (hQ:∀ a s,Q a s→Q' a s):wpAny M A t Q' E s:=wpAny_mono h hQ fun _ _ x=>x
section
variable {X:Cx}
def Bk (i:Nat):TE:=fun σ H Q=>∃ v,σ[i]? = some (some v)∧Q v H
def tC (v:V):TE:=fun _ H Q=>Q v H
theorem Hv {i:Nat}{x:Str}{pos:Pos} (hN:X.N[i]? = some x) (hv:NU X.env.scope x) (hd:(x == ("__debug__" : Str))=false:=by decide) (hcd:(x == ("__classdict__" : Str))=false:=by decide):PE X (.Name x pos) (Bk i):=by
 intro pins s σ H Q I h
 obtain⟨v,e,h⟩:=h
 obtain⟨m,hn,hl⟩:=I.loc
 obtain⟨u,r,l⟩:=hl i x v hN e hv
 have fin:EP X pins σ Q u s:=⟨v,H,I,r,h⟩
 rcases l with ⟨hk,hm⟩ | ⟨hk,c,hc,hcell⟩
 ·exact wpAny_Name (wpAny_loadName_local I.ok.kind hk hn hm fin) hd
 ·rcases hk with hk | hk
  ·exact wpAny_Name (wpAny_loadName_cell I.ok.kind hk hc hcell fin) hd
  ·exact wpAny_Name (wpAny_loadName_free I.ok.kind hk hc hcell fin hcd) hd
theorem aj {i j pos}:PE X (.Constant (.int i) j pos) (tC (.int i)):=fun _ _ _ H _ I h=>wpAny_Constant_int ⟨.int i,H,I.tok _,⟨_,rfl⟩,h⟩
theorem ie {b j pos}:PE X (.Constant (.bool b) j pos) (tC (.bl b)):=fun _ _ _ H _ I h=>Constant_bool ⟨.bl b,H,I,rfl,h⟩
theorem rK {j pos}:PE X (.Constant .none j pos) (tC .non):=fun _ _ _ H _ I h=>Constant_none ⟨.non,H,I,rfl,h⟩
theorem aI {x j pos}:PE X (.Constant (.str x) j pos) (tC (.str x)):=fun _ _ _ H _ I h=>Calls.Constant_str ⟨.str x,H,I.tok _,⟨_,rfl⟩,h⟩
def Gl (X:Cx) (x:Str):Prop:=X.env.kindOf x=some .globalImplicit
theorem gB {E:Value→Shared→Prop}{pins:List (Addr×Obj)}{s:Shared}{σ:St}{H:Hp}{x:Str}{u:Value}{pos:Pos}{Q:Value→Shared→Prop} (I:Inv X pins σ H s) (hg:Gl X x) (hm:X.mg x=some u) (h:Q u s)
  (hd:(x == ("__debug__" : Str))=false:=by decide):wpAny (model X.prog X.w) X.A (eval (.Name x pos) X.env) Q E s :=
 Calls.Name_function_global I.ok.kind hg (Calls.loadGlobal_global (by rw[I.ok.glob];exact I.mod.glob.keeps I.bk) hm h) hd
theorem rL {E:Value→Shared→Prop}{pins:List (Addr×Obj)}{s:Shared}{σ:St}{H:Hp}{x:Str}{u:Value}{pos:Pos}{Q:Value→Shared→Prop} (I:Inv X pins σ H s) (hg:Gl X x) (hm:X.mg x=none) (hv:bootBuiltins x=some u) (h:Q u s)
  (hn:x ≠ "__name__" := by decide) (hd:(x == ("__debug__" : Str))=false:=by decide):wpAny (model X.prog X.w) X.A (eval (.Name x pos) X.env) Q E s:=by
 obtain⟨mb,h1,h2⟩:=I.mod.blt
 exact Calls.Name_function_global I.ok.kind hg (Calls.loadGlobal_builtin (by rw[I.ok.glob];exact I.mod.glob.keeps I.bk) hm (by rw[I.ok.blt];exact h1.keeps I.bk) ((h2 x hn).trans hv) h) hd
theorem AF {x:Str}{v:V}{u:Value}{pos:Pos} (hg:Gl X x) (hm:X.mg x=some u) (r:RelV v u) (hd:(x == ("__debug__" : Str))=false:=by decide):PE X (.Name x pos) (tC v) :=
 fun _ _ _ H _ I h=>gB I hg hm ⟨v,H,I,r,h⟩ hd
theorem Ff {x:Str}{v:V}{u:Value}{pos:Pos} (hg:Gl X x) (hm:X.mg x=none) (hv:bootBuiltins x=some u) (r:RelV v u) (hn:x ≠ "__name__" := by decide) (hd:(x == ("__debug__" : Str))=false:=by decide):PE X (.Name x pos) (tC v) :=
 fun _ _ _ H _ I h=>rL I hg hm hv ⟨v,H,I,r,h⟩ hn hd
variable {a b:Expr}{ta tb:TE}{pos:Pos}
def tB (t:TE):TT:=fun σ H Q=>t σ H fun x H1=>∃ c,x=.bl c∧Q c H1
theorem gU {e:Expr}{t:TE} (h:PE X e t) (he:∀ whole,isTrue e X.env whole=(do let v ←whole;standAt e.pos;holding [v] (truthy v)):=by intro _;rfl):PT X e (tB t):=by
 intro pins s σ H Q I hw
 refine isTrue_plain (bZ (h pins s σ H _ I hw) fun v s1 ⟨x,H1,I1,r1,q1⟩=>?_) (he _)
 obtain⟨d,rfl,q⟩:=q1
 cases r1
 exact wpAny_truthy_bool ⟨H1,I1,q⟩
variable {tA Nk:TT}{rest:List Expr}
def NZ (t u:TT):TT:=fun σ H Q=>t σ H fun c H1=>if c=true then u σ H1 Q else Q false H1
def TF (t u:TT):TT:=fun σ H Q=>t σ H fun c H1=>if c=true then Q true H1 else u σ H1 Q
def N1 (t:TT):TT:=fun σ H Q=>t σ H fun c H1=>Q (!c) H1
theorem uP (ha:PT X a tA):PW X (.BoolOp .And [a] pos) tA:=by
 intro wh pins s σ H Q I h
 refine isTrue_and (bZ (ha pins s σ H Q I h) fun c s1 e=>?_)
 cases c with
 | true=>exact isTrue_and_nil e
 | false=>exact e
theorem pK (ha:PT X a tA):PW X (.BoolOp .Or [a] pos) tA:=by
 intro wh pins s σ H Q I h
 refine isTrue_or (bZ (ha pins s σ H Q I h) fun c s1 e=>?_)
 cases c with
 | false=>exact isTrue_or_nil e
 | true=>exact e
theorem uQ (ha:PT X a tA) (hb:PW X (.BoolOp .And (b :: rest) pos) Nk):PW X (.BoolOp .And (a :: b :: rest) pos) (NZ tA Nk):=by
 intro wh pins s σ H Q I h
 refine isTrue_and (bZ (ha pins s σ H _ I h) fun c s1 ⟨H1,I1,q1⟩=>?_)
 cases c with
 | true=>exact hb wh pins s1 σ H1 Q I1 q1
 | false=>exact⟨H1,I1,q1⟩
theorem ow (ha:PT X a tA) (hb:PW X (.BoolOp .Or (b :: rest) pos) Nk):PW X (.BoolOp .Or (a :: b :: rest) pos) (TF tA Nk):=by
 intro wh pins s σ H Q I h
 refine isTrue_or (bZ (ha pins s σ H _ I h) fun c s1 ⟨H1,I1,q1⟩=>?_)
 cases c with
 | true=>exact⟨H1,I1,q1⟩
 | false=>exact hb wh pins s1 σ H1 Q I1 q1
theorem j5 (ha:PT X a tA):PT X (.UnaryOp .Not a pos) (N1 tA):=by
 intro pins s σ H Q I h
 exact isTrue_not (ha pins s σ H (fun c H1=>Q (!c) H1) I h)
def JX (ta tb:TE):TE:=fun σ H Q=>ta σ H fun x H1=>∃ c,x=.bl c∧if c=true then tb σ H1 Q else Q (.bl false) H1
theorem rM {op}{t:TE} (h:PE X a t):PE X (.BoolOp op [a] pos) t:=fun pins s σ H Q I hw=>BoolOp_one (h pins s σ H Q I hw)
theorem kW (ha:PE X a ta) (hb:PE X (.BoolOp .And (b :: rest) pos) tb):PE X (.BoolOp .And (a :: b :: rest) pos) (JX ta tb):=by
 intro pins s σ H Q I h
 refine BoolOp_and (bZ (ha pins s σ H _ I h) fun v s1 ⟨x,H1,I1,r1,q1⟩=>?_)
 obtain⟨c,rfl,q1⟩:=q1
 cases r1
 refine wpAny_truthy_bool ?_
 cases c with
 | true=>exact hb pins s1 σ H1 Q I1 q1
 | false=>exact⟨.bl false,H1,I1,rfl,q1⟩
def TL (t:TT) (ta tb:TE):TE:=fun σ H Q=>t σ H fun c H1=>if c=true then ta σ H1 Q else tb σ H1 Q
theorem Di {c:Expr} (hc:PT X c tA) (ha:PE X a ta) (hb:PE X b tb):PE X (.IfExp c a b pos) (TL tA ta tb):=by
 intro pins s σ H Q I h
 refine wpAny_IfExp (bZ (hc pins s σ H _ I h) fun d s1 ⟨H1,I1,q1⟩=>?_)
 cases d with
 | true=>exact ha pins s1 σ H1 Q I1 q1
 | false=>exact hb pins s1 σ H1 Q I1 q1
end
def aS (K:W.Frag) (H:Hp) (a:Addr) (xs:List V):Prop :=
 Rd H a (.lst xs) ∨
  ∃(o:Obj) (its:Array Value) (n:Nat),K.lookup a=some o∧o.cls=.type "list"∧o.dict=none∧o.data=.seq its n∧its.size≤sizeLine∧Vals xs its.toList
def iN (K:W.Frag) (H:Hp) (a:Addr) (xs:List V):Prop :=
 Rd H a (.tup xs) ∨
  ∃(o:Obj) (its:Array Value) (n:Nat),K.lookup a=some o∧o.cls=.type "tuple"∧o.data=.seq its n∧its.size≤sizeLine∧Vals xs its.toList
def N2:Value→Option V
 | .none=>some .non
 | .bool b=>some (.bl b)
 | .int i _=>some (.int i)
 | .str x _=>some (.str x)
 | .bytes b _=>some (.C5 b)
 | .float b _=>some (.Dg b)
 | .ref a=>some (.ref a)
 | .type n=>some (.ty n)
 | _=>none
theorem RelV.abs {x:V}{u:Value} (r:RelV x u):N2 u=some x:=by
 cases x with
 | non=>cases r;rfl
 | bl _=>cases r;rfl
 | int _=>obtain⟨t,rfl⟩:=r;rfl
 | str _=>obtain⟨t,rfl⟩:=r;rfl
 | C5 _=>obtain⟨t,rfl⟩:=r;rfl
 | Dg _=>obtain⟨t,rfl⟩:=r;rfl
 | ref _=>cases r;rfl
 | ty _=>cases r;rfl
theorem RelV.inj {x y:V}{u:Value} (r:RelV x u) (q:RelV y u):x=y:=Option.some.inj (r.abs.symm.trans q.abs)
theorem Vals.inj:∀{xs ys:List V}{us:List Value},Vals xs us→Vals ys us→xs=ys
 | _,_,_,.nil,.nil=>rfl
 | _,_,_,.cons r t,.cons r' t'=>by rw[r.inj r',Vals.inj t t']
section
variable {X:Cx}{pins:List (Addr×Obj)}{σ:St}{H:Hp}{s:Shared}{a:Addr}{xs ys:List V}
theorem aS.of {K:W.Frag} (h:H a=some (.lst xs)):aS K H a xs:=.inl (.inl h)
theorem iN.of {K:W.Frag} (h:H a=some (.tup xs)):iN K H a xs:=.inl (.inl h)
theorem Inv.list (I:Inv X pins σ H s) (h:aS X.K H a xs):∃ its:List Value,Vals xs its∧PlainL s.heap a its.toArray∧xs.length≤sizeLine:=by
 rcases h with h | ⟨o,its,n,hk,hc,hd,hs,hz,r⟩
 ·obtain⟨z,its,n,r,e⟩:=h.ok I.hok
  exact⟨its,r,⟨_,n,e,rfl,rfl,rfl⟩,z⟩
 ·refine⟨its.toList,r,⟨o,n,I.j4 a o hk,hc,hd,by simpa using hs⟩,?_⟩
  have e:=r.length
  simp only[Array.length_toList] at e
  omega
theorem Inv.tuple (I:Inv X pins σ H s) (h:iN X.K H a xs):∃ its:List Value,Vals xs its∧IsTup s.heap a its.toArray∧xs.length≤sizeLine:=by
 rcases h with h | ⟨o,its,n,hk,hc,hs,hz,r⟩
 ·obtain⟨z,its,r,p⟩:=h.ok I.hok
  exact⟨its,r,p,z⟩
 ·refine⟨its.toList,r,⟨o,I.j4 a o hk,hc,n,by simpa using hs⟩,?_⟩
  have e:=r.length
  simp only[Array.length_toList] at e
  omega
theorem Inv.Dj (I:Inv X pins σ H s) (h:aS X.K H a xs) (h':aS X.K H a ys):xs=ys:=by
 obtain⟨its,r,⟨o,n,e,_,_,d⟩,_⟩:=I.list h
 obtain⟨its',r',⟨o',n',e',_,_,d'⟩,_⟩:=I.list h'
 rw[e] at e';cases e'
 rw[d] at d'
 injection d' with d1 _
 have:its=its':=by simpa using congrArg Array.toList d1
 subst this
 exact r.inj r'
theorem Inv.Bl (I:Inv X pins σ H s) (h:iN X.K H a xs) (h':iN X.K H a ys):xs=ys:=by
 obtain⟨its,r,⟨o,e,_,n,d⟩,_⟩:=I.tuple h
 obtain⟨its',r',⟨o',e',_,n',d'⟩,_⟩:=I.tuple h'
 rw[e] at e';cases e'
 rw[d] at d'
 injection d' with d1 _
 have:its=its':=by simpa using congrArg Array.toList d1
 subst this
 exact r.inj r'
end
abbrev Cx.rN (X:Cx) (E:Value→Shared→Prop):Cx:={ X with xe:=E }
abbrev Cx.JY (X:Cx):Cx:=X.rN fun _ _=>False
theorem Cx.Ok.rN {X:Cx} (ok:X.Ok) (E:Value→Shared→Prop):(X.rN E).Ok :=
 ⟨ok.mod,ok.kind,ok.glob,ok.blt,ok.above,ok.inj,ok.has,ok.Hu,ok.hd,ok.frames,ok.stk,ok.Nh,ok.bs,ok.C6,ok.yM,ok.Bj,ok.nI,ok.E3⟩
theorem Cx.Ok.jv {X:Cx}{E:Value→Shared→Prop} (ok:(X.rN E).Ok):X.Ok :=
 ⟨ok.mod,ok.kind,ok.glob,ok.blt,ok.above,ok.inj,ok.has,ok.Hu,ok.hd,ok.frames,ok.stk,ok.Nh,ok.bs,ok.C6,ok.yM,ok.Bj,ok.nI,ok.E3⟩
section
variable {X:Cx}{pins:List (Addr×Obj)}{σ:St}{H:Hp}{s:Shared}{E:Value→Shared→Prop}
theorem Inv.rN (I:Inv X pins σ H s) (E:Value→Shared→Prop):Inv (X.rN E) pins σ H s:=⟨I.ok.rN E,I.os,I.bare,I.base,I.loc,I.cell,I.free,I.gG,I.pin,I.hok,I.len⟩
theorem Inv.jv (I:Inv (X.rN E) pins σ H s):Inv X pins σ H s:=⟨I.ok.jv,I.os,I.bare,I.base,I.loc,I.cell,I.free,I.gG,I.pin,I.hok,I.len⟩
theorem SP.jv {D:Ends}{f:Flow}{s':Shared} (h:SP (X.rN E) pins D f s'):SP X pins D f s':=by
 cases f with
 | next=>obtain⟨σ',H',I,q⟩:=h;exact⟨σ',H',I.jv,q⟩
 | brk=>obtain⟨σ',H',I,q⟩:=h;exact⟨σ',H',I.jv,q⟩
 | cont=>obtain⟨σ',H',I,q⟩:=h;exact⟨σ',H',I.jv,q⟩
 | ret u=>obtain⟨v,σ',H',I,r,q⟩:=h;exact⟨v,σ',H',I.jv,r,q⟩
theorem wO.JY {st:List Stmt}{t:TS} (h:wO X.JY st t):wO X st t:=fun pins s σ H D I hw =>
 wpAny_mono (h pins s σ H D (I.rN _) hw) (fun _ _ q=>q.jv) fun _ _ z=>False.elim z
end
section
variable {X:Cx}{st:Stmt}{rest:List Stmt}{t u:TS}{e:Expr}{te:TE}{pos:Pos}
def wW:TS:=fun D σ H=>D.nx σ H
def JZ (t u:TS):TS:=fun D σ H=>t { D with nx:=u D } σ H
theorem br:wO X [] wW:=fun _ _ σ H _ I h=>wpAny_execs_nil ⟨σ,H,I,h⟩
theorem au (h1:PS X st t) (h2:wO X rest u):wO X (st :: rest) (JZ t u):=by
 intro pins s σ H D I h
 refine wpAny_execs_cons (bZ (h1 pins s σ H { D with nx:=u D } I h) fun f s1 q=>?_)
 cases f with
 | next =>
  obtain⟨σ',H',I',q⟩:=q
  exact h2 pins s1 σ' H' D I' q
 | ret v=>exact q
 | brk=>exact q
 | cont=>exact q
theorem aA (h1:PS X st t):wO X [st] t:=by
 intro pins s σ H D I h
 refine wpAny_execs_cons (bZ (h1 pins s σ H D I h) fun f s1 q=>?_)
 cases f with
 | next=>exact wpAny_execs_nil q
 | ret v=>exact q
 | brk=>exact q
 | cont=>exact q
theorem Inv.quiet {pins:List (Addr×Obj)}{σ:St}{H:Hp}{s:Shared} (I:Inv X pins σ H s):interactive X.env=false:=by simp[interactive,I.ok.kind]
def J8 (te:TE):TS:=fun D σ H=>te σ H fun _ H1=>D.nx σ H1
theorem rm (he:PE X e te) (hs:swapsWith e none pos.line X.env=pure false:=by rfl):PS X (.Expr e pos) (J8 te):=by
 intro pins s σ H D I h
 exact wpAny_Expr_any (bZ (he pins s σ H _ I h) fun v s1 ⟨x,H1,I1,r1,q1⟩=>⟨σ,H1,I1,q1⟩) I.quiet hs
def N3 (te:TE):TS:=fun D σ H=>te σ H D.rt
theorem aY (he:PE X e te):PS X (.Return (some e) pos) (N3 te):=by
 intro pins s σ H D I h
 exact wpAny_Return_some (bZ (he pins s σ H _ I h) fun v s1 ⟨x,H1,I1,r1,q1⟩=>⟨x,σ,H1,I1,r1,q1⟩)
def J9 (c:TT) (t u:TS):TS:=fun D σ H=>c σ H fun b H1=>if b=true then t D σ H1 else u D σ H1
theorem dz {c:Expr}{a b:List Stmt}{tc:TT} (hc:PT X c tc) (ha:wO X a t) (hb:wO X b u):PS X (.If c a b pos) (J9 tc t u):=by
 intro pins s σ H D I h
 refine wpAny_If (bZ (hc pins s σ H _ I h) fun d s1 ⟨H1,I1,q1⟩=>?_)
 cases d with
 | true=>exact ha pins s1 σ H1 D I1 q1
 | false=>exact hb pins s1 σ H1 D I1 q1
end
abbrev TG:=V→St→Hp→(St→Hp→Prop)→Prop
abbrev GL:=List V→St→Hp→(St→Hp→Prop)→Prop
def PG (X:Cx) (target:Expr) (t:TG):Prop :=
 ∀(pins:List (Addr×Obj)) (s:Shared) (σ:St) (H:Hp) (v:V) (u:Value) (Q:St→Hp→Prop),Inv X pins σ H s→RelV v u→t v σ H Q →
  wpAny (model X.prog X.w) X.A (assign target X.env u) (fun _ s'=>∃ σ' H',Inv X pins σ' H' s'∧Q σ' H') X.xe s
def Ka (X:Cx) (ts:List Expr) (t:GL):Prop :=
 ∀(pins:List (Addr×Obj)) (s:Shared) (σ:St) (H:Hp) (vs:List V) (us:List Value) (Q:St→Hp→Prop),Inv X pins σ H s→Vals vs us→t vs σ H Q →
  wpAny (model X.prog X.w) X.A (assignInOrder ((assignEach ts X.env).map (·.2)) us) (fun _ s'=>∃ σ' H',Inv X pins σ' H' s'∧Q σ' H') X.xe s
abbrev Hw:=V→V→V→Hp→(Hp→Prop)→Prop
def Kc (X:Cx) (t:Hw):Prop :=
 ∀(pins:List (Addr×Obj)) (s:Shared) (σ:St) (H:Hp) (o i v:V) (ov iv u:Value) (Q:Hp→Prop),Inv X pins σ H s→RelV o ov→RelV i iv→RelV v u→t o i v H Q →
  wpAny (model X.prog X.w) X.A (setItem ov iv u) (fun _ s'=>∃ H',Inv X pins σ H' s'∧Q H') X.xe s
section
variable {X:Cx}{pos:Pos}
def ig (i:Nat):TG:=fun v σ H Q=>Q (σ.set i (some v)) H
theorem Fg {i:Nat}{x:Str} (hN:X.N.Nodup) (hi:X.N[i]? = some x) (hx:Loc X.env.scope x) (hf:X.fn x=true∨X.env.scope.names.lookup x=some .local:=by first | exact .inl rfl | exact .inr rfl | assumption):PG X (.Name x pos) (ig i):=by
 intro pins s σ H v u Q I r h
 exact wpAny_assign_Name (rJ I hN hi hx r (fun s' I'=>⟨_,H,I',h⟩) hf)
def N4:GL:=fun vs σ H Q=>vs=[]∧Q σ H
def Kd (t:TG) (u:GL):GL:=fun vs σ H Q=>∃ v r,vs=v :: r∧t v σ H fun σ' H'=>u r σ' H' Q
theorem uR:Ka X [] N4:=by
 intro pins s σ H vs us Q I r h
 obtain⟨e,h⟩:=h
 subst e
 cases r
 exact assignInOrder_nil ⟨σ,H,I,h⟩
theorem jC {e:Expr}{es:List Expr}{t:TG}{u:GL} (h1:PG X e t) (h2:Ka X es u)
  (hs:(assignEach (e :: es) X.env).map (·.2)=assign e X.env :: (assignEach es X.env).map (·.2):=by rfl):Ka X (e :: es) (Kd t u):=by
 intro pins s σ H vs us Q I r h
 obtain⟨v,vr,e1,h⟩:=h
 subst e1
 cases r with
 | cons r rr =>
  rw[hs]
  refine assignInOrder_cons (bZ (h1 pins s σ H _ _ _ I r h) fun _ s1 ⟨σ1,H1,I1,q1⟩=>?_)
  exact h2 pins s1 σ1 H1 _ _ Q I1 rr q1
def Ke (K:W.Frag) (n:Nat) (t:GL):TG:=fun v σ H Q=>∃ a xs,v=.ref a∧iN K H a xs∧xs.length=n∧t xs σ H Q
theorem Hx {es:List Expr}{k:Nat}{t:GL}{n:Nat} (hc:X.calm=true) (h:Ka X es t)
  (hn:(assignEach es X.env).length=n:=by rfl) (hst:(assignEach es X.env).findIdx? (·.1)=none:=by rfl):PG X (.Tuple es k pos) (Ke X.K n t):=by
 intro pins s σ H v u Q I r hw
 obtain⟨a,xs,e1,hq,hl,hw⟩:=hw
 subst e1
 cases r
 obtain⟨its,rv,ht,hz⟩:=I.tuple hq
 refine assign_Tuple_tuple (I.ok.hd hc) ht (by simp[hn,←hl,rv.length]) hst fun h' hx=>?_
 have I1:Inv X pins σ H { s with heap:=h' }:=I.kept (t':=s.toks) fun b o e=>hx b o (Nat.ne_of_lt (Heap.lt_size e)) e
 exact h pins _ σ H xs _ Q I1 (by simpa using rv) hw
def Kf (to ti:TE) (t:Hw):TG:=fun v σ H Q=>to σ H fun o H1=>ti σ H1 fun i H2=>t o i v H2 fun H3=>Q σ H3
theorem pL {o i:Expr}{to ti:TE}{t:Hw} (ho:PE X o to) (hi:PE X i ti) (hs:Kc X t)
  (ha:∀ v,assign (.Subscript o i pos) X.env v=(do
   let ov ←holding [v] (eval o X.env)
   let iv ←holding [v,ov] (eval i X.env)
   standAt pos
   holding [v,ov,iv] (setItem ov iv v)
   release [v,ov,iv] []):=by intro _;rfl):PG X (.Subscript o i pos) (Kf to ti t):=by
 intro pins s σ H v u Q I r h
 rw[ha]
 refine wpAny_bind (wpAny_holding (bZ (ho pins s σ H _ I h) fun ov s1 ⟨x,H1,I1,r1,q1⟩=>?_))
 refine wpAny_bind (wpAny_holding (bZ (hi pins s1 σ H1 _ I1 q1) fun iv s2 ⟨y,H2,I2,r2,q2⟩=>?_))
 refine wpAny_bind (wpAny_standAt (wpAny_bind (wpAny_holding (bZ (hs pins s2 σ H2 x y v ov iv u _ I2 r1 r2 r q2) fun _ s3 ⟨H3,I3,q3⟩=>?_))))
 exact wpAny_release ⟨σ,H3,I3,q3⟩
def Bm (te:TE) (g:TG):TS:=fun D σ H=>te σ H fun x H1=>g x σ H1 D.nx
theorem j6 {tg e:Expr}{te:TE}{g:TG} (he:PE X e te) (hg:PG X tg g) (hs:swapsWithSole [tg] e pos.line X.env=pure false:=by rfl) (hw:swappedStores [tg] e X.env=pure none:=by rfl)
  (h1:(assignEach [tg] X.env).map (·.2)=[assign tg X.env]:=by rfl):PS X (.Assign [tg] e pos) (Bm te g):=by
 intro pins s σ H D I h
 refine wpAny_Assign_stores (bZ (he pins s σ H _ I h) fun v s1 ⟨x,H1,I1,r1,q1⟩=>?_) hs hw
 rw[h1]
 exact bZ (hg pins s1 σ H1 x v _ I1 r1 q1) fun _ s2 q=>q
theorem uS {i:Nat}{x:Str}{e:Expr}{te:TE}{pos':Pos} (hN:X.N.Nodup) (hi:X.N[i]? = some x) (hx:Loc X.env.scope x) (he:PE X e te) (hs:swapsWith e (some (.Name x pos')) pos.line X.env=pure false:=by rfl) (hf:X.fn x=true∨X.env.scope.names.lookup x=some .local:=by first | exact .inl rfl | exact .inr rfl | assumption) :
  PS X (.Assign [.Name x pos'] e pos) (Bm te (ig i)):=by
 intro pins s σ H D I h
 refine wpAny_Assign_Name (bZ (he pins s σ H _ I h) fun v s1 ⟨y,H1,I1,r1,q1⟩=>?_) hs
 exact rJ I1 hN hi hx r1 (fun s2 I2=>⟨_,H1,I2,q1⟩) hf
end
section
variable {X:Cx}{pos:Pos}
end
structure It where
 go:Nat→Hp→Prop
 Hy:Nat→Hp→V→Hp→Prop
 stop:Nat→Hp→Prop
def kP (X:Cx) (pins:List (Addr×Obj)) (H:Hp) (b:Addr):Prop :=
 H b=none∧b≠X.env.locals∧b∉X.fs∧(b∈X.ex∨X.s₀.heap.objs.size≤b)∧(∀ x c,X.env.cells.lookup x=some c→c≠b)∧∀ p∈X.pn++pins,p.1≠b
theorem Inv.wX {X:Cx}{pins:List (Addr×Obj)}{σ:St}{H H':Hp}{s:Shared}{b:Addr} (I:Inv X pins σ H s) (hb:s.heap.objs.size≤b) (hn:H' b=none):kP X pins H' b:=by
 refine⟨hn,Nat.ne_of_gt (Nat.lt_of_lt_of_le I.lt hb),I.NW hb,.inr (Nat.le_trans I.sz hb),fun x c e z=>?_,fun p hp z=>?_⟩
 ·obtain⟨v,q⟩:=I.cell x c e
  exact absurd (Nat.lt_of_lt_of_le q.lt (by rw[z];exact hb)) (Nat.lt_irrefl _)
 ·exact absurd (Nat.lt_of_lt_of_le (Heap.lt_size (I.pin p hp).1) (by rw[z];exact hb)) (Nat.lt_irrefl _)
structure Turn (P:Program) (w:World) (K:W.Frag) (tg:Expr) (J:It) (fp:List Addr) (it:Addr) (tn:Nat→Heap→Prop):Prop where
 mem:it∈fp
 obj:∀ i h,tn i h→∀ b∈fp,∃ o,h.get? b=some o∧∀ v,o.data≠.cell v
 keep:∀ i h h',tn i h→(∀ b∈fp,∀ o,h.get? b=some o→h'.get? b=some o)→tn i h'
 item:∀(X:Cx),X.prog=P→X.w=w→X.K=K→X.calm=true→∀(i:Nat) (pins:List (Addr×Obj)) (s:Shared) (σ:St) (H:Hp) (E:Value→Shared→Prop),Inv X pins σ H s→(∀ b∈fp,kP X pins H b)→tn i s.heap→J.go i H →
  wpAny (model P w) X.A (pyNext (.ref it)) (fun r s1=>∃ u,r=some u ∧
   wpAny (model P w) X.A (letOwnedTupleGo tg (.ref it) u) (fun _ s2=>∃ x H',Inv X pins σ H' s2∧RelV x u∧J.Hy i H x H'∧tn (i+1) s2.heap∧∀ b∈fp,H' b=none) E s1) E s
 done:∀(X:Cx),X.prog=P→X.w=w→X.K=K→X.calm=true→∀(i:Nat) (pins:List (Addr×Obj)) (s:Shared) (σ:St) (H:Hp) (E:Value→Shared→Prop),Inv X pins σ H s→(∀ b∈fp,kP X pins H b)→tn i s.heap→J.stop i H →
  wpAny (model P w) X.A (pyNext (.ref it)) (fun r s1=>r=none∧Inv X pins σ H s1) E s
 self:∀(A:Around) (i:Nat) (s:Shared) (Q:Value→Shared→Prop) (E:Value→Shared→Prop),tn i s.heap→Q (.ref it) s→wpAny (model P w) A (pyIter (.ref it)) Q E s
abbrev TI:=St→Hp→(It→Hp→Prop)→Prop
def Rc (X:Cx) (pins:List (Addr×Obj)) (σ:St) (tg:Expr) (R:It→Hp→Prop) (itv:Value) (s2:Shared):Prop :=
 ∃(it:Addr) (fp:List Addr) (tn:Nat→Heap→Prop) (J:It) (H':Hp),itv=.ref it∧Inv X pins σ H' s2∧Turn X.prog X.w X.K tg J fp it tn∧tn 0 s2.heap∧(∀ b∈fp,kP X pins H' b)∧R J H'
def PI (X:Cx) (tg iter:Expr) (wi:TI):Prop :=
 ∀(pins:List (Addr×Obj)) (s:Shared) (σ:St) (H:Hp) (R:It→Hp→Prop),Inv X pins σ H s→wi σ H R →
  wpAny (model X.prog X.w) X.A (eval iter X.env) (fun v s1=>wpAny (model X.prog X.w) X.A (pyIter v) (Rc X pins σ tg R) X.xe s1) X.xe s
theorem ur {M:Model}{A:Around}{E:Value→Shared→Prop}{s:Shared}{tg:Expr}{it:Addr}{u:Value}{o:Obj}{n:String}{vs:Array Value}{Q:Unit→Shared→Prop} (ho:s.heap.get? it=some o) (hc:o.cls=.type n) (hd:o.data=.fields vs)
   (hn:["enumerate", "zip", "dict_itemiterator", "dict_reverseitemiterator", "odict_iterator", "itertools.zip_longest", "itertools.pairwise"].contains n=false) (hQ:Q () s):wpAny M A (letOwnedTupleGo tg (.ref it) u) Q E s:=by
 unfold letOwnedTupleGo
 cases tg <;> first
   | exact wpAny_pure hQ
   | (cases u <;> first
       | exact wpAny_pure hQ
       | (refine wpAny_bind (wpAny_load ho ?_)
          rw[hc,hd]
          show wpAny M A (if (["enumerate", "zip", "dict_itemiterator", "dict_reverseitemiterator", "odict_iterator", "itertools.zip_longest", "itertools.pairwise"].contains n && vs[0]? == some (rawInt _))=true then _ else _) Q E s
          rw[if_neg (by intro h;rw[hn,Bool.false_and] at h;cases h)]
          exact wpAny_pure hQ))
def JB (K:W.Frag) (a:Addr):It :=
 ⟨fun i H=>∃ xs x,aS K H a xs∧xs[i]? = some x,fun i H x H'=>H'=H∧∀ xs,aS K H a xs→xs[i]? = some x,fun i H=>∃ xs,aS K H a xs∧xs.length≤i⟩
def JC (K:W.Frag) (a:Addr):It :=
 ⟨fun i H=>∃ xs x,iN K H a xs∧xs[i]? = some x,fun i H x H'=>H'=H∧∀ xs,iN K H a xs→xs[i]? = some x,fun i H=>∃ xs,iN K H a xs∧xs.length≤i⟩
def GN (lo:Int) (n:Nat):It:=⟨fun i _=>i < n,fun i H x H'=>H'=H∧x=.int (lo+i),fun i _=>n≤i⟩
theorem Bo {P:Program}{w:World}{K:W.Frag}{tg:Expr} (a it:Addr):Turn P w K tg (JB K a) [it] it (fun i h=>h.IsListIter it a i) where
 mem:=by simp
 obj:=fun i h st b hb=>by
  have e:b=it:=by simpa using hb
  subst e
  obtain⟨o,e,c,d⟩:=st
  exact⟨o,e,fun v z=>by rw[d] at z;cases z⟩
 keep:=fun i h h' st k=>st.at fun o e=>k it (by simp) o e
 item:=by
  intro X hP hw hK hc i pins s σ H E I hf st hg
  subst hP hw hK
  obtain⟨xs,x,hq,hx⟩:=hg
  obtain⟨its,rv,p,hz⟩:=I.list hq
  obtain⟨u,hu,ru⟩:=rv.get hx
  obtain⟨f0,f1,f2,f3,f4,f5⟩:=hf it (by simp)
  refine wpAny_pyNext_list_item st p.isList (x:=u) (by simpa using hu) fun h' st' sb=>?_
  have I1:Inv X pins σ H { s with heap:=h' }:=I.turned (t':=s.toks) (fun b o hb e=>(sb.2 b hb).trans e) f0 f1 f3 f4 f5
  obtain⟨o,e,c,d⟩:=id st'
  exact⟨u,rfl,ur (s:={ s with heap:=h' }) e c d (by decide) ⟨x,H,I1,ru,⟨rfl,fun ys hy=>by rw[I.Dj hy hq];exact hx⟩,st',fun b hb=>(hf b hb).1⟩⟩
 done:=by
  intro X hP hw hK hc i pins s σ H E I hf st hg
  subst hP hw hK
  obtain⟨xs,hq,hx⟩:=hg
  obtain⟨its,rv,p,hz⟩:=I.list hq
  obtain⟨f0,f1,f2,f3,f4,f5⟩:=hf it (by simp)
  have hl:=rv.length
  exact wpAny_pyNext_list_end (I.ok.hd hc) st p.isList (by simp;omega) fun h' eb=>⟨rfl,I.turned (t':=s.toks) (fun b o hb e=>eb b o hb e) f0 f1 f3 f4 f5⟩
 self:=fun _ _ _ _ _ st h=>wpAny_pyIter_listiter st h
theorem yN {P:Program}{w:World}{K:W.Frag}{tg:Expr} (a it:Addr):Turn P w K tg (JC K a) [it] it (fun i h=>h.IsTupleIter it a i) where
 mem:=by simp
 obj:=fun i h st b hb=>by
  have e:b=it:=by simpa using hb
  subst e
  obtain⟨o,e,c,d⟩:=st
  exact⟨o,e,fun v z=>by rw[d] at z;cases z⟩
 keep:=fun i h h' st k=>st.at fun o e=>k it (by simp) o e
 item:=by
  intro X hP hw hK hc i pins s σ H E I hf st hg
  subst hP hw hK
  obtain⟨xs,x,hq,hx⟩:=hg
  obtain⟨its,rv,p,hz⟩:=I.tuple hq
  obtain⟨u,hu,ru⟩:=rv.get hx
  obtain⟨f0,f1,f2,f3,f4,f5⟩:=hf it (by simp)
  refine wpAny_pyNext_tuple_item st (show s.heap.IsTuple a its.toArray from p) (x:=u) (by simpa using hu) fun h' st' sb=>?_
  have I1:Inv X pins σ H { s with heap:=h' }:=I.turned (t':=s.toks) (fun b o hb e=>(sb.2 b hb).trans e) f0 f1 f3 f4 f5
  obtain⟨o,e,c,d⟩:=id st'
  exact⟨u,rfl,ur (s:={ s with heap:=h' }) e c d (by decide) ⟨x,H,I1,ru,⟨rfl,fun ys hy=>by rw[I.Bl hy hq];exact hx⟩,st',fun b hb=>(hf b hb).1⟩⟩
 done:=by
  intro X hP hw hK hc i pins s σ H E I hf st hg
  subst hP hw hK
  obtain⟨xs,hq,hx⟩:=hg
  obtain⟨its,rv,p,hz⟩:=I.tuple hq
  obtain⟨f0,f1,f2,f3,f4,f5⟩:=hf it (by simp)
  have hl:=rv.length
  exact wpAny_pyNext_tuple_end (I.ok.hd hc) st (show s.heap.IsTuple a its.toArray from p) (by simp;omega) fun h' eb=>⟨rfl,I.turned (t':=s.toks) (fun b o hb e=>eb b o hb e) f0 f1 f3 f4 f5⟩
 self:=fun _ _ _ _ _ st h=>wpAny_pyIter_tupleiter st h
theorem yO {P:Program}{w:World}{K:W.Frag}{tg:Expr} (it:Addr) (lo:Int) (n:Nat):Turn P w K tg (GN lo n) [it] it (fun i h=>IsRangeIter h it (lo+(i:Nat) * 1) ((n:Int) - (i:Nat)) 1) where
 mem:=by simp
 obj:=fun i h st b hb=>by
  have e:b=it:=by simpa using hb
  subst e
  exact⟨_,st,fun v z=>by
   have z':Data.fields _=Data.cell v:=z
   cases z'⟩
 keep:=fun i h h' st k=>k it (by simp) _ st
 item:=by
  intro X hP hw hK hc i pins s σ H E I hf st hg
  subst hP hw hK
  obtain⟨f0,f1,f2,f3,f4,f5⟩:=hf it (by simp)
  have W:=Walks.range (prog:=X.prog) (w:=X.w) (I.ok.hd hc) it lo 1 n
  refine W.item i s _ _ hg st fun v h' tk hv st' kk=>?_
  obtain⟨t,rfl⟩:=hv
  have I1:Inv X pins σ H { s with heap:=h',toks:=tk }:=I.turned (fun b o hb e=>kk b o (by simpa using hb) e) f0 f1 f3 f4 f5
  refine⟨_,rfl,ur (s:={ s with heap:=h',toks:=tk }) (n := "range_iterator") st' rfl rfl (by decide) ⟨.int (lo+i),H,I1,⟨t,?_⟩,⟨rfl,rfl⟩,st',fun b hb=>(hf b hb).1⟩⟩
  rw[Int.mul_one]
 done:=by
  intro X hP hw hK hc i pins s σ H E I hf st hg
  subst hP hw hK
  obtain⟨f0,f1,f2,f3,f4,f5⟩:=hf it (by simp)
  exact wpAny_pyNext_range_end (I.ok.hd hc) st (by have:n≤i:=hg;omega) fun h' eb=>⟨rfl,I.turned (t':=s.toks) (fun b o hb e=>eb b o hb e) f0 f1 f3 f4 f5⟩
 self:=fun _ _ _ _ _ st h=>wpAny_pyIter_rangeiter st h
section
variable {X:Cx}{tg:Expr}
def GO (K:W.Frag) (tl:TE):TI:=fun σ H R=>tl σ H fun x H1=>∃ a,x=.ref a∧(∃ xs,aS K H1 a xs)∧R (JB K a) H1
def Kg (K:W.Frag) (tl:TE):TI:=fun σ H R=>tl σ H fun x H1=>∃ a,x=.ref a∧(∃ xs,iN K H1 a xs)∧R (JC K a) H1
theorem Fi {l:Expr}{tl:TE} (hl:PE X l tl):PI X tg l (GO X.K tl):=by
 intro pins s σ H R I h
 refine bZ (hl pins s σ H _ I h) fun v s1 ⟨x,H1,I1,r1,q1⟩=>?_
 obtain⟨a,e,⟨xs,hq⟩,q⟩:=q1
 subst e
 cases r1
 obtain⟨its,rv,p,hz⟩:=I1.list hq
 refine wpAny_pyIter_list p.isList ?_
 refine⟨s1.heap.objs.size,[s1.heap.objs.size],_,_,H1,rfl,I1.kept (t':=s1.toks) fun b o e=>Heap.get?_push_of_some _ e,Bo a _,⟨_,Heap.get?_push_size _ rfl,rfl,rfl⟩,fun b hb=>?_,q⟩
 have e:b=s1.heap.objs.size:=by simpa using hb
 subst e
 exact I1.wX (Nat.le_refl _) (I1.hok.fresh (Nat.le_refl _))
theorem Hz {l:Expr}{tl:TE} (hl:PE X l tl):PI X tg l (Kg X.K tl):=by
 intro pins s σ H R I h
 refine bZ (hl pins s σ H _ I h) fun v s1 ⟨x,H1,I1,r1,q1⟩=>?_
 obtain⟨a,e,⟨xs,hq⟩,q⟩:=q1
 subst e
 cases r1
 obtain⟨its,rv,p,hz⟩:=I1.tuple hq
 refine wpAny_pyIter_tuple (show s1.heap.IsTuple a its.toArray from p) ?_
 refine⟨s1.heap.objs.size,[s1.heap.objs.size],_,_,H1,rfl,I1.kept (t':=s1.toks) fun b o e=>Heap.get?_push_of_some _ e,yN a _,⟨_,Heap.get?_push_size _ rfl,rfl,rfl⟩,fun b hb=>?_,q⟩
 have e:b=s1.heap.objs.size:=by simpa using hb
 subst e
 exact I1.wX (Nat.le_refl _) (I1.hok.fresh (Nat.le_refl _))
theorem Dk {pins:List (Addr×Obj)}{σ:St}{H:Hp}{s:Shared}{R:It→Hp→Prop}{E:Value→Shared→Prop}{lo hi:Int}{t u v:Tok}{tk:Nat} (I:Inv X pins σ H s) (h1 : -(2 ^ 62)≤lo) (h2:lo < 2 ^ 62) (h3 : -(2 ^ 62)≤hi) (h4:hi < 2 ^ 62)
  (q:R (GN lo (hi - lo).toNat) H):wpAny (model X.prog X.w) X.A (pyIter (.ref s.heap.objs.size)) (Rc X pins σ tg R) E { s with heap:=s.heap.push { cls:=.type "range",data:=.fields #[.int lo t,.int hi u,.int 1 v] },toks:=tk }:=by
 refine wpAny_pyIter_range (IsRange.new ..) (small_one h1 h2 h3 h4) ?_
 have I1:Inv X pins σ H { s with heap:=s.heap.push { cls:=.type "range",data:=.fields #[.int lo t,.int hi u,.int 1 v] },toks:=tk }:=I.kept fun b o e=>Heap.get?_push_of_some _ e
 refine⟨(s.heap.push { cls:=.type "range",data:=.fields #[.int lo t,.int hi u,.int 1 v] }).objs.size,[(s.heap.push { cls:=.type "range",data:=.fields #[.int lo t,.int hi u,.int 1 v] }).objs.size],_,_,H,rfl,
  I1.kept (t':=tk) fun b o e=>Heap.get?_push_of_some _ e,yO _ lo (hi - lo).toNat,?_,fun b hb=>?_,q⟩
 ·have e1:lo+((0:Nat):Int) * 1=lo:=by simp
  have e2:(((hi - lo).toNat:Nat):Int) - ((0:Nat):Int)=Builtin.Range.rangeSize lo hi 1:=by rw[rangeSize_one];split <;> omega
  show IsRangeIter _ _ (lo+((0:Nat):Int) * 1) ((((hi - lo).toNat:Nat):Int) - ((0:Nat):Int)) 1
  rw[e1,e2]
  exact Heap.get?_push_size _ rfl
 ·have e:b=(s.heap.push { cls:=.type "range",data:=.fields #[.int lo t,.int hi u,.int 1 v] }).objs.size:=by simpa using hb
  subst e
  exact I1.wX (Nat.le_refl _) (I1.hok.fresh (Nat.le_refl _))
def Kh (ta:TA):TI:=fun σ H R=>ta σ H fun vs H1=>∃ j:Int,vs=[.int j]∧-(2 ^ 62)≤j∧j < 2 ^ 62∧R (GN 0 j.toNat) H1
theorem jD {a:Expr}{ta:TA}{p pos:Pos} (hg:Gl X "range") (hm:X.mg "range" = none) (ha:PA X [a] ta) (hs:starEach [a] X.env=[(false,eval a X.env)]:=by rfl):PI X tg (.Call (.Name "range" p) [a] [] pos) (Kh ta):=by
 intro pins s σ H R I h
 refine Call_ (rL I hg hm boot_range (PyProof.Rows.callWith_type1 (bZ (ha pos pins s σ H _ I h) fun us s1 ⟨vs,H1,I1,r1,q1⟩=>?_) hs rfl))
 obtain⟨j,e,q1,q2,q⟩:=q1
 subst e
 cases r1 with
 | cons r rr =>
  cases rr
  obtain⟨t,rfl⟩:=r
  exact call_range_1 (Dk I1 (by omega) (by omega) q1 q2 (by simpa using q))
def N5 (wi:TI) (g:TG) (tb:TS):TS:=fun D σ H=>wi σ H fun J H1=>∃ W:Nat→Nat→St→Hp→Prop,(∃ m,W 0 m σ H1)∧∀ i m σ H,W i m σ H →
 (J.stop i H∧D.nx σ H)∨(J.go i H∧∃ N:St→Hp→Prop,(∀ σ' H',N σ' H'→∃ m',m' < m∧W (i+1) m' σ' H')∧∀ x H',J.Hy i H x H'→g x σ H' fun σ2 H2=>tb { D with nx:=N,ct:=N,bk:=D.nx } σ2 H2)
def pM (fp:List Addr) (h:Heap):List (Addr×Obj):=fp.filterMap fun b=>(h.get? b).map fun o=>(b,o)
theorem gj {fp:List Addr}{h:Heap}{b:Addr}{o:Obj} (hb:b∈fp) (e:h.get? b=some o):(b,o)∈pM fp h:=List.mem_filterMap.mpr ⟨b,hb,by rw[e];rfl⟩
theorem Bp {fp:List Addr}{h:Heap}{p:Addr×Obj} (hp:p∈pM fp h):p.1∈fp∧h.get? p.1=some p.2:=by
 obtain⟨b,hb,e⟩:=List.mem_filterMap.mp hp
 cases q:h.get? b with
 | none=>rw[q] at e;cases e
 | some o =>
  rw[q] at e
  have e':(b,o)=p:=Option.some.inj e
  subst e'
  exact⟨hb,q⟩
theorem Inv.pinned {pins:List (Addr×Obj)}{σ:St}{H:Hp}{s:Shared}{fp:List Addr} (I:Inv X pins σ H s) (hf:∀ b∈fp,kP X pins H b) (ho:∀ b∈fp,∃ o,s.heap.get? b=some o∧∀ v,o.data≠.cell v):Inv X (pins++pM fp s.heap) σ H s :=
 I.AE fun p hp=>(List.mem_append.mp hp).elim (fun z=>I.pin p (List.mem_append_right _ z)) fun z=>by
  obtain⟨hb,e⟩:=Bp z
  obtain⟨f0,f1,f2,_⟩:=hf p.1 hb
  obtain⟨o,e',d⟩:=ho p.1 hb
  rw[e] at e';cases e'
  exact⟨e,f0,f1,f2,d⟩
theorem Inv.kX {pins pl:List (Addr×Obj)}{σ:St}{H:Hp}{s:Shared} (I:Inv X (pins++pl) σ H s):Inv X pins σ H s:=I.AE fun p hp=>I.pin p (List.mem_append_right _ (List.mem_append_left _ hp))
theorem j7 {iter:Expr}{body:List Stmt}{wi:TI}{g:TG}{tb:TS}{pos:Pos} (hp:PassesOwn (model X.prog X.w) X.A X.env X.xe) (hc:X.calm=true) (hi:PI X tg iter wi) (hg:PG X tg g) (hb:wO X body tb)
  (hs:∀ x,foldedSetIterable iter X.env x=pure x:=by intro _;rfl):PS X (.For tg iter body [] pos) (N5 wi g tb):=by
 intro pins s σ H D I h
 refine wpAny_For (bZ (hi pins s σ H _ I h) fun v s1 h1=>bZ h1 fun itv s2 h2=>?_) hs
 obtain⟨it,fp,tn,J,H2,e,I2,T,st2,f2,W,⟨m0,w0⟩,turn⟩:=h2
 subst e
 have rO:∀{H':Hp},(∀ b∈fp,H' b=none)→∀ b∈fp,kP X pins H' b:=fun hn b hb=>⟨hn b hb,(f2 b hb).2⟩
 refine codeAny_forLoop_any (fun n s'=>∃ i σ' H',Inv X pins σ' H' s'∧tn i s'.heap∧(∀ b∈fp,H' b=none)∧W i n σ' H') ?_ m0 ⟨0,σ,H2,I2,st2,fun b hb=>(f2 b hb).1,w0⟩
 rintro n s3 ⟨i,σ3,H3,I3,st3,Rf,w3⟩
 rcases turn i n σ3 H3 w3 with ⟨stop,qn⟩ | ⟨go,N,hN,step⟩
 ·refine wpAny_passesOwn hp (bZ (T.done X rfl rfl rfl hc i pins s3 σ3 H3 X.xe I3 (rO Rf) st3 stop) fun r s4 ⟨hr,I4⟩=>?_)
  subst hr
  exact wpAny_execs_nil ⟨σ3,H3,I4,qn⟩
 ·refine wpAny_passesOwn hp (bZ (T.item X rfl rfl rfl hc i pins s3 σ3 H3 X.xe I3 (rO Rf) st3 go) fun r s4 ⟨u,hr,h4⟩=>?_)
  subst hr
  refine wpAny_passesOwn hp (bZ h4 fun _ s5 ⟨x,H5,I5,r5,y5,N6,TM⟩=>?_)
  have TN:=I5.pinned (rO TM) (T.obj _ _ N6)
  refine wpAny_passesOwn hp (bZ (hg _ s5 σ3 H5 x u _ TN r5 (step x H5 y5)) fun _ s6 ⟨σ6,H6,I6,q6⟩=>?_)
  refine wpAny_passesOwn hp (bZ (hb _ s6 σ6 H6 _ I6 q6) fun f s7 q7=>?_)
  have again:∀{σ7:St}{H7:Hp},Inv X (pins++pM fp s5.heap) σ7 H7 s7→N σ7 H7→∃ m,m < n∧∃ i σ' H',Inv X pins σ' H' s7∧tn i s7.heap∧(∀ b∈fp,H' b=none)∧W i m σ' H':=fun {σ7 H7} I7 n7=>by
   obtain⟨m',hm,w7⟩:=hN σ7 H7 n7
   refine⟨m',hm,i+1,σ7,H7,I7.kX,T.keep _ _ _ N6 fun b hb o e=>(I7.pin (b,o) (List.mem_append_right _ (List.mem_append_right _ (gj hb e)))).1,fun b hb=>?_,w7⟩
   obtain⟨o,e,d⟩:=T.obj _ _ N6 b hb
   exact(I7.pin (b,o) (List.mem_append_right _ (List.mem_append_right _ (gj hb e)))).2.1
  cases f with
  | next=>obtain⟨σ7,H7,I7,n7⟩:=q7;exact again I7 n7
  | cont=>obtain⟨σ7,H7,I7,n7⟩:=q7;exact again I7 n7
  | brk=>obtain⟨σ7,H7,I7,q7⟩:=q7;exact⟨σ7,H7,I7.kX,q7⟩
  | ret v=>obtain⟨x7,σ7,H7,I7,r7,q7⟩:=q7;exact⟨x7,σ7,H7,I7.kX,r7,q7⟩
end
theorem kY {K:W.Frag}{a:Addr}{xs:List V}{g:TG}{tb:TS}{D:Ends}{σ:St}{H:Hp} (Pv:Nat→St→Hp→Prop) (h0:Pv 0 σ H) (hl:∀ i σ H,i≤xs.length→Pv i σ H→aS K H a xs)
  (hs:∀ i x σ H,xs[i]? = some x→Pv i σ H→g x σ H fun σ2 H2=>tb { D with nx:=Pv (i+1),ct:=Pv (i+1),bk:=D.nx } σ2 H2) (hd:∀ σ H,Pv xs.length σ H→D.nx σ H) :
  ∃ W:Nat→Nat→St→Hp→Prop,(∃ m,W 0 m σ H)∧∀ i m σ H,W i m σ H →
   ((JB K a).stop i H∧D.nx σ H)∨((JB K a).go i H∧∃ N:St→Hp→Prop,(∀ σ' H',N σ' H'→∃ m',m' < m∧W (i+1) m' σ' H')∧∀ x H',(JB K a).Hy i H x H'→g x σ H' fun σ2 H2=>tb { D with nx:=N,ct:=N,bk:=D.nx } σ2 H2):=by
 refine⟨fun i m σ H=>m=xs.length - i∧i≤xs.length∧Pv i σ H,⟨xs.length,by simp,Nat.zero_le _,h0⟩,?_⟩
 rintro i m σ H ⟨rfl,hi,p⟩
 have q:=hl i σ H hi p
 by_cases hlt:i < xs.length
 ·refine .inr ⟨⟨xs,xs[i],q,by simp[hlt]⟩,Pv (i+1),fun σ' H' p'=>⟨xs.length - (i+1),by omega,rfl,hlt,p'⟩,fun x H' y=>?_⟩
  obtain⟨e,y⟩:=y
  subst e
  exact hs i x σ _ (y xs q) p
 ·have e:i=xs.length:=by omega
  subst e
  exact .inl ⟨⟨xs,q,Nat.le_refl _⟩,hd σ H p⟩
theorem Fj {K:W.Frag}{a:Addr}{xs:List V}{g:TG}{tb:TS}{D:Ends}{σ:St}{H:Hp} (Pv:Nat→St→Hp→Prop) (h0:Pv 0 σ H) (hl:∀ i σ H,i≤xs.length→Pv i σ H→iN K H a xs)
  (hs:∀ i x σ H,xs[i]? = some x→Pv i σ H→g x σ H fun σ2 H2=>tb { D with nx:=Pv (i+1),ct:=Pv (i+1),bk:=D.nx } σ2 H2) (hd:∀ σ H,Pv xs.length σ H→D.nx σ H) :
  ∃ W:Nat→Nat→St→Hp→Prop,(∃ m,W 0 m σ H)∧∀ i m σ H,W i m σ H →
   ((JC K a).stop i H∧D.nx σ H)∨((JC K a).go i H∧∃ N:St→Hp→Prop,(∀ σ' H',N σ' H'→∃ m',m' < m∧W (i+1) m' σ' H')∧∀ x H',(JC K a).Hy i H x H'→g x σ H' fun σ2 H2=>tb { D with nx:=N,ct:=N,bk:=D.nx } σ2 H2):=by
 refine⟨fun i m σ H=>m=xs.length - i∧i≤xs.length∧Pv i σ H,⟨xs.length,by simp,Nat.zero_le _,h0⟩,?_⟩
 rintro i m σ H ⟨rfl,hi,p⟩
 have q:=hl i σ H hi p
 by_cases hlt:i < xs.length
 ·refine .inr ⟨⟨xs,xs[i],q,by simp[hlt]⟩,Pv (i+1),fun σ' H' p'=>⟨xs.length - (i+1),by omega,rfl,hlt,p'⟩,fun x H' y=>?_⟩
  obtain⟨e,y⟩:=y
  subst e
  exact hs i x σ _ (y xs q) p
 ·have e:i=xs.length:=by omega
  subst e
  exact .inl ⟨⟨xs,q,Nat.le_refl _⟩,hd σ H p⟩
theorem pN {lo:Int}{n:Nat}{g:TG}{tb:TS}{D:Ends}{σ:St}{H:Hp} (Pv:Nat→St→Hp→Prop) (h0:Pv 0 σ H)
  (hs:∀ i σ H,i < n→Pv i σ H→g (.int (lo+i)) σ H fun σ2 H2=>tb { D with nx:=Pv (i+1),ct:=Pv (i+1),bk:=D.nx } σ2 H2) (hd:∀ σ H,Pv n σ H→D.nx σ H) :
  ∃ W:Nat→Nat→St→Hp→Prop,(∃ m,W 0 m σ H)∧∀ i m σ H,W i m σ H →
   ((GN lo n).stop i H∧D.nx σ H)∨((GN lo n).go i H∧∃ N:St→Hp→Prop,(∀ σ' H',N σ' H'→∃ m',m' < m∧W (i+1) m' σ' H')∧∀ x H',(GN lo n).Hy i H x H'→g x σ H' fun σ2 H2=>tb { D with nx:=N,ct:=N,bk:=D.nx } σ2 H2):=by
 refine⟨fun i m σ H=>m=n - i∧i≤n∧Pv i σ H,⟨n,by simp,Nat.zero_le _,h0⟩,?_⟩
 rintro i m σ H ⟨rfl,hi,p⟩
 by_cases hlt:i < n
 ·refine .inr ⟨hlt,Pv (i+1),fun σ' H' p'=>⟨n - (i+1),by omega,rfl,hlt,p'⟩,fun x H' y=>?_⟩
  obtain⟨e,y⟩:=y
  subst e y
  exact hs i σ _ hlt p
 ·have e:i=n:=by omega
  subst e
  exact .inl ⟨Nat.le_refl _,hd σ H p⟩
abbrev R2:=V→V→Hp→VK→Prop
def pH (X:Cx) (f:Value→Value→Sem Value) (r:R2):Prop :=
 ∀(pins:List (Addr×Obj)) (s:Shared) (σ:St) (H:Hp) (x y:V) (v u:Value) (Q:VK),Inv X pins σ H s→RelV x v→RelV y u→r x y H Q →
  wpAny (model X.prog X.w) X.A (f v u) (EP X pins σ Q) X.xe s
def gH (X:Cx) (f:Value) (r:List V→Hp→VK→Prop):Prop :=
 ∀(pins:List (Addr×Obj)) (s:Shared) (σ:St) (H:Hp) (xs:List V) (us:List Value) (Q:VK),Inv X pins σ H s→Vals xs us→r xs H Q →
  wpAny (model X.prog X.w) X.A (call f us) (EP X pins σ Q) X.xe s
def E5 (r:R2) (ta tb:TE):TE:=fun σ H Q=>ta σ H fun x H1=>tb σ H1 fun y H2=>r x y H2 Q
def rI (C:Int→Int→Prop) (g:Int→Int→V):R2:=fun x y H Q=>∃ i j,x=.int i∧y=.int j∧C i j∧Q (g i j) H
def Fl (g:Int→Int→V):R2:=fun x y H Q=>∃ i j,x=.int i∧y=.int j∧Q (g i j) H
section
variable {X:Cx}{a b c:Expr}{ta tb tc:TE}{pos:Pos}
theorem HA (ha:PE X a ta) (hb:PE X b tb) {pins:List (Addr×Obj)}{s:Shared}{σ:St}{H:Hp}{R:V→V→Hp→Prop} (I:Inv X pins σ H s)
  (h:ta σ H fun x H1=>tb σ H1 fun y H2=>R x y H2) {Q:Value→Shared→Prop}{f:Value→Value→Sem Value}
  (hf:∀ v u s2 x y H2,Inv X pins σ H2 s2→RelV x v→RelV y u→R x y H2→wpAny (model X.prog X.w) X.A (f v u) Q X.xe s2) :
  wpAny (model X.prog X.w) X.A (eval a X.env) (fun v s₁=>wpAny (model X.prog X.w) X.A (eval b X.env) (fun u s₂=>wpAny (model X.prog X.w) X.A (f v u) Q X.xe s₂) X.xe s₁) X.xe s:=by
 refine bZ (ha pins s σ H _ I h) fun v s1 ⟨x,H1,I1,r1,q1⟩=>?_
 refine bZ (hb pins s1 σ H1 _ I1 q1) fun u s2 ⟨y,H2,I2,r2,q2⟩=>?_
 exact hf v u s2 x y H2 I2 r1 r2 q2
theorem aB {op:Operator}{r:R2} (ho:pH X (binaryOp op) r) (ha:PE X a ta) (hb:PE X b tb):PE X (.BinOp a op b pos) (E5 r ta tb):=by
 intro pins s σ H Q I h
 exact wpAny_BinOp (HA ha hb I h fun v u s2 x y H2 I2 rx ry q=>ho pins s2 σ H2 x y v u Q I2 rx ry q)
theorem Nl {f:Value→Value→Sem Value}{C:Int→Int→Prop}{g:Int→Int→Int}
  (rule:∀(i j:Int) (t u:Tok) (s:Shared) (Q:Value→Shared→Prop) (E:Value→Shared→Prop),C i j→Q (.int (g i j) s.toks) { s with toks:=s.toks+1 }→wpAny (model X.prog X.w) X.A (f (.int i t) (.int j u)) Q E s) :
  pH X f (rI C fun i j=>.int (g i j)):=by
 intro pins s σ H x y v u Q I rx ry h
 obtain⟨i,j,rfl,rfl,hc,q⟩:=h
 obtain⟨t,rfl⟩:=rx
 obtain⟨t',rfl⟩:=ry
 exact rule i j t t' s _ _ hc ⟨.int (g i j),H,I.tok _,⟨_,rfl⟩,q⟩
theorem Kl {f:Value→Value→Sem Value}{g:Int→Int→Int}
  (rule:∀(i j:Int) (t u:Tok) (s:Shared) (Q:Value→Shared→Prop) (E:Value→Shared→Prop),Q (.int (g i j) s.toks) { s with toks:=s.toks+1 }→wpAny (model X.prog X.w) X.A (f (.int i t) (.int j u)) Q E s) :
  pH X f (Fl fun i j=>.int (g i j)):=by
 intro pins s σ H x y v u Q I rx ry h
 obtain⟨i,j,rfl,rfl,q⟩:=h
 obtain⟨t,rfl⟩:=rx
 obtain⟨t',rfl⟩:=ry
 exact rule i j t t' s _ _ ⟨.int (g i j),H,I.tok _,⟨_,rfl⟩,q⟩
theorem Fo {f:Value→Value→Sem Value}{g:Int→Int→Bool}
  (rule:∀(i j:Int) (t u:Tok) (s:Shared) (Q:Value→Shared→Prop) (E:Value→Shared→Prop),Q (.bool (g i j)) s→wpAny (model X.prog X.w) X.A (f (.int i t) (.int j u)) Q E s) :
  pH X f (Fl fun i j=>.bl (g i j)):=by
 intro pins s σ H x y v u Q I rx ry h
 obtain⟨i,j,rfl,rfl,q⟩:=h
 obtain⟨t,rfl⟩:=rx
 obtain⟨t',rfl⟩:=ry
 exact rule i j t t' s _ _ ⟨.bl (g i j),H,I,rfl,q⟩
def N7 (i j:Int):Prop:=0 < j∧j < 1073741824
def Km (i j:Int):Prop:=0≤j∧j≤1000000∧i.natAbs < 2 ^ 64
def Fp (i j:Int):Prop:=(-(2 ^ 64) < i∧i < 2 ^ 64)∨(-(2 ^ 64) < j∧j < 2 ^ 64)
theorem Fp.ok {i j:Int} (h:Fp i j):IntMulOk i j:=by
 rcases h with ⟨h1,h2⟩ | ⟨h1,h2⟩
 ·exact .of_left (intBits_le_64 h1 h2)
 ·exact .of_right (intBits_le_64 h1 h2)
theorem dB:pH X (binaryOp .Add) (Fl fun i j=>.int (i+j)):=Kl fun _ _ _ _ _ _ _ q=>add_int q
theorem Dm:pH X (binaryOp .Sub) (Fl fun i j=>.int (i - j)):=Kl fun _ _ _ _ _ _ _ q=>sub_int q
theorem eZ:pH X (binaryOp .Mult) (rI Fp fun i j=>.int (i * j)):=Nl fun _ _ _ _ _ _ _ hc q=>mul_int q hc.ok
theorem cF:pH X (binaryOp .FloorDiv) (rI N7 fun i j=>.int (i / j)):=Nl fun i j _ _ _ _ _ hc q=>by
 have h1:(0:Int) < j:=hc.1
 have h2:j < 1073741824:=hc.2
 exact floordiv_int (by omega) (by rw[Int.fdiv_eq_ediv_of_nonneg i (by omega)];exact q) (.inl (PyProof.noPylong_small (by omega)))
theorem bz:pH X (binaryOp .Mod) (rI (fun _ j=>0 < j) fun i j=>.int (i % j)):=Nl fun i j _ _ _ _ _ hc q=>by
 have h1:(0:Int) < j:=hc
 exact mod_int' (by omega) (by rw[Int.fmod_eq_emod_of_nonneg i (by omega)];exact q)
theorem uT:pH X (binaryOp .Pow) (rI Km fun i j=>.int (i ^ j.toNat)):=Nl fun _ _ _ _ _ _ _ hc q=>pow_int_small hc.1 hc.2.1 hc.2.2 q
end
def Kn:V→V→Bool
 | .non,.non=>true | .non,.int _=>true | .int _,.non=>true | .non,.bl _=>true | .bl _,.non=>true | .non,.str _=>true | .str _,.non=>true
 | .int _,.int _=>true | .bl _,.bl _=>true | .str _,.str _=>true | .C5 _,.C5 _=>true
 | .int _,.str _=>true | .str _,.int _=>true | .bl _,.str _=>true | .str _,.bl _=>true
 | _,_=>false
def TQ:R2:=fun x y H Q=>Kn x y=true∧Q (.bl (decide (x=y))) H
def TR:R2:=fun x y H Q=>Kn x y=true∧Q (.bl (!decide (x=y))) H
theorem AG {i j:Int}:decide (V.int i=V.int j)=(i == j):=by
 rw[Bool.eq_iff_iff]
 simp
theorem Dn {i j:Bool}:decide (V.bl i=V.bl j)=(i == j):=by
 rw[Bool.eq_iff_iff]
 simp
theorem AH {i j:Str}:decide (V.str i=V.str j)=(i == j):=by
 rw[Bool.eq_iff_iff]
 simp
theorem AI {i j:Array UInt8}:decide (V.C5 i=V.C5 j)=(i.toList == j.toList):=by
 rw[Bool.eq_iff_iff]
 cases i
 cases j
 simp
section
variable {X:Cx}{a b c:Expr}{ta tb tc:TE}{pos:Pos}
theorem bu {pins:List (Addr×Obj)}{σ:St}{H:Hp}{s:Shared}{Q:VK}{k k':Bool} (I:Inv X pins σ H s) (q:Q (.bl k) H) (e:k=k'):EP X pins σ Q (.bool k') s:=by
 subst e
 exact⟨.bl k,H,I,rfl,q⟩
theorem iu:pH X (compareOp .Eq) TQ:=by
 intro pins s σ H x y v u Q I rx ry h
 obtain⟨hs,q⟩:=h
 cases x with
 | non =>
  cases rx
  cases y with
  | non=>cases ry;exact PySem.EqNone.eq_none_none (bu I q (by simp))
  | bl j=>cases ry;exact PySem.EqNone.eq_none_bool (bu I q (by simp))
  | int j=>obtain⟨t',rfl⟩:=ry;exact PySem.EqNone.eq_none_int (bu I q (by simp))
  | str j=>obtain⟨t',rfl⟩:=ry;exact PySem.EqNone.eq_none_str (bu I q (by simp))
  | _=>exact absurd (show false=true from hs) Bool.false_ne_true
 | bl i =>
  cases rx
  cases y with
  | non=>cases ry;exact PySem.EqNone.eq_bool_none (bu I q (by simp))
  | bl j=>cases ry;exact eq_bool (bu I q Dn)
  | str j=>obtain⟨t',rfl⟩:=ry;exact PySem.EqMixed.eq_bool_str (bu I q (by simp))
  | _=>exact absurd (show false=true from hs) Bool.false_ne_true
 | int i =>
  obtain⟨t,rfl⟩:=rx
  cases y with
  | non=>cases ry;exact PySem.EqNone.eq_int_none (bu I q (by simp))
  | int j=>obtain⟨t',rfl⟩:=ry;exact eq_int (bu I q AG)
  | str j=>obtain⟨t',rfl⟩:=ry;exact PySem.EqMixed.eq_int_str (bu I q (by simp))
  | _=>exact absurd (show false=true from hs) Bool.false_ne_true
 | str i =>
  obtain⟨t,rfl⟩:=rx
  cases y with
  | non=>cases ry;exact PySem.EqNone.eq_str_none (bu I q (by simp))
  | bl j=>cases ry;exact PySem.EqMixed.eq_str_bool (bu I q (by simp))
  | int j=>obtain⟨t',rfl⟩:=ry;exact PySem.EqMixed.eq_str_int (bu I q (by simp))
  | str j=>obtain⟨t',rfl⟩:=ry;exact eq_str (bu I q AH)
  | _=>exact absurd (show false=true from hs) Bool.false_ne_true
 | C5 i =>
  obtain⟨t,rfl⟩:=rx
  cases y with
  | C5 j=>obtain⟨t',rfl⟩:=ry;exact W.eq_bytes (bu I q AI)
  | _=>exact absurd (show false=true from hs) Bool.false_ne_true
 | _=>cases y <;> exact absurd (show false=true from hs) Bool.false_ne_true
theorem rP:pH X (compareOp .NotEq) TR:=by
 intro pins s σ H x y v u Q I rx ry h
 obtain⟨hs,q⟩:=h
 cases x with
 | non =>
  cases rx
  cases y with
  | non=>cases ry;exact PySem.EqNone.ne_none_none (bu I q (by simp))
  | bl j=>cases ry;exact PySem.EqNone.ne_none_bool (bu I q (by simp))
  | int j=>obtain⟨t',rfl⟩:=ry;exact PySem.EqNone.ne_none_int (bu I q (by simp))
  | str j=>obtain⟨t',rfl⟩:=ry;exact PySem.EqNone.ne_none_str (bu I q (by simp))
  | _=>exact absurd (show false=true from hs) Bool.false_ne_true
 | bl i =>
  cases rx
  cases y with
  | non=>cases ry;exact PySem.EqNone.ne_bool_none (bu I q (by simp))
  | bl j=>cases ry;exact ne_bool (bu I q (congrArg not Dn))
  | str j=>obtain⟨t',rfl⟩:=ry;exact PySem.EqMixed.ne_bool_str (bu I q (by simp))
  | _=>exact absurd (show false=true from hs) Bool.false_ne_true
 | int i =>
  obtain⟨t,rfl⟩:=rx
  cases y with
  | non=>cases ry;exact PySem.EqNone.ne_int_none (bu I q (by simp))
  | int j=>obtain⟨t',rfl⟩:=ry;exact ne_int (bu I q (congrArg not AG))
  | str j=>obtain⟨t',rfl⟩:=ry;exact PySem.EqMixed.ne_int_str (bu I q (by simp))
  | _=>exact absurd (show false=true from hs) Bool.false_ne_true
 | str i =>
  obtain⟨t,rfl⟩:=rx
  cases y with
  | non=>cases ry;exact PySem.EqNone.ne_str_none (bu I q (by simp))
  | bl j=>cases ry;exact PySem.EqMixed.ne_str_bool (bu I q (by simp))
  | int j=>obtain⟨t',rfl⟩:=ry;exact PySem.EqMixed.ne_str_int (bu I q (by simp))
  | str j=>obtain⟨t',rfl⟩:=ry;exact ne_str (bu I q (congrArg not AH))
  | _=>exact absurd (show false=true from hs) Bool.false_ne_true
 | C5 i =>
  obtain⟨t,rfl⟩:=rx
  cases y with
  | C5 j=>obtain⟨t',rfl⟩:=ry;exact W.ne_bytes (bu I q (congrArg not AI))
  | _=>exact absurd (show false=true from hs) Bool.false_ne_true
 | _=>cases y <;> exact absurd (show false=true from hs) Bool.false_ne_true
theorem Dp:pH X (compareOp .Lt) (Fl fun i j=>.bl (decide (i < j))):=Fo fun _ _ _ _ _ _ _ q=>lt_int q
theorem Ko:pH X (compareOp .LtE) (Fl fun i j=>.bl (decide (i≤j))):=Fo fun _ _ _ _ _ _ _ q=>le_int q
theorem Dq:pH X (compareOp .Gt) (Fl fun i j=>.bl (decide (j < i))):=Fo fun _ _ _ _ _ _ _ q=>gt_int q
theorem GP:pH X (compareOp .GtE) (Fl fun i j=>.bl (decide (j≤i))):=Fo fun _ _ _ _ _ _ _ q=>ge_int q
theorem Dr (b:Expr) {op:CmpOp} (h:op≠.In:=by decide) (h2:op≠.NotIn:=by decide):behindInMarks op b=false:=by
 have e1:(op == CmpOp.In)=false:=by cases op <;> first | rfl | exact absurd rfl h
 have e2:(op == CmpOp.NotIn)=false:=by cases op <;> first | rfl | exact absurd rfl h2
 cases b <;> simp[behindInMarks,e1,e2]
theorem Fq {op:CmpOp}{r:R2} (ho:pH X (compareOp op) r) (ha:PE X a ta) (hb:PE X b tb) (hm:behindInMarks op b=false):PE X (.Compare a [op] [b] pos) (E5 r ta tb):=by
 intro pins s σ H Q I h
 exact wpAny_Compare1 (HA ha hb I h fun v u s2 x y H2 I2 rx ry q=>ho pins s2 σ H2 x y v u Q I2 rx ry q) hm
def GQ (t:TE):TT:=fun σ H Q=>t σ H fun x H'=>∃ k,x=.bl k∧Q k H'
theorem AJ {op:CmpOp}{r:R2} (ho:pH X (compareOp op) r) (ha:PE X a ta) (hb:PE X b tb) (hm:behindInMarks op b=false):PT X (.Compare a [op] [b] pos) (GQ (E5 r ta tb)):=by
 intro pins s σ H Q I h
 refine wpAny_isTrue_Compare1 (bZ (ha pins s σ H _ I h) fun v s1 ⟨x,H1,I1,r1,q1⟩=>bZ (hb pins s1 σ H1 _ I1 q1) fun u s2 ⟨y,H2,I2,r2,q2⟩ =>
  bZ (ho pins s2 σ H2 x y v u _ I2 r1 r2 q2) fun c s3 ⟨z,H3,I3,r3,k,e,q3⟩=>?_) hm
 subst e
 cases r3
 exact wpAny_truthy_bool ⟨H3,I3,q3⟩
theorem pO:(sizeLine:Nat) < 2 ^ 63:=by rw[sizeLine_eq];decide
theorem yP:pH X (binaryOp .Add) (fun x y H Q=>∃ i j,x=.str i∧y=.str j∧i.length+j.length≤sizeLine∧Q (.str (i++j)) H):=by
 intro pins s σ H x y v u Q I rx ry h
 obtain⟨i,j,rfl,rfl,hz,q⟩:=h
 obtain⟨t,rfl⟩:=rx
 obtain⟨t',rfl⟩:=ry
 exact add_str (fun t' tk=>⟨.str (i++j),H,I.tok _,⟨_,rfl⟩,q⟩) hz
theorem vals1 {x:V}{us:List Value} (r:Vals [x] us):∃ u,us=[u]∧RelV x u:=by
 cases r with
 | cons r1 r2=>cases r2;exact⟨_,rfl,r1⟩
theorem vals2 {x y:V}{us:List Value} (r:Vals [x,y] us):∃ u w',us=[u,w']∧RelV x u∧RelV y w':=by
 cases r with
 | cons r1 r2 =>
  cases r2 with
  | cons r3 r4=>cases r4;exact⟨_,_,rfl,r1,r3⟩
theorem Dt:gH X (.builtin "ord") (fun xs H Q=>∃ x,xs=[.str x]∧x.length=1∧Q (.int (x.cps.getD 0 0:Nat)) H):=by
 intro pins s σ H xs us Q I r h
 obtain⟨x,rfl,hz,q⟩:=h
 obtain⟨u,rfl,t,rfl⟩:=vals1 r
 exact ord_of_one hz ⟨.int _,H,I.tok _,⟨_,rfl⟩,q⟩
end
structure Du (h:Heap) (x dx C:Addr) (mA:Str→Option Value):Prop where
 obj:h.get? x=some (W.instObj C dx)
 ns:h.Ns1 dx mA
 ne:dx≠x
theorem uu {h:Heap}{dx:Addr}{mA:Str→Option Value} (n:h.Ns1 dx mA):∃ od,h.get? dx=some od∧∀ name,W.lookIn name od=some (mA name):=by
 obtain⟨o,es,ep,ho,hd,hk,_,hm⟩:=n
 refine⟨o,ho,fun name=>?_⟩
 have e:=hm name
 unfold nsFind findBy at e
 rw[←Array.find?_toList] at e
 unfold W.lookIn
 rw[hd]
 dsimp only
 split
 ·rename_i y q
  rw[q] at e
  exact congrArg some e
 ·rename_i q
  rw[q] at e
  have a:es.toList.any (·.refKey)=false:=by
   rw[List.any_eq_false]
   intro y hy
   obtain⟨z,t,hkey⟩:=hk y (Array.mem_toList_iff.mp hy)
   simp[DictEntry.refKey,hkey]
  have a':¬es.toList.any (·.refKey)=true:=by rw[a];exact Bool.false_ne_true
  rw[if_neg a']
  exact congrArg some e
theorem Du.look {h:Heap}{x dx C:Addr}{mA:Str→Option Value} (I:Du h x dx C mA):∃ od,W.InstAt h x (W.instObj C dx) C (some od)∧∀ name,W.lookIn name od=some (mA name) :=
 let ⟨od,ho,hl⟩:=uu I.ns
 ⟨od,⟨I.obj,rfl,rfl,ho⟩,hl⟩
section
variable {prog:Program}{w:World}{A:Around}{E:Value→Shared→Prop}{s:Shared}{K:W.Frag}{x dx C f:Addr}{mA:Str→Option Value}{name:Str}{v:Value}
theorem Ft {ns:List Str}{Q:Unit→Shared→Prop} (X:K.In s.heap) (I:Du s.heap x dx C mA)
  (hs:W.findIn K (.ref C) "__setattr__" = some (some (.builtin "object.__setattr__"))) (hp:W.plainOver K C=true) (ht:W.takerIn K C name=some none) (hh:W.hasDictIn K C=true)
  (hw:PySem.Within mA ns) (hsz:ns.length≤sizeLine)
  (h:∀ h',Du h' x dx C (fun y=>if y=name then some v else mA y)→Heap.SameBut dx s.heap h'→Q () { s with heap:=h',toks:=s.toks+2 }) :
  wpAny (model prog w) A (setAttr (.ref x) name v) Q E s:=by
 obtain⟨od,J,hl⟩:=I.look
 refine W.set_plain X J hs (W.osa_open (s:={ s with toks:=s.toks+1 }) (r:=none) X J hp ht fun b=>?_)
 obtain⟨cd,hc,hd'⟩:=W.any_some hh
 have hx:s.heap.get? x=some ⟨.ref C,some dx,.plain,#[]⟩:=I.obj
 refine wpAny_bind (wpAny_pure (wpAny_bind (wpAny_bind (wpAny_loadPart hx (wpAny_bind (W.Looks.here (s:={ s with toks:=s.toks+1 }) (W.looks_clsIn X hc) ?_))))))
 rw[hd']
 refine wpAny_pure (a:=some dx) (wpAny_bind (wpAny_pure (wpAny_bind ?_)))
 refine wpAny_nsSet1 (s:={ s with toks:=s.toks+1 }) I.ns fun h' hn2 hs2=>?_
 obtain⟨oD,esD,TU,N8,N9,Oa⟩:=hn2.count (PySem.Within.cons name v hw)
 refine wpAny_bind (wpAny_lookBehind N8 (by rw[N9];exact pastItsLine_dict (Nat.le_trans Oa (by rw[List.length_cons];omega))) ?_)
 exact wpAny_pure (h _ ⟨(hs2.2 _ (Ne.symm I.ne)).trans I.obj,hn2,I.ne⟩ hs2)
theorem Dv {R:Result→Shared→Prop}{vs:List Value}{kw:List (Str×Value)} (X:K.In s.heap) (hm:W.makesIn K C=true)
  (hi:W.findIn K (.ref C) "__init__" = some (some (.ref f))) (hf:W.typeIn K (.ref f)=some (.type "function"))
  (h:codeAny (model prog w) (A.under (.builtin "type.__call__" ⟨.ref C :: vs,kw⟩)) (.call (.ref f) ⟨.ref (s.heap.objs.size+1) :: vs,kw⟩) (W.InitBack (s.heap.objs.size+1) R)
   { s with heap:=(s.heap.push W.emptyDict).push (W.instObj C s.heap.objs.size) }) :
  codeAny (model prog w) A (.call (.ref C) ⟨vs,kw⟩) R s:=by
 obtain⟨hh,g,d,t,os⟩:=s
 exact W.make_core (W.makes_of X hm) (W.looks_findIn X hi) (fun self=>W.bind_fn X self hf) (.inl rfl) h
end
def mO (f:Str) (v:V):List (Str×V)→List (Str×V)
 | []=>[(f,v)]
 | (g,x) :: r=>if g=f then (g,v) :: r else (g,x) :: mO f v r
theorem qh (f g:Str) (v:V):∀ fs:List (Str×V),(mO f v fs).lookup g=if g=f then some v else fs.lookup g
 | []=>by
  show List.lookup g [(f,v)]=_
  by_cases h:g=f
  ·have hb:(g == f)=true:=beq_iff_eq.mpr h
   simp only[List.lookup,hb,if_pos h]
  ·have hb:(g == f)=false:=beq_eq_false_iff_ne.mpr h
   simp only[List.lookup,hb,if_neg h]
 | (k,x) :: r=>by
  have ih:=qh f g v r
  rw[show mO f v ((k,x) :: r)=(if k=f then (k,v) :: r else (k,x) :: mO f v r) from rfl]
  by_cases hk:k=f
  ·rw[if_pos hk]
   by_cases h:g=k
   ·have hb:(g == k)=true:=beq_iff_eq.mpr h
    simp only[List.lookup,hb,if_pos (h.trans hk)]
   ·have hb:(g == k)=false:=beq_eq_false_iff_ne.mpr h
    simp only[List.lookup,hb,if_neg (fun e:g=f=>h (e.trans hk.symm))]
  ·rw[if_neg hk]
   by_cases h:g=k
   ·have hb:(g == k)=true:=beq_iff_eq.mpr h
    simp only[List.lookup,hb,if_neg (fun e:g=f=>hk (h.symm.trans e))]
   ·have hb:(g == k)=false:=beq_eq_false_iff_ne.mpr h
    simp only[List.lookup,hb]
    exact ih
theorem pP (f:Str) (v:V):∀ fs:List (Str×V),f∈(mO f v fs).map (·.1)∧∀ g,g∈fs.map (·.1)→g∈(mO f v fs).map (·.1)
 | []=>⟨by simp[mO],fun g h=>by simp at h⟩
 | (k,x) :: r=>by
  obtain⟨i1,i2⟩:=pP f v r
  rw[show mO f v ((k,x) :: r)=(if k=f then (k,v) :: r else (k,x) :: mO f v r) from rfl]
  by_cases hk:k=f
  ·rw[if_pos hk]
   subst hk
   exact⟨by simp,fun g h=>by simpa using h⟩
  ·rw[if_neg hk]
   refine⟨?_,fun g h=>?_⟩
   ·rw[List.map_cons]
    exact List.mem_cons_of_mem _ i1
   ·rw[List.map_cons] at h ⊢
    rcases List.mem_cons.mp h with e | e
    ·exact List.mem_cons.mpr (.inl e)
    ·exact List.mem_cons_of_mem _ (i2 g e)
theorem qi (f:Str) (v:V):∀ fs:List (Str×V),(mO f v fs).length≤fs.length+1
 | []=>by simp[mO]
 | (k,x) :: r=>by
  have ih:=qi f v r
  rw[show mO f v ((k,x) :: r)=(if k=f then (k,v) :: r else (k,x) :: mO f v r) from rfl]
  by_cases hk:k=f
  ·rw[if_pos hk,List.length_cons,List.length_cons];omega
  ·rw[if_neg hk,List.length_cons,List.length_cons];omega
theorem tw.some_of {v:V}{o:Option Value} (r:tw (some v) o):∃ u,o=some u∧RelV v u:=by
 cases o with
 | none=>exact(show False from r).elim
 | some u=>exact⟨u,rfl,r⟩
theorem Bq {v:V}{u:Value} (r:RelV v u):W.handedIn u=true:=by
 cases v with
 | non=>cases(show u=Value.none from r);rfl
 | bl b=>cases(show u=Value.bool b from r);rfl
 | int i=>obtain⟨t,e⟩:=(show ∃ t,u=Value.int i t from r);cases e;rfl
 | str x=>obtain⟨t,e⟩:=(show ∃ t,u=Value.str x t from r);cases e;rfl
 | C5 b=>obtain⟨t,e⟩:=(show ∃ t,u=Value.bytes b t from r);cases e;rfl
 | Dg b=>obtain⟨t,e⟩:=(show ∃ t,u=Value.float b t from r);cases e;rfl
 | ref a=>cases(show u=Value.ref a from r);rfl
 | ty n=>cases(show u=Value.type n from r);rfl
section
variable {P:Program}{w:World}{H H':Hp}{h h':Heap}{a C dx:Addr}{fs fs':List (Str×V)}
theorem AK (hok:nH P w H h) (e:H a=some (.ins C dx fs)):∃ mA,Du h a dx C mA∧(∀ f,tw (fs.lookup f) (mA f))∧PySem.Within mA (fs.map (·.1))∧fs.length≤1000∧H dx=some (.own a):=by
 obtain⟨d,z,ne,ob,mA,n,r,q⟩:=(show bQ P w H h a (.ins C dx fs) from hok a _ e)
 exact⟨mA,⟨ob,n,ne⟩,r,q,z,d⟩
end
structure JD (K:W.Frag) (C:Addr):Prop where
 pg:W.plainGet K C Str.empty=true
 hd:W.hasDictIn K C=true
 po:W.plainOver K C=true
 sa:W.findIn K (.ref C) "__setattr__" = some (some (.builtin "object.__setattr__"))
theorem JD.get {K:W.Frag}{C:Addr} (c:JD K C) (f:Str):W.plainGet K C f=true:=c.pg
def iR (K:W.Frag) (C:Addr) (f:Str):Prop:=W.findIn K (.ref C) f=some none
theorem iR.Kp {K:W.Frag}{C:Addr}{f:Str} (n:iR K C f):W.takerIn K C f=some none:=by
 unfold W.takerIn
 rw[show W.findIn K (.ref C) f=some none from n]
 rfl
structure Meth (K:W.Frag) (C:Addr) (m:Str) (f:Addr):Prop where
 at_:W.findIn K (.ref C) m=some (some (.ref f))
 fn:W.isFn K (.ref f)=true
 kp:W.keepIn K (.ref f)=true
section
variable {X:Cx}{pins:List (Addr×Obj)}{σ:St}{H:Hp}{s:Shared}{a C dx:Addr}{fs:List (Str×V)}{f:Str}{v:V}{A:Around}{E:Value→Shared→Prop}
theorem yQ {y:V}{u:Value}{Q:Unit→Shared→Prop} (I:Inv X pins σ H s) (e:H a=some (.ins C dx fs)) (c:JD X.K C) (n:iR X.K C f) (hl:fs.length < 1000) (ry:RelV y u)
  (h:∀ s',Inv X pins σ (upd H a (.ins C dx (mO f y fs))) s'→Q () s'):wpAny (model X.prog X.w) A (setAttr (.ref a) f u) Q E s:=by
 obtain⟨mA,O,r,wi,_,ho⟩:=AK I.hok e
 have hz:(fs.map (·.1)).length≤sizeLine:=by rw[List.length_map,sizeLine_eq];omega
 refine Ft I.j4 O c.sa c.po n.Kp c.hd wi hz fun h' O' sb=>h _ ?_
 have hd:∃ o,h'.get? dx=some o:=let ⟨o,_,_,e',_⟩:=O'.ns;⟨o,e'⟩
 refine I.write (x:=a) (e:=dx) (by rw[e];exact True.intro) (.inr ho) (fun b q hb z=>(sb.2 b hb).trans z) hd ?_
 refine⟨by rw[aC O.ne];exact ho,?_,O.ne,O'.obj,_,O'.ns,fun g=>?_,fun g hg=>?_⟩
 ·have:=qi f y fs;omega
 ·show tw ((mO f y fs).lookup g) (if g=f then some u else mA g)
  rw[qh]
  by_cases q:g=f
  ·rw[if_pos q,if_pos q];exact ry
  ·rw[if_neg q,if_neg q];exact r g
 ·by_cases q:g=f
  ·rw[q];exact(pP f y fs).1
  ·refine(pP f y fs).2 g (wi g fun z=>hg ?_)
   show(if g=f then some u else mA g)=none
   rw[if_neg q];exact z
theorem Inv.made (I:Inv X pins σ H s):Inv X pins σ (upd (upd H s.heap.objs.size (.own (s.heap.objs.size+1))) (s.heap.objs.size+1) (.ins C s.heap.objs.size []))
  { s with heap:=(s.heap.push W.emptyDict).push (W.instObj C s.heap.objs.size) }:=by
 have e1:(s.heap.push W.emptyDict).get? s.heap.objs.size=some W.emptyDict:=Heap.get?_push_size s.heap rfl
 have e2:((s.heap.push W.emptyDict).push (W.instObj C s.heap.objs.size)).get? (s.heap.objs.size+1)=some (W.instObj C s.heap.objs.size):=by
  have:=Heap.get?_push_size (s.heap.push W.emptyDict) (o:=W.instObj C s.heap.objs.size) rfl
  rwa [Heap.size_push] at this
 have e3:(s.heap.push W.emptyDict).Ns s.heap.objs.size (fun _=>none):=⟨W.emptyDict,#[],_,e1,rfl,(fun e he=>absurd he (by simp)),fun _=>rfl⟩
 have I1:=I.laid (a:=s.heap.objs.size) (o:=.own (s.heap.objs.size+1)) (h':=s.heap.push W.emptyDict) (t':=s.toks) (fun b u q=>Heap.get?_push_of_some _ q) (Nat.le_refl _) ⟨_,e1⟩
 refine I1.laid (a:=s.heap.objs.size+1) (o:=.ins C s.heap.objs.size []) (t':=s.toks) (fun b u q=>Heap.get?_push_of_some _ q) (Nat.le_of_eq (Heap.size_push _ _)) ?_
 have ne:s.heap.objs.size≠s.heap.objs.size+1:=Nat.ne_of_lt (Nat.lt_succ_self _)
 refine⟨by rw[aC ne,ah],Nat.zero_le _,ne,e2,fun _=>none,(Heap.Ns1.of_empty e3).at fun o q=>Heap.get?_push_of_some _ q,fun _=>True.intro,fun y hy=>absurd rfl hy⟩
theorem Fv {prog:Program}{w:World}{env:Env}{e:Expr}{f:Str}{pos:Pos}{s:Shared}{Q:Value→Shared→Prop} (hb:attributeBase e f env (eval e env)=eval e env)
  (h:wpAny (model prog w) A (eval e env) (fun o s₁=>wpAny (model prog w) A (getAttr o f true) Q E s₁) E s):wpAny (model prog w) A (eval (.Attribute e f pos) env) Q E s :=
 Attribute_any_ h (by rw[arm_eval_Attribute,hb])
end
def Ob (K:W.Frag) (ta tv:TE) (f:Str):TS:=fun D σ H=>tv σ H fun y H1=>ta σ H1 fun x H2=>∃ a C dx fs,x=.ref a∧H2 a=some (.ins C dx fs)∧JD K C∧iR K C f∧fs.length < 1000 ∧
 D.nx σ (upd H2 a (.ins C dx (mO f y fs)))
section
variable {X:Cx}{o e value:Expr}{f:Str}{pos pos' tpos:Pos}{ta tv:TE}
theorem nJ (ha:PE X o ta) (hv:PE X value tv) (hs:swapsWith value (some (.Attribute o f pos')) pos.line X.env=pure false):PS X (.Assign [.Attribute o f pos'] value pos) (Ob X.K ta tv f):=by
 intro pins s σ H D I h
 refine plainObj_wpAny_Assign_Attribute (bZ (hv pins s σ H _ I h) fun u s1 ⟨y,H1,I1,ry,q⟩=>bZ (ha pins s1 σ H1 _ I1 q) fun ov s2 ⟨x,H2,I2,rx,a,C,dx,fs,ex,ea,c,n,l,q2⟩=>?_) hs
 subst ex
 obtain rfl:ov=Value.ref a:=rx
 exact yQ I2 ea c n l ry fun s3 I3=>⟨σ,_,I3,q2⟩
end
section
variable {X:Cx}{pins:List (Addr×Obj)}{σ:St}{H:Hp}{s:Shared}{A:Around}{E:Value→Shared→Prop}{Q:Value→Shared→Prop}{c:Value}{b:Bool}
inductive gI (K:W.Frag) (H:Hp):V→Value→Prop where
 | non:gI K H .non (.type "NoneType")
 | bl (x:Bool):gI K H (.bl x) (.type "bool")
 | int (i:Int):gI K H (.int i) (.type "int")
 | str (x:Str):gI K H (.str x) (.type "str")
 | Dg (x:UInt64):gI K H (.Dg x) (.type "float")
 | lst {a:Addr}{xs:List V} (e:H a=some (.lst xs)):gI K H (.ref a) (.type "list")
 | ou {a:Addr}{o:Obj}{xs:List V} (e:H a=some (.ou o (.lst xs))):gI K H (.ref a) (.type "list")
 | tup {a:Addr}{xs:List V} (e:H a=some (.tup xs)):gI K H (.ref a) (.type "tuple")
 | dK {a:Addr}{kvs:List (Key×V)} (e:H a=some (.dK kvs)):gI K H (.ref a) (.type "dict")
 | dT {a:Addr}{kvs:List (List Key×V)} (e:H a=some (.dT kvs)):gI K H (.ref a) (.type "dict")
 | ins {a C dx:Addr}{fs:List (Str×V)} (e:H a=some (.ins C dx fs)) (cl:JD K C) (ha:W.findIn K (.ref C) "__class__" = some (some (.builtin "object.__class__")))
   (hn:W.specialIn K (.builtin "object.__class__") "__get__" = some (some (.builtin "getset_descriptor.__get__"))) (htk:W.takesIn K (.builtin "object.__class__")=some true)
   (hm:W.mroIn K C (.type "object")=some true):gI K H (.ref a) (.ref C)
theorem uv {x:V}{u t:Value} (I:Inv X pins σ H s) (rx:RelV x u) (ty:gI X.K H x t) (e:W.kitOne X.K t c=some b) (h:∀ tk,Q (.bool b) { s with toks:=tk }) :
  wpAny (model X.prog X.w) A (call (.builtin "isinstance") [u,c]) Q E s:=by
 cases ty with
 | non=>cases(show u=Value.none from rx);exact W.kia_one W.kitx_none I.j4 True.intro e (fun z=>nomatch z) h
 | bl y=>cases(show u=Value.bool y from rx);exact W.kia_one W.kitx_bool I.j4 True.intro e (fun z=>nomatch z) h
 | int i=>obtain⟨t,q⟩:=(show ∃ t,u=Value.int i t from rx);cases q;exact W.kia_one W.kitx_int I.j4 True.intro e (fun z=>nomatch z) h
 | str y=>obtain⟨t,q⟩:=(show ∃ t,u=Value.str y t from rx);cases q;exact W.kia_one W.kitx_str I.j4 True.intro e (fun z=>nomatch z) h
 | Dg y=>obtain⟨t,q⟩:=(show ∃ t,u=Value.float y t from rx);cases q;exact W.kia_one W.kitx_float I.j4 True.intro e (fun z=>nomatch z) h
 | @lst a xs ea =>
  cases(show u=Value.ref a from rx)
  obtain⟨_,_,n,_,h1⟩:=(show bQ X.prog X.w H s.heap a (.lst xs) from I.hok a _ ea)
  exact W.kia_one W.kitx_list I.j4 ⟨_,h1,rfl⟩ e (fun z=>nomatch z) h
 | @ou a ob xs ea =>
  cases(show u=Value.ref a from rx)
  obtain⟨_,_,_,n,_,h1⟩:=(show bQ X.prog X.w H s.heap a (.ou ob (.lst xs)) from I.hok a _ ea)
  exact W.kia_one W.kitx_list I.j4 ⟨_,h1,rfl⟩ e (fun z=>nomatch z) h
 | @tup a xs ea =>
  cases(show u=Value.ref a from rx)
  obtain⟨_,_,_,p⟩:=(show bQ X.prog X.w H s.heap a (.tup xs) from I.hok a _ ea)
  obtain⟨o,h1,h2,_⟩:=p
  exact W.kia_one W.kitx_tuple I.j4 ⟨o,h1,h2⟩ e (fun z=>nomatch z) h
 | @dK a kvs ea =>
  cases(show u=Value.ref a from rx)
  obtain⟨_,_,vs,_,p⟩:=(show bQ X.prog X.w H s.heap a (.dK kvs) from I.hok a _ ea)
  obtain⟨o,es,ep,h1,h2,_⟩:=p
  exact W.kia_one W.kitx_dict I.j4 ⟨o,h1,h2.1⟩ e (fun z=>nomatch z) h
 | @dT a kvs ea =>
  cases(show u=Value.ref a from rx)
  obtain⟨_,_,xs,_,o,es,ep,h1,h2,_⟩:=(show bQ X.prog X.w H s.heap a (.dT kvs) from I.hok a _ ea)
  exact W.kia_one W.kitx_dict I.j4 ⟨o,h1,h2.1⟩ e (fun z=>nomatch z) h
 | @ins a C dx fs ea cl ha hn htk hm =>
  cases(show u=Value.ref a from rx)
  obtain⟨mA,O,_⟩:=AK I.hok ea
  obtain⟨od,J,_⟩:=O.look
  exact W.kia_one (W.kitx_own (cl.get _) cl.hd ha hn htk hm) I.j4 J e (fun z=>nomatch z) h
end
structure dX (k:Nat) (A:Around):Prop where
 hd:A.handled=none
 dp:A.depth+3 * k+5 < recursionLimit
 un:A.units+16 * k+200 < cLine
theorem dX.mono {j k:Nat}{A:Around} (r:dX k A) (h:j≤k):dX j A:=⟨r.hd,by have:=r.dp;omega,by have:=r.un;omega⟩
theorem dX.deeper {k:Nat}{A:Around} (r:dX (k+1) A) (env:Env):dX k (A.deeper env) :=
 ⟨r.hd,by have:=r.dp;show A.depth+1+3 * k+5 < _;omega,by have:=r.un;show A.units+3+16 * k+200 < _;omega⟩
theorem yR {A:Around}{C:Addr}{us:List Value}{kw:List (Str×Value)}:(A.under (.builtin "type.__call__" ⟨.ref C :: us,kw⟩)).depth=A.depth+1:=by
 first | rfl | simp[Around.under,Code.weight,Code.isCreation,Code.isGuard,Code.isCaller,Code.frames,Code.isFrame,guardIds]
theorem yS {A:Around}{C:Addr}{us:List Value}{kw:List (Str×Value)}:(A.under (.builtin "type.__call__" ⟨.ref C :: us,kw⟩)).units=A.units+1:=by
 first | rfl | simp[Around.under,Code.cUnits,Code.frames,Code.isFrame]
theorem dX.make {k:Nat}{A:Around} (r:dX (k+1) A) (C:Addr) (us:List Value) (kw:List (Str×Value)):dX k (A.under (.builtin "type.__call__" ⟨.ref C :: us,kw⟩)) :=
 ⟨r.hd,by have:=r.dp;rw[yR];omega,by have:=r.un;rw[yS];omega⟩
theorem dX.depth {k:Nat}{A:Around} (r:dX k A):A.depth < recursionLimit:=by have:=r.dp;omega
theorem dX.units {k:Nat}{A:Around} (r:dX k A):A.units+64 < cLine:=by have:=r.un;omega
theorem dX.bN {k:Nat}{A:Around} (r:dX k A):A.units < cLine:=by have:=r.un;omega
def Kq:TA:=fun _ H Q=>Q [] H
def Dw (ta:TE) (tr:TA):TA:=fun σ H Q=>ta σ H fun x H1=>tr σ H1 fun xs H2=>Q (x :: xs) H2
section
variable {X:Cx}{e:Expr}{es:List Expr}{te:TE}{t:TA}{pos:Pos}
theorem ao:PA X [] Kq:=fun _ _ _ _ H Q I h=>Calls.spliced_nil ⟨[],H,I,.nil,h⟩
theorem af (ha:PE X e te) (hr:PA X es t) (hs:starEach (e :: es) X.env=(false,eval e X.env) :: starEach es X.env:=by rfl):PA X (e :: es) (Dw te t):=by
 intro pos pins s σ H Q I h
 rw[hs]
 show wpAny _ _ (spliced ((false,eval e X.env) :: backTo pos (starEach es X.env))) _ _ s
 refine Calls.spliced_cons (bZ (ha pins s σ H _ I h) fun u s1 ⟨x,H1,I1,r1,q1⟩=>?_)
 exact bZ (hr pos pins s1 σ H1 _ I1 q1) fun us s2 ⟨xs,H2,I2,r2,q2⟩=>⟨x :: xs,H2,I2,.cons r1 r2,q2⟩
def Oc (t:TA):TE:=fun σ H Q=>t σ H fun xs H1=>xs.length≤sizeLine∧∀ p,H1 p=none→Q (.ref p) (upd H1 p (.tup xs))
def Od (t:TA):TE:=fun σ H Q=>t σ H fun xs H1=>xs.length≤sizeLine∧∀ p,H1 p=none→Q (.ref p) (upd H1 p (.lst xs))
theorem eo {x1} (h:PA X es t):PE X (.Tuple es x1 pos) (Oc t):=by
 intro pins s σ H Q I hq
 refine wpAny_Tuple_spliced (bZ (h pos pins s σ H _ I hq) fun us s1 ⟨xs,H1,I1,r,z,q⟩=>⟨by rw[←r.length];exact z,?_⟩)
 have hf:H1 s1.heap.objs.size=none:=I1.hok.fresh (Nat.le_refl _)
 refine⟨.ref s1.heap.objs.size,upd H1 s1.heap.objs.size (.tup xs),I1.laid (t':=s1.toks) (fun b u e=>Heap.get?_push_of_some _ e) (Nat.le_refl _) ?_,rfl,q _ hf⟩
 exact⟨z,us,r,⟨_,Heap.get?_push_size _ rfl,rfl,_,rfl⟩⟩
theorem bE (h:PA X es t):PE X (.List es pos) (Od t):=by
 intro pins s σ H Q I hq
 refine wpAny_List_spliced (bZ (h pos pins s σ H _ I hq) fun us s1 ⟨xs,H1,I1,r,z,q⟩=>⟨by rw[←r.length];exact z,?_⟩)
 have hf:H1 s1.heap.objs.size=none:=I1.hok.fresh (Nat.le_refl _)
 refine⟨.ref s1.heap.objs.size,upd H1 s1.heap.objs.size (.lst xs),I1.laid (t':=s1.toks) (fun b u e=>Heap.get?_push_of_some _ e) (Nat.le_refl _) ?_,rfl,q _ hf⟩
 exact⟨z,us,0,r,Heap.get?_push_size _ rfl⟩
end
abbrev Sp:=List V→Hp→VK→XK→Prop
abbrev Br:=List Env→Hp→Shared→XK→Value→Shared→Prop
structure uU (P:Program) (w:World) (K:W.Frag) (mg:Str→Option Value) (base:Heap) (A:Around) (outer:List Env) (s:Shared) (H:Hp):Prop where
 frames:A.frames=some outer
 mod:Mod K mg base
 bs:∀ b o,base.get? b=some o→s.heap.get? b=some o∧H b=none
 C6:base.objs.size≤s.heap.objs.size
 nI:s.heap.FunFrames base outer
 E3:∀ b∈frs outer,H b=none
 hok:nH P w H s.heap
 bare:AllBare s.gens
def CE (outer:List Env) (P:Program) (w:World) (H:Hp) (s:Shared) (Q:VK) (u:Value) (s':Shared):Prop :=
 ∃ v H',s'.os=s.os∧AllBare s'.gens∧Un (frs outer) [] H H' s.heap s'.heap∧nH P w H' s'.heap∧RelV v u∧Q v H'
def CR (CX:Br) (outer:List Env) (P:Program) (w:World) (H:Hp) (s:Shared) (Q:VK) (E:XK) (r:Result) (s':Shared):Prop :=
 match r with
 | .ok (.ret u)=>CE outer P w H s Q u s'
 | .ok _=>False
 | .error e=>CX outer H s E e s'
structure bf (P:Program) (w:World) (K:W.Frag) (mg:Str→Option Value) (base:Heap) (CX:Br) (k:Nat) (f:Addr) (fd:FuncData) (ps:List Str) (sp:Sp):Prop where
 len:∀ vs H Q E,sp vs H Q E→vs.length=ps.length
 run:∀(A:Around) (outer:List Env) (s:Shared) (H:Hp) (args:Args) (us:List Value) (vs:List V) (Q:VK) (E:XK),dX k A→uU P w K mg base A outer s H→BindsTo s fd args (ps.zip us)→Vals vs us→sp vs H Q E →
  codeAny (model P w) A (.call (.ref f) args) (CR CX outer P w H s Q E) s
theorem uU.make {P:Program}{w:World}{K:W.Frag}{mg:Str→Option Value}{base:Heap}{A:Around}{outer:List Env}{s:Shared}{H:Hp} (e:uU P w K mg base A outer s H) (C:Addr) (us:List Value) (kw:List (Str×Value)) :
 uU P w K mg base (A.under (.builtin "type.__call__" ⟨.ref C :: us,kw⟩)) outer s H:=⟨by first | exact e.frames | (simpa [Around.under,Code.envs,Code.isFrame,pushEnvs] using e.frames),e.mod,e.bs,e.C6,e.nI,e.E3,e.hok,e.bare⟩
section
variable {X:Cx}{pins:List (Addr×Obj)}{σ:St}{H:Hp}{s s':Shared}
theorem Inv.Dy (I:Inv X pins σ H s):uU X.prog X.w X.K X.mg X.base X.A X.stack s H :=
 ⟨I.ok.frames,I.ok.mod,I.bs,Nat.le_trans I.ok.C6 I.sz,I.stack,I.uO,I.hok,I.bare⟩
theorem Inv.after {Q:VK}{u:Value} (I:Inv X pins σ H s) (h:CE X.stack X.prog X.w H s Q u s'):EP X pins σ Q u s':=by
 obtain⟨v,H',os,bare,un,hok,r,q⟩:=h
 obtain⟨hh,g,d,t,os'⟩:=s'
 obtain rfl:os'=s.os:=os
 exact⟨v,H',I.call (h':=hh) (g':=g) (d':=d) (t':=t) (ch:=[]) un hok bare (fun b z=>absurd z (by simp)),r,q⟩
end
def AL (sp:Sp) (rq:List V) (E:XK) (t:TA):TE:=fun σ H Q=>t σ H fun vs H1=>sp (vs++rq) H1 Q E
def Kr (C:Addr) (sp:Sp) (rq:List V) (E:XK) (t:TA):TE:=fun σ H Q=>t σ H fun vs H1=>∀ x dx,H1 x=none→H1 dx=none→dx≠x →
 sp (.ref x :: (vs++rq)) (upd (upd H1 dx (.own x)) x (.ins C dx [])) (fun v H2=>v=.non∧Q (.ref x) H2) E
def Binds (K:W.Frag) (fd:FuncData) (ps:List Str) (ds:List Value):Prop :=
 ∀(s:Shared) (us:List Value),K.In s.heap→(us++ds).length=ps.length→BindsTo s fd ⟨us,[]⟩ (ps.zip (us++ds))
theorem Binds.all {K:W.Frag}{fd:FuncData}{ps:List Str} (h:∀ us:List Value,us.length=ps.length→bindArgs fd ⟨us,[]⟩=pure (ps.zip us)):Binds K fd ps []:=fun s us _ hl=>by
 rw[List.append_nil] at hl ⊢
 exact .of_eq (h us hl)
def Passes (CX:Br) (X:Cx) (E:XK):Prop:=∀(pins:List (Addr×Obj)) (σ:St) (H:Hp) (s:Shared) (e:Value) (s':Shared),Inv X pins σ H s→CX X.stack H s E e s'→X.xe e s'
section
variable {X:Cx}{CX:Br}{k:Nat}{f C:Addr}{fd:FuncData}{ps:List Str}{sp:Sp}{rq:List V}{ds:List Value}{E:XK}{x m:Str}{p pos apos:Pos}{e o:Expr}{es:List Expr}{ta:TE}{t:TA}
theorem HB {pins:List (Addr×Obj)}{σ:St}{H:Hp}{s:Shared}{Q:VK}{us:List Value}{vs:List V} (F:bf X.prog X.w X.K X.mg X.base CX k f fd ps sp) (hr:dX k X.A) (hb:Binds X.K fd ps ds) (hd:Vals rq ds) (hx:Passes CX X E)
  (I:Inv X pins σ H s) (r:Vals vs us) (h:sp (vs++rq) H Q E):wpAny (model X.prog X.w) X.A (call (.ref f) us) (EP X pins σ Q) X.xe s:=by
 have r2:Vals (vs++rq) (us++ds):=r.append hd
 have hl:(us++ds).length=ps.length:=by rw[←r2.length];exact F.len _ _ _ _ h
 refine wpAny_call (codeAny_mono (F.run X.A X.stack s H ⟨us,[]⟩ (us++ds) (vs++rq) Q E hr I.Dy (hb s us I.j4 hl) r2 h) fun r s' hq=>?_)
 cases r with
 | error e=>exact hx pins σ H s e s' I hq
 | ok fl =>
  cases fl with
  | ret u=>exact I.after hq
  | next=>exact False.elim hq
  | brk=>exact False.elim hq
  | cont=>exact False.elim hq
theorem rz (F:bf X.prog X.w X.K X.mg X.base CX k f fd ps sp) (hr:dX k X.A) (hg:Gl X x) (hm:X.mg x=some (.ref f)) (hk:W.keepIn X.K (.ref f)=true) (hb:Binds X.K fd ps ds) (hd:Vals rq ds) (hx:Passes CX X E)
  (ha:PA X (e :: es) t) (hdb:(x == ("__debug__" : Str))=false:=by decide) (he:starEach (e :: es) X.env=(false,eval e X.env) :: starEach es X.env:=by rfl) (hpl:(backTo pos (starEach es X.env)).any (·.1)=false:=by rfl) :
  PE X (.Call (.Name x p) (e :: es) [] pos) (AL sp rq E t):=by
 intro pins s σ H Q I h
 refine wpAny_Call_Name_kw (gB I hg hm ?_ hdb)
 refine W.callWith_K (h₀:=X.base) I.ok.mod.dw hk (bZ (ha pos pins s σ H _ I h) fun us s1 ⟨vs,H1,I1,r,q⟩=>⟨I1.j4,?_⟩) he hpl
 exact HB F hr hb hd hx I1 r q
structure Mk (K:W.Frag) (C f:Addr):Prop where
 makes:W.makesIn K C=true
 init:W.findIn K (.ref C) "__init__" = some (some (.ref f))
 fn:W.isFn K (.ref f)=true
 kp:W.keepIn K (.ref C)=true
theorem Dz {pins:List (Addr×Obj)}{σ:St}{H:Hp}{s:Shared}{Q:VK}{us:List Value}{vs:List V} (M:Mk X.K C f) (F:bf X.prog X.w X.K X.mg X.base CX k f fd ps sp) (hr:dX (k+1) X.A) (hb:Binds X.K fd ps ds) (hd:Vals rq ds)
  (hx:Passes CX X E) (I:Inv X pins σ H s) (r:Vals vs us)
  (h:∀ x dx,H x=none→H dx=none→dx≠x→sp (.ref x :: (vs++rq)) (upd (upd H dx (.own x)) x (.ins C dx [])) (fun v H2=>v=.non∧Q (.ref x) H2) E) :
  wpAny (model X.prog X.w) X.A (call (.ref C) us) (EP X pins σ Q) X.xe s:=by
 have hq:=h (s.heap.objs.size+1) s.heap.objs.size (I.hok.fresh (Nat.le_succ _)) (I.hok.fresh (Nat.le_refl _)) (Nat.ne_of_lt (Nat.lt_succ_self _))
 have I2:=Inv.made (C:=C) I
 have r2:Vals (V.ref (s.heap.objs.size+1) :: (vs++rq)) (Value.ref (s.heap.objs.size+1) :: (us++ds)):=.cons rfl (r.append hd)
 have hl:(Value.ref (s.heap.objs.size+1) :: us++ds).length=ps.length:=by
  have e:=r2.length
  rw[F.len _ _ _ _ hq] at e
  exact e.symm
 refine wpAny_call (Dv (f:=f) I.j4 M.makes M.init (beq_iff_eq.mp M.fn) (codeAny_mono (F.run _ X.stack _ _ ⟨Value.ref (s.heap.objs.size+1) :: us,[]⟩ (Value.ref (s.heap.objs.size+1) :: (us++ds)) _ _ E (hr.make C us [])
  (I2.Dy.make C us []) (hb _ (Value.ref (s.heap.objs.size+1) :: us) I2.j4 hl) r2 hq) fun r s' hq'=>?_))
 cases r with
 | error e=>exact hx pins σ _ _ e s' I2 hq'
 | ok fl =>
  cases fl with
  | ret u =>
   obtain⟨v,H',I3,rv,ev,q3⟩:=I2.after hq'
   subst ev
   exact⟨rv,⟨V.ref (s.heap.objs.size+1),H',I3,rfl,q3⟩⟩
  | next=>exact False.elim hq'
  | brk=>exact False.elim hq'
  | cont=>exact False.elim hq'
theorem Fw (M:Mk X.K C f) (F:bf X.prog X.w X.K X.mg X.base CX k f fd ps sp) (hr:dX (k+1) X.A) (hg:Gl X x) (hm:X.mg x=some (.ref C)) (hb:Binds X.K fd ps ds) (hd:Vals rq ds) (hx:Passes CX X E)
  (ha:PA X (e :: es) t) (hdb:(x == ("__debug__" : Str))=false:=by decide) (he:starEach (e :: es) X.env=(false,eval e X.env) :: starEach es X.env:=by rfl) (hpl:(backTo pos (starEach es X.env)).any (·.1)=false:=by rfl) :
  PE X (.Call (.Name x p) (e :: es) [] pos) (Kr C sp rq E t):=by
 intro pins s σ H Q I h
 refine wpAny_Call_Name_kw (gB I hg hm ?_ hdb)
 refine W.callWith_K (h₀:=X.base) I.ok.mod.dw M.kp (bZ (ha pos pins s σ H _ I h) fun us s1 ⟨vs,H1,I1,r,q⟩=>⟨I1.j4,?_⟩) he hpl
 exact Dz M F hr hb hd hx I1 r q
end
section
variable {X:Cx}{CX:Br}{k:Nat}{f C:Addr}{fd:FuncData}{ps ks:List Str}{sp:Sp}{E:XK}{x m:Str}{p pos apos kpos:Pos}{e o:Expr}{es:List Expr}{kws:List Keyword}{te ta:TE}{t tk:TA}{nm:Option Str}
variable {g:List Value→List Value→List Value}{gV:List V→List V→List V}
end
structure aT (N P:List Str) (sc:Scope):Prop where
 kind:sc.kind=.function
 co:sc.isCoroutine=false
 gen:sc.isGenerator=false
 nd:N.Nodup
 pre:N.take P.length=P
 par:∀ x∈P,sc.names.lookup x=some .local∨sc.names.lookup x=some .cell
 HC:∀ y∈sc.names,y.2≠.free
theorem uw {kindOf:Str→Option NameKind}{x:Str}:∀{binds:List (Str×Value)}{m:Str→Option Value},(∀ v,(x,v)∉binds)→bindL kindOf binds m x=m x
 | [],_,_=>rfl
 | (n,v) :: r,m,h=>by
  unfold bindL
  rw[uw fun w hw=>h w (List.mem_cons_of_mem _ hw)]
  split
  ·have:x≠n:=by rintro rfl;exact h v List.mem_cons_self
   simp[this]
  ·rfl
theorem ux {kindOf:Str→Option NameKind}{x:Str}:∀{binds:List (Str×Value)}{m:Str→Option Value},(∀ v,(x,v)∉binds)→bindC kindOf binds m x=m x
 | [],_,_=>rfl
 | (n,v) :: r,m,h=>by
  unfold bindC
  rw[ux fun w hw=>h w (List.mem_cons_of_mem _ hw)]
  split
  ·rfl
  ·have:x≠n:=by rintro rfl;exact h v List.mem_cons_self
   simp[this]
theorem uy {kindOf:Str→Option NameKind}{x:Str}{v:Value}:∀{P:List Str}{vs:List Value}{i:Nat}{m:Str→Option Value},P.Nodup→P[i]? = some x→vs[i]? = some v→kindOf x=some .local →
  bindL kindOf (P.zip vs) m x=some v
 | [],_,_,_,_,h,_,_=>by simp at h
 | _ :: _,[],_,_,_,_,h,_=>by simp at h
 | p :: P,w :: vs,0,m,nd,h1,h2,hk=>by
  simp at h1 h2;subst h1;subst h2
  show bindL kindOf ((p,w) :: P.zip vs) m p=_
  unfold bindL
  rw[uw fun v hv=>(List.nodup_cons.mp nd).1 (List.of_mem_zip hv).1,if_pos hk]
  simp
 | p :: P,w :: vs,i+1,m,nd,h1,h2,hk=>by
  show bindL kindOf ((p,w) :: P.zip vs) m x=_
  unfold bindL
  exact uy (i:=i) (List.nodup_cons.mp nd).2 (by simpa using h1) (by simpa using h2) hk
theorem uz {kindOf:Str→Option NameKind}{x:Str}{v:Value}:∀{P:List Str}{vs:List Value}{i:Nat}{m:Str→Option Value},P.Nodup→P[i]? = some x→vs[i]? = some v→kindOf x≠some .local →
  bindC kindOf (P.zip vs) m x=some v
 | [],_,_,_,_,h,_,_=>by simp at h
 | _ :: _,[],_,_,_,_,h,_=>by simp at h
 | p :: P,w :: vs,0,m,nd,h1,h2,hk=>by
  simp at h1 h2;subst h1;subst h2
  show bindC kindOf ((p,w) :: P.zip vs) m p=_
  unfold bindC
  rw[ux fun v hv=>(List.nodup_cons.mp nd).1 (List.of_mem_zip hv).1,if_neg hk]
  simp
 | p :: P,w :: vs,i+1,m,nd,h1,h2,hk=>by
  show bindC kindOf ((p,w) :: P.zip vs) m x=_
  unfold bindC
  exact uz (i:=i) (List.nodup_cons.mp nd).2 (by simpa using h1) (by simpa using h2) hk
def start (N:List Str) (vs:List V):St:=vs.map some++List.replicate (N.length - vs.length) none
def mP (CX:Br) (P:Program) (w:World) (K:W.Frag) (mg:Str→Option Value) (base:Heap) (N:List Str) (qual:Str) (scope:Scope) (f:Addr) (cd:Value) (A:Around) (outer:List Env) (s:Shared) (H:Hp) (E:XK):Cx where
 prog:=P
 w:=w
 K:=K
 mg:=mg
 base:=base
 A:=A.deeper (envOfC qual scope s.heap.objs.size f cd)
 N:=N
 s₀:=s
 H₀:=H
 env:=envOfC qual scope s.heap.objs.size f cd
 outer:=outer
 stack:=envOfC qual scope s.heap.objs.size f cd :: outer
 ex:=[]
 calm:=true
 fn:=fun _=>true
 pn:=[]
 xe:=fun e s'=>wpAny (model P w) (A.deeper (envOfC qual scope s.heap.objs.size f cd)) (leaving (envOfC qual scope s.heap.objs.size f cd) e) (fun _ s''=>CX outer H s E e s'') (fun e' s''=>CX outer H s E e' s'') s'
theorem wY {sc:Scope}{n:Nat}{x:Str} (h:sc.names.lookup x=some .cell):∃ c,(cellsFrom n sc.names []).lookup x=some c:=by
 have q:=W.cellsFrom_some sc.names n [] (.inl h)
 exact Option.isSome_iff_exists.mp q
theorem uA {CX:Br}{P:Program}{w:World}{K:W.Frag}{mg:Str→Option Value}{base:Heap}{N ps:List Str}{qual:Str}{scope:Scope}{f:Addr}{cd:Value}{A:Around}{outer:List Env}{s s1:Shared}{H:Hp}{E:XK}{us:List Value}{vs:List V}
  (S:aT N ps scope) (hd:A.handled=none) (e0:uU P w K mg base A outer s H) (hl:vs.length=ps.length) (r:Vals vs us)
  (x:InCallC s s.heap.objs.size (bindL (envOfC qual scope s.heap.objs.size f cd).kindOf (ps.zip us) fun _=>none) (cellsFrom (s.heap.objs.size+1) scope.names []) (bindC (envOfC qual scope s.heap.objs.size f cd).kindOf (ps.zip us) fun _=>none) s1) :
  Inv (mP CX P w K mg base N qual scope f cd A outer s H E) [] (start N vs) H s1:=by
 have hpl:ps.length≤N.length:=by have:=congrArg List.length S.pre;rw[List.length_take] at this;omega
 obtain⟨h1,tk,rfl,hk⟩:=x.done
 have Ks:∀ b:Addr,b∉(mP CX P w K mg base N qual scope f cd A outer s H E).ex:=fun b z=>absurd (show b∈([]:List Addr) from z) (by simp)
 refine⟨⟨e0.mod,S.kind,rfl,rfl,Nat.le_refl _,fun y z c h1 h2=>?_,fun y hy=>?_,fun y c _ h=>?_,fun _=>hd,Around.frames_deeper e0.frames,.inr ⟨rfl,rfl⟩,fun b z=>absurd z (Ks b),e0.bs,e0.C6,fun b _ _=>Ks b,fun b z=>absurd z (Ks b),e0.nI,e0.E3⟩,
  rfl,e0.bare,Un.kept hk,⟨_,x.toInCall.ns,fun i y v h1 h2 h3=>?_⟩,fun y c h=>⟨_,x.cell y c h⟩,e0.hok.fresh (Nat.le_refl _),fun y c h=>?_,fun p hp=>absurd (show p∈([]:List (Addr×Obj)) from hp) (by simp),e0.hok.kept hk,?_⟩
 ·exact name_of_addr x.apart (PySem.mem_of_lookup h1) (PySem.mem_of_lookup h2)
 ·have hy:scope.names.lookup y=some .cell∨scope.names.lookup y=some .free:=hy
  rcases hy with hy | hy
  ·exact wY hy
  ·exact absurd rfl (S.HC _ (PySem.mem_of_lookup hy))
 ·exact Nat.le_of_lt (x.above y c (PySem.mem_of_lookup h))
 ·have hi:i < vs.length:=by
   unfold start at h2
   by_cases hi:i < vs.length
   ·exact hi
   ·rw[List.getElem?_append_right (by simpa using hi)] at h2
    rw[List.getElem?_replicate] at h2
    split at h2 <;> cases h2
  have ha:vs[i]? = some v:=by
   unfold start at h2
   rw[List.getElem?_append_left (by simpa using hi),List.getElem?_map] at h2
   cases e:vs[i]? with
   | none=>rw[e] at h2;cases h2
   | some a=>rw[e] at h2;cases h2;rfl
  obtain⟨u,hu,rv⟩:=r.get ha
  have hp:ps[i]? = some y:=by
   rw[←S.pre,List.getElem?_take_of_lt (by omega)];exact h1
  have Rg:ps.Nodup:=by rw[←S.pre];exact S.nd.sublist (List.take_sublist _ _)
  refine⟨u,rv,?_⟩
  rcases S.par y (List.mem_of_getElem? hp) with k | k
  ·exact .inl ⟨k,uy Rg hp hu k⟩
  ·obtain⟨c,e⟩:=wY (n:=s.heap.objs.size+1) k
   refine .inr ⟨.inl k,c,e,?_⟩
   have q:=x.cell y c e
   rw[uz Rg hp hu (by show scope.names.lookup y≠_;rw[k];decide)] at q
   exact q
 ·exact e0.hok.fresh (Nat.le_of_lt (x.above y c (PySem.mem_of_lookup h)))
 ·unfold start
  show _=N.length
  rw[List.length_append,List.length_map,List.length_replicate]
  omega
theorem DA {CX:Br}{P:Program}{w:World}{K:W.Frag}{mg:Str→Option Value}{base:Heap}{k:Nat}{f:Addr}{name qual:Str}{params:Arguments}{body:List Stmt}{scope:Scope}{dV kV doc pm cdv ct oc:Value}{an od:Option Addr}
  {osl:Array (Option Value)}{N ps:List Str}{sp:Sp} (lk:K.lookup f=some ⟨oc,od,.func (W.fnOf name qual params body scope dV kV doc pm an cdv ct),osl⟩) (hcd:W.codeIn K cdv qual=true) (S:aT N ps scope)
  (len:∀ vs H Q E,sp vs H Q E→vs.length=ps.length)
  (hbody:∀(A:Around) (outer:List Env) (s:Shared) (H:Hp) (vs:List V) (Q:VK) (E:XK),dX k (A.deeper (envOfC qual scope s.heap.objs.size f cdv))→sp vs H Q E →
   ∃ t,wO (mP CX P w K mg base N qual scope f cdv A outer s H E) body t∧t { nx:=fun _ H'=>Q .non H',rt:=Q } (start N vs) H) :
  bf P w K mg base CX (k+1) f (W.fnOf name qual params body scope dV kV doc pm an cdv ct) ps sp:=by
 refine⟨len,fun A outer s H args us vs Q E hr e0 hb r yT=>?_⟩
 have hl:=len _ _ _ _ yT
 have KX:K.In s.heap:=e0.mod.dw.keeps fun b o e=>(e0.bs b o e).1
 have lim:s.heap.NoLimit:=e0.mod.nolimit.keeps fun b o e=>(e0.bs b o e).1
 have hkind:∀ y∈ps.zip us,scope.names.lookup y.1=some .local∨(scope.names.lookup y.1=some .cell∧((cellsFrom (s.heap.objs.size+1) scope.names []).lookup y.1).isSome=true):=fun ⟨n,v⟩ hy=>by
  rcases S.par n (List.of_mem_zip hy).1 with q | q
  ·exact .inl q
  ·exact .inr ⟨q,W.cellsFrom_some _ _ _ (.inl q)⟩
 refine codeAny_call_function hr.depth (KX _ _ lk) rfl S.co S.gen rfl (W.codeRec_of KX hcd) (hb _ _ _ _ ?_)
 refine wpAny_newFunctionEnv_cells S.kind hkind fun env he s1 x=>?_
 subst he
 refine⟨lim.keeps x.toInCall.keep,codeAny_func ?_⟩
 obtain⟨t,ht,hq⟩:=hbody A outer s H vs Q E (hr.deeper _) yT
 have I:Inv (mP CX P w K mg base N qual scope f cdv A outer s H E) [] (start N vs) H s1:=uA S hr.hd e0 hl r x
 refine wpAny_mono (ht [] s1 (start N vs) H _ I hq) (fun fl s' hs=>?_) fun e s' hs=>hs
 have fin:∀{σ':St}{H':Hp}{v:V}{u:Value},Inv (mP CX P w K mg base N qual scope f cdv A outer s H E) [] σ' H' s'→RelV v u→Q v H'→CE outer P w H s Q u s' :=
  fun {σ' H' v u} J rv q=>⟨v,H',J.os,J.bare,J.base,J.hok,rv,q⟩
 cases fl with
 | ret u =>
  obtain⟨v,σ',H',J,rv,q⟩:=hs
  exact fin J rv q
 | next =>
  obtain⟨σ',H',J,q⟩:=hs
  exact fin (v:=V.non) (u:=Value.none) J rfl q
 | brk =>
  obtain⟨_,_,_,q⟩:=hs
  exact False.elim q
 | cont =>
  obtain⟨_,_,_,q⟩:=hs
  exact False.elim q
section
variable {X:Cx}{x:Str}{p pos:Pos}{e:Expr}{es:List Expr}{t:TA}{id T:String}{r:List V→Hp→VK→Prop}
def Nm (r:List V→Hp→VK→Prop) (t:TA):TE:=fun σ H Q=>t σ H fun vs H1=>r vs H1 Q
theorem DB (hc:gH X (.builtin id) r) (hg:Gl X x) (hm:X.mg x=none) (hv:bootBuiltins x=some (.builtin id)) (ha:PA X (e :: es) t) (hn:x ≠ "__name__" := by decide) (hdb:(x == ("__debug__" : Str))=false:=by decide)
  (he:starEach (e :: es) X.env=(false,eval e X.env) :: starEach es X.env:=by rfl) (hpl:(backTo pos (starEach es X.env)).any (·.1)=false:=by rfl):PE X (.Call (.Name x p) (e :: es) [] pos) (Nm r t):=by
 intro pins s σ H Q I h
 refine wpAny_Call_Name_kw (rL I hg hm hv ?_ hn hdb)
 exact PyProof.Rows.callWith_builtin1 (bZ (ha pos pins s σ H _ I h) fun us s1 ⟨vs,H1,I1,r1,q1⟩=>hc pins s1 σ H1 vs us Q I1 r1 q1) he hpl
theorem Bs (hc:gH X (.type T) r) (hg:Gl X x) (hm:X.mg x=none) (hv:bootBuiltins x=some (.type T)) (ha:PA X (e :: es) t) (hn:x ≠ "__name__" := by decide) (hdb:(x == ("__debug__" : Str))=false:=by decide)
  (he:starEach (e :: es) X.env=(false,eval e X.env) :: starEach es X.env:=by rfl) (hpl:(backTo pos (starEach es X.env)).any (·.1)=false:=by rfl):PE X (.Call (.Name x p) (e :: es) [] pos) (Nm r t):=by
 intro pins s σ H Q I h
 refine wpAny_Call_Name_kw (rL I hg hm hv ?_ hn hdb)
 exact PyProof.Rows.callWith_type1 (bZ (ha pos pins s σ H _ I h) fun us s1 ⟨vs,H1,I1,r1,q1⟩=>hc pins s1 σ H1 vs us Q I1 r1 q1) he hpl
end
end L2
namespace HT
open PySem PyProof.Rows
section
open PySem.SeqAt
open PySem.AutoSeq1 (wpAny_loadPart')
open PySem.MeetsSeq PySem.MeetsSeq2 PySem.MeetsSeq3
end
section
variable {prog:Program}{w:World}{A:Around}{E:Value→Shared→Prop}{s:Shared}
theorem Fx {t b:Addr}{vs ws:List Value}{Q:Value→Shared→Prop} (ht:IsTup s.heap t vs.toArray) (hb:IsTup s.heap b ws.toArray) (hv:vs≠[])
  (h1:ws=[]→Q (.ref t) s) (h2:ws≠[]→Q (.ref s.heap.objs.size) { s with heap:=s.heap.push { cls:=.type "tuple",data:=.seq (vs++ws).toArray } })
  (hsz:vs.length+ws.length≤sizeLine):wpAny (model prog w) A (binaryOp .Add (.ref t) (.ref b)) Q E s:=by
 obtain⟨⟨cls,dd,data,sl⟩,ho,hc,n,hd⟩:=id ht
 obtain⟨⟨TV,dd2,data2,sl2⟩,ho2,hc2,n2,hd2⟩:=id hb
 simp only at hc hd hc2 hd2
 subst hc hd hc2 hd2
 have e:vs.toArray++ws.toArray=(vs++ws).toArray:=by simp
 by_cases hw:ws=[]
 ·exact concat_meets ⟨_,ho,rfl⟩ ⟨_,ho2,rfl⟩ noFill_tuple_add seq_tuple_add PySem.F.slot_tuple_add PySem.F.entry_tuple_add (PySem.F.args_tuple_add_2 _ _)
   (tuple_addW1 t b vs.toArray ws.toArray n n2 dd dd2 sl sl2 (by simpa using hv) (by simp[hw])) ⟨ho,ho2,h1 hw⟩
 ·refine concat_meets ⟨_,ho,rfl⟩ ⟨_,ho2,rfl⟩ noFill_tuple_add seq_tuple_add PySem.F.slot_tuple_add PySem.F.entry_tuple_add (PySem.F.args_tuple_add_2 _ _)
   (tuple_addW2 t b vs.toArray ws.toArray n n2 dd dd2 sl sl2 (by simpa using hv) (by simpa using hw) (by rw[List.size_toArray,List.size_toArray];exact hsz)) ⟨ho,ho2,?_⟩
  rw[e]
  exact h2 hw
def gh (n d:Nat):Option Int→Nat
 | none=>d
 | some v=>if v < 0 then (v+(n:Int)).toNat else min v.toNat n
theorem HD (n d:Nat) (hd:d≤n) (o:Option Int):gh n d o≤n:=by
 cases o with
 | none=>exact hd
 | some v =>
  show(if v < 0 then (v+(n:Int)).toNat else min v.toNat n)≤n
  by_cases hv:v < 0
  ·rw[if_pos hv];omega
  ·rw[if_neg hv];exact Nat.min_le_right _ _
theorem AM (v:Int) (n d:Nat):(if v < 0 then max (v+(n:Int)) 0 else min v (n:Int))=((gh n d (some v):Nat):Int):=by
 show(if v < 0 then max (v+(n:Int)) 0 else min v (n:Int))=(((if v < 0 then (v+(n:Int)).toNat else min v.toNat n):Nat):Int)
 by_cases hv:v < 0
 ·simp only[if_pos hv];omega
 ·simp only[if_neg hv];omega
theorem yU (lo hi:Option Int) (n:Nat):Builtin.Slice.sliceAdjust lo hi 1 (n:Int)=(((gh n 0 lo:Nat):Int),((gh n n hi:Nat):Int)):=by
 have h1:¬((1:Int) < 0):=by omega
 unfold Builtin.Slice.sliceAdjust
 simp only[h1,if_false]
 refine Prod.ext ?_ ?_
 ·cases lo with
  | none=>rfl
  | some v=>exact AM v n 0
 ·cases hi with
  | none=>rfl
  | some v=>exact AM v n n
theorem yV (i j:Nat):Builtin.Slice.slicePlaces (i:Int) (j:Int) 1=j - i:=by
 unfold Builtin.Slice.slicePlaces
 have h1:(1:Int) > 0:=by omega
 simp only[h1,if_true,Int.ediv_one]
 split <;> omega
theorem rQ {v:Value}{o:Option Int}{Q:Option Int→Shared→Prop} (p:IsPart v o) (h:Q o s):wpAny (model prog w) A (Builtin.Slice.slicePartIndex v) Q E s:=by
 cases p with
 | none=>exact slicePart_none h
 | int i t=>exact slicePart_int h
theorem pQ {sl:Addr}{vl vu:Value}{lo hi:Option Int}{n:Nat}{Q:Int×Int×Nat→Shared→Prop} (hs:s.heap.IsSliceOf sl vl vu .none) (pl:IsPart vl lo) (pu:IsPart vu hi)
  (h:Q (((gh n 0 lo:Nat):Int),1,gh n n hi - gh n 0 lo) s):wpAny (model prog w) A (Builtin.Slice.sliceApplied (.ref sl) (pure (n:Int))) Q E s:=by
 obtain⟨os,hos,hcs,hds⟩:=id hs
 unfold Builtin.Slice.sliceApplied Builtin.Slice.sliceFields
 refine wpAny_bind (wpAny_bind (wpAny_field hos hds (x:=vl) rfl (wpAny_bind (wpAny_field hos hds (x:=vu) rfl (wpAny_bind (wpAny_field hos hds (x:=.none) rfl (wpAny_pure ?_)))))))
 refine wpAny_bind (slicePart_none ?_)
 show wpAny _ _ (if ((1:Int) == 0)=true then _ else _) _ _ s
 rw[if_neg (by decide)]
 refine wpAny_bind (rQ pl (wpAny_bind (rQ pu (wpAny_bind (wpAny_pure ?_)))))
 show wpAny _ _ (match Builtin.Slice.sliceAdjust lo hi 1 (n:Int) with | (lo,hi)=>pure (lo,(1:Int),Builtin.Slice.slicePlaces lo hi 1)) _ _ s
 rw[yU lo hi n]
 show wpAny _ _ (pure (((gh n 0 lo:Nat):Int),(1:Int),Builtin.Slice.slicePlaces ((gh n 0 lo:Nat):Int) ((gh n n hi:Nat):Int) 1)) _ _ s
 rw[yV]
 exact wpAny_pure h
theorem DC (xs:Array Value) (i k:Nat):((List.range k).filterMap fun (m:Nat)=>xs[((i:Int)+(m:Int) * 1).toNat]?).toArray=((xs.toList.drop i).take k).toArray:=by
 have e:(fun (m:Nat)=>xs[((i:Int)+(m:Int) * 1).toNat]?)=fun m=>xs[i+m]? := by
  funext m
  have:((i:Int)+(m:Int) * 1).toNat=i+m:=by omega
  rw[this]
 rw[e]
 have:=pick_run xs i k
 rw[List.filterMap_map] at this
 have e2:((fun x=>xs[x]?) ∘ fun x=>i+x)=fun m=>xs[i+m]? := rfl
 rw[e2] at this
 rw[this]
theorem oz {t sl:Addr}{items:Array Value}{vl vu:Value}{lo hi:Option Int}{Q:Value→Shared→Prop} (ht:IsTup s.heap t items) (hs:s.heap.IsSliceOf sl vl vu .none) (pl:IsPart vl lo) (pu:IsPart vu hi)
  (hw:¬(gh items.size 0 lo=0∧gh items.size items.size hi=items.size))
  (h:Q (.ref s.heap.objs.size) { s with heap:=s.heap.push { cls:=.type "tuple",data:=.seq ((items.toList.drop (gh items.size 0 lo)).take (gh items.size items.size hi - gh items.size 0 lo)).toArray } })
  (hsz:items.size≤sizeLine):wpAny (model prog w) A (getItem (.ref t) (.ref sl)) Q E s:=by
 have AO:sizeOk (.seq ((items.toList.drop (gh items.size 0 lo)).take (gh items.size items.size hi - gh items.size 0 lo)).toArray):=by
  show((items.toList.drop (gh items.size 0 lo)).take (gh items.size items.size hi - gh items.size 0 lo)).toArray.size≤sizeLine
  rw[List.size_toArray,List.length_take,List.length_drop,Array.length_toList]
  omega
 have hj:gh items.size items.size hi≤items.size:=HD _ _ (Nat.le_refl _) hi
 obtain⟨os,hos,hcs,hds⟩:=id hs
 have TX:s.TypeIs (.ref sl) "slice" := ⟨os,hos,hcs⟩
 unfold getItem
 try with_reducible refine wpAny_holding ?_
 first | refine wpAny_bind (wpAny_pure ?_) | skip
 refine wpAny_bind (wpAny_sequenceKey ht.typeIs (by decide) ?_)
 refine wpAny_bind (wpAny_callSpecial?_slot (name:=Str.ofString "__getitem__") ht.typeIs PyProof.Rows.slot_tuple_getitem
  (wpAny_call_entry PyProof.Rows.slot_tuple_getitem ht.typeIs entry_tuple_getitem ?_ (args_tuple_getitem _ _)))
 show wpAny _ _ (Builtin.Tuple.tupleItemsOf (.ref t) >>= _) _ _ s
 refine wpAny_bind (tupleItemsOf_ ht ?_)
 refine wpAny_bind (wpAny_typeOf TX ?_)
 rw[if_pos (by decide)]
 refine wpAny_bind (pQ hs pl pu ?_)
 have hno:¬((((gh items.size 0 lo:Nat):Int) == 0 && (1:Int) == 1 && (gh items.size items.size hi - gh items.size 0 lo) == items.size)=true):=by
  intro q
  rw[Bool.and_eq_true,Bool.and_eq_true] at q
  have q1:((gh items.size 0 lo:Nat):Int)=0:=eq_of_beq q.1.1
  have q2:gh items.size items.size hi - gh items.size 0 lo=items.size:=eq_of_beq q.2
  exact hw ⟨by omega,by omega⟩
 show wpAny _ _ (if (((gh items.size 0 lo:Nat):Int) == 0 && (1:Int) == 1 && (gh items.size items.size hi - gh items.size 0 lo) == items.size)=true then _ else _) _ _ s
 rw[if_neg hno,DC]
 first
  | exact wpAny_bind (m:=Builtin.Tuple.tupleExact _) (wpAny_newObj_type (wpAny_pure ⟨_,rfl,wpAny_pure h⟩) AO)
  | exact wpAny_bind (m:=Builtin.Tuple.tupleExact _) (wpAny_newObj_type (wpAny_bind (wpAny_pure (wpAny_pure ⟨_,rfl,wpAny_pure h⟩))) AO)
  | exact wpAny_bind (wpAny_bind (m:=Builtin.Tuple.tupleExact _) (wpAny_newObj_type (wpAny_pure (wpAny_pure ⟨_,rfl,wpAny_pure h⟩)) AO))
  | exact wpAny_bind (wpAny_bind (m:=Builtin.Tuple.tupleExact _) (wpAny_newObj_type (wpAny_pure ⟨_,rfl,wpAny_pure h⟩) AO))
end
end HT
namespace L2
open PySem PySem.Spec PyProof.Rows
abbrev TO:=St→Hp→(Option Int→Hp→Prop)→Prop
def PO (X:Cx) (e:Option Expr) (t:TO):Prop :=
 ∀(pins:List (Addr×Obj)) (s:Shared) (σ:St) (H:Hp) (Q:Option Int→Hp→Prop),Inv X pins σ H s→t σ H Q →
  wpAny (model X.prog X.w) X.A (evalPart e X.env) (fun u s'=>∃ o H',Inv X pins σ H' s'∧IsPart u o∧Q o H') X.xe s
def Fy:TO:=fun _ H Q=>Q none H
def Ku (t:TE):TO:=fun σ H Q=>t σ H fun x H1=>∃ i,x=.int i∧Q (some i) H1
section
variable {X:Cx}{e:Expr}{te:TE}{lo hi:Option Expr}{tl th:TO}{pos p2:Pos}
theorem jf:PO X none Fy:=by
 intro pins s σ H Q I h
 rw[evalPart_none]
 exact wpAny_pure ⟨none,H,I,.none,h⟩
theorem jg (h:PE X e te):PO X (some e) (Ku te):=by
 intro pins s σ H Q I hw
 rw[evalPart_some]
 refine bZ (h pins s σ H _ I hw) fun u s1 ⟨x,H1,I1,r1,q1⟩=>?_
 obtain⟨i,rfl,q⟩:=q1
 obtain⟨t,rfl⟩:=r1
 exact⟨some i,H1,I1,.int i t,q⟩
def Kv (X:Cx) (r:V→Option Int→Option Int→Hp→VK→Prop):Prop :=
 ∀(pins:List (Addr×Obj)) (s:Shared) (σ:St) (H:Hp) (x:V) (v vl vu:Value) (lo hi:Option Int) (sl:Addr) (Q:VK),Inv X pins σ H s→RelV x v→s.heap.IsSliceOf sl vl vu .none→IsPart vl lo→IsPart vu hi→r x lo hi H Q →
  ∃ T id,typeLookup (.type T) "__getitem__" = pure (some (.builtin id))∧s.TypeIs v T∧wpAny (model X.prog X.w) X.A (getItem v (.ref sl)) (EP X pins σ Q) X.xe s
def TY (r:V→Option Int→Option Int→Hp→VK→Prop) (te:TE) (tl th:TO):TE:=fun σ H Q=>te σ H fun x H1=>tl σ H1 fun l H2=>th σ H2 fun u H3=>r x l u H3 Q
theorem gK {r:V→Option Int→Option Int→Hp→VK→Prop} (hr:Kv X r) (he:PE X e te) (hl:PO X lo tl) (hu:PO X hi th):PE X (.Subscript e (.Slice lo hi none p2) pos) (TY r te tl th):=by
 intro pins s σ H Q I h
 refine Subscript_ (bZ (he pins s σ H _ I h) fun v s1 ⟨x,H1,I1,r1,q1⟩=>?_)
 refine wpAny_Slice (bZ (hl pins s1 σ H1 _ I1 q1) fun vl s2 ⟨l,H2,I2,pl,q2⟩=>bZ (hu pins s2 σ H2 _ I2 q2) fun vu s3 ⟨u,H3,I3,pu,q3⟩=>?_)
 rw[evalPart_none]
 refine wpAny_pure ?_
 have I4:Inv X pins σ H3 { s3 with heap:=s3.heap.push { cls:=.type "slice",data:=.fields #[vl,vu,.none] } }:=I3.kept (t':=s3.toks) fun b ob q=>Heap.get?_push_of_some _ q
 obtain⟨T,id,hT,ht,hg⟩:=hr pins { s3 with heap:=s3.heap.push { cls:=.type "slice",data:=.fields #[vl,vu,.none] } } σ H3 x v vl vu l u s3.heap.objs.size Q I4 r1 (Heap.IsSliceOf.new ..) pl pu q3
 show wpAny (model X.prog X.w) X.A (subscriptTail e (.Slice lo hi none p2) v (.ref s3.heap.objs.size)) (EP X pins σ Q) X.xe { s3 with heap:=s3.heap.push { cls:=.type "slice",data:=.fields #[vl,vu,.none] } }
 exact tail_any (ops:=[.ref s3.heap.objs.size,v]) ht hT hg (by with_unfolding_all rfl)
def cR (xs:List V) (lo hi:Option Int):List V:=(xs.drop (HT.gh xs.length 0 lo)).take (HT.gh xs.length xs.length hi - HT.gh xs.length 0 lo)
theorem jh (xs:List V) (lo hi:Option Int):(cR xs lo hi).length≤xs.length:=by
 unfold cR
 rw[List.length_take,List.length_drop]
 omega
def Kw (K:W.Frag):V→Option Int→Option Int→Hp→VK→Prop:=fun x lo hi H Q=>∃ a xs,x=.ref a∧iN K H a xs ∧
 ¬(HT.gh xs.length 0 lo=0∧HT.gh xs.length xs.length hi=xs.length)∧∀ p,H p=none→Q (.ref p) (upd H p (.tup (cR xs lo hi)))
theorem HE:Kv X (Kw X.K):=by
 intro pins s σ H x v vl vu lo hi sl Q I rx hs pl pu h
 obtain⟨a,xs,rfl,hx,hw,q⟩:=h
 cases rx
 obtain⟨its,r,ht,hz⟩:=I.tuple hx
 have hlen:its.toArray.size=xs.length:=by rw[List.size_toArray];exact r.length.symm
 refine⟨"tuple",_,PyProof.Rows.slot_tuple_getitem.lookup,ht.typeIs,?_⟩
 refine HT.oz ht hs pl pu (by rw[hlen];exact hw) ?_ (by rw[hlen];exact hz)
 rw[hlen]
 refine⟨.ref s.heap.objs.size,_,I.laid (t':=s.toks) (o:=.tup (cR xs lo hi)) (fun b ob q=>Heap.get?_push_of_some _ q) (Nat.le_refl _) ?_,rfl,q _ (I.hok.fresh (Nat.le_refl _))⟩
 exact⟨Nat.le_trans (jh xs lo hi) hz,_,(r.drop (HT.gh xs.length 0 lo)).take (HT.gh xs.length xs.length hi - HT.gh xs.length 0 lo),IsTup.new _ _⟩
def GR (K:W.Frag):R2:=fun x y H Q=>∃ a b xs ys,x=.ref a∧y=.ref b∧iN K H a xs∧iN K H b ys∧xs≠[]∧xs.length+ys.length≤sizeLine ∧
 (ys=[]→Q (.ref a) H)∧(ys≠[]→∀ p,H p=none→Q (.ref p) (upd H p (.tup (xs++ys))))
theorem Vals.uV {xs:List V}{us:List Value} (r:Vals xs us):us=[]↔xs=[]:=by
 cases r with
 | nil=>simp
 | cons _ _=>simp
theorem Fz:pH X (binaryOp .Add) (GR X.K):=by
 intro pins s σ H x y v u Q I rx ry h
 obtain⟨a,b,xs,ys,rfl,rfl,ha,hb,hx,hz,q1,q2⟩:=h
 cases rx
 cases ry
 obtain⟨its,r1,p1,_⟩:=I.tuple ha
 obtain⟨its2,r2,p2,_⟩:=I.tuple hb
 refine HT.Fx p1 p2 (fun z=>hx (r1.uV.mp z)) (fun z=>⟨.ref a,H,I,rfl,q1 (r2.uV.mp z)⟩) (fun z=>?_) (by rw[←r1.length,←r2.length];exact hz)
 refine⟨.ref s.heap.objs.size,_,I.laid (t':=s.toks) (o:=.tup (xs++ys)) (fun b ob q=>Heap.get?_push_of_some _ q) (Nat.le_refl _) ?_,rfl,q2 (fun w=>z (r2.uV.mpr w)) _ (I.hok.fresh (Nat.le_refl _))⟩
 exact⟨by rw[List.length_append];exact hz,_,r1.append r2,IsTup.new _ _⟩
end
def C7 (n:Nat) (i:Int):Option Nat:=if 0≤i then (if i < n then some i.toNat else none) else if -(n:Int)≤i then some (i+n).toNat else none
def AQ {α:Type} (xs:List α) (i:Int):Option α:=(C7 xs.length i).bind fun j=>xs[j]?
theorem AR {n:Nat}{i:Int}{j:Nat} (h:C7 n i=some j):seqIndex? i n=some j∧j < n∧-(n:Int)≤i∧i < n:=by
 unfold C7 at h
 by_cases h0:0≤i
 ·rw[if_pos h0] at h
  by_cases h1:i < n
  ·rw[if_pos h1] at h
   have e:i.toNat=j:=Option.some.inj h
   exact⟨by rw[seqIndex_of h0 h1,e],by omega,by omega,h1⟩
  ·rw[if_neg h1] at h;cases h
 ·rw[if_neg h0] at h
  by_cases h1 : -(n:Int)≤i
  ·rw[if_pos h1] at h
   have e:(i+n).toNat=j:=Option.some.inj h
   exact⟨by rw[seqIndex_neg (by omega) h1,e],by omega,h1,by omega⟩
  ·rw[if_neg h1] at h;cases h
theorem uW {α:Type}{xs:List α}{i:Int}{v:α} (h:AQ xs i=some v):∃ j,seqIndex? i xs.length=some j∧xs[j]? = some v∧j < xs.length∧-(xs.length:Int)≤i∧i < xs.length:=by
 unfold AQ at h
 cases e:C7 xs.length i with
 | none=>rw[e] at h;cases h
 | some j =>
  rw[e] at h
  obtain⟨h1,h2,h3,h4⟩:=AR e
  exact⟨j,h1,h,h2,h3,h4⟩
theorem FA {α:Type}{xs:List α}{j:Nat}{v:α} (h:xs[j]? = some v):AQ xs (j:Int)=some v:=by
 have hj:j < xs.length:=(List.getElem?_eq_some_iff.mp h).1
 have e:C7 xs.length (j:Int)=some j:=by
  unfold C7
  rw[if_pos (by omega),if_pos (by omega)];simp
 unfold AQ;rw[e];exact h
def uX (b:Expr):Prop:=∀ o i,subscripted b false o i=operate [o,i] (getItem o i)
def JE (X:Cx) (r:R2):Prop :=
 ∀(value slice:Expr) (pins:List (Addr×Obj)) (s:Shared) (σ:St) (H:Hp) (x y:V) (v u:Value) (Q:VK),Inv X pins σ H s→RelV x v→RelV y u→r x y H Q →
  subscripted slice false v u=operate [v,u] (getItem v u)→wpAny (model X.prog X.w) X.A (subscriptTail value slice v u) (EP X pins σ Q) X.xe s
def Ky (X:Cx) (id:String) (r:V→List V→Hp→VK→Prop):Prop :=
 ∀(pins:List (Addr×Obj)) (s:Shared) (σ:St) (H:Hp) (x:V) (xs:List V) (v:Value) (us:List Value) (Q:VK),Inv X pins σ H s→RelV x v→Vals xs us→r x xs H Q →
  wpAny (model X.prog X.w) X.A (call (.builtin id) (v :: us)) (EP X pins σ Q) X.xe s
section
variable {X:Cx}{a b:Expr}{ta tb:TE}{pos:Pos}
theorem DE {r:R2} (hr:JE X r) (ha:PE X a ta) (hb:PE X b tb) (hs:uX b):PE X (.Subscript a b pos) (E5 r ta tb):=by
 intro pins s σ H Q I h
 exact Subscript_ (HA ha hb I h fun v u s2 x y H2 I2 rx ry q=>hr a b pins s2 σ H2 x y v u Q I2 rx ry q (hs _ _))
def HF (K:W.Frag):R2:=fun x y H Q=>∃ p xs i v,x=.ref p∧y=.int i∧aS K H p xs∧AQ xs i=some v∧Q v H
def HG (K:W.Frag):R2:=fun x y H Q=>∃ p xs i v,x=.ref p∧y=.int i∧iN K H p xs∧AQ xs i=some v∧Q v H
def Oe:R2:=fun x y H Q=>∃ z i c,x=.str z∧y=.int i∧z.length≤sizeLine∧AQ z.cps.toList i=some c∧Q (.str ⟨#[c]⟩) H
theorem FD:JE X (HF X.K):=by
 intro value slice pins s σ H x y v u Q I rx ry h hs
 obtain⟨p,xs,i,z,rfl,rfl,hq,he,q⟩:=h
 cases rx
 obtain⟨t,rfl⟩:=ry
 obtain⟨its,r,pl,hz⟩:=I.list hq
 obtain⟨j,h1,h2,h3,h4,h5⟩:=uW he
 obtain⟨w,ew,rw'⟩:=r.get h2
 have hl:=r.length
 have hn:=pO
 have fin:EP X pins σ Q w s:=⟨z,H,I,rw',q⟩
 by_cases h0:0≤i
 ·have hj:i.toNat=j:=by
   rw[seqIndex_of h0 h5] at h1
   exact Option.some.inj h1
  exact item_listR pl.isList h0 (by omega) (by rw[hj];simpa using ew) fin hs
 ·have hj:(i+(its.toArray.size:Int)).toNat=j:=by
   rw[seqIndex_neg (by omega) h4] at h1
   rw[List.size_toArray,←hl]
   exact Option.some.inj h1
  exact subscriptTail_builtinR (x:=w) pl.isList.typeIs slot_list_getitem.lookup
   (wpAny_getItem_list_neg (Q:=fun r s'=>r=w∧EP X pins σ Q r s') pl.isList (by omega) (by rw[List.size_toArray] <;> omega) (by omega) (by rw[hj];simpa using ew) ⟨rfl,fin⟩) hs
theorem HH:JE X (HG X.K):=by
 intro value slice pins s σ H x y v u Q I rx ry h hs
 obtain⟨p,xs,i,z,rfl,rfl,hq,he,q⟩:=h
 cases rx
 obtain⟨t,rfl⟩:=ry
 obtain⟨its,r,pl,hz⟩:=I.tuple hq
 obtain⟨j,h1,h2,h3,h4,h5⟩:=uW he
 obtain⟨w,ew,rw'⟩:=r.get h2
 have hl:=r.length
 have hn:=pO
 have fin:EP X pins σ Q w s:=⟨z,H,I,rw',q⟩
 exact subscriptTail_builtinR (x:=w) pl.typeIs slot_tuple_getitem.lookup
  (getItem_tuple (j:=j) (Q:=fun r s'=>r=w∧EP X pins σ Q r s') pl (by omega) (by omega) (by rw[List.size_toArray,←hl];exact h1) (by simpa using ew) ⟨rfl,fin⟩) hs
theorem HJ:JE X Oe:=by
 intro value slice pins s σ H x y v u Q I rx ry h hs
 obtain⟨z,i,c,rfl,rfl,hz,he,q⟩:=h
 obtain⟨t,rfl⟩:=rx
 obtain⟨t',rfl⟩:=ry
 obtain⟨j,h1,h2,h3,h4,h5⟩:=uW he
 have hl:z.cps.toList.length=z.length:=by simp[Str.length]
 rw[hl] at h1 h4 h5
 have hn:=pO
 exact tail_any (typeIs_str s z t) slot_str_getitem.lookup (getItem_str (c:=c) (by
  have e1:decide (i < -(2 ^ 63:Int))=false:=decide_eq_false (by omega)
  have e2:decide (i≥2 ^ 63)=false:=decide_eq_false (by omega)
  rw[e1,e2,Bool.or_false]) (by rw[h1];simpa using h2) ⟨.str ⟨#[c]⟩,H,I.tok _,⟨_,rfl⟩,q⟩) hs
theorem yW (its:List Value) (n j:Nat) (u:Value):Obj.mapSeq (·.setIfInBounds j u) { cls:=.type "list",data:=.seq its.toArray n }={ cls:=.type "list",data:=.seq (its.set j u).toArray n }:=by
 simp[Obj.mapSeq]
theorem Inv.lst {pins:List (Addr×Obj)}{σ:St}{H:Hp}{s:Shared}{p:Addr}{xs:List V} (I:Inv X pins σ H s) (h:H p=some (.lst xs)) :
  ∃(its:List Value) (n:Nat),Vals xs its∧s.heap.get? p=some { cls:=.type "list",data:=.seq its.toArray n }∧xs.length≤sizeLine:=by
 obtain⟨z,its,n,r,e⟩:=I.hok p _ h
 exact⟨its,n,r,e,z⟩
theorem Inv.HK {pins:List (Addr×Obj)}{σ:St}{H:Hp}{s:Shared}{p:Addr}{xs ys:List V}{its its':List Value}{n n':Nat}{f:Obj→Obj} (I:Inv X pins σ H s) (h:H p=some (.lst xs))
  (ho:s.heap.get? p=some { cls:=.type "list",data:=.seq its.toArray n }) (hf:f { cls:=.type "list",data:=.seq its.toArray n }={ cls:=.type "list",data:=.seq its'.toArray n' }) (r:Vals ys its') (hz:ys.length≤sizeLine) (t:Nat) :
  Inv X pins σ (upd H p (.lst ys)) { s with heap:=s.heap.update p f,toks:=t }:=by
 have e:(s.heap.update p f).get? p=some { cls:=.type "list",data:=.seq its'.toArray n' }:=by
  rw[Heap.get?_update_self f ho (by rw[hf] <;> rfl),hf]
 refine I.write (x:=p) (e:=p) (by rw[h];trivial) (.inl rfl) (fun b u hb q=>(Heap.get?_update_other _ _ (Ne.symm hb)).trans q) ⟨_,e⟩ ?_
 exact⟨hz,its',n',r,e⟩
def GS:V→V→V→Hp→(Hp→Prop)→Prop:=fun o i v H Q=>∃ p xs k j,o=.ref p∧i=.int k∧H p=some (.lst xs)∧C7 xs.length k=some j∧Q (upd H p (.lst (xs.set j v)))
theorem set_list:Kc X GS:=by
 intro pins s σ H o i v ov iv u Q I ro ri rv h
 obtain⟨p,xs,k,j,rfl,rfl,hp,hj,q⟩:=h
 cases ro
 obtain⟨t,rfl⟩:=ri
 obtain⟨its,n,r,ho,hz⟩:=I.lst hp
 obtain⟨h1,h2,h3,h4⟩:=AR hj
 have hl:=r.length
 have hn:=pO
 have I':Inv X pins σ (upd H p (.lst (xs.set j v))) { s with heap:=s.heap.update p (Obj.mapSeq (·.setIfInBounds j u)) } :=
  I.HK hp ho (yW its n j u) (r.set rv j) (by rw[List.length_set];exact hz) s.toks
 by_cases h0:0≤k
 ·have hk:k.toNat=j:=by
   rw[seqIndex_of h0 h4] at h1
   exact Option.some.inj h1
  exact W.ki_setAt ho h0 (by omega) (by rw[List.size_toArray,←hl];exact h4) (by rw[hk];exact⟨_,I',q⟩)
 ·have hk:(k+(its.toArray.size:Int)).toNat=j:=by
   rw[seqIndex_neg (by omega) h3] at h1
   rw[List.size_toArray,←hl]
   exact Option.some.inj h1
  exact W.ki_setBack ho (by omega) (by rw[List.size_toArray,←hl];exact h3) (by omega) (by rw[hk];exact⟨_,I',q⟩)
theorem uY (lo hi:Option Int) (n:Nat):(sliceBounds lo hi none n).1=((HT.gh n 0 lo:Nat):Int)∧(sliceBounds lo hi none n).2.1=((HT.gh n n hi:Nat):Int)∧(sliceBounds lo hi none n).2.2=1:=by
 refine⟨?_,?_,rfl⟩
 ·cases lo with
  | none=>simp[sliceBounds,HT.gh]
  | some i =>
   simp only[sliceBounds,HT.gh,Option.getD_none,show(1:Int) > 0 by decide,if_true]
   by_cases h:i < 0
   ·simp only[h,if_true] <;> omega
   ·simp only[h,if_false] <;> omega
 ·cases hi with
  | none=>simp[sliceBounds,HT.gh]
  | some i =>
   simp only[sliceBounds,HT.gh,Option.getD_none,show(1:Int) > 0 by decide,if_true]
   by_cases h:i < 0
   ·simp only[h,if_true] <;> omega
   ·simp only[h,if_false] <;> omega
theorem tD (its:List Value) (lo hi:Option Int):slicePick its.toArray lo hi none=((its.drop (HT.gh its.length 0 lo)).take (HT.gh its.length its.length hi - HT.gh its.length 0 lo)).toArray:=by
 obtain⟨h1,h2,h3⟩:=uY lo hi its.toArray.size
 unfold slicePick
 rw[h1,h2,h3]
 simp only[sliceRange_one,pick_run,List.size_toArray] <;> rfl
def Kz (K:W.Frag):V→Option Int→Option Int→Hp→VK→Prop:=fun x lo hi H Q=>∃ a xs,x=.ref a∧aS K H a xs∧∀ p,H p=none→Q (.ref p) (upd H p (.lst (cR xs lo hi)))
theorem FE:Kv X (Kz X.K):=by
 intro pins s σ H x v vl vu lo hi sl Q I rx hs pl pu h
 obtain⟨a,xs,rfl,hx,q⟩:=h
 cases rx
 obtain⟨its,r,ht,hz⟩:=I.list hx
 have hlen:=r.length
 refine⟨"list",_,slot_list_getitem.lookup,ht.isList.typeIs,?_⟩
 refine wpAny_getItem_list_slice ht.isList hs pl pu .none (by simp) ?_ (by rw[List.size_toArray] <;> omega)
 rw[tD,←hlen]
 refine⟨.ref s.heap.objs.size,_,I.laid (t':=s.toks) (o:=.lst (cR xs lo hi)) (fun b ob q=>Heap.get?_push_of_some _ q) (Nat.le_refl _) ?_,rfl,q _ (I.hok.fresh (Nat.le_refl _))⟩
 exact⟨Nat.le_trans (jh xs lo hi) hz,_,0,(r.drop (HT.gh xs.length 0 lo)).take (HT.gh xs.length xs.length hi - HT.gh xs.length 0 lo),Heap.get?_push_size _ rfl⟩
def qj:V→Bool
 | .non=>true
 | .bl _=>true
 | .int _=>true
 | .str _=>true
 | _=>false
def JF:V→V→Bool
 | .non,.non=>true
 | .bl a,.bl b=>a == b
 | .bl a,.int b=>(if a then 1 else 0) == b
 | .int a,.bl b=>a == (if b then 1 else 0)
 | .int a,.int b=>a == b
 | .str a,.str b=>a == b
 | _,_=>false
theorem HL {A:Around}{s:Shared}{y x:V}{u v:Value} (ry:RelV y u) (rx:RelV x v) (fy:qj y=true) (fx:qj x=true):SeqAt.EqAt A s u v (JF y x):=by
 cases y with
 | non =>
  cases ry
  cases x with
  | non=>cases rx;exact SeqAt.EqAt.same _
  | bl b=>cases rx;exact SeqAt.EqAt.none_bool b
  | int b=>obtain⟨t,rfl⟩:=rx;exact SeqAt.EqAt.none_int b t
  | str b=>obtain⟨t,rfl⟩:=rx;exact SeqAt.EqAt.none_str b t
  | _=>exact absurd (show false=true from fx) Bool.false_ne_true
 | bl a =>
  cases ry
  cases x with
  | non=>cases rx;exact SeqAt.EqAt.bool_none a
  | bl b=>cases rx;exact SeqAt.EqAt.bool_bool a b
  | int b=>obtain⟨t,rfl⟩:=rx;exact SeqAt.EqAt.bool_int a b t
  | str b=>obtain⟨t,rfl⟩:=rx;exact SeqAt.EqAt.bool_str a b t
  | _=>exact absurd (show false=true from fx) Bool.false_ne_true
 | int a =>
  obtain⟨t',rfl⟩:=ry
  cases x with
  | non=>cases rx;exact SeqAt.EqAt.int_none a t'
  | bl b=>cases rx;exact SeqAt.EqAt.int_bool a t' b
  | int b=>obtain⟨t,rfl⟩:=rx;exact SeqAt.EqAt.int_int a t' b t
  | str b=>obtain⟨t,rfl⟩:=rx;exact SeqAt.EqAt.int_str a t' b t
  | _=>exact absurd (show false=true from fx) Bool.false_ne_true
 | str a =>
  obtain⟨t',rfl⟩:=ry
  cases x with
  | non=>cases rx;exact SeqAt.EqAt.str_none a t'
  | bl b=>cases rx;exact SeqAt.EqAt.str_bool a t' b
  | int b=>obtain⟨t,rfl⟩:=rx;exact SeqAt.EqAt.str_int a t' b t
  | str b=>obtain⟨t,rfl⟩:=rx;exact SeqAt.EqAt.str_str a t' b t
  | _=>exact absurd (show false=true from fx) Bool.false_ne_true
 | _=>exact absurd (show false=true from fy) Bool.false_ne_true
theorem uZ:pH X (compareOp .NotIn) (fun x y H Q=>∃ i j,x=.str i∧y=.str j∧Q (.bl (!(!(Builtin.Str.occurrences j i 0 j.length 1).isEmpty))) H):=by
 intro pins s σ H x y v u Q I rx ry h
 obtain⟨i,j,rfl,rfl,q⟩:=h
 obtain⟨t,rfl⟩:=rx
 obtain⟨t',rfl⟩:=ry
 exact notIn_str ⟨.bl _,H,I,rfl,q⟩
theorem u0:gH X (.builtin "len") (fun xs H Q=>∃ p ys,xs=[.ref p]∧(aS X.K H p ys∨iN X.K H p ys)∧Q (.int ys.length) H):=by
 intro pins s σ H xs us Q I r h
 obtain⟨p,ys,rfl,hq,q⟩:=h
 obtain⟨u,rfl,rx⟩:=vals1 r
 cases rx
 have hn:=pO
 rcases hq with hq | hq
 ·obtain⟨its,r',pl,hz⟩:=I.list hq
  have hlen:=r'.length
  exact Calls.call_len_list pl.isList (by simp only[List.size_toArray] <;> omega) ⟨.int ys.length,H,I.tok _,⟨s.toks+1,by rw[List.size_toArray,hlen]⟩,q⟩
 ·obtain⟨its,r',pl,hz⟩:=I.tuple hq
  have hlen:=r'.length
  exact len_tuple pl (by simp only[List.size_toArray] <;> omega) ⟨.int ys.length,H,I.tok _,⟨s.toks+1,by rw[List.size_toArray,hlen]⟩,q⟩
theorem iE:gH X (.builtin "len") (fun xs H Q=>∃ z,xs=[.str z]∧z.length≤sizeLine∧Q (.int z.length) H):=by
 intro pins s σ H xs us Q I r h
 obtain⟨z,rfl,hz,q⟩:=h
 obtain⟨u,rfl,t,rfl⟩:=vals1 r
 have hn:=pO
 exact len_str (by omega) ⟨.int z.length,H,I.tok _,⟨_,rfl⟩,q⟩
theorem u9:gH X (.type "list") (fun xs H Q=>∃ p ys,xs=[.ref p]∧(aS X.K H p ys∨iN X.K H p ys)∧∀ l,H l=none→Q (.ref l) (upd H l (.lst ys))):=by
 intro pins s σ H xs us Q I r h
 obtain⟨p,ys,rfl,hq,q⟩:=h
 obtain⟨u,rfl,rx⟩:=vals1 r
 cases rx
 have fin:∀(its:List Value),Vals ys its→ys.length≤sizeLine→∀(h':Heap) (c':Nat),(∀ b o',s.heap.get? b=some o'→h'.get? b=some o') →
   h'.get? s.heap.objs.size=some { cls:=.type "list",dict:=none,data:=.seq its.toArray c',slots:=#[] }→EP X pins σ Q (.ref s.heap.objs.size) { s with heap:=h' }:=fun its r' hz h' c' kp e =>
  ⟨.ref s.heap.objs.size,_,I.laid (t':=s.toks) kp (Nat.le_refl _) (show bQ X.prog X.w _ h' _ (.lst ys) from ⟨hz,its,c',r',e⟩),rfl,q _ (I.hok.fresh (Nat.le_refl _))⟩
 rcases hq with hq | hq
 ·obtain⟨its,r',pl,hz⟩:=I.list hq
  have hlen:=r'.length
  obtain⟨o,ho,hc,n,hd⟩:=pl.isList
  exact call_list_seq p (.inl rfl) ho hc hd (fun h' c' kp e=>fin its r' hz h' c' kp e) (by simp only[List.size_toArray] <;> omega)
 ·obtain⟨its,r',pl,hz⟩:=I.tuple hq
  have hlen:=r'.length
  obtain⟨o,ho,hc,n,hd⟩:=pl
  exact call_list_seq p (.inr rfl) ho hc hd (fun h' c' kp e=>fin its r' hz h' c' kp e) (by simp only[List.size_toArray] <;> omega)
theorem tE:gH X (.type "tuple") (fun xs H Q=>∃ p ys,xs=[.ref p]∧((aS X.K H p ys∧∀ l,H l=none→Q (.ref l) (upd H l (.tup ys)))∨(iN X.K H p ys∧Q (.ref p) H))):=by
 intro pins s σ H xs us Q I r h
 obtain⟨p,ys,rfl,h⟩:=h
 obtain⟨u,rfl,rx⟩:=vals1 r
 cases rx
 rcases h with ⟨hq,q⟩ | ⟨hq,q⟩
 ·obtain⟨its,r',pl,hz⟩:=I.list hq
  have hlen:=r'.length
  refine call_tuple_list pl.isList (fun h' kp=>?_) (by simp only[List.size_toArray] <;> omega)
  have I1:Inv X pins σ H { s with heap:=h' }:=I.kept (t':=s.toks) kp
  have I2:Inv X pins σ (upd H h'.objs.size (.tup ys)) { s with heap:=h'.push { cls:=.type "tuple",data:=.seq its.toArray } } :=
   I1.laid (t':=s.toks) (fun b o e=>Heap.get?_push_of_some _ e) (Nat.le_refl _) (show bQ X.prog X.w _ _ _ (.tup ys) from ⟨hz,its,r',IsTup.new _ _⟩)
  exact⟨.ref h'.objs.size,_,I2,rfl,q _ (I1.hok.fresh (Nat.le_refl _))⟩
 ·obtain⟨its,r',pl,hz⟩:=I.tuple hq
  exact call_tuple_same pl ⟨.ref p,H,I,rfl,q⟩
def Og (K:W.Frag) (T:String) (x:V) (H:Hp):Prop:=match x with
 | .str _=>T = "str"
 | .int _=>T = "int"
 | .ref p=>(T = "list"∧∃ xs,aS K H p xs)∨(T = "tuple"∧∃ o,K.lookup p=some o∧o.cls=.type "tuple"∧o.dict=none) ∨
   (T = "dict"∧((∃ kvs,H p=some (.dK kvs))∨∃ kvs,H p=some (.dT kvs)))∨(T = "set"∧∃ S n,H p=some (.set S n))
 | _=>False
theorem DF {pins:List (Addr×Obj)}{σ:St}{H:Hp}{s:Shared}{T:String}{x:V}{v:Value} (I:Inv X pins σ H s) (r:RelV x v) (ty:Og X.K T x H) :
  s.TypeIs v T∧∀ a,v=.ref a→∃ ob,s.heap.get? a=some ob∧ob.dict=none:=by
 cases x with
 | str z =>
  obtain⟨t,rfl⟩:=r
  cases(show T = "str" from ty)
  exact⟨typeIs_str s z t,fun _ e=>nomatch e⟩
 | int i =>
  obtain⟨t,rfl⟩:=r
  cases(show T = "int" from ty)
  exact⟨typeIs_int s i t,fun _ e=>nomatch e⟩
 | ref p =>
  cases r
  rcases ty with ⟨rfl,xs,hq⟩ | ⟨rfl,o,hk,hc,hd⟩ | ⟨rfl,hk⟩ | ⟨rfl,S,n,hk⟩
  ·obtain⟨its,_,pl,_⟩:=I.list hq
   refine⟨pl.isList.typeIs,fun a e=>?_⟩
   cases e
   obtain⟨o,n,e,c,hd,_⟩:=pl
   exact⟨o,e,hd⟩
  ·refine⟨⟨o,I.j4 p o hk,hc⟩,fun a e=>?_⟩
   cases e
   exact⟨o,I.j4 _ o hk,hd⟩
  ·have z:∃ o,s.heap.get? p=some o∧o.ExactDict:=by
    rcases hk with ⟨kvs,hk⟩ | ⟨kvs,hk⟩
    ·obtain⟨_,_,_,_,o,_,_,e,ex,_⟩:=I.hok p _ hk
     exact⟨o,e,ex⟩
    ·obtain⟨_,_,_,_,o,_,_,e,ex,_⟩:=I.hok p _ hk
     exact⟨o,e,ex⟩
   obtain⟨o,e,ex⟩:=z
   refine⟨⟨o,e,ex.1⟩,fun a e2=>?_⟩
   cases e2
   exact⟨o,e,ex.2.1⟩
  ·obtain⟨o,_,_,_,e,ex,_⟩:=I.hok p _ hk
   refine⟨⟨o,e,ex.1⟩,fun a e2=>?_⟩
   cases e2
   exact⟨o,e,ex.2.1⟩
 | _=>exact False.elim ty
def KA (K:W.Frag) (T:String) (r:V→List V→Hp→VK→Prop) (to:TE):TE:=fun σ H Q=>to σ H fun x H1=>Og K T x H1∧r x [] H1 Q
def Rh (K:W.Frag) (T:String) (r:V→List V→Hp→VK→Prop) (to:TE) (t:TA):TE:=fun σ H Q=>to σ H fun x H1=>Og K T x H1∧t σ H1 fun xs H2=>r x xs H2 Q
variable {o e:Expr}{es:List Expr}{to:TE}{t:TA}{name:Str}{apos cpos:Pos}{T id:String}{r:V→List V→Hp→VK→Prop}
theorem HM (pa:PlainAttrs T) (slot:Slot T name id) (hty:typeOf (.builtin id)=pure (.type "method_descriptor")) (hm:Ky X id r) (ho:PE X o to)
  (hbase:attributeBase o name X.env (eval o X.env)=eval o X.env:=by rfl) (hline:(apos.endLine == cpos.line)=true:=by rfl):PE X (.Call (.Attribute o name apos) [] [] cpos) (KA X.K T r to):=by
 intro pins s σ H Q I h
 refine wpAny_Call_method0_late hbase hline (bZ (ho pins s σ H _ I h) fun v s1 ⟨x,H1,I1,r1,ty,q1⟩=>?_)
 obtain⟨h1,h2⟩:=DF I1 r1 ty
 exact⟨T,id,pa,slot,hty,h1,h2,Calls.callWith_builtin rfl (PySem.evalArgs_none (hm pins s1 σ H1 x [] v [] Q I1 r1 .nil q1))⟩
theorem KC (pa:PlainAttrs T) (slot:Slot T name id) (hty:typeOf (.builtin id)=pure (.type "method_descriptor")) (hm:Ky X id r) (ho:PE X o to) (ha:PA X (e :: es) t)
  (hbase:attributeBase o name X.env (eval o X.env)=eval o X.env:=by rfl)
  (hfew:((backTo cpos (starEach (e :: es) X.env)).all (fun x=>!x.1) && (backToKw cpos (keywordEach [] X.env)).all (fun x=>x.1.isSome)
   && decide ((e :: es).length+([]:List Keyword).length+(if ([]:List Keyword).isEmpty then 0 else 1) < 30))=true:=by rfl)
  (hline:(apos.endLine == cpos.line)=true:=by rfl) (hs:starEach (e :: es) X.env=(false,eval e X.env) :: starEach es X.env:=by rfl) (hplain:(backTo cpos (starEach es X.env)).any (·.1)=false:=by rfl) :
  PE X (.Call (.Attribute o name apos) (e :: es) [] cpos) (Rh X.K T r to t):=by
 intro pins s σ H Q I h
 refine wpAny_Call_method_late hbase hfew hline rfl (bZ (ho pins s σ H _ I h) fun v s1 ⟨x,H1,I1,r1,ty,q1⟩=>?_)
 obtain⟨h1,h2⟩:=DF I1 r1 ty
 refine⟨T,id,pa,slot,hty,h1,h2,?_⟩
 have hA:=ha cpos pins s1 σ H1 _ I1 q1
 rw[hs] at hA ⊢
 refine Calls.callWith_builtin (by show(false || (backTo cpos (starEach es X.env)).any (·.1))=false;rw[hplain] <;> rfl) (Calls.evalArgs_plain ?_)
 exact bZ hA fun us s2 ⟨vs,H2,I2,r2,q2⟩=>hm pins s2 σ H2 x vs v us Q I2 r1 r2 q2
end
def Ri (X:Cx) (id:String) (r:V→List V→Hp→VK→Prop):Prop :=
 ∀(pins:List (Addr×Obj)) (s:Shared) (σ:St) (H:Hp) (x:V) (xs:List V) (v:Value) (us:List Value) (Q:VK),Inv X pins σ H s→RelV x v→Vals xs us→r x xs H Q →
  wpAny (model X.prog X.w) X.A (call (.builtin id) (v :: us)) (EP X pins σ Q) X.xe s
theorem Vals.one:∀{x:V}{us:List Value},Vals [x] us→∃ u,us=[u]∧RelV x u
 | _,_,.cons r .nil=>⟨_,rfl,r⟩
theorem Vals.zero:∀{us:List Value},Vals [] us→us=[]
 | _,.nil=>rfl
theorem Vals.dropLast {xs:List V}{us:List Value} (h:Vals xs us):Vals xs.dropLast us.dropLast:=by
 induction h with
 | nil=>exact .nil
 | cons r t ih =>
  cases t with
  | nil=>exact .nil
  | cons q t'=>exact .cons r ih
theorem Vals.rep {xs:List V}{us:List Value} (h:Vals xs us):∀ k:Nat,Vals (List.replicate k xs).flatten (List.replicate k us).flatten
 | 0=>.nil
 | k+1=>by
  rw[List.replicate_succ,List.replicate_succ,List.flatten_cons,List.flatten_cons]
  exact Vals.append h (Vals.rep h k)
theorem yX {α:Type} (l:List α):l.eraseIdx (l.length - 1)=l.dropLast:=by
 induction l with
 | nil=>rfl
 | cons a r ih =>
  cases r with
  | nil=>rfl
  | cons b r =>
   have e:(a :: b :: r).length - 1=((b :: r).length - 1)+1:=by
    have h1:(a :: b :: r).length=r.length+2:=rfl
    have h2:(b :: r).length=r.length+1:=rfl
    omega
   rw[e,List.eraseIdx_cons_succ,ih]
   all_goals rfl
theorem foldl_rep (its:List Value):∀(k:Nat) (acc:List Value),
  List.foldl (fun x1 x2=>x1++x2) acc.toArray (List.replicate k its.toArray)=(acc++(List.replicate k its).flatten).toArray
 | 0,acc=>by simp
 | k+1,acc=>by
  have e:acc.toArray++its.toArray=(acc++its).toArray:=by simp
  have e2:(acc++its)++(List.replicate k its).flatten=acc++(List.replicate (k+1) its).flatten:=by
   rw[List.replicate_succ,List.flatten_cons,List.append_assoc]
  rw[←e2,←foldl_rep its k (acc++its),←e,List.replicate_succ,List.foldl_cons]
section
variable {X:Cx}{pins:List (Addr×Obj)}{σ:St}{H:Hp}{s:Shared}{l b:Addr}{xs ys zs:List V}
theorem Inv.KD {its its':List Value}{n:Nat}{f:Array Value→Array Value}{t':Nat} (I:Inv X pins σ H s) (hH:H l=some (.lst xs))
  (e:s.heap.get? l=some { cls:=.type "list",data:=.seq its.toArray n }) (hf:f its.toArray=its'.toArray) (hv:Vals ys its') (hz:ys.length≤sizeLine) :
  Inv X pins σ (upd H l (.lst ys)) { s with heap:=s.heap.update l (Obj.mapSeq f),toks:=t' }:=by
 have q:=PySem.IsL.update e f
 rw[hf] at q
 refine I.write (x:=l) (e:=l) (by rw[hH];exact trivial) (.inl rfl) (fun b' u hb hu=>(Heap.get?_update_other s.heap (Obj.mapSeq f) (Ne.symm hb)).trans hu) ⟨_,q⟩ ?_
 exact⟨hz,its',_,hv,q⟩
theorem Inv.FF {its:List Value}{t':Nat} (I:Inv X pins σ H s) (hv:Vals ys its) (hz:ys.length≤sizeLine) :
  Inv X pins σ (upd H s.heap.objs.size (.lst ys)) { s with heap:=s.heap.push { cls:=.type "list",data:=.seq its.toArray },toks:=t' } :=
 I.laid (fun _ _ q=>Heap.get?_push_of_some _ q) (Nat.le_refl _) ⟨hz,its,0,hv,Heap.get?_push_size _ rfl⟩
theorem Inv.fresh (I:Inv X pins σ H s):H s.heap.objs.size=none:=I.hok.fresh (Nat.le_refl _)
theorem Inv.DG (I:Inv X pins σ H s) (hH:H l=some (.lst xs)):xs.length≤sizeLine∧∃(its:List Value) (n:Nat),Vals xs its∧xs.length=its.length∧s.heap.get? l=some { cls:=.type "list",data:=.seq its.toArray n }:=by
 obtain⟨z,its,n,r,e⟩:=I.hok l _ hH
 exact⟨z,its,n,r,r.length,e⟩
theorem DH {n:Nat} (h:n≤sizeLine):Builtin.List.listTooLong n=false:=by
 unfold Builtin.List.listTooLong
 exact decide_eq_false (by omega)
end
section
variable {X:Cx}
def FG:V→List V→Hp→VK→Prop:=fun x vs H Q=>∃ l xs y,x=.ref l∧vs=[y]∧H l=some (.lst xs)∧xs.length < sizeLine∧Q .non (upd H l (.lst (xs++[y])))
theorem mq:Ri X "list.append" FG:=by
 intro pins s σ H x vs v us Q I rx rv h
 obtain⟨l,xs,y,rfl,rfl,hH,hz,q⟩:=h
 cases rx
 obtain⟨u,rfl,ru⟩:=rv.one
 obtain⟨z,its,n,r,hl,e⟩:=I.DG hH
 refine call_meets F.slot_list_append ⟨_,e,rfl⟩ F.entry_list_append (F.args_list_append_2 _ _) (PySem.list_append l its.toArray n u (by rw[List.size_toArray];omega)) ⟨e,?_⟩
 refine⟨.non,_,I.KD (its':=its++[u]) hH e (by simp) (r.append (.cons ru .nil)) ?_,rfl,q⟩
 rw[List.length_append,List.length_singleton]
 omega
def Oh:V→List V→Hp→VK→Prop:=fun x vs H Q=>∃ l xs y,x=.ref l∧vs=[]∧H l=some (.lst xs)∧xs[xs.length - 1]? = some y∧Q y (upd H l (.lst xs.dropLast))
theorem HN:Ri X "list.pop" Oh:=by
 intro pins s σ H x vs v us Q I rx rv h
 obtain⟨l,xs,y,rfl,rfl,hH,hy,q⟩:=h
 cases rx
 have TZ:=rv.zero
 subst TZ
 obtain⟨z,its,n,r,hl,e⟩:=I.DG hH
 obtain⟨u,hu,ru⟩:=r.get hy
 have hy':its.toArray[its.toArray.size - 1]? = some u:=by
  show its.toArray[its.length - 1]? = some u
  rw[←Array.getElem?_toList,←hl]
  exact hu
 refine call_meets F.slot_list_pop ⟨_,e,rfl⟩ F.entry_list_pop (F.args_list_pop_1 _) (MeetsSeq.list_pop_last l its.toArray n u hy' (by rw[List.size_toArray];omega)) ⟨e,?_⟩
 refine⟨y,_,I.KD (its':=its.dropLast) hH e ?_ r.dropLast ?_,ru,q⟩
 ·show its.toArray.eraseIdxIfInBounds (its.toArray.size - 1)=its.dropLast.toArray
  rw[List.size_toArray,List.eraseIdxIfInBounds_toArray,yX]
 ·rw[List.length_dropLast]
  omega
def Oi:R2:=fun x y H Q=>∃ l b xs zs,x=.ref l∧y=.ref b∧H l=some (.lst xs)∧H b=some (.lst zs)∧xs.length+zs.length≤sizeLine∧∀ p,H p=none→Q (.ref p) (upd H p (.lst (xs++zs)))
theorem j8:pH X (binaryOp .Add) Oi:=by
 intro pins s σ H x y v u Q I rx ry h
 obtain⟨l,b,xs,zs,rfl,rfl,hH,hB,hz,q⟩:=h
 cases rx
 cases ry
 obtain⟨z,its,n,r,hl,e⟩:=I.DG hH
 obtain⟨z2,its2,n2,r2,hl2,e2⟩:=I.DG hB
 refine PySem.P.add_list e e2 ?_ (by rw[List.size_toArray,List.size_toArray];omega)
 have ea:its.toArray++its2.toArray=(its++its2).toArray:=by simp
 rw[ea]
 exact⟨.ref _,_,I.FF (t':=s.toks) (r.append r2) (by rw[List.length_append];omega),rfl,q _ I.fresh⟩
def Oj:R2:=fun x y H Q=>∃ l k xs,x=.ref l∧y=.int k∧H l=some (.lst xs)∧-(2 ^ 63)≤k∧k < 2 ^ 63∧xs.length * k.toNat≤sizeLine ∧
 ∀ p,H p=none→Q (.ref p) (upd H p (.lst (List.replicate k.toNat xs).flatten))
theorem len_rep {α:Type} (xs:List α) (k:Nat):(List.replicate k xs).flatten.length=k * xs.length:=by
 induction k with
 | zero=>simp
 | succ k ih=>rw[List.replicate_succ,List.flatten_cons,List.length_append,ih,Nat.succ_mul,Nat.add_comm]
theorem DI:pH X (binaryOp .Mult) Oj:=by
 intro pins s σ H x y v u Q I rx ry h
 obtain⟨l,k,xs,rfl,rfl,hH,h1,h2,hz,q⟩:=h
 cases rx
 obtain⟨t,rfl⟩:=ry
 obtain⟨z,its,n,r,hl,e⟩:=I.DG hH
 have hlen:its.toArray.size * k.toNat≤sizeLine:=by rw[List.size_toArray,←hl];exact hz
 have hcap:¬its.toArray.size * k.toNat > (2 ^ 63 - 1) / 8:=by
  have:(sizeLine:Nat)≤(2 ^ 63 - 1) / 8:=by decide
  omega
 have hfit:¬(!Builtin.List.listFitsIndex k)=true:=by
  rw[fitsIndex_both h1 h2]
  exact Bool.false_ne_true
 have KG:¬Builtin.List.listTooLong (its.toArray.size * k.toNat)=true:=by
  rw[DH hlen]
  exact Bool.false_ne_true
 have hnew:List.foldl (fun x1 x2=>x1++x2) #[] (List.replicate (if its.toArray.isEmpty=true then 0 else k.toNat) its.toArray)=(List.replicate k.toNat its).flatten.toArray:=by
  have f0:∀ m:Nat,List.foldl (fun x1 x2=>x1++x2) #[] (List.replicate m its.toArray)=(List.replicate m its).flatten.toArray:=fun m=>by
   have:=foldl_rep its m []
   rw[List.nil_append] at this
   exact this
  rw[f0]
  cases its with
  | nil=>simp
  | cons a r'=>rw[if_neg (by simp)]
 refine wpAny_binaryOp_repeat_ref (T := "list") (U := "int") (by decide) ⟨_,e,rfl⟩ (fun s'=>typeIs_int s' k t) noFill_list_mul F.fills_int_mul F.slot_int_rmul repeat_list F.slot_int_index.lookup
  (call_meets F.slot_int_rmul (typeIs_int s k t) F.entry_int_rmul (F.args_int_rmul_2 _ _) (int___rmul___int_list k t l its.toArray n)
   ⟨e,rfl,⟨_,e,rfl⟩,call_meets F.slot_list_mul ⟨_,e,rfl⟩ F.entry_list_mul (F.args_list_mul_2 _ _) (AutoListH.list___mul___list_int_3 l its.toArray n k t hfit hcap KG) ⟨e,?_⟩⟩)
 rw[hnew]
 exact⟨.ref _,_,I.FF (t':=s.toks) (r.rep k.toNat) (by rw[len_rep,Nat.mul_comm];exact hz),rfl,q _ I.fresh⟩
end
section
variable {prog:Program}{w:World}{A:Around}{E:Value→Shared→Prop}{s:Shared}
set_option maxRecDepth 100000 in
end
section
variable {X:Cx}
end
end L2
namespace Att
open PySem PySem.W PySem.Calls PyProof.Rows
theorem qE {P:Params}{h:Heap}:∀(ns:List Int) (vs:List Value),WellAll P h vs (ns.map WData.int)→IntsAre vs ns:=by
 intro ns
 induction ns with
 | nil =>
  intro vs w
  rw[List.map_nil] at w
  cases w
  exact .nil
 | cons n ns ih =>
  intro vs w
  rw[List.map_cons] at w
  cases w with
  | cons a b =>
   cases a
   exact .cons _ _ (ih _ b)
theorem Bt {l:OpenLaw}{n:Nat} (hn:l.most=some n) {P:Params}{h:Heap}{args:List WData}{vals:List Value}
  (hpre:l.row.toRowW.claim.pre args=true) (hwl:WellAll P h vals args) :
  ∃ a vs ns,vals=[Value.ref a]∧args=[WData.list (ns.map WData.int)]∧h.get? a=some { cls:=.type "list",data:=.seq vs.toArray }∧IntsAre vs ns∧ns.length≤n:=by
 have hsh:WShape.hasAll [] args [.list .int]=true:=(pre_splitW hpre).1
 have hc:l.pre.holds [] { args:=args }=true:=(pre_splitW hpre).2
 obtain⟨d,r,rfl,h1,h2⟩:=hasAllW_cons hsh
 obtain rfl:=hasAllW_nil h2
 obtain⟨xs,rfl,h3⟩:=hasW_list h1
 obtain⟨ns,rfl⟩:=items_int h3
 have hlen:ns.length≤n:=by
  unfold OpenLaw.pre at hc
  have h4:(WTm.not (.lt (.lit (.int (n:Int))) (.len (.arg 0)))).holds [] { args:=[.list (ns.map .int)] }=true:=by
   have h4:=(holds_andW hc).1
   rw[hn] at h4
   exact h4
  have h5:=condW_of h4 (w_not (w_lt w_lit (w_len_list (w_arg rfl))))
  rw[List.length_map] at h5
  refine Nat.le_of_not_lt fun q=>?_
  have q':(n:Int) < ((ns.length:Nat):Int):=by omega
  first
   | (rw[decide_eq_true q'] at h5;exact absurd h5 (by decide))
   | (simp at h5;omega)
 cases hwl with
 | cons w1 w2 =>
  cases w2
  cases w1 with
  | list ho hall=>exact⟨_,_,ns,rfl,rfl,ho,qE ns _ hall,hlen⟩
theorem Bu (l:OpenLaw) (args:List WData):l.row.toRowW.claim.post args (.bool true) args=true :=
 postW_of (r:=l.row.toRowW) (X:=(true == true))
  (show WShape.has [] (.bool true) .bool=true by first | rfl | decide | simp[WShape.has,WShape.arms,WShape.armsAll])
  (show(WTm.eq .res (.lit (.bool true))).value [] { args:=args,res:=some (.bool true),after:=args }=some (.bool (true == true)) from w_eq_bool (w_res rfl) w_lit) rfl
theorem wZ {l:OpenLaw}{n:Nat}{q:Program}{loose:List Str}{XP:(Str→Option Value)→Heap→Prop}{YP:World→Heap→Prop}{d:DefRec}
  (hn:l.most=some n) (hdf:d.params.defaults=[])
  (call:∀(w:World) (s₀ s₁:Shared) (mg mb:Str→Option Value) (fa:Addr) (o:Obj) (pm cd doc:Value) (a:Addr) (vs:List Value) (ns:List Int),
   Ground q loose [] XP w s₀ mg mb s₁.heap→YP w s₁.heap →
   s₁.heap.get? fa=some o→o.data=.func (docDef d.name d.params d.body d.scope pm cd doc)→s₁.heap.CodeRec cd d.name→mg d.name=some (.ref fa) →
   s₁.heap.get? a=some { cls:=.type "list",data:=.seq vs.toArray }→IntsAre vs ns→ns.length≤n→s₁.gens = #[] →
   codeAny (model l.prog w) callerA (.call (.ref fa) ⟨[.ref a],[]⟩) (fun r s'=>r=.ok (.ret (.bool true))∧OldK s₁.heap s'.heap∧s'.os=s₁.os∧AllBare s'.gens) s₁) :
  WalkO q loose XP YP l.row.toRowW d [] (fun f vs=>PySem.call f vs):=by
 intro w s₀ s₁ mg mb G Y fa o pm cd doc dV kV ho hd hcd hD hmg hg args vals as hpre hlay hrd hwl hlo
 obtain rfl:dV=.none:=Dflts.none hD hdf
 obtain rfl:kV=.none:=Dflts.noKw hD
 obtain⟨a,vs,ns,rfl,rfl,hobj,hints,hlen⟩:=Bt hn hpre hwl
 refine enter_call (codeAny_mono (call w s₀ s₁ mg mb fa o pm cd doc a vs ns G Y ho (fd_plain hd) hcd hmg hobj hints hlen hg) fun r s' hq=>?_)
 obtain⟨rfl,h2,h3,h4⟩:=hq
 exact⟨.inl ⟨.bool true,.bool true,[],rfl,fun _=>rfl,.bool true,Bu l _,fun _=>⟨List.Pairwise.nil,fun _ hm=>(nomatch hm)⟩⟩,h2,h3,h4⟩
section
variable {prog:Program}{w:World}{A:Around}{E:Value→Shared→Prop}{s:Shared}{K:Frag}
end
end Att
namespace L2
open PySem PySem.Spec PyProof.Rows
theorem uB:∀{vs:List Value}{ns:List Int},IntsAre vs ns→Vals (ns.map V.int) vs
 | _,_,.nil=>.nil
 | _,_,.cons n t h=>.cons ⟨t,rfl⟩ (uB h)
def HP (H:Hp):Prop:=∀ b,H b=none∨∃ o xs,H b=some (.ou o (.lst xs))
theorem DJ {P:Program}{w:World}{K:W.Frag}{mg mb:Str→Option Value}{CX:Br}{k:Nat}{fa a:Addr}{fd:FuncData}{x:Str}{sp:Sp}{s₁:Shared}{vs:List Value}{ns:List Int}
  (KX:K.In s₁.heap) (hns:s₁.heap.Ns mainGlobals mg) (hb:s₁.heap.Ns builtinsNs mb) (Ol:∀ x:Str,x ≠ "__name__"→mb x=bootBuiltins x) (hlim:s₁.heap.NoLimit) (hg:s₁.gens = #[])
  (ha:s₁.heap.get? a=some { cls:=.type "list",data:=.seq vs.toArray }) (hi:IntsAre vs ns) (hl:ns.length≤sizeLine) (hr:dX k callerA)
  (F:∀ base:Heap,K.In base→base.Ns mainGlobals mg→bf P w K mg base CX k fa fd [x] sp) (hbind:∀(s:Shared) (u:Value),BindsTo s fd ⟨[u],[]⟩ [(x,u)])
  (yT:∀ H:Hp,HP H→aS K H a (ns.map V.int)→sp [.ref a] H (fun v _=>v=.bl true) fun _ _ _=>False)
  (Om:∀ H e s',CX [] H s₁ (fun _ _ _=>False) e s'→False) :
  codeAny (model P w) callerA (.call (.ref fa) ⟨[.ref a],[]⟩) (fun r s'=>r=.ok (.ret (.bool true))∧OldK s₁.heap s'.heap∧s'.os=s₁.os∧AllBare s'.gens) s₁:=by
 have rv:=uB hi
 have Oo:=hi.length
 have core:∀ H:Hp,HP H→aS K H a (ns.map V.int)→nH P w H s₁.heap→(∀ b,H b≠none→b=a)→(H a≠none→K.lookup a=none) →
   codeAny (model P w) callerA (.call (.ref fa) ⟨[.ref a],[]⟩) (fun r s'=>r=.ok (.ret (.bool true))∧OldK s₁.heap s'.heap∧s'.os=s₁.os∧AllBare s'.gens) s₁:=by
  intro H hO hS hok hA hK
  have AS:∀{b:Addr}{o:Obj},s₁.heap.get? b=some o→H b=none→(uN s₁.heap H).get? b=some o:=fun e n=>Dh e n
  have Ks:∀{b:Addr}{o:Obj}{es:Array DictEntry}{ep:Nat},s₁.heap.get? b=some o→o.data=.dict es ep→H b=none:=fun {b o es ep} e d=>by
   cases q:H b with
   | none=>rfl
   | some u =>
    have e':b=a:=hA b (by rw[q];simp)
    subst e'
    rw[ha] at e;cases e
    have d':Data.seq vs.toArray _=Data.dict es ep:=d
    cases d'
  have Np:∀{b:Addr}{m:Str→Option Value},s₁.heap.Ns b m→(uN s₁.heap H).Ns b m:=fun {b m} ⟨o,es,ep,e,d,r⟩=>⟨o,es,ep,AS e (Ks e d),d,r⟩
  have Rj:K.In (uN s₁.heap H):=fun b o e=>AS (KX b o e) (by
   cases q:H b with
   | none=>rfl
   | some u =>
    have e':b=a:=hA b (by rw[q];simp)
    subst e'
    rw[hK (by rw[q];simp)] at e;cases e)
  have hM:Mod K mg (uN s₁.heap H):=⟨Rj,Np hns,⟨mb,Np hb,Ol⟩,let ⟨mc,h1,h2⟩:=hlim;⟨mc,Np h1,h2⟩⟩
  have e0:uU P w K mg (uN s₁.heap H) callerA [] s₁ H:=⟨rfl,hM,fun b o e=>Fc e,Nat.le_of_eq (Bh _ _),trivial,fun b hb=>absurd (show b∈([]:List Addr) from hb) (by simp),hok,.of_eq hg⟩
  refine codeAny_mono ((F _ Rj (Np hns)).run callerA [] s₁ H ⟨[.ref a],[]⟩ [.ref a] [.ref a] _ _ hr e0 (hbind s₁ (.ref a)) (.cons rfl .nil) (yT H hO hS)) fun r s' h=>?_
  cases r with
  | error e=>exact(Om H e s' h).elim
  | ok fl =>
   cases fl with
   | next=>exact False.elim h
   | brk=>exact False.elim h
   | cont=>exact False.elim h
   | ret u =>
    obtain⟨v,H',os,bare,un,Oq,r',q⟩:=h
    have q':v=.bl true:=q
    subst q'
    obtain rfl:u=Value.bool true:=r'
    refine⟨rfl,OldK.of_keep fun b o e=>?_,os,bare⟩
    cases q:H b with
    | none=>exact un.keep b o e q (by intro z;exact absurd (show b∈([]:List Addr) from z) (by simp)) (by simp)
    | some u =>
     rcases hO b with z | ⟨ob,xs,z⟩
     ·rw[q] at z;cases z
     ·have z2:=un.pI b ob _ z
      obtain⟨e1,_⟩:=hok b _ z
      obtain⟨e2,_⟩:=Oq b _ z2
      rw[e] at e1;cases e1
      exact e2
 cases hk:K.lookup a with
 | some o =>
  have e:=KX a o hk
  rw[ha] at e
  cases e
  refine core (fun _=>none) (fun _=>.inl rfl) (.inr ⟨_,vs.toArray,_,hk,rfl,rfl,rfl,by rw[List.size_toArray,Oo];exact hl,by simpa using rv⟩) (fun b u z=>by have z':(none:Option HO)=some u:=z;cases z') (fun b z=>absurd rfl z) fun z=>absurd rfl z
 | none =>
  refine core (fun b=>if b=a then some (.ou { cls:=.type "list",data:=.seq vs.toArray } (.lst (ns.map V.int))) else none) (fun b=>?_) (.inl (.inr ⟨{ cls:=.type "list",data:=.seq vs.toArray },if_pos rfl⟩)) (fun b u z=>?_) (fun b z=>?_) fun _=>hk
  ·by_cases hb:b=a
   ·exact .inr ⟨_,_,if_pos hb⟩
   ·exact .inl (if_neg hb)
  ·by_cases hb:b=a
   ·have z':=(if_pos hb).symm.trans z
    cases z'
    subst hb
    exact⟨ha,by rw[List.length_map];exact hl,vs,_,rv,ha⟩
   ·have z':=(if_neg hb).symm.trans z
    cases z'
  ·by_cases hb:b=a
   ·exact hb
   ·exact absurd (if_neg hb) z
theorem FH {l:W.OpenLaw}{n k:Nat}{q:Program}{loose:List Str}{XP:(Str→Option Value)→Heap→Prop}{YP:World→Heap→Prop}{d:DefRec}{K:Params→W.Frag}{CX:World→Br}{sp:World→Sp}{x:Str}
  (hn:l.most=some n) (hn2:n≤sizeLine) (hdf:d.params.defaults=[]) (hr:dX k callerA)
  (hY:∀(w:World) (h:Heap),YP w h→(K w.params).In h)
  (F:∀(w:World) (mg:Str→Option Value) (fa:Addr) (h:Heap),(K w.params).In h→h.Ns mainGlobals mg→mg d.name=some (.ref fa) →
   ∃ fd:FuncData,(∀(s:Shared) (u:Value),BindsTo s fd ⟨[u],[]⟩ [(x,u)]) ∧
    ∀ base:Heap,(K w.params).In base→base.Ns mainGlobals mg→bf l.prog w (K w.params) mg base (CX w) k fa fd [x] (sp w))
  (yT:∀(w:World) (H:Hp) (a:Addr) (ns:List Int),ns.length≤n→HP H→aS (K w.params) H a (ns.map V.int)→sp w [.ref a] H (fun v _=>v=.bl true) fun _ _ _=>False)
  (Om:∀(w:World) (H:Hp) (s:Shared) (e:Value) (s':Shared),CX w [] H s (fun _ _ _=>False) e s'→False) :
  W.WalkO q loose XP YP l.row.toRowW d [] (fun f vs=>PySem.call f vs):=by
 refine Att.wZ hn hdf fun w s₀ s₁ mg mb fa o pm cd doc a vs ns G Y ho hd hcd hmg hobj hints hlen hg=>?_
 have KX:=hY w _ Y
 obtain⟨fd,hb,hF⟩:=F w mg fa _ KX G.T.g hmg
 exact DJ KX G.T.g G.T.b G.T.builtins G.T.nolimit hg hobj hints (Nat.le_trans hlen hn2) hr hF hb (fun H hO hS=>yT w H a ns hlen hO hS) fun H e s'=>Om w H s₁ e s'
def inClass (s:Stmt) (j:Nat):Stmt:=match s with
 | .ClassDef _ _ _ body _ _ _ _ _ _ _=>body.getD j (.Pass ⟨0,0,0,0⟩)
 | _=>.Pass ⟨0,0,0,0⟩
def cN (s:Stmt):Arguments:=match s with
 | .FunctionDef _ a _ _ _ _ _ _ _ _=>a
 | _=>{ posonlyargs:=[],args:=[],vararg:=none,kwonlyargs:=[],kw_defaults:=[],kwarg:=none,defaults:=[] }
def bO (s:Stmt):List Stmt:=match s with
 | .FunctionDef _ _ b _ _ _ _ _ _ _=>b
 | _=>[]
def av (s:Stmt):Scope:=match s with
 | .FunctionDef _ _ _ _ _ _ sc _ _ _=>sc
 | _=>{ kind:=.function,names:=[],isGenerator:=false,isCoroutine:=false }
abbrev gM:Br:=fun _ _ _ _ _ _=>False
abbrev E0:XK:=fun _ _ _=>False
theorem KH {X:Cx}:Passes gM X E0:=fun _ _ _ _ _ _ _ h=>h.elim
structure jw (K:W.Frag) (x qual:Str) (st:Stmt) (f:Addr) (fd:FuncData):Prop where
 ex:∃(oc:Value) (od:Option Addr) (kV doc pm:Value) (an:Option Addr) (cdv ct:Value) (osl:Array (Option Value)),
  fd=W.fnOf x qual (cN st) (bO st) (av st) .none kV doc pm an cdv ct∧K.lookup f=some ⟨oc,od,.func fd,osl⟩∧W.codeIn K cdv qual=true
 kp:W.keepIn K (.ref f)=true
section
variable {P:Program}{w:World}{K:W.Frag}{mg:Str→Option Value}{base:Heap}
theorem jw.ok {x qual:Str}{st:Stmt}{f:Addr}{fd:FuncData}{N ps:List Str}{k:Nat}{sp:Sp} (F:jw K x qual st f fd) (S:aT N ps (av st)) (len:∀ vs H Q E,sp vs H Q E→vs.length=ps.length)
  (hbody:∀(cdv:Value) (A:Around) (outer:List Env) (s:Shared) (H:Hp) (vs:List V) (Q:VK) (E:XK),dX k (A.deeper (envOfC qual (av st) s.heap.objs.size f cdv))→sp vs H Q E →
   ∃ t,wO (mP gM P w K mg base N qual (av st) f cdv A outer s H E).JY (bO st) t∧t { nx:=fun _ H'=>Q .non H',rt:=Q } (start N vs) H):bf P w K mg base gM (k+1) f fd ps sp:=by
 obtain⟨oc,od,kV,doc,pm,an,cdv,ct,osl,rfl,lk,hcd⟩:=F.ex
 refine DA lk hcd S len fun A outer s H vs Q E hr yT=>?_
 obtain⟨t,h,q⟩:=hbody cdv A outer s H vs Q E hr yT
 exact⟨t,h.JY,q⟩
theorem jw.binds {x qual:Str}{st:Stmt}{f:Addr}{fd:FuncData}{ps:List Str} (F:jw K x qual st f fd)
  (h:∀(kV doc pm:Value) (an:Option Addr) (cdv ct:Value) (us:List Value),us.length=ps.length→bindArgs (W.fnOf x qual (cN st) (bO st) (av st) .none kV doc pm an cdv ct) ⟨us,[]⟩=pure (ps.zip us)):Binds K fd ps []:=by
 obtain⟨oc,od,kV,doc,pm,an,cdv,ct,osl,rfl,lk,hcd⟩:=F.ex
 exact .all (h kV doc pm an cdv ct)
theorem bF {x qual:Str}{st:Stmt}{f:Addr}{oc:Value}{od an:Option Addr}{osl:Array (Option Value)}{kV doc pm cdv ct:Value} (l:K.lookup f=some ⟨oc,od,.func (W.fnOf x qual (cN st) (bO st) (av st) .none kV doc pm an cdv ct),osl⟩)
 (c:W.codeIn K cdv qual=true) (k:W.keepIn K (.ref f)=true):jw K x qual st f (W.fnOf x qual (cN st) (bO st) (av st) .none kV doc pm an cdv ct):=⟨⟨oc,od,kV,doc,pm,an,cdv,ct,osl,rfl,l,c⟩,k⟩
end
theorem dW {A:Around}{k:Nat} (hr:dX k A):A.units+1 < cLine:=Nat.lt_of_le_of_lt (Nat.add_le_add_left (by decide:1≤64) _) hr.units
section
variable {X:Cx}
theorem pv (i:Nat) {x:Str}{pos:Pos} (hN:X.N[i]? = some x:=by rfl) (hv:NU X.env.scope x:=by first | exact Or.inl rfl | exact Or.inr (Or.inl rfl) | exact Or.inr (Or.inr rfl)) (hd:(x == ("__debug__" : Str))=false:=by decide)
 (hcd:(x == ("__classdict__" : Str))=false:=by decide):PE X (.Name x pos) (Bk i):=Hv hN hv hd hcd
end
theorem jE {A B:Prop} (h:B):if false=true then A else B:=by
 rw[if_neg Bool.false_ne_true]
 exact h
theorem jF {A B:Prop} (h:A):if true=true then A else B:=by
 rw[if_pos rfl]
 exact h
theorem pR {c A B:Prop} [Decidable c] (h1:c→A) (h2:¬c→B):if c then A else B:=by
 by_cases h:c
 ·rw[if_pos h]
  exact h1 h
 ·rw[if_neg h]
  exact h2 h
def aE (H H':Hp):Prop:=∀ b o,H b=some o→H' b=some o
theorem aE.refl (H:Hp):aE H H:=fun _ _ h=>h
theorem aE.trans {H H1 H2:Hp} (a:aE H H1) (b:aE H1 H2):aE H H2:=fun c o h=>b c o (a c o h)
theorem aE.free {H H':Hp} (e:aE H H') {l:Addr} (h:H' l=Option.none):H l=Option.none:=by
 cases q:H l with
 | none=>rfl
 | some o =>
  rw[e l o q] at h
  cases h
theorem aE.seq {K:W.Frag}{H H':Hp}{a:Addr}{xs:List V} (e:aE H H') (h:aS K H a xs):aS K H' a xs:=by
 rcases h with (h | ⟨o,h⟩) | h
 ·exact .inl (.inl (e _ _ h))
 ·exact .inl (.inr ⟨o,e _ _ h⟩)
 ·exact .inr h
end L2
set_option maxHeartbeats 4000000
namespace L2
open PySem PySem.Spec PyProof.Rows
def dD (env:Env):List (Str×NameKind)→List (Str×Addr)→List (Str×Addr)
 | [],cs=>cs
 | (n,k) :: r,cs=>dD env r (if k == .free then (n,(env.cells.lookup n).getD 0) :: cs else cs)
theorem jx {scope:Scope}{env:Env} (h:∀ n,(n,NameKind.free)∈scope.names→∃ c,env.cells.lookup n=some c) :
  closureFor scope env=pure (dD env scope.names []):=by
 simp only[closureFor]
 have key:∀(l:List (Str×NameKind)) (cs:List (Str×Addr)),(∀ n,(n,NameKind.free)∈l→∃ c,env.cells.lookup n=some c) →
   (forIn l cs (fun x r=>if (x.2 == NameKind.free)=true then (cellOf env x.1 >>= fun a=>pure (ForInStep.yield ((x.1,a) :: r))) else pure (ForInStep.yield r)):Sem (List (Str×Addr)))=pure (dD env l cs):=by
  intro l
  induction l with
  | nil=>intro cs _;rfl
  | cons x l ih =>
   intro cs hl
   obtain⟨n,k⟩:=x
   have hl':∀ n,(n,NameKind.free)∈l→∃ c,env.cells.lookup n=some c:=fun n hn=>hl n (List.mem_cons_of_mem _ hn)
   rw[List.forIn_cons]
   by_cases hk:k=.free
   ·subst hk
    obtain⟨c,hc⟩:=hl n List.mem_cons_self
    have e1:cellOf env n=pure c:=by unfold cellOf;rw[hc]
    simp only[beq_self_eq_true,if_true,e1,pure_bind]
    rw[ih _ hl']
    simp only[dD,beq_self_eq_true,if_true,hc,Option.getD_some]
   ·have hb:(k == NameKind.free)=false:=by simpa using hk
    simp only[hb,Bool.false_eq_true,if_false,pure_bind]
    rw[ih _ hl']
    simp only[dD,hb,Bool.false_eq_true,if_false]
 exact(congrArg (fun z=>z >>= fun r=>pure r) (key scope.names [] h)).trans rfl
theorem j9 {env:Env}:∀(l:List (Str×NameKind)) (cs:List (Str×Addr)),(∀ n,(n,NameKind.free)∈l→∃ c,env.cells.lookup n=some c)→(∀ x c,cs.lookup x=some c→env.cells.lookup x=some c) →
  ∀ x c,(dD env l cs).lookup x=some c→env.cells.lookup x=some c
 | [],cs,_,h,x,c,e=>h x c e
 | (n,k) :: r,cs,hl,h,x,c,e=>by
  refine j9 r _ (fun n hn=>hl n (List.mem_cons_of_mem _ hn)) ?_ x c e
  intro y d hy
  by_cases hk:(k == NameKind.free)=true
  ·rw[if_pos hk] at hy
   have hk':k=.free:=by simpa using hk
   subst hk'
   obtain⟨c',hc'⟩:=hl n List.mem_cons_self
   rw[hc',Option.getD_some,List.lookup_cons] at hy
   cases Ot:y == n with
   | true =>
    rw[Ot] at hy
    have:y=n:=by simpa using Ot
    subst this
    rw[hc'];exact hy
   | false=>rw[Ot] at hy;exact h y d hy
  ·rw[if_neg hk] at hy;exact h y d hy
theorem kZ {env:Env}:∀(l:List (Str×NameKind)) (cs:List (Str×Addr)) (x:Str),((x,NameKind.free)∈l∨∃ c,cs.lookup x=some c)→∃ c,(dD env l cs).lookup x=some c
 | [],cs,x,h=>by
  rcases h with h | h
  ·cases h
  ·exact h
 | (n,k) :: r,cs,x,h=>by
  refine kZ r _ x ?_
  rcases h with h | ⟨c,h⟩
  ·rcases List.mem_cons.mp h with e | h
   ·cases e
    refine .inr ⟨(env.cells.lookup n).getD 0,?_⟩
    simp[List.lookup_cons]
   ·exact .inl h
  ·right
   by_cases hk:(k == NameKind.free)=true
   ·rw[if_pos hk,List.lookup_cons]
    cases x == n with
    | true=>exact⟨_,rfl⟩
    | false=>exact⟨c,h⟩
   ·rw[if_neg hk];exact⟨c,h⟩
theorem iS {env:Env} (x:Str):∀(names:List (Str×NameKind)),
  (names.map fun (n,k)=>if (k == NameKind.free && env.scope.kind == .function && env.kindOf n == some .cell) then (n,NameKind.cell) else (n,k)).lookup x =
   (names.lookup x).map fun k=>if (k == NameKind.free && env.scope.kind == .function && env.kindOf x == some .cell) then NameKind.cell else k
 | []=>rfl
 | (n,k) :: r=>by
  have ih:=iS (env:=env) x r
  show List.lookup x ((if (k == NameKind.free && env.scope.kind == .function && env.kindOf n == some .cell)=true then (n,NameKind.cell) else (n,k)) :: _)=_
  cases hx:x == n with
  | true =>
   have e:x=n:=by simpa using hx
   subst e
   by_cases hc:(k == NameKind.free && env.scope.kind == .function && env.kindOf x == some .cell)=true
   ·rw[if_pos hc];simp only[List.lookup_cons,beq_self_eq_true,Option.map_some,if_pos hc]
   ·rw[if_neg hc];simp only[List.lookup_cons,beq_self_eq_true,Option.map_some,if_neg hc]
  | false =>
   by_cases hc:(k == NameKind.free && env.scope.kind == .function && env.kindOf n == some .cell)=true
   ·rw[if_pos hc];simp only[List.lookup_cons,hx];exact ih
   ·rw[if_neg hc];simp only[List.lookup_cons,hx];exact ih
structure aK (XN:List Str) (JG:Scope) (N:List Str) (nv:Nat) (js:List Nat) (scope:Scope):Prop where
 kind:scope.kind=.function
 cell:∀ y∈scope.names,y.2≠.cell
 loc:∀ y∈scope.names,y.2=.local→scope.names.lookup y.1=some .local
 free:∀ y∈scope.names,y.2=.free→(JG.names.lookup y.1=some .cell∨JG.names.lookup y.1=some .free)
 nd:N.Nodup
 len:N.length=nv+js.length
 pl:js.map (fun j=>XN[j]?)=(N.drop nv).map some
 fr:∀ x∈N.drop nv,scope.names.lookup x=some .free
abbrev cH (X:Cx) (N:List Str) (scope:Scope) (C:Addr) (s:Shared) (H:Hp) (fp:List Addr):Cx where
 prog:=X.prog
 w:=X.w
 K:=X.K
 mg:=X.mg
 base:=X.base
 A:=X.A
 N:=N
 s₀:=s
 H₀:=H
 env:=compEnvC scope (dD X.env scope.names []) C X.env
 outer:=X.stack
 stack:=X.stack
 ex:=fp
 fn:=fun _=>false
 calm:=X.calm
 pn:=[]
 xe:=fun _ _=>False
def nK (nv:Nat) (js:List Nat) (σ:St):St:=List.replicate nv none++js.map fun j=>(σ[j]?).getD none
section
variable {X:Cx}{pins:List (Addr×Obj)}{σ:St}{H:Hp}{s:Shared}
theorem rR {N:List Str}{nv:Nat}{js:List Nat}{scope:Scope}{fp:List Addr}{h1:Heap}{tk:Nat} (I:Inv X pins σ H s) (S:aK X.N X.env.scope N nv js scope) (hf:∀ b∈fp,kP X pins H b) (hfl:∀ b∈fp,b < s.heap.objs.size)
  (keep:∀ b o,s.heap.get? b=some o→h1.get? b=some o) (ns:h1.Ns s.heap.objs.size fun _=>none) :
  Inv (cH X N scope s.heap.objs.size s H fp) [] (nK nv js σ) H { s with heap:=h1,toks:=tk }:=by
 have hfr:∀ n,(n,NameKind.free)∈scope.names→∃ c,X.env.cells.lookup n=some c:=fun n hn=>I.ok.has n (S.free _ hn rfl)
 have sub:∀ x c,(dD X.env scope.names []).lookup x=some c→X.env.cells.lookup x=some c:=j9 scope.names [] hfr (fun x c z=>by cases z)
 have HQ:∀ x,scope.names.lookup x≠some .cell:=fun x z=>S.cell _ (PySem.mem_of_lookup z) rfl
 have Ou:∀ x,(relabel scope X.env).names.lookup x=some .cell∨(relabel scope X.env).names.lookup x=some .free→scope.names.lookup x=some .free:=by
  intro x hx
  have e:=iS (env:=X.env) x scope.names
  have hx':(relabel scope X.env).names.lookup x=_:=e
  rw[hx'] at hx
  cases q:scope.names.lookup x with
  | none=>rw[q] at hx;rcases hx with hx | hx <;> cases hx
  | some k =>
   rw[q,Option.map_some] at hx
   cases k <;> first | rfl | (exact absurd q (HQ x)) | (exfalso;rcases hx with hx | hx <;> simp at hx)
 refine⟨⟨I.ok.mod,S.kind,I.ok.glob,I.ok.blt,Nat.le_refl _,fun x y c h1 h2=>I.ok.inj x y c (sub _ _ h1) (sub _ _ h2),fun x hx=>?_,fun x c z=>(by cases z),I.ok.hd,I.ok.frames,.inl rfl,fun b hb=>?_,fun b o e=>?_,?_,fun b o e hb=>?_,fun b hb z=>?_,I.stack,I.uO⟩,
  rfl,I.bare,Un.kept keep,⟨_,ns,fun i x v e1 e2 e3=>?_⟩,fun x c e=>?_,I.hok.fresh (Nat.le_refl _),fun x c e=>I.gG x c (sub _ _ e),fun p hp=>absurd (show p∈([]:List (Addr×Obj)) from hp) (by simp),I.hok.kept keep,?_⟩
 ·exact kZ _ _ _ (.inl (PySem.mem_of_lookup (Ou x hx)))
 ·obtain⟨f0,f1,f2,f3,f4,f5⟩:=hf b hb
  exact⟨Nat.ne_of_lt (hfl b hb),fun x c e=>f4 x c (sub x c e)⟩
 ·exact I.bs b o e
 ·exact Nat.le_trans I.ok.C6 I.sz
 ·obtain⟨f0,f1,f2,f3,f4,f5⟩:=hf b hb
  rcases f3 with z | z
  ·exact I.ok.yM b o e z
  ·exact absurd (Nat.lt_of_lt_of_le (Heap.lt_size e) (Nat.le_trans I.ok.C6 z)) (Nat.lt_irrefl _)
 ·obtain⟨f0,f1,f2,f3,f4,f5⟩:=hf b hb
  rcases List.mem_cons.mp (I.pJ b z) with q | q
  ·exact f1 q
  ·exact f2 q
 ·
  have hi:¬i < nv:=fun hlt=>by
   unfold nK at e2
   rw[List.getElem?_append_left (by simpa using hlt),List.getElem?_replicate,if_pos hlt] at e2
   cases e2
  obtain⟨k,rfl⟩:∃ k,i=nv+k:=⟨i - nv,by omega⟩
  unfold nK at e2
  rw[List.getElem?_append_right (by simp),List.length_replicate,Nat.add_sub_cancel_left,List.getElem?_map] at e2
  cases hj:js[k]? with
  | none=>rw[hj] at e2;cases e2
  | some j =>
   rw[hj,Option.map_some] at e2
   have Nq:(σ[j]?).getD none=some v:=Option.some.inj e2
   have hσ:σ[j]? = some (some v):=by
    cases q:σ[j]? with
    | none=>rw[q] at Nq;cases Nq
    | some z=>rw[q] at Nq;exact congrArg some Nq
   have hd:(N.drop nv)[k]? = some x:=by rw[List.getElem?_drop];exact e1
   have hX:X.N[j]? = some x:=by
    have q:=congrArg (fun l=>l[k]?) S.pl
    simp only[List.getElem?_map,hj,hd,Option.map_some] at q
    exact Option.some.inj q
   have hfx:=S.fr x (List.mem_of_getElem? hd)
   have kx:=S.free _ (PySem.mem_of_lookup hfx) rfl
   obtain⟨m,_,hl⟩:=I.loc
   obtain⟨u,r,l⟩:=hl j x v hX hσ (.inr kx)
   refine⟨u,r,?_⟩
   rcases l with ⟨k1,_⟩ | ⟨_,c,hc,hcell⟩
   ·exfalso
    have Rk:X.env.scope.names.lookup x=some .local:=k1
    rcases kx with z | z <;> (rw[Rk] at z;cases z)
   ·obtain⟨c',hc'⟩:=kZ (env:=X.env) scope.names [] x (.inl (PySem.mem_of_lookup hfx))
    have e:=sub _ _ hc'
    rw[hc] at e;cases e
    refine .inr ⟨?_,c,hc',hcell.keeps keep⟩
    have e:=iS (env:=X.env) x scope.names
    have e':(relabel scope X.env).names.lookup x=_:=e
    rw[hfx,Option.map_some] at e'
    show(relabel scope X.env).names.lookup x=some .cell∨(relabel scope X.env).names.lookup x=some .free
    rw[e']
    split
    ·exact .inl rfl
    ·exact .inr rfl
 ·obtain⟨v,q⟩:=I.cell x c (sub _ _ e)
  exact⟨v,q.keeps keep⟩
 ·unfold nK
  show _=N.length
  rw[List.length_append,List.length_replicate,List.length_map,S.len]
end
def w5 (X:Cx) (ifs:List Expr) (t:TT):Prop :=
 ∀(pins:List (Addr×Obj)) (s:Shared) (σ:St) (H:Hp) (Q:Bool→Hp→Prop),Inv X pins σ H s→t σ H Q →
  wpAny (model X.prog X.w) X.A (forIn ifs true fun c r=>if r=true then do let ok ←isTrue c X.env (eval c X.env);pure (ForInStep.yield ok) else pure (ForInStep.yield r)) (TP X pins σ Q) X.xe s
def HR:TT:=fun _ H Q=>Q true H
theorem bW {X:Cx}:w5 X [] HR:=fun _ _ _ H _ I h=>wpAny_tests_nil ⟨H,I,h⟩
def oA (J:It) (g:TG) (tt:TT) (te:TE) (Q:VK) (D:Addr) (τ:St) (H:Hp):Prop :=
 ∃ W:Nat→Nat→List V→St→Hp→Prop,(∃ m,W 0 m [] τ (upd H D (.lst [])))∧∀ i m ys τ H,W i m ys τ H→H D=some (.lst ys) ∧
  ((J.stop i H∧Q (.ref D) H)∨(J.go i H∧∃ N:List V→St→Hp→Prop,(∀ zs σ' H',N zs σ' H'→∃ m',m' < m∧W (i+1) m' zs σ' H')∧∀ x H',J.Hy i H x H'→g x τ H' fun τ2 H2=>tt τ2 H2 fun b H3 =>
   if b=true then te τ2 H3 fun y H4=>H4 D=some (.lst ys)∧ys.length < sizeLine∧N (ys++[y]) τ2 (upd H4 D (.lst (ys++[y])))
   else N ys τ2 H3))
def DK (wi:TI) (g:TG) (tt:TT) (te:TE) (nv:Nat) (js:List Nat):TE:=fun σ H Q=>wi σ H fun J H1=>∀ D,H1 D=none→oA J g tt te Q D (nK nv js σ) H1
theorem rS {prog:Program}{w:World}{A:Around}{R:Result→Shared→Prop}{s:Shared}{elt target iter:Expr}{ifs:List Expr}{scope:Scope}{pos:Pos}{it acc:Value}{env:Env} (I:Nat→Shared→Prop)
  (turn:∀ n s,I n s→wpAny (model prog w) A (pyNext it) (fun r s₁=>match r with
   | none=>R (.ok .next) s₁
   | some v=>wpAny (model prog w) A (letOwnedTupleGo target it v) (fun _ s₁'=>wpAny (model prog w) A (assign target env v) (fun _ s₂ =>
     wpAny (model prog w) A (forIn ifs true fun c r=>if r=true then do let ok ←isTrue c env (eval c env);pure (ForInStep.yield ok) else pure (ForInStep.yield r)) (fun ok s₃ =>
      if ok=true then wpAny (model prog w) A (eval elt env) (fun x s₄ =>
       wpAny (model prog w) A (call (.builtin "list.append") [acc,x]) (fun _ s₅=>∃ m,m < n∧I m s₅) (fun _ _=>False) s₄) (fun _ _=>False) s₃
      else ∃ m,m < n∧I m s₃) (fun _ _=>False) s₂) (fun _ _=>False) s₁') (fun _ _=>False) s₁) (fun _ _=>False) s)
  (n:Nat) (h:I n s) :
  codeAny (model prog w) A (.compLoop (.ListComp elt [⟨target,iter,ifs,0⟩] scope pos) 0 it acc env) R s:=by
 refine codeAny_loop rfl I (fun n s hI=>?_) n h
 show wpAny _ A ((compTurn (.ListComp elt [⟨target,iter,ifs,0⟩] scope pos) 0 it acc env).onRaise (fun x=>do noteFrame x env;theTreesLotGoes x)) _ _ s
 refine wpAny_noted (wpAny_mono (E:=fun _ _=>False) ?_ (fun _ _ q=>q) fun _ _ q=>q.elim)
 rw[compTurn_list]
 refine wpAny_bind (wpAny_standAt (wpAny_bind (wpAny_mono (turn n s hI) (fun r s₁ h₁=>?_) fun _ _ h'=>h')))
 cases r with
 | none=>exact wpAny_pure h₁
 | some v =>
  refine wpAny_bind (wpAny_mono h₁ (fun _ s₁' h₁'=>?_) fun _ _ h'=>h')
  refine wpAny_bind (wpAny_mono h₁' (fun _ s₂ h₂=>wpAny_bind (wpAny_mono h₂ (fun ok s₃ h₃=>?_) fun _ _ h'=>h')) fun _ _ h'=>h')
  cases ok with
  | false=>exact wpAny_pure ⟨rfl,h₃⟩
  | true =>
   exact wpAny_bind (wpAny_bind (wpAny_mono h₃ (fun x s₄ h₄=>wpAny_bind (wpAny_mono h₄ (fun _ s₅ h₅=>wpAny_pure (wpAny_pure ⟨rfl,h₅⟩)) fun _ _ h'=>h')) fun _ _ h'=>h'))
section
variable {X:Cx}{elt tg iter:Expr}{ifs:List Expr}{scope:Scope}{pos:Pos}{N:List Str}{nv:Nat}{js:List Nat}{wi:TI}{g:TG}{tt:TT}{te:TE}
theorem rT {pins:List (Addr×Obj)}{σ:St}{H:Hp}{s:Shared}{Q:VK}{it:Addr}{fp:List Addr}{tn:Nat→Heap→Prop}{J:It}{E:Value→Shared→Prop}{RR:Value→Addr→Result→Shared→Prop} (hc:X.calm=true)
  (S:aK X.N X.env.scope N nv js scope) (hg:∀ C s H fp,PG (cH X N scope C s H fp) tg g) (ht:∀ C s H fp,w5 (cH X N scope C s H fp) ifs tt) (he:∀ C s H fp,PE (cH X N scope C s H fp) elt te)
  (I:Inv X pins σ H s) (T:Turn X.prog X.w X.K tg J fp it tn) (st:tn 0 s.heap) (hf:∀ b∈fp,kP X pins H b) (hR:∀ D,H D=none→oA J g tt te Q D (nK nv js σ) H)
  (hRR:∀ D C H' s' m,Inv X pins σ H' s'→kP X pins H' C→s'.heap.Ns C m→Q (.ref D) H'→RR (.ref D) C (.ok .next) s') :
  wpAny (model X.prog X.w) X.A (newList []) (fun acc s₃=>wpAny (model X.prog X.w) X.A (newFunctionEnv scope X.env.globals (dD X.env scope.names []) [] X.env.qual none .none (some X.env)) (fun cenv s₄ =>
   codeAny (model X.prog X.w) X.A (.compStart (.ListComp elt [⟨tg,iter,ifs,0⟩] scope pos) 0 (.ref it) acc { cenv with scope:=relabel scope X.env }) (RR acc cenv.locals) s₄) E s₃) E s:=by
 refine wpAny_newObj_type (wpAny_newFunctionEnv S.cell (by intro y hy;simp at hy) (fun h₁ rU rV=>?_) S.kind)
 have I3:Inv X pins σ (upd H s.heap.objs.size (.lst [])) { s with heap:=s.heap.push { cls:=.type "list",data:=.seq ([]:List Value).toArray } }:=I.FF (t':=s.toks) (its:=[]) .nil (Nat.zero_le _)
 have hD:=I.fresh
 obtain⟨W,⟨m0,w0⟩,turn⟩:=hR s.heap.objs.size hD
 have ho:=T.obj 0 s.heap st
 have DL:∀ b∈fp,b < s.heap.objs.size:=fun b hb=>let ⟨o,e,_⟩:=ho b hb;Heap.lt_size e
 have yY:∀ b∈fp,kP X pins (upd H s.heap.objs.size (.lst [])) b:=fun b hb=>⟨by rw[aC (Nat.ne_of_lt (DL b hb))];exact(hf b hb).1,(hf b hb).2⟩
 generalize HS:({ s with heap:=s.heap.push { cls:=.type "list",data:=.seq ([]:List Value).toArray } }:Shared)=s3 at I3 rU rV
 have e3:s3.heap=s.heap.push { cls:=.type "list",data:=.seq ([]:List Value).toArray }:=by rw[←HS]
 have hfl:∀ b∈fp,b < s3.heap.objs.size:=fun b hb=>by rw[e3,Heap.size_push];exact Nat.lt_succ_of_lt (DL b hb)
 have keep:∀ b o,s3.heap.get? b=some o→h₁.get? b=some o:=fun b o e=>rV.extBut b o (Nat.ne_of_lt (Heap.lt_size e)) (Heap.get?_push_of_some _ e)
 have J0:=rR (tk:=s3.toks+([]:List (Str×Value)).length) I3 S yY hfl keep rU
 have st1:tn 0 h₁:=T.keep 0 s.heap h₁ st fun b hb o e=>keep b o (by rw[e3];exact Heap.get?_push_of_some _ e)
 generalize T3:upd H s.heap.objs.size (.lst [])=H3 at *
 generalize hY:cH X N scope s3.heap.objs.size s3 H3 fp=Y at *
 have sub:∀ x c,(dD X.env scope.names []).lookup x=some c→X.env.cells.lookup x=some c :=
  j9 scope.names [] (fun n hn=>I.ok.has n (S.free _ hn rfl)) (fun x c z=>by cases z)
 have rO:∀{H':Hp},(∀ b∈fp,H' b=none)→∀ b∈fp,kP Y [] H' b:=fun {H'} hn b hb=>by
  subst hY
  obtain⟨f0,f1,f2,f3,f4,f5⟩:=yY b hb
  refine⟨hn b hb,Nat.ne_of_lt (hfl b hb),fun z=>?_,.inl hb,fun x c e=>f4 x c (sub x c e),fun p hp=>absurd (show p∈([]:List (Addr×Obj)) from hp) (by simp)⟩
  rcases List.mem_cons.mp (I3.pJ b z) with q | q
  ·exact f1 q
  ·exact f2 q
 have eA:Y.A=X.A:=by subst hY;rfl
 have eP:Y.prog=X.prog:=by subst hY;rfl
 have eW:Y.w=X.w:=by subst hY;rfl
 have eK:Y.K=X.K:=by subst hY;rfl
 have eC:Y.calm=true:=by subst hY;exact hc
 have eE:Y.env=compEnvC scope (dD X.env scope.names []) s3.heap.objs.size X.env:=by subst hY;rfl
 have FI:Y.xe=fun _ _=>False:=by subst hY;rfl
 have Ov:PG Y tg g:=by subst hY;exact hg _ _ _ _
 have Ow:w5 Y ifs tt:=by subst hY;exact ht _ _ _ _
 have Ox:PE Y elt te:=by subst hY;exact he _ _ _ _
 have loop:codeAny (model X.prog X.w) X.A (.compLoop (.ListComp elt [⟨tg,iter,ifs,0⟩] scope pos) 0 (.ref it) (.ref s.heap.objs.size) (compEnvC scope (dD X.env scope.names []) s3.heap.objs.size X.env))
   (RR (.ref s.heap.objs.size) s3.heap.objs.size) { s3 with heap:=h₁,toks:=s3.toks+([]:List (Str×Value)).length }:=by
  refine rS (fun n s'=>∃ i ys τ H',Inv Y [] τ H' s'∧tn i s'.heap∧(∀ b∈fp,H' b=none)∧W i n ys τ H') ?_ m0 ⟨0,[],_,H3,J0,st1,fun b hb=>(yY b hb).1,w0⟩
  rintro n s4 ⟨i,ys,τ,H4,I4,KI,KJ,w4⟩
  obtain⟨T4,tr⟩:=turn i n ys τ H4 w4
  rcases tr with ⟨stop,qn⟩ | ⟨go,Nn,KL,step⟩
  ·have d:=T.done Y eP eW eK eC i [] s4 τ H4 (fun _ _=>False) I4 (rO KJ) KI stop
   rw[eA] at d
   refine bZ d fun r s5 ⟨hr,I5⟩=>?_
   subst hr
   have u:Inv X pins σ H4 s5:=by
    subst hY
    exact I3.wV (ch:=fp) I5.os I5.base I5.hok I5.bare fun b hb=>⟨(yY b hb).2.2.2.1,(yY b hb).2.1,(yY b hb).2.2.2.2.1,(yY b hb).2.2.2.2.2⟩
   have hC:H4 s3.heap.objs.size=none:=by have z:=I5.free;rw[eE] at z;exact z
   obtain⟨m,hn,_⟩:=I5.loc
   rw[eE] at hn
   exact hRR _ _ H4 s5 m u (I3.wX (Nat.le_refl _) hC) hn qn
  ·have d:=T.item Y eP eW eK eC i [] s4 τ H4 (fun _ _=>False) I4 (rO KJ) KI go
   rw[eA] at d
   refine bZ d fun r s5 ⟨u,hr,h5⟩=>?_
   subst hr
   refine bZ h5 fun _ s6 ⟨x,H6,I6,r6,y6,HU,Oz⟩=>?_
   have OA:=I6.pinned (rO Oz) (T.obj _ _ HU)
   have q6:=Ov _ s6 τ H6 x u _ OA r6 (step x H6 y6)
   rw[eP,eW,eA,eE,FI] at q6
   refine bZ q6 fun _ s7 ⟨σ7,H7,I7,q7⟩=>?_
   have q8:=Ow _ s7 σ7 H7 _ I7 q7
   rw[eP,eW,eA,eE,FI] at q8
   refine bZ q8 fun ok s8 ⟨H8,I8,q8⟩=>?_
   have again:∀{σ9:St}{H9:Hp}{s9:Shared}{zs:List V},Inv Y ([]++pM fp s6.heap) σ9 H9 s9→(∃ m',m' < n∧W (i+1) m' zs σ9 H9)→∃ m,m < n∧∃ i ys τ H',Inv Y [] τ H' s9∧tn i s9.heap∧(∀ b∈fp,H' b=none)∧W i m ys τ H':=fun {σ9 H9 s9 zs} I9 n9=>by
    obtain⟨m',hm,w9⟩:=n9
    refine⟨m',hm,i+1,zs,σ9,H9,I9.kX,T.keep _ _ _ HU fun b hb o e=>(I9.pin (b,o) (List.mem_append_right _ (List.mem_append_right _ (gj hb e)))).1,fun b hb=>?_,w9⟩
    obtain⟨o,e,d⟩:=T.obj _ _ HU b hb
    exact(I9.pin (b,o) (List.mem_append_right _ (List.mem_append_right _ (gj hb e)))).2.1
   cases ok with
   | false =>
    rw[if_neg Bool.false_ne_true]
    rw[if_neg Bool.false_ne_true] at q8
    exact again I8 (KL _ _ _ q8)
   | true =>
    rw[if_pos rfl]
    rw[if_pos rfl] at q8
    have q9:=Ox _ s8 σ7 H8 _ I8 q8
    rw[eP,eW,eA,eE,FI] at q9
    refine bZ q9 fun y s9 ⟨yv,H9,I9,r9,OB,OC,q9⟩=>?_
    have ap:=mq (X:=Y) _ s9 σ7 H9 (.ref s.heap.objs.size) [yv] (.ref s.heap.objs.size) [y] (fun _ KN=>Nn (ys++[yv]) σ7 KN) I9 rfl (.cons r9 .nil) ⟨_,ys,yv,rfl,rfl,OB,OC,q9⟩
    rw[eP,eW,eA,FI] at ap
    exact bZ ap fun _ T5 ⟨_,KN,OD,_,OE⟩=>again OD (KL _ _ _ OE)
 subst HS
 exact codeAny_compStart_list loop (T.self _ 0 _ _ _ st1 loop)
theorem iF (hc:X.calm=true) (S:aK X.N X.env.scope N nv js scope) (hi:PI X tg iter wi) (hg:∀ C s H fp,PG (cH X N scope C s H fp) tg g) (ht:∀ C s H fp,w5 (cH X N scope C s H fp) ifs tt)
  (he:∀ C s H fp,PE (cH X N scope C s H fp) elt te) (hs:∀ x,foldedSetIterable iter X.env x=pure x:=by intro _;rfl) :
  PE X (.ListComp elt [⟨tg,iter,ifs,0⟩] scope pos) (DK wi g tt te nv js):=by
 intro pins s σ H Q I h
 rw[eval_ListComp]
 refine wpAny_comprehension_free (use:=none) rfl hs (jx fun n hn=>I.ok.has n (S.free _ hn rfl)) S.kind S.loc (bZ (hi pins s σ H _ I h) fun v s1 h1=>bZ h1 fun itv s2 h2=>?_)
 obtain⟨it,fp,tn,J,H2,e,I2,T,st2,f2,hR⟩:=h2
 subst e
 refine rT (RR:=fun acc C=>compPost (model X.prog X.w) X.A X.xe none (EP X pins σ Q) acc C) hc S hg ht he I2 T st2 f2 hR ?_
 intro D C H' s' m I' fC hn q
 refine⟨m,hn,fun h' sb=>⟨.ref D,H',?_,rfl,q⟩⟩
 exact I'.turned (t':=s'.toks) (fun b o hb e=>(sb.2 b hb).trans e) fC.1 fC.2.1 fC.2.2.2.1 fC.2.2.2.2.1 fC.2.2.2.2.2
theorem kg {i:Nat}{x:Str}{pos' spos:Pos} (hc:X.calm=true) (hN:X.N.Nodup) (hi':X.N[i]? = some x) (hx:X.env.scope.names.lookup x=some .local) (S:aK X.N X.env.scope N nv js scope) (hi:PI X tg iter wi) (hg:∀ C s H fp,PG (cH X N scope C s H fp) tg g) (ht:∀ C s H fp,w5 (cH X N scope C s H fp) ifs tt)
  (he:∀ C s H fp,PE (cH X N scope C s H fp) elt te) (hsw:swapsWith (.ListComp elt [⟨tg,iter,ifs,0⟩] scope pos) (some (.Name x pos')) spos.line X.env=pure true:=by rfl) (hs:∀ x,foldedSetIterable iter X.env x=pure x:=by intro _;rfl) :
  PS X (.Assign [.Name x pos'] (.ListComp elt [⟨tg,iter,ifs,0⟩] scope pos) spos) (Bm (DK wi g tt te nv js) (ig i)):=by
 intro pins s σ H D I h
 rw[exec_Assign_Name_used _ _ _ _ hsw]
 refine wpAny_bind (wpAny_standAt (wpAny_bind ?_))
 show wpAny _ X.A (do let _ ←comprehension (.ListComp elt [⟨tg,iter,ifs,0⟩] scope pos) scope X.env _ (newList []) false (eval iter X.env) (some (assign (.Name x pos') X.env))) _ _ s
 refine wpAny_bind (wpAny_mono (wpAny_comprehension_free (use:=some (assign (.Name x pos') X.env)) (Q:=fun _ s'=>SP X pins D .next s') rfl hs (jx fun n hn=>I.ok.has n (S.free _ hn rfl)) S.kind S.loc
  (bZ (hi pins s σ H _ I h) fun v s1 h1=>bZ h1 fun itv s2 h2=>?_)) (fun _ s' hq=>wpAny_pure (wpAny_pure hq)) fun _ _ e=>e)
 obtain⟨it,fp,tn,J,H2,e,I2,T,st2,f2,hR⟩:=h2
 subst e
 refine rT (RR:=fun acc C=>compPost (model X.prog X.w) X.A X.xe (some (assign (.Name x pos') X.env)) (fun _ s'=>SP X pins D .next s') acc C) hc S hg ht he I2 T st2 f2 hR ?_
 intro Dl C H' s' m I' fC hn q
 show wpAny _ X.A (assign (.Name x pos') X.env (.ref Dl)) _ _ _
 refine wpAny_assign_Name (uq I' hN hi' (.inl hx) (v:=.ref Dl) rfl (fun s2 I3 ch=>?_) (.inr hx))
 obtain⟨a,sb,ha⟩:=ch
 have T6:C≠a:=by
  rcases ha with rfl | ha
  ·exact fC.2.1
  ·exact(fC.2.2.2.2.1 x a ha).symm
 refine⟨m,hn.sameBut sb T6,fun h' sb'=>⟨_,H',?_,q⟩⟩
 exact I3.turned (t':=s2.toks) (fun b o hb e=>(sb'.2 b hb).trans e) fC.1 fC.2.1 fC.2.2.2.1 fC.2.2.2.2.1 fC.2.2.2.2.2
end
section
variable {prog:Program}{w:World}{A:Around}{E:Value→Shared→Prop}{s:Shared}
end
section
variable {X:Cx}{e:Expr}{te:TE}
end
def sg (c:Nat):Str:=⟨#[c]⟩
def OG (z:Str):It:=⟨fun i _=>i < z.cps.size,fun i H x H'=>H'=H∧∃ c,z.cps[i]? = some c∧x=.str (sg c),fun i _=>z.cps.size≤i⟩
theorem DM {P:Program}{w:World}{K:W.Frag}{tg:Expr} (it:Addr) (z:Str) (t:Tok):Turn P w K tg (OG z) [it] it (fun i h=>h.IsStrIter it (strIterType z) z t i) where
 mem:=by simp
 obj:=fun i h st b hb=>by
  have e:b=it:=by simpa using hb
  subst e
  obtain⟨o,e,c,d⟩:=st
  exact⟨o,e,fun v z=>by rw[d] at z;cases z⟩
 keep:=fun i h h' st k=>by
  obtain⟨o,e,r⟩:=st
  exact⟨o,k it (by simp) o e,r⟩
 item:=by
  intro X hP hw hK hc i pins s σ H E I hf st hg
  subst hP hw hK
  obtain⟨f0,f1,f2,f3,f4,f5⟩:=hf it (by simp)
  have hi:i < z.cps.size:=hg
  have hx:z.cps[i]? = some z.cps[i]:=by simp[hi]
  cases ha:z.cps.all (· < 128) with
  | true =>
   have et:strIterType z = "str_ascii_iterator" := by simp only[strIterType,ha,if_true]
   rw[et] at st ⊢
   refine wpAny_pyNext_ascii_item st hx fun h' st' sb=>?_
   have I1:Inv X pins σ H { s with heap:=h',toks:=s.toks+1 }:=I.turned (fun b o hb e=>(sb.2 b hb).trans e) f0 f1 f3 f4 f5
   obtain⟨o,e,c,d⟩:=id st'
   exact⟨_,rfl,ur (s:={ s with heap:=h',toks:=s.toks+1 }) e c d (by decide) ⟨.str (sg z.cps[i]),H,I1,⟨_,rfl⟩,⟨rfl,_,hx,rfl⟩,st',fun b hb=>(hf b hb).1⟩⟩
  | false =>
   have et:strIterType z = "str_iterator" := by simp only[strIterType,ha,Bool.false_eq_true,if_false]
   rw[et] at st ⊢
   refine wpAny_pyNext_wide_item st hx fun h' st' sb=>?_
   have I1:Inv X pins σ H { s with heap:=h',toks:=s.toks+1 }:=I.turned (fun b o hb e=>(sb.2 b hb).trans e) f0 f1 f3 f4 f5
   obtain⟨o,e,c,d⟩:=id st'
   exact⟨_,rfl,ur (s:={ s with heap:=h',toks:=s.toks+1 }) e c d (by decide) ⟨.str (sg z.cps[i]),H,I1,⟨_,rfl⟩,⟨rfl,_,hx,rfl⟩,st',fun b hb=>(hf b hb).1⟩⟩
 done:=by
  intro X hP hw hK hc i pins s σ H E I hf st hg
  subst hP hw hK
  obtain⟨f0,f1,f2,f3,f4,f5⟩:=hf it (by simp)
  have hi:z.cps.size≤i:=hg
  have hx:z.cps[i]? = none:=by simp[hi]
  cases ha:z.cps.all (· < 128) with
  | true =>
   have et:strIterType z = "str_ascii_iterator" := by simp only[strIterType,ha,if_true]
   rw[et] at st
   exact wpAny_pyNext_ascii_end (I.ok.hd hc) st hx fun h' eb=>⟨rfl,I.turned (t':=s.toks) (fun b o hb e=>eb b o hb e) f0 f1 f3 f4 f5⟩
  | false =>
   have et:strIterType z = "str_iterator" := by simp only[strIterType,ha,Bool.false_eq_true,if_false]
   rw[et] at st
   exact wpAny_pyNext_wide_end (I.ok.hd hc) st hx fun h' eb=>⟨rfl,I.turned (t':=s.toks) (fun b o hb e=>eb b o hb e) f0 f1 f3 f4 f5⟩
 self:=by
  intro A i s Q E st h
  cases ha:z.cps.all (· < 128) with
  | true =>
   have et:strIterType z = "str_ascii_iterator" := by simp only[strIterType,ha,if_true]
   rw[et] at st
   exact wpAny_pyIter_striter_ascii st h
  | false =>
   have et:strIterType z = "str_iterator" := by simp only[strIterType,ha,Bool.false_eq_true,if_false]
   rw[et] at st
   exact wpAny_pyIter_striter_wide st h
section
variable {X:Cx}{tg:Expr}
def OH (tl:TE):TI:=fun σ H R=>tl σ H fun x H1=>∃ z,x=.str z∧R (OG z) H1
theorem HV {l:Expr}{tl:TE} (hl:PE X l tl):PI X tg l (OH tl):=by
 intro pins s σ H R I h
 refine bZ (hl pins s σ H _ I h) fun v s1 ⟨x,H1,I1,r1,q1⟩=>?_
 obtain⟨z,e,q⟩:=q1
 subst e
 obtain⟨t,rfl⟩:=r1
 refine wpAny_pyIter_strU ?_
 refine⟨s1.heap.objs.size,[s1.heap.objs.size],_,_,H1,rfl,I1.kept (t':=s1.toks) fun b o e=>Heap.get?_push_of_some _ e,DM _ z t,⟨_,Heap.get?_push_size _ rfl,rfl,rfl⟩,fun b hb=>?_,q⟩
 have e:b=s1.heap.objs.size:=by simpa using hb
 subst e
 exact I1.wX (Nat.le_refl _) (I1.hok.fresh (Nat.le_refl _))
end
theorem bX {K:W.Frag}{a:Addr}{xs:List V}{g:TG}{tt:TT}{te:TE}{Q:VK}{D:Addr}{τ:St}{H:Hp} (Pv:Nat→List V→St→Hp→Prop) (h0:Pv 0 [] τ (upd H D (.lst [])))
  (hl:∀ i ys τ H,i≤xs.length→Pv i ys τ H→aS K H a xs∧H D=some (.lst ys))
  (hs:∀ i x ys τ H,xs[i]? = some x→Pv i ys τ H→g x τ H fun τ2 H2=>tt τ2 H2 fun b H3=>if b=true then te τ2 H3 fun y H4=>H4 D=some (.lst ys)∧ys.length < sizeLine∧Pv (i+1) (ys++[y]) τ2 (upd H4 D (.lst (ys++[y]))) else Pv (i+1) ys τ2 H3)
  (hd:∀ ys τ H,Pv xs.length ys τ H→Q (.ref D) H) :
  oA (JB K a) g tt te Q D τ H:=by
 refine⟨fun i m ys τ H=>m=xs.length - i∧i≤xs.length∧Pv i ys τ H,⟨xs.length,by simp,Nat.zero_le _,h0⟩,?_⟩
 rintro i m ys τ H ⟨rfl,hi,p⟩
 obtain⟨q,hD⟩:=hl i ys τ H hi p
 refine⟨hD,?_⟩
 by_cases hlt:i < xs.length
 ·refine .inr ⟨⟨xs,xs[i],q,by simp[hlt]⟩,Pv (i+1),fun zs σ' H' p'=>⟨xs.length - (i+1),by omega,rfl,hlt,p'⟩,fun x H' y=>?_⟩
  obtain⟨e,y⟩:=y
  subst e
  exact hs i x ys τ _ (y xs q) p
 ·have e:i=xs.length:=by omega
  subst e
  exact .inl ⟨⟨xs,q,Nat.le_refl _⟩,hd ys τ H p⟩
theorem DN {z:Str}{g:TG}{tt:TT}{te:TE}{Q:VK}{D:Addr}{τ:St}{H:Hp} (Pv:Nat→List V→St→Hp→Prop) (h0:Pv 0 [] τ (upd H D (.lst [])))
  (hl:∀ i ys τ H,i≤z.cps.toList.length→Pv i ys τ H→H D=some (.lst ys))
  (hs:∀ i c ys τ H,z.cps.toList[i]? = some c→Pv i ys τ H→g (.str (sg c)) τ H fun τ2 H2=>tt τ2 H2 fun b H3=>if b=true then te τ2 H3 fun y H4=>H4 D=some (.lst ys)∧ys.length < sizeLine∧Pv (i+1) (ys++[y]) τ2 (upd H4 D (.lst (ys++[y]))) else Pv (i+1) ys τ2 H3)
  (hd:∀ ys τ H,Pv z.cps.toList.length ys τ H→Q (.ref D) H) :
  oA (OG z) g tt te Q D τ H:=by
 have hz:z.cps.toList.length=z.cps.size:=by simp
 refine⟨fun i m ys τ H=>m=z.cps.size - i∧i≤z.cps.size∧Pv i ys τ H,⟨z.cps.size,by simp,Nat.zero_le _,h0⟩,?_⟩
 rintro i m ys τ H ⟨rfl,hi,p⟩
 refine⟨hl i ys τ H (by omega) p,?_⟩
 by_cases hlt:i < z.cps.size
 ·refine .inr ⟨hlt,Pv (i+1),fun zs σ' H' p'=>⟨z.cps.size - (i+1),by omega,rfl,hlt,p'⟩,fun x H' y=>?_⟩
  obtain⟨e,c,hc,ex⟩:=y
  subst e ex
  exact hs i c ys τ _ (by simpa using hc) p
 ·have e:i=z.cps.size:=by omega
  subst e
  exact .inl ⟨Nat.le_refl _,hd ys τ H (by rw[hz];exact p)⟩
theorem rW {lo:Int}{n:Nat}{g:TG}{tt:TT}{te:TE}{Q:VK}{D:Addr}{τ:St}{H:Hp} (Pv:Nat→List V→St→Hp→Prop) (h0:Pv 0 [] τ (upd H D (.lst [])))
  (hl:∀ i ys τ H,i≤n→Pv i ys τ H→H D=some (.lst ys))
  (hs:∀ i ys τ H,i < n→Pv i ys τ H→g (.int (lo+i)) τ H fun τ2 H2=>tt τ2 H2 fun b H3=>if b=true then te τ2 H3 fun y H4=>H4 D=some (.lst ys)∧ys.length < sizeLine∧Pv (i+1) (ys++[y]) τ2 (upd H4 D (.lst (ys++[y]))) else Pv (i+1) ys τ2 H3)
  (hd:∀ ys τ H,Pv n ys τ H→Q (.ref D) H) :
  oA (GN lo n) g tt te Q D τ H:=by
 refine⟨fun i m ys τ H=>m=n - i∧i≤n∧Pv i ys τ H,⟨n,by simp,Nat.zero_le _,h0⟩,?_⟩
 rintro i m ys τ H ⟨rfl,hi,p⟩
 refine⟨hl i ys τ H hi p,?_⟩
 by_cases hlt:i < n
 ·refine .inr ⟨hlt,Pv (i+1),fun zs σ' H' p'=>⟨n - (i+1),by omega,rfl,hlt,p'⟩,fun x H' y=>?_⟩
  obtain⟨e,y⟩:=y
  subst e y
  exact hs i ys τ _ hlt p
 ·have e:i=n:=by omega
  subst e
  exact .inl ⟨Nat.le_refl _,hd ys τ H p⟩
theorem mw:∀{zs:List Str}{us:List Value},Vals (zs.map V.str) us→StrsAre us zs
 | [],_,r=>by cases r;exact .nil
 | z :: zs,_,r=>by
  cases r with
  | cons r1 r2 =>
   obtain⟨t,e⟩:=r1
   subst e
   exact .cons z t (mw r2)
section
variable {X:Cx}
theorem w6:gH X (.builtin "isinstance") (fun xs H Q=>∃ x c t b,xs=[x,c]∧gI X.K H x t∧((∃ n,c=.ty n∧W.kitOne X.K t (.type n)=some b)∨(∃ a,c=.ref a∧W.kitOne X.K t (.ref a)=some b))∧Q (.bl b) H):=by
 intro pins s σ H xs us Q I r h
 obtain⟨x,c,t,b,rfl,ty,hc,q⟩:=h
 obtain⟨u,w',rfl,ru,rw'⟩:=vals2 r
 rcases hc with ⟨n,rfl,e⟩ | ⟨a,rfl,e⟩
 ·cases rw'
  exact uv I ru ty e fun tk=>⟨.bl b,H,I.tok tk,rfl,q⟩
 ·cases rw'
  exact uv I ru ty e fun tk=>⟨.bl b,H,I.tok tk,rfl,q⟩
end
section
variable {X:Cx}
end
section
variable {X:Cx} (K:W.Frag) (h:X.K=K)
include h
theorem DO:JE X (HF K):=by subst h;exact FD
theorem FJ:JE X (HG K):=by subst h;exact HH
theorem iT:Kv X (Kz K):=by subst h;exact FE
theorem FL:Kv X (Kw K):=by subst h;exact HE
theorem bx:gH X (.builtin "len") (fun xs H Q=>∃ p ys,xs=[.ref p]∧(aS K H p ys∨iN K H p ys)∧Q (.int ys.length) H):=by subst h;exact u0
theorem dR:gH X (.builtin "isinstance") (fun xs H Q=>∃ x c t b,xs=[x,c]∧gI K H x t∧((∃ n,c=.ty n∧W.kitOne K t (.type n)=some b)∨(∃ a,c=.ref a∧W.kitOne K t (.ref a)=some b))∧Q (.bl b) H):=by subst h;exact w6
theorem gC:gH X (.type "list") (fun xs H Q=>∃ p ys,xs=[.ref p]∧(aS K H p ys∨iN K H p ys)∧∀ l,H l=none→Q (.ref l) (upd H l (.lst ys))):=by subst h;exact u9
theorem iU:gH X (.type "tuple") (fun xs H Q=>∃ p ys,xs=[.ref p]∧((aS K H p ys∧∀ l,H l=none→Q (.ref l) (upd H l (.tup ys)))∨(iN K H p ys∧Q (.ref p) H))):=by subst h;exact tE
theorem lg:pH X (binaryOp .Add) (GR K):=by subst h;exact Fz
theorem bG {tg l:Expr}{tl:TE} (hl:PE X l tl):PI X tg l (GO K tl):=by subst h;exact Fi hl
theorem AU {tg l:Expr}{tl:TE} (hl:PE X l tl):PI X tg l (Kg K tl):=by subst h;exact Hz hl
theorem vd {es:List Expr}{k:Nat}{pos:Pos}{t:GL} (n:Nat) (hc:X.calm=true) (hh:Ka X es t)
 (hn:(assignEach es X.env).length=n:=by rfl) (hst:(assignEach es X.env).findIdx? (·.1)=none:=by rfl):PG X (.Tuple es k pos) (Ke K n t):=by subst h;exact Hx hc hh hn hst
theorem FP {o:Expr}{to:TE}{name:Str}{apos cpos:Pos}{T id:String}{r:V→List V→Hp→VK→Prop} (pa:PlainAttrs T) (slot:Slot T name id) (hty:typeOf (.builtin id)=pure (.type "method_descriptor")) (hm:Ky X id r) (ho:PE X o to)
 (hbase:attributeBase o name X.env (eval o X.env)=eval o X.env:=by rfl) (hline:(apos.endLine == cpos.line)=true:=by rfl):PE X (.Call (.Attribute o name apos) [] [] cpos) (KA K T r to):=by subst h;exact HM pa slot hty hm ho hbase hline
theorem yZ {o e:Expr}{es:List Expr}{to:TE}{t:TA}{name:Str}{apos cpos:Pos}{T id:String}{r:V→List V→Hp→VK→Prop} (pa:PlainAttrs T) (slot:Slot T name id) (hty:typeOf (.builtin id)=pure (.type "method_descriptor")) (hm:Ky X id r) (ho:PE X o to) (ha:PA X (e :: es) t)
 (hbase:attributeBase o name X.env (eval o X.env)=eval o X.env:=by rfl)
 (hfew:((backTo cpos (starEach (e :: es) X.env)).all (fun x=>!x.1) && (backToKw cpos (keywordEach [] X.env)).all (fun x=>x.1.isSome)
  && decide ((e :: es).length+([]:List Keyword).length+(if ([]:List Keyword).isEmpty then 0 else 1) < 30))=true:=by rfl)
 (hline:(apos.endLine == cpos.line)=true:=by rfl) (hs:starEach (e :: es) X.env=(false,eval e X.env) :: starEach es X.env:=by rfl) (hplain:(backTo cpos (starEach es X.env)).any (·.1)=false:=by rfl) :
 PE X (.Call (.Attribute o name apos) (e :: es) [] cpos) (Rh K T r to t):=by subst h;exact KC pa slot hty hm ho ha hbase hfew hline hs hplain
end
section
variable {X:Cx}
theorem e8 {x:Str}{a:Addr}{pos:Pos} (hg:Gl X x) (hm:X.mg x=some (.ref a)) (hd:(x == ("__debug__" : Str))=false:=by decide):PE X (.Name x pos) (tC (.ref a)):=AF hg hm rfl hd
theorem HW (n:String) {x:Str}{pos:Pos} (hg:Gl X x) (hm:X.mg x=none) (hv:bootBuiltins x=some (.type n)) (hn:x ≠ "__name__" := by decide) (hd:(x == ("__debug__" : Str))=false:=by decide):PE X (.Name x pos) (tC (.ty n)):=Ff hg hm hv rfl hn hd
end
structure FQ (K:W.Frag) (x qual:Str) (st:Stmt) (f:Addr) (fd:FuncData) (dV:Value):Prop where
 ex:∃(oc:Value) (od:Option Addr) (kV doc pm:Value) (an:Option Addr) (cdv ct:Value) (osl:Array (Option Value)),
  fd=W.fnOf x qual (cN st) (bO st) (av st) dV kV doc pm an cdv ct∧K.lookup f=some ⟨oc,od,.func fd,osl⟩∧W.codeIn K cdv qual=true
 kp:W.keepIn K (.ref f)=true
section
variable {P:Program}{w:World}{K:W.Frag}{mg:Str→Option Value}{base:Heap}
theorem FT {x qual:Str}{st:Stmt}{f:Addr}{oc dV:Value}{od an:Option Addr}{osl:Array (Option Value)}{kV doc pm cdv ct:Value} (l:K.lookup f=some ⟨oc,od,.func (W.fnOf x qual (cN st) (bO st) (av st) dV kV doc pm an cdv ct),osl⟩)
 (c:W.codeIn K cdv qual=true) (k:W.keepIn K (.ref f)=true):FQ K x qual st f (W.fnOf x qual (cN st) (bO st) (av st) dV kV doc pm an cdv ct) dV:=⟨⟨oc,od,kV,doc,pm,an,cdv,ct,osl,rfl,l,c⟩,k⟩
end
section
variable {X:Cx}
theorem qk:∀{bs:List Bool}{us:List Value}{i:Nat}{u:Value},Vals (bs.map V.bl) us→us[i]? = some u→u=.bool (bs.getD i true)
 | [],_,_,_,r,e=>by cases r;simp at e
 | b :: bs,_,i,u,r,e=>by
  cases r with
  | cons r1 r2 =>
   cases i with
   | zero=>simp at e;subst e;exact r1
   | succ i=>simp at e;simpa using qk r2 e
theorem all_range (bs:List Bool):((List.range bs.length).all fun i=>bs.getD i true)=bs.all id:=by
 rw[Bool.eq_iff_iff,List.all_eq_true,List.all_eq_true]
 constructor
 ·intro h b hb
  obtain⟨i,hi,rfl⟩:=List.mem_iff_getElem.mp hb
  have:=h i (by simpa using hi)
  simpa [List.getD,hi] using this
 ·intro h i hi
  have hi':i < bs.length:=by simpa using hi
  have:=h bs[i] (List.getElem_mem hi')
  simpa [List.getD,hi'] using this
def KO (K:W.Frag):List V→Hp→VK→Prop:=fun xs H Q=>∃(p:Addr) (bs:List Bool),xs=[.ref p]∧aS K H p (bs.map V.bl)∧Q (.bl (bs.all id)) H
theorem DP (hc:X.calm=true):gH X (.builtin "all") (KO X.K):=by
 intro pins s σ H xs us Q I r h
 obtain⟨p,bs,rfl,hq,q⟩:=h
 obtain⟨u,rfl,ru⟩:=vals1 r
 cases ru
 obtain⟨its,rv,pl,hz⟩:=I.list hq
 have hlen:=rv.length
 rw[List.length_map] at hlen
 have hpl:p < s.heap.objs.size:=by obtain⟨o,ho,_⟩:=pl.isList;exact Heap.lt_size ho
 refine call_all_walk (wpAny_pyIter_list pl.isList ⟨s.heap.objs.size,_,_,_,_,_,fun i=>bs.getD i true,rfl,Walks.list (A:=X.A.in1) (show X.A.in1.handled=none from I.ok.hd hc) s.heap.objs.size p (Nat.ne_of_lt hpl) its.toArray,⟨⟨_,Heap.get?_push_size _ rfl,rfl,rfl⟩,pl.isList.at fun o e=>Heap.get?_push_of_some _ e⟩,?_,?_⟩)
 ·intro i v s' Q' E' hv hq'
  have e:its[i]? = some v:=by simpa using hv
  rw[qk rv e]
  exact wpAny_truthy_bool hq'
 ·intro h' tk hk
  have f0:=I.wX (Nat.le_refl s.heap.objs.size) (I.hok.fresh (Nat.le_refl _))
  have I2:Inv X pins σ H { s with heap:=s.heap.push { cls:=.type "list_iterator",data:=.fields #[.ref p,rawInt 0] } }:=I.kept (t':=s.toks) fun b o e=>Heap.get?_push_of_some _ e
  have I3:=I2.turned (h':=h') (t':=tk) (it:=s.heap.objs.size) (fun b o hb e=>hk b o (by simpa using hb) e) f0.1 f0.2.1 f0.2.2.2.1 f0.2.2.2.2.1 f0.2.2.2.2.2
  refine⟨.bl (bs.all id),H,I3,?_,q⟩
  show Value.bool _=Value.bool _
  rw[List.size_toArray,←hlen,all_range]
theorem iO (K:W.Frag) (h:X.K=K) (hc:X.calm=true):gH X (.builtin "all") (KO K):=by subst h;exact DP hc
def HX:V→List V→Hp→VK→Prop:=fun x vs H Q=>∃(z:Str) (c:Nat),x=.str z∧vs=[.str (sg c)]∧Q (.int (PyProof.Rows.cnt c z.cps.toList)) H
theorem DQ:Ky X "str.count" HX:=by
 intro pins s σ H x vs v us Q I rx rv h
 obtain⟨z,c,rfl,rfl,q⟩:=h
 obtain⟨t,rfl⟩:=rx
 obtain⟨u,rfl,ru⟩:=rv.one
 obtain⟨t',rfl⟩:=ru
 exact SC.count ⟨.int _,H,I.tok _,⟨_,rfl⟩,by
  have e:Txt.count z (sg c)=PyProof.Rows.cnt c z.cps.toList:=PyProof.Rows.count_is z c
  rw[e];exact q⟩
theorem AV:∀{l:List Nat}{c:Nat},l.Nodup→c∈l→PyProof.Rows.cnt c l=1
 | [],_,_,h=>by cases h
 | n :: r,c,nd,h=>by
  rw[PyProof.Rows.cnt_cons]
  obtain⟨n1,n2⟩:=List.nodup_cons.mp nd
  by_cases e:n=c
  ·subst e
   rw[if_pos rfl,PyProof.Rows.cnt_none _ _ n1];rfl
  ·rw[if_neg e,AV n2 ((List.mem_cons.mp h).resolve_left (Ne.symm e))];rfl
theorem DR:∀{x:V},qj x=true→JF x x=true
 | .non,_=>rfl
 | .bl b,_=>by cases b <;> rfl
 | .int i,_=>by simp[JF]
 | .str z,_=>by simp[JF]
end
inductive kH (K:W.Frag) (H:Hp):Nat→V→V→Prop where
 | flat {n:Nat}{x y:V}:qj x=true→qj y=true→JF x y=true→kH K H n x y
 | ref {n:Nat}{a:Addr}:kH K H n (.ref a) (.ref a)
 | tup {n:Nat}{a b:Addr}{xs ys:List V}:iN K H a xs→iN K H b ys→xs.length=ys.length→(∀(j:Nat) x y,xs[j]? = some x→ys[j]? = some y→kH K H n x y)→kH K H (n+1) (.ref a) (.ref b)
 | lst {n:Nat}{a b:Addr}{xs ys:List V}:aS K H a xs→aS K H b ys→xs.length=ys.length→(∀(j:Nat) x y,xs[j]? = some x→ys[j]? = some y→kH K H n x y)→kH K H (n+1) (.ref a) (.ref b)
theorem all_true (n:Nat):(List.range n).all (fun _=>true)=true:=by rw[List.all_eq_true];intro _ _;rfl
section
variable {X:Cx}{pins:List (Addr×Obj)}{σ:St}{H:Hp}{s:Shared}
theorem gk {A:Around}{R:V→V→Prop}{xs ys:List V}{us ws:List Value} (r1:Vals xs us) (r2:Vals ys ws) (h:∀(j:Nat) x y u w,xs[j]? = some x→ys[j]? = some y→RelV x u→RelV y w→SeqAt.EqAt A s u w true) (j:Nat) (h1:j < us.toArray.size) (h2:j < ws.toArray.size) :
  SeqAt.EqAt A s us.toArray[j] ws.toArray[j] true:=by
 have hl1:=r1.length
 have hl2:=r2.length
 have hj1:j < xs.length:=by rw[hl1];simpa using h1
 have hj2:j < ys.length:=by rw[hl2];simpa using h2
 obtain⟨u,eu,ru⟩:=r1.get (i:=j) (x:=xs[j]) (by simp[hj1])
 obtain⟨w,ew,rw'⟩:=r2.get (i:=j) (x:=ys[j]) (by simp[hj2])
 have e1:us.toArray[j]=u:=by
  obtain⟨_,q⟩:=List.getElem?_eq_some_iff.mp eu
  simpa using q
 have e2:ws.toArray[j]=w:=by
  obtain⟨_,q⟩:=List.getElem?_eq_some_iff.mp ew
  simpa using q
 rw[e1,e2]
 exact h j _ _ u w (by simp[hj1]) (by simp[hj2]) ru rw'
theorem mC (I:Inv X pins σ H s) {n:Nat}{x y:V} (h:kH X.K H n x y):∀{A:Around}{u v:Value},A.units+n < cLine→RelV x u→RelV y v→SeqAt.EqAt A s u v true:=by
 induction h with
 | flat f1 f2 e=>intro A u v _ ru rv;rw[←e];exact HL ru rv f1 f2
 | ref=>intro A u v _ ru rv;cases ru;cases rv;exact SeqAt.EqAt.same _
 | @tup n a b xs ys ha hb hl _ ih =>
  intro A u v hu ru rv
  cases ru;cases rv
  by_cases e:a=b
  ·subst e;exact SeqAt.EqAt.same _
  ·obtain⟨its,r1,p1,_⟩:=I.tuple ha
   obtain⟨its2,r2,p2,_⟩:=I.tuple hb
   refine SeqAt.EqAt.of_refs e ?_
   have q:=SeqAt.RcAt.tuples (A:=A) (e:=fun _=>true) p1 p2 (by omega) fun j h1 h2=>gk (R:=fun _ _=>True) r1 r2 (fun j x y u w ex ey ru rw'=>ih j x y ex ey (by show A.units+1+n < cLine;omega) ru rw') j h1 h2
   have e2:((List.range (min its.toArray.size its2.toArray.size)).all (fun _=>true) && its.toArray.size == its2.toArray.size)=true:=by
    rw[all_true,List.size_toArray,List.size_toArray,←r1.length,←r2.length,hl];simp
   rw[e2] at q
   exact q
 | @lst n a b xs ys ha hb hl _ ih =>
  intro A u v hu ru rv
  cases ru;cases rv
  by_cases e:a=b
  ·subst e;exact SeqAt.EqAt.same _
  ·obtain⟨its,r1,p1,_⟩:=I.list ha
   obtain⟨its2,r2,p2,_⟩:=I.list hb
   refine SeqAt.EqAt.of_refs e ?_
   have q:=SeqAt.RcAt.lists (A:=A) (e:=fun _=>true) p1.isList p2.isList (by rw[List.size_toArray,List.size_toArray,←r1.length,←r2.length,hl]) (by omega) fun j h1 h2=>gk (R:=fun _ _=>True) r1 r2 (fun j x y u w ex ey ru rw'=>ih j x y ex ey (by show A.units+1+n < cLine;omega) ru rw') j h1 h2
   rw[all_true] at q
   exact q
end
section
variable {X:Cx}
def TopD (K:W.Frag) (H:Hp) (x y:V):Prop:=∃(n:Nat) (a b:Addr) (xs ys:List V),x=.ref a∧y=.ref b∧n≤50∧xs.length=ys.length∧((iN K H a xs∧iN K H b ys)∨(aS K H a xs∧aS K H b ys))∧∀(j:Nat) x y,xs[j]? = some x→ys[j]? = some y→kH K H n x y
def OI (K:W.Frag):R2:=fun x y H Q=>TopD K H x y∧Q (.bl true) H
def OJ (K:W.Frag):R2:=fun x y H Q=>TopD K H x y∧Q (.bl false) H
theorem DS (K:W.Frag) (hK:X.K=K) (hu:X.A.units+64 < cLine):pH X (compareOp .Eq) (OI K):=by
 subst hK
 intro pins s σ H x y v u Q I rx ry h
 obtain⟨⟨n,a,b,xs,ys,rfl,rfl,hn,hl,hk,hs⟩,q⟩:=h
 cases rx;cases ry
 rcases hk with ⟨ha,hb⟩ | ⟨ha,hb⟩
 ·obtain⟨its,r1,p1,_⟩:=I.tuple ha
  obtain⟨its2,r2,p2,_⟩:=I.tuple hb
  refine SeqAt.eq_tupleAt (e:=fun _=>true) p1 p2 (by omega) (fun j h1 h2=>gk (R:=fun _ _=>True) r1 r2 (fun j x y u w ex ey ru rw'=>mC I (hs j x y ex ey) (by show X.A.units+1+n < cLine;omega) ru rw') j h1 h2) ⟨.bl true,H,I,?_,q⟩
  show Value.bool _=Value.bool _
  rw[all_true,List.size_toArray,List.size_toArray,←r1.length,←r2.length,hl];simp
 ·obtain⟨its,r1,p1,_⟩:=I.list ha
  obtain⟨its2,r2,p2,_⟩:=I.list hb
  refine SeqAt.eq_listAt (e:=fun _=>true) p1.isList p2.isList (by rw[List.size_toArray,List.size_toArray,←r1.length,←r2.length,hl]) (by omega) (fun j h1 h2=>gk (R:=fun _ _=>True) r1 r2 (fun j x y u w ex ey ru rw'=>mC I (hs j x y ex ey) (by show X.A.units+1+n < cLine;omega) ru rw') j h1 h2) ⟨.bl true,H,I,?_,q⟩
  show Value.bool _=Value.bool _
  rw[all_true]
theorem DT (K:W.Frag) (hK:X.K=K) (hu:X.A.units+64 < cLine):pH X (compareOp .NotEq) (OJ K):=by
 subst hK
 intro pins s σ H x y v u Q I rx ry h
 obtain⟨⟨n,a,b,xs,ys,rfl,rfl,hn,hl,hk,hs⟩,q⟩:=h
 cases rx;cases ry
 show wpAny _ _ (richCompare .NotEq (.ref a) (.ref b)) _ _ _
 rcases hk with ⟨ha,hb⟩ | ⟨ha,hb⟩
 ·obtain⟨its,r1,p1,_⟩:=I.tuple ha
  obtain⟨its2,r2,p2,_⟩:=I.tuple hb
  refine SeqAt.RcNeAt.tuples (e:=fun _=>true) p1 p2 (by omega) (fun j h1 h2=>gk (R:=fun _ _=>True) r1 r2 (fun j x y u w ex ey ru rw'=>mC I (hs j x y ex ey) (by show X.A.units+1+n < cLine;omega) ru rw') j h1 h2) _ _ _ _ ⟨.bl false,H,I,?_,q⟩
  show Value.bool _=Value.bool _
  rw[all_true,List.size_toArray,List.size_toArray,←r1.length,←r2.length,hl];simp
 ·obtain⟨its,r1,p1,_⟩:=I.list ha
  obtain⟨its2,r2,p2,_⟩:=I.list hb
  refine SeqAt.RcNeAt.lists (e:=fun _=>true) p1.isList p2.isList (by rw[List.size_toArray,List.size_toArray,←r1.length,←r2.length,hl]) (by omega) (fun j h1 h2=>gk (R:=fun _ _=>True) r1 r2 (fun j x y u w ex ey ru rw'=>mC I (hs j x y ex ey) (by show X.A.units+1+n < cLine;omega) ru rw') j h1 h2) _ _ _ _ ⟨.bl false,H,I,?_,q⟩
  show Value.bool _=Value.bool _
  rw[all_true];rfl
end
section
variable {X:Cx}
theorem AW {x:Str}{z:Int}{t:Tok}{pos:Pos} (hg:Gl X x) (hm:X.mg x=some (.int z t)) (hd:(x == ("__debug__" : Str))=false:=by decide):PE X (.Name x pos) (tC (.int z)):=AF hg hm ⟨t,rfl⟩ hd
end
section
variable {X:Cx}{CX:Br}{k:Nat}{f C:Addr}{fd:FuncData}{ps ks:List Str}{sp:Sp}{E:XK}{x m:Str}{p pos apos kpos:Pos}{e o:Expr}{es:List Expr}{kws:List Keyword}{te ta:TE}{t tk:TA}{nm:Option Str}
 {g:List Value→List Value→List Value}{gV:List V→List V→List V}
end
section
variable {X:Cx}{pins:List (Addr×Obj)}{σ:St}{H:Hp}{s:Shared}
end
section
variable {X:Cx}
end
section
variable {X:Cx}{pins:List (Addr×Obj)}{σ:St}{H:Hp}{s:Shared}{h':Heap}
end
section
variable {prog:Program}{w:World}{A:Around}{E:Value→Shared→Prop}{s:Shared}
end
section
variable {X:Cx}{e:Expr}{te:TE}
end
section
variable {prog:Program}{w:World}{A:Around}{E:Value→Shared→Prop}{s:Shared}
end
section
variable {X:Cx}
end
section
variable {X:Cx}
end
theorem DU {K:W.Frag}{a:Addr}{xs:List V}{g:TG}{tt:TT}{te:TE}{Q:VK}{D:Addr}{τ:St}{H:Hp} (Pv:Nat→List V→St→Hp→Prop) (h0:Pv 0 [] τ (upd H D (.lst [])))
  (hl:∀ i ys τ H,i≤xs.length→Pv i ys τ H→iN K H a xs∧H D=some (.lst ys))
  (hs:∀ i x ys τ H,xs[i]? = some x→Pv i ys τ H→g x τ H fun τ2 H2=>tt τ2 H2 fun b H3=>if b=true then te τ2 H3 fun y H4=>H4 D=some (.lst ys)∧ys.length < sizeLine∧Pv (i+1) (ys++[y]) τ2 (upd H4 D (.lst (ys++[y]))) else Pv (i+1) ys τ2 H3)
  (hd:∀ ys τ H,Pv xs.length ys τ H→Q (.ref D) H) :
  oA (JC K a) g tt te Q D τ H:=by
 refine⟨fun i m ys τ H=>m=xs.length - i∧i≤xs.length∧Pv i ys τ H,⟨xs.length,by simp,Nat.zero_le _,h0⟩,?_⟩
 rintro i m ys τ H ⟨rfl,hi,p⟩
 obtain⟨q,hD⟩:=hl i ys τ H hi p
 refine⟨hD,?_⟩
 by_cases hlt:i < xs.length
 ·refine .inr ⟨⟨xs,xs[i],q,by simp[hlt]⟩,Pv (i+1),fun zs σ' H' p'=>⟨xs.length - (i+1),by omega,rfl,hlt,p'⟩,fun x H' y=>?_⟩
  obtain⟨e,y⟩:=y
  subst e
  exact hs i x ys τ _ (y xs q) p
 ·have e:i=xs.length:=by omega
  subst e
  exact .inl ⟨⟨xs,q,Nat.le_refl _⟩,hd ys τ H p⟩
section
variable {prog:Program}{w:World}{A:Around}{E:Value→Shared→Prop}{s:Shared}
end
section
variable {prog:Program}{w:World}{A:Around}{E:Value→Shared→Prop}{s:Shared}
end
section
variable {prog:Program}{w:World}{A:Around}{E:Value→Shared→Prop}{s:Shared}
end
section
variable {X:Cx}
end
section
variable {X:Cx}{pins:List (Addr×Obj)}{σ:St}{H:Hp}{s:Shared}
end
section
variable {X:Cx}
end
def HY (h₀:Heap) (H:Hp) (h:Heap) (e:Addr) (vs:Array Value):Option Value→Prop
 | none=>vs[1]? = some .none∧vs[2]? = some .none
 | some v=>∃ T oT ts,vs[1]? = some (.ref T)∧H T=none∧h₀.get? T=none∧T≠e∧h.get? T=some oT∧oT.data=.fields ts∧ts[3]? = some v∧vs[2]? = some .none
theorem HY.cx {h₀:Heap}{H:Hp}{h:Heap}{e:Addr}{vs:Array Value}{fl:Option Value} (x:HY h₀ H h e vs fl):vs[2]? = some .none:=by
 cases fl with
 | none=>exact x.2
 | some v=>obtain⟨_,_,_,_,_,_,_,_,_,_,z⟩:=x;exact z
structure Exc (h₀:Heap) (H:Hp) (h:Heap) (e:Addr) (C:Value) (od:Option Addr) (fl:Option Value):Prop where
 fr:H e=none
 nw:h₀.get? e=none
 tr:∃ oe vs,h.get? e=some oe∧oe.cls=C∧oe.dict=od∧oe.data=.fields vs∧HY h₀ H h e vs fl
structure Mv (fs ch:List Addr) (h h':Heap):Prop where
 keep:∀ b o,b∉ch→b∉fs→h.get? b=some o→h'.get? b=some o
 slot:∀ b o,b∉ch→h.get? b=some o→∃ sl,h'.get? b=some { o with slots:=sl }
 there:∀ b o,h.get? b=some o→∃ o',h'.get? b=some o'
theorem Mv.trans {fs ch:List Addr}{h h1 h2:Heap} (a:Mv fs ch h h1) (b:Mv fs ch h1 h2):Mv fs ch h h2 :=
 ⟨fun c o n1 n2 q=>b.keep c o n1 n2 (a.keep c o n1 n2 q),fun c o n q=>let ⟨sl,q1⟩:=a.slot c o n q;let ⟨sl2,q2⟩:=b.slot c _ n q1;⟨sl2,q2⟩,fun c o q=>let ⟨o1,q1⟩:=a.there c o q;b.there c o1 q1⟩
theorem Mv.mono {fs fs' ch ch':List Addr}{h h':Heap} (a:Mv fs ch h h') (hf:∀ b∈fs,b∈fs') (hc:∀ b∈ch,b∈ch'):Mv fs' ch' h h' :=
 ⟨fun c o n1 n2 q=>a.keep c o (fun z=>n1 (hc c z)) (fun z=>n2 (hf c z)) q,fun c o n q=>a.slot c o (fun z=>n (hc c z)) q,a.there⟩
theorem Mv.refl {fs ch:List Addr}{h:Heap}:Mv fs ch h h:=⟨fun _ _ _ _ q=>q,fun _ o _ q=>⟨o.slots,q⟩,fun _ o q=>⟨o,q⟩⟩
theorem Mv.of_slots {fs ch:List Addr}{h h':Heap} (x:Heap.SlotsOnly fs h h'):Mv fs ch h h' :=
 ⟨fun b o _ n q=>(x.2.1 b n).trans q,fun b o _ q=>x.2.2 b o q,fun b o q=>let ⟨sl,e⟩:=x.2.2 b o q;⟨_,e⟩⟩
theorem Mv.push {fs ch:List Addr}{h:Heap} (o:Obj):Mv fs ch h (h.push o) :=
 ⟨fun b u _ _ q=>Heap.get?_push_of_some _ q,fun b u _ q=>⟨u.slots,Heap.get?_push_of_some _ q⟩,fun b u q=>⟨u,Heap.get?_push_of_some _ q⟩⟩
theorem Mv.upd {fs ch:List Addr}{h:Heap}{a:Addr}{f:Obj→Obj}{o:Obj} (ha:a∈ch) (q:h.get? a=some o) (hf:(f o).isFreed=false):Mv fs ch h (h.update a f):=by
 have ne:∀ b,b∉ch→a≠b:=fun b n z=>n (z ▸ ha)
 refine⟨fun b u n _ e=>(Heap.get?_update_other _ _ (ne b n)).trans e,fun b u n e=>⟨u.slots,(Heap.get?_update_other _ _ (ne b n)).trans e⟩,fun b u e=>?_⟩
 by_cases hb:a=b
 ·subst hb;exact⟨_,Heap.get?_update_self _ q hf⟩
 ·exact⟨u,(Heap.get?_update_other _ _ hb).trans e⟩
theorem Mv.frames {fs ch:List Addr}{h h' base:Heap} (x:Mv fs ch h h') {l:List Env} (hl:h.FunFrames base l) (hc:∀ b∈ch,∀ o,h.get? b=some o→∃ vs,o.data=.fields vs):h'.FunFrames base l :=
 hl.of_keeps fun b o q nf=>by
  have n:b∉ch:=fun z=>let ⟨vs,e⟩:=hc b z o q;nf vs e
  obtain⟨sl,e⟩:=x.slot b o n q
  exact⟨_,e,rfl⟩
section
variable {M:Model}{A:Around}{E:Value→Shared→Prop}{s:Shared}{base:Heap}{env:Env}{outer:List Env}{L e:Addr}{Q:Unit→Shared→Prop}
theorem uC {oe:Obj}{vs:Array Value}{head:Value}{hn:Bool} (hfr:A.frames=some (env :: outer)) (hl:s.heap.FunFrames base (env :: outer)) (hf:env.frame=some L)
  (he:s.heap.get? e=some oe) (hd:oe.data=.fields vs) (hsz:1 < vs.size)
  (k:∀ h' T oT ts,Mv (frs (env :: outer)) [e] s.heap h'→s.heap.objs.size≤T→T≠e→h'.get? e=some (oe.mapFields (·.setIfInBounds 1 (.ref T)))→h'.get? T=some oT→oT.data=.fields ts→ts[3]? = some (rawInt L)→Q () { s with heap:=h' }) :
  wpAny M A (do let a ←frameOf env;let pl ←entryPlaceOf L hn;let b ←EntryCells.newEntry head a .none (rawInt L) .none pl;setField (.ref e) 1 b) Q E s:=by
 have hnf:e∉(env :: outer).filterMap (·.frame):=fun z=>by
  obtain⟨_,o,ho,nf⟩:=hl.mem z
  rw[he] at ho
  cases ho
  exact nf vs hd
 refine wpAny_bind (wpAny_frameOf_fun hfr hl hf fun h1 s1=>wpAny_bind (wpAny_entryPlaceOf fun pl hpl=>?_))
 unfold EntryCells.newEntry newFields
 refine wpAny_bind (wpAny_newObj_type ?_ (hpl.sizeOk5 _ _ _ _ _))
 have e1:h1.get? e=some oe:=(s1.2.1 e hnf).trans he
 have e2:=fun o=>Heap.get?_push_of_some (h:=h1) o e1
 refine wpAny_setField (e2 _) hd hsz ?_
 have hne:h1.objs.size≠e:=Nat.ne_of_gt (Heap.lt_size e1)
 have fd:=Obj.data_mapFields hd (·.setIfInBounds 1 (Value.ref h1.objs.size))
 have m1:Mv (frs (env :: outer)) [e] s.heap h1:=Mv.of_slots s1
 refine k _ h1.objs.size _ _ ((m1.trans (Mv.push _)).trans (Mv.upd (List.mem_singleton.mpr rfl) (e2 _) (Obj.isFreed_of_fields fd))) ?_ hne (Heap.get?_update_self _ (e2 _) (Obj.isFreed_of_fields fd)) ((Heap.get?_update_other _ _ (Ne.symm hne)).trans (Heap.get?_push_size h1 rfl)) rfl ?_
 ·rw[s1.1];exact Nat.le_refl _
 ·first | (simp;done) | (rcases hpl with rfl | ⟨_,_,_,_,_,_,_,rfl⟩ <;> simp)
end
section
variable {M:Model}{A:Around}{E:Value→Shared→Prop}{s:Shared}{base h₀:Heap}{H:Hp}{env:Env}{outer:List Env}{L e:Addr}{C:Value}{od:Option Addr}{Q:Unit→Shared→Prop}
def HZ (h₀:Heap) (H:Hp) (ch:List Addr):Prop:=∀ b∈ch,H b=none∧h₀.get? b=none
theorem rX (oe:Obj) (f:Array Value→Array Value):(oe.mapFields f).cls=oe.cls:=Obj.cls_mapFields _ _
theorem pS (oe:Obj) (f:Array Value→Array Value):(oe.mapFields f).dict=oe.dict:=by
 obtain⟨c,d,dt,sl⟩:=oe
 cases dt <;> rfl
theorem xg {fl:Option Value} (hfr:A.frames=some (env :: outer)) (hl:s.heap.FunFrames base (env :: outer)) (hf:env.frame=some L)
  (x:Exc h₀ H s.heap e C od fl) (hfl:fl=none∨fl=some .none∨fl=some (rawInt L))
  (ht:∀ b o,h₀.get? b=some o→∃ o',s.heap.get? b=some o') (hH:∀ b,s.heap.objs.size≤b→H b=none)
  (k:∀ h' ch,HZ h₀ H ch→Mv (frs (env :: outer)) ch s.heap h'→Exc h₀ H h' e C od (some (rawInt L))→Q () { s with heap:=h' }) :
  wpAny M A (noteFrame (.ref e) env) Q E s:=by
 obtain⟨fr,nw,oe,vs,he,hc,hdi,hd,fa⟩:=x
 have KP:∀ T,s.heap.get? T=none→h₀.get? T=none:=fun T hT=>by
  cases q:h₀.get? T with
  | none=>rfl
  | some o=>obtain⟨o',z⟩:=ht T o q;rw[hT] at z;cases z
 unfold noteFrame
 simp only[hf]
 rcases hfl with rfl | rfl | rfl
 ·obtain⟨h1,Ia⟩:=fa
  refine wpAny_bind (wpAny_field he hd h1 ?_)
  rw[if_neg (by decide)]
  have hsz:=(Array.getElem?_eq_some_iff.mp h1).1
  refine uC hfr hl hf he hd hsz fun h' T oT ts m zT hne e1 eT dT t3=>?_
  have nT:s.heap.get? T=none:=Heap.get?_none_of_le zT
  have hT:H T=none:=hH T zT
  refine k h' [e] (fun b hb=>?_) m ⟨fr,nw,_,_,e1,(rX _ _).trans hc,(pS _ _).trans hdi,Obj.data_mapFields hd _,T,oT,ts,by simp[hsz],hT,KP T nT,hne,eT,dT,t3,by rw[Array.getElem?_setIfInBounds_ne (by decide)];exact Ia⟩
  rw[List.mem_singleton.mp hb]
  exact⟨fr,nw⟩
 ·obtain⟨T0,o0,t0,h1,n0,w0,GU,q0,d0,z3,Ia⟩:=fa
  refine wpAny_bind (wpAny_field he hd h1 ?_)
  rw[if_pos (show(Value.ref T0 != Value.none)=true from by simp)]
  refine wpAny_bind (wpAny_field q0 d0 z3 ?_)
  rw[if_neg (show ¬((Value.none == rawInt L)=true) from by simp[rawInt])]
  have T7:=(Array.getElem?_eq_some_iff.mp z3).1
  refine wpAny_bind (wpAny_setField q0 d0 T7 ?_)
  have hsz:=(Array.getElem?_eq_some_iff.mp h1).1
  have m0:Mv (frs (env :: outer)) [e,T0] s.heap (s.heap.update T0 (Obj.mapFields (·.setIfInBounds 3 Value.none))) :=
   Mv.upd (List.mem_cons_of_mem _ (List.mem_singleton.mpr rfl)) q0 (Obj.isFreed_of_fields (Obj.data_mapFields d0 _))
  have GV:(s.heap.update T0 (Obj.mapFields (·.setIfInBounds 3 Value.none))).get? e=some oe:=(Heap.get?_update_other _ _ GU).trans he
  have hl1:(s.heap.update T0 (Obj.mapFields (·.setIfInBounds 3 Value.none))).FunFrames base (env :: outer):=m0.frames hl fun b hb o q=>by
   rcases List.mem_cons.mp hb with rfl | hb
   ·rw[he] at q;cases q;exact⟨vs,hd⟩
   ·rw[List.mem_singleton.mp hb,q0] at q;cases q;exact⟨t0,d0⟩
  have zs:(s.heap.update T0 (Obj.mapFields (·.setIfInBounds 3 Value.none))).objs.size=s.heap.objs.size:=Heap.size_after_update ..
  refine uC (s:={ s with heap:=s.heap.update T0 (Obj.mapFields (·.setIfInBounds 3 Value.none)) }) hfr hl1 hf GV hd hsz fun h' T oT ts m zT hne e1 eT dT t3=>?_
  have zT:s.heap.objs.size≤T:=by rw[←zs];exact zT
  have nT:s.heap.get? T=none:=Heap.get?_none_of_le zT
  refine k h' [e,T0] (fun b hb=>?_) (m0.trans (m.mono (fun _ z=>z) fun b z=>by rw[List.mem_singleton.mp z];exact List.mem_cons_self)) ⟨fr,nw,_,_,e1,(rX _ _).trans hc,(pS _ _).trans hdi,Obj.data_mapFields hd _,T,oT,ts,by simp[hsz],hH T zT,KP T nT,hne,eT,dT,t3,by rw[Array.getElem?_setIfInBounds_ne (by decide)];exact Ia⟩
  rcases List.mem_cons.mp hb with rfl | hb
  ·exact⟨fr,nw⟩
  ·rw[List.mem_singleton.mp hb];exact⟨n0,w0⟩
 ·obtain⟨T0,o0,t0,h1,n0,w0,GU,q0,d0,z3,Ia⟩:=fa
  refine wpAny_bind (wpAny_field he hd h1 ?_)
  rw[if_pos (show(Value.ref T0 != Value.none)=true from by simp)]
  refine wpAny_bind (wpAny_field q0 d0 z3 ?_)
  rw[if_pos (show(rawInt L == rawInt L)=true from by simp)]
  refine wpAny_pure ?_
  exact k s.heap [] (fun b hb=>nomatch hb) Mv.refl ⟨fr,nw,oe,vs,he,hc,hdi,hd,T0,o0,t0,h1,n0,w0,GU,q0,d0,z3,Ia⟩
theorem oB {v:Value} (x:Exc h₀ H s.heap e C od (some v)) (k:∀ h' ch,HZ h₀ H ch→Mv [] ch s.heap h'→Exc h₀ H h' e C od (some .none)→Q () { s with heap:=h' }) :
  wpAny M A (setFlight (.ref e) none) Q E s:=by
 obtain⟨fr,nw,oe,vs,he,hc,hdi,hd,T,oT,ts,h1,n0,w0,GU,q0,d0,z3,Ia⟩:=x
 have hsz:=(Array.getElem?_eq_some_iff.mp z3).1
 refine wpAny_setFlight_none he hd h1 q0 d0 hsz (k _ [T] (fun b hb=>?_) (Mv.upd (List.mem_singleton.mpr rfl) q0 (Obj.isFreed_of_fields (Obj.data_mapFields d0 _))) ⟨fr,nw,oe,vs,(Heap.get?_update_other _ _ GU).trans he,hc,hdi,hd,T,_,_,h1,n0,w0,GU,Heap.get?_update_self _ q0 (Obj.isFreed_of_fields (Obj.data_mapFields d0 _)),Obj.data_mapFields d0 _,by simp[hsz],Ia⟩)
 rw[List.mem_singleton.mp hb]
 exact⟨n0,w0⟩
theorem Bv {fl:Option Value} (hfr:A.frames=some (env :: outer)) (hl:s.heap.FunFrames base (env :: outer)) (hf:env.frame=some L)
  (x:Exc h₀ H s.heap e C od fl) (hfl:fl=none∨fl=some .none∨fl=some (rawInt L))
  (ht:∀ b o,h₀.get? b=some o→∃ o',s.heap.get? b=some o') (hH:∀ b,s.heap.objs.size≤b→H b=none)
  (k:∀ h' ch,HZ h₀ H ch→Mv (frs (env :: outer)) ch s.heap h'→Exc h₀ H h' e C od (some .none)→Q () { s with heap:=h' }) :
  wpAny M A (leaving env (.ref e)) Q E s:=by
 unfold leaving
 refine wpAny_bind (xg hfr hl hf x hfl ht hH fun h1 c1 k1 m1 x1=>?_)
 refine oB x1 fun h2 c2 k2 m2 x2=>?_
 refine k h2 (c1++c2) (fun b hb=>(List.mem_append.mp hb).elim (k1 b) (k2 b)) ((m1.mono (fun _ z=>z) fun b z=>List.mem_append_left _ z).trans (m2.mono (fun b z=>nomatch z) fun b z=>List.mem_append_right _ z)) x2
end
section
variable {X:Cx}{pins:List (Addr×Obj)}{σ σ':St}{H H':Hp}{s s1:Shared}
theorem Inv.mv {h':Heap}{ch:List Addr} (I:Inv X pins σ H s) (J:Inv X pins σ' H' s1) (m:Mv (frs X.stack) ch s1.heap h') (hc:∀ b∈ch,H' b=none∧s.heap.get? b=none):Inv X pins σ' H' { s1 with heap:=h' }:=by
 have E4:∀ b o,s.heap.get? b=some o→b∉ch:=fun b o e z=>by rw[(hc b z).2] at e;cases e
 have n0:∀ b o,X.s₀.heap.get? b=some o→b∉X.ex→b∉ch:=fun b o e hx=>let ⟨o',e'⟩:=I.base.there b o e hx;E4 b o' e'
 have Ni:∀ b o,X.s₀.heap.get? b=some o→b≠X.env.locals:=fun b o e=>Nat.ne_of_lt (Nat.lt_of_lt_of_le (Heap.lt_size e) I.ok.above)
 have Rl:∀ b,b≠X.env.locals→b∉X.fs→b∉frs X.stack:=fun b h1 h2 z=>(List.mem_cons.mp (I.pJ b z)).elim h1 h2
 have cellK:∀ x c,X.env.cells.lookup x=some c→∀ v,s1.heap.IsCell c v→Heap.IsCell h' c v:=fun x c e v ⟨o,ho,hd⟩=>by
  obtain⟨v0,o0,e0,_⟩:=I.cell x c e
  obtain⟨sl,q⟩:=m.slot c o (E4 c o0 e0) ho
  exact⟨_,q,hd⟩
 have OL:∃ o,s.heap.get? X.env.locals=some o:=let ⟨m',⟨o,_,_,ho,_⟩,_⟩:=I.loc;⟨o,ho⟩
 obtain⟨oL,eL⟩:=OL
 refine⟨J.ok,J.os,J.bare,⟨fun b o e n hb hx=>m.keep b o (n0 b o e hx) (Rl b (Ni b o e) hb) (J.base.keep b o e n hb hx),fun b o e n hb hx=>?_,J.base.free,fun b o e hx=>?_,J.base.tups,J.base.pI,J.base.qD⟩,?_,fun x c e=>?_,J.free,J.gG,fun p hp=>?_,fun a o e=>?_,J.len⟩
 ·obtain⟨sl,e1⟩:=J.base.slot b o e n hb hx
  obtain⟨sl2,e2⟩:=m.slot b _ (n0 b o e hx) e1
  exact⟨sl2,e2⟩
 ·obtain⟨o',e1⟩:=J.base.there b o e hx
  exact m.there b o' e1
 ·obtain⟨mm,⟨o,es,ep,ho,r⟩,hl⟩:=J.loc
  obtain⟨sl,q⟩:=m.slot _ o (E4 _ oL eL) ho
  refine⟨mm,⟨_,es,ep,q,r⟩,fun i x v e1 e2 e3=>?_⟩
  obtain⟨u,r1,l⟩:=hl i x v e1 e2 e3
  refine⟨u,r1,?_⟩
  rcases l with l | ⟨k,c,e,z⟩
  ·exact .inl l
  ·exact .inr ⟨k,c,e,cellK x c e _ z⟩
 ·obtain⟨v,z⟩:=J.cell x c e
  exact⟨v,cellK x c e v z⟩
 ·obtain⟨e0,_,_,_,_⟩:=I.pin p hp
  obtain⟨e,n,ne,nf,d⟩:=J.pin p hp
  exact⟨m.keep p.1 p.2 (E4 _ _ e0) (Rl _ ne nf) e,n,ne,nf,d⟩
 ·refine(J.hok a o e).stay (fun b u hb q=>m.keep b u (fun z=>?_) (fun z=>?_) q) (fun _ q=>q) fun _ _ q=>q
  ·have:=(hc b z).1
   rcases hb with rfl | hb
   ·rw[this] at e;cases e
   ·rw[this] at hb;cases hb
  ·have:=J.uO b z
   rcases hb with rfl | hb
   ·rw[this] at e;cases e
   ·rw[this] at hb;cases hb
def ql (P:Program) (w:World):Br:=fun outer H s E e s'=>∃ ea C od H',e=.ref ea∧s'.os=s.os∧AllBare s'.gens∧Un (frs outer) [] H H' s.heap s'.heap∧nH P w H' s'.heap∧Exc s.heap H' s'.heap ea C od (some .none)∧E C od H'
theorem Exc.older {h₀ h1 h:Heap}{H:Hp}{e:Addr}{C:Value}{od:Option Addr}{fl:Option Value} (x:Exc h1 H h e C od fl) (ht:∀ b,h1.get? b=none→h₀.get? b=none):Exc h₀ H h e C od fl:=by
 obtain⟨fr,nw,oe,vs,he,hc,hdi,hd,fa⟩:=x
 refine⟨fr,ht _ nw,oe,vs,he,hc,hdi,hd,?_⟩
 cases fl with
 | none=>exact fa
 | some v=>obtain⟨T,oT,ts,h1,n0,w0,r⟩:=fa;exact⟨T,oT,ts,h1,n0,ht _ w0,r⟩
theorem leaveX {E:XK}{E':Value→Shared→Prop}{ea:Addr}{C:Value}{od:Option Addr}{fl:Option Value} (hst:X.stack=X.env :: X.outer) (hfm:X.env.frame=some X.env.locals) (hex:X.ex=[])
  (I:Inv X pins σ H s) (J:Inv X pins σ' H' s1) (ht:∀ b o,s.heap.get? b=some o→∃ o',s1.heap.get? b=some o') (x:Exc s.heap H' s1.heap ea C od fl) (hfl:fl=none∨fl=some .none∨fl=some (rawInt X.env.locals)) (hE:E C od H') :
  wpAny (model X.prog X.w) X.A (leaving X.env (.ref ea)) (fun _ s''=>ql X.prog X.w X.outer X.H₀ X.s₀ E (.ref ea) s'') E' s1:=by
 have hl:=J.stack
 rw[hst] at hl
 refine Bv (J.ok.frames.trans (by rw[hst])) hl hfm x hfl ht (fun b hb=>J.hok.fresh hb) fun h' ch hc m x'=>?_
 have K:=I.mv J (h':=h') (by rw[hst];exact m) hc
 have old:∀ b,s.heap.get? b=none→X.s₀.heap.get? b=none:=fun b hb=>by
  cases q:X.s₀.heap.get? b with
  | none=>rfl
  | some o=>obtain⟨o',z⟩:=I.base.there b o q (by rw[hex];simp);rw[hb] at z;cases z
 have U:=K.base
 rw[hex] at U
 exact⟨ea,C,od,H',rfl,J.os,J.bare,U,K.hok,x'.older old,hE⟩
end
section
variable {P:Program}{w:World}{K:W.Frag}{mg:Str→Option Value}{base:Heap}{N:List Str}{qual:Str}{scope:Scope}{f:Addr}{cd:Value}{A:Around}{outer:List Env}{s:Shared}{H:Hp}{E:XK}
theorem GW:Passes (ql P w) (mP (ql P w) P w K mg base N qual scope f cd A outer s H E) E:=by
 rintro pins σ H1 s1 e s' I ⟨ea,C,od,H',rfl,os,bare,un,hok,x,hE⟩
 have J:=I.wV os un hok bare (fun b z=>nomatch z)
 exact leaveX (X:=mP (ql P w) P w K mg base N qual scope f cd A outer s H E) rfl rfl rfl I J (fun b o q=>un.there b o q (by simp)) x (.inr (.inl rfl)) hE
theorem jw.Nr {x:Str}{st:Stmt}{fd:FuncData}{ps:List Str}{k:Nat}{sp:Sp} (F:jw K x qual st f fd) (S:aT N ps (av st)) (len:∀ vs H Q E,sp vs H Q E→vs.length=ps.length)
  (hbody:∀(cdv:Value) (A:Around) (outer:List Env) (s:Shared) (H:Hp) (vs:List V) (Q:VK) (E:XK),dX k (A.deeper (envOfC qual (av st) s.heap.objs.size f cdv))→sp vs H Q E →
   ∃ t,wO (mP (ql P w) P w K mg base N qual (av st) f cdv A outer s H E) (bO st) t∧t { nx:=fun _ H'=>Q .non H',rt:=Q } (start N vs) H):bf P w K mg base (ql P w) (k+1) f fd ps sp:=by
 obtain⟨oc,od,kV,doc,pm,an,cdv,ct,osl,rfl,lk,hcd⟩:=F.ex
 exact DA lk hcd S len fun A outer s H vs Q E hr yT=>hbody cdv A outer s H vs Q E hr yT
end
theorem bQ.ex {P:Program}{w:World}{H:Hp}{h:Heap}{a:Addr}{o:HO} (x:bQ P w H h a o):∃ u,h.get? a=some u:=by
 cases o with
 | lst xs=>obtain⟨_,_,_,_,e⟩:=x;exact⟨_,e⟩
 | tup xs=>obtain⟨_,_,_,ob,e,_⟩:=x;exact⟨_,e⟩
 | dK kvs=>obtain⟨_,_,_,_,o,_,_,e,_⟩:=x;exact⟨_,e⟩
 | dT kvs=>obtain⟨_,_,_,_,o,_,_,e,_⟩:=x;exact⟨_,e⟩
 | set S n=>obtain⟨o,_,_,_,e,_⟩:=x;exact⟨_,e⟩
 | ins C dx fs=>obtain⟨_,_,_,e,_⟩:=x;exact⟨_,e⟩
 | own y=>exact x
 | xd fs=>obtain⟨_,⟨_,_,_,e,_⟩,_⟩:=x;exact⟨_,e⟩
 | Nf lo hi=>obtain⟨_,_,_,e⟩:=x;exact⟨_,e⟩
 | ou ob u=>obtain⟨e,_⟩:=x;exact⟨_,e⟩
 | GJ ps=>exact⟨_,x⟩
 | met f y=>exact⟨_,x⟩
 | ext φ=>exact x.2.1
theorem nH.none {P:Program}{w:World}{H:Hp}{h:Heap}{a:Addr} (x:nH P w H h) (e:h.get? a=Option.none):H a=Option.none:=by
 cases q:H a with
 | none=>rfl
 | some u=>obtain⟨o,z⟩:=(x a u q).ex;rw[e] at z;cases z
abbrev e9:List Value:=[.type "ValueError",.type "Exception",.type "BaseException",.type "object"]
structure bR (K:W.Frag) (C N:Addr) (bm:List Value) (ini:Option Value):Prop where
 ob:∃ nm q bs hdct sn sub ab col dd k0 k1 k2 k3 k5,K.lookup C=some (excClassObj nm q C N bs bm hdct sn sub ab col dd k0 k1 k2 k3 k5 "ValueError.__new__")
 ns:∃ oc od es n sl,K.lookup N=some ⟨oc,od,.dict es n,sl⟩∧(es.toList.all fun e=>match e.key with | .str _ _=>true | _=>false)=true
 ini:W.nsIn K N "__init__" = some ini
def rA (K:W.Frag) (bm:List Value):Prop:=bm=e9∨∃ D ND,bm=.ref D :: e9∧bR K D ND e9 none
section
variable {K:W.Frag}{h:Heap}{C N:Addr}{bm:List Value}{ini:Option Value}
theorem bR.names (x:bR K C N bm ini):∃ m:Str→Option Value,m "__init__" = ini∧∀ h,K.In h→h.Ns N m:=by
 obtain⟨oc,od,es,n,sl,lk,al⟩:=x.ns
 have sk:StrKeys es:=fun e he=>by
  have z:=List.all_eq_true.mp al e (by simpa using he)
  revert z
  cases e.key <;> intro z <;> first | exact⟨_,_,rfl⟩ | cases z
 refine⟨nsFind es,?_,fun h dw=>⟨_,es,n,dw _ _ lk,rfl,sk,fun _=>rfl⟩⟩
 have e:=x.ini
 unfold W.nsIn at e
 rw[lk] at e
 dsimp only at e
 unfold nsFind findBy
 rw[←Array.find?_toList]
 cases q:es.toList.find? (·.key.isStr "__init__") with
 | some en =>
  rw[q] at e
  exact Option.some.inj e
 | none =>
  rw[q] at e
  dsimp only at e
  split at e
  ·cases e
  ·exact Option.some.inj e
theorem bR.obj (x:bR K C N bm ini) (dw:K.In h):∃ nm q bs hdct sn sub ab col dd k0 k1 k2 k3 k5,h.get? C=some (excClassObj nm q C N bs bm hdct sn sub ab col dd k0 k1 k2 k3 k5 "ValueError.__new__"):=by
 obtain⟨nm,q,bs,hdct,sn,sub,ab,col,dd,k0,k1,k2,k3,k5,e⟩:=x.ob
 exact⟨nm,q,bs,hdct,sn,sub,ab,col,dd,k0,k1,k2,k3,k5,dw _ _ e⟩
theorem rA.tail (x:rA K bm) (dw:K.In h):OwnTail h e9 bm:=by
 rcases x with rfl | ⟨D,ND,rfl,d⟩
 ·exact .base
 ·obtain⟨nm,q,bs,hdct,sn,sub,ab,col,dd,k0,k1,k2,k3,k5,e⟩:=d.obj dw
  obtain⟨m,mi,mn⟩:=d.names
  exact .own e (mn h dw) mi .base
theorem rA.base (x:rA K bm):bm.contains (.type "BaseException")=true:=by
 rcases x with rfl | ⟨D,ND,rfl,d⟩
 ·decide
 ·rw[List.contains_cons];rfl
end
section
variable {P:Program}{w:World}{K:W.Frag}{mg:Str→Option Value}{base:Heap}{N0:List Str}{qual:Str}{scope:Scope}{f:Addr}{cd:Value}{A:Around}{outer:List Env}{s0:Shared}{H0:Hp}{E:XK}
def Ib (E:XK) (C:Addr) (t:TA):TS:=fun _ σ H=>t σ H fun vs H1=>vs.length≤sizeLine∧E (.ref C) none H1
theorem iV {X:Cx} (hX:X=mP (ql P w) P w K mg base N0 qual scope f cd A outer s0 H0 E) {C N:Addr}{bm:List Value}{x:Str}{np cpos pos:Pos}{e:Expr}{es:List Expr}{t:TA} (c:bR K C N bm none) (tl:rA K bm)
  (hg:Gl X x) (hm:mg x=some (.ref C)) (ha:PA X (e :: es) t) (hdb:(x == ("__debug__" : Str))=false:=by decide) (he:starEach (e :: es) X.env=(false,eval e X.env) :: starEach es X.env:=by rfl)
  (hpl:(backTo cpos (starEach es X.env)).any (·.1)=false:=by rfl):PS X (.Raise (some (.Call (.Name x np) (e :: es) [] cpos)) none pos) (Ib E C t):=by
 intro pins s σ H D I h
 obtain⟨nm,q,bs,hdct,sn,sub,ab,col,dd,k0,k1,k2,k3,k5,lk⟩:=c.ob
 obtain⟨m,mi,mn⟩:=c.names
 have hx:X.xe=fun (e:Value) (s':Shared)=>wpAny (model X.prog X.w) X.A (leaving X.env e) (fun _ s''=>ql X.prog X.w X.outer X.H₀ X.s₀ E e s'') (fun e' s''=>ql X.prog X.w X.outer X.H₀ X.s₀ E e' s'') s':=by subst hX;rfl
 have OM:(backTo cpos (starEach (e :: es) X.env)).any (·.1)=false:=by rw[he];exact hpl
 have hst:X.stack=X.env :: X.outer:=by subst hX;rfl
 have hfm:X.env.frame=some X.env.locals:=by subst hX;rfl
 have hex:X.ex=[]:=by subst hX;rfl
 have hmg:X.mg x=some (.ref C):=by subst hX;exact hm
 have ON:X.calm=true:=by subst hX;rfl
 have hK:X.K=K:=by subst hX;rfl
 refine wpAny_Raise_call_subU (C:=C) (nm:=nm) (q:=q) (N:=N) (bs:=bs) (bm:=bm) (hdct:=hdct) (sn:=sn) (sub:=sub) (ab:=ab) (col:=col) (dd:=dd) (k0:=k0) (k1:=k1) (k2:=k2) (k3:=k3) (k5:=k5) (newId := "ValueError.__new__")
  PySem.F.excBase_ValueError (by decide) PySem.F.excBase_ValueError (mN:=m) tl.base (I.ok.hd ON) OM mi (gB I hg hmg ⟨rfl,?_⟩ hdb)
 have z:=ha cpos pins s σ H _ I h
 rw[he] at z ⊢
 refine Calls.evalArgs_plain (bZ z fun us s1 ⟨vs,H1,I1,r,hl,hE⟩=>?_)
 have dw:K.In s1.heap:=by rw[←hK];exact I1.j4
 refine⟨rfl,by show us.length≤sizeLine;rw[←r.length];exact hl,dw _ _ lk,mn _ dw,tl.tail dw,fun h' ea md=>?_⟩
 obtain⟨ta,q1,_,_⟩:=md.there
 rw[hx]
 exact leaveX (fl:=none) hst hfm hex I1 (I1.kept (t':=s1.toks) md.keeps) (fun b o q=>⟨o,md.keeps b o q⟩) ⟨I1.hok.none md.new,md.new,_,_,q1,rfl,rfl,rfl,rfl,rfl⟩ (.inl rfl) hE
end
section
abbrev OO:=St→Hp→VK→XK→Prop
abbrev KQ:=Ends→XK→St→Hp→Prop
def XP (X:Cx) (pins:List (Addr×Obj)) (σ:St) (Ex:XK) (e:Value) (s':Shared):Prop :=
 ∃ ea C od H' s2 H2,e=.ref ea∧Inv X pins σ H2 s2∧Inv X pins σ H' s'∧(∀ b o,s2.heap.get? b=some o→∃ o',s'.heap.get? b=some o')∧Exc s2.heap H' s'.heap ea C od (some .none)∧Ex C od H'
def Rm (X:Cx) (e:Expr) (t:OO):Prop :=
 ∀(pins:List (Addr×Obj)) (s:Shared) (σ:St) (H:Hp) (Q:VK) (Ex:XK),Inv X pins σ H s→t σ H Q Ex→wpAny (model X.prog X.w) X.A (eval e X.env) (EP X pins σ Q) (XP X pins σ Ex) s
def Rn (X:Cx) (st:Stmt) (t:KQ):Prop :=
 ∀(pins:List (Addr×Obj)) (s:Shared) (σ:St) (H:Hp) (D:Ends) (Ex:XK),Inv X pins σ H s→t D Ex σ H→wpAny (model X.prog X.w) X.A (exec st X.env) (SP X pins D) (XP X pins σ Ex) s
def KR (X:Cx) (st:List Stmt) (t:KQ):Prop :=
 ∀(pins:List (Addr×Obj)) (s:Shared) (σ:St) (H:Hp) (D:Ends) (Ex:XK),Inv X pins σ H s→t D Ex σ H→wpAny (model X.prog X.w) X.A (execs st X.env) (SP X pins D) (XP X pins σ Ex) s
variable {X:Cx}{k:Nat}{f C:Addr}{fd:FuncData}{ps:List Str}{sp:Sp}{rq:List V}{ds:List Value}{x m:Str}{p pos apos:Pos}{e o:Expr}{es:List Expr}{ta:TE}{t:TA}{te:OO}
theorem OP {α:Type}{u:Sem α}{Q Q':α→Shared→Prop}{M:Model}{A:Around}{E:Value→Shared→Prop}{s:Shared} (h:wpAny M A u Q (fun _ _=>False) s) (hQ:∀ a s,Q a s→Q' a s):wpAny M A u Q' E s:=wpAny_mono h hQ fun _ _ z=>z.elim
theorem FU {pins:List (Addr×Obj)}{σ:St}{H:Hp}{s:Shared}{Q:VK}{Ex:XK}{us:List Value}{vs:List V} (F:bf X.prog X.w X.K X.mg X.base (ql X.prog X.w) k f fd ps sp) (hr:dX k X.A) (hb:Binds X.K fd ps ds) (hd:Vals rq ds)
  (I:Inv X pins σ H s) (r:Vals vs us) (h:sp (vs++rq) H Q Ex):wpAny (model X.prog X.w) X.A (call (.ref f) us) (EP X pins σ Q) (XP X pins σ Ex) s:=by
 have r2:Vals (vs++rq) (us++ds):=r.append hd
 have hl:(us++ds).length=ps.length:=by rw[←r2.length];exact F.len _ _ _ _ h
 refine wpAny_call (codeAny_mono (F.run X.A X.stack s H ⟨us,[]⟩ (us++ds) (vs++rq) Q Ex hr I.Dy (hb s us I.j4 hl) r2 h) fun r s' hq=>?_)
 cases r with
 | error e =>
  obtain⟨ea,C,od,H',rfl,os,bare,un,hok,y,hE⟩:=hq
  exact⟨ea,C,od,H',s,H,rfl,I,I.wV os un hok bare (fun b z=>nomatch z),fun b o q=>un.there b o q (by simp),y,hE⟩
 | ok fl =>
  cases fl with
  | ret u=>exact I.after hq
  | next=>exact False.elim hq
  | brk=>exact False.elim hq
  | cont=>exact False.elim hq
def Ic (sp:Sp) (rq:List V) (t:TA):OO:=fun σ H Q Ex=>t σ H fun vs H1=>sp (vs++rq) H1 Q Ex
theorem xh (F:bf X.prog X.w X.K X.mg X.base (ql X.prog X.w) k f fd ps sp) (hr:dX k X.A) (hg:Gl X x) (hm:X.mg x=some (.ref f)) (hk:W.keepIn X.K (.ref f)=true) (hb:Binds X.K fd ps ds) (hd:Vals rq ds)
  (ha:PA X.JY (e :: es) t) (hdb:(x == ("__debug__" : Str))=false:=by decide) (he:starEach (e :: es) X.env=(false,eval e X.env) :: starEach es X.env:=by rfl) (hpl:(backTo pos (starEach es X.env)).any (·.1)=false:=by rfl) :
  Rm X (.Call (.Name x p) (e :: es) [] pos) (Ic sp rq t):=by
 intro pins s σ H Q Ex I h
 refine wpAny_Call_Name_kw (gB I hg hm ?_ hdb)
 refine W.callWith_K (h₀:=X.base) I.ok.mod.dw hk (OP (ha pos pins s σ H _ (I.rN _) h) fun us s1 ⟨vs,H1,I1,r,q⟩=>⟨I1.jv.j4,?_⟩) he hpl
 exact FU F hr hb hd I1.jv r q
theorem xj (he:Rm X e te) (hs:swapsWith e none pos.line X.env=pure false:=by rfl):Rn X (.Expr e pos) (fun D Ex σ H=>te σ H (fun _ H1=>D.nx σ H1) Ex):=by
 intro pins s σ H D Ex I h
 exact wpAny_Expr_any (bZ (he pins s σ H _ _ I h) fun v s1 ⟨x,H1,I1,r1,q1⟩=>⟨σ,H1,I1,q1⟩) I.quiet hs
theorem xm {st:Stmt}{ts:KQ} (h1:Rn X st ts):KR X [st] ts:=by
 intro pins s σ H D Ex I h
 refine wpAny_execs_cons (bZ (h1 pins s σ H D Ex I h) fun f s1 q=>?_)
 cases f with
 | next=>exact wpAny_execs_nil q
 | ret v=>exact q
 | brk=>exact q
 | cont=>exact q
end
def xr (e:Addr) (C:Value) (od:Option Addr):HO:=.ext fun h=>∃ o vs,h.get? e=some o∧o.cls=C∧o.dict=od∧o.data=.fields vs∧vs[2]? = some .none
theorem Bw {e:Addr}{C:Value}{od:Option Addr}:∀ h1 h2:Heap,(∃ o vs,h1.get? e=some o∧o.cls=C∧o.dict=od∧o.data=.fields vs∧vs[2]? = some .none)→(∀ o,h1.get? e=some o→h2.get? e=some o)→∃ o vs,h2.get? e=some o∧o.cls=C∧o.dict=od∧o.data=.fields vs∧vs[2]? = some .none :=
 fun _ _ ⟨o,vs,q,r⟩ k=>⟨o,vs,k o q,r⟩
theorem GX {P:Program}{w:World}{H:Hp}{h:Heap}{e:Addr}{C:Value}{od:Option Addr} (x:∃ o vs,h.get? e=some o∧o.cls=C∧o.dict=od∧o.data=.fields vs∧vs[2]? = some .none):bQ P w H h e (xr e C od) :=
 ⟨x,(let ⟨o,_,q,_⟩:=x;⟨o,q⟩),Bw⟩
section
variable {X:Cx}{pins:List (Addr×Obj)}{σ σ':St}{H H':Hp}{s s1:Shared}
theorem Inv.AX {a:Addr}{o:HO} (I:Inv X pins σ H s) (J:Inv X pins σ' H' s1) (hex:X.ex=[]) (hn:H' a=none) (hw:s.heap.get? a=none) (new:bQ X.prog X.w (upd H' a o) s1.heap a o):Inv X pins σ' (upd H' a o) s1:=by
 have ne:∀ b u,s.heap.get? b=some u→b≠a:=fun b u e z=>by rw[z,hw] at e;cases e
 have GU:∀ b u,X.s₀.heap.get? b=some u→b≠a:=fun b u e=>let ⟨o',e'⟩:=I.base.there b u e (by rw[hex];simp);ne b o' e'
 refine⟨J.ok,J.os,J.bare,⟨J.base.keep,J.base.slot,fun b u e n hx=>?_,J.base.there,fun b xs e=>?_,fun b u v e=>?_,fun b ps e=>?_⟩,J.loc,J.cell,?_,fun x c e=>?_,fun p hp=>?_,fun b u e=>?_,J.len⟩
 ·rw[aC (GU b u e)];exact J.base.free b u e n hx
 ·have z:=J.base.tups b xs e
  rw[aC (aZ z hn)];exact z
 ·have z:=J.base.pI b u v e
  rw[aC (aZ z hn)];exact z
 ·obtain⟨more,z⟩:=J.base.qD b ps e
  exact⟨more,by rw[aC (aZ z hn)];exact z⟩
 ·obtain⟨m,⟨oL,_,_,eL,_⟩,_⟩:=I.loc
  rw[aC (ne _ _ eL)];exact J.free
 ·obtain⟨v,oc,ec,_⟩:=I.cell x c e
  rw[aC (ne _ _ ec)];exact J.gG x c e
 ·obtain⟨e0,_⟩:=I.pin p hp
  obtain⟨e1,n1,r⟩:=J.pin p hp
  exact⟨e1,by rw[aC (ne _ _ e0)];exact n1,r⟩
 ·by_cases hb:b=a
  ·subst hb;rw[ah] at e;cases e;exact new
  ·rw[aC hb] at e
   exact(J.hok b u e).stay (fun c v _ q=>q) (fun c q=>by rw[aC (aZ q hn)];exact q) fun c xs q=>by rw[aC (aZ q hn)];exact q
theorem Inv.gone {i:Nat}{n:Str}{h':Heap}{v:Option Value}{tk:Nat}{m:Str→Option Value} (I:Inv X pins σ H s) (hN:X.N.Nodup) (hi:X.N[i]? = some n)
  (hm:s.heap.Ns X.env.locals m) (hn:h'.Ns X.env.locals (fun x=>if x=n then v else m x)) (hs:Heap.SameBut X.env.locals s.heap h'):Inv X pins (σ.set i none) H { s with heap:=h',toks:=tk }:=by
 obtain⟨m0,hn0,hl⟩:=I.loc
 have em:m0=m:=by
  obtain⟨o1,es1,XZ,q1,d1,_,f1⟩:=hn0
  obtain⟨o2,X0,X3,q2,d2,_,f2⟩:=hm
  rw[q1] at q2
  cases q2
  rw[d1] at d2
  cases d2
  funext x
  rw[←f1,←f2]
 subst em
 have hil:i < σ.length:=by rw[I.len];exact(List.getElem?_eq_some_iff.mp hi).1
 have ab:∀ b o,X.s₀.heap.get? b=some o→b≠X.env.locals:=fun b o e=>Nat.ne_of_lt (Nat.lt_of_lt_of_le (Heap.lt_size e) I.ok.above)
 have hk:nH X.prog X.w H h':=fun b ob e=>by
  refine(I.hok b ob e).stay (fun c w' hc q=>(hs.2 c ?_).trans q) (fun _ q=>q) fun _ _ q=>q
  rintro rfl
  rcases hc with rfl | hc
  ·rw[I.free] at e;cases e
  ·rw[I.free] at hc;cases hc
 refine⟨I.ok,I.os,I.bare,⟨fun b o e n hb hx=>(hs.2 b (ab b o e)).trans (I.base.keep b o e n hb hx),fun b o e n hb hx=>?_,I.base.free,fun b o e hx=>?_,I.base.tups,I.base.pI,I.base.qD⟩,⟨_,hn,fun j y u e1 e2 e3=>?_⟩,fun y c e=>?_,I.free,I.gG,fun p hp=>?_,hk,by simpa using I.len⟩
 ·obtain⟨sl,e1⟩:=I.base.slot b o e n hb hx
  exact⟨sl,(hs.2 b (ab b o e)).trans e1⟩
 ·obtain⟨o',e1⟩:=I.base.there b o e hx
  exact⟨o',(hs.2 b (ab b o e)).trans e1⟩
 ·by_cases hj:j=i
  ·subst hj
   rw[List.getElem?_set_self hil] at e2
   cases e2
  ·rw[List.getElem?_set_ne (Ne.symm hj)] at e2
   obtain⟨u',r',q⟩:=hl j y u e1 e2 e3
   refine⟨u',r',?_⟩
   have hne:y≠n:=fun z=>hj (rH hN e1 (z ▸ hi))
   rcases q with ⟨k,e⟩ | ⟨k,c,e,z⟩
   ·exact .inl ⟨k,by simp[hne,e]⟩
   ·exact .inr ⟨k,c,e,z.sameBut hs (I.Fe y c e)⟩
 ·obtain⟨w',z⟩:=I.cell y c e
  exact⟨w',z.sameBut hs (I.Fe y c e)⟩
 ·obtain⟨e,n,ne,nf,d⟩:=I.pin p hp
  exact⟨(hs.2 p.1 ne).trans e,n,ne,nf,d⟩
end
section
variable {M:Model}{A:Around}{E:Value→Shared→Prop}{K:W.Frag}{s:Shared}{C D N N' ea:Addr}{bm bm':List Value}{ini Ie:Option Value}{Q:Bool→Shared→Prop}
theorem qm {oe:Obj} (dw:K.In s.heap) (c:bR K C N bm ini) (d:bR K D N' bm' Ie) (td:rA K bm') (he:s.heap.get? ea=some oe) (hc:oe.cls=.ref C) (h:Q ((Value.ref C :: bm).contains (.ref D)) s) :
  wpAny M A (excMatches (.ref ea) (.ref D)) Q E s:=by
 obtain⟨nm,q,bs,hdct,sn,sub,ab,col,dd,k0,k1,k2,k3,k5,lc⟩:=c.obj dw
 obtain⟨X4,q',bs',Ro,sn',sub',X5,col',OQ,X6,Rk,X7,X8,Yb,ld⟩:=d.obj dw
 have hB:(Value.ref D :: bm').contains (.type "BaseException")=true:=by rw[List.contains_cons,td.base];rfl
 have f:=tc_notTuple
 obtain⟨hp,g,dr,tk,os⟩:=s
 unfold excMatches
 repeat (first | (with_reducible refine wpAny_loadPart_at he ?_;rw[hc]) | with_reducible refine wpAny_loadPart_at ld ?_ | (with_reducible refine wpAny_isSubtype_exc ld ?_;rw[hB]) | with_reducible refine wpAny_isSubtype_exc lc ?_ | wp_step)
 cases hb:(Value.ref C :: bm).contains (.ref D) <;> (rw[hb] at h;wp_walk;exact h)
end
abbrev Cx.han (X:Cx) (ea:Addr):Cx:={ X with A:=X.A.mark (some (.ref ea)),calm:=false,xe:=fun _ _=>False }
section
variable {X:Cx}{pins:List (Addr×Obj)}{σ:St}{H:Hp}{s:Shared}{ea:Addr}
theorem Cx.Ok.han (ok:X.Ok) (ea:Addr):(X.han ea).Ok :=
 ⟨ok.mod,ok.kind,ok.glob,ok.blt,ok.above,ok.inj,ok.has,ok.Hu,(fun z=>nomatch (show false=true from z)),ok.frames,ok.stk,ok.Nh,ok.bs,ok.C6,ok.yM,ok.Bj,ok.nI,ok.E3⟩
theorem Inv.han (I:Inv X pins σ H s) (ea:Addr):Inv (X.han ea) pins σ H s:=⟨I.ok.han ea,I.os,I.bare,I.base,I.loc,I.cell,I.free,I.gG,I.pin,I.hok,I.len⟩
theorem Inv.xu (ok:X.Ok) (I:Inv (X.han ea) pins σ H s):Inv X pins σ H s:=⟨ok,I.os,I.bare,I.base,I.loc,I.cell,I.free,I.gG,I.pin,I.hok,I.len⟩
abbrev TH:=Addr→Value→Option Addr→TS
def JH (X:Cx) (hs:List ExceptHandler) (t:TH):Prop :=
 ∀(pins:List (Addr×Obj)) (s:Shared) (σ:St) (H:Hp) (D:Ends) (ea:Addr) (C:Value) (od:Option Addr) (s2:Shared) (H2:Hp),Inv X pins σ H2 s2→Inv X pins σ H s→(∀ b o,s2.heap.get? b=some o→∃ o',s.heap.get? b=some o') →
  Exc s2.heap H s.heap ea C od (some .none)→t ea C od D σ H→wpAny (model X.prog X.w) X.A (handleBy (.ref ea) X.env hs) (SP X pins D) X.xe s
theorem DV:JH X [] (fun _ _ _ _ _ _=>False):=fun _ _ _ _ _ _ _ _ _ _ _ _ _ _ h=>h.elim
def KS (K:W.Frag) (Dc:Addr) (i:Nat) (tb:Addr→TS) (tr:TH):TH:=fun ea C od D σ H=>∃ Cc N bm ini,C=.ref Cc∧bR K Cc N bm ini ∧
 if (Value.ref Cc :: bm).contains (.ref Dc)=true then tb ea { nx:=fun σ' H'=>D.nx (σ'.set i none) H',rt:=D.rt,bk:=fun σ' H'=>D.bk (σ'.set i none) H',ct:=fun σ' H'=>D.ct (σ'.set i none) H' } (σ.set i (some (.ref ea))) (upd H ea (xr ea C od)) else tr ea C od D σ H
theorem GY {i:Nat}{x n:Str}{np hpos:Pos}{b₀:Stmt}{suite:List Stmt}{rest:List ExceptHandler}{Dc ND:Addr}{KU:List Value}{Ig:Option Value}{tb:Addr→TS}{tr:TH} (hex:X.ex=[]) (hg:Gl X x) (hm:X.mg x=some (.ref Dc))
  (d:bR X.K Dc ND KU Ig) (td:rA X.K KU) (hN:X.N.Nodup) (hi:X.N[i]? = some n) (hl:X.env.scope.names.lookup n=some .local) (hb:∀ ea,wO (X.han ea) (b₀ :: suite) (tb ea)) (hr:JH X rest tr)
  (hdb:(x == ("__debug__" : Str))=false:=by decide):JH X (.ExceptHandler (some (.Name x np)) (some n) (b₀ :: suite) hpos :: rest) (KS X.K Dc i tb tr):=by
 rintro pins s σ H D ea C od s2 H2 I2 J ht y ⟨Cc,N,bm,ini,rfl,c,q⟩
 obtain⟨fr,nw,oe,vs,he,hc,hdi,hd,fa⟩:=id y
 refine wpAny_handleBy_cons (codeAny_handlers_test (gB (X:=X.han ea) (J.han ea) hg hm ?_ hdb)) (by intro z;cases z)
 refine qm J.j4 c d td he hc ?_
 cases hb2:(Value.ref Cc :: bm).contains (.ref Dc) with
 | false =>
  rw[hb2,if_neg Bool.false_ne_true] at q
  exact hr pins s σ H D ea _ od s2 H2 I2 J ht y q
 | true =>
  rw[hb2,if_pos rfl] at q
  refine codeAny_handlers_suite_as ?_
  refine oB y fun h1 ch hch mv y1=>?_
  have J1:=I2.mv J (mv.mono (fun b z=>nomatch z) fun b z=>z) hch
  obtain⟨JI,OR,OS,OT,GV,hc1,Ih,hd1,OU⟩:=id y1
  have J2:=I2.AX J1 (o:=xr ea (.ref Cc) od) hex JI OR (GX ⟨OS,OT,GV,hc1,Ih,hd1,OU.cx⟩)
  refine rJ J2 hN hi (.inl hl) (show RelV (.ref ea) (.ref ea) from rfl) (fun s3 J3=>?_) (.inr hl)
  refine wpAny_mono (hb ea pins s3 _ _ _ (J3.han ea) q) (fun f s4 r=>?_) fun _ _ z=>z.elim
  have hp:(X.env.scope.kind == .class || (X.env.scope.kind == .module && X.env.locals != X.env.globals))=false:=by rw[J.ok.kind];rfl
  have go:∀{σ':St}{H':Hp}{Q:Unit→Shared→Prop},Inv (X.han ea) pins σ' H' s4→(∀ s5,Inv X pins (σ'.set i none) H' s5→Q () s5)→wpAny (model X.prog X.w) X.A (do bindName X.env n .none;unbindBehindTheSuite X.env n hpos) Q X.xe s4:=fun {σ' H' Q} I4 k=>by
   have I5:=I4.xu J.ok
   obtain⟨m,hn,_⟩:=id I5.loc
   exact wpAny_nameGoes_keeps hl hn hp fun h' v hn' hs=>k _ (I5.gone hN hi hn hn' hs)
  cases f with
  | next=>obtain⟨σ',H',I4,q4⟩:=r;exact go I4 fun s5 I5=>⟨_,H',I5,q4⟩
  | brk=>obtain⟨σ',H',I4,q4⟩:=r;exact go I4 fun s5 I5=>⟨_,H',I5,q4⟩
  | cont=>obtain⟨σ',H',I4,q4⟩:=r;exact go I4 fun s5 I5=>⟨_,H',I5,q4⟩
  | ret u=>obtain⟨v,σ',H',I4,rv,q4⟩:=r;exact go I4 fun s5 I5=>⟨v,_,H',I5,rv,q4⟩
def Ii (K:W.Frag) (Dc:Addr) (tb:Addr→TS) (tr:TH):TH:=fun ea C od D σ H=>∃ Cc N bm ini,C=.ref Cc∧bR K Cc N bm ini ∧
 if (Value.ref Cc :: bm).contains (.ref Dc)=true then tb ea D σ (upd H ea (xr ea C od)) else tr ea C od D σ H
theorem KW {x:Str}{np hpos:Pos}{b₀:Stmt}{suite:List Stmt}{rest:List ExceptHandler}{Dc ND:Addr}{KU:List Value}{Ig:Option Value}{tb:Addr→TS}{tr:TH} (hex:X.ex=[]) (hg:Gl X x) (hm:X.mg x=some (.ref Dc))
  (d:bR X.K Dc ND KU Ig) (td:rA X.K KU) (hb:∀ ea,wO (X.han ea) (b₀ :: suite) (tb ea)) (hr:JH X rest tr)
  (hdb:(x == ("__debug__" : Str))=false:=by decide):JH X (.ExceptHandler (some (.Name x np)) none (b₀ :: suite) hpos :: rest) (Ii X.K Dc tb tr):=by
 rintro pins s σ H D ea C od s2 H2 I2 J ht y ⟨Cc,N,bm,ini,rfl,c,q⟩
 obtain⟨fr,nw,oe,vs,he,hc,hdi,hd,fa⟩:=id y
 refine wpAny_handleBy_cons (codeAny_handlers_test (gB (X:=X.han ea) (J.han ea) hg hm ?_ hdb)) (by intro z;cases z)
 refine qm J.j4 c d td he hc ?_
 cases hb2:(Value.ref Cc :: bm).contains (.ref Dc) with
 | false =>
  rw[hb2,if_neg Bool.false_ne_true] at q
  exact hr pins s σ H D ea _ od s2 H2 I2 J ht y q
 | true =>
  rw[hb2,if_pos rfl] at q
  refine codeAny_handlers_suite ?_
  refine oB y fun h1 ch hch mv y1=>?_
  have J1:=I2.mv J (mv.mono (fun b z=>nomatch z) fun b z=>z) hch
  obtain⟨JI,OR,OS,OT,GV,hc1,Ih,hd1,OU⟩:=id y1
  have J2:=I2.AX J1 (o:=xr ea (.ref Cc) od) hex JI OR (GX ⟨OS,OT,GV,hc1,Ih,hd1,OU.cx⟩)
  refine wpAny_mono (hb ea pins _ _ _ _ (J2.han ea) q) (fun f s4 r=>?_) fun _ _ z=>z.elim
  cases f with
  | next=>obtain⟨σ',H',I4,q4⟩:=r;exact⟨_,H',I4.xu J.ok,q4⟩
  | brk=>obtain⟨σ',H',I4,q4⟩:=r;exact⟨_,H',I4.xu J.ok,q4⟩
  | cont=>obtain⟨σ',H',I4,q4⟩:=r;exact⟨_,H',I4.xu J.ok,q4⟩
  | ret u=>obtain⟨v,σ',H',I4,rv,q4⟩:=r;exact⟨v,_,H',I4.xu J.ok,rv,q4⟩
def KY (tb:KQ) (th:TH) (to:TS):TS:=fun D σ H=>tb { D with nx:=fun σ1 H1=>to D σ1 H1 } (fun C od H'=>∀ ea,H' ea=none→th ea C od D σ H') σ H
theorem AY {body orelse:List Stmt}{h₀:ExceptHandler}{hs:List ExceptHandler}{pos:Pos}{tb:KQ}{th:TH}{to:TS} (hst:X.stack=X.env :: X.outer) (hfm:X.env.frame=some X.env.locals) (hb:KR X body tb) (hh:JH X (h₀ :: hs) th) (ho:wO X orelse to) :
  PS X (.Try body (h₀ :: hs) orelse [] pos) (KY tb th to):=by
 intro pins s σ H D I h
 refine wpAny_Try_except (wpAny_mono (hb pins s σ H _ _ I h) (fun f s1 q=>?_) fun e s1 q=>?_)
 ·cases f with
  | next=>obtain⟨σ1,H1,I1,q1⟩:=q;exact ho pins s1 σ1 H1 D I1 q1
  | ret u=>exact q
  | brk=>exact q
  | cont=>exact q
 ·obtain⟨ea,C,od,H',s2,H2,rfl,I2,J,ht,y,hE⟩:=q
  have hl:=J.stack
  rw[hst] at hl
  refine xg (J.ok.frames.trans (by rw[hst])) hl hfm y (.inr (.inl rfl)) ht (fun b hb=>J.hok.fresh hb) fun h1 ch hc m y1=>?_
  have J1:=I2.mv J (h':=h1) (by rw[hst];exact m) hc
  have ht1:∀ b o,s2.heap.get? b=some o→∃ o',h1.get? b=some o':=fun b o q=>let ⟨o',q'⟩:=ht b o q;m.there b o' q'
  refine oB y1 fun h2 Yc hc2 m2 y2=>?_
  have J2:=I2.mv J1 (h':=h2) (m2.mono (fun b z=>nomatch z) fun b z=>z) hc2
  exact hh pins _ σ H' D ea C od s2 H2 I2 J2 (fun b o q=>let ⟨o',q'⟩:=ht1 b o q;m2.there b o' q') y2 (hE ea y2.fr)
end
end L2
set_option maxHeartbeats 1000000
namespace L2
open PySem PySem.Spec PyProof.Rows PySem.Builtin PySem.Builtin.ObjectAttr
theorem uD (self:Value):refuseLoop self "__setattr__" e9=pure ():=by kernel_rfl
theorem xw {K:W.Frag}{bm:List Value} (tl:rA K bm) (self:Value):refuseLoop self "__setattr__" bm=pure ():=by
 rcases tl with rfl | ⟨D,ND,rfl,d⟩
 ·exact uD self
 ·rw[refuseLoop_ref];exact uD self
structure C8 (K:W.Frag) (C:Addr) (f:Str):Prop where
 no:W.findIn K (.ref C) f=some none
 sa:W.findIn K (.ref C) "__setattr__" = some (some (.builtin "object.__setattr__"))
 ga:W.findIn K (.ref C) "__getattribute__" = some (some (.builtin "BaseException.__getattribute__"))
 gx:W.findIn K (.ref C) "__getattr__" = some none
 hd:W.hasDictIn K C=true
section
variable {P:Program}{w:World}{A:Around}{E:Value→Shared→Prop}{s:Shared}{K:W.Frag}{C N x:Addr}{bm:List Value}{ini:Option Value}{f:Str}{v:Value}{ox:Obj}{vs:Array Value}
theorem bR.cls (c:bR K C N bm ini) (h:W.hasDictIn K C=true):∃ cd,W.clsIn K C=some cd∧cd.mro=.ref C :: bm∧cd.hasDict=true:=by
 obtain⟨nm,q,bs,hdct,sn,sub,ab,col,dd,k0,k1,k2,k3,k5,lk⟩:=c.ob
 obtain⟨cd,hc,hd⟩:=W.any_some h
 refine⟨cd,hc,?_,hd⟩
 unfold W.clsIn at hc
 rw[lk] at hc
 cases hc
 rfl
theorem FW {od:Option Obj}{tk:Tok}{R:Result→Shared→Prop} (dw:K.In s.heap) (c:bR K C N bm ini) (tl:rA K bm) (a:C8 K C f) (J:W.InstAt s.heap x ox C od)
  (h:∀ b,wpAny (model P w) A.in1 (storeInOwnDict (.ref x) (.ref C) (.str f tk) f v b) (fun fin s'=>match fin with | .done g=>R (.ok g) s' | .again c'=>c'.quiet=true∧codeAny (model P w) A c' R s') (fun e s'=>R (.error e) s') s) :
  codeAny (model P w) A (.call (.builtin "object.__setattr__") ⟨[.ref x,.str f tk,v],[]⟩) R s:=by
 obtain⟨cd,hc,hm,hd⟩:=c.cls a.hd
 have SF:=PySem.F.store_object
 have OV:W.Looks (model P w) s.heap (mroOf (.ref C)) cd.mro:=(W.looks_clsIn dw hc).andThen .now
 have hob:(cd.mro.contains (.type "object"))=true:=by
  rw[hm,List.contains_cons]
  rcases tl with rfl | ⟨D,ND,rfl,d⟩
  ·rfl
  ·rw[List.contains_cons];rfl
 have ne:cd.mro.isEmpty=false:=by rw[hm];rfl
 have sub:W.Looks (model P w) s.heap (isInstance (.ref x) (.type "object")) true :=
  J.type.andThen (W.looks_mroIn dw (by unfold W.mroIn;rw[hc,Option.bind_some,if_neg (by rw[ne];decide),hob]))
 refine codeAny_call_builtin SF.slot.plain SF.entry (W.check_slot (M:=model P w) (s:=s) (i := "object.__setattr__") (owner := "object") (n := "__setattr__") (self:=.ref x) (rest:=[.str f tk,v]) (kw:=[]) SF.kind SF.split sub (SF.args (.ref x) (.str f tk) v) ?_)
 rw[W.osa_eq,refuse_eq]
 refine wpAny_bind (wpAny_bind (J.type.here (wpAny_bind (OV.here ?_))))
 rw[hm,refuseLoop_ref,xw tl]
 have L3:W.Looks (model P w) s.heap (storeTaker? none) none:=.now
 refine wpAny_pure (wpAny_bind (J.type.here (wpAny_bind ((W.looks_findIn dw a.no).here (wpAny_bind (L3.here ?_))))))
 exact h _
theorem FY {h:Heap}{d:Addr}{o:Obj} (e:h.get? d=some o) (hd:o.data=.dict #[] 0):h.Ns1 d (fun _=>none) :=
 ⟨o,#[],0,e,hd,fun e he=>absurd he (by simp),(by first | exact fun i j e e' h1=>absurd h1 (by simp) | simp[UniqKeys]),fun _=>rfl⟩
theorem DW {Q:Unit→Shared→Prop} (dw:K.In s.heap) (c:bR K C N bm ini) (tl:rA K bm) (a:C8 K C f) (hx:s.heap.get? x=some ox) (hc:ox.cls=.ref C) (hdi:ox.dict=none) (hd:ox.data=.fields vs)
  (h:∀ h' tk,h'.get? x=some { ox with dict:=some s.heap.objs.size }→h'.Ns1 s.heap.objs.size (fun y=>if y=f then some v else none)→(∀ b o,b≠x→s.heap.get? b=some o→h'.get? b=some o)→Q () { s with heap:=h',toks:=tk }) :
  wpAny (model P w) A (setAttr (.ref x) f v) Q E s:=by
 have J:W.InstAt s.heap x ox C none:=⟨hx,hc,by obtain⟨oc,Nt,Nu,osl⟩:=ox;cases hd;rfl,by rw[hdi];exact True.intro⟩
 refine W.set_plain dw J a.sa (FW (s:={ s with toks:=s.toks+1 }) dw c tl a J fun b=>?_)
 obtain⟨cd,hcd,hm,Ij⟩:=c.cls a.hd
 obtain⟨oc,Nt,Nu,osl⟩:=ox
 dsimp only at hc hdi hd
 subst hc hdi hd
 refine wpAny_bind (wpAny_pure (wpAny_bind (wpAny_bind (wpAny_loadPart hx (wpAny_bind (W.Looks.here (s:={ s with toks:=s.toks+1 }) (W.looks_clsIn dw hcd) ?_))))))
 rw[Ij]
 refine wpAny_bind (wpAny_alloc ?_)
 have x1:(s.heap.push { cls:=.type "dict",data:=.dict #[] }).get? x=some ⟨.ref C,none,.fields vs,osl⟩:=Heap.get?_push_of_some _ hx
 refine wpAny_bind (wpAny_update x1 ?_)
 refine wpAny_pure (a:=some s.heap.objs.size) ?_
 show wpAny _ _ (storeInDict s.heap.objs.size (Value.str f s.toks) f v) _ _ _
 unfold storeInDict
 refine wpAny_bind (m:=newKeyGuard _ _ _) ?_
 refine wpAny_pure (wpAny_bind ?_)
 have ne:s.heap.objs.size≠x:=Nat.ne_of_gt (Heap.lt_size hx)
 have d1:((s.heap.push { cls:=.type "dict",data:=.dict #[] }).update x fun o=>{ o with dict:=some s.heap.objs.size }).get? s.heap.objs.size=some { cls:=.type "dict",data:=.dict #[] } :=
  (Heap.get?_update_other _ _ (Ne.symm ne)).trans (Heap.get?_push_size s.heap rfl)
 have x2:((s.heap.push { cls:=.type "dict",data:=.dict #[] }).update x fun o=>{ o with dict:=some s.heap.objs.size }).get? x=some ⟨.ref C,some s.heap.objs.size,.fields vs,osl⟩:=Heap.get?_update_self _ x1 rfl
 refine wpAny_nsSet1 (FY d1 rfl) fun h' hn2 hs2=>?_
 obtain⟨oD,esD,TU,N8,N9,Oa⟩:=hn2.count (ns:=[f]) (PySem.Within.cons f v (ns:=[]) (fun y hy=>absurd rfl hy))
 refine wpAny_bind (wpAny_lookBehind N8 (by rw[N9];exact pastItsLine_dict (Nat.le_trans Oa (Nat.le_add_left 1 sizeLine))) ?_)
 refine wpAny_pure (h _ _ ((hs2.2 _ (Ne.symm ne)).trans x2) hn2 fun b o hb q=>?_)
 have nb:b≠s.heap.objs.size:=Nat.ne_of_lt (Heap.lt_size q)
 exact(hs2.2 b nb).trans ((Heap.get?_update_other _ _ (Ne.symm hb)).trans (Heap.get?_push_of_some _ q))
theorem FZ {tk:Tok}{Q:Fin→Shared→Prop}{tp:Value} (L0:W.Looks (model P w) s.heap (typeOf (.ref x)) tp) (L1:W.Looks (model P w) s.heap (find (.ref x) tp f) (.value v)) (h:Q (.done (.ret v)) s) :
  wpAny (model P w) A (Builtin.«object.__getattribute__» ⟨[.ref x,.str f tk],[]⟩) Q E s:=by
 unfold Builtin.«object.__getattribute__»
 refine wpAny_bind (m:=slotArgs _ _ _) ?_
 refine wpAny_pure (a:=(Value.ref x,[Value.str f tk])) ?_
 refine wpAny_bind (m:=attrName _) ?_
 refine wpAny_pure (a:=f) ?_
 refine wpAny_bind (L0.here ?_)
 refine wpAny_bind (L1.here ?_)
 exact wpAny_pure h
theorem Ga {d:Addr}{mA:Str→Option Value}{expr:Bool}{Q:Value→Shared→Prop} (dw:K.In s.heap) (c:bR K C N bm ini) (tl:rA K bm) (a:C8 K C f) (hx:s.heap.get? x=some ox) (hc:ox.cls=.ref C) (hdi:ox.dict=some d) (hd:ox.data=.fields vs)
  (hn:s.heap.Ns1 d mA) (hv:mA f=some v) (hh:W.handedIn v=true) (h:Q v { s with toks:=s.toks+1 }):wpAny (model P w) A (getAttr (.ref x) f expr) Q E s:=by
 obtain⟨od,ho,hl⟩:=uu hn
 have J:W.InstAt s.heap x ox C (some od):=⟨hx,hc,by obtain⟨oc,Nt,Nu,osl⟩:=ox;cases hd;rfl,by rw[hdi];exact ho⟩
 have FO:W.findObj K C (some od) f=some (.value v):=W.findObj_own a.hd a.no rfl (by rw[hl,hv])
 obtain⟨cd,hcd,hm,Ij⟩:=c.cls a.hd
 have hob:(cd.mro.contains (.type "BaseException"))=true:=by rw[hm,List.contains_cons,tl.base];rfl
 have ne:cd.mro.isEmpty=false:=by rw[hm];rfl
 have sub:W.Looks (model P w) s.heap (isInstance (.ref x) (.type "BaseException")) true :=
  J.type.andThen (W.looks_mroIn dw (by unfold W.mroIn;rw[hcd,Option.bind_some,if_neg (by rw[ne];decide),hob]))
 have hk:W.Looks (model P w) s.heap (hookBefore (.ref C)) none:=W.looks_hook dw (by show(if onTheHeap (.ref C) then _ else _)=_;exact a.gx)
 refine wpAny_bind (wpAny_mkText (wpAny_holding (wpAny_bind (J.type _ _ _ _ (fun _ _ e=>e) (wpAny_bind (W.looks_findIn dw a.ga _ _ _ _ (fun _ _ e=>e) ?_))))))
 dsimp only
 rw[show(onTheHeap (Value.ref C) && Value.builtin "BaseException.__getattribute__" == Value.builtin "object.__getattribute__")=false from by rw[show(Value.builtin "BaseException.__getattribute__" == Value.builtin "object.__getattribute__")=false from by decide +kernel];exact Bool.and_false _,if_neg (by decide)]
 refine wpAny_bind (hk _ _ _ _ (fun _ _ e=>e) (wpAny_bind (wpAny_attempt (wpAny_holding ?_))))
 unfold callGetattribute
 rw[show(expr && onTheHeap (Value.builtin "BaseException.__getattribute__"))=false from Bool.and_false _,if_neg (by decide)]
 unfold boundAndCalled
 rw[PySem.F.attr_ValueError.ga.bind]
 refine wpAny_bind (wpAny_pure ?_)
 show wpAny _ _ (call (.builtin "BaseException.__getattribute__") [.ref x,.str f s.toks]) _ _ _
 refine wpAny_call (codeAny_call_builtin PySem.F.attr_ValueError.ga.plain PySem.F.entry_bexc_ga (W.check_slot (M:=model P w) (s:={ s with toks:=s.toks+1 }) (i := "BaseException.__getattribute__") (owner := "BaseException") (n := "__getattribute__") (self:=.ref x) (rest:=[.str f s.toks]) (kw:=[]) (by decide +kernel) (by decide +kernel) sub (PySem.F.args_bexc_ga (.ref x) (.str f s.toks)) ?_))
 have L1:=W.looks_find (M:=model P w) dw J FO
 refine FZ (s:={ s with toks:=s.toks+1 }) J.type L1 ?_
 show wpAny _ _ (handedOut v) _ _ _
 rw[W.handedOut_of hh]
 exact wpAny_pure h
end
section
variable {P:Program}{w:World}{A:Around}{E:Value→Shared→Prop}{K:W.Frag}{C N fI:Addr}{bm:List Value}{us:List Value}
theorem tF {h:Heap}{g:Array GenState}{dr:Drawn}{tk:Nat}{os:OsState}{oI:Obj}{Q:Fin→Shared→Prop} (dw:K.In h) (c:bR K C N bm (some (.ref fI))) (tl:rA K bm) (lf:h.get? fI=some oI) (cf:oI.cls=.type "function")
  (k:∀ h' e,Heap.MadeExcOf h h' e (.ref C) us→wpAny (model P w) A (call (.ref fI) (.ref e :: us)) (fun r s'=>r=.none∧Q (.done (.ret (.ref e))) s') E ⟨h',g,dr,tk,os⟩) (hu:us.length≤sizeLine) :
  wpAny (model P w) A (Builtin.«type.__call__» ⟨.ref C :: us,[]⟩) Q E ⟨h,g,dr,tk,os⟩:=by
 obtain⟨nm,q,bs,hdct,sn,sub,ab,col,dd,k0,k1,k2,k3,k5,lc⟩:=c.obj dw
 obtain⟨m,mi,mn⟩:=c.names
 have T:=tl.tail dw
 have VE:=PySem.F.excBase_ValueError
 repeat (first | with_reducible refine wpAny_loadPart_at lc ?_ | with_reducible refine wpAny_madeBy_exc lc ?_ | wp_step)
 refine codeAny_call_builtin_code (Code.quiet_builtin _ VE.quiet) (wpAny_check_new_subU VE (by decide) T lc (codeAny_exc_new_subU VE (by decide) VE T lc ?_ hu))
 show wpAny _ _ _ _ _ _
 generalize Rp:({ cls:=.type "tuple",data:=.seq us.toArray }:Obj)=o1
 generalize ho2:({ cls:=.ref C,data:=.fields #[.ref h.objs.size,.none,.none,.none,.bool false,.none] }:Obj)=o2
 have up:∀ b o,h.get? b=some o→((h.push o1).push o2).get? b=some o:=fun b o z=>Heap.get?_push_of_some _ (Heap.get?_push_of_some _ z)
 have Rq:=up _ _ lc
 have Rr:=up _ _ lf
 have n1:=mn _ (dw.keeps up)
 have T1:=T.keeps up
 have z2:(h.push o1).objs.size=h.objs.size+1:=Heap.size_push ..
 have ge:((h.push o1).push o2).get? (h.objs.size+1)=some o2:=by rw[←z2];exact Heap.get?_push_size _ (by rw[←ho2];rfl)
 have oc:o2.cls=.ref C:=by rw[←ho2]
 have cc:(Value.ref C :: bm).contains (.ref C)=true:=by simp
 unfold isInstance
 repeat (first | (with_reducible refine wpAny_loadPart_at ge ?_;rw[oc]) | (with_reducible refine wpAny_isSubtype_exc Rq ?_;rw[cc]) | wp_step)
 show wpAny _ _ (typeLookup (.ref C) _) _ _ _
 refine wpAny_typeLookup_tail Rq n1 T1 VE.mroIs VE.init.lookup ?_
 rw[mi]
 refine wpAny_holding (wpAny_bind ?_)
 unfold bindSpecial
 refine wpAny_bind (wpAny_typeOf (T := "function") ⟨_,Rr,cf⟩ ?_)
 rw[if_pos (by decide)]
 have hm:Heap.MadeExcOf h ((h.push o1).push o2) (h.objs.size+1) (.ref C) us :=
  ⟨up,Heap.get?_none_of_le (Nat.le_succ _),h.objs.size,by rw[ge,←ho2],Heap.get?_none_of_le (Nat.le_refl _),by rw[Heap.get?_push_of_some _ (Heap.get?_push_at rfl (by rw[←Rp];rfl)),←Rp]⟩
 refine wpAny_pure (wpAny_bind (wpAny_mono (k _ _ hm) (fun r s' hr=>?_) fun _ _ z=>z))
 obtain⟨rfl,hQ⟩:=hr
 wp_walk
 exact hQ
theorem DX {s:Shared}{oI:Obj}{Q:Value→Shared→Prop} (dw:K.In s.heap) (c:bR K C N bm (some (.ref fI))) (tl:rA K bm) (lf:s.heap.get? fI=some oI) (cf:oI.cls=.type "function")
  (k:∀ h' e,Heap.MadeExcOf s.heap h' e (.ref C) us→wpAny (model P w) (A.under (.builtin "type.__call__" ⟨.ref C :: us,[]⟩)) (call (.ref fI) (.ref e :: us)) (fun r s'=>r=.none∧Q (.ref e) s') E { s with heap:=h' }) (hu:us.length≤sizeLine) :
  wpAny (model P w) A (call (.ref C) us) Q E s:=by
 obtain⟨nm,q,bs,hdct,sn,sub,ab,col,dd,k0,k1,k2,k3,k5,lc⟩:=c.obj dw
 obtain⟨h,g,dr,tk,os⟩:=s
 have t1:=tc_lookup
 have t2:=tc_bind (.ref C)
 have tT:(⟨h,g,dr,tk,os⟩:Shared).TypeIs (.ref C) "type" := ⟨_,lc,rfl⟩
 refine wpAny_call (codeAny_of_tree ?_)
 show wpAny _ _ (callAny (.ref C) _) _ _ _
 repeat (any_goals (first | assumption | with_reducible refine wpAny_loadPart_at lc ?_ | wp_step))
 exact⟨rfl,codeAny_call_builtin_at (Code.quiet_builtin _ (by decide +kernel)) entry_typeCall (wpAny_check_type_call_sub lc (tF dw c tl lf cf k hu))⟩
theorem DY {s:Shared}{ea:Addr}{oe:Obj}{vs:Array Value}{v:Value}{ini:Option Value}{Q:Value→Shared→Prop} (dw:K.In s.heap) (c:bR K C N bm ini) (tl:rA K bm) (he:s.heap.get? ea=some oe) (hc:oe.cls=.ref C) (hd:oe.data=.fields vs) (hz:0 < vs.size)
  (k:∀ h' t,(∀ b o,b≠ea→s.heap.get? b=some o→h'.get? b=some o)→h'.get? ea=some (oe.mapFields (·.setIfInBounds 0 (.ref t)))→Q .none { s with heap:=h' }) :
  wpAny (model P w) A (call (.builtin "ValueError.__init__") [.ref ea,v]) Q E s:=by
 obtain⟨nm,q,bs,hdct,sn,sub,ab,col,dd,k0,k1,k2,k3,k5,lc⟩:=c.obj dw
 have VE:=PySem.F.excBase_ValueError
 obtain⟨h,g,dr,tk,os⟩:=s
 refine wpAny_call (codeAny_call_builtin VE.init.plain VE.initEntry (wpAny_check_init_subU VE (tl.tail dw) lc he hc ?_))
 wp_walk
 obtain⟨x0,T8⟩:∃ x0,vs[0]? = some x0:=⟨vs[0],Array.getElem?_eq_getElem hz⟩
 have GV:(h.push { cls:=.type "tuple",data:=.seq #[v] }).get? ea=some oe:=Heap.get?_push_of_some _ he
 have fin:=k ((h.push { cls:=.type "tuple",data:=.seq #[v] }).update ea (Obj.mapFields (·.setIfInBounds 0 (.ref h.objs.size)))) h.objs.size (fun b o hb q=>(Heap.get?_update_other _ _ (Ne.symm hb)).trans (Heap.get?_push_of_some _ q))
  (Heap.get?_update_self _ GV (Obj.isFreed_of_fields (Obj.data_mapFields hd _)))
 rw[hd]
 refine wpAny_pure ?_
 rw[T8]
 refine wpAny_pure (wpAny_bind (wpAny_setField GV hd hz ?_))
 cases x0 <;> (wp_walk;exact fin)
theorem za {M:Model}{s:Shared}{env:Env}{ex:Expr}{pos:Pos}{ini:Option Value}{Q:Flow→Shared→Prop} (c:bR K C N bm ini) (tl:rA K bm) (hh:A.handled=none)
  (h:wpAny M A (eval ex env) (fun v s1=>∃ e oe vs,v=.ref e∧K.In s1.heap∧s1.heap.get? e=some oe∧oe.cls=.ref C∧oe.data=.fields vs∧vs[1]? = some .none∧E (.ref e) s1) E s) :
  wpAny M A (exec (.Raise (some ex) none pos) env) Q E s:=by
 have bc:(Value.ref C :: bm).contains (.type "BaseException")=true:=by rw[List.contains_cons,tl.base,Bool.or_true]
 rw[arm_exec_Raise]
 refine wpAny_bind (wpAny_standAt ?_)
 show wpAny M A (raiseStmt env (some _) none) Q E s
 unfold raiseStmt
 refine wpAny_bind (wpAny_bind (wpAny_mono h (fun v s1 h1=>?_) fun _ _ z=>z))
 obtain⟨e,oe,vs,rfl,dw,he,hc,hd,h1,hE⟩:=h1
 refine wpAny_bind (wpAny_standAt (wpAny_pure ?_))
 obtain⟨nm,q,bs,hdct,sn,sub,ab,col,dd,k0,k1,k2,k3,k5,lc⟩:=c.obj dw
 obtain⟨hp,g,dr,tk,os⟩:=s1
 repeat (first | (with_reducible refine wpAny_loadPart_at he ?_;rw[hc]) | with_reducible refine wpAny_loadPart_at lc ?_ | (with_reducible refine wpAny_isSubtype_exc lc ?_;rw[bc]) | with_reducible refine wpAny_field he hd h1 ?_ | wp_step)
 exact wpAny_raiseNew_none hh hE
end
def C9 (e:Addr) (C:Value) (od:Option Addr):HO:=.ext fun h=>∃ o vs,h.get? e=some o∧o.cls=C∧o.dict=od∧o.data=.fields vs∧vs[1]? = some .none∧vs[2]? = some .none
theorem DZ {P:Program}{w:World}{H:Hp}{h:Heap}{e:Addr}{C:Value}{od:Option Addr} (x:∃ o vs,h.get? e=some o∧o.cls=C∧o.dict=od∧o.data=.fields vs∧vs[1]? = some .none∧vs[2]? = some .none):bQ P w H h e (C9 e C od) :=
 ⟨x,(let ⟨o,_,q,_⟩:=x;⟨o,q⟩),fun _ _ ⟨o,vs,q,r⟩ k=>⟨o,vs,k o q,r⟩⟩
def Ik (d:Addr) (fs:List (Str×V)):HO:=.ext fun h=>∃ mA,h.Ns1 d mA∧(∀ g,tw (fs.lookup g) (mA g))∧PySem.Within mA (fs.map (·.1))
theorem KZ {P:Program}{w:World}{H:Hp}{h:Heap}{d:Addr}{fs:List (Str×V)} (x:∃ mA,h.Ns1 d mA∧(∀ g,tw (fs.lookup g) (mA g))∧PySem.Within mA (fs.map (·.1))):bQ P w H h d (Ik d fs) :=
 ⟨x,(let ⟨_,⟨o,_,_,q,_⟩,_⟩:=x;⟨o,q⟩),fun _ _ ⟨m,n,r⟩ k=>⟨m,n.at k,r⟩⟩
def del (H:Hp) (a:Addr):Hp:=fun b=>if b=a then none else H b
theorem xx {H:Hp}{a:Addr}:del H a a=none:=if_pos rfl
theorem vf {H:Hp}{a b:Addr} (h:b≠a):del H a b=H b:=if_neg h
theorem Il {H:Hp}{a:Addr}{o:HO} (h:H a=some o):upd H a o=H:=by
 funext b
 unfold upd
 split
 ·rename_i z;rw[z,h]
 ·rfl
section
variable {X:Cx}{pins:List (Addr×Obj)}{σ:St}{H:Hp}{s:Shared}{a:Addr}{φ:Heap→Prop}
theorem Inv.Gb (I:Inv X pins σ H s) (e:H a=some (.ext φ)):Inv X pins σ (del H a) s:=by
 have nn:∀ b,H b=none→del H a b=none:=fun b z=>by unfold del;split <;> first | rfl | exact z
 have nx:∀ b u,H b=some u→(∀ ψ,u≠.ext ψ)→del H a b=some u:=fun b u z k=>by
  rw[vf]
  ·exact z
  ·rintro rfl;rw[e] at z;cases z;exact k φ rfl
 refine⟨I.ok,I.os,I.bare,⟨I.base.keep,I.base.slot,fun b u q n hx=>nn b (I.base.free b u q n hx),I.base.there,fun b xs q=>nx b _ (I.base.tups b xs q) (fun _ z=>nomatch z),fun b u v q=>nx b _ (I.base.pI b u v q) (fun _ z=>nomatch z),fun b ps q=>?_⟩,I.loc,I.cell,nn _ I.free,fun x c q=>nn _ (I.gG x c q),fun p hp=>?_,fun b u q=>?_,I.len⟩
 ·obtain⟨more,z⟩:=I.base.qD b ps q
  exact⟨more,nx b _ z (fun _ z=>nomatch z)⟩
 ·obtain⟨e1,n1,r⟩:=I.pin p hp
  exact⟨e1,nn _ n1,r⟩
 ·by_cases hb:b=a
  ·subst hb;rw[xx] at q;cases q
  ·rw[vf hb] at q
   exact(I.hok b u q).stay (fun c v _ z=>z) (fun c z=>nx c _ z (fun _ y=>nomatch y)) fun c xs z=>nx c _ z (fun _ y=>nomatch y)
end
def OW (v:V):Prop:=(∃ a:Int,v=.int a∧a.natAbs.log2 < 1920)∨∃ x:Str,v=.str x∧x.length≤2000
section
variable {X:Cx}{e:Expr}{te:TE}{pos:Pos}
def OX (te:TE):TE:=fun σ H Q=>te σ H fun v H1=>OW v∧∀ z:Str,z.length≤2000→Q (.str z) H1
theorem Im (he:PE X e te):PE X (.FormattedValue e (-1) none pos) (OX te):=by
 intro pins s σ H Q I h
 refine wpAny_FormattedValue_plain (bZ (he pins s σ H _ I h) fun u s1 ⟨v,H1,I1,r,f,q⟩=>?_)
 rcases f with ⟨a,rfl,ha⟩ | ⟨x,rfl,hx⟩
 ·obtain⟨t,rfl⟩:=(show ∃ t,u=Value.int a t from r)
  exact wpAny_formatField_int ha ⟨.str (Str.ofString (toString a)),H1,I1.tok _,⟨_,rfl⟩,q _ (Nat.le_trans (int_text_len_1921 ha) (by decide))⟩
 ·obtain⟨t,rfl⟩:=(show ∃ t,u=Value.str x t from r)
  exact wpAny_formatField_str ⟨.str x,H1,I1,⟨_,rfl⟩,q _ hx⟩ ⟨.str x,H1,I1.tok _,⟨_,rfl⟩,q _ hx⟩ (Nat.le_trans hx (by decide))
abbrev TJ:=St→Hp→(Hp→Prop)→Prop
def PJ (X:Cx) (parts:List Expr) (t:TJ):Prop:=∀(pins:List (Addr×Obj)) (s:Shared) (σ:St) (H:Hp) (out:Str) (Q:Hp→Prop),Inv X pins σ H s→t σ H Q→out.length+2000 * parts.length≤100000 →
 wpAny (model X.prog X.w) X.A (joinParts out (evalEach parts X.env)) (fun u s'=>∃ z H',RelV (.str z) u∧Inv X pins σ H' s'∧Q H') X.xe s
theorem Io:PJ X [] (fun _ H Q=>Q H):=fun pins s σ H out Q I h hl=>joinParts_nil ⟨out,H,⟨_,rfl⟩,I.tok _,h⟩ (Nat.le_trans (show out.length≤100000 by simp at hl;exact hl) (by decide))
theorem AZ {rest:List Expr}{t:TJ} (he:PE X e te) (hr:PJ X rest t) (hs:evalEach (e :: rest) X.env=eval e X.env :: evalEach rest X.env:=by rfl):PJ X (e :: rest) (fun σ H Q=>te σ H fun v H1=>∃ y:Str,v=.str y∧y.length≤2000∧t σ H1 Q):=by
 intro pins s σ H out Q I h hl
 rw[hs]
 refine joinParts_cons (bZ (he pins s σ H _ I h) fun u s1 ⟨v,H1,I1,r,y,ev,hy,q⟩=>?_)
 subst ev
 obtain⟨t,rfl⟩:=(show ∃ t,u=Value.str y t from r)
 have el:(out++y).length=out.length+y.length:=Str.length_append ..
 rw[List.length_cons] at hl
 exact⟨Nat.le_trans (show(out++y).length≤100000 by omega) (by decide),hr pins s1 σ H1 (out++y) Q I1 q (by omega)⟩
theorem Bx {v1 v2:Expr}{rest:List Expr}{t:TJ} (h:PJ X (v1 :: v2 :: rest) t) (hn:2000 * (v1 :: v2 :: rest).length≤100000:=by decide):PE X (.JoinedStr (v1 :: v2 :: rest) pos) (fun σ H Q=>t σ H fun H'=>∀ z:Str,Q (.str z) H'):=by
 intro pins s σ H Q I hq
 refine JoinedStr_many ?_
 exact bZ (h pins s σ H Str.empty _ I hq (by show 0+_≤_;omega)) fun u s1 ⟨z,H1,r,I1,q⟩=>⟨.str z,H1,I1,r,q z⟩
end
section
variable {X:Cx}{C N D fI:Addr}{bm:List Value}{ini:Option Value}{x f:Str}{np ap pos cpos pos':Pos}{e o value a1 a2:Expr}{es:List Expr}{t:TA}{ta tv te:TE}
structure Rt (K:W.Frag) (D:Addr):Prop where
 sp:W.specialIn K (.ref D) "__getattribute__" = some (some (.builtin "type.__getattribute__"))
 rd:W.readsIn K D (.type "type")=true
 fc:W.findCls K (.ref D) (.type "type") "__init__" = some (.val (.builtin "ValueError.__init__"))
def Ip (C:Addr) (t:TA):TE:=fun σ H Q=>t σ H fun vs H1=>∃ ea od z,vs=[.ref ea,z]∧H1 ea=some (C9 ea (.ref C) od)∧Q .non H1
theorem D0 {pl:Sem Bool} (hg:Gl X x) (hm:X.mg x=some (.ref D)) (i:Rt X.K D) (c:bR X.K C N bm ini) (tl:rA X.K bm) (ha:PA X [a1,a2] t) (hdb:(x == ("__debug__" : Str))=false:=by decide)
  (hst:starEach [a1,a2] X.env=(false,eval a1 X.env) :: starEach [a2] X.env:=by rfl) (hpl:(backTo pos (starEach [a2] X.env)).any (·.1)=false:=by rfl)
  (ht:eval (.Call (.Attribute (.Name x np) "__init__" ap) [a1,a2] [] pos) X.env=(do
   let ov ←eval (.Name x np) X.env
   standAt ap.atName
   let (f,first) ←holding [ov] (getMethod ov "__init__" pl)
   callWith pos f first (backTo pos (starEach [a1,a2] X.env)) (backToKw pos (keywordEach [] X.env))):=by rfl) :
  PE X (.Call (.Attribute (.Name x np) "__init__" ap) [a1,a2] [] pos) (Ip C t):=by
 intro pins s σ H Q I h
 refine W.methodCall_KW (pl:=pl) (gB I hg hm ?_ hdb) ht
 refine W.method_cls I.j4 i.sp (W.cls_value I.j4 i.rd i.fc (by decide +kernel) ?_)
 have I0:=I.tok (s.toks+1)
 refine PyProof.Rows.callWith_builtin1 (bZ (ha pos pins _ σ H _ I0 h) fun us s1 ⟨vs,H1,I1,r,ea,od,z,ev,oE,q⟩=>?_) hst hpl
 subst ev
 obtain⟨⟨oe,ws,he,hc,hdi,hd,h1⟩,_⟩:=I1.hok ea _ oE
 cases r with
 | cons r1 r' =>
  cases r' with
  | cons r2 r'' =>
   cases r''
   obtain rfl:=(show _=Value.ref ea from r1)
   have hz:=(Array.getElem?_eq_some_iff.mp h1.1).1
   refine DY I1.j4 c tl he hc hd (by omega) fun h' ta kp he'=>?_
   have W:=I1.write (x:=ea) (e:=ea) (o:=C9 ea (.ref C) od) (h':=h') (t':=s1.toks) (by rw[oE];exact True.intro) (.inl rfl) kp ⟨_,he'⟩ (DZ ⟨_,_,he',(rX _ _).trans hc,(pS _ _).trans hdi,Obj.data_mapFields hd _,by rw[Array.getElem?_setIfInBounds_ne (by decide)];exact h1.1,by rw[Array.getElem?_setIfInBounds_ne (by decide)];exact h1.2⟩)
   rw[Il oE] at W
   exact⟨.non,H1,W,rfl,q⟩
def Iq (C:Addr) (ta tv:TE) (f:Str):TS:=fun D σ H=>tv σ H fun y H1=>ta σ H1 fun x H2=>∃ ea,x=.ref ea∧H2 ea=some (C9 ea (.ref C) none)∧∀ d,H2 d=none→D.nx σ (upd (upd H2 ea (C9 ea (.ref C) (some d))) d (Ik d [(f,y)]))
theorem D5 (hex:X.ex=[]) (c:bR X.K C N bm ini) (tl:rA X.K bm) (a:C8 X.K C f) (ha:PE X o ta) (hv:PE X value tv) (hs:swapsWith value (some (.Attribute o f pos')) pos.line X.env=pure false):PS X (.Assign [.Attribute o f pos'] value pos) (Iq C ta tv f):=by
 intro pins s σ H D I h
 refine plainObj_wpAny_Assign_Attribute (bZ (hv pins s σ H _ I h) fun u s1 ⟨y,H1,I1,ry,q⟩=>bZ (ha pins s1 σ H1 _ I1 q) fun ov s2 ⟨x,H2,I2,rx,ea,ex,oE,q2⟩=>?_) hs
 subst ex
 obtain rfl:ov=Value.ref ea:=rx
 obtain⟨⟨oe,ws,he,hc,hdi,hd,h1⟩,_⟩:=I2.hok ea _ oE
 refine DW I2.j4 c tl a he hc hdi hd fun h' tk x1 n1 kp=>?_
 have nd:H2 s2.heap.objs.size=none:=I2.hok.fresh (Nat.le_refl _)
 have W:=I2.write (x:=ea) (e:=ea) (o:=C9 ea (.ref C) (some s2.heap.objs.size)) (h':=h') (t':=tk) (by rw[oE];exact True.intro) (.inl rfl) kp ⟨_,x1⟩ (DZ ⟨_,_,x1,hc,rfl,hd,h1⟩)
 have ne:s2.heap.objs.size≠ea:=fun z=>by rw[z,oE] at nd;cases nd
 have T:=I2.AX W (a:=s2.heap.objs.size) (o:=Ik s2.heap.objs.size [(f,y)]) hex (by rw[aC ne];exact nd) (Heap.get?_none_of_le (Nat.le_refl _)) (KZ ⟨_,n1,fun g=>?_,fun g hg=>?_⟩)
 ·exact⟨σ,_,T,q2 _ nd⟩
 ·show tw (List.lookup g [(f,y)]) (if g=f then some u else none)
  by_cases z:g=f
  ·subst z;simp[List.lookup];exact ry
  ·rw[if_neg z];simp[List.lookup,beq_false_of_ne z];exact True.intro
 ·by_cases z:g=f
  ·rw[z];exact List.mem_singleton.mpr rfl
  ·exact absurd (if_neg z) hg
def K0 (C:Addr) (te:TE) (f:Str):TE:=fun σ H Q=>te σ H fun x H1=>∃ ea d fs v,x=.ref ea∧H1 ea=some (xr ea (.ref C) (some d))∧H1 d=some (Ik d fs)∧fs.lookup f=some v∧Q v H1
theorem Ge (c:bR X.K C N bm ini) (tl:rA X.K bm) (a:C8 X.K C f) (he:PE X e te) (hb:attributeBase e f X.env (eval e X.env)=eval e X.env):PE X (.Attribute e f pos) (K0 C te f):=by
 intro pins s σ H Q I h
 refine Fv hb (bZ (he pins s σ H _ I h) fun u s1 ⟨x,H1,I1,rx,ea,d,fs,v,ex,oE,hed,l,q⟩=>?_)
 subst ex
 obtain rfl:u=Value.ref ea:=rx
 obtain⟨⟨oe,ws,he,hc,hdi,hd,_⟩,_⟩:=I1.hok ea _ oE
 obtain⟨⟨mA,hn,r,wi⟩,_⟩:=I1.hok d _ hed
 obtain⟨u,hu,ru⟩:=tw.some_of (v:=v) (o:=mA f) (by rw[←l];exact r f)
 exact Ga I1.j4 c tl a he hc hdi hd hn hu (Bq ru) ⟨v,H1,I1.tok _,ru,q⟩
end
section
variable {P:Program}{w:World}{K:W.Frag}{mg:Str→Option Value}{base:Heap}{N0:List Str}{qual:Str}{scope:Scope}{f:Addr}{cd:Value}{A:Around}{outer:List Env}{s0:Shared}{H0:Hp}{E:XK}
def Gf (E:XK) (C:Addr) (sp:Sp) (t:TA):TS:=fun _ σ H=>t σ H fun vs H1=>vs.length≤sizeLine∧∀ ea,H1 ea=none →
 sp (.ref ea :: vs) (upd H1 ea (C9 ea (.ref C) none)) (fun v H2=>v=.non∧∃ od,H2 ea=some (C9 ea (.ref C) od)∧E (.ref C) od (del H2 ea)) E0
theorem By {X:Cx} (hX:X=mP (ql P w) P w K mg base N0 qual scope f cd A outer s0 H0 E) {C N fI:Addr}{bm:List Value}{x:Str}{np cpos pos:Pos}{e:Expr}{es:List Expr}{t:TA}{k:Nat}{fd:FuncData}{ps:List Str}{sp:Sp}{oI:Obj}
  (c:bR K C N bm (some (.ref fI))) (tl:rA K bm) (lf:K.lookup fI=some oI) (cf:oI.cls=.type "function") (F:bf P w K mg base gM k fI fd ps sp) (hr:dX (k+1) X.A) (hb:Binds K fd ps []) (hk:W.keepIn K (.ref C)=true)
  (hg:Gl X x) (hm:mg x=some (.ref C)) (ha:PA X (e :: es) t) (hdb:(x == ("__debug__" : Str))=false:=by decide) (he:starEach (e :: es) X.env=(false,eval e X.env) :: starEach es X.env:=by rfl)
  (hpl:(backTo cpos (starEach es X.env)).any (·.1)=false:=by rfl):PS X (.Raise (some (.Call (.Name x np) (e :: es) [] cpos)) none pos) (Gf E C sp t):=by
 intro pins s σ H D I h
 have hx:X.xe=fun (e:Value) (s':Shared)=>wpAny (model X.prog X.w) X.A (leaving X.env e) (fun _ s''=>ql X.prog X.w X.outer X.H₀ X.s₀ E e s'') (fun e' s''=>ql X.prog X.w X.outer X.H₀ X.s₀ E e' s'') s':=by subst hX;rfl
 have hst:X.stack=X.env :: X.outer:=by subst hX;rfl
 have hfm:X.env.frame=some X.env.locals:=by subst hX;rfl
 have hex:X.ex=[]:=by subst hX;rfl
 have hmg:X.mg x=some (.ref C):=by subst hX;exact hm
 have ON:X.calm=true:=by subst hX;rfl
 have hK:X.K=K:=by subst hX;rfl
 have F':bf X.prog X.w X.K X.mg X.base gM k fI fd ps sp:=by subst hX;exact F
 refine za (K:=K) c tl (I.ok.hd ON) (wpAny_Call_Name_kw (gB I hg hmg ?_ hdb))
 refine W.callWith_K (K:=X.K) (h₀:=X.base) I.ok.mod.dw (by rw[hK];exact hk) (bZ (ha cpos pins s σ H _ I h) fun us s1 ⟨vs,H1,I1,r,hl,q⟩=>⟨I1.j4,?_⟩) he hpl
 have dw:K.In s1.heap:=by rw[←hK];exact I1.j4
 refine DX dw c tl (dw _ _ lf) cf (fun h' ea md=>?_) (by show us.length≤sizeLine;rw[←r.length];exact hl)
 obtain⟨tt,q1,_,_⟩:=md.there
 have Ru:H1 ea=none:=I1.hok.none md.new
 have I2:=I1.kept (t':=s1.toks) (h':=h') md.keeps
 have I3:=I1.AX I2 (a:=ea) (o:=C9 ea (.ref C) none) hex Ru md.new (DZ ⟨_,_,q1,rfl,rfl,rfl,rfl,rfl⟩)
 have hq:=q ea Ru
 have r2:Vals (V.ref ea :: vs) (Value.ref ea :: us):=.cons rfl r
 have hlen:(Value.ref ea :: us++[]).length=ps.length:=by rw[List.append_nil,←r2.length];exact F'.len _ _ _ _ hq
 have hb':=hb { s1 with heap:=h' } (Value.ref ea :: us) (by rw[←hK];exact I3.j4) hlen
 rw[List.append_nil] at hb'
 refine wpAny_call (codeAny_mono (F'.run _ X.stack _ _ ⟨Value.ref ea :: us,[]⟩ (Value.ref ea :: us) _ _ E0 (hr.make C us []) (I3.Dy.make C us []) hb' r2 hq) fun rr s' hq'=>?_)
 cases rr with
 | error e=>exact hq'.elim
 | ok fl =>
  cases fl with
  | next=>exact hq'.elim
  | brk=>exact hq'.elim
  | cont=>exact hq'.elim
  | ret u =>
   obtain⟨v,H',os,bare,un,hok,rv,ev,od,oE,hE⟩:=hq'
   subst ev
   have J:=I3.wV os un hok bare (fun b z=>nomatch z)
   obtain⟨⟨oe,ws,Rv,hc2,OY,hd2,h12⟩,_⟩:=J.hok ea _ oE
   refine⟨rv,ea,oe,ws,rfl,by rw[←hK];exact J.j4,Rv,hc2,hd2,h12.1,?_⟩
   rw[hx]
   exact leaveX (fl:=none) hst hfm hex I1 (J.Gb oE) (fun b o z=>un.there b o (md.keeps b o z) (by simp)) ⟨xx,md.new,oe,ws,Rv,hc2,OY,hd2,h12⟩ (.inl rfl) hE
end
open PySem PySem.Spec PyProof.Rows
structure jj (k:Nat) (A:Around):Prop where
 dp:A.depth+3 * k+5 < recursionLimit
 un:A.units+16 * k+200 < cLine
theorem dX.m {k:Nat}{A:Around} (r:dX k A):jj k A:=⟨r.dp,r.un⟩
theorem jj.mark {k:Nat}{A:Around} (r:jj k A) (h:Option Value):jj k (A.mark h):=⟨r.dp,r.un⟩
theorem jj.deeper {k:Nat}{A:Around} (r:jj (k+1) A) (env:Env):jj k (A.deeper env) :=
 ⟨by have:=r.dp;show A.depth+1+3 * k+5 < _;omega,by have:=r.un;show A.units+3+16 * k+200 < _;omega⟩
theorem jj.bN {k:Nat}{A:Around} (r:jj k A):A.units < cLine:=by have:=r.un;omega
theorem jj.hu {k:Nat}{A:Around} (r:jj k A):A.units+1 < cLine:=by have:=r.un;omega
structure A0 (P:Program) (w:World) (K:W.Frag) (mg:Str→Option Value) (base:Heap) (k:Nat) (f:Addr) (fd:FuncData) (ps:List Str) (sp:Sp):Prop where
 len:∀ vs H Q E,sp vs H Q E→vs.length=ps.length
 run:∀(A:Around) (outer:List Env) (s:Shared) (H:Hp) (args:Args) (us:List Value) (vs:List V) (Q:VK) (E:XK),jj k A→uU P w K mg base A outer s H→BindsTo s fd args (ps.zip us)→Vals vs us→sp vs H Q E →
  codeAny (model P w) A (.call (.ref f) args) (CR gM outer P w H s Q E) s
abbrev Cx.Ir (X:Cx):Cx:={ X with calm:=false,xe:=fun _ _=>False }
section
variable {P:Program}{w:World}{K:W.Frag}{mg:Str→Option Value}{base:Heap}
theorem jw.T9 {x qual:Str}{st:Stmt}{f:Addr}{fd:FuncData}{N ps:List Str}{k:Nat}{sp:Sp} (F:jw K x qual st f fd) (S:aT N ps (av st)) (len:∀ vs H Q E,sp vs H Q E→vs.length=ps.length)
  (hbody:∀(cdv:Value) (A:Around) (outer:List Env) (s:Shared) (H:Hp) (vs:List V) (Q:VK) (E:XK),jj k (A.deeper (envOfC qual (av st) s.heap.objs.size f cdv))→sp vs H Q E →
   ∃ t,wO (mP gM P w K mg base N qual (av st) f cdv A outer s H E).Ir (bO st) t∧t { nx:=fun _ H'=>Q .non H',rt:=Q } (start N vs) H):A0 P w K mg base (k+1) f fd ps sp:=by
 obtain⟨oc,od,kV,doc,pm,an,cdv,ct,osl,rfl,lk,hcd⟩:=F.ex
 refine⟨len,fun A outer s H args us vs Q E hr e0 hb r yT=>?_⟩
 have hl:=len _ _ _ _ yT
 have KX:K.In s.heap:=e0.mod.dw.keeps fun b o e=>(e0.bs b o e).1
 have lim:s.heap.NoLimit:=e0.mod.nolimit.keeps fun b o e=>(e0.bs b o e).1
 have hkind:∀ y∈ps.zip us,(av st).names.lookup y.1=some .local∨((av st).names.lookup y.1=some .cell∧((cellsFrom (s.heap.objs.size+1) (av st).names []).lookup y.1).isSome=true):=fun ⟨n,v⟩ hy=>by
  rcases S.par n (List.of_mem_zip hy).1 with q | q
  ·exact .inl q
  ·exact .inr ⟨q,W.cellsFrom_some _ _ _ (.inl q)⟩
 refine codeAny_call_function (show A.depth < recursionLimit by have:=hr.dp;omega) (KX _ _ lk) rfl S.co S.gen rfl (W.codeRec_of KX hcd) (hb _ _ _ _ ?_)
 refine wpAny_newFunctionEnv_cells S.kind hkind fun env he s1 x=>?_
 subst he
 refine⟨lim.keeps x.toInCall.keep,codeAny_func ?_⟩
 obtain⟨t,ht,hq⟩:=hbody cdv A outer s H vs Q E (hr.deeper _) yT
 have e1:uU P w K mg base ({ A with handled:=none }:Around) outer s H:=⟨e0.frames,e0.mod,e0.bs,e0.C6,e0.nI,e0.E3,e0.hok,e0.bare⟩
 have I1:Inv (mP gM P w K mg base N qual (av st) f cdv ({ A with handled:=none }:Around) outer s H E) [] (start N vs) H s1:=uA S rfl e1 hl r x
 have I:Inv (mP gM P w K mg base N qual (av st) f cdv A outer s H E).Ir [] (start N vs) H s1 :=
  ⟨⟨I1.ok.mod,I1.ok.kind,I1.ok.glob,I1.ok.blt,I1.ok.above,I1.ok.inj,I1.ok.has,I1.ok.Hu,(fun z=>nomatch (show false=true from z)),Around.frames_deeper e0.frames,I1.ok.stk,I1.ok.Nh,I1.ok.bs,I1.ok.C6,I1.ok.yM,I1.ok.Bj,I1.ok.nI,I1.ok.E3⟩,
   I1.os,I1.bare,I1.base,I1.loc,I1.cell,I1.free,I1.gG,I1.pin,I1.hok,I1.len⟩
 refine wpAny_mono (ht [] s1 (start N vs) H _ I hq) (fun fl s' hs=>?_) fun e s' hs=>hs.elim
 have fin:∀{σ':St}{H':Hp}{v:V}{u:Value},Inv (mP gM P w K mg base N qual (av st) f cdv A outer s H E).Ir [] σ' H' s'→RelV v u→Q v H'→CE outer P w H s Q u s' :=
  fun {σ' H' v u} J rv q=>⟨v,H',J.os,J.bare,J.base,J.hok,rv,q⟩
 cases fl with
 | ret u =>
  obtain⟨v,σ',H',J,rv,q⟩:=hs
  exact fin J rv q
 | next =>
  obtain⟨σ',H',J,q⟩:=hs
  exact fin (v:=V.non) (u:=Value.none) J rfl q
 | brk =>
  obtain⟨_,_,_,q⟩:=hs
  exact False.elim q
 | cont =>
  obtain⟨_,_,_,q⟩:=hs
  exact False.elim q
theorem FQ.Nr {x qual:Str}{st:Stmt}{f:Addr}{fd:FuncData}{dV:Value}{N ps:List Str}{k:Nat}{sp:Sp} (F:FQ K x qual st f fd dV) (S:aT N ps (av st)) (len:∀ vs H Q E,sp vs H Q E→vs.length=ps.length)
  (hbody:∀(cdv:Value) (A:Around) (outer:List Env) (s:Shared) (H:Hp) (vs:List V) (Q:VK) (E:XK),dX k (A.deeper (envOfC qual (av st) s.heap.objs.size f cdv))→sp vs H Q E →
   ∃ t,wO (mP (ql P w) P w K mg base N qual (av st) f cdv A outer s H E) (bO st) t∧t { nx:=fun _ H'=>Q .non H',rt:=Q } (start N vs) H):bf P w K mg base (ql P w) (k+1) f fd ps sp:=by
 obtain⟨oc,od,kV,doc,pm,an,cdv,ct,osl,rfl,lk,hcd⟩:=F.ex
 exact DA lk hcd S len fun A outer s H vs Q E hr yT=>hbody cdv A outer s H vs Q E hr yT
end
section
variable {X:Cx}{k:Nat}{f:Addr}{fd:FuncData}{ps:List Str}{sp:Sp}{x:Str}{p pos:Pos}{e:Expr}{es:List Expr}{t:TA}
theorem xy (F:A0 X.prog X.w X.K X.mg X.base k f fd ps sp) (hr:jj k X.A) (hg:Gl X x) (hm:X.mg x=some (.ref f)) (hk:W.keepIn X.K (.ref f)=true) (hb:Binds X.K fd ps [])
  (ha:PA X (e :: es) t) (hdb:(x == ("__debug__" : Str))=false:=by decide) (he:starEach (e :: es) X.env=(false,eval e X.env) :: starEach es X.env:=by rfl) (hpl:(backTo pos (starEach es X.env)).any (·.1)=false:=by rfl) :
  PE X (.Call (.Name x p) (e :: es) [] pos) (AL sp [] E0 t):=by
 intro pins s σ H Q I h
 refine wpAny_Call_Name_kw (gB I hg hm ?_ hdb)
 refine W.callWith_K (h₀:=X.base) I.ok.mod.dw hk (bZ (ha pos pins s σ H _ I h) fun us s1 ⟨vs,H1,I1,r,q⟩=>⟨I1.j4,?_⟩) he hpl
 have q:sp (vs++[]) H1 Q E0:=q
 rw[List.append_nil] at q
 have hl:us.length=ps.length:=by rw[←r.length];exact F.len _ _ _ _ q
 have hb':=hb s1 us I1.j4 (by rw[List.append_nil];exact hl)
 rw[List.append_nil] at hb'
 refine wpAny_call (codeAny_mono (F.run X.A X.stack s1 H1 ⟨us,[]⟩ us vs Q E0 hr I1.Dy hb' r q) fun rr s' hq=>?_)
 cases rr with
 | error e=>exact hq.elim
 | ok fl =>
  cases fl with
  | ret u=>exact I1.after hq
  | next=>exact False.elim hq
  | brk=>exact False.elim hq
  | cont=>exact False.elim hq
end
structure JJ (K:W.Frag) (C:Addr):Prop where
 ga:W.findIn K (.ref C) "__getattribute__" = some (some (.builtin "BaseException.__getattribute__"))
 gx:W.findIn K (.ref C) "__getattr__" = some none
 hd:W.hasDictIn K C=true
 ha:W.findIn K (.ref C) "__class__" = some (some (.builtin "object.__class__"))
 hn:W.specialIn K (.builtin "object.__class__") "__get__" = some (some (.builtin "getset_descriptor.__get__"))
 tk:W.takesIn K (.builtin "object.__class__")=some true
 hm:W.mroIn K C (.type "object")=some true
section
variable {P:Program}{w:World}{A:Around}{E:Value→Shared→Prop}{s:Shared}{K:W.Frag}{C N x:Addr}{bm:List Value}{ini:Option Value}{f:Str}{v:Value}{ox:Obj}{vs:Array Value}
theorem BA {a g:Value}{odo:Option Obj} (hc:(W.clsIn K C).isSome=true) (ha:W.findIn K (.ref C) f=some (some a)) (hg:W.specialIn K a "__get__" = some (some g)) (ht:W.takesIn K a=some true):W.findObj K C odo f=some (.bind g a):=by
 obtain⟨cd,hc⟩:=Option.isSome_iff_exists.mp hc
 unfold W.findObj
 rw[hc,Option.bind_some,ha,Option.bind_some]
 simp[hg,ht]
theorem D6 {tk:Tok}{Q:Fin→Shared→Prop}{tp g a:Value} (L0:W.Looks (model P w) s.heap (typeOf (.ref x)) tp) (L1:W.Looks (model P w) s.heap (find (.ref x) tp f) (.bind g a))
  (h:wpAny (model P w) A (call g [a,.ref x,tp]) (fun v s'=>Q (.done (.ret v)) s') E s) :
  wpAny (model P w) A (Builtin.«object.__getattribute__» ⟨[.ref x,.str f tk],[]⟩) Q E s:=by
 unfold Builtin.«object.__getattribute__»
 refine wpAny_bind (m:=slotArgs _ _ _) ?_
 refine wpAny_pure (a:=(Value.ref x,[Value.str f tk])) ?_
 refine wpAny_bind (m:=attrName _) ?_
 refine wpAny_pure (a:=f) ?_
 refine wpAny_bind (L0.here ?_)
 refine wpAny_bind (L1.here ?_)
 first
  | exact wpAny_bind (wpAny_holding (wpAny_mono h (fun v s' z=>wpAny_pure z) fun _ _ z=>z))
  | exact wpAny_bind (wpAny_mono h (fun v s' z=>wpAny_pure z) fun _ _ z=>z)
theorem BB {od:Option Obj}{Q:Option Value→Shared→Prop} (dw:K.In s.heap) (c:bR K C N bm ini) (tl:rA K bm) (k:JJ K C) (J:W.InstAt s.heap x ox C od)
  (h:Q (some (.ref C)) { s with toks:=s.toks+1 }):wpAny (model P w) A (getAttr? (.ref x) "__class__") Q E s:=by
 obtain⟨cd,hcd,hm,Ij⟩:=c.cls k.hd
 have FO:W.findObj K C od "__class__" = some (.bind (.builtin "getset_descriptor.__get__") (.builtin "object.__class__")):=BA (by rw[hcd];rfl) k.ha k.hn k.tk
 have hob:(cd.mro.contains (.type "BaseException"))=true:=by rw[hm,List.contains_cons,tl.base];rfl
 have ne:cd.mro.isEmpty=false:=by rw[hm];rfl
 have sub:W.Looks (model P w) s.heap (isInstance (.ref x) (.type "BaseException")) true :=
  J.type.andThen (W.looks_mroIn dw (by unfold W.mroIn;rw[hcd,Option.bind_some,if_neg (by rw[ne];decide),hob]))
 have hk:W.Looks (model P w) s.heap (hookBefore (.ref C)) none:=W.looks_hook dw (by show(if onTheHeap (.ref C) then _ else _)=_;exact k.gx)
 have L1:=W.looks_find (M:=model P w) dw J FO
 unfold getAttr? getAttrBy? getAttrBy
 refine wpAny_bind (wpAny_mkText (wpAny_bind (wpAny_attempt (wpAny_holding (wpAny_bind (J.type _ _ _ _ (fun _ _ e=>e) (wpAny_bind (W.looks_findIn dw k.ga _ _ _ _ (fun _ _ e=>e) ?_))))))))
 dsimp only
 rw[show(onTheHeap (Value.ref C) && Value.builtin "BaseException.__getattribute__" == Value.builtin "object.__getattribute__")=false from by rw[show(Value.builtin "BaseException.__getattribute__" == Value.builtin "object.__getattribute__")=false from by decide +kernel];exact Bool.and_false _,if_neg (by decide)]
 refine wpAny_bind (hk _ _ _ _ (fun _ _ e=>e) (wpAny_bind (wpAny_attempt (wpAny_holding ?_))))
 unfold callGetattribute
 rw[show(false && onTheHeap (Value.builtin "BaseException.__getattribute__"))=false from Bool.false_and _,if_neg (by decide)]
 unfold boundAndCalled
 rw[PySem.F.attr_ValueError.ga.bind]
 refine wpAny_bind (wpAny_pure ?_)
 show wpAny _ _ (call (.builtin "BaseException.__getattribute__") [.ref x,.str "__class__" s.toks]) _ _ _
 refine wpAny_call (codeAny_call_builtin PySem.F.attr_ValueError.ga.plain PySem.F.entry_bexc_ga (W.check_slot (M:=model P w) (s:={ s with toks:=s.toks+1 }) (i := "BaseException.__getattribute__") (owner := "BaseException") (n := "__getattribute__") (self:=.ref x) (rest:=[.str "__class__" s.toks]) (kw:=[]) (by decide +kernel) (by decide +kernel) sub (PySem.F.args_bexc_ga (.ref x) (.str "__class__" s.toks)) ?_))
 refine D6 (s:={ s with toks:=s.toks+1 }) J.type L1 (wpAny_call (W.class_get (s:={ s with toks:=s.toks+1 }) (ox:=ox) (od:=od) dw J k.hm ?_))
 show wpAny _ _ (handedOut (.ref C)) _ _ _
 rw[W.handedOut_of rfl]
 exact wpAny_pure (wpAny_pure h)
theorem xA {x:Addr}{ox:Obj}{od:Option Obj} (c:bR K C N bm ini) (tl:rA K bm) (k:JJ K C):W.KitX K (.ref x) (.ref C) (fun h=>W.InstAt h x ox C od) where
 ty:=fun _ _ _ I=>I.type
 it:=fun _ _ X _=>by
  obtain⟨nm,q,bs,hdct,sn,sub,ab,col,dd,k0,k1,k2,k3,k5,lc⟩:=c.ob
  intro A' Q' E' s' k q
  unfold isType loadHead
  exact wpAny_bind (wpAny_loadPart (k _ _ (X _ _ lc)) (wpAny_pure q))
 ne:=fun h tp dd its n sl X htp=>by
  obtain⟨nm,q,bs,hdct,sn,sub,ab,col,dd,k0,k1,k2,k3,k5,lc⟩:=c.ob
  refine Bool.eq_false_iff.mpr fun q=>?_
  have e:C=tp:=Value.ref.inj (beq_iff_eq.mp q)
  subst e
  have z:=congrArg Obj.cls (Option.some.inj ((X _ _ lc).symm.trans htp))
  have z:Value.type "type" = Value.type "tuple" := z
  injection z with z
  exact absurd z (by decide)
 ca:=fun X I q=>BB X c tl k I q
end
section
variable {X:Cx}{K:W.Frag}
def Gg (H:Hp) (ea C:Addr):Prop:=∃ od,(H ea=some (C9 ea (.ref C) od)∨H ea=some (xr ea (.ref C) od))∧(od=none∨∃ d fs,od=some d∧H d=some (Ik d fs))
theorem Gg.at {pins:List (Addr×Obj)}{σ:St}{H:Hp}{s:Shared}{ea C:Addr} (I:Inv X pins σ H s) (h:Gg H ea C):∃ o od,W.InstAt s.heap ea o C od:=by
 obtain⟨od,e,d⟩:=h
 obtain⟨o,vs,q1,q2,q3,q4⟩:∃ o vs,s.heap.get? ea=some o∧o.cls=.ref C∧o.dict=od∧o.data=.fields vs:=by
  rcases e with e | e
  ·obtain⟨⟨o,vs,q1,q2,q3,q4,_⟩,_⟩:=I.hok ea _ e
   exact⟨o,vs,q1,q2,q3,q4⟩
  ·obtain⟨⟨o,vs,q1,q2,q3,q4,_⟩,_⟩:=I.hok ea _ e
   exact⟨o,vs,q1,q2,q3,q4⟩
 have no:∀{P:Prop},P→P:=id
 rcases d with rfl | ⟨d,fs,rfl,e2⟩
 ·exact⟨o,none,q1,q2,by obtain⟨oc,Nt,Nu,osl⟩:=o;cases q4;rfl,by rw[q3];exact True.intro⟩
 ·obtain⟨⟨mA,⟨od,es,n,ho,_⟩,_⟩,_⟩:=I.hok d _ e2
  exact⟨o,some od,q1,q2,by obtain⟨oc,Nt,Nu,osl⟩:=o;cases q4;rfl,by rw[q3];exact ho⟩
theorem Gg.mono {H H':Hp}{ea C:Addr} (s:aE H H') (h:Gg H ea C):Gg H' ea C:=by
 obtain⟨od,e,d⟩:=h
 refine⟨od,e.imp (s _ _) (s _ _),d.imp id fun ⟨d,fs,e1,e2⟩=>⟨d,fs,e1,s _ _ e2⟩⟩
def OZ (K:W.Frag):List V→Hp→VK→Prop:=fun xs H Q=>∃ ea C N bm ini c b,xs=[.ref ea,c]∧Gg H ea C∧bR K C N bm ini∧rA K bm∧JJ K C∧((∃ n,c=.ty n∧W.kitOne K (.ref C) (.type n)=some b)∨(∃ a,c=.ref a∧W.kitOne K (.ref C) (.ref a)=some b))∧Q (.bl b) H
theorem cI (h:X.K=K):gH X (.builtin "isinstance") (OZ K):=by
 subst h
 intro pins s σ H xs us Q I r h
 obtain⟨ea,C,N,bm,ini,c,b,rfl,xo,xc,tl,k,hc,q⟩:=h
 obtain⟨u,w',rfl,ru,rw'⟩:=vals2 r
 obtain⟨o,od,J⟩:=xo.at I
 cases(show u=Value.ref ea from ru)
 rcases hc with ⟨n,rfl,e⟩ | ⟨a,rfl,e⟩
 ·cases rw'
  exact W.kia_one (xA xc tl k) I.j4 J e (fun z=>nomatch z) fun tk=>⟨.bl b,H,I.tok tk,rfl,q⟩
 ·cases rw'
  exact W.kia_one (xA xc tl k) I.j4 J e (fun z=>nomatch z) fun tk=>⟨.bl b,H,I.tok tk,rfl,q⟩
end
section
variable {X:Cx}{C N fI:Addr}{bm:List Value}{x:Str}{np cpos:Pos}{e:Expr}{es:List Expr}{t:TA}
end
section
variable {K:W.Frag}{C D N N':Addr}{bm bm':List Value}{ini Ie:Option Value}{b:Bool}
theorem bR.kind (c:bR K C N bm ini):(W.clsIn K C).isSome=true∧W.typeIn K (.ref C)=some (.type "type"):=by
 obtain⟨nm,q,bs,hdct,sn,sub,ab,col,dd,k0,k1,k2,k3,k5,lc⟩:=c.ob
 constructor
 ·unfold W.clsIn;rw[lc];rfl
 ·show(K.lookup C).map (·.cls)=_;rw[lc];rfl
theorem bR.self (c:bR K C N bm ini):W.mroIn K C (.ref C)=some true:=by
 obtain⟨nm,q,bs,hdct,sn,sub,ab,col,dd,k0,k1,k2,k3,k5,lc⟩:=c.ob
 unfold W.mroIn W.clsIn
 rw[lc]
 show(if (Value.ref C :: bm).isEmpty=true then none else some ((Value.ref C :: bm).contains (.ref C)))=some true
 simp
theorem di (c:bR K C N bm ini) (d:bR K D N' bm' Ie) (m:W.mroIn K C (.ref D)=some b):W.kitOne K (.ref C) (.ref D)=some b:=by
 unfold W.kitOne
 by_cases e:C=D
 ·subst e
  rw[c.self] at m
  rw[if_pos (by simp)];exact m
 ·rw[if_neg (by simp;exact e)]
  unfold W.kitCls
  dsimp only
  rw[d.kind.1,d.kind.2,if_pos (by decide)]
  exact m
theorem GZ (m:W.mroIn K C (.type "ValueError")=some b):W.kitOne K (.ref C) (.type "ValueError")=some b:=by
 unfold W.kitOne
 rw[if_neg (by simp)]
 unfold W.kitCls
 dsimp only
 rw[if_pos (by decide +kernel)]
 exact m
end
open PySem PySem.Spec PyProof.Rows PySem.Builtin
theorem tG:entryFor table "proto.unchain" = some Builtin.«proto.unchain» := entryFor_of_fast (by kernel_rfl)
section
variable {prog:Program}{w:World}{A:Around}{E:Value→Shared→Prop}{s:Shared}{α:Type}
theorem xB {e ea:Addr}{o oe:Obj}{vs ws:Array Value}{Q:α→Shared→Prop} (hh:A.handled=some (.ref ea)) (he:s.heap.get? ea=some o) (hd:o.data=.fields vs) (h2:vs[2]? = some .none) (hne:ea≠e)
  (hx:s.heap.get? e=some oe) (hxd:oe.data=.fields ws) (hz:2 < ws.size) (h:E (.ref e) { s with heap:=s.heap.update e (Obj.mapFields (·.setIfInBounds 2 (.ref ea))) }):wpAny (model prog w) A (raiseNew (.ref e):Sem α) Q E s:=by
 unfold raiseNew
 refine wpAny_bind (wpAny_handled ?_)
 rw[hh]
 dsimp only
 rw[if_pos (show(Value.ref ea != Value.ref e)=true from by simp[hne])]
 refine wpAny_bind (wpAny_holding (wpAny_runValue (codeAny_builtin tG ?_)))
 show wpAny _ _ (field (.ref ea) 2 >>= _) _ _ s
 refine wpAny_bind (wpAny_field he hd h2 ?_)
 rw[if_pos (by decide)]
 refine wpAny_pure ?_
 show wpAny _ _ (setField (.ref e) 2 (.ref ea) >>= fun _=>throw (.ref e)) _ _ s
 exact wpAny_bind (wpAny_setField hx hxd hz (wpAny_throw h))
theorem vg {it ea:Addr}{o:Obj}{vs:Array Value}{x left step:Int}{Q:Option Value→Shared→Prop} (hh:A.handled=some (.ref ea)) (he:s.heap.get? ea=some o) (hd:o.data=.fields vs) (h2:vs[2]? = some .none)
  (hit:IsRangeIter s.heap it x left step) (hleft:left≤0)
  (hQ:∀ h',Heap.ExtBut it s.heap h'→Q none { s with heap:=h' }):wpAny (model prog w) A (pyNext (.ref it)) Q E s:=by
 have hT:s.TypeIs (.ref it) "range_iterator" := ⟨_,hit,rfl⟩
 unfold pyNext
 refine wpAny_bind (wpAny_attempt (wpAny_callSpecial?_slot (name:=Str.ofString "__next__") hT F.slot_range_iterator_next
  (wpAny_call_entry F.slot_range_iterator_next hT F.entry_range_iterator_next ?_ (F.args_range_iterator_next_1 _))))
 show wpAny _ _ (field (.ref it) 0 >>= _) _ _ s
 refine wpAny_bind (wpAny_field hit rfl (x:=rawInt x) rfl ?_)
 show wpAny _ _ (field (.ref it) 1 >>= _) _ _ s
 refine wpAny_bind (wpAny_field hit rfl (x:=rawInt left) rfl ?_)
 show wpAny _ _ (field (.ref it) 2 >>= _) _ _ s
 refine wpAny_bind (wpAny_field hit rfl (x:=rawInt step) rfl ?_)
 show wpAny _ _ (if left≤0 then _ else _) _ _ s
 rw[if_pos hleft]
 refine wpAny_bind (wpAny_rule ?_)
 refine wpAny_bind ?_
 show wpAny _ _ (newExc (.type "StopIteration") [] >>= _) _ _ _
 refine wpAny_bind ?_
 simp only[newExc,newTuple]
 refine wpAny_bind (wpAny_newObj_type ?_ (by size_fits))
 refine wpAny_bind (m:=firstArgMember _ _) (wpAny_of_eq (a:=Value.none) (by first | rfl | (simp only[firstArgMember];rfl)) ?_)
 refine wpAny_newObj_type ?_ (by size_fits)
 have up:∀(a b:Obj),((s.heap.push a).push b).get? ea=some o:=fun a b=>Heap.get?_push_of_some _ (Heap.get?_push_of_some _ he)
 have ne:∀(a:Obj),ea≠(s.heap.push a).objs.size:=fun a z=>by have l:=Heap.lt_size he;rw[Heap.size_push] at z;exact absurd z (Nat.ne_of_lt (Nat.lt_succ_of_lt l))
 refine xB (A:=A.in1) hh (up _ _) hd h2 (ne _) (Heap.get?_push_size _ rfl) rfl (by rw[Array.size_append];show 2 < 6+_;omega) ?_
 refine wpAny_bind (wpAny_isInstance (T := "StopIteration") (b:=true) ⟨_,Heap.get?_update_self _ (Heap.get?_push_size _ rfl) rfl,rfl⟩ isSubtype_stop ?_)
 rw[if_pos rfl]
 refine wpAny_pure (hQ _ fun b q hb e=>?_)
 refine(Heap.get?_update_other _ _ (fun z=>?_)).trans (Heap.get?_push_of_some _ (Heap.get?_push_of_some _ e))
 have l:=Heap.lt_size e
 rw[←z] at l
 have l2:(s.heap.push _).objs.size < s.heap.objs.size:=l
 rw[Heap.size_push] at l2
 omega
end
end L2
set_option maxHeartbeats 4000000
namespace L2
open PySem PySem.Spec PyProof.Rows
structure D7 (G:Cx→Prop) (P:Program) (w:World) (K:W.Frag) (tg:Expr) (J:It) (fp:List Addr) (it:Addr) (tn:Nat→Heap→Prop):Prop where
 mem:it∈fp
 obj:∀ i h,tn i h→∀ b∈fp,∃ o,h.get? b=some o∧∀ v,o.data≠.cell v
 keep:∀ i h h',tn i h→(∀ b∈fp,∀ o,h.get? b=some o→h'.get? b=some o)→tn i h'
 item:∀(X:Cx),X.prog=P→X.w=w→X.K=K→G X→∀(i:Nat) (pins:List (Addr×Obj)) (s:Shared) (σ:St) (H:Hp) (E:Value→Shared→Prop),Inv X pins σ H s→(∀ b∈fp,kP X pins H b)→tn i s.heap→J.go i H →
  wpAny (model P w) X.A (pyNext (.ref it)) (fun r s1=>∃ u,r=some u ∧
   wpAny (model P w) X.A (letOwnedTupleGo tg (.ref it) u) (fun _ s2=>∃ x H',Inv X pins σ H' s2∧RelV x u∧J.Hy i H x H'∧tn (i+1) s2.heap∧∀ b∈fp,H' b=none) E s1) E s
 done:∀(X:Cx),X.prog=P→X.w=w→X.K=K→G X→∀(i:Nat) (pins:List (Addr×Obj)) (s:Shared) (σ:St) (H:Hp) (E:Value→Shared→Prop),Inv X pins σ H s→(∀ b∈fp,kP X pins H b)→tn i s.heap→J.stop i H →
  wpAny (model P w) X.A (pyNext (.ref it)) (fun r s1=>r=none∧Inv X pins σ H s1) E s
 self:∀(A:Around) (i:Nat) (s:Shared) (Q:Value→Shared→Prop) (E:Value→Shared→Prop),tn i s.heap→Q (.ref it) s→wpAny (model P w) A (pyIter (.ref it)) Q E s
def K2 (G:Cx→Prop) (X:Cx) (pins:List (Addr×Obj)) (σ:St) (tg:Expr) (R:It→Hp→Prop) (itv:Value) (s2:Shared):Prop :=
 ∃(it:Addr) (fp:List Addr) (tn:Nat→Heap→Prop) (J:It) (H':Hp),itv=.ref it∧Inv X pins σ H' s2∧D7 G X.prog X.w X.K tg J fp it tn∧tn 0 s2.heap∧(∀ b∈fp,kP X pins H' b)∧R J H'
def Rw (G:Cx→Prop) (X:Cx) (tg iter:Expr) (wi:TI):Prop :=
 ∀(pins:List (Addr×Obj)) (s:Shared) (σ:St) (H:Hp) (R:It→Hp→Prop),Inv X pins σ H s→wi σ H R →
  wpAny (model X.prog X.w) X.A (eval iter X.env) (fun v s1=>wpAny (model X.prog X.w) X.A (pyIter v) (K2 G X pins σ tg R) X.xe s1) X.xe s
def Gh (ea:Addr) (lo:Int) (n:Nat):It:=⟨fun i _=>i < n,fun i H x H'=>H'=H∧x=.int (lo+i),fun i H=>n≤i∧∃ C od,H ea=some (xr ea C od)⟩
def Hd (ea:Addr) (X:Cx):Prop:=X.A.handled=some (.ref ea)
theorem xC {P:Program}{w:World}{K:W.Frag}{tg:Expr} (ea it:Addr) (lo:Int) (n:Nat):D7 (Hd ea) P w K tg (Gh ea lo n) [it] it (fun i h=>IsRangeIter h it (lo+(i:Nat) * 1) ((n:Int) - (i:Nat)) 1) where
 mem:=by simp
 obj:=fun i h st b hb=>by
  have e:b=it:=by simpa using hb
  subst e
  exact⟨_,st,fun v z=>by
   have z':Data.fields _=Data.cell v:=z
   cases z'⟩
 keep:=fun i h h' st k=>k it (by simp) _ st
 item:=by
  intro X hP hw hK hc i pins s σ H E I hf st hg
  subst hP hw hK
  obtain⟨f0,f1,f2,f3,f4,f5⟩:=hf it (by simp)
  have hg:i < n:=hg
  refine wpAny_pyNext_range_item st (by omega) fun h' st' sb=>?_
  have I1:Inv X pins σ H { s with heap:=h',toks:=s.toks+1 }:=I.turned (fun b o hb e=>(sb.2 b hb).trans e) f0 f1 f3 f4 f5
  have st2:IsRangeIter h' it (lo+((i+1:Nat):Int) * 1) ((n:Int) - ((i+1:Nat):Int)) 1:=by
   have e1:lo+((i+1:Nat):Int) * 1=lo+(i:Nat) * 1+1:=by omega
   have e2:(n:Int) - ((i+1:Nat):Int)=(n:Int) - (i:Nat) - 1:=by omega
   rw[e1,e2];exact st'
  refine⟨_,rfl,ur (s:={ s with heap:=h',toks:=s.toks+1 }) (n := "range_iterator") st' rfl rfl (by decide) ⟨.int (lo+i),H,I1,⟨s.toks,?_⟩,⟨rfl,rfl⟩,st2,fun b hb=>(hf b hb).1⟩⟩
  rw[Int.mul_one]
 done:=by
  intro X hP hw hK hc i pins s σ H E I hf st hg
  subst hP hw hK
  obtain⟨f0,f1,f2,f3,f4,f5⟩:=hf it (by simp)
  obtain⟨hn,C,od,oE⟩:=hg
  obtain⟨⟨o,vs,q1,q2,q3,q4,q5⟩,_⟩:=I.hok ea _ oE
  exact vg hc q1 q4 q5 st (by omega) fun h' eb=>⟨rfl,I.turned (t':=s.toks) (fun b o hb e=>eb b o hb e) f0 f1 f3 f4 f5⟩
 self:=fun _ _ _ _ _ st h=>wpAny_pyIter_rangeiter st h
section
variable {X:Cx}{tg:Expr}{ea:Addr}
theorem BC {pins:List (Addr×Obj)}{σ:St}{H:Hp}{s:Shared}{R:It→Hp→Prop}{E:Value→Shared→Prop}{lo hi:Int}{t u v:Tok}{tk:Nat} (I:Inv X pins σ H s) (h1 : -(2 ^ 62)≤lo) (h2:lo < 2 ^ 62) (h3 : -(2 ^ 62)≤hi) (h4:hi < 2 ^ 62)
  (q:R (Gh ea lo (hi - lo).toNat) H):wpAny (model X.prog X.w) X.A (pyIter (.ref s.heap.objs.size)) (K2 (Hd ea) X pins σ tg R) E { s with heap:=s.heap.push { cls:=.type "range",data:=.fields #[.int lo t,.int hi u,.int 1 v] },toks:=tk }:=by
 refine wpAny_pyIter_range (IsRange.new ..) (small_one h1 h2 h3 h4) ?_
 have I1:Inv X pins σ H { s with heap:=s.heap.push { cls:=.type "range",data:=.fields #[.int lo t,.int hi u,.int 1 v] },toks:=tk }:=I.kept fun b o e=>Heap.get?_push_of_some _ e
 refine⟨(s.heap.push { cls:=.type "range",data:=.fields #[.int lo t,.int hi u,.int 1 v] }).objs.size,[(s.heap.push { cls:=.type "range",data:=.fields #[.int lo t,.int hi u,.int 1 v] }).objs.size],_,_,H,rfl,
  I1.kept (t':=tk) fun b o e=>Heap.get?_push_of_some _ e,xC ea _ lo (hi - lo).toNat,?_,fun b hb=>?_,q⟩
 ·have e1:lo+((0:Nat):Int) * 1=lo:=by simp
  have e2:(((hi - lo).toNat:Nat):Int) - ((0:Nat):Int)=Builtin.Range.rangeSize lo hi 1:=by rw[rangeSize_one];split <;> omega
  show IsRangeIter _ _ (lo+((0:Nat):Int) * 1) ((((hi - lo).toNat:Nat):Int) - ((0:Nat):Int)) 1
  rw[e1,e2]
  exact Heap.get?_push_size _ rfl
 ·have e:b=(s.heap.push { cls:=.type "range",data:=.fields #[.int lo t,.int hi u,.int 1 v] }).objs.size:=by simpa using hb
  subst e
  exact I1.wX (Nat.le_refl _) (I1.hok.fresh (Nat.le_refl _))
def K3 (ea:Addr) (ta:TA):TI:=fun σ H R=>ta σ H fun vs H1=>∃ j:Int,vs=[.int j]∧-(2 ^ 62)≤j∧j < 2 ^ 62∧R (Gh ea 0 j.toNat) H1
theorem uE {a:Expr}{ta:TA}{p pos:Pos} (hg:Gl X "range") (hm:X.mg "range" = none) (ha:PA X [a] ta) (hs:starEach [a] X.env=[(false,eval a X.env)]:=by rfl):Rw (Hd ea) X tg (.Call (.Name "range" p) [a] [] pos) (K3 ea ta):=by
 intro pins s σ H R I h
 refine Call_ (rL I hg hm boot_range (PyProof.Rows.callWith_type1 (bZ (ha pos pins s σ H _ I h) fun us s1 ⟨vs,H1,I1,r1,q1⟩=>?_) hs rfl))
 obtain⟨j,e,q1,q2,q⟩:=q1
 subst e
 cases r1 with
 | cons r rr =>
  cases rr
  obtain⟨t,rfl⟩:=r
  exact call_range_1 (BC I1 (by omega) (by omega) q1 q2 (by simpa using q))
end
section
variable {X:Cx}{elt tg iter:Expr}{ifs:List Expr}{scope:Scope}{pos:Pos}{N:List Str}{nv:Nat}{js:List Nat}{wi:TI}{g:TG}{tt:TT}{te:TE}
theorem xD {G:Cx→Prop}{pins:List (Addr×Obj)}{σ:St}{H:Hp}{s:Shared}{Q:VK}{it:Addr}{fp:List Addr}{tn:Nat→Heap→Prop}{J:It}{E:Value→Shared→Prop}{RR:Value→Addr→Result→Shared→Prop} (hc:∀ C s H fp,G (cH X N scope C s H fp))
  (S:aK X.N X.env.scope N nv js scope) (hg:∀ C s H fp,PG (cH X N scope C s H fp) tg g) (ht:∀ C s H fp,w5 (cH X N scope C s H fp) ifs tt) (he:∀ C s H fp,PE (cH X N scope C s H fp) elt te)
  (I:Inv X pins σ H s) (T:D7 G X.prog X.w X.K tg J fp it tn) (st:tn 0 s.heap) (hf:∀ b∈fp,kP X pins H b) (hR:∀ D,H D=none→oA J g tt te Q D (nK nv js σ) H)
  (hRR:∀ D C H' s' m,Inv X pins σ H' s'→kP X pins H' C→s'.heap.Ns C m→Q (.ref D) H'→RR (.ref D) C (.ok .next) s') :
  wpAny (model X.prog X.w) X.A (newList []) (fun acc s₃=>wpAny (model X.prog X.w) X.A (newFunctionEnv scope X.env.globals (dD X.env scope.names []) [] X.env.qual none .none (some X.env)) (fun cenv s₄ =>
   codeAny (model X.prog X.w) X.A (.compStart (.ListComp elt [⟨tg,iter,ifs,0⟩] scope pos) 0 (.ref it) acc { cenv with scope:=relabel scope X.env }) (RR acc cenv.locals) s₄) E s₃) E s:=by
 refine wpAny_newObj_type (wpAny_newFunctionEnv S.cell (by intro y hy;simp at hy) (fun h₁ rU rV=>?_) S.kind)
 have I3:Inv X pins σ (upd H s.heap.objs.size (.lst [])) { s with heap:=s.heap.push { cls:=.type "list",data:=.seq ([]:List Value).toArray } }:=I.FF (t':=s.toks) (its:=[]) .nil (Nat.zero_le _)
 have hD:=I.fresh
 obtain⟨W,⟨m0,w0⟩,turn⟩:=hR s.heap.objs.size hD
 have ho:=T.obj 0 s.heap st
 have DL:∀ b∈fp,b < s.heap.objs.size:=fun b hb=>let ⟨o,e,_⟩:=ho b hb;Heap.lt_size e
 have yY:∀ b∈fp,kP X pins (upd H s.heap.objs.size (.lst [])) b:=fun b hb=>⟨by rw[aC (Nat.ne_of_lt (DL b hb))];exact(hf b hb).1,(hf b hb).2⟩
 generalize HS:({ s with heap:=s.heap.push { cls:=.type "list",data:=.seq ([]:List Value).toArray } }:Shared)=s3 at I3 rU rV
 have e3:s3.heap=s.heap.push { cls:=.type "list",data:=.seq ([]:List Value).toArray }:=by rw[←HS]
 have hfl:∀ b∈fp,b < s3.heap.objs.size:=fun b hb=>by rw[e3,Heap.size_push];exact Nat.lt_succ_of_lt (DL b hb)
 have keep:∀ b o,s3.heap.get? b=some o→h₁.get? b=some o:=fun b o e=>rV.extBut b o (Nat.ne_of_lt (Heap.lt_size e)) (Heap.get?_push_of_some _ e)
 have J0:=rR (tk:=s3.toks+([]:List (Str×Value)).length) I3 S yY hfl keep rU
 have st1:tn 0 h₁:=T.keep 0 s.heap h₁ st fun b hb o e=>keep b o (by rw[e3];exact Heap.get?_push_of_some _ e)
 generalize T3:upd H s.heap.objs.size (.lst [])=H3 at *
 generalize hY:cH X N scope s3.heap.objs.size s3 H3 fp=Y at *
 have sub:∀ x c,(dD X.env scope.names []).lookup x=some c→X.env.cells.lookup x=some c :=
  j9 scope.names [] (fun n hn=>I.ok.has n (S.free _ hn rfl)) (fun x c z=>by cases z)
 have rO:∀{H':Hp},(∀ b∈fp,H' b=none)→∀ b∈fp,kP Y [] H' b:=fun {H'} hn b hb=>by
  subst hY
  obtain⟨f0,f1,f2,f3,f4,f5⟩:=yY b hb
  refine⟨hn b hb,Nat.ne_of_lt (hfl b hb),fun z=>?_,.inl hb,fun x c e=>f4 x c (sub x c e),fun p hp=>absurd (show p∈([]:List (Addr×Obj)) from hp) (by simp)⟩
  rcases List.mem_cons.mp (I3.pJ b z) with q | q
  ·exact f1 q
  ·exact f2 q
 have eA:Y.A=X.A:=by subst hY;rfl
 have eP:Y.prog=X.prog:=by subst hY;rfl
 have eW:Y.w=X.w:=by subst hY;rfl
 have eK:Y.K=X.K:=by subst hY;rfl
 have eC:G Y:=by subst hY;exact hc _ _ _ _
 have eE:Y.env=compEnvC scope (dD X.env scope.names []) s3.heap.objs.size X.env:=by subst hY;rfl
 have FI:Y.xe=fun _ _=>False:=by subst hY;rfl
 have Ov:PG Y tg g:=by subst hY;exact hg _ _ _ _
 have Ow:w5 Y ifs tt:=by subst hY;exact ht _ _ _ _
 have Ox:PE Y elt te:=by subst hY;exact he _ _ _ _
 have loop:codeAny (model X.prog X.w) X.A (.compLoop (.ListComp elt [⟨tg,iter,ifs,0⟩] scope pos) 0 (.ref it) (.ref s.heap.objs.size) (compEnvC scope (dD X.env scope.names []) s3.heap.objs.size X.env))
   (RR (.ref s.heap.objs.size) s3.heap.objs.size) { s3 with heap:=h₁,toks:=s3.toks+([]:List (Str×Value)).length }:=by
  refine rS (fun n s'=>∃ i ys τ H',Inv Y [] τ H' s'∧tn i s'.heap∧(∀ b∈fp,H' b=none)∧W i n ys τ H') ?_ m0 ⟨0,[],_,H3,J0,st1,fun b hb=>(yY b hb).1,w0⟩
  rintro n s4 ⟨i,ys,τ,H4,I4,KI,KJ,w4⟩
  obtain⟨T4,tr⟩:=turn i n ys τ H4 w4
  rcases tr with ⟨stop,qn⟩ | ⟨go,Nn,KL,step⟩
  ·have d:=T.done Y eP eW eK eC i [] s4 τ H4 (fun _ _=>False) I4 (rO KJ) KI stop
   rw[eA] at d
   refine bZ d fun r s5 ⟨hr,I5⟩=>?_
   subst hr
   have u:Inv X pins σ H4 s5:=by
    subst hY
    exact I3.wV (ch:=fp) I5.os I5.base I5.hok I5.bare fun b hb=>⟨(yY b hb).2.2.2.1,(yY b hb).2.1,(yY b hb).2.2.2.2.1,(yY b hb).2.2.2.2.2⟩
   have hC:H4 s3.heap.objs.size=none:=by have z:=I5.free;rw[eE] at z;exact z
   obtain⟨m,hn,_⟩:=I5.loc
   rw[eE] at hn
   exact hRR _ _ H4 s5 m u (I3.wX (Nat.le_refl _) hC) hn qn
  ·have d:=T.item Y eP eW eK eC i [] s4 τ H4 (fun _ _=>False) I4 (rO KJ) KI go
   rw[eA] at d
   refine bZ d fun r s5 ⟨u,hr,h5⟩=>?_
   subst hr
   refine bZ h5 fun _ s6 ⟨x,H6,I6,r6,y6,HU,Oz⟩=>?_
   have OA:=I6.pinned (rO Oz) (T.obj _ _ HU)
   have q6:=Ov _ s6 τ H6 x u _ OA r6 (step x H6 y6)
   rw[eP,eW,eA,eE,FI] at q6
   refine bZ q6 fun _ s7 ⟨σ7,H7,I7,q7⟩=>?_
   have q8:=Ow _ s7 σ7 H7 _ I7 q7
   rw[eP,eW,eA,eE,FI] at q8
   refine bZ q8 fun ok s8 ⟨H8,I8,q8⟩=>?_
   have again:∀{σ9:St}{H9:Hp}{s9:Shared}{zs:List V},Inv Y ([]++pM fp s6.heap) σ9 H9 s9→(∃ m',m' < n∧W (i+1) m' zs σ9 H9)→∃ m,m < n∧∃ i ys τ H',Inv Y [] τ H' s9∧tn i s9.heap∧(∀ b∈fp,H' b=none)∧W i m ys τ H':=fun {σ9 H9 s9 zs} I9 n9=>by
    obtain⟨m',hm,w9⟩:=n9
    refine⟨m',hm,i+1,zs,σ9,H9,I9.kX,T.keep _ _ _ HU fun b hb o e=>(I9.pin (b,o) (List.mem_append_right _ (List.mem_append_right _ (gj hb e)))).1,fun b hb=>?_,w9⟩
    obtain⟨o,e,d⟩:=T.obj _ _ HU b hb
    exact(I9.pin (b,o) (List.mem_append_right _ (List.mem_append_right _ (gj hb e)))).2.1
   cases ok with
   | false =>
    rw[if_neg Bool.false_ne_true]
    rw[if_neg Bool.false_ne_true] at q8
    exact again I8 (KL _ _ _ q8)
   | true =>
    rw[if_pos rfl]
    rw[if_pos rfl] at q8
    have q9:=Ox _ s8 σ7 H8 _ I8 q8
    rw[eP,eW,eA,eE,FI] at q9
    refine bZ q9 fun y s9 ⟨yv,H9,I9,r9,OB,OC,q9⟩=>?_
    have ap:=mq (X:=Y) _ s9 σ7 H9 (.ref s.heap.objs.size) [yv] (.ref s.heap.objs.size) [y] (fun _ KN=>Nn (ys++[yv]) σ7 KN) I9 rfl (.cons r9 .nil) ⟨_,ys,yv,rfl,rfl,OB,OC,q9⟩
    rw[eP,eW,eA,FI] at ap
    exact bZ ap fun _ T5 ⟨_,KN,OD,_,OE⟩=>again OD (KL _ _ _ OE)
 subst HS
 exact codeAny_compStart_list loop (T.self _ 0 _ _ _ st1 loop)
theorem xE {G:Cx→Prop} (hc:∀ C s H fp,G (cH X N scope C s H fp)) (S:aK X.N X.env.scope N nv js scope) (hi:Rw G X tg iter wi) (hg:∀ C s H fp,PG (cH X N scope C s H fp) tg g) (ht:∀ C s H fp,w5 (cH X N scope C s H fp) ifs tt)
  (he:∀ C s H fp,PE (cH X N scope C s H fp) elt te) (hs:∀ x,foldedSetIterable iter X.env x=pure x:=by intro _;rfl) :
  PE X (.ListComp elt [⟨tg,iter,ifs,0⟩] scope pos) (DK wi g tt te nv js):=by
 intro pins s σ H Q I h
 rw[eval_ListComp]
 refine wpAny_comprehension_free (use:=none) rfl hs (jx fun n hn=>I.ok.has n (S.free _ hn rfl)) S.kind S.loc (bZ (hi pins s σ H _ I h) fun v s1 h1=>bZ h1 fun itv s2 h2=>?_)
 obtain⟨it,fp,tn,J,H2,e,I2,T,st2,f2,hR⟩:=h2
 subst e
 refine xD (RR:=fun acc C=>compPost (model X.prog X.w) X.A X.xe none (EP X pins σ Q) acc C) hc S hg ht he I2 T st2 f2 hR ?_
 intro D C H' s' m I' fC hn q
 refine⟨m,hn,fun h' sb=>⟨.ref D,H',?_,rfl,q⟩⟩
 exact I'.turned (t':=s'.toks) (fun b o hb e=>(sb.2 b hb).trans e) fC.1 fC.2.1 fC.2.2.2.1 fC.2.2.2.2.1 fC.2.2.2.2.2
end
theorem qp {ea:Addr}{lo:Int}{n:Nat}{g:TG}{tt:TT}{te:TE}{Q:VK}{D:Addr}{τ:St}{H:Hp} (Pv:Nat→List V→St→Hp→Prop) (h0:Pv 0 [] τ (upd H D (.lst [])))
  (hl:∀ i ys τ H,i≤n→Pv i ys τ H→H D=some (.lst ys))
  (hs:∀ i ys τ H,i < n→Pv i ys τ H→g (.int (lo+i)) τ H fun τ2 H2=>tt τ2 H2 fun b H3=>if b=true then te τ2 H3 fun y H4=>H4 D=some (.lst ys)∧ys.length < sizeLine∧Pv (i+1) (ys++[y]) τ2 (upd H4 D (.lst (ys++[y]))) else Pv (i+1) ys τ2 H3)
  (hd:∀ ys τ H,Pv n ys τ H→(∃ C od,H ea=some (xr ea C od))∧Q (.ref D) H) :
  oA (Gh ea lo n) g tt te Q D τ H:=by
 refine⟨fun i m ys τ H=>m=n - i∧i≤n∧Pv i ys τ H,⟨n,by simp,Nat.zero_le _,h0⟩,?_⟩
 rintro i m ys τ H ⟨rfl,hi,p⟩
 refine⟨hl i ys τ H hi p,?_⟩
 by_cases hlt:i < n
 ·refine .inr ⟨hlt,Pv (i+1),fun zs σ' H' p'=>⟨n - (i+1),by omega,rfl,hlt,p'⟩,fun x H' y=>?_⟩
  obtain⟨e,y⟩:=y
  subst e y
  exact hs i ys τ _ hlt p
 ·have e:i=n:=by omega
  subst e
  exact .inl ⟨⟨Nat.le_refl _,(hd ys τ H p).1⟩,(hd ys τ H p).2⟩
theorem G0 {P:Program}{w:World}{X:Cx}:Passes (ql P w) X E0:=fun _ _ _ _ _ _ _ h=>by
 obtain⟨_,_,_,_,_,_,_,_,_,_,h⟩:=h
 exact h.elim
section
variable {X:Cx}{K:W.Frag}
end
section
variable {X:Cx}
end
open PySem
theorem Ua {A B:Prop}{b:Bool} (hb:b=true) (h:A):if b=true then A else B:=by rw[if_pos hb];exact h
theorem Ub {A B:Prop}{b:Bool} (hb:b=false) (h:B):if b=true then A else B:=by rw[if_neg (by rw[hb];decide)];exact h
theorem Rx {p A B:Prop} [Decidable p] (hp:p) (h:A):if decide p=true then A else B:=Ua (decide_eq_true hp) h
theorem K4 {p A B:Prop} [Decidable p] (hp:¬p) (h:B):if decide p=true then A else B:=Ub (decide_eq_false hp) h
theorem Ry {A B:Prop}{a b:Int} (hp:a=b) (h:A):if decide (V.int a=V.int b)=true then A else B:=Rx (by rw[hp]) h
theorem O0 {A B:Prop}{a b:Int} (hp:¬a=b) (h:B):if decide (V.int a=V.int b)=true then A else B:=K4 (fun e=>hp (V.int.inj e)) h
theorem O1 {p A B:Prop} [Decidable p] (h1:p→A) (h2:¬p→B):if decide p=true then A else B:=by
 by_cases h:p
 ·exact Rx h (h1 h)
 ·exact K4 h (h2 h)
theorem O2 {A B:Prop}{a b:Int} (h1:a=b→A) (h2:¬a=b→B):if decide (V.int a=V.int b)=true then A else B:=by
 by_cases h:a=b
 ·exact Ry h (h1 h)
 ·exact O0 h (h2 h)
section
variable {X:Cx}
def K5:Expr→Option V
 | .Constant (.str z) _ _=>some (.str z)
 | .Constant (.int i) _ _=>some (.int i)
 | .Constant (.bool b) _ _=>some (.bl b)
 | .Constant .none _ _=>some .non
 | _=>none
inductive Cs:List Expr→List V→Prop where
 | nil:Cs [] []
 | cons {e:Expr}{v:V}{es:List Expr}{vs:List V}:K5 e=some v→Cs es vs→Cs (e :: es) (v :: vs)
def Uc (vs:List V):TA:=fun _ H Q=>Q vs H
theorem Iu {e:Expr}{v:V} (h:K5 e=some v):PE X e (tC v):=by
 unfold K5 at h
 split at h
 ·cases h;exact aI
 ·cases h;exact aj
 ·cases h;exact ie
 ·cases h;exact rK
 ·cases h
theorem Gi {e:Expr}{v:V} (h:K5 e=some v) (es:List Expr):starEach (e :: es) X.env=(false,eval e X.env) :: starEach es X.env:=by
 unfold K5 at h
 split at h
 ·rfl
 ·rfl
 ·rfl
 ·rfl
 ·cases h
theorem D8 {es:List Expr}{vs:List V} (h:Cs es vs):PA X es (Uc vs):=by
 induction h with
 | nil=>exact ao
 | cons h1 _ ih=>exact af (Iu h1) ih (Gi h1 _)
theorem cj {a o b p}{tt:Option Expr}{ll:Nat}{env:Env}:swapsWith (.BinOp a o b p) tt ll env=pure false:=rfl
theorem mD {f a k p}{tt:Option Expr}{ll:Nat}{env:Env}:swapsWith (.Call f a k p) tt ll env=pure false:=rfl
theorem qq {v k p}{tt:Option Expr}{ll:Nat}{env:Env}:swapsWith (.Constant v k p) tt ll env=pure false:=rfl
theorem vh {v s p}{tt:Option Expr}{ll:Nat}{env:Env}:swapsWith (.Subscript v s p) tt ll env=pure false:=rfl
theorem jk {e p}{tt:Option Expr}{ll:Nat}{env:Env}:swapsWith (.List e p) tt ll env=pure false:=rfl
theorem D9 {e k p}{tt:Option Expr}{ll:Nat}{env:Env}:swapsWith (.Tuple e k p) tt ll env=pure false:=rfl
theorem bA {a o b p es}{env:Env}:starEach (.BinOp a o b p :: es) env=(false,eval (.BinOp a o b p) env) :: starEach es env:=rfl
theorem Gj {k v p es}{env:Env}:starEach (.Dict k v p :: es) env=(false,eval (.Dict k v p) env) :: starEach es env:=rfl
theorem kh {l o c p es}{env:Env}:starEach (.Compare l o c p :: es) env=(false,eval (.Compare l o c p) env) :: starEach es env:=rfl
theorem bP {f a k p es}{env:Env}:starEach (.Call f a k p :: es) env=(false,eval (.Call f a k p) env) :: starEach es env:=rfl
theorem vj {v p es}{env:Env}:starEach (.JoinedStr v p :: es) env=(false,eval (.JoinedStr v p) env) :: starEach es env:=rfl
theorem aq {v k p es}{env:Env}:starEach (.Constant v k p :: es) env=(false,eval (.Constant v k p) env) :: starEach es env:=rfl
theorem az {v s p es}{env:Env}:starEach (.Subscript v s p :: es) env=(false,eval (.Subscript v s p) env) :: starEach es env:=rfl
theorem ak {i p es}{env:Env}:starEach (.Name i p :: es) env=(false,eval (.Name i p) env) :: starEach es env:=rfl
theorem rB {e p es}{env:Env}:starEach (.List e p :: es) env=(false,eval (.List e p) env) :: starEach es env:=rfl
theorem lu {e k p es}{env:Env}:starEach (.Tuple e k p :: es) env=(false,eval (.Tuple e k p) env) :: starEach es env:=rfl
theorem cM {e g s p es}{env:Env}:starEach (.ListComp e g s p :: es) env=(false,eval (.ListComp e g s p) env) :: starEach es env:=rfl
end
section
variable {κ:Type} [DecidableEq κ]
def putK (kvs:List (κ×V)) (k:κ) (v:V):List (κ×V) :=
 if (kvs.any fun kv=>decide (kv.1=k))=true then kvs.map (fun kv=>if kv.1=k then (kv.1,v) else kv) else kvs++[(k,v)]
theorem xF (kvs:List (κ×V)) (k:κ) (v:V):(putK kvs k v).length≤kvs.length+1:=by
 unfold putK
 split
 ·rw[List.length_map];omega
 ·rw[List.length_append,List.length_cons,List.length_nil];omega
theorem KV.any {kvs:List (κ×V)}{vs:List (κ×Value)} (r:KV kvs vs) (k:κ):(kvs.any fun kv=>decide (kv.1=k))=vs.any fun kv=>decide (kv.1=k):=by
 unfold KV at r
 induction r with
 | nil=>rfl
 | cons h t ih=>rw[List.any_cons,List.any_cons,ih,h.1]
theorem KV.repl {kvs:List (κ×V)}{vs:List (κ×Value)} (r:KV kvs vs) (k:κ) {y:V}{u:Value} (ry:RelV y u) :
  KV (kvs.map fun kv=>if kv.1=k then (kv.1,y) else kv) (vs.map fun kv=>if kv.1=k then (kv.1,u) else kv):=by
 unfold KV at r ⊢
 induction r with
 | nil=>exact .nil
 | @cons p q ps qs h t ih =>
  rw[List.map_cons,List.map_cons]
  refine .cons ?_ ih
  obtain⟨h1,h2⟩:=h
  by_cases e:p.1=k
  ·rw[if_pos e,if_pos (h1.symm.trans e)];exact⟨h1,ry⟩
  ·rw[if_neg e,if_neg (fun z=>e (h1.trans z))];exact⟨h1,h2⟩
theorem KV.put {kvs:List (κ×V)}{vs:List (κ×Value)} (r:KV kvs vs) (k:κ) {y:V}{u:Value} (ry:RelV y u):KV (putK kvs k y) (stored vs k u):=by
 unfold putK stored
 rw[r.any k]
 by_cases e:(vs.any fun kv=>decide (kv.1=k))=true
 ·rw[if_pos e,if_pos e];exact r.repl k ry
 ·rw[if_neg e,if_neg e];exact Paired.snoc r ⟨rfl,ry⟩
end
theorem K6 {P:Program}{w:World}{k:Key}{u:Value} (r:RelV (kV k) u):(gA P w).is k u=true:=by
 cases k with
 | inl i=>obtain⟨t,e⟩:=(show ∃ t,u=Value.int i t from r);subst e;exact wR P w i t
 | inr x=>obtain⟨t,e⟩:=(show ∃ t,u=Value.str x t from r);subst e;exact wU P w x t
section
variable {P:Program}{w:World}{H:Hp}{h:Heap}{a:Addr}
theorem K7 {u:HO} (ok:nH P w H h) (e:Rd H a u):bQ P w H h a u:=e.ok ok
theorem K8 {kvs:List (Key×V)} (ok:nH P w H h) (e:Rd H a (.dK kvs)):kvs.length≤sizeLine∧(a == sysModules)=false∧∃ vs,KV kvs vs∧h.DictOf (gA P w) a vs :=
 show bQ P w H h a (.dK kvs) from K7 ok e
theorem K9 {kvs:List (Key×V)} (ok:nH P w H h) (e:H a=some (.dK kvs)):kvs.length≤sizeLine∧(a == sysModules)=false∧∃ vs,KV kvs vs∧h.DictOf (gA P w) a vs:=K8 ok (.inl e)
end
section
variable {X:Cx}{pins:List (Addr×Obj)}{σ:St}{H:Hp}{s:Shared}{a:Addr}{y v:V}{u r:Value}{o:Option V}{A:Around}{E:Value→Shared→Prop}
theorem Inv.big (I:Inv X pins σ H s):sysModules < s.heap.objs.size:=by
 have h:mainGlobals < s.heap.objs.size:=(I.mod.glob.keeps I.bk).lt
 exact Nat.lt_trans (by decide) h
theorem Gk {h':Heap}{t':Nat}{ob:HO} (I:Inv X pins σ H s) (mu:JU (H a)) (hs:Heap.SameBut a s.heap h') (he:∃ q,h'.get? a=some q) (new:bQ X.prog X.w (upd H a ob) h' a ob) :
  Inv X pins σ (upd H a ob) { s with heap:=h',toks:=t' } :=
 I.write (x:=a) (e:=a) mu (.inl rfl) (fun b q hb z=>(hs.2 b hb).trans z) he new
theorem Iv {P:Program}{w:World}{H':Hp}{h':Heap}{kvs:List (Key×V)}{vs:List (Key×Value)} (z:kvs.length≤sizeLine) (hd:(a == sysModules)=false) (rel:KV kvs vs) (dd:h'.DictOf (gA P w) a vs) :
 bQ P w H' h' a (.dK kvs):=⟨z,hd,vs,rel,dd⟩
end
section
variable {X:Cx}{pins:List (Addr×Obj)}{σ:St}{H:Hp}{s:Shared}{a:Addr}{kvs:List (Key×V)}{k:Key}{u:Value}{A:Around}{E:Value→Shared→Prop}
end
section
variable {X:Cx}{o i e value:Expr}{pos pos' tpos:Pos}{td ty tv:TE}
end
theorem Ea {P:Program}{w:World}{H:Hp} (h:Heap) (hb:sysModules < h.objs.size):bQ P w H (h.push { cls:=.type "dict",data:=.dict #[] }) h.objs.size (.dK []) :=
 ⟨Nat.zero_le _,beq_eq_false_iff_ne.mpr (Ne.symm (Nat.ne_of_lt hb)),[],.nil,Heap.DictOf.new h⟩
section
variable {X:Cx}{pos:Pos}
end
def zb:List (TE×TE)→St→Hp→(List (V×V)→Hp→Prop)→Prop
 | [],_,H,Q=>Q [] H
 | (tk,tv) :: r,σ,H,Q=>tk σ H fun x H1=>tv σ H1 fun y H2=>zb r σ H2 fun ps H3=>Q ((x,y) :: ps) H3
abbrev VV:List (V×V)→List (Value×Value)→Prop:=Paired fun p q=>RelV p.1 q.1∧RelV p.2 q.2
def Nv (X:Cx) (pos:Pos) (keys:List (Option Expr)) (values:List Expr) (Gm:List (TE×TE)):Prop :=
 ∀(pins:List (Addr×Obj)) (s:Shared) (σ:St) (H:Hp) (Q:List (V×V)→Hp→Prop),Inv X pins σ H s→zb Gm σ H Q →
  wpAny (model X.prog X.w) X.A (evalPairs (pairTrees keys values X.env pos)) (fun vs s'=>∃ ps H',Inv X pins σ H' s'∧VV ps vs∧Q ps H') X.xe s
theorem Gn {X:Cx}{pos:Pos}:Nv X pos [] [] []:=fun pins s σ H Q I h=>pairTrees_nil_walk ⟨[],H,I,.nil,h⟩
theorem Eb {X:Cx}{pos:Pos}{k v:Expr}{ks:List (Option Expr)}{vs:List Expr}{tk tv:TE}{Gm:List (TE×TE)} (hk:PE X k tk) (hv:PE X v tv) (hr:Nv X pos ks vs Gm) :
  Nv X pos (some k :: ks) (v :: vs) ((tk,tv) :: Gm):=fun pins s σ H Q I h =>
 pairTrees_cons_walk (bZ (hk pins s σ H _ I h) fun u s1 ⟨x,H1,I1,rx,q1⟩=>bZ (hv pins s1 σ H1 _ I1 q1) fun w2 s2 ⟨y,H2,I2,ry,q2⟩ =>
  bZ (hr pins s2 σ H2 _ I2 q2) fun ws s3 ⟨ps,H3,I3,rel,q3⟩=>⟨(x,y) :: ps,H3,I3,.cons ⟨rx,ry⟩ rel,q3⟩)
def ly (kvs more:List (Key×V)):List (Key×V):=more.foldl (fun acc kv=>putK acc kv.1 kv.2) kvs
theorem KV.merge:∀{more:List (Key×V)}{rs:List (Key×Value)}{kvs:List (Key×V)}{vs:List (Key×Value)},KV more rs→KV kvs vs→KV (ly kvs more) (merged vs rs):=by
 intro more rs kvs vs r
 unfold KV at r
 induction r generalizing kvs vs with
 | nil=>intro q;exact q
 | @cons p q ps qs h t ih =>
  intro r0
  have e:KV (putK kvs p.1 p.2) (stored vs q.1 q.2):=by
   have:=r0.put p.1 h.2
   rw[←h.1];exact this
  exact ih e
theorem m7:∀(more kvs:List (Key×V)),(ly kvs more).length≤kvs.length+more.length
 | [],kvs=>by show kvs.length≤kvs.length+0;omega
 | p :: r,kvs=>by
  have h1:=m7 r (putK kvs p.1 p.2)
  have h2:=xF kvs p.1 p.2
  show(ly (putK kvs p.1 p.2) r).length≤_
  rw[List.length_cons];omega
theorem rY {P:Program}{w:World}:∀{kvs:List (Key×V)}{ws:List (Value×Value)},VV (kvs.map fun kv=>(kV kv.1,kv.2)) ws→∃ rs,Carries (gA P w) ws rs∧KV kvs rs
 | [],_,r=>by rw[List.map_nil] at r;cases r;exact⟨[],True.intro,.nil⟩
 | p :: kvs,_,r=>by
  rw[List.map_cons] at r
  cases r with
  | @cons a b as bs h t =>
   obtain⟨rs,c,q⟩:=rY (P:=P) (w:=w) t
   obtain⟨b1,b2⟩:=b
   exact⟨(p.1,b2) :: rs,⟨K6 h.1,rfl,c⟩,.cons ⟨rfl,h.2⟩ q⟩
def La (Gm:List (TE×TE)):TE:=fun σ H Q=>∀ p,H p=none→zb Gm σ (upd H p (.dK [])) fun ps H2=>H2 p=some (.dK [])∧∃ kvs:List (Key×V),ps=kvs.map (fun kv=>(kV kv.1,kv.2))∧kvs.length≤15∧Q (.ref p) (upd H2 p (.dK (ly [] kvs)))
theorem Gp {X:Cx}{pos:Pos}{keys:List (Option Expr)}{values:List Expr}{Gm:List (TE×TE)} (h:Nv X pos keys values Gm) (hall:keys.all (·.isSome)=true) (hl:keys.length=values.length) (h0:keys≠[])
  (Ud:keys.length≤15):PE X (.Dict keys values pos) (La Gm):=by
 intro pins s σ H Q I q
 have hn:=I.hok.fresh (Nat.le_refl s.heap.objs.size)
 have I1:=I.laid (a:=s.heap.objs.size) (o:=.dK []) (h':=s.heap.push { cls:=.type "dict",data:=.dict #[] }) (t':=s.toks) (fun _ _ q=>Heap.get?_push_of_some _ q) (Nat.le_refl _) (Ea s.heap I.big)
 refine wpAny_Dict_walk (knd:=gA X.prog X.w) hall hl h0 Ud (bZ (h pins _ σ _ _ I1 (q _ hn)) fun ws s2 ⟨ps,H2,I2,rel,e,kvs,ep,lk,q2⟩=>?_)
 subst ep
 obtain⟨rs,c,rk⟩:=rY (P:=X.prog) (w:=X.w) rel
 obtain⟨z,hd,Yd,r0,dd⟩:=K9 I2.hok e
 cases r0
 refine⟨rs,c,dd,fun h' OQ hs=>⟨.ref s.heap.objs.size,_,?_,rfl,q2⟩⟩
 have hz:(ly [] kvs).length≤sizeLine:=by
  have h1:=m7 kvs []
  rw[List.length_nil] at h1
  rw[sizeLine_eq];omega
 have he:∃ q,h'.get? s.heap.objs.size=some q:=let ⟨q,_,_,hq,_⟩:=OQ;⟨q,hq⟩
 exact Gk I2 (by rw[e];exact True.intro) hs he (Iv hz hd (rk.merge .nil) OQ)
section
variable {X:Cx}{pins:List (Addr×Obj)}{σ:St}{H:Hp}{s:Shared}{a:Addr}{y d:V}{u r:Value}{o:Option V}{A:Around}{E:Value→Shared→Prop}
end
section
variable {X:Cx}{o e f:Expr}{apos cpos:Pos}{td ty tx:TE}
end
section
variable {X:Cx}{pins:List (Addr×Obj)}{σ:St}{H:Hp}{s:Shared}{a:Addr}{kvs:List (Key×V)}{A:Around}{E:Value→Shared→Prop}
end
section
variable {X:Cx}{pins:List (Addr×Obj)}{σ:St}{H:Hp}{s:Shared}{a:Addr}{y:V}{u:Value}{A:Around}{E:Value→Shared→Prop}
end
end L2
set_option maxHeartbeats 1000000
namespace L2
open PySem PySem.Spec PyProof.Rows
section
variable {X:Cx}
end
section
variable {X:Cx}
end
end L2
set_option maxHeartbeats 4000000
namespace L2
open PySem PySem.Spec PyProof.Rows
theorem xG {x:Str}:[x].Nodup:=.cons (fun y hy=>nomatch hy) .nil
section
variable {X:Cx}
theorem mQ (i:Nat) {x:Str}{pos:Pos} (hN:X.N.Nodup) (hi:X.N[i]? = some x:=by rfl) (hx:Loc X.env.scope x:=by first | exact .inl rfl | exact .inr rfl) (hf:X.fn x=true∨X.env.scope.names.lookup x=some .local:=by first | exact .inl rfl | exact .inr rfl | assumption):PG X (.Name x pos) (ig i):=Fg hN hi hx hf
theorem oF (i:Nat) {x:Str}{e:Expr}{te:TE}{pos pos':Pos} (hN:X.N.Nodup) (he:PE X e te) (hi:X.N[i]? = some x:=by rfl) (hx:Loc X.env.scope x:=by first | exact .inl rfl | exact .inr rfl) (hs:swapsWith e (some (.Name x pos')) pos.line X.env=pure false:=by rfl) (hf:X.fn x=true∨X.env.scope.names.lookup x=some .local:=by first | exact .inl rfl | exact .inr rfl | assumption) :
 PS X (.Assign [.Name x pos'] e pos) (Bm te (ig i)):=uS hN hi hx he hs hf
theorem wQ {XN:List Str}{JG:Scope}{N:List Str}{nv:Nat}{js:List Nat}{scope:Scope} (kind:scope.kind=.function:=by rfl) (cell:∀ y∈scope.names,y.2≠.cell:=by decide +kernel) (loc:∀ y∈scope.names,y.2=.local→scope.names.lookup y.1=some .local:=by decide +kernel)
 (free:∀ y∈scope.names,y.2=.free→(JG.names.lookup y.1=some .cell∨JG.names.lookup y.1=some .free):=by decide +kernel) (nd:N.Nodup:=by decide +kernel) (len:N.length=nv+js.length:=by rfl) (pl:js.map (fun j=>XN[j]?)=(N.drop nv).map some:=by rfl)
 (fr:∀ x∈N.drop nv,scope.names.lookup x=some .free:=by decide +kernel):aK XN JG N nv js scope:=⟨kind,cell,loc,free,nd,len,pl,fr⟩
theorem j3 {id:String}{r:List V→Hp→VK→Prop}{x:Str}{e:Expr}{es:List Expr}{t:TA}{p pos:Pos} (hc:gH X (.builtin id) r) (hm:X.mg x=none) (ha:PA X (e :: es) t) (hg:Gl X x:=by rfl) (hv:bootBuiltins x=some (.builtin id):=by decide +kernel) (hn:x ≠ "__name__" := by decide) (hdb:(x == ("__debug__" : Str))=false:=by decide)
 (he:starEach (e :: es) X.env=(false,eval e X.env) :: starEach es X.env:=by rfl) (hpl:(backTo pos (starEach es X.env)).any (·.1)=false:=by rfl):PE X (.Call (.Name x p) (e :: es) [] pos) (Nm r t):=DB hc hg hm hv ha hn hdb he hpl
theorem Iw {T:String}{r:List V→Hp→VK→Prop}{x:Str}{e:Expr}{es:List Expr}{t:TA}{p pos:Pos} (hc:gH X (.type T) r) (hm:X.mg x=none) (ha:PA X (e :: es) t) (hg:Gl X x:=by rfl) (hv:bootBuiltins x=some (.type T):=by decide +kernel) (hn:x ≠ "__name__" := by decide) (hdb:(x == ("__debug__" : Str))=false:=by decide)
 (he:starEach (e :: es) X.env=(false,eval e X.env) :: starEach es X.env:=by rfl) (hpl:(backTo pos (starEach es X.env)).any (·.1)=false:=by rfl):PE X (.Call (.Name x p) (e :: es) [] pos) (Nm r t):=Bs hc hg hm hv ha hn hdb he hpl
theorem Hf (n:String) {x:Str}{pos:Pos} (hm:X.mg x=none) (hg:Gl X x:=by rfl) (hv:bootBuiltins x=some (.type n):=by decide +kernel) (hn:x ≠ "__name__" := by decide) (hd:(x == ("__debug__" : Str))=false:=by decide):PE X (.Name x pos) (tC (.ty n)):=HW n hg hm hv hn hd
theorem oq {k kk:Nat}{f:Addr}{fd:FuncData}{ps:List Str}{sp:Sp}{x:Str}{e:Expr}{es:List Expr}{t:TA}{p pos:Pos} (F:bf X.prog X.w X.K X.mg X.base gM k f fd ps sp) (hr:dX kk X.A) (hm:X.mg x=some (.ref f)) (hk:W.keepIn X.K (.ref f)=true) (hb:Binds X.K fd ps []) (ha:PA X (e :: es) t) (hkk:k≤kk:=by decide) (hg:Gl X x:=by rfl)
 (hdb:(x == ("__debug__" : Str))=false:=by decide) (he:starEach (e :: es) X.env=(false,eval e X.env) :: starEach es X.env:=by rfl) (hpl:(backTo pos (starEach es X.env)).any (·.1)=false:=by rfl):PE X (.Call (.Name x p) (e :: es) [] pos) (AL sp [] E0 t):=rz F (hr.mono hkk) hg hm hk hb .nil KH ha hdb he hpl
theorem E6 (K:W.Frag) {a b:Expr}{ta tb:TE}{pos:Pos} (ha:PE X a ta) (hb:PE X b tb) (hs:uX b:=by exact fun _ _=>rfl) (h:X.K=K:=by rfl):PE X (.Subscript a b pos) (E5 (HG K) ta tb):=DE (FJ K h) ha hb hs
theorem iW (K:W.Frag) {a b:Expr}{ta tb:TE}{pos:Pos} (ha:PE X a ta) (hb:PE X b tb) (hs:uX b:=by exact fun _ _=>rfl) (h:X.K=K:=by rfl):PE X (.Subscript a b pos) (E5 (HF K) ta tb):=DE (DO K h) ha hb hs
theorem rC {op:CmpOp}{r:R2}{a b:Expr}{ta tb:TE}{pos:Pos} (ho:pH X (compareOp op) r) (ha:PE X a ta) (hb:PE X b tb) (h:op≠.In:=by decide) (h2:op≠.NotIn:=by decide):PT X (.Compare a [op] [b] pos) (GQ (E5 r ta tb)):=AJ ho ha hb (Dr b h h2)
theorem Dd {op:CmpOp}{r:R2}{a b:Expr}{ta tb:TE}{pos:Pos} (ho:pH X (compareOp op) r) (ha:PE X a ta) (hb:PE X b tb) (h:op≠.In:=by decide) (h2:op≠.NotIn:=by decide):PE X (.Compare a [op] [b] pos) (E5 r ta tb):=Fq ho ha hb (Dr b h h2)
end
abbrev FO (n q:Str) (s:Stmt) (d oc:Value) (od:Option Addr) (kV dc pm:Value) (an:Option Addr) (cd ct:Value) (sl:Array (Option Value)):Option Obj:=some ⟨oc,od,.func (W.fnOf n q (cN s) (bO s) (av s) d kV dc pm an cd ct),sl⟩
abbrev FN (n q:Str) (s:Stmt) (d kV dc pm:Value) (an:Option Addr) (cd ct:Value):FuncData:=W.fnOf n q (cN s) (bO s) (av s) d kV dc pm an cd ct
abbrev RF (a:Addr):Option (Option Value):=some (some (.ref a))
theorem jw.rZ {K:W.Frag}{x qual:Str}{st:Stmt}{f:Addr}{fd:FuncData}{ps:List Str} (F:jw K x qual st f fd) (hp:ps.length=1:=by rfl)
  (h:∀(kV doc pm:Value) (an:Option Addr) (cdv ct a0:Value),bindArgs (W.fnOf x qual (cN st) (bO st) (av st) .none kV doc pm an cdv ct) ⟨[a0],[]⟩=pure (ps.zip [a0]):=by intros;rfl):Binds K fd ps [] :=
 F.binds fun kV doc pm an cdv ct us hl=>by
  rw[hp] at hl
  match us,hl with
  | [a0],_=>exact h kV doc pm an cdv ct a0
theorem jw.zc {K:W.Frag}{x qual:Str}{st:Stmt}{f:Addr}{fd:FuncData}{ps:List Str} (F:jw K x qual st f fd) (hp:ps.length=2:=by rfl)
  (h:∀(kV doc pm:Value) (an:Option Addr) (cdv ct a0 a1:Value),bindArgs (W.fnOf x qual (cN st) (bO st) (av st) .none kV doc pm an cdv ct) ⟨[a0,a1],[]⟩=pure (ps.zip [a0,a1]):=by intros;rfl):Binds K fd ps [] :=
 F.binds fun kV doc pm an cdv ct us hl=>by
  rw[hp] at hl
  match us,hl with
  | [a0,a1],_=>exact h kV doc pm an cdv ct a0 a1
theorem jw.Ec {K:W.Frag}{x qual:Str}{st:Stmt}{f:Addr}{fd:FuncData}{ps:List Str} (F:jw K x qual st f fd) (hp:ps.length=3:=by rfl)
  (h:∀(kV doc pm:Value) (an:Option Addr) (cdv ct a0 a1 a2:Value),bindArgs (W.fnOf x qual (cN st) (bO st) (av st) .none kV doc pm an cdv ct) ⟨[a0,a1,a2],[]⟩=pure (ps.zip [a0,a1,a2]):=by intros;rfl):Binds K fd ps [] :=
 F.binds fun kV doc pm an cdv ct us hl=>by
  rw[hp] at hl
  match us,hl with
  | [a0,a1,a2],_=>exact h kV doc pm an cdv ct a0 a1 a2
theorem jw.Iz {K:W.Frag}{x qual:Str}{st:Stmt}{f:Addr}{fd:FuncData}{ps:List Str} (F:jw K x qual st f fd) (hp:ps.length=4:=by rfl)
  (h:∀(kV doc pm:Value) (an:Option Addr) (cdv ct a0 a1 a2 a3:Value),bindArgs (W.fnOf x qual (cN st) (bO st) (av st) .none kV doc pm an cdv ct) ⟨[a0,a1,a2,a3],[]⟩=pure (ps.zip [a0,a1,a2,a3]):=by intros;rfl):Binds K fd ps [] :=
 F.binds fun kV doc pm an cdv ct us hl=>by
  rw[hp] at hl
  match us,hl with
  | [a0,a1,a2,a3],_=>exact h kV doc pm an cdv ct a0 a1 a2 a3
end L2
namespace My
open PySem L2
def top (i:Nat):Stmt:=PySem.Challenge.pw_dialecthall_k52_no_families.main.body.getD i (.Pass ⟨0,0,0,0⟩)
abbrev cJ:Stmt:=top 15
abbrev bC:Stmt:=top 17
abbrev aU:Stmt:=inClass (top 18) 0
abbrev ck:Stmt:=inClass (top 13) 0
abbrev dj:Stmt:=inClass (top 12) 0
abbrev bS:Stmt:=inClass (top 11) 0
abbrev dm:Stmt:=inClass (top 10) 0
abbrev fh:Stmt:=inClass (top 18) 1
abbrev fj:Stmt:=top 19
abbrev cS:Stmt:=top 22
abbrev bH:Stmt:=top 23
abbrev aQ:Stmt:=top 24
abbrev jG:Stmt:=top 25
abbrev dF:Stmt:=top 27
abbrev fk:Stmt:=top 28
abbrev d7:Stmt:=top 29
abbrev gO:Stmt:=top 30
abbrev fu:Stmt:=top 31
abbrev gP:Stmt:=top 32
abbrev dS:Stmt:=top 33
abbrev fz:Stmt:=top 34
abbrev cu:Stmt:=top 35
abbrev bK:Stmt:=top 36
abbrev cY:Stmt:=top 37
abbrev bT:Stmt:=top 38
abbrev dG:Stmt:=top 39
abbrev m8:Stmt:=top 40
theorem ai {H:Hp}{l:Addr}{o:HO} (h:H l=none):aE H (upd H l o):=fun b u e=>by rw[aC (aZ e h)];exact e
theorem aL {H H2:Hp}{l:Addr}{o:HO} (h:H l=none) (s:aE H H2):aE H (upd H2 l o):=fun b u e=>by rw[aC (aZ e h)];exact s b u e
theorem kQ {i:Nat}{x:V}{σ:St}{H:Hp}{A B:St→Hp→Prop} (h:A (σ.set i (some x)) H):ig i x σ H (fun τ2 H2=>HR τ2 H2 fun b H3=>if b=true then A τ2 H3 else B τ2 H3):=by
 show(if true=true then A (σ.set i (some x)) H else B (σ.set i (some x)) H)
 exact jF h
theorem uF {A B:Prop}{b:Bool} (hb:b=true) (h:B):if (!b)=true then A else B:=by rw[hb];exact jE h
theorem pT {α:Type}{xs:List α}{i:Int} (h0:0≤i) (h:i < xs.length):∃ c,AQ xs i=some c∧c∈xs:=by
 obtain⟨j,rfl⟩:∃ j:Nat,i=j:=⟨i.toNat,by omega⟩
 have hj:j < xs.length:=by omega
 exact⟨xs[j],FA (by simp[hj]),List.getElem_mem hj⟩
theorem Gq {α:Type} (f:α→V) (cs:List α) (lo hi:Option Int):∃ Rz:List α,cR (cs.map f) lo hi=Rz.map f∧Rz.length≤cs.length:=by
 unfold cR
 refine⟨(cs.drop (HT.gh (cs.map f).length 0 lo)).take (HT.gh (cs.map f).length (cs.map f).length hi - HT.gh (cs.map f).length 0 lo),?_,?_⟩
 ·rw[List.map_take,List.map_drop]
 ·rw[List.length_take,List.length_drop];omega
def Pn (c:Nat):Prop:=32≤c∧c≤126∧c≠37
instance (c:Nat):Decidable (Pn c):=by unfold Pn;exact inferInstance
structure Sg (z:Str):Prop where
 nd:z.cps.toList.Nodup
 pr:∀ c∈z.cps.toList,Pn c
def Mn (z:Str):Prop:=0 < z.length∧z.length≤100∧∀ c∈z.cps.toList,Pn c
instance (z:Str):Decidable (Mn z):=by unfold Mn;exact inferInstance
structure Gd (p q f:Str):Prop where
 gp:Sg p
 gq:Sg q
 gf:Sg f
 p1:1≤p.length
 p3:p.length≤3
 q2:q.length≤2
 f2:f.length≤2
def uG (p q f:Str) (b1 b2 b3 b4:Bool):List V:=[.str p,.str q,.str f,.bl b1,.bl b2,.bl b3,.bl b4]
def O3 (p q f:Str) (b1 b2 b3 b4:Bool):List (Str×V):=[("parts",.str p),("quotes",.str q),("frees",.str f),("twin",.bl b1),("wide",.bl b2),("thin",.bl b3),("stray",.bl b4)]
def away (t:Str) (c:Nat):Bool:=!(!(Builtin.Str.occurrences t (sg c) 0 t.length 1).isEmpty)
theorem xH (t:Str) (c:Nat):away t c=true↔c∉t.cps.toList:=by
 unfold away
 have e:(!(Builtin.Str.occurrences t (sg c) 0 t.length 1).isEmpty)=decide (c∈t.cps.toList):=StrLaws.found_one t c
 rw[e]
 simp
theorem IA {z:Str}{c:Nat} (h:Sg z) (hc:Pn c) (ha:away z c=true):Sg (z++sg c):=by
 have e:(z++sg c).cps.toList=z.cps.toList++[c]:=by
  show(z.cps ++ #[c]).toList=_
  simp
 have hn:=(xH z c).mp ha
 refine⟨?_,?_⟩
 ·rw[e,List.nodup_append]
  refine⟨h.nd,by simp,fun a ha b hb=>?_⟩
  rw[List.mem_singleton.mp hb]
  intro q;exact hn (q ▸ ha)
 ·rw[e]
  intro d hd
  rcases List.mem_append.mp hd with z' | z'
  ·exact h.pr d z'
  ·rw[List.mem_singleton.mp z'];exact hc
theorem IB:Sg ("":Str):=by
 have e:("":Str).cps.toList=[]:=by decide +kernel
 refine⟨?_,?_⟩
 ·rw[e];exact List.nodup_nil
 ·rw[e];intro c hc;cases hc
theorem Gr (a b:Str):(a++b).length=a.length+b.length:=by
 show(a.cps++b.cps).size=_
 rw[Array.size_append];rfl
theorem xJ {A B:Prop}{b:Bool} (hb:b=false) (h:A):if (!b)=true then A else B:=by rw[hb];exact jF h
theorem Ed {A B:Prop}{b:Bool} (hb:b=true) (h:A):if b=true then A else B:=by rw[hb];exact jF h
theorem Lb {A B:Prop}{b:Bool} (hb:b=false) (h:B):if b=true then A else B:=by rw[hb];exact jE h
def O4 (c:Nat) (z:Str):Bool:=!(Builtin.Str.occurrences z (sg c) 0 z.length 1).isEmpty
def RA (a b:Str):Bool:=decide (V.str a=V.str b)
theorem ns {a b:String} (h:RA (Str.ofString a) (Str.ofString b)=false):¬RA (Str.ofString a) (Str.ofString b)=true:=by rw[h];decide
theorem sd {b:Bool} (h:¬b=true):b=false:=by cases b <;> simp_all
theorem er {α β:Type}{F:α→β→Prop}:∀{xs xs':List α}{ys ys':List β},Paired F xs ys→Paired F xs' ys'→Paired F (xs++xs') (ys++ys')
 | _,_,_,_,.nil,r=>r
 | _,_,_,_,.cons q t,r=>.cons q (er t r)
def c5:List (Str×Str):=[(Str.ofString "row",Str.ofString ""),(Str.ofString "cell",Str.ofString ""),(Str.ofString "plain",Str.ofString ""),(Str.ofString "behind",Str.ofString ""),(Str.ofString "freed",Str.ofString "")]
def c3 (c:Nat):List (Str×Str):=[(Str.ofString "within",sg c),(Str.ofString "doubt",sg c),(Str.ofString "freed",sg c)]
def cont (l:List Nat):List (Str×Str):=c5++l.flatMap c3
theorem Gs (c:Nat) (z:Str):O4 c z=decide (c∈z.cps.toList):=StrLaws.found_one z c
theorem IC {c:Nat}{z:Str} (h:c∉z.cps.toList):¬O4 c z=true:=by rw[Gs];simpa using h
theorem RB {z:Str} (g:Sg z):¬O4 10 z=true:=IC fun h=>by have:=(g.pr 10 h).1;omega
theorem cE {α:Type}{l:List α}{i:Nat}{c:α} (h:l[i]? = some c):l.take (i+1)=l.take i++[c]:=by
 rw[List.take_succ,h];rfl
theorem pU {t u:TS}{D:Ends}{σ:St}{H:Hp} (N:St→Hp→Prop) (hu:∀ σ' H',N σ' H'→u D σ' H') (ht:(∀ σ' H',N σ' H'→u D σ' H')→t { D with nx:=u D } σ H):JZ t u D σ H:=ht hu
theorem same_self {K:W.Frag}{H:Hp}{xs:List V} (h:xs.all qj=true):∀(j:Nat) x y,xs[j]? = some x→xs[j]? = some y→kH K H 1 x y:=fun j x y ex ey=>by
 rw[ex] at ey;cases ey
 have:=List.all_eq_true.mp h x (List.mem_of_getElem? ex)
 exact .flat this this (DR this)
def Nx:List Nat:=("a7ZbXq9KwM":Str).cps.toList
theorem zd {H H1 H':Hp}{ea d:Addr}{o:HO} (s:aE H H1) (oE:H1 ea=none) (hd:(upd H1 ea o) d=none) (Nx:∀ b,b≠ea→b≠d→H' b=upd H1 ea o b):aE H (del H' ea):=fun b u hb=>by
 have hb1:=s b u hb
 have n1:b≠ea:=fun z=>by rw[z,oE] at hb1;cases hb1
 have n2:b≠d:=fun z=>by rw[←z,aC n1,hb1] at hd;cases hd
 rw[vf n1,Nx b n1 n2,aC n1];exact hb1
def Ask (K:W.Frag) (C:Addr) (Ds:List Addr) (f:Nat→Bool):Prop:=∀(j:Nat) (D:Addr),Ds[j]? = some D→W.kitOne K (.ref C) (.ref D)=some (f j)
structure O5 (K:W.Frag) (C B:Addr) (Ds:List Addr) (f:Nat→Bool):Prop where
 cl:∃ N bm ini,bR K C N bm ini∧rA K bm
 xk:JJ K C
 ask:Ask K C Ds f
 ba:W.kitOne K (.ref C) (.ref B)=some true
 ve:W.kitOne K (.ref C) (.type "ValueError")=some true
def K1 (K:W.Frag) (H:Hp) (v:V):Prop:=(∃ z:Str,v=.str z∧z.length≤10000)∨∃ n,gI K H v (.type n)∧n∈["NoneType", "bool", "int", "list", "tuple", "dict"]
theorem jH {K:W.Frag}{H H':Hp}{v:V}{t:Value} (s:aE H H') (h:gI K H v t):gI K H' v t:=by
 cases h with
 | non=>exact .non
 | bl b=>exact .bl b
 | int n=>exact .int n
 | str z=>exact .str z
 | Dg z=>exact .Dg z
 | lst e=>exact .lst (s _ _ e)
 | ou e=>exact .ou (s _ _ e)
 | tup e=>exact .tup (s _ _ e)
 | dK e=>exact .dK (s _ _ e)
 | dT e=>exact .dT (s _ _ e)
 | ins e a b c d f=>exact .ins (s _ _ e) a b c d f
theorem K1.mono {K:W.Frag}{H H':Hp}{v:V} (s:aE H H') (h:K1 K H v):K1 K H' v:=by
 rcases h with h | ⟨n,h,hn⟩
 ·exact .inl h
 ·exact .inr ⟨n,jH s h,hn⟩
theorem K1.tup {K:W.Frag}{H:Hp}{a:Addr}{xs:List V} (e:H a=some (.tup xs)):K1 K H (.ref a):=.inr ⟨_,.tup e,by decide⟩
theorem ID {K:W.Frag}{n:String} (h:n∈["NoneType", "bool", "int", "list", "tuple", "dict"]):W.kitOne K (.type n) (.type "str")=some false:=by
 simp only[List.mem_cons,List.not_mem_nil,or_false] at h
 rcases h with rfl | rfl | rfl | rfl | rfl | rfl <;> rfl
theorem Ef {K:W.Frag}{n:String} (h:n∈["NoneType", "bool", "int", "list", "tuple", "dict"]):W.kitOne K (.type n) (.type "bool")=some (decide (n = "bool")):=by
 simp only[List.mem_cons,List.not_mem_nil,or_false] at h
 rcases h with rfl | rfl | rfl | rfl | rfl | rfl <;> rfl
theorem A1 {K:W.Frag}{n:String} (h:n∈["NoneType", "bool", "int", "list", "tuple", "dict"]):W.kitOne K (.type n) (.type "tuple")=some (decide (n = "tuple")):=by
 simp only[List.mem_cons,List.not_mem_nil,or_false] at h
 rcases h with rfl | rfl | rfl | rfl | rfl | rfl <;> rfl
theorem ze {K:W.Frag}{H:Hp}{v:V}{n:String} (h:gI K H v (.type n)) (e:n = "tuple"):∃ t ys,v=.ref t∧H t=some (.tup ys):=by
 cases h <;> first | exact⟨_,_,rfl,by assumption⟩ | exact absurd e (by decide)
def oG:V→Bool
 | .bl _=>true
 | _=>false
theorem gn {v:V} (h:oG v=true):∃ b,v=.bl b:=by cases v <;> first | exact⟨_,rfl⟩ | cases h
theorem IE {K:W.Frag}{H:Hp}{v:V}{n:String} (h:gI K H v (.type n)):oG v=decide (n = "bool"):=by
 cases h <;> first | rfl | (show _=decide _;rfl)
def bM:V→Nat→Nat→Bool
 | .str z,lo,hi=>decide (lo≤z.length∧z.length≤hi∧z.cps.toList.Nodup∧∀ c∈z.cps.toList,Pn c)
 | _,_,_=>false
theorem ki {v:V}{lo hi:Nat} (h:bM v lo hi=true):∃ z,v=.str z∧Sg z∧lo≤z.length∧z.length≤hi:=by
 cases v with
 | str z=>have h:=of_decide_eq_true h;exact⟨z,rfl,⟨h.2.2.1,h.2.2.2⟩,h.1,h.2.1⟩
 | _=>cases h
theorem uH {z:Str}{lo hi:Nat} (g:Sg z) (h1:lo≤z.length) (h2:z.length≤hi):bM (.str z) lo hi=true:=decide_eq_true ⟨h1,h2,g.nd,g.pr⟩
theorem IF {K:W.Frag}{H:Hp}{v:V}{n:String}{lo hi:Nat} (h:gI K H v (.type n)) (hn:n∈["NoneType", "bool", "int", "list", "tuple", "dict"]):bM v lo hi=false:=by
 cases h with
 | str z=>exact absurd hn (by decide)
 | _=>rfl
def G7 (ys:List V):Prop:=∃ p q f b1 b2 b3 b4,ys=uG p q f b1 b2 b3 b4∧Gd p q f
theorem lz {v1 v2 v3 v4 v5 v6 v7:V} (h:G7 [v1,v2,v3,v4,v5,v6,v7]):bM v1 1 3=true∧bM v2 0 2=true∧bM v3 0 2=true∧oG v4=true∧oG v5=true∧oG v6=true∧oG v7=true:=by
 obtain⟨p,q,f,b1,b2,b3,b4,e,g⟩:=h
 cases e
 exact⟨uH g.gp g.p1 g.p3,uH g.gq (Nat.zero_le _) g.q2,uH g.gf (Nat.zero_le _) g.f2,rfl,rfl,rfl,rfl⟩
theorem A2 {c:Nat}:∀{l:List Nat},c∈l→1≤PyProof.Rows.cnt c l
 | n :: r,h=>by
  rw[PyProof.Rows.cnt_cons]
  have nn:∀ l:List Nat,0≤PyProof.Rows.cnt c l:=fun l=>by
   induction l with
   | nil=>exact Int.le_refl _
   | cons m l ih=>rw[PyProof.Rows.cnt_cons];split <;> omega
  have:=nn r
  by_cases e:n=c
  ·rw[if_pos e];omega
  ·rw[if_neg e]
   have:=A2 ((List.mem_cons.mp h).resolve_left (Ne.symm e))
   omega
theorem uI:∀{l:List Nat},(∀ c∈l,PyProof.Rows.cnt c l=1)→l.Nodup
 | [],_=>List.nodup_nil
 | n :: r,h=>by
  have hn:n∉r:=fun hm=>by
   have h1:=h n (List.mem_cons_self ..)
   rw[PyProof.Rows.cnt_cons,if_pos rfl] at h1
   have:=A2 hm
   omega
  refine List.nodup_cons.mpr ⟨hn,uI fun c hc=>?_⟩
  have h1:=h c (List.mem_cons_of_mem _ hc)
  rw[PyProof.Rows.cnt_cons,if_neg (fun e:n=c=>hn (by rw[e];exact hc))] at h1
  omega
theorem A3 {a b:Int}:decide (V.int a=V.int b)=decide (a=b):=by
 by_cases h:a=b
 ·rw[h,decide_eq_true rfl,decide_eq_true rfl]
 ·rw[decide_eq_false h,decide_eq_false fun e=>h (by injection e)]
def vm (z:Str) (c:Nat):Bool:=decide (Pn c) && decide (PyProof.Rows.cnt c z.cps.toList=1)
theorem Gu {z:Str}{lo hi:Nat} (h1:lo≤z.length) (h2:z.length≤hi):z.cps.toList.all (vm z)=bM (.str z) lo hi:=by
 show _=decide _
 by_cases h:z.cps.toList.all (vm z)=true
 ·rw[h]
  have h':=List.all_eq_true.mp h
  refine(decide_eq_true ⟨h1,h2,uI fun c hc=>?_,fun c hc=>?_⟩).symm
  ·have:=h' c hc;unfold vm at this;rw[Bool.and_eq_true] at this;exact of_decide_eq_true this.2
  ·have:=h' c hc;unfold vm at this;rw[Bool.and_eq_true] at this;exact of_decide_eq_true this.1
 ·rw[sd h]
  refine(decide_eq_false fun ⟨_,_,nd,pr⟩=>h (List.all_eq_true.mpr fun c hc=>?_)).symm
  unfold vm
  rw[decide_eq_true (pr c hc),decide_eq_true (AV nd hc)];rfl
theorem Eg {ys:List V} (h:ys.length=7):∃ v1 v2 v3 v4 v5 v6 v7,ys=[v1,v2,v3,v4,v5,v6,v7]:=by
 match ys,h with
 | [v1,v2,v3,v4,v5,v6,v7],_=>exact⟨_,_,_,_,_,_,_,rfl⟩
theorem IG {ys:List V} (h:G7 ys):ys.length=7:=by obtain⟨p,q,f,b1,b2,b3,b4,e,g⟩:=h;rw[e];rfl
theorem Eh {H:Hp}{x dx C:Addr} (hx:H x=none) (hdx:H dx=none):aE H (upd (upd H dx (.own x)) x (.ins C dx [])):=fun b o e=>by
 rw[aC (aZ e hx),aC (aZ e hdx)];exact e
def E7:List V→Bool
 | [v1,v2,v3,v4,v5,v6,v7]=>bM v1 1 3 && (bM v2 0 2 && (bM v3 0 2 && (oG v4 && (oG v5 && (oG v6 && oG v7)))))
 | _=>false
theorem Lc {ys:List V} (h:G7 ys):E7 ys=true:=by
 obtain⟨p,q,f,b1,b2,b3,b4,rfl,g⟩:=h
 obtain⟨h1,h2,h3,h4,h5,h6,h7⟩:=lz ⟨p,q,f,b1,b2,b3,b4,rfl,g⟩
 show(_ && (_ && (_ && (_ && (_ && (_ && _))))))=true
 rw[h1,h2,h3,h4,h5,h6,h7];rfl
theorem II {ys:List V} (h:E7 ys=true):G7 ys:=by
 match ys,h with
 | [v1,v2,v3,v4,v5,v6,v7],h =>
  have h:(bM v1 1 3 && (bM v2 0 2 && (bM v3 0 2 && (oG v4 && (oG v5 && (oG v6 && oG v7))))))=true:=h
  simp only[Bool.and_eq_true] at h
  obtain⟨h1,h2,h3,h4,h5,h6,h7⟩:=h
  obtain⟨p,rfl,gp,p1,p3⟩:=ki h1
  obtain⟨q,rfl,gq,_,q2⟩:=ki h2
  obtain⟨f,rfl,gf,_,f2⟩:=ki h3
  obtain⟨b1,rfl⟩:=gn h4
  obtain⟨b2,rfl⟩:=gn h5
  obtain⟨b3,rfl⟩:=gn h6
  obtain⟨b4,rfl⟩:=gn h7
  exact⟨p,q,f,b1,b2,b3,b4,rfl,⟨gp,gq,gf,p1,p3,q2,f2⟩⟩
def m9 (K:W.Frag) (H:Hp) (x:V):Prop:=K1 K H x∧∀ t ys,x=.ref t→H t=some (.tup ys)→ys.length≤100∧∀ y∈ys,K1 K H y
def kR (H:Hp) (x:V):Option (List V):=match x with
 | .ref t=>match H t with
  | some (.tup ys)=>some ys
  | _=>none
 | _=>none
def je (H:Hp) (x:V):Bool:=match kR H x with
 | some ys=>decide (ys.length=4) && ys.all oG
 | none=>false
theorem vn (v1 v2 v3 v4 v5 v6 v7:V):E7 [v1,v2,v3,v4,v5,v6,v7]=(bM v1 1 3 && (bM v2 0 2 && (bM v3 0 2 && (oG v4 && (oG v5 && (oG v6 && oG v7)))))):=rfl
theorem IJ:bM (.str (",":Str)) 1 3=true:=by decide +kernel
theorem Gv:bM (.str ("":Str)) 0 2=true:=by decide +kernel
theorem IK:oG (.bl false)=true:=rfl
theorem O6 (x:V):E7 [x,.str ("":Str),.str ("":Str),.bl false,.bl false,.bl false,.bl false]=bM x 1 3:=by
 rw[vn,Gv,IK];simp
theorem O7 (x:V):E7 [.str (",":Str),x,.str ("":Str),.bl false,.bl false,.bl false,.bl false]=bM x 0 2:=by
 rw[vn,Gv,IJ,IK];simp
theorem O8 (x:V):E7 [.str (",":Str),.str ("":Str),x,.bl false,.bl false,.bl false,.bl false]=bM x 0 2:=by
 rw[vn,Gv,IJ,IK];simp
theorem O9 (ys:List V):E7 ([.str (",":Str),.str ("":Str),.str ("":Str)]++ys)=(decide (ys.length=4) && ys.all oG):=by
 match ys with
 | []=>rfl
 | [a]=>rfl
 | [a,b]=>rfl
 | [a,b,c]=>rfl
 | [a,b,c,d] =>
  rw[show [V.str (",":Str),.str ("":Str),.str ("":Str)]++[a,b,c,d]=[V.str (",":Str),.str ("":Str),.str ("":Str),a,b,c,d] from rfl,vn,IJ,Gv,decide_eq_true (show [a,b,c,d].length=4 from rfl)]
  simp
 | a :: b :: c :: d :: e :: r =>
  rw[decide_eq_false (show ¬(a :: b :: c :: d :: e :: r).length=4 by simp)];rfl
theorem mE {H:Hp}{t:Addr}{ys:List V} (h:H t=some (.tup ys)):je H (.ref t)=(decide (ys.length=4) && ys.all oG):=by
 unfold je kR
 simp only[h]
theorem vo {K:W.Frag}{H:Hp}{v:V}{n:String} (h:gI K H v (.type n)) (hn:n ≠ "tuple"):je H v=false:=by
 cases h with
 | tup e=>exact absurd rfl hn
 | lst e=>unfold je kR;simp only[e]
 | ou e=>unfold je kR;simp only[e]
 | dK e=>unfold je kR;simp only[e]
 | dT e=>unfold je kR;simp only[e]
 | _=>rfl
theorem BD {K:W.Frag}{H:Hp}{z:Str} (h:z.length≤10000):K1 K H (.str z):=.inl ⟨z,rfl,h⟩
theorem xK {K:W.Frag}{H:Hp}{b:Bool}:K1 K H (.bl b):=.inr ⟨"bool",.bl b,by decide⟩
structure B4 where
 a:Bool
 b:Bool
 c:Bool
 d:Bool
def B4.vs (b:B4):List V:=[.bl b.a,.bl b.b,.bl b.c,.bl b.d]
abbrev Hg:=Str×Str×Str×B4
def Ld (x:Hg):List (Str×V):=O3 x.1 x.2.1 x.2.2.1 x.2.2.2.a x.2.2.2.b x.2.2.2.c x.2.2.2.d
def P1 (p q f:Str) (bs:List B4):List Hg:=bs.map fun b=>(p,q,f,b)
def P2 (p q:Str) (fs:List Str) (bs:List B4):List Hg:=fs.flatMap fun f=>P1 p q f bs
def P3 (p:Str) (qs fs:List Str) (bs:List B4):List Hg:=qs.flatMap fun q=>P2 p q fs bs
def P4 (ps qs fs:List Str) (bs:List B4):List Hg:=ps.flatMap fun p=>P3 p qs fs bs
abbrev zf (H:Hp):List V→List B4→Prop:=Paired fun e b=>∃ t,e=V.ref t∧H t=some (.tup b.vs)
theorem zf.mono {H H':Hp} (s:aE H H'):∀{ts:List V}{bs:List B4},zf H ts bs→zf H' ts bs
 | _,_,.nil=>.nil
 | _,_,.cons ⟨t,e,h⟩ r=>.cons ⟨t,e,s _ _ h⟩ (zf.mono s r)
structure Ny (ps qs fs:List Str) (bs:List B4):Prop where
 gp:∀ p∈ps,Sg p∧1≤p.length∧p.length≤3
 gq:∀ q∈qs,Sg q∧q.length≤2
 gf:∀ f∈fs,Sg f∧f.length≤2
 np:1≤ps.length
 nq:1≤qs.length
 nf:1≤fs.length
 nb:1≤bs.length
 most:ps.length * qs.length * fs.length * bs.length≤24
theorem IL {ps qs fs:List Str}{bs:List B4} (h:Ny ps qs fs bs):ps.length≤24∧qs.length≤24∧fs.length≤24∧bs.length≤24:=by
 obtain⟨_,_,_,hp,hq,hf,hb,hm⟩:=h
 have key:∀ a b c d:Nat,1≤b→1≤c→1≤d→a≤a * b * c * d:=fun a b c d x y z =>
  Nat.le_trans (Nat.le_mul_of_pos_right a x) (Nat.le_trans (Nat.le_mul_of_pos_right _ y) (Nat.le_mul_of_pos_right _ z))
 refine⟨Nat.le_trans (key _ _ _ _ hq hf hb) hm,Nat.le_trans (key _ _ _ _ hp hf hb) (by rw[Nat.mul_comm qs.length];exact hm),Nat.le_trans (key _ _ _ _ hp hq hb) ?_,Nat.le_trans (key _ _ _ _ hp hq hf) ?_⟩
 ·rw[Nat.mul_comm fs.length,Nat.mul_right_comm ps.length];exact hm
 ·rw[Nat.mul_comm bs.length,Nat.mul_right_comm ps.length,Nat.mul_right_comm (ps.length * qs.length)];exact hm
theorem uJ {α β:Type}{F:α→β→Prop}:∀{xs:List α}{ys:List β},Paired F xs ys→∀{i:Nat}{x:α},xs[i]? = some x→∃ y,ys[i]? = some y∧F x y
 | _,_,.nil,i,x,h=>by simp at h
 | _,_,.cons r t,0,x,h=>by cases h;exact⟨_,rfl,r⟩
 | _,_,.cons r t,i+1,x,h=>uJ t (i:=i) h
abbrev A4 (C:Addr) (H:Hp):List V→List Hg→Prop:=Paired fun e x=>∃ y dy,e=V.ref y∧H y=some (.ins C dy (Ld x))
theorem A4.mono {C:Addr}{H H':Hp} (s:aE H H'):∀{es:List V}{xs:List Hg},A4 C H es xs→A4 C H' es xs
 | _,_,.nil=>.nil
 | _,_,.cons ⟨t,d,e,h⟩ r=>.cons ⟨t,d,e,s _ _ h⟩ (A4.mono s r)
theorem A4.but {C:Addr}{H:Hp}{l:Addr}{ys:List V}{o:HO} (hl:H l=some (.lst ys)):∀{es:List V}{xs:List Hg},A4 C H es xs→A4 C (upd H l o) es xs
 | _,_,.nil=>.nil
 | _,_,.cons ⟨t,d,e,h⟩ r=>.cons ⟨t,d,e,(aC (JT h hl (by intro z;cases z))).trans h⟩ (A4.but hl r)
theorem take_one {α:Type}{l:List α}{i:Nat}{x:α} (h:l[i]? = some x):l.take (i+1)=l.take i++[x]:=by
 rw[List.take_succ,h];rfl
theorem zg {α β:Type}{l:List α}{i:Nat}{x:α}{g:α→List β} (h:l[i]? = some x):(l.take (i+1)).flatMap g=(l.take i).flatMap g++g x:=by
 rw[take_one h,List.flatMap_append];simp
theorem map_one {α β:Type}{l:List α}{i:Nat}{x:α}{g:α→β} (h:l[i]? = some x):(l.take (i+1)).map g=(l.take i).map g++[g x]:=by
 rw[take_one h,List.map_append];rfl
theorem zh {l:List Str}{i:Nat}{e:V} (h:(l.map V.str)[i]? = some e):∃ z,l[i]? = some z∧e=.str z:=by
 rw[List.getElem?_map] at h
 cases hz:l[i]? with
 | none=>rw[hz] at h;cases h
 | some z=>rw[hz] at h;exact⟨z,rfl,(Option.some.inj h).symm⟩
theorem qt {α:Type}{f g:α→Bool}:∀{xs:List α},(∀ x∈xs,f x=g x)→xs.all f=xs.all g
 | [],_=>rfl
 | x :: xs,h=>by rw[List.all_cons,List.all_cons,h x (List.mem_cons_self ..),qt fun y hy=>h y (List.mem_cons_of_mem _ hy)]
def jI (H:Hp) (v:V):Option (List V):=match v with
 | .ref a=>match H a with
  | some (.lst xs)=>some xs
  | _=>none
 | _=>none
def lx (H:Hp) (v:V):List V:=(jI H v).getD []
def mR (H:Hp) (v:V):Bool:=decide (0 < (lx H v).length)
def xM (K:W.Frag) (H:Hp) (v:V):Prop:=(∃ l xs,v=.ref l∧H l=some (.lst xs)∧(∀ x∈xs,m9 K H x)∧xs.length≤1000)∨∃ ty,gI K H v ty∧W.kitOne K ty (.type "list")=some false∧jI H v=none
theorem cK {H:Hp}{l:Addr}{xs:List V} (h:H l=some (.lst xs)):lx H (.ref l)=xs:=by unfold lx jI;simp only[h];rfl
def uK (H:Hp) (v1 v2 v3 v4:V):Bool:=(lx H v1).all (fun x=>bM x 1 3) && ((lx H v2).all (fun x=>bM x 0 2) && ((lx H v3).all (fun x=>bM x 0 2) && (lx H v4).all (je H)))
def jy (H:Hp) (v1 v2 v3 v4:V):Nat:=if [v1,v2,v3,v4].all (mR H)=false then 0 else if uK H v1 v2 v3 v4=false then 0 else if 24 < (lx H v1).length * (lx H v2).length * (lx H v3).length * (lx H v4).length then 1 else 2
theorem oH {K:W.Frag}{H H':Hp}{x:V} (s:aE H H') (h:K1 K H x):je H' x=je H x:=by
 rcases h with ⟨z,rfl,_⟩ | ⟨n,ty,_⟩
 ·rfl
 ·by_cases hT:n = "tuple"
  ·obtain⟨t,ys,rfl,ht⟩:=ze ty hT
   rw[mE ht,mE (s _ _ ht)]
  ·rw[vo ty hT,vo (jH s ty) hT]
theorem mw {lo hi:Nat}:∀{xs:List V},xs.all (fun x=>bM x lo hi)=true→∃ ps:List Str,xs=ps.map V.str∧∀ p∈ps,Sg p∧lo≤p.length∧p.length≤hi
 | [],_=>⟨[],rfl,fun _ z=>nomatch z⟩
 | x :: xs,h=>by
  rw[List.all_cons,Bool.and_eq_true] at h
  obtain⟨ps,rfl,hp⟩:=mw h.2
  obtain⟨z,rfl,gz,h1,h2⟩:=ki h.1
  refine⟨z :: ps,rfl,fun p hq=>?_⟩
  rcases List.mem_cons.mp hq with rfl | hq
  ·exact⟨gz,h1,h2⟩
  ·exact hp p hq
theorem Ei {H:Hp}:∀{xs:List V},xs.all (je H)=true→∃ bs:List B4,zf H xs bs
 | [],_=>⟨[],.nil⟩
 | x :: xs,h=>by
  rw[List.all_cons,Bool.and_eq_true] at h
  obtain⟨bs,hb⟩:=Ei h.2
  have h1:=h.1
  cases x with
  | ref t =>
   cases ht:H t with
   | none=>unfold je kR at h1;simp only[ht] at h1;cases h1
   | some o =>
    cases o with
    | tup ys =>
     rw[mE ht,Bool.and_eq_true] at h1
     have hl:=of_decide_eq_true h1.1
     match ys,hl with
     | [a,b,c,d],_ =>
      have h2:=h1.2
      simp only[List.all_cons,List.all_nil,Bool.and_true,Bool.and_eq_true] at h2
      obtain⟨h3,h4,h5,h6⟩:=h2
      obtain⟨a,rfl⟩:=gn h3
      obtain⟨b,rfl⟩:=gn h4
      obtain⟨c,rfl⟩:=gn h5
      obtain⟨d,rfl⟩:=gn h6
      exact⟨⟨a,b,c,d⟩ :: bs,.cons ⟨t,rfl,ht⟩ hb⟩
    | _=>unfold je kR at h1;simp only[ht] at h1;cases h1
  | _=>cases h1
theorem IM (ps qs fs:List Str) (bs:List B4):(P4 ps qs fs bs).length=ps.length * qs.length * fs.length * bs.length:=by
 have h1:∀ p q f,(P1 p q f bs).length=bs.length:=fun p q f=>List.length_map ..
 have h2:∀ p q,(P2 p q fs bs).length=fs.length * bs.length:=fun p q=>by
  unfold P2;induction fs with
  | nil=>simp
  | cons f fs ih=>rw[List.flatMap_cons,List.length_append,ih,h1,List.length_cons,Nat.add_mul];omega
 have h3:∀ p,(P3 p qs fs bs).length=qs.length * (fs.length * bs.length):=fun p=>by
  unfold P3;induction qs with
  | nil=>simp
  | cons f qs ih=>rw[List.flatMap_cons,List.length_append,ih,h2,List.length_cons,Nat.add_mul];omega
 unfold P4;induction ps with
 | nil=>simp
 | cons f ps ih=>rw[List.flatMap_cons,List.length_append,ih,h3,List.length_cons,Nat.add_mul,Nat.add_mul,Nat.add_mul,Nat.one_mul,Nat.mul_assoc qs.length];omega
def Ej (H:Hp) (y:V):Prop:=∃(t:Addr) (p q f:Str) (b1 b2 b3 b4:Bool),y=.ref t∧H t=some (.tup (uG p q f b1 b2 b3 b4))∧Gd p q f
theorem Ej.mono {H H':Hp}{y:V} (s:aE H H') (h:Ej H y):Ej H' y:=let ⟨t,p,q,f,b1,b2,b3,b4,e1,e2,e3⟩:=h;⟨t,p,q,f,b1,b2,b3,b4,e1,s _ _ e2,e3⟩
theorem Ej.set {H:Hp}{y:V}{D:Addr}{ws:List V}{o:HO} (hD:H D=some (.lst ws)) (h:Ej H y):Ej (upd H D o) y:=by
 obtain⟨t,p,q,f,b1,b2,b3,b4,e1,e2,e3⟩:=h
 exact⟨t,p,q,f,b1,b2,b3,b4,e1,by rw[aC (fun z=>by subst z;rw[e2] at hD;cases hD)];exact e2,e3⟩
theorem Gw {H:Hp}{l:Addr}{ws:List V}{o:HO} (hl:H l=some (.lst ws)) {xs:List V}{bs:List B4} (h:zf H xs bs):zf (upd H l o) xs bs:=Paired.imp' (fun _ _ ⟨t,e,ht⟩=>⟨t,e,by rw[aC (fun z=>by subst z;rw[ht] at hl;cases hl)];exact ht⟩) h
def Le (pl:Int) (H:Hp) (v:V):Prop:=(pl=0→bM v 1 3=false)∧(pl=1→bM v 0 2=false)∧(pl=2→bM v 0 2=false)∧(pl=3→je H v=false)
theorem gQ {a b:Int} (h:0 < b):0≤a % b:=Int.emod_nonneg a (by omega)
theorem gR {a b:Int} (h:0 < b):a % b < b:=Int.emod_lt_of_pos a h
theorem fB {K:W.Frag}{H:Hp}{v:V} (h:qj v=true) (hs:∀ z,v=.str z→z.length≤10000):m9 K H v:=by
 refine⟨?_,fun t ys e=>by subst e;cases h⟩
 cases v with
 | non=>exact .inr ⟨_,.non,by decide⟩
 | bl b=>exact xK
 | int i=>exact .inr ⟨_,.int i,by decide⟩
 | str z=>exact BD (hs z rfl)
 | _=>cases h
theorem A5 {K:W.Frag}{H:Hp}{a:Addr}{xs:List V} (h:H a=some (.lst xs)):m9 K H (.ref a):=⟨.inr ⟨_,.lst h,by decide⟩,fun t ys e e2=>by cases e;rw[h] at e2;cases e2⟩
theorem vp {K:W.Frag}{H:Hp}{a:Addr}{xs:List V} (h:H a=some (.tup xs)) (hl:xs.length≤100) (hk:∀ x∈xs,K1 K H x):m9 K H (.ref a):=⟨K1.tup h,fun t ys e e2=>by cases e;rw[h] at e2;cases e2;exact⟨hl,hk⟩⟩
def kI (L:Addr) (H H':Hp):Prop:=(∀ a o,a≠L→H a=some o→H' a=some o)∧(∃ xs,H L=some (.lst xs))∧∃ ys,H' L=some (.lst ys)
theorem kI.same {L:Addr}{H H':Hp}{xs:List V} (s:aE H H') (h:H L=some (.lst xs)):kI L H H':=⟨fun a o _ e=>s _ _ e,⟨_,h⟩,⟨_,s _ _ h⟩⟩
theorem kI.set {L:Addr}{H:Hp}{xs ys:List V} (h:H L=some (.lst xs)):kI L H (upd H L (.lst ys)):=⟨fun a o n e=>(aC n).trans e,⟨_,h⟩,⟨_,ah⟩⟩
theorem kI.ty {L:Addr}{H H':Hp}{K:W.Frag}{v:V}{t:Value} (k:kI L H H') (h:gI K H v t):gI K H' v t:=by
 obtain⟨k1,⟨xs,k2⟩,⟨ys,k3⟩⟩:=k
 cases h with
 | non=>exact .non
 | bl x=>exact .bl x
 | int i=>exact .int i
 | str x=>exact .str x
 | Dg x=>exact .Dg x
 | @lst a zs e =>
  by_cases q:a=L
  ·subst q;exact .lst k3
  ·exact .lst (k1 _ _ q e)
 | @ou a o zs e=>exact .ou (k1 _ _ (fun q=>by subst q;rw[k2] at e;cases e) e)
 | @tup a zs e=>exact .tup (k1 _ _ (fun q=>by subst q;rw[k2] at e;cases e) e)
 | @dK a zs e=>exact .dK (k1 _ _ (fun q=>by subst q;rw[k2] at e;cases e) e)
 | @dT a zs e=>exact .dT (k1 _ _ (fun q=>by subst q;rw[k2] at e;cases e) e)
 | @ins a C dx fs e c1 c2 c3 c4 c5=>exact .ins (k1 _ _ (fun q=>by subst q;rw[k2] at e;cases e) e) c1 c2 c3 c4 c5
theorem kI.k1 {L:Addr}{H H':Hp}{K:W.Frag}{v:V} (k:kI L H H') (h:K1 K H v):K1 K H' v:=by
 rcases h with h | ⟨n,h,hn⟩
 ·exact .inl h
 ·exact .inr ⟨n,k.ty h,hn⟩
theorem xN {L:Addr}{H H':Hp}{K:W.Frag}{v:V} (k:kI L H H') (h:K1 K H v):kR H' v=kR H v:=by
 obtain⟨k1,⟨xs,k2⟩,⟨ys,k3⟩⟩:=k
 cases v with
 | ref a =>
  by_cases q:a=L
  ·subst q;unfold kR;simp only[k2,k3]
  ·rcases h with ⟨z,e,_⟩ | ⟨n,ty,_⟩
   ·cases e
   ·cases ty with
    | lst e=>unfold kR;simp only[e,k1 _ _ q e]
    | ou e=>unfold kR;simp only[e,k1 _ _ q e]
    | tup e=>unfold kR;simp only[e,k1 _ _ q e]
    | dK e=>unfold kR;simp only[e,k1 _ _ q e]
    | dT e=>unfold kR;simp only[e,k1 _ _ q e]
 | _=>rfl
theorem A6 {H:Hp}{t:Addr}{ys:List V}:kR H (.ref t)=some ys↔H t=some (.tup ys):=by
 unfold kR
 cases h:H t with
 | none=>simp[h]
 | some o=>cases o <;> simp[h]
theorem kI.Lf {L:Addr}{H H':Hp}{K:W.Frag}{v:V} (k:kI L H H') (h:m9 K H v):m9 K H' v:=by
 refine⟨k.k1 h.1,fun t ys e e2=>?_⟩
 subst e
 have e3:=(xN k h.1).symm.trans (A6.mpr e2)
 obtain⟨h1,h2⟩:=h.2 t ys rfl (A6.mp e3)
 exact⟨h1,fun y hy=>k.k1 (h2 y hy)⟩
theorem kI.je {L:Addr}{H H':Hp}{K:W.Frag}{v:V} (k:kI L H H') (h:K1 K H v):je H' v=je H v:=by
 unfold My.je;rw[xN k h]
theorem kI.lx {L:Addr}{H H':Hp}{K:W.Frag}{v:V} (k:kI L H H') (h:xM K H v) (n:v≠.ref L):lx H' v=lx H v:=by
 rcases h with ⟨l,xs,rfl,hl,_,_⟩ | ⟨ty,hty,_,hn⟩
 ·rw[cK hl,cK (k.1 _ _ (fun q=>n (by rw[q])) hl)]
 ·unfold My.lx
  have e:jI H' v=none:=by
   cases hty with
   | lst e=>unfold jI at hn;simp only[e] at hn;cases hn
   | @ou a _ _ e=>have e:=k.1 _ _ (fun q=>n (by rw[q])) e;unfold jI;simp only[e]
   | tup e=>have e:=k.1 _ _ (fun q=>n (by rw[q])) e;unfold jI;simp only[e]
   | dK e=>have e:=k.1 _ _ (fun q=>n (by rw[q])) e;unfold jI;simp only[e]
   | dT e=>have e:=k.1 _ _ (fun q=>n (by rw[q])) e;unfold jI;simp only[e]
   | ins e=>have e:=k.1 _ _ (fun q=>n (by rw[q])) e;unfold jI;simp only[e]
   | _=>rfl
  rw[hn,e]
theorem kI.lk {L:Addr}{H H':Hp}{K:W.Frag}{v:V} (k:kI L H H') (h:xM K H v) (n:v≠.ref L):xM K H' v:=by
 have hx:=k.lx h n
 rcases h with ⟨l,xs,rfl,hl,hc,hm⟩ | ⟨ty,hty,ht,hn⟩
 ·exact .inl ⟨l,xs,rfl,k.1 _ _ (fun q=>n (by rw[q])) hl,fun x hx=>k.Lf (hc x hx),hm⟩
 ·refine .inr ⟨ty,k.ty hty,ht,?_⟩
  cases hty with
  | lst e=>unfold jI at hn;simp only[e] at hn;cases hn
  | @ou a _ _ e=>have e:=k.1 _ _ (fun q=>n (by rw[q])) e;unfold jI;simp only[e]
  | tup e=>have e:=k.1 _ _ (fun q=>n (by rw[q])) e;unfold jI;simp only[e]
  | dK e=>have e:=k.1 _ _ (fun q=>n (by rw[q])) e;unfold jI;simp only[e]
  | dT e=>have e:=k.1 _ _ (fun q=>n (by rw[q])) e;unfold jI;simp only[e]
  | ins e=>have e:=k.1 _ _ (fun q=>n (by rw[q])) e;unfold jI;simp only[e]
  | _=>rfl
def BE (H:Hp) (i:Nat) (v:V):Prop:=mR H v=false∨∃ x∈lx H v,Le (i:Int) H x
theorem Lg {K:W.Frag}{H:Hp}{v x:V} (h:xM K H v) (hx:x∈lx H v):m9 K H x:=by
 rcases h with ⟨l,xs,rfl,hl,hc,hm⟩ | ⟨ty,hty,ht,hn⟩
 ·rw[cK hl] at hx;exact hc x hx
 ·unfold lx at hx;rw[hn] at hx;cases hx
theorem kI.bad {L:Addr}{H H':Hp}{K:W.Frag}{v:V}{i:Nat} (k:kI L H H') (h:xM K H v) (n:v≠.ref L) (b:BE H i v):BE H' i v:=by
 have hx:=k.lx h n
 rcases b with b | ⟨x,hm,b1,b2,b3,b4⟩
 ·left;unfold mR at b ⊢;rw[hx];exact b
 ·exact .inr ⟨x,by rw[hx];exact hm,b1,b2,b3,fun e=>by rw[k.je (Lg h hm).1];exact b4 e⟩
theorem xO {H:Hp}{v1 v2 v3 v4 v:V}{i:Nat} (hi:[v1,v2,v3,v4][i]? = some v) (hb:BE H i v):jy H v1 v2 v3 v4=0:=by
 unfold jy
 cases hA:[v1,v2,v3,v4].all (mR H) with
 | false=>rfl
 | true =>
  rcases hb with hb | ⟨x,hx,b0,b1,b2,b3⟩
  ·have:=List.all_eq_true.mp hA v (List.mem_of_getElem? hi)
   rw[hb] at this;cases this
  have fl:∀{xs:List V}{f:V→Bool},x∈xs→f x=false→xs.all f=false:=fun hm hf=>by
   rw[Bool.eq_false_iff];intro h
   have:=List.all_eq_true.mp h x hm
   rw[hf] at this;cases this
  have hg':uK H v1 v2 v3 v4=false:=by
   unfold uK
   match i,hi with
   | 0,hi=>cases hi;rw[fl hx (b0 rfl)];rfl
   | 1,hi=>cases hi;rw[fl hx (b1 rfl)];simp
   | 2,hi=>cases hi;rw[fl hx (b2 rfl)];simp
   | 3,hi=>cases hi;rw[fl hx (b3 rfl)];simp
  rw[hg'];rfl
def Gx (v:V):Prop:=qj v=true∨∃ a,v=.ref a
theorem xP {K:W.Frag}{H:Hp}{v:V}{n:Nat} (h:Gx v):kH K H n v v:=by
 rcases h with h | ⟨a,rfl⟩
 ·refine .flat h h ?_
  cases v <;> first | rfl | (simp[JF];done) | cases h
 ·exact .ref
theorem Ek {K:W.Frag}{H:Hp}{v:V} (h:K1 K H v):Gx v:=by
 rcases h with ⟨z,rfl,_⟩ | ⟨n,ty,hn⟩
 ·exact .inl rfl
 ·cases ty <;> first | exact .inl rfl | exact .inr ⟨_,rfl⟩ | simp at hn
def A7 (K:W.Frag) (H:Hp) (L:Addr) (vs:List V) (b:Bool):Prop:=vs.length=4∧(∀ v∈vs,xM K H v∧v≠.ref L)∧(b=true→∃ i v,vs[i]? = some v∧BE H i v)∧∀ v∈vs,Gx v
theorem A7.dw {K:W.Frag}{H H':Hp}{L:Addr}{vs:List V}{b:Bool} (k:kI L H H') (h:A7 K H L vs b):A7 K H' L vs b:=⟨h.1,fun v hv=>⟨k.lk (h.2.1 v hv).1 (h.2.1 v hv).2,(h.2.1 v hv).2⟩,fun e=>let ⟨i,v,e1,e2⟩:=h.2.2.1 e;⟨i,v,e1,k.bad (h.2.1 v (List.mem_of_getElem? e1)).1 (h.2.1 v (List.mem_of_getElem? e1)).2 e2⟩,h.2.2.2⟩
theorem A7.set {K:W.Frag}{H:Hp}{L:Addr}{vs ws:List V}{b c:Bool}{j:Nat}{v:V} (hL:H L=some (.lst ws)) (h:A7 K H L vs b) (hj:j < 4) (lk:xM K H v) (n:v≠.ref L) (hb:c=true→BE H j v) (sl:Gx v):A7 K (upd H L (.lst (vs.set j v))) L (vs.set j v) c:=by
 refine A7.dw (kI.set hL) ⟨by rw[List.length_set];exact h.1,fun w hw=>?_,fun e=>⟨j,v,?_,hb e⟩,fun w hw=>?_⟩
 rotate_right
 ·rcases List.mem_or_eq_of_mem_set hw with q | rfl
  ·exact h.2.2.2 w q
  ·exact sl
 ·rcases List.mem_or_eq_of_mem_set hw with q | rfl
  ·exact h.2.1 w q
  ·exact⟨lk,n⟩
 ·rw[List.getElem?_set_self (by rw[h.1];exact hj)]
theorem El {x:V}{xs:List V}{lo hi:Option Int} (h:x∈cR xs lo hi):x∈xs:=List.mem_of_mem_drop (List.mem_of_mem_take h)
theorem se {K:W.Frag}{H:Hp}{v:V}{n:String} (ty:gI K H v (.type n)) (hk:W.kitOne K (.type n) (.type "list")=some false) (hn:n ≠ "list"):xM K H v∧mR H v=false:=by
 have e:jI H v=none:=by
  cases ty with
  | lst e=>exact absurd rfl hn
  | ou e=>exact absurd rfl hn
  | tup e=>unfold jI;simp only[e]
  | dK e=>unfold jI;simp only[e]
  | dT e=>unfold jI;simp only[e]
  | _=>rfl
 exact⟨.inr ⟨_,ty,hk,e⟩,by unfold mR lx;rw[e];rfl⟩
def mS (K:W.Frag) (H:Hp) (a:Addr) (xs:List V):Prop:=H a=some (.lst xs)∧xs.length≤10∧∀ x∈xs,m9 K H x
theorem mS.lk {K:W.Frag}{H:Hp}{a:Addr}{xs:List V} (h:mS K H a xs):xM K H (.ref a):=.inl ⟨a,xs,rfl,h.1,h.2.2,by have:=h.2.1;omega⟩
theorem mS.mono {K:W.Frag}{H H':Hp}{a:Addr}{xs:List V} (s:aE H H') (h:mS K H a xs):mS K H' a xs:=⟨s _ _ h.1,h.2.1,fun x hx=>(kI.same s h.1).Lf (h.2.2 x hx)⟩
theorem mS.dw {K:W.Frag}{H H':Hp}{L a:Addr}{xs:List V} (k:kI L H H') (n:a≠L) (h:mS K H a xs):mS K H' a xs:=⟨k.1 _ _ n h.1,h.2.1,fun x hx=>k.Lf (h.2.2 x hx)⟩
theorem xQ {H:Hp}{b1 b2 b3 b4:Addr}{w1 w2 w3 w4:List V} (e1:H b1=some (.lst w1)) (e2:H b2=some (.lst w2)) (e3:H b3=some (.lst w3)) (e4:H b4=some (.lst w4)) (p1:0 < w1.length) (p2:0 < w2.length) (p3:0 < w3.length) (p4:0 < w4.length) (g1:w1.all (fun x=>bM x 1 3)=true) (g2:w2.all (fun x=>bM x 0 2)=true) (g3:w3.all (fun x=>bM x 0 2)=true) (g4:w4.all (je H)=true):jy H (.ref b1) (.ref b2) (.ref b3) (.ref b4)=if 24 < w1.length * w2.length * w3.length * w4.length then 1 else 2:=by
 have q1:mR H (.ref b1)=true:=by unfold mR;rw[cK e1];exact decide_eq_true p1
 have q2:mR H (.ref b2)=true:=by unfold mR;rw[cK e2];exact decide_eq_true p2
 have q3:mR H (.ref b3)=true:=by unfold mR;rw[cK e3];exact decide_eq_true p3
 have q4:mR H (.ref b4)=true:=by unfold mR;rw[cK e4];exact decide_eq_true p4
 unfold jy uK
 rw[cK e1,cK e2,cK e3,cK e4,g1,g2,g3,g4]
 simp only[List.all_cons,List.all_nil,q1,q2,q3,q4]
 rfl
theorem rD {α:Type}{f:α→Bool}{n:Nat}{h:α} (e:f h=true):(List.replicate n h).all f=true:=List.all_eq_true.mpr fun x hx=>by rw[List.eq_of_mem_replicate hx];exact e
theorem A8 {K:W.Frag}{H:Hp}{b1 b2 b3 b4:Addr}{h1 h2 h3 h4:V}{n1 n2 n3 n4:Nat} (e1:H b1=some (.lst (List.replicate n1 h1))) (e2:H b2=some (.lst (List.replicate n2 h2))) (e3:H b3=some (.lst (List.replicate n3 h3))) (e4:H b4=some (.lst (List.replicate n4 h4))) (p1:0 < n1∧n1≤25) (p2:0 < n2∧n2≤25) (p3:0 < n3∧n3≤25) (p4:0 < n4∧n4≤25) (c1:m9 K H h1) (c2:m9 K H h2) (c3:m9 K H h3) (c4:m9 K H h4) (g1:bM h1 1 3=true) (g2:bM h2 0 2=true) (g3:bM h3 0 2=true) (g4:je H h4=true):(∀ v∈[V.ref b1,.ref b2,.ref b3,.ref b4],xM K H v)∧jy H (.ref b1) (.ref b2) (.ref b3) (.ref b4)=(if 24 < n1 * n2 * n3 * n4 then 1 else 2)∧(lx H (.ref b1)).length * (lx H (.ref b2)).length * (lx H (.ref b3)).length * (lx H (.ref b4)).length=n1 * n2 * n3 * n4:=by
 have lk:∀{b:Addr}{n:Nat}{h:V},H b=some (.lst (List.replicate n h))→n≤25→m9 K H h→xM K H (.ref b):=fun e hn hc=>.inl ⟨_,_,rfl,e,fun x hx=>by rw[List.eq_of_mem_replicate hx];exact hc,by rw[List.length_replicate];omega⟩
 refine⟨fun v hv=>?_,?_,?_⟩
 ·simp only[List.mem_cons,List.not_mem_nil,or_false] at hv
  rcases hv with rfl | rfl | rfl | rfl
  ·exact lk e1 p1.2 c1
  ·exact lk e2 p2.2 c2
  ·exact lk e3 p3.2 c3
  ·exact lk e4 p4.2 c4
 ·have:=xQ e1 e2 e3 e4 (by rw[List.length_replicate];exact p1.1) (by rw[List.length_replicate];exact p2.1) (by rw[List.length_replicate];exact p3.1) (by rw[List.length_replicate];exact p4.1) (rD g1) (rD g2) (rD g3) (rD g4)
  simp only[List.length_replicate] at this
  exact this
 ·rw[cK e1,cK e2,cK e3,cK e4];simp only[List.length_replicate]
theorem Lh (h:V) (r:List V):cR (h :: r) none (some 1)=[h]:=by
 unfold cR
 have e1:HT.gh (h :: r).length 0 none=0:=rfl
 have e2:HT.gh (h :: r).length (h :: r).length (some 1)=1:=by
  rw[List.length_cons];unfold HT.gh;simp
 rw[e1,e2];rfl
def vq (H J:Hp) (D:Addr) (y h:V):Prop:=∃ a,y=.ref a∧a≠D∧H a=none∧J a=some (.lst [h])
theorem vq.mono {H J J':Hp}{D:Addr}{y h:V} (s:aE J J') (q:vq H J D y h):vq H J' D y h:=let ⟨a,e,n,f,w⟩:=q;⟨a,e,n,f,s _ _ w⟩
theorem vq.set {H J:Hp}{D:Addr}{y h:V}{o:HO} (q:vq H J D y h):vq H (upd J D o) D y h:=let ⟨a,e,n,f,w⟩:=q;⟨a,e,n,f,(aC n).trans w⟩
def A9 (E:Addr) (J:Hp) (y e:V):Prop:=∃ a b xs,y=.ref a∧e=.ref b∧J a=some (.lst xs)∧J b=some (.lst xs)∧a≠E∧b≠E∧∀ x∈xs,Gx x
theorem A9.mono {E:Addr}{J J':Hp}{y e:V} (s:aE J J') (h:A9 E J y e):A9 E J' y e:=let ⟨a,b,xs,e1,e2,e3,e4,e5⟩:=h;⟨a,b,xs,e1,e2,s _ _ e3,s _ _ e4,e5⟩
theorem A9.set {E:Addr}{J:Hp}{y e:V}{o:HO} (h:A9 E J y e):A9 E (upd J E o) y e:=let ⟨a,b,xs,e1,e2,e3,e4,e5,e6,e7⟩:=h;⟨a,b,xs,e1,e2,(aC e5).trans e3,(aC e6).trans e4,e5,e6,e7⟩
theorem A9.same {K:W.Frag}{E:Addr}{J:Hp}{y e:V} (h:A9 E J y e):kH K J 3 e y:=by
 obtain⟨a,b,xs,rfl,rfl,e3,e4,_,_,e7⟩:=h
 exact .lst (aS.of e4) (aS.of e3) rfl fun j x y ex ey=>by
  rw[ex] at ey;cases ey
  exact xP (e7 x (List.mem_of_getElem? ex))
theorem lA {α β:Type}{R:α→β→Prop}:∀{xs:List α}{ys:List β},Paired R xs ys→∀{j:Nat}{x:α}{y:β},xs[j]? = some x→ys[j]? = some y→R x y
 | _,_,.cons h t,0,_,_,e1,e2=>by cases e1;cases e2;exact h
 | _,_,.cons h t,j+1,_,_,e1,e2=>lA t (j:=j) e1 e2
theorem zj {K:W.Frag}{H:Hp}{l1 l2 l3 l4:Addr}{ps qs fs:List Str}{ts:List V}{bs:List B4} (e1:H l1=some (.lst (ps.map V.str))) (e2:H l2=some (.lst (qs.map V.str))) (e3:H l3=some (.lst (fs.map V.str))) (e4:H l4=some (.lst ts)) (tr:zf H ts bs) (n1:ps.length=2) (n2:qs.length=4) (n3:fs.length=1) (n4:bs.length=3) (fm:Ny ps qs fs bs):∃ x1 x2 x3 x4:List V,mS K H l1 x1∧mS K H l2 x2∧mS K H l3 x3∧mS K H l4 x4∧x1.length=2∧x2.length=4∧x3.length=1∧x4.length=3∧x1.all (fun x=>bM x 1 3)=true∧x2.all (fun x=>bM x 0 2)=true∧x3.all (fun x=>bM x 0 2)=true∧x4.all (je H)=true:=by
 have ch:∀{zs:List Str},(∀ z∈zs,z.length≤3)→∀ x∈zs.map V.str,m9 K H x:=fun h x hx=>by
  obtain⟨z,hz,rfl⟩:=List.mem_map.mp hx
  exact fB rfl fun z' e=>by cases e;have:=h z hz;omega
 have tl:=tr.length
 have ta:∀{ts:List V}{bs:List B4},zf H ts bs→(∀ x∈ts,m9 K H x)∧ts.all (je H)=true:=by
  intro ts bs tr
  induction tr with
  | nil=>exact⟨fun _ z=>(nomatch z),rfl⟩
  | cons h t ih =>
   obtain⟨t,rfl,ht⟩:=h
   refine⟨fun x hx=>?_,?_⟩
   ·rcases List.mem_cons.mp hx with rfl | hx
    ·refine vp ht (by show(4:Nat)≤100;decide) fun y hy=>?_
     have hy':y∈[V.bl _,.bl _,.bl _,.bl _]:=hy
     simp only[List.mem_cons,List.not_mem_nil,or_false] at hy'
     rcases hy' with rfl | rfl | rfl | rfl <;> exact xK
    ·exact ih.1 x hx
   ·rw[List.all_cons,mE ht,ih.2];rfl
 refine⟨_,_,_,_,⟨e1,by rw[List.length_map];omega,ch fun z hz=>(fm.gp z hz).2.2⟩,⟨e2,by rw[List.length_map];omega,ch fun z hz=>by have:=(fm.gq z hz).2;omega⟩,⟨e3,by rw[List.length_map];omega,ch fun z hz=>by have:=(fm.gf z hz).2;omega⟩,⟨e4,by omega,(ta tr).1⟩,by rw[List.length_map];exact n1,by rw[List.length_map];exact n2,by rw[List.length_map];exact n3,by omega,?_,?_,?_,(ta tr).2⟩
 ·rw[List.all_map];exact List.all_eq_true.mpr fun z hz=>uH (fm.gp z hz).1 (fm.gp z hz).2.1 (fm.gp z hz).2.2
 ·rw[List.all_map];exact List.all_eq_true.mpr fun z hz=>uH (fm.gq z hz).1 (Nat.zero_le _) (fm.gq z hz).2
 ·rw[List.all_map];exact List.all_eq_true.mpr fun z hz=>uH (fm.gf z hz).1 (Nat.zero_le _) (fm.gf z hz).2
theorem sf {K:W.Frag}{H:Hp}{b1 b2 b3 b4:Addr}{w1 w2 w3 w4:List V} (e1:mS K H b1 w1) (e2:mS K H b2 w2) (e3:mS K H b3 w3) (e4:mS K H b4 w4) (p1:0 < w1.length) (p2:0 < w2.length) (p3:0 < w3.length) (p4:0 < w4.length) (g1:w1.all (fun x=>bM x 1 3)=true) (g2:w2.all (fun x=>bM x 0 2)=true) (g3:w3.all (fun x=>bM x 0 2)=true) (g4:w4.all (je H)=true):(∀ v∈[V.ref b1,.ref b2,.ref b3,.ref b4],xM K H v)∧jy H (.ref b1) (.ref b2) (.ref b3) (.ref b4)=(if 24 < w1.length * w2.length * w3.length * w4.length then 1 else 2)∧(lx H (.ref b1)).length * (lx H (.ref b2)).length * (lx H (.ref b3)).length * (lx H (.ref b4)).length=w1.length * w2.length * w3.length * w4.length:=by
 refine⟨fun v hv=>?_,xQ e1.1 e2.1 e3.1 e4.1 p1 p2 p3 p4 g1 g2 g3 g4,by rw[cK e1.1,cK e2.1,cK e3.1,cK e4.1]⟩
 simp only[List.mem_cons,List.not_mem_nil,or_false] at hv
 rcases hv with rfl | rfl | rfl | rfl
 ·exact e1.lk
 ·exact e2.lk
 ·exact e3.lk
 ·exact e4.lk
theorem oJ {K:W.Frag}{H H':Hp}{xs:List V} (s:aE H H') (h:∀ x∈xs,m9 K H x) (g:xs.all (je H)=true):xs.all (je H')=true:=List.all_eq_true.mpr fun x hx=>(oH s (h x hx).1).trans (List.all_eq_true.mp g x hx)
def BF (E:Addr) (J:Hp) (y e:V):Prop:=A9 E J y e∨(y=e∧Gx e)
theorem BF.mono {E:Addr}{J J':Hp}{y e:V} (s:aE J J') (h:BF E J y e):BF E J' y e:=h.imp (A9.mono s) id
theorem BF.set {E:Addr}{J:Hp}{y e:V}{o:HO} (h:BF E J y e):BF E (upd J E o) y e:=h.imp A9.set id
theorem BF.same {K:W.Frag}{E:Addr}{J:Hp}{y e:V} (h:BF E J y e):kH K J 3 e y:=by
 rcases h with h | ⟨rfl,h⟩
 ·exact h.same
 ·exact xP h
def Gy (K:W.Frag) (M:Addr) (J:Hp) (y:V) (x:List V):Prop:=∃ a,y=.ref a∧a≠M∧mS K J a x
theorem Gy.mono {K:W.Frag}{M:Addr}{J J':Hp}{y:V}{x:List V} (s:aE J J') (h:Gy K M J y x):Gy K M J' y x:=let ⟨a,e,n,q⟩:=h;⟨a,e,n,q.mono s⟩
theorem Gy.set {K:W.Frag}{M:Addr}{J:Hp}{y:V}{x ws zs:List V} (hM:J M=some (.lst ws)) (h:Gy K M J y x):Gy K M (upd J M (.lst zs)) y x:=let ⟨a,e,n,q⟩:=h;⟨a,e,n,q.dw (kI.set hM) n⟩
theorem rE {K:W.Frag}{H:Hp}{a b:Addr}{h:V}{r:List V} (g:mS K H a (h :: r)) (hb:H b=some (.lst ((h :: r)++[h]))) (hl:(h :: r).length < 10):mS K H b ((h :: r)++[h]):=⟨hb,by rw[List.length_append];show(h :: r).length+1≤10;omega,fun x hx=>by
 rcases List.mem_append.mp hx with q | q
 ·exact g.2.2 x q
 ·rw[List.mem_singleton.mp q];exact g.2.2 h (List.mem_cons_self ..)⟩
theorem oK {f:V→Bool}{h:V}{r:List V} (g:(h :: r).all f=true):((h :: r)++[h]).all f=true:=by
 rw[List.all_append,g,List.all_cons]
 rw[List.all_cons,Bool.and_eq_true] at g
 rw[g.1];rfl
theorem kJ:aT ["sign", "number"] ["sign"] (av cJ):=⟨rfl,rfl,rfl,by decide +kernel,rfl,by decide +kernel,by decide +kernel⟩
theorem mT:aT ["thing", "least", "most"] ["thing", "least", "most"] (av bC):=⟨rfl,rfl,rfl,by decide +kernel,rfl,by decide +kernel,by decide +kernel⟩
theorem iw:aT ["self", "parts", "quotes", "frees", "twin", "wide", "thin", "stray", "truth"] ["self", "parts", "quotes", "frees", "twin", "wide", "thin", "stray"] (av aU):=⟨rfl,rfl,rfl,by decide +kernel,rfl,by decide +kernel,by decide +kernel⟩
theorem mU:aT ["self", "most"] ["self", "most"] (av bS):=⟨rfl,rfl,rfl,by decide +kernel,rfl,by decide +kernel,by decide +kernel⟩
theorem tH:aT ["told"] ["told"] (av fj):=⟨rfl,rfl,rfl,by decide +kernel,rfl,by decide +kernel,by decide +kernel⟩
theorem pV:aT ["told"] ["told"] (av cS):=⟨rfl,rfl,rfl,by decide +kernel,rfl,by decide +kernel,by decide +kernel⟩
theorem kT:aT ["thing"] ["thing"] (av bH):=⟨rfl,rfl,rfl,by decide +kernel,rfl,by decide +kernel,by decide +kernel⟩
theorem iy:aT ["parts", "quotes", "frees", "truths", "plain"] ["parts", "quotes", "frees", "truths"] (av aQ):=⟨rfl,rfl,rfl,by decide +kernel,rfl,by decide +kernel,by decide +kernel⟩
theorem iP:aT ["parts", "quotes", "frees", "truths", "dialects", "some_parts", "some_quotes", "some_frees", "some_truths"] ["parts", "quotes", "frees", "truths"] (av jG):=⟨rfl,rfl,rfl,by decide +kernel,rfl,by decide +kernel,by decide +kernel⟩
theorem qF:aT ["_law_script", "_law_k"] ["_law_script", "_law_k"] (av dF):=⟨rfl,rfl,rfl,by decide +kernel,rfl,by decide +kernel,by decide +kernel⟩
theorem jz:aT ["_law_number_here", "_law_salt", "_law_one", "_law_two"] ["_law_number_here", "_law_salt"] (av fk):=⟨rfl,rfl,rfl,by decide +kernel,rfl,by decide +kernel,by decide +kernel⟩
theorem iX:aT ["_law_cell", "_law_salt", "_law_number_here", "_law_high"] ["_law_cell", "_law_salt"] (av d7):=⟨rfl,rfl,rfl,by decide +kernel,rfl,by decide +kernel,by decide +kernel⟩
theorem dU:aT ["_law_number_here", "_law_many", "_law_menu", "_law_found", "_law_k", "_law_sign"] ["_law_number_here", "_law_many", "_law_menu"] (av gO):=⟨rfl,rfl,rfl,by decide +kernel,rfl,by decide +kernel,by decide +kernel⟩
theorem nc:aT ["_law_way", "_law_every"] ["_law_way"] (av fu):=⟨rfl,rfl,rfl,by decide +kernel,rfl,by decide +kernel,by decide +kernel⟩
theorem bg:aT ["_law_cell", "_law_number_here", "_law_flags_here", "_law_sizes", "_law_menus_here", "_law_parts", "_law_quotes", "_law_frees", "_law_truths"] ["_law_cell"] (av gP):=⟨rfl,rfl,rfl,by decide +kernel,rfl,by decide +kernel,by decide +kernel⟩
theorem cZ:aT ["_law_cell", "_law_many", "_law_number_here", "_law_found", "_law_k"] ["_law_cell", "_law_many"] (av dS):=⟨rfl,rfl,rfl,by decide +kernel,rfl,by decide +kernel,by decide +kernel⟩
theorem jA:aT ["_law_e", "_law_flags_here"] ["_law_e"] (av fz):=⟨rfl,rfl,rfl,by decide +kernel,rfl,by decide +kernel,by decide +kernel⟩
theorem kj:aT ["_law_cell", "_law_tolds", "_law_truths"] ["_law_cell"] (av cu):=⟨rfl,rfl,rfl,by decide +kernel,rfl,by decide +kernel,by decide +kernel⟩
theorem cy:aT ["_law_place", "_law_x", "_law_cell", "_law_truths", "_law_some_here"] ["_law_place", "_law_x", "_law_cell"] (av bK):=⟨rfl,rfl,rfl,by decide +kernel,rfl,by decide +kernel,by decide +kernel⟩
theorem dH:aT ["_law_good_here", "_law_xs", "_law_cell", "_law_some_here", "_law_k", "_law_place", "_law_at"] ["_law_good_here", "_law_xs", "_law_cell"] (av cY):=⟨rfl,rfl,rfl,by decide +kernel,rfl,by decide +kernel,by decide +kernel⟩
theorem gW:aT ["_law_some_here", "_law_e"] ["_law_some_here"] (av bT):=⟨rfl,rfl,rfl,by decide +kernel,rfl,by decide +kernel,by decide +kernel⟩
theorem ko:aT ["_law_good_here", "_law_place", "_law_few", "_law_kept"] ["_law_good_here", "_law_place"] (av dG):=⟨rfl,rfl,rfl,by decide +kernel,rfl,by decide +kernel,by decide +kernel⟩
theorem lB:aT ["_law_script", "_law_cell", "_law_xs", "_law_good_here", "_law_wrong", "_law_kept", "_law_more", "_law_place"] ["_law_script"] (av m8):=⟨rfl,rfl,rfl,by decide +kernel,rfl,by decide +kernel,by decide +kernel⟩
structure Txt (K:W.Frag) (mg:Str→Option Value) (ay:Nat→Addr) (bI:Nat→FuncData) (Pa:Nat→Str):Prop where
 lC:jw K "is_printable" "is_printable" cJ (ay 0) (bI 0)
 sj:Binds K (bI 0) ["sign"] []
 sq:mg "is_printable" = some (.ref (ay 0))
 cO:jw K "are_unlike_signs" "are_unlike_signs" bC (ay 1) (bI 1)
 ez:Binds K (bI 1) ["thing", "least", "most"] []
 eB:mg "are_unlike_signs" = some (.ref (ay 1))
 nL:FQ K "__init__" "Dialect.__init__" aU (ay 2) (bI 2) (.ref (ay 52))
 nM:Binds K (bI 2) ["self", "parts", "quotes", "frees", "twin", "wide", "thin", "stray"] []
 xR:jw K "__init__" "NoWriting.__init__" ck (ay 3) (bI 3)
 xS:Binds K (bI 3) ["self", "row", "cell"] []
 Ba:jw K "__init__" "Broken.__init__" dj (ay 4) (bI 4)
 Bb:Binds K (bI 4) ["self", "row", "place", "word"] []
 nN:jw K "__init__" "TooMany.__init__" bS (ay 5) (bI 5)
 nO:Binds K (bI 5) ["self", "most"] []
 Bc:jw K "__init__" "NoName.__init__" dm (ay 6) (bI 6)
 Bd:Binds K (bI 6) ["self", "name"] []
 Em:jw K "told" "Dialect.told" fh (ay 7) (bI 7)
 En:Binds K (bI 7) ["self"] []
 Eo:Meth K (ay 27) "told" (ay 7)
 kq:jw K "dialect_of" "dialect_of" fj (ay 8) (bI 8)
 oM:Binds K (bI 8) ["told"] []
 oN:mg "dialect_of" = some (.ref (ay 8))
 cT:jw K "makes_dialect" "makes_dialect" cS (ay 9) (bI 9)
 d8:Binds K (bI 9) ["told"] []
 d9:mg "makes_dialect" = some (.ref (ay 9))
 gS:jw K "is_list_of_choices" "is_list_of_choices" bH (ay 10) (bI 10)
 lD:Binds K (bI 10) ["thing"] []
 lE:mg "is_list_of_choices" = some (.ref (ay 10))
 iY:jw K "are_good_choices" "are_good_choices" aQ (ay 11) (bI 11)
 nP:Binds K (bI 11) ["parts", "quotes", "frees", "truths"] []
 nQ:mg "are_good_choices" = some (.ref (ay 11))
 oO:jw K "family" "family" jG (ay 12) (bI 12)
 sr:Binds K (bI 12) ["parts", "quotes", "frees", "truths"] []
 su:mg "family" = some (.ref (ay 12))
 lF:jw K "_law_cell_at" "_law_cell_at" dF (ay 13) (bI 13)
 sy:Binds K (bI 13) ["_law_script", "_law_k"] []
 sA:mg "_law_cell_at" = some (.ref (ay 13))
 fD:jw K "_law_mixed" "_law_mixed" fk (ay 14) (bI 14)
 iG:Binds K (bI 14) ["_law_number_here", "_law_salt"] []
 iH:mg "_law_mixed" = some (.ref (ay 14))
 ng:jw K "_law_number" "_law_number" d7 (ay 15) (bI 15)
 tK:Binds K (bI 15) ["_law_cell", "_law_salt"] []
 tL:mg "_law_number" = some (.ref (ay 15))
 jl:jw K "_law_some" "_law_some" gO (ay 16) (bI 16)
 lG:Binds K (bI 16) ["_law_number_here", "_law_many", "_law_menu"] []
 lH:mg "_law_some" = some (.ref (ay 16))
 oQ:jw K "_law_menus" "_law_menus" fu (ay 17) (bI 17)
 vt:Binds K (bI 17) ["_law_way"] []
 vv:mg "_law_menus" = some (.ref (ay 17))
 qu:jw K "_law_told" "_law_told" gP (ay 18) (bI 18)
 xT:Binds K (bI 18) ["_law_cell"] []
 xU:mg "_law_told" = some (.ref (ay 18))
 oR:jw K "_law_drawn" "_law_drawn" dS (ay 19) (bI 19)
 vz:Binds K (bI 19) ["_law_cell", "_law_many"] []
 vA:mg "_law_drawn" = some (.ref (ay 19))
 kr:jw K "_law_flags" "_law_flags" fz (ay 20) (bI 20)
 oS:Binds K (bI 20) ["_law_e"] []
 oU:mg "_law_flags" = some (.ref (ay 20))
 qv:jw K "_law_good" "_law_good" cu (ay 21) (bI 21)
 xV:Binds K (bI 21) ["_law_cell"] []
 xW:mg "_law_good" = some (.ref (ay 21))
 iz:jw K "_law_wrong_choice" "_law_wrong_choice" bK (ay 22) (bI 22)
 mV:Binds K (bI 22) ["_law_place", "_law_x", "_law_cell"] []
 mW:mg "_law_wrong_choice" = some (.ref (ay 22))
 nh:jw K "_law_spoilt" "_law_spoilt" cY (ay 23) (bI 23)
 tM:Binds K (bI 23) ["_law_good_here", "_law_xs", "_law_cell"] []
 tN:mg "_law_spoilt" = some (.ref (ay 23))
 dI:jw K "_law_refusal" "_law_refusal" bT (ay 24) (bI 24)
 fE:Binds K (bI 24) ["_law_some_here"] []
 fF:mg "_law_refusal" = some (.ref (ay 24))
 qw:jw K "_law_edge" "_law_edge" dG (ay 25) (bI 25)
 xX:Binds K (bI 25) ["_law_good_here", "_law_place"] []
 xY:mg "_law_edge" = some (.ref (ay 25))
 Li:jw K "law" "law" m8 (ay 26) (bI 26)
 RC:Binds K (bI 26) ["_law_script"] []
 RD:mg "law" = some (.ref (ay 26))
 eF:JD K (ay 27)
 BG:mg "Dialect" = some (.ref (ay 27))
 BH:Mk K (ay 27) (ay 2)
 gX:iR K (ay 27) "parts"
 gu:iR K (ay 27) "quotes"
 gY:iR K (ay 27) "frees"
 iZ:iR K (ay 27) "twin"
 i0:iR K (ay 27) "wide"
 i6:iR K (ay 27) "thin"
 gZ:iR K (ay 27) "stray"
 lI:mg "DialectError" = some (.ref (ay 28))
 aF:bR K (ay 28) (ay 29) e9 none
 qG:Rt K (ay 28)
 Ep:mg "NoText" = some (.ref (ay 30))
 Lj:bR K (ay 30) (ay 31) (.ref (ay 28) :: e9) none
 BI:mg "NoTable" = some (.ref (ay 32))
 JK:bR K (ay 32) (ay 33) (.ref (ay 28) :: e9) none
 dJ:mg "NoDialect" = some (.ref (ay 34))
 dM:bR K (ay 34) (ay 35) (.ref (ay 28) :: e9) none
 nR:mg "NoFamily" = some (.ref (ay 36))
 gv:bR K (ay 36) (ay 37) (.ref (ay 28) :: e9) none
 Er:mg "NoMost" = some (.ref (ay 38))
 Lk:bR K (ay 38) (ay 39) (.ref (ay 28) :: e9) none
 Gz:mg "NoAsk" = some (.ref (ay 40))
 Nz:bR K (ay 40) (ay 41) (.ref (ay 28) :: e9) none
 GA:mg "NoRow" = some (.ref (ay 42))
 NB:bR K (ay 42) (ay 43) (.ref (ay 28) :: e9) none
 Es:mg "NoName" = some (.ref (ay 44))
 Ll:bR K (ay 44) (ay 45) (.ref (ay 28) :: e9) (some (.ref (ay 6)))
 IP:W.keepIn K (.ref (ay 44))=true
 JL:∃ oI:Obj,K.lookup (ay 6)=some oI∧oI.cls=.type "function"
 Et:C8 K (ay 44) "name"
 pW:mg "TooMany" = some (.ref (ay 46))
 eX:bR K (ay 46) (ay 47) (.ref (ay 28) :: e9) (some (.ref (ay 5)))
 xZ:W.keepIn K (.ref (ay 46))=true
 sC:∃ oI:Obj,K.lookup (ay 5)=some oI∧oI.cls=.type "function"
 kK:C8 K (ay 46) "most"
 Eu:mg "Broken" = some (.ref (ay 48))
 Lm:bR K (ay 48) (ay 49) (.ref (ay 28) :: e9) (some (.ref (ay 4)))
 IQ:W.keepIn K (.ref (ay 48))=true
 JM:∃ oI:Obj,K.lookup (ay 4)=some oI∧oI.cls=.type "function"
 E8:C8 K (ay 48) "row"
 De:C8 K (ay 48) "place"
 Ew:C8 K (ay 48) "word"
 x6:mg "NoWriting" = some (.ref (ay 50))
 Hh:bR K (ay 50) (ay 51) (.ref (ay 28) :: e9) (some (.ref (ay 3)))
 E9:W.keepIn K (.ref (ay 50))=true
 GB:∃ oI:Obj,K.lookup (ay 3)=some oI∧oI.cls=.type "function"
 BJ:C8 K (ay 50) "row"
 Be:C8 K (ay 50) "cell"
 qx:JJ K (ay 36)
 GC:W.keepIn K (.ref (ay 36))=true
 jm:W.kitOne K (.ref (ay 36)) (.type "ValueError")=some true
 bD:W.kitOne K (.ref (ay 36)) (.ref (ay 28))=some true
 eG:W.kitOne K (.ref (ay 36)) (.ref (ay 30))=some false
 dY:W.kitOne K (.ref (ay 36)) (.ref (ay 32))=some false
 dg:W.kitOne K (.ref (ay 36)) (.ref (ay 34))=some false
 cz:W.kitOne K (.ref (ay 36)) (.ref (ay 36))=some true
 eH:W.kitOne K (.ref (ay 36)) (.ref (ay 38))=some false
 fG:W.kitOne K (.ref (ay 36)) (.ref (ay 40))=some false
 fH:W.kitOne K (.ref (ay 36)) (.ref (ay 42))=some false
 eN:W.kitOne K (.ref (ay 36)) (.ref (ay 44))=some false
 bL:W.kitOne K (.ref (ay 36)) (.ref (ay 46))=some false
 eO:W.kitOne K (.ref (ay 36)) (.ref (ay 48))=some false
 dh:W.kitOne K (.ref (ay 36)) (.ref (ay 50))=some false
 sH:JJ K (ay 46)
 ku:W.kitOne K (.ref (ay 46)) (.type "ValueError")=some true
 cL:W.kitOne K (.ref (ay 46)) (.ref (ay 28))=some true
 fJ:W.kitOne K (.ref (ay 46)) (.ref (ay 30))=some false
 eS:W.kitOne K (.ref (ay 46)) (.ref (ay 32))=some false
 dN:W.kitOne K (.ref (ay 46)) (.ref (ay 34))=some false
 dZ:W.kitOne K (.ref (ay 46)) (.ref (ay 36))=some false
 fK:W.kitOne K (.ref (ay 46)) (.ref (ay 38))=some false
 gw:W.kitOne K (.ref (ay 46)) (.ref (ay 40))=some false
 gy:W.kitOne K (.ref (ay 46)) (.ref (ay 42))=some false
 fL:W.kitOne K (.ref (ay 46)) (.ref (ay 44))=some false
 eU:W.kitOne K (.ref (ay 46)) (.ref (ay 46))=some true
 fM:W.kitOne K (.ref (ay 46)) (.ref (ay 48))=some false
 dO:W.kitOne K (.ref (ay 46)) (.ref (ay 50))=some false
 ni:mg "ValueError" = none
 pX:mg "all" = none
 GD:mg "bool" = none
 aG:mg "isinstance" = none
 fN:mg "len" = none
 mF:mg "list" = none
 IS:mg "ord" = none
 i8:mg "range" = none
 IT:mg "str" = none
 lJ:mg "tuple" = none
 jJ:∃ t,mg "MOST_DIALECTS" = some (.int 24 t)
section
variable {P:Program}{w:World}{K:W.Frag}{mg:Str→Option Value}{base:Heap}{ay:Nat→Addr}{bI:Nat→FuncData}{Pa:Nat→Str}
def kL:Sp:=fun vs H Q _=>∃ c:Nat,vs=[.str (sg c)]∧Q (.bl (decide (Pn c))) H
section
variable (T:Txt K mg ay bI Pa)
include T
theorem qH:bf P w K mg base gM 1 (ay 0) (bI 0) ["sign"] kL:=by
 refine T.lC.ok kJ (fun vs H Q E h=>?_) (fun cdv A outer s H vs Q E hr h=>?_)
 ·obtain⟨c,rfl,_⟩:=h;rfl
 ·have hu:=dW hr
  have tu:=hr.bN
  obtain⟨c,rfl,k⟩:=h
  refine⟨_,(au (oF 1 kJ.nd (j3 Dt T.IS (af (pv 0) ao ak)) (hs:=mD))
   (aA (aY (kW (Dd GP (pv 1) aj) (kW (Dd Ko (pv 1) aj) (rM (Dd rP (pv 1) aj))))))),?_⟩
  refine⟨_,rfl,_,rfl,rfl,?_⟩
  refine⟨_,rfl,_,_,rfl,rfl,_,rfl,pR (fun h1=>?_) (fun h1=>?_)⟩
  ·have h1:(32:Int)≤((c:Nat):Int):=of_decide_eq_true h1
   refine⟨_,rfl,_,_,rfl,rfl,_,rfl,pR (fun h2=>?_) (fun h2=>?_)⟩
   ·have h2:((c:Nat):Int)≤126:=of_decide_eq_true h2
    refine⟨_,rfl,rfl,?_⟩
    have e:(!decide (V.int ((c:Nat):Int)=V.int 37))=decide (Pn c):=by
     by_cases h3:c=37
     ·subst h3;decide
     ·have n1:¬(V.int ((c:Nat):Int)=V.int 37):=fun z=>h3 (by injection z with z;omega)
      rw[decide_eq_false n1,decide_eq_true (show Pn c from ⟨by omega,by omega,h3⟩)];rfl
    show Q (.bl (!decide (V.int ((c:Nat):Int)=V.int 37))) H
    rw[e];exact k
   ·have e:decide (((c:Nat):Int)≤126)=decide (Pn c):=by
     have n1:¬((c:Nat):Int)≤126:=fun z=>h2 (decide_eq_true z)
     rw[decide_eq_false n1,decide_eq_false (fun z:Pn c=>n1 (by have:=z.2.1;omega))]
    rw[←e,show decide (((c:Nat):Int)≤126)=false from Bool.eq_false_iff.mpr h2] at k
    exact k
  ·have e:decide ((32:Int)≤((c:Nat):Int))=decide (Pn c):=by
    have n1:¬(32:Int)≤((c:Nat):Int):=fun z=>h1 (decide_eq_true z)
    rw[decide_eq_false n1,decide_eq_false (fun z:Pn c=>n1 (by have:=z.1;omega))]
   rw[←e,show decide ((32:Int)≤((c:Nat):Int))=false from Bool.eq_false_iff.mpr h1] at k
   exact k
def iA (K:W.Frag):Sp:=fun vs H Q _=>∃(v:V) (lo hi:Nat),vs=[v,.int lo,.int hi]∧K1 K H v∧hi≤100∧∀ H',aE H H'→Q (.bl (bM v lo hi)) H'
theorem mX:bf P w K mg base gM 2 (ay 1) (bI 1) ["thing", "least", "most"] (iA K):=by
 have sI:bf P w K mg base gM 1 (ay 0) (bI 0) ["sign"] kL:=qH T
 refine T.cO.ok mT (fun vs H Q E h=>?_) (fun cdv A outer s H vs Q E hr h=>?_)
 ·obtain⟨v,lo,hi,rfl,_⟩:=h;rfl
 ·have hu:=dW hr
  have tu:=hr.bN
  obtain⟨v,lo,hi,rfl,hk,hh,k⟩:=h
  refine⟨_,(au (dz (PW.pt (ow (j5 (gU (j3 (dR K rfl) T.aG (af (pv 0) (af (Hf "str" T.IT) ao ak) ak)))) (ow (rC Dp (j3 iE T.fN (af (pv 0) ao ak)) (pv 1)) (pK (rC Dq (j3 iE T.fN (af (pv 0) ao ak)) (pv 2)))))) (aA (aY ie)) br)
   (aA (aY (j3 (iO K rfl rfl) T.pX (af (iF rfl (show aK ["thing", "least", "most"] (av bC) ["sign", "thing"] 1 [0] _ from wQ) (HV (pv 0)) (fun _ _ _ _=>(mQ 0 (show(["sign", "thing"]:List Str).Nodup by decide +kernel))) (fun _ _ _ _=>bW) (fun _ _ _ _=>(kW (oq sI hr T.sq T.lC.kp T.sj (af (pv 0) ao ak)) (rM (Dd iu (yZ K rfl PySem.F.plainAttrs_str PySem.F.slot_str_count PySem.F.type_str_count DQ (pv 1) (af (pv 0) ao ak)) aj))))) ao cM))))),?_⟩
  rcases hk with ⟨z,rfl,hz⟩ | ⟨n,ty,hn⟩
  rotate_left
  ·have kk:=k H (aE.refl H)
   rw[IF ty hn] at kk
   exact⟨_,rfl,_,_,_,false,rfl,ty,.inl ⟨_,rfl,ID hn⟩,false,rfl,jF kk⟩
  have Hi:z.length≤sizeLine:=Nat.le_trans hz (by decide)
  refine⟨_,rfl,_,_,_,true,rfl,.str _,.inl ⟨_,rfl,rfl⟩,true,rfl,jE ?_⟩
  have bad:¬(lo≤z.length∧z.length≤hi)→Q (.bl false) H:=fun h=>by
   have kk:=k H (aE.refl H)
   rw[show bM (.str z) lo hi=false from decide_eq_false fun q=>h ⟨q.1,q.2.1⟩] at kk
   exact kk
  refine⟨_,rfl,z,rfl,Hi,_,rfl,_,_,rfl,rfl,_,rfl,pR (fun h1=>?_) (fun h1=>?_)⟩
  ·have h1:=of_decide_eq_true h1
   exact bad fun q=>by omega
  have h1:lo≤z.length:=by
   rcases Nat.lt_or_ge z.length lo with q | q
   ·exact absurd (decide_eq_true (show(z.length:Int) < (lo:Int) by omega)) h1
   ·exact q
  refine⟨_,rfl,z,rfl,Hi,_,rfl,_,_,rfl,rfl,_,rfl,pR (fun h2=>?_) (fun h2=>?_)⟩
  ·have h2:=of_decide_eq_true h2
   exact bad fun q=>by omega
  have h2:z.length≤hi:=by
   rcases Nat.lt_or_ge hi z.length with q | q
   ·exact absurd (decide_eq_true (show(hi:Int) < (z.length:Int) by omega)) h2
   ·exact q
  refine⟨_,rfl,z,rfl,fun D hD=>?_⟩
  have hsz:z.cps.toList.length=z.length:=by rw[Array.length_toList];rfl
  refine DN (fun i ys τ H2=>(∃ v,τ=[v,some (.str z)])∧aE H H2∧H2 D=some (.lst ys)∧ys=((z.cps.toList.take i).map (vm z)).map V.bl) ⟨⟨_,rfl⟩,ai hD,ah,rfl⟩ (fun i ys τ H2 _ p=>p.2.2.1) ?_ ?_
  ·rintro i c ys τ H2 hi' ⟨⟨v,rfl⟩,s2,hl,rfl⟩
   have hil:i < z.cps.toList.length:=(List.getElem?_eq_some_iff.mp hi').1
   have hlen:(((z.cps.toList.take i).map (vm z)).map V.bl).length < sizeLine:=by
    rw[List.length_map,List.length_map,List.length_take]
    exact Nat.lt_of_le_of_lt (show min i z.cps.toList.length≤2000 by omega) (by decide)
   have fin:∀ b,b=vm z c→H2 D=some (.lst (((z.cps.toList.take i).map (vm z)).map V.bl))∧(((z.cps.toList.take i).map (vm z)).map V.bl).length < sizeLine∧(∃ v,[some (V.str (sg c)),some (V.str z)]=[v,some (.str z)])∧aE H (upd H2 D (.lst (((z.cps.toList.take i).map (vm z)).map V.bl++[.bl b])))∧(upd H2 D (.lst (((z.cps.toList.take i).map (vm z)).map V.bl++[.bl b]))) D=some (.lst (((z.cps.toList.take i).map (vm z)).map V.bl++[.bl b]))∧((z.cps.toList.take i).map (vm z)).map V.bl++[.bl b]=((z.cps.toList.take (i+1)).map (vm z)).map V.bl:=fun b hb=>by
    refine⟨hl,hlen,⟨_,rfl⟩,aL hD s2,ah,?_⟩
    rw[cE hi',List.map_append,List.map_append,hb];rfl
   refine kQ ?_
   refine⟨_,rfl,c,rfl,_,rfl,pR (fun hp=>?_) (fun hp=>fin false ?_)⟩
   ·refine⟨_,rfl,rfl,_,rfl,z,c,rfl,rfl,rfl,fin _ ?_⟩
    unfold vm
    rw[hp,Bool.true_and]
    by_cases hc:PyProof.Rows.cnt c z.cps.toList=1
    ·rw[decide_eq_true hc,hc];exact decide_eq_true rfl
    ·rw[decide_eq_false hc];exact decide_eq_false fun e=>hc (by injection e)
   ·unfold vm;rw[sd hp,Bool.false_and]
  ·rintro ys τ H2 ⟨⟨v,rfl⟩,s2,hl,rfl⟩
   refine⟨D,(z.cps.toList.take z.cps.toList.length).map (vm z),rfl,aS.of hl,?_⟩
   have e:((z.cps.toList.take z.cps.toList.length).map (vm z)).all id=bM (.str z) lo hi:=by
    rw[List.take_of_length_le (Nat.le_refl _),List.all_map];exact Gu h1 h2
   rw[e]
   exact k H2 s2
def iB (K:W.Frag) (C CN:Addr):Sp:=fun vs H Q E=>∃(x dx:Addr) (v1 v2 v3 v4 v5 v6 v7:V),vs=[.ref x,v1,v2,v3,v4,v5,v6,v7]∧H x=some (.ins C dx [])∧(∀ y∈[v1,v2,v3,v4,v5,v6,v7],K1 K H y)∧(∀ p q f b1 b2 b3 b4,[v1,v2,v3,v4,v5,v6,v7]=uG p q f b1 b2 b3 b4→Gd p q f→∀ H',H' x=some (.ins C dx (O3 p q f b1 b2 b3 b4))→(∀ b o,H b=some o→b≠x→H' b=some o)→Q .non H')∧(¬G7 [v1,v2,v3,v4,v5,v6,v7]→∀ H',aE H H'→E (.ref CN) none H')
theorem mY:bf P w K mg base (ql P w) 3 (ay 2) (bI 2) ["self", "parts", "quotes", "frees", "twin", "wide", "thin", "stray"] (iB K (ay 27) (ay 34)):=by
 have eV:bf P w K mg base gM 2 (ay 1) (bI 1) ["thing", "least", "most"] (iA K):=mX T
 refine T.nL.Nr iw (fun vs H Q E h=>?_) (fun cdv A outer s H vs Q E hr h=>?_)
 ·obtain⟨x,dx,v1,v2,v3,v4,v5,v6,v7,rfl,_⟩:=h;rfl
 ·have hu:=dW hr
  have tu:=hr.bN
  obtain⟨x,dx,v1,v2,v3,v4,v5,v6,v7,rfl,hx,hk,k,kE⟩:=h
  refine⟨_,(au (dz (j5 (gU (oq eV hr T.eB T.cO.kp T.ez (af (pv 1) (af aj (af aj ao aq) aq) ak)))) (aA (iV rfl T.dM (.inr ⟨_,_,rfl,T.aF⟩) rfl T.dJ (af aI ao aq))) br)
   (au (dz (j5 (gU (oq eV hr T.eB T.cO.kp T.ez (af (pv 2) (af aj (af aj ao aq) aq) ak)))) (aA (iV rfl T.dM (.inr ⟨_,_,rfl,T.aF⟩) rfl T.dJ (af aI ao aq))) br)
   (au (dz (j5 (gU (oq eV hr T.eB T.cO.kp T.ez (af (pv 3) (af aj (af aj ao aq) aq) ak)))) (aA (iV rfl T.dM (.inr ⟨_,_,rfl,T.aF⟩) rfl T.dJ (af aI ao aq))) br)
   (au (j7 PassesOwn.leaving rfl (AU K rfl (eo (af (pv 4) (af (pv 5) (af (pv 6) (af (pv 7) ao ak) ak) ak) ak))) (mQ 8 iw.nd)
   (aA (dz (j5 (gU (j3 (dR K rfl) T.aG (af (pv 8) (af (Hf "bool" T.GD) ao ak) ak)))) (aA (iV rfl T.dM (.inr ⟨_,_,rfl,T.aF⟩) rfl T.dJ (af aI ao aq))) br)))
   (au (nJ (pv 0) (pv 1) rfl)
   (au (nJ (pv 0) (pv 2) rfl)
   (au (nJ (pv 0) (pv 3) rfl)
   (au (nJ (pv 0) (pv 4) rfl)
   (au (nJ (pv 0) (pv 5) rfl)
   (au (nJ (pv 0) (pv 6) rfl)
   (aA (nJ (pv 0) (pv 7) rfl)))))))))))),?_⟩
  refine⟨_,rfl,v1,1,3,rfl,hk _ (by simp),by decide,fun H1 s1=>⟨_,rfl,?_⟩⟩
  by_cases g1:bM v1 1 3=true
  rotate_left
  ·exact xJ (sd g1) ⟨by decide,kE (fun q=>g1 (lz q).1) _ s1⟩
  refine uF g1 ?_
  refine⟨_,rfl,v2,0,2,rfl,(hk _ (by simp)).mono s1,by decide,fun H2 s2=>⟨_,rfl,?_⟩⟩
  have s12:=s1.trans s2
  by_cases g2:bM v2 0 2=true
  rotate_left
  ·exact xJ (sd g2) ⟨by decide,kE (fun q=>g2 (lz q).2.1) _ s12⟩
  refine uF g2 ?_
  refine⟨_,rfl,v3,0,2,rfl,(hk _ (by simp)).mono s12,by decide,fun H3 s3=>⟨_,rfl,?_⟩⟩
  have RE:=s12.trans s3
  by_cases g3:bM v3 0 2=true
  rotate_left
  ·exact xJ (sd g3) ⟨by decide,kE (fun q=>g3 (lz q).2.2.1) _ RE⟩
  refine uF g3 ?_
  refine⟨_,rfl,_,rfl,_,rfl,_,rfl,(by show 4≤sizeLine;decide),fun t ht=>⟨t,rfl,⟨_,iN.of ah⟩,?_⟩⟩
  have JN:aE H (upd H3 t (.tup [v4,v5,v6,v7])):=RE.trans (ai ht)
  have NC:(upd H3 t (.tup [v4,v5,v6,v7])) t=some (.tup [v4,v5,v6,v7]):=ah
  generalize upd H3 t (.tup [v4,v5,v6,v7])=H4 at JN NC ⊢
  refine Fj (K:=K) (a:=t) (xs:=[v4,v5,v6,v7]) (fun i σ H5=>H5=H4∧(∀(j:Nat) y,j < i→[v4,v5,v6,v7][j]? = some y→oG y=true)∧∃ v,σ=[some (.ref x),some v1,some v2,some v3,some v4,some v5,some v6,some v7,v]) ⟨rfl,(fun j y hj=>absurd hj (Nat.not_lt_zero _)),_,rfl⟩ (fun i σ H5 _ q=>by rw[q.1];exact iN.of NC) ?_ ?_
  ·rintro i y σ H5 hi ⟨rfl,hb,v,rfl⟩
   have Pb:y∈[v4,v5,v6,v7]:=List.mem_of_getElem? hi
   have ky:=(hk y (List.mem_cons_of_mem _ (List.mem_cons_of_mem _ (List.mem_cons_of_mem _ Pb)))).mono JN
   have hno:oG y=false→¬G7 [v1,v2,v3,v4,v5,v6,v7]:=fun h q=>by
    have q:=(lz q).2.2.2
    simp only[List.mem_cons,List.not_mem_nil,or_false] at Pb
    rcases Pb with rfl | rfl | rfl | rfl
    ·rw[q.1] at h;cases h
    ·rw[q.2.1] at h;cases h
    ·rw[q.2.2.1] at h;cases h
    ·rw[q.2.2.2] at h;cases h
   rcases ky with ⟨z,rfl,hz⟩ | ⟨n,ty,hn⟩
   ·exact⟨_,rfl,_,_,_,false,rfl,.str _,.inl ⟨_,rfl,rfl⟩,false,rfl,jF ⟨by decide,kE (hno rfl) _ JN⟩⟩
   have eb:=IE ty
   refine⟨_,rfl,_,_,_,_,rfl,ty,.inl ⟨_,rfl,Ef hn⟩,_,rfl,?_⟩
   rw[←eb]
   by_cases hB:oG y=true
   ·refine uF hB ⟨rfl,fun j y' hj hy'=>?_,_,rfl⟩
    rcases Nat.lt_or_ge j i with h | h
    ·exact hb j y' h hy'
    ·obtain rfl:j=i:=by omega
     rw[hi] at hy'
     obtain rfl:=Option.some.inj hy'
     exact hB
   ·exact xJ (sd hB) ⟨by decide,kE (hno (sd hB)) _ JN⟩
  ·rintro σ H5 ⟨rfl,hb,v,rfl⟩
   obtain⟨p,rfl,gp,Pc,Ue⟩:=ki g1
   obtain⟨q,rfl,gq,_,Ug⟩:=ki g2
   obtain⟨f,rfl,gf,_,Uh⟩:=ki g3
   obtain⟨b1,rfl⟩:=gn (hb 0 v4 (by show 0 < 4;decide) rfl)
   obtain⟨b2,rfl⟩:=gn (hb 1 v5 (by show 1 < 4;decide) rfl)
   obtain⟨b3,rfl⟩:=gn (hb 2 v6 (by show 2 < 4;decide) rfl)
   obtain⟨b4,rfl⟩:=gn (hb 3 v7 (by show 3 < 4;decide) rfl)
   have Pd:=JN _ _ hx
   refine⟨_,rfl,_,rfl,x,(ay 27),dx,_,rfl,Pd,T.eF,T.gX,(by show 0 < 1000;decide),_,rfl,_,rfl,x,(ay 27),dx,_,rfl,ah,T.eF,T.gu,(by show 1 < 1000;decide),_,rfl,_,rfl,x,(ay 27),dx,_,rfl,ah,T.eF,T.gY,(by show 2 < 1000;decide),_,rfl,_,rfl,x,(ay 27),dx,_,rfl,ah,T.eF,T.iZ,(by show 3 < 1000;decide),_,rfl,_,rfl,x,(ay 27),dx,_,rfl,ah,T.eF,T.i0,(by show 4 < 1000;decide),_,rfl,_,rfl,x,(ay 27),dx,_,rfl,ah,T.eF,T.i6,(by show 5 < 1000;decide),_,rfl,_,rfl,x,(ay 27),dx,_,rfl,ah,T.eF,T.gZ,(by show 6 < 1000;decide),?_⟩
   refine k p q f b1 b2 b3 b4 rfl ⟨gp,gq,gf,Pc,Ue,Ug,Uh⟩ _ ah fun b o e hb=>?_
   rw[aC hb,aC hb,aC hb,aC hb,aC hb,aC hb,aC hb]
   exact JN _ _ e
def iC (CB:Addr):Sp:=fun vs H Q _=>∃(ea:Addr) (r:Int),vs=[.ref ea,.int r]∧H ea=some (C9 ea (.ref CB) none)∧r.natAbs.log2 < 1920∧∀ d H',H d=none→d≠ea→H' ea=some (C9 ea (.ref CB) (some d))→H' d=some (Ik d [(Str.ofString "most",.int r)])→(∀ b,b≠ea→b≠d→H' b=H b)→Q .non H'
theorem mZ:bf P w K mg base gM 1 (ay 5) (bI 5) ["self", "most"] (iC (ay 46)):=by
 refine T.nN.ok mU (fun vs H Q E h=>?_) (fun cdv A outer s H vs Q E hr h=>?_)
 ·obtain⟨ea,r,rfl,_⟩:=h;rfl
 ·have hu:=dW hr
  have tu:=hr.bN
  obtain⟨ea,r,rfl,oE,hr0,k⟩:=h
  refine⟨_,(au (rm (D0 rfl T.lI T.qG T.eX (.inr ⟨_,_,rfl,T.aF⟩) (af (pv 0) (af (Bx (AZ aI (AZ (Im (pv 1)) Io))) ao vj) ak)))
   (aA (D5 rfl T.eX (.inr ⟨_,_,rfl,T.aF⟩) T.kK (pv 0) (pv 1) rfl))),?_⟩
  refine⟨_,rfl,_,rfl,by decide +kernel,_,rfl,.inl ⟨r,rfl,hr0⟩,fun z1 l1=>⟨_,rfl,l1,fun zz=>?_⟩⟩
  refine⟨ea,none,_,rfl,oE,?_⟩
  refine⟨_,rfl,_,rfl,ea,rfl,oE,fun d hd=>?_⟩
  have nd:d≠ea:=fun z=>by rw[z,oE] at hd;cases hd
  refine k d _ hd nd ((aC (Ne.symm nd)).trans ah) ah fun b h1 h2=>?_
  rw[aC h2,aC h1]
def jB (K:W.Frag) (C CN:Addr):Sp:=fun vs H Q E=>∃(v:V),vs=[v]∧K1 K H v∧(∀ t ys,v=.ref t→H t=some (.tup ys)→∀ y∈ys,K1 K H y)∧(∀ t p q f b1 b2 b3 b4,v=.ref t→H t=some (.tup (uG p q f b1 b2 b3 b4))→Gd p q f→∀(x dx:Addr) (H':Hp),H x=none→H' x=some (.ins C dx (O3 p q f b1 b2 b3 b4))→aE H H'→Q (.ref x) H')∧((∀ t xs,v=.ref t→H t=some (.tup xs)→¬G7 xs)→∀ H',aE H H'→E (.ref CN) none H')
theorem nj:bf P w K mg base (ql P w) 5 (ay 8) (bI 8) ["told"] (jB K (ay 27) (ay 34)):=by
 have nS:bf P w K mg base (ql P w) 3 (ay 2) (bI 2) ["self", "parts", "quotes", "frees", "twin", "wide", "thin", "stray"] (iB K (ay 27) (ay 34)):=mY T
 refine T.kq.Nr tH (fun vs H Q E h=>?_) (fun cdv A outer s H vs Q E hr h=>?_)
 ·obtain⟨v,rfl,_⟩:=h;rfl
 ·have hu:=dW hr
  have tu:=hr.bN
  obtain⟨v,rfl,hv,hk,k,kE⟩:=h
  refine⟨_,(au (dz (PW.pt (ow (j5 (gU (j3 (dR K rfl) T.aG (af (pv 0) (af (Hf "tuple" T.lJ) ao ak) ak)))) (pK (rC rP (j3 (bx K rfl) T.fN (af (pv 0) ao ak)) aj)))) (aA (iV rfl T.dM (.inr ⟨_,_,rfl,T.aF⟩) rfl T.dJ (af aI ao aq))) br)
   (aA (aY (Fw (k:=3) T.BH nS (hr.mono (by decide)) rfl T.BG T.nM .nil GW (af (E6 K (pv 0) aj) (af (E6 K (pv 0) aj) (af (E6 K (pv 0) aj) (af (E6 K (pv 0) aj) (af (E6 K (pv 0) aj) (af (E6 K (pv 0) aj) (af (E6 K (pv 0) aj) ao az) az) az) az) az) az) az))))),?_⟩
  rcases hv with ⟨z,rfl,hz⟩ | ⟨n,ty,hn⟩
  ·exact⟨_,rfl,_,_,_,false,rfl,.str _,.inl ⟨_,rfl,rfl⟩,false,rfl,jF ⟨by decide,kE (fun t xs e=>by cases e) _ (aE.refl H)⟩⟩
  refine⟨_,rfl,_,_,_,_,rfl,ty,.inl ⟨_,rfl,A1 hn⟩,_,rfl,?_⟩
  by_cases hT:n = "tuple"
  rotate_left
  ·rw[decide_eq_false hT]
   refine jF ⟨by decide,kE (fun t xs e1 e2=>?_) _ (aE.refl H)⟩
   exfalso
   subst e1
   cases ty with
   | tup e=>exact hT rfl
   | lst e=>rw[e] at e2;cases e2
   | ou e=>rw[e] at e2;cases e2
   | dK e=>rw[e] at e2;cases e2
   | dT e=>rw[e] at e2;cases e2
  obtain⟨t,ys,rfl,ht⟩:=ze ty hT
  subst hT
  have hS:=iN.of (K:=K) ht
  have hk:=hk t ys rfl ht
  refine uF (decide_eq_true rfl) ?_
  refine⟨_,rfl,t,_,rfl,.inr hS,rfl,_,rfl,?_⟩
  by_cases hl:ys.length=7
  rotate_left
  ·refine xJ (decide_eq_false fun e=>hl (by injection e with e;omega)) ⟨by decide,kE (fun t' xs e1 e2=>?_) _ (aE.refl H)⟩
   cases e1;rw[ht] at e2;cases e2;exact fun q=>hl (IG q)
  refine uF (decide_eq_true (by rw[hl];rfl)) ?_
  obtain⟨v1,v2,v3,v4,v5,v6,v7,rfl⟩:=Eg hl
  refine⟨_,rfl,t,_,_,_,rfl,rfl,hS,rfl,_,rfl,t,_,_,_,rfl,rfl,hS,rfl,_,rfl,t,_,_,_,rfl,rfl,hS,rfl,_,rfl,t,_,_,_,rfl,rfl,hS,rfl,_,rfl,t,_,_,_,rfl,rfl,hS,rfl,_,rfl,t,_,_,_,rfl,rfl,hS,rfl,_,rfl,t,_,_,_,rfl,rfl,hS,rfl,fun x dx hx hdx ne=>?_⟩
  have sm:=Eh (C:=(ay 27)) hx hdx
  refine⟨x,dx,v1,v2,v3,v4,v5,v6,v7,rfl,ah,fun y hy=>(hk y hy).mono sm,fun p q f b1 b2 b3 b4 e g H2 h2 kp=>⟨rfl,k t p q f b1 b2 b3 b4 rfl (by rw[←e];exact ht) g x dx H2 hx h2 fun b o eb=>kp b o (sm _ _ eb) (aZ eb hx)⟩,fun hn H2 s2=>kE ?_ _ (sm.trans s2)⟩
  exact fun t' xs e1 e2=>by cases e1;rw[ht] at e2;cases e2;exact hn
def jK (K:W.Frag):Sp:=fun vs H Q _=>∃(t:Addr) (ys:List V),vs=[.ref t]∧H t=some (.tup ys)∧(∀ y∈ys,K1 K H y)∧∀ H',aE H H'→Q (.bl (E7 ys)) H'
theorem pY:bf P w K mg base gM 6 (ay 9) (bI 9) ["told"] (jK K):=by
 have kB:bf P w K mg base (ql P w) 5 (ay 8) (bI 8) ["told"] (jB K (ay 27) (ay 34)):=nj T
 refine T.cT.ok pV (fun vs H Q E h=>?_) (fun cdv A outer s H vs Q E hr h=>?_)
 ·obtain⟨t,ys,rfl,_⟩:=h;rfl
 ·have hu:=dW hr
  have tu:=hr.bN
  obtain⟨t,ys,rfl,ht,hk,k⟩:=h
  refine⟨_,(au (AY rfl rfl (xm (xj (xh (k:=5) kB (hr.mono (by decide)) rfl T.oN T.kq.kp T.oM .nil (af (pv 0) ao ak)))) (KW rfl rfl T.dJ T.dM (.inr ⟨_,_,rfl,T.aF⟩) (fun ea=>(aA (aY ie))) DV) br)
   (aA (aY ie))),?_⟩
  refine⟨_,rfl,.ref t,rfl,K1.tup ht,(fun t' ys' e1 e2=>by cases e1;rw[ht] at e2;cases e2;exact hk),(fun t' p q f b1 b2 b3 b4 e1 e2 g x dx H' hx h' s'=>?_),(fun h H2 s2 ea oE=>?_)⟩
  ·cases e1
   rw[ht] at e2
   cases e2
   have kk:=k H' s'
   rw[Lc ⟨p,q,f,b1,b2,b3,b4,rfl,g⟩] at kk
   exact kk
  ·have kk:=fun H' s'=>k H' s'
   have e:E7 ys=false:=by
    cases q:E7 ys with
    | false=>rfl
    | true=>exact absurd (II q) (h t ys rfl ht)
   rw[e] at kk
   refine⟨(ay 34),(ay 35),_,_,rfl,T.dM,Ed (by simp) ?_⟩
   exact kk _ (s2.trans (ai oE))
def gi (K:W.Frag):Sp:=fun vs H Q _=>∃(v:V),vs=[v]∧((∃ l xs,v=.ref l∧H l=some (.lst xs)∧Q (.bl (decide (0 < xs.length))) H)∨(∃ ty,gI K H v ty∧W.kitOne K ty (.type "list")=some false∧Q (.bl false) H))
theorem kU:bf P w K mg base gM 1 (ay 10) (bI 10) ["thing"] (gi K):=by
 refine T.gS.ok kT (fun vs H Q E h=>?_) (fun cdv A outer s H vs Q E hr h=>?_)
 ·obtain⟨v,rfl,_⟩:=h;rfl
 ·have hu:=dW hr
  have tu:=hr.bN
  obtain⟨v,rfl,hv⟩:=h
  refine⟨_,(aA (aY (kW (j3 (dR K rfl) T.aG (af (pv 0) (af (Hf "list" T.mF) ao ak) ak)) (rM (Dd Dq (j3 (bx K rfl) T.fN (af (pv 0) ao ak)) aj))))),?_⟩
  rcases hv with ⟨l,xs,rfl,hl,k⟩ | ⟨ty,hty,ht,k⟩
  ·refine⟨_,rfl,_,_,_,true,rfl,.lst hl,.inl ⟨_,rfl,rfl⟩,true,rfl,jF ?_⟩
   refine⟨_,rfl,l,_,rfl,.inl (aS.of hl),_,_,rfl,rfl,?_⟩
   have e:decide ((0:Int) < (xs.length:Int))=decide (0 < xs.length):=decide_eq_decide.mpr (by omega)
   rw[←e] at k
   exact k
  ·exact⟨_,rfl,_,_,_,false,rfl,hty,.inl ⟨_,rfl,ht⟩,false,rfl,jE k⟩
def iD (K:W.Frag):Sp:=fun vs H Q _=>∃(l1 l2 l3 l4:Addr) (x1 x2 x3 x4:List V),vs=[.ref l1,.ref l2,.ref l3,.ref l4]∧H l1=some (.lst x1)∧H l2=some (.lst x2)∧H l3=some (.lst x3)∧H l4=some (.lst x4)∧(∀ x∈x1,m9 K H x)∧(∀ x∈x2,m9 K H x)∧(∀ x∈x3,m9 K H x)∧(∀ x∈x4,m9 K H x)∧x1.length≤1000∧x2.length≤1000∧x3.length≤1000∧x4.length≤1000∧∀ H',aE H H'→Q (.bl (x1.all (fun x=>bM x 1 3) && (x2.all (fun x=>bM x 0 2) && (x3.all (fun x=>bM x 0 2) && x4.all (je H))))) H'
theorem m5:bf P w K mg base gM 7 (ay 11) (bI 11) ["parts", "quotes", "frees", "truths"] (iD K):=by
 have ef:bf P w K mg base gM 6 (ay 9) (bI 9) ["told"] (jK K):=pY T
 refine T.iY.ok iy (fun vs H Q E h=>?_) (fun cdv A outer s H vs Q E hr h=>?_)
 ·obtain⟨l1,l2,l3,l4,x1,x2,x3,x4,rfl,_⟩:=h;rfl
 ·have hu:=dW hr
  have tu:=hr.bN
  obtain⟨l1,l2,l3,l4,x1,x2,x3,x4,rfl,h1,h2,h3,h4,c1,c2,c3,c4,n1,n2,n3,n4,k⟩:=h
  refine⟨_,(au (oF 4 iy.nd (eo (D8 (.cons rfl (.cons rfl (.cons rfl (.cons rfl .nil)))))) (hs:=D9))
   (aA (aY (kW (j3 (iO K rfl rfl) T.pX (af (iF rfl (show aK ["parts", "quotes", "frees", "truths", "plain"] (av aQ) ["choice", "plain"] 1 [4] _ from wQ) (bG K rfl (pv 0)) (fun _ _ _ _=>(mQ 0 (show(["choice", "plain"]:List Str).Nodup by decide +kernel))) (fun _ _ _ _=>bW) (fun _ _ _ _=>(oq ef hr T.d9 T.cT.kp T.d8 (af (aB (lg K rfl) (eo (af (pv 0) (af aI (af aI ao aq) aq) ak)) (pv 1)) ao bA)))) ao cM)) (kW (j3 (iO K rfl rfl) T.pX (af (iF rfl (show aK ["parts", "quotes", "frees", "truths", "plain"] (av aQ) ["choice", "plain"] 1 [4] _ from wQ) (bG K rfl (pv 1)) (fun _ _ _ _=>(mQ 0 (show(["choice", "plain"]:List Str).Nodup by decide +kernel))) (fun _ _ _ _=>bW) (fun _ _ _ _=>(oq ef hr T.d9 T.cT.kp T.d8 (af (aB (lg K rfl) (eo (af aI (af (pv 0) (af aI ao aq) ak) aq)) (pv 1)) ao bA)))) ao cM)) (kW (j3 (iO K rfl rfl) T.pX (af (iF rfl (show aK ["parts", "quotes", "frees", "truths", "plain"] (av aQ) ["choice", "plain"] 1 [4] _ from wQ) (bG K rfl (pv 2)) (fun _ _ _ _=>(mQ 0 (show(["choice", "plain"]:List Str).Nodup by decide +kernel))) (fun _ _ _ _=>bW) (fun _ _ _ _=>(oq ef hr T.d9 T.cT.kp T.d8 (af (aB (lg K rfl) (eo (af aI (af aI (af (pv 0) ao ak) aq) aq)) (pv 1)) ao bA)))) ao cM)) (rM (j3 (iO K rfl rfl) T.pX (af (iF rfl (show aK ["parts", "quotes", "frees", "truths", "plain"] (av aQ) ["choice"] 1 [] _ from wQ) (bG K rfl (pv 3)) (fun _ _ _ _=>(mQ 0 xG)) (fun _ _ _ _=>bW) (fun _ _ _ _=>(kW (j3 (dR K rfl) T.aG (af (pv 0) (af (Hf "tuple" T.lJ) ao ak) ak)) (rM (oq ef hr T.d9 T.cT.kp T.d8 (af (aB (lg K rfl) (eo (af aI (af aI (af aI ao aq) aq) aq)) (pv 0)) ao bA)))))) ao cM))))))))),?_⟩
  refine⟨(by show 4≤sizeLine;decide),fun pl Pe=>?_⟩
  (have q1:=ai (o:=HO.tup [V.bl false,V.bl false,V.bl false,V.bl false]) Pe;have hpl:=ah (H:=H) (a:=pl) (o:=HO.tup [V.bl false,V.bl false,V.bl false,V.bl false]);generalize upd H pl (HO.tup [V.bl false,V.bl false,V.bl false,V.bl false])=S1 at q1 hpl ⊢)
  dsimp only[ig]
  refine⟨_,rfl,l1,rfl,⟨_,aS.of (q1 _ _ h1)⟩,fun D1 hD=>?_⟩
  refine bX (K:=K) (a:=l1) (xs:=x1) (fun i ys τ J=>(∃ v,τ=[v,some (.ref pl)])∧aE S1 J∧J D1=some (.lst ys)∧ys=((x1.take i).map (fun x=>bM x 1 3)).map V.bl) ⟨⟨_,rfl⟩,ai hD,ah,rfl⟩ (fun i ys τ J _ p=>⟨aS.of (p.2.1 _ _ (q1 _ _ h1)),p.2.2.1⟩) ?_ ?_
  ·rintro i e ys τ J hi ⟨⟨v,rfl⟩,sJ,hl,rfl⟩
   have hil:=(List.getElem?_eq_some_iff.mp hi).1
   have ce:=c1 e (List.mem_of_getElem? hi)
   have zk:=q1.trans sJ
   have BK:J pl=some (.tup [.bl false,.bl false,.bl false,.bl false]):=sJ _ _ hpl
   have fin:∀ b G,b=(fun x=>bM x 1 3) e→aE J G→G D1=some (.lst (((x1.take i).map (fun x=>bM x 1 3)).map V.bl))∧(((x1.take i).map (fun x=>bM x 1 3)).map V.bl).length < sizeLine∧(∃ v,[some e,some (.ref pl)]=[v,some (.ref pl)])∧aE S1 (upd G D1 (.lst (((x1.take i).map (fun x=>bM x 1 3)).map V.bl++[.bl b])))∧(upd G D1 (.lst (((x1.take i).map (fun x=>bM x 1 3)).map V.bl++[.bl b]))) D1=some (.lst (((x1.take i).map (fun x=>bM x 1 3)).map V.bl++[.bl b]))∧((x1.take i).map (fun x=>bM x 1 3)).map V.bl++[.bl b]=((x1.take (i+1)).map (fun x=>bM x 1 3)).map V.bl:=fun b G hb sG=>by
    refine⟨sG _ _ hl,?_,⟨_,rfl⟩,aL hD (sJ.trans sG),ah,?_⟩
    ·rw[List.length_map,List.length_map,List.length_take]
     exact Nat.lt_of_le_of_lt (show _≤1000 by omega) (by decide)
    ·rw[cE hi,List.map_append,List.map_append,hb];rfl
   refine kQ ?_
   refine⟨_,rfl,(by show(3:Nat)≤sizeLine;decide),fun a1 g1=>?_⟩
   (have t1:=ai (o:=HO.tup [e,V.str ("":Str),V.str ("":Str)]) g1;have u1:=ah (H:=J) (a:=a1) (o:=HO.tup [e,V.str ("":Str),V.str ("":Str)]);generalize upd J a1 (HO.tup [e,V.str ("":Str),V.str ("":Str)])=J1 at t1 u1 ⊢)
   refine⟨_,rfl,a1,pl,_,_,rfl,rfl,iN.of u1,iN.of (t1 _ _ BK),(fun q=>nomatch q),(by show 3+4≤sizeLine;decide),(fun q=>nomatch q),fun _ a2 g2=>?_⟩
   (have t2:=ai (o:=HO.tup ([e,V.str ("":Str),V.str ("":Str)]++[V.bl false,V.bl false,V.bl false,V.bl false])) g2;have u2:=ah (H:=J1) (a:=a2) (o:=HO.tup ([e,V.str ("":Str),V.str ("":Str)]++[V.bl false,V.bl false,V.bl false,V.bl false]));generalize upd J1 a2 (HO.tup ([e,V.str ("":Str),V.str ("":Str)]++[V.bl false,V.bl false,V.bl false,V.bl false]))=J2 at t2 u2 ⊢)
   have Df:=t1.trans t2
   refine⟨a2,_,rfl,u2,fun y hy=>?_,fun G sG=>fin _ G (O6 e) (Df.trans sG)⟩
   have ke:=K1.mono (zk.trans Df) ce.1
   simp only[List.cons_append,List.nil_append,List.mem_cons,List.not_mem_nil,or_false] at hy
   rcases hy with rfl | rfl | rfl | rfl | rfl | rfl | rfl
   ·exact ke
   ·exact BD (by decide)
   ·exact BD (by decide)
   ·exact xK
   ·exact xK
   ·exact xK
   ·exact xK
  rintro ys τ S2 ⟨⟨v,rfl⟩,NF,hl1,rfl⟩
  rw[List.take_of_length_le (Nat.le_refl _)] at hl1
  have q2:=q1.trans NF
  refine⟨D1,x1.map (fun x=>bM x 1 3),rfl,aS.of hl1,_,rfl,?_⟩
  have Ui:(x1.map (fun x=>bM x 1 3)).all id=x1.all (fun x=>bM x 1 3):=by rw[List.all_map];rfl
  rw[Ui]
  cases RG:x1.all (fun x=>bM x 1 3) with
  | false =>
   rw[RG] at k
   exact jE (k S2 q2)
  | true =>
  rw[RG,Bool.true_and] at k
  refine jF ?_
  refine⟨_,rfl,l2,rfl,⟨_,aS.of (q2 _ _ h2)⟩,fun D2 hD=>?_⟩
  refine bX (K:=K) (a:=l2) (xs:=x2) (fun i ys τ J=>(∃ v,τ=[v,some (.ref pl)])∧aE S2 J∧J D2=some (.lst ys)∧ys=((x2.take i).map (fun x=>bM x 0 2)).map V.bl) ⟨⟨_,rfl⟩,ai hD,ah,rfl⟩ (fun i ys τ J _ p=>⟨aS.of (p.2.1 _ _ (q2 _ _ h2)),p.2.2.1⟩) ?_ ?_
  ·rintro i e ys τ J hi ⟨⟨v,rfl⟩,sJ,hl,rfl⟩
   have hil:=(List.getElem?_eq_some_iff.mp hi).1
   have ce:=c2 e (List.mem_of_getElem? hi)
   have zk:=q2.trans sJ
   have BK:J pl=some (.tup [.bl false,.bl false,.bl false,.bl false]):=sJ _ _ (NF _ _ hpl)
   have fin:∀ b G,b=(fun x=>bM x 0 2) e→aE J G→G D2=some (.lst (((x2.take i).map (fun x=>bM x 0 2)).map V.bl))∧(((x2.take i).map (fun x=>bM x 0 2)).map V.bl).length < sizeLine∧(∃ v,[some e,some (.ref pl)]=[v,some (.ref pl)])∧aE S2 (upd G D2 (.lst (((x2.take i).map (fun x=>bM x 0 2)).map V.bl++[.bl b])))∧(upd G D2 (.lst (((x2.take i).map (fun x=>bM x 0 2)).map V.bl++[.bl b]))) D2=some (.lst (((x2.take i).map (fun x=>bM x 0 2)).map V.bl++[.bl b]))∧((x2.take i).map (fun x=>bM x 0 2)).map V.bl++[.bl b]=((x2.take (i+1)).map (fun x=>bM x 0 2)).map V.bl:=fun b G hb sG=>by
    refine⟨sG _ _ hl,?_,⟨_,rfl⟩,aL hD (sJ.trans sG),ah,?_⟩
    ·rw[List.length_map,List.length_map,List.length_take]
     exact Nat.lt_of_le_of_lt (show _≤1000 by omega) (by decide)
    ·rw[cE hi,List.map_append,List.map_append,hb];rfl
   refine kQ ?_
   refine⟨_,rfl,(by show(3:Nat)≤sizeLine;decide),fun a1 g1=>?_⟩
   (have t1:=ai (o:=HO.tup [V.str (",":Str),e,V.str ("":Str)]) g1;have u1:=ah (H:=J) (a:=a1) (o:=HO.tup [V.str (",":Str),e,V.str ("":Str)]);generalize upd J a1 (HO.tup [V.str (",":Str),e,V.str ("":Str)])=J1 at t1 u1 ⊢)
   refine⟨_,rfl,a1,pl,_,_,rfl,rfl,iN.of u1,iN.of (t1 _ _ BK),(fun q=>nomatch q),(by show 3+4≤sizeLine;decide),(fun q=>nomatch q),fun _ a2 g2=>?_⟩
   (have t2:=ai (o:=HO.tup ([V.str (",":Str),e,V.str ("":Str)]++[V.bl false,V.bl false,V.bl false,V.bl false])) g2;have u2:=ah (H:=J1) (a:=a2) (o:=HO.tup ([V.str (",":Str),e,V.str ("":Str)]++[V.bl false,V.bl false,V.bl false,V.bl false]));generalize upd J1 a2 (HO.tup ([V.str (",":Str),e,V.str ("":Str)]++[V.bl false,V.bl false,V.bl false,V.bl false]))=J2 at t2 u2 ⊢)
   have Df:=t1.trans t2
   refine⟨a2,_,rfl,u2,fun y hy=>?_,fun G sG=>fin _ G (O7 e) (Df.trans sG)⟩
   have ke:=K1.mono (zk.trans Df) ce.1
   simp only[List.cons_append,List.nil_append,List.mem_cons,List.not_mem_nil,or_false] at hy
   rcases hy with rfl | rfl | rfl | rfl | rfl | rfl | rfl
   ·exact BD (by decide)
   ·exact ke
   ·exact BD (by decide)
   ·exact xK
   ·exact xK
   ·exact xK
   ·exact xK
  rintro ys τ S3 ⟨⟨v,rfl⟩,Ln,hl2,rfl⟩
  rw[List.take_of_length_le (Nat.le_refl _)] at hl2
  have q3:=q2.trans Ln
  refine⟨D2,x2.map (fun x=>bM x 0 2),rfl,aS.of hl2,_,rfl,?_⟩
  have Uj:(x2.map (fun x=>bM x 0 2)).all id=x2.all (fun x=>bM x 0 2):=by rw[List.all_map];rfl
  rw[Uj]
  cases RH:x2.all (fun x=>bM x 0 2) with
  | false =>
   rw[RH] at k
   exact jE (k S3 q3)
  | true =>
  rw[RH,Bool.true_and] at k
  refine jF ?_
  refine⟨_,rfl,l3,rfl,⟨_,aS.of (q3 _ _ h3)⟩,fun D3 hD=>?_⟩
  refine bX (K:=K) (a:=l3) (xs:=x3) (fun i ys τ J=>(∃ v,τ=[v,some (.ref pl)])∧aE S3 J∧J D3=some (.lst ys)∧ys=((x3.take i).map (fun x=>bM x 0 2)).map V.bl) ⟨⟨_,rfl⟩,ai hD,ah,rfl⟩ (fun i ys τ J _ p=>⟨aS.of (p.2.1 _ _ (q3 _ _ h3)),p.2.2.1⟩) ?_ ?_
  ·rintro i e ys τ J hi ⟨⟨v,rfl⟩,sJ,hl,rfl⟩
   have hil:=(List.getElem?_eq_some_iff.mp hi).1
   have ce:=c3 e (List.mem_of_getElem? hi)
   have zk:=q3.trans sJ
   have BK:J pl=some (.tup [.bl false,.bl false,.bl false,.bl false]):=sJ _ _ (Ln _ _ (NF _ _ hpl))
   have fin:∀ b G,b=(fun x=>bM x 0 2) e→aE J G→G D3=some (.lst (((x3.take i).map (fun x=>bM x 0 2)).map V.bl))∧(((x3.take i).map (fun x=>bM x 0 2)).map V.bl).length < sizeLine∧(∃ v,[some e,some (.ref pl)]=[v,some (.ref pl)])∧aE S3 (upd G D3 (.lst (((x3.take i).map (fun x=>bM x 0 2)).map V.bl++[.bl b])))∧(upd G D3 (.lst (((x3.take i).map (fun x=>bM x 0 2)).map V.bl++[.bl b]))) D3=some (.lst (((x3.take i).map (fun x=>bM x 0 2)).map V.bl++[.bl b]))∧((x3.take i).map (fun x=>bM x 0 2)).map V.bl++[.bl b]=((x3.take (i+1)).map (fun x=>bM x 0 2)).map V.bl:=fun b G hb sG=>by
    refine⟨sG _ _ hl,?_,⟨_,rfl⟩,aL hD (sJ.trans sG),ah,?_⟩
    ·rw[List.length_map,List.length_map,List.length_take]
     exact Nat.lt_of_le_of_lt (show _≤1000 by omega) (by decide)
    ·rw[cE hi,List.map_append,List.map_append,hb];rfl
   refine kQ ?_
   refine⟨_,rfl,(by show(3:Nat)≤sizeLine;decide),fun a1 g1=>?_⟩
   (have t1:=ai (o:=HO.tup [V.str (",":Str),V.str ("":Str),e]) g1;have u1:=ah (H:=J) (a:=a1) (o:=HO.tup [V.str (",":Str),V.str ("":Str),e]);generalize upd J a1 (HO.tup [V.str (",":Str),V.str ("":Str),e])=J1 at t1 u1 ⊢)
   refine⟨_,rfl,a1,pl,_,_,rfl,rfl,iN.of u1,iN.of (t1 _ _ BK),(fun q=>nomatch q),(by show 3+4≤sizeLine;decide),(fun q=>nomatch q),fun _ a2 g2=>?_⟩
   (have t2:=ai (o:=HO.tup ([V.str (",":Str),V.str ("":Str),e]++[V.bl false,V.bl false,V.bl false,V.bl false])) g2;have u2:=ah (H:=J1) (a:=a2) (o:=HO.tup ([V.str (",":Str),V.str ("":Str),e]++[V.bl false,V.bl false,V.bl false,V.bl false]));generalize upd J1 a2 (HO.tup ([V.str (",":Str),V.str ("":Str),e]++[V.bl false,V.bl false,V.bl false,V.bl false]))=J2 at t2 u2 ⊢)
   have Df:=t1.trans t2
   refine⟨a2,_,rfl,u2,fun y hy=>?_,fun G sG=>fin _ G (O8 e) (Df.trans sG)⟩
   have ke:=K1.mono (zk.trans Df) ce.1
   simp only[List.cons_append,List.nil_append,List.mem_cons,List.not_mem_nil,or_false] at hy
   rcases hy with rfl | rfl | rfl | rfl | rfl | rfl | rfl
   ·exact BD (by decide)
   ·exact BD (by decide)
   ·exact ke
   ·exact xK
   ·exact xK
   ·exact xK
   ·exact xK
  rintro ys τ S4 ⟨⟨v,rfl⟩,RI,hl3,rfl⟩
  rw[List.take_of_length_le (Nat.le_refl _)] at hl3
  have q4:=q3.trans RI
  refine⟨D3,x3.map (fun x=>bM x 0 2),rfl,aS.of hl3,_,rfl,?_⟩
  have Uk:(x3.map (fun x=>bM x 0 2)).all id=x3.all (fun x=>bM x 0 2):=by rw[List.all_map];rfl
  rw[Uk]
  cases RJ:x3.all (fun x=>bM x 0 2) with
  | false =>
   rw[RJ] at k
   exact jE (k S4 q4)
  | true =>
  rw[RJ,Bool.true_and] at k
  refine jF ?_
  refine⟨_,rfl,l4,rfl,⟨_,aS.of (q4 _ _ h4)⟩,fun D4 hD=>?_⟩
  refine bX (K:=K) (a:=l4) (xs:=x4) (fun i ys τ J=>(∃ v,τ=[v])∧aE S4 J∧J D4=some (.lst ys)∧ys=((x4.take i).map (je H)).map V.bl) ⟨⟨_,rfl⟩,ai hD,ah,rfl⟩ (fun i ys τ J _ p=>⟨aS.of (p.2.1 _ _ (q4 _ _ h4)),p.2.2.1⟩) ?_ ?_
  ·rintro i e ys τ J hi ⟨⟨v,rfl⟩,sJ,hl,rfl⟩
   have hil:=(List.getElem?_eq_some_iff.mp hi).1
   have ce:=c4 e (List.mem_of_getElem? hi)
   have zk:=q4.trans sJ
   have BK:J pl=some (.tup [.bl false,.bl false,.bl false,.bl false]):=sJ _ _ (RI _ _ (Ln _ _ (NF _ _ hpl)))
   have fin:∀ b G,b=(je H) e→aE J G→G D4=some (.lst (((x4.take i).map (je H)).map V.bl))∧(((x4.take i).map (je H)).map V.bl).length < sizeLine∧(∃ v,[some e]=[v])∧aE S4 (upd G D4 (.lst (((x4.take i).map (je H)).map V.bl++[.bl b])))∧(upd G D4 (.lst (((x4.take i).map (je H)).map V.bl++[.bl b]))) D4=some (.lst (((x4.take i).map (je H)).map V.bl++[.bl b]))∧((x4.take i).map (je H)).map V.bl++[.bl b]=((x4.take (i+1)).map (je H)).map V.bl:=fun b G hb sG=>by
    refine⟨sG _ _ hl,?_,⟨_,rfl⟩,aL hD (sJ.trans sG),ah,?_⟩
    ·rw[List.length_map,List.length_map,List.length_take]
     exact Nat.lt_of_le_of_lt (show _≤1000 by omega) (by decide)
    ·rw[cE hi,List.map_append,List.map_append,hb];rfl
   refine kQ ?_
   rcases ce.1 with ⟨z,rfl,hz⟩ | ⟨nm,ty,hn⟩
   ·exact⟨_,rfl,_,_,_,false,rfl,.str _,.inl ⟨_,rfl,rfl⟩,false,rfl,jE (fin _ J rfl (aE.refl _))⟩
   refine⟨_,rfl,_,_,_,_,rfl,jH zk ty,.inl ⟨_,rfl,A1 hn⟩,_,rfl,?_⟩
   by_cases hT:nm = "tuple"
   rotate_left
   ·rw[decide_eq_false hT]
    exact jE (fin _ J (vo ty hT).symm (aE.refl _))
   obtain⟨t,zs,rfl,ht⟩:=ze ty hT
   rw[decide_eq_true hT]
   obtain⟨hz1,hz2⟩:=ce.2 t zs rfl ht
   refine jF ⟨(by show(3:Nat)≤sizeLine;decide),fun a1 g1=>?_⟩
   (have t1:=ai (o:=HO.tup [V.str (",":Str),V.str ("":Str),V.str ("":Str)]) g1;have u1:=ah (H:=J) (a:=a1) (o:=HO.tup [V.str (",":Str),V.str ("":Str),V.str ("":Str)]);generalize upd J a1 (HO.tup [V.str (",":Str),V.str ("":Str),V.str ("":Str)])=J1 at t1 u1 ⊢)
   have RK:=zk.trans t1
   have kz:∀ G,aE J1 G→∀ y∈[V.str (",":Str),.str ("":Str),.str ("":Str)]++zs,K1 K G y:=fun G sG y hy=>by
    rcases List.mem_append.mp hy with q | q
    ·simp only[List.mem_cons,List.not_mem_nil,or_false] at q
     rcases q with rfl | rfl | rfl <;> exact BD (by decide)
    ·exact K1.mono (RK.trans sG) (hz2 y q)
   have ch:=(mE ht).trans (O9 zs).symm
   refine⟨_,rfl,a1,t,_,zs,rfl,rfl,iN.of u1,iN.of (RK _ _ ht),(fun q=>nomatch q),Nat.le_trans (show 3+zs.length≤200 by omega) (by decide),(fun q=>?_),fun _ a2 g2=>?_⟩
   ·subst q
    refine⟨a1,_,rfl,u1,fun y hy=>kz J1 (aE.refl _) y (List.mem_append_left _ hy),fun G sG=>fin _ G ?_ (t1.trans sG)⟩
    rw[ch];rfl
   ·(have t2:=ai (o:=HO.tup ([V.str (",":Str),V.str ("":Str),V.str ("":Str)]++zs)) g2;have u2:=ah (H:=J1) (a:=a2) (o:=HO.tup ([V.str (",":Str),V.str ("":Str),V.str ("":Str)]++zs));generalize upd J1 a2 (HO.tup ([V.str (",":Str),V.str ("":Str),V.str ("":Str)]++zs))=J2 at t2 u2 ⊢)
    exact⟨a2,_,rfl,u2,kz J2 t2,fun G sG=>fin _ G ch.symm ((t1.trans t2).trans sG)⟩
  rintro ys τ S5 ⟨⟨v,rfl⟩,Ul,JO,rfl⟩
  rw[List.take_of_length_le (Nat.le_refl _)] at JO
  have q5:=q4.trans Ul
  refine⟨D4,x4.map (je H),rfl,aS.of JO,?_⟩
  have Um:(x4.map (je H)).all id=x4.all (je H):=by rw[List.all_map];rfl
  rw[Um]
  exact k S5 q5
def mG (K:W.Frag) (C CF CM:Addr):Sp:=fun vs H Q E=>∃(v1 v2 v3 v4:V),vs=[v1,v2,v3,v4]∧(∀ v∈[v1,v2,v3,v4],xM K H v)∧(jy H v1 v2 v3 v4=0→∀ H',aE H H'→E (.ref CF) none H')∧(jy H v1 v2 v3 v4=1→∀ d H',H d=none→H' d=some (Ik d [(Str.ofString "most",.int 24)])→aE H H'→E (.ref CM) (some d) H')∧(jy H v1 v2 v3 v4=2→∀(l:Addr) (xs:List V) (H':Hp),H l=none→H' l=some (.lst xs)→xs.length=(lx H v1).length * (lx H v2).length * (lx H v3).length * (lx H v4).length→aE H H'→Q (.ref l) H')
theorem pZ:bf P w K mg base (ql P w) 8 (ay 12) (bI 12) ["parts", "quotes", "frees", "truths"] (mG K (ay 27) (ay 36) (ay 46)):=by
 have nU:bf P w K mg base gM 1 (ay 5) (bI 5) ["self", "most"] (iC (ay 46)):=mZ T
 have nV:bf P w K mg base gM 7 (ay 11) (bI 11) ["parts", "quotes", "frees", "truths"] (iD K):=m5 T
 have kB:bf P w K mg base (ql P w) 5 (ay 8) (bI 8) ["told"] (jB K (ay 27) (ay 34)):=nj T
 have lK:bf P w K mg base gM 1 (ay 10) (bI 10) ["thing"] (gi K):=kU T
 refine T.oO.Nr iP (fun vs H Q E h=>?_) (fun cdv A outer s H vs Q E hr h=>?_)
 ·obtain⟨v1,v2,v3,v4,rfl,_⟩:=h;rfl
 ·have hu:=dW hr
  have tu:=hr.bN
  obtain⟨v1,v2,v3,v4,rfl,lk,k0,k1,k2⟩:=h
  refine⟨_,(au (dz (j5 (gU (j3 (iO K rfl rfl) T.pX (af (iF rfl (show aK ["parts", "quotes", "frees", "truths", "dialects", "some_parts", "some_quotes", "some_frees", "some_truths"] (av jG) ["thing"] 1 [] _ from wQ) (AU K rfl (eo (af (pv 0) (af (pv 1) (af (pv 2) (af (pv 3) ao ak) ak) ak) ak))) (fun _ _ _ _=>(mQ 0 xG)) (fun _ _ _ _=>bW) (fun _ _ _ _=>(oq lK hr T.lE T.gS.kp T.lD (af (pv 0) ao ak)))) ao cM)))) (aA (iV rfl T.gv (.inr ⟨_,_,rfl,T.aF⟩) rfl T.nR (af aI ao aq))) br)
   (au (dz (j5 (gU (oq nV hr T.nQ T.iY.kp T.nP (af (pv 0) (af (pv 1) (af (pv 2) (af (pv 3) ao ak) ak) ak) ak)))) (aA (iV rfl T.gv (.inr ⟨_,_,rfl,T.aF⟩) rfl T.nR (af aI ao aq))) br)
   (au (dz (rC Dq (aB eZ (aB eZ (aB eZ (j3 (bx K rfl) T.fN (af (pv 0) ao ak)) (j3 (bx K rfl) T.fN (af (pv 1) ao ak))) (j3 (bx K rfl) T.fN (af (pv 2) ao ak))) (j3 (bx K rfl) T.fN (af (pv 3) ao ak))) (AW rfl T.jJ.choose_spec)) (aA (By rfl T.eX (.inr ⟨_,_,rfl,T.aF⟩) T.sC.choose_spec.1 T.sC.choose_spec.2 nU (hr.mono (by decide)) T.nO T.xZ rfl T.pW (af (AW rfl T.jJ.choose_spec) ao ak))) br)
   (au (oF 4 iP.nd (bE ao) (hs:=jk))
   (au (j7 PassesOwn.leaving rfl (bG K rfl (pv 0)) (mQ 5 iP.nd)
   (aA (j7 PassesOwn.leaving rfl (bG K rfl (pv 1)) (mQ 6 iP.nd)
   (aA (j7 PassesOwn.leaving rfl (bG K rfl (pv 2)) (mQ 7 iP.nd)
   (aA (j7 PassesOwn.leaving rfl (bG K rfl (pv 3)) (mQ 8 iP.nd)
   (aA (rm (yZ K rfl PySem.F.plainAttrs_list PySem.F.slot_list_append PySem.F.type_list_append mq (pv 4) (af (rz (k:=5) kB (hr.mono (by decide)) rfl T.oN T.kq.kp T.oM .nil GW (af (aB (lg K rfl) (eo (af (pv 5) (af (pv 6) (af (pv 7) ao ak) ak) ak)) (pv 8)) ao bA)) ao bP)))))))))))
   (aA (aY (pv 4)))))))),?_⟩
  refine⟨_,rfl,_,rfl,_,rfl,_,rfl,(by show 4≤sizeLine;decide),fun tp htp=>⟨tp,rfl,⟨_,iN.of ah⟩,fun D hD=>?_⟩⟩
  have s0:=ai (o:=HO.tup [v1,v2,v3,v4]) htp
  have Lo:(upd H tp (.tup [v1,v2,v3,v4])) tp=some (.tup [v1,v2,v3,v4]):=ah
  generalize upd H tp (.tup [v1,v2,v3,v4])=H1 at s0 Lo hD ⊢
  refine DU (K:=K) (a:=tp) (xs:=[v1,v2,v3,v4]) (fun i ys τ H2=>(∃ v,τ=[v])∧aE H1 H2∧H2 D=some (.lst ys)∧ys=(([v1,v2,v3,v4].take i).map (mR H)).map V.bl) ⟨⟨_,rfl⟩,ai hD,ah,rfl⟩ (fun i ys τ H2 _ p=>⟨iN.of (p.2.1 _ _ Lo),p.2.2.1⟩) ?_ ?_
  ·rintro i e ys τ H2 hi ⟨⟨v,rfl⟩,s2,hl,rfl⟩
   have hil:i < 4:=(List.getElem?_eq_some_iff.mp hi).1
   have fin:∀ b,b=mR H e→H2 D=some (.lst ((([v1,v2,v3,v4].take i).map (mR H)).map V.bl))∧((([v1,v2,v3,v4].take i).map (mR H)).map V.bl).length < sizeLine∧(∃ v,[some e]=[v])∧aE H1 (upd H2 D (.lst ((([v1,v2,v3,v4].take i).map (mR H)).map V.bl++[.bl b])))∧(upd H2 D (.lst ((([v1,v2,v3,v4].take i).map (mR H)).map V.bl++[.bl b]))) D=some (.lst ((([v1,v2,v3,v4].take i).map (mR H)).map V.bl++[.bl b]))∧(([v1,v2,v3,v4].take i).map (mR H)).map V.bl++[.bl b]=(([v1,v2,v3,v4].take (i+1)).map (mR H)).map V.bl:=fun b hb=>by
    refine⟨hl,?_,⟨_,rfl⟩,aL hD s2,ah,?_⟩
    ·rw[List.length_map,List.length_map,List.length_take]
     exact Nat.lt_of_le_of_lt (show _≤1000 by omega) (by decide)
    ·rw[cE hi,List.map_append,List.map_append,hb];rfl
   refine kQ ?_
   rcases lk e (List.mem_of_getElem? hi) with ⟨l,xs,rfl,hlx,_,_⟩ | ⟨ty,hty,ht,hno⟩
   ·exact⟨_,rfl,.ref l,rfl,.inl ⟨l,xs,rfl,(s0.trans s2) _ _ hlx,fin _ (by unfold mR;rw[cK hlx])⟩⟩
   ·exact⟨_,rfl,e,rfl,.inr ⟨ty,jH (s0.trans s2) hty,ht,fin _ (by unfold mR lx;rw[hno];rfl)⟩⟩
  rintro ys τ H2 ⟨⟨v,rfl⟩,s2,hl,rfl⟩
  rw[List.take_of_length_le (Nat.le_refl _)] at hl
  refine⟨D,[v1,v2,v3,v4].map (mR H),rfl,aS.of hl,?_⟩
  have ea:([v1,v2,v3,v4].map (mR H)).all id=[v1,v2,v3,v4].all (mR H):=by rw[List.all_map];rfl
  rw[ea]
  have t2:=s0.trans s2
  cases hA:[v1,v2,v3,v4].all (mR H) with
  | false=>exact⟨_,rfl,jF ⟨by decide,k0 (by unfold jy;rw[if_pos hA]) _ t2⟩⟩
  | true =>
  have hfr:jy H v1 v2 v3 v4=if uK H v1 v2 v3 v4=false then 0 else if 24 < (lx H v1).length * (lx H v2).length * (lx H v3).length * (lx H v4).length then 1 else 2:=by unfold jy;rw[if_neg (by rw[hA];decide)]
  rw[hfr] at k0 k1 k2
  refine⟨_,rfl,jE ?_⟩
  have get:∀ v∈[v1,v2,v3,v4],∃ l xs,v=.ref l∧H l=some (.lst xs)∧(∀ x∈xs,m9 K H x)∧xs.length≤1000∧0 < xs.length:=fun v hv=>by
   have hn:=List.all_eq_true.mp hA v hv
   rcases lk v hv with ⟨l,xs,rfl,hlx,hc,h1⟩ | ⟨ty,_,_,hno⟩
   ·refine⟨l,xs,rfl,hlx,hc,h1,?_⟩
    unfold mR at hn;rw[cK hlx] at hn;exact of_decide_eq_true hn
   ·unfold mR lx at hn;rw[hno] at hn;cases hn
  obtain⟨l1,x1,rfl,h1,c1,n1,m1⟩:=get v1 (by simp)
  obtain⟨l2,x2,rfl,h2,c2,n2,m2⟩:=get v2 (by simp)
  obtain⟨l3,x3,rfl,h3,c3,n3,m3⟩:=get v3 (by simp)
  obtain⟨l4,x4,rfl,h4,c4,n4,m4⟩:=get v4 (by simp)
  clear get lk hA hl ea hfr
  unfold uK at k0 k1 k2
  rw[cK h1,cK h2,cK h3,cK h4] at k0 k1 k2
  have cm:∀{xs:List V},(∀ x∈xs,m9 K H x)→∀ x∈xs,m9 K H2 x:=fun {xs} hc x hx=>⟨K1.mono t2 (hc x hx).1,fun t ys e1 e2=>by
   obtain⟨hk,hh⟩:=hc x hx
   subst e1
   rcases hk with ⟨z,e,_⟩ | ⟨n,ty,hn⟩
   ·cases e
   ·have ht:H t=some (.tup ys):=by
     cases ty with
     | tup e=>rw[t2 _ _ e] at e2;rw[e];exact e2
     | lst e=>rw[t2 _ _ e] at e2;cases e2
     | ou e=>rw[t2 _ _ e] at e2;cases e2
     | dK e=>rw[t2 _ _ e] at e2;cases e2
     | dT e=>rw[t2 _ _ e] at e2;cases e2
    exact⟨(hh t ys rfl ht).1,fun y hy=>K1.mono t2 ((hh t ys rfl ht).2 y hy)⟩⟩
  refine⟨_,rfl,_,rfl,_,rfl,_,rfl,l1,l2,l3,l4,x1,x2,x3,x4,rfl,t2 _ _ h1,t2 _ _ h2,t2 _ _ h3,t2 _ _ h4,cm c1,cm c2,cm c3,cm c4,n1,n2,n3,n4,fun H3 s3=>⟨_,rfl,?_⟩⟩
  have e4:x4.all (je H2)=x4.all (je H):=qt fun x hx=>oH t2 (c4 x hx).1
  rw[e4]
  have t3:=t2.trans s3
  cases hG:(x1.all (fun x=>bM x 1 3) && (x2.all (fun x=>bM x 0 2) && (x3.all (fun x=>bM x 0 2) && x4.all (je H)))) with
  | false =>
   rw[hG,if_pos rfl] at k0
   exact jF ⟨by decide,k0 rfl _ t3⟩
  | true =>
  rw[hG,if_neg (by decide)] at k0 k1 k2
  refine jE ?_
  simp only[Bool.and_eq_true] at hG
  obtain⟨g1,g2,g3,g4⟩:=hG
  have a1:=t3 _ _ h1;have a2:=t3 _ _ h2;have a3:=t3 _ _ h3;have a4:=t3 _ _ h4
  obtain⟨ps,rfl,fp⟩:=mw g1
  obtain⟨qs,rfl,fq⟩:=mw g2
  obtain⟨fs,rfl,ff⟩:=mw g3
  obtain⟨bs,ht⟩:=Ei g4
  have NG:=ht.length
  have at':=zf.mono t3 ht
  have e1:(ps.map V.str).length=ps.length:=List.length_map _
  have e2:(qs.map V.str).length=qs.length:=List.length_map _
  have e3:(fs.map V.str).length=fs.length:=List.length_map _
  have Hj:((ps.map V.str).length:Int) * (qs.map V.str).length * (fs.map V.str).length * x4.length=((ps.length * qs.length * fs.length * bs.length:Nat):Int):=by
   rw[e1,e2,e3,NG,←Int.natCast_mul,←Int.natCast_mul,←Int.natCast_mul]
  rw[e1,e2,e3,NG] at k1 k2
  dsimp only[wW]
  refine⟨_,rfl,l1,_,rfl,.inl (aS.of a1),_,rfl,l2,_,rfl,.inl (aS.of a2),_,_,rfl,rfl,.inr ⟨by omega,by omega⟩,_,rfl,l3,_,rfl,.inl (aS.of a3),_,_,rfl,rfl,.inr ⟨by omega,by omega⟩,_,rfl,l4,_,rfl,.inl (aS.of a4),_,_,rfl,rfl,.inr ⟨by omega,by omega⟩,_,_,rfl,rfl,_,rfl,O1 (fun cc=>?_) (fun cc=>?_)⟩
  ·rw[Hj] at cc
   rw[if_pos (by omega)] at k1
   have k1:=k1 rfl
   refine⟨(by decide),fun ea oE=>⟨_,_,rfl,ah,(by decide),fun d H' hd nd e1 e2 Nx=>⟨rfl,_,e1,k1 _ _ ((aL (t3.free oE) t3).free hd) ?_ ?_⟩⟩⟩
   ·rw[vf nd];exact e2
   ·exact zd t3 oE hd Nx
  rw[Hj] at cc
  rw[if_neg (by omega)] at k2
  have k2:=k2 rfl
  have fm:Ny ps qs fs bs:=⟨fp,fun q hq=>⟨(fq q hq).1,(fq q hq).2.2⟩,fun f hf=>⟨(ff f hf).1,(ff f hf).2.2⟩,by omega,by omega,by omega,by omega,by omega⟩
  have RL:=IL fm
  have k:∀(l:Addr) (xs:List V) (H':Hp),H l=none→H' l=some (.lst xs)→Paired (fun e x=>∃ y dy,e=V.ref y∧H' y=some (.ins (ay 27) dy (Ld x))) xs (P4 ps qs fs bs)→aE H H'→Q (.ref l) H':=fun l xs H' z1 z2 z3 z4=>k2 l xs H' z1 z2 (by rw[z3.length,IM]) z4
  clear k0 k1 k2
  generalize x4=ts at *
  dsimp only[wW]
  refine⟨by decide,fun l hl=>?_⟩
  have RM:(upd H3 l (.lst [])) l=some (.lst []):=ah
  have s4:=ai (o:=HO.lst []) hl
  generalize upd H3 l (.lst [])=H4 at RM s4 ⊢
  refine⟨_,rfl,l1,rfl,⟨_,aS.of (s4 _ _ a1)⟩,?_⟩
  refine kY (K:=K) (a:=l1) (xs:=ps.map V.str) (fun i σ H5=>aE H3 H5∧∃ xs v5 v6 v7 v8,σ=[some (.ref l1),some (.ref l2),some (.ref l3),some (.ref l4),some (.ref l),  v5,v6,v7,v8]∧H5 l=some (.lst xs)∧A4 (ay 27) H5 xs (P4 (ps.take i) qs fs bs)∧xs.length≤i * 13824) ⟨s4,[],_,_,_,_,rfl,RM,.nil,Nat.zero_le _⟩ (fun i σ H5 _ q=>aS.of (q.1 _ _ a1)) ?_ ?_
  ·rintro i e σ H5 hi ⟨s5,xs,v5,v6,v7,v8,rfl,hx,hm,hb⟩
   obtain⟨p,hp,rfl⟩:=zh hi
   have Ye:=(List.getElem?_eq_some_iff.mp hp).1
   have gp:=fm.gp p (List.mem_of_getElem? hp)
   refine⟨_,rfl,l2,rfl,⟨_,aS.of (s5 _ _ a2)⟩,?_⟩
   refine kY (K:=K) (a:=l2) (xs:=qs.map V.str) (fun j σ H6=>aE H3 H6∧∃ xs v6 v7 v8,σ=[some (.ref l1),some (.ref l2),some (.ref l3),some (.ref l4),some (.ref l),  some (.str p),v6,v7,v8]∧H6 l=some (.lst xs)∧A4 (ay 27) H6 xs (P4 (ps.take i) qs fs bs++P3 p (qs.take j) fs bs)∧xs.length≤i * 13824+j * 576) ⟨s5,xs,_,_,_,rfl,hx,by rw[show P3 p (qs.take 0) fs bs=[] from rfl,List.append_nil];exact hm,by omega⟩ (fun i σ H6 _ q=>aS.of (q.1 _ _ a2)) ?_ ?_
   ·clear hx hm hb
    rintro j e σ H6 hj ⟨s6,xs,v6,v7,v8,rfl,hx,hm,hb⟩
    obtain⟨q,hq,rfl⟩:=zh hj
    have Yg:=(List.getElem?_eq_some_iff.mp hq).1
    have gq:=fm.gq q (List.mem_of_getElem? hq)
    refine⟨_,rfl,l3,rfl,⟨_,aS.of (s6 _ _ a3)⟩,?_⟩
    refine kY (K:=K) (a:=l3) (xs:=fs.map V.str) (fun m σ H7=>aE H3 H7∧∃ xs v7 v8,σ=[some (.ref l1),some (.ref l2),some (.ref l3),some (.ref l4),some (.ref l),  some (.str p),some (.str q),v7,v8]∧H7 l=some (.lst xs)∧A4 (ay 27) H7 xs ((P4 (ps.take i) qs fs bs++P3 p (qs.take j) fs bs)++P2 p q (fs.take m) bs)∧xs.length≤i * 13824+j * 576+m * 24) ⟨s6,xs,_,_,rfl,hx,by rw[show P2 p q (fs.take 0) bs=[] from rfl,List.append_nil];exact hm,by omega⟩ (fun i σ H7 _ q=>aS.of (q.1 _ _ a3)) ?_ ?_
    ·clear hx hm hb
     rintro m e σ H7 hm' ⟨s7,xs,v7,v8,rfl,hx,hm,hb⟩
     obtain⟨f,hf,rfl⟩:=zh hm'
     have hmp:=(List.getElem?_eq_some_iff.mp hf).1
     have gf:=fm.gf f (List.mem_of_getElem? hf)
     have gd:Gd p q f:=⟨gp.1,gq.1,gf.1,gp.2.1,gp.2.2,gq.2,gf.2⟩
     refine⟨_,rfl,l4,rfl,⟨_,aS.of (s7 _ _ a4)⟩,?_⟩
     refine kY (K:=K) (a:=l4) (xs:=ts) (fun n σ H8=>aE H3 H8∧∃ xs v8,σ=[some (.ref l1),some (.ref l2),some (.ref l3),some (.ref l4),some (.ref l),  some (.str p),some (.str q),some (.str f),v8]∧H8 l=some (.lst xs)∧A4 (ay 27) H8 xs (((P4 (ps.take i) qs fs bs++P3 p (qs.take j) fs bs)++P2 p q (fs.take m) bs)++P1 p q f (bs.take n))∧xs.length≤i * 13824+j * 576+m * 24+n) ⟨s7,xs,_,rfl,hx,by rw[show P1 p q f (bs.take 0)=[] from rfl,List.append_nil];exact hm,by omega⟩ (fun i σ H8 _ q=>aS.of (q.1 _ _ a4)) ?_ ?_
     ·clear hx hm hb
      rintro n e σ H8 hn ⟨s8,xs,v8,rfl,hx,hm,hb⟩
      have hnl:=(List.getElem?_eq_some_iff.mp hn).1
      rw[NG] at hnl
      obtain⟨b,Ol,tt,rfl,NC⟩:=uJ (zf.mono s8 at') hn
      refine⟨_,rfl,.inl ⟨rfl,_,aS.of hx⟩,_,rfl,_,rfl,_,rfl,(by show 3≤sizeLine;decide),fun u1 g1=>?_⟩
      have sa:=ai (o:=HO.tup [.str p,.str q,.str f]) g1
      refine⟨_,rfl,u1,tt,_,_,rfl,rfl,iN.of ah,iN.of (sa _ _ NC),(by intro z;cases z),Nat.le_trans (show 3+4≤7 from Nat.le_refl _) (by decide),(fun z=>nomatch z),fun _ r g2=>?_⟩
      have sb:=ai (o:=HO.tup ([.str p,.str q,.str f]++b.vs)) g2
      refine⟨.ref r,rfl,K1.tup ah,(fun t' ys' z1 z2=>by
       cases z1
       rw[ah] at z2
       cases z2
       intro y hy
       rcases List.mem_append.mp hy with z | z
       ·simp only[List.mem_cons,List.not_mem_nil,or_false] at z
        rcases z with rfl | rfl | rfl
        ·exact BD (by have:=gp.2.2;omega)
        ·exact BD (by have:=gq.2;omega)
        ·exact BD (by have:=gf.2;omega)
       ·simp only[B4.vs,List.mem_cons,List.not_mem_nil,or_false] at z
        rcases z with rfl | rfl | rfl | rfl <;> exact xK),(fun t' p' q' f' z1 z2 z3 z4 e1 e2 g' y dy H9 hy h9 s9=>?_),(fun hbad=>absurd ⟨p,q,f,b.a,b.b,b.c,b.d,rfl,gd⟩ (hbad r _ rfl ah))⟩
      cases e1
      rw[ah] at e2
      have e2:=HO.tup.inj (Option.some.inj e2)
      obtain⟨rfl,rfl,rfl,rfl,rfl,rfl,rfl⟩:p=p'∧q=q'∧f=f'∧b.a=z1∧b.b=z2∧b.c=z3∧b.d=z4:=by
       have e2:[V.str p,.str q,.str f,.bl b.a,.bl b.b,.bl b.c,.bl b.d]=[V.str p',.str q',.str f',.bl z1,.bl z2,.bl z3,.bl z4]:=e2
       simp only[List.cons.injEq,V.str.injEq,V.bl.injEq,and_true] at e2
       exact e2
      have Pf:=(sa.trans sb).trans s9
      have RN:=Pf _ _ hx
      refine⟨l,xs,.ref y,rfl,rfl,RN,Nat.lt_of_le_of_lt (show xs.length≤400000 by omega) (by decide),?_⟩
      refine⟨aL hl (s8.trans Pf),xs++[.ref y],_,rfl,ah,?_,by rw[List.length_append];show xs.length+1≤_;omega⟩
      rw[show P1 p q f (bs.take (n+1))=P1 p q f (bs.take n)++[(p,q,f,b)] from map_one Ol,←List.append_assoc]
      exact A4.but RN (er (A4.mono Pf hm) (.cons ⟨y,dy,rfl,h9⟩ .nil))
     ·clear hx hm hb
      rintro σ H8 ⟨s8,xs,v8,rfl,hx,hm,hb⟩
      rw[NG] at hm hb
      refine⟨s8,xs,_,_,rfl,hx,?_,by rw[Nat.add_mul];omega⟩
      rw[show P2 p q (fs.take (m+1)) bs=P2 p q (fs.take m) bs++P1 p q f bs from zg hf,←List.append_assoc]
      rw[List.take_of_length_le (Nat.le_refl _)] at hm
      exact hm
    ·clear hx hm hb
     rintro σ H7 ⟨s7,xs,v7,v8,rfl,hx,hm,hb⟩
     rw[e3] at hm hb
     refine⟨s7,xs,_,_,_,rfl,hx,?_,by rw[Nat.add_mul];omega⟩
     rw[show P3 p (qs.take (j+1)) fs bs=P3 p (qs.take j) fs bs++P2 p q fs bs from zg hq,←List.append_assoc]
     rw[List.take_of_length_le (Nat.le_refl _)] at hm
     exact hm
   ·clear hx hm hb
    rintro σ H6 ⟨s6,xs,v6,v7,v8,rfl,hx,hm,hb⟩
    rw[e2] at hm hb
    refine⟨s6,xs,_,_,_,_,rfl,hx,?_,by rw[Nat.add_mul];omega⟩
    rw[show P4 (ps.take (i+1)) qs fs bs=P4 (ps.take i) qs fs bs++P3 p qs fs bs from zg hp]
    rw[List.take_of_length_le (Nat.le_refl _)] at hm
    exact hm
  ·rintro σ H5 ⟨s5,xs,v5,v6,v7,v8,rfl,hx,hm,hb⟩
   rw[e1,List.take_of_length_le (Nat.le_refl _)] at hm
   exact⟨_,rfl,k l xs H5 (t3.free hl) hx hm (t3.trans s5)⟩
def kN (K:W.Frag):Sp:=fun vs H Q _=>∃(a:Addr) (ns:List Int) (i:Int),vs=[.ref a,.int i]∧aS K H a (ns.map V.int)∧0≤i∧∀ r:Int,Q (.int r) H
theorem qI:bf P w K mg base gM 1 (ay 13) (bI 13) ["_law_script", "_law_k"] (kN K):=by
 refine T.lF.ok qF (fun vs H Q E h=>?_) (fun cdv A outer s H vs Q E hr h=>?_)
 ·obtain⟨a,ns,i,rfl,_⟩:=h;rfl
 ·have hu:=dW hr
  have tu:=hr.bN
  obtain⟨a,ns,i,rfl,hS,hi,k⟩:=h
  refine⟨_,(au (dz (rC Dp (pv 1) (j3 (bx K rfl) T.fN (af (pv 0) ao ak))) (aA (aY (iW K (pv 0) (pv 1)))) br)
   (aA (aY aj))),?_⟩
  refine⟨_,rfl,_,rfl,a,_,rfl,.inl hS,_,_,rfl,rfl,_,rfl,?_⟩
  refine pR (fun hc=>?_) (fun _=>?_)
  ·have hlt:=of_decide_eq_true hc
   obtain⟨v,ev,hv⟩:=pT hi hlt
   obtain⟨r,_,rfl⟩:=List.mem_map.mp hv
   exact⟨_,rfl,_,rfl,a,_,_,_,rfl,rfl,hS,ev,k r⟩
  ·exact k 0
def gD:Sp:=fun vs H Q _=>∃ a b:Int,vs=[.int a,.int b]∧0≤a∧a < 4294967296∧0≤b∧b < 65536∧∀ r:Int,0≤r→r < 49979687→Q (.int r) H
theorem nk:bf P w K mg base gM 1 (ay 14) (bI 14) ["_law_number_here", "_law_salt"] gD:=by
 refine T.fD.ok jz (fun vs H Q E h=>?_) (fun cdv A outer s H vs Q E hr h=>?_)
 ·obtain⟨a,b,rfl,_⟩:=h;rfl
 ·have hu:=dW hr
  have tu:=hr.bN
  obtain⟨a,b,rfl,ha,ha',hb,hb',k⟩:=h
  refine⟨_,(au (oF 2 jz.nd (aB bz (aB dB (aB eZ (pv 0) (aB dB aj (aB eZ aj (pv 1)))) (aB eZ aj (pv 1))) aj) (hs:=cj))
   (au (oF 3 jz.nd (aB bz (aB dB (aB eZ (pv 2) (pv 2)) (pv 1)) aj) (hs:=cj))
   (aA (aY (aB bz (aB dB (aB eZ (pv 3) (pv 3)) (pv 2)) aj))))),?_⟩
  refine⟨_,rfl,_,rfl,_,_,rfl,rfl,.inl ⟨by decide,by decide⟩,_,_,rfl,rfl,_,_,rfl,rfl,.inl ⟨by omega,by omega⟩,_,rfl,_,_,rfl,rfl,.inl ⟨by decide,by decide⟩,_,_,rfl,rfl,_,_,rfl,rfl,(by show(0:Int) < 15485863;decide),?_⟩
  have h1:=Int.emod_nonneg (a * (1299709+210 * b)+7919 * b) (show(15485863:Int)≠0 by decide)
  have h2:=Int.emod_lt_of_pos (a * (1299709+210 * b)+7919 * b) (show(0:Int) < 15485863 by decide)
  refine⟨_,rfl,_,rfl,_,_,rfl,rfl,.inl ⟨by omega,by omega⟩,_,rfl,_,_,rfl,rfl,_,_,rfl,rfl,(by show(0:Int) < 32452843;decide),?_⟩
  refine⟨_,rfl,_,rfl,_,_,rfl,rfl,.inl ⟨?_,?_⟩,_,rfl,_,_,rfl,rfl,_,_,rfl,rfl,(by show(0:Int) < 49979687;decide),?_⟩
  ·exact Int.lt_of_lt_of_le (by decide) (Int.emod_nonneg _ (by decide))
  ·exact Int.lt_trans (Int.emod_lt_of_pos _ (by decide)) (by decide)
  ·exact k _ (Int.emod_nonneg _ (by decide)) (Int.emod_lt_of_pos _ (by decide))
def lM:Sp:=fun vs H Q _=>∃ c s:Int,vs=[.int c,.int s]∧0≤s∧s < 60000∧∀ r:Int,Q (.int r) H
theorem sN:bf P w K mg base gM 2 (ay 15) (bI 15) ["_law_cell", "_law_salt"] lM:=by
 have fO:bf P w K mg base gM 1 (ay 14) (bI 14) ["_law_number_here", "_law_salt"] gD:=nk T
 refine T.ng.ok iX (fun vs H Q E h=>?_) (fun cdv A outer s H vs Q E hr h=>?_)
 ·obtain⟨c,s,rfl,_⟩:=h;rfl
 ·have hu:=dW hr
  have tu:=hr.bN
  obtain⟨c,sa,rfl,hs,hs',k⟩:=h
  refine⟨_,(au (dz (PW.pt (uQ (rC iu (aB bz (pv 0) aj) aj) (uP (rC GP (pv 0) (aB eZ aj (aB uT aj aj)))))) (aA (aY (aB Dm (aB cF (pv 0) aj) (aB uT aj aj)))) br)
   (au (oF 2 iX.nd (aB bz (pv 0) aj) (hs:=cj))
   (au (oF 3 iX.nd (aB dB (aB eZ (oq fO hr T.iH T.fD.kp T.iG (af (pv 2) (af (pv 1) ao ak) ak)) aj) (oq fO hr T.iH T.fD.kp T.iG (af (pv 2) (af (aB dB (pv 1) aj) ao bA) ak))) (hs:=cj))
   (aA (aY (aB dB (aB eZ (pv 3) aj) (oq fO hr T.iH T.fD.kp T.iG (af (pv 2) (af (aB dB (pv 1) aj) ao bA) ak)))))))),?_⟩
  have RO:Km 10 18:=⟨by decide,by decide,by decide⟩
  have n0:0≤c % 1000000007:=Int.emod_nonneg _ (by decide)
  have n1:c % 1000000007 < 4294967296:=Int.lt_trans (Int.emod_lt_of_pos _ (by decide)) (by decide)
  refine⟨_,rfl,_,_,rfl,rfl,(by show(0:Int) < 2;decide),rfl,_,rfl,?_⟩
  refine pR (fun _=>?_) (fun _=>?_)
  ·refine⟨_,rfl,_,_,rfl,rfl,RO,_,_,rfl,rfl,.inl ⟨by decide,by decide⟩,_,_,rfl,rfl,_,rfl,?_⟩
   refine pR (fun _=>?_) (fun _=>?_)
   ·exact⟨_,rfl,_,_,rfl,rfl,⟨by decide,by decide⟩,_,_,rfl,rfl,RO,_,_,rfl,rfl,k _⟩
   ·refine⟨_,rfl,_,_,rfl,rfl,(by show(0:Int) < 1000000007;decide),?_⟩
    refine⟨_,rfl,_,rfl,_,_,rfl,n0,n1,by omega,by omega,fun r1 _ _=>?_⟩
    refine⟨_,_,rfl,rfl,.inr ⟨by decide,by decide⟩,_,rfl,_,rfl,_,_,rfl,rfl,_,_,rfl,n0,n1,by omega,by omega,fun r2 _ _=>⟨_,_,rfl,rfl,?_⟩⟩
    refine⟨_,rfl,_,_,rfl,rfl,.inr ⟨by decide,by decide⟩,_,rfl,_,rfl,_,_,rfl,rfl,_,_,rfl,n0,n1,by omega,by omega,fun r3 _ _=>⟨_,_,rfl,rfl,k _⟩⟩
  ·refine⟨_,rfl,_,_,rfl,rfl,(by show(0:Int) < 1000000007;decide),?_⟩
   refine⟨_,rfl,_,rfl,_,_,rfl,n0,n1,by omega,by omega,fun r1 _ _=>?_⟩
   refine⟨_,_,rfl,rfl,.inr ⟨by decide,by decide⟩,_,rfl,_,rfl,_,_,rfl,rfl,_,_,rfl,n0,n1,by omega,by omega,fun r2 _ _=>⟨_,_,rfl,rfl,?_⟩⟩
   refine⟨_,rfl,_,_,rfl,rfl,.inr ⟨by decide,by decide⟩,_,rfl,_,rfl,_,_,rfl,rfl,_,_,rfl,n0,n1,by omega,by omega,fun r3 _ _=>⟨_,_,rfl,rfl,k _⟩⟩
def oV:Sp:=fun vs H Q _=>∃(n m:Int) (me:Str),vs=[.int n,.int m,.str me]∧Mn me∧0≤m∧m≤3∧∀(t:Addr) (z:Str) (r:Int),Sg z→(z.length:Int)≤m→(1≤m→1≤z.length)→H t=none→Q (.ref t) (upd H t (.tup [.str z,.int r]))
theorem vB:bf P w K mg base gM 1 (ay 16) (bI 16) ["_law_number_here", "_law_many", "_law_menu"] oV:=by
 refine T.jl.ok dU (fun vs H Q E h=>?_) (fun cdv A outer s H vs Q E hr h=>?_)
 ·obtain⟨n,m,me,rfl,_⟩:=h;rfl
 ·have hu:=dW hr
  have tu:=hr.bN
  obtain⟨n,m,me,rfl,⟨hm1,hm2,Uo⟩,h0,h3,k⟩:=h
  have hml:me.length≤sizeLine:=Nat.le_trans hm2 (by decide)
  refine⟨_,(au (oF 3 dU.nd aI (hs:=qq))
   (au (j7 PassesOwn.never rfl (jD rfl T.i8 (af (pv 1) ao ak)) (mQ 4 dU.nd)
   (au (oF 5 dU.nd (DE HJ (pv 2) (aB bz (pv 0) (j3 iE T.fN (af (pv 2) ao ak))) (fun _ _=>rfl)) (hs:=vh))
   (au (oF 0 dU.nd (aB cF (pv 0) (j3 iE T.fN (af (pv 2) ao ak))) (hs:=cj))
   (aA (dz (AJ uZ (pv 5) (pv 3) rfl) (aA (oF 3 dU.nd (aB yP (pv 3) (pv 5)) (hs:=cj))) br)))))
   (aA (aY (eo (af (pv 3) (af (pv 0) ao ak) ak)))))),?_⟩
  refine⟨_,rfl,m,rfl,by omega,by omega,?_⟩
  refine pN (fun i σ H2=>H2=H∧∃(r:Int) (z:Str) (v1 v2:Option V),σ=[some (.int r),some (.int m),some (.str me),some (.str z),v1,v2]∧Sg z∧z.length≤i∧(1≤i→1≤z.length)) ⟨rfl,n,_,_,_,rfl,IB,by decide,fun z=>absurd z (by decide)⟩ ?_ ?_
  ·rintro i σ H2 hi ⟨rfl,r,z,v1,v2,rfl,g,hz,hz1⟩
   have hlen:me.cps.toList.length=me.length:=by rw[Array.length_toList];rfl
   obtain⟨c,ec,hc⟩:=pT (xs:=me.cps.toList) (Int.emod_nonneg r (show(me.length:Int)≠0 by omega)) (by rw[hlen];exact Int.emod_lt_of_pos r (by omega))
   refine⟨_,rfl,_,rfl,_,rfl,me,rfl,hml,_,_,rfl,rfl,(by show(0:Int) < me.length;omega),me,_,c,rfl,rfl,hml,ec,?_⟩
   refine⟨_,rfl,_,rfl,me,rfl,hml,_,_,rfl,rfl,⟨by show(0:Int) < me.length;omega,by show(me.length:Int) < 1073741824;omega⟩,?_⟩
   refine⟨_,rfl,_,rfl,_,_,rfl,rfl,_,rfl,?_⟩
   refine pR (fun ha=>?_) (fun ha=>?_)
   ·have e1:(z++(⟨#[c]⟩:Str)).length=z.length+1:=Gr _ _
    refine⟨_,rfl,_,rfl,_,_,rfl,rfl,?_,rfl,_,_,_,_,rfl,IA g (Uo c hc) ha,by rw[e1];omega,fun _=>by rw[e1];omega⟩
    exact Nat.le_trans (show z.length+1≤5 by omega) (by decide)
   ·refine⟨rfl,_,_,_,_,rfl,g,by omega,fun _=>?_⟩
    have hin:c∈z.cps.toList:=Classical.byContradiction fun q=>ha ((xH z c).mpr q)
    have:=List.length_pos_of_mem hin
    rw[Array.length_toList] at this
    exact this
  ·rintro σ H2 ⟨rfl,r,z,v1,v2,rfl,g,hz,hz1⟩
   exact⟨_,rfl,_,rfl,(by show 2≤sizeLine;decide),fun t ht=>k t z r g (by omega) (fun q=>hz1 (by omega)) ht⟩
def nt:Sp:=fun vs H Q _=>∃ n:Int,vs=[.int n]∧∀(l:Addr) (m1 m2 m3:Str),Mn m1→Mn m2→Mn m3→H l=none→Q (.ref l) (upd H l (.lst [.str m1,.str m2,.str m3]))
theorem tO:bf P w K mg base gM 1 (ay 17) (bI 17) ["_law_way"] nt:=by
 refine T.oQ.ok nc (fun vs H Q E h=>?_) (fun cdv A outer s H vs Q E hr h=>?_)
 ·obtain⟨n,rfl,_⟩:=h;rfl
 ·have hu:=dW hr
  have tu:=hr.bN
  obtain⟨n,rfl,k⟩:=h
  refine⟨_,(au (oF 1 nc.nd aI (hs:=qq))
   (au (dz (rC iu (pv 0) aj) (aA (aY (bE (af aI (af aI (af aI ao aq) aq) aq)))) br)
   (au (dz (rC iu (pv 0) aj) (aA (aY (bE (af aI (af aI (af aI ao aq) aq) aq)))) br)
   (aA (aY (bE (af (pv 1) (af (pv 1) (af (pv 1) ao ak) ak) ak))))))),?_⟩
  refine⟨_,rfl,rfl,_,rfl,?_⟩
  refine pR (fun _=>?_) (fun _=>?_)
  ·exact⟨by decide,fun l hl=>k l _ _ _ (by decide +kernel) (by decide +kernel) (by decide +kernel) hl⟩
  ·refine⟨_,rfl,rfl,_,rfl,?_⟩
   refine pR (fun _=>?_) (fun _=>?_)
   ·exact⟨by decide,fun l hl=>k l _ _ _ (by decide +kernel) (by decide +kernel) (by decide +kernel) hl⟩
   ·exact⟨_,rfl,_,rfl,_,rfl,by decide,fun l hl=>k l _ _ _ (by decide +kernel) (by decide +kernel) (by decide +kernel) hl⟩
def oW:Sp:=fun vs H Q _=>∃ c:Int,vs=[.int c]∧∀(t:Addr) (p q f:Str) (b1 b2 b3 b4:Bool) (H':Hp),Gd p q f→H t=none→H' t=some (.tup (uG p q f b1 b2 b3 b4))→aE H H'→Q (.ref t) H'
theorem vC:bf P w K mg base gM 3 (ay 18) (bI 18) ["_law_cell"] oW:=by
 have vD:bf P w K mg base gM 1 (ay 17) (bI 17) ["_law_way"] nt:=tO T
 have tP:bf P w K mg base gM 2 (ay 15) (bI 15) ["_law_cell", "_law_salt"] lM:=sN T
 have lN:bf P w K mg base gM 1 (ay 16) (bI 16) ["_law_number_here", "_law_many", "_law_menu"] oV:=vB T
 refine T.qu.ok bg (fun vs H Q E h=>?_) (fun cdv A outer s H vs Q E hr h=>?_)
 ·obtain⟨c,rfl,_⟩:=h;rfl
 ·have hu:=dW hr
  have tu:=hr.bN
  obtain⟨c,rfl,k⟩:=h
  refine⟨_,(au (oF 1 bg.nd (oq tP hr T.tL T.ng.kp T.tK (af (pv 0) (af aj ao aq) ak)) (hs:=mD))
   (au (oF 2 bg.nd (aB bz (pv 1) aj) (hs:=cj))
   (au (oF 3 bg.nd (bE (af (aB dB aj (aB bz (aB cF (pv 1) aj) aj)) (af (aB bz (aB cF (pv 1) aj) aj) (af (aB bz (aB cF (pv 1) aj) aj) ao bA) bA) bA)) (hs:=jk))
   (au (oF 4 bg.nd (oq vD hr T.vv T.oQ.kp T.vt (af (aB bz (aB cF (pv 1) aj) aj) ao bA)) (hs:=mD))
   (au (j6 (oq lN hr T.lH T.jl.kp T.lG (af (aB cF (pv 1) aj) (af (iW K (pv 3) aj) (af (iW K (pv 4) aj) ao az) az) bA)) (vd K rfl 2 rfl (jC (mQ 5 bg.nd) (jC (mQ 1 bg.nd) uR))))
   (au (j6 (oq lN hr T.lH T.jl.kp T.lG (af (pv 1) (af (iW K (pv 3) aj) (af (iW K (pv 4) aj) ao az) az) ak)) (vd K rfl 2 rfl (jC (mQ 6 bg.nd) (jC (mQ 1 bg.nd) uR))))
   (au (j6 (oq lN hr T.lH T.jl.kp T.lG (af (pv 1) (af (iW K (pv 3) aj) (af (iW K (pv 4) aj) ao az) az) ak)) (vd K rfl 2 rfl (jC (mQ 7 bg.nd) (jC (mQ 1 bg.nd) uR))))
   (au (oF 8 bg.nd (bE (af (Dd iu (aB bz (pv 2) aj) aj) (af (Dd iu (aB bz (aB cF (pv 2) aj) aj) aj) (af (Dd iu (aB bz (aB cF (pv 2) aj) aj) aj) (af (Dd iu (aB bz (aB cF (pv 2) aj) aj) aj) ao kh) kh) kh) kh)) (hs:=jk))
   (aA (aY (eo (af (pv 5) (af (pv 6) (af (pv 7) (af (iW K (pv 8) aj) (af (iW K (pv 8) aj) (af (iW K (pv 8) aj) (af (iW K (pv 8) aj) ao az) az) az) az) ak) ak) ak)))))))))))),?_⟩
  refine⟨_,rfl,_,_,rfl,by decide,by decide,fun n=>?_⟩
  refine⟨_,rfl,_,_,rfl,rfl,(by show(0:Int) < 16;decide),?_⟩
  refine⟨_,rfl,_,_,rfl,rfl,⟨by decide,by decide⟩,_,_,rfl,rfl,(by show(0:Int) < 3;decide),_,_,rfl,rfl,_,rfl,_,_,rfl,rfl,⟨by decide,by decide⟩,_,_,rfl,rfl,(by show(0:Int) < 3;decide),_,rfl,_,_,rfl,rfl,⟨by decide,by decide⟩,_,_,rfl,rfl,(by show(0:Int) < 3;decide),(by show 3≤sizeLine;decide),fun l hl=>?_⟩
  have m1:=Int.emod_nonneg (n / 16) (show(3:Int)≠0 by decide)
  have Yh:=Int.emod_lt_of_pos (n / 16) (show(0:Int) < 3 by decide)
  have m2:=Int.emod_nonneg (n / 48) (show(3:Int)≠0 by decide)
  have Yi:=Int.emod_lt_of_pos (n / 48) (show(0:Int) < 3 by decide)
  have m3:=Int.emod_nonneg (n / 144) (show(3:Int)≠0 by decide)
  have Yj:=Int.emod_lt_of_pos (n / 144) (show(0:Int) < 3 by decide)
  have h1:(upd H l (.lst [.int (1+n / 16 % 3),.int (n / 48 % 3),.int (n / 144 % 3)])) l=some (.lst [.int (1+n / 16 % 3),.int (n / 48 % 3),.int (n / 144 % 3)]):=ah
  have s1:aE H (upd H l (.lst [.int (1+n / 16 % 3),.int (n / 48 % 3),.int (n / 144 % 3)])):=ai hl
  generalize upd H l (.lst [.int (1+n / 16 % 3),.int (n / 48 % 3),.int (n / 144 % 3)])=H1 at h1 s1 ⊢
  refine⟨_,rfl,_,_,rfl,rfl,⟨by decide,by decide⟩,_,_,rfl,rfl,(by show(0:Int) < 3;decide),_,rfl,fun l2 e1 e2 e3 g1 g2 g3 hl2=>?_⟩
  have h2:(upd H1 l2 (.lst [.str e1,.str e2,.str e3])) l2=some (.lst [.str e1,.str e2,.str e3]):=ah
  have s2:aE H1 (upd H1 l2 (.lst [.str e1,.str e2,.str e3])):=ai hl2
  generalize upd H1 l2 (.lst [.str e1,.str e2,.str e3])=H2 at h2 s2 ⊢
  have h12:=s2 _ _ h1
  refine⟨_,rfl,_,_,rfl,rfl,⟨by decide,by decide⟩,_,rfl,l,_,_,_,rfl,rfl,aS.of h12,rfl,_,rfl,l2,_,_,_,rfl,rfl,aS.of h2,rfl,_,_,_,rfl,g1,by omega,by omega,fun t1 p r1 gp lp Pc ht1=>?_⟩
  refine⟨t1,_,rfl,iN.of ah,rfl,_,_,rfl,_,_,rfl,rfl,?_⟩
  have s3:aE H2 (upd H2 t1 (.tup [.str p,.int r1])):=ai ht1
  generalize upd H2 t1 (.tup [.str p,.int r1])=H3 at s3 ⊢
  refine⟨_,rfl,_,rfl,l,_,_,_,rfl,rfl,aS.of (s3 _ _ h12),rfl,_,rfl,l2,_,_,_,rfl,rfl,aS.of (s3 _ _ h2),rfl,_,_,_,rfl,g2,by omega,by omega,fun t2 q r2 gq lq Yk Up=>?_⟩
  refine⟨t2,_,rfl,iN.of ah,rfl,_,_,rfl,_,_,rfl,rfl,?_⟩
  have s4:aE H3 (upd H3 t2 (.tup [.str q,.int r2])):=ai Up
  generalize upd H3 t2 (.tup [.str q,.int r2])=H4 at s4 ⊢
  refine⟨_,rfl,_,rfl,l,_,_,_,rfl,rfl,aS.of (s4 _ _ (s3 _ _ h12)),rfl,_,rfl,l2,_,_,_,rfl,rfl,aS.of (s4 _ _ (s3 _ _ h2)),rfl,_,_,_,rfl,g3,by omega,by omega,fun t3 f r3 gf lf Rr Uq=>?_⟩
  refine⟨t3,_,rfl,iN.of ah,rfl,_,_,rfl,_,_,rfl,rfl,?_⟩
  have s5:aE H4 (upd H4 t3 (.tup [.str f,.int r3])):=ai Uq
  generalize upd H4 t3 (.tup [.str f,.int r3])=H5 at s5 ⊢
  refine⟨_,rfl,_,_,rfl,rfl,(by show(0:Int) < 2;decide),rfl,_,rfl,_,_,rfl,rfl,⟨by decide,by decide⟩,_,_,rfl,rfl,(by show(0:Int) < 2;decide),rfl,_,rfl,_,_,rfl,rfl,⟨by decide,by decide⟩,_,_,rfl,rfl,(by show(0:Int) < 2;decide),rfl,_,rfl,_,_,rfl,rfl,⟨by decide,by decide⟩,_,_,rfl,rfl,(by show(0:Int) < 2;decide),rfl,(by show 4≤sizeLine;decide),fun l6 Ur=>?_⟩
  have s6:=ai (o:=HO.lst [.bl (decide (V.int (n % 16 % 2)=V.int 1)),.bl (decide (V.int (n % 16 / 2 % 2)=V.int 1)),.bl (decide (V.int (n % 16 / 4 % 2)=V.int 1)),.bl (decide (V.int (n % 16 / 8 % 2)=V.int 1))]) Ur
  refine⟨_,rfl,_,rfl,_,rfl,_,rfl,l6,_,_,_,rfl,rfl,aS.of ah,rfl,_,rfl,l6,_,_,_,rfl,rfl,aS.of ah,rfl,_,rfl,l6,_,_,_,rfl,rfl,aS.of ah,rfl,_,rfl,l6,_,_,_,rfl,rfl,aS.of ah,rfl,(by show 7≤sizeLine;decide),fun t ht=>?_⟩
  have Lp:=((((s1.trans s2).trans s3).trans s4).trans s5).trans s6
  exact k t p q f _ _ _ _ _ ⟨gp,gq,gf,Pc (by omega),by omega,by omega,by omega⟩ (Lp.free ht) ah (Lp.trans (ai ht))
def nu:Sp:=fun vs H Q _=>∃(c m:Int),vs=[.int c,.int m]∧0≤m∧m≤1000∧∀(l:Addr) (ns:List Int) (H':Hp),ns.length=m.toNat→(∀ n∈ns,0≤n)→H l=none→H' l=some (.lst (ns.map V.int))→aE H H'→Q (.ref l) H'
theorem tQ:bf P w K mg base gM 2 (ay 19) (bI 19) ["_law_cell", "_law_many"] nu:=by
 have fO:bf P w K mg base gM 1 (ay 14) (bI 14) ["_law_number_here", "_law_salt"] gD:=nk T
 refine T.oR.ok cZ (fun vs H Q E h=>?_) (fun cdv A outer s H vs Q E hr h=>?_)
 ·obtain⟨c,m,rfl,_⟩:=h;rfl
 ·have hu:=dW hr
  have tu:=hr.bN
  obtain⟨c,m,rfl,hm,hm',k⟩:=h
  refine⟨_,(au (dz (PW.pt (ow (rC iu (aB bz (pv 0) aj) aj) (pK (rC Dp (pv 0) (aB eZ aj (aB uT aj aj)))))) (au (oF 2 cZ.nd (aB bz (pv 0) aj) (hs:=cj))
   (aA (aY (iF rfl (show aK ["_law_cell", "_law_many", "_law_number_here", "_law_found", "_law_k"] (av dS) ["_law_k", "_law_number_here"] 1 [2] _ from wQ) (jD rfl T.i8 (af (pv 1) ao ak)) (fun _ _ _ _=>(mQ 0 (show(["_law_k", "_law_number_here"]:List Str).Nodup by decide +kernel))) (fun _ _ _ _=>bW) (fun _ _ _ _=>(oq fO hr T.iH T.fD.kp T.iG (af (pv 1) (af (aB dB aj (aB eZ aj (pv 0))) ao bA) ak))))))) br)
   (au (oF 3 cZ.nd (bE ao) (hs:=jk))
   (au (oF 2 cZ.nd (aB Dm (aB cF (pv 0) aj) (aB uT aj aj)) (hs:=cj))
   (au (j7 PassesOwn.never rfl (jD rfl T.i8 (af (pv 1) ao ak)) (mQ 4 cZ.nd)
   (au (rm (yZ K rfl PySem.F.plainAttrs_list PySem.F.slot_list_append PySem.F.type_list_append mq (pv 3) (af (aB bz (pv 2) aj) ao bA)))
   (aA (oF 2 cZ.nd (aB cF (pv 2) aj) (hs:=cj)))))
   (aA (aY (pv 3))))))),?_⟩
  refine⟨_,rfl,_,_,rfl,rfl,(by show(0:Int) < 2;decide),rfl,_,rfl,?_⟩
  have Lq:∀{D:Addr}{v:Option V},H D=none→oA (GN 0 m.toNat) (ig 0) HR (AL gD [] E0 (Dw (Bk 1) (Dw (E5 (Fl fun i j=>.int (i+j)) (tC (.int 71)) (E5 (rI Fp fun i j=>.int (i * j)) (tC (.int 2)) (Bk 0))) Kq))) Q D [none,some (.int (c % 1000000007))] H:=by
   intro D v hD
   refine rW (fun i ys τ H2=>(∃ v,τ=[v,some (.int (c % 1000000007))])∧aE H H2∧H2 D=some (.lst ys)∧∃ ns:List Int,ys=ns.map V.int∧ns.length=i∧∀ n∈ns,0≤n) ⟨⟨_,rfl⟩,ai hD,ah,[],rfl,rfl,fun _ z=>nomatch z⟩ (fun i ys τ H2 _ p=>p.2.2.1) ?_ ?_
   ·rintro i ys τ H2 hi ⟨⟨v,rfl⟩,s2,hl,ns,rfl,hn,hp⟩
    refine kQ ?_
    refine⟨_,rfl,_,rfl,_,_,rfl,rfl,.inl ⟨by decide,by decide⟩,_,_,rfl,rfl,_,_,rfl,Int.emod_nonneg _ (by decide),Int.lt_trans (Int.emod_lt_of_pos _ (by decide)) (by decide),by omega,by omega,fun r hr0 _=>?_⟩
    refine⟨hl,?_,⟨_,rfl⟩,aL hD s2,ah,ns++[r],by rw[List.map_append];rfl,by rw[List.length_append,hn];rfl,fun n hn'=>?_⟩
    ·rw[List.length_map,hn]
     exact Nat.lt_of_lt_of_le (show i < 1000 by omega) (by decide)
    ·rcases List.mem_append.mp hn' with z | z
     ·exact hp n z
     ·rw[List.mem_singleton.mp z];exact hr0
   ·rintro ys τ H2 ⟨⟨v,rfl⟩,s2,hl,ns,rfl,hn,hp⟩
    exact k D ns H2 hn hp hD hl s2
  refine pR (fun _=>?_) (fun _=>?_)
  ·refine jF ?_
   refine⟨_,rfl,_,_,rfl,rfl,(by show(0:Int) < 1000000007;decide),?_⟩
   exact⟨_,rfl,m,rfl,by omega,by omega,fun D hD=>Lq (v:=none) hD⟩
  ·refine⟨_,rfl,_,_,rfl,rfl,⟨by decide,by decide,by decide⟩,_,_,rfl,rfl,.inl ⟨by decide,by decide⟩,_,_,rfl,rfl,_,rfl,?_⟩
   refine pR (fun _=>?_) (fun _=>?_)
   ·refine⟨_,rfl,_,_,rfl,rfl,(by show(0:Int) < 1000000007;decide),?_⟩
    exact⟨_,rfl,m,rfl,by omega,by omega,fun D hD=>Lq (v:=none) hD⟩
   ·refine⟨by decide,fun l hl=>?_⟩
    refine⟨_,rfl,_,_,rfl,rfl,⟨by decide,by decide⟩,_,_,rfl,rfl,⟨by decide,by decide,by decide⟩,_,_,rfl,rfl,?_⟩
    refine⟨_,rfl,m,rfl,by omega,by omega,?_⟩
    refine pN (fun i σ H2=>aE H H2∧∃(x:Int) (v:Option V) (ns:List Int),σ=[some (.int c),some (.int m),some (.int x),some (.ref l),v]∧H2 l=some (.lst (ns.map V.int))∧ns.length=i∧∀ n∈ns,0≤n) ⟨ai hl,_,_,[],rfl,ah,rfl,fun _ z=>nomatch z⟩ ?_ ?_
    ·rintro i σ H2 hi ⟨s2,x,v,ns,rfl,hq,hn,hp⟩
     refine⟨_,rfl,.inl ⟨rfl,_,aS.of hq⟩,_,rfl,_,_,rfl,rfl,(by show(0:Int) < 4096;decide),l,_,_,rfl,rfl,hq,?_,?_⟩
     ·rw[List.length_map,hn]
      exact Nat.lt_of_lt_of_le (show i < 1000 by omega) (by decide)
     ·refine⟨_,rfl,_,_,rfl,rfl,⟨by decide,by decide⟩,?_⟩
      refine⟨aL hl s2,_,_,ns++[x % 4096],rfl,?_,by rw[List.length_append,hn];rfl,fun n hn'=>?_⟩
      ·rw[ah,List.map_append];rfl
      ·rcases List.mem_append.mp hn' with z | z
       ·exact hp n z
       ·rw[List.mem_singleton.mp z];exact Int.emod_nonneg _ (by decide)
    ·rintro σ H2 ⟨s2,x,v,ns,rfl,hq,hn,hp⟩
     exact⟨_,rfl,k l ns H2 hn hp hl hq s2⟩
def ny (K:W.Frag) (Ds:List Addr):Sp:=fun vs H Q _=>∃(ea C B:Addr) (f:Nat→Bool),vs=[.ref ea]∧Gg H ea C∧O5 K C B Ds f∧∀ l H',aE H H'→H' l=some (.lst ((List.range 11).map fun j=>.bl (f j)))→Q (.ref l) H'
theorem tR:A0 P w K mg base 1 (ay 20) (bI 20) ["_law_e"] (ny K [(ay 30),(ay 32),(ay 34),(ay 36),(ay 38),(ay 40),(ay 42),(ay 44),(ay 46),(ay 48),(ay 50)]):=by
 refine T.kr.T9 jA (fun vs H Q E h=>?_) (fun cdv A outer s H vs Q E hr h=>?_)
 ·obtain⟨ea,C,B,f,rfl,_⟩:=h;rfl
 ·have hu:=hr.hu
  have tu:=hr.bN
  obtain⟨ea,C,B,f,rfl,xo,x1,k⟩:=h
  obtain⟨⟨N,bm,ini,xc,tl⟩,xk,ask,_,_⟩:=x1
  refine⟨_,(au (oF 1 jA.nd (bE (af (j3 (cI rfl) T.aG (af (pv 0) (af (e8 rfl T.Ep) ao ak) ak)) (af (j3 (cI rfl) T.aG (af (pv 0) (af (e8 rfl T.BI) ao ak) ak)) (af (j3 (cI rfl) T.aG (af (pv 0) (af (e8 rfl T.dJ) ao ak) ak)) (af (j3 (cI rfl) T.aG (af (pv 0) (af (e8 rfl T.nR) ao ak) ak)) ao bP) bP) bP) bP)) (hs:=jk))
   (au (oF 1 jA.nd (aB j8 (pv 1) (bE (af (j3 (cI rfl) T.aG (af (pv 0) (af (e8 rfl T.Er) ao ak) ak)) (af (j3 (cI rfl) T.aG (af (pv 0) (af (e8 rfl T.Gz) ao ak) ak)) (af (j3 (cI rfl) T.aG (af (pv 0) (af (e8 rfl T.GA) ao ak) ak)) (af (j3 (cI rfl) T.aG (af (pv 0) (af (e8 rfl T.Es) ao ak) ak)) ao bP) bP) bP) bP))) (hs:=cj))
   (aA (aY (aB j8 (pv 1) (bE (af (j3 (cI rfl) T.aG (af (pv 0) (af (e8 rfl T.pW) ao ak) ak)) (af (j3 (cI rfl) T.aG (af (pv 0) (af (e8 rfl T.Eu) ao ak) ak)) (af (j3 (cI rfl) T.aG (af (pv 0) (af (e8 rfl T.x6) ao ak) ak)) ao bP) bP) bP))))))),?_⟩
  refine⟨_,rfl,ea,C,N,bm,ini,_,f 0,rfl,xo,xc,tl,xk,.inr ⟨_,rfl,ask 0 _ rfl⟩,_,rfl,ea,C,N,bm,ini,_,f 1,rfl,xo,xc,tl,xk,.inr ⟨_,rfl,ask 1 _ rfl⟩,_,rfl,ea,C,N,bm,ini,_,f 2,rfl,xo,xc,tl,xk,.inr ⟨_,rfl,ask 2 _ rfl⟩,_,rfl,ea,C,N,bm,ini,_,f 3,rfl,xo,xc,tl,xk,.inr ⟨_,rfl,ask 3 _ rfl⟩,(by show(4:Nat)≤sizeLine;decide),fun l1 h1=>?_⟩
  have e1:(upd H l1 (.lst [.bl (f 0),.bl (f 1),.bl (f 2),.bl (f 3)])) l1=some (.lst [.bl (f 0),.bl (f 1),.bl (f 2),.bl (f 3)]):=ah
  have s1:=ai (o:=HO.lst [.bl (f 0),.bl (f 1),.bl (f 2),.bl (f 3)]) h1
  generalize upd H l1 (.lst [.bl (f 0),.bl (f 1),.bl (f 2),.bl (f 3)])=H1 at e1 s1 ⊢
  have Lr:=xo.mono s1
  refine⟨_,rfl,_,rfl,ea,C,N,bm,ini,_,f 4,rfl,Lr,xc,tl,xk,.inr ⟨_,rfl,ask 4 _ rfl⟩,_,rfl,ea,C,N,bm,ini,_,f 5,rfl,Lr,xc,tl,xk,.inr ⟨_,rfl,ask 5 _ rfl⟩,_,rfl,ea,C,N,bm,ini,_,f 6,rfl,Lr,xc,tl,xk,.inr ⟨_,rfl,ask 6 _ rfl⟩,_,rfl,ea,C,N,bm,ini,_,f 7,rfl,Lr,xc,tl,xk,.inr ⟨_,rfl,ask 7 _ rfl⟩,(by show(4:Nat)≤sizeLine;decide),fun l2 h2=>?_⟩
  have e2:(upd H1 l2 (.lst [.bl (f 4),.bl (f 5),.bl (f 6),.bl (f 7)])) l2=some (.lst [.bl (f 4),.bl (f 5),.bl (f 6),.bl (f 7)]):=ah
  have s2:=ai (o:=HO.lst [.bl (f 4),.bl (f 5),.bl (f 6),.bl (f 7)]) h2
  generalize upd H1 l2 (.lst [.bl (f 4),.bl (f 5),.bl (f 6),.bl (f 7)])=H2 at e2 s2 ⊢
  refine⟨l1,l2,_,_,rfl,rfl,s2 _ _ e1,e2,(by show(8:Nat)≤sizeLine;decide),fun l3 h3=>?_⟩
  have e3:(upd H2 l3 (.lst ([.bl (f 0),.bl (f 1),.bl (f 2),.bl (f 3)]++[.bl (f 4),.bl (f 5),.bl (f 6),.bl (f 7)]))) l3=some (.lst ([.bl (f 0),.bl (f 1),.bl (f 2),.bl (f 3)]++[.bl (f 4),.bl (f 5),.bl (f 6),.bl (f 7)])):=ah
  have s3:=ai (o:=HO.lst ([.bl (f 0),.bl (f 1),.bl (f 2),.bl (f 3)]++[.bl (f 4),.bl (f 5),.bl (f 6),.bl (f 7)])) h3
  generalize upd H2 l3 (.lst ([.bl (f 0),.bl (f 1),.bl (f 2),.bl (f 3)]++[.bl (f 4),.bl (f 5),.bl (f 6),.bl (f 7)]))=H3 at e3 s3 ⊢
  have Pg:=(Lr.mono s2).mono s3
  refine⟨_,rfl,_,rfl,ea,C,N,bm,ini,_,f 8,rfl,Pg,xc,tl,xk,.inr ⟨_,rfl,ask 8 _ rfl⟩,_,rfl,ea,C,N,bm,ini,_,f 9,rfl,Pg,xc,tl,xk,.inr ⟨_,rfl,ask 9 _ rfl⟩,_,rfl,ea,C,N,bm,ini,_,f 10,rfl,Pg,xc,tl,xk,.inr ⟨_,rfl,ask 10 _ rfl⟩,(by show(3:Nat)≤sizeLine;decide),fun l4 h4=>?_⟩
  have e4:(upd H3 l4 (.lst [.bl (f 8),.bl (f 9),.bl (f 10)])) l4=some (.lst [.bl (f 8),.bl (f 9),.bl (f 10)]):=ah
  have s4:=ai (o:=HO.lst [.bl (f 8),.bl (f 9),.bl (f 10)]) h4
  generalize upd H3 l4 (.lst [.bl (f 8),.bl (f 9),.bl (f 10)])=H4 at e4 s4 ⊢
  refine⟨l3,l4,_,_,rfl,rfl,s4 _ _ e3,e4,(by show(11:Nat)≤sizeLine;decide),fun l5 h5=>?_⟩
  exact k l5 _ ((((s1.trans s2).trans s3).trans s4).trans (ai h5)) ah
def oX (K:W.Frag):Sp:=fun vs H Q _=>∃(c:Int),vs=[.int c]∧∀(l l1 l2 l3 l4:Addr) (ps qs fs:List Str) (ts:List V) (bs:List B4) (H':Hp),aE H H'→H' l=some (.lst [.ref l1,.ref l2,.ref l3,.ref l4])→H' l1=some (.lst (ps.map V.str))→H' l2=some (.lst (qs.map V.str))→H' l3=some (.lst (fs.map V.str))→H' l4=some (.lst ts)→zf H' ts bs→ps.length=2→qs.length=4→fs.length=1→bs.length=3→Ny ps qs fs bs→Q (.ref l) H'
theorem vE:bf P w K mg base gM 4 (ay 21) (bI 21) ["_law_cell"] (oX K):=by
 have x8:bf P w K mg base gM 3 (ay 18) (bI 18) ["_law_cell"] oW:=vC T
 refine T.qv.ok kj (fun vs H Q E h=>?_) (fun cdv A outer s H vs Q E hr h=>?_)
 ·obtain⟨c,rfl,_⟩:=h;rfl
 ·have hu:=dW hr
  have tu:=hr.bN
  obtain⟨c,rfl,k⟩:=h
  refine⟨_,(au (kg (i:=1) rfl kj.nd rfl rfl (show aK ["_law_cell", "_law_tolds", "_law_truths"] (av cu) ["_law_k", "_law_cell"] 1 [0] _ from wQ) (jD rfl T.i8 (af aj ao aq)) (fun _ _ _ _=>(mQ 0 (show(["_law_k", "_law_cell"]:List Str).Nodup by decide +kernel))) (fun _ _ _ _=>bW) (fun _ _ _ _=>(oq x8 hr T.xU T.qu.kp T.xT (af (aB dB (pv 1) (aB eZ aj (pv 0))) ao bA))))
   (au (kg (i:=2) rfl kj.nd rfl rfl (show aK ["_law_cell", "_law_tolds", "_law_truths"] (av cu) ["_law_told_here"] 1 [] _ from wQ) (bG K rfl (gK (iT K rfl) (pv 1) jf (jg aj))) (fun _ _ _ _=>(mQ 0 xG)) (fun _ _ _ _=>bW) (fun _ _ _ _=>(gK (FL K rfl) (pv 0) (jg aj) jf)))
   (aA (aY (bE (af (iF rfl (show aK ["_law_cell", "_law_tolds", "_law_truths"] (av cu) ["_law_told_here"] 1 [] _ from wQ) (bG K rfl (gK (iT K rfl) (pv 1) jf (jg aj))) (fun _ _ _ _=>(mQ 0 xG)) (fun _ _ _ _=>bW) (fun _ _ _ _=>(E6 K (pv 0) aj))) (af (iF rfl (show aK ["_law_cell", "_law_tolds", "_law_truths"] (av cu) ["_law_told_here"] 1 [] _ from wQ) (bG K rfl (pv 1)) (fun _ _ _ _=>(mQ 0 xG)) (fun _ _ _ _=>bW) (fun _ _ _ _=>(E6 K (pv 0) aj))) (af (bE (af (E6 K (iW K (pv 1) aj) aj) ao az)) (af (pv 2) ao ak) rB) cM) cM)))))),?_⟩
  refine⟨4,rfl,by decide,by decide,fun D hD=>?_⟩
  refine rW (fun i ys τ J=>(∃ v,τ=[v,some (.int c)])∧aE H J∧J D=some (.lst ys)∧ys.length=i∧∀ y∈ys,Ej J y) ⟨⟨_,rfl⟩,ai hD,ah,rfl,(fun _ z=>nomatch z)⟩ (fun i ys τ J _ p=>p.2.2.1) ?_ ?_
  ·rintro i ys τ J hi ⟨⟨v,rfl⟩,sJ,hl,hyl,hys⟩
   have hi:i < 4:=by simpa using hi
   refine kQ ?_
   refine⟨_,rfl,_,rfl,_,_,rfl,rfl,.inl ⟨(by omega),(by omega)⟩,_,_,rfl,rfl,_,rfl,fun zz=>?_⟩
   intro p q f b1 b2 b3 b4 G gd hz0 hz s3
   have Ph:=s3 _ _ hl
   refine⟨Ph,?_,⟨_,rfl⟩,aL hD (sJ.trans s3),ah,by rw[List.length_append,hyl];rfl,fun y hy=>?_⟩
   ·rw[hyl];exact Nat.lt_of_lt_of_le hi (by decide)
   ·rcases List.mem_append.mp hy with z | z
    ·exact Ej.set Ph ((hys y z).mono s3)
    ·rw[List.mem_singleton.mp z];exact Ej.set Ph ⟨zz,p,q,f,b1,b2,b3,b4,rfl,hz,gd⟩
  rintro ys τ J ⟨⟨v,rfl⟩,sJ,hl,hyl,hys⟩
  have hyl:ys.length=4:=by simpa using hyl
  obtain⟨y0,y1,y2,y3,rfl⟩:∃ y0 y1 y2 y3,ys=[y0,y1,y2,y3]:=by
   match ys,hyl with
   | [y0,y1,y2,y3],_=>exact⟨_,_,_,_,rfl⟩
  dsimp only[ig]
  refine⟨_,rfl,_,rfl,_,_,rfl,aS.of hl,fun l3 hl3=>⟨_,rfl,⟨_,aS.of ah⟩,?_⟩⟩
  (have t1:=ai (o:=HO.lst (cR [y0,y1,y2,y3] none (some 3))) hl3;have u1:=ah (H:=J) (a:=l3) (o:=HO.lst (cR [y0,y1,y2,y3] none (some 3)));generalize upd J l3 (HO.lst (cR [y0,y1,y2,y3] none (some 3)))=J1 at t1 u1 ⊢)
  intro D2 RP
  have e3:cR [y0,y1,y2,y3] none (some 3)=[y0,y1,y2]:=rfl
  rw[e3] at u1
  refine bX (K:=K) (a:=l3) (xs:=[y0,y1,y2]) (fun i ys τ G=>(∃ v,τ=[v])∧aE J1 G∧G D2=some (.lst ys)∧∃ bs:List B4,zf G ys bs∧bs.length=i) ⟨⟨_,rfl⟩,ai RP,ah,[],.nil,rfl⟩ (fun i ys τ G _ p=>⟨aS.of (p.2.1 _ _ u1),p.2.2.1⟩) ?_ ?_
  ·rintro i e ws τ G hi ⟨⟨v,rfl⟩,sG,hG,bs,tr,IU⟩
   have hwl:=tr.length
   have hil:i < 3:=(List.getElem?_eq_some_iff.mp hi).1
   obtain⟨t,p,q,f,b1,b2,b3,b4,rfl,ht,gd⟩:=hys e (by have:=List.mem_of_getElem? hi;simp only[List.mem_cons,List.not_mem_nil,or_false] at this ⊢;rcases this with h | h | h <;> simp[h])
   have Ls:=sG _ _ (t1 _ _ ht)
   refine kQ ?_
   refine⟨_,rfl,_,rfl,_,_,rfl,iN.of Ls,?_,fun a1 ha1=>⟨(ai ha1 _ _ hG),?_,⟨_,rfl⟩,(aL RP (aL (sG.free ha1) sG)),ah,?_⟩⟩
   ·intro h
    have h2:HT.gh 7 0 (some 3)=0:=h.1
    exact absurd h2 (by decide)
   ·rw[hwl,IU];exact Nat.lt_of_lt_of_le hil (by decide)
   ·refine⟨bs++[⟨b1,b2,b3,b4⟩],?_,by rw[List.length_append,IU];rfl⟩
    have Us:=ai (o:=HO.tup (cR (uG p q f b1 b2 b3 b4) (some 3) none)) ha1 _ _ hG
    exact Gw Us (er (zf.mono (ai ha1) tr) (.cons ⟨a1,rfl,ah⟩ .nil))
  rintro ws τ J2 ⟨⟨v,rfl⟩,sG,hws,bs,tr,IU⟩
  have IU:bs.length=3:=IU
  dsimp only[ig]
  refine⟨_,rfl,_,rfl,_,_,rfl,aS.of (sG _ _ (t1 _ _ hl)),fun l5 Ut=>⟨_,rfl,⟨_,aS.of ah⟩,?_⟩⟩
  (have t3:=ai (o:=HO.lst (cR [y0,y1,y2,y3] none (some 2))) Ut;have w1:=ah (H:=J2) (a:=l5) (o:=HO.lst (cR [y0,y1,y2,y3] none (some 2)));generalize upd J2 l5 (HO.lst (cR [y0,y1,y2,y3] none (some 2)))=J3 at t3 w1 ⊢)
  have e2:cR [y0,y1,y2,y3] none (some 2)=[y0,y1]:=rfl
  rw[e2] at w1
  have Lu:=t1.trans (sG.trans t3)
  have Lv:∀ e∈[y0,y1,y2,y3],Ej J3 e:=fun e he=>(hys e he).mono Lu
  intro E1 hE
  refine bX (K:=K) (a:=l5) (xs:=[y0,y1]) (fun i ys τ G=>(∃ v,τ=[v])∧aE J3 G∧G E1=some (.lst ys)∧∃ zs:List Str,ys=zs.map V.str∧zs.length=i∧∀ z∈zs,Sg z∧1≤z.length∧z.length≤3) ⟨⟨_,rfl⟩,ai hE,ah,[],rfl,rfl,(fun _ z=>nomatch z)⟩ (fun i ys τ G _ p=>⟨aS.of (p.2.1 _ _ w1),p.2.2.1⟩) ?_ ?_
  ·rintro i e ys τ G hi ⟨⟨v,rfl⟩,RQ,hG,zs,rfl,Hi,hzs⟩
   have hil:=(List.getElem?_eq_some_iff.mp hi).1
   have hil:i < 5:=by simp at hil;omega
   obtain⟨t,p,q,f,b1,b2,b3,b4,rfl,ht,gd⟩:=Lv e (by have:=List.mem_of_getElem? hi;simp only[List.mem_cons,List.not_mem_nil,or_false] at this ⊢;rcases this with h | h <;> simp[h])
   have Ls:=RQ _ _ ht
   refine kQ ?_
   refine⟨_,rfl,t,_,_,_,rfl,rfl,iN.of Ls,rfl,hG,?_,⟨_,rfl⟩,aL hE RQ,ah,zs++[p],by rw[List.map_append];rfl,by rw[List.length_append,Hi];rfl,fun z hz=>?_⟩
   ·rw[List.length_map,Hi];exact Nat.lt_of_lt_of_le hil (by decide)
   ·rcases List.mem_append.mp hz with q2 | q2
    ·exact hzs z q2
    ·rw[List.mem_singleton.mp q2];exact⟨gd.gp,gd.p1,gd.p3⟩
  rintro ys τ J4 ⟨⟨v,rfl⟩,r1,Uu,ps,rfl,hpl,hps⟩
  have w2:=(Lu.trans r1) _ _ hl
  have Lw:∀ e∈[y0,y1,y2,y3],Ej J4 e:=fun e he=>(Lv e he).mono r1
  refine⟨_,rfl,D,rfl,⟨_,aS.of w2⟩,?_⟩
  intro E2 hE
  refine bX (K:=K) (a:=D) (xs:=[y0,y1,y2,y3]) (fun i ys τ G=>(∃ v,τ=[v])∧aE J4 G∧G E2=some (.lst ys)∧∃ zs:List Str,ys=zs.map V.str∧zs.length=i∧∀ z∈zs,Sg z∧0≤z.length∧z.length≤2) ⟨⟨_,rfl⟩,ai hE,ah,[],rfl,rfl,(fun _ z=>nomatch z)⟩ (fun i ys τ G _ p=>⟨aS.of (p.2.1 _ _ w2),p.2.2.1⟩) ?_ ?_
  ·rintro i e ys τ G hi ⟨⟨v,rfl⟩,RS,hG,zs,rfl,Hi,hzs⟩
   have hil:=(List.getElem?_eq_some_iff.mp hi).1
   have hil:i < 5:=by simp at hil;omega
   obtain⟨t,p,q,f,b1,b2,b3,b4,rfl,ht,gd⟩:=Lw e (List.mem_of_getElem? hi)
   have Ls:=RS _ _ ht
   refine kQ ?_
   refine⟨_,rfl,t,_,_,_,rfl,rfl,iN.of Ls,rfl,hG,?_,⟨_,rfl⟩,aL hE RS,ah,zs++[q],by rw[List.map_append];rfl,by rw[List.length_append,Hi];rfl,fun z hz=>?_⟩
   ·rw[List.length_map,Hi];exact Nat.lt_of_lt_of_le hil (by decide)
   ·rcases List.mem_append.mp hz with q2 | q2
    ·exact hzs z q2
    ·rw[List.mem_singleton.mp q2];exact⟨gd.gq,Nat.zero_le _,gd.q2⟩
  rintro ys τ J5 ⟨⟨v,rfl⟩,r2,Uv,qs,rfl,NH,RT⟩
  have w3:=r2 _ _ w2
  obtain⟨t,p,q,f,b1,b2,b3,b4,rfl,ht,gd⟩:=(Lw y0 (by simp)).mono r2
  refine⟨_,rfl,D,_,_,_,rfl,rfl,aS.of w3,rfl,t,_,_,_,rfl,rfl,iN.of ht,rfl,(by show(1:Nat)≤sizeLine;decide),fun l7 Uw=>⟨_,rfl,(by show(4:Nat)≤sizeLine;decide),fun l8 RU=>?_⟩⟩
  (have v6:=ai (o:=HO.lst [V.str f]) Uw;have u6:=ah (H:=J5) (a:=l7) (o:=HO.lst [V.str f]);generalize upd J5 l7 (HO.lst [V.str f])=J6 at v6 u6 RU ⊢;have v7:=ai (o:=HO.lst [V.ref E1,V.ref E2,V.ref l7,V.ref D2]) RU;have u7:=ah (H:=J6) (a:=l8) (o:=HO.lst [V.ref E1,V.ref E2,V.ref l7,V.ref D2]);generalize upd J6 l8 (HO.lst [V.ref E1,V.ref E2,V.ref l7,V.ref D2])=J7 at v7 u7 ⊢)
  have NI:=v6.trans v7
  have RV:=t3.trans (r1.trans (r2.trans NI))
  refine k l8 E1 E2 l7 D2 ps qs [f] ws bs J7 (sJ.trans (Lu.trans (r1.trans (r2.trans NI)))) u7 ((r2.trans NI) _ _ Uu) (NI _ _ Uv) (v7 _ _ u6) (RV _ _ hws) (zf.mono RV tr) hpl NH rfl IU ?_
  have hpl:ps.length=2:=hpl
  have NH:qs.length=4:=NH
  have Pj:bs.length=3:=IU
  refine⟨hps,fun q hq=>⟨(RT q hq).1,(RT q hq).2.2⟩,fun f' hf=>?_,by omega,by omega,Nat.le_refl 1,by omega,by rw[hpl,NH,Pj];show 2 * 4 * 1 * 3≤24;decide⟩
  rw[List.mem_singleton.mp hf];exact⟨gd.gf,gd.f2⟩
def gT (K:W.Frag):Sp:=fun vs H Q _=>∃(pl x c:Int),vs=[.int pl,.int x,.int c]∧0≤pl∧pl≤3∧∀(v:V) (H':Hp),aE H H'→m9 K H' v→Le pl H' v→Q v H'
theorem lO:bf P w K mg base gM 1 (ay 22) (bI 22) ["_law_place", "_law_x", "_law_cell"] (gT K):=by
 refine T.iz.ok cy (fun vs H Q E h=>?_) (fun cdv A outer s H vs Q E hr h=>?_)
 ·obtain⟨pl,x,c,rfl,_⟩:=h;rfl
 ·have hu:=dW hr
  have tu:=hr.bN
  obtain⟨pl,x,c,rfl,p0,p3,k⟩:=h
  refine'⟨_,?aa,?bb⟩
  case aa =>
   refine' au ?s0 ?r0
   case s0 =>
    refine' dz ?c1 ?b1 ?e1
    case c1=>exact(rC iu (pv 0) aj)
    case b1 =>
     refine' au ?s2 ?r2
     case s2 =>
      refine' uS (i:=3) ?Ux ?JP ?hc3 ?v3 ?Uy ?Uz
      case Ux=>exact cy.nd
      case JP=>rfl
      case hc3=>exact(by first | exact Or.inl rfl | exact Or.inr rfl)
      case Uy=>exact jk
      case Uz=>first | exact .inl rfl | exact .inr rfl | assumption
      case v3 =>
       refine' bE ?a4
       case a4 =>
        exact(D8 (.cons rfl (.cons rfl (.cons rfl (.cons rfl .nil)))))
     case r2 =>
      refine' au ?s5 ?r5
      case s5 =>
       exact(j6 (iW K (bE (af aj (af aj (af rK (af aI (af (bE (af ie ao aq)) ao rB) aq) aq) aq) aq)) (aB bz (aB cF (pv 1) aj) aj)) (pL (pv 3) (aB bz (aB cF (pv 1) aj) aj) set_list))
      case r5 =>
       refine' au ?s6 ?r6
       case s6 =>
        refine' uS (i:=4) ?UA ?UB ?UC ?v7 ?UD ?UE
        case UA=>exact cy.nd
        case UB=>rfl
        case UC=>exact(by first | exact Or.inl rfl | exact Or.inr rfl)
        case UD=>exact jk
        case UE=>first | exact .inl rfl | exact .inr rfl | assumption
        case v7 =>
         refine' bE ?a8
         case a8 =>
          refine' af ?x9 ?y9 ?z9
          case z9=>exact lu
          case x9 =>
           refine' eo ?IV
           case IV =>
            refine' af ?UG ?UH ?UI
            case UI=>exact aq
            case UG =>
             exact ie
            case UH =>
             refine' af ?UJ ?UK ?UL
             case UL=>exact aq
             case UJ =>
              exact ie
             case UK =>
              refine' af ?UM ?UN ?Lu
              case Lu=>exact aq
              case UM =>
               exact ie
              case UN =>
               exact ao
          case y9 =>
           refine' af ?UO ?UP ?UQ
           case UQ=>exact lu
           case UO =>
            refine' eo ?Pk
            case Pk =>
             exact(D8 (.cons rfl (.cons rfl (.cons rfl (.cons rfl (.cons rfl .nil))))))
           case UP =>
            refine' af ?UR ?US ?UT
            case UT=>exact bP
            case UR =>
             exact(Iw (iU K rfl) T.lJ (af (pv 3) ao ak))
            case US =>
             refine' af ?UU ?UW ?UX
             case UX=>exact bA
             case UU =>
              exact(aB DI (bE (af ie ao aq)) aj)
             case UW =>
              exact ao
       case r6 =>
        refine' aA ?UY
        case UY =>
         exact(aY (iW K (aB j8 (pv 4) (bE (af rK (af aI (af ie (af (Iw (iU K rfl) T.lJ (af (pv 3) ao ak)) (af (eo ao) ao lu) bP) aq) aq) aq))) (aB bz (pv 1) aj)))
    case e1 =>
     exact br
   case r0 =>
    refine' au ?UZ ?U0
    case UZ =>
     refine' uS (i:=4) ?Po ?Pp ?Pq ?v20 ?Pr ?Pu
     case Po=>exact cy.nd
     case Pp=>rfl
     case Pq=>exact(by first | exact Or.inl rfl | exact Or.inr rfl)
     case Pr=>exact jk
     case Pu=>first | exact .inl rfl | exact .inr rfl | assumption
     case v20 =>
      refine' bE ?Pw
      case Pw =>
       refine' af ?U1 ?U3 ?U4
       case U4=>exact aq
       case U1 =>
        exact aI
       case U3 =>
        refine' af ?U5 ?U6 ?U7
        case U7=>exact aq
        case U5 =>
         exact aI
        case U6 =>
         refine' af ?U8 ?U9 ?Va
         case Va=>exact aq
         case U8 =>
          exact aI
         case U9 =>
          refine' af ?Vb ?Vc ?Vd
          case Vd=>exact aq
          case Vb =>
           exact aI
          case Vc =>
           refine' af ?Ve ?Vf ?Vg
           case Vg=>exact aq
           case Ve =>
            exact rK
           case Vf =>
            refine' af ?Vh ?Vi ?Vj
            case Vj=>exact rB
            case Vh =>
             refine' bE ?Vk
             case Vk =>
              refine' af ?Vl ?Vm ?Vn
              case Vn=>exact aq
              case Vl =>
               exact aI
              case Vm =>
               exact ao
            case Vi =>
             refine' af ?Vo ?Vp ?Vq
             case Vq=>exact lu
             case Vo =>
              refine' eo ?Vr
              case Vr =>
               refine' af ?Vs ?Vt ?Vu
               case Vu=>exact aq
               case Vs =>
                exact aI
               case Vt =>
                exact ao
             case Vp =>
              refine' af ?Vv ?Vw ?Vx
              case Vx=>exact ak
              case Vv =>
               exact(pv 2)
              case Vw =>
               refine' af ?Vy ?Vz ?VA
               case VA=>exact aq
               case Vy =>
                exact ie
               case Vz =>
                refine' af ?VB ?VC ?VD
                case VD=>exact aq
                case VB =>
                 exact aI
                case VC =>
                 refine' af ?VF ?VG ?VH
                 case VH=>exact aq
                 case VF =>
                  exact aI
                 case VG =>
                  exact ao
    case U0 =>
     refine' aA ?VI
     case VI =>
      exact(aY (iW K (aB j8 (pv 4) (bE (af (iW K (bE (af aI (af aI (af aI ao aq) aq) aq)) (pv 0)) ao az))) (aB bz (pv 1) aj)))
  refine⟨_,rfl,rfl,_,rfl,O2 (fun hp=>?_) (fun hp=>?_)⟩
  ·subst hp
   refine⟨(by decide),fun l1 h1=>⟨(by decide),fun l2 h2=>⟨(by show(5:Nat)≤sizeLine;decide),fun l3 h3=>⟨_,rfl,_,_,rfl,rfl,⟨(by omega),(by omega)⟩,_,_,rfl,rfl,(by omega),?_⟩⟩⟩⟩
   (have s1:=ai (o:=HO.lst [V.bl true,V.bl false,V.bl true,V.bl false]) h1;have u1:=ah (H:=H) (a:=l1) (o:=HO.lst [V.bl true,V.bl false,V.bl true,V.bl false]);generalize upd H l1 (HO.lst [V.bl true,V.bl false,V.bl true,V.bl false])=I1 at s1 u1 h2 h3 ⊢;have s2:=ai (o:=HO.lst [V.bl true]) h2;have u2:=ah (H:=I1) (a:=l2) (o:=HO.lst [V.bl true]);generalize upd I1 l2 (HO.lst [V.bl true])=I2 at s2 u2 h3 ⊢;have s3:=ai (o:=HO.lst [V.int 0,V.int 1,V.non,V.str ("":Str),V.ref l2]) h3;have u3:=ah (H:=I2) (a:=l3) (o:=HO.lst [V.int 0,V.int 1,V.non,V.str ("":Str),V.ref l2]);generalize upd I2 l3 (HO.lst [V.int 0,V.int 1,V.non,V.str ("":Str),V.ref l2])=I3 at s3 u3 ⊢)
   obtain⟨y,ey,hy⟩:=pT (xs:=[V.int 0,.int 1,.non,.str ("":Str),.ref l2]) (i:=x / 36 % 5) (gQ (by decide)) (gR (by decide))
   have j0:=gQ (a:=x / 9) (b:=4) (by decide)
   have j1:=gR (a:=x / 9) (b:=4) (by decide)
   refine⟨l3,_,_,y,rfl,rfl,aS.of u3,ey,?_⟩
   refine⟨_,rfl,_,rfl,_,_,rfl,rfl,⟨by omega,by omega⟩,_,_,rfl,rfl,(by omega),?_⟩
   dsimp only
   generalize x / 9 % 4=ji at j0 j1 ⊢
   obtain⟨j,rfl⟩:∃ j:Nat,ji=(j:Int):=⟨ji.toNat,by omega⟩
   have hl1:=s3 _ _ (s2 _ _ u1)
   refine⟨l1,_,_,j,rfl,rfl,hl1,(by unfold C7;rw[if_pos (by omega),if_pos (by show(j:Int) < 4;omega)];rfl),?_⟩
   have hj:j < 4:=by omega
   have nb:oG y=false:=by
    simp only[List.mem_cons,List.not_mem_nil,or_false] at hy
    rcases hy with rfl | rfl | rfl | rfl | rfl <;> rfl
   have q1:aE H (upd I3 l1 (.lst ([V.bl true,.bl false,.bl true,.bl false].set j y))):=aL h1 (s1.trans (s2.trans s3))
   have n2:l2≠l1:=fun e=>by rw[e,u1] at h2;cases h2
   have w2:(upd I3 l1 (.lst ([V.bl true,.bl false,.bl true,.bl false].set j y))) l2=_:=(aC n2).trans (s3 _ _ u2)
   have w1:(upd I3 l1 (.lst ([V.bl true,.bl false,.bl true,.bl false].set j y))) l1=_:=ah
   generalize upd I3 l1 (.lst ([V.bl true,.bl false,.bl true,.bl false].set j y))=I4 at q1 w1 w2 ⊢
   have ky:∀{G:Hp},aE I4 G→K1 K G y:=fun sG=>by
    simp only[List.mem_cons,List.not_mem_nil,or_false] at hy
    rcases hy with rfl | rfl | rfl | rfl | rfl
    ·exact .inr ⟨_,.int _,by decide⟩
    ·exact .inr ⟨_,.int _,by decide⟩
    ·exact .inr ⟨_,.non,by decide⟩
    ·exact BD (by decide)
    ·exact .inr ⟨_,.lst (sG _ _ w2),by decide⟩
   have Px:([V.bl true,.bl false,.bl true,.bl false].set j y).all oG=false:=by
    rw[Bool.eq_false_iff]
    intro h
    have:=List.all_eq_true.mp h y (List.mem_iff_getElem?.mpr ⟨j,by rw[List.getElem?_set_self (by exact hj)]⟩)
    rw[nb] at this;cases this
   have Py:∀{G:Hp},aE I4 G→∀ z∈[V.bl true,.bl false,.bl true,.bl false].set j y,K1 K G z:=fun sG z hz=>by
    rcases List.mem_or_eq_of_mem_set hz with q | rfl
    ·simp only[List.mem_cons,List.not_mem_nil,or_false] at q
     rcases q with rfl | rfl | rfl | rfl <;> exact xK
    ·exact ky sG
   have JO:([V.bl true,.bl false,.bl true,.bl false].set j y).length=4:=by rw[List.length_set];rfl
   generalize [V.bl true,.bl false,.bl true,.bl false].set j y=ts at w1 Px Py JO ⊢
   refine⟨(by decide),fun a1 g1=>⟨(by decide),fun a2 g2=>⟨_,rfl,_,_,rfl,.inl (⟨aS.of (ai g2 _ _ (ai g1 _ _ w1)),fun a3 g3=>⟨(by decide),fun a4 g4=>⟨_,_,_,rfl,rfl,ah,(by omega),(by omega),(by decide),fun a5 g5=>⟨(by show(4:Nat)≤sizeLine;decide),fun a6 g6=>⟨_,rfl,_,rfl,_,_,rfl,.inl (⟨aS.of (ai g6 _ _ (ai g5 _ _ (ai g4 _ _ (ai g3 _ _ (ai g2 _ _ (ai g1 _ _ w1)))))),fun a7 g7=>⟨(by decide),fun a8 g8=>⟨(by show(5:Nat)≤sizeLine;decide),fun a9 g9=>⟨_,_,_,_,rfl,rfl,(ai g9 _ _ (ai g8 _ _ (ai g7 _ _ ah))),ah,?_,fun IV Fb=>⟨_,rfl,_,_,rfl,rfl,(by omega),?_⟩⟩⟩⟩⟩)⟩⟩⟩⟩⟩)⟩⟩⟩
   ·show 4+5≤sizeLine;decide
   (have r1:=ai (o:=HO.tup [V.bl true,V.bl false,V.bl true]) g1;have o1:=ah (H:=I4) (a:=a1) (o:=HO.tup [V.bl true,V.bl false,V.bl true]);generalize upd I4 a1 (HO.tup [V.bl true,V.bl false,V.bl true])=G1 at r1 o1 g2 g3 g4 g5 g6 g7 g8 g9 Fb ⊢;have r2:=ai (o:=HO.tup [V.bl true,V.bl false,V.bl true,V.bl false,V.bl true]) g2;have o2:=ah (H:=G1) (a:=a2) (o:=HO.tup [V.bl true,V.bl false,V.bl true,V.bl false,V.bl true]);generalize upd G1 a2 (HO.tup [V.bl true,V.bl false,V.bl true,V.bl false,V.bl true])=G2 at r2 o2 g3 g4 g5 g6 g7 g8 g9 Fb ⊢;have r3:=ai (o:=HO.tup ts) g3;have o3:=ah (H:=G2) (a:=a3) (o:=HO.tup ts);generalize upd G2 a3 (HO.tup ts)=G3 at r3 o3 g4 g5 g6 g7 g8 g9 Fb ⊢;have r4:=ai (o:=HO.lst [V.bl true]) g4;have o4:=ah (H:=G3) (a:=a4) (o:=HO.lst [V.bl true]);generalize upd G3 a4 (HO.lst [V.bl true])=G4 at r4 o4 g5 g6 g7 g8 g9 Fb ⊢;have r5:=ai (o:=HO.lst (List.replicate (Int.toNat 4) [V.bl true]).flatten) g5;have o5:=ah (H:=G4) (a:=a5) (o:=HO.lst (List.replicate (Int.toNat 4) [V.bl true]).flatten);generalize upd G4 a5 (HO.lst (List.replicate (Int.toNat 4) [V.bl true]).flatten)=G5 at r5 o5 g6 g7 g8 g9 Fb ⊢;have r6:=ai (o:=HO.lst [V.ref a1,V.ref a2,V.ref a3,V.ref a5]) g6;have o6:=ah (H:=G5) (a:=a6) (o:=HO.lst [V.ref a1,V.ref a2,V.ref a3,V.ref a5]);generalize upd G5 a6 (HO.lst [V.ref a1,V.ref a2,V.ref a3,V.ref a5])=G6 at r6 o6 g7 g8 g9 Fb ⊢;have r7:=ai (o:=HO.tup ts) g7;have o7:=ah (H:=G6) (a:=a7) (o:=HO.tup ts);generalize upd G6 a7 (HO.tup ts)=G7 at r7 o7 g8 g9 Fb ⊢;have r8:=ai (o:=HO.tup []) g8;have o8:=ah (H:=G7) (a:=a8) (o:=HO.tup []);generalize upd G7 a8 (HO.tup [])=G8 at r8 o8 g9 Fb ⊢;have r9:=ai (o:=HO.lst [V.non,V.str ("wide":Str),V.bl true,V.ref a7,V.ref a8]) g9;have o9:=ah (H:=G8) (a:=a9) (o:=HO.lst [V.non,V.str ("wide":Str),V.bl true,V.ref a7,V.ref a8]);generalize upd G8 a9 (HO.lst [V.non,V.str ("wide":Str),V.bl true,V.ref a7,V.ref a8])=G9 at r9 o9 Fb ⊢;have RW:=ai (o:=HO.lst ([V.ref a1,V.ref a2,V.ref a3,V.ref a5]++[V.non,V.str ("wide":Str),V.bl true,V.ref a7,V.ref a8])) Fb;have RX:=ah (H:=G9) (a:=IV) (o:=HO.lst ([V.ref a1,V.ref a2,V.ref a3,V.ref a5]++[V.non,V.str ("wide":Str),V.bl true,V.ref a7,V.ref a8]));generalize upd G9 IV (HO.lst ([V.ref a1,V.ref a2,V.ref a3,V.ref a5]++[V.non,V.str ("wide":Str),V.bl true,V.ref a7,V.ref a8]))=JQ at RW RX ⊢)
   have f9:=RW
   have f8:=r9.trans f9
   have f7:=r8.trans f8
   have f6:=r7.trans f7
   have f5:=r6.trans f6
   have f4:=r5.trans f5
   have f3:=r4.trans f4
   have f2:=r3.trans f3
   have f1:=r2.trans f2
   have f0:=r1.trans f1
   obtain⟨v,ev,hv⟩:=pT (xs:=[V.ref a1,.ref a2,.ref a3,.ref a5]++[.non,.str ("wide":Str),.bl true,.ref a7,.ref a8]) (i:=x % 9) (gQ (by decide)) (gR (by decide))
   refine⟨IV,_,_,v,rfl,rfl,aS.of RX,ev,?_⟩
   have kk:=fun hc (hb:je JQ v=false)=>k v JQ (q1.trans f0) hc ⟨fun e=>absurd e (by decide),fun e=>absurd e (by decide),fun e=>absurd e (by decide),fun _=>hb⟩
   have tb:∀{a:Addr}{zs:List V},v=.ref a→JQ a=some (.tup zs)→zs.length≤100→(∀ z∈zs,K1 K JQ z)→(decide (zs.length=4) && zs.all oG)=false→Q v JQ:=fun e h hl hk hb=>by
    subst e
    exact kk (vp h hl hk) ((mE h).trans hb)
   have bb:∀{zs:List V},zs.all oG=true→∀ z∈zs,K1 K JQ z:=fun h z hz=>by
    obtain⟨b,rfl⟩:=gn (List.all_eq_true.mp h z hz)
    exact xK
   rw[List.mem_append] at hv
   simp only[List.mem_cons,List.not_mem_nil,or_false] at hv
   rcases hv with (rfl | rfl | rfl | rfl) | (rfl | rfl | rfl | rfl | rfl)
   ·exact tb rfl (f1 _ _ o1) (by decide) (bb rfl) rfl
   ·exact tb rfl (f2 _ _ o2) (by decide) (bb rfl) rfl
   ·exact tb rfl (f3 _ _ o3) (by omega) (Py f0) (by rw[Px,Bool.and_false])
   ·exact kk (A5 (f5 _ _ o5)) (vo (K:=K) (.lst (f5 _ _ o5)) (by decide))
   ·exact kk (fB rfl fun z e=>by cases e) rfl
   ·exact kk (fB rfl fun z e=>by cases e;decide) rfl
   ·exact kk (fB rfl fun z e=>by cases e) rfl
   ·exact tb rfl (f7 _ _ o7) (by omega) (Py f0) (by rw[Px,Bool.and_false])
   ·exact tb rfl (f8 _ _ o8) (by decide) (fun _ z=>nomatch z) rfl
  refine⟨(by decide),fun l1 h1=>⟨(by decide),fun l2 h2=>⟨_,rfl,(by show(11:Nat)≤sizeLine;decide),fun l3 h3=>⟨_,rfl,(by decide),fun l4 h4=>⟨_,rfl,?_⟩⟩⟩⟩⟩
  (have s1:=ai (o:=HO.lst [V.str (",":Str)]) h1;have u1:=ah (H:=H) (a:=l1) (o:=HO.lst [V.str (",":Str)]);generalize upd H l1 (HO.lst [V.str (",":Str)])=I1 at s1 u1 h2 h3 h4 ⊢;have s2:=ai (o:=HO.tup [V.str (",":Str)]) h2;have u2:=ah (H:=I1) (a:=l2) (o:=HO.tup [V.str (",":Str)]);generalize upd I1 l2 (HO.tup [V.str (",":Str)])=I2 at s2 u2 h3 h4 ⊢;have s3:=ai (o:=HO.lst [V.str ("abcd":Str),V.str ("aa":Str),V.str (Str.ofString "\n"),V.str (Str.ofString ",\n"),V.non,V.ref l1,V.ref l2,V.int c,V.bl true,V.str (",;,":Str),V.str ("abb":Str)]) h3;have u3:=ah (H:=I2) (a:=l3) (o:=HO.lst [V.str ("abcd":Str),V.str ("aa":Str),V.str (Str.ofString "\n"),V.str (Str.ofString ",\n"),V.non,V.ref l1,V.ref l2,V.int c,V.bl true,V.str (",;,":Str),V.str ("abb":Str)]);generalize upd I2 l3 (HO.lst [V.str ("abcd":Str),V.str ("aa":Str),V.str (Str.ofString "\n"),V.str (Str.ofString ",\n"),V.non,V.ref l1,V.ref l2,V.int c,V.bl true,V.str (",;,":Str),V.str ("abb":Str)])=I3 at s3 u3 h4 ⊢;have s4:=ai (o:=HO.lst [V.str ("":Str),V.str ("abc":Str),V.str ("abc":Str)]) h4;have u4:=ah (H:=I3) (a:=l4) (o:=HO.lst [V.str ("":Str),V.str ("abc":Str),V.str ("abc":Str)]);generalize upd I3 l4 (HO.lst [V.str ("":Str),V.str ("abc":Str),V.str ("abc":Str)])=I4 at s4 u4 ⊢)
  obtain⟨w,hw,wl,wb⟩:∃ w:Str,AQ [V.str ("":Str),.str ("abc":Str),.str ("abc":Str)] pl=some (.str w)∧w.length≤10∧(pl=0→bM (.str w) 1 3=false)∧(pl=1→bM (.str w) 0 2=false)∧(pl=2→bM (.str w) 0 2=false):=by
   rcases(show pl=0∨pl=1∨pl=2 by omega) with rfl | rfl | rfl
   ·exact⟨_,rfl,by decide,fun _=>by decide +kernel,fun e=>by omega,fun e=>by omega⟩
   ·exact⟨_,rfl,by decide,fun e=>by omega,fun _=>by decide +kernel,fun e=>by omega⟩
   ·exact⟨_,rfl,by decide,fun e=>by omega,fun e=>by omega,fun _=>by decide +kernel⟩
  refine⟨l4,_,_,_,rfl,rfl,aS.of u4,hw,?_⟩
  refine⟨(by show(1:Nat)≤sizeLine;decide),fun l5 h5=>⟨_,_,_,_,rfl,rfl,(ai h5 _ _ (s4 _ _ u3)),ah,?_,fun l6 h6=>⟨_,rfl,_,_,rfl,rfl,(by omega),?_⟩⟩⟩
  ·show 11+1≤sizeLine;decide
  (have s5:=ai (o:=HO.lst [V.str w]) h5;have u5:=ah (H:=I4) (a:=l5) (o:=HO.lst [V.str w]);generalize upd I4 l5 (HO.lst [V.str w])=I5 at s5 u5 h6 ⊢;have s6:=ai (o:=HO.lst ([V.str ("abcd":Str),V.str ("aa":Str),V.str (Str.ofString "\n"),V.str (Str.ofString ",\n"),V.non,V.ref l1,V.ref l2,V.int c,V.bl true,V.str (",;,":Str),V.str ("abb":Str)]++[V.str w])) h6;have u6:=ah (H:=I5) (a:=l6) (o:=HO.lst ([V.str ("abcd":Str),V.str ("aa":Str),V.str (Str.ofString "\n"),V.str (Str.ofString ",\n"),V.non,V.ref l1,V.ref l2,V.int c,V.bl true,V.str (",;,":Str),V.str ("abb":Str)]++[V.str w]));generalize upd I5 l6 (HO.lst ([V.str ("abcd":Str),V.str ("aa":Str),V.str (Str.ofString "\n"),V.str (Str.ofString ",\n"),V.non,V.ref l1,V.ref l2,V.int c,V.bl true,V.str (",;,":Str),V.str ("abb":Str)]++[V.str w]))=I6 at s6 u6 ⊢)
  have e2:=s3.trans (s4.trans (s5.trans s6))
  have e1:=s2.trans e2
  obtain⟨v,ev,hv⟩:=pT (xs:=[V.str ("abcd":Str),.str ("aa":Str),.str (Str.ofString "\n"),.str (Str.ofString ",\n"),.non,.ref l1,.ref l2,.int c,.bl true,.str (",;,":Str),.str ("abb":Str)]++[.str w]) (i:=x % 12) (gQ (by decide)) (gR (by decide))
  refine⟨l6,_,_,v,rfl,rfl,aS.of u6,ev,?_⟩
  have kk:=k v I6 (s1.trans e1)
  have bt:∀ z:Str,v=.str z→z.length≤10→bM (.str z) 1 3=false→bM (.str z) 0 2=false→Q v I6:=fun z e hl VJ h02=>by
   subst e
   exact kk (fB rfl fun z' e=>by cases e;omega) ⟨fun _=>VJ,fun _=>h02,fun _=>h02,fun e=>absurd e hp⟩
  have bn:(∀ lo hi,bM v lo hi=false)→m9 K I6 v→Q v I6:=fun h hc=>kk hc ⟨fun _=>h 1 3,fun _=>h 0 2,fun _=>h 0 2,fun e=>absurd e hp⟩
  rw[List.mem_append,List.mem_singleton] at hv
  simp only[List.mem_cons,List.not_mem_nil,or_false] at hv
  rcases hv with (rfl | rfl | rfl | rfl | rfl | rfl | rfl | rfl | rfl | rfl | rfl) | rfl
  ·exact bt _ rfl (by decide) (by decide +kernel) (by decide +kernel)
  ·exact bt _ rfl (by decide) (by decide +kernel) (by decide +kernel)
  ·exact bt _ rfl (by decide) (by decide +kernel) (by decide +kernel)
  ·exact bt _ rfl (by decide) (by decide +kernel) (by decide +kernel)
  ·exact bn (fun _ _=>rfl) (fB rfl fun z e=>by cases e)
  ·exact bn (fun _ _=>rfl) (A5 (e1 _ _ u1))
  ·exact bn (fun _ _=>rfl) (vp (e2 _ _ u2) (by decide) fun x hx=>by rw[List.mem_singleton.mp hx];exact BD (by decide))
  ·exact bn (fun _ _=>rfl) (fB rfl fun z e=>by cases e)
  ·exact bn (fun _ _=>rfl) (fB rfl fun z e=>by cases e)
  ·exact bt _ rfl (by decide) (by decide +kernel) (by decide +kernel)
  ·exact bt _ rfl (by decide) (by decide +kernel) (by decide +kernel)
  ·exact kk (fB rfl fun z e=>by cases e;omega) ⟨wb.1,wb.2.1,wb.2.2,fun e=>absurd e hp⟩
def lP (K:W.Frag):Sp:=fun vs H Q _=>∃(l xl l1 l2 l3 l4:Addr) (x1 x2 x3 x4:List V) (n0 n1 n2 n3 n4 n5 n6 n7 n8 c:Int),vs=[.ref l,.ref xl,.int c]∧H l=some (.lst [.ref l1,.ref l2,.ref l3,.ref l4])∧mS K H l1 x1∧mS K H l2 x2∧mS K H l3 x3∧mS K H l4 x4∧H xl=some (.lst [.int n0,.int n1,.int n2,.int n3,.int n4,.int n5,.int n6,.int n7,.int n8])∧∀ m v1 v2 v3 v4 H',aE H H'→H m=none→H' m=some (.lst [v1,v2,v3,v4])→A7 K H' m [v1,v2,v3,v4] true→jy H' v1 v2 v3 v4=0→Q (.ref m) H'
theorem sO:bf P w K mg base gM 2 (ay 23) (bI 23) ["_law_good_here", "_law_xs", "_law_cell"] (lP K):=by
 have m6:bf P w K mg base gM 1 (ay 22) (bI 22) ["_law_place", "_law_x", "_law_cell"] (gT K):=lO T
 refine T.nh.ok dH (fun vs H Q E h=>?_) (fun cdv A outer s H vs Q E hr h=>?_)
 ·obtain⟨l,xl,l1,l2,l3,l4,x1,x2,x3,x4,n0,n1,n2,n3,n4,n5,n6,n7,n8,c,rfl,_⟩:=h;rfl
 ·have hu:=dW hr
  have tu:=hr.bN
  obtain⟨l,xl,l1,l2,l3,l4,x1,x2,x3,x4,n0,n1,n2,n3,n4,n5,n6,n7,n8,c,rfl,hl,g1,g2,g3,g4,hx,k⟩:=h
  refine'⟨_,?aa,?bb⟩
  case aa =>
   refine' au ?s0 ?r0
   case s0 =>
    exact(kg (i:=3) rfl dH.nd rfl rfl (show aK ["_law_good_here", "_law_xs", "_law_cell", "_law_some_here", "_law_k", "_law_place", "_law_at"] (av cY) ["_law_choices"] 1 [] _ from wQ) (bG K rfl (pv 0)) (fun _ _ _ _=>(mQ 0 xG)) (fun _ _ _ _=>bW) (fun _ _ _ _=>(Iw (gC K rfl) T.mF (af (pv 0) ao ak))))
   case r0 =>
    refine' au ?s1 ?r1
    case s1 =>
     refine' dz ?c2 ?b2 ?e2
     case c2=>exact(rC iu (aB bz (iW K (pv 1) aj) aj) aj)
     case b2 =>
      refine' aA ?s3
      case s3 =>
       exact(j6 (aB j8 (iW K (pv 3) aj) (iW K (pv 3) aj)) (pL (pv 3) aj set_list))
     case e2 =>
      exact br
    case r1 =>
     refine' au ?s4 ?r4
     case s4 =>
      exact(j7 PassesOwn.never rfl (jD rfl T.i8 (af (aB dB aj (aB bz (iW K (pv 1) aj) aj)) ao bA)) (mQ 4 dH.nd)
     (au (oF 5 dH.nd (aB bz (iW K (pv 1) (pv 4)) aj) (hs:=cj))
     (aA (dz (rC iu (aB bz (iW K (pv 1) (aB dB aj (pv 4))) aj) aj) (aA (j6 (iW K (bE (af (Iw (iU K rfl) T.lJ (af (iW K (pv 0) (pv 5)) ao az)) (af aI (af rK (af (pv 2) (af (Gp (Eb aI ie Gn) rfl rfl (by intro z;cases z) (by decide)) (af (bE ao) (af (eo ao) (af aI ao aq) lu) rB) Gj) ak) aq) aq) bP)) (aB bz (iW K (pv 1) (aB dB aj (pv 4))) aj)) (pL (pv 3) (pv 5) set_list))) (au (oF 6 dH.nd (aB bz (iW K (pv 1) (aB dB aj (pv 4))) (aB dB (j3 (bx K rfl) T.fN (af (iW K (pv 0) (pv 5)) ao az)) aj)) (hs:=cj))
     (aA (j6 (aB j8 (aB j8 (gK (iT K rfl) (iW K (pv 0) (pv 5)) jf (jg (pv 6))) (bE (af (oq m6 hr T.mW T.iz.kp T.mV (af (pv 5) (af (aB cF (iW K (pv 1) (aB dB aj (pv 4))) aj) (af (pv 2) ao ak) bA) ak)) ao bP))) (gK (iT K rfl) (iW K (pv 0) (pv 5)) (jg (pv 6)) jf)) (pL (pv 3) (pv 5) set_list))))))))
     case r4 =>
      refine' aA ?s5
      case s5 =>
       exact(aY (pv 3))
  refine⟨_,rfl,l,rfl,⟨_,aS.of hl⟩,fun D hD=>?_⟩
  refine bX (K:=K) (a:=l) (xs:=[.ref l1,.ref l2,.ref l3,.ref l4]) (fun i ys τ J=>(∃ v,τ=[v])∧aE H J∧J D=some (.lst ys)∧ys.length=i∧∀ y∈ys,∃ a xs,y=.ref a∧a≠D∧mS K J a xs) ⟨⟨_,rfl⟩,ai hD,ah,rfl,(fun _ z=>nomatch z)⟩ (fun i ys τ J _ p=>⟨aS.of (p.2.1 _ _ hl),p.2.2.1⟩) ?_ ?_
  ·rintro i e ys τ J hi ⟨⟨v,rfl⟩,sJ,oY,hyl,hys⟩
   have hil:i < 4:=(List.getElem?_eq_some_iff.mp hi).1
   obtain⟨a,xs,rfl,ga⟩:∃ a xs,e=.ref a∧mS K H a xs:=by
    have:=List.mem_of_getElem? hi
    simp only[List.mem_cons,List.not_mem_nil,or_false] at this
    rcases this with rfl | rfl | rfl | rfl
    ·exact⟨_,_,rfl,g1⟩
    ·exact⟨_,_,rfl,g2⟩
    ·exact⟨_,_,rfl,g3⟩
    ·exact⟨_,_,rfl,g4⟩
   have gJ:=ga.mono sJ
   have JR:=gJ.1
   refine kQ ?_
   refine⟨_,rfl,a,xs,rfl,.inl (aS.of JR),fun m hm=>?_⟩
   have nm:m≠D:=fun q=>by rw[q,oY] at hm;cases hm
   have t1:=ai (o:=HO.lst xs) hm
   have u1:(upd J m (.lst xs)) m=some (.lst xs):=ah
   generalize upd J m (.lst xs)=J1 at t1 u1 ⊢
   have Ey:=t1 _ _ oY
   have kS:kI D J1 (upd J1 D (.lst (ys++[.ref m]))):=kI.set Ey
   refine⟨Ey,?_,⟨_,rfl⟩,aL hD (sJ.trans t1),ah,by rw[List.length_append,hyl];rfl,fun y hy=>?_⟩
   ·rw[hyl];exact Nat.lt_of_lt_of_le hil (by decide)
   ·rcases List.mem_append.mp hy with z | z
    ·obtain⟨b,zs,e,n,gb⟩:=hys y z
     exact⟨b,zs,e,n,(gb.mono t1).dw kS n⟩
    ·rw[List.mem_singleton.mp z]
     exact⟨m,xs,rfl,nm,mS.dw kS nm ⟨u1,gJ.2.1,(gJ.mono t1).2.2⟩⟩
  rintro ys τ J ⟨⟨v,rfl⟩,sJ,oY,hyl,hys⟩
  have hyl:ys.length=4:=by simpa using hyl
  have Yl:H D=none:=hD
  obtain⟨y1,y2,y3,y4,rfl⟩:∃ y0 y1 y2 y3,ys=[y0,y1,y2,y3]:=by
   match ys,hyl with
   | [y0,y1,y2,y3],_=>exact⟨_,_,_,_,rfl⟩
  obtain⟨m3,w3,rfl,Ym,NJ⟩:=hys y3 (by simp)
  have IW:=sJ _ _ hx
  have RY:A7 K J D [y1,y2,.ref m3,y4] false:=⟨rfl,fun v hv=>(let ⟨a,xs,e,n,ga⟩:=hys v hv;⟨by rw[e];exact ga.lk,fun q=>n (by rw[e] at q;cases q;rfl)⟩),(fun e=>nomatch e),fun v hv=>(let ⟨a,xs,e,n,ga⟩:=hys v hv;.inr ⟨a,e⟩)⟩
  dsimp only[ig]
  refine pU (t:=J9 _ _ _) (fun σ' G=>aE H G∧σ'=[some (V.ref l),some (V.ref xl),some (V.int c),some (V.ref D),none,none,none]∧∃ vs,G D=some (.lst vs)∧A7 K G D vs false) ?_ (fun go=>?_)
  rotate_left
  ·refine⟨_,rfl,_,_,_,_,rfl,rfl,aS.of IW,rfl,_,_,rfl,rfl,(by omega),rfl,_,rfl,?_⟩
   refine O1 (fun hk=>?_) (fun hk=>go _ _ ⟨sJ,rfl,_,oY,RY⟩)
   have gm:=NJ.1
   refine⟨_,rfl,_,_,_,_,rfl,rfl,aS.of oY,rfl,_,rfl,_,_,_,_,rfl,rfl,aS.of oY,rfl,_,_,_,_,rfl,rfl,gm,gm,Nat.le_trans (show w3.length+w3.length≤20 by have:=NJ.2.1;omega) (by decide),fun a1 ha1=>?_⟩
   have na:a1≠D:=fun q=>by rw[q,oY] at ha1;cases ha1
   have t1:=ai (o:=HO.lst (w3++w3)) ha1
   have u1:(upd J a1 (.lst (w3++w3))) a1=some (.lst (w3++w3)):=ah
   generalize upd J a1 (.lst (w3++w3))=J1 at t1 u1 ⊢
   have Ey:=t1 _ _ oY
   refine⟨_,rfl,_,_,_,_,rfl,rfl,Ey,rfl,go _ _ ⟨aL hD (sJ.trans t1),rfl,[y1,y2,.ref a1,y4],ah,?_⟩⟩
   refine A7.set (vs:=[y1,y2,.ref m3,y4]) (j:=2) Ey (RY.dw (kI.same t1 oY)) (by decide) (.inl ⟨a1,_,rfl,u1,fun x hx=>?_,?_⟩) (fun q=>na (by cases q;rfl)) (fun e=>nomatch e) (.inr ⟨_,rfl⟩)
   ·rcases List.mem_append.mp hx with z | z <;> exact(NJ.mono t1).2.2 x z
   ·rw[List.length_append];have:=NJ.2.1;omega
  rintro σ' G ⟨sG,rfl,vs,hvs,sp⟩
  have b0:=gQ (a:=n7) (b:=2) (by decide)
  have b1:=gR (a:=n7) (b:=2) (by decide)
  have VL:=sG _ _ hx
  refine⟨_,rfl,_,_,_,_,rfl,rfl,aS.of VL,rfl,_,_,rfl,rfl,(by omega),_,_,rfl,rfl,_,rfl,(by omega),(by omega),?_⟩
  refine pN (fun i σ J=>aE H J∧∃(vs:List V) (v4 v5 v6:Option V),σ=[some (V.ref l),some (V.ref xl),some (V.int c),some (V.ref D),v4,v5,v6]∧J D=some (.lst vs)∧A7 K J D vs (decide (0 < i))) ⟨sG,vs,none,none,none,rfl,hvs,sp⟩ ?_ ?_
  rotate_left
  ·rintro σ J2 ⟨Ln,vs,v4,v5,v6,rfl,hv,sp⟩
   rw[decide_eq_true (by omega)] at sp
   obtain⟨y1,y2,y3,y4,rfl⟩:∃ y0 y1 y2 y3,vs=[y0,y1,y2,y3]:=by
    match vs,sp.1 with
    | [y0,y1,y2,y3],_=>exact⟨_,_,_,_,rfl⟩
   obtain⟨i,v,e1,e2⟩:=sp.2.2.1 rfl
   exact⟨_,rfl,k D y1 y2 y3 y4 J2 Ln hD hv sp (xO e1 e2)⟩
  rintro i σ J hi ⟨sJ,vs,v4,v5,v6,rfl,hv,sp⟩
  have hi:i < 2:=by omega
  have IW:=sJ _ _ hx
  have Pz:∀ j:Nat,j < 9→∃ q:Int,AQ [V.int n0,.int n1,.int n2,.int n3,.int n4,.int n5,.int n6,.int n7,.int n8] (j:Int)=some (.int q):=fun j hj=>by
   rcases(show j=0∨j=1∨j=2∨j=3∨j=4∨j=5∨j=6∨j=7∨j=8 by omega) with rfl | rfl | rfl | rfl | rfl | rfl | rfl | rfl | rfl <;> exact⟨_,rfl⟩
  obtain⟨q,eq⟩:=Pz i (by omega)
  obtain⟨q2,eq2⟩:=Pz (2+i) (by omega)
  obtain⟨q4,eq4⟩:=Pz (4+i) (by omega)
  rw[show((2+i:Nat):Int)=2+(0+(i:Int)) by omega] at eq2
  rw[show((4+i:Nat):Int)=4+(0+(i:Int)) by omega] at eq4
  rw[show((i:Nat):Int)=0+(i:Int) by omega] at eq
  have p0:=gQ (a:=q) (b:=4) (by decide)
  have p3:=gR (a:=q) (b:=4) (by decide)
  dsimp only[ig]
  refine⟨_,rfl,_,rfl,xl,_,_,_,rfl,rfl,aS.of IW,eq,_,_,rfl,rfl,(by omega),?_⟩
  dsimp only[ig]
  generalize q % 4=pi at p0 p3 ⊢
  obtain⟨j,rfl⟩:∃ j:Nat,pi=(j:Int):=⟨pi.toNat,by omega⟩
  obtain⟨ga,gx,eg,gg⟩:∃ ga gx,AQ [V.ref l1,.ref l2,.ref l3,.ref l4] (j:Int)=some (.ref ga)∧mS K J ga gx:=by
   rcases(show j=0∨j=1∨j=2∨j=3 by omega) with rfl | rfl | rfl | rfl
   ·exact⟨_,_,rfl,g1.mono sJ⟩
   ·exact⟨_,_,rfl,g2.mono sJ⟩
   ·exact⟨_,_,rfl,g3.mono sJ⟩
   ·exact⟨_,_,rfl,g4.mono sJ⟩
  have GF:=sJ _ _ hl
  have hj:j < 4:=by omega
  have VM:C7 vs.length (j:Int)=some j:=by unfold C7;rw[sp.1,if_pos (by omega),if_pos (by show(j:Int) < 4;omega)];rfl
  have fin:∀(v:V) (G:Hp) {v4 v6:Option V},aE J G→xM K G v→v≠.ref D→BE G j v→Gx v→Kf (Bk 3) (Bk 5) GS v [some (V.ref l),some (V.ref xl),some (V.int c),some (V.ref D),v4,some (V.int (j:Int)),v6] G (fun σ J=>aE H J∧∃(vs:List V) (v4 v5 v6:Option V),σ=[some (V.ref l),some (V.ref xl),some (V.int c),some (V.ref D),v4,v5,v6]∧J D=some (.lst vs)∧A7 K J D vs (decide (0 < i+1))):=fun v G v4 v6 sG lk n bd sl=>by
   have RZ:=sG _ _ hv
   refine⟨_,rfl,_,rfl,D,_,_,j,rfl,rfl,RZ,VM,aL hD (sJ.trans sG),vs.set j v,_,_,_,rfl,ah,?_⟩
   exact A7.set RZ (sp.dw (kI.same sG hv)) hj lk n (fun _=>bd) sl
  refine⟨_,rfl,_,rfl,_,_,rfl,rfl,xl,_,_,_,rfl,rfl,aS.of IW,eq2,_,_,rfl,rfl,(by omega),rfl,_,rfl,O1 (fun hk=>?_) (fun hk=>?_)⟩
  ·refine⟨_,rfl,_,rfl,l,_,_,_,rfl,rfl,aS.of GF,eg,ga,gx,rfl,.inl ⟨aS.of gg.1,fun tp htp=>?_⟩⟩
   (have t1:=ai (o:=HO.tup gx) htp;have u1:=ah (H:=J) (a:=tp) (o:=HO.tup gx);generalize upd J tp (HO.tup gx)=J1 at t1 u1 ⊢)
   refine⟨_,rfl,fun dd Ij=>?_⟩
   refine⟨ah,[(.inr (",":Str),.bl true)],rfl,(by show(1:Nat)≤15;decide),?_⟩
   have u2:(upd (upd J1 dd (.dK [])) dd (.dK (ly [] [(.inr (",":Str),.bl true)]))) dd=some (.dK [(.inr (",":Str),.bl true)]):=ah
   have t2:aE J1 (upd (upd J1 dd (.dK [])) dd (.dK (ly [] [(.inr (",":Str),.bl true)]))):=aL Ij (ai Ij)
   generalize upd (upd J1 dd (.dK [])) dd (.dK (ly [] [(.inr (",":Str),.bl true)]))=J2 at u2 t2 ⊢
   refine⟨(by decide),fun b1 hb1=>⟨(by decide),fun b2 hb2=>⟨(by show(8:Nat)≤sizeLine;decide),fun b3 JP=>⟨_,rfl,_,rfl,_,_,rfl,rfl,_,_,_,_,rfl,rfl,aS.of (ai JP _ _ (ai hb2 _ _ (ai hb1 _ _ (t2 _ _ (t1 _ _ IW))))),eq4,_,_,rfl,rfl,(by omega),?_⟩⟩⟩⟩
   (have t3:=ai (o:=HO.lst []) hb1;have u3:=ah (H:=J2) (a:=b1) (o:=HO.lst []);generalize upd J2 b1 (HO.lst [])=J3 at t3 u3 hb2 JP ⊢;have t4:=ai (o:=HO.tup []) hb2;have u4:=ah (H:=J3) (a:=b2) (o:=HO.tup []);generalize upd J3 b2 (HO.tup [])=J4 at t4 u4 JP ⊢;have t5:=ai (o:=HO.lst [V.ref tp,V.str (",;":Str),V.non,V.int c,V.ref dd,V.ref b1,V.ref b2,V.str ("":Str)]) JP;have u5:=ah (H:=J4) (a:=b3) (o:=HO.lst [V.ref tp,V.str (",;":Str),V.non,V.int c,V.ref dd,V.ref b1,V.ref b2,V.str ("":Str)]);generalize upd J4 b3 (HO.lst [V.ref tp,V.str (",;":Str),V.non,V.int c,V.ref dd,V.ref b1,V.ref b2,V.str ("":Str)])=J5 at t5 u5 ⊢)
   have f4:=t4.trans t5
   have f3:=t3.trans f4
   have f2:=t2.trans f3
   have f1:=t1.trans f2
   obtain⟨v,ev,hv'⟩:=pT (xs:=[V.ref tp,.str (",;":Str),.non,.int c,.ref dd,.ref b1,.ref b2,.str ("":Str)]) (i:=q4 % 8) (gQ (by decide)) (gR (by decide))
   have nD:∀{a:Addr}{G:Hp},aE J G→G a=none→a≠D:=fun sG ha e=>by rw[e,sG _ _ hv] at ha;cases ha
   have ok:(xM K J5 v∧mR J5 v=false)∧v≠.ref D:=by
    simp only[List.mem_cons,List.not_mem_nil,or_false] at hv'
    rcases hv' with rfl | rfl | rfl | rfl | rfl | rfl | rfl | rfl
    ·exact⟨se (.tup (f2 _ _ u1)) rfl (by decide),fun e=>nD (aE.refl _) htp (by cases e;rfl)⟩
    ·exact⟨se (.str _) rfl (by decide),fun e=>nomatch e⟩
    ·exact⟨se .non rfl (by decide),fun e=>nomatch e⟩
    ·exact⟨se (.int _) rfl (by decide),fun e=>nomatch e⟩
    ·exact⟨se (.dK (f3 _ _ u2)) rfl (by decide),fun e=>nD t1 Ij (by cases e;rfl)⟩
    ·have w:=f4 _ _ u3
     exact⟨⟨.inl ⟨b1,[],rfl,w,(fun _ z=>nomatch z),Nat.zero_le _⟩,by unfold mR;rw[cK w];rfl⟩,fun e=>nD (t1.trans t2) hb1 (by cases e;rfl)⟩
    ·exact⟨se (.tup (t5 _ _ u4)) rfl (by decide),fun e=>nD (t1.trans (t2.trans t3)) hb2 (by cases e;rfl)⟩
    ·exact⟨se (.str _) rfl (by decide),fun e=>nomatch e⟩
   refine⟨b3,_,_,v,rfl,rfl,aS.of u5,ev,?_⟩
   refine fin v J5 f1 ok.1.1 ok.2 (.inl ok.1.2) ?_
   simp only[List.mem_cons,List.not_mem_nil,or_false] at hv'
   rcases hv' with rfl | rfl | rfl | rfl | rfl | rfl | rfl | rfl <;> first | exact .inl rfl | exact .inr ⟨_,rfl⟩
  refine⟨_,rfl,_,rfl,_,_,rfl,rfl,xl,_,_,_,rfl,rfl,aS.of IW,eq4,?_⟩
  refine⟨_,rfl,_,rfl,l,_,_,_,rfl,rfl,aS.of GF,eg,ga,gx,rfl,.inl (aS.of gg.1),_,_,rfl,rfl,_,_,rfl,rfl,(by omega),?_⟩
  dsimp only[ig]
  generalize q4 % ((gx.length:Int)+1)=at'
  have R0:=gg.1
  refine⟨_,rfl,_,rfl,l,_,_,_,rfl,rfl,aS.of GF,eg,_,rfl,_,rfl,?_⟩
  refine⟨_,_,rfl,aS.of R0,fun s1 hs1=>⟨_,rfl,_,rfl,_,rfl,_,_,rfl,rfl,_,_,_,_,rfl,rfl,aS.of (ai hs1 _ _ IW),eq4,_,_,rfl,rfl,⟨(by omega),(by omega)⟩,_,rfl,_,_,_,rfl,(by omega),(by omega),?_⟩⟩
  (have t1:=ai (o:=HO.lst (cR gx none (some at'))) hs1;have u1:=ah (H:=J) (a:=s1) (o:=HO.lst (cR gx none (some at')));generalize upd J s1 (HO.lst (cR gx none (some at')))=J1 at t1 u1 ⊢)
  intro w J2 t2 cw bw
  have Df:=t1.trans t2
  have Yn:=jh gx none (some at')
  have Yo:=jh gx (some at') none
  have gl:=gg.2.1
  refine⟨(by show(1:Nat)≤sizeLine;decide),fun s2 hs2=>?_⟩
  (have t3:=ai (o:=HO.lst [w]) hs2;have u3:=ah (H:=J2) (a:=s2) (o:=HO.lst [w]);generalize upd J2 s2 (HO.lst [w])=J3 at t3 u3 ⊢)
  have VN:=t3 _ _ (t2 _ _ u1)
  refine⟨_,_,_,_,rfl,rfl,VN,u3,Nat.le_trans (show(cR gx none (some at')).length+1≤20 by omega) (by decide),fun s3 HS=>?_⟩
  (have t4:=ai (o:=HO.lst (cR gx none (some at')++[w])) HS;have u4:=ah (H:=J3) (a:=s3) (o:=HO.lst (cR gx none (some at')++[w]));generalize upd J3 s3 (HO.lst (cR gx none (some at')++[w]))=J4 at t4 u4 ⊢)
  have f4:=Df.trans (t3.trans t4)
  have JO:=f4 _ _ GF
  have VO:=f4 _ _ R0
  refine⟨_,rfl,_,rfl,l,_,_,_,rfl,rfl,aS.of JO,eg,_,rfl,_,rfl,ga,gx,rfl,aS.of VO,fun s4 VP=>?_⟩
  (have t5:=ai (o:=HO.lst (cR gx (some at') none)) VP;have u5:=ah (H:=J4) (a:=s4) (o:=HO.lst (cR gx (some at') none));generalize upd J4 s4 (HO.lst (cR gx (some at') none))=J5 at t5 u5 ⊢)
  have VQ:=t5 _ _ u4
  refine⟨_,_,_,_,rfl,rfl,VQ,u5,Nat.le_trans (show(cR gx none (some at')++[w]).length+(cR gx (some at') none).length≤30 by rw[List.length_append,List.length_singleton];omega) (by decide),fun s5 PB=>?_⟩
  have nD:s5≠D:=fun e=>by rw[e,t5 _ _ (f4 _ _ hv)] at PB;cases PB
  (have t6:=ai (o:=HO.lst (cR gx none (some at')++[w]++cR gx (some at') none)) PB;have u6:=ah (H:=J5) (a:=s5) (o:=HO.lst (cR gx none (some at')++[w]++cR gx (some at') none));generalize upd J5 s5 (HO.lst (cR gx none (some at')++[w]++cR gx (some at') none))=J6 at t6 u6 ⊢)
  have R1:=t3.trans (t4.trans (t5.trans t6))
  have f6:=Df.trans R1
  have cg:=(gg.mono f6).2.2
  have PC:=Df _ _ hv
  have kS:kI D J2 J6:=kI.same R1 PC
  refine fin (.ref s5) J6 f6 (.inl ⟨s5,_,rfl,u6,fun x hx=>?_,?_⟩) (fun e=>nD (by cases e;rfl)) (.inr ⟨w,?_,bw.1,bw.2.1,bw.2.2.1,fun e=>by rw[kS.je cw.1];exact bw.2.2.2 e⟩) (.inr ⟨_,rfl⟩)
  ·rcases List.mem_append.mp hx with z | z
   ·rcases List.mem_append.mp z with z | z
    ·exact cg x (El z)
    ·rw[List.mem_singleton.mp z];exact kS.Lf cw
   ·exact cg x (El z)
  ·rw[List.length_append,List.length_append,List.length_singleton];omega
  ·rw[cK u6];simp
def ia (K:W.Frag):Sp:=fun vs H Q _=>∃(a:Addr) (v1 v2 v3 v4:V),vs=[.ref a]∧H a=some (.lst [v1,v2,v3,v4])∧(∀ v∈[v1,v2,v3,v4],xM K H v)∧jy H v1 v2 v3 v4≠2∧(jy H v1 v2 v3 v4=0→∀ H',aE H H'→Q (.str ("none":Str)) H')∧(jy H v1 v2 v3 v4=1→∀ H',aE H H'→Q (.str ("many":Str)) H')
theorem kO:bf P w K mg base gM 9 (ay 24) (bI 24) ["_law_some_here"] (ia K):=by
 have oZ:A0 P w K mg base 1 (ay 20) (bI 20) ["_law_e"] (ny K [(ay 30),(ay 32),(ay 34),(ay 36),(ay 38),(ay 40),(ay 42),(ay 44),(ay 46),(ay 48),(ay 50)]):=tR T
 have lQ:bf P w K mg base (ql P w) 8 (ay 12) (bI 12) ["parts", "quotes", "frees", "truths"] (mG K (ay 27) (ay 36) (ay 46)):=pZ T
 refine T.dI.ok gW (fun vs H Q E h=>?_) (fun cdv A outer s H vs Q E hr h=>?_)
 ·obtain⟨a,v1,v2,v3,v4,rfl,_⟩:=h;rfl
 ·have hu:=dW hr
  have tu:=hr.bN
  obtain⟨a,v1,v2,v3,v4,rfl,ha,lk,n2,k0,k1⟩:=h
  have BL:=hr.units
  refine⟨_,(au (AY rfl rfl (xm (xj (xh (k:=8) lQ (hr.mono (by decide)) rfl T.su T.oO.kp T.sr .nil (af (iW K (pv 0) aj) (af (iW K (pv 0) aj) (af (iW K (pv 0) aj) (af (iW K (pv 0) aj) ao az) az) az) az)))) (GY (i:=1) rfl rfl T.pW T.eX (.inr ⟨_,_,rfl,T.aF⟩) gW.nd rfl rfl (fun ea=>(aA (dz (PW.pt (uQ (gU (j3 (cI rfl) T.aG (af (pv 1) (af (Hf "ValueError" T.ni) ao ak) ak))) (uQ (rC iu (Ge T.eX (.inr ⟨_,_,rfl,T.aF⟩) T.kK (pv 1) rfl) aj) (uP (rC (DS K rfl BL) (xy (k:=1) oZ ((hr.mono (by decide)).m.mark _) rfl T.oU T.kr.kp T.oS (af (pv 1) ao ak)) (xE (G:=Hd ea) (fun _ _ _ _=>rfl) (show aK ["_law_some_here", "_law_e"] (av bT) ["_law_k"] 1 [] _ from wQ) (uE (ea:=ea) rfl T.i8 (af aj ao aq)) (fun _ _ _ _=>(mQ 0 xG)) (fun _ _ _ _=>bW) (fun _ _ _ _=>(Dd iu (pv 0) aj)))))))) (aA (aY aI)) br))) (GY (i:=1) rfl rfl T.lI T.aF (.inl rfl) gW.nd rfl rfl (fun ea=>(aA (dz (PW.pt (uQ (gU (j3 (cI rfl) T.aG (af (pv 1) (af (Hf "ValueError" T.ni) ao ak) ak))) (uP (rC (DS K rfl BL) (xy (k:=1) oZ ((hr.mono (by decide)).m.mark _) rfl T.oU T.kr.kp T.oS (af (pv 1) ao ak)) (xE (G:=Hd ea) (fun _ _ _ _=>rfl) (show aK ["_law_some_here", "_law_e"] (av bT) ["_law_k"] 1 [] _ from wQ) (uE (ea:=ea) rfl T.i8 (af aj ao aq)) (fun _ _ _ _=>(mQ 0 xG)) (fun _ _ _ _=>bW) (fun _ _ _ _=>(Dd iu (pv 0) aj))))))) (aA (aY aI)) br))) DV)) br)
   (aA (aY aI))),?_⟩
  refine⟨_,rfl,a,_,_,_,rfl,rfl,aS.of ha,rfl,_,rfl,a,_,_,_,rfl,rfl,aS.of ha,rfl,_,rfl,a,_,_,_,rfl,rfl,aS.of ha,rfl,_,rfl,a,_,_,_,rfl,rfl,aS.of ha,rfl,v1,v2,v3,v4,rfl,lk,?_,?_,(fun e=>absurd e n2)⟩
  ·intro h0 H1 s1 ea oE
   have k0:=k0 h0
   have m1:(ay 46)≠(ay 36):=fun e=>by have h:=T.bL;rw[e,T.cz] at h;cases h
   have m2:(ay 46)≠(ay 28):=fun e=>by have h:=T.bL;rw[e,T.bD] at h;cases h
   have xq:O5 K (ay 36) (ay 28) [(ay 30),(ay 32),(ay 34),(ay 36),(ay 38),(ay 40),(ay 42),(ay 44),(ay 46),(ay 48),(ay 50)] (fun j=>decide ((j:Int)=3)):=⟨⟨_,_,_,T.gv,(.inr ⟨_,_,rfl,T.aF⟩)⟩,T.qx,(fun j D hj=>match j,hj with | 0,hj=>by obtain rfl:(ay 30)=D:=Option.some.inj hj;exact T.eG | 1,hj=>by obtain rfl:(ay 32)=D:=Option.some.inj hj;exact T.dY | 2,hj=>by obtain rfl:(ay 34)=D:=Option.some.inj hj;exact T.dg | 3,hj=>by obtain rfl:(ay 36)=D:=Option.some.inj hj;exact T.cz | 4,hj=>by obtain rfl:(ay 38)=D:=Option.some.inj hj;exact T.eH | 5,hj=>by obtain rfl:(ay 40)=D:=Option.some.inj hj;exact T.fG | 6,hj=>by obtain rfl:(ay 42)=D:=Option.some.inj hj;exact T.fH | 7,hj=>by obtain rfl:(ay 44)=D:=Option.some.inj hj;exact T.eN | 8,hj=>by obtain rfl:(ay 46)=D:=Option.some.inj hj;exact T.bL | 9,hj=>by obtain rfl:(ay 48)=D:=Option.some.inj hj;exact T.eO | 10,hj=>by obtain rfl:(ay 50)=D:=Option.some.inj hj;exact T.dh | (j+11),hj=>by simp at hj),T.bD,T.jm⟩
   refine⟨(ay 36),(ay 37),_,_,rfl,T.gv,Lb (by simp[m1,m2]) ?_⟩
   refine⟨(ay 36),(ay 37),_,_,rfl,T.gv,Ed (by simp) ?_⟩
   have he:(upd H1 ea (xr ea (.ref (ay 36)) none)) ea=some (xr ea (.ref (ay 36)) none):=ah
   have s2:=ai (o:=xr ea (.ref (ay 36)) none) oE
   generalize upd H1 ea (xr ea (.ref (ay 36)) none)=H2 at he s2 ⊢
   have xo:Gg H2 ea (ay 36):=⟨_,.inr he,.inl rfl⟩
   refine⟨_,rfl,ea,(ay 36),_,_,_,_,true,rfl,xo,T.gv,(.inr ⟨_,_,rfl,T.aF⟩),T.qx,.inl ⟨_,rfl,T.jm⟩,true,rfl,jF ?_⟩
   refine⟨_,rfl,ea,(ay 36),(ay 28),_,rfl,xo,xq,fun l H3 s3 hl=>?_⟩
   refine⟨_,rfl,by decide,by decide,fun D hD=>?_⟩
   refine qp (fun i ys τ H4=>(∃ v,τ=[v])∧aE H3 H4∧H4 D=some (.lst ys)∧ys=(List.range i).map fun j:Nat=>V.bl (decide ((j:Int)=3))) ⟨⟨_,rfl⟩,ai hD,ah,rfl⟩ (fun i ys τ H4 _ p=>p.2.2.1) ?_ ?_
   ·rintro i ys τ H4 hi ⟨⟨v,rfl⟩,s4,IX,rfl⟩
    have hi:i < 11:=hi
    refine kQ ?_
    refine⟨_,rfl,rfl,IX,?_,⟨_,rfl⟩,aL hD s4,ah,?_⟩
    ·rw[List.length_map,List.length_range];exact Nat.lt_of_lt_of_le hi (by decide)
    rw[List.range_succ,List.map_append]
    show _++[V.bl (decide (V.int (0+(i:Int))=V.int 3))]=_++[V.bl (decide ((i:Int)=3))]
    rw[Int.zero_add,A3]
   ·rintro ys τ H4 ⟨_,s4,IX,rfl⟩
    refine⟨⟨_,_,(s3.trans s4) _ _ he⟩,⟨1,l,D,_,_,rfl,rfl,by decide,rfl,.inr ⟨aS.of (s4 _ _ hl),aS.of IX⟩,same_self ?_⟩,_,rfl,jF (k0 _ (s1.trans (s2.trans (s3.trans s4))))⟩
    rw[List.all_map,List.all_eq_true];exact fun _ _=>rfl
  ·intro h1 d H1 hd0 hxd s1 ea oE
   have k1:=k1 h1
   have xq:O5 K (ay 46) (ay 28) [(ay 30),(ay 32),(ay 34),(ay 36),(ay 38),(ay 40),(ay 42),(ay 44),(ay 46),(ay 48),(ay 50)] (fun j=>decide ((j:Int)=8)):=⟨⟨_,_,_,T.eX,(.inr ⟨_,_,rfl,T.aF⟩)⟩,T.sH,(fun j D hj=>match j,hj with | 0,hj=>by obtain rfl:(ay 30)=D:=Option.some.inj hj;exact T.fJ | 1,hj=>by obtain rfl:(ay 32)=D:=Option.some.inj hj;exact T.eS | 2,hj=>by obtain rfl:(ay 34)=D:=Option.some.inj hj;exact T.dN | 3,hj=>by obtain rfl:(ay 36)=D:=Option.some.inj hj;exact T.dZ | 4,hj=>by obtain rfl:(ay 38)=D:=Option.some.inj hj;exact T.fK | 5,hj=>by obtain rfl:(ay 40)=D:=Option.some.inj hj;exact T.gw | 6,hj=>by obtain rfl:(ay 42)=D:=Option.some.inj hj;exact T.gy | 7,hj=>by obtain rfl:(ay 44)=D:=Option.some.inj hj;exact T.fL | 8,hj=>by obtain rfl:(ay 46)=D:=Option.some.inj hj;exact T.eU | 9,hj=>by obtain rfl:(ay 48)=D:=Option.some.inj hj;exact T.fM | 10,hj=>by obtain rfl:(ay 50)=D:=Option.some.inj hj;exact T.dO | (j+11),hj=>by simp at hj),T.cL,T.ku⟩
   refine⟨(ay 46),(ay 47),_,_,rfl,T.eX,Ed (by simp) ?_⟩
   have he:(upd H1 ea (xr ea (.ref (ay 46)) (some d))) ea=some (xr ea (.ref (ay 46)) (some d)):=ah
   have s2:=ai (o:=xr ea (.ref (ay 46)) (some d)) oE
   generalize upd H1 ea (xr ea (.ref (ay 46)) (some d))=H2 at he s2 ⊢
   have xo:Gg H2 ea (ay 46):=⟨_,.inr he,.inr ⟨d,_,rfl,s2 _ _ hxd⟩⟩
   refine⟨_,rfl,ea,(ay 46),_,_,_,_,true,rfl,xo,T.eX,(.inr ⟨_,_,rfl,T.aF⟩),T.sH,.inl ⟨_,rfl,T.ku⟩,true,rfl,jF ?_⟩
   refine⟨_,rfl,ea,d,_,_,rfl,he,s2 _ _ hxd,rfl,rfl,_,rfl,Ry rfl ?_⟩
   refine⟨_,rfl,ea,(ay 46),(ay 28),_,rfl,xo,xq,fun l H3 s3 hl=>?_⟩
   refine⟨_,rfl,by decide,by decide,fun D hD=>?_⟩
   refine qp (fun i ys τ H4=>(∃ v,τ=[v])∧aE H3 H4∧H4 D=some (.lst ys)∧ys=(List.range i).map fun j:Nat=>V.bl (decide ((j:Int)=8))) ⟨⟨_,rfl⟩,ai hD,ah,rfl⟩ (fun i ys τ H4 _ p=>p.2.2.1) ?_ ?_
   ·rintro i ys τ H4 hi ⟨⟨v,rfl⟩,s4,IX,rfl⟩
    have hi:i < 11:=hi
    refine kQ ?_
    refine⟨_,rfl,rfl,IX,?_,⟨_,rfl⟩,aL hD s4,ah,?_⟩
    ·rw[List.length_map,List.length_range];exact Nat.lt_of_lt_of_le hi (by decide)
    rw[List.range_succ,List.map_append]
    show _++[V.bl (decide (V.int (0+(i:Int))=V.int 8))]=_++[V.bl (decide ((i:Int)=8))]
    rw[Int.zero_add,A3]
   ·rintro ys τ H4 ⟨_,s4,IX,rfl⟩
    refine⟨⟨_,_,(s3.trans s4) _ _ he⟩,⟨1,l,D,_,_,rfl,rfl,by decide,rfl,.inr ⟨aS.of (s4 _ _ hl),aS.of IX⟩,same_self ?_⟩,_,rfl,jF (k1 _ (s1.trans (s2.trans (s3.trans s4))))⟩
    rw[List.all_map,List.all_eq_true];exact fun _ _=>rfl
def pe (K:W.Frag):Sp:=fun vs H Q _=>∃(l l1 l2 l3 l4:Addr) (h1 h2 h3 h4:V) (r1 r2 r3 r4:List V) (j:Nat),vs=[.ref l,.int j]∧j < 4∧H l=some (.lst [.ref l1,.ref l2,.ref l3,.ref l4])∧H l1=some (.lst (h1 :: r1))∧H l2=some (.lst (h2 :: r2))∧H l3=some (.lst (h3 :: r3))∧H l4=some (.lst (h4 :: r4))∧m9 K H h1∧m9 K H h2∧m9 K H h3∧m9 K H h4∧bM h1 1 3=true∧bM h2 0 2=true∧bM h3 0 2=true∧je H h4=true∧∀ H',aE H H'→Q (.bl true) H'
theorem vF:bf P w K mg base gM 10 (ay 25) (bI 25) ["_law_good_here", "_law_place"] (pe K):=by
 have dP:bf P w K mg base gM 9 (ay 24) (bI 24) ["_law_some_here"] (ia K):=kO T
 have lQ:bf P w K mg base (ql P w) 8 (ay 12) (bI 12) ["parts", "quotes", "frees", "truths"] (mG K (ay 27) (ay 36) (ay 46)):=pZ T
 refine T.qw.ok ko (fun vs H Q E h=>?_) (fun cdv A outer s H vs Q E hr h=>?_)
 ·obtain⟨l,l1,l2,l3,l4,h1,h2,h3,h4,r1,r2,r3,r4,j,rfl,_⟩:=h;rfl
 ·have hu:=dW hr
  have tu:=hr.bN
  obtain⟨l,l1,l2,l3,l4,h1,h2,h3,h4,r1,r2,r3,r4,j,rfl,hj,hl,a1,a2,a3,a4,c1,c2,c3,c4,g1,g2,g3,g4,k⟩:=h
  have BL:=hr.units
  refine'⟨_,?aa,?bb⟩
  case aa =>
   refine' au ?s0 ?r0
   case s0 =>
    exact(kg (i:=2) rfl ko.nd rfl rfl (show aK ["_law_good_here", "_law_place", "_law_few", "_law_kept"] (av dG) ["_law_choices"] 1 [] _ from wQ) (bG K rfl (pv 0)) (fun _ _ _ _=>(mQ 0 xG)) (fun _ _ _ _=>bW) (fun _ _ _ _=>(gK (iT K rfl) (pv 0) jf (jg aj))))
   case r0 =>
    refine' au ?s1 ?r1
    case s1 =>
     exact(j6 (aB DI (iW K (pv 2) (pv 1)) aj) (pL (pv 2) (pv 1) set_list))
    case r1 =>
     refine' au ?s2 ?r2
     case s2 =>
      exact(kg (i:=3) rfl ko.nd rfl rfl (show aK ["_law_good_here", "_law_place", "_law_few", "_law_kept"] (av dG) ["_law_choices"] 1 [] _ from wQ) (bG K rfl (pv 2)) (fun _ _ _ _=>(mQ 0 xG)) (fun _ _ _ _=>bW) (fun _ _ _ _=>(Iw (gC K rfl) T.mF (af (pv 0) ao ak))))
     case r2 =>
      refine' au ?s3 ?r3
      case s3 =>
       refine' dz ?c4 ?b4 ?e4
       case c4=>exact(PW.pt (ow (rC rP (oq dP hr T.fF T.dI.kp T.fE (af (pv 2) ao ak)) aI) (pK (rC (DT K rfl BL) (pv 2) (pv 3)))))
       case b4 =>
        refine' aA ?s5
        case s5 =>
         exact(aY ie)
       case e4 =>
        exact br
      case r3 =>
       refine' au ?s6 ?r6
       case s6 =>
        exact(rm (FP K rfl PySem.F.plainAttrs_list PySem.F.slot_list_pop PySem.F.type_list_pop HN (iW K (pv 2) (pv 1))))
       case r6 =>
        refine' aA ?s7
        case s7 =>
         exact(aY (Dd iu (j3 (bx K rfl) T.fN (af (rz (k:=8) lQ (hr.mono (by decide)) rfl T.su T.oO.kp T.sr .nil G0 (af (iW K (pv 2) aj) (af (iW K (pv 2) aj) (af (iW K (pv 2) aj) (af (iW K (pv 2) aj) ao az) az) az) az)) ao bP)) aj))
  refine⟨_,rfl,l,rfl,⟨_,aS.of hl⟩,fun D hD=>?_⟩
  refine bX (K:=K) (a:=l) (xs:=[.ref l1,.ref l2,.ref l3,.ref l4]) (fun i ys τ J=>(∃ v,τ=[v])∧aE H J∧J D=some (.lst ys)∧Paired (vq H J D) ys ([h1,h2,h3,h4].take i)) ⟨⟨_,rfl⟩,ai hD,ah,.nil⟩ (fun i ys τ J _ p=>⟨aS.of (p.2.1 _ _ hl),p.2.2.1⟩) ?_ ?_
  ·rintro i e ys τ J hi ⟨⟨v,rfl⟩,sJ,oY,hys⟩
   have hil:i < 4:=(List.getElem?_eq_some_iff.mp hi).1
   have hyl:ys.length=i:=by rw[hys.length,List.length_take];show min i 4=i;omega
   obtain⟨a,h,r,rfl,ha,hh⟩:∃ a h r,e=.ref a∧H a=some (.lst (h :: r))∧[h1,h2,h3,h4][i]? = some h:=by
    rcases(show i=0∨i=1∨i=2∨i=3 by omega) with rfl | rfl | rfl | rfl <;> cases hi
    ·exact⟨_,_,_,rfl,a1,rfl⟩
    ·exact⟨_,_,_,rfl,a2,rfl⟩
    ·exact⟨_,_,_,rfl,a3,rfl⟩
    ·exact⟨_,_,_,rfl,a4,rfl⟩
   have JR:=sJ _ _ ha
   refine kQ ?_
   refine⟨_,rfl,_,rfl,a,_,rfl,aS.of JR,fun m hm=>?_⟩
   rw[Lh]
   have nm:m≠D:=fun q=>by rw[q,oY] at hm;cases hm
   have fm:H m=none:=sJ.free hm
   (have t1:=ai (o:=HO.lst [h]) hm;have u1:=ah (H:=J) (a:=m) (o:=HO.lst [h]);generalize upd J m (HO.lst [h])=J1 at t1 u1 ⊢)
   have Ey:=t1 _ _ oY
   refine⟨Ey,?_,⟨_,rfl⟩,aL hD (sJ.trans t1),ah,?_⟩
   ·rw[hyl];exact Nat.lt_of_lt_of_le hil (by decide)
   ·rw[cE hh]
    exact Paired.imp' (fun _ _ (q:vq _ _ _ _ _)=>q.set) (er (Paired.imp' (fun _ _ q=>vq.mono t1 q) hys) (.cons ⟨m,rfl,nm,fm,u1⟩ .nil))
  rintro ys τ J ⟨⟨v,rfl⟩,sJ,oY,hys⟩
  rw[List.take_of_length_le (by simp)] at hys
  cases hys with | cons o1 hys =>
  cases hys with | cons o2 hys =>
  cases hys with | cons o3 hys =>
  cases hys with | cons o4 hys =>
  cases hys
  obtain⟨d1,rfl,xG,f1,w1⟩:=o1
  obtain⟨d2,rfl,NK,f2,w2⟩:=o2
  obtain⟨d3,rfl,NL,f3,w3⟩:=o3
  obtain⟨d4,rfl,NN,f4,w4⟩:=o4
  dsimp only[ig]
  refine pU (t:=Bm _ _) (fun σ' G=>aE H G∧σ'=[some (V.ref l),some (V.int j),some (V.ref D),none]∧∃(b b1 b2 b3 b4:Addr) (n1 n2 n3 n4:Nat) (h:V),G D=some (.lst [.ref b1,.ref b2,.ref b3,.ref b4])∧AQ [V.ref b1,.ref b2,.ref b3,.ref b4] (j:Int)=some (.ref b)∧H b=none∧b≠D∧G b1=some (.lst (List.replicate n1 h1))∧G b2=some (.lst (List.replicate n2 h2))∧G b3=some (.lst (List.replicate n3 h3))∧G b4=some (.lst (List.replicate n4 h4))∧(0 < n1∧n1≤25)∧(0 < n2∧n2≤25)∧(0 < n3∧n3≤25)∧(0 < n4∧n4≤25)∧n1 * n2 * n3 * n4=25∧G b=some (.lst (List.replicate 25 h))∧∀ J1,aE G J1→∃(m1 m2 m3 m4:Nat),(upd J1 b (.lst (List.replicate 24 h))) b1=some (.lst (List.replicate m1 h1))∧(upd J1 b (.lst (List.replicate 24 h))) b2=some (.lst (List.replicate m2 h2))∧(upd J1 b (.lst (List.replicate 24 h))) b3=some (.lst (List.replicate m3 h3))∧(upd J1 b (.lst (List.replicate 24 h))) b4=some (.lst (List.replicate m4 h4))∧(0 < m1∧m1≤25)∧(0 < m2∧m2≤25)∧(0 < m3∧m3≤25)∧(0 < m4∧m4≤25)∧m1 * m2 * m3 * m4=24) ?_ (fun go=>?_)
  rotate_left
  ·obtain⟨d,h,ed,wd⟩:∃ d h,AQ [V.ref d1,.ref d2,.ref d3,.ref d4] (j:Int)=some (.ref d)∧J d=some (.lst [h]):=by
    rcases(show j=0∨j=1∨j=2∨j=3 by omega) with rfl | rfl | rfl | rfl
    ·exact⟨_,_,rfl,w1⟩
    ·exact⟨_,_,rfl,w2⟩
    ·exact⟨_,_,rfl,w3⟩
    ·exact⟨_,_,rfl,w4⟩
   refine⟨_,rfl,_,rfl,D,_,_,_,rfl,rfl,aS.of oY,ed,d,_,_,rfl,rfl,wd,(by decide),(by decide),(by show 1 * 25≤sizeLine;decide),fun b hb=>?_⟩
   have VR:(List.replicate (25:Int).toNat [h]).flatten=List.replicate 25 h:=rfl
   rw[VR]
   have fb:H b=none:=sJ.free hb
   have nb:b≠D:=fun q=>by rw[q,oY] at hb;cases hb
   have b1:d1≠b:=fun q=>by rw[←q,w1] at hb;cases hb
   have b2:d2≠b:=fun q=>by rw[←q,w2] at hb;cases hb
   have b3:d3≠b:=fun q=>by rw[←q,w3] at hb;cases hb
   have b4:d4≠b:=fun q=>by rw[←q,w4] at hb;cases hb
   (have t1:=ai (o:=HO.lst (List.replicate 25 h)) hb;have u1:=ah (H:=J) (a:=b) (o:=HO.lst (List.replicate 25 h));generalize upd J b (HO.lst (List.replicate 25 h))=J1 at t1 u1 ⊢)
   have Ey:=t1 _ _ oY
   have v1:∀ o,(upd J1 D o) d1=some (.lst [h1]):=fun o=>(aC xG).trans (t1 _ _ w1)
   have v2:∀ o,(upd J1 D o) d2=some (.lst [h2]):=fun o=>(aC NK).trans (t1 _ _ w2)
   have v3:∀ o,(upd J1 D o) d3=some (.lst [h3]):=fun o=>(aC NL).trans (t1 _ _ w3)
   have v4:∀ o,(upd J1 D o) d4=some (.lst [h4]):=fun o=>(aC NN).trans (t1 _ _ w4)
   have vb:∀ o,(upd J1 D o) b=some (.lst (List.replicate 25 h)):=fun o=>(aC nb).trans u1
   have sD:∀ o,aE H (upd J1 D o):=fun o=>aL hD (sJ.trans t1)
   have one:(0 < 1∧1≤25):=by decide
   have tf:(0 < 25∧25≤25):=by decide
   have NO:(0 < 24∧24≤25):=by decide
   refine⟨_,rfl,_,rfl,D,_,_,j,rfl,rfl,Ey,(by unfold C7;rw[if_pos (by omega),if_pos (by show(j:Int) < 4;omega)];rfl),?_⟩
   refine go _ _ ⟨sD _,rfl,?_⟩
   rcases(show j=0∨j=1∨j=2∨j=3 by omega) with rfl | rfl | rfl | rfl
   ·have eh:h=h1:=by cases ed;rw[w1] at wd;cases wd;rfl
    subst eh
    exact⟨b,b,d2,d3,d4,25,1,1,1,h,ah,rfl,fb,nb,vb _,v2 _,v3 _,v4 _,tf,one,one,one,rfl,vb _,fun J2 s2=>⟨24,1,1,1,ah,(aC b2).trans (s2 _ _ (v2 _)),(aC b3).trans (s2 _ _ (v3 _)),(aC b4).trans (s2 _ _ (v4 _)),NO,one,one,one,rfl⟩⟩
   ·have eh:h=h2:=by cases ed;rw[w2] at wd;cases wd;rfl
    subst eh
    exact⟨b,d1,b,d3,d4,1,25,1,1,h,ah,rfl,fb,nb,v1 _,vb _,v3 _,v4 _,one,tf,one,one,rfl,vb _,fun J2 s2=>⟨1,24,1,1,(aC b1).trans (s2 _ _ (v1 _)),ah,(aC b3).trans (s2 _ _ (v3 _)),(aC b4).trans (s2 _ _ (v4 _)),one,NO,one,one,rfl⟩⟩
   ·have eh:h=h3:=by cases ed;rw[w3] at wd;cases wd;rfl
    subst eh
    exact⟨b,d1,d2,b,d4,1,1,25,1,h,ah,rfl,fb,nb,v1 _,v2 _,vb _,v4 _,one,one,tf,one,rfl,vb _,fun J2 s2=>⟨1,1,24,1,(aC b1).trans (s2 _ _ (v1 _)),(aC b2).trans (s2 _ _ (v2 _)),ah,(aC b4).trans (s2 _ _ (v4 _)),one,one,NO,one,rfl⟩⟩
   ·have eh:h=h4:=by cases ed;rw[w4] at wd;cases wd;rfl
    subst eh
    exact⟨b,d1,d2,d3,b,1,1,1,25,h,ah,rfl,fb,nb,v1 _,v2 _,v3 _,vb _,one,one,one,tf,rfl,vb _,fun J2 s2=>⟨1,1,1,24,(aC b1).trans (s2 _ _ (v1 _)),(aC b2).trans (s2 _ _ (v2 _)),(aC b3).trans (s2 _ _ (v3 _)),ah,one,one,one,NO,rfl⟩⟩
  clear w1 w2 w3 w4 f1 f2 f3 f4 xG NK NL NN
  rintro σ' G ⟨sG,rfl,b,b1,b2,b3,b4,n1,n2,n3,n4,h,PD,eb,fb,nb,w1,w2,w3,w4,p1,p2,p3,p4,pm,wb,pop⟩
  refine⟨_,rfl,D,rfl,⟨_,aS.of PD⟩,fun E hE=>?_⟩
  refine bX (K:=K) (a:=D) (xs:=[.ref b1,.ref b2,.ref b3,.ref b4]) (fun i ys τ J=>(∃ v,τ=[v])∧aE G J∧J E=some (.lst ys)∧Paired (A9 E J) ys ([V.ref b1,.ref b2,.ref b3,.ref b4].take i)) ⟨⟨_,rfl⟩,ai hE,ah,.nil⟩ (fun i ys τ J _ p=>⟨aS.of (p.2.1 _ _ PD),p.2.2.1⟩) ?_ ?_
  ·rintro i e ys τ J hi ⟨⟨v,rfl⟩,sJ,oY,hys⟩
   have hil:i < 4:=(List.getElem?_eq_some_iff.mp hi).1
   have hyl:ys.length=i:=by rw[hys.length,List.length_take];show min i 4=i;omega
   have sl:∀{n:Nat}{h:V},m9 K H h→∀ x∈List.replicate n h,Gx x:=fun c x hx=>by rw[List.eq_of_mem_replicate hx];exact Ek c.1
   obtain⟨a,xs,rfl,ha,hx⟩:∃ a xs,e=.ref a∧G a=some (.lst xs)∧∀ x∈xs,Gx x:=by
    rcases(show i=0∨i=1∨i=2∨i=3 by omega) with rfl | rfl | rfl | rfl <;> cases hi
    ·exact⟨_,_,rfl,w1,sl c1⟩
    ·exact⟨_,_,rfl,w2,sl c2⟩
    ·exact⟨_,_,rfl,w3,sl c3⟩
    ·exact⟨_,_,rfl,w4,sl c4⟩
   have JR:=sJ _ _ ha
   refine kQ ?_
   refine⟨_,rfl,a,xs,rfl,.inl (aS.of JR),fun m hm=>?_⟩
   have nm:m≠E:=fun q=>by rw[q,oY] at hm;cases hm
   have na:a≠E:=fun q=>by rw[q,hE] at ha;cases ha
   (have t1:=ai (o:=HO.lst xs) hm;have u1:=ah (H:=J) (a:=m) (o:=HO.lst xs);generalize upd J m (HO.lst xs)=J1 at t1 u1 ⊢)
   have Ey:=t1 _ _ oY
   refine⟨Ey,?_,⟨_,rfl⟩,aL hE (sJ.trans t1),ah,?_⟩
   ·rw[hyl];exact Nat.lt_of_lt_of_le hil (by decide)
   ·rw[cE hi]
    exact Paired.imp' (fun _ _ (q:A9 _ _ _ _)=>q.set) (er (Paired.imp' (fun _ _ q=>A9.mono t1 q) hys) (.cons ⟨m,a,xs,rfl,rfl,u1,t1 _ _ JR,nm,na,hx⟩ .nil))
  rintro ys τ J ⟨⟨v,rfl⟩,sJ,oY,hys⟩
  rw[List.take_of_length_le (by simp)] at hys
  have zk:=sG.trans sJ
  have R3:=sJ _ _ PD
  have kc:∀{G:Hp}{h:V},aE H G→m9 K H h→m9 K G h:=fun s c=>(kI.same s hl).Lf c
  have ff:=A8 (K:=K) (sJ _ _ w1) (sJ _ _ w2) (sJ _ _ w3) (sJ _ _ w4) p1 p2 p3 p4 (kc zk c1) (kc zk c2) (kc zk c3) (kc zk c4) g1 g2 g3 ((oH zk c4.1).trans g4)
  rw[pm] at ff
  obtain⟨lk,fr,_⟩:=ff
  have fr:jy J (.ref b1) (.ref b2) (.ref b3) (.ref b4)=1:=fr
  refine⟨_,rfl,D,_,_,_,_,rfl,R3,lk,(by rw[fr];decide),(fun e=>by rw[fr] at e;cases e),fun _ J1 t1=>?_⟩
  have IY:=t1 _ _ oY
  have IZ:=t1 _ _ R3
  refine⟨rfl,_,rfl,jE ?_⟩
  refine⟨_,rfl,_,rfl,⟨3,D,E,_,_,rfl,rfl,(by decide),hys.length.symm,.inr ⟨aS.of IZ,aS.of IY⟩,fun i x y ex ey=>((lA hys ey ex).mono t1).same⟩,_,rfl,jE ?_⟩
  dsimp only[wW]
  have PF:=t1 _ _ (sJ _ _ wb)
  refine⟨_,rfl,_,rfl,D,_,_,_,rfl,rfl,aS.of IZ,eb,.inl ⟨rfl,⟨_,aS.of PF⟩⟩,b,_,h,rfl,rfl,PF,rfl,?_⟩
  have VS:(List.replicate 25 h).dropLast=List.replicate 24 h:=rfl
  rw[VS]
  have kb:kI b J1 (upd J1 b (.lst (List.replicate 24 h))):=kI.set PF
  have sF:aE H (upd J1 b (.lst (List.replicate 24 h))):=aL fb (zk.trans t1)
  obtain⟨m1,m2,m3,m4,w1,w2,w3,w4,p1,p2,p3,p4,pm⟩:=pop J1 (sJ.trans t1)
  have Lx:(upd J1 b (.lst (List.replicate 24 h))) D=_:=(aC (Ne.symm nb)).trans IZ
  generalize upd J1 b (.lst (List.replicate 24 h))=F at kb sF w1 w2 w3 w4 Lx ⊢
  have ff:=A8 (K:=K) w1 w2 w3 w4 p1 p2 p3 p4 (kc sF c1) (kc sF c2) (kc sF c3) (kc sF c4) g1 g2 g3 ((oH sF c4.1).trans g4)
  rw[pm] at ff
  obtain⟨lk,fr,pr⟩:=ff
  have fr:jy F (.ref b1) (.ref b2) (.ref b3) (.ref b4)=2:=fr
  refine⟨_,rfl,D,_,_,_,rfl,rfl,aS.of Lx,rfl,_,rfl,D,_,_,_,rfl,rfl,aS.of Lx,rfl,_,rfl,D,_,_,_,rfl,rfl,aS.of Lx,rfl,_,rfl,D,_,_,_,rfl,rfl,aS.of Lx,rfl,_,_,_,_,rfl,lk,(fun e=>by rw[fr] at e;cases e),(fun e=>by rw[fr] at e;cases e),fun _ m xs F2 hm0 hm Ly s2=>?_⟩
  rw[pr] at Ly
  refine⟨m,xs,rfl,.inl (aS.of hm),?_⟩
  rw[Ly]
  refine⟨rfl,?_⟩
  exact k F2 (sF.trans s2)
def vG (K:W.Frag):Sp:=fun vs H Q _=>∃(a:Addr) (ns:List Int),vs=[.ref a]∧aS K H a (ns.map V.int)∧ns.length≤63∧∀ H',Q (.bl true) H'
theorem Ja:bf P w K mg base gM 11 (ay 26) (bI 26) ["_law_script"] (vG K):=by
 have sP:bf P w K mg base gM 1 (ay 13) (bI 13) ["_law_script", "_law_k"] (kN K):=qI T
 have vH:bf P w K mg base gM 2 (ay 19) (bI 19) ["_law_cell", "_law_many"] nu:=tQ T
 have ya:bf P w K mg base gM 10 (ay 25) (bI 25) ["_law_good_here", "_law_place"] (pe K):=vF T
 have yb:bf P w K mg base gM 4 (ay 21) (bI 21) ["_law_cell"] (oX K):=vE T
 have dP:bf P w K mg base gM 9 (ay 24) (bI 24) ["_law_some_here"] (ia K):=kO T
 have tS:bf P w K mg base gM 2 (ay 23) (bI 23) ["_law_good_here", "_law_xs", "_law_cell"] (lP K):=sO T
 have lQ:bf P w K mg base (ql P w) 8 (ay 12) (bI 12) ["parts", "quotes", "frees", "truths"] (mG K (ay 27) (ay 36) (ay 46)):=pZ T
 refine T.Li.ok lB (fun vs H Q E h=>?_) (fun cdv A outer s H vs Q E hr h=>?_)
 ·obtain⟨a,ns,rfl,_⟩:=h;rfl
 ·have hu:=dW hr
  have tu:=hr.bN
  obtain⟨a,ns,rfl,R4,hlen,k⟩:=h
  have BL:=hr.units
  refine'⟨_,?aa,?bb⟩
  case aa =>
   refine' au ?s0 ?r0
   case s0 =>
    exact(j7 PassesOwn.never rfl (bG K rfl (aB j8 (bE (af (oq sP hr T.sA T.lF.kp T.sy (af (pv 0) (af aj ao aq) ak)) ao bP)) (gK (iT K rfl) (pv 0) jf (jg aj)))) (mQ 1 lB.nd)
     (au (oF 2 lB.nd (oq vH hr T.vA T.oR.kp T.vz (af (pv 1) (af aj ao aq) ak)) (hs:=mD))
     (au (oF 3 lB.nd (oq yb hr T.xW T.qv.kp T.xV (af (aB cF (pv 1) aj) ao bA)) (hs:=mD))
     (au (oF 4 lB.nd (oq tS hr T.tN T.nh.kp T.tM (af (pv 3) (af (pv 2) (af (pv 1) ao ak) ak) ak)) (hs:=mD))
     (au (kg (i:=5) rfl lB.nd rfl rfl (show aK ["_law_script", "_law_cell", "_law_xs", "_law_good_here", "_law_wrong", "_law_kept", "_law_more", "_law_place"] (av m8) ["_law_some_here"] 1 [] _ from wQ) (bG K rfl (pv 4)) (fun _ _ _ _=>(mQ 0 xG)) (fun _ _ _ _=>bW) (fun _ _ _ _=>(Di (gU (j3 (dR K rfl) T.aG (af (pv 0) (af (Hf "list" T.mF) ao ak) ak))) (Iw (gC K rfl) T.mF (af (pv 0) ao ak)) (pv 0))))
     (au (dz (PW.pt (ow (rC rP (oq dP hr T.fF T.dI.kp T.fE (af (pv 4) ao ak)) aI) (ow (rC (DT K rfl BL) (pv 4) (pv 5)) (pK (rC rP (j3 (bx K rfl) T.fN (af (rz (k:=8) lQ (hr.mono (by decide)) rfl T.su T.oO.kp T.sr .nil G0 (af (iW K (pv 3) aj) (af (iW K (pv 3) aj) (af (iW K (pv 3) aj) (af (iW K (pv 3) aj) ao az) az) az) az)) ao bP)) aj))))) (aA (aY ie)) br)
     (au (kg (i:=6) rfl lB.nd rfl rfl (show aK ["_law_script", "_law_cell", "_law_xs", "_law_good_here", "_law_wrong", "_law_kept", "_law_more", "_law_place"] (av m8) ["_law_choices"] 1 [] _ from wQ) (bG K rfl (pv 3)) (fun _ _ _ _=>(mQ 0 xG)) (fun _ _ _ _=>bW) (fun _ _ _ _=>(Iw (gC K rfl) T.mF (af (pv 0) ao ak))))
     (au (oF 7 lB.nd (aB bz (iW K (pv 2) aj) aj) (hs:=cj))
     (au (j6 (aB j8 (iW K (pv 6) (pv 7)) (gK (iT K rfl) (iW K (pv 6) (pv 7)) jf (jg aj))) (pL (pv 6) (pv 7) set_list))
     (aA (dz (PW.pt (ow (rC rP (oq dP hr T.fF T.dI.kp T.fE (af (pv 6) ao ak)) aI) (ow (rC rP (oq dP hr T.fF T.dI.kp T.fE (af (pv 4) ao ak)) aI) (pK (j5 (gU (oq ya hr T.xY T.qw.kp T.xX (af (pv 3) (af (pv 7) ao ak) ak)))))))) (aA (aY ie)) br)))))))))))
   case r0 =>
    refine' aA ?s1
    case s1 =>
     exact(aY ie)
  refine⟨_,rfl,a,_,_,rfl,R4,by decide,fun c0=>⟨(by show 1≤sizeLine;decide),fun l1 h1=>?_⟩⟩
  have s1:=ai (o:=HO.lst [.int c0]) h1
  refine⟨_,rfl,_,rfl,a,_,rfl,s1.seq R4,fun l2 h2=>?_⟩
  obtain⟨ms,em,lm⟩:=Gq V.int ns none (some 8)
  rw[em]
  have VT:l1≠l2:=aZ ah h2
  refine⟨l1,l2,_,_,rfl,rfl,(aC VT).trans ah,ah,?_,fun pp hpp=>?_⟩
  ·rw[List.length_map];exact Nat.le_trans (show 1+ms.length≤64 by omega) (by decide)
  have VU:[V.int c0]++ms.map V.int=(c0 :: ms).map V.int:=rfl
  rw[VU]
  have ep:(upd (upd (upd H l1 (.lst [.int c0])) l2 (.lst (ms.map V.int))) pp (.lst ((c0 :: ms).map V.int))) pp=some (.lst ((c0 :: ms).map V.int)):=ah
  generalize upd (upd (upd H l1 (.lst [.int c0])) l2 (.lst (ms.map V.int))) pp (.lst ((c0 :: ms).map V.int))=Hb at ep ⊢
  generalize c0 :: ms=cs at ep ⊢
  refine⟨pp,rfl,⟨_,aS.of ep⟩,?_⟩
  refine kY (K:=K) (a:=pp) (xs:=cs.map V.int) (fun i σ H2=>aE Hb H2∧∃ v1 v2 v3 v4 v5 v6 v7,σ=[some (.ref a),v1,v2,v3,v4,v5,v6,v7]) ⟨aE.refl _,_,_,_,_,_,_,_,rfl⟩ (fun i σ H2 _ q=>aS.of (q.1 _ _ ep)) ?_ ?_
  rotate_left
  ·rintro σ H2 ⟨s2,v1,v2,v3,v4,v5,v6,v7,rfl⟩
   exact k _
  rintro i e σ H2 hi ⟨s2,v1,v2,v3,v4,v5,v6,v7,rfl⟩
  obtain⟨c,rfl⟩:∃ c,e=V.int c:=by
   rw[List.getElem?_map] at hi
   cases e:cs[i]? with
   | none=>rw[e] at hi;cases hi
   | some z=>rw[e] at hi;exact⟨z,(Option.some.inj hi).symm⟩
  refine⟨_,rfl,c,_,rfl,(by decide),(by decide),fun xl xs H3 xn x0 xf VW s3=>?_⟩
  obtain⟨n0,n1,n2,n3,n4,n5,n6,n7,n8,rfl⟩:∃ n0 n1 n2 n3 n4 n5 n6 n7 n8,xs=[n0,n1,n2,n3,n4,n5,n6,n7,n8]:=by
   match xs,xn with
   | [n0,n1,n2,n3,n4,n5,n6,n7,n8],_=>exact⟨_,_,_,_,_,_,_,_,_,rfl⟩
  refine⟨_,rfl,_,_,rfl,rfl,⟨by omega,by omega⟩,_,rfl,fun l l1 l2 l3 l4 ps qs fs ts bs H4 s4 hl e1 e2 e3 e4 tr m1 m2 m3 m4 fm=>?_⟩
  obtain⟨x1,x2,x3,x4,g1,g2,g3,g4,m1,m2,m3,m4,o1,o2,o3,o4⟩:=zj (K:=K) e1 e2 e3 e4 tr m1 m2 m3 m4 fm
  clear e1 e2 e3 e4 tr fm
  have R5:=s4 _ _ VW
  refine⟨_,rfl,_,rfl,_,rfl,l,xl,l1,l2,l3,l4,x1,x2,x3,x4,n0,n1,n2,n3,n4,n5,n6,n7,n8,c,rfl,hl,g1,g2,g3,g4,R5,fun W v1 v2 v3 v4 H5 s5 fW hW sp fr=>?_⟩
  refine⟨_,rfl,W,rfl,⟨_,aS.of hW⟩,fun E hE=>?_⟩
  refine bX (K:=K) (a:=W) (xs:=[v1,v2,v3,v4]) (fun i ys τ J=>(∃ v,τ=[v])∧aE H5 J∧J E=some (.lst ys)∧Paired (BF E J) ys ([v1,v2,v3,v4].take i)) ⟨⟨_,rfl⟩,ai hE,ah,.nil⟩ (fun i ys τ J _ p=>⟨aS.of (p.2.1 _ _ hW),p.2.2.1⟩) ?_ ?_
  ·rintro i e ys τ J hi ⟨⟨v,rfl⟩,sJ,oY,hys⟩
   have hil:i < 4:=(List.getElem?_eq_some_iff.mp hi).1
   have hyl:ys.length=i:=by rw[hys.length,List.length_take];show min i 4=i;omega
   have hm:=List.mem_of_getElem? hi
   have VX:=(sp.2.1 e hm).1
   refine kQ ?_
   have fin:∀(y:V) (J1:Hp),aE J J1→BF E J1 y e→J1 E=some (.lst ys)∧ys.length < sizeLine∧(∃ v,[some e]=[v])∧aE H5 (upd J1 E (.lst (ys++[y])))∧(upd J1 E (.lst (ys++[y]))) E=some (.lst (ys++[y]))∧Paired (BF E (upd J1 E (.lst (ys++[y])))) (ys++[y]) ([v1,v2,v3,v4].take (i+1)):=fun y J1 t1 ky=>by
    refine⟨t1 _ _ oY,by rw[hyl];exact Nat.lt_of_lt_of_le hil (by decide),⟨_,rfl⟩,aL hE (sJ.trans t1),ah,?_⟩
    rw[cE hi]
    exact Paired.imp' (fun _ _ (q:BF _ _ _ _)=>q.set) (er (Paired.imp' (fun _ _ q=>BF.mono t1 q) hys) (.cons ky .nil))
   rcases VX with ⟨b,xs,rfl,hb,hc,_⟩ | ⟨ty,hty,ht,_⟩
   ·have PK:=sJ _ _ hb
    refine⟨_,rfl,_,_,_,true,rfl,.lst PK,.inl ⟨_,rfl,rfl⟩,true,rfl,jF ?_⟩
    refine⟨_,rfl,b,xs,rfl,.inl (aS.of PK),fun m hm=>?_⟩
    have nm:m≠E:=fun q=>by rw[q,oY] at hm;cases hm
    have nb:b≠E:=fun q=>by rw[q,hE] at hb;cases hb
    (have t1:=ai (o:=HO.lst xs) hm;have u1:=ah (H:=J) (a:=m) (o:=HO.lst xs);generalize upd J m (HO.lst xs)=J1 at t1 u1 ⊢)
    exact fin _ J1 t1 (.inl ⟨m,b,xs,rfl,rfl,u1,t1 _ _ PK,nm,nb,fun x hx=>Ek (hc x hx).1⟩)
   ·refine⟨_,rfl,_,_,_,false,rfl,jH sJ hty,.inl ⟨_,rfl,ht⟩,false,rfl,jE ?_⟩
    exact⟨_,rfl,fin e J (aE.refl _) (.inr ⟨rfl,sp.2.2.2 e hm⟩)⟩
  rintro ys τ J ⟨⟨v,rfl⟩,sJ,oY,hys⟩
  rw[List.take_of_length_le (by simp)] at hys
  have R6:=sJ _ _ hW
  have VY:=sp.dw (kI.same sJ hW)
  have ou:∀{G:Hp},aE H5 G→jy G v1 v2 v3 v4=0:=fun s=>by
   have q:=sp.dw (kI.same s hW)
   obtain⟨i,v,e1,e2⟩:=q.2.2.1 rfl
   exact xO e1 e2
  have R7:=ou sJ
  refine⟨_,rfl,W,_,_,_,_,rfl,R6,(fun v hv=>(VY.2.1 v hv).1),(by rw[R7];decide),(fun _ J1 t1=>?_),(fun e=>by rw[R7] at e;cases e)⟩
  have IY:=t1 _ _ oY
  have PL:=t1 _ _ R6
  refine⟨rfl,_,rfl,jE ?_⟩
  refine⟨_,rfl,_,rfl,⟨3,W,E,_,_,rfl,rfl,(by decide),hys.length.symm,.inr ⟨aS.of PL,aS.of IY⟩,fun i x y ex ey=>((lA hys ey ex).mono t1).same⟩,_,rfl,jE ?_⟩
  have sK:=s5.trans (sJ.trans t1)
  have NP:=sK _ _ hl
  have gf:=sf (K:=K) (g1.mono sK) (g2.mono sK) (g3.mono sK) (g4.mono sK) (by omega) (by omega) (by omega) (by omega) o1 o2 o3 (oJ sK g4.2.2 o4)
  rw[m1,m2,m3,m4] at gf
  obtain⟨lk,Lz,pr⟩:=gf
  have Lz:jy J1 (.ref l1) (.ref l2) (.ref l3) (.ref l4)=2:=Lz
  refine⟨_,rfl,l,_,_,_,rfl,rfl,aS.of NP,rfl,_,rfl,l,_,_,_,rfl,rfl,aS.of NP,rfl,_,rfl,l,_,_,_,rfl,rfl,aS.of NP,rfl,_,rfl,l,_,_,_,rfl,rfl,aS.of NP,rfl,_,_,_,_,rfl,lk,(fun e=>by rw[Lz] at e;cases e),(fun e=>by rw[Lz] at e;cases e),fun _ m zs J2 hm0 hm Ly t2=>?_⟩
  rw[pr] at Ly
  refine⟨m,zs,rfl,.inl (aS.of hm),?_⟩
  rw[Ly]
  refine⟨rfl,_,rfl,jE ?_⟩
  dsimp only[wW]
  clear lk Lz pr
  have sL:=sK.trans t2
  have hlL:=sL _ _ hl
  have Pd:=sL _ _ R5
  have sW:=sJ.trans (t1.trans t2)
  have y1:=g1.mono sL
  have y2:=g2.mono sL
  have y3:=g3.mono sL
  have y4:=g4.mono sL
  have q4:=oJ sL g4.2.2 o4
  refine⟨_,rfl,l,rfl,⟨_,aS.of hlL⟩,fun M hM=>?_⟩
  refine bX (K:=K) (a:=l) (xs:=[.ref l1,.ref l2,.ref l3,.ref l4]) (fun i ys τ J=>(∃ v,τ=[v])∧aE J2 J∧J M=some (.lst ys)∧Paired (Gy K M J) ys ([x1,x2,x3,x4].take i)) ⟨⟨_,rfl⟩,ai hM,ah,.nil⟩ (fun i ys τ J _ p=>⟨aS.of (p.2.1 _ _ hlL),p.2.2.1⟩) ?_ ?_
  ·rintro i e ys τ J hi ⟨⟨v,rfl⟩,sJ,oY,hys⟩
   have hil:i < 4:=(List.getElem?_eq_some_iff.mp hi).1
   have hyl:ys.length=i:=by rw[hys.length,List.length_take];show min i 4=i;omega
   obtain⟨b,xs,rfl,gb,hx⟩:∃ b xs,e=.ref b∧mS K J2 b xs∧[x1,x2,x3,x4][i]? = some xs:=by
    rcases(show i=0∨i=1∨i=2∨i=3 by omega) with rfl | rfl | rfl | rfl <;> cases hi
    ·exact⟨_,_,rfl,y1,rfl⟩
    ·exact⟨_,_,rfl,y2,rfl⟩
    ·exact⟨_,_,rfl,y3,rfl⟩
    ·exact⟨_,_,rfl,y4,rfl⟩
   have gJ:=gb.mono sJ
   refine kQ ?_
   refine⟨_,rfl,b,xs,rfl,.inl (aS.of gJ.1),fun m hm=>?_⟩
   have nm:m≠M:=fun q=>by rw[q,oY] at hm;cases hm
   (have t3:=ai (o:=HO.lst xs) hm;have u3:=ah (H:=J) (a:=m) (o:=HO.lst xs);generalize upd J m (HO.lst xs)=J3 at t3 u3 ⊢)
   have Jb:=t3 _ _ oY
   refine⟨Jb,by rw[hyl];exact Nat.lt_of_lt_of_le hil (by decide),⟨_,rfl⟩,aL hM (sJ.trans t3),ah,?_⟩
   rw[cE hx]
   exact Paired.imp' (fun _ _ (q:Gy _ _ _ _ _)=>q.set Jb) (er (Paired.imp' (fun _ _ q=>Gy.mono t3 q) hys) (.cons ⟨m,rfl,nm,u3,gJ.2.1,(gJ.mono t3).2.2⟩ .nil))
  rintro ys τ J3 ⟨⟨v,rfl⟩,t3,Jb,hys⟩
  rw[List.take_of_length_le (by simp)] at hys
  cases hys with | cons r1 hys =>
  cases hys with | cons r2 hys =>
  cases hys with | cons r3 hys =>
  cases hys with | cons r4 hys =>
  cases hys
  obtain⟨d1,rfl,xG,w1⟩:=r1
  obtain⟨d2,rfl,NK,w2⟩:=r2
  obtain⟨d3,rfl,NL,w3⟩:=r3
  obtain⟨d4,rfl,NN,w4⟩:=r4
  have VZ:=t3 _ _ Pd
  have j0:=gQ (a:=n8) (b:=4) (by decide)
  have j1:=gR (a:=n8) (b:=4) (by decide)
  refine⟨_,rfl,xl,_,_,_,rfl,rfl,aS.of VZ,rfl,_,_,rfl,rfl,(by omega),?_⟩
  dsimp only[ig]
  generalize n8 % 4=ji at j0 j1 ⊢
  obtain⟨j,rfl⟩:∃ j:Nat,ji=(j:Int):=⟨ji.toNat,by omega⟩
  have hj:j < 4:=by omega
  obtain⟨z1,k1,rfl⟩:∃ h r,x1=h :: r:=by
   match x1,m1 with
   | h :: r,_=>exact⟨h,r,rfl⟩
  obtain⟨z2,k2,rfl⟩:∃ h r,x2=h :: r:=by
   match x2,m2 with
   | h :: r,_=>exact⟨h,r,rfl⟩
  obtain⟨z3,k3,rfl⟩:∃ h r,x3=h :: r:=by
   match x3,m3 with
   | h :: r,_=>exact⟨h,r,rfl⟩
  obtain⟨z4,k4,rfl⟩:∃ h r,x4=h :: r:=by
   match x4,m4 with
   | h :: r,_=>exact⟨h,r,rfl⟩
  refine pU (t:=Bm _ _) (fun σ' G=>aE J2 G∧σ'=[some (V.ref a),some (V.int c),some (V.ref xl),some (V.ref l),some (V.ref W),some (V.ref E),some (V.ref M),some (V.int (j:Int))]∧∃(b1 b2 b3 b4:Addr),G M=some (.lst [.ref b1,.ref b2,.ref b3,.ref b4])∧(∀ v∈[V.ref b1,.ref b2,.ref b3,.ref b4],xM K G v)∧jy G (.ref b1) (.ref b2) (.ref b3) (.ref b4)=1) ?_ (fun go=>?_)
  rotate_left
  ·obtain⟨d,z,r,ed,wd,el⟩:∃ d z r,AQ [V.ref d1,.ref d2,.ref d3,.ref d4] (j:Int)=some (.ref d)∧mS K J3 d (z :: r)∧(z :: r).length≤4:=by
    rcases(show j=0∨j=1∨j=2∨j=3 by omega) with rfl | rfl | rfl | rfl
    ·exact⟨_,_,_,rfl,w1,by omega⟩
    ·exact⟨_,_,_,rfl,w2,by omega⟩
    ·exact⟨_,_,_,rfl,w3,by omega⟩
    ·exact⟨_,_,_,rfl,w4,by omega⟩
   refine⟨_,rfl,_,rfl,M,_,_,_,rfl,rfl,aS.of Jb,ed,_,rfl,_,rfl,M,_,_,_,rfl,rfl,aS.of Jb,ed,_,rfl,d,_,rfl,aS.of wd.1,fun u hu=>?_⟩
   rw[Lh]
   (have t4:=ai (o:=HO.lst [z]) hu;have u4:=ah (H:=J3) (a:=u) (o:=HO.lst [z]);generalize upd J3 u (HO.lst [z])=J4 at t4 u4 ⊢)
   have V0:=t4 _ _ wd.1
   refine⟨d,u,_,_,rfl,rfl,V0,u4,Nat.le_trans (show(z :: r).length+1≤20 by omega) (by decide),fun b hb=>?_⟩
   have nb:b≠M:=fun q=>by rw[q,t4 _ _ Jb] at hb;cases hb
   (have t5:=ai (o:=HO.lst (z :: r++[z])) hb;have u5:=ah (H:=J4) (a:=b) (o:=HO.lst (z :: r++[z]));generalize upd J4 b (HO.lst (z :: r++[z]))=J5 at t5 u5 ⊢)
   have JS:=t4.trans t5
   have R8:=JS _ _ Jb
   have kM:∀ o,kI M J5 (upd J5 M (.lst o)):=fun o=>kI.set R8
   have v1:∀ o,mS K (upd J5 M (.lst o)) d1 _:=fun o=>(w1.mono JS).dw (kM o) xG
   have v2:∀ o,mS K (upd J5 M (.lst o)) d2 _:=fun o=>(w2.mono JS).dw (kM o) NK
   have v3:∀ o,mS K (upd J5 M (.lst o)) d3 _:=fun o=>(w3.mono JS).dw (kM o) NL
   have v4:∀ o,mS K (upd J5 M (.lst o)) d4 _:=fun o=>(w4.mono JS).dw (kM o) NN
   have vb:∀ o,(upd J5 M (.lst o)) b=some (.lst ((z :: r)++[z])):=fun o=>(aC nb).trans u5
   have sM:∀ o,aE J2 (upd J5 M (.lst o)):=fun o=>aL hM (t3.trans JS)
   have qo:∀ o,(z4 :: k4).all (je (upd J5 M (.lst o)))=true:=fun o=>oJ (sM o) y4.2.2 q4
   refine⟨_,rfl,_,rfl,M,_,_,j,rfl,rfl,R8,(by unfold C7;rw[if_pos (by omega),if_pos (by show(j:Int) < 4;omega)];rfl),?_⟩
   refine go _ _ ⟨sM _,rfl,?_⟩
   rcases(show j=0∨j=1∨j=2∨j=3 by omega) with rfl | rfl | rfl | rfl
   ·obtain⟨rfl,rfl⟩:z=z1∧r=k1:=by cases ed;have:=w1.1.symm.trans wd.1;cases this;exact⟨rfl,rfl⟩
    have gf:=sf (K:=K) (rE (v1 _) (vb _) (by omega)) (v2 [.ref b,.ref d2,.ref d3,.ref d4]) (v3 _) (v4 _) (by rw[List.length_append];omega) (by omega) (by omega) (by omega) (oK o1) o2 o3 (qo _)
    rw[List.length_append,m1,m2,m3,m4] at gf
    exact⟨b,d2,d3,d4,ah,gf.1,gf.2.1⟩
   ·obtain⟨rfl,rfl⟩:z=z2∧r=k2:=by cases ed;have:=w2.1.symm.trans wd.1;cases this;exact⟨rfl,rfl⟩
    have gf:=sf (K:=K) (v1 [.ref d1,.ref b,.ref d3,.ref d4]) (rE (v2 _) (vb _) (by omega)) (v3 _) (v4 _) (by omega) (by rw[List.length_append];omega) (by omega) (by omega) o1 (oK o2) o3 (qo _)
    rw[List.length_append,m1,m2,m3,m4] at gf
    exact⟨d1,b,d3,d4,ah,gf.1,gf.2.1⟩
   ·obtain⟨rfl,rfl⟩:z=z3∧r=k3:=by cases ed;have:=w3.1.symm.trans wd.1;cases this;exact⟨rfl,rfl⟩
    have gf:=sf (K:=K) (v1 [.ref d1,.ref d2,.ref b,.ref d4]) (v2 _) (rE (v3 _) (vb _) (by omega)) (v4 _) (by omega) (by omega) (by rw[List.length_append];omega) (by omega) o1 o2 (oK o3) (qo _)
    rw[List.length_append,m1,m2,m3,m4] at gf
    exact⟨d1,d2,b,d4,ah,gf.1,gf.2.1⟩
   ·obtain⟨rfl,rfl⟩:z=z4∧r=k4:=by cases ed;have:=w4.1.symm.trans wd.1;cases this;exact⟨rfl,rfl⟩
    have gf:=sf (K:=K) (v1 [.ref d1,.ref d2,.ref d3,.ref b]) (v2 _) (v3 _) (rE (v4 _) (vb _) (by omega)) (by omega) (by omega) (by omega) (by rw[List.length_append];omega) o1 o2 o3 (oK (qo _))
    rw[List.length_append,m1,m2,m3,m4] at gf
    exact⟨d1,d2,d3,b,ah,gf.1,gf.2.1⟩
  rintro σ' G ⟨sG,rfl,b1,b2,b3,b4,V1,lk,JI⟩
  refine⟨_,rfl,M,_,_,_,_,rfl,V1,lk,(by rw[JI];decide),(fun e=>by rw[JI] at e;cases e),fun _ G1 u1=>?_⟩
  refine⟨rfl,_,rfl,jE ?_⟩
  have PM:=sW.trans (sG.trans u1)
  have R9:=ou PM
  have V2:=sp.dw (kI.same PM hW)
  refine⟨_,rfl,W,_,_,_,_,rfl,PM _ _ hW,(fun v hv=>(V2.2.1 v hv).1),(by rw[R9];decide),(fun _ G2 u2=>?_),(fun e=>by rw[R9] at e;cases e)⟩
  refine⟨rfl,_,rfl,jE ?_⟩
  have sE:=sL.trans (sG.trans (u1.trans u2))
  have hd:∀{f:V→Bool}{h:V}{r:List V},(h :: r).all f=true→f h=true:=fun h=>by rw[List.all_cons,Bool.and_eq_true] at h;exact h.1
  refine⟨_,rfl,_,rfl,l,l1,l2,l3,l4,z1,z2,z3,z4,k1,k2,k3,k4,j,rfl,hj,sE _ _ hl,sE _ _ g1.1,sE _ _ g2.1,sE _ _ g3.1,sE _ _ g4.1,(g1.mono sE).2.2 _ (List.mem_cons_self ..),(g2.mono sE).2.2 _ (List.mem_cons_self ..),(g3.mono sE).2.2 _ (List.mem_cons_self ..),(g4.mono sE).2.2 _ (List.mem_cons_self ..),hd o1,hd o2,hd o3,hd (oJ sE g4.2.2 o4),fun G3 u3=>?_⟩
  refine⟨true,rfl,jE ⟨?_,_,_,_,_,_,_,_,rfl⟩⟩
  exact s2.trans (s3.trans (s4.trans (sE.trans u3)))
end
end
theorem all_mk {l:W.OpenLaw}{w:World}{K:W.Frag}{h:Heap}{mg:Str→Option Value}{fa fP cP bU bJ cA bV cB dQ iI ek cC cQ pq fQ iJ gE jn iK jo iL iM jq cG gF fR jr Ez bh aD fS jL pA iQ mH eY jt aH kC jM pB mJ rF mK rG cU pC aJ mL cD pD bq ju:Addr}{V3 PN V4 Sa V5 PR V6 Sb V7 Sd V8 Se V9 Sf Wa Sh Wb Si Wc Sj PU LA PV LB PX LC PY LD PZ LF P0 LG P5 LH P6 LI P7 LJ P8 LK P9 LL Qa LM Qc LN Qd LO Qe LP Qf LQ Qg Jc:Option Addr}{Wd We sl2 Wf Wg Wh Wi Wj Wk Wl Qh Qi Qj Qk Ql Qm Qn Qo Qp Qq Qs Qt Qu Qv Qw Qx Qy:Array (Option Value)}{Wm Qz QA QB NQ QC Wn Sk Sl Sm QD Sn Wo QE QF QG NR QH Wq So Sq Ss QI Su Wr Sv Sw Sx QJ Sy Ws Sz SA SD QK SE Wt SG SH SI QL SJ Wu SK SM SN QM SO Wv SQ SR SS QN SV Ww SW SX SY QO S0 QS LR LS LU Jd LV QT LW LX LY Je LZ QU L4 L5 L6 Jf L7 QV L8 Ma Mb Jg Mc QW Me Mf Mg Jh Mh QX Mi Mj Ml Ji Mm QY Mp Mq Mr Jj Ms QZ Mt Mu Mw Jk Mx Q0 Mz MA MB Jl MC Q2 MD ME MF Jm MG Q3 MH MI MJ Jo MK Q4 ML MN MO Jp MP Q5 MQ MR MS Jq MT Q6 MU MV MW Jr MX Q7 MY MZ M0 Js M1 Q8 M3 M4 M5 Jt M6 Q9 Ju Jv Jw GG Jx:Value}{bB:Addr} (X:K.In h) (G:h.Ns mainGlobals mg) (Wx:mg "law" = some (.ref fa))
  (zl:W.nsIn K mainGlobals "Dialect" = some (some (.ref bh)))
  (ic:W.nsIn K mainGlobals "DialectError" = some (some (.ref aD)))
  (p5:W.nsIn K mainGlobals "NoText" = some (some (.ref jL)))
  (nW:W.nsIn K mainGlobals "NoTable" = some (some (.ref iQ)))
  (kD:W.nsIn K mainGlobals "NoDialect" = some (some (.ref eY)))
  (lR:W.nsIn K mainGlobals "NoFamily" = some (some (.ref aH)))
  (p6:W.nsIn K mainGlobals "NoMost" = some (some (.ref jM)))
  (sQ:W.nsIn K mainGlobals "NoAsk" = some (some (.ref mJ)))
  (sR:W.nsIn K mainGlobals "NoRow" = some (some (.ref mK)))
  (p7:W.nsIn K mainGlobals "NoName" = some (some (.ref cU)))
  (nX:W.nsIn K mainGlobals "TooMany" = some (some (.ref aJ)))
  (p8:W.nsIn K mainGlobals "Broken" = some (some (.ref cD)))
  (kF:W.nsIn K mainGlobals "NoWriting" = some (some (.ref bq)))
  (a0:W.nsIn K mainGlobals "is_printable" = RF fP)
  (l0:K.lookup fP=FO "is_printable" "is_printable" cJ .none Wm V3 Qz QA QB PN NQ QC Wd) (c0:W.codeIn K NQ "is_printable" = true) (k0:W.keepIn K (.ref fP)=true)
  (a1:W.nsIn K mainGlobals "are_unlike_signs" = RF cP)
  (l1:K.lookup cP=FO "are_unlike_signs" "are_unlike_signs" bC .none Wn V4 Sk Sl Sm Sa QD Sn We) (c1:W.codeIn K QD "are_unlike_signs" = true) (k1:W.keepIn K (.ref cP)=true)
  (a2:W.findIn K (.ref bh) "__init__" = some (some (.ref bU))) (i2:W.isFn K (.ref bU)=true)
  (l2:K.lookup bU=FO "__init__" "Dialect.__init__" aU (.ref bB) Wo V5 QE QF QG PR NR QH sl2) (c2:W.codeIn K NR "Dialect.__init__" = true) (k2:W.keepIn K (.ref bU)=true)
  {M7:Option Addr}{Ra:Nat}{M8:Array (Option Value)}{M9 Na:Tok} (d2:K.lookup bB=some ⟨.type "tuple",M7,.seq #[.str ("":Str) M9,.str ("":Str) Na,.bool false,.bool false,.bool false,.bool false] Ra,M8⟩)
  (l3:K.lookup bJ=FO "__init__" "NoWriting.__init__" ck .none Wq V6 So Sq Ss Sb QI Su Wf) (c3:W.codeIn K QI "NoWriting.__init__" = true) (k3:W.keepIn K (.ref bJ)=true)
  (l4:K.lookup cA=FO "__init__" "Broken.__init__" dj .none Wr V7 Sv Sw Sx Sd QJ Sy Wg) (c4:W.codeIn K QJ "Broken.__init__" = true) (k4:W.keepIn K (.ref cA)=true)
  (l5:K.lookup bV=FO "__init__" "TooMany.__init__" bS .none Ws V8 Sz SA SD Se QK SE Wh) (c5:W.codeIn K QK "TooMany.__init__" = true) (k5:W.keepIn K (.ref bV)=true)
  (l6:K.lookup cB=FO "__init__" "NoName.__init__" dm .none Wt V9 SG SH SI Sf QL SJ Wi) (c6:W.codeIn K QL "NoName.__init__" = true) (k6:W.keepIn K (.ref cB)=true)
  (a7:W.findIn K (.ref bh) "told" = some (some (.ref dQ))) (i7:W.isFn K (.ref dQ)=true)
  (l7:K.lookup dQ=FO "told" "Dialect.told" fh .none Wu Wa SK SM SN Sh QM SO Wj) (c7:W.codeIn K QM "Dialect.told" = true) (k7:W.keepIn K (.ref dQ)=true)
  (a8:W.nsIn K mainGlobals "dialect_of" = RF iI)
  (l8:K.lookup iI=FO "dialect_of" "dialect_of" fj .none Wv Wb SQ SR SS Si QN SV Wk) (c8:W.codeIn K QN "dialect_of" = true) (k8:W.keepIn K (.ref iI)=true)
  (a9:W.nsIn K mainGlobals "makes_dialect" = RF ek)
  (l9:K.lookup ek=FO "makes_dialect" "makes_dialect" cS .none Ww Wc SW SX SY Sj QO S0 Wl) (c9:W.codeIn K QO "makes_dialect" = true) (k9:W.keepIn K (.ref ek)=true)
  (IV:W.nsIn K mainGlobals "is_list_of_choices" = RF cC)
  (RB:K.lookup cC=FO "is_list_of_choices" "is_list_of_choices" bH .none QS PU LR LS LU LA Jd LV Qh) (Wy:W.codeIn K Jd "is_list_of_choices" = true) (Wz:W.keepIn K (.ref cC)=true)
  (WA:W.nsIn K mainGlobals "are_good_choices" = RF cQ)
  (WB:K.lookup cQ=FO "are_good_choices" "are_good_choices" aQ .none QT PV LW LX LY LB Je LZ Qi) (WC:W.codeIn K Je "are_good_choices" = true) (WD:W.keepIn K (.ref cQ)=true)
  (WE:W.nsIn K mainGlobals "family" = RF pq)
  (WG:K.lookup pq=FO "family" "family" jG .none QU PX L4 L5 L6 LC Jf L7 Qj) (c12:W.codeIn K Jf "family" = true) (WH:W.keepIn K (.ref pq)=true)
  (WI:W.nsIn K mainGlobals "_law_cell_at" = RF fQ)
  (WJ:K.lookup fQ=FO "_law_cell_at" "_law_cell_at" dF .none QV PY L8 Ma Mb LD Jg Mc Qk) (WK:W.codeIn K Jg "_law_cell_at" = true) (WL:W.keepIn K (.ref fQ)=true)
  (WM:W.nsIn K mainGlobals "_law_mixed" = RF iJ)
  (WN:K.lookup iJ=FO "_law_mixed" "_law_mixed" fk .none QW PZ Me Mf Mg LF Jh Mh Ql) (WO:W.codeIn K Jh "_law_mixed" = true) (WQ:W.keepIn K (.ref iJ)=true)
  (Pk:W.nsIn K mainGlobals "_law_number" = RF gE)
  (WR:K.lookup gE=FO "_law_number" "_law_number" d7 .none QX P0 Mi Mj Ml LG Ji Mm Qm) (WS:W.codeIn K Ji "_law_number" = true) (WT:W.keepIn K (.ref gE)=true)
  (WU:W.nsIn K mainGlobals "_law_some" = RF jn)
  (WV:K.lookup jn=FO "_law_some" "_law_some" gO .none QY P5 Mp Mq Mr LH Jj Ms Qn) (WW:W.codeIn K Jj "_law_some" = true) (WX:W.keepIn K (.ref jn)=true)
  (WY:W.nsIn K mainGlobals "_law_menus" = RF iK)
  (WZ:K.lookup iK=FO "_law_menus" "_law_menus" fu .none QZ P6 Mt Mu Mw LI Jk Mx Qo) (W0:W.codeIn K Jk "_law_menus" = true) (W2:W.keepIn K (.ref iK)=true)
  (W3:W.nsIn K mainGlobals "_law_told" = RF jo)
  (W4:K.lookup jo=FO "_law_told" "_law_told" gP .none Q0 P7 Mz MA MB LJ Jl MC Qp) (W5:W.codeIn K Jl "_law_told" = true) (W6:W.keepIn K (.ref jo)=true)
  (W7:W.nsIn K mainGlobals "_law_drawn" = RF iL)
  (W8:K.lookup iL=FO "_law_drawn" "_law_drawn" dS .none Q2 P8 MD ME MF LK Jm MG Qq) (W9:W.codeIn K Jm "_law_drawn" = true) (Xa:W.keepIn K (.ref iL)=true)
  (Xb:W.nsIn K mainGlobals "_law_flags" = RF iM)
  (Xc:K.lookup iM=FO "_law_flags" "_law_flags" fz .none Q3 P9 MH MI MJ LL Jo MK Qs) (Xd:W.codeIn K Jo "_law_flags" = true) (Xe:W.keepIn K (.ref iM)=true)
  (Pw:W.nsIn K mainGlobals "_law_good" = RF jq)
  (Xf:K.lookup jq=FO "_law_good" "_law_good" cu .none Q4 Qa ML MN MO LM Jp MP Qt) (Xg:W.codeIn K Jp "_law_good" = true) (Xh:W.keepIn K (.ref jq)=true)
  (Xi:W.nsIn K mainGlobals "_law_wrong_choice" = RF cG)
  (Xj:K.lookup cG=FO "_law_wrong_choice" "_law_wrong_choice" bK .none Q5 Qc MQ MR MS LN Jq MT Qu) (Xk:W.codeIn K Jq "_law_wrong_choice" = true) (Xl:W.keepIn K (.ref cG)=true)
  (Xm:W.nsIn K mainGlobals "_law_spoilt" = RF gF)
  (Xn:K.lookup gF=FO "_law_spoilt" "_law_spoilt" cY .none Q6 Qd MU MV MW LO Jr MX Qv) (Xo:W.codeIn K Jr "_law_spoilt" = true) (Xp:W.keepIn K (.ref gF)=true)
  (Xq:W.nsIn K mainGlobals "_law_refusal" = RF fR)
  (Xr:K.lookup fR=FO "_law_refusal" "_law_refusal" bT .none Q7 Qe MY MZ M0 LP Js M1 Qw) (Xs:W.codeIn K Js "_law_refusal" = true) (Xu:W.keepIn K (.ref fR)=true)
  (Xv:W.nsIn K mainGlobals "_law_edge" = RF jr)
  (Xw:K.lookup jr=FO "_law_edge" "_law_edge" dG .none Q8 Qf M3 M4 M5 LQ Jt M6 Qx) (Xx:W.codeIn K Jt "_law_edge" = true) (Xy:W.keepIn K (.ref jr)=true)
  (S6:W.nsIn K mainGlobals "law" = RF Ez)
  (Xz:K.lookup Ez=FO "law" "law" m8 .none Q9 Qg Ju Jv Jw Jc GG Jx Qy) (XA:W.codeIn K GG "law" = true) (XC:W.keepIn K (.ref Ez)=true)
  (zm:W.plainGet K bh Str.empty=true) (zo:W.hasDictIn K bh=true) (zp:W.plainOver K bh=true) (zq:W.findIn K (.ref bh) "__setattr__" = some (some (.builtin "object.__setattr__"))) (zu:W.makesIn K bh=true) (zv:W.keepIn K (.ref bh)=true)
  (gX:W.findIn K (.ref bh) "parts" = some none)
  (gu:W.findIn K (.ref bh) "quotes" = some none)
  (gY:W.findIn K (.ref bh) "frees" = some none)
  (iZ:W.findIn K (.ref bh) "twin" = some none)
  (i0:W.findIn K (.ref bh) "wide" = some none)
  (i6:W.findIn K (.ref bh) "thin" = some none)
  (gZ:W.findIn K (.ref bh) "stray" = some none)
  {qJ qK:Str}{qL p9:List Value}{qa qM:Bool}{qN:List Str}{qb:Option Bool}{qO qc:Option Addr}{qP qQ qR qS qT:Option Value}{qd:Value}{jN:Array DictEntry}{qU:Nat}{qe:Array (Option Value)}
  (cV:K.lookup aD=some (excClassObj qJ qK aD fS qL e9 qa qN p9 qM qb qO qP qQ qR qS qT "ValueError.__new__"))
  (cW:K.lookup fS=some ⟨qd,qc,.dict jN qU,qe⟩) (fT:(jN.toList.all fun e=>match e.key with | .str _ _=>true | _=>false)=true) (cX:W.nsIn K fS "__init__" = some none)
  (qV:W.specialIn K (.ref aD) "__getattribute__" = some (some (.builtin "type.__getattribute__"))) (qW:W.readsIn K aD (.type "type")=true) (qX:W.findCls K (.ref aD) (.type "type") "__init__" = some (.val (.builtin "ValueError.__init__")))
  {BN BO:Str}{BP zw:List Value}{zx BQ:Bool}{BR:List Str}{zy:Option Bool}{BS zA:Option Addr}{BU BV BW BX BY:Option Value}{zB:Value}{sS:Array DictEntry}{BZ:Nat}{zC:Array (Option Value)}
  (jO:K.lookup jL=some (excClassObj BN BO jL pA BP (.ref aD :: e9) zx BR zw BQ zy BS BU BV BW BX BY "ValueError.__new__"))
  (jP:K.lookup pA=some ⟨zB,zA,.dict sS BZ,zC⟩) (lS:(sS.toList.all fun e=>match e.key with | .str _ _=>true | _=>false)=true) (jQ:W.nsIn K pA "__init__" = some none)
  {zD zE:Str}{zF yc:List Value}{yd zG:Bool}{zH:List Str}{ye:Option Bool}{zI yf:Option Addr}{zJ zK zL zM zN:Option Value}{yg:Value}{qy:Array DictEntry}{zO:Nat}{yh:Array (Option Value)}
  (i9:K.lookup iQ=some (excClassObj zD zE iQ mH zF (.ref aD :: e9) yd zH yc zG ye zI zJ zK zL zM zN "ValueError.__new__"))
  (ja:K.lookup mH=some ⟨yg,yf,.dict qy zO,yh⟩) (kG:(qy.toList.all fun e=>match e.key with | .str _ _=>true | _=>false)=true) (jb:W.nsIn K mH "__init__" = some none)
  {vI vJ:Str}{vK tU:List Value}{tV vL:Bool}{vM:List Str}{tW:Option Bool}{vN tX:Option Addr}{vO vP vQ vR vS:Option Value}{tY:Value}{nA:Array DictEntry}{vU:Nat}{tZ:Array (Option Value)}
  (fU:K.lookup eY=some (excClassObj vI vJ eY jt vK (.ref aD :: e9) tV vM tU vL tW vN vO vP vQ vR vS "ValueError.__new__"))
  (fV:K.lookup jt=some ⟨tY,tX,.dict nA vU,tZ⟩) (jc:(nA.toList.all fun e=>match e.key with | .str _ _=>true | _=>false)=true) (fX:W.nsIn K jt "__init__" = some none)
  {yi yj:Str}{yk vV:List Value}{vW yl:Bool}{ym:List Str}{vX:Option Bool}{yo vY:Option Addr}{yp yq yr yt yu:Option Value}{vZ:Value}{pF:Array DictEntry}{yw:Nat}{v9:Array (Option Value)}
  (aN:K.lookup aH=some (excClassObj yi yj aH kC yk (.ref aD :: e9) vW ym vV yl vX yo yp yq yr yt yu "ValueError.__new__"))
  (aO:K.lookup kC=some ⟨vZ,vY,.dict pF yw,v9⟩) (aM:(pF.toList.all fun e=>match e.key with | .str _ _=>true | _=>false)=true) (aP:W.nsIn K kC "__init__" = some none)
  {B0 B3:Str}{B5 zP:List Value}{zQ B6:Bool}{B7:List Str}{zR:Option Bool}{B8 zS:Option Addr}{B9 Ca Cb Cd Ce:Option Value}{zU:Value}{sU:Array DictEntry}{Cf:Nat}{zV:Array (Option Value)}
  (jR:K.lookup jM=some (excClassObj B0 B3 jM pB B5 (.ref aD :: e9) zQ B7 zP B6 zR B8 B9 Ca Cb Cd Ce "ValueError.__new__"))
  (jS:K.lookup pB=some ⟨zU,zS,.dict sU Cf,zV⟩) (lT:(sU.toList.all fun e=>match e.key with | .str _ _=>true | _=>false)=true) (jT:W.nsIn K pB "__init__" = some none)
  {EA EB:Str}{EC Cg:List Value}{Ci ED:Bool}{EE:List Str}{Cj:Option Bool}{EF Ck:Option Addr}{EG EH EI EJ EK:Option Value}{Cm:Value}{uL:Array DictEntry}{EL:Nat}{Cn:Array (Option Value)}
  (lU:K.lookup mJ=some (excClassObj EA EB mJ rF EC (.ref aD :: e9) Ci EE Cg ED Cj EF EG EH EI EJ EK "ValueError.__new__"))
  (lV:K.lookup rF=some ⟨Cm,Ck,.dict uL EL,Cn⟩) (nY:(uL.toList.all fun e=>match e.key with | .str _ _=>true | _=>false)=true) (lW:W.nsIn K rF "__init__" = some none)
  {EM EN:Str}{EO Co:List Value}{Cp ER:Bool}{ES:List Str}{Cq:Option Bool}{ET Cr:Option Addr}{EU EV EW EX EY:Option Value}{Ct:Value}{uM:Array DictEntry}{EZ:Nat}{Cu:Array (Option Value)}
  (lX:K.lookup mK=some (excClassObj EM EN mK rG EO (.ref aD :: e9) Cp ES Co ER Cq ET EU EV EW EX EY "ValueError.__new__"))
  (lY:K.lookup rG=some ⟨Ct,Cr,.dict uM EZ,Cu⟩) (nZ:(uM.toList.all fun e=>match e.key with | .str _ _=>true | _=>false)=true) (lZ:W.nsIn K rG "__init__" = some none)
  {Cv Cw:Str}{Cy zW:List Value}{zX Cz:Bool}{CA:List Str}{zY:Option Bool}{CC zZ:Option Addr}{CD CG CH CI CJ:Option Value}{z0:Value}{sV:Array DictEntry}{CK:Nat}{z5:Array (Option Value)}
  (jU:K.lookup cU=some (excClassObj Cv Cw cU pC Cy (.ref aD :: e9) zX CA zW Cz zY CC CD CG CH CI CJ "ValueError.__new__"))
  (jV:K.lookup pC=some ⟨z0,zZ,.dict sV CK,z5⟩) (mh:(sV.toList.all fun e=>match e.key with | .str _ _=>true | _=>false)=true) (jW:W.nsIn K pC "__init__" = some (some (.ref cB)))
  {z6:Option Addr}{z7:Data}{z8:Array (Option Value)} (CL:W.keepIn K (.ref cU)=true) (CO:K.lookup cB=some ⟨.type "function",z6,z7,z8⟩) (Aa:W.findIn K (.ref cU) "__setattr__" = some (some (.builtin "object.__setattr__"))) (Ab:W.findIn K (.ref cU) "__getattribute__" = some (some (.builtin "BaseException.__getattribute__"))) (Ac:W.findIn K (.ref cU) "__getattr__" = some none) (Ad:W.hasDictIn K cU=true)
  (sX:W.findIn K (.ref cU) "name" = some none)
  {Ae Af:Str}{Ag yx:List Value}{yy Ah:Bool}{Ai:List Str}{yz:Option Bool}{Aj yC:Option Addr}{Ak Al Am An Ao:Option Value}{yD:Value}{qz:Array DictEntry}{Aq:Nat}{yE:Array (Option Value)}
  (aV:K.lookup aJ=some (excClassObj Ae Af aJ mL Ag (.ref aD :: e9) yy Ai yx Ah yz Aj Ak Al Am An Ao "ValueError.__new__"))
  (aW:K.lookup mL=some ⟨yD,yC,.dict qz Aq,yE⟩) (aR:(qz.toList.all fun e=>match e.key with | .str _ _=>true | _=>false)=true) (aX:W.nsIn K mL "__init__" = some (some (.ref bV)))
  {yF:Option Addr}{yG:Data}{yH:Array (Option Value)} (Ar:W.keepIn K (.ref aJ)=true) (As:K.lookup bV=some ⟨.type "function",yF,yG,yH⟩) (yI:W.findIn K (.ref aJ) "__setattr__" = some (some (.builtin "object.__setattr__"))) (qA:W.findIn K (.ref aJ) "__getattribute__" = some (some (.builtin "BaseException.__getattribute__"))) (qB:W.findIn K (.ref aJ) "__getattr__" = some none) (qC:W.hasDictIn K aJ=true)
  (qY:W.findIn K (.ref aJ) "most" = some none)
  {CP CQ:Str}{CS Au:List Value}{Av CT:Bool}{CU:List Str}{Aw:Option Bool}{CV Ax:Option Addr}{CW CY CZ C0 C1:Option Value}{Ay:Value}{sY:Array DictEntry}{C2:Nat}{Az:Array (Option Value)}
  (jX:K.lookup cD=some (excClassObj CP CQ cD pD CS (.ref aD :: e9) Av CU Au CT Aw CV CW CY CZ C0 C1 "ValueError.__new__"))
  (jY:K.lookup pD=some ⟨Ay,Ax,.dict sY C2,Az⟩) (mj:(sY.toList.all fun e=>match e.key with | .str _ _=>true | _=>false)=true) (jZ:W.nsIn K pD "__init__" = some (some (.ref cA)))
  {AA:Option Addr}{AB:Data}{AD:Array (Option Value)} (C3:W.keepIn K (.ref cD)=true) (C4:K.lookup cA=some ⟨.type "function",AA,AB,AD⟩) (oh:W.findIn K (.ref cD) "__setattr__" = some (some (.builtin "object.__setattr__"))) (oi:W.findIn K (.ref cD) "__getattribute__" = some (some (.builtin "BaseException.__getattribute__"))) (oj:W.findIn K (.ref cD) "__getattr__" = some none) (om:W.hasDictIn K cD=true)
  (t7:W.findIn K (.ref cD) "row" = some none)
  (qZ:W.findIn K (.ref cD) "place" = some none)
  (sZ:W.findIn K (.ref cD) "word" = some none)
  {wc wg:Str}{wj t8:List Value}{t9 wk:Bool}{wm:List Str}{ua:Option Bool}{wo uc:Option Addr}{wu wz wA wB wC:Option Value}{ud:Value}{nB:Array DictEntry}{wD:Nat}{uf:Array (Option Value)}
  (fY:K.lookup bq=some (excClassObj wc wg bq ju wj (.ref aD :: e9) t9 wm t8 wk ua wo wu wz wA wB wC "ValueError.__new__"))
  (fZ:K.lookup ju=some ⟨ud,uc,.dict nB wD,uf⟩) (jd:(nB.toList.all fun e=>match e.key with | .str _ _=>true | _=>false)=true) (gc:W.nsIn K ju "__init__" = some (some (.ref bJ)))
  {ug:Option Addr}{uh:Data}{um:Array (Option Value)} (wF:W.keepIn K (.ref bq)=true) (wG:K.lookup bJ=some ⟨.type "function",ug,uh,um⟩) (nC:W.findIn K (.ref bq) "__setattr__" = some (some (.builtin "object.__setattr__"))) (nE:W.findIn K (.ref bq) "__getattribute__" = some (some (.builtin "BaseException.__getattribute__"))) (nF:W.findIn K (.ref bq) "__getattr__" = some none) (nG:W.hasDictIn K bq=true)
  (qf:W.findIn K (.ref bq) "row" = some none)
  (pG:W.findIn K (.ref bq) "cell" = some none)
  (S7:W.specialIn K (.builtin "object.__class__") "__get__" = some (some (.builtin "getset_descriptor.__get__"))) (S8:W.takesIn K (.builtin "object.__class__")=some true)
  (wH:W.findIn K (.ref aH) "__getattribute__" = some (some (.builtin "BaseException.__getattribute__"))) (wI:W.findIn K (.ref aH) "__getattr__" = some none) (wJ:W.hasDictIn K aH=true) (yJ:W.keepIn K (.ref aH)=true)
  (wK:W.findIn K (.ref aH) "__class__" = some (some (.builtin "object.__class__"))) (wL:W.mroIn K aH (.type "object")=some true) (jm:W.mroIn K aH (.type "ValueError")=some true)
  (bD:W.mroIn K aH (.ref aD)=some true)
  (eG:W.mroIn K aH (.ref jL)=some false)
  (dY:W.mroIn K aH (.ref iQ)=some false)
  (dg:W.mroIn K aH (.ref eY)=some false)
  (cz:W.mroIn K aH (.ref aH)=some true)
  (eH:W.mroIn K aH (.ref jM)=some false)
  (fG:W.mroIn K aH (.ref mJ)=some false)
  (fH:W.mroIn K aH (.ref mK)=some false)
  (eN:W.mroIn K aH (.ref cU)=some false)
  (bL:W.mroIn K aH (.ref aJ)=some false)
  (eO:W.mroIn K aH (.ref cD)=some false)
  (dh:W.mroIn K aH (.ref bq)=some false)
  (yK:W.findIn K (.ref aJ) "__class__" = some (some (.builtin "object.__class__"))) (yL:W.mroIn K aJ (.type "object")=some true) (ku:W.mroIn K aJ (.type "ValueError")=some true)
  (cL:W.mroIn K aJ (.ref aD)=some true)
  (fJ:W.mroIn K aJ (.ref jL)=some false)
  (eS:W.mroIn K aJ (.ref iQ)=some false)
  (dN:W.mroIn K aJ (.ref eY)=some false)
  (dZ:W.mroIn K aJ (.ref aH)=some false)
  (fK:W.mroIn K aJ (.ref jM)=some false)
  (gw:W.mroIn K aJ (.ref mJ)=some false)
  (gy:W.mroIn K aJ (.ref mK)=some false)
  (fL:W.mroIn K aJ (.ref cU)=some false)
  (eU:W.mroIn K aJ (.ref aJ)=some true)
  (fM:W.mroIn K aJ (.ref cD)=some false)
  (dO:W.mroIn K aJ (.ref bq)=some false)
  (wM:W.nsIn K mainGlobals "ValueError" = some none)
  (Nb:W.nsIn K mainGlobals "all" = some none)
  (Jy:W.nsIn K mainGlobals "bool" = some none)
  (wN:W.nsIn K mainGlobals "isinstance" = some none)
  (Nc:W.nsIn K mainGlobals "len" = some none)
  (Jz:W.nsIn K mainGlobals "list" = some none)
  (z_ord:W.nsIn K mainGlobals "ord" = some none)
  (GH:W.nsIn K mainGlobals "range" = some none)
  (Nd:W.nsIn K mainGlobals "str" = some none)
  (GI:W.nsIn K mainGlobals "tuple" = some none)
  {qg:Tok} (rj:W.nsIn K mainGlobals "MOST_DIALECTS" = some (some (.int 24 qg))) :
  ∃ fd:FuncData,(∀(s:Shared) (v:Value),BindsTo s fd ⟨[v],[]⟩ [("_law_script",v)])∧∀ base:Heap,K.In base→base.Ns mainGlobals mg→bf l.prog w K mg base gM 11 fa fd ["_law_script"] (vG K):=by
 have e:=Wx.symm.trans (W.mg_of X G S6)
 cases e
 have mo:∀{n:Str}{v:Value},W.nsIn K mainGlobals n=some (some v)→mg n=some v:=fun e=>W.mg_of X G e
 have mz:∀{n:Str},W.nsIn K mainGlobals n=some none→mg n=none:=fun e=>W.mg_none_of X G e
 have F0:=bF (st:=cJ) l0 c0 k0
 have b0:=F0.rZ (ps:=["sign"])
 have F1:=bF (st:=bC) l1 c1 k1
 have b1:=F1.Ec (ps:=["thing", "least", "most"])
 have F2:=FT (st:=aU) l2 c2 k2
 have b2:Binds K (W.fnOf "__init__" "Dialect.__init__" (cN aU) (bO aU) (av aU) (.ref bB) QE QF QG PR NR QH) ["self", "parts", "quotes", "frees", "twin", "wide", "thin", "stray"] []:=fun s us hK hl=>match us,hl with | [_,_,_,_,_,_,_,_],_=>BindsTo.of_defaults (T:=bB) rfl (hK _ _ d2) rfl rfl rfl
 have F3:=bF (st:=ck) l3 c3 k3
 have b3:=F3.Ec (ps:=["self", "row", "cell"])
 have F4:=bF (st:=dj) l4 c4 k4
 have b4:=F4.Iz (ps:=["self", "row", "place", "word"])
 have F5:=bF (st:=bS) l5 c5 k5
 have b5:=F5.zc (ps:=["self", "most"])
 have F6:=bF (st:=dm) l6 c6 k6
 have b6:=F6.zc (ps:=["self", "name"])
 have F7:=bF (st:=fh) l7 c7 k7
 have b7:=F7.rZ (ps:=["self"])
 have F8:=bF (st:=fj) l8 c8 k8
 have b8:=F8.rZ (ps:=["told"])
 have F9:=bF (st:=cS) l9 c9 k9
 have b9:=F9.rZ (ps:=["told"])
 have S9:=bF (st:=bH) RB Wy Wz
 have XD:=S9.rZ (ps:=["thing"])
 have Tc:=bF (st:=aQ) WB WC WD
 have XE:=Tc.Iz (ps:=["parts", "quotes", "frees", "truths"])
 have Td:=bF (st:=jG) WG c12 WH
 have XF:=Td.Iz (ps:=["parts", "quotes", "frees", "truths"])
 have Te:=bF (st:=dF) WJ WK WL
 have XG:=Te.zc (ps:=["_law_script", "_law_k"])
 have Tf:=bF (st:=fk) WN WO WQ
 have XH:=Tf.zc (ps:=["_law_number_here", "_law_salt"])
 have Tg:=bF (st:=d7) WR WS WT
 have XI:=Tg.zc (ps:=["_law_cell", "_law_salt"])
 have Th:=bF (st:=gO) WV WW WX
 have XJ:=Th.Ec (ps:=["_law_number_here", "_law_many", "_law_menu"])
 have Ti:=bF (st:=fu) WZ W0 W2
 have XM:=Ti.rZ (ps:=["_law_way"])
 have Tj:=bF (st:=gP) W4 W5 W6
 have XO:=Tj.rZ (ps:=["_law_cell"])
 have Tn:=bF (st:=dS) W8 W9 Xa
 have XQ:=Tn.zc (ps:=["_law_cell", "_law_many"])
 have To:=bF (st:=fz) Xc Xd Xe
 have XR:=To.rZ (ps:=["_law_e"])
 have Tp:=bF (st:=cu) Xf Xg Xh
 have XS:=Tp.rZ (ps:=["_law_cell"])
 have Tq:=bF (st:=bK) Xj Xk Xl
 have XT:=Tq.Ec (ps:=["_law_place", "_law_x", "_law_cell"])
 have Tr:=bF (st:=cY) Xn Xo Xp
 have XU:=Tr.Ec (ps:=["_law_good_here", "_law_xs", "_law_cell"])
 have Tt:=bF (st:=bT) Xr Xs Xu
 have XW:=Tt.rZ (ps:=["_law_some_here"])
 have Tu:=bF (st:=dG) Xw Xx Xy
 have XX:=Tu.zc (ps:=["_law_good_here", "_law_place"])
 have Tv:=bF (st:=m8) Xz XA XC
 have XY:=Tv.rZ (ps:=["_law_script"])
 exact⟨W.fnOf "law" "law" (cN m8) (bO m8) (av m8) .none Ju Jv Jw Jc GG Jx,fun s v=>.of_eq rfl,fun base _ _=>Ja (ay:=fun i=>[fP,cP,bU,bJ,cA,bV,cB,dQ,iI,ek,cC,cQ,pq,fQ,iJ,gE,jn,iK,jo,iL,iM,jq,cG,gF,fR,jr,fa,bh,aD,fS,jL,pA,iQ,mH,eY,jt,aH,kC,jM,pB,mJ,rF,mK,rG,cU,pC,aJ,mL,cD,pD,bq,ju,bB].getD i fa) (bI:=fun i=>[FN "is_printable" "is_printable" cJ .none Qz QA QB PN NQ QC,FN "are_unlike_signs" "are_unlike_signs" bC .none Sk Sl Sm Sa QD Sn,FN "__init__" "Dialect.__init__" aU (.ref bB) QE QF QG PR NR QH,FN "__init__" "NoWriting.__init__" ck .none So Sq Ss Sb QI Su,FN "__init__" "Broken.__init__" dj .none Sv Sw Sx Sd QJ Sy,FN "__init__" "TooMany.__init__" bS .none Sz SA SD Se QK SE,FN "__init__" "NoName.__init__" dm .none SG SH SI Sf QL SJ,FN "told" "Dialect.told" fh .none SK SM SN Sh QM SO,FN "dialect_of" "dialect_of" fj .none SQ SR SS Si QN SV,FN "makes_dialect" "makes_dialect" cS .none SW SX SY Sj QO S0,FN "is_list_of_choices" "is_list_of_choices" bH .none LR LS LU LA Jd LV,FN "are_good_choices" "are_good_choices" aQ .none LW LX LY LB Je LZ,FN "family" "family" jG .none L4 L5 L6 LC Jf L7,FN "_law_cell_at" "_law_cell_at" dF .none L8 Ma Mb LD Jg Mc,FN "_law_mixed" "_law_mixed" fk .none Me Mf Mg LF Jh Mh,FN "_law_number" "_law_number" d7 .none Mi Mj Ml LG Ji Mm,FN "_law_some" "_law_some" gO .none Mp Mq Mr LH Jj Ms,FN "_law_menus" "_law_menus" fu .none Mt Mu Mw LI Jk Mx,FN "_law_told" "_law_told" gP .none Mz MA MB LJ Jl MC,FN "_law_drawn" "_law_drawn" dS .none MD ME MF LK Jm MG,FN "_law_flags" "_law_flags" fz .none MH MI MJ LL Jo MK,FN "_law_good" "_law_good" cu .none ML MN MO LM Jp MP,FN "_law_wrong_choice" "_law_wrong_choice" bK .none MQ MR MS LN Jq MT,FN "_law_spoilt" "_law_spoilt" cY .none MU MV MW LO Jr MX,FN "_law_refusal" "_law_refusal" bT .none MY MZ M0 LP Js M1,FN "_law_edge" "_law_edge" dG .none M3 M4 M5 LQ Jt M6,FN "law" "law" m8 .none Ju Jv Jw Jc GG Jx].getD i (FN "is_printable" "is_printable" cJ .none Qz QA QB PN NQ QC)) (Pa:=fun i=>[].getD i "") ⟨F0,b0,mo a0,
  F1,b1,mo a1,
  F2,b2,
  F3,b3,
  F4,b4,
  F5,b5,
  F6,b6,
  F7,b7,⟨a7,i7,k7⟩,
  F8,b8,mo a8,
  F9,b9,mo a9,
  S9,XD,mo IV,
  Tc,XE,mo WA,
  Td,XF,mo WE,
  Te,XG,mo WI,
  Tf,XH,mo WM,
  Tg,XI,mo Pk,
  Th,XJ,mo WU,
  Ti,XM,mo WY,
  Tj,XO,mo W3,
  Tn,XQ,mo W7,
  To,XR,mo Xb,
  Tp,XS,mo Pw,
  Tq,XT,mo Xi,
  Tr,XU,mo Xm,
  Tt,XW,mo Xq,
  Tu,XX,mo Xv,
  Tv,XY,mo S6,
  ⟨zm,zo,zp,zq⟩,mo zl,⟨zu,a2,i2,zv⟩,
  gX,
  gu,
  gY,
  iZ,
  i0,
  i6,
  gZ,
  mo ic,⟨⟨_,_,_,_,_,_,_,_,_,_,_,_,_,_,cV⟩,⟨_,_,_,_,_,cW,fT⟩,cX⟩,
  ⟨qV,qW,qX⟩,
  mo p5,⟨⟨_,_,_,_,_,_,_,_,_,_,_,_,_,_,jO⟩,⟨_,_,_,_,_,jP,lS⟩,jQ⟩,
  mo nW,⟨⟨_,_,_,_,_,_,_,_,_,_,_,_,_,_,i9⟩,⟨_,_,_,_,_,ja,kG⟩,jb⟩,
  mo kD,⟨⟨_,_,_,_,_,_,_,_,_,_,_,_,_,_,fU⟩,⟨_,_,_,_,_,fV,jc⟩,fX⟩,
  mo lR,⟨⟨_,_,_,_,_,_,_,_,_,_,_,_,_,_,aN⟩,⟨_,_,_,_,_,aO,aM⟩,aP⟩,
  mo p6,⟨⟨_,_,_,_,_,_,_,_,_,_,_,_,_,_,jR⟩,⟨_,_,_,_,_,jS,lT⟩,jT⟩,
  mo sQ,⟨⟨_,_,_,_,_,_,_,_,_,_,_,_,_,_,lU⟩,⟨_,_,_,_,_,lV,nY⟩,lW⟩,
  mo sR,⟨⟨_,_,_,_,_,_,_,_,_,_,_,_,_,_,lX⟩,⟨_,_,_,_,_,lY,nZ⟩,lZ⟩,
  mo p7,⟨⟨_,_,_,_,_,_,_,_,_,_,_,_,_,_,jU⟩,⟨_,_,_,_,_,jV,mh⟩,jW⟩,
  CL,⟨_,CO,rfl⟩,
  ⟨sX,Aa,Ab,Ac,Ad⟩,
  mo nX,⟨⟨_,_,_,_,_,_,_,_,_,_,_,_,_,_,aV⟩,⟨_,_,_,_,_,aW,aR⟩,aX⟩,
  Ar,⟨_,As,rfl⟩,
  ⟨qY,yI,qA,qB,qC⟩,
  mo p8,⟨⟨_,_,_,_,_,_,_,_,_,_,_,_,_,_,jX⟩,⟨_,_,_,_,_,jY,mj⟩,jZ⟩,
  C3,⟨_,C4,rfl⟩,
  ⟨t7,oh,oi,oj,om⟩,
  ⟨qZ,oh,oi,oj,om⟩,
  ⟨sZ,oh,oi,oj,om⟩,
  mo kF,⟨⟨_,_,_,_,_,_,_,_,_,_,_,_,_,_,fY⟩,⟨_,_,_,_,_,fZ,jd⟩,gc⟩,
  wF,⟨_,wG,rfl⟩,
  ⟨qf,nC,nE,nF,nG⟩,
  ⟨pG,nC,nE,nF,nG⟩,
  ⟨wH,wI,wJ,wK,S7,S8,wL⟩,
  yJ,
  GZ jm,
  di (bR.mk ⟨_,_,_,_,_,_,_,_,_,_,_,_,_,_,aN⟩ ⟨_,_,_,_,_,aO,aM⟩ aP) (bR.mk ⟨_,_,_,_,_,_,_,_,_,_,_,_,_,_,cV⟩ ⟨_,_,_,_,_,cW,fT⟩ cX) bD,
  di (bR.mk ⟨_,_,_,_,_,_,_,_,_,_,_,_,_,_,aN⟩ ⟨_,_,_,_,_,aO,aM⟩ aP) (bR.mk ⟨_,_,_,_,_,_,_,_,_,_,_,_,_,_,jO⟩ ⟨_,_,_,_,_,jP,lS⟩ jQ) eG,
  di (bR.mk ⟨_,_,_,_,_,_,_,_,_,_,_,_,_,_,aN⟩ ⟨_,_,_,_,_,aO,aM⟩ aP) (bR.mk ⟨_,_,_,_,_,_,_,_,_,_,_,_,_,_,i9⟩ ⟨_,_,_,_,_,ja,kG⟩ jb) dY,
  di (bR.mk ⟨_,_,_,_,_,_,_,_,_,_,_,_,_,_,aN⟩ ⟨_,_,_,_,_,aO,aM⟩ aP) (bR.mk ⟨_,_,_,_,_,_,_,_,_,_,_,_,_,_,fU⟩ ⟨_,_,_,_,_,fV,jc⟩ fX) dg,
  di (bR.mk ⟨_,_,_,_,_,_,_,_,_,_,_,_,_,_,aN⟩ ⟨_,_,_,_,_,aO,aM⟩ aP) (bR.mk ⟨_,_,_,_,_,_,_,_,_,_,_,_,_,_,aN⟩ ⟨_,_,_,_,_,aO,aM⟩ aP) cz,
  di (bR.mk ⟨_,_,_,_,_,_,_,_,_,_,_,_,_,_,aN⟩ ⟨_,_,_,_,_,aO,aM⟩ aP) (bR.mk ⟨_,_,_,_,_,_,_,_,_,_,_,_,_,_,jR⟩ ⟨_,_,_,_,_,jS,lT⟩ jT) eH,
  di (bR.mk ⟨_,_,_,_,_,_,_,_,_,_,_,_,_,_,aN⟩ ⟨_,_,_,_,_,aO,aM⟩ aP) (bR.mk ⟨_,_,_,_,_,_,_,_,_,_,_,_,_,_,lU⟩ ⟨_,_,_,_,_,lV,nY⟩ lW) fG,
  di (bR.mk ⟨_,_,_,_,_,_,_,_,_,_,_,_,_,_,aN⟩ ⟨_,_,_,_,_,aO,aM⟩ aP) (bR.mk ⟨_,_,_,_,_,_,_,_,_,_,_,_,_,_,lX⟩ ⟨_,_,_,_,_,lY,nZ⟩ lZ) fH,
  di (bR.mk ⟨_,_,_,_,_,_,_,_,_,_,_,_,_,_,aN⟩ ⟨_,_,_,_,_,aO,aM⟩ aP) (bR.mk ⟨_,_,_,_,_,_,_,_,_,_,_,_,_,_,jU⟩ ⟨_,_,_,_,_,jV,mh⟩ jW) eN,
  di (bR.mk ⟨_,_,_,_,_,_,_,_,_,_,_,_,_,_,aN⟩ ⟨_,_,_,_,_,aO,aM⟩ aP) (bR.mk ⟨_,_,_,_,_,_,_,_,_,_,_,_,_,_,aV⟩ ⟨_,_,_,_,_,aW,aR⟩ aX) bL,
  di (bR.mk ⟨_,_,_,_,_,_,_,_,_,_,_,_,_,_,aN⟩ ⟨_,_,_,_,_,aO,aM⟩ aP) (bR.mk ⟨_,_,_,_,_,_,_,_,_,_,_,_,_,_,jX⟩ ⟨_,_,_,_,_,jY,mj⟩ jZ) eO,
  di (bR.mk ⟨_,_,_,_,_,_,_,_,_,_,_,_,_,_,aN⟩ ⟨_,_,_,_,_,aO,aM⟩ aP) (bR.mk ⟨_,_,_,_,_,_,_,_,_,_,_,_,_,_,fY⟩ ⟨_,_,_,_,_,fZ,jd⟩ gc) dh,
  ⟨qA,qB,qC,yK,S7,S8,yL⟩,
  GZ ku,
  di (bR.mk ⟨_,_,_,_,_,_,_,_,_,_,_,_,_,_,aV⟩ ⟨_,_,_,_,_,aW,aR⟩ aX) (bR.mk ⟨_,_,_,_,_,_,_,_,_,_,_,_,_,_,cV⟩ ⟨_,_,_,_,_,cW,fT⟩ cX) cL,
  di (bR.mk ⟨_,_,_,_,_,_,_,_,_,_,_,_,_,_,aV⟩ ⟨_,_,_,_,_,aW,aR⟩ aX) (bR.mk ⟨_,_,_,_,_,_,_,_,_,_,_,_,_,_,jO⟩ ⟨_,_,_,_,_,jP,lS⟩ jQ) fJ,
  di (bR.mk ⟨_,_,_,_,_,_,_,_,_,_,_,_,_,_,aV⟩ ⟨_,_,_,_,_,aW,aR⟩ aX) (bR.mk ⟨_,_,_,_,_,_,_,_,_,_,_,_,_,_,i9⟩ ⟨_,_,_,_,_,ja,kG⟩ jb) eS,
  di (bR.mk ⟨_,_,_,_,_,_,_,_,_,_,_,_,_,_,aV⟩ ⟨_,_,_,_,_,aW,aR⟩ aX) (bR.mk ⟨_,_,_,_,_,_,_,_,_,_,_,_,_,_,fU⟩ ⟨_,_,_,_,_,fV,jc⟩ fX) dN,
  di (bR.mk ⟨_,_,_,_,_,_,_,_,_,_,_,_,_,_,aV⟩ ⟨_,_,_,_,_,aW,aR⟩ aX) (bR.mk ⟨_,_,_,_,_,_,_,_,_,_,_,_,_,_,aN⟩ ⟨_,_,_,_,_,aO,aM⟩ aP) dZ,
  di (bR.mk ⟨_,_,_,_,_,_,_,_,_,_,_,_,_,_,aV⟩ ⟨_,_,_,_,_,aW,aR⟩ aX) (bR.mk ⟨_,_,_,_,_,_,_,_,_,_,_,_,_,_,jR⟩ ⟨_,_,_,_,_,jS,lT⟩ jT) fK,
  di (bR.mk ⟨_,_,_,_,_,_,_,_,_,_,_,_,_,_,aV⟩ ⟨_,_,_,_,_,aW,aR⟩ aX) (bR.mk ⟨_,_,_,_,_,_,_,_,_,_,_,_,_,_,lU⟩ ⟨_,_,_,_,_,lV,nY⟩ lW) gw,
  di (bR.mk ⟨_,_,_,_,_,_,_,_,_,_,_,_,_,_,aV⟩ ⟨_,_,_,_,_,aW,aR⟩ aX) (bR.mk ⟨_,_,_,_,_,_,_,_,_,_,_,_,_,_,lX⟩ ⟨_,_,_,_,_,lY,nZ⟩ lZ) gy,
  di (bR.mk ⟨_,_,_,_,_,_,_,_,_,_,_,_,_,_,aV⟩ ⟨_,_,_,_,_,aW,aR⟩ aX) (bR.mk ⟨_,_,_,_,_,_,_,_,_,_,_,_,_,_,jU⟩ ⟨_,_,_,_,_,jV,mh⟩ jW) fL,
  di (bR.mk ⟨_,_,_,_,_,_,_,_,_,_,_,_,_,_,aV⟩ ⟨_,_,_,_,_,aW,aR⟩ aX) (bR.mk ⟨_,_,_,_,_,_,_,_,_,_,_,_,_,_,aV⟩ ⟨_,_,_,_,_,aW,aR⟩ aX) eU,
  di (bR.mk ⟨_,_,_,_,_,_,_,_,_,_,_,_,_,_,aV⟩ ⟨_,_,_,_,_,aW,aR⟩ aX) (bR.mk ⟨_,_,_,_,_,_,_,_,_,_,_,_,_,_,jX⟩ ⟨_,_,_,_,_,jY,mj⟩ jZ) fM,
  di (bR.mk ⟨_,_,_,_,_,_,_,_,_,_,_,_,_,_,aV⟩ ⟨_,_,_,_,_,aW,aR⟩ aX) (bR.mk ⟨_,_,_,_,_,_,_,_,_,_,_,_,_,_,fY⟩ ⟨_,_,_,_,_,fZ,jd⟩ gc) dO,
  mz wM,
  mz Nb,
  mz Jy,
  mz wN,
  mz Nc,
  mz Jz,
  mz z_ord,
  mz GH,
  mz Nd,
  mz GI,
  ⟨_,mo rj⟩⟩⟩
theorem walk {l:W.OpenLaw}{q:Program}{loose:List Str}{XP:(Str→Option Value)→Heap→Prop}{YP:World→Heap→Prop}{d:DefRec}{K:Params→W.Frag} (hn:l.most=some 63) (hdf:d.params.defaults=[])
  (hY:∀(w:World) (h:Heap),YP w h→(K w.params).In h)
  (F:∀(w:World) (mg:Str→Option Value) (fa:Addr) (h:Heap),(K w.params).In h→h.Ns mainGlobals mg→mg d.name=some (.ref fa) →
   ∃ fd:FuncData,(∀(s:Shared) (u:Value),BindsTo s fd ⟨[u],[]⟩ [("_law_script",u)])∧∀ base:Heap,(K w.params).In base→base.Ns mainGlobals mg→bf l.prog w (K w.params) mg base gM 11 fa fd ["_law_script"] (vG (K w.params))) :
  W.WalkO q loose XP YP l.row.toRowW d [] (fun f vs=>PySem.call f vs) :=
 L2.FH (n:=63) (k:=11) (x := "_law_script") (CX:=fun _=>gM) (sp:=fun w=>vG (K w.params)) hn (by decide) hdf ⟨rfl,by decide,by decide⟩ hY F (fun _ _ a ns hl _ hS=>⟨a,ns,rfl,hS,hl,fun _=>rfl⟩) fun _ _ _ _ _ z=>z
end My
def PySem.W.Fast.tw17701577523193845755:Unit:=()
def PySem.W.Fast.tw15668194806918766253:Unit:=()
def PySem.W.Fast.tw10563890562376830303:Unit:=()
def PySem.W.Fast.tw9537104649667022181:Unit:=()
def PySem.W.Fast.tw9516168204863316249:Unit:=()
def PySem.W.Fast.tw13798252050747994525:Unit:=()
def PySem.W.Fast.tw5104297891818243030:Unit:=()
def PySem.W.Fast.tw7929996938968301265:Unit:=()
def PySem.W.Fast.tw8157815036101104975:Unit:=()
def PySem.W.Fast.tw8664136158467171867:Unit:=()
def PySem.W.Fast.tw2662720355702044480:Unit:=()
def PySem.W.Fast.tw13436035280739493531:Unit:=()
def PySem.W.Fast.tw17775993183696508048:Unit:=()
def PySem.W.Fast.tw1667587521601551852:Unit:=()
def PySem.W.Fast.tw10886991155887842404:Unit:=()
def PySem.W.Fast.tw4479966292503908138:Unit:=()
def PySem.W.Fast.tw17162438847318133922:Unit:=()
def PySem.W.Fast.tw12463663147851168813:Unit:=()
def PySem.W.Fast.tw11132470574842378060:Unit:=()
def PySem.W.Fast.tw15330300340520241175:Unit:=()
def PySem.W.Fast.tw18436963455045189738:Unit:=()
def PySem.W.Fast.tw13102667651444069669:Unit:=()
def PySem.W.Fast.tw12192785988631165050:Unit:=()
def PySem.W.Fast.tw1238270280585466032:Unit:=()
def PySem.W.Fast.tw14681197415650815766:Unit:=()
def PySem.W.Fast.tw6994763708207889529:Unit:=()
def PySem.W.Fast.tw9558725025282671669:Unit:=()
def PySem.W.Fast.tw1452713515587600233:Unit:=()
def PySem.W.Fast.tw11892208592827552950:Unit:=()
def PySem.W.Fast.tw11878884533536615942:Unit:=()
def PySem.W.Fast.tw13453749072967490398:Unit:=()
def PySem.W.Fast.tw5979660485150351470:Unit:=()
def PySem.W.Fast.tw3878004729813918557:Unit:=()
def PySem.W.Fast.tw2864362744990148543:Unit:=()
def PySem.W.Fast.tw16154819229732656742:Unit:=()
def PySem.W.Fast.tw4002973442847852777:Unit:=()
def PySem.W.Fast.tw4753844500672089156:Unit:=()
def PySem.W.Fast.tw16300444540349916820:Unit:=()
def PySem.W.Fast.tw2154962174105762865:Unit:=()
def PySem.W.Fast.tw15403878801086009507:Unit:=()
def PySem.W.Fast.tw7410245637603223963:Unit:=()
def PySem.W.Fast.tw11863801938975936227:Unit:=()
def PySem.W.Fast.tw6795546342040706750:Unit:=()
def PySem.W.Fast.tw14717992584587895221:Unit:=()
def PySem.W.Fast.tw16181027486897126909:Unit:=()
def PySem.W.Fast.tw8003357887182814937:Unit:=()
def PySem.W.Fast.tw5924570006656688839:Unit:=()
def PySem.W.Fast.tw4907149588430899732:Unit:=()
def PySem.W.Fast.tw8263254341585504297:Unit:=()
def PySem.W.Fast.tw17001164977097027523:Unit:=()
def PySem.W.Fast.tw4337959551917107477:Unit:=()
def PySem.W.Fast.tw12631604336362206485:Unit:=()
def PySem.W.Fast.tw6438567371328967131:Unit:=()
def PySem.W.Fast.tw6032317144329033250:Unit:=()
def PySem.W.Fast.tw11529358970386505977:Unit:=()
def PySem.W.Fast.tw3658927699209481294:Unit:=()
def PySem.W.Fast.tw16179919506297857030:Unit:=()
def PySem.W.Fast.tw9903710065171816193:Unit:=()
def PySem.W.Fast.tw1426999078018589750:Unit:=()
def PySem.W.Fast.tw7033776547715279032:Unit:=()
def PySem.W.Fast.tw1058047571966875997:Unit:=()
def PySem.W.Fast.tw13289621977917052207:Unit:=()
def PySem.W.Fast.tw12548765906871090380:Unit:=()
def PySem.W.Fast.tw5451776363220081232:Unit:=()
def PySem.W.Fast.tw6623748420956293598:Unit:=()
def PySem.W.Fast.tw8683280236165370536:Unit:=()
open PySem PySem.W PyProof.Rows
set_option maxRecDepth 100000 in
set_option maxHeartbeats 0 in
theorem PySem.Challenge.cw_dialecthall_k52_no_families_holds : PySem.Challenge.rw_dialecthall_k52_no_families.Holds := by
 w_on;o_law;k_head;(case hw=>w_witness2)
 k_fill
 refine My.walk (l:=PySem.Challenge.rw_dialecthall_k52_no_families) rfl rfl (fun w h Y=>W.kIn_of Y) ?F
 case F =>
  intro w mg fa h KX G hmg
  refine' My.all_mk KX G hmg ?_ ?ic ?p5 ?nW ?kD ?lR ?p6 ?sQ ?sR ?p7 ?nX ?p8 ?kF ?_ ?_ ?_ ?_ ?_ ?_ ?_ ?_ ?_ ?_ ?_ ?_ ?_ ?_ ?_ ?_ ?_ ?_ ?_ ?_ ?_ ?_ ?_ ?_ ?_ ?_ ?_ ?_ ?_ ?_ ?_ ?_ ?_ ?_ ?_ ?_ ?_ ?_ ?_ ?_ ?_ ?_ ?_ ?_ ?_ ?_ ?_ ?_ ?_ ?_ ?_ ?_ ?_ ?_ ?_ ?_ ?_ ?_ ?_ ?_ ?_ ?_ ?_ ?_ ?_ ?_ ?_ ?_ ?_ ?_ ?_ ?_ ?_ ?_ ?_ ?_ ?_ ?_ ?_ ?_ ?_ ?_ ?_ ?_ ?_ ?_ ?_ ?_ ?_ ?_ ?_ ?_ ?_ ?_ ?_ ?_ ?_ ?_ ?_ ?_ ?_ ?_ ?_ ?_ ?_ ?_ ?_ ?_ ?_ ?_ ?_ ?_ ?_ ?_ ?_ ?_ ?_ ?_ ?_ ?_ ?cV ?cW ?_ ?cX ?_ ?_ ?_ ?jO ?jP ?_ ?jQ ?i9 ?ja ?_ ?jb ?fU ?fV ?_ ?fX ?aN ?aO ?_ ?aP ?jR ?jS ?_ ?jT ?lU ?lV ?_ ?lW ?lX ?lY ?_ ?lZ ?jU ?jV ?_ ?jW ?_ ?_ ?_ ?_ ?_ ?_ ?_ ?aV ?aW ?_ ?aX ?_ ?_ ?_ ?_ ?_ ?_ ?_ ?jX ?jY ?_ ?jZ ?_ ?_ ?_ ?_ ?_ ?_ ?_ ?_ ?_ ?fY ?fZ ?_ ?gc ?_ ?_ ?_ ?_ ?_ ?_ ?_ ?_ ?_ ?_ ?_ ?_ ?_ ?_ ?_ ?_ ?_ ?_ ?_ ?_ ?_ ?_ ?_ ?_ ?_ ?_ ?_ ?_ ?_ ?_ ?_ ?_ ?_ ?_ ?_ ?_ ?_ ?_ ?_ ?_ ?_ ?_ ?_ ?_ ?_ ?_ ?_ ?_ ?_ ?_ ?_ ?_ ?_ ?_ ?_
  (case ic=>k_is)
  (case p5=>k_is)
  (case nW=>k_is)
  (case kD=>k_is)
  (case lR=>k_is)
  (case p6=>k_is)
  (case sQ=>k_is)
  (case sR=>k_is)
  (case p7=>k_is)
  (case nX=>k_is)
  (case p8=>k_is)
  (case kF=>k_is)
  (case cV=>k_is)
  (case cW=>k_is)
  (case cX=>k_is)
  (case jO=>k_is)
  (case jP=>k_is)
  (case jQ=>k_is)
  (case i9=>k_is)
  (case ja=>k_is)
  (case jb=>k_is)
  (case fU=>k_is)
  (case fV=>k_is)
  (case fX=>k_is)
  (case aN=>k_is)
  (case aO=>k_is)
  (case aP=>k_is)
  (case jR=>k_is)
  (case jS=>k_is)
  (case jT=>k_is)
  (case lU=>k_is)
  (case lV=>k_is)
  (case lW=>k_is)
  (case lX=>k_is)
  (case lY=>k_is)
  (case lZ=>k_is)
  (case jU=>k_is)
  (case jV=>k_is)
  (case jW=>k_is)
  (case aV=>k_is)
  (case aW=>k_is)
  (case aX=>k_is)
  (case jX=>k_is)
  (case jY=>k_is)
  (case jZ=>k_is)
  (case fY=>k_is)
  (case fZ=>k_is)
  (case gc=>k_is)
  all_goals try first | k_is | rfl
