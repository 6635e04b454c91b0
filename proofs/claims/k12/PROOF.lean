import PyProof.Rows.All
import Wide.All
import OpenK.AllK
import Wide.FinOn
import Lean
import PyProof.EqAt
import PyProof.EqKinds
import PyProof.TupleCall
import PySem.Challenge.RW_dialecthall_k12_tables_told
set_option Elab.async false
set_option linter.all false
set_option maxRecDepth 100000
namespace L2
open PySem PySem.Spec PyProof.Rows
abbrev Key:=Sum Int Str
def pS:Key→Value→Bool
 | .inl k,v=>Value.isInt k v
 | .inr x,v=>Value.isStrOf x v
def vB (w:World):Key→Int
 | .inl k=>hashInt k
 | .inr x=>hashStr w x
theorem aX:∀{k:Key}{v:Value},pS k v=true→(∃ i t,k=Sum.inl i∧v=Value.int i t)∨(∃ x t,k=Sum.inr x∧v=Value.str x t)
 | .inl i,v,h=>by
  obtain⟨t,e⟩:=Value.isInt_shape (k:=i) (v:=v) h
  exact .inl ⟨i,t,rfl,e⟩
 | .inr x,v,h=>by
  obtain⟨t,e⟩:=Value.isStrOf_shape (x:=x) (v:=v) h
  exact .inr ⟨x,t,rfl,e⟩
theorem qi (a b:Int):decide ((Sum.inl a:Key)=Sum.inl b)=(a == b):=by
 by_cases e:a=b
 ·subst e;simp
 ·have h:¬(Sum.inl a:Key)=Sum.inl b:=fun q=>e (Sum.inl.inj q)
  rw[decide_eq_false h]
  exact(beq_eq_false_iff_ne.mpr e).symm
theorem qj (a b:Str):decide ((Sum.inr a:Key)=Sum.inr b)=decide (a=b):=by
 by_cases e:a=b
 ·subst e;simp
 ·have h:¬(Sum.inr a:Key)=Sum.inr b:=fun q=>e (Sum.inr.inj q)
  rw[decide_eq_false h,decide_eq_false e]
theorem qk (a:Int) (b:Str):decide ((Sum.inl a:Key)=Sum.inr b)=false:=decide_eq_false (fun q=>nomatch q)
theorem ql (a:Str) (b:Int):decide ((Sum.inr a:Key)=Sum.inl b)=false:=decide_eq_false (fun q=>nomatch q)
def gO (prog:Program) (w:World):PySem.KeyKind prog w Key where
 is:=pS
 hash:=vB w
 inj:=fun v a b ha hb=>by
  rcases aX ha with ⟨i,t,rfl,rfl⟩ | ⟨x,t,rfl,rfl⟩
  ·rcases aX hb with ⟨j,u,rfl,e⟩ | ⟨y,u,rfl,e⟩
   ·injection e with e1 _;rw[e1]
   ·exact nomatch e
  ·rcases aX hb with ⟨j,u,rfl,e⟩ | ⟨y,u,rfl,e⟩
   ·exact nomatch e
   ·injection e with e1 _;rw[e1]
 byValue:=fun k v h=>by
  rcases aX h with ⟨i,t,rfl,rfl⟩ | ⟨x,t,rfl,rfl⟩ <;> rfl
 pyHash:=fun hv h=>by
  rcases aX hv with ⟨i,t,rfl,rfl⟩ | ⟨x,t,rfl,rfl⟩
  ·exact wpAny_pyHash_int h
  ·exact wpAny_pyHash_str h
 eqBool:=fun hu hv h=>by
  rcases aX hu with ⟨i,t,rfl,rfl⟩ | ⟨x,t,rfl,rfl⟩
  ·rcases aX hv with ⟨j,u,rfl,rfl⟩ | ⟨y,u,rfl,rfl⟩
   ·rw[qi] at h;exact wpAny_eqBool_int h
   ·rw[qk] at h;exact SeqAt.EqAt.int_str i t y u _ _ _ _ h
  ·rcases aX hv with ⟨j,u,rfl,rfl⟩ | ⟨y,u,rfl,rfl⟩
   ·rw[ql] at h;exact SeqAt.EqAt.str_int x t j u _ _ _ _ h
   ·rw[qj] at h;exact wpAny_eqBool_str h
 «strs» := fun k x t v h=>by
  rcases aX h with ⟨i,u,rfl,e⟩ | ⟨y,u,rfl,e⟩
  ·exact nomatch e
  ·injection e with e1 _
   subst e1
   cases v <;> rfl
inductive V where
 | non | bl (b:Bool) | int (i:Int) | str (x:Str) | mX (b:Array UInt8) | rQ (b:UInt64) | ref (a:Addr) | ty (n:String)
 deriving DecidableEq
def RelV:V→Value→Prop
 | .non,u=>u=Value.none
 | .bl b,u=>u=Value.bool b
 | .int i,u=>∃ t,u=Value.int i t
 | .str x,u=>∃ t,u=Value.str x t
 | .mX b,u=>∃ t,u=Value.bytes b t
 | .rQ b,u=>∃ t,u=Value.float b t
 | .ref a,u=>u=Value.ref a
 | .ty n,u=>u=Value.type n
abbrev Vals:List V→List Value→Prop:=Paired RelV
theorem Vals.length {xs:List V}{us:List Value} (r:Vals xs us):xs.length=us.length:=Paired.length r
theorem Vals.get:∀{xs:List V}{us:List Value}{i:Nat}{x:V},Vals xs us→xs[i]? = some x→∃ u,us[i]? = some u∧RelV x u
 | _,_,_,_,.nil,e=>by simp at e
 | _,_,0,_,.cons r _,e=>by simp at e;subst e;exact⟨_,rfl,r⟩
 | _,_,i+1,x,.cons _ t,e=>by
  obtain⟨u,h1,h2⟩:=Vals.get (i:=i) (x:=x) t (by simpa using e)
  exact⟨u,by simpa using h1,h2⟩
theorem Vals.set {x:V}{u:Value} (r:RelV x u):∀{xs:List V}{us:List Value} (i:Nat),Vals xs us→Vals (xs.set i x) (us.set i u)
 | _,_,_,.nil=>.nil
 | _,_,0,.cons _ t=>.cons r t
 | _,_,i+1,.cons q t=>.cons q (Vals.set r i t)
theorem Vals.append:∀{xs ys:List V}{us ws:List Value},Vals xs us→Vals ys ws→Vals (xs++ys) (us++ws)
 | _,_,_,_,.nil,s=>s
 | _,_,_,_,.cons r t,s=>.cons r (Vals.append t s)
theorem Vals.take:∀{xs:List V}{us:List Value} (n:Nat),Vals xs us→Vals (xs.take n) (us.take n)
 | _,_,0,_=>.nil
 | _,_,_+1,.nil=>.nil
 | _,_,n+1,.cons r t=>.cons r (Vals.take n t)
theorem Vals.drop:∀{xs:List V}{us:List Value} (n:Nat),Vals xs us→Vals (xs.drop n) (us.drop n)
 | _,_,0,r=>r
 | _,_,_+1,.nil=>.nil
 | _,_,n+1,.cons _ t=>Vals.drop n t
def qm:Option V→Option Value→Prop
 | some v,some u=>RelV v u
 | none,none=>True
 | _,_=>False
def KV {κ:Type}:List (κ×V)→List (κ×Value)→Prop:=Paired fun (p:κ×V) (q:κ×Value)=>p.1=q.1∧RelV p.2 q.2
def kV:Key→V
 | .inl i=>.int i
 | .inr x=>.str x
inductive HO where
 | lst (xs:List V)
 | tup (xs:List V)
 | dK (kvs:List (Key×V)) | dT (kvs:List (List Key×V))
 | set (S:Int→Bool) (n:Nat)
 | ins (C dx:Addr) (fs:List (Str×V))
 | own (x:Addr)
 | xd (fs:List (Str×V))
 | met (f x:Addr)
 | vC (lo hi:Int)
 | lA (o:Obj) (u:HO)
 | qo (ps:Array Value)
 | ext (φ:Heap→Prop)
abbrev Hp:=Addr→Option HO
def upd (H:Hp) (a:Addr) (o:HO):Hp:=fun b=>if b=a then some o else H b
theorem ah {H:Hp}{a:Addr}{o:HO}:upd H a o a=some o:=by unfold upd;rw[if_pos rfl]
theorem aH {H:Hp}{a b:Addr}{o:HO} (h:b≠a):upd H a o b=H b:=by unfold upd;rw[if_neg h]
theorem bF {H:Hp}{a b:Addr}{o:HO} (h:H a=some o) (h':H b=none):a≠b:=by
 intro e;subst e;rw[h] at h';cases h'
section
variable (P:Program) (w:World)
def bH (H:Hp) (h:Heap) (a:Addr):HO→Prop
 | .lst xs=>xs.length≤sizeLine∧∃(its:List Value) (n:Nat),Vals xs its∧h.get? a=some { cls:=.type "list",data:=.seq its.toArray n }
 | .tup xs=>xs.length≤sizeLine∧∃ its:List Value,Vals xs its∧IsTup h a its.toArray
 | .dK kvs=>kvs.length≤sizeLine∧(a == sysModules)=false∧∃ vs,KV kvs vs∧h.DictOf (gO P w) a vs
 | .dT kvs=>kvs.length≤sizeLine∧(a == sysModules)=false∧∃ xs:List (List Key×Addr×Value),
   Paired (fun (p:List Key×V) (q:List Key×Addr×Value)=>p.1=q.1∧H q.2.1=some (.tup (p.1.map kV))∧RelV p.2 q.2.2) kvs xs ∧
   ∃ o es ep,h.get? a=some o∧o.ExactDict∧o.data=.dict es ep∧es.toList=xs.map (entryOfKey (tupleKind (gO P w)))∧(xs.map (·.1)).Nodup
 | .set S n=>h.SetOf (intKind P w) a S n
 | .ins C dx fs=>H dx=some (.own a)∧fs.length≤1000∧dx≠a∧h.get? a=some (W.instObj C dx) ∧
   ∃ mA,h.Ns1 dx mA∧(∀ f,qm (fs.lookup f) (mA f))∧PySem.Within mA (fs.map (·.1))
 | .own _=>∃ o,h.get? a=some o
 | .xd fs=>∃ mA,h.Ns1 a mA∧∀ f,qm (fs.lookup f) (mA f)
 | .vC lo hi=>∃ t u v,h.get? a=some { cls:=.type "range",data:=.fields #[.int lo t,.int hi u,.int 1 v] }
 | .lA o u=>h.get? a=some o∧bH H h a u
 | .qo ps=>h.get? a=some { cls:=.none,data:=.fields ps }
 | .met f x=>h.get? a=some (W.methodObj (.ref f) (.ref x))
 | .ext φ=>φ h∧(∃ o,h.get? a=some o)∧∀ h1 h2:Heap,φ h1→(∀ o,h1.get? a=some o→h2.get? a=some o)→φ h2
def gi (H:Hp) (h:Heap):Prop:=∀ a o,H a=some o→bH P w H h a o
end
section
variable {P:Program}{w:World}{H H':Hp}{h h':Heap}{a:Addr}{o:HO}
theorem bH.lt (x:bH P w H h a o):a < h.objs.size:=by
 cases o with
 | lst xs=>obtain⟨_,_,_,_,e⟩:=x;exact Heap.lt_size e
 | tup xs=>obtain⟨_,_,_,p⟩:=x;exact p.lt
 | dK kvs=>obtain⟨_,_,_,_,o,_,_,e,_⟩:=x;exact Heap.lt_size e
 | dT kvs=>obtain⟨_,_,_,_,o,_,_,e,_⟩:=x;exact Heap.lt_size e
 | set S n=>obtain⟨o,_,_,_,e,_⟩:=x;exact Heap.lt_size e
 | ins C dx fs=>obtain⟨_,_,_,e,_⟩:=x;exact Heap.lt_size e
 | own y=>obtain⟨_,e⟩:=x;exact Heap.lt_size e
 | xd fs=>obtain⟨_,⟨_,_,_,e,_⟩,_⟩:=x;exact Heap.lt_size e
 | vC lo hi=>obtain⟨_,_,_,e⟩:=x;exact Heap.lt_size e
 | lA ob u=>obtain⟨e,_⟩:=x;exact Heap.lt_size e
 | qo ps=>exact Heap.lt_size (show h.get? a=some _ from x)
 | met f y=>exact Heap.lt_size (show h.get? a=some _ from x)
 | ext φ=>obtain⟨_,⟨_,e⟩,_⟩:=x;exact Heap.lt_size e
theorem Paired.qp {α β:Type}{F G:α→β→Prop}:∀{l₁:List α}{l₂:List β},Paired F l₁ l₂→(∀ a b,F a b→G a b)→Paired G l₁ l₂
 | _,_,.nil,_=>.nil
 | _,_,.cons r t,f=>.cons (f _ _ r) (Paired.qp t f)
theorem Paired.imp' {α β:Type}{F G:α→β→Prop} (f:∀ a b,F a b→G a b) {l₁:List α}{l₂:List β} (r:Paired F l₁ l₂):Paired G l₁ l₂:=Paired.qp r f
theorem bH.stay (x:bH P w H h a o) (k:∀ b u,(b=a∨H b=some (.own a))→h.get? b=some u→h'.get? b=some u)
  (ho:∀ b,H b=some (.own a)→H' b=some (.own a)) (ht:∀ b xs,H b=some (.tup xs)→H' b=some (.tup xs)):bH P w H' h' a o:=by
 induction o with
 | lst xs=>obtain⟨z,its,n,r,e⟩:=x;exact⟨z,its,n,r,k _ _ (.inl rfl) e⟩
 | tup xs=>obtain⟨z,its,r,ob,e,c⟩:=x;exact⟨z,its,r,ob,k _ _ (.inl rfl) e,c⟩
 | dK kvs=>obtain⟨z,y,vs,r,ob,es,ep,e,c⟩:=x;exact⟨z,y,vs,r,ob,es,ep,k _ _ (.inl rfl) e,c⟩
 | dT kvs =>
  obtain⟨z,y,xs,r,ob,es,ep,e,c⟩:=x
  exact⟨z,y,xs,Paired.qp r fun p q z=>⟨z.1,ht _ _ z.2.1,z.2.2⟩,ob,es,ep,k _ _ (.inl rfl) e,c⟩
 | set S n=>obtain⟨ob,es,ep,t,e,c⟩:=x;exact⟨ob,es,ep,t,k _ _ (.inl rfl) e,c⟩
 | ins C dx fs =>
  obtain⟨d,z,ne,e,mA,⟨od,es,ep,e2,c⟩,r⟩:=x
  exact⟨ho _ d,z,ne,k _ _ (.inl rfl) e,mA,⟨od,es,ep,k _ _ (.inr d) e2,c⟩,r⟩
 | own y=>obtain⟨ob,e⟩:=x;exact⟨ob,k _ _ (.inl rfl) e⟩
 | xd fs=>obtain⟨mA,⟨od,es,ep,e,c⟩,r⟩:=x;exact⟨mA,⟨od,es,ep,k _ _ (.inl rfl) e,c⟩,r⟩
 | vC lo hi=>obtain⟨t,u,v,e⟩:=x;exact⟨t,u,v,k _ _ (.inl rfl) e⟩
 | lA ob u ih=>obtain⟨e,q⟩:=x;exact⟨k _ _ (.inl rfl) e,ih q⟩
 | qo ps =>
  have e:h.get? a=some { cls:=.none,data:=.fields ps }:=x
  show h'.get? a=some { cls:=.none,data:=.fields ps }
  exact k a _ (.inl rfl) e
 | met f y =>
  have e:h.get? a=some (W.methodObj (.ref f) (.ref y)):=x
  show h'.get? a=some (W.methodObj (.ref f) (.ref y))
  exact k a _ (.inl rfl) e
 | ext φ=>obtain⟨p,⟨o,e⟩,st⟩:=x;exact⟨st _ _ p fun o q=>k _ _ (.inl rfl) q,⟨o,k _ _ (.inl rfl) e⟩,st⟩
theorem gi.lt (x:gi P w H h) (e:H a=some o):a < h.objs.size:=(x a o e).lt
theorem gi.fresh (x:gi P w H h) (e:h.objs.size≤a):H a=none:=by
 cases q:H a with
 | none=>rfl
 | some u=>exact absurd (Nat.lt_of_lt_of_le (x.lt q) e) (Nat.lt_irrefl _)
theorem gi.kept (x:gi P w H h) (k:∀ b u,h.get? b=some u→h'.get? b=some u):gi P w H h':=fun a o e =>
 (x a o e).stay (fun b u _ q=>k b u q) (fun _ q=>q) fun _ _ q=>q
theorem gi.laid (x:gi P w H h) (k:∀ b u,h.get? b=some u→h'.get? b=some u) (hp:h.objs.size≤a) (new:bH P w (upd H a o) h' a o):gi P w (upd H a o) h':=fun b u e=>by
 have hn:=x.fresh hp
 by_cases hb:b=a
 ·subst hb;rw[ah] at e;cases e;exact new
 ·rw[aH hb] at e
  exact(x b u e).stay (fun c v _ q=>k c v q) (fun c q=>by rw[aH (bF q hn)];exact q) fun c xs q=>by rw[aH (bF q hn)];exact q
end
def Rd (H:Hp) (a:Addr) (u:HO):Prop:=H a=some u∨∃ o,H a=some (.lA o u)
theorem Rd.ok {P:Program}{w:World}{H:Hp}{h:Heap}{a:Addr}{u:HO} (r:Rd H a u) (x:gi P w H h):bH P w H h a u:=by
 rcases r with r | ⟨o,r⟩
 ·exact x a u r
 ·obtain⟨_,q⟩:=x a _ r
  exact q
def uO:Option HO→Prop
 | some (.lst _)=>True
 | some (.dK _)=>True
 | some (.dT _)=>True
 | some (.set _ _)=>True
 | some (.ins _ _ _)=>True
 | some (.ext _)=>True
 | _=>False
section
variable {P:Program}{w:World}{H:Hp}{h h':Heap}{x e:Addr}{o':HO}
theorem gi.write (ok:gi P w H h) (mu:uO (H x)) (he:e=x∨H e=some (.own x)) (k:∀ b u,b≠e→h.get? b=some u→h'.get? b=some u) (rR:∃ u,h'.get? e=some u)
  (new:bH P w (upd H x o') h' x o'):gi P w (upd H x o') h':=fun b u q=>by
 have sd:∀ c y,H c=some (.own y)→c≠x:=fun c y r z=>by subst z;rw[r] at mu;exact mu
 have vD:∀ c xs,H c=some (.tup xs)→c≠x:=fun c xs r z=>by subst z;rw[r] at mu;exact mu
 by_cases hb:b=x
 ·subst hb;rw[ah] at q;cases q;exact new
 ·rw[aH hb] at q
  by_cases qq:b=e
  ·have q':H b=some (.own x):=by
    rcases he with z | z
    ·exact absurd (qq.trans z) hb
    ·rw[qq];exact z
   rw[q] at q';cases q'
   obtain⟨v,hv⟩:=rR
   exact⟨v,by rw[qq];exact hv⟩
  ·refine(ok b u q).stay (fun c v hc r=>k c v ?_ r) (fun c r=>by rw[aH (sd c b r)];exact r) fun c xs r=>by rw[aH (vD c xs r)];exact r
   rcases hc with rfl | hc
   ·exact qq
   ·rintro rfl
    rcases he with z | z
    ·exact sd c b hc z
    ·rw[hc] at z;cases z;exact hb rfl
end
structure Un (fs ex:List Addr) (H H':Hp) (h h':Heap):Prop where
 keep:∀ b o,h.get? b=some o→H b=none→b∉fs→b∉ex→h'.get? b=some o
 slot:∀ b o,h.get? b=some o→H b=none→b∈fs→b∉ex→∃ sl,h'.get? b=some { o with slots:=sl }
 free:∀ b o,h.get? b=some o→H b=none→b∉ex→H' b=none
 there:∀ b o,h.get? b=some o→b∉ex→∃ o',h'.get? b=some o'
 tups:∀ b xs,H b=some (.tup xs)→H' b=some (.tup xs)
 ji:∀ b o u,H b=some (.lA o u)→H' b=some (.lA o u)
 jS:∀ b ps,H b=some (.qo ps)→∃ more,H' b=some (.qo (ps++more))
section
variable {fs fs' ex ex':List Addr}{H H1 H2:Hp}{h h1 h2 h':Heap}{a x e:Addr}{o:HO}
theorem Un.any (u:Un fs ex H H1 h h1) {b:Addr}{ob:Obj} (q:h.get? b=some ob) (n:H b=none) (hx:b∉ex):∃ sl,h1.get? b=some { ob with slots:=sl }:=by
 by_cases hb:b∈fs
 ·exact u.slot b ob q n hb hx
 ·exact⟨ob.slots,u.keep b ob q n hb hx⟩
theorem Un.kept (k:∀ b u,h.get? b=some u→h'.get? b=some u):Un fs ex H H h h' :=
 ⟨fun b ob q _ _ _=>k b ob q,fun b ob q _ _ _=>⟨ob.slots,k b ob q⟩,fun _ _ _ n _=>n,fun b ob q _=>⟨ob,k b ob q⟩,fun _ _ q=>q,fun _ _ _ q=>q,fun _ ps q=>⟨#[],by rw[q];simp⟩⟩
theorem Un.refl:Un fs ex H H h h:=Un.kept fun _ _ q=>q
theorem Un.laid (k:∀ b u,h.get? b=some u→h'.get? b=some u) (hp:h.objs.size≤a) (hn:H a=none):Un fs ex H (upd H a o) h h' where
 keep:=fun b u q _ _ _=>k b u q
 slot:=fun b u q _ _ _=>⟨u.slots,k b u q⟩
 free:=fun b u q n _=>by rw[aH (Nat.ne_of_lt (Nat.lt_of_lt_of_le (Heap.lt_size q) hp))];exact n
 there:=fun b u q _=>⟨u,k b u q⟩
 tups:=fun b xs q=>by rw[aH (bF q hn)];exact q
 ji:=fun b u xs q=>by rw[aH (bF q hn)];exact q
 jS:=fun b ps q=>⟨#[],by rw[aH (bF q hn),q];simp⟩
theorem Un.write (mu:uO (H x)) (he:e=x∨H e=some (.own x)) (k:∀ b u,b≠e→h.get? b=some u→h'.get? b=some u) (rR:∃ u,h'.get? e=some u):Un fs ex H (upd H x o) h h':=by
 have hx:∀ b,H b=none→b≠x:=fun b n z=>by subst z;rw[n] at mu;exact mu
 have hb:∀ b,H b=none→b≠e:=fun b n z=>by
  subst z
  rcases he with r | r
  ·exact hx b n r
  ·rw[n] at r;cases r
 have hm:∀ b u,H b=some u→¬uO (some u)→b≠x:=fun b u q nm z=>by subst z;rw[q] at mu;exact nm mu
 refine⟨fun b u q n _ _=>k b u (hb b n) q,fun b u q n _ _=>⟨u.slots,k b u (hb b n) q⟩,fun b u q n _=>by rw[aH (hx b n)];exact n,fun b u q _=>?_,
  fun b xs q=>by rw[aH (hm b _ q fun z=>z)];exact q,fun b u xs q=>by rw[aH (hm b _ q fun z=>z)];exact q,fun b ps q=>⟨#[],by rw[aH (hm b _ q fun z=>z),q];simp⟩⟩
 by_cases qq:b=e
 ·subst qq;exact rR
 ·exact⟨u,k b u qq q⟩
end
def uP (h:Heap) (H:Hp):List Addr:=(List.range h.objs.size).filter fun a=>(H a).isSome
def jj (h:Heap) (H:Hp):Heap:=W.hideAll h (uP h H)
theorem lW (h:Heap) (H:Hp):(jj h H).objs.size=h.objs.size:=W.hideAll_size _ _
theorem mY {h:Heap}{H:Hp}{b:Addr}{o:Obj} (e:h.get? b=some o) (n:H b=none):(jj h H).get? b=some o :=
 W.hideAll_get _ e fun hm=>by
  have q:(H b).isSome=true:=(List.mem_filter.mp hm).2
  rw[n] at q;simp at q
theorem ow {h:Heap}{H:Hp}{b:Addr}{o:Obj} (e:(jj h H).get? b=some o):h.get? b=some o∧H b=none:=by
 have e':h.get? b=some o:=W.of_hideAll (uP h H) e
 refine⟨e',?_⟩
 cases q:H b with
 | none=>rfl
 | some x =>
  have hm:b∈uP h H:=List.mem_filter.mpr ⟨List.mem_range.mpr (Heap.lt_size e'),by simp[q]⟩
  have z:(jj h H).get? b=none:=W.hideAll_none (uP h H) hm
  rw[z] at e;cases e
def oz (g h:Heap) (L:Addr):List (Addr×Obj):=(List.range h.objs.size).filterMap fun a=>if a=L∨(g.get? a).isSome=true then none else (h.get? a).map fun o=>(a,o)
def rest (g h:Heap) (L d:Addr):List (Addr×Obj):=(oz g h L).filter fun p=>decide (p.1≠d)
structure Mod (K:W.Frag) (mg:Str→Option Value) (base:Heap):Prop where
 vE:K.In base
 glob:base.Ns mainGlobals mg
 blt:∃ mb,base.Ns builtinsNs mb∧∀ x:Str,x ≠ "__name__"→mb x=bootBuiltins x
 nolimit:base.NoLimit
structure Cx where
 prog:Program
 w:World
 K:W.Frag
 mg:Str→Option Value
 base:Heap
 A:Around
 N:List Str
 s₀:Shared
 H₀:Hp
 env:Env
 outer:List Env
 stack:List Env
 ex:List Addr
 fn:Str→Bool
 calm:Bool
 pn:List (Addr×Obj)
 xe:Value→Shared→Prop
def frs (l:List Env):List Addr:=l.filterMap (·.frame)
abbrev Cx.fs (X:Cx):List Addr:=frs X.outer
def vF (sc:Scope) (x:Str):Prop:=sc.names.lookup x=some .local∨sc.names.lookup x=some .cell∨sc.names.lookup x=some .free
def Loc (sc:Scope) (x:Str):Prop:=sc.names.lookup x=some .local∨sc.names.lookup x=some .cell
def Look (env:Env) (h:Heap) (m:Str→Option Value) (x:Str) (u:Value):Prop :=
 (env.kindOf x=some .local∧m x=some u)∨((env.kindOf x=some .cell∨env.kindOf x=some .free)∧∃ c,env.cells.lookup x=some c∧h.IsCell c (some u))
structure Cx.Ok (X:Cx):Prop where
 mod:Mod X.K X.mg X.base
 kind:X.env.scope.kind=.function
 glob:X.env.globals=mainGlobals
 blt:X.env.builtins=builtinsNs
 above:X.s₀.heap.objs.size≤X.env.locals
 inj:∀ x y c,X.env.cells.lookup x=some c→X.env.cells.lookup y=some c→x=y
 has:∀ x,(X.env.kindOf x=some .cell∨X.env.kindOf x=some .free)→∃ c,X.env.cells.lookup x=some c
 se:∀ x c,X.fn x=true→X.env.cells.lookup x=some c→X.s₀.heap.objs.size≤c
 hd:X.calm=true→X.A.handled=none
 frames:X.A.frames=some X.stack
 stk:X.stack=X.outer∨(X.stack=X.env :: X.outer∧X.env.frame=some X.env.locals)
 yx:∀ b∈X.ex,b≠X.env.locals∧∀ x c,X.env.cells.lookup x=some c→c≠b
 bs:∀ b o,X.base.get? b=some o→X.s₀.heap.get? b=some o∧X.H₀ b=none
 pT:X.base.objs.size≤X.s₀.heap.objs.size
 mZ:∀ b o,X.base.get? b=some o→b∉X.ex
 oA:∀ b∈X.ex,b∉X.fs
 gU:X.s₀.heap.FunFrames X.base X.outer
 rS:∀ b∈X.fs,X.H₀ b=none
structure Inv (X:Cx) (pins:List (Addr×Obj)) (σ:List (Option V)) (H:Hp) (s:Shared):Prop where
 ok:X.Ok
 os:s.os=X.s₀.os
 bare:AllBare s.gens
 base:Un X.fs X.ex X.H₀ H X.s₀.heap s.heap
 loc:∃ m,s.heap.Ns X.env.locals m∧∀(i:Nat) (x:Str) (v:V),X.N[i]? = some x→σ[i]? = some (some v)→vF X.env.scope x→∃ u,RelV v u∧Look X.env s.heap m x u
 cell:∀ x c,X.env.cells.lookup x=some c→∃ v,s.heap.IsCell c v
 free:H X.env.locals=none
 fm:∀ x c,X.env.cells.lookup x=some c→H c=none
 pin:∀ p∈X.pn++pins,s.heap.get? p.1=some p.2∧H p.1=none∧p.1≠X.env.locals∧p.1∉X.fs∧∀ v,p.2.data≠.cell v
 hok:gi X.prog X.w H s.heap
 len:σ.length=X.N.length
section
variable {X:Cx}{pins:List (Addr×Obj)}{σ:List (Option V)}{H H':Hp}{s:Shared}{h':Heap}
theorem Cx.Ok.vG (ok:X.Ok) {b:Addr}{o:Obj} (e:X.base.get? b=some o):b∉X.fs:=fun hb=>by
 have:=(ok.gU.mem hb).1
 rw[e] at this;cases this
theorem Inv.bs (I:Inv X pins σ H s):∀ b o,X.base.get? b=some o→s.heap.get? b=some o∧H b=none:=fun b o e =>
 ⟨I.base.keep b o (I.ok.bs b o e).1 (I.ok.bs b o e).2 (I.ok.vG e) (I.ok.mZ b o e),I.base.free b o (I.ok.bs b o e).1 (I.ok.bs b o e).2 (I.ok.mZ b o e)⟩
theorem Inv.bk (I:Inv X pins σ H s):∀ b o,X.base.get? b=some o→s.heap.get? b=some o:=fun b o e=>(I.bs b o e).1
theorem Inv.mod (I:Inv X pins σ H s):Mod X.K X.mg X.base:=I.ok.mod
theorem Inv.jQ (I:Inv X pins σ H s):X.K.In s.heap:=I.ok.mod.vE.keeps I.bk
theorem Inv.lt (I:Inv X pins σ H s):X.env.locals < s.heap.objs.size:=let ⟨_,hn,_⟩:=I.loc;hn.lt
theorem Inv.sz (I:Inv X pins σ H s):X.s₀.heap.objs.size≤s.heap.objs.size:=Nat.le_trans I.ok.above (Nat.le_of_lt I.lt)
theorem Inv.vH (I:Inv X pins σ H s) {a:Addr} (h:s.heap.objs.size≤a):a∉X.fs:=fun hb=>by
 obtain⟨_,o,ho,_⟩:=I.ok.gU.mem hb
 exact absurd (Nat.lt_of_lt_of_le (Heap.lt_size ho) (Nat.le_trans I.sz h)) (Nat.lt_irrefl _)
theorem Inv.qs (I:Inv X pins σ H s):∀ x c,X.env.cells.lookup x=some c→c≠X.env.locals:=fun x c e z=>by
 obtain⟨v,o,ho,hd⟩:=I.cell x c e
 obtain⟨m,⟨o',es,ep,ho',hd',_⟩,_⟩:=I.loc
 rw[z,ho'] at ho;cases ho;rw[hd'] at hd;cases hd
theorem Inv.gU (I:Inv X pins σ H s):s.heap.FunFrames X.base X.outer:=by
 have all:∀(l:List Env),(∀ b∈frs l,b∈X.fs)→X.s₀.heap.FunFrames X.base l→s.heap.FunFrames X.base l:=by
  intro l
  induction l with
  | nil=>intro _ _;trivial
  | cons env r ih =>
   intro hs hl
   obtain⟨hk,⟨L,o,hf,hn,ho,hd⟩,hr⟩:=hl
   have hL:L∈X.fs:=hs L (by unfold frs;rw[List.filterMap_cons,hf];exact List.mem_cons_self)
   obtain⟨sl,e⟩:=I.base.slot L o ho (I.ok.rS L hL) hL fun z=>I.ok.oA L z hL
   exact⟨hk,⟨L,_,hf,hn,e,hd⟩,ih (fun b hb=>hs b (by unfold frs;rw[List.filterMap_cons,hf];exact List.mem_cons_of_mem _ hb)) hr⟩
 exact all X.outer (fun _ hb=>hb) I.ok.gU
theorem Inv.stack (I:Inv X pins σ H s):s.heap.FunFrames X.base X.stack:=by
 rcases I.ok.stk with e | ⟨e,hf⟩
 ·rw[e];exact I.gU
 ·rw[e]
  obtain⟨m,hn,_⟩:=I.loc
  refine .cons (by rw[I.ok.kind];decide) hf hn ?_ I.gU
  exact Heap.get?_none_of_le (Nat.le_trans I.ok.pT I.ok.above)
theorem Inv.jk (I:Inv X pins σ H s):∀ b∈frs X.stack,b∈X.env.locals :: X.fs:=fun b hb=>by
 rcases I.ok.stk with e | ⟨e,hf⟩
 ·rw[e] at hb;exact List.mem_cons_of_mem _ hb
 ·rw[e] at hb
  unfold frs at hb
  rw[List.filterMap_cons,hf] at hb
  exact hb
theorem Inv.lB (I:Inv X pins σ H s):∀ b∈frs X.stack,H b=none:=fun b hb=>by
 rcases List.mem_cons.mp (I.jk b hb) with e | hb
 ·rw[e];exact I.free
 ·obtain⟨_,o,ho,_⟩:=I.ok.gU.mem hb
  exact I.base.free b o ho (I.ok.rS b hb) fun z=>I.ok.oA b z hb
theorem Inv.step {g':Array GenState}{t':Nat}{d':Drawn}{ch:List Addr} (I:Inv X pins σ H s)
  (hch:∀ b∈ch,(b∈X.ex∨X.s₀.heap.objs.size≤b)∧b≠X.env.locals∧(∀ x c,X.env.cells.lookup x=some c→c≠b)∧∀ p∈X.pn++pins,p.1≠b)
  (keep:∀ b o,b≠X.env.locals→b∉X.fs→b∉ch→s.heap.get? b=some o→H b=none→h'.get? b=some o)
  (slot:∀ b o,b≠X.env.locals→b∈X.fs→b∉ch→s.heap.get? b=some o→H b=none→∃ sl,h'.get? b=some { o with slots:=sl }) (free:∀ b o,b∉ch→s.heap.get? b=some o→H b=none→H' b=none)
  (there:∀ b o,b∉ch→s.heap.get? b=some o→∃ o',h'.get? b=some o')
  (tups:∀ b xs,H b=some (.tup xs)→H' b=some (.tup xs)) (ji:∀ b o u,H b=some (.lA o u)→H' b=some (.lA o u)) (jS:∀ b ps,H b=some (.qo ps)→∃ more,H' b=some (.qo (ps++more)))
  (ns:∀ m,s.heap.Ns X.env.locals m→h'.Ns X.env.locals m) (hok:gi X.prog X.w H' h') (hg:AllBare g') :
  Inv X pins σ H' { s with heap:=h',gens:=g',drawn:=d',toks:=t' }:=by
 have yy:∀ b o,X.s₀.heap.get? b=some o→b≠X.env.locals:=fun b o e=>Nat.ne_of_lt (Nat.lt_of_lt_of_le (Heap.lt_size e) I.ok.above)
 have uQ:∀ b o,X.s₀.heap.get? b=some o→b∉X.ex→b∉ch:=fun b o e hx hb=>by
  rcases(hch b hb).1 with z | z
  ·exact hx z
  ·exact absurd (Nat.lt_of_lt_of_le (Heap.lt_size e) z) (Nat.lt_irrefl _)
 have cellK:∀ x c,X.env.cells.lookup x=some c→∀ v,s.heap.IsCell c v→h'.IsCell c v:=fun x c e v ⟨o,ho,hd⟩=>by
  have sf:c∉ch:=fun z=>(hch c z).2.2.1 x c e rfl
  by_cases hc:c∈X.fs
  ·obtain⟨sl,q⟩:=slot c o (I.qs x c e) hc sf ho (I.fm x c e)
   exact⟨_,q,hd⟩
  ·exact⟨o,keep c o (I.qs x c e) hc sf ho (I.fm x c e),hd⟩
 refine⟨I.ok,I.os,hg,⟨fun b o e n hb hx=>?_,fun b o e n hb hx=>?_,fun b o e n hx=>?_,fun b o e hx=>?_,fun b xs e=>tups b xs (I.base.tups b xs e),fun b o xs e=>ji b o xs (I.base.ji b o xs e),fun b ps e=>?_⟩,?_,fun x c e=>?_,?_,fun x c e=>?_,fun p hp=>?_,hok,I.len⟩
 ·exact keep b o (yy b o e) hb (uQ b o e hx) (I.base.keep b o e n hb hx) (I.base.free b o e n hx)
 ·obtain⟨sl,e1⟩:=I.base.slot b o e n hb hx
  obtain⟨Ay,e2⟩:=slot b _ (yy b o e) hb (uQ b o e hx) e1 (I.base.free b o e n hx)
  exact⟨Ay,e2⟩
 ·obtain⟨o',e1⟩:=I.base.there b o e hx
  exact free b o' (uQ b o e hx) e1 (I.base.free b o e n hx)
 ·obtain⟨o',e1⟩:=I.base.there b o e hx
  exact there b o' (uQ b o e hx) e1
 ·obtain⟨m1,e1⟩:=I.base.jS b ps e
  obtain⟨m2,e2⟩:=jS b _ e1
  exact⟨m1++m2,by rw[e2,Array.append_assoc]⟩
 ·obtain⟨m,hn,hl⟩:=I.loc
  refine⟨m,ns m hn,fun i x v e1 e2 e3=>?_⟩
  obtain⟨u,r,l⟩:=hl i x v e1 e2 e3
  refine⟨u,r,?_⟩
  rcases l with l | ⟨k,c,e,z⟩
  ·exact .inl l
  ·exact .inr ⟨k,c,e,cellK x c e _ z⟩
 ·obtain⟨v,z⟩:=I.cell x c e
  exact⟨v,cellK x c e v z⟩
 ·obtain⟨m,⟨o,_,_,ho,_⟩,_⟩:=I.loc
  exact free _ o (fun z=>(hch _ z).2.1 rfl) ho I.free
 ·obtain⟨v,o,ho,hd⟩:=I.cell x c e
  exact free c o (fun z=>(hch c z).2.2.1 x c e rfl) ho (I.fm x c e)
 ·obtain⟨e,n,ne,nf,d⟩:=I.pin p hp
  have sf:p.1∉ch:=fun z=>(hch p.1 z).2.2.2 p hp rfl
  exact⟨keep p.1 p.2 ne nf sf e n,free p.1 p.2 sf e n,ne,nf,d⟩
theorem Inv.un {t':Nat} (I:Inv X pins σ H s) (u:Un X.fs [] H H' s.heap h') (hok:gi X.prog X.w H' h'):Inv X pins σ H' { s with heap:=h',toks:=t' }:=by
 obtain⟨m,⟨o,es,ep,ho,r⟩,_⟩:=id I.loc
 obtain⟨sl,hL⟩:=u.any ho I.free (by simp)
 exact I.step (g':=s.gens) (d':=s.drawn) (ch:=[]) (fun _ z=>nomatch z) (fun b o _ hb _ e n=>u.keep b o e n hb (by simp)) (fun b o _ hb _ e n=>u.slot b o e n hb (by simp)) (fun b o _ e n=>u.free b o e n (by simp)) (fun b o _ e=>u.there b o e (by simp)) u.tups u.ji u.jS (fun m' hm=>by
  obtain⟨o',es',vI,ho',r'⟩:=hm
  rw[ho] at ho';cases ho'
  exact⟨_,es',vI,hL,r'⟩) hok I.bare
theorem Inv.call {g':Array GenState}{t':Nat}{d':Drawn}{ch:List Addr} (I:Inv X pins σ H s) (u:Un (frs X.stack) ch H H' s.heap h') (hok:gi X.prog X.w H' h') (hg:AllBare g')
  (hch:∀ b∈ch,(b∈X.ex∨X.s₀.heap.objs.size≤b)∧b≠X.env.locals∧(∀ x c,X.env.cells.lookup x=some c→c≠b)∧∀ p∈X.pn++pins,p.1≠b) :
  Inv X pins σ H' { s with heap:=h',gens:=g',drawn:=d',toks:=t' }:=by
 obtain⟨m,⟨o,es,ep,ho,r⟩,_⟩:=id I.loc
 obtain⟨sl,hL⟩:=u.any ho I.free fun z=>(hch _ z).2.1 rfl
 exact I.step (ch:=ch) hch (fun b o hL hb hc e n=>u.keep b o e n (fun z=>(List.mem_cons.mp (I.jk b z)).elim hL hb) hc) (fun b o _ _ hc e n=>u.any e n hc) (fun b o hc e n=>u.free b o e n hc) (fun b o hc e=>u.there b o e hc) u.tups u.ji u.jS (fun m' hm=>by
  obtain⟨o',es',vI,ho',r'⟩:=hm
  rw[ho] at ho';cases ho'
  exact⟨_,es',vI,hL,r'⟩) hok hg
theorem Inv.turned {t':Nat}{it:Addr} (I:Inv X pins σ H s) (k:∀ b o,b≠it→s.heap.get? b=some o→h'.get? b=some o) (hn:H it=none) (hL:it≠X.env.locals)
  (h1:it∈X.ex∨X.s₀.heap.objs.size≤it) (h2:∀ x c,X.env.cells.lookup x=some c→c≠it) (h3:∀ p∈X.pn++pins,p.1≠it):Inv X pins σ H { s with heap:=h',toks:=t' }:=by
 have yz:∀ b u,H b=some u→b≠it:=fun b u e z=>by rw[z,hn] at e;cases e
 refine I.step (g':=s.gens) (d':=s.drawn) (ch:=[it]) (fun b hb=>?_) (fun b o _ _ hc e _=>k b o (fun z=>hc (by simp[z])) e) (fun b o _ _ hc e _=>⟨o.slots,k b o (fun z=>hc (by simp[z])) e⟩) (fun _ _ _ _ n=>n)
  (fun b o hc e=>⟨o,k b o (fun z=>hc (by simp[z])) e⟩) (fun _ _ e=>e) (fun _ _ _ e=>e) (fun b ps e=>⟨#[],by rw[e];simp⟩) (fun m hm=>?_) (fun b u e=>?_) I.bare
 ·have e:b=it:=by simpa using hb
  subst e
  exact⟨h1,hL,h2,h3⟩
 ·obtain⟨o,es,ep,ho,r⟩:=hm
  exact⟨o,es,ep,k _ o (Ne.symm hL) ho,r⟩
 ·refine(I.hok b u e).stay (fun c v hc q=>k c v ?_ q) (fun _ q=>q) fun _ _ q=>q
  rcases hc with z | z
  ·rw[z];exact yz b u e
  ·exact yz c _ z
theorem Inv.tok (I:Inv X pins σ H s) (t:Nat):Inv X pins σ H { s with toks:=t }:=I.un (h':=s.heap) (t':=t) Un.refl I.hok
theorem Inv.kept {t':Nat} (I:Inv X pins σ H s) (k:∀ b u,s.heap.get? b=some u→h'.get? b=some u):Inv X pins σ H { s with heap:=h',toks:=t' }:=I.un (Un.kept k) (I.hok.kept k)
theorem Inv.laid {a:Addr}{o:HO}{t':Nat} (I:Inv X pins σ H s) (k:∀ b u,s.heap.get? b=some u→h'.get? b=some u) (hp:s.heap.objs.size≤a) (new:bH X.prog X.w (upd H a o) h' a o) :
 Inv X pins σ (upd H a o) { s with heap:=h',toks:=t' }:=I.un (Un.laid k hp (I.hok.fresh hp)) (I.hok.laid k hp new)
theorem Inv.write {x e:Addr}{o:HO}{t':Nat} (I:Inv X pins σ H s) (mu:uO (H x)) (he:e=x∨H e=some (.own x)) (k:∀ b u,b≠e→s.heap.get? b=some u→h'.get? b=some u) (rR:∃ u,h'.get? e=some u)
 (new:bH X.prog X.w (upd H x o) h' x o):Inv X pins σ (upd H x o) { s with heap:=h',toks:=t' }:=I.un (Un.write mu he k rR) (I.hok.write mu he k rR new)
theorem Inv.lC {pU:List (Addr×Obj)} (I:Inv X pins σ H s) (h:∀ p∈pU,s.heap.get? p.1=some p.2∧H p.1=none∧p.1≠X.env.locals∧p.1∉X.fs∧∀ v,p.2.data≠.cell v):Inv X pU σ H s :=
 ⟨I.ok,I.os,I.bare,I.base,I.loc,I.cell,I.free,I.fm,fun p hp=>(List.mem_append.mp hp).elim (fun z=>I.pin p (List.mem_append_left _ z)) (h p),I.hok,I.len⟩
theorem jT {N:List Str} (hN:N.Nodup) {i j:Nat}{x:Str} (a:N[i]? = some x) (b:N[j]? = some x):i=j:=by
 obtain⟨h1,e1⟩:=List.getElem?_eq_some_iff.mp a
 obtain⟨h2,e2⟩:=List.getElem?_eq_some_iff.mp b
 exact(List.getElem_inj hN).mp (e1.trans e2.symm)
theorem lX {M:Model}{A:Around}{E:Value→Shared→Prop}{i:Nat}{x:Str}{v:V}{u:Value}{Q:Unit→Shared→Prop} (I:Inv X pins σ H s) (hN:X.N.Nodup) (hi:X.N[i]? = some x) (hx:Loc X.env.scope x) (r:RelV v u)
  (h:∀ s',Inv X pins (σ.set i (some v)) H s'→(∃ a,Heap.SameBut a s.heap s'.heap∧(a=X.env.locals∨X.env.cells.lookup x=some a))→Q () s') (hf:X.fn x=true∨X.env.scope.names.lookup x=some .local:=by first | exact .inl rfl | exact .inr rfl | assumption):wpAny M A (storeName X.env x u) Q E s:=by
 obtain⟨m,hn,hl⟩:=id I.loc
 have hcls:(X.env.scope.kind == .class || (X.env.scope.kind == .module && X.env.locals != X.env.globals))=false:=by rw[I.ok.kind];rfl
 have sj:i < σ.length:=by rw[I.len];exact(List.getElem?_eq_some_iff.mp hi).1
 have qs:=I.qs
 have tracked:∀{a:Addr}{h':Heap},(∃ o,s.heap.get? a=some o∧H a=none)→Heap.SameBut a s.heap h'→gi X.prog X.w H h':=fun {a h'} ha hs b ob e=>by
  obtain⟨_,_,hfree⟩:=ha
  refine(I.hok b ob e).stay (fun c w' hc q=>(hs.2 c ?_).trans q) (fun _ q=>q) fun _ _ q=>q
  rintro rfl
  rcases hc with rfl | hc
  ·rw[hfree] at e;cases e
  ·rw[hfree] at hc;cases hc
 rcases hx with hk | hk
 ·refine wpAny_storeName_local hk hn (fun h' hn' hs=>?_) hcls
  obtain⟨oL,_,_,Az,_⟩:=id hn
  refine h _ ⟨I.ok,I.os,I.bare,⟨fun b o e n hb hx=>?_,fun b o e n hb hx=>?_,I.base.free,fun b o e hx=>?_,I.base.tups,I.base.ji,I.base.jS⟩,⟨_,hn',fun j y v' e1 e2 e3=>?_⟩,fun y c e=>?_,I.free,I.fm,fun p hp=>?_,tracked ⟨oL,Az,I.free⟩ hs,by simpa using I.len⟩ ⟨_,hs,.inl rfl⟩
  ·exact(hs.2 b (Nat.ne_of_lt (Nat.lt_of_lt_of_le (Heap.lt_size e) I.ok.above))).trans (I.base.keep b o e n hb hx)
  ·obtain⟨sl,e1⟩:=I.base.slot b o e n hb hx
   exact⟨sl,(hs.2 b (Nat.ne_of_lt (Nat.lt_of_lt_of_le (Heap.lt_size e) I.ok.above))).trans e1⟩
  ·obtain⟨o',e1⟩:=I.base.there b o e hx
   exact⟨o',(hs.2 b (Nat.ne_of_lt (Nat.lt_of_lt_of_le (Heap.lt_size e) I.ok.above))).trans e1⟩
  ·by_cases hj:j=i
   ·subst hj
    rw[hi] at e1;cases e1
    rw[List.getElem?_set_self sj] at e2
    cases e2
    exact⟨u,r,.inl ⟨hk,by simp⟩⟩
   ·rw[List.getElem?_set_ne (Ne.symm hj)] at e2
    obtain⟨u',r',q⟩:=hl j y v' e1 e2 e3
    refine⟨u',r',?_⟩
    rcases q with ⟨k,e⟩ | ⟨k,c,e,z⟩
    ·refine .inl ⟨k,?_⟩
     have:y≠x:=fun e=>hj (jT hN e1 (e ▸ hi))
     simp[this,e]
    ·exact .inr ⟨k,c,e,z.sameBut hs (qs y c e)⟩
  ·obtain⟨w',z⟩:=I.cell y c e
   exact⟨w',z.sameBut hs (qs y c e)⟩
  ·obtain⟨e,n,ne,nf,d⟩:=I.pin p hp
   exact⟨(hs.2 p.1 ne).trans e,n,ne,nf,d⟩
 ·have hfn:X.fn x=true:=by
   rcases hf with z | z
   ·exact z
   ·rw[z] at hk;cases hk
  obtain⟨c,hc⟩:=I.ok.has x (.inl hk)
  obtain⟨w',z⟩:=I.cell x c hc
  refine wpAny_storeName_cell I.ok.kind hk hc z (fun h' hc' hs=>?_)
  obtain⟨oc,hoc,vJ⟩:=id z
  refine h { s with heap:=h' } ⟨I.ok,I.os,I.bare,⟨fun b o e n hb hx=>?_,fun b o e n hb hx=>?_,I.base.free,fun b o e hx=>?_,I.base.tups,I.base.ji,I.base.jS⟩,⟨m,hn.sameBut hs (Ne.symm (qs x c hc)),fun j y v' e1 e2 e3=>?_⟩,fun y c' e=>?_,I.free,I.fm,fun p hp=>?_,tracked ⟨oc,hoc,I.fm x c hc⟩ hs,by simpa using I.len⟩ ⟨c,hs,.inr hc⟩
  ·exact(hs.2 b (Nat.ne_of_lt (Nat.lt_of_lt_of_le (Heap.lt_size e) (I.ok.se x c hfn hc)))).trans (I.base.keep b o e n hb hx)
  ·obtain⟨sl,e1⟩:=I.base.slot b o e n hb hx
   exact⟨sl,(hs.2 b (Nat.ne_of_lt (Nat.lt_of_lt_of_le (Heap.lt_size e) (I.ok.se x c hfn hc)))).trans e1⟩
  ·obtain⟨o',e1⟩:=I.base.there b o e hx
   exact⟨o',(hs.2 b (Nat.ne_of_lt (Nat.lt_of_lt_of_le (Heap.lt_size e) (I.ok.se x c hfn hc)))).trans e1⟩
  ·by_cases hj:j=i
   ·subst hj
    rw[hi] at e1;cases e1
    rw[List.getElem?_set_self sj] at e2
    cases e2
    exact⟨u,r,.inr ⟨.inl hk,c,hc,hc'⟩⟩
   ·rw[List.getElem?_set_ne (Ne.symm hj)] at e2
    obtain⟨u',r',q⟩:=hl j y v' e1 e2 e3
    refine⟨u',r',?_⟩
    rcases q with q | ⟨k,c',e,z'⟩
    ·exact .inl q
    ·refine .inr ⟨k,c',e,z'.sameBut hs ?_⟩
     rintro rfl
     exact hj (jT hN e1 (I.ok.inj _ _ _ e hc ▸ hi))
  ·by_cases hcc:c'=c
   ·subst hcc;exact⟨_,hc'⟩
   ·obtain⟨w2,z2⟩:=I.cell y c' e
    exact⟨w2,z2.sameBut hs hcc⟩
  ·obtain⟨e,n,ne,nf,d⟩:=I.pin p hp
   refine⟨(hs.2 p.1 ?_).trans e,n,ne,nf,d⟩
   intro q
   rw[q,hoc] at e
   have q':oc=p.2:=Option.some.inj e
   exact d w' (by rw[←q'];exact vJ)
theorem jU {M:Model}{A:Around}{E:Value→Shared→Prop}{i:Nat}{x:Str}{v:V}{u:Value}{Q:Unit→Shared→Prop} (I:Inv X pins σ H s) (hN:X.N.Nodup) (hi:X.N[i]? = some x) (hx:Loc X.env.scope x) (r:RelV v u)
  (h:∀ s',Inv X pins (σ.set i (some v)) H s'→Q () s') (hf:X.fn x=true∨X.env.scope.names.lookup x=some .local:=by first | exact .inl rfl | exact .inr rfl | assumption):wpAny M A (storeName X.env x u) Q E s :=
 lX I hN hi hx r (fun s' I' _=>h s' I') hf
theorem Inv.sq {s':Shared}{ch:List Addr} (I:Inv X pins σ H s) (ho:s'.os=s.os) (u:Un (frs X.stack) ch H H' s.heap s'.heap) (hok:gi X.prog X.w H' s'.heap) (hg:AllBare s'.gens)
  (hch:∀ b∈ch,(b∈X.ex∨X.s₀.heap.objs.size≤b)∧b≠X.env.locals∧(∀ x c,X.env.cells.lookup x=some c→c≠b)∧∀ p∈X.pn++pins,p.1≠b):Inv X pins σ H' s':=by
 obtain⟨h',g',d',t',o'⟩:=s'
 have e:o'=s.os:=ho
 subst e
 exact I.call (g':=g') (t':=t') (d':=d') u hok hg hch
end
abbrev XK:=Value→Option Addr→Hp→Prop
abbrev St:=List (Option V)
abbrev VK:=V→Hp→Prop
abbrev TE:=St→Hp→VK→Prop
abbrev TT:=St→Hp→(Bool→Hp→Prop)→Prop
abbrev TA:=St→Hp→(List V→Hp→Prop)→Prop
structure Ends where
 nx:St→Hp→Prop
 rt:VK
 bk:St→Hp→Prop:=fun _ _=>False
 ct:St→Hp→Prop:=fun _ _=>False
abbrev TS:=Ends→St→Hp→Prop
def EP (X:Cx) (pins:List (Addr×Obj)) (σ:St) (Q:VK) (u:Value) (s':Shared):Prop:=∃ v H',Inv X pins σ H' s'∧RelV v u∧Q v H'
def TP (X:Cx) (pins:List (Addr×Obj)) (σ:St) (Q:Bool→Hp→Prop) (b:Bool) (s':Shared):Prop:=∃ H',Inv X pins σ H' s'∧Q b H'
def AP (X:Cx) (pins:List (Addr×Obj)) (σ:St) (Q:List V→Hp→Prop) (us:List Value) (s':Shared):Prop:=∃ vs H',Inv X pins σ H' s'∧Vals vs us∧Q vs H'
def SP (X:Cx) (pins:List (Addr×Obj)) (D:Ends) (f:Flow) (s':Shared):Prop :=
 match f with
 | .next=>∃ σ' H',Inv X pins σ' H' s'∧D.nx σ' H'
 | .brk=>∃ σ' H',Inv X pins σ' H' s'∧D.bk σ' H'
 | .cont=>∃ σ' H',Inv X pins σ' H' s'∧D.ct σ' H'
 | .ret u=>∃ v σ' H',Inv X pins σ' H' s'∧RelV v u∧D.rt v H'
def PE (X:Cx) (e:Expr) (t:TE):Prop :=
 ∀(pins:List (Addr×Obj)) (s:Shared) (σ:St) (H:Hp) (Q:VK),Inv X pins σ H s→t σ H Q→wpAny (model X.prog X.w) X.A (eval e X.env) (EP X pins σ Q) X.xe s
def PT (X:Cx) (e:Expr) (t:TT):Prop :=
 ∀(pins:List (Addr×Obj)) (s:Shared) (σ:St) (H:Hp) (Q:Bool→Hp→Prop),Inv X pins σ H s→t σ H Q→wpAny (model X.prog X.w) X.A (isTrue e X.env (eval e X.env)) (TP X pins σ Q) X.xe s
def PW (X:Cx) (e:Expr) (t:TT):Prop :=
 ∀(whole:Sem Value) (pins:List (Addr×Obj)) (s:Shared) (σ:St) (H:Hp) (Q:Bool→Hp→Prop),Inv X pins σ H s→t σ H Q→wpAny (model X.prog X.w) X.A (isTrue e X.env whole) (TP X pins σ Q) X.xe s
theorem PW.pt {X:Cx}{e:Expr}{t:TT} (h:PW X e t):PT X e t:=h _
def PA (X:Cx) (es:List Expr) (t:TA):Prop :=
 ∀(pos:Pos) (pins:List (Addr×Obj)) (s:Shared) (σ:St) (H:Hp) (Q:List V→Hp→Prop),Inv X pins σ H s→t σ H Q→wpAny (model X.prog X.w) X.A (spliced (backTo pos (starEach es X.env))) (AP X pins σ Q) X.xe s
def PS (X:Cx) (st:Stmt) (t:TS):Prop :=
 ∀(pins:List (Addr×Obj)) (s:Shared) (σ:St) (H:Hp) (D:Ends),Inv X pins σ H s→t D σ H→wpAny (model X.prog X.w) X.A (exec st X.env) (SP X pins D) X.xe s
def mV (X:Cx) (st:List Stmt) (t:TS):Prop :=
 ∀(pins:List (Addr×Obj)) (s:Shared) (σ:St) (H:Hp) (D:Ends),Inv X pins σ H s→t D σ H→wpAny (model X.prog X.w) X.A (execs st X.env) (SP X pins D) X.xe s
theorem cH {α:Type}{t:Sem α}{Q Q':α→Shared→Prop}{M:Model}{A:Around}{E:Value→Shared→Prop}{s:Shared} (h:wpAny M A t Q E s) (hQ:∀ a s,Q a s→Q' a s):wpAny M A t Q' E s:=wpAny_mono h hQ fun _ _ x=>x
section
variable {X:Cx}
def m5 (i:Nat):TE:=fun σ H Q=>∃ v,σ[i]? = some (some v)∧Q v H
def tC (v:V):TE:=fun _ H Q=>Q v H
theorem qt {i:Nat}{x:Str}{pos:Pos} (hN:X.N[i]? = some x) (hv:vF X.env.scope x) (hd:(x == ("__debug__" : Str))=false:=by decide) (hcd:(x == ("__classdict__" : Str))=false:=by decide):PE X (.Name x pos) (m5 i):=by
 intro pins s σ H Q I h
 obtain⟨v,e,h⟩:=h
 obtain⟨m,hn,hl⟩:=I.loc
 obtain⟨u,r,l⟩:=hl i x v hN e hv
 have fin:EP X pins σ Q u s:=⟨v,H,I,r,h⟩
 rcases l with ⟨hk,hm⟩ | ⟨hk,c,hc,hcell⟩
 ·exact wpAny_Name (wpAny_loadName_local I.ok.kind hk hn hm fin) hd
 ·rcases hk with hk | hk
  ·exact wpAny_Name (wpAny_loadName_cell I.ok.kind hk hc hcell fin) hd
  ·exact wpAny_Name (wpAny_loadName_free I.ok.kind hk hc hcell fin hcd) hd
theorem aj {i j pos}:PE X (.Constant (.int i) j pos) (tC (.int i)):=fun _ _ _ H _ I h=>wpAny_Constant_int ⟨.int i,H,I.tok _,⟨_,rfl⟩,h⟩
theorem cP {b j pos}:PE X (.Constant (.bool b) j pos) (tC (.bl b)):=fun _ _ _ H _ I h=>Constant_bool ⟨.bl b,H,I,rfl,h⟩
theorem gW {j pos}:PE X (.Constant .none j pos) (tC .non):=fun _ _ _ H _ I h=>Constant_none ⟨.non,H,I,rfl,h⟩
theorem bx {x j pos}:PE X (.Constant (.str x) j pos) (tC (.str x)):=fun _ _ _ H _ I h=>Calls.Constant_str ⟨.str x,H,I.tok _,⟨_,rfl⟩,h⟩
def Gl (X:Cx) (x:Str):Prop:=X.env.kindOf x=some .globalImplicit
theorem jl {E:Value→Shared→Prop}{pins:List (Addr×Obj)}{s:Shared}{σ:St}{H:Hp}{x:Str}{u:Value}{pos:Pos}{Q:Value→Shared→Prop} (I:Inv X pins σ H s) (hg:Gl X x) (hm:X.mg x=some u) (h:Q u s)
  (hd:(x == ("__debug__" : Str))=false:=by decide):wpAny (model X.prog X.w) X.A (eval (.Name x pos) X.env) Q E s :=
 Calls.Name_function_global I.ok.kind hg (Calls.loadGlobal_global (by rw[I.ok.glob];exact I.mod.glob.keeps I.bk) hm h) hd
theorem gj {E:Value→Shared→Prop}{pins:List (Addr×Obj)}{s:Shared}{σ:St}{H:Hp}{x:Str}{u:Value}{pos:Pos}{Q:Value→Shared→Prop} (I:Inv X pins σ H s) (hg:Gl X x) (hm:X.mg x=none) (hv:bootBuiltins x=some u) (h:Q u s)
  (hn:x ≠ "__name__" := by decide) (hd:(x == ("__debug__" : Str))=false:=by decide):wpAny (model X.prog X.w) X.A (eval (.Name x pos) X.env) Q E s:=by
 obtain⟨mb,h1,h2⟩:=I.mod.blt
 exact Calls.Name_function_global I.ok.kind hg (Calls.loadGlobal_builtin (by rw[I.ok.glob];exact I.mod.glob.keeps I.bk) hm (by rw[I.ok.blt];exact h1.keeps I.bk) ((h2 x hn).trans hv) h) hd
theorem lD {x:Str}{v:V}{u:Value}{pos:Pos} (hg:Gl X x) (hm:X.mg x=some u) (r:RelV v u) (hd:(x == ("__debug__" : Str))=false:=by decide):PE X (.Name x pos) (tC v) :=
 fun _ _ _ H _ I h=>jl I hg hm ⟨v,H,I,r,h⟩ hd
theorem oB {x:Str}{v:V}{u:Value}{pos:Pos} (hg:Gl X x) (hm:X.mg x=none) (hv:bootBuiltins x=some u) (r:RelV v u) (hn:x ≠ "__name__" := by decide) (hd:(x == ("__debug__" : Str))=false:=by decide):PE X (.Name x pos) (tC v) :=
 fun _ _ _ H _ I h=>gj I hg hm hv ⟨v,H,I,r,h⟩ hn hd
variable {a b:Expr}{ta tb:TE}{pos:Pos}
def tB (t:TE):TT:=fun σ H Q=>t σ H fun x H1=>∃ c,x=.bl c∧Q c H1
theorem dP {e:Expr}{t:TE} (h:PE X e t) (he:∀ whole,isTrue e X.env whole=(do let v ←whole;standAt e.pos;holding [v] (truthy v)):=by intro _;rfl):PT X e (tB t):=by
 intro pins s σ H Q I hw
 refine isTrue_plain (cH (h pins s σ H _ I hw) fun v s1 ⟨x,H1,I1,r1,q1⟩=>?_) (he _)
 obtain⟨d,rfl,q⟩:=q1
 cases r1
 exact wpAny_truthy_bool ⟨H1,I1,q⟩
variable {tA uR:TT}{rest:List Expr}
def vK (t u:TT):TT:=fun σ H Q=>t σ H fun c H1=>if c=true then u σ H1 Q else Q false H1
def AA (t u:TT):TT:=fun σ H Q=>t σ H fun c H1=>if c=true then Q true H1 else u σ H1 Q
def vL (t:TT):TT:=fun σ H Q=>t σ H fun c H1=>Q (!c) H1
theorem gP (ha:PT X a tA):PW X (.BoolOp .And [a] pos) tA:=by
 intro wh pins s σ H Q I h
 refine isTrue_and (cH (ha pins s σ H Q I h) fun c s1 e=>?_)
 cases c with
 | true=>exact isTrue_and_nil e
 | false=>exact e
theorem gk (ha:PT X a tA):PW X (.BoolOp .Or [a] pos) tA:=by
 intro wh pins s σ H Q I h
 refine isTrue_or (cH (ha pins s σ H Q I h) fun c s1 e=>?_)
 cases c with
 | false=>exact isTrue_or_nil e
 | true=>exact e
theorem gm (ha:PT X a tA) (hb:PW X (.BoolOp .And (b :: rest) pos) uR):PW X (.BoolOp .And (a :: b :: rest) pos) (vK tA uR):=by
 intro wh pins s σ H Q I h
 refine isTrue_and (cH (ha pins s σ H _ I h) fun c s1 ⟨H1,I1,q1⟩=>?_)
 cases c with
 | true=>exact hb wh pins s1 σ H1 Q I1 q1
 | false=>exact⟨H1,I1,q1⟩
theorem gA (ha:PT X a tA) (hb:PW X (.BoolOp .Or (b :: rest) pos) uR):PW X (.BoolOp .Or (a :: b :: rest) pos) (AA tA uR):=by
 intro wh pins s σ H Q I h
 refine isTrue_or (cH (ha pins s σ H _ I h) fun c s1 ⟨H1,I1,q1⟩=>?_)
 cases c with
 | true=>exact⟨H1,I1,q1⟩
 | false=>exact hb wh pins s1 σ H1 Q I1 q1
theorem gX (ha:PT X a tA):PT X (.UnaryOp .Not a pos) (vL tA):=by
 intro pins s σ H Q I h
 exact isTrue_not (ha pins s σ H (fun c H1=>Q (!c) H1) I h)
def sr (ta tb:TE):TE:=fun σ H Q=>ta σ H fun x H1=>∃ c,x=.bl c∧if c=true then tb σ H1 Q else Q (.bl false) H1
def vM (ta tb:TE):TE:=fun σ H Q=>ta σ H fun x H1=>∃ c,x=.bl c∧if c=true then Q (.bl true) H1 else tb σ H1 Q
theorem m6 {op}{t:TE} (h:PE X a t):PE X (.BoolOp op [a] pos) t:=fun pins s σ H Q I hw=>BoolOp_one (h pins s σ H Q I hw)
theorem m7 (ha:PE X a ta) (hb:PE X (.BoolOp .And (b :: rest) pos) tb):PE X (.BoolOp .And (a :: b :: rest) pos) (sr ta tb):=by
 intro pins s σ H Q I h
 refine BoolOp_and (cH (ha pins s σ H _ I h) fun v s1 ⟨x,H1,I1,r1,q1⟩=>?_)
 obtain⟨c,rfl,q1⟩:=q1
 cases r1
 refine wpAny_truthy_bool ?_
 cases c with
 | true=>exact hb pins s1 σ H1 Q I1 q1
 | false=>exact⟨.bl false,H1,I1,rfl,q1⟩
theorem su (ha:PE X a ta) (hb:PE X (.BoolOp .Or (b :: rest) pos) tb):PE X (.BoolOp .Or (a :: b :: rest) pos) (vM ta tb):=by
 intro pins s σ H Q I h
 refine BoolOp_or (cH (ha pins s σ H _ I h) fun v s1 ⟨x,H1,I1,r1,q1⟩=>?_)
 obtain⟨c,rfl,q1⟩:=q1
 cases r1
 refine wpAny_truthy_bool ?_
 cases c with
 | false=>exact hb pins s1 σ H1 Q I1 q1
 | true=>exact⟨.bl true,H1,I1,rfl,q1⟩
end
def aD (K:W.Frag) (H:Hp) (a:Addr) (xs:List V):Prop :=
 Rd H a (.lst xs) ∨
  ∃(o:Obj) (its:Array Value) (n:Nat),K.lookup a=some o∧o.cls=.type "list"∧o.dict=none∧o.data=.seq its n∧its.size≤sizeLine∧Vals xs its.toList
def jV (K:W.Frag) (H:Hp) (a:Addr) (xs:List V):Prop :=
 Rd H a (.tup xs) ∨
  ∃(o:Obj) (its:Array Value) (n:Nat),K.lookup a=some o∧o.cls=.type "tuple"∧o.data=.seq its n∧its.size≤sizeLine∧Vals xs its.toList
def vN:Value→Option V
 | .none=>some .non
 | .bool b=>some (.bl b)
 | .int i _=>some (.int i)
 | .str x _=>some (.str x)
 | .bytes b _=>some (.mX b)
 | .float b _=>some (.rQ b)
 | .ref a=>some (.ref a)
 | .type n=>some (.ty n)
 | _=>none
theorem RelV.abs {x:V}{u:Value} (r:RelV x u):vN u=some x:=by
 cases x with
 | non=>cases r;rfl
 | bl _=>cases r;rfl
 | int _=>obtain⟨t,rfl⟩:=r;rfl
 | str _=>obtain⟨t,rfl⟩:=r;rfl
 | mX _=>obtain⟨t,rfl⟩:=r;rfl
 | rQ _=>obtain⟨t,rfl⟩:=r;rfl
 | ref _=>cases r;rfl
 | ty _=>cases r;rfl
theorem RelV.inj {x y:V}{u:Value} (r:RelV x u) (q:RelV y u):x=y:=Option.some.inj (r.abs.symm.trans q.abs)
theorem Vals.inj:∀{xs ys:List V}{us:List Value},Vals xs us→Vals ys us→xs=ys
 | _,_,_,.nil,.nil=>rfl
 | _,_,_,.cons r t,.cons r' t'=>by rw[r.inj r',Vals.inj t t']
section
variable {X:Cx}{pins:List (Addr×Obj)}{σ:St}{H:Hp}{s:Shared}{a:Addr}{xs ys:List V}
theorem aD.of {K:W.Frag} (h:H a=some (.lst xs)):aD K H a xs:=.inl (.inl h)
theorem jV.of {K:W.Frag} (h:H a=some (.tup xs)):jV K H a xs:=.inl (.inl h)
theorem Inv.list (I:Inv X pins σ H s) (h:aD X.K H a xs):∃ its:List Value,Vals xs its∧PlainL s.heap a its.toArray∧xs.length≤sizeLine:=by
 rcases h with h | ⟨o,its,n,hk,hc,hd,hs,hz,r⟩
 ·obtain⟨z,its,n,r,e⟩:=h.ok I.hok
  exact⟨its,r,⟨_,n,e,rfl,rfl,rfl⟩,z⟩
 ·refine⟨its.toList,r,⟨o,n,I.jQ a o hk,hc,hd,by simpa using hs⟩,?_⟩
  have e:=r.length
  simp only[Array.length_toList] at e
  omega
theorem Inv.tuple (I:Inv X pins σ H s) (h:jV X.K H a xs):∃ its:List Value,Vals xs its∧IsTup s.heap a its.toArray∧xs.length≤sizeLine:=by
 rcases h with h | ⟨o,its,n,hk,hc,hs,hz,r⟩
 ·obtain⟨z,its,r,p⟩:=h.ok I.hok
  exact⟨its,r,p,z⟩
 ·refine⟨its.toList,r,⟨o,I.jQ a o hk,hc,n,by simpa using hs⟩,?_⟩
  have e:=r.length
  simp only[Array.length_toList] at e
  omega
theorem Inv.m8 (I:Inv X pins σ H s) (h:aD X.K H a xs) (h':aD X.K H a ys):xs=ys:=by
 obtain⟨its,r,⟨o,n,e,_,_,d⟩,_⟩:=I.list h
 obtain⟨its',r',⟨o',n',e',_,_,d'⟩,_⟩:=I.list h'
 rw[e] at e';cases e'
 rw[d] at d'
 injection d' with d1 _
 have:its=its':=by simpa using congrArg Array.toList d1
 subst this
 exact r.inj r'
end
abbrev Cx.iF (X:Cx) (E:Value→Shared→Prop):Cx:={ X with xe:=E }
abbrev Cx.uS (X:Cx):Cx:=X.iF fun _ _=>False
theorem Cx.Ok.iF {X:Cx} (ok:X.Ok) (E:Value→Shared→Prop):(X.iF E).Ok :=
 ⟨ok.mod,ok.kind,ok.glob,ok.blt,ok.above,ok.inj,ok.has,ok.se,ok.hd,ok.frames,ok.stk,ok.yx,ok.bs,ok.pT,ok.mZ,ok.oA,ok.gU,ok.rS⟩
theorem Cx.Ok.eG {X:Cx}{E:Value→Shared→Prop} (ok:(X.iF E).Ok):X.Ok :=
 ⟨ok.mod,ok.kind,ok.glob,ok.blt,ok.above,ok.inj,ok.has,ok.se,ok.hd,ok.frames,ok.stk,ok.yx,ok.bs,ok.pT,ok.mZ,ok.oA,ok.gU,ok.rS⟩
section
variable {X:Cx}{pins:List (Addr×Obj)}{σ:St}{H:Hp}{s:Shared}{E:Value→Shared→Prop}
theorem Inv.iF (I:Inv X pins σ H s) (E:Value→Shared→Prop):Inv (X.iF E) pins σ H s:=⟨I.ok.iF E,I.os,I.bare,I.base,I.loc,I.cell,I.free,I.fm,I.pin,I.hok,I.len⟩
theorem Inv.eG (I:Inv (X.iF E) pins σ H s):Inv X pins σ H s:=⟨I.ok.eG,I.os,I.bare,I.base,I.loc,I.cell,I.free,I.fm,I.pin,I.hok,I.len⟩
theorem SP.eG {D:Ends}{f:Flow}{s':Shared} (h:SP (X.iF E) pins D f s'):SP X pins D f s':=by
 cases f with
 | next=>obtain⟨σ',H',I,q⟩:=h;exact⟨σ',H',I.eG,q⟩
 | brk=>obtain⟨σ',H',I,q⟩:=h;exact⟨σ',H',I.eG,q⟩
 | cont=>obtain⟨σ',H',I,q⟩:=h;exact⟨σ',H',I.eG,q⟩
 | ret u=>obtain⟨v,σ',H',I,r,q⟩:=h;exact⟨v,σ',H',I.eG,r,q⟩
theorem mV.uS {st:List Stmt}{t:TS} (h:mV X.uS st t):mV X st t:=fun pins s σ H D I hw =>
 wpAny_mono (h pins s σ H D (I.iF _) hw) (fun _ _ q=>q.eG) fun _ _ z=>False.elim z
end
section
variable {X:Cx}{st:Stmt}{rest:List Stmt}{t u:TS}{e:Expr}{te:TE}{pos:Pos}
def pV:TS:=fun D σ H=>D.nx σ H
def sy (t u:TS):TS:=fun D σ H=>t { D with nx:=u D } σ H
theorem aT:mV X [] pV:=fun _ _ σ H _ I h=>wpAny_execs_nil ⟨σ,H,I,h⟩
theorem ao (h1:PS X st t) (h2:mV X rest u):mV X (st :: rest) (sy t u):=by
 intro pins s σ H D I h
 refine wpAny_execs_cons (cH (h1 pins s σ H { D with nx:=u D } I h) fun f s1 q=>?_)
 cases f with
 | next =>
  obtain⟨σ',H',I',q⟩:=q
  exact h2 pins s1 σ' H' D I' q
 | ret v=>exact q
 | brk=>exact q
 | cont=>exact q
theorem az (h1:PS X st t):mV X [st] t:=by
 intro pins s σ H D I h
 refine wpAny_execs_cons (cH (h1 pins s σ H D I h) fun f s1 q=>?_)
 cases f with
 | next=>exact wpAny_execs_nil q
 | ret v=>exact q
 | brk=>exact q
 | cont=>exact q
theorem Inv.quiet {pins:List (Addr×Obj)}{σ:St}{H:Hp}{s:Shared} (I:Inv X pins σ H s):interactive X.env=false:=by simp[interactive,I.ok.kind]
def sA (te:TE):TS:=fun D σ H=>te σ H fun _ H1=>D.nx σ H1
theorem jm (he:PE X e te) (hs:swapsWith e none pos.line X.env=pure false:=by rfl):PS X (.Expr e pos) (sA te):=by
 intro pins s σ H D I h
 exact wpAny_Expr_any (cH (he pins s σ H _ I h) fun v s1 ⟨x,H1,I1,r1,q1⟩=>⟨σ,H1,I1,q1⟩) I.quiet hs
def sC (te:TE):TS:=fun D σ H=>te σ H D.rt
theorem aC (he:PE X e te):PS X (.Return (some e) pos) (sC te):=by
 intro pins s σ H D I h
 exact wpAny_Return_some (cH (he pins s σ H _ I h) fun v s1 ⟨x,H1,I1,r1,q1⟩=>⟨x,σ,H1,I1,r1,q1⟩)
def oE (c:TT) (t u:TS):TS:=fun D σ H=>c σ H fun b H1=>if b=true then t D σ H1 else u D σ H1
theorem ck {c:Expr}{a b:List Stmt}{tc:TT} (hc:PT X c tc) (ha:mV X a t) (hb:mV X b u):PS X (.If c a b pos) (oE tc t u):=by
 intro pins s σ H D I h
 refine wpAny_If (cH (hc pins s σ H _ I h) fun d s1 ⟨H1,I1,q1⟩=>?_)
 cases d with
 | true=>exact ha pins s1 σ H1 D I1 q1
 | false=>exact hb pins s1 σ H1 D I1 q1
end
abbrev TG:=V→St→Hp→(St→Hp→Prop)→Prop
abbrev pW:=List V→St→Hp→(St→Hp→Prop)→Prop
def PG (X:Cx) (target:Expr) (t:TG):Prop :=
 ∀(pins:List (Addr×Obj)) (s:Shared) (σ:St) (H:Hp) (v:V) (u:Value) (Q:St→Hp→Prop),Inv X pins σ H s→RelV v u→t v σ H Q →
  wpAny (model X.prog X.w) X.A (assign target X.env u) (fun _ s'=>∃ σ' H',Inv X pins σ' H' s'∧Q σ' H') X.xe s
def sD (X:Cx) (ts:List Expr) (t:pW):Prop :=
 ∀(pins:List (Addr×Obj)) (s:Shared) (σ:St) (H:Hp) (vs:List V) (us:List Value) (Q:St→Hp→Prop),Inv X pins σ H s→Vals vs us→t vs σ H Q →
  wpAny (model X.prog X.w) X.A (assignInOrder ((assignEach ts X.env).map (·.2)) us) (fun _ s'=>∃ σ' H',Inv X pins σ' H' s'∧Q σ' H') X.xe s
abbrev qu:=V→V→V→Hp→(Hp→Prop)→Prop
def sE (X:Cx) (t:qu):Prop :=
 ∀(pins:List (Addr×Obj)) (s:Shared) (σ:St) (H:Hp) (o i v:V) (ov iv u:Value) (Q:Hp→Prop),Inv X pins σ H s→RelV o ov→RelV i iv→RelV v u→t o i v H Q →
  wpAny (model X.prog X.w) X.A (setItem ov iv u) (fun _ s'=>∃ H',Inv X pins σ H' s'∧Q H') X.xe s
section
variable {X:Cx}{pos:Pos}
def bP (i:Nat):TG:=fun v σ H Q=>Q (σ.set i (some v)) H
theorem oF {i:Nat}{x:Str} (hN:X.N.Nodup) (hi:X.N[i]? = some x) (hx:Loc X.env.scope x) (hf:X.fn x=true∨X.env.scope.names.lookup x=some .local:=by first | exact .inl rfl | exact .inr rfl | assumption):PG X (.Name x pos) (bP i):=by
 intro pins s σ H v u Q I r h
 exact wpAny_assign_Name (jU I hN hi hx r (fun s' I'=>⟨_,H,I',h⟩) hf)
def vO:pW:=fun vs σ H Q=>vs=[]∧Q σ H
def sF (t:TG) (u:pW):pW:=fun vs σ H Q=>∃ v r,vs=v :: r∧t v σ H fun σ' H'=>u r σ' H' Q
theorem oG:sD X [] vO:=by
 intro pins s σ H vs us Q I r h
 obtain⟨e,h⟩:=h
 subst e
 cases r
 exact assignInOrder_nil ⟨σ,H,I,h⟩
theorem jW {e:Expr}{es:List Expr}{t:TG}{u:pW} (h1:PG X e t) (h2:sD X es u)
  (hs:(assignEach (e :: es) X.env).map (·.2)=assign e X.env :: (assignEach es X.env).map (·.2):=by rfl):sD X (e :: es) (sF t u):=by
 intro pins s σ H vs us Q I r h
 obtain⟨v,vr,e1,h⟩:=h
 subst e1
 cases r with
 | cons r rr =>
  rw[hs]
  refine assignInOrder_cons (cH (h1 pins s σ H _ _ _ I r h) fun _ s1 ⟨σ1,H1,I1,q1⟩=>?_)
  exact h2 pins s1 σ1 H1 _ _ Q I1 rr q1
def sI (K:W.Frag) (n:Nat) (t:pW):TG:=fun v σ H Q=>∃ a xs,v=.ref a∧jV K H a xs∧xs.length=n∧t xs σ H Q
theorem qv {es:List Expr}{k:Nat}{t:pW}{n:Nat} (hc:X.calm=true) (h:sD X es t)
  (hn:(assignEach es X.env).length=n:=by rfl) (hst:(assignEach es X.env).findIdx? (·.1)=none:=by rfl):PG X (.Tuple es k pos) (sI X.K n t):=by
 intro pins s σ H v u Q I r hw
 obtain⟨a,xs,e1,hq,hl,hw⟩:=hw
 subst e1
 cases r
 obtain⟨its,rv,ht,hz⟩:=I.tuple hq
 refine assign_Tuple_tuple (I.ok.hd hc) ht (by simp[hn,←hl,rv.length]) hst fun h' hx=>?_
 have I1:Inv X pins σ H { s with heap:=h' }:=I.kept (t':=s.toks) fun b o e=>hx b o (Nat.ne_of_lt (Heap.lt_size e)) e
 exact h pins _ σ H xs _ Q I1 (by simpa using rv) hw
def vP (to ti:TE) (t:qu):TG:=fun v σ H Q=>to σ H fun o H1=>ti σ H1 fun i H2=>t o i v H2 fun H3=>Q σ H3
theorem ku {o i:Expr}{to ti:TE}{t:qu} (ho:PE X o to) (hi:PE X i ti) (hs:sE X t)
  (ha:∀ v,assign (.Subscript o i pos) X.env v=(do
   let ov ←holding [v] (eval o X.env)
   let iv ←holding [v,ov] (eval i X.env)
   standAt pos
   holding [v,ov,iv] (setItem ov iv v)
   release [v,ov,iv] []):=by intro _;rfl):PG X (.Subscript o i pos) (vP to ti t):=by
 intro pins s σ H v u Q I r h
 rw[ha]
 refine wpAny_bind (wpAny_holding (cH (ho pins s σ H _ I h) fun ov s1 ⟨x,H1,I1,r1,q1⟩=>?_))
 refine wpAny_bind (wpAny_holding (cH (hi pins s1 σ H1 _ I1 q1) fun iv s2 ⟨y,H2,I2,r2,q2⟩=>?_))
 refine wpAny_bind (wpAny_standAt (wpAny_bind (wpAny_holding (cH (hs pins s2 σ H2 x y v ov iv u _ I2 r1 r2 r q2) fun _ s3 ⟨H3,I3,q3⟩=>?_))))
 exact wpAny_release ⟨σ,H3,I3,q3⟩
def qw (te:TE) (g:TG):TS:=fun D σ H=>te σ H fun x H1=>g x σ H1 D.nx
theorem kB {tg e:Expr}{te:TE}{g:TG} (he:PE X e te) (hg:PG X tg g) (hs:swapsWithSole [tg] e pos.line X.env=pure false:=by rfl) (hw:swappedStores [tg] e X.env=pure none:=by rfl)
  (h1:(assignEach [tg] X.env).map (·.2)=[assign tg X.env]:=by rfl):PS X (.Assign [tg] e pos) (qw te g):=by
 intro pins s σ H D I h
 refine wpAny_Assign_stores (cH (he pins s σ H _ I h) fun v s1 ⟨x,H1,I1,r1,q1⟩=>?_) hs hw
 rw[h1]
 exact cH (hg pins s1 σ H1 x v _ I1 r1 q1) fun _ s2 q=>q
theorem kC {i:Nat}{x:Str}{e:Expr}{te:TE}{pos':Pos} (hN:X.N.Nodup) (hi:X.N[i]? = some x) (hx:Loc X.env.scope x) (he:PE X e te) (hs:swapsWith e (some (.Name x pos')) pos.line X.env=pure false:=by rfl) (hf:X.fn x=true∨X.env.scope.names.lookup x=some .local:=by first | exact .inl rfl | exact .inr rfl | assumption) :
  PS X (.Assign [.Name x pos'] e pos) (qw te (bP i)):=by
 intro pins s σ H D I h
 refine wpAny_Assign_Name (cH (he pins s σ H _ I h) fun v s1 ⟨y,H1,I1,r1,q1⟩=>?_) hs
 exact jU I1 hN hi hx r1 (fun s2 I2=>⟨_,H1,I2,q1⟩) hf
end
section
variable {X:Cx}{pos:Pos}
end
structure It where
 go:Nat→Hp→Prop
 sL:Nat→Hp→V→Hp→Prop
 stop:Nat→Hp→Prop
def gF (X:Cx) (pins:List (Addr×Obj)) (H:Hp) (b:Addr):Prop :=
 H b=none∧b≠X.env.locals∧b∉X.fs∧(b∈X.ex∨X.s₀.heap.objs.size≤b)∧(∀ x c,X.env.cells.lookup x=some c→c≠b)∧∀ p∈X.pn++pins,p.1≠b
theorem Inv.jX {X:Cx}{pins:List (Addr×Obj)}{σ:St}{H H':Hp}{s:Shared}{b:Addr} (I:Inv X pins σ H s) (hb:s.heap.objs.size≤b) (hn:H' b=none):gF X pins H' b:=by
 refine⟨hn,Nat.ne_of_gt (Nat.lt_of_lt_of_le I.lt hb),I.vH hb,.inr (Nat.le_trans I.sz hb),fun x c e z=>?_,fun p hp z=>?_⟩
 ·obtain⟨v,q⟩:=I.cell x c e
  exact absurd (Nat.lt_of_lt_of_le q.lt (by rw[z];exact hb)) (Nat.lt_irrefl _)
 ·exact absurd (Nat.lt_of_lt_of_le (Heap.lt_size (I.pin p hp).1) (by rw[z];exact hb)) (Nat.lt_irrefl _)
structure Turn (P:Program) (w:World) (K:W.Frag) (tg:Expr) (J:It) (fp:List Addr) (it:Addr) (tn:Nat→Heap→Prop):Prop where
 mem:it∈fp
 obj:∀ i h,tn i h→∀ b∈fp,∃ o,h.get? b=some o∧∀ v,o.data≠.cell v
 keep:∀ i h h',tn i h→(∀ b∈fp,∀ o,h.get? b=some o→h'.get? b=some o)→tn i h'
 item:∀(X:Cx),X.prog=P→X.w=w→X.K=K→X.calm=true→∀(i:Nat) (pins:List (Addr×Obj)) (s:Shared) (σ:St) (H:Hp) (E:Value→Shared→Prop),Inv X pins σ H s→(∀ b∈fp,gF X pins H b)→tn i s.heap→J.go i H →
  wpAny (model P w) X.A (pyNext (.ref it)) (fun r s1=>∃ u,r=some u ∧
   wpAny (model P w) X.A (letOwnedTupleGo tg (.ref it) u) (fun _ s2=>∃ x H',Inv X pins σ H' s2∧RelV x u∧J.sL i H x H'∧tn (i+1) s2.heap∧∀ b∈fp,H' b=none) E s1) E s
 done:∀(X:Cx),X.prog=P→X.w=w→X.K=K→X.calm=true→∀(i:Nat) (pins:List (Addr×Obj)) (s:Shared) (σ:St) (H:Hp) (E:Value→Shared→Prop),Inv X pins σ H s→(∀ b∈fp,gF X pins H b)→tn i s.heap→J.stop i H →
  wpAny (model P w) X.A (pyNext (.ref it)) (fun r s1=>r=none∧Inv X pins σ H s1) E s
 self:∀(A:Around) (i:Nat) (s:Shared) (Q:Value→Shared→Prop) (E:Value→Shared→Prop),tn i s.heap→Q (.ref it) s→wpAny (model P w) A (pyIter (.ref it)) Q E s
abbrev TI:=St→Hp→(It→Hp→Prop)→Prop
def yC (X:Cx) (pins:List (Addr×Obj)) (σ:St) (tg:Expr) (R:It→Hp→Prop) (itv:Value) (s2:Shared):Prop :=
 ∃(it:Addr) (fp:List Addr) (tn:Nat→Heap→Prop) (J:It) (H':Hp),itv=.ref it∧Inv X pins σ H' s2∧Turn X.prog X.w X.K tg J fp it tn∧tn 0 s2.heap∧(∀ b∈fp,gF X pins H' b)∧R J H'
def PI (X:Cx) (tg iter:Expr) (wi:TI):Prop :=
 ∀(pins:List (Addr×Obj)) (s:Shared) (σ:St) (H:Hp) (R:It→Hp→Prop),Inv X pins σ H s→wi σ H R →
  wpAny (model X.prog X.w) X.A (eval iter X.env) (fun v s1=>wpAny (model X.prog X.w) X.A (pyIter v) (yC X pins σ tg R) X.xe s1) X.xe s
theorem lE {M:Model}{A:Around}{E:Value→Shared→Prop}{s:Shared}{tg:Expr}{it:Addr}{u:Value}{o:Obj}{n:String}{vs:Array Value}{Q:Unit→Shared→Prop} (ho:s.heap.get? it=some o) (hc:o.cls=.type n) (hd:o.data=.fields vs)
   (hn:["enumerate", "zip", "dict_itemiterator", "dict_reverseitemiterator", "odict_iterator", "itertools.zip_longest", "itertools.pairwise"].contains n=false) (hQ:Q () s):wpAny M A (letOwnedTupleGo tg (.ref it) u) Q E s:=by
 unfold letOwnedTupleGo
 cases tg <;> first
   | exact wpAny_pure hQ
   | (cases u <;> first
       | exact wpAny_pure hQ
       | (refine wpAny_bind (wpAny_load ho ?_)
          rw[hc,hd]
          show wpAny M A (if (["enumerate", "zip", "dict_itemiterator", "dict_reverseitemiterator", "odict_iterator", "itertools.zip_longest", "itertools.pairwise"].contains n && vs[0]? == some (rawInt _))=true then _ else _) Q E s
          rw[if_neg (by intro h;rw[hn,Bool.false_and] at h;cases h)]
          exact wpAny_pure hQ))
def rT (K:W.Frag) (a:Addr):It :=
 ⟨fun i H=>∃ xs x,aD K H a xs∧xs[i]? = some x,fun i H x H'=>H'=H∧∀ xs,aD K H a xs→xs[i]? = some x,fun i H=>∃ xs,aD K H a xs∧xs.length≤i⟩
def pX (lo:Int) (n:Nat):It:=⟨fun i _=>i < n,fun i H x H'=>H'=H∧x=.int (lo+i),fun i _=>n≤i⟩
theorem lY {P:Program}{w:World}{K:W.Frag}{tg:Expr} (a it:Addr):Turn P w K tg (rT K a) [it] it (fun i h=>h.IsListIter it a i) where
 mem:=by simp
 obj:=fun i h st b hb=>by
  have e:b=it:=by simpa using hb
  subst e
  obtain⟨o,e,c,d⟩:=st
  exact⟨o,e,fun v z=>by rw[d] at z;cases z⟩
 keep:=fun i h h' st k=>st.at fun o e=>k it (by simp) o e
 item:=by
  intro X hP hw hK hc i pins s σ H E I hf st hg
  subst hP hw hK
  obtain⟨xs,x,hq,hx⟩:=hg
  obtain⟨its,rv,p,hz⟩:=I.list hq
  obtain⟨u,hu,ru⟩:=rv.get hx
  obtain⟨f0,f1,f2,f3,f4,f5⟩:=hf it (by simp)
  refine wpAny_pyNext_list_item st p.isList (x:=u) (by simpa using hu) fun h' st' sb=>?_
  have I1:Inv X pins σ H { s with heap:=h' }:=I.turned (t':=s.toks) (fun b o hb e=>(sb.2 b hb).trans e) f0 f1 f3 f4 f5
  obtain⟨o,e,c,d⟩:=id st'
  exact⟨u,rfl,lE (s:={ s with heap:=h' }) e c d (by decide) ⟨x,H,I1,ru,⟨rfl,fun ys hy=>by rw[I.m8 hy hq];exact hx⟩,st',fun b hb=>(hf b hb).1⟩⟩
 done:=by
  intro X hP hw hK hc i pins s σ H E I hf st hg
  subst hP hw hK
  obtain⟨xs,hq,hx⟩:=hg
  obtain⟨its,rv,p,hz⟩:=I.list hq
  obtain⟨f0,f1,f2,f3,f4,f5⟩:=hf it (by simp)
  have hl:=rv.length
  exact wpAny_pyNext_list_end (I.ok.hd hc) st p.isList (by simp;omega) fun h' eb=>⟨rfl,I.turned (t':=s.toks) (fun b o hb e=>eb b o hb e) f0 f1 f3 f4 f5⟩
 self:=fun _ _ _ _ _ st h=>wpAny_pyIter_listiter st h
theorem kD {P:Program}{w:World}{K:W.Frag}{tg:Expr} (it:Addr) (lo:Int) (n:Nat):Turn P w K tg (pX lo n) [it] it (fun i h=>IsRangeIter h it (lo+(i:Nat) * 1) ((n:Int) - (i:Nat)) 1) where
 mem:=by simp
 obj:=fun i h st b hb=>by
  have e:b=it:=by simpa using hb
  subst e
  exact⟨_,st,fun v z=>by
   have z':Data.fields _=Data.cell v:=z
   cases z'⟩
 keep:=fun i h h' st k=>k it (by simp) _ st
 item:=by
  intro X hP hw hK hc i pins s σ H E I hf st hg
  subst hP hw hK
  obtain⟨f0,f1,f2,f3,f4,f5⟩:=hf it (by simp)
  have W:=Walks.range (prog:=X.prog) (w:=X.w) (I.ok.hd hc) it lo 1 n
  refine W.item i s _ _ hg st fun v h' tk hv st' kk=>?_
  obtain⟨t,rfl⟩:=hv
  have I1:Inv X pins σ H { s with heap:=h',toks:=tk }:=I.turned (fun b o hb e=>kk b o (by simpa using hb) e) f0 f1 f3 f4 f5
  refine⟨_,rfl,lE (s:={ s with heap:=h',toks:=tk }) (n := "range_iterator") st' rfl rfl (by decide) ⟨.int (lo+i),H,I1,⟨t,?_⟩,⟨rfl,rfl⟩,st',fun b hb=>(hf b hb).1⟩⟩
  rw[Int.mul_one]
 done:=by
  intro X hP hw hK hc i pins s σ H E I hf st hg
  subst hP hw hK
  obtain⟨f0,f1,f2,f3,f4,f5⟩:=hf it (by simp)
  exact wpAny_pyNext_range_end (I.ok.hd hc) st (by have:n≤i:=hg;omega) fun h' eb=>⟨rfl,I.turned (t':=s.toks) (fun b o hb e=>eb b o hb e) f0 f1 f3 f4 f5⟩
 self:=fun _ _ _ _ _ st h=>wpAny_pyIter_rangeiter st h
section
variable {X:Cx}{tg:Expr}
def pY (K:W.Frag) (tl:TE):TI:=fun σ H R=>tl σ H fun x H1=>∃ a,x=.ref a∧(∃ xs,aD K H1 a xs)∧R (rT K a) H1
theorem oH {l:Expr}{tl:TE} (hl:PE X l tl):PI X tg l (pY X.K tl):=by
 intro pins s σ H R I h
 refine cH (hl pins s σ H _ I h) fun v s1 ⟨x,H1,I1,r1,q1⟩=>?_
 obtain⟨a,e,⟨xs,hq⟩,q⟩:=q1
 subst e
 cases r1
 obtain⟨its,rv,p,hz⟩:=I1.list hq
 refine wpAny_pyIter_list p.isList ?_
 refine⟨s1.heap.objs.size,[s1.heap.objs.size],_,_,H1,rfl,I1.kept (t':=s1.toks) fun b o e=>Heap.get?_push_of_some _ e,lY a _,⟨_,Heap.get?_push_size _ rfl,rfl,rfl⟩,fun b hb=>?_,q⟩
 have e:b=s1.heap.objs.size:=by simpa using hb
 subst e
 exact I1.jX (Nat.le_refl _) (I1.hok.fresh (Nat.le_refl _))
theorem m9 {pins:List (Addr×Obj)}{σ:St}{H:Hp}{s:Shared}{R:It→Hp→Prop}{E:Value→Shared→Prop}{lo hi:Int}{t u v:Tok}{tk:Nat} (I:Inv X pins σ H s) (h1 : -(2 ^ 62)≤lo) (h2:lo < 2 ^ 62) (h3 : -(2 ^ 62)≤hi) (h4:hi < 2 ^ 62)
  (q:R (pX lo (hi - lo).toNat) H):wpAny (model X.prog X.w) X.A (pyIter (.ref s.heap.objs.size)) (yC X pins σ tg R) E { s with heap:=s.heap.push { cls:=.type "range",data:=.fields #[.int lo t,.int hi u,.int 1 v] },toks:=tk }:=by
 refine wpAny_pyIter_range (IsRange.new ..) (small_one h1 h2 h3 h4) ?_
 have I1:Inv X pins σ H { s with heap:=s.heap.push { cls:=.type "range",data:=.fields #[.int lo t,.int hi u,.int 1 v] },toks:=tk }:=I.kept fun b o e=>Heap.get?_push_of_some _ e
 refine⟨(s.heap.push { cls:=.type "range",data:=.fields #[.int lo t,.int hi u,.int 1 v] }).objs.size,[(s.heap.push { cls:=.type "range",data:=.fields #[.int lo t,.int hi u,.int 1 v] }).objs.size],_,_,H,rfl,
  I1.kept (t':=tk) fun b o e=>Heap.get?_push_of_some _ e,kD _ lo (hi - lo).toNat,?_,fun b hb=>?_,q⟩
 ·have e1:lo+((0:Nat):Int) * 1=lo:=by simp
  have e2:(((hi - lo).toNat:Nat):Int) - ((0:Nat):Int)=Builtin.Range.rangeSize lo hi 1:=by rw[rangeSize_one];split <;> omega
  show IsRangeIter _ _ (lo+((0:Nat):Int) * 1) ((((hi - lo).toNat:Nat):Int) - ((0:Nat):Int)) 1
  rw[e1,e2]
  exact Heap.get?_push_size _ rfl
 ·have e:b=(s.heap.push { cls:=.type "range",data:=.fields #[.int lo t,.int hi u,.int 1 v] }).objs.size:=by simpa using hb
  subst e
  exact I1.jX (Nat.le_refl _) (I1.hok.fresh (Nat.le_refl _))
def sM (ta:TA):TI:=fun σ H R=>ta σ H fun vs H1=>∃ j:Int,vs=[.int j]∧-(2 ^ 62)≤j∧j < 2 ^ 62∧R (pX 0 j.toNat) H1
theorem eZ {a:Expr}{ta:TA}{p pos:Pos} (hg:Gl X "range") (hm:X.mg "range" = none) (ha:PA X [a] ta) (hs:starEach [a] X.env=[(false,eval a X.env)]:=by rfl):PI X tg (.Call (.Name "range" p) [a] [] pos) (sM ta):=by
 intro pins s σ H R I h
 refine Call_ (gj I hg hm boot_range (PyProof.Rows.callWith_type1 (cH (ha pos pins s σ H _ I h) fun us s1 ⟨vs,H1,I1,r1,q1⟩=>?_) hs rfl))
 obtain⟨j,e,q1,q2,q⟩:=q1
 subst e
 cases r1 with
 | cons r rr =>
  cases rr
  obtain⟨t,rfl⟩:=r
  exact call_range_1 (m9 I1 (by omega) (by omega) q1 q2 (by simpa using q))
def vQ (wi:TI) (g:TG) (tb:TS):TS:=fun D σ H=>wi σ H fun J H1=>∃ W:Nat→Nat→St→Hp→Prop,(∃ m,W 0 m σ H1)∧∀ i m σ H,W i m σ H →
 (J.stop i H∧D.nx σ H)∨(J.go i H∧∃ N:St→Hp→Prop,(∀ σ' H',N σ' H'→∃ m',m' < m∧W (i+1) m' σ' H')∧∀ x H',J.sL i H x H'→g x σ H' fun σ2 H2=>tb { D with nx:=N,ct:=N,bk:=D.nx } σ2 H2)
def gY (fp:List Addr) (h:Heap):List (Addr×Obj):=fp.filterMap fun b=>(h.get? b).map fun o=>(b,o)
theorem dQ {fp:List Addr}{h:Heap}{b:Addr}{o:Obj} (hb:b∈fp) (e:h.get? b=some o):(b,o)∈gY fp h:=List.mem_filterMap.mpr ⟨b,hb,by rw[e];rfl⟩
theorem lZ {fp:List Addr}{h:Heap}{p:Addr×Obj} (hp:p∈gY fp h):p.1∈fp∧h.get? p.1=some p.2:=by
 obtain⟨b,hb,e⟩:=List.mem_filterMap.mp hp
 cases q:h.get? b with
 | none=>rw[q] at e;cases e
 | some o =>
  rw[q] at e
  have e':(b,o)=p:=Option.some.inj e
  subst e'
  exact⟨hb,q⟩
theorem Inv.pinned {pins:List (Addr×Obj)}{σ:St}{H:Hp}{s:Shared}{fp:List Addr} (I:Inv X pins σ H s) (hf:∀ b∈fp,gF X pins H b) (ho:∀ b∈fp,∃ o,s.heap.get? b=some o∧∀ v,o.data≠.cell v):Inv X (pins++gY fp s.heap) σ H s :=
 I.lC fun p hp=>(List.mem_append.mp hp).elim (fun z=>I.pin p (List.mem_append_right _ z)) fun z=>by
  obtain⟨hb,e⟩:=lZ z
  obtain⟨f0,f1,f2,_⟩:=hf p.1 hb
  obtain⟨o,e',d⟩:=ho p.1 hb
  rw[e] at e';cases e'
  exact⟨e,f0,f1,f2,d⟩
theorem Inv.fN {pins pl:List (Addr×Obj)}{σ:St}{H:Hp}{s:Shared} (I:Inv X (pins++pl) σ H s):Inv X pins σ H s:=I.lC fun p hp=>I.pin p (List.mem_append_right _ (List.mem_append_left _ hp))
theorem gZ {iter:Expr}{body:List Stmt}{wi:TI}{g:TG}{tb:TS}{pos:Pos} (hp:PassesOwn (model X.prog X.w) X.A X.env X.xe) (hc:X.calm=true) (hi:PI X tg iter wi) (hg:PG X tg g) (hb:mV X body tb)
  (hs:∀ x,foldedSetIterable iter X.env x=pure x:=by intro _;rfl):PS X (.For tg iter body [] pos) (vQ wi g tb):=by
 intro pins s σ H D I h
 refine wpAny_For (cH (hi pins s σ H _ I h) fun v s1 h1=>cH h1 fun itv s2 h2=>?_) hs
 obtain⟨it,fp,tn,J,H2,e,I2,T,st2,f2,W,⟨m0,w0⟩,turn⟩:=h2
 subst e
 have kE:∀{H':Hp},(∀ b∈fp,H' b=none)→∀ b∈fp,gF X pins H' b:=fun hn b hb=>⟨hn b hb,(f2 b hb).2⟩
 refine codeAny_forLoop_any (fun n s'=>∃ i σ' H',Inv X pins σ' H' s'∧tn i s'.heap∧(∀ b∈fp,H' b=none)∧W i n σ' H') ?_ m0 ⟨0,σ,H2,I2,st2,fun b hb=>(f2 b hb).1,w0⟩
 rintro n s3 ⟨i,σ3,H3,I3,st3,yD,w3⟩
 rcases turn i n σ3 H3 w3 with ⟨stop,qn⟩ | ⟨go,N,hN,step⟩
 ·refine wpAny_passesOwn hp (cH (T.done X rfl rfl rfl hc i pins s3 σ3 H3 X.xe I3 (kE yD) st3 stop) fun r s4 ⟨hr,I4⟩=>?_)
  subst hr
  exact wpAny_execs_nil ⟨σ3,H3,I4,qn⟩
 ·refine wpAny_passesOwn hp (cH (T.item X rfl rfl rfl hc i pins s3 σ3 H3 X.xe I3 (kE yD) st3 go) fun r s4 ⟨u,hr,h4⟩=>?_)
  subst hr
  refine wpAny_passesOwn hp (cH h4 fun _ s5 ⟨x,H5,I5,r5,y5,vR,AB⟩=>?_)
  have AD:=I5.pinned (kE AB) (T.obj _ _ vR)
  refine wpAny_passesOwn hp (cH (hg _ s5 σ3 H5 x u _ AD r5 (step x H5 y5)) fun _ s6 ⟨σ6,H6,I6,q6⟩=>?_)
  refine wpAny_passesOwn hp (cH (hb _ s6 σ6 H6 _ I6 q6) fun f s7 q7=>?_)
  have again:∀{σ7:St}{H7:Hp},Inv X (pins++gY fp s5.heap) σ7 H7 s7→N σ7 H7→∃ m,m < n∧∃ i σ' H',Inv X pins σ' H' s7∧tn i s7.heap∧(∀ b∈fp,H' b=none)∧W i m σ' H':=fun {σ7 H7} I7 n7=>by
   obtain⟨m',hm,w7⟩:=hN σ7 H7 n7
   refine⟨m',hm,i+1,σ7,H7,I7.fN,T.keep _ _ _ vR fun b hb o e=>(I7.pin (b,o) (List.mem_append_right _ (List.mem_append_right _ (dQ hb e)))).1,fun b hb=>?_,w7⟩
   obtain⟨o,e,d⟩:=T.obj _ _ vR b hb
   exact(I7.pin (b,o) (List.mem_append_right _ (List.mem_append_right _ (dQ hb e)))).2.1
  cases f with
  | next=>obtain⟨σ7,H7,I7,n7⟩:=q7;exact again I7 n7
  | cont=>obtain⟨σ7,H7,I7,n7⟩:=q7;exact again I7 n7
  | brk=>obtain⟨σ7,H7,I7,q7⟩:=q7;exact⟨σ7,H7,I7.fN,q7⟩
  | ret v=>obtain⟨x7,σ7,H7,I7,r7,q7⟩:=q7;exact⟨x7,σ7,H7,I7.fN,r7,q7⟩
end
theorem jY {K:W.Frag}{a:Addr}{xs:List V}{g:TG}{tb:TS}{D:Ends}{σ:St}{H:Hp} (Pv:Nat→St→Hp→Prop) (h0:Pv 0 σ H) (hl:∀ i σ H,i≤xs.length→Pv i σ H→aD K H a xs)
  (hs:∀ i x σ H,xs[i]? = some x→Pv i σ H→g x σ H fun σ2 H2=>tb { D with nx:=Pv (i+1),ct:=Pv (i+1),bk:=D.nx } σ2 H2) (hd:∀ σ H,Pv xs.length σ H→D.nx σ H) :
  ∃ W:Nat→Nat→St→Hp→Prop,(∃ m,W 0 m σ H)∧∀ i m σ H,W i m σ H →
   ((rT K a).stop i H∧D.nx σ H)∨((rT K a).go i H∧∃ N:St→Hp→Prop,(∀ σ' H',N σ' H'→∃ m',m' < m∧W (i+1) m' σ' H')∧∀ x H',(rT K a).sL i H x H'→g x σ H' fun σ2 H2=>tb { D with nx:=N,ct:=N,bk:=D.nx } σ2 H2):=by
 refine⟨fun i m σ H=>m=xs.length - i∧i≤xs.length∧Pv i σ H,⟨xs.length,by simp,Nat.zero_le _,h0⟩,?_⟩
 rintro i m σ H ⟨rfl,hi,p⟩
 have q:=hl i σ H hi p
 by_cases hlt:i < xs.length
 ·refine .inr ⟨⟨xs,xs[i],q,by simp[hlt]⟩,Pv (i+1),fun σ' H' p'=>⟨xs.length - (i+1),by omega,rfl,hlt,p'⟩,fun x H' y=>?_⟩
  obtain⟨e,y⟩:=y
  subst e
  exact hs i x σ _ (y xs q) p
 ·have e:i=xs.length:=by omega
  subst e
  exact .inl ⟨⟨xs,q,Nat.le_refl _⟩,hd σ H p⟩
theorem gn {lo:Int}{n:Nat}{g:TG}{tb:TS}{D:Ends}{σ:St}{H:Hp} (Pv:Nat→St→Hp→Prop) (h0:Pv 0 σ H)
  (hs:∀ i σ H,i < n→Pv i σ H→g (.int (lo+i)) σ H fun σ2 H2=>tb { D with nx:=Pv (i+1),ct:=Pv (i+1),bk:=D.nx } σ2 H2) (hd:∀ σ H,Pv n σ H→D.nx σ H) :
  ∃ W:Nat→Nat→St→Hp→Prop,(∃ m,W 0 m σ H)∧∀ i m σ H,W i m σ H →
   ((pX lo n).stop i H∧D.nx σ H)∨((pX lo n).go i H∧∃ N:St→Hp→Prop,(∀ σ' H',N σ' H'→∃ m',m' < m∧W (i+1) m' σ' H')∧∀ x H',(pX lo n).sL i H x H'→g x σ H' fun σ2 H2=>tb { D with nx:=N,ct:=N,bk:=D.nx } σ2 H2):=by
 refine⟨fun i m σ H=>m=n - i∧i≤n∧Pv i σ H,⟨n,by simp,Nat.zero_le _,h0⟩,?_⟩
 rintro i m σ H ⟨rfl,hi,p⟩
 by_cases hlt:i < n
 ·refine .inr ⟨hlt,Pv (i+1),fun σ' H' p'=>⟨n - (i+1),by omega,rfl,hlt,p'⟩,fun x H' y=>?_⟩
  obtain⟨e,y⟩:=y
  subst e y
  exact hs i σ _ hlt p
 ·have e:i=n:=by omega
  subst e
  exact .inl ⟨Nat.le_refl _,hd σ H p⟩
abbrev R2:=V→V→Hp→VK→Prop
def fk (X:Cx) (f:Value→Value→Sem Value) (r:R2):Prop :=
 ∀(pins:List (Addr×Obj)) (s:Shared) (σ:St) (H:Hp) (x y:V) (v u:Value) (Q:VK),Inv X pins σ H s→RelV x v→RelV y u→r x y H Q →
  wpAny (model X.prog X.w) X.A (f v u) (EP X pins σ Q) X.xe s
def cg (X:Cx) (f:Value) (r:List V→Hp→VK→Prop):Prop :=
 ∀(pins:List (Addr×Obj)) (s:Shared) (σ:St) (H:Hp) (xs:List V) (us:List Value) (Q:VK),Inv X pins σ H s→Vals xs us→r xs H Q →
  wpAny (model X.prog X.w) X.A (call f us) (EP X pins σ Q) X.xe s
def oJ (r:R2) (ta tb:TE):TE:=fun σ H Q=>ta σ H fun x H1=>tb σ H1 fun y H2=>r x y H2 Q
def rI (C:Int→Int→Prop) (g:Int→Int→V):R2:=fun x y H Q=>∃ i j,x=.int i∧y=.int j∧C i j∧Q (g i j) H
def oK (g:Int→Int→V):R2:=fun x y H Q=>∃ i j,x=.int i∧y=.int j∧Q (g i j) H
section
variable {X:Cx}{a b c:Expr}{ta tb tc:TE}{pos:Pos}
theorem qx (ha:PE X a ta) (hb:PE X b tb) {pins:List (Addr×Obj)}{s:Shared}{σ:St}{H:Hp}{R:V→V→Hp→Prop} (I:Inv X pins σ H s)
  (h:ta σ H fun x H1=>tb σ H1 fun y H2=>R x y H2) {Q:Value→Shared→Prop}{f:Value→Value→Sem Value}
  (hf:∀ v u s2 x y H2,Inv X pins σ H2 s2→RelV x v→RelV y u→R x y H2→wpAny (model X.prog X.w) X.A (f v u) Q X.xe s2) :
  wpAny (model X.prog X.w) X.A (eval a X.env) (fun v s₁=>wpAny (model X.prog X.w) X.A (eval b X.env) (fun u s₂=>wpAny (model X.prog X.w) X.A (f v u) Q X.xe s₂) X.xe s₁) X.xe s:=by
 refine cH (ha pins s σ H _ I h) fun v s1 ⟨x,H1,I1,r1,q1⟩=>?_
 refine cH (hb pins s1 σ H1 _ I1 q1) fun u s2 ⟨y,H2,I2,r2,q2⟩=>?_
 exact hf v u s2 x y H2 I2 r1 r2 q2
theorem av {op:Operator}{r:R2} (ho:fk X (binaryOp op) r) (ha:PE X a ta) (hb:PE X b tb):PE X (.BinOp a op b pos) (oJ r ta tb):=by
 intro pins s σ H Q I h
 exact wpAny_BinOp (qx ha hb I h fun v u s2 x y H2 I2 rx ry q=>ho pins s2 σ H2 x y v u Q I2 rx ry q)
theorem uT {f:Value→Value→Sem Value}{C:Int→Int→Prop}{g:Int→Int→Int}
  (rule:∀(i j:Int) (t u:Tok) (s:Shared) (Q:Value→Shared→Prop) (E:Value→Shared→Prop),C i j→Q (.int (g i j) s.toks) { s with toks:=s.toks+1 }→wpAny (model X.prog X.w) X.A (f (.int i t) (.int j u)) Q E s) :
  fk X f (rI C fun i j=>.int (g i j)):=by
 intro pins s σ H x y v u Q I rx ry h
 obtain⟨i,j,rfl,rfl,hc,q⟩:=h
 obtain⟨t,rfl⟩:=rx
 obtain⟨t',rfl⟩:=ry
 exact rule i j t t' s _ _ hc ⟨.int (g i j),H,I.tok _,⟨_,rfl⟩,q⟩
theorem sN {f:Value→Value→Sem Value}{g:Int→Int→Int}
  (rule:∀(i j:Int) (t u:Tok) (s:Shared) (Q:Value→Shared→Prop) (E:Value→Shared→Prop),Q (.int (g i j) s.toks) { s with toks:=s.toks+1 }→wpAny (model X.prog X.w) X.A (f (.int i t) (.int j u)) Q E s) :
  fk X f (oK fun i j=>.int (g i j)):=by
 intro pins s σ H x y v u Q I rx ry h
 obtain⟨i,j,rfl,rfl,q⟩:=h
 obtain⟨t,rfl⟩:=rx
 obtain⟨t',rfl⟩:=ry
 exact rule i j t t' s _ _ ⟨.int (g i j),H,I.tok _,⟨_,rfl⟩,q⟩
theorem oM {f:Value→Value→Sem Value}{g:Int→Int→Bool}
  (rule:∀(i j:Int) (t u:Tok) (s:Shared) (Q:Value→Shared→Prop) (E:Value→Shared→Prop),Q (.bool (g i j)) s→wpAny (model X.prog X.w) X.A (f (.int i t) (.int j u)) Q E s) :
  fk X f (oK fun i j=>.bl (g i j)):=by
 intro pins s σ H x y v u Q I rx ry h
 obtain⟨i,j,rfl,rfl,q⟩:=h
 obtain⟨t,rfl⟩:=rx
 obtain⟨t',rfl⟩:=ry
 exact rule i j t t' s _ _ ⟨.bl (g i j),H,I,rfl,q⟩
def vS (i j:Int):Prop:=0 < j∧j < 1073741824
def vU (i j:Int):Prop:=0≤j∧j≤1000000∧i.natAbs < 2 ^ 64
def oN (i j:Int):Prop:=(-(2 ^ 64) < i∧i < 2 ^ 64)∨(-(2 ^ 64) < j∧j < 2 ^ 64)
theorem oN.ok {i j:Int} (h:oN i j):IntMulOk i j:=by
 rcases h with ⟨h1,h2⟩ | ⟨h1,h2⟩
 ·exact .of_left (intBits_le_64 h1 h2)
 ·exact .of_right (intBits_le_64 h1 h2)
theorem bI:fk X (binaryOp .Add) (oK fun i j=>.int (i+j)):=sN fun _ _ _ _ _ _ _ q=>add_int q
theorem jn:fk X (binaryOp .Sub) (oK fun i j=>.int (i - j)):=sN fun _ _ _ _ _ _ _ q=>sub_int q
theorem dD:fk X (binaryOp .Mult) (rI oN fun i j=>.int (i * j)):=uT fun _ _ _ _ _ _ _ hc q=>mul_int q hc.ok
theorem cQ:fk X (binaryOp .FloorDiv) (rI vS fun i j=>.int (i / j)):=uT fun i j _ _ _ _ _ hc q=>by
 have h1:(0:Int) < j:=hc.1
 have h2:j < 1073741824:=hc.2
 exact floordiv_int (by omega) (by rw[Int.fdiv_eq_ediv_of_nonneg i (by omega)];exact q) (.inl (PyProof.noPylong_small (by omega)))
theorem aK:fk X (binaryOp .Mod) (rI (fun _ j=>0 < j) fun i j=>.int (i % j)):=uT fun i j _ _ _ _ _ hc q=>by
 have h1:(0:Int) < j:=hc
 exact mod_int' (by omega) (by rw[Int.fmod_eq_emod_of_nonneg i (by omega)];exact q)
theorem nc:fk X (binaryOp .Pow) (rI vU fun i j=>.int (i ^ j.toNat)):=uT fun _ _ _ _ _ _ _ hc q=>pow_int_small hc.1 hc.2.1 hc.2.2 q
end
def sO:V→V→Bool
 | .non,.non=>true | .non,.int _=>true | .int _,.non=>true | .non,.bl _=>true | .bl _,.non=>true | .non,.str _=>true | .str _,.non=>true
 | .int _,.int _=>true | .bl _,.bl _=>true | .str _,.str _=>true | .mX _,.mX _=>true
 | .int _,.str _=>true | .str _,.int _=>true | .bl _,.str _=>true | .str _,.bl _=>true
 | _,_=>false
def AE:R2:=fun x y H Q=>sO x y=true∧Q (.bl (decide (x=y))) H
def vV:R2:=fun x y H Q=>sO x y=true∧Q (.bl (!decide (x=y))) H
theorem lF {i j:Int}:decide (V.int i=V.int j)=(i == j):=by
 rw[Bool.eq_iff_iff]
 simp
theorem ng {i j:Bool}:decide (V.bl i=V.bl j)=(i == j):=by
 rw[Bool.eq_iff_iff]
 simp
theorem lG {i j:Str}:decide (V.str i=V.str j)=(i == j):=by
 rw[Bool.eq_iff_iff]
 simp
theorem lH {i j:Array UInt8}:decide (V.mX i=V.mX j)=(i.toList == j.toList):=by
 rw[Bool.eq_iff_iff]
 cases i
 cases j
 simp
section
variable {X:Cx}{a b c:Expr}{ta tb tc:TE}{pos:Pos}
theorem aG {pins:List (Addr×Obj)}{σ:St}{H:Hp}{s:Shared}{Q:VK}{k k':Bool} (I:Inv X pins σ H s) (q:Q (.bl k) H) (e:k=k'):EP X pins σ Q (.bool k') s:=by
 subst e
 exact⟨.bl k,H,I,rfl,q⟩
theorem eH:fk X (compareOp .Eq) AE:=by
 intro pins s σ H x y v u Q I rx ry h
 obtain⟨hs,q⟩:=h
 cases x with
 | non =>
  cases rx
  cases y with
  | non=>cases ry;exact PySem.EqNone.eq_none_none (aG I q (by simp))
  | bl j=>cases ry;exact PySem.EqNone.eq_none_bool (aG I q (by simp))
  | int j=>obtain⟨t',rfl⟩:=ry;exact PySem.EqNone.eq_none_int (aG I q (by simp))
  | str j=>obtain⟨t',rfl⟩:=ry;exact PySem.EqNone.eq_none_str (aG I q (by simp))
  | _=>exact absurd (show false=true from hs) Bool.false_ne_true
 | bl i =>
  cases rx
  cases y with
  | non=>cases ry;exact PySem.EqNone.eq_bool_none (aG I q (by simp))
  | bl j=>cases ry;exact eq_bool (aG I q ng)
  | str j=>obtain⟨t',rfl⟩:=ry;exact PySem.EqMixed.eq_bool_str (aG I q (by simp))
  | _=>exact absurd (show false=true from hs) Bool.false_ne_true
 | int i =>
  obtain⟨t,rfl⟩:=rx
  cases y with
  | non=>cases ry;exact PySem.EqNone.eq_int_none (aG I q (by simp))
  | int j=>obtain⟨t',rfl⟩:=ry;exact eq_int (aG I q lF)
  | str j=>obtain⟨t',rfl⟩:=ry;exact PySem.EqMixed.eq_int_str (aG I q (by simp))
  | _=>exact absurd (show false=true from hs) Bool.false_ne_true
 | str i =>
  obtain⟨t,rfl⟩:=rx
  cases y with
  | non=>cases ry;exact PySem.EqNone.eq_str_none (aG I q (by simp))
  | bl j=>cases ry;exact PySem.EqMixed.eq_str_bool (aG I q (by simp))
  | int j=>obtain⟨t',rfl⟩:=ry;exact PySem.EqMixed.eq_str_int (aG I q (by simp))
  | str j=>obtain⟨t',rfl⟩:=ry;exact eq_str (aG I q lG)
  | _=>exact absurd (show false=true from hs) Bool.false_ne_true
 | mX i =>
  obtain⟨t,rfl⟩:=rx
  cases y with
  | mX j=>obtain⟨t',rfl⟩:=ry;exact W.eq_bytes (aG I q lH)
  | _=>exact absurd (show false=true from hs) Bool.false_ne_true
 | _=>cases y <;> exact absurd (show false=true from hs) Bool.false_ne_true
theorem nh:fk X (compareOp .NotEq) vV:=by
 intro pins s σ H x y v u Q I rx ry h
 obtain⟨hs,q⟩:=h
 cases x with
 | non =>
  cases rx
  cases y with
  | non=>cases ry;exact PySem.EqNone.ne_none_none (aG I q (by simp))
  | bl j=>cases ry;exact PySem.EqNone.ne_none_bool (aG I q (by simp))
  | int j=>obtain⟨t',rfl⟩:=ry;exact PySem.EqNone.ne_none_int (aG I q (by simp))
  | str j=>obtain⟨t',rfl⟩:=ry;exact PySem.EqNone.ne_none_str (aG I q (by simp))
  | _=>exact absurd (show false=true from hs) Bool.false_ne_true
 | bl i =>
  cases rx
  cases y with
  | non=>cases ry;exact PySem.EqNone.ne_bool_none (aG I q (by simp))
  | bl j=>cases ry;exact ne_bool (aG I q (congrArg not ng))
  | str j=>obtain⟨t',rfl⟩:=ry;exact PySem.EqMixed.ne_bool_str (aG I q (by simp))
  | _=>exact absurd (show false=true from hs) Bool.false_ne_true
 | int i =>
  obtain⟨t,rfl⟩:=rx
  cases y with
  | non=>cases ry;exact PySem.EqNone.ne_int_none (aG I q (by simp))
  | int j=>obtain⟨t',rfl⟩:=ry;exact ne_int (aG I q (congrArg not lF))
  | str j=>obtain⟨t',rfl⟩:=ry;exact PySem.EqMixed.ne_int_str (aG I q (by simp))
  | _=>exact absurd (show false=true from hs) Bool.false_ne_true
 | str i =>
  obtain⟨t,rfl⟩:=rx
  cases y with
  | non=>cases ry;exact PySem.EqNone.ne_str_none (aG I q (by simp))
  | bl j=>cases ry;exact PySem.EqMixed.ne_str_bool (aG I q (by simp))
  | int j=>obtain⟨t',rfl⟩:=ry;exact PySem.EqMixed.ne_str_int (aG I q (by simp))
  | str j=>obtain⟨t',rfl⟩:=ry;exact ne_str (aG I q (congrArg not lG))
  | _=>exact absurd (show false=true from hs) Bool.false_ne_true
 | mX i =>
  obtain⟨t,rfl⟩:=rx
  cases y with
  | mX j=>obtain⟨t',rfl⟩:=ry;exact W.ne_bytes (aG I q (congrArg not lH))
  | _=>exact absurd (show false=true from hs) Bool.false_ne_true
 | _=>cases y <;> exact absurd (show false=true from hs) Bool.false_ne_true
theorem jZ:fk X (compareOp .Lt) (oK fun i j=>.bl (decide (i < j))):=oM fun _ _ _ _ _ _ _ q=>lt_int q
theorem ni:fk X (compareOp .LtE) (oK fun i j=>.bl (decide (i≤j))):=oM fun _ _ _ _ _ _ _ q=>le_int q
theorem j0:fk X (compareOp .Gt) (oK fun i j=>.bl (decide (j < i))):=oM fun _ _ _ _ _ _ _ q=>gt_int q
theorem sP:fk X (compareOp .GtE) (oK fun i j=>.bl (decide (j≤i))):=oM fun _ _ _ _ _ _ _ q=>ge_int q
theorem nj (b:Expr) {op:CmpOp} (h:op≠.In:=by decide) (h2:op≠.NotIn:=by decide):behindInMarks op b=false:=by
 have e1:(op == CmpOp.In)=false:=by cases op <;> first | rfl | exact absurd rfl h
 have e2:(op == CmpOp.NotIn)=false:=by cases op <;> first | rfl | exact absurd rfl h2
 cases b <;> simp[behindInMarks,e1,e2]
theorem oO {op:CmpOp}{r:R2} (ho:fk X (compareOp op) r) (ha:PE X a ta) (hb:PE X b tb) (hm:behindInMarks op b=false):PE X (.Compare a [op] [b] pos) (oJ r ta tb):=by
 intro pins s σ H Q I h
 exact wpAny_Compare1 (qx ha hb I h fun v u s2 x y H2 I2 rx ry q=>ho pins s2 σ H2 x y v u Q I2 rx ry q) hm
def pZ (t:TE):TT:=fun σ H Q=>t σ H fun x H'=>∃ k,x=.bl k∧Q k H'
theorem oQ {op:CmpOp}{r:R2} (ho:fk X (compareOp op) r) (ha:PE X a ta) (hb:PE X b tb) (hm:behindInMarks op b=false):PT X (.Compare a [op] [b] pos) (pZ (oJ r ta tb)):=by
 intro pins s σ H Q I h
 refine wpAny_isTrue_Compare1 (cH (ha pins s σ H _ I h) fun v s1 ⟨x,H1,I1,r1,q1⟩=>cH (hb pins s1 σ H1 _ I1 q1) fun u s2 ⟨y,H2,I2,r2,q2⟩ =>
  cH (ho pins s2 σ H2 x y v u _ I2 r1 r2 q2) fun c s3 ⟨z,H3,I3,r3,k,e,q3⟩=>?_) hm
 subst e
 cases r3
 exact wpAny_truthy_bool ⟨H3,I3,q3⟩
theorem g4:(sizeLine:Nat) < 2 ^ 63:=by rw[sizeLine_eq];decide
theorem kF:fk X (binaryOp .Add) (fun x y H Q=>∃ i j,x=.str i∧y=.str j∧i.length+j.length≤sizeLine∧Q (.str (i++j)) H):=by
 intro pins s σ H x y v u Q I rx ry h
 obtain⟨i,j,rfl,rfl,hz,q⟩:=h
 obtain⟨t,rfl⟩:=rx
 obtain⟨t',rfl⟩:=ry
 exact add_str (fun t' tk=>⟨.str (i++j),H,I.tok _,⟨_,rfl⟩,q⟩) hz
theorem vals1 {x:V}{us:List Value} (r:Vals [x] us):∃ u,us=[u]∧RelV x u:=by
 cases r with
 | cons r1 r2=>cases r2;exact⟨_,rfl,r1⟩
theorem vals2 {x y:V}{us:List Value} (r:Vals [x,y] us):∃ u w',us=[u,w']∧RelV x u∧RelV y w':=by
 cases r with
 | cons r1 r2 =>
  cases r2 with
  | cons r3 r4=>cases r4;exact⟨_,_,rfl,r1,r3⟩
theorem gp (hc:X.calm=true):cg X (.builtin "max") (fun xs H Q=>∃ i j,xs=[.int i,.int j]∧Q (.int (if j > i then j else i)) H):=by
 intro pins s σ H xs us Q I r h
 obtain⟨i,j,rfl,q⟩:=h
 obtain⟨u,w',rfl,⟨t,rfl⟩,⟨t',rfl⟩⟩:=vals2 r
 refine max_two_ints (I.ok.hd hc) fun h' tk k=>⟨_,H,I.kept k,?_,q⟩
 by_cases hj:j > i
 ·rw[if_pos hj,if_pos hj];exact⟨_,rfl⟩
 ·rw[if_neg hj,if_neg hj];exact⟨_,rfl⟩
theorem mh:cg X (.type "int") (fun xs H Q=>(∃ i,xs=[.int i]∧Q (.int i) H)∨∃ k,xs=[.bl k]∧Q (.int (if k then 1 else 0)) H):=by
 intro pins s σ H xs us Q I r h
 rcases h with ⟨i,rfl,q⟩ | ⟨k,rfl,q⟩
 ·obtain⟨u,rfl,t,rfl⟩:=vals1 r
  exact call_int_int ⟨.int i,H,I,⟨_,rfl⟩,q⟩
 ·obtain⟨u,rfl,r1⟩:=vals1 r
  cases r1
  exact call_int_bool ⟨.int (if k then 1 else 0),H,I.tok _,⟨_,rfl⟩,q⟩
theorem nk:cg X (.builtin "ord") (fun xs H Q=>∃ x,xs=[.str x]∧x.length=1∧Q (.int (x.cps.getD 0 0:Nat)) H):=by
 intro pins s σ H xs us Q I r h
 obtain⟨x,rfl,hz,q⟩:=h
 obtain⟨u,rfl,t,rfl⟩:=vals1 r
 exact ord_of_one hz ⟨.int _,H,I.tok _,⟨_,rfl⟩,q⟩
end
structure qy (h:Heap) (x dx C:Addr) (mA:Str→Option Value):Prop where
 obj:h.get? x=some (W.instObj C dx)
 ns:h.Ns1 dx mA
 ne:dx≠x
theorem mj {h:Heap}{dx:Addr}{mA:Str→Option Value} (n:h.Ns1 dx mA):∃ od,h.get? dx=some od∧∀ name,W.lookIn name od=some (mA name):=by
 obtain⟨o,es,ep,ho,hd,hk,_,hm⟩:=n
 refine⟨o,ho,fun name=>?_⟩
 have e:=hm name
 unfold nsFind findBy at e
 rw[←Array.find?_toList] at e
 unfold W.lookIn
 rw[hd]
 dsimp only
 split
 ·rename_i y q
  rw[q] at e
  exact congrArg some e
 ·rename_i q
  rw[q] at e
  have a:es.toList.any (·.refKey)=false:=by
   rw[List.any_eq_false]
   intro y hy
   obtain⟨z,t,hkey⟩:=hk y (Array.mem_toList_iff.mp hy)
   simp[DictEntry.refKey,hkey]
  have a':¬es.toList.any (·.refKey)=true:=by rw[a];exact Bool.false_ne_true
  rw[if_neg a']
  exact congrArg some e
theorem qy.look {h:Heap}{x dx C:Addr}{mA:Str→Option Value} (I:qy h x dx C mA):∃ od,W.InstAt h x (W.instObj C dx) C (some od)∧∀ name,W.lookIn name od=some (mA name) :=
 let ⟨od,ho,hl⟩:=mj I.ns
 ⟨od,⟨I.obj,rfl,rfl,ho⟩,hl⟩
section
variable {prog:Program}{w:World}{A:Around}{E:Value→Shared→Prop}{s:Shared}{K:W.Frag}{x dx C f:Addr}{mA:Str→Option Value}{name:Str}{v:Value}
end
section
variable {P:Program}{w:World}{H H':Hp}{h h':Heap}{a C dx:Addr}{fs fs':List (Str×V)}
theorem oR (hok:gi P w H h) (e:H a=some (.ins C dx fs)):∃ mA,qy h a dx C mA∧(∀ f,qm (fs.lookup f) (mA f))∧PySem.Within mA (fs.map (·.1))∧fs.length≤1000∧H dx=some (.own a):=by
 obtain⟨d,z,ne,ob,mA,n,r,q⟩:=(show bH P w H h a (.ins C dx fs) from hok a _ e)
 exact⟨mA,⟨ob,n,ne⟩,r,q,z,d⟩
end
structure vW (K:W.Frag) (C:Addr):Prop where
 pg:W.plainGet K C Str.empty=true
 hd:W.hasDictIn K C=true
 po:W.plainOver K C=true
 sa:W.findIn K (.ref C) "__setattr__" = some (some (.builtin "object.__setattr__"))
theorem vW.get {K:W.Frag}{C:Addr} (c:vW K C) (f:Str):W.plainGet K C f=true:=c.pg
section
variable {X:Cx}{pins:List (Addr×Obj)}{σ:St}{H:Hp}{s:Shared}{a C dx:Addr}{fs:List (Str×V)}{f:Str}{v:V}{A:Around}{E:Value→Shared→Prop}
end
section
variable {X:Cx}{o e value:Expr}{f:Str}{pos pos' tpos:Pos}{ta tv:TE}
end
section
variable {X:Cx}{pins:List (Addr×Obj)}{σ:St}{H:Hp}{s:Shared}{A:Around}{E:Value→Shared→Prop}{Q:Value→Shared→Prop}{c:Value}{b:Bool}
inductive eL (K:W.Frag) (H:Hp):V→Value→Prop where
 | non:eL K H .non (.type "NoneType")
 | bl (x:Bool):eL K H (.bl x) (.type "bool")
 | int (i:Int):eL K H (.int i) (.type "int")
 | str (x:Str):eL K H (.str x) (.type "str")
 | rQ (x:UInt64):eL K H (.rQ x) (.type "float")
 | lst {a:Addr}{xs:List V} (e:H a=some (.lst xs)):eL K H (.ref a) (.type "list")
 | lA {a:Addr}{o:Obj}{xs:List V} (e:H a=some (.lA o (.lst xs))):eL K H (.ref a) (.type "list")
 | tup {a:Addr}{xs:List V} (e:H a=some (.tup xs)):eL K H (.ref a) (.type "tuple")
 | dK {a:Addr}{kvs:List (Key×V)} (e:H a=some (.dK kvs)):eL K H (.ref a) (.type "dict")
 | dT {a:Addr}{kvs:List (List Key×V)} (e:H a=some (.dT kvs)):eL K H (.ref a) (.type "dict")
 | ins {a C dx:Addr}{fs:List (Str×V)} (e:H a=some (.ins C dx fs)) (cl:vW K C) (ha:W.findIn K (.ref C) "__class__" = some (some (.builtin "object.__class__")))
   (hn:W.specialIn K (.builtin "object.__class__") "__get__" = some (some (.builtin "getset_descriptor.__get__"))) (htk:W.takesIn K (.builtin "object.__class__")=some true)
   (hm:W.mroIn K C (.type "object")=some true):eL K H (.ref a) (.ref C)
theorem iZ {x:V}{u t:Value} (I:Inv X pins σ H s) (rx:RelV x u) (ty:eL X.K H x t) (e:W.kitOne X.K t c=some b) (h:∀ tk,Q (.bool b) { s with toks:=tk }) :
  wpAny (model X.prog X.w) A (call (.builtin "isinstance") [u,c]) Q E s:=by
 cases ty with
 | non=>cases(show u=Value.none from rx);exact W.kia_one W.kitx_none I.jQ True.intro e (fun z=>nomatch z) h
 | bl y=>cases(show u=Value.bool y from rx);exact W.kia_one W.kitx_bool I.jQ True.intro e (fun z=>nomatch z) h
 | int i=>obtain⟨t,q⟩:=(show ∃ t,u=Value.int i t from rx);cases q;exact W.kia_one W.kitx_int I.jQ True.intro e (fun z=>nomatch z) h
 | str y=>obtain⟨t,q⟩:=(show ∃ t,u=Value.str y t from rx);cases q;exact W.kia_one W.kitx_str I.jQ True.intro e (fun z=>nomatch z) h
 | rQ y=>obtain⟨t,q⟩:=(show ∃ t,u=Value.float y t from rx);cases q;exact W.kia_one W.kitx_float I.jQ True.intro e (fun z=>nomatch z) h
 | @lst a xs ea =>
  cases(show u=Value.ref a from rx)
  obtain⟨_,_,n,_,h1⟩:=(show bH X.prog X.w H s.heap a (.lst xs) from I.hok a _ ea)
  exact W.kia_one W.kitx_list I.jQ ⟨_,h1,rfl⟩ e (fun z=>nomatch z) h
 | @lA a ob xs ea =>
  cases(show u=Value.ref a from rx)
  obtain⟨_,_,_,n,_,h1⟩:=(show bH X.prog X.w H s.heap a (.lA ob (.lst xs)) from I.hok a _ ea)
  exact W.kia_one W.kitx_list I.jQ ⟨_,h1,rfl⟩ e (fun z=>nomatch z) h
 | @tup a xs ea =>
  cases(show u=Value.ref a from rx)
  obtain⟨_,_,_,p⟩:=(show bH X.prog X.w H s.heap a (.tup xs) from I.hok a _ ea)
  obtain⟨o,h1,h2,_⟩:=p
  exact W.kia_one W.kitx_tuple I.jQ ⟨o,h1,h2⟩ e (fun z=>nomatch z) h
 | @dK a kvs ea =>
  cases(show u=Value.ref a from rx)
  obtain⟨_,_,vs,_,p⟩:=(show bH X.prog X.w H s.heap a (.dK kvs) from I.hok a _ ea)
  obtain⟨o,es,ep,h1,h2,_⟩:=p
  exact W.kia_one W.kitx_dict I.jQ ⟨o,h1,h2.1⟩ e (fun z=>nomatch z) h
 | @dT a kvs ea =>
  cases(show u=Value.ref a from rx)
  obtain⟨_,_,xs,_,o,es,ep,h1,h2,_⟩:=(show bH X.prog X.w H s.heap a (.dT kvs) from I.hok a _ ea)
  exact W.kia_one W.kitx_dict I.jQ ⟨o,h1,h2.1⟩ e (fun z=>nomatch z) h
 | @ins a C dx fs ea cl ha hn htk hm =>
  cases(show u=Value.ref a from rx)
  obtain⟨mA,O,_⟩:=oR I.hok ea
  obtain⟨od,J,_⟩:=O.look
  exact W.kia_one (W.kitx_own (cl.get _) cl.hd ha hn htk hm) I.jQ J e (fun z=>nomatch z) h
end
structure dm (k:Nat) (A:Around):Prop where
 hd:A.handled=none
 dp:A.depth+3 * k+5 < recursionLimit
 un:A.units+16 * k+200 < cLine
theorem dm.mono {j k:Nat}{A:Around} (r:dm k A) (h:j≤k):dm j A:=⟨r.hd,by have:=r.dp;omega,by have:=r.un;omega⟩
theorem dm.deeper {k:Nat}{A:Around} (r:dm (k+1) A) (env:Env):dm k (A.deeper env) :=
 ⟨r.hd,by have:=r.dp;show A.depth+1+3 * k+5 < _;omega,by have:=r.un;show A.units+3+16 * k+200 < _;omega⟩
theorem dm.depth {k:Nat}{A:Around} (r:dm k A):A.depth < recursionLimit:=by have:=r.dp;omega
theorem dm.units {k:Nat}{A:Around} (r:dm k A):A.units+64 < cLine:=by have:=r.un;omega
theorem dm.bA {k:Nat}{A:Around} (r:dm k A):A.units < cLine:=by have:=r.un;omega
def qz:TA:=fun _ H Q=>Q [] H
def nq (ta:TE) (tr:TA):TA:=fun σ H Q=>ta σ H fun x H1=>tr σ H1 fun xs H2=>Q (x :: xs) H2
section
variable {X:Cx}{e:Expr}{es:List Expr}{te:TE}{t:TA}{pos:Pos}
theorem ak:PA X [] qz:=fun _ _ _ _ H Q I h=>Calls.spliced_nil ⟨[],H,I,.nil,h⟩
theorem af (ha:PE X e te) (hr:PA X es t) (hs:starEach (e :: es) X.env=(false,eval e X.env) :: starEach es X.env:=by rfl):PA X (e :: es) (nq te t):=by
 intro pos pins s σ H Q I h
 rw[hs]
 show wpAny _ _ (spliced ((false,eval e X.env) :: backTo pos (starEach es X.env))) _ _ s
 refine Calls.spliced_cons (cH (ha pins s σ H _ I h) fun u s1 ⟨x,H1,I1,r1,q1⟩=>?_)
 exact cH (hr pos pins s1 σ H1 _ I1 q1) fun us s2 ⟨xs,H2,I2,r2,q2⟩=>⟨x :: xs,H2,I2,.cons r1 r2,q2⟩
def vX (t:TA):TE:=fun σ H Q=>t σ H fun xs H1=>xs.length≤sizeLine∧∀ p,H1 p=none→Q (.ref p) (upd H1 p (.tup xs))
def vY (t:TA):TE:=fun σ H Q=>t σ H fun xs H1=>xs.length≤sizeLine∧∀ p,H1 p=none→Q (.ref p) (upd H1 p (.lst xs))
theorem dR {x1} (h:PA X es t):PE X (.Tuple es x1 pos) (vX t):=by
 intro pins s σ H Q I hq
 refine wpAny_Tuple_spliced (cH (h pos pins s σ H _ I hq) fun us s1 ⟨xs,H1,I1,r,z,q⟩=>⟨by rw[←r.length];exact z,?_⟩)
 have hf:H1 s1.heap.objs.size=none:=I1.hok.fresh (Nat.le_refl _)
 refine⟨.ref s1.heap.objs.size,upd H1 s1.heap.objs.size (.tup xs),I1.laid (t':=s1.toks) (fun b u e=>Heap.get?_push_of_some _ e) (Nat.le_refl _) ?_,rfl,q _ hf⟩
 exact⟨z,us,r,⟨_,Heap.get?_push_size _ rfl,rfl,_,rfl⟩⟩
theorem aI (h:PA X es t):PE X (.List es pos) (vY t):=by
 intro pins s σ H Q I hq
 refine wpAny_List_spliced (cH (h pos pins s σ H _ I hq) fun us s1 ⟨xs,H1,I1,r,z,q⟩=>⟨by rw[←r.length];exact z,?_⟩)
 have hf:H1 s1.heap.objs.size=none:=I1.hok.fresh (Nat.le_refl _)
 refine⟨.ref s1.heap.objs.size,upd H1 s1.heap.objs.size (.lst xs),I1.laid (t':=s1.toks) (fun b u e=>Heap.get?_push_of_some _ e) (Nat.le_refl _) ?_,rfl,q _ hf⟩
 exact⟨z,us,0,r,Heap.get?_push_size _ rfl⟩
end
abbrev Sp:=List V→Hp→VK→XK→Prop
abbrev mq:=List Env→Hp→Shared→XK→Value→Shared→Prop
structure oS (P:Program) (w:World) (K:W.Frag) (mg:Str→Option Value) (base:Heap) (A:Around) (outer:List Env) (s:Shared) (H:Hp):Prop where
 frames:A.frames=some outer
 mod:Mod K mg base
 bs:∀ b o,base.get? b=some o→s.heap.get? b=some o∧H b=none
 pT:base.objs.size≤s.heap.objs.size
 gU:s.heap.FunFrames base outer
 rS:∀ b∈frs outer,H b=none
 hok:gi P w H s.heap
 bare:AllBare s.gens
def CE (outer:List Env) (P:Program) (w:World) (H:Hp) (s:Shared) (Q:VK) (u:Value) (s':Shared):Prop :=
 ∃ v H',s'.os=s.os∧AllBare s'.gens∧Un (frs outer) [] H H' s.heap s'.heap∧gi P w H' s'.heap∧RelV v u∧Q v H'
def CR (CX:mq) (outer:List Env) (P:Program) (w:World) (H:Hp) (s:Shared) (Q:VK) (E:XK) (r:Result) (s':Shared):Prop :=
 match r with
 | .ok (.ret u)=>CE outer P w H s Q u s'
 | .ok _=>False
 | .error e=>CX outer H s E e s'
structure aU (P:Program) (w:World) (K:W.Frag) (mg:Str→Option Value) (base:Heap) (CX:mq) (k:Nat) (f:Addr) (fd:FuncData) (ps:List Str) (sp:Sp):Prop where
 len:∀ vs H Q E,sp vs H Q E→vs.length=ps.length
 run:∀(A:Around) (outer:List Env) (s:Shared) (H:Hp) (args:Args) (us:List Value) (vs:List V) (Q:VK) (E:XK),dm k A→oS P w K mg base A outer s H→BindsTo s fd args (ps.zip us)→Vals vs us→sp vs H Q E →
  codeAny (model P w) A (.call (.ref f) args) (CR CX outer P w H s Q E) s
theorem aU.mono {P:Program}{w:World}{K:W.Frag}{mg:Str→Option Value}{base:Heap}{CX:mq}{j k:Nat}{f:Addr}{fd:FuncData}{ps:List Str}{sp:Sp} (F:aU P w K mg base CX j f fd ps sp) (h:j≤k) :
 aU P w K mg base CX k f fd ps sp:=⟨F.len,fun A outer s H args us vs Q E hr=>F.run A outer s H args us vs Q E (hr.mono h)⟩
section
variable {X:Cx}{pins:List (Addr×Obj)}{σ:St}{H:Hp}{s s':Shared}
theorem Inv.vZ (I:Inv X pins σ H s):oS X.prog X.w X.K X.mg X.base X.A X.stack s H :=
 ⟨I.ok.frames,I.ok.mod,I.bs,Nat.le_trans I.ok.pT I.sz,I.stack,I.lB,I.hok,I.bare⟩
theorem Inv.after {Q:VK}{u:Value} (I:Inv X pins σ H s) (h:CE X.stack X.prog X.w H s Q u s'):EP X pins σ Q u s':=by
 obtain⟨v,H',os,bare,un,hok,r,q⟩:=h
 obtain⟨hh,g,d,t,os'⟩:=s'
 obtain rfl:os'=s.os:=os
 exact⟨v,H',I.call (h':=hh) (g':=g) (d':=d) (t':=t) (ch:=[]) un hok bare (fun b z=>absurd z (by simp)),r,q⟩
end
def lI (sp:Sp) (oq:List V) (E:XK) (t:TA):TE:=fun σ H Q=>t σ H fun vs H1=>sp (vs++oq) H1 Q E
def Binds (K:W.Frag) (fd:FuncData) (ps:List Str) (ds:List Value):Prop :=
 ∀(s:Shared) (us:List Value),K.In s.heap→(us++ds).length=ps.length→BindsTo s fd ⟨us,[]⟩ (ps.zip (us++ds))
theorem Binds.all {K:W.Frag}{fd:FuncData}{ps:List Str} (h:∀ us:List Value,us.length=ps.length→bindArgs fd ⟨us,[]⟩=pure (ps.zip us)):Binds K fd ps []:=fun s us _ hl=>by
 rw[List.append_nil] at hl ⊢
 exact .of_eq (h us hl)
def Passes (CX:mq) (X:Cx) (E:XK):Prop:=∀(pins:List (Addr×Obj)) (σ:St) (H:Hp) (s:Shared) (e:Value) (s':Shared),Inv X pins σ H s→CX X.stack H s E e s'→X.xe e s'
section
variable {X:Cx}{CX:mq}{k:Nat}{f C:Addr}{fd:FuncData}{ps:List Str}{sp:Sp}{oq:List V}{ds:List Value}{E:XK}{x m:Str}{p pos apos:Pos}{e o:Expr}{es:List Expr}{ta:TE}{t:TA}
theorem nt {pins:List (Addr×Obj)}{σ:St}{H:Hp}{s:Shared}{Q:VK}{us:List Value}{vs:List V} (F:aU X.prog X.w X.K X.mg X.base CX k f fd ps sp) (hr:dm k X.A) (hb:Binds X.K fd ps ds) (hd:Vals oq ds) (hx:Passes CX X E)
  (I:Inv X pins σ H s) (r:Vals vs us) (h:sp (vs++oq) H Q E):wpAny (model X.prog X.w) X.A (call (.ref f) us) (EP X pins σ Q) X.xe s:=by
 have r2:Vals (vs++oq) (us++ds):=r.append hd
 have hl:(us++ds).length=ps.length:=by rw[←r2.length];exact F.len _ _ _ _ h
 refine wpAny_call (codeAny_mono (F.run X.A X.stack s H ⟨us,[]⟩ (us++ds) (vs++oq) Q E hr I.vZ (hb s us I.jQ hl) r2 h) fun r s' hq=>?_)
 cases r with
 | error e=>exact hx pins σ H s e s' I hq
 | ok fl =>
  cases fl with
  | ret u=>exact I.after hq
  | next=>exact False.elim hq
  | brk=>exact False.elim hq
  | cont=>exact False.elim hq
theorem oU (F:aU X.prog X.w X.K X.mg X.base CX k f fd ps sp) (hr:dm k X.A) (hg:Gl X x) (hm:X.mg x=some (.ref f)) (hk:W.keepIn X.K (.ref f)=true) (hb:Binds X.K fd ps ds) (hd:Vals oq ds) (hx:Passes CX X E)
  (ha:PA X (e :: es) t) (hdb:(x == ("__debug__" : Str))=false:=by decide) (he:starEach (e :: es) X.env=(false,eval e X.env) :: starEach es X.env:=by rfl) (hpl:(backTo pos (starEach es X.env)).any (·.1)=false:=by rfl) :
  PE X (.Call (.Name x p) (e :: es) [] pos) (lI sp oq E t):=by
 intro pins s σ H Q I h
 refine wpAny_Call_Name_kw (jl I hg hm ?_ hdb)
 refine W.callWith_K (h₀:=X.base) I.ok.mod.vE hk (cH (ha pos pins s σ H _ I h) fun us s1 ⟨vs,H1,I1,r,q⟩=>⟨I1.jQ,?_⟩) he hpl
 exact nt F hr hb hd hx I1 r q
theorem nu (F:aU X.prog X.w X.K X.mg X.base CX k f fd ps sp) (hr:dm k X.A) (hg:Gl X x) (hm:X.mg x=some (.ref f)) (hk:W.keepIn X.K (.ref f)=true) (hb:Binds X.K fd ps ds) (hd:Vals oq ds) (hx:Passes CX X E)
  (hdb:(x == ("__debug__" : Str))=false:=by decide):PE X (.Call (.Name x p) [] [] pos) (lI sp oq E qz):=by
 intro pins s σ H Q I h
 refine wpAny_Call_Name_kw (jl I hg hm ?_ hdb)
 exact W.callWith_K0 I.jQ hk (nt (us:=[]) F hr hb hd hx I .nil h)
end
section
variable {X:Cx}{CX:mq}{k:Nat}{f C:Addr}{fd:FuncData}{ps ks:List Str}{sp:Sp}{E:XK}{x m:Str}{p pos apos kpos:Pos}{e o:Expr}{es:List Expr}{kws:List Keyword}{te ta:TE}{t tk:TA}{nm:Option Str}
variable {g:List Value→List Value→List Value}{gV:List V→List V→List V}
end
structure aW (N P:List Str) (sc:Scope):Prop where
 kind:sc.kind=.function
 co:sc.isCoroutine=false
 gen:sc.isGenerator=false
 nd:N.Nodup
 pre:N.take P.length=P
 par:∀ x∈P,sc.names.lookup x=some .local∨sc.names.lookup x=some .cell
 qA:∀ y∈sc.names,y.2≠.free
theorem i0 {kindOf:Str→Option NameKind}{x:Str}:∀{binds:List (Str×Value)}{m:Str→Option Value},(∀ v,(x,v)∉binds)→bindL kindOf binds m x=m x
 | [],_,_=>rfl
 | (n,v) :: r,m,h=>by
  unfold bindL
  rw[i0 fun w hw=>h w (List.mem_cons_of_mem _ hw)]
  split
  ·have:x≠n:=by rintro rfl;exact h v List.mem_cons_self
   simp[this]
  ·rfl
theorem i6 {kindOf:Str→Option NameKind}{x:Str}:∀{binds:List (Str×Value)}{m:Str→Option Value},(∀ v,(x,v)∉binds)→bindC kindOf binds m x=m x
 | [],_,_=>rfl
 | (n,v) :: r,m,h=>by
  unfold bindC
  rw[i6 fun w hw=>h w (List.mem_cons_of_mem _ hw)]
  split
  ·rfl
  ·have:x≠n:=by rintro rfl;exact h v List.mem_cons_self
   simp[this]
theorem i7 {kindOf:Str→Option NameKind}{x:Str}{v:Value}:∀{P:List Str}{vs:List Value}{i:Nat}{m:Str→Option Value},P.Nodup→P[i]? = some x→vs[i]? = some v→kindOf x=some .local →
  bindL kindOf (P.zip vs) m x=some v
 | [],_,_,_,_,h,_,_=>by simp at h
 | _ :: _,[],_,_,_,_,h,_=>by simp at h
 | p :: P,w :: vs,0,m,nd,h1,h2,hk=>by
  simp at h1 h2;subst h1;subst h2
  show bindL kindOf ((p,w) :: P.zip vs) m p=_
  unfold bindL
  rw[i0 fun v hv=>(List.nodup_cons.mp nd).1 (List.of_mem_zip hv).1,if_pos hk]
  simp
 | p :: P,w :: vs,i+1,m,nd,h1,h2,hk=>by
  show bindL kindOf ((p,w) :: P.zip vs) m x=_
  unfold bindL
  exact i7 (i:=i) (List.nodup_cons.mp nd).2 (by simpa using h1) (by simpa using h2) hk
theorem i9 {kindOf:Str→Option NameKind}{x:Str}{v:Value}:∀{P:List Str}{vs:List Value}{i:Nat}{m:Str→Option Value},P.Nodup→P[i]? = some x→vs[i]? = some v→kindOf x≠some .local →
  bindC kindOf (P.zip vs) m x=some v
 | [],_,_,_,_,h,_,_=>by simp at h
 | _ :: _,[],_,_,_,_,h,_=>by simp at h
 | p :: P,w :: vs,0,m,nd,h1,h2,hk=>by
  simp at h1 h2;subst h1;subst h2
  show bindC kindOf ((p,w) :: P.zip vs) m p=_
  unfold bindC
  rw[i6 fun v hv=>(List.nodup_cons.mp nd).1 (List.of_mem_zip hv).1,if_neg hk]
  simp
 | p :: P,w :: vs,i+1,m,nd,h1,h2,hk=>by
  show bindC kindOf ((p,w) :: P.zip vs) m x=_
  unfold bindC
  exact i9 (i:=i) (List.nodup_cons.mp nd).2 (by simpa using h1) (by simpa using h2) hk
def start (N:List Str) (vs:List V):St:=vs.map some++List.replicate (N.length - vs.length) none
def mw (CX:mq) (P:Program) (w:World) (K:W.Frag) (mg:Str→Option Value) (base:Heap) (N:List Str) (qual:Str) (scope:Scope) (f:Addr) (cd:Value) (A:Around) (outer:List Env) (s:Shared) (H:Hp) (E:XK):Cx where
 prog:=P
 w:=w
 K:=K
 mg:=mg
 base:=base
 A:=A.deeper (envOfC qual scope s.heap.objs.size f cd)
 N:=N
 s₀:=s
 H₀:=H
 env:=envOfC qual scope s.heap.objs.size f cd
 outer:=outer
 stack:=envOfC qual scope s.heap.objs.size f cd :: outer
 ex:=[]
 calm:=true
 fn:=fun _=>true
 pn:=[]
 xe:=fun e s'=>wpAny (model P w) (A.deeper (envOfC qual scope s.heap.objs.size f cd)) (leaving (envOfC qual scope s.heap.objs.size f cd) e) (fun _ s''=>CX outer H s E e s'') (fun e' s''=>CX outer H s E e' s'') s'
theorem j3 {sc:Scope}{n:Nat}{x:Str} (h:sc.names.lookup x=some .cell):∃ c,(cellsFrom n sc.names []).lookup x=some c:=by
 have q:=W.cellsFrom_some sc.names n [] (.inl h)
 exact Option.isSome_iff_exists.mp q
theorem mC {CX:mq}{P:Program}{w:World}{K:W.Frag}{mg:Str→Option Value}{base:Heap}{N ps:List Str}{qual:Str}{scope:Scope}{f:Addr}{cd:Value}{A:Around}{outer:List Env}{s s1:Shared}{H:Hp}{E:XK}{us:List Value}{vs:List V}
  (S:aW N ps scope) (hd:A.handled=none) (e0:oS P w K mg base A outer s H) (hl:vs.length=ps.length) (r:Vals vs us)
  (x:InCallC s s.heap.objs.size (bindL (envOfC qual scope s.heap.objs.size f cd).kindOf (ps.zip us) fun _=>none) (cellsFrom (s.heap.objs.size+1) scope.names []) (bindC (envOfC qual scope s.heap.objs.size f cd).kindOf (ps.zip us) fun _=>none) s1) :
  Inv (mw CX P w K mg base N qual scope f cd A outer s H E) [] (start N vs) H s1:=by
 have hpl:ps.length≤N.length:=by have:=congrArg List.length S.pre;rw[List.length_take] at this;omega
 obtain⟨h1,tk,rfl,hk⟩:=x.done
 have sQ:∀ b:Addr,b∉(mw CX P w K mg base N qual scope f cd A outer s H E).ex:=fun b z=>absurd (show b∈([]:List Addr) from z) (by simp)
 refine⟨⟨e0.mod,S.kind,rfl,rfl,Nat.le_refl _,fun y z c h1 h2=>?_,fun y hy=>?_,fun y c _ h=>?_,fun _=>hd,Around.frames_deeper e0.frames,.inr ⟨rfl,rfl⟩,fun b z=>absurd z (sQ b),e0.bs,e0.pT,fun b _ _=>sQ b,fun b z=>absurd z (sQ b),e0.gU,e0.rS⟩,
  rfl,e0.bare,Un.kept hk,⟨_,x.toInCall.ns,fun i y v h1 h2 h3=>?_⟩,fun y c h=>⟨_,x.cell y c h⟩,e0.hok.fresh (Nat.le_refl _),fun y c h=>?_,fun p hp=>absurd (show p∈([]:List (Addr×Obj)) from hp) (by simp),e0.hok.kept hk,?_⟩
 ·exact name_of_addr x.apart (PySem.mem_of_lookup h1) (PySem.mem_of_lookup h2)
 ·have hy:scope.names.lookup y=some .cell∨scope.names.lookup y=some .free:=hy
  rcases hy with hy | hy
  ·exact j3 hy
  ·exact absurd rfl (S.qA _ (PySem.mem_of_lookup hy))
 ·exact Nat.le_of_lt (x.above y c (PySem.mem_of_lookup h))
 ·have hi:i < vs.length:=by
   unfold start at h2
   by_cases hi:i < vs.length
   ·exact hi
   ·rw[List.getElem?_append_right (by simpa using hi)] at h2
    rw[List.getElem?_replicate] at h2
    split at h2 <;> cases h2
  have ha:vs[i]? = some v:=by
   unfold start at h2
   rw[List.getElem?_append_left (by simpa using hi),List.getElem?_map] at h2
   cases e:vs[i]? with
   | none=>rw[e] at h2;cases h2
   | some a=>rw[e] at h2;cases h2;rfl
  obtain⟨u,hu,rv⟩:=r.get ha
  have hp:ps[i]? = some y:=by
   rw[←S.pre,List.getElem?_take_of_lt (by omega)];exact h1
  have yE:ps.Nodup:=by rw[←S.pre];exact S.nd.sublist (List.take_sublist _ _)
  refine⟨u,rv,?_⟩
  rcases S.par y (List.mem_of_getElem? hp) with k | k
  ·exact .inl ⟨k,i7 yE hp hu k⟩
  ·obtain⟨c,e⟩:=j3 (n:=s.heap.objs.size+1) k
   refine .inr ⟨.inl k,c,e,?_⟩
   have q:=x.cell y c e
   rw[i9 yE hp hu (by show scope.names.lookup y≠_;rw[k];decide)] at q
   exact q
 ·exact e0.hok.fresh (Nat.le_of_lt (x.above y c (PySem.mem_of_lookup h)))
 ·unfold start
  show _=N.length
  rw[List.length_append,List.length_map,List.length_replicate]
  omega
theorem sR {CX:mq}{P:Program}{w:World}{K:W.Frag}{mg:Str→Option Value}{base:Heap}{k:Nat}{f:Addr}{name qual:Str}{params:Arguments}{body:List Stmt}{scope:Scope}{dV kV doc pm cdv ct oc:Value}{an od:Option Addr}
  {osl:Array (Option Value)}{N ps:List Str}{sp:Sp} (lk:K.lookup f=some ⟨oc,od,.func (W.fnOf name qual params body scope dV kV doc pm an cdv ct),osl⟩) (hcd:W.codeIn K cdv qual=true) (S:aW N ps scope)
  (len:∀ vs H Q E,sp vs H Q E→vs.length=ps.length)
  (hbody:∀(A:Around) (outer:List Env) (s:Shared) (H:Hp) (vs:List V) (Q:VK) (E:XK),dm k (A.deeper (envOfC qual scope s.heap.objs.size f cdv))→sp vs H Q E →
   ∃ t,mV (mw CX P w K mg base N qual scope f cdv A outer s H E) body t∧t { nx:=fun _ H'=>Q .non H',rt:=Q } (start N vs) H) :
  aU P w K mg base CX (k+1) f (W.fnOf name qual params body scope dV kV doc pm an cdv ct) ps sp:=by
 refine⟨len,fun A outer s H args us vs Q E hr e0 hb r p7=>?_⟩
 have hl:=len _ _ _ _ p7
 have KX:K.In s.heap:=e0.mod.vE.keeps fun b o e=>(e0.bs b o e).1
 have lim:s.heap.NoLimit:=e0.mod.nolimit.keeps fun b o e=>(e0.bs b o e).1
 have hkind:∀ y∈ps.zip us,scope.names.lookup y.1=some .local∨(scope.names.lookup y.1=some .cell∧((cellsFrom (s.heap.objs.size+1) scope.names []).lookup y.1).isSome=true):=fun ⟨n,v⟩ hy=>by
  rcases S.par n (List.of_mem_zip hy).1 with q | q
  ·exact .inl q
  ·exact .inr ⟨q,W.cellsFrom_some _ _ _ (.inl q)⟩
 refine codeAny_call_function hr.depth (KX _ _ lk) rfl S.co S.gen rfl (W.codeRec_of KX hcd) (hb _ _ _ _ ?_)
 refine wpAny_newFunctionEnv_cells S.kind hkind fun env he s1 x=>?_
 subst he
 refine⟨lim.keeps x.toInCall.keep,codeAny_func ?_⟩
 obtain⟨t,ht,hq⟩:=hbody A outer s H vs Q E (hr.deeper _) p7
 have I:Inv (mw CX P w K mg base N qual scope f cdv A outer s H E) [] (start N vs) H s1:=mC S hr.hd e0 hl r x
 refine wpAny_mono (ht [] s1 (start N vs) H _ I hq) (fun fl s' hs=>?_) fun e s' hs=>hs
 have fin:∀{σ':St}{H':Hp}{v:V}{u:Value},Inv (mw CX P w K mg base N qual scope f cdv A outer s H E) [] σ' H' s'→RelV v u→Q v H'→CE outer P w H s Q u s' :=
  fun {σ' H' v u} J rv q=>⟨v,H',J.os,J.bare,J.base,J.hok,rv,q⟩
 cases fl with
 | ret u =>
  obtain⟨v,σ',H',J,rv,q⟩:=hs
  exact fin J rv q
 | next =>
  obtain⟨σ',H',J,q⟩:=hs
  exact fin (v:=V.non) (u:=Value.none) J rfl q
 | brk =>
  obtain⟨_,_,_,q⟩:=hs
  exact False.elim q
 | cont =>
  obtain⟨_,_,_,q⟩:=hs
  exact False.elim q
section
variable {X:Cx}{x:Str}{p pos:Pos}{e:Expr}{es:List Expr}{t:TA}{id T:String}{r:List V→Hp→VK→Prop}
def uU (r:List V→Hp→VK→Prop) (t:TA):TE:=fun σ H Q=>t σ H fun vs H1=>r vs H1 Q
theorem ny (hc:cg X (.builtin id) r) (hg:Gl X x) (hm:X.mg x=none) (hv:bootBuiltins x=some (.builtin id)) (ha:PA X (e :: es) t) (hn:x ≠ "__name__" := by decide) (hdb:(x == ("__debug__" : Str))=false:=by decide)
  (he:starEach (e :: es) X.env=(false,eval e X.env) :: starEach es X.env:=by rfl) (hpl:(backTo pos (starEach es X.env)).any (·.1)=false:=by rfl):PE X (.Call (.Name x p) (e :: es) [] pos) (uU r t):=by
 intro pins s σ H Q I h
 refine wpAny_Call_Name_kw (gj I hg hm hv ?_ hn hdb)
 exact PyProof.Rows.callWith_builtin1 (cH (ha pos pins s σ H _ I h) fun us s1 ⟨vs,H1,I1,r1,q1⟩=>hc pins s1 σ H1 vs us Q I1 r1 q1) he hpl
theorem mD (hc:cg X (.type T) r) (hg:Gl X x) (hm:X.mg x=none) (hv:bootBuiltins x=some (.type T)) (ha:PA X (e :: es) t) (hn:x ≠ "__name__" := by decide) (hdb:(x == ("__debug__" : Str))=false:=by decide)
  (he:starEach (e :: es) X.env=(false,eval e X.env) :: starEach es X.env:=by rfl) (hpl:(backTo pos (starEach es X.env)).any (·.1)=false:=by rfl):PE X (.Call (.Name x p) (e :: es) [] pos) (uU r t):=by
 intro pins s σ H Q I h
 refine wpAny_Call_Name_kw (gj I hg hm hv ?_ hn hdb)
 exact PyProof.Rows.callWith_type1 (cH (ha pos pins s σ H _ I h) fun us s1 ⟨vs,H1,I1,r1,q1⟩=>hc pins s1 σ H1 vs us Q I1 r1 q1) he hpl
end
end L2
namespace HT
open PySem PyProof.Rows
section
open PySem.SeqAt
open PySem.AutoSeq1 (wpAny_loadPart')
open PySem.MeetsSeq PySem.MeetsSeq2 PySem.MeetsSeq3
end
section
variable {prog:Program}{w:World}{A:Around}{E:Value→Shared→Prop}{s:Shared}
def jR (n d:Nat):Option Int→Nat
 | none=>d
 | some v=>if v < 0 then (v+(n:Int)).toNat else min v.toNat n
end
end HT
namespace L2
open PySem PySem.Spec PyProof.Rows
abbrev TO:=St→Hp→(Option Int→Hp→Prop)→Prop
def PO (X:Cx) (e:Option Expr) (t:TO):Prop :=
 ∀(pins:List (Addr×Obj)) (s:Shared) (σ:St) (H:Hp) (Q:Option Int→Hp→Prop),Inv X pins σ H s→t σ H Q →
  wpAny (model X.prog X.w) X.A (evalPart e X.env) (fun u s'=>∃ o H',Inv X pins σ H' s'∧IsPart u o∧Q o H') X.xe s
def oV:TO:=fun _ H Q=>Q none H
def sS (t:TE):TO:=fun σ H Q=>t σ H fun x H1=>∃ i,x=.int i∧Q (some i) H1
section
variable {X:Cx}{e:Expr}{te:TE}{lo hi:Option Expr}{tl th:TO}{pos p2:Pos}
theorem dS:PO X none oV:=by
 intro pins s σ H Q I h
 rw[evalPart_none]
 exact wpAny_pure ⟨none,H,I,.none,h⟩
theorem dU (h:PE X e te):PO X (some e) (sS te):=by
 intro pins s σ H Q I hw
 rw[evalPart_some]
 refine cH (h pins s σ H _ I hw) fun u s1 ⟨x,H1,I1,r1,q1⟩=>?_
 obtain⟨i,rfl,q⟩:=q1
 obtain⟨t,rfl⟩:=r1
 exact⟨some i,H1,I1,.int i t,q⟩
def v9 (X:Cx) (r:V→Option Int→Option Int→Hp→VK→Prop):Prop :=
 ∀(pins:List (Addr×Obj)) (s:Shared) (σ:St) (H:Hp) (x:V) (v vl vu:Value) (lo hi:Option Int) (sl:Addr) (Q:VK),Inv X pins σ H s→RelV x v→s.heap.IsSliceOf sl vl vu .none→IsPart vl lo→IsPart vu hi→r x lo hi H Q →
  ∃ T id,typeLookup (.type T) "__getitem__" = pure (some (.builtin id))∧s.TypeIs v T∧wpAny (model X.prog X.w) X.A (getItem v (.ref sl)) (EP X pins σ Q) X.xe s
def AF (r:V→Option Int→Option Int→Hp→VK→Prop) (te:TE) (tl th:TO):TE:=fun σ H Q=>te σ H fun x H1=>tl σ H1 fun l H2=>th σ H2 fun u H3=>r x l u H3 Q
theorem cY {r:V→Option Int→Option Int→Hp→VK→Prop} (hr:v9 X r) (he:PE X e te) (hl:PO X lo tl) (hu:PO X hi th):PE X (.Subscript e (.Slice lo hi none p2) pos) (AF r te tl th):=by
 intro pins s σ H Q I h
 refine Subscript_ (cH (he pins s σ H _ I h) fun v s1 ⟨x,H1,I1,r1,q1⟩=>?_)
 refine wpAny_Slice (cH (hl pins s1 σ H1 _ I1 q1) fun vl s2 ⟨l,H2,I2,pl,q2⟩=>cH (hu pins s2 σ H2 _ I2 q2) fun vu s3 ⟨u,H3,I3,pu,q3⟩=>?_)
 rw[evalPart_none]
 refine wpAny_pure ?_
 have I4:Inv X pins σ H3 { s3 with heap:=s3.heap.push { cls:=.type "slice",data:=.fields #[vl,vu,.none] } }:=I3.kept (t':=s3.toks) fun b ob q=>Heap.get?_push_of_some _ q
 obtain⟨T,id,hT,ht,hg⟩:=hr pins { s3 with heap:=s3.heap.push { cls:=.type "slice",data:=.fields #[vl,vu,.none] } } σ H3 x v vl vu l u s3.heap.objs.size Q I4 r1 (Heap.IsSliceOf.new ..) pl pu q3
 show wpAny (model X.prog X.w) X.A (subscriptTail e (.Slice lo hi none p2) v (.ref s3.heap.objs.size)) (EP X pins σ Q) X.xe { s3 with heap:=s3.heap.push { cls:=.type "slice",data:=.fields #[vl,vu,.none] } }
 exact tail_any (ops:=[.ref s3.heap.objs.size,v]) ht hT hg (by with_unfolding_all rfl)
def aL (xs:List V) (lo hi:Option Int):List V:=(xs.drop (HT.jR xs.length 0 lo)).take (HT.jR xs.length xs.length hi - HT.jR xs.length 0 lo)
theorem j4 (xs:List V) (lo hi:Option Int):(aL xs lo hi).length≤xs.length:=by
 unfold aL
 rw[List.length_take,List.length_drop]
 omega
end
def mW (n:Nat) (i:Int):Option Nat:=if 0≤i then (if i < n then some i.toNat else none) else if -(n:Int)≤i then some (i+n).toNat else none
def oW {α:Type} (xs:List α) (i:Int):Option α:=(mW xs.length i).bind fun j=>xs[j]?
theorem lJ {n:Nat}{i:Int}{j:Nat} (h:mW n i=some j):seqIndex? i n=some j∧j < n∧-(n:Int)≤i∧i < n:=by
 unfold mW at h
 by_cases h0:0≤i
 ·rw[if_pos h0] at h
  by_cases h1:i < n
  ·rw[if_pos h1] at h
   have e:i.toNat=j:=Option.some.inj h
   exact⟨by rw[seqIndex_of h0 h1,e],by omega,by omega,h1⟩
  ·rw[if_neg h1] at h;cases h
 ·rw[if_neg h0] at h
  by_cases h1 : -(n:Int)≤i
  ·rw[if_pos h1] at h
   have e:(i+n).toNat=j:=Option.some.inj h
   exact⟨by rw[seqIndex_neg (by omega) h1,e],by omega,h1,by omega⟩
  ·rw[if_neg h1] at h;cases h
theorem lK {α:Type}{xs:List α}{i:Int}{v:α} (h:oW xs i=some v):∃ j,seqIndex? i xs.length=some j∧xs[j]? = some v∧j < xs.length∧-(xs.length:Int)≤i∧i < xs.length:=by
 unfold oW at h
 cases e:mW xs.length i with
 | none=>rw[e] at h;cases h
 | some j =>
  rw[e] at h
  obtain⟨h1,h2,h3,h4⟩:=lJ e
  exact⟨j,h1,h,h2,h3,h4⟩
theorem oX {α:Type}{xs:List α}{j:Nat}{v:α} (h:xs[j]? = some v):oW xs (j:Int)=some v:=by
 have hj:j < xs.length:=(List.getElem?_eq_some_iff.mp h).1
 have e:mW xs.length (j:Int)=some j:=by
  unfold mW
  rw[if_pos (by omega),if_pos (by omega)];simp
 unfold oW;rw[e];exact h
def lM (b:Expr):Prop:=∀ o i,subscripted b false o i=operate [o,i] (getItem o i)
def uV (X:Cx) (r:R2):Prop :=
 ∀(value slice:Expr) (pins:List (Addr×Obj)) (s:Shared) (σ:St) (H:Hp) (x y:V) (v u:Value) (Q:VK),Inv X pins σ H s→RelV x v→RelV y u→r x y H Q →
  subscripted slice false v u=operate [v,u] (getItem v u)→wpAny (model X.prog X.w) X.A (subscriptTail value slice v u) (EP X pins σ Q) X.xe s
def yF (X:Cx) (id:String) (r:V→List V→Hp→VK→Prop):Prop :=
 ∀(pins:List (Addr×Obj)) (s:Shared) (σ:St) (H:Hp) (x:V) (xs:List V) (v:Value) (us:List Value) (Q:VK),Inv X pins σ H s→RelV x v→Vals xs us→r x xs H Q →
  wpAny (model X.prog X.w) X.A (call (.builtin id) (v :: us)) (EP X pins σ Q) X.xe s
section
variable {X:Cx}{a b:Expr}{ta tb:TE}{pos:Pos}
theorem nA {r:R2} (hr:uV X r) (ha:PE X a ta) (hb:PE X b tb) (hs:lM b):PE X (.Subscript a b pos) (oJ r ta tb):=by
 intro pins s σ H Q I h
 exact Subscript_ (qx ha hb I h fun v u s2 x y H2 I2 rx ry q=>hr a b pins s2 σ H2 x y v u Q I2 rx ry q (hs _ _))
def qB (K:W.Frag):R2:=fun x y H Q=>∃ p xs i v,x=.ref p∧y=.int i∧aD K H p xs∧oW xs i=some v∧Q v H
def wc:R2:=fun x y H Q=>∃ z i c,x=.str z∧y=.int i∧z.length≤sizeLine∧oW z.cps.toList i=some c∧Q (.str ⟨#[c]⟩) H
theorem oY:uV X (qB X.K):=by
 intro value slice pins s σ H x y v u Q I rx ry h hs
 obtain⟨p,xs,i,z,rfl,rfl,hq,he,q⟩:=h
 cases rx
 obtain⟨t,rfl⟩:=ry
 obtain⟨its,r,pl,hz⟩:=I.list hq
 obtain⟨j,h1,h2,h3,h4,h5⟩:=lK he
 obtain⟨w,ew,rw'⟩:=r.get h2
 have hl:=r.length
 have hn:=g4
 have fin:EP X pins σ Q w s:=⟨z,H,I,rw',q⟩
 by_cases h0:0≤i
 ·have hj:i.toNat=j:=by
   rw[seqIndex_of h0 h5] at h1
   exact Option.some.inj h1
  exact item_listR pl.isList h0 (by omega) (by rw[hj];simpa using ew) fin hs
 ·have hj:(i+(its.toArray.size:Int)).toNat=j:=by
   rw[seqIndex_neg (by omega) h4] at h1
   rw[List.size_toArray,←hl]
   exact Option.some.inj h1
  exact subscriptTail_builtinR (x:=w) pl.isList.typeIs slot_list_getitem.lookup
   (wpAny_getItem_list_neg (Q:=fun r s'=>r=w∧EP X pins σ Q r s') pl.isList (by omega) (by rw[List.size_toArray] <;> omega) (by omega) (by rw[hj];simpa using ew) ⟨rfl,fin⟩) hs
theorem nB:uV X wc:=by
 intro value slice pins s σ H x y v u Q I rx ry h hs
 obtain⟨z,i,c,rfl,rfl,hz,he,q⟩:=h
 obtain⟨t,rfl⟩:=rx
 obtain⟨t',rfl⟩:=ry
 obtain⟨j,h1,h2,h3,h4,h5⟩:=lK he
 have hl:z.cps.toList.length=z.length:=by simp[Str.length]
 rw[hl] at h1 h4 h5
 have hn:=g4
 exact tail_any (typeIs_str s z t) slot_str_getitem.lookup (getItem_str (c:=c) (by
  have e1:decide (i < -(2 ^ 63:Int))=false:=decide_eq_false (by omega)
  have e2:decide (i≥2 ^ 63)=false:=decide_eq_false (by omega)
  rw[e1,e2,Bool.or_false]) (by rw[h1];simpa using h2) ⟨.str ⟨#[c]⟩,H,I.tok _,⟨_,rfl⟩,q⟩) hs
theorem kG (its:List Value) (n j:Nat) (u:Value):Obj.mapSeq (·.setIfInBounds j u) { cls:=.type "list",data:=.seq its.toArray n }={ cls:=.type "list",data:=.seq (its.set j u).toArray n }:=by
 simp[Obj.mapSeq]
theorem Inv.lst {pins:List (Addr×Obj)}{σ:St}{H:Hp}{s:Shared}{p:Addr}{xs:List V} (I:Inv X pins σ H s) (h:H p=some (.lst xs)) :
  ∃(its:List Value) (n:Nat),Vals xs its∧s.heap.get? p=some { cls:=.type "list",data:=.seq its.toArray n }∧xs.length≤sizeLine:=by
 obtain⟨z,its,n,r,e⟩:=I.hok p _ h
 exact⟨its,n,r,e,z⟩
theorem Inv.qC {pins:List (Addr×Obj)}{σ:St}{H:Hp}{s:Shared}{p:Addr}{xs ys:List V}{its its':List Value}{n n':Nat}{f:Obj→Obj} (I:Inv X pins σ H s) (h:H p=some (.lst xs))
  (ho:s.heap.get? p=some { cls:=.type "list",data:=.seq its.toArray n }) (hf:f { cls:=.type "list",data:=.seq its.toArray n }={ cls:=.type "list",data:=.seq its'.toArray n' }) (r:Vals ys its') (hz:ys.length≤sizeLine) (t:Nat) :
  Inv X pins σ (upd H p (.lst ys)) { s with heap:=s.heap.update p f,toks:=t }:=by
 have e:(s.heap.update p f).get? p=some { cls:=.type "list",data:=.seq its'.toArray n' }:=by
  rw[Heap.get?_update_self f ho (by rw[hf] <;> rfl),hf]
 refine I.write (x:=p) (e:=p) (by rw[h];trivial) (.inl rfl) (fun b u hb q=>(Heap.get?_update_other _ _ (Ne.symm hb)).trans q) ⟨_,e⟩ ?_
 exact⟨hz,its',n',r,e⟩
def sU:V→V→V→Hp→(Hp→Prop)→Prop:=fun o i v H Q=>∃ p xs k j,o=.ref p∧i=.int k∧H p=some (.lst xs)∧mW xs.length k=some j∧Q (upd H p (.lst (xs.set j v)))
theorem set_list:sE X sU:=by
 intro pins s σ H o i v ov iv u Q I ro ri rv h
 obtain⟨p,xs,k,j,rfl,rfl,hp,hj,q⟩:=h
 cases ro
 obtain⟨t,rfl⟩:=ri
 obtain⟨its,n,r,ho,hz⟩:=I.lst hp
 obtain⟨h1,h2,h3,h4⟩:=lJ hj
 have hl:=r.length
 have hn:=g4
 have I':Inv X pins σ (upd H p (.lst (xs.set j v))) { s with heap:=s.heap.update p (Obj.mapSeq (·.setIfInBounds j u)) } :=
  I.qC hp ho (kG its n j u) (r.set rv j) (by rw[List.length_set];exact hz) s.toks
 by_cases h0:0≤k
 ·have hk:k.toNat=j:=by
   rw[seqIndex_of h0 h4] at h1
   exact Option.some.inj h1
  exact W.ki_setAt ho h0 (by omega) (by rw[List.size_toArray,←hl];exact h4) (by rw[hk];exact⟨_,I',q⟩)
 ·have hk:(k+(its.toArray.size:Int)).toNat=j:=by
   rw[seqIndex_neg (by omega) h3] at h1
   rw[List.size_toArray,←hl]
   exact Option.some.inj h1
  exact W.ki_setBack ho (by omega) (by rw[List.size_toArray,←hl];exact h3) (by omega) (by rw[hk];exact⟨_,I',q⟩)
theorem jo (lo hi:Option Int) (n:Nat):(sliceBounds lo hi none n).1=((HT.jR n 0 lo:Nat):Int)∧(sliceBounds lo hi none n).2.1=((HT.jR n n hi:Nat):Int)∧(sliceBounds lo hi none n).2.2=1:=by
 refine⟨?_,?_,rfl⟩
 ·cases lo with
  | none=>simp[sliceBounds,HT.jR]
  | some i =>
   simp only[sliceBounds,HT.jR,Option.getD_none,show(1:Int) > 0 by decide,if_true]
   by_cases h:i < 0
   ·simp only[h,if_true] <;> omega
   ·simp only[h,if_false] <;> omega
 ·cases hi with
  | none=>simp[sliceBounds,HT.jR]
  | some i =>
   simp only[sliceBounds,HT.jR,Option.getD_none,show(1:Int) > 0 by decide,if_true]
   by_cases h:i < 0
   ·simp only[h,if_true] <;> omega
   ·simp only[h,if_false] <;> omega
theorem iG (its:List Value) (lo hi:Option Int):slicePick its.toArray lo hi none=((its.drop (HT.jR its.length 0 lo)).take (HT.jR its.length its.length hi - HT.jR its.length 0 lo)).toArray:=by
 obtain⟨h1,h2,h3⟩:=jo lo hi its.toArray.size
 unfold slicePick
 rw[h1,h2,h3]
 simp only[sliceRange_one,pick_run,List.size_toArray] <;> rfl
def sV (K:W.Frag):V→Option Int→Option Int→Hp→VK→Prop:=fun x lo hi H Q=>∃ a xs,x=.ref a∧aD K H a xs∧∀ p,H p=none→Q (.ref p) (upd H p (.lst (aL xs lo hi)))
theorem oZ:v9 X (sV X.K):=by
 intro pins s σ H x v vl vu lo hi sl Q I rx hs pl pu h
 obtain⟨a,xs,rfl,hx,q⟩:=h
 cases rx
 obtain⟨its,r,ht,hz⟩:=I.list hx
 have hlen:=r.length
 refine⟨"list",_,slot_list_getitem.lookup,ht.isList.typeIs,?_⟩
 refine wpAny_getItem_list_slice ht.isList hs pl pu .none (by simp) ?_ (by rw[List.size_toArray] <;> omega)
 rw[iG,←hlen]
 refine⟨.ref s.heap.objs.size,_,I.laid (t':=s.toks) (o:=.lst (aL xs lo hi)) (fun b ob q=>Heap.get?_push_of_some _ q) (Nat.le_refl _) ?_,rfl,q _ (I.hok.fresh (Nat.le_refl _))⟩
 exact⟨Nat.le_trans (j4 xs lo hi) hz,_,0,(r.drop (HT.jR xs.length 0 lo)).take (HT.jR xs.length xs.length hi - HT.jR xs.length 0 lo),Heap.get?_push_size _ rfl⟩
def fO:V→Bool
 | .non=>true
 | .bl _=>true
 | .int _=>true
 | .str _=>true
 | _=>false
def sW:V→V→Bool
 | .non,.non=>true
 | .bl a,.bl b=>a == b
 | .bl a,.int b=>(if a then 1 else 0) == b
 | .int a,.bl b=>a == (if b then 1 else 0)
 | .int a,.int b=>a == b
 | .str a,.str b=>a == b
 | _,_=>false
theorem qD {A:Around}{s:Shared}{y x:V}{u v:Value} (ry:RelV y u) (rx:RelV x v) (fy:fO y=true) (fx:fO x=true):SeqAt.EqAt A s u v (sW y x):=by
 cases y with
 | non =>
  cases ry
  cases x with
  | non=>cases rx;exact SeqAt.EqAt.same _
  | bl b=>cases rx;exact SeqAt.EqAt.none_bool b
  | int b=>obtain⟨t,rfl⟩:=rx;exact SeqAt.EqAt.none_int b t
  | str b=>obtain⟨t,rfl⟩:=rx;exact SeqAt.EqAt.none_str b t
  | _=>exact absurd (show false=true from fx) Bool.false_ne_true
 | bl a =>
  cases ry
  cases x with
  | non=>cases rx;exact SeqAt.EqAt.bool_none a
  | bl b=>cases rx;exact SeqAt.EqAt.bool_bool a b
  | int b=>obtain⟨t,rfl⟩:=rx;exact SeqAt.EqAt.bool_int a b t
  | str b=>obtain⟨t,rfl⟩:=rx;exact SeqAt.EqAt.bool_str a b t
  | _=>exact absurd (show false=true from fx) Bool.false_ne_true
 | int a =>
  obtain⟨t',rfl⟩:=ry
  cases x with
  | non=>cases rx;exact SeqAt.EqAt.int_none a t'
  | bl b=>cases rx;exact SeqAt.EqAt.int_bool a t' b
  | int b=>obtain⟨t,rfl⟩:=rx;exact SeqAt.EqAt.int_int a t' b t
  | str b=>obtain⟨t,rfl⟩:=rx;exact SeqAt.EqAt.int_str a t' b t
  | _=>exact absurd (show false=true from fx) Bool.false_ne_true
 | str a =>
  obtain⟨t',rfl⟩:=ry
  cases x with
  | non=>cases rx;exact SeqAt.EqAt.str_none a t'
  | bl b=>cases rx;exact SeqAt.EqAt.str_bool a t' b
  | int b=>obtain⟨t,rfl⟩:=rx;exact SeqAt.EqAt.str_int a t' b t
  | str b=>obtain⟨t,rfl⟩:=rx;exact SeqAt.EqAt.str_str a t' b t
  | _=>exact absurd (show false=true from fx) Bool.false_ne_true
 | _=>exact absurd (show false=true from fy) Bool.false_ne_true
theorem jq:cg X (.builtin "len") (fun xs H Q=>∃ p ys,xs=[.ref p]∧(aD X.K H p ys∨jV X.K H p ys)∧Q (.int ys.length) H):=by
 intro pins s σ H xs us Q I r h
 obtain⟨p,ys,rfl,hq,q⟩:=h
 obtain⟨u,rfl,rx⟩:=vals1 r
 cases rx
 have hn:=g4
 rcases hq with hq | hq
 ·obtain⟨its,r',pl,hz⟩:=I.list hq
  have hlen:=r'.length
  exact Calls.call_len_list pl.isList (by simp only[List.size_toArray] <;> omega) ⟨.int ys.length,H,I.tok _,⟨s.toks+1,by rw[List.size_toArray,hlen]⟩,q⟩
 ·obtain⟨its,r',pl,hz⟩:=I.tuple hq
  have hlen:=r'.length
  exact len_tuple pl (by simp only[List.size_toArray] <;> omega) ⟨.int ys.length,H,I.tok _,⟨s.toks+1,by rw[List.size_toArray,hlen]⟩,q⟩
theorem cR:cg X (.builtin "len") (fun xs H Q=>∃ z,xs=[.str z]∧z.length≤sizeLine∧Q (.int z.length) H):=by
 intro pins s σ H xs us Q I r h
 obtain⟨z,rfl,hz,q⟩:=h
 obtain⟨u,rfl,t,rfl⟩:=vals1 r
 have hn:=g4
 exact len_str (by omega) ⟨.int z.length,H,I.tok _,⟨_,rfl⟩,q⟩
theorem jr:cg X (.type "list") (fun xs H Q=>∃ p ys,xs=[.ref p]∧(aD X.K H p ys∨jV X.K H p ys)∧∀ l,H l=none→Q (.ref l) (upd H l (.lst ys))):=by
 intro pins s σ H xs us Q I r h
 obtain⟨p,ys,rfl,hq,q⟩:=h
 obtain⟨u,rfl,rx⟩:=vals1 r
 cases rx
 have fin:∀(its:List Value),Vals ys its→ys.length≤sizeLine→∀(h':Heap) (c':Nat),(∀ b o',s.heap.get? b=some o'→h'.get? b=some o') →
   h'.get? s.heap.objs.size=some { cls:=.type "list",dict:=none,data:=.seq its.toArray c',slots:=#[] }→EP X pins σ Q (.ref s.heap.objs.size) { s with heap:=h' }:=fun its r' hz h' c' kp e =>
  ⟨.ref s.heap.objs.size,_,I.laid (t':=s.toks) kp (Nat.le_refl _) (show bH X.prog X.w _ h' _ (.lst ys) from ⟨hz,its,c',r',e⟩),rfl,q _ (I.hok.fresh (Nat.le_refl _))⟩
 rcases hq with hq | hq
 ·obtain⟨its,r',pl,hz⟩:=I.list hq
  have hlen:=r'.length
  obtain⟨o,ho,hc,n,hd⟩:=pl.isList
  exact call_list_seq p (.inl rfl) ho hc hd (fun h' c' kp e=>fin its r' hz h' c' kp e) (by simp only[List.size_toArray] <;> omega)
 ·obtain⟨its,r',pl,hz⟩:=I.tuple hq
  have hlen:=r'.length
  obtain⟨o,ho,hc,n,hd⟩:=pl
  exact call_list_seq p (.inr rfl) ho hc hd (fun h' c' kp e=>fin its r' hz h' c' kp e) (by simp only[List.size_toArray] <;> omega)
theorem iH:cg X (.type "tuple") (fun xs H Q=>∃ p ys,xs=[.ref p]∧((aD X.K H p ys∧∀ l,H l=none→Q (.ref l) (upd H l (.tup ys)))∨(jV X.K H p ys∧Q (.ref p) H))):=by
 intro pins s σ H xs us Q I r h
 obtain⟨p,ys,rfl,h⟩:=h
 obtain⟨u,rfl,rx⟩:=vals1 r
 cases rx
 rcases h with ⟨hq,q⟩ | ⟨hq,q⟩
 ·obtain⟨its,r',pl,hz⟩:=I.list hq
  have hlen:=r'.length
  refine call_tuple_list pl.isList (fun h' kp=>?_) (by simp only[List.size_toArray] <;> omega)
  have I1:Inv X pins σ H { s with heap:=h' }:=I.kept (t':=s.toks) kp
  have I2:Inv X pins σ (upd H h'.objs.size (.tup ys)) { s with heap:=h'.push { cls:=.type "tuple",data:=.seq its.toArray } } :=
   I1.laid (t':=s.toks) (fun b o e=>Heap.get?_push_of_some _ e) (Nat.le_refl _) (show bH X.prog X.w _ _ _ (.tup ys) from ⟨hz,its,r',IsTup.new _ _⟩)
  exact⟨.ref h'.objs.size,_,I2,rfl,q _ (I1.hok.fresh (Nat.le_refl _))⟩
 ·obtain⟨its,r',pl,hz⟩:=I.tuple hq
  exact call_tuple_same pl ⟨.ref p,H,I,rfl,q⟩
def yG (K:W.Frag) (T:String) (x:V) (H:Hp):Prop:=match x with
 | .str _=>T = "str"
 | .int _=>T = "int"
 | .ref p=>(T = "list"∧∃ xs,aD K H p xs)∨(T = "tuple"∧∃ o,K.lookup p=some o∧o.cls=.type "tuple"∧o.dict=none) ∨
   (T = "dict"∧((∃ kvs,H p=some (.dK kvs))∨∃ kvs,H p=some (.dT kvs)))∨(T = "set"∧∃ S n,H p=some (.set S n))
 | _=>False
theorem qE {pins:List (Addr×Obj)}{σ:St}{H:Hp}{s:Shared}{T:String}{x:V}{v:Value} (I:Inv X pins σ H s) (r:RelV x v) (ty:yG X.K T x H) :
  s.TypeIs v T∧∀ a,v=.ref a→∃ ob,s.heap.get? a=some ob∧ob.dict=none:=by
 cases x with
 | str z =>
  obtain⟨t,rfl⟩:=r
  cases(show T = "str" from ty)
  exact⟨typeIs_str s z t,fun _ e=>nomatch e⟩
 | int i =>
  obtain⟨t,rfl⟩:=r
  cases(show T = "int" from ty)
  exact⟨typeIs_int s i t,fun _ e=>nomatch e⟩
 | ref p =>
  cases r
  rcases ty with ⟨rfl,xs,hq⟩ | ⟨rfl,o,hk,hc,hd⟩ | ⟨rfl,hk⟩ | ⟨rfl,S,n,hk⟩
  ·obtain⟨its,_,pl,_⟩:=I.list hq
   refine⟨pl.isList.typeIs,fun a e=>?_⟩
   cases e
   obtain⟨o,n,e,c,hd,_⟩:=pl
   exact⟨o,e,hd⟩
  ·refine⟨⟨o,I.jQ p o hk,hc⟩,fun a e=>?_⟩
   cases e
   exact⟨o,I.jQ _ o hk,hd⟩
  ·have z:∃ o,s.heap.get? p=some o∧o.ExactDict:=by
    rcases hk with ⟨kvs,hk⟩ | ⟨kvs,hk⟩
    ·obtain⟨_,_,_,_,o,_,_,e,ex,_⟩:=I.hok p _ hk
     exact⟨o,e,ex⟩
    ·obtain⟨_,_,_,_,o,_,_,e,ex,_⟩:=I.hok p _ hk
     exact⟨o,e,ex⟩
   obtain⟨o,e,ex⟩:=z
   refine⟨⟨o,e,ex.1⟩,fun a e2=>?_⟩
   cases e2
   exact⟨o,e,ex.2.1⟩
  ·obtain⟨o,_,_,_,e,ex,_⟩:=I.hok p _ hk
   refine⟨⟨o,e,ex.1⟩,fun a e2=>?_⟩
   cases e2
   exact⟨o,e,ex.2.1⟩
 | _=>exact False.elim ty
def yH (K:W.Frag) (T:String) (r:V→List V→Hp→VK→Prop) (to:TE) (t:TA):TE:=fun σ H Q=>to σ H fun x H1=>yG K T x H1∧t σ H1 fun xs H2=>r x xs H2 Q
variable {o e:Expr}{es:List Expr}{to:TE}{t:TA}{name:Str}{apos cpos:Pos}{T id:String}{r:V→List V→Hp→VK→Prop}
theorem sX (pa:PlainAttrs T) (slot:Slot T name id) (hty:typeOf (.builtin id)=pure (.type "method_descriptor")) (hm:yF X id r) (ho:PE X o to) (ha:PA X (e :: es) t)
  (hbase:attributeBase o name X.env (eval o X.env)=eval o X.env:=by rfl)
  (hfew:((backTo cpos (starEach (e :: es) X.env)).all (fun x=>!x.1) && (backToKw cpos (keywordEach [] X.env)).all (fun x=>x.1.isSome)
   && decide ((e :: es).length+([]:List Keyword).length+(if ([]:List Keyword).isEmpty then 0 else 1) < 30))=true:=by rfl)
  (hline:(apos.endLine == cpos.line)=true:=by rfl) (hs:starEach (e :: es) X.env=(false,eval e X.env) :: starEach es X.env:=by rfl) (hplain:(backTo cpos (starEach es X.env)).any (·.1)=false:=by rfl) :
  PE X (.Call (.Attribute o name apos) (e :: es) [] cpos) (yH X.K T r to t):=by
 intro pins s σ H Q I h
 refine wpAny_Call_method_late hbase hfew hline rfl (cH (ho pins s σ H _ I h) fun v s1 ⟨x,H1,I1,r1,ty,q1⟩=>?_)
 obtain⟨h1,h2⟩:=qE I1 r1 ty
 refine⟨T,id,pa,slot,hty,h1,h2,?_⟩
 have hA:=ha cpos pins s1 σ H1 _ I1 q1
 rw[hs] at hA ⊢
 refine Calls.callWith_builtin (by show(false || (backTo cpos (starEach es X.env)).any (·.1))=false;rw[hplain] <;> rfl) (Calls.evalArgs_plain ?_)
 exact cH hA fun us s2 ⟨vs,H2,I2,r2,q2⟩=>hm pins s2 σ H2 x vs v us Q I2 r1 r2 q2
end
def AG (X:Cx) (id:String) (r:V→List V→Hp→VK→Prop):Prop :=
 ∀(pins:List (Addr×Obj)) (s:Shared) (σ:St) (H:Hp) (x:V) (xs:List V) (v:Value) (us:List Value) (Q:VK),Inv X pins σ H s→RelV x v→Vals xs us→r x xs H Q →
  wpAny (model X.prog X.w) X.A (call (.builtin id) (v :: us)) (EP X pins σ Q) X.xe s
theorem Vals.one:∀{x:V}{us:List Value},Vals [x] us→∃ u,us=[u]∧RelV x u
 | _,_,.cons r .nil=>⟨_,rfl,r⟩
theorem Vals.reverse {xs:List V}{us:List Value} (h:Vals xs us):Vals xs.reverse us.reverse:=by
 induction h with
 | nil=>exact .nil
 | cons r t ih=>rw[List.reverse_cons,List.reverse_cons];exact Vals.append ih (.cons r .nil)
section
variable {X:Cx}{pins:List (Addr×Obj)}{σ:St}{H:Hp}{s:Shared}{l b:Addr}{xs ys zs:List V}
theorem Inv.wg {its its':List Value}{n:Nat}{f:Array Value→Array Value}{t':Nat} (I:Inv X pins σ H s) (hH:H l=some (.lst xs))
  (e:s.heap.get? l=some { cls:=.type "list",data:=.seq its.toArray n }) (hf:f its.toArray=its'.toArray) (hv:Vals ys its') (hz:ys.length≤sizeLine) :
  Inv X pins σ (upd H l (.lst ys)) { s with heap:=s.heap.update l (Obj.mapSeq f),toks:=t' }:=by
 have q:=PySem.IsL.update e f
 rw[hf] at q
 refine I.write (x:=l) (e:=l) (by rw[hH];exact trivial) (.inl rfl) (fun b' u hb hu=>(Heap.get?_update_other s.heap (Obj.mapSeq f) (Ne.symm hb)).trans hu) ⟨_,q⟩ ?_
 exact⟨hz,its',_,hv,q⟩
theorem Inv.sY {its:List Value}{t':Nat} (I:Inv X pins σ H s) (hv:Vals ys its) (hz:ys.length≤sizeLine) :
  Inv X pins σ (upd H s.heap.objs.size (.lst ys)) { s with heap:=s.heap.push { cls:=.type "list",data:=.seq its.toArray },toks:=t' } :=
 I.laid (fun _ _ q=>Heap.get?_push_of_some _ q) (Nat.le_refl _) ⟨hz,its,0,hv,Heap.get?_push_size _ rfl⟩
theorem Inv.fresh (I:Inv X pins σ H s):H s.heap.objs.size=none:=I.hok.fresh (Nat.le_refl _)
theorem Inv.qF (I:Inv X pins σ H s) (hH:H l=some (.lst xs)):xs.length≤sizeLine∧∃(its:List Value) (n:Nat),Vals xs its∧xs.length=its.length∧s.heap.get? l=some { cls:=.type "list",data:=.seq its.toArray n }:=by
 obtain⟨z,its,n,r,e⟩:=I.hok l _ hH
 exact⟨z,its,n,r,r.length,e⟩
end
section
variable {X:Cx}
def o4:V→List V→Hp→VK→Prop:=fun x vs H Q=>∃ l xs y,x=.ref l∧vs=[y]∧H l=some (.lst xs)∧xs.length < sizeLine∧Q .non (upd H l (.lst (xs++[y])))
theorem fc:AG X "list.append" o4:=by
 intro pins s σ H x vs v us Q I rx rv h
 obtain⟨l,xs,y,rfl,rfl,hH,hz,q⟩:=h
 cases rx
 obtain⟨u,rfl,ru⟩:=rv.one
 obtain⟨z,its,n,r,hl,e⟩:=I.qF hH
 refine call_meets F.slot_list_append ⟨_,e,rfl⟩ F.entry_list_append (F.args_list_append_2 _ _) (PySem.list_append l its.toArray n u (by rw[List.size_toArray];omega)) ⟨e,?_⟩
 refine⟨.non,_,I.wg (its':=its++[u]) hH e (by simp) (r.append (.cons ru .nil)) ?_,rfl,q⟩
 rw[List.length_append,List.length_singleton]
 omega
def wj:R2:=fun x y H Q=>∃ l b xs zs,x=.ref l∧y=.ref b∧H l=some (.lst xs)∧H b=some (.lst zs)∧xs.length+zs.length≤sizeLine∧∀ p,H p=none→Q (.ref p) (upd H p (.lst (xs++zs)))
theorem eN:fk X (binaryOp .Add) wj:=by
 intro pins s σ H x y v u Q I rx ry h
 obtain⟨l,b,xs,zs,rfl,rfl,hH,hB,hz,q⟩:=h
 cases rx
 cases ry
 obtain⟨z,its,n,r,hl,e⟩:=I.qF hH
 obtain⟨z2,its2,n2,r2,hl2,e2⟩:=I.qF hB
 refine PySem.P.add_list e e2 ?_ (by rw[List.size_toArray,List.size_toArray];omega)
 have ea:its.toArray++its2.toArray=(its++its2).toArray:=by simp
 rw[ea]
 exact⟨.ref _,_,I.sY (t':=s.toks) (r.append r2) (by rw[List.length_append];omega),rfl,q _ I.fresh⟩
end
section
variable {prog:Program}{w:World}{A:Around}{E:Value→Shared→Prop}{s:Shared}
set_option maxRecDepth 100000 in
end
section
variable {X:Cx}
end
end L2
namespace Att
open PySem PySem.W PySem.Calls PyProof.Rows
theorem gG {P:Params}{h:Heap}:∀(ns:List Int) (vs:List Value),WellAll P h vs (ns.map WData.int)→IntsAre vs ns:=by
 intro ns
 induction ns with
 | nil =>
  intro vs w
  rw[List.map_nil] at w
  cases w
  exact .nil
 | cons n ns ih =>
  intro vs w
  rw[List.map_cons] at w
  cases w with
  | cons a b =>
   cases a
   exact .cons _ _ (ih _ b)
theorem mE {l:OpenLaw}{n:Nat} (hn:l.most=some n) {P:Params}{h:Heap}{args:List WData}{vals:List Value}
  (hpre:l.row.toRowW.claim.pre args=true) (hwl:WellAll P h vals args) :
  ∃ a vs ns,vals=[Value.ref a]∧args=[WData.list (ns.map WData.int)]∧h.get? a=some { cls:=.type "list",data:=.seq vs.toArray }∧IntsAre vs ns∧ns.length≤n:=by
 have hsh:WShape.hasAll [] args [.list .int]=true:=(pre_splitW hpre).1
 have hc:l.pre.holds [] { args:=args }=true:=(pre_splitW hpre).2
 obtain⟨d,r,rfl,h1,h2⟩:=hasAllW_cons hsh
 obtain rfl:=hasAllW_nil h2
 obtain⟨xs,rfl,h3⟩:=hasW_list h1
 obtain⟨ns,rfl⟩:=items_int h3
 have hlen:ns.length≤n:=by
  unfold OpenLaw.pre at hc
  have h4:(WTm.not (.lt (.lit (.int (n:Int))) (.len (.arg 0)))).holds [] { args:=[.list (ns.map .int)] }=true:=by
   have h4:=(holds_andW hc).1
   rw[hn] at h4
   exact h4
  have h5:=condW_of h4 (w_not (w_lt w_lit (w_len_list (w_arg rfl))))
  rw[List.length_map] at h5
  refine Nat.le_of_not_lt fun q=>?_
  have q':(n:Int) < ((ns.length:Nat):Int):=by omega
  first
   | (rw[decide_eq_true q'] at h5;exact absurd h5 (by decide))
   | (simp at h5;omega)
 cases hwl with
 | cons w1 w2 =>
  cases w2
  cases w1 with
  | list ho hall=>exact⟨_,_,ns,rfl,rfl,ho,gG ns _ hall,hlen⟩
theorem mF (l:OpenLaw) (args:List WData):l.row.toRowW.claim.post args (.bool true) args=true :=
 postW_of (r:=l.row.toRowW) (X:=(true == true))
  (show WShape.has [] (.bool true) .bool=true by first | rfl | decide | simp[WShape.has,WShape.arms,WShape.armsAll])
  (show(WTm.eq .res (.lit (.bool true))).value [] { args:=args,res:=some (.bool true),after:=args }=some (.bool (true == true)) from w_eq_bool (w_res rfl) w_lit) rfl
theorem j5 {l:OpenLaw}{n:Nat}{q:Program}{loose:List Str}{XP:(Str→Option Value)→Heap→Prop}{YP:World→Heap→Prop}{d:DefRec}
  (hn:l.most=some n) (hdf:d.params.defaults=[])
  (call:∀(w:World) (s₀ s₁:Shared) (mg mb:Str→Option Value) (fa:Addr) (o:Obj) (pm cd doc:Value) (a:Addr) (vs:List Value) (ns:List Int),
   Ground q loose [] XP w s₀ mg mb s₁.heap→YP w s₁.heap →
   s₁.heap.get? fa=some o→o.data=.func (docDef d.name d.params d.body d.scope pm cd doc)→s₁.heap.CodeRec cd d.name→mg d.name=some (.ref fa) →
   s₁.heap.get? a=some { cls:=.type "list",data:=.seq vs.toArray }→IntsAre vs ns→ns.length≤n→s₁.gens = #[] →
   codeAny (model l.prog w) callerA (.call (.ref fa) ⟨[.ref a],[]⟩) (fun r s'=>r=.ok (.ret (.bool true))∧OldK s₁.heap s'.heap∧s'.os=s₁.os∧AllBare s'.gens) s₁) :
  WalkO q loose XP YP l.row.toRowW d [] (fun f vs=>PySem.call f vs):=by
 intro w s₀ s₁ mg mb G Y fa o pm cd doc dV kV ho hd hcd hD hmg hg args vals as hpre hlay hrd hwl hlo
 obtain rfl:dV=.none:=Dflts.none hD hdf
 obtain rfl:kV=.none:=Dflts.noKw hD
 obtain⟨a,vs,ns,rfl,rfl,hobj,hints,hlen⟩:=mE hn hpre hwl
 refine enter_call (codeAny_mono (call w s₀ s₁ mg mb fa o pm cd doc a vs ns G Y ho (fd_plain hd) hcd hmg hobj hints hlen hg) fun r s' hq=>?_)
 obtain⟨rfl,h2,h3,h4⟩:=hq
 exact⟨.inl ⟨.bool true,.bool true,[],rfl,fun _=>rfl,.bool true,mF l _,fun _=>⟨List.Pairwise.nil,fun _ hm=>(nomatch hm)⟩⟩,h2,h3,h4⟩
section
variable {prog:Program}{w:World}{A:Around}{E:Value→Shared→Prop}{s:Shared}{K:Frag}
end
end Att
namespace L2
open PySem PySem.Spec PyProof.Rows
theorem ja:∀{vs:List Value}{ns:List Int},IntsAre vs ns→Vals (ns.map V.int) vs
 | _,_,.nil=>.nil
 | _,_,.cons n t h=>.cons ⟨t,rfl⟩ (ja h)
def qG (H:Hp):Prop:=∀ b,H b=none∨∃ o xs,H b=some (.lA o (.lst xs))
theorem nC {P:Program}{w:World}{K:W.Frag}{mg mb:Str→Option Value}{CX:mq}{k:Nat}{fa a:Addr}{fd:FuncData}{x:Str}{sp:Sp}{s₁:Shared}{vs:List Value}{ns:List Int}
  (KX:K.In s₁.heap) (hns:s₁.heap.Ns mainGlobals mg) (hb:s₁.heap.Ns builtinsNs mb) (AH:∀ x:Str,x ≠ "__name__"→mb x=bootBuiltins x) (hlim:s₁.heap.NoLimit) (hg:s₁.gens = #[])
  (ha:s₁.heap.get? a=some { cls:=.type "list",data:=.seq vs.toArray }) (hi:IntsAre vs ns) (hl:ns.length≤sizeLine) (hr:dm k callerA)
  (F:∀ base:Heap,K.In base→base.Ns mainGlobals mg→aU P w K mg base CX k fa fd [x] sp) (hbind:∀(s:Shared) (u:Value),BindsTo s fd ⟨[u],[]⟩ [(x,u)])
  (p7:∀ H:Hp,qG H→aD K H a (ns.map V.int)→sp [.ref a] H (fun v _=>v=.bl true) fun _ _ _=>False)
  (wk:∀ H e s',CX [] H s₁ (fun _ _ _=>False) e s'→False) :
  codeAny (model P w) callerA (.call (.ref fa) ⟨[.ref a],[]⟩) (fun r s'=>r=.ok (.ret (.bool true))∧OldK s₁.heap s'.heap∧s'.os=s₁.os∧AllBare s'.gens) s₁:=by
 have rv:=ja hi
 have wm:=hi.length
 have core:∀ H:Hp,qG H→aD K H a (ns.map V.int)→gi P w H s₁.heap→(∀ b,H b≠none→b=a)→(H a≠none→K.lookup a=none) →
   codeAny (model P w) callerA (.call (.ref fa) ⟨[.ref a],[]⟩) (fun r s'=>r=.ok (.ret (.bool true))∧OldK s₁.heap s'.heap∧s'.os=s₁.os∧AllBare s'.gens) s₁:=by
  intro H hO hS hok hA hK
  have lN:∀{b:Addr}{o:Obj},s₁.heap.get? b=some o→H b=none→(jj s₁.heap H).get? b=some o:=fun e n=>mY e n
  have sQ:∀{b:Addr}{o:Obj}{es:Array DictEntry}{ep:Nat},s₁.heap.get? b=some o→o.data=.dict es ep→H b=none:=fun {b o es ep} e d=>by
   cases q:H b with
   | none=>rfl
   | some u =>
    have e':b=a:=hA b (by rw[q];simp)
    subst e'
    rw[ha] at e;cases e
    have d':Data.seq vs.toArray _=Data.dict es ep:=d
    cases d'
  have uW:∀{b:Addr}{m:Str→Option Value},s₁.heap.Ns b m→(jj s₁.heap H).Ns b m:=fun {b m} ⟨o,es,ep,e,d,r⟩=>⟨o,es,ep,lN e (sQ e d),d,r⟩
  have yI:K.In (jj s₁.heap H):=fun b o e=>lN (KX b o e) (by
   cases q:H b with
   | none=>rfl
   | some u =>
    have e':b=a:=hA b (by rw[q];simp)
    subst e'
    rw[hK (by rw[q];simp)] at e;cases e)
  have hM:Mod K mg (jj s₁.heap H):=⟨yI,uW hns,⟨mb,uW hb,AH⟩,let ⟨mc,h1,h2⟩:=hlim;⟨mc,uW h1,h2⟩⟩
  have e0:oS P w K mg (jj s₁.heap H) callerA [] s₁ H:=⟨rfl,hM,fun b o e=>ow e,Nat.le_of_eq (lW _ _),trivial,fun b hb=>absurd (show b∈([]:List Addr) from hb) (by simp),hok,.of_eq hg⟩
  refine codeAny_mono ((F _ yI (uW hns)).run callerA [] s₁ H ⟨[.ref a],[]⟩ [.ref a] [.ref a] _ _ hr e0 (hbind s₁ (.ref a)) (.cons rfl .nil) (p7 H hO hS)) fun r s' h=>?_
  cases r with
  | error e=>exact(wk H e s' h).elim
  | ok fl =>
   cases fl with
   | next=>exact False.elim h
   | brk=>exact False.elim h
   | cont=>exact False.elim h
   | ret u =>
    obtain⟨v,H',os,bare,un,wo,r',q⟩:=h
    have q':v=.bl true:=q
    subst q'
    obtain rfl:u=Value.bool true:=r'
    refine⟨rfl,OldK.of_keep fun b o e=>?_,os,bare⟩
    cases q:H b with
    | none=>exact un.keep b o e q (by intro z;exact absurd (show b∈([]:List Addr) from z) (by simp)) (by simp)
    | some u =>
     rcases hO b with z | ⟨ob,xs,z⟩
     ·rw[q] at z;cases z
     ·have z2:=un.ji b ob _ z
      obtain⟨e1,_⟩:=hok b _ z
      obtain⟨e2,_⟩:=wo b _ z2
      rw[e] at e1;cases e1
      exact e2
 cases hk:K.lookup a with
 | some o =>
  have e:=KX a o hk
  rw[ha] at e
  cases e
  refine core (fun _=>none) (fun _=>.inl rfl) (.inr ⟨_,vs.toArray,_,hk,rfl,rfl,rfl,by rw[List.size_toArray,wm];exact hl,by simpa using rv⟩) (fun b u z=>by have z':(none:Option HO)=some u:=z;cases z') (fun b z=>absurd rfl z) fun z=>absurd rfl z
 | none =>
  refine core (fun b=>if b=a then some (.lA { cls:=.type "list",data:=.seq vs.toArray } (.lst (ns.map V.int))) else none) (fun b=>?_) (.inl (.inr ⟨{ cls:=.type "list",data:=.seq vs.toArray },if_pos rfl⟩)) (fun b u z=>?_) (fun b z=>?_) fun _=>hk
  ·by_cases hb:b=a
   ·exact .inr ⟨_,_,if_pos hb⟩
   ·exact .inl (if_neg hb)
  ·by_cases hb:b=a
   ·have z':=(if_pos hb).symm.trans z
    cases z'
    subst hb
    exact⟨ha,by rw[List.length_map];exact hl,vs,_,rv,ha⟩
   ·have z':=(if_neg hb).symm.trans z
    cases z'
  ·by_cases hb:b=a
   ·exact hb
   ·exact absurd (if_neg hb) z
theorem o5 {l:W.OpenLaw}{n k:Nat}{q:Program}{loose:List Str}{XP:(Str→Option Value)→Heap→Prop}{YP:World→Heap→Prop}{d:DefRec}{K:Params→W.Frag}{CX:World→mq}{sp:World→Sp}{x:Str}
  (hn:l.most=some n) (hn2:n≤sizeLine) (hdf:d.params.defaults=[]) (hr:dm k callerA)
  (hY:∀(w:World) (h:Heap),YP w h→(K w.params).In h)
  (F:∀(w:World) (mg:Str→Option Value) (fa:Addr) (h:Heap),(K w.params).In h→h.Ns mainGlobals mg→mg d.name=some (.ref fa) →
   ∃ fd:FuncData,(∀(s:Shared) (u:Value),BindsTo s fd ⟨[u],[]⟩ [(x,u)]) ∧
    ∀ base:Heap,(K w.params).In base→base.Ns mainGlobals mg→aU l.prog w (K w.params) mg base (CX w) k fa fd [x] (sp w))
  (p7:∀(w:World) (H:Hp) (a:Addr) (ns:List Int),ns.length≤n→qG H→aD (K w.params) H a (ns.map V.int)→sp w [.ref a] H (fun v _=>v=.bl true) fun _ _ _=>False)
  (wk:∀(w:World) (H:Hp) (s:Shared) (e:Value) (s':Shared),CX w [] H s (fun _ _ _=>False) e s'→False) :
  W.WalkO q loose XP YP l.row.toRowW d [] (fun f vs=>PySem.call f vs):=by
 refine Att.j5 hn hdf fun w s₀ s₁ mg mb fa o pm cd doc a vs ns G Y ho hd hcd hmg hobj hints hlen hg=>?_
 have KX:=hY w _ Y
 obtain⟨fd,hb,hF⟩:=F w mg fa _ KX G.T.g hmg
 exact nC KX G.T.g G.T.b G.T.builtins G.T.nolimit hg hobj hints (Nat.le_trans hlen hn2) hr hF hb (fun H hO hS=>p7 w H a ns hlen hO hS) fun H e s'=>wk w H s₁ e s'
def cS (s:Stmt):Arguments:=match s with
 | .FunctionDef _ a _ _ _ _ _ _ _ _=>a
 | _=>{ posonlyargs:=[],args:=[],vararg:=none,kwonlyargs:=[],kw_defaults:=[],kwarg:=none,defaults:=[] }
def cK (s:Stmt):List Stmt:=match s with
 | .FunctionDef _ _ b _ _ _ _ _ _ _=>b
 | _=>[]
def ay (s:Stmt):Scope:=match s with
 | .FunctionDef _ _ _ _ _ _ sc _ _ _=>sc
 | _=>{ kind:=.function,names:=[],isGenerator:=false,isCoroutine:=false }
abbrev dF:mq:=fun _ _ _ _ _ _=>False
abbrev E0:XK:=fun _ _ _=>False
theorem p9 {X:Cx}:Passes dF X E0:=fun _ _ _ _ _ _ _ h=>h.elim
structure gQ (K:W.Frag) (x qual:Str) (st:Stmt) (f:Addr) (fd:FuncData):Prop where
 ex:∃(oc:Value) (od:Option Addr) (kV doc pm:Value) (an:Option Addr) (cdv ct:Value) (osl:Array (Option Value)),
  fd=W.fnOf x qual (cS st) (cK st) (ay st) .none kV doc pm an cdv ct∧K.lookup f=some ⟨oc,od,.func fd,osl⟩∧W.codeIn K cdv qual=true
 kp:W.keepIn K (.ref f)=true
section
variable {P:Program}{w:World}{K:W.Frag}{mg:Str→Option Value}{base:Heap}
theorem gQ.ok {x qual:Str}{st:Stmt}{f:Addr}{fd:FuncData}{N ps:List Str}{k:Nat}{sp:Sp} (F:gQ K x qual st f fd) (S:aW N ps (ay st)) (len:∀ vs H Q E,sp vs H Q E→vs.length=ps.length)
  (hbody:∀(cdv:Value) (A:Around) (outer:List Env) (s:Shared) (H:Hp) (vs:List V) (Q:VK) (E:XK),dm k (A.deeper (envOfC qual (ay st) s.heap.objs.size f cdv))→sp vs H Q E →
   ∃ t,mV (mw dF P w K mg base N qual (ay st) f cdv A outer s H E).uS (cK st) t∧t { nx:=fun _ H'=>Q .non H',rt:=Q } (start N vs) H):aU P w K mg base dF (k+1) f fd ps sp:=by
 obtain⟨oc,od,kV,doc,pm,an,cdv,ct,osl,rfl,lk,hcd⟩:=F.ex
 refine sR lk hcd S len fun A outer s H vs Q E hr p7=>?_
 obtain⟨t,h,q⟩:=hbody cdv A outer s H vs Q E hr p7
 exact⟨t,h.uS,q⟩
theorem gQ.binds {x qual:Str}{st:Stmt}{f:Addr}{fd:FuncData}{ps:List Str} (F:gQ K x qual st f fd)
  (h:∀(kV doc pm:Value) (an:Option Addr) (cdv ct:Value) (us:List Value),us.length=ps.length→bindArgs (W.fnOf x qual (cS st) (cK st) (ay st) .none kV doc pm an cdv ct) ⟨us,[]⟩=pure (ps.zip us)):Binds K fd ps []:=by
 obtain⟨oc,od,kV,doc,pm,an,cdv,ct,osl,rfl,lk,hcd⟩:=F.ex
 exact .all (h kV doc pm an cdv ct)
theorem bV {x qual:Str}{st:Stmt}{f:Addr}{oc:Value}{od an:Option Addr}{osl:Array (Option Value)}{kV doc pm cdv ct:Value} (l:K.lookup f=some ⟨oc,od,.func (W.fnOf x qual (cS st) (cK st) (ay st) .none kV doc pm an cdv ct),osl⟩)
 (c:W.codeIn K cdv qual=true) (k:W.keepIn K (.ref f)=true):gQ K x qual st f (W.fnOf x qual (cS st) (cK st) (ay st) .none kV doc pm an cdv ct):=⟨⟨oc,od,kV,doc,pm,an,cdv,ct,osl,rfl,l,c⟩,k⟩
end
theorem cI {A:Around}{k:Nat} (hr:dm k A):A.units+1 < cLine:=Nat.lt_of_le_of_lt (Nat.add_le_add_left (by decide:1≤64) _) hr.units
section
variable {X:Cx}
theorem pv (i:Nat) {x:Str}{pos:Pos} (hN:X.N[i]? = some x:=by rfl) (hv:vF X.env.scope x:=by first | exact Or.inl rfl | exact Or.inr (Or.inl rfl) | exact Or.inr (Or.inr rfl)) (hd:(x == ("__debug__" : Str))=false:=by decide)
 (hcd:(x == ("__classdict__" : Str))=false:=by decide):PE X (.Name x pos) (m5 i):=qt hN hv hd hcd
end
theorem eB {A B:Prop} (h:B):if false=true then A else B:=by
 rw[if_neg Bool.false_ne_true]
 exact h
theorem gH {A B:Prop} (h:A):if true=true then A else B:=by
 rw[if_pos rfl]
 exact h
theorem nD {c A B:Prop} [Decidable c] (h1:c→A) (h2:¬c→B):if c then A else B:=by
 by_cases h:c
 ·rw[if_pos h]
  exact h1 h
 ·rw[if_neg h]
  exact h2 h
def aA (H H':Hp):Prop:=∀ b o,H b=some o→H' b=some o
theorem aA.refl (H:Hp):aA H H:=fun _ _ h=>h
theorem aA.trans {H H1 H2:Hp} (a:aA H H1) (b:aA H1 H2):aA H H2:=fun c o h=>b c o (a c o h)
theorem aA.free {H H':Hp} (e:aA H H') {l:Addr} (h:H' l=Option.none):H l=Option.none:=by
 cases q:H l with
 | none=>rfl
 | some o =>
  rw[e l o q] at h
  cases h
theorem aA.seq {K:W.Frag}{H H':Hp}{a:Addr}{xs:List V} (e:aA H H') (h:aD K H a xs):aD K H' a xs:=by
 rcases h with (h | ⟨o,h⟩) | h
 ·exact .inl (.inl (e _ _ h))
 ·exact .inl (.inr ⟨o,e _ _ h⟩)
 ·exact .inr h
end L2
set_option maxHeartbeats 4000000
namespace L2
open PySem PySem.Spec PyProof.Rows
def cJ (env:Env):List (Str×NameKind)→List (Str×Addr)→List (Str×Addr)
 | [],cs=>cs
 | (n,k) :: r,cs=>cJ env r (if k == .free then (n,(env.cells.lookup n).getD 0) :: cs else cs)
theorem iI {scope:Scope}{env:Env} (h:∀ n,(n,NameKind.free)∈scope.names→∃ c,env.cells.lookup n=some c) :
  closureFor scope env=pure (cJ env scope.names []):=by
 simp only[closureFor]
 have key:∀(l:List (Str×NameKind)) (cs:List (Str×Addr)),(∀ n,(n,NameKind.free)∈l→∃ c,env.cells.lookup n=some c) →
   (forIn l cs (fun x r=>if (x.2 == NameKind.free)=true then (cellOf env x.1 >>= fun a=>pure (ForInStep.yield ((x.1,a) :: r))) else pure (ForInStep.yield r)):Sem (List (Str×Addr)))=pure (cJ env l cs):=by
  intro l
  induction l with
  | nil=>intro cs _;rfl
  | cons x l ih =>
   intro cs hl
   obtain⟨n,k⟩:=x
   have hl':∀ n,(n,NameKind.free)∈l→∃ c,env.cells.lookup n=some c:=fun n hn=>hl n (List.mem_cons_of_mem _ hn)
   rw[List.forIn_cons]
   by_cases hk:k=.free
   ·subst hk
    obtain⟨c,hc⟩:=hl n List.mem_cons_self
    have e1:cellOf env n=pure c:=by unfold cellOf;rw[hc]
    simp only[beq_self_eq_true,if_true,e1,pure_bind]
    rw[ih _ hl']
    simp only[cJ,beq_self_eq_true,if_true,hc,Option.getD_some]
   ·have hb:(k == NameKind.free)=false:=by simpa using hk
    simp only[hb,Bool.false_eq_true,if_false,pure_bind]
    rw[ih _ hl']
    simp only[cJ,hb,Bool.false_eq_true,if_false]
 exact(congrArg (fun z=>z >>= fun r=>pure r) (key scope.names [] h)).trans rfl
theorem fH {env:Env}:∀(l:List (Str×NameKind)) (cs:List (Str×Addr)),(∀ n,(n,NameKind.free)∈l→∃ c,env.cells.lookup n=some c)→(∀ x c,cs.lookup x=some c→env.cells.lookup x=some c) →
  ∀ x c,(cJ env l cs).lookup x=some c→env.cells.lookup x=some c
 | [],cs,_,h,x,c,e=>h x c e
 | (n,k) :: r,cs,hl,h,x,c,e=>by
  refine fH r _ (fun n hn=>hl n (List.mem_cons_of_mem _ hn)) ?_ x c e
  intro y d hy
  by_cases hk:(k == NameKind.free)=true
  ·rw[if_pos hk] at hy
   have hk':k=.free:=by simpa using hk
   subst hk'
   obtain⟨c',hc'⟩:=hl n List.mem_cons_self
   rw[hc',Option.getD_some,List.lookup_cons] at hy
   cases wu:y == n with
   | true =>
    rw[wu] at hy
    have:y=n:=by simpa using wu
    subst this
    rw[hc'];exact hy
   | false=>rw[wu] at hy;exact h y d hy
  ·rw[if_neg hk] at hy;exact h y d hy
theorem eO {env:Env}:∀(l:List (Str×NameKind)) (cs:List (Str×Addr)) (x:Str),((x,NameKind.free)∈l∨∃ c,cs.lookup x=some c)→∃ c,(cJ env l cs).lookup x=some c
 | [],cs,x,h=>by
  rcases h with h | h
  ·cases h
  ·exact h
 | (n,k) :: r,cs,x,h=>by
  refine eO r _ x ?_
  rcases h with h | ⟨c,h⟩
  ·rcases List.mem_cons.mp h with e | h
   ·cases e
    refine .inr ⟨(env.cells.lookup n).getD 0,?_⟩
    simp[List.lookup_cons]
   ·exact .inl h
  ·right
   by_cases hk:(k == NameKind.free)=true
   ·rw[if_pos hk,List.lookup_cons]
    cases x == n with
    | true=>exact⟨_,rfl⟩
    | false=>exact⟨c,h⟩
   ·rw[if_neg hk];exact⟨c,h⟩
theorem cZ {env:Env} (x:Str):∀(names:List (Str×NameKind)),
  (names.map fun (n,k)=>if (k == NameKind.free && env.scope.kind == .function && env.kindOf n == some .cell) then (n,NameKind.cell) else (n,k)).lookup x =
   (names.lookup x).map fun k=>if (k == NameKind.free && env.scope.kind == .function && env.kindOf x == some .cell) then NameKind.cell else k
 | []=>rfl
 | (n,k) :: r=>by
  have ih:=cZ (env:=env) x r
  show List.lookup x ((if (k == NameKind.free && env.scope.kind == .function && env.kindOf n == some .cell)=true then (n,NameKind.cell) else (n,k)) :: _)=_
  cases hx:x == n with
  | true =>
   have e:x=n:=by simpa using hx
   subst e
   by_cases hc:(k == NameKind.free && env.scope.kind == .function && env.kindOf x == some .cell)=true
   ·rw[if_pos hc];simp only[List.lookup_cons,beq_self_eq_true,Option.map_some,if_pos hc]
   ·rw[if_neg hc];simp only[List.lookup_cons,beq_self_eq_true,Option.map_some,if_neg hc]
  | false =>
   by_cases hc:(k == NameKind.free && env.scope.kind == .function && env.kindOf n == some .cell)=true
   ·rw[if_pos hc];simp only[List.lookup_cons,hx];exact ih
   ·rw[if_neg hc];simp only[List.lookup_cons,hx];exact ih
structure aE (XN:List Str) (rU:Scope) (N:List Str) (nv:Nat) (js:List Nat) (scope:Scope):Prop where
 kind:scope.kind=.function
 cell:∀ y∈scope.names,y.2≠.cell
 loc:∀ y∈scope.names,y.2=.local→scope.names.lookup y.1=some .local
 free:∀ y∈scope.names,y.2=.free→(rU.names.lookup y.1=some .cell∨rU.names.lookup y.1=some .free)
 nd:N.Nodup
 len:N.length=nv+js.length
 pl:js.map (fun j=>XN[j]?)=(N.drop nv).map some
 fr:∀ x∈N.drop nv,scope.names.lookup x=some .free
abbrev eS (X:Cx) (N:List Str) (scope:Scope) (C:Addr) (s:Shared) (H:Hp) (fp:List Addr):Cx where
 prog:=X.prog
 w:=X.w
 K:=X.K
 mg:=X.mg
 base:=X.base
 A:=X.A
 N:=N
 s₀:=s
 H₀:=H
 env:=compEnvC scope (cJ X.env scope.names []) C X.env
 outer:=X.stack
 stack:=X.stack
 ex:=fp
 fn:=fun _=>false
 calm:=X.calm
 pn:=[]
 xe:=fun _ _=>False
def gq (nv:Nat) (js:List Nat) (σ:St):St:=List.replicate nv none++js.map fun j=>(σ[j]?).getD none
section
variable {X:Cx}{pins:List (Addr×Obj)}{σ:St}{H:Hp}{s:Shared}
theorem kH {N:List Str}{nv:Nat}{js:List Nat}{scope:Scope}{fp:List Addr}{h1:Heap}{tk:Nat} (I:Inv X pins σ H s) (S:aE X.N X.env.scope N nv js scope) (hf:∀ b∈fp,gF X pins H b) (hfl:∀ b∈fp,b < s.heap.objs.size)
  (keep:∀ b o,s.heap.get? b=some o→h1.get? b=some o) (ns:h1.Ns s.heap.objs.size fun _=>none) :
  Inv (eS X N scope s.heap.objs.size s H fp) [] (gq nv js σ) H { s with heap:=h1,toks:=tk }:=by
 have hfr:∀ n,(n,NameKind.free)∈scope.names→∃ c,X.env.cells.lookup n=some c:=fun n hn=>I.ok.has n (S.free _ hn rfl)
 have sub:∀ x c,(cJ X.env scope.names []).lookup x=some c→X.env.cells.lookup x=some c:=fH scope.names [] hfr (fun x c z=>by cases z)
 have qH:∀ x,scope.names.lookup x≠some .cell:=fun x z=>S.cell _ (PySem.mem_of_lookup z) rfl
 have wz:∀ x,(relabel scope X.env).names.lookup x=some .cell∨(relabel scope X.env).names.lookup x=some .free→scope.names.lookup x=some .free:=by
  intro x hx
  have e:=cZ (env:=X.env) x scope.names
  have hx':(relabel scope X.env).names.lookup x=_:=e
  rw[hx'] at hx
  cases q:scope.names.lookup x with
  | none=>rw[q] at hx;rcases hx with hx | hx <;> cases hx
  | some k =>
   rw[q,Option.map_some] at hx
   cases k <;> first | rfl | (exact absurd q (qH x)) | (exfalso;rcases hx with hx | hx <;> simp at hx)
 refine⟨⟨I.ok.mod,S.kind,I.ok.glob,I.ok.blt,Nat.le_refl _,fun x y c h1 h2=>I.ok.inj x y c (sub _ _ h1) (sub _ _ h2),fun x hx=>?_,fun x c z=>(by cases z),I.ok.hd,I.ok.frames,.inl rfl,fun b hb=>?_,fun b o e=>?_,?_,fun b o e hb=>?_,fun b hb z=>?_,I.stack,I.lB⟩,
  rfl,I.bare,Un.kept keep,⟨_,ns,fun i x v e1 e2 e3=>?_⟩,fun x c e=>?_,I.hok.fresh (Nat.le_refl _),fun x c e=>I.fm x c (sub _ _ e),fun p hp=>absurd (show p∈([]:List (Addr×Obj)) from hp) (by simp),I.hok.kept keep,?_⟩
 ·exact eO _ _ _ (.inl (PySem.mem_of_lookup (wz x hx)))
 ·obtain⟨f0,f1,f2,f3,f4,f5⟩:=hf b hb
  exact⟨Nat.ne_of_lt (hfl b hb),fun x c e=>f4 x c (sub x c e)⟩
 ·exact I.bs b o e
 ·exact Nat.le_trans I.ok.pT I.sz
 ·obtain⟨f0,f1,f2,f3,f4,f5⟩:=hf b hb
  rcases f3 with z | z
  ·exact I.ok.mZ b o e z
  ·exact absurd (Nat.lt_of_lt_of_le (Heap.lt_size e) (Nat.le_trans I.ok.pT z)) (Nat.lt_irrefl _)
 ·obtain⟨f0,f1,f2,f3,f4,f5⟩:=hf b hb
  rcases List.mem_cons.mp (I.jk b z) with q | q
  ·exact f1 q
  ·exact f2 q
 ·
  have hi:¬i < nv:=fun hlt=>by
   unfold gq at e2
   rw[List.getElem?_append_left (by simpa using hlt),List.getElem?_replicate,if_pos hlt] at e2
   cases e2
  obtain⟨k,rfl⟩:∃ k,i=nv+k:=⟨i - nv,by omega⟩
  unfold gq at e2
  rw[List.getElem?_append_right (by simp),List.length_replicate,Nat.add_sub_cancel_left,List.getElem?_map] at e2
  cases hj:js[k]? with
  | none=>rw[hj] at e2;cases e2
  | some j =>
   rw[hj,Option.map_some] at e2
   have uX:(σ[j]?).getD none=some v:=Option.some.inj e2
   have hσ:σ[j]? = some (some v):=by
    cases q:σ[j]? with
    | none=>rw[q] at uX;cases uX
    | some z=>rw[q] at uX;exact congrArg some uX
   have hd:(N.drop nv)[k]? = some x:=by rw[List.getElem?_drop];exact e1
   have hX:X.N[j]? = some x:=by
    have q:=congrArg (fun l=>l[k]?) S.pl
    simp only[List.getElem?_map,hj,hd,Option.map_some] at q
    exact Option.some.inj q
   have hfx:=S.fr x (List.mem_of_getElem? hd)
   have kx:=S.free _ (PySem.mem_of_lookup hfx) rfl
   obtain⟨m,_,hl⟩:=I.loc
   obtain⟨u,r,l⟩:=hl j x v hX hσ (.inr kx)
   refine⟨u,r,?_⟩
   rcases l with ⟨k1,_⟩ | ⟨_,c,hc,hcell⟩
   ·exfalso
    have AI:X.env.scope.names.lookup x=some .local:=k1
    rcases kx with z | z <;> (rw[AI] at z;cases z)
   ·obtain⟨c',hc'⟩:=eO (env:=X.env) scope.names [] x (.inl (PySem.mem_of_lookup hfx))
    have e:=sub _ _ hc'
    rw[hc] at e;cases e
    refine .inr ⟨?_,c,hc',hcell.keeps keep⟩
    have e:=cZ (env:=X.env) x scope.names
    have e':(relabel scope X.env).names.lookup x=_:=e
    rw[hfx,Option.map_some] at e'
    show(relabel scope X.env).names.lookup x=some .cell∨(relabel scope X.env).names.lookup x=some .free
    rw[e']
    split
    ·exact .inl rfl
    ·exact .inr rfl
 ·obtain⟨v,q⟩:=I.cell x c (sub _ _ e)
  exact⟨v,q.keeps keep⟩
 ·unfold gq
  show _=N.length
  rw[List.length_append,List.length_replicate,List.length_map,S.len]
end
def o6 (X:Cx) (ifs:List Expr) (t:TT):Prop :=
 ∀(pins:List (Addr×Obj)) (s:Shared) (σ:St) (H:Hp) (Q:Bool→Hp→Prop),Inv X pins σ H s→t σ H Q →
  wpAny (model X.prog X.w) X.A (forIn ifs true fun c r=>if r=true then do let ok ←isTrue c X.env (eval c X.env);pure (ForInStep.yield ok) else pure (ForInStep.yield r)) (TP X pins σ Q) X.xe s
def qI:TT:=fun _ H Q=>Q true H
theorem bB {X:Cx}:o6 X [] qI:=fun _ _ _ H _ I h=>wpAny_tests_nil ⟨H,I,h⟩
def jb (J:It) (g:TG) (tt:TT) (te:TE) (Q:VK) (D:Addr) (τ:St) (H:Hp):Prop :=
 ∃ W:Nat→Nat→List V→St→Hp→Prop,(∃ m,W 0 m [] τ (upd H D (.lst [])))∧∀ i m ys τ H,W i m ys τ H→H D=some (.lst ys) ∧
  ((J.stop i H∧Q (.ref D) H)∨(J.go i H∧∃ N:List V→St→Hp→Prop,(∀ zs σ' H',N zs σ' H'→∃ m',m' < m∧W (i+1) m' zs σ' H')∧∀ x H',J.sL i H x H'→g x τ H' fun τ2 H2=>tt τ2 H2 fun b H3 =>
   if b=true then te τ2 H3 fun y H4=>H4 D=some (.lst ys)∧ys.length < sizeLine∧N (ys++[y]) τ2 (upd H4 D (.lst (ys++[y])))
   else N ys τ2 H3))
def sZ (wi:TI) (g:TG) (tt:TT) (te:TE) (nv:Nat) (js:List Nat):TE:=fun σ H Q=>wi σ H fun J H1=>∀ D,H1 D=none→jb J g tt te Q D (gq nv js σ) H1
theorem kI {prog:Program}{w:World}{A:Around}{R:Result→Shared→Prop}{s:Shared}{elt target iter:Expr}{ifs:List Expr}{scope:Scope}{pos:Pos}{it acc:Value}{env:Env} (I:Nat→Shared→Prop)
  (turn:∀ n s,I n s→wpAny (model prog w) A (pyNext it) (fun r s₁=>match r with
   | none=>R (.ok .next) s₁
   | some v=>wpAny (model prog w) A (letOwnedTupleGo target it v) (fun _ s₁'=>wpAny (model prog w) A (assign target env v) (fun _ s₂ =>
     wpAny (model prog w) A (forIn ifs true fun c r=>if r=true then do let ok ←isTrue c env (eval c env);pure (ForInStep.yield ok) else pure (ForInStep.yield r)) (fun ok s₃ =>
      if ok=true then wpAny (model prog w) A (eval elt env) (fun x s₄ =>
       wpAny (model prog w) A (call (.builtin "list.append") [acc,x]) (fun _ s₅=>∃ m,m < n∧I m s₅) (fun _ _=>False) s₄) (fun _ _=>False) s₃
      else ∃ m,m < n∧I m s₃) (fun _ _=>False) s₂) (fun _ _=>False) s₁') (fun _ _=>False) s₁) (fun _ _=>False) s)
  (n:Nat) (h:I n s) :
  codeAny (model prog w) A (.compLoop (.ListComp elt [⟨target,iter,ifs,0⟩] scope pos) 0 it acc env) R s:=by
 refine codeAny_loop rfl I (fun n s hI=>?_) n h
 show wpAny _ A ((compTurn (.ListComp elt [⟨target,iter,ifs,0⟩] scope pos) 0 it acc env).onRaise (fun x=>do noteFrame x env;theTreesLotGoes x)) _ _ s
 refine wpAny_noted (wpAny_mono (E:=fun _ _=>False) ?_ (fun _ _ q=>q) fun _ _ q=>q.elim)
 rw[compTurn_list]
 refine wpAny_bind (wpAny_standAt (wpAny_bind (wpAny_mono (turn n s hI) (fun r s₁ h₁=>?_) fun _ _ h'=>h')))
 cases r with
 | none=>exact wpAny_pure h₁
 | some v =>
  refine wpAny_bind (wpAny_mono h₁ (fun _ s₁' h₁'=>?_) fun _ _ h'=>h')
  refine wpAny_bind (wpAny_mono h₁' (fun _ s₂ h₂=>wpAny_bind (wpAny_mono h₂ (fun ok s₃ h₃=>?_) fun _ _ h'=>h')) fun _ _ h'=>h')
  cases ok with
  | false=>exact wpAny_pure ⟨rfl,h₃⟩
  | true =>
   exact wpAny_bind (wpAny_bind (wpAny_mono h₃ (fun x s₄ h₄=>wpAny_bind (wpAny_mono h₄ (fun _ s₅ h₅=>wpAny_pure (wpAny_pure ⟨rfl,h₅⟩)) fun _ _ h'=>h')) fun _ _ h'=>h'))
section
variable {X:Cx}{elt tg iter:Expr}{ifs:List Expr}{scope:Scope}{pos:Pos}{N:List Str}{nv:Nat}{js:List Nat}{wi:TI}{g:TG}{tt:TT}{te:TE}
theorem kJ {pins:List (Addr×Obj)}{σ:St}{H:Hp}{s:Shared}{Q:VK}{it:Addr}{fp:List Addr}{tn:Nat→Heap→Prop}{J:It}{E:Value→Shared→Prop}{RR:Value→Addr→Result→Shared→Prop} (hc:X.calm=true)
  (S:aE X.N X.env.scope N nv js scope) (hg:∀ C s H fp,PG (eS X N scope C s H fp) tg g) (ht:∀ C s H fp,o6 (eS X N scope C s H fp) ifs tt) (he:∀ C s H fp,PE (eS X N scope C s H fp) elt te)
  (I:Inv X pins σ H s) (T:Turn X.prog X.w X.K tg J fp it tn) (st:tn 0 s.heap) (hf:∀ b∈fp,gF X pins H b) (hR:∀ D,H D=none→jb J g tt te Q D (gq nv js σ) H)
  (hRR:∀ D C H' s' m,Inv X pins σ H' s'→gF X pins H' C→s'.heap.Ns C m→Q (.ref D) H'→RR (.ref D) C (.ok .next) s') :
  wpAny (model X.prog X.w) X.A (newList []) (fun acc s₃=>wpAny (model X.prog X.w) X.A (newFunctionEnv scope X.env.globals (cJ X.env scope.names []) [] X.env.qual none .none (some X.env)) (fun cenv s₄ =>
   codeAny (model X.prog X.w) X.A (.compStart (.ListComp elt [⟨tg,iter,ifs,0⟩] scope pos) 0 (.ref it) acc { cenv with scope:=relabel scope X.env }) (RR acc cenv.locals) s₄) E s₃) E s:=by
 refine wpAny_newObj_type (wpAny_newFunctionEnv S.cell (by intro y hy;simp at hy) (fun h₁ nE nF=>?_) S.kind)
 have I3:Inv X pins σ (upd H s.heap.objs.size (.lst [])) { s with heap:=s.heap.push { cls:=.type "list",data:=.seq ([]:List Value).toArray } }:=I.sY (t':=s.toks) (its:=[]) .nil (Nat.zero_le _)
 have hD:=I.fresh
 obtain⟨W,⟨m0,w0⟩,turn⟩:=hR s.heap.objs.size hD
 have ho:=T.obj 0 s.heap st
 have tu:∀ b∈fp,b < s.heap.objs.size:=fun b hb=>let ⟨o,e,_⟩:=ho b hb;Heap.lt_size e
 have qJ:∀ b∈fp,gF X pins (upd H s.heap.objs.size (.lst [])) b:=fun b hb=>⟨by rw[aH (Nat.ne_of_lt (tu b hb))];exact(hf b hb).1,(hf b hb).2⟩
 generalize yJ:({ s with heap:=s.heap.push { cls:=.type "list",data:=.seq ([]:List Value).toArray } }:Shared)=s3 at I3 nE nF
 have e3:s3.heap=s.heap.push { cls:=.type "list",data:=.seq ([]:List Value).toArray }:=by rw[←yJ]
 have hfl:∀ b∈fp,b < s3.heap.objs.size:=fun b hb=>by rw[e3,Heap.size_push];exact Nat.lt_succ_of_lt (tu b hb)
 have keep:∀ b o,s3.heap.get? b=some o→h₁.get? b=some o:=fun b o e=>nF.extBut b o (Nat.ne_of_lt (Heap.lt_size e)) (Heap.get?_push_of_some _ e)
 have J0:=kH (tk:=s3.toks+([]:List (Str×Value)).length) I3 S qJ hfl keep nE
 have st1:tn 0 h₁:=T.keep 0 s.heap h₁ st fun b hb o e=>keep b o (by rw[e3];exact Heap.get?_push_of_some _ e)
 generalize EL:upd H s.heap.objs.size (.lst [])=H3 at *
 generalize hY:eS X N scope s3.heap.objs.size s3 H3 fp=Y at *
 have sub:∀ x c,(cJ X.env scope.names []).lookup x=some c→X.env.cells.lookup x=some c :=
  fH scope.names [] (fun n hn=>I.ok.has n (S.free _ hn rfl)) (fun x c z=>by cases z)
 have kE:∀{H':Hp},(∀ b∈fp,H' b=none)→∀ b∈fp,gF Y [] H' b:=fun {H'} hn b hb=>by
  subst hY
  obtain⟨f0,f1,f2,f3,f4,f5⟩:=qJ b hb
  refine⟨hn b hb,Nat.ne_of_lt (hfl b hb),fun z=>?_,.inl hb,fun x c e=>f4 x c (sub x c e),fun p hp=>absurd (show p∈([]:List (Addr×Obj)) from hp) (by simp)⟩
  rcases List.mem_cons.mp (I3.jk b z) with q | q
  ·exact f1 q
  ·exact f2 q
 have eA:Y.A=X.A:=by subst hY;rfl
 have eP:Y.prog=X.prog:=by subst hY;rfl
 have eW:Y.w=X.w:=by subst hY;rfl
 have eK:Y.K=X.K:=by subst hY;rfl
 have eC:Y.calm=true:=by subst hY;exact hc
 have eE:Y.env=compEnvC scope (cJ X.env scope.names []) s3.heap.objs.size X.env:=by subst hY;rfl
 have uY:Y.xe=fun _ _=>False:=by subst hY;rfl
 have AJ:PG Y tg g:=by subst hY;exact hg _ _ _ _
 have AK:o6 Y ifs tt:=by subst hY;exact ht _ _ _ _
 have AL:PE Y elt te:=by subst hY;exact he _ _ _ _
 have loop:codeAny (model X.prog X.w) X.A (.compLoop (.ListComp elt [⟨tg,iter,ifs,0⟩] scope pos) 0 (.ref it) (.ref s.heap.objs.size) (compEnvC scope (cJ X.env scope.names []) s3.heap.objs.size X.env))
   (RR (.ref s.heap.objs.size) s3.heap.objs.size) { s3 with heap:=h₁,toks:=s3.toks+([]:List (Str×Value)).length }:=by
  refine kI (fun n s'=>∃ i ys τ H',Inv Y [] τ H' s'∧tn i s'.heap∧(∀ b∈fp,H' b=none)∧W i n ys τ H') ?_ m0 ⟨0,[],_,H3,J0,st1,fun b hb=>(qJ b hb).1,w0⟩
  rintro n s4 ⟨i,ys,τ,H4,I4,yK,yL,w4⟩
  obtain⟨EM,tr⟩:=turn i n ys τ H4 w4
  rcases tr with ⟨stop,qn⟩ | ⟨go,Nn,yM,step⟩
  ·have d:=T.done Y eP eW eK eC i [] s4 τ H4 (fun _ _=>False) I4 (kE yL) yK stop
   rw[eA] at d
   refine cH d fun r s5 ⟨hr,I5⟩=>?_
   subst hr
   have u:Inv X pins σ H4 s5:=by
    subst hY
    exact I3.sq (ch:=fp) I5.os I5.base I5.hok I5.bare fun b hb=>⟨(qJ b hb).2.2.2.1,(qJ b hb).2.1,(qJ b hb).2.2.2.2.1,(qJ b hb).2.2.2.2.2⟩
   have hC:H4 s3.heap.objs.size=none:=by have z:=I5.free;rw[eE] at z;exact z
   obtain⟨m,hn,_⟩:=I5.loc
   rw[eE] at hn
   exact hRR _ _ H4 s5 m u (I3.jX (Nat.le_refl _) hC) hn qn
  ·have d:=T.item Y eP eW eK eC i [] s4 τ H4 (fun _ _=>False) I4 (kE yL) yK go
   rw[eA] at d
   refine cH d fun r s5 ⟨u,hr,h5⟩=>?_
   subst hr
   refine cH h5 fun _ s6 ⟨x,H6,I6,r6,y6,wA,AM⟩=>?_
   have AO:=I6.pinned (kE AM) (T.obj _ _ wA)
   have q6:=AJ _ s6 τ H6 x u _ AO r6 (step x H6 y6)
   rw[eP,eW,eA,eE,uY] at q6
   refine cH q6 fun _ s7 ⟨σ7,H7,I7,q7⟩=>?_
   have q8:=AK _ s7 σ7 H7 _ I7 q7
   rw[eP,eW,eA,eE,uY] at q8
   refine cH q8 fun ok s8 ⟨H8,I8,q8⟩=>?_
   have again:∀{σ9:St}{H9:Hp}{s9:Shared}{zs:List V},Inv Y ([]++gY fp s6.heap) σ9 H9 s9→(∃ m',m' < n∧W (i+1) m' zs σ9 H9)→∃ m,m < n∧∃ i ys τ H',Inv Y [] τ H' s9∧tn i s9.heap∧(∀ b∈fp,H' b=none)∧W i m ys τ H':=fun {σ9 H9 s9 zs} I9 n9=>by
    obtain⟨m',hm,w9⟩:=n9
    refine⟨m',hm,i+1,zs,σ9,H9,I9.fN,T.keep _ _ _ wA fun b hb o e=>(I9.pin (b,o) (List.mem_append_right _ (List.mem_append_right _ (dQ hb e)))).1,fun b hb=>?_,w9⟩
    obtain⟨o,e,d⟩:=T.obj _ _ wA b hb
    exact(I9.pin (b,o) (List.mem_append_right _ (List.mem_append_right _ (dQ hb e)))).2.1
   cases ok with
   | false =>
    rw[if_neg Bool.false_ne_true]
    rw[if_neg Bool.false_ne_true] at q8
    exact again I8 (yM _ _ _ q8)
   | true =>
    rw[if_pos rfl]
    rw[if_pos rfl] at q8
    have q9:=AL _ s8 σ7 H8 _ I8 q8
    rw[eP,eW,eA,eE,uY] at q9
    refine cH q9 fun y s9 ⟨yv,H9,I9,r9,uZ,AQ,q9⟩=>?_
    have ap:=fc (X:=Y) _ s9 σ7 H9 (.ref s.heap.objs.size) [yv] (.ref s.heap.objs.size) [y] (fun _ tw=>Nn (ys++[yv]) σ7 tw) I9 rfl (.cons r9 .nil) ⟨_,ys,yv,rfl,rfl,uZ,AQ,q9⟩
    rw[eP,eW,eA,uY] at ap
    exact cH ap fun _ qc ⟨_,tw,AR,_,u0⟩=>again AR (yM _ _ _ u0)
 subst yJ
 exact codeAny_compStart_list loop (T.self _ 0 _ _ _ st1 loop)
theorem bC (hc:X.calm=true) (S:aE X.N X.env.scope N nv js scope) (hi:PI X tg iter wi) (hg:∀ C s H fp,PG (eS X N scope C s H fp) tg g) (ht:∀ C s H fp,o6 (eS X N scope C s H fp) ifs tt)
  (he:∀ C s H fp,PE (eS X N scope C s H fp) elt te) (hs:∀ x,foldedSetIterable iter X.env x=pure x:=by intro _;rfl) :
  PE X (.ListComp elt [⟨tg,iter,ifs,0⟩] scope pos) (sZ wi g tt te nv js):=by
 intro pins s σ H Q I h
 rw[eval_ListComp]
 refine wpAny_comprehension_free (use:=none) rfl hs (iI fun n hn=>I.ok.has n (S.free _ hn rfl)) S.kind S.loc (cH (hi pins s σ H _ I h) fun v s1 h1=>cH h1 fun itv s2 h2=>?_)
 obtain⟨it,fp,tn,J,H2,e,I2,T,st2,f2,hR⟩:=h2
 subst e
 refine kJ (RR:=fun acc C=>compPost (model X.prog X.w) X.A X.xe none (EP X pins σ Q) acc C) hc S hg ht he I2 T st2 f2 hR ?_
 intro D C H' s' m I' fC hn q
 refine⟨m,hn,fun h' sb=>⟨.ref D,H',?_,rfl,q⟩⟩
 exact I'.turned (t':=s'.toks) (fun b o hb e=>(sb.2 b hb).trans e) fC.1 fC.2.1 fC.2.2.2.1 fC.2.2.2.2.1 fC.2.2.2.2.2
end
theorem kK:typeLookup (.type "list_reverseiterator") "__len__" = pure none:=by rw[typeLookup_type,builtinLookup_eq_fast];kernel_rfl
theorem nG:typeLookup (.type "list_reverseiterator") "__length_hint__" = pure (some (.builtin "list_reverseiterator.__length_hint__")):=by rw[typeLookup_type,builtinLookup_eq_fast];kernel_rfl
section
variable {prog:Program}{w:World}{A:Around}{E:Value→Shared→Prop}{s:Shared}
theorem nH {I l:Addr}{i:Int}{Q:Bool→Shared→Prop} (hit:s.heap.IsRevIter I l i) (h:Q false s):wpAny (model prog w) A (Builtin.List.listLengthHint (.ref I)) Q E s:=by
 unfold Builtin.List.listLengthHint
 refine wpAny_bind (wpAny_specialOf hit.typeIs kK ?_)
 show wpAny _ _ (specialOf (Value.ref I) ("__length_hint__":Str) >>= _) _ _ _
 refine wpAny_bind (wpAny_specialOf hit.typeIs nG ?_)
 generalize hid:("list_reverseiterator.__length_hint__" : String)=AS
 wp_delta
 rw[show splitId AS=some ("list_reverseiterator", "__length_hint__") from by subst hid;decide +kernel]
 subst hid
 refine wpAny_bind (wpAny_isInstance (T := "list_reverseiterator") (b:=true) hit.typeIs (by rw[isSubtype_type];kernel_rfl) ?_)
 refine wpAny_ite_split (fun hab=>absurd hab (by decide)) (fun _=>?_)
 refine wpAny_ite_split (fun _=>?_) (fun hab=>absurd (by decide +kernel) hab)
 refine wpAny_ite_split (fun hab=>absurd hab (by decide +kernel)) (fun _=>?_)
 exact wpAny_pure h
theorem kL {R:Result→Shared→Prop} (hh:A.handled=none) {I l:Addr}{items:Array Value} (hne:l≠I) (hit:s.heap.IsRevIter I l ((items.size:Int) - 1)) (hl:s.heap.IsList l items) (S:Addr) (u7:S≠l) (res:Value) (c₀:Nat) (hS:s.heap.get? S=some { cls:=.type "list",data:=.seq #[] c₀ })
  (hn:items.size≤sizeLine)
  (hR:∀ h' tk acc' c',(∀ b o,b≠S→b≠I→s.heap.get? b=some o→h'.get? b=some o)→h'.get? S=some { cls:=.type "list",dict:=none,data:=.seq acc' c',slots:=#[] } →
   ItemsOf (fun i v=>items[items.size - 1 - i]? = some v) acc' items.size→R (.ok (.ret res)) { s with heap:=h',toks:=tk }) :
  wpAny (model prog w) A.in1 (Builtin.List.listExtendWith (.ref S) (.ref I) res)
   (fun fin s'=>match fin with | .done f=>R (.ok f) s' | .again c'=>c'.quiet=true∧codeAny (model prog w) A c' R s') (fun e s'=>R (.error e) s') s:=by
 have hSI:S≠I:=fun e=>by
  subst e
  obtain⟨o,ho,hc,_⟩:=hit
  rw[hS] at ho;cases ho
  exact absurd (show Value.type "list" = Value.type "list_reverseiterator" from hc) (by decide)
 have hSf:S∉[I,l]:=fun hm=>by
  rcases List.mem_cons.mp hm with e | hm
  ·exact hSI e
  ·exact u7 (List.mem_singleton.mp hm)
 unfold Builtin.List.listExtendWith
 refine wpAny_bind (wpAny_typeOf hit.typeIs ?_)
 have h1:Builtin.List.listSameRef (.ref S) (.ref I)=false:=by simp[Builtin.List.listSameRef,hSI]
 have h2:(Value.type "list_reverseiterator" == Value.type "list")=false:=by decide
 have h3:(Value.type "list_reverseiterator" == Value.type "tuple")=false:=by decide
 simp only[h1,h2,h3,Bool.or_false,Bool.false_eq_true,if_false]
 refine wpAny_bind (wpAny_pyIter_revIter hit ?_)
 refine wpAny_bind (wpAny_holding (nH hit ?_))
 rw[if_neg (by decide)]
 refine wpAny_pure ⟨plainId_quiet F.plain_extend_loop _,codeAny_extend_loopS (Walks.listRev (prog:=prog) (w:=w) (A:=A.in1) hh I l hne items).toS hn _ hSf _ items.size 0 _ _ _ rfl (Nat.zero_le _) ⟨Nat.zero_le _,by simpa using hit,hl⟩ hS (ItemsOf.nil _) fun s' acc' c' hm hS' hacc=>?_⟩
 rw[Moved.eq_with hm]
 refine hR s'.heap s'.toks acc' c' (fun b ob hb hb2 e=>hm.heap b ob (fun hmem=>?_) e) hS' hacc
 rcases List.mem_cons.mp hmem with e' | hmem
 ·exact hb e'
 ·exact hb2 (List.mem_singleton.mp hmem)
theorem iJ {R:Result→Shared→Prop} (hh:A.handled=none) {I l:Addr}{items:Array Value} (hne:l≠I) (hit:s.heap.IsRevIter I l ((items.size:Int) - 1)) (hl:s.heap.IsList l items) (S:Addr) (u7:S≠l) (hS:s.heap.get? S=some { cls:=.type "list",data:=.seq #[] })
  (hn:items.size≤sizeLine)
  (hR:∀ h' tk acc' c',(∀ b o,b≠S→b≠I→s.heap.get? b=some o→h'.get? b=some o)→h'.get? S=some { cls:=.type "list",dict:=none,data:=.seq acc' c',slots:=#[] } →
   ItemsOf (fun i v=>items[items.size - 1 - i]? = some v) acc' items.size→R (.ok (.ret .none)) { s with heap:=h',toks:=tk }) :
  wpAny (model prog w) A.in1 (Builtin.«list.__init__» ⟨[.ref S,.ref I],[]⟩)
   (fun fin s'=>match fin with | .done f=>R (.ok f) s' | .again c'=>c'.quiet=true∧codeAny (model prog w) A c' R s') (fun e s'=>R (.error e) s') s:=by
 have hSI:S≠I:=fun e=>by
  subst e
  obtain⟨o,ho,hc,_⟩:=hit
  rw[hS] at ho;cases ho
  exact absurd (show Value.type "list" = Value.type "list_reverseiterator" from hc) (by decide)
 show wpAny _ _ (do let old ←Builtin.List.listItems (.ref S);Builtin.List.listUpdate (.ref S) (fun _=>#[]);letGo old.toList.reverse;Builtin.List.listExtendWith (.ref S) (.ref I) .none) _ _ s
 refine wpAny_bind ?_
 unfold Builtin.List.listItems
 refine wpAny_bind (wpAny_seqItems hS rfl (wpAny_pure ?_))
 show wpAny _ _ (updateSeq S (fun _=>#[]) >>= fun _=>letGo (#[]:Array Value).toList.reverse >>= fun _=>Builtin.List.listExtendWith (.ref S) (.ref I) .none) _ _ s
 refine wpAny_bind (wpAny_updateSeq hS rfl ?_)
 have tD:=Heap.get?_update_self (Obj.mapSeq (fun _=>(#[]:Array Value))) hS rfl
 have u9:∀ b o,b≠S→s.heap.get? b=some o→(s.heap.update S (Obj.mapSeq (fun _=>(#[]:Array Value)))).get? b=some o :=
  fun b o hb e=>(Heap.get?_update_other _ _ (Ne.symm hb)).trans e
 refine wpAny_bind (wpAny_letGo ?_)
 refine kL hh hne (hit.at fun o e=>u9 _ o (Ne.symm hSI) e) (hl.at fun o e=>u9 _ o (Ne.symm u7) e) S u7 .none _ tD hn fun h' tk acc' c' hk hS' hacc=>?_
 exact hR h' tk acc' c' (fun b o hb hb2 e=>hk b o hb hb2 (u9 b o hb e)) hS' hacc
theorem iK {Q:Value→Shared→Prop} (hh:A.handled=none) {I l:Addr}{items:Array Value} (hne:l≠I) (hit:s.heap.IsRevIter I l ((items.size:Int) - 1)) (hl:s.heap.IsList l items) (hn:items.size≤sizeLine)
  (hQ:∀ h' tk acc' c',(∀ b o,b≠I→s.heap.get? b=some o→h'.get? b=some o) →
   h'.get? s.heap.objs.size=some { cls:=.type "list",dict:=none,data:=.seq acc' c',slots:=#[] }→ItemsOf (fun i v=>items[items.size - 1 - i]? = some v) acc' items.size→Q (.ref s.heap.objs.size) { s with heap:=h',toks:=tk }) :
  wpAny (model prog w) A (call (.type "list") [.ref I]) Q E s:=by
 refine callType_codes (Q₁:=fun obj s₁=>obj=.ref s.heap.objs.size∧s₁={ s with heap:=s.heap.push { cls:=.type "list",data:=.seq #[] } }) F.called_list (F.typeCall_list_1 _) F.entry_list_init
  (code_list_new _ ⟨rfl,rfl⟩) fun obj s₁ h₁=>?_
 obtain⟨rfl,rfl⟩:=h₁
 have hS:(s.heap.push { cls:=.type "list",data:=.seq #[] }).get? s.heap.objs.size=some { cls:=.type "list",data:=.seq #[] }:=Heap.get?_push_size _ rfl
 have hlt:l < s.heap.objs.size:=by obtain⟨o,ho,_⟩:=hl;exact Heap.lt_size ho
 refine⟨⟨_,hS,rfl⟩,F.args_list_init_2 _ _,iJ (A:=A.in1) hh hne (hit.at fun o e=>Heap.get?_push_of_some _ e) (hl.at fun o e=>Heap.get?_push_of_some _ e) _ (Nat.ne_of_gt hlt) hS hn fun h' tk acc' c' hk hS' hacc=>?_⟩
 exact⟨rfl,hQ h' tk acc' c' (fun b o hb e=>hk b o (Nat.ne_of_lt (Heap.lt_size e)) hb (Heap.get?_push_of_some _ e)) hS' hacc⟩
end
theorem mG {items:List Value}{acc:Array Value} (h:ItemsOf (fun i v=>items.toArray[items.toArray.size - 1 - i]? = some v) acc items.toArray.size):acc.toList=items.reverse:=by
 have hz:=h.1
 refine List.ext_getElem? fun i=>?_
 by_cases hi:i < items.length
 ·have hi':i < acc.size:=by rw[hz];simpa using hi
  have q:=h.2 i acc[i] (by simp[hi'])
  rw[List.getElem?_reverse hi]
  simp only[List.size_toArray,List.getElem?_toArray] at q
  rw[q]
  simp[hi']
 ·rw[List.getElem?_eq_none (by rw[Array.length_toList,hz];simpa using hi),List.getElem?_eq_none (by simpa using hi)]
section
variable {X:Cx}{e:Expr}{te:TE}
def j6 (K:W.Frag) (ta:TA):TE:=fun σ H Q=>ta σ H fun vs H1=>∃ p xs,vs=[.ref p]∧aD K H1 p xs∧∀ l,H1 l=none→Q (.ref l) (upd H1 l (.lst xs.reverse))
theorem kM {p1 p2 pos1 pos2:Pos}{ta:TA} (hc:X.calm=true) (hg:Gl X "list") (hm:X.mg "list" = none) (wB:Gl X "reversed") (hm2:X.mg "reversed" = none) (ha:PA X [e] ta)
  (h1:starEach [.Call (.Name "reversed" p2) [e] [] pos2] X.env=[(false,eval (.Call (.Name "reversed" p2) [e] [] pos2) X.env)]:=by rfl) (h2:starEach [e] X.env=[(false,eval e X.env)]:=by rfl) :
  PE X (.Call (.Name "list" p1) [.Call (.Name "reversed" p2) [e] [] pos2] [] pos1) (j6 X.K ta):=by
 intro pins s σ H Q I h
 refine wpAny_Call_Name_kw (gj I hg hm boot_list ?_ (by decide) (by decide))
 refine PyProof.Rows.callWith_type1 ?_ h1 rfl
 rw[h1]
 show wpAny _ _ (spliced [(false,eval (.Call (.Name "reversed" p2) [e] [] pos2) X.env)]) _ _ s
 refine Calls.spliced_cons ?_
 refine wpAny_Call_Name_kw (gj I wB hm2 boot_reversed ?_ (by decide) (by decide))
 refine PyProof.Rows.callWith_type1 (cH (ha pos2 pins s σ H _ I h) fun us s1 ⟨vs,H1,I1,r1,q1⟩=>?_) h2 rfl
 obtain⟨p,xs,rfl,hq,q⟩:=q1
 obtain⟨u,rfl,ru⟩:=vals1 r1
 cases ru
 obtain⟨its,rv,pl,hz⟩:=I1.list hq
 have hlen:=rv.length
 refine call_reversed_list pl.isList ?_
 refine Calls.spliced_nil ?_
 have hnew:s1.heap.objs.size≤s1.heap.objs.size:=Nat.le_refl _
 have I2:Inv X pins σ H1 { s1 with heap:=s1.heap.push (revObj p ((its.toArray.size:Int) - 1)) }:=I1.kept (t':=s1.toks) fun b o e=>Heap.get?_push_of_some _ e
 have hpl:p < s1.heap.objs.size:=by obtain⟨o,ho,_⟩:=pl.isList;exact Heap.lt_size ho
 have f0:=I1.jX hnew (I1.hok.fresh hnew)
 refine iK (I.ok.hd hc) (Nat.ne_of_lt hpl) ⟨_,Heap.get?_push_size _ rfl,rfl,rfl⟩ (pl.isList.at fun o e=>Heap.get?_push_of_some _ e) (by rw[List.size_toArray];omega) fun h' tk acc' c' hk hS hacc=>?_
 have wC:=mG hacc
 have AU:H1 (s1.heap.objs.size+1)=none:=I1.hok.fresh (Nat.le_succ _)
 have e1:({ s1 with heap:=s1.heap.push (revObj p ((its.toArray.size:Int) - 1)) }:Shared).heap.objs.size=s1.heap.objs.size+1:=Heap.size_push ..
 have tE:acc'=its.reverse.toArray:=by rw[←wC]
 subst tE
 have I3:=I2.laid (a:=({ s1 with heap:=s1.heap.push (revObj p ((its.toArray.size:Int) - 1)) }:Shared).heap.objs.size) (o:=.lst xs.reverse) (t':=tk)
  (h':=({ s1 with heap:=s1.heap.push (revObj p ((its.toArray.size:Int) - 1)) }:Shared).heap.push { cls:=.type "list",dict:=none,data:=.seq its.reverse.toArray c',slots:=#[] }) (fun b o e=>Heap.get?_push_of_some _ e) (Nat.le_refl _)
  ⟨by rw[List.length_reverse];exact hz,its.reverse,c',rv.reverse,Heap.get?_push_size _ rfl⟩
 have f1:gF X pins (upd H1 ({ s1 with heap:=s1.heap.push (revObj p ((its.toArray.size:Int) - 1)) }:Shared).heap.objs.size (.lst xs.reverse)) s1.heap.objs.size:=I1.jX hnew (by rw[aH (by rw[e1];exact Nat.ne_of_lt (Nat.lt_succ_self _))];exact f0.1)
 have I4:=I3.turned (t':=tk) (h':=h') (it:=s1.heap.objs.size) (fun b o hb e=>?_) f1.1 f1.2.1 f1.2.2.2.1 f1.2.2.2.2.1 f1.2.2.2.2.2
 ·exact⟨.ref _,_,I4,rfl,q _ (by rw[e1];exact AU)⟩
 ·rcases Heap.get?_push_cases e with ⟨z,z2⟩ | z
  ·rw[z,z2]
   exact hS
  ·exact hk b o hb z
end
def sg (c:Nat):Str:=⟨#[c]⟩
def wD (z:Str):It:=⟨fun i _=>i < z.cps.size,fun i H x H'=>H'=H∧∃ c,z.cps[i]? = some c∧x=.str (sg c),fun i _=>z.cps.size≤i⟩
theorem nI {P:Program}{w:World}{K:W.Frag}{tg:Expr} (it:Addr) (z:Str) (t:Tok):Turn P w K tg (wD z) [it] it (fun i h=>h.IsStrIter it (strIterType z) z t i) where
 mem:=by simp
 obj:=fun i h st b hb=>by
  have e:b=it:=by simpa using hb
  subst e
  obtain⟨o,e,c,d⟩:=st
  exact⟨o,e,fun v z=>by rw[d] at z;cases z⟩
 keep:=fun i h h' st k=>by
  obtain⟨o,e,r⟩:=st
  exact⟨o,k it (by simp) o e,r⟩
 item:=by
  intro X hP hw hK hc i pins s σ H E I hf st hg
  subst hP hw hK
  obtain⟨f0,f1,f2,f3,f4,f5⟩:=hf it (by simp)
  have hi:i < z.cps.size:=hg
  have hx:z.cps[i]? = some z.cps[i]:=by simp[hi]
  cases ha:z.cps.all (· < 128) with
  | true =>
   have et:strIterType z = "str_ascii_iterator" := by simp only[strIterType,ha,if_true]
   rw[et] at st ⊢
   refine wpAny_pyNext_ascii_item st hx fun h' st' sb=>?_
   have I1:Inv X pins σ H { s with heap:=h',toks:=s.toks+1 }:=I.turned (fun b o hb e=>(sb.2 b hb).trans e) f0 f1 f3 f4 f5
   obtain⟨o,e,c,d⟩:=id st'
   exact⟨_,rfl,lE (s:={ s with heap:=h',toks:=s.toks+1 }) e c d (by decide) ⟨.str (sg z.cps[i]),H,I1,⟨_,rfl⟩,⟨rfl,_,hx,rfl⟩,st',fun b hb=>(hf b hb).1⟩⟩
  | false =>
   have et:strIterType z = "str_iterator" := by simp only[strIterType,ha,Bool.false_eq_true,if_false]
   rw[et] at st ⊢
   refine wpAny_pyNext_wide_item st hx fun h' st' sb=>?_
   have I1:Inv X pins σ H { s with heap:=h',toks:=s.toks+1 }:=I.turned (fun b o hb e=>(sb.2 b hb).trans e) f0 f1 f3 f4 f5
   obtain⟨o,e,c,d⟩:=id st'
   exact⟨_,rfl,lE (s:={ s with heap:=h',toks:=s.toks+1 }) e c d (by decide) ⟨.str (sg z.cps[i]),H,I1,⟨_,rfl⟩,⟨rfl,_,hx,rfl⟩,st',fun b hb=>(hf b hb).1⟩⟩
 done:=by
  intro X hP hw hK hc i pins s σ H E I hf st hg
  subst hP hw hK
  obtain⟨f0,f1,f2,f3,f4,f5⟩:=hf it (by simp)
  have hi:z.cps.size≤i:=hg
  have hx:z.cps[i]? = none:=by simp[hi]
  cases ha:z.cps.all (· < 128) with
  | true =>
   have et:strIterType z = "str_ascii_iterator" := by simp only[strIterType,ha,if_true]
   rw[et] at st
   exact wpAny_pyNext_ascii_end (I.ok.hd hc) st hx fun h' eb=>⟨rfl,I.turned (t':=s.toks) (fun b o hb e=>eb b o hb e) f0 f1 f3 f4 f5⟩
  | false =>
   have et:strIterType z = "str_iterator" := by simp only[strIterType,ha,Bool.false_eq_true,if_false]
   rw[et] at st
   exact wpAny_pyNext_wide_end (I.ok.hd hc) st hx fun h' eb=>⟨rfl,I.turned (t':=s.toks) (fun b o hb e=>eb b o hb e) f0 f1 f3 f4 f5⟩
 self:=by
  intro A i s Q E st h
  cases ha:z.cps.all (· < 128) with
  | true =>
   have et:strIterType z = "str_ascii_iterator" := by simp only[strIterType,ha,if_true]
   rw[et] at st
   exact wpAny_pyIter_striter_ascii st h
  | false =>
   have et:strIterType z = "str_iterator" := by simp only[strIterType,ha,Bool.false_eq_true,if_false]
   rw[et] at st
   exact wpAny_pyIter_striter_wide st h
section
variable {X:Cx}{tg:Expr}
def wF (tl:TE):TI:=fun σ H R=>tl σ H fun x H1=>∃ z,x=.str z∧R (wD z) H1
theorem qK {l:Expr}{tl:TE} (hl:PE X l tl):PI X tg l (wF tl):=by
 intro pins s σ H R I h
 refine cH (hl pins s σ H _ I h) fun v s1 ⟨x,H1,I1,r1,q1⟩=>?_
 obtain⟨z,e,q⟩:=q1
 subst e
 obtain⟨t,rfl⟩:=r1
 refine wpAny_pyIter_strU ?_
 refine⟨s1.heap.objs.size,[s1.heap.objs.size],_,_,H1,rfl,I1.kept (t':=s1.toks) fun b o e=>Heap.get?_push_of_some _ e,nI _ z t,⟨_,Heap.get?_push_size _ rfl,rfl,rfl⟩,fun b hb=>?_,q⟩
 have e:b=s1.heap.objs.size:=by simpa using hb
 subst e
 exact I1.jX (Nat.le_refl _) (I1.hok.fresh (Nat.le_refl _))
end
theorem bf {K:W.Frag}{a:Addr}{xs:List V}{g:TG}{tt:TT}{te:TE}{Q:VK}{D:Addr}{τ:St}{H:Hp} (Pv:Nat→List V→St→Hp→Prop) (h0:Pv 0 [] τ (upd H D (.lst [])))
  (hl:∀ i ys τ H,i≤xs.length→Pv i ys τ H→aD K H a xs∧H D=some (.lst ys))
  (hs:∀ i x ys τ H,xs[i]? = some x→Pv i ys τ H→g x τ H fun τ2 H2=>tt τ2 H2 fun b H3=>if b=true then te τ2 H3 fun y H4=>H4 D=some (.lst ys)∧ys.length < sizeLine∧Pv (i+1) (ys++[y]) τ2 (upd H4 D (.lst (ys++[y]))) else Pv (i+1) ys τ2 H3)
  (hd:∀ ys τ H,Pv xs.length ys τ H→Q (.ref D) H) :
  jb (rT K a) g tt te Q D τ H:=by
 refine⟨fun i m ys τ H=>m=xs.length - i∧i≤xs.length∧Pv i ys τ H,⟨xs.length,by simp,Nat.zero_le _,h0⟩,?_⟩
 rintro i m ys τ H ⟨rfl,hi,p⟩
 obtain⟨q,hD⟩:=hl i ys τ H hi p
 refine⟨hD,?_⟩
 by_cases hlt:i < xs.length
 ·refine .inr ⟨⟨xs,xs[i],q,by simp[hlt]⟩,Pv (i+1),fun zs σ' H' p'=>⟨xs.length - (i+1),by omega,rfl,hlt,p'⟩,fun x H' y=>?_⟩
  obtain⟨e,y⟩:=y
  subst e
  exact hs i x ys τ _ (y xs q) p
 ·have e:i=xs.length:=by omega
  subst e
  exact .inl ⟨⟨xs,q,Nat.le_refl _⟩,hd ys τ H p⟩
theorem nJ {z:Str}{g:TG}{tt:TT}{te:TE}{Q:VK}{D:Addr}{τ:St}{H:Hp} (Pv:Nat→List V→St→Hp→Prop) (h0:Pv 0 [] τ (upd H D (.lst [])))
  (hl:∀ i ys τ H,i≤z.cps.toList.length→Pv i ys τ H→H D=some (.lst ys))
  (hs:∀ i c ys τ H,z.cps.toList[i]? = some c→Pv i ys τ H→g (.str (sg c)) τ H fun τ2 H2=>tt τ2 H2 fun b H3=>if b=true then te τ2 H3 fun y H4=>H4 D=some (.lst ys)∧ys.length < sizeLine∧Pv (i+1) (ys++[y]) τ2 (upd H4 D (.lst (ys++[y]))) else Pv (i+1) ys τ2 H3)
  (hd:∀ ys τ H,Pv z.cps.toList.length ys τ H→Q (.ref D) H) :
  jb (wD z) g tt te Q D τ H:=by
 have hz:z.cps.toList.length=z.cps.size:=by simp
 refine⟨fun i m ys τ H=>m=z.cps.size - i∧i≤z.cps.size∧Pv i ys τ H,⟨z.cps.size,by simp,Nat.zero_le _,h0⟩,?_⟩
 rintro i m ys τ H ⟨rfl,hi,p⟩
 refine⟨hl i ys τ H (by omega) p,?_⟩
 by_cases hlt:i < z.cps.size
 ·refine .inr ⟨hlt,Pv (i+1),fun zs σ' H' p'=>⟨z.cps.size - (i+1),by omega,rfl,hlt,p'⟩,fun x H' y=>?_⟩
  obtain⟨e,c,hc,ex⟩:=y
  subst e ex
  exact hs i c ys τ _ (by simpa using hc) p
 ·have e:i=z.cps.size:=by omega
  subst e
  exact .inl ⟨Nat.le_refl _,hd ys τ H (by rw[hz];exact p)⟩
theorem kN {lo:Int}{n:Nat}{g:TG}{tt:TT}{te:TE}{Q:VK}{D:Addr}{τ:St}{H:Hp} (Pv:Nat→List V→St→Hp→Prop) (h0:Pv 0 [] τ (upd H D (.lst [])))
  (hl:∀ i ys τ H,i≤n→Pv i ys τ H→H D=some (.lst ys))
  (hs:∀ i ys τ H,i < n→Pv i ys τ H→g (.int (lo+i)) τ H fun τ2 H2=>tt τ2 H2 fun b H3=>if b=true then te τ2 H3 fun y H4=>H4 D=some (.lst ys)∧ys.length < sizeLine∧Pv (i+1) (ys++[y]) τ2 (upd H4 D (.lst (ys++[y]))) else Pv (i+1) ys τ2 H3)
  (hd:∀ ys τ H,Pv n ys τ H→Q (.ref D) H) :
  jb (pX lo n) g tt te Q D τ H:=by
 refine⟨fun i m ys τ H=>m=n - i∧i≤n∧Pv i ys τ H,⟨n,by simp,Nat.zero_le _,h0⟩,?_⟩
 rintro i m ys τ H ⟨rfl,hi,p⟩
 refine⟨hl i ys τ H hi p,?_⟩
 by_cases hlt:i < n
 ·refine .inr ⟨hlt,Pv (i+1),fun zs σ' H' p'=>⟨n - (i+1),by omega,rfl,hlt,p'⟩,fun x H' y=>?_⟩
  obtain⟨e,y⟩:=y
  subst e y
  exact hs i ys τ _ hlt p
 ·have e:i=n:=by omega
  subst e
  exact .inl ⟨Nat.le_refl _,hd ys τ H p⟩
section
variable {X:Cx}
theorem j7:cg X (.builtin "isinstance") (fun xs H Q=>∃ x c t b,xs=[x,c]∧eL X.K H x t∧((∃ n,c=.ty n∧W.kitOne X.K t (.type n)=some b)∨(∃ a,c=.ref a∧W.kitOne X.K t (.ref a)=some b))∧Q (.bl b) H):=by
 intro pins s σ H xs us Q I r h
 obtain⟨x,c,t,b,rfl,ty,hc,q⟩:=h
 obtain⟨u,w',rfl,ru,rw'⟩:=vals2 r
 rcases hc with ⟨n,rfl,e⟩ | ⟨a,rfl,e⟩
 ·cases rw'
  exact iZ I ru ty e fun tk=>⟨.bl b,H,I.tok tk,rfl,q⟩
 ·cases rw'
  exact iZ I ru ty e fun tk=>⟨.bl b,H,I.tok tk,rfl,q⟩
end
section
variable {X:Cx}
def tF (K:W.Frag):R2:=fun x y H Q=>∃ a b xs,x=.ref a∧y=.ref b∧aD K H a xs∧aD K H b []∧Q (.bl (!xs.isEmpty)) H
theorem qL (hu:X.A.units < cLine):fk X (compareOp .NotEq) (tF X.K):=by
 intro pins s σ H x y v u Q I rx ry h
 obtain⟨a,b,xs,rfl,rfl,ha,hb,q⟩:=h
 cases rx
 cases ry
 obtain⟨its,r1,p1,_⟩:=I.list ha
 obtain⟨its2,r2,p2,_⟩:=I.list hb
 cases r2
 show wpAny _ _ (richCompare .NotEq (.ref a) (.ref b)) _ _ _
 cases xs with
 | nil =>
  cases r1
  refine SeqAt.RcNeAt.lists (e:=fun _=>true) p1.isList p2.isList rfl hu (fun j h1 _=>absurd h1 (by simp)) _ _ _ _ ⟨.bl false,H,I,?_,q⟩
  simp[RelV]
 | cons x xs =>
  cases r1 with
  | cons r rr =>
   exact SeqAt.RcNeAt.lists_lengths p1.isList p2.isList (by simp) hu _ _ _ _ ⟨.bl true,H,I,rfl,q⟩
end
section
variable {X:Cx} (K:W.Frag) (h:X.K=K)
include h
theorem nK:uV X (qB K):=by subst h;exact oY
theorem dg:v9 X (sV K):=by subst h;exact oZ
theorem aF:cg X (.builtin "len") (fun xs H Q=>∃ p ys,xs=[.ref p]∧(aD K H p ys∨jV K H p ys)∧Q (.int ys.length) H):=by subst h;exact jq
theorem aY:cg X (.builtin "isinstance") (fun xs H Q=>∃ x c t b,xs=[x,c]∧eL K H x t∧((∃ n,c=.ty n∧W.kitOne K t (.type n)=some b)∨(∃ a,c=.ref a∧W.kitOne K t (.ref a)=some b))∧Q (.bl b) H):=by subst h;exact j7
theorem iL:cg X (.type "list") (fun xs H Q=>∃ p ys,xs=[.ref p]∧(aD K H p ys∨jV K H p ys)∧∀ l,H l=none→Q (.ref l) (upd H l (.lst ys))):=by subst h;exact jr
theorem g5:cg X (.type "tuple") (fun xs H Q=>∃ p ys,xs=[.ref p]∧((aD K H p ys∧∀ l,H l=none→Q (.ref l) (upd H l (.tup ys)))∨(jV K H p ys∧Q (.ref p) H))):=by subst h;exact iH
theorem jt (hu:X.A.units < cLine):fk X (compareOp .NotEq) (tF K):=by subst h;exact qL hu
theorem aZ {tg l:Expr}{tl:TE} (hl:PE X l tl):PI X tg l (pY K tl):=by subst h;exact oH hl
theorem o7 {es:List Expr}{k:Nat}{pos:Pos}{t:pW} (n:Nat) (hc:X.calm=true) (hh:sD X es t)
 (hn:(assignEach es X.env).length=n:=by rfl) (hst:(assignEach es X.env).findIdx? (·.1)=none:=by rfl):PG X (.Tuple es k pos) (sI K n t):=by subst h;exact qv hc hh hn hst
theorem j8 {e:Expr}{p1 p2 pos1 pos2:Pos}{ta:TA} (hc:X.calm=true) (hg:Gl X "list") (hm:X.mg "list" = none) (wB:Gl X "reversed") (hm2:X.mg "reversed" = none) (ha:PA X [e] ta)
 (h1:starEach [.Call (.Name "reversed" p2) [e] [] pos2] X.env=[(false,eval (.Call (.Name "reversed" p2) [e] [] pos2) X.env)]:=by rfl) (h2:starEach [e] X.env=[(false,eval e X.env)]:=by rfl) :
 PE X (.Call (.Name "list" p1) [.Call (.Name "reversed" p2) [e] [] pos2] [] pos1) (j6 K ta):=by subst h;exact kM hc hg hm wB hm2 ha h1 h2
theorem kO {o e:Expr}{es:List Expr}{to:TE}{t:TA}{name:Str}{apos cpos:Pos}{T id:String}{r:V→List V→Hp→VK→Prop} (pa:PlainAttrs T) (slot:Slot T name id) (hty:typeOf (.builtin id)=pure (.type "method_descriptor")) (hm:yF X id r) (ho:PE X o to) (ha:PA X (e :: es) t)
 (hbase:attributeBase o name X.env (eval o X.env)=eval o X.env:=by rfl)
 (hfew:((backTo cpos (starEach (e :: es) X.env)).all (fun x=>!x.1) && (backToKw cpos (keywordEach [] X.env)).all (fun x=>x.1.isSome)
  && decide ((e :: es).length+([]:List Keyword).length+(if ([]:List Keyword).isEmpty then 0 else 1) < 30))=true:=by rfl)
 (hline:(apos.endLine == cpos.line)=true:=by rfl) (hs:starEach (e :: es) X.env=(false,eval e X.env) :: starEach es X.env:=by rfl) (hplain:(backTo cpos (starEach es X.env)).any (·.1)=false:=by rfl) :
 PE X (.Call (.Attribute o name apos) (e :: es) [] cpos) (yH K T r to t):=by subst h;exact sX pa slot hty hm ho ha hbase hfew hline hs hplain
end
section
variable {X:Cx}
theorem o9 {x:Str}{z:Str}{t:Tok}{pos:Pos} (hg:Gl X x) (hm:X.mg x=some (.str z t)) (hd:(x == ("__debug__" : Str))=false:=by decide):PE X (.Name x pos) (tC (.str z)):=lD hg hm ⟨t,rfl⟩ hd
theorem qM (n:String) {x:Str}{pos:Pos} (hg:Gl X x) (hm:X.mg x=none) (hv:bootBuiltins x=some (.type n)) (hn:x ≠ "__name__" := by decide) (hd:(x == ("__debug__" : Str))=false:=by decide):PE X (.Name x pos) (tC (.ty n)):=oB hg hm hv rfl hn hd
end
section
variable {P:Program}{w:World}{K:W.Frag}{mg:Str→Option Value}{base:Heap}
end
section
variable {X:Cx}
theorem gB:∀{bs:List Bool}{us:List Value}{i:Nat}{u:Value},Vals (bs.map V.bl) us→us[i]? = some u→u=.bool (bs.getD i true)
 | [],_,_,_,r,e=>by cases r;simp at e
 | b :: bs,_,i,u,r,e=>by
  cases r with
  | cons r1 r2 =>
   cases i with
   | zero=>simp at e;subst e;exact r1
   | succ i=>simp at e;simpa using gB r2 e
theorem all_range (bs:List Bool):((List.range bs.length).all fun i=>bs.getD i true)=bs.all id:=by
 rw[Bool.eq_iff_iff,List.all_eq_true,List.all_eq_true]
 constructor
 ·intro h b hb
  obtain⟨i,hi,rfl⟩:=List.mem_iff_getElem.mp hb
  have:=h i (by simpa using hi)
  simpa [List.getD,hi] using this
 ·intro h i hi
  have hi':i < bs.length:=by simpa using hi
  have:=h bs[i] (List.getElem_mem hi')
  simpa [List.getD,hi'] using this
def tG (K:W.Frag):List V→Hp→VK→Prop:=fun xs H Q=>∃(p:Addr) (bs:List Bool),xs=[.ref p]∧aD K H p (bs.map V.bl)∧Q (.bl (bs.all id)) H
theorem nL (hc:X.calm=true):cg X (.builtin "all") (tG X.K):=by
 intro pins s σ H xs us Q I r h
 obtain⟨p,bs,rfl,hq,q⟩:=h
 obtain⟨u,rfl,ru⟩:=vals1 r
 cases ru
 obtain⟨its,rv,pl,hz⟩:=I.list hq
 have hlen:=rv.length
 rw[List.length_map] at hlen
 have hpl:p < s.heap.objs.size:=by obtain⟨o,ho,_⟩:=pl.isList;exact Heap.lt_size ho
 refine call_all_walk (wpAny_pyIter_list pl.isList ⟨s.heap.objs.size,_,_,_,_,_,fun i=>bs.getD i true,rfl,Walks.list (A:=X.A.in1) (show X.A.in1.handled=none from I.ok.hd hc) s.heap.objs.size p (Nat.ne_of_lt hpl) its.toArray,⟨⟨_,Heap.get?_push_size _ rfl,rfl,rfl⟩,pl.isList.at fun o e=>Heap.get?_push_of_some _ e⟩,?_,?_⟩)
 ·intro i v s' Q' E' hv hq'
  have e:its[i]? = some v:=by simpa using hv
  rw[gB rv e]
  exact wpAny_truthy_bool hq'
 ·intro h' tk hk
  have f0:=I.jX (Nat.le_refl s.heap.objs.size) (I.hok.fresh (Nat.le_refl _))
  have I2:Inv X pins σ H { s with heap:=s.heap.push { cls:=.type "list_iterator",data:=.fields #[.ref p,rawInt 0] } }:=I.kept (t':=s.toks) fun b o e=>Heap.get?_push_of_some _ e
  have I3:=I2.turned (h':=h') (t':=tk) (it:=s.heap.objs.size) (fun b o hb e=>hk b o (by simpa using hb) e) f0.1 f0.2.1 f0.2.2.2.1 f0.2.2.2.2.1 f0.2.2.2.2.2
  refine⟨.bl (bs.all id),H,I3,?_,q⟩
  show Value.bool _=Value.bool _
  rw[List.size_toArray,←hlen,all_range]
theorem gu (K:W.Frag) (h:X.K=K) (hc:X.calm=true):cg X (.builtin "all") (tG K):=by subst h;exact nL hc
theorem j9:∀{x:V},fO x=true→sW x x=true
 | .non,_=>rfl
 | .bl b,_=>by cases b <;> rfl
 | .int i,_=>by simp[sW]
 | .str z,_=>by simp[sW]
end
inductive fq (K:W.Frag) (H:Hp):Nat→V→V→Prop where
 | flat {n:Nat}{x y:V}:fO x=true→fO y=true→sW x y=true→fq K H n x y
 | ref {n:Nat}{a:Addr}:fq K H n (.ref a) (.ref a)
 | tup {n:Nat}{a b:Addr}{xs ys:List V}:jV K H a xs→jV K H b ys→xs.length=ys.length→(∀(j:Nat) x y,xs[j]? = some x→ys[j]? = some y→fq K H n x y)→fq K H (n+1) (.ref a) (.ref b)
 | lst {n:Nat}{a b:Addr}{xs ys:List V}:aD K H a xs→aD K H b ys→xs.length=ys.length→(∀(j:Nat) x y,xs[j]? = some x→ys[j]? = some y→fq K H n x y)→fq K H (n+1) (.ref a) (.ref b)
theorem all_true (n:Nat):(List.range n).all (fun _=>true)=true:=by rw[List.all_eq_true];intro _ _;rfl
section
variable {X:Cx}{pins:List (Addr×Obj)}{σ:St}{H:Hp}{s:Shared}
theorem dW {A:Around}{R:V→V→Prop}{xs ys:List V}{us ws:List Value} (r1:Vals xs us) (r2:Vals ys ws) (h:∀(j:Nat) x y u w,xs[j]? = some x→ys[j]? = some y→RelV x u→RelV y w→SeqAt.EqAt A s u w true) (j:Nat) (h1:j < us.toArray.size) (h2:j < ws.toArray.size) :
  SeqAt.EqAt A s us.toArray[j] ws.toArray[j] true:=by
 have hl1:=r1.length
 have hl2:=r2.length
 have hj1:j < xs.length:=by rw[hl1];simpa using h1
 have hj2:j < ys.length:=by rw[hl2];simpa using h2
 obtain⟨u,eu,ru⟩:=r1.get (i:=j) (x:=xs[j]) (by simp[hj1])
 obtain⟨w,ew,rw'⟩:=r2.get (i:=j) (x:=ys[j]) (by simp[hj2])
 have e1:us.toArray[j]=u:=by
  obtain⟨_,q⟩:=List.getElem?_eq_some_iff.mp eu
  simpa using q
 have e2:ws.toArray[j]=w:=by
  obtain⟨_,q⟩:=List.getElem?_eq_some_iff.mp ew
  simpa using q
 rw[e1,e2]
 exact h j _ _ u w (by simp[hj1]) (by simp[hj2]) ru rw'
theorem jc (I:Inv X pins σ H s) {n:Nat}{x y:V} (h:fq X.K H n x y):∀{A:Around}{u v:Value},A.units+n < cLine→RelV x u→RelV y v→SeqAt.EqAt A s u v true:=by
 induction h with
 | flat f1 f2 e=>intro A u v _ ru rv;rw[←e];exact qD ru rv f1 f2
 | ref=>intro A u v _ ru rv;cases ru;cases rv;exact SeqAt.EqAt.same _
 | @tup n a b xs ys ha hb hl _ ih =>
  intro A u v hu ru rv
  cases ru;cases rv
  by_cases e:a=b
  ·subst e;exact SeqAt.EqAt.same _
  ·obtain⟨its,r1,p1,_⟩:=I.tuple ha
   obtain⟨its2,r2,p2,_⟩:=I.tuple hb
   refine SeqAt.EqAt.of_refs e ?_
   have q:=SeqAt.RcAt.tuples (A:=A) (e:=fun _=>true) p1 p2 (by omega) fun j h1 h2=>dW (R:=fun _ _=>True) r1 r2 (fun j x y u w ex ey ru rw'=>ih j x y ex ey (by show A.units+1+n < cLine;omega) ru rw') j h1 h2
   have e2:((List.range (min its.toArray.size its2.toArray.size)).all (fun _=>true) && its.toArray.size == its2.toArray.size)=true:=by
    rw[all_true,List.size_toArray,List.size_toArray,←r1.length,←r2.length,hl];simp
   rw[e2] at q
   exact q
 | @lst n a b xs ys ha hb hl _ ih =>
  intro A u v hu ru rv
  cases ru;cases rv
  by_cases e:a=b
  ·subst e;exact SeqAt.EqAt.same _
  ·obtain⟨its,r1,p1,_⟩:=I.list ha
   obtain⟨its2,r2,p2,_⟩:=I.list hb
   refine SeqAt.EqAt.of_refs e ?_
   have q:=SeqAt.RcAt.lists (A:=A) (e:=fun _=>true) p1.isList p2.isList (by rw[List.size_toArray,List.size_toArray,←r1.length,←r2.length,hl]) (by omega) fun j h1 h2=>dW (R:=fun _ _=>True) r1 r2 (fun j x y u w ex ey ru rw'=>ih j x y ex ey (by show A.units+1+n < cLine;omega) ru rw') j h1 h2
   rw[all_true] at q
   exact q
end
section
variable {X:Cx}
def TopD (K:W.Frag) (H:Hp) (x y:V):Prop:=∃(n:Nat) (a b:Addr) (xs ys:List V),x=.ref a∧y=.ref b∧n≤50∧xs.length=ys.length∧((jV K H a xs∧jV K H b ys)∨(aD K H a xs∧aD K H b ys))∧∀(j:Nat) x y,xs[j]? = some x→ys[j]? = some y→fq K H n x y
def qN (K:W.Frag):R2:=fun x y H Q=>TopD K H x y∧Q (.bl false) H
theorem qO (K:W.Frag) (hK:X.K=K) (hu:X.A.units+64 < cLine):fk X (compareOp .NotEq) (qN K):=by
 subst hK
 intro pins s σ H x y v u Q I rx ry h
 obtain⟨⟨n,a,b,xs,ys,rfl,rfl,hn,hl,hk,hs⟩,q⟩:=h
 cases rx;cases ry
 show wpAny _ _ (richCompare .NotEq (.ref a) (.ref b)) _ _ _
 rcases hk with ⟨ha,hb⟩ | ⟨ha,hb⟩
 ·obtain⟨its,r1,p1,_⟩:=I.tuple ha
  obtain⟨its2,r2,p2,_⟩:=I.tuple hb
  refine SeqAt.RcNeAt.tuples (e:=fun _=>true) p1 p2 (by omega) (fun j h1 h2=>dW (R:=fun _ _=>True) r1 r2 (fun j x y u w ex ey ru rw'=>jc I (hs j x y ex ey) (by show X.A.units+1+n < cLine;omega) ru rw') j h1 h2) _ _ _ _ ⟨.bl false,H,I,?_,q⟩
  show Value.bool _=Value.bool _
  rw[all_true,List.size_toArray,List.size_toArray,←r1.length,←r2.length,hl];simp
 ·obtain⟨its,r1,p1,_⟩:=I.list ha
  obtain⟨its2,r2,p2,_⟩:=I.list hb
  refine SeqAt.RcNeAt.lists (e:=fun _=>true) p1.isList p2.isList (by rw[List.size_toArray,List.size_toArray,←r1.length,←r2.length,hl]) (by omega) (fun j h1 h2=>dW (R:=fun _ _=>True) r1 r2 (fun j x y u w ex ey ru rw'=>jc I (hs j x y ex ey) (by show X.A.units+1+n < cLine;omega) ru rw') j h1 h2) _ _ _ _ ⟨.bl false,H,I,?_,q⟩
  show Value.bool _=Value.bool _
  rw[all_true];rfl
end
section
variable {X:Cx}
theorem gR {x:Str}{z:Int}{t:Tok}{pos:Pos} (hg:Gl X x) (hm:X.mg x=some (.int z t)) (hd:(x == ("__debug__" : Str))=false:=by decide):PE X (.Name x pos) (tC (.int z)):=lD hg hm ⟨t,rfl⟩ hd
end
section
variable {X:Cx}{CX:mq}{k:Nat}{f C:Addr}{fd:FuncData}{ps ks:List Str}{sp:Sp}{E:XK}{x m:Str}{p pos apos kpos:Pos}{e o:Expr}{es:List Expr}{kws:List Keyword}{te ta:TE}{t tk:TA}{nm:Option Str}
 {g:List Value→List Value→List Value}{gV:List V→List V→List V}
end
section
variable {X:Cx}{pins:List (Addr×Obj)}{σ:St}{H:Hp}{s:Shared}
end
section
variable {X:Cx}
end
section
variable {X:Cx}{pins:List (Addr×Obj)}{σ:St}{H:Hp}{s:Shared}{h':Heap}
end
def tH (K:W.Frag):List V→Hp→VK→Prop:=fun xs H Q=>∃(p:Addr) (ns:List Nat),xs=[.ref p]∧aD K H p (ns.map fun n:Nat=>V.int n)∧ns.sum < 1000000∧Q (.int (ns.sum:Nat)) H
theorem pre_take (ns:List Nat):∀ k,k≤ns.length→preSum (fun i=>((ns.getD i 0:Nat):Int)) k=((ns.take k).sum:Nat)
 | 0,_=>rfl
 | k+1,h=>by
  show preSum _ k+((ns.getD k 0:Nat):Int)=_
  rw[pre_take ns k (by omega)]
  have hk:k < ns.length:=by omega
  rw[List.take_succ,List.getElem?_eq_getElem hk,List.sum_append]
  simp[List.getD,List.getElem?_eq_getElem hk]
theorem gC (ns:List Nat) (k:Nat):(ns.take k).sum≤ns.sum:=by
 have e:=congrArg List.sum (List.take_append_drop k ns)
 rw[List.sum_append] at e
 omega
theorem fP:∀{ns:List Nat}{us:List Value}{i:Nat}{v:Value},Vals (ns.map fun n:Nat=>V.int n) us→us[i]? = some v→∃ t,v=.int (ns.getD i 0:Nat) t
 | [],_,i,v,r,e=>by cases r;simp at e
 | n :: ns,_,0,v,r,e=>by
  cases r with
  | cons r1 r2 =>
   simp at e
   subst e
   obtain⟨t,e⟩:=r1
   exact⟨t,by simpa using e⟩
 | n :: ns,_,i+1,v,r,e=>by
  cases r with
  | cons r1 r2 =>
   obtain⟨t,e2⟩:=fP r2 (i:=i) (v:=v) (by simpa using e)
   exact⟨t,by simpa using e2⟩
theorem mH {X:Cx} (hc:X.calm=true):cg X (.builtin "sum") (tH X.K):=by
 intro pins s σ H xs us Q I r h
 obtain⟨p,ns,rfl,hq,hs,q⟩:=h
 obtain⟨u,rfl,ru⟩:=vals1 r
 cases ru
 obtain⟨its,rv,pl,hz⟩:=I.list hq
 have hlen:=rv.length
 rw[List.length_map] at hlen
 have hpl:p < s.heap.objs.size:=by obtain⟨o,ho,_⟩:=pl.isList;exact Heap.lt_size ho
 refine call_sum_walk (wpAny_pyIter_list pl.isList ⟨s.heap.objs.size,_,_,_,_,_,fun i=>((ns.getD i 0:Nat):Int),rfl,Walks.list (A:=X.A.in1) (show X.A.in1.handled=none from I.ok.hd hc) s.heap.objs.size p (Nat.ne_of_lt hpl) its.toArray,⟨⟨_,Heap.get?_push_size _ rfl,rfl,rfl⟩,pl.isList.at fun o e=>Heap.get?_push_of_some _ e⟩,?_,?_,?_,?_⟩)
 ·intro b hb
  have e:b=s.heap.objs.size∨b=p:=by simpa using hb
  show b < (s.heap.push _).objs.size
  rw[Heap.size_push]
  rcases e with rfl | rfl
  ·exact Nat.lt_succ_self _
  ·exact Nat.lt_succ_of_lt hpl
 ·intro i v hv
  exact fP rv (by simpa using hv)
 ·intro j hj
  have hj':j < ns.length:=by rw[hlen];simpa using hj
  have h1:=gC ns (j+1)
  have h2:ns.getD j 0≤ns.sum:=by
   have:=gC ns (j+1)
   rw[List.take_succ,List.getElem?_eq_getElem hj',List.sum_append] at this
   simp[List.getD,List.getElem?_eq_getElem hj'] at this ⊢
   omega
  rw[pre_take ns (j+1) (by omega)]
  show InLong ((ns.getD j 0:Nat):Int)∧_
  constructor <;> (unfold InLong;constructor <;> omega)
 ·intro h' tk t' hk
  have f0:=I.jX (Nat.le_refl s.heap.objs.size) (I.hok.fresh (Nat.le_refl _))
  have I2:Inv X pins σ H { s with heap:=s.heap.push { cls:=.type "list_iterator",data:=.fields #[.ref p,rawInt 0] } }:=I.kept (t':=s.toks) fun b o e=>Heap.get?_push_of_some _ e
  have I3:=I2.turned (h':=h') (t':=tk) (it:=s.heap.objs.size) (fun b o hb e=>hk b o (by simpa using hb) e) f0.1 f0.2.1 f0.2.2.2.1 f0.2.2.2.2.1 f0.2.2.2.2.2
  refine⟨.int (ns.sum:Nat),H,I3,⟨t',?_⟩,q⟩
  rw[List.size_toArray,←hlen,pre_take ns _ (Nat.le_refl _),List.take_of_length_le (Nat.le_refl _)]
theorem dJ {X:Cx} (K:W.Frag) (h:X.K=K) (hc:X.calm=true):cg X (.builtin "sum") (tH K):=by subst h;exact mH hc
open PySem
theorem AV {A B:Prop}{b:Bool} (hb:b=true) (h:A):if b=true then A else B:=by rw[if_pos hb];exact h
theorem AW {A B:Prop}{b:Bool} (hb:b=false) (h:B):if b=true then A else B:=by rw[if_neg (by rw[hb];decide)];exact h
theorem yN {p A B:Prop} [Decidable p] (hp:p) (h:A):if decide p=true then A else B:=AV (decide_eq_true hp) h
theorem tK {p A B:Prop} [Decidable p] (hp:¬p) (h:B):if decide p=true then A else B:=AW (decide_eq_false hp) h
theorem AX {A B:Prop}{a b:Int} (hp:a=b) (h:A):if decide (V.int a=V.int b)=true then A else B:=yN (by rw[hp]) h
theorem wG {A B:Prop}{a b:Int} (hp:¬a=b) (h:B):if decide (V.int a=V.int b)=true then A else B:=tK (fun e=>hp (V.int.inj e)) h
theorem wH {A B:Prop}{b:Bool} (h1:b=true→A) (h2:b=false→B):if b=true then A else B:=by
 cases b with
 | true=>exact gH (h1 rfl)
 | false=>exact eB (h2 rfl)
theorem nM {p A B:Prop} [Decidable p] (h1:p→A) (h2:¬p→B):if decide p=true then A else B:=by
 by_cases h:p
 ·exact yN h (h1 h)
 ·exact tK h (h2 h)
theorem mJ {A B:Prop}{a b:Int} (h1:a=b→A) (h2:¬a=b→B):if decide (V.int a=V.int b)=true then A else B:=by
 by_cases h:a=b
 ·exact AX h (h1 h)
 ·exact wG h (h2 h)
section
variable {X:Cx}
theorem fk.yO {f:Value→Value→Sem Value}{r r':R2} (h:fk X f r) (h':fk X f r'):fk X f (fun x y H Q=>r x y H Q∨r' x y H Q):=by
 intro pins s σ H x y v u Q I rx ry q
 rcases q with q | q
 ·exact h pins s σ H x y v u Q I rx ry q
 ·exact h' pins s σ H x y v u Q I rx ry q
def dX (z:Str) (n:Nat):Str:=⟨(List.replicate n z.cps).foldl (· ++ ·) #[]⟩
end
section
variable {X:Cx}
theorem fQ {α β:Type}{F:α→β→Prop}:∀{xs:List α}{ys:List β},Paired F xs ys→∀ x∈xs,∃ y∈ys,F x y
 | _,_,.nil=>fun x hx=>by cases hx
 | _,_,.cons r t=>fun x hx=>by
  rcases List.mem_cons.mp hx with rfl | hx
  ·exact⟨_,List.mem_cons_self ..,r⟩
  ·obtain⟨y,h1,h2⟩:=fQ t x hx
   exact⟨y,List.mem_cons_of_mem _ h1,h2⟩
end
section
variable {prog:Program}{w:World}{A:Around}{E:Value→Shared→Prop}{s:Shared}
end
section
variable {prog:Program}{w:World}{A:Around}{E:Value→Shared→Prop}{s:Shared}
end
section
variable {prog:Program}{w:World}{A:Around}{E:Value→Shared→Prop}{s:Shared}
end
section
variable {X:Cx}
end
section
variable {X:Cx}{pins:List (Addr×Obj)}{σ:St}{H:Hp}{s:Shared}
end
section
variable {X:Cx}
end
section
variable {X:Cx}
def tL:R2:=fun x y H Q=>∃(z:Str) (k:Int),x=.str z∧y=.int k∧0≤k∧k < 1000000∧z.length * k.toNat≤10000000∧z.length≤10000000∧Q (.str (dX z k.toNat)) H
theorem nN (z:Str):dX z 1=z:=by
 unfold dX
 show(⟨#[]++z.cps⟩:Str)=z
 rw[Array.empty_append]
theorem qP {z:Str} (h:z.length=0) (n:Nat):dX z n=z:=by
 have e:z.cps = #[]:=Array.eq_empty_of_size_eq_zero h
 have key:∀ n:Nat,(List.replicate n (#[]:Array Nat)).foldl (· ++ ·) (#[]:Array Nat) = #[]:=fun n=>by
  induction n with
  | zero=>rfl
  | succ n ih=>rw[List.replicate_succ,List.foldl_cons,Array.append_empty];exact ih
 obtain⟨c⟩:=z
 have e:c = #[]:=e
 unfold dX
 show(⟨(List.replicate n c).foldl (· ++ ·) #[]⟩:Str)=⟨c⟩
 rw[e,key n]
theorem lO:fk X (binaryOp .Mult) tL:=by
 intro pins s σ H x y v u Q I rx ry h
 obtain⟨z,k,rfl,rfl,hk,hk2,hl,hz,q⟩:=h
 obtain⟨t,rfl⟩:=rx
 obtain⟨t',rfl⟩:=ry
 have tl:Builtin.Str.tooLong (z.length * k.toNat)=false:=by
  unfold Builtin.Str.tooLong
  have hsl:10000000≤sizeLine:=by decide
  simp
  omega
 refine P.mul_str (by simp;omega) (fun _ _=>?_) (fun _ _=>tl) ?_
 ·intro h
  have h3:(10000000:Int)≤(2 ^ 63 - 1) / k:=by
   rw[Int.le_ediv_iff_mul_le (by omega)]
   omega
  omega
 ·by_cases e1:k < 1
  ·rw[if_pos e1]
   have:k=0:=by omega
   subst this
   exact⟨by decide,.str _,H,I.tok _,⟨_,rfl⟩,q⟩
  ·rw[if_neg e1]
   cases e2:(k == 1 || z.length == 0) with
   | true =>
    rw[if_pos rfl]
    have er:dX z k.toNat=z:=by
     rw[Bool.or_eq_true] at e2
     rcases e2 with e | e
     ·have:k=1:=by simpa using e
      subst this;exact nN z
     ·exact qP (by simpa using e) _
    rw[er] at q
    exact⟨.str _,H,I,⟨_,rfl⟩,q⟩
   | false =>
    rw[if_neg (by decide)]
    exact⟨fits_reps tl,⟨.str _,H,I.tok _,⟨_,rfl⟩,q⟩⟩
end
section
variable {X:Cx}
def tM:Expr→Option V
 | .Constant (.str z) _ _=>some (.str z)
 | .Constant (.int i) _ _=>some (.int i)
 | .Constant (.bool b) _ _=>some (.bl b)
 | .Constant .none _ _=>some .non
 | _=>none
inductive Cs:List Expr→List V→Prop where
 | nil:Cs [] []
 | cons {e:Expr}{v:V}{es:List Expr}{vs:List V}:tM e=some v→Cs es vs→Cs (e :: es) (v :: vs)
def AY (vs:List V):TA:=fun _ H Q=>Q vs H
theorem qQ {e:Expr}{v:V} (h:tM e=some v):PE X e (tC v):=by
 unfold tM at h
 split at h
 ·cases h;exact bx
 ·cases h;exact aj
 ·cases h;exact cP
 ·cases h;exact gW
 ·cases h
theorem pe {e:Expr}{v:V} (h:tM e=some v) (es:List Expr):starEach (e :: es) X.env=(false,eval e X.env) :: starEach es X.env:=by
 unfold tM at h
 split at h
 ·rfl
 ·rfl
 ·rfl
 ·rfl
 ·cases h
theorem tN {es:List Expr}{vs:List V} (h:Cs es vs):PA X es (AY vs):=by
 induction h with
 | nil=>exact ak
 | cons h1 _ ih=>exact af (qQ h1) ih (pe h1 _)
theorem bu {a o b p}{tt:Option Expr}{ll:Nat}{env:Env}:swapsWith (.BinOp a o b p) tt ll env=pure false:=rfl
theorem dw {f a k p}{tt:Option Expr}{ll:Nat}{env:Env}:swapsWith (.Call f a k p) tt ll env=pure false:=rfl
theorem gD {v k p}{tt:Option Expr}{ll:Nat}{env:Env}:swapsWith (.Constant v k p) tt ll env=pure false:=rfl
theorem dY {v s p}{tt:Option Expr}{ll:Nat}{env:Env}:swapsWith (.Subscript v s p) tt ll env=pure false:=rfl
theorem gS {e p}{tt:Option Expr}{ll:Nat}{env:Env}:swapsWith (.List e p) tt ll env=pure false:=rfl
theorem dM {a o b p es}{env:Env}:starEach (.BinOp a o b p :: es) env=(false,eval (.BinOp a o b p) env) :: starEach es env:=rfl
theorem pA {k v p es}{env:Env}:starEach (.Dict k v p :: es) env=(false,eval (.Dict k v p) env) :: starEach es env:=rfl
theorem kP {l o c p es}{env:Env}:starEach (.Compare l o c p :: es) env=(false,eval (.Compare l o c p) env) :: starEach es env:=rfl
theorem lP {f a k p es}{env:Env}:starEach (.Call f a k p :: es) env=(false,eval (.Call f a k p) env) :: starEach es env:=rfl
theorem au {v k p es}{env:Env}:starEach (.Constant v k p :: es) env=(false,eval (.Constant v k p) env) :: starEach es env:=rfl
theorem cu {v s p es}{env:Env}:starEach (.Subscript v s p :: es) env=(false,eval (.Subscript v s p) env) :: starEach es env:=rfl
theorem aq {i p es}{env:Env}:starEach (.Name i p :: es) env=(false,eval (.Name i p) env) :: starEach es env:=rfl
theorem bD {e p es}{env:Env}:starEach (.List e p :: es) env=(false,eval (.List e p) env) :: starEach es env:=rfl
theorem dh {e k p es}{env:Env}:starEach (.Tuple e k p :: es) env=(false,eval (.Tuple e k p) env) :: starEach es env:=rfl
theorem br {e g s p es}{env:Env}:starEach (.ListComp e g s p :: es) env=(false,eval (.ListComp e g s p) env) :: starEach es env:=rfl
end
section
variable {κ:Type} [DecidableEq κ]
end
section
variable {P:Program}{w:World}{H:Hp}{h:Heap}{a:Addr}
theorem tO {u:HO} (ok:gi P w H h) (e:Rd H a u):bH P w H h a u:=e.ok ok
theorem tP {kvs:List (Key×V)} (ok:gi P w H h) (e:Rd H a (.dK kvs)):kvs.length≤sizeLine∧(a == sysModules)=false∧∃ vs,KV kvs vs∧h.DictOf (gO P w) a vs :=
 show bH P w H h a (.dK kvs) from tO ok e
theorem tQ {kvs:List (Key×V)} (ok:gi P w H h) (e:H a=some (.dK kvs)):kvs.length≤sizeLine∧(a == sysModules)=false∧∃ vs,KV kvs vs∧h.DictOf (gO P w) a vs:=tP ok (.inl e)
end
section
variable {X:Cx}{pins:List (Addr×Obj)}{σ:St}{H:Hp}{s:Shared}{a:Addr}{y v:V}{u r:Value}{o:Option V}{A:Around}{E:Value→Shared→Prop}
theorem Inv.big (I:Inv X pins σ H s):sysModules < s.heap.objs.size:=by
 have h:mainGlobals < s.heap.objs.size:=(I.mod.glob.keeps I.bk).lt
 exact Nat.lt_trans (by decide) h
end
section
variable {X:Cx}{pins:List (Addr×Obj)}{σ:St}{H:Hp}{s:Shared}{a:Addr}{kvs:List (Key×V)}{k:Key}{u:Value}{A:Around}{E:Value→Shared→Prop}
end
section
variable {X:Cx}{o i e value:Expr}{pos pos' tpos:Pos}{td ty tv:TE}
end
theorem nO {P:Program}{w:World}{H:Hp} (h:Heap) (hb:sysModules < h.objs.size):bH P w H (h.push { cls:=.type "dict",data:=.dict #[] }) h.objs.size (.dK []) :=
 ⟨Nat.zero_le _,beq_eq_false_iff_ne.mpr (Ne.symm (Nat.ne_of_lt hb)),[],.nil,Heap.DictOf.new h⟩
def qR:TE:=fun _ H Q=>∀ p,H p=none→Q (.ref p) (upd H p (.dK []))
section
variable {X:Cx}{pos:Pos}
theorem nP:PE X (.Dict [] [] pos) qR:=fun pins s σ H Q I h =>
 wpAny_Dict_empty ⟨.ref s.heap.objs.size,_,I.laid (a:=s.heap.objs.size) (o:=.dK []) (t':=s.toks) (fun _ _ q=>Heap.get?_push_of_some _ q) (Nat.le_refl _) (nO s.heap I.big),rfl,h _ (I.hok.fresh (Nat.le_refl _))⟩
end
structure M1 (X:Cx) (o:Expr) (m:Str) (apos:Pos) (e:Expr) (cpos:Pos):Prop where
 base:attributeBase o m X.env (eval o X.env)=eval o X.env
 few:((backTo cpos (starEach [e] X.env)).all (fun x=>!x.1) && (backToKw cpos (keywordEach [] X.env)).all (fun x=>x.1.isSome)
  && decide (([e]:List Expr).length+([]:List Keyword).length+(if ([]:List Keyword).isEmpty then 0 else 1) < 30))=true
 line:(apos.endLine == cpos.line)=true
 trees:backTo cpos (starEach [e] X.env)=[(false,eval e X.env)]
section
variable {X:Cx}{pins:List (Addr×Obj)}{σ:St}{H:Hp}{s:Shared}{a:Addr}{y d:V}{u r:Value}{o:Option V}{A:Around}{E:Value→Shared→Prop}
end
section
variable {X:Cx}{o e f:Expr}{apos cpos:Pos}{td ty tx:TE}
end
section
variable {X:Cx}{pins:List (Addr×Obj)}{σ:St}{H:Hp}{s:Shared}{a:Addr}{kvs:List (Key×V)}{A:Around}{E:Value→Shared→Prop}
end
section
variable {X:Cx}{pins:List (Addr×Obj)}{σ:St}{H:Hp}{s:Shared}{a:Addr}{y:V}{u:Value}{A:Around}{E:Value→Shared→Prop}
end
end L2
set_option maxHeartbeats 1000000
namespace L2
open PySem PySem.Spec PyProof.Rows
section
variable {X:Cx}
end
section
variable {X:Cx}
def nQ:R2:=fun x y H Q=>∃ a,x=.ref a∧y=.ref a∧H a=some (.dK [])∧Q (.bl false) H
theorem pB (hu:X.A.units < cLine):fk X (compareOp .NotEq) nQ:=by
 intro pins s σ H x y v u Q I rx ry h
 obtain⟨a,rfl,rfl,ha,q⟩:=h
 cases rx;cases ry
 obtain⟨z,hd,vs,rel,dd⟩:=tQ I.hok ha
 cases rel with
 | nil=>exact W.keq_ne hd hd dd dd hu (r:=true) (fun _=>.nil) (aG I q rfl)
end
end L2
set_option maxHeartbeats 4000000
namespace L2
open PySem PySem.Spec PyProof.Rows
theorem mK {x:Str}:[x].Nodup:=.cons (fun y hy=>nomatch hy) .nil
section
variable {X:Cx}
theorem jd (i:Nat) {x:Str}{pos:Pos} (hN:X.N.Nodup) (hi:X.N[i]? = some x:=by rfl) (hx:Loc X.env.scope x:=by first | exact .inl rfl | exact .inr rfl) (hf:X.fn x=true∨X.env.scope.names.lookup x=some .local:=by first | exact .inl rfl | exact .inr rfl | assumption):PG X (.Name x pos) (bP i):=oF hN hi hx hf
theorem gv (i:Nat) {x:Str}{e:Expr}{te:TE}{pos pos':Pos} (hN:X.N.Nodup) (he:PE X e te) (hi:X.N[i]? = some x:=by rfl) (hx:Loc X.env.scope x:=by first | exact .inl rfl | exact .inr rfl) (hs:swapsWith e (some (.Name x pos')) pos.line X.env=pure false:=by rfl) (hf:X.fn x=true∨X.env.scope.names.lookup x=some .local:=by first | exact .inl rfl | exact .inr rfl | assumption) :
 PS X (.Assign [.Name x pos'] e pos) (qw te (bP i)):=kC hN hi hx he hs hf
theorem mL {XN:List Str}{rU:Scope}{N:List Str}{nv:Nat}{js:List Nat}{scope:Scope} (kind:scope.kind=.function:=by rfl) (cell:∀ y∈scope.names,y.2≠.cell:=by decide +kernel) (loc:∀ y∈scope.names,y.2=.local→scope.names.lookup y.1=some .local:=by decide +kernel)
 (free:∀ y∈scope.names,y.2=.free→(rU.names.lookup y.1=some .cell∨rU.names.lookup y.1=some .free):=by decide +kernel) (nd:N.Nodup:=by decide +kernel) (len:N.length=nv+js.length:=by rfl) (pl:js.map (fun j=>XN[j]?)=(N.drop nv).map some:=by rfl)
 (fr:∀ x∈N.drop nv,scope.names.lookup x=some .free:=by decide +kernel):aE XN rU N nv js scope:=⟨kind,cell,loc,free,nd,len,pl,fr⟩
theorem eT {id:String}{r:List V→Hp→VK→Prop}{x:Str}{e:Expr}{es:List Expr}{t:TA}{p pos:Pos} (hc:cg X (.builtin id) r) (hm:X.mg x=none) (ha:PA X (e :: es) t) (hg:Gl X x:=by rfl) (hv:bootBuiltins x=some (.builtin id):=by decide +kernel) (hn:x ≠ "__name__" := by decide) (hdb:(x == ("__debug__" : Str))=false:=by decide)
 (he:starEach (e :: es) X.env=(false,eval e X.env) :: starEach es X.env:=by rfl) (hpl:(backTo pos (starEach es X.env)).any (·.1)=false:=by rfl):PE X (.Call (.Name x p) (e :: es) [] pos) (uU r t):=ny hc hg hm hv ha hn hdb he hpl
theorem wI {T:String}{r:List V→Hp→VK→Prop}{x:Str}{e:Expr}{es:List Expr}{t:TA}{p pos:Pos} (hc:cg X (.type T) r) (hm:X.mg x=none) (ha:PA X (e :: es) t) (hg:Gl X x:=by rfl) (hv:bootBuiltins x=some (.type T):=by decide +kernel) (hn:x ≠ "__name__" := by decide) (hdb:(x == ("__debug__" : Str))=false:=by decide)
 (he:starEach (e :: es) X.env=(false,eval e X.env) :: starEach es X.env:=by rfl) (hpl:(backTo pos (starEach es X.env)).any (·.1)=false:=by rfl):PE X (.Call (.Name x p) (e :: es) [] pos) (uU r t):=mD hc hg hm hv ha hn hdb he hpl
theorem qd (n:String) {x:Str}{pos:Pos} (hm:X.mg x=none) (hg:Gl X x:=by rfl) (hv:bootBuiltins x=some (.type n):=by decide +kernel) (hn:x ≠ "__name__" := by decide) (hd:(x == ("__debug__" : Str))=false:=by decide):PE X (.Name x pos) (tC (.ty n)):=qM n hg hm hv hn hd
theorem kc {k kk:Nat}{f:Addr}{fd:FuncData}{ps:List Str}{sp:Sp}{x:Str}{e:Expr}{es:List Expr}{t:TA}{p pos:Pos} (F:aU X.prog X.w X.K X.mg X.base dF k f fd ps sp) (hr:dm kk X.A) (hm:X.mg x=some (.ref f)) (hk:W.keepIn X.K (.ref f)=true) (hb:Binds X.K fd ps []) (ha:PA X (e :: es) t) (hkk:k≤kk:=by decide) (hg:Gl X x:=by rfl)
 (hdb:(x == ("__debug__" : Str))=false:=by decide) (he:starEach (e :: es) X.env=(false,eval e X.env) :: starEach es X.env:=by rfl) (hpl:(backTo pos (starEach es X.env)).any (·.1)=false:=by rfl):PE X (.Call (.Name x p) (e :: es) [] pos) (lI sp [] E0 t):=oU F (hr.mono hkk) hg hm hk hb .nil p9 ha hdb he hpl
theorem ff (K:W.Frag) {a b:Expr}{ta tb:TE}{pos:Pos} (ha:PE X a ta) (hb:PE X b tb) (hs:lM b:=by exact fun _ _=>rfl) (h:X.K=K:=by rfl):PE X (.Subscript a b pos) (oJ (qB K) ta tb):=nA (nK K h) ha hb hs
theorem gT {op:CmpOp}{r:R2}{a b:Expr}{ta tb:TE}{pos:Pos} (ho:fk X (compareOp op) r) (ha:PE X a ta) (hb:PE X b tb) (h:op≠.In:=by decide) (h2:op≠.NotIn:=by decide):PT X (.Compare a [op] [b] pos) (pZ (oJ r ta tb)):=oQ ho ha hb (nj b h h2)
theorem qS {op:CmpOp}{r:R2}{a b:Expr}{ta tb:TE}{pos:Pos} (ho:fk X (compareOp op) r) (ha:PE X a ta) (hb:PE X b tb) (h:op≠.In:=by decide) (h2:op≠.NotIn:=by decide):PE X (.Compare a [op] [b] pos) (oJ r ta tb):=oO ho ha hb (nj b h h2)
end
abbrev FO (n q:Str) (s:Stmt) (d oc:Value) (od:Option Addr) (kV dc pm:Value) (an:Option Addr) (cd ct:Value) (sl:Array (Option Value)):Option Obj:=some ⟨oc,od,.func (W.fnOf n q (cS s) (cK s) (ay s) d kV dc pm an cd ct),sl⟩
abbrev FN (n q:Str) (s:Stmt) (d kV dc pm:Value) (an:Option Addr) (cd ct:Value):FuncData:=W.fnOf n q (cS s) (cK s) (ay s) d kV dc pm an cd ct
abbrev RF (a:Addr):Option (Option Value):=some (some (.ref a))
theorem gQ.g6 {K:W.Frag}{x qual:Str}{st:Stmt}{f:Addr}{fd:FuncData}{ps:List Str} (F:gQ K x qual st f fd) (hp:ps.length=1:=by rfl)
  (h:∀(kV doc pm:Value) (an:Option Addr) (cdv ct a0:Value),bindArgs (W.fnOf x qual (cS st) (cK st) (ay st) .none kV doc pm an cdv ct) ⟨[a0],[]⟩=pure (ps.zip [a0]):=by intros;rfl):Binds K fd ps [] :=
 F.binds fun kV doc pm an cdv ct us hl=>by
  rw[hp] at hl
  match us,hl with
  | [a0],_=>exact h kV doc pm an cdv ct a0
theorem gQ.qT {K:W.Frag}{x qual:Str}{st:Stmt}{f:Addr}{fd:FuncData}{ps:List Str} (F:gQ K x qual st f fd) (hp:ps.length=2:=by rfl)
  (h:∀(kV doc pm:Value) (an:Option Addr) (cdv ct a0 a1:Value),bindArgs (W.fnOf x qual (cS st) (cK st) (ay st) .none kV doc pm an cdv ct) ⟨[a0,a1],[]⟩=pure (ps.zip [a0,a1]):=by intros;rfl):Binds K fd ps [] :=
 F.binds fun kV doc pm an cdv ct us hl=>by
  rw[hp] at hl
  match us,hl with
  | [a0,a1],_=>exact h kV doc pm an cdv ct a0 a1
end L2
namespace My
open PySem L2
def top (i:Nat):Stmt:=PySem.Challenge.pw_dialecthall_k12_tables_told.main.body.getD i (.Pass ⟨0,0,0,0⟩)
abbrev bg:Stmt:=top 5
abbrev aS:Stmt:=top 6
abbrev dN:Stmt:=top 7
abbrev dO:Stmt:=top 8
abbrev bh:Stmt:=top 9
abbrev bW:Stmt:=top 10
abbrev cy:Stmt:=top 12
abbrev bL:Stmt:=top 13
abbrev cz:Stmt:=top 14
abbrev bM:Stmt:=top 15
abbrev bq:Stmt:=top 16
abbrev bQ:Stmt:=top 17
abbrev cA:Stmt:=top 18
abbrev aO:Stmt:=top 19
abbrev fR:Stmt:=top 20
theorem ai {H:Hp}{l:Addr}{o:HO} (h:H l=none):aA H (upd H l o):=fun b u e=>by rw[aH (bF e h)];exact e
theorem aJ {H H2:Hp}{l:Addr}{o:HO} (h:H l=none) (s:aA H H2):aA H (upd H2 l o):=fun b u e=>by rw[aH (bF e h)];exact s b u e
theorem gw {i:Nat}{x:V}{σ:St}{H:Hp}{A B:St→Hp→Prop} (h:A (σ.set i (some x)) H):bP i x σ H (fun τ2 H2=>qI τ2 H2 fun b H3=>if b=true then A τ2 H3 else B τ2 H3):=by
 show(if true=true then A (σ.set i (some x)) H else B (σ.set i (some x)) H)
 exact gH h
theorem fJ {α:Type}{xs:List α}{i:Int} (h0:0≤i) (h:i < xs.length):∃ c,oW xs i=some c∧c∈xs:=by
 obtain⟨j,rfl⟩:∃ j:Nat,i=j:=⟨i.toNat,by omega⟩
 have hj:j < xs.length:=by omega
 exact⟨xs[j],oX (by simp[hj]),List.getElem_mem hj⟩
theorem pC {α:Type} (f:α→V) (cs:List α) (lo hi:Option Int):∃ yP:List α,aL (cs.map f) lo hi=yP.map f∧yP.length≤cs.length:=by
 unfold aL
 refine⟨(cs.drop (HT.jR (cs.map f).length 0 lo)).take (HT.jR (cs.map f).length (cs.map f).length hi - HT.jR (cs.map f).length 0 lo),?_,?_⟩
 ·rw[List.map_take,List.map_drop]
 ·rw[List.length_take,List.length_drop];omega
def Pn (c:Nat):Prop:=32≤c∧c≤126∧c≠37
instance (c:Nat):Decidable (Pn c):=by unfold Pn;exact inferInstance
structure Sg (z:Str):Prop where
 nd:z.cps.toList.Nodup
 pr:∀ c∈z.cps.toList,Pn c
def Mn (z:Str):Prop:=0 < z.length∧z.length≤100∧∀ c∈z.cps.toList,Pn c
instance (z:Str):Decidable (Mn z):=by unfold Mn;exact inferInstance
def wJ (c:Nat) (z:Str):Bool:=!(Builtin.Str.occurrences z (sg c) 0 z.length 1).isEmpty
def yQ (a b:Str):Bool:=decide (V.str a=V.str b)
theorem ns {a b:String} (h:yQ (Str.ofString a) (Str.ofString b)=false):¬yQ (Str.ofString a) (Str.ofString b)=true:=by rw[h];decide
theorem fK {α β:Type}{F:α→β→Prop}:∀{xs xs':List α}{ys ys':List β},Paired F xs ys→Paired F xs' ys'→Paired F (xs++xs') (ys++ys')
 | _,_,_,_,.nil,r=>r
 | _,_,_,_,.cons q t,r=>.cons q (fK t r)
theorem aM {α β:Type}{F:α→β→Prop}:∀{xs:List α}{ys:List β},Paired F xs ys→∀(j:Nat) x,xs[j]? = some x→∃ y,ys[j]? = some y∧F x y
 | _,_,.nil,j,x,h=>by simp at h
 | _,_,.cons q t,0,x,h=>by simp at h;subst h;exact⟨_,rfl,q⟩
 | _,_,.cons q t,j+1,x,h=>by
  obtain⟨y,h1,h2⟩:=aM t j x (by simpa using h)
  exact⟨y,by simpa using h1,h2⟩
def c5:List (Str×Str):=[(Str.ofString "row",Str.ofString ""),(Str.ofString "cell",Str.ofString ""),(Str.ofString "plain",Str.ofString ""),(Str.ofString "behind",Str.ofString ""),(Str.ofString "freed",Str.ofString "")]
def c3 (c:Nat):List (Str×Str):=[(Str.ofString "within",sg c),(Str.ofString "doubt",sg c),(Str.ofString "freed",sg c)]
def cont (l:List Nat):List (Str×Str):=c5++l.flatMap c3
theorem pD (c:Nat) (z:Str):wJ c z=decide (c∈z.cps.toList):=StrLaws.found_one z c
theorem qU {c:Nat}{z:Str} (h:c∉z.cps.toList):¬wJ c z=true:=by rw[pD];simpa using h
theorem yR {z:Str} (g:Sg z):¬wJ 10 z=true:=qU fun h=>by have:=(g.pr 10 h).1;omega
theorem aN {α:Type}{l:List α}{i:Nat}{c:α} (h:l[i]? = some c):l.take (i+1)=l.take i++[c]:=by
 rw[List.take_succ,h];rfl
def dZ (z:Str):Prop:=∀ k∈z.cps.toList,k=10∨Pn k
theorem AZ {c:Nat}{z:Str} (e:z=Str.ofString "\n") (h:¬decide (V.str (sg c)=V.str z)=true):c≠10:=fun e2=>h (by
 have:Str.ofString "\n" = sg 10:=by decide +kernel
 rw[e,e2,this];exact decide_eq_true rfl)
theorem gx {t u:TS}{D:Ends}{σ:St}{H:Hp} (N:St→Hp→Prop) (hu:∀ σ' H',N σ' H'→u D σ' H') (ht:(∀ σ' H',N σ' H'→u D σ' H')→t { D with nx:=u D } σ H):sy t u D σ H:=ht hu
theorem kQ:dZ ("":Str):=by
 have e:("":Str).cps.toList=[]:=by decide +kernel
 intro k hk;rw[e] at hk;cases hk
theorem g7 (a:Array Nat):∀(n:Nat) (acc:Array Nat),((List.replicate n a).foldl (· ++ ·) acc).size=acc.size+n * a.size∧∀ c∈((List.replicate n a).foldl (· ++ ·) acc).toList,c∈acc.toList∨c∈a.toList
 | 0,acc=>⟨by simp,fun c hc=>.inl hc⟩
 | n+1,acc=>by
  rw[List.replicate_succ,List.foldl_cons]
  obtain⟨h1,h2⟩:=g7 a n (acc++a)
  refine⟨by rw[h1,Array.size_append,Nat.succ_mul];omega,fun c hc=>?_⟩
  rcases h2 c hc with h | h
  ·rw[Array.toList_append] at h
   exact List.mem_append.mp h
  ·exact .inr h
theorem lQ (z:Str) (n:Nat):(dX z n).length=n * z.length:=by
 have:=(g7 z.cps n #[]).1
 show((List.replicate n z.cps).foldl (· ++ ·) #[]).size=_
 rw[this];simp;rfl
theorem nR {z:Str}{n:Nat} (h:dZ z):dZ (dX z n):=fun c hc=>by
 rcases(g7 z.cps n #[]).2 c hc with q | q
 ·cases q
 ·exact h c q
def u9:List Nat:=("a7ZbXq9KwM":Str).cps.toList
def lR (c:Nat):Bool:=decide (c=10∨Pn c)
def textOk (z:Str):Bool:=z.cps.toList.all lR
theorem pF {z:Str} (h:dZ z):textOk z=true:=by
 unfold textOk
 rw[List.all_eq_true]
 exact fun c hc=>decide_eq_true (h c hc)
theorem none_of {H H':Hp}{a:Addr} (s:aA H H') (h:H' a=none):H a=none:=by
 cases e:H a with
 | none=>rfl
 | some u=>rw[s _ _ e] at h;cases h
def lens (r:List Str):List Nat:=r.map fun z=>z.length
theorem cO {α β:Type}{F:α→β→Prop}{xs:List α}{ys:List β}{x:α}{y:β} (h:Paired F xs ys) (q:F x y):Paired F (xs++[x]) (ys++[y]):=fK h (.cons q .nil)
inductive Tr where
 | leaf (v:V)
 | list (ts:List Tr)
inductive Lf (H:Hp):V→Prop where
 | flat {v:V}:fO v=true→(∀ z,v=.str z→z.length≤10000)→Lf H v
 | tup {a:Addr}{xs:List V}:H a=some (.tup xs)→(∀ x∈xs,fO x=true∨∃ b,x=.ref b)→Lf H (.ref a)
 | pG {a:Addr}:H a=some (.dK [])→Lf H (.ref a)
def Rp (N:Addr→Prop):Nat→Hp→V→Tr→Prop
 | 0,H,v,t=>t=.leaf v∧Lf H v
 | n+1,H,v,t=>(t=.leaf v∧Lf H v)∨∃(a:Addr) (xs:List V) (ts:List Tr),v=.ref a∧t=.list ts∧H a=some (.lst xs)∧N a∧xs.length≤1000∧Paired (Rp N n H) xs ts
theorem Lf.mono {H H':Hp}{v:V} (s:aA H H') (h:Lf H v):Lf H' v:=by
 cases h with
 | flat e f=>exact .flat e f
 | tup e f=>exact .tup (s _ _ e) f
 | pG e=>exact .pG (s _ _ e)
theorem Lf.set {H:Hp}{v:V}{D:Addr}{ys:List V}{o:HO} (hD:H D=some (.lst ys)) (h:Lf H v):Lf (upd H D o) v:=by
 cases h with
 | flat e f=>exact .flat e f
 | @tup a xs e f=>exact .tup (by rw[aH (fun z=>by subst z;rw[e] at hD;cases hD)];exact e) f
 | @pG a e=>exact .pG (by rw[aH (fun z=>by subst z;rw[e] at hD;cases hD)];exact e)
theorem Rp.leaf {N:Addr→Prop}{n:Nat}{H:Hp}{v:V} (h:Lf H v):Rp N n H v (.leaf v):=by
 cases n with
 | zero=>exact⟨rfl,h⟩
 | succ n=>exact .inl ⟨rfl,h⟩
theorem Rp.lst {N:Addr→Prop}{n:Nat}{H:Hp}{a:Addr}{xs:List V}{ts:List Tr} (e:H a=some (.lst xs)) (hN:N a) (hl:xs.length≤1000) (h:Paired (Rp N n H) xs ts):Rp N (n+1) H (.ref a) (.list ts):=.inr ⟨a,xs,ts,rfl,rfl,e,hN,hl,h⟩
theorem Rp.mono {N N':Addr→Prop}{H H':Hp} (s:aA H H') (f:∀ a,N a→N' a):∀{n:Nat}{v:V}{t:Tr},Rp N n H v t→Rp N' n H' v t
 | 0,_,_,h=>⟨h.1,h.2.mono s⟩
 | n+1,_,_,.inl h=>.inl ⟨h.1,h.2.mono s⟩
 | n+1,_,_,.inr ⟨a,xs,ts,e1,e2,e3,e4,e5,e6⟩=>.inr ⟨a,xs,ts,e1,e2,s _ _ e3,f _ e4,e5,Paired.imp' (fun _ _ q=>Rp.mono s f q) e6⟩
theorem Rp.set {N:Addr→Prop}{H:Hp}{D:Addr}{ys:List V}{o:HO} (hD:H D=some (.lst ys)) (f:∀ a,N a→a≠D):∀{n:Nat}{v:V}{t:Tr},Rp N n H v t→Rp N n (upd H D o) v t
 | 0,_,_,h=>⟨h.1,h.2.set hD⟩
 | n+1,_,_,.inl h=>.inl ⟨h.1,h.2.set hD⟩
 | n+1,_,_,.inr ⟨a,xs,ts,e1,e2,e3,e4,e5,e6⟩=>.inr ⟨a,xs,ts,e1,e2,by rw[aH (f _ e4)];exact e3,e4,e5,Paired.imp' (fun _ _ q=>Rp.set hD f q) e6⟩
def bR:Tr→Bool
 | .leaf (.str z)=>decide (z.length≤400) && textOk z
 | _=>false
def qe:Tr→Nat
 | .leaf (.str z)=>z.length
 | _=>0
def di:Tr→Bool
 | .list cs=>decide (1≤cs.length∧cs.length≤20) && cs.all bR
 | _=>false
def nS:Tr→Nat
 | .list cs=>(cs.map qe).sum
 | _=>0
def iM:Tr→Bool
 | .list rs=>decide (rs.length≤60) && rs.all di && decide ((rs.map nS).sum≤400)
 | _=>false
theorem Rp.cB (K:W.Frag) {N:Addr→Prop}{n:Nat}{H:Hp}{v:V}{t:Tr} (h:Rp N n H v t):(∃(m:Nat) (a:Addr) (xs:List V) (ts:List Tr),n=m+1∧v=.ref a∧t=.list ts∧H a=some (.lst xs)∧N a∧xs.length≤1000∧Paired (Rp N m H) xs ts)∨∃ ty,eL K H v ty∧W.kitOne K ty (.type "list")=some false∧t=.leaf v∧Lf H v:=by
 have qf:∀{v:V},Lf H v→∃ ty,eL K H v ty∧W.kitOne K ty (.type "list")=some false:=fun {v} h=>by
  cases h with
  | flat e f =>
   cases v with
   | non=>exact⟨_,.non,rfl⟩
   | bl b=>exact⟨_,.bl b,rfl⟩
   | int i=>exact⟨_,.int i,rfl⟩
   | str z=>exact⟨_,.str z,rfl⟩
   | _=>cases e
  | tup e f=>exact⟨_,.tup e,rfl⟩
  | pG e=>exact⟨_,.dK e,rfl⟩
 cases n with
 | zero =>
  obtain⟨ty,h1,h2⟩:=qf h.2
  exact .inr ⟨ty,h1,h2,h.1,h.2⟩
 | succ n =>
  rcases h with h | ⟨a,xs,ts,e1,e2,e3,e4,e5,e6⟩
  ·obtain⟨ty,h1,h2⟩:=qf h.2
   exact .inr ⟨ty,h1,h2,h.1,h.2⟩
  ·exact .inl ⟨n,a,xs,ts,rfl,e1,e2,e3,e4,e5,e6⟩
theorem Rp.nT (K:W.Frag) {N:Addr→Prop}{n:Nat}{H:Hp}{v:V}{t:Tr} (h:Rp N n H v t):(∃ z:Str,v=.str z∧t=.leaf (.str z)∧z.length≤10000)∨∃ ty,eL K H v ty∧W.kitOne K ty (.type "str")=some false∧bR t=false:=by
 rcases h.cB K with ⟨m,a,xs,ts,_,rfl,rfl,e,_⟩ | ⟨_,_,_,rfl,hl⟩
 ·exact .inr ⟨_,.lst e,rfl,rfl⟩
 ·cases hl with
  | flat e f =>
   cases v with
   | non=>exact .inr ⟨_,.non,rfl,rfl⟩
   | bl b=>exact .inr ⟨_,.bl b,rfl,rfl⟩
   | int i=>exact .inr ⟨_,.int i,rfl,rfl⟩
   | str z=>exact .inl ⟨z,rfl,rfl,f z rfl⟩
   | _=>cases e
  | tup e f=>exact .inr ⟨_,.tup e,rfl,rfl⟩
  | pG e=>exact .inr ⟨_,.dK e,rfl,rfl⟩
def leaves (r:List Str):List Tr:=r.map fun z=>.leaf (.str z)
def iN (r:List Str):Tr:=.list (leaves r)
def tR (t:List (List Str)):Tr:=.list (t.map iN)
theorem je (K:W.Frag) {N:Addr→Prop}{n:Nat}{H:Hp}:∀{xs:List V}{cs:List Tr},Paired (Rp N n H) xs cs→cs.all bR=true→∃ r:List Str,cs=leaves r∧xs=r.map V.str∧∀ c∈r,c.length≤400
 | _,_,.nil,_=>⟨[],rfl,rfl,fun _ z=>nomatch z⟩
 | x :: xs,c :: cs,.cons a r,h=>by
  rw[List.all_cons,Bool.and_eq_true] at h
  obtain⟨rs,rfl,rfl,hl⟩:=je K r h.2
  rcases a.nT K with ⟨z,rfl,rfl,_⟩ | ⟨_,_,_,e⟩
  ·refine⟨z :: rs,rfl,rfl,fun c hc=>?_⟩
   rcases List.mem_cons.mp hc with rfl | hc
   ·have h1:=h.1
    have h1:(decide (c.length≤400) && textOk c)=true:=h1
    rw[Bool.and_eq_true] at h1
    exact of_decide_eq_true h1.1
   ·exact hl c hc
  ·rw[e] at h;cases h.1
theorem qV (r:List Str):nS (iN r)=(lens r).sum:=by
 show((leaves r).map qe).sum=_
 unfold leaves lens
 rw[List.map_map];rfl
theorem Rp.same {K:W.Frag}{N N':Addr→Prop}{H:Hp}:∀{n:Nat}{v w:V}{t:Tr},Rp N n H v t→Rp N' n H w t→fq K H n v w:=by
 have lf:∀{n:Nat}{v:V},Lf H v→fq K H n v v:=fun {n v} h=>by
  cases h with
  | flat e f=>exact .flat e e (j9 e)
  | tup e f=>exact .ref
  | pG e=>exact .ref
 intro n
 induction n with
 | zero =>
  intro v w t h1 h2
  obtain⟨rfl,h1⟩:=h1
  obtain⟨e,h2⟩:=h2
  cases e
  exact lf h1
 | succ n ih =>
  intro v w t h1 h2
  rcases h1 with ⟨rfl,h1⟩ | ⟨a,xs,ts,rfl,rfl,e3,_,_,e6⟩
  ·rcases h2 with ⟨e,h2⟩ | ⟨_,_,_,_,e,_⟩
   ·cases e;exact lf h1
   ·cases e
  ·rcases h2 with ⟨e,h2⟩ | ⟨b,ys,us,rfl,e,f3,_,_,f6⟩
   ·cases e
   ·cases e
    refine .lst (aD.of e3) (aD.of f3) (e6.length.trans f6.length.symm) fun j x y hx hy=>?_
    obtain⟨t1,ht1,q1⟩:=aM e6 j x hx
    obtain⟨t2,tS,q2⟩:=aM f6 j y hy
    rw[ht1] at tS
    cases tS
    exact ih q1 q2
theorem Rp.ne {K:W.Frag}{N N':Addr→Prop}{H:Hp}{n:Nat}{v w:V}{t:Tr}{Q:VK} (h1:Rp N n H v t) (h2:Rp N' n H w t) (hn:n≤50) (q:Q (.bl false) H):vV v w H Q∨(qN K v w H Q∨nQ v w H Q):=by
 have lf:∀{v:V},Lf H v→vV v v H Q∨(qN K v v H Q∨nQ v v H Q):=fun {v} h=>by
  have q2:∀ x:V,Q (.bl (!decide (x=x))) H:=fun x=>by rw[decide_eq_true rfl];exact q
  cases h with
  | flat e f =>
   cases v with
   | non=>exact .inl ⟨rfl,q2 _⟩
   | bl b=>exact .inl ⟨rfl,q2 _⟩
   | int i=>exact .inl ⟨rfl,q2 _⟩
   | str z=>exact .inl ⟨rfl,q2 _⟩
   | _=>cases e
  | @tup a xs e f =>
   refine .inr (.inl ⟨⟨0,a,a,xs,xs,rfl,rfl,by decide,rfl,.inl ⟨jV.of e,jV.of e⟩,fun j x y hx hy=>?_⟩,q⟩)
   rw[hx] at hy
   cases hy
   rcases f x (List.mem_of_getElem? hx) with g | ⟨b,rfl⟩
   ·exact .flat g g (j9 g)
   ·exact .ref
  | @pG a e=>exact .inr (.inr ⟨a,rfl,rfl,e,q⟩)
 rcases h1.cB K with ⟨m,a,xs,ts,rfl,rfl,rfl,e3,_,_,e6⟩ | ⟨_,_,_,rfl,l1⟩
 ·rcases h2.cB K with ⟨m',b,ys,us,em,rfl,e,f3,_,_,f6⟩ | ⟨_,_,_,e,_⟩
  ·cases e
   cases em
   refine .inr (.inl ⟨⟨m,a,b,xs,ys,rfl,rfl,by omega,e6.length.trans f6.length.symm,.inr ⟨aD.of e3,aD.of f3⟩,fun j x y hx hy=>?_⟩,q⟩)
   obtain⟨t1,ht1,q1⟩:=aM e6 j x hx
   obtain⟨t2,tS,q2⟩:=aM f6 j y hy
   rw[ht1] at tS
   cases tS
   exact Rp.same q1 q2
  ·cases e
 ·rcases h2.cB K with ⟨m',b,ys,us,em,rfl,e,f3,_,_,f6⟩ | ⟨_,_,_,e,_⟩
  ·cases e
  ·cases e;exact lf l1
theorem fh {m:Nat}:∀{r:List Str},(∀ c∈r,c.length≤m)→(lens r).sum≤r.length * m
 | [],_=>by show 0≤0 * m;omega
 | c :: r,h=>by
  have h1:=fh (r:=r) fun c hc=>h c (List.mem_cons_of_mem _ hc)
  have h2:=h c (List.mem_cons_self ..)
  show c.length+(lens r).sum≤(r.length+1) * m
  rw[Nat.add_mul];omega
theorem lS (K:W.Frag) {N:Addr→Prop}{n:Nat}{H:Hp}:∀{xs:List V}{ts:List Tr},Paired (Rp N n H) xs ts→ts.all di=true→∃ t:List (List Str),ts=t.map iN∧Paired (fun x r=>∃ b,x=V.ref b∧H b=some (.lst (r.map V.str))∧r.length≤20∧∀ c∈r,c.length≤400) xs t
 | _,_,.nil,_=>⟨[],rfl,.nil⟩
 | x :: xs,u :: ts,.cons a r,h=>by
  rw[List.all_cons,Bool.and_eq_true] at h
  obtain⟨t,rfl,q⟩:=lS K r h.2
  rcases a.cB K with ⟨m,b,ys,cs,_,rfl,rfl,hb,_,_,ps⟩ | ⟨_,_,_,rfl,_⟩
  ·have h1:(decide (1≤cs.length∧cs.length≤20) && cs.all bR)=true:=h.1
   rw[Bool.and_eq_true] at h1
   have h2:=of_decide_eq_true h1.1
   obtain⟨r,rfl,rfl,hl⟩:=je K ps h1.2
   have e:(leaves r).length=r.length:=List.length_map ..
   exact⟨r :: t,rfl,.cons ⟨b,rfl,hb,by omega,hl⟩ q⟩
  ·cases h.1
theorem qg (t:List (List Str)):((t.map iN).map nS)=t.map fun r=>(lens r).sum:=by
 rw[List.map_map]
 refine List.map_congr_left fun r _=>qV r
theorem nU:∀{t:List (List Str)},(∀ r∈t,r.length≤20∧∀ c∈r,c.length≤400)→(t.map fun r=>(lens r).sum).sum≤t.length * 8000
 | [],_=>by show 0≤0 * 8000;omega
 | r :: t,h=>by
  have h1:=nU (t:=t) fun c hc=>h c (List.mem_cons_of_mem _ hc)
  have h2:=h r (List.mem_cons_self ..)
  have h3:=fh h2.2
  show(lens r).sum+(t.map fun r=>(lens r).sum).sum≤(t.length+1) * 8000
  rw[Nat.add_mul];omega
theorem kg {α β:Type}{F:α→β→Prop}{G:β→Prop} (f:∀ a b,F a b→G b):∀{xs:List α}{ys:List β},Paired F xs ys→∀ y∈ys,G y
 | _,_,.nil,_,h=>nomatch h
 | _,_,.cons a r,y,h=>by
  rcases List.mem_cons.mp h with rfl | h
  ·exact f _ _ a
  ·exact kg f r y h
def cj (N:Addr→Prop) (H:Hp) (x:V) (r:List Str):Prop:=∃ b,x=V.ref b∧N b∧H b=some (.lst (r.map V.str))
def RowW (r:List Str):Prop:=r.length≤21∧∀ c∈r,dZ c∧c.length≤401
theorem cj.mono {N N':Addr→Prop}{H H':Hp} (s:aA H H') (f:∀ a,N a→N' a) {x:V}{r:List Str} (h:cj N H x r):cj N' H' x r:=let ⟨b,e1,e2,e3⟩:=h;⟨b,e1,f _ e2,s _ _ e3⟩
theorem cj.set {N:Addr→Prop}{H:Hp}{D:Addr}{o:HO} (f:∀ a,N a→a≠D) {x:V}{r:List Str} (h:cj N H x r):cj N (upd H D o) x r:=let ⟨b,e1,e2,e3⟩:=h;⟨b,e1,e2,by rw[aH (f _ e2)];exact e3⟩
theorem cj.not {N:Addr→Prop}{H:Hp}{D:Addr} (hD:H D=none) {x:V}{r:List Str} (h:cj N H x r):cj (fun b=>N b∧b≠D) H x r:=let ⟨b,e1,e2,e3⟩:=h;⟨b,e1,⟨e2,fun z=>by rw[z,hD] at e3;cases e3⟩,e3⟩
theorem kR {xs:List V} (h:(!xs.isEmpty)=true):0 < xs.length:=by
 cases xs with
 | nil=>exact absurd h (by decide)
 | cons x xs=>exact Nat.succ_pos _
theorem g8 {N:Addr→Prop}{G:Hp}{b:Addr}{r':List Str} (w:RowW r'):∀{es:List V}{T:List (List Str)},Paired (cj N G) es T→(∀ r∈T,RowW r)→∃ T',Paired (cj N (upd G b (.lst (r'.map V.str)))) es T'∧∀ r∈T',RowW r
 | _,_,.nil,_=>⟨[],.nil,fun _ z=>nomatch z⟩
 | x :: es,r :: T,.cons ⟨c,e1,e2,e3⟩ p,h=>by
  obtain⟨T',q1,q2⟩:=g8 w (b:=b) p fun r hr=>h r (List.mem_cons_of_mem _ hr)
  by_cases hc:c=b
  ·subst hc
   refine⟨r' :: T',.cons ⟨c,e1,e2,ah⟩ q1,fun r hr=>?_⟩
   rcases List.mem_cons.mp hr with rfl | hr
   ·exact w
   ·exact q2 r hr
  ·refine⟨r :: T',.cons ⟨c,e1,e2,(aH hc).trans e3⟩ q1,fun r2 hr=>?_⟩
   rcases List.mem_cons.mp hr with rfl | hr
   ·exact h _ (List.mem_cons_self ..)
   ·exact q2 r2 hr
theorem nV:∀{t:List (List Str)},(∀ r∈t,RowW r)→(t.map fun r=>(lens r).sum).sum≤t.length * 8421
 | [],_=>by show 0≤0 * 8421;omega
 | r :: t,h=>by
  have h1:=nV (t:=t) fun c hc=>h c (List.mem_cons_of_mem _ hc)
  have h2:=h r (List.mem_cons_self ..)
  have h3:=fh fun c hc=>(h2.2 c hc).2
  have h4:=h2.1
  show(lens r).sum+(t.map fun r=>(lens r).sum).sum≤(t.length+1) * 8421
  rw[Nat.add_mul];omega
theorem bX {a b:Int} (h:0 < b):0≤a % b:=Int.emod_nonneg a (by omega)
theorem bY {a b:Int} (h:0 < b):a % b < b:=Int.emod_lt_of_pos a h
theorem all_congr {α:Type}{f g:α→Bool}:∀{xs:List α},(∀ x∈xs,f x=g x)→xs.all f=xs.all g
 | [],_=>rfl
 | x :: xs,h=>by rw[List.all_cons,List.all_cons,h x (List.mem_cons_self ..),all_congr fun y hy=>h y (List.mem_cons_of_mem _ hy)]
def fu (r:List Str):Bool:=decide (1≤r.length∧r.length≤20)
def fS (t:List (List Str)):Nat:=(t.map fun r=>(lens r).sum).sum
def nW (t:List (List Str)):Bool:=decide (t.length≤60) && t.all fu && decide (fS t≤400)
theorem mO {t:List (List Str)}{i:Nat}{r:List Str} (h:t[i]? = some r):fS (t.take (i+1))=fS (t.take i)+(lens r).sum:=by
 unfold fS
 rw[aN h,List.map_append,List.sum_append];simp
theorem pH {t:List (List Str)} (h:∀ r∈t,RowW r):fS t≤t.length * 8421:=nV h
theorem nX {ns:List Nat}{n:Nat} (h:n∈ns):n≤ns.sum:=by
 induction ns with
 | nil=>cases h
 | cons m ns ih =>
  rw[List.sum_cons]
  rcases List.mem_cons.mp h with rfl | h
  ·omega
  ·have:=ih h;omega
theorem qW {t:List (List Str)} (hW:∀ r∈t,RowW r):iM (tR t)=nW t:=by
 show(decide ((t.map iN).length≤60) && (t.map iN).all di && decide (((t.map iN).map nS).sum≤400))=_
 rw[qg,List.length_map]
 show _=(decide (t.length≤60) && t.all fu && decide (fS t≤400))
 by_cases h:fS t≤400
 ·have e:(t.map iN).all di=t.all fu:=by
   rw[List.all_map]
   refine all_congr fun r hr=>?_
   show(decide (1≤(leaves r).length∧(leaves r).length≤20) && (leaves r).all bR)=fu r
   have e2:(leaves r).all bR=true:=by
    rw[List.all_eq_true]
    intro u hu
    obtain⟨z,hz,rfl⟩:=List.mem_map.mp hu
    show(decide (z.length≤400) && textOk z)=true
    have h1:z.length≤(lens r).sum:=nX (List.mem_map.mpr ⟨z,hz,rfl⟩)
    have h2:(lens r).sum≤fS t:=nX (List.mem_map.mpr ⟨r,hr,rfl⟩)
    rw[decide_eq_true (by omega),pF ((hW r hr).2 z hz).1];rfl
   rw[e2,Bool.and_true]
   unfold leaves fu
   rw[List.length_map]
  rw[e];rfl
 ·have e:decide (fS t≤400)=false:=decide_eq_false h
  have e':decide ((t.map fun r=>(lens r).sum).sum≤400)=false:=e
  rw[e,e',Bool.and_false,Bool.and_false]
theorem kT {N:Addr→Prop}{n:Nat}{H:Hp}:∀{r:List Str},(∀ c∈r,c.length≤401)→Paired (Rp N n H) (r.map V.str) (leaves r)
 | [],_=>.nil
 | z :: r,h=>.cons (Rp.leaf (.flat rfl fun z' e=>by cases e;have:=h z (List.mem_cons_self ..);omega)) (kT fun c hc=>h c (List.mem_cons_of_mem _ hc))
theorem qX {N:Addr→Prop}{n:Nat}{H:Hp}{x:V}{r:List Str} (w:RowW r) (h:cj N H x r):Rp N (n+1) H x (iN r):=by
 obtain⟨b,rfl,hN,hb⟩:=h
 exact Rp.lst hb hN (by rw[List.length_map];have:=w.1;omega) (kT fun c hc=>(w.2 c hc).2)
theorem ju {N:Addr→Prop}{n:Nat}{H:Hp}:∀{es:List V}{t:List (List Str)},Paired (cj N H) es t→(∀ r∈t,RowW r)→Paired (Rp N (n+1) H) es (t.map iN)
 | _,_,.nil,_=>.nil
 | x :: es,r :: t,.cons a p,h=>.cons (qX (h r (List.mem_cons_self ..)) a) (ju p fun r hr=>h r (List.mem_cons_of_mem _ hr))
theorem lT {x:V}{xs:List V}{lo hi:Option Int} (h:x∈aL xs lo hi):x∈xs:=by
 unfold aL at h
 exact List.mem_of_mem_drop (List.mem_of_mem_take h)
theorem cL {xs:List V}{lo hi:Option Int}:(aL xs lo hi).length≤xs.length:=by
 unfold aL
 rw[List.length_take,List.length_drop];omega
theorem jv {N:Addr→Prop}{n:Nat}{H:Hp}:∀{xs:List V},(∀ x∈xs,∃ t,Rp N n H x t)→∃ ts,Paired (Rp N n H) xs ts
 | [],_=>⟨[],.nil⟩
 | x :: xs,h=>by
  obtain⟨t,ht⟩:=h x (List.mem_cons_self ..)
  obtain⟨ts,hts⟩:=jv fun y hy=>h y (List.mem_cons_of_mem _ hy)
  exact⟨t :: ts,.cons ht hts⟩
theorem mP {N:Addr→Prop}{n:Nat}{H:Hp}{as bs:List V}{x:V}{u:Tr} (ha:∀ y∈as,∃ t,Rp N n H y t) (hb:∀ y∈bs,∃ t,Rp N n H y t) (hx:Rp N n H x u) (hu:di u=false):∃ ts,Paired (Rp N n H) (as++[x]++bs) ts∧iM (.list ts)=false:=by
 obtain⟨ta,qa⟩:=jv ha
 obtain⟨tb,qb⟩:=jv hb
 refine⟨ta++[u]++tb,fK (cO qa hx) qb,?_⟩
 show(decide (_≤60) && (ta++[u]++tb).all di && _)=false
 have e:(ta++[u]++tb).all di=false:=by
  rw[List.all_append,List.all_append]
  show((ta.all di && (di u && true)) && tb.all di)=false
  rw[hu,Bool.false_and,Bool.and_false,Bool.false_and]
 rw[e,Bool.and_false,Bool.false_and]
theorem fT {N:Addr→Prop}{n:Nat}{H:Hp}{v:V} (h:fO v=true) (hs:∀ z,v=.str z→z.length≤10000):Rp N n H v (.leaf v):=Rp.leaf (.flat h hs)
theorem pI {N:Addr→Prop}{n:Nat}{H:Hp}{r:List Str}{p:Nat}{v:V}{u:Tr} (hp:p < r.length) (hW:RowW r) (hv:Rp N n H v u) (hu:bR u=false):∃ cs,Paired (Rp N n H) ((r.map V.str).set p v) cs∧di (.list cs)=false:=by
 have pq:∀{xs:List V}{ts:List Tr} (p:Nat),Paired (Rp N n H) xs ts→Paired (Rp N n H) (xs.set p v) (ts.set p u):=fun {xs ts} p h=>by
  induction h generalizing p with
  | nil=>exact .nil
  | @cons a b as bs q _ ih =>
   cases p with
   | zero=>exact .cons hv (by assumption)
   | succ p=>exact .cons q (ih p)
 refine⟨_,pq p (kT (r:=r) fun c hc=>(hW.2 c hc).2),?_⟩
 show(_ && ((leaves r).set p u).all bR)=false
 have e:((leaves r).set p u).all bR=false:=by
  rw[Bool.eq_false_iff]
  intro h
  rw[List.all_eq_true] at h
  have:=h u (List.mem_iff_getElem?.mpr ⟨p,by rw[List.getElem?_set_self (by unfold leaves;rw[List.length_map];exact hp)]⟩)
  rw[hu] at this;cases this
 rw[e,Bool.and_false]
def kr (N:Addr→Prop) (H:Hp) (x:V):Prop:=∃(p:Addr) (v:V) (t:Tr),x=.ref p∧H p=some (.tup [v,.bl (iM t)])∧Rp N 3 H v t
theorem kr.mono {N N':Addr→Prop}{H H':Hp}{x:V} (s:aA H H') (f:∀ a,N a→N' a) (h:kr N H x):kr N' H' x:=let ⟨p,v,t,e1,e2,e3⟩:=h;⟨p,v,t,e1,s _ _ e2,e3.mono s f⟩
theorem kr.set {N:Addr→Prop}{H:Hp}{D:Addr}{ys:List V}{o:HO} (hD:H D=some (.lst ys)) (f:∀ a,N a→a≠D) {x:V} (h:kr N H x):kr N (upd H D o) x:=by
 obtain⟨p,v,t,e1,e2,e3⟩:=h
 have n:p≠D:=fun z=>by subst z;rw[e2] at hD;cases hD
 exact⟨p,v,t,e1,(aH n).trans e2,e3.set hD f⟩
theorem d9:aW ["sign", "number"] ["sign"] (ay bg):=⟨rfl,rfl,rfl,by decide +kernel,rfl,by decide +kernel,by decide +kernel⟩
theorem fL:aW ["text"] ["text"] (ay aS):=⟨rfl,rfl,rfl,by decide +kernel,rfl,by decide +kernel,by decide +kernel⟩
theorem kU:aW ["thing"] ["thing"] (ay dN):=⟨rfl,rfl,rfl,by decide +kernel,rfl,by decide +kernel,by decide +kernel⟩
theorem mQ:aW ["thing"] ["thing"] (ay dO):=⟨rfl,rfl,rfl,by decide +kernel,rfl,by decide +kernel,by decide +kernel⟩
theorem gI:aW ["row"] ["row"] (ay bh):=⟨rfl,rfl,rfl,by decide +kernel,rfl,by decide +kernel,by decide +kernel⟩
theorem kh:aW ["thing"] ["thing"] (ay bW):=⟨rfl,rfl,rfl,by decide +kernel,rfl,by decide +kernel,by decide +kernel⟩
theorem dG:aW ["_law_number", "_law_salt", "_law_one", "_law_two"] ["_law_number", "_law_salt"] (ay cy):=⟨rfl,rfl,rfl,by decide +kernel,rfl,by decide +kernel,by decide +kernel⟩
theorem bw:aW ["_law_cell", "_law_many", "_law_number", "_law_found", "_law_k"] ["_law_cell", "_law_many"] (ay bL):=⟨rfl,rfl,rfl,by decide +kernel,rfl,by decide +kernel,by decide +kernel⟩
theorem fz:aW ["_law_every_here"] [] (ay cz):=⟨rfl,rfl,rfl,by decide +kernel,rfl,by decide +kernel,by decide +kernel⟩
theorem aB:aW ["_law_xs", "_law_every_here", "_law_many", "_law_table_here", "_law_k", "_law_cells", "_law_row", "_law_j", "_law_sign", "_law_at", "_law_place", "_law_rest"] ["_law_xs"] (ay bM):=⟨rfl,rfl,rfl,by decide +kernel,rfl,by decide +kernel,by decide +kernel⟩
theorem bU:aW ["_law_table_here", "_law_total", "_law_row"] ["_law_table_here"] (ay bq):=⟨rfl,rfl,rfl,by decide +kernel,rfl,by decide +kernel,by decide +kernel⟩
theorem bK:aW ["_law_table_here", "_law_xs", "_law_way", "_law_rows", "_law_at", "_law_row"] ["_law_table_here", "_law_xs"] (ay bQ):=⟨rfl,rfl,rfl,by decide +kernel,rfl,by decide +kernel,by decide +kernel⟩
theorem dH:aW ["_law_cell", "_law_xs", "_law_table_here"] ["_law_cell"] (ay cA):=⟨rfl,rfl,rfl,by decide +kernel,rfl,by decide +kernel,by decide +kernel⟩
theorem cC:aW ["_law_thing_here"] ["_law_thing_here"] (ay aO):=⟨rfl,rfl,rfl,by decide +kernel,rfl,by decide +kernel,by decide +kernel⟩
theorem gy:aW ["_law_script", "_law_things", "_law_thing_here", "_law_due", "_law_kept", "_law_found"] ["_law_script"] (ay fR):=⟨rfl,rfl,rfl,by decide +kernel,rfl,by decide +kernel,by decide +kernel⟩
structure Txt (K:W.Frag) (mg:Str→Option Value) (bN:Nat→Addr) (bO:Nat→FuncData) (rV:Nat→Str):Prop where
 eU:gQ K "is_printable" "is_printable" bg (bN 0) (bO 0)
 g9:Binds K (bO 0) ["sign"] []
 ia:mg "is_printable" = some (.ref (bN 0))
 dz:gQ K "has_signs_alone" "has_signs_alone" aS (bN 1) (bO 1)
 fU:Binds K (bO 1) ["text"] []
 fV:mg "has_signs_alone" = some (.ref (bN 1))
 jf:gQ K "is_cell" "is_cell" dN (bN 2) (bO 2)
 mR:Binds K (bO 2) ["thing"] []
 mS:mg "is_cell" = some (.ref (bN 2))
 ki:gQ K "is_row" "is_row" dO (bN 3) (bO 3)
 nY:Binds K (bO 3) ["thing"] []
 nZ:mg "is_row" = some (.ref (bN 3))
 eV:gQ K "signs_in_row" "signs_in_row" bh (bN 4) (bO 4)
 ic:Binds K (bO 4) ["row"] []
 ie:mg "signs_in_row" = some (.ref (bN 4))
 ig:gQ K "is_table" "is_table" bW (bN 5) (bO 5)
 kW:Binds K (bO 5) ["thing"] []
 kX:mg "is_table" = some (.ref (bN 5))
 fW:gQ K "_law_mixed" "_law_mixed" cy (bN 6) (bO 6)
 jw:Binds K (bO 6) ["_law_number", "_law_salt"] []
 jx:mg "_law_mixed" = some (.ref (bN 6))
 fX:gQ K "_law_drawn" "_law_drawn" bL (bN 7) (bO 7)
 jy:Binds K (bO 7) ["_law_cell", "_law_many"] []
 jz:mg "_law_drawn" = some (.ref (bN 7))
 fY:gQ K "_law_every" "_law_every" cz (bN 8) (bO 8)
 jA:Binds K (bO 8) [] []
 jB:mg "_law_every" = some (.ref (bN 8))
 fZ:gQ K "_law_table" "_law_table" bM (bN 9) (bO 9)
 jC:Binds K (bO 9) ["_law_xs"] []
 jD:mg "_law_table" = some (.ref (bN 9))
 eX:gQ K "_law_is_good" "_law_is_good" bq (bN 10) (bO 10)
 iu:Binds K (bO 10) ["_law_table_here"] []
 iw:mg "_law_is_good" = some (.ref (bN 10))
 fB:gQ K "_law_spoilt" "_law_spoilt" bQ (bN 11) (bO 11)
 iO:Binds K (bO 11) ["_law_table_here", "_law_xs"] []
 iP:mg "_law_spoilt" = some (.ref (bN 11))
 f7:gQ K "_law_thing" "_law_thing" cA (bN 12) (bO 12)
 jE:Binds K (bO 12) ["_law_cell"] []
 jF:mg "_law_thing" = some (.ref (bN 12))
 aP:gQ K "_law_copied" "_law_copied" aO (bN 13) (bO 13)
 bS:Binds K (bO 13) ["_law_thing_here"] []
 bT:mg "_law_copied" = some (.ref (bN 13))
 tT:gQ K "law" "law" fR (bN 14) (bO 14)
 yS:Binds K (bO 14) ["_law_script"] []
 yT:mg "law" = some (.ref (bN 14))
 kY:mg "all" = none
 pJ:mg "bool" = none
 qY:mg "int" = none
 aV:mg "isinstance" = none
 bZ:mg "len" = none
 dB:mg "list" = none
 kZ:mg "max" = none
 qZ:mg "ord" = none
 f9:mg "range" = none
 kj:mg "reversed" = none
 rj:mg "str" = none
 iy:mg "sum" = none
 oh:mg "tuple" = none
 pK:∃ t,mg "LINE" = some (.str (rV 0) t)
 lU:(rV 0)=Str.ofString "\n"
 jG:∃ t,mg "MOST_ROWS" = some (.int 60 t)
 iQ:∃ t,mg "MOST_CELLS" = some (.int 20 t)
 cD:∃ t,mg "MOST_SIGNS_IN_CELLS" = some (.int 400 t)
section
variable {P:Program}{w:World}{K:W.Frag}{mg:Str→Option Value}{base:Heap}{bN:Nat→Addr}{bO:Nat→FuncData}{rV:Nat→Str}
def ef:Sp:=fun vs H Q _=>∃ c:Nat,vs=[.str (sg c)]∧Q (.bl (decide (Pn c))) H
section
variable (T:Txt K mg bN bO rV)
include T
theorem gJ:aU P w K mg base dF 1 (bN 0) (bO 0) ["sign"] ef:=by
 refine T.eU.ok d9 (fun vs H Q E h=>?_) (fun cdv A outer s H vs Q E hr h=>?_)
 ·obtain⟨c,rfl,_⟩:=h;rfl
 ·have hu:=cI hr
  have iR:=hr.bA
  obtain⟨c,rfl,k⟩:=h
  refine⟨_,(ao (gv 1 d9.nd (eT nk T.qZ (af (pv 0) ak aq)) (hs:=dw))
   (az (aC (m7 (qS sP (pv 1) aj) (m7 (qS ni (pv 1) aj) (m6 (qS nh (pv 1) aj))))))),?_⟩
  refine⟨_,rfl,_,rfl,rfl,?_⟩
  refine⟨_,rfl,_,_,rfl,rfl,_,rfl,nD (fun h1=>?_) (fun h1=>?_)⟩
  ·have h1:(32:Int)≤((c:Nat):Int):=of_decide_eq_true h1
   refine⟨_,rfl,_,_,rfl,rfl,_,rfl,nD (fun h2=>?_) (fun h2=>?_)⟩
   ·have h2:((c:Nat):Int)≤126:=of_decide_eq_true h2
    refine⟨_,rfl,rfl,?_⟩
    have e:(!decide (V.int ((c:Nat):Int)=V.int 37))=decide (Pn c):=by
     by_cases h3:c=37
     ·subst h3;decide
     ·have n1:¬(V.int ((c:Nat):Int)=V.int 37):=fun z=>h3 (by injection z with z;omega)
      rw[decide_eq_false n1,decide_eq_true (show Pn c from ⟨by omega,by omega,h3⟩)];rfl
    show Q (.bl (!decide (V.int ((c:Nat):Int)=V.int 37))) H
    rw[e];exact k
   ·have e:decide (((c:Nat):Int)≤126)=decide (Pn c):=by
     have n1:¬((c:Nat):Int)≤126:=fun z=>h2 (decide_eq_true z)
     rw[decide_eq_false n1,decide_eq_false (fun z:Pn c=>n1 (by have:=z.2.1;omega))]
    rw[←e,show decide (((c:Nat):Int)≤126)=false from Bool.eq_false_iff.mpr h2] at k
    exact k
  ·have e:decide ((32:Int)≤((c:Nat):Int))=decide (Pn c):=by
    have n1:¬(32:Int)≤((c:Nat):Int):=fun z=>h1 (decide_eq_true z)
    rw[decide_eq_false n1,decide_eq_false (fun z:Pn c=>n1 (by have:=z.1;omega))]
   rw[←e,show decide ((32:Int)≤((c:Nat):Int))=false from Bool.eq_false_iff.mpr h1] at k
   exact k
def dj:Sp:=fun vs H Q _=>∃ z:Str,vs=[.str z]∧z.length≤2000∧∀ H',aA H H'→Q (.bl (textOk z)) H'
theorem fM:aU P w K mg base dF 2 (bN 1) (bO 1) ["text"] dj:=by
 have iz:aU P w K mg base dF 1 (bN 0) (bO 0) ["sign"] ef:=gJ T
 refine T.dz.ok fL (fun vs H Q E h=>?_) (fun cdv A outer s H vs Q E hr h=>?_)
 ·obtain⟨z,rfl,_⟩:=h;rfl
 ·have hu:=cI hr
  have iR:=hr.bA
  obtain⟨z,rfl,hz,k⟩:=h
  refine⟨_,(az (aC (eT (gu K rfl rfl) T.kY (af (bC rfl (show aE ["text"] (ay aS) ["sign"] 1 [] _ from mL) (qK (pv 0)) (fun _ _ _ _=>(jd 0 mK)) (fun _ _ _ _=>bB) (fun _ _ _ _=>(su (qS eH (pv 0) (o9 rfl T.pK.choose_spec)) (m6 (kc iz hr T.ia T.eU.kp T.g9 (af (pv 0) ak aq)))))) ak br)))),?_⟩
  refine⟨_,rfl,z,rfl,fun D hD=>?_⟩
  have hsz:z.cps.toList.length=z.length:=by rw[Array.length_toList];rfl
  refine nJ (fun i ys τ H2=>(∃ v,τ=[v])∧aA H H2∧H2 D=some (.lst ys)∧ys=((z.cps.toList.take i).map lR).map V.bl) ⟨⟨_,rfl⟩,ai hD,ah,rfl⟩ (fun i ys τ H2 _ p=>p.2.2.1) ?_ ?_
  ·rintro i c ys τ H2 hi ⟨⟨v,rfl⟩,s2,hl,rfl⟩
   have hil:i < z.cps.toList.length:=(List.getElem?_eq_some_iff.mp hi).1
   have hlen:(((z.cps.toList.take i).map lR).map V.bl).length < sizeLine:=by
    rw[List.length_map,List.length_map,List.length_take]
    exact Nat.lt_of_le_of_lt (show min i z.cps.toList.length≤2000 by omega) (by decide)
   have fin:∀ b,b=lR c→H2 D=some (.lst (((z.cps.toList.take i).map lR).map V.bl))∧(((z.cps.toList.take i).map lR).map V.bl).length < sizeLine∧(∃ v,[some (V.str (sg c))]=[v])∧aA H (upd H2 D (.lst (((z.cps.toList.take i).map lR).map V.bl++[.bl b])))∧(upd H2 D (.lst (((z.cps.toList.take i).map lR).map V.bl++[.bl b]))) D=some (.lst (((z.cps.toList.take i).map lR).map V.bl++[.bl b]))∧((z.cps.toList.take i).map lR).map V.bl++[.bl b]=((z.cps.toList.take (i+1)).map lR).map V.bl:=fun b hb=>by
    refine⟨hl,hlen,⟨_,rfl⟩,aJ hD s2,ah,?_⟩
    rw[aN hi,List.map_append,List.map_append,hb];rfl
   refine gw ?_
   refine⟨_,rfl,rfl,_,rfl,nD (fun h=>?_) (fun h=>?_)⟩
   ·have h:decide (V.str (sg c)=V.str (rV 0))=true:=h
    have hc:c=10:=by
     have e:=of_decide_eq_true h
     rw[T.lU] at e
     have e2:sg c=sg 10:=(V.str.inj e).trans (by decide +kernel)
     have:=congrArg (fun z:Str=>z.cps.toList) e2
     exact(List.cons.inj (show [c]=[10] from this)).1
    exact fin true (by rw[hc];exact(decide_eq_true (.inl rfl)).symm)
   ·have hc:c≠10:=AZ T.lU h
    refine⟨_,rfl,c,rfl,fin _ ?_⟩
    unfold lR
    by_cases hp:Pn c
    ·rw[decide_eq_true hp,decide_eq_true (.inr hp)]
    ·rw[decide_eq_false hp,decide_eq_false (fun z=>z.elim hc hp)]
  ·rintro ys τ H2 ⟨⟨v,rfl⟩,s2,hl,rfl⟩
   refine⟨D,(z.cps.toList.take z.cps.toList.length).map lR,rfl,aD.of hl,?_⟩
   have e:((z.cps.toList.take z.cps.toList.length).map lR).all id=textOk z:=by
    rw[List.take_of_length_le (Nat.le_refl _),List.all_map];rfl
   rw[e]
   exact k H2 s2
def iA (K:W.Frag):Sp:=fun vs H Q _=>∃(N:Addr→Prop) (n:Nat) (v:V) (t:Tr),vs=[v]∧Rp N n H v t∧∀ H',aA H H'→Q (.bl (bR t)) H'
theorem lg:aU P w K mg base dF 3 (bN 2) (bO 2) ["thing"] (iA K):=by
 have gb:aU P w K mg base dF 2 (bN 1) (bO 1) ["text"] dj:=fM T
 refine T.jf.ok kU (fun vs H Q E h=>?_) (fun cdv A outer s H vs Q E hr h=>?_)
 ·obtain⟨N,n,v,t,rfl,_⟩:=h;rfl
 ·have hu:=cI hr
  have iR:=hr.bA
  obtain⟨N,n,v,t,rfl,hv,k⟩:=h
  refine⟨_,(ao (ck (PW.pt (gA (gX (dP (eT (aY K rfl) T.aV (af (pv 0) (af (qd "str" T.rj) ak aq) aq)))) (gk (gT j0 (eT cR T.bZ (af (pv 0) ak aq)) (gR rfl T.cD.choose_spec))))) (az (aC cP)) aT)
   (az (aC (kc gb hr T.fV T.dz.kp T.fU (af (pv 0) ak aq))))),?_⟩
  rcases hv.nT K with ⟨z,rfl,rfl,hz⟩ | ⟨ty,hty,ht,e⟩
  ·refine⟨_,rfl,_,_,_,true,rfl,.str _,.inl ⟨_,rfl,rfl⟩,true,rfl,eB ⟨_,rfl,z,rfl,Nat.le_trans hz (by decide),_,_,rfl,rfl,_,rfl,nM (fun h1=>?_) (fun h1=>?_)⟩⟩
   ·have e:bR (.leaf (.str z))=false:=by
     show(decide (z.length≤400) && textOk z)=false
     rw[decide_eq_false (by omega)];rfl
    rw[e] at k
    exact k H (aA.refl H)
   ·have e:bR (.leaf (.str z))=textOk z:=by
     show(decide (z.length≤400) && textOk z)=_
     rw[decide_eq_true (by omega)];rfl
    rw[e] at k
    exact⟨_,rfl,z,rfl,by omega,k⟩
  ·rw[e] at k
   exact⟨_,rfl,_,_,_,false,rfl,hty,.inl ⟨_,rfl,ht⟩,false,rfl,gH (k H (aA.refl H))⟩
def jg (K:W.Frag):Sp:=fun vs H Q _=>∃(N:Addr→Prop) (n:Nat) (v:V) (t:Tr),vs=[v]∧Rp N n H v t∧∀ H',aA H H'→Q (.bl (di t)) H'
theorem mT:aU P w K mg base dF 4 (bN 3) (bO 3) ["thing"] (jg K):=by
 have mU:aU P w K mg base dF 3 (bN 2) (bO 2) ["thing"] (iA K):=lg T
 refine T.ki.ok mQ (fun vs H Q E h=>?_) (fun cdv A outer s H vs Q E hr h=>?_)
 ·obtain⟨N,n,v,t,rfl,_⟩:=h;rfl
 ·have hu:=cI hr
  have iR:=hr.bA
  obtain⟨N,n,v,t,rfl,hv,k⟩:=h
  refine⟨_,(ao (ck (PW.pt (gA (gX (dP (eT (aY K rfl) T.aV (af (pv 0) (af (qd "list" T.dB) ak aq) aq)))) (gA (gT jZ (eT (aF K rfl) T.bZ (af (pv 0) ak aq)) aj) (gk (gT j0 (eT (aF K rfl) T.bZ (af (pv 0) ak aq)) (gR rfl T.iQ.choose_spec)))))) (az (aC cP)) aT)
   (az (aC (eT (gu K rfl rfl) T.kY (af (bC rfl (show aE ["thing"] (ay dO) ["cell"] 1 [] _ from mL) (aZ K rfl (pv 0)) (fun _ _ _ _=>(jd 0 mK)) (fun _ _ _ _=>bB) (fun _ _ _ _=>(kc mU hr T.mS T.jf.kp T.mR (af (pv 0) ak aq)))) ak br))))),?_⟩
  rcases hv.cB K with ⟨m,a,xs,ts,rfl,rfl,rfl,ha,hN,ou,ps⟩ | ⟨ty,hty,ht,rfl,_⟩
  rotate_left
  ·exact⟨_,rfl,_,_,_,false,rfl,hty,.inl ⟨_,rfl,ht⟩,false,rfl,gH (k H (aA.refl H))⟩
  have hlx:=ps.length
  refine⟨_,rfl,_,_,_,true,rfl,.lst ha,.inl ⟨_,rfl,rfl⟩,true,rfl,eB ?_⟩
  refine⟨_,rfl,a,_,rfl,.inl (aD.of ha),_,_,rfl,rfl,_,rfl,nM (fun h1=>?_) (fun h1=>?_)⟩
  ·have e:di (.list ts)=false:=by
    show(decide (1≤ts.length∧ts.length≤20) && ts.all bR)=false
    rw[decide_eq_false (by omega)];rfl
   rw[e] at k
   exact gH (k H (aA.refl _))
  refine⟨_,rfl,a,_,rfl,.inl (aD.of ha),_,_,rfl,rfl,_,rfl,nM (fun h2=>?_) (fun h2=>?_)⟩
  ·have e:di (.list ts)=false:=by
    show(decide (1≤ts.length∧ts.length≤20) && ts.all bR)=false
    rw[decide_eq_false (by omega)];rfl
   rw[e] at k
   exact k H (aA.refl _)
  have e:di (.list ts)=ts.all bR:=by
   show(decide (1≤ts.length∧ts.length≤20) && ts.all bR)=_
   rw[decide_eq_true (by omega)];rfl
  rw[e] at k
  clear e
  refine⟨_,rfl,a,rfl,⟨_,aD.of ha⟩,fun D hD=>?_⟩
  refine bf (K:=K) (a:=a) (xs:=xs) (fun i ys τ H2=>(∃ v,τ=[v])∧aA H H2∧H2 D=some (.lst ys)∧ys=((ts.take i).map bR).map V.bl) ⟨⟨_,rfl⟩,ai hD,ah,rfl⟩ (fun i ys τ H2 _ p=>⟨aD.of (p.2.1 _ _ ha),p.2.2.1⟩) ?_ ?_
  ·rintro i e ys τ H2 hi ⟨⟨v,rfl⟩,s2,hl,rfl⟩
   have hil:i < xs.length:=(List.getElem?_eq_some_iff.mp hi).1
   obtain⟨r,hr,hb⟩:=aM ps i e hi
   refine gw ?_
   refine⟨_,rfl,N,m,e,r,rfl,hb.mono s2 (fun _ z=>z),fun H3 s3=>⟨s3 _ _ hl,?_,⟨_,rfl⟩,aJ hD (s2.trans s3),ah,?_⟩⟩
   ·rw[List.length_map,List.length_map,List.length_take]
    exact Nat.lt_of_le_of_lt (show _≤1000 by omega) (by decide)
   ·rw[aN hr,List.map_append,List.map_append];rfl
  ·rintro ys τ H2 ⟨⟨v,rfl⟩,s2,hl,rfl⟩
   rw[hlx,List.take_of_length_le (Nat.le_refl _)] at hl
   refine⟨D,ts.map bR,rfl,aD.of hl,?_⟩
   have ea:(ts.map bR).all id=ts.all bR:=by rw[List.all_map];rfl
   rw[ea]
   exact k H2 s2
def eg (K:W.Frag):Sp:=fun vs H Q _=>∃(a:Addr) (r:List Str),vs=[.ref a]∧H a=some (.lst (r.map V.str))∧r.length≤20∧(∀ c∈r,c.length≤400)∧∀ H',aA H H'→Q (.int ((lens r).sum:Nat)) H'
theorem gK:aU P w K mg base dF 1 (bN 4) (bO 4) ["row"] (eg K):=by
 refine T.eV.ok gI (fun vs H Q E h=>?_) (fun cdv A outer s H vs Q E hr h=>?_)
 ·obtain⟨a,r,rfl,_⟩:=h;rfl
 ·have hu:=cI hr
  have iR:=hr.bA
  obtain⟨a,r,rfl,ha,hr,hs,k⟩:=h
  have hsum:(lens r).sum≤8000:=by
   have h1:=fh hs
   omega
  refine⟨_,(az (aC (eT (dJ K rfl rfl) T.iy (af (bC rfl (show aE ["row"] (ay bh) ["cell"] 1 [] _ from mL) (aZ K rfl (pv 0)) (fun _ _ _ _=>(jd 0 mK)) (fun _ _ _ _=>bB) (fun _ _ _ _=>(eT cR T.bZ (af (pv 0) ak aq)))) ak br)))),?_⟩
  refine⟨_,rfl,a,rfl,⟨_,aD.of ha⟩,fun D hD=>?_⟩
  refine bf (K:=K) (a:=a) (xs:=r.map V.str) (fun i ys τ H2=>(∃ v,τ=[v])∧aA H H2∧H2 D=some (.lst ys)∧ys=((lens r).take i).map fun n:Nat=>V.int n) ⟨⟨_,rfl⟩,ai hD,ah,rfl⟩ (fun i ys τ H2 _ p=>⟨aD.of (p.2.1 _ _ ha),p.2.2.1⟩) ?_ ?_
  ·rintro i e ys τ H2 hi ⟨⟨v,rfl⟩,s2,hl,rfl⟩
   rw[List.getElem?_map] at hi
   cases hz:r[i]? with
   | none=>rw[hz] at hi;cases hi
   | some z =>
    rw[hz] at hi
    cases hi
    have tU:=List.mem_of_getElem? hz
    have tV:=hs z tU
    refine gw ?_
    refine⟨_,rfl,z,rfl,Nat.le_trans tV (by decide),hl,?_,⟨_,rfl⟩,aJ hD s2,ah,?_⟩
    ·rw[List.length_map,List.length_take]
     unfold lens;rw[List.length_map]
     exact Nat.lt_of_le_of_lt (show _≤20 by omega) (by decide)
    ·rw[aN (l:=lens r) (c:=z.length) (by unfold lens;rw[List.getElem?_map,hz];rfl),List.map_append];rfl
  ·rintro ys τ H2 ⟨⟨v,rfl⟩,s2,hl,rfl⟩
   refine⟨D,lens r,rfl,?_,by omega,k H2 s2⟩
   have e:(lens r).take (r.map V.str).length=lens r:=List.take_of_length_le (by unfold lens;rw[List.length_map,List.length_map];exact Nat.le_refl _)
   rw[e] at hl
   exact aD.of hl
def gE (K:W.Frag):Sp:=fun vs H Q _=>∃(N:Addr→Prop) (n:Nat) (v:V) (t:Tr),vs=[v]∧Rp N n H v t∧∀ H',aA H H'→Q (.bl (iM t)) H'
theorem ko:aU P w K mg base dF 5 (bN 5) (bO 5) ["thing"] (gE K):=by
 have oi:aU P w K mg base dF 4 (bN 3) (bO 3) ["thing"] (jg K):=mT T
 have iB:aU P w K mg base dF 1 (bN 4) (bO 4) ["row"] (eg K):=gK T
 refine T.ig.ok kh (fun vs H Q E h=>?_) (fun cdv A outer s H vs Q E hr h=>?_)
 ·obtain⟨N,n,v,t,rfl,_⟩:=h;rfl
 ·have hu:=cI hr
  have iR:=hr.bA
  obtain⟨N,n,v,t,rfl,hv,k⟩:=h
  refine⟨_,(ao (ck (PW.pt (gA (gX (dP (eT (aY K rfl) T.aV (af (pv 0) (af (qd "list" T.dB) ak aq) aq)))) (gk (gT j0 (eT (aF K rfl) T.bZ (af (pv 0) ak aq)) (gR rfl T.jG.choose_spec))))) (az (aC cP)) aT)
   (ao (ck (gX (dP (eT (gu K rfl rfl) T.kY (af (bC rfl (show aE ["thing"] (ay bW) ["row"] 1 [] _ from mL) (aZ K rfl (pv 0)) (fun _ _ _ _=>(jd 0 mK)) (fun _ _ _ _=>bB) (fun _ _ _ _=>(kc oi hr T.nZ T.ki.kp T.nY (af (pv 0) ak aq)))) ak br)))) (az (aC cP)) aT)
   (az (aC (qS ni (eT (dJ K rfl rfl) T.iy (af (bC rfl (show aE ["thing"] (ay bW) ["row"] 1 [] _ from mL) (aZ K rfl (pv 0)) (fun _ _ _ _=>(jd 0 mK)) (fun _ _ _ _=>bB) (fun _ _ _ _=>(kc iB hr T.ie T.eV.kp T.ic (af (pv 0) ak aq)))) ak br)) (gR rfl T.cD.choose_spec)))))),?_⟩
  rcases hv.cB K with ⟨m,a,xs,ts,rfl,rfl,rfl,ha,hN,ou,ps⟩ | ⟨ty,hty,ht,rfl,_⟩
  rotate_left
  ·exact⟨_,rfl,_,_,_,false,rfl,hty,.inl ⟨_,rfl,ht⟩,false,rfl,gH (k H (aA.refl H))⟩
  have hlx:=ps.length
  refine⟨_,rfl,_,_,_,true,rfl,.lst ha,.inl ⟨_,rfl,rfl⟩,true,rfl,eB ?_⟩
  have ek:iM (.list ts)=(decide (ts.length≤60) && ts.all di && decide ((ts.map nS).sum≤400)):=rfl
  refine⟨_,rfl,a,_,rfl,.inl (aD.of ha),_,_,rfl,rfl,_,rfl,nM (fun h1=>?_) (fun h1=>?_)⟩
  ·rw[ek,decide_eq_false (by omega)] at k
   exact k H (aA.refl _)
  refine⟨_,rfl,a,rfl,⟨_,aD.of ha⟩,fun D hD=>?_⟩
  refine bf (K:=K) (a:=a) (xs:=xs) (fun i ys τ H2=>(∃ v,τ=[v])∧aA H H2∧H2 D=some (.lst ys)∧ys=((ts.take i).map di).map V.bl) ⟨⟨_,rfl⟩,ai hD,ah,rfl⟩ (fun i ys τ H2 _ p=>⟨aD.of (p.2.1 _ _ ha),p.2.2.1⟩) ?_ ?_
  ·rintro i e ys τ H2 hi ⟨⟨v,rfl⟩,s2,hl,rfl⟩
   have hil:i < xs.length:=(List.getElem?_eq_some_iff.mp hi).1
   obtain⟨r,hr,hb⟩:=aM ps i e hi
   refine gw ?_
   refine⟨_,rfl,N,m,e,r,rfl,hb.mono s2 (fun _ z=>z),fun H3 s3=>⟨s3 _ _ hl,?_,⟨_,rfl⟩,aJ hD (s2.trans s3),ah,?_⟩⟩
   ·rw[List.length_map,List.length_map,List.length_take]
    exact Nat.lt_of_le_of_lt (show _≤1000 by omega) (by decide)
   ·rw[aN hr,List.map_append,List.map_append];rfl
  ·rintro ys τ H2 ⟨⟨v,rfl⟩,s2,hl,rfl⟩
   rw[hlx,List.take_of_length_le (Nat.le_refl _)] at hl
   refine⟨D,ts.map di,rfl,aD.of hl,?_⟩
   have ea:(ts.map di).all id=ts.all di:=by rw[List.all_map];rfl
   rw[ea]
   cases hA:ts.all di with
   | false =>
    rw[ek,hA,Bool.and_false] at k
    exact⟨_,rfl,gH (k H2 s2)⟩
   | true =>
    rw[ek,hA,decide_eq_true (by omega)] at k
    obtain⟨t,rfl,tr⟩:=lS K ps hA
    rw[qg] at k
    have tl:=nU (t:=t) (kg (fun a b ⟨_,_,_,q⟩=>q) tr)
    have EN:t.length≤60:=by rw[List.length_map] at hlx;omega
    refine⟨true,rfl,eB ?_⟩
    clear hl
    have ha2:=s2 _ _ ha
    refine⟨_,rfl,a,rfl,⟨_,aD.of ha2⟩,fun E hE=>?_⟩
    refine bf (K:=K) (a:=a) (xs:=xs) (fun i ys τ H3=>(∃ v,τ=[v])∧aA H2 H3∧H3 E=some (.lst ys)∧ys=((t.map fun r=>(lens r).sum).take i).map fun n:Nat=>V.int n) ⟨⟨_,rfl⟩,ai hE,ah,rfl⟩ (fun i ys τ H3 _ p=>⟨aD.of (p.2.1 _ _ ha2),p.2.2.1⟩) ?_ ?_
    ·rintro i e ys τ H3 hi ⟨⟨v,rfl⟩,s3,hl,rfl⟩
     obtain⟨r,hr,b,rfl,hb,wK,A2⟩:=aM tr i e hi
     have hil:i < xs.length:=(List.getElem?_eq_some_iff.mp hi).1
     refine gw ?_
     refine⟨_,rfl,b,r,rfl,s3 _ _ (s2 _ _ hb),wK,A2,fun H4 s4=>⟨s4 _ _ hl,?_,⟨_,rfl⟩,aJ hE (s3.trans s4),ah,?_⟩⟩
     ·rw[List.length_map,List.length_take,List.length_map]
      exact Nat.lt_of_le_of_lt (show _≤60 by omega) (by decide)
     ·rw[aN (l:=t.map fun r=>(lens r).sum) (c:=(lens r).sum) (by rw[List.getElem?_map,hr];rfl),List.map_append];rfl
    ·rintro ys τ H3 ⟨⟨v,rfl⟩,s3,hl,rfl⟩
     have e:(t.map fun r=>(lens r).sum).take xs.length=t.map fun r=>(lens r).sum:=List.take_of_length_le (by rw[List.length_map,hlx,List.length_map];exact Nat.le_refl _)
     rw[e] at hl
     refine⟨E,t.map fun r=>(lens r).sum,rfl,aD.of hl,by omega,_,_,rfl,rfl,?_⟩
     have e2:decide ((((t.map fun r=>(lens r).sum).sum:Nat):Int)≤400)=decide ((t.map fun r=>(lens r).sum).sum≤400):=decide_eq_decide.mpr (by omega)
     have q:=k H3 (s2.trans s3)
     rw[show((true && true) && decide ((t.map fun r=>(lens r).sum).sum≤400))=decide ((t.map fun r=>(lens r).sum).sum≤400) from rfl,←e2] at q
     exact q
def dI:Sp:=fun vs H Q _=>∃ a b:Int,vs=[.int a,.int b]∧0≤a∧a < 4294967296∧0≤b∧b < 65536∧∀ r:Int,0≤r→r < 49979687→Q (.int r) H
theorem iS:aU P w K mg base dF 1 (bN 6) (bO 6) ["_law_number", "_law_salt"] dI:=by
 refine T.fW.ok dG (fun vs H Q E h=>?_) (fun cdv A outer s H vs Q E hr h=>?_)
 ·obtain⟨a,b,rfl,_⟩:=h;rfl
 ·have hu:=cI hr
  have iR:=hr.bA
  obtain⟨a,b,rfl,ha,ha',hb,hb',k⟩:=h
  refine⟨_,(ao (gv 2 dG.nd (av aK (av bI (av dD (pv 0) (av bI aj (av dD aj (pv 1)))) (av dD aj (pv 1))) aj) (hs:=bu))
   (ao (gv 3 dG.nd (av aK (av bI (av dD (pv 2) (pv 2)) (pv 1)) aj) (hs:=bu))
   (az (aC (av aK (av bI (av dD (pv 3) (pv 3)) (pv 2)) aj))))),?_⟩
  refine⟨_,rfl,_,rfl,_,_,rfl,rfl,.inl ⟨by decide,by decide⟩,_,_,rfl,rfl,_,_,rfl,rfl,.inl ⟨by omega,by omega⟩,_,rfl,_,_,rfl,rfl,.inl ⟨by decide,by decide⟩,_,_,rfl,rfl,_,_,rfl,rfl,(by show(0:Int) < 15485863;decide),?_⟩
  have h1:=Int.emod_nonneg (a * (1299709+210 * b)+7919 * b) (show(15485863:Int)≠0 by decide)
  have h2:=Int.emod_lt_of_pos (a * (1299709+210 * b)+7919 * b) (show(0:Int) < 15485863 by decide)
  refine⟨_,rfl,_,rfl,_,_,rfl,rfl,.inl ⟨by omega,by omega⟩,_,rfl,_,_,rfl,rfl,_,_,rfl,rfl,(by show(0:Int) < 32452843;decide),?_⟩
  refine⟨_,rfl,_,rfl,_,_,rfl,rfl,.inl ⟨?_,?_⟩,_,rfl,_,_,rfl,rfl,_,_,rfl,rfl,(by show(0:Int) < 49979687;decide),?_⟩
  ·exact Int.lt_of_lt_of_le (by decide) (Int.emod_nonneg _ (by decide))
  ·exact Int.lt_trans (Int.emod_lt_of_pos _ (by decide)) (by decide)
  ·exact k _ (Int.emod_nonneg _ (by decide)) (Int.emod_lt_of_pos _ (by decide))
def fD:Sp:=fun vs H Q _=>∃(c m:Int),vs=[.int c,.int m]∧0≤m∧m≤1000∧∀(l:Addr) (ns:List Int) (H':Hp),ns.length=m.toNat→(∀ n∈ns,0≤n)→H l=none→H' l=some (.lst (ns.map V.int))→aA H H'→Q (.ref l) H'
theorem iT:aU P w K mg base dF 2 (bN 7) (bO 7) ["_law_cell", "_law_many"] fD:=by
 have jH:aU P w K mg base dF 1 (bN 6) (bO 6) ["_law_number", "_law_salt"] dI:=iS T
 refine T.fX.ok bw (fun vs H Q E h=>?_) (fun cdv A outer s H vs Q E hr h=>?_)
 ·obtain⟨c,m,rfl,_⟩:=h;rfl
 ·have hu:=cI hr
  have iR:=hr.bA
  obtain⟨c,m,rfl,hm,hm',k⟩:=h
  refine⟨_,(ao (ck (PW.pt (gA (gT eH (av aK (pv 0) aj) aj) (gk (gT jZ (pv 0) (av dD aj (av nc aj aj)))))) (ao (gv 2 bw.nd (av aK (pv 0) aj) (hs:=bu))
   (az (aC (bC rfl (show aE ["_law_cell", "_law_many", "_law_number", "_law_found", "_law_k"] (ay bL) ["_law_k", "_law_number"] 1 [2] _ from mL) (eZ rfl T.f9 (af (pv 1) ak aq)) (fun _ _ _ _=>(jd 0 (show(["_law_k", "_law_number"]:List Str).Nodup by decide +kernel))) (fun _ _ _ _=>bB) (fun _ _ _ _=>(kc jH hr T.jx T.fW.kp T.jw (af (pv 1) (af (av bI aj (av dD aj (pv 0))) ak dM) aq))))))) aT)
   (ao (gv 3 bw.nd (aI ak) (hs:=gS))
   (ao (gv 2 bw.nd (av jn (av cQ (pv 0) aj) (av nc aj aj)) (hs:=bu))
   (ao (gZ PassesOwn.never rfl (eZ rfl T.f9 (af (pv 1) ak aq)) (jd 4 bw.nd)
   (ao (jm (kO K rfl PySem.F.plainAttrs_list PySem.F.slot_list_append PySem.F.type_list_append fc (pv 3) (af (av aK (pv 2) aj) ak dM)))
   (az (gv 2 bw.nd (av cQ (pv 2) aj) (hs:=bu)))))
   (az (aC (pv 3))))))),?_⟩
  refine⟨_,rfl,_,_,rfl,rfl,(by show(0:Int) < 2;decide),rfl,_,rfl,?_⟩
  have tW:∀{D:Addr}{v:Option V},H D=none→jb (pX 0 m.toNat) (bP 0) qI (lI dI [] E0 (nq (m5 1) (nq (oJ (oK fun i j=>.int (i+j)) (tC (.int 71)) (oJ (rI oN fun i j=>.int (i * j)) (tC (.int 2)) (m5 0))) qz))) Q D [none,some (.int (c % 1000000007))] H:=by
   intro D v hD
   refine kN (fun i ys τ H2=>(∃ v,τ=[v,some (.int (c % 1000000007))])∧aA H H2∧H2 D=some (.lst ys)∧∃ ns:List Int,ys=ns.map V.int∧ns.length=i∧∀ n∈ns,0≤n) ⟨⟨_,rfl⟩,ai hD,ah,[],rfl,rfl,fun _ z=>nomatch z⟩ (fun i ys τ H2 _ p=>p.2.2.1) ?_ ?_
   ·rintro i ys τ H2 hi ⟨⟨v,rfl⟩,s2,hl,ns,rfl,hn,hp⟩
    refine gw ?_
    refine⟨_,rfl,_,rfl,_,_,rfl,rfl,.inl ⟨by decide,by decide⟩,_,_,rfl,rfl,_,_,rfl,Int.emod_nonneg _ (by decide),Int.lt_trans (Int.emod_lt_of_pos _ (by decide)) (by decide),by omega,by omega,fun r hr0 _=>?_⟩
    refine⟨hl,?_,⟨_,rfl⟩,aJ hD s2,ah,ns++[r],by rw[List.map_append];rfl,by rw[List.length_append,hn];rfl,fun n hn'=>?_⟩
    ·rw[List.length_map,hn]
     exact Nat.lt_of_lt_of_le (show i < 1000 by omega) (by decide)
    ·rcases List.mem_append.mp hn' with z | z
     ·exact hp n z
     ·rw[List.mem_singleton.mp z];exact hr0
   ·rintro ys τ H2 ⟨⟨v,rfl⟩,s2,hl,ns,rfl,hn,hp⟩
    exact k D ns H2 hn hp hD hl s2
  refine nD (fun _=>?_) (fun _=>?_)
  ·refine gH ?_
   refine⟨_,rfl,_,_,rfl,rfl,(by show(0:Int) < 1000000007;decide),?_⟩
   exact⟨_,rfl,m,rfl,by omega,by omega,fun D hD=>tW (v:=none) hD⟩
  ·refine⟨_,rfl,_,_,rfl,rfl,⟨by decide,by decide,by decide⟩,_,_,rfl,rfl,.inl ⟨by decide,by decide⟩,_,_,rfl,rfl,_,rfl,?_⟩
   refine nD (fun _=>?_) (fun _=>?_)
   ·refine⟨_,rfl,_,_,rfl,rfl,(by show(0:Int) < 1000000007;decide),?_⟩
    exact⟨_,rfl,m,rfl,by omega,by omega,fun D hD=>tW (v:=none) hD⟩
   ·refine⟨by decide,fun l hl=>?_⟩
    refine⟨_,rfl,_,_,rfl,rfl,⟨by decide,by decide⟩,_,_,rfl,rfl,⟨by decide,by decide,by decide⟩,_,_,rfl,rfl,?_⟩
    refine⟨_,rfl,m,rfl,by omega,by omega,?_⟩
    refine gn (fun i σ H2=>aA H H2∧∃(x:Int) (v:Option V) (ns:List Int),σ=[some (.int c),some (.int m),some (.int x),some (.ref l),v]∧H2 l=some (.lst (ns.map V.int))∧ns.length=i∧∀ n∈ns,0≤n) ⟨ai hl,_,_,[],rfl,ah,rfl,fun _ z=>nomatch z⟩ ?_ ?_
    ·rintro i σ H2 hi ⟨s2,x,v,ns,rfl,hq,hn,hp⟩
     refine⟨_,rfl,.inl ⟨rfl,_,aD.of hq⟩,_,rfl,_,_,rfl,rfl,(by show(0:Int) < 4096;decide),l,_,_,rfl,rfl,hq,?_,?_⟩
     ·rw[List.length_map,hn]
      exact Nat.lt_of_lt_of_le (show i < 1000 by omega) (by decide)
     ·refine⟨_,rfl,_,_,rfl,rfl,⟨by decide,by decide⟩,?_⟩
      refine⟨aJ hl s2,_,_,ns++[x % 4096],rfl,?_,by rw[List.length_append,hn];rfl,fun n hn'=>?_⟩
      ·rw[ah,List.map_append];rfl
      ·rcases List.mem_append.mp hn' with z | z
       ·exact hp n z
       ·rw[List.mem_singleton.mp z];exact Int.emod_nonneg _ (by decide)
    ·rintro σ H2 ⟨s2,x,v,ns,rfl,hq,hn,hp⟩
     exact⟨_,rfl,k l ns H2 hn hp hl hq s2⟩
def fE:Sp:=fun vs H Q _=>vs=[]∧∀ z:Str,z.length=95→dZ z→Q (.str z) H
theorem iU:aU P w K mg base dF 1 (bN 8) (bO 8) [] fE:=by
 refine T.fY.ok fz (fun vs H Q E h=>?_) (fun cdv A outer s H vs Q E hr h=>?_)
 ·obtain⟨rfl,_⟩:=h;rfl
 ·have hu:=cI hr
  have iR:=hr.bA
  obtain⟨rfl,k⟩:=h
  refine⟨_,(ao (gv 0 fz.nd bx (hs:=gD))
   (az (aC (av kF (pv 0) bx)))),?_⟩
  refine⟨_,rfl,_,_,rfl,rfl,(by decide +kernel),?_⟩
  refine k _ (by decide +kernel) ?_
  show ∀ c∈_,c=10∨Pn c
  decide +kernel
def fF (K:W.Frag):Sp:=fun vs H Q _=>∃(a:Addr) (ns:List Int),vs=[.ref a]∧H a=some (.lst (ns.map V.int))∧ns.length=12∧(∀ n∈ns,0≤n)∧∀(l:Addr) (xs:List V) (t:List (List Str)) (H':Hp),aA H H'→H l=none→H' l=some (.lst xs)→Paired (cj (fun b=>H b=none∧b≠l) H') xs t→t.length≤62→(∀ r∈t,RowW r)→Q (.ref l) H'
theorem iV:aU P w K mg base dF 2 (bN 9) (bO 9) ["_law_xs"] (fF K):=by
 have jI:aU P w K mg base dF 1 (bN 8) (bO 8) [] fE:=iU T
 refine T.fZ.ok aB (fun vs H Q E h=>?_) (fun cdv A outer s H vs Q E hr h=>?_)
 ·obtain⟨a,ns,rfl,_⟩:=h;rfl
 ·have hu:=cI hr
  have iR:=hr.bA
  obtain⟨a,ns,rfl,ha,hn,hp,k⟩:=h
  have hn:ns.length=12:=hn
  obtain⟨n0,n1,n2,n3,n4,n5,n6,n7,n8,n9,lV,jh,rfl⟩:∃ n0 n1 n2 n3 n4 n5 n6 n7 n8 n9 lV jh,ns=[n0,n1,n2,n3,n4,n5,n6,n7,n8,n9,lV,jh]:=by
   match ns,hn with
   | [n0,n1,n2,n3,n4,n5,n6,n7,n8,n9,lV,jh],_=>exact⟨_,_,_,_,_,_,_,_,_,_,_,_,rfl⟩
  refine⟨_,(ao (gv 1 aB.nd (nu (jI.mono (by decide)) (k:=1) (hr.mono (by decide)) rfl T.jB T.fY.kp T.jA .nil p9) (hs:=dw))
   (ao (gv 2 aB.nd (ff K (aI (af (av aK (ff K (pv 0) aj) aj) (af (av bI aj (av aK (av cQ (ff K (pv 0) aj) aj) aj)) ak dM) dM)) (wI mh T.qY (af (qS eH (av aK (ff K (pv 0) aj) aj) aj) ak kP))) (hs:=dY))
   (ao (gv 3 aB.nd (aI ak) (hs:=gS))
   (ao (gZ PassesOwn.never rfl (eZ rfl T.f9 (af (pv 2) ak aq)) (jd 4 aB.nd)
   (ao (gv 5 aB.nd (av bI aj (av aK (av bI (ff K (pv 0) aj) (av dD aj (pv 4))) aj)) (hs:=bu))
   (ao (ck (PW.pt (gm (gT eH (pv 4) (av aK (ff K (pv 0) aj) (eT (gp rfl) T.kZ (af aj (af (pv 2) ak aq) au)))) (gP (gT eH (av aK (ff K (pv 0) aj) aj) aj)))) (az (gv 5 aB.nd (ff K (aI (tN (.cons rfl (.cons rfl (.cons rfl (.cons rfl .nil)))))) (av aK (av cQ (ff K (pv 0) aj) aj) aj)) (hs:=dY))) aT)
   (ao (gv 6 aB.nd (aI ak) (hs:=gS))
   (ao (gZ PassesOwn.never rfl (eZ rfl T.f9 (af (pv 5) ak aq)) (jd 7 aB.nd)
   (ao (gv 8 aB.nd (nA nB (pv 1) (av aK (av bI (av bI (ff K (pv 0) aj) (av dD aj (pv 4))) (pv 7)) aj) (fun _ _=>rfl)) (hs:=dY))
   (az (jm (kO K rfl PySem.F.plainAttrs_list PySem.F.slot_list_append PySem.F.type_list_append fc (pv 6) (af (av lO (pv 8) (av aK (av bI (av bI (ff K (pv 0) aj) (av dD (pv 4) (pv 4))) (pv 7)) aj)) ak dM))))))
   (az (jm (kO K rfl PySem.F.plainAttrs_list PySem.F.slot_list_append PySem.F.type_list_append fc (pv 3) (af (pv 6) ak aq)))))))))
   (ao (gv 9 aB.nd (av aK (av cQ (ff K (pv 0) aj) aj) (eT (gp rfl) T.kZ (af aj (af (pv 2) ak aq) au))) (hs:=bu))
   (ao (ck (PW.pt (gm (gT eH (av aK (ff K (pv 0) aj) aj) aj) (gm (gT (jt K rfl iR) (pv 3) (aI ak)) (gP (gT (jt K rfl iR) (ff K (pv 3) (pv 9)) (aI ak)))))) (ao (gv 10 aB.nd (av aK (av cQ (ff K (pv 0) aj) aj) (eT (aF K rfl) T.bZ (af (ff K (pv 3) (pv 9)) ak cu))) (hs:=bu))
   (ao (kB bx (ku (ff K (pv 3) (pv 9)) (pv 10) set_list))
   (ao (gv 11 aB.nd (eT (dJ K rfl rfl) T.iy (af (bC rfl (show aE ["_law_xs", "_law_every_here", "_law_many", "_law_table_here", "_law_k", "_law_cells", "_law_row", "_law_j", "_law_sign", "_law_at", "_law_place", "_law_rest"] (ay bM) ["_law_row"] 1 [] _ from mL) (aZ K rfl (pv 3)) (fun _ _ _ _=>(jd 0 mK)) (fun _ _ _ _=>bB) (fun _ _ _ _=>(eT (dJ K rfl rfl) T.iy (af (bC rfl (show aE ["_law_row"] _ ["_law_cell"] 1 [] _ from ⟨rfl,by decide +kernel,by decide +kernel,fun y hy hf=>absurd hf ((by decide +kernel:∀ y∈_,y.2≠PySem.NameKind.free) y hy),by decide +kernel,rfl,rfl,by decide +kernel⟩) (aZ K rfl (pv 0)) (fun _ _ _ _=>(jd 0 mK)) (fun _ _ _ _=>bB) (fun _ _ _ _=>(eT cR T.bZ (af (pv 0) ak aq)))) ak br)))) ak br)) (hs:=dw))
   (az (kB (av lO (nA nB (pv 1) (av aK (ff K (pv 0) aj) aj) (fun _ _=>rfl)) (eT (gp rfl) T.kZ (af aj (af (av bI (av jn aj (pv 11)) (av aK (av cQ (ff K (pv 0) aj) aj) aj)) ak dM) au))) (ku (ff K (pv 3) (pv 9)) (pv 10) set_list)))))) aT)
   (az (aC (pv 3))))))))),?_⟩
  have p5:0≤n5:=hp n5 (by simp)
  have p6:0≤n6:=hp n6 (by simp)
  have p2:0≤n2:=hp n2 (by simp)
  refine⟨rfl,fun ez vd yU=>?_⟩
  dsimp only[bP]
  refine⟨_,rfl,_,_,_,_,rfl,rfl,aD.of ha,rfl,_,_,rfl,rfl,(by omega),_,rfl,_,_,_,_,rfl,rfl,aD.of ha,rfl,_,_,rfl,rfl,⟨(by omega),(by omega)⟩,_,_,rfl,rfl,(by omega),_,_,rfl,rfl,(by show(2:Nat)≤sizeLine;decide),fun l1 hl1=>⟨_,rfl,_,_,_,_,rfl,rfl,aD.of (ai hl1 _ _ ha),rfl,_,_,rfl,rfl,(by omega),rfl,.inr (⟨_,rfl,?_⟩)⟩⟩
  (have s1:=ai (o:=HO.lst [(fun i j=>V.int (i % j)) n0 4,(fun i j=>V.int (i+j)) 58 (n0 / 4 % 5)]) hl1;have q1:=ah (H:=H) (a:=l1) (o:=HO.lst [(fun i j=>V.int (i % j)) n0 4,(fun i j=>V.int (i+j)) 58 (n0 / 4 % 5)]);generalize upd H l1 (HO.lst [(fun i j=>V.int (i % j)) n0 4,(fun i j=>V.int (i+j)) 58 (n0 / 4 % 5)])=H1 at s1 q1 ⊢)
  obtain⟨M,hM,M0,M1⟩:∃ M:Int,oW [V.int (n0 % 4),V.int (58+n0 / 4 % 5)] (if decide (V.int (n1 % 4)=V.int 1)=true then 1 else 0)=some (.int M)∧0≤M∧M≤62:=by
   have:=bX (a:=n0) (b:=4) (by decide)
   have:=bY (a:=n0) (b:=4) (by decide)
   have:=bX (a:=n0 / 4) (b:=5) (by decide)
   have:=bY (a:=n0 / 4) (b:=5) (by decide)
   by_cases h:V.int (n1 % 4)=V.int 1
   ·rw[decide_eq_true h];exact⟨_,rfl,by omega,by omega⟩
   ·rw[decide_eq_false h];exact⟨_,rfl,by omega,by omega⟩
  refine⟨l1,_,_,_,rfl,rfl,aD.of q1,hM,?_⟩
  refine⟨(by decide),fun L hL=>⟨_,rfl,_,rfl,(by omega),(by omega),?_⟩⟩
  have yV:H L=none:=s1.free hL
  (have s2:=ai (o:=HO.lst []) hL;have q2:=ah (H:=H1) (a:=L) (o:=HO.lst []);generalize upd H1 L (HO.lst [])=H2 at s2 q2 ⊢)
  clear hM
  have s12:=s1.trans s2
  refine gn (fun i σ J=>aA H J∧∃(es:List V) (T:List (List Str)) (v4 v5 v6 v7 v8:Option V),σ=[some (.ref a),some (.str ez),some (.int M),some (.ref L),v4,v5,v6,v7,v8,none,none,none]∧J L=some (.lst es)∧Paired (cj (fun b=>H b=none∧b≠L) J) es T∧(∀ r∈T,RowW r)∧T.length=i) ⟨s12,[],[],none,none,none,none,none,rfl,q2,.nil,(fun _ z=>nomatch z),rfl⟩ ?_ ?_
  ·rintro i σ J hi ⟨sJ,es,T,v4,v5,v6,v7,v8,rfl,tX,rW,rm,yW⟩
   have hi:i < 62:=by omega
   have pL:=sJ _ _ ha
   have hel:=rW.length
   dsimp only[bP]
   refine⟨_,rfl,_,_,_,_,rfl,rfl,aD.of pL,rfl,_,rfl,_,_,rfl,rfl,.inl ⟨(by omega),(by omega)⟩,_,_,rfl,rfl,_,_,rfl,rfl,(by omega),_,_,rfl,rfl,?_⟩
   have c0:=bX (a:=n2+7 * (0+(i:Int))) (b:=4) (by decide)
   have c1:=bY (a:=n2+7 * (0+(i:Int))) (b:=4) (by decide)
   dsimp only[bP]
   refine gx (t:=oE _ _ _) (fun σ' G=>aA J G∧∃(C:Int),σ'=[some (.ref a),some (.str ez),some (.int M),some (.ref L),some (.int (0+(i:Int))),some (.int C),v6,v7,v8,none,none,none]∧0≤C∧C≤21) ?_ (fun go=>?_)
   rotate_left
   ·refine⟨_,rfl,_,rfl,_,_,_,_,rfl,rfl,aD.of pL,rfl,_,rfl,_,_,rfl,_,_,rfl,rfl,(by omega),rfl,_,rfl,?_⟩
    refine nM (fun hk=>?_) (fun hk=>eB (go _ _ ⟨aA.refl _,_,rfl,by omega,by omega⟩))
    refine⟨_,rfl,_,_,_,_,rfl,rfl,aD.of pL,rfl,_,_,rfl,rfl,(by omega),rfl,_,rfl,?_⟩
    refine nM (fun hk2=>?_) (fun hk2=>go _ _ ⟨aA.refl _,_,rfl,by omega,by omega⟩)
    refine⟨(by decide),fun l6 tY=>⟨_,rfl,_,_,_,_,rfl,rfl,aD.of (ai tY _ _ pL),rfl,_,_,rfl,rfl,⟨(by omega),(by omega)⟩,_,_,rfl,rfl,(by omega),?_⟩⟩
    (have s6:=ai (o:=HO.lst [V.int 20,V.int 21,V.int 19,V.int 0]) tY;have q6:=ah (H:=J) (a:=l6) (o:=HO.lst [V.int 20,V.int 21,V.int 19,V.int 0]);generalize upd J l6 (HO.lst [V.int 20,V.int 21,V.int 19,V.int 0])=H6 at s6 q6 ⊢)
    obtain⟨C,hC,C0,C1⟩:∃ C:Int,oW [V.int 20,V.int 21,V.int 19,V.int 0] (n4 / 3 % 4)=some (.int C)∧0≤C∧C≤21:=by
     have d0:=bX (a:=n4 / 3) (b:=4) (by decide)
     have d1:=bY (a:=n4 / 3) (b:=4) (by decide)
     rcases(show n4 / 3 % 4=0∨n4 / 3 % 4=1∨n4 / 3 % 4=2∨n4 / 3 % 4=3 by omega) with q | q | q | q <;> rw[q] <;> exact⟨_,rfl,by decide,by decide⟩
    refine⟨l6,_,_,_,rfl,rfl,aD.of q6,hC,?_⟩
    exact go _ _ ⟨s6,C,rfl,C0,C1⟩
   clear c0 c1
   rintro σ' J2 ⟨wL,C,rfl,C0,C1⟩
   have yX:=wL _ _ tX
   have A3:=Paired.imp' (fun _ _ q=>cj.mono wL (fun _ z=>z) q) rW
   have yY:=sJ.trans wL
   refine⟨(by decide),fun Rw tZ=>?_⟩
   have A4:=Paired.imp' (fun _ _ q=>cj.not tZ q) A3
   have ve:H Rw=none:=yY.free tZ
   have yZ:Rw≠L:=fun q=>by rw[q,yX] at tZ;cases tZ
   (have s3:=ai (o:=HO.lst []) tZ;have q3:=ah (H:=J2) (a:=Rw) (o:=HO.lst []);generalize upd J2 Rw (HO.lst [])=J3 at s3 q3 ⊢)
   have A5:=s3 _ _ yX
   have A6:=Paired.imp' (fun _ _ q=>cj.mono s3 (fun _ z=>z) q) A4
   have A7:=yY.trans s3
   dsimp only[bP]
   refine⟨_,rfl,C,rfl,by omega,by omega,?_⟩
   refine gn (fun j σ G=>aA H G∧∃(r:List Str) (v7 v8:Option V),σ=[some (.ref a),some (.str ez),some (.int M),some (.ref L),some (.int (0+(i:Int))),some (.int C),some (.ref Rw),v7,v8,none,none,none]∧G L=some (.lst es)∧G Rw=some (.lst (r.map V.str))∧Paired (cj (fun b=>(H b=none∧b≠L)∧b≠Rw) G) es T∧(∀ c∈r,dZ c∧c.length≤401)∧r.length=j) ⟨A7,[],v7,v8,rfl,A5,q3,A6,(fun _ z=>nomatch z),rfl⟩ ?_ ?_
   ·rintro j σ G hj ⟨sG,r,w7,w8,rfl,rq,vf,t6,pM,hrl⟩
    have hj:j < 21:=by omega
    have t7:=sG _ _ ha
    have hlen:ez.cps.toList.length=95:=by rw[Array.length_toList];exact vd
    obtain⟨dd,ed,wM⟩:=fJ (xs:=ez.cps.toList) (i:=(n5+13 * (0+(i:Int))+(0+(j:Int))) % 95) (bX (by decide)) (by rw[hlen];exact bY (by decide))
    have m0:=bX (a:=n6+(0+(i:Int)) * (0+(i:Int))+(0+(j:Int))) (b:=3) (by decide)
    have m1:=bY (a:=n6+(0+(i:Int)) * (0+(i:Int))+(0+(j:Int))) (b:=3) (by decide)
    dsimp only[bP]
    refine⟨_,rfl,_,rfl,_,_,_,_,rfl,rfl,aD.of t7,rfl,_,rfl,_,_,rfl,rfl,.inl ⟨(by omega),(by omega)⟩,_,_,rfl,rfl,_,rfl,_,_,rfl,rfl,_,_,rfl,rfl,(by omega),_,_,_,rfl,rfl,(by rw[vd];decide),ed,_,rfl,.inl ⟨rfl,⟨_,aD.of vf⟩⟩,_,rfl,_,rfl,_,_,_,_,rfl,rfl,aD.of t7,rfl,_,rfl,_,rfl,_,_,rfl,rfl,.inl ⟨(by omega),(by omega)⟩,_,_,rfl,rfl,_,rfl,_,_,rfl,rfl,_,_,rfl,rfl,(by omega),?_⟩
    have ml:((n6+(0+(i:Int)) * (0+(i:Int))+(0+(j:Int))) % 3).toNat≤2:=by omega
    have rl:=lQ (sg dd) ((n6+(0+(i:Int)) * (0+(i:Int))+(0+(j:Int))) % 3).toNat
    refine⟨_,_,rfl,rfl,m0,by omega,?_,?_,Rw,_,_,rfl,rfl,vf,?_,?_⟩
    ·show 1 * ((n6+(0+(i:Int)) * (0+(i:Int))+(0+(j:Int))) % 3).toNat≤_;omega
    ·show 1≤_;decide
    ·rw[List.length_map];exact Nat.lt_of_le_of_lt (show r.length≤100 by omega) (by decide)
    refine⟨aJ ve sG,r++[dX (sg dd) ((n6+(0+(i:Int)) * (0+(i:Int))+(0+(j:Int))) % 3).toNat],_,_,rfl,(aH (Ne.symm yZ)).trans rq,by rw[List.map_append];exact ah,Paired.imp' (fun _ _ q=>cj.set (fun _ z=>z.2) q) t6,fun c hc=>?_,by rw[List.length_append,hrl];rfl⟩
    rcases List.mem_append.mp hc with q | q
    ·exact pM c q
    ·rw[List.mem_singleton.mp q]
     refine⟨nR fun b hb=>by rw[List.mem_singleton.mp (show b∈[dd] from hb)];exact yU dd wM,?_⟩
     rw[rl];show((n6+(0+(i:Int)) * (0+(i:Int))+(0+(j:Int))) % 3).toNat * 1≤401;omega
   ·rintro σ G ⟨sG,r,w7,w8,rfl,rq,vf,t6,pM,hrl⟩
    refine⟨_,rfl,.inl ⟨rfl,_,aD.of rq⟩,_,rfl,L,_,_,rfl,rfl,rq,?_,?_⟩
    ·exact Nat.lt_of_le_of_lt (show es.length≤100 by omega) (by decide)
    refine⟨aJ yV sG,es++[.ref Rw],T++[r],_,_,_,_,_,rfl,ah,Paired.imp' (fun _ _ q=>cj.set (fun _ z=>z.2) q) (cO (Paired.imp' (fun _ _ q=>cj.mono (aA.refl _) (fun _ z=>z.1) q) t6) ⟨Rw,rfl,⟨ve,yZ⟩,vf⟩),fun r' hr'=>?_,?_⟩
    ·rcases List.mem_append.mp hr' with q | q
     ·exact rm r' q
     ·rw[List.mem_singleton.mp q];exact⟨by omega,pM⟩
    ·rw[List.length_append,List.length_singleton,yW]
  rintro σ J ⟨sJ,es,T,v4,v5,v6,v7,v8,rfl,tX,rW,rm,yW⟩
  have pL:=sJ _ _ ha
  have hel:=rW.length
  have A8:T.length≤62:=by omega
  have fin:∀(t:List (List Str)) (G:Hp),aA H G→G L=some (.lst es)→Paired (cj (fun b=>H b=none∧b≠L) G) es t→(∀ r∈t,RowW r)→Q (.ref L) G:=fun t G s h1 h2 h3=>k L es t G s yV h1 h2 (by have:=h2.length;omega) h3
  have wN:(0:Int) < (if M > 1 then M else 1):=by split <;> omega
  refine⟨_,rfl,_,_,_,_,rfl,rfl,aD.of pL,rfl,_,_,rfl,rfl,⟨(by omega),(by omega)⟩,_,rfl,_,_,rfl,_,_,rfl,rfl,wN,_,rfl,_,_,_,_,rfl,rfl,aD.of pL,rfl,_,_,rfl,rfl,(by omega),rfl,_,rfl,?_⟩
  have za:=bX (a:=n3 / 64) wN
  have zb:=bY (a:=n3 / 64) wN
  dsimp only
  generalize n3 / 64 % (if M > 1 then M else 1)=A at za zb ⊢
  refine mJ (fun _=>?_) (fun _=>eB ⟨_,rfl,fin T J sJ tX rW rm⟩)
  refine⟨_,rfl,(by decide),fun l7 zc=>⟨_,_,_,rfl,rfl,aD.of (ai zc _ _ tX),aD.of ah,_,rfl,?_⟩⟩
  (have s7:=ai (o:=HO.lst []) zc;have q7:=ah (H:=J) (a:=l7) (o:=HO.lst []);generalize upd J l7 (HO.lst [])=J7 at s7 q7 ⊢)
  have wO:=s7 _ _ tX
  have wQ:=Paired.imp' (fun _ _ q=>cj.mono s7 (fun _ z=>z) q) rW
  have zd:=sJ.trans s7
  refine wH (fun hne=>?_) (fun _=>eB ⟨_,rfl,fin T J7 zd wO wQ rm⟩)
  have hne:=kR hne
  have A9:A < (es.length:Int):=by split at zb <;> omega
  obtain⟨x,ex,hx⟩:=fJ za A9
  obtain⟨r,hr,b,rfl,⟨hb0,ze⟩,hb⟩:=fQ wQ x hx
  have pM:=rm r hr
  refine⟨_,rfl,_,rfl,_,_,_,_,rfl,rfl,aD.of wO,ex,(by decide),fun l8 rX=>⟨_,_,_,rfl,rfl,aD.of (ai rX _ _ hb),aD.of ah,_,rfl,?_⟩⟩
  (have s8:=ai (o:=HO.lst []) rX;have q8:=ah (H:=J7) (a:=l8) (o:=HO.lst []);generalize upd J7 l8 (HO.lst [])=J8 at s8 q8 ⊢)
  have vg:=s8 _ _ wO
  have zf:=s8 _ _ hb
  have zg:=Paired.imp' (fun _ _ q=>cj.mono s8 (fun _ z=>z) q) wQ
  have wR:=zd.trans s8
  refine wH (fun t8=>?_) (fun _=>⟨_,rfl,fin T J8 wR vg zg rm⟩)
  have t8:=kR t8
  have hrl:(r.map V.str).length=r.length:=List.length_map ..
  have Ba:=wR _ _ ha
  have P0:=bX (a:=n7 / 4) (b:=((r.map V.str).length:Int)) (by omega)
  have P1:=bY (a:=n7 / 4) (b:=((r.map V.str).length:Int)) (by omega)
  refine⟨_,rfl,_,_,_,_,rfl,rfl,aD.of Ba,rfl,_,_,rfl,rfl,⟨(by omega),(by omega)⟩,_,rfl,_,rfl,L,_,_,_,rfl,rfl,aD.of vg,ex,b,_,rfl,.inl (aD.of zf),_,_,rfl,rfl,(by omega),?_⟩
  dsimp only[bP]
  generalize n7 / 4 % ((r.map V.str).length:Int)=P at P0 P1 ⊢
  obtain⟨p,rfl⟩:∃ p:Nat,P=(p:Int):=⟨P.toNat,by omega⟩
  have vh:p < r.length:=by omega
  have hix:mW (r.map V.str).length (p:Int)=some p:=by rw[hrl];unfold mW;rw[if_pos (by omega)];simp[vh]
  have wU:∀ z:Str,(r.map V.str).set p (.str z)=(r.set p z).map V.str:=fun z=>by rw[List.map_set]
  have hW:∀ z:Str,dZ z→z.length≤401→RowW (r.set p z):=fun z h1 h2=>⟨by rw[List.length_set];exact pM.1,fun c hc=>by
   rcases List.mem_or_eq_of_mem_set hc with q | rfl
   ·exact pM.2 c q
   ·exact⟨h1,h2⟩⟩
  refine⟨_,rfl,_,rfl,L,_,_,_,rfl,rfl,aD.of vg,ex,_,rfl,b,_,_,p,rfl,rfl,zf,hix,?_⟩
  rw[wU]
  obtain⟨T9,vj,wV⟩:=g8 (b:=b) (r':=r.set p ("":Str)) (hW _ kQ (by decide)) zg rm
  have vm:(upd J8 b (.lst ((r.set p ("":Str)).map V.str))) L=some (.lst es):=(aH (Ne.symm ze)).trans vg
  have zh:(upd J8 b (.lst ((r.set p ("":Str)).map V.str))) b=some (.lst ((r.set p ("":Str)).map V.str)):=ah
  have zj:aA H (upd J8 b (.lst ((r.set p ("":Str)).map V.str))):=aJ hb0 wR
  generalize upd J8 b (.lst ((r.set p ("":Str)).map V.str))=J9 at vj vm zh zj ⊢
  have wW:=vj.length
  refine⟨_,rfl,L,rfl,⟨_,aD.of vm⟩,fun D hD=>?_⟩
  refine bf (K:=K) (a:=L) (xs:=es) (fun i ys τ G=>(∃ v,τ=[v])∧aA J9 G∧G D=some (.lst ys)∧ys=((T9.map fun r=>(lens r).sum).take i).map fun n:Nat=>V.int n) ⟨⟨_,rfl⟩,ai hD,ah,rfl⟩ (fun i ys τ G _ p=>⟨aD.of (p.2.1 _ _ vm),p.2.2.1⟩) ?_ ?_
  ·rintro i e ys τ G hi ⟨⟨v,rfl⟩,s2,hl,rfl⟩
   have hil:i < es.length:=(List.getElem?_eq_some_iff.mp hi).1
   obtain⟨r2,hr2,c,rfl,_,hc⟩:=aM vj i e hi
   have pN:=wV r2 (List.mem_of_getElem? hr2)
   have zk:=s2 _ _ hc
   have hsum:(lens r2).sum≤8421:=by
    have h1:=fh fun c hc=>(pN.2 c hc).2
    have h2:=pN.1
    omega
   refine gw ?_
   refine⟨_,rfl,c,rfl,⟨_,aD.of zk⟩,fun E hE=>?_⟩
   refine bf (K:=K) (a:=c) (xs:=r2.map V.str) (fun i ys τ G2=>(∃ v,τ=[v])∧aA G G2∧G2 E=some (.lst ys)∧ys=((lens r2).take i).map fun n:Nat=>V.int n) ⟨⟨_,rfl⟩,ai hE,ah,rfl⟩ (fun i ys τ G2 _ p=>⟨aD.of (p.2.1 _ _ zk),p.2.2.1⟩) ?_ ?_
   ·rintro j e ys τ G2 hj ⟨⟨v,rfl⟩,s3,hl2,rfl⟩
    rw[List.getElem?_map] at hj
    cases hz:r2[j]? with
    | none=>rw[hz] at hj;cases hj
    | some z =>
     rw[hz] at hj
     cases hj
     have tU:=List.mem_of_getElem? hz
     have tV:=(pN.2 z tU).2
     have h21:=pN.1
     refine gw ?_
     refine⟨_,rfl,z,rfl,Nat.le_trans tV (by decide),hl2,?_,⟨_,rfl⟩,aJ hE s3,ah,?_⟩
     ·rw[List.length_map,List.length_take]
      unfold lens;rw[List.length_map]
      exact Nat.lt_of_le_of_lt (show _≤21 by omega) (by decide)
     ·rw[aN (l:=lens r2) (c:=z.length) (by unfold lens;rw[List.getElem?_map,hz];rfl),List.map_append];rfl
   ·rintro ys τ G2 ⟨⟨v,rfl⟩,s3,hl2,rfl⟩
    have e:(lens r2).take (r2.map V.str).length=lens r2:=List.take_of_length_le (by unfold lens;rw[List.length_map,List.length_map];exact Nat.le_refl _)
    rw[e] at hl2
    refine⟨E,lens r2,rfl,aD.of hl2,by omega,s3 _ _ hl,?_,⟨_,rfl⟩,aJ hD (s2.trans s3),ah,?_⟩
    ·rw[List.length_map,List.length_take,List.length_map]
     exact Nat.lt_of_le_of_lt (show _≤62 by omega) (by decide)
    ·rw[aN (l:=T9.map fun r=>(lens r).sum) (c:=(lens r2).sum) (by rw[List.getElem?_map,hr2];rfl),List.map_append];rfl
  rintro ys τ G ⟨⟨v,rfl⟩,s9,uZ,rfl⟩
  have e:(T9.map fun r=>(lens r).sum).take es.length=T9.map fun r=>(lens r).sum:=List.take_of_length_le (by rw[List.length_map,wW];exact Nat.le_refl _)
  rw[e] at uZ
  have hts:(T9.map fun r=>(lens r).sum).sum≤T9.length * 8421:=nV wV
  have rq:=s9 _ _ vm
  have Bb:=s9 _ _ zh
  have t6:=Paired.imp' (fun _ _ q=>cj.mono s9 (fun _ z=>z) q) vj
  have zl:=zj.trans s9
  have t7:=zl _ _ ha
  refine⟨D,_,rfl,aD.of uZ,by omega,?_⟩
  generalize (T9.map fun r=>(lens r).sum).sum=R9 at hts ⊢
  dsimp only[bP]
  have hlen:ez.cps.toList.length=95:=by rw[Array.length_toList];exact vd
  obtain⟨dd,ed,wM⟩:=fJ (xs:=ez.cps.toList) (i:=n8 % 95) (bX (by decide)) (by rw[hlen];exact bY (by decide))
  have x0:=bX (a:=n8 / 128) (b:=3) (by decide)
  have x1:=bY (a:=n8 / 128) (b:=3) (by decide)
  have c0:(0:Int)≤(if 399 - (R9:Int)+n8 / 128 % 3 > 0 then 399 - (R9:Int)+n8 / 128 % 3 else 0):=by split <;> omega
  have c1:(if 399 - (R9:Int)+n8 / 128 % 3 > 0 then 399 - (R9:Int)+n8 / 128 % 3 else 0)≤401:=by split <;> omega
  refine⟨_,rfl,_,rfl,_,_,_,_,rfl,rfl,aD.of t7,rfl,_,_,rfl,rfl,(by omega),_,_,_,rfl,rfl,?_,ed,_,rfl,_,_,rfl,rfl,_,rfl,_,_,_,_,rfl,rfl,aD.of t7,rfl,_,_,rfl,rfl,⟨(by omega),(by omega)⟩,_,_,rfl,rfl,(by omega),_,_,rfl,rfl,_,_,rfl,_,_,rfl,rfl,(by omega),(by omega),?_,?_,_,rfl,_,rfl,_,_,_,_,rfl,rfl,aD.of rq,ex,_,rfl,?_⟩
  ·rw[vd];decide
  ·show 1 * _≤_;omega
  ·show 1≤_;decide
  generalize (if 399 - (R9:Int)+n8 / 128 % 3 > 0 then 399 - (R9:Int)+n8 / 128 % 3 else 0)=cc at c0 c1 ⊢
  have rl:=lQ (sg dd) cc.toNat
  have t9:(r.set p ("":Str)).set p (dX (sg dd) cc.toNat)=r.set p (dX (sg dd) cc.toNat):=List.set_set ..
  have wX:mW ((r.set p ("":Str)).map V.str).length (p:Int)=some p:=by
   rw[List.length_map,List.length_set,←hrl];exact hix
  have ua:((r.set p ("":Str)).map V.str).set p (.str (dX (sg dd) cc.toNat))=(r.set p (dX (sg dd) cc.toNat)).map V.str:=(List.map_set (f:=V.str) (l:=r.set p ("":Str))).symm.trans (congrArg _ t9)
  have Bc:dZ (dX (sg dd) cc.toNat):=nR fun b hb=>by rw[List.mem_singleton.mp (show b∈[dd] from hb)];exact yU dd wM
  have lz:(dX (sg dd) cc.toNat).length≤401:=by rw[rl];show cc.toNat * 1≤401;omega
  obtain⟨Bd,wY,wZ⟩:=g8 (b:=b) (r':=r.set p (dX (sg dd) cc.toNat)) (hW _ Bc lz) t6 wV
  refine⟨b,_,_,p,rfl,rfl,Bb,wX,?_⟩
  have e:upd G b (.lst (((r.set p ("":Str)).map V.str).set p (.str (dX (sg dd) cc.toNat))))=upd G b (.lst ((r.set p (dX (sg dd) cc.toNat)).map V.str)):=by rw[ua]
  show sC (m5 3) _ _ (upd G b (.lst (((r.set p ("":Str)).map V.str).set p (.str (dX (sg dd) cc.toNat)))))
  rw[e]
  exact⟨_,rfl,fin Bd _ (aJ hb0 zl) ((aH (Ne.symm ze)).trans rq) wY wZ⟩
def eo (K:W.Frag):Sp:=fun vs H Q _=>∃(N:Addr→Prop) (l:Addr) (es:List V) (t:List (List Str)),vs=[.ref l]∧H l=some (.lst es)∧Paired (cj N H) es t∧(∀ r∈t,RowW r)∧t.length≤62∧∀ H',aA H H'→Q (.bl (nW t)) H'
theorem gM:aU P w K mg base dF 1 (bN 10) (bO 10) ["_law_table_here"] (eo K):=by
 refine T.eX.ok bU (fun vs H Q E h=>?_) (fun cdv A outer s H vs Q E hr h=>?_)
 ·obtain⟨N,l,es,t,rfl,_⟩:=h;rfl
 ·have hu:=cI hr
  have iR:=hr.bA
  obtain⟨N,l,es,t,rfl,hl,tr,hW,vn,k⟩:=h
  have hel:=tr.length
  have ek:nW t=(decide (t.length≤60) && t.all fu && decide (fS t≤400)):=rfl
  refine⟨_,(ao (ck (gT j0 (eT (aF K rfl) T.bZ (af (pv 0) ak aq)) aj) (az (aC cP)) aT)
   (ao (gv 1 bU.nd aj (hs:=gD))
   (ao (gZ PassesOwn.never rfl (aZ K rfl (pv 0)) (jd 2 bU.nd)
   (ao (ck (PW.pt (gA (gT jZ (eT (aF K rfl) T.bZ (af (pv 2) ak aq)) aj) (gk (gT j0 (eT (aF K rfl) T.bZ (af (pv 2) ak aq)) aj)))) (az (aC cP)) aT)
   (az (gv 1 bU.nd (av bI (pv 1) (eT (dJ K rfl rfl) T.iy (af (bC rfl (show aE ["_law_table_here", "_law_total", "_law_row"] (ay bq) ["_law_cell"] 1 [] _ from mL) (aZ K rfl (pv 2)) (fun _ _ _ _=>(jd 0 mK)) (fun _ _ _ _=>bB) (fun _ _ _ _=>(eT cR T.bZ (af (pv 0) ak aq)))) ak br))) (hs:=bu)))))
   (az (aC (qS ni (pv 1) aj)))))),?_⟩
  refine⟨_,rfl,l,_,rfl,.inl (aD.of hl),_,_,rfl,rfl,_,rfl,nM (fun h1=>?_) (fun h1=>?_)⟩
  ·rw[ek,decide_eq_false (by omega)] at k
   exact k H (aA.refl _)
  rw[ek,decide_eq_true (by omega),Bool.true_and] at k
  dsimp only[pV,bP]
  refine⟨_,rfl,l,rfl,⟨_,aD.of hl⟩,?_⟩
  refine jY (K:=K) (a:=l) (xs:=es) (fun i σ H2=>aA H H2∧∃ v,σ=[some (.ref l),some (.int (fS (t.take i):Nat)),v]∧∀ r∈t.take i,fu r=true) ⟨aA.refl _,_,rfl,fun _ z=>by rw[List.take_zero] at z;cases z⟩ (fun i σ H2 _ q=>aD.of (q.1 _ _ hl)) ?_ ?_
  ·rintro i x σ H2 hi ⟨s2,v,rfl,hgd⟩
   have hil:i < es.length:=(List.getElem?_eq_some_iff.mp hi).1
   obtain⟨r,hr,b,rfl,_,hb⟩:=aM tr i x hi
   have zm:=List.mem_of_getElem? hr
   have pN:=hW r zm
   have hb2:=s2 _ _ hb
   have hrl:(r.map V.str).length=r.length:=List.length_map ..
   have bad:fu r=false→Q (.bl false) H2:=fun e=>by
    have ea:t.all fu=false:=by
     rw[Bool.eq_false_iff]
     intro h
     rw[List.all_eq_true] at h
     rw[h r zm] at e;cases e
    rw[ea] at k
    exact k H2 s2
   have hsum:(lens r).sum≤8421:=by
    have h1:=fh fun c hc=>(pN.2 c hc).2
    have h2:=pN.1
    omega
   have htk:fS (t.take i)≤62 * 8421:=by
    have h1:=pH (t:=t.take i) fun r hr=>hW r (List.mem_of_mem_take hr)
    rw[List.length_take] at h1
    omega
   dsimp only[bP]
   refine⟨_,rfl,b,_,rfl,.inl (aD.of hb2),_,_,rfl,rfl,_,rfl,nM (fun h2=>gH (bad (decide_eq_false (by omega)))) (fun h2=>?_)⟩
   refine⟨_,rfl,b,_,rfl,.inl (aD.of hb2),_,_,rfl,rfl,_,rfl,nM (fun h3=>bad (decide_eq_false (by omega))) (fun h3=>?_)⟩
   refine⟨_,rfl,_,rfl,b,rfl,⟨_,aD.of hb2⟩,fun E hE=>?_⟩
   refine bf (K:=K) (a:=b) (xs:=r.map V.str) (fun i ys τ G2=>(∃ v,τ=[v])∧aA H2 G2∧G2 E=some (.lst ys)∧ys=((lens r).take i).map fun n:Nat=>V.int n) ⟨⟨_,rfl⟩,ai hE,ah,rfl⟩ (fun i ys τ G2 _ p=>⟨aD.of (p.2.1 _ _ hb2),p.2.2.1⟩) ?_ ?_
   ·rintro j e ys τ G2 hj ⟨⟨v,rfl⟩,s3,hl2,rfl⟩
    rw[List.getElem?_map] at hj
    cases hz:r[j]? with
    | none=>rw[hz] at hj;cases hj
    | some z =>
     rw[hz] at hj
     cases hj
     have tU:=List.mem_of_getElem? hz
     have tV:=(pN.2 z tU).2
     have h21:=pN.1
     refine gw ?_
     refine⟨_,rfl,z,rfl,Nat.le_trans tV (by decide),hl2,?_,⟨_,rfl⟩,aJ hE s3,ah,?_⟩
     ·rw[List.length_map,List.length_take]
      unfold lens;rw[List.length_map]
      exact Nat.lt_of_le_of_lt (show _≤21 by omega) (by decide)
     ·rw[aN (l:=lens r) (c:=z.length) (by unfold lens;rw[List.getElem?_map,hz];rfl),List.map_append];rfl
   ·rintro ys τ G2 ⟨⟨v,rfl⟩,s3,hl2,rfl⟩
    have e:(lens r).take (r.map V.str).length=lens r:=List.take_of_length_le (by unfold lens;rw[List.length_map,List.length_map];exact Nat.le_refl _)
    rw[e] at hl2
    refine⟨E,lens r,rfl,aD.of hl2,by omega,_,_,rfl,rfl,?_⟩
    refine⟨s2.trans s3,_,by rw[mO hr];rfl,fun r2 hr2=>?_⟩
    rw[aN hr] at hr2
    rcases List.mem_append.mp hr2 with q | q
    ·exact hgd r2 q
    ·rw[List.mem_singleton.mp q];exact decide_eq_true (by omega)
  ·rintro σ H2 ⟨s2,v,rfl,hgd⟩
   rw[hel,List.take_of_length_le (Nat.le_refl _)] at hgd ⊢
   have ea:t.all fu=true:=by rw[List.all_eq_true];exact hgd
   rw[ea,Bool.true_and] at k
   have e2:decide ((fS t:Int)≤400)=decide (fS t≤400):=decide_eq_decide.mpr (by omega)
   refine⟨_,rfl,_,_,rfl,rfl,?_⟩
   have kk:=k H2 s2
   rw[←e2] at kk
   exact kk
def eY (K:W.Frag):Sp:=fun vs H Q _=>∃(N:Addr→Prop) (l a:Addr) (es:List V) (t:List (List Str)) (ns:List Int),vs=[.ref l,.ref a]∧H l=some (.lst es)∧N l∧(∀ b,H b=none→N b)∧Paired (cj N H) es t∧(∀ r∈t,RowW r)∧t.length≤62∧H a=some (.lst (ns.map V.int))∧ns.length=12∧(∀ n∈ns,0≤n)∧∀(v:V) (u:Tr) (H':Hp),aA H H'→Rp N 3 H' v u→iM u=false→Q v H'
theorem iC:aU P w K mg base dF 1 (bN 11) (bO 11) ["_law_table_here", "_law_xs"] (eY K):=by
 refine T.fB.ok bK (fun vs H Q E h=>?_) (fun cdv A outer s H vs Q E hr h=>?_)
 ·obtain⟨N,l,a,es,t,ns,rfl,_⟩:=h;rfl
 ·have hu:=cI hr
  have iR:=hr.bA
  obtain⟨N,l,a,es,t,ns,rfl,hl,EO,hN,tr,hW,vn,ha,hn,hp,k⟩:=h
  have hn:ns.length=12:=hn
  obtain⟨n0,n1,n2,n3,n4,n5,n6,n7,n8,n9,lV,jh,rfl⟩:∃ n0 n1 n2 n3 n4 n5 n6 n7 n8 n9 lV jh,ns=[n0,n1,n2,n3,n4,n5,n6,n7,n8,n9,lV,jh]:=by
   match ns,hn with
   | [n0,n1,n2,n3,n4,n5,n6,n7,n8,n9,lV,jh],_=>exact⟨_,_,_,_,_,_,_,_,_,_,_,_,rfl⟩
  refine'⟨_,?aa,?bb⟩
  case aa =>
   refine' ao ?s0 ?r0
   case s0 =>
    exact(gv 2 bK.nd (av aK (ff K (pv 1) aj) aj) (hs:=bu))
   case r0 =>
    refine' ao ?s1 ?r1
    case s1 =>
     refine' ck ?c2 ?b2 ?e2
     case c2=>exact(gT eH (pv 2) aj)
     case b2 =>
      refine' az ?s3
      case s3 =>
       exact(aC (wI (g5 K rfl) T.oh (af (pv 0) ak aq)))
     case e2 =>
      exact aT
    case r1 =>
     refine' ao ?s4 ?r4
     case s4 =>
      refine' ck ?c5 ?b5 ?e5
      case c5=>exact(gT eH (pv 2) aj)
      case b5 =>
       refine' az ?s6
       case s6 =>
        refine' aC ?v7
        case v7 =>
         refine' ff K ?o8 ?i8 ?h8 ?k8
         case h8=>exact fun _ _=>rfl
         case k8=>exact rfl
         case o8 =>
          refine' aI ?a9
          case a9 =>
           refine' af ?Be ?Bf ?Bg
           case Bg=>exact au
           case Be =>
            exact gW
           case Bf =>
            refine' af ?w6 ?xg ?xh
            case xh=>exact au
            case w6 =>
             exact cP
            case xg =>
             refine' af ?Bh ?Bj ?Bk
             case Bk=>exact au
             case Bh =>
              exact aj
             case Bj =>
              refine' af ?xj ?xm ?xo
              case xo=>exact au
              case xj =>
               exact bx
              case xm =>
               refine' af ?Bl ?Bm ?Bo
               case Bo=>exact au
               case Bl =>
                exact bx
               case Bm =>
                refine' af ?xq ?xr ?xu
                case xu=>exact pA
                case xq =>
                 exact nP
                case xr =>
                 refine' af ?xw ?xx ?xy
                 case xy=>exact dh
                 case xw =>
                  refine' dR ?Bp
                  case Bp =>
                   exact ak
                 case xx =>
                  refine' af ?Bq ?Br ?Bs
                  case Bs=>exact cu
                  case Bq =>
                   exact(ff K (pv 1) aj)
                  case Br =>
                   exact ak
         case i8=>exact(av aK (av cQ (ff K (pv 1) aj) aj) aj)
      case e5 =>
       exact aT
     case r4 =>
      refine' ao ?Bt ?Bu
      case Bt =>
       refine' kC (i:=3) ?xA ?xB ?xC ?v20 ?xD ?xE
       case xA=>exact bK.nd
       case xB=>rfl
       case xC=>exact(by first | exact Or.inl rfl | exact Or.inr rfl)
       case xD=>exact gS
       case xE=>first | exact .inl rfl | exact .inr rfl | assumption
       case v20 =>
        refine' aI ?Bv
        case Bv =>
         refine' af ?Bw ?Bx ?By
         case By=>exact dh
         case Bw =>
          refine' dR ?BA
          case BA =>
           refine' af ?BB ?BC ?BD
           case BD=>exact au
           case BB =>
            exact bx
           case BC =>
            refine' af ?BE ?BF ?BG
            case BG=>exact au
            case BE =>
             exact bx
            case BF =>
             exact ak
         case Bx =>
          refine' af ?BH ?BI ?BJ
          case BJ=>exact au
          case BH =>
           exact bx
          case BI =>
           refine' af ?BK ?BL ?BN
           case BN=>exact au
           case BK =>
            exact gW
           case BL =>
            refine' af ?BO ?BP ?BQ
            case BQ=>exact bD
            case BO =>
             refine' aI ?BR
             case BR =>
              exact ak
            case BP =>
             refine' af ?BS ?BU ?BV
             case BV=>exact bD
             case BS =>
              refine' aI ?BW
              case BW =>
               refine' af ?BX ?BY ?BZ
               case BZ=>exact au
               case BX =>
                exact gW
               case BY =>
                exact ak
             case BU =>
              refine' af ?B0 ?B3 ?B4
              case B4=>exact bD
              case B0 =>
               refine' aI ?B5
               case B5 =>
                refine' af ?B6 ?B7 ?B8
                case B8=>exact au
                case B6 =>
                 exact aj
                case B7 =>
                 exact ak
              case B3 =>
               refine' af ?B9 ?Ca ?Cb
               case Cb=>exact bD
               case B9 =>
                refine' aI ?Cc
                case Cc =>
                 refine' af ?Cd ?Ce ?Cf
                 case Cf=>exact bD
                 case Cd =>
                  refine' aI ?Cg
                  case Cg =>
                   refine' af ?Ci ?Cj ?Ck
                   case Ck=>exact au
                   case Ci =>
                    exact bx
                   case Cj =>
                    exact ak
                 case Ce =>
                  exact ak
               case Ca =>
                refine' af ?Cm ?Cn ?Co
                case Co=>exact bD
                case Cm =>
                 refine' aI ?Cp
                 case Cp =>
                  refine' af ?Cq ?Cr ?Ct
                  case Ct=>exact au
                  case Cq =>
                   exact bx
                  case Cr =>
                   refine' af ?Cu ?Cv ?Cw
                   case Cw=>exact au
                   case Cu =>
                    exact bx
                   case Cv =>
                    exact ak
                case Cn =>
                 refine' af ?Cy ?Cz ?CA
                 case CA=>exact bD
                 case Cy =>
                  refine' aI ?CB
                  case CB =>
                   refine' af ?CC ?CD ?CF
                   case CF=>exact au
                   case CC =>
                    exact bx
                   case CD =>
                    refine' af ?CG ?CH ?CI
                    case CI=>exact au
                    case CG =>
                     exact cP
                    case CH =>
                     exact ak
                 case Cz =>
                  refine' af ?CJ ?CK ?CL
                  case CL=>exact bD
                  case CJ =>
                   refine' aI ?CM
                   case CM =>
                    refine' af ?CN ?CO ?CP
                    case CP=>exact dh
                    case CN =>
                     refine' dR ?CQ
                     case CQ =>
                      refine' af ?CS ?CT ?CU
                      case CU=>exact au
                      case CS =>
                       exact bx
                      case CT =>
                       exact ak
                    case CO =>
                     exact ak
                  case CK =>
                   exact ak
      case Bu =>
       refine' ao ?CV ?CW
       case CV =>
        exact(gv 4 bK.nd (av aK (ff K (pv 1) aj) (av bI (eT (aF K rfl) T.bZ (af (pv 0) ak aq)) aj)) (hs:=bu))
       case CW =>
        refine' ao ?CY ?CZ
        case CY =>
         refine' ck ?C2 ?C3 ?C4
         case C2=>exact(PW.pt (gm (gT eH (av aK (ff K (pv 1) aj) aj) aj) (gm (gT jZ (pv 4) (eT (aF K rfl) T.bZ (af (pv 0) ak aq))) (gP (gT (jt K rfl iR) (ff K (pv 0) (pv 4)) (aI ak))))))
         case C3 =>
          refine' ao ?C5 ?C6
          case C5 =>
           exact(gv 5 bK.nd (wI (iL K rfl) T.dB (af (ff K (pv 0) (pv 4)) ak cu)) (hs:=dw))
          case C6 =>
           refine' ao ?C7 ?C8
           case C7 =>
            exact(kB (ff K (aI (af gW (af aj (af cP (af (aI (af bx ak au)) (af bx (af (dR (af bx ak au)) ak dh) au) bD) au) au) au)) (av aK (av cQ (ff K (pv 1) aj) aj) aj)) (ku (pv 5) (av aK (ff K (pv 1) aj) (eT (aF K rfl) T.bZ (af (pv 5) ak aq))) set_list))
           case C8 =>
            refine' az ?C9
            case C9 =>
             exact(aC (av eN (av eN (cY (dg K rfl) (pv 0) dS (dU (pv 4))) (aI (af (pv 5) ak aq))) (cY (dg K rfl) (pv 0) (dU (av bI (pv 4) aj)) dS)))
         case C4 =>
          exact aT
        case CZ =>
         refine' ao ?Dc ?Dd
         case Dc =>
          refine' ck ?De ?Df ?Dg
          case De=>exact(PW.pt (gm (gT eH (av aK (pv 2) aj) aj) (gP (gT jZ (pv 4) (eT (aF K rfl) T.bZ (af (pv 0) ak aq))))))
          case Df =>
           refine' az ?Dh
           case Dh =>
            exact(aC (av eN (av eN (cY (dg K rfl) (pv 0) dS (dU (pv 4))) (aI (af (ff K (pv 3) (av jn (pv 2) aj)) ak cu))) (cY (dg K rfl) (pv 0) (dU (av bI (pv 4) aj)) dS)))
          case Dg =>
           exact aT
         case Dd =>
          refine' az ?Di
          case Di =>
           exact(aC (av eN (av eN (cY (dg K rfl) (pv 0) dS (dU (pv 4))) (aI (af (ff K (pv 3) (av jn (pv 2) aj)) ak cu))) (cY (dg K rfl) (pv 0) (dU (pv 4)) dS)))
  have hel:=tr.length
  have w0:=bX (a:=lV) (b:=12) (by decide)
  have w1:=bY (a:=lV) (b:=12) (by decide)
  refine⟨_,rfl,a,_,_,_,rfl,rfl,aD.of ha,rfl,_,_,rfl,rfl,(by omega),?_⟩
  dsimp only[bP]
  generalize lV % 12=W at w0 w1 ⊢
  have Dj:∀ x∈es,fO x=true∨∃ b,x=V.ref b:=fun x hx=>by
   obtain⟨r,_,b,rfl,_⟩:=fQ tr x hx
   exact .inr ⟨b,rfl⟩
  refine⟨_,rfl,rfl,_,rfl,mJ (fun e0=>?_) (fun e0=>?_)⟩
  ·refine⟨_,rfl,l,_,rfl,.inl ⟨aD.of hl,fun p hp1=>?_⟩⟩
   exact k (.ref p) (.leaf (.ref p)) _ (ai hp1) (Rp.leaf (.tup ah Dj)) rfl
  refine⟨_,rfl,rfl,_,rfl,mJ (fun e1=>?_) (fun e1=>?_)⟩
  ·refine fun d hd=>⟨(by decide),fun q hq=>⟨_,rfl,_,_,_,_,rfl,rfl,aD.of (ai hq _ _ (ai hd _ _ ha)),rfl,(by show(8:Nat)≤sizeLine;decide),fun p8 vo=>⟨_,rfl,_,_,_,_,rfl,rfl,aD.of (ai vo _ _ (ai hq _ _ (ai hd _ _ ha))),rfl,_,_,rfl,rfl,⟨(by omega),(by omega)⟩,_,_,rfl,rfl,(by omega),?_⟩⟩⟩
   (have s1:=ai (o:=HO.dK []) hd;have q1:=ah (H:=H) (a:=d) (o:=HO.dK []);generalize upd H d (HO.dK [])=H1 at s1 q1 hq vo ⊢;have s2:=ai (o:=HO.tup []) hq;have q2:=ah (H:=H1) (a:=q) (o:=HO.tup []);generalize upd H1 q (HO.tup [])=H2 at s2 q2 vo ⊢;have s3:=ai (o:=HO.lst [V.non,V.bl true,V.int 0,V.str ("":Str),V.str ("ab":Str),V.ref d,V.ref q,V.int jh]) vo;have q3:=ah (H:=H2) (a:=p8) (o:=HO.lst [V.non,V.bl true,V.int 0,V.str ("":Str),V.str ("ab":Str),V.ref d,V.ref q,V.int jh]);generalize upd H2 p8 (HO.lst [V.non,V.bl true,V.int 0,V.str ("":Str),V.str ("ab":Str),V.ref d,V.ref q,V.int jh])=H3 at s3 q3 ⊢)
   obtain⟨v,ev,hv⟩:=fJ (xs:=[V.non,.bl true,.int 0,.str ("":Str),.str ("ab":Str),.ref d,.ref q,.int jh]) (i:=jh / 8 % 8) (bX (by decide)) (bY (by decide))
   have xF:=s1.trans (s2.trans s3)
   refine⟨p8,_,_,v,rfl,rfl,aD.of q3,ev,?_⟩
   have kk:Lf H3 v→Q v H3:=fun h=>k v (.leaf v) H3 xF (Rp.leaf h) (by cases h <;> rfl)
   simp only[List.mem_cons,List.not_mem_nil,or_false] at hv
   rcases hv with rfl | rfl | rfl | rfl | rfl | rfl | rfl | rfl
   ·exact kk (.flat rfl fun z e=>by cases e)
   ·exact kk (.flat rfl fun z e=>by cases e)
   ·exact kk (.flat rfl fun z e=>by cases e)
   ·exact kk (.flat rfl fun z e=>by cases e;decide)
   ·exact kk (.flat rfl fun z e=>by cases e;decide)
   ·exact kk (.pG (s3 _ _ (s2 _ _ q1)))
   ·exact kk (.tup (s3 _ _ q2) fun _ z=>nomatch z)
   ·exact kk (.flat rfl fun z e=>by cases e)
  refine⟨(by decide),fun r1 h1=>⟨(by decide),fun r2 h2=>⟨(by decide),fun r3 h3=>⟨(by decide),fun r4 h4=>⟨(by decide),fun r5 h5=>⟨(by show(1:Nat)≤sizeLine;decide),fun r6 h6=>⟨(by decide),fun r7 h7=>⟨(by decide),fun r8 h8=>⟨(by decide),fun r9 h9=>⟨(by show(1:Nat)≤sizeLine;decide),fun qh oj=>⟨(by show(10:Nat)≤sizeLine;decide),fun vp h11=>?_⟩⟩⟩⟩⟩⟩⟩⟩⟩⟩⟩
  (have s1:=ai (o:=HO.tup [V.str ("a":Str),V.str ("b":Str)]) h1;have q1:=ah (H:=H) (a:=r1) (o:=HO.tup [V.str ("a":Str),V.str ("b":Str)]);generalize upd H r1 (HO.tup [V.str ("a":Str),V.str ("b":Str)])=H1 at s1 q1 h2 h3 h4 h5 h6 h7 h8 h9 oj h11 ⊢;have s2:=ai (o:=HO.lst []) h2;have q2:=ah (H:=H1) (a:=r2) (o:=HO.lst []);generalize upd H1 r2 (HO.lst [])=H2 at s2 q2 h3 h4 h5 h6 h7 h8 h9 oj h11 ⊢;have s3:=ai (o:=HO.lst [V.non]) h3;have q3:=ah (H:=H2) (a:=r3) (o:=HO.lst [V.non]);generalize upd H2 r3 (HO.lst [V.non])=H3 at s3 q3 h4 h5 h6 h7 h8 h9 oj h11 ⊢;have s4:=ai (o:=HO.lst [V.int 7]) h4;have q4:=ah (H:=H3) (a:=r4) (o:=HO.lst [V.int 7]);generalize upd H3 r4 (HO.lst [V.int 7])=H4 at s4 q4 h5 h6 h7 h8 h9 oj h11 ⊢;have s5:=ai (o:=HO.lst [V.str ("a":Str)]) h5;have q5:=ah (H:=H4) (a:=r5) (o:=HO.lst [V.str ("a":Str)]);generalize upd H4 r5 (HO.lst [V.str ("a":Str)])=H5 at s5 q5 h6 h7 h8 h9 oj h11 ⊢;have s6:=ai (o:=HO.lst [V.ref r5]) h6;have q6:=ah (H:=H5) (a:=r6) (o:=HO.lst [V.ref r5]);generalize upd H5 r6 (HO.lst [V.ref r5])=H6 at s6 q6 h7 h8 h9 oj h11 ⊢;have s7:=ai (o:=HO.lst [V.str ("a":Str),V.str (Str.ofString "b\tc")]) h7;have q7:=ah (H:=H6) (a:=r7) (o:=HO.lst [V.str ("a":Str),V.str (Str.ofString "b\tc")]);generalize upd H6 r7 (HO.lst [V.str ("a":Str),V.str (Str.ofString "b\tc")])=H7 at s7 q7 h8 h9 oj h11 ⊢;have s8:=ai (o:=HO.lst [V.str ("a":Str),V.bl true]) h8;have q8:=ah (H:=H7) (a:=r8) (o:=HO.lst [V.str ("a":Str),V.bl true]);generalize upd H7 r8 (HO.lst [V.str ("a":Str),V.bl true])=H8 at s8 q8 h9 oj h11 ⊢;have s9:=ai (o:=HO.tup [V.str ("a":Str)]) h9;have q9:=ah (H:=H8) (a:=r9) (o:=HO.tup [V.str ("a":Str)]);generalize upd H8 r9 (HO.tup [V.str ("a":Str)])=H9 at s9 q9 oj h11 ⊢;have qc:=ai (o:=HO.lst [V.ref r9]) oj;have u0:=ah (H:=H9) (a:=qh) (o:=HO.lst [V.ref r9]);generalize upd H9 qh (HO.lst [V.ref r9])=tw at qc u0 h11 ⊢;have xG:=ai (o:=HO.lst [V.ref r1,V.str ("ab":Str),V.non,V.ref r2,V.ref r3,V.ref r4,V.ref r6,V.ref r7,V.ref r8,V.ref qh]) h11;have zo:=ah (H:=tw) (a:=vp) (o:=HO.lst [V.ref r1,V.str ("ab":Str),V.non,V.ref r2,V.ref r3,V.ref r4,V.ref r6,V.ref r7,V.ref r8,V.ref qh]);generalize upd tw vp (HO.lst [V.ref r1,V.str ("ab":Str),V.non,V.ref r2,V.ref r3,V.ref r4,V.ref r6,V.ref r7,V.ref r8,V.ref qh])=vq at xG zo ⊢)
  have b1:=s1
  have b2:=b1.trans s2
  have b3:=b2.trans s3
  have b4:=b3.trans s4
  have b5:=b4.trans s5
  have b6:=b5.trans s6
  have b7:=b6.trans s7
  have b8:=b7.trans s8
  have b9:=b8.trans s9
  have xH:=b9.trans qc
  have rz:=xH.trans xG
  have zp:=xG
  have e9:=qc.trans zp
  have e8:=s9.trans e9
  have e7:=s8.trans e8
  have e6:=s7.trans e7
  have e5:=s6.trans e6
  have e4:=s5.trans e5
  have e3:=s4.trans e4
  have e2:=s3.trans e3
  have e1:=s2.trans e2
  have N2:N r2:=hN _ (b1.free h2)
  have N3:N r3:=hN _ (b2.free h3)
  have N4:N r4:=hN _ (b3.free h4)
  have N5:N r5:=hN _ (b4.free h5)
  have N6:N r6:=hN _ (b5.free h6)
  have N7:N r7:=hN _ (b6.free h7)
  have N8:N r8:=hN _ (b7.free h8)
  have Dk:N qh:=hN _ (b9.free oj)
  have zq:=rz _ _ ha
  have xJ:=rz _ _ hl
  have rA:∀{n:Nat}{G:Hp}{z:Str},z.length≤10000→Rp N n G (.str z) (.leaf (.str z)):=fun h=>fT rfl fun z e=>by cases e;exact h
  have Dl:∀ x∈[V.ref r1,.str ("ab":Str),.non,.ref r2,.ref r3,.ref r4,.ref r6,.ref r7,.ref r8,.ref qh],∃ u,Rp N 2 vq x u∧di u=false:=fun x hx=>by
   simp only[List.mem_cons,List.not_mem_nil,or_false] at hx
   rcases hx with rfl | rfl | rfl | rfl | rfl | rfl | rfl | rfl | rfl | rfl
   ·exact⟨_,Rp.leaf (.tup (e1 _ _ q1) fun x hx=>by simp only[List.mem_cons,List.not_mem_nil,or_false] at hx;rcases hx with rfl | rfl <;> exact .inl rfl),rfl⟩
   ·exact⟨_,rA (by decide),rfl⟩
   ·exact⟨_,fT rfl (fun z e=>by cases e),rfl⟩
   ·exact⟨_,Rp.lst (e2 _ _ q2) N2 (by decide) .nil,rfl⟩
   ·exact⟨_,Rp.lst (e3 _ _ q3) N3 (by decide) (.cons (fT rfl (fun z e=>by cases e)) .nil),rfl⟩
   ·exact⟨_,Rp.lst (e4 _ _ q4) N4 (by decide) (.cons (fT rfl (fun z e=>by cases e)) .nil),rfl⟩
   ·exact⟨_,Rp.lst (e6 _ _ q6) N6 (by show(1:Nat)≤1000;decide) (.cons (Rp.lst (e5 _ _ q5) N5 (by decide) (.cons (rA (by decide)) .nil)) .nil),rfl⟩
   ·exact⟨_,Rp.lst (e7 _ _ q7) N7 (by decide) (.cons (rA (by decide)) (.cons (rA (by decide)) .nil)),by decide +kernel⟩
   ·exact⟨_,Rp.lst (e8 _ _ q8) N8 (by decide) (.cons (rA (by decide)) (.cons (fT rfl (fun z e=>by cases e)) .nil)),by decide +kernel⟩
   ·exact⟨_,Rp.lst (zp _ _ u0) Dk (by show(1:Nat)≤1000;decide) (.cons (Rp.leaf (.tup (e9 _ _ q9) fun x hx=>by simp only[List.mem_cons,List.not_mem_nil,or_false] at hx;rcases hx with rfl <;> exact .inl rfl)) .nil),rfl⟩
  have A0:=bX (a:=jh) (b:=(es.length:Int)+1) (by omega)
  have A1:=bY (a:=jh) (b:=(es.length:Int)+1) (by omega)
  refine⟨_,rfl,a,_,_,_,rfl,rfl,aD.of zq,rfl,_,rfl,l,_,rfl,.inl (aD.of xJ),_,_,rfl,rfl,_,_,rfl,rfl,(by omega),?_⟩
  dsimp only[bP]
  generalize jh % ((es.length:Int)+1)=A at A0 A1 ⊢
  have fin:∀(G:Hp) (p:Addr) (x:V) (u:Tr) (B:Int),aA H G→G p=some (.lst (aL es none (some A)++[x]++aL es (some B) none))→N p→Rp N 2 G x u→di u=false→Q (.ref p) G:=fun G p x u B sG hp Dm hx hu=>by
   have all:∀ y∈es,∃ t,Rp N 2 G y t:=fun y hy=>by
    obtain⟨r,hr,hy⟩:=fQ (ju (n:=1) tr hW) y hy
    exact⟨r,hy.mono sG fun _ z=>z⟩
   obtain⟨ts,pq,hq⟩:=mP (fun y hy=>all y (lT hy)) (fun y hy=>all y (lT hy)) hx hu
   refine k _ _ G sG (Rp.lst hp Dm ?_ pq) hq
   have l1:=cL (xs:=es) (lo:=none) (hi:=some A)
   have l2:=cL (xs:=es) (lo:=some B) (hi:=none)
   rw[List.length_append,List.length_append,List.length_singleton];omega
  refine gx (t:=oE _ _ _) (fun σ' G=>aA vq G∧∃ v5,σ'=[some (.ref l),some (.ref a),some (.int W),some (.ref vp),some (.int A),v5]) ?_ (fun go=>?_)
  rotate_left
  ·refine⟨_,rfl,a,_,_,_,rfl,rfl,aD.of zq,rfl,_,_,rfl,rfl,(by omega),rfl,_,rfl,mJ (fun c1=>?_) (fun c1=>eB (go _ _ ⟨aA.refl _,_,rfl⟩))⟩
   refine⟨_,rfl,_,rfl,l,_,rfl,.inl (aD.of xJ),_,_,rfl,rfl,_,rfl,nM (fun c2=>?_) (fun c2=>eB (go _ _ ⟨aA.refl _,_,rfl⟩))⟩
   obtain⟨x,ex,hx⟩:=fJ A0 c2
   obtain⟨r,hr,b,rfl,ER,hb⟩:=fQ tr x hx
   have pM:=hW r hr
   have Dn:=rz _ _ hb
   have hrl:(r.map V.str).length=r.length:=List.length_map ..
   refine⟨_,rfl,_,rfl,l,_,_,_,rfl,rfl,aD.of xJ,ex,(by decide),fun l8 rX=>⟨_,_,_,rfl,rfl,aD.of (ai rX _ _ Dn),aD.of ah,_,rfl,wH (fun hne=>?_) (fun _=>go _ _ ⟨ai rX,_,rfl⟩)⟩⟩
   have hne:=kR hne
   (have t1:=ai (o:=HO.lst []) rX;have u1:=ah (H:=vq) (a:=l8) (o:=HO.lst []);generalize upd vq l8 (HO.lst [])=J1 at t1 u1 ⊢)
   have bJ:=rz.trans t1
   have pL:=bJ _ _ ha
   have Dp:=bJ _ _ hl
   have Dq:=bJ _ _ hb
   refine⟨_,rfl,_,rfl,_,_,_,_,rfl,rfl,aD.of Dp,ex,_,_,rfl,.inl (aD.of Dq),fun R hR=>⟨(by decide),fun x1 rY=>⟨(by decide),fun x2 rZ=>⟨(by show(6:Nat)≤sizeLine;decide),fun x3 uc=>⟨_,rfl,_,_,_,_,rfl,rfl,aD.of (ai uc _ _ (ai rZ _ _ (ai rY _ _ (ai hR _ _ pL)))),rfl,_,_,rfl,rfl,⟨(by omega),(by omega)⟩,_,_,rfl,rfl,(by omega),?_⟩⟩⟩⟩⟩
   (have t2:=ai (o:=HO.lst (List.map V.str r)) hR;have u2:=ah (H:=J1) (a:=R) (o:=HO.lst (List.map V.str r));generalize upd J1 R (HO.lst (List.map V.str r))=J2 at t2 u2 rY rZ uc ⊢;have t3:=ai (o:=HO.lst [V.str ("a":Str)]) rY;have u3:=ah (H:=J2) (a:=x1) (o:=HO.lst [V.str ("a":Str)]);generalize upd J2 x1 (HO.lst [V.str ("a":Str)])=J3 at t3 u3 rZ uc ⊢;have t4:=ai (o:=HO.tup [V.str ("a":Str)]) rZ;have u4:=ah (H:=J3) (a:=x2) (o:=HO.tup [V.str ("a":Str)]);generalize upd J3 x2 (HO.tup [V.str ("a":Str)])=J4 at t4 u4 uc ⊢;have t5:=ai (o:=HO.lst [V.non,V.int 7,V.bl true,V.ref x1,V.str (Str.ofString "a\tb"),V.ref x2]) uc;have u5:=ah (H:=J4) (a:=x3) (o:=HO.lst [V.non,V.int 7,V.bl true,V.ref x1,V.str (Str.ofString "a\tb"),V.ref x2]);generalize upd J4 x3 (HO.lst [V.non,V.int 7,V.bl true,V.ref x1,V.str (Str.ofString "a\tb"),V.ref x2])=J5 at t5 u5 ⊢)
   have NR:N R:=hN _ (bJ.free hR)
   have ve:H R=none:=bJ.free hR
   have Dr:N x1:=hN _ ((bJ.trans t2).free rY)
   have Ds:x1≠R:=fun q=>by rw[q,u2] at rY;cases rY
   have Dt:x2≠R:=fun q=>by rw[q,t3 _ _ u2] at rZ;cases rZ
   have b5:=bJ.trans (t2.trans (t3.trans (t4.trans t5)))
   have zu:=t5 _ _ (t4 _ _ (t3 _ _ u2))
   have Du:=b5 _ _ ha
   obtain⟨v,ev,hv⟩:=fJ (xs:=[V.non,.int 7,.bl true,.ref x1,.str ("a	b":Str),.ref x2]) (i:=jh / 64 % 6) (bX (by decide)) (bY (by decide))
   have P0:=bX (a:=n8) (b:=((r.map V.str).length:Int)) (by omega)
   have P1:=bY (a:=n8) (b:=((r.map V.str).length:Int)) (by omega)
   refine⟨x3,_,_,v,rfl,rfl,aD.of u5,ev,?_⟩
   refine⟨_,rfl,_,rfl,a,_,_,_,rfl,rfl,aD.of Du,rfl,_,rfl,R,_,rfl,.inl (aD.of zu),_,_,rfl,rfl,(by omega),?_⟩
   dsimp only
   generalize n8 % ((r.map V.str).length:Int)=P at P0 P1 ⊢
   obtain⟨p,rfl⟩:∃ p:Nat,P=(p:Int):=⟨P.toNat,by omega⟩
   have vh:p < r.length:=by omega
   have hix:mW (r.map V.str).length (p:Int)=some p:=by rw[hrl];unfold mW;rw[if_pos (by omega)];simp[vh]
   refine⟨R,_,_,p,rfl,rfl,zu,hix,?_⟩
   have b6:aA H (upd J5 R (.lst ((r.map V.str).set p v))):=aJ ve b5
   have u6:(upd J5 R (.lst ((r.map V.str).set p v))) R=some (.lst ((r.map V.str).set p v)):=ah
   have zv:(upd J5 R (.lst ((r.map V.str).set p v))) x1=_:=(aH Ds).trans (t5 _ _ (t4 _ _ u3))
   have zw:(upd J5 R (.lst ((r.map V.str).set p v))) x2=_:=(aH Dt).trans (t5 _ _ u4)
   generalize upd J5 R (.lst ((r.map V.str).set p v))=J6 at b6 u6 zv zw ⊢
   have Dv:∃ u,Rp N 1 J6 v u∧bR u=false:=by
    simp only[List.mem_cons,List.not_mem_nil,or_false] at hv
    rcases hv with rfl | rfl | rfl | rfl | rfl | rfl
    ·exact⟨_,fT rfl (fun z e=>by cases e),rfl⟩
    ·exact⟨_,fT rfl (fun z e=>by cases e),rfl⟩
    ·exact⟨_,fT rfl (fun z e=>by cases e),rfl⟩
    ·exact⟨_,Rp.lst zv Dr (by decide) (.cons (rA (by decide)) .nil),rfl⟩
    ·exact⟨_,rA (by decide),by decide +kernel⟩
    ·exact⟨_,Rp.leaf (.tup zw fun x hx=>by simp only[List.mem_cons,List.not_mem_nil,or_false] at hx;rcases hx with rfl <;> exact .inl rfl),rfl⟩
   obtain⟨u,hu,Dw⟩:=Dv
   obtain⟨cs,pq,hq⟩:=pI vh pM hu Dw
   have xK:Rp N 2 J6 (.ref R) (.list cs):=Rp.lst u6 NR (by rw[List.length_set,List.length_map];have:=pM.1;omega) pq
   have tY:=b6 _ _ hl
   have l1:=cL (xs:=es) (lo:=none) (hi:=some A)
   have l3:=cL (xs:=es) (lo:=some (A+1)) (hi:=none)
   refine⟨_,rfl,_,rfl,_,rfl,_,_,rfl,aD.of tY,fun y1 k1=>⟨_,rfl,(by show(1:Nat)≤sizeLine;decide),fun y2 k2=>⟨_,_,_,_,rfl,rfl,(ai k2 _ _ ah),ah,?_,fun y3 k3=>⟨_,rfl,_,rfl,_,_,rfl,rfl,_,rfl,_,_,rfl,aD.of (ai k3 _ _ (ai k2 _ _ (ai k1 _ _ tY))),fun y4 k4=>⟨_,_,_,_,rfl,rfl,(ai k4 _ _ ah),ah,?_,fun y5 k5=>?_⟩⟩⟩⟩⟩
   ·exact Nat.le_trans (m:=200) (by simp only[List.length_append,List.length_cons,List.length_nil];omega) (by decide)
   ·exact Nat.le_trans (m:=200) (by simp only[List.length_append,List.length_cons,List.length_nil];omega) (by decide)
   (have z1:=ai (o:=HO.lst (aL es none (some A))) k1;have w1:=ah (H:=J6) (a:=y1) (o:=HO.lst (aL es none (some A)));generalize upd J6 y1 (HO.lst (aL es none (some A)))=G1 at z1 w1 k2 k3 k4 k5 ⊢;have z2:=ai (o:=HO.lst [V.ref R]) k2;have w2:=ah (H:=G1) (a:=y2) (o:=HO.lst [V.ref R]);generalize upd G1 y2 (HO.lst [V.ref R])=G2 at z2 w2 k3 k4 k5 ⊢;have z3:=ai (o:=HO.lst (aL es none (some A)++[V.ref R])) k3;have w3:=ah (H:=G2) (a:=y3) (o:=HO.lst (aL es none (some A)++[V.ref R]));generalize upd G2 y3 (HO.lst (aL es none (some A)++[V.ref R]))=G3 at z3 w3 k4 k5 ⊢;have z4:=ai (o:=HO.lst (aL es (some (A+1)) none)) k4;have w4:=ah (H:=G3) (a:=y4) (o:=HO.lst (aL es (some (A+1)) none));generalize upd G3 y4 (HO.lst (aL es (some (A+1)) none))=G4 at z4 w4 k5 ⊢;have z5:=ai (o:=HO.lst (aL es none (some A)++[V.ref R]++aL es (some (A+1)) none)) k5;have w5:=ah (H:=G4) (a:=y5) (o:=HO.lst (aL es none (some A)++[V.ref R]++aL es (some (A+1)) none));generalize upd G4 y5 (HO.lst (aL es none (some A)++[V.ref R]++aL es (some (A+1)) none))=G5 at z5 w5 ⊢)
   have bz:=b6.trans (z1.trans (z2.trans (z3.trans z4)))
   exact fin G5 y5 (.ref R) _ _ (bz.trans z5) w5 (hN _ (bz.free k5)) (xK.mono (z1.trans (z2.trans (z3.trans (z4.trans z5)))) fun _ z=>z) hq
  rintro σ' G ⟨sG,v5,rfl⟩
  have bG:=rz.trans sG
  have ud:=bG _ _ hl
  have uf:=sG _ _ zo
  obtain⟨x,ex,hx⟩:=fJ (xs:=[V.ref r1,.str ("ab":Str),.non,.ref r2,.ref r3,.ref r4,.ref r6,.ref r7,.ref r8,.ref qh]) (i:=W - 2) (by omega) (by show W - 2 < 10;omega)
  obtain⟨u,hu,hb⟩:=Dl x hx
  have zx:=hu.mono sG (fun _ z=>z)
  refine gx (t:=oE _ _ _) (fun σ' G'=>G'=G∧σ'=[some (.ref l),some (.ref a),some (.int W),some (.ref vp),some (.int A),v5]) ?_ (fun go=>?_)
  rotate_left
  ·refine⟨_,rfl,_,_,rfl,rfl,(by omega),rfl,_,rfl,mJ (fun c1=>?_) (fun c1=>eB (go _ _ ⟨rfl,rfl⟩))⟩
   refine⟨_,rfl,_,rfl,l,_,rfl,.inl (aD.of ud),_,_,rfl,rfl,_,rfl,nM (fun c2=>?_) (fun c2=>go _ _ ⟨rfl,rfl⟩)⟩
   have l1:=cL (xs:=es) (lo:=none) (hi:=some A)
   have l2:=cL (xs:=es) (lo:=some A) (hi:=none)
   have l3:=cL (xs:=es) (lo:=some (A+1)) (hi:=none)
   refine⟨_,rfl,_,rfl,_,rfl,_,_,rfl,aD.of ud,fun y1 k1=>⟨_,rfl,_,rfl,_,_,rfl,rfl,_,_,_,_,rfl,rfl,aD.of (ai k1 _ _ uf),ex,(by show(1:Nat)≤sizeLine;decide),fun y2 k2=>⟨_,_,_,_,rfl,rfl,(ai k2 _ _ ah),ah,?_,fun y3 k3=>⟨_,rfl,_,rfl,_,_,rfl,rfl,_,rfl,_,_,rfl,aD.of (ai k3 _ _ (ai k2 _ _ (ai k1 _ _ ud))),fun y4 k4=>⟨_,_,_,_,rfl,rfl,(ai k4 _ _ ah),ah,?_,fun y5 k5=>?_⟩⟩⟩⟩⟩
   ·exact Nat.le_trans (m:=200) (by simp only[List.length_append,List.length_cons,List.length_nil];omega) (by decide)
   ·exact Nat.le_trans (m:=200) (by simp only[List.length_append,List.length_cons,List.length_nil];omega) (by decide)
   (have t1:=ai (o:=HO.lst (aL es none (some A))) k1;have u1:=ah (H:=G) (a:=y1) (o:=HO.lst (aL es none (some A)));generalize upd G y1 (HO.lst (aL es none (some A)))=G1 at t1 u1 k2 k3 k4 k5 ⊢;have t2:=ai (o:=HO.lst [x]) k2;have u2:=ah (H:=G1) (a:=y2) (o:=HO.lst [x]);generalize upd G1 y2 (HO.lst [x])=G2 at t2 u2 k3 k4 k5 ⊢;have t3:=ai (o:=HO.lst (aL es none (some A)++[x])) k3;have u3:=ah (H:=G2) (a:=y3) (o:=HO.lst (aL es none (some A)++[x]));generalize upd G2 y3 (HO.lst (aL es none (some A)++[x]))=G3 at t3 u3 k4 k5 ⊢;have t4:=ai (o:=HO.lst (aL es (some (A+1)) none)) k4;have u4:=ah (H:=G3) (a:=y4) (o:=HO.lst (aL es (some (A+1)) none));generalize upd G3 y4 (HO.lst (aL es (some (A+1)) none))=G4 at t4 u4 k5 ⊢;have t5:=ai (o:=HO.lst (aL es none (some A)++[x]++aL es (some (A+1)) none)) k5;have u5:=ah (H:=G4) (a:=y5) (o:=HO.lst (aL es none (some A)++[x]++aL es (some (A+1)) none));generalize upd G4 y5 (HO.lst (aL es none (some A)++[x]++aL es (some (A+1)) none))=G5 at t5 u5 ⊢)
   have bz:=bG.trans (t1.trans (t2.trans (t3.trans t4)))
   exact fin G5 y5 x u _ (bz.trans t5) u5 (hN _ (bz.free k5)) ((zx.mono (t1.trans (t2.trans (t3.trans (t4.trans t5)))) fun _ z=>z)) hb
  rintro σ' G' ⟨rfl,rfl⟩
  have l1:=cL (xs:=es) (lo:=none) (hi:=some A)
  have l2:=cL (xs:=es) (lo:=some A) (hi:=none)
  have l3:=cL (xs:=es) (lo:=some (A+1)) (hi:=none)
  refine⟨_,rfl,_,rfl,_,rfl,_,_,rfl,aD.of ud,fun y1 k1=>⟨_,rfl,_,rfl,_,_,rfl,rfl,_,_,_,_,rfl,rfl,aD.of (ai k1 _ _ uf),ex,(by show(1:Nat)≤sizeLine;decide),fun y2 k2=>⟨_,_,_,_,rfl,rfl,(ai k2 _ _ ah),ah,?_,fun y3 k3=>⟨_,rfl,_,rfl,_,rfl,_,_,rfl,aD.of (ai k3 _ _ (ai k2 _ _ (ai k1 _ _ ud))),fun y4 k4=>⟨_,_,_,_,rfl,rfl,(ai k4 _ _ ah),ah,?_,fun y5 k5=>?_⟩⟩⟩⟩⟩
  ·exact Nat.le_trans (m:=200) (by simp only[List.length_append,List.length_cons,List.length_nil];omega) (by decide)
  ·exact Nat.le_trans (m:=200) (by simp only[List.length_append,List.length_cons,List.length_nil];omega) (by decide)
  (have t1:=ai (o:=HO.lst (aL es none (some A))) k1;have u1:=ah (H:=G') (a:=y1) (o:=HO.lst (aL es none (some A)));generalize upd G' y1 (HO.lst (aL es none (some A)))=G1 at t1 u1 k2 k3 k4 k5 ⊢;have t2:=ai (o:=HO.lst [x]) k2;have u2:=ah (H:=G1) (a:=y2) (o:=HO.lst [x]);generalize upd G1 y2 (HO.lst [x])=G2 at t2 u2 k3 k4 k5 ⊢;have t3:=ai (o:=HO.lst (aL es none (some A)++[x])) k3;have u3:=ah (H:=G2) (a:=y3) (o:=HO.lst (aL es none (some A)++[x]));generalize upd G2 y3 (HO.lst (aL es none (some A)++[x]))=G3 at t3 u3 k4 k5 ⊢;have t4:=ai (o:=HO.lst (aL es (some A) none)) k4;have u4:=ah (H:=G3) (a:=y4) (o:=HO.lst (aL es (some A) none));generalize upd G3 y4 (HO.lst (aL es (some A) none))=G4 at t4 u4 k5 ⊢;have t5:=ai (o:=HO.lst (aL es none (some A)++[x]++aL es (some A) none)) k5;have u5:=ah (H:=G4) (a:=y5) (o:=HO.lst (aL es none (some A)++[x]++aL es (some A) none));generalize upd G4 y5 (HO.lst (aL es none (some A)++[x]++aL es (some A) none))=G5 at t5 u5 ⊢)
  have bz:=bG.trans (t1.trans (t2.trans (t3.trans t4)))
  exact fin G5 y5 x u _ (bz.trans t5) u5 (hN _ (bz.free k5)) ((zx.mono (t1.trans (t2.trans (t3.trans (t4.trans t5)))) fun _ z=>z)) hb
def fG (K:W.Frag):Sp:=fun vs H Q _=>∃(c:Int),vs=[.int c]∧∀(p:Addr) (v:V) (t:Tr) (H':Hp),H' p=some (.tup [v,.bl (iM t)])→Rp (fun b=>H b=none) 3 H' v t→aA H H'→Q (.ref p) H'
theorem iW:aU P w K mg base dF 3 (bN 12) (bO 12) ["_law_cell"] (fG K):=by
 have jJ:aU P w K mg base dF 2 (bN 7) (bO 7) ["_law_cell", "_law_many"] fD:=iT T
 have iD:aU P w K mg base dF 1 (bN 10) (bO 10) ["_law_table_here"] (eo K):=gM T
 have iX:aU P w K mg base dF 1 (bN 11) (bO 11) ["_law_table_here", "_law_xs"] (eY K):=iC T
 have jK:aU P w K mg base dF 2 (bN 9) (bO 9) ["_law_xs"] (fF K):=iV T
 refine T.f7.ok dH (fun vs H Q E h=>?_) (fun cdv A outer s H vs Q E hr h=>?_)
 ·obtain⟨c,rfl,_⟩:=h;rfl
 ·have hu:=cI hr
  have iR:=hr.bA
  obtain⟨c,rfl,k⟩:=h
  refine⟨_,(ao (gv 1 dH.nd (kc jJ hr T.jz T.fX.kp T.jy (af (pv 0) (af aj ak au) aq)) (hs:=dw))
   (ao (gv 2 dH.nd (kc jK hr T.jD T.fZ.kp T.jC (af (pv 1) ak aq)) (hs:=dw))
   (ao (ck (gT eH (av aK (ff K (pv 1) aj) aj) aj) (az (aC (dR (af (kc iX hr T.iP T.fB.kp T.iO (af (pv 2) (af (pv 1) ak aq) aq)) (af cP ak au) lP)))) aT)
   (az (aC (dR (af (pv 2) (af (kc iD hr T.iw T.eX.kp T.iu (af (pv 2) ak aq)) ak lP) aq))))))),?_⟩
  refine⟨_,rfl,c,12,rfl,by decide,by decide,fun a ns H1 hn hp _ ha s1=>?_⟩
  dsimp only[bP]
  refine⟨_,rfl,a,ns,rfl,ha,hn,hp,fun l es t H2 s2 ou hl tr vn hW=>?_⟩
  have hn0:ns.length=12:=hn
  have hp0:=hp
  have ha0:=ha
  have hn:ns.length=12:=hn
  obtain⟨n0,n1,n2,n3,n4,n5,n6,n7,n8,n9,lV,jh,rfl⟩:∃ n0 n1 n2 n3 n4 n5 n6 n7 n8 n9 lV jh,ns=[n0,n1,n2,n3,n4,n5,n6,n7,n8,n9,lV,jh]:=by
   match ns,hn with
   | [n0,n1,n2,n3,n4,n5,n6,n7,n8,n9,lV,jh],_=>exact⟨_,_,_,_,_,_,_,_,_,_,_,_,rfl⟩
  dsimp only[bP]
  have ha2:=s2 _ _ ha
  have s12:=s1.trans s2
  have xM:Paired (cj (fun b=>H b=none) H2) es t:=Paired.imp' (fun _ _ q=>cj.mono (aA.refl _) (fun b z=>none_of s1 z.1) q) tr
  have hel:=tr.length
  refine⟨_,rfl,a,_,_,_,rfl,rfl,aD.of ha2,rfl,_,_,rfl,rfl,(by omega),rfl,_,rfl,mJ (fun e0=>?_) (fun e0=>?_)⟩
  ·refine⟨_,rfl,_,rfl,fun b=>H b=none,l,a,es,t,_,rfl,hl,none_of s1 ou,fun b hb=>none_of s12 hb,xM,hW,vn,ha2,hn0,hp0,fun v u H3 s3 hu hf=>?_⟩
   refine⟨(by show(2:Nat)≤sizeLine;decide),fun p hp1=>?_⟩
   refine k p v u _ ?_ (hu.mono (ai hp1) fun _ z=>z) ((s12.trans s3).trans (ai hp1))
   rw[hf];exact ah
  ·refine⟨_,rfl,_,rfl,fun b=>H b=none,l,es,t,rfl,hl,xM,hW,vn,fun H3 s3=>?_⟩
   refine⟨(by show(2:Nat)≤sizeLine;decide),fun p hp1=>?_⟩
   refine k p (.ref l) (tR t) _ ?_ ?_ ((s12.trans s3).trans (ai hp1))
   ·rw[qW hW];exact ah
   ·exact Rp.mono (s3.trans (ai hp1)) (fun _ z=>z) (Rp.lst hl (none_of s1 ou) (by omega) (ju (n:=1) xM hW))
def aR (K:W.Frag) (d:Nat):Sp:=fun vs H Q _=>∃(N:Addr→Prop) (v:V) (t:Tr),vs=[v]∧Rp N d H v t∧∀ w H',aA H H'→Rp (fun a=>H a=none) d H' w t→Q w H'
theorem gc:aU P w K mg base dF 1 (bN 13) (bO 13) ["_law_thing_here"] (aR K 0):=by
 have aQ:aU P w K mg base dF 0 (bN 13) (bO 13) ["_law_thing_here"] (fun _ _ _ _=>False):=⟨fun _ _ _ _ h=>h.elim,fun _ _ _ _ _ _ _ _ _ _ _ _ _ h=>h.elim⟩
 refine T.aP.ok cC (fun vs H Q E h=>?_) (fun cdv A outer s H vs Q E hr h=>?_)
 ·obtain⟨N,v,t,rfl,_⟩:=h;rfl
 ·have hu:=cI hr
  have iR:=hr.bA
  obtain⟨N,v,t,rfl,⟨rfl,hv⟩,k⟩:=h
  refine⟨_,(ao (ck (dP (eT (aY K rfl) T.aV (af (pv 0) (af (qd "list" T.dB) ak aq) aq))) (az (aC (bC rfl (show aE ["_law_thing_here"] (ay aO) ["_law_one"] 1 [] _ from mL) (aZ K rfl (pv 0)) (fun _ _ _ _=>(jd 0 mK)) (fun _ _ _ _=>bB) (fun _ _ _ _=>(kc aQ hr T.bT T.aP.kp T.bS (af (pv 0) ak aq)))))) aT)
   (az (aC (pv 0)))),?_⟩
  rcases Rp.cB K (N:=N) (n:=0) ⟨rfl,hv⟩ with ⟨_,_,_,_,e,_⟩ | ⟨ty,hty,ht,_,_⟩
  ·cases e
  exact⟨_,rfl,_,_,_,false,rfl,hty,.inl ⟨_,rfl,ht⟩,false,rfl,eB ⟨_,rfl,k _ _ (aA.refl _) (Rp.leaf hv)⟩⟩
theorem gf:aU P w K mg base dF 2 (bN 13) (bO 13) ["_law_thing_here"] (aR K 1):=by
 have aQ:aU P w K mg base dF 1 (bN 13) (bO 13) ["_law_thing_here"] (aR K 0):=gc T
 refine T.aP.ok cC (fun vs H Q E h=>?_) (fun cdv A outer s H vs Q E hr h=>?_)
 ·obtain⟨N,v,t,rfl,_⟩:=h;rfl
 ·have hu:=cI hr
  have iR:=hr.bA
  obtain⟨N,v,t,rfl,hv,k⟩:=h
  refine⟨_,(ao (ck (dP (eT (aY K rfl) T.aV (af (pv 0) (af (qd "list" T.dB) ak aq) aq))) (az (aC (bC rfl (show aE ["_law_thing_here"] (ay aO) ["_law_one"] 1 [] _ from mL) (aZ K rfl (pv 0)) (fun _ _ _ _=>(jd 0 mK)) (fun _ _ _ _=>bB) (fun _ _ _ _=>(kc aQ hr T.bT T.aP.kp T.bS (af (pv 0) ak aq)))))) aT)
   (az (aC (pv 0)))),?_⟩
  rcases hv.cB K with ⟨m,a,xs,ts,em,rfl,rfl,ha,hN,ou,ps⟩ | ⟨ty,hty,ht,rfl,hw⟩
  rotate_left
  ·exact⟨_,rfl,_,_,_,false,rfl,hty,.inl ⟨_,rfl,ht⟩,false,rfl,eB ⟨_,rfl,k _ _ (aA.refl _) (Rp.leaf hw)⟩⟩
  cases em
  have hlx:=ps.length
  refine⟨_,rfl,_,_,_,true,rfl,.lst ha,.inl ⟨_,rfl,rfl⟩,true,rfl,gH ?_⟩
  refine⟨_,rfl,a,rfl,⟨_,aD.of ha⟩,fun D hD=>?_⟩
  refine bf (K:=K) (a:=a) (xs:=xs) (fun i ys τ H2=>(∃ v,τ=[v])∧aA H H2∧H2 D=some (.lst ys)∧Paired (Rp (fun b=>H b=none∧b≠D) (1 - 1) H2) ys (ts.take i)) ⟨⟨_,rfl⟩,ai hD,ah,.nil⟩ (fun i ys τ H2 _ p=>⟨aD.of (p.2.1 _ _ ha),p.2.2.1⟩) ?_ ?_
  ·rintro i e ys τ H2 hi ⟨⟨v,rfl⟩,s2,hl,hy⟩
   have hil:i < xs.length:=(List.getElem?_eq_some_iff.mp hi).1
   have hyl:=hy.length
   rw[List.length_take] at hyl
   obtain⟨r,hr,hb⟩:=aM ps i e hi
   refine gw ?_
   refine⟨_,rfl,N,e,r,rfl,hb.mono s2 (fun _ z=>z),fun w H3 s3 hw=>⟨s3 _ _ hl,?_,⟨_,rfl⟩,aJ hD (s2.trans s3),ah,?_⟩⟩
   ·exact Nat.lt_of_le_of_lt (show _≤1000 by omega) (by decide)
   ·rw[aN hr]
    refine cO (Paired.imp' (fun _ _ q=>?_) hy) ?_
    ·exact Rp.set (s3 _ _ hl) (fun _ z=>z.2) (q.mono s3 fun _ z=>z)
    ·exact Rp.set (s3 _ _ hl) (fun _ z=>z.2) (hw.mono (aA.refl _) fun b z=>⟨none_of s2 z,fun z2=>by subst z2;rw[hl] at z;cases z⟩)
  ·rintro ys τ H2 ⟨⟨v,rfl⟩,s2,hl,hy⟩
   rw[hlx,List.take_of_length_le (Nat.le_refl _)] at hy
   exact k _ _ s2 (Rp.lst hl hD (by rw[hy.length,←hlx];exact ou) (Paired.imp' (fun _ _ q=>q.mono (aA.refl _) fun _ z=>z.1) hy))
theorem gg:aU P w K mg base dF 3 (bN 13) (bO 13) ["_law_thing_here"] (aR K 2):=by
 have aQ:aU P w K mg base dF 2 (bN 13) (bO 13) ["_law_thing_here"] (aR K 1):=gf T
 refine T.aP.ok cC (fun vs H Q E h=>?_) (fun cdv A outer s H vs Q E hr h=>?_)
 ·obtain⟨N,v,t,rfl,_⟩:=h;rfl
 ·have hu:=cI hr
  have iR:=hr.bA
  obtain⟨N,v,t,rfl,hv,k⟩:=h
  refine⟨_,(ao (ck (dP (eT (aY K rfl) T.aV (af (pv 0) (af (qd "list" T.dB) ak aq) aq))) (az (aC (bC rfl (show aE ["_law_thing_here"] (ay aO) ["_law_one"] 1 [] _ from mL) (aZ K rfl (pv 0)) (fun _ _ _ _=>(jd 0 mK)) (fun _ _ _ _=>bB) (fun _ _ _ _=>(kc aQ hr T.bT T.aP.kp T.bS (af (pv 0) ak aq)))))) aT)
   (az (aC (pv 0)))),?_⟩
  rcases hv.cB K with ⟨m,a,xs,ts,em,rfl,rfl,ha,hN,ou,ps⟩ | ⟨ty,hty,ht,rfl,hw⟩
  rotate_left
  ·exact⟨_,rfl,_,_,_,false,rfl,hty,.inl ⟨_,rfl,ht⟩,false,rfl,eB ⟨_,rfl,k _ _ (aA.refl _) (Rp.leaf hw)⟩⟩
  cases em
  have hlx:=ps.length
  refine⟨_,rfl,_,_,_,true,rfl,.lst ha,.inl ⟨_,rfl,rfl⟩,true,rfl,gH ?_⟩
  refine⟨_,rfl,a,rfl,⟨_,aD.of ha⟩,fun D hD=>?_⟩
  refine bf (K:=K) (a:=a) (xs:=xs) (fun i ys τ H2=>(∃ v,τ=[v])∧aA H H2∧H2 D=some (.lst ys)∧Paired (Rp (fun b=>H b=none∧b≠D) (2 - 1) H2) ys (ts.take i)) ⟨⟨_,rfl⟩,ai hD,ah,.nil⟩ (fun i ys τ H2 _ p=>⟨aD.of (p.2.1 _ _ ha),p.2.2.1⟩) ?_ ?_
  ·rintro i e ys τ H2 hi ⟨⟨v,rfl⟩,s2,hl,hy⟩
   have hil:i < xs.length:=(List.getElem?_eq_some_iff.mp hi).1
   have hyl:=hy.length
   rw[List.length_take] at hyl
   obtain⟨r,hr,hb⟩:=aM ps i e hi
   refine gw ?_
   refine⟨_,rfl,N,e,r,rfl,hb.mono s2 (fun _ z=>z),fun w H3 s3 hw=>⟨s3 _ _ hl,?_,⟨_,rfl⟩,aJ hD (s2.trans s3),ah,?_⟩⟩
   ·exact Nat.lt_of_le_of_lt (show _≤1000 by omega) (by decide)
   ·rw[aN hr]
    refine cO (Paired.imp' (fun _ _ q=>?_) hy) ?_
    ·exact Rp.set (s3 _ _ hl) (fun _ z=>z.2) (q.mono s3 fun _ z=>z)
    ·exact Rp.set (s3 _ _ hl) (fun _ z=>z.2) (hw.mono (aA.refl _) fun b z=>⟨none_of s2 z,fun z2=>by subst z2;rw[hl] at z;cases z⟩)
  ·rintro ys τ H2 ⟨⟨v,rfl⟩,s2,hl,hy⟩
   rw[hlx,List.take_of_length_le (Nat.le_refl _)] at hy
   exact k _ _ s2 (Rp.lst hl hD (by rw[hy.length,←hlx];exact ou) (Paired.imp' (fun _ _ q=>q.mono (aA.refl _) fun _ z=>z.1) hy))
theorem iE:aU P w K mg base dF 4 (bN 13) (bO 13) ["_law_thing_here"] (aR K 3):=by
 have aQ:aU P w K mg base dF 3 (bN 13) (bO 13) ["_law_thing_here"] (aR K 2):=gg T
 refine T.aP.ok cC (fun vs H Q E h=>?_) (fun cdv A outer s H vs Q E hr h=>?_)
 ·obtain⟨N,v,t,rfl,_⟩:=h;rfl
 ·have hu:=cI hr
  have iR:=hr.bA
  obtain⟨N,v,t,rfl,hv,k⟩:=h
  refine⟨_,(ao (ck (dP (eT (aY K rfl) T.aV (af (pv 0) (af (qd "list" T.dB) ak aq) aq))) (az (aC (bC rfl (show aE ["_law_thing_here"] (ay aO) ["_law_one"] 1 [] _ from mL) (aZ K rfl (pv 0)) (fun _ _ _ _=>(jd 0 mK)) (fun _ _ _ _=>bB) (fun _ _ _ _=>(kc aQ hr T.bT T.aP.kp T.bS (af (pv 0) ak aq)))))) aT)
   (az (aC (pv 0)))),?_⟩
  rcases hv.cB K with ⟨m,a,xs,ts,em,rfl,rfl,ha,hN,ou,ps⟩ | ⟨ty,hty,ht,rfl,hw⟩
  rotate_left
  ·exact⟨_,rfl,_,_,_,false,rfl,hty,.inl ⟨_,rfl,ht⟩,false,rfl,eB ⟨_,rfl,k _ _ (aA.refl _) (Rp.leaf hw)⟩⟩
  cases em
  have hlx:=ps.length
  refine⟨_,rfl,_,_,_,true,rfl,.lst ha,.inl ⟨_,rfl,rfl⟩,true,rfl,gH ?_⟩
  refine⟨_,rfl,a,rfl,⟨_,aD.of ha⟩,fun D hD=>?_⟩
  refine bf (K:=K) (a:=a) (xs:=xs) (fun i ys τ H2=>(∃ v,τ=[v])∧aA H H2∧H2 D=some (.lst ys)∧Paired (Rp (fun b=>H b=none∧b≠D) (3 - 1) H2) ys (ts.take i)) ⟨⟨_,rfl⟩,ai hD,ah,.nil⟩ (fun i ys τ H2 _ p=>⟨aD.of (p.2.1 _ _ ha),p.2.2.1⟩) ?_ ?_
  ·rintro i e ys τ H2 hi ⟨⟨v,rfl⟩,s2,hl,hy⟩
   have hil:i < xs.length:=(List.getElem?_eq_some_iff.mp hi).1
   have hyl:=hy.length
   rw[List.length_take] at hyl
   obtain⟨r,hr,hb⟩:=aM ps i e hi
   refine gw ?_
   refine⟨_,rfl,N,e,r,rfl,hb.mono s2 (fun _ z=>z),fun w H3 s3 hw=>⟨s3 _ _ hl,?_,⟨_,rfl⟩,aJ hD (s2.trans s3),ah,?_⟩⟩
   ·exact Nat.lt_of_le_of_lt (show _≤1000 by omega) (by decide)
   ·rw[aN hr]
    refine cO (Paired.imp' (fun _ _ q=>?_) hy) ?_
    ·exact Rp.set (s3 _ _ hl) (fun _ z=>z.2) (q.mono s3 fun _ z=>z)
    ·exact Rp.set (s3 _ _ hl) (fun _ z=>z.2) (hw.mono (aA.refl _) fun b z=>⟨none_of s2 z,fun z2=>by subst z2;rw[hl] at z;cases z⟩)
  ·rintro ys τ H2 ⟨⟨v,rfl⟩,s2,hl,hy⟩
   rw[hlx,List.take_of_length_le (Nat.le_refl _)] at hy
   exact k _ _ s2 (Rp.lst hl hD (by rw[hy.length,←hlx];exact ou) (Paired.imp' (fun _ _ q=>q.mono (aA.refl _) fun _ z=>z.1) hy))
def jL (K:W.Frag):Sp:=fun vs H Q _=>∃(a:Addr) (ns:List Int),vs=[.ref a]∧aD K H a (ns.map V.int)∧ns.length≤63∧∀ H',Q (.bl true) H'
theorem rB:aU P w K mg base dF 6 (bN 14) (bO 14) ["_law_script"] (jL K):=by
 have aQ:aU P w K mg base dF 4 (bN 13) (bO 13) ["_law_thing_here"] (aR K 3):=iE T
 have jM:aU P w K mg base dF 3 (bN 12) (bO 12) ["_law_cell"] (fG K):=iW T
 have lq:aU P w K mg base dF 5 (bN 5) (bO 5) ["thing"] (gE K):=ko T
 refine T.tT.ok gy (fun vs H Q E h=>?_) (fun cdv A outer s H vs Q E hr h=>?_)
 ·obtain⟨a,ns,rfl,_⟩:=h;rfl
 ·have hu:=cI hr
  have iR:=hr.bA
  obtain⟨a,ns,rfl,hS,hlen,k⟩:=h
  have xN:=hr.units
  refine'⟨_,?aa,?bb⟩
  case aa =>
   refine' ao ?s0 ?r0
   case s0 =>
    refine' kC (i:=1) ?ha1 ?hb1 ?hc1 ?v1 ?hd1 ?Dy
    case ha1=>exact gy.nd
    case hb1=>rfl
    case hc1=>exact(by first | exact Or.inl rfl | exact Or.inr rfl)
    case hd1=>exact bu
    case Dy=>first | exact .inl rfl | exact .inr rfl | assumption
    case v1 =>
     refine' av eN ?a2 ?b2
     case a2 =>
      refine' aI ?a3
      case a3 =>
       refine' af ?x4 ?y4 ?z4
       case z4=>exact dh
       case x4 =>
        refine' dR ?a5
        case a5 =>
         refine' af ?x6 ?y6 ?z6
         case z6=>exact bD
         case x6 =>
          refine' aI ?a7
          case a7 =>
           exact ak
         case y6 =>
          refine' af ?x8 ?y8 ?z8
          case z8=>exact au
          case x8 =>
           exact cP
          case y8 =>
           exact ak
       case y4 =>
        refine' af ?x9 ?y9 ?z9
        case z9=>exact dh
        case x9 =>
         refine' dR ?xO
         case xO =>
          refine' af ?w6 ?xg ?xh
          case xh=>exact bD
          case w6 =>
           refine' aI ?xP
           case xP =>
            refine' af ?xj ?xm ?xo
            case xo=>exact bD
            case xj =>
             refine' aI ?vt
             case vt =>
              refine' af ?xq ?xr ?xu
              case xu=>exact au
              case xq =>
               exact bx
              case xr =>
               exact ak
            case xm =>
             exact ak
          case xg =>
           refine' af ?xw ?xx ?xy
           case xy=>exact au
           case xw =>
            exact cP
           case xx =>
            exact ak
        case y9 =>
         refine' af ?Dz ?DA ?DB
         case DB=>exact dh
         case Dz =>
          refine' dR ?DC
          case DC =>
           refine' af ?DE ?DF ?DG
           case DG=>exact bD
           case DE =>
            refine' aI ?DH
            case DH =>
             refine' af ?DI ?DJ ?DK
             case DK=>exact bD
             case DI =>
              refine' aI ?DL
              case DL =>
               exact ak
             case DJ =>
              exact ak
           case DF =>
            refine' af ?DM ?DN ?DO
            case DO=>exact au
            case DM =>
             exact cP
            case DN =>
             exact ak
         case DA =>
          exact ak
     case b2 =>
      exact(bC rfl (show aE ["_law_script", "_law_things", "_law_thing_here", "_law_due", "_law_kept", "_law_found"] (ay fR) ["_law_cell"] 1 [] _ from mL) (aZ K rfl (cY (dg K rfl) (pv 0) dS (dU aj))) (fun _ _ _ _=>(jd 0 mK)) (fun _ _ _ _=>bB) (fun _ _ _ _=>(kc jM hr T.jF T.f7.kp T.jE (af (pv 0) ak aq))))
   case r0 =>
    refine' ao ?DP ?DQ
    case DP =>
     exact(gZ PassesOwn.never rfl (aZ K rfl (av eN (pv 1) (j8 K rfl rfl rfl T.dB rfl T.kj (af (pv 1) ak aq)))) (o7 K rfl 2 rfl (jW (jd 2 gy.nd) (jW (jd 3 gy.nd) oG)))
     (ao (gv 4 gy.nd (kc aQ hr T.bT T.aP.kp T.bS (af (pv 2) ak aq)) (hs:=dw))
     (ao (gv 5 gy.nd (kc lq hr T.kX T.ig.kp T.kW (af (pv 2) ak aq)) (hs:=dw))
     (az (ck (PW.pt (gA (gX (dP (eT (aY K rfl) T.aV (af (pv 5) (af (qd "bool" T.pJ) ak aq) aq)))) (gA (gT nh (pv 5) (pv 3)) (gk (gT (fk.yO nh (fk.yO (qO K rfl xN) (pB iR))) (pv 2) (pv 4)))))) (az (aC cP)) aT)))))
    case DQ =>
     refine' az ?DR
     case DR =>
      exact(aC cP)
  refine⟨(by decide),fun a1 b1=>⟨(by show(2:Nat)≤sizeLine;decide),fun p1 h1=>⟨(by decide),fun a2 b2=>⟨(by show(1:Nat)≤sizeLine;decide),fun a3 b3=>⟨(by show(2:Nat)≤sizeLine;decide),fun p2 h2=>⟨(by decide),fun a4 b4=>⟨(by show(1:Nat)≤sizeLine;decide),fun a5 b5=>⟨(by show(2:Nat)≤sizeLine;decide),fun p3 h3=>⟨(by show(3:Nat)≤sizeLine;decide),fun l hl=>?_⟩⟩⟩⟩⟩⟩⟩⟩⟩
  (have s1:=ai (o:=HO.lst []) b1;have q1:=ah (H:=H) (a:=a1) (o:=HO.lst []);generalize upd H a1 (HO.lst [])=H1 at s1 q1 h1 b2 b3 h2 b4 b5 h3 hl ⊢;have s2:=ai (o:=HO.tup [V.ref a1,V.bl true]) h1;have q2:=ah (H:=H1) (a:=p1) (o:=HO.tup [V.ref a1,V.bl true]);generalize upd H1 p1 (HO.tup [V.ref a1,V.bl true])=H2 at s2 q2 b2 b3 h2 b4 b5 h3 hl ⊢;have s3:=ai (o:=HO.lst [V.str ("":Str)]) b2;have q3:=ah (H:=H2) (a:=a2) (o:=HO.lst [V.str ("":Str)]);generalize upd H2 a2 (HO.lst [V.str ("":Str)])=H3 at s3 q3 b3 h2 b4 b5 h3 hl ⊢;have s4:=ai (o:=HO.lst [V.ref a2]) b3;have q4:=ah (H:=H3) (a:=a3) (o:=HO.lst [V.ref a2]);generalize upd H3 a3 (HO.lst [V.ref a2])=H4 at s4 q4 h2 b4 b5 h3 hl ⊢;have s5:=ai (o:=HO.tup [V.ref a3,V.bl true]) h2;have q5:=ah (H:=H4) (a:=p2) (o:=HO.tup [V.ref a3,V.bl true]);generalize upd H4 p2 (HO.tup [V.ref a3,V.bl true])=H5 at s5 q5 b4 b5 h3 hl ⊢;have s6:=ai (o:=HO.lst []) b4;have q6:=ah (H:=H5) (a:=a4) (o:=HO.lst []);generalize upd H5 a4 (HO.lst [])=H6 at s6 q6 b5 h3 hl ⊢;have s7:=ai (o:=HO.lst [V.ref a4]) b5;have q7:=ah (H:=H6) (a:=a5) (o:=HO.lst [V.ref a4]);generalize upd H6 a5 (HO.lst [V.ref a4])=H7 at s7 q7 h3 hl ⊢;have s8:=ai (o:=HO.tup [V.ref a5,V.bl false]) h3;have q8:=ah (H:=H7) (a:=p3) (o:=HO.tup [V.ref a5,V.bl false]);generalize upd H7 p3 (HO.tup [V.ref a5,V.bl false])=H8 at s8 q8 hl ⊢;have s9:=ai (o:=HO.lst [V.ref p1,V.ref p2,V.ref p3]) hl;have q9:=ah (H:=H8) (a:=l) (o:=HO.lst [V.ref p1,V.ref p2,V.ref p3]);generalize upd H8 l (HO.lst [V.ref p1,V.ref p2,V.ref p3])=H9 at s9 q9 ⊢)
  have e8:=s9
  have e7:=s8.trans e8
  have e6:=s7.trans e7
  have e5:=s6.trans e6
  have e4:=s5.trans e5
  have e3:=s4.trans e4
  have e2:=s3.trans e3
  have e1:=s2.trans e2
  have sH:=s1.trans e1
  have d1:kr (fun _=>True) H9 (.ref p1):=⟨p1,.ref a1,.list [],rfl,e2 _ _ q2,Rp.lst (e1 _ _ q1) trivial (by decide) .nil⟩
  have c2:iM (.list [.list [.leaf (.str ("":Str))]])=true:=by decide +kernel
  have d2:kr (fun _=>True) H9 (.ref p2):=⟨p2,.ref a3,.list [.list [.leaf (.str ("":Str))]],rfl,by rw[c2];exact e5 _ _ q5,Rp.lst (e4 _ _ q4) trivial (by show(1:Nat)≤1000;decide) (.cons (Rp.lst (e3 _ _ q3) trivial (by decide) (.cons (fT rfl fun z e=>by cases e;decide) .nil)) .nil)⟩
  have d3:kr (fun _=>True) H9 (.ref p3):=⟨p3,.ref a5,.list [.list []],rfl,e8 _ _ q8,Rp.lst (e7 _ _ q7) trivial (by show(1:Nat)≤1000;decide) (.cons (Rp.lst (e6 _ _ q6) trivial (by decide) .nil) .nil)⟩
  clear q1 q2 q3 q4 q5 q6 q7 q8 c2
  have DS:=q9
  refine⟨_,rfl,_,rfl,a,_,rfl,sH.seq hS,fun p hp=>?_⟩
  obtain⟨ms,em,lm⟩:=pC V.int ns none (some 8)
  rw[em] at *
  have s5:=ai (o:=HO.lst (ms.map V.int)) hp
  have hpp:(upd H9 p (.lst (ms.map V.int))) p=some (.lst (ms.map V.int)):=ah
  generalize upd H9 p (.lst (ms.map V.int))=H2 at s5 hpp ⊢
  refine⟨p,rfl,⟨_,aD.of hpp⟩,fun D hD=>?_⟩
  refine bf (K:=K) (a:=p) (xs:=ms.map V.int) (fun i ys τ H3=>(∃ v,τ=[v])∧aA H2 H3∧H3 D=some (.lst ys)∧ys.length=i∧∀ y∈ys,kr (fun b=>b≠D) H3 y) ⟨⟨_,rfl⟩,ai hD,ah,rfl,fun z q=>nomatch q⟩ (fun i ys τ H3 _ q=>⟨aD.of (q.2.1 _ _ hpp),q.2.2.1⟩) ?_ ?_
  ·rintro i e ys τ H3 hi ⟨⟨v,rfl⟩,s6,vv,hyl,hys⟩
   have hil:i < (ms.map V.int).length:=(List.getElem?_eq_some_iff.mp hi).1
   rw[List.length_map] at hil
   obtain⟨c,_,rfl⟩:=List.mem_map.mp (List.mem_of_getElem? hi)
   refine gw ?_
   refine⟨_,rfl,c,rfl,fun t v u H4 ht kv s7=>?_⟩
   have zy:=s7 _ _ vv
   have tg:kr (fun b=>b≠D) H4 (.ref t):=⟨t,v,u,rfl,ht,kv.mono (aA.refl _) fun b z=>fun z2=>by subst z2;rw[vv] at z;cases z⟩
   refine⟨zy,?_,⟨_,rfl⟩,aJ hD (s6.trans s7),ah,?_,?_⟩
   ·rw[hyl];exact Nat.lt_of_le_of_lt (show i≤63 by omega) (by decide)
   ·rw[List.length_append,hyl];rfl
   ·intro y hy
    have tt:∀{y},kr (fun b=>b≠D) H4 y→kr (fun b=>b≠D) (upd H4 D (.lst (ys++[.ref t]))) y:=fun h=>h.set zy fun _ z=>z
    rcases List.mem_append.mp hy with q | q
    ·exact tt ((hys y q).mono s7 fun _ z=>z)
    ·rw[List.mem_singleton.mp q];exact tt tg
  rintro ys τ H3 ⟨⟨v,rfl⟩,s6,vv,hyl,hys⟩
  have vz:=s5.trans s6
  rw[List.length_map] at hyl
  refine⟨l,D,_,_,rfl,rfl,vz _ _ DS,vv,?_,fun l2 hl2=>?_⟩
  ·rw[hyl];exact Nat.le_trans (show 3+ms.length≤100 by omega) (by decide)
  have all:∀ y∈[V.ref p1,.ref p2,.ref p3]++ys,kr (fun _=>True) H3 y:=fun y hy=>by
   rcases List.mem_append.mp hy with q | q
   ·simp only[List.mem_cons,List.not_mem_nil,or_false] at q
    rcases q with rfl | rfl | rfl
    ·exact d1.mono vz fun _ z=>z
    ·exact d2.mono vz fun _ z=>z
    ·exact d3.mono vz fun _ z=>z
   ·exact(hys y q).mono (aA.refl _) fun _ _=>trivial
  have hal:([V.ref p1,.ref p2,.ref p3]++ys).length≤100:=by rw[List.length_append,hyl];show 3+ms.length≤100;omega
  generalize [V.ref p1,.ref p2,.ref p3]++ys=as at all hal hl2 ⊢
  refine⟨_,rfl,_,rfl,l2,_,rfl,aD.of ah,fun r hr=>?_⟩
  have DT:l2≠r:=bF ah hr
  refine⟨l2,r,_,_,rfl,rfl,(aH DT).trans ah,ah,?_,fun w hw=>?_⟩
  ·rw[List.length_reverse];exact Nat.le_trans (show _≤200 by omega) (by decide)
  have sw:aA H3 (upd (upd (upd H3 l2 (.lst as)) r (.lst as.reverse)) w (.lst (as++as.reverse))):=((ai hl2).trans (ai hr)).trans (ai hw)
  have xQ:(upd (upd (upd H3 l2 (.lst as)) r (.lst as.reverse)) w (.lst (as++as.reverse))) w=some (.lst (as++as.reverse)):=ah
  generalize upd (upd (upd H3 l2 (.lst as)) r (.lst as.reverse)) w (.lst (as++as.reverse))=Hw at sw xQ ⊢
  refine⟨w,rfl,⟨_,aD.of xQ⟩,?_⟩
  refine jY (K:=K) (a:=w) (xs:=as++as.reverse) (fun i σ H4=>(∃ v1 v2 v3 v4 v5 v6,σ=[v1,v2,v3,v4,v5,v6])∧aA Hw H4) ⟨⟨_,_,_,_,_,_,rfl⟩,aA.refl _⟩ (fun i σ H4 _ q=>aD.of (q.2 _ _ xQ)) ?_ ?_
  ·rintro i x σ H4 hi ⟨⟨v1,v2,v3,v4,v5,v6,rfl⟩,s8⟩
   have hx:kr (fun _=>True) H4 x:=by
    refine kr.mono (sw.trans s8) (fun _ z=>z) (all x ?_)
    rcases List.mem_append.mp (List.mem_of_getElem? hi) with z | z
    ·exact z
    ·exact List.mem_reverse.mp z
   obtain⟨t,v,u,rfl,ht,kv⟩:=hx
   refine⟨t,_,rfl,jV.of ht,rfl,_,_,rfl,_,_,rfl,rfl,?_⟩
   refine⟨_,rfl,_,v,u,rfl,kv,fun w5 H5 s9 kw=>?_⟩
   dsimp only[bP]
   have zz:=kv.mono s9 fun _ z=>z
   refine⟨_,rfl,_,3,v,u,rfl,zz,fun H6 qc=>?_⟩
   dsimp only[bP]
   refine⟨_,rfl,_,_,_,true,rfl,.bl _,.inl ⟨_,rfl,rfl⟩,true,rfl,eB ⟨_,rfl,_,rfl,rfl,_,rfl,?_⟩⟩
   rw[show(!decide (V.bl (iM u)=V.bl (iM u)))=false by rw[decide_eq_true rfl];rfl]
   refine eB ⟨_,rfl,_,rfl,(Rp.ne (zz.mono qc fun _ z=>z) (kw.mono qc fun _ z=>z) (by decide) ⟨false,rfl,eB ⟨⟨_,_,_,_,_,_,rfl⟩,(s8.trans s9).trans qc⟩⟩)⟩
  ·rintro σ H4 ⟨⟨v1,v2,v3,v4,v5,v6,rfl⟩,s4⟩
   exact k H4
end
end
theorem all_mk {l:W.OpenLaw}{w:World}{K:W.Frag}{h:Heap}{mg:Str→Option Value}{fa cE bE fj gh cF d7 cT cU cV cW cG cM cX cN om:Addr}{DU xR DV zA DW zB DX zC DY zD DZ zE D0 zF D3 zG D4 zH D5 zI xS ug xT uh xU um xV uo xW rC:Option Addr}{D6 D7 sl2 D8 D9 Ea Eb Ec Ed Ef xX xY xZ ya yb:Array (Option Value)}{Eg yc yd ye vA yf Eh zJ zK zL yg zM Ei zN zO zP yh zQ Ej zR zS zT yi zU Ek zV zW zX yj zY El zZ z0 z7 yk Aa Em Ab Ac Ad yl Ae En Af Ag Ah ym Ai Eo Aj Ak Al yo Am Ep An Ao Aq yp Ar yq uq ur uu rD uv yr uw ux uy rE uz yt uA uB uC rF uD yu uE uF uG rG uH yw rH rJ rK pO rL:Value}{lu:Str} (X:K.In h) (G:h.Ns mainGlobals mg) (Er:mg "law" = some (.ref fa))
  (a0:W.nsIn K mainGlobals "is_printable" = RF cE)
  (l0:K.lookup cE=FO "is_printable" "is_printable" bg .none Eg DU yc yd ye xR vA yf D6) (c0:W.codeIn K vA "is_printable" = true) (k0:W.keepIn K (.ref cE)=true)
  (a1:W.nsIn K mainGlobals "has_signs_alone" = RF bE)
  (l1:K.lookup bE=FO "has_signs_alone" "has_signs_alone" aS .none Eh DV zJ zK zL zA yg zM D7) (c1:W.codeIn K yg "has_signs_alone" = true) (k1:W.keepIn K (.ref bE)=true)
  (a2:W.nsIn K mainGlobals "is_cell" = RF fj)
  (l2:K.lookup fj=FO "is_cell" "is_cell" dN .none Ei DW zN zO zP zB yh zQ sl2) (c2:W.codeIn K yh "is_cell" = true) (k2:W.keepIn K (.ref fj)=true)
  (a3:W.nsIn K mainGlobals "is_row" = RF gh)
  (l3:K.lookup gh=FO "is_row" "is_row" dO .none Ej DX zR zS zT zC yi zU D8) (c3:W.codeIn K yi "is_row" = true) (k3:W.keepIn K (.ref gh)=true)
  (a4:W.nsIn K mainGlobals "signs_in_row" = RF cF)
  (l4:K.lookup cF=FO "signs_in_row" "signs_in_row" bh .none Ek DY zV zW zX zD yj zY D9) (c4:W.codeIn K yj "signs_in_row" = true) (k4:W.keepIn K (.ref cF)=true)
  (a5:W.nsIn K mainGlobals "is_table" = RF d7)
  (l5:K.lookup d7=FO "is_table" "is_table" bW .none El DZ zZ z0 z7 zE yk Aa Ea) (c5:W.codeIn K yk "is_table" = true) (k5:W.keepIn K (.ref d7)=true)
  (a6:W.nsIn K mainGlobals "_law_mixed" = RF cT)
  (l6:K.lookup cT=FO "_law_mixed" "_law_mixed" cy .none Em D0 Ab Ac Ad zF yl Ae Eb) (c6:W.codeIn K yl "_law_mixed" = true) (k6:W.keepIn K (.ref cT)=true)
  (a7:W.nsIn K mainGlobals "_law_drawn" = RF cU)
  (l7:K.lookup cU=FO "_law_drawn" "_law_drawn" bL .none En D3 Af Ag Ah zG ym Ai Ec) (c7:W.codeIn K ym "_law_drawn" = true) (k7:W.keepIn K (.ref cU)=true)
  (a8:W.nsIn K mainGlobals "_law_every" = RF cV)
  (l8:K.lookup cV=FO "_law_every" "_law_every" cz .none Eo D4 Aj Ak Al zH yo Am Ed) (c8:W.codeIn K yo "_law_every" = true) (k8:W.keepIn K (.ref cV)=true)
  (a9:W.nsIn K mainGlobals "_law_table" = RF cW)
  (l9:K.lookup cW=FO "_law_table" "_law_table" bM .none Ep D5 An Ao Aq zI yp Ar Ef) (c9:W.codeIn K yp "_law_table" = true) (k9:W.keepIn K (.ref cW)=true)
  (xO:W.nsIn K mainGlobals "_law_is_good" = RF cG)
  (yR:K.lookup cG=FO "_law_is_good" "_law_is_good" bq .none yq xS uq ur uu ug rD uv xX) (Es:W.codeIn K rD "_law_is_good" = true) (Et:W.keepIn K (.ref cG)=true)
  (Eu:W.nsIn K mainGlobals "_law_spoilt" = RF cM)
  (Ew:K.lookup cM=FO "_law_spoilt" "_law_spoilt" bQ .none yr xT uw ux uy uh rE uz xY) (Ex:W.codeIn K rE "_law_spoilt" = true) (Ey:W.keepIn K (.ref cM)=true)
  (xP:W.nsIn K mainGlobals "_law_thing" = RF cX)
  (Ez:K.lookup cX=FO "_law_thing" "_law_thing" cA .none yt xU uA uB uC um rF uD xZ) (c12:W.codeIn K rF "_law_thing" = true) (EA:W.keepIn K (.ref cX)=true)
  (EB:W.nsIn K mainGlobals "_law_copied" = RF cN)
  (EC:K.lookup cN=FO "_law_copied" "_law_copied" aO .none yu xV uE uF uG uo rG uH ya) (ED:W.codeIn K rG "_law_copied" = true) (EE:W.keepIn K (.ref cN)=true)
  (vt:W.nsIn K mainGlobals "law" = RF om)
  (EF:K.lookup om=FO "law" "law" fR .none yw xW rH rJ rK rC pO rL yb) (EG:W.codeIn K pO "law" = true) (EH:W.keepIn K (.ref om)=true)
  (uI:W.nsIn K mainGlobals "all" = some none)
  (rM:W.nsIn K mainGlobals "bool" = some none)
  (uJ:W.nsIn K mainGlobals "int" = some none)
  (jN:W.nsIn K mainGlobals "isinstance" = some none)
  (uK:W.nsIn K mainGlobals "len" = some none)
  (rN:W.nsIn K mainGlobals "list" = some none)
  (uL:W.nsIn K mainGlobals "max" = some none)
  (z_ord:W.nsIn K mainGlobals "ord" = some none)
  (pP:W.nsIn K mainGlobals "range" = some none)
  (ly:W.nsIn K mainGlobals "reversed" = some none)
  (uM:W.nsIn K mainGlobals "str" = some none)
  (uN:W.nsIn K mainGlobals "sum" = some none)
  (pQ:W.nsIn K mainGlobals "tuple" = some none)
  {pR:Tok} (rO:W.nsIn K mainGlobals "LINE" = some (some (.str lu pR))) (rP:lu=Str.ofString "\n")
  {jO:Tok} (kq:W.nsIn K mainGlobals "MOST_ROWS" = some (some (.int 60 jO)))
  {iY:Tok} (jP:W.nsIn K mainGlobals "MOST_CELLS" = some (some (.int 20 iY)))
  {d8:Tok} (eF:W.nsIn K mainGlobals "MOST_SIGNS_IN_CELLS" = some (some (.int 400 d8))) :
  ∃ fd:FuncData,(∀(s:Shared) (v:Value),BindsTo s fd ⟨[v],[]⟩ [("_law_script",v)])∧∀ base:Heap,K.In base→base.Ns mainGlobals mg→aU l.prog w K mg base dF 6 fa fd ["_law_script"] (jL K):=by
 have e:=Er.symm.trans (W.mg_of X G vt)
 cases e
 have mo:∀{n:Str}{v:Value},W.nsIn K mainGlobals n=some (some v)→mg n=some v:=fun e=>W.mg_of X G e
 have mz:∀{n:Str},W.nsIn K mainGlobals n=some none→mg n=none:=fun e=>W.mg_none_of X G e
 have F0:=bV (st:=bg) l0 c0 k0
 have b0:=F0.g6 (ps:=["sign"])
 have F1:=bV (st:=aS) l1 c1 k1
 have b1:=F1.g6 (ps:=["text"])
 have F2:=bV (st:=dN) l2 c2 k2
 have b2:=F2.g6 (ps:=["thing"])
 have F3:=bV (st:=dO) l3 c3 k3
 have b3:=F3.g6 (ps:=["thing"])
 have F4:=bV (st:=bh) l4 c4 k4
 have b4:=F4.g6 (ps:=["row"])
 have F5:=bV (st:=bW) l5 c5 k5
 have b5:=F5.g6 (ps:=["thing"])
 have F6:=bV (st:=cy) l6 c6 k6
 have b6:=F6.qT (ps:=["_law_number", "_law_salt"])
 have F7:=bV (st:=bL) l7 c7 k7
 have b7:=F7.qT (ps:=["_law_cell", "_law_many"])
 have F8:=bV (st:=cz) l8 c8 k8
 have b8:=F8.binds (ps:=[]) fun _ _ _ _ _ _ us hl=>match us,hl with | [],_=>rfl
 have F9:=bV (st:=bM) l9 c9 k9
 have b9:=F9.g6 (ps:=["_law_xs"])
 have As:=bV (st:=bq) yR Es Et
 have xH:=As.g6 (ps:=["_law_table_here"])
 have Au:=bV (st:=bQ) Ew Ex Ey
 have rz:=Au.qT (ps:=["_law_table_here", "_law_xs"])
 have Av:=bV (st:=cA) Ez c12 EA
 have EI:=Av.g6 (ps:=["_law_cell"])
 have Aw:=bV (st:=aO) EC ED EE
 have EJ:=Aw.g6 (ps:=["_law_thing_here"])
 have Ax:=bV (st:=fR) EF EG EH
 have EK:=Ax.g6 (ps:=["_law_script"])
 exact⟨W.fnOf "law" "law" (cS fR) (cK fR) (ay fR) .none rH rJ rK rC pO rL,fun s v=>.of_eq rfl,fun base _ _=>rB (bN:=fun i=>[cE,bE,fj,gh,cF,d7,cT,cU,cV,cW,cG,cM,cX,cN,fa].getD i fa) (bO:=fun i=>[FN "is_printable" "is_printable" bg .none yc yd ye xR vA yf,FN "has_signs_alone" "has_signs_alone" aS .none zJ zK zL zA yg zM,FN "is_cell" "is_cell" dN .none zN zO zP zB yh zQ,FN "is_row" "is_row" dO .none zR zS zT zC yi zU,FN "signs_in_row" "signs_in_row" bh .none zV zW zX zD yj zY,FN "is_table" "is_table" bW .none zZ z0 z7 zE yk Aa,FN "_law_mixed" "_law_mixed" cy .none Ab Ac Ad zF yl Ae,FN "_law_drawn" "_law_drawn" bL .none Af Ag Ah zG ym Ai,FN "_law_every" "_law_every" cz .none Aj Ak Al zH yo Am,FN "_law_table" "_law_table" bM .none An Ao Aq zI yp Ar,FN "_law_is_good" "_law_is_good" bq .none uq ur uu ug rD uv,FN "_law_spoilt" "_law_spoilt" bQ .none uw ux uy uh rE uz,FN "_law_thing" "_law_thing" cA .none uA uB uC um rF uD,FN "_law_copied" "_law_copied" aO .none uE uF uG uo rG uH,FN "law" "law" fR .none rH rJ rK rC pO rL].getD i (FN "is_printable" "is_printable" bg .none yc yd ye xR vA yf)) (rV:=fun i=>[lu].getD i "") ⟨F0,b0,mo a0,
  F1,b1,mo a1,
  F2,b2,mo a2,
  F3,b3,mo a3,
  F4,b4,mo a4,
  F5,b5,mo a5,
  F6,b6,mo a6,
  F7,b7,mo a7,
  F8,b8,mo a8,
  F9,b9,mo a9,
  As,xH,mo xO,
  Au,rz,mo Eu,
  Av,EI,mo xP,
  Aw,EJ,mo EB,
  Ax,EK,mo vt,
  mz uI,
  mz rM,
  mz uJ,
  mz jN,
  mz uK,
  mz rN,
  mz uL,
  mz z_ord,
  mz pP,
  mz ly,
  mz uM,
  mz uN,
  mz pQ,
  ⟨_,mo rO⟩,rP,
  ⟨_,mo kq⟩,
  ⟨_,mo jP⟩,
  ⟨_,mo eF⟩⟩⟩
theorem walk {l:W.OpenLaw}{q:Program}{loose:List Str}{XP:(Str→Option Value)→Heap→Prop}{YP:World→Heap→Prop}{d:DefRec}{K:Params→W.Frag} (hn:l.most=some 63) (hdf:d.params.defaults=[])
  (hY:∀(w:World) (h:Heap),YP w h→(K w.params).In h)
  (F:∀(w:World) (mg:Str→Option Value) (fa:Addr) (h:Heap),(K w.params).In h→h.Ns mainGlobals mg→mg d.name=some (.ref fa) →
   ∃ fd:FuncData,(∀(s:Shared) (u:Value),BindsTo s fd ⟨[u],[]⟩ [("_law_script",u)])∧∀ base:Heap,(K w.params).In base→base.Ns mainGlobals mg→aU l.prog w (K w.params) mg base dF 6 fa fd ["_law_script"] (jL (K w.params))) :
  W.WalkO q loose XP YP l.row.toRowW d [] (fun f vs=>PySem.call f vs) :=
 L2.o5 (n:=63) (k:=6) (x := "_law_script") (CX:=fun _=>dF) (sp:=fun w=>jL (K w.params)) hn (by decide) hdf ⟨rfl,by decide,by decide⟩ hY F (fun _ _ a ns hl _ hS=>⟨a,ns,rfl,hS,hl,fun _=>rfl⟩) fun _ _ _ _ _ z=>z
end My
def PySem.W.Fast.tw5052735159919855442:Unit:=()
def PySem.W.Fast.tw17888120565930673823:Unit:=()
def PySem.W.Fast.tw70519037545963732:Unit:=()
def PySem.W.Fast.tw486915645441807029:Unit:=()
def PySem.W.Fast.tw11319227834132677919:Unit:=()
def PySem.W.Fast.tw17594014235028930406:Unit:=()
def PySem.W.Fast.tw9890558013943415588:Unit:=()
def PySem.W.Fast.tw11561738202696637469:Unit:=()
def PySem.W.Fast.tw14974004610934273352:Unit:=()
def PySem.W.Fast.tw6078412355225712212:Unit:=()
def PySem.W.Fast.tw9476892460371663530:Unit:=()
def PySem.W.Fast.tw3104296832209883292:Unit:=()
def PySem.W.Fast.tw6205704500002722801:Unit:=()
def PySem.W.Fast.tw8818525009143135961:Unit:=()
def PySem.W.Fast.tw7813409986408266107:Unit:=()
def PySem.W.Fast.tw7936191402079861952:Unit:=()
def PySem.W.Fast.tw6477980248791017605:Unit:=()
def PySem.W.Fast.tw11808709709213476896:Unit:=()
def PySem.W.Fast.tw8108747577618026457:Unit:=()
def PySem.W.Fast.tw1346040583863937242:Unit:=()
def PySem.W.Fast.tw17077386527173797641:Unit:=()
def PySem.W.Fast.tw18196961242587529794:Unit:=()
def PySem.W.Fast.tw11545715152616993548:Unit:=()
def PySem.W.Fast.tw3139389995841039217:Unit:=()
open PySem PySem.W PyProof.Rows
set_option maxRecDepth 100000 in
set_option maxHeartbeats 0 in
theorem PySem.Challenge.cw_dialecthall_k12_tables_told_holds : PySem.Challenge.rw_dialecthall_k12_tables_told.Holds := by
 w_on;o_law;k_head;(case hw=>w_witness2)
 k_fill
 refine My.walk (l:=PySem.Challenge.rw_dialecthall_k12_tables_told) rfl rfl (fun w h Y=>W.kIn_of Y) ?F
 case F =>
  intro w mg fa h KX G hmg
  refine' My.all_mk KX G hmg ?_ ?_ ?_ ?_ ?_ ?_ ?_ ?_ ?_ ?_ ?_ ?_ ?_ ?_ ?_ ?_ ?_ ?_ ?_ ?_ ?_ ?_ ?_ ?_ ?_ ?_ ?_ ?_ ?_ ?_ ?_ ?_ ?_ ?_ ?_ ?_ ?_ ?_ ?_ ?_ ?_ ?_ ?_ ?_ ?_ ?_ ?_ ?_ ?_ ?_ ?_ ?_ ?_ ?_ ?_ ?_ ?_ ?_ ?_ ?_ ?_ ?_ ?_ ?_ ?_ ?_ ?_ ?_ ?_ ?_ ?_ ?_ ?_ ?_ ?_ ?_ ?_ ?_
  all_goals try first | k_is | rfl
