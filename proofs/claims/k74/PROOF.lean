import PyProof.Rows.All
import Wide.All
import OpenK.AllK
import Wide.FinOn
import Lean
import PyProof.EqAt
import PyProof.EqKinds
import PyProof.TupleCall
import PyProof.JoinWalk
import PyProof.DictIter
import PyProof.SeqI3
import PyProof.WalkInts
import PyProof.DictTruth
import PyProof.ListRange
import PyProof.DictWalks
import PySem.Challenge.RW_dialecthall_k74_open_or_not
set_option Elab.async false
set_option linter.all false
set_option maxRecDepth 100000
namespace L2
open PySem PySem.Spec PyProof.Rows
abbrev Key:=Sum Int Str
def yb:Key→Value→Bool
 | .inl k,v=>Value.isInt k v
 | .inr x,v=>Value.isStrOf x v
def V4 (w:World):Key→Int
 | .inl k=>hashInt k
 | .inr x=>hashStr w x
theorem dh:∀{k:Key}{v:Value},yb k v=true→(∃ i t,k=Sum.inl i∧v=Value.int i t)∨(∃ x t,k=Sum.inr x∧v=Value.str x t)
 | .inl i,v,h=>by
  obtain⟨t,e⟩:=Value.isInt_shape (k:=i) (v:=v) h
  exact .inl ⟨i,t,rfl,e⟩
 | .inr x,v,h=>by
  obtain⟨t,e⟩:=Value.isStrOf_shape (x:=x) (v:=v) h
  exact .inr ⟨x,t,rfl,e⟩
theorem Kn (i:Int) (t:Tok):yb (.inl i) (.int i t)=true:=by simp[yb,Value.isInt]
theorem Ko (x:Str) (t:Tok):yb (.inr x) (.str x t)=true:=by simp[yb,Value.isStrOf]
theorem Mg (a b:Int):decide ((Sum.inl a:Key)=Sum.inl b)=(a == b):=by
 by_cases e:a=b
 ·subst e;simp
 ·have h:¬(Sum.inl a:Key)=Sum.inl b:=fun q=>e (Sum.inl.inj q)
  rw[decide_eq_false h]
  exact(beq_eq_false_iff_ne.mpr e).symm
theorem Mh (a b:Str):decide ((Sum.inr a:Key)=Sum.inr b)=decide (a=b):=by
 by_cases e:a=b
 ·subst e;simp
 ·have h:¬(Sum.inr a:Key)=Sum.inr b:=fun q=>e (Sum.inr.inj q)
  rw[decide_eq_false h,decide_eq_false e]
theorem Mi (a:Int) (b:Str):decide ((Sum.inl a:Key)=Sum.inr b)=false:=decide_eq_false (fun q=>nomatch q)
theorem Mj (a:Str) (b:Int):decide ((Sum.inr a:Key)=Sum.inl b)=false:=decide_eq_false (fun q=>nomatch q)
def oZ (prog:Program) (w:World):PySem.KeyKind prog w Key where
 is:=yb
 hash:=V4 w
 inj:=fun v a b ha hb=>by
  rcases dh ha with ⟨i,t,rfl,rfl⟩ | ⟨x,t,rfl,rfl⟩
  ·rcases dh hb with ⟨j,u,rfl,e⟩ | ⟨y,u,rfl,e⟩
   ·injection e with e1 _;rw[e1]
   ·exact nomatch e
  ·rcases dh hb with ⟨j,u,rfl,e⟩ | ⟨y,u,rfl,e⟩
   ·exact nomatch e
   ·injection e with e1 _;rw[e1]
 byValue:=fun k v h=>by
  rcases dh h with ⟨i,t,rfl,rfl⟩ | ⟨x,t,rfl,rfl⟩ <;> rfl
 pyHash:=fun hv h=>by
  rcases dh hv with ⟨i,t,rfl,rfl⟩ | ⟨x,t,rfl,rfl⟩
  ·exact wpAny_pyHash_int h
  ·exact wpAny_pyHash_str h
 eqBool:=fun hu hv h=>by
  rcases dh hu with ⟨i,t,rfl,rfl⟩ | ⟨x,t,rfl,rfl⟩
  ·rcases dh hv with ⟨j,u,rfl,rfl⟩ | ⟨y,u,rfl,rfl⟩
   ·rw[Mg] at h;exact wpAny_eqBool_int h
   ·rw[Mi] at h;exact SeqAt.EqAt.int_str i t y u _ _ _ _ h
  ·rcases dh hv with ⟨j,u,rfl,rfl⟩ | ⟨y,u,rfl,rfl⟩
   ·rw[Mj] at h;exact SeqAt.EqAt.str_int x t j u _ _ _ _ h
   ·rw[Mh] at h;exact wpAny_eqBool_str h
 «strs» := fun k x t v h=>by
  rcases dh h with ⟨i,u,rfl,e⟩ | ⟨y,u,rfl,e⟩
  ·exact nomatch e
  ·injection e with e1 _
   subst e1
   cases v <;> rfl
theorem EK (prog:Program) (w:World) (i:Int) (t:Tok):(oZ prog w).is (.inl i) (.int i t)=true:=Kn i t
theorem EL (prog:Program) (w:World) (x:Str) (t:Tok):(oZ prog w).is (.inr x) (.str x t)=true:=Ko x t
inductive V where
 | non | bl (b:Bool) | int (i:Int) | str (x:Str) | LZ (b:Array UInt8) | uq (b:UInt64) | ref (a:Addr) | ty (n:String)
 deriving DecidableEq
def RelV:V→Value→Prop
 | .non,u=>u=Value.none
 | .bl b,u=>u=Value.bool b
 | .int i,u=>∃ t,u=Value.int i t
 | .str x,u=>∃ t,u=Value.str x t
 | .LZ b,u=>∃ t,u=Value.bytes b t
 | .uq b,u=>∃ t,u=Value.float b t
 | .ref a,u=>u=Value.ref a
 | .ty n,u=>u=Value.type n
abbrev Vals:List V→List Value→Prop:=Paired RelV
theorem Vals.length {xs:List V}{us:List Value} (r:Vals xs us):xs.length=us.length:=Paired.length r
theorem Vals.get:∀{xs:List V}{us:List Value}{i:Nat}{x:V},Vals xs us→xs[i]? = some x→∃ u,us[i]? = some u∧RelV x u
 | _,_,_,_,.nil,e=>by simp at e
 | _,_,0,_,.cons r _,e=>by simp at e;subst e;exact⟨_,rfl,r⟩
 | _,_,i+1,x,.cons _ t,e=>by
  obtain⟨u,h1,h2⟩:=Vals.get (i:=i) (x:=x) t (by simpa using e)
  exact⟨u,by simpa using h1,h2⟩
theorem Vals.set {x:V}{u:Value} (r:RelV x u):∀{xs:List V}{us:List Value} (i:Nat),Vals xs us→Vals (xs.set i x) (us.set i u)
 | _,_,_,.nil=>.nil
 | _,_,0,.cons _ t=>.cons r t
 | _,_,i+1,.cons q t=>.cons q (Vals.set r i t)
theorem Vals.append:∀{xs ys:List V}{us ws:List Value},Vals xs us→Vals ys ws→Vals (xs++ys) (us++ws)
 | _,_,_,_,.nil,s=>s
 | _,_,_,_,.cons r t,s=>.cons r (Vals.append t s)
theorem Vals.take:∀{xs:List V}{us:List Value} (n:Nat),Vals xs us→Vals (xs.take n) (us.take n)
 | _,_,0,_=>.nil
 | _,_,_+1,.nil=>.nil
 | _,_,n+1,.cons r t=>.cons r (Vals.take n t)
theorem Vals.drop:∀{xs:List V}{us:List Value} (n:Nat),Vals xs us→Vals (xs.drop n) (us.drop n)
 | _,_,0,r=>r
 | _,_,_+1,.nil=>.nil
 | _,_,n+1,.cons _ t=>Vals.drop n t
def uY:Option V→Option Value→Prop
 | some v,some u=>RelV v u
 | none,none=>True
 | _,_=>False
def KV {κ:Type}:List (κ×V)→List (κ×Value)→Prop:=Paired fun (p:κ×V) (q:κ×Value)=>p.1=q.1∧RelV p.2 q.2
def kV:Key→V
 | .inl i=>.int i
 | .inr x=>.str x
inductive HO where
 | lst (xs:List V)
 | tup (xs:List V)
 | dK (kvs:List (Key×V)) | dT (kvs:List (List Key×V))
 | set (S:Int→Bool) (n:Nat)
 | ins (C dx:Addr) (fs:List (Str×V))
 | own (x:Addr)
 | xd (fs:List (Str×V))
 | met (f x:Addr)
 | rng (lo hi:Int)
 | JF (o:Obj) (u:HO)
 | RM (ps:Array Value)
 | ext (φ:Heap→Prop)
abbrev Hp:=Addr→Option HO
def upd (H:Hp) (a:Addr) (o:HO):Hp:=fun b=>if b=a then some o else H b
theorem aj {H:Hp}{a:Addr}{o:HO}:upd H a o a=some o:=by unfold upd;rw[if_pos rfl]
theorem aE {H:Hp}{a b:Addr}{o:HO} (h:b≠a):upd H a o b=H b:=by unfold upd;rw[if_neg h]
theorem O1 {H:Hp}{a:Addr}{o u:HO}:upd (upd H a o) a u=upd H a u:=by
 funext b;unfold upd;split <;> rfl
theorem gW {H:Hp}{a b:Addr}{o u:HO} (h:H a=some o) (h':H b=some u) (d:o≠u):a≠b:=by
 intro e;subst e;rw[h] at h';exact d (Option.some.inj h')
theorem bC {H:Hp}{a b:Addr}{o:HO} (h:H a=some o) (h':H b=none):a≠b:=by
 intro e;subst e;rw[h] at h';cases h'
section
variable (P:Program) (w:World)
def eY (H:Hp) (h:Heap) (a:Addr):HO→Prop
 | .lst xs=>xs.length≤sizeLine∧∃(its:List Value) (n:Nat),Vals xs its∧h.get? a=some { cls:=.type "list",data:=.seq its.toArray n }
 | .tup xs=>xs.length≤sizeLine∧∃ its:List Value,Vals xs its∧IsTup h a its.toArray
 | .dK kvs=>kvs.length≤sizeLine∧(a == sysModules)=false∧∃ vs,KV kvs vs∧h.DictOf (oZ P w) a vs
 | .dT kvs=>kvs.length≤sizeLine∧(a == sysModules)=false∧∃ xs:List (List Key×Addr×Value),
   Paired (fun (p:List Key×V) (q:List Key×Addr×Value)=>p.1=q.1∧H q.2.1=some (.tup (p.1.map kV))∧RelV p.2 q.2.2) kvs xs ∧
   ∃ o es ep,h.get? a=some o∧o.ExactDict∧o.data=.dict es ep∧es.toList=xs.map (entryOfKey (tupleKind (oZ P w)))∧(xs.map (·.1)).Nodup
 | .set S n=>h.SetOf (intKind P w) a S n
 | .ins C dx fs=>H dx=some (.own a)∧fs.length≤1000∧dx≠a∧h.get? a=some (W.instObj C dx) ∧
   ∃ mA,h.Ns1 dx mA∧(∀ f,uY (fs.lookup f) (mA f))∧PySem.Within mA (fs.map (·.1))
 | .own _=>∃ o,h.get? a=some o
 | .xd fs=>∃ mA,h.Ns1 a mA∧∀ f,uY (fs.lookup f) (mA f)
 | .rng lo hi=>∃ t u v,h.get? a=some { cls:=.type "range",data:=.fields #[.int lo t,.int hi u,.int 1 v] }
 | .JF o u=>h.get? a=some o∧eY H h a u
 | .RM ps=>h.get? a=some { cls:=.none,data:=.fields ps }
 | .met f x=>h.get? a=some (W.methodObj (.ref f) (.ref x))
 | .ext φ=>φ h∧(∃ o,h.get? a=some o)∧∀ h1 h2:Heap,φ h1→(∀ o,h1.get? a=some o→h2.get? a=some o)→φ h2
def zC (H:Hp) (h:Heap):Prop:=∀ a o,H a=some o→eY P w H h a o
end
section
variable {P:Program}{w:World}{H H':Hp}{h h':Heap}{a:Addr}{o:HO}
theorem eY.lt (x:eY P w H h a o):a < h.objs.size:=by
 cases o with
 | lst xs=>obtain⟨_,_,_,_,e⟩:=x;exact Heap.lt_size e
 | tup xs=>obtain⟨_,_,_,p⟩:=x;exact p.lt
 | dK kvs=>obtain⟨_,_,_,_,o,_,_,e,_⟩:=x;exact Heap.lt_size e
 | dT kvs=>obtain⟨_,_,_,_,o,_,_,e,_⟩:=x;exact Heap.lt_size e
 | set S n=>obtain⟨o,_,_,_,e,_⟩:=x;exact Heap.lt_size e
 | ins C dx fs=>obtain⟨_,_,_,e,_⟩:=x;exact Heap.lt_size e
 | own y=>obtain⟨_,e⟩:=x;exact Heap.lt_size e
 | xd fs=>obtain⟨_,⟨_,_,_,e,_⟩,_⟩:=x;exact Heap.lt_size e
 | rng lo hi=>obtain⟨_,_,_,e⟩:=x;exact Heap.lt_size e
 | JF ob u=>obtain⟨e,_⟩:=x;exact Heap.lt_size e
 | RM ps=>exact Heap.lt_size (show h.get? a=some _ from x)
 | met f y=>exact Heap.lt_size (show h.get? a=some _ from x)
 | ext φ=>obtain⟨_,⟨_,e⟩,_⟩:=x;exact Heap.lt_size e
theorem Paired.Kp {α β:Type}{F G:α→β→Prop}:∀{l₁:List α}{l₂:List β},Paired F l₁ l₂→(∀ a b,F a b→G a b)→Paired G l₁ l₂
 | _,_,.nil,_=>.nil
 | _,_,.cons r t,f=>.cons (f _ _ r) (Paired.Kp t f)
theorem eY.stay (x:eY P w H h a o) (k:∀ b u,(b=a∨H b=some (.own a))→h.get? b=some u→h'.get? b=some u)
  (ho:∀ b,H b=some (.own a)→H' b=some (.own a)) (ht:∀ b xs,H b=some (.tup xs)→H' b=some (.tup xs)):eY P w H' h' a o:=by
 induction o with
 | lst xs=>obtain⟨z,its,n,r,e⟩:=x;exact⟨z,its,n,r,k _ _ (.inl rfl) e⟩
 | tup xs=>obtain⟨z,its,r,ob,e,c⟩:=x;exact⟨z,its,r,ob,k _ _ (.inl rfl) e,c⟩
 | dK kvs=>obtain⟨z,y,vs,r,ob,es,ep,e,c⟩:=x;exact⟨z,y,vs,r,ob,es,ep,k _ _ (.inl rfl) e,c⟩
 | dT kvs =>
  obtain⟨z,y,xs,r,ob,es,ep,e,c⟩:=x
  exact⟨z,y,xs,Paired.Kp r fun p q z=>⟨z.1,ht _ _ z.2.1,z.2.2⟩,ob,es,ep,k _ _ (.inl rfl) e,c⟩
 | set S n=>obtain⟨ob,es,ep,t,e,c⟩:=x;exact⟨ob,es,ep,t,k _ _ (.inl rfl) e,c⟩
 | ins C dx fs =>
  obtain⟨d,z,ne,e,mA,⟨od,es,ep,e2,c⟩,r⟩:=x
  exact⟨ho _ d,z,ne,k _ _ (.inl rfl) e,mA,⟨od,es,ep,k _ _ (.inr d) e2,c⟩,r⟩
 | own y=>obtain⟨ob,e⟩:=x;exact⟨ob,k _ _ (.inl rfl) e⟩
 | xd fs=>obtain⟨mA,⟨od,es,ep,e,c⟩,r⟩:=x;exact⟨mA,⟨od,es,ep,k _ _ (.inl rfl) e,c⟩,r⟩
 | rng lo hi=>obtain⟨t,u,v,e⟩:=x;exact⟨t,u,v,k _ _ (.inl rfl) e⟩
 | JF ob u ih=>obtain⟨e,q⟩:=x;exact⟨k _ _ (.inl rfl) e,ih q⟩
 | RM ps =>
  have e:h.get? a=some { cls:=.none,data:=.fields ps }:=x
  show h'.get? a=some { cls:=.none,data:=.fields ps }
  exact k a _ (.inl rfl) e
 | met f y =>
  have e:h.get? a=some (W.methodObj (.ref f) (.ref y)):=x
  show h'.get? a=some (W.methodObj (.ref f) (.ref y))
  exact k a _ (.inl rfl) e
 | ext φ=>obtain⟨p,⟨o,e⟩,st⟩:=x;exact⟨st _ _ p fun o q=>k _ _ (.inl rfl) q,⟨o,k _ _ (.inl rfl) e⟩,st⟩
theorem zC.lt (x:zC P w H h) (e:H a=some o):a < h.objs.size:=(x a o e).lt
theorem zC.fresh (x:zC P w H h) (e:h.objs.size≤a):H a=none:=by
 cases q:H a with
 | none=>rfl
 | some u=>exact absurd (Nat.lt_of_lt_of_le (x.lt q) e) (Nat.lt_irrefl _)
theorem zC.kept (x:zC P w H h) (k:∀ b u,h.get? b=some u→h'.get? b=some u):zC P w H h':=fun a o e =>
 (x a o e).stay (fun b u _ q=>k b u q) (fun _ q=>q) fun _ _ q=>q
theorem zC.laid (x:zC P w H h) (k:∀ b u,h.get? b=some u→h'.get? b=some u) (hp:h.objs.size≤a) (new:eY P w (upd H a o) h' a o):zC P w (upd H a o) h':=fun b u e=>by
 have hn:=x.fresh hp
 by_cases hb:b=a
 ·subst hb;rw[aj] at e;cases e;exact new
 ·rw[aE hb] at e
  exact(x b u e).stay (fun c v _ q=>k c v q) (fun c q=>by rw[aE (bC q hn)];exact q) fun c xs q=>by rw[aE (bC q hn)];exact q
end
def Rd (H:Hp) (a:Addr) (u:HO):Prop:=H a=some u∨∃ o,H a=some (.JF o u)
theorem Rd.ok {P:Program}{w:World}{H:Hp}{h:Heap}{a:Addr}{u:HO} (r:Rd H a u) (x:zC P w H h):eY P w H h a u:=by
 rcases r with r | ⟨o,r⟩
 ·exact x a u r
 ·obtain⟨_,q⟩:=x a _ r
  exact q
def Mut:Option HO→Prop
 | some (.lst _)=>True
 | some (.dK _)=>True
 | some (.dT _)=>True
 | some (.set _ _)=>True
 | some (.ins _ _ _)=>True
 | some (.ext _)=>True
 | _=>False
section
variable {P:Program}{w:World}{H:Hp}{h h':Heap}{x e:Addr}{o':HO}
theorem zC.write (ok:zC P w H h) (mu:Mut (H x)) (he:e=x∨H e=some (.own x)) (k:∀ b u,b≠e→h.get? b=some u→h'.get? b=some u) (Vx:∃ u,h'.get? e=some u)
  (new:eY P w (upd H x o') h' x o'):zC P w (upd H x o') h':=fun b u q=>by
 have V5:∀ c y,H c=some (.own y)→c≠x:=fun c y r z=>by subst z;rw[r] at mu;exact mu
 have ac9:∀ c xs,H c=some (.tup xs)→c≠x:=fun c xs r z=>by subst z;rw[r] at mu;exact mu
 by_cases hb:b=x
 ·subst hb;rw[aj] at q;cases q;exact new
 ·rw[aE hb] at q
  by_cases RN:b=e
  ·have q':H b=some (.own x):=by
    rcases he with z | z
    ·exact absurd (RN.trans z) hb
    ·rw[RN];exact z
   rw[q] at q';cases q'
   obtain⟨v,hv⟩:=Vx
   exact⟨v,by rw[RN];exact hv⟩
  ·refine(ok b u q).stay (fun c v hc r=>k c v ?_ r) (fun c r=>by rw[aE (V5 c b r)];exact r) fun c xs r=>by rw[aE (ac9 c xs r)];exact r
   rcases hc with rfl | hc
   ·exact RN
   ·rintro rfl
    rcases he with z | z
    ·exact V5 c b hc z
    ·rw[hc] at z;cases z;exact hb rfl
end
structure Un (fs ex:List Addr) (H H':Hp) (h h':Heap):Prop where
 keep:∀ b o,h.get? b=some o→H b=none→b∉fs→b∉ex→h'.get? b=some o
 slot:∀ b o,h.get? b=some o→H b=none→b∈fs→b∉ex→∃ sl,h'.get? b=some { o with slots:=sl }
 free:∀ b o,h.get? b=some o→H b=none→b∉ex→H' b=none
 there:∀ b o,h.get? b=some o→b∉ex→∃ o',h'.get? b=some o'
 tups:∀ b xs,H b=some (.tup xs)→H' b=some (.tup xs)
 Dh:∀ b o u,H b=some (.JF o u)→H' b=some (.JF o u)
 EM:∀ b ps,H b=some (.RM ps)→∃ more,H' b=some (.RM (ps++more))
section
variable {fs fs' ex ex':List Addr}{H H1 H2:Hp}{h h1 h2 h':Heap}{a x e:Addr}{o:HO}
theorem Un.any (u:Un fs ex H H1 h h1) {b:Addr}{ob:Obj} (q:h.get? b=some ob) (n:H b=none) (hx:b∉ex):∃ sl,h1.get? b=some { ob with slots:=sl }:=by
 by_cases hb:b∈fs
 ·exact u.slot b ob q n hb hx
 ·exact⟨ob.slots,u.keep b ob q n hb hx⟩
theorem Un.kept (k:∀ b u,h.get? b=some u→h'.get? b=some u):Un fs ex H H h h' :=
 ⟨fun b ob q _ _ _=>k b ob q,fun b ob q _ _ _=>⟨ob.slots,k b ob q⟩,fun _ _ _ n _=>n,fun b ob q _=>⟨ob,k b ob q⟩,fun _ _ q=>q,fun _ _ _ q=>q,fun _ ps q=>⟨#[],by rw[q];simp⟩⟩
theorem Un.refl:Un fs ex H H h h:=Un.kept fun _ _ q=>q
theorem Un.laid (k:∀ b u,h.get? b=some u→h'.get? b=some u) (hp:h.objs.size≤a) (hn:H a=none):Un fs ex H (upd H a o) h h' where
 keep:=fun b u q _ _ _=>k b u q
 slot:=fun b u q _ _ _=>⟨u.slots,k b u q⟩
 free:=fun b u q n _=>by rw[aE (Nat.ne_of_lt (Nat.lt_of_lt_of_le (Heap.lt_size q) hp))];exact n
 there:=fun b u q _=>⟨u,k b u q⟩
 tups:=fun b xs q=>by rw[aE (bC q hn)];exact q
 Dh:=fun b u xs q=>by rw[aE (bC q hn)];exact q
 EM:=fun b ps q=>⟨#[],by rw[aE (bC q hn),q];simp⟩
theorem Un.write (mu:Mut (H x)) (he:e=x∨H e=some (.own x)) (k:∀ b u,b≠e→h.get? b=some u→h'.get? b=some u) (Vx:∃ u,h'.get? e=some u):Un fs ex H (upd H x o) h h':=by
 have hx:∀ b,H b=none→b≠x:=fun b n z=>by subst z;rw[n] at mu;exact mu
 have hb:∀ b,H b=none→b≠e:=fun b n z=>by
  subst z
  rcases he with r | r
  ·exact hx b n r
  ·rw[n] at r;cases r
 have hm:∀ b u,H b=some u→¬Mut (some u)→b≠x:=fun b u q nm z=>by subst z;rw[q] at mu;exact nm mu
 refine⟨fun b u q n _ _=>k b u (hb b n) q,fun b u q n _ _=>⟨u.slots,k b u (hb b n) q⟩,fun b u q n _=>by rw[aE (hx b n)];exact n,fun b u q _=>?_,
  fun b xs q=>by rw[aE (hm b _ q fun z=>z)];exact q,fun b u xs q=>by rw[aE (hm b _ q fun z=>z)];exact q,fun b ps q=>⟨#[],by rw[aE (hm b _ q fun z=>z),q];simp⟩⟩
 by_cases RN:b=e
 ·subst RN;exact Vx
 ·exact⟨u,k b u RN q⟩
end
def trk (h:Heap) (H:Hp):List Addr:=(List.range h.objs.size).filter fun a=>(H a).isSome
def Di (h:Heap) (H:Hp):Heap:=W.hideAll h (trk h H)
theorem Kq (h:Heap) (H:Hp):(Di h H).objs.size=h.objs.size:=W.hideAll_size _ _
theorem Ml {h:Heap}{H:Hp}{b:Addr}{o:Obj} (e:h.get? b=some o) (n:H b=none):(Di h H).get? b=some o :=
 W.hideAll_get _ e fun hm=>by
  have q:(H b).isSome=true:=(List.mem_filter.mp hm).2
  rw[n] at q;simp at q
theorem O2 {h:Heap}{H:Hp}{b:Addr}{o:Obj} (e:(Di h H).get? b=some o):h.get? b=some o∧H b=none:=by
 have e':h.get? b=some o:=W.of_hideAll (trk h H) e
 refine⟨e',?_⟩
 cases q:H b with
 | none=>rfl
 | some x =>
  have hm:b∈trk h H:=List.mem_filter.mpr ⟨List.mem_range.mpr (Heap.lt_size e'),by simp[q]⟩
  have z:(Di h H).get? b=none:=W.hideAll_none (trk h H) hm
  rw[z] at e;cases e
def O3 (g h:Heap) (L:Addr):List (Addr×Obj):=(List.range h.objs.size).filterMap fun a=>if a=L∨(g.get? a).isSome=true then none else (h.get? a).map fun o=>(a,o)
def rest (g h:Heap) (L d:Addr):List (Addr×Obj):=(O3 g h L).filter fun p=>decide (p.1≠d)
structure Mod (K:W.Frag) (mg:Str→Option Value) (base:Heap):Prop where
 V6:K.In base
 glob:base.Ns mainGlobals mg
 blt:∃ mb,base.Ns builtinsNs mb∧∀ x:Str,x ≠ "__name__"→mb x=bootBuiltins x
 nolimit:base.NoLimit
structure Cx where
 prog:Program
 w:World
 K:W.Frag
 mg:Str→Option Value
 base:Heap
 A:Around
 N:List Str
 s₀:Shared
 H₀:Hp
 env:Env
 outer:List Env
 stack:List Env
 ex:List Addr
 fn:Str→Bool
 calm:Bool
 pn:List (Addr×Obj)
 xe:Value→Shared→Prop
def frs (l:List Env):List Addr:=l.filterMap (·.frame)
abbrev Cx.fs (X:Cx):List Addr:=frs X.outer
def Vis (sc:Scope) (x:Str):Prop:=sc.names.lookup x=some .local∨sc.names.lookup x=some .cell∨sc.names.lookup x=some .free
def Loc (sc:Scope) (x:Str):Prop:=sc.names.lookup x=some .local∨sc.names.lookup x=some .cell
def Look (env:Env) (h:Heap) (m:Str→Option Value) (x:Str) (u:Value):Prop :=
 (env.kindOf x=some .local∧m x=some u)∨((env.kindOf x=some .cell∨env.kindOf x=some .free)∧∃ c,env.cells.lookup x=some c∧h.IsCell c (some u))
structure Cx.Ok (X:Cx):Prop where
 mod:Mod X.K X.mg X.base
 kind:X.env.scope.kind=.function
 glob:X.env.globals=mainGlobals
 blt:X.env.builtins=builtinsNs
 above:X.s₀.heap.objs.size≤X.env.locals
 inj:∀ x y c,X.env.cells.lookup x=some c→X.env.cells.lookup y=some c→x=y
 has:∀ x,(X.env.kindOf x=some .cell∨X.env.kindOf x=some .free)→∃ c,X.env.cells.lookup x=some c
 V7:∀ x c,X.fn x=true→X.env.cells.lookup x=some c→X.s₀.heap.objs.size≤c
 hd:X.calm=true→X.A.handled=none
 frames:X.A.frames=some X.stack
 stk:X.stack=X.outer∨(X.stack=X.env :: X.outer∧X.env.frame=some X.env.locals)
 exf:∀ b∈X.ex,b≠X.env.locals∧∀ x c,X.env.cells.lookup x=some c→c≠b
 bs:∀ b o,X.base.get? b=some o→X.s₀.heap.get? b=some o∧X.H₀ b=none
 O4:X.base.objs.size≤X.s₀.heap.objs.size
 Mm:∀ b o,X.base.get? b=some o→b∉X.ex
 O5:∀ b∈X.ex,b∉X.fs
 yD:X.s₀.heap.FunFrames X.base X.outer
 RO:∀ b∈X.fs,X.H₀ b=none
structure Inv (X:Cx) (pins:List (Addr×Obj)) (σ:List (Option V)) (H:Hp) (s:Shared):Prop where
 ok:X.Ok
 os:s.os=X.s₀.os
 bare:AllBare s.gens
 base:Un X.fs X.ex X.H₀ H X.s₀.heap s.heap
 loc:∃ m,s.heap.Ns X.env.locals m∧∀(i:Nat) (x:Str) (v:V),X.N[i]? = some x→σ[i]? = some (some v)→Vis X.env.scope x→∃ u,RelV v u∧Look X.env s.heap m x u
 cell:∀ x c,X.env.cells.lookup x=some c→∃ v,s.heap.IsCell c v
 free:H X.env.locals=none
 tE:∀ x c,X.env.cells.lookup x=some c→H c=none
 pin:∀ p∈X.pn++pins,s.heap.get? p.1=some p.2∧H p.1=none∧p.1≠X.env.locals∧p.1∉X.fs∧∀ v,p.2.data≠.cell v
 hok:zC X.prog X.w H s.heap
 len:σ.length=X.N.length
section
variable {X:Cx}{pins:List (Addr×Obj)}{σ:List (Option V)}{H H':Hp}{s:Shared}{h':Heap}
theorem Cx.Ok.ada (ok:X.Ok) {b:Addr}{o:Obj} (e:X.base.get? b=some o):b∉X.fs:=fun hb=>by
 have:=(ok.yD.mem hb).1
 rw[e] at this;cases this
theorem Inv.bs (I:Inv X pins σ H s):∀ b o,X.base.get? b=some o→s.heap.get? b=some o∧H b=none:=fun b o e =>
 ⟨I.base.keep b o (I.ok.bs b o e).1 (I.ok.bs b o e).2 (I.ok.ada e) (I.ok.Mm b o e),I.base.free b o (I.ok.bs b o e).1 (I.ok.bs b o e).2 (I.ok.Mm b o e)⟩
theorem Inv.bk (I:Inv X pins σ H s):∀ b o,X.base.get? b=some o→s.heap.get? b=some o:=fun b o e=>(I.bs b o e).1
theorem Inv.mod (I:Inv X pins σ H s):Mod X.K X.mg X.base:=I.ok.mod
theorem Inv.uZ (I:Inv X pins σ H s):X.K.In s.heap:=I.ok.mod.V6.keeps I.bk
theorem Inv.lt (I:Inv X pins σ H s):X.env.locals < s.heap.objs.size:=let ⟨_,hn,_⟩:=I.loc;hn.lt
theorem Inv.sz (I:Inv X pins σ H s):X.s₀.heap.objs.size≤s.heap.objs.size:=Nat.le_trans I.ok.above (Nat.le_of_lt I.lt)
theorem Inv.adb (I:Inv X pins σ H s) {a:Addr} (h:s.heap.objs.size≤a):a∉X.fs:=fun hb=>by
 obtain⟨_,o,ho,_⟩:=I.ok.yD.mem hb
 exact absurd (Nat.lt_of_lt_of_le (Heap.lt_size ho) (Nat.le_trans I.sz h)) (Nat.lt_irrefl _)
theorem Inv.RP (I:Inv X pins σ H s):∀ x c,X.env.cells.lookup x=some c→c≠X.env.locals:=fun x c e z=>by
 obtain⟨v,o,ho,hd⟩:=I.cell x c e
 obtain⟨m,⟨o',es,ep,ho',hd',_⟩,_⟩:=I.loc
 rw[z,ho'] at ho;cases ho;rw[hd'] at hd;cases hd
theorem Inv.yD (I:Inv X pins σ H s):s.heap.FunFrames X.base X.outer:=by
 have all:∀(l:List Env),(∀ b∈frs l,b∈X.fs)→X.s₀.heap.FunFrames X.base l→s.heap.FunFrames X.base l:=by
  intro l
  induction l with
  | nil=>intro _ _;trivial
  | cons env r ih =>
   intro hs hl
   obtain⟨hk,⟨L,o,hf,hn,ho,hd⟩,hr⟩:=hl
   have hL:L∈X.fs:=hs L (by unfold frs;rw[List.filterMap_cons,hf];exact List.mem_cons_self)
   obtain⟨sl,e⟩:=I.base.slot L o ho (I.ok.RO L hL) hL fun z=>I.ok.O5 L z hL
   exact⟨hk,⟨L,_,hf,hn,e,hd⟩,ih (fun b hb=>hs b (by unfold frs;rw[List.filterMap_cons,hf];exact List.mem_cons_of_mem _ hb)) hr⟩
 exact all X.outer (fun _ hb=>hb) I.ok.yD
theorem Inv.stack (I:Inv X pins σ H s):s.heap.FunFrames X.base X.stack:=by
 rcases I.ok.stk with e | ⟨e,hf⟩
 ·rw[e];exact I.yD
 ·rw[e]
  obtain⟨m,hn,_⟩:=I.loc
  refine .cons (by rw[I.ok.kind];decide) hf hn ?_ I.yD
  exact Heap.get?_none_of_le (Nat.le_trans I.ok.O4 I.ok.above)
theorem Inv.Dj (I:Inv X pins σ H s):∀ b∈frs X.stack,b∈X.env.locals :: X.fs:=fun b hb=>by
 rcases I.ok.stk with e | ⟨e,hf⟩
 ·rw[e] at hb;exact List.mem_cons_of_mem _ hb
 ·rw[e] at hb
  unfold frs at hb
  rw[List.filterMap_cons,hf] at hb
  exact hb
theorem Inv.JG (I:Inv X pins σ H s):∀ b∈frs X.stack,H b=none:=fun b hb=>by
 rcases List.mem_cons.mp (I.Dj b hb) with e | hb
 ·rw[e];exact I.free
 ·obtain⟨_,o,ho,_⟩:=I.ok.yD.mem hb
  exact I.base.free b o ho (I.ok.RO b hb) fun z=>I.ok.O5 b z hb
theorem Inv.step {g':Array GenState}{t':Nat}{d':Drawn}{ch:List Addr} (I:Inv X pins σ H s)
  (hch:∀ b∈ch,(b∈X.ex∨X.s₀.heap.objs.size≤b)∧b≠X.env.locals∧(∀ x c,X.env.cells.lookup x=some c→c≠b)∧∀ p∈X.pn++pins,p.1≠b)
  (keep:∀ b o,b≠X.env.locals→b∉X.fs→b∉ch→s.heap.get? b=some o→H b=none→h'.get? b=some o)
  (slot:∀ b o,b≠X.env.locals→b∈X.fs→b∉ch→s.heap.get? b=some o→H b=none→∃ sl,h'.get? b=some { o with slots:=sl }) (free:∀ b o,b∉ch→s.heap.get? b=some o→H b=none→H' b=none)
  (there:∀ b o,b∉ch→s.heap.get? b=some o→∃ o',h'.get? b=some o')
  (tups:∀ b xs,H b=some (.tup xs)→H' b=some (.tup xs)) (Dh:∀ b o u,H b=some (.JF o u)→H' b=some (.JF o u)) (EM:∀ b ps,H b=some (.RM ps)→∃ more,H' b=some (.RM (ps++more)))
  (ns:∀ m,s.heap.Ns X.env.locals m→h'.Ns X.env.locals m) (hok:zC X.prog X.w H' h') (hg:AllBare g') :
  Inv X pins σ H' { s with heap:=h',gens:=g',drawn:=d',toks:=t' }:=by
 have neL:∀ b o,X.s₀.heap.get? b=some o→b≠X.env.locals:=fun b o e=>Nat.ne_of_lt (Nat.lt_of_lt_of_le (Heap.lt_size e) I.ok.above)
 have neC:∀ b o,X.s₀.heap.get? b=some o→b∉X.ex→b∉ch:=fun b o e hx hb=>by
  rcases(hch b hb).1 with z | z
  ·exact hx z
  ·exact absurd (Nat.lt_of_lt_of_le (Heap.lt_size e) z) (Nat.lt_irrefl _)
 have cellK:∀ x c,X.env.cells.lookup x=some c→∀ v,s.heap.IsCell c v→h'.IsCell c v:=fun x c e v ⟨o,ho,hd⟩=>by
  have V8:c∉ch:=fun z=>(hch c z).2.2.1 x c e rfl
  by_cases hc:c∈X.fs
  ·obtain⟨sl,q⟩:=slot c o (I.RP x c e) hc V8 ho (I.tE x c e)
   exact⟨_,q,hd⟩
  ·exact⟨o,keep c o (I.RP x c e) hc V8 ho (I.tE x c e),hd⟩
 refine⟨I.ok,I.os,hg,⟨fun b o e n hb hx=>?_,fun b o e n hb hx=>?_,fun b o e n hx=>?_,fun b o e hx=>?_,fun b xs e=>tups b xs (I.base.tups b xs e),fun b o xs e=>Dh b o xs (I.base.Dh b o xs e),fun b ps e=>?_⟩,?_,fun x c e=>?_,?_,fun x c e=>?_,fun p hp=>?_,hok,I.len⟩
 ·exact keep b o (neL b o e) hb (neC b o e hx) (I.base.keep b o e n hb hx) (I.base.free b o e n hx)
 ·obtain⟨sl,e1⟩:=I.base.slot b o e n hb hx
  obtain⟨sl',e2⟩:=slot b _ (neL b o e) hb (neC b o e hx) e1 (I.base.free b o e n hx)
  exact⟨sl',e2⟩
 ·obtain⟨o',e1⟩:=I.base.there b o e hx
  exact free b o' (neC b o e hx) e1 (I.base.free b o e n hx)
 ·obtain⟨o',e1⟩:=I.base.there b o e hx
  exact there b o' (neC b o e hx) e1
 ·obtain⟨m1,e1⟩:=I.base.EM b ps e
  obtain⟨m2,e2⟩:=EM b _ e1
  exact⟨m1++m2,by rw[e2,Array.append_assoc]⟩
 ·obtain⟨m,hn,hl⟩:=I.loc
  refine⟨m,ns m hn,fun i x v e1 e2 e3=>?_⟩
  obtain⟨u,r,l⟩:=hl i x v e1 e2 e3
  refine⟨u,r,?_⟩
  rcases l with l | ⟨k,c,e,z⟩
  ·exact .inl l
  ·exact .inr ⟨k,c,e,cellK x c e _ z⟩
 ·obtain⟨v,z⟩:=I.cell x c e
  exact⟨v,cellK x c e v z⟩
 ·obtain⟨m,⟨o,_,_,ho,_⟩,_⟩:=I.loc
  exact free _ o (fun z=>(hch _ z).2.1 rfl) ho I.free
 ·obtain⟨v,o,ho,hd⟩:=I.cell x c e
  exact free c o (fun z=>(hch c z).2.2.1 x c e rfl) ho (I.tE x c e)
 ·obtain⟨e,n,ne,nf,d⟩:=I.pin p hp
  have V8:p.1∉ch:=fun z=>(hch p.1 z).2.2.2 p hp rfl
  exact⟨keep p.1 p.2 ne nf V8 e n,free p.1 p.2 V8 e n,ne,nf,d⟩
theorem Inv.un {t':Nat} (I:Inv X pins σ H s) (u:Un X.fs [] H H' s.heap h') (hok:zC X.prog X.w H' h'):Inv X pins σ H' { s with heap:=h',toks:=t' }:=by
 obtain⟨m,⟨o,es,ep,ho,r⟩,_⟩:=id I.loc
 obtain⟨sl,hL⟩:=u.any ho I.free (by simp)
 exact I.step (g':=s.gens) (d':=s.drawn) (ch:=[]) (fun _ z=>nomatch z) (fun b o _ hb _ e n=>u.keep b o e n hb (by simp)) (fun b o _ hb _ e n=>u.slot b o e n hb (by simp)) (fun b o _ e n=>u.free b o e n (by simp)) (fun b o _ e=>u.there b o e (by simp)) u.tups u.Dh u.EM (fun m' hm=>by
  obtain⟨o',es',ep',ho',r'⟩:=hm
  rw[ho] at ho';cases ho'
  exact⟨_,es',ep',hL,r'⟩) hok I.bare
theorem Inv.call {g':Array GenState}{t':Nat}{d':Drawn}{ch:List Addr} (I:Inv X pins σ H s) (u:Un (frs X.stack) ch H H' s.heap h') (hok:zC X.prog X.w H' h') (hg:AllBare g')
  (hch:∀ b∈ch,(b∈X.ex∨X.s₀.heap.objs.size≤b)∧b≠X.env.locals∧(∀ x c,X.env.cells.lookup x=some c→c≠b)∧∀ p∈X.pn++pins,p.1≠b) :
  Inv X pins σ H' { s with heap:=h',gens:=g',drawn:=d',toks:=t' }:=by
 obtain⟨m,⟨o,es,ep,ho,r⟩,_⟩:=id I.loc
 obtain⟨sl,hL⟩:=u.any ho I.free fun z=>(hch _ z).2.1 rfl
 exact I.step (ch:=ch) hch (fun b o hL hb hc e n=>u.keep b o e n (fun z=>(List.mem_cons.mp (I.Dj b z)).elim hL hb) hc) (fun b o _ _ hc e n=>u.any e n hc) (fun b o hc e n=>u.free b o e n hc) (fun b o hc e=>u.there b o e hc) u.tups u.Dh u.EM (fun m' hm=>by
  obtain⟨o',es',ep',ho',r'⟩:=hm
  rw[ho] at ho';cases ho'
  exact⟨_,es',ep',hL,r'⟩) hok hg
theorem Inv.turned {t':Nat}{it:Addr} (I:Inv X pins σ H s) (k:∀ b o,b≠it→s.heap.get? b=some o→h'.get? b=some o) (hn:H it=none) (hL:it≠X.env.locals)
  (h1:it∈X.ex∨X.s₀.heap.objs.size≤it) (h2:∀ x c,X.env.cells.lookup x=some c→c≠it) (h3:∀ p∈X.pn++pins,p.1≠it):Inv X pins σ H { s with heap:=h',toks:=t' }:=by
 have V9:∀ b u,H b=some u→b≠it:=fun b u e z=>by rw[z,hn] at e;cases e
 refine I.step (g':=s.gens) (d':=s.drawn) (ch:=[it]) (fun b hb=>?_) (fun b o _ _ hc e _=>k b o (fun z=>hc (by simp[z])) e) (fun b o _ _ hc e _=>⟨o.slots,k b o (fun z=>hc (by simp[z])) e⟩) (fun _ _ _ _ n=>n)
  (fun b o hc e=>⟨o,k b o (fun z=>hc (by simp[z])) e⟩) (fun _ _ e=>e) (fun _ _ _ e=>e) (fun b ps e=>⟨#[],by rw[e];simp⟩) (fun m hm=>?_) (fun b u e=>?_) I.bare
 ·have e:b=it:=by simpa using hb
  subst e
  exact⟨h1,hL,h2,h3⟩
 ·obtain⟨o,es,ep,ho,r⟩:=hm
  exact⟨o,es,ep,k _ o (Ne.symm hL) ho,r⟩
 ·refine(I.hok b u e).stay (fun c v hc q=>k c v ?_ q) (fun _ q=>q) fun _ _ q=>q
  rcases hc with z | z
  ·rw[z];exact V9 b u e
  ·exact V9 c _ z
theorem Inv.tok (I:Inv X pins σ H s) (t:Nat):Inv X pins σ H { s with toks:=t }:=I.un (h':=s.heap) (t':=t) Un.refl I.hok
theorem Inv.kept {t':Nat} (I:Inv X pins σ H s) (k:∀ b u,s.heap.get? b=some u→h'.get? b=some u):Inv X pins σ H { s with heap:=h',toks:=t' }:=I.un (Un.kept k) (I.hok.kept k)
theorem Inv.laid {a:Addr}{o:HO}{t':Nat} (I:Inv X pins σ H s) (k:∀ b u,s.heap.get? b=some u→h'.get? b=some u) (hp:s.heap.objs.size≤a) (new:eY X.prog X.w (upd H a o) h' a o) :
 Inv X pins σ (upd H a o) { s with heap:=h',toks:=t' }:=I.un (Un.laid k hp (I.hok.fresh hp)) (I.hok.laid k hp new)
theorem Inv.write {x e:Addr}{o:HO}{t':Nat} (I:Inv X pins σ H s) (mu:Mut (H x)) (he:e=x∨H e=some (.own x)) (k:∀ b u,b≠e→s.heap.get? b=some u→h'.get? b=some u) (Vx:∃ u,h'.get? e=some u)
 (new:eY X.prog X.w (upd H x o) h' x o):Inv X pins σ (upd H x o) { s with heap:=h',toks:=t' }:=I.un (Un.write mu he k Vx) (I.hok.write mu he k Vx new)
theorem Inv.JH {Q9:List (Addr×Obj)} (I:Inv X pins σ H s) (h:∀ p∈Q9,s.heap.get? p.1=some p.2∧H p.1=none∧p.1≠X.env.locals∧p.1∉X.fs∧∀ v,p.2.data≠.cell v):Inv X Q9 σ H s :=
 ⟨I.ok,I.os,I.bare,I.base,I.loc,I.cell,I.free,I.tE,fun p hp=>(List.mem_append.mp hp).elim (fun z=>I.pin p (List.mem_append_left _ z)) (h p),I.hok,I.len⟩
theorem EN {N:List Str} (hN:N.Nodup) {i j:Nat}{x:Str} (a:N[i]? = some x) (b:N[j]? = some x):i=j:=by
 obtain⟨h1,e1⟩:=List.getElem?_eq_some_iff.mp a
 obtain⟨h2,e2⟩:=List.getElem?_eq_some_iff.mp b
 exact(List.getElem_inj hN).mp (e1.trans e2.symm)
theorem Cc {M:Model}{A:Around}{E:Value→Shared→Prop}{i:Nat}{x:Str}{v:V}{u:Value}{Q:Unit→Shared→Prop} (I:Inv X pins σ H s) (hN:X.N.Nodup) (hi:X.N[i]? = some x) (hx:Loc X.env.scope x) (r:RelV v u)
  (h:∀ s',Inv X pins (σ.set i (some v)) H s'→(∃ a,Heap.SameBut a s.heap s'.heap∧(a=X.env.locals∨X.env.cells.lookup x=some a))→Q () s') (hf:X.fn x=true∨X.env.scope.names.lookup x=some .local:=by first | exact .inl rfl | exact .inr rfl | assumption):wpAny M A (storeName X.env x u) Q E s:=by
 obtain⟨m,hn,hl⟩:=id I.loc
 have hcls:(X.env.scope.kind == .class || (X.env.scope.kind == .module && X.env.locals != X.env.globals))=false:=by rw[I.ok.kind];rfl
 have Wa:i < σ.length:=by rw[I.len];exact(List.getElem?_eq_some_iff.mp hi).1
 have RP:=I.RP
 have tracked:∀{a:Addr}{h':Heap},(∃ o,s.heap.get? a=some o∧H a=none)→Heap.SameBut a s.heap h'→zC X.prog X.w H h':=fun {a h'} ha hs b ob e=>by
  obtain⟨_,_,hfree⟩:=ha
  refine(I.hok b ob e).stay (fun c w' hc q=>(hs.2 c ?_).trans q) (fun _ q=>q) fun _ _ q=>q
  rintro rfl
  rcases hc with rfl | hc
  ·rw[hfree] at e;cases e
  ·rw[hfree] at hc;cases hc
 rcases hx with hk | hk
 ·refine wpAny_storeName_local hk hn (fun h' hn' hs=>?_) hcls
  obtain⟨oL,_,_,hoL,_⟩:=id hn
  refine h _ ⟨I.ok,I.os,I.bare,⟨fun b o e n hb hx=>?_,fun b o e n hb hx=>?_,I.base.free,fun b o e hx=>?_,I.base.tups,I.base.Dh,I.base.EM⟩,⟨_,hn',fun j y v' e1 e2 e3=>?_⟩,fun y c e=>?_,I.free,I.tE,fun p hp=>?_,tracked ⟨oL,hoL,I.free⟩ hs,by simpa using I.len⟩ ⟨_,hs,.inl rfl⟩
  ·exact(hs.2 b (Nat.ne_of_lt (Nat.lt_of_lt_of_le (Heap.lt_size e) I.ok.above))).trans (I.base.keep b o e n hb hx)
  ·obtain⟨sl,e1⟩:=I.base.slot b o e n hb hx
   exact⟨sl,(hs.2 b (Nat.ne_of_lt (Nat.lt_of_lt_of_le (Heap.lt_size e) I.ok.above))).trans e1⟩
  ·obtain⟨o',e1⟩:=I.base.there b o e hx
   exact⟨o',(hs.2 b (Nat.ne_of_lt (Nat.lt_of_lt_of_le (Heap.lt_size e) I.ok.above))).trans e1⟩
  ·by_cases hj:j=i
   ·subst hj
    rw[hi] at e1;cases e1
    rw[List.getElem?_set_self Wa] at e2
    cases e2
    exact⟨u,r,.inl ⟨hk,by simp⟩⟩
   ·rw[List.getElem?_set_ne (Ne.symm hj)] at e2
    obtain⟨u',r',q⟩:=hl j y v' e1 e2 e3
    refine⟨u',r',?_⟩
    rcases q with ⟨k,e⟩ | ⟨k,c,e,z⟩
    ·refine .inl ⟨k,?_⟩
     have:y≠x:=fun e=>hj (EN hN e1 (e ▸ hi))
     simp[this,e]
    ·exact .inr ⟨k,c,e,z.sameBut hs (RP y c e)⟩
  ·obtain⟨w',z⟩:=I.cell y c e
   exact⟨w',z.sameBut hs (RP y c e)⟩
  ·obtain⟨e,n,ne,nf,d⟩:=I.pin p hp
   exact⟨(hs.2 p.1 ne).trans e,n,ne,nf,d⟩
 ·have hfn:X.fn x=true:=by
   rcases hf with z | z
   ·exact z
   ·rw[z] at hk;cases hk
  obtain⟨c,hc⟩:=I.ok.has x (.inl hk)
  obtain⟨w',z⟩:=I.cell x c hc
  refine wpAny_storeName_cell I.ok.kind hk hc z (fun h' hc' hs=>?_)
  obtain⟨oc,hoc,ade⟩:=id z
  refine h { s with heap:=h' } ⟨I.ok,I.os,I.bare,⟨fun b o e n hb hx=>?_,fun b o e n hb hx=>?_,I.base.free,fun b o e hx=>?_,I.base.tups,I.base.Dh,I.base.EM⟩,⟨m,hn.sameBut hs (Ne.symm (RP x c hc)),fun j y v' e1 e2 e3=>?_⟩,fun y c' e=>?_,I.free,I.tE,fun p hp=>?_,tracked ⟨oc,hoc,I.tE x c hc⟩ hs,by simpa using I.len⟩ ⟨c,hs,.inr hc⟩
  ·exact(hs.2 b (Nat.ne_of_lt (Nat.lt_of_lt_of_le (Heap.lt_size e) (I.ok.V7 x c hfn hc)))).trans (I.base.keep b o e n hb hx)
  ·obtain⟨sl,e1⟩:=I.base.slot b o e n hb hx
   exact⟨sl,(hs.2 b (Nat.ne_of_lt (Nat.lt_of_lt_of_le (Heap.lt_size e) (I.ok.V7 x c hfn hc)))).trans e1⟩
  ·obtain⟨o',e1⟩:=I.base.there b o e hx
   exact⟨o',(hs.2 b (Nat.ne_of_lt (Nat.lt_of_lt_of_le (Heap.lt_size e) (I.ok.V7 x c hfn hc)))).trans e1⟩
  ·by_cases hj:j=i
   ·subst hj
    rw[hi] at e1;cases e1
    rw[List.getElem?_set_self Wa] at e2
    cases e2
    exact⟨u,r,.inr ⟨.inl hk,c,hc,hc'⟩⟩
   ·rw[List.getElem?_set_ne (Ne.symm hj)] at e2
    obtain⟨u',r',q⟩:=hl j y v' e1 e2 e3
    refine⟨u',r',?_⟩
    rcases q with q | ⟨k,c',e,z'⟩
    ·exact .inl q
    ·refine .inr ⟨k,c',e,z'.sameBut hs ?_⟩
     rintro rfl
     exact hj (EN hN e1 (I.ok.inj _ _ _ e hc ▸ hi))
  ·by_cases hcc:c'=c
   ·subst hcc;exact⟨_,hc'⟩
   ·obtain⟨w2,z2⟩:=I.cell y c' e
    exact⟨w2,z2.sameBut hs hcc⟩
  ·obtain⟨e,n,ne,nf,d⟩:=I.pin p hp
   refine⟨(hs.2 p.1 ?_).trans e,n,ne,nf,d⟩
   intro q
   rw[q,hoc] at e
   have q':oc=p.2:=Option.some.inj e
   exact d w' (by rw[←q'];exact ade)
theorem EO {M:Model}{A:Around}{E:Value→Shared→Prop}{i:Nat}{x:Str}{v:V}{u:Value}{Q:Unit→Shared→Prop} (I:Inv X pins σ H s) (hN:X.N.Nodup) (hi:X.N[i]? = some x) (hx:Loc X.env.scope x) (r:RelV v u)
  (h:∀ s',Inv X pins (σ.set i (some v)) H s'→Q () s') (hf:X.fn x=true∨X.env.scope.names.lookup x=some .local:=by first | exact .inl rfl | exact .inr rfl | assumption):wpAny M A (storeName X.env x u) Q E s :=
 Cc I hN hi hx r (fun s' I' _=>h s' I') hf
theorem Inv.Wb {s':Shared}{ch:List Addr} (I:Inv X pins σ H s) (ho:s'.os=s.os) (u:Un (frs X.stack) ch H H' s.heap s'.heap) (hok:zC X.prog X.w H' s'.heap) (hg:AllBare s'.gens)
  (hch:∀ b∈ch,(b∈X.ex∨X.s₀.heap.objs.size≤b)∧b≠X.env.locals∧(∀ x c,X.env.cells.lookup x=some c→c≠b)∧∀ p∈X.pn++pins,p.1≠b):Inv X pins σ H' s':=by
 obtain⟨h',g',d',t',o'⟩:=s'
 have e:o'=s.os:=ho
 subst e
 exact I.call (g':=g') (t':=t') (d':=d') u hok hg hch
end
abbrev XK:=Value→Option Addr→Hp→Prop
abbrev St:=List (Option V)
abbrev VK:=V→Hp→Prop
abbrev TE:=St→Hp→VK→Prop
abbrev TT:=St→Hp→(Bool→Hp→Prop)→Prop
abbrev TA:=St→Hp→(List V→Hp→Prop)→Prop
structure Ends where
 nx:St→Hp→Prop
 rt:VK
 bk:St→Hp→Prop:=fun _ _=>False
 ct:St→Hp→Prop:=fun _ _=>False
abbrev TS:=Ends→St→Hp→Prop
def EP (X:Cx) (pins:List (Addr×Obj)) (σ:St) (Q:VK) (u:Value) (s':Shared):Prop:=∃ v H',Inv X pins σ H' s'∧RelV v u∧Q v H'
def TP (X:Cx) (pins:List (Addr×Obj)) (σ:St) (Q:Bool→Hp→Prop) (b:Bool) (s':Shared):Prop:=∃ H',Inv X pins σ H' s'∧Q b H'
def AP (X:Cx) (pins:List (Addr×Obj)) (σ:St) (Q:List V→Hp→Prop) (us:List Value) (s':Shared):Prop:=∃ vs H',Inv X pins σ H' s'∧Vals vs us∧Q vs H'
def SP (X:Cx) (pins:List (Addr×Obj)) (D:Ends) (f:Flow) (s':Shared):Prop :=
 match f with
 | .next=>∃ σ' H',Inv X pins σ' H' s'∧D.nx σ' H'
 | .brk=>∃ σ' H',Inv X pins σ' H' s'∧D.bk σ' H'
 | .cont=>∃ σ' H',Inv X pins σ' H' s'∧D.ct σ' H'
 | .ret u=>∃ v σ' H',Inv X pins σ' H' s'∧RelV v u∧D.rt v H'
def PE (X:Cx) (e:Expr) (t:TE):Prop :=
 ∀(pins:List (Addr×Obj)) (s:Shared) (σ:St) (H:Hp) (Q:VK),Inv X pins σ H s→t σ H Q→wpAny (model X.prog X.w) X.A (eval e X.env) (EP X pins σ Q) X.xe s
def PT (X:Cx) (e:Expr) (t:TT):Prop :=
 ∀(pins:List (Addr×Obj)) (s:Shared) (σ:St) (H:Hp) (Q:Bool→Hp→Prop),Inv X pins σ H s→t σ H Q→wpAny (model X.prog X.w) X.A (isTrue e X.env (eval e X.env)) (TP X pins σ Q) X.xe s
def PW (X:Cx) (e:Expr) (t:TT):Prop :=
 ∀(whole:Sem Value) (pins:List (Addr×Obj)) (s:Shared) (σ:St) (H:Hp) (Q:Bool→Hp→Prop),Inv X pins σ H s→t σ H Q→wpAny (model X.prog X.w) X.A (isTrue e X.env whole) (TP X pins σ Q) X.xe s
theorem PW.pt {X:Cx}{e:Expr}{t:TT} (h:PW X e t):PT X e t:=h _
def PA (X:Cx) (es:List Expr) (t:TA):Prop :=
 ∀(pos:Pos) (pins:List (Addr×Obj)) (s:Shared) (σ:St) (H:Hp) (Q:List V→Hp→Prop),Inv X pins σ H s→t σ H Q→wpAny (model X.prog X.w) X.A (spliced (backTo pos (starEach es X.env))) (AP X pins σ Q) X.xe s
def PS (X:Cx) (st:Stmt) (t:TS):Prop :=
 ∀(pins:List (Addr×Obj)) (s:Shared) (σ:St) (H:Hp) (D:Ends),Inv X pins σ H s→t D σ H→wpAny (model X.prog X.w) X.A (exec st X.env) (SP X pins D) X.xe s
def JI (X:Cx) (st:List Stmt) (t:TS):Prop :=
 ∀(pins:List (Addr×Obj)) (s:Shared) (σ:St) (H:Hp) (D:Ends),Inv X pins σ H s→t D σ H→wpAny (model X.prog X.w) X.A (execs st X.env) (SP X pins D) X.xe s
theorem dQ {α:Type}{t:Sem α}{Q Q':α→Shared→Prop}{M:Model}{A:Around}{E:Value→Shared→Prop}{s:Shared} (h:wpAny M A t Q E s) (hQ:∀ a s,Q a s→Q' a s):wpAny M A t Q' E s:=wpAny_mono h hQ fun _ _ x=>x
section
variable {X:Cx}
def Wc (i:Nat):TE:=fun σ H Q=>∃ v,σ[i]? = some (some v)∧Q v H
def tC (v:V):TE:=fun _ H Q=>Q v H
theorem RQ {i:Nat}{x:Str}{pos:Pos} (hN:X.N[i]? = some x) (hv:Vis X.env.scope x) (hd:(x == ("__debug__" : Str))=false:=by decide) (hcd:(x == ("__classdict__" : Str))=false:=by decide):PE X (.Name x pos) (Wc i):=by
 intro pins s σ H Q I h
 obtain⟨v,e,h⟩:=h
 obtain⟨m,hn,hl⟩:=I.loc
 obtain⟨u,r,l⟩:=hl i x v hN e hv
 have fin:EP X pins σ Q u s:=⟨v,H,I,r,h⟩
 rcases l with ⟨hk,hm⟩ | ⟨hk,c,hc,hcell⟩
 ·exact wpAny_Name (wpAny_loadName_local I.ok.kind hk hn hm fin) hd
 ·rcases hk with hk | hk
  ·exact wpAny_Name (wpAny_loadName_cell I.ok.kind hk hc hcell fin) hd
  ·exact wpAny_Name (wpAny_loadName_free I.ok.kind hk hc hcell fin hcd) hd
theorem aq {i j pos}:PE X (.Constant (.int i) j pos) (tC (.int i)):=fun _ _ _ H _ I h=>wpAny_Constant_int ⟨.int i,H,I.tok _,⟨_,rfl⟩,h⟩
theorem gA {b j pos}:PE X (.Constant (.bool b) j pos) (tC (.bl b)):=fun _ _ _ H _ I h=>Constant_bool ⟨.bl b,H,I,rfl,h⟩
theorem bT {j pos}:PE X (.Constant .none j pos) (tC .non):=fun _ _ _ H _ I h=>Constant_none ⟨.non,H,I,rfl,h⟩
theorem au {x j pos}:PE X (.Constant (.str x) j pos) (tC (.str x)):=fun _ _ _ H _ I h=>Calls.Constant_str ⟨.str x,H,I.tok _,⟨_,rfl⟩,h⟩
def Gl (X:Cx) (x:Str):Prop:=X.env.kindOf x=some .globalImplicit
theorem Dk {E:Value→Shared→Prop}{pins:List (Addr×Obj)}{s:Shared}{σ:St}{H:Hp}{x:Str}{u:Value}{pos:Pos}{Q:Value→Shared→Prop} (I:Inv X pins σ H s) (hg:Gl X x) (hm:X.mg x=some u) (h:Q u s)
  (hd:(x == ("__debug__" : Str))=false:=by decide):wpAny (model X.prog X.w) X.A (eval (.Name x pos) X.env) Q E s :=
 Calls.Name_function_global I.ok.kind hg (Calls.loadGlobal_global (by rw[I.ok.glob];exact I.mod.glob.keeps I.bk) hm h) hd
theorem o6 {E:Value→Shared→Prop}{pins:List (Addr×Obj)}{s:Shared}{σ:St}{H:Hp}{x:Str}{u:Value}{pos:Pos}{Q:Value→Shared→Prop} (I:Inv X pins σ H s) (hg:Gl X x) (hm:X.mg x=none) (hv:bootBuiltins x=some u) (h:Q u s)
  (hn:x ≠ "__name__" := by decide) (hd:(x == ("__debug__" : Str))=false:=by decide):wpAny (model X.prog X.w) X.A (eval (.Name x pos) X.env) Q E s:=by
 obtain⟨mb,h1,h2⟩:=I.mod.blt
 exact Calls.Name_function_global I.ok.kind hg (Calls.loadGlobal_builtin (by rw[I.ok.glob];exact I.mod.glob.keeps I.bk) hm (by rw[I.ok.blt];exact h1.keeps I.bk) ((h2 x hn).trans hv) h) hd
theorem Dm {x:Str}{v:V}{u:Value}{pos:Pos} (hg:Gl X x) (hm:X.mg x=some u) (r:RelV v u) (hd:(x == ("__debug__" : Str))=false:=by decide):PE X (.Name x pos) (tC v) :=
 fun _ _ _ H _ I h=>Dk I hg hm ⟨v,H,I,r,h⟩ hd
theorem O6 {x:Str}{v:V}{u:Value}{pos:Pos} (hg:Gl X x) (hm:X.mg x=none) (hv:bootBuiltins x=some u) (r:RelV v u) (hn:x ≠ "__name__" := by decide) (hd:(x == ("__debug__" : Str))=false:=by decide):PE X (.Name x pos) (tC v) :=
 fun _ _ _ H _ I h=>o6 I hg hm hv ⟨v,H,I,r,h⟩ hn hd
variable {a b:Expr}{ta tb:TE}{pos:Pos}
def PC (X:Cx) (op:CmpOp) (a b:Expr) (t:TE):Prop :=
 ∀(pins:List (Addr×Obj)) (s:Shared) (σ:St) (H:Hp) (Q:VK),Inv X pins σ H s→t σ H Q →
  wpAny (model X.prog X.w) X.A (eval a X.env) (fun v s₁=>wpAny (model X.prog X.w) X.A (eval b X.env) (fun u s₂=>wpAny (model X.prog X.w) X.A (compareOp op v u) (EP X pins σ Q) X.xe s₂) X.xe s₁) X.xe s
theorem Mp (b:Expr) {op:CmpOp} (h:op≠.In) (h2:op≠.NotIn):behindInMarks op b=false:=by
 have e1:(op == CmpOp.In)=false:=by cases op <;> first | rfl | exact absurd rfl h
 have e2:(op == CmpOp.NotIn)=false:=by cases op <;> first | rfl | exact absurd rfl h2
 cases b <;> simp[behindInMarks,e1,e2]
def tB (t:TE):TT:=fun σ H Q=>t σ H fun x H1=>∃ c,x=.bl c∧Q c H1
theorem Mq {op:CmpOp}{t:TE} (h:PC X op a b t) (h1:behindInMarks op b=false:=by first | exact Mp _ (by decide) (by decide) | rfl):PT X (.Compare a [op] [b] pos) (tB t):=by
 intro pins s σ H Q I hw
 refine wpAny_isTrue_Compare1 (dQ (h pins s σ H _ I hw) fun v s1 h1=>dQ h1 fun u s2 h2=>dQ h2 fun c s3 ⟨x,H1,I1,r1,q1⟩=>?_) h1
 obtain⟨d,rfl,q⟩:=q1
 cases r1
 exact wpAny_truthy_bool ⟨H1,I1,q⟩
theorem bD {e:Expr}{t:TE} (h:PE X e t) (he:∀ whole,isTrue e X.env whole=(do let v ←whole;standAt e.pos;holding [v] (truthy v)):=by intro _;rfl):PT X e (tB t):=by
 intro pins s σ H Q I hw
 refine isTrue_plain (dQ (h pins s σ H _ I hw) fun v s1 ⟨x,H1,I1,r1,q1⟩=>?_) (he _)
 obtain⟨d,rfl,q⟩:=q1
 cases r1
 exact wpAny_truthy_bool ⟨H1,I1,q⟩
variable {tA tB':TT}{rest:List Expr}
def adf (t u:TT):TT:=fun σ H Q=>t σ H fun c H1=>if c=true then u σ H1 Q else Q false H1
def tOr (t u:TT):TT:=fun σ H Q=>t σ H fun c H1=>if c=true then Q true H1 else u σ H1 Q
def adg (t:TT):TT:=fun σ H Q=>t σ H fun c H1=>Q (!c) H1
theorem dU (ha:PT X a tA):PW X (.BoolOp .And [a] pos) tA:=by
 intro wh pins s σ H Q I h
 refine isTrue_and (dQ (ha pins s σ H Q I h) fun c s1 e=>?_)
 cases c with
 | true=>exact isTrue_and_nil e
 | false=>exact e
theorem gZ (ha:PT X a tA):PW X (.BoolOp .Or [a] pos) tA:=by
 intro wh pins s σ H Q I h
 refine isTrue_or (dQ (ha pins s σ H Q I h) fun c s1 e=>?_)
 cases c with
 | false=>exact isTrue_or_nil e
 | true=>exact e
theorem eZ (ha:PT X a tA) (hb:PW X (.BoolOp .And (b :: rest) pos) tB'):PW X (.BoolOp .And (a :: b :: rest) pos) (adf tA tB'):=by
 intro wh pins s σ H Q I h
 refine isTrue_and (dQ (ha pins s σ H _ I h) fun c s1 ⟨H1,I1,q1⟩=>?_)
 cases c with
 | true=>exact hb wh pins s1 σ H1 Q I1 q1
 | false=>exact⟨H1,I1,q1⟩
theorem gX (ha:PT X a tA) (hb:PW X (.BoolOp .Or (b :: rest) pos) tB'):PW X (.BoolOp .Or (a :: b :: rest) pos) (tOr tA tB'):=by
 intro wh pins s σ H Q I h
 refine isTrue_or (dQ (ha pins s σ H _ I h) fun c s1 ⟨H1,I1,q1⟩=>?_)
 cases c with
 | true=>exact⟨H1,I1,q1⟩
 | false=>exact hb wh pins s1 σ H1 Q I1 q1
theorem ck (ha:PT X a tA):PT X (.UnaryOp .Not a pos) (adg tA):=by
 intro pins s σ H Q I h
 exact isTrue_not (ha pins s σ H (fun c H1=>Q (!c) H1) I h)
def Wd (ta tb:TE):TE:=fun σ H Q=>ta σ H fun x H1=>∃ c,x=.bl c∧if c=true then tb σ H1 Q else Q (.bl false) H1
def adh (ta tb:TE):TE:=fun σ H Q=>ta σ H fun x H1=>∃ c,x=.bl c∧if c=true then Q (.bl true) H1 else tb σ H1 Q
def We (ta:TE):TE:=fun σ H Q=>ta σ H fun x H1=>∃ c,x=.bl c∧Q (.bl (!c)) H1
theorem w6 {op}{t:TE} (h:PE X a t):PE X (.BoolOp op [a] pos) t:=fun pins s σ H Q I hw=>BoolOp_one (h pins s σ H Q I hw)
theorem xg (ha:PE X a ta) (hb:PE X (.BoolOp .And (b :: rest) pos) tb):PE X (.BoolOp .And (a :: b :: rest) pos) (Wd ta tb):=by
 intro pins s σ H Q I h
 refine BoolOp_and (dQ (ha pins s σ H _ I h) fun v s1 ⟨x,H1,I1,r1,q1⟩=>?_)
 obtain⟨c,rfl,q1⟩:=q1
 cases r1
 refine wpAny_truthy_bool ?_
 cases c with
 | true=>exact hb pins s1 σ H1 Q I1 q1
 | false=>exact⟨.bl false,H1,I1,rfl,q1⟩
theorem Wf (ha:PE X a ta) (hb:PE X (.BoolOp .Or (b :: rest) pos) tb):PE X (.BoolOp .Or (a :: b :: rest) pos) (adh ta tb):=by
 intro pins s σ H Q I h
 refine BoolOp_or (dQ (ha pins s σ H _ I h) fun v s1 ⟨x,H1,I1,r1,q1⟩=>?_)
 obtain⟨c,rfl,q1⟩:=q1
 cases r1
 refine wpAny_truthy_bool ?_
 cases c with
 | false=>exact hb pins s1 σ H1 Q I1 q1
 | true=>exact⟨.bl true,H1,I1,rfl,q1⟩
theorem Mr (ha:PE X a ta):PE X (.UnaryOp .Not a pos) (We ta):=by
 intro pins s σ H Q I h
 refine UnaryOp_ (dQ (ha pins s σ H _ I h) fun v s1 ⟨x,H1,I1,r1,q1⟩=>?_)
 obtain⟨c,rfl,q1⟩:=q1
 cases r1
 exact not_of (wpAny_truthy_bool ⟨.bl (!c),H1,I1,rfl,q1⟩)
def tIf (t:TT) (ta tb:TE):TE:=fun σ H Q=>t σ H fun c H1=>if c=true then ta σ H1 Q else tb σ H1 Q
theorem qG {c:Expr} (hc:PT X c tA) (ha:PE X a ta) (hb:PE X b tb):PE X (.IfExp c a b pos) (tIf tA ta tb):=by
 intro pins s σ H Q I h
 refine wpAny_IfExp (dQ (hc pins s σ H _ I h) fun d s1 ⟨H1,I1,q1⟩=>?_)
 cases d with
 | true=>exact ha pins s1 σ H1 Q I1 q1
 | false=>exact hb pins s1 σ H1 Q I1 q1
end
def aU (K:W.Frag) (H:Hp) (a:Addr) (xs:List V):Prop :=
 Rd H a (.lst xs) ∨
  ∃(o:Obj) (its:Array Value) (n:Nat),K.lookup a=some o∧o.cls=.type "list"∧o.dict=none∧o.data=.seq its n∧its.size≤sizeLine∧Vals xs its.toList
def aY (K:W.Frag) (H:Hp) (a:Addr) (xs:List V):Prop :=
 Rd H a (.tup xs) ∨
  ∃(o:Obj) (its:Array Value) (n:Nat),K.lookup a=some o∧o.cls=.type "tuple"∧o.data=.seq its n∧its.size≤sizeLine∧Vals xs its.toList
def adi:Value→Option V
 | .none=>some .non
 | .bool b=>some (.bl b)
 | .int i _=>some (.int i)
 | .str x _=>some (.str x)
 | .bytes b _=>some (.LZ b)
 | .float b _=>some (.uq b)
 | .ref a=>some (.ref a)
 | .type n=>some (.ty n)
 | _=>none
theorem RelV.abs {x:V}{u:Value} (r:RelV x u):adi u=some x:=by
 cases x with
 | non=>cases r;rfl
 | bl _=>cases r;rfl
 | int _=>obtain⟨t,rfl⟩:=r;rfl
 | str _=>obtain⟨t,rfl⟩:=r;rfl
 | LZ _=>obtain⟨t,rfl⟩:=r;rfl
 | uq _=>obtain⟨t,rfl⟩:=r;rfl
 | ref _=>cases r;rfl
 | ty _=>cases r;rfl
theorem RelV.inj {x y:V}{u:Value} (r:RelV x u) (q:RelV y u):x=y:=Option.some.inj (r.abs.symm.trans q.abs)
theorem Vals.inj:∀{xs ys:List V}{us:List Value},Vals xs us→Vals ys us→xs=ys
 | _,_,_,.nil,.nil=>rfl
 | _,_,_,.cons r t,.cons r' t'=>by rw[r.inj r',Vals.inj t t']
section
variable {X:Cx}{pins:List (Addr×Obj)}{σ:St}{H:Hp}{s:Shared}{a:Addr}{xs ys:List V}
theorem aU.of {K:W.Frag} (h:H a=some (.lst xs)):aU K H a xs:=.inl (.inl h)
theorem aY.of {K:W.Frag} (h:H a=some (.tup xs)):aY K H a xs:=.inl (.inl h)
theorem Inv.list (I:Inv X pins σ H s) (h:aU X.K H a xs):∃ its:List Value,Vals xs its∧PlainL s.heap a its.toArray∧xs.length≤sizeLine:=by
 rcases h with h | ⟨o,its,n,hk,hc,hd,hs,hz,r⟩
 ·obtain⟨z,its,n,r,e⟩:=h.ok I.hok
  exact⟨its,r,⟨_,n,e,rfl,rfl,rfl⟩,z⟩
 ·refine⟨its.toList,r,⟨o,n,I.uZ a o hk,hc,hd,by simpa using hs⟩,?_⟩
  have e:=r.length
  simp only[Array.length_toList] at e
  omega
theorem Inv.tuple (I:Inv X pins σ H s) (h:aY X.K H a xs):∃ its:List Value,Vals xs its∧IsTup s.heap a its.toArray∧xs.length≤sizeLine:=by
 rcases h with h | ⟨o,its,n,hk,hc,hs,hz,r⟩
 ·obtain⟨z,its,r,p⟩:=h.ok I.hok
  exact⟨its,r,p,z⟩
 ·refine⟨its.toList,r,⟨o,I.uZ a o hk,hc,n,by simpa using hs⟩,?_⟩
  have e:=r.length
  simp only[Array.length_toList] at e
  omega
theorem Inv.zK (I:Inv X pins σ H s) (h:aU X.K H a xs) (h':aU X.K H a ys):xs=ys:=by
 obtain⟨its,r,⟨o,n,e,_,_,d⟩,_⟩:=I.list h
 obtain⟨its',r',⟨o',n',e',_,_,d'⟩,_⟩:=I.list h'
 rw[e] at e';cases e'
 rw[d] at d'
 injection d' with d1 _
 have:its=its':=by simpa using congrArg Array.toList d1
 subst this
 exact r.inj r'
theorem Inv.Cd (I:Inv X pins σ H s) (h:aY X.K H a xs) (h':aY X.K H a ys):xs=ys:=by
 obtain⟨its,r,⟨o,e,_,n,d⟩,_⟩:=I.tuple h
 obtain⟨its',r',⟨o',e',_,n',d'⟩,_⟩:=I.tuple h'
 rw[e] at e';cases e'
 rw[d] at d'
 injection d' with d1 _
 have:its=its':=by simpa using congrArg Array.toList d1
 subst this
 exact r.inj r'
end
abbrev Cx.Bj (X:Cx) (E:Value→Shared→Prop):Cx:={ X with xe:=E }
abbrev Cx.Vy (X:Cx):Cx:=X.Bj fun _ _=>False
theorem Cx.Ok.Bj {X:Cx} (ok:X.Ok) (E:Value→Shared→Prop):(X.Bj E).Ok :=
 ⟨ok.mod,ok.kind,ok.glob,ok.blt,ok.above,ok.inj,ok.has,ok.V7,ok.hd,ok.frames,ok.stk,ok.exf,ok.bs,ok.O4,ok.Mm,ok.O5,ok.yD,ok.RO⟩
theorem Cx.Ok.qH {X:Cx}{E:Value→Shared→Prop} (ok:(X.Bj E).Ok):X.Ok :=
 ⟨ok.mod,ok.kind,ok.glob,ok.blt,ok.above,ok.inj,ok.has,ok.V7,ok.hd,ok.frames,ok.stk,ok.exf,ok.bs,ok.O4,ok.Mm,ok.O5,ok.yD,ok.RO⟩
section
variable {X:Cx}{pins:List (Addr×Obj)}{σ:St}{H:Hp}{s:Shared}{E:Value→Shared→Prop}
theorem Inv.Bj (I:Inv X pins σ H s) (E:Value→Shared→Prop):Inv (X.Bj E) pins σ H s:=⟨I.ok.Bj E,I.os,I.bare,I.base,I.loc,I.cell,I.free,I.tE,I.pin,I.hok,I.len⟩
theorem Inv.qH (I:Inv (X.Bj E) pins σ H s):Inv X pins σ H s:=⟨I.ok.qH,I.os,I.bare,I.base,I.loc,I.cell,I.free,I.tE,I.pin,I.hok,I.len⟩
theorem SP.qH {D:Ends}{f:Flow}{s':Shared} (h:SP (X.Bj E) pins D f s'):SP X pins D f s':=by
 cases f with
 | next=>obtain⟨σ',H',I,q⟩:=h;exact⟨σ',H',I.qH,q⟩
 | brk=>obtain⟨σ',H',I,q⟩:=h;exact⟨σ',H',I.qH,q⟩
 | cont=>obtain⟨σ',H',I,q⟩:=h;exact⟨σ',H',I.qH,q⟩
 | ret u=>obtain⟨v,σ',H',I,r,q⟩:=h;exact⟨v,σ',H',I.qH,r,q⟩
theorem JI.Vy {st:List Stmt}{t:TS} (h:JI X.Vy st t):JI X st t:=fun pins s σ H D I hw =>
 wpAny_mono (h pins s σ H D (I.Bj _) hw) (fun _ _ q=>q.qH) fun _ _ z=>False.elim z
end
section
variable {X:Cx}{st:Stmt}{rest:List Stmt}{t u:TS}{e:Expr}{te:TE}{pos:Pos}
def Ms:TS:=fun D σ H=>D.nx σ H
def O7 (t u:TS):TS:=fun D σ H=>t { D with nx:=u D } σ H
theorem az:JI X [] Ms:=fun _ _ σ H _ I h=>wpAny_execs_nil ⟨σ,H,I,h⟩
theorem ai (h1:PS X st t) (h2:JI X rest u):JI X (st :: rest) (O7 t u):=by
 intro pins s σ H D I h
 refine wpAny_execs_cons (dQ (h1 pins s σ H { D with nx:=u D } I h) fun f s1 q=>?_)
 cases f with
 | next =>
  obtain⟨σ',H',I',q⟩:=q
  exact h2 pins s1 σ' H' D I' q
 | ret v=>exact q
 | brk=>exact q
 | cont=>exact q
theorem ak (h1:PS X st t):JI X [st] t:=by
 intro pins s σ H D I h
 refine wpAny_execs_cons (dQ (h1 pins s σ H D I h) fun f s1 q=>?_)
 cases f with
 | next=>exact wpAny_execs_nil q
 | ret v=>exact q
 | brk=>exact q
 | cont=>exact q
theorem Inv.quiet {pins:List (Addr×Obj)}{σ:St}{H:Hp}{s:Shared} (I:Inv X pins σ H s):interactive X.env=false:=by simp[interactive,I.ok.kind]
def Wg (te:TE):TS:=fun D σ H=>te σ H fun _ H1=>D.nx σ H1
theorem cW (he:PE X e te) (hs:swapsWith e none pos.line X.env=pure false:=by rfl):PS X (.Expr e pos) (Wg te):=by
 intro pins s σ H D I h
 exact wpAny_Expr_any (dQ (he pins s σ H _ I h) fun v s1 ⟨x,H1,I1,r1,q1⟩=>⟨σ,H1,I1,q1⟩) I.quiet hs
def adj (te:TE):TS:=fun D σ H=>te σ H D.rt
theorem ay (he:PE X e te):PS X (.Return (some e) pos) (adj te):=by
 intro pins s σ H D I h
 exact wpAny_Return_some (dQ (he pins s σ H _ I h) fun v s1 ⟨x,H1,I1,r1,q1⟩=>⟨x,σ,H1,I1,r1,q1⟩)
def Dn (c:TT) (t u:TS):TS:=fun D σ H=>c σ H fun b H1=>if b=true then t D σ H1 else u D σ H1
theorem aG {c:Expr}{a b:List Stmt}{tc:TT} (hc:PT X c tc) (ha:JI X a t) (hb:JI X b u):PS X (.If c a b pos) (Dn tc t u):=by
 intro pins s σ H D I h
 refine wpAny_If (dQ (hc pins s σ H _ I h) fun d s1 ⟨H1,I1,q1⟩=>?_)
 cases d with
 | true=>exact ha pins s1 σ H1 D I1 q1
 | false=>exact hb pins s1 σ H1 D I1 q1
def RS:TS:=fun _ _ _=>False
theorem i6:PS X st RS:=fun _ _ _ _ _ _ h=>h.elim
end
abbrev TG:=V→St→Hp→(St→Hp→Prop)→Prop
abbrev Ra:=List V→St→Hp→(St→Hp→Prop)→Prop
def PG (X:Cx) (target:Expr) (t:TG):Prop :=
 ∀(pins:List (Addr×Obj)) (s:Shared) (σ:St) (H:Hp) (v:V) (u:Value) (Q:St→Hp→Prop),Inv X pins σ H s→RelV v u→t v σ H Q →
  wpAny (model X.prog X.w) X.A (assign target X.env u) (fun _ s'=>∃ σ' H',Inv X pins σ' H' s'∧Q σ' H') X.xe s
def Wh (X:Cx) (ts:List Expr) (t:Ra):Prop :=
 ∀(pins:List (Addr×Obj)) (s:Shared) (σ:St) (H:Hp) (vs:List V) (us:List Value) (Q:St→Hp→Prop),Inv X pins σ H s→Vals vs us→t vs σ H Q →
  wpAny (model X.prog X.w) X.A (assignInOrder ((assignEach ts X.env).map (·.2)) us) (fun _ s'=>∃ σ' H',Inv X pins σ' H' s'∧Q σ' H') X.xe s
abbrev RT:=V→V→V→Hp→(Hp→Prop)→Prop
def Wi (X:Cx) (t:RT):Prop :=
 ∀(pins:List (Addr×Obj)) (s:Shared) (σ:St) (H:Hp) (o i v:V) (ov iv u:Value) (Q:Hp→Prop),Inv X pins σ H s→RelV o ov→RelV i iv→RelV v u→t o i v H Q →
  wpAny (model X.prog X.w) X.A (setItem ov iv u) (fun _ s'=>∃ H',Inv X pins σ H' s'∧Q H') X.xe s
section
variable {X:Cx}{pos:Pos}
def bf (i:Nat):TG:=fun v σ H Q=>Q (σ.set i (some v)) H
theorem O8 {i:Nat}{x:Str} (hN:X.N.Nodup) (hi:X.N[i]? = some x) (hx:Loc X.env.scope x) (hf:X.fn x=true∨X.env.scope.names.lookup x=some .local:=by first | exact .inl rfl | exact .inr rfl | assumption):PG X (.Name x pos) (bf i):=by
 intro pins s σ H v u Q I r h
 exact wpAny_assign_Name (EO I hN hi hx r (fun s' I'=>⟨_,H,I',h⟩) hf)
def adk:Ra:=fun vs σ H Q=>vs=[]∧Q σ H
def Wj (t:TG) (u:Ra):Ra:=fun vs σ H Q=>∃ v r,vs=v :: r∧t v σ H fun σ' H'=>u r σ' H' Q
theorem iG:Wh X [] adk:=by
 intro pins s σ H vs us Q I r h
 obtain⟨e,h⟩:=h
 subst e
 cases r
 exact assignInOrder_nil ⟨σ,H,I,h⟩
theorem aW {e:Expr}{es:List Expr}{t:TG}{u:Ra} (h1:PG X e t) (h2:Wh X es u)
  (hs:(assignEach (e :: es) X.env).map (·.2)=assign e X.env :: (assignEach es X.env).map (·.2):=by rfl):Wh X (e :: es) (Wj t u):=by
 intro pins s σ H vs us Q I r h
 obtain⟨v,vr,e1,h⟩:=h
 subst e1
 cases r with
 | cons r rr =>
  rw[hs]
  refine assignInOrder_cons (dQ (h1 pins s σ H _ _ _ I r h) fun _ s1 ⟨σ1,H1,I1,q1⟩=>?_)
  exact h2 pins s1 σ1 H1 _ _ Q I1 rr q1
def Wk (K:W.Frag) (n:Nat) (t:Ra):TG:=fun v σ H Q=>∃ a xs,v=.ref a∧aY K H a xs∧xs.length=n∧t xs σ H Q
theorem RU {es:List Expr}{k:Nat}{t:Ra}{n:Nat} (hc:X.calm=true) (h:Wh X es t)
  (hn:(assignEach es X.env).length=n:=by rfl) (hst:(assignEach es X.env).findIdx? (·.1)=none:=by rfl):PG X (.Tuple es k pos) (Wk X.K n t):=by
 intro pins s σ H v u Q I r hw
 obtain⟨a,xs,e1,hq,hl,hw⟩:=hw
 subst e1
 cases r
 obtain⟨its,rv,ht,hz⟩:=I.tuple hq
 refine assign_Tuple_tuple (I.ok.hd hc) ht (by simp[hn,←hl,rv.length]) hst fun h' hx=>?_
 have I1:Inv X pins σ H { s with heap:=h' }:=I.kept (t':=s.toks) fun b o e=>hx b o (Nat.ne_of_lt (Heap.lt_size e)) e
 exact h pins _ σ H xs _ Q I1 (by simpa using rv) hw
def adl (to ti:TE) (t:RT):TG:=fun v σ H Q=>to σ H fun o H1=>ti σ H1 fun i H2=>t o i v H2 fun H3=>Q σ H3
theorem Dp {o i:Expr}{to ti:TE}{t:RT} (ho:PE X o to) (hi:PE X i ti) (hs:Wi X t)
  (ha:∀ v,assign (.Subscript o i pos) X.env v=(do
   let ov ←holding [v] (eval o X.env)
   let iv ←holding [v,ov] (eval i X.env)
   standAt pos
   holding [v,ov,iv] (setItem ov iv v)
   release [v,ov,iv] []):=by intro _;rfl):PG X (.Subscript o i pos) (adl to ti t):=by
 intro pins s σ H v u Q I r h
 rw[ha]
 refine wpAny_bind (wpAny_holding (dQ (ho pins s σ H _ I h) fun ov s1 ⟨x,H1,I1,r1,q1⟩=>?_))
 refine wpAny_bind (wpAny_holding (dQ (hi pins s1 σ H1 _ I1 q1) fun iv s2 ⟨y,H2,I2,r2,q2⟩=>?_))
 refine wpAny_bind (wpAny_standAt (wpAny_bind (wpAny_holding (dQ (hs pins s2 σ H2 x y v ov iv u _ I2 r1 r2 r q2) fun _ s3 ⟨H3,I3,q3⟩=>?_))))
 exact wpAny_release ⟨σ,H3,I3,q3⟩
def O9 (te:TE) (g:TG):TS:=fun D σ H=>te σ H fun x H1=>g x σ H1 D.nx
theorem kM {tg e:Expr}{te:TE}{g:TG} (he:PE X e te) (hg:PG X tg g) (hs:swapsWithSole [tg] e pos.line X.env=pure false:=by rfl) (hw:swappedStores [tg] e X.env=pure none:=by rfl)
  (h1:(assignEach [tg] X.env).map (·.2)=[assign tg X.env]:=by rfl):PS X (.Assign [tg] e pos) (O9 te g):=by
 intro pins s σ H D I h
 refine wpAny_Assign_stores (dQ (he pins s σ H _ I h) fun v s1 ⟨x,H1,I1,r1,q1⟩=>?_) hs hw
 rw[h1]
 exact dQ (hg pins s1 σ H1 x v _ I1 r1 q1) fun _ s2 q=>q
theorem RV {i:Nat}{x:Str}{e:Expr}{te:TE}{pos':Pos} (hN:X.N.Nodup) (hi:X.N[i]? = some x) (hx:Loc X.env.scope x) (he:PE X e te) (hs:swapsWith e (some (.Name x pos')) pos.line X.env=pure false:=by rfl) (hf:X.fn x=true∨X.env.scope.names.lookup x=some .local:=by first | exact .inl rfl | exact .inr rfl | assumption) :
  PS X (.Assign [.Name x pos'] e pos) (O9 te (bf i)):=by
 intro pins s σ H D I h
 refine wpAny_Assign_Name (dQ (he pins s σ H _ I h) fun v s1 ⟨y,H1,I1,r1,q1⟩=>?_) hs
 exact EO I1 hN hi hx r1 (fun s2 I2=>⟨_,H1,I2,q1⟩) hf
end
section
variable {X:Cx}{pos:Pos}
def RW (c:TT) (tb:TS):TS:=fun D σ H=>∃ W:Nat→St→Hp→Prop,(∃ m,W m σ H)∧∀ m σ H,W m σ H →
 c σ H fun b H1=>if b=true then ∃ N:St→Hp→Prop,(∀ σ' H',N σ' H'→∃ m',m' < m∧W m' σ' H')∧tb { D with nx:=N,ct:=N,bk:=D.nx } σ H1 else D.nx σ H1
theorem zL {c:Expr}{body:List Stmt}{tc:TT}{tb:TS} (hp:PassesOwn (model X.prog X.w) X.A X.env X.xe) (hc:PT X c tc) (hb:JI X body tb):PS X (.While c body [] pos) (RW tc tb):=by
 intro pins s σ H D I h
 obtain⟨W,⟨m0,w0⟩,turn⟩:=h
 refine wpAny_While (codeAny_whileLoop (fun n s'=>∃ σ' H',Inv X pins σ' H' s'∧W n σ' H') ?_ m0 ⟨σ,H,I,w0⟩)
 rintro n s1 ⟨σ1,H1,I1,w1⟩
 refine wpAny_passesOwn hp (dQ (hc pins s1 σ1 H1 _ I1 (turn n σ1 H1 w1)) fun b s2 ⟨H2,I2,q2⟩=>?_)
 cases b with
 | true =>
  obtain⟨N,hN,q2⟩:=q2
  rw[if_pos rfl]
  refine wpAny_passesOwn hp (dQ (hb pins s2 σ1 H2 _ I2 q2) fun f s3 q3=>?_)
  cases f with
  | next =>
   obtain⟨σ3,H3,I3,n3⟩:=q3
   obtain⟨m',hm,w3⟩:=hN σ3 H3 n3
   exact⟨m',hm,σ3,H3,I3,w3⟩
  | cont =>
   obtain⟨σ3,H3,I3,n3⟩:=q3
   obtain⟨m',hm,w3⟩:=hN σ3 H3 n3
   exact⟨m',hm,σ3,H3,I3,w3⟩
  | brk=>exact q3
  | ret v=>exact q3
 | false =>
  rw[if_neg Bool.false_ne_true]
  exact wpAny_execs_nil ⟨σ1,H2,I2,q2⟩
end
structure It where
 go:Nat→Hp→Prop
 L0:Nat→Hp→V→Hp→Prop
 stop:Nat→Hp→Prop
def ur (X:Cx) (pins:List (Addr×Obj)) (H:Hp) (b:Addr):Prop :=
 H b=none∧b≠X.env.locals∧b∉X.fs∧(b∈X.ex∨X.s₀.heap.objs.size≤b)∧(∀ x c,X.env.cells.lookup x=some c→c≠b)∧∀ p∈X.pn++pins,p.1≠b
theorem Inv.u0 {X:Cx}{pins:List (Addr×Obj)}{σ:St}{H H':Hp}{s:Shared}{b:Addr} (I:Inv X pins σ H s) (hb:s.heap.objs.size≤b) (hn:H' b=none):ur X pins H' b:=by
 refine⟨hn,Nat.ne_of_gt (Nat.lt_of_lt_of_le I.lt hb),I.adb hb,.inr (Nat.le_trans I.sz hb),fun x c e z=>?_,fun p hp z=>?_⟩
 ·obtain⟨v,q⟩:=I.cell x c e
  exact absurd (Nat.lt_of_lt_of_le q.lt (by rw[z];exact hb)) (Nat.lt_irrefl _)
 ·exact absurd (Nat.lt_of_lt_of_le (Heap.lt_size (I.pin p hp).1) (by rw[z];exact hb)) (Nat.lt_irrefl _)
structure Turn (P:Program) (w:World) (K:W.Frag) (tg:Expr) (J:It) (fp:List Addr) (it:Addr) (tn:Nat→Heap→Prop):Prop where
 mem:it∈fp
 obj:∀ i h,tn i h→∀ b∈fp,∃ o,h.get? b=some o∧∀ v,o.data≠.cell v
 keep:∀ i h h',tn i h→(∀ b∈fp,∀ o,h.get? b=some o→h'.get? b=some o)→tn i h'
 item:∀(X:Cx),X.prog=P→X.w=w→X.K=K→X.calm=true→∀(i:Nat) (pins:List (Addr×Obj)) (s:Shared) (σ:St) (H:Hp) (E:Value→Shared→Prop),Inv X pins σ H s→(∀ b∈fp,ur X pins H b)→tn i s.heap→J.go i H →
  wpAny (model P w) X.A (pyNext (.ref it)) (fun r s1=>∃ u,r=some u ∧
   wpAny (model P w) X.A (letOwnedTupleGo tg (.ref it) u) (fun _ s2=>∃ x H',Inv X pins σ H' s2∧RelV x u∧J.L0 i H x H'∧tn (i+1) s2.heap∧∀ b∈fp,H' b=none) E s1) E s
 done:∀(X:Cx),X.prog=P→X.w=w→X.K=K→X.calm=true→∀(i:Nat) (pins:List (Addr×Obj)) (s:Shared) (σ:St) (H:Hp) (E:Value→Shared→Prop),Inv X pins σ H s→(∀ b∈fp,ur X pins H b)→tn i s.heap→J.stop i H →
  wpAny (model P w) X.A (pyNext (.ref it)) (fun r s1=>r=none∧Inv X pins σ H s1) E s
 self:∀(A:Around) (i:Nat) (s:Shared) (Q:Value→Shared→Prop) (E:Value→Shared→Prop),tn i s.heap→Q (.ref it) s→wpAny (model P w) A (pyIter (.ref it)) Q E s
abbrev TI:=St→Hp→(It→Hp→Prop)→Prop
def PIE (X:Cx) (pins:List (Addr×Obj)) (σ:St) (tg:Expr) (R:It→Hp→Prop) (itv:Value) (s2:Shared):Prop :=
 ∃(it:Addr) (fp:List Addr) (tn:Nat→Heap→Prop) (J:It) (H':Hp),itv=.ref it∧Inv X pins σ H' s2∧Turn X.prog X.w X.K tg J fp it tn∧tn 0 s2.heap∧(∀ b∈fp,ur X pins H' b)∧R J H'
def PI (X:Cx) (tg iter:Expr) (wi:TI):Prop :=
 ∀(pins:List (Addr×Obj)) (s:Shared) (σ:St) (H:Hp) (R:It→Hp→Prop),Inv X pins σ H s→wi σ H R →
  wpAny (model X.prog X.w) X.A (eval iter X.env) (fun v s1=>wpAny (model X.prog X.w) X.A (pyIter v) (PIE X pins σ tg R) X.xe s1) X.xe s
theorem Ce {M:Model}{A:Around}{E:Value→Shared→Prop}{s:Shared}{tg:Expr}{it:Addr}{u:Value}{o:Obj}{n:String}{vs:Array Value}{Q:Unit→Shared→Prop} (ho:s.heap.get? it=some o) (hc:o.cls=.type n) (hd:o.data=.fields vs)
   (hn:["enumerate", "zip", "dict_itemiterator", "dict_reverseitemiterator", "odict_iterator", "itertools.zip_longest", "itertools.pairwise"].contains n=false) (hQ:Q () s):wpAny M A (letOwnedTupleGo tg (.ref it) u) Q E s:=by
 unfold letOwnedTupleGo
 cases tg <;> first
   | exact wpAny_pure hQ
   | (cases u <;> first
       | exact wpAny_pure hQ
       | (refine wpAny_bind (wpAny_load ho ?_)
          rw[hc,hd]
          show wpAny M A (if (["enumerate", "zip", "dict_itemiterator", "dict_reverseitemiterator", "odict_iterator", "itertools.zip_longest", "itertools.pairwise"].contains n && vs[0]? == some (rawInt _))=true then _ else _) Q E s
          rw[if_neg (by intro h;rw[hn,Bool.false_and] at h;cases h)]
          exact wpAny_pure hQ))
def Vz (K:W.Frag) (a:Addr):It :=
 ⟨fun i H=>∃ xs x,aU K H a xs∧xs[i]? = some x,fun i H x H'=>H'=H∧∀ xs,aU K H a xs→xs[i]? = some x,fun i H=>∃ xs,aU K H a xs∧xs.length≤i⟩
def VA (K:W.Frag) (a:Addr):It :=
 ⟨fun i H=>∃ xs x,aY K H a xs∧xs[i]? = some x,fun i H x H'=>H'=H∧∀ xs,aY K H a xs→xs[i]? = some x,fun i H=>∃ xs,aY K H a xs∧xs.length≤i⟩
def VB (lo:Int) (n:Nat):It:=⟨fun i _=>i < n,fun i H x H'=>H'=H∧x=.int (lo+i),fun i _=>n≤i⟩
theorem Kr {P:Program}{w:World}{K:W.Frag}{tg:Expr} (a it:Addr):Turn P w K tg (Vz K a) [it] it (fun i h=>h.IsListIter it a i) where
 mem:=by simp
 obj:=fun i h st b hb=>by
  have e:b=it:=by simpa using hb
  subst e
  obtain⟨o,e,c,d⟩:=st
  exact⟨o,e,fun v z=>by rw[d] at z;cases z⟩
 keep:=fun i h h' st k=>st.at fun o e=>k it (by simp) o e
 item:=by
  intro X hP hw hK hc i pins s σ H E I hf st hg
  subst hP hw hK
  obtain⟨xs,x,hq,hx⟩:=hg
  obtain⟨its,rv,p,hz⟩:=I.list hq
  obtain⟨u,hu,ru⟩:=rv.get hx
  obtain⟨f0,f1,f2,f3,f4,f5⟩:=hf it (by simp)
  refine wpAny_pyNext_list_item st p.isList (x:=u) (by simpa using hu) fun h' st' sb=>?_
  have I1:Inv X pins σ H { s with heap:=h' }:=I.turned (t':=s.toks) (fun b o hb e=>(sb.2 b hb).trans e) f0 f1 f3 f4 f5
  obtain⟨o,e,c,d⟩:=id st'
  exact⟨u,rfl,Ce (s:={ s with heap:=h' }) e c d (by decide) ⟨x,H,I1,ru,⟨rfl,fun ys hy=>by rw[I.zK hy hq];exact hx⟩,st',fun b hb=>(hf b hb).1⟩⟩
 done:=by
  intro X hP hw hK hc i pins s σ H E I hf st hg
  subst hP hw hK
  obtain⟨xs,hq,hx⟩:=hg
  obtain⟨its,rv,p,hz⟩:=I.list hq
  obtain⟨f0,f1,f2,f3,f4,f5⟩:=hf it (by simp)
  have hl:=rv.length
  exact wpAny_pyNext_list_end (I.ok.hd hc) st p.isList (by simp;omega) fun h' eb=>⟨rfl,I.turned (t':=s.toks) (fun b o hb e=>eb b o hb e) f0 f1 f3 f4 f5⟩
 self:=fun _ _ _ _ _ st h=>wpAny_pyIter_listiter st h
theorem Hf {P:Program}{w:World}{K:W.Frag}{tg:Expr} (a it:Addr):Turn P w K tg (VA K a) [it] it (fun i h=>h.IsTupleIter it a i) where
 mem:=by simp
 obj:=fun i h st b hb=>by
  have e:b=it:=by simpa using hb
  subst e
  obtain⟨o,e,c,d⟩:=st
  exact⟨o,e,fun v z=>by rw[d] at z;cases z⟩
 keep:=fun i h h' st k=>st.at fun o e=>k it (by simp) o e
 item:=by
  intro X hP hw hK hc i pins s σ H E I hf st hg
  subst hP hw hK
  obtain⟨xs,x,hq,hx⟩:=hg
  obtain⟨its,rv,p,hz⟩:=I.tuple hq
  obtain⟨u,hu,ru⟩:=rv.get hx
  obtain⟨f0,f1,f2,f3,f4,f5⟩:=hf it (by simp)
  refine wpAny_pyNext_tuple_item st (show s.heap.IsTuple a its.toArray from p) (x:=u) (by simpa using hu) fun h' st' sb=>?_
  have I1:Inv X pins σ H { s with heap:=h' }:=I.turned (t':=s.toks) (fun b o hb e=>(sb.2 b hb).trans e) f0 f1 f3 f4 f5
  obtain⟨o,e,c,d⟩:=id st'
  exact⟨u,rfl,Ce (s:={ s with heap:=h' }) e c d (by decide) ⟨x,H,I1,ru,⟨rfl,fun ys hy=>by rw[I.Cd hy hq];exact hx⟩,st',fun b hb=>(hf b hb).1⟩⟩
 done:=by
  intro X hP hw hK hc i pins s σ H E I hf st hg
  subst hP hw hK
  obtain⟨xs,hq,hx⟩:=hg
  obtain⟨its,rv,p,hz⟩:=I.tuple hq
  obtain⟨f0,f1,f2,f3,f4,f5⟩:=hf it (by simp)
  have hl:=rv.length
  exact wpAny_pyNext_tuple_end (I.ok.hd hc) st (show s.heap.IsTuple a its.toArray from p) (by simp;omega) fun h' eb=>⟨rfl,I.turned (t':=s.toks) (fun b o hb e=>eb b o hb e) f0 f1 f3 f4 f5⟩
 self:=fun _ _ _ _ _ st h=>wpAny_pyIter_tupleiter st h
theorem Hg {P:Program}{w:World}{K:W.Frag}{tg:Expr} (it:Addr) (lo:Int) (n:Nat):Turn P w K tg (VB lo n) [it] it (fun i h=>IsRangeIter h it (lo+(i:Nat) * 1) ((n:Int) - (i:Nat)) 1) where
 mem:=by simp
 obj:=fun i h st b hb=>by
  have e:b=it:=by simpa using hb
  subst e
  exact⟨_,st,fun v z=>by
   have z':Data.fields _=Data.cell v:=z
   cases z'⟩
 keep:=fun i h h' st k=>k it (by simp) _ st
 item:=by
  intro X hP hw hK hc i pins s σ H E I hf st hg
  subst hP hw hK
  obtain⟨f0,f1,f2,f3,f4,f5⟩:=hf it (by simp)
  have W:=Walks.range (prog:=X.prog) (w:=X.w) (I.ok.hd hc) it lo 1 n
  refine W.item i s _ _ hg st fun v h' tk hv st' kk=>?_
  obtain⟨t,rfl⟩:=hv
  have I1:Inv X pins σ H { s with heap:=h',toks:=tk }:=I.turned (fun b o hb e=>kk b o (by simpa using hb) e) f0 f1 f3 f4 f5
  refine⟨_,rfl,Ce (s:={ s with heap:=h',toks:=tk }) (n := "range_iterator") st' rfl rfl (by decide) ⟨.int (lo+i),H,I1,⟨t,?_⟩,⟨rfl,rfl⟩,st',fun b hb=>(hf b hb).1⟩⟩
  rw[Int.mul_one]
 done:=by
  intro X hP hw hK hc i pins s σ H E I hf st hg
  subst hP hw hK
  obtain⟨f0,f1,f2,f3,f4,f5⟩:=hf it (by simp)
  exact wpAny_pyNext_range_end (I.ok.hd hc) st (by have:n≤i:=hg;omega) fun h' eb=>⟨rfl,I.turned (t':=s.toks) (fun b o hb e=>eb b o hb e) f0 f1 f3 f4 f5⟩
 self:=fun _ _ _ _ _ st h=>wpAny_pyIter_rangeiter st h
section
variable {X:Cx}{tg:Expr}
def Rb (K:W.Frag) (tl:TE):TI:=fun σ H R=>tl σ H fun x H1=>∃ a,x=.ref a∧(∃ xs,aU K H1 a xs)∧R (Vz K a) H1
def Wl (K:W.Frag) (tl:TE):TI:=fun σ H R=>tl σ H fun x H1=>∃ a,x=.ref a∧(∃ xs,aY K H1 a xs)∧R (VA K a) H1
theorem Pa {l:Expr}{tl:TE} (hl:PE X l tl):PI X tg l (Rb X.K tl):=by
 intro pins s σ H R I h
 refine dQ (hl pins s σ H _ I h) fun v s1 ⟨x,H1,I1,r1,q1⟩=>?_
 obtain⟨a,e,⟨xs,hq⟩,q⟩:=q1
 subst e
 cases r1
 obtain⟨its,rv,p,hz⟩:=I1.list hq
 refine wpAny_pyIter_list p.isList ?_
 refine⟨s1.heap.objs.size,[s1.heap.objs.size],_,_,H1,rfl,I1.kept (t':=s1.toks) fun b o e=>Heap.get?_push_of_some _ e,Kr a _,⟨_,Heap.get?_push_size _ rfl,rfl,rfl⟩,fun b hb=>?_,q⟩
 have e:b=s1.heap.objs.size:=by simpa using hb
 subst e
 exact I1.u0 (Nat.le_refl _) (I1.hok.fresh (Nat.le_refl _))
theorem RX {l:Expr}{tl:TE} (hl:PE X l tl):PI X tg l (Wl X.K tl):=by
 intro pins s σ H R I h
 refine dQ (hl pins s σ H _ I h) fun v s1 ⟨x,H1,I1,r1,q1⟩=>?_
 obtain⟨a,e,⟨xs,hq⟩,q⟩:=q1
 subst e
 cases r1
 obtain⟨its,rv,p,hz⟩:=I1.tuple hq
 refine wpAny_pyIter_tuple (show s1.heap.IsTuple a its.toArray from p) ?_
 refine⟨s1.heap.objs.size,[s1.heap.objs.size],_,_,H1,rfl,I1.kept (t':=s1.toks) fun b o e=>Heap.get?_push_of_some _ e,Hf a _,⟨_,Heap.get?_push_size _ rfl,rfl,rfl⟩,fun b hb=>?_,q⟩
 have e:b=s1.heap.objs.size:=by simpa using hb
 subst e
 exact I1.u0 (Nat.le_refl _) (I1.hok.fresh (Nat.le_refl _))
theorem Mt {pins:List (Addr×Obj)}{σ:St}{H:Hp}{s:Shared}{R:It→Hp→Prop}{E:Value→Shared→Prop}{lo hi:Int}{t u v:Tok}{tk:Nat} (I:Inv X pins σ H s) (h1 : -(2 ^ 62)≤lo) (h2:lo < 2 ^ 62) (h3 : -(2 ^ 62)≤hi) (h4:hi < 2 ^ 62)
  (q:R (VB lo (hi - lo).toNat) H):wpAny (model X.prog X.w) X.A (pyIter (.ref s.heap.objs.size)) (PIE X pins σ tg R) E { s with heap:=s.heap.push { cls:=.type "range",data:=.fields #[.int lo t,.int hi u,.int 1 v] },toks:=tk }:=by
 refine wpAny_pyIter_range (IsRange.new ..) (small_one h1 h2 h3 h4) ?_
 have I1:Inv X pins σ H { s with heap:=s.heap.push { cls:=.type "range",data:=.fields #[.int lo t,.int hi u,.int 1 v] },toks:=tk }:=I.kept fun b o e=>Heap.get?_push_of_some _ e
 refine⟨(s.heap.push { cls:=.type "range",data:=.fields #[.int lo t,.int hi u,.int 1 v] }).objs.size,[(s.heap.push { cls:=.type "range",data:=.fields #[.int lo t,.int hi u,.int 1 v] }).objs.size],_,_,H,rfl,
  I1.kept (t':=tk) fun b o e=>Heap.get?_push_of_some _ e,Hg _ lo (hi - lo).toNat,?_,fun b hb=>?_,q⟩
 ·have e1:lo+((0:Nat):Int) * 1=lo:=by simp
  have e2:(((hi - lo).toNat:Nat):Int) - ((0:Nat):Int)=Builtin.Range.rangeSize lo hi 1:=by rw[rangeSize_one];split <;> omega
  show IsRangeIter _ _ (lo+((0:Nat):Int) * 1) ((((hi - lo).toNat:Nat):Int) - ((0:Nat):Int)) 1
  rw[e1,e2]
  exact Heap.get?_push_size _ rfl
 ·have e:b=(s.heap.push { cls:=.type "range",data:=.fields #[.int lo t,.int hi u,.int 1 v] }).objs.size:=by simpa using hb
  subst e
  exact I1.u0 (Nat.le_refl _) (I1.hok.fresh (Nat.le_refl _))
def Wm (ta:TA):TI:=fun σ H R=>ta σ H fun vs H1=>∃ j:Int,vs=[.int j]∧-(2 ^ 62)≤j∧j < 2 ^ 62∧R (VB 0 j.toNat) H1
theorem lR {a:Expr}{ta:TA}{p pos:Pos} (hg:Gl X "range") (hm:X.mg "range" = none) (ha:PA X [a] ta) (hs:starEach [a] X.env=[(false,eval a X.env)]:=by rfl):PI X tg (.Call (.Name "range" p) [a] [] pos) (Wm ta):=by
 intro pins s σ H R I h
 refine Call_ (o6 I hg hm boot_range (PyProof.Rows.callWith_type1 (dQ (ha pos pins s σ H _ I h) fun us s1 ⟨vs,H1,I1,r1,q1⟩=>?_) hs rfl))
 obtain⟨j,e,q1,q2,q⟩:=q1
 subst e
 cases r1 with
 | cons r rr =>
  cases rr
  obtain⟨t,rfl⟩:=r
  exact call_range_1 (Mt I1 (by omega) (by omega) q1 q2 (by simpa using q))
def adn (wi:TI) (g:TG) (tb:TS):TS:=fun D σ H=>wi σ H fun J H1=>∃ W:Nat→Nat→St→Hp→Prop,(∃ m,W 0 m σ H1)∧∀ i m σ H,W i m σ H →
 (J.stop i H∧D.nx σ H)∨(J.go i H∧∃ N:St→Hp→Prop,(∀ σ' H',N σ' H'→∃ m',m' < m∧W (i+1) m' σ' H')∧∀ x H',J.L0 i H x H'→g x σ H' fun σ2 H2=>tb { D with nx:=N,ct:=N,bk:=D.nx } σ2 H2)
def zM (fp:List Addr) (h:Heap):List (Addr×Obj):=fp.filterMap fun b=>(h.get? b).map fun o=>(b,o)
theorem o7 {fp:List Addr}{h:Heap}{b:Addr}{o:Obj} (hb:b∈fp) (e:h.get? b=some o):(b,o)∈zM fp h:=List.mem_filterMap.mpr ⟨b,hb,by rw[e];rfl⟩
theorem Ks {fp:List Addr}{h:Heap}{p:Addr×Obj} (hp:p∈zM fp h):p.1∈fp∧h.get? p.1=some p.2:=by
 obtain⟨b,hb,e⟩:=List.mem_filterMap.mp hp
 cases q:h.get? b with
 | none=>rw[q] at e;cases e
 | some o =>
  rw[q] at e
  have e':(b,o)=p:=Option.some.inj e
  subst e'
  exact⟨hb,q⟩
theorem Inv.pinned {pins:List (Addr×Obj)}{σ:St}{H:Hp}{s:Shared}{fp:List Addr} (I:Inv X pins σ H s) (hf:∀ b∈fp,ur X pins H b) (ho:∀ b∈fp,∃ o,s.heap.get? b=some o∧∀ v,o.data≠.cell v):Inv X (pins++zM fp s.heap) σ H s :=
 I.JH fun p hp=>(List.mem_append.mp hp).elim (fun z=>I.pin p (List.mem_append_right _ z)) fun z=>by
  obtain⟨hb,e⟩:=Ks z
  obtain⟨f0,f1,f2,_⟩:=hf p.1 hb
  obtain⟨o,e',d⟩:=ho p.1 hb
  rw[e] at e';cases e'
  exact⟨e,f0,f1,f2,d⟩
theorem Inv.u5 {pins pl:List (Addr×Obj)}{σ:St}{H:Hp}{s:Shared} (I:Inv X (pins++pl) σ H s):Inv X pins σ H s:=I.JH fun p hp=>I.pin p (List.mem_append_right _ (List.mem_append_left _ hp))
theorem cU {iter:Expr}{body:List Stmt}{wi:TI}{g:TG}{tb:TS}{pos:Pos} (hp:PassesOwn (model X.prog X.w) X.A X.env X.xe) (hc:X.calm=true) (hi:PI X tg iter wi) (hg:PG X tg g) (hb:JI X body tb)
  (hs:∀ x,foldedSetIterable iter X.env x=pure x:=by intro _;rfl):PS X (.For tg iter body [] pos) (adn wi g tb):=by
 intro pins s σ H D I h
 refine wpAny_For (dQ (hi pins s σ H _ I h) fun v s1 h1=>dQ h1 fun itv s2 h2=>?_) hs
 obtain⟨it,fp,tn,J,H2,e,I2,T,st2,f2,W,⟨m0,w0⟩,turn⟩:=h2
 subst e
 have Hh:∀{H':Hp},(∀ b∈fp,H' b=none)→∀ b∈fp,ur X pins H' b:=fun hn b hb=>⟨hn b hb,(f2 b hb).2⟩
 refine codeAny_forLoop_any (fun n s'=>∃ i σ' H',Inv X pins σ' H' s'∧tn i s'.heap∧(∀ b∈fp,H' b=none)∧W i n σ' H') ?_ m0 ⟨0,σ,H2,I2,st2,fun b hb=>(f2 b hb).1,w0⟩
 rintro n s3 ⟨i,σ3,H3,I3,st3,fr3,w3⟩
 rcases turn i n σ3 H3 w3 with ⟨stop,qn⟩ | ⟨go,N,hN,step⟩
 ·refine wpAny_passesOwn hp (dQ (T.done X rfl rfl rfl hc i pins s3 σ3 H3 X.xe I3 (Hh fr3) st3 stop) fun r s4 ⟨hr,I4⟩=>?_)
  subst hr
  exact wpAny_execs_nil ⟨σ3,H3,I4,qn⟩
 ·refine wpAny_passesOwn hp (dQ (T.item X rfl rfl rfl hc i pins s3 σ3 H3 X.xe I3 (Hh fr3) st3 go) fun r s4 ⟨u,hr,h4⟩=>?_)
  subst hr
  refine wpAny_passesOwn hp (dQ h4 fun _ s5 ⟨x,H5,I5,r5,y5,st5,fr5⟩=>?_)
  have I5':=I5.pinned (Hh fr5) (T.obj _ _ st5)
  refine wpAny_passesOwn hp (dQ (hg _ s5 σ3 H5 x u _ I5' r5 (step x H5 y5)) fun _ s6 ⟨σ6,H6,I6,q6⟩=>?_)
  refine wpAny_passesOwn hp (dQ (hb _ s6 σ6 H6 _ I6 q6) fun f s7 q7=>?_)
  have again:∀{σ7:St}{H7:Hp},Inv X (pins++zM fp s5.heap) σ7 H7 s7→N σ7 H7→∃ m,m < n∧∃ i σ' H',Inv X pins σ' H' s7∧tn i s7.heap∧(∀ b∈fp,H' b=none)∧W i m σ' H':=fun {σ7 H7} I7 n7=>by
   obtain⟨m',hm,w7⟩:=hN σ7 H7 n7
   refine⟨m',hm,i+1,σ7,H7,I7.u5,T.keep _ _ _ st5 fun b hb o e=>(I7.pin (b,o) (List.mem_append_right _ (List.mem_append_right _ (o7 hb e)))).1,fun b hb=>?_,w7⟩
   obtain⟨o,e,d⟩:=T.obj _ _ st5 b hb
   exact(I7.pin (b,o) (List.mem_append_right _ (List.mem_append_right _ (o7 hb e)))).2.1
  cases f with
  | next=>obtain⟨σ7,H7,I7,n7⟩:=q7;exact again I7 n7
  | cont=>obtain⟨σ7,H7,I7,n7⟩:=q7;exact again I7 n7
  | brk=>obtain⟨σ7,H7,I7,q7⟩:=q7;exact⟨σ7,H7,I7.u5,q7⟩
  | ret v=>obtain⟨x7,σ7,H7,I7,r7,q7⟩:=q7;exact⟨x7,σ7,H7,I7.u5,r7,q7⟩
end
theorem i7 {K:W.Frag}{a:Addr}{xs:List V}{g:TG}{tb:TS}{D:Ends}{σ:St}{H:Hp} (Pv:Nat→St→Hp→Prop) (h0:Pv 0 σ H) (hl:∀ i σ H,i≤xs.length→Pv i σ H→aU K H a xs)
  (hs:∀ i x σ H,xs[i]? = some x→Pv i σ H→g x σ H fun σ2 H2=>tb { D with nx:=Pv (i+1),ct:=Pv (i+1),bk:=D.nx } σ2 H2) (hd:∀ σ H,Pv xs.length σ H→D.nx σ H) :
  ∃ W:Nat→Nat→St→Hp→Prop,(∃ m,W 0 m σ H)∧∀ i m σ H,W i m σ H →
   ((Vz K a).stop i H∧D.nx σ H)∨((Vz K a).go i H∧∃ N:St→Hp→Prop,(∀ σ' H',N σ' H'→∃ m',m' < m∧W (i+1) m' σ' H')∧∀ x H',(Vz K a).L0 i H x H'→g x σ H' fun σ2 H2=>tb { D with nx:=N,ct:=N,bk:=D.nx } σ2 H2):=by
 refine⟨fun i m σ H=>m=xs.length - i∧i≤xs.length∧Pv i σ H,⟨xs.length,by simp,Nat.zero_le _,h0⟩,?_⟩
 rintro i m σ H ⟨rfl,hi,p⟩
 have q:=hl i σ H hi p
 by_cases hlt:i < xs.length
 ·refine .inr ⟨⟨xs,xs[i],q,by simp[hlt]⟩,Pv (i+1),fun σ' H' p'=>⟨xs.length - (i+1),by omega,rfl,hlt,p'⟩,fun x H' y=>?_⟩
  obtain⟨e,y⟩:=y
  subst e
  exact hs i x σ _ (y xs q) p
 ·have e:i=xs.length:=by omega
  subst e
  exact .inl ⟨⟨xs,q,Nat.le_refl _⟩,hd σ H p⟩
theorem Pb {K:W.Frag}{a:Addr}{xs:List V}{g:TG}{tb:TS}{D:Ends}{σ:St}{H:Hp} (Pv:Nat→St→Hp→Prop) (h0:Pv 0 σ H) (hl:∀ i σ H,i≤xs.length→Pv i σ H→aY K H a xs)
  (hs:∀ i x σ H,xs[i]? = some x→Pv i σ H→g x σ H fun σ2 H2=>tb { D with nx:=Pv (i+1),ct:=Pv (i+1),bk:=D.nx } σ2 H2) (hd:∀ σ H,Pv xs.length σ H→D.nx σ H) :
  ∃ W:Nat→Nat→St→Hp→Prop,(∃ m,W 0 m σ H)∧∀ i m σ H,W i m σ H →
   ((VA K a).stop i H∧D.nx σ H)∨((VA K a).go i H∧∃ N:St→Hp→Prop,(∀ σ' H',N σ' H'→∃ m',m' < m∧W (i+1) m' σ' H')∧∀ x H',(VA K a).L0 i H x H'→g x σ H' fun σ2 H2=>tb { D with nx:=N,ct:=N,bk:=D.nx } σ2 H2):=by
 refine⟨fun i m σ H=>m=xs.length - i∧i≤xs.length∧Pv i σ H,⟨xs.length,by simp,Nat.zero_le _,h0⟩,?_⟩
 rintro i m σ H ⟨rfl,hi,p⟩
 have q:=hl i σ H hi p
 by_cases hlt:i < xs.length
 ·refine .inr ⟨⟨xs,xs[i],q,by simp[hlt]⟩,Pv (i+1),fun σ' H' p'=>⟨xs.length - (i+1),by omega,rfl,hlt,p'⟩,fun x H' y=>?_⟩
  obtain⟨e,y⟩:=y
  subst e
  exact hs i x σ _ (y xs q) p
 ·have e:i=xs.length:=by omega
  subst e
  exact .inl ⟨⟨xs,q,Nat.le_refl _⟩,hd σ H p⟩
theorem lS {lo:Int}{n:Nat}{g:TG}{tb:TS}{D:Ends}{σ:St}{H:Hp} (Pv:Nat→St→Hp→Prop) (h0:Pv 0 σ H)
  (hs:∀ i σ H,i < n→Pv i σ H→g (.int (lo+i)) σ H fun σ2 H2=>tb { D with nx:=Pv (i+1),ct:=Pv (i+1),bk:=D.nx } σ2 H2) (hd:∀ σ H,Pv n σ H→D.nx σ H) :
  ∃ W:Nat→Nat→St→Hp→Prop,(∃ m,W 0 m σ H)∧∀ i m σ H,W i m σ H →
   ((VB lo n).stop i H∧D.nx σ H)∨((VB lo n).go i H∧∃ N:St→Hp→Prop,(∀ σ' H',N σ' H'→∃ m',m' < m∧W (i+1) m' σ' H')∧∀ x H',(VB lo n).L0 i H x H'→g x σ H' fun σ2 H2=>tb { D with nx:=N,ct:=N,bk:=D.nx } σ2 H2):=by
 refine⟨fun i m σ H=>m=n - i∧i≤n∧Pv i σ H,⟨n,by simp,Nat.zero_le _,h0⟩,?_⟩
 rintro i m σ H ⟨rfl,hi,p⟩
 by_cases hlt:i < n
 ·refine .inr ⟨hlt,Pv (i+1),fun σ' H' p'=>⟨n - (i+1),by omega,rfl,hlt,p'⟩,fun x H' y=>?_⟩
  obtain⟨e,y⟩:=y
  subst e y
  exact hs i σ _ hlt p
 ·have e:i=n:=by omega
  subst e
  exact .inl ⟨Nat.le_refl _,hd σ H p⟩
abbrev R2:=V→V→Hp→VK→Prop
def o8 (X:Cx) (f:Value→Value→Sem Value) (r:R2):Prop :=
 ∀(pins:List (Addr×Obj)) (s:Shared) (σ:St) (H:Hp) (x y:V) (v u:Value) (Q:VK),Inv X pins σ H s→RelV x v→RelV y u→r x y H Q →
  wpAny (model X.prog X.w) X.A (f v u) (EP X pins σ Q) X.xe s
def fV (X:Cx) (f:Value) (r:List V→Hp→VK→Prop):Prop :=
 ∀(pins:List (Addr×Obj)) (s:Shared) (σ:St) (H:Hp) (xs:List V) (us:List Value) (Q:VK),Inv X pins σ H s→Vals xs us→r xs H Q →
  wpAny (model X.prog X.w) X.A (call f us) (EP X pins σ Q) X.xe s
def Rc (r:R2) (ta tb:TE):TE:=fun σ H Q=>ta σ H fun x H1=>tb σ H1 fun y H2=>r x y H2 Q
def rI (C:Int→Int→Prop) (g:Int→Int→V):R2:=fun x y H Q=>∃ i j,x=.int i∧y=.int j∧C i j∧Q (g i j) H
def Rf (g:Int→Int→V):R2:=fun x y H Q=>∃ i j,x=.int i∧y=.int j∧Q (g i j) H
section
variable {X:Cx}{a b c:Expr}{ta tb tc:TE}{pos:Pos}
theorem RY (ha:PE X a ta) (hb:PE X b tb) {pins:List (Addr×Obj)}{s:Shared}{σ:St}{H:Hp}{R:V→V→Hp→Prop} (I:Inv X pins σ H s)
  (h:ta σ H fun x H1=>tb σ H1 fun y H2=>R x y H2) {Q:Value→Shared→Prop}{f:Value→Value→Sem Value}
  (hf:∀ v u s2 x y H2,Inv X pins σ H2 s2→RelV x v→RelV y u→R x y H2→wpAny (model X.prog X.w) X.A (f v u) Q X.xe s2) :
  wpAny (model X.prog X.w) X.A (eval a X.env) (fun v s₁=>wpAny (model X.prog X.w) X.A (eval b X.env) (fun u s₂=>wpAny (model X.prog X.w) X.A (f v u) Q X.xe s₂) X.xe s₁) X.xe s:=by
 refine dQ (ha pins s σ H _ I h) fun v s1 ⟨x,H1,I1,r1,q1⟩=>?_
 refine dQ (hb pins s1 σ H1 _ I1 q1) fun u s2 ⟨y,H2,I2,r2,q2⟩=>?_
 exact hf v u s2 x y H2 I2 r1 r2 q2
theorem aK {op:Operator}{r:R2} (ho:o8 X (binaryOp op) r) (ha:PE X a ta) (hb:PE X b tb):PE X (.BinOp a op b pos) (Rc r ta tb):=by
 intro pins s σ H Q I h
 exact wpAny_BinOp (RY ha hb I h fun v u s2 x y H2 I2 rx ry q=>ho pins s2 σ H2 x y v u Q I2 rx ry q)
theorem opI {f:Value→Value→Sem Value}{C:Int→Int→Prop}{g:Int→Int→Int}
  (rule:∀(i j:Int) (t u:Tok) (s:Shared) (Q:Value→Shared→Prop) (E:Value→Shared→Prop),C i j→Q (.int (g i j) s.toks) { s with toks:=s.toks+1 }→wpAny (model X.prog X.w) X.A (f (.int i t) (.int j u)) Q E s) :
  o8 X f (rI C fun i j=>.int (g i j)):=by
 intro pins s σ H x y v u Q I rx ry h
 obtain⟨i,j,rfl,rfl,hc,q⟩:=h
 obtain⟨t,rfl⟩:=rx
 obtain⟨t',rfl⟩:=ry
 exact rule i j t t' s _ _ hc ⟨.int (g i j),H,I.tok _,⟨_,rfl⟩,q⟩
theorem Wn {f:Value→Value→Sem Value}{g:Int→Int→Int}
  (rule:∀(i j:Int) (t u:Tok) (s:Shared) (Q:Value→Shared→Prop) (E:Value→Shared→Prop),Q (.int (g i j) s.toks) { s with toks:=s.toks+1 }→wpAny (model X.prog X.w) X.A (f (.int i t) (.int j u)) Q E s) :
  o8 X f (Rf fun i j=>.int (g i j)):=by
 intro pins s σ H x y v u Q I rx ry h
 obtain⟨i,j,rfl,rfl,q⟩:=h
 obtain⟨t,rfl⟩:=rx
 obtain⟨t',rfl⟩:=ry
 exact rule i j t t' s _ _ ⟨.int (g i j),H,I.tok _,⟨_,rfl⟩,q⟩
theorem Pc {f:Value→Value→Sem Value}{g:Int→Int→Bool}
  (rule:∀(i j:Int) (t u:Tok) (s:Shared) (Q:Value→Shared→Prop) (E:Value→Shared→Prop),Q (.bool (g i j)) s→wpAny (model X.prog X.w) X.A (f (.int i t) (.int j u)) Q E s) :
  o8 X f (Rf fun i j=>.bl (g i j)):=by
 intro pins s σ H x y v u Q I rx ry h
 obtain⟨i,j,rfl,rfl,q⟩:=h
 obtain⟨t,rfl⟩:=rx
 obtain⟨t',rfl⟩:=ry
 exact rule i j t t' s _ _ ⟨.bl (g i j),H,I,rfl,q⟩
def ado (i j:Int):Prop:=0 < j∧j < 1073741824
def Wo (i j:Int):Prop:=0≤j∧j≤1000000∧i.natAbs < 2 ^ 64
def RZ (i j:Int):Prop:=(-(2 ^ 64) < i∧i < 2 ^ 64)∨(-(2 ^ 64) < j∧j < 2 ^ 64)
theorem RZ.ok {i j:Int} (h:RZ i j):IntMulOk i j:=by
 rcases h with ⟨h1,h2⟩ | ⟨h1,h2⟩
 ·exact .of_left (intBits_le_64 h1 h2)
 ·exact .of_right (intBits_le_64 h1 h2)
theorem e9:o8 X (binaryOp .Add) (Rf fun i j=>.int (i+j)):=Wn fun _ _ _ _ _ _ _ q=>add_int q
theorem R1:o8 X (binaryOp .Sub) (Rf fun i j=>.int (i - j)):=Wn fun _ _ _ _ _ _ _ q=>sub_int q
theorem kN:o8 X (binaryOp .Mult) (rI RZ fun i j=>.int (i * j)):=opI fun _ _ _ _ _ _ _ hc q=>mul_int q hc.ok
theorem dW:o8 X (binaryOp .FloorDiv) (rI ado fun i j=>.int (i / j)):=opI fun i j _ _ _ _ _ hc q=>by
 have h1:(0:Int) < j:=hc.1
 have h2:j < 1073741824:=hc.2
 exact floordiv_int (by omega) (by rw[Int.fdiv_eq_ediv_of_nonneg i (by omega)];exact q) (.inl (PyProof.noPylong_small (by omega)))
theorem dB:o8 X (binaryOp .Mod) (rI (fun _ j=>0 < j) fun i j=>.int (i % j)):=opI fun i j _ _ _ _ _ hc q=>by
 have h1:(0:Int) < j:=hc
 exact mod_int' (by omega) (by rw[Int.fmod_eq_emod_of_nonneg i (by omega)];exact q)
theorem Hi:o8 X (binaryOp .Pow) (rI Wo fun i j=>.int (i ^ j.toNat)):=opI fun _ _ _ _ _ _ _ hc q=>pow_int_small hc.1 hc.2.1 hc.2.2 q
end
def Wq:V→V→Bool
 | .non,.non=>true | .non,.int _=>true | .int _,.non=>true | .non,.bl _=>true | .bl _,.non=>true | .non,.str _=>true | .str _,.non=>true
 | .int _,.int _=>true | .bl _,.bl _=>true | .str _,.str _=>true | .LZ _,.LZ _=>true
 | .int _,.str _=>true | .str _,.int _=>true | .bl _,.str _=>true | .str _,.bl _=>true
 | _,_=>false
def rEq:R2:=fun x y H Q=>Wq x y=true∧Q (.bl (decide (x=y))) H
def rNe:R2:=fun x y H Q=>Wq x y=true∧Q (.bl (!decide (x=y))) H
theorem JJ {i j:Int}:decide (V.int i=V.int j)=(i == j):=by
 rw[Bool.eq_iff_iff]
 simp
theorem Mu {i j:Bool}:decide (V.bl i=V.bl j)=(i == j):=by
 rw[Bool.eq_iff_iff]
 simp
theorem JK {i j:Str}:decide (V.str i=V.str j)=(i == j):=by
 rw[Bool.eq_iff_iff]
 simp
theorem JL {i j:Array UInt8}:decide (V.LZ i=V.LZ j)=(i.toList == j.toList):=by
 rw[Bool.eq_iff_iff]
 cases i
 cases j
 simp
section
variable {X:Cx}{a b c:Expr}{ta tb tc:TE}{pos:Pos}
theorem bL {pins:List (Addr×Obj)}{σ:St}{H:Hp}{s:Shared}{Q:VK}{k k':Bool} (I:Inv X pins σ H s) (q:Q (.bl k) H) (e:k=k'):EP X pins σ Q (.bool k') s:=by
 subst e
 exact⟨.bl k,H,I,rfl,q⟩
theorem bA:o8 X (compareOp .Eq) rEq:=by
 intro pins s σ H x y v u Q I rx ry h
 obtain⟨hs,q⟩:=h
 cases x with
 | non =>
  cases rx
  cases y with
  | non=>cases ry;exact PySem.EqNone.eq_none_none (bL I q (by simp))
  | bl j=>cases ry;exact PySem.EqNone.eq_none_bool (bL I q (by simp))
  | int j=>obtain⟨t',rfl⟩:=ry;exact PySem.EqNone.eq_none_int (bL I q (by simp))
  | str j=>obtain⟨t',rfl⟩:=ry;exact PySem.EqNone.eq_none_str (bL I q (by simp))
  | _=>exact absurd (show false=true from hs) Bool.false_ne_true
 | bl i =>
  cases rx
  cases y with
  | non=>cases ry;exact PySem.EqNone.eq_bool_none (bL I q (by simp))
  | bl j=>cases ry;exact eq_bool (bL I q Mu)
  | str j=>obtain⟨t',rfl⟩:=ry;exact PySem.EqMixed.eq_bool_str (bL I q (by simp))
  | _=>exact absurd (show false=true from hs) Bool.false_ne_true
 | int i =>
  obtain⟨t,rfl⟩:=rx
  cases y with
  | non=>cases ry;exact PySem.EqNone.eq_int_none (bL I q (by simp))
  | int j=>obtain⟨t',rfl⟩:=ry;exact eq_int (bL I q JJ)
  | str j=>obtain⟨t',rfl⟩:=ry;exact PySem.EqMixed.eq_int_str (bL I q (by simp))
  | _=>exact absurd (show false=true from hs) Bool.false_ne_true
 | str i =>
  obtain⟨t,rfl⟩:=rx
  cases y with
  | non=>cases ry;exact PySem.EqNone.eq_str_none (bL I q (by simp))
  | bl j=>cases ry;exact PySem.EqMixed.eq_str_bool (bL I q (by simp))
  | int j=>obtain⟨t',rfl⟩:=ry;exact PySem.EqMixed.eq_str_int (bL I q (by simp))
  | str j=>obtain⟨t',rfl⟩:=ry;exact eq_str (bL I q JK)
  | _=>exact absurd (show false=true from hs) Bool.false_ne_true
 | LZ i =>
  obtain⟨t,rfl⟩:=rx
  cases y with
  | LZ j=>obtain⟨t',rfl⟩:=ry;exact W.eq_bytes (bL I q JL)
  | _=>exact absurd (show false=true from hs) Bool.false_ne_true
 | _=>cases y <;> exact absurd (show false=true from hs) Bool.false_ne_true
theorem u6:o8 X (compareOp .NotEq) rNe:=by
 intro pins s σ H x y v u Q I rx ry h
 obtain⟨hs,q⟩:=h
 cases x with
 | non =>
  cases rx
  cases y with
  | non=>cases ry;exact PySem.EqNone.ne_none_none (bL I q (by simp))
  | bl j=>cases ry;exact PySem.EqNone.ne_none_bool (bL I q (by simp))
  | int j=>obtain⟨t',rfl⟩:=ry;exact PySem.EqNone.ne_none_int (bL I q (by simp))
  | str j=>obtain⟨t',rfl⟩:=ry;exact PySem.EqNone.ne_none_str (bL I q (by simp))
  | _=>exact absurd (show false=true from hs) Bool.false_ne_true
 | bl i =>
  cases rx
  cases y with
  | non=>cases ry;exact PySem.EqNone.ne_bool_none (bL I q (by simp))
  | bl j=>cases ry;exact ne_bool (bL I q (congrArg not Mu))
  | str j=>obtain⟨t',rfl⟩:=ry;exact PySem.EqMixed.ne_bool_str (bL I q (by simp))
  | _=>exact absurd (show false=true from hs) Bool.false_ne_true
 | int i =>
  obtain⟨t,rfl⟩:=rx
  cases y with
  | non=>cases ry;exact PySem.EqNone.ne_int_none (bL I q (by simp))
  | int j=>obtain⟨t',rfl⟩:=ry;exact ne_int (bL I q (congrArg not JJ))
  | str j=>obtain⟨t',rfl⟩:=ry;exact PySem.EqMixed.ne_int_str (bL I q (by simp))
  | _=>exact absurd (show false=true from hs) Bool.false_ne_true
 | str i =>
  obtain⟨t,rfl⟩:=rx
  cases y with
  | non=>cases ry;exact PySem.EqNone.ne_str_none (bL I q (by simp))
  | bl j=>cases ry;exact PySem.EqMixed.ne_str_bool (bL I q (by simp))
  | int j=>obtain⟨t',rfl⟩:=ry;exact PySem.EqMixed.ne_str_int (bL I q (by simp))
  | str j=>obtain⟨t',rfl⟩:=ry;exact ne_str (bL I q (congrArg not JK))
  | _=>exact absurd (show false=true from hs) Bool.false_ne_true
 | LZ i =>
  obtain⟨t,rfl⟩:=rx
  cases y with
  | LZ j=>obtain⟨t',rfl⟩:=ry;exact W.ne_bytes (bL I q (congrArg not JL))
  | _=>exact absurd (show false=true from hs) Bool.false_ne_true
 | _=>cases y <;> exact absurd (show false=true from hs) Bool.false_ne_true
theorem Cf:o8 X (compareOp .Lt) (Rf fun i j=>.bl (decide (i < j))):=Pc fun _ _ _ _ _ _ _ q=>lt_int q
theorem Mv:o8 X (compareOp .LtE) (Rf fun i j=>.bl (decide (i≤j))):=Pc fun _ _ _ _ _ _ _ q=>le_int q
theorem qI:o8 X (compareOp .Gt) (Rf fun i j=>.bl (decide (j < i))):=Pc fun _ _ _ _ _ _ _ q=>gt_int q
theorem Mw:o8 X (compareOp .GtE) (Rf fun i j=>.bl (decide (j≤i))):=Pc fun _ _ _ _ _ _ _ q=>ge_int q
theorem cD:o8 X (compareOp .In) (fun x y H Q=>∃ i j,x=.str i∧y=.str j∧Q (.bl (!(Builtin.Str.occurrences j i 0 j.length 1).isEmpty)) H):=by
 intro pins s σ H x y v u Q I rx ry h
 obtain⟨i,j,rfl,rfl,q⟩:=h
 obtain⟨t,rfl⟩:=rx
 obtain⟨t',rfl⟩:=ry
 exact in_str (bL I q rfl)
theorem o9:o8 X (compareOp .Is) (fun x y H Q=>y=.non∧Q (.bl (decide (x=.non))) H):=by
 intro pins s σ H x y v u Q I rx ry h
 obtain⟨rfl,q⟩:=h
 cases ry
 refine is_none_gen (bL I q ?_)
 cases x <;> first
  | (cases rx;rfl)
  | (obtain⟨t,rfl⟩:=rx;rfl)
theorem pq:o8 X (compareOp .IsNot) (fun x y H Q=>y=.non∧Q (.bl (!decide (x=.non))) H):=by
 intro pins s σ H x y v u Q I rx ry h
 obtain⟨rfl,q⟩:=h
 cases ry
 refine isnot_none_gen (bL I q ?_)
 cases x <;> first
  | (cases rx;rfl)
  | (obtain⟨t,rfl⟩:=rx;rfl)
theorem Mx (b:Expr) {op:CmpOp} (h:op≠.In:=by decide) (h2:op≠.NotIn:=by decide):behindInMarks op b=false:=by
 have e1:(op == CmpOp.In)=false:=by cases op <;> first | rfl | exact absurd rfl h
 have e2:(op == CmpOp.NotIn)=false:=by cases op <;> first | rfl | exact absurd rfl h2
 cases b <;> simp[behindInMarks,e1,e2]
theorem Dq {op:CmpOp}{r:R2} (ho:o8 X (compareOp op) r) (ha:PE X a ta) (hb:PE X b tb) (hm:behindInMarks op b=false):PE X (.Compare a [op] [b] pos) (Rc r ta tb):=by
 intro pins s σ H Q I h
 exact wpAny_Compare1 (RY ha hb I h fun v u s2 x y H2 I2 rx ry q=>ho pins s2 σ H2 x y v u Q I2 rx ry q) hm
def Rg (t:TE):TT:=fun σ H Q=>t σ H fun x H'=>∃ k,x=.bl k∧Q k H'
theorem cu {op:CmpOp}{r:R2} (ho:o8 X (compareOp op) r) (ha:PE X a ta) (hb:PE X b tb) (hm:behindInMarks op b=false):PT X (.Compare a [op] [b] pos) (Rg (Rc r ta tb)):=by
 intro pins s σ H Q I h
 refine wpAny_isTrue_Compare1 (dQ (ha pins s σ H _ I h) fun v s1 ⟨x,H1,I1,r1,q1⟩=>dQ (hb pins s1 σ H1 _ I1 q1) fun u s2 ⟨y,H2,I2,r2,q2⟩ =>
  dQ (ho pins s2 σ H2 x y v u _ I2 r1 r2 q2) fun c s3 ⟨z,H3,I3,r3,k,e,q3⟩=>?_) hm
 subst e
 cases r3
 exact wpAny_truthy_bool ⟨H3,I3,q3⟩
theorem xh:(sizeLine:Nat) < 2 ^ 63:=by rw[sizeLine_eq];decide
theorem cE:o8 X (binaryOp .Add) (fun x y H Q=>∃ i j,x=.str i∧y=.str j∧i.length+j.length≤sizeLine∧Q (.str (i++j)) H):=by
 intro pins s σ H x y v u Q I rx ry h
 obtain⟨i,j,rfl,rfl,hz,q⟩:=h
 obtain⟨t,rfl⟩:=rx
 obtain⟨t',rfl⟩:=ry
 exact add_str (fun t' tk=>⟨.str (i++j),H,I.tok _,⟨_,rfl⟩,q⟩) hz
theorem vals1 {x:V}{us:List Value} (r:Vals [x] us):∃ u,us=[u]∧RelV x u:=by
 cases r with
 | cons r1 r2=>cases r2;exact⟨_,rfl,r1⟩
theorem vals2 {x y:V}{us:List Value} (r:Vals [x,y] us):∃ u w',us=[u,w']∧RelV x u∧RelV y w':=by
 cases r with
 | cons r1 r2 =>
  cases r2 with
  | cons r3 r4=>cases r4;exact⟨_,_,rfl,r1,r3⟩
theorem rU:fV X (.type "int") (fun xs H Q=>(∃ i,xs=[.int i]∧Q (.int i) H)∨∃ k,xs=[.bl k]∧Q (.int (if k then 1 else 0)) H):=by
 intro pins s σ H xs us Q I r h
 rcases h with ⟨i,rfl,q⟩ | ⟨k,rfl,q⟩
 ·obtain⟨u,rfl,t,rfl⟩:=vals1 r
  exact call_int_int ⟨.int i,H,I,⟨_,rfl⟩,q⟩
 ·obtain⟨u,rfl,r1⟩:=vals1 r
  cases r1
  exact call_int_bool ⟨.int (if k then 1 else 0),H,I.tok _,⟨_,rfl⟩,q⟩
theorem Mz:fV X (.builtin "ord") (fun xs H Q=>∃ x,xs=[.str x]∧x.length=1∧Q (.int (x.cps.getD 0 0:Nat)) H):=by
 intro pins s σ H xs us Q I r h
 obtain⟨x,rfl,hz,q⟩:=h
 obtain⟨u,rfl,t,rfl⟩:=vals1 r
 exact ord_of_one hz ⟨.int _,H,I.tok _,⟨_,rfl⟩,q⟩
end
structure Hj (h:Heap) (x dx C:Addr) (mA:Str→Option Value):Prop where
 obj:h.get? x=some (W.instObj C dx)
 ns:h.Ns1 dx mA
 ne:dx≠x
theorem Ku {h:Heap}{dx:Addr}{mA:Str→Option Value} (n:h.Ns1 dx mA):∃ od,h.get? dx=some od∧∀ name,W.lookIn name od=some (mA name):=by
 obtain⟨o,es,ep,ho,hd,hk,_,hm⟩:=n
 refine⟨o,ho,fun name=>?_⟩
 have e:=hm name
 unfold nsFind findBy at e
 rw[←Array.find?_toList] at e
 unfold W.lookIn
 rw[hd]
 dsimp only
 split
 ·rename_i y q
  rw[q] at e
  exact congrArg some e
 ·rename_i q
  rw[q] at e
  have a:es.toList.any (·.refKey)=false:=by
   rw[List.any_eq_false]
   intro y hy
   obtain⟨z,t,hkey⟩:=hk y (Array.mem_toList_iff.mp hy)
   simp[DictEntry.refKey,hkey]
  have a':¬es.toList.any (·.refKey)=true:=by rw[a];exact Bool.false_ne_true
  rw[if_neg a']
  exact congrArg some e
theorem Hj.look {h:Heap}{x dx C:Addr}{mA:Str→Option Value} (I:Hj h x dx C mA):∃ od,W.InstAt h x (W.instObj C dx) C (some od)∧∀ name,W.lookIn name od=some (mA name) :=
 let ⟨od,ho,hl⟩:=Ku I.ns
 ⟨od,⟨I.obj,rfl,rfl,ho⟩,hl⟩
section
variable {prog:Program}{w:World}{A:Around}{E:Value→Shared→Prop}{s:Shared}{K:W.Frag}{x dx C f:Addr}{mA:Str→Option Value}{name:Str}{v:Value}
theorem get_map {expr:Bool}{Q:Value→Shared→Prop} (X:K.In s.heap) (I:Hj s.heap x dx C mA) (hg:W.plainGet K C name=true) (hh:W.hasDictIn K C=true)
  (ha:W.findIn K (.ref C) name=some none) (hv:mA name=some v) (hv':W.handedIn v=true) (h:Q v { s with toks:=s.toks+1 }) :
  wpAny (model prog w) A (getAttr (.ref x) name expr) Q E s:=by
 obtain⟨od,J,hl⟩:=I.look
 exact W.get_value X J (W.plainGet_of hg).1 (W.findObj_own hh ha rfl (by rw[hl,hv])) hv' h
theorem MA {pl:Sem Bool}{Q:Value×List Value→Shared→Prop} (X:K.In s.heap) (I:Hj s.heap x dx C mA) (hg:W.plainGet K C name=true)
  (hf:W.findIn K (.ref C) name=some (some (.ref f))) (ht:W.isFn K (.ref f)=true) (hv:mA name=none) (h:Q (.ref f,[.ref x]) s) :
  wpAny (model prog w) A (getMethod (.ref x) name pl) Q E s:=by
 obtain⟨od,J,hl⟩:=I.look
 exact W.method_fn X J (W.plainGet_of hg).1 (W.plainGet_of hg).2 hf (beq_iff_eq.mp ht) (by show(W.lookIn name od).map (·.isSome)=some false;rw[hl,hv];rfl) h
theorem Pd {ns:List Str}{Q:Unit→Shared→Prop} (X:K.In s.heap) (I:Hj s.heap x dx C mA)
  (hs:W.findIn K (.ref C) "__setattr__" = some (some (.builtin "object.__setattr__"))) (hp:W.plainOver K C=true) (ht:W.takerIn K C name=some none) (hh:W.hasDictIn K C=true)
  (hw:PySem.Within mA ns) (hsz:ns.length≤sizeLine)
  (h:∀ h',Hj h' x dx C (fun y=>if y=name then some v else mA y)→Heap.SameBut dx s.heap h'→Q () { s with heap:=h',toks:=s.toks+2 }) :
  wpAny (model prog w) A (setAttr (.ref x) name v) Q E s:=by
 obtain⟨od,J,hl⟩:=I.look
 refine W.set_plain X J hs (W.osa_open (s:={ s with toks:=s.toks+1 }) (r:=none) X J hp ht fun b=>?_)
 obtain⟨cd,hc,hd'⟩:=W.any_some hh
 have hx:s.heap.get? x=some ⟨.ref C,some dx,.plain,#[]⟩:=I.obj
 refine wpAny_bind (wpAny_pure (wpAny_bind (wpAny_bind (wpAny_loadPart hx (wpAny_bind (W.Looks.here (s:={ s with toks:=s.toks+1 }) (W.looks_clsIn X hc) ?_))))))
 rw[hd']
 refine wpAny_pure (a:=some dx) (wpAny_bind (wpAny_pure (wpAny_bind ?_)))
 refine wpAny_nsSet1 (s:={ s with toks:=s.toks+1 }) I.ns fun h' hn2 hs2=>?_
 obtain⟨oD,esD,epD,hoD,hdD,hcD⟩:=hn2.count (PySem.Within.cons name v hw)
 refine wpAny_bind (wpAny_lookBehind hoD (by rw[hdD];exact pastItsLine_dict (Nat.le_trans hcD (by rw[List.length_cons];omega))) ?_)
 exact wpAny_pure (h _ ⟨(hs2.2 _ (Ne.symm I.ne)).trans I.obj,hn2,I.ne⟩ hs2)
theorem MB {R:Result→Shared→Prop}{vs:List Value}{kw:List (Str×Value)} (X:K.In s.heap) (hm:W.makesIn K C=true)
  (hi:W.findIn K (.ref C) "__init__" = some (some (.ref f))) (hf:W.typeIn K (.ref f)=some (.type "function"))
  (h:codeAny (model prog w) (A.under (.builtin "type.__call__" ⟨.ref C :: vs,kw⟩)) (.call (.ref f) ⟨.ref (s.heap.objs.size+1) :: vs,kw⟩) (W.InitBack (s.heap.objs.size+1) R)
   { s with heap:=(s.heap.push W.emptyDict).push (W.instObj C s.heap.objs.size) }) :
  codeAny (model prog w) A (.call (.ref C) ⟨vs,kw⟩) R s:=by
 obtain⟨hh,g,d,t,os⟩:=s
 exact W.make_core (W.makes_of X hm) (W.looks_findIn X hi) (fun self=>W.bind_fn X self hf) (.inl rfl) h
end
def pA (f:Str) (v:V):List (Str×V)→List (Str×V)
 | []=>[(f,v)]
 | (g,x) :: r=>if g=f then (g,v) :: r else (g,x) :: pA f v r
theorem yc (f g:Str) (v:V):∀ fs:List (Str×V),(pA f v fs).lookup g=if g=f then some v else fs.lookup g
 | []=>by
  show List.lookup g [(f,v)]=_
  by_cases h:g=f
  ·have hb:(g == f)=true:=beq_iff_eq.mpr h
   simp only[List.lookup,hb,if_pos h]
  ·have hb:(g == f)=false:=beq_eq_false_iff_ne.mpr h
   simp only[List.lookup,hb,if_neg h]
 | (k,x) :: r=>by
  have ih:=yc f g v r
  rw[show pA f v ((k,x) :: r)=(if k=f then (k,v) :: r else (k,x) :: pA f v r) from rfl]
  by_cases hk:k=f
  ·rw[if_pos hk]
   by_cases h:g=k
   ·have hb:(g == k)=true:=beq_iff_eq.mpr h
    simp only[List.lookup,hb,if_pos (h.trans hk)]
   ·have hb:(g == k)=false:=beq_eq_false_iff_ne.mpr h
    simp only[List.lookup,hb,if_neg (fun e:g=f=>h (e.trans hk.symm))]
  ·rw[if_neg hk]
   by_cases h:g=k
   ·have hb:(g == k)=true:=beq_iff_eq.mpr h
    simp only[List.lookup,hb,if_neg (fun e:g=f=>hk (h.symm.trans e))]
   ·have hb:(g == k)=false:=beq_eq_false_iff_ne.mpr h
    simp only[List.lookup,hb]
    exact ih
theorem xj (f:Str) (v:V):∀ fs:List (Str×V),f∈(pA f v fs).map (·.1)∧∀ g,g∈fs.map (·.1)→g∈(pA f v fs).map (·.1)
 | []=>⟨by simp[pA],fun g h=>by simp at h⟩
 | (k,x) :: r=>by
  obtain⟨i1,i2⟩:=xj f v r
  rw[show pA f v ((k,x) :: r)=(if k=f then (k,v) :: r else (k,x) :: pA f v r) from rfl]
  by_cases hk:k=f
  ·rw[if_pos hk]
   subst hk
   exact⟨by simp,fun g h=>by simpa using h⟩
  ·rw[if_neg hk]
   refine⟨?_,fun g h=>?_⟩
   ·rw[List.map_cons]
    exact List.mem_cons_of_mem _ i1
   ·rw[List.map_cons] at h ⊢
    rcases List.mem_cons.mp h with e | e
    ·exact List.mem_cons.mpr (.inl e)
    ·exact List.mem_cons_of_mem _ (i2 g e)
theorem yd (f:Str) (v:V):∀ fs:List (Str×V),(pA f v fs).length≤fs.length+1
 | []=>by simp[pA]
 | (k,x) :: r=>by
  have ih:=yd f v r
  rw[show pA f v ((k,x) :: r)=(if k=f then (k,v) :: r else (k,x) :: pA f v r) from rfl]
  by_cases hk:k=f
  ·rw[if_pos hk,List.length_cons,List.length_cons];omega
  ·rw[if_neg hk,List.length_cons,List.length_cons];omega
theorem uY.some_of {v:V}{o:Option Value} (r:uY (some v) o):∃ u,o=some u∧RelV v u:=by
 cases o with
 | none=>exact(show False from r).elim
 | some u=>exact⟨u,rfl,r⟩
theorem uY.none_of {o:Option Value} (r:uY none o):o=none:=by
 cases o with
 | none=>rfl
 | some u=>exact(show False from r).elim
theorem Kv {v:V}{u:Value} (r:RelV v u):W.handedIn u=true:=by
 cases v with
 | non=>cases(show u=Value.none from r);rfl
 | bl b=>cases(show u=Value.bool b from r);rfl
 | int i=>obtain⟨t,e⟩:=(show ∃ t,u=Value.int i t from r);cases e;rfl
 | str x=>obtain⟨t,e⟩:=(show ∃ t,u=Value.str x t from r);cases e;rfl
 | LZ b=>obtain⟨t,e⟩:=(show ∃ t,u=Value.bytes b t from r);cases e;rfl
 | uq b=>obtain⟨t,e⟩:=(show ∃ t,u=Value.float b t from r);cases e;rfl
 | ref a=>cases(show u=Value.ref a from r);rfl
 | ty n=>cases(show u=Value.type n from r);rfl
section
variable {P:Program}{w:World}{H H':Hp}{h h':Heap}{a C dx:Addr}{fs fs':List (Str×V)}
theorem zD (hok:zC P w H h) (e:H a=some (.ins C dx fs)):∃ mA,Hj h a dx C mA∧(∀ f,uY (fs.lookup f) (mA f))∧PySem.Within mA (fs.map (·.1))∧fs.length≤1000∧H dx=some (.own a):=by
 obtain⟨d,z,ne,ob,mA,n,r,q⟩:=(show eY P w H h a (.ins C dx fs) from hok a _ e)
 exact⟨mA,⟨ob,n,ne⟩,r,q,z,d⟩
end
structure JM (K:W.Frag) (C:Addr):Prop where
 pg:W.plainGet K C Str.empty=true
 hd:W.hasDictIn K C=true
 po:W.plainOver K C=true
 sa:W.findIn K (.ref C) "__setattr__" = some (some (.builtin "object.__setattr__"))
theorem JM.get {K:W.Frag}{C:Addr} (c:JM K C) (f:Str):W.plainGet K C f=true:=c.pg
def fM (K:W.Frag) (C:Addr) (f:Str):Prop:=W.findIn K (.ref C) f=some none
theorem fM.Wr {K:W.Frag}{C:Addr}{f:Str} (n:fM K C f):W.takerIn K C f=some none:=by
 unfold W.takerIn
 rw[show W.findIn K (.ref C) f=some none from n]
 rfl
structure Meth (K:W.Frag) (C:Addr) (m:Str) (f:Addr):Prop where
 at_:W.findIn K (.ref C) m=some (some (.ref f))
 fn:W.isFn K (.ref f)=true
 kp:W.keepIn K (.ref f)=true
section
variable {X:Cx}{pins:List (Addr×Obj)}{σ:St}{H:Hp}{s:Shared}{a C dx:Addr}{fs:List (Str×V)}{f:Str}{v:V}{A:Around}{E:Value→Shared→Prop}
theorem Hl {b:Bool}{Q:Value→Shared→Prop} (I:Inv X pins σ H s) (e:H a=some (.ins C dx fs)) (c:JM X.K C) (n:fM X.K C f) (l:fs.lookup f=some v)
  (h:∀ u s',Inv X pins σ H s'→RelV v u→Q u s'):wpAny (model X.prog X.w) A (getAttr (.ref a) f b) Q E s:=by
 obtain⟨mA,O,r,_,_,_⟩:=zD I.hok e
 obtain⟨u,hu,ru⟩:=uY.some_of (v:=v) (o:=mA f) (by rw[←l];exact r f)
 exact get_map I.uZ O (c.get f) c.hd n hu (Kv ru) (h u _ (I.tok _) ru)
theorem zN {m:Str}{g:Addr}{pl:Sem Bool}{Q:Value×List Value→Shared→Prop} (I:Inv X pins σ H s) (e:H a=some (.ins C dx fs)) (c:JM X.K C) (k:Meth X.K C m g) (l:fs.lookup m=none)
  (h:Q (.ref g,[.ref a]) s):wpAny (model X.prog X.w) A (getMethod (.ref a) m pl) Q E s:=by
 obtain⟨mA,O,r,_,_,_⟩:=zD I.hok e
 have hn:mA m=none:=uY.none_of (by rw[←l];exact r m)
 exact MA I.uZ O (c.get m) k.at_ k.fn hn h
theorem Ho {y:V}{u:Value}{Q:Unit→Shared→Prop} (I:Inv X pins σ H s) (e:H a=some (.ins C dx fs)) (c:JM X.K C) (n:fM X.K C f) (hl:fs.length < 1000) (ry:RelV y u)
  (h:∀ s',Inv X pins σ (upd H a (.ins C dx (pA f y fs))) s'→Q () s'):wpAny (model X.prog X.w) A (setAttr (.ref a) f u) Q E s:=by
 obtain⟨mA,O,r,wi,_,ho⟩:=zD I.hok e
 have hz:(fs.map (·.1)).length≤sizeLine:=by rw[List.length_map,sizeLine_eq];omega
 refine Pd I.uZ O c.sa c.po n.Wr c.hd wi hz fun h' O' sb=>h _ ?_
 have hd:∃ o,h'.get? dx=some o:=let ⟨o,_,_,e',_⟩:=O'.ns;⟨o,e'⟩
 refine I.write (x:=a) (e:=dx) (by rw[e];exact True.intro) (.inr ho) (fun b q hb z=>(sb.2 b hb).trans z) hd ?_
 refine⟨by rw[aE O.ne];exact ho,?_,O.ne,O'.obj,_,O'.ns,fun g=>?_,fun g hg=>?_⟩
 ·have:=yd f y fs;omega
 ·show uY ((pA f y fs).lookup g) (if g=f then some u else mA g)
  rw[yc]
  by_cases q:g=f
  ·rw[if_pos q,if_pos q];exact ry
  ·rw[if_neg q,if_neg q];exact r g
 ·by_cases q:g=f
  ·rw[q];exact(xj f y fs).1
  ·refine(xj f y fs).2 g (wi g fun z=>hg ?_)
   show(if g=f then some u else mA g)=none
   rw[if_neg q];exact z
theorem Inv.made (I:Inv X pins σ H s):Inv X pins σ (upd (upd H s.heap.objs.size (.own (s.heap.objs.size+1))) (s.heap.objs.size+1) (.ins C s.heap.objs.size []))
  { s with heap:=(s.heap.push W.emptyDict).push (W.instObj C s.heap.objs.size) }:=by
 have e1:(s.heap.push W.emptyDict).get? s.heap.objs.size=some W.emptyDict:=Heap.get?_push_size s.heap rfl
 have e2:((s.heap.push W.emptyDict).push (W.instObj C s.heap.objs.size)).get? (s.heap.objs.size+1)=some (W.instObj C s.heap.objs.size):=by
  have:=Heap.get?_push_size (s.heap.push W.emptyDict) (o:=W.instObj C s.heap.objs.size) rfl
  rwa [Heap.size_push] at this
 have e3:(s.heap.push W.emptyDict).Ns s.heap.objs.size (fun _=>none):=⟨W.emptyDict,#[],_,e1,rfl,(fun e he=>absurd he (by simp)),fun _=>rfl⟩
 have I1:=I.laid (a:=s.heap.objs.size) (o:=.own (s.heap.objs.size+1)) (h':=s.heap.push W.emptyDict) (t':=s.toks) (fun b u q=>Heap.get?_push_of_some _ q) (Nat.le_refl _) ⟨_,e1⟩
 refine I1.laid (a:=s.heap.objs.size+1) (o:=.ins C s.heap.objs.size []) (t':=s.toks) (fun b u q=>Heap.get?_push_of_some _ q) (Nat.le_of_eq (Heap.size_push _ _)) ?_
 have ne:s.heap.objs.size≠s.heap.objs.size+1:=Nat.ne_of_lt (Nat.lt_succ_self _)
 refine⟨by rw[aE ne,aj],Nat.zero_le _,ne,e2,fun _=>none,(Heap.Ns1.of_empty e3).at fun o q=>Heap.get?_push_of_some _ q,fun _=>True.intro,fun y hy=>absurd rfl hy⟩
theorem Pe {prog:Program}{w:World}{env:Env}{e:Expr}{f:Str}{pos:Pos}{s:Shared}{Q:Value→Shared→Prop} (hb:attributeBase e f env (eval e env)=eval e env)
  (h:wpAny (model prog w) A (eval e env) (fun o s₁=>wpAny (model prog w) A (getAttr o f true) Q E s₁) E s):wpAny (model prog w) A (eval (.Attribute e f pos) env) Q E s :=
 Attribute_any_ h (by rw[arm_eval_Attribute,hb])
end
def Ws (K:W.Frag) (ta:TE) (f:Str):TE:=fun σ H Q=>ta σ H fun x H1=>∃ a C dx fs v,x=.ref a∧H1 a=some (.ins C dx fs)∧JM K C∧fM K C f∧fs.lookup f=some v∧Q v H1
def adp (K:W.Frag) (ta tv:TE) (f:Str):TS:=fun D σ H=>tv σ H fun y H1=>ta σ H1 fun x H2=>∃ a C dx fs,x=.ref a∧H2 a=some (.ins C dx fs)∧JM K C∧fM K C f∧fs.length < 1000 ∧
 D.nx σ (upd H2 a (.ins C dx (pA f y fs)))
section
variable {X:Cx}{o e value:Expr}{f:Str}{pos pos' tpos:Pos}{ta tv:TE}
theorem R4 (he:PE X e ta) (hb:attributeBase e f X.env (eval e X.env)=eval e X.env):PE X (.Attribute e f pos) (Ws X.K ta f):=by
 intro pins s σ H Q I h
 refine Pe hb (dQ (he pins s σ H _ I h) fun u s1 ⟨x,H1,I1,rx,a,C,dx,fs,v,ex,ea,c,n,l,q⟩=>?_)
 subst ex
 obtain rfl:u=Value.ref a:=rx
 exact Hl I1 ea c n l fun u' s2 I2 ru=>⟨v,H1,I2,ru,q⟩
theorem jF (ha:PE X o ta) (hv:PE X value tv) (hs:swapsWith value (some (.Attribute o f pos')) pos.line X.env=pure false):PS X (.Assign [.Attribute o f pos'] value pos) (adp X.K ta tv f):=by
 intro pins s σ H D I h
 refine plainObj_wpAny_Assign_Attribute (dQ (hv pins s σ H _ I h) fun u s1 ⟨y,H1,I1,ry,q⟩=>dQ (ha pins s1 σ H1 _ I1 q) fun ov s2 ⟨x,H2,I2,rx,a,C,dx,fs,ex,ea,c,n,l,q2⟩=>?_) hs
 subst ex
 obtain rfl:ov=Value.ref a:=rx
 exact Ho I2 ea c n l ry fun s3 I3=>⟨σ,_,I3,q2⟩
end
section
variable {X:Cx}{pins:List (Addr×Obj)}{σ:St}{H:Hp}{s:Shared}{A:Around}{E:Value→Shared→Prop}{Q:Value→Shared→Prop}{c:Value}{b:Bool}
inductive uu (K:W.Frag) (H:Hp):V→Value→Prop where
 | non:uu K H .non (.type "NoneType")
 | bl (x:Bool):uu K H (.bl x) (.type "bool")
 | int (i:Int):uu K H (.int i) (.type "int")
 | str (x:Str):uu K H (.str x) (.type "str")
 | uq (x:UInt64):uu K H (.uq x) (.type "float")
 | lst {a:Addr}{xs:List V} (e:H a=some (.lst xs)):uu K H (.ref a) (.type "list")
 | JF {a:Addr}{o:Obj}{xs:List V} (e:H a=some (.JF o (.lst xs))):uu K H (.ref a) (.type "list")
 | tup {a:Addr}{xs:List V} (e:H a=some (.tup xs)):uu K H (.ref a) (.type "tuple")
 | dK {a:Addr}{kvs:List (Key×V)} (e:H a=some (.dK kvs)):uu K H (.ref a) (.type "dict")
 | dT {a:Addr}{kvs:List (List Key×V)} (e:H a=some (.dT kvs)):uu K H (.ref a) (.type "dict")
 | ins {a C dx:Addr}{fs:List (Str×V)} (e:H a=some (.ins C dx fs)) (cl:JM K C) (ha:W.findIn K (.ref C) "__class__" = some (some (.builtin "object.__class__")))
   (hn:W.specialIn K (.builtin "object.__class__") "__get__" = some (some (.builtin "getset_descriptor.__get__"))) (htk:W.takesIn K (.builtin "object.__class__")=some true)
   (hm:W.mroIn K C (.type "object")=some true):uu K H (.ref a) (.ref C)
theorem Cg {x:V}{u t:Value} (I:Inv X pins σ H s) (rx:RelV x u) (ty:uu X.K H x t) (e:W.kitOne X.K t c=some b) (h:∀ tk,Q (.bool b) { s with toks:=tk }) :
  wpAny (model X.prog X.w) A (call (.builtin "isinstance") [u,c]) Q E s:=by
 cases ty with
 | non=>cases(show u=Value.none from rx);exact W.kia_one W.kitx_none I.uZ True.intro e (fun z=>nomatch z) h
 | bl y=>cases(show u=Value.bool y from rx);exact W.kia_one W.kitx_bool I.uZ True.intro e (fun z=>nomatch z) h
 | int i=>obtain⟨t,q⟩:=(show ∃ t,u=Value.int i t from rx);cases q;exact W.kia_one W.kitx_int I.uZ True.intro e (fun z=>nomatch z) h
 | str y=>obtain⟨t,q⟩:=(show ∃ t,u=Value.str y t from rx);cases q;exact W.kia_one W.kitx_str I.uZ True.intro e (fun z=>nomatch z) h
 | uq y=>obtain⟨t,q⟩:=(show ∃ t,u=Value.float y t from rx);cases q;exact W.kia_one W.kitx_float I.uZ True.intro e (fun z=>nomatch z) h
 | @lst a xs ea =>
  cases(show u=Value.ref a from rx)
  obtain⟨_,_,n,_,h1⟩:=(show eY X.prog X.w H s.heap a (.lst xs) from I.hok a _ ea)
  exact W.kia_one W.kitx_list I.uZ ⟨_,h1,rfl⟩ e (fun z=>nomatch z) h
 | @JF a ob xs ea =>
  cases(show u=Value.ref a from rx)
  obtain⟨_,_,_,n,_,h1⟩:=(show eY X.prog X.w H s.heap a (.JF ob (.lst xs)) from I.hok a _ ea)
  exact W.kia_one W.kitx_list I.uZ ⟨_,h1,rfl⟩ e (fun z=>nomatch z) h
 | @tup a xs ea =>
  cases(show u=Value.ref a from rx)
  obtain⟨_,_,_,p⟩:=(show eY X.prog X.w H s.heap a (.tup xs) from I.hok a _ ea)
  obtain⟨o,h1,h2,_⟩:=p
  exact W.kia_one W.kitx_tuple I.uZ ⟨o,h1,h2⟩ e (fun z=>nomatch z) h
 | @dK a kvs ea =>
  cases(show u=Value.ref a from rx)
  obtain⟨_,_,vs,_,p⟩:=(show eY X.prog X.w H s.heap a (.dK kvs) from I.hok a _ ea)
  obtain⟨o,es,ep,h1,h2,_⟩:=p
  exact W.kia_one W.kitx_dict I.uZ ⟨o,h1,h2.1⟩ e (fun z=>nomatch z) h
 | @dT a kvs ea =>
  cases(show u=Value.ref a from rx)
  obtain⟨_,_,xs,_,o,es,ep,h1,h2,_⟩:=(show eY X.prog X.w H s.heap a (.dT kvs) from I.hok a _ ea)
  exact W.kia_one W.kitx_dict I.uZ ⟨o,h1,h2.1⟩ e (fun z=>nomatch z) h
 | @ins a C dx fs ea cl ha hn htk hm =>
  cases(show u=Value.ref a from rx)
  obtain⟨mA,O,_⟩:=zD I.hok ea
  obtain⟨od,J,_⟩:=O.look
  exact W.kia_one (W.kitx_own (cl.get _) cl.hd ha hn htk hm) I.uZ J e (fun z=>nomatch z) h
end
structure i8 (k:Nat) (A:Around):Prop where
 hd:A.handled=none
 dp:A.depth+3 * k+5 < recursionLimit
 un:A.units+16 * k+200 < cLine
theorem i8.mono {j k:Nat}{A:Around} (r:i8 k A) (h:j≤k):i8 j A:=⟨r.hd,by have:=r.dp;omega,by have:=r.un;omega⟩
theorem i8.deeper {k:Nat}{A:Around} (r:i8 (k+1) A) (env:Env):i8 k (A.deeper env) :=
 ⟨r.hd,by have:=r.dp;show A.depth+1+3 * k+5 < _;omega,by have:=r.un;show A.units+3+16 * k+200 < _;omega⟩
theorem Hq {A:Around}{C:Addr}{us:List Value}{kw:List (Str×Value)}:(A.under (.builtin "type.__call__" ⟨.ref C :: us,kw⟩)).depth=A.depth+1:=by
 first | rfl | simp[Around.under,Code.weight,Code.isCreation,Code.isGuard,Code.isCaller,Code.frames,Code.isFrame,guardIds]
theorem Hr {A:Around}{C:Addr}{us:List Value}{kw:List (Str×Value)}:(A.under (.builtin "type.__call__" ⟨.ref C :: us,kw⟩)).units=A.units+1:=by
 first | rfl | simp[Around.under,Code.cUnits,Code.frames,Code.isFrame]
theorem i8.make {k:Nat}{A:Around} (r:i8 (k+1) A) (C:Addr) (us:List Value) (kw:List (Str×Value)):i8 k (A.under (.builtin "type.__call__" ⟨.ref C :: us,kw⟩)) :=
 ⟨r.hd,by have:=r.dp;rw[Hq];omega,by have:=r.un;rw[Hr];omega⟩
theorem i8.depth {k:Nat}{A:Around} (r:i8 k A):A.depth < recursionLimit:=by have:=r.dp;omega
theorem i8.units {k:Nat}{A:Around} (r:i8 k A):A.units+64 < cLine:=by have:=r.un;omega
theorem i8.aP {k:Nat}{A:Around} (r:i8 k A):A.units < cLine:=by have:=r.un;omega
def Wt:TA:=fun _ H Q=>Q [] H
def Wu (ta:TE) (tr:TA):TA:=fun σ H Q=>ta σ H fun x H1=>tr σ H1 fun xs H2=>Q (x :: xs) H2
section
variable {X:Cx}{e:Expr}{es:List Expr}{te:TE}{t:TA}{pos:Pos}
theorem ah:PA X [] Wt:=fun _ _ _ _ H Q I h=>Calls.spliced_nil ⟨[],H,I,.nil,h⟩
theorem af (ha:PE X e te) (hr:PA X es t) (hs:starEach (e :: es) X.env=(false,eval e X.env) :: starEach es X.env:=by rfl):PA X (e :: es) (Wu te t):=by
 intro pos pins s σ H Q I h
 rw[hs]
 show wpAny _ _ (spliced ((false,eval e X.env) :: backTo pos (starEach es X.env))) _ _ s
 refine Calls.spliced_cons (dQ (ha pins s σ H _ I h) fun u s1 ⟨x,H1,I1,r1,q1⟩=>?_)
 exact dQ (hr pos pins s1 σ H1 _ I1 q1) fun us s2 ⟨xs,H2,I2,r2,q2⟩=>⟨x :: xs,H2,I2,.cons r1 r2,q2⟩
def adq (t:TA):TE:=fun σ H Q=>t σ H fun xs H1=>xs.length≤sizeLine∧∀ p,H1 p=none→Q (.ref p) (upd H1 p (.tup xs))
def ads (t:TA):TE:=fun σ H Q=>t σ H fun xs H1=>xs.length≤sizeLine∧∀ p,H1 p=none→Q (.ref p) (upd H1 p (.lst xs))
theorem aC {x1} (h:PA X es t):PE X (.Tuple es x1 pos) (adq t):=by
 intro pins s σ H Q I hq
 refine wpAny_Tuple_spliced (dQ (h pos pins s σ H _ I hq) fun us s1 ⟨xs,H1,I1,r,z,q⟩=>⟨by rw[←r.length];exact z,?_⟩)
 have hf:H1 s1.heap.objs.size=none:=I1.hok.fresh (Nat.le_refl _)
 refine⟨.ref s1.heap.objs.size,upd H1 s1.heap.objs.size (.tup xs),I1.laid (t':=s1.toks) (fun b u e=>Heap.get?_push_of_some _ e) (Nat.le_refl _) ?_,rfl,q _ hf⟩
 exact⟨z,us,r,⟨_,Heap.get?_push_size _ rfl,rfl,_,rfl⟩⟩
theorem bU (h:PA X es t):PE X (.List es pos) (ads t):=by
 intro pins s σ H Q I hq
 refine wpAny_List_spliced (dQ (h pos pins s σ H _ I hq) fun us s1 ⟨xs,H1,I1,r,z,q⟩=>⟨by rw[←r.length];exact z,?_⟩)
 have hf:H1 s1.heap.objs.size=none:=I1.hok.fresh (Nat.le_refl _)
 refine⟨.ref s1.heap.objs.size,upd H1 s1.heap.objs.size (.lst xs),I1.laid (t':=s1.toks) (fun b u e=>Heap.get?_push_of_some _ e) (Nat.le_refl _) ?_,rfl,q _ hf⟩
 exact⟨z,us,0,r,Heap.get?_push_size _ rfl⟩
end
abbrev Sp:=List V→Hp→VK→XK→Prop
abbrev L1:=List Env→Hp→Shared→XK→Value→Shared→Prop
structure Hs (P:Program) (w:World) (K:W.Frag) (mg:Str→Option Value) (base:Heap) (A:Around) (outer:List Env) (s:Shared) (H:Hp):Prop where
 frames:A.frames=some outer
 mod:Mod K mg base
 bs:∀ b o,base.get? b=some o→s.heap.get? b=some o∧H b=none
 O4:base.objs.size≤s.heap.objs.size
 yD:s.heap.FunFrames base outer
 RO:∀ b∈frs outer,H b=none
 hok:zC P w H s.heap
 bare:AllBare s.gens
def CE (outer:List Env) (P:Program) (w:World) (H:Hp) (s:Shared) (Q:VK) (u:Value) (s':Shared):Prop :=
 ∃ v H',s'.os=s.os∧AllBare s'.gens∧Un (frs outer) [] H H' s.heap s'.heap∧zC P w H' s'.heap∧RelV v u∧Q v H'
def CR (CX:L1) (outer:List Env) (P:Program) (w:World) (H:Hp) (s:Shared) (Q:VK) (E:XK) (r:Result) (s':Shared):Prop :=
 match r with
 | .ok (.ret u)=>CE outer P w H s Q u s'
 | .ok _=>False
 | .error e=>CX outer H s E e s'
structure aJ (P:Program) (w:World) (K:W.Frag) (mg:Str→Option Value) (base:Heap) (CX:L1) (k:Nat) (f:Addr) (fd:FuncData) (ps:List Str) (sp:Sp):Prop where
 len:∀ vs H Q E,sp vs H Q E→vs.length=ps.length
 run:∀(A:Around) (outer:List Env) (s:Shared) (H:Hp) (args:Args) (us:List Value) (vs:List V) (Q:VK) (E:XK),i8 k A→Hs P w K mg base A outer s H→BindsTo s fd args (ps.zip us)→Vals vs us→sp vs H Q E →
  codeAny (model P w) A (.call (.ref f) args) (CR CX outer P w H s Q E) s
theorem Hs.make {P:Program}{w:World}{K:W.Frag}{mg:Str→Option Value}{base:Heap}{A:Around}{outer:List Env}{s:Shared}{H:Hp} (e:Hs P w K mg base A outer s H) (C:Addr) (us:List Value) (kw:List (Str×Value)) :
 Hs P w K mg base (A.under (.builtin "type.__call__" ⟨.ref C :: us,kw⟩)) outer s H:=⟨by first | exact e.frames | (simpa [Around.under,Code.envs,Code.isFrame,pushEnvs] using e.frames),e.mod,e.bs,e.O4,e.yD,e.RO,e.hok,e.bare⟩
section
variable {X:Cx}{pins:List (Addr×Obj)}{σ:St}{H:Hp}{s s':Shared}
theorem Inv.Wv (I:Inv X pins σ H s):Hs X.prog X.w X.K X.mg X.base X.A X.stack s H :=
 ⟨I.ok.frames,I.ok.mod,I.bs,Nat.le_trans I.ok.O4 I.sz,I.stack,I.JG,I.hok,I.bare⟩
theorem Inv.after {Q:VK}{u:Value} (I:Inv X pins σ H s) (h:CE X.stack X.prog X.w H s Q u s'):EP X pins σ Q u s':=by
 obtain⟨v,H',os,bare,un,hok,r,q⟩:=h
 obtain⟨hh,g,d,t,os'⟩:=s'
 obtain rfl:os'=s.os:=os
 exact⟨v,H',I.call (h':=hh) (g':=g) (d':=d) (t':=t) (ch:=[]) un hok bare (fun b z=>absurd z (by simp)),r,q⟩
end
def Rh (sp:Sp) (Bg:List V) (E:XK) (t:TA):TE:=fun σ H Q=>t σ H fun vs H1=>sp (vs++Bg) H1 Q E
def Ri (C:Addr) (m:Str) (sp:Sp) (Bg:List V) (E:XK) (ta:TE) (t:TA):TE:=fun σ H Q=>ta σ H fun x H1=>∃ a dx fs,x=.ref a∧H1 a=some (.ins C dx fs)∧fs.lookup m=none ∧
 t σ H1 fun vs H2=>sp (x :: (vs++Bg)) H2 Q E
def Ww (C:Addr) (sp:Sp) (Bg:List V) (E:XK) (t:TA):TE:=fun σ H Q=>t σ H fun vs H1=>∀ x dx,H1 x=none→H1 dx=none→dx≠x →
 sp (.ref x :: (vs++Bg)) (upd (upd H1 dx (.own x)) x (.ins C dx [])) (fun v H2=>v=.non∧Q (.ref x) H2) E
def Binds (K:W.Frag) (fd:FuncData) (ps:List Str) (ds:List Value):Prop :=
 ∀(s:Shared) (us:List Value),K.In s.heap→(us++ds).length=ps.length→BindsTo s fd ⟨us,[]⟩ (ps.zip (us++ds))
theorem Binds.all {K:W.Frag}{fd:FuncData}{ps:List Str} (h:∀ us:List Value,us.length=ps.length→bindArgs fd ⟨us,[]⟩=pure (ps.zip us)):Binds K fd ps []:=fun s us _ hl=>by
 rw[List.append_nil] at hl ⊢
 exact .of_eq (h us hl)
def Passes (CX:L1) (X:Cx) (E:XK):Prop:=∀(pins:List (Addr×Obj)) (σ:St) (H:Hp) (s:Shared) (e:Value) (s':Shared),Inv X pins σ H s→CX X.stack H s E e s'→X.xe e s'
section
variable {X:Cx}{CX:L1}{k:Nat}{f C:Addr}{fd:FuncData}{ps:List Str}{sp:Sp}{Bg:List V}{ds:List Value}{E:XK}{x m:Str}{p pos apos:Pos}{e o:Expr}{es:List Expr}{ta:TE}{t:TA}
theorem Ht {pins:List (Addr×Obj)}{σ:St}{H:Hp}{s:Shared}{Q:VK}{us:List Value}{vs:List V} (F:aJ X.prog X.w X.K X.mg X.base CX k f fd ps sp) (hr:i8 k X.A) (hb:Binds X.K fd ps ds) (hd:Vals Bg ds) (hx:Passes CX X E)
  (I:Inv X pins σ H s) (r:Vals vs us) (h:sp (vs++Bg) H Q E):wpAny (model X.prog X.w) X.A (call (.ref f) us) (EP X pins σ Q) X.xe s:=by
 have r2:Vals (vs++Bg) (us++ds):=r.append hd
 have hl:(us++ds).length=ps.length:=by rw[←r2.length];exact F.len _ _ _ _ h
 refine wpAny_call (codeAny_mono (F.run X.A X.stack s H ⟨us,[]⟩ (us++ds) (vs++Bg) Q E hr I.Wv (hb s us I.uZ hl) r2 h) fun r s' hq=>?_)
 cases r with
 | error e=>exact hx pins σ H s e s' I hq
 | ok fl =>
  cases fl with
  | ret u=>exact I.after hq
  | next=>exact False.elim hq
  | brk=>exact False.elim hq
  | cont=>exact False.elim hq
theorem Pf (F:aJ X.prog X.w X.K X.mg X.base CX k f fd ps sp) (hr:i8 k X.A) (hg:Gl X x) (hm:X.mg x=some (.ref f)) (hk:W.keepIn X.K (.ref f)=true) (hb:Binds X.K fd ps ds) (hd:Vals Bg ds) (hx:Passes CX X E)
  (ha:PA X (e :: es) t) (hdb:(x == ("__debug__" : Str))=false:=by decide) (he:starEach (e :: es) X.env=(false,eval e X.env) :: starEach es X.env:=by rfl) (hpl:(backTo pos (starEach es X.env)).any (·.1)=false:=by rfl) :
  PE X (.Call (.Name x p) (e :: es) [] pos) (Rh sp Bg E t):=by
 intro pins s σ H Q I h
 refine wpAny_Call_Name_kw (Dk I hg hm ?_ hdb)
 refine W.callWith_K (h₀:=X.base) I.ok.mod.V6 hk (dQ (ha pos pins s σ H _ I h) fun us s1 ⟨vs,H1,I1,r,q⟩=>⟨I1.uZ,?_⟩) he hpl
 exact Ht F hr hb hd hx I1 r q
theorem lB {pl:Sem Bool} (he:PE X o ta) (c:JM X.K C) (hm:Meth X.K C m f) (F:aJ X.prog X.w X.K X.mg X.base CX k f fd ps sp) (hr:i8 k X.A) (hb:Binds X.K fd ps ds) (hd:Vals Bg ds) (hx:Passes CX X E) (ha:PA X (e :: es) t)
  (hst:starEach (e :: es) X.env=(false,eval e X.env) :: starEach es X.env:=by rfl) (hpl:(backTo pos (starEach es X.env)).any (·.1)=false:=by rfl)
  (ht:eval (.Call (.Attribute o m apos) (e :: es) [] pos) X.env=(do
   let ov ←eval o X.env
   standAt apos.atName
   let (f,first) ←holding [ov] (getMethod ov m pl)
   callWith pos f first (backTo pos (starEach (e :: es) X.env)) (backToKw pos (keywordEach [] X.env))):=by rfl) :
  PE X (.Call (.Attribute o m apos) (e :: es) [] pos) (Ri C m sp Bg E ta t):=by
 intro pins s σ H Q I h
 refine W.methodCall_KW (pl:=pl) (dQ (he pins s σ H _ I h) fun u s1 ⟨x,H1,I1,rx,a,dx,fs,ex,ea,l,q⟩=>?_) ht
 subst ex
 obtain rfl:u=Value.ref a:=rx
 refine zN I1 ea c hm l ?_
 refine W.callWith_K (first:=[.ref a]) (h₀:=X.base) I.ok.mod.V6 hm.kp (dQ (ha pos pins s1 σ H1 _ I1 q) fun us s2 ⟨vs,H2,I2,r,q2⟩=>⟨I2.uZ,?_⟩) hst hpl
 exact Ht (us:=.ref a :: us) (vs:=.ref a :: vs) F hr hb hd hx I2 (.cons rfl r) q2
theorem ER {pl:Sem Bool} (he:PE X o ta) (c:JM X.K C) (hm:Meth X.K C m f) (F:aJ X.prog X.w X.K X.mg X.base CX k f fd ps sp) (hr:i8 k X.A) (hb:Binds X.K fd ps ds) (hd:Vals Bg ds) (hx:Passes CX X E)
  (ht:eval (.Call (.Attribute o m apos) [] [] pos) X.env=(do
   let ov ←eval o X.env
   standAt apos.atName
   let (f,first) ←holding [ov] (getMethod ov m pl)
   callWith pos f first (backTo pos (starEach [] X.env)) (backToKw pos (keywordEach [] X.env))):=by rfl) :
  PE X (.Call (.Attribute o m apos) [] [] pos) (Ri C m sp Bg E ta Wt):=by
 intro pins s σ H Q I h
 refine W.methodCall_KW (pl:=pl) (dQ (he pins s σ H _ I h) fun u s1 ⟨x,H1,I1,rx,a,dx,fs,ex,ea,l,q⟩=>?_) ht
 subst ex
 obtain rfl:u=Value.ref a:=rx
 refine zN I1 ea c hm l ?_
 exact W.callWith_K0 (first:=[.ref a]) I1.uZ hm.kp (Ht (us:=[.ref a]) (vs:=[.ref a]) F hr hb hd hx I1 (.cons rfl .nil) q)
structure Mk (K:W.Frag) (C f:Addr):Prop where
 makes:W.makesIn K C=true
 init:W.findIn K (.ref C) "__init__" = some (some (.ref f))
 fn:W.isFn K (.ref f)=true
 kp:W.keepIn K (.ref C)=true
theorem MC {pins:List (Addr×Obj)}{σ:St}{H:Hp}{s:Shared}{Q:VK}{us:List Value}{vs:List V} (M:Mk X.K C f) (F:aJ X.prog X.w X.K X.mg X.base CX k f fd ps sp) (hr:i8 (k+1) X.A) (hb:Binds X.K fd ps ds) (hd:Vals Bg ds)
  (hx:Passes CX X E) (I:Inv X pins σ H s) (r:Vals vs us)
  (h:∀ x dx,H x=none→H dx=none→dx≠x→sp (.ref x :: (vs++Bg)) (upd (upd H dx (.own x)) x (.ins C dx [])) (fun v H2=>v=.non∧Q (.ref x) H2) E) :
  wpAny (model X.prog X.w) X.A (call (.ref C) us) (EP X pins σ Q) X.xe s:=by
 have hq:=h (s.heap.objs.size+1) s.heap.objs.size (I.hok.fresh (Nat.le_succ _)) (I.hok.fresh (Nat.le_refl _)) (Nat.ne_of_lt (Nat.lt_succ_self _))
 have I2:=Inv.made (C:=C) I
 have r2:Vals (V.ref (s.heap.objs.size+1) :: (vs++Bg)) (Value.ref (s.heap.objs.size+1) :: (us++ds)):=.cons rfl (r.append hd)
 have hl:(Value.ref (s.heap.objs.size+1) :: us++ds).length=ps.length:=by
  have e:=r2.length
  rw[F.len _ _ _ _ hq] at e
  exact e.symm
 refine wpAny_call (MB (f:=f) I.uZ M.makes M.init (beq_iff_eq.mp M.fn) (codeAny_mono (F.run _ X.stack _ _ ⟨Value.ref (s.heap.objs.size+1) :: us,[]⟩ (Value.ref (s.heap.objs.size+1) :: (us++ds)) _ _ E (hr.make C us [])
  (I2.Wv.make C us []) (hb _ (Value.ref (s.heap.objs.size+1) :: us) I2.uZ hl) r2 hq) fun r s' hq'=>?_))
 cases r with
 | error e=>exact hx pins σ _ _ e s' I2 hq'
 | ok fl =>
  cases fl with
  | ret u =>
   obtain⟨v,H',I3,rv,ev,q3⟩:=I2.after hq'
   subst ev
   exact⟨rv,⟨V.ref (s.heap.objs.size+1),H',I3,rfl,q3⟩⟩
  | next=>exact False.elim hq'
  | brk=>exact False.elim hq'
  | cont=>exact False.elim hq'
theorem rV (M:Mk X.K C f) (F:aJ X.prog X.w X.K X.mg X.base CX k f fd ps sp) (hr:i8 (k+1) X.A) (hg:Gl X x) (hm:X.mg x=some (.ref C)) (hb:Binds X.K fd ps ds) (hd:Vals Bg ds) (hx:Passes CX X E)
  (ha:PA X (e :: es) t) (hdb:(x == ("__debug__" : Str))=false:=by decide) (he:starEach (e :: es) X.env=(false,eval e X.env) :: starEach es X.env:=by rfl) (hpl:(backTo pos (starEach es X.env)).any (·.1)=false:=by rfl) :
  PE X (.Call (.Name x p) (e :: es) [] pos) (Ww C sp Bg E t):=by
 intro pins s σ H Q I h
 refine wpAny_Call_Name_kw (Dk I hg hm ?_ hdb)
 refine W.callWith_K (h₀:=X.base) I.ok.mod.V6 M.kp (dQ (ha pos pins s σ H _ I h) fun us s1 ⟨vs,H1,I1,r,q⟩=>⟨I1.uZ,?_⟩) he hpl
 exact MC M F hr hb hd hx I1 r q
end
section
variable {X:Cx}{CX:L1}{k:Nat}{f C:Addr}{fd:FuncData}{ps ks:List Str}{sp:Sp}{E:XK}{x m:Str}{p pos apos kpos:Pos}{e o:Expr}{es:List Expr}{kws:List Keyword}{te ta:TE}{t tk:TA}{nm:Option Str}
variable {g:List Value→List Value→List Value}{gV:List V→List V→List V}
end
structure aF (N P:List Str) (sc:Scope):Prop where
 kind:sc.kind=.function
 co:sc.isCoroutine=false
 gen:sc.isGenerator=false
 nd:N.Nodup
 pre:N.take P.length=P
 par:∀ x∈P,sc.names.lookup x=some .local∨sc.names.lookup x=some .cell
 R5:∀ y∈sc.names,y.2≠.free
theorem Ci {kindOf:Str→Option NameKind}{x:Str}:∀{binds:List (Str×Value)}{m:Str→Option Value},(∀ v,(x,v)∉binds)→bindL kindOf binds m x=m x
 | [],_,_=>rfl
 | (n,v) :: r,m,h=>by
  unfold bindL
  rw[Ci fun w hw=>h w (List.mem_cons_of_mem _ hw)]
  split
  ·have:x≠n:=by rintro rfl;exact h v List.mem_cons_self
   simp[this]
  ·rfl
theorem Cj {kindOf:Str→Option NameKind}{x:Str}:∀{binds:List (Str×Value)}{m:Str→Option Value},(∀ v,(x,v)∉binds)→bindC kindOf binds m x=m x
 | [],_,_=>rfl
 | (n,v) :: r,m,h=>by
  unfold bindC
  rw[Cj fun w hw=>h w (List.mem_cons_of_mem _ hw)]
  split
  ·rfl
  ·have:x≠n:=by rintro rfl;exact h v List.mem_cons_self
   simp[this]
theorem Ck {kindOf:Str→Option NameKind}{x:Str}{v:Value}:∀{P:List Str}{vs:List Value}{i:Nat}{m:Str→Option Value},P.Nodup→P[i]? = some x→vs[i]? = some v→kindOf x=some .local →
  bindL kindOf (P.zip vs) m x=some v
 | [],_,_,_,_,h,_,_=>by simp at h
 | _ :: _,[],_,_,_,_,h,_=>by simp at h
 | p :: P,w :: vs,0,m,nd,h1,h2,hk=>by
  simp at h1 h2;subst h1;subst h2
  show bindL kindOf ((p,w) :: P.zip vs) m p=_
  unfold bindL
  rw[Ci fun v hv=>(List.nodup_cons.mp nd).1 (List.of_mem_zip hv).1,if_pos hk]
  simp
 | p :: P,w :: vs,i+1,m,nd,h1,h2,hk=>by
  show bindL kindOf ((p,w) :: P.zip vs) m x=_
  unfold bindL
  exact Ck (i:=i) (List.nodup_cons.mp nd).2 (by simpa using h1) (by simpa using h2) hk
theorem Cn {kindOf:Str→Option NameKind}{x:Str}{v:Value}:∀{P:List Str}{vs:List Value}{i:Nat}{m:Str→Option Value},P.Nodup→P[i]? = some x→vs[i]? = some v→kindOf x≠some .local →
  bindC kindOf (P.zip vs) m x=some v
 | [],_,_,_,_,h,_,_=>by simp at h
 | _ :: _,[],_,_,_,_,h,_=>by simp at h
 | p :: P,w :: vs,0,m,nd,h1,h2,hk=>by
  simp at h1 h2;subst h1;subst h2
  show bindC kindOf ((p,w) :: P.zip vs) m p=_
  unfold bindC
  rw[Cj fun v hv=>(List.nodup_cons.mp nd).1 (List.of_mem_zip hv).1,if_neg hk]
  simp
 | p :: P,w :: vs,i+1,m,nd,h1,h2,hk=>by
  show bindC kindOf ((p,w) :: P.zip vs) m x=_
  unfold bindC
  exact Cn (i:=i) (List.nodup_cons.mp nd).2 (by simpa using h1) (by simpa using h2) hk
def start (N:List Str) (vs:List V):St:=vs.map some++List.replicate (N.length - vs.length) none
def Hu (CX:L1) (P:Program) (w:World) (K:W.Frag) (mg:Str→Option Value) (base:Heap) (N:List Str) (qual:Str) (scope:Scope) (f:Addr) (cd:Value) (A:Around) (outer:List Env) (s:Shared) (H:Hp) (E:XK):Cx where
 prog:=P
 w:=w
 K:=K
 mg:=mg
 base:=base
 A:=A.deeper (envOfC qual scope s.heap.objs.size f cd)
 N:=N
 s₀:=s
 H₀:=H
 env:=envOfC qual scope s.heap.objs.size f cd
 outer:=outer
 stack:=envOfC qual scope s.heap.objs.size f cd :: outer
 ex:=[]
 calm:=true
 fn:=fun _=>true
 pn:=[]
 xe:=fun e s'=>wpAny (model P w) (A.deeper (envOfC qual scope s.heap.objs.size f cd)) (leaving (envOfC qual scope s.heap.objs.size f cd) e) (fun _ s''=>CX outer H s E e s'') (fun e' s''=>CX outer H s E e' s'') s'
theorem ES {sc:Scope}{n:Nat}{x:Str} (h:sc.names.lookup x=some .cell):∃ c,(cellsFrom n sc.names []).lookup x=some c:=by
 have q:=W.cellsFrom_some sc.names n [] (.inl h)
 exact Option.isSome_iff_exists.mp q
theorem Kw {CX:L1}{P:Program}{w:World}{K:W.Frag}{mg:Str→Option Value}{base:Heap}{N ps:List Str}{qual:Str}{scope:Scope}{f:Addr}{cd:Value}{A:Around}{outer:List Env}{s s1:Shared}{H:Hp}{E:XK}{us:List Value}{vs:List V}
  (S:aF N ps scope) (hd:A.handled=none) (e0:Hs P w K mg base A outer s H) (hl:vs.length=ps.length) (r:Vals vs us)
  (x:InCallC s s.heap.objs.size (bindL (envOfC qual scope s.heap.objs.size f cd).kindOf (ps.zip us) fun _=>none) (cellsFrom (s.heap.objs.size+1) scope.names []) (bindC (envOfC qual scope s.heap.objs.size f cd).kindOf (ps.zip us) fun _=>none) s1) :
  Inv (Hu CX P w K mg base N qual scope f cd A outer s H E) [] (start N vs) H s1:=by
 have hpl:ps.length≤N.length:=by have:=congrArg List.length S.pre;rw[List.length_take] at this;omega
 obtain⟨h1,tk,rfl,hk⟩:=x.done
 have Wx:∀ b:Addr,b∉(Hu CX P w K mg base N qual scope f cd A outer s H E).ex:=fun b z=>absurd (show b∈([]:List Addr) from z) (by simp)
 refine⟨⟨e0.mod,S.kind,rfl,rfl,Nat.le_refl _,fun y z c h1 h2=>?_,fun y hy=>?_,fun y c _ h=>?_,fun _=>hd,Around.frames_deeper e0.frames,.inr ⟨rfl,rfl⟩,fun b z=>absurd z (Wx b),e0.bs,e0.O4,fun b _ _=>Wx b,fun b z=>absurd z (Wx b),e0.yD,e0.RO⟩,
  rfl,e0.bare,Un.kept hk,⟨_,x.toInCall.ns,fun i y v h1 h2 h3=>?_⟩,fun y c h=>⟨_,x.cell y c h⟩,e0.hok.fresh (Nat.le_refl _),fun y c h=>?_,fun p hp=>absurd (show p∈([]:List (Addr×Obj)) from hp) (by simp),e0.hok.kept hk,?_⟩
 ·exact name_of_addr x.apart (PySem.mem_of_lookup h1) (PySem.mem_of_lookup h2)
 ·have hy:scope.names.lookup y=some .cell∨scope.names.lookup y=some .free:=hy
  rcases hy with hy | hy
  ·exact ES hy
  ·exact absurd rfl (S.R5 _ (PySem.mem_of_lookup hy))
 ·exact Nat.le_of_lt (x.above y c (PySem.mem_of_lookup h))
 ·have hi:i < vs.length:=by
   unfold start at h2
   by_cases hi:i < vs.length
   ·exact hi
   ·rw[List.getElem?_append_right (by simpa using hi)] at h2
    rw[List.getElem?_replicate] at h2
    split at h2 <;> cases h2
  have ha:vs[i]? = some v:=by
   unfold start at h2
   rw[List.getElem?_append_left (by simpa using hi),List.getElem?_map] at h2
   cases e:vs[i]? with
   | none=>rw[e] at h2;cases h2
   | some a=>rw[e] at h2;cases h2;rfl
  obtain⟨u,hu,rv⟩:=r.get ha
  have hp:ps[i]? = some y:=by
   rw[←S.pre,List.getElem?_take_of_lt (by omega)];exact h1
  have ndP:ps.Nodup:=by rw[←S.pre];exact S.nd.sublist (List.take_sublist _ _)
  refine⟨u,rv,?_⟩
  rcases S.par y (List.mem_of_getElem? hp) with k | k
  ·exact .inl ⟨k,Ck ndP hp hu k⟩
  ·obtain⟨c,e⟩:=ES (n:=s.heap.objs.size+1) k
   refine .inr ⟨.inl k,c,e,?_⟩
   have q:=x.cell y c e
   rw[Cn ndP hp hu (by show scope.names.lookup y≠_;rw[k];decide)] at q
   exact q
 ·exact e0.hok.fresh (Nat.le_of_lt (x.above y c (PySem.mem_of_lookup h)))
 ·unfold start
  show _=N.length
  rw[List.length_append,List.length_map,List.length_replicate]
  omega
theorem Rj {CX:L1}{P:Program}{w:World}{K:W.Frag}{mg:Str→Option Value}{base:Heap}{k:Nat}{f:Addr}{name qual:Str}{params:Arguments}{body:List Stmt}{scope:Scope}{dV kV doc pm cdv ct oc:Value}{an od:Option Addr}
  {osl:Array (Option Value)}{N ps:List Str}{sp:Sp} (lk:K.lookup f=some ⟨oc,od,.func (W.fnOf name qual params body scope dV kV doc pm an cdv ct),osl⟩) (hcd:W.codeIn K cdv qual=true) (S:aF N ps scope)
  (len:∀ vs H Q E,sp vs H Q E→vs.length=ps.length)
  (hbody:∀(A:Around) (outer:List Env) (s:Shared) (H:Hp) (vs:List V) (Q:VK) (E:XK),i8 k (A.deeper (envOfC qual scope s.heap.objs.size f cdv))→sp vs H Q E →
   ∃ t,JI (Hu CX P w K mg base N qual scope f cdv A outer s H E) body t∧t { nx:=fun _ H'=>Q .non H',rt:=Q } (start N vs) H) :
  aJ P w K mg base CX (k+1) f (W.fnOf name qual params body scope dV kV doc pm an cdv ct) ps sp:=by
 refine⟨len,fun A outer s H args us vs Q E hr e0 hb r OW=>?_⟩
 have hl:=len _ _ _ _ OW
 have KX:K.In s.heap:=e0.mod.V6.keeps fun b o e=>(e0.bs b o e).1
 have lim:s.heap.NoLimit:=e0.mod.nolimit.keeps fun b o e=>(e0.bs b o e).1
 have hkind:∀ y∈ps.zip us,scope.names.lookup y.1=some .local∨(scope.names.lookup y.1=some .cell∧((cellsFrom (s.heap.objs.size+1) scope.names []).lookup y.1).isSome=true):=fun ⟨n,v⟩ hy=>by
  rcases S.par n (List.of_mem_zip hy).1 with q | q
  ·exact .inl q
  ·exact .inr ⟨q,W.cellsFrom_some _ _ _ (.inl q)⟩
 refine codeAny_call_function hr.depth (KX _ _ lk) rfl S.co S.gen rfl (W.codeRec_of KX hcd) (hb _ _ _ _ ?_)
 refine wpAny_newFunctionEnv_cells S.kind hkind fun env he s1 x=>?_
 subst he
 refine⟨lim.keeps x.toInCall.keep,codeAny_func ?_⟩
 obtain⟨t,ht,hq⟩:=hbody A outer s H vs Q E (hr.deeper _) OW
 have I:Inv (Hu CX P w K mg base N qual scope f cdv A outer s H E) [] (start N vs) H s1:=Kw S hr.hd e0 hl r x
 refine wpAny_mono (ht [] s1 (start N vs) H _ I hq) (fun fl s' hs=>?_) fun e s' hs=>hs
 have fin:∀{σ':St}{H':Hp}{v:V}{u:Value},Inv (Hu CX P w K mg base N qual scope f cdv A outer s H E) [] σ' H' s'→RelV v u→Q v H'→CE outer P w H s Q u s' :=
  fun {σ' H' v u} J rv q=>⟨v,H',J.os,J.bare,J.base,J.hok,rv,q⟩
 cases fl with
 | ret u =>
  obtain⟨v,σ',H',J,rv,q⟩:=hs
  exact fin J rv q
 | next =>
  obtain⟨σ',H',J,q⟩:=hs
  exact fin (v:=V.non) (u:=Value.none) J rfl q
 | brk =>
  obtain⟨_,_,_,q⟩:=hs
  exact False.elim q
 | cont =>
  obtain⟨_,_,_,q⟩:=hs
  exact False.elim q
section
variable {X:Cx}{x:Str}{p pos:Pos}{e:Expr}{es:List Expr}{t:TA}{id T:String}{r:List V→Hp→VK→Prop}
def tCB (r:List V→Hp→VK→Prop) (t:TA):TE:=fun σ H Q=>t σ H fun vs H1=>r vs H1 Q
theorem MD (hc:fV X (.builtin id) r) (hg:Gl X x) (hm:X.mg x=none) (hv:bootBuiltins x=some (.builtin id)) (ha:PA X (e :: es) t) (hn:x ≠ "__name__" := by decide) (hdb:(x == ("__debug__" : Str))=false:=by decide)
  (he:starEach (e :: es) X.env=(false,eval e X.env) :: starEach es X.env:=by rfl) (hpl:(backTo pos (starEach es X.env)).any (·.1)=false:=by rfl):PE X (.Call (.Name x p) (e :: es) [] pos) (tCB r t):=by
 intro pins s σ H Q I h
 refine wpAny_Call_Name_kw (o6 I hg hm hv ?_ hn hdb)
 exact PyProof.Rows.callWith_builtin1 (dQ (ha pos pins s σ H _ I h) fun us s1 ⟨vs,H1,I1,r1,q1⟩=>hc pins s1 σ H1 vs us Q I1 r1 q1) he hpl
theorem Ky (hc:fV X (.type T) r) (hg:Gl X x) (hm:X.mg x=none) (hv:bootBuiltins x=some (.type T)) (ha:PA X (e :: es) t) (hn:x ≠ "__name__" := by decide) (hdb:(x == ("__debug__" : Str))=false:=by decide)
  (he:starEach (e :: es) X.env=(false,eval e X.env) :: starEach es X.env:=by rfl) (hpl:(backTo pos (starEach es X.env)).any (·.1)=false:=by rfl):PE X (.Call (.Name x p) (e :: es) [] pos) (tCB r t):=by
 intro pins s σ H Q I h
 refine wpAny_Call_Name_kw (o6 I hg hm hv ?_ hn hdb)
 exact PyProof.Rows.callWith_type1 (dQ (ha pos pins s σ H _ I h) fun us s1 ⟨vs,H1,I1,r1,q1⟩=>hc pins s1 σ H1 vs us Q I1 r1 q1) he hpl
end
end L2
namespace HT
open PySem PyProof.Rows
section
open PySem.SeqAt
open PySem.AutoSeq1 (wpAny_loadPart')
open PySem.MeetsSeq PySem.MeetsSeq2 PySem.MeetsSeq3
end
section
variable {prog:Program}{w:World}{A:Around}{E:Value→Shared→Prop}{s:Shared}
theorem Pg {t b:Addr}{vs ws:List Value}{Q:Value→Shared→Prop} (ht:IsTup s.heap t vs.toArray) (hb:IsTup s.heap b ws.toArray) (hv:vs≠[])
  (h1:ws=[]→Q (.ref t) s) (h2:ws≠[]→Q (.ref s.heap.objs.size) { s with heap:=s.heap.push { cls:=.type "tuple",data:=.seq (vs++ws).toArray } })
  (hsz:vs.length+ws.length≤sizeLine):wpAny (model prog w) A (binaryOp .Add (.ref t) (.ref b)) Q E s:=by
 obtain⟨⟨cls,dd,data,sl⟩,ho,hc,n,hd⟩:=id ht
 obtain⟨⟨ahi,dd2,data2,sl2⟩,ho2,hc2,n2,hd2⟩:=id hb
 simp only at hc hd hc2 hd2
 subst hc hd hc2 hd2
 have e:vs.toArray++ws.toArray=(vs++ws).toArray:=by simp
 by_cases hw:ws=[]
 ·exact concat_meets ⟨_,ho,rfl⟩ ⟨_,ho2,rfl⟩ noFill_tuple_add seq_tuple_add PySem.F.slot_tuple_add PySem.F.entry_tuple_add (PySem.F.args_tuple_add_2 _ _)
   (tuple_addW1 t b vs.toArray ws.toArray n n2 dd dd2 sl sl2 (by simpa using hv) (by simp[hw])) ⟨ho,ho2,h1 hw⟩
 ·refine concat_meets ⟨_,ho,rfl⟩ ⟨_,ho2,rfl⟩ noFill_tuple_add seq_tuple_add PySem.F.slot_tuple_add PySem.F.entry_tuple_add (PySem.F.args_tuple_add_2 _ _)
   (tuple_addW2 t b vs.toArray ws.toArray n n2 dd dd2 sl sl2 (by simpa using hv) (by simpa using hw) (by rw[List.size_toArray,List.size_toArray];exact hsz)) ⟨ho,ho2,?_⟩
  rw[e]
  exact h2 hw
def j7 (n d:Nat):Option Int→Nat
 | none=>d
 | some v=>if v < 0 then (v+(n:Int)).toNat else min v.toNat n
theorem R6 (n d:Nat) (hd:d≤n) (o:Option Int):j7 n d o≤n:=by
 cases o with
 | none=>exact hd
 | some v =>
  show(if v < 0 then (v+(n:Int)).toNat else min v.toNat n)≤n
  by_cases hv:v < 0
  ·rw[if_pos hv];omega
  ·rw[if_neg hv];exact Nat.min_le_right _ _
theorem JN (v:Int) (n d:Nat):(if v < 0 then max (v+(n:Int)) 0 else min v (n:Int))=((j7 n d (some v):Nat):Int):=by
 show(if v < 0 then max (v+(n:Int)) 0 else min v (n:Int))=(((if v < 0 then (v+(n:Int)).toNat else min v.toNat n):Nat):Int)
 by_cases hv:v < 0
 ·simp only[if_pos hv];omega
 ·simp only[if_neg hv];omega
theorem Hv (lo hi:Option Int) (n:Nat):Builtin.Slice.sliceAdjust lo hi 1 (n:Int)=(((j7 n 0 lo:Nat):Int),((j7 n n hi:Nat):Int)):=by
 have h1:¬((1:Int) < 0):=by omega
 unfold Builtin.Slice.sliceAdjust
 simp only[h1,if_false]
 refine Prod.ext ?_ ?_
 ·cases lo with
  | none=>rfl
  | some v=>exact JN v n 0
 ·cases hi with
  | none=>rfl
  | some v=>exact JN v n n
theorem Hw (i j:Nat):Builtin.Slice.slicePlaces (i:Int) (j:Int) 1=j - i:=by
 unfold Builtin.Slice.slicePlaces
 have h1:(1:Int) > 0:=by omega
 simp only[h1,if_true,Int.ediv_one]
 split <;> omega
theorem zO {v:Value}{o:Option Int}{Q:Option Int→Shared→Prop} (p:IsPart v o) (h:Q o s):wpAny (model prog w) A (Builtin.Slice.slicePartIndex v) Q E s:=by
 cases p with
 | none=>exact slicePart_none h
 | int i t=>exact slicePart_int h
theorem xm {sl:Addr}{vl vu:Value}{lo hi:Option Int}{n:Nat}{Q:Int×Int×Nat→Shared→Prop} (hs:s.heap.IsSliceOf sl vl vu .none) (pl:IsPart vl lo) (pu:IsPart vu hi)
  (h:Q (((j7 n 0 lo:Nat):Int),1,j7 n n hi - j7 n 0 lo) s):wpAny (model prog w) A (Builtin.Slice.sliceApplied (.ref sl) (pure (n:Int))) Q E s:=by
 obtain⟨os,hos,hcs,hds⟩:=id hs
 unfold Builtin.Slice.sliceApplied Builtin.Slice.sliceFields
 refine wpAny_bind (wpAny_bind (wpAny_field hos hds (x:=vl) rfl (wpAny_bind (wpAny_field hos hds (x:=vu) rfl (wpAny_bind (wpAny_field hos hds (x:=.none) rfl (wpAny_pure ?_)))))))
 refine wpAny_bind (slicePart_none ?_)
 show wpAny _ _ (if ((1:Int) == 0)=true then _ else _) _ _ s
 rw[if_neg (by decide)]
 refine wpAny_bind (zO pl (wpAny_bind (zO pu (wpAny_bind (wpAny_pure ?_)))))
 show wpAny _ _ (match Builtin.Slice.sliceAdjust lo hi 1 (n:Int) with | (lo,hi)=>pure (lo,(1:Int),Builtin.Slice.slicePlaces lo hi 1)) _ _ s
 rw[Hv lo hi n]
 show wpAny _ _ (pure (((j7 n 0 lo:Nat):Int),(1:Int),Builtin.Slice.slicePlaces ((j7 n 0 lo:Nat):Int) ((j7 n n hi:Nat):Int) 1)) _ _ s
 rw[Hw]
 exact wpAny_pure h
theorem ME (xs:Array Value) (i k:Nat):((List.range k).filterMap fun (m:Nat)=>xs[((i:Int)+(m:Int) * 1).toNat]?).toArray=((xs.toList.drop i).take k).toArray:=by
 have e:(fun (m:Nat)=>xs[((i:Int)+(m:Int) * 1).toNat]?)=fun m=>xs[i+m]? := by
  funext m
  have:((i:Int)+(m:Int) * 1).toNat=i+m:=by omega
  rw[this]
 rw[e]
 have:=pick_run xs i k
 rw[List.filterMap_map] at this
 have e2:((fun x=>xs[x]?) ∘ fun x=>i+x)=fun m=>xs[i+m]? := rfl
 rw[e2] at this
 rw[this]
theorem u7 {t sl:Addr}{items:Array Value}{vl vu:Value}{lo hi:Option Int}{Q:Value→Shared→Prop} (ht:IsTup s.heap t items) (hs:s.heap.IsSliceOf sl vl vu .none) (pl:IsPart vl lo) (pu:IsPart vu hi)
  (hw:¬(j7 items.size 0 lo=0∧j7 items.size items.size hi=items.size))
  (h:Q (.ref s.heap.objs.size) { s with heap:=s.heap.push { cls:=.type "tuple",data:=.seq ((items.toList.drop (j7 items.size 0 lo)).take (j7 items.size items.size hi - j7 items.size 0 lo)).toArray } })
  (hsz:items.size≤sizeLine):wpAny (model prog w) A (getItem (.ref t) (.ref sl)) Q E s:=by
 have JO:sizeOk (.seq ((items.toList.drop (j7 items.size 0 lo)).take (j7 items.size items.size hi - j7 items.size 0 lo)).toArray):=by
  show((items.toList.drop (j7 items.size 0 lo)).take (j7 items.size items.size hi - j7 items.size 0 lo)).toArray.size≤sizeLine
  rw[List.size_toArray,List.length_take,List.length_drop,Array.length_toList]
  omega
 have hj:j7 items.size items.size hi≤items.size:=R6 _ _ (Nat.le_refl _) hi
 obtain⟨os,hos,hcs,hds⟩:=id hs
 have hTs:s.TypeIs (.ref sl) "slice" := ⟨os,hos,hcs⟩
 unfold getItem
 try with_reducible refine wpAny_holding ?_
 first | refine wpAny_bind (wpAny_pure ?_) | skip
 refine wpAny_bind (wpAny_sequenceKey ht.typeIs (by decide) ?_)
 refine wpAny_bind (wpAny_callSpecial?_slot (name:=Str.ofString "__getitem__") ht.typeIs PyProof.Rows.slot_tuple_getitem
  (wpAny_call_entry PyProof.Rows.slot_tuple_getitem ht.typeIs entry_tuple_getitem ?_ (args_tuple_getitem _ _)))
 show wpAny _ _ (Builtin.Tuple.tupleItemsOf (.ref t) >>= _) _ _ s
 refine wpAny_bind (tupleItemsOf_ ht ?_)
 refine wpAny_bind (wpAny_typeOf hTs ?_)
 rw[if_pos (by decide)]
 refine wpAny_bind (xm hs pl pu ?_)
 have hno:¬((((j7 items.size 0 lo:Nat):Int) == 0 && (1:Int) == 1 && (j7 items.size items.size hi - j7 items.size 0 lo) == items.size)=true):=by
  intro q
  rw[Bool.and_eq_true,Bool.and_eq_true] at q
  have q1:((j7 items.size 0 lo:Nat):Int)=0:=eq_of_beq q.1.1
  have q2:j7 items.size items.size hi - j7 items.size 0 lo=items.size:=eq_of_beq q.2
  exact hw ⟨by omega,by omega⟩
 show wpAny _ _ (if (((j7 items.size 0 lo:Nat):Int) == 0 && (1:Int) == 1 && (j7 items.size items.size hi - j7 items.size 0 lo) == items.size)=true then _ else _) _ _ s
 rw[if_neg hno,ME]
 first
  | exact wpAny_bind (m:=Builtin.Tuple.tupleExact _) (wpAny_newObj_type (wpAny_pure ⟨_,rfl,wpAny_pure h⟩) JO)
  | exact wpAny_bind (m:=Builtin.Tuple.tupleExact _) (wpAny_newObj_type (wpAny_bind (wpAny_pure (wpAny_pure ⟨_,rfl,wpAny_pure h⟩))) JO)
  | exact wpAny_bind (wpAny_bind (m:=Builtin.Tuple.tupleExact _) (wpAny_newObj_type (wpAny_pure (wpAny_pure ⟨_,rfl,wpAny_pure h⟩)) JO))
  | exact wpAny_bind (wpAny_bind (m:=Builtin.Tuple.tupleExact _) (wpAny_newObj_type (wpAny_pure ⟨_,rfl,wpAny_pure h⟩) JO))
end
end HT
namespace L2
open PySem PySem.Spec PyProof.Rows
abbrev TO:=St→Hp→(Option Int→Hp→Prop)→Prop
def PO (X:Cx) (e:Option Expr) (t:TO):Prop :=
 ∀(pins:List (Addr×Obj)) (s:Shared) (σ:St) (H:Hp) (Q:Option Int→Hp→Prop),Inv X pins σ H s→t σ H Q →
  wpAny (model X.prog X.w) X.A (evalPart e X.env) (fun u s'=>∃ o H',Inv X pins σ H' s'∧IsPart u o∧Q o H') X.xe s
def Ph:TO:=fun _ H Q=>Q none H
def Wy (t:TE):TO:=fun σ H Q=>t σ H fun x H1=>∃ i,x=.int i∧Q (some i) H1
section
variable {X:Cx}{e:Expr}{te:TE}{lo hi:Option Expr}{tl th:TO}{pos p2:Pos}
theorem lC:PO X none Ph:=by
 intro pins s σ H Q I h
 rw[evalPart_none]
 exact wpAny_pure ⟨none,H,I,.none,h⟩
theorem lD (h:PE X e te):PO X (some e) (Wy te):=by
 intro pins s σ H Q I hw
 rw[evalPart_some]
 refine dQ (h pins s σ H _ I hw) fun u s1 ⟨x,H1,I1,r1,q1⟩=>?_
 obtain⟨i,rfl,q⟩:=q1
 obtain⟨t,rfl⟩:=r1
 exact⟨some i,H1,I1,.int i t,q⟩
def Wz (X:Cx) (r:V→Option Int→Option Int→Hp→VK→Prop):Prop :=
 ∀(pins:List (Addr×Obj)) (s:Shared) (σ:St) (H:Hp) (x:V) (v vl vu:Value) (lo hi:Option Int) (sl:Addr) (Q:VK),Inv X pins σ H s→RelV x v→s.heap.IsSliceOf sl vl vu .none→IsPart vl lo→IsPart vu hi→r x lo hi H Q →
  ∃ T id,typeLookup (.type T) "__getitem__" = pure (some (.builtin id))∧s.TypeIs v T∧wpAny (model X.prog X.w) X.A (getItem v (.ref sl)) (EP X pins σ Q) X.xe s
def tSl (r:V→Option Int→Option Int→Hp→VK→Prop) (te:TE) (tl th:TO):TE:=fun σ H Q=>te σ H fun x H1=>tl σ H1 fun l H2=>th σ H2 fun u H3=>r x l u H3 Q
theorem i9 {r:V→Option Int→Option Int→Hp→VK→Prop} (hr:Wz X r) (he:PE X e te) (hl:PO X lo tl) (hu:PO X hi th):PE X (.Subscript e (.Slice lo hi none p2) pos) (tSl r te tl th):=by
 intro pins s σ H Q I h
 refine Subscript_ (dQ (he pins s σ H _ I h) fun v s1 ⟨x,H1,I1,r1,q1⟩=>?_)
 refine wpAny_Slice (dQ (hl pins s1 σ H1 _ I1 q1) fun vl s2 ⟨l,H2,I2,pl,q2⟩=>dQ (hu pins s2 σ H2 _ I2 q2) fun vu s3 ⟨u,H3,I3,pu,q3⟩=>?_)
 rw[evalPart_none]
 refine wpAny_pure ?_
 have I4:Inv X pins σ H3 { s3 with heap:=s3.heap.push { cls:=.type "slice",data:=.fields #[vl,vu,.none] } }:=I3.kept (t':=s3.toks) fun b ob q=>Heap.get?_push_of_some _ q
 obtain⟨T,id,hT,ht,hg⟩:=hr pins { s3 with heap:=s3.heap.push { cls:=.type "slice",data:=.fields #[vl,vu,.none] } } σ H3 x v vl vu l u s3.heap.objs.size Q I4 r1 (Heap.IsSliceOf.new ..) pl pu q3
 show wpAny (model X.prog X.w) X.A (subscriptTail e (.Slice lo hi none p2) v (.ref s3.heap.objs.size)) (EP X pins σ Q) X.xe { s3 with heap:=s3.heap.push { cls:=.type "slice",data:=.fields #[vl,vu,.none] } }
 exact tail_any (ops:=[.ref s3.heap.objs.size,v]) ht hT hg (by with_unfolding_all rfl)
def sO (xs:List V) (lo hi:Option Int):List V:=(xs.drop (HT.j7 xs.length 0 lo)).take (HT.j7 xs.length xs.length hi - HT.j7 xs.length 0 lo)
theorem ye (xs:List V) (lo hi:Option Int):(sO xs lo hi).length≤xs.length:=by
 unfold sO
 rw[List.length_take,List.length_drop]
 omega
def WA (K:W.Frag):V→Option Int→Option Int→Hp→VK→Prop:=fun x lo hi H Q=>∃ a xs,x=.ref a∧aY K H a xs ∧
 ¬(HT.j7 xs.length 0 lo=0∧HT.j7 xs.length xs.length hi=xs.length)∧∀ p,H p=none→Q (.ref p) (upd H p (.tup (sO xs lo hi)))
theorem R7:Wz X (WA X.K):=by
 intro pins s σ H x v vl vu lo hi sl Q I rx hs pl pu h
 obtain⟨a,xs,rfl,hx,hw,q⟩:=h
 cases rx
 obtain⟨its,r,ht,hz⟩:=I.tuple hx
 have hlen:its.toArray.size=xs.length:=by rw[List.size_toArray];exact r.length.symm
 refine⟨"tuple",_,PyProof.Rows.slot_tuple_getitem.lookup,ht.typeIs,?_⟩
 refine HT.u7 ht hs pl pu (by rw[hlen];exact hw) ?_ (by rw[hlen];exact hz)
 rw[hlen]
 refine⟨.ref s.heap.objs.size,_,I.laid (t':=s.toks) (o:=.tup (sO xs lo hi)) (fun b ob q=>Heap.get?_push_of_some _ q) (Nat.le_refl _) ?_,rfl,q _ (I.hok.fresh (Nat.le_refl _))⟩
 exact⟨Nat.le_trans (ye xs lo hi) hz,_,(r.drop (HT.j7 xs.length 0 lo)).take (HT.j7 xs.length xs.length hi - HT.j7 xs.length 0 lo),IsTup.new _ _⟩
def Rl (K:W.Frag):R2:=fun x y H Q=>∃ a b xs ys,x=.ref a∧y=.ref b∧aY K H a xs∧aY K H b ys∧xs≠[]∧xs.length+ys.length≤sizeLine ∧
 (ys=[]→Q (.ref a) H)∧(ys≠[]→∀ p,H p=none→Q (.ref p) (upd H p (.tup (xs++ys))))
theorem Vals.Dr {xs:List V}{us:List Value} (r:Vals xs us):us=[]↔xs=[]:=by
 cases r with
 | nil=>simp
 | cons _ _=>simp
theorem Pj:o8 X (binaryOp .Add) (Rl X.K):=by
 intro pins s σ H x y v u Q I rx ry h
 obtain⟨a,b,xs,ys,rfl,rfl,ha,hb,hx,hz,q1,q2⟩:=h
 cases rx
 cases ry
 obtain⟨its,r1,p1,_⟩:=I.tuple ha
 obtain⟨its2,r2,p2,_⟩:=I.tuple hb
 refine HT.Pg p1 p2 (fun z=>hx (r1.Dr.mp z)) (fun z=>⟨.ref a,H,I,rfl,q1 (r2.Dr.mp z)⟩) (fun z=>?_) (by rw[←r1.length,←r2.length];exact hz)
 refine⟨.ref s.heap.objs.size,_,I.laid (t':=s.toks) (o:=.tup (xs++ys)) (fun b ob q=>Heap.get?_push_of_some _ q) (Nat.le_refl _) ?_,rfl,q2 (fun w=>z (r2.Dr.mpr w)) _ (I.hok.fresh (Nat.le_refl _))⟩
 exact⟨by rw[List.length_append];exact hz,_,r1.append r2,IsTup.new _ _⟩
end
def R8 (n:Nat) (i:Int):Option Nat:=if 0≤i then (if i < n then some i.toNat else none) else if -(n:Int)≤i then some (i+n).toNat else none
def Bk {α:Type} (xs:List α) (i:Int):Option α:=(R8 xs.length i).bind fun j=>xs[j]?
theorem JP {n:Nat}{i:Int}{j:Nat} (h:R8 n i=some j):seqIndex? i n=some j∧j < n∧-(n:Int)≤i∧i < n:=by
 unfold R8 at h
 by_cases h0:0≤i
 ·rw[if_pos h0] at h
  by_cases h1:i < n
  ·rw[if_pos h1] at h
   have e:i.toNat=j:=Option.some.inj h
   exact⟨by rw[seqIndex_of h0 h1,e],by omega,by omega,h1⟩
  ·rw[if_neg h1] at h;cases h
 ·rw[if_neg h0] at h
  by_cases h1 : -(n:Int)≤i
  ·rw[if_pos h1] at h
   have e:(i+n).toNat=j:=Option.some.inj h
   exact⟨by rw[seqIndex_neg (by omega) h1,e],by omega,h1,by omega⟩
  ·rw[if_neg h1] at h;cases h
theorem Ds {α:Type}{xs:List α}{i:Int}{v:α} (h:Bk xs i=some v):∃ j,seqIndex? i xs.length=some j∧xs[j]? = some v∧j < xs.length∧-(xs.length:Int)≤i∧i < xs.length:=by
 unfold Bk at h
 cases e:R8 xs.length i with
 | none=>rw[e] at h;cases h
 | some j =>
  rw[e] at h
  obtain⟨h1,h2,h3,h4⟩:=JP e
  exact⟨j,h1,h,h2,h3,h4⟩
theorem iH {α:Type}{xs:List α}{j:Nat}{v:α} (h:xs[j]? = some v):Bk xs (j:Int)=some v:=by
 have hj:j < xs.length:=(List.getElem?_eq_some_iff.mp h).1
 have e:R8 xs.length (j:Int)=some j:=by
  unfold R8
  rw[if_pos (by omega),if_pos (by omega)];simp
 unfold Bk;rw[e];exact h
def Dt (b:Expr):Prop:=∀ o i,subscripted b false o i=operate [o,i] (getItem o i)
def VC (X:Cx) (r:R2):Prop :=
 ∀(value slice:Expr) (pins:List (Addr×Obj)) (s:Shared) (σ:St) (H:Hp) (x y:V) (v u:Value) (Q:VK),Inv X pins σ H s→RelV x v→RelV y u→r x y H Q →
  subscripted slice false v u=operate [v,u] (getItem v u)→wpAny (model X.prog X.w) X.A (subscriptTail value slice v u) (EP X pins σ Q) X.xe s
def R9 (X:Cx) (id:String) (r:V→List V→Hp→VK→Prop):Prop :=
 ∀(pins:List (Addr×Obj)) (s:Shared) (σ:St) (H:Hp) (x:V) (xs:List V) (v:Value) (us:List Value) (Q:VK),Inv X pins σ H s→RelV x v→Vals xs us→r x xs H Q →
  wpAny (model X.prog X.w) X.A (call (.builtin id) (v :: us)) (EP X pins σ Q) X.xe s
section
variable {X:Cx}{a b:Expr}{ta tb:TE}{pos:Pos}
theorem Co {r:R2} (hr:VC X r) (ha:PE X a ta) (hb:PE X b tb) (hs:Dt b):PE X (.Subscript a b pos) (Rc r ta tb):=by
 intro pins s σ H Q I h
 exact Subscript_ (RY ha hb I h fun v u s2 x y H2 I2 rx ry q=>hr a b pins s2 σ H2 x y v u Q I2 rx ry q (hs _ _))
def Sa (K:W.Frag):R2:=fun x y H Q=>∃ p xs i v,x=.ref p∧y=.int i∧aU K H p xs∧Bk xs i=some v∧Q v H
def Sb (K:W.Frag):R2:=fun x y H Q=>∃ p xs i v,x=.ref p∧y=.int i∧aY K H p xs∧Bk xs i=some v∧Q v H
def adt:R2:=fun x y H Q=>∃ z i c,x=.str z∧y=.int i∧z.length≤sizeLine∧Bk z.cps.toList i=some c∧Q (.str ⟨#[c]⟩) H
theorem Pk:VC X (Sa X.K):=by
 intro value slice pins s σ H x y v u Q I rx ry h hs
 obtain⟨p,xs,i,z,rfl,rfl,hq,he,q⟩:=h
 cases rx
 obtain⟨t,rfl⟩:=ry
 obtain⟨its,r,pl,hz⟩:=I.list hq
 obtain⟨j,h1,h2,h3,h4,h5⟩:=Ds he
 obtain⟨w,ew,rw'⟩:=r.get h2
 have hl:=r.length
 have hn:=xh
 have fin:EP X pins σ Q w s:=⟨z,H,I,rw',q⟩
 by_cases h0:0≤i
 ·have hj:i.toNat=j:=by
   rw[seqIndex_of h0 h5] at h1
   exact Option.some.inj h1
  exact item_listR pl.isList h0 (by omega) (by rw[hj];simpa using ew) fin hs
 ·have hj:(i+(its.toArray.size:Int)).toNat=j:=by
   rw[seqIndex_neg (by omega) h4] at h1
   rw[List.size_toArray,←hl]
   exact Option.some.inj h1
  exact subscriptTail_builtinR (x:=w) pl.isList.typeIs slot_list_getitem.lookup
   (wpAny_getItem_list_neg (Q:=fun r s'=>r=w∧EP X pins σ Q r s') pl.isList (by omega) (by rw[List.size_toArray] <;> omega) (by omega) (by rw[hj];simpa using ew) ⟨rfl,fin⟩) hs
theorem Sd:VC X (Sb X.K):=by
 intro value slice pins s σ H x y v u Q I rx ry h hs
 obtain⟨p,xs,i,z,rfl,rfl,hq,he,q⟩:=h
 cases rx
 obtain⟨t,rfl⟩:=ry
 obtain⟨its,r,pl,hz⟩:=I.tuple hq
 obtain⟨j,h1,h2,h3,h4,h5⟩:=Ds he
 obtain⟨w,ew,rw'⟩:=r.get h2
 have hl:=r.length
 have hn:=xh
 have fin:EP X pins σ Q w s:=⟨z,H,I,rw',q⟩
 exact subscriptTail_builtinR (x:=w) pl.typeIs slot_tuple_getitem.lookup
  (getItem_tuple (j:=j) (Q:=fun r s'=>r=w∧EP X pins σ Q r s') pl (by omega) (by omega) (by rw[List.size_toArray,←hl];exact h1) (by simpa using ew) ⟨rfl,fin⟩) hs
theorem MF:VC X adt:=by
 intro value slice pins s σ H x y v u Q I rx ry h hs
 obtain⟨z,i,c,rfl,rfl,hz,he,q⟩:=h
 obtain⟨t,rfl⟩:=rx
 obtain⟨t',rfl⟩:=ry
 obtain⟨j,h1,h2,h3,h4,h5⟩:=Ds he
 have hl:z.cps.toList.length=z.length:=by simp[Str.length]
 rw[hl] at h1 h4 h5
 have hn:=xh
 exact tail_any (typeIs_str s z t) slot_str_getitem.lookup (getItem_str (c:=c) (by
  have e1:decide (i < -(2 ^ 63:Int))=false:=decide_eq_false (by omega)
  have e2:decide (i≥2 ^ 63)=false:=decide_eq_false (by omega)
  rw[e1,e2,Bool.or_false]) (by rw[h1];simpa using h2) ⟨.str ⟨#[c]⟩,H,I.tok _,⟨_,rfl⟩,q⟩) hs
theorem Hx (its:List Value) (n j:Nat) (u:Value):Obj.mapSeq (·.setIfInBounds j u) { cls:=.type "list",data:=.seq its.toArray n }={ cls:=.type "list",data:=.seq (its.set j u).toArray n }:=by
 simp[Obj.mapSeq]
theorem Inv.lst {pins:List (Addr×Obj)}{σ:St}{H:Hp}{s:Shared}{p:Addr}{xs:List V} (I:Inv X pins σ H s) (h:H p=some (.lst xs)) :
  ∃(its:List Value) (n:Nat),Vals xs its∧s.heap.get? p=some { cls:=.type "list",data:=.seq its.toArray n }∧xs.length≤sizeLine:=by
 obtain⟨z,its,n,r,e⟩:=I.hok p _ h
 exact⟨its,n,r,e,z⟩
theorem Inv.Se {pins:List (Addr×Obj)}{σ:St}{H:Hp}{s:Shared}{p:Addr}{xs ys:List V}{its its':List Value}{n n':Nat}{f:Obj→Obj} (I:Inv X pins σ H s) (h:H p=some (.lst xs))
  (ho:s.heap.get? p=some { cls:=.type "list",data:=.seq its.toArray n }) (hf:f { cls:=.type "list",data:=.seq its.toArray n }={ cls:=.type "list",data:=.seq its'.toArray n' }) (r:Vals ys its') (hz:ys.length≤sizeLine) (t:Nat) :
  Inv X pins σ (upd H p (.lst ys)) { s with heap:=s.heap.update p f,toks:=t }:=by
 have e:(s.heap.update p f).get? p=some { cls:=.type "list",data:=.seq its'.toArray n' }:=by
  rw[Heap.get?_update_self f ho (by rw[hf] <;> rfl),hf]
 refine I.write (x:=p) (e:=p) (by rw[h];trivial) (.inl rfl) (fun b u hb q=>(Heap.get?_update_other _ _ (Ne.symm hb)).trans q) ⟨_,e⟩ ?_
 exact⟨hz,its',n',r,e⟩
def WB:V→V→V→Hp→(Hp→Prop)→Prop:=fun o i v H Q=>∃ p xs k j,o=.ref p∧i=.int k∧H p=some (.lst xs)∧R8 xs.length k=some j∧Q (upd H p (.lst (xs.set j v)))
theorem set_list:Wi X WB:=by
 intro pins s σ H o i v ov iv u Q I ro ri rv h
 obtain⟨p,xs,k,j,rfl,rfl,hp,hj,q⟩:=h
 cases ro
 obtain⟨t,rfl⟩:=ri
 obtain⟨its,n,r,ho,hz⟩:=I.lst hp
 obtain⟨h1,h2,h3,h4⟩:=JP hj
 have hl:=r.length
 have hn:=xh
 have I':Inv X pins σ (upd H p (.lst (xs.set j v))) { s with heap:=s.heap.update p (Obj.mapSeq (·.setIfInBounds j u)) } :=
  I.Se hp ho (Hx its n j u) (r.set rv j) (by rw[List.length_set];exact hz) s.toks
 by_cases h0:0≤k
 ·have hk:k.toNat=j:=by
   rw[seqIndex_of h0 h4] at h1
   exact Option.some.inj h1
  exact W.ki_setAt ho h0 (by omega) (by rw[List.size_toArray,←hl];exact h4) (by rw[hk];exact⟨_,I',q⟩)
 ·have hk:(k+(its.toArray.size:Int)).toNat=j:=by
   rw[seqIndex_neg (by omega) h3] at h1
   rw[List.size_toArray,←hl]
   exact Option.some.inj h1
  exact W.ki_setBack ho (by omega) (by rw[List.size_toArray,←hl];exact h3) (by omega) (by rw[hk];exact⟨_,I',q⟩)
theorem Du (lo hi:Option Int) (n:Nat):(sliceBounds lo hi none n).1=((HT.j7 n 0 lo:Nat):Int)∧(sliceBounds lo hi none n).2.1=((HT.j7 n n hi:Nat):Int)∧(sliceBounds lo hi none n).2.2=1:=by
 refine⟨?_,?_,rfl⟩
 ·cases lo with
  | none=>simp[sliceBounds,HT.j7]
  | some i =>
   simp only[sliceBounds,HT.j7,Option.getD_none,show(1:Int) > 0 by decide,if_true]
   by_cases h:i < 0
   ·simp only[h,if_true] <;> omega
   ·simp only[h,if_false] <;> omega
 ·cases hi with
  | none=>simp[sliceBounds,HT.j7]
  | some i =>
   simp only[sliceBounds,HT.j7,Option.getD_none,show(1:Int) > 0 by decide,if_true]
   by_cases h:i < 0
   ·simp only[h,if_true] <;> omega
   ·simp only[h,if_false] <;> omega
theorem Bl (its:List Value) (lo hi:Option Int):slicePick its.toArray lo hi none=((its.drop (HT.j7 its.length 0 lo)).take (HT.j7 its.length its.length hi - HT.j7 its.length 0 lo)).toArray:=by
 obtain⟨h1,h2,h3⟩:=Du lo hi its.toArray.size
 unfold slicePick
 rw[h1,h2,h3]
 simp only[sliceRange_one,pick_run,List.size_toArray] <;> rfl
def WC (K:W.Frag):V→Option Int→Option Int→Hp→VK→Prop:=fun x lo hi H Q=>∃ a xs,x=.ref a∧aU K H a xs∧∀ p,H p=none→Q (.ref p) (upd H p (.lst (sO xs lo hi)))
theorem Po:Wz X (WC X.K):=by
 intro pins s σ H x v vl vu lo hi sl Q I rx hs pl pu h
 obtain⟨a,xs,rfl,hx,q⟩:=h
 cases rx
 obtain⟨its,r,ht,hz⟩:=I.list hx
 have hlen:=r.length
 refine⟨"list",_,slot_list_getitem.lookup,ht.isList.typeIs,?_⟩
 refine wpAny_getItem_list_slice ht.isList hs pl pu .none (by simp) ?_ (by rw[List.size_toArray] <;> omega)
 rw[Bl,←hlen]
 refine⟨.ref s.heap.objs.size,_,I.laid (t':=s.toks) (o:=.lst (sO xs lo hi)) (fun b ob q=>Heap.get?_push_of_some _ q) (Nat.le_refl _) ?_,rfl,q _ (I.hok.fresh (Nat.le_refl _))⟩
 exact⟨Nat.le_trans (ye xs lo hi) hz,_,0,(r.drop (HT.j7 xs.length 0 lo)).take (HT.j7 xs.length xs.length hi - HT.j7 xs.length 0 lo),Heap.get?_push_size _ rfl⟩
def n6:V→Bool
 | .non=>true
 | .bl _=>true
 | .int _=>true
 | .str _=>true
 | _=>false
def Hy:V→V→Bool
 | .non,.non=>true
 | .bl a,.bl b=>a == b
 | .bl a,.int b=>(if a then 1 else 0) == b
 | .int a,.bl b=>a == (if b then 1 else 0)
 | .int a,.int b=>a == b
 | .str a,.str b=>a == b
 | _,_=>false
theorem Hz {A:Around}{s:Shared}{y x:V}{u v:Value} (ry:RelV y u) (rx:RelV x v) (fy:n6 y=true) (fx:n6 x=true):SeqAt.EqAt A s u v (Hy y x):=by
 cases y with
 | non =>
  cases ry
  cases x with
  | non=>cases rx;exact SeqAt.EqAt.same _
  | bl b=>cases rx;exact SeqAt.EqAt.none_bool b
  | int b=>obtain⟨t,rfl⟩:=rx;exact SeqAt.EqAt.none_int b t
  | str b=>obtain⟨t,rfl⟩:=rx;exact SeqAt.EqAt.none_str b t
  | _=>exact absurd (show false=true from fx) Bool.false_ne_true
 | bl a =>
  cases ry
  cases x with
  | non=>cases rx;exact SeqAt.EqAt.bool_none a
  | bl b=>cases rx;exact SeqAt.EqAt.bool_bool a b
  | int b=>obtain⟨t,rfl⟩:=rx;exact SeqAt.EqAt.bool_int a b t
  | str b=>obtain⟨t,rfl⟩:=rx;exact SeqAt.EqAt.bool_str a b t
  | _=>exact absurd (show false=true from fx) Bool.false_ne_true
 | int a =>
  obtain⟨t',rfl⟩:=ry
  cases x with
  | non=>cases rx;exact SeqAt.EqAt.int_none a t'
  | bl b=>cases rx;exact SeqAt.EqAt.int_bool a t' b
  | int b=>obtain⟨t,rfl⟩:=rx;exact SeqAt.EqAt.int_int a t' b t
  | str b=>obtain⟨t,rfl⟩:=rx;exact SeqAt.EqAt.int_str a t' b t
  | _=>exact absurd (show false=true from fx) Bool.false_ne_true
 | str a =>
  obtain⟨t',rfl⟩:=ry
  cases x with
  | non=>cases rx;exact SeqAt.EqAt.str_none a t'
  | bl b=>cases rx;exact SeqAt.EqAt.str_bool a t' b
  | int b=>obtain⟨t,rfl⟩:=rx;exact SeqAt.EqAt.str_int a t' b t
  | str b=>obtain⟨t,rfl⟩:=rx;exact SeqAt.EqAt.str_str a t' b t
  | _=>exact absurd (show false=true from fx) Bool.false_ne_true
 | _=>exact absurd (show false=true from fy) Bool.false_ne_true
def Pp (x:V) (u:Value):Bool:=match u with
 | .none=>Hy .non x
 | .bool b=>Hy (.bl b) x
 | .int i _=>Hy (.int i) x
 | .str z _=>Hy (.str z) x
 | _=>false
theorem MG {x y:V}{u:Value} (r:RelV y u) (f:n6 y=true):Pp x u=Hy y x:=by
 cases y with
 | non=>cases r;rfl
 | bl b=>cases r;rfl
 | int i=>obtain⟨t,rfl⟩:=r;rfl
 | str z=>obtain⟨t,rfl⟩:=r;rfl
 | _=>exact absurd (show false=true from f) Bool.false_ne_true
theorem Dv {x:V}:∀{xs:List V}{us:List Value},Vals xs us→xs.all n6=true→us.any (Pp x)=xs.any fun y=>Hy y x
 | _,_,.nil,_=>rfl
 | y :: xs,u :: us,.cons r t,f=>by
  rw[List.all_cons,Bool.and_eq_true] at f
  rw[List.any_cons,List.any_cons,MG r f.1,Dv t f.2]
theorem zP {A:Around}{s:Shared}{x:V}{v:Value} (rx:RelV x v) (fx:n6 x=true):∀{xs:List V}{us:List Value},Vals xs us→xs.all n6=true→∀ u∈us,SeqAt.EqAt A s u v (Pp x u)
 | _,_,.nil,_=>fun u hu=>by cases hu
 | y :: xs,u :: us,.cons r t,f=>fun u' hu=>by
  rw[List.all_cons,Bool.and_eq_true] at f
  rcases List.mem_cons.mp hu with rfl | hu
  ·rw[MG r f.1];exact Hz r rx f.1 fx
  ·exact zP rx fx t f.2 u' hu
def inV (x:V) (xs:List V):Bool:=xs.any fun y=>Hy y x
def rIn (K:W.Frag) (neg:Bool):R2:=fun x y H Q=>∃ p xs,y=.ref p∧(aU K H p xs∨aY K H p xs)∧n6 x=true∧xs.all n6=true∧Q (.bl (if neg then !inV x xs else inV x xs)) H
theorem Kz:o8 X (compareOp .In) (rIn X.K false):=by
 intro pins s σ H x y v u Q I rx ry h
 obtain⟨p,xs,rfl,hq,fx,fs,q⟩:=h
 cases ry
 rcases hq with hq | hq
 ·obtain⟨its,r,pl,hz⟩:=I.list hq
  refine SeqAt.in_listAt (Pp x) pl.isList (fun w hw=>zP rx fx r fs w (by simpa using hw)) ⟨.bl _,H,I,rfl,?_⟩
  rw[show its.toArray.any (Pp x)=its.any (Pp x) by simp,Dv r fs]
  exact q
 ·obtain⟨its,r,pl,hz⟩:=I.tuple hq
  refine SeqAt.in_tupleAt (Pp x) pl (fun w hw=>zP rx fx r fs w (by simpa using hw)) ⟨.bl _,H,I,rfl,?_⟩
  rw[show its.toArray.any (Pp x)=its.any (Pp x) by simp,Dv r fs]
  exact q
theorem lE:o8 X (compareOp .NotIn) (fun x y H Q=>∃ i j,x=.str i∧y=.str j∧Q (.bl (!(!(Builtin.Str.occurrences j i 0 j.length 1).isEmpty))) H):=by
 intro pins s σ H x y v u Q I rx ry h
 obtain⟨i,j,rfl,rfl,q⟩:=h
 obtain⟨t,rfl⟩:=rx
 obtain⟨t',rfl⟩:=ry
 exact notIn_str ⟨.bl _,H,I,rfl,q⟩
theorem Dw:fV X (.builtin "len") (fun xs H Q=>∃ p ys,xs=[.ref p]∧(aU X.K H p ys∨aY X.K H p ys)∧Q (.int ys.length) H):=by
 intro pins s σ H xs us Q I r h
 obtain⟨p,ys,rfl,hq,q⟩:=h
 obtain⟨u,rfl,rx⟩:=vals1 r
 cases rx
 have hn:=xh
 rcases hq with hq | hq
 ·obtain⟨its,r',pl,hz⟩:=I.list hq
  have hlen:=r'.length
  exact Calls.call_len_list pl.isList (by simp only[List.size_toArray] <;> omega) ⟨.int ys.length,H,I.tok _,⟨s.toks+1,by rw[List.size_toArray,hlen]⟩,q⟩
 ·obtain⟨its,r',pl,hz⟩:=I.tuple hq
  have hlen:=r'.length
  exact len_tuple pl (by simp only[List.size_toArray] <;> omega) ⟨.int ys.length,H,I.tok _,⟨s.toks+1,by rw[List.size_toArray,hlen]⟩,q⟩
theorem cX:fV X (.builtin "len") (fun xs H Q=>∃ z,xs=[.str z]∧z.length≤sizeLine∧Q (.int z.length) H):=by
 intro pins s σ H xs us Q I r h
 obtain⟨z,rfl,hz,q⟩:=h
 obtain⟨u,rfl,t,rfl⟩:=vals1 r
 have hn:=xh
 exact len_str (by omega) ⟨.int z.length,H,I.tok _,⟨_,rfl⟩,q⟩
theorem Dy:fV X (.type "list") (fun xs H Q=>∃ p ys,xs=[.ref p]∧(aU X.K H p ys∨aY X.K H p ys)∧∀ l,H l=none→Q (.ref l) (upd H l (.lst ys))):=by
 intro pins s σ H xs us Q I r h
 obtain⟨p,ys,rfl,hq,q⟩:=h
 obtain⟨u,rfl,rx⟩:=vals1 r
 cases rx
 have fin:∀(its:List Value),Vals ys its→ys.length≤sizeLine→∀(h':Heap) (c':Nat),(∀ b o',s.heap.get? b=some o'→h'.get? b=some o') →
   h'.get? s.heap.objs.size=some { cls:=.type "list",dict:=none,data:=.seq its.toArray c',slots:=#[] }→EP X pins σ Q (.ref s.heap.objs.size) { s with heap:=h' }:=fun its r' hz h' c' kp e =>
  ⟨.ref s.heap.objs.size,_,I.laid (t':=s.toks) kp (Nat.le_refl _) (show eY X.prog X.w _ h' _ (.lst ys) from ⟨hz,its,c',r',e⟩),rfl,q _ (I.hok.fresh (Nat.le_refl _))⟩
 rcases hq with hq | hq
 ·obtain⟨its,r',pl,hz⟩:=I.list hq
  have hlen:=r'.length
  obtain⟨o,ho,hc,n,hd⟩:=pl.isList
  exact call_list_seq p (.inl rfl) ho hc hd (fun h' c' kp e=>fin its r' hz h' c' kp e) (by simp only[List.size_toArray] <;> omega)
 ·obtain⟨its,r',pl,hz⟩:=I.tuple hq
  have hlen:=r'.length
  obtain⟨o,ho,hc,n,hd⟩:=pl
  exact call_list_seq p (.inr rfl) ho hc hd (fun h' c' kp e=>fin its r' hz h' c' kp e) (by simp only[List.size_toArray] <;> omega)
theorem Bm:fV X (.type "tuple") (fun xs H Q=>∃ p ys,xs=[.ref p]∧((aU X.K H p ys∧∀ l,H l=none→Q (.ref l) (upd H l (.tup ys)))∨(aY X.K H p ys∧Q (.ref p) H))):=by
 intro pins s σ H xs us Q I r h
 obtain⟨p,ys,rfl,h⟩:=h
 obtain⟨u,rfl,rx⟩:=vals1 r
 cases rx
 rcases h with ⟨hq,q⟩ | ⟨hq,q⟩
 ·obtain⟨its,r',pl,hz⟩:=I.list hq
  have hlen:=r'.length
  refine call_tuple_list pl.isList (fun h' kp=>?_) (by simp only[List.size_toArray] <;> omega)
  have I1:Inv X pins σ H { s with heap:=h' }:=I.kept (t':=s.toks) kp
  have I2:Inv X pins σ (upd H h'.objs.size (.tup ys)) { s with heap:=h'.push { cls:=.type "tuple",data:=.seq its.toArray } } :=
   I1.laid (t':=s.toks) (fun b o e=>Heap.get?_push_of_some _ e) (Nat.le_refl _) (show eY X.prog X.w _ _ _ (.tup ys) from ⟨hz,its,r',IsTup.new _ _⟩)
  exact⟨.ref h'.objs.size,_,I2,rfl,q _ (I1.hok.fresh (Nat.le_refl _))⟩
 ·obtain⟨its,r',pl,hz⟩:=I.tuple hq
  exact call_tuple_same pl ⟨.ref p,H,I,rfl,q⟩
def tyV (K:W.Frag) (T:String) (x:V) (H:Hp):Prop:=match x with
 | .str _=>T = "str"
 | .int _=>T = "int"
 | .ref p=>(T = "list"∧∃ xs,aU K H p xs)∨(T = "tuple"∧∃ o,K.lookup p=some o∧o.cls=.type "tuple"∧o.dict=none) ∨
   (T = "dict"∧((∃ kvs,H p=some (.dK kvs))∨∃ kvs,H p=some (.dT kvs)))∨(T = "set"∧∃ S n,H p=some (.set S n))
 | _=>False
theorem HE {pins:List (Addr×Obj)}{σ:St}{H:Hp}{s:Shared}{T:String}{x:V}{v:Value} (I:Inv X pins σ H s) (r:RelV x v) (ty:tyV X.K T x H) :
  s.TypeIs v T∧∀ a,v=.ref a→∃ ob,s.heap.get? a=some ob∧ob.dict=none:=by
 cases x with
 | str z =>
  obtain⟨t,rfl⟩:=r
  cases(show T = "str" from ty)
  exact⟨typeIs_str s z t,fun _ e=>nomatch e⟩
 | int i =>
  obtain⟨t,rfl⟩:=r
  cases(show T = "int" from ty)
  exact⟨typeIs_int s i t,fun _ e=>nomatch e⟩
 | ref p =>
  cases r
  rcases ty with ⟨rfl,xs,hq⟩ | ⟨rfl,o,hk,hc,hd⟩ | ⟨rfl,hk⟩ | ⟨rfl,S,n,hk⟩
  ·obtain⟨its,_,pl,_⟩:=I.list hq
   refine⟨pl.isList.typeIs,fun a e=>?_⟩
   cases e
   obtain⟨o,n,e,c,hd,_⟩:=pl
   exact⟨o,e,hd⟩
  ·refine⟨⟨o,I.uZ p o hk,hc⟩,fun a e=>?_⟩
   cases e
   exact⟨o,I.uZ _ o hk,hd⟩
  ·have z:∃ o,s.heap.get? p=some o∧o.ExactDict:=by
    rcases hk with ⟨kvs,hk⟩ | ⟨kvs,hk⟩
    ·obtain⟨_,_,_,_,o,_,_,e,ex,_⟩:=I.hok p _ hk
     exact⟨o,e,ex⟩
    ·obtain⟨_,_,_,_,o,_,_,e,ex,_⟩:=I.hok p _ hk
     exact⟨o,e,ex⟩
   obtain⟨o,e,ex⟩:=z
   refine⟨⟨o,e,ex.1⟩,fun a e2=>?_⟩
   cases e2
   exact⟨o,e,ex.2.1⟩
  ·obtain⟨o,_,_,_,e,ex,_⟩:=I.hok p _ hk
   refine⟨⟨o,e,ex.1⟩,fun a e2=>?_⟩
   cases e2
   exact⟨o,e,ex.2.1⟩
 | _=>exact False.elim ty
def WD (K:W.Frag) (T:String) (r:V→List V→Hp→VK→Prop) (to:TE):TE:=fun σ H Q=>to σ H fun x H1=>tyV K T x H1∧r x [] H1 Q
def tBM (K:W.Frag) (T:String) (r:V→List V→Hp→VK→Prop) (to:TE) (t:TA):TE:=fun σ H Q=>to σ H fun x H1=>tyV K T x H1∧t σ H1 fun xs H2=>r x xs H2 Q
variable {o e:Expr}{es:List Expr}{to:TE}{t:TA}{name:Str}{apos cpos:Pos}{T id:String}{r:V→List V→Hp→VK→Prop}
theorem Sf (pa:PlainAttrs T) (slot:Slot T name id) (hty:typeOf (.builtin id)=pure (.type "method_descriptor")) (hm:R9 X id r) (ho:PE X o to)
  (hbase:attributeBase o name X.env (eval o X.env)=eval o X.env:=by rfl) (hline:(apos.endLine == cpos.line)=true:=by rfl):PE X (.Call (.Attribute o name apos) [] [] cpos) (WD X.K T r to):=by
 intro pins s σ H Q I h
 refine wpAny_Call_method0_late hbase hline (dQ (ho pins s σ H _ I h) fun v s1 ⟨x,H1,I1,r1,ty,q1⟩=>?_)
 obtain⟨h1,h2⟩:=HE I1 r1 ty
 exact⟨T,id,pa,slot,hty,h1,h2,Calls.callWith_builtin rfl (PySem.evalArgs_none (hm pins s1 σ H1 x [] v [] Q I1 r1 .nil q1))⟩
theorem WE (pa:PlainAttrs T) (slot:Slot T name id) (hty:typeOf (.builtin id)=pure (.type "method_descriptor")) (hm:R9 X id r) (ho:PE X o to) (ha:PA X (e :: es) t)
  (hbase:attributeBase o name X.env (eval o X.env)=eval o X.env:=by rfl)
  (hfew:((backTo cpos (starEach (e :: es) X.env)).all (fun x=>!x.1) && (backToKw cpos (keywordEach [] X.env)).all (fun x=>x.1.isSome)
   && decide ((e :: es).length+([]:List Keyword).length+(if ([]:List Keyword).isEmpty then 0 else 1) < 30))=true:=by rfl)
  (hline:(apos.endLine == cpos.line)=true:=by rfl) (hs:starEach (e :: es) X.env=(false,eval e X.env) :: starEach es X.env:=by rfl) (hplain:(backTo cpos (starEach es X.env)).any (·.1)=false:=by rfl) :
  PE X (.Call (.Attribute o name apos) (e :: es) [] cpos) (tBM X.K T r to t):=by
 intro pins s σ H Q I h
 refine wpAny_Call_method_late hbase hfew hline rfl (dQ (ho pins s σ H _ I h) fun v s1 ⟨x,H1,I1,r1,ty,q1⟩=>?_)
 obtain⟨h1,h2⟩:=HE I1 r1 ty
 refine⟨T,id,pa,slot,hty,h1,h2,?_⟩
 have hA:=ha cpos pins s1 σ H1 _ I1 q1
 rw[hs] at hA ⊢
 refine Calls.callWith_builtin (by show(false || (backTo cpos (starEach es X.env)).any (·.1))=false;rw[hplain] <;> rfl) (Calls.evalArgs_plain ?_)
 exact dQ hA fun us s2 ⟨vs,H2,I2,r2,q2⟩=>hm pins s2 σ H2 x vs v us Q I2 r1 r2 q2
end
def MtM (X:Cx) (id:String) (r:V→List V→Hp→VK→Prop):Prop :=
 ∀(pins:List (Addr×Obj)) (s:Shared) (σ:St) (H:Hp) (x:V) (xs:List V) (v:Value) (us:List Value) (Q:VK),Inv X pins σ H s→RelV x v→Vals xs us→r x xs H Q →
  wpAny (model X.prog X.w) X.A (call (.builtin id) (v :: us)) (EP X pins σ Q) X.xe s
theorem Vals.one:∀{x:V}{us:List Value},Vals [x] us→∃ u,us=[u]∧RelV x u
 | _,_,.cons r .nil=>⟨_,rfl,r⟩
theorem Vals.zero:∀{us:List Value},Vals [] us→us=[]
 | _,.nil=>rfl
theorem Vals.reverse {xs:List V}{us:List Value} (h:Vals xs us):Vals xs.reverse us.reverse:=by
 induction h with
 | nil=>exact .nil
 | cons r t ih=>rw[List.reverse_cons,List.reverse_cons];exact Vals.append ih (.cons r .nil)
section
variable {X:Cx}{pins:List (Addr×Obj)}{σ:St}{H:Hp}{s:Shared}{l b:Addr}{xs ys zs:List V}
theorem Inv.Sh {its its':List Value}{n:Nat}{f:Array Value→Array Value}{t':Nat} (I:Inv X pins σ H s) (hH:H l=some (.lst xs))
  (e:s.heap.get? l=some { cls:=.type "list",data:=.seq its.toArray n }) (hf:f its.toArray=its'.toArray) (hv:Vals ys its') (hz:ys.length≤sizeLine) :
  Inv X pins σ (upd H l (.lst ys)) { s with heap:=s.heap.update l (Obj.mapSeq f),toks:=t' }:=by
 have q:=PySem.IsL.update e f
 rw[hf] at q
 refine I.write (x:=l) (e:=l) (by rw[hH];exact trivial) (.inl rfl) (fun b' u hb hu=>(Heap.get?_update_other s.heap (Obj.mapSeq f) (Ne.symm hb)).trans hu) ⟨_,q⟩ ?_
 exact⟨hz,its',_,hv,q⟩
theorem Inv.WG {its:List Value}{t':Nat} (I:Inv X pins σ H s) (hv:Vals ys its) (hz:ys.length≤sizeLine) :
  Inv X pins σ (upd H s.heap.objs.size (.lst ys)) { s with heap:=s.heap.push { cls:=.type "list",data:=.seq its.toArray },toks:=t' } :=
 I.laid (fun _ _ q=>Heap.get?_push_of_some _ q) (Nat.le_refl _) ⟨hz,its,0,hv,Heap.get?_push_size _ rfl⟩
theorem Inv.fresh (I:Inv X pins σ H s):H s.heap.objs.size=none:=I.hok.fresh (Nat.le_refl _)
theorem Inv.KA (I:Inv X pins σ H s) (hH:H l=some (.lst xs)):xs.length≤sizeLine∧∃(its:List Value) (n:Nat),Vals xs its∧xs.length=its.length∧s.heap.get? l=some { cls:=.type "list",data:=.seq its.toArray n }:=by
 obtain⟨z,its,n,r,e⟩:=I.hok l _ hH
 exact⟨z,its,n,r,r.length,e⟩
theorem MH {n:Nat} (h:n≤sizeLine):Builtin.List.listTooLong n=false:=by
 unfold Builtin.List.listTooLong
 exact decide_eq_false (by omega)
end
section
variable {X:Cx}
def Pq:V→List V→Hp→VK→Prop:=fun x vs H Q=>∃ l xs y,x=.ref l∧vs=[y]∧H l=some (.lst xs)∧xs.length < sizeLine∧Q .non (upd H l (.lst (xs++[y])))
theorem cF:MtM X "list.append" Pq:=by
 intro pins s σ H x vs v us Q I rx rv h
 obtain⟨l,xs,y,rfl,rfl,hH,hz,q⟩:=h
 cases rx
 obtain⟨u,rfl,ru⟩:=rv.one
 obtain⟨z,its,n,r,hl,e⟩:=I.KA hH
 refine call_meets F.slot_list_append ⟨_,e,rfl⟩ F.entry_list_append (F.args_list_append_2 _ _) (PySem.list_append l its.toArray n u (by rw[List.size_toArray];omega)) ⟨e,?_⟩
 refine⟨.non,_,I.Sh (its':=its++[u]) hH e (by simp) (r.append (.cons ru .nil)) ?_,rfl,q⟩
 rw[List.length_append,List.length_singleton]
 omega
def Pr:V→List V→Hp→VK→Prop:=fun x vs H Q=>∃ l b xs zs,x=.ref l∧vs=[.ref b]∧H l=some (.lst xs)∧H b=some (.lst zs)∧xs.length+zs.length≤sizeLine∧Q .non (upd H l (.lst (xs++zs)))
theorem Cp:MtM X "list.extend" Pr:=by
 intro pins s σ H x vs v us Q I rx rv h
 obtain⟨l,b,xs,zs,rfl,rfl,hH,hB,hz,q⟩:=h
 cases rx
 obtain⟨u,rfl,ru⟩:=rv.one
 cases ru
 obtain⟨z,its,n,r,hl,e⟩:=I.KA hH
 obtain⟨z2,its2,n2,r2,hl2,e2⟩:=I.KA hB
 have hsz:its.toArray.size+its2.toArray.size≤sizeLine:=by rw[List.size_toArray,List.size_toArray];omega
 have WH:¬(!its.toArray.isEmpty && Builtin.List.listTooLong (its.toArray.size+its2.toArray.size))=true:=by
  rw[MH hsz,Bool.and_false]
  exact Bool.false_ne_true
 refine call_meets F.slot_list_extend ⟨_,e,rfl⟩ F.entry_list_extend (F.args_list_extend_2 _ _)
  (AutoSeq1.list_extend_list_list_0 l its.toArray n b its2.toArray n2 WH (by rw[List.size_toArray];omega) (by omega)) ⟨e,e2,?_⟩
 refine⟨.non,_,I.Sh (its':=its++its2) hH e (by simp) (r.append r2) ?_,rfl,q⟩
 rw[List.length_append]
 omega
def Si:V→List V→Hp→VK→Prop:=fun x vs H Q=>∃ l xs,x=.ref l∧vs=[]∧H l=some (.lst xs)∧Q .non (upd H l (.lst []))
theorem MI:MtM X "list.clear" Si:=by
 intro pins s σ H x vs v us Q I rx rv h
 obtain⟨l,xs,rfl,rfl,hH,q⟩:=h
 cases rx
 have Sj:=rv.zero
 subst Sj
 obtain⟨z,its,n,r,hl,e⟩:=I.KA hH
 refine call_meets F.slot_list_clear ⟨_,e,rfl⟩ F.entry_list_clear (F.args_list_clear_1 _) (AutoSeq1.list_clear_list_0 l its.toArray n (by rw[List.size_toArray];omega)) ⟨e,?_⟩
 exact⟨.non,_,I.Sh (its':=[]) (ys:=[]) hH e rfl .nil (Nat.zero_le _),rfl,q⟩
def adu:R2:=fun x y H Q=>∃ l b xs zs,x=.ref l∧y=.ref b∧H l=some (.lst xs)∧H b=some (.lst zs)∧xs.length+zs.length≤sizeLine∧∀ p,H p=none→Q (.ref p) (upd H p (.lst (xs++zs)))
theorem MJ:o8 X (binaryOp .Add) adu:=by
 intro pins s σ H x y v u Q I rx ry h
 obtain⟨l,b,xs,zs,rfl,rfl,hH,hB,hz,q⟩:=h
 cases rx
 cases ry
 obtain⟨z,its,n,r,hl,e⟩:=I.KA hH
 obtain⟨z2,its2,n2,r2,hl2,e2⟩:=I.KA hB
 refine PySem.P.add_list e e2 ?_ (by rw[List.size_toArray,List.size_toArray];omega)
 have ea:its.toArray++its2.toArray=(its++its2).toArray:=by simp
 rw[ea]
 exact⟨.ref _,_,I.WG (t':=s.toks) (r.append r2) (by rw[List.length_append];omega),rfl,q _ I.fresh⟩
end
section
variable {prog:Program}{w:World}{A:Around}{E:Value→Shared→Prop}{s:Shared}
set_option maxRecDepth 100000 in
end
section
variable {X:Cx}
end
end L2
namespace Att
open PySem PySem.W PySem.Calls PyProof.Rows
theorem yE {P:Params}{h:Heap}:∀(ns:List Int) (vs:List Value),WellAll P h vs (ns.map WData.int)→IntsAre vs ns:=by
 intro ns
 induction ns with
 | nil =>
  intro vs w
  rw[List.map_nil] at w
  cases w
  exact .nil
 | cons n ns ih =>
  intro vs w
  rw[List.map_cons] at w
  cases w with
  | cons a b =>
   cases a
   exact .cons _ _ (ih _ b)
theorem KC {l:OpenLaw}{n:Nat} (hn:l.most=some n) {P:Params}{h:Heap}{args:List WData}{vals:List Value}
  (hpre:l.row.toRowW.claim.pre args=true) (hwl:WellAll P h vals args) :
  ∃ a vs ns,vals=[Value.ref a]∧args=[WData.list (ns.map WData.int)]∧h.get? a=some { cls:=.type "list",data:=.seq vs.toArray }∧IntsAre vs ns∧ns.length≤n:=by
 have hsh:WShape.hasAll [] args [.list .int]=true:=(pre_splitW hpre).1
 have hc:l.pre.holds [] { args:=args }=true:=(pre_splitW hpre).2
 obtain⟨d,r,rfl,h1,h2⟩:=hasAllW_cons hsh
 obtain rfl:=hasAllW_nil h2
 obtain⟨xs,rfl,h3⟩:=hasW_list h1
 obtain⟨ns,rfl⟩:=items_int h3
 have hlen:ns.length≤n:=by
  unfold OpenLaw.pre at hc
  have h4:(WTm.not (.lt (.lit (.int (n:Int))) (.len (.arg 0)))).holds [] { args:=[.list (ns.map .int)] }=true:=by
   have h4:=(holds_andW hc).1
   rw[hn] at h4
   exact h4
  have h5:=condW_of h4 (w_not (w_lt w_lit (w_len_list (w_arg rfl))))
  rw[List.length_map] at h5
  refine Nat.le_of_not_lt fun q=>?_
  have q':(n:Int) < ((ns.length:Nat):Int):=by omega
  first
   | (rw[decide_eq_true q'] at h5;exact absurd h5 (by decide))
   | (simp at h5;omega)
 cases hwl with
 | cons w1 w2 =>
  cases w2
  cases w1 with
  | list ho hall=>exact⟨_,_,ns,rfl,rfl,ho,yE ns _ hall,hlen⟩
theorem KD (l:OpenLaw) (args:List WData):l.row.toRowW.claim.post args (.bool true) args=true :=
 postW_of (r:=l.row.toRowW) (X:=(true == true))
  (show WShape.has [] (.bool true) .bool=true by first | rfl | decide | simp[WShape.has,WShape.arms,WShape.armsAll])
  (show(WTm.eq .res (.lit (.bool true))).value [] { args:=args,res:=some (.bool true),after:=args }=some (.bool (true == true)) from w_eq_bool (w_res rfl) w_lit) rfl
theorem ET {l:OpenLaw}{n:Nat}{q:Program}{loose:List Str}{XP:(Str→Option Value)→Heap→Prop}{YP:World→Heap→Prop}{d:DefRec}
  (hn:l.most=some n) (hdf:d.params.defaults=[])
  (call:∀(w:World) (s₀ s₁:Shared) (mg mb:Str→Option Value) (fa:Addr) (o:Obj) (pm cd doc:Value) (a:Addr) (vs:List Value) (ns:List Int),
   Ground q loose [] XP w s₀ mg mb s₁.heap→YP w s₁.heap →
   s₁.heap.get? fa=some o→o.data=.func (docDef d.name d.params d.body d.scope pm cd doc)→s₁.heap.CodeRec cd d.name→mg d.name=some (.ref fa) →
   s₁.heap.get? a=some { cls:=.type "list",data:=.seq vs.toArray }→IntsAre vs ns→ns.length≤n→s₁.gens = #[] →
   codeAny (model l.prog w) callerA (.call (.ref fa) ⟨[.ref a],[]⟩) (fun r s'=>r=.ok (.ret (.bool true))∧OldK s₁.heap s'.heap∧s'.os=s₁.os∧AllBare s'.gens) s₁) :
  WalkO q loose XP YP l.row.toRowW d [] (fun f vs=>PySem.call f vs):=by
 intro w s₀ s₁ mg mb G Y fa o pm cd doc dV kV ho hd hcd hD hmg hg args vals as hpre hlay hrd hwl hlo
 obtain rfl:dV=.none:=Dflts.none hD hdf
 obtain rfl:kV=.none:=Dflts.noKw hD
 obtain⟨a,vs,ns,rfl,rfl,hobj,hints,hlen⟩:=KC hn hpre hwl
 refine enter_call (codeAny_mono (call w s₀ s₁ mg mb fa o pm cd doc a vs ns G Y ho (fd_plain hd) hcd hmg hobj hints hlen hg) fun r s' hq=>?_)
 obtain⟨rfl,h2,h3,h4⟩:=hq
 exact⟨.inl ⟨.bool true,.bool true,[],rfl,fun _=>rfl,.bool true,KD l _,fun _=>⟨List.Pairwise.nil,fun _ hm=>(nomatch hm)⟩⟩,h2,h3,h4⟩
section
variable {prog:Program}{w:World}{A:Around}{E:Value→Shared→Prop}{s:Shared}{K:Frag}
end
end Att
namespace L2
open PySem PySem.Spec PyProof.Rows
theorem Cq:∀{vs:List Value}{ns:List Int},IntsAre vs ns→Vals (ns.map V.int) vs
 | _,_,.nil=>.nil
 | _,_,.cons n t h=>.cons ⟨t,rfl⟩ (Cq h)
def Sk (H:Hp):Prop:=∀ b,H b=none∨∃ o xs,H b=some (.JF o (.lst xs))
theorem MK {P:Program}{w:World}{K:W.Frag}{mg mb:Str→Option Value}{CX:L1}{k:Nat}{fa a:Addr}{fd:FuncData}{x:Str}{sp:Sp}{s₁:Shared}{vs:List Value}{ns:List Int}
  (KX:K.In s₁.heap) (hns:s₁.heap.Ns mainGlobals mg) (hb:s₁.heap.Ns builtinsNs mb) (hbb:∀ x:Str,x ≠ "__name__"→mb x=bootBuiltins x) (hlim:s₁.heap.NoLimit) (hg:s₁.gens = #[])
  (ha:s₁.heap.get? a=some { cls:=.type "list",data:=.seq vs.toArray }) (hi:IntsAre vs ns) (hl:ns.length≤sizeLine) (hr:i8 k callerA)
  (F:∀ base:Heap,K.In base→base.Ns mainGlobals mg→aJ P w K mg base CX k fa fd [x] sp) (hbind:∀(s:Shared) (u:Value),BindsTo s fd ⟨[u],[]⟩ [(x,u)])
  (OW:∀ H:Hp,Sk H→aU K H a (ns.map V.int)→sp [.ref a] H (fun v _=>v=.bl true) fun _ _ _=>False)
  (hCX:∀ H e s',CX [] H s₁ (fun _ _ _=>False) e s'→False) :
  codeAny (model P w) callerA (.call (.ref fa) ⟨[.ref a],[]⟩) (fun r s'=>r=.ok (.ret (.bool true))∧OldK s₁.heap s'.heap∧s'.os=s₁.os∧AllBare s'.gens) s₁:=by
 have rv:=Cq hi
 have adv:=hi.length
 have core:∀ H:Hp,Sk H→aU K H a (ns.map V.int)→zC P w H s₁.heap→(∀ b,H b≠none→b=a)→(H a≠none→K.lookup a=none) →
   codeAny (model P w) callerA (.call (.ref fa) ⟨[.ref a],[]⟩) (fun r s'=>r=.ok (.ret (.bool true))∧OldK s₁.heap s'.heap∧s'.os=s₁.os∧AllBare s'.gens) s₁:=by
  intro H hO hS hok hA hK
  have JQ:∀{b:Addr}{o:Obj},s₁.heap.get? b=some o→H b=none→(Di s₁.heap H).get? b=some o:=fun e n=>Ml e n
  have Wx:∀{b:Addr}{o:Obj}{es:Array DictEntry}{ep:Nat},s₁.heap.get? b=some o→o.data=.dict es ep→H b=none:=fun {b o es ep} e d=>by
   cases q:H b with
   | none=>rfl
   | some u =>
    have e':b=a:=hA b (by rw[q];simp)
    subst e'
    rw[ha] at e;cases e
    have d':Data.seq vs.toArray _=Data.dict es ep:=d
    cases d'
  have nsK:∀{b:Addr}{m:Str→Option Value},s₁.heap.Ns b m→(Di s₁.heap H).Ns b m:=fun {b m} ⟨o,es,ep,e,d,r⟩=>⟨o,es,ep,JQ e (Wx e d),d,r⟩
  have hKb:K.In (Di s₁.heap H):=fun b o e=>JQ (KX b o e) (by
   cases q:H b with
   | none=>rfl
   | some u =>
    have e':b=a:=hA b (by rw[q];simp)
    subst e'
    rw[hK (by rw[q];simp)] at e;cases e)
  have hM:Mod K mg (Di s₁.heap H):=⟨hKb,nsK hns,⟨mb,nsK hb,hbb⟩,let ⟨mc,h1,h2⟩:=hlim;⟨mc,nsK h1,h2⟩⟩
  have e0:Hs P w K mg (Di s₁.heap H) callerA [] s₁ H:=⟨rfl,hM,fun b o e=>O2 e,Nat.le_of_eq (Kq _ _),trivial,fun b hb=>absurd (show b∈([]:List Addr) from hb) (by simp),hok,.of_eq hg⟩
  refine codeAny_mono ((F _ hKb (nsK hns)).run callerA [] s₁ H ⟨[.ref a],[]⟩ [.ref a] [.ref a] _ _ hr e0 (hbind s₁ (.ref a)) (.cons rfl .nil) (OW H hO hS)) fun r s' h=>?_
  cases r with
  | error e=>exact(hCX H e s' h).elim
  | ok fl =>
   cases fl with
   | next=>exact False.elim h
   | brk=>exact False.elim h
   | cont=>exact False.elim h
   | ret u =>
    obtain⟨v,H',os,bare,un,adw,r',q⟩:=h
    have q':v=.bl true:=q
    subst q'
    obtain rfl:u=Value.bool true:=r'
    refine⟨rfl,OldK.of_keep fun b o e=>?_,os,bare⟩
    cases q:H b with
    | none=>exact un.keep b o e q (by intro z;exact absurd (show b∈([]:List Addr) from z) (by simp)) (by simp)
    | some u =>
     rcases hO b with z | ⟨ob,xs,z⟩
     ·rw[q] at z;cases z
     ·have z2:=un.Dh b ob _ z
      obtain⟨e1,_⟩:=hok b _ z
      obtain⟨e2,_⟩:=adw b _ z2
      rw[e] at e1;cases e1
      exact e2
 cases hk:K.lookup a with
 | some o =>
  have e:=KX a o hk
  rw[ha] at e
  cases e
  refine core (fun _=>none) (fun _=>.inl rfl) (.inr ⟨_,vs.toArray,_,hk,rfl,rfl,rfl,by rw[List.size_toArray,adv];exact hl,by simpa using rv⟩) (fun b u z=>by have z':(none:Option HO)=some u:=z;cases z') (fun b z=>absurd rfl z) fun z=>absurd rfl z
 | none =>
  refine core (fun b=>if b=a then some (.JF { cls:=.type "list",data:=.seq vs.toArray } (.lst (ns.map V.int))) else none) (fun b=>?_) (.inl (.inr ⟨{ cls:=.type "list",data:=.seq vs.toArray },if_pos rfl⟩)) (fun b u z=>?_) (fun b z=>?_) fun _=>hk
  ·by_cases hb:b=a
   ·exact .inr ⟨_,_,if_pos hb⟩
   ·exact .inl (if_neg hb)
  ·by_cases hb:b=a
   ·have z':=(if_pos hb).symm.trans z
    cases z'
    subst hb
    exact⟨ha,by rw[List.length_map];exact hl,vs,_,rv,ha⟩
   ·have z':=(if_neg hb).symm.trans z
    cases z'
  ·by_cases hb:b=a
   ·exact hb
   ·exact absurd (if_neg hb) z
theorem Pu {l:W.OpenLaw}{n k:Nat}{q:Program}{loose:List Str}{XP:(Str→Option Value)→Heap→Prop}{YP:World→Heap→Prop}{d:DefRec}{K:Params→W.Frag}{CX:World→L1}{sp:World→Sp}{x:Str}
  (hn:l.most=some n) (hn2:n≤sizeLine) (hdf:d.params.defaults=[]) (hr:i8 k callerA)
  (hY:∀(w:World) (h:Heap),YP w h→(K w.params).In h)
  (F:∀(w:World) (mg:Str→Option Value) (fa:Addr) (h:Heap),(K w.params).In h→h.Ns mainGlobals mg→mg d.name=some (.ref fa) →
   ∃ fd:FuncData,(∀(s:Shared) (u:Value),BindsTo s fd ⟨[u],[]⟩ [(x,u)]) ∧
    ∀ base:Heap,(K w.params).In base→base.Ns mainGlobals mg→aJ l.prog w (K w.params) mg base (CX w) k fa fd [x] (sp w))
  (OW:∀(w:World) (H:Hp) (a:Addr) (ns:List Int),ns.length≤n→Sk H→aU (K w.params) H a (ns.map V.int)→sp w [.ref a] H (fun v _=>v=.bl true) fun _ _ _=>False)
  (hCX:∀(w:World) (H:Hp) (s:Shared) (e:Value) (s':Shared),CX w [] H s (fun _ _ _=>False) e s'→False) :
  W.WalkO q loose XP YP l.row.toRowW d [] (fun f vs=>PySem.call f vs):=by
 refine Att.ET hn hdf fun w s₀ s₁ mg mb fa o pm cd doc a vs ns G Y ho hd hcd hmg hobj hints hlen hg=>?_
 have KX:=hY w _ Y
 obtain⟨fd,hb,hF⟩:=F w mg fa _ KX G.T.g hmg
 exact MK KX G.T.g G.T.b G.T.builtins G.T.nolimit hg hobj hints (Nat.le_trans hlen hn2) hr hF hb (fun H hO hS=>OW w H a ns hlen hO hS) fun H e s'=>hCX w H s₁ e s'
def inClass (s:Stmt) (j:Nat):Stmt:=match s with
 | .ClassDef _ _ _ body _ _ _ _ _ _ _=>body.getD j (.Pass ⟨0,0,0,0⟩)
 | _=>.Pass ⟨0,0,0,0⟩
def dY (s:Stmt):Arguments:=match s with
 | .FunctionDef _ a _ _ _ _ _ _ _ _=>a
 | _=>{ posonlyargs:=[],args:=[],vararg:=none,kwonlyargs:=[],kw_defaults:=[],kwarg:=none,defaults:=[] }
def cY (s:Stmt):List Stmt:=match s with
 | .FunctionDef _ _ b _ _ _ _ _ _ _=>b
 | _=>[]
def av (s:Stmt):Scope:=match s with
 | .FunctionDef _ _ _ _ _ _ sc _ _ _=>sc
 | _=>{ kind:=.function,names:=[],isGenerator:=false,isCoroutine:=false }
abbrev bG:L1:=fun _ _ _ _ _ _=>False
abbrev E0:XK:=fun _ _ _=>False
theorem jy {X:Cx}:Passes bG X E0:=fun _ _ _ _ _ _ _ h=>h.elim
structure fW (K:W.Frag) (x qual:Str) (st:Stmt) (f:Addr) (fd:FuncData):Prop where
 ex:∃(oc:Value) (od:Option Addr) (kV doc pm:Value) (an:Option Addr) (cdv ct:Value) (osl:Array (Option Value)),
  fd=W.fnOf x qual (dY st) (cY st) (av st) .none kV doc pm an cdv ct∧K.lookup f=some ⟨oc,od,.func fd,osl⟩∧W.codeIn K cdv qual=true
 kp:W.keepIn K (.ref f)=true
section
variable {P:Program}{w:World}{K:W.Frag}{mg:Str→Option Value}{base:Heap}
theorem fW.ok {x qual:Str}{st:Stmt}{f:Addr}{fd:FuncData}{N ps:List Str}{k:Nat}{sp:Sp} (F:fW K x qual st f fd) (S:aF N ps (av st)) (len:∀ vs H Q E,sp vs H Q E→vs.length=ps.length)
  (hbody:∀(cdv:Value) (A:Around) (outer:List Env) (s:Shared) (H:Hp) (vs:List V) (Q:VK) (E:XK),i8 k (A.deeper (envOfC qual (av st) s.heap.objs.size f cdv))→sp vs H Q E →
   ∃ t,JI (Hu bG P w K mg base N qual (av st) f cdv A outer s H E).Vy (cY st) t∧t { nx:=fun _ H'=>Q .non H',rt:=Q } (start N vs) H):aJ P w K mg base bG (k+1) f fd ps sp:=by
 obtain⟨oc,od,kV,doc,pm,an,cdv,ct,osl,rfl,lk,hcd⟩:=F.ex
 refine Rj lk hcd S len fun A outer s H vs Q E hr OW=>?_
 obtain⟨t,h,q⟩:=hbody cdv A outer s H vs Q E hr OW
 exact⟨t,h.Vy,q⟩
theorem fW.binds {x qual:Str}{st:Stmt}{f:Addr}{fd:FuncData}{ps:List Str} (F:fW K x qual st f fd)
  (h:∀(kV doc pm:Value) (an:Option Addr) (cdv ct:Value) (us:List Value),us.length=ps.length→bindArgs (W.fnOf x qual (dY st) (cY st) (av st) .none kV doc pm an cdv ct) ⟨us,[]⟩=pure (ps.zip us)):Binds K fd ps []:=by
 obtain⟨oc,od,kV,doc,pm,an,cdv,ct,osl,rfl,lk,hcd⟩:=F.ex
 exact .all (h kV doc pm an cdv ct)
theorem aR {x qual:Str}{st:Stmt}{f:Addr}{oc:Value}{od an:Option Addr}{osl:Array (Option Value)}{kV doc pm cdv ct:Value} (l:K.lookup f=some ⟨oc,od,.func (W.fnOf x qual (dY st) (cY st) (av st) .none kV doc pm an cdv ct),osl⟩)
 (c:W.codeIn K cdv qual=true) (k:W.keepIn K (.ref f)=true):fW K x qual st f (W.fnOf x qual (dY st) (cY st) (av st) .none kV doc pm an cdv ct):=⟨⟨oc,od,kV,doc,pm,an,cdv,ct,osl,rfl,l,c⟩,k⟩
end
theorem bg {A:Around}{k:Nat} (hr:i8 k A):A.units+1 < cLine:=Nat.lt_of_le_of_lt (Nat.add_le_add_left (by decide:1≤64) _) hr.units
section
variable {X:Cx}
theorem pv (i:Nat) {x:Str}{pos:Pos} (hN:X.N[i]? = some x:=by rfl) (hv:Vis X.env.scope x:=by first | exact Or.inl rfl | exact Or.inr (Or.inl rfl) | exact Or.inr (Or.inr rfl)) (hd:(x == ("__debug__" : Str))=false:=by decide)
 (hcd:(x == ("__classdict__" : Str))=false:=by decide):PE X (.Name x pos) (Wc i):=RQ hN hv hd hcd
end
theorem cz {A B:Prop} (h:B):if false=true then A else B:=by
 rw[if_neg Bool.false_ne_true]
 exact h
theorem n8 {A B:Prop} (h:A):if true=true then A else B:=by
 rw[if_pos rfl]
 exact h
theorem bu {c A B:Prop} [Decidable c] (h1:c→A) (h2:¬c→B):if c then A else B:=by
 by_cases h:c
 ·rw[if_pos h]
  exact h1 h
 ·rw[if_neg h]
  exact h2 h
theorem WI {c A B:Prop} [Decidable c] (hc:c) (h:B):if (!decide c)=true then A else B:=by
 rw[decide_eq_true hc]
 exact cz h
def aD (H H':Hp):Prop:=∀ b o,H b=some o→H' b=some o
theorem aD.refl (H:Hp):aD H H:=fun _ _ h=>h
theorem aD.trans {H H1 H2:Hp} (a:aD H H1) (b:aD H1 H2):aD H H2:=fun c o h=>b c o (a c o h)
theorem aD.free {H H':Hp} (e:aD H H') {l:Addr} (h:H' l=Option.none):H l=Option.none:=by
 cases q:H l with
 | none=>rfl
 | some o =>
  rw[e l o q] at h
  cases h
theorem aD.seq {K:W.Frag}{H H':Hp}{a:Addr}{xs:List V} (e:aD H H') (h:aU K H a xs):aU K H' a xs:=by
 rcases h with (h | ⟨o,h⟩) | h
 ·exact .inl (.inl (e _ _ h))
 ·exact .inl (.inr ⟨o,e _ _ h⟩)
 ·exact .inr h
end L2
set_option maxHeartbeats 4000000
namespace L2
open PySem PySem.Spec PyProof.Rows
def jG (env:Env):List (Str×NameKind)→List (Str×Addr)→List (Str×Addr)
 | [],cs=>cs
 | (n,k) :: r,cs=>jG env r (if k == .free then (n,(env.cells.lookup n).getD 0) :: cs else cs)
theorem tF {scope:Scope}{env:Env} (h:∀ n,(n,NameKind.free)∈scope.names→∃ c,env.cells.lookup n=some c) :
  closureFor scope env=pure (jG env scope.names []):=by
 simp only[closureFor]
 have key:∀(l:List (Str×NameKind)) (cs:List (Str×Addr)),(∀ n,(n,NameKind.free)∈l→∃ c,env.cells.lookup n=some c) →
   (forIn l cs (fun x r=>if (x.2 == NameKind.free)=true then (cellOf env x.1 >>= fun a=>pure (ForInStep.yield ((x.1,a) :: r))) else pure (ForInStep.yield r)):Sem (List (Str×Addr)))=pure (jG env l cs):=by
  intro l
  induction l with
  | nil=>intro cs _;rfl
  | cons x l ih =>
   intro cs hl
   obtain⟨n,k⟩:=x
   have hl':∀ n,(n,NameKind.free)∈l→∃ c,env.cells.lookup n=some c:=fun n hn=>hl n (List.mem_cons_of_mem _ hn)
   rw[List.forIn_cons]
   by_cases hk:k=.free
   ·subst hk
    obtain⟨c,hc⟩:=hl n List.mem_cons_self
    have e1:cellOf env n=pure c:=by unfold cellOf;rw[hc]
    simp only[beq_self_eq_true,if_true,e1,pure_bind]
    rw[ih _ hl']
    simp only[jG,beq_self_eq_true,if_true,hc,Option.getD_some]
   ·have hb:(k == NameKind.free)=false:=by simpa using hk
    simp only[hb,Bool.false_eq_true,if_false,pure_bind]
    rw[ih _ hl']
    simp only[jG,hb,Bool.false_eq_true,if_false]
 exact(congrArg (fun z=>z >>= fun r=>pure r) (key scope.names [] h)).trans rfl
theorem uv {env:Env}:∀(l:List (Str×NameKind)) (cs:List (Str×Addr)),(∀ n,(n,NameKind.free)∈l→∃ c,env.cells.lookup n=some c)→(∀ x c,cs.lookup x=some c→env.cells.lookup x=some c) →
  ∀ x c,(jG env l cs).lookup x=some c→env.cells.lookup x=some c
 | [],cs,_,h,x,c,e=>h x c e
 | (n,k) :: r,cs,hl,h,x,c,e=>by
  refine uv r _ (fun n hn=>hl n (List.mem_cons_of_mem _ hn)) ?_ x c e
  intro y d hy
  by_cases hk:(k == NameKind.free)=true
  ·rw[if_pos hk] at hy
   have hk':k=.free:=by simpa using hk
   subst hk'
   obtain⟨c',hc'⟩:=hl n List.mem_cons_self
   rw[hc',Option.getD_some,List.lookup_cons] at hy
   cases hyn:y == n with
   | true =>
    rw[hyn] at hy
    have:y=n:=by simpa using hyn
    subst this
    rw[hc'];exact hy
   | false=>rw[hyn] at hy;exact h y d hy
  ·rw[if_neg hk] at hy;exact h y d hy
theorem qJ {env:Env}:∀(l:List (Str×NameKind)) (cs:List (Str×Addr)) (x:Str),((x,NameKind.free)∈l∨∃ c,cs.lookup x=some c)→∃ c,(jG env l cs).lookup x=some c
 | [],cs,x,h=>by
  rcases h with h | h
  ·cases h
  ·exact h
 | (n,k) :: r,cs,x,h=>by
  refine qJ r _ x ?_
  rcases h with h | ⟨c,h⟩
  ·rcases List.mem_cons.mp h with e | h
   ·cases e
    refine .inr ⟨(env.cells.lookup n).getD 0,?_⟩
    simp[List.lookup_cons]
   ·exact .inl h
  ·right
   by_cases hk:(k == NameKind.free)=true
   ·rw[if_pos hk,List.lookup_cons]
    cases x == n with
    | true=>exact⟨_,rfl⟩
    | false=>exact⟨c,h⟩
   ·rw[if_neg hk];exact⟨c,h⟩
theorem lX {env:Env} (x:Str):∀(names:List (Str×NameKind)),
  (names.map fun (n,k)=>if (k == NameKind.free && env.scope.kind == .function && env.kindOf n == some .cell) then (n,NameKind.cell) else (n,k)).lookup x =
   (names.lookup x).map fun k=>if (k == NameKind.free && env.scope.kind == .function && env.kindOf x == some .cell) then NameKind.cell else k
 | []=>rfl
 | (n,k) :: r=>by
  have ih:=lX (env:=env) x r
  show List.lookup x ((if (k == NameKind.free && env.scope.kind == .function && env.kindOf n == some .cell)=true then (n,NameKind.cell) else (n,k)) :: _)=_
  cases hx:x == n with
  | true =>
   have e:x=n:=by simpa using hx
   subst e
   by_cases hc:(k == NameKind.free && env.scope.kind == .function && env.kindOf x == some .cell)=true
   ·rw[if_pos hc];simp only[List.lookup_cons,beq_self_eq_true,Option.map_some,if_pos hc]
   ·rw[if_neg hc];simp only[List.lookup_cons,beq_self_eq_true,Option.map_some,if_neg hc]
  | false =>
   by_cases hc:(k == NameKind.free && env.scope.kind == .function && env.kindOf n == some .cell)=true
   ·rw[if_pos hc];simp only[List.lookup_cons,hx];exact ih
   ·rw[if_neg hc];simp only[List.lookup_cons,hx];exact ih
structure br (XN:List Str) (VD:Scope) (N:List Str) (nv:Nat) (js:List Nat) (scope:Scope):Prop where
 kind:scope.kind=.function
 cell:∀ y∈scope.names,y.2≠.cell
 loc:∀ y∈scope.names,y.2=.local→scope.names.lookup y.1=some .local
 free:∀ y∈scope.names,y.2=.free→(VD.names.lookup y.1=some .cell∨VD.names.lookup y.1=some .free)
 nd:N.Nodup
 len:N.length=nv+js.length
 pl:js.map (fun j=>XN[j]?)=(N.drop nv).map some
 fr:∀ x∈N.drop nv,scope.names.lookup x=some .free
abbrev lY (X:Cx) (N:List Str) (scope:Scope) (C:Addr) (s:Shared) (H:Hp) (fp:List Addr):Cx where
 prog:=X.prog
 w:=X.w
 K:=X.K
 mg:=X.mg
 base:=X.base
 A:=X.A
 N:=N
 s₀:=s
 H₀:=H
 env:=compEnvC scope (jG X.env scope.names []) C X.env
 outer:=X.stack
 stack:=X.stack
 ex:=fp
 fn:=fun _=>false
 calm:=X.calm
 pn:=[]
 xe:=fun _ _=>False
def xo (nv:Nat) (js:List Nat) (σ:St):St:=List.replicate nv none++js.map fun j=>(σ[j]?).getD none
section
variable {X:Cx}{pins:List (Addr×Obj)}{σ:St}{H:Hp}{s:Shared}
theorem HF {N:List Str}{nv:Nat}{js:List Nat}{scope:Scope}{fp:List Addr}{h1:Heap}{tk:Nat} (I:Inv X pins σ H s) (S:br X.N X.env.scope N nv js scope) (hf:∀ b∈fp,ur X pins H b) (hfl:∀ b∈fp,b < s.heap.objs.size)
  (keep:∀ b o,s.heap.get? b=some o→h1.get? b=some o) (ns:h1.Ns s.heap.objs.size fun _=>none) :
  Inv (lY X N scope s.heap.objs.size s H fp) [] (xo nv js σ) H { s with heap:=h1,toks:=tk }:=by
 have hfr:∀ n,(n,NameKind.free)∈scope.names→∃ c,X.env.cells.lookup n=some c:=fun n hn=>I.ok.has n (S.free _ hn rfl)
 have sub:∀ x c,(jG X.env scope.names []).lookup x=some c→X.env.cells.lookup x=some c:=uv scope.names [] hfr (fun x c z=>by cases z)
 have Sl:∀ x,scope.names.lookup x≠some .cell:=fun x z=>S.cell _ (PySem.mem_of_lookup z) rfl
 have adx:∀ x,(relabel scope X.env).names.lookup x=some .cell∨(relabel scope X.env).names.lookup x=some .free→scope.names.lookup x=some .free:=by
  intro x hx
  have e:=lX (env:=X.env) x scope.names
  have hx':(relabel scope X.env).names.lookup x=_:=e
  rw[hx'] at hx
  cases q:scope.names.lookup x with
  | none=>rw[q] at hx;rcases hx with hx | hx <;> cases hx
  | some k =>
   rw[q,Option.map_some] at hx
   cases k <;> first | rfl | (exact absurd q (Sl x)) | (exfalso;rcases hx with hx | hx <;> simp at hx)
 refine⟨⟨I.ok.mod,S.kind,I.ok.glob,I.ok.blt,Nat.le_refl _,fun x y c h1 h2=>I.ok.inj x y c (sub _ _ h1) (sub _ _ h2),fun x hx=>?_,fun x c z=>(by cases z),I.ok.hd,I.ok.frames,.inl rfl,fun b hb=>?_,fun b o e=>?_,?_,fun b o e hb=>?_,fun b hb z=>?_,I.stack,I.JG⟩,
  rfl,I.bare,Un.kept keep,⟨_,ns,fun i x v e1 e2 e3=>?_⟩,fun x c e=>?_,I.hok.fresh (Nat.le_refl _),fun x c e=>I.tE x c (sub _ _ e),fun p hp=>absurd (show p∈([]:List (Addr×Obj)) from hp) (by simp),I.hok.kept keep,?_⟩
 ·exact qJ _ _ _ (.inl (PySem.mem_of_lookup (adx x hx)))
 ·obtain⟨f0,f1,f2,f3,f4,f5⟩:=hf b hb
  exact⟨Nat.ne_of_lt (hfl b hb),fun x c e=>f4 x c (sub x c e)⟩
 ·exact I.bs b o e
 ·exact Nat.le_trans I.ok.O4 I.sz
 ·obtain⟨f0,f1,f2,f3,f4,f5⟩:=hf b hb
  rcases f3 with z | z
  ·exact I.ok.Mm b o e z
  ·exact absurd (Nat.lt_of_lt_of_le (Heap.lt_size e) (Nat.le_trans I.ok.O4 z)) (Nat.lt_irrefl _)
 ·obtain⟨f0,f1,f2,f3,f4,f5⟩:=hf b hb
  rcases List.mem_cons.mp (I.Dj b z) with q | q
  ·exact f1 q
  ·exact f2 q
 ·
  have hi:¬i < nv:=fun hlt=>by
   unfold xo at e2
   rw[List.getElem?_append_left (by simpa using hlt),List.getElem?_replicate,if_pos hlt] at e2
   cases e2
  obtain⟨k,rfl⟩:∃ k,i=nv+k:=⟨i - nv,by omega⟩
  unfold xo at e2
  rw[List.getElem?_append_right (by simp),List.length_replicate,Nat.add_sub_cancel_left,List.getElem?_map] at e2
  cases hj:js[k]? with
  | none=>rw[hj] at e2;cases e2
  | some j =>
   rw[hj,Option.map_some] at e2
   have e2':(σ[j]?).getD none=some v:=Option.some.inj e2
   have hσ:σ[j]? = some (some v):=by
    cases q:σ[j]? with
    | none=>rw[q] at e2';cases e2'
    | some z=>rw[q] at e2';exact congrArg some e2'
   have hd:(N.drop nv)[k]? = some x:=by rw[List.getElem?_drop];exact e1
   have hX:X.N[j]? = some x:=by
    have q:=congrArg (fun l=>l[k]?) S.pl
    simp only[List.getElem?_map,hj,hd,Option.map_some] at q
    exact Option.some.inj q
   have hfx:=S.fr x (List.mem_of_getElem? hd)
   have kx:=S.free _ (PySem.mem_of_lookup hfx) rfl
   obtain⟨m,_,hl⟩:=I.loc
   obtain⟨u,r,l⟩:=hl j x v hX hσ (.inr kx)
   refine⟨u,r,?_⟩
   rcases l with ⟨k1,_⟩ | ⟨_,c,hc,hcell⟩
   ·exfalso
    have k1':X.env.scope.names.lookup x=some .local:=k1
    rcases kx with z | z <;> (rw[k1'] at z;cases z)
   ·obtain⟨c',hc'⟩:=qJ (env:=X.env) scope.names [] x (.inl (PySem.mem_of_lookup hfx))
    have e:=sub _ _ hc'
    rw[hc] at e;cases e
    refine .inr ⟨?_,c,hc',hcell.keeps keep⟩
    have e:=lX (env:=X.env) x scope.names
    have e':(relabel scope X.env).names.lookup x=_:=e
    rw[hfx,Option.map_some] at e'
    show(relabel scope X.env).names.lookup x=some .cell∨(relabel scope X.env).names.lookup x=some .free
    rw[e']
    split
    ·exact .inl rfl
    ·exact .inr rfl
 ·obtain⟨v,q⟩:=I.cell x c (sub _ _ e)
  exact⟨v,q.keeps keep⟩
 ·unfold xo
  show _=N.length
  rw[List.length_append,List.length_replicate,List.length_map,S.len]
end
def KG (X:Cx) (ifs:List Expr) (t:TT):Prop :=
 ∀(pins:List (Addr×Obj)) (s:Shared) (σ:St) (H:Hp) (Q:Bool→Hp→Prop),Inv X pins σ H s→t σ H Q →
  wpAny (model X.prog X.w) X.A (forIn ifs true fun c r=>if r=true then do let ok ←isTrue c X.env (eval c X.env);pure (ForInStep.yield ok) else pure (ForInStep.yield r)) (TP X pins σ Q) X.xe s
def Pw:TT:=fun _ H Q=>Q true H
theorem dH {X:Cx}:KG X [] Pw:=fun _ _ _ H _ I h=>wpAny_tests_nil ⟨H,I,h⟩
theorem JR {X:Cx}{c:Expr}{t:TT} (h:PT X c t):KG X [c] t:=fun pins s σ H Q I q=>wpAny_tests_one (h pins s σ H Q I q)
def Cr (J:It) (g:TG) (tt:TT) (te:TE) (Q:VK) (D:Addr) (τ:St) (H:Hp):Prop :=
 ∃ W:Nat→Nat→List V→St→Hp→Prop,(∃ m,W 0 m [] τ (upd H D (.lst [])))∧∀ i m ys τ H,W i m ys τ H→H D=some (.lst ys) ∧
  ((J.stop i H∧Q (.ref D) H)∨(J.go i H∧∃ N:List V→St→Hp→Prop,(∀ zs σ' H',N zs σ' H'→∃ m',m' < m∧W (i+1) m' zs σ' H')∧∀ x H',J.L0 i H x H'→g x τ H' fun τ2 H2=>tt τ2 H2 fun b H3 =>
   if b=true then te τ2 H3 fun y H4=>H4 D=some (.lst ys)∧ys.length < sizeLine∧N (ys++[y]) τ2 (upd H4 D (.lst (ys++[y])))
   else N ys τ2 H3))
def Rm (wi:TI) (g:TG) (tt:TT) (te:TE) (nv:Nat) (js:List Nat):TE:=fun σ H Q=>wi σ H fun J H1=>∀ D,H1 D=none→Cr J g tt te Q D (xo nv js σ) H1
theorem HG {prog:Program}{w:World}{A:Around}{R:Result→Shared→Prop}{s:Shared}{elt target iter:Expr}{ifs:List Expr}{scope:Scope}{pos:Pos}{it acc:Value}{env:Env} (I:Nat→Shared→Prop)
  (turn:∀ n s,I n s→wpAny (model prog w) A (pyNext it) (fun r s₁=>match r with
   | none=>R (.ok .next) s₁
   | some v=>wpAny (model prog w) A (letOwnedTupleGo target it v) (fun _ s₁'=>wpAny (model prog w) A (assign target env v) (fun _ s₂ =>
     wpAny (model prog w) A (forIn ifs true fun c r=>if r=true then do let ok ←isTrue c env (eval c env);pure (ForInStep.yield ok) else pure (ForInStep.yield r)) (fun ok s₃ =>
      if ok=true then wpAny (model prog w) A (eval elt env) (fun x s₄ =>
       wpAny (model prog w) A (call (.builtin "list.append") [acc,x]) (fun _ s₅=>∃ m,m < n∧I m s₅) (fun _ _=>False) s₄) (fun _ _=>False) s₃
      else ∃ m,m < n∧I m s₃) (fun _ _=>False) s₂) (fun _ _=>False) s₁') (fun _ _=>False) s₁) (fun _ _=>False) s)
  (n:Nat) (h:I n s) :
  codeAny (model prog w) A (.compLoop (.ListComp elt [⟨target,iter,ifs,0⟩] scope pos) 0 it acc env) R s:=by
 refine codeAny_loop rfl I (fun n s hI=>?_) n h
 show wpAny _ A ((compTurn (.ListComp elt [⟨target,iter,ifs,0⟩] scope pos) 0 it acc env).onRaise (fun x=>do noteFrame x env;theTreesLotGoes x)) _ _ s
 refine wpAny_noted (wpAny_mono (E:=fun _ _=>False) ?_ (fun _ _ q=>q) fun _ _ q=>q.elim)
 rw[compTurn_list]
 refine wpAny_bind (wpAny_standAt (wpAny_bind (wpAny_mono (turn n s hI) (fun r s₁ h₁=>?_) fun _ _ h'=>h')))
 cases r with
 | none=>exact wpAny_pure h₁
 | some v =>
  refine wpAny_bind (wpAny_mono h₁ (fun _ s₁' h₁'=>?_) fun _ _ h'=>h')
  refine wpAny_bind (wpAny_mono h₁' (fun _ s₂ h₂=>wpAny_bind (wpAny_mono h₂ (fun ok s₃ h₃=>?_) fun _ _ h'=>h')) fun _ _ h'=>h')
  cases ok with
  | false=>exact wpAny_pure ⟨rfl,h₃⟩
  | true =>
   exact wpAny_bind (wpAny_bind (wpAny_mono h₃ (fun x s₄ h₄=>wpAny_bind (wpAny_mono h₄ (fun _ s₅ h₅=>wpAny_pure (wpAny_pure ⟨rfl,h₅⟩)) fun _ _ h'=>h')) fun _ _ h'=>h'))
section
variable {X:Cx}{elt tg iter:Expr}{ifs:List Expr}{scope:Scope}{pos:Pos}{N:List Str}{nv:Nat}{js:List Nat}{wi:TI}{g:TG}{tt:TT}{te:TE}
theorem zQ {pins:List (Addr×Obj)}{σ:St}{H:Hp}{s:Shared}{Q:VK}{it:Addr}{fp:List Addr}{tn:Nat→Heap→Prop}{J:It}{E:Value→Shared→Prop}{RR:Value→Addr→Result→Shared→Prop} (hc:X.calm=true)
  (S:br X.N X.env.scope N nv js scope) (hg:∀ C s H fp,PG (lY X N scope C s H fp) tg g) (ht:∀ C s H fp,KG (lY X N scope C s H fp) ifs tt) (he:∀ C s H fp,PE (lY X N scope C s H fp) elt te)
  (I:Inv X pins σ H s) (T:Turn X.prog X.w X.K tg J fp it tn) (st:tn 0 s.heap) (hf:∀ b∈fp,ur X pins H b) (hR:∀ D,H D=none→Cr J g tt te Q D (xo nv js σ) H)
  (hRR:∀ D C H' s' m,Inv X pins σ H' s'→ur X pins H' C→s'.heap.Ns C m→Q (.ref D) H'→RR (.ref D) C (.ok .next) s') :
  wpAny (model X.prog X.w) X.A (newList []) (fun acc s₃=>wpAny (model X.prog X.w) X.A (newFunctionEnv scope X.env.globals (jG X.env scope.names []) [] X.env.qual none .none (some X.env)) (fun cenv s₄ =>
   codeAny (model X.prog X.w) X.A (.compStart (.ListComp elt [⟨tg,iter,ifs,0⟩] scope pos) 0 (.ref it) acc { cenv with scope:=relabel scope X.env }) (RR acc cenv.locals) s₄) E s₃) E s:=by
 refine wpAny_newObj_type (wpAny_newFunctionEnv S.cell (by intro y hy;simp at hy) (fun h₁ ML MN=>?_) S.kind)
 have I3:Inv X pins σ (upd H s.heap.objs.size (.lst [])) { s with heap:=s.heap.push { cls:=.type "list",data:=.seq ([]:List Value).toArray } }:=I.WG (t':=s.toks) (its:=[]) .nil (Nat.zero_le _)
 have hD:=I.fresh
 obtain⟨W,⟨m0,w0⟩,turn⟩:=hR s.heap.objs.size hD
 have ho:=T.obj 0 s.heap st
 have WJ:∀ b∈fp,b < s.heap.objs.size:=fun b hb=>let ⟨o,e,_⟩:=ho b hb;Heap.lt_size e
 have Sm:∀ b∈fp,ur X pins (upd H s.heap.objs.size (.lst [])) b:=fun b hb=>⟨by rw[aE (Nat.ne_of_lt (WJ b hb))];exact(hf b hb).1,(hf b hb).2⟩
 generalize hs3:({ s with heap:=s.heap.push { cls:=.type "list",data:=.seq ([]:List Value).toArray } }:Shared)=s3 at I3 ML MN
 have e3:s3.heap=s.heap.push { cls:=.type "list",data:=.seq ([]:List Value).toArray }:=by rw[←hs3]
 have hfl:∀ b∈fp,b < s3.heap.objs.size:=fun b hb=>by rw[e3,Heap.size_push];exact Nat.lt_succ_of_lt (WJ b hb)
 have keep:∀ b o,s3.heap.get? b=some o→h₁.get? b=some o:=fun b o e=>MN.extBut b o (Nat.ne_of_lt (Heap.lt_size e)) (Heap.get?_push_of_some _ e)
 have J0:=HF (tk:=s3.toks+([]:List (Str×Value)).length) I3 S Sm hfl keep ML
 have st1:tn 0 h₁:=T.keep 0 s.heap h₁ st fun b hb o e=>keep b o (by rw[e3];exact Heap.get?_push_of_some _ e)
 generalize hH3:upd H s.heap.objs.size (.lst [])=H3 at *
 generalize hY:lY X N scope s3.heap.objs.size s3 H3 fp=Y at *
 have sub:∀ x c,(jG X.env scope.names []).lookup x=some c→X.env.cells.lookup x=some c :=
  uv scope.names [] (fun n hn=>I.ok.has n (S.free _ hn rfl)) (fun x c z=>by cases z)
 have Hh:∀{H':Hp},(∀ b∈fp,H' b=none)→∀ b∈fp,ur Y [] H' b:=fun {H'} hn b hb=>by
  subst hY
  obtain⟨f0,f1,f2,f3,f4,f5⟩:=Sm b hb
  refine⟨hn b hb,Nat.ne_of_lt (hfl b hb),fun z=>?_,.inl hb,fun x c e=>f4 x c (sub x c e),fun p hp=>absurd (show p∈([]:List (Addr×Obj)) from hp) (by simp)⟩
  rcases List.mem_cons.mp (I3.Dj b z) with q | q
  ·exact f1 q
  ·exact f2 q
 have eA:Y.A=X.A:=by subst hY;rfl
 have eP:Y.prog=X.prog:=by subst hY;rfl
 have eW:Y.w=X.w:=by subst hY;rfl
 have eK:Y.K=X.K:=by subst hY;rfl
 have eC:Y.calm=true:=by subst hY;exact hc
 have eE:Y.env=compEnvC scope (jG X.env scope.names []) s3.heap.objs.size X.env:=by subst hY;rfl
 have eXe:Y.xe=fun _ _=>False:=by subst hY;rfl
 have hgY:PG Y tg g:=by subst hY;exact hg _ _ _ _
 have htY:KG Y ifs tt:=by subst hY;exact ht _ _ _ _
 have heY:PE Y elt te:=by subst hY;exact he _ _ _ _
 have loop:codeAny (model X.prog X.w) X.A (.compLoop (.ListComp elt [⟨tg,iter,ifs,0⟩] scope pos) 0 (.ref it) (.ref s.heap.objs.size) (compEnvC scope (jG X.env scope.names []) s3.heap.objs.size X.env))
   (RR (.ref s.heap.objs.size) s3.heap.objs.size) { s3 with heap:=h₁,toks:=s3.toks+([]:List (Str×Value)).length }:=by
  refine HG (fun n s'=>∃ i ys τ H',Inv Y [] τ H' s'∧tn i s'.heap∧(∀ b∈fp,H' b=none)∧W i n ys τ H') ?_ m0 ⟨0,[],_,H3,J0,st1,fun b hb=>(Sm b hb).1,w0⟩
  rintro n s4 ⟨i,ys,τ,H4,I4,st4,fr4,w4⟩
  obtain⟨hDl,tr⟩:=turn i n ys τ H4 w4
  rcases tr with ⟨stop,qn⟩ | ⟨go,Nn,hNn,step⟩
  ·have d:=T.done Y eP eW eK eC i [] s4 τ H4 (fun _ _=>False) I4 (Hh fr4) st4 stop
   rw[eA] at d
   refine dQ d fun r s5 ⟨hr,I5⟩=>?_
   subst hr
   have u:Inv X pins σ H4 s5:=by
    subst hY
    exact I3.Wb (ch:=fp) I5.os I5.base I5.hok I5.bare fun b hb=>⟨(Sm b hb).2.2.2.1,(Sm b hb).2.1,(Sm b hb).2.2.2.2.1,(Sm b hb).2.2.2.2.2⟩
   have hC:H4 s3.heap.objs.size=none:=by have z:=I5.free;rw[eE] at z;exact z
   obtain⟨m,hn,_⟩:=I5.loc
   rw[eE] at hn
   exact hRR _ _ H4 s5 m u (I3.u0 (Nat.le_refl _) hC) hn qn
  ·have d:=T.item Y eP eW eK eC i [] s4 τ H4 (fun _ _=>False) I4 (Hh fr4) st4 go
   rw[eA] at d
   refine dQ d fun r s5 ⟨u,hr,h5⟩=>?_
   subst hr
   refine dQ h5 fun _ s6 ⟨x,H6,I6,r6,y6,st6,fr6⟩=>?_
   have I6':=I6.pinned (Hh fr6) (T.obj _ _ st6)
   have q6:=hgY _ s6 τ H6 x u _ I6' r6 (step x H6 y6)
   rw[eP,eW,eA,eE,eXe] at q6
   refine dQ q6 fun _ s7 ⟨σ7,H7,I7,q7⟩=>?_
   have q8:=htY _ s7 σ7 H7 _ I7 q7
   rw[eP,eW,eA,eE,eXe] at q8
   refine dQ q8 fun ok s8 ⟨H8,I8,q8⟩=>?_
   have again:∀{σ9:St}{H9:Hp}{s9:Shared}{zs:List V},Inv Y ([]++zM fp s6.heap) σ9 H9 s9→(∃ m',m' < n∧W (i+1) m' zs σ9 H9)→∃ m,m < n∧∃ i ys τ H',Inv Y [] τ H' s9∧tn i s9.heap∧(∀ b∈fp,H' b=none)∧W i m ys τ H':=fun {σ9 H9 s9 zs} I9 n9=>by
    obtain⟨m',hm,w9⟩:=n9
    refine⟨m',hm,i+1,zs,σ9,H9,I9.u5,T.keep _ _ _ st6 fun b hb o e=>(I9.pin (b,o) (List.mem_append_right _ (List.mem_append_right _ (o7 hb e)))).1,fun b hb=>?_,w9⟩
    obtain⟨o,e,d⟩:=T.obj _ _ st6 b hb
    exact(I9.pin (b,o) (List.mem_append_right _ (List.mem_append_right _ (o7 hb e)))).2.1
   cases ok with
   | false =>
    rw[if_neg Bool.false_ne_true]
    rw[if_neg Bool.false_ne_true] at q8
    exact again I8 (hNn _ _ _ q8)
   | true =>
    rw[if_pos rfl]
    rw[if_pos rfl] at q8
    have q9:=heY _ s8 σ7 H8 _ I8 q8
    rw[eP,eW,eA,eE,eXe] at q9
    refine dQ q9 fun y s9 ⟨yv,H9,I9,r9,hD9,hz9,q9⟩=>?_
    have ap:=cF (X:=Y) _ s9 σ7 H9 (.ref s.heap.objs.size) [yv] (.ref s.heap.objs.size) [y] (fun _ H10=>Nn (ys++[yv]) σ7 H10) I9 rfl (.cons r9 .nil) ⟨_,ys,yv,rfl,rfl,hD9,hz9,q9⟩
    rw[eP,eW,eA,eXe] at ap
    exact dQ ap fun _ VE ⟨_,H10,I10,_,q10⟩=>again I10 (hNn _ _ _ q10)
 subst hs3
 exact codeAny_compStart_list loop (T.self _ 0 _ _ _ st1 loop)
theorem dI (hc:X.calm=true) (S:br X.N X.env.scope N nv js scope) (hi:PI X tg iter wi) (hg:∀ C s H fp,PG (lY X N scope C s H fp) tg g) (ht:∀ C s H fp,KG (lY X N scope C s H fp) ifs tt)
  (he:∀ C s H fp,PE (lY X N scope C s H fp) elt te) (hs:∀ x,foldedSetIterable iter X.env x=pure x:=by intro _;rfl) :
  PE X (.ListComp elt [⟨tg,iter,ifs,0⟩] scope pos) (Rm wi g tt te nv js):=by
 intro pins s σ H Q I h
 rw[eval_ListComp]
 refine wpAny_comprehension_free (use:=none) rfl hs (tF fun n hn=>I.ok.has n (S.free _ hn rfl)) S.kind S.loc (dQ (hi pins s σ H _ I h) fun v s1 h1=>dQ h1 fun itv s2 h2=>?_)
 obtain⟨it,fp,tn,J,H2,e,I2,T,st2,f2,hR⟩:=h2
 subst e
 refine zQ (RR:=fun acc C=>compPost (model X.prog X.w) X.A X.xe none (EP X pins σ Q) acc C) hc S hg ht he I2 T st2 f2 hR ?_
 intro D C H' s' m I' fC hn q
 refine⟨m,hn,fun h' sb=>⟨.ref D,H',?_,rfl,q⟩⟩
 exact I'.turned (t':=s'.toks) (fun b o hb e=>(sb.2 b hb).trans e) fC.1 fC.2.1 fC.2.2.2.1 fC.2.2.2.2.1 fC.2.2.2.2.2
theorem JS {i:Nat}{x:Str}{pos' spos:Pos} (hc:X.calm=true) (hN:X.N.Nodup) (hi':X.N[i]? = some x) (hx:X.env.scope.names.lookup x=some .local) (S:br X.N X.env.scope N nv js scope) (hi:PI X tg iter wi) (hg:∀ C s H fp,PG (lY X N scope C s H fp) tg g) (ht:∀ C s H fp,KG (lY X N scope C s H fp) ifs tt)
  (he:∀ C s H fp,PE (lY X N scope C s H fp) elt te) (hsw:swapsWith (.ListComp elt [⟨tg,iter,ifs,0⟩] scope pos) (some (.Name x pos')) spos.line X.env=pure true:=by rfl) (hs:∀ x,foldedSetIterable iter X.env x=pure x:=by intro _;rfl) :
  PS X (.Assign [.Name x pos'] (.ListComp elt [⟨tg,iter,ifs,0⟩] scope pos) spos) (O9 (Rm wi g tt te nv js) (bf i)):=by
 intro pins s σ H D I h
 rw[exec_Assign_Name_used _ _ _ _ hsw]
 refine wpAny_bind (wpAny_standAt (wpAny_bind ?_))
 show wpAny _ X.A (do let _ ←comprehension (.ListComp elt [⟨tg,iter,ifs,0⟩] scope pos) scope X.env _ (newList []) false (eval iter X.env) (some (assign (.Name x pos') X.env))) _ _ s
 refine wpAny_bind (wpAny_mono (wpAny_comprehension_free (use:=some (assign (.Name x pos') X.env)) (Q:=fun _ s'=>SP X pins D .next s') rfl hs (tF fun n hn=>I.ok.has n (S.free _ hn rfl)) S.kind S.loc
  (dQ (hi pins s σ H _ I h) fun v s1 h1=>dQ h1 fun itv s2 h2=>?_)) (fun _ s' hq=>wpAny_pure (wpAny_pure hq)) fun _ _ e=>e)
 obtain⟨it,fp,tn,J,H2,e,I2,T,st2,f2,hR⟩:=h2
 subst e
 refine zQ (RR:=fun acc C=>compPost (model X.prog X.w) X.A X.xe (some (assign (.Name x pos') X.env)) (fun _ s'=>SP X pins D .next s') acc C) hc S hg ht he I2 T st2 f2 hR ?_
 intro Dl C H' s' m I' fC hn q
 show wpAny _ X.A (assign (.Name x pos') X.env (.ref Dl)) _ _ _
 refine wpAny_assign_Name (Cc I' hN hi' (.inl hx) (v:=.ref Dl) rfl (fun s2 I3 ch=>?_) (.inr hx))
 obtain⟨a,sb,ha⟩:=ch
 have hCa:C≠a:=by
  rcases ha with rfl | ha
  ·exact fC.2.1
  ·exact(fC.2.2.2.2.1 x a ha).symm
 refine⟨m,hn.sameBut sb hCa,fun h' sb'=>⟨_,H',?_,q⟩⟩
 exact I3.turned (t':=s2.toks) (fun b o hb e=>(sb'.2 b hb).trans e) fC.1 fC.2.1 fC.2.2.2.1 fC.2.2.2.2.1 fC.2.2.2.2.2
end
theorem HH:typeLookup (.type "list_reverseiterator") "__len__" = pure none:=by rw[typeLookup_type,builtinLookup_eq_fast];kernel_rfl
theorem MO:typeLookup (.type "list_reverseiterator") "__length_hint__" = pure (some (.builtin "list_reverseiterator.__length_hint__")):=by rw[typeLookup_type,builtinLookup_eq_fast];kernel_rfl
section
variable {prog:Program}{w:World}{A:Around}{E:Value→Shared→Prop}{s:Shared}
theorem MP {I l:Addr}{i:Int}{Q:Bool→Shared→Prop} (hit:s.heap.IsRevIter I l i) (h:Q false s):wpAny (model prog w) A (Builtin.List.listLengthHint (.ref I)) Q E s:=by
 unfold Builtin.List.listLengthHint
 refine wpAny_bind (wpAny_specialOf hit.typeIs HH ?_)
 show wpAny _ _ (specialOf (Value.ref I) ("__length_hint__":Str) >>= _) _ _ _
 refine wpAny_bind (wpAny_specialOf hit.typeIs MO ?_)
 generalize hid:("list_reverseiterator.__length_hint__" : String)=WK
 wp_delta
 rw[show splitId WK=some ("list_reverseiterator", "__length_hint__") from by subst hid;decide +kernel]
 subst hid
 refine wpAny_bind (wpAny_isInstance (T := "list_reverseiterator") (b:=true) hit.typeIs (by rw[isSubtype_type];kernel_rfl) ?_)
 refine wpAny_ite_split (fun hab=>absurd hab (by decide)) (fun _=>?_)
 refine wpAny_ite_split (fun _=>?_) (fun hab=>absurd (by decide +kernel) hab)
 refine wpAny_ite_split (fun hab=>absurd hab (by decide +kernel)) (fun _=>?_)
 exact wpAny_pure h
theorem HJ {R:Result→Shared→Prop} (hh:A.handled=none) {I l:Addr}{items:Array Value} (hne:l≠I) (hit:s.heap.IsRevIter I l ((items.size:Int) - 1)) (hl:s.heap.IsList l items) (S:Addr) (hSl:S≠l) (res:Value) (c₀:Nat) (hS:s.heap.get? S=some { cls:=.type "list",data:=.seq #[] c₀ })
  (hn:items.size≤sizeLine)
  (hR:∀ h' tk acc' c',(∀ b o,b≠S→b≠I→s.heap.get? b=some o→h'.get? b=some o)→h'.get? S=some { cls:=.type "list",dict:=none,data:=.seq acc' c',slots:=#[] } →
   ItemsOf (fun i v=>items[items.size - 1 - i]? = some v) acc' items.size→R (.ok (.ret res)) { s with heap:=h',toks:=tk }) :
  wpAny (model prog w) A.in1 (Builtin.List.listExtendWith (.ref S) (.ref I) res)
   (fun fin s'=>match fin with | .done f=>R (.ok f) s' | .again c'=>c'.quiet=true∧codeAny (model prog w) A c' R s') (fun e s'=>R (.error e) s') s:=by
 have hSI:S≠I:=fun e=>by
  subst e
  obtain⟨o,ho,hc,_⟩:=hit
  rw[hS] at ho;cases ho
  exact absurd (show Value.type "list" = Value.type "list_reverseiterator" from hc) (by decide)
 have hSf:S∉[I,l]:=fun hm=>by
  rcases List.mem_cons.mp hm with e | hm
  ·exact hSI e
  ·exact hSl (List.mem_singleton.mp hm)
 unfold Builtin.List.listExtendWith
 refine wpAny_bind (wpAny_typeOf hit.typeIs ?_)
 have h1:Builtin.List.listSameRef (.ref S) (.ref I)=false:=by simp[Builtin.List.listSameRef,hSI]
 have h2:(Value.type "list_reverseiterator" == Value.type "list")=false:=by decide
 have h3:(Value.type "list_reverseiterator" == Value.type "tuple")=false:=by decide
 simp only[h1,h2,h3,Bool.or_false,Bool.false_eq_true,if_false]
 refine wpAny_bind (wpAny_pyIter_revIter hit ?_)
 refine wpAny_bind (wpAny_holding (MP hit ?_))
 rw[if_neg (by decide)]
 refine wpAny_pure ⟨plainId_quiet F.plain_extend_loop _,codeAny_extend_loopS (Walks.listRev (prog:=prog) (w:=w) (A:=A.in1) hh I l hne items).toS hn _ hSf _ items.size 0 _ _ _ rfl (Nat.zero_le _) ⟨Nat.zero_le _,by simpa using hit,hl⟩ hS (ItemsOf.nil _) fun s' acc' c' hm hS' hacc=>?_⟩
 rw[Moved.eq_with hm]
 refine hR s'.heap s'.toks acc' c' (fun b ob hb hb2 e=>hm.heap b ob (fun hmem=>?_) e) hS' hacc
 rcases List.mem_cons.mp hmem with e' | hmem
 ·exact hb e'
 ·exact hb2 (List.mem_singleton.mp hmem)
end
theorem KH {items:List Value}{acc:Array Value} (h:ItemsOf (fun i v=>items.toArray[items.toArray.size - 1 - i]? = some v) acc items.toArray.size):acc.toList=items.reverse:=by
 have hz:=h.1
 refine List.ext_getElem? fun i=>?_
 by_cases hi:i < items.length
 ·have hi':i < acc.size:=by rw[hz];simpa using hi
  have q:=h.2 i acc[i] (by simp[hi'])
  rw[List.getElem?_reverse hi]
  simp only[List.size_toArray,List.getElem?_toArray] at q
  rw[q]
  simp[hi']
 ·rw[List.getElem?_eq_none (by rw[Array.length_toList,hz];simpa using hi),List.getElem?_eq_none (by simpa using hi)]
section
variable {X:Cx}{e:Expr}{te:TE}
end
def sg (c:Nat):Str:=⟨#[c]⟩
def VF (z:Str):It:=⟨fun i _=>i < z.cps.size,fun i H x H'=>H'=H∧∃ c,z.cps[i]? = some c∧x=.str (sg c),fun i _=>z.cps.size≤i⟩
theorem MQ {P:Program}{w:World}{K:W.Frag}{tg:Expr} (it:Addr) (z:Str) (t:Tok):Turn P w K tg (VF z) [it] it (fun i h=>h.IsStrIter it (strIterType z) z t i) where
 mem:=by simp
 obj:=fun i h st b hb=>by
  have e:b=it:=by simpa using hb
  subst e
  obtain⟨o,e,c,d⟩:=st
  exact⟨o,e,fun v z=>by rw[d] at z;cases z⟩
 keep:=fun i h h' st k=>by
  obtain⟨o,e,r⟩:=st
  exact⟨o,k it (by simp) o e,r⟩
 item:=by
  intro X hP hw hK hc i pins s σ H E I hf st hg
  subst hP hw hK
  obtain⟨f0,f1,f2,f3,f4,f5⟩:=hf it (by simp)
  have hi:i < z.cps.size:=hg
  have hx:z.cps[i]? = some z.cps[i]:=by simp[hi]
  cases ha:z.cps.all (· < 128) with
  | true =>
   have et:strIterType z = "str_ascii_iterator" := by simp only[strIterType,ha,if_true]
   rw[et] at st ⊢
   refine wpAny_pyNext_ascii_item st hx fun h' st' sb=>?_
   have I1:Inv X pins σ H { s with heap:=h',toks:=s.toks+1 }:=I.turned (fun b o hb e=>(sb.2 b hb).trans e) f0 f1 f3 f4 f5
   obtain⟨o,e,c,d⟩:=id st'
   exact⟨_,rfl,Ce (s:={ s with heap:=h',toks:=s.toks+1 }) e c d (by decide) ⟨.str (sg z.cps[i]),H,I1,⟨_,rfl⟩,⟨rfl,_,hx,rfl⟩,st',fun b hb=>(hf b hb).1⟩⟩
  | false =>
   have et:strIterType z = "str_iterator" := by simp only[strIterType,ha,Bool.false_eq_true,if_false]
   rw[et] at st ⊢
   refine wpAny_pyNext_wide_item st hx fun h' st' sb=>?_
   have I1:Inv X pins σ H { s with heap:=h',toks:=s.toks+1 }:=I.turned (fun b o hb e=>(sb.2 b hb).trans e) f0 f1 f3 f4 f5
   obtain⟨o,e,c,d⟩:=id st'
   exact⟨_,rfl,Ce (s:={ s with heap:=h',toks:=s.toks+1 }) e c d (by decide) ⟨.str (sg z.cps[i]),H,I1,⟨_,rfl⟩,⟨rfl,_,hx,rfl⟩,st',fun b hb=>(hf b hb).1⟩⟩
 done:=by
  intro X hP hw hK hc i pins s σ H E I hf st hg
  subst hP hw hK
  obtain⟨f0,f1,f2,f3,f4,f5⟩:=hf it (by simp)
  have hi:z.cps.size≤i:=hg
  have hx:z.cps[i]? = none:=by simp[hi]
  cases ha:z.cps.all (· < 128) with
  | true =>
   have et:strIterType z = "str_ascii_iterator" := by simp only[strIterType,ha,if_true]
   rw[et] at st
   exact wpAny_pyNext_ascii_end (I.ok.hd hc) st hx fun h' eb=>⟨rfl,I.turned (t':=s.toks) (fun b o hb e=>eb b o hb e) f0 f1 f3 f4 f5⟩
  | false =>
   have et:strIterType z = "str_iterator" := by simp only[strIterType,ha,Bool.false_eq_true,if_false]
   rw[et] at st
   exact wpAny_pyNext_wide_end (I.ok.hd hc) st hx fun h' eb=>⟨rfl,I.turned (t':=s.toks) (fun b o hb e=>eb b o hb e) f0 f1 f3 f4 f5⟩
 self:=by
  intro A i s Q E st h
  cases ha:z.cps.all (· < 128) with
  | true =>
   have et:strIterType z = "str_ascii_iterator" := by simp only[strIterType,ha,if_true]
   rw[et] at st
   exact wpAny_pyIter_striter_ascii st h
  | false =>
   have et:strIterType z = "str_iterator" := by simp only[strIterType,ha,Bool.false_eq_true,if_false]
   rw[et] at st
   exact wpAny_pyIter_striter_wide st h
section
variable {X:Cx}{tg:Expr}
def ady (tl:TE):TI:=fun σ H R=>tl σ H fun x H1=>∃ z,x=.str z∧R (VF z) H1
theorem pB {l:Expr}{tl:TE} (hl:PE X l tl):PI X tg l (ady tl):=by
 intro pins s σ H R I h
 refine dQ (hl pins s σ H _ I h) fun v s1 ⟨x,H1,I1,r1,q1⟩=>?_
 obtain⟨z,e,q⟩:=q1
 subst e
 obtain⟨t,rfl⟩:=r1
 refine wpAny_pyIter_strU ?_
 refine⟨s1.heap.objs.size,[s1.heap.objs.size],_,_,H1,rfl,I1.kept (t':=s1.toks) fun b o e=>Heap.get?_push_of_some _ e,MQ _ z t,⟨_,Heap.get?_push_size _ rfl,rfl,rfl⟩,fun b hb=>?_,q⟩
 have e:b=s1.heap.objs.size:=by simpa using hb
 subst e
 exact I1.u0 (Nat.le_refl _) (I1.hok.fresh (Nat.le_refl _))
end
theorem rW {z:Str}{g:TG}{tb:TS}{D:Ends}{σ:St}{H:Hp} (Pv:Nat→St→Hp→Prop) (h0:Pv 0 σ H)
  (hs:∀ i c σ H,z.cps.toList[i]? = some c→Pv i σ H→g (.str (sg c)) σ H fun σ2 H2=>tb { D with nx:=Pv (i+1),ct:=Pv (i+1),bk:=D.nx } σ2 H2) (hd:∀ σ H,Pv z.cps.toList.length σ H→D.nx σ H) :
  ∃ W:Nat→Nat→St→Hp→Prop,(∃ m,W 0 m σ H)∧∀ i m σ H,W i m σ H →
   ((VF z).stop i H∧D.nx σ H)∨((VF z).go i H∧∃ N:St→Hp→Prop,(∀ σ' H',N σ' H'→∃ m',m' < m∧W (i+1) m' σ' H')∧∀ x H',(VF z).L0 i H x H'→g x σ H' fun σ2 H2=>tb { D with nx:=N,ct:=N,bk:=D.nx } σ2 H2):=by
 refine⟨fun i m σ H=>m=z.cps.size - i∧i≤z.cps.size∧Pv i σ H,⟨z.cps.size,by simp,Nat.zero_le _,h0⟩,?_⟩
 rintro i m σ H ⟨rfl,hi,p⟩
 by_cases hlt:i < z.cps.size
 ·refine .inr ⟨hlt,Pv (i+1),fun σ' H' p'=>⟨z.cps.size - (i+1),by omega,rfl,hlt,p'⟩,fun x H' y=>?_⟩
  obtain⟨e,c,hc,ex⟩:=y
  subst e ex
  exact hs i c σ _ (by simpa using hc) p
 ·have e:i=z.cps.size:=by omega
  subst e
  exact .inl ⟨Nat.le_refl _,hd σ H (by simpa using p)⟩
theorem cO {K:W.Frag}{a:Addr}{xs:List V}{g:TG}{tt:TT}{te:TE}{Q:VK}{D:Addr}{τ:St}{H:Hp} (Pv:Nat→List V→St→Hp→Prop) (h0:Pv 0 [] τ (upd H D (.lst [])))
  (hl:∀ i ys τ H,i≤xs.length→Pv i ys τ H→aU K H a xs∧H D=some (.lst ys))
  (hs:∀ i x ys τ H,xs[i]? = some x→Pv i ys τ H→g x τ H fun τ2 H2=>tt τ2 H2 fun b H3=>if b=true then te τ2 H3 fun y H4=>H4 D=some (.lst ys)∧ys.length < sizeLine∧Pv (i+1) (ys++[y]) τ2 (upd H4 D (.lst (ys++[y]))) else Pv (i+1) ys τ2 H3)
  (hd:∀ ys τ H,Pv xs.length ys τ H→Q (.ref D) H) :
  Cr (Vz K a) g tt te Q D τ H:=by
 refine⟨fun i m ys τ H=>m=xs.length - i∧i≤xs.length∧Pv i ys τ H,⟨xs.length,by simp,Nat.zero_le _,h0⟩,?_⟩
 rintro i m ys τ H ⟨rfl,hi,p⟩
 obtain⟨q,hD⟩:=hl i ys τ H hi p
 refine⟨hD,?_⟩
 by_cases hlt:i < xs.length
 ·refine .inr ⟨⟨xs,xs[i],q,by simp[hlt]⟩,Pv (i+1),fun zs σ' H' p'=>⟨xs.length - (i+1),by omega,rfl,hlt,p'⟩,fun x H' y=>?_⟩
  obtain⟨e,y⟩:=y
  subst e
  exact hs i x ys τ _ (y xs q) p
 ·have e:i=xs.length:=by omega
  subst e
  exact .inl ⟨⟨xs,q,Nat.le_refl _⟩,hd ys τ H p⟩
theorem zR {z:Str}{g:TG}{tt:TT}{te:TE}{Q:VK}{D:Addr}{τ:St}{H:Hp} (Pv:Nat→List V→St→Hp→Prop) (h0:Pv 0 [] τ (upd H D (.lst [])))
  (hl:∀ i ys τ H,i≤z.cps.toList.length→Pv i ys τ H→H D=some (.lst ys))
  (hs:∀ i c ys τ H,z.cps.toList[i]? = some c→Pv i ys τ H→g (.str (sg c)) τ H fun τ2 H2=>tt τ2 H2 fun b H3=>if b=true then te τ2 H3 fun y H4=>H4 D=some (.lst ys)∧ys.length < sizeLine∧Pv (i+1) (ys++[y]) τ2 (upd H4 D (.lst (ys++[y]))) else Pv (i+1) ys τ2 H3)
  (hd:∀ ys τ H,Pv z.cps.toList.length ys τ H→Q (.ref D) H) :
  Cr (VF z) g tt te Q D τ H:=by
 have hz:z.cps.toList.length=z.cps.size:=by simp
 refine⟨fun i m ys τ H=>m=z.cps.size - i∧i≤z.cps.size∧Pv i ys τ H,⟨z.cps.size,by simp,Nat.zero_le _,h0⟩,?_⟩
 rintro i m ys τ H ⟨rfl,hi,p⟩
 refine⟨hl i ys τ H (by omega) p,?_⟩
 by_cases hlt:i < z.cps.size
 ·refine .inr ⟨hlt,Pv (i+1),fun zs σ' H' p'=>⟨z.cps.size - (i+1),by omega,rfl,hlt,p'⟩,fun x H' y=>?_⟩
  obtain⟨e,c,hc,ex⟩:=y
  subst e ex
  exact hs i c ys τ _ (by simpa using hc) p
 ·have e:i=z.cps.size:=by omega
  subst e
  exact .inl ⟨Nat.le_refl _,hd ys τ H (by rw[hz];exact p)⟩
theorem JT:∀{zs:List Str}{us:List Value},Vals (zs.map V.str) us→StrsAre us zs
 | [],_,r=>by cases r;exact .nil
 | z :: zs,_,r=>by
  cases r with
  | cons r1 r2 =>
   obtain⟨t,e⟩:=r1
   subst e
   exact .cons z t (JT r2)
section
variable {X:Cx}
def rJoin (K:W.Frag):V→List V→Hp→VK→Prop:=fun x vs H Q=>∃ z p zs,x=.str z∧vs=[.ref p]∧aU K H p (zs.map V.str)∧(zs.map (·.length)).sum+zs.length * z.length≤16777216∧Q (.str (Txt.join z zs)) H
theorem Px:R9 X "str.join" (rJoin X.K):=by
 intro pins s σ H x vs v us Q I rx rv h
 obtain⟨z,p,zs,rfl,rfl,hq,hz,q⟩:=h
 obtain⟨t,rfl⟩:=rx
 obtain⟨u,rfl,ru⟩:=rv.one
 cases ru
 obtain⟨its,r,pl,_⟩:=I.list hq
 exact join_list pl.isList (by simpa using JT r) hz fun t' k=>⟨.str _,H,I.tok k,⟨t',rfl⟩,q⟩
theorem EU:fV X (.builtin "isinstance") (fun xs H Q=>∃ x c t b,xs=[x,c]∧uu X.K H x t∧((∃ n,c=.ty n∧W.kitOne X.K t (.type n)=some b)∨(∃ a,c=.ref a∧W.kitOne X.K t (.ref a)=some b))∧Q (.bl b) H):=by
 intro pins s σ H xs us Q I r h
 obtain⟨x,c,t,b,rfl,ty,hc,q⟩:=h
 obtain⟨u,w',rfl,ru,rw'⟩:=vals2 r
 rcases hc with ⟨n,rfl,e⟩ | ⟨a,rfl,e⟩
 ·cases rw'
  exact Cg I ru ty e fun tk=>⟨.bl b,H,I.tok tk,rfl,q⟩
 ·cases rw'
  exact Cg I ru ty e fun tk=>⟨.bl b,H,I.tok tk,rfl,q⟩
end
theorem Sn (c:Nat):(sg c).length=1:=rfl
theorem HK (cs:List Nat):Txt.join ("":Str) (cs.map sg)=⟨cs.toArray⟩:=by
 show Builtin.Str.glued ("":Str) (cs.map sg)=_
 rw[StrLaws.glued_eq_join]
 induction cs with
 | nil=>rfl
 | cons c cs ih =>
  cases cs with
  | nil=>rfl
  | cons d cs =>
   rw[List.map_cons,List.map_cons] at *
   show sg c++("":Str)++Str.join ("":Str) (sg d :: cs.map sg)=_
   rw[ih]
   show Str.mk ((#[c]++("":Str).cps)++(d :: cs).toArray)=_
   have e:("":Str).cps = #[]:=by decide +kernel
   rw[e]
   simp
theorem JU (a b:List Nat):(⟨a.toArray⟩:Str)++(⟨b.toArray⟩:Str)=⟨(a++b).toArray⟩:=by
 show Str.mk (a.toArray++b.toArray)=_
 simp
section
variable {X:Cx}
def WL (K:W.Frag):R2:=fun x y H Q=>∃ a b xs,x=.ref a∧y=.ref b∧aU K H a xs∧aU K H b []∧Q (.bl (!xs.isEmpty)) H
theorem So (hu:X.A.units < cLine):o8 X (compareOp .NotEq) (WL X.K):=by
 intro pins s σ H x y v u Q I rx ry h
 obtain⟨a,b,xs,rfl,rfl,ha,hb,q⟩:=h
 cases rx
 cases ry
 obtain⟨its,r1,p1,_⟩:=I.list ha
 obtain⟨its2,r2,p2,_⟩:=I.list hb
 cases r2
 show wpAny _ _ (richCompare .NotEq (.ref a) (.ref b)) _ _ _
 cases xs with
 | nil =>
  cases r1
  refine SeqAt.RcNeAt.lists (e:=fun _=>true) p1.isList p2.isList rfl hu (fun j h1 _=>absurd h1 (by simp)) _ _ _ _ ⟨.bl false,H,I,?_,q⟩
  simp[RelV]
 | cons x xs =>
  cases r1 with
  | cons r rr =>
   exact SeqAt.RcNeAt.lists_lengths p1.isList p2.isList (by simp) hu _ _ _ _ ⟨.bl true,H,I,rfl,q⟩
end
section
variable {X:Cx} (K:W.Frag) (h:X.K=K)
include h
theorem zS:VC X (Sa K):=by subst h;exact Pk
theorem Py:VC X (Sb K):=by subst h;exact Sd
theorem qK:Wz X (WC K):=by subst h;exact Po
theorem zE:Wz X (WA K):=by subst h;exact R7
theorem lZ:R9 X "str.join" (rJoin K):=by subst h;exact Px
theorem aZ:fV X (.builtin "len") (fun xs H Q=>∃ p ys,xs=[.ref p]∧(aU K H p ys∨aY K H p ys)∧Q (.int ys.length) H):=by subst h;exact Dw
theorem bQ:fV X (.builtin "isinstance") (fun xs H Q=>∃ x c t b,xs=[x,c]∧uu K H x t∧((∃ n,c=.ty n∧W.kitOne K t (.type n)=some b)∨(∃ a,c=.ref a∧W.kitOne K t (.ref a)=some b))∧Q (.bl b) H):=by subst h;exact EU
theorem tG:fV X (.type "list") (fun xs H Q=>∃ p ys,xs=[.ref p]∧(aU K H p ys∨aY K H p ys)∧∀ l,H l=none→Q (.ref l) (upd H l (.lst ys))):=by subst h;exact Dy
theorem gB:fV X (.type "tuple") (fun xs H Q=>∃ p ys,xs=[.ref p]∧((aU K H p ys∧∀ l,H l=none→Q (.ref l) (upd H l (.tup ys)))∨(aY K H p ys∧Q (.ref p) H))):=by subst h;exact Bm
theorem zT:o8 X (compareOp .In) (rIn K false):=by subst h;exact Kz
theorem EV:o8 X (binaryOp .Add) (Rl K):=by subst h;exact Pj
theorem Dz (hu:X.A.units < cLine):o8 X (compareOp .NotEq) (WL K):=by subst h;exact So hu
theorem bH {tg l:Expr}{tl:TE} (hl:PE X l tl):PI X tg l (Rb K tl):=by subst h;exact Pa hl
theorem JV {tg l:Expr}{tl:TE} (hl:PE X l tl):PI X tg l (Wl K tl):=by subst h;exact RX hl
theorem iI {es:List Expr}{k:Nat}{pos:Pos}{t:Ra} (n:Nat) (hc:X.calm=true) (hh:Wh X es t)
 (hn:(assignEach es X.env).length=n:=by rfl) (hst:(assignEach es X.env).findIdx? (·.1)=none:=by rfl):PG X (.Tuple es k pos) (Wk K n t):=by subst h;exact RU hc hh hn hst
theorem aV {e:Expr}{ta:TE}{f:Str}{pos:Pos} (he:PE X e ta) (hb:attributeBase e f X.env (eval e X.env)=eval e X.env):PE X (.Attribute e f pos) (Ws K ta f):=by subst h;exact R4 he hb
theorem Pz {o:Expr}{to:TE}{name:Str}{apos cpos:Pos}{T id:String}{r:V→List V→Hp→VK→Prop} (pa:PlainAttrs T) (slot:Slot T name id) (hty:typeOf (.builtin id)=pure (.type "method_descriptor")) (hm:R9 X id r) (ho:PE X o to)
 (hbase:attributeBase o name X.env (eval o X.env)=eval o X.env:=by rfl) (hline:(apos.endLine == cpos.line)=true:=by rfl):PE X (.Call (.Attribute o name apos) [] [] cpos) (WD K T r to):=by subst h;exact Sf pa slot hty hm ho hbase hline
theorem cZ {o e:Expr}{es:List Expr}{to:TE}{t:TA}{name:Str}{apos cpos:Pos}{T id:String}{r:V→List V→Hp→VK→Prop} (pa:PlainAttrs T) (slot:Slot T name id) (hty:typeOf (.builtin id)=pure (.type "method_descriptor")) (hm:R9 X id r) (ho:PE X o to) (ha:PA X (e :: es) t)
 (hbase:attributeBase o name X.env (eval o X.env)=eval o X.env:=by rfl)
 (hfew:((backTo cpos (starEach (e :: es) X.env)).all (fun x=>!x.1) && (backToKw cpos (keywordEach [] X.env)).all (fun x=>x.1.isSome)
  && decide ((e :: es).length+([]:List Keyword).length+(if ([]:List Keyword).isEmpty then 0 else 1) < 30))=true:=by rfl)
 (hline:(apos.endLine == cpos.line)=true:=by rfl) (hs:starEach (e :: es) X.env=(false,eval e X.env) :: starEach es X.env:=by rfl) (hplain:(backTo cpos (starEach es X.env)).any (·.1)=false:=by rfl) :
 PE X (.Call (.Attribute o name apos) (e :: es) [] cpos) (tBM K T r to t):=by subst h;exact WE pa slot hty hm ho ha hbase hfew hline hs hplain
end
section
variable {X:Cx}
theorem pC {x:Str}{z:Str}{t:Tok}{pos:Pos} (hg:Gl X x) (hm:X.mg x=some (.str z t)) (hd:(x == ("__debug__" : Str))=false:=by decide):PE X (.Name x pos) (tC (.str z)):=Dm hg hm ⟨t,rfl⟩ hd
theorem m8 {x:Str}{a:Addr}{pos:Pos} (hg:Gl X x) (hm:X.mg x=some (.ref a)) (hd:(x == ("__debug__" : Str))=false:=by decide):PE X (.Name x pos) (tC (.ref a)):=Dm hg hm rfl hd
theorem Sq (n:String) {x:Str}{pos:Pos} (hg:Gl X x) (hm:X.mg x=none) (hv:bootBuiltins x=some (.type n)) (hn:x ≠ "__name__" := by decide) (hd:(x == ("__debug__" : Str))=false:=by decide):PE X (.Name x pos) (tC (.ty n)):=O6 hg hm hv rfl hn hd
end
structure MR (K:W.Frag) (x qual:Str) (st:Stmt) (f:Addr) (fd:FuncData) (dV:Value):Prop where
 ex:∃(oc:Value) (od:Option Addr) (kV doc pm:Value) (an:Option Addr) (cdv ct:Value) (osl:Array (Option Value)),
  fd=W.fnOf x qual (dY st) (cY st) (av st) dV kV doc pm an cdv ct∧K.lookup f=some ⟨oc,od,.func fd,osl⟩∧W.codeIn K cdv qual=true
 kp:W.keepIn K (.ref f)=true
section
variable {P:Program}{w:World}{K:W.Frag}{mg:Str→Option Value}{base:Heap}
theorem MR.ok {x qual:Str}{st:Stmt}{f:Addr}{fd:FuncData}{dV:Value}{N ps:List Str}{k:Nat}{sp:Sp} (F:MR K x qual st f fd dV) (S:aF N ps (av st)) (len:∀ vs H Q E,sp vs H Q E→vs.length=ps.length)
  (hbody:∀(cdv:Value) (A:Around) (outer:List Env) (s:Shared) (H:Hp) (vs:List V) (Q:VK) (E:XK),i8 k (A.deeper (envOfC qual (av st) s.heap.objs.size f cdv))→sp vs H Q E →
   ∃ t,JI (Hu bG P w K mg base N qual (av st) f cdv A outer s H E).Vy (cY st) t∧t { nx:=fun _ H'=>Q .non H',rt:=Q } (start N vs) H):aJ P w K mg base bG (k+1) f fd ps sp:=by
 obtain⟨oc,od,kV,doc,pm,an,cdv,ct,osl,rfl,lk,hcd⟩:=F.ex
 refine Rj lk hcd S len fun A outer s H vs Q E hr OW=>?_
 obtain⟨t,h,q⟩:=hbody cdv A outer s H vs Q E hr OW
 exact⟨t,h.Vy,q⟩
theorem JW {x qual:Str}{st:Stmt}{f:Addr}{oc dV:Value}{od an:Option Addr}{osl:Array (Option Value)}{kV doc pm cdv ct:Value} (l:K.lookup f=some ⟨oc,od,.func (W.fnOf x qual (dY st) (cY st) (av st) dV kV doc pm an cdv ct),osl⟩)
 (c:W.codeIn K cdv qual=true) (k:W.keepIn K (.ref f)=true):MR K x qual st f (W.fnOf x qual (dY st) (cY st) (av st) dV kV doc pm an cdv ct) dV:=⟨⟨oc,od,kV,doc,pm,an,cdv,ct,osl,rfl,l,c⟩,k⟩
end
section
variable {X:Cx}
theorem qM:∀{bs:List Bool}{us:List Value}{i:Nat}{u:Value},Vals (bs.map V.bl) us→us[i]? = some u→u=.bool (bs.getD i true)
 | [],_,_,_,r,e=>by cases r;simp at e
 | b :: bs,_,i,u,r,e=>by
  cases r with
  | cons r1 r2 =>
   cases i with
   | zero=>simp at e;subst e;exact r1
   | succ i=>simp at e;simpa using qM r2 e
theorem all_range (bs:List Bool):((List.range bs.length).all fun i=>bs.getD i true)=bs.all id:=by
 rw[Bool.eq_iff_iff,List.all_eq_true,List.all_eq_true]
 constructor
 ·intro h b hb
  obtain⟨i,hi,rfl⟩:=List.mem_iff_getElem.mp hb
  have:=h i (by simpa using hi)
  simpa [List.getD,hi] using this
 ·intro h i hi
  have hi':i < bs.length:=by simpa using hi
  have:=h bs[i] (List.getElem_mem hi')
  simpa [List.getD,hi'] using this
def WM (K:W.Frag):List V→Hp→VK→Prop:=fun xs H Q=>∃(p:Addr) (bs:List Bool),xs=[.ref p]∧aU K H p (bs.map V.bl)∧Q (.bl (bs.all id)) H
theorem MS (hc:X.calm=true):fV X (.builtin "all") (WM X.K):=by
 intro pins s σ H xs us Q I r h
 obtain⟨p,bs,rfl,hq,q⟩:=h
 obtain⟨u,rfl,ru⟩:=vals1 r
 cases ru
 obtain⟨its,rv,pl,hz⟩:=I.list hq
 have hlen:=rv.length
 rw[List.length_map] at hlen
 have hpl:p < s.heap.objs.size:=by obtain⟨o,ho,_⟩:=pl.isList;exact Heap.lt_size ho
 refine call_all_walk (wpAny_pyIter_list pl.isList ⟨s.heap.objs.size,_,_,_,_,_,fun i=>bs.getD i true,rfl,Walks.list (A:=X.A.in1) (show X.A.in1.handled=none from I.ok.hd hc) s.heap.objs.size p (Nat.ne_of_lt hpl) its.toArray,⟨⟨_,Heap.get?_push_size _ rfl,rfl,rfl⟩,pl.isList.at fun o e=>Heap.get?_push_of_some _ e⟩,?_,?_⟩)
 ·intro i v s' Q' E' hv hq'
  have e:its[i]? = some v:=by simpa using hv
  rw[qM rv e]
  exact wpAny_truthy_bool hq'
 ·intro h' tk hk
  have f0:=I.u0 (Nat.le_refl s.heap.objs.size) (I.hok.fresh (Nat.le_refl _))
  have I2:Inv X pins σ H { s with heap:=s.heap.push { cls:=.type "list_iterator",data:=.fields #[.ref p,rawInt 0] } }:=I.kept (t':=s.toks) fun b o e=>Heap.get?_push_of_some _ e
  have I3:=I2.turned (h':=h') (t':=tk) (it:=s.heap.objs.size) (fun b o hb e=>hk b o (by simpa using hb) e) f0.1 f0.2.1 f0.2.2.2.1 f0.2.2.2.2.1 f0.2.2.2.2.2
  refine⟨.bl (bs.all id),H,I3,?_,q⟩
  show Value.bool _=Value.bool _
  rw[List.size_toArray,←hlen,all_range]
theorem rX (K:W.Frag) (h:X.K=K) (hc:X.calm=true):fV X (.builtin "all") (WM K):=by subst h;exact MS hc
def Ss:V→List V→Hp→VK→Prop:=fun x vs H Q=>∃(z:Str) (c:Nat),x=.str z∧vs=[.str (sg c)]∧Q (.int (PyProof.Rows.cnt c z.cps.toList)) H
theorem MT:R9 X "str.count" Ss:=by
 intro pins s σ H x vs v us Q I rx rv h
 obtain⟨z,c,rfl,rfl,q⟩:=h
 obtain⟨t,rfl⟩:=rx
 obtain⟨u,rfl,ru⟩:=rv.one
 obtain⟨t',rfl⟩:=ru
 exact SC.count ⟨.int _,H,I.tok _,⟨_,rfl⟩,by
  have e:Txt.count z (sg c)=PyProof.Rows.cnt c z.cps.toList:=PyProof.Rows.count_is z c
  rw[e];exact q⟩
theorem JX:∀{l:List Nat}{c:Nat},l.Nodup→c∈l→PyProof.Rows.cnt c l=1
 | [],_,_,h=>by cases h
 | n :: r,c,nd,h=>by
  rw[PyProof.Rows.cnt_cons]
  obtain⟨n1,n2⟩:=List.nodup_cons.mp nd
  by_cases e:n=c
  ·subst e
   rw[if_pos rfl,PyProof.Rows.cnt_none _ _ n1];rfl
  ·rw[if_neg e,JX n2 ((List.mem_cons.mp h).resolve_left (Ne.symm e))];rfl
def MU:List V→List V→Bool
 | [],[]=>true
 | x :: xs,y :: ys=>Hy x y && MU xs ys
 | _,_=>false
theorem MV:∀{x:V},n6 x=true→Hy x x=true
 | .non,_=>rfl
 | .bl b,_=>by cases b <;> rfl
 | .int i,_=>by simp[Hy]
 | .str z,_=>by simp[Hy]
end
inductive tH (K:W.Frag) (H:Hp):Nat→V→V→Prop where
 | flat {n:Nat}{x y:V}:n6 x=true→n6 y=true→Hy x y=true→tH K H n x y
 | ref {n:Nat}{a:Addr}:tH K H n (.ref a) (.ref a)
 | tup {n:Nat}{a b:Addr}{xs ys:List V}:aY K H a xs→aY K H b ys→xs.length=ys.length→(∀(j:Nat) x y,xs[j]? = some x→ys[j]? = some y→tH K H n x y)→tH K H (n+1) (.ref a) (.ref b)
 | lst {n:Nat}{a b:Addr}{xs ys:List V}:aU K H a xs→aU K H b ys→xs.length=ys.length→(∀(j:Nat) x y,xs[j]? = some x→ys[j]? = some y→tH K H n x y)→tH K H (n+1) (.ref a) (.ref b)
theorem all_true (n:Nat):(List.range n).all (fun _=>true)=true:=by rw[List.all_eq_true];intro _ _;rfl
section
variable {X:Cx}{pins:List (Addr×Obj)}{σ:St}{H:Hp}{s:Shared}
theorem pD {A:Around}{R:V→V→Prop}{xs ys:List V}{us ws:List Value} (r1:Vals xs us) (r2:Vals ys ws) (h:∀(j:Nat) x y u w,xs[j]? = some x→ys[j]? = some y→RelV x u→RelV y w→SeqAt.EqAt A s u w true) (j:Nat) (h1:j < us.toArray.size) (h2:j < ws.toArray.size) :
  SeqAt.EqAt A s us.toArray[j] ws.toArray[j] true:=by
 have hl1:=r1.length
 have hl2:=r2.length
 have hj1:j < xs.length:=by rw[hl1];simpa using h1
 have hj2:j < ys.length:=by rw[hl2];simpa using h2
 obtain⟨u,eu,ru⟩:=r1.get (i:=j) (x:=xs[j]) (by simp[hj1])
 obtain⟨w,ew,rw'⟩:=r2.get (i:=j) (x:=ys[j]) (by simp[hj2])
 have e1:us.toArray[j]=u:=by
  obtain⟨_,q⟩:=List.getElem?_eq_some_iff.mp eu
  simpa using q
 have e2:ws.toArray[j]=w:=by
  obtain⟨_,q⟩:=List.getElem?_eq_some_iff.mp ew
  simpa using q
 rw[e1,e2]
 exact h j _ _ u w (by simp[hj1]) (by simp[hj2]) ru rw'
theorem Cs (I:Inv X pins σ H s) {n:Nat}{x y:V} (h:tH X.K H n x y):∀{A:Around}{u v:Value},A.units+n < cLine→RelV x u→RelV y v→SeqAt.EqAt A s u v true:=by
 induction h with
 | flat f1 f2 e=>intro A u v _ ru rv;rw[←e];exact Hz ru rv f1 f2
 | ref=>intro A u v _ ru rv;cases ru;cases rv;exact SeqAt.EqAt.same _
 | @tup n a b xs ys ha hb hl _ ih =>
  intro A u v hu ru rv
  cases ru;cases rv
  by_cases e:a=b
  ·subst e;exact SeqAt.EqAt.same _
  ·obtain⟨its,r1,p1,_⟩:=I.tuple ha
   obtain⟨its2,r2,p2,_⟩:=I.tuple hb
   refine SeqAt.EqAt.of_refs e ?_
   have q:=SeqAt.RcAt.tuples (A:=A) (e:=fun _=>true) p1 p2 (by omega) fun j h1 h2=>pD (R:=fun _ _=>True) r1 r2 (fun j x y u w ex ey ru rw'=>ih j x y ex ey (by show A.units+1+n < cLine;omega) ru rw') j h1 h2
   have e2:((List.range (min its.toArray.size its2.toArray.size)).all (fun _=>true) && its.toArray.size == its2.toArray.size)=true:=by
    rw[all_true,List.size_toArray,List.size_toArray,←r1.length,←r2.length,hl];simp
   rw[e2] at q
   exact q
 | @lst n a b xs ys ha hb hl _ ih =>
  intro A u v hu ru rv
  cases ru;cases rv
  by_cases e:a=b
  ·subst e;exact SeqAt.EqAt.same _
  ·obtain⟨its,r1,p1,_⟩:=I.list ha
   obtain⟨its2,r2,p2,_⟩:=I.list hb
   refine SeqAt.EqAt.of_refs e ?_
   have q:=SeqAt.RcAt.lists (A:=A) (e:=fun _=>true) p1.isList p2.isList (by rw[List.size_toArray,List.size_toArray,←r1.length,←r2.length,hl]) (by omega) fun j h1 h2=>pD (R:=fun _ _=>True) r1 r2 (fun j x y u w ex ey ru rw'=>ih j x y ex ey (by show A.units+1+n < cLine;omega) ru rw') j h1 h2
   rw[all_true] at q
   exact q
end
section
variable {X:Cx}
def TopD (K:W.Frag) (H:Hp) (x y:V):Prop:=∃(n:Nat) (a b:Addr) (xs ys:List V),x=.ref a∧y=.ref b∧n≤50∧xs.length=ys.length∧((aY K H a xs∧aY K H b ys)∨(aU K H a xs∧aU K H b ys))∧∀(j:Nat) x y,xs[j]? = some x→ys[j]? = some y→tH K H n x y
def adz (K:W.Frag):R2:=fun x y H Q=>TopD K H x y∧Q (.bl false) H
theorem Su (K:W.Frag) (hK:X.K=K) (hu:X.A.units+64 < cLine):o8 X (compareOp .NotEq) (adz K):=by
 subst hK
 intro pins s σ H x y v u Q I rx ry h
 obtain⟨⟨n,a,b,xs,ys,rfl,rfl,hn,hl,hk,hs⟩,q⟩:=h
 cases rx;cases ry
 show wpAny _ _ (richCompare .NotEq (.ref a) (.ref b)) _ _ _
 rcases hk with ⟨ha,hb⟩ | ⟨ha,hb⟩
 ·obtain⟨its,r1,p1,_⟩:=I.tuple ha
  obtain⟨its2,r2,p2,_⟩:=I.tuple hb
  refine SeqAt.RcNeAt.tuples (e:=fun _=>true) p1 p2 (by omega) (fun j h1 h2=>pD (R:=fun _ _=>True) r1 r2 (fun j x y u w ex ey ru rw'=>Cs I (hs j x y ex ey) (by show X.A.units+1+n < cLine;omega) ru rw') j h1 h2) _ _ _ _ ⟨.bl false,H,I,?_,q⟩
  show Value.bool _=Value.bool _
  rw[all_true,List.size_toArray,List.size_toArray,←r1.length,←r2.length,hl];simp
 ·obtain⟨its,r1,p1,_⟩:=I.list ha
  obtain⟨its2,r2,p2,_⟩:=I.list hb
  refine SeqAt.RcNeAt.lists (e:=fun _=>true) p1.isList p2.isList (by rw[List.size_toArray,List.size_toArray,←r1.length,←r2.length,hl]) (by omega) (fun j h1 h2=>pD (R:=fun _ _=>True) r1 r2 (fun j x y u w ex ey ru rw'=>Cs I (hs j x y ex ey) (by show X.A.units+1+n < cLine;omega) ru rw') j h1 h2) _ _ _ _ ⟨.bl false,H,I,?_,q⟩
  show Value.bool _=Value.bool _
  rw[all_true];rfl
def Sv (K:W.Frag):List V→Hp→VK→Prop:=fun xs H Q=>∃(a:Addr) (c:String) (ys:List V) (b:Bool),xs=[.ref a,.ty c]∧((aY K H a ys∧W.kitOne K (.type "tuple") (.type c)=some b)∨(aU K H a ys∧W.kitOne K (.type "list") (.type c)=some b))∧Q (.bl b) H
theorem qN (K:W.Frag) (hK:X.K=K):fV X (.builtin "isinstance") (Sv K):=by
 subst hK
 intro pins s σ H xs us Q I r h
 obtain⟨a,c,ys,b,rfl,hk,q⟩:=h
 obtain⟨u,w',rfl,ru,rw'⟩:=vals2 r
 cases ru;cases rw'
 have fin:∀ tk,EP X pins σ Q (.bool b) { s with toks:=tk }:=fun tk=>⟨.bl b,H,I.tok tk,rfl,q⟩
 rcases hk with ⟨ha,e⟩ | ⟨ha,e⟩
 ·obtain⟨its,r1,p1,_⟩:=I.tuple ha
  obtain⟨o,h1,h2,_⟩:=p1
  exact W.kia_one W.kitx_tuple I.uZ ⟨o,h1,h2⟩ e (fun z=>nomatch z) fin
 ·obtain⟨its,r1,p1,_⟩:=I.list ha
  obtain⟨o,h1,h2,_⟩:=p1.isList
  exact W.kia_one W.kitx_list I.uZ ⟨o,h1,h2⟩ e (fun z=>nomatch z) fin
end
section
variable {X:Cx}
theorem pF {x:Str}{z:Int}{t:Tok}{pos:Pos} (hg:Gl X x) (hm:X.mg x=some (.int z t)) (hd:(x == ("__debug__" : Str))=false:=by decide):PE X (.Name x pos) (tC (.int z)):=Dm hg hm ⟨t,rfl⟩ hd
end
section
variable {X:Cx}{CX:L1}{k:Nat}{f C:Addr}{fd:FuncData}{ps ks:List Str}{sp:Sp}{E:XK}{x m:Str}{p pos apos kpos:Pos}{e o:Expr}{es:List Expr}{kws:List Keyword}{te ta:TE}{t tk:TA}{nm:Option Str}
 {g:List Value→List Value→List Value}{gV:List V→List V→List V}
end
section
variable {X:Cx}{pins:List (Addr×Obj)}{σ:St}{H:Hp}{s:Shared}
end
section
variable {X:Cx}
end
section
variable {X:Cx}{pins:List (Addr×Obj)}{σ:St}{H:Hp}{s:Shared}{h':Heap}
theorem Inv.JY {t':Nat}{wr:List Addr} (I:Inv X pins σ H s) (k:∀ b o,b∉wr→s.heap.get? b=some o→h'.get? b=some o) (hf:∀ it∈wr,ur X pins H it):Inv X pins σ H { s with heap:=h',toks:=t' }:=by
 have V9:∀ b u,H b=some u→b∉wr:=fun b u e z=>by rw[(hf b z).1] at e;cases e
 have hL:X.env.locals∉wr:=fun z=>(hf _ z).2.1 rfl
 refine I.step (g':=s.gens) (d':=s.drawn) (ch:=wr) (fun b hb=>?_) (fun b o _ _ hc e _=>k b o hc e) (fun b o _ _ hc e _=>⟨o.slots,k b o hc e⟩) (fun _ _ _ _ n=>n)
  (fun b o hc e=>⟨o,k b o hc e⟩) (fun _ _ e=>e) (fun _ _ _ e=>e) (fun b ps e=>⟨#[],by rw[e];simp⟩) (fun m hm=>?_) (fun b u e=>?_) I.bare
 ·obtain⟨f0,f1,f2,f3,f4,f5⟩:=hf b hb
  exact⟨f3,f1,f4,f5⟩
 ·obtain⟨o,es,ep,ho,r⟩:=hm
  exact⟨o,es,ep,k _ o hL ho,r⟩
 ·refine(I.hok b u e).stay (fun c v hc q=>k c v ?_ q) (fun _ q=>q) fun _ _ q=>q
  rcases hc with z | z
  ·rw[z];exact V9 b u e
  ·exact V9 c _ z
end
def hmid (h h2:Heap):Heap:=⟨h.objs++(h2.objs.toList.drop h.objs.size).toArray,h2.life⟩
theorem MW {h h2:Heap}{a:Addr} (ha:a < h.objs.size):(hmid h h2).get? a=h.get? a:=by
 have e:(hmid h h2).objs[a]? = h.objs[a]? := Array.getElem?_append_left ha
 unfold Heap.get?
 rw[e]
theorem MX {h h2:Heap}{a:Addr} (ha:h.objs.size≤a):(hmid h h2).get? a=h2.get? a:=by
 have e:(hmid h h2).objs[a]? = h2.objs[a]? := by
  show(h.objs++(h2.objs.toList.drop h.objs.size).toArray)[a]? = _
  rw[Array.getElem?_append_right ha,List.getElem?_toArray,List.getElem?_drop,Array.getElem?_toList]
  congr 1
  omega
 unfold Heap.get?
 rw[e]
theorem Ct {X:Cx}{pins:List (Addr×Obj)}{σ:St}{H:Hp}{s:Shared}{E:Value→Shared→Prop}{it:Addr}{fpW wr fp:List Addr}{n:Nat}{Pt:Nat→Array Value→Prop}{VG:Nat→Heap→Prop}{Mid:Nat→Addr→Heap→Prop}{elts:List Expr}{k:Nat}{pos:Pos}{J:It}{tn:Nat→Heap→Prop}{i:Nat}
  (W:WalksT X.prog X.w X.A it fpW wr n Pt VG Mid) (I:Inv X pins σ H s) (hfp:∀ b∈fp,ur X pins H b) (hwr:∀ b∈wr,b∈fp) (hsz:∀ b∈fp,b < s.heap.objs.size) (hi:i < n) (hst:VG i s.heap)
  (hv:∀ vals,Pt i vals→∃ vs:List V,vs.length≤sizeLine∧Vals vs vals.toList∧∀ T,H T=none→J.L0 i H (.ref T) (upd H T (.tup vs))) (htn:∀ h,VG (i+1) h→tn (i+1) h) :
  wpAny (model X.prog X.w) X.A (pyNext (.ref it)) (fun r s1=>∃ u,r=some u ∧
   wpAny (model X.prog X.w) X.A (letOwnedTupleGo (.Tuple elts k pos) (.ref it) u) (fun _ s2=>∃ x H',Inv X pins σ H' s2∧RelV x u∧J.L0 i H x H'∧tn (i+1) s2.heap∧∀ b∈fp,H' b=none) E s1) E s:=by
 refine W.item i s _ E hi hst fun T vals h1 tk hPt hT adA WN hk=>⟨.ref T,rfl,?_⟩
 have hap:=W.apart i T h1 WN
 refine W.go elts k pos i T _ _ E WN fun h2 hSt hk2=>?_
 obtain⟨vs,hlen,WO,hy⟩:=hv vals hPt
 have hTn:H T=none:=I.hok.fresh hT
 obtain⟨o,ho,hoc,m,hod⟩:=adA
 have ho2:h2.get? T=some o:=hk2 T o hap ho
 have I1:Inv X pins σ (upd H T (.tup vs)) { s with heap:=hmid s.heap h2,toks:=tk }:=by
  refine I.laid (fun b u e=>(MW (Heap.lt_size e)).trans e) hT ?_
  refine⟨hlen,vals.toList,WO,⟨o,(MX hT).trans ho2,hoc,m,?_⟩⟩
  rw[hod]
 have hne:∀ b∈fp,b≠T:=fun b hb e=>by
  have:=hsz b hb
  rw[e] at this
  exact absurd this (Nat.not_lt.mpr hT)
 have I2:=I1.JY (h':=h2) (t':=tk) (wr:=wr) (fun b ob hb e=>?_) (fun b hb=>?_)
 ·exact⟨.ref T,_,I2,rfl,hy T hTn,htn _ hSt,fun b hb=>(aE (hne b hb)).trans (hfp b hb).1⟩
 ·by_cases hlt:b < s.heap.objs.size
  ·have e:s.heap.get? b=some ob:=(MW hlt).symm.trans e
   exact hk2 b ob hb (hk b ob hb e)
  ·exact(MX (Nat.le_of_not_lt hlt)).symm.trans e
 ·have f:=hfp b (hwr b hb)
  exact⟨(aE (hne b (hwr b hb))).trans f.1,f.2⟩
theorem Cu {X:Cx}{pins:List (Addr×Obj)}{σ:St}{H:Hp}{s:Shared}{E:Value→Shared→Prop}{it:Addr}{fpW wr fp:List Addr}{n:Nat}{Pt:Nat→Array Value→Prop}{VG:Nat→Heap→Prop}{Mid:Nat→Addr→Heap→Prop}
  (W:WalksT X.prog X.w X.A it fpW wr n Pt VG Mid) (I:Inv X pins σ H s) (hfp:∀ b∈fp,ur X pins H b) (hwr:∀ b∈wr,b∈fp) (hst:VG n s.heap) :
  wpAny (model X.prog X.w) X.A (pyNext (.ref it)) (fun r s1=>r=none∧Inv X pins σ H s1) E s :=
 W.done s _ E hst fun h1 tk hk=>⟨rfl,I.JY (h':=h1) (t':=tk) (wr:=wr) hk fun b hb=>hfp b (hwr b hb)⟩
theorem Sw (I l1 l2:Nat) (h1:@LT.lt Nat _ l1 I) (h2:@LT.lt Nat _ l2 I):ZipApart (I+4) (I+2) (I+3) I (I+1) l1 l2:=by
 constructor <;> (intro e;have e':=@id (@Eq Nat _ _) e;omega)
def VH (K:W.Frag) (a:Addr):It :=
 ⟨fun i H=>∃ xs x,aU K H a xs∧xs[i]? = some x,
  fun i H v H'=>∃ t x,H t=none∧v=.ref t∧H'=upd H t (.tup [.int i,x])∧∀ xs,aU K H a xs→xs[i]? = some x,
  fun i H=>∃ xs,aU K H a xs∧xs.length=i⟩
theorem KI {P:Program}{w:World}{K:W.Frag}{elts:List Expr}{k:Nat}{pos:Pos}{e it l:Addr} (hei:e≠it) (hle:l≠e) (hli:l≠it) :
  Turn P w K (.Tuple elts k pos) (VH K l) [e,it] e (fun i h=>(∃ old,IsEnum h e it i old)∧h.IsListIter it l i) where
 mem:=by simp
 obj:=fun i h st b hb=>by
  obtain⟨⟨old,he⟩,⟨o1,e1,c1,d1⟩⟩:=st
  simp only[List.mem_cons,List.mem_nil_iff,or_false] at hb
  rcases hb with rfl | rfl
  ·exact⟨_,he,fun v q=>by cases q⟩
  ·exact⟨_,e1,fun v q=>by rw[d1] at q;cases q⟩
 keep:=fun i h h' st k=>by
  obtain⟨⟨old,he⟩,q1⟩:=st
  exact⟨⟨old,k e (by simp) _ he⟩,q1.at fun o x=>k it (by simp) o x⟩
 item:=by
  intro X hP hw hK hc i pins s σ H E I hf st hg
  subst hP hw hK
  obtain⟨xs,x,hx,ex⟩:=hg
  obtain⟨its,rv,p,hz⟩:=I.list hx
  obtain⟨u,hu,ru⟩:=rv.get ex
  obtain⟨s1,s2⟩:=id st
  have W:=WalksT.enumerate (prog:=X.prog) (w:=X.w) (A:=X.A) (I.ok.hd hc) e it l hei hle hli its.toArray
  refine Ct (J:=VH X.K l) (tn:=fun i h=>(∃ old,IsEnum h e it i old)∧h.IsListIter it l i) W I hf (fun b hb=>hb) ?_ ?_ ?_ ?_ ?_
  ·intro b hb
   simp only[List.mem_cons,List.mem_nil_iff,or_false] at hb
   obtain⟨old,s1⟩:=s1
   obtain⟨o1,e1,_⟩:=s2
   rcases hb with rfl | rfl
   ·exact Heap.lt_size s1
   ·exact Heap.lt_size e1
  ·have h1:=(List.getElem?_eq_some_iff.mp hu).1
   simpa using h1
  ·exact⟨s1,s2,p.isList⟩
  ·intro vals hp
   obtain⟨t,v1,e1,rfl⟩:=hp
   have e1:its[i]? = some v1:=by simpa using e1
   rw[hu] at e1;cases e1
   exact⟨[.int i,x],(by show 2≤sizeLine;decide),.cons ⟨_,rfl⟩ (.cons ru .nil),fun T hT=>⟨T,x,hT,rfl,rfl,fun zs hz=>by rw[I.zK hz hx];exact ex⟩⟩
  ·exact fun h q=>⟨q.1,q.2.1⟩
 done:=by
  intro X hP hw hK hc i pins s σ H E I hf st hg
  subst hP hw hK
  obtain⟨xs,hx,hlen⟩:=hg
  obtain⟨its,rv,p,hz⟩:=I.list hx
  obtain⟨s1,s2⟩:=id st
  have e':i=its.toArray.size:=by rw[List.size_toArray,←rv.length,hlen]
  subst e'
  have W:=WalksT.enumerate (prog:=X.prog) (w:=X.w) (A:=X.A) (I.ok.hd hc) e it l hei hle hli its.toArray
  exact Cu W I hf (fun b hb=>hb) ⟨s1,s2,p.isList⟩
 self:=fun _ _ _ _ _ st h=>by
  obtain⟨⟨old,he⟩,_⟩:=st
  exact wpAny_pyIter_enum he h
def WQ (K:W.Frag) (ta:TA):TI:=fun σ H R=>ta σ H fun vs H1=>∃ a,vs=[.ref a]∧(∃ xs,aU K H1 a xs)∧R (VH K a) H1
theorem MY {X:Cx}{elts:List Expr}{k:Nat}{tpos:Pos}{a:Expr}{ta:TA}{p pos:Pos} (K:W.Frag) (hK:X.K=K) (hg:Gl X "enumerate") (hm:X.mg "enumerate" = none) (ha:PA X [a] ta) (hs:starEach [a] X.env=[(false,eval a X.env)]:=by rfl) :
  PI X (.Tuple elts k tpos) (.Call (.Name "enumerate" p) [a] [] pos) (WQ K ta):=by
 subst hK
 intro pins s σ H R I h
 refine Call_ (o6 I hg hm (u:=.type "enumerate") (by decide +kernel) (PyProof.Rows.callWith_type1 (dQ (ha pos pins s σ H _ I h) fun us s1 ⟨vs,H1,I1,r1,q1⟩=>?_) hs rfl))
 obtain⟨l,e,⟨xs,hx⟩,q⟩:=q1
 subst e
 cases r1 with
 | cons r rr =>
  cases rr
  cases r
  obtain⟨its,rv,pl,hz⟩:=I1.list hx
  have hlt:l < s1.heap.objs.size:=by obtain⟨o,ho,_⟩:=pl.isList;exact Heap.lt_size ho
  refine call_enumerate_list pl.isList fun h' hE hI hsz hk=>?_
  refine wpAny_pyIter_enum hE ?_
  have I2:Inv X pins σ H1 { s1 with heap:=h' }:=I1.kept (t':=s1.toks) fun b o e=>hk b o e
  refine⟨s1.heap.objs.size+1,_,_,_,H1,rfl,I2,KI (Nat.succ_ne_self _) (Nat.ne_of_lt (Nat.lt_succ_of_lt hlt)) (Nat.ne_of_lt hlt),⟨⟨_,hE⟩,hI⟩,fun b hb=>?_,q⟩
  have hb':s1.heap.objs.size≤b:=by
   simp only[List.mem_cons,List.mem_nil_iff,or_false] at hb
   rcases hb with rfl | rfl
   ·exact Nat.le_add_right _ _
   ·exact Nat.le_refl _
  exact I1.u0 hb' (I1.hok.fresh hb')
theorem MZ {K:W.Frag}{a:Addr}{xs:List V}{g:TG}{tb:TS}{D:Ends}{σ:St}{H:Hp} (Pv:Nat→St→Hp→Prop) (h0:Pv 0 σ H) (hl:∀ i σ H,i≤xs.length→Pv i σ H→aU K H a xs)
  (hs:∀ i x t σ H,xs[i]? = some x→H t=none→Pv i σ H→g (.ref t) σ (upd H t (.tup [.int i,x])) fun σ2 H2=>tb { D with nx:=Pv (i+1),ct:=Pv (i+1),bk:=D.nx } σ2 H2) (hd:∀ σ H,Pv xs.length σ H→D.nx σ H) :
  ∃ W:Nat→Nat→St→Hp→Prop,(∃ m,W 0 m σ H)∧∀ i m σ H,W i m σ H →
   ((VH K a).stop i H∧D.nx σ H)∨((VH K a).go i H∧∃ N:St→Hp→Prop,(∀ σ' H',N σ' H'→∃ m',m' < m∧W (i+1) m' σ' H')∧∀ x H',(VH K a).L0 i H x H'→g x σ H' fun σ2 H2=>tb { D with nx:=N,ct:=N,bk:=D.nx } σ2 H2):=by
 refine⟨fun i m σ H=>m=xs.length - i∧i≤xs.length∧Pv i σ H,⟨xs.length,by simp,Nat.zero_le _,h0⟩,?_⟩
 rintro i m σ H ⟨rfl,hi,p⟩
 have q:=hl i σ H hi p
 by_cases hlt:i < xs.length
 ·refine .inr ⟨⟨xs,xs[i],q,by simp[hlt]⟩,Pv (i+1),fun σ' H' p'=>⟨xs.length - (i+1),by omega,rfl,hlt,p'⟩,fun v H' y=>?_⟩
  obtain⟨t,x,ht,e1,e2,ex⟩:=y
  subst e1 e2
  exact hs i x t σ _ (ex xs q) ht p
 ·have e:i=xs.length:=by omega
  subst e
  exact .inl ⟨⟨xs,q,rfl⟩,hd σ H p⟩
def WR (K:W.Frag):List V→Hp→VK→Prop:=fun xs H Q=>∃(p:Addr) (ns:List Nat),xs=[.ref p]∧aU K H p (ns.map fun n:Nat=>V.int n)∧ns.sum < 1000000∧Q (.int (ns.sum:Nat)) H
theorem pre_take (ns:List Nat):∀ k,k≤ns.length→preSum (fun i=>((ns.getD i 0:Nat):Int)) k=((ns.take k).sum:Nat)
 | 0,_=>rfl
 | k+1,h=>by
  show preSum _ k+((ns.getD k 0:Nat):Int)=_
  rw[pre_take ns k (by omega)]
  have hk:k < ns.length:=by omega
  rw[List.take_succ,List.getElem?_eq_getElem hk,List.sum_append]
  simp[List.getD,List.getElem?_eq_getElem hk]
theorem m9 (ns:List Nat) (k:Nat):(ns.take k).sum≤ns.sum:=by
 have e:=congrArg List.sum (List.take_append_drop k ns)
 rw[List.sum_append] at e
 omega
theorem u9:∀{ns:List Nat}{us:List Value}{i:Nat}{v:Value},Vals (ns.map fun n:Nat=>V.int n) us→us[i]? = some v→∃ t,v=.int (ns.getD i 0:Nat) t
 | [],_,i,v,r,e=>by cases r;simp at e
 | n :: ns,_,0,v,r,e=>by
  cases r with
  | cons r1 r2 =>
   simp at e
   subst e
   obtain⟨t,e⟩:=r1
   exact⟨t,by simpa using e⟩
 | n :: ns,_,i+1,v,r,e=>by
  cases r with
  | cons r1 r2 =>
   obtain⟨t,e2⟩:=u9 r2 (i:=i) (v:=v) (by simpa using e)
   exact⟨t,by simpa using e2⟩
theorem KJ {X:Cx} (hc:X.calm=true):fV X (.builtin "sum") (WR X.K):=by
 intro pins s σ H xs us Q I r h
 obtain⟨p,ns,rfl,hq,hs,q⟩:=h
 obtain⟨u,rfl,ru⟩:=vals1 r
 cases ru
 obtain⟨its,rv,pl,hz⟩:=I.list hq
 have hlen:=rv.length
 rw[List.length_map] at hlen
 have hpl:p < s.heap.objs.size:=by obtain⟨o,ho,_⟩:=pl.isList;exact Heap.lt_size ho
 refine call_sum_walk (wpAny_pyIter_list pl.isList ⟨s.heap.objs.size,_,_,_,_,_,fun i=>((ns.getD i 0:Nat):Int),rfl,Walks.list (A:=X.A.in1) (show X.A.in1.handled=none from I.ok.hd hc) s.heap.objs.size p (Nat.ne_of_lt hpl) its.toArray,⟨⟨_,Heap.get?_push_size _ rfl,rfl,rfl⟩,pl.isList.at fun o e=>Heap.get?_push_of_some _ e⟩,?_,?_,?_,?_⟩)
 ·intro b hb
  have e:b=s.heap.objs.size∨b=p:=by simpa using hb
  show b < (s.heap.push _).objs.size
  rw[Heap.size_push]
  rcases e with rfl | rfl
  ·exact Nat.lt_succ_self _
  ·exact Nat.lt_succ_of_lt hpl
 ·intro i v hv
  exact u9 rv (by simpa using hv)
 ·intro j hj
  have hj':j < ns.length:=by rw[hlen];simpa using hj
  have h1:=m9 ns (j+1)
  have h2:ns.getD j 0≤ns.sum:=by
   have:=m9 ns (j+1)
   rw[List.take_succ,List.getElem?_eq_getElem hj',List.sum_append] at this
   simp[List.getD,List.getElem?_eq_getElem hj'] at this ⊢
   omega
  rw[pre_take ns (j+1) (by omega)]
  show InLong ((ns.getD j 0:Nat):Int)∧_
  constructor <;> (unfold InLong;constructor <;> omega)
 ·intro h' tk t' hk
  have f0:=I.u0 (Nat.le_refl s.heap.objs.size) (I.hok.fresh (Nat.le_refl _))
  have I2:Inv X pins σ H { s with heap:=s.heap.push { cls:=.type "list_iterator",data:=.fields #[.ref p,rawInt 0] } }:=I.kept (t':=s.toks) fun b o e=>Heap.get?_push_of_some _ e
  have I3:=I2.turned (h':=h') (t':=tk) (it:=s.heap.objs.size) (fun b o hb e=>hk b o (by simpa using hb) e) f0.1 f0.2.1 f0.2.2.2.1 f0.2.2.2.2.1 f0.2.2.2.2.2
  refine⟨.int (ns.sum:Nat),H,I3,⟨t',?_⟩,q⟩
  rw[List.size_toArray,←hlen,pre_take ns _ (Nat.le_refl _),List.take_of_length_le (Nat.le_refl _)]
theorem Cv {X:Cx} (K:W.Frag) (h:X.K=K) (hc:X.calm=true):fV X (.builtin "sum") (WR K):=by subst h;exact KJ hc
section
variable {X:Cx}
end
section
variable {X:Cx}
end
section
variable {prog:Program}{w:World}{A:Around}{E:Value→Shared→Prop}{s:Shared}
end
section
variable {prog:Program}{w:World}{A:Around}{E:Value→Shared→Prop}{s:Shared}
end
section
variable {prog:Program}{w:World}{A:Around}{E:Value→Shared→Prop}{s:Shared}
end
section
variable {X:Cx}
theorem any_range (bs:List Bool):((List.range bs.length).any fun i=>bs.getD i true)=bs.any id:=by
 rw[Bool.eq_iff_iff,List.any_eq_true,List.any_eq_true]
 constructor
 ·rintro⟨i,hi,h⟩
  have hi':i < bs.length:=by simpa using hi
  exact⟨bs[i],List.getElem_mem hi',by simpa [List.getD,hi'] using h⟩
 ·rintro⟨b,hb,h⟩
  obtain⟨i,hi,rfl⟩:=List.mem_iff_getElem.mp hb
  exact⟨i,by simpa using hi,by simpa [List.getD,hi] using h⟩
def WS (K:W.Frag):List V→Hp→VK→Prop:=fun xs H Q=>∃(p:Addr) (bs:List Bool),xs=[.ref p]∧aU K H p (bs.map V.bl)∧Q (.bl (bs.any id)) H
theorem M0 (hc:X.calm=true):fV X (.builtin "any") (WS X.K):=by
 intro pins s σ H xs us Q I r h
 obtain⟨p,bs,rfl,hq,q⟩:=h
 obtain⟨u,rfl,ru⟩:=vals1 r
 cases ru
 obtain⟨its,rv,pl,hz⟩:=I.list hq
 have hlen:=rv.length
 rw[List.length_map] at hlen
 have hpl:p < s.heap.objs.size:=by obtain⟨o,ho,_⟩:=pl.isList;exact Heap.lt_size ho
 refine call_any_walk (wpAny_pyIter_list pl.isList ⟨s.heap.objs.size,_,_,_,_,_,fun i=>bs.getD i true,rfl,Walks.list (A:=X.A.in1) (show X.A.in1.handled=none from I.ok.hd hc) s.heap.objs.size p (Nat.ne_of_lt hpl) its.toArray,⟨⟨_,Heap.get?_push_size _ rfl,rfl,rfl⟩,pl.isList.at fun o e=>Heap.get?_push_of_some _ e⟩,?_,?_⟩)
 ·intro i v s' Q' E' hv hq'
  have e:its[i]? = some v:=by simpa using hv
  rw[qM rv e]
  exact wpAny_truthy_bool hq'
 ·intro h' tk hk
  have f0:=I.u0 (Nat.le_refl s.heap.objs.size) (I.hok.fresh (Nat.le_refl _))
  have I2:Inv X pins σ H { s with heap:=s.heap.push { cls:=.type "list_iterator",data:=.fields #[.ref p,rawInt 0] } }:=I.kept (t':=s.toks) fun b o e=>Heap.get?_push_of_some _ e
  have I3:=I2.turned (h':=h') (t':=tk) (it:=s.heap.objs.size) (fun b o hb e=>hk b o (by simpa using hb) e) f0.1 f0.2.1 f0.2.2.2.1 f0.2.2.2.2.1 f0.2.2.2.2.2
  refine⟨.bl (bs.any id),H,I3,?_,q⟩
  show Value.bool _=Value.bool _
  rw[List.size_toArray,←hlen,any_range]
theorem KL (K:W.Frag) (h:X.K=K) (hc:X.calm=true):fV X (.builtin "any") (WS K):=by subst h;exact M0 hc
end
inductive Bo (K:W.Frag) (H:Hp):Nat→V→V→Bool→Prop where
 | flat {n:Nat}{x y:V}:n6 x=true→n6 y=true→Bo K H n x y (Hy x y)
 | same {n:Nat}{a:Addr}:Bo K H n (.ref a) (.ref a) true
 | tup {n:Nat}{a b:Addr}{xs ys:List V}{e:Nat→Bool}:a≠b→aY K H a xs→aY K H b ys→(∀(j:Nat) x y,xs[j]? = some x→ys[j]? = some y→Bo K H n x y (e j))→Bo K H (n+1) (.ref a) (.ref b) ((List.range (min xs.length ys.length)).all e && xs.length == ys.length)
 | lst {n:Nat}{a b:Addr}{xs ys:List V}{e:Nat→Bool}:a≠b→aU K H a xs→aU K H b ys→xs.length=ys.length→(∀(j:Nat) x y,xs[j]? = some x→ys[j]? = some y→Bo K H n x y (e j))→Bo K H (n+1) (.ref a) (.ref b) ((List.range xs.length).all e)
 | len {n:Nat}{a b:Addr}{xs ys:List V}:a≠b→aU K H a xs→aU K H b ys→xs.length≠ys.length→Bo K H (n+1) (.ref a) (.ref b) false
section
variable {X:Cx}{pins:List (Addr×Obj)}{σ:St}{H:Hp}{s:Shared}
theorem lT {A:Around}{e:Nat→Bool}{xs ys:List V}{us ws:List Value} (r1:Vals xs us) (r2:Vals ys ws) (h:∀(j:Nat) x y u w,xs[j]? = some x→ys[j]? = some y→RelV x u→RelV y w→SeqAt.EqAt A s u w (e j)) (j:Nat) (h1:j < us.toArray.size) (h2:j < ws.toArray.size) :
  SeqAt.EqAt A s us.toArray[j] ws.toArray[j] (e j):=by
 have hl1:=r1.length
 have hl2:=r2.length
 have hj1:j < xs.length:=by rw[hl1];simpa using h1
 have hj2:j < ys.length:=by rw[hl2];simpa using h2
 obtain⟨u,eu,ru⟩:=r1.get (i:=j) (x:=xs[j]) (by simp[hj1])
 obtain⟨w,ew,rw'⟩:=r2.get (i:=j) (x:=ys[j]) (by simp[hj2])
 have e1:us.toArray[j]=u:=by
  obtain⟨_,q⟩:=List.getElem?_eq_some_iff.mp eu
  simpa using q
 have e2:ws.toArray[j]=w:=by
  obtain⟨_,q⟩:=List.getElem?_eq_some_iff.mp ew
  simpa using q
 rw[e1,e2]
 exact h j _ _ u w (by simp[hj1]) (by simp[hj2]) ru rw'
theorem vd (I:Inv X pins σ H s) {n:Nat}{x y:V}{b:Bool} (h:Bo X.K H n x y b):∀{A:Around}{u v:Value},A.units+n < cLine→RelV x u→RelV y v→SeqAt.EqAt A s u v b:=by
 induction h with
 | flat f1 f2=>intro A u v _ ru rv;exact Hz ru rv f1 f2
 | same=>intro A u v _ ru rv;cases ru;cases rv;exact SeqAt.EqAt.same _
 | @tup n a b xs ys e ne ha hb _ ih =>
  intro A u v hu ru rv
  cases ru;cases rv
  obtain⟨its,r1,p1,_⟩:=I.tuple ha
  obtain⟨its2,r2,p2,_⟩:=I.tuple hb
  refine SeqAt.EqAt.of_refs ne ?_
  have q:=SeqAt.RcAt.tuples (A:=A) (e:=e) p1 p2 (by omega) fun j h1 h2=>lT r1 r2 (fun j x y u w ex ey ru rw'=>ih j x y ex ey (by show A.units+1+n < cLine;omega) ru rw') j h1 h2
  rw[List.size_toArray,List.size_toArray,←r1.length,←r2.length] at q
  exact q
 | @lst n a b xs ys e ne ha hb hl _ ih =>
  intro A u v hu ru rv
  cases ru;cases rv
  obtain⟨its,r1,p1,_⟩:=I.list ha
  obtain⟨its2,r2,p2,_⟩:=I.list hb
  refine SeqAt.EqAt.of_refs ne ?_
  have q:=SeqAt.RcAt.lists (A:=A) (e:=e) p1.isList p2.isList (by rw[List.size_toArray,List.size_toArray,←r1.length,←r2.length,hl]) (by omega) fun j h1 h2=>lT r1 r2 (fun j x y u w ex ey ru rw'=>ih j x y ex ey (by show A.units+1+n < cLine;omega) ru rw') j h1 h2
  rw[List.size_toArray,←r1.length] at q
  exact q
 | @len n a b xs ys ne ha hb hl =>
  intro A u v hu ru rv
  cases ru;cases rv
  obtain⟨its,r1,p1,_⟩:=I.list ha
  obtain⟨its2,r2,p2,_⟩:=I.list hb
  refine SeqAt.EqAt.of_refs ne ?_
  exact SeqAt.RcAt.lists_lengths (A:=A) p1.isList p2.isList (by rw[List.size_toArray,List.size_toArray,←r1.length,←r2.length];simpa using hl) (by omega)
end
section
variable {X:Cx}
inductive TopC (K:W.Frag) (H:Hp):V→V→Bool→Prop where
 | tup {n:Nat}{a b:Addr}{xs ys:List V}{e:Nat→Bool}:n≤50→aY K H a xs→aY K H b ys→(∀(j:Nat) x y,xs[j]? = some x→ys[j]? = some y→Bo K H n x y (e j))→TopC K H (.ref a) (.ref b) ((List.range (min xs.length ys.length)).all e && xs.length == ys.length)
 | lst {n:Nat}{a b:Addr}{xs ys:List V}{e:Nat→Bool}:n≤50→aU K H a xs→aU K H b ys→xs.length=ys.length→(∀(j:Nat) x y,xs[j]? = some x→ys[j]? = some y→Bo K H n x y (e j))→TopC K H (.ref a) (.ref b) ((List.range xs.length).all e)
 | len {a b:Addr}{xs ys:List V}:aU K H a xs→aU K H b ys→xs.length≠ys.length→TopC K H (.ref a) (.ref b) false
def adB (K:W.Frag):R2:=fun x y H Q=>∃ b,TopC K H x y b∧Q (.bl b) H
def adC (K:W.Frag):R2:=fun x y H Q=>∃ b,TopC K H x y b∧Q (.bl (!b)) H
theorem Sx (K:W.Frag) (hK:X.K=K) (hu:X.A.units+64 < cLine):o8 X (compareOp .Eq) (adB K):=by
 subst hK
 intro pins s σ H x y v u Q I rx ry h
 obtain⟨b,hk,q⟩:=h
 cases hk with
 | @tup n a b xs ys e hn ha hb hs =>
  cases rx;cases ry
  obtain⟨its,r1,p1,_⟩:=I.tuple ha
  obtain⟨its2,r2,p2,_⟩:=I.tuple hb
  refine SeqAt.eq_tupleAt (e:=e) p1 p2 (by omega) (fun j h1 h2=>lT r1 r2 (fun j x y u w ex ey ru rw'=>vd I (hs j x y ex ey) (by show X.A.units+1+n < cLine;omega) ru rw') j h1 h2) ⟨.bl _,H,I,?_,q⟩
  show Value.bool _=Value.bool _
  rw[List.size_toArray,List.size_toArray,←r1.length,←r2.length]
 | @lst n a b xs ys e hn ha hb hl hs =>
  cases rx;cases ry
  obtain⟨its,r1,p1,_⟩:=I.list ha
  obtain⟨its2,r2,p2,_⟩:=I.list hb
  refine SeqAt.eq_listAt (e:=e) p1.isList p2.isList (by rw[List.size_toArray,List.size_toArray,←r1.length,←r2.length,hl]) (by omega) (fun j h1 h2=>lT r1 r2 (fun j x y u w ex ey ru rw'=>vd I (hs j x y ex ey) (by show X.A.units+1+n < cLine;omega) ru rw') j h1 h2) ⟨.bl _,H,I,?_,q⟩
  show Value.bool _=Value.bool _
  rw[List.size_toArray,←r1.length]
 | @len a b xs ys ha hb hl =>
  cases rx;cases ry
  obtain⟨its,r1,p1,_⟩:=I.list ha
  obtain⟨its2,r2,p2,_⟩:=I.list hb
  show wpAny _ _ (richCompare .Eq (.ref a) (.ref b)) _ _ _
  exact SeqAt.RcAt.lists_lengths p1.isList p2.isList (by rw[List.size_toArray,List.size_toArray,←r1.length,←r2.length];simpa using hl) (by omega) _ _ _ _ ⟨.bl false,H,I,rfl,q⟩
theorem Sy (K:W.Frag) (hK:X.K=K) (hu:X.A.units+64 < cLine):o8 X (compareOp .NotEq) (adC K):=by
 subst hK
 intro pins s σ H x y v u Q I rx ry h
 obtain⟨b,hk,q⟩:=h
 cases hk with
 | @tup n a b xs ys e hn ha hb hs =>
  cases rx;cases ry
  show wpAny _ _ (richCompare .NotEq (.ref a) (.ref b)) _ _ _
  obtain⟨its,r1,p1,_⟩:=I.tuple ha
  obtain⟨its2,r2,p2,_⟩:=I.tuple hb
  refine SeqAt.RcNeAt.tuples (e:=e) p1 p2 (by omega) (fun j h1 h2=>lT r1 r2 (fun j x y u w ex ey ru rw'=>vd I (hs j x y ex ey) (by show X.A.units+1+n < cLine;omega) ru rw') j h1 h2) _ _ _ _ ⟨.bl _,H,I,?_,q⟩
  show Value.bool _=Value.bool _
  rw[List.size_toArray,List.size_toArray,←r1.length,←r2.length]
 | @lst n a b xs ys e hn ha hb hl hs =>
  cases rx;cases ry
  show wpAny _ _ (richCompare .NotEq (.ref a) (.ref b)) _ _ _
  obtain⟨its,r1,p1,_⟩:=I.list ha
  obtain⟨its2,r2,p2,_⟩:=I.list hb
  refine SeqAt.RcNeAt.lists (e:=e) p1.isList p2.isList (by rw[List.size_toArray,List.size_toArray,←r1.length,←r2.length,hl]) (by omega) (fun j h1 h2=>lT r1 r2 (fun j x y u w ex ey ru rw'=>vd I (hs j x y ex ey) (by show X.A.units+1+n < cLine;omega) ru rw') j h1 h2) _ _ _ _ ⟨.bl _,H,I,?_,q⟩
  show Value.bool _=Value.bool _
  rw[List.size_toArray,←r1.length]
 | @len a b xs ys ha hb hl =>
  cases rx;cases ry
  obtain⟨its,r1,p1,_⟩:=I.list ha
  obtain⟨its2,r2,p2,_⟩:=I.list hb
  show wpAny _ _ (richCompare .NotEq (.ref a) (.ref b)) _ _ _
  exact SeqAt.RcNeAt.lists_lengths p1.isList p2.isList (by rw[List.size_toArray,List.size_toArray,←r1.length,←r2.length];simpa using hl) (by omega) _ _ _ _ ⟨.bl true,H,I,rfl,q⟩
end
structure mh (prog:Program) (w:World) (K:Type) [DecidableEq K] where
 is:Heap→K→Value→Prop
 hash:K→Int
 draws:K→Nat
 fL:Nat
 inj:∀{h:Heap}{v:Value}{x y:K},is h x v→is h y v→x=y
 keeps:∀{h h':Heap}{k:K}{v:Value}{d:Addr}{o:Obj}{es ep},is h k v→h.get? d=some o→o.data=.dict es ep→Heap.SameBut d h h'→is h' k v
 pyHash:∀{A:Around}{E:Value→Shared→Prop}{s:Shared}{k:K}{v:Value}{Q:Int→Shared→Prop},A.units+fL < cLine→is s.heap k v→Q (hash k) { s with toks:=s.toks+draws k }→wpAny (model prog w) A (PySem.pyHash v) Q E s
 eq:∀{A:Around}{s:Shared}{x y:K}{u v:Value},A.units+fL < cLine→is s.heap x u→is s.heap y v→SeqAt.EqAt A s u v (decide (x=y))
 quiet:∀{A:Around}{E:Value→Shared→Prop}{s:Shared}{k:K}{v:Value}{Q:Bool→Shared→Prop}{n:Nat},fL≤n→is s.heap k v→Q true s→wpAny (model prog w) A (eqIsQuiet n v) Q E s
section
variable {prog:Program}{w:World}{K:Type} [DecidableEq K] (V:mh prog w K)
def TupIs (h:Heap) (ks:List K) (a:Addr):Prop:=∃ o items n,h.get? a=some o∧o.cls=.type "tuple"∧o.data=.seq items n∧Paired (fun k v=>V.is h k v) ks items.toList
def zF (ks:List K):Int:=reduceHash (Builtin.Tuple.tupleHashOf (ks.map V.hash))
variable {V}
theorem TupIs.ty {s:Shared}{ks:List K}{a:Addr} (x:TupIs V s.heap ks a):s.TypeIs (.ref a) "tuple" := by obtain⟨o,_,_,ho,hc,_⟩:=x;exact⟨o,ho,hc⟩
theorem zU {h:Heap}:∀{x y:List K}{vs:List Value},Paired (fun k v=>V.is h k v) x vs→Paired (fun k v=>V.is h k v) y vs→x=y
 | _,_,_,.nil,.nil=>rfl
 | _,_,_,.cons a r,.cons b q=>by rw[V.inj a b,zU r q]
theorem TupIs.inj {h:Heap}{a:Addr}{x y:List K} (hx:TupIs V h x a) (hy:TupIs V h y a):x=y:=by
 obtain⟨o,items,n,ho,_,hd,hi⟩:=hx
 obtain⟨o',items',n',ho',_,hd',hi'⟩:=hy
 rw[ho] at ho'
 cases ho'
 rw[hd] at hd'
 cases hd'
 exact zU hi hi'
theorem TupIs.keeps {h h':Heap}{ks:List K}{a d:Addr}{o:Obj}{es ep} (x:TupIs V h ks a) (ho:h.get? d=some o) (hd:o.data=.dict es ep) (hs:Heap.SameBut d h h'):TupIs V h' ks a:=by
 obtain⟨o',items,n,e1,e2,e3,e4⟩:=x
 have hne:a≠d:=fun e=>by
  subst e
  rw[e1] at ho
  cases ho
  rw[hd] at e3;cases e3
 exact⟨o',items,n,(hs.2 a hne).trans e1,e2,e3,Paired.Kp e4 fun k v q=>V.keeps q ho hd hs⟩
variable {A:Around}{E:Value→Shared→Prop}{s:Shared}
theorem EW {ks:List K}{a:Addr}{Q:Int→Shared→Prop} (hu:A.units+(V.fL+1) < cLine) (hk:TupIs V s.heap ks a) (h:Q (zF V ks) { s with toks:=s.toks+((ks.map V.draws).sum+1) }) :
  wpAny (model prog w) A (pyHash (.ref a)) Q E s:=by
 have hT:=hk.ty
 have g8:A.units < cLine:=by omega
 obtain⟨o,items,n,ho,_,hd,hi⟩:=hk
 unfold pyHash
 first | unfold pyHashByItsType | skip
 first | refine wpAny_bind (wpAny_cRoomFor_or (.inr g8) ?_) | skip
 refine wpAny_bind (wpAny_specialOf hT F.slot_tuple_hash.lookup ?_);show wpAny _ _ (if (some (Value.builtin "tuple.__hash__") == some Value.none)=true then _ else _) Q E s
 rw[if_neg (by rw[beq_builtin_none];exact Bool.false_ne_true)];refine wpAny_bind (wpAny_specialOf hT F.slot_tuple_hash.lookup ?_)
 show wpAny _ _ (callSpecialIfBoundUnlessNone? (.ref a) "__hash__" _ >>= _) Q E s;refine wpAny_bind (wpAny_callSpecialIfBoundUnlessNone?_slot hT F.slot_tuple_hash (wpAny_call_entry F.slot_tuple_hash hT F.entry_tuple_hash ?_ (F.args_tuple_hash_1 _)))
 have hu1:A.in1.units+V.fL < cLine:=by show A.units+1+V.fL < cLine;omega
 show wpAny _ _ (Builtin.Tuple.tupleItemsOf (.ref a) >>= _) _ _ s
 refine wpAny_bind (wpAny_tupleItemsOf ho hd (wpAny_bind ?_))
 rw[←Array.forIn_toList]
 refine wpAny_forIn_list _ (fun rest (b:Array Int) s'=>∃ done left,ks=done++left∧Paired (fun k v=>V.is s.heap k v) left rest∧b.toList=done.map V.hash∧s'={ s with toks:=s.toks+(done.map V.draws).sum }) _ ?_ ?_ _ _ ⟨[],ks,rfl,hi,rfl,rfl⟩
 ·rintro x rest b s' ⟨done,left,rfl,hl,hb,rfl⟩
  cases hl with
  | @cons k _ ks' _ h1 hl' =>
   have fin:∃ d l,done++k :: ks'=d++l∧Paired (fun k v=>V.is s.heap k v) l rest∧(b.push (V.hash k)).toList=d.map V.hash∧({ s with toks:=s.toks+(done.map V.draws).sum+V.draws k }:Shared)={ s with toks:=s.toks+(d.map V.draws).sum }:=⟨done++[k],ks',by simp,hl',by simp[hb],by simp[Nat.add_assoc]⟩
   refine wpAny_bind (V.pyHash hu1 h1 ?_)
   first
    | exact wpAny_pure fin
    | exact wpAny_bind (wpAny_pure (wpAny_pure fin))
 ·rintro b s' ⟨done,left,rfl,hl,hb,rfl⟩
  cases hl
  rw[List.append_nil] at h
  show wpAny _ _ (retInt (Builtin.Tuple.tupleHashOf b.toList)) _ _ _
  rw[hb]
  refine wpAny_ret_mkInt ?_
  generalize hz:Builtin.Tuple.tupleHashOf (done.map V.hash)=z
  unfold zF reduceHash at h
  rw[hz] at h
  show wpAny _ _ (if (decide (-(2:Int) ^ 63≤z) && decide (z < 2 ^ 63))=true then _ else _) Q E _
  by_cases hr:(decide (-(2:Int) ^ 63≤z) && decide (z < 2 ^ 63))=true
  ·rw[if_pos hr] at h ⊢
   exact wpAny_pure (by simpa [Nat.add_assoc] using h)
  ·rw[if_neg hr] at h ⊢
   exact wpAny_bind (wpAny_rule (wpAny_pure (by simpa [Nat.add_assoc] using h)))
theorem uw {x y:List K}:((List.range (min x.length y.length)).all (fun j=>decide (x[j]? = y[j]?)) && x.length == y.length)=decide (x=y):=by
 rw[Bool.eq_iff_iff,Bool.and_eq_true,List.all_eq_true,decide_eq_true_iff,beq_iff_eq]
 constructor
 ·rintro⟨q,hl⟩
  refine List.ext_getElem? fun i=>?_
  by_cases hi:i < x.length
  ·exact of_decide_eq_true (q i (List.mem_range.mpr (by omega)))
  ·rw[List.getElem?_eq_none (by omega),List.getElem?_eq_none (by omega)]
 ·rintro rfl
  exact⟨fun i _=>decide_eq_true rfl,rfl⟩
theorem iO {F:K→Value→Prop}:∀{ks:List K}{vs:List Value},Paired F ks vs→∀(j:Nat) v,vs[j]? = some v→∃ k,ks[j]? = some k∧F k v
 | _,_,.nil,j,v,h=>by simp at h
 | _,_,.cons a r,0,v,h=>by cases h;exact⟨_,rfl,a⟩
 | _,_,.cons a r,j+1,v,h=>by
  rw[List.getElem?_cons_succ] at h
  obtain⟨k,e,q⟩:=iO r j v h
  exact⟨k,by rw[List.getElem?_cons_succ];exact e,q⟩
theorem M1 {x y:List K}{a b:Addr} (hu:A.units+(V.fL+1) < cLine) (hx:TupIs V s.heap x a) (hy:TupIs V s.heap y b):SeqAt.EqAt A s (.ref a) (.ref b) (decide (x=y)):=by
 by_cases e:a=b
 ·subst e
  rw[decide_eq_true (hx.inj hy)]
  exact SeqAt.EqAt.same _
 ·obtain⟨o,items,n,h1,h2,h3,h4⟩:=hx
  obtain⟨o',items',n',Sz,h2',h3',PB⟩:=hy
  have l1:x.length=items.size:=by rw[Paired.length h4,Array.length_toList]
  have l2:y.length=items'.size:=by rw[Paired.length PB,Array.length_toList]
  refine SeqAt.EqAt.of_refs e ?_
  rw[←uw,l1,l2]
  refine SeqAt.RcAt.tuples ⟨o,h1,h2,n,h3⟩ ⟨o',Sz,h2',n',h3'⟩ (by omega) fun j j1 j2=>?_
  obtain⟨k,ek,hk⟩:=iO h4 j items[j] (by simp[j1])
  obtain⟨k',WT,hk'⟩:=iO PB j items'[j] (by simp[j2])
  rw[ek,WT,show decide (some k=some k')=decide (k=k') by simp]
  exact V.eq (by show A.units+1+V.fL < cLine;omega) hk hk'
theorem Cw {ks:List K}{a:Addr}{Q:Bool→Shared→Prop}{n:Nat} (hn:V.fL+1≤n) (hk:TupIs V s.heap ks a) (h:Q true s):wpAny (model prog w) A (eqIsQuiet n (.ref a)) Q E s:=by
 have hT:=hk.ty
 obtain⟨o,items,m,ho,_,hd,hi⟩:=hk
 obtain⟨n,rfl⟩:∃ n',n=n'+1:=⟨n - 1,by omega⟩
 unfold eqIsQuiet
 refine wpAny_bind (wpAny_specialOf hT F.slot_tuple_eq.lookup ?_);show wpAny _ _ (isInstance (.ref a) (.type "tuple") >>= _) _ _ s
 refine wpAny_bind (wpAny_isInstance hT isSubtype_tuple_tuple ?_)
 simp only[Bool.not_true,Bool.false_eq_true,if_false]
 refine wpAny_bind (wpAny_seqItems ho hd (wpAny_bind ?_))
 show wpAny _ _ (forIn items _ _) _ _ s
 rw[←Array.forIn_toList]
 refine wpAny_forIn_list _ (fun rest r s'=>r.1=none∧s'=s∧∃ l,Paired (fun k v=>V.is s.heap k v) l rest) _ ?_ ?_ _ _ ⟨rfl,rfl,ks,hi⟩
 ·rintro v rest r s' ⟨hr,rfl,l,hl⟩
  cases hl with
  | @cons k _ ks' _ h1 hl' =>
   refine wpAny_bind (V.quiet (by omega) h1 ?_)
   simp only[Bool.not_true,Bool.false_eq_true,if_false]
   exact wpAny_pure ⟨rfl,rfl,ks',hl'⟩
 ·rintro⟨r1,r2⟩ s' ⟨hr,rfl,_⟩
  simp only at hr
  subst hr
  exact wpAny_pure h
end
abbrev Lf:=Option Key
def EX:Lf→Value→Prop
 | none,v=>v=.none
 | some k,v=>yb k v=true
section
variable {prog:Program}{w:World}{A:Around}{E:Value→Shared→Prop}{s:Shared}
theorem KN {Q:Int→Shared→Prop} (hu:A.units < cLine) (h:Q 4238894112 { s with toks:=s.toks+1 }):wpAny (model prog w) A (pyHash .none) Q E s:=by
 have hT:s.TypeIs .none "NoneType" := rfl
 unfold pyHash
 first | unfold pyHashByItsType | skip
 first | refine wpAny_bind (wpAny_cRoomFor_or (.inr hu) ?_) | skip
 refine wpAny_bind (wpAny_specialOf hT F.slot_NoneType_hash.lookup ?_)
 show wpAny _ _ (if (some (Value.builtin "NoneType.__hash__") == some Value.none)=true then _ else _) Q E s
 rw[if_neg (by rw[beq_builtin_none];exact Bool.false_ne_true)];refine wpAny_bind (wpAny_specialOf hT F.slot_NoneType_hash.lookup ?_)
 show wpAny _ _ (callSpecialIfBoundUnlessNone? .none "__hash__" _ >>= _) Q E s
 refine wpAny_bind (wpAny_callSpecialIfBoundUnlessNone?_slot hT F.slot_NoneType_hash (wpAny_call_entry F.slot_NoneType_hash hT F.entry_NoneType_hash ?_ (F.args_NoneType_hash_1 _)))
 show wpAny _ _ (retInt 4238894112) _ _ _
 refine wpAny_ret_mkInt ?_
 show wpAny _ _ (if (decide (-(2:Int) ^ 63≤4238894112) && decide ((4238894112:Int) < 2 ^ 63))=true then _ else _) Q E _
 rw[if_pos (by decide)]
 exact wpAny_pure h
theorem nN {k:Key}{v:Value} (h:yb k v=true):(∃ i t,k=.inl i∧v=.int i t)∨∃ z t,k=.inr z∧v=.str z t:=dh h
theorem M3 (prog:Program) (w:World) {v:Value}{x y:Lf} (hx:EX x v) (hy:EX y v):x=y:=by
 cases x with
 | none =>
  cases y with
  | none=>rfl
  | some k=>rcases nN hy with ⟨i,t,rfl,e⟩ | ⟨z,t,rfl,e⟩ <;> (rw[show v=.none from hx] at e;cases e)
 | some k =>
  cases y with
  | none=>rcases nN hx with ⟨i,t,rfl,e⟩ | ⟨z,t,rfl,e⟩ <;> (rw[show v=.none from hy] at e;cases e)
  | some k'=>rw[(oZ prog w).inj v k k' hx hy]
theorem Rn {x y:Lf}{u v:Value} (hx:EX x u) (hy:EX y v):SeqAt.EqAt A s u v (decide (x=y)):=by
 cases x with
 | none =>
  have hx:u=.none:=hx
  subst hx
  cases y with
  | none =>
   have hy:v=.none:=hy
   subst hy
   rw[decide_eq_true rfl];exact SeqAt.EqAt.same _
  | some k =>
   rw[decide_eq_false (by simp)]
   rcases nN hy with ⟨i,t,rfl,rfl⟩ | ⟨z,t,rfl,rfl⟩
   ·exact SeqAt.EqAt.none_int _ _
   ·exact SeqAt.EqAt.none_str _ _
 | some k =>
  cases y with
  | none =>
   have hy:v=.none:=hy
   subst hy
   rw[decide_eq_false (by simp)]
   rcases nN hx with ⟨i,t,rfl,rfl⟩ | ⟨z,t,rfl,rfl⟩
   ·exact SeqAt.EqAt.int_none _ _
   ·exact SeqAt.EqAt.str_none _ _
  | some k' =>
   rw[show decide (some k=some k')=decide (k=k') by simp]
   rcases nN hx with ⟨i,t,rfl,rfl⟩ | ⟨z,t,rfl,rfl⟩ <;> rcases nN hy with ⟨i',t',rfl,rfl⟩ | ⟨z',t',rfl,rfl⟩
   ·rw[Mg];exact SeqAt.EqAt.int_int _ _ _ _
   ·rw[Mi];exact SeqAt.EqAt.int_str _ _ _ _
   ·rw[Mj];exact SeqAt.EqAt.str_int _ _ _ _
   ·rw[Mh,show decide (z=z')=(z == z') by rw[Bool.eq_iff_iff,decide_eq_true_iff,beq_iff_eq]];exact SeqAt.EqAt.str_str _ _ _ _
theorem HL {x:Lf}{v:Value} (h:EX x v):carriedByValue v=true:=by
 cases x with
 | none=>rw[show v=.none from h];rfl
 | some k=>rcases nN h with ⟨i,t,rfl,rfl⟩ | ⟨z,t,rfl,rfl⟩ <;> rfl
end
def M4 (w:World):Lf→Int
 | none=>4238894112
 | some k=>V4 w k
def EY (prog:Program) (w:World):mh prog w Lf where
 is:=fun _ k v=>EX k v
 hash:=M4 w
 draws:=fun _=>1
 fL:=0
 inj:=fun hx hy=>M3 prog w hx hy
 keeps:=fun h _ _ _=>h
 pyHash:=fun {A E s k v Q} hu h q=>by
  cases k with
  | none =>
   have h:v=.none:=h
   subst h
   exact KN hu q
  | some k=>exact(oZ prog w).pyHash h q
 eq:=fun _ hx hy=>Rn hx hy
 quiet:=fun {A E s k v Q n} _ h q=>by rw[eqIsQuiet_byValue n (HL h)];exact wpAny_pure q
section
variable {prog:Program}{w:World}{K:Type} [DecidableEq K] (V:mh prog w K)
def SA (h:Heap):Lf ⊕ List K→Value→Prop
 | .inl k,v=>EX k v
 | .inr ks,v=>∃ a,v=.ref a∧TupIs V h ks a
def SD:Lf ⊕ List K→Int
 | .inl k=>M4 w k
 | .inr ks=>zF V ks
def PD:Lf ⊕ List K→Nat
 | .inl _=>1
 | .inr ks=>(ks.map V.draws).sum+1
variable {V}
theorem M5 {k:Lf}{a:Addr} (h:EX k (.ref a)):False:=by
 cases k with
 | none=>cases(show Value.ref a=.none from h)
 | some k=>rcases nN h with ⟨i,t,rfl,e⟩ | ⟨z,t,rfl,e⟩ <;> cases e
theorem WU {A:Around}{s:Shared}{x y:Lf ⊕ List K}{u v:Value} (hu:A.units+(V.fL+1) < cLine) (hx:SA V s.heap x u) (hy:SA V s.heap y v):SeqAt.EqAt A s u v (decide (x=y)):=by
 cases x with
 | inl k =>
  cases y with
  | inl k' =>
   rw[show decide ((Sum.inl k:Lf ⊕ List K)=.inl k')=decide (k=k') by simp]
   exact Rn hx hy
  | inr ks =>
   obtain⟨a,rfl,o,items,n,h1,h2,h3,h4⟩:=hy
   rw[decide_eq_false (fun q=>nomatch q)]
   cases k with
   | none =>
    have hx:u=.none:=hx
    subst hx
    exact SeqAt.EqAt.none_tuple ⟨o,h1,h2,n,h3⟩ (by omega)
   | some k =>
    rcases nN hx with ⟨i,t,rfl,rfl⟩ | ⟨z,t,rfl,rfl⟩
    ·exact SeqAt.EqAt.int_tuple _ _ ⟨o,h1,h2,n,h3⟩ (by omega)
    ·exact SeqAt.EqAt.str_tuple _ _ ⟨o,h1,h2,n,h3⟩ (by omega)
 | inr ks =>
  obtain⟨a,rfl,hxa⟩:=hx
  cases y with
  | inl k' =>
   obtain⟨o,items,n,h1,h2,h3,h4⟩:=hxa
   rw[decide_eq_false (fun q=>nomatch q)]
   cases k' with
   | none =>
    have hy:v=.none:=hy
    subst hy
    exact SeqAt.EqAt.tuple_none ⟨o,h1,h2,n,h3⟩ (by omega)
   | some k =>
    rcases nN hy with ⟨i,t,rfl,rfl⟩ | ⟨z,t,rfl,rfl⟩
    ·exact SeqAt.EqAt.tuple_int _ _ ⟨o,h1,h2,n,h3⟩ (by omega)
    ·exact SeqAt.EqAt.tuple_str _ _ ⟨o,h1,h2,n,h3⟩ (by omega)
  | inr ks' =>
   obtain⟨b,rfl,hyb⟩:=hy
   rw[show decide ((Sum.inr ks:Lf ⊕ List K)=.inr ks')=decide (ks=ks') by simp]
   exact M1 hu hxa hyb
def stepK (V:mh prog w K):mh prog w (Lf ⊕ List K) where
 is:=SA V
 hash:=SD V
 draws:=PD V
 fL:=V.fL+1
 inj:=fun {h v x y} hx hy=>by
  cases x with
  | inl k =>
   cases y with
   | inl k'=>rw[M3 prog w hx hy]
   | inr ks=>obtain⟨a,rfl,_⟩:=hy;exact(M5 hx).elim
  | inr ks =>
   obtain⟨a,rfl,hxa⟩:=hx
   cases y with
   | inl k'=>exact(M5 hy).elim
   | inr ks'=>obtain⟨b,e,hyb⟩:=hy;cases e;rw[hxa.inj hyb]
 keeps:=fun {h h' k v d o es ep} hx ho hd hs=>by
  cases k with
  | inl k=>exact hx
  | inr ks=>obtain⟨a,rfl,hxa⟩:=hx;exact⟨a,rfl,hxa.keeps ho hd hs⟩
 pyHash:=fun {A E s k v Q} hu hx q=>by
  cases k with
  | inl k=>exact(EY prog w).pyHash (by show A.units+0 < cLine;omega) hx q
  | inr ks=>obtain⟨a,rfl,hxa⟩:=hx;exact EW hu hxa q
 eq:=fun hu hx hy=>WU hu hx hy
 quiet:=fun {A E s k v Q n} hn hx q=>by
  cases k with
  | inl k=>exact(EY prog w).quiet (Nat.zero_le _) hx q
  | inr ks=>obtain⟨a,rfl,hxa⟩:=hx;exact Cw hn hxa q
def yf (V:mh prog w K) (hl:V.fL+1≤8):HeapKind prog w (List K) where
 is:=TupIs V
 hash:=zF V
 draws:=fun ks=>(ks.map V.draws).sum+1
 room:=fun A=>A.units+(V.fL+1) < cLine
 inj:=fun hx hy=>hx.inj hy
 keeps:=fun x ho hd hs=>x.keeps ho hd hs
 pyHash:=fun hu hk h=>EW hu hk h
 eqBool:=fun hu hx hy h=>M1 hu hx hy prog w _ _ h
 quiet:=fun hk h=>Cw hl hk h
end
section
variable {κ:Type} [DecidableEq κ]
theorem uY.Cy {o:Option V}{u:Option Value} (r:uY o u):o.isSome=u.isSome:=by
 cases o with
 | none=>cases u with
  | none=>rfl
  | some _=>exact(show False from r).elim
 | some _=>cases u with
  | none=>exact(show False from r).elim
  | some _=>rfl
end
theorem WV {P:Program}{w:World}{k:Key}{u:Value} (r:RelV (kV k) u):(oZ P w).is k u=true:=by
 cases k with
 | inl i=>obtain⟨t,e⟩:=(show ∃ t,u=Value.int i t from r);subst e;exact EK P w i t
 | inr x=>obtain⟨t,e⟩:=(show ∃ t,u=Value.str x t from r);subst e;exact EL P w x t
section
variable {P:Program}{w:World}{H:Hp}{h:Heap}{a:Addr}
end
section
variable {X:Cx}{pins:List (Addr×Obj)}{σ:St}{H:Hp}{s:Shared}{a:Addr}{y v:V}{u r:Value}{o:Option V}{A:Around}{E:Value→Shared→Prop}
theorem Inv.big (I:Inv X pins σ H s):sysModules < s.heap.objs.size:=by
 have h:mainGlobals < s.heap.objs.size:=(I.mod.glob.keeps I.bk).lt
 exact Nat.lt_trans (by decide) h
end
section
variable {X:Cx}{pins:List (Addr×Obj)}{σ:St}{H:Hp}{s:Shared}{a:Addr}{kvs:List (Key×V)}{k:Key}{u:Value}{A:Around}{E:Value→Shared→Prop}
end
def SE (i:Expr):Prop:=∀ ov iv,subscripted i false ov iv=operate [ov,iv] (getItem ov iv)
theorem PF {prog:Program}{w:World}{A:Around}{E:Value→Shared→Prop}{s:Shared}{env:Env}{value slice:Expr}{pos:Pos}{T id:String}{Q:Value→Shared→Prop}
  (hl:typeLookup (.type T) "__getitem__" = pure (some (.builtin id))) (hs:SE slice)
  (h:wpAny (model prog w) A (eval value env) (fun o s₁=>wpAny (model prog w) A (eval slice env) (fun i s₂=>s₂.TypeIs o T∧wpAny (model prog w) A (getItem o i) Q E s₂) E s₁) E s) :
  wpAny (model prog w) A (eval (.Subscript value slice pos) env) Q E s:=by
 refine Subscript_ (wpAny_mono h (fun o s₁ h₁=>wpAny_mono h₁ (fun i s₂ h₂=>?_) fun _ _ x=>x) fun _ _ x=>x)
 obtain⟨hT,h₂⟩:=h₂
 unfold subscriptTail
 refine wpAny_bind ?_
 rw[getitemInPython_of_ne hT.not_modules]
 refine wpAny_bind (wpAny_specialOf hT hl ?_)
 have fin:wpAny (model prog w) A (subscripted slice false o i) (fun r s₃=>wpAny (model prog w) A (letTemporaryGo value o r >>= fun _=>pure r) Q E s₃) E s₂:=by
  rw[hs o i]
  exact wpAny_operating (wpAny_mono h₂ (fun r s₃ h₃=>wpAny_bind (wpAny_letTemporaryGo (wpAny_pure h₃))) fun _ _ x=>x)
 first
  | exact wpAny_pure (wpAny_bind fin)
  | exact wpAny_bind (wpAny_pure (wpAny_bind fin))
  | exact wpAny_bind fin
section
variable {X:Cx}{o i e value:Expr}{pos pos' tpos:Pos}{td ty tv:TE}
end
section
variable {X:Cx}{pos:Pos}
end
section
variable {X:Cx}{pins:List (Addr×Obj)}{σ:St}{H:Hp}{s:Shared}{a:Addr}{y d:V}{u r:Value}{o:Option V}{A:Around}{E:Value→Shared→Prop}
end
section
variable {X:Cx}{o e f:Expr}{apos cpos:Pos}{td ty tx:TE}
end
section
variable {X:Cx}{pins:List (Addr×Obj)}{σ:St}{H:Hp}{s:Shared}{a:Addr}{kvs:List (Key×V)}{A:Around}{E:Value→Shared→Prop}
end
section
variable {X:Cx}{pins:List (Addr×Obj)}{σ:St}{H:Hp}{s:Shared}{a:Addr}{y:V}{u:Value}{A:Around}{E:Value→Shared→Prop}
end
def lfV:Lf→V
 | none=>.non
 | some k=>kV k
theorem qO {α β γ:Type}{F:α→β→Prop}{G:β→γ→Prop}:∀{xs:List α}{ys:List β}{zs:List γ},Paired F xs ys→Paired G ys zs→Paired (fun a c=>∃ b,F a b∧G b c) xs zs
 | _,_,_,.nil,.nil=>.nil
 | _,_,_,.cons a r,.cons b q=>.cons ⟨_,a,b⟩ (qO r q)
section
variable {P:Program}{w:World}{K:Type} [DecidableEq K]
structure oY (F:W.Frag) (Z:mh P w K) where
 on:Hp→K→V→Prop
 ok:∀{X:Cx}{pins:List (Addr×Obj)}{σ:St}{H:Hp}{s:Shared}{k:K}{v:V}{u:Value},X.K=F→Inv X pins σ H s→RelV v u→on H k v→Z.is s.heap k u
 keep:∀{H H':Hp}{k:K}{v:V},(∀ b xs,aY F H b xs→aY F H' b xs)→on H k v→on H' k v
def qm {F:W.Frag}{Z:mh P w K} (Y:oY F Z) (H:Hp) (ks:List K) (b:Addr):Prop:=∃ vs,aY F H b vs∧Paired (fun k v=>Y.on H k v) ks vs
variable {F:W.Frag}{Z:mh P w K}{Y:oY F Z}{H H':Hp}{ks:List K}{b:Addr}
theorem qm.is {X:Cx}{pins:List (Addr×Obj)}{σ:St}{s:Shared} (hF:X.K=F) (I:Inv X pins σ H s) (e:qm Y H ks b):TupIs Z s.heap ks b:=by
 obtain⟨vs,e,r⟩:=e
 obtain⟨its,rv,⟨o,h1,h2,n,h3⟩,_⟩:=I.tuple (by rw[hF];exact e)
 exact⟨o,its.toArray,n,h1,h2,h3,by simpa using Paired.Kp (qO r rv) (fun k u ⟨v,a,c⟩=>Y.ok hF I c a)⟩
theorem qm.keep (t:∀ b xs,aY F H b xs→aY F H' b xs) (e:qm Y H ks b):qm Y H' ks b:=by
 obtain⟨vs,e,r⟩:=e
 exact⟨vs,t _ _ e,Paired.Kp r fun k v q=>Y.keep t q⟩
theorem qm.mono (s:∀ a o,H a=some o→H' a=some o) (e:qm Y H ks b):qm Y H' ks b:=e.keep fun b xs q=>by
 rcases q with (q | ⟨o,q⟩) | q
 ·exact .inl (.inl (s _ _ q))
 ·exact .inl (.inr ⟨o,s _ _ q⟩)
 ·exact .inr q
end
def M6 (P:Program) (w:World) (F:W.Frag):oY F (EY P w) where
 on:=fun _ k v=>v=lfV k
 ok:=fun {X pins σ H s k v u} _ _ r e=>by
  subst e
  cases k with
  | none=>cases r;rfl
  | some k=>exact WV (P:=P) (w:=w) r
 keep:=fun _ e=>e
section
variable {P:Program}{w:World}{K:Type} [DecidableEq K]
def adD {F:W.Frag}{Z:mh P w K} (Y:oY F Z) (H:Hp):Lf ⊕ List K→V→Prop
 | .inl k,v=>v=lfV k
 | .inr ks,v=>∃ b,v=.ref b∧qm Y H ks b
def ve {F:W.Frag}{Z:mh P w K} (Y:oY F Z):oY F (stepK Z) where
 on:=adD Y
 ok:=fun {X pins σ H s k v u} hF I r e=>by
  cases k with
  | inl k=>exact(M6 P w F).ok hF I r e
  | inr ks =>
   obtain⟨b,rfl,e⟩:=e
   cases r
   exact⟨b,rfl,e.is hF I⟩
 keep:=fun {H H' k v} t e=>by
  cases k with
  | inl k=>exact e
  | inr ks=>obtain⟨b,rfl,e⟩:=e;exact⟨b,rfl,e.keep t⟩
abbrev N3 (K:Type):=List K×Addr×V
abbrev yF:List (N3 K)→List (List K×Addr×Value)→Prop:=Paired fun p q=>p.1=q.1∧p.2.1=q.2.1∧RelV p.2.2 q.2.2
def zV (Z:mh P w K) (hl:Z.fL+1≤8) (a:Addr) (kvs:List (N3 K)) (h:Heap):Prop :=
 kvs.length≤sizeLine∧(a == sysModules)=false∧∃ xs,yF kvs xs∧∃ o es ep,h.get? a=some o∧o.ExactDict∧o.data=.dict es ep∧es.toList=xs.map (entryOfKey (yf Z hl))∧(xs.map (·.1)).Nodup
def dN (Z:mh P w K) (hl:Z.fL+1≤8) (a:Addr) (kvs:List (N3 K)):HO:=.ext (zV Z hl a kvs)
structure Nd {F:W.Frag}{Z:mh P w K} (Y:oY F Z) (hl:Z.fL+1≤8) (H:Hp) (a:Addr) (kvs:List (N3 K)):Prop where
 ob:H a=some (dN Z hl a kvs)
 keys:∀ e∈kvs,qm Y H e.1 e.2.1
variable {F:W.Frag}{Z:mh P w K}{Y:oY F Z}{hl:Z.fL+1≤8}{H H':Hp}{h:Heap}{a b:Addr}{kvs:List (N3 K)}
theorem Nd.mono (s:∀ a o,H a=some o→H' a=some o) (d:Nd Y hl H a kvs):Nd Y hl H' a kvs:=⟨s _ _ d.ob,fun e he=>(d.keys e he).mono s⟩
theorem M7 {xs:List (List K×Addr×Value)}:∀{kvs:List (N3 K)},yF kvs xs→∀ q∈xs,∃ p∈kvs,p.1=q.1∧p.2.1=q.2.1:=by
 intro kvs r
 induction r with
 | nil=>intro q hq;cases hq
 | cons a r ih =>
  intro q hq
  rcases List.mem_cons.mp hq with rfl | hq
  ·exact⟨_,List.mem_cons_self ..,a.1,a.2.1⟩
  ·obtain⟨p,hp,e⟩:=ih q hq
   exact⟨p,List.mem_cons_of_mem _ hp,e⟩
theorem Nd.of {X:Cx}{K:Type} [DecidableEq K] {F:W.Frag}{Z:mh X.prog X.w K}{Y:oY F Z}{hl:Z.fL+1≤8}{H:Hp}{a:Addr}{kvs:List (N3 K)}{pins:List (Addr×Obj)}{σ:St}{s:Shared} (hF:X.K=F) (I:Inv X pins σ H s) (d:Nd Y hl H a kvs):kvs.length≤sizeLine∧(a == sysModules)=false∧∃ xs,yF kvs xs∧s.heap.DictOfH (yf Z hl) a xs:=by
 obtain⟨⟨z,y,xs,r,o,es,ep,h1,h2,h3,h4,h5⟩,_⟩:=(show eY X.prog X.w H s.heap a (dN Z hl a kvs) from I.hok a _ d.ob)
 refine⟨z,y,xs,r,o,es,ep,h1,h2,h3,h4,fun x hx=>?_,h5⟩
 obtain⟨p,hp,e1,e2⟩:=M7 r x hx
 have:=(d.keys p hp).is hF I
 rw[e1,e2] at this
 exact this
theorem M8 {h':Heap}{xs:List (List K×Addr×Value)} (z:kvs.length≤sizeLine) (y:(a == sysModules)=false) (r:yF kvs xs) (dd:h'.DictOfH (yf Z hl) a xs):eY P w H h' a (dN Z hl a kvs):=by
 obtain⟨o,es,ep,h1,h2,h3,h4,_,h5⟩:=dd
 refine⟨⟨z,y,xs,r,o,es,ep,h1,h2,h3,h4,h5⟩,⟨o,h1⟩,fun g1 g2 q k=>?_⟩
 obtain⟨z,y,xs,r,o,es,ep,h1,h2,h3,h4,h5⟩:=q
 exact⟨z,y,xs,r,o,es,ep,k _ h1,h2,h3,h4,h5⟩
def valN (kvs:List (N3 K)) (k:List K):Option V:=(kvs.find? fun x=>decide (x.1=k)).map (·.2.2)
theorem vf {k:List K}:∀{kvs:List (N3 K)}{xs:List (List K×Addr×Value)},yF kvs xs→uY (valN kvs k) ((atKey xs k).map (·.2))
 | _,_,.nil=>trivial
 | p :: kvs,q :: xs,.cons a r=>by
  have ih:=vf (k:=k) r
  unfold valN atKey at ih ⊢
  rw[List.find?_cons,List.find?_cons,a.1]
  by_cases e:q.1=k
  ·rw[decide_eq_true e];exact a.2.2
  ·rw[decide_eq_false e];exact ih
def putN (kvs:List (N3 K)) (k:List K) (b:Addr) (v:V):List (N3 K):=if (valN kvs k).isSome=true then kvs.map (fun x=>if x.1=k then (x.1,x.2.1,v) else x) else kvs++[(k,b,v)]
theorem vg {k:List K}{v:V} (h:valN kvs k=none):putN kvs k b v=kvs++[(k,b,v)]:=by unfold putN;rw[h];rfl
theorem EZ {k:List K}{v:V}{u:Value} (rv:RelV v u):∀{kvs:List (N3 K)}{xs:List (List K×Addr×Value)},yF kvs xs→yF (kvs.map (fun x=>if x.1=k then (x.1,x.2.1,v) else x)) (xs.map (putAt k u))
 | _,_,.nil=>.nil
 | p :: kvs,q :: xs,.cons a r=>by
  refine .cons ?_ (EZ rv r)
  unfold putAt
  by_cases e:q.1=k
  ·rw[if_pos e,show(fun x:N3 K=>if x.1=k then (x.1,x.2.1,v) else x) p=(p.1,p.2.1,v) from if_pos (a.1.trans e)];exact⟨a.1,a.2.1,rv⟩
  ·rw[if_neg e,show(fun x:N3 K=>if x.1=k then (x.1,x.2.1,v) else x) p=p from if_neg (fun q=>e (a.1.symm.trans q))];exact a
theorem E1 {kvs':List (N3 K)}{xs':List (List K×Addr×Value)}:∀{kvs:List (N3 K)}{xs:List (List K×Addr×Value)},yF kvs xs→yF kvs' xs'→yF (kvs++kvs') (xs++xs')
 | _,_,.nil,q=>q
 | _,_,.cons a r,q=>.cons a (E1 r q)
theorem M9 {k:List K}{v:V}{u:Value}{xs:List (List K×Addr×Value)} (r:yF kvs xs) (rv:RelV v u):yF (putN kvs k b v) (storedH xs k b u):=by
 have q:=(vf (k:=k) r).Cy
 rw[Option.isSome_map] at q
 unfold putN storedH
 by_cases e:(valN kvs k).isSome=true
 ·rw[if_pos e,if_pos (by rw[←q];exact e)];exact EZ rv r
 ·rw[if_neg e,if_neg (by rw[←q];exact e)];exact E1 r (.cons ⟨rfl,rfl,rv⟩ .nil)
theorem Na {k:List K}{v:V}:(putN kvs k b v).length≤kvs.length+1:=by
 unfold putN
 split
 ·rw[List.length_map];omega
 ·rw[List.length_append];exact Nat.le_refl _
theorem pG (d:H a=some (dN Z hl a kvs)) {o:HO}:∀ c xs,aY F H c xs→aY F (upd H a o) c xs:=fun c xs e=>by
 rcases e with (e | ⟨ob,e⟩) | e
 ·exact .inl (.inl ((aE (gW e d (fun q=>nomatch q))).trans e))
 ·exact .inl (.inr ⟨ob,(aE (gW e d (fun q=>nomatch q))).trans e⟩)
 ·exact .inr e
theorem Nd.put {k:List K}{v:V} (d:Nd Y hl H a kvs) (e:qm Y H k b):Nd Y hl (upd H a (dN Z hl a (putN kvs k b v))) a (putN kvs k b v):=by
 refine⟨aj,fun p hp=>?_⟩
 have t:=pG (F:=F) d.ob (o:=dN Z hl a (putN kvs k b v))
 unfold putN at hp
 split at hp
 ·obtain⟨x,hx,rfl⟩:=List.mem_map.mp hp
  have:=(d.keys x hx).keep t
  split <;> exact this
 ·rcases List.mem_append.mp hp with q | q
  ·exact(d.keys p q).keep t
  ·rw[List.mem_singleton.mp q];exact e.keep t
end
section
variable {X:Cx}{K:Type} [DecidableEq K] {F:W.Frag}{Z:mh X.prog X.w K}{Y:oY F Z}{hl:Z.fL+1≤8}{pins:List (Addr×Obj)}{σ:St}{H:Hp}{s:Shared}{a b:Addr}{kvs:List (N3 K)}{k:List K}{v:V}{r:Value}{A:Around}{E:Value→Shared→Prop}
theorem KO {Q:Value→Shared→Prop} (hu:A.units+1+(Z.fL+1) < cLine) (hF:X.K=F) (I:Inv X pins σ H s) (d:Nd Y hl H a kvs) (e:qm Y H k b) (g:valN kvs k=some v) (h:∀ w' s',Inv X pins σ H s'→RelV v w'→Q w' s'):wpAny (model X.prog X.w) A (getItem (.ref a) (.ref b)) Q E s:=by
 obtain⟨z,y,xs,rel,dd⟩:=d.of hF I
 obtain⟨w',hw,rw'⟩:=uY.some_of (v:=v) (o:=(atKey xs k).map (·.2)) (by rw[←g];exact vf rel)
 obtain⟨p,hp,hp2⟩:=Option.map_eq_some_iff.mp hw
 refine wpAny_getItem_heap (knd:=yf Z hl) hu (e.is hF I) dd hp ?_
 rw[hp2]
 exact h w' _ (I.tok _) rw'
theorem PJ {Q:Value→Shared→Prop} (hu:A.units+1+(Z.fL+1) < cLine) (hF:X.K=F) (I:Inv X pins σ H s) (d:Nd Y hl H a kvs) (e:qm Y H k b) (h:∀ s',Inv X pins σ H s'→Q (.bool (!(valN kvs k).isSome)) s'):wpAny (model X.prog X.w) A (compareOp .NotIn (.ref b) (.ref a)) Q E s:=by
 obtain⟨z,y,xs,rel,dd⟩:=d.of hF I
 refine wpAny_notIn_heap (knd:=yf Z hl) hu (e.is hF I) y dd ?_
 have q:=(vf (k:=k) rel).Cy
 rw[Option.isSome_map] at q
 rw[←q]
 exact h _ (I.tok _)
theorem KP {Q:Unit→Shared→Prop} (hu:A.units+1+(Z.fL+1) < cLine) (hF:X.K=F) (I:Inv X pins σ H s) (d:Nd Y hl H a kvs) (e:qm Y H k b) (hz:kvs.length < sizeLine) (rv:RelV v r) (h:∀ s',Inv X pins σ (upd H a (dN Z hl a (putN kvs k b v))) s'→Q () s'):wpAny (model X.prog X.w) A (setItem (.ref a) (.ref b) r) Q E s:=by
 obtain⟨z,y,xs,rel,dd⟩:=d.of hF I
 have hxz:xs.length≤sizeLine:=by rw[←Paired.length rel];exact z
 refine wpAny_setItem_heap (knd:=yf Z hl) (hsz:=hxz) hu (e.is hF I) dd fun h' WW hs=>h _ ?_
 have he:∃ q,h'.get? a=some q:=let ⟨q,_,_,hq,_⟩:=WW;⟨q,hq⟩
 have:=Na (kvs:=kvs) (k:=k) (b:=b) (v:=v)
 exact I.write (x:=a) (e:=a) (by rw[d.ob];exact True.intro) (.inl rfl) (fun c q hc z=>(hs.2 c hc).trans z) he (M8 (by omega) y (M9 rel rv) WW)
variable {o i value kx:Expr}{pos pos':Pos}{td ty tv:TE}
def Ro {P:Program}{w:World}{K:Type} [DecidableEq K] {F:W.Frag}{Z:mh P w K} (Y:oY F Z) (hl:Z.fL+1≤8) (td ty:TE):TE:=fun σ H Q=>td σ H fun x H1=>ty σ H1 fun y H2=>∃ a kvs k b v,x=.ref a∧y=.ref b∧Nd Y hl H2 a kvs∧qm Y H2 k b∧valN kvs k=some v∧Q v H2
def JZ {P:Program}{w:World}{K:Type} [DecidableEq K] {F:W.Frag}{Z:mh P w K} (Y:oY F Z) (hl:Z.fL+1≤8) (ty td:TE):TE:=fun σ H Q=>ty σ H fun y H1=>td σ H1 fun x H2=>∃ a kvs k b,x=.ref a∧y=.ref b∧Nd Y hl H2 a kvs∧qm Y H2 k b∧Q (.bl (!(valN kvs k).isSome)) H2
def Rp {P:Program}{w:World}{K:Type} [DecidableEq K] {F:W.Frag}{Z:mh P w K} (Y:oY F Z) (hl:Z.fL+1≤8) (td ty tv:TE):TS:=fun D σ H=>tv σ H fun v H1=>td σ H1 fun x H2=>ty σ H2 fun y H3=>∃ a kvs k b,x=.ref a∧y=.ref b∧Nd Y hl H3 a kvs∧qm Y H3 k b∧kvs.length < sizeLine∧D.nx σ (upd H3 a (dN Z hl a (putN kvs k b v)))
def Rq {P:Program}{w:World}{K:Type} [DecidableEq K] {F:W.Frag}{Z:mh P w K} (Y:oY F Z) (hl:Z.fL+1≤8) (tk tv:TE):TE:=fun σ H Q=>∀ p,H p=none→tk σ (upd H p (dN Z hl p [])) fun y H1=>tv σ H1 fun v H2=>∃ k b,y=.ref b∧H2 p=some (dN Z hl p [])∧qm Y H2 k b∧Q (.ref p) (upd H2 p (dN Z hl p [(k,b,v)]))
theorem PK (Y:oY F Z) (hl:Z.fL+1≤8) (hF:X.K=F) (hu:X.A.units+1+(Z.fL+1) < cLine) (ho:PE X o td) (hi:PE X i ty) (hs:SE i):PE X (.Subscript o i pos) (Ro Y hl td ty):=by
 intro pins s σ H Q I h
 refine PF PySem.F.slot_dict_getitem.lookup hs (dQ (ho pins s σ H _ I h) fun u s1 ⟨x,H1,I1,rx,q1⟩=>dQ (hi pins s1 σ H1 _ I1 q1) fun iv s2 ⟨y,H2,I2,ry,a,kvs,k,b,v,ex,ey,d,e,g,q2⟩=>?_)
 subst ex ey
 obtain rfl:u=Value.ref a:=rx
 obtain rfl:iv=Value.ref b:=ry
 obtain⟨_,_,xs,_,dd⟩:=d.of hF I2
 exact⟨dd.typeIs,KO hu hF I2 d e g fun w' s3 I3 rw'=>⟨v,H2,I3,rw',q2⟩⟩
theorem KQ (Y:oY F Z) (hl:Z.fL+1≤8) (hF:X.K=F) (hu:X.A.units+1+(Z.fL+1) < cLine) (hi:PE X i ty) (ho:PE X o td):PC X .NotIn i o (JZ Y hl ty td):=by
 intro pins s σ H Q I h
 refine dQ (hi pins s σ H _ I h) fun iv s1 ⟨y,H1,I1,ry,q1⟩=>dQ (ho pins s1 σ H1 _ I1 q1) fun u s2 ⟨x,H2,I2,rx,a,kvs,k,b,ex,ey,d,e,q2⟩=>?_
 subst ex ey
 obtain rfl:u=Value.ref a:=rx
 obtain rfl:iv=Value.ref b:=ry
 exact PJ hu hF I2 d e fun s3 I3=>⟨.bl (!(valN kvs k).isSome),H2,I3,rfl,q2⟩
theorem PL (Y:oY F Z) (hl:Z.fL+1≤8) (hF:X.K=F) (hu:X.A.units+1+(Z.fL+1) < cLine) (ho:PE X o td) (hi:PE X i ty) (hv:PE X value tv) (hs:swapsWith value (some (.Subscript o i pos')) pos.line X.env=pure false) :
  PS X (.Assign [.Subscript o i pos'] value pos) (Rp Y hl td ty tv):=by
 intro pins s σ H D I h
 refine wpAny_Assign_Subscript (dQ (hv pins s σ H _ I h) fun r s1 ⟨v,H1,I1,rv,q1⟩=>dQ (ho pins s1 σ H1 _ I1 q1) fun u s2 ⟨x,H2,I2,rx,q2⟩=>dQ (hi pins s2 σ H2 _ I2 q2) fun iv s3 ⟨y,H3,I3,ry,a,kvs,k,b,ex,ey,d,e,hz,q3⟩=>?_) hs
 subst ex ey
 obtain rfl:u=Value.ref a:=rx
 obtain rfl:iv=Value.ref b:=ry
 exact KP hu hF I3 d e hz rv fun s4 I4=>⟨σ,_,I4,q3⟩
theorem Nb (Y:oY F Z) (hl:Z.fL+1≤8) (hF:X.K=F) (hu:X.A.units+(Z.fL+1) < cLine) {tk:TE} (hk:PE X kx tk) (hv:PE X value tv):PE X (.Dict [some kx] [value] pos) (Rq Y hl tk tv):=by
 intro pins s σ H Q I q
 have hn:=I.hok.fresh (Nat.le_refl s.heap.objs.size)
 have y0:(s.heap.objs.size == sysModules)=false:=beq_eq_false_iff_ne.mpr (Ne.symm (Nat.ne_of_lt I.big))
 have I1:=I.laid (a:=s.heap.objs.size) (o:=dN Z hl s.heap.objs.size []) (h':=s.heap.push { cls:=.type "dict",data:=.dict #[] }) (t':=s.toks) (fun _ _ q=>Heap.get?_push_of_some _ q) (Nat.le_refl _) (M8 (xs:=[]) (Nat.zero_le _) y0 .nil (Heap.DictOfH.new s.heap))
 refine wpAny_Dict_any rfl rfl (fun z=>nomatch z) (by show 1≤15;decide) (pairTrees_cons_walk (dQ (hk pins _ σ _ _ I1 (q _ hn)) fun u s1 ⟨x,H1,I1',rx,q1⟩=>dQ (hv pins s1 σ H1 _ I1' q1) fun vu s2 ⟨v,H2,I2,rv,k,b,ex,e,ek,q2⟩=>pairTrees_nil_walk ?_))
 subst ex
 obtain rfl:u=Value.ref b:=rx
 have d0:Nd Y hl H2 s.heap.objs.size []:=⟨e,fun x hx=>nomatch hx⟩
 obtain⟨z,y,xs,rel,dd⟩:=d0.of hF I2
 cases rel
 unfold storeAll
 refine wpAny_forIn_list _ (fun rest _ s'=>(rest=[(Value.ref b,vu)]∧s'=s2)∨(rest=[]∧EP X pins σ Q (Value.ref s.heap.objs.size) s')) _ ?_ ?_ _ _ (.inl ⟨rfl,rfl⟩)
 ·rintro x rest u s' (⟨e1,rfl⟩ | ⟨e1,_⟩)
  ·cases e1
   refine wpAny_bind (wpAny_dictSet_heap (knd:=yf Z hl) (hsz:=Nat.zero_le _) hu (ek.is hF I2) dd fun h' WW hs=>wpAny_pure (.inr ⟨rfl,.ref s.heap.objs.size,_,?_,rfl,q2⟩))
   have he:∃ q,h'.get? s.heap.objs.size=some q:=let ⟨q,_,_,hq,_⟩:=WW;⟨q,hq⟩
   exact I2.write (x:=s.heap.objs.size) (e:=s.heap.objs.size) (by rw[e];exact True.intro) (.inl rfl) (fun c q hc z=>(hs.2 c hc).trans z) he (M8 (by show 1≤sizeLine;decide) y (.cons ⟨rfl,rfl,rv⟩ .nil) WW)
  ·cases e1
 ·rintro u s' (⟨e1,_⟩ | ⟨_,q⟩)
  ·cases e1
  ·exact q
end
section
variable {X:Cx}{K:Type} [DecidableEq K] {F:W.Frag}{Z:mh X.prog X.w K}
def adE {P:Program}{w:World}{K:Type} [DecidableEq K] {F:W.Frag}{Z:mh P w K} (Y:oY F Z):R2:=fun x y H Q=>∃ b b' ks ks',x=.ref b∧y=.ref b'∧qm Y H ks b∧qm Y H ks' b'∧Q (.bl (decide (ks=ks'))) H
theorem DA (Y:oY F Z) (hF:X.K=F) (hu:X.A.units+(Z.fL+1) < cLine):o8 X (compareOp .Eq) (adE Y):=by
 intro pins s σ H x y v u Q I rx ry h
 obtain⟨b,b',ks,ks',rfl,rfl,e1,e2,q⟩:=h
 cases rx;cases ry
 obtain⟨o,items,n,h1,h2,h3,h4⟩:=e1.is hF I
 obtain⟨o',items',n',Sz,h2',h3',PB⟩:=e2.is hF I
 have l1:ks.length=items.size:=by rw[Paired.length h4,Array.length_toList]
 have l2:ks'.length=items'.size:=by rw[Paired.length PB,Array.length_toList]
 refine SeqAt.eq_tupleAt (e:=fun j=>decide (ks[j]? = ks'[j]?)) ⟨o,h1,h2,n,h3⟩ ⟨o',Sz,h2',n',h3'⟩ (by omega) (fun j j1 j2=>?_) ⟨.bl (decide (ks=ks')),H,I,?_,q⟩
 ·obtain⟨k,ek,hk⟩:=iO h4 j items[j] (by simp[j1])
  obtain⟨k',WT,hk'⟩:=iO PB j items'[j] (by simp[j2])
  rw[ek,WT,show decide (some k=some k')=decide (k=k') by simp]
  exact Z.eq (by show X.A.units+1+Z.fL < cLine;omega) hk hk'
 ·show Value.bool _=Value.bool _
  rw[←l1,←l2,uw]
end
abbrev ZM (P:Program) (w:World):=stepK (EY P w)
abbrev YL (P:Program) (w:World) (F:W.Frag):=M6 P w F
abbrev YM (P:Program) (w:World) (F:W.Frag):oY F (ZM P w):=ve (M6 P w F)
theorem hn0 {A:Around}{P:Program}{w:World} (h:A.units+64 < cLine):A.units+((EY P w).fL+1) < cLine:=by show A.units+1 < cLine;omega
theorem hn1 {A:Around}{P:Program}{w:World} (h:A.units+64 < cLine):A.units+((ZM P w).fL+1) < cLine:=by show A.units+2 < cLine;omega
theorem hn2 {A:Around}{P:Program}{w:World} (h:A.units+64 < cLine):A.units+1+((ZM P w).fL+1) < cLine:=by show A.units+1+2 < cLine;omega
def E2 (k s:Str):List Lf:=[some (.inr k),some (.inr s)]
def jz (m:(Str×Str)×Nat):List (Lf ⊕ List Lf):=[.inr (E2 m.1.1 m.1.2),.inl (some (.inl m.2))]
theorem jH {k s k' s':Str}:E2 k s=E2 k' s'↔(k,s)=(k',s'):=by
 unfold E2
 constructor
 ·intro h;injection h with h1 h2;injection h2 with h2 _;injection h1 with h1;injection h2 with h2;injection h1 with h1;injection h2 with h2;rw[h1,h2]
 ·intro h;injection h with h1 h2;rw[h1,h2]
theorem oh {m m':(Str×Str)×Nat}:jz m=jz m'↔m=m':=by
 unfold jz
 constructor
 ·intro h
  injection h with h1 h2
  injection h2 with h2 _
  injection h1 with h1
  injection h2 with h2;injection h2 with h2;injection h2 with h2
  have e:=jH.mp h1
  obtain⟨⟨a,b⟩,n⟩:=m
  obtain⟨⟨a',b'⟩,n'⟩:=m'
  injection e with e1 e2
  have h2:n=n':=Int.ofNat.inj h2
  simp only at e1 e2
  rw[e1,e2,h2]
 ·rintro rfl;rfl
section
variable {P:Program}{w:World}{F:W.Frag}{H:Hp}
theorem pH {a:Addr}{k s:Str} (h:aY F H a [.str k,.str s]):qm (YL P w F) H (E2 k s) a:=⟨_,h,.cons rfl (.cons rfl .nil)⟩
theorem pI {b s:Addr}{m:(Str×Str)×Nat} (h:aY F H b [.ref s,.int m.2]) (h2:aY F H s [.str m.1.1,.str m.1.2]):qm (YM P w F) H (jz m) b:=⟨_,h,.cons ⟨s,rfl,pH h2⟩ (.cons rfl .nil)⟩
end
section
variable {X:Cx}{P:Program}{w:World}{K:Type} [DecidableEq K] {F:W.Frag}{Z:mh P w K}{o i value kx:Expr}{pos pos':Pos}{td ty tv tk:TE}
theorem E3 (Y:oY F Z) (hl:Z.fL+1≤8) (hP:X.prog=P) (hw:X.w=w) (hF:X.K=F) (hu:X.A.units+1+(Z.fL+1) < cLine) (ho:PE X o td) (hi:PE X i ty) (hs:SE i):PE X (.Subscript o i pos) (Ro Y hl td ty):=by
 subst hP hw;exact PK Y hl hF hu ho hi hs
theorem zW (Y:oY F Z) (hl:Z.fL+1≤8) (hP:X.prog=P) (hw:X.w=w) (hF:X.K=F) (hu:X.A.units+1+(Z.fL+1) < cLine) (hi:PE X i ty) (ho:PE X o td):PC X .NotIn i o (JZ Y hl ty td):=by
 subst hP hw;exact KQ Y hl hF hu hi ho
theorem E4 (Y:oY F Z) (hl:Z.fL+1≤8) (hP:X.prog=P) (hw:X.w=w) (hF:X.K=F) (hu:X.A.units+1+(Z.fL+1) < cLine) (ho:PE X o td) (hi:PE X i ty) (hv:PE X value tv) (hs:swapsWith value (some (.Subscript o i pos')) pos.line X.env=pure false) :
  PS X (.Assign [.Subscript o i pos'] value pos) (Rp Y hl td ty tv):=by
 subst hP hw;exact PL Y hl hF hu ho hi hv hs
theorem Cz (Y:oY F Z) (hl:Z.fL+1≤8) (hP:X.prog=P) (hw:X.w=w) (hF:X.K=F) (hu:X.A.units+(Z.fL+1) < cLine) (hk:PE X kx tk) (hv:PE X value tv):PE X (.Dict [some kx] [value] pos) (Rq Y hl tk tv):=by
 subst hP hw;exact Nb Y hl hF hu hk hv
end
section
variable {X:Cx}
end
section
variable {X:Cx}
end
section
variable {X:Cx}{K:Type} [DecidableEq K] {F:W.Frag}{Z:mh X.prog X.w K}
def adF {P:Program}{w:World}{K:Type} [DecidableEq K] {F:W.Frag}{Z:mh P w K} (Y:oY F Z):R2:=fun x y H Q=>∃ b b' ks ks',x=.ref b∧y=.ref b'∧qm Y H ks b∧qm Y H ks' b'∧Q (.bl (!decide (ks=ks'))) H
theorem SG (Y:oY F Z) (hF:X.K=F) (hu:X.A.units+(Z.fL+1) < cLine):o8 X (compareOp .NotEq) (adF Y):=by
 intro pins s σ H x y v u Q I rx ry h
 obtain⟨b,b',ks,ks',rfl,rfl,e1,e2,q⟩:=h
 cases rx;cases ry
 obtain⟨o,items,n,h1,h2,h3,h4⟩:=e1.is hF I
 obtain⟨o',items',n',Sz,h2',h3',PB⟩:=e2.is hF I
 have l1:ks.length=items.size:=by rw[Paired.length h4,Array.length_toList]
 have l2:ks'.length=items'.size:=by rw[Paired.length PB,Array.length_toList]
 show wpAny _ _ (richCompare .NotEq (.ref b) (.ref b')) _ _ _
 refine SeqAt.RcNeAt.tuples (e:=fun j=>decide (ks[j]? = ks'[j]?)) ⟨o,h1,h2,n,h3⟩ ⟨o',Sz,h2',n',h3'⟩ (by omega) (fun j j1 j2=>?_) _ _ _ _ ⟨.bl (!decide (ks=ks')),H,I,?_,q⟩
 ·obtain⟨k,ek,hk⟩:=iO h4 j items[j] (by simp[j1])
  obtain⟨k',WT,hk'⟩:=iO PB j items'[j] (by simp[j2])
  rw[ek,WT,show decide (some k=some k')=decide (k=k') by simp]
  exact Z.eq (by show X.A.units+1+Z.fL < cLine;omega) hk hk'
 ·show Value.bool _=Value.bool _
  rw[←l1,←l2,uw]
end
section
variable {prog:Program}{w:World}{A:Around}{E:Value→Shared→Prop}{s:Shared}
theorem yG {R:Result→Shared→Prop} (hh:A.handled=none) {I l:Addr}{items:List Value} (hne:l≠I) (hit:s.heap.IsRevIter I l ((items.toArray.size:Int) - 1)) (hl:s.heap.IsList l items.toArray) (hn:items.toArray.size≤sizeLine)
  (hR:∀ h' tk acc' c',(∀ b o,b≠I→s.heap.get? b=some o→h'.get? b=some o)→h'.get? s.heap.objs.size=some { cls:=.type "list",dict:=none,data:=.seq acc' c',slots:=#[] }→acc'.toList=items.reverse→R (.ok (.ret (.ref s.heap.objs.size))) { s with heap:=h',toks:=tk }) :
  codeAny (model prog w) A (.builtin "proto.collect" ⟨[.ref I],[]⟩) R s:=by
 refine codeAny_builtin F.entry_proto_collect ?_;rw[Around.under_plainId F.plain_proto_collect _]
 show wpAny _ A.in1 (newList [] >>= fun l=>again (.builtin "list.__iadd__" ⟨[l,.ref I],[]⟩)) _ _ s;refine wpAny_bind (wpAny_newObj_type ?_)
 refine wpAny_pure ⟨plainId_quiet F.plain_list_iadd _,codeAny_builtin F.entry_list_iadd ?_⟩
 rw[Around.under_plainId F.plain_list_iadd _]
 have hS:(s.heap.push { cls:=.type "list",data:=.seq #[] }).get? s.heap.objs.size=some { cls:=.type "list",data:=.seq #[] }:=Heap.get?_push_size _ rfl
 have hlt:l < s.heap.objs.size:=by obtain⟨o,ho,_⟩:=hl;exact Heap.lt_size ho
 show wpAny _ A.in1 (Builtin.List.listExtendWith (.ref s.heap.objs.size) (.ref I) (.ref s.heap.objs.size)) _ _ _
 exact HJ (R:=R) (s:={ s with heap:=s.heap.push { cls:=.type "list",data:=.seq #[] } }) hh hne (hit.at fun o e=>Heap.get?_push_of_some _ e) (hl.at fun o e=>Heap.get?_push_of_some _ e) _ (Nat.ne_of_gt hlt) _ _ hS hn fun h' tk acc' c' hk hS' hacc =>
  hR h' tk acc' c' (fun b o hb e=>hk b o (Nat.ne_of_lt (Heap.lt_size e)) hb (Heap.get?_push_of_some _ e)) hS' (KH hacc)
theorem E5 {Q:List Value→Shared→Prop} (hh:A.handled=none) {I l:Addr}{items:List Value} (hne:l≠I) (hit:s.heap.IsRevIter I l ((items.toArray.size:Int) - 1)) (hl:s.heap.IsList l items.toArray) (hn:items.toArray.size≤sizeLine)
  (hQ:∀ h' tk,(∀ b o,b≠I→s.heap.get? b=some o→h'.get? b=some o)→Q items.reverse { s with heap:=h',toks:=tk }):wpAny (model prog w) A (collect (.ref I)) Q E s:=by
 unfold collect
 refine wpAny_bind (wpAny_runValue (yG hh hne hit hl hn fun h' tk acc' c' hk hS' hacc=>?_))
 show wpAny _ A (load s.heap.objs.size >>= _) _ _ _
 refine wpAny_bind (wpAny_load hS' (wpAny_pure ?_))
 show Q acc'.toList _
 rw[hacc]
 exact hQ h' tk hk
theorem Nc {x:Str}{t:Tok}{Q:Value→Shared→Prop} (hh:A.handled=none) {I l:Addr}{items:List Value}{ys:List Str} (hne:l≠I) (hit:s.heap.IsRevIter I l ((items.toArray.size:Int) - 1)) (hl:s.heap.IsList l items.toArray) (hn:items.toArray.size≤sizeLine) (hi:StrsAre items.reverse ys) (hok:(ys.map (·.length)).sum+ys.length * x.length≤16777216)
  (hQ:∀ h' t' k,(∀ b o,b≠I→s.heap.get? b=some o→h'.get? b=some o)→Q (.str (Txt.join x ys) t') { s with heap:=h',toks:=k }):wpAny (model prog w) A (call (.builtin "str.join") [.str x t,.ref I]) Q E s:=by
 refine wpAny_call (codeAny_call_builtin F.slot_str_join.plain F.entry_str_join (F.slot_str_join.check _ _ _ _ _ _ _ _ (typeIs_str _ _ _) (F.args_str_join_2 _ _) ?_))
 rw[join_tree_other]
 refine wpAny_bind (wpAny_typeOf hit.typeIs ?_)
 show wpAny _ A.in1 ((pyIter (.ref I)).tryCatch _ >>= fun it=>collect it >>= fun items=>joinTail x items) _ _ s
 refine wpAny_bind (wpAny_tryCatch (wpAny_pyIter_revIter hit ?_))
 refine wpAny_bind (E5 (A:=A.in1) hh hne hit hl hn fun h' tk hk=>?_)
 obtain⟨lt,hv,ht⟩:=strsAre_values hi
 rw[hv]
 have ok:=joinOk_of hok
 subst ht
 unfold JoinOk at ok
 rw[Bool.not_eq_true'] at ok
 have g:Gives (joinTail x (strValues lt)) (joinMade x lt):=by
  have g0:=gives_joinTail x lt ok
  cases lt with
  | nil=>exact g0
  | cons p r=>cases r with
   | nil=>exact g0
   | cons q r'=>exact g0
 exact g prog w A (wants Q E) _ (post_join lt ⟨joinFit_length ok,fun t' k=>hQ h' t' k hk⟩)
end
section
variable {X:Cx}{e:Expr}
def E6 (K:W.Frag) (tx:TE) (ta:TA):TE:=fun σ H Q=>tx σ H fun x H0=>∃ z,x=.str z∧ta σ H0 fun vs H1=>∃ p,∃ ys:List Str,vs=[.ref p]∧aU K H1 p (ys.map V.str)∧(ys.map (·.length)).sum+ys.length * z.length≤16777216∧Q (.str (Txt.join z ys.reverse)) H1
theorem zX:∀{its:List Value}{ys:List Str},Vals (ys.map V.str) its→StrsAre its ys
 | _,[],h=>by cases h;exact .nil
 | _,y :: ys,h=>by cases h with | cons a b=>obtain⟨t,rfl⟩:=a;exact .cons _ _ (zX b)
theorem HM {o:Expr}{apos p2 pos2 cpos:Pos}{tx:TE}{ta:TA} (hc:X.calm=true) (WX:Gl X "reversed") (hm2:X.mg "reversed" = none) (hx:PE X o tx) (ha:PA X [e] ta)
  (hbase:attributeBase o "join" X.env (eval o X.env)=eval o X.env:=by rfl)
  (hfew:((backTo cpos (starEach [.Call (.Name "reversed" p2) [e] [] pos2] X.env)).all (fun x=>!x.1) && (backToKw cpos (keywordEach [] X.env)).all (fun x=>x.1.isSome)
   && decide (([.Call (.Name "reversed" p2) [e] [] pos2]:List Expr).length+([]:List Keyword).length+(if ([]:List Keyword).isEmpty then 0 else 1) < 30))=true:=by rfl)
  (hline:(apos.endLine == cpos.line)=true:=by rfl)
  (h1:starEach [.Call (.Name "reversed" p2) [e] [] pos2] X.env=[(false,eval (.Call (.Name "reversed" p2) [e] [] pos2) X.env)]:=by rfl) (h2:starEach [e] X.env=[(false,eval e X.env)]:=by rfl) :
  PE X (.Call (.Attribute o "join" apos) [.Call (.Name "reversed" p2) [e] [] pos2] [] cpos) (E6 X.K tx ta):=by
 intro pins s σ H Q I h
 refine wpAny_Call_method_late hbase hfew hline rfl (dQ (hx pins s σ H _ I h) fun v s1 ⟨x,H0,I0,r0,z,hz,q0⟩=>?_)
 subst hz
 obtain⟨t1,t2⟩:=HE I0 r0 (T := "str") rfl
 refine⟨"str", "str.join",F.plainAttrs_str,F.slot_str_join,rfl,t1,t2,?_⟩
 rw[h1]
 refine Calls.callWith_builtin rfl (Calls.evalArgs_plain ?_)
 refine Calls.spliced_cons ?_
 refine wpAny_Call_Name_kw (o6 I0 WX hm2 boot_reversed ?_ (by decide) (by decide))
 refine PyProof.Rows.callWith_type1 (dQ (ha pos2 pins s1 σ H0 _ I0 q0) fun us s2 ⟨vs,H1,I1,r1,q1⟩=>?_) h2 rfl
 obtain⟨p,ys,rfl,hq,hok,q⟩:=q1
 obtain⟨u,rfl,ru⟩:=vals1 r1
 cases ru
 obtain⟨its,rv,pl,hz⟩:=I1.list hq
 have hlen:=rv.length
 refine call_reversed_list pl.isList ?_
 refine Calls.spliced_nil ?_
 have hnew:s2.heap.objs.size≤s2.heap.objs.size:=Nat.le_refl _
 have I2:Inv X pins σ H1 { s2 with heap:=s2.heap.push (revObj p ((its.toArray.size:Int) - 1)) }:=I1.kept (t':=s2.toks) fun b o e=>Heap.get?_push_of_some _ e
 have hpl:p < s2.heap.objs.size:=by obtain⟨o,ho,_⟩:=pl.isList;exact Heap.lt_size ho
 have f0:=I1.u0 hnew (I1.hok.fresh hnew)
 obtain⟨t0,rfl⟩:=r0
 refine Nc (s:={ s2 with heap:=s2.heap.push (revObj p ((its.toArray.size:Int) - 1)) }) (items:=its) (I.ok.hd hc) (Nat.ne_of_lt hpl) ⟨_,Heap.get?_push_size _ rfl,rfl,rfl⟩ (pl.isList.at fun o e=>Heap.get?_push_of_some _ e) (by rw[List.size_toArray];omega) (ys:=ys.reverse) (zX (by rw[List.map_reverse];exact rv.reverse)) (by rw[List.map_reverse,List.sum_reverse,List.length_reverse];exact hok) fun h' t' tk hk=>?_
 have I4:=I2.turned (t':=tk) (h':=h') (it:=s2.heap.objs.size) hk f0.1 f0.2.1 f0.2.2.2.1 f0.2.2.2.2.1 f0.2.2.2.2.2
 exact⟨.str _,_,I4,⟨t',rfl⟩,q⟩
theorem E7 (K:W.Frag) (h:X.K=K) {o:Expr}{apos p2 pos2 cpos:Pos}{tx:TE}{ta:TA} (hc:X.calm=true) (WX:Gl X "reversed") (hm2:X.mg "reversed" = none) (hx:PE X o tx) (ha:PA X [e] ta)
 (hbase:attributeBase o "join" X.env (eval o X.env)=eval o X.env:=by rfl)
 (hfew:((backTo cpos (starEach [.Call (.Name "reversed" p2) [e] [] pos2] X.env)).all (fun x=>!x.1) && (backToKw cpos (keywordEach [] X.env)).all (fun x=>x.1.isSome)
  && decide (([.Call (.Name "reversed" p2) [e] [] pos2]:List Expr).length+([]:List Keyword).length+(if ([]:List Keyword).isEmpty then 0 else 1) < 30))=true:=by rfl)
 (hline:(apos.endLine == cpos.line)=true:=by rfl)
 (h1:starEach [.Call (.Name "reversed" p2) [e] [] pos2] X.env=[(false,eval (.Call (.Name "reversed" p2) [e] [] pos2) X.env)]:=by rfl) (h2:starEach [e] X.env=[(false,eval e X.env)]:=by rfl) :
 PE X (.Call (.Attribute o "join" apos) [.Call (.Name "reversed" p2) [e] [] pos2] [] cpos) (E6 K tx ta):=by subst h;exact HM hc WX hm2 hx ha hbase hfew hline h1 h2
end
section
variable {prog:Program}{w:World}{A:Around}{E:Value→Shared→Prop}{s:Shared}{d it i ep:Nat}{od:Obj}{es:Array DictEntry}
theorem E8 {Q:Value→Shared→Prop} (nd:(d == sysModules)=false) (g:s.heap.get? d=some od) (c:od.ExactDict) (dt:od.data=.dict es ep)
  (q:Q (.ref s.heap.objs.size) { s with heap:=s.heap.push { cls:=.type "dict_keyiterator",data:=.fields #[.ref d,.int 0 0,.int es.size 0,.int ep 0] } }):wpAny (model prog w) A (pyIter (.ref d)) Q E s:=by
 have ty:s.TypeIs (.ref d) "dict" := ⟨od,g,c.1⟩
 refine wpAny_pyIter_slot ty PySem.F.slot_dict_iter (wpAny_call_entry PySem.F.slot_dict_iter ty PySem.F.entry_dict_iter ?_ (PySem.F.args_dict_iter_1 _))
 unfold Builtin.«dict.__iter__»;refine wpAny_bind ?_
 unfold Builtin.Dict.dictSlotNone;refine wpAny_bind (wpAny_notOrdered_dict ty ?_)
 show wpAny _ _ (pure (Value.ref d)) _ _ _;refine wpAny_pure ?_
 show wpAny _ _ (Builtin.Dict.showsAll d >>= _) _ _ _
 unfold Builtin.Dict.showsAll;rw[if_neg (fun z=>by rw[nd] at z;cases z)];refine wpAny_bind (wpAny_pure ?_)
 refine wpAny_bind (wpAny_dictEntries g dt (wpAny_bind (wpAny_dictEpoch g dt ?_)))
 refine wpAny_bind (wpAny_newObj_type (wpAny_pure ⟨_,rfl, "dict_keyiterator",_,⟨_,Heap.get?_push_size _ rfl,rfl⟩,PySem.F.slot_dict_keyiterator_next.lookup,?_⟩))
 simpa [rawInt] using q
theorem E9 {Q:Option Value→Shared→Prop} (G6:s.heap.IsKeyIter it d i es.size ep) (g:s.heap.get? d=some od) (dt:od.data=.dict es ep) (hi:i < es.size)
  (q:∀ h',h'.IsKeyIter it d (i+1) es.size ep→Heap.SameBut it s.heap h'→Q (some es[i].key) { s with heap:=h' }):wpAny (model prog w) A (pyNext (.ref it)) Q E s:=by
 obtain⟨o,ho,hc,hd⟩:=id G6
 unfold pyNext;refine wpAny_bind (wpAny_attempt (wpAny_callSpecial?_slot (name:=Str.ofString "__next__") G6.typeIs PySem.F.slot_dict_keyiterator_next (wpAny_call_entry PySem.F.slot_dict_keyiterator_next G6.typeIs PySem.F.entry_dict_keyiterator_next ?_ (PySem.F.args_dict_keyiterator_next_1 _))))
 refine wpAny_bind (wpAny_pure (wpAny_bind (wpAny_bind ?_)))
 first | refine wpAny_bind (wpAny_typeNameOfWhole_keyiter G6.typeIs (wpAny_pure ?_)) | refine wpAny_bind (wpAny_typeNameOf_keyiter G6.typeIs (wpAny_pure ?_))
 refine wpAny_bind (wpAny_fieldsOf ho hd ?_);simp only[(show Builtin.Dict_items.ownsTuple "dict_keyiterator" = false by decide),Bool.false_eq_true,if_false]
 show wpAny _ _ (if (Value.ref d == Value.none)=true then _ else _) _ _ _;rw[if_neg (fun z:(Value.ref d == Value.none)=true=>nomatch z)]
 refine wpAny_bind (wpAny_pure (wpAny_bind (wpAny_dictEntries g dt ?_)))
 rw[if_neg (by simp)];refine wpAny_bind (wpAny_pure (wpAny_bind (wpAny_dictEpoch g dt ?_)))
 rw[if_neg (by simp)];refine wpAny_pure ?_
 simp only[show ¬((i:Int) < 0) by omega,if_false,Int.toNat_natCast,Array.getElem?_eq_getElem hi]
 refine wpAny_bind ?_
 first | refine wpAny_bind (wpAny_typeNameOfWhole_keyiter G6.typeIs (wpAny_pure ?_)) | refine wpAny_bind (wpAny_typeNameOf_keyiter G6.typeIs (wpAny_pure ?_))
 refine wpAny_bind (wpAny_isOneOf_keyiter G6.typeIs ?_);show wpAny _ _ (setField (.ref it) 1 (rawInt ((i:Int)+1)) >>= _) _ _ _
 refine wpAny_bind (wpAny_setField ho hd (by simp) ?_)
 have it1:(s.heap.update it (Obj.mapFields (·.setIfInBounds 1 (rawInt ((i:Int)+1))))).IsKeyIter it d (i+1) es.size ep:=⟨_,Heap.get?_update_self _ ho (Obj.isFreed_of_fields (Obj.data_mapFields hd _)),(Obj.cls_mapFields ..).trans hc,by rw[Obj.data_mapFields hd];simp[rawInt]⟩
 refine wpAny_bind (wpAny_holding (wpAny_bind (wpAny_isOneOf_keyiter (s:={ s with heap:=s.heap.update it (Obj.mapFields (·.setIfInBounds 1 (rawInt ((i:Int)+1)))) }) it1.typeIs ?_)))
 show wpAny _ _ (pure es[i].key) _ _ _;exact wpAny_pure (wpAny_pure ⟨_,rfl,wpAny_pure (q _ it1 (Heap.SameBut.update ..))⟩)
theorem J5 {Q:Option Value→Shared→Prop} (hh:A.handled=none) (G6:s.heap.IsKeyIter it d i es.size ep) (g:s.heap.get? d=some od) (dt:od.data=.dict es ep) (hi:es.size≤i)
  (q:∀ h',Heap.ExtBut it s.heap h'→Q none { s with heap:=h' }):wpAny (model prog w) A (pyNext (.ref it)) Q E s:=by
 obtain⟨o,ho,hc,hd⟩:=id G6
 unfold pyNext;refine wpAny_bind (wpAny_attempt (wpAny_callSpecial?_slot (name:=Str.ofString "__next__") G6.typeIs PySem.F.slot_dict_keyiterator_next (wpAny_call_entry PySem.F.slot_dict_keyiterator_next G6.typeIs PySem.F.entry_dict_keyiterator_next ?_ (PySem.F.args_dict_keyiterator_next_1 _))))
 refine wpAny_bind (wpAny_pure (wpAny_bind (wpAny_bind ?_)))
 first | refine wpAny_bind (wpAny_typeNameOfWhole_keyiter G6.typeIs (wpAny_pure ?_)) | refine wpAny_bind (wpAny_typeNameOf_keyiter G6.typeIs (wpAny_pure ?_))
 refine wpAny_bind (wpAny_fieldsOf ho hd ?_);simp only[(show Builtin.Dict_items.ownsTuple "dict_keyiterator" = false by decide),Bool.false_eq_true,if_false]
 show wpAny _ _ (if (Value.ref d == Value.none)=true then _ else _) _ _ _;rw[if_neg (fun z:(Value.ref d == Value.none)=true=>nomatch z)]
 refine wpAny_bind (wpAny_pure (wpAny_bind (wpAny_dictEntries g dt ?_)))
 rw[if_neg (by simp)];refine wpAny_bind (wpAny_pure (wpAny_bind (wpAny_dictEpoch g dt ?_)))
 rw[if_neg (by simp)];refine wpAny_pure ?_
 simp only[show ¬((i:Int) < 0) by omega,if_false,Int.toNat_natCast,Array.getElem?_eq_none hi]
 refine wpAny_bind ?_
 first | refine wpAny_bind (wpAny_typeNameOfWhole_keyiter G6.typeIs (wpAny_pure ?_)) | refine wpAny_bind (wpAny_typeNameOf_keyiter G6.typeIs (wpAny_pure ?_))
 show wpAny _ _ (setField (.ref it) 0 .none >>= _) _ _ _;refine wpAny_bind (wpAny_setField ho hd (by simp) ?_)
 show wpAny _ _ (newExc (.type "StopIteration") [] >>= _) _ _ _;refine wpAny_bind ?_
 simp only[newExc,newTuple];refine wpAny_bind (wpAny_newObj_type ?_ (by size_fits))
 refine wpAny_bind (m:=firstArgMember _ _) (wpAny_of_eq (a:=Value.none) (by first | rfl | (simp only[firstArgMember];rfl)) (wpAny_newObj_type ?_ (by size_fits)))
 simp only[raiseNew];refine wpAny_bind (wpAny_handled ?_)
 rw[show A.in1.handled=none from hh];refine wpAny_bind (wpAny_pure (wpAny_throw ?_))
 refine wpAny_bind (wpAny_isInstance (T := "StopIteration") (b:=true) ⟨_,Heap.get?_push_size _ rfl,rfl⟩ isSubtype_stop (wpAny_pure ?_))
 exact q _ (((Heap.SameBut.update ..).extBut.push _).push _)
end
theorem CA {α β:Type}{F:α→β→Prop}:∀{xs:List α}{ys:List β},Paired F xs ys→∀(i:Nat) x,xs[i]? = some x→∃ y,ys[i]? = some y∧F x y
 | _,_,.nil,i,x,h=>by simp at h
 | _,_,.cons a r,0,x,h=>by cases h;exact⟨_,rfl,a⟩
 | _,_,.cons a r,i+1,x,h=>CA r i x h
section
variable {P:Program}{w:World}{K:Type} [DecidableEq K]
def dX (Z:mh P w K) (hl:Z.fL+1≤8) (a:Addr) (kvs:List (N3 K)) (o:Obj):HO:=.ext fun h=>zV Z hl a kvs h∧h.get? a=some o
def WY (Z:mh P w K) (hl:Z.fL+1≤8) (a:Addr) (kvs:List (N3 K)) (o:Obj):It :=
 ⟨fun i H=>H a=some (dX Z hl a kvs o)∧∃ e,kvs[i]? = some e,fun i H x H'=>H'=H∧∃ e,kvs[i]? = some e∧x=.ref e.2.1,fun i H=>H a=some (dX Z hl a kvs o)∧kvs.length≤i⟩
variable {Z:mh P w K}{hl:Z.fL+1≤8}
theorem Nf {X:Cx}{K:Type} [DecidableEq K] {Z:mh X.prog X.w K}{hl:Z.fL+1≤8}{pins:List (Addr×Obj)}{σ:St}{H:Hp}{s:Shared}{a:Addr}{kvs:List (N3 K)}{o:Obj} (I:Inv X pins σ H s) (d:H a=some (dX Z hl a kvs o)):zV Z hl a kvs s.heap∧s.heap.get? a=some o :=
 (show eY X.prog X.w H s.heap a (dX Z hl a kvs o) from I.hok a _ d).1
theorem pJ {h:Heap}{a:Addr}{kvs:List (N3 K)}{o:Obj}{es:Array DictEntry}{ep:Nat} (q:zV Z hl a kvs h) (g:h.get? a=some o) (dt:o.data=.dict es ep):es.size=kvs.length∧∀(i:Nat) (hi:i < es.size) (e:N3 K),kvs[i]? = some e→es[i].key=.ref e.2.1:=by
 obtain⟨_,_,xs,r,o',es',ep',g',_,dt',he,_⟩:=q
 rw[g] at g';cases g'
 rw[dt] at dt';cases dt'
 have e1:es.size=xs.length:=size_of_entries he
 refine⟨by rw[e1];exact(Paired.length r).symm,fun i hi e h1=>?_⟩
 obtain⟨x,hx,q⟩:=CA r i e h1
 have e2:=entry_at he i
 rw[hx,Array.getElem?_eq_getElem hi] at e2
 have e3:es[i]=entryOfKey (yf Z hl) x:=Option.some.inj e2
 rw[e3,q.2.1]
 rfl
theorem PM {Fr:W.Frag}{tg:Expr} (a it:Addr) (kvs:List (N3 K)) (o:Obj) (es:Array DictEntry) (ep:Nat) (dt:o.data=.dict es ep):Turn P w Fr tg (WY Z hl a kvs o) [it] it (fun i h=>h.IsKeyIter it a i es.size ep) where
 mem:=by simp
 obj:=fun i h st b hb=>by
  obtain rfl:b=it:=by simpa using hb
  obtain⟨x,e,c,d⟩:=st
  exact⟨x,e,fun v z=>by rw[d] at z;cases z⟩
 keep:=fun i h h' st k=>by
  obtain⟨x,e,c,d⟩:=st
  exact⟨x,k it (by simp) x e,c,d⟩
 item:=by
  intro X hP hw hK hc i pins s σ H E I hf st hg
  subst hP hw
  obtain⟨hd,e,he⟩:=hg
  obtain⟨nd,g⟩:=Nf I hd
  obtain⟨hsz,hkey⟩:=pJ nd g dt
  obtain⟨f0,f1,f2,f3,f4,f5⟩:=hf it (by simp)
  have hi:i < es.size:=by rw[hsz];exact(List.getElem?_eq_some_iff.mp he).1
  refine E9 st g dt hi fun h' st' sb=>?_
  have I1:Inv X pins σ H { s with heap:=h' }:=I.turned (t':=s.toks) (fun b o hb e=>(sb.2 b hb).trans e) f0 f1 f3 f4 f5
  obtain⟨x,ex,cx,dx⟩:=id st'
  refine⟨_,rfl,Ce (s:={ s with heap:=h' }) ex cx dx (by decide) ⟨.ref e.2.1,H,I1,?_,⟨rfl,e,he,rfl⟩,st',fun b hb=>(hf b hb).1⟩⟩
  exact hkey i hi e he
 done:=by
  intro X hP hw hK hc i pins s σ H E I hf st hg
  subst hP hw
  obtain⟨hd,he⟩:=hg
  obtain⟨nd,g⟩:=Nf I hd
  obtain⟨hsz,hkey⟩:=pJ nd g dt
  obtain⟨f0,f1,f2,f3,f4,f5⟩:=hf it (by simp)
  exact J5 (I.ok.hd hc) st g dt (by omega) fun h' eb=>⟨rfl,I.turned (t':=s.toks) (fun b o hb e=>eb b o hb e) f0 f1 f3 f4 f5⟩
 self:=fun _ _ _ _ _ st h=>wpAny_pyIter_keyiter st h
end
section
variable {X:Cx}{K:Type} [DecidableEq K] {F:W.Frag}{Z:mh X.prog X.w K}
def Rr {P:Program}{w:World}{K:Type} [DecidableEq K] {F:W.Frag}{Z:mh P w K} (Y:oY F Z) (hl:Z.fL+1≤8) (td:TE):TI:=fun σ H R=>td σ H fun x H1=>∃ a kvs,x=.ref a∧Nd Y hl H1 a kvs∧∀ o,R (WY Z hl a kvs o) (upd H1 a (dX Z hl a kvs o))
theorem PN {tg l:Expr}{td:TE} (Y:oY F Z) (hl:Z.fL+1≤8) (hF:X.K=F) (hp:PE X l td):PI X tg l (Rr Y hl td):=by
 intro pins s σ H R I h
 refine dQ (hp pins s σ H _ I h) fun v s1 ⟨x,H1,I1,r1,a,kvs,e,d,q⟩=>?_
 subst e
 cases r1
 have nd:zV Z hl a kvs s1.heap:=(show eY X.prog X.w H1 s1.heap a (dN Z hl a kvs) from I1.hok a _ d.ob).1
 obtain⟨z,y,xs,r,o,es,ep,g,c,dt,rest⟩:=id nd
 refine E8 y g c dt ?_
 have ok:eY X.prog X.w (upd H1 a (dX Z hl a kvs o)) s1.heap a (dX Z hl a kvs o):=by
  refine⟨⟨nd,g⟩,⟨o,g⟩,fun g1 g2 q k=>?_⟩
  obtain⟨⟨z,y,xs,r,o',es,ep,h1,h2,h3,h4,h5⟩,h6⟩:=q
  exact⟨⟨z,y,xs,r,o',es,ep,k _ h1,h2,h3,h4,h5⟩,k _ h6⟩
 have I2:Inv X pins σ (upd H1 a (dX Z hl a kvs o)) { s1 with heap:=s1.heap,toks:=s1.toks }:=I1.write (x:=a) (e:=a) (by rw[d.ob];exact True.intro) (.inl rfl) (fun b u _ e=>e) ⟨o,g⟩ ok
 refine⟨s1.heap.objs.size,[s1.heap.objs.size],_,_,_,rfl,I2.kept (t':=s1.toks) fun b o e=>Heap.get?_push_of_some _ e,PM a _ kvs o es ep dt,⟨_,Heap.get?_push_size _ rfl,rfl,rfl⟩,fun b hb=>?_,q o⟩
 obtain rfl:b=s1.heap.objs.size:=by simpa using hb
 exact I2.u0 (Nat.le_refl _) (I2.hok.fresh (Nat.le_refl _))
end
theorem Ng {X:Cx}{P:Program}{w:World}{K:Type} [DecidableEq K] {F:W.Frag}{Z:mh P w K}{tg l:Expr}{td:TE} (Y:oY F Z) (hl:Z.fL+1≤8) (hP:X.prog=P) (hw:X.w=w) (hF:X.K=F) (hp:PE X l td):PI X tg l (Rr Y hl td):=by
 subst hP hw;exact PN Y hl hF hp
section
variable {X:Cx}
end
open PySem
theorem rdT {A B:Prop}{b:Bool} (hb:b=true) (h:A):if b=true then A else B:=by rw[if_pos hb];exact h
theorem rdF {A B:Prop}{b:Bool} (hb:b=false) (h:B):if b=true then A else B:=by rw[if_neg (by rw[hb];decide)];exact h
theorem Rt {p A B:Prop} [Decidable p] (hp:p) (h:A):if decide p=true then A else B:=rdT (decide_eq_true hp) h
theorem yH {p A B:Prop} [Decidable p] (hp:¬p) (h:B):if decide p=true then A else B:=rdF (decide_eq_false hp) h
theorem PU {p A B:Prop} [Decidable p] (hp:p) (h:B):if (!decide p)=true then A else B:=rdF (by rw[decide_eq_true hp];rfl) h
theorem Fb {p A B:Prop} [Decidable p] (hp:¬p) (h:A):if (!decide p)=true then A else B:=rdT (by rw[decide_eq_false hp];rfl) h
theorem rdI {A B:Prop}{a b:Int} (hp:a=b) (h:A):if decide (V.int a=V.int b)=true then A else B:=Rt (by rw[hp]) h
theorem adG {A B:Prop}{a b:Int} (hp:¬a=b) (h:B):if decide (V.int a=V.int b)=true then A else B:=yH (fun e=>hp (V.int.inj e)) h
theorem rdJ {A B:Prop}{a b:Int} (hp:a=b) (h:B):if (!decide (V.int a=V.int b))=true then A else B:=PU (by rw[hp]) h
theorem rdB {A B:Prop}{b:Bool} (h1:b=true→A) (h2:b=false→B):if b=true then A else B:=by
 cases b with
 | true=>exact n8 (h1 rfl)
 | false=>exact cz (h2 rfl)
theorem rd2 {p A B:Prop} [Decidable p] (h1:p→A) (h2:¬p→B):if decide p=true then A else B:=by
 by_cases h:p
 ·exact Rt h (h1 h)
 ·exact yH h (h2 h)
theorem adH {p A B:Prop} [Decidable p] (h1:¬p→A) (h2:p→B):if (!decide p)=true then A else B:=by
 by_cases h:p
 ·exact PU h (h2 h)
 ·exact Fb h (h1 h)
theorem adI {A B:Prop}{a b:Int} (h1:a=b→A) (h2:¬a=b→B):if decide (V.int a=V.int b)=true then A else B:=by
 by_cases h:a=b
 ·exact rdI h (h1 h)
 ·exact adG h (h2 h)
theorem zY:Manifest.owners.lookup (String.ofList ['d','e','s','r','e','v','e','r'].reverse)=some Manifest.sig_reversed:=by kernel_rfl
theorem ja:Slot "reversed" "__next__" "reversed.__next__" :=
 .of (owner := "reversed") (n := "__next__") (by rw[typeLookup_type,builtinLookup_eq_fast];kernel_rfl) (by decide +kernel) (by decide +kernel) (by decide +kernel)
  (by first | exact .inl (by decide +kernel) | exact .inr (by decide +kernel)) (by rw[isSubtype_type];kernel_rfl)
theorem tK:entryFor table "reversed.__next__" = some Builtin.«reversed.__next__» := entryFor_of_tree (by kernel_rfl)
theorem vh (a:Value):argsOk "reversed.__next__" ⟨[a],[]⟩:=by
 unfold argsOk;rw[signature?_of (id := "reversed.__next__") (n:=['_','_','t','x','e','n','_','_']) (o:=['d','e','s','r','e','v','e','r']) (by kernel_rfl) zY];kernel_rfl
theorem vj:Slot "reversed" "__iter__" "reversed.__iter__" :=
 .of (owner := "reversed") (n := "__iter__") (by rw[typeLookup_type,builtinLookup_eq_fast];kernel_rfl) (by decide +kernel) (by decide +kernel) (by decide +kernel)
  (by first | exact .inl (by decide +kernel) | exact .inr (by decide +kernel)) (by rw[isSubtype_type];kernel_rfl)
theorem DB (a:Value):argsOk "reversed.__iter__" ⟨[a],[]⟩:=by
 unfold argsOk;rw[signature?_of (id := "reversed.__iter__") (n:=['_','_','r','e','t','i','_','_']) (o:=['d','e','s','r','e','v','e','r']) (by kernel_rfl) zY];kernel_rfl
theorem Bp:entryFor table "reversed.__iter__" = some Builtin.«dict_keyiterator.__iter__» :=
 entryFor_alias (id' := "dict_keyiterator.__iter__") (by kernel_rfl) (by first | rfl | decide +kernel | (unfold String.splitOn;simp +decide [String.splitOnAux])) (by decide +kernel) (by kernel_rfl)
theorem pK:Slot "reversed" "__length_hint__" "reversed.__length_hint__" :=
 .of (owner := "reversed") (n := "__length_hint__") (by rw[typeLookup_type,builtinLookup_eq_fast];kernel_rfl) (by decide +kernel) (by decide +kernel) (by decide +kernel)
  (by first | exact .inl (by decide +kernel) | exact .inr (by decide +kernel)) (by rw[isSubtype_type];kernel_rfl)
theorem Bq:entryFor table "reversed.__length_hint__" = some Builtin.«reversed.__length_hint__» := entryFor_of_tree (by kernel_rfl)
theorem DC (a:Value):argsOk "reversed.__length_hint__" ⟨[a],[]⟩:=by
 unfold argsOk;rw[signature?_of (id := "reversed.__length_hint__") (n:=['_','_','t','n','i','h','_','h','t','g','n','e','l','_','_']) (o:=['d','e','s','r','e','v','e','r']) (by kernel_rfl) zY];kernel_rfl
theorem DE:Slot "reversed" "__init__" "object.__init__" :=
 .of (owner := "object") (n := "__init__") (by rw[typeLookup_type,builtinLookup_eq_fast];kernel_rfl) (by decide +kernel) (by decide +kernel) (by decide +kernel)
  (by first | exact .inl (by decide +kernel) | exact .inr (by decide +kernel)) (by rw[isSubtype_type];kernel_rfl)
theorem KR:TypeCalled "reversed" "reversed.__new__" "object.__init__" :=
 ⟨by decide +kernel,by decide +kernel,⟨_,_,F.mro_reversed⟩,F.made_reversed,by decide +kernel,by rw[isSubtype_type];kernel_rfl,DE⟩
theorem DF (a b:Value):argsOk "object.__init__" ⟨[a,b],[]⟩:=by
 unfold argsOk;rw[signature?_of (id := "object.__init__") (n:=['_','_','t','i','n','i','_','_']) (o:=['t','c','e','j','b','o']) (by kernel_rfl) F.owner_object];kernel_rfl
theorem HN:typeLookup (.type "str") "__reversed__" = pure none:=by rw[typeLookup_type,builtinLookup_eq_fast];kernel_rfl
theorem KS:typeLookup (.type "reversed") "__len__" = pure none:=by rw[typeLookup_type,builtinLookup_eq_fast];kernel_rfl
theorem Fc:isSubtype (.type "str") (.type "dict")=pure false:=by rw[isSubtype_type];kernel_rfl
def zZ (x:Str) (t:Tok) (i:Int):Obj:={ cls:=.type "reversed",data:=.fields #[.str x t,rawInt i] }
def jb (h:Heap) (a:Addr) (x:Str) (t:Tok) (i:Int):Prop:=∃ o,h.get? a=some o∧o.cls=.type "reversed"∧o.data=.fields #[.str x t,rawInt i]
section
variable {prog:Program}{w:World}{A:Around}{E:Value→Shared→Prop}{s:Shared}
theorem jb.typeIs {a:Addr}{x:Str}{t:Tok}{i:Int} (q:jb s.heap a x t i):s.TypeIs (.ref a) "reversed" := let ⟨o,ho,hc,_⟩:=q;⟨o,ho,hc⟩
theorem jb.at {h h':Heap}{a:Addr}{x:Str}{t:Tok}{i:Int} (q:jb h a x t i) (e:∀ o,h.get? a=some o→h'.get? a=some o):jb h' a x t i:=let ⟨o,ho,r⟩:=q;⟨o,e _ ho,r⟩
theorem SH {x:Str}{t:Tok} (hfit:¬(x.length:Int)≥2 ^ 63):Meets (Builtin.«reversed.__new__» ⟨[.type "reversed",.str x t],[]⟩)
  (fun _ R s=>R (.ok (.ret (.ref s.heap.objs.size))) { s with heap:=s.heap.push (zZ x t ((x.length:Int) - 1)),toks:=s.toks+1+1 }):=by
 refine Meets.of_wp fun prog w A R s hs=>?_
 unfold Builtin.«reversed.__new__»
 refine wpAny_bind (wpAny_of_eq (newClass_reversed _) ?_)
 try dsimp only
 refine wpAny_bind (wpAny_of_eq (a:=()) (by first | rfl | kernel_rfl) ?_)
 refine wpAny_bind (wpAny_of_eq (a:=()) (by first | rfl | kernel_rfl) ?_)
 try dsimp only
 refine wpAny_bind (wpAny_specialOf (typeIs_str _ _ _) HN ?_)
 try dsimp only
 refine wpAny_bind ?_
 wp_delta
 refine wpAny_bind (wpAny_isInstance (T := "str") (b:=false) (typeIs_str _ _ _) Fc ?_)
 rw[if_neg (by decide)]
 refine wpAny_bind (wpAny_specialOf (typeIs_str _ _ _) F.slot_str_getitem.lookup ?_)
 dsimp only
 rw[if_pos (by decide +kernel)]
 refine wpAny_pure ?_
 rw[if_neg (by decide)]
 refine wpAny_bind (P.len_str hfit ?_)
 refine wpAny_bind (wpAny_of_eq (a:=some (x.length:Int)) rfl ?_)
 dsimp only
 refine wpAny_bind ?_
 unfold Builtin.SmallTypes.newRecord
 refine wpAny_newObj_type ?_ (by size_fits)
 exact wpAny_pure ⟨_,rfl,hs⟩
theorem Br {x:Str}{t:Tok}{Q:Value→Shared→Prop} (hfit:¬(x.length:Int)≥2 ^ 63)
  (h:Q (.ref s.heap.objs.size) { s with heap:=s.heap.push (zZ x t ((x.length:Int) - 1)),toks:=s.toks+1+1 }):wpAny (model prog w) A (call (.type "reversed") [.str x t]) Q E s :=
 callType_new KR (by decide +kernel) (F.typeCall_reversed_1 _) (F.newCall_reversed_1 _) (fun o=>DF o _) F.entry_reversed_new (SH hfit) ⟨⟨_,Heap.get?_push_size _ rfl,rfl⟩,h⟩
theorem DG {it:Addr}{x:Str}{t:Tok}{i:Nat}{c:Nat}{Q:Option Value→Shared→Prop} (hit:jb s.heap it x t (i:Int)) (hx:x.cps[i]? = some c) (hi:(i:Int) < 2 ^ 63)
  (hQ:∀ h' tok tk,jb h' it x t ((i:Int) - 1)→Heap.SameBut it s.heap h'→Q (some (.str ⟨#[c]⟩ tok)) { s with heap:=h',toks:=tk }):wpAny (model prog w) A (pyNext (.ref it)) Q E s:=by
 obtain⟨o,ho,hc,hd⟩:=id hit
 unfold pyNext
 refine wpAny_bind (wpAny_attempt (wpAny_callSpecial?_slot (name:=Str.ofString "__next__") hit.typeIs ja
  (wpAny_call_entry ja hit.typeIs tK ?_ (vh _))))
 unfold Builtin.«reversed.__next__»
 refine wpAny_bind (wpAny_of_eq (a:=(Value.ref it,[])) rfl ?_)
 try dsimp only
 refine wpAny_bind (wpAny_field ho hd (x:=.str x t) rfl ?_)
 refine wpAny_bind (wpAny_field ho hd (x:=rawInt (i:Int)) rfl ?_)
 show wpAny _ _ (if (i:Int) < 0 then _ else _) _ _ s
 rw[if_neg (by omega)]
 refine wpAny_bind (wpAny_specialOf (typeIs_str _ _ _) F.slot_str_getitem.lookup ?_)
 rw[if_neg (by decide)]
 refine wpAny_bind (wpAny_mkInt ?_)
 have hlt:i < x.length:=by
  have:=(Array.getElem?_eq_some_iff.mp hx).1
  exact this
 refine wpAny_bind (wpAny_attempt (P.getItem_str (c:=c) ?_ ?_ ?_))
 ·have h1:¬((i:Int) < -(2 ^ 63:Int)):=by omega
  have h2:¬((i:Int)≥2 ^ 63):=by omega
  rw[decide_eq_false h1,decide_eq_false h2];rfl
 ·have:seqIndex? (i:Int) x.length=some i:=by
   unfold seqIndex?
   have h0:¬(i:Int) < 0:=by omega
   simp[h0,hlt]
  rw[this];exact hx
 ·dsimp only
  refine wpAny_bind (wpAny_field ho hd (x:=rawInt (i:Int)) rfl ?_)
  show wpAny _ _ (setField (.ref it) 1 (rawInt ((i:Int) - 1)) >>= _) _ _ _
  refine wpAny_bind (wpAny_setField ho hd (by simp) ?_)
  refine wpAny_pure ⟨_,rfl,wpAny_pure (hQ _ _ _ ?_ (Heap.SameBut.update ..))⟩
  exact⟨_,Heap.get?_update_self _ ho (Obj.isFreed_of_fields (Obj.data_mapFields hd _)),(Obj.cls_mapFields ..).trans hc,by
   rw[Obj.data_mapFields hd];simp⟩
theorem Fd {it:Addr}{x:Str}{t:Tok}{Q:Option Value→Shared→Prop} (hh:A.handled=none) (hit:jb s.heap it x t (-1))
  (hQ:∀ h',Heap.ExtBut it s.heap h'→Q none { s with heap:=h' }):wpAny (model prog w) A (pyNext (.ref it)) Q E s:=by
 obtain⟨o,ho,hc,hd⟩:=id hit
 unfold pyNext
 refine wpAny_bind (wpAny_attempt (wpAny_callSpecial?_slot (name:=Str.ofString "__next__") hit.typeIs ja
  (wpAny_call_entry ja hit.typeIs tK ?_ (vh _))))
 unfold Builtin.«reversed.__next__»
 refine wpAny_bind (wpAny_of_eq (a:=(Value.ref it,[])) rfl ?_)
 try dsimp only
 refine wpAny_bind (wpAny_field ho hd (x:=.str x t) rfl ?_)
 refine wpAny_bind (wpAny_field ho hd (x:=rawInt (-1)) rfl ?_)
 show wpAny _ _ (if (-1:Int) < 0 then _ else _) _ _ s
 rw[if_pos (by decide)]
 refine wpAny_bind (wpAny_rule ?_)
 refine wpAny_bind ?_
 wp_delta
 refine wpAny_bind (wpAny_setField ho hd (by simp) ?_)
 have ho1:=Heap.get?_update_self (Obj.mapFields fun vs=>vs.setIfInBounds 1 (rawInt (-1))) ho (Obj.isFreed_of_fields (Obj.data_mapFields hd _))
 refine wpAny_setField ho1 (Obj.data_mapFields hd _) (by simp) ?_
 refine wpAny_bind ?_
 show wpAny _ _ (newExc (.type "StopIteration") [] >>= _) _ _ _
 refine wpAny_bind ?_
 simp only[newExc,newTuple]
 refine wpAny_bind (wpAny_newObj_type ?_ (by size_fits))
 refine wpAny_bind (m:=firstArgMember _ _) (wpAny_of_eq (a:=Value.none) (by first | rfl | (simp only[firstArgMember];rfl)) ?_)
 refine wpAny_newObj_type ?_ (by size_fits)
 simp only[raiseNew]
 refine wpAny_bind (wpAny_handled ?_)
 first | rw[show A.in1.handled=none from hh] | rw[hh]
 refine wpAny_bind (wpAny_pure (wpAny_throw ?_))
 refine wpAny_bind (wpAny_isInstance (T := "StopIteration") (b:=true) ⟨_,Heap.get?_push_size _ rfl,rfl⟩ isSubtype_stop ?_)
 refine wpAny_pure (hQ _ (Heap.ExtBut.push (Heap.ExtBut.push (fun b o hb e=>?_) _) _))
 exact(Heap.get?_update_other _ _ (Ne.symm hb)).trans ((Heap.get?_update_other _ _ (Ne.symm hb)).trans e)
theorem CB {it:Addr}{x:Str}{t:Tok}{i:Int}{Q:Value→Shared→Prop} (hit:jb s.heap it x t i) (h:Q (.ref it) s):wpAny (model prog w) A (pyIter (.ref it)) Q E s:=by
 refine wpAny_pyIter_slot hit.typeIs vj (wpAny_call_entry vj hit.typeIs Bp ?_ (DB _))
 show wpAny _ _ (ret (.ref it)) _ _ s
 exact wpAny_pure ⟨_,rfl, "reversed",_,hit.typeIs,ja.lookup,h⟩
theorem HP {prog:Program}{w:World}{A:Around} (hh:A.handled=none) (I:Addr) (x:Str) (t:Tok) (hf:(x.length:Int) < 2 ^ 63) :
  Walks prog w A I [I] [I] x.length (fun i v=>∃ c tk,x.cps[x.length - 1 - i]? = some c∧v=.str ⟨#[c]⟩ tk) (fun i h=>i≤x.length∧jb h I x t ((x.length:Int) - 1 - (i:Int))) where
 sub:=fun b hb=>hb
 frame:=fun _ _ _ q hk=>⟨q.1,q.2.at fun o e=>hk I (by simp) o e⟩
 item:=fun i s Q E hi q hQ=>by
  have e:(x.length:Int) - 1 - (i:Int)=((x.length - 1 - i:Nat):Int):=by omega
  have hit:=q.2
  rw[e] at hit
  have hlt:x.length - 1 - i < x.cps.size:=by have:x.length=x.cps.size:=rfl;omega
  have hx:x.cps[x.length - 1 - i]? = some (x.cps[x.length - 1 - i]'hlt):=Array.getElem?_eq_getElem hlt
  refine DG hit hx (by omega) fun h' tok tk KU hs'=>?_
  have e2:((x.length - 1 - i:Nat):Int) - 1=(x.length:Int) - 1 - ((i+1:Nat):Int):=by omega
  rw[e2] at KU
  exact hQ _ h' tk ⟨_,_,hx,rfl⟩ ⟨hi,KU⟩ fun b o hb eo=>hs'.extBut b o (fun h=>hb (by simp[h])) eo
 done:=fun s Q E q hQ=>by
  have e:(x.length:Int) - 1 - (x.length:Int) = -1:=by omega
  have hit:=q.2
  rw[e] at hit
  exact Fd hh hit fun h' he'=>hQ h' s.toks fun b o hb eo=>he' b o (fun h=>hb (by simp[h])) eo
 self:=fun _ _ _ _ q hQ=>CB q.2 hQ
theorem KW {I:Addr}{x:Str}{t:Tok}{Q:Bool→Shared→Prop} (hz:x.length≤sizeLine) (hit:jb s.heap I x t ((x.length:Int) - 1)) (h:∀ b tk,Q b { s with toks:=tk }):wpAny (model prog w) A (Builtin.List.listLengthHint (.ref I)) Q E s:=by
 obtain⟨o,ho,hc,hd⟩:=id hit
 unfold Builtin.List.listLengthHint
 refine wpAny_bind (wpAny_specialOf hit.typeIs KS ?_)
 show wpAny _ _ (specialOf (Value.ref I) ("__length_hint__":Str) >>= _) _ _ _
 refine wpAny_bind (wpAny_specialOf hit.typeIs pK.lookup ?_)
 generalize hid:("reversed.__length_hint__" : String)=WK
 wp_delta
 rw[show splitId WK=some ("reversed", "__length_hint__") from by subst hid;decide +kernel]
 subst hid
 refine wpAny_bind (wpAny_isInstance (T := "reversed") (b:=true) hit.typeIs (by rw[isSubtype_type];kernel_rfl) ?_)
 refine wpAny_ite_split (fun hab=>absurd hab (by decide)) (fun _=>?_)
 refine wpAny_ite_split (fun hab=>absurd hab (by decide +kernel)) (fun _=>?_)
 refine wpAny_bind (wpAny_rule ?_)
 refine wpAny_bind (wpAny_of_eq (pK.bind _) ?_)
 dsimp only
 refine wpAny_bind (wpAny_attempt (wpAny_call_entry pK hit.typeIs Bq ?_ (DC _)))
 unfold Builtin.«reversed.__length_hint__»
 refine wpAny_bind (wpAny_of_eq (a:=Value.ref I) (by first | rfl | kernel_rfl) ?_)
 refine wpAny_bind (wpAny_field ho hd (x:=.str x t) rfl ?_)
 show wpAny _ _ (if (Value.str x t == Value.none)=true then _ else _) _ _ _
 rw[if_neg (show ¬((Value.str x t == Value.none)=true) from Bool.false_ne_true)]
 have hz2:sizeLine < 2 ^ 63:=by decide +kernel
 have hz':¬(x.length:Int)≥2 ^ 63:=by omega
 refine wpAny_bind (P.len_str hz' ?_)
 refine wpAny_bind (wpAny_of_eq (a:=some (x.length:Int)) rfl ?_)
 dsimp only
 refine wpAny_bind (wpAny_field ho hd (x:=rawInt ((x.length:Int) - 1)) rfl ?_)
 show wpAny _ _ (if (x.length:Int) < (x.length:Int) - 1+1 then _ else _) _ _ _
 rw[if_neg (by omega)]
 have e1:(x.length:Int) - 1+1=x.length:=by omega
 rw[e1]
 refine wpAny_bind (wpAny_mkInt ?_)
 refine wpAny_pure ⟨_,rfl,?_⟩
 show wpAny _ _ (asInt? (.int (x.length:Int) _) >>= _) _ _ _
 have ea:∀ tk,asInt? (Value.int (x.length:Int) tk)=pure (some (x.length:Int)):=fun _=>rfl
 refine wpAny_bind ?_
 rw[ea]
 refine wpAny_pure ?_
 show wpAny _ _ (if (!Builtin.List.listFitsIndex (x.length:Int))=true then _ else _) _ _ _
 have f1:Builtin.List.listFitsIndex (x.length:Int)=true:=by
  unfold Builtin.List.listFitsIndex;rw[Bool.and_eq_true];exact⟨decide_eq_true (by omega),decide_eq_true (by omega)⟩
 have f2:Builtin.List.listTooLong (x.length:Int).toNat=false:=by
  unfold Builtin.List.listTooLong;exact decide_eq_false (by rw[Int.toNat_natCast];omega)
 rw[f1,f2,if_neg (by decide),if_neg (by omega),if_neg (by decide)]
 have hb:=h ((x.length:Int) != 0) (s.toks+1+1+1)
 exact wpAny_pure hb
theorem WZ {S:Addr}{c:Nat}{Q:Unit→Shared→Prop} (hS:s.heap.get? S=some { cls:=.type "list",dict:=none,data:=.seq #[] c,slots:=#[] })
  (h:∀ h' c',h'.get? S=some { cls:=.type "list",dict:=none,data:=.seq #[] c',slots:=#[] }→Heap.SameBut S s.heap h'→Q () { s with heap:=h' }):wpAny (model prog w) A (Builtin.List.listTouch (.ref S)) Q E s:=by
 unfold Builtin.List.listTouch
 show wpAny _ _ (updateSeq S (·.push .none) >>= fun _=>updateSeq S (·.pop)) _ _ s
 refine wpAny_bind (wpAny_updateSeq hS rfl ?_)
 have h1:=Heap.get?_update_self (Obj.mapSeq fun xs=>xs.push Value.none) hS rfl
 refine wpAny_updateSeq h1 rfl (h _ _ (Heap.get?_update_self _ h1 rfl) ?_)
 have a:=Heap.SameBut.update (h:=s.heap) (a:=S) (Obj.mapSeq fun xs=>xs.push Value.none)
 have b:=Heap.SameBut.update (h:=s.heap.update S (Obj.mapSeq fun xs=>xs.push Value.none)) (a:=S) (Obj.mapSeq fun xs=>xs.pop)
 exact⟨b.1.trans a.1,fun c hc=>(b.2 c hc).trans (a.2 c hc)⟩
theorem Fe {R:Result→Shared→Prop} (hh:A.handled=none) {I:Addr}{x:Str}{t:Tok} (hit:jb s.heap I x t ((x.length:Int) - 1)) (S:Addr) (res:Value) (c0:Nat) (hS:s.heap.get? S=some { cls:=.type "list",dict:=none,data:=.seq #[] c0,slots:=#[] })
  (hn:x.length≤sizeLine)
  (hR:∀ h' tk acc' c',(∀ b o,b≠S→b≠I→s.heap.get? b=some o→h'.get? b=some o)→h'.get? S=some { cls:=.type "list",dict:=none,data:=.seq acc' c',slots:=#[] } →
   ItemsOf (fun i v=>∃ c tk,x.cps[x.length - 1 - i]? = some c∧v=.str ⟨#[c]⟩ tk) acc' x.length→R (.ok (.ret res)) { s with heap:=h',toks:=tk }) :
  wpAny (model prog w) A.in1 (Builtin.List.listExtendWith (.ref S) (.ref I) res)
   (fun fin s'=>match fin with | .done f=>R (.ok f) s' | .again c'=>c'.quiet=true∧codeAny (model prog w) A c' R s') (fun e s'=>R (.error e) s') s:=by
 have hSI:S≠I:=fun e=>by
  subst e
  obtain⟨o,ho,hc,_⟩:=hit
  rw[hS] at ho;cases ho
  exact absurd (show Value.type "list" = Value.type "reversed" from hc) (by decide)
 have hSf:S∉[I]:=fun hm=>hSI (List.mem_singleton.mp hm)
 have hf:(x.length:Int) < 2 ^ 63:=by
  have:sizeLine < 2 ^ 63:=by decide +kernel
  omega
 unfold Builtin.List.listExtendWith
 refine wpAny_bind (wpAny_typeOf hit.typeIs ?_)
 have h1:Builtin.List.listSameRef (.ref S) (.ref I)=false:=by simp[Builtin.List.listSameRef,hSI]
 have h2:(Value.type "reversed" == Value.type "list")=false:=by decide
 have h3:(Value.type "reversed" == Value.type "tuple")=false:=by decide
 simp only[h1,h2,h3,Bool.or_false,Bool.false_eq_true,if_false]
 refine wpAny_bind (CB hit ?_)
 refine wpAny_bind (wpAny_holding (KW hn hit fun b tk=>?_))
 have go:∀(h':Heap) (tk:Nat) (c1:Nat),h'.get? S=some { cls:=.type "list",dict:=none,data:=.seq #[] c1,slots:=#[] }→(∀ b o,b≠S→s.heap.get? b=some o→h'.get? b=some o) →
   wpAny (model prog w) A.in1 (again (.builtin "list.extend.loop" ⟨[.ref S,.ref I,res],[]⟩))
    (fun fin s'=>match fin with | .done f=>R (.ok f) s' | .again c'=>c'.quiet=true∧codeAny (model prog w) A c' R s') (fun e s'=>R (.error e) s') { s with heap:=h',toks:=tk }:=fun h' tk c1 Ru hk=>by
  refine wpAny_pure ⟨plainId_quiet F.plain_extend_loop _,codeAny_extend_loopS (HP (prog:=prog) (w:=w) (A:=A.in1) hh I x t hf).toS hn _ hSf _ x.length 0 _ _ _ rfl (Nat.zero_le _) ⟨Nat.zero_le _,?_⟩ Ru (ItemsOf.nil _) fun s' acc' c' hm hS' hacc=>?_⟩
  ·have e0:(x.length:Int) - 1 - ((0:Nat):Int)=(x.length:Int) - 1:=by omega
   rw[e0]
   exact hit.at fun o e=>hk _ o (Ne.symm hSI) e
  ·rw[Moved.eq_with hm]
   refine hR s'.heap s'.toks acc' c' (fun b ob hb hb2 e=>hm.heap b ob (fun hmem=>?_) (hk b ob hb e)) hS' hacc
   rcases List.mem_cons.mp hmem with e' | hmem
   ·exact hb e'
   ·exact hb2 (List.mem_singleton.mp hmem)
 refine wpAny_ite_split (fun _=>?_) (fun _=>?_)
 ·refine wpAny_bind (wpAny_rule ?_)
  exact wpAny_bind (WZ hS fun h' c' Ru hs=>go h' tk c' Ru fun b o hb e=>(hs.2 b hb).trans e)
 ·exact go s.heap tk c0 hS fun _ _ _ e=>e
theorem z0 {R:Result→Shared→Prop} (hh:A.handled=none) {I:Addr}{x:Str}{t:Tok} (hit:jb s.heap I x t ((x.length:Int) - 1)) (S:Addr) (hS:s.heap.get? S=some { cls:=.type "list",data:=.seq #[] })
  (hn:x.length≤sizeLine)
  (hR:∀ h' tk acc' c',(∀ b o,b≠S→b≠I→s.heap.get? b=some o→h'.get? b=some o)→h'.get? S=some { cls:=.type "list",dict:=none,data:=.seq acc' c',slots:=#[] } →
   ItemsOf (fun i v=>∃ c tk,x.cps[x.length - 1 - i]? = some c∧v=.str ⟨#[c]⟩ tk) acc' x.length→R (.ok (.ret .none)) { s with heap:=h',toks:=tk }) :
  wpAny (model prog w) A.in1 (Builtin.«list.__init__» ⟨[.ref S,.ref I],[]⟩)
   (fun fin s'=>match fin with | .done f=>R (.ok f) s' | .again c'=>c'.quiet=true∧codeAny (model prog w) A c' R s') (fun e s'=>R (.error e) s') s:=by
 have hSI:S≠I:=fun e=>by
  subst e
  obtain⟨o,ho,hc,_⟩:=hit
  rw[hS] at ho;cases ho
  exact absurd (show Value.type "list" = Value.type "reversed" from hc) (by decide)
 show wpAny _ _ (do let old ←Builtin.List.listItems (.ref S);Builtin.List.listUpdate (.ref S) (fun _=>#[]);letGo old.toList.reverse;Builtin.List.listExtendWith (.ref S) (.ref I) .none) _ _ s
 refine wpAny_bind ?_
 unfold Builtin.List.listItems
 refine wpAny_bind (wpAny_seqItems hS rfl (wpAny_pure ?_))
 show wpAny _ _ (updateSeq S (fun _=>#[]) >>= fun _=>letGo (#[]:Array Value).toList.reverse >>= fun _=>Builtin.List.listExtendWith (.ref S) (.ref I) .none) _ _ s
 refine wpAny_bind (wpAny_updateSeq hS rfl ?_)
 have CC:=Heap.get?_update_self (Obj.mapSeq (fun _=>(#[]:Array Value))) hS rfl
 have VI:∀ b o,b≠S→s.heap.get? b=some o→(s.heap.update S (Obj.mapSeq (fun _=>(#[]:Array Value)))).get? b=some o :=
  fun b o hb e=>(Heap.get?_update_other _ _ (Ne.symm hb)).trans e
 refine wpAny_bind (wpAny_letGo ?_)
 refine Fe hh (hit.at fun o e=>VI _ o (Ne.symm hSI) e) S .none _ CC hn fun h' tk acc' c' hk hS' hacc=>?_
 exact hR h' tk acc' c' (fun b o hb hb2 e=>hk b o hb hb2 (VI b o hb e)) hS' hacc
theorem Aa {Q:Value→Shared→Prop} (hh:A.handled=none) {I:Addr}{x:Str}{t:Tok} (hit:jb s.heap I x t ((x.length:Int) - 1)) (hn:x.length≤sizeLine)
  (hQ:∀ h' tk acc' c',(∀ b o,b≠I→s.heap.get? b=some o→h'.get? b=some o) →
   h'.get? s.heap.objs.size=some { cls:=.type "list",dict:=none,data:=.seq acc' c',slots:=#[] }→ItemsOf (fun i v=>∃ c tk,x.cps[x.length - 1 - i]? = some c∧v=.str ⟨#[c]⟩ tk) acc' x.length→Q (.ref s.heap.objs.size) { s with heap:=h',toks:=tk }) :
  wpAny (model prog w) A (call (.type "list") [.ref I]) Q E s:=by
 refine callType_codes (Q₁:=fun obj s₁=>obj=.ref s.heap.objs.size∧s₁={ s with heap:=s.heap.push { cls:=.type "list",data:=.seq #[] } }) F.called_list (F.typeCall_list_1 _) F.entry_list_init
  (code_list_new _ ⟨rfl,rfl⟩) fun obj s₁ h₁=>?_
 obtain⟨rfl,rfl⟩:=h₁
 have hS:(s.heap.push { cls:=.type "list",data:=.seq #[] }).get? s.heap.objs.size=some { cls:=.type "list",data:=.seq #[] }:=Heap.get?_push_size _ rfl
 refine⟨⟨_,hS,rfl⟩,F.args_list_init_2 _ _,z0 (A:=A.in1) hh (hit.at fun o e=>Heap.get?_push_of_some _ e) _ hS hn fun h' tk acc' c' hk hS' hacc=>?_⟩
 exact⟨rfl,hQ h' tk acc' c' (fun b o hb e=>hk b o (Nat.ne_of_lt (Heap.lt_size e)) hb (Heap.get?_push_of_some _ e)) hS' hacc⟩
end
section
variable {X:Cx}{e:Expr}{te:TE}
theorem HQ {x:Str}{acc:Array Value} (h:ItemsOf (fun i v=>∃ c tk,x.cps[x.length - 1 - i]? = some c∧v=Value.str ⟨#[c]⟩ tk) acc x.length):Vals (x.cps.toList.reverse.map fun c=>V.str (sg c)) acc.toList:=by
 have key:∀(cs:List Nat) (us:List Value),us.length=cs.length→(∀(i:Nat) (u:Value),us[i]? = some u→∃(c:Nat) (tk:Tok),cs[i]? = some c∧u=Value.str ⟨#[c]⟩ tk)→Vals (cs.map fun c=>V.str (sg c)) us:=by
  intro cs
  induction cs with
  | nil=>intro us hl _;rw[List.length_eq_zero_iff.mp hl];exact .nil
  | cons c cs ih =>
   intro us hl hp
   cases us with
   | nil=>exact absurd hl (by simp)
   | cons u us =>
    obtain⟨c',tk,hc,hu⟩:=hp 0 u rfl
    cases hc
    exact .cons ⟨tk,hu⟩ (ih us (by simpa using hl) fun i u' hi=>hp (i+1) u' hi)
 have hz:=h.1
 have hx:x.length=x.cps.toList.length:=by rw[Array.length_toList];rfl
 refine key _ _ (by rw[Array.length_toList,hz,List.length_reverse,hx]) fun i u hu=>?_
 have hu':acc[i]? = some u:=by simpa using hu
 obtain⟨c,tk,hc,rfl⟩:=h.2 i u hu'
 have hi:i < x.cps.toList.length:=by
  have:=(Array.getElem?_eq_some_iff.mp hu').1
  omega
 refine⟨c,tk,?_,rfl⟩
 rw[List.getElem?_reverse hi,←hx]
 simpa using hc
def KY (ta:TA):TE:=fun σ H Q=>ta σ H fun vs H1=>∃ x:Str,vs=[.str x]∧x.length≤sizeLine∧∀ l,H1 l=none→Q (.ref l) (upd H1 l (.lst (x.cps.toList.reverse.map fun c=>V.str (sg c))))
theorem Ff {p1 p2 pos1 pos2:Pos}{ta:TA} (hc:X.calm=true) (hg:Gl X "list") (hm:X.mg "list" = none) (WX:Gl X "reversed") (hm2:X.mg "reversed" = none) (ha:PA X [e] ta)
  (h1:starEach [.Call (.Name "reversed" p2) [e] [] pos2] X.env=[(false,eval (.Call (.Name "reversed" p2) [e] [] pos2) X.env)]:=by rfl) (h2:starEach [e] X.env=[(false,eval e X.env)]:=by rfl) :
  PE X (.Call (.Name "list" p1) [.Call (.Name "reversed" p2) [e] [] pos2] [] pos1) (KY ta):=by
 intro pins s σ H Q I h
 refine wpAny_Call_Name_kw (o6 I hg hm boot_list ?_ (by decide) (by decide))
 refine PyProof.Rows.callWith_type1 ?_ h1 rfl
 rw[h1]
 show wpAny _ _ (spliced [(false,eval (.Call (.Name "reversed" p2) [e] [] pos2) X.env)]) _ _ s
 refine Calls.spliced_cons ?_
 refine wpAny_Call_Name_kw (o6 I WX hm2 boot_reversed ?_ (by decide) (by decide))
 refine PyProof.Rows.callWith_type1 (dQ (ha pos2 pins s σ H _ I h) fun us s1 ⟨vs,H1,I1,r1,q1⟩=>?_) h2 rfl
 obtain⟨x,rfl,hz,q⟩:=q1
 obtain⟨u,rfl,tu,rfl⟩:=vals1 r1
 have hfit:¬(x.length:Int)≥2 ^ 63:=by
  have:sizeLine < 2 ^ 63:=by decide +kernel
  omega
 refine Br hfit ?_
 refine Calls.spliced_nil ?_
 have hnew:s1.heap.objs.size≤s1.heap.objs.size:=Nat.le_refl _
 have I2:Inv X pins σ H1 { s1 with heap:=s1.heap.push (zZ x tu ((x.length:Int) - 1)),toks:=s1.toks+1+1 }:=I1.kept (t':=s1.toks+1+1) fun b o e=>Heap.get?_push_of_some _ e
 have f0:=I1.u0 hnew (I1.hok.fresh hnew)
 refine Aa (I.ok.hd hc) ⟨_,Heap.get?_push_size _ rfl,rfl,rfl⟩ hz fun h' tk acc' c' hk hS hacc=>?_
 have adJ:=HQ hacc
 have hDn:H1 (s1.heap.objs.size+1)=none:=I1.hok.fresh (Nat.le_succ _)
 have e1:(s1.heap.push (zZ x tu ((x.length:Int) - 1))).objs.size=s1.heap.objs.size+1:=Heap.size_push ..
 have hlen:(x.cps.toList.reverse.map fun c=>V.str (sg c)).length≤sizeLine:=by rw[List.length_map,List.length_reverse,Array.length_toList];exact hz
 have I3:=I2.laid (a:=(s1.heap.push (zZ x tu ((x.length:Int) - 1))).objs.size) (o:=.lst (x.cps.toList.reverse.map fun c=>V.str (sg c))) (t':=tk)
  (h':=(s1.heap.push (zZ x tu ((x.length:Int) - 1))).push { cls:=.type "list",dict:=none,data:=.seq acc' c',slots:=#[] }) (fun b o e=>Heap.get?_push_of_some _ e) (Nat.le_refl _)
  ⟨hlen,acc'.toList,c',adJ,Heap.get?_push_size _ rfl⟩
 have f1:ur X pins (upd H1 (s1.heap.push (zZ x tu ((x.length:Int) - 1))).objs.size (.lst (x.cps.toList.reverse.map fun c=>V.str (sg c)))) s1.heap.objs.size:=I1.u0 hnew (by rw[aE (by rw[e1];exact Nat.ne_of_lt (Nat.lt_succ_self _))];exact f0.1)
 have I4:=I3.turned (t':=tk) (h':=h') (it:=s1.heap.objs.size) (fun b o hb e=>?_) f1.1 f1.2.1 f1.2.2.2.1 f1.2.2.2.2.1 f1.2.2.2.2.2
 ·exact⟨.ref _,_,I4,rfl,q _ (by rw[e1];exact hDn)⟩
 ·rcases Heap.get?_push_cases e with ⟨z,z2⟩ | z
  ·rw[z,z2]
   exact hS
  ·exact hk b o hb z
end
section
variable {prog:Program}{w:World}{A:Around}{E:Value→Shared→Prop}{s:Shared}
end
def DH (z:Str):Str:=⟨z.cps.toList.reverse.toArray⟩
theorem Nh {K:W.Frag}{a:Addr}{xs:List V}{g:TG}{tt:TT}{te:TE}{Q:VK}{D:Addr}{τ:St}{H:Hp} (Pv:Nat→List V→St→Hp→Prop) (h0:Pv 0 [] τ (upd H D (.lst [])))
  (hl:∀ i ys τ H,i≤xs.length→Pv i ys τ H→aY K H a xs∧H D=some (.lst ys))
  (hs:∀ i x ys τ H,xs[i]? = some x→Pv i ys τ H→g x τ H fun τ2 H2=>tt τ2 H2 fun b H3=>if b=true then te τ2 H3 fun y H4=>H4 D=some (.lst ys)∧ys.length < sizeLine∧Pv (i+1) (ys++[y]) τ2 (upd H4 D (.lst (ys++[y]))) else Pv (i+1) ys τ2 H3)
  (hd:∀ ys τ H,Pv xs.length ys τ H→Q (.ref D) H) :
  Cr (VA K a) g tt te Q D τ H:=by
 refine⟨fun i m ys τ H=>m=xs.length - i∧i≤xs.length∧Pv i ys τ H,⟨xs.length,by simp,Nat.zero_le _,h0⟩,?_⟩
 rintro i m ys τ H ⟨rfl,hi,p⟩
 obtain⟨q,hD⟩:=hl i ys τ H hi p
 refine⟨hD,?_⟩
 by_cases hlt:i < xs.length
 ·refine .inr ⟨⟨xs,xs[i],q,by simp[hlt]⟩,Pv (i+1),fun zs σ' H' p'=>⟨xs.length - (i+1),by omega,rfl,hlt,p'⟩,fun x H' y=>?_⟩
  obtain⟨e,y⟩:=y
  subst e
  exact hs i x ys τ _ (y xs q) p
 ·have e:i=xs.length:=by omega
  subst e
  exact .inl ⟨⟨xs,q,Nat.le_refl _⟩,hd ys τ H p⟩
def adK (h₀:Heap) (H:Hp) (h:Heap) (e:Addr) (vs:Array Value):Option Value→Prop
 | none=>vs[1]? = some .none∧vs[2]? = some .none
 | some v=>∃ T oT ts,vs[1]? = some (.ref T)∧H T=none∧h₀.get? T=none∧T≠e∧h.get? T=some oT∧oT.data=.fields ts∧ts[3]? = some v∧vs[2]? = some .none
structure Exc (h₀:Heap) (H:Hp) (h:Heap) (e:Addr) (C:Value) (od:Option Addr) (fl:Option Value):Prop where
 fr:H e=none
 nw:h₀.get? e=none
 tr:∃ oe vs,h.get? e=some oe∧oe.cls=C∧oe.dict=od∧oe.data=.fields vs∧adK h₀ H h e vs fl
section
variable {M:Model}{A:Around}{E:Value→Shared→Prop}{s:Shared}{base:Heap}{env:Env}{outer:List Env}{L e:Addr}{Q:Unit→Shared→Prop}
end
section
variable {M:Model}{A:Around}{E:Value→Shared→Prop}{s:Shared}{base h₀:Heap}{H:Hp}{env:Env}{outer:List Env}{L e:Addr}{C:Value}{od:Option Addr}{Q:Unit→Shared→Prop}
end
section
variable {X:Cx}{pins:List (Addr×Obj)}{σ σ':St}{H H':Hp}{s s1:Shared}
end
section
variable {P:Program}{w:World}{K:W.Frag}{mg:Str→Option Value}{base:Heap}{N:List Str}{qual:Str}{scope:Scope}{f:Addr}{cd:Value}{A:Around}{outer:List Env}{s:Shared}{H:Hp}{E:XK}
end
abbrev Fg:List Value:=[.type "ValueError",.type "Exception",.type "BaseException",.type "object"]
structure XCl (K:W.Frag) (C N:Addr) (bm:List Value) (ini:Option Value):Prop where
 ob:∃ nm q bs hdct sn sub ab col dd k0 k1 k2 k3 k5,K.lookup C=some (excClassObj nm q C N bs bm hdct sn sub ab col dd k0 k1 k2 k3 k5 "ValueError.__new__")
 ns:∃ oc od es n sl,K.lookup N=some ⟨oc,od,.dict es n,sl⟩∧(es.toList.all fun e=>match e.key with | .str _ _=>true | _=>false)=true
 ini:W.nsIn K N "__init__" = some ini
section
variable {K:W.Frag}{h:Heap}{C N:Addr}{bm:List Value}{ini:Option Value}
end
section
variable {P:Program}{w:World}{K:W.Frag}{mg:Str→Option Value}{base:Heap}{N0:List Str}{qual:Str}{scope:Scope}{f:Addr}{cd:Value}{A:Around}{outer:List Env}{s0:Shared}{H0:Hp}{E:XK}
end
section
def XP (X:Cx) (pins:List (Addr×Obj)) (σ:St) (Ex:XK) (e:Value) (s':Shared):Prop :=
 ∃ ea C od H' s2 H2,e=.ref ea∧Inv X pins σ H2 s2∧Inv X pins σ H' s'∧(∀ b o,s2.heap.get? b=some o→∃ o',s'.heap.get? b=some o')∧Exc s2.heap H' s'.heap ea C od (some .none)∧Ex C od H'
variable {X:Cx}{k:Nat}{f C:Addr}{fd:FuncData}{ps:List Str}{sp:Sp}{Bg:List V}{ds:List Value}{x m:Str}{p pos apos:Pos}{e o:Expr}{es:List Expr}{ta:TE}{t:TA}{te:TEx}
end
section
variable {X:Cx}{pins:List (Addr×Obj)}{σ σ':St}{H H':Hp}{s s1:Shared}
end
section
variable {M:Model}{A:Around}{E:Value→Shared→Prop}{K:W.Frag}{s:Shared}{C D N N' ea:Addr}{bm bm':List Value}{ini ahj:Option Value}{Q:Bool→Shared→Prop}
end
section
variable {X:Cx}{pins:List (Addr×Obj)}{σ:St}{H:Hp}{s:Shared}{ea:Addr}
end
end L2
set_option maxHeartbeats 1000000
namespace L2
open PySem PySem.Spec PyProof.Rows PySem.Builtin PySem.Builtin.ObjectAttr
structure XAt (K:W.Frag) (C:Addr) (f:Str):Prop where
 no:W.findIn K (.ref C) f=some none
 sa:W.findIn K (.ref C) "__setattr__" = some (some (.builtin "object.__setattr__"))
 ga:W.findIn K (.ref C) "__getattribute__" = some (some (.builtin "BaseException.__getattribute__"))
 gx:W.findIn K (.ref C) "__getattr__" = some none
 hd:W.hasDictIn K C=true
section
variable {P:Program}{w:World}{A:Around}{E:Value→Shared→Prop}{s:Shared}{K:W.Frag}{C N x:Addr}{bm:List Value}{ini:Option Value}{f:Str}{v:Value}{ox:Obj}{vs:Array Value}
end
section
variable {P:Program}{w:World}{A:Around}{E:Value→Shared→Prop}{K:W.Frag}{C N fI:Addr}{bm:List Value}{us:List Value}
end
section
variable {X:Cx}{pins:List (Addr×Obj)}{σ:St}{H:Hp}{s:Shared}{a:Addr}{φ:Heap→Prop}
end
section
variable {X:Cx}{e:Expr}{te:TE}{pos:Pos}
end
section
variable {X:Cx}{C N D fI:Addr}{bm:List Value}{ini:Option Value}{x f:Str}{np ap pos cpos pos':Pos}{e o value a1 a2:Expr}{es:List Expr}{t:TA}{ta tv te:TE}
structure XIn (K:W.Frag) (D:Addr):Prop where
 sp:W.specialIn K (.ref D) "__getattribute__" = some (some (.builtin "type.__getattribute__"))
 rd:W.readsIn K D (.type "type")=true
 fc:W.findCls K (.ref D) (.type "type") "__init__" = some (.val (.builtin "ValueError.__init__"))
end
section
variable {P:Program}{w:World}{K:W.Frag}{mg:Str→Option Value}{base:Heap}{N0:List Str}{qual:Str}{scope:Scope}{f:Addr}{cd:Value}{A:Around}{outer:List Env}{s0:Shared}{H0:Hp}{E:XK}
end
open PySem PySem.Spec PyProof.Rows
section
variable {P:Program}{w:World}{K:W.Frag}{mg:Str→Option Value}{base:Heap}
end
section
variable {X:Cx}{k:Nat}{f:Addr}{fd:FuncData}{ps:List Str}{sp:Sp}{x:Str}{p pos:Pos}{e:Expr}{es:List Expr}{t:TA}
end
end L2
set_option maxHeartbeats 4000000
namespace L2
open PySem PySem.Spec PyProof.Rows
section
variable {prog:Program}{w:World}{A:Around}{E:Value→Shared→Prop}{s:Shared}
theorem HR {it t:Addr}{i:Nat}{items:Array Value}{x:Value}{Q:Value→Shared→Prop} (hit:s.heap.IsTupleIter it t i) (ht:s.heap.IsTuple t items) (hx:items[i]? = some x)
  (hQ:∀ h',h'.IsTupleIter it t (i+1)→Heap.SameBut it s.heap h'→Q x { s with heap:=h' }):wpAny (model prog w) A (Builtin.SmallTypes.nextOf (.ref it)) Q E s:=by
 obtain⟨o,ho,hc,hd⟩:=id hit
 obtain⟨ol,VJ,_,nl,hdl⟩:=id ht
 unfold Builtin.SmallTypes.nextOf;refine wpAny_bind (wpAny_callSpecial?_slot (name:=Str.ofString "__next__") hit.typeIs F.slot_tuple_iterator_next (wpAny_call_entry F.slot_tuple_iterator_next hit.typeIs F.entry_tuple_iterator_next ?_ (F.args_tuple_iterator_next_1 _)))
 show wpAny _ _ (field (.ref it) 0 >>= _) _ _ _;refine wpAny_bind (wpAny_field ho hd (x:=.ref t) rfl ?_)
 show wpAny _ _ (if (Value.ref t == Value.none)=true then _ else _) _ _ _;rw[if_neg (fun q:(Value.ref t == Value.none)=true=>nomatch q)]
 show wpAny _ _ (field (.ref it) 1 >>= _) _ _ _;refine wpAny_bind (wpAny_field ho hd (x:=.int i 0) rfl ?_)
 show wpAny _ _ (seqItems? (.ref t) >>= _) _ _ _;refine wpAny_bind (wpAny_seqItems VJ hdl ?_)
 simp only[Int.toNat_natCast,hx]
 refine wpAny_bind (wpAny_setField ho hd (by simp) (wpAny_pure ⟨x,rfl,wpAny_pure (hQ _ ⟨_,Heap.get?_update_self _ ho (Obj.isFreed_of_fields (Obj.data_mapFields hd _)),(Obj.cls_mapFields ..).trans hc,by rw[Obj.data_mapFields hd];simp[rawInt]⟩ (Heap.SameBut.update ..))⟩))
theorem KZ {it t:Addr}{i:Nat}{items:Array Value}{Q:Value→Shared→Prop} (hh:A.handled=none) (hit:s.heap.IsTupleIter it t i) (ht:s.heap.IsTuple t items) (hx:items[i]? = none)
  (hE:∀ h' e,Heap.ExtBut it s.heap h'→(∃ o,h'.get? e=some o∧o.cls=.type "StopIteration")→E (.ref e) { s with heap:=h' }):wpAny (model prog w) A (Builtin.SmallTypes.nextOf (.ref it)) Q E s:=by
 obtain⟨o,ho,hc,hd⟩:=id hit
 obtain⟨ol,VJ,_,nl,hdl⟩:=id ht
 unfold Builtin.SmallTypes.nextOf;refine wpAny_bind (wpAny_callSpecial?_slot (name:=Str.ofString "__next__") hit.typeIs F.slot_tuple_iterator_next (wpAny_call_entry F.slot_tuple_iterator_next hit.typeIs F.entry_tuple_iterator_next ?_ (F.args_tuple_iterator_next_1 _)))
 show wpAny _ _ (field (.ref it) 0 >>= _) _ _ _;refine wpAny_bind (wpAny_field ho hd (x:=.ref t) rfl ?_)
 show wpAny _ _ (if (Value.ref t == Value.none)=true then _ else _) _ _ _;rw[if_neg (fun q:(Value.ref t == Value.none)=true=>nomatch q)]
 show wpAny _ _ (field (.ref it) 1 >>= _) _ _ _;refine wpAny_bind (wpAny_field ho hd (x:=.int i 0) rfl ?_)
 show wpAny _ _ (seqItems? (.ref t) >>= _) _ _ _;refine wpAny_bind (wpAny_seqItems VJ hdl ?_)
 simp only[Int.toNat_natCast,hx]
 refine wpAny_bind (wpAny_rule (wpAny_bind (wpAny_setField ho hd (by simp) ?_)));   show wpAny _ _ (newExc (.type "StopIteration") [] >>= _) _ _ _;refine wpAny_bind ?_
 simp only[newExc,newTuple];refine wpAny_bind (wpAny_newObj_type ?_ (by size_fits))
 refine wpAny_bind (m:=firstArgMember _ _) (wpAny_of_eq (a:=Value.none) (by first | rfl | (simp only[firstArgMember];rfl)) (wpAny_newObj_type ?_ (by size_fits)))
 simp only[raiseNew];refine wpAny_bind (wpAny_handled ?_)
 first | rw[show A.in1.handled=none from hh];refine wpAny_bind (wpAny_pure (wpAny_throw ?_)) | rw[hh];refine wpAny_bind (wpAny_pure (wpAny_throw ?_))
 exact hE _ _ (((Heap.SameBut.update ..).extBut.push _).push _) ⟨_,Heap.get?_push_size _ rfl,rfl⟩
theorem Ni (hh:A.handled=none) (it l:Addr) (hne:l≠it) (items:Array Value):Draws prog w A it [it,l] items.size (fun i v=>items[i]? = some v) (fun i h=>h.IsTupleIter it l i∧h.IsTuple l items) where
 live:=fun _ _ st=>let ⟨o,ho,_⟩:=st.1;⟨o,ho⟩
 frame:=fun _ _ _ st hk=>⟨let ⟨o,ho,r⟩:=st.1;⟨o,hk it (by simp) o ho,r⟩,let ⟨o,ho,r⟩:=st.2;⟨o,hk l (by simp) o ho,r⟩⟩
 item:=fun i s Q E hi st hQ=>HR st.1 st.2 (x:=items[i]) (by simp[hi]) fun h' KU hs'=>hQ _ h' s.toks (by simp[hi]) ⟨KU,st.2.extBut hs'.extBut hne⟩ hs'
 done:=fun s Q E st hE=>KZ hh st.1 st.2 (by simp) hE
theorem Nj {z TI TO i1 i2 l1 l2:Addr}{n1 n2 k:Nat}{P1 P2:Nat→Value→Prop}{S1 S2:Nat→Heap→Prop}{a b:Value}{Q:Value→Shared→Prop} (D:ZipApart z TI TO i1 i2 l1 l2)
  (G1:Draws prog w A i1 [i1,l1] n1 P1 S1) (G2:Draws prog w A i2 [i2,l2] n2 P2 S2) (hz:IsZip s.heap z TI TO .none) (hTI:IsPair s.heap TI (.ref i1) (.ref i2)) (hTO:IsPair s.heap TO a b)
  (g1:S1 k s.heap) (g2:S2 k s.heap) (k1:k < n1) (k2:k < n2)
  (hQ:∀ h' tk x y,P1 k x→P2 k y→IsZip h' z TI TO (rawInt s.heap.objs.size)→IsPair h' TO x y→S1 (k+1) h'→S2 (k+1) h'→IsPair h' s.heap.objs.size x y →
   (∀ c o,c≠z→c≠TO→c≠i1→c≠i2→s.heap.get? c=some o→h'.get? c=some o)→Q (.ref s.heap.objs.size) { s with heap:=h',toks:=tk }) :
  wpAny (model prog w) A (Builtin.«zip.__next__» ⟨[.ref z],[]⟩) (fun fin s'=>∃ v,fin=.done (.ret v)∧Q v s') E s:=by
 have e1:∀{i:Nat}{h h':Heap}{c:Addr},Heap.SameBut c h h'→i1≠c→l1≠c→S1 i h→S1 i h':=fun hs hn hl g=>G1.frame _ _ _ g fun b hb o e=>by
  rcases List.mem_cons.mp hb with q | q
  ·rw[q] at e ⊢;exact hs.extBut _ _ hn e
  ·rw[List.mem_singleton.mp q] at e ⊢;exact hs.extBut _ _ hl e
 have e2:∀{i:Nat}{h h':Heap}{c:Addr},Heap.SameBut c h h'→i2≠c→l2≠c→S2 i h→S2 i h':=fun hs hn hl g=>G2.frame _ _ _ g fun b hb o e=>by
  rcases List.mem_cons.mp hb with q | q
  ·rw[q] at e ⊢;exact hs.extBut _ _ hn e
  ·rw[List.mem_singleton.mp q] at e ⊢;exact hs.extBut _ _ hl e
 show wpAny _ _ (field (.ref z) 2 >>= _) _ _ _
 refine wpAny_bind (wpAny_field hz rfl (x:=.bool false) rfl ?_)
 show wpAny _ _ (field (.ref z) 3 >>= _) _ _ _
 refine wpAny_bind (wpAny_field hz rfl (x:=.ref TI) rfl (wpAny_bind (wpAny_seqItems hTI rfl ?_)))
 show wpAny _ _ (Builtin.SmallTypes.ownedTupleIsFree (.ref z) >>= _) _ _ _
 refine wpAny_bind ?_
 unfold Builtin.SmallTypes.ownedTupleIsFree
 refine wpAny_bind (wpAny_field hz rfl (x:=.none) rfl (wpAny_pure ?_))
 simp only[if_true]
 refine wpAny_bind (wpAny_rule (wpAny_bind (wpAny_field hz rfl (x:=.ref TO) rfl (wpAny_bind (wpAny_setField_rec hz (by simp) fun A1 z1 q1=>?_)))))
 replace z1:IsZip A1 z TI TO .ellipsis:=z1
 refine wpAny_bind ?_
 simp only[List.zipIdx_cons,List.zipIdx_nil,List.forIn_cons,List.forIn_nil]
 refine wpAny_bind (wpAny_bind (wpAny_onRaise ?_))
 show wpAny _ _ (Builtin.SmallTypes.nextOf (.ref i1) >>= _) _ _ _
 refine wpAny_bind (G1.item k _ _ _ k1 (e1 q1 D.i1z D.l1z g1) fun x A2 tk px g1' q2=>wpAny_pure ?_)
 have o2:IsPair A2 TO a b:=q2.extBut _ _ D.TOi1 (q1.extBut _ _ D.TOz hTO)
 refine wpAny_bind (wpAny_seqItems o2 rfl (wpAny_bind (wpAny_updateSeq_pair o2 fun A3 o3 q3=>?_)))
 replace o3:IsPair A3 TO x b:=o3
 refine wpAny_bind (wpAny_letGo (wpAny_pure (wpAny_bind (wpAny_bind (wpAny_onRaise ?_)))))
 show wpAny _ _ (Builtin.SmallTypes.nextOf (.ref i2) >>= _) _ _ _
 refine wpAny_bind (G2.item k _ _ _ k2 (e2 q3 D.TOi2.symm D.l2TO (e2 q2 D.i12.symm D.l2i1 (e2 q1 D.i2z D.l2z g2))) fun y A4 tk2 py g2' q4=>wpAny_pure ?_)
 have o4:IsPair A4 TO x b:=q4.extBut _ _ D.TOi2 o3
 refine wpAny_bind (wpAny_seqItems o4 rfl (wpAny_bind (wpAny_updateSeq_pair o4 fun A5 o5 q5=>?_)))
 replace o5:IsPair A5 TO x y:=o5
 refine wpAny_bind (wpAny_letGo (wpAny_pure (wpAny_pure (wpAny_bind (wpAny_seqItems o5 rfl (wpAny_bind (wpAny_newTuple ?_)))))))
 have sz:A5.objs.size=s.heap.objs.size:=by rw[q5.1,q4.1,q3.1,q2.1,q1.1]
 have z5:IsZip A5 z TI TO .ellipsis:=q5.extBut _ _ D.TOz.symm (q4.extBut _ _ D.i2z.symm (q3.extBut _ _ D.TOz.symm (q2.extBut _ _ D.i1z.symm z1)))
 have w1:S1 (k+1) A5:=e1 q5 D.TOi1.symm D.l1TO (e1 q4 D.i12 D.l1i2 (e1 q3 D.TOi1.symm D.l1TO g1'))
 have w2:S2 (k+1) A5:=e2 q5 D.TOi2.symm D.l2TO g2'
 have kp:∀ c o,c≠z→c≠TO→c≠i1→c≠i2→s.heap.get? c=some o→A5.get? c=some o:=fun c o c1 c2 c3 c4 e=>q5.extBut _ _ c2 (q4.extBut _ _ c4 (q3.extBut _ _ c2 (q2.extBut _ _ c3 (q1.extBut _ _ c1 e))))
 have lz:z < A5.objs.size:=Heap.lt_size z5
 have z6:IsZip (A5.push { cls:=.type "tuple",data:=.seq #[x,y] }) z TI TO .ellipsis:=Heap.get?_push_of_some _ z5
 show wpAny _ _ (Builtin.SmallTypes.ownedTupleHandOut (.ref z) (.ref A5.objs.size) >>= _) _ _ _
 refine wpAny_bind ?_
 unfold Builtin.SmallTypes.ownedTupleHandOut
 refine wpAny_bind (wpAny_setField_rec z6 (by simp) fun A7 z7 q7=>?_)
 replace z7:IsZip A7 z TI TO (rawInt A5.objs.size):=z7
 refine wpAny_setField_rec z7 (by simp) fun A8 z8 q8=>?_
 replace z8:IsZip A8 z TI TO (rawInt A5.objs.size):=z8
 have up:∀ c o,c≠z→A5.get? c=some o→A8.get? c=some o:=fun c o c1 e=>q8.extBut _ _ c1 (q7.extBut _ _ c1 (Heap.get?_push_of_some _ e))
 have t8:IsPair A8 A5.objs.size x y:=q8.extBut _ _ (Nat.ne_of_gt lz) (q7.extBut _ _ (Nat.ne_of_gt lz) (Heap.get?_push_size _ rfl))
 have v1:S1 (k+1) A8:=G1.frame _ _ _ w1 fun b hb o e=>by
  rcases List.mem_cons.mp hb with q | q
  ·rw[q] at e ⊢;exact up _ o D.i1z e
  ·rw[List.mem_singleton.mp q] at e ⊢;exact up _ o D.l1z e
 have v2:S2 (k+1) A8:=G2.frame _ _ _ w2 fun b hb o e=>by
  rcases List.mem_cons.mp hb with q | q
  ·rw[q] at e ⊢;exact up _ o D.i2z e
  ·rw[List.mem_singleton.mp q] at e ⊢;exact up _ o D.l2z e
 rw[sz] at z8 t8
 refine wpAny_pure ⟨_,rfl,?_⟩
 show Q (.ref A5.objs.size) _
 rw[sz]
 exact hQ A8 _ x y px py z8 (up _ _ D.TOz o5) v1 v2 t8 fun c o c1 c2 c3 c4 e=>up c o c1 (kp c o c1 c2 c3 c4 e)
theorem PV {z TI TO i1 i2 l1 l2:Addr}{n1 n2 k:Nat}{P1 P2:Nat→Value→Prop}{S1 S2:Nat→Heap→Prop}{a b:Value}{Q:Fin→Shared→Prop} (D:ZipApart z TI TO i1 i2 l1 l2)
  (G1:Draws prog w A i1 [i1,l1] n1 P1 S1) (G2:Draws prog w A i2 [i2,l2] n2 P2 S2) (hz:IsZip s.heap z TI TO .none) (hTI:IsPair s.heap TI (.ref i1) (.ref i2)) (hTO:IsPair s.heap TO a b)
  (g1:S1 k s.heap) (g2:S2 k s.heap) (hk:k=n1∨(k < n1∧k=n2))
  (hE:∀ h' tk e,(∀ c o,c≠z→c≠TO→c≠i1→c≠i2→s.heap.get? c=some o→h'.get? c=some o)→(∃ o,h'.get? e=some o∧o.cls=.type "StopIteration")→E (.ref e) { s with heap:=h',toks:=tk }) :
  wpAny (model prog w) A (Builtin.«zip.__next__» ⟨[.ref z],[]⟩) Q E s:=by
 have e1:∀{i:Nat}{h h':Heap}{c:Addr},Heap.SameBut c h h'→i1≠c→l1≠c→S1 i h→S1 i h':=fun hs hn hl g=>G1.frame _ _ _ g fun b hb o e=>by
  rcases List.mem_cons.mp hb with q | q
  ·rw[q] at e ⊢;exact hs.extBut _ _ hn e
  ·rw[List.mem_singleton.mp q] at e ⊢;exact hs.extBut _ _ hl e
 have e2:∀{i:Nat}{h h':Heap}{c:Addr},Heap.SameBut c h h'→i2≠c→l2≠c→S2 i h→S2 i h':=fun hs hn hl g=>G2.frame _ _ _ g fun b hb o e=>by
  rcases List.mem_cons.mp hb with q | q
  ·rw[q] at e ⊢;exact hs.extBut _ _ hn e
  ·rw[List.mem_singleton.mp q] at e ⊢;exact hs.extBut _ _ hl e
 show wpAny _ _ (field (.ref z) 2 >>= _) _ _ _
 refine wpAny_bind (wpAny_field hz rfl (x:=.bool false) rfl ?_)
 show wpAny _ _ (field (.ref z) 3 >>= _) _ _ _
 refine wpAny_bind (wpAny_field hz rfl (x:=.ref TI) rfl (wpAny_bind (wpAny_seqItems hTI rfl ?_)))
 show wpAny _ _ (Builtin.SmallTypes.ownedTupleIsFree (.ref z) >>= _) _ _ _
 refine wpAny_bind ?_
 unfold Builtin.SmallTypes.ownedTupleIsFree
 refine wpAny_bind (wpAny_field hz rfl (x:=.none) rfl (wpAny_pure ?_))
 simp only[if_true]
 refine wpAny_bind (wpAny_rule (wpAny_bind (wpAny_field hz rfl (x:=.ref TO) rfl (wpAny_bind (wpAny_setField_rec hz (by simp) fun A1 z1 q1=>?_)))))
 replace z1:IsZip A1 z TI TO .ellipsis:=z1
 refine wpAny_bind ?_
 simp only[List.zipIdx_cons,List.zipIdx_nil,List.forIn_cons,List.forIn_nil]
 refine wpAny_bind (wpAny_bind (wpAny_onRaise ?_))
 show wpAny _ _ (Builtin.SmallTypes.nextOf (.ref i1) >>= _) _ _ _
 rcases hk with rfl | ⟨k1,rfl⟩
 ·refine wpAny_bind (G1.done _ _ _ (e1 q1 D.i1z D.l1z g1) fun A2 e q2 he=>?_)
  obtain⟨oe,SI,hce⟩:=he
  have z2:IsZip A2 z TI TO .ellipsis:=q2 _ _ D.i1z.symm z1
  have ez:e≠z:=fun q=>by rw[q,z2] at SI;cases SI;exact absurd (show Value.type "zip" = Value.type "StopIteration" from hce) (by decide)
  exact wpAny_setField_rec z2 (by simp) fun A3 _ q3=>hE A3 _ e (fun c o c1 _ c3 _ p=>q3.extBut _ _ c1 (q2 _ _ c3 (q1.extBut _ _ c1 p))) ⟨oe,q3.extBut _ _ ez SI,hce⟩
 ·refine wpAny_bind (G1.item k _ _ _ k1 (e1 q1 D.i1z D.l1z g1) fun x A2 tk px g1' q2=>wpAny_pure ?_)
  have o2:IsPair A2 TO a b:=q2.extBut _ _ D.TOi1 (q1.extBut _ _ D.TOz hTO)
  refine wpAny_bind (wpAny_seqItems o2 rfl (wpAny_bind (wpAny_updateSeq_pair o2 fun A3 o3 q3=>?_)))
  refine wpAny_bind (wpAny_letGo (wpAny_pure (wpAny_bind (wpAny_bind (wpAny_onRaise ?_)))))
  show wpAny _ _ (Builtin.SmallTypes.nextOf (.ref i2) >>= _) _ _ _
  refine wpAny_bind (G2.done _ _ _ (e2 q3 D.TOi2.symm D.l2TO (e2 q2 D.i12.symm D.l2i1 (e2 q1 D.i2z D.l2z g2))) fun A4 e q4 he=>?_)
  obtain⟨oe,SI,hce⟩:=he
  have z4:IsZip A4 z TI TO .ellipsis:=q4 _ _ D.i2z.symm (q3.extBut _ _ D.TOz.symm (q2.extBut _ _ D.i1z.symm z1))
  have ez:e≠z:=fun q=>by rw[q,z4] at SI;cases SI;exact absurd (show Value.type "zip" = Value.type "StopIteration" from hce) (by decide)
  exact wpAny_setField_rec z4 (by simp) fun A5 _ q5=>hE A5 _ e (fun c o c1 c2 c3 c4 p=>q5.extBut _ _ c1 (q4 _ _ c4 (q3.extBut _ _ c2 (q2.extBut _ _ c3 (q1.extBut _ _ c1 p))))) ⟨oe,q5.extBut _ _ ez SI,hce⟩
theorem Fi (hh:A.handled=none) (z TI TO i1 i2 l1 l2:Addr) (D:ZipApart z TI TO i1 i2 l1 l2) (xs ys:Array Value) :
  WalksT prog w A z [z,TI,TO,i1,i2,l1,l2] [z,TO,i1,i2] (min xs.size ys.size)
   (fun i vals=>∃ x y,xs[i]? = some x∧ys[i]? = some y∧vals = #[x,y])
   (fun i h=>IsZip h z TI TO .none∧IsPair h TI (.ref i1) (.ref i2)∧(∃ a b,IsPair h TO a b)∧h.IsListIter i1 l1 i∧h.IsList l1 xs∧h.IsTupleIter i2 l2 i∧h.IsTuple l2 ys)
   (fun i T h=>IsZip h z TI TO (rawInt T)∧IsPair h TI (.ref i1) (.ref i2)∧(∃ a b,IsPair h TO a b)∧h.IsListIter i1 l1 (i+1)∧h.IsList l1 xs∧h.IsTupleIter i2 l2 (i+1)∧h.IsTuple l2 ys∧T≠z∧T≠TO∧T≠i1∧T≠i2) where
 sub:=fun c hc=>by
  simp only[List.mem_cons,List.mem_nil_iff,or_false] at hc ⊢
  rcases hc with q | q | q | q <;> simp[q]
 frame:=fun i h h' st hk=>by
  obtain⟨p1,p2,⟨a,b,p3⟩,p4,p5,p6,p7⟩:=st
  exact⟨hk z (by simp) _ p1,hk TI (by simp) _ p2,⟨a,b,hk TO (by simp) _ p3⟩,p4.at fun o e=>hk i1 (by simp) o e,p5.at fun o e=>hk l1 (by simp) o e,(let ⟨o,ho,r⟩:=p6;⟨o,hk i2 (by simp) o ho,r⟩),(let ⟨o,ho,r⟩:=p7;⟨o,hk l2 (by simp) o ho,r⟩)⟩
 item:=fun i s Q E hi st hQ=>by
  obtain⟨p1,p2,⟨a,b,p3⟩,p4,p5,p6,p7⟩:=st
  have hT:s.TypeIs (.ref z) "zip" := ⟨_,p1,rfl⟩
  unfold pyNext
  refine wpAny_bind (wpAny_attempt (wpAny_callSpecial?_slot (name:=Str.ofString "__next__") hT F.slot_zip_next (wpAny_call_entry F.slot_zip_next hT F.entry_zip_next ?_ (F.args_zip_next_1 _))))
  refine Nj (S1:=fun i h=>h.IsListIter i1 l1 i∧h.IsList l1 xs) (S2:=fun i h=>h.IsTupleIter i2 l2 i∧h.IsTuple l2 ys) D (Draws.list (A:=A.in1) hh i1 l1 D.l1i1 xs) (Ni (A:=A.in1) hh i2 l2 D.l2i2 ys) p1 p2 p3 ⟨p4,p5⟩ ⟨p6,p7⟩ (Nat.lt_of_lt_of_le hi (Nat.min_le_left ..)) (Nat.lt_of_lt_of_le hi (Nat.min_le_right ..)) fun h' tk u y pu py r1 r2 r3 r4 r5 kp=>?_
  have lt:∀{c o},s.heap.get? c=some o→s.heap.objs.size≠c:=fun e=>Nat.ne_of_gt (Heap.lt_size e)
  refine wpAny_pure (hQ s.heap.objs.size #[u,y] h' tk ⟨u,y,pu,py,rfl⟩ (Nat.le_refl _) ⟨_,r5,rfl,_,rfl⟩ ⟨r1,kp _ _ D.TIz D.TITO D.TIi1 D.TIi2 p2,⟨_,_,r2⟩,r3.1,r3.2,r4.1,r4.2,lt p1,lt p3,?_,?_⟩ fun c o hc e=>kp c o (fun q=>hc (by simp[q])) (fun q=>hc (by simp[q])) (fun q=>hc (by simp[q])) (fun q=>hc (by simp[q])) e)
  ·obtain⟨o,ho,_⟩:=p4;exact lt ho
  ·obtain⟨o,ho,_⟩:=p6;exact lt ho
 go:=fun elts k pos i T s Q E hm hQ=>by
  obtain⟨p1,p2,⟨a,b,p3⟩,p4,p5,p6,p7,_⟩:=hm
  refine wpAny_letOwnedTupleGo_zip p1 fun h' z' q=>hQ h' ⟨z',q.extBut _ _ D.TIz p2,⟨a,b,q.extBut _ _ D.TOz p3⟩,p4.extBut q.extBut D.i1z,p5.extBut q.extBut D.l1z,p6.extBut q.extBut D.i2z,p7.extBut q.extBut D.l2z⟩ fun c o hc e=>q.extBut _ _ (fun y=>hc (by simp[y])) e
 apart:=fun i T h hm hT=>by
  obtain⟨_,_,_,_,_,_,_,t1,t2,t3,t4⟩:=hm
  simp only[List.mem_cons,List.mem_nil_iff,or_false] at hT
  rcases hT with q | q | q | q
  ·exact t1 q
  ·exact t2 q
  ·exact t3 q
  ·exact t4 q
 done:=fun s Q E st hQ=>by
  obtain⟨p1,p2,⟨a,b,p3⟩,p4,p5,p6,p7⟩:=st
  have hT:s.TypeIs (.ref z) "zip" := ⟨_,p1,rfl⟩
  unfold pyNext
  refine wpAny_bind (wpAny_attempt (wpAny_callSpecial?_slot (name:=Str.ofString "__next__") hT F.slot_zip_next (wpAny_call_entry F.slot_zip_next hT F.entry_zip_next ?_ (F.args_zip_next_1 _))))
  refine PV (S1:=fun i h=>h.IsListIter i1 l1 i∧h.IsList l1 xs) (S2:=fun i h=>h.IsTupleIter i2 l2 i∧h.IsTuple l2 ys) D (Draws.list (A:=A.in1) hh i1 l1 D.l1i1 xs) (Ni (A:=A.in1) hh i2 l2 D.l2i2 ys) p1 p2 p3 ⟨p4,p5⟩ ⟨p6,p7⟩ ?_ fun h' tk e kp he=>?_
  ·by_cases q:xs.size≤ys.size
   ·exact .inl (Nat.min_eq_left q)
   ·exact .inr ⟨by omega,Nat.min_eq_right (by omega)⟩
  ·obtain⟨o,ho,hc⟩:=he
   refine wpAny_bind (wpAny_isInstance (T := "StopIteration") (b:=true) ⟨o,ho,hc⟩ isSubtype_stop (wpAny_pure (hQ _ _ fun c o hc e=>kp c o (fun q=>hc (by simp[q])) (fun q=>hc (by simp[q])) (fun q=>hc (by simp[q])) (fun q=>hc (by simp[q])) e)))
 self:=fun i s Q E st hQ=>wpAny_pyIter_zip st.1 hQ
end
def HS (K:W.Frag) (a b:Addr):It :=
 ⟨fun i H=>∃ xs ys x y,aU K H a xs∧aY K H b ys∧xs[i]? = some x∧ys[i]? = some y,
  fun i H v H'=>∃ t x y,H t=none∧v=.ref t∧H'=upd H t (.tup [x,y])∧(∀ xs,aU K H a xs→xs[i]? = some x)∧(∀ ys,aY K H b ys→ys[i]? = some y),
  fun i H=>∃ xs ys,aU K H a xs∧aY K H b ys∧min xs.length ys.length=i⟩
theorem HU {P:Program}{w:World}{K:W.Frag}{elts:List Expr}{k:Nat}{pos:Pos}{z TI TO i1 i2 l1 l2:Addr} (D:ZipApart z TI TO i1 i2 l1 l2) :
  Turn P w K (.Tuple elts k pos) (HS K l1 l2) [z,TI,TO,i1,i2] z (fun i h=>IsZip h z TI TO .none∧IsPair h TI (.ref i1) (.ref i2)∧(∃ a b,IsPair h TO a b)∧h.IsListIter i1 l1 i∧h.IsTupleIter i2 l2 i) where
 mem:=by simp
 obj:=fun i h st b hb=>by
  obtain⟨p1,p2,⟨a,c,p3⟩,⟨o1,e1,c1,d1⟩,⟨o2,e2,c2,d2⟩⟩:=st
  simp only[List.mem_cons,List.mem_nil_iff,or_false] at hb
  rcases hb with rfl | rfl | rfl | rfl | rfl
  ·exact⟨_,p1,fun v q=>by cases q⟩
  ·exact⟨_,p2,fun v q=>by cases q⟩
  ·exact⟨_,p3,fun v q=>by cases q⟩
  ·exact⟨_,e1,fun v q=>by rw[d1] at q;cases q⟩
  ·exact⟨_,e2,fun v q=>by rw[d2] at q;cases q⟩
 keep:=fun i h h' st k=>by
  obtain⟨p1,p2,⟨a,c,p3⟩,p4,p5⟩:=st
  exact⟨k z (by simp) _ p1,k TI (by simp) _ p2,⟨a,c,k TO (by simp) _ p3⟩,p4.at fun o e=>k i1 (by simp) o e,(let ⟨o,ho,r⟩:=p5;⟨o,k i2 (by simp) o ho,r⟩)⟩
 item:=by
  intro X hP hw hK hc i pins s σ H E I hf st hg
  subst hP hw hK
  obtain⟨xs,ys,x,y,hx,hy,ex,ey⟩:=hg
  obtain⟨HV,rv1,VL,hz1⟩:=I.list hx
  obtain⟨u1,hu1,ru1⟩:=rv1.get ex
  obtain⟨its,rv,p,hz⟩:=I.tuple hy
  obtain⟨u,hu,ru⟩:=rv.get ey
  obtain⟨p1,p2,p3,p4,p5⟩:=id st
  have W:=Fi (prog:=X.prog) (w:=X.w) (A:=X.A) (I.ok.hd hc) z TI TO i1 i2 l1 l2 D HV.toArray its.toArray
  have hsub:∀ b∈[z,TO,i1,i2],b∈[z,TI,TO,i1,i2]:=by
   intro b hb
   simp only[List.mem_cons,List.mem_nil_iff,or_false] at hb ⊢
   rcases hb with q | q | q | q <;> simp[q]
  refine Ct (J:=HS X.K l1 l2) (tn:=fun i h=>IsZip h z TI TO .none∧IsPair h TI (.ref i1) (.ref i2)∧(∃ a b,IsPair h TO a b)∧h.IsListIter i1 l1 i∧h.IsTupleIter i2 l2 i) W I hf hsub ?_ ?_ ?_ ?_ ?_
  ·intro b hb
   obtain⟨a',b',p3⟩:=p3
   obtain⟨o1,e1,_⟩:=p4
   obtain⟨o2,e2,_⟩:=p5
   simp only[List.mem_cons,List.mem_nil_iff,or_false] at hb
   rcases hb with rfl | rfl | rfl | rfl | rfl
   ·exact Heap.lt_size p1
   ·exact Heap.lt_size p2
   ·exact Heap.lt_size p3
   ·exact Heap.lt_size e1
   ·exact Heap.lt_size e2
  ·have h1:=(List.getElem?_eq_some_iff.mp hu1).1
   have h2:=(List.getElem?_eq_some_iff.mp hu).1
   simp only[List.size_toArray]
   omega
  ·exact⟨p1,p2,p3,p4,VL.isList,p5,p⟩
  ·rintro vals ⟨v1,v2,q1,q2,rfl⟩
   have q1:HV[i]? = some v1:=by simpa using q1
   rw[hu1] at q1;cases q1
   have q2:its[i]? = some v2:=by simpa using q2
   rw[hu] at q2;cases q2
   exact⟨[x,y],(by show 2≤sizeLine;decide),.cons ru1 (.cons ru .nil),fun T hT=>⟨T,x,y,hT,rfl,rfl,fun zs hz=>by rw[I.zK hz hx];exact ex,fun zs hz=>by rw[I.Cd hz hy];exact ey⟩⟩
  ·exact fun h q=>⟨q.1,q.2.1,q.2.2.1,q.2.2.2.1,q.2.2.2.2.2.1⟩
 done:=by
  intro X hP hw hK hc i pins s σ H E I hf st hg
  subst hP hw hK
  obtain⟨xs,ys,hx,hy,hmin⟩:=hg
  obtain⟨HV,rv1,VL,hz1⟩:=I.list hx
  obtain⟨its,rv,p,hz⟩:=I.tuple hy
  obtain⟨p1,p2,p3,p4,p5⟩:=id st
  have e2:its.toArray.size=ys.length:=by rw[rv.length];exact List.size_toArray ..
  have e1:HV.toArray.size=xs.length:=by rw[rv1.length];exact List.size_toArray ..
  have e:i=min HV.toArray.size its.toArray.size:=by rw[e1,e2,hmin]
  subst e
  have W:=Fi (prog:=X.prog) (w:=X.w) (A:=X.A) (I.ok.hd hc) z TI TO i1 i2 l1 l2 D HV.toArray its.toArray
  have hsub:∀ b∈[z,TO,i1,i2],b∈[z,TI,TO,i1,i2]:=by
   intro b hb
   simp only[List.mem_cons,List.mem_nil_iff,or_false] at hb ⊢
   rcases hb with q | q | q | q <;> simp[q]
  exact Cu W I hf hsub ⟨p1,p2,p3,p4,VL.isList,p5,p⟩
 self:=fun _ _ _ _ _ st h=>wpAny_pyIter_zip st.1 h
abbrev W0 (h:Heap) (a:Addr):Heap:=h.push { cls:=.type "list_iterator",data:=.fields #[.ref a,.int 0 0] }
abbrev zl2 (h:Heap) (a l:Addr):Heap:=(W0 h a).push { cls:=.type "tuple_iterator",data:=.fields #[.ref l,.int 0 0] }
abbrev zl3 (h:Heap) (a l:Addr):Heap:=(zl2 h a l).push { cls:=.type "tuple",data:=.seq #[.ref h.objs.size,.ref (W0 h a).objs.size] }
abbrev zl4 (h:Heap) (a l:Addr):Heap:=(zl3 h a l).push { cls:=.type "tuple",data:=.seq #[.none,.none] }
abbrev VM (h:Heap) (a l:Addr):Heap:=(zl4 h a l).push { cls:=.type "zip",data:=.fields #[.none,.bool false,.bool false,.ref (zl2 h a l).objs.size,.ref (zl3 h a l).objs.size] }
theorem Nk (a l:Addr) (xs ys:Array Value):Meets (Builtin.«zip.__new__» ⟨[.type "zip",.ref a,.ref l],[]⟩) (fun _ R s=>(s.heap.IsList a xs∧s.heap.IsTuple l ys)∧R (.ok (.ret (.ref (zl4 s.heap a l).objs.size))) { s with heap:=VM s.heap a l }) :=
 .of_wp fun prog w A R s h=>by
  obtain⟨hp,g,d,tk,os⟩:=s
  obtain⟨⟨hl1,hl⟩,h⟩:=h
  have hsub:=sub_zip
  have hL:Heap.IsTuple (Shared.heap ⟨W0 hp a,g,d,tk,os⟩) l ys:=Heap.IsTuple.push hl _
  wp_walk using wpAny_pyIter_list hl1,wpAny_pyIter_tuple hL
  exact⟨_,rfl,h⟩
section
variable {prog:Program}{w:World}{A:Around}{E:Value→Shared→Prop}{s:Shared}
theorem HW {a l:Addr}{xs ys:Array Value}{Q:Value→Shared→Prop} (hl1:s.heap.IsList a xs) (hl:s.heap.IsTuple l ys)
  (h:∀ h',IsZip h' (s.heap.objs.size+4) (s.heap.objs.size+2) (s.heap.objs.size+3) .none→IsPair h' (s.heap.objs.size+2) (.ref s.heap.objs.size) (.ref (s.heap.objs.size+1))→IsPair h' (s.heap.objs.size+3) .none .none →
   h'.IsListIter s.heap.objs.size a 0→h'.IsTupleIter (s.heap.objs.size+1) l 0→(∀ c o,s.heap.get? c=some o→h'.get? c=some o)→Q (.ref (s.heap.objs.size+4)) { s with heap:=h' }) :
  wpAny (model prog w) A (call (.type "zip") [.ref a,.ref l]) Q E s:=by
 refine callType_new F.called_zip (by decide) (F.typeCall_zip_2 _ _) (F.newCall_zip_2 _ _) (fun obj=>F.args_object_init_3 obj _ _) F.entry_zip_new (Nk a l xs ys) ⟨⟨hl1,hl⟩,?_⟩
 have n1:(W0 s.heap a).objs.size=s.heap.objs.size+1:=Heap.size_push ..
 have n2:(zl2 s.heap a l).objs.size=s.heap.objs.size+2:=by rw[Heap.size_push,n1]
 have n3:(zl3 s.heap a l).objs.size=s.heap.objs.size+3:=by rw[Heap.size_push,n2]
 have n4:(zl4 s.heap a l).objs.size=s.heap.objs.size+4:=by rw[Heap.size_push,n3]
 have up:∀{h:Heap}{c:Addr}{u o:Obj},h.get? c=some o→(h.push u).get? c=some o:=fun e=>Heap.get?_push_of_some _ e
 have r5:(VM s.heap a l).get? (zl4 s.heap a l).objs.size=some _:=Heap.get?_push_size _ rfl
 have r4:(VM s.heap a l).get? (zl3 s.heap a l).objs.size=some _:=up (Heap.get?_push_size _ rfl)
 have r3:(VM s.heap a l).get? (zl2 s.heap a l).objs.size=some _:=up (up (Heap.get?_push_size _ rfl))
 have r2:(VM s.heap a l).get? (W0 s.heap a).objs.size=some _:=up (up (up (Heap.get?_push_size _ rfl)))
 have r1:(VM s.heap a l).get? s.heap.objs.size=some _:=up (up (up (up (Heap.get?_push_size _ rfl))))
 show _∧_
 rw[n2,n3,n4] at r5
 rw[n1,n2] at r3
 rw[n3] at r4
 rw[n1] at r2
 rw[n4]
 exact⟨⟨_,r5,rfl⟩,h _ r5 r3 r4 ⟨_,r1,rfl,rfl⟩ ⟨_,r2,rfl,rfl⟩ fun c o q=>up (up (up (up (up q))))⟩
end
def SJ (K:W.Frag) (ta:TA):TI:=fun σ H R=>ta σ H fun vs H1=>∃ a b,vs=[.ref a,.ref b]∧(∃ xs,aU K H1 a xs)∧(∃ ys,aY K H1 b ys)∧R (HS K a b) H1
theorem xq {X:Cx}{elts:List Expr}{k:Nat}{tpos:Pos}{a b:Expr}{ta:TA}{p pos:Pos} (K:W.Frag) (hK:X.K=K) (hg:Gl X "zip") (hm:X.mg "zip" = none) (ha:PA X [a,b] ta) (hs:starEach [a,b] X.env=[(false,eval a X.env),(false,eval b X.env)]:=by rfl) (hs2:starEach [b] X.env=[(false,eval b X.env)]:=by rfl) :
  PI X (.Tuple elts k tpos) (.Call (.Name "zip" p) [a,b] [] pos) (SJ K ta):=by
 subst hK
 intro pins s σ H R I h
 refine Call_ (o6 I hg hm (u:=.type "zip") (by decide +kernel) (PyProof.Rows.callWith_type1 (dQ (ha pos pins s σ H _ I h) fun us s1 ⟨vs,H1,I1,r1,q1⟩=>?_) (by rw[hs,hs2]) (by rw[hs2];rfl)))
 obtain⟨l1,l,e,⟨xs,hx⟩,⟨ys,hy⟩,q⟩:=q1
 subst e
 cases r1 with
 | cons r rr =>
  cases rr with
  | cons r' rr =>
   cases rr
   cases r;cases r'
   obtain⟨HV,rv1,VL,hz1⟩:=I1.list hx
   obtain⟨its,rv,pl,hz⟩:=I1.tuple hy
   have adL:l1 < s1.heap.objs.size:=by obtain⟨o,ho,_⟩:=VL.isList;exact Heap.lt_size ho
   have hlt:l < s1.heap.objs.size:=by obtain⟨o,ho,_⟩:=pl;exact Heap.lt_size ho
   refine HW VL.isList pl fun h' hz' hTI hTO hi1 hi2 hk=>?_
   refine wpAny_pyIter_zip hz' ?_
   have I2:Inv X pins σ H1 { s1 with heap:=h' }:=I1.kept (t':=s1.toks) fun b o e=>hk b o e
   refine⟨s1.heap.objs.size+4,_,_,_,H1,rfl,I2,HU (Sw s1.heap.objs.size l1 l adL hlt),⟨hz',hTI,⟨_,_,hTO⟩,hi1,hi2⟩,fun b hb=>?_,q⟩
   have hb':s1.heap.objs.size≤b:=by
    simp only[List.mem_cons,List.mem_nil_iff,or_false] at hb
    rcases hb with rfl | rfl | rfl | rfl | rfl
    ·exact Nat.le_add_right _ _
    ·exact Nat.le_add_right _ _
    ·exact Nat.le_add_right _ _
    ·exact Nat.le_refl _
    ·exact Nat.le_add_right _ _
   exact I1.u0 hb' (I1.hok.fresh hb')
theorem Ab {K:W.Frag}{a b:Addr}{xs ys:List V}{g:TG}{tt:TT}{te:TE}{Q:VK}{D:Addr}{τ:St}{H:Hp} (Pv:Nat→List V→St→Hp→Prop) (h0:Pv 0 [] τ (upd H D (.lst [])))
  (hl:∀ i ws τ H,i≤min xs.length ys.length→Pv i ws τ H→aU K H a xs∧aY K H b ys∧H D=some (.lst ws))
  (hs:∀ i x y t ws τ H,xs[i]? = some x→ys[i]? = some y→H t=none→Pv i ws τ H→g (.ref t) τ (upd H t (.tup [x,y])) fun τ2 H2=>tt τ2 H2 fun b H3=>if b=true then te τ2 H3 fun v H4=>H4 D=some (.lst ws)∧ws.length < sizeLine∧Pv (i+1) (ws++[v]) τ2 (upd H4 D (.lst (ws++[v]))) else Pv (i+1) ws τ2 H3)
  (hd:∀ ws τ H,Pv (min xs.length ys.length) ws τ H→Q (.ref D) H):Cr (HS K a b) g tt te Q D τ H:=by
 refine⟨fun i m ws τ H=>m=min xs.length ys.length - i∧i≤min xs.length ys.length∧Pv i ws τ H,⟨min xs.length ys.length,by simp,Nat.zero_le _,h0⟩,?_⟩
 rintro i m ws τ H ⟨rfl,hi,p⟩
 obtain⟨q1,q2,hD⟩:=hl i ws τ H hi p
 refine⟨hD,?_⟩
 by_cases hlt:i < min xs.length ys.length
 ·have k1:i < xs.length:=by omega
  have k2:i < ys.length:=by omega
  refine .inr ⟨⟨xs,ys,xs[i],ys[i],q1,q2,by simp[k1],by simp[k2]⟩,Pv (i+1),fun zs σ' H' p'=>⟨min xs.length ys.length - (i+1),by omega,rfl,hlt,p'⟩,fun v H' y=>?_⟩
  obtain⟨t,x,y,ht,e1,e2,ex,ey⟩:=y
  subst e1 e2
  exact hs i x y t ws τ _ (ex xs q1) (ey ys q2) ht p
 ·have e:i=min xs.length ys.length:=by omega
  subst e
  exact .inl ⟨⟨xs,ys,q1,q2,rfl⟩,hd ws τ H p⟩
end L2
set_option synthInstance.maxSize 100000
set_option synthInstance.maxHeartbeats 400000
namespace L2
open PySem PySem.Spec PyProof.Rows
section
variable {X:Cx}{K:Type} [DecidableEq K] {F:W.Frag}{Z:mh X.prog X.w K}
def adM {P:Program}{w:World}{K:Type} [DecidableEq K] {F:W.Frag}{Z:mh P w K} (Y:oY F Z):R2:=fun x y H Q=>∃ b' ks',y=.ref b'∧qm Y H ks' b'∧((x=.non∧Q (.bl false) H)∨∃ b ks,x=.ref b∧qm Y H ks b∧Q (.bl (decide (ks=ks'))) H)
theorem SK (Y:oY F Z) (hF:X.K=F) (hu:X.A.units+(Z.fL+1) < cLine):o8 X (compareOp .Eq) (adM Y):=by
 intro pins s σ H x y v u Q I rx ry h
 obtain⟨b',ks',rfl,e2,h⟩:=h
 rcases h with ⟨rfl,q⟩ | ⟨b,ks,rfl,e1,q⟩
 ·cases rx;cases ry
  obtain⟨o',items',n',Sz,h2',h3',PB⟩:=e2.is hF I
  show wpAny _ _ (richCompare .Eq .none (.ref b')) _ _ _
  exact SeqAt.RcAt.none_tuple ⟨o',Sz,h2',n',h3'⟩ (by omega) _ _ _ _ ⟨.bl false,H,I,rfl,q⟩
 ·exact DA Y hF hu pins s σ H _ _ v u Q I rx ry ⟨b,b',ks,ks',rfl,rfl,e1,e2,q⟩
end
abbrev ZP (P:Program) (w:World):=stepK (stepK (ZM P w))
abbrev YP (P:Program) (w:World) (F:W.Frag):oY F (ZP P w):=ve (ve (YM P w F))
theorem aS (P:Program) (w:World):(ZP P w).fL+1≤8:=by show 4≤8;decide
theorem hp1 {A:Around}{P:Program}{w:World} (h:A.units+64 < cLine):A.units+((ZP P w).fL+1) < cLine:=by show A.units+4 < cLine;omega
theorem hp2 {A:Around}{P:Program}{w:World} (h:A.units+64 < cLine):A.units+1+((ZP P w).fL+1) < cLine:=by show A.units+1+4 < cLine;omega
abbrev PX:=(Str×Str)×Nat
abbrev dj:=PX×List (Option PX)
def Bs:Option PX→Lf ⊕ List (Lf ⊕ List Lf)
 | none=>.inl none
 | some m=>.inr (jz m)
theorem Fj {a b:Option PX} (h:Bs a=Bs b):a=b:=by
 cases a with
 | none=>cases b with
  | none=>rfl
  | some y=>exact nomatch h
 | some x=>cases b with
  | none=>exact nomatch h
  | some y=>injection h with h;rw[oh.mp h]
theorem CD:∀{a b:List (Option PX)},a.map Bs=b.map Bs→a=b
 | [],[],_=>rfl
 | [],_ :: _,h=>nomatch h
 | _ :: _,[],h=>nomatch h
 | x :: a,y :: b,h=>by injection h with h1 h2;rw[Fj h1,CD h2]
def aX (m:dj):List (Lf ⊕ List (Lf ⊕ List (Lf ⊕ List Lf))):=[.inr [.inl (some (.inr m.1.1.1)),.inl (some (.inr m.1.1.2))],.inl (some (.inl m.1.2)),.inr (m.2.map Bs)]
theorem ux {m m':dj}:aX m=aX m'↔m=m':=by
 constructor
 ·obtain⟨⟨⟨a,b⟩,n⟩,l⟩:=m
  obtain⟨⟨⟨a',b'⟩,n'⟩,l'⟩:=m'
  intro h
  unfold aX at h
  injection h with h1 h2
  injection h2 with h2 h3
  injection h3 with h3 _
  injection h3 with h3
  injection h1 with h1;injection h1 with h1 h4;injection h4 with h4 _
  injection h1 with h1;injection h1 with h1;injection h1 with h1
  injection h4 with h4;injection h4 with h4;injection h4 with h4
  injection h2 with h2;injection h2 with h2;injection h2 with h2
  have h2:n=n':=Int.ofNat.inj h2
  have h3:=CD h3
  have h1:a=a':=h1
  have h4:b=b':=h4
  have h3:l=l':=h3
  rw[h1,h4,h2,h3]
 ·rintro rfl;rfl
section
variable {P:Program}{w:World}{F:W.Frag}{H:Hp}
def ff (F:W.Frag) (H:Hp):Option PX→V→Prop
 | none,v=>v=.non
 | some m,v=>∃ b s,v=.ref b∧aY F H b [.ref s,.int m.2]∧aY F H s [.str m.1.1,.str m.1.2]
def cI (F:W.Frag) (H:Hp) (m:dj) (v:V):Prop:=∃ b s u vs,v=.ref b∧aY F H b [.ref s,.int m.1.2,.ref u]∧aY F H s [.str m.1.1.1,.str m.1.1.2]∧aY F H u vs∧Paired (ff F H) m.2 vs
theorem cI.keep {H':Hp}{m:dj}{v:V} (t:∀ b xs,aY F H b xs→aY F H' b xs) (h:cI F H m v):cI F H' m v:=by
 obtain⟨b,s,u,vs,e1,e2,e3,e4,e5⟩:=h
 have key:∀{os:List (Option PX)}{vs:List V},Paired (ff F H) os vs→Paired (ff F H') os vs:=by
  intro os vs h
  induction h with
  | nil=>exact .nil
  | cons h _ ih =>
   refine .cons ?_ ih
   rename_i o v _ _ _
   cases o with
   | none=>exact h
   | some m=>obtain⟨b,s,e1,e2,e3⟩:=h;exact⟨b,s,e1,t _ _ e2,t _ _ e3⟩
 exact⟨b,s,u,vs,e1,t _ _ e2,t _ _ e3,t _ _ e4,key e5⟩
theorem SM {o:Option PX}{v:V} (h:ff F H o v):(ve (YM P w F)).on H (Bs o) v:=by
 cases o with
 | none=>have h:v=.non:=h;subst h;rfl
 | some m =>
  obtain⟨b,s,rfl,h1,h2⟩:=h
  exact⟨b,rfl,pI h1 h2⟩
theorem DI:∀{os:List (Option PX)}{vs:List V},Paired (ff F H) os vs→Paired (fun k v=>(ve (YM P w F)).on H k v) (os.map Bs) vs
 | _,_,.nil=>.nil
 | _,_,.cons a r=>.cons (SM a) (DI r)
theorem Nl {m:dj}{b s u:Addr}{vs:List V} (h:aY F H b [.ref s,.int m.1.2,.ref u]) (h2:aY F H s [.str m.1.1.1,.str m.1.1.2]) (h3:aY F H u vs) (h4:Paired (ff F H) m.2 vs):qm (YP P w F) H (aX m) b :=
 ⟨_,h,.cons ⟨s,rfl,_,h2,.cons rfl (.cons rfl .nil)⟩ (.cons rfl (.cons ⟨u,rfl,vs,h3,DI h4⟩ .nil))⟩
end
section
variable {prog:Program}{w:World}{A:Around}{E:Value→Shared→Prop}{s:Shared}{d ep:Nat}{od:Obj}{es:Array DictEntry}
theorem Bt (hd:(d == sysModules)=false):MeetsIn prog w (Builtin.«dict.__len__» ⟨[.ref d],[]⟩) (fun _ R s=>∃(o:Obj) (es:Array DictEntry) (ep:Nat),s.heap.get? d=some o∧o.data=.dict es ep∧R (.ok (.ret (.int es.size s.toks))) { s with toks:=s.toks+1 }) :=
 .of_wp fun A R s ⟨o,es,ep,ho,hdat,h⟩=>by
  show wpAny _ _ (dictSize d >>= _) _ _ s
  unfold dictSize
  refine wpAny_bind (wpAny_bind (wpAny_dictEntries ho hdat (wpAny_pure ?_)))
  show wpAny _ _ (Builtin.Dict.pendingCount d >>= _) _ _ s
  refine wpAny_bind (wpAny_pendingCount_other hd ?_)
  refine wpAny_ret_mkInt ?_
  rw[Nat.add_zero];exact h
theorem PY {Q:Value→Shared→Prop} (hd:(d == sysModules)=false) (g:s.heap.get? d=some od) (c:od.ExactDict) (dt:od.data=.dict es ep) (hfit:(es.size:Int) < 2 ^ 63)
  (h:Q (.int es.size (s.toks+1)) { s with toks:=s.toks+1+1 }):wpAny (model prog w) A (call (.builtin "len") [.ref d]) Q E s:=by
 have ty:s.TypeIs (.ref d) "dict" := ⟨od,g,c.1⟩
 refine Calls.call_function_entry kind_len plain_len entry_len (args_len1 _) ?_
 unfold Builtin.«len»
 refine wpAny_bind (m:=oneArg "len" _) (wpAny_pure ?_)
 refine wpAny_bind (m:=callSpecial? (.ref d) ("__len__":Str)) (wpAny_callSpecial?_slot (name:=Str.ofString "__len__") ty PySem.F.slot_dict_len
  (call_meetsIn PySem.F.slot_dict_len ty PySem.F.entry_dict_len (PySem.F.args_dict_len_1 _) (Bt hd) ⟨od,es,ep,g,dt,?_⟩))
 show wpAny _ _ _ _ _ { s with toks:=s.toks+1 }
 refine wpAny_bind (wpAny_holding (wpAny_pure ?_))
 refine wpAny_bind (wpAny_letGo ?_)
 show wpAny _ _ (if ((es.size:Nat):Int) < 0 then _ else _) _ _ _
 rw[if_neg (by omega)]
 show wpAny _ _ (if ((es.size:Nat):Int)≥2 ^ 63 then _ else _) _ _ _
 rw[if_neg (by omega)]
 exact wpAny_bind (wpAny_mkInt (wpAny_pure ⟨_,rfl,h⟩))
end
section
variable {X:Cx}{P:Program}{w:World}{K:Type} [DecidableEq K] {F:W.Frag}{Z:mh P w K}
def W2 {P:Program}{w:World}{K:Type} [DecidableEq K] {F:W.Frag}{Z:mh P w K} (Y:oY F Z) (hl:Z.fL+1≤8):List V→Hp→VK→Prop:=fun xs H Q=>∃ a kvs,xs=[.ref a]∧Nd Y hl H a kvs∧Q (.int kvs.length) H
theorem rY (Y:oY F Z) (hl:Z.fL+1≤8) (hP:X.prog=P) (hw:X.w=w) (hF:X.K=F):fV X (.builtin "len") (W2 Y hl):=by
 subst hP;subst hw
 intro pins s σ H xs vs Q I rx h
 obtain⟨a,kvs,rfl,nd,q⟩:=h
 obtain⟨z,y,ys,r,dd⟩:=Nd.of hF I nd
 obtain⟨o,es,ep,g,c,dt,he,_⟩:=dd
 cases rx with
 | cons r1 r2 =>
 cases r1;cases r2
 have e1:es.size=ys.length:=size_of_entries he
 have e2:=Paired.length r
 have e3:es.size=kvs.length:=by omega
 refine PY y g c dt (by rw[e3];have:sizeLine=2 ^ 24:=rfl;omega) ⟨.int kvs.length,H,I.tok _,⟨_,by rw[e3]⟩,q⟩
end
section
variable {prog:Program}{w:World}{A:Around}{E:Value→Shared→Prop}{s:Shared}{d ep:Nat}{od:Obj}{es:Array DictEntry}
def Fl (es:Array DictEntry) (i:Nat) (v:Value):Prop:=∃ h:i < es.size,v=es[i].key
theorem K0 (hh:A.handled=none) (I d:Addr) (hne:d≠I) (dt:od.data=.dict es ep):Walks prog w A I [I,d] [I] es.size (Fl es) (fun i h=>h.IsKeyIter I d i es.size ep∧h.get? d=some od) where
 sub:=fun b hb=>by simp at hb;simp[hb]
 frame:=fun _ _ _ st hk=>⟨st.1.at fun o e=>hk I (by simp) o e,hk d (by simp) _ st.2⟩
 item:=fun i s Q E hi st hQ=>by
  refine E9 st.1 st.2 dt hi fun h' KU hs'=>?_
  exact hQ _ h' s.toks ⟨hi,rfl⟩ ⟨KU,(hs'.2 d hne).trans st.2⟩ fun b o hb e=>(hs'.2 b (fun h=>hb (by simp[h]))).trans e
 done:=fun s Q E st hQ=>J5 hh st.1 st.2 dt (Nat.le_refl _) fun h' he'=>hQ h' s.toks fun b o hb e=>he' b o (fun h=>hb (by simp[h])) e
 self:=fun _ _ _ _ st hQ=>wpAny_pyIter_keyiter st.1 hQ
theorem Nm {Q:Bool→Shared→Prop} (g:s.heap.get? d=some od) (c:od.ExactDict) (h:Q false s):wpAny (model prog w) A (Builtin.List.listLengthHint (.ref d)) Q E s:=by
 have ty:s.TypeIs (.ref d) "dict" := ⟨od,g,c.1⟩
 unfold Builtin.List.listLengthHint
 refine wpAny_bind (wpAny_specialOf ty PySem.F.slot_dict_len.lookup ?_)
 generalize hid:("dict.__len__" : String)=WK
 wp_delta
 rw[show splitId WK=some ("dict", "__len__") from by subst hid;decide +kernel]
 subst hid
 refine wpAny_bind (wpAny_isInstance (T := "dict") (b:=true) ty (by rw[isSubtype_type];kernel_rfl) ?_)
 refine wpAny_ite_split (fun hab=>absurd hab (by decide)) (fun _=>?_)
 refine wpAny_ite_split (fun _=>?_) (fun hab=>absurd (by decide +kernel) hab)
 show wpAny _ _ (typeOf (Value.ref d) >>= _) _ _ _
 refine wpAny_bind (wpAny_typeOf ty ?_)
 exact wpAny_pure h
theorem HY {R:Result→Shared→Prop} (hh:A.handled=none) (nd:(d == sysModules)=false) (g:s.heap.get? d=some od) (c:od.ExactDict) (dt:od.data=.dict es ep) (hlen:es.size≤2 ^ 24)
  (S:Addr) (res:Value) (c₀:Nat) (hS:s.heap.get? S=some { cls:=.type "list",data:=.seq #[] c₀ })
  (hR:∀ h' tk acc' c',(∀ b o,b≠S→s.heap.get? b=some o→h'.get? b=some o)→h'.get? S=some { cls:=.type "list",dict:=none,data:=.seq acc' c',slots:=#[] }→ItemsOf (Fl es) acc' es.size→R (.ok (.ret res)) { s with heap:=h',toks:=tk }) :
  wpAny (model prog w) A.in1 (Builtin.List.listExtendWith (.ref S) (.ref d) res)
   (fun fin s'=>match fin with | .done f=>R (.ok f) s' | .again c'=>c'.quiet=true∧codeAny (model prog w) A c' R s') (fun e s'=>R (.error e) s') s:=by
 have hSd:S≠d:=fun e=>by rw[e,g] at hS;cases hS;cases dt
 have adN:S < s.heap.objs.size:=Heap.lt_size hS
 have hSI:S≠s.heap.objs.size:=Nat.ne_of_lt adN
 have hdI:d≠s.heap.objs.size:=Nat.ne_of_lt (Heap.lt_size g)
 have hSf:S∉[s.heap.objs.size,d]:=fun hm=>by
  rcases List.mem_cons.mp hm with q | q
  ·exact hSI q
  ·exact hSd (List.mem_singleton.mp q)
 have W:=(K0 (prog:=prog) (w:=w) (A:=A.in1) hh s.heap.objs.size d hdI dt).toS
 have key:∀(h:Heap) (c₁ tk:Nat),h.IsKeyIter s.heap.objs.size d 0 es.size ep→h.get? d=some od→(∀ b o,b≠S→s.heap.get? b=some o→h.get? b=some o) →
   h.get? S=some { cls:=.type "list",data:=.seq #[] c₁ }→codeAny (model prog w) A (.builtin "list.extend.loop" ⟨[.ref S,.ref s.heap.objs.size,res],[]⟩) R { s with heap:=h,toks:=tk }:=by
  intro h c₁ tk hit hd' hk Fo
  refine codeAny_extend_loopS W (by rw[sizeLine_eq];omega) S hSf res es.size 0 _ #[] c₁ rfl (Nat.zero_le _) ⟨hit,hd'⟩ Fo (ItemsOf.nil _) fun s' acc' c' hm hS' hacc=>?_
  rw[Moved.eq_with hm]
  refine hR s'.heap s'.toks acc' c' (fun b o hb e=>hm.heap b o (fun hmem=>?_) (hk b o hb e)) hS' hacc
  rcases List.mem_cons.mp hmem with e' | hmem
  ·exact hb e'
  ·exact absurd (Heap.lt_size e) (by rw[List.mem_singleton.mp hmem];exact Nat.lt_irrefl _)
 have ty:s.TypeIs (.ref d) "dict" := ⟨od,g,c.1⟩
 unfold Builtin.List.listExtendWith
 refine wpAny_bind (wpAny_typeOf (T := "dict") ty ?_)
 have h1:Builtin.List.listSameRef (.ref S) (.ref d)=false:=by simp[Builtin.List.listSameRef,hSd]
 have h2:(Value.type "dict" == Value.type "list")=false:=by decide
 have h3:(Value.type "dict" == Value.type "tuple")=false:=by decide
 simp only[h1,h2,h3,Bool.or_false,Bool.false_eq_true,if_false]
 refine wpAny_bind (E8 nd g c dt ?_)
 refine wpAny_bind (wpAny_holding (Nm (Heap.get?_push_of_some _ g) c ?_))
 have Np:(s.heap.push { cls:=.type "dict_keyiterator",data:=.fields #[.ref d,.int 0 0,.int es.size 0,.int ep 0] }).IsKeyIter s.heap.objs.size d 0 es.size ep:=⟨_,Heap.get?_push_size _ rfl,rfl,rfl⟩
 have Fo:=Heap.get?_push_of_some { cls:=.type "dict_keyiterator",data:=.fields #[.ref d,.int 0 0,.int es.size 0,.int ep 0] } hS
 have g₁:=Heap.get?_push_of_some { cls:=.type "dict_keyiterator",data:=.fields #[.ref d,.int 0 0,.int es.size 0,.int ep 0] } g
 refine wpAny_ite_split (fun _=>?_) (fun _=>wpAny_pure ⟨plainId_quiet PySem.F.plain_extend_loop _,key _ c₀ _ Np g₁ (fun b o _ e=>Heap.get?_push_of_some _ e) Fo⟩)
 refine wpAny_bind (wpAny_rule ?_)
 refine wpAny_bind ?_
 show wpAny _ _ (updateSeq S (·.push .none) >>= fun _=>updateSeq S (·.pop)) _ _ _
 refine wpAny_bind (wpAny_updateSeq Fo rfl ?_)
 have CC:=Heap.get?_update_self (Obj.mapSeq (·.push Value.none)) Fo rfl
 refine wpAny_updateSeq (hz:=by seq_fits) CC rfl ?_
 have W3:=Heap.get?_update_self (Obj.mapSeq (·.pop)) CC rfl
 refine wpAny_pure ⟨plainId_quiet PySem.F.plain_extend_loop _,key _ _ _ ?_ ?_ (fun b o hb e=>?_) W3⟩
 ·exact Np.at fun o e=>(Heap.get?_update_other _ _ hSI).trans ((Heap.get?_update_other _ _ hSI).trans e)
 ·exact(Heap.get?_update_other _ _ hSd).trans ((Heap.get?_update_other _ _ hSd).trans g₁)
 ·exact(Heap.get?_update_other _ _ (Ne.symm hb)).trans ((Heap.get?_update_other _ _ (Ne.symm hb)).trans (Heap.get?_push_of_some _ e))
theorem Nq {R:Result→Shared→Prop} (hh:A.handled=none) (nd:(d == sysModules)=false) (g:s.heap.get? d=some od) (c:od.ExactDict) (dt:od.data=.dict es ep) (hlen:es.size≤2 ^ 24)
  (S:Addr) (hS:s.heap.get? S=some { cls:=.type "list",data:=.seq #[] })
  (hR:∀ h' tk acc' c',(∀ b o,b≠S→s.heap.get? b=some o→h'.get? b=some o)→h'.get? S=some { cls:=.type "list",dict:=none,data:=.seq acc' c',slots:=#[] }→ItemsOf (Fl es) acc' es.size→R (.ok (.ret .none)) { s with heap:=h',toks:=tk }) :
  wpAny (model prog w) A.in1 (Builtin.«list.__init__» ⟨[.ref S,.ref d],[]⟩)
   (fun fin s'=>match fin with | .done f=>R (.ok f) s' | .again c'=>c'.quiet=true∧codeAny (model prog w) A c' R s') (fun e s'=>R (.error e) s') s:=by
 have hSd:S≠d:=fun e=>by rw[e,g] at hS;cases hS;cases dt
 show wpAny _ _ (do let old ←Builtin.List.listItems (.ref S);Builtin.List.listUpdate (.ref S) (fun _=>#[]);letGo old.toList.reverse;Builtin.List.listExtendWith (.ref S) (.ref d) .none) _ _ s
 refine wpAny_bind ?_
 unfold Builtin.List.listItems
 refine wpAny_bind (wpAny_seqItems hS rfl (wpAny_pure ?_))
 show wpAny _ _ (updateSeq S (fun _=>#[]) >>= fun _=>letGo (#[]:Array Value).toList.reverse >>= fun _=>Builtin.List.listExtendWith (.ref S) (.ref d) .none) _ _ s
 refine wpAny_bind (wpAny_updateSeq hS rfl ?_)
 have CC:=Heap.get?_update_self (Obj.mapSeq (fun _=>(#[]:Array Value))) hS rfl
 have VI:∀ b o,b≠S→s.heap.get? b=some o→(s.heap.update S (Obj.mapSeq (fun _=>(#[]:Array Value)))).get? b=some o :=
  fun b o hb e=>(Heap.get?_update_other _ _ (Ne.symm hb)).trans e
 refine wpAny_bind (wpAny_letGo ?_)
 refine HY hh nd (VI d _ (Ne.symm hSd) g) c dt hlen S .none _ CC fun h' tk acc' c' hk hS' hacc=>?_
 exact hR h' tk acc' c' (fun b o hb e=>hk b o hb (VI b o hb e)) hS' hacc
end
section
variable {prog:Program}{w:World}{A:Around}{E:Value→Shared→Prop}{s:Shared}{d ep:Nat}{od:Obj}{es:Array DictEntry}
theorem Nr {Q:Value→Shared→Prop} (hh:A.handled=none) (nd:(d == sysModules)=false) (g:s.heap.get? d=some od) (c:od.ExactDict) (dt:od.data=.dict es ep) (hlen:es.size≤2 ^ 24)
  (hQ:∀ h' tk acc' c',(∀ b o,s.heap.get? b=some o→h'.get? b=some o) →
   h'.get? s.heap.objs.size=some { cls:=.type "list",dict:=none,data:=.seq acc' c',slots:=#[] }→ItemsOf (Fl es) acc' es.size→Q (.ref s.heap.objs.size) { s with heap:=h',toks:=tk }) :
  wpAny (model prog w) A (call (.type "list") [.ref d]) Q E s:=by
 refine callType_codes (Q₁:=fun obj s₁=>obj=.ref s.heap.objs.size∧s₁={ s with heap:=s.heap.push { cls:=.type "list",data:=.seq #[] } }) PySem.F.called_list (PySem.F.typeCall_list_1 _) PySem.F.entry_list_init
  (code_list_new _ ⟨rfl,rfl⟩) fun obj s₁ h₁=>?_
 obtain⟨rfl,rfl⟩:=h₁
 have hS:(s.heap.push { cls:=.type "list",data:=.seq #[] }).get? s.heap.objs.size=some { cls:=.type "list",data:=.seq #[] }:=Heap.get?_push_size _ rfl
 refine⟨⟨_,hS,rfl⟩,PySem.F.args_list_init_2 _ _,Nq (A:=A.in1) hh nd (Heap.get?_push_of_some _ g) c dt hlen _ hS fun h' tk acc' c' hk hS' hacc=>?_⟩
 exact⟨rfl,hQ h' tk acc' c' (fun b o e=>hk b o (Nat.ne_of_lt (Heap.lt_size e)) (Heap.get?_push_of_some _ e)) hS' hacc⟩
end
section
variable {X:Cx}{P:Program}{w:World}{K:Type} [DecidableEq K] {F:W.Frag}{Z:mh P w K}
theorem K1 {Z:mh P w K}{hl:Z.fL+1≤8}{h:Heap}{a:Addr}{kvs:List (N3 K)}{o:Obj}{es:Array DictEntry}{ep:Nat} (q:zV Z hl a kvs h) (g:h.get? a=some o) (dt:o.data=.dict es ep) {acc:Array Value} (hacc:ItemsOf (Fl es) acc es.size):Vals (kvs.map fun (e:N3 K)=>V.ref e.2.1) acc.toList:=by
 obtain⟨hsz,hkey⟩:=pJ q g dt
 have Ac:acc.toList.length=kvs.length:=by rw[Array.length_toList,hacc.1,hsz]
 have hat:∀ j v,acc.toList[j]? = some v→∃ e:N3 K,kvs[j]? = some e∧v=Value.ref e.2.1:=fun j v hv=>by
  rw[Array.getElem?_toList] at hv
  obtain⟨hj,rfl⟩:=hacc.2 j v hv
  have hj':j < kvs.length:=by omega
  exact⟨kvs[j],List.getElem?_eq_getElem hj',hkey j hj _ (List.getElem?_eq_getElem hj')⟩
 clear hacc hkey hsz q g dt
 generalize acc.toList=us at Ac hat
 induction kvs generalizing us with
 | nil=>cases us with
  | nil=>exact .nil
  | cons u us=>cases Ac
 | cons e kvs ih=>cases us with
  | nil=>cases Ac
  | cons u us =>
   obtain⟨e',h1,h2⟩:=hat 0 u rfl
   have h1:some e=some e':=h1
   cases h1
   subst h2
   exact .cons rfl (ih us (Nat.succ.inj Ac) fun j v hv=>hat (j+1) v hv)
def SN {P:Program}{w:World}{K:Type} [DecidableEq K] {F:W.Frag}{Z:mh P w K} (Y:oY F Z) (hl:Z.fL+1≤8):List V→Hp→VK→Prop:=fun xs H Q=>∃(a:Addr) (kvs:List (N3 K)),xs=[.ref a]∧Nd Y hl H a kvs∧∀ l,H l=none→Q (.ref l) (upd H l (.lst (kvs.map fun (e:N3 K)=>V.ref e.2.1)))
theorem HZ (Y:oY F Z) (hl:Z.fL+1≤8) (hc:X.calm=true) (hP:X.prog=P) (hw:X.w=w) (hF:X.K=F):fV X (.type "list") (SN Y hl):=by
 subst hP;subst hw
 intro pins s σ H xs vs Q I rx h
 obtain⟨a,kvs,rfl,nd,q⟩:=h
 have nn:zV Z hl a kvs s.heap:=(show eY X.prog X.w H s.heap a (dN Z hl a kvs) from I.hok a _ nd.ob).1
 obtain⟨z,y,ys,r,o,es,ep,g,c,dt,rest⟩:=id nn
 cases rx with
 | cons r1 r2 =>
 cases r1;cases r2
 obtain⟨hsz,_⟩:=pJ nn g dt
 refine Nr (I.ok.hd hc) y g c dt (by rw[hsz];exact z) fun h' tk acc' c' hk hS hacc=>?_
 refine⟨.ref _,_,I.laid (t':=tk) (o:=.lst (kvs.map fun e=>V.ref e.2.1)) (fun b u e=>hk b u e) (Nat.le_refl _) ⟨?_,acc'.toList,c',K1 nn g dt hacc,?_⟩,rfl,q _ (I.hok.fresh (Nat.le_refl _))⟩
 ·rw[List.length_map];exact z
 ·rw[hS]
end
section
variable {X:Cx}{K:Type} [DecidableEq K] {F:W.Frag}{Z:mh X.prog X.w K}
def Ia {K:Type} [DecidableEq K] (ks:List K) (k:K):Bool:=ks.any fun x=>decide (x=k)
theorem J6 (Y:oY F Z) {pins:List (Addr×Obj)}{σ:St}{H:Hp}{s:Shared} (hF:X.K=F) (I:Inv X pins σ H s) {kx:K}{x:V}{u:Value} (rx:RelV x u) (hx:Y.on H kx x) {ks:List K}{ws:List V}{its:List Value} (pk:Paired (fun k v=>Y.on H k v) ks ws) (rw':Vals ws its) (hu:X.A.units+1+Z.fL < cLine) :
  ∃ e:Value→Bool,(∀ v∈its,SeqAt.EqAt X.A.in1 s v u (e v))∧its.any e=Ia ks kx:=by
 have hxi:=Y.ok hF I rx hx
 have key:∀{ks:List K}{ws:List V}{its:List Value},Paired (fun k v=>Y.on H k v) ks ws→Vals ws its→Paired (fun k v=>Z.is s.heap k v) ks its:=by
  intro ks ws its a b
  exact Paired.Kp (qO a b) fun k u ⟨v,p,q⟩=>Y.ok hF I q p
 have pi:=key pk rw'
 clear pk rw' key
 refine⟨fun v=>@decide (Z.is s.heap kx v) (Classical.propDecidable _),fun v hv=>?_,?_⟩
 ·have h:∃ k,Z.is s.heap k v:=by
   induction pi with
   | nil=>cases hv
   | cons a _ ih =>
    rcases List.mem_cons.mp hv with q | q
    ·rw[q];exact⟨_,a⟩
    ·exact ih q
  obtain⟨k,hk⟩:=h
  have q:=Z.eq (A:=X.A.in1) (s:=s) (by show X.A.units+1+Z.fL < cLine;omega) hk hxi
  by_cases e:k=kx
  ·rw[decide_eq_true e] at q
   have e2:@decide (Z.is s.heap kx v) (Classical.propDecidable _)=true:=@decide_eq_true _ (Classical.propDecidable _) (by rw[←e];exact hk)
   dsimp only
   rw[e2];exact q
  ·rw[decide_eq_false e] at q
   have e2:@decide (Z.is s.heap kx v) (Classical.propDecidable _)=false:=@decide_eq_false _ (Classical.propDecidable _) (fun z=>e (Z.inj hk z))
   dsimp only
   rw[e2];exact q
 ·induction pi with
  | nil=>rfl
  | @cons k v ks its a r ih =>
   unfold Ia at *
   rw[List.any_cons,List.any_cons,ih]
   congr 1
   by_cases e:k=kx
   ·rw[decide_eq_true e];exact @decide_eq_true _ (Classical.propDecidable _) (by rw[←e];exact a)
   ·rw[decide_eq_false e];exact @decide_eq_false _ (Classical.propDecidable _) (fun z=>e (Z.inj a z))
def PZ {P:Program}{w:World}{K:Type} [DecidableEq K] {F:W.Frag}{Z:mh P w K} (Y:oY F Z):R2:=fun x y H Q=>∃ p kx ks ws,y=.ref p∧Y.on H kx x∧(aU F H p ws∨aY F H p ws)∧Paired (fun k v=>Y.on H k v) ks ws∧Q (.bl (!(Ia ks kx))) H
theorem CF (Y:oY F Z) (hF:X.K=F) (hu:X.A.units+1+Z.fL < cLine):o8 X (compareOp .NotIn) (PZ Y):=by
 intro pins s σ H x y v u Q I rx ry h
 obtain⟨p,kx,ks,ws,rfl,hx,hp,pk,q⟩:=h
 cases ry
 rcases hp with hp | hp
 ·obtain⟨its,r,pl,hz⟩:=I.list (by rw[hF];exact hp)
  obtain⟨e,h1,h2⟩:=J6 Y hF I rx hx pk r hu
  refine SeqAt.notIn_listAt e pl.isList (fun w hwm=>h1 w (by simpa using hwm)) ⟨.bl _,H,I,rfl,?_⟩
  rw[show its.toArray.any e=its.any e by simp,h2]
  exact q
 ·obtain⟨its,r,pl,hz⟩:=I.tuple (by rw[hF];exact hp)
  obtain⟨e,h1,h2⟩:=J6 Y hF I rx hx pk r hu
  refine SeqAt.notIn_tupleAt e pl (fun w hwm=>h1 w (by simpa using hwm)) ⟨.bl _,H,I,rfl,?_⟩
  rw[show its.toArray.any e=its.any e by simp,h2]
  exact q
end
theorem K2 {K:W.Frag}{a b:Addr}{xs ys:List V}{g:TG}{tb:TS}{D:Ends}{σ:St}{H:Hp} (Pv:Nat→St→Hp→Prop) (h0:Pv 0 σ H) (hl:∀ i σ H,i≤min xs.length ys.length→Pv i σ H→aU K H a xs∧aY K H b ys)
  (hs:∀ i x y t σ H,xs[i]? = some x→ys[i]? = some y→H t=none→Pv i σ H→g (.ref t) σ (upd H t (.tup [x,y])) fun σ2 H2=>tb { D with nx:=Pv (i+1),ct:=Pv (i+1),bk:=D.nx } σ2 H2) (hd:∀ σ H,Pv (min xs.length ys.length) σ H→D.nx σ H) :
  ∃ W:Nat→Nat→St→Hp→Prop,(∃ m,W 0 m σ H)∧∀ i m σ H,W i m σ H →
   ((HS K a b).stop i H∧D.nx σ H)∨((HS K a b).go i H∧∃ N:St→Hp→Prop,(∀ σ' H',N σ' H'→∃ m',m' < m∧W (i+1) m' σ' H')∧∀ x H',(HS K a b).L0 i H x H'→g x σ H' fun σ2 H2=>tb { D with nx:=N,ct:=N,bk:=D.nx } σ2 H2):=by
 refine⟨fun i m σ H=>m=min xs.length ys.length - i∧i≤min xs.length ys.length∧Pv i σ H,⟨min xs.length ys.length,by simp,Nat.zero_le _,h0⟩,?_⟩
 rintro i m σ H ⟨rfl,hi,p⟩
 have q:=hl i σ H hi p
 by_cases hlt:i < min xs.length ys.length
 ·have h1:i < xs.length:=by omega
  have h2:i < ys.length:=by omega
  refine .inr ⟨⟨xs,ys,xs[i],ys[i],q.1,q.2,by simp[h1],by simp[h2]⟩,Pv (i+1),fun σ' H' p'=>⟨min xs.length ys.length - (i+1),by omega,rfl,hlt,p'⟩,fun v H' y=>?_⟩
  obtain⟨t,x,y,ht,e1,e2,ex,ey⟩:=y
  subst e1 e2
  exact hs i x y t σ _ (ex xs q.1) (ey ys q.2) ht p
 ·have e:i=min xs.length ys.length:=by omega
  subst e
  exact .inl ⟨⟨xs,ys,q.1,q.2,rfl⟩,hd σ H p⟩
section
variable {P:Program}{w:World}{K:Type} [DecidableEq K]
def Back (Z:mh P w K) (hl:Z.fL+1≤8) (G G':Hp):Prop:=G'=G∨∃ a kvs o,G a=some (dX Z hl a kvs o)∧G'=upd G a (dN Z hl a kvs)
def Rv (Z:mh P w K) (hl:Z.fL+1≤8) (t:TS):TS:=fun D σ H=>t ⟨fun σ' G=>∃ G',Back Z hl G G'∧D.nx σ' G',fun v G=>∃ G',Back Z hl G G'∧D.rt v G',fun σ' G=>∃ G',Back Z hl G G'∧D.bk σ' G',fun σ' G=>∃ G',Back Z hl G G'∧D.ct σ' G'⟩ σ H
end
section
variable {X:Cx}{K:Type} [DecidableEq K] {Z:mh X.prog X.w K}{hl:Z.fL+1≤8}
theorem Inv.back {pins:List (Addr×Obj)}{σ:St}{G G':Hp}{s:Shared} (I:Inv X pins σ G s) (b:Back Z hl G G'):Inv X pins σ G' s:=by
 rcases b with rfl | ⟨a,kvs,o,d,rfl⟩
 ·exact I
 ·obtain⟨nd,g⟩:=Nf I d
  have ok:eY X.prog X.w (upd G a (dN Z hl a kvs)) s.heap a (dN Z hl a kvs):=by
   refine⟨nd,⟨o,g⟩,fun g1 g2 q k=>?_⟩
   obtain⟨z,y,xs,r,o',es,ep,h1,h2,h3,h4,h5⟩:=q
   exact⟨z,y,xs,r,o',es,ep,k _ h1,h2,h3,h4,h5⟩
  exact I.write (x:=a) (e:=a) (t':=s.toks) (h':=s.heap) (by rw[d];exact True.intro) (.inl rfl) (fun b u _ e=>e) ⟨o,g⟩ ok
theorem Nt {st:Stmt}{t:TS} (h:PS X st t):PS X st (Rv Z hl t):=by
 intro pins s σ H D I q
 refine dQ (h pins s σ H _ I q) fun f s' r=>?_
 cases f with
 | next=>obtain⟨σ',H',I',G',b,z⟩:=r;exact⟨σ',G',I'.back b,z⟩
 | brk=>obtain⟨σ',H',I',G',b,z⟩:=r;exact⟨σ',G',I'.back b,z⟩
 | cont=>obtain⟨σ',H',I',G',b,z⟩:=r;exact⟨σ',G',I'.back b,z⟩
 | ret u=>obtain⟨v,σ',H',I',rv,G',b,z⟩:=r;exact⟨v,σ',G',I'.back b,rv,z⟩
end
theorem P0 {X:Cx}{P:Program}{w:World}{K:Type} [DecidableEq K] (Z:mh P w K) (hl:Z.fL+1≤8) (hP:X.prog=P) (hw:X.w=w) {st:Stmt}{t:TS} (h:PS X st t):PS X st (Rv Z hl t):=by
 subst hP hw;exact Nt h
theorem Nu {P:Program}{w:World}{K:Type} [DecidableEq K] {Z:mh P w K}{hl:Z.fL+1≤8}{a:Addr}{kvs:List (N3 K)}{o:Obj}{g:TG}{tb:TS}{D:Ends}{σ:St}{H:Hp} (Pv:Nat→St→Hp→Prop) (h0:Pv 0 σ H) (hl':∀ i σ H,i≤kvs.length→Pv i σ H→H a=some (dX Z hl a kvs o))
  (hs:∀ i e σ H,kvs[i]? = some e→Pv i σ H→g (.ref e.2.1) σ H fun σ2 H2=>tb { D with nx:=Pv (i+1),ct:=Pv (i+1),bk:=D.nx } σ2 H2) (hd:∀ σ H,Pv kvs.length σ H→D.nx σ H) :
  ∃ W:Nat→Nat→St→Hp→Prop,(∃ m,W 0 m σ H)∧∀ i m σ H,W i m σ H →
   ((WY Z hl a kvs o).stop i H∧D.nx σ H)∨((WY Z hl a kvs o).go i H∧∃ N:St→Hp→Prop,(∀ σ' H',N σ' H'→∃ m',m' < m∧W (i+1) m' σ' H')∧∀ x H',(WY Z hl a kvs o).L0 i H x H'→g x σ H' fun σ2 H2=>tb { D with nx:=N,ct:=N,bk:=D.nx } σ2 H2):=by
 refine⟨fun i m σ H=>m=kvs.length - i∧i≤kvs.length∧Pv i σ H,⟨kvs.length,by simp,Nat.zero_le _,h0⟩,?_⟩
 rintro i m σ H ⟨rfl,hi,p⟩
 have q:=hl' i σ H hi p
 by_cases hlt:i < kvs.length
 ·refine .inr ⟨⟨q,kvs[i],List.getElem?_eq_getElem hlt⟩,Pv (i+1),fun σ' H' p'=>⟨kvs.length - (i+1),by omega,rfl,hlt,p'⟩,fun x H' y=>?_⟩
  obtain⟨e,e1,h1,h2⟩:=y
  subst e h2
  exact hs i e1 σ _ h1 p
 ·have e:i=kvs.length:=by omega
  subst e
  exact .inl ⟨⟨q,Nat.le_refl _⟩,hd σ H p⟩
inductive TyX (K:W.Frag) (H:Hp):V→Value→Prop where
 | of {x:V}{t:Value} (h:uu K H x t):TyX K H x t
 | sqt {a:Addr}{xs:List V} (h:aY K H a xs):TyX K H (.ref a) (.type "tuple")
 | sql {a:Addr}{xs:List V} (h:aU K H a xs):TyX K H (.ref a) (.type "list")
section
variable {X:Cx}
def adO (K:W.Frag):List V→Hp→VK→Prop:=fun xs H Q=>∃ x n t b,xs=[x,.ty n]∧TyX K H x t∧W.kitOne K t (.type n)=some b∧Q (.bl b) H
theorem DJ (K:W.Frag) (h:X.K=K):fV X (.builtin "isinstance") (adO K):=by
 subst h
 intro pins s σ H xs vs Q I rx q
 obtain⟨x,n,t,b,rfl,ty,e,q⟩:=q
 cases ty with
 | of ty=>exact bQ X.K rfl pins s σ H _ vs Q I rx ⟨x,_,t,b,rfl,ty,.inl ⟨n,rfl,e⟩,q⟩
 | @sqt a xs ha =>
  obtain⟨its,r,⟨o,h1,h2,_⟩,_⟩:=I.tuple ha
  cases rx with
  | cons r1 r2 =>
  cases r2 with
  | cons r2 r3 =>
  cases r1;cases r2;cases r3
  exact W.kia_one W.kitx_tuple I.uZ ⟨o,h1,h2⟩ e (fun z=>nomatch z) fun tk=>⟨.bl b,H,I.tok _,rfl,q⟩
 | @sql a xs ha =>
  obtain⟨its,r,p,_⟩:=I.list ha
  cases rx with
  | cons r1 r2 =>
  cases r2 with
  | cons r2 r3 =>
  cases r1;cases r2;cases r3
  obtain⟨o,h1,h2⟩:∃ o,s.heap.get? a=some o∧o.cls=.type "list" := by
   obtain⟨o,h1,h2,_⟩:=p.isList
   exact⟨o,h1,h2⟩
  exact W.kia_one W.kitx_list I.uZ ⟨o,h1,h2⟩ e (fun z=>nomatch z) fun tk=>⟨.bl b,H,I.tok _,rfl,q⟩
end
theorem Ib {x:Str}:[x].Nodup:=.cons (fun y hy=>nomatch hy) .nil
section
variable {X:Cx}
theorem gm (i:Nat) {x:Str}{pos:Pos} (hN:X.N.Nodup) (hi:X.N[i]? = some x:=by rfl) (hx:Loc X.env.scope x:=by first | exact .inl rfl | exact .inr rfl) (hf:X.fn x=true∨X.env.scope.names.lookup x=some .local:=by first | exact .inl rfl | exact .inr rfl | assumption):PG X (.Name x pos) (bf i):=O8 hN hi hx hf
theorem eS (i:Nat) {x:Str}{e:Expr}{te:TE}{pos pos':Pos} (hN:X.N.Nodup) (he:PE X e te) (hi:X.N[i]? = some x:=by rfl) (hx:Loc X.env.scope x:=by first | exact .inl rfl | exact .inr rfl) (hs:swapsWith e (some (.Name x pos')) pos.line X.env=pure false:=by rfl) (hf:X.fn x=true∨X.env.scope.names.lookup x=some .local:=by first | exact .inl rfl | exact .inr rfl | assumption) :
 PS X (.Assign [.Name x pos'] e pos) (O9 te (bf i)):=RV hN hi hx he hs hf
theorem CG {XN:List Str}{VD:Scope}{N:List Str}{nv:Nat}{js:List Nat}{scope:Scope} (kind:scope.kind=.function:=by rfl) (cell:∀ y∈scope.names,y.2≠.cell:=by decide +kernel) (loc:∀ y∈scope.names,y.2=.local→scope.names.lookup y.1=some .local:=by decide +kernel)
 (free:∀ y∈scope.names,y.2=.free→(VD.names.lookup y.1=some .cell∨VD.names.lookup y.1=some .free):=by decide +kernel) (nd:N.Nodup:=by decide +kernel) (len:N.length=nv+js.length:=by rfl) (pl:js.map (fun j=>XN[j]?)=(N.drop nv).map some:=by rfl)
 (fr:∀ x∈N.drop nv,scope.names.lookup x=some .free:=by decide +kernel):br XN VD N nv js scope:=⟨kind,cell,loc,free,nd,len,pl,fr⟩
theorem j8 {id:String}{r:List V→Hp→VK→Prop}{x:Str}{e:Expr}{es:List Expr}{t:TA}{p pos:Pos} (hc:fV X (.builtin id) r) (hm:X.mg x=none) (ha:PA X (e :: es) t) (hg:Gl X x:=by rfl) (hv:bootBuiltins x=some (.builtin id):=by decide +kernel) (hn:x ≠ "__name__" := by decide) (hdb:(x == ("__debug__" : Str))=false:=by decide)
 (he:starEach (e :: es) X.env=(false,eval e X.env) :: starEach es X.env:=by rfl) (hpl:(backTo pos (starEach es X.env)).any (·.1)=false:=by rfl):PE X (.Call (.Name x p) (e :: es) [] pos) (tCB r t):=MD hc hg hm hv ha hn hdb he hpl
theorem L3 {T:String}{r:List V→Hp→VK→Prop}{x:Str}{e:Expr}{es:List Expr}{t:TA}{p pos:Pos} (hc:fV X (.type T) r) (hm:X.mg x=none) (ha:PA X (e :: es) t) (hg:Gl X x:=by rfl) (hv:bootBuiltins x=some (.type T):=by decide +kernel) (hn:x ≠ "__name__" := by decide) (hdb:(x == ("__debug__" : Str))=false:=by decide)
 (he:starEach (e :: es) X.env=(false,eval e X.env) :: starEach es X.env:=by rfl) (hpl:(backTo pos (starEach es X.env)).any (·.1)=false:=by rfl):PE X (.Call (.Name x p) (e :: es) [] pos) (tCB r t):=Ky hc hg hm hv ha hn hdb he hpl
theorem Ic (n:String) {x:Str}{pos:Pos} (hm:X.mg x=none) (hg:Gl X x:=by rfl) (hv:bootBuiltins x=some (.type n):=by decide +kernel) (hn:x ≠ "__name__" := by decide) (hd:(x == ("__debug__" : Str))=false:=by decide):PE X (.Name x pos) (tC (.ty n)):=Sq n hg hm hv hn hd
theorem gn {k kk:Nat}{f:Addr}{fd:FuncData}{ps:List Str}{sp:Sp}{x:Str}{e:Expr}{es:List Expr}{t:TA}{p pos:Pos} (F:aJ X.prog X.w X.K X.mg X.base bG k f fd ps sp) (hr:i8 kk X.A) (hm:X.mg x=some (.ref f)) (hk:W.keepIn X.K (.ref f)=true) (hb:Binds X.K fd ps []) (ha:PA X (e :: es) t) (hkk:k≤kk:=by decide) (hg:Gl X x:=by rfl)
 (hdb:(x == ("__debug__" : Str))=false:=by decide) (he:starEach (e :: es) X.env=(false,eval e X.env) :: starEach es X.env:=by rfl) (hpl:(backTo pos (starEach es X.env)).any (·.1)=false:=by rfl):PE X (.Call (.Name x p) (e :: es) [] pos) (Rh sp [] E0 t):=Pf F (hr.mono hkk) hg hm hk hb .nil jy ha hdb he hpl
theorem gw (K:W.Frag) {a b:Expr}{ta tb:TE}{pos:Pos} (ha:PE X a ta) (hb:PE X b tb) (hs:Dt b:=by exact fun _ _=>rfl) (h:X.K=K:=by rfl):PE X (.Subscript a b pos) (Rc (Sb K) ta tb):=Co (Py K h) ha hb hs
theorem Ad (K:W.Frag) {a b:Expr}{ta tb:TE}{pos:Pos} (ha:PE X a ta) (hb:PE X b tb) (hs:Dt b:=by exact fun _ _=>rfl) (h:X.K=K:=by rfl):PE X (.Subscript a b pos) (Rc (Sa K) ta tb):=Co (zS K h) ha hb hs
theorem dw {op:CmpOp}{r:R2}{a b:Expr}{ta tb:TE}{pos:Pos} (ho:o8 X (compareOp op) r) (ha:PE X a ta) (hb:PE X b tb) (h:op≠.In:=by decide) (h2:op≠.NotIn:=by decide):PT X (.Compare a [op] [b] pos) (Rg (Rc r ta tb)):=cu ho ha hb (Mx b h h2)
theorem CH {op:CmpOp}{r:R2}{a b:Expr}{ta tb:TE}{pos:Pos} (ho:o8 X (compareOp op) r) (ha:PE X a ta) (hb:PE X b tb) (h:op≠.In:=by decide) (h2:op≠.NotIn:=by decide):PE X (.Compare a [op] [b] pos) (Rc r ta tb):=Dq ho ha hb (Mx b h h2)
end
theorem bB {a b:TS}{D:Ends}{σ:St}{H:Hp} (h:∀ R:TS,(∀ D σ H,b D σ H→R D σ H)→O7 a R D σ H):O7 a b D σ H:=h b fun _ _ _ z=>z
abbrev FO (n q:Str) (s:Stmt) (d oc:Value) (od:Option Addr) (kV dc pm:Value) (an:Option Addr) (cd ct:Value) (sl:Array (Option Value)):Option Obj:=some ⟨oc,od,.func (W.fnOf n q (dY s) (cY s) (av s) d kV dc pm an cd ct),sl⟩
abbrev FN (n q:Str) (s:Stmt) (d kV dc pm:Value) (an:Option Addr) (cd ct:Value):FuncData:=W.fnOf n q (dY s) (cY s) (av s) d kV dc pm an cd ct
abbrev RF (a:Addr):Option (Option Value):=some (some (.ref a))
theorem fW.nO {K:W.Frag}{x qual:Str}{st:Stmt}{f:Addr}{fd:FuncData}{ps:List Str} (F:fW K x qual st f fd) (hp:ps.length=1:=by rfl)
  (h:∀(kV doc pm:Value) (an:Option Addr) (cdv ct a0:Value),bindArgs (W.fnOf x qual (dY st) (cY st) (av st) .none kV doc pm an cdv ct) ⟨[a0],[]⟩=pure (ps.zip [a0]):=by intros;rfl):Binds K fd ps [] :=
 F.binds fun kV doc pm an cdv ct us hl=>by
  rw[hp] at hl
  match us,hl with
  | [a0],_=>exact h kV doc pm an cdv ct a0
theorem fW.sP {K:W.Frag}{x qual:Str}{st:Stmt}{f:Addr}{fd:FuncData}{ps:List Str} (F:fW K x qual st f fd) (hp:ps.length=2:=by rfl)
  (h:∀(kV doc pm:Value) (an:Option Addr) (cdv ct a0 a1:Value),bindArgs (W.fnOf x qual (dY st) (cY st) (av st) .none kV doc pm an cdv ct) ⟨[a0,a1],[]⟩=pure (ps.zip [a0,a1]):=by intros;rfl):Binds K fd ps [] :=
 F.binds fun kV doc pm an cdv ct us hl=>by
  rw[hp] at hl
  match us,hl with
  | [a0,a1],_=>exact h kV doc pm an cdv ct a0 a1
theorem fW.qB {K:W.Frag}{x qual:Str}{st:Stmt}{f:Addr}{fd:FuncData}{ps:List Str} (F:fW K x qual st f fd) (hp:ps.length=3:=by rfl)
  (h:∀(kV doc pm:Value) (an:Option Addr) (cdv ct a0 a1 a2:Value),bindArgs (W.fnOf x qual (dY st) (cY st) (av st) .none kV doc pm an cdv ct) ⟨[a0,a1,a2],[]⟩=pure (ps.zip [a0,a1,a2]):=by intros;rfl):Binds K fd ps [] :=
 F.binds fun kV doc pm an cdv ct us hl=>by
  rw[hp] at hl
  match us,hl with
  | [a0,a1,a2],_=>exact h kV doc pm an cdv ct a0 a1 a2
theorem fW.K3 {K:W.Frag}{x qual:Str}{st:Stmt}{f:Addr}{fd:FuncData}{ps:List Str} (F:fW K x qual st f fd) (hp:ps.length=4:=by rfl)
  (h:∀(kV doc pm:Value) (an:Option Addr) (cdv ct a0 a1 a2 a3:Value),bindArgs (W.fnOf x qual (dY st) (cY st) (av st) .none kV doc pm an cdv ct) ⟨[a0,a1,a2,a3],[]⟩=pure (ps.zip [a0,a1,a2,a3]):=by intros;rfl):Binds K fd ps [] :=
 F.binds fun kV doc pm an cdv ct us hl=>by
  rw[hp] at hl
  match us,hl with
  | [a0,a1,a2,a3],_=>exact h kV doc pm an cdv ct a0 a1 a2 a3
theorem fW.adP {K:W.Frag}{x qual:Str}{st:Stmt}{f:Addr}{fd:FuncData}{ps:List Str} (F:fW K x qual st f fd) (hp:ps.length=5:=by rfl)
  (h:∀(kV doc pm:Value) (an:Option Addr) (cdv ct a0 a1 a2 a3 a4:Value),bindArgs (W.fnOf x qual (dY st) (cY st) (av st) .none kV doc pm an cdv ct) ⟨[a0,a1,a2,a3,a4],[]⟩=pure (ps.zip [a0,a1,a2,a3,a4]):=by intros;rfl):Binds K fd ps [] :=
 F.binds fun kV doc pm an cdv ct us hl=>by
  rw[hp] at hl
  match us,hl with
  | [a0,a1,a2,a3,a4],_=>exact h kV doc pm an cdv ct a0 a1 a2 a3 a4
end L2
namespace My
open PySem L2
def top (i:Nat):Stmt:=PySem.Challenge.pw_dialecthall_k74_open_or_not.main.body.getD i (.Pass ⟨0,0,0,0⟩)
abbrev fh:Stmt:=top 12
abbrev cP:Stmt:=top 13
abbrev cG:Stmt:=top 30
abbrev bI:Stmt:=inClass (top 31) 0
abbrev gC:Stmt:=inClass (top 31) 1
abbrev jc:Stmt:=top 32
abbrev cV:Stmt:=top 34
abbrev fX:Stmt:=top 35
abbrev ic:Stmt:=top 36
abbrev ie:Stmt:=top 37
abbrev fY:Stmt:=top 38
abbrev jd:Stmt:=top 39
abbrev fZ:Stmt:=inClass (top 40) 0
abbrev j9:Stmt:=inClass (top 40) 1
abbrev Ae:Stmt:=top 18
abbrev dZ:Stmt:=inClass (top 31) 2
abbrev oi:Stmt:=top 21
abbrev fj:Stmt:=inClass (top 40) 2
abbrev gD:Stmt:=top 28
abbrev d7:Stmt:=inClass (top 42) 0
abbrev cL:Stmt:=inClass (top 42) 1
abbrev cA:Stmt:=inClass (top 42) 2
abbrev oj:Stmt:=top 14
abbrev om:Stmt:=top 15
abbrev fk:Stmt:=top 16
abbrev iP:Stmt:=top 17
abbrev ig:Stmt:=top 26
abbrev dR:Stmt:=top 25
abbrev kc:Stmt:=top 27
abbrev fN:Stmt:=inClass (top 5) 0
abbrev mj:Stmt:=top 11
abbrev gh:Stmt:=top 44
abbrev bV:Stmt:=top 45
abbrev cQ:Stmt:=inClass (top 46) 0
abbrev fm:Stmt:=inClass (top 46) 1
abbrev di:Stmt:=inClass (top 46) 2
abbrev iw:Stmt:=top 54
abbrev kg:Stmt:=top 48
abbrev oq:Stmt:=top 49
abbrev Af:Stmt:=top 55
abbrev gE:Stmt:=top 57
abbrev je:Stmt:=top 58
abbrev iy:Stmt:=top 59
abbrev kh:Stmt:=top 60
abbrev jf:Stmt:=top 61
abbrev ki:Stmt:=top 62
abbrev kj:Stmt:=top 63
abbrev ko:Stmt:=top 65
abbrev kr:Stmt:=top 64
abbrev ku:Stmt:=top 66
abbrev iz:Stmt:=top 67
abbrev fO:Stmt:=top 68
abbrev jg:Stmt:=top 69
abbrev iA:Stmt:=top 70
abbrev mq:Stmt:=top 71
abbrev iB:Stmt:=top 72
abbrev kB:Stmt:=top 73
abbrev gP:Stmt:=top 74
abbrev gi:Stmt:=top 75
abbrev jh:Stmt:=top 76
abbrev kC:Stmt:=top 77
abbrev iW:Stmt:=top 78
abbrev gQ:Stmt:=top 79
abbrev vm:Stmt:=top 80
theorem ao {H:Hp}{l:Addr}{o:HO} (h:H l=none):aD H (upd H l o):=fun b u e=>by rw[aE (bC e h)];exact e
theorem aI {H H2:Hp}{l:Addr}{o:HO} (h:H l=none) (s:aD H H2):aD H (upd H2 l o):=fun b u e=>by rw[aE (bC e h)];exact s b u e
theorem sQ {i:Nat}{x:V}{σ:St}{H:Hp}{A B:St→Hp→Prop} (h:A (σ.set i (some x)) H):bf i x σ H (fun τ2 H2=>Pw τ2 H2 fun b H3=>if b=true then A τ2 H3 else B τ2 H3):=by
 show(if true=true then A (σ.set i (some x)) H else B (σ.set i (some x)) H)
 exact n8 h
theorem W4 {p A B:Prop} [Decidable p] (hp:p) (h:A):if decide p=true then A else B:=by rw[if_pos (decide_eq_true hp)];exact h
theorem Nv {p A B:Prop} [Decidable p] (hp:¬p) (h:B):if decide p=true then A else B:=by rw[if_neg (by simpa using hp)];exact h
theorem J7 {A B:Prop}{b:Bool} (hb:b=true) (h:B):if (!b)=true then A else B:=by rw[hb];exact cz h
theorem Ie {α:Type}{xs:List α}{i:Int} (h0:0≤i) (h:i < xs.length):∃ c,Bk xs i=some c∧c∈xs:=by
 obtain⟨j,rfl⟩:∃ j:Nat,i=j:=⟨i.toNat,by omega⟩
 have hj:j < xs.length:=by omega
 exact⟨xs[j],iH (by simp[hj]),List.getElem_mem hj⟩
theorem take_snoc {l:List Nat}{i c:Nat} (h:l[i]? = some c):l.take (i+1)=l.take i++[c]:=by
 rw[List.take_succ,h];rfl
def Pn (c:Nat):Prop:=32≤c∧c≤126∧c≠37
instance (c:Nat):Decidable (Pn c):=by unfold Pn;exact inferInstance
structure Sg (z:Str):Prop where
 nd:z.cps.toList.Nodup
 pr:∀ c∈z.cps.toList,Pn c
def Mn (z:Str):Prop:=0 < z.length∧z.length≤100∧∀ c∈z.cps.toList,Pn c
instance (z:Str):Decidable (Mn z):=by unfold Mn;exact inferInstance
structure Gd (p q f:Str):Prop where
 gp:Sg p
 gq:Sg q
 gf:Sg f
 p1:1≤p.length
 p3:p.length≤3
 q2:q.length≤2
 f2:f.length≤2
def qo (p q f:Str) (b1 b2 b3 b4:Bool):List V:=[.str p,.str q,.str f,.bl b1,.bl b2,.bl b3,.bl b4]
def CI (p q f:Str) (b1 b2 b3 b4:Bool):List (Str×V):=[("parts",.str p),("quotes",.str q),("frees",.str f),("twin",.bl b1),("wide",.bl b2),("thin",.bl b3),("stray",.bl b4)]
def away (t:Str) (c:Nat):Bool:=!(!(Builtin.Str.occurrences t (sg c) 0 t.length 1).isEmpty)
theorem qP (t:Str) (c:Nat):away t c=true↔c∉t.cps.toList:=by
 unfold away
 have e:(!(Builtin.Str.occurrences t (sg c) 0 t.length 1).isEmpty)=decide (c∈t.cps.toList):=StrLaws.found_one t c
 rw[e]
 simp
theorem SO {z:Str}{c:Nat} (h:Sg z) (hc:Pn c) (ha:away z c=true):Sg (z++sg c):=by
 have e:(z++sg c).cps.toList=z.cps.toList++[c]:=by
  show(z.cps ++ #[c]).toList=_
  simp
 have hn:=(qP z c).mp ha
 refine⟨?_,?_⟩
 ·rw[e,List.nodup_append]
  refine⟨h.nd,by simp,fun a ha b hb=>?_⟩
  rw[List.mem_singleton.mp hb]
  intro q;exact hn (q ▸ ha)
 ·rw[e]
  intro d hd
  rcases List.mem_append.mp hd with z' | z'
  ·exact h.pr d z'
  ·rw[List.mem_singleton.mp z'];exact hc
theorem SQ:Sg ("":Str):=by
 have e:("":Str).cps.toList=[]:=by decide +kernel
 refine⟨?_,?_⟩
 ·rw[e];exact List.nodup_nil
 ·rw[e];intro c hc;cases hc
theorem cy (a b:Str):(a++b).length=a.length+b.length:=by
 show(a.cps++b.cps).size=_
 rw[Array.size_append];rfl
theorem aB {K:W.Frag}{H H':Hp}{a:Addr}{xs:List V} (e:aD H H') (h:aY K H a xs):aY K H' a xs:=by
 rcases h with (h | ⟨o,h⟩) | h
 ·exact .inl (.inl (e _ _ h))
 ·exact .inl (.inr ⟨o,e _ _ h⟩)
 ·exact .inr h
theorem Nx {A B:Prop}{b:Bool} (hb:b=false) (h:A):if (!b)=true then A else B:=by rw[hb];exact n8 h
theorem mw {A B:Prop}{b:Bool} (hb:b=true) (h:A):if b=true then A else B:=by rw[hb];exact n8 h
theorem mC {A B:Prop}{b:Bool} (hb:b=false) (h:B):if b=true then A else B:=by rw[hb];exact cz h
def iX (c:Nat) (z:Str):Bool:=!(Builtin.Str.occurrences z (sg c) 0 z.length 1).isEmpty
def bz (a b:Str):Bool:=decide (V.str a=V.str b)
theorem mD {a b:Str} (h:bz a b=true):a=b:=by have:=of_decide_eq_true h;cases this;rfl
theorem bq (a:Str):bz a a=true:=decide_eq_true rfl
inductive Res where
 | go (k w u:Str)
 | uq (w:Str)
def yI (K:W.Frag) (H:Hp) (v:V):Res→Prop
 | .go k w u=>bz k ("fault":Str)=false∧∃ a b,v=.ref a∧aY K H a [.str k,.ref b]∧aY K H b [.str w,.str u]
 | .uq w=>∃ a,v=.ref a∧aY K H a [.str ("fault":Str),.str w]
theorem bY {K:W.Frag}{H:Hp}{Q:VK}{k w u:Str}{r:Res} (e:r=.go k w u) (hk:bz k ("fault":Str)=false) (h:∀ v H',aD H H'→yI K H' v r→Q v H') :
  [V.str w,V.str u].length≤sizeLine∧∀ b,H b=none→([V.str k,V.ref b].length≤sizeLine∧∀ a,(upd H b (.tup [.str w,.str u])) a=none→Q (.ref a) (upd (upd H b (.tup [.str w,.str u])) a (.tup [.str k,.ref b]))):=by
 refine⟨(by show 2≤sizeLine;decide),fun b hb=>⟨(by show 2≤sizeLine;decide),fun a ha=>?_⟩⟩
 have s1:=ao (o:=HO.tup [.str w,.str u]) hb
 have s2:=ao (o:=HO.tup [.str k,.ref b]) ha
 refine h _ _ (s1.trans s2) ?_
 rw[e]
 exact⟨hk,a,b,rfl,aY.of aj,aB s2 (aY.of aj)⟩
theorem jI {K:W.Frag}{H H0:Hp}{Q:VK}{k w u:Str}{r:Res}{b:Addr} (e:r=.go k w u) (hk:bz k ("fault":Str)=false) (s0:aD H0 H) (hb:aY K H b [.str w,.str u]) (h:∀ v H',aD H0 H'→yI K H' v r→Q v H') :
  [V.str k,V.ref b].length≤sizeLine∧∀ a,H a=none→Q (.ref a) (upd H a (.tup [.str k,.ref b])):=by
 refine⟨(by show 2≤sizeLine;decide),fun a ha=>?_⟩
 have s2:=ao (o:=HO.tup [.str k,.ref b]) ha
 refine h _ _ (s0.trans s2) ?_
 rw[e]
 exact⟨hk,a,b,rfl,aY.of aj,aB s2 hb⟩
theorem kO {K:W.Frag}{H:Hp}{Q:VK}{w:Str}{r:Res} (e:r=.uq w) (h:∀ v H',aD H H'→yI K H' v r→Q v H') :
  [V.str ("fault":Str),V.str w].length≤sizeLine∧∀ a,H a=none→Q (.ref a) (upd H a (.tup [.str ("fault":Str),.str w])):=by
 refine⟨(by show 2≤sizeLine;decide),fun a ha=>?_⟩
 have s2:=ao (o:=HO.tup [.str ("fault":Str),.str w]) ha
 refine h _ _ s2 ?_
 rw[e]
 exact⟨a,rfl,aY.of aj⟩
theorem d8:bz ("skip":Str) ("fault":Str)=false:=by decide +kernel
theorem uy:bz ("end":Str) ("fault":Str)=false:=by decide +kernel
theorem pL:bz ("part":Str) ("fault":Str)=false:=by decide +kernel
theorem dM:bz ("put":Str) ("fault":Str)=false:=by decide +kernel
def fq (p q f:Str) (b3:Bool) (w u:Str) (c:Nat):Res :=
 if iX c f=true then .go ("skip":Str) ("freed":Str) ("":Str) else
 if bz (sg c) (Str.ofString "\n")=true then .go ("end":Str) ("row":Str) ("":Str) else
 if iX c q=true then .go ("skip":Str) ("within":Str) (sg c) else
 if iX c p=true then .go ("part":Str) ("cell":Str) ("":Str) else
 if bz (sg c) (" ":Str)=true then (if b3=true then .go ("skip":Str) w u else .go ("put":Str) ("plain":Str) ("":Str)) else
 .go ("put":Str) ("plain":Str) ("":Str)
def fP (p q f:Str) (b4:Bool) (c:Nat):Res :=
 if iX c f=true then .go ("skip":Str) ("freed":Str) ("":Str) else
 if bz (sg c) (Str.ofString "\n")=true then .go ("end":Str) ("row":Str) ("":Str) else
 if iX c p=true then .go ("part":Str) ("cell":Str) ("":Str) else
 if iX c q=true then (if (!b4)=true then .uq ("quote":Str) else .go ("put":Str) ("plain":Str) ("":Str)) else
 .go ("put":Str) ("plain":Str) ("":Str)
def cR (f:Str) (b1 b2:Bool) (u:Str) (c:Nat):Res :=
 if iX c f=true then .go ("skip":Str) ("freed":Str) u else
 if bz (sg c) u=true then (if b1=true then .go ("skip":Str) ("doubt":Str) u else .go ("skip":Str) ("behind":Str) ("":Str)) else
 if bz (sg c) (Str.ofString "\n")=true then (if (!b2)=true then .uq ("line":Str) else .go ("put":Str) ("within":Str) u) else
 .go ("put":Str) ("within":Str) u
def bK (p:Str) (b3:Bool) (c:Nat):Res :=
 if bz (sg c) (Str.ofString "\n")=true then .go ("end":Str) ("row":Str) ("":Str) else
 if iX c p=true then .go ("part":Str) ("cell":Str) ("":Str) else
 if bz (sg c) (" ":Str)=true then (if b3=true then .go ("skip":Str) ("behind":Str) ("":Str) else .uq ("behind":Str)) else
 .uq ("behind":Str)
def iQ (p:Str) (b3:Bool) (u:Str) (c:Nat):Res:=if bz (sg c) u=true then .go ("put":Str) ("within":Str) u else bK p b3 c
def eV (u:Str):Res:=if bz u ("":Str)=true then .go ("put":Str) ("plain":Str) ("":Str) else .go ("put":Str) ("within":Str) u
def gF (b2:Bool) (u:Str) (c:Nat):Res :=
 if bz (sg c) (Str.ofString "\n")=true then (if (!b2)=true then .uq ("line":Str) else eV u) else eV u
def gu (p q f:Str) (b3 b4:Bool) (w u:Str) (c:Nat):Res:=if bz w ("plain":Str)=true then fP p q f b4 c else fq p q f b3 w u c
def bN (p q f:Str) (b1 b2 b3 b4:Bool) (w u:Str) (c:Nat):Res :=
 if bz w ("within":Str)=true then cR f b1 b2 u c else
 if bz w ("freed":Str)=true then gF b2 u c else
 if bz w ("doubt":Str)=true then iQ p b3 u c else
 if bz w ("behind":Str)=true then bK p b3 c else
 gu p q f b3 b4 w u c
theorem ns {a b:String} (h:bz (Str.ofString a) (Str.ofString b)=false):¬bz (Str.ofString a) (Str.ofString b)=true:=by rw[h];decide
theorem Ny {p q f:Str}{b1 b2 b3 b4:Bool}{w u:Str}{c:Nat} (h:bz w ("plain":Str)=true):bN p q f b1 b2 b3 b4 w u c=fP p q f b4 c:=by
 cases mD h
 unfold bN gu
 rw[if_neg (ns (by decide +kernel)),if_neg (ns (by decide +kernel)),if_neg (ns (by decide +kernel)),if_neg (ns (by decide +kernel)),if_pos (bq _)]
theorem gR {p q f:Str}{b1 b2 b3 b4:Bool}{w u:Str}{c:Nat} (h:bz w ("within":Str)=true):bN p q f b1 b2 b3 b4 w u c=cR f b1 b2 u c:=by
 unfold bN
 rw[if_pos h]
theorem kD {p q f:Str}{b1 b2 b3 b4:Bool}{w u:Str}{c:Nat} (h:bz w ("doubt":Str)=true):bN p q f b1 b2 b3 b4 w u c=iQ p b3 u c:=by
 cases mD h
 unfold bN
 rw[if_neg (ns (by decide +kernel)),if_neg (ns (by decide +kernel)),if_pos (bq _)]
theorem jJ {p q f:Str}{b1 b2 b3 b4:Bool}{w u:Str}{c:Nat} (h:bz w ("behind":Str)=true):bN p q f b1 b2 b3 b4 w u c=bK p b3 c:=by
 cases mD h
 unfold bN
 rw[if_neg (ns (by decide +kernel)),if_neg (ns (by decide +kernel)),if_neg (ns (by decide +kernel)),if_pos (bq _)]
theorem mE {p q f:Str}{b1 b2 b3 b4:Bool}{w u:Str}{c:Nat} (h:bz w ("freed":Str)=true):bN p q f b1 b2 b3 b4 w u c=gF b2 u c:=by
 cases mD h
 unfold bN
 rw[if_neg (ns (by decide +kernel)),if_pos (bq _)]
theorem DK {p q f:Str}{b1 b2 b3 b4:Bool}{w u:Str}{c:Nat} (h1:bz w ("within":Str)=false) (h2:bz w ("freed":Str)=false) (h3:bz w ("doubt":Str)=false) (h4:bz w ("behind":Str)=false):bN p q f b1 b2 b3 b4 w u c=gu p q f b3 b4 w u c:=by
 unfold bN
 rw[h1,h2,h3,h4]
 rfl
theorem jA {b:Bool} (h:¬b=true):b=false:=by cases b <;> simp_all
def W5 (d:Addr):List (Str×V):=[("dialect",.ref d)]
structure Tn (C CT:Addr) (H:Hp) (y:Addr) (p q f:Str) (b1 b2 b3 b4:Bool):Prop where
 ok:∃ dy d dd,H y=some (.ins CT dy (W5 d))∧H d=some (.ins C dd (CI p q f b1 b2 b3 b4))
theorem Tn.mono {C CT:Addr}{H H':Hp}{y:Addr}{p q f:Str}{b1 b2 b3 b4:Bool} (s:aD H H') (h:Tn C CT H y p q f b1 b2 b3 b4):Tn C CT H' y p q f b1 b2 b3 b4:=by
 obtain⟨dy,d,dd,e1,e2⟩:=h.ok
 exact⟨dy,d,dd,s _ _ e1,s _ _ e2⟩
theorem rZ {H H':Hp}{y dy:Addr}{o:HO} (hy:H y=none) (VN:H dy=none) (kp:∀ b o',upd (upd H dy (.own y)) y o b=some o'→b≠y→H' b=some o'):aD H H':=fun b o' e=>kp b o' (by rw[aE (bC e hy),aE (bC e VN)];exact e) (bC e hy)
theorem kE {H:Hp}{y dy b:Addr}{o o':HO} (hy:H y=none) (VN:H dy=none) (e:H b=some o'):upd (upd H dy (.own y)) y o b=some o':=by rw[aE (bC e hy),aE (bC e VN)];exact e
def eO (K:W.Frag) (H:Hp) (x:V) (w:Str×Str):Prop:=∃ a,x=.ref a∧aY K H a [.str w.1,.str w.2]
theorem eO.mono {K:W.Frag}{H H':Hp}{x:V}{w:Str×Str} (e:aD H H') (h:eO K H x w):eO K H' x w:=let ⟨a,e1,e2⟩:=h;⟨a,e1,aB e e2⟩
theorem eO.but {K:W.Frag}{H:Hp}{x:V}{w:Str×Str}{l:Addr}{ys:List V}{o:HO} (hl:H l=some (.lst ys)) (h:eO K H x w):eO K (upd H l o) x w:=by
 obtain⟨a,e1,e2⟩:=h
 refine⟨a,e1,?_⟩
 rcases e2 with (h | ⟨ob,h⟩) | h
 ·exact .inl (.inl ((aE (gW h hl (by intro z;cases z))).trans h))
 ·exact .inl (.inr ⟨ob,(aE (gW h hl (by intro z;cases z))).trans h⟩)
 ·exact .inr h
theorem aH {α β:Type}{F G:α→β→Prop} (h:∀ a b,F a b→G a b):∀{xs:List α}{ys:List β},Paired F xs ys→Paired G xs ys
 | _,_,.nil=>.nil
 | _,_,.cons q r=>.cons (h _ _ q) (aH h r)
theorem bJ {α β:Type}{F:α→β→Prop}:∀{xs xs':List α}{ys ys':List β},Paired F xs ys→Paired F xs' ys'→Paired F (xs++xs') (ys++ys')
 | _,_,_,_,.nil,r=>r
 | _,_,_,_,.cons q t,r=>.cons q (bJ t r)
theorem aQ {α β:Type}{F:α→β→Prop}:∀{xs:List α}{ys:List β},Paired F xs ys→∀(j:Nat) x,xs[j]? = some x→∃ y,ys[j]? = some y∧F x y
 | _,_,.nil,j,x,h=>by simp at h
 | _,_,.cons q t,0,x,h=>by simp at h;subst h;exact⟨_,rfl,q⟩
 | _,_,.cons q t,j+1,x,h=>by
  obtain⟨y,h1,h2⟩:=aQ t j x (by simpa using h)
  exact⟨y,by simpa using h1,h2⟩
def c5:List (Str×Str):=[(Str.ofString "row",Str.ofString ""),(Str.ofString "cell",Str.ofString ""),(Str.ofString "plain",Str.ofString ""),(Str.ofString "behind",Str.ofString ""),(Str.ofString "freed",Str.ofString "")]
def c3 (c:Nat):List (Str×Str):=[(Str.ofString "within",sg c),(Str.ofString "doubt",sg c),(Str.ofString "freed",sg c)]
def cont (l:List Nat):List (Str×Str):=c5++l.flatMap c3
def nin (u f:Str):Bool:=!(!(Builtin.Str.occurrences f u 0 f.length 1).isEmpty)
def dJ (f w u:Str):Bool:=if bz u ("":Str)=true then true else if bz w ("doubt":Str)=true then true else nin u f
def Nz (w u:Str):Bool:=MU [.str w,.str u] [.str ("row":Str),.str ("":Str)]
theorem J8 (c:Nat) (z:Str):iX c z=decide (c∈z.cps.toList):=StrLaws.found_one z c
theorem SR {c:Nat}{z:Str} (h:c∉z.cps.toList):¬iX c z=true:=by rw[J8];simpa using h
theorem l10 {z:Str} (g:Sg z):¬iX 10 z=true:=SR fun h=>by have:=(g.pr 10 h).1;omega
theorem tL:∀ c:Nat,¬bz (sg c) ("":Str)=true:=fun c e=>by
 have:=congrArg Str.length (mD e)
 have e0:("":Str).length=0:=by decide +kernel
 rw[e0] at this
 exact absurd this (by show ¬(1=0);decide)
theorem app_list (a b:Str):(a++b).cps.toList=a.cps.toList++b.cps.toList:=by
 show(a.cps++b.cps).toList=_
 simp
theorem r8:("":Str).cps.toList=[]:=by decide +kernel
def sR (q w u:Str):Prop:=(u=Str.ofString ""∧(w=Str.ofString "row"∨w=Str.ofString "cell"∨w=Str.ofString "plain"∨w=Str.ofString "behind"∨w=Str.ofString "freed"))∨∃ c,c∈q.cps.toList∧u=sg c∧(w=Str.ofString "within"∨w=Str.ofString "doubt"∨w=Str.ofString "freed")
theorem xr {p q f:Str}{b1 b2 b3 b4:Bool}{u:Str}{c:Nat} (a:String) (h1:bz (Str.ofString a) ("within":Str)=false) (h2:bz (Str.ofString a) ("freed":Str)=false) (h3:bz (Str.ofString a) ("doubt":Str)=false) (h4:bz (Str.ofString a) ("behind":Str)=false):bN p q f b1 b2 b3 b4 (Str.ofString a) u c=gu p q f b3 b4 (Str.ofString a) u c:=DK h1 h2 h3 h4
theorem jN {K:W.Frag}{H:Hp}{a l:Addr}{xs ys:List V}{o:HO} (hl:H l=some (.lst ys)) (e2:aY K H a xs):aY K (upd H l o) a xs:=by
 rcases e2 with (h | ⟨ob,h⟩) | h
 ·exact .inl (.inl ((aE (gW h hl (by intro z;cases z))).trans h))
 ·exact .inl (.inr ⟨ob,(aE (gW h hl (by intro z;cases z))).trans h⟩)
 ·exact .inr h
theorem aO {α:Type}{l:List α}{i:Nat}{c:α} (h:l[i]? = some c):l.take (i+1)=l.take i++[c]:=by
 rw[List.take_succ,h];rfl
def dD (z:Str):Prop:=∀ k∈z.cps.toList,k=10∨Pn k
theorem sgL {c:Nat}{z:Str} (e:z=Str.ofString "\n") (h:¬decide (V.str (sg c)=V.str z)=true):c≠10:=fun e2=>h (by
 have:Str.ofString "\n" = sg 10:=by decide +kernel
 rw[e,e2,this];exact decide_eq_true rfl)
theorem iY {t u:TS}{D:Ends}{σ:St}{H:Hp} (N:St→Hp→Prop) (hu:∀ σ' H',N σ' H'→u D σ' H') (ht:(∀ σ' H',N σ' H'→u D σ' H')→t { D with nx:=u D } σ H):O7 t u D σ H:=ht hu
theorem Ig:dD ("":Str):=by
 have e:("":Str).cps.toList=[]:=by decide +kernel
 intro k hk;rw[e] at hk;cases hk
theorem nP:("":Str).length=0:=by decide +kernel
def runM (p q f:Str) (b1 b2 b3 b4:Bool):Str→Str→List Nat→List Str×Str×Str×Option Str
 | w,u,[]=>([],w,u,none)
 | w,u,c :: cs=>match bN p q f b1 b2 b3 b4 w u c with
  | .uq e=>([],w,u,some e)
  | .go k w' u'=>(k :: (runM p q f b1 b2 b3 b4 w' u' cs).1,(runM p q f b1 b2 b3 b4 w' u' cs).2)
def NB (r:List Str×Str×Str×Option Str):Str:=match r.2.2.2 with
 | some e=>e
 | none=>if Nz r.2.1 r.2.2.1=true then Str.ofString "" else Str.ofString "cut"
theorem NC {p q f:Str}{b1 b2 b3 b4:Bool}{w u e:Str}{c:Nat} (h:bN p q f b1 b2 b3 b4 w u c=.uq e):e=Str.ofString "line"∨e=Str.ofString "quote"∨e=Str.ofString "behind" := by
 have hb:∀{p:Str}{b3:Bool},bK p b3 c=.uq e→e=Str.ofString "line"∨e=Str.ofString "quote"∨e=Str.ofString "behind" := by
  intro p b3 h
  unfold bK at h
  split at h
  ·cases h
  split at h
  ·cases h
  split at h
  ·split at h
   ·cases h
   ·cases h;exact .inr (.inr rfl)
  ·cases h;exact .inr (.inr rfl)
 unfold bN at h
 split at h
 ·unfold cR at h
  split at h
  ·cases h
  split at h
  ·split at h <;> cases h
  split at h
  ·split at h
   ·cases h;exact .inl rfl
   ·cases h
  ·cases h
 split at h
 ·unfold gF eV at h
  split at h
  ·split at h
   ·cases h;exact .inl rfl
   ·split at h <;> cases h
  ·split at h <;> cases h
 split at h
 ·unfold iQ at h
  split at h
  ·cases h
  ·exact hb h
 split at h
 ·exact hb h
 unfold gu at h
 split at h
 ·unfold fP at h
  split at h
  ·cases h
  split at h
  ·cases h
  split at h
  ·cases h
  split at h
  ·split at h
   ·cases h;exact .inr (.inl rfl)
   ·cases h
  ·cases h
 ·unfold fq at h
  split at h
  ·cases h
  split at h
  ·cases h
  split at h
  ·cases h
  split at h
  ·cases h
  split at h
  ·split at h <;> cases h
  ·cases h
theorem nc {p q f:Str}{b1 b2 b3 b4:Bool}{w u k w' u':Str}{c:Nat}{cs:List Nat} (h:bN p q f b1 b2 b3 b4 w u c=.go k w' u'):runM p q f b1 b2 b3 b4 w u (c :: cs)=(k :: (runM p q f b1 b2 b3 b4 w' u' cs).1,(runM p q f b1 b2 b3 b4 w' u' cs).2):=by
 show(match bN p q f b1 b2 b3 b4 w u c with | .uq e=>([],w,u,some e) | .go k w' u'=>(k :: (runM p q f b1 b2 b3 b4 w' u' cs).1,(runM p q f b1 b2 b3 b4 w' u' cs).2))=_
 rw[h]
theorem vn {p q f:Str}{b1 b2 b3 b4:Bool}{w u e:Str}{c:Nat}{cs:List Nat} (h:bN p q f b1 b2 b3 b4 w u c=.uq e):runM p q f b1 b2 b3 b4 w u (c :: cs)=([],w,u,some e):=by
 show(match bN p q f b1 b2 b3 b4 w u c with | .uq e=>([],w,u,some e) | .go k w' u'=>(k :: (runM p q f b1 b2 b3 b4 w' u' cs).1,(runM p q f b1 b2 b3 b4 w' u' cs).2))=_
 rw[h]
theorem ND {p q f:Str}{b1 b2 b3 b4:Bool}{w u e:Str}{cs:List Nat} (h:(runM p q f b1 b2 b3 b4 w u cs).2.2.2=some e):e≠Str.ofString ""∧e≠Str.ofString "cut" := by
 induction cs generalizing w u with
 | nil=>cases h
 | cons c cs ih =>
  cases hs:bN p q f b1 b2 b3 b4 w u c with
  | go k w' u' =>
   rw[nc hs] at h
   exact ih h
  | uq e2 =>
   rw[vn hs] at h
   cases h
   rcases NC hs with rfl | rfl | rfl
   ·exact⟨fun z=>absurd (congrArg (fun z=>bz z ("line":Str)) z) (by decide +kernel),fun z=>absurd (congrArg (fun z=>bz z ("line":Str)) z) (by decide +kernel)⟩
   ·exact⟨fun z=>absurd (congrArg (fun z=>bz z ("quote":Str)) z) (by decide +kernel),fun z=>absurd (congrArg (fun z=>bz z ("quote":Str)) z) (by decide +kernel)⟩
   ·exact⟨fun z=>absurd (congrArg (fun z=>bz z ("behind":Str)) z) (by decide +kernel),fun z=>absurd (congrArg (fun z=>bz z ("behind":Str)) z) (by decide +kernel)⟩
theorem W6 {q:Str}{c:Nat} (h:iX c q=true):c∈q.cps.toList:=by rw[J8] at h;exact of_decide_eq_true h
theorem pM {p q f:Str}{b1 b2 b3 b4:Bool}{w u k w' u':Str}{c:Nat} (h:sR q w u) (hs:bN p q f b1 b2 b3 b4 w u c=.go k w' u'):sR q w' u':=by
 have NF:∀{w u:Str},sR q w u→gu p q f b3 b4 w u c=.go k w' u'→sR q w' u':=by
  intro w u h hs
  unfold gu fP fq at hs
  repeat' split at hs
  all_goals first
   | (cases hs;exact .inl ⟨rfl,.inl rfl⟩)
   | (cases hs;exact .inl ⟨rfl,.inr (.inl rfl)⟩)
   | (cases hs;exact .inl ⟨rfl,.inr (.inr (.inl rfl))⟩)
   | (cases hs;exact .inl ⟨rfl,.inr (.inr (.inr (.inr rfl)))⟩)
   | (cases hs;rename_i hq _ _;exact .inr ⟨c,W6 (by assumption),rfl,.inl rfl⟩)
   | (cases hs;exact .inr ⟨c,W6 (by assumption),rfl,.inl rfl⟩)
   | (cases hs;exact h)
   | cases hs
 have W7:bK p b3 c=.go k w' u'→sR q w' u':=by
  intro hs
  unfold bK at hs
  repeat' split at hs
  all_goals first
   | (cases hs;exact .inl ⟨rfl,.inl rfl⟩)
   | (cases hs;exact .inl ⟨rfl,.inr (.inl rfl)⟩)
   | (cases hs;exact .inl ⟨rfl,.inr (.inr (.inr (.inl rfl)))⟩)
   | cases hs
 rcases h with ⟨rfl,rfl | rfl | rfl | rfl | rfl⟩ | ⟨d,hd,rfl,rfl | rfl | rfl⟩
 ·rw[xr "row" (by decide +kernel) (by decide +kernel) (by decide +kernel) (by decide +kernel)] at hs
  exact NF (.inl ⟨rfl,.inl rfl⟩) hs
 ·rw[xr "cell" (by decide +kernel) (by decide +kernel) (by decide +kernel) (by decide +kernel)] at hs
  exact NF (.inl ⟨rfl,.inr (.inl rfl)⟩) hs
 ·rw[xr "plain" (by decide +kernel) (by decide +kernel) (by decide +kernel) (by decide +kernel)] at hs
  exact NF (.inl ⟨rfl,.inr (.inr (.inl rfl))⟩) hs
 ·rw[jJ (bq _)] at hs
  exact W7 hs
 ·rw[mE (bq _)] at hs
  unfold gF eV at hs
  rw[if_pos (bq _)] at hs
  repeat' split at hs
  all_goals first
   | (cases hs;exact .inl ⟨rfl,.inr (.inr (.inl rfl))⟩)
   | cases hs
 ·rw[gR (bq _)] at hs
  unfold cR at hs
  repeat' split at hs
  all_goals first
   | (cases hs;exact .inr ⟨d,hd,rfl,.inr (.inr rfl)⟩)
   | (cases hs;exact .inr ⟨d,hd,rfl,.inr (.inl rfl)⟩)
   | (cases hs;exact .inr ⟨d,hd,rfl,.inl rfl⟩)
   | (cases hs;exact .inl ⟨rfl,.inr (.inr (.inr (.inl rfl)))⟩)
   | cases hs
 ·rw[kD (bq _)] at hs
  unfold iQ at hs
  split at hs
  ·cases hs;exact .inr ⟨d,hd,rfl,.inl rfl⟩
  ·exact W7 hs
 ·rw[mE (bq _)] at hs
  unfold gF eV at hs
  rw[if_neg (tL d)] at hs
  repeat' split at hs
  all_goals first
   | (cases hs;exact .inr ⟨d,hd,rfl,.inl rfl⟩)
   | cases hs
theorem SS {p q f:Str}{b1 b2 b3 b4:Bool}{w u:Str}{cs:List Nat} (h:sR q w u):sR q (runM p q f b1 b2 b3 b4 w u cs).2.1 (runM p q f b1 b2 b3 b4 w u cs).2.2.1:=by
 induction cs generalizing w u with
 | nil=>exact h
 | cons c cs ih =>
  cases hs:bN p q f b1 b2 b3 b4 w u c with
  | go k w' u' =>
   rw[nc hs]
   exact ih (pM h hs)
  | uq e2 =>
   rw[vn hs]
   exact h
structure Fp where
 rows:List (List Str)
 row:List Str
 cell:Str
def NG (g:Fp) (c:Nat) (k:Str):Fp :=
 if bz k ("put":Str)=true then ⟨g.rows,g.row,g.cell++sg c⟩
 else if bz k ("part":Str)=true then ⟨g.rows,g.row++[g.cell],Str.ofString ""⟩
 else if bz k ("end":Str)=true then ⟨g.rows++[g.row++[g.cell]],[],Str.ofString ""⟩
 else g
def Fq:Fp→List Nat→List Str→Fp
 | g,c :: cs,k :: ks=>Fq (NG g c k) cs ks
 | g,_,_=>g
def K4:Fp:=⟨[],[],Str.ofString ""⟩
def NH (z:Str) (ks:List Str):List (List Str):=(Fq K4 z.cps.toList ks).rows
abbrev tM (H0 H:Hp):List V→List (List Str)→Prop:=Paired fun e r=>∃ a,e=V.ref a∧H0 a=none∧H a=some (.lst (r.map V.str))
theorem tM.mono {H0 H H':Hp} (s:aD H H'):∀{es:List V}{rs:List (List Str)},tM H0 H es rs→tM H0 H' es rs
 | _,_,.nil=>.nil
 | _,_,.cons ⟨a,e,n,h⟩ r=>.cons ⟨a,e,n,s _ _ h⟩ (tM.mono s r)
theorem tM.but {H0 H:Hp}{l:Addr}{o:HO}:∀{es:List V}{rs:List (List Str)},(V.ref l∉es)→tM H0 H es rs→tM H0 (upd H l o) es rs
 | _,_,_,.nil=>.nil
 | _,_,hn,.cons ⟨a,e,n,h⟩ r=>by
  subst e
  have:a≠l:=fun q=>hn (by rw[q];exact List.mem_cons_self ..)
  exact .cons ⟨a,rfl,n,(aE this).trans h⟩ (tM.but (fun q=>hn (List.mem_cons_of_mem _ q)) r)
theorem tM.app {H0 H:Hp}:∀{es es':List V}{rs rs':List (List Str)},tM H0 H es rs→tM H0 H es' rs'→tM H0 H (es++es') (rs++rs')
 | _,_,_,_,.nil,h=>h
 | _,_,_,_,.cons r t,h=>.cons r (tM.app t h)
theorem tM.has {H0 H:Hp}:∀{es:List V}{rs:List (List Str)},tM H0 H es rs→∀{a:Addr},V.ref a∈es→H0 a=none∧∃ ys,H a=some (.lst ys)
 | _,_,.nil,_,h=>by cases h
 | _,_,.cons ⟨b,e,n,h⟩ r,a,ha=>by
  rcases List.mem_cons.mp ha with q | q
  ·subst e;cases q;exact⟨n,_,h⟩
  ·exact tM.has r q
def VI:List Nat:=("a7ZbXq9KwM":Str).cps.toList
theorem ou {a b:Str} (h1:dD a) (h2:dD b):dD (a++b):=fun c hc=>by
 rw[app_list] at hc
 rcases List.mem_append.mp hc with q | q
 ·exact h1 c q
 ·exact h2 c q
theorem nQ {a b:String} (h:bz (Str.ofString a) (Str.ofString b)=false):Str.ofString a≠Str.ofString b:=fun e=>by rw[e,bq] at h;cases h
theorem NI {p q f:Str}{b1 b2 b3 b4:Bool}{w u k w' u':Str}{c:Nat} (h:bN p q f b1 b2 b3 b4 w u c=.go k w' u') :
  (k=Str.ofString "end"∧w'=Str.ofString "row"∧u'=Str.ofString "")∨(k≠Str.ofString "end"∧(w'=Str.ofString "row"→k=Str.ofString "skip"∧w=Str.ofString "row")):=by
 have n1:Str.ofString "skip"≠Str.ofString "end" := nQ (by decide +kernel)
 have n2:Str.ofString "put"≠Str.ofString "end" := nQ (by decide +kernel)
 have n3:Str.ofString "part"≠Str.ofString "end" := nQ (by decide +kernel)
 have m1:Str.ofString "freed"≠Str.ofString "row" := nQ (by decide +kernel)
 have m2:Str.ofString "within"≠Str.ofString "row" := nQ (by decide +kernel)
 have m3:Str.ofString "cell"≠Str.ofString "row" := nQ (by decide +kernel)
 have m4:Str.ofString "plain"≠Str.ofString "row" := nQ (by decide +kernel)
 have m5:Str.ofString "behind"≠Str.ofString "row" := nQ (by decide +kernel)
 have m6:Str.ofString "doubt"≠Str.ofString "row" := nQ (by decide +kernel)
 have hB:bK p b3 c=.go k w' u'→(k=Str.ofString "end"∧w'=Str.ofString "row"∧u'=Str.ofString "")∨(k≠Str.ofString "end"∧(w'=Str.ofString "row"→k=Str.ofString "skip"∧w=Str.ofString "row")):=by
  intro h
  unfold bK at h
  repeat' split at h
  all_goals first
   | (cases h;done)
   | (cases h;exact .inl ⟨rfl,rfl,rfl⟩)
   | (cases h;exact .inr ⟨by assumption,fun z=>absurd z (by assumption)⟩)
   | (cases h;exact .inr ⟨by assumption,fun z=>⟨rfl,z⟩⟩)
 unfold bN at h
 split at h
 ·unfold cR at h
  repeat' split at h
  all_goals first
   | (cases h;done)
   | (cases h;exact .inl ⟨rfl,rfl,rfl⟩)
   | (cases h;exact .inr ⟨by assumption,fun z=>absurd z (by assumption)⟩)
   | (cases h;exact .inr ⟨by assumption,fun z=>⟨rfl,z⟩⟩)
 split at h
 ·unfold gF eV at h
  repeat' split at h
  all_goals first
   | (cases h;done)
   | (cases h;exact .inl ⟨rfl,rfl,rfl⟩)
   | (cases h;exact .inr ⟨by assumption,fun z=>absurd z (by assumption)⟩)
   | (cases h;exact .inr ⟨by assumption,fun z=>⟨rfl,z⟩⟩)
 split at h
 ·unfold iQ at h
  split at h
  ·cases h;exact .inr ⟨n2,fun z=>absurd z m2⟩
  ·exact hB h
 split at h
 ·exact hB h
 unfold gu at h
 split at h
 ·unfold fP at h
  repeat' split at h
  all_goals first
   | (cases h;done)
   | (cases h;exact .inl ⟨rfl,rfl,rfl⟩)
   | (cases h;exact .inr ⟨by assumption,fun z=>absurd z (by assumption)⟩)
   | (cases h;exact .inr ⟨by assumption,fun z=>⟨rfl,z⟩⟩)
 ·unfold fq at h
  repeat' split at h
  all_goals first
   | (cases h;done)
   | (cases h;exact .inl ⟨rfl,rfl,rfl⟩)
   | (cases h;exact .inr ⟨by assumption,fun z=>absurd z (by assumption)⟩)
   | (cases h;exact .inr ⟨by assumption,fun z=>⟨rfl,z⟩⟩)
theorem P4 (g:Fp) (c:Nat):NG g c ("end":Str)=⟨g.rows++[g.row++[g.cell]],[],Str.ofString ""⟩:=by
 unfold NG
 rw[if_neg (ns (by decide +kernel)),if_neg (ns (by decide +kernel)),if_pos (bq _)]
theorem NJ (g:Fp) (c:Nat):NG g c ("skip":Str)=g:=by
 unfold NG
 rw[if_neg (ns (by decide +kernel)),if_neg (ns (by decide +kernel)),if_neg (ns (by decide +kernel))]
theorem CJ {p q f:Str}{b1 b2 b3 b4:Bool}:∀{cs:List Nat}{w u:Str}{g:Fp},(w=Str.ofString "row"→g.row=[]∧g.cell=Str.ofString "")→(runM p q f b1 b2 b3 b4 w u cs).2.2.2=none→(runM p q f b1 b2 b3 b4 w u cs).2.1=Str.ofString "row"→(Fq g cs (runM p q f b1 b2 b3 b4 w u cs).1).row=[]∧(Fq g cs (runM p q f b1 b2 b3 b4 w u cs).1).cell=Str.ofString ""
 | [],w,u,g,hg,_,hr=>hg hr
 | c :: cs,w,u,g,hg,hn,hr=>by
  cases hs:bN p q f b1 b2 b3 b4 w u c with
  | go k w' u' =>
   rw[nc hs] at hn hr ⊢
   show(Fq (NG g c k) cs _).row=[]∧(Fq (NG g c k) cs _).cell=_
   refine CJ (cs:=cs) (w:=w') (u:=u') (fun hw=>?_) hn hr
   rcases NI hs with ⟨rfl,_,_⟩ | ⟨_,h2⟩
   ·rw[P4];exact⟨rfl,rfl⟩
   ·obtain⟨rfl,hw0⟩:=h2 hw
    rw[NJ];exact hg hw0
  | uq e=>rw[vn hs] at hn;cases hn
theorem SV {w u:Str} (h:Nz w u=true):w=Str.ofString "row"∧u=Str.ofString "" := by
 unfold Nz MU MU MU at h
 simp[Hy] at h
 exact h
theorem SW {p q f:Str}{b1 b2 b3 b4:Bool}{w u:Str}{cs:List Nat} (h:NB (runM p q f b1 b2 b3 b4 w u cs)=Str.ofString ""):(runM p q f b1 b2 b3 b4 w u cs).2.2.2=none∧(runM p q f b1 b2 b3 b4 w u cs).2.1=Str.ofString "row"∧(runM p q f b1 b2 b3 b4 w u cs).2.2.1=Str.ofString "" := by
 unfold NB at h
 cases he:(runM p q f b1 b2 b3 b4 w u cs).2.2.2 with
 | some e=>rw[he] at h;exact absurd h (ND he).1
 | none =>
  rw[he] at h
  dsimp only at h
  split at h
  ·rename_i hh;exact⟨rfl,SV hh⟩
  ·exact absurd h (nQ (by decide +kernel))
theorem P5 {r:List Str×Str×Str×Option Str} (h:r.2=(Str.ofString "row",Str.ofString "",none)):NB r=Str.ofString "" := by
 unfold NB
 rw[h]
 exact if_pos (by decide +kernel)
theorem join_list (zs:List Str):(Txt.join ("":Str) zs).cps.toList=zs.flatMap (fun z=>z.cps.toList):=by
 have ee:("":Str).cps.toList=[]:=by decide +kernel
 show(Builtin.Str.glued ("":Str) zs).cps.toList=_
 rw[StrLaws.glued_eq_join]
 induction zs with
 | nil=>exact ee
 | cons c cs ih =>
  cases cs with
  | nil =>
   show c.cps.toList=_
   simp
  | cons d cs =>
   show(c++("":Str)++Str.join ("":Str) (d :: cs)).cps.toList=_
   rw[app_list,app_list,ee,List.append_nil,ih]
   simp[List.flatMap_cons]
theorem vo {a b:Str} (h:a.cps.toList=b.cps.toList):a=b:=by
 cases a;cases b
 congr 1
 exact Array.toList_inj.mp h
theorem NK {a b:Int} (h:decide (V.int a=V.int b)=true):a=b:=by have:=of_decide_eq_true h;cases this;rfl
def rdV (r:List Str×Str×Str×Option Str) (z:Str):Option (List (List Str)):=if NB r=Str.ofString "" then some (NH z r.1) else none
def oS (c:Nat) (k:Str):List Str:=if bz k ("put":Str)=true then [sg c] else if bz k ("skip":Str)=true then [] else [k]
structure B4 where
 a:Bool
 b:Bool
 c:Bool
 d:Bool
abbrev cN:=Str×Str×Str×B4
def sS (x:cN):List V:=qo x.1 x.2.1 x.2.2.1 x.2.2.2.a x.2.2.2.b x.2.2.2.c x.2.2.2.d
def P6 (x:cN):List (Str×V):=CI x.1 x.2.1 x.2.2.1 x.2.2.2.a x.2.2.2.b x.2.2.2.c x.2.2.2.d
abbrev uz (x:cN):Prop:=Gd x.1 x.2.1 x.2.2.1
abbrev tN (H:Hp):List V→List cN→Prop:=Paired fun e x=>∃ t,e=V.ref t∧H t=some (.tup (sS x))
theorem tN.mono {H H':Hp} (s:aD H H'):∀{es:List V}{xs:List cN},tN H es xs→tN H' es xs
 | _,_,.nil=>.nil
 | _,_,.cons ⟨t,e,h⟩ r=>.cons ⟨t,e,s _ _ h⟩ (tN.mono s r)
abbrev Bh (C:Addr) (H:Hp):List V→List cN→Prop:=Paired fun e x=>∃ y dy,e=V.ref y∧H y=some (.ins C dy (P6 x))
theorem Bh.mono {C:Addr}{H H':Hp} (s:aD H H'):∀{es:List V}{xs:List cN},Bh C H es xs→Bh C H' es xs
 | _,_,.nil=>.nil
 | _,_,.cons ⟨y,dy,e,h⟩ r=>.cons ⟨y,dy,e,s _ _ h⟩ (Bh.mono s r)
def runC (x:cN) (z:Str):List Str×Str×Str×Option Str:=runM x.1 x.2.1 x.2.2.1 x.2.2.2.a x.2.2.2.b x.2.2.2.c x.2.2.2.d ("row":Str) ("":Str) z.cps.toList
theorem SX {z:Str} (g:Sg z):Sg (DH z):=by
 have e:(DH z).cps.toList=z.cps.toList.reverse:=by unfold DH;simp
 exact⟨by rw[e];exact List.pairwise_reverse.mpr (List.Pairwise.imp (fun h=>Ne.symm h) g.nd),fun c hc=>g.pr c (by rw[e] at hc;exact List.mem_reverse.mp hc)⟩
theorem P7 (z:Str):(DH z).length=z.length:=by
 have e:(DH z).cps.toList=z.cps.toList.reverse:=by unfold DH;simp
 have:=congrArg List.length e
 rw[List.length_reverse,Array.length_toList,Array.length_toList] at this
 exact this
theorem Bh.but {C:Addr}{H:Hp}{l:Addr}{o:HO}{ws:List V} (hl:H l=some (.lst ws)):∀{es:List V}{xs:List cN},Bh C H es xs→Bh C (upd H l o) es xs
 | _,_,.nil=>.nil
 | _,_,.cons ⟨y,dy,e,h⟩ r=>.cons ⟨y,dy,e,(aE (gW h hl (by intro z;cases z))).trans h⟩ (Bh.but hl r)
theorem tN.P8 {H:Hp}{l:Addr}{o:HO}{ws:List V} (hl:H l=some (.lst ws)):∀{es:List V}{xs:List cN},tN H es xs→tN (upd H l o) es xs
 | _,_,.nil=>.nil
 | _,_,.cons ⟨y,e,h⟩ r=>.cons ⟨y,e,(aE (gW h hl (by intro z;cases z))).trans h⟩ (tN.P8 hl r)
def dg:List Str→Str
 | []=>Str.ofString ""
 | z :: r=>z++dg r
theorem NL (z:Str):Str.ofString "" ++ z=z:=vo (by rw[app_list,r8];rfl)
theorem NN (z:Str):z++Str.ofString "" = z:=vo (by rw[app_list,r8,List.append_nil])
def lens (r:List Str):List Nat:=r.map fun z=>z.length
def total (t:List (List Str)):Nat:=(t.map fun r=>(lens r).sum).sum
structure Ag (r:List Str):Prop where
 lo:1≤r.length
 hi:r.length≤20
 ok:∀ c∈r,dD c
structure TabOk (t:List (List Str)):Prop where
 n:t.length≤60
 rows:∀ r∈t,Ag r
 sum:total t≤400
theorem J9 {ns:List Nat}{n:Nat} (h:n∈ns):n≤ns.sum:=by
 induction ns with
 | nil=>cases h
 | cons m ns ih =>
  rw[List.sum_cons]
  rcases List.mem_cons.mp h with rfl | h
  ·omega
  ·have:=ih h;omega
theorem sd {t:List (List Str)}{r:List Str} (h:r∈t):(lens r).sum≤total t:=J9 (List.mem_map_of_mem h)
theorem vp {r:List Str}{c:Str} (h:c∈r):c.length≤(lens r).sum:=J9 (List.mem_map_of_mem (f:=fun z:Str=>z.length) h)
def bF (H:Hp) (v:V) (r:List Str):Prop:=∃ a,v=.ref a∧H a=some (.lst (r.map V.str))
theorem bF.mono {H H':Hp}{v:V}{r:List Str} (s:aD H H') (h:bF H v r):bF H' v r:=let ⟨a,e1,e2⟩:=h;⟨a,e1,s _ _ e2⟩
def vq (z:Str):List (Str×Str):=z.cps.toList.map fun k=>(Str.ofString "put",sg k)
def ow:Str×Str:=(Str.ofString "part",Str.ofString "")
def NO:Str×Str:=(Str.ofString "end",Str.ofString "")
def jK:List Str→Nat→List (Str×Str)
 | _,0=>[]
 | r,n+1=>jK r n++((if n=0 then [] else [ow])++vq (r.getD n ("":Str)))
def nR (r:List Str):List (Str×Str):=jK r r.length++[NO]
def aT (t:List (List Str)):List (Str×Str):=t.flatMap nR
theorem lU {r:List Str}{n:Nat}{z:Str} (h:r[n]? = some z):jK r (n+1)=jK r n++((if n=0 then [] else [ow])++vq z):=by
 show jK r n++((if n=0 then [] else [ow])++vq (r.getD n ("":Str)))=_
 rw[List.getD_eq_getElem?_getD,h];rfl
theorem NP (z:Str):(vq z).length=z.length:=by unfold vq;rw[List.length_map,Array.length_toList];rfl
theorem vt (r:List Str):∀ n,n≤r.length→(jK r n).length+(if n=0 then 0 else 1)=n+(lens (r.take n)).sum
 | 0,_=>by simp[jK,lens]
 | n+1,h=>by
  have hn:n < r.length:=by omega
  rw[lU (z:=r[n]) (by simp[hn]),List.length_append,List.length_append,NP,aO (c:=r[n]) (by simp[hn])]
  have ih:=vt r n (by omega)
  unfold lens at ih ⊢
  rw[List.map_append,List.sum_append]
  simp only[List.map_cons,List.map_nil,List.sum_cons,List.sum_nil]
  by_cases h0:n=0
  ·subst h0;simp[jK];omega
  ·simp[h0] at ih ⊢;omega
theorem Ih {r:List Str} (h:1≤r.length):(nR r).length=r.length+(lens r).sum:=by
 unfold nR
 have:=vt r r.length (Nat.le_refl _)
 rw[List.take_of_length_le (Nat.le_refl _),if_neg (by omega)] at this
 rw[List.length_append];show _+1=_;omega
theorem Ah {t:List (List Str)} (h:∀ r∈t,Ag r):(aT t).length=(t.map fun r=>r.length+(lens r).sum).sum:=by
 unfold aT
 induction t with
 | nil=>rfl
 | cons r t ih =>
  rw[List.flatMap_cons,List.length_append,ih (fun r' h'=>h r' (List.mem_cons_of_mem _ h')),Ih (h r (List.mem_cons_self ..)).lo,List.map_cons,List.sum_cons]
theorem K5 {t:List (List Str)} (h:∀ r∈t,Ag r):(t.map fun r=>r.length+(lens r).sum).sum≤20 * t.length+total t:=by
 unfold total
 induction t with
 | nil=>exact Nat.le_refl _
 | cons r t ih =>
  have h1:=(h r (List.mem_cons_self ..)).hi
  have h2:=ih fun r' h'=>h r' (List.mem_cons_of_mem _ h')
  rw[List.map_cons,List.sum_cons,List.map_cons,List.sum_cons,List.length_cons]
  omega
theorem Ai {t:List (List Str)} (h:TabOk t) (i:Nat):(aT (t.take i)).length≤1600:=by
 have hr:∀ r∈t.take i,Ag r:=fun r hr=>h.rows r (List.mem_of_mem_take hr)
 rw[Ah hr]
 have h1:=K5 hr
 have h2:(t.take i).length≤60:=by rw[List.length_take];have:=h.n;omega
 have h3:total (t.take i)≤total t:=by
  unfold total
  have e:=congrArg (fun l=>(l.map fun r=>(lens r).sum).sum) (List.take_append_drop i t)
  simp only[List.map_append,List.sum_append] at e
  omega
 have:=h.sum
 omega
theorem ng (t:List (List Str)) (r:List Str):aT (t++[r])=aT t++nR r:=by unfold aT;rw[List.flatMap_append];simp
theorem iZ {α β:Type}{F:α→β→Prop}{xs:List α}{ys:List β}{x:α}{y:β} (h:Paired F xs ys) (q:F x y):Paired F (xs++[x]) (ys++[y]):=bJ h (.cons q .nil)
theorem Ii (t:List (List Str)) (r:List Str):total (t++[r])=total t+(lens r).sum:=by unfold total;rw[List.map_append,List.sum_append];simp
theorem K6 (r:List Str) (z:Str):(lens (r++[z])).sum=(lens r).sum+z.length:=by unfold lens;rw[List.map_append,List.sum_append];simp
theorem NQ {K:W.Frag}{H:Hp}{x y:V}{r:List Str} (h1:bF H x r) (h2:bF H y r):tH K H 1 x y:=by
 obtain⟨a,rfl,ha⟩:=h1
 obtain⟨b,rfl,hb⟩:=h2
 refine .lst (aU.of ha) (aU.of hb) rfl fun j x y ex ey=>?_
 rw[ex] at ey;cases ey
 obtain⟨z,_,rfl⟩:=List.mem_map.mp (List.mem_of_getElem? ex)
 exact .flat rfl rfl (MV rfl)
theorem K7 {K:W.Frag}{H:Hp}{xs ys:List V}{t:List (List Str)} (h1:Paired (bF H) xs t) (h2:Paired (bF H) ys t):∀(j:Nat) x y,xs[j]? = some x→ys[j]? = some y→tH K H 1 x y:=by
 intro j x y ex ey
 obtain⟨r,e1,q1⟩:=aQ h1 j x ex
 obtain⟨r',e2,q2⟩:=aQ h2 j y ey
 rw[e1] at e2;cases e2
 exact NQ q1 q2
def gG (acc:List Nat) (c:Nat):List Nat:=if away ⟨acc.toArray⟩ c=true then acc++[c] else acc
def d9 (l:List Nat):List Nat:=l.foldl gG []
theorem mF (l:List Nat) (c:Nat):d9 (l++[c])=gG (d9 l) c:=by unfold d9;rw[List.foldl_append];rfl
theorem CK (l:List Nat):(d9 l).length≤l.length:=by
 have key:∀(l acc:List Nat),(l.foldl gG acc).length≤acc.length+l.length:=by
  intro l
  induction l with
  | nil=>intro acc;exact Nat.le_refl _
  | cons c l ih =>
   intro acc
   rw[List.foldl_cons,List.length_cons]
   have h1:=ih (gG acc c)
   have h2:(gG acc c).length≤acc.length+1:=by
    unfold gG
    split
    ·rw[List.length_append];exact Nat.le_refl _
    ·omega
   omega
 have:=key l []
 simpa [d9] using this
def tO (z:Str):Str:=⟨(d9 z.cps.toList).toArray⟩
theorem CL (z:Str):(tO z).length≤z.length:=by
 show(d9 z.cps.toList).toArray.size≤_
 rw[List.size_toArray]
 refine Nat.le_trans (CK _) ?_
 rw[Array.length_toList];exact Nat.le_refl _
def mG (p q f:Str) (b1 b2 b3 b4:Bool) (w u:Str) (c:Nat):Option (Str×Str×Str):=match bN p q f b1 b2 b3 b4 w u c with
 | .go k w' u'=>if dJ f w' u'=true then some (k,w',u') else none
 | .uq _=>none
def lvV (K:W.Frag) (x:Option (Str×Str×Str)) (H:Hp) (v:V):Prop:=match x with
 | none=>v=.non
 | some (k,w,u)=>∃ a b,v=.ref a∧aY K H a [.str k,.ref b]∧aY K H b [.str w,.str u]
def qQ (ts:List (Str×Str)) (n:Nat) (k s:Str):Option Nat:=if bz k ("skip":Str)=true then some n else if ts[n]? = some (k,if bz k ("put":Str)=true then s else Str.ofString "") then some (n+1) else none
def adQ (x:Option Nat):V:=match x with
 | none=>.non
 | some n=>.int n
abbrev fT:=(Str×Str)×Nat
def kY (K:W.Frag) (H:Hp) (m:fT) (v:V):Prop:=∃ b s,v=.ref b∧aY K H b [.ref s,.int m.2]∧aY K H s [.str m.1.1,.str m.1.2]
theorem kY.mono {K:W.Frag}{H H':Hp}{m:fT}{v:V} (e:aD H H') (h:kY K H m v):kY K H' m v:=by
 obtain⟨b,s,e1,e2,e3⟩:=h
 exact⟨b,s,e1,aB e e2,aB e e3⟩
def jL (p q f:Str) (b1 b2 b3 b4:Bool) (ts:List (Str×Str)) (m:fT) (c:Nat):Option fT:=match mG p q f b1 b2 b3 b4 m.1.1 m.1.2 c with
 | none=>none
 | some (k,w,u)=>(match qQ ts m.2 k (sg c) with
  | none=>none
  | some n=>some ((w,u),n))
def vv (K:W.Frag) (x:Option fT) (H:Hp) (v:V):Prop:=match x with
 | none=>v=.non
 | some m=>kY K H m v
def SY (y l:Addr):List (Str×V):=[("turn",.ref y),("tokens",.ref l)]
structure wZ (K:W.Frag) (C CT CM:Addr) (H:Hp) (m:Addr) (p q f:Str) (b1 b2 b3 b4:Bool) (ts:List (Str×Str)):Prop where
 ok:∃ dm y l ys,H m=some (.ins CM dm (SY y l))∧Tn C CT H y p q f b1 b2 b3 b4∧H l=some (.lst ys)∧Paired (eO K H) ys ts
theorem cS {K:W.Frag}{H H':Hp} (s:aD H H'):∀{ys:List V}{ts:List (Str×Str)},Paired (eO K H) ys ts→Paired (eO K H') ys ts
 | _,_,.nil=>.nil
 | _,_,.cons a r=>.cons (a.mono s) (cS s r)
theorem wZ.mono {K:W.Frag}{C CT CM:Addr}{H H':Hp}{m:Addr}{p q f:Str}{b1 b2 b3 b4:Bool}{ts:List (Str×Str)} (s:aD H H') (h:wZ K C CT CM H m p q f b1 b2 b3 b4 ts):wZ K C CT CM H' m p q f b1 b2 b3 b4 ts:=by
 obtain⟨dm,y,l,ys,e1,e2,e3,e4⟩:=h.ok
 exact⟨dm,y,l,ys,s _ _ e1,e2.mono s,s _ _ e3,cS s e4⟩
theorem P9 {K:W.Frag}{H:Hp}{m a C dm:Addr}{fs:List (Str×V)}{xs:List V}{o:HO} (hm:H m=some (.ins C dm fs)) (h:aY K H a xs):aY K (upd H m o) a xs:=by
 rcases h with (h | ⟨ob,h⟩) | h
 ·exact .inl (.inl ((aE (gW h hm (by intro z;cases z))).trans h))
 ·exact .inl (.inr ⟨ob,(aE (gW h hm (by intro z;cases z))).trans h⟩)
 ·exact .inr h
theorem qS {K:W.Frag}{H:Hp}{m C dm:Addr}{fs:List (Str×V)}{o:HO} (hm:H m=some (.ins C dm fs)):∀{ys:List V}{ts:List (Str×Str)},Paired (eO K H) ys ts→Paired (eO K (upd H m o)) ys ts
 | _,_,.nil=>.nil
 | _,_,.cons ⟨a,e1,e2⟩ r=>.cons ⟨a,e1,P9 hm e2⟩ (qS hm r)
theorem Tn.off {C CT:Addr}{H:Hp}{y m:Addr}{p q f:Str}{b1 b2 b3 b4:Bool}{o o':HO} (hm:H m=some o') (n1:∀ d fs,o'≠.ins CT d (W5 fs)) (n2:∀ d,o'≠.ins C d (CI p q f b1 b2 b3 b4)) (h:Tn C CT H y p q f b1 b2 b3 b4):Tn C CT (upd H m o) y p q f b1 b2 b3 b4:=by
 obtain⟨dy,d,dd,e1,e2⟩:=h.ok
 exact⟨dy,d,dd,(aE (fun q=>by rw[q,hm] at e1;exact n1 _ _ (Option.some.inj e1))).trans e1,(aE (fun q=>by rw[q,hm] at e2;exact n2 _ (Option.some.inj e2))).trans e2⟩
theorem wZ.off {K:W.Frag}{C CT CM CW:Addr}{H:Hp}{m z dz:Addr}{fs:List (Str×V)}{p q f:Str}{b1 b2 b3 b4:Bool}{ts:List (Str×Str)}{o:HO} (hz:H z=some (.ins CW dz fs)) (n0:∀ y l,fs≠SY y l) (n1:∀ d,fs≠W5 d) (n2:fs≠CI p q f b1 b2 b3 b4) (h:wZ K C CT CM H m p q f b1 b2 b3 b4 ts):wZ K C CT CM (upd H z o) m p q f b1 b2 b3 b4 ts:=by
 obtain⟨dm,y,l,ys,e1,e2,e3,e4⟩:=h.ok
 refine⟨dm,y,l,ys,(aE (fun q=>?_)).trans e1,Tn.off hz (fun d fs q=>?_) (fun d q=>?_) e2,(aE (fun q=>by rw[q,hz] at e3;cases e3)).trans e3,qS hz e4⟩
 ·rw[q,hz] at e1;injection e1 with e1;injection e1 with a b c;exact n0 _ _ c
 ·injection q with a b c;exact n1 _ c
 ·injection q with a b c;exact n2 c
theorem sj {H:Hp}{x dx:Addr}{o:HO} (hx:H x=none) (hdx:H dx=none):aD H (upd (upd H dx (.own x)) x o):=fun b o' e=>by
 rw[aE (bC e hx),aE (bC e hdx)];exact e
theorem kY.but {K:W.Frag}{H:Hp}{m:fT}{v:V}{l:Addr}{ws:List V}{o:HO} (hl:H l=some (.lst ws)) (h:kY K H m v):kY K (upd H l o) m v:=by
 obtain⟨b,s,e1,e2,e3⟩:=h
 exact⟨b,s,e1,jN hl e2,jN hl e3⟩
theorem vv.but {K:W.Frag}{x:Option fT}{H:Hp}{v:V}{l:Addr}{ws:List V}{o:HO} (hl:H l=some (.lst ws)) (h:vv K x H v):vv K x (upd H l o) v:=by
 cases x with
 | none=>exact h
 | some m=>exact kY.but hl h
abbrev Cm:=List (fT×Option (fT×Nat))
def Qa (cm:Cm) (m:fT):Bool:=cm.any fun e=>decide (e.1=m)
def m0:fT:=((Str.ofString "row",Str.ofString ""),0)
def W8 (cm:Cm) (m:fT):Option (Option (fT×Nat)):=(cm.find? fun e=>decide (e.1=m)).map (·.2)
inductive Ka (cm:Cm):Option (fT×Nat)→List Nat→Prop where
 | nil:Ka cm none []
 | cons {m:fT}{c:Nat}{x:Option (fT×Nat)}{r:List Nat}:W8 cm m=some x→Ka cm x r→Ka cm (some (m,c)) (c :: r)
theorem DL:∀(xs:List Nat),((xs.map sg).map (·.length)).sum=xs.length
 | []=>rfl
 | x :: xs=>by rw[List.map_cons,List.map_cons,List.sum_cons,DL xs,Sn,List.length_cons];omega
inductive Kc (led:fT→List (Nat×fT)) (a:fT):List Nat→fT→Prop where
 | nil:Kc led a [] a
 | snoc {xs:List Nat}{p q:fT}{c:Nat}:Kc led a xs p→(c,q)∈led p→Kc led a (xs++[c]) q
def Rx (led:fT→List (Nat×fT)) (a:fT) (cm:Cm) (m:fT) (n:Nat):Prop:=∃ x xs,W8 cm m=some x∧Ka cm x xs∧Kc led a xs.reverse m∧xs.length=n
section
variable {good:fT→Bool}{led:fT→List (Nat×fT)}{a:fT}
structure Mid (led:fT→List (Nat×fT)) (a:fT) (cm:Cm) (k:Nat) (acc:Cm×List fT):Prop where
 pre:∃ l,acc.1=cm++l
 told:∀ m,Qa acc.1 m=true→∃ n,n≤k+1∧Rx led a acc.1 m n
 new:∀ m∈acc.2,Rx led a acc.1 m (k+1)∧Qa acc.1 m=true
 old:∀ m,Qa acc.1 m=true→Qa cm m=true∨m∈acc.2
end
def Shp (p q f u:Str) (c:Nat) (k w' u':Str):Prop :=
 (k=Str.ofString "skip"∧(iX c f=true∨iX c q=true∨bz (sg c) u=true∨bz (sg c) (" ":Str)=true))∨(k=Str.ofString "end"∧bz (sg c) (Str.ofString "\n")=true∧w'=Str.ofString "row"∧u'=Str.ofString "")∨(k=Str.ofString "part"∧iX c p=true)∨k=Str.ofString "put"
theorem NR {p q f:Str}{b1 b2 b3 b4:Bool}{w u k w' u':Str}{c:Nat} (h:bN p q f b1 b2 b3 b4 w u c=.go k w' u'):Shp p q f u c k w' u':=by
 have hB:bK p b3 c=.go k w' u'→Shp p q f u c k w' u':=by
  intro h
  unfold bK at h
  repeat' split at h
  all_goals first
   | (cases h;done)
   | (cases h;exact .inr (.inl ⟨rfl,by assumption,rfl,rfl⟩))
   | (cases h;exact .inr (.inr (.inl ⟨rfl,by assumption⟩)))
   | (cases h;exact .inl ⟨rfl,.inr (.inr (.inr (by assumption)))⟩)
 unfold bN at h
 split at h
 ·unfold cR at h
  repeat' split at h
  all_goals first
   | (cases h;done)
   | (cases h;exact .inr (.inr (.inr rfl)))
   | (cases h;exact .inl ⟨rfl,.inl (by assumption)⟩)
   | (cases h;exact .inl ⟨rfl,.inr (.inr (.inl (by assumption)))⟩)
 split at h
 ·unfold gF eV at h
  repeat' split at h
  all_goals first
   | (cases h;done)
   | (cases h;exact .inr (.inr (.inr rfl)))
 split at h
 ·unfold iQ at h
  split at h
  ·cases h;exact .inr (.inr (.inr rfl))
  ·exact hB h
 split at h
 ·exact hB h
 unfold gu at h
 split at h
 ·unfold fP at h
  repeat' split at h
  all_goals first
   | (cases h;done)
   | (cases h;exact .inr (.inr (.inr rfl)))
   | (cases h;exact .inr (.inl ⟨rfl,by assumption,rfl,rfl⟩))
   | (cases h;exact .inr (.inr (.inl ⟨rfl,by assumption⟩)))
   | (cases h;exact .inl ⟨rfl,.inl (by assumption)⟩)
 ·unfold fq at h
  repeat' split at h
  all_goals first
   | (cases h;done)
   | (cases h;exact .inr (.inr (.inr rfl)))
   | (cases h;exact .inr (.inl ⟨rfl,by assumption,rfl,rfl⟩))
   | (cases h;exact .inr (.inr (.inl ⟨rfl,by assumption⟩)))
   | (cases h;exact .inl ⟨rfl,.inl (by assumption)⟩)
   | (cases h;exact .inl ⟨rfl,.inr (.inl (by assumption))⟩)
   | (cases h;exact .inl ⟨rfl,.inr (.inr (.inr (by assumption)))⟩)
theorem Qc {a b:Nat} (h:sg a=sg b):a=b:=by
 have e:(sg a).cps.toList=(sg b).cps.toList:=by rw[h]
 exact(List.cons.inj e).1
theorem CN {c:Nat}:∀(l:List Nat) (acc:List Nat),c∈l.foldl gG acc↔c∈acc∨c∈l
 | [],acc=>by simp
 | a :: l,acc=>by
  rw[List.foldl_cons,CN l]
  unfold gG
  by_cases h:away ⟨acc.toArray⟩ a=true
  ·rw[if_pos h,List.mem_append,List.mem_singleton,List.mem_cons,or_assoc]
  ·rw[if_neg h]
   have ha:a∈acc:=by
    by_cases z:a∈acc
    ·exact z
    ·exact absurd ((qP _ _).mpr (by simpa using z)) h
   rw[List.mem_cons]
   constructor
   ·rintro(z | z)
    ·exact .inl z
    ·exact .inr (.inr z)
   ·rintro(z | z | z)
    ·exact .inl z
    ·subst z;exact .inl ha
    ·exact .inr z
def Qd:List Str→List Nat→List (Str×Str)
 | k :: ks,c :: cs=>(if bz k ("skip":Str)=true then [] else [(k,if bz k ("put":Str)=true then sg c else Str.ofString "")])++Qd ks cs
 | _,_=>[]
theorem K8 {p q f:Str}{b1 b2 b3 b4:Bool}{w u k w' u':Str}{c:Nat} (h:sR q w u) (hl:dJ f w u=false) (hs:bN p q f b1 b2 b3 b4 w u c=.go k w' u'):dJ f w' u'=false:=by
 have key:∀{d:Nat}{w:Str},(w=Str.ofString "within"∨w=Str.ofString "freed")→iX d f=true→dJ f w (sg d)=false:=by
  intro d w hw hd
  unfold dJ
  have e:nin (sg d) f=!(iX d f):=rfl
  rcases hw with rfl | rfl
  ·rw[if_neg (tL d),if_neg (ns (by decide +kernel)),e,hd];rfl
  ·rw[if_neg (tL d),if_neg (ns (by decide +kernel)),e,hd];rfl
 have hdf:∀{d:Nat}{w:Str},dJ f w (sg d)=false→iX d f=true:=by
  intro d w hl
  unfold dJ at hl
  rw[if_neg (tL d)] at hl
  split at hl
  ·cases hl
  ·have e:nin (sg d) f=!(iX d f):=rfl
   rw[e] at hl
   cases hx:iX d f with
   | true=>rfl
   | false=>rw[hx] at hl;cases hl
 rcases h with ⟨rfl,_⟩ | ⟨d,hd,rfl,rfl | rfl | rfl⟩
 ·unfold dJ at hl;rw[if_pos (bq _)] at hl;cases hl
 ·have hf:=hdf hl
  rw[gR (bq _)] at hs
  unfold cR at hs
  by_cases hcf:iX c f=true
  ·rw[if_pos hcf] at hs;cases hs;exact key (.inr rfl) hf
  ·rw[if_neg hcf] at hs
   have hcd:¬bz (sg c) (sg d)=true:=fun z=>by rw[Qc (mD z)] at hcf;exact hcf hf
   rw[if_neg hcd] at hs
   repeat' split at hs
   all_goals first
    | (cases hs;done)
    | (cases hs;exact key (.inl rfl) hf)
 ·unfold dJ at hl;rw[if_neg (tL d),if_pos (bq _)] at hl;cases hl
 ·have hf:=hdf hl
  rw[mE (bq _)] at hs
  unfold gF eV at hs
  rw[if_neg (tL d)] at hs
  repeat' split at hs
  all_goals first
   | (cases hs;done)
   | (cases hs;exact key (.inl rfl) hf)
theorem NS (f:Str):dJ f ("row":Str) ("":Str)=true:=by unfold dJ;rw[if_pos (bq _)]
section
variable {p q f:Str}{b1 b2 b3 b4:Bool}
def Rd0 (p q f:Str) (b1 b2 b3 b4:Bool) (w u:Str) (ts:List (Str×Str)) (cs:List Nat):Prop:=(runM p q f b1 b2 b3 b4 w u cs).2=(Str.ofString "row",Str.ofString "",none)∧Qd (runM p q f b1 b2 b3 b4 w u cs).1 cs=ts
abbrev RdT (p q f:Str) (b1 b2 b3 b4:Bool) (ts:List (Str×Str)) (cs:List Nat):Prop:=Rd0 p q f b1 b2 b3 b4 ("row":Str) ("":Str) ts cs
end
def lF (g:Fp) (t:Str×Str):Fp :=
 if bz t.1 ("put":Str)=true then ⟨g.rows,g.row,g.cell++t.2⟩
 else if bz t.1 ("part":Str)=true then ⟨g.rows,g.row++[g.cell],Str.ofString ""⟩
 else if bz t.1 ("end":Str)=true then ⟨g.rows++[g.row++[g.cell]],[],Str.ofString ""⟩
 else g
theorem Qe {g:Fp}{c:Nat}{k:Str}:NG g c k=(if bz k ("skip":Str)=true then [] else [(k,if bz k ("put":Str)=true then sg c else Str.ofString "")]).foldl lF g:=by
 by_cases hk:bz k ("skip":Str)=true
 ·rw[if_pos hk,mD hk]
  unfold NG
  rw[if_neg (ns (by decide +kernel)),if_neg (ns (by decide +kernel)),if_neg (ns (by decide +kernel))]
  rfl
 ·rw[if_neg hk]
  show _=lF g _
  unfold NG lF
  dsimp only
  by_cases hp:bz k ("put":Str)=true
  ·rw[if_pos hp,if_pos hp,if_pos hp]
  ·rw[if_neg hp,if_neg hp]
theorem Aj:∀{cs:List Nat}{ks:List Str}{g:Fp},Fq g cs ks=(Qd ks cs).foldl lF g
 | [],[],_=>rfl
 | [],_ :: _,_=>rfl
 | _ :: _,[],_=>rfl
 | c :: cs,k :: ks,g=>by
  show Fq (NG g c k) cs ks=((if _ then _ else _)++Qd ks cs).foldl lF g
  rw[List.foldl_append,←Qe,Aj]
theorem K9 (z:Str) (c:Nat):vq (z++sg c)=vq z++[(Str.ofString "put",sg c)]:=by
 unfold vq
 rw[app_list,List.map_append]
 rfl
theorem Ft {r s:List Str}:∀{n:Nat},n≤r.length→jK (r++s) n=jK r n
 | 0,_=>rfl
 | n+1,h=>by
  show jK (r++s) n++(_++vq ((r++s).getD n _))=jK r n++(_++vq (r.getD n _))
  rw[Ft (Nat.le_of_succ_le h),List.getD_eq_getElem?_getD,List.getD_eq_getElem?_getD,List.getElem?_append_left h]
theorem oA {r:List Str}{z:Str}:jK (r++[z]) (r.length+1)=jK r r.length++((if r.length=0 then [] else [ow])++vq z):=by
 rw[lU (z:=z) (by simp),Ft (Nat.le_refl _)]
def DM (g:Fp):List (Str×Str):=aT g.rows++jK (g.row++[g.cell]) (g.row.length+1)
def S0 (t:Str×Str):Prop:=(∃ c,t=(Str.ofString "put",sg c))∨t=ow∨t=NO
theorem DN:vq ("":Str)=[]:=by decide +kernel
theorem La {g:Fp}{t:Str×Str} (h:S0 t):DM (lF g t)=DM g++[t]:=by
 rcases h with ⟨c,rfl⟩ | rfl | rfl
 ·unfold lF DM
  dsimp only
  rw[if_pos (bq _)]
  dsimp only
  rw[oA,oA,K9]
  simp only[List.append_assoc]
 ·unfold lF DM
  rw[show ow.1=Str.ofString "part" from rfl,if_neg (ns (by decide +kernel)),if_pos (bq _)]
  dsimp only
  rw[oA (r:=g.row++[g.cell]),DN,if_neg (by simp),List.length_append]
  simp only[List.append_assoc,List.append_nil]
  rfl
 ·unfold lF DM
  rw[show NO.1=Str.ofString "end" from rfl,if_neg (ns (by decide +kernel)),if_neg (ns (by decide +kernel)),if_pos (bq _)]
  dsimp only
  rw[ng]
  unfold nR
  rw[List.length_append]
  have e:jK ([]++[Str.ofString ""]) (([]:List Str).length+1)=[]:=by rw[oA,DN];rfl
  rw[e,List.append_nil,List.append_assoc]
  rfl
theorem Ak:∀{ts:List (Str×Str)}{g:Fp},(∀ t∈ts,S0 t)→DM (ts.foldl lF g)=DM g++ts
 | [],_,_=>(List.append_nil _).symm
 | t :: ts,g,h=>by
  rw[List.foldl_cons,Ak fun t z=>h t (List.mem_cons_of_mem _ z),La (h t (List.mem_cons_self ..)),List.append_assoc]
  rfl
theorem NT {p q f:Str}{b1 b2 b3 b4:Bool}:∀{cs:List Nat}{w u:Str},∀ t∈Qd (runM p q f b1 b2 b3 b4 w u cs).1 cs,S0 t
 | [],w,u,t,h=>nomatch h
 | c :: cs,w,u,t,h=>by
  unfold runM at h
  cases hs:bN p q f b1 b2 b3 b4 w u c with
  | uq e=>rw[hs] at h;cases h
  | go k w' u' =>
   rw[hs] at h
   dsimp only at h
   unfold Qd at h
   rcases List.mem_append.mp h with z | z
   ·by_cases hk:bz k ("skip":Str)=true
    ·rw[if_pos hk] at z;cases z
    ·rw[if_neg hk] at z
     have z:=List.mem_singleton.mp z
     rcases NR hs with ⟨e,_⟩ | ⟨e,_⟩ | ⟨e,_⟩ | e
     ·rw[e,bq] at hk;exact absurd rfl hk
     ·subst e;rw[if_neg (ns (by decide +kernel))] at z;exact .inr (.inr z)
     ·subst e;rw[if_neg (ns (by decide +kernel))] at z;exact .inr (.inl z)
     ·subst e;rw[if_pos (bq _)] at z;exact .inl ⟨c,z⟩
   ·exact NT t z
theorem NU {p q f:Str}{b1 b2 b3 b4:Bool}{z:Str} (h:(runM p q f b1 b2 b3 b4 ("row":Str) ("":Str) z.cps.toList).2=(Str.ofString "row",Str.ofString "",none)):RdT p q f b1 b2 b3 b4 (aT (NH z (runM p q f b1 b2 b3 b4 ("row":Str) ("":Str) z.cps.toList).1)) z.cps.toList:=by
 refine⟨h,?_⟩
 have h1:(runM p q f b1 b2 b3 b4 ("row":Str) ("":Str) z.cps.toList).2.2.2=none:=by rw[h]
 have h2:(runM p q f b1 b2 b3 b4 ("row":Str) ("":Str) z.cps.toList).2.1=Str.ofString "row" := by rw[h]
 obtain⟨c1,c2⟩:=CJ (g:=K4) (fun _=>⟨rfl,rfl⟩) h1 h2
 have e:=Ak (g:=K4) (NT (p:=p) (q:=q) (f:=f) (b1:=b1) (b2:=b2) (b3:=b3) (b4:=b4) (cs:=z.cps.toList) (w:=Str.ofString "row") (u:=Str.ofString ""))
 rw[←Aj] at e
 have e0:jK ([]++[Str.ofString ""]) (([]:List Str).length+1)=[]:=by rw[oA,DN];rfl
 have g0:DM K4=[]:=e0
 rw[g0,List.nil_append] at e
 rw[←e]
 unfold DM
 rw[c1,c2,e0,List.append_nil]
 rfl
theorem NV {p q f:Str}{b1 b2 b3 b4:Bool}{z:Str}{ts:List (Str×Str)} (h:RdT p q f b1 b2 b3 b4 ts z.cps.toList):NH z (runM p q f b1 b2 b3 b4 ("row":Str) ("":Str) z.cps.toList).1=(ts.foldl lF K4).rows:=by
 unfold NH
 rw[Aj,h.2]
theorem Al (cs:List Nat):(Txt.join ("":Str) (cs.map sg)).cps.toList=cs:=by
 have ee:("":Str).cps.toList=[]:=by decide +kernel
 show(Builtin.Str.glued ("":Str) (cs.map sg)).cps.toList=_
 rw[StrLaws.glued_eq_join]
 induction cs with
 | nil=>exact ee
 | cons c cs ih =>
  cases cs with
  | nil=>rfl
  | cons d cs =>
   show(sg c++("":Str)++Str.join ("":Str) ((d :: cs).map sg)).cps.toList=_
   rw[app_list,app_list,ee,List.append_nil,ih]
   rfl
def DO (r:List Str):Bool:=decide (1≤r.length∧r.length≤20)
def Am (t:List (List Str)):Bool:=decide (t.length≤60) && t.all DO
theorem NW {r:List Str} (h1:1≤r.length) (h2:r.length≤20):DO r=true:=decide_eq_true ⟨h1,h2⟩
theorem NX {r:List Str} (h:¬(1≤r.length∧r.length≤20)):DO r=false:=decide_eq_false h
structure S3 (t:List (List Str)):Prop where
 n:t.length≤1000
 rl:∀ r∈t,r.length≤1000
 ok:∀ r∈t,∀ c∈r,dD c
 sum:total t≤400
theorem Qf {t:List (List Str)} (g:S3 t) (h:Am t=true):TabOk t:=by
 unfold Am at h
 rw[Bool.and_eq_true,List.all_eq_true] at h
 refine⟨of_decide_eq_true h.1,fun r hr=>?_,g.sum⟩
 obtain⟨a,b⟩:=of_decide_eq_true (h.2 r hr)
 exact⟨a,b,g.ok r hr⟩
theorem Qg {t:List (List Str)} (h:TabOk t):Am t=true:=by
 unfold Am
 rw[Bool.and_eq_true,List.all_eq_true]
 exact⟨decide_eq_true h.n,fun r hr=>NW (h.rows r hr).lo (h.rows r hr).hi⟩
theorem TabOk.s {t:List (List Str)} (h:TabOk t):S3 t:=⟨by have:=h.n;omega,fun r hr=>by have:=(h.rows r hr).hi;omega,fun r hr=>(h.rows r hr).ok,h.sum⟩
theorem Kd {A H:Hp}{es:List V}{R:List (List Str)} (h:tM A H es R):Paired (bF H) es R:=aH (fun _ _ ⟨a,e1,_,e3⟩=>⟨a,e1,e3⟩) h
theorem S4 {K:W.Frag}{H:Hp}{l l2:Addr}{es es2:List V}{R:List (List Str)} (h1:H l=some (.lst es)) (h2:H l2=some (.lst es2)) (r1:Paired (bF H) es R) (r2:Paired (bF H) es2 R):TopD K H (.ref l) (.ref l2) :=
 ⟨1,l,l2,es,es2,rfl,rfl,by decide,r1.length.trans r2.length.symm,.inr ⟨aU.of h1,aU.of h2⟩,K7 r1 r2⟩
theorem vz (xs:List V) (n:Nat) (h:n≤xs.length):sO xs (some (n:Int)) none=xs.drop n:=by
 unfold sO
 have e1:HT.j7 xs.length xs.length none=xs.length:=rfl
 have e2:HT.j7 xs.length 0 (some (n:Int))=n:=by
  show(if (n:Int) < 0 then ((n:Int)+(xs.length:Int)).toNat else min (n:Int).toNat xs.length)=_
  rw[if_neg (by omega),Int.toNat_natCast];omega
 rw[e1,e2,List.take_of_length_le (by rw[List.length_drop];exact Nat.le_refl _)]
section
variable {good:fT→Bool}{led:fT→List (Nat×fT)}{a:fT}
end
section
variable {p q f:Str}{b1 b2 b3 b4:Bool}
theorem Fv:∀{cs:List Nat}{w u w' u':Str},sR q w u→dJ f w u=false→(runM p q f b1 b2 b3 b4 w u cs).2=(w',u',none)→dJ f w' u'=false
 | [],w,u,w',u',_,hl,e=>by
  have e:(w,u,(none:Option Str))=(w',u',none):=e
  injection e with e1 e2
  injection e2 with e2 _
  rw[←e1,←e2];exact hl
 | c :: cs,w,u,w',u',h,hl,e=>by
  unfold runM at e
  cases hs:bN p q f b1 b2 b3 b4 w u c with
  | uq e'=>rw[hs] at e;dsimp only at e;injection e with _ z;injection z with _ z;cases z
  | go k w2 u2=>rw[hs] at e;exact Fv (pM h hs) (K8 h hl hs) e
def PR (p q f:Str) (b1 b2 b3 b4:Bool) (w u:Str) (ts:List (Str×Str)) (cs:List Nat) (w' u':Str):Prop:=(runM p q f b1 b2 b3 b4 w u cs).2=(w',u',none)∧Qd (runM p q f b1 b2 b3 b4 w u cs).1 cs=ts
end
def cells (t:List (List Str)):Nat:=(t.map List.length).sum
theorem Ij (t:List (List Str)) (r:List Str):cells (t++[r])=cells t+r.length:=by
 unfold cells;rw[List.map_append,List.sum_append];simp
theorem CO:∀(t:List (List Str)),(t.map fun r=>r.length+(lens r).sum).sum=cells t+total t
 | []=>rfl
 | r :: t=>by
  have ih:=CO t
  unfold cells total at ih ⊢
  rw[List.map_cons,List.map_cons,List.map_cons,List.sum_cons,List.sum_cons,List.sum_cons,ih]
  omega
theorem Qh {t:List (List Str)} (h:∀ r∈t,Ag r):(aT t).length=cells t+total t:=by rw[Ah h,CO]
theorem Fw:∀{t:List (List Str)},(∀ r∈t,Ag r)→t.length≤cells t
 | [],_=>Nat.le_refl _
 | r :: t,h=>by
  have ih:=Fw (t:=t) fun r' h'=>h r' (List.mem_cons_of_mem _ h')
  have h1:=(h r (List.mem_cons_self ..)).lo
  unfold cells at ih ⊢
  rw[List.map_cons,List.sum_cons,List.length_cons]
  omega
theorem CQ (R:List (List Str)) (row:List Str):∀(y z:Str),(vq y).foldl lF ⟨R,row,z⟩=⟨R,row,z++y⟩:=by
 intro y
 have key:∀(cs:List Nat) (z:Str),(cs.map fun k=>(Str.ofString "put",sg k)).foldl lF ⟨R,row,z⟩=⟨R,row,z++⟨cs.toArray⟩⟩:=by
  intro cs
  induction cs with
  | nil=>intro z;show(⟨R,row,z⟩:Fp)=_;rw[show z++(⟨[].toArray⟩:Str)=z from vo (by rw[app_list];simp)]
  | cons c cs ih =>
   intro z
   rw[List.map_cons,List.foldl_cons]
   have e:lF ⟨R,row,z⟩ (Str.ofString "put",sg c)=⟨R,row,z++sg c⟩:=by unfold lF;dsimp only;rw[if_pos (bq _)]
   rw[e,ih]
   congr 1
   refine vo ?_
   rw[app_list,app_list,app_list]
   simp[sg]
 intro z
 have:=key y.cps.toList z
 rw[show(⟨y.cps.toList.toArray⟩:Str)=y from vo (by simp)] at this
 exact this
theorem CS (R:List (List Str)) (r:List Str):∀(n:Nat) (c:Str),r[n]? = some c→(jK r (n+1)).foldl lF ⟨R,[],Str.ofString ""⟩=⟨R,r.take n,c⟩
 | 0,c,h=>by
  rw[lU h]
  show(([]:List (Str×Str))++((if 0=0 then [] else [ow])++vq c)).foldl lF _=_
  rw[if_pos rfl,List.nil_append,List.nil_append,CQ,NL]
  rfl
 | n+1,c,h=>by
  obtain⟨d,hd⟩:∃ d,r[n]? = some d:=⟨_,List.getElem?_eq_getElem (by have:=(List.getElem?_eq_some_iff.mp h).1;omega)⟩
  rw[lU h,List.foldl_append,CS R r n d hd,if_neg (by omega),List.foldl_append]
  have e:[ow].foldl lF ⟨R,r.take n,d⟩=⟨R,r.take n++[d],Str.ofString ""⟩:=by
   show lF _ ow=_
   unfold lF
   rw[show ow.1=Str.ofString "part" from rfl,if_neg (ns (by decide +kernel)),if_pos (bq _)]
  rw[e,CQ,NL,←aO hd]
theorem Fx:∀(t R:List (List Str)),(∀ r∈t,1≤r.length)→(aT t).foldl lF ⟨R,[],Str.ofString ""⟩=⟨R++t,[],Str.ofString ""⟩
 | [],R,_=>by show(⟨R,[],_⟩:Fp)=_;rw[List.append_nil]
 | r :: t,R,h=>by
  have e:aT (r :: t)=nR r++aT t:=rfl
  have h1:=h r (List.mem_cons_self ..)
  obtain⟨n,hn⟩:∃ n,r.length=n+1:=⟨r.length - 1,by omega⟩
  obtain⟨c,hc⟩:∃ c,r[n]? = some c:=⟨_,List.getElem?_eq_getElem (by omega)⟩
  have e2:(nR r).foldl lF ⟨R,[],Str.ofString ""⟩=⟨R++[r],[],Str.ofString ""⟩:=by
   unfold nR
   rw[hn,List.foldl_append,CS R r n c hc]
   show lF _ NO=_
   unfold lF
   rw[show NO.1=Str.ofString "end" from rfl,if_neg (ns (by decide +kernel)),if_neg (ns (by decide +kernel)),if_pos (bq _)]
   dsimp only
   rw[←aO hc,List.take_of_length_le (by omega)]
  rw[e,List.foldl_append,e2,Fx t (R++[r]) fun r' h'=>h r' (List.mem_cons_of_mem _ h'),List.append_assoc]
  rfl
theorem tab_of {p q f:Str}{b1 b2 b3 b4:Bool}{F:Str}{t:List (List Str)} (ht:∀ r∈t,1≤r.length) (h:RdT p q f b1 b2 b3 b4 (aT t) F.cps.toList):NH F (runM p q f b1 b2 b3 b4 ("row":Str) ("":Str) F.cps.toList).1=t:=by
 rw[NV h,show K4=⟨[],[],Str.ofString ""⟩ from rfl,Fx t [] ht]
 rfl
theorem PR.un {p q f:Str}{b1 b2 b3 b4:Bool}{w u wE uE:Str}{c:Nat}{cs:List Nat}{ts:List (Str×Str)} (h:PR p q f b1 b2 b3 b4 w u ts (c :: cs) wE uE):∃ k w' u' ts',bN p q f b1 b2 b3 b4 w u c=.go k w' u'∧ts=(if bz k ("skip":Str)=true then [] else [(k,if bz k ("put":Str)=true then sg c else Str.ofString "")])++ts'∧PR p q f b1 b2 b3 b4 w' u' ts' cs wE uE:=by
 obtain⟨h1,h2⟩:=h
 cases hs:bN p q f b1 b2 b3 b4 w u c with
 | uq e=>rw[vn hs] at h1;injection h1 with _ z;injection z with _ z;cases z
 | go k w' u'=>rw[nc hs] at h1 h2;exact⟨k,w',u',_,rfl,h2.symm,h1,rfl⟩
theorem oB:∀(fs:List Str),(fs.map (·.length)).sum=(dg fs).length
 | []=>nP.symm
 | F :: fs=>by rw[List.map_cons,List.sum_cons,oB fs];show _=(F++dg fs).length;rw[cy]
theorem pN:∀(fs:List Str),Txt.join ("":Str) fs=dg fs:=by
 intro fs
 show Builtin.Str.glued ("":Str) fs=_
 rw[StrLaws.glued_eq_join]
 induction fs with
 | nil=>rfl
 | cons F fs ih =>
  cases fs with
  | nil=>show F=F++Str.ofString "";rw[NN]
  | cons G fs =>
   show F++Str.ofString "" ++ Str.join ("":Str) (G :: fs)=F++dg (G :: fs)
   rw[ih,NN]
def Fy (x:cN) (t:List (List Str)) (z:Str):Bool:=decide (rdV (runC x z) z=some t)
def CU (x:cN) (cs:List cN) (t:List (List Str)) (z:Str):Bool:=Fy x t z && !(cs.any fun y=>Fy y t z)
def Ke (p q f:Str) (b1 b2 b3 b4:Bool) (ts:List (Str×Str)) (m:fT):List Nat→Option fT
 | []=>some m
 | c :: cs=>(jL p q f b1 b2 b3 b4 ts m c).bind fun m'=>Ke p q f b1 b2 b3 b4 ts m' cs
section
variable {p q f:Str}{b1 b2 b3 b4:Bool}{ts:List (Str×Str)}
theorem An {c:Nat}:∀{cs:List Nat}{m:fT},Ke p q f b1 b2 b3 b4 ts m (cs++[c])=(Ke p q f b1 b2 b3 b4 ts m cs).bind fun m'=>jL p q f b1 b2 b3 b4 ts m' c
 | [],m=>by show(jL p q f b1 b2 b3 b4 ts m c).bind (fun m'=>some m')=jL p q f b1 b2 b3 b4 ts m c;cases jL p q f b1 b2 b3 b4 ts m c <;> rfl
 | d :: cs,m=>by
  show(jL p q f b1 b2 b3 b4 ts m d).bind _=((jL p q f b1 b2 b3 b4 ts m d).bind _).bind _
  cases h:jL p q f b1 b2 b3 b4 ts m d with
  | none=>rfl
  | some m'=>exact An
theorem NY {c:Nat}{cs:List Nat}{m:fT} (h:Ke p q f b1 b2 b3 b4 ts m cs=none) (ds:List Nat):Ke p q f b1 b2 b3 b4 ts m (cs++ds)=none:=by
 induction cs generalizing m with
 | nil=>cases h
 | cons d cs ih =>
  show(jL p q f b1 b2 b3 b4 ts m d).bind _=none
  have h:(jL p q f b1 b2 b3 b4 ts m d).bind _=none:=h
  cases hm:jL p q f b1 b2 b3 b4 ts m d with
  | none=>rfl
  | some m'=>rw[hm] at h;exact ih h
theorem NZ {m m':fT}{c:Nat} (h:jL p q f b1 b2 b3 b4 ts m c=some m'):∃ k,bN p q f b1 b2 b3 b4 m.1.1 m.1.2 c=.go k m'.1.1 m'.1.2∧dJ f m'.1.1 m'.1.2=true∧qQ ts m.2 k (sg c)=some m'.2:=by
 unfold jL mG at h
 cases hs:bN p q f b1 b2 b3 b4 m.1.1 m.1.2 c with
 | uq e=>rw[hs] at h;cases h
 | go k w u =>
  rw[hs] at h
  dsimp only at h
  by_cases hl:dJ f w u=true
  ·rw[if_pos hl] at h
   dsimp only at h
   cases hc:qQ ts m.2 k (sg c) with
   | none=>rw[hc] at h;cases h
   | some n=>rw[hc] at h;cases h;exact⟨k,rfl,hl,hc⟩
  ·rw[if_neg hl] at h;cases h
theorem N1 {m:fT}{c n:Nat}{k w u:Str} (hs:bN p q f b1 b2 b3 b4 m.1.1 m.1.2 c=.go k w u) (hl:dJ f w u=true) (hc:qQ ts m.2 k (sg c)=some n):jL p q f b1 b2 b3 b4 ts m c=some ((w,u),n):=by
 unfold jL mG
 rw[hs]
 dsimp only
 rw[if_pos hl]
 dsimp only
 rw[hc]
theorem DP:∀{cs:List Nat}{m m':fT},m.2≤ts.length→Ke p q f b1 b2 b3 b4 ts m cs=some m'→m.2≤m'.2∧m'.2≤ts.length∧PR p q f b1 b2 b3 b4 m.1.1 m.1.2 ((ts.take m'.2).drop m.2) cs m'.1.1 m'.1.2
 | [],m,m',hm,h=>by
  cases h
  refine⟨Nat.le_refl _,hm,rfl,?_⟩
  show []=_
  rw[List.drop_eq_nil_of_le (by rw[List.length_take];omega)]
 | c :: cs,m,m',hm,h=>by
  have h:(jL p q f b1 b2 b3 b4 ts m c).bind _=some m':=h
  cases hM:jL p q f b1 b2 b3 b4 ts m c with
  | none=>rw[hM] at h;cases h
  | some m1 =>
   rw[hM] at h
   obtain⟨k,hs,hl,hc⟩:=NZ hM
   unfold qQ at hc
   by_cases hk:bz k ("skip":Str)=true
   ·rw[if_pos hk] at hc
    have e:m.2=m1.2:=Option.some.inj hc
    obtain⟨i1,i2,i3,i4⟩:=DP (by omega) h
    refine⟨by omega,i2,by rw[nc hs];exact i3,?_⟩
    rw[nc hs]
    unfold Qd
    rw[if_pos hk,List.nil_append,i4,e]
   ·rw[if_neg hk] at hc
    by_cases ht:ts[m.2]? = some (k,if bz k ("put":Str)=true then sg c else Str.ofString "")
    ·rw[if_pos ht] at hc
     have e:m.2+1=m1.2:=Option.some.inj hc
     have hlt:=(List.getElem?_eq_some_iff.mp ht).1
     obtain⟨i1,i2,i3,i4⟩:=DP (by omega) h
     refine⟨by omega,i2,by rw[nc hs];exact i3,?_⟩
     rw[nc hs]
     unfold Qd
     rw[if_neg hk,i4,←e]
     have hx:(ts.take m'.2)[m.2]? = some (k,if bz k ("put":Str)=true then sg c else Str.ofString ""):=by rw[List.getElem?_take,if_pos (by omega)];exact ht
     obtain⟨h1,h2⟩:=List.getElem?_eq_some_iff.mp hx
     rw[List.drop_eq_getElem_cons h1,h2]
     rfl
    ·rw[if_neg ht] at hc;cases hc
theorem Ik:∀{cs:List Nat}{m:fT}{w u:Str}{n:Nat},sR q m.1.1 m.1.2→dJ f w u=true→m.2≤n→n≤ts.length→PR p q f b1 b2 b3 b4 m.1.1 m.1.2 ((ts.take n).drop m.2) cs w u→Ke p q f b1 b2 b3 b4 ts m cs=some ((w,u),n)
 | [],m,w,u,n,_,_,hmn,hn,h=>by
  obtain⟨h1,h2⟩:=h
  have e:(m.1.1,m.1.2,(none:Option Str))=(w,u,none):=h1
  injection e with e1 e2
  injection e2 with e2 _
  have hl:((ts.take n).drop m.2).length=0:=by rw[←h2];rfl
  rw[List.length_drop,List.length_take] at hl
  show some m=_
  rw[←e1,←e2,show n=m.2 by omega]
 | c :: cs,m,w,u,n,hq,L4,hmn,hn,h=>by
  obtain⟨k,w',u',ts',hs,e,h'⟩:=h.un
  have hl:dJ f w' u'=true:=by
   cases z:dJ f w' u' with
   | true=>rfl
   | false=>rw[Fv (pM hq hs) z h'.1] at L4;cases L4
  show(jL p q f b1 b2 b3 b4 ts m c).bind _=_
  by_cases hk:bz k ("skip":Str)=true
  ·rw[if_pos hk,List.nil_append] at e
   have hc:qQ ts m.2 k (sg c)=some m.2:=by unfold qQ;rw[if_pos hk]
   rw[N1 hs hl hc]
   refine Ik (m:=((w',u'),m.2)) (pM hq hs) L4 hmn hn ?_
   show PR _ _ _ _ _ _ _ w' u' ((ts.take n).drop m.2) cs w u
   rw[e];exact h'
  ·rw[if_neg hk] at e
   have hx:(ts.take n)[m.2]? = some (k,if bz k ("put":Str)=true then sg c else Str.ofString ""):=by
    have:=congrArg List.head? e
    rw[List.head?_drop] at this
    exact this
   have hin:m.2 < n:=by
    have:=(List.getElem?_eq_some_iff.mp hx).1
    rw[List.length_take] at this
    omega
   rw[List.getElem?_take,if_pos hin] at hx
   have hd:(ts.take n).drop (m.2+1)=ts':=by
    have:=congrArg List.tail e
    rw[List.tail_drop] at this
    exact this
   have hc:qQ ts m.2 k (sg c)=some (m.2+1):=by unfold qQ;rw[if_neg hk,if_pos hx]
   rw[N1 hs hl hc]
   refine Ik (m:=((w',u'),m.2+1)) (pM hq hs) L4 hin hn ?_
   show PR _ _ _ _ _ _ _ w' u' ((ts.take n).drop (m.2+1)) cs w u
   rw[hd];exact h'
theorem S5 {cs:List Nat}:Ke p q f b1 b2 b3 b4 ts m0 cs=some ((Str.ofString "row",Str.ofString ""),ts.length)↔RdT p q f b1 b2 b3 b4 ts cs:=by
 constructor
 ·intro h
  obtain⟨_,_,h3⟩:=DP (Nat.zero_le _) h
  rw[List.take_length] at h3
  exact h3
 ·intro h
  refine Ik (.inl ⟨rfl,.inl rfl⟩) (NS f) (Nat.zero_le _) (Nat.le_refl _) ?_
  rw[List.take_length]
  exact h
end
theorem N2 {x:cN}{t:List (List Str)}{z:Str} (ht:∀ r∈t,1≤r.length):Fy x t z=decide (Ke x.1 x.2.1 x.2.2.1 x.2.2.2.a x.2.2.2.b x.2.2.2.c x.2.2.2.d (aT t) m0 z.cps.toList=some ((Str.ofString "row",Str.ofString ""),(aT t).length)):=by
 unfold Fy
 rw[Bool.eq_iff_iff,decide_eq_true_iff,decide_eq_true_iff,S5]
 unfold rdV runC
 constructor
 ·intro h
  split at h
  ·rename_i hW
   obtain⟨e1,e2,e3⟩:=SW hW
   have DQ:(runM x.1 x.2.1 x.2.2.1 x.2.2.2.a x.2.2.2.b x.2.2.2.c x.2.2.2.d ("row":Str) ("":Str) z.cps.toList).2=(Str.ofString "row",Str.ofString "",none):=Prod.ext e2 (Prod.ext e3 e1)
   have:=NU DQ
   rw[Option.some.inj h] at this
   exact this
  ·cases h
 ·intro h
  rw[if_pos (P5 h.1),tab_of ht h]
theorem Ry:Sg ("":Str):=⟨by rw[r8];exact List.nodup_nil,fun c hc=>by rw[r8] at hc;cases hc⟩
theorem zG:∀{r:List Str},(∀ c∈r,dD c)→dD (dg r)
 | [],_=>fun d hd=>by rw[show(dg []).cps.toList=[] from r8] at hd;cases hd
 | z :: r,h=>fun d hd=>by
  have hd:d∈(z++dg r).cps.toList:=hd
  rw[app_list] at hd
  rcases List.mem_append.mp hd with q | q
  ·exact h z (List.mem_cons_self ..) d q
  ·exact zG (fun c hc=>h c (List.mem_cons_of_mem _ hc)) d q
theorem Kf:∀{r:List Str}{m:Nat},(∀ c∈r,c.length≤m)→(dg r).length≤r.length * m
 | [],m,_=>by rw[show(dg []).length=0 from nP];exact Nat.zero_le _
 | z :: r,m,h=>by
  show(z++dg r).length≤(r.length+1) * m
  have h1:=h z (List.mem_cons_self ..)
  have h2:=Kf (r:=r) (m:=m) fun c hc=>h c (List.mem_cons_of_mem _ hc)
  rw[cy,Nat.succ_mul]
  omega
theorem Fz (r:List Str):(dg r).length=(lens r).sum:=(oB r).symm
theorem CV:∀(t:List (List Str)),(dg (t.map dg)).length=total t
 | []=>nP
 | r :: t=>by
  show(dg r++dg (t.map dg)).length=_
  rw[cy,CV t,Fz]
  unfold total
  rw[List.map_cons,List.sum_cons]
section
variable {good:fT→Bool}{led:fT→List (Nat×fT)}{a:fT}
end
section
variable {p q f:Str}{b1 b2 b3 b4:Bool}
end
theorem vA {K:W.Frag}{H H':Hp}{o:Option fT}{v:V} (s:aD H H') (h:ff K H o v):ff K H' o v:=by
 cases o with
 | none=>exact h
 | some m=>obtain⟨b,t,rfl,h1,h2⟩:=h;exact⟨b,t,rfl,aB s h1,aB s h2⟩
theorem dS {K:W.Frag}{H H':Hp} (s:aD H H'):∀{os:List (Option fT)}{vs:List V},Paired (ff K H) os vs→Paired (ff K H') os vs
 | _,_,.nil=>.nil
 | _,_,.cons a r=>.cons (vA s a) (dS s r)
theorem bW {K:W.Frag}{H H':Hp}{m:dj}{v:V} (s:aD H H') (h:cI K H m v):cI K H' m v:=by
 obtain⟨b,t,u,vs,rfl,h1,h2,h3,h4⟩:=h
 exact⟨b,t,u,vs,rfl,aB s h1,aB s h2,aB s h3,dS s h4⟩
theorem DR {K:W.Frag}{H:Hp}{o:Option fT}{v:V} (h:vv K o H v):ff K H o v:=by
 cases o with
 | none=>exact h
 | some m=>exact h
def adR (p q f:Str) (b1 b2 b3 b4:Bool) (ts:List (Str×Str)) (o:Option fT) (c:Nat):Option fT:=o.bind fun m=>jL p q f b1 b2 b3 b4 ts m c
def uA (x:cN) (ts:List (Str×Str)) (m:fT) (c:Nat):Option fT:=jL x.1 x.2.1 x.2.2.1 x.2.2.2.a x.2.2.2.b x.2.2.2.c x.2.2.2.d ts m c
def CY (x:cN) (ts:List (Str×Str)) (o:Option fT) (c:Nat):Option fT:=o.bind fun m=>uA x ts m c
def FA (K:W.Frag) (C CT CM:Addr) (H:Hp) (m:Addr) (x:cN) (ts:List (Str×Str)):Prop:=wZ K C CT CM H m x.1 x.2.1 x.2.2.1 x.2.2.2.a x.2.2.2.b x.2.2.2.c x.2.2.2.d ts
abbrev N4 (K:W.Frag) (C CT CM:Addr) (ts:List (Str×Str)) (H:Hp):List V→List cN→Prop:=Paired fun v x=>∃ m,v=.ref m∧FA K C CT CM H m x ts
theorem N4.mono {K:W.Frag}{C CT CM:Addr}{ts:List (Str×Str)}{H H':Hp} (s:aD H H') {vs:List V}{cs:List cN} (h:N4 K C CT CM ts H vs cs):N4 K C CT CM ts H' vs cs:=aH (fun _ _ ⟨m,e,q⟩=>⟨m,e,wZ.mono s q⟩) h
theorem Qi {K:W.Frag}{H:Hp}{o:Option fT}{v:V} (h:ff K H o v):vv K o H v:=by
 cases o with
 | none=>exact h
 | some m=>exact h
theorem Qj {K:W.Frag}{H:Hp}{l:Addr}{ws:List V}{x:HO}{o:Option fT}{v:V} (hl:H l=some (.lst ws)) (h:ff K H o v):ff K (upd H l x) o v:=DR (vv.but hl (Qi h))
theorem f6 {K:W.Frag}{H:Hp}{l:Addr}{ws:List V}{x:HO} (hl:H l=some (.lst ws)):∀{os:List (Option fT)}{vs:List V},Paired (ff K H) os vs→Paired (ff K (upd H l x)) os vs
 | _,_,.nil=>.nil
 | _,_,.cons a r=>.cons (Qj hl a) (f6 hl r)
def stM:fT:=((Str.ofString "row",Str.ofString ""),0)
def dO (n:Nat):dj:=(stM,List.replicate n (some stM))
def pfl (m lm:Addr) (z:Str):List (Str×V):=[("marker",.ref m),("markers",.ref lm),("signs",.str z)]
structure Il (K:W.Frag) (C CT CM CP:Addr) (H:Hp) (y:Addr) (x:cN) (cs:List cN) (ts:List (Str×Str)) (z:Str):Prop where
 ok:∃ dy m lm ms,H y=some (.ins CP dy (pfl m lm z))∧FA K C CT CM H m x ts∧H lm=some (.lst ms)∧N4 K C CT CM ts H ms cs
theorem Il.mono {K:W.Frag}{C CT CM CP:Addr}{H H':Hp}{y:Addr}{x:cN}{cs:List cN}{ts:List (Str×Str)}{z:Str} (s:aD H H') (h:Il K C CT CM CP H y x cs ts z):Il K C CT CM CP H' y x cs ts z:=by
 obtain⟨dy,m,lm,ms,e1,e2,e3,e4⟩:=h.ok
 exact⟨dy,m,lm,ms,s _ _ e1,wZ.mono s e2,s _ _ e3,N4.mono s e4⟩
theorem kF {α β:Type}{F:α→β→Prop}:∀{xs:List α}{ys:List β},Paired F xs ys→∀(i:Nat) (y:β),ys[i]? = some y→∃ x,xs[i]? = some x∧F x y
 | _,_,.nil,_,_,h=>nomatch h
 | x :: _,_,.cons a r,0,y,h=>⟨x,rfl,by have h:some _=some y:=h;cases h;exact a⟩
 | _ :: _,_,.cons a r,i+1,y,h=>kF r i y h
def qT (ts:List (Str×Str)):fT:=((Str.ofString "row",Str.ofString ""),ts.length)
def cT (ts:List (Str×Str)) (m:dj):Bool:=decide (m.1=qT ts) && !(m.2.any fun o=>decide (o=some (qT ts)))
def iR (cs:List cN) (ts:List (Str×Str)) (os:List (Option fT)) (c:Nat):List (Option fT):=(cs.zip os).map fun p=>CY p.1 ts p.2 c
def bZ (x:cN) (cs:List cN) (ts:List (Str×Str)) (z:Str) (m:dj):List (Nat×dj):=z.cps.toList.filterMap fun c=>(uA x ts m.1 c).map fun m'=>(c,(m',iR cs ts m.2 c))
abbrev yJ (K:W.Frag) (H:Hp):List V→List (Nat×dj)→Prop:=Paired fun v e=>∃ t w,v=.ref t∧H t=some (.tup [.str (sg e.1),w])∧cI K H e.2 w
theorem vB {K:W.Frag}{H:Hp}{l a:Addr}{ws xs:List V}{o:HO} (hl:H l=some (.lst ws)) (h:aY K H a xs):aY K (upd H l o) a xs:=by
 rcases h with (h | ⟨ob,h⟩) | h
 ·exact .inl (.inl ((aE (gW h hl (by intro z;cases z))).trans h))
 ·exact .inl (.inr ⟨ob,(aE (gW h hl (by intro z;cases z))).trans h⟩)
 ·exact .inr h
theorem vC {K:W.Frag}{H:Hp}{l:Addr}{ws:List V}{o:HO}{m:dj}{v:V} (hl:H l=some (.lst ws)) (h:cI K H m v):cI K (upd H l o) m v:=by
 obtain⟨b,t,u,vs,rfl,h1,h2,h3,h4⟩:=h
 exact⟨b,t,u,vs,rfl,vB hl h1,vB hl h2,vB hl h3,f6 hl h4⟩
theorem sq {K:W.Frag}{H H':Hp} (s:aD H H'):∀{vs:List V}{es:List (Nat×dj)},yJ K H vs es→yJ K H' vs es
 | _,_,.nil=>.nil
 | _,_,.cons ⟨t,w,e,h,q⟩ r=>.cons ⟨t,w,e,s _ _ h,bW s q⟩ (sq s r)
theorem vD {K:W.Frag}{H:Hp}{l:Addr}{ws:List V}{o:HO} (hl:H l=some (.lst ws)):∀{vs:List V}{es:List (Nat×dj)},yJ K H vs es→yJ K (upd H l o) vs es
 | _,_,.nil=>.nil
 | _,_,.cons ⟨t,w,e,h,q⟩ r=>.cons ⟨t,w,e,(aE (gW h hl (by intro z;cases z))).trans h,vC hl q⟩ (vD hl r)
def yK (x:cN):Str:=tO ((x.1++x.2.1)++x.2.2.1)
def oE (cs:List cN) (t:List (List Str)):Str:=tO (((Txt.join ("":Str) (cs.map yK)++Str.ofString "\n")++Str.ofString " ")++Txt.join ("":Str) (t.map (Txt.join ("":Str))))
theorem oG (fs:List Str):(Txt.join ("":Str) fs).length=(fs.map (·.length)).sum:=by rw[pN,oB]
theorem Qk {c:cN} (g:uz c):(yK c).length≤7:=by
 have h:=CL ((c.1++c.2.1)++c.2.2.1)
 have a1:=cy c.1 c.2.1
 have a2:=cy (c.1++c.2.1) c.2.2.1
 have g1:c.1.length≤3:=Gd.p3 g
 have g2:c.2.1.length≤2:=Gd.q2 g
 have g3:c.2.2.1.length≤2:=Gd.f2 g
 unfold yK
 omega
theorem DS:∀{cs:List cN},(∀ c∈cs,uz c)→((cs.map yK).map (·.length)).sum≤7 * cs.length
 | [],_=>Nat.le_refl _
 | c :: cs,h=>by
  have h1:=Qk (h c (List.mem_cons_self ..))
  have h2:=DS fun d hd=>h d (List.mem_cons_of_mem _ hd)
  rw[List.map_cons,List.map_cons,List.sum_cons,List.length_cons]
  omega
theorem xu:∀(t:List (List Str)),((t.map (Txt.join ("":Str))).map (·.length)).sum=total t
 | []=>rfl
 | r :: t=>by
  rw[List.map_cons,List.map_cons,List.sum_cons,xu t,oG]
  unfold total lens
  rw[List.map_cons,List.sum_cons]
theorem wZ.P8 {K:W.Frag}{C CT CM:Addr}{H:Hp}{m l D:Addr}{vs:List V}{p q f:Str}{b1 b2 b3 b4:Bool}{ts:List (Str×Str)}{o:HO} (hD:H D=some (.lst vs)) (hl:l≠D) (hm:∃ dm y,H m=some (.ins CM dm (SY y l))) (h:wZ K C CT CM H m p q f b1 b2 b3 b4 ts):wZ K C CT CM (upd H D o) m p q f b1 b2 b3 b4 ts:=by
 obtain⟨dm,y,l',ys,e1,e2,e3,e4⟩:=h.ok
 obtain⟨dm',y',e0⟩:=hm
 rw[e1] at e0
 injection e0 with e0
 injection e0 with i1 i2 i3
 injection i3 with j1 j2
 injection j2 with j3 j4
 injection j3 with j5 j6
 injection j6 with j6
 subst j6
 refine⟨dm,y,l',ys,(aE (gW e1 hD (by intro z;cases z))).trans e1,Tn.off hD (fun d fs q=>by cases q) (fun d q=>by cases q) e2,(aE hl).trans e3,aH (fun v t h=>?_) e4⟩
 obtain⟨a,q1,q2⟩:=h
 exact⟨a,q1,vB hD q2⟩
abbrev qU (K:W.Frag) (C CT CM:Addr) (ts:List (Str×Str)) (l:Addr) (H:Hp):List V→List cN→Prop:=Paired fun v x=>∃ m,v=.ref m∧FA K C CT CM H m x ts∧∃ dm y,H m=some (.ins CM dm (SY y l))
theorem qU.mono {K:W.Frag}{C CT CM l:Addr}{ts:List (Str×Str)}{H H':Hp} (s:aD H H') {vs:List V}{cs:List cN} (h:qU K C CT CM ts l H vs cs):qU K C CT CM ts l H' vs cs:=aH (fun _ _ ⟨m,e,q,dm,y,z⟩=>⟨m,e,wZ.mono s q,dm,y,s _ _ z⟩) h
theorem qU.but {K:W.Frag}{C CT CM l D:Addr}{ts:List (Str×Str)}{H:Hp}{ws:List V}{o:HO} (hD:H D=some (.lst ws)) (hl:l≠D) {vs:List V}{cs:List cN} (h:qU K C CT CM ts l H vs cs):qU K C CT CM ts l (upd H D o) vs cs:=aH (fun _ _ ⟨m,e,q,dm,y,z⟩=>⟨m,e,wZ.P8 hD hl ⟨dm,y,z⟩ q,dm,y,(aE (gW z hD (by intro z;cases z))).trans z⟩) h
theorem qU.off {K:W.Frag}{C CT CM CP l q dq:Addr}{fs:List (Str×V)}{ts:List (Str×Str)}{H:Hp}{o:HO} (hq:H q=some (.ins CP dq fs)) (n0:∀ y l,fs≠SY y l) (n1:∀ d,fs≠W5 d) (n2:∀ p q f b1 b2 b3 b4,fs≠CI p q f b1 b2 b3 b4) {vs:List V}{cs:List cN} (h:qU K C CT CM ts l H vs cs):qU K C CT CM ts l (upd H q o) vs cs:=aH (fun _ _ ⟨m,e,r,dm,y,z⟩=>⟨m,e,wZ.off hq n0 n1 (n2 _ _ _ _ _ _ _) r,dm,y,(aE (fun t=>by rw[t,hq] at z;injection z with z;injection z with z1 z2 z3;exact n0 _ _ z3)).trans z⟩) h
theorem N5 {n:Str}{v:V}{r:List (Str×V)} (h:n = "marker"):(∀ y l,(n,v) :: r≠SY y l)∧(∀ d,(n,v) :: r≠W5 d)∧(∀ p q f b1 b2 b3 b4,(n,v) :: r≠CI p q f b1 b2 b3 b4):=by
 subst h
 refine⟨fun y l q=>?_,fun d q=>?_,fun p q f b1 b2 b3 b4 q=>?_⟩
 ·injection q with q1 q2;injection q1 with q3 q4;exact absurd q3 (by decide +kernel)
 ·injection q with q1 q2;injection q1 with q3 q4;exact absurd q3 (by decide +kernel)
 ·injection q with q1 q2;injection q1 with q3 q4;exact absurd q3 (by decide +kernel)
section
variable {M:Type} [DecidableEq M]
variable {good:M→Bool}{led:M→List (Nat×M)}{a:M}
abbrev gY (M:Type):=List (M×Option (M×Nat))
def eg (cm:gY M) (m:M):Bool:=cm.any fun e=>decide (e.1=m)
def dP (p:M) (acc:gY M×List M) (e:Nat×M):gY M×List M:=if eg acc.1 e.2=true then acc else (acc.1++[(e.2,some (p,e.1))],acc.2++[e.2])
def iC (led:M→List (Nat×M)) (acc:gY M×List M) (p:M):gY M×List M:=(led p).foldl (dP p) acc
def cJ (led:M→List (Nat×M)) (cm:gY M) (aN:List M):gY M×List M:=aN.foldl (iC led) (cm,[])
theorem FD {cm:gY M}{m:M}:eg cm m=true↔m∈cm.map (·.1):=by
 unfold eg
 rw[List.any_eq_true,List.mem_map]
 constructor
 ·rintro⟨e,he,q⟩;exact⟨e,he,of_decide_eq_true q⟩
 ·rintro⟨e,he,q⟩;exact⟨e,he,decide_eq_true q⟩
theorem N6 (p:M) (acc:gY M×List M) (e:Nat×M):(dP p acc e).1.length+acc.2.length=acc.1.length+(dP p acc e).2.length:=by
 unfold dP
 split
 ·rfl
 ·rw[List.length_append,List.length_append];show acc.1.length+1+_=_+(_+1);omega
theorem N7 {α:Type}{f:α→Bool}{l:List α}{i:Nat}{m:α} (hi:l[i]? = some m) (hg:f m=true) (hb:∀ m'∈l.take i,f m'=false):l.find? f=some m:=by
 have e:l=l.take i++m :: l.drop (i+1):=by
  obtain⟨h1,h2⟩:=List.getElem?_eq_some_iff.mp hi
  rw[←h2,←List.drop_eq_getElem_cons h1,List.take_append_drop]
 rw[e,List.find?_append,List.find?_eq_none.mpr (fun x hx=>by rw[hb x hx];decide),List.find?_cons,hg]
 rfl
theorem FE {α:Type}{f:α→Bool}{l:List α} (hb:∀ m'∈l,f m'=false):l.find? f=none:=List.find?_eq_none.mpr fun x hx=>by rw[hb x hx];decide
theorem sy {p:M}:∀(es:List (Nat×M)) (acc:gY M×List M),(es.foldl (dP p) acc).1.length+acc.2.length=acc.1.length+(es.foldl (dP p) acc).2.length
 | [],_=>rfl
 | e :: es,acc=>by
  have h1:=N6 p acc e
  have h2:=sy (p:=p) es (dP p acc e)
  rw[List.foldl_cons];omega
theorem jM {led:M→List (Nat×M)}:∀(ms:List M) (acc:gY M×List M),(ms.foldl (iC led) acc).1.length+acc.2.length=acc.1.length+(ms.foldl (iC led) acc).2.length
 | [],_=>rfl
 | m :: ms,acc=>by
  have h1:=sy (p:=m) (led m) acc
  have h2:=jM (led:=led) ms (iC led acc m)
  rw[List.foldl_cons]
  unfold iC at h2 ⊢
  omega
def Ao (cm:gY M) (m:M):Option (Option (M×Nat)):=(cm.find? fun e=>decide (e.1=m)).map (·.2)
inductive vE (cm:gY M):Option (M×Nat)→List Nat→Prop where
 | nil:vE cm none []
 | cons {m:M}{c:Nat}{x:Option (M×Nat)}{r:List Nat}:Ao cm m=some x→vE cm x r→vE cm (some (m,c)) (c :: r)
inductive WalkG (led:M→List (Nat×M)) (a:M):List Nat→M→Prop where
 | nil:WalkG led a [] a
 | snoc {xs:List Nat}{p q:M}{c:Nat}:WalkG led a xs p→(c,q)∈led p→WalkG led a (xs++[c]) q
theorem Aq {cm l:gY M}{m:M}{x:Option (M×Nat)} (h:Ao cm m=some x):Ao (cm++l) m=some x:=by
 unfold Ao at h ⊢
 rw[List.find?_append]
 cases e:cm.find? fun e=>decide (e.1=m) with
 | none=>rw[e] at h;cases h
 | some y=>rw[e] at h;exact h
theorem N8 {cm:gY M}{m:M}{x:Option (M×Nat)} (h:eg cm m=false):Ao (cm++[(m,x)]) m=some x:=by
 unfold Ao
 rw[List.find?_append,List.find?_eq_none.mpr,List.find?_cons,decide_eq_true rfl]
 ·rfl
 ·intro e he q
  have z:eg cm m=true:=List.any_eq_true.mpr ⟨e,he,q⟩
  rw[h] at z;cases z
theorem vE.app {cm l:gY M}{x:Option (M×Nat)}{xs:List Nat} (h:vE cm x xs):vE (cm++l) x xs:=by
 induction h with
 | nil=>exact .nil
 | cons e _ ih=>exact .cons (Aq e) ih
theorem qV {cm l:gY M}{m:M}:eg (cm++l) m=(eg cm m || eg l m):=List.any_append ..
theorem mH {m q:M}{x:Option (M×Nat)}:eg [(q,x)] m=true↔m=q:=by
 unfold eg
 rw[List.any_cons,List.any_nil,Bool.or_false]
 exact⟨fun h=>(of_decide_eq_true h).symm,fun h=>decide_eq_true h.symm⟩
def oH (led:M→List (Nat×M)) (a:M) (cm:gY M) (m:M) (n:Nat):Prop:=∃ x xs,Ao cm m=some x∧vE cm x xs∧WalkG led a xs.reverse m∧xs.length=n
theorem oH.app {led:M→List (Nat×M)}{a m:M}{cm l:gY M}{n:Nat} (h:oH led a cm m n):oH led a (cm++l) m n:=by
 obtain⟨x,xs,h1,h2,h3,h4⟩:=h
 exact⟨x,xs,Aq h1,h2.app,h3,h4⟩
structure xw (led:M→List (Nat×M)) (a:M) (cm:gY M) (k:Nat) (acc:gY M×List M):Prop where
 pre:∃ l,acc.1=cm++l
 told:∀ m,eg acc.1 m=true→∃ n,n≤k+1∧oH led a acc.1 m n
 new:∀ m∈acc.2,oH led a acc.1 m (k+1)∧eg acc.1 m=true
 old:∀ m,eg acc.1 m=true→eg cm m=true∨m∈acc.2
theorem xw.vis {cm:gY M}{k:Nat}{acc:gY M×List M}{p:M}{e:Nat×M} (h:xw led a cm k acc) (hp:oH led a acc.1 p k) (he:e∈led p):xw led a cm k (dP p acc e)∧eg (dP p acc e).1 e.2=true∧(∃ l,(dP p acc e).1=acc.1++l):=by
 unfold dP
 cases hh:eg acc.1 e.2 with
 | true=>rw[if_pos rfl];exact⟨h,hh,[],(List.append_nil _).symm⟩
 | false =>
  rw[if_neg (by decide)]
  obtain⟨x,xs,h1,h2,h3,h4⟩:=hp
  have hnew:oH led a (acc.1++[(e.2,some (p,e.1))]) e.2 (k+1):=by
   refine⟨some (p,e.1),e.1 :: xs,N8 hh,.cons (Aq h1) h2.app,?_,by rw[List.length_cons,h4]⟩
   rw[List.reverse_cons]
   exact .snoc h3 he
  have hhas:eg (acc.1++[(e.2,some (p,e.1))]) e.2=true:=by rw[qV,mH.mpr rfl,Bool.or_true]
  refine⟨⟨?_,fun m hm=>?_,fun m hm=>?_,fun m hm=>?_⟩,hhas,_,rfl⟩
  ·obtain⟨l,q⟩:=h.pre
   exact⟨l++[(e.2,some (p,e.1))],by show acc.1++_=_;rw[q,List.append_assoc]⟩
  ·have hm:eg (acc.1++[(e.2,some (p,e.1))]) m=true:=hm
   rw[qV,Bool.or_eq_true] at hm
   rcases hm with z | z
   ·obtain⟨n,hn,t⟩:=h.told m z
    exact⟨n,hn,t.app⟩
   ·rw[mH] at z;subst z
    exact⟨_,Nat.le_refl _,hnew⟩
  ·rcases List.mem_append.mp hm with z | z
   ·obtain⟨t,u⟩:=h.new m z
    exact⟨t.app,by show eg (acc.1++_) m=true;rw[qV,u];rfl⟩
   ·rw[List.mem_singleton.mp z];exact⟨hnew,hhas⟩
  ·have hm:eg (acc.1++[(e.2,some (p,e.1))]) m=true:=hm
   rw[qV,Bool.or_eq_true] at hm
   rcases hm with z | z
   ·rcases h.old m z with y | y
    ·exact .inl y
    ·exact .inr (List.mem_append_left _ y)
   ·rw[mH] at z;subst z
    exact .inr (List.mem_append_right _ (List.mem_singleton.mpr rfl))
theorem vF {cm l:gY M}{m:M} (h:eg cm m=true):eg (cm++l) m=true:=by rw[qV,h];rfl
theorem xw.W9 {cm:gY M}{k:Nat}{p:M}:∀{es:List (Nat×M)}{acc:gY M×List M},xw led a cm k acc→oH led a acc.1 p k→(∀ e∈es,e∈led p) →
  xw led a cm k (es.foldl (dP p) acc)∧(∀ e∈es,eg (es.foldl (dP p) acc).1 e.2=true)∧∃ l,(es.foldl (dP p) acc).1=acc.1++l
 | [],acc,h,_,_=>⟨h,(fun _ z=>nomatch z),[],(List.append_nil _).symm⟩
 | e :: es,acc,h,hp,he=>by
  obtain⟨h1,h2,l,h3⟩:=h.vis hp (he e (List.mem_cons_self ..))
  have hp1:oH led a (dP p acc e).1 p k:=by rw[h3];exact hp.app
  obtain⟨g1,g2,l',g3⟩:=xw.W9 h1 hp1 fun e' z=>he e' (List.mem_cons_of_mem _ z)
  rw[List.foldl_cons]
  refine⟨g1,fun e' z=>?_,l++l',by rw[g3,h3,List.append_assoc]⟩
  rcases List.mem_cons.mp z with y | y
  ·subst y;rw[g3];exact vF h2
  ·exact g2 e' y
theorem xw.Xa {cm:gY M}{k:Nat}:∀{ms:List M}{acc:gY M×List M},xw led a cm k acc→(∀ p∈ms,oH led a acc.1 p k) →
  xw led a cm k (ms.foldl (iC led) acc)∧(∀ p∈ms,∀ e∈led p,eg (ms.foldl (iC led) acc).1 e.2=true)∧∃ l,(ms.foldl (iC led) acc).1=acc.1++l
 | [],acc,h,_=>⟨h,(fun _ z=>nomatch z),[],(List.append_nil _).symm⟩
 | p :: ms,acc,h,hp=>by
  obtain⟨h1,h2,l,h3⟩:=h.W9 (p:=p) (es:=led p) (hp p (List.mem_cons_self ..)) fun e z=>z
  have h1:xw led a cm k (iC led acc p):=h1
  have h3:(iC led acc p).1=acc.1++l:=h3
  have h2:∀ e∈led p,eg (iC led acc p).1 e.2=true:=h2
  obtain⟨g1,g2,l',g3⟩:=xw.Xa h1 fun p' z=>by rw[h3];exact(hp p' (List.mem_cons_of_mem _ z)).app
  rw[List.foldl_cons]
  refine⟨g1,fun p' z e' ze=>?_,l++l',by rw[g3,h3,List.append_assoc]⟩
  rcases List.mem_cons.mp z with y | y
  ·subst y;rw[g3];exact vF (h2 e' ze)
  ·exact g2 p' y e' ze
structure xx (good:M→Bool) (led:M→List (Nat×M)) (a:M) (cm:gY M) (aN:List M) (k:Nat):Prop where
 told:∀ m,eg cm m=true→∃ n,n≤k∧oH led a cm m n
 edg:∀ m∈aN,oH led a cm m k∧eg cm m=true
 all:∀ ys m,WalkG led a ys m→ys.length≤k→eg cm m=true
 shut:∀ p,eg cm p=true→p∉aN→∀ e∈led p,eg cm e.2=true
 bad:∀ p,eg cm p=true→p∉aN→good p=false
 less:∀ ys m,WalkG led a ys m→ys.length < k→good m=false
theorem xx.go {cm:gY M}{aN:List M}{k:Nat} (h:xx good led a cm aN k) (hf:aN.find? good=none):xx good led a (cJ led cm aN).1 (cJ led cm aN).2 (k+1):=by
 have hm:xw led a cm k (cm,[]):=⟨⟨[],(List.append_nil _).symm⟩,fun m hm=>by obtain⟨n,hn,t⟩:=h.told m hm;exact⟨n,by omega,t⟩,(fun _ z=>nomatch z),fun m hm=>.inl hm⟩
 obtain⟨g1,g2,l,g3⟩:=hm.Xa (ms:=aN) fun p hp=>(h.edg p hp).1
 have hno:∀ m∈aN,good m=false:=fun m hm=>by
  have:=List.find?_eq_none.mp hf m hm
  cases e:good m with
  | true=>exact absurd e this
  | false=>rfl
 have hbad:∀ p,eg cm p=true→good p=false:=fun p hp=>by
  by_cases q:p∈aN
  ·exact hno p q
  ·exact h.bad p hp q
 have Rz:∀ p,eg cm p=true→∀ e∈led p,eg (cJ led cm aN).1 e.2=true:=fun p hp e he=>by
  by_cases q:p∈aN
  ·exact g2 p q e he
  ·unfold cJ;rw[g3];exact vF (h.shut p hp q e he)
 refine⟨g1.told,g1.new,fun ys m hw hl=>?_,fun p hp hq e he=>?_,fun p hp hq=>?_,fun ys m hw hl=>?_⟩
 ·cases hw with
  | nil=>unfold cJ;rw[g3];exact vF (h.all [] a .nil (Nat.zero_le _))
  | @snoc xs p q c hw1 he =>
   rw[List.length_append] at hl
   exact Rz p (h.all xs p hw1 (by simpa using hl)) _ he
 ·rcases g1.old p hp with z | z
  ·exact Rz p z e he
  ·exact absurd z hq
 ·rcases g1.old p hp with z | z
  ·exact hbad p z
  ·exact absurd z hq
 ·exact hbad m (h.all ys m hw (by omega))
theorem xx.zero:xx good led a [(a,none)] [a] 0:=by
 have hv:oH led a [(a,none)] a 0:=⟨none,[],by unfold Ao;rw[List.find?_cons,decide_eq_true rfl];rfl,.nil,.nil,rfl⟩
 have ha:eg [(a,none)] a=true:=mH.mpr rfl
 refine⟨fun m hm=>?_,fun m hm=>?_,fun ys m hw hl=>?_,fun p hp hq=>?_,fun p hp hq=>?_,fun ys m hw hl=>absurd hl (Nat.not_lt_zero _)⟩
 ·rw[mH.mp hm];exact⟨0,Nat.le_refl _,hv⟩
 ·rw[List.mem_singleton.mp hm];exact⟨hv,ha⟩
 ·cases hw with
  | nil=>exact ha
  | snoc _ _=>rw[List.length_append] at hl;simp at hl
 ·exact absurd (List.mem_singleton.mpr (mH.mp hp)) hq
 ·exact absurd (List.mem_singleton.mpr (mH.mp hp)) hq
end
section
variable {M:Type} [DecidableEq M] {good:M→Bool}{led:M→List (Nat×M)}{most:Option Nat}{a:M}
theorem Ql {p:M}{acc:gY M×List M}{e:Nat×M} (h:(acc.1.map (·.1)).Nodup):((dP p acc e).1.map (·.1)).Nodup:=by
 unfold dP
 by_cases q:eg acc.1 e.2=true
 ·rw[if_pos q];exact h
 ·rw[if_neg q,List.map_append,List.nodup_append]
  refine⟨h,by simp,fun x hx y hy z=>q (FD.mpr ?_)⟩
  rw[List.mem_singleton.mp hy] at z
  have z:x=e.2:=z
  rw[←z];exact hx
theorem FF {p:M}:∀{es:List (Nat×M)}{acc:gY M×List M},(acc.1.map (·.1)).Nodup→((es.foldl (dP p) acc).1.map (·.1)).Nodup
 | [],_,h=>h
 | e :: es,acc,h=>by rw[List.foldl_cons];exact FF (Ql h)
theorem FG:∀{ms:List M}{acc:gY M×List M},(acc.1.map (·.1)).Nodup→((ms.foldl (iC led) acc).1.map (·.1)).Nodup
 | [],_,h=>h
 | m :: ms,acc,h=>by rw[List.foldl_cons];exact FG (FF h)
inductive qC (good:M→Bool) (led:M→List (Nat×M)) (most:Option Nat):gY M→List M→Option M→gY M→Prop where
 | stop {cm:gY M}:qC good led most cm [] none cm
 | found {cm:gY M}{aN:List M}{m:M}:aN.find? good=some m→qC good led most cm aN (some m) cm
 | over {cm:gY M}{aN:List M}{n:Nat}:most=some n→aN≠[]→aN.find? good=none→n < cm.length→qC good led most cm aN none cm
 | go {cm Ar:gY M}{aN:List M}{r:Option M}:aN≠[]→aN.find? good=none→(∀ n,most=some n→cm.length≤n)→qC good led most (cJ led cm aN).1 (cJ led cm aN).2 r Ar→qC good led most cm aN r Ar
structure Qm (good:M→Bool) (led:M→List (Nat×M)) (most:Option Nat) (a:M) (r:Option M) (cm:gY M) (aN:List M) (k:Nat):Prop where
 fL:xx good led a cm aN k
 nd:(cm.map (·.1)).Nodup
 res:r=aN.find? good
 why:r=none→aN=[]∨∃ n,most=some n∧n < cm.length
 len:aN≠[]→k≤cm.length
 few:aN.length≤cm.length
end
theorem iJ {P:Program}{w:World}{K:W.Frag}{H:Hp}{m:dj}{b:Addr} (h:cI K H m (.ref b)):qm (YP P w K) H (aX m) b:=by
 obtain⟨b',s,u,vs,e1,e2,e3,e4,e5⟩:=h
 cases e1
 exact Nl e2 e3 e4 e5
def vG (K:W.Frag) (x:Option (dj×Nat)) (H:Hp) (v:V):Prop:=match x with
 | none=>v=.non
 | some (m,c)=>∃ t w,v=.ref t∧aY K H t [w,.str (sg c)]∧cI K H m w
abbrev tP (K:W.Frag) (H:Hp):List (N3 (Lf ⊕ List (Lf ⊕ List (Lf ⊕ List Lf))))→(gY dj)→Prop:=Paired fun e p=>e.1=aX p.1∧cI K H p.1 (.ref e.2.1)∧vG K p.2 H e.2.2
structure ji (P:Program) (w:World) (K:W.Frag) (H:Hp) (a:Addr) (cm:(gY dj)):Prop where
 ok:∃ kvs,Nd (YP P w K) (aS P w) H a kvs∧tP K H kvs cm
theorem vG.keep {K:W.Frag}{H H':Hp}{x:Option (dj×Nat)}{v:V} (t:∀ b xs,aY K H b xs→aY K H' b xs) (h:vG K x H v):vG K x H' v:=by
 cases x with
 | none=>exact h
 | some mc=>obtain⟨t1,w1,e1,e2,e3⟩:=h;exact⟨t1,w1,e1,t _ _ e2,e3.keep t⟩
theorem tP.keep {K:W.Frag}{H H':Hp} (t:∀ b xs,aY K H b xs→aY K H' b xs):∀{kvs:List (N3 (Lf ⊕ List (Lf ⊕ List (Lf ⊕ List Lf))))}{cm:(gY dj)},tP K H kvs cm→tP K H' kvs cm
 | _,_,.nil=>.nil
 | _,_,.cons a r=>.cons ⟨a.1,a.2.1.keep t,a.2.2.keep t⟩ (tP.keep t r)
theorem ji.mono {P:Program}{w:World}{K:W.Frag}{H H':Hp}{a:Addr}{cm:(gY dj)} (s:aD H H') (h:ji P w K H a cm):ji P w K H' a cm:=by
 obtain⟨kvs,d,r⟩:=h.ok
 exact⟨kvs,d.mono s,r.keep fun b xs q=>aB s q⟩
theorem ji.but {P:Program}{w:World}{K:W.Frag}{H:Hp}{a l:Addr}{cm:(gY dj)}{ws:List V}{o:HO} (hl:H l=some (.lst ws)) (h:ji P w K H a cm):ji P w K (upd H l o) a cm:=by
 obtain⟨kvs,d,r⟩:=h.ok
 have t:∀ b xs,aY K H b xs→aY K (upd H l o) b xs:=fun b xs q=>jN hl q
 exact⟨kvs,⟨(aE (gW d.ob hl (fun q=>nomatch q))).trans d.ob,fun e he=>(d.keys e he).keep t⟩,r.keep t⟩
theorem xy {K:W.Frag}{H:Hp}{m:dj}:∀{kvs:List (N3 (Lf ⊕ List (Lf ⊕ List (Lf ⊕ List Lf))))}{cm:(gY dj)},tP K H kvs cm→(valN kvs (aX m)).isSome=eg cm m
 | _,_,.nil=>rfl
 | e :: kvs,p :: cm,.cons a r=>by
  have ih:=xy (m:=m) r
  unfold valN eg at ih ⊢
  rw[List.find?_cons,List.any_cons,a.1]
  by_cases q:p.1=m
  ·rw[decide_eq_true q,decide_eq_true (by rw[q])];rfl
  ·rw[decide_eq_false q,decide_eq_false (fun z=>q (ux.mp z)),Bool.false_or];exact ih
theorem xA {K:W.Frag}{H:Hp}{kvs:List (N3 (Lf ⊕ List (Lf ⊕ List (Lf ⊕ List Lf))))}{cm:(gY dj)} (h:tP K H kvs cm):kvs.length=cm.length:=Paired.length h
theorem Nd.Xb {P:Program}{w:World}{K:W.Frag}{H:Hp}{a b:Addr}{k:List (Lf ⊕ List (Lf ⊕ List (Lf ⊕ List Lf)))}{v:V} (h:H a=some (dN (ZP P w) (aS P w) a [])) (e:qm (YP P w K) H k b):Nd (YP P w K) (aS P w) (upd H a (dN (ZP P w) (aS P w) a [(k,b,v)])) a [(k,b,v)]:=by
 refine⟨aj,fun p hp=>?_⟩
 rw[List.mem_singleton.mp hp]
 exact e.keep (pG h)
theorem ji.one {P:Program}{w:World}{K:W.Frag}{H:Hp}{a b:Addr}{m:dj} (h:H a=some (dN (ZP P w) (aS P w) a [])) (hm:cI K H m (.ref b)):ji P w K (upd H a (dN (ZP P w) (aS P w) a [(aX m,b,.non)])) a [(m,none)]:=by
 have e2:=iJ (P:=P) (w:=w) hm
 have t:=pG (F:=K) h (o:=dN (ZP P w) (aS P w) a [(aX m,b,.non)])
 exact⟨_,Nd.Xb h (e2),.cons ⟨rfl,hm.keep t,rfl⟩ .nil⟩
theorem ji.put {P:Program}{w:World}{K:W.Frag}{H:Hp}{a b:Addr}{m:dj}{cm:(gY dj)}{kvs:List (N3 (Lf ⊕ List (Lf ⊕ List (Lf ⊕ List Lf))))}{x:Option (dj×Nat)}{v:V} (d:Nd (YP P w K) (aS P w) H a kvs) (r:tP K H kvs cm) (hm:cI K H m (.ref b)) (hn:eg cm m=false) (hv:vG K x H v) :
  ji P w K (upd H a (dN (ZP P w) (aS P w) a (putN kvs (aX m) b v))) a (cm++[(m,x)]):=by
 have e2:=iJ (P:=P) (w:=w) hm
 have t:=pG (F:=K) d.ob (o:=dN (ZP P w) (aS P w) a (putN kvs (aX m) b v))
 refine⟨_,d.put (e2),?_⟩
 have q:=xy (m:=m) r
 rw[hn] at q
 have hv0:valN kvs (aX m)=none:=by
  cases z:valN kvs (aX m) with
  | none=>rfl
  | some y=>rw[z] at q;cases q
 rw[vg hv0]
 rw[vg hv0] at t
 exact bJ (r.keep t) (.cons ⟨rfl,hm.keep t,hv.keep t⟩ .nil)
theorem yJ.keep {K:W.Frag}{H H':Hp} (t1:∀ b xs,H b=some (.tup xs)→H' b=some (.tup xs)) (t:∀ b xs,aY K H b xs→aY K H' b xs):∀{vs:List V}{es:List (Nat×dj)},yJ K H vs es→yJ K H' vs es
 | _,_,.nil=>.nil
 | _,_,.cons ⟨x,w,e,h,q⟩ r=>.cons ⟨x,w,e,t1 _ _ h,q.keep t⟩ (yJ.keep t1 t r)
abbrev m7 (K:W.Frag) (H:Hp):List V→List dj→Prop:=Paired fun v m=>cI K H m v
theorem m7.keep {K:W.Frag}{H H':Hp} (t:∀ b xs,aY K H b xs→aY K H' b xs):∀{vs:List V}{ms:List dj},m7 K H vs ms→m7 K H' vs ms
 | _,_,.nil=>.nil
 | _,_,.cons a r=>.cons (a.keep t) (m7.keep t r)
theorem xB {K:W.Frag}{H:Hp}{m:dj}{x:Option (dj×Nat)}:∀{kvs:List (N3 (Lf ⊕ List (Lf ⊕ List (Lf ⊕ List Lf))))}{cm:(gY dj)},tP K H kvs cm→Ao cm m=some x→∃ v,valN kvs (aX m)=some v∧vG K x H v
 | _,_,.nil,h=>by cases h
 | e :: kvs,p :: cm,.cons a r,h=>by
  unfold Ao at h
  unfold valN
  rw[List.find?_cons] at h ⊢
  rw[a.1]
  by_cases q:p.1=m
  ·rw[decide_eq_true q] at h
   rw[decide_eq_true (by rw[q])]
   cases h
   exact⟨_,rfl,a.2.2⟩
  ·rw[decide_eq_false q] at h
   rw[decide_eq_false (fun z=>q (ux.mp z))]
   exact xB r h
def Xc (K:W.Frag) (x:Option dj) (H:Hp) (v:V):Prop:=match x with
 | none=>v=.non
 | some m=>cI K H m v
theorem N9 {x:cN}{cs:List cN}{ts:List (Str×Str)}{z:Str}{m:dj} (hm:m.2.length=cs.length) {e:Nat×dj} (he:e∈bZ x cs ts z m):e.2.2.length=cs.length:=by
 obtain⟨c,_,hc⟩:=List.mem_filterMap.mp he
 cases h:uA x ts m.1 c with
 | none=>rw[h] at hc;cases hc
 | some m'=>rw[h] at hc;cases hc;show(iR cs ts m.2 c).length=_;unfold iR;rw[List.length_map,List.length_zip,hm,Nat.min_self]
theorem Lb {x:cN}{cs:List cN}{ts:List (Str×Str)}{z:Str}{m:dj}:(bZ x cs ts z m).length≤z.length:=by
 unfold bZ
 refine Nat.le_trans (List.length_filterMap_le ..) ?_
 rw[Array.length_toList];exact Nat.le_refl _
theorem iK {K:W.Frag}{H:Hp}{m:dj}{v:V} (h:cI K H m v):∃ b,v=.ref b:=let ⟨b,_,_,_,e,_⟩:=h;⟨b,e⟩
theorem As {K:W.Frag}{H:Hp}:∀{kvs:List (N3 (Lf ⊕ List (Lf ⊕ List (Lf ⊕ List Lf))))}{cm:gY dj},tP K H kvs cm→m7 K H (kvs.map fun e=>V.ref e.2.1) (cm.map (·.1))
 | _,_,.nil=>.nil
 | _,_,.cons a r=>.cons a.2.1 (As r)
section
variable {M:Type} [DecidableEq M] {good:M→Bool}{led:M→List (Nat×M)}{n:Nat}{a:M}
theorem Oa {cm Ar:gY M}{aN:List M}{r:Option M} (h:qC good led (some n) cm aN r Ar):∀{k:Nat},xx good led a cm aN k→(cm.map (·.1)).Nodup→(aN≠[]→k≤cm.length)→aN.length≤cm.length→k≤n+1→∃ CZ k',Qm good led (some n) a r Ar CZ k'∧(CZ≠[]→k'≤n+1):=by
 generalize hmo:some n=most at h
 induction h with
 | stop=>intro k L nd hk hf hk2;exact⟨_,k,⟨L,nd,rfl,(fun _=>.inl rfl),hk,hf⟩,fun _=>hk2⟩
 | found hF=>intro k L nd hk hf hk2;exact⟨_,k,⟨L,nd,hF.symm,(fun z=>nomatch z),hk,hf⟩,fun _=>hk2⟩
 | @over cm aN n' hn _ hF hlt=>intro k L nd hk hf hk2;exact⟨_,k,⟨L,nd,hF.symm,(fun _=>.inr ⟨n',hn,hlt⟩),hk,hf⟩,fun _=>hk2⟩
 | @go cm Ar aN r hne hF hm hR ih =>
  intro k L nd hk hf hk2
  have q:=jM (led:=led) aN (cm,[])
  simp only[List.length_nil,Nat.add_zero] at q
  have h1:=hm n hmo.symm
  have h2:=hk hne
  refine ih (L.go hF) (FG nd) (fun z=>?_) (by unfold cJ;omega) (by omega)
  have:=List.length_pos_iff.mpr z
  unfold cJ at *
  omega
theorem Ob {cm:gY M}{r:Option M} (h:qC good led (some n) [(a,none)] [a] r cm):∃ aN k,Qm good led (some n) a r cm aN k∧(aN≠[]→k≤n+1):=Oa h xx.zero (by simp) (fun _=>Nat.zero_le _) (by simp) (Nat.zero_le _)
end
def Xd (K:W.Frag) (led:dj→List (Nat×dj)) (p0:dj) (n:Nat) (r:Option dj) (cm:gY dj) (k:Nat) (H0 H:Hp) (t:Addr):Prop:=match r with
 | some m=>∃ xs,H t=some (.tup [.str ("text":Str),.str (Txt.join ("":Str) (xs.map sg))])∧WalkG led p0 xs m∧xs.length=k∧k≤n+1
 | none=>(n < cm.length∧H t=some (.tup [.str ("open":Str)]))∨(cm.length≤n∧∃ l vs,H t=some (.tup [.str ("none":Str),.ref l])∧H0 l=none∧H l=some (.lst vs)∧m7 K H vs (cm.map (·.1)))
theorem Oc {cs:List cN}{t:List (List Str)} (gs:∀ c∈cs,uz c) (tok:TabOk t):(oE cs t).length≤7 * cs.length+402:=by
 have n1:(Str.ofString "\n").length=1:=by decide +kernel
 have n2:(" ":Str).length=1:=by decide +kernel
 have a0:=DS gs
 have j1:=oG (cs.map yK)
 have j2:=oG (t.map (Txt.join ("":Str)))
 have c1:=xu t
 have ts:=tok.sum
 unfold oE
 generalize Txt.join ("":Str) (cs.map yK)=S1 at j1 ⊢
 generalize Txt.join ("":Str) (t.map (Txt.join ("":Str)))=S2 at j2 ⊢
 have a1:=cy S1 (Str.ofString "\n")
 have a2:=cy (S1++Str.ofString "\n") (" ":Str)
 have a3:=cy ((S1++Str.ofString "\n")++Str.ofString " ") S2
 have m1:=CL (((S1++Str.ofString "\n")++Str.ofString " ")++S2)
 omega
theorem hq1 {A:Around}{P:Program}{w:World} (h:A.units+64 < cLine):A.units+1+(stepK (ZM P w)).fL < cLine:=by show A.units+1+2 < cLine;omega
theorem Qn {os:List (Option fT)}{m:fT}:Ia (os.map Bs) (.inr (jz m))=os.any fun o=>decide (o=some m):=by
 unfold Ia
 rw[List.any_map]
 congr 1
 funext o
 show decide (Bs o=.inr (jz m))=decide (o=some m)
 rw[Bool.eq_iff_iff,decide_eq_true_iff,decide_eq_true_iff]
 exact⟨fun h=>Fj (b:=some m) h,fun h=>by rw[h];rfl⟩
def Qo (x:cN) (ts:List (Str×Str)) (m:fT):Prop:=sR x.2.1 m.1.1 m.1.2∧m.2≤ts.length
def Xe (cs:List cN) (ts:List (Str×Str)) (os:List (Option fT)):Prop:=Paired (fun x o=>∀ m,o=some m→Qo x ts m) cs os
def uB (x:cN) (cs:List cN) (ts:List (Str×Str)) (m:dj) (c:Nat):Option dj:=(uA x ts m.1 c).map fun m'=>(m',iR cs ts m.2 c)
theorem RA (l:List Nat) (c:Nat):away ⟨l.toArray⟩ c=true↔c∉l:=by
 rw[qP]
theorem C0 {acc:List Nat}{c:Nat} (h:c∈acc):gG acc c=acc:=by
 unfold gG
 rw[if_neg]
 rw[RA]
 exact fun z=>z h
theorem Lc (l:List Nat):∀ acc:List Nat,(d9 l).foldl gG acc=l.foldl gG acc:=by
 suffices h:∀(r:List Nat) (acc:List Nat),(d9 r.reverse).foldl gG acc=r.reverse.foldl gG acc by
  intro acc;have:=h l.reverse acc;rwa [List.reverse_reverse] at this
 intro r
 induction r with
 | nil=>intro acc;rfl
 | cons c r ih =>
  intro acc
  rw[List.reverse_cons,mF,List.foldl_append]
  show _=gG (r.reverse.foldl gG acc) c
  by_cases hc:c∈d9 r.reverse
  ·rw[C0 hc,ih,C0]
   rw[←ih]
   exact(CN _ _).mpr (.inr hc)
  ·have e:gG (d9 r.reverse) c=d9 r.reverse++[c]:=by
    unfold gG
    rw[if_pos]
    rw[RA]
    exact hc
   rw[e,List.foldl_append,ih]
   rfl
theorem Od (a b c:List Nat):d9 (a++d9 b++c)=d9 (a++b++c):=by
 unfold d9
 rw[List.foldl_append,List.foldl_append,List.foldl_append,List.foldl_append]
 have:=Lc b (a.foldl gG [])
 unfold d9 at this
 rw[this]
theorem C3:∀(xs:List (List Nat)) (a c:List Nat),d9 (a++(xs.map d9).flatten++c)=d9 (a++xs.flatten++c)
 | [],_,_=>rfl
 | x :: xs,a,c=>by
  rw[List.map_cons,List.flatten_cons,List.flatten_cons,←List.append_assoc,List.append_assoc (a++d9 x),Od a x,←List.append_assoc,C3 xs (a++x) c,List.append_assoc a x]
theorem Oe {M:Type} [DecidableEq M] {good:M→Bool}{led:M→List (Nat×M)}{most:Option Nat}{cm c1:gY M}{aN:List M}{r1:Option M} (h:qC good led most cm aN r1 c1):∀{r2:Option M}{c2:gY M},qC good led most cm aN r2 c2→r1=r2∧c1=c2:=by
 induction h with
 | stop =>
  intro r2 c2 q
  cases q with
  | stop=>exact⟨rfl,rfl⟩
  | found h=>cases h
  | over _ h _ _=>exact absurd rfl h
  | go h _ _ _=>exact absurd rfl h
 | found hf =>
  intro r2 c2 q
  cases q with
  | stop=>cases hf
  | found h=>rw[hf] at h;cases h;exact⟨rfl,rfl⟩
  | over _ _ h _=>rw[hf] at h;cases h
  | go _ h _ _=>rw[hf] at h;cases h
 | over hn hne hf hlt =>
  intro r2 c2 q
  cases q with
  | stop=>exact absurd rfl hne
  | found h=>rw[hf] at h;cases h
  | over _ _ _ _=>exact⟨rfl,rfl⟩
  | go _ _ h _=>have:=h _ hn;omega
 | go hne hf hm _ ih =>
  intro r2 c2 q
  cases q with
  | stop=>exact absurd rfl hne
  | found h=>rw[hf] at h;cases h
  | over h _ _ h2=>have:=hm _ h;omega
  | go _ _ _ h=>exact ih h
def Xf (x:cN):Str:=(x.1++x.2.1)++x.2.2.1
theorem C4:∀(r:List Str),(dg r).cps.toList=(r.map fun z=>z.cps.toList).flatten
 | []=>r8
 | z :: r=>by show(z++dg r).cps.toList=_;rw[app_list,C4 r];rfl
theorem Qp (cs:List cN) (t:List (List Str)):tO ((dg (cs.map Xf)++Str.ofString "\n ")++dg (t.map dg))=oE cs t:=by
 unfold oE tO
 rw[pN,pN]
 have e2:t.map (Txt.join ("":Str))=t.map dg:=List.map_congr_left fun r _=>pN r
 rw[e2]
 have en:(Str.ofString "\n ").cps.toList=(Str.ofString "\n").cps.toList++(" ":Str).cps.toList:=by decide +kernel
 simp only[app_list,C4,en]
 have h:=C3 (cs.map fun c=>(Xf c).cps.toList) [] (((Str.ofString "\n").cps.toList++(" ":Str).cps.toList)++(List.map (fun z=>z.cps.toList) (List.map dg t)).flatten)
 rw[List.nil_append,List.nil_append] at h
 have e3:(cs.map fun c=>(Xf c).cps.toList).map d9=(cs.map yK).map fun z=>z.cps.toList:=by
  rw[List.map_map,List.map_map];exact List.map_congr_left fun c _=>rfl
 rw[e3] at h
 congr 2
 simp only[List.append_assoc,List.map_map] at h ⊢
 exact h.symm
section
variable {p q f:Str}{b1 b2 b3 b4:Bool}{ts:List (Str×Str)}
theorem Og {m m':fT}{c:Nat} (h:sR q m.1.1 m.1.2) (hn:m.2≤ts.length) (e:jL p q f b1 b2 b3 b4 ts m c=some m'):sR q m'.1.1 m'.1.2∧m'.2≤ts.length:=by
 obtain⟨k,hs,hl,hc⟩:=NZ e
 refine⟨pM h hs,?_⟩
 unfold qQ at hc
 by_cases hk:bz k ("skip":Str)=true
 ·rw[if_pos hk] at hc
  have e:m.2=m'.2:=Option.some.inj hc
  omega
 ·rw[if_neg hk] at hc
  by_cases ht:ts[m.2]? = some (k,if bz k ("put":Str)=true then sg c else Str.ofString "")
  ·rw[if_pos ht] at hc
   have e:m.2+1=m'.2:=Option.some.inj hc
   have hlt:=(List.getElem?_eq_some_iff.mp ht).1
   omega
  ·rw[if_neg ht] at hc;cases hc
end
theorem Qo.step {x:cN}{ts:List (Str×Str)}{m m':fT}{c:Nat} (h:Qo x ts m) (e:uA x ts m c=some m'):Qo x ts m':=Og h.1 h.2 e
theorem FH {ts:List (Str×Str)}{c:Nat}:∀{cs:List cN}{os:List (Option fT)},Xe cs ts os→Xe cs ts (iR cs ts os c)
 | _,_,.nil=>.nil
 | x :: cs,o :: os,.cons a r=>by
  refine .cons (fun m' e=>?_) (FH r)
  cases o with
  | none=>cases e
  | some m=>exact Qo.step (a m rfl) e
def Au (x:cN) (cs:List cN) (ts:List (Str×Str)) (m:dj):Prop:=Qo x ts m.1∧Xe cs ts m.2
theorem Au.step {x:cN}{cs:List cN}{ts:List (Str×Str)}{m m':dj}{c:Nat} (h:Au x cs ts m) (e:uB x cs ts m c=some m'):Au x cs ts m':=by
 unfold uB at e
 cases hM:uA x ts m.1 c with
 | none=>rw[hM] at e;cases e
 | some m1=>rw[hM] at e;cases e;exact⟨Qo.step h.1 hM,FH h.2⟩
theorem RB (x:cN) (ts:List (Str×Str)):Qo x ts stM:=⟨.inl ⟨rfl,.inl rfl⟩,Nat.zero_le _⟩
theorem C5 {ts:List (Str×Str)}:∀(cs:List cN),Xe cs ts (List.replicate cs.length (some stM))
 | []=>.nil
 | x :: cs=>.cons (fun m e=>by cases e;exact RB x ts) (C5 cs)
theorem Au.start (x:cN) (cs:List cN) (ts:List (Str×Str)):Au x cs ts (dO cs.length):=⟨RB x ts,C5 cs⟩
def vH (x:cN) (cs:List cN) (ts:List (Str×Str)) (l:List Nat) (m:dj):List (Nat×dj):=l.filterMap fun c=>(uA x ts m.1 c).map fun m'=>(c,(m',iR cs ts m.2 c))
theorem Ld {x:cN}{cs:List cN}{ts:List (Str×Str)}{l:List Nat}{m:dj}{c:Nat}:vH x cs ts (l++[c]) m=vH x cs ts l m++(match uB x cs ts m c with | none=>[] | some m'=>[(c,m')]):=by
 unfold vH uB
 rw[List.filterMap_append]
 congr 1
 cases h:uA x ts m.1 c with
 | none=>rw[List.filterMap_cons,h];rfl
 | some m'=>rw[List.filterMap_cons,h];rfl
abbrev qW (K:W.Frag) (H:Hp):List (N3 (Lf ⊕ List (Lf ⊕ List (Lf ⊕ List Lf))))→gY dj→Prop:=Paired fun e p=>e.1=aX p.1∧cI K H p.1 (.ref e.2.1)
structure pO (P:Program) (w:World) (K:W.Frag) (H:Hp) (a:Addr) (cm:gY dj):Prop where
 ok:∃ kvs,Nd (YP P w K) (aS P w) H a kvs∧qW K H kvs cm
theorem qW.keep {K:W.Frag}{H H':Hp} (t:∀ b xs,aY K H b xs→aY K H' b xs):∀{kvs:List (N3 (Lf ⊕ List (Lf ⊕ List (Lf ⊕ List Lf))))}{cm:gY dj},qW K H kvs cm→qW K H' kvs cm
 | _,_,.nil=>.nil
 | _,_,.cons a r=>.cons ⟨a.1,a.2.keep t⟩ (qW.keep t r)
theorem pO.mono {P:Program}{w:World}{K:W.Frag}{H H':Hp}{a:Addr}{cm:gY dj} (s:aD H H') (h:pO P w K H a cm):pO P w K H' a cm:=by
 obtain⟨kvs,d,r⟩:=h.ok
 exact⟨kvs,d.mono s,qW.keep (fun b xs q=>aB s q) r⟩
theorem pO.but {P:Program}{w:World}{K:W.Frag}{H:Hp}{a l:Addr}{cm:gY dj}{ws:List V}{o:HO} (hl:H l=some (.lst ws)) (h:pO P w K H a cm):pO P w K (upd H l o) a cm:=by
 obtain⟨kvs,d,r⟩:=h.ok
 have t:∀ b xs,aY K H b xs→aY K (upd H l o) b xs:=fun b xs q=>jN hl q
 exact⟨kvs,⟨(aE (gW d.ob hl (fun q=>nomatch q))).trans d.ob,fun e he=>(d.keys e he).keep t⟩,qW.keep t r⟩
theorem xC {K:W.Frag}{H:Hp}{m:dj}:∀{kvs:List (N3 (Lf ⊕ List (Lf ⊕ List (Lf ⊕ List Lf))))}{cm:gY dj},qW K H kvs cm→(valN kvs (aX m)).isSome=eg cm m
 | _,_,.nil=>rfl
 | e :: kvs,p :: cm,.cons a r=>by
  have ih:=xC (m:=m) r
  unfold valN eg at ih ⊢
  rw[List.find?_cons,List.any_cons,a.1]
  by_cases q:p.1=m
  ·rw[decide_eq_true q,decide_eq_true (by rw[q])];rfl
  ·rw[decide_eq_false q,decide_eq_false (fun z=>q (ux.mp z)),Bool.false_or];exact ih
theorem pO.put {P:Program}{w:World}{K:W.Frag}{H:Hp}{a b:Addr}{m:dj}{cm:gY dj}{kvs:List (N3 (Lf ⊕ List (Lf ⊕ List (Lf ⊕ List Lf))))}{x:Option (dj×Nat)}{v:V} (d:Nd (YP P w K) (aS P w) H a kvs) (r:qW K H kvs cm) (hm:cI K H m (.ref b)) (hn:eg cm m=false) :
  pO P w K (upd H a (dN (ZP P w) (aS P w) a (putN kvs (aX m) b v))) a (cm++[(m,x)]):=by
 have e2:=iJ (P:=P) (w:=w) hm
 have t:=pG (F:=K) d.ob (o:=dN (ZP P w) (aS P w) a (putN kvs (aX m) b v))
 refine⟨_,d.put (e2),?_⟩
 have q:=xC (m:=m) r
 rw[hn] at q
 have hv0:valN kvs (aX m)=none:=by
  cases z:valN kvs (aX m) with
  | none=>rfl
  | some y=>rw[z] at q;cases q
 rw[vg hv0]
 rw[vg hv0] at t
 exact bJ (qW.keep t r) (.cons ⟨rfl,hm.keep t⟩ .nil)
theorem pO.one {P:Program}{w:World}{K:W.Frag}{H:Hp}{a b:Addr}{m:dj}{v:V} (h:H a=some (dN (ZP P w) (aS P w) a [])) (hm:cI K H m (.ref b)):pO P w K (upd H a (dN (ZP P w) (aS P w) a [(aX m,b,v)])) a [(m,none)]:=by
 have e2:=iJ (P:=P) (w:=w) hm
 have t:=pG (F:=K) h (o:=dN (ZP P w) (aS P w) a [(aX m,b,v)])
 exact⟨_,Nd.Xb h (e2),.cons ⟨rfl,hm.keep t⟩ .nil⟩
def Oh (P:Program) (w:World) (K:W.Frag) (good:dj→Bool) (led:dj→List (Nat×dj)) (p0:dj) (n:Nat) (r:Option dj) (cm:gY dj) (k:Nat) (H:Hp) (wd:Str) (v:V):Prop:=match r with
 | some m=>wd=Str.ofString "text"∧v=.int k∧∃ aN,xx good led p0 cm aN k∧m∈aN∧good m=true
 | none=>(n < cm.length∧wd=Str.ofString "open"∧v=.int k)∨(cm.length≤n∧wd=Str.ofString "none"∧∃ a,v=.ref a∧pO P w K H a cm)
theorem Oi {x:cN}{cs:List cN}{ts:List (Str×Str)}{z:Str}{m:dj}{e:Nat×dj} (h:e∈bZ x cs ts z m):uB x cs ts m e.1=some e.2:=by
 obtain⟨c,_,hc⟩:=List.mem_filterMap.mp h
 unfold uB
 cases hM:uA x ts m.1 c with
 | none=>rw[hM] at hc;cases hc
 | some m'=>rw[hM] at hc;cases hc;rw[hM];rfl
theorem C6 {ts:List (Str×Str)}{c:Nat}{g:cN→Option fT}:∀(cs:List cN),iR cs ts (cs.map g) c=cs.map fun y=>CY y ts (g y) c
 | []=>rfl
 | y :: cs=>by
  have ih:=C6 (ts:=ts) (c:=c) (g:=g) cs
  unfold iR at ih ⊢
  rw[List.map_cons,List.zip_cons_cons,List.map_cons,List.map_cons,ih]
def Im (y:cN) (ts:List (Str×Str)) (xs:List Nat):Option fT:=Ke y.1 y.2.1 y.2.2.1 y.2.2.2.a y.2.2.2.b y.2.2.2.c y.2.2.2.d ts m0 xs
theorem C7 {y:cN}{ts:List (Str×Str)}{xs:List Nat}{c:Nat}:Im y ts (xs++[c])=CY y ts (Im y ts xs) c:=by unfold Im;rw[An];rfl
theorem RC {x:cN}{cs:List cN}{ts:List (Str×Str)}{z:Str}{xs:List Nat}{m:dj} (h:WalkG (bZ x cs ts z) (dO cs.length) xs m):Im x ts xs=some m.1∧m.2=cs.map fun y=>Im y ts xs:=by
 induction h with
 | nil =>
  refine⟨rfl,?_⟩
  show List.replicate cs.length (some stM)=_
  have e:(cs.map fun y=>Im y ts [])=cs.map fun _=>some stM:=List.map_congr_left fun y _=>rfl
  rw[e,List.map_const']
 | @snoc xs p q c _ he ih =>
  have hb:=Oi he
  unfold uB at hb
  rw[C7,ih.1]
  cases hM:uA x ts p.1 c with
  | none=>rw[hM] at hb;cases hb
  | some m' =>
   rw[hM] at hb
   have hb:some (m',iR cs ts p.2 c)=some q:=hb
   cases hb
   refine⟨hM,?_⟩
   show iR cs ts p.2 c=_
   rw[ih.2,C6]
   exact List.map_congr_left fun y _=>C7.symm
theorem Le {x:cN}{cs:List cN}{t:List (List Str)}{z:Str}{xs:List Nat}{m:dj} (tok:TabOk t) (h:WalkG (bZ x cs (aT t) z) (dO cs.length) xs m) (hg:cT (aT t) m=true):CU x cs t (Txt.join ("":Str) (xs.map sg))=true:=by
 obtain⟨h1,h2⟩:=RC h
 have hlo:∀ r∈t,1≤r.length:=fun r hr=>(tok.rows r hr).lo
 unfold cT at hg
 rw[Bool.and_eq_true] at hg
 have g1:=of_decide_eq_true hg.1
 unfold CU
 rw[Bool.and_eq_true]
 refine⟨?_,?_⟩
 ·rw[N2 hlo,Al]
  refine decide_eq_true ?_
  show Im x (aT t) xs=_
  rw[h1,g1];rfl
 ·have g2:=hg.2
  rw[h2,List.any_map] at g2
  rw[←g2]
  congr 2
  funext y
  rw[N2 hlo,Al]
  rfl
theorem S6 {M:Type} [DecidableEq M] {good:M→Bool}{led:M→List (Nat×M)}{a m m':M}{cm Ar:gY M}{aN CZ:List M}{k k':Nat} (h:xx good led a cm aN k) (hm:m∈aN) (hg:good m=true) (h':xx good led a Ar CZ k') (hm':m'∈CZ) (hg':good m'=true):k=k':=by
 obtain⟨⟨_,xs,_,_,w1,l1⟩,_⟩:=h.edg m hm
 obtain⟨⟨_,xs',_,_,w1',l1'⟩,_⟩:=h'.edg m' hm'
 rcases Nat.lt_trichotomy k k' with q | q | q
 ·have:=h'.less _ _ w1 (by rw[List.length_reverse];omega);rw[hg] at this;cases this
 ·exact q
 ·have:=h.less _ _ w1' (by rw[List.length_reverse];omega);rw[hg'] at this;cases this
def Xg (P:Program) (w:World) (K:W.Frag) (x:cN) (cs:List cN) (t:List (List Str)) (H:Hp) (tt:Addr) (wd:Str) (due:V):Prop :=
 (wd=Str.ofString "open"∧H tt=some (.tup [.str ("open":Str)])) ∨
 (wd=Str.ofString "text"∧∃ z k,H tt=some (.tup [.str ("text":Str),.str z])∧due=.int (k:Nat)∧CU x cs t z=true∧z.length=k∧z.length≤10000) ∨
 (wd=Str.ofString "none"∧∃ l a2 vs cm,H tt=some (.tup [.str ("none":Str),.ref l])∧due=.ref a2∧H l=some (.lst vs)∧m7 K H vs (cm.map (·.1))∧pO P w K H a2 cm∧∀ m∈cm.map (·.1),m.2.length=cs.length)
theorem hqp {A:Around}{P:Program}{w:World} (h:A.units+64 < cLine):A.units+1+(stepK (ZP P w)).fL < cLine:=by show A.units+1+4 < cLine;omega
theorem Qq {ms:List dj}{m:dj} (h:m∈ms):Ia (ms.map fun m=>(Sum.inr (aX m):Lf ⊕ List (Lf ⊕ List (Lf ⊕ List (Lf ⊕ List Lf))))) (.inr (aX m))=true:=by
 unfold Ia
 rw[List.any_eq_true]
 exact⟨_,List.mem_map.mpr ⟨m,h,rfl⟩,decide_eq_true rfl⟩
theorem Kg {P:Program}{w:World}{K:W.Frag}{H:Hp}:∀{vs:List V}{ms:List dj},m7 K H vs ms→Paired (fun k v=>(ve (YP P w K)).on H k v) (ms.map fun m=>(Sum.inr (aX m):Lf ⊕ List (Lf ⊕ List (Lf ⊕ List (Lf ⊕ List Lf))))) vs
 | _,_,.nil=>.nil
 | _,_,.cons a r=>by
  obtain⟨b,rfl⟩:=iK a
  exact .cons ⟨b,rfl,iJ a⟩ (Kg r)
theorem Oh.mono {P:Program}{w:World}{K:W.Frag}{good:dj→Bool}{led:dj→List (Nat×dj)}{p0:dj}{n:Nat}{r:Option dj}{cm:gY dj}{k:Nat}{H H':Hp}{wd:Str}{v:V} (s:aD H H') (h:Oh P w K good led p0 n r cm k H wd v):Oh P w K good led p0 n r cm k H' wd v:=by
 cases r with
 | some m=>exact h
 | none =>
  rcases h with h | ⟨h1,h2,a,h3,h4⟩
  ·exact .inl h
  ·exact .inr ⟨h1,h2,a,h3,h4.mono s⟩
theorem Oj {P:Program}{w:World}{K:W.Frag}{x:cN}{cs:List cN}{t:List (List Str)}{n k k':Nat}{r r':Option dj}{cm Ar:gY dj}{aN:List dj}{H0 H:Hp}{tt:Addr}{wd:Str}{v:V} (tok:TabOk t) (hn:n≤4000)
  (h1:qC (cT (aT t)) (bZ x cs (aT t) (oE (x :: cs) t)) (some n) [(dO cs.length,none)] [dO cs.length] r cm)
  (hE:Qm (cT (aT t)) (bZ x cs (aT t) (oE (x :: cs) t)) (some n) (dO cs.length) r cm aN k)
  (sv:Xd K (bZ x cs (aT t) (oE (x :: cs) t)) (dO cs.length) n r cm k H0 H tt)
  (h2:qC (cT (aT t)) (bZ x cs (aT t) (oE (x :: cs) t)) (some n) [(dO cs.length,none)] [dO cs.length] r' Ar)
  (lv:Oh P w K (cT (aT t)) (bZ x cs (aT t) (oE (x :: cs) t)) (dO cs.length) n r' Ar k' H wd v) :
  Xg P w K x cs t H tt wd v∧(wd=Str.ofString "none"→∃ l vs,H tt=some (.tup [.str ("none":Str),.ref l])∧H l=some (.lst vs)∧H0 l=none)∧∃ rest,H tt=some (.tup (.str wd :: rest)):=by
 obtain⟨rfl,rfl⟩:=Oe h1 h2
 cases r with
 | some m =>
  obtain⟨xs,lV,hw,hl,hk⟩:=sv
  obtain⟨rfl,rfl,CZ,hL,hm,hg⟩:=lv
  have hmem:=List.mem_of_find?_eq_some hE.res.symm
  have e:=S6 hE.fL hmem hg hL hm hg
  have ez:(Txt.join ("":Str) (xs.map sg)).length=xs.length:=by
   have:=congrArg List.length (Al xs)
   rw[Array.length_toList] at this
   exact this
  refine⟨.inr (.inl ⟨rfl,_,k',lV,rfl,Le tok hw hg,by omega,by omega⟩),fun q=>?_,_,lV⟩
  exact absurd q (by decide +kernel)
 | none =>
  rcases sv with ⟨s1,lV⟩ | ⟨s1,l,vs,lV,Ac,hl,em⟩
  ·rcases lv with ⟨l1,rfl,rfl⟩ | ⟨l1,rfl,a,rfl,ka⟩
   ·exact⟨.inl ⟨rfl,lV⟩,(fun q=>absurd q (by decide +kernel)),_,lV⟩
   ·omega
  ·rcases lv with ⟨l1,rfl,rfl⟩ | ⟨l1,rfl,a,rfl,ka⟩
   ·omega
   ·exact⟨.inr (.inr ⟨rfl,l,a,vs,cm,lV,rfl,hl,em,ka,fun m hm=>by
     obtain⟨_,_,_,_,_,_,hw,_⟩:=hE.fL.told m (FD.mpr hm)
     rw[(RC hw).2,List.length_map]⟩),fun _=>⟨l,vs,lV,hl,Ac⟩,_,lV⟩
theorem Lg {K:W.Frag}{H:Hp}{a b:Addr}{xs:List V} (ha:H a=some (.lst xs)) (hb:H b=some (.lst xs)) (hx:∀ v∈xs,∃ c,v=.ref c):TopC K H (.ref a) (.ref b) true:=by
 have:=TopC.lst (K:=K) (H:=H) (n:=0) (a:=a) (b:=b) (e:=fun _=>true) (by omega) (aU.of ha) (aU.of hb) rfl (fun j x y e1 e2=>by
  rw[e1] at e2;cases e2
  obtain⟨c,rfl⟩:=hx x (List.mem_of_getElem? e1)
  exact .same)
 rw[show(List.range xs.length).all (fun _=>true)=true from List.all_eq_true.mpr fun _ _=>rfl] at this
 exact this
theorem Xh {t:List (List Str)} (h:TabOk t) (hl:cells t+total t≤18):(aT t).length≤24:=by rw[Qh h.rows];omega
theorem qp:aF ["sign", "number"] ["sign"] (av fh):=⟨rfl,rfl,rfl,by decide +kernel,rfl,by decide +kernel,by decide +kernel⟩
theorem uC:aF ["text"] ["text"] (av cP):=⟨rfl,rfl,rfl,by decide +kernel,rfl,by decide +kernel,by decide +kernel⟩
theorem sU:aF ["thing", "least", "most"] ["thing", "least", "most"] (av cG):=⟨rfl,rfl,rfl,by decide +kernel,rfl,by decide +kernel,by decide +kernel⟩
theorem kZ:aF ["self", "parts", "quotes", "frees", "twin", "wide", "thin", "stray", "truth"] ["self", "parts", "quotes", "frees", "twin", "wide", "thin", "stray"] (av bI):=⟨rfl,rfl,rfl,by decide +kernel,rfl,by decide +kernel,by decide +kernel⟩
theorem yL:aF ["self"] ["self"] (av gC):=⟨rfl,rfl,rfl,by decide +kernel,rfl,by decide +kernel,by decide +kernel⟩
theorem Bu:aF ["told"] ["told"] (av jc):=⟨rfl,rfl,rfl,by decide +kernel,rfl,by decide +kernel,by decide +kernel⟩
theorem qX:aF ["dialect", "state", "sign"] ["dialect", "state", "sign"] (av cV):=⟨rfl,rfl,rfl,by decide +kernel,rfl,by decide +kernel,by decide +kernel⟩
theorem xD:aF ["dialect", "sign"] ["dialect", "sign"] (av fX):=⟨rfl,rfl,rfl,by decide +kernel,rfl,by decide +kernel,by decide +kernel⟩
theorem Av:aF ["dialect", "quote", "sign"] ["dialect", "quote", "sign"] (av ic):=⟨rfl,rfl,rfl,by decide +kernel,rfl,by decide +kernel,by decide +kernel⟩
theorem Aw:aF ["dialect", "sign"] ["dialect", "sign"] (av ie):=⟨rfl,rfl,rfl,by decide +kernel,rfl,by decide +kernel,by decide +kernel⟩
theorem xE:aF ["dialect", "quote", "sign"] ["dialect", "quote", "sign"] (av fY):=⟨rfl,rfl,rfl,by decide +kernel,rfl,by decide +kernel,by decide +kernel⟩
theorem Bv:aF ["dialect", "quote", "sign"] ["dialect", "quote", "sign"] (av jd):=⟨rfl,rfl,rfl,by decide +kernel,rfl,by decide +kernel,by decide +kernel⟩
theorem xF:aF ["self", "dialect"] ["self", "dialect"] (av fZ):=⟨rfl,rfl,rfl,by decide +kernel,rfl,by decide +kernel,by decide +kernel⟩
theorem pP:aF ["self", "state", "sign", "word", "quote"] ["self", "state", "sign"] (av j9):=⟨rfl,rfl,rfl,by decide +kernel,rfl,by decide +kernel,by decide +kernel⟩
theorem zH:aF ["text", "found", "sign"] ["text"] (av Ae):=⟨rfl,rfl,rfl,by decide +kernel,rfl,by decide +kernel,by decide +kernel⟩
theorem uD:aF ["self"] ["self"] (av dZ):=⟨rfl,rfl,rfl,by decide +kernel,rfl,by decide +kernel,by decide +kernel⟩
theorem Io:aF ["dialect", "state"] ["dialect", "state"] (av oi):=⟨rfl,rfl,rfl,by decide +kernel,rfl,by decide +kernel,by decide +kernel⟩
theorem nh:aF ["self", "state", "sign", "step"] ["self", "state", "sign"] (av fj):=⟨rfl,rfl,rfl,by decide +kernel,rfl,by decide +kernel,by decide +kernel⟩
theorem qq:aF ["tokens", "count", "kind", "sign", "token"] ["tokens", "count", "kind", "sign"] (av gD):=⟨rfl,rfl,rfl,by decide +kernel,rfl,by decide +kernel,by decide +kernel⟩
theorem uF:aF ["self", "dialect", "tokens"] ["self", "dialect", "tokens"] (av d7):=⟨rfl,rfl,rfl,by decide +kernel,rfl,by decide +kernel,by decide +kernel⟩
theorem cB:aF ["self", "mark", "sign", "step", "count"] ["self", "mark", "sign"] (av cL):=⟨rfl,rfl,rfl,by decide +kernel,rfl,by decide +kernel,by decide +kernel⟩
theorem pQ:aF ["self", "mark"] ["self", "mark"] (av cA):=⟨rfl,rfl,rfl,by decide +kernel,rfl,by decide +kernel,by decide +kernel⟩
theorem Ip:aF ["thing"] ["thing"] (av oj):=⟨rfl,rfl,rfl,by decide +kernel,rfl,by decide +kernel,by decide +kernel⟩
theorem Lh:aF ["thing"] ["thing"] (av om):=⟨rfl,rfl,rfl,by decide +kernel,rfl,by decide +kernel,by decide +kernel⟩
theorem yM:aF ["row"] ["row"] (av fk):=⟨rfl,rfl,rfl,by decide +kernel,rfl,by decide +kernel,by decide +kernel⟩
theorem FI:aF ["thing"] ["thing"] (av iP):=⟨rfl,rfl,rfl,by decide +kernel,rfl,by decide +kernel,by decide +kernel⟩
theorem Ax:aF ["thing"] ["thing"] (av ig):=⟨rfl,rfl,rfl,by decide +kernel,rfl,by decide +kernel,by decide +kernel⟩
theorem gS:aF ["row", "tokens", "place", "cell"] ["row"] (av dR):=⟨rfl,rfl,rfl,by decide +kernel,rfl,by decide +kernel,by decide +kernel⟩
theorem pR:aF ["table", "tokens", "row"] ["table"] (av kc):=⟨rfl,rfl,rfl,by decide +kernel,rfl,by decide +kernel,by decide +kernel⟩
theorem FJ:aF ["thing", "least", "most"] ["thing", "least", "most"] (av mj):=⟨rfl,rfl,rfl,by decide +kernel,rfl,by decide +kernel,by decide +kernel⟩
theorem Ay:aF ["others"] ["others"] (av gh):=⟨rfl,rfl,rfl,by decide +kernel,rfl,by decide +kernel,by decide +kernel⟩
theorem g9:aF ["dialect", "table", "others", "special", "cells"] ["dialect", "table", "others"] (av bV):=⟨rfl,rfl,rfl,by decide +kernel,rfl,by decide +kernel,by decide +kernel⟩
theorem mJ:aF ["self", "dialect", "table", "others", "tokens"] ["self", "dialect", "table", "others"] (av cQ):=⟨rfl,rfl,rfl,by decide +kernel,rfl,by decide +kernel,by decide +kernel⟩
theorem f7:aF ["self", "place", "found", "sign", "mark", "marks"] ["self", "place"] (av fm):=⟨rfl,rfl,rfl,by decide +kernel,rfl,by decide +kernel,by decide +kernel⟩
theorem vI:aF ["self", "place"] ["self", "place"] (av di):=⟨rfl,rfl,rfl,by decide +kernel,rfl,by decide +kernel,by decide +kernel⟩
theorem Az:aF ["table", "others", "most"] ["table", "others", "most"] (av iw):=⟨rfl,rfl,rfl,by decide +kernel,rfl,by decide +kernel,by decide +kernel⟩
theorem i0:aF ["first", "searched", "most", "came", "edge", "place", "farther", "lead"] ["first", "searched", "most"] (av kg):=⟨rfl,rfl,rfl,by decide +kernel,rfl,by decide +kernel,by decide +kernel⟩
theorem pS:aF ["came", "place", "signs", "link"] ["came", "place"] (av oq):=⟨rfl,rfl,rfl,by decide +kernel,rfl,by decide +kernel,by decide +kernel⟩
theorem DT:aF ["dialect", "table", "others", "most", "found", "came"] ["dialect", "table", "others", "most"] (av Af):=⟨rfl,rfl,rfl,by decide +kernel,rfl,by decide +kernel,by decide +kernel⟩
theorem yN:aF ["_law_script", "_law_k"] ["_law_script", "_law_k"] (av gE):=⟨rfl,rfl,rfl,by decide +kernel,rfl,by decide +kernel,by decide +kernel⟩
theorem nS:aF ["_law_number_here", "_law_salt", "_law_one", "_law_two"] ["_law_number_here", "_law_salt"] (av je):=⟨rfl,rfl,rfl,by decide +kernel,rfl,by decide +kernel,by decide +kernel⟩
theorem mK:aF ["_law_cell", "_law_salt", "_law_number_here", "_law_high"] ["_law_cell", "_law_salt"] (av iy):=⟨rfl,rfl,rfl,by decide +kernel,rfl,by decide +kernel,by decide +kernel⟩
theorem gT:aF ["_law_number_here", "_law_many", "_law_menu", "_law_found", "_law_k", "_law_sign"] ["_law_number_here", "_law_many", "_law_menu"] (av kh):=⟨rfl,rfl,rfl,by decide +kernel,rfl,by decide +kernel,by decide +kernel⟩
theorem tQ:aF ["_law_way", "_law_every"] ["_law_way"] (av jf):=⟨rfl,rfl,rfl,by decide +kernel,rfl,by decide +kernel,by decide +kernel⟩
theorem bR:aF ["_law_cell", "_law_number_here", "_law_flags", "_law_sizes", "_law_menus_here", "_law_parts", "_law_quotes", "_law_frees", "_law_truths"] ["_law_cell"] (av ki):=⟨rfl,rfl,rfl,by decide +kernel,rfl,by decide +kernel,by decide +kernel⟩
theorem DU:aF ["_law_told_here"] ["_law_told_here"] (av kj):=⟨rfl,rfl,rfl,by decide +kernel,rfl,by decide +kernel,by decide +kernel⟩
theorem er:aF ["_law_told_here", "_law_state", "_law_sign", "_law_parts", "_law_quotes", "_law_frees", "_law_twin", "_law_wide", "_law_thin", "_law_stray"] ["_law_told_here", "_law_state", "_law_sign"] (av ko):=⟨rfl,rfl,rfl,by decide +kernel,rfl,by decide +kernel,by decide +kernel⟩
theorem cK:aF ["_law_told_here", "_law_state", "_law_sign", "_law_parts", "_law_quotes", "_law_frees", "_law_twin", "_law_wide", "_law_thin", "_law_stray", "_law_word", "_law_quote"] ["_law_told_here", "_law_state", "_law_sign"] (av kr):=⟨rfl,rfl,rfl,by decide +kernel,rfl,by decide +kernel,by decide +kernel⟩
theorem pT:aF ["_law_told_here", "_law_number_here", "_law_some_here", "_law_way"] ["_law_told_here", "_law_number_here"] (av ku):=⟨rfl,rfl,rfl,by decide +kernel,rfl,by decide +kernel,by decide +kernel⟩
theorem jj:aF ["_law_script", "_law_told_here", "_law_first", "_law_many", "_law_found", "_law_k", "_law_number_here"] ["_law_script", "_law_told_here", "_law_first", "_law_many"] (av iz):=⟨rfl,rfl,rfl,by decide +kernel,rfl,by decide +kernel,by decide +kernel⟩
theorem iD:aF ["_law_tolds", "_law_table_here", "_law_some_here", "_law_found", "_law_sign"] ["_law_tolds", "_law_table_here"] (av fO):=⟨rfl,rfl,rfl,by decide +kernel,rfl,by decide +kernel,by decide +kernel⟩
theorem bh:aF ["_law_cell", "_law_tolds", "_law_number_here", "_law_signs_here", "_law_rows", "_law_cells", "_law_table_here", "_law_r", "_law_row", "_law_c", "_law_size", "_law_text", "_law_k"] ["_law_cell", "_law_tolds"] (av jg):=⟨rfl,rfl,rfl,by decide +kernel,rfl,by decide +kernel,by decide +kernel⟩
theorem gH:aF ["_law_table_here", "_law_found", "_law_row", "_law_k", "_law_sign"] ["_law_table_here"] (av iA):=⟨rfl,rfl,rfl,by decide +kernel,rfl,by decide +kernel,by decide +kernel⟩
theorem ni:aF ["_law_told_here", "_law_tokens_here", "_law_mark", "_law_sign", "_law_kind", "_law_spot", "_law_token"] ["_law_told_here", "_law_tokens_here", "_law_mark", "_law_sign"] (av mq):=⟨rfl,rfl,rfl,by decide +kernel,rfl,by decide +kernel,by decide +kernel⟩
theorem fu:aF ["_law_tolds", "_law_tokens_here", "_law_place", "_law_sign", "_law_here", "_law_marks", "_law_told_here", "_law_mark"] ["_law_tolds", "_law_tokens_here", "_law_place", "_law_sign"] (av iB):=⟨rfl,rfl,rfl,by decide +kernel,rfl,by decide +kernel,by decide +kernel⟩
theorem vJ:aF ["_law_tokens_here", "_law_place", "_law_done"] ["_law_tokens_here", "_law_place"] (av kB):=⟨rfl,rfl,rfl,by decide +kernel,rfl,by decide +kernel,by decide +kernel⟩
theorem Bw:aF ["_law_tolds"] ["_law_tolds"] (av gP):=⟨rfl,rfl,rfl,by decide +kernel,rfl,by decide +kernel,by decide +kernel⟩
theorem bE:aF ["_law_tolds", "_law_table_here", "_law_most", "_law_tokens_here", "_law_signs_here", "_law_level", "_law_known", "_law_size", "_law_ahead", "_law_place", "_law_sign", "_law_there"] ["_law_tolds", "_law_table_here", "_law_most"] (av gi):=⟨rfl,rfl,rfl,by decide +kernel,rfl,by decide +kernel,by decide +kernel⟩
theorem iE:aF ["_law_told_here", "_law_text", "_law_table_here", "_law_tokens_here", "_law_mark", "_law_sign"] ["_law_told_here", "_law_text", "_law_table_here"] (av jh):=⟨rfl,rfl,rfl,by decide +kernel,rfl,by decide +kernel,by decide +kernel⟩
theorem vK:aF ["_law_tolds", "_law_text", "_law_table_here", "_law_told_here"] ["_law_tolds", "_law_text", "_law_table_here"] (av kC):=⟨rfl,rfl,rfl,by decide +kernel,rfl,by decide +kernel,by decide +kernel⟩
theorem DV:aF ["_law_table_here"] ["_law_table_here"] (av iW):=⟨rfl,rfl,rfl,by decide +kernel,rfl,by decide +kernel,by decide +kernel⟩
theorem jO:aF ["_law_found", "_law_tolds", "_law_table_here", "_law_word", "_law_due", "_law_place"] ["_law_found", "_law_tolds", "_law_table_here", "_law_word", "_law_due"] (av gQ):=⟨rfl,rfl,rfl,by decide +kernel,rfl,by decide +kernel,by decide +kernel⟩
theorem mL:aF ["_law_script", "_law_told_here", "_law_tolds", "_law_table_here", "_law_most", "_law_word", "_law_due", "_law_made_here", "_law_beside", "_law_handed", "_law_found"] ["_law_script"] (av vm):=⟨rfl,rfl,rfl,by decide +kernel,rfl,by decide +kernel,by decide +kernel⟩
structure Txt (K:W.Frag) (mg:Str→Option Value) (aA:Nat→Addr) (aM:Nat→FuncData) (Bx:Nat→Str):Prop where
 mO:fW K "is_printable" "is_printable" fh (aA 0) (aM 0)
 qY:Binds K (aM 0) ["sign"] []
 qZ:mg "is_printable" = some (.ref (aA 0))
 nj:fW K "has_signs_alone" "has_signs_alone" cP (aA 1) (aM 1)
 vL:Binds K (aM 1) ["text"] []
 vM:mg "has_signs_alone" = some (.ref (aA 1))
 fQ:fW K "are_unlike_signs" "are_unlike_signs" cG (aA 2) (aM 2)
 iS:Binds K (aM 2) ["thing", "least", "most"] []
 iT:mg "are_unlike_signs" = some (.ref (aA 2))
 uG:MR K "__init__" "Dialect.__init__" bI (aA 3) (aM 3) (.ref (aA 79))
 mP:Binds K (aM 3) ["self", "parts", "quotes", "frees", "twin", "wide", "thin", "stray"] []
 AA:fW K "told" "Dialect.told" gC (aA 4) (aM 4)
 AB:Binds K (aM 4) ["self"] []
 AD:Meth K (aA 64) "told" (aA 4)
 vN:fW K "dialect_of" "dialect_of" jc (aA 5) (aM 5)
 DW:Binds K (aM 5) ["told"] []
 DX:mg "dialect_of" = some (.ref (aA 5))
 lg:fW K "step_at_beginning" "step_at_beginning" cV (aA 6) (aM 6)
 sV:Binds K (aM 6) ["dialect", "state", "sign"] []
 sW:mg "step_at_beginning" = some (.ref (aA 6))
 qs:fW K "step_in_plain" "step_in_plain" fX (aA 7) (aM 7)
 yO:Binds K (aM 7) ["dialect", "sign"] []
 yP:mg "step_in_plain" = some (.ref (aA 7))
 tR:fW K "step_within" "step_within" ic (aA 8) (aM 8)
 By:Binds K (aM 8) ["dialect", "quote", "sign"] []
 BA:mg "step_within" = some (.ref (aA 8))
 nT:fW K "step_behind" "step_behind" ie (aA 9) (aM 9)
 tS:Binds K (aM 9) ["dialect", "sign"] []
 tT:mg "step_behind" = some (.ref (aA 9))
 qt:fW K "step_in_doubt" "step_in_doubt" fY (aA 10) (aM 10)
 yQ:Binds K (aM 10) ["dialect", "quote", "sign"] []
 yR:mg "step_in_doubt" = some (.ref (aA 10))
 vO:fW K "step_freed" "step_freed" jd (aA 11) (aM 11)
 DY:Binds K (aM 11) ["dialect", "quote", "sign"] []
 DZ:mg "step_freed" = some (.ref (aA 11))
 yS:fW K "__init__" "Turn.__init__" fZ (aA 12) (aM 12)
 yT:Binds K (aM 12) ["self", "dialect"] []
 FL:fW K "step" "Turn.step" j9 (aA 13) (aM 13)
 FP:Binds K (aM 13) ["self", "state", "sign"] []
 FQ:Meth K (aA 65) "step" (aA 13)
 Iq:fW K "once" "once" Ae (aA 14) (aM 14)
 Ol:Binds K (aM 14) ["text"] []
 Om:mg "once" = some (.ref (aA 14))
 vP:fW K "special" "Dialect.special" dZ (aA 15) (aM 15)
 vQ:Binds K (aM 15) ["self"] []
 vR:Meth K (aA 64) "special" (aA 15)
 C8:fW K "is_live" "is_live" oi (aA 16) (aM 16)
 Li:Binds K (aM 16) ["dialect", "state"] []
 Lj:mg "is_live" = some (.ref (aA 16))
 xG:fW K "live_step" "Turn.live_step" fj (aA 17) (aM 17)
 oJ:Binds K (aM 17) ["self", "state", "sign"] []
 oK:Meth K (aA 65) "live_step" (aA 17)
 mQ:fW K "count_behind" "count_behind" gD (aA 18) (aM 18)
 rj:Binds K (aM 18) ["tokens", "count", "kind", "sign"] []
 rm:mg "count_behind" = some (.ref (aA 18))
 vS:fW K "__init__" "Marker.__init__" d7 (aA 19) (aM 19)
 nk:Binds K (aM 19) ["self", "dialect", "tokens"] []
 rq:fW K "mark_behind" "Marker.mark_behind" cL (aA 20) (aM 20)
 kG:Binds K (aM 20) ["self", "mark", "sign"] []
 kH:Meth K (aA 66) "mark_behind" (aA 20)
 qD:fW K "has_read_all" "Marker.has_read_all" cA (aA 21) (aM 21)
 jB:Binds K (aM 21) ["self", "mark"] []
 jC:Meth K (aA 66) "has_read_all" (aA 21)
 C9:fW K "is_cell" "is_cell" oj (aA 22) (aM 22)
 Lk:Binds K (aM 22) ["thing"] []
 Ll:mg "is_cell" = some (.ref (aA 22))
 FT:fW K "is_row" "is_row" om (aA 23) (aM 23)
 Oo:Binds K (aM 23) ["thing"] []
 Oq:mg "is_row" = some (.ref (aA 23))
 rz:fW K "signs_in_row" "signs_in_row" fk (aA 24) (aM 24)
 AE:Binds K (aM 24) ["row"] []
 AF:mg "signs_in_row" = some (.ref (aA 24))
 AG:fW K "is_table" "is_table" iP (aA 25) (aM 25)
 Ir:Binds K (aM 25) ["thing"] []
 Iu:mg "is_table" = some (.ref (aA 25))
 tU:fW K "check_table" "check_table" ig (aA 26) (aM 26)
 BB:Binds K (aM 26) ["thing"] []
 BC:mg "check_table" = some (.ref (aA 26))
 qu:fW K "tokens_of_row" "tokens_of_row" dR (aA 27) (aM 27)
 yU:Binds K (aM 27) ["row"] []
 yV:mg "tokens_of_row" = some (.ref (aA 27))
 rA:fW K "tokens_of" "tokens_of" kc (aA 28) (aM 28)
 yg:Binds K (aM 28) ["table"] []
 yh:mg "tokens_of" = some (.ref (aA 28))
 Iv:fW K "__init__" "TooMany.__init__" fN (aA 29) (aM 29)
 Iw:Binds K (aM 29) ["self", "most"] []
 AH:fW K "is_whole" "is_whole" mj (aA 30) (aM 30)
 Iz:Binds K (aM 30) ["thing", "least", "most"] []
 IA:mg "is_whole" = some (.ref (aA 30))
 tV:fW K "first_place" "first_place" gh (aA 31) (aM 31)
 BD:Binds K (aM 31) ["others"] []
 BE:mg "first_place" = some (.ref (aA 31))
 mR:fW K "signs_that_count" "signs_that_count" bV (aA 32) (aM 32)
 uH:Binds K (aM 32) ["dialect", "table", "others"] []
 uI:mg "signs_that_count" = some (.ref (aA 32))
 vU:fW K "__init__" "Places.__init__" cQ (aA 33) (aM 33)
 vV:Binds K (aM 33) ["self", "dialect", "table", "others"] []
 AI:fW K "leads" "Places.leads" fm (aA 34) (aM 34)
 AJ:Binds K (aM 34) ["self", "place"] []
 AK:Meth K (aA 67) "leads" (aA 34)
 xH:fW K "is_good" "Places.is_good" di (aA 35) (aM 35)
 xJ:Binds K (aM 35) ["self", "place"] []
 xK:Meth K (aA 67) "is_good" (aA 35)
 tW:fW K "check_asked" "check_asked" iw (aA 36) (aM 36)
 BF:Binds K (aM 36) ["table", "others", "most"] []
 BG:mg "check_asked" = some (.ref (aA 36))
 FU:MR K "search" "search" kg (aA 37) (aM 37) (.ref (aA 80))
 Ot:Binds K (aM 37) ["first", "searched", "most"] []
 Ou:mg "search" = some (.ref (aA 37))
 Dc:fW K "text_to" "text_to" oq (aA 38) (aM 38)
 Lm:Binds K (aM 38) ["came", "place"] []
 Ln:mg "text_to" = some (.ref (aA 38))
 IB:fW K "sole" "sole" Af (aA 39) (aM 39)
 Ov:Binds K (aM 39) ["dialect", "table", "others", "most"] []
 Ow:mg "sole" = some (.ref (aA 39))
 fz:fW K "_law_cell_at" "_law_cell_at" gE (aA 40) (aM 40)
 gI:Binds K (aM 40) ["_law_script", "_law_k"] []
 gJ:mg "_law_cell_at" = some (.ref (aA 40))
 lG:fW K "_law_mixed" "_law_mixed" je (aA 41) (aM 41)
 pU:Binds K (aM 41) ["_law_number_here", "_law_salt"] []
 pV:mg "_law_mixed" = some (.ref (aA 41))
 jP:fW K "_law_number" "_law_number" iy (aA 42) (aM 42)
 nU:Binds K (aM 42) ["_law_cell", "_law_salt"] []
 nV:mg "_law_number" = some (.ref (aA 42))
 nq:fW K "_law_some" "_law_some" kh (aA 43) (aM 43)
 rB:Binds K (aM 43) ["_law_number_here", "_law_many", "_law_menu"] []
 rC:mg "_law_some" = some (.ref (aA 43))
 vW:fW K "_law_menus" "_law_menus" jf (aA 44) (aM 44)
 D0:Binds K (aM 44) ["_law_way"] []
 D3:mg "_law_menus" = some (.ref (aA 44))
 rD:fW K "_law_told" "_law_told" ki (aA 45) (aM 45)
 yi:Binds K (aM 45) ["_law_cell"] []
 yj:mg "_law_told" = some (.ref (aA 45))
 yk:fW K "_law_made" "_law_made" kj (aA 46) (aM 46)
 FW:Binds K (aM 46) ["_law_told_here"] []
 FY:mg "_law_made" = some (.ref (aA 46))
 yl:fW K "_law_open" "_law_open" ko (aA 47) (aM 47)
 FZ:Binds K (aM 47) ["_law_told_here", "_law_state", "_law_sign"] []
 Ga:mg "_law_open" = some (.ref (aA 47))
 ym:fW K "_law_step" "_law_step" kr (aA 48) (aM 48)
 Gb:Binds K (aM 48) ["_law_told_here", "_law_state", "_law_sign"] []
 Ge:mg "_law_step" = some (.ref (aA 48))
 yo:fW K "_law_near" "_law_near" ku (aA 49) (aM 49)
 Gf:Binds K (aM 49) ["_law_told_here", "_law_number_here"] []
 Gg:mg "_law_near" = some (.ref (aA 49))
 tX:fW K "_law_others" "_law_others" iz (aA 50) (aM 50)
 BH:Binds K (aM 50) ["_law_script", "_law_told_here", "_law_first", "_law_many"] []
 BI:mg "_law_others" = some (.ref (aA 50))
 pW:fW K "_law_signs" "_law_signs" fO (aA 51) (aM 51)
 vX:Binds K (aM 51) ["_law_tolds", "_law_table_here"] []
 vY:mg "_law_signs" = some (.ref (aA 51))
 vZ:fW K "_law_table" "_law_table" jg (aA 52) (aM 52)
 D4:Binds K (aM 52) ["_law_cell", "_law_tolds"] []
 D5:mg "_law_table" = some (.ref (aA 52))
 nW:fW K "_law_tokens" "_law_tokens" iA (aA 53) (aM 53)
 tY:Binds K (aM 53) ["_law_table_here"] []
 tZ:mg "_law_tokens" = some (.ref (aA 53))
 pX:fW K "_law_led" "_law_led" mq (aA 54) (aM 54)
 uJ:Binds K (aM 54) ["_law_told_here", "_law_tokens_here", "_law_mark", "_law_sign"] []
 uK:mg "_law_led" = some (.ref (aA 54))
 t6:fW K "_law_behind" "_law_behind" iB (aA 55) (aM 55)
 BJ:Binds K (aM 55) ["_law_tolds", "_law_tokens_here", "_law_place", "_law_sign"] []
 BK:mg "_law_behind" = some (.ref (aA 55))
 yp:fW K "_law_good" "_law_good" kB (aA 56) (aM 56)
 Gh:Binds K (aM 56) ["_law_tokens_here", "_law_place"] []
 Gi:mg "_law_good" = some (.ref (aA 56))
 wc:fW K "_law_start" "_law_start" gP (aA 57) (aM 57)
 D6:Binds K (aM 57) ["_law_tolds"] []
 D7:mg "_law_start" = some (.ref (aA 57))
 t7:fW K "_law_levels" "_law_levels" gi (aA 58) (aM 58)
 BL:Binds K (aM 58) ["_law_tolds", "_law_table_here", "_law_most"] []
 BN:mg "_law_levels" = some (.ref (aA 58))
 pY:fW K "_law_reads" "_law_reads" jh (aA 59) (aM 59)
 wg:Binds K (aM 59) ["_law_told_here", "_law_text", "_law_table_here"] []
 wj:mg "_law_reads" = some (.ref (aA 59))
 yq:fW K "_law_sole" "_law_sole" kC (aA 60) (aM 60)
 Gj:Binds K (aM 60) ["_law_tolds", "_law_text", "_law_table_here"] []
 Gk:mg "_law_sole" = some (.ref (aA 60))
 yr:fW K "_law_copy" "_law_copy" iW (aA 61) (aM 61)
 Gm:Binds K (aM 61) ["_law_table_here"] []
 Gn:mg "_law_copy" = some (.ref (aA 61))
 pZ:fW K "_law_right" "_law_right" gQ (aA 62) (aM 62)
 wk:Binds K (aM 62) ["_law_found", "_law_tolds", "_law_table_here", "_law_word", "_law_due"] []
 wm:mg "_law_right" = some (.ref (aA 62))
 Xi:fW K "law" "law" vm (aA 63) (aM 63)
 ahf:Binds K (aM 63) ["_law_script"] []
 ahg:mg "law" = some (.ref (aA 63))
 aL:JM K (aA 64)
 Dd:mg "Dialect" = some (.ref (aA 64))
 De:Mk K (aA 64) (aA 3)
 cj:fM K (aA 64) "parts"
 cH:fM K (aA 64) "quotes"
 bS:fM K (aA 64) "frees"
 gK:fM K (aA 64) "twin"
 fB:fM K (aA 64) "wide"
 fE:fM K (aA 64) "thin"
 f9:fM K (aA 64) "stray"
 jk:JM K (aA 65)
 S7:mg "Turn" = some (.ref (aA 65))
 S8:Mk K (aA 65) (aA 12)
 bO:fM K (aA 65) "dialect"
 gU:JM K (aA 66)
 Gp:mg "Marker" = some (.ref (aA 66))
 Gq:Mk K (aA 66) (aA 19)
 jQ:fM K (aA 66) "turn"
 gb:fM K (aA 66) "tokens"
 gj:JM K (aA 67)
 Ox:mg "Places" = some (.ref (aA 67))
 Oz:Mk K (aA 67) (aA 33)
 gc:fM K (aA 67) "marker"
 fF:fM K (aA 67) "markers"
 jm:fM K (aA 67) "signs"
 OA:mg "DialectError" = some (.ref (aA 68))
 OB:XCl K (aA 68) (aA 69) Fg none
 L5:XIn K (aA 68)
 VO:mg "NoTable" = some (.ref (aA 70))
 VP:XCl K (aA 70) (aA 71) (.ref (aA 68) :: Fg) none
 Xj:mg "NoMost" = some (.ref (aA 72))
 Xk:XCl K (aA 72) (aA 73) (.ref (aA 68) :: Fg) none
 VQ:mg "TooMany" = some (.ref (aA 74))
 VR:XCl K (aA 74) (aA 75) (.ref (aA 68) :: Fg) (some (.ref (aA 29)))
 RD:W.keepIn K (.ref (aA 74))=true
 S9:∃ oI:Obj,K.lookup (aA 29)=some oI∧oI.cls=.type "function"
 L6:XAt K (aA 74) "most"
 D8:mg "all" = none
 Tc:mg "any" = none
 zI:mg "bool" = none
 D9:mg "enumerate" = none
 AL:mg "int" = none
 bw:mg "isinstance" = none
 bX:mg "len" = none
 p8:mg "list" = none
 Td:mg "ord" = none
 oM:mg "range" = none
 yu:mg "reversed" = none
 Ea:mg "str" = none
 OC:mg "sum" = none
 kI:mg "tuple" = none
 IC:mg "zip" = none
 p9:∃ t,mg "LINE" = some (.str (Bx 0) t)
 qb:(Bx 0)=Str.ofString "\n"
 Eb:∃ t,mg "MOST_ROWS" = some (.int 60 t)
 BO:∃ t,mg "MOST_CELLS" = some (.int 20 t)
 jn:∃ t,mg "MOST_SIGNS_IN_CELLS" = some (.int 400 t)
 AM:∃ t,mg "MOST_TOKENS" = some (.int 24 t)
 AO:∃ t,mg "MOST_OTHERS" = some (.int 3 t)
 AQ:∃ t,mg "MOST_PLACES" = some (.int 4000 t)
 oN:mg "START" = some (.ref (aA 76))
 oO:∃(o:Obj) (its:Array Value) (n:Nat),K.lookup (aA 76)=some o∧o.cls=.type "tuple"∧o.data=.seq its n∧its.size≤sizeLine∧Vals [.str ("row":Str),.str ("":Str)] its.toList
 Qs:mg "PART" = some (.ref (aA 77))
 Qt:∃(o:Obj) (its:Array Value) (n:Nat),K.lookup (aA 77)=some o∧o.cls=.type "tuple"∧o.data=.seq its n∧its.size≤sizeLine∧Vals [.str ("part":Str),.str ("":Str)] its.toList
 Te:mg "END" = some (.ref (aA 78))
 Tf:∃(o:Obj) (its:Array Value) (n:Nat),K.lookup (aA 78)=some o∧o.cls=.type "tuple"∧o.data=.seq its n∧its.size≤sizeLine∧Vals [.str ("end":Str),.str ("":Str)] its.toList
section
variable {P:Program}{w:World}{K:W.Frag}{mg:Str→Option Value}{base:Heap}{aA:Nat→Addr}{aM:Nat→FuncData}{Bx:Nat→Str}
def kP:Sp:=fun vs H Q _=>∃ c:Nat,vs=[.str (sg c)]∧Pn c∧Q (.bl true) H
section
variable (T:Txt K mg aA aM Bx)
include T
theorem qv:aJ P w K mg base bG 1 (aA 0) (aM 0) ["sign"] kP:=by
 refine T.mO.ok qp (fun vs H Q E h=>?_) (fun cdv A outer s H vs Q E hr h=>?_)
 ·obtain⟨c,rfl,_⟩:=h;rfl
 ·have hu:=bg hr
  have g8:=hr.aP
  obtain⟨c,rfl,⟨h1,h2,h3⟩,k⟩:=h
  refine⟨_,(ai (eS 1 qp.nd (j8 Mz T.Td (af (pv 0) ah)))
   (ak (ay (xg (CH Mw (pv 1) aq) (xg (CH Mv (pv 1) aq) (w6 (CH u6 (pv 1) aq))))))),?_⟩
  refine⟨_,rfl,_,rfl,rfl,?_⟩
  refine⟨_,rfl,_,_,rfl,rfl,_,rfl,W4 (by show(32:Int)≤((c:Nat):Int);omega) ?_⟩
  refine⟨_,rfl,_,_,rfl,rfl,_,rfl,W4 (by show((c:Nat):Int)≤126;omega) ?_⟩
  refine⟨_,rfl,rfl,?_⟩
  have e:¬(V.int ((c:Nat):Int)=V.int 37):=fun z=>h3 (by injection z with z;omega)
  have e2:(!decide (V.int ((c:Nat):Int)=V.int 37))=true:=by rw[decide_eq_false e];rfl
  show Q (.bl (!decide (V.int ((c:Nat):Int)=V.int 37))) H
  rw[e2]
  exact k
def mS:Sp:=fun vs H Q _=>∃ z:Str,vs=[.str z]∧dD z∧z.length≤2000∧∀ H',aD H H'→Q (.bl true) H'
theorem uL:aJ P w K mg base bG 2 (aA 1) (aM 1) ["text"] mS:=by
 have mT:aJ P w K mg base bG 1 (aA 0) (aM 0) ["sign"] kP:=qv T
 refine T.nj.ok uC (fun vs H Q E h=>?_) (fun cdv A outer s H vs Q E hr h=>?_)
 ·obtain⟨z,rfl,_⟩:=h;rfl
 ·have hu:=bg hr
  have g8:=hr.aP
  obtain⟨z,rfl,g,hz,k⟩:=h
  refine⟨_,(ak (ay (j8 (rX K rfl rfl) T.D8 (af (dI rfl (show br ["text"] (av cP) ["sign"] 1 [] _ from CG) (pB (pv 0)) (fun _ _ _ _=>(gm 0 Ib)) (fun _ _ _ _=>dH) (fun _ _ _ _=>(Wf (CH bA (pv 0) (pC rfl T.p9.choose_spec)) (w6 (gn mT hr T.qZ T.mO.kp T.qY (af (pv 0) ah)))))) ah)))),?_⟩
  refine⟨_,rfl,z,rfl,fun D hD=>?_⟩
  have hsz:z.cps.toList.length=z.length:=by rw[Array.length_toList];rfl
  refine zR (fun i ys τ H2=>(∃ v,τ=[v])∧aD H H2∧H2 D=some (.lst ys)∧ys=(List.replicate i true).map V.bl) ⟨⟨_,rfl⟩,ao hD,aj,rfl⟩ (fun i ys τ H2 _ p=>p.2.2.1) ?_ ?_
  ·rintro i c ys τ H2 hi ⟨⟨v,rfl⟩,s2,hl,rfl⟩
   have hc:c∈z.cps.toList:=List.mem_of_getElem? hi
   have hil:i < z.cps.toList.length:=(List.getElem?_eq_some_iff.mp hi).1
   refine sQ ?_
   have fin:∀ B:Prop,B=B→H2 D=some (.lst ((List.replicate i true).map V.bl))∧((List.replicate i true).map V.bl).length < sizeLine∧(∃ v,[some (V.str (sg c))]=[v])∧aD H (upd H2 D (.lst ((List.replicate i true).map V.bl++[.bl true])))∧(upd H2 D (.lst ((List.replicate i true).map V.bl++[.bl true]))) D=some (.lst ((List.replicate i true).map V.bl++[.bl true]))∧(List.replicate i true).map V.bl++[.bl true]=(List.replicate (i+1) true).map V.bl:=fun _ _=>by
    refine⟨hl,?_,⟨_,rfl⟩,aI hD s2,aj,?_⟩
    ·rw[List.length_map,List.length_replicate]
     exact Nat.lt_of_lt_of_le (show i < 2001 by omega) (by decide)
    ·rw[List.replicate_succ',List.map_append];rfl
   refine⟨_,rfl,rfl,_,rfl,bu (fun _=>?_) (fun h=>?_)⟩
   ·exact fin True rfl
   ·have hp:Pn c:=(g c hc).resolve_left (sgL T.qb h)
    exact⟨_,rfl,c,rfl,hp,fin True rfl⟩
  ·rintro ys τ H2 ⟨⟨v,rfl⟩,s2,hl,rfl⟩
   refine⟨D,List.replicate _ true,rfl,aU.of hl,?_⟩
   have e:(List.replicate z.cps.toList.length true).all id=true:=by
    rw[List.all_eq_true]
    intro b hb
    exact(List.mem_replicate.mp hb).2
   rw[e]
   exact k H2 s2
def lu:Sp:=fun vs H Q _=>∃(z:Str) (lo hi:Int),vs=[.str z,.int lo,.int hi]∧Sg z∧lo≤z.length∧(z.length:Int)≤hi∧z.length≤1000∧∀ H',aD H H'→Q (.bl true) H'
theorem sY:aJ P w K mg base bG 2 (aA 2) (aM 2) ["thing", "least", "most"] lu:=by
 have mT:aJ P w K mg base bG 1 (aA 0) (aM 0) ["sign"] kP:=qv T
 refine T.fQ.ok sU (fun vs H Q E h=>?_) (fun cdv A outer s H vs Q E hr h=>?_)
 ·obtain⟨z,lo,hi,rfl,_⟩:=h;rfl
 ·have hu:=bg hr
  have g8:=hr.aP
  obtain⟨z,lo,hi,rfl,g,hlo,hhi,hz,k⟩:=h
  have zJ:z.length≤sizeLine:=Nat.le_trans hz (by decide)
  refine⟨_,(ai (aG (PW.pt (gX (ck (bD (j8 (bQ K rfl) T.bw (af (pv 0) (af (Ic "str" T.Ea) ah))))) (gX (dw Cf (j8 cX T.bX (af (pv 0) ah)) (pv 1)) (gZ (dw qI (j8 cX T.bX (af (pv 0) ah)) (pv 2)))))) (ak (ay gA)) az)
   (ak (ay (j8 (rX K rfl rfl) T.D8 (af (dI rfl (show br ["thing", "least", "most"] (av cG) ["sign", "thing"] 1 [0] _ from CG) (pB (pv 0)) (fun _ _ _ _=>(gm 0 (show(["sign", "thing"]:List Str).Nodup by decide +kernel))) (fun _ _ _ _=>dH) (fun _ _ _ _=>(xg (gn mT hr T.qZ T.mO.kp T.qY (af (pv 0) ah)) (w6 (CH bA (cZ K rfl PySem.F.plainAttrs_str PySem.F.slot_str_count PySem.F.type_str_count MT (pv 1) (af (pv 0) ah)) aq))))) ah))))),?_⟩
  refine⟨_,rfl,_,_,_,true,rfl,.str _,.inl ⟨_,rfl,rfl⟩,true,rfl,cz ?_⟩
  refine⟨_,rfl,z,rfl,zJ,_,rfl,_,_,rfl,rfl,_,rfl,Nv (by omega) ?_⟩
  refine⟨_,rfl,z,rfl,zJ,_,rfl,_,_,rfl,rfl,_,rfl,Nv (by omega) ?_⟩
  refine⟨_,rfl,z,rfl,fun D hD=>?_⟩
  have hsz:z.cps.toList.length=z.length:=by rw[Array.length_toList];rfl
  refine zR (fun i ys τ H2=>(∃ v,τ=[v,some (.str z)])∧aD H H2∧H2 D=some (.lst ys)∧ys=(List.replicate i true).map V.bl) ⟨⟨_,rfl⟩,ao hD,aj,rfl⟩ (fun i ys τ H2 _ p=>p.2.2.1) ?_ ?_
  ·rintro i c ys τ H2 hi ⟨⟨v,rfl⟩,s2,hl,rfl⟩
   have hc:c∈z.cps.toList:=List.mem_of_getElem? hi
   have hil:i < z.cps.toList.length:=(List.getElem?_eq_some_iff.mp hi).1
   refine sQ ?_
   refine⟨_,rfl,c,rfl,g.pr c hc,true,rfl,n8 ?_⟩
   refine⟨_,rfl,rfl,_,rfl,z,c,rfl,rfl,rfl,?_⟩
   have e:decide (V.int (PyProof.Rows.cnt c z.cps.toList)=V.int 1)=true:=by rw[JX g.nd hc];exact decide_eq_true rfl
   rw[e]
   refine⟨hl,?_,⟨_,rfl⟩,aI hD s2,aj,?_⟩
   ·rw[List.length_map,List.length_replicate]
    exact Nat.lt_of_lt_of_le (show i < 1001 by omega) (by decide)
   ·rw[List.replicate_succ',List.map_append];rfl
  ·rintro ys τ H2 ⟨⟨v,rfl⟩,s2,hl,rfl⟩
   refine⟨D,List.replicate _ true,rfl,aU.of hl,?_⟩
   have e:(List.replicate z.cps.toList.length true).all id=true:=by
    rw[List.all_eq_true]
    intro b hb
    exact(List.mem_replicate.mp hb).2
   rw[e]
   exact k H2 s2
def ia (C:Addr):Sp:=fun vs H Q _=>∃(x dx:Addr) (p q f:Str) (b1 b2 b3 b4:Bool),vs=.ref x :: qo p q f b1 b2 b3 b4∧H x=some (.ins C dx [])∧Gd p q f∧∀ H',H' x=some (.ins C dx (CI p q f b1 b2 b3 b4))→(∀ b o,H b=some o→b≠x→H' b=some o)→Q .non H'
theorem ly:aJ P w K mg base bG 3 (aA 3) (aM 3) ["self", "parts", "quotes", "frees", "twin", "wide", "thin", "stray"] (ia (aA 64)):=by
 have iU:aJ P w K mg base bG 2 (aA 2) (aM 2) ["thing", "least", "most"] lu:=sY T
 refine T.uG.ok kZ (fun vs H Q E h=>?_) (fun cdv A outer s H vs Q E hr h=>?_)
 ·obtain⟨x,dx,p,q,f,b1,b2,b3,b4,rfl,_⟩:=h;rfl
 ·have hu:=bg hr
  have g8:=hr.aP
  obtain⟨x,dx,p,q,f,b1,b2,b3,b4,rfl,hx,g,k⟩:=h
  have hp1:=g.p1;have hp3:=g.p3;have hq2:=g.q2;have hf2:=g.f2
  refine⟨_,(ai (aG (ck (bD (gn iU hr T.iT T.fQ.kp T.iS (af (pv 1) (af aq (af aq ah)))))) (ak i6) az)
   (ai (aG (ck (bD (gn iU hr T.iT T.fQ.kp T.iS (af (pv 2) (af aq (af aq ah)))))) (ak i6) az)
   (ai (aG (ck (bD (gn iU hr T.iT T.fQ.kp T.iS (af (pv 3) (af aq (af aq ah)))))) (ak i6) az)
   (ai (cU PassesOwn.never rfl (JV K rfl (aC (af (pv 4) (af (pv 5) (af (pv 6) (af (pv 7) ah)))))) (gm 8 kZ.nd)
   (ak (aG (ck (bD (j8 (bQ K rfl) T.bw (af (pv 8) (af (Ic "bool" T.zI) ah))))) (ak i6) az)))
   (ai (jF (pv 0) (pv 1) rfl)
   (ai (jF (pv 0) (pv 2) rfl)
   (ai (jF (pv 0) (pv 3) rfl)
   (ai (jF (pv 0) (pv 4) rfl)
   (ai (jF (pv 0) (pv 5) rfl)
   (ai (jF (pv 0) (pv 6) rfl)
   (ak (jF (pv 0) (pv 7) rfl)))))))))))),?_⟩
  refine⟨_,rfl,p,1,3,rfl,g.gp,by omega,by omega,by omega,fun H1 s1=>⟨true,rfl,cz ?_⟩⟩
  refine⟨_,rfl,q,0,2,rfl,g.gq,by omega,by omega,by omega,fun H2 s2=>⟨true,rfl,cz ?_⟩⟩
  refine⟨_,rfl,f,0,2,rfl,g.gf,by omega,by omega,by omega,fun H3 s3=>⟨true,rfl,cz ?_⟩⟩
  refine⟨_,rfl,_,rfl,_,rfl,_,rfl,(by show 4≤sizeLine;decide),fun t ht=>⟨t,rfl,⟨_,aY.of aj⟩,?_⟩⟩
  have s03:aD H (upd H3 t (.tup [.bl b1,.bl b2,.bl b3,.bl b4])):=((s1.trans s2).trans s3).trans (ao ht)
  have lV:(upd H3 t (.tup [.bl b1,.bl b2,.bl b3,.bl b4])) t=some (.tup [.bl b1,.bl b2,.bl b3,.bl b4]):=aj
  generalize upd H3 t (.tup [.bl b1,.bl b2,.bl b3,.bl b4])=H4 at s03 lV ⊢
  refine Pb (K:=K) (a:=t) (xs:=[.bl b1,.bl b2,.bl b3,.bl b4]) (fun i σ H5=>H5=H4∧∃ v,σ=[some (.ref x),some (.str p),some (.str q),some (.str f),some (.bl b1),some (.bl b2),some (.bl b3),some (.bl b4),v]) ⟨rfl,_,rfl⟩ (fun i σ H5 _ q=>by rw[q.1];exact aY.of lV) ?_ ?_
  ·rintro i y σ H5 hi ⟨rfl,v,rfl⟩
   obtain⟨b,rfl⟩:∃ b,y=V.bl b:=by
    have hi4:i < 4:=(List.getElem?_eq_some_iff.mp hi).1
    match i,hi4,hi with
    | 0,_,hi=>exact⟨_,(Option.some.inj hi).symm⟩
    | 1,_,hi=>exact⟨_,(Option.some.inj hi).symm⟩
    | 2,_,hi=>exact⟨_,(Option.some.inj hi).symm⟩
    | 3,_,hi=>exact⟨_,(Option.some.inj hi).symm⟩
   refine⟨_,rfl,_,_,_,true,rfl,.bl _,.inl ⟨_,rfl,rfl⟩,true,rfl,cz ?_⟩
   exact⟨rfl,_,rfl⟩
  ·rintro σ H5 ⟨rfl,v,rfl⟩
   have hx5:=s03 _ _ hx
   refine⟨_,rfl,_,rfl,x,(aA 64),dx,_,rfl,hx5,T.aL,T.cj,(by show 0 < 1000;decide),_,rfl,_,rfl,x,(aA 64),dx,_,rfl,aj,T.aL,T.cH,(by show 1 < 1000;decide),_,rfl,_,rfl,x,(aA 64),dx,_,rfl,aj,T.aL,T.bS,(by show 2 < 1000;decide),_,rfl,_,rfl,x,(aA 64),dx,_,rfl,aj,T.aL,T.gK,(by show 3 < 1000;decide),
    _,rfl,_,rfl,x,(aA 64),dx,_,rfl,aj,T.aL,T.fB,(by show 4 < 1000;decide),_,rfl,_,rfl,x,(aA 64),dx,_,rfl,aj,T.aL,T.fE,(by show 5 < 1000;decide),_,rfl,_,rfl,x,(aA 64),dx,_,rfl,aj,T.aL,T.f9,(by show 6 < 1000;decide),?_⟩
   refine k _ aj fun b o e hb=>?_
   rw[aE hb,aE hb,aE hb,aE hb,aE hb,aE hb,aE hb]
   exact s03 _ _ e
def qw (C:Addr):Sp:=fun vs H Q _=>∃(x dx:Addr) (p q f:Str) (b1 b2 b3 b4:Bool),vs=[.ref x]∧H x=some (.ins C dx (CI p q f b1 b2 b3 b4))∧∀ t,H t=none→Q (.ref t) (upd H t (.tup (qo p q f b1 b2 b3 b4)))
theorem yW:aJ P w K mg base bG 1 (aA 4) (aM 4) ["self"] (qw (aA 64)):=by
 refine T.AA.ok yL (fun vs H Q E h=>?_) (fun cdv A outer s H vs Q E hr h=>?_)
 ·obtain⟨x,dx,p,q,f,b1,b2,b3,b4,rfl,_⟩:=h;rfl
 ·have hu:=bg hr
  have g8:=hr.aP
  obtain⟨x,dx,p,q,f,b1,b2,b3,b4,rfl,hx,k⟩:=h
  refine⟨_,(ak (ay (aC (af (aV K rfl (pv 0) rfl) (af (aV K rfl (pv 0) rfl) (af (aV K rfl (pv 0) rfl) (af (aV K rfl (pv 0) rfl) (af (aV K rfl (pv 0) rfl) (af (aV K rfl (pv 0) rfl) (af (aV K rfl (pv 0) rfl) ah)))))))))),?_⟩
  refine⟨_,rfl,x,(aA 64),dx,_,_,rfl,hx,T.aL,T.cj,rfl,_,rfl,x,(aA 64),dx,_,_,rfl,hx,T.aL,T.cH,rfl,_,rfl,x,(aA 64),dx,_,_,rfl,hx,T.aL,T.bS,rfl,_,rfl,x,(aA 64),dx,_,_,rfl,hx,T.aL,T.gK,rfl,_,rfl,x,(aA 64),dx,_,_,rfl,hx,T.aL,T.fB,rfl,_,rfl,x,(aA 64),dx,_,_,rfl,hx,T.aL,T.fE,rfl,_,rfl,x,(aA 64),dx,_,_,rfl,hx,T.aL,T.f9,rfl,(by show 7≤sizeLine;decide),fun t ht=>?_⟩
  exact k t ht
def t9 (C:Addr):Sp:=fun vs H Q _=>∃(t:Addr) (p q f:Str) (b1 b2 b3 b4:Bool),vs=[.ref t]∧H t=some (.tup (qo p q f b1 b2 b3 b4))∧Gd p q f∧∀(x dx:Addr) (H':Hp),H x=none→H' x=some (.ins C dx (CI p q f b1 b2 b3 b4))→aD H H'→Q (.ref x) H'
theorem BP:aJ P w K mg base bG 5 (aA 5) (aM 5) ["told"] (t9 (aA 64)):=by
 have iV:aJ P w K mg base bG 3 (aA 3) (aM 3) ["self", "parts", "quotes", "frees", "twin", "wide", "thin", "stray"] (ia (aA 64)):=ly T
 refine T.vN.ok Bu (fun vs H Q E h=>?_) (fun cdv A outer s H vs Q E hr h=>?_)
 ·obtain⟨t,p,q,f,b1,b2,b3,b4,rfl,_⟩:=h;rfl
 ·have hu:=bg hr
  have g8:=hr.aP
  obtain⟨t,p,q,f,b1,b2,b3,b4,rfl,ht,g,k⟩:=h
  have hS:aY K H t (qo p q f b1 b2 b3 b4):=aY.of ht
  refine⟨_,(ai (aG (PW.pt (gX (ck (bD (j8 (qN K rfl) T.bw (af (pv 0) (af (Ic "tuple" T.kI) ah))))) (gZ (dw u6 (j8 (aZ K rfl) T.bX (af (pv 0) ah)) aq)))) (ak i6) az)
   (ak (ay (rV (k:=3) T.De iV (hr.mono (by decide)) rfl T.Dd T.mP .nil jy (af (gw K (pv 0) aq) (af (gw K (pv 0) aq) (af (gw K (pv 0) aq) (af (gw K (pv 0) aq) (af (gw K (pv 0) aq) (af (gw K (pv 0) aq) (af (gw K (pv 0) aq) ah))))))))))),?_⟩
  refine⟨_,rfl,t,_,_,true,rfl,.inl ⟨hS,rfl⟩,true,rfl,cz ?_⟩
  refine⟨_,rfl,t,_,rfl,.inr hS,rfl,_,rfl,WI rfl ?_⟩
  refine⟨_,rfl,t,_,_,_,rfl,rfl,hS,rfl,_,rfl,t,_,_,_,rfl,rfl,hS,rfl,_,rfl,t,_,_,_,rfl,rfl,hS,rfl,_,rfl,t,_,_,_,rfl,rfl,hS,rfl,_,rfl,t,_,_,_,rfl,rfl,hS,rfl,_,rfl,t,_,_,_,rfl,rfl,hS,rfl,_,rfl,t,_,_,_,rfl,rfl,hS,rfl,fun x dx hx hdx ne=>?_⟩
  refine⟨x,dx,p,q,f,b1,b2,b3,b4,rfl,aj,g,fun H2 h2 kp=>⟨rfl,k x dx H2 hx h2 fun b o e=>kp b o ?_ (bC e hx)⟩⟩
  rw[aE (bC e hx),aE (bC e hdx)]
  exact e
def kJ (K:W.Frag) (C:Addr):Sp:=fun vs H Q _=>∃(x dx:Addr) (p q f:Str) (b1 b2 b3 b4:Bool) (s:Addr) (w u:Str) (c:Nat),vs=[.ref x,.ref s,.str (sg c)]∧H x=some (.ins C dx (CI p q f b1 b2 b3 b4))∧aY K H s [.str w,.str u]∧∀ v H',aD H H'→yI K H' v (fq p q f b3 w u c)→Q v H'
theorem rE:aJ P w K mg base bG 1 (aA 6) (aM 6) ["dialect", "state", "sign"] (kJ K (aA 64)):=by
 refine T.lg.ok qX (fun vs H Q E h=>?_) (fun cdv A outer s H vs Q E hr h=>?_)
 ·obtain⟨x,dx,p,q,f,b1,b2,b3,b4,s,w,u,c,rfl,_⟩:=h;rfl
 ·have hu:=bg hr
  have g8:=hr.aP
  obtain⟨x,dx,p,q,f,b1,b2,b3,b4,s,w,u,c,rfl,hx,hs,k⟩:=h
  refine'⟨_,?aa,?bb⟩
  case aa =>
   refine' ai ?s0 ?r0
   case s0 =>
    refine' aG ?c1 ?b1 ?e1
    case c1=>exact(cu cD (pv 2) (aV K rfl (pv 0) rfl) rfl)
    case b1 =>
     refine' ak ?s2
     case s2 =>
      refine' ay ?v3
      case v3 =>
       refine' aC ?a4
       case a4 =>
        refine' af ?x5 ?y5 ?z5
        case z5=>exact rfl
        case x5 =>
         exact au
        case y5 =>
         refine' af ?x6 ?y6 ?z6
         case z6=>exact rfl
         case x6 =>
          refine' aC ?a7
          case a7 =>
           refine' af ?x8 ?y8 ?z8
           case z8=>exact rfl
           case x8 =>
            exact au
           case y8 =>
            refine' af ?x9 ?y9 ?z9
            case z9=>exact rfl
            case x9 =>
             exact au
            case y9 =>
             exact ah
         case y6 =>
          exact ah
    case e1 =>
     exact az
   case r0 =>
    refine' ai ?VE ?Xl
    case VE =>
     refine' aG ?Tg ?Th ?Xm
     case Tg=>exact(dw bA (pv 2) (pC rfl T.p9.choose_spec))
     case Th =>
      refine' ak ?s12
      case s12 =>
       refine' ay ?Xn
       case Xn =>
        refine' aC ?Qu
        case Qu =>
         refine' af ?Ti ?Tj ?To
         case To=>exact rfl
         case Ti =>
          exact au
         case Tj =>
          refine' af ?Qv ?Qw ?Qx
          case Qx=>exact rfl
          case Qv =>
           exact(m8 rfl T.oN)
          case Qw =>
           exact ah
     case Xm =>
      exact az
    case Xl =>
     refine' ai ?Tp ?Tq
     case Tp =>
      refine' aG ?Qy ?Qz ?Tr
      case Qy=>exact(cu cD (pv 2) (aV K rfl (pv 0) rfl) rfl)
      case Qz =>
       refine' ak ?Tt
       case Tt =>
        refine' ay ?v20
        case v20 =>
         refine' aC ?QA
         case QA =>
          refine' af ?Tu ?Tv ?Tw
          case Tw=>exact rfl
          case Tu =>
           exact au
          case Tv =>
           refine' af ?QB ?QC ?QD
           case QD=>exact rfl
           case QB =>
            refine' aC ?QE
            case QE =>
             refine' af ?Tz ?TF ?TH
             case TH=>exact rfl
             case Tz =>
              exact au
             case TF =>
              refine' af ?QF ?QG ?QH
              case QH=>exact rfl
              case QF =>
               exact(pv 2)
              case QG =>
               exact ah
           case QC =>
            exact ah
      case Tr =>
       exact az
     case Tq =>
      refine' ai ?Xo ?r27
      case Xo =>
       refine' aG ?Xp ?Xq ?e28
       case Xp=>exact(cu cD (pv 2) (aV K rfl (pv 0) rfl) rfl)
       case Xq =>
        refine' ak ?s29
        case s29 =>
         refine' ay ?v30
         case v30 =>
          refine' aC ?Xr
          case Xr =>
           refine' af ?x32 ?y32 ?z32
           case z32=>exact rfl
           case x32 =>
            exact au
           case y32 =>
            refine' af ?x33 ?y33 ?z33
            case z33=>exact rfl
            case x33 =>
             refine' aC ?a34
             case a34 =>
              refine' af ?x35 ?y35 ?z35
              case z35=>exact rfl
              case x35 =>
               exact au
              case y35 =>
               refine' af ?Xs ?Xu ?Xv
               case Xv=>exact rfl
               case Xs =>
                exact au
               case Xu =>
                exact ah
            case y33 =>
             exact ah
       case e28 =>
        exact az
      case r27 =>
       refine' ai ?s37 ?r37
       case s37 =>
        refine' aG ?c38 ?b38 ?e38
        case c38=>exact(PW.pt (eZ (dw bA (pv 2) au) (dU (bD (aV K rfl (pv 0) rfl)))))
        case b38 =>
         refine' ak ?s39
         case s39 =>
          refine' ay ?v40
          case v40 =>
           refine' aC ?a41
           case a41 =>
            refine' af ?x42 ?y42 ?z42
            case z42=>exact rfl
            case x42 =>
             exact au
            case y42 =>
             refine' af ?x43 ?y43 ?z43
             case z43=>exact rfl
             case x43 =>
              exact(pv 1)
             case y43 =>
              exact ah
        case e38 =>
         exact az
       case r37 =>
        refine' ak ?s44
        case s44 =>
         refine' ay ?v45
         case v45 =>
          refine' aC ?a46
          case a46 =>
           refine' af ?x47 ?y47 ?z47
           case z47=>exact rfl
           case x47 =>
            exact au
           case y47 =>
            refine' af ?x48 ?y48 ?z48
            case z48=>exact rfl
            case x48 =>
             refine' aC ?Xw
             case Xw =>
              refine' af ?x50 ?y50 ?z50
              case z50=>exact rfl
              case x50 =>
               exact au
              case y50 =>
               refine' af ?x51 ?y51 ?z51
               case z51=>exact rfl
               case x51 =>
                exact au
               case y51 =>
                exact ah
            case y48 =>
             exact ah
  have e2:bz (sg c) (Bx 0)=bz (sg c) (Str.ofString "\n"):=by rw[T.qb]
  refine⟨_,rfl,_,rfl,x,(aA 64),dx,_,_,rfl,hx,T.aL,T.bS,rfl,_,_,rfl,rfl,_,rfl,bu (fun (h1:iX c f=true)=>?_) (fun (h1:¬iX c f=true)=>?_)⟩
  ·exact bY (by unfold fq;rw[if_pos h1]) d8 k
  refine⟨_,rfl,rfl,_,rfl,bu (fun (h2:bz (sg c) (Bx 0)=true)=>?_) (fun (h2:¬bz (sg c) (Bx 0)=true)=>?_)⟩
  ·rw[e2] at h2
   exact jI (by unfold fq;rw[if_neg h1,if_pos h2]) uy (aD.refl _) (.inr T.oO) k
  rw[e2] at h2
  refine⟨_,rfl,_,rfl,x,(aA 64),dx,_,_,rfl,hx,T.aL,T.cH,rfl,_,_,rfl,rfl,_,rfl,bu (fun (h3:iX c q=true)=>?_) (fun (h3:¬iX c q=true)=>?_)⟩
  ·exact⟨_,rfl,bY (by unfold fq;rw[if_neg h1,if_neg h2,if_pos h3]) d8 k⟩
  refine⟨_,rfl,_,rfl,x,(aA 64),dx,_,_,rfl,hx,T.aL,T.cj,rfl,_,_,rfl,rfl,_,rfl,bu (fun (h4:iX c p=true)=>?_) (fun (h4:¬iX c p=true)=>?_)⟩
  ·exact bY (by unfold fq;rw[if_neg h1,if_neg h2,if_neg h3,if_pos h4]) pL k
  refine⟨_,rfl,rfl,_,rfl,bu (fun (h5:bz (sg c) (" ":Str)=true)=>?_) (fun (h5:¬bz (sg c) (" ":Str)=true)=>?_)⟩
  ·refine⟨_,rfl,x,(aA 64),dx,_,_,rfl,hx,T.aL,T.fE,rfl,_,rfl,bu (fun (h6:b3=true)=>?_) (fun (h6:¬b3=true)=>?_)⟩
   ·exact⟨_,rfl,jI (by unfold fq;rw[if_neg h1,if_neg h2,if_neg h3,if_neg h4,if_pos h5,if_pos h6]) d8 (aD.refl _) hs k⟩
   exact bY (by unfold fq;rw[if_neg h1,if_neg h2,if_neg h3,if_neg h4,if_pos h5,if_neg h6]) dM k
  refine cz ?_
  exact bY (by unfold fq;rw[if_neg h1,if_neg h2,if_neg h3,if_neg h4,if_neg h5]) dM k
def oQ (K:W.Frag) (C:Addr):Sp:=fun vs H Q _=>∃(x dx:Addr) (p q f:Str) (b1 b2 b3 b4:Bool) (c:Nat),vs=[.ref x,.str (sg c)]∧H x=some (.ins C dx (CI p q f b1 b2 b3 b4))∧∀ v H',aD H H'→yI K H' v (fP p q f b4 c)→Q v H'
theorem xM:aJ P w K mg base bG 1 (aA 7) (aM 7) ["dialect", "sign"] (oQ K (aA 64)):=by
 refine T.qs.ok xD (fun vs H Q E h=>?_) (fun cdv A outer s H vs Q E hr h=>?_)
 ·obtain⟨x,dx,p,q,f,b1,b2,b3,b4,c,rfl,_⟩:=h;rfl
 ·have hu:=bg hr
  have g8:=hr.aP
  obtain⟨x,dx,p,q,f,b1,b2,b3,b4,c,rfl,hx,k⟩:=h
  refine'⟨_,?aa,?bb⟩
  case aa =>
   refine' ai ?s0 ?r0
   case s0 =>
    refine' aG ?c1 ?b1 ?e1
    case c1=>exact(cu cD (pv 1) (aV K rfl (pv 0) rfl) rfl)
    case b1 =>
     refine' ak ?s2
     case s2 =>
      refine' ay ?v3
      case v3 =>
       refine' aC ?a4
       case a4 =>
        refine' af ?x5 ?y5 ?z5
        case z5=>exact rfl
        case x5 =>
         exact au
        case y5 =>
         refine' af ?x6 ?y6 ?z6
         case z6=>exact rfl
         case x6 =>
          refine' aC ?a7
          case a7 =>
           refine' af ?x8 ?y8 ?z8
           case z8=>exact rfl
           case x8 =>
            exact au
           case y8 =>
            refine' af ?x9 ?y9 ?z9
            case z9=>exact rfl
            case x9 =>
             exact au
            case y9 =>
             exact ah
         case y6 =>
          exact ah
    case e1 =>
     exact az
   case r0 =>
    refine' ai ?VE ?Xl
    case VE =>
     refine' aG ?Tg ?Th ?Xm
     case Tg=>exact(dw bA (pv 1) (pC rfl T.p9.choose_spec))
     case Th =>
      refine' ak ?s12
      case s12 =>
       refine' ay ?Xn
       case Xn =>
        refine' aC ?Qu
        case Qu =>
         refine' af ?Ti ?Tj ?To
         case To=>exact rfl
         case Ti =>
          exact au
         case Tj =>
          refine' af ?Qv ?Qw ?Qx
          case Qx=>exact rfl
          case Qv =>
           exact(m8 rfl T.oN)
          case Qw =>
           exact ah
     case Xm =>
      exact az
    case Xl =>
     refine' ai ?Tp ?Tq
     case Tp =>
      refine' aG ?Qy ?Qz ?Tr
      case Qy=>exact(cu cD (pv 1) (aV K rfl (pv 0) rfl) rfl)
      case Qz =>
       refine' ak ?Tt
       case Tt =>
        refine' ay ?v20
        case v20 =>
         refine' aC ?QA
         case QA =>
          refine' af ?Tu ?Tv ?Tw
          case Tw=>exact rfl
          case Tu =>
           exact au
          case Tv =>
           refine' af ?QB ?QC ?QD
           case QD=>exact rfl
           case QB =>
            refine' aC ?QE
            case QE =>
             refine' af ?Tz ?TF ?TH
             case TH=>exact rfl
             case Tz =>
              exact au
             case TF =>
              refine' af ?QF ?QG ?QH
              case QH=>exact rfl
              case QF =>
               exact au
              case QG =>
               exact ah
           case QC =>
            exact ah
      case Tr =>
       exact az
     case Tq =>
      refine' ai ?Xo ?r27
      case Xo =>
       refine' aG ?Xp ?Xq ?e28
       case Xp=>exact(PW.pt (eZ (cu cD (pv 1) (aV K rfl (pv 0) rfl) rfl) (dU (ck (bD (aV K rfl (pv 0) rfl))))))
       case Xq =>
        refine' ak ?s29
        case s29 =>
         refine' ay ?v30
         case v30 =>
          refine' aC ?Xr
          case Xr =>
           refine' af ?x32 ?y32 ?z32
           case z32=>exact rfl
           case x32 =>
            exact au
           case y32 =>
            refine' af ?x33 ?y33 ?z33
            case z33=>exact rfl
            case x33 =>
             exact au
            case y33 =>
             exact ah
       case e28 =>
        exact az
      case r27 =>
       refine' ak ?s34
       case s34 =>
        refine' ay ?v35
        case v35 =>
         refine' aC ?a36
         case a36 =>
          refine' af ?Xx ?Xy ?Xz
          case Xz=>exact rfl
          case Xx =>
           exact au
          case Xy =>
           refine' af ?x38 ?y38 ?z38
           case z38=>exact rfl
           case x38 =>
            refine' aC ?a39
            case a39 =>
             refine' af ?x40 ?y40 ?z40
             case z40=>exact rfl
             case x40 =>
              exact au
             case y40 =>
              refine' af ?x41 ?y41 ?z41
              case z41=>exact rfl
              case x41 =>
               exact au
              case y41 =>
               exact ah
           case y38 =>
            exact ah
  have e2:bz (sg c) (Bx 0)=bz (sg c) (Str.ofString "\n"):=by rw[T.qb]
  refine⟨_,rfl,_,rfl,x,(aA 64),dx,_,_,rfl,hx,T.aL,T.bS,rfl,_,_,rfl,rfl,_,rfl,bu (fun (h1:iX c f=true)=>?_) (fun (h1:¬iX c f=true)=>?_)⟩
  ·exact bY (by unfold fP;rw[if_pos h1]) d8 k
  refine⟨_,rfl,rfl,_,rfl,bu (fun (h2:bz (sg c) (Bx 0)=true)=>?_) (fun (h2:¬bz (sg c) (Bx 0)=true)=>?_)⟩
  ·rw[e2] at h2
   exact jI (by unfold fP;rw[if_neg h1,if_pos h2]) uy (aD.refl _) (.inr T.oO) k
  rw[e2] at h2
  refine⟨_,rfl,_,rfl,x,(aA 64),dx,_,_,rfl,hx,T.aL,T.cj,rfl,_,_,rfl,rfl,_,rfl,bu (fun (h3:iX c p=true)=>?_) (fun (h3:¬iX c p=true)=>?_)⟩
  ·exact bY (by unfold fP;rw[if_neg h1,if_neg h2,if_pos h3]) pL k
  refine⟨_,rfl,_,rfl,x,(aA 64),dx,_,_,rfl,hx,T.aL,T.cH,rfl,_,_,rfl,rfl,_,rfl,bu (fun (h4:iX c q=true)=>?_) (fun (h4:¬iX c q=true)=>?_)⟩
  ·refine⟨_,rfl,x,(aA 64),dx,_,_,rfl,hx,T.aL,T.f9,rfl,_,rfl,bu (fun (h5:(!b4)=true)=>?_) (fun (h5:¬(!b4)=true)=>?_)⟩
   ·exact kO (by unfold fP;rw[if_neg h1,if_neg h2,if_neg h3,if_pos h4,if_pos h5]) k
   exact bY (by unfold fP;rw[if_neg h1,if_neg h2,if_neg h3,if_pos h4,if_neg h5]) dM k
  refine cz ?_
  exact bY (by unfold fP;rw[if_neg h1,if_neg h2,if_neg h3,if_neg h4]) dM k
def rF (K:W.Frag) (C:Addr):Sp:=fun vs H Q _=>∃(x dx:Addr) (p q f:Str) (b1 b2 b3 b4:Bool) (u:Str) (c:Nat),vs=[.ref x,.str u,.str (sg c)]∧H x=some (.ins C dx (CI p q f b1 b2 b3 b4))∧∀ v H',aD H H'→yI K H' v (cR f b1 b2 u c)→Q v H'
theorem AR:aJ P w K mg base bG 1 (aA 8) (aM 8) ["dialect", "quote", "sign"] (rF K (aA 64)):=by
 refine T.tR.ok Av (fun vs H Q E h=>?_) (fun cdv A outer s H vs Q E hr h=>?_)
 ·obtain⟨x,dx,p,q,f,b1,b2,b3,b4,u,c,rfl,_⟩:=h;rfl
 ·have hu:=bg hr
  have g8:=hr.aP
  obtain⟨x,dx,p,q,f,b1,b2,b3,b4,u,c,rfl,hx,k⟩:=h
  refine'⟨_,?aa,?bb⟩
  case aa =>
   refine' ai ?s0 ?r0
   case s0 =>
    refine' aG ?c1 ?b1 ?e1
    case c1=>exact(cu cD (pv 2) (aV K rfl (pv 0) rfl) rfl)
    case b1 =>
     refine' ak ?s2
     case s2 =>
      refine' ay ?v3
      case v3 =>
       refine' aC ?a4
       case a4 =>
        refine' af ?x5 ?y5 ?z5
        case z5=>exact rfl
        case x5 =>
         exact au
        case y5 =>
         refine' af ?x6 ?y6 ?z6
         case z6=>exact rfl
         case x6 =>
          refine' aC ?a7
          case a7 =>
           refine' af ?x8 ?y8 ?z8
           case z8=>exact rfl
           case x8 =>
            exact au
           case y8 =>
            refine' af ?x9 ?y9 ?z9
            case z9=>exact rfl
            case x9 =>
             exact(pv 1)
            case y9 =>
             exact ah
         case y6 =>
          exact ah
    case e1 =>
     exact az
   case r0 =>
    refine' ai ?VE ?Xl
    case VE =>
     refine' aG ?Tg ?Th ?Xm
     case Tg=>exact(dw bA (pv 2) (pv 1))
     case Th =>
      refine' ak ?s12
      case s12 =>
       refine' ay ?Xn
       case Xn =>
        refine' aC ?Qu
        case Qu =>
         refine' af ?Ti ?Tj ?To
         case To=>exact rfl
         case Ti =>
          exact au
         case Tj =>
          refine' af ?Qv ?Qw ?Qx
          case Qx=>exact rfl
          case Qv =>
           exact(qG (bD (aV K rfl (pv 0) rfl)) (aC (af au (af (pv 1) ah))) (aC (af au (af au ah))))
          case Qw =>
           exact ah
     case Xm =>
      exact az
    case Xl =>
     refine' ai ?Tp ?Tq
     case Tp =>
      refine' aG ?Qy ?Qz ?Tr
      case Qy=>exact(PW.pt (eZ (dw bA (pv 2) (pC rfl T.p9.choose_spec)) (dU (ck (bD (aV K rfl (pv 0) rfl))))))
      case Qz =>
       refine' ak ?Tt
       case Tt =>
        refine' ay ?v20
        case v20 =>
         refine' aC ?QA
         case QA =>
          refine' af ?Tu ?Tv ?Tw
          case Tw=>exact rfl
          case Tu =>
           exact au
          case Tv =>
           refine' af ?QB ?QC ?QD
           case QD=>exact rfl
           case QB =>
            exact au
           case QC =>
            exact ah
      case Tr =>
       exact az
     case Tq =>
      refine' ak ?s24
      case s24 =>
       refine' ay ?v25
       case v25 =>
        refine' aC ?a26
        case a26 =>
         refine' af ?XA ?XC ?XD
         case XD=>exact rfl
         case XA =>
          exact au
         case XC =>
          refine' af ?x28 ?y28 ?z28
          case z28=>exact rfl
          case x28 =>
           refine' aC ?a29
           case a29 =>
            refine' af ?TJ ?TL ?TM
            case TM=>exact rfl
            case TJ =>
             exact au
            case TL =>
             refine' af ?x31 ?y31 ?z31
             case z31=>exact rfl
             case x31 =>
              exact(pv 1)
             case y31 =>
              exact ah
          case y28 =>
           exact ah
  have e2:bz (sg c) (Bx 0)=bz (sg c) (Str.ofString "\n"):=by rw[T.qb]
  refine⟨_,rfl,_,rfl,x,(aA 64),dx,_,_,rfl,hx,T.aL,T.bS,rfl,_,_,rfl,rfl,_,rfl,bu (fun (h1:iX c f=true)=>?_) (fun (h1:¬iX c f=true)=>?_)⟩
  ·exact⟨_,rfl,bY (by unfold cR;rw[if_pos h1]) d8 k⟩
  refine⟨_,rfl,_,rfl,rfl,_,rfl,bu (fun (h2:bz (sg c) u=true)=>?_) (fun (h2:¬bz (sg c) u=true)=>?_)⟩
  ·refine⟨_,rfl,x,(aA 64),dx,_,_,rfl,hx,T.aL,T.gK,rfl,_,rfl,bu (fun (h3:b1=true)=>?_) (fun (h3:¬b1=true)=>?_)⟩
   ·exact⟨_,rfl,bY (by unfold cR;rw[if_neg h1,if_pos h2,if_pos h3]) d8 k⟩
   exact bY (by unfold cR;rw[if_neg h1,if_pos h2,if_neg h3]) d8 k
  refine⟨_,rfl,rfl,_,rfl,bu (fun (h3:bz (sg c) (Bx 0)=true)=>?_) (fun (h3:¬bz (sg c) (Bx 0)=true)=>?_)⟩
  ·rw[e2] at h3
   refine⟨_,rfl,x,(aA 64),dx,_,_,rfl,hx,T.aL,T.fB,rfl,_,rfl,bu (fun (h4:(!b2)=true)=>?_) (fun (h4:¬(!b2)=true)=>?_)⟩
   ·exact kO (by unfold cR;rw[if_neg h1,if_neg h2,if_pos h3,if_pos h4]) k
   exact⟨_,rfl,bY (by unfold cR;rw[if_neg h1,if_neg h2,if_pos h3,if_neg h4]) dM k⟩
  rw[e2] at h3
  refine cz ?_
  exact⟨_,rfl,bY (by unfold cR;rw[if_neg h1,if_neg h2,if_neg h3]) dM k⟩
def mU (K:W.Frag) (C:Addr):Sp:=fun vs H Q _=>∃(x dx:Addr) (p q f:Str) (b1 b2 b3 b4:Bool) (c:Nat),vs=[.ref x,.str (sg c)]∧H x=some (.ins C dx (CI p q f b1 b2 b3 b4))∧∀ v H',aD H H'→yI K H' v (bK p b3 c)→Q v H'
theorem rG:aJ P w K mg base bG 1 (aA 9) (aM 9) ["dialect", "sign"] (mU K (aA 64)):=by
 refine T.nT.ok Aw (fun vs H Q E h=>?_) (fun cdv A outer s H vs Q E hr h=>?_)
 ·obtain⟨x,dx,p,q,f,b1,b2,b3,b4,c,rfl,_⟩:=h;rfl
 ·have hu:=bg hr
  have g8:=hr.aP
  obtain⟨x,dx,p,q,f,b1,b2,b3,b4,c,rfl,hx,k⟩:=h
  refine'⟨_,?aa,?bb⟩
  case aa =>
   refine' ai ?s0 ?r0
   case s0 =>
    refine' aG ?c1 ?b1 ?e1
    case c1=>exact(dw bA (pv 1) (pC rfl T.p9.choose_spec))
    case b1 =>
     refine' ak ?s2
     case s2 =>
      refine' ay ?v3
      case v3 =>
       refine' aC ?a4
       case a4 =>
        refine' af ?x5 ?y5 ?z5
        case z5=>exact rfl
        case x5 =>
         exact au
        case y5 =>
         refine' af ?x6 ?y6 ?z6
         case z6=>exact rfl
         case x6 =>
          exact(m8 rfl T.oN)
         case y6 =>
          exact ah
    case e1 =>
     exact az
   case r0 =>
    refine' ai ?s7 ?r7
    case s7 =>
     refine' aG ?c8 ?b8 ?e8
     case c8=>exact(cu cD (pv 1) (aV K rfl (pv 0) rfl) rfl)
     case b8 =>
      refine' ak ?s9
      case s9 =>
       refine' ay ?v10
       case v10 =>
        refine' aC ?XE
        case XE =>
         refine' af ?x12 ?y12 ?z12
         case z12=>exact rfl
         case x12 =>
          exact au
         case y12 =>
          refine' af ?x13 ?y13 ?z13
          case z13=>exact rfl
          case x13 =>
           refine' aC ?Qu
           case Qu =>
            refine' af ?Ti ?Tj ?To
            case To=>exact rfl
            case Ti =>
             exact au
            case Tj =>
             refine' af ?Qv ?Qw ?Qx
             case Qx=>exact rfl
             case Qv =>
              exact au
             case Qw =>
              exact ah
          case y13 =>
           exact ah
     case e8 =>
      exact az
    case r7 =>
     refine' ai ?Tp ?Tq
     case Tp =>
      refine' aG ?Qy ?Qz ?Tr
      case Qy=>exact(PW.pt (eZ (dw bA (pv 1) au) (dU (bD (aV K rfl (pv 0) rfl)))))
      case Qz =>
       refine' ak ?Tt
       case Tt =>
        refine' ay ?v20
        case v20 =>
         refine' aC ?QA
         case QA =>
          refine' af ?Tu ?Tv ?Tw
          case Tw=>exact rfl
          case Tu =>
           exact au
          case Tv =>
           refine' af ?QB ?QC ?QD
           case QD=>exact rfl
           case QB =>
            refine' aC ?QE
            case QE =>
             refine' af ?Tz ?TF ?TH
             case TH=>exact rfl
             case Tz =>
              exact au
             case TF =>
              refine' af ?QF ?QG ?QH
              case QH=>exact rfl
              case QF =>
               exact au
              case QG =>
               exact ah
           case QC =>
            exact ah
      case Tr =>
       exact az
     case Tq =>
      refine' ak ?Xo
      case Xo =>
       refine' ay ?v28
       case v28 =>
        refine' aC ?a29
        case a29 =>
         refine' af ?TJ ?TL ?TM
         case TM=>exact rfl
         case TJ =>
          exact au
         case TL =>
          refine' af ?x31 ?y31 ?z31
          case z31=>exact rfl
          case x31 =>
           exact au
          case y31 =>
           exact ah
  have e2:bz (sg c) (Bx 0)=bz (sg c) (Str.ofString "\n"):=by rw[T.qb]
  refine⟨_,rfl,rfl,_,rfl,bu (fun (h1:bz (sg c) (Bx 0)=true)=>?_) (fun (h1:¬bz (sg c) (Bx 0)=true)=>?_)⟩
  ·rw[e2] at h1
   exact jI (by unfold bK;rw[if_pos h1]) uy (aD.refl _) (.inr T.oO) k
  rw[e2] at h1
  refine⟨_,rfl,_,rfl,x,(aA 64),dx,_,_,rfl,hx,T.aL,T.cj,rfl,_,_,rfl,rfl,_,rfl,bu (fun (h2:iX c p=true)=>?_) (fun (h2:¬iX c p=true)=>?_)⟩
  ·exact bY (by unfold bK;rw[if_neg h1,if_pos h2]) pL k
  refine⟨_,rfl,rfl,_,rfl,bu (fun (h3:bz (sg c) (" ":Str)=true)=>?_) (fun (h3:¬bz (sg c) (" ":Str)=true)=>?_)⟩
  ·refine⟨_,rfl,x,(aA 64),dx,_,_,rfl,hx,T.aL,T.fE,rfl,_,rfl,bu (fun (h4:b3=true)=>?_) (fun (h4:¬b3=true)=>?_)⟩
   ·exact bY (by unfold bK;rw[if_neg h1,if_neg h2,if_pos h3,if_pos h4]) d8 k
   exact kO (by unfold bK;rw[if_neg h1,if_neg h2,if_pos h3,if_neg h4]) k
  refine cz ?_
  exact kO (by unfold bK;rw[if_neg h1,if_neg h2,if_neg h3]) k
def oR (K:W.Frag) (C:Addr):Sp:=fun vs H Q _=>∃(x dx:Addr) (p q f:Str) (b1 b2 b3 b4:Bool) (u:Str) (c:Nat),vs=[.ref x,.str u,.str (sg c)]∧H x=some (.ins C dx (CI p q f b1 b2 b3 b4))∧∀ v H',aD H H'→yI K H' v (iQ p b3 u c)→Q v H'
theorem xN:aJ P w K mg base bG 2 (aA 10) (aM 10) ["dialect", "quote", "sign"] (oR K (aA 64)):=by
 have nX:aJ P w K mg base bG 1 (aA 9) (aM 9) ["dialect", "sign"] (mU K (aA 64)):=rG T
 refine T.qt.ok xE (fun vs H Q E h=>?_) (fun cdv A outer s H vs Q E hr h=>?_)
 ·obtain⟨x,dx,p,q,f,b1,b2,b3,b4,u,c,rfl,_⟩:=h;rfl
 ·have hu:=bg hr
  have g8:=hr.aP
  obtain⟨x,dx,p,q,f,b1,b2,b3,b4,u,c,rfl,hx,k⟩:=h
  refine⟨_,(ai (aG (dw bA (pv 2) (pv 1)) (ak (ay (aC (af au (af (aC (af au (af (pv 1) ah))) ah))))) az)
   (ak (ay (gn nX hr T.tT T.nT.kp T.tS (af (pv 0) (af (pv 2) ah)))))),?_⟩
  refine⟨_,rfl,_,rfl,rfl,_,rfl,bu (fun (h1:bz (sg c) u=true)=>?_) (fun (h1:¬bz (sg c) u=true)=>?_)⟩
  ·exact⟨_,rfl,bY (by unfold iQ;rw[if_pos h1]) dM k⟩
  refine⟨_,rfl,_,rfl,x,dx,p,q,f,b1,b2,b3,b4,c,rfl,hx,fun v H2 s2 r=>k v H2 s2 ?_⟩
  unfold iQ
  rw[if_neg h1]
  exact r
def ua (K:W.Frag) (C:Addr):Sp:=fun vs H Q _=>∃(x dx:Addr) (p q f:Str) (b1 b2 b3 b4:Bool) (u:Str) (c:Nat),vs=[.ref x,.str u,.str (sg c)]∧H x=some (.ins C dx (CI p q f b1 b2 b3 b4))∧∀ v H',aD H H'→yI K H' v (gF b2 u c)→Q v H'
theorem BQ:aJ P w K mg base bG 1 (aA 11) (aM 11) ["dialect", "quote", "sign"] (ua K (aA 64)):=by
 refine T.vO.ok Bv (fun vs H Q E h=>?_) (fun cdv A outer s H vs Q E hr h=>?_)
 ·obtain⟨x,dx,p,q,f,b1,b2,b3,b4,u,c,rfl,_⟩:=h;rfl
 ·have hu:=bg hr
  have g8:=hr.aP
  obtain⟨x,dx,p,q,f,b1,b2,b3,b4,u,c,rfl,hx,k⟩:=h
  refine'⟨_,?aa,?bb⟩
  case aa =>
   refine' ai ?s0 ?r0
   case s0 =>
    refine' aG ?c1 ?b1 ?e1
    case c1=>exact(PW.pt (eZ (dw bA (pv 2) (pC rfl T.p9.choose_spec)) (dU (ck (bD (aV K rfl (pv 0) rfl))))))
    case b1 =>
     refine' ak ?s2
     case s2 =>
      refine' ay ?v3
      case v3 =>
       refine' aC ?a4
       case a4 =>
        refine' af ?x5 ?y5 ?z5
        case z5=>exact rfl
        case x5 =>
         exact au
        case y5 =>
         refine' af ?x6 ?y6 ?z6
         case z6=>exact rfl
         case x6 =>
          exact au
         case y6 =>
          exact ah
    case e1 =>
     exact az
   case r0 =>
    refine' ak ?s7
    case s7 =>
     refine' ay ?v8
     case v8 =>
      refine' aC ?a9
      case a9 =>
       refine' af ?XF ?XG ?XH
       case XH=>exact rfl
       case XF =>
        exact au
       case XG =>
        refine' af ?x11 ?y11 ?z11
        case z11=>exact rfl
        case x11 =>
         exact(qG (dw bA (pv 1) au) (aC (af au (af au ah))) (aC (af au (af (pv 1) ah))))
        case y11 =>
         exact ah
  have e2:bz (sg c) (Bx 0)=bz (sg c) (Str.ofString "\n"):=by rw[T.qb]
  refine⟨_,rfl,rfl,_,rfl,bu (fun (h1:bz (sg c) (Bx 0)=true)=>?_) (fun (h1:¬bz (sg c) (Bx 0)=true)=>?_)⟩
  ·rw[e2] at h1
   refine⟨_,rfl,x,(aA 64),dx,_,_,rfl,hx,T.aL,T.fB,rfl,_,rfl,bu (fun (h2:(!b2)=true)=>?_) (fun (h2:¬(!b2)=true)=>?_)⟩
   ·exact kO (by unfold gF;rw[if_pos h1,if_pos h2]) k
   refine⟨_,rfl,rfl,_,rfl,bu (fun (h9:bz u ("":Str)=true)=>?_) (fun (h9:¬bz u ("":Str)=true)=>?_)⟩
   ·exact bY (by unfold gF eV;rw[if_pos h1,if_neg h2,if_pos h9]) dM k
   exact⟨_,rfl,bY (by unfold gF eV;rw[if_pos h1,if_neg h2,if_neg h9]) dM k⟩
  rw[e2] at h1
  refine cz ?_
  refine⟨_,rfl,rfl,_,rfl,bu (fun (h9:bz u ("":Str)=true)=>?_) (fun (h9:¬bz u ("":Str)=true)=>?_)⟩
  ·exact bY (by unfold gF eV;rw[if_neg h1,if_pos h9]) dM k
  exact⟨_,rfl,bY (by unfold gF eV;rw[if_neg h1,if_neg h9]) dM k⟩
def oU (C CT:Addr):Sp:=fun vs H Q _=>∃(y dy x dx:Addr) (p q f:Str) (b1 b2 b3 b4:Bool),vs=[.ref y,.ref x]∧H y=some (.ins CT dy [])∧H x=some (.ins C dx (CI p q f b1 b2 b3 b4))∧Gd p q f∧∀ H',Tn C CT H' y p q f b1 b2 b3 b4→(∀ b o,H b=some o→b≠y→H' b=some o)→Q .non H'
theorem xO:aJ P w K mg base bG 6 (aA 12) (aM 12) ["self", "dialect"] (oU (aA 64) (aA 65)):=by
 have AS:aJ P w K mg base bG 1 (aA 4) (aM 4) ["self"] (qw (aA 64)):=yW T
 have Ec:aJ P w K mg base bG 5 (aA 5) (aM 5) ["told"] (t9 (aA 64)):=BP T
 refine T.yS.ok xF (fun vs H Q E h=>?_) (fun cdv A outer s H vs Q E hr h=>?_)
 ·obtain⟨y,dy,x,dx,p,q,f,b1,b2,b3,b4,rfl,_⟩:=h;rfl
 ·have hu:=bg hr
  have g8:=hr.aP
  obtain⟨y,dy,x,dx,p,q,f,b1,b2,b3,b4,rfl,hy,hx,g,k⟩:=h
  refine⟨_,(ak (jF (pv 0) (gn Ec hr T.DX T.vN.kp T.DW (af (ER (k:=1) (pv 1) T.aL T.AD AS (hr.mono (by decide)) T.AB .nil jy) ah)) rfl)),?_⟩
  refine⟨_,rfl,x,dx,_,rfl,hx,rfl,x,dx,p,q,f,b1,b2,b3,b4,rfl,hx,fun t ht=>?_⟩
  have s1:=ao (o:=HO.tup (qo p q f b1 b2 b3 b4)) ht
  refine⟨t,p,q,f,b1,b2,b3,b4,rfl,aj,g,fun d dd H2 hd h2 s2=>?_⟩
  have s12:=s1.trans s2
  have nyd:d≠y:=fun e=>by subst e;rw[s1 _ _ hy] at hd;cases hd
  refine⟨_,rfl,y,(aA 65),dy,_,rfl,s12 _ _ hy,T.jk,T.bO,(by show 0 < 1000;decide),?_⟩
  refine k _ ⟨⟨dy,d,dd,aj,(aE nyd).trans h2⟩⟩ fun b o e hb=>(aE hb).trans (s12 _ _ e)
def wo (K:W.Frag) (C CT:Addr):Sp:=fun vs H Q _=>∃(y s:Addr) (w u:Str) (c:Nat) (p q f:Str) (b1 b2 b3 b4:Bool),vs=[.ref y,.ref s,.str (sg c)]∧Tn C CT H y p q f b1 b2 b3 b4∧aY K H s [.str w,.str u]∧∀ v H',aD H H'→yI K H' v (bN p q f b1 b2 b3 b4 w u c)→Q v H'
theorem Ed:aJ P w K mg base bG 3 (aA 13) (aM 13) ["self", "state", "sign"] (wo K (aA 64) (aA 65)):=by
 have sZ:aJ P w K mg base bG 1 (aA 6) (aM 6) ["dialect", "state", "sign"] (kJ K (aA 64)):=rE T
 have nX:aJ P w K mg base bG 1 (aA 9) (aM 9) ["dialect", "sign"] (mU K (aA 64)):=rG T
 have Ef:aJ P w K mg base bG 1 (aA 11) (aM 11) ["dialect", "quote", "sign"] (ua K (aA 64)):=BQ T
 have yX:aJ P w K mg base bG 2 (aA 10) (aM 10) ["dialect", "quote", "sign"] (oR K (aA 64)):=xN T
 have yY:aJ P w K mg base bG 1 (aA 7) (aM 7) ["dialect", "sign"] (oQ K (aA 64)):=xM T
 have BR:aJ P w K mg base bG 1 (aA 8) (aM 8) ["dialect", "quote", "sign"] (rF K (aA 64)):=AR T
 refine T.FL.ok pP (fun vs H Q E h=>?_) (fun cdv A outer s H vs Q E hr h=>?_)
 ·obtain⟨y,s,w,u,c,p,q,f,b1,b2,b3,b4,rfl,_⟩:=h;rfl
 ·have hu:=bg hr
  have g8:=hr.aP
  obtain⟨y,s,w,u,c,p,q,f,b1,b2,b3,b4,rfl,hT,hs,k⟩:=h
  obtain⟨dy,d,dd,hy,hd⟩:=hT.ok
  refine⟨_,(ai (eS 3 pP.nd (gw K (pv 1) aq))
   (ai (eS 4 pP.nd (gw K (pv 1) aq))
   (ai (aG (dw bA (pv 3) au) (ak (ay (gn yY hr T.yP T.qs.kp T.yO (af (aV K rfl (pv 0) rfl) (af (pv 2) ah))))) az)
   (ai (aG (dw bA (pv 3) au) (ak (ay (gn BR hr T.BA T.tR.kp T.By (af (aV K rfl (pv 0) rfl) (af (pv 4) (af (pv 2) ah)))))) az)
   (ai (aG (dw bA (pv 3) au) (ak (ay (gn yX hr T.yR T.qt.kp T.yQ (af (aV K rfl (pv 0) rfl) (af (pv 4) (af (pv 2) ah)))))) az)
   (ai (aG (dw bA (pv 3) au) (ak (ay (gn nX hr T.tT T.nT.kp T.tS (af (aV K rfl (pv 0) rfl) (af (pv 2) ah))))) az)
   (ai (aG (dw bA (pv 3) au) (ak (ay (gn Ef hr T.DZ T.vO.kp T.DY (af (aV K rfl (pv 0) rfl) (af (pv 4) (af (pv 2) ah)))))) az)
   (ak (ay (gn sZ hr T.sW T.lg.kp T.sV (af (aV K rfl (pv 0) rfl) (af (pv 1) (af (pv 2) ah))))))))))))),?_⟩
  refine⟨_,rfl,s,_,_,_,rfl,rfl,hs,rfl,_,rfl,s,_,_,_,rfl,rfl,hs,rfl,?_⟩
  refine⟨_,rfl,rfl,_,rfl,bu (fun (h1:bz w ("plain":Str)=true)=>?_) (fun (h1:¬bz w ("plain":Str)=true)=>?_)⟩
  ·refine⟨_,rfl,y,(aA 65),dy,_,_,rfl,hy,T.jk,T.bO,rfl,_,rfl,d,dd,p,q,f,b1,b2,b3,b4,c,rfl,hd,fun v H2 s2 r=>k v H2 s2 ?_⟩
   rw[Ny h1]
   exact r
  refine⟨_,rfl,rfl,_,rfl,bu (fun (h2:bz w ("within":Str)=true)=>?_) (fun (h2:¬bz w ("within":Str)=true)=>?_)⟩
  ·refine⟨_,rfl,y,(aA 65),dy,_,_,rfl,hy,T.jk,T.bO,rfl,_,rfl,_,rfl,d,dd,p,q,f,b1,b2,b3,b4,u,c,rfl,hd,fun v H2 s2 r=>k v H2 s2 ?_⟩
   rw[gR h2]
   exact r
  refine⟨_,rfl,rfl,_,rfl,bu (fun (h3:bz w ("doubt":Str)=true)=>?_) (fun (h3:¬bz w ("doubt":Str)=true)=>?_)⟩
  ·refine⟨_,rfl,y,(aA 65),dy,_,_,rfl,hy,T.jk,T.bO,rfl,_,rfl,_,rfl,d,dd,p,q,f,b1,b2,b3,b4,u,c,rfl,hd,fun v H2 s2 r=>k v H2 s2 ?_⟩
   rw[kD h3]
   exact r
  refine⟨_,rfl,rfl,_,rfl,bu (fun (h4:bz w ("behind":Str)=true)=>?_) (fun (h4:¬bz w ("behind":Str)=true)=>?_)⟩
  ·refine⟨_,rfl,y,(aA 65),dy,_,_,rfl,hy,T.jk,T.bO,rfl,_,rfl,d,dd,p,q,f,b1,b2,b3,b4,c,rfl,hd,fun v H2 s2 r=>k v H2 s2 ?_⟩
   rw[jJ h4]
   exact r
  refine⟨_,rfl,rfl,_,rfl,bu (fun (h5:bz w ("freed":Str)=true)=>?_) (fun (h5:¬bz w ("freed":Str)=true)=>?_)⟩
  ·refine⟨_,rfl,y,(aA 65),dy,_,_,rfl,hy,T.jk,T.bO,rfl,_,rfl,_,rfl,d,dd,p,q,f,b1,b2,b3,b4,u,c,rfl,hd,fun v H2 s2 r=>k v H2 s2 ?_⟩
   rw[mE h5]
   exact r
  refine⟨_,rfl,y,(aA 65),dy,_,_,rfl,hy,T.jk,T.bO,rfl,_,rfl,_,rfl,d,dd,p,q,f,b1,b2,b3,b4,s,w,u,c,rfl,hd,hs,fun v H2 s2 r=>k v H2 s2 ?_⟩
  rw[DK (jA h2) (jA h5) (jA h3) (jA h4)]
  unfold gu
  rw[if_neg h1]
  exact r
def Eg:Sp:=fun vs H Q _=>∃ z:Str,vs=[.str z]∧z.length≤4000∧Q (.str (tO z)) H
theorem Kh:aJ P w K mg base bG 1 (aA 14) (aM 14) ["text"] Eg:=by
 refine T.Iq.ok zH (fun vs H Q E h=>?_) (fun cdv A outer s H vs Q E hr h=>?_)
 ·obtain⟨z,rfl,_⟩:=h;rfl
 ·have hu:=bg hr
  have g8:=hr.aP
  obtain⟨z,rfl,XI,k⟩:=h
  have e0:Str.ofString "" = ⟨(d9 []).toArray⟩:=by decide +kernel
  have e0:([some (V.str z),some (V.str ("":Str)),none]:St)=[some (.str z),some (.str ⟨(d9 []).toArray⟩),none]:=by rw[e0]
  refine⟨_,(ai (eS 1 zH.nd au)
   (ai (cU PassesOwn.never rfl (pB (pv 0)) (gm 2 zH.nd)
   (ak (aG (cu lE (pv 2) (pv 1) rfl) (ak (eS 1 zH.nd (aK cE (pv 1) (pv 2)))) az)))
   (ak (ay (pv 1))))),?_⟩
  refine⟨_,rfl,_,rfl,?_⟩
  unfold tO at k
  refine rW (fun i σ H2=>H2=H∧∃ v,σ=[some (.str z),some (.str ⟨(d9 (z.cps.toList.take i)).toArray⟩),v]) ⟨rfl,none,by rw[List.take_zero];exact e0⟩ ?_ ?_
  ·rintro i c σ H2 hi ⟨rfl,v,rfl⟩
   have hl:(d9 (z.cps.toList.take i)).length≤4000:=by
    refine Nat.le_trans (CK _) ?_
    rw[List.length_take,Array.length_toList]
    have:z.cps.size≤4000:=XI
    omega
   refine⟨_,rfl,_,rfl,_,_,rfl,rfl,_,rfl,?_⟩
   refine bu (fun ha=>?_) (fun ha=>?_)
   ·have ha':away ⟨(d9 (z.cps.toList.take i)).toArray⟩ c=true:=ha
    refine⟨_,rfl,_,rfl,_,_,rfl,rfl,?_,rfl,some (.str (sg c)),?_⟩
    ·refine Nat.le_trans (show _≤4001 from ?_) (by decide)
     show Array.size _+1≤4001
     rw[List.size_toArray];omega
    ·rw[take_snoc hi,mF]
     unfold gG
     rw[if_pos ha',←JU]
     rfl
   ·have ha':¬away ⟨(d9 (z.cps.toList.take i)).toArray⟩ c=true:=ha
    refine⟨rfl,some (.str (sg c)),?_⟩
    rw[take_snoc hi,mF]
    unfold gG
    rw[if_neg ha']
    rfl
  ·rintro σ H2 ⟨rfl,v,rfl⟩
   refine⟨_,rfl,?_⟩
   rw[List.take_of_length_le (Nat.le_refl _)]
   exact k
def mV (C:Addr):Sp:=fun vs H Q _=>∃(x dx:Addr) (p q f:Str) (b1 b2 b3 b4:Bool),vs=[.ref x]∧H x=some (.ins C dx (CI p q f b1 b2 b3 b4))∧Gd p q f∧Q (.str (tO ((p++q)++f))) H
theorem uM:aJ P w K mg base bG 2 (aA 15) (aM 15) ["self"] (mV (aA 64)):=by
 have ID:aJ P w K mg base bG 1 (aA 14) (aM 14) ["text"] Eg:=Kh T
 refine T.vP.ok uD (fun vs H Q E h=>?_) (fun cdv A outer s H vs Q E hr h=>?_)
 ·obtain⟨x,dx,p,q,f,b1,b2,b3,b4,rfl,_⟩:=h;rfl
 ·have hu:=bg hr
  have g8:=hr.aP
  obtain⟨x,dx,p,q,f,b1,b2,b3,b4,rfl,hx,g,k⟩:=h
  have hp3:=g.p3;have hq2:=g.q2;have hf2:=g.f2
  refine⟨_,(ak (ay (gn ID hr T.Om T.Iq.kp T.Ol (af (aK cE (aK cE (aV K rfl (pv 0) rfl) (aV K rfl (pv 0) rfl)) (aV K rfl (pv 0) rfl)) ah)))),?_⟩
  refine⟨_,rfl,x,(aA 64),dx,_,_,rfl,hx,T.aL,T.cj,rfl,_,rfl,x,(aA 64),dx,_,_,rfl,hx,T.aL,T.cH,rfl,_,_,rfl,rfl,Nat.le_trans (show p.length+q.length≤5 by omega) (by decide),_,rfl,x,(aA 64),dx,_,_,rfl,hx,T.aL,T.bS,rfl,_,_,rfl,rfl,?_,_,rfl,?_,k⟩
  ·rw[cy];exact Nat.le_trans (show p.length+q.length+f.length≤7 by omega) (by decide)
  ·rw[cy,cy];omega
def AU (K:W.Frag) (C:Addr):Sp:=fun vs H Q _=>∃(x dx s:Addr) (w u:Str) (p q f:Str) (b1 b2 b3 b4:Bool),vs=[.ref x,.ref s]∧H x=some (.ins C dx (CI p q f b1 b2 b3 b4))∧aY K H s [.str w,.str u]∧Q (.bl (dJ f w u)) H
theorem IE:aJ P w K mg base bG 1 (aA 16) (aM 16) ["dialect", "state"] (AU K (aA 64)):=by
 refine T.C8.ok Io (fun vs H Q E h=>?_) (fun cdv A outer s H vs Q E hr h=>?_)
 ·obtain⟨x,dx,s,w,u,p,q,f,b1,b2,b3,b4,rfl,_⟩:=h;rfl
 ·have hu:=bg hr
  have g8:=hr.aP
  obtain⟨x,dx,s,w,u,p,q,f,b1,b2,b3,b4,rfl,hx,hs,k⟩:=h
  unfold dJ at k
  refine⟨_,(ai (aG (PW.pt (gX (dw bA (gw K (pv 1) aq) au) (gZ (dw bA (gw K (pv 1) aq) au)))) (ak (ay gA)) az)
   (ak (ay (Dq lE (gw K (pv 1) aq) (aV K rfl (pv 0) rfl) rfl)))),?_⟩
  refine⟨_,rfl,s,_,_,_,rfl,rfl,hs,rfl,rfl,_,rfl,bu (fun (h1:bz u ("":Str)=true)=>n8 ?_) (fun (h1:¬bz u ("":Str)=true)=>?_)⟩
  ·rw[if_pos h1] at k
   exact k
  rw[if_neg h1] at k
  refine⟨_,rfl,s,_,_,_,rfl,rfl,hs,rfl,rfl,_,rfl,bu (fun (h2:bz w ("doubt":Str)=true)=>?_) (fun (h2:¬bz w ("doubt":Str)=true)=>?_)⟩
  ·rw[if_pos h2] at k
   exact k
  rw[if_neg h2] at k
  exact⟨_,rfl,s,_,_,_,rfl,rfl,hs,rfl,_,rfl,x,(aA 64),dx,_,_,rfl,hx,T.aL,T.bS,rfl,_,_,rfl,rfl,k⟩
def nt (K:W.Frag) (C CT:Addr):Sp:=fun vs H Q _=>∃(y s:Addr) (w u:Str) (c:Nat) (p q f:Str) (b1 b2 b3 b4:Bool),vs=[.ref y,.ref s,.str (sg c)]∧Tn C CT H y p q f b1 b2 b3 b4∧aY K H s [.str w,.str u]∧∀ v H',aD H H'→lvV K (mG p q f b1 b2 b3 b4 w u c) H' v→Q v H'
theorem wu:aJ P w K mg base bG 4 (aA 17) (aM 17) ["self", "state", "sign"] (nt K (aA 64) (aA 65)):=by
 have Gr:aJ P w K mg base bG 3 (aA 13) (aM 13) ["self", "state", "sign"] (wo K (aA 64) (aA 65)):=Ed T
 have Lo:aJ P w K mg base bG 1 (aA 16) (aM 16) ["dialect", "state"] (AU K (aA 64)):=IE T
 refine T.xG.ok nh (fun vs H Q E h=>?_) (fun cdv A outer s H vs Q E hr h=>?_)
 ·obtain⟨y,s,w,u,c,p,q,f,b1,b2,b3,b4,rfl,_⟩:=h;rfl
 ·have hu:=bg hr
  have g8:=hr.aP
  obtain⟨y,s,w,u,c,p,q,f,b1,b2,b3,b4,rfl,hT,hs,k⟩:=h
  unfold mG at k
  refine⟨_,(ai (aG (dw o9 (pv 1) bT) (ak (ay bT)) az)
   (ai (eS 3 nh.nd (lB (k:=3) (pv 0) T.jk T.FQ Gr (hr.mono (by decide)) T.FP .nil jy (af (pv 1) (af (pv 2) ah))))
   (ai (aG (PW.pt (gX (dw bA (gw K (pv 3) aq) au) (gZ (ck (bD (gn Lo hr T.Lj T.C8.kp T.Li (af (aV K rfl (pv 0) rfl) (af (gw K (pv 3) aq) ah)))))))) (ak (ay bT)) az)
   (ak (ay (pv 3)))))),?_⟩
  obtain⟨dy,d,dd,ey,ed⟩:=hT.ok
  refine⟨_,rfl,rfl,_,rfl,yH (fun z=>nomatch z) ⟨_,rfl,y,dy,_,rfl,ey,rfl,_,rfl,_,rfl,y,s,w,u,c,p,q,f,b1,b2,b3,b4,rfl,hT,hs,fun v H5 s5 r=>?_⟩⟩
  cases VS:bN p q f b1 b2 b3 b4 w u c with
  | go kd w3 u3 =>
   rw[VS] at r k
   obtain⟨hk,a,b,rfl,ha,hb⟩:=r
   have ey5:=s5 _ _ ey
   have ed5:=s5 _ _ ed
   have k:∀ v H',aD H H'→lvV K (if dJ f w3 u3=true then some (kd,w3,u3) else none) H' v→Q v H':=k
   refine⟨_,rfl,a,_,_,_,rfl,rfl,ha,rfl,rfl,_,rfl,mC hk ?_⟩
   refine⟨_,rfl,y,_,_,_,_,rfl,ey5,T.jk,T.bO,rfl,_,rfl,a,_,_,_,rfl,rfl,ha,rfl,d,dd,b,w3,u3,p,q,f,b1,b2,b3,b4,rfl,ed5,hb,_,rfl,?_⟩
   by_cases hL:dJ f w3 u3=true
   ·rw[if_pos hL] at k
    exact J7 hL ⟨_,rfl,k _ _ s5 ⟨a,b,rfl,ha,hb⟩⟩
   ·rw[if_neg hL] at k
    exact Nx (jA hL) (k _ _ s5 rfl)
  | uq e =>
   rw[VS] at r k
   obtain⟨a,rfl,ha⟩:=r
   have k:∀ v H',aD H H'→lvV K none H' v→Q v H':=k
   exact⟨_,rfl,a,_,_,_,rfl,rfl,ha,rfl,rfl,_,rfl,mw (bq _) (n8 (k _ _ s5 rfl))⟩
def qx (K:W.Frag):Sp:=fun vs H Q _=>∃(l:Addr) (ys:List V) (ts:List (Str×Str)) (n:Nat) (kd s:Str),vs=[.ref l,.int n,.str kd,.str s]∧H l=some (.lst ys)∧Paired (eO K H) ys ts∧∀ H',aD H H'→Q (adQ (qQ ts n kd s)) H'
theorem yZ:aJ P w K mg base bG 1 (aA 18) (aM 18) ["tokens", "count", "kind", "sign"] (qx K):=by
 refine T.mQ.ok qq (fun vs H Q E h=>?_) (fun cdv A outer s H vs Q E hr h=>?_)
 ·obtain⟨l,ys,ts,n,kd,s,rfl,_⟩:=h;rfl
 ·have hu:=bg hr
  have g8:=hr.aP
  obtain⟨l,ys,ts,n,kd,s,rfl,hl,tp,k⟩:=h
  have jx:=hr.units
  refine⟨_,(ai (aG (dw bA (pv 2) au) (ak (ay (pv 1))) az)
   (ai (eS 4 qq.nd (aC (af (pv 2) (af (qG (dw bA (pv 2) au) (pv 3) au) ah))))
   (ai (aG (PW.pt (eZ (dw Cf (pv 1) (j8 (aZ K rfl) T.bX (af (pv 0) ah))) (dU (dw (DA (YL _ _ K) rfl (hn0 jx)) (Ad K (pv 0) (pv 1)) (pv 4))))) (ak (ay (aK e9 (pv 1) aq))) az)
   (ak (ay bT))))),?_⟩
  unfold qQ at k
  have tl:=tp.length
  refine⟨_,rfl,rfl,_,rfl,bu (fun (h1:bz kd ("skip":Str)=true)=>?_) (fun (h1:¬bz kd ("skip":Str)=true)=>?_)⟩
  ·rw[if_pos h1] at k
   exact⟨_,rfl,k H (aD.refl _)⟩
  rw[if_neg h1] at k
  refine⟨_,rfl,_,rfl,rfl,_,rfl,bu (fun (h2:bz kd ("put":Str)=true)=>?_) (fun (h2:¬bz kd ("put":Str)=true)=>?_)⟩
  ·rw[if_pos h2] at k
   refine⟨_,rfl,(by show 2≤sizeLine;decide),fun t ht=>?_⟩
   (have s1:=ao (o:=HO.tup [V.str kd,V.str s]) ht;have g1:=aj (H:=H) (a:=t) (o:=HO.tup [V.str kd,V.str s]);generalize upd H t (HO.tup [V.str kd,V.str s])=H1 at s1 g1 ⊢)
   have hl1:=s1 _ _ hl
   dsimp only[bf]
   refine⟨_,rfl,_,rfl,l,_,rfl,.inl (aU.of hl1),_,_,rfl,rfl,_,rfl,bu (fun h3=>?_) (fun h3=>?_)⟩
   ·have h3:=of_decide_eq_true h3
    have hn:n < ys.length:=by omega
    obtain⟨y,hy⟩:∃ y,ys[n]? = some y:=⟨_,List.getElem?_eq_getElem hn⟩
    obtain⟨⟨k1,s2⟩,ht1,a,rfl,ha⟩:=aQ tp n y hy
    have hat:Bk ys (n:Int)=some (.ref a):=iH hy
    refine⟨_,rfl,_,rfl,l,_,_,.ref a,rfl,rfl,aU.of hl1,hat,_,rfl,a,t,_,_,rfl,rfl,pH (aB s1 ha),pH (aY.of g1),_,rfl,bu (fun h4=>?_) (fun h4=>?_)⟩
    ·have h4:=jH.mp (of_decide_eq_true h4)
     rw[ht1,if_pos (by rw[h4])] at k
     have kk:=k H1 s1
     exact⟨_,rfl,_,_,rfl,rfl,kk⟩
    ·have h4:¬(k1,s2)=(kd,s):=fun q=>h4 (decide_eq_true (jH.mpr q))
     rw[ht1,if_neg (fun q=>h4 (Option.some.inj q))] at k
     exact k H1 s1
   ·have h3:=of_decide_eq_false (Bool.eq_false_iff.mpr h3)
    have hn:ts[n]? = none:=List.getElem?_eq_none (by omega)
    rw[hn,if_neg (fun q=>nomatch q)] at k
    exact k H1 s1
  ·rw[if_neg h2] at k
   refine⟨(by show 2≤sizeLine;decide),fun t ht=>?_⟩
   (have s1:=ao (o:=HO.tup [V.str kd,V.str ("":Str)]) ht;have g1:=aj (H:=H) (a:=t) (o:=HO.tup [V.str kd,V.str ("":Str)]);generalize upd H t (HO.tup [V.str kd,V.str ("":Str)])=H1 at s1 g1 ⊢)
   have hl1:=s1 _ _ hl
   dsimp only[bf]
   refine⟨_,rfl,_,rfl,l,_,rfl,.inl (aU.of hl1),_,_,rfl,rfl,_,rfl,bu (fun h3=>?_) (fun h3=>?_)⟩
   ·have h3:=of_decide_eq_true h3
    have hn:n < ys.length:=by omega
    obtain⟨y,hy⟩:∃ y,ys[n]? = some y:=⟨_,List.getElem?_eq_getElem hn⟩
    obtain⟨⟨k1,s2⟩,ht1,a,rfl,ha⟩:=aQ tp n y hy
    have hat:Bk ys (n:Int)=some (.ref a):=iH hy
    refine⟨_,rfl,_,rfl,l,_,_,.ref a,rfl,rfl,aU.of hl1,hat,_,rfl,a,t,_,_,rfl,rfl,pH (aB s1 ha),pH (aY.of g1),_,rfl,bu (fun h4=>?_) (fun h4=>?_)⟩
    ·have h4:=jH.mp (of_decide_eq_true h4)
     rw[ht1,if_pos (by rw[h4])] at k
     have kk:=k H1 s1
     exact⟨_,rfl,_,_,rfl,rfl,kk⟩
    ·have h4:¬(k1,s2)=(kd,Str.ofString ""):=fun q=>h4 (decide_eq_true (jH.mpr q))
     rw[ht1,if_neg (fun q=>h4 (Option.some.inj q))] at k
     exact k H1 s1
   ·have h3:=of_decide_eq_false (Bool.eq_false_iff.mpr h3)
    have hn:ts[n]? = none:=List.getElem?_eq_none (by omega)
    rw[hn,if_neg (fun q=>nomatch q)] at k
    exact k H1 s1
def mW (K:W.Frag) (C CT CM:Addr):Sp:=fun vs H Q _=>∃(m dm x dx l:Addr) (ys:List V) (ts:List (Str×Str)) (p q f:Str) (b1 b2 b3 b4:Bool),vs=[.ref m,.ref x,.ref l]∧H m=some (.ins CM dm [])∧H x=some (.ins C dx (CI p q f b1 b2 b3 b4))∧Gd p q f∧H l=some (.lst ys)∧Paired (eO K H) ys ts∧∀ H',wZ K C CT CM H' m p q f b1 b2 b3 b4 ts→(∀ b o,H b=some o→b≠m→H' b=some o)→(∃ dm y,H' m=some (.ins CM dm (SY y l)))→Q .non H'
theorem uN:aJ P w K mg base bG 8 (aA 19) (aM 19) ["self", "dialect", "tokens"] (mW K (aA 64) (aA 65) (aA 66)):=by
 have za:aJ P w K mg base bG 6 (aA 12) (aM 12) ["self", "dialect"] (oU (aA 64) (aA 65)):=xO T
 refine T.vS.ok uF (fun vs H Q E h=>?_) (fun cdv A outer s H vs Q E hr h=>?_)
 ·obtain⟨m,dm,x,dx,l,ys,ts,p,q,f,b1,b2,b3,b4,rfl,_⟩:=h;rfl
 ·have hu:=bg hr
  have g8:=hr.aP
  obtain⟨m,dm,x,dx,l,ys,ts,p,q,f,b1,b2,b3,b4,rfl,hm,hx,g,hl,tp,k⟩:=h
  refine⟨_,(ai (jF (pv 0) (rV (k:=6) T.S8 za (hr.mono (by decide)) rfl T.S7 T.yT .nil jy (af (pv 1) ah)) rfl)
   (ak (jF (pv 0) (pv 2) rfl))),?_⟩
  refine⟨_,rfl,fun y dy hy VN ne=>⟨y,dy,x,dx,p,q,f,b1,b2,b3,b4,rfl,aj,kE hy VN hx,g,fun H2 hT kp=>⟨rfl,?_⟩⟩⟩
  have s2:=rZ hy VN kp
  have hm2:=s2 _ _ hm
  refine⟨_,rfl,m,(aA 66),dm,_,rfl,hm2,T.gU,T.jQ,(by show 0 < 1000;decide),?_⟩
  refine⟨_,rfl,_,rfl,m,(aA 66),dm,_,rfl,aj,T.gU,T.gb,(by show 1 < 1000;decide),?_⟩
  have nlm:l≠m:=fun q=>by rw[q,hm] at hl;cases hl
  refine k _ ⟨dm,y,l,ys,aj,?_,(aE nlm).trans ((aE nlm).trans (s2 _ _ hl)),qS aj (qS hm2 (cS s2 tp))⟩ (fun b o e hb=>(aE hb).trans ((aE hb).trans (s2 _ _ e))) ⟨dm,y,aj⟩
  refine Tn.off aj ?_ ?_ (Tn.off hm2 ?_ ?_ hT)
  ·intro d fs q;injection q with q1 q2 q3;injection q3 with q4 q5;injection q4 with q6 q7;exact absurd q6 (by decide +kernel)
  ·intro d q;injection q with q1 q2 q3;injection q3 with q4 q5;injection q4 with q6 q7;exact absurd q6 (by decide +kernel)
  ·intro d fs q;injection q with q1 q2 q3;cases q3
  ·intro d q;injection q with q1 q2 q3;cases q3
def jD (K:W.Frag) (C CT CM:Addr):Sp:=fun vs H Q _=>∃(m:Addr) (v:V) (o:Option fT) (c:Nat) (ts:List (Str×Str)) (p q f:Str) (b1 b2 b3 b4:Bool),vs=[.ref m,v,.str (sg c)]∧wZ K C CT CM H m p q f b1 b2 b3 b4 ts∧ff K H o v∧∀ v' H',aD H H'→ff K H' (adR p q f b1 b2 b3 b4 ts o c) v'→Q v' H'
theorem qE:aJ P w K mg base bG 5 (aA 20) (aM 20) ["self", "mark", "sign"] (jD K (aA 64) (aA 65) (aA 66)):=by
 have oV:aJ P w K mg base bG 4 (aA 17) (aM 17) ["self", "state", "sign"] (nt K (aA 64) (aA 65)):=wu T
 have rH:aJ P w K mg base bG 1 (aA 18) (aM 18) ["tokens", "count", "kind", "sign"] (qx K):=yZ T
 refine T.rq.ok cB (fun vs H Q E h=>?_) (fun cdv A outer s H vs Q E hr h=>?_)
 ·obtain⟨m,v,o,c,ts,p,q,f,b1,b2,b3,b4,rfl,_⟩:=h;rfl
 ·have hu:=bg hr
  have g8:=hr.aP
  obtain⟨m,v,o,c,ts,p,q,f,b1,b2,b3,b4,rfl,hM,hv,k⟩:=h
  obtain⟨dm,y,l,ys,em,eT,el,tp⟩:=hM.ok
  cases o with
  | none =>
   have hv:v=.non:=hv
   subst hv
   refine⟨_,(ai (aG (dw o9 (pv 1) bT) (ak (ay bT)) az)
   (ai (eS 3 cB.nd (lB (k:=4) (aV K rfl (pv 0) rfl) T.jk T.oK oV (hr.mono (by decide)) T.oJ .nil jy (af (gw K (pv 1) aq) (af (pv 2) ah))))
   (ai (aG (dw o9 (pv 3) bT) (ak (ay bT)) az)
   (ai (eS 4 cB.nd (gn rH hr T.rm T.mQ.kp T.rj (af (aV K rfl (pv 0) rfl) (af (gw K (pv 1) aq) (af (gw K (pv 3) aq) (af (pv 2) ah))))))
   (ak (ay (qG (dw o9 (pv 4) bT) bT (aC (af (gw K (pv 3) aq) (af (pv 4) ah)))))))))),?_⟩
   exact⟨_,rfl,rfl,_,rfl,Rt rfl (k _ _ (aD.refl _) rfl)⟩
  | some mk =>
  have k:∀ v' H',aD H H'→vv K (jL p q f b1 b2 b3 b4 ts mk c) H' v'→Q v' H':=fun v' H' s' q'=>k v' H' s' (DR q')
  obtain⟨b,s,rfl,hb,hs⟩:=hv
  obtain⟨dy,d,dd,ey,ed⟩:=eT.ok
  refine⟨_,(ai (aG (dw o9 (pv 1) bT) (ak (ay bT)) az)
   (ai (eS 3 cB.nd (lB (k:=4) (aV K rfl (pv 0) rfl) T.jk T.oK oV (hr.mono (by decide)) T.oJ .nil jy (af (gw K (pv 1) aq) (af (pv 2) ah))))
   (ai (aG (dw o9 (pv 3) bT) (ak (ay bT)) az)
   (ai (eS 4 cB.nd (gn rH hr T.rm T.mQ.kp T.rj (af (aV K rfl (pv 0) rfl) (af (gw K (pv 1) aq) (af (gw K (pv 3) aq) (af (pv 2) ah))))))
   (ak (ay (qG (dw o9 (pv 4) bT) bT (aC (af (gw K (pv 3) aq) (af (pv 4) ah)))))))))),?_⟩
  unfold jL at k
  refine⟨_,rfl,rfl,_,rfl,yH (fun z=>nomatch z) (⟨_,rfl,_,_,_,_,_,rfl,em,T.gU,T.jQ,rfl,_,_,_,rfl,ey,rfl,_,rfl,_,_,_,_,rfl,rfl,hb,rfl,_,rfl,_,_,_,_,_,_,_,_,_,_,_,_,rfl,eT,hs,fun v5 H5 s5 r=>?_⟩)⟩
  cases hL:mG p q f b1 b2 b3 b4 mk.1.1 mk.1.2 c with
  | none =>
   rw[hL] at r k
   have r:v5=.non:=r
   subst r
   have k:∀ v' H',aD H H'→vv K none H' v'→Q v' H':=k
   exact⟨_,rfl,rfl,_,rfl,Rt rfl (k _ _ s5 rfl)⟩
  | some kwu =>
   obtain⟨kd,w3,u3⟩:=kwu
   rw[hL] at r k
   obtain⟨a,b2,rfl,ha,hb2⟩:=r
   have k:∀ v' H',aD H H'→vv K (match qQ ts mk.2 kd (sg c) with | none=>none | some n=>some ((w3,u3),n)) H' v'→Q v' H':=k
   have TN:=s5 _ _ em
   have el5:=s5 _ _ el
   have TQ:=cS s5 tp
   have hb5:=aB s5 hb
   refine⟨_,rfl,rfl,_,rfl,yH (fun z=>nomatch z) ?_⟩
   refine⟨_,rfl,_,_,_,_,_,rfl,TN,T.gU,T.gb,rfl,_,rfl,_,_,_,_,rfl,rfl,hb5,rfl,_,rfl,_,_,_,_,rfl,rfl,ha,rfl,_,rfl,l,ys,ts,mk.2,kd,sg c,rfl,el5,TQ,fun H6 s6=>?_⟩
   have s56:=s5.trans s6
   cases hC:qQ ts mk.2 kd (sg c) with
   | none =>
    rw[hC] at k
    exact⟨_,rfl,rfl,_,rfl,Rt rfl (k _ _ s56 rfl)⟩
   | some n =>
    rw[hC] at k
    refine⟨_,rfl,rfl,_,rfl,yH (fun z=>nomatch z) ⟨_,rfl,_,_,_,_,rfl,rfl,aB s6 ha,rfl,_,rfl,(by show 2≤sizeLine;decide),fun t ht=>?_⟩⟩
    exact k _ _ (s56.trans (ao ht)) ⟨t,b2,rfl,aY.of aj,aB (s6.trans (ao ht)) hb2⟩
def jo (K:W.Frag) (C CT CM:Addr):Sp:=fun vs H Q _=>∃(m:Addr) (v:V) (o:Option fT) (ts:List (Str×Str)) (p q f:Str) (b1 b2 b3 b4:Bool),vs=[.ref m,v]∧wZ K C CT CM H m p q f b1 b2 b3 b4 ts∧ff K H o v∧∀ H',aD H H'→Q (.bl (decide (o=some ((Str.ofString "row",Str.ofString ""),ts.length)))) H'
theorem qc:aJ P w K mg base bG 1 (aA 21) (aM 21) ["self", "mark"] (jo K (aA 64) (aA 65) (aA 66)):=by
 refine T.qD.ok pQ (fun vs H Q E h=>?_) (fun cdv A outer s H vs Q E hr h=>?_)
 ·obtain⟨m,v,o,ts,p,q,f,b1,b2,b3,b4,rfl,_⟩:=h;rfl
 ·have hu:=bg hr
  have g8:=hr.aP
  obtain⟨m,v,o,ts,p,q,f,b1,b2,b3,b4,rfl,hM,hv,k⟩:=h
  have jx:=hr.units
  obtain⟨dm,y,l,ys,em,eT,el,tp⟩:=hM.ok
  have tl:=tp.length
  refine⟨_,(ak (ay (CH (SK (YM _ _ K) rfl (hn1 jx)) (pv 1) (aC (af (m8 rfl T.oN) (af (j8 (aZ K rfl) T.bX (af (aV K rfl (pv 0) rfl) ah)) ah)))))),?_⟩
  refine⟨_,rfl,_,rfl,_,_,_,_,_,rfl,em,T.gU,T.gb,rfl,_,_,rfl,.inl (aU.of el),(by show(2:Nat)≤sizeLine;decide),fun t ht=>?_⟩
  (have st:=ao (o:=HO.tup [V.ref (aA 76),V.int ↑ys.length]) ht;have g1:=aj (H:=H) (a:=t) (o:=HO.tup [V.ref (aA 76),V.int ↑ys.length]);generalize upd H t (HO.tup [V.ref (aA 76),V.int ↑ys.length])=H1 at st g1 ⊢)
  have e2:qm (YM _ _ K) H1 (jz ((Str.ofString "row",Str.ofString ""),ts.length)) t:=pI (P:=P) (w:=w) (m:=((Str.ofString "row",Str.ofString ""),ts.length)) (by rw[←tl];exact aY.of g1) (.inr T.oO)
  refine⟨t,_,rfl,e2,?_⟩
  cases o with
  | none =>
   have hv:v=.non:=hv
   subst hv
   exact .inl ⟨rfl,k _ st⟩
  | some mk =>
   obtain⟨b,s,rfl,hb,hs⟩:=hv
   have e1:qm (YM _ _ K) H1 (jz mk) b:=pI (P:=P) (w:=w) (aB st hb) (aB st hs)
   refine .inr ⟨b,_,rfl,e1,?_⟩
   have ed:decide (jz mk=jz ((Str.ofString "row",Str.ofString ""),ts.length))=decide (some mk=some ((Str.ofString "row",Str.ofString ""),ts.length)):=by rw[Bool.eq_iff_iff,decide_eq_true_iff,decide_eq_true_iff,Option.some_inj];exact oh
   rw[ed]
   exact k _ st
def AV:Sp:=fun vs H Q _=>∃ z:Str,vs=[.str z]∧dD z∧z.length≤400∧∀ H',aD H H'→Q (.bl true) H'
theorem IF:aJ P w K mg base bG 3 (aA 22) (aM 22) ["thing"] AV:=by
 have wz:aJ P w K mg base bG 2 (aA 1) (aM 1) ["text"] mS:=uL T
 refine T.C9.ok Ip (fun vs H Q E h=>?_) (fun cdv A outer s H vs Q E hr h=>?_)
 ·obtain⟨z,rfl,_⟩:=h;rfl
 ·have hu:=bg hr
  have g8:=hr.aP
  obtain⟨z,rfl,g,hz,k⟩:=h
  refine⟨_,(ai (aG (PW.pt (gX (ck (bD (j8 (bQ K rfl) T.bw (af (pv 0) (af (Ic "str" T.Ea) ah))))) (gZ (dw qI (j8 cX T.bX (af (pv 0) ah)) (pF rfl T.jn.choose_spec))))) (ak (ay gA)) az)
   (ak (ay (gn wz hr T.vM T.nj.kp T.vL (af (pv 0) ah))))),?_⟩
  refine⟨_,rfl,_,_,_,true,rfl,.str _,.inl ⟨_,rfl,rfl⟩,true,rfl,cz ?_⟩
  refine⟨_,rfl,z,rfl,Nat.le_trans hz (by decide),_,_,rfl,rfl,_,rfl,Nv (by omega) ?_⟩
  exact⟨_,rfl,z,rfl,g,by omega,k⟩
def Df (K:W.Frag):Sp:=fun vs H Q _=>∃(a:Addr) (r:List Str),vs=[.ref a]∧H a=some (.lst (r.map V.str))∧(∀ c∈r,dD c)∧(lens r).sum≤400∧r.length≤1000∧∀ H',aD H H'→Q (.bl (DO r)) H'
theorem Lp:aJ P w K mg base bG 4 (aA 23) (aM 23) ["thing"] (Df K):=by
 have Lq:aJ P w K mg base bG 3 (aA 22) (aM 22) ["thing"] AV:=IF T
 refine T.FT.ok Lh (fun vs H Q E h=>?_) (fun cdv A outer s H vs Q E hr h=>?_)
 ·obtain⟨a,r,rfl,_⟩:=h;rfl
 ·have hu:=bg hr
  have g8:=hr.aP
  obtain⟨a,r,rfl,ha,g,hs,hrl,k⟩:=h
  have hml:(r.map V.str).length=r.length:=List.length_map ..
  refine⟨_,(ai (aG (PW.pt (gX (ck (bD (j8 (qN K rfl) T.bw (af (pv 0) (af (Ic "list" T.p8) ah))))) (gX (dw Cf (j8 (aZ K rfl) T.bX (af (pv 0) ah)) aq) (gZ (dw qI (j8 (aZ K rfl) T.bX (af (pv 0) ah)) (pF rfl T.BO.choose_spec)))))) (ak (ay gA)) az)
   (ak (ay (j8 (rX K rfl rfl) T.D8 (af (dI rfl (show br ["thing"] (av om) ["cell"] 1 [] _ from CG) (bH K rfl (pv 0)) (fun _ _ _ _=>(gm 0 Ib)) (fun _ _ _ _=>dH) (fun _ _ _ _=>(gn Lq hr T.Ll T.C9.kp T.Lk (af (pv 0) ah)))) ah))))),?_⟩
  refine⟨_,rfl,a,_,_,true,rfl,.inr ⟨aU.of ha,rfl⟩,true,rfl,cz ?_⟩
  refine⟨_,rfl,a,_,rfl,.inl (aU.of ha),_,_,rfl,rfl,_,rfl,rd2 (fun h1=>?_) (fun h1=>?_)⟩
  ·rw[NX (by omega)] at k
   exact n8 (k H (aD.refl _))
  refine⟨_,rfl,a,_,rfl,.inl (aU.of ha),_,_,rfl,rfl,_,rfl,rd2 (fun h2=>?_) (fun h2=>?_)⟩
  ·rw[NX (by omega)] at k
   exact k H (aD.refl _)
  rw[NW (by omega) (by omega)] at k
  refine⟨_,rfl,a,rfl,⟨_,aU.of ha⟩,fun D hD=>?_⟩
  refine cO (K:=K) (a:=a) (xs:=r.map V.str) (fun i ys τ H2=>(∃ v,τ=[v])∧aD H H2∧H2 D=some (.lst ys)∧ys=(List.replicate i true).map V.bl) ⟨⟨_,rfl⟩,ao hD,aj,rfl⟩ (fun i ys τ H2 _ p=>⟨aU.of (p.2.1 _ _ ha),p.2.2.1⟩) ?_ ?_
  ·rintro i e ys τ H2 hi ⟨⟨v,rfl⟩,s2,hl,rfl⟩
   have hil:i < (r.map V.str).length:=(List.getElem?_eq_some_iff.mp hi).1
   obtain⟨z,hz,rfl⟩:∃ z∈r,e=V.str z:=by
    obtain⟨z,hz,e2⟩:=List.mem_map.mp (List.mem_of_getElem? hi)
    exact⟨z,hz,e2.symm⟩
   refine sQ ?_
   refine⟨_,rfl,z,rfl,g z hz,Nat.le_trans (vp hz) hs,fun H3 s3=>⟨s3 _ _ hl,?_,⟨_,rfl⟩,aI hD (s2.trans s3),aj,?_⟩⟩
   ·rw[List.length_map,List.length_replicate]
    exact Nat.lt_of_lt_of_le (show i < 1001 by (rw[List.length_map] at hil;omega)) (by decide)
   ·rw[List.replicate_succ',List.map_append];rfl
  ·rintro ys τ H2 ⟨⟨v,rfl⟩,s2,hl,rfl⟩
   refine⟨D,List.replicate _ true,rfl,aU.of hl,?_⟩
   have e:(List.replicate (r.map V.str).length true).all id=true:=by
    rw[List.all_eq_true]
    intro b hb
    exact(List.mem_replicate.mp hb).2
   rw[e]
   exact k H2 s2
def qy (K:W.Frag):Sp:=fun vs H Q _=>∃(a:Addr) (r:List Str),vs=[.ref a]∧H a=some (.lst (r.map V.str))∧r.length≤20∧(lens r).sum≤400∧∀ H',aD H H'→Q (.int ((lens r).sum:Nat)) H'
theorem zb:aJ P w K mg base bG 1 (aA 24) (aM 24) ["row"] (qy K):=by
 refine T.rz.ok yM (fun vs H Q E h=>?_) (fun cdv A outer s H vs Q E hr h=>?_)
 ·obtain⟨a,r,rfl,_⟩:=h;rfl
 ·have hu:=bg hr
  have g8:=hr.aP
  obtain⟨a,r,rfl,ha,hr,hs,k⟩:=h
  refine⟨_,(ak (ay (j8 (Cv K rfl rfl) T.OC (af (dI rfl (show br ["row"] (av fk) ["cell"] 1 [] _ from CG) (bH K rfl (pv 0)) (fun _ _ _ _=>(gm 0 Ib)) (fun _ _ _ _=>dH) (fun _ _ _ _=>(j8 cX T.bX (af (pv 0) ah)))) ah)))),?_⟩
  refine⟨_,rfl,a,rfl,⟨_,aU.of ha⟩,fun D hD=>?_⟩
  refine cO (K:=K) (a:=a) (xs:=r.map V.str) (fun i ys τ H2=>(∃ v,τ=[v])∧aD H H2∧H2 D=some (.lst ys)∧ys=((lens r).take i).map fun n:Nat=>V.int n) ⟨⟨_,rfl⟩,ao hD,aj,rfl⟩ (fun i ys τ H2 _ p=>⟨aU.of (p.2.1 _ _ ha),p.2.2.1⟩) ?_ ?_
  ·rintro i e ys τ H2 hi ⟨⟨v,rfl⟩,s2,hl,rfl⟩
   rw[List.getElem?_map] at hi
   cases hz:r[i]? with
   | none=>rw[hz] at hi;cases hi
   | some z =>
    rw[hz] at hi
    cases hi
    have hzr:=List.mem_of_getElem? hz
    have XI:=Nat.le_trans (vp hzr) hs
    refine sQ ?_
    refine⟨_,rfl,z,rfl,Nat.le_trans XI (by decide),hl,?_,⟨_,rfl⟩,aI hD s2,aj,?_⟩
    ·rw[List.length_map,List.length_take]
     unfold lens;rw[List.length_map]
     exact Nat.lt_of_le_of_lt (show _≤20 by omega) (by decide)
    ·rw[aO (l:=lens r) (c:=z.length) (by unfold lens;rw[List.getElem?_map,hz];rfl),List.map_append];rfl
  ·rintro ys τ H2 ⟨⟨v,rfl⟩,s2,hl,rfl⟩
   refine⟨D,lens r,rfl,?_,by omega,k H2 s2⟩
   have e:(lens r).take (r.map V.str).length=lens r:=List.take_of_length_le (by unfold lens;rw[List.length_map,List.length_map];exact Nat.le_refl _)
   rw[e] at hl
   exact aU.of hl
def yw (K:W.Frag):Sp:=fun vs H Q _=>∃(a:Addr) (xs:List V) (t:List (List Str)),vs=[.ref a]∧H a=some (.lst xs)∧Paired (bF H) xs t∧S3 t∧∀ H',aD H H'→Q (.bl (Am t)) H'
theorem Gs:aJ P w K mg base bG 5 (aA 25) (aM 25) ["thing"] (yw K):=by
 have OD:aJ P w K mg base bG 4 (aA 23) (aM 23) ["thing"] (Df K):=Lp T
 have AW:aJ P w K mg base bG 1 (aA 24) (aM 24) ["row"] (qy K):=zb T
 refine T.AG.ok FI (fun vs H Q E h=>?_) (fun cdv A outer s H vs Q E hr h=>?_)
 ·obtain⟨a,xs,t,rfl,_⟩:=h;rfl
 ·have hu:=bg hr
  have g8:=hr.aP
  obtain⟨a,xs,t,rfl,ha,tr,g,k⟩:=h
  have hn:=g.n
  have hlx:=tr.length
  refine⟨_,(ai (aG (PW.pt (gX (ck (bD (j8 (qN K rfl) T.bw (af (pv 0) (af (Ic "list" T.p8) ah))))) (gZ (dw qI (j8 (aZ K rfl) T.bX (af (pv 0) ah)) (pF rfl T.Eb.choose_spec))))) (ak (ay gA)) az)
   (ai (aG (ck (bD (j8 (rX K rfl rfl) T.D8 (af (dI rfl (show br ["thing"] (av iP) ["row"] 1 [] _ from CG) (bH K rfl (pv 0)) (fun _ _ _ _=>(gm 0 Ib)) (fun _ _ _ _=>dH) (fun _ _ _ _=>(gn OD hr T.Oq T.FT.kp T.Oo (af (pv 0) ah)))) ah)))) (ak (ay gA)) az)
   (ak (ay (CH Mv (j8 (Cv K rfl rfl) T.OC (af (dI rfl (show br ["thing"] (av iP) ["row"] 1 [] _ from CG) (bH K rfl (pv 0)) (fun _ _ _ _=>(gm 0 Ib)) (fun _ _ _ _=>dH) (fun _ _ _ _=>(gn AW hr T.AF T.rz.kp T.AE (af (pv 0) ah)))) ah)) (pF rfl T.jn.choose_spec)))))),?_⟩
  refine⟨_,rfl,a,_,_,true,rfl,.inr ⟨aU.of ha,rfl⟩,true,rfl,cz ?_⟩
  refine⟨_,rfl,a,_,rfl,.inl (aU.of ha),_,_,rfl,rfl,_,rfl,rd2 (fun h1=>?_) (fun h1=>?_)⟩
  ·have e:Am t=false:=by unfold Am;rw[decide_eq_false (by omega)];rfl
   rw[e] at k
   exact k H (aD.refl _)
  refine⟨_,rfl,a,rfl,⟨_,aU.of ha⟩,fun D hD=>?_⟩
  refine cO (K:=K) (a:=a) (xs:=xs) (fun i ys τ H2=>(∃ v,τ=[v])∧aD H H2∧H2 D=some (.lst ys)∧ys=((t.take i).map DO).map V.bl) ⟨⟨_,rfl⟩,ao hD,aj,rfl⟩ (fun i ys τ H2 _ p=>⟨aU.of (p.2.1 _ _ ha),p.2.2.1⟩) ?_ ?_
  ·rintro i e ys τ H2 hi ⟨⟨v,rfl⟩,s2,hl,rfl⟩
   have hil:i < xs.length:=(List.getElem?_eq_some_iff.mp hi).1
   obtain⟨r,hr,b,rfl,hb⟩:=aQ tr i e hi
   have L7:=List.mem_of_getElem? hr
   refine sQ ?_
   refine⟨_,rfl,b,r,rfl,s2 _ _ hb,g.ok r L7,Nat.le_trans (sd L7) g.sum,g.rl r L7,fun H3 s3=>⟨s3 _ _ hl,?_,⟨_,rfl⟩,aI hD (s2.trans s3),aj,?_⟩⟩
   ·rw[List.length_map,List.length_map,List.length_take]
    exact Nat.lt_of_le_of_lt (show _≤1000 by omega) (by decide)
   ·rw[aO hr,List.map_append,List.map_append];rfl
  ·rintro ys τ H2 ⟨⟨v,rfl⟩,s2,hl,rfl⟩
   rw[hlx,List.take_of_length_le (Nat.le_refl _)] at hl
   refine⟨D,t.map DO,rfl,aU.of hl,?_⟩
   have ea:(t.map DO).all id=t.all DO:=by rw[List.all_map];rfl
   rw[ea]
   cases hA:t.all DO with
   | false =>
    have e:Am t=false:=by unfold Am;rw[hA,Bool.and_false]
    rw[e] at k
    exact⟨_,rfl,n8 (k H2 s2)⟩
   | true =>
    have hB:Am t=true:=by unfold Am;rw[hA,decide_eq_true (by omega)];rfl
    have gok:=Qf g hB
    rw[hB] at k
    refine⟨true,rfl,cz ?_⟩
    clear hl
    have ha2:=s2 _ _ ha
    refine⟨_,rfl,a,rfl,⟨_,aU.of ha2⟩,fun E hE=>?_⟩
    refine cO (K:=K) (a:=a) (xs:=xs) (fun i ys τ H3=>(∃ v,τ=[v])∧aD H2 H3∧H3 E=some (.lst ys)∧ys=((t.map fun r=>(lens r).sum).take i).map fun n:Nat=>V.int n) ⟨⟨_,rfl⟩,ao hE,aj,rfl⟩ (fun i ys τ H3 _ p=>⟨aU.of (p.2.1 _ _ ha2),p.2.2.1⟩) ?_ ?_
    ·rintro i e ys τ H3 hi ⟨⟨v,rfl⟩,s3,hl,rfl⟩
     obtain⟨r,hr,b,rfl,hb⟩:=aQ tr i e hi
     have L7:=List.mem_of_getElem? hr
     have hil:i < xs.length:=(List.getElem?_eq_some_iff.mp hi).1
     refine sQ ?_
     refine⟨_,rfl,b,r,rfl,s3 _ _ (s2 _ _ hb),(gok.rows r L7).hi,Nat.le_trans (sd L7) gok.sum,fun H4 s4=>⟨s4 _ _ hl,?_,⟨_,rfl⟩,aI hE (s3.trans s4),aj,?_⟩⟩
     ·rw[List.length_map,List.length_take,List.length_map]
      exact Nat.lt_of_le_of_lt (show _≤60 by omega) (by decide)
     ·rw[aO (l:=t.map fun r=>(lens r).sum) (c:=(lens r).sum) (by rw[List.getElem?_map,hr];rfl),List.map_append];rfl
    ·rintro ys τ H3 ⟨⟨v,rfl⟩,s3,hl,rfl⟩
     have e:(t.map fun r=>(lens r).sum).take xs.length=t.map fun r=>(lens r).sum:=List.take_of_length_le (by rw[List.length_map,hlx];exact Nat.le_refl _)
     rw[e] at hl
     have hsum:=gok.sum
     refine⟨E,t.map fun r=>(lens r).sum,rfl,aU.of hl,by unfold total at hsum;omega,_,_,rfl,rfl,?_⟩
     have e2:decide ((((t.map fun r=>(lens r).sum).sum:Nat):Int)≤400)=true:=decide_eq_true (by unfold total at hsum;omega)
     have q:=k H3 (s2.trans s3)
     rw[←e2] at q
     exact q
def rJ (K:W.Frag):Sp:=fun vs H Q _=>∃(a:Addr) (xs:List V) (t:List (List Str)),vs=[.ref a]∧H a=some (.lst xs)∧Paired (bF H) xs t∧TabOk t∧∀ H',aD H H'→Q .non H'
theorem AX:aJ P w K mg base bG 6 (aA 26) (aM 26) ["thing"] (rJ K):=by
 have IG:aJ P w K mg base bG 5 (aA 25) (aM 25) ["thing"] (yw K):=Gs T
 refine T.tU.ok Ax (fun vs H Q E h=>?_) (fun cdv A outer s H vs Q E hr h=>?_)
 ·obtain⟨a,xs,t,rfl,_⟩:=h;rfl
 ·have hu:=bg hr
  have g8:=hr.aP
  obtain⟨a,xs,t,rfl,ha,tr,g,k⟩:=h
  refine⟨_,(ak (aG (ck (bD (gn IG hr T.Iu T.AG.kp T.Ir (af (pv 0) ah)))) (ak i6) az)),?_⟩
  exact⟨_,rfl,a,xs,t,rfl,ha,tr,g.s,fun H1 s1=>⟨_,rfl,J7 (Qg g) (k _ s1)⟩⟩
def oW (K:W.Frag):Sp:=fun vs H Q _=>∃(a:Addr) (r:List Str),vs=[.ref a]∧H a=some (.lst (r.map V.str))∧r.length≤20∧(lens r).sum≤400∧∀(l:Addr) (ys:List V) H',H l=none→H' l=some (.lst ys)→Paired (eO K H') ys (nR r)→aD H H'→Q (.ref l) H'
theorem xP:aJ P w K mg base bG 1 (aA 27) (aM 27) ["row"] (oW K):=by
 refine T.qu.ok gS (fun vs H Q E h=>?_) (fun cdv A outer s H vs Q E hr h=>?_)
 ·obtain⟨a,r,rfl,_⟩:=h;rfl
 ·have hu:=bg hr
  have g8:=hr.aP
  obtain⟨a,r,rfl,ha,hr,hs,k⟩:=h
  refine⟨_,(ai (eS 1 gS.nd (bU ah))
   (ai (cU PassesOwn.never rfl (MY K rfl rfl T.D9 (af (pv 0) ah)) (iI K rfl 2 rfl (aW (gm 2 gS.nd) (aW (gm 3 gS.nd) iG)))
   (ai (aG (dw qI (pv 2) aq) (ak (cW (cZ K rfl PySem.F.plainAttrs_list PySem.F.slot_list_append PySem.F.type_list_append cF (pv 1) (af (m8 rfl T.Qs) ah)))) az)
   (ak (cW (cZ K rfl PySem.F.plainAttrs_list PySem.F.slot_list_extend PySem.F.type_list_extend Cp (pv 1) (af (dI rfl (show br ["row", "tokens", "place", "cell"] (av dR) ["sign"] 1 [] _ from CG) (pB (pv 3)) (fun _ _ _ _=>(gm 0 Ib)) (fun _ _ _ _=>dH) (fun _ _ _ _=>(aC (af au (af (pv 0) ah))))) ah))))))
   (ai (cW (cZ K rfl PySem.F.plainAttrs_list PySem.F.slot_list_append PySem.F.type_list_append cF (pv 1) (af (m8 rfl T.Te) ah)))
   (ak (ay (pv 1)))))),?_⟩
  refine⟨by decide,fun l hl=>?_⟩
  have s0:=ao (o:=HO.lst []) hl
  have OE:∀ n,n≤r.length→(jK r n).length≤420:=fun n hn=>by
   have:=vt r n hn
   have h2:(lens (r.take n)).sum≤(lens r).sum:=by
    unfold lens;rw[List.map_take];exact m9 _ _
   omega
  refine⟨_,rfl,a,rfl,⟨_,aU.of (s0 _ _ ha)⟩,?_⟩
  refine MZ (K:=K) (a:=a) (xs:=r.map V.str) (fun i σ H2=>(∃ v1 v2,σ=[some (.ref a),some (.ref l),v1,v2])∧aD H H2∧∃ ys,H2 l=some (.lst ys)∧Paired (eO K H2) ys (jK r i)) ⟨⟨_,_,rfl⟩,s0,[],aj,.nil⟩ (fun i σ H2 _ q=>aU.of (q.2.1 _ _ ha)) ?_ ?_
  ·rintro i e t σ H2 hi ht ⟨⟨v1,v2,rfl⟩,s2,ys,hy,hp⟩
   have hil:i < r.length:=by
    have:=(List.getElem?_eq_some_iff.mp hi).1
    rwa [List.length_map] at this
   rw[List.getElem?_map] at hi
   cases hz:r[i]? with
   | none=>rw[hz] at hi;cases hi
   | some z =>
    rw[hz] at hi
    cases hi
    have XI:z.length≤400:=Nat.le_trans (vp (List.mem_of_getElem? hz)) hs
    have st:=ao (o:=HO.tup [.int (i:Int),.str z]) ht
    have hb:=OE i (by omega)
    have hyl:=hp.length
    refine⟨t,_,rfl,aY.of aj,rfl,_,_,rfl,_,_,rfl,rfl,?_⟩
    have hy1:=st _ _ hy
    have hp1:=aH (fun a b h=>eO.mono st h) hp
    have VT:=s2.trans st
    generalize upd H2 t (HO.tup [.int (i:Int),.str z])=H3 at st hy1 hp1 VT ⊢
    clear hp hy s2 st
    refine iY (t:=Dn _ _ _) (fun σ' H'=>σ'=[some (.ref a),some (.ref l),some (.int (i:Int)),some (.str z)]∧aD H H'∧∃ ws,H' l=some (.lst ws)∧Paired (eO K H') ws (jK r i++(if i=0 then [] else [ow]))) ?_ (fun go=>?_)
    rotate_left
    ·refine⟨_,rfl,_,_,rfl,rfl,_,rfl,bu (fun h=>?_) (fun h=>?_)⟩
     ·have h0:(0:Int) < i:=of_decide_eq_true h
      refine⟨_,rfl,.inl ⟨rfl,_,aU.of hy1⟩,l,ys,_,rfl,rfl,hy1,Nat.lt_of_le_of_lt (show ys.length≤420 by omega) (by decide),go _ _ ⟨rfl,aI hl VT,_,aj,?_⟩⟩
      rw[if_neg (by omega)]
      exact aH (fun a b h=>eO.but hy1 h) (iZ hp1 ⟨(aA 77),rfl,.inr T.Qt⟩)
     ·have h0:i=0:=by
       have:¬(0:Int) < i:=fun q=>h (decide_eq_true q)
       omega
      refine go _ _ ⟨rfl,VT,ys,hy1,?_⟩
      rw[if_pos h0,List.append_nil]
      exact hp1
    clear hy1 hp1 VT hyl
    rintro σ' H4 ⟨rfl,s4,ws,hw,G7⟩
    have hwl:=G7.length
    have adS:ws.length≤421:=by
     rw[hwl,List.length_append]
     split
     ·simp;omega
     ·show _+1≤421;omega
    refine⟨_,rfl,.inl ⟨rfl,_,aU.of hw⟩,_,rfl,z,rfl,fun D hD=>?_⟩
    refine zR (fun j zs τ H5=>(∃ v,τ=[v])∧aD H4 H5∧H5 D=some (.lst zs)∧Paired (eO K H5) zs ((z.cps.toList.take j).map fun c=>(Str.ofString "put",sg c))) ⟨⟨_,rfl⟩,ao hD,aj,.nil⟩ (fun j zs τ H5 _ p=>p.2.2.1) ?_ ?_
    ·rintro j c zs τ H5 hj ⟨⟨v,rfl⟩,s5,h5,Lr⟩
     have hjl:j < z.cps.toList.length:=(List.getElem?_eq_some_iff.mp hj).1
     rw[Array.length_toList] at hjl
     have hjl:j < z.length:=hjl
     have zJ:=Lr.length
     rw[List.length_map,List.length_take] at zJ
     refine sQ ?_
     refine⟨_,rfl,(by show 2≤sizeLine;decide),fun u TR=>?_⟩
     have s6:=ao (o:=HO.tup [.str ("put":Str),.str (sg c)]) TR
     refine⟨s6 _ _ h5,Nat.lt_of_le_of_lt (show zs.length≤400 by omega) (by decide),⟨_,rfl⟩,aI hD (s5.trans s6),aj,?_⟩
     rw[aO hj,List.map_append]
     exact aH (fun a b h=>eO.but (s6 _ _ h5) h) (iZ (aH (fun a b h=>eO.mono s6 h) Lr) ⟨u,rfl,aY.of aj⟩)
    ·rintro zs τ H5 ⟨⟨v,rfl⟩,s5,h5,Lr⟩
     rw[List.take_of_length_le (Nat.le_refl _)] at Lr
     have zJ:=Lr.length
     rw[List.length_map,Array.length_toList] at zJ
     have zJ:zs.length=z.length:=zJ
     have hw5:=s5 _ _ hw
     refine⟨l,D,ws,zs,rfl,rfl,hw5,h5,Nat.le_trans (show ws.length+zs.length≤1000 by omega) (by decide),⟨_,_,rfl⟩,aI hl (s4.trans s5),_,aj,?_⟩
     rw[lU hz,←List.append_assoc]
     exact aH (fun a b h=>eO.but hw5 h) (bJ (aH (fun a b h=>eO.mono s5 h) G7) Lr)
  ·rintro σ H2 ⟨⟨v1,v2,rfl⟩,s2,ys,hy,hp⟩
   rw[List.length_map] at hp
   have hb:=OE r.length (Nat.le_refl _)
   have hyl:=hp.length
   refine⟨_,rfl,.inl ⟨rfl,_,aU.of hy⟩,l,ys,_,rfl,rfl,hy,Nat.lt_of_le_of_lt (show ys.length≤420 by omega) (by decide),?_⟩
   refine⟨_,rfl,k l _ _ hl aj ?_ (aI hl s2)⟩
   exact aH (fun a b h=>eO.but hy h) (iZ hp ⟨(aA 78),rfl,.inr T.Tf⟩)
def qd (K:W.Frag):Sp:=fun vs H Q _=>∃(a:Addr) (xs:List V) (t:List (List Str)),vs=[.ref a]∧H a=some (.lst xs)∧Paired (bF H) xs t∧TabOk t∧∀(l:Addr) (ys:List V) H',H l=none→H' l=some (.lst ys)→Paired (eO K H') ys (aT t)→aD H H'→Q (.ref l) H'
theorem wA:aJ P w K mg base bG 7 (aA 28) (aM 28) ["table"] (qd K):=by
 have BS:aJ P w K mg base bG 6 (aA 26) (aM 26) ["thing"] (rJ K):=AX T
 have zc:aJ P w K mg base bG 1 (aA 27) (aM 27) ["row"] (oW K):=xP T
 refine T.rA.ok pR (fun vs H Q E h=>?_) (fun cdv A outer s H vs Q E hr h=>?_)
 ·obtain⟨a,xs,t,rfl,_⟩:=h;rfl
 ·have hu:=bg hr
  have g8:=hr.aP
  obtain⟨a,xs,t,rfl,ha,tr,g,k⟩:=h
  have hlx:=tr.length
  refine⟨_,(ai (cW (gn BS hr T.BC T.tU.kp T.BB (af (pv 0) ah)))
   (ai (eS 1 pR.nd (bU ah))
   (ai (cU PassesOwn.never rfl (bH K rfl (pv 0)) (gm 2 pR.nd)
   (ak (cW (cZ K rfl PySem.F.plainAttrs_list PySem.F.slot_list_extend PySem.F.type_list_extend Cp (pv 1) (af (gn zc hr T.yV T.qu.kp T.yU (af (pv 2) ah)) ah)))))
   (ak (ay (pv 1)))))),?_⟩
  refine⟨_,rfl,a,xs,t,rfl,ha,tr,g,fun H1 s1=>?_⟩
  refine⟨by decide,fun l hl=>?_⟩
  have s0:=s1.trans (ao (o:=HO.lst []) hl)
  have Ac:H l=none:=s1.free hl
  refine⟨_,rfl,a,rfl,⟨_,aU.of (s0 _ _ ha)⟩,?_⟩
  refine i7 (K:=K) (a:=a) (xs:=xs) (fun i σ H2=>(∃ v,σ=[some (.ref a),some (.ref l),v])∧aD H H2∧∃ ys,H2 l=some (.lst ys)∧Paired (eO K H2) ys (aT (t.take i))) ⟨⟨_,rfl⟩,s0,[],aj,.nil⟩ (fun i σ H2 _ q=>aU.of (q.2.1 _ _ ha)) ?_ ?_
  ·rintro i e σ H2 hi ⟨⟨v,rfl⟩,s2,ys,hy,hp⟩
   obtain⟨r,hr,b,rfl,hb⟩:=aQ tr i e hi
   have L7:=List.mem_of_getElem? hr
   have b1:=Ai g i
   have b2:=Ai g (i+1)
   rw[aO hr,ng,List.length_append] at b2
   have hyl:=hp.length
   refine⟨_,rfl,.inl ⟨rfl,_,aU.of hy⟩,_,rfl,b,r,rfl,s2 _ _ hb,(g.rows r L7).hi,Nat.le_trans (sd L7) g.sum,fun m zs H3 hm h3 hp3 s3=>?_⟩
   have zJ:=hp3.length
   have hy3:=s3 _ _ hy
   refine⟨l,m,ys,zs,rfl,rfl,hy3,h3,Nat.le_trans (show ys.length+zs.length≤1600 by omega) (by decide),⟨_,rfl⟩,aI Ac (s2.trans s3),_,aj,?_⟩
   rw[aO hr,ng]
   exact aH (fun a b h=>eO.but hy3 h) (bJ (aH (fun a b h=>eO.mono s3 h) hp) hp3)
  ·rintro σ H2 ⟨⟨v,rfl⟩,s2,ys,hy,hp⟩
   rw[hlx,List.take_of_length_le (Nat.le_refl _)] at hp
   exact⟨_,rfl,k l ys H2 Ac hy hp s2⟩
def yx:Sp:=fun vs H Q _=>∃(n a b:Int),vs=[.int n,.int a,.int b]∧Q (.bl (decide (a≤n∧n≤b))) H
theorem Gu:aJ P w K mg base bG 1 (aA 30) (aM 30) ["thing", "least", "most"] yx:=by
 refine T.AH.ok FJ (fun vs H Q E h=>?_) (fun cdv A outer s H vs Q E hr h=>?_)
 ·obtain⟨n,a,b,rfl,_⟩:=h;rfl
 ·have hu:=bg hr
  have g8:=hr.aP
  obtain⟨n,a,b,rfl,k⟩:=h
  refine⟨_,(ai (aG (PW.pt (gX (ck (bD (j8 (bQ K rfl) T.bw (af (pv 0) (af (Ic "int" T.AL) ah))))) (gZ (bD (j8 (bQ K rfl) T.bw (af (pv 0) (af (Ic "bool" T.zI) ah))))))) (ak (ay gA)) az)
   (ak (ay (xg (CH Mw (pv 0) (pv 1)) (w6 (CH Mv (pv 0) (pv 2))))))),?_⟩
  refine⟨_,rfl,_,_,_,_,rfl,.int _,.inl ⟨_,⟨rfl,rfl⟩⟩,_,rfl,cz (⟨_,rfl,_,_,_,_,rfl,.int _,.inl ⟨_,⟨rfl,rfl⟩⟩,_,rfl,cz (⟨_,rfl,_,rfl,_,_,rfl,rfl,_,rfl,?_⟩)⟩)⟩
  by_cases h1:a≤n
  ·rw[if_pos (decide_eq_true h1)]
   refine⟨_,rfl,_,rfl,_,_,rfl,rfl,?_⟩
   show Q (.bl (decide (n≤b))) H
   rw[show decide (n≤b)=decide (a≤n∧n≤b) by rw[Bool.eq_iff_iff,decide_eq_true_iff,decide_eq_true_iff];exact⟨fun z=>⟨h1,z⟩,fun z=>z.2⟩]
   exact k
  ·rw[if_neg (by rw[decide_eq_false h1];decide)]
   rw[show decide (a≤n∧n≤b)=false from decide_eq_false fun z=>h1 z.1] at k
   exact k
def rK (K:W.Frag):Sp:=fun vs H Q _=>∃(l:Addr) (os:List V),vs=[.ref l]∧H l=some (.lst os)∧os.length≤1000∧∀ v H',aD H H'→cI K H' (dO os.length) v→Q v H'
theorem AY:aJ P w K mg base bG 1 (aA 31) (aM 31) ["others"] (rK K):=by
 refine T.tV.ok Ay (fun vs H Q E h=>?_) (fun cdv A outer s H vs Q E hr h=>?_)
 ·obtain⟨l,os,rfl,_⟩:=h;rfl
 ·have hu:=bg hr
  have g8:=hr.aP
  obtain⟨l,os,rfl,hl,hn,k⟩:=h
  refine⟨_,(ak (ay (aC (af (m8 rfl T.oN) (af aq (af (L3 (gB K rfl) T.kI (af (dI rfl (show br ["others"] (av gh) ["other"] 1 [] _ from CG) (bH K rfl (pv 0)) (fun _ _ _ _=>(gm 0 Ib)) (fun _ _ _ _=>dH) (fun _ _ _ _=>(aC (af (m8 rfl T.oN) (af aq ah))))) ah)) ah)))))),?_⟩
  refine⟨_,rfl,_,rfl,⟨_,aU.of hl⟩,fun D hD=>?_⟩
  refine cO (K:=K) (a:=l) (xs:=os) (fun i vs τ J=>(∃ v,τ=[v])∧aD H J∧J D=some (.lst vs)∧vs.length=i∧Paired (ff K J) (List.replicate i (some stM)) vs) ⟨⟨_,rfl⟩,ao hD,aj,rfl,.nil⟩ (fun i vs τ J _ p=>⟨aU.of (p.2.1 _ _ hl),p.2.2.1⟩) ?_ ?_
  ·rintro i e vs τ J hi ⟨⟨v,rfl⟩,sJ,hJ,hvl,pr⟩
   have hil:i < os.length:=(List.getElem?_eq_some_iff.mp hi).1
   refine sQ ⟨(by show 2≤sizeLine;decide),fun t ht=>?_⟩
   have st:=ao (o:=HO.tup [.ref (aA 76),.int 0]) ht
   have OG:=st _ _ hJ
   refine⟨OG,Nat.lt_of_le_of_lt (show vs.length≤1000 by omega) (by decide),⟨_,rfl⟩,aI hD (sJ.trans st),aj,(by rw[List.length_append];show vs.length+1=_;omega),?_⟩
   rw[List.replicate_succ']
   exact bJ (f6 OG (dS st pr)) (f6 OG (.cons ⟨t,(aA 76),rfl,aY.of aj,.inr T.oO⟩ .nil))
  rintro vs τ J ⟨⟨v,rfl⟩,sJ,hJ,hvl,pr⟩
  refine⟨D,vs,rfl,.inl ⟨aU.of hJ,fun u hu=>⟨(by show 3≤sizeLine;decide),fun t ht=>?_⟩⟩⟩
  have s1:=ao (o:=HO.tup vs) hu
  have s2:=ao (o:=HO.tup [.ref (aA 76),.int 0,.ref u]) ht
  exact k _ _ (sJ.trans (s1.trans s2)) ⟨t,(aA 76),u,vs,rfl,aY.of aj,.inr T.oO,aY.of (s2 _ _ aj),dS (s1.trans s2) pr⟩
def lA (K:W.Frag) (C:Addr):Sp:=fun vs H Q _=>∃(y dy a o:Addr) (xs os:List V) (t:List (List Str)) (x:cN) (cs:List cN),vs=[.ref y,.ref a,.ref o]∧H y=some (.ins C dy (P6 x))∧uz x∧H a=some (.lst xs)∧Paired (bF H) xs t∧TabOk t∧H o=some (.lst os)∧Bh C H os cs∧(∀ c∈cs,uz c)∧cs.length≤20∧∀ H',aD H H'→Q (.str (oE (x :: cs) t)) H'
theorem tw:aJ P w K mg base bG 3 (aA 32) (aM 32) ["dialect", "table", "others"] (lA K (aA 64)):=by
 have wB:aJ P w K mg base bG 2 (aA 15) (aM 15) ["self"] (mV (aA 64)):=uM T
 have ID:aJ P w K mg base bG 1 (aA 14) (aM 14) ["text"] Eg:=Kh T
 refine T.mR.ok g9 (fun vs H Q E h=>?_) (fun cdv A outer s H vs Q E hr h=>?_)
 ·obtain⟨y,dy,a,o,xs,os,t,x,cs,rfl,_⟩:=h;rfl
 ·have hu:=bg hr
  have g8:=hr.aP
  obtain⟨y,dy,a,o,xs,os,t,x,cs,rfl,hy,gx,ha,pr,tok,ho,mk,gs,hcl,k⟩:=h
  have szb:10000≤sizeLine:=by decide
  refine⟨_,(ai (eS 3 g9.nd (cZ K rfl PySem.F.plainAttrs_str PySem.F.slot_str_join PySem.F.type_str_join (lZ K rfl) au (af (dI rfl (show br ["dialect", "table", "others", "special", "cells"] (av bV) ["each"] 1 [] _ from CG) (bH K rfl (aK MJ (bU (af (pv 0) ah)) (pv 2))) (fun _ _ _ _=>(gm 0 Ib)) (fun _ _ _ _=>dH) (fun _ _ _ _=>(ER (k:=2) (pv 0) T.aL T.vR wB (hr.mono (by decide)) T.vQ .nil jy))) ah)))
   (ai (eS 4 g9.nd (cZ K rfl PySem.F.plainAttrs_str PySem.F.slot_str_join PySem.F.type_str_join (lZ K rfl) au (af (dI rfl (show br ["dialect", "table", "others", "special", "cells"] (av bV) ["row"] 1 [] _ from CG) (bH K rfl (pv 1)) (fun _ _ _ _=>(gm 0 Ib)) (fun _ _ _ _=>dH) (fun _ _ _ _=>(cZ K rfl PySem.F.plainAttrs_str PySem.F.slot_str_join PySem.F.type_str_join (lZ K rfl) au (af (pv 0) ah)))) ah)))
   (ak (ay (gn ID hr T.Om T.Iq.kp T.Ol (af (aK cE (aK cE (aK cE (pv 3) (pC rfl T.p9.choose_spec)) au) (pv 4)) ah)))))),?_⟩
  have mkl:=mk.length
  refine⟨rfl,_,rfl,(by show(1:Nat)≤sizeLine;decide),fun l0 Ac=>⟨_,rfl,l0,o,_,_,rfl,rfl,aj,ao Ac _ _ ho,(by show 1+os.length≤sizeLine;omega),fun L hL=>⟨L,rfl,⟨_,aU.of aj⟩,fun D hD=>?_⟩⟩⟩
  have f1:=(ao (o:=HO.lst [.ref y]) Ac).trans (ao (o:=HO.lst ([V.ref y]++os)) hL)
  have w1:=aj (H:=upd H l0 (HO.lst [.ref y])) (a:=L) (o:=HO.lst ([V.ref y]++os))
  generalize upd (upd H l0 (HO.lst [.ref y])) L (HO.lst ([V.ref y]++os))=H2 at f1 w1 hD ⊢
  have mk2:Bh (aA 64) H2 ([V.ref y]++os) (x :: cs):=.cons ⟨y,dy,rfl,f1 _ _ hy⟩ (Bh.mono f1 mk)
  have gs2:∀ c∈x :: cs,uz c:=fun c hc=>by
   rcases List.mem_cons.mp hc with q | q
   ·rw[q];exact gx
   ·exact gs c q
  refine cO (K:=K) (a:=L) (xs:=[V.ref y]++os) (fun i vs τ J=>(∃ v,τ=[v])∧aD H2 J∧J D=some (.lst vs)∧vs=((x :: cs).take i).map fun c=>V.str (yK c)) ⟨⟨_,rfl⟩,ao hD,aj,rfl⟩ (fun i vs τ J _ p=>⟨aU.of (p.2.1 _ _ w1),p.2.2.1⟩) ?_ ?_
  ·rintro i e vs τ J hi ⟨⟨v,rfl⟩,sJ,hJ,hvs⟩
   obtain⟨x',hx',y',TU,rfl,hy'⟩:=aQ mk2 i e hi
   have hvl:vs.length≤i:=by rw[hvs,List.length_map,List.length_take];omega
   have hil:i < ([V.ref y]++os).length:=(List.getElem?_eq_some_iff.mp hi).1
   rw[List.length_append] at hil
   have hil:i < 1+os.length:=hil
   refine sQ ⟨_,rfl,_,_,_,rfl,sJ _ _ hy',rfl,y',TU,_,_,_,_,_,_,_,rfl,sJ _ _ hy',gs2 x' (List.mem_of_getElem? hx'),?_⟩
   refine⟨hJ,Nat.lt_of_le_of_lt (show vs.length≤100 by omega) (by decide),⟨_,rfl⟩,aI hD sJ,aj,?_⟩
   rw[aO hx',List.map_append,←hvs]
   rfl
  rintro vs τ J ⟨⟨v,rfl⟩,sJ,hJ,hvs⟩
  rw[List.take_of_length_le (by rw[List.length_append,List.length_cons];show cs.length+1≤1+os.length;omega)] at hvs
  subst hvs
  have hjl:=DS gs2
  rw[List.length_cons] at hjl
  have e0:("":Str).length=0:=by decide +kernel
  have s3:=f1.trans sJ
  refine⟨_,D,(x :: cs).map yK,rfl,rfl,(by rw[List.map_map];exact aU.of hJ),(by rw[e0];omega),?_⟩
  have jl:=oG ((x :: cs).map yK)
  have kk:∀ H',aD H H'→Q (.str (tO (((Txt.join ("":Str) ((x :: cs).map yK)++Str.ofString "\n")++Str.ofString " ")++Txt.join ("":Str) (t.map (Txt.join ("":Str)))))) H':=k
  clear k
  generalize Txt.join ("":Str) ((x :: cs).map yK)=S1 at jl kk ⊢
  dsimp only[bf]
  have tl:=pr.length
  have tn:=tok.n
  have ahk:=tok.sum
  refine⟨rfl,_,rfl,_,rfl,⟨_,aU.of (s3 _ _ ha)⟩,fun D2 hD2=>?_⟩
  refine cO (K:=K) (a:=a) (xs:=xs) (fun i vs τ G=>(∃ v,τ=[v])∧aD J G∧G D2=some (.lst vs)∧vs=(t.take i).map fun r=>V.str (Txt.join ("":Str) r)) ⟨⟨_,rfl⟩,ao hD2,aj,rfl⟩ (fun i vs τ G _ p=>⟨aU.of (p.2.1 _ _ (s3 _ _ ha)),p.2.2.1⟩) ?_ ?_
  ·rintro i e vs τ G hi ⟨⟨v,rfl⟩,sG,hG,hvs⟩
   obtain⟨r,hr',ra,rfl,hra⟩:=aQ pr i e hi
   have hvl:vs.length≤i:=by rw[hvs,List.length_map,List.length_take];omega
   have hil:i < xs.length:=(List.getElem?_eq_some_iff.mp hi).1
   have rs:=sd (List.mem_of_getElem? hr')
   refine sQ ⟨rfl,_,rfl,_,ra,r,rfl,rfl,aU.of (sG _ _ (s3 _ _ hra)),(by rw[e0];show(lens r).sum+_≤_;omega),?_⟩
   refine⟨hG,Nat.lt_of_le_of_lt (show vs.length≤100 by omega) (by decide),⟨_,rfl⟩,aI hD2 sG,aj,?_⟩
   rw[aO hr',List.map_append,←hvs]
   rfl
  rintro vs τ G ⟨⟨v,rfl⟩,sG,hG,hvs⟩
  rw[List.take_of_length_le (by omega)] at hvs
  subst hvs
  have ahl:=xu t
  have jl2:=oG (t.map (Txt.join ("":Str)))
  refine⟨_,D2,t.map (Txt.join ("":Str)),rfl,rfl,(by rw[List.map_map];exact aU.of hG),(by rw[e0];omega),?_⟩
  generalize Txt.join ("":Str) (t.map (Txt.join ("":Str)))=S2 at jl2 kk ⊢
  dsimp only[bf]
  have n1:(Str.ofString "\n").length=1:=by decide +kernel
  have n2:(" ":Str).length=1:=by decide +kernel
  have a1:=cy S1 (Str.ofString "\n")
  have a2:=cy (S1++Str.ofString "\n") (" ":Str)
  have a3:=cy ((S1++Str.ofString "\n")++Str.ofString " ") S2
  have kq:=kk G (s3.trans sG)
  have eL:(Bx 0)=Str.ofString "\n" := T.qb
  rw[←eL] at a1 a2 a3 n1 kq
  exact⟨_,rfl,_,_,rfl,rfl,by omega,_,_,rfl,rfl,by omega,_,rfl,_,_,rfl,rfl,by omega,_,rfl,by omega,kq⟩
def mX (K:W.Frag) (C CT CM CP:Addr):Sp:=fun vs H Q _=>∃(q dq:Addr) (y dy a o:Addr) (xs os:List V) (t:List (List Str)) (x:cN) (cs:List cN),vs=[.ref q,.ref y,.ref a,.ref o]∧H q=some (.ins CP dq [])∧H y=some (.ins C dy (P6 x))∧uz x∧H a=some (.lst xs)∧Paired (bF H) xs t∧TabOk t∧H o=some (.lst os)∧Bh C H os cs∧(∀ c∈cs,uz c)∧cs.length≤20∧∀ H',Il K C CT CM CP H' q x cs (aT t) (oE (x :: cs) t)→(∀ b o,H b=some o→b≠q→H' b=some o)→Q .non H'
theorem uO:aJ P w K mg base bG 10 (aA 33) (aM 33) ["self", "dialect", "table", "others"] (mX K (aA 64) (aA 65) (aA 66) (aA 67)):=by
 have nu:aJ P w K mg base bG 8 (aA 19) (aM 19) ["self", "dialect", "tokens"] (mW K (aA 64) (aA 65) (aA 66)):=uN T
 have uP:aJ P w K mg base bG 3 (aA 32) (aM 32) ["dialect", "table", "others"] (lA K (aA 64)):=tw T
 have rL:aJ P w K mg base bG 7 (aA 28) (aM 28) ["table"] (qd K):=wA T
 refine T.vU.ok mJ (fun vs H Q E h=>?_) (fun cdv A outer s H vs Q E hr h=>?_)
 ·obtain⟨q,dq,y,dy,a,o,xs,os,t,x,cs,rfl,_⟩:=h;rfl
 ·have hu:=bg hr
  have g8:=hr.aP
  obtain⟨q,dq,y,dy,a,o,xs,os,t,x,cs,rfl,hq,hy,gx,ha,pr,tok,ho,mk,gs,hcl,k⟩:=h
  have mkl:=mk.length
  have ny:y≠q:=fun e=>by rw[e,hq] at hy;injection hy with hy;injection hy with h1 h2 h3;cases h3
  have na:a≠q:=fun e=>by rw[e,hq] at ha;cases ha
  have no:o≠q:=fun e=>by rw[e,hq] at ho;cases ho
  refine⟨_,(ai (eS 4 mJ.nd (gn rL hr T.yh T.rA.kp T.yg (af (pv 2) ah)))
   (ai (jF (pv 0) (rV (k:=8) T.Gq nu (hr.mono (by decide)) rfl T.Gp T.nk .nil jy (af (pv 1) (af (pv 4) ah))) rfl)
   (ai (jF (pv 0) (dI rfl (show br ["self", "dialect", "table", "others", "tokens"] (av cQ) ["other", "tokens"] 1 [4] _ from CG) (bH K rfl (pv 3)) (fun _ _ _ _=>(gm 0 (show(["other", "tokens"]:List Str).Nodup by decide +kernel))) (fun _ _ _ _=>dH) (fun _ _ _ _=>(rV (k:=8) T.Gq nu (hr.mono (by decide)) rfl T.Gp T.nk .nil jy (af (pv 0) (af (pv 1) ah))))) rfl)
   (ak (jF (pv 0) (gn uP hr T.uI T.mR.kp T.uH (af (pv 1) (af (pv 2) (af (pv 3) ah)))) rfl))))),?_⟩
  refine⟨_,rfl,a,xs,t,rfl,ha,pr,tok,fun l ys H1 Ac hl tp s1=>?_⟩
  dsimp only[bf]
  refine⟨_,rfl,_,rfl,fun m dm hm hdm ne=>⟨m,dm,y,dy,l,ys,aT t,_,_,_,_,_,_,_,rfl,aj,kE hm hdm (s1 _ _ hy),gx,kE hm hdm hl,cS (sj hm hdm) tp,fun H2 hM kp hml=>⟨rfl,?_⟩⟩⟩
  have s2:=rZ hm hdm kp
  have s12:=s1.trans s2
  have hq2:=s12 _ _ hq
  refine⟨_,rfl,q,(aA 67),dq,_,rfl,hq2,T.gj,T.gc,(by show 0 < 1000;decide),?_⟩
  have b3:∀ b o',H b=some o'→b≠q→(upd H2 q (HO.ins (aA 67) dq [("marker",V.ref m)])) b=some o':=fun b o' e hb=>(aE hb).trans (s12 _ _ e)
  have w3:(upd H2 q (HO.ins (aA 67) dq [("marker",V.ref m)])) q=some (HO.ins (aA 67) dq [("marker",V.ref m)]):=aj
  have nlq:l≠q:=fun e=>by rw[e,hq] at Ac;cases Ac
  have hl3:(upd H2 q (HO.ins (aA 67) dq [("marker",V.ref m)])) l=some (.lst ys):=(aE nlq).trans (s2 _ _ hl)
  have VU:Paired (eO K (upd H2 q (HO.ins (aA 67) dq [("marker",V.ref m)]))) ys (aT t):=qS hq2 (cS s2 tp)
  have hM3:FA K (aA 64) (aA 65) (aA 66) (upd H2 q (HO.ins (aA 67) dq [("marker",V.ref m)])) m x (aT t):=wZ.off hq2 (fun y l e=>by cases e) (fun d e=>by cases e) (fun e=>by cases e) hM
  rw[show pA ("marker":Str) (V.ref m) []=([(("marker" : Str),V.ref m)]:List (Str×V)) from rfl]
  generalize upd H2 q (HO.ins (aA 67) dq [("marker",V.ref m)])=H3 at b3 w3 hl3 VU hM3 ⊢
  have ho3:=b3 _ _ ho no
  have mk3:Bh (aA 64) H3 os cs:=aH (fun e x' ⟨y',TU,e1,e2⟩=>⟨y',TU,e1,b3 _ _ e2 (fun z=>by rw[z,hq] at e2;injection e2 with e2;injection e2 with h1 h2 h3;cases h3)⟩) mk
  refine⟨_,rfl,_,rfl,⟨_,aU.of ho3⟩,fun D hD=>?_⟩
  have nlD:l≠D:=fun e=>by rw[e,hD] at hl3;cases hl3
  refine cO (K:=K) (a:=o) (xs:=os) (fun i vs τ J=>(∃ v,τ=[v,some (.ref l)])∧aD H3 J∧J D=some (.lst vs)∧qU K (aA 64) (aA 65) (aA 66) (aT t) l J vs (cs.take i)) ⟨⟨_,rfl⟩,ao hD,aj,.nil⟩ (fun i vs τ J _ p=>⟨aU.of (p.2.1 _ _ ho3),p.2.2.1⟩) ?_ ?_
  ·rintro i e vs τ J hi ⟨⟨v,rfl⟩,sJ,hJ,ml⟩
   obtain⟨x',hx',y',TU,rfl,hy'⟩:=aQ mk3 i e hi
   have hvl:=ml.length
   rw[List.length_take] at hvl
   have hil:i < os.length:=(List.getElem?_eq_some_iff.mp hi).1
   refine sQ ⟨_,rfl,_,rfl,fun m' dm' hm' QI ne'=>⟨m',dm',y',TU,l,ys,aT t,_,_,_,_,_,_,_,rfl,aj,kE hm' QI (sJ _ _ hy'),gs x' (List.mem_of_getElem? hx'),kE hm' QI (sJ _ _ hl3),cS ((sJ.trans (sj hm' QI))) VU,fun J2 hM' kp' adT=>⟨rfl,?_⟩⟩⟩
   have s2':=rZ hm' QI kp'
   have OX:=s2' _ _ hJ
   refine⟨OX,Nat.lt_of_le_of_lt (show vs.length≤1000 by omega) (by decide),⟨_,rfl⟩,aI hD (sJ.trans s2'),aj,?_⟩
   rw[aO hx']
   exact bJ (qU.but OX nlD (qU.mono s2' ml)) (qU.but OX nlD (.cons ⟨m',rfl,hM',adT⟩ .nil))
  rintro vs τ J ⟨⟨v,rfl⟩,sJ,hJ,ml⟩
  rw[List.take_of_length_le (by omega)] at ml
  have n3:=N5 (v:=V.ref m) (r:=[]) (n := "marker") rfl
  have n5:=N5 (v:=V.ref m) (r:=[("markers",V.ref D)]) (n := "marker") rfl
  have hqJ:=sJ _ _ w3
  refine⟨_,rfl,q,(aA 67),dq,_,rfl,hqJ,T.gj,T.fF,(by show 1 < 1000;decide),?_⟩
  rw[show pA ("markers":Str) (V.ref D) ([(("marker" : Str),V.ref m)]:List (Str×V))=([(("marker" : Str),V.ref m),(("markers" : Str),V.ref D)]:List (Str×V)) from rfl]
  have b5:∀ b o',H b=some o'→b≠q→(upd J q (HO.ins (aA 67) dq [("marker",V.ref m),("markers",V.ref D)])) b=some o':=fun b o' e hb=>(aE hb).trans (sJ _ _ (b3 _ _ e hb))
  have w5:(upd J q (HO.ins (aA 67) dq [("marker",V.ref m),("markers",V.ref D)])) q=some (HO.ins (aA 67) dq [("marker",V.ref m),("markers",V.ref D)]):=aj
  have nDq:D≠q:=fun e=>by rw[e,w3] at hD;cases hD
  have hD5:(upd J q (HO.ins (aA 67) dq [("marker",V.ref m),("markers",V.ref D)])) D=some (.lst vs):=(aE nDq).trans hJ
  have ml5:qU K (aA 64) (aA 65) (aA 66) (aT t) l (upd J q (HO.ins (aA 67) dq [("marker",V.ref m),("markers",V.ref D)])) vs cs:=qU.off hqJ n3.1 n3.2.1 n3.2.2 ml
  have hM5:FA K (aA 64) (aA 65) (aA 66) (upd J q (HO.ins (aA 67) dq [("marker",V.ref m),("markers",V.ref D)])) m x (aT t):=wZ.off hqJ n3.1 n3.2.1 (n3.2.2 _ _ _ _ _ _ _) (wZ.mono sJ hM3)
  generalize upd J q (HO.ins (aA 67) dq [("marker",V.ref m),("markers",V.ref D)])=H5 at b5 w5 hD5 ml5 hM5 ⊢
  have XJ:Paired (bF H5) xs t:=aH (fun v r ⟨ra,e1,e2⟩=>⟨ra,e1,b5 _ _ e2 (fun z=>by rw[z,hq] at e2;cases e2)⟩) pr
  have mk5:Bh (aA 64) H5 os cs:=aH (fun e x' ⟨y',TU,e1,e2⟩=>⟨y',TU,e1,b5 _ _ e2 (fun z=>by rw[z,hq] at e2;injection e2 with e2;injection e2 with h1 h2 h3;cases h3)⟩) mk
  refine⟨_,rfl,_,rfl,_,rfl,y,dy,a,o,xs,os,t,x,cs,rfl,b5 _ _ hy ny,gx,b5 _ _ ha na,XJ,tok,b5 _ _ ho no,mk5,gs,hcl,fun H6 s6=>?_⟩
  refine⟨_,rfl,q,(aA 67),dq,_,rfl,s6 _ _ w5,T.gj,T.jm,(by show 2 < 1000;decide),k _ ?_ fun b o' e hb=>(aE hb).trans (s6 _ _ (b5 _ _ e hb))⟩
  have ml7:=qU.off (o:=HO.ins (aA 67) dq (pA ("signs":Str) (V.str (oE (x :: cs) t)) [("marker",V.ref m),("markers",V.ref D)])) (s6 _ _ w5) n5.1 n5.2.1 n5.2.2 (qU.mono s6 ml5)
  exact⟨dq,m,D,vs,aj,wZ.off (s6 _ _ w5) n5.1 n5.2.1 (n5.2.2 _ _ _ _ _ _ _) (wZ.mono s6 hM5),(aE nDq).trans (s6 _ _ hD5),aH (fun v x' ⟨m',e1,e2,_⟩=>⟨m',e1,e2⟩) ml7⟩
def qz (K:W.Frag) (C CT CM CP:Addr):Sp:=fun vs H Q _=>∃(y:Addr) (v:V) (m:dj) (x:cN) (cs:List cN) (ts:List (Str×Str)) (z:Str),vs=[.ref y,v]∧Il K C CT CM CP H y x cs ts z∧cI K H m v∧cs.length=m.2.length∧cs.length≤1000∧z.length≤1000∧∀ l vs H',H l=none→H' l=some (.lst vs)→yJ K H' vs (bZ x cs ts z m)→aD H H'→Q (.ref l) H'
theorem zd:aJ P w K mg base bG 6 (aA 34) (aM 34) ["self", "place"] (qz K (aA 64) (aA 65) (aA 66) (aA 67)):=by
 have kK:aJ P w K mg base bG 5 (aA 20) (aM 20) ["self", "mark", "sign"] (jD K (aA 64) (aA 65) (aA 66)):=qE T
 refine T.AI.ok f7 (fun vs H Q E h=>?_) (fun cdv A outer s H vs Q E hr h=>?_)
 ·obtain⟨y,v,m,x,cs,ts,z,rfl,_⟩:=h;rfl
 ·have hu:=bg hr
  have g8:=hr.aP
  obtain⟨y,v,m,x,cs,ts,z,rfl,hP,hv,hcl,hcn,zJ,k⟩:=h
  obtain⟨dy,mm,lm,ms,ey,eM,XM,XO⟩:=hP.ok
  obtain⟨b,s,u,vs,rfl,hb,hs,hu,ho⟩:=hv
  refine⟨_,(ai (eS 2 f7.nd (bU ah))
   (ai (cU PassesOwn.never rfl (pB (aV K rfl (pv 0) rfl)) (gm 3 f7.nd)
   (ai (eS 4 f7.nd (lB (k:=5) (aV K rfl (pv 0) rfl) T.gU T.kH kK (hr.mono (by decide)) T.kG .nil jy (af (i9 (zE K rfl) (pv 1) lC (lD aq)) (af (pv 3) ah))))
   (ak (aG (dw pq (pv 4) bT) (ai (JS (i:=5) rfl f7.nd rfl rfl (show br ["self", "place", "found", "sign", "mark", "marks"] (av fm) ["marker", "other", "sign"] 2 [3] _ from CG) (xq K rfl rfl T.IC (af (aV K rfl (pv 0) rfl) (af (gw K (pv 1) aq) ah))) (fun _ _ _ _=>(iI K rfl 2 rfl (aW (gm 0 (show(["marker", "other", "sign"]:List Str).Nodup by decide +kernel)) (aW (gm 1 (show(["marker", "other", "sign"]:List Str).Nodup by decide +kernel)) iG)))) (fun _ _ _ _=>dH) (fun _ _ _ _=>(lB (k:=5) (pv 0) T.gU T.kH kK (hr.mono (by decide)) T.kG .nil jy (af (pv 1) (af (pv 2) ah)))))
   (ak (cW (cZ K rfl PySem.F.plainAttrs_list PySem.F.slot_list_append PySem.F.type_list_append cF (pv 2) (af (aC (af (pv 3) (af (aK (EV K rfl) (pv 4) (aC (af (L3 (gB K rfl) T.kI (af (pv 5) ah)) ah))) ah))) ah))))) az))))
   (ak (ay (pv 2))))),?_⟩
  have VJ:=ho.length
  have hml:=XO.length
  refine⟨(by decide),fun l hl=>⟨_,rfl,_,_,_,_,_,rfl,ao hl _ _ ey,T.gj,T.jm,rfl,_,rfl,?_⟩⟩
  refine rW (fun i σ J=>∃ us v1 v2 v3,σ=[some (.ref y),some (.ref b),some (.ref l),v1,v2,v3]∧aD H J∧J l=some (.lst us)∧us.length≤i∧yJ K J us ((z.cps.toList.take i).filterMap fun c=>(uA x ts m.1 c).map fun m'=>(c,(m',iR cs ts m.2 c)))) ⟨[],none,none,none,rfl,ao hl,aj,Nat.le_refl _,.nil⟩ ?_ ?_
  ·rintro i c σ J hi ⟨us,v1,v2,v3,rfl,sJ,hJ,hul,ld⟩
   rw[aO hi,List.filterMap_append]
   have hil:i < z.cps.toList.length:=(List.getElem?_eq_some_iff.mp hi).1
   rw[Array.length_toList] at hil
   have hil:i < z.length:=hil
   have eMJ:FA K (aA 64) (aA 65) (aA 66) J mm x ts:=wZ.mono sJ eM
   obtain⟨dm,yt,lt,yts,em,eT,el,tp⟩:=eMJ.ok
   refine⟨_,rfl,_,_,_,_,_,rfl,sJ _ _ ey,T.gj,T.gc,rfl,_,_,_,rfl,em,rfl,_,rfl,_,rfl,_,_,rfl,aB sJ hb,(by show ¬(_∧(2:Nat)=3);omega),fun pa hpa=>?_⟩
   have s1:=ao (o:=HO.tup [.ref s,.int (m.1.2:Int)]) hpa
   have q1:=aj (H:=J) (a:=pa) (o:=HO.tup [.ref s,.int (m.1.2:Int)])
   rw[show sO [V.ref s,.int (m.1.2:Int),.ref u] none (some 2)=[.ref s,.int (m.1.2:Int)] from rfl]
   generalize upd J pa (HO.tup [.ref s,.int (m.1.2:Int)])=J1 at s1 q1 ⊢
   refine⟨_,rfl,mm,.ref pa,some m.1,c,ts,_,_,_,_,_,_,_,rfl,wZ.mono s1 eMJ,⟨pa,s,rfl,aY.of q1,aB (sJ.trans s1) hs⟩,fun v' J2 s2 hv'=>?_⟩
   have hv':ff K J2 (uA x ts m.1 c) v':=hv'
   have L8:=sJ.trans (s1.trans s2)
   have OX:=s2 _ _ (s1 _ _ hJ)
   cases hM:uA x ts m.1 c with
   | none =>
    rw[hM] at hv'
    have hv':v'=.non:=hv'
    subst hv'
    refine⟨_,rfl,rfl,_,rfl,PU rfl ⟨us,_,_,_,rfl,L8,OX,by omega,?_⟩⟩
    rw[List.filterMap_cons,hM]
    simpa using sq (s1.trans s2) ld
   | some m' =>
    rw[hM] at hv'
    obtain⟨b3,s3,rfl,q3,q4⟩:=hv'
    refine⟨_,rfl,rfl,_,rfl,Fb (fun z=>nomatch z) ?_⟩
    refine⟨_,rfl,_,_,_,_,_,rfl,L8 _ _ ey,T.gj,T.fF,rfl,_,rfl,_,_,_,_,rfl,rfl,aB L8 hb,rfl,lm,u,rfl,⟨_,aU.of (L8 _ _ XM)⟩,⟨_,aB L8 hu⟩,fun D hD=>?_⟩
    refine Ab (K:=K) (a:=lm) (b:=u) (xs:=ms) (ys:=vs) (fun j ws τ G=>(∃ v w,τ=[v,w,some (.str (sg c))])∧aD J2 G∧G D=some (.lst ws)∧Paired (ff K G) (((cs.zip m.2).take j).map fun p=>CY p.1 ts p.2 c) ws) ⟨⟨_,_,rfl⟩,ao hD,aj,.nil⟩ (fun j ws τ G _ p=>⟨aU.of (p.2.1 _ _ (L8 _ _ XM)),aB (L8.trans p.2.1) hu,p.2.2.1⟩) ?_ ?_
    ·rintro j e w' t ws τ G hj hw ht ⟨⟨u1,u2,rfl⟩,sG,hG,pr⟩
     obtain⟨x',hx',ma,rfl,hma⟩:=aQ XO j e hj
     obtain⟨o,VV,hoa⟩:=kF ho j w' hw
     have st:=ao (o:=HO.tup [.ref ma,w']) ht
     have sT:=(L8.trans sG).trans st
     have OH:FA K (aA 64) (aA 65) (aA 66) _ ma x' ts:=wZ.mono sT hma
     obtain⟨dm',y',l',ys',OI,_⟩:=OH.ok
     refine⟨t,_,rfl,aY.of aj,rfl,_,_,rfl,_,_,rfl,rfl,?_⟩
     dsimp only[Pw]
     rw[if_pos rfl]
     refine⟨_,rfl,_,_,_,rfl,OI,rfl,_,rfl,_,rfl,ma,w',o,c,ts,_,_,_,_,_,_,_,rfl,OH,vA sT hoa,fun v2 G2 s2' hv2=>?_⟩
     have hG2:=s2' _ _ (st _ _ hG)
     have hjl:j < ms.length:=(List.getElem?_eq_some_iff.mp hj).1
     have hpl:=pr.length
     rw[List.length_map,List.length_take] at hpl
     refine⟨hG2,Nat.lt_of_le_of_lt (show ws.length≤1000 by omega) (by decide),⟨_,_,rfl⟩,aI hD (sG.trans (st.trans s2')),aj,?_⟩
     have hz:(cs.zip m.2)[j]? = some (x',o):=by rw[List.getElem?_zip_eq_some];exact⟨hx',VV⟩
     rw[aO hz,List.map_append]
     exact bJ (f6 hG2 (dS (st.trans s2') pr)) (f6 hG2 (.cons hv2 .nil))
    rintro ws τ G ⟨⟨u1,u2,rfl⟩,sG,hG,pr⟩
    rw[List.take_of_length_le (by rw[List.length_zip];omega)] at pr
    have pr:Paired (ff K G) (iR cs ts m.2 c) ws:=pr
    have hJG:=sG _ _ OX
    have q3G:=aB sG q3
    dsimp only[bf]
    refine⟨_,rfl,.inl ⟨rfl,⟨_,aU.of hJG⟩⟩,_,rfl,_,rfl,_,rfl,_,_,rfl,.inl (⟨aU.of hG,fun tu htu=>⟨(by show 1≤sizeLine;decide),fun t1 ht1=>?_⟩⟩)⟩
    have f1:=ao (o:=HO.tup ws) htu
    have f2:=ao (o:=HO.tup [.ref tu]) ht1
    have w1:=f2 _ _ (aj (H:=G) (a:=tu) (o:=HO.tup ws))
    have w2:=aj (H:=upd G tu (HO.tup ws)) (a:=t1) (o:=HO.tup [.ref tu])
    have Ma:=f1.trans f2
    generalize upd (upd G tu (HO.tup ws)) t1 (HO.tup [.ref tu])=G1 at w1 w2 Ma ⊢
    refine⟨b3,t1,_,_,rfl,rfl,aB Ma q3G,aY.of w2,(by simp),(by show 3≤sizeLine;decide),(fun z=>by cases z),fun _ p3 hp3=>⟨(by show 2≤sizeLine;decide),fun p4 hp4=>?_⟩⟩
    have f3:=ao (o:=HO.tup [.ref s3,.int (m'.2:Int),.ref tu]) hp3
    have f4:=ao (o:=HO.tup [.str (sg c),.ref p3]) hp4
    have w3:=f4 _ _ (aj (H:=G1) (a:=p3) (o:=HO.tup [.ref s3,.int (m'.2:Int),.ref tu]))
    have w4:=aj (H:=upd G1 p3 (HO.tup [.ref s3,.int (m'.2:Int),.ref tu])) (a:=p4) (o:=HO.tup [.str (sg c),.ref p3])
    have XQ:=Ma.trans (f3.trans f4)
    have w14:=(f3.trans f4) _ _ w1
    have hl4:=XQ _ _ hJG
    have hpl:cI K (upd (upd G1 p3 (HO.tup [.ref s3,.int (m'.2:Int),.ref tu])) p4 (HO.tup [.str (sg c),.ref p3])) (m',iR cs ts m.2 c) (.ref p3):=⟨p3,s3,tu,ws,rfl,aY.of w3,aB (sG.trans XQ) q4,aY.of w14,dS XQ pr⟩
    refine⟨l,us,_,rfl,rfl,hl4,(Nat.lt_of_le_of_lt (show us.length≤1000 by omega) (by decide)),_,_,_,_,rfl,aI hl (L8.trans (sG.trans XQ)),aj,(by rw[List.length_append];show us.length+1≤_;omega),?_⟩
    rw[List.filterMap_cons,hM]
    exact bJ (vD hl4 (sq (s1.trans (s2.trans (sG.trans XQ))) ld)) (vD hl4 (.cons ⟨p4,.ref p3,rfl,w4,hpl⟩ .nil))
  ·rintro σ J ⟨us,v1,v2,v3,rfl,sJ,hJ,hul,ld⟩
   rw[List.take_of_length_le (Nat.le_refl _)] at ld
   exact⟨_,rfl,k l us J hl hJ ld sJ⟩
def nA (K:W.Frag) (C CT CM CP:Addr):Sp:=fun vs H Q _=>∃(y:Addr) (v:V) (m:dj) (x:cN) (cs:List cN) (ts:List (Str×Str)) (z:Str),vs=[.ref y,v]∧Il K C CT CM CP H y x cs ts z∧cI K H m v∧cs.length=m.2.length∧cs.length≤1000∧∀ H',aD H H'→Q (.bl (cT ts m)) H'
theorem wC:aJ P w K mg base bG 2 (aA 35) (aM 35) ["self", "place"] (nA K (aA 64) (aA 65) (aA 66) (aA 67)):=by
 have jE:aJ P w K mg base bG 1 (aA 21) (aM 21) ["self", "mark"] (jo K (aA 64) (aA 65) (aA 66)):=qc T
 refine T.xH.ok vI (fun vs H Q E h=>?_) (fun cdv A outer s H vs Q E hr h=>?_)
 ·obtain⟨y,v,m,x,cs,ts,z,rfl,_⟩:=h;rfl
 ·have hu:=bg hr
  have g8:=hr.aP
  obtain⟨y,v,m,x,cs,ts,z,rfl,hP,hv,hcl,hcn,k⟩:=h
  obtain⟨dy,mm,lm,ms,ey,eM,XM,XO⟩:=hP.ok
  obtain⟨b,s,u,vs,rfl,hb,hs,hu,ho⟩:=hv
  obtain⟨dm,yt,lt,yts,em,eT,el,tp⟩:=eM.ok
  refine⟨_,(ai (aG (ck (bD (lB (k:=1) (aV K rfl (pv 0) rfl) T.gU T.jC jE (hr.mono (by decide)) T.jB .nil jy (af (i9 (zE K rfl) (pv 1) lC (lD aq)) ah)))) (ak (ay gA)) az)
   (ak (ay (Mr (j8 (KL K rfl rfl) T.Tc (af (dI rfl (show br ["self", "place"] (av di) ["marker", "mark"] 2 [] _ from CG) (xq K rfl rfl T.IC (af (aV K rfl (pv 0) rfl) (af (gw K (pv 1) aq) ah))) (fun _ _ _ _=>(iI K rfl 2 rfl (aW (gm 0 (show(["marker", "mark"]:List Str).Nodup by decide +kernel)) (aW (gm 1 (show(["marker", "mark"]:List Str).Nodup by decide +kernel)) iG)))) (fun _ _ _ _=>dH) (fun _ _ _ _=>(lB (k:=1) (pv 0) T.gU T.jC jE (hr.mono (by decide)) T.jB .nil jy (af (pv 1) ah)))) ah)))))),?_⟩
  refine⟨_,rfl,_,_,_,_,_,rfl,ey,T.gj,T.gc,rfl,_,_,_,rfl,em,rfl,_,rfl,_,rfl,_,_,rfl,hb,(by show ¬(_∧(2:Nat)=3);omega),fun pa hpa=>?_⟩
  have s1:=ao (o:=HO.tup [.ref s,.int (m.1.2:Int)]) hpa
  have q1:=aj (H:=H) (a:=pa) (o:=HO.tup [.ref s,.int (m.1.2:Int)])
  rw[show sO [V.ref s,.int (m.1.2:Int),.ref u] none (some 2)=[.ref s,.int (m.1.2:Int)] from rfl]
  generalize upd H pa (HO.tup [.ref s,.int (m.1.2:Int)])=H1 at s1 q1 ⊢
  refine⟨mm,.ref pa,some m.1,ts,_,_,_,_,_,_,_,rfl,wZ.mono s1 eM,⟨pa,s,rfl,aY.of q1,aB s1 hs⟩,fun H2 s2=>?_⟩
  have s12:=s1.trans s2
  by_cases hd:m.1=qT ts
  rotate_left
  ·rw[show decide (some m.1=some ((Str.ofString "row",Str.ofString ""),ts.length))=false from decide_eq_false fun z=>hd (Option.some.inj z)]
   refine⟨_,rfl,n8 ?_⟩
   rw[show cT ts m=false by unfold cT;rw[decide_eq_false hd];rfl] at k
   exact k _ s12
  rw[show decide (some m.1=some ((Str.ofString "row",Str.ofString ""),ts.length))=true from decide_eq_true (congrArg some hd)]
  refine⟨_,rfl,cz ?_⟩
  have VJ:=ho.length
  have hml:=XO.length
  refine⟨_,rfl,_,_,_,_,_,rfl,s12 _ _ ey,T.gj,T.fF,rfl,_,rfl,_,_,_,_,rfl,rfl,aB s12 hb,rfl,lm,u,rfl,⟨_,aU.of (s12 _ _ XM)⟩,⟨_,aB s12 hu⟩,fun D hD=>?_⟩
  refine Ab (K:=K) (a:=lm) (b:=u) (xs:=ms) (ys:=vs) (fun i us τ J=>(∃ v w,τ=[v,w])∧aD H2 J∧J D=some (.lst us)∧us=(m.2.take i).map fun o=>V.bl (decide (o=some (qT ts)))) ⟨⟨_,_,rfl⟩,ao hD,aj,rfl⟩ (fun i us τ J _ p=>⟨aU.of (p.2.1 _ _ (s12 _ _ XM)),aB (s12.trans p.2.1) hu,p.2.2.1⟩) ?_ ?_
  ·rintro i e w' t us τ J hi hw ht ⟨⟨v1,v2,rfl⟩,sJ,hJ,Sj⟩
   obtain⟨x',hx',ma,rfl,hma⟩:=aQ XO i e hi
   obtain⟨o,VV,hoa⟩:=kF ho i w' hw
   have st:=ao (o:=HO.tup [.ref ma,w']) ht
   have sT:=(s12.trans sJ).trans st
   have OH:FA K (aA 64) (aA 65) (aA 66) _ ma x' ts:=wZ.mono sT hma
   obtain⟨dm',y',l',ys',OI,_⟩:=OH.ok
   refine⟨t,_,rfl,aY.of aj,rfl,_,_,rfl,_,_,rfl,rfl,?_⟩
   dsimp only[Pw]
   rw[if_pos rfl]
   refine⟨_,rfl,_,_,_,rfl,OI,rfl,_,rfl,ma,w',o,ts,_,_,_,_,_,_,_,rfl,OH,vA sT hoa,fun J2 s2=>?_⟩
   have OX:=s2 _ _ (st _ _ hJ)
   have hil:i < ms.length:=(List.getElem?_eq_some_iff.mp hi).1
   have hul:us.length≤i:=by rw[Sj,List.length_map,List.length_take];omega
   refine⟨OX,Nat.lt_of_le_of_lt (show us.length≤1000 by omega) (by decide),⟨_,_,rfl⟩,aI hD (sJ.trans (st.trans s2)),aj,?_⟩
   rw[aO VV,List.map_append,←Sj]
   rfl
  rintro us τ J ⟨⟨v1,v2,rfl⟩,sJ,hJ,Sj⟩
  rw[List.take_of_length_le (by omega)] at Sj
  refine⟨D,m.2.map (fun o=>decide (o=some (qT ts))),rfl,?_,_,rfl,?_⟩
  ·rw[List.map_map]
   rw[Sj] at hJ
   exact aU.of hJ
  have hg:(!(m.2.map (fun o=>decide (o=some (qT ts)))).any id)=cT ts m:=by unfold cT;rw[decide_eq_true hd,List.any_map];rfl
  rw[hg]
  exact k _ (s12.trans sJ)
def rM (K:W.Frag):Sp:=fun vs H Q _=>∃(a o:Addr) (xs os:List V) (t:List (List Str)) (n:Nat),vs=[.ref a,.ref o,.int n]∧H a=some (.lst xs)∧Paired (bF H) xs t∧TabOk t∧(aT t).length≤24∧H o=some (.lst os)∧os.length≤3∧1≤n∧n≤4000∧∀ H',aD H H'→Q .non H'
theorem AZ:aJ P w K mg base bG 8 (aA 36) (aM 36) ["table", "others", "most"] (rM K):=by
 have II:aJ P w K mg base bG 1 (aA 30) (aM 30) ["thing", "least", "most"] yx:=Gu T
 have rL:aJ P w K mg base bG 7 (aA 28) (aM 28) ["table"] (qd K):=wA T
 refine T.tW.ok Az (fun vs H Q E h=>?_) (fun cdv A outer s H vs Q E hr h=>?_)
 ·obtain⟨a,o,xs,os,t,n,rfl,_⟩:=h;rfl
 ·have hu:=bg hr
  have g8:=hr.aP
  obtain⟨a,o,xs,os,t,n,rfl,ha,pr,tok,t24,ho,o3,n1,n4,k⟩:=h
  refine⟨_,(ai (aG (dw qI (j8 (aZ K rfl) T.bX (af (gn rL hr T.yh T.rA.kp T.yg (af (pv 0) ah)) ah)) (pF rfl T.AM.choose_spec)) (ak i6) az)
   (ai (aG (dw qI (j8 (aZ K rfl) T.bX (af (pv 1) ah)) (pF rfl T.AO.choose_spec)) (ak i6) az)
   (ak (aG (ck (bD (gn II hr T.IA T.AH.kp T.Iz (af (pv 2) (af aq (af (pF rfl T.AQ.choose_spec) ah)))))) (ak i6) az)))),?_⟩
  refine⟨_,rfl,a,xs,t,rfl,ha,pr,tok,fun l ys H1 Ac hl tp s1=>?_⟩
  have tl:=tp.length
  refine⟨_,_,rfl,.inl (aU.of hl),_,_,rfl,rfl,_,rfl,yH (by omega) (⟨_,rfl,_,_,rfl,.inl (aU.of (s1 _ _ ho)),_,_,rfl,rfl,_,rfl,yH (by omega) (⟨_,rfl,_,_,_,rfl,_,rfl,PU (by omega) (k _ s1)⟩)⟩)⟩
def Dg (P:Program) (w:World) (K:W.Frag) (C CT CM CP:Addr):Sp:=fun vs H Q _=>∃(qa:Addr) (v:V) (n:Nat) (p0:dj) (x:cN) (cs:List cN) (ts:List (Str×Str)) (z:Str),vs=[v,.ref qa,.int n]∧Il K C CT CM CP H qa x cs ts z∧cI K H p0 v∧p0.2.length=cs.length∧cs.length≤1000∧z.length≤1000∧n≤4000∧∀ t rv r a cm H',H a=none→H' t=some (.tup [rv,.ref a])→Xc K r H' rv→ji P w K H' a cm→qC (cT ts) (bZ x cs ts z) (some n) [(p0,none)] [p0] r cm→aD H H'→Q (.ref t) H'
theorem Ls:aJ P w K mg base bG 7 (aA 37) (aM 37) ["first", "searched", "most"] (Dg P w K (aA 64) (aA 65) (aA 66) (aA 67)):=by
 have xQ:aJ P w K mg base bG 2 (aA 35) (aM 35) ["self", "place"] (nA K (aA 64) (aA 65) (aA 66) (aA 67)):=wC T
 have A0:aJ P w K mg base bG 6 (aA 34) (aM 34) ["self", "place"] (qz K (aA 64) (aA 65) (aA 66) (aA 67)):=zd T
 refine T.FU.ok i0 (fun vs H Q E h=>?_) (fun cdv A outer s H vs Q E hr h=>?_)
 ·obtain⟨qa,v,n,p0,x,cs,ts,z,rfl,_⟩:=h;rfl
 ·have hu:=bg hr
  have g8:=hr.aP
  obtain⟨qa,v,n,p0,x,cs,ts,z,rfl,hW,hv,hp0,hcl,zJ,hn4,k⟩:=h
  have jx:=hr.units
  obtain⟨b,rfl⟩:=iK hv
  refine⟨_,(ai (eS 3 i0.nd (Cz (YP P w K) (aS P w) rfl rfl rfl (hp1 jx) (pv 0) bT))
   (ai (eS 4 i0.nd (bU (af (pv 0) ah)))
   (ai (zL PassesOwn.never (dw (Dz K rfl g8) (pv 4) (bU ah))
   (ai (cU PassesOwn.never rfl (bH K rfl (pv 4)) (gm 5 i0.nd)
   (ak (aG (bD (lB (k:=2) (pv 1) T.gj T.xK xQ (hr.mono (by decide)) T.xJ .nil jy (af (pv 5) ah))) (ak (ay (aC (af (pv 5) (af (pv 3) ah))))) az)))
   (ai (aG (PW.pt (eZ (dw pq (pv 2) bT) (dU (dw qI (j8 (rY (YP P w K) (aS P w) rfl rfl rfl) T.bX (af (pv 3) ah)) (pv 2))))) (ak (ay (aC (af bT (af (pv 3) ah))))) az)
   (ai (eS 6 i0.nd (bU ah))
   (ai (cU PassesOwn.never rfl (bH K rfl (pv 4)) (gm 5 i0.nd)
   (ak (cU PassesOwn.never rfl (bH K rfl (lB (k:=6) (pv 1) T.gj T.AK A0 (hr.mono (by decide)) T.AJ .nil jy (af (pv 5) ah))) (gm 7 i0.nd)
   (ak (aG (Mq (zW (YP P w K) (aS P w) rfl rfl rfl (hp2 jx) (gw K (pv 7) aq) (pv 3))) (ai (E4 (YP P w K) (aS P w) rfl rfl rfl (hp2 jx) (pv 3) (gw K (pv 7) aq) (aC (af (pv 5) (af (gw K (pv 7) aq) ah))) rfl)
   (ak (cW (cZ K rfl PySem.F.plainAttrs_list PySem.F.slot_list_append PySem.F.type_list_append cF (pv 6) (af (gw K (pv 7) aq) ah))))) az)))))
   (ak (eS 4 i0.nd (pv 6))))))))
   (ak (ay (aC (af bT (af (pv 3) ah)))))))),?_⟩
  refine bB fun Rk hk=>?_
  refine fun a ha=>?_
  have sA:=ao (o:=dN (ZP P w) (aS P w) a []) ha
  refine⟨_,rfl,aX p0,b,rfl,aj,iJ (bW sA hv),?_⟩
  have c1:ji P w K (upd (upd H a (dN (ZP P w) (aS P w) a [])) a (dN (ZP P w) (aS P w) a [(aX p0,b,.non)])) a [(p0,none)]:=ji.one aj (bW sA hv)
  have s1:aD H (upd (upd H a (dN (ZP P w) (aS P w) a [])) a (dN (ZP P w) (aS P w) a [(aX p0,b,.non)])):=aI ha sA
  generalize upd (upd H a (dN (ZP P w) (aS P w) a [])) a (dN (ZP P w) (aS P w) a [(aX p0,b,.non)])=H1 at c1 s1 ⊢
  refine hk _ _ _ (bB fun Rk hk=>?_)
  refine⟨_,rfl,(by show 1≤sizeLine;decide),fun l0 Ac=>?_⟩
  have s2:=ao (o:=HO.lst [.ref b]) Ac
  have g2:=aj (H:=H1) (a:=l0) (o:=HO.lst [.ref b])
  generalize upd H1 l0 (.lst [.ref b])=H2 at s2 g2 ⊢
  have s12:=s1.trans s2
  dsimp only[bf]
  refine hk _ _ _ (bB fun Rk hk=>?_)
  refine⟨fun nn σ J=>∃ l vs aN cm v5 v6 v7,σ=[some (.ref b),some (.ref qa),some (.int n),some (.ref a),some (.ref l),v5,v6,v7]∧aD H J∧J l=some (.lst vs)∧m7 K J vs aN∧ji P w K J a cm∧aN.length≤cm.length∧(∀ m∈aN,m.2.length=cs.length)∧(∀ r Ar,qC (cT ts) (bZ x cs ts z) (some n) cm aN r Ar→qC (cT ts) (bZ x cs ts z) (some n) [(p0,none)] [p0] r Ar)∧nn=2 * (n+1 - cm.length)+(if aN=[] then 0 else 1),⟨_,l0,_,[p0],_,_,_,_,rfl,s12,g2,.cons (bW s12 hv) .nil,c1.mono s2,(by simp),(fun m hm=>by rw[List.mem_singleton.mp hm];exact hp0),fun r Ar q=>q,rfl⟩,?_⟩
  rintro nn σ J ⟨l,vs,aN,cm,v5,v6,v7,rfl,sJ,hl,em,ca,iu,eU,hR,hn⟩
  refine⟨_,rfl,(by decide),fun e he=>⟨_,_,_,rfl,rfl,aU.of (ao he _ _ hl),aU.of aj,_,rfl,?_⟩⟩
  have se:=ao (o:=HO.lst []) he
  replace sJ:=sJ.trans se
  replace hl:=se _ _ hl
  replace em:=em.keep fun b xs q=>aB se q
  replace ca:=ca.mono se
  generalize upd J e (.lst [])=J1 at sJ hl em ca ⊢
  clear se he
  cases em with
  | nil =>
   refine cz (hk _ _ _ ⟨_,rfl,(by show 2≤sizeLine;decide),fun t ht=>?_⟩)
   exact k t .non none a cm _ ha aj rfl (ca.mono (ao ht)) (hR _ _ .stop) (sJ.trans (ao ht))
  | @cons v1 e1 vs aN h1 em =>
  have em:m7 K J1 (v1 :: vs) (e1 :: aN):=.cons h1 em
  have hne:e1 :: aN≠[]:=fun q=>nomatch q
  refine n8 ?_
  generalize e1 :: aN=aN at em hne hn hR eU iu
  generalize v1 :: vs=vs at em hl
  rw[if_neg hne] at hn
  refine⟨fun σ G=>∃ l vs v5 v6 v7,σ=[some (.ref b),some (.ref qa),some (.int n),some (.ref a),some (.ref l),v5,v6,v7]∧aN.find? (cT ts)=none∧cm.length≤n∧aD H G∧G l=some (.lst vs)∧m7 K G vs (cJ (bZ x cs ts z) cm aN).2∧ji P w K G a (cJ (bZ x cs ts z) cm aN).1∧∀ m∈(cJ (bZ x cs ts z) cm aN).2,m.2.length=cs.length,?_,?_⟩
  ·rintro σ G ⟨l,vs,v5,v6,v7,rfl,hf,hmo,sG,hl,em,ca,eU'⟩
   refine⟨_,?_,l,vs,_,_,v5,v6,v7,rfl,sG,hl,em,ca,(by have q:=jM (led:=bZ x cs ts z) aN (cm,[]);simp only[List.length_nil,Nat.add_zero] at q;unfold cJ;omega),eU',fun r Ar q=>hR r Ar (.go hne hf (fun n' e=>by cases e;exact hmo) q),rfl⟩
   have e1:=jM (led:=bZ x cs ts z) aN (cm,[])
   unfold cJ
   rw[hn]
   simp only[List.length_nil,Nat.add_zero] at e1
   by_cases q:(aN.foldl (iC (bZ x cs ts z)) (cm,[])).2=[]
   ·rw[if_pos q];rw[q,List.length_nil] at e1;omega
   ·rw[if_neg q]
    have:=List.length_pos_iff.mpr q
    omega
  refine bB fun R2 hk2=>?_
  refine⟨_,rfl,l,rfl,⟨_,aU.of hl⟩,?_⟩
  refine i7 (K:=K) (a:=l) (xs:=vs) (fun i σ G=>aD J1 G∧(∀ m∈aN.take i,cT ts m=false)∧∃ v5,σ=[some (.ref b),some (.ref qa),some (.int n),some (.ref a),some (.ref l),v5,v6,v7]) ⟨aD.refl _,(fun m hm=>nomatch hm),_,rfl⟩ (fun i σ G _ q=>aU.of (q.1 _ _ hl)) ?_ ?_
  ·rintro i e2 σ G hi ⟨sG,hno,v5',rfl⟩
   obtain⟨m,hm,hv⟩:=aQ em i e2 hi
   have EG:=bW sG hv
   have XR:=hW.mono (sJ.trans sG)
   obtain⟨dx,mm,ll,ys,ex,eM,el,tp⟩:=XR.ok
   obtain⟨bx,rfl⟩:=iK EG
   dsimp only[bf]
   refine⟨_,rfl,_,_,_,rfl,ex,rfl,_,rfl,qa,.ref bx,m,x,cs,ts,z,rfl,XR,EG,(eU m (List.mem_of_getElem? hm)).symm,hcl,fun G2 s2=>⟨_,rfl,?_⟩⟩
   by_cases hg:cT ts m=true
   ·refine mw hg ⟨_,rfl,_,rfl,(by show 2≤sizeLine;decide),fun t ht=>?_⟩
    have st:=(sG.trans s2).trans (ao (o:=HO.tup [.ref bx,.ref a]) ht)
    exact k t _ (some m) a cm _ ha aj (bW st hv) (ca.mono st) (hR _ _ (.found (N7 hm hg hno))) (sJ.trans st)
   ·refine mC (jA hg) ⟨sG.trans s2,fun m' hm'=>?_,_,rfl⟩
    rw[aO hm] at hm'
    rcases List.mem_append.mp hm' with z | z
    ·exact hno m' z
    ·rw[List.mem_singleton.mp z];exact jA hg
  rintro σ G ⟨sG,hno,v5',rfl⟩
  rw[em.length,List.take_of_length_le (Nat.le_refl _)] at hno
  have hf:=FE hno
  replace sJ:=sJ.trans sG
  replace hl:=sG _ _ hl
  replace em:=em.keep fun b xs q=>aB sG q
  replace ca:=ca.mono sG
  clear sG
  dsimp only[bf]
  obtain⟨OJ,VW,VX⟩:=ca.ok
  have kl0:=xA VX
  refine hk2 _ _ _ (bB fun R2 hk2=>?_)
  refine⟨_,rfl,rfl,_,rfl,Fb (fun z=>nomatch z) (⟨_,rfl,_,_,rfl,VW,_,rfl,_,_,rfl,rfl,_,rfl,?_⟩)⟩
  by_cases hmo:cm.length≤n
  rotate_left
  ·refine mw (decide_eq_true (show(n:Int) < (OJ.length:Int) by omega)) ⟨_,rfl,(by show 2≤sizeLine;decide),fun t ht=>?_⟩
   exact k t .non none a cm _ ha aj rfl (ca.mono (ao ht)) (hR _ _ (.over rfl hne hf (by omega))) (sJ.trans (ao ht))
  refine mC (decide_eq_false (show ¬(n:Int) < (OJ.length:Int) by omega)) (hk2 _ _ _ (bB fun R2 hk2=>⟨(by decide),fun lf Lu=>hk2 _ _ _ (bB fun R2 hk2=>⟨_,rfl,l,rfl,⟨_,aU.of (ao Lu _ _ hl)⟩,?_⟩)⟩))
  have sf:=ao (o:=HO.lst []) Lu
  have OL:=aj (H:=G) (a:=lf) (o:=HO.lst [])
  have nlf:lf≠l:=fun q=>by rw[q,hl] at Lu;cases Lu
  have flf:H lf=none:=sJ.free Lu
  replace sJ:=sJ.trans sf
  replace hl:=sf _ _ hl
  replace em:=em.keep fun b xs q=>aB sf q
  replace ca:=ca.mono sf
  generalize upd G lf (.lst [])=G1 at sJ hl em ca OL ⊢
  clear sf Lu
  refine i7 (K:=K) (a:=l) (xs:=vs) (fun i σ J=>aD H J∧J l=some (.lst vs)∧m7 K J vs aN∧∃ fv v5 v7,σ=[some (.ref b),some (.ref qa),some (.int n),some (.ref a),some (.ref l),v5,some (.ref lf),v7]∧J lf=some (.lst fv)∧m7 K J fv ((aN.take i).foldl (iC (bZ x cs ts z)) (cm,[])).2∧ji P w K J a ((aN.take i).foldl (iC (bZ x cs ts z)) (cm,[])).1∧((aN.take i).foldl (iC (bZ x cs ts z)) (cm,[])).1.length≤cm.length+i * 1000∧∀ m∈((aN.take i).foldl (iC (bZ x cs ts z)) (cm,[])).2,m.2.length=cs.length) ⟨sJ,hl,em,[],_,_,rfl,OL,.nil,ca,(by show cm.length≤cm.length+0 * 1000;omega),fun m hm=>nomatch hm⟩ (fun i σ J _ q=>aU.of q.2.1) ?_ ?_
  ·rintro i e2 σ J hi ⟨OY,hl',OI,fv,v5',v7',rfl,RE,mf,OM,OZ,fU⟩
   obtain⟨m,hm,hv⟩:=aQ OI i e2 hi
   have hmU:=eU m (List.mem_of_getElem? hm)
   have hil:=(List.getElem?_eq_some_iff.mp hm).1
   have RG:∀ e∈bZ x cs ts z m,e.2.2.length=cs.length:=fun e he=>N9 hmU he
   have XS:=Lb (x:=x) (cs:=cs) (ts:=ts) (z:=z) (m:=m)
   have ef:(aN.take (i+1)).foldl (iC (bZ x cs ts z)) (cm,[])=(bZ x cs ts z m).foldl (dP m) ((aN.take i).foldl (iC (bZ x cs ts z)) (cm,[])):=by rw[aO hm,List.foldl_append];rfl
   rw[ef]
   have hal:((aN.take i).foldl (iC (bZ x cs ts z)) (cm,[])).2.length≤((aN.take i).foldl (iC (bZ x cs ts z)) (cm,[])).1.length:=by
    have q:=jM (led:=bZ x cs ts z) (aN.take i) (cm,[])
    simp only[List.length_nil,Nat.add_zero] at q
    omega
   generalize (aN.take i).foldl (iC (bZ x cs ts z)) (cm,[])=acc at mf OM OZ fU hal ⊢
   have XR:=hW.mono OY
   obtain⟨dx,mm,ll0,ys,ex,eM,el,tp⟩:=XR.ok
   obtain⟨bx,rfl⟩:=iK hv
   dsimp only[bf]
   refine⟨_,rfl,_,_,_,rfl,ex,rfl,_,rfl,qa,.ref bx,m,x,cs,ts,z,rfl,XR,hv,hmU.symm,hcl,zJ,fun ll us J2 XT hll ld s2=>?_⟩
   have nll:ll≠lf:=fun q=>by rw[q,RE] at XT;cases XT
   have ca2:=OM.mono s2
   refine⟨ll,rfl,⟨_,aU.of hll⟩,?_⟩
   generalize hes:bZ x cs ts z m=es at ld RG XS ⊢
   refine i7 (K:=K) (a:=ll) (xs:=us) (fun j σ G=>aD H G∧G ll=some (.lst us)∧yJ K G us es∧G l=some (.lst vs)∧m7 K G vs aN∧cI K G m (.ref bx)∧∃ fv v7,σ=[some (.ref b),some (.ref qa),some (.int n),some (.ref a),some (.ref l),some (.ref bx),some (.ref lf),v7]∧G lf=some (.lst fv)∧m7 K G fv ((es.take j).foldl (dP m) acc).2∧ji P w K G a ((es.take j).foldl (dP m) acc).1∧((es.take j).foldl (dP m) acc).1.length≤cm.length+i * 1000+j∧∀ m'∈((es.take j).foldl (dP m) acc).2,m'.2.length=cs.length) ⟨OY.trans s2,hll,ld,s2 _ _ hl',OI.keep (fun b xs q=>aB s2 q),bW s2 hv,fv,_,rfl,s2 _ _ RE,mf.keep (fun b xs q=>aB s2 q),ca2,OZ,fU⟩ (fun j σ G _ q=>aU.of q.2.1) ?_ ?_
   ·rintro j e3 σ G hj ⟨sG,TV,ldG,Mb,Mc,EG,fv,v7',rfl,Me,G8,G9,RH,Kl⟩
    obtain⟨⟨c,m'⟩,VY,t3,w3,rfl,h3,O0⟩:=aQ ldG j e3 hj
    have adU:=RG _ (List.mem_of_getElem? VY)
    have ev:(es.take (j+1)).foldl (dP m) acc=dP m ((es.take j).foldl (dP m) acc) (c,m'):=by rw[aO VY,List.foldl_append];rfl
    rw[ev]
    have TX:((es.take j).foldl (dP m) acc).2.length≤((es.take j).foldl (dP m) acc).1.length:=by
     have q:=sy (p:=m) (es.take j) acc
     omega
    generalize (es.take j).foldl (dP m) acc=ac at G8 G9 RH Kl TX ⊢
    have hjl:=(List.getElem?_eq_some_iff.mp VY).1
    obtain⟨kvs,d,cr⟩:=G9.ok
    have kl:=xA cr
    obtain⟨b3,rfl⟩:=iK O0
    have ka:qm (YP P w K) G (aX m') b3:=iJ O0
    dsimp only[bf]
    refine⟨_,rfl,t3,_,_,_,rfl,rfl,aY.of h3,rfl,_,rfl,a,kvs,aX m',b3,rfl,rfl,d,ka,_,rfl,?_⟩
    rw[xy cr]
    cases hh:eg ac.1 m' with
    | true =>
     have e4:dP m ac (c,m')=ac:=if_pos hh
     rw[e4]
     exact cz ⟨sG,TV,ldG,Mb,Mc,EG,fv,_,rfl,Me,G8,G9,by omega,Kl⟩
    | false =>
     have e4:dP m ac (c,m')=(ac.1++[(m',some (m,c))],ac.2++[m']):=if_neg (by rw[hh];decide)
     rw[e4]
     refine n8 ?_
     refine⟨_,rfl,_,rfl,t3,_,_,_,rfl,rfl,aY.of h3,rfl,(by show 2≤sizeLine;decide),fun t4 ht4=>?_⟩
     have s4:=ao (o:=HO.tup [.ref bx,.str (sg c)]) ht4
     have g4:=aj (H:=G) (a:=t4) (o:=HO.tup [.ref bx,.str (sg c)])
     generalize upd G t4 (.tup [.ref bx,.str (sg c)])=G4 at s4 g4 ⊢
     have d4:=d.mono s4
     have cr4:=cr.keep fun b xs q=>aB s4 q
     have hm4:=bW s4 O0
     have lk4:vG K (some (m,c)) G4 (.ref t4):=⟨t4,.ref bx,rfl,aY.of g4,bW s4 EG⟩
     have c5:=ji.put d4 cr4 hm4 hh lk4
     have hkl:kvs.length < sizeLine:=Nat.lt_of_le_of_lt (show kvs.length≤5000000 by omega) (by decide)
     refine⟨_,rfl,_,rfl,t3,_,_,_,rfl,rfl,aY.of (s4 _ _ h3),rfl,a,kvs,aX m',b3,rfl,rfl,d4,qm.mono s4 ka,hkl,?_⟩
     have tq:=pG (F:=K) d4.ob (o:=dN (ZP P w) (aS P w) a (putN kvs (aX m') b3 (.ref t4)))
     have t1:∀ b' xs,G4 b'=some (.tup xs)→(upd G4 a (dN (ZP P w) (aS P w) a (putN kvs (aX m') b3 (.ref t4)))) b'=some (.tup xs):=fun b' xs e=>(aE (gW e d4.ob (fun q=>nomatch q))).trans e
     have tl:∀ b' xs,G4 b'=some (.lst xs)→(upd G4 a (dN (ZP P w) (aS P w) a (putN kvs (aX m') b3 (.ref t4)))) b'=some (.lst xs):=fun b' xs e=>(aE (gW e d4.ob (fun q=>nomatch q))).trans e
     have s5:aD H (upd G4 a (dN (ZP P w) (aS P w) a (putN kvs (aX m') b3 (.ref t4)))):=aI ha (sG.trans s4)
     have ll5:=tl _ _ (s4 _ _ TV)
     have l5:=tl _ _ (s4 _ _ Mb)
     have EH:=tl _ _ (s4 _ _ Me)
     have ld5:=yJ.keep t1 tq (sq s4 ldG)
     have TN:=(Mc.keep fun b xs q=>aB s4 q).keep tq
     have TY:=(G8.keep fun b xs q=>aB s4 q).keep tq
     have hv5:=cI.keep tq (bW s4 EG)
     have XU:=hm4.keep tq
     have h35:=t1 _ _ (s4 _ _ h3)
     generalize upd G4 a (dN (ZP P w) (aS P w) a (putN kvs (aX m') b3 (.ref t4)))=G5 at c5 s5 ll5 l5 EH ld5 TN TY hv5 XU h35 ⊢
     have fvl:=TY.length
     refine⟨_,rfl,.inl ⟨rfl,_,aU.of EH⟩,_,rfl,t3,_,_,_,rfl,rfl,aY.of h35,rfl,lf,_,_,rfl,rfl,EH,?_,?_⟩
     ·exact Nat.lt_of_le_of_lt (show fv.length≤5000000 by rw[fvl];omega) (by decide)
     refine⟨aI flf s5,(aE nll).trans ll5,vD EH ld5,(aE (Ne.symm nlf)).trans l5,TN.keep (fun b xs q=>jN EH q),vC EH hv5,fv++[.ref b3],_,rfl,aj,bJ (TY.keep fun b xs q=>jN EH q) (.cons (vC EH XU) .nil),c5.but EH,(by rw[List.length_append];show ac.1.length+1≤_;omega),fun m1 hm1=>?_⟩
     rcases List.mem_append.mp hm1 with z | z
     ·exact Kl m1 z
     ·rw[List.mem_singleton.mp z];exact adU
   ·rintro σ G ⟨sG,TV,ldG,Mb,Mc,EG,fv,v7',rfl,Me,G8,G9,RH,Kl⟩
    rw[ld.length,List.take_of_length_le (Nat.le_refl _)] at G8 G9 RH Kl
    exact⟨sG,Mb,Mc,fv,_,_,rfl,Me,G8,G9,by omega,Kl⟩
  ·rintro σ J ⟨OY,hl',OI,fv,v5',v7',rfl,RE,mf,OM,OZ,fU⟩
   rw[em.length,List.take_of_length_le (Nat.le_refl _)] at mf OM OZ fU
   exact hk2 _ _ _ ⟨_,rfl,lf,fv,_,_,_,rfl,hf,hmo,OY,RE,mf,OM,fU⟩
def A6 (P:Program) (w:World) (K:W.Frag):Sp:=fun vs H Q _=>∃(a:Addr) (v:V) (cm:(gY dj)) (m:dj) (x:Option (dj×Nat)) (xs:List Nat),vs=[.ref a,v]∧ji P w K H a cm∧cI K H m v∧Ao cm m=some x∧vE cm x xs∧xs.length≤100000∧∀ H',aD H H'→Q (.str (Txt.join ("":Str) (xs.map sg).reverse)) H'
theorem IJ:aJ P w K mg base bG 1 (aA 38) (aM 38) ["came", "place"] (A6 P w K):=by
 refine T.Dc.ok pS (fun vs H Q E h=>?_) (fun cdv A outer s H vs Q E hr h=>?_)
 ·obtain⟨a,v,cm,m,x,xs,rfl,_⟩:=h;rfl
 ·have hu:=bg hr
  have g8:=hr.aP
  obtain⟨a,v,cm,m,x,xs,rfl,hC,hm,hx,hp,hxl,k⟩:=h
  have jx:=hr.units
  obtain⟨b,rfl⟩:=iK hm
  refine⟨_,(ai (eS 2 pS.nd (bU ah))
   (ai (eS 3 pS.nd (E3 (YP P w K) (aS P w) rfl rfl rfl (hp2 jx) (pv 0) (pv 1) (fun _ _=>rfl)))
   (ai (zL PassesOwn.never (dw pq (pv 3) bT)
   (ai (cW (cZ K rfl PySem.F.plainAttrs_list PySem.F.slot_list_append PySem.F.type_list_append cF (pv 2) (af (gw K (pv 3) aq) ah)))
   (ak (eS 3 pS.nd (E3 (YP P w K) (aS P w) rfl rfl rfl (hp2 jx) (pv 0) (gw K (pv 3) aq) (fun _ _=>rfl))))))
   (ak (ay (E7 K rfl rfl rfl T.yu au (af (pv 2) ah))))))),?_⟩
  refine⟨(by decide),fun l hl=>⟨_,rfl,_,rfl,?_⟩⟩
  have s1:=ao (o:=HO.lst []) hl
  have hl1:=aj (H:=H) (a:=l) (o:=HO.lst [])
  generalize upd H l (.lst [])=H1 at s1 hl1 ⊢
  obtain⟨kvs,d,cr⟩:=(hC.mono s1).ok
  obtain⟨v,hv,lv⟩:=xB cr hx
  refine⟨a,kvs,aX m,b,v,rfl,rfl,d,iJ (bW s1 hm),hv,?_⟩
  dsimp only[bf]
  refine⟨fun n σ J=>∃ done rest x v,σ=[some (.ref a),some (.ref b),some (.ref l),some v]∧aD H J∧J l=some (.lst ((done.map sg).map V.str))∧vG K x J v∧vE cm x rest∧xs=done++rest∧n=rest.length,⟨_,[],xs,x,v,rfl,s1,hl1,lv,hp,rfl,rfl⟩,?_⟩
  rintro n σ J ⟨done,rest,x,v,rfl,sJ,Mf,lv,hp,hxs,hn⟩
  cases hp with
  | nil =>
   have lv:v=.non:=lv
   subst lv
   rw[List.append_nil] at hxs
   subst hxs
   refine⟨_,rfl,rfl,_,rfl,mC rfl ?_⟩
   refine⟨_,rfl,_,rfl,l,xs.map sg,rfl,aU.of Mf,?_,k J sJ⟩
   rw[DL,List.length_map]
   show xs.length+xs.length * 0≤_
   omega
  | @cons m1 c1 x1 r1 hx1 hp1 =>
   obtain⟨t,w1,rfl,ht,hw⟩:=lv
   refine⟨_,rfl,rfl,_,rfl,mw rfl ?_⟩
   refine⟨fun σ J=>∃ v,σ=[some (.ref a),some (.ref b),some (.ref l),some v]∧aD H J∧J l=some (.lst (((done++[c1]).map sg).map V.str))∧vG K x1 J v,?_,?_⟩
   ·rintro σ J' ⟨v,rfl,OY,hl',lv'⟩
    exact⟨_,by rw[hn];exact Nat.lt_succ_self _,_,_,_,_,rfl,OY,hl',lv',hp1,by rw[hxs,List.append_assoc];rfl,rfl⟩
   have hdl:done.length≤100000:=by rw[hxs,List.length_append] at hxl;omega
   refine⟨_,rfl,.inl ⟨rfl,_,aU.of Mf⟩,_,rfl,t,_,_,_,rfl,rfl,ht,rfl,l,_,_,rfl,rfl,Mf,?_,?_⟩
   ·exact Nat.lt_of_le_of_lt (show((done.map sg).map V.str).length≤100000 by rw[List.length_map,List.length_map];exact hdl) (by decide)
   have EI:=jN (o:=HO.lst ((done.map sg).map V.str++[.str (sg c1)])) Mf ht
   obtain⟨kvs,d,cr⟩:=((hC.mono sJ).but (o:=HO.lst ((done.map sg).map V.str++[.str (sg c1)])) Mf).ok
   obtain⟨v,hv,lv⟩:=xB cr hx1
   have RI:=cI.keep (fun b xs q=>jN (o:=HO.lst ((done.map sg).map V.str++[.str (sg c1)])) Mf q) hw
   obtain⟨b1,rfl⟩:=iK RI
   refine⟨_,rfl,_,rfl,t,_,_,_,rfl,rfl,EI,rfl,a,kvs,aX m1,b1,v,rfl,rfl,d,iJ RI,hv,?_⟩
   exact⟨v,rfl,aI hl sJ,by rw[List.map_append,List.map_append];exact aj,lv⟩
def Km (P:Program) (w:World) (K:W.Frag) (C CT CM CP:Addr):Sp:=fun vs H Q _=>∃(y dy a o:Addr) (xs os:List V) (t:List (List Str)) (x:cN) (cs:List cN) (n:Nat),vs=[.ref y,.ref a,.ref o,.int n]∧H y=some (.ins C dy (P6 x))∧uz x∧H a=some (.lst xs)∧Paired (bF H) xs t∧TabOk t∧H o=some (.lst os)∧Bh C H os cs∧(∀ c∈cs,uz c)∧cs.length≤20∧(aT t).length≤24∧cs.length≤3∧1≤n∧n≤4000∧∀ tt r cm aN k H',aD H H'→H tt=none→qC (cT (aT t)) (bZ x cs (aT t) (oE (x :: cs) t)) (some n) [(dO cs.length,none)] [dO cs.length] r cm→Qm (cT (aT t)) (bZ x cs (aT t) (oE (x :: cs) t)) (some n) (dO cs.length) r cm aN k→Xd K (bZ x cs (aT t) (oE (x :: cs) t)) (dO cs.length) n r cm k H H' tt→Q (.ref tt) H'
theorem QJ:aJ P w K mg base bG 12 (aA 39) (aM 39) ["dialect", "table", "others", "most"] (Km P w K (aA 64) (aA 65) (aA 66) (aA 67)):=by
 have wF:aJ P w K mg base bG 10 (aA 33) (aM 33) ["self", "dialect", "table", "others"] (mX K (aA 64) (aA 65) (aA 66) (aA 67)):=uO T
 have BU:aJ P w K mg base bG 8 (aA 36) (aM 36) ["table", "others", "most"] (rM K):=AZ T
 have BV:aJ P w K mg base bG 1 (aA 31) (aM 31) ["others"] (rK K):=AY T
 have ON:aJ P w K mg base bG 7 (aA 37) (aM 37) ["first", "searched", "most"] (Dg P w K (aA 64) (aA 65) (aA 66) (aA 67)):=Ls T
 have Lv:aJ P w K mg base bG 1 (aA 38) (aM 38) ["came", "place"] (A6 P w K):=IJ T
 refine T.IB.ok DT (fun vs H Q E h=>?_) (fun cdv A outer s H vs Q E hr h=>?_)
 ·obtain⟨y,dy,a,o,xs,os,t,x,cs,n,rfl,_⟩:=h;rfl
 ·have hu:=bg hr
  have g8:=hr.aP
  obtain⟨y,dy,a,o,xs,os,t,x,cs,n,rfl,hy,gx,ha,pr,tok,ho,mk,gs,hcl,t24,c3,n1,n4,k⟩:=h
  have jx:=hr.units
  have mkl:=mk.length
  refine⟨_,(ai (cW (gn BU hr T.BG T.tW.kp T.BF (af (pv 1) (af (pv 2) (af (pv 3) ah)))))
   (ai (eS 4 DT.nd (gn ON hr T.Ou T.FU.kp T.Ot (af (gn BV hr T.BE T.tV.kp T.BD (af (pv 2) ah)) (af (rV (k:=10) T.Oz wF (hr.mono (by decide)) rfl T.Ox T.vV .nil jy (af (pv 0) (af (pv 1) (af (pv 2) ah)))) (af (pv 3) ah)))))
   (ai (eS 5 DT.nd (gw K (pv 4) aq))
   (ai (aG (dw pq (gw K (pv 4) aq) bT) (ak (ay (aC (af au (af (gn Lv hr T.Ln T.Dc.kp T.Lm (af (pv 5) (af (gw K (pv 4) aq) ah))) ah))))) az)
   (ai (aG (dw qI (j8 (rY (YP P w K) (aS P w) rfl rfl rfl) T.bX (af (pv 5) ah)) (pv 3)) (ak (ay (aC (af au ah)))) az)
   (ak (ay (aC (af au (af (L3 (HZ (YP P w K) (aS P w) rfl rfl rfl rfl) T.p8 (af (pv 5) ah)) ah)))))))))),?_⟩
  refine⟨_,rfl,_,rfl,_,rfl,a,o,xs,os,t,n,rfl,ha,pr,tok,t24,ho,by omega,n1,n4,fun H1 s1=>?_⟩
  dsimp only[bf]
  refine⟨_,rfl,o,os,rfl,s1 _ _ ho,by omega,fun v0 H2 s2 hv0=>?_⟩
  have s12:=s1.trans s2
  rw[mkl] at hv0
  refine⟨_,rfl,_,rfl,_,rfl,fun q dq hq VZ ne=>⟨q,dq,y,dy,a,o,xs,os,t,x,cs,rfl,aj,kE hq VZ (s12 _ _ hy),gx,kE hq VZ (s12 _ _ ha),aH (fun a b h=>bF.mono (s12.trans (sj hq VZ)) h) pr,tok,kE hq VZ (s12 _ _ ho),Bh.mono (s12.trans (sj hq VZ)) mk,gs,hcl,fun H3 hP kp=>⟨rfl,?_⟩⟩⟩
  have s3:=rZ hq VZ kp
  have QK:=s12.trans s3
  have gs2:∀ c∈x :: cs,uz c:=fun c hc=>by
   rcases List.mem_cons.mp hc with q | q
   ·rw[q];exact gx
   ·exact gs c q
  have zJ:=Oc gs2 tok
  rw[List.length_cons] at zJ
  have hp0:(dO cs.length).2.length=cs.length:=List.length_replicate
  refine⟨_,rfl,q,v0,n,dO cs.length,x,cs,aT t,oE (x :: cs) t,rfl,hP,bW s3 hv0,hp0,by omega,by omega,n4,fun tf rv r a2 cm H4 _ htf TZ VY DQ s4=>?_⟩
  have EJ:=QK.trans s4
  dsimp only[bf]
  refine⟨_,rfl,tf,_,_,_,rfl,rfl,aY.of htf,rfl,?_⟩
  dsimp only[bf]
  obtain⟨aN,kk,hE,hkk⟩:=Ob DQ
  cases r with
  | none =>
   have TZ:rv=.non:=TZ
   subst TZ
   obtain⟨kvs,VW,VX⟩:=VY.ok
   have kl:=xA VX
   refine⟨_,rfl,tf,_,_,_,rfl,rfl,aY.of htf,rfl,rfl,_,rfl,mC rfl ?_⟩
   refine⟨_,rfl,a2,kvs,rfl,VW,_,rfl,_,_,rfl,rfl,_,rfl,?_⟩
   by_cases hmo:n < cm.length
   ·refine mw (decide_eq_true (show(n:Int) < (kvs.length:Int) by omega)) ⟨(by show 1≤sizeLine;decide),fun tt lV=>?_⟩
    exact k tt none cm aN kk _ (EJ.trans (ao lV)) (EJ.free lV) DQ hE (.inl ⟨hmo,aj⟩)
   ·refine mC (decide_eq_false (show ¬(n:Int) < (kvs.length:Int) by omega)) ?_
    refine⟨_,rfl,a2,kvs,rfl,VW,fun l hl=>⟨(by show 2≤sizeLine;decide),fun tt lV=>?_⟩⟩
    have f1:=ao (o:=HO.lst (kvs.map fun e=>V.ref e.2.1)) hl
    have f2:=ao (o:=HO.tup [.str ("none":Str),.ref l]) lV
    exact k tt none cm aN kk _ (EJ.trans (f1.trans f2)) ((EJ.trans f1).free lV) DQ hE (.inr ⟨by omega,l,_,aj,EJ.free hl,f2 _ _ aj,(As VX).keep fun b xs q=>aB (f1.trans f2) q⟩)
  | some m1 =>
   have TZ:cI K H4 m1 rv:=TZ
   obtain⟨b1,rfl⟩:=iK TZ
   have hmem:=List.mem_of_find?_eq_some hE.res.symm
   obtain⟨⟨x1,QL,v1,l1,w1,e1⟩,_⟩:=hE.fL.edg m1 hmem
   have hk1:=hkk (List.ne_nil_of_mem hmem)
   refine⟨_,rfl,tf,_,_,_,rfl,rfl,aY.of htf,rfl,rfl,_,rfl,mw rfl ?_⟩
   refine⟨_,rfl,_,rfl,tf,_,_,_,rfl,rfl,aY.of htf,rfl,a2,.ref b1,cm,m1,x1,QL,rfl,VY,TZ,v1,l1,by omega,fun H5 s5=>⟨(by show 2≤sizeLine;decide),fun tt lV=>?_⟩⟩
   refine k tt (some m1) cm aN kk _ (EJ.trans (s5.trans (ao lV))) ((EJ.trans s5).free lV) DQ hE ⟨QL.reverse,?_,w1,by rw[List.length_reverse];exact e1,hk1⟩
   rw[List.map_reverse]
   exact aj
def kQ (K:W.Frag):Sp:=fun vs H Q _=>∃(a:Addr) (ns:List Int) (i:Int),vs=[.ref a,.int i]∧aU K H a (ns.map V.int)∧0≤i∧∀ r:Int,Q (.int r) H
theorem qA:aJ P w K mg base bG 1 (aA 40) (aM 40) ["_law_script", "_law_k"] (kQ K):=by
 refine T.fz.ok yN (fun vs H Q E h=>?_) (fun cdv A outer s H vs Q E hr h=>?_)
 ·obtain⟨a,ns,i,rfl,_⟩:=h;rfl
 ·have hu:=bg hr
  have g8:=hr.aP
  obtain⟨a,ns,i,rfl,hS,hi,k⟩:=h
  refine⟨_,(ai (aG (dw Cf (pv 1) (j8 (aZ K rfl) T.bX (af (pv 0) ah))) (ak (ay (Ad K (pv 0) (pv 1)))) az)
   (ak (ay aq))),?_⟩
  refine⟨_,rfl,_,rfl,a,_,rfl,.inl hS,_,_,rfl,rfl,_,rfl,?_⟩
  refine bu (fun hc=>?_) (fun _=>?_)
  ·have hlt:=of_decide_eq_true hc
   obtain⟨v,ev,hv⟩:=Ie hi hlt
   obtain⟨r,_,rfl⟩:=List.mem_map.mp hv
   exact⟨_,rfl,_,rfl,a,_,_,_,rfl,rfl,hS,ev,k r⟩
  ·exact k 0
def uc:Sp:=fun vs H Q _=>∃ a b:Int,vs=[.int a,.int b]∧0≤a∧a < 4294967296∧0≤b∧b < 65536∧∀ r:Int,0≤r→r < 49979687→Q (.int r) H
theorem BW:aJ P w K mg base bG 1 (aA 41) (aM 41) ["_law_number_here", "_law_salt"] uc:=by
 refine T.lG.ok nS (fun vs H Q E h=>?_) (fun cdv A outer s H vs Q E hr h=>?_)
 ·obtain⟨a,b,rfl,_⟩:=h;rfl
 ·have hu:=bg hr
  have g8:=hr.aP
  obtain⟨a,b,rfl,ha,ha',hb,hb',k⟩:=h
  refine⟨_,(ai (eS 2 nS.nd (aK dB (aK e9 (aK kN (pv 0) (aK e9 aq (aK kN aq (pv 1)))) (aK kN aq (pv 1))) aq))
   (ai (eS 3 nS.nd (aK dB (aK e9 (aK kN (pv 2) (pv 2)) (pv 1)) aq))
   (ak (ay (aK dB (aK e9 (aK kN (pv 3) (pv 3)) (pv 2)) aq))))),?_⟩
  refine⟨_,rfl,_,rfl,_,_,rfl,rfl,.inl ⟨by decide,by decide⟩,_,_,rfl,rfl,_,_,rfl,rfl,.inl ⟨by omega,by omega⟩,_,rfl,_,_,rfl,rfl,.inl ⟨by decide,by decide⟩,_,_,rfl,rfl,_,_,rfl,rfl,(by show(0:Int) < 15485863;decide),?_⟩
  have h1:=Int.emod_nonneg (a * (1299709+210 * b)+7919 * b) (show(15485863:Int)≠0 by decide)
  have h2:=Int.emod_lt_of_pos (a * (1299709+210 * b)+7919 * b) (show(0:Int) < 15485863 by decide)
  refine⟨_,rfl,_,rfl,_,_,rfl,rfl,.inl ⟨by omega,by omega⟩,_,rfl,_,_,rfl,rfl,_,_,rfl,rfl,(by show(0:Int) < 32452843;decide),?_⟩
  refine⟨_,rfl,_,rfl,_,_,rfl,rfl,.inl ⟨?_,?_⟩,_,rfl,_,_,rfl,rfl,_,_,rfl,rfl,(by show(0:Int) < 49979687;decide),?_⟩
  ·exact Int.lt_of_lt_of_le (by decide) (Int.emod_nonneg _ (by decide))
  ·exact Int.lt_trans (Int.emod_lt_of_pos _ (by decide)) (by decide)
  ·exact k _ (Int.emod_nonneg _ (by decide)) (Int.emod_lt_of_pos _ (by decide))
def jq:Sp:=fun vs H Q _=>∃ c s:Int,vs=[.int c,.int s]∧0≤s∧s < 60000∧∀ r:Int,Q (.int r) H
theorem mY:aJ P w K mg base bG 2 (aA 42) (aM 42) ["_law_cell", "_law_salt"] jq:=by
 have qe:aJ P w K mg base bG 1 (aA 41) (aM 41) ["_law_number_here", "_law_salt"] uc:=BW T
 refine T.jP.ok mK (fun vs H Q E h=>?_) (fun cdv A outer s H vs Q E hr h=>?_)
 ·obtain⟨c,s,rfl,_⟩:=h;rfl
 ·have hu:=bg hr
  have g8:=hr.aP
  obtain⟨c,sa,rfl,hs,hs',k⟩:=h
  refine⟨_,(ai (aG (PW.pt (eZ (dw bA (aK dB (pv 0) aq) aq) (dU (dw Mw (pv 0) (aK kN aq (aK Hi aq aq)))))) (ak (ay (aK R1 (aK dW (pv 0) aq) (aK Hi aq aq)))) az)
   (ai (eS 2 mK.nd (aK dB (pv 0) aq))
   (ai (eS 3 mK.nd (aK e9 (aK kN (gn qe hr T.pV T.lG.kp T.pU (af (pv 2) (af (pv 1) ah))) aq) (gn qe hr T.pV T.lG.kp T.pU (af (pv 2) (af (aK e9 (pv 1) aq) ah)))))
   (ak (ay (aK e9 (aK kN (pv 3) aq) (gn qe hr T.pV T.lG.kp T.pU (af (pv 2) (af (aK e9 (pv 1) aq) ah))))))))),?_⟩
  have p18:Wo 10 18:=⟨by decide,by decide,by decide⟩
  have n0:0≤c % 1000000007:=Int.emod_nonneg _ (by decide)
  have n1:c % 1000000007 < 4294967296:=Int.lt_trans (Int.emod_lt_of_pos _ (by decide)) (by decide)
  refine⟨_,rfl,_,_,rfl,rfl,(by show(0:Int) < 2;decide),rfl,_,rfl,?_⟩
  refine bu (fun _=>?_) (fun _=>?_)
  ·refine⟨_,rfl,_,_,rfl,rfl,p18,_,_,rfl,rfl,.inl ⟨by decide,by decide⟩,_,_,rfl,rfl,_,rfl,?_⟩
   refine bu (fun _=>?_) (fun _=>?_)
   ·exact⟨_,rfl,_,_,rfl,rfl,⟨by decide,by decide⟩,_,_,rfl,rfl,p18,_,_,rfl,rfl,k _⟩
   ·refine⟨_,rfl,_,_,rfl,rfl,(by show(0:Int) < 1000000007;decide),?_⟩
    refine⟨_,rfl,_,rfl,_,_,rfl,n0,n1,by omega,by omega,fun r1 _ _=>?_⟩
    refine⟨_,_,rfl,rfl,.inr ⟨by decide,by decide⟩,_,rfl,_,rfl,_,_,rfl,rfl,_,_,rfl,n0,n1,by omega,by omega,fun r2 _ _=>⟨_,_,rfl,rfl,?_⟩⟩
    refine⟨_,rfl,_,_,rfl,rfl,.inr ⟨by decide,by decide⟩,_,rfl,_,rfl,_,_,rfl,rfl,_,_,rfl,n0,n1,by omega,by omega,fun r3 _ _=>⟨_,_,rfl,rfl,k _⟩⟩
  ·refine⟨_,rfl,_,_,rfl,rfl,(by show(0:Int) < 1000000007;decide),?_⟩
   refine⟨_,rfl,_,rfl,_,_,rfl,n0,n1,by omega,by omega,fun r1 _ _=>?_⟩
   refine⟨_,_,rfl,rfl,.inr ⟨by decide,by decide⟩,_,rfl,_,rfl,_,_,rfl,rfl,_,_,rfl,n0,n1,by omega,by omega,fun r2 _ _=>⟨_,_,rfl,rfl,?_⟩⟩
   refine⟨_,rfl,_,_,rfl,rfl,.inr ⟨by decide,by decide⟩,_,rfl,_,rfl,_,_,rfl,rfl,_,_,rfl,n0,n1,by omega,by omega,fun r3 _ _=>⟨_,_,rfl,rfl,k _⟩⟩
def wG:Sp:=fun vs H Q _=>∃(n m:Int) (me:Str),vs=[.int n,.int m,.str me]∧Mn me∧0≤m∧m≤3∧∀(t:Addr) (z:Str) (r:Int),Sg z→(z.length:Int)≤m→(1≤m→1≤z.length)→H t=none→Q (.ref t) (upd H t (.tup [.str z,.int r]))
theorem Eh:aJ P w K mg base bG 1 (aA 43) (aM 43) ["_law_number_here", "_law_many", "_law_menu"] wG:=by
 refine T.nq.ok gT (fun vs H Q E h=>?_) (fun cdv A outer s H vs Q E hr h=>?_)
 ·obtain⟨n,m,me,rfl,_⟩:=h;rfl
 ·have hu:=bg hr
  have g8:=hr.aP
  obtain⟨n,m,me,rfl,⟨hm1,hm2,O0⟩,h0,h3,k⟩:=h
  have hml:me.length≤sizeLine:=Nat.le_trans hm2 (by decide)
  refine⟨_,(ai (eS 3 gT.nd au)
   (ai (cU PassesOwn.never rfl (lR rfl T.oM (af (pv 1) ah)) (gm 4 gT.nd)
   (ai (eS 5 gT.nd (Co MF (pv 2) (aK dB (pv 0) (j8 cX T.bX (af (pv 2) ah))) (fun _ _=>rfl)))
   (ai (eS 0 gT.nd (aK dW (pv 0) (j8 cX T.bX (af (pv 2) ah))))
   (ak (aG (cu lE (pv 5) (pv 3) rfl) (ak (eS 3 gT.nd (aK cE (pv 3) (pv 5)))) az)))))
   (ak (ay (aC (af (pv 3) (af (pv 0) ah))))))),?_⟩
  refine⟨_,rfl,m,rfl,by omega,by omega,?_⟩
  refine lS (fun i σ H2=>H2=H∧∃(r:Int) (z:Str) (v1 v2:Option V),σ=[some (.int r),some (.int m),some (.str me),some (.str z),v1,v2]∧Sg z∧z.length≤i∧(1≤i→1≤z.length)) ⟨rfl,n,_,_,_,rfl,SQ,by decide,fun z=>absurd z (by decide)⟩ ?_ ?_
  ·rintro i σ H2 hi ⟨rfl,r,z,v1,v2,rfl,g,hz,hz1⟩
   have hlen:me.cps.toList.length=me.length:=by rw[Array.length_toList];rfl
   obtain⟨c,ec,hc⟩:=Ie (xs:=me.cps.toList) (Int.emod_nonneg r (show(me.length:Int)≠0 by omega)) (by rw[hlen];exact Int.emod_lt_of_pos r (by omega))
   refine⟨_,rfl,_,rfl,_,rfl,me,rfl,hml,_,_,rfl,rfl,(by show(0:Int) < me.length;omega),me,_,c,rfl,rfl,hml,ec,?_⟩
   refine⟨_,rfl,_,rfl,me,rfl,hml,_,_,rfl,rfl,⟨by show(0:Int) < me.length;omega,by show(me.length:Int) < 1073741824;omega⟩,?_⟩
   refine⟨_,rfl,_,rfl,_,_,rfl,rfl,_,rfl,?_⟩
   refine bu (fun ha=>?_) (fun ha=>?_)
   ·have e1:(z++(⟨#[c]⟩:Str)).length=z.length+1:=cy _ _
    refine⟨_,rfl,_,rfl,_,_,rfl,rfl,?_,rfl,_,_,_,_,rfl,SO g (O0 c hc) ha,by rw[e1];omega,fun _=>by rw[e1];omega⟩
    exact Nat.le_trans (show z.length+1≤5 by omega) (by decide)
   ·refine⟨rfl,_,_,_,_,rfl,g,by omega,fun _=>?_⟩
    have hin:c∈z.cps.toList:=Classical.byContradiction fun q=>ha ((qP z c).mpr q)
    have:=List.length_pos_of_mem hin
    rw[Array.length_toList] at this
    exact this
  ·rintro σ H2 ⟨rfl,r,z,v1,v2,rfl,g,hz,hz1⟩
   exact⟨_,rfl,_,rfl,(by show 2≤sizeLine;decide),fun t ht=>k t z r g (by omega) (fun q=>hz1 (by omega)) ht⟩
def ud:Sp:=fun vs H Q _=>∃ n:Int,vs=[.int n]∧∀(l:Addr) (m1 m2 m3:Str),Mn m1→Mn m2→Mn m3→(n≠0→n≠1→m1.length=94)→H l=none→Q (.ref l) (upd H l (.lst [.str m1,.str m2,.str m3]))
theorem BX:aJ P w K mg base bG 1 (aA 44) (aM 44) ["_law_way"] ud:=by
 refine T.vW.ok tQ (fun vs H Q E h=>?_) (fun cdv A outer s H vs Q E hr h=>?_)
 ·obtain⟨n,rfl,_⟩:=h;rfl
 ·have hu:=bg hr
  have g8:=hr.aP
  obtain⟨n,rfl,k⟩:=h
  refine⟨_,(ai (eS 1 tQ.nd au)
   (ai (aG (dw bA (pv 0) aq) (ak (ay (bU (af au (af au (af au ah)))))) az)
   (ai (aG (dw bA (pv 0) aq) (ak (ay (bU (af au (af au (af au ah)))))) az)
   (ak (ay (bU (af (pv 1) (af (pv 1) (af (pv 1) ah))))))))),?_⟩
  refine⟨_,rfl,rfl,_,rfl,?_⟩
  refine bu (fun h0=>?_) (fun _=>?_)
  ·exact⟨by decide,fun l hl=>k l _ _ _ (by decide +kernel) (by decide +kernel) (by decide +kernel) (fun q _=>absurd (NK h0) q) hl⟩
  ·refine⟨_,rfl,rfl,_,rfl,?_⟩
   refine bu (fun h1=>?_) (fun _=>?_)
   ·exact⟨by decide,fun l hl=>k l _ _ _ (by decide +kernel) (by decide +kernel) (by decide +kernel) (fun _ q=>absurd (NK h1) q) hl⟩
   ·exact⟨_,rfl,_,rfl,_,rfl,by decide,fun l hl=>k l _ _ _ (by decide +kernel) (by decide +kernel) (by decide +kernel) (fun _ _=>by decide +kernel) hl⟩
def qf:Sp:=fun vs H Q _=>∃ c:Int,vs=[.int c]∧∀(t:Addr) (p q f:Str) (b1 b2 b3 b4:Bool) (H':Hp),Gd p q f→H t=none→H' t=some (.tup (qo p q f b1 b2 b3 b4))→aD H H'→Q (.ref t) H'
theorem wH:aJ P w K mg base bG 3 (aA 45) (aM 45) ["_law_cell"] qf:=by
 have Ei:aJ P w K mg base bG 1 (aA 44) (aM 44) ["_law_way"] ud:=BX T
 have iF:aJ P w K mg base bG 2 (aA 42) (aM 42) ["_law_cell", "_law_salt"] jq:=mY T
 have rN:aJ P w K mg base bG 1 (aA 43) (aM 43) ["_law_number_here", "_law_many", "_law_menu"] wG:=Eh T
 refine T.rD.ok bR (fun vs H Q E h=>?_) (fun cdv A outer s H vs Q E hr h=>?_)
 ·obtain⟨c,rfl,_⟩:=h;rfl
 ·have hu:=bg hr
  have g8:=hr.aP
  obtain⟨c,rfl,k⟩:=h
  refine⟨_,(ai (eS 1 bR.nd (gn iF hr T.nV T.jP.kp T.nU (af (pv 0) (af aq ah))))
   (ai (eS 2 bR.nd (aK dB (pv 1) aq))
   (ai (eS 3 bR.nd (bU (af (aK e9 aq (aK dB (aK dW (pv 1) aq) aq)) (af (aK dB (aK dW (pv 1) aq) aq) (af (aK dB (aK dW (pv 1) aq) aq) ah)))))
   (ai (eS 4 bR.nd (gn Ei hr T.D3 T.vW.kp T.D0 (af (aK dB (aK dW (pv 1) aq) aq) ah)))
   (ai (kM (gn rN hr T.rC T.nq.kp T.rB (af (aK dW (pv 1) aq) (af (Ad K (pv 3) aq) (af (Ad K (pv 4) aq) ah)))) (iI K rfl 2 rfl (aW (gm 5 bR.nd) (aW (gm 1 bR.nd) iG))))
   (ai (kM (gn rN hr T.rC T.nq.kp T.rB (af (pv 1) (af (Ad K (pv 3) aq) (af (Ad K (pv 4) aq) ah)))) (iI K rfl 2 rfl (aW (gm 6 bR.nd) (aW (gm 1 bR.nd) iG))))
   (ai (kM (gn rN hr T.rC T.nq.kp T.rB (af (pv 1) (af (Ad K (pv 3) aq) (af (Ad K (pv 4) aq) ah)))) (iI K rfl 2 rfl (aW (gm 7 bR.nd) (aW (gm 1 bR.nd) iG))))
   (ai (eS 8 bR.nd (bU (af (CH bA (aK dB (pv 2) aq) aq) (af (CH bA (aK dB (aK dW (pv 2) aq) aq) aq) (af (CH bA (aK dB (aK dW (pv 2) aq) aq) aq) (af (CH bA (aK dB (aK dW (pv 2) aq) aq) aq) ah))))))
   (ak (ay (aC (af (pv 5) (af (pv 6) (af (pv 7) (af (Ad K (pv 8) aq) (af (Ad K (pv 8) aq) (af (Ad K (pv 8) aq) (af (Ad K (pv 8) aq) ah)))))))))))))))))),?_⟩
  refine⟨_,rfl,_,_,rfl,by decide,by decide,fun n=>?_⟩
  refine⟨_,rfl,_,_,rfl,rfl,(by show(0:Int) < 16;decide),?_⟩
  refine⟨_,rfl,_,_,rfl,rfl,⟨by decide,by decide⟩,_,_,rfl,rfl,(by show(0:Int) < 3;decide),_,_,rfl,rfl,_,rfl,_,_,rfl,rfl,⟨by decide,by decide⟩,_,_,rfl,rfl,(by show(0:Int) < 3;decide),_,rfl,_,_,rfl,rfl,⟨by decide,by decide⟩,_,_,rfl,rfl,(by show(0:Int) < 3;decide),(by show 3≤sizeLine;decide),fun l hl=>?_⟩
  have m1:=Int.emod_nonneg (n / 16) (show(3:Int)≠0 by decide)
  have m1':=Int.emod_lt_of_pos (n / 16) (show(0:Int) < 3 by decide)
  have m2:=Int.emod_nonneg (n / 48) (show(3:Int)≠0 by decide)
  have m2':=Int.emod_lt_of_pos (n / 48) (show(0:Int) < 3 by decide)
  have m3:=Int.emod_nonneg (n / 144) (show(3:Int)≠0 by decide)
  have m3':=Int.emod_lt_of_pos (n / 144) (show(0:Int) < 3 by decide)
  have h1:(upd H l (.lst [.int (1+n / 16 % 3),.int (n / 48 % 3),.int (n / 144 % 3)])) l=some (.lst [.int (1+n / 16 % 3),.int (n / 48 % 3),.int (n / 144 % 3)]):=aj
  have s1:aD H (upd H l (.lst [.int (1+n / 16 % 3),.int (n / 48 % 3),.int (n / 144 % 3)])):=ao hl
  generalize upd H l (.lst [.int (1+n / 16 % 3),.int (n / 48 % 3),.int (n / 144 % 3)])=H1 at h1 s1 ⊢
  refine⟨_,rfl,_,_,rfl,rfl,⟨by decide,by decide⟩,_,_,rfl,rfl,(by show(0:Int) < 3;decide),_,rfl,fun l2 e1 e2 e3 g1 g2 g3 _ hl2=>?_⟩
  have h2:(upd H1 l2 (.lst [.str e1,.str e2,.str e3])) l2=some (.lst [.str e1,.str e2,.str e3]):=aj
  have s2:aD H1 (upd H1 l2 (.lst [.str e1,.str e2,.str e3])):=ao hl2
  generalize upd H1 l2 (.lst [.str e1,.str e2,.str e3])=H2 at h2 s2 ⊢
  have h12:=s2 _ _ h1
  refine⟨_,rfl,_,_,rfl,rfl,⟨by decide,by decide⟩,_,rfl,l,_,_,_,rfl,rfl,aU.of h12,rfl,_,rfl,l2,_,_,_,rfl,rfl,aU.of h2,rfl,_,_,_,rfl,g1,by omega,by omega,fun t1 p r1 gp lp lp1 ht1=>?_⟩
  refine⟨t1,_,rfl,aY.of aj,rfl,_,_,rfl,_,_,rfl,rfl,?_⟩
  have s3:aD H2 (upd H2 t1 (.tup [.str p,.int r1])):=ao ht1
  generalize upd H2 t1 (.tup [.str p,.int r1])=H3 at s3 ⊢
  refine⟨_,rfl,_,rfl,l,_,_,_,rfl,rfl,aU.of (s3 _ _ h12),rfl,_,rfl,l2,_,_,_,rfl,rfl,aU.of (s3 _ _ h2),rfl,_,_,_,rfl,g2,by omega,by omega,fun t2 q r2 gq lq lq1 EI=>?_⟩
  refine⟨t2,_,rfl,aY.of aj,rfl,_,_,rfl,_,_,rfl,rfl,?_⟩
  have s4:aD H3 (upd H3 t2 (.tup [.str q,.int r2])):=ao EI
  generalize upd H3 t2 (.tup [.str q,.int r2])=H4 at s4 ⊢
  refine⟨_,rfl,_,rfl,l,_,_,_,rfl,rfl,aU.of (s4 _ _ (s3 _ _ h12)),rfl,_,rfl,l2,_,_,_,rfl,rfl,aU.of (s4 _ _ (s3 _ _ h2)),rfl,_,_,_,rfl,g3,by omega,by omega,fun t3 f r3 gf lf lf1 T3=>?_⟩
  refine⟨t3,_,rfl,aY.of aj,rfl,_,_,rfl,_,_,rfl,rfl,?_⟩
  have s5:aD H4 (upd H4 t3 (.tup [.str f,.int r3])):=ao T3
  generalize upd H4 t3 (.tup [.str f,.int r3])=H5 at s5 ⊢
  refine⟨_,rfl,_,_,rfl,rfl,(by show(0:Int) < 2;decide),rfl,_,rfl,_,_,rfl,rfl,⟨by decide,by decide⟩,_,_,rfl,rfl,(by show(0:Int) < 2;decide),rfl,_,rfl,_,_,rfl,rfl,⟨by decide,by decide⟩,_,_,rfl,rfl,(by show(0:Int) < 2;decide),rfl,_,rfl,_,_,rfl,rfl,⟨by decide,by decide⟩,_,_,rfl,rfl,(by show(0:Int) < 2;decide),rfl,(by show 4≤sizeLine;decide),fun l6 hl6=>?_⟩
  have s6:=ao (o:=HO.lst [.bl (decide (V.int (n % 16 % 2)=V.int 1)),.bl (decide (V.int (n % 16 / 2 % 2)=V.int 1)),.bl (decide (V.int (n % 16 / 4 % 2)=V.int 1)),.bl (decide (V.int (n % 16 / 8 % 2)=V.int 1))]) hl6
  refine⟨_,rfl,_,rfl,_,rfl,_,rfl,l6,_,_,_,rfl,rfl,aU.of aj,rfl,_,rfl,l6,_,_,_,rfl,rfl,aU.of aj,rfl,_,rfl,l6,_,_,_,rfl,rfl,aU.of aj,rfl,_,rfl,l6,_,_,_,rfl,rfl,aU.of aj,rfl,(by show 7≤sizeLine;decide),fun t ht=>?_⟩
  have XW:=((((s1.trans s2).trans s3).trans s4).trans s5).trans s6
  exact k t p q f _ _ _ _ _ ⟨gp,gq,gf,lp1 (by omega),by omega,by omega,by omega⟩ (XW.free ht) aj (XW.trans (ao ht))
def wI (C:Addr):Sp:=fun vs H Q _=>∃(t:Addr) (p q f:Str) (b1 b2 b3 b4:Bool),vs=[.ref t]∧H t=some (.tup (qo p q f b1 b2 b3 b4))∧Gd p q f∧∀(x dx:Addr) (H':Hp),H x=none→H' x=some (.ins C dx (CI p q f b1 b2 b3 b4))→aD H H'→Q (.ref x) H'
theorem Ej:aJ P w K mg base bG 5 (aA 46) (aM 46) ["_law_told_here"] (wI (aA 64)):=by
 have iV:aJ P w K mg base bG 3 (aA 3) (aM 3) ["self", "parts", "quotes", "frees", "twin", "wide", "thin", "stray"] (ia (aA 64)):=ly T
 refine T.yk.ok DU (fun vs H Q E h=>?_) (fun cdv A outer s H vs Q E hr h=>?_)
 ·obtain⟨t,p,q,f,b1,b2,b3,b4,rfl,_⟩:=h;rfl
 ·have hu:=bg hr
  have g8:=hr.aP
  obtain⟨t,p,q,f,b1,b2,b3,b4,rfl,ht,g,k⟩:=h
  have hS:aY K H t (qo p q f b1 b2 b3 b4):=aY.of ht
  refine⟨_,(ak (ay (rV (k:=3) T.De iV (hr.mono (by decide)) rfl T.Dd T.mP .nil jy (af (gw K (pv 0) aq) (af (gw K (pv 0) aq) (af (gw K (pv 0) aq) (af (gw K (pv 0) aq) (af (gw K (pv 0) aq) (af (gw K (pv 0) aq) (af (gw K (pv 0) aq) ah)))))))))),?_⟩
  refine⟨_,rfl,t,_,_,_,rfl,rfl,hS,rfl,_,rfl,t,_,_,_,rfl,rfl,hS,rfl,_,rfl,t,_,_,_,rfl,rfl,hS,rfl,_,rfl,t,_,_,_,rfl,rfl,hS,rfl,_,rfl,t,_,_,_,rfl,rfl,hS,rfl,_,rfl,t,_,_,_,rfl,rfl,hS,rfl,_,rfl,t,_,_,_,rfl,rfl,hS,rfl,fun x dx hx hdx ne=>?_⟩
  refine⟨x,dx,p,q,f,b1,b2,b3,b4,rfl,aj,g,fun H2 h2 kp=>⟨rfl,k x dx H2 hx h2 fun b o e=>kp b o ?_ (bC e hx)⟩⟩
  rw[aE (bC e hx),aE (bC e hdx)]
  exact e
def wJ (K:W.Frag):Sp:=fun vs H Q _=>∃(t s:Addr) (w u:Str) (c:Nat) (p q f:Str) (b1 b2 b3 b4:Bool),vs=[.ref t,.ref s,.str (sg c)]∧aY K H t (qo p q f b1 b2 b3 b4)∧aY K H s [.str w,.str u]∧∀ v H',aD H H'→yI K H' v (gu p q f b3 b4 w u c)→Q v H'
theorem Ek:aJ P w K mg base bG 1 (aA 47) (aM 47) ["_law_told_here", "_law_state", "_law_sign"] (wJ K):=by
 refine T.yl.ok er (fun vs H Q E h=>?_) (fun cdv A outer s H vs Q E hr h=>?_)
 ·obtain⟨t,s,w,u,c,p,q,f,b1,b2,b3,b4,rfl,_⟩:=h;rfl
 ·have hu:=bg hr
  have g8:=hr.aP
  obtain⟨t,s,w,u,c,p,q,f,b1,b2,b3,b4,rfl,ht,hs,k⟩:=h
  refine'⟨_,?aa,?bb⟩
  case aa =>
   refine' ai ?s0 ?r0
   case s0 =>
    exact(kM (pv 0) (iI K rfl 7 rfl (aW (gm 3 er.nd) (aW (gm 4 er.nd) (aW (gm 5 er.nd) (aW (gm 6 er.nd) (aW (gm 7 er.nd) (aW (gm 8 er.nd) (aW (gm 9 er.nd) iG)))))))))
   case r0 =>
    refine' ai ?s1 ?r1
    case s1 =>
     refine' aG ?c2 ?b2 ?e2
     case c2=>exact(cu cD (pv 2) (pv 5) rfl)
     case b2 =>
      refine' ak ?s3
      case s3 =>
       refine' ay ?v4
       case v4 =>
        refine' aC ?a5
        case a5 =>
         refine' af ?x6 ?y6 ?z6
         case z6=>exact rfl
         case x6 =>
          exact au
         case y6 =>
          refine' af ?x7 ?y7 ?z7
          case z7=>exact rfl
          case x7 =>
           refine' aC ?a8
           case a8 =>
            refine' af ?x9 ?y9 ?z9
            case z9=>exact rfl
            case x9 =>
             exact au
            case y9 =>
             refine' af ?XF ?XG ?XH
             case XH=>exact rfl
             case XF =>
              exact au
             case XG =>
              exact ah
          case y7 =>
           exact ah
     case e2 =>
      exact az
    case r1 =>
     refine' ai ?s11 ?r11
     case s11 =>
      refine' aG ?c12 ?b12 ?e12
      case c12=>exact(dw bA (pv 2) au)
      case b12 =>
       refine' ak ?QK
       case QK =>
        refine' ay ?v14
        case v14 =>
         refine' aC ?a15
         case a15 =>
          refine' af ?Qv ?Qw ?Qx
          case Qx=>exact rfl
          case Qv =>
           exact au
          case Qw =>
           refine' af ?x17 ?y17 ?z17
           case z17=>exact rfl
           case x17 =>
            refine' aC ?XX
            case XX =>
             refine' af ?x19 ?y19 ?z19
             case z19=>exact rfl
             case x19 =>
              exact au
             case y19 =>
              refine' af ?x20 ?y20 ?z20
              case z20=>exact rfl
              case x20 =>
               exact au
              case y20 =>
               exact ah
           case y17 =>
            exact ah
      case e12 =>
       exact az
     case r11 =>
      refine' ai ?VT ?r21
      case VT =>
       refine' aG ?c22 ?b22 ?e22
       case c22=>exact(PW.pt (eZ (dw u6 (gw K (pv 1) aq) au) (dU (cu cD (pv 2) (pv 4) rfl))))
       case b22 =>
        refine' ak ?s23
        case s23 =>
         refine' ay ?v24
         case v24 =>
          refine' aC ?a25
          case a25 =>
           refine' af ?QF ?QG ?QH
           case QH=>exact rfl
           case QF =>
            exact au
           case QG =>
            refine' af ?XA ?XC ?XD
            case XD=>exact rfl
            case XA =>
             refine' aC ?XY
             case XY =>
              refine' af ?x29 ?y29 ?z29
              case z29=>exact rfl
              case x29 =>
               exact au
              case y29 =>
               refine' af ?TJ ?TL ?TM
               case TM=>exact rfl
               case TJ =>
                exact(pv 2)
               case TL =>
                exact ah
            case XC =>
             exact ah
       case e22 =>
        exact az
      case r21 =>
       refine' ai ?s31 ?r31
       case s31 =>
        refine' aG ?XZ ?X0 ?e32
        case XZ=>exact(cu cD (pv 2) (pv 3) rfl)
        case X0 =>
         refine' ak ?s33
         case s33 =>
          refine' ay ?v34
          case v34 =>
           refine' aC ?X3
           case X3 =>
            refine' af ?Xs ?Xu ?Xv
            case Xv=>exact rfl
            case Xs =>
             exact au
            case Xu =>
             refine' af ?Xx ?Xy ?Xz
             case Xz=>exact rfl
             case Xx =>
              refine' aC ?a38
              case a38 =>
               refine' af ?x39 ?y39 ?z39
               case z39=>exact rfl
               case x39 =>
                exact au
               case y39 =>
                refine' af ?x40 ?y40 ?z40
                case z40=>exact rfl
                case x40 =>
                 exact au
                case y40 =>
                 exact ah
             case Xy =>
              exact ah
        case e32 =>
         exact az
       case r31 =>
        refine' ai ?s41 ?r41
        case s41 =>
         refine' aG ?c42 ?b42 ?e42
         case c42=>exact(PW.pt (eZ (dw u6 (gw K (pv 1) aq) au) (eZ (bD (pv 8)) (dU (dw bA (pv 2) au)))))
         case b42 =>
          refine' ak ?s43
          case s43 =>
           refine' ay ?v44
           case v44 =>
            refine' aC ?a45
            case a45 =>
             refine' af ?x46 ?y46 ?z46
             case z46=>exact rfl
             case x46 =>
              exact au
             case y46 =>
              refine' af ?x47 ?y47 ?z47
              case z47=>exact rfl
              case x47 =>
               exact(pv 1)
              case y47 =>
               exact ah
         case e42 =>
          exact az
        case r41 =>
         refine' ai ?s48 ?r48
         case s48 =>
          refine' aG ?c49 ?b49 ?e49
          case c49=>exact(PW.pt (eZ (cu cD (pv 2) (pv 4) rfl) (eZ (ck (bD (pv 9))) (dU (dw bA (gw K (pv 1) aq) au)))))
          case b49 =>
           refine' ak ?s50
           case s50 =>
            refine' ay ?v51
            case v51 =>
             refine' aC ?a52
             case a52 =>
              refine' af ?x53 ?y53 ?z53
              case z53=>exact rfl
              case x53 =>
               exact au
              case y53 =>
               refine' af ?x54 ?y54 ?z54
               case z54=>exact rfl
               case x54 =>
                exact au
               case y54 =>
                exact ah
          case e49 =>
           exact az
         case r48 =>
          refine' ak ?s55
          case s55 =>
           refine' ay ?v56
           case v56 =>
            refine' aC ?a57
            case a57 =>
             refine' af ?x58 ?y58 ?z58
             case z58=>exact rfl
             case x58 =>
              exact au
             case y58 =>
              refine' af ?x59 ?y59 ?z59
              case z59=>exact rfl
              case x59 =>
               refine' aC ?X4
               case X4 =>
                refine' af ?x61 ?y61 ?z61
                case z61=>exact rfl
                case x61 =>
                 exact au
                case y61 =>
                 refine' af ?x62 ?y62 ?z62
                 case z62=>exact rfl
                 case x62 =>
                  exact au
                 case y62 =>
                  exact ah
              case y59 =>
               exact ah
  refine⟨_,rfl,t,_,rfl,ht,rfl,_,_,rfl,_,_,rfl,_,_,rfl,_,_,rfl,_,_,rfl,_,_,rfl,_,_,rfl,rfl,?_⟩
  by_cases hw:bz w ("plain":Str)=true
  ·refine⟨_,rfl,_,rfl,_,_,rfl,rfl,_,rfl,bu (fun (h1:iX c f=true)=>?_) (fun (h1:¬iX c f=true)=>?_)⟩
   ·exact bY (by unfold gu fP;rw[if_pos hw,if_pos h1]) d8 k
   refine⟨_,rfl,rfl,_,rfl,bu (fun (h2:bz (sg c) (Str.ofString "\n")=true)=>?_) (fun (h2:¬bz (sg c) (Str.ofString "\n")=true)=>?_)⟩
   ·exact bY (by unfold gu fP;rw[if_pos hw,if_neg h1,if_pos h2]) uy k
   refine⟨_,rfl,s,_,_,_,rfl,rfl,hs,rfl,rfl,_,rfl,J7 hw (cz ?_)⟩
   refine⟨_,rfl,_,rfl,_,_,rfl,rfl,_,rfl,bu (fun (h3:iX c p=true)=>?_) (fun (h3:¬iX c p=true)=>?_)⟩
   ·exact bY (by unfold gu fP;rw[if_pos hw,if_neg h1,if_neg h2,if_pos h3]) pL k
   refine⟨_,rfl,s,_,_,_,rfl,rfl,hs,rfl,rfl,_,rfl,J7 hw (cz ?_)⟩
   refine⟨_,rfl,_,rfl,_,_,rfl,rfl,_,rfl,bu (fun (h4:iX c q=true)=>?_) (fun (h4:¬iX c q=true)=>?_)⟩
   ·refine⟨_,rfl,_,rfl,bu (fun (h5:(!b4)=true)=>?_) (fun (h5:¬(!b4)=true)=>?_)⟩
    ·refine⟨_,rfl,s,_,_,_,rfl,rfl,hs,rfl,rfl,_,rfl,mw hw ?_⟩
     exact kO (by unfold gu fP;rw[if_pos hw,if_neg h1,if_neg h2,if_neg h3,if_pos h4,if_pos h5]) k
    refine cz ?_
    exact bY (by unfold gu fP;rw[if_pos hw,if_neg h1,if_neg h2,if_neg h3,if_pos h4,if_neg h5]) dM k
   refine cz ?_
   exact bY (by unfold gu fP;rw[if_pos hw,if_neg h1,if_neg h2,if_neg h3,if_neg h4]) dM k
  ·refine⟨_,rfl,_,rfl,_,_,rfl,rfl,_,rfl,bu (fun (h1:iX c f=true)=>?_) (fun (h1:¬iX c f=true)=>?_)⟩
   ·exact bY (by unfold gu fq;rw[if_neg hw,if_pos h1]) d8 k
   refine⟨_,rfl,rfl,_,rfl,bu (fun (h2:bz (sg c) (Str.ofString "\n")=true)=>?_) (fun (h2:¬bz (sg c) (Str.ofString "\n")=true)=>?_)⟩
   ·exact bY (by unfold gu fq;rw[if_neg hw,if_neg h1,if_pos h2]) uy k
   refine⟨_,rfl,s,_,_,_,rfl,rfl,hs,rfl,rfl,_,rfl,Nx (jA hw) ?_⟩
   refine⟨_,rfl,_,rfl,_,_,rfl,rfl,_,rfl,bu (fun (h3:iX c q=true)=>?_) (fun (h3:¬iX c q=true)=>?_)⟩
   ·exact⟨_,rfl,bY (by unfold gu fq;rw[if_neg hw,if_neg h1,if_neg h2,if_pos h3]) d8 k⟩
   refine⟨_,rfl,_,rfl,_,_,rfl,rfl,_,rfl,bu (fun (h4:iX c p=true)=>?_) (fun (h4:¬iX c p=true)=>?_)⟩
   ·exact bY (by unfold gu fq;rw[if_neg hw,if_neg h1,if_neg h2,if_neg h3,if_pos h4]) pL k
   refine⟨_,rfl,s,_,_,_,rfl,rfl,hs,rfl,rfl,_,rfl,Nx (jA hw) ?_⟩
   refine⟨_,rfl,_,rfl,bu (fun (h5:b3=true)=>?_) (fun (h5:¬b3=true)=>?_)⟩
   ·refine⟨_,rfl,rfl,_,rfl,bu (fun (h6:bz (sg c) (" ":Str)=true)=>?_) (fun (h6:¬bz (sg c) (" ":Str)=true)=>?_)⟩
    ·exact⟨_,rfl,jI (by unfold gu fq;rw[if_neg hw,if_neg h1,if_neg h2,if_neg h3,if_neg h4,if_pos h6,if_pos h5]) d8 (aD.refl _) hs k⟩
    refine⟨_,rfl,_,rfl,_,_,rfl,rfl,_,rfl,mC (jA h3) (cz ?_)⟩
    exact bY (by unfold gu fq;rw[if_neg hw,if_neg h1,if_neg h2,if_neg h3,if_neg h4,if_neg h6]) dM k
   refine cz ?_
   refine⟨_,rfl,_,rfl,_,_,rfl,rfl,_,rfl,mC (jA h3) (cz ?_)⟩
   exact bY (by unfold gu fq;rw[if_neg hw,if_neg h1,if_neg h2,if_neg h3,if_neg h4];by_cases h6:bz (sg c) (" ":Str)=true <;> simp only[h6,h5,if_true,if_false,Bool.false_eq_true]) dM k
def wK (K:W.Frag):Sp:=fun vs H Q _=>∃(t s:Addr) (w u:Str) (c:Nat) (p q f:Str) (b1 b2 b3 b4:Bool),vs=[.ref t,.ref s,.str (sg c)]∧aY K H t (qo p q f b1 b2 b3 b4)∧aY K H s [.str w,.str u]∧∀ v H',aD H H'→yI K H' v (bN p q f b1 b2 b3 b4 w u c)→Q v H'
theorem El:aJ P w K mg base bG 2 (aA 48) (aM 48) ["_law_told_here", "_law_state", "_law_sign"] (wK K):=by
 have Gv:aJ P w K mg base bG 1 (aA 47) (aM 47) ["_law_told_here", "_law_state", "_law_sign"] (wJ K):=Ek T
 refine T.ym.ok cK (fun vs H Q E h=>?_) (fun cdv A outer s H vs Q E hr h=>?_)
 ·obtain⟨t,s,w,u,c,p,q,f,b1,b2,b3,b4,rfl,_⟩:=h;rfl
 ·have hu:=bg hr
  have g8:=hr.aP
  obtain⟨t,s,w,u,c,p,q,f,b1,b2,b3,b4,rfl,ht,hs,k⟩:=h
  refine'⟨_,?aa,?bb⟩
  case aa =>
   refine' ai ?s0 ?r0
   case s0 =>
    exact(kM (pv 0) (iI K rfl 7 rfl (aW (gm 3 cK.nd) (aW (gm 4 cK.nd) (aW (gm 5 cK.nd) (aW (gm 6 cK.nd) (aW (gm 7 cK.nd) (aW (gm 8 cK.nd) (aW (gm 9 cK.nd) iG)))))))))
   case r0 =>
    refine' ai ?s1 ?r1
    case s1 =>
     exact(kM (pv 1) (iI K rfl 2 rfl (aW (gm 10 cK.nd) (aW (gm 11 cK.nd) iG))))
    case r1 =>
     refine' ai ?s2 ?r2
     case s2 =>
      refine' aG ?c3 ?b3 ?e3
      case c3=>exact(dw bA (pv 10) au)
      case b3 =>
       refine' ai ?s4 ?r4
       case s4 =>
        refine' aG ?c5 ?b5 ?e5
        case c5=>exact(cu cD (pv 2) (pv 5) rfl)
        case b5 =>
         refine' ak ?s6
         case s6 =>
          refine' ay ?v7
          case v7 =>
           refine' aC ?a8
           case a8 =>
            refine' af ?x9 ?y9 ?z9
            case z9=>exact rfl
            case x9 =>
             exact au
            case y9 =>
             refine' af ?XF ?XG ?XH
             case XH=>exact rfl
             case XF =>
              refine' aC ?XE
              case XE =>
               refine' af ?x12 ?y12 ?z12
               case z12=>exact rfl
               case x12 =>
                exact au
               case y12 =>
                refine' af ?x13 ?y13 ?z13
                case z13=>exact rfl
                case x13 =>
                 exact(pv 11)
                case y13 =>
                 exact ah
             case XG =>
              exact ah
        case e5 =>
         exact az
       case r4 =>
        refine' ai ?EJ ?r14
        case EJ =>
         refine' aG ?c15 ?b15 ?e15
         case c15=>exact(dw bA (pv 2) (pv 11))
         case b15 =>
          refine' ak ?s16
          case s16 =>
           refine' ay ?v17
           case v17 =>
            refine' aC ?XX
            case XX =>
             refine' af ?x19 ?y19 ?z19
             case z19=>exact rfl
             case x19 =>
              exact au
             case y19 =>
              refine' af ?x20 ?y20 ?z20
              case z20=>exact rfl
              case x20 =>
               refine' Co (zS K rfl) ?o21 ?i21 ?h21
               case h21=>exact fun _ _=>rfl
               case o21 =>
                refine' bU ?a22
                case a22 =>
                 refine' af ?QB ?QC ?QD
                 case QD=>exact rfl
                 case QB =>
                  refine' aC ?QE
                  case QE =>
                   refine' af ?Tz ?TF ?TH
                   case TH=>exact rfl
                   case Tz =>
                    exact au
                   case TF =>
                    refine' af ?QF ?QG ?QH
                    case QH=>exact rfl
                    case QF =>
                     exact au
                    case QG =>
                     exact ah
                 case QC =>
                  refine' af ?XA ?XC ?XD
                  case XD=>exact rfl
                  case XA =>
                   refine' aC ?XY
                   case XY =>
                    refine' af ?x29 ?y29 ?z29
                    case z29=>exact rfl
                    case x29 =>
                     exact au
                    case y29 =>
                     refine' af ?TJ ?TL ?TM
                     case TM=>exact rfl
                     case TJ =>
                      exact(pv 11)
                     case TL =>
                      exact ah
                  case XC =>
                   exact ah
               case i21=>exact(L3 rU T.AL (af (pv 6) ah))
              case y20 =>
               exact ah
         case e15 =>
          exact az
        case r14 =>
         refine' ai ?s31 ?r31
         case s31 =>
          refine' aG ?XZ ?X0 ?e32
          case XZ=>exact(PW.pt (eZ (dw bA (pv 2) au) (dU (ck (bD (pv 7))))))
          case X0 =>
           refine' ak ?s33
           case s33 =>
            refine' ay ?v34
            case v34 =>
             refine' aC ?X3
             case X3 =>
              refine' af ?Xs ?Xu ?Xv
              case Xv=>exact rfl
              case Xs =>
               exact au
              case Xu =>
               refine' af ?Xx ?Xy ?Xz
               case Xz=>exact rfl
               case Xx =>
                exact au
               case Xy =>
                exact ah
          case e32 =>
           exact az
         case r31 =>
          refine' ak ?s38
          case s38 =>
           refine' ay ?v39
           case v39 =>
            refine' aC ?a40
            case a40 =>
             refine' af ?x41 ?y41 ?z41
             case z41=>exact rfl
             case x41 =>
              exact au
             case y41 =>
              refine' af ?x42 ?y42 ?z42
              case z42=>exact rfl
              case x42 =>
               exact(pv 1)
              case y42 =>
               exact ah
      case e3 =>
       exact az
     case r2 =>
      refine' ai ?s43 ?r43
      case s43 =>
       refine' aG ?c44 ?b44 ?e44
       case c44=>exact(dw bA (pv 10) au)
       case b44 =>
        refine' ai ?s45 ?r45
        case s45 =>
         refine' aG ?c46 ?b46 ?e46
         case c46=>exact(PW.pt (eZ (dw bA (pv 2) au) (dU (ck (bD (pv 7))))))
         case b46 =>
          refine' ak ?s47
          case s47 =>
           refine' ay ?v48
           case v48 =>
            refine' aC ?Xw
            case Xw =>
             refine' af ?x50 ?y50 ?z50
             case z50=>exact rfl
             case x50 =>
              exact au
             case y50 =>
              refine' af ?x51 ?y51 ?z51
              case z51=>exact rfl
              case x51 =>
               exact au
              case y51 =>
               exact ah
         case e46 =>
          exact az
        case r45 =>
         refine' ak ?s52
         case s52 =>
          refine' ay ?v53
          case v53 =>
           refine' aC ?a54
           case a54 =>
            refine' af ?x55 ?y55 ?z55
            case z55=>exact rfl
            case x55 =>
             exact au
            case y55 =>
             refine' af ?x56 ?y56 ?z56
             case z56=>exact rfl
             case x56 =>
              refine' Co (zS K rfl) ?o57 ?i57 ?h57
              case h57=>exact fun _ _=>rfl
              case o57 =>
               refine' bU ?a58
               case a58 =>
                refine' af ?x59 ?y59 ?z59
                case z59=>exact rfl
                case x59 =>
                 refine' aC ?X4
                 case X4 =>
                  refine' af ?x61 ?y61 ?z61
                  case z61=>exact rfl
                  case x61 =>
                   exact au
                  case y61 =>
                   refine' af ?x62 ?y62 ?z62
                   case z62=>exact rfl
                   case x62 =>
                    exact(pv 11)
                   case y62 =>
                    exact ah
                case y59 =>
                 refine' af ?x63 ?y63 ?z63
                 case z63=>exact rfl
                 case x63 =>
                  refine' aC ?a64
                  case a64 =>
                   refine' af ?x65 ?y65 ?z65
                   case z65=>exact rfl
                   case x65 =>
                    exact au
                   case y65 =>
                    refine' af ?x66 ?y66 ?z66
                    case z66=>exact rfl
                    case x66 =>
                     exact au
                    case y66 =>
                     exact ah
                 case y63 =>
                  exact ah
              case i57=>exact(L3 rU T.AL (af (CH bA (pv 11) au) ah))
             case y56 =>
              exact ah
       case e44 =>
        exact az
      case r43 =>
       refine' ai ?s67 ?r67
       case s67 =>
        refine' aG ?c68 ?b68 ?e68
        case c68=>exact(PW.pt (eZ (dw bA (pv 10) au) (dU (dw bA (pv 2) (pv 11)))))
        case b68 =>
         refine' ak ?RJ
         case RJ =>
          refine' ay ?v70
          case v70 =>
           refine' aC ?a71
           case a71 =>
            refine' af ?x72 ?y72 ?z72
            case z72=>exact rfl
            case x72 =>
             exact au
            case y72 =>
             refine' af ?x73 ?y73 ?z73
             case z73=>exact rfl
             case x73 =>
              refine' aC ?a74
              case a74 =>
               refine' af ?x75 ?y75 ?z75
               case z75=>exact rfl
               case x75 =>
                exact au
               case y75 =>
                refine' af ?x76 ?y76 ?z76
                case z76=>exact rfl
                case x76 =>
                 exact(pv 11)
                case y76 =>
                 exact ah
             case y73 =>
              exact ah
        case e68 =>
         exact az
       case r67 =>
        refine' ai ?s77 ?r77
        case s77 =>
         refine' aG ?c78 ?b78 ?e78
         case c78=>exact(PW.pt (gX (dw bA (pv 10) au) (gZ (dw bA (pv 10) au))))
         case b78 =>
          refine' ai ?s79 ?r79
          case s79 =>
           refine' aG ?c80 ?b80 ?e80
           case c80=>exact(dw bA (pv 2) au)
           case b80 =>
            refine' ak ?s81
            case s81 =>
             refine' ay ?v82
             case v82 =>
              refine' aC ?a83
              case a83 =>
               refine' af ?x84 ?y84 ?z84
               case z84=>exact rfl
               case x84 =>
                exact au
               case y84 =>
                refine' af ?x85 ?y85 ?z85
                case z85=>exact rfl
                case x85 =>
                 refine' aC ?a86
                 case a86 =>
                  refine' af ?x87 ?y87 ?z87
                  case z87=>exact rfl
                  case x87 =>
                   exact au
                  case y87 =>
                   refine' af ?x88 ?y88 ?z88
                   case z88=>exact rfl
                   case x88 =>
                    exact au
                   case y88 =>
                    exact ah
                case y85 =>
                 exact ah
           case e80 =>
            exact az
          case r79 =>
           refine' ai ?s89 ?r89
           case s89 =>
            refine' aG ?c90 ?b90 ?e90
            case c90=>exact(cu cD (pv 2) (pv 3) rfl)
            case b90 =>
             refine' ak ?s91
             case s91 =>
              refine' ay ?v92
              case v92 =>
               refine' aC ?a93
               case a93 =>
                refine' af ?x94 ?y94 ?z94
                case z94=>exact rfl
                case x94 =>
                 exact au
                case y94 =>
                 refine' af ?x95 ?y95 ?z95
                 case z95=>exact rfl
                 case x95 =>
                  refine' aC ?a96
                  case a96 =>
                   refine' af ?x97 ?y97 ?z97
                   case z97=>exact rfl
                   case x97 =>
                    exact au
                   case y97 =>
                    refine' af ?x98 ?y98 ?z98
                    case z98=>exact rfl
                    case x98 =>
                     exact au
                    case y98 =>
                     exact ah
                 case y95 =>
                  exact ah
            case e90 =>
             exact az
           case r89 =>
            refine' ai ?s99 ?r99
            case s99 =>
             refine' aG ?adV ?adW ?adX
             case adV=>exact(PW.pt (eZ (bD (pv 8)) (dU (dw bA (pv 2) au))))
             case adW =>
              refine' ak ?adY
              case adY =>
               refine' ay ?adZ
               case adZ =>
                refine' aC ?ad0
                case ad0 =>
                 refine' af ?ad1 ?ad2 ?ad3
                 case ad3=>exact rfl
                 case ad1 =>
                  exact au
                 case ad2 =>
                  refine' af ?ad4 ?ad5 ?ad6
                  case ad6=>exact rfl
                  case ad4 =>
                   refine' aC ?ad7
                   case ad7 =>
                    refine' af ?ad8 ?ad9 ?aea
                    case aea=>exact rfl
                    case ad8 =>
                     exact au
                    case ad9 =>
                     refine' af ?aeb ?aec ?aed
                     case aed=>exact rfl
                     case aeb =>
                      exact au
                     case aec =>
                      exact ah
                  case ad5 =>
                   exact ah
             case adX =>
              exact az
            case r99 =>
             refine' ak ?aee
             case aee =>
              refine' ay ?aef
              case aef =>
               refine' aC ?aeg
               case aeg =>
                refine' af ?aeh ?aei ?aej
                case aej=>exact rfl
                case aeh =>
                 exact au
                case aei =>
                 refine' af ?aek ?ael ?aem
                 case aem=>exact rfl
                 case aek =>
                  exact au
                 case ael =>
                  exact ah
         case e78 =>
          exact az
        case r77 =>
         refine' ak ?aen
         case aen =>
          exact(ay (gn Gv hr T.Ga T.yl.kp T.FZ (af (pv 0) (af (pv 1) (af (pv 2) ah)))))
  refine⟨_,rfl,t,_,rfl,ht,rfl,_,_,rfl,_,_,rfl,_,_,rfl,_,_,rfl,_,_,rfl,_,_,rfl,_,_,rfl,rfl,?_⟩
  refine⟨_,rfl,s,_,rfl,hs,rfl,_,_,rfl,_,_,rfl,rfl,?_⟩
  refine⟨_,rfl,rfl,_,rfl,bu (fun (h0:bz w ("within":Str)=true)=>?_) (fun (h0:¬bz w ("within":Str)=true)=>?_)⟩
  ·refine⟨_,rfl,_,rfl,_,_,rfl,rfl,_,rfl,bu (fun (h1:iX c f=true)=>?_) (fun (h1:¬iX c f=true)=>?_)⟩
   ·exact⟨_,rfl,bY (by rw[gR h0];unfold cR;rw[if_pos h1]) d8 k⟩
   refine⟨_,rfl,_,rfl,rfl,_,rfl,bu (fun (h2:bz (sg c) u=true)=>?_) (fun (h2:¬bz (sg c) u=true)=>?_)⟩
   ·refine⟨(by show 2≤sizeLine;decide),fun t1 g1=>⟨_,rfl,(by show 2≤sizeLine;decide),fun t2 g2=>⟨(by show 2≤sizeLine;decide),fun l gl=>?_⟩⟩⟩
    have z1:=ao (o:=HO.tup [.str ("behind":Str),.str ("":Str)]) g1
    have z2:=ao (o:=HO.tup [.str ("doubt":Str),.str u]) g2
    have z3:=ao (o:=HO.lst [.ref t1,.ref t2]) gl
    have y1:aY K _ t1 [.str ("behind":Str),.str ("":Str)]:=aB (z2.trans z3) (aY.of aj)
    have y2:aY K _ t2 [.str ("doubt":Str),.str u]:=aB z3 (aY.of aj)
    refine⟨_,rfl,.inr ⟨b1,rfl,?_⟩⟩
    cases b1 with
    | true=>exact⟨l,_,_,.ref t2,rfl,rfl,aU.of aj,rfl,jI (by rw[gR h0];unfold cR;rw[if_neg h1,if_pos h2];rfl) d8 ((z1.trans z2).trans z3) y2 k⟩
    | false=>exact⟨l,_,_,.ref t1,rfl,rfl,aU.of aj,rfl,jI (by rw[gR h0];unfold cR;rw[if_neg h1,if_pos h2];rfl) d8 ((z1.trans z2).trans z3) y1 k⟩
   refine⟨_,rfl,rfl,_,rfl,bu (fun (h3:bz (sg c) (Str.ofString "\n")=true)=>?_) (fun (h3:¬bz (sg c) (Str.ofString "\n")=true)=>?_)⟩
   ·refine⟨_,rfl,_,rfl,bu (fun (h4:(!b2)=true)=>?_) (fun (h4:¬(!b2)=true)=>?_)⟩
    ·exact kO (by rw[gR h0];unfold cR;rw[if_neg h1,if_neg h2,if_pos h3,if_pos h4]) k
    cases mD h0
    exact⟨_,rfl,jI (by rw[gR h0];unfold cR;rw[if_neg h1,if_neg h2,if_pos h3,if_neg h4]) dM (aD.refl _) hs k⟩
   cases mD h0
   refine cz ?_
   exact⟨_,rfl,jI (by rw[gR h0];unfold cR;rw[if_neg h1,if_neg h2,if_neg h3]) dM (aD.refl _) hs k⟩
  have n0:=h0
  clear h0
  refine⟨_,rfl,rfl,_,rfl,bu (fun (h0:bz w ("freed":Str)=true)=>?_) (fun (h0:¬bz w ("freed":Str)=true)=>?_)⟩
  ·refine⟨_,rfl,rfl,_,rfl,bu (fun (h1:bz (sg c) (Str.ofString "\n")=true)=>?_) (fun (h1:¬bz (sg c) (Str.ofString "\n")=true)=>?_)⟩
   ·refine⟨_,rfl,_,rfl,bu (fun (h2:(!b2)=true)=>?_) (fun (h2:¬(!b2)=true)=>?_)⟩
    ·exact kO (by rw[mE h0];unfold gF;rw[if_pos h1,if_pos h2]) k
    refine⟨_,rfl,(by show 2≤sizeLine;decide),fun t1 g1=>⟨(by show 2≤sizeLine;decide),fun t2 g2=>⟨(by show 2≤sizeLine;decide),fun l gl=>?_⟩⟩⟩
    have z1:=ao (o:=HO.tup [.str ("within":Str),.str u]) g1
    have z2:=ao (o:=HO.tup [.str ("plain":Str),.str ("":Str)]) g2
    have z3:=ao (o:=HO.lst [.ref t1,.ref t2]) gl
    have y1:aY K _ t1 [.str ("within":Str),.str u]:=aB (z2.trans z3) (aY.of aj)
    have y2:aY K _ t2 [.str ("plain":Str),.str ("":Str)]:=aB z3 (aY.of aj)
    refine⟨_,rfl,rfl,.inr ⟨bz u ("":Str),rfl,?_⟩⟩
    have ex:bN p q f b1 b2 b3 b4 w u c=eV u:=by rw[mE h0];unfold gF;rw[if_pos h1,if_neg h2]
    unfold eV at ex
    cases X5:bz u ("":Str) with
    | true=>exact⟨l,_,_,.ref t2,rfl,rfl,aU.of aj,rfl,jI (by rw[ex,if_pos X5]) dM ((z1.trans z2).trans z3) y2 k⟩
    | false=>exact⟨l,_,_,.ref t1,rfl,rfl,aU.of aj,rfl,jI (by rw[ex,if_neg (by rw[X5];decide)]) dM ((z1.trans z2).trans z3) y1 k⟩
   refine cz ?_
   refine⟨_,rfl,(by show 2≤sizeLine;decide),fun t1 g1=>⟨(by show 2≤sizeLine;decide),fun t2 g2=>⟨(by show 2≤sizeLine;decide),fun l gl=>?_⟩⟩⟩
   have z1:=ao (o:=HO.tup [.str ("within":Str),.str u]) g1
   have z2:=ao (o:=HO.tup [.str ("plain":Str),.str ("":Str)]) g2
   have z3:=ao (o:=HO.lst [.ref t1,.ref t2]) gl
   have y1:aY K _ t1 [.str ("within":Str),.str u]:=aB (z2.trans z3) (aY.of aj)
   have y2:aY K _ t2 [.str ("plain":Str),.str ("":Str)]:=aB z3 (aY.of aj)
   refine⟨_,rfl,rfl,.inr ⟨bz u ("":Str),rfl,?_⟩⟩
   have ex:bN p q f b1 b2 b3 b4 w u c=eV u:=by rw[mE h0];unfold gF;rw[if_neg h1]
   unfold eV at ex
   cases X5:bz u ("":Str) with
   | true=>exact⟨l,_,_,.ref t2,rfl,rfl,aU.of aj,rfl,jI (by rw[ex,if_pos X5]) dM ((z1.trans z2).trans z3) y2 k⟩
   | false=>exact⟨l,_,_,.ref t1,rfl,rfl,aU.of aj,rfl,jI (by rw[ex,if_neg (by rw[X5];decide)]) dM ((z1.trans z2).trans z3) y1 k⟩
  have n1:=h0
  clear h0
  refine⟨_,rfl,rfl,_,rfl,bu (fun (h0:bz w ("doubt":Str)=true)=>?_) (fun (h0:¬bz w ("doubt":Str)=true)=>?_)⟩
  ·refine⟨_,rfl,_,rfl,rfl,_,rfl,bu (fun (h1:bz (sg c) u=true)=>?_) (fun (h1:¬bz (sg c) u=true)=>?_)⟩
   ·exact⟨_,rfl,bY (by rw[kD h0];unfold iQ;rw[if_pos h1]) dM k⟩
   refine⟨_,rfl,rfl,_,rfl,mw h0 (n8 ?_)⟩
   refine⟨_,rfl,rfl,_,rfl,bu (fun (g1:bz (sg c) (Str.ofString "\n")=true)=>?_) (fun (g1:¬bz (sg c) (Str.ofString "\n")=true)=>?_)⟩
   ·exact bY (by rw[kD h0];unfold iQ bK;rw[if_neg h1,if_pos g1]) uy k
   refine⟨_,rfl,_,rfl,_,_,rfl,rfl,_,rfl,bu (fun (g2:iX c p=true)=>?_) (fun (g2:¬iX c p=true)=>?_)⟩
   ·exact bY (by rw[kD h0];unfold iQ bK;rw[if_neg h1,if_neg g1,if_pos g2]) pL k
   refine⟨_,rfl,_,rfl,bu (fun (g3:b3=true)=>?_) (fun (g3:¬b3=true)=>?_)⟩
   ·refine⟨_,rfl,rfl,_,rfl,bu (fun (g4:bz (sg c) (" ":Str)=true)=>?_) (fun (g4:¬bz (sg c) (" ":Str)=true)=>?_)⟩
    ·exact bY (by rw[kD h0];unfold iQ bK;rw[if_neg h1,if_neg g1,if_neg g2,if_pos g4,if_pos g3]) d8 k
    exact kO (by rw[kD h0];unfold iQ bK;rw[if_neg h1,if_neg g1,if_neg g2,if_neg g4]) k
   refine cz ?_
   exact kO (by rw[kD h0];unfold iQ bK;rw[if_neg h1,if_neg g1,if_neg g2];by_cases g4:bz (sg c) (" ":Str)=true <;> simp only[g4,g3,if_true,if_false,Bool.false_eq_true]) k
  refine cz ?_
  refine⟨_,rfl,rfl,_,rfl,mC (jA h0) ?_⟩
  refine⟨_,rfl,rfl,_,rfl,bu (fun (h9:bz w ("behind":Str)=true)=>?_) (fun (h9:¬bz w ("behind":Str)=true)=>?_)⟩
  ·refine⟨_,rfl,rfl,_,rfl,bu (fun (g1:bz (sg c) (Str.ofString "\n")=true)=>?_) (fun (g1:¬bz (sg c) (Str.ofString "\n")=true)=>?_)⟩
   ·exact bY (by rw[jJ h9];unfold bK;rw[if_pos g1]) uy k
   refine⟨_,rfl,_,rfl,_,_,rfl,rfl,_,rfl,bu (fun (g2:iX c p=true)=>?_) (fun (g2:¬iX c p=true)=>?_)⟩
   ·exact bY (by rw[jJ h9];unfold bK;rw[if_neg g1,if_pos g2]) pL k
   refine⟨_,rfl,_,rfl,bu (fun (g3:b3=true)=>?_) (fun (g3:¬b3=true)=>?_)⟩
   ·refine⟨_,rfl,rfl,_,rfl,bu (fun (g4:bz (sg c) (" ":Str)=true)=>?_) (fun (g4:¬bz (sg c) (" ":Str)=true)=>?_)⟩
    ·exact bY (by rw[jJ h9];unfold bK;rw[if_neg g1,if_neg g2,if_pos g4,if_pos g3]) d8 k
    exact kO (by rw[jJ h9];unfold bK;rw[if_neg g1,if_neg g2,if_neg g4]) k
   refine cz ?_
   exact kO (by rw[jJ h9];unfold bK;rw[if_neg g1,if_neg g2];by_cases g4:bz (sg c) (" ":Str)=true <;> simp only[g4,g3,if_true,if_false,Bool.false_eq_true]) k
  refine⟨_,rfl,_,rfl,_,rfl,t,s,w,u,c,p,q,f,b1,b2,b3,b4,rfl,ht,hs,fun v H2 s2 r=>k v H2 s2 ?_⟩
  rw[DK (jA n0) (jA n1) (jA h0) (jA h9)]
  exact r
def wL (K:W.Frag):Sp:=fun vs H Q _=>∃(t:Addr) (n:Int) (x:cN),vs=[.ref t,.int n]∧H t=some (.tup (sS x))∧uz x∧∀ t2 (y:cN) H',uz y→H' t2=some (.tup (sS y))→aD H H'→Q (.ref t2) H'
theorem Em:aJ P w K mg base bG 1 (aA 49) (aM 49) ["_law_told_here", "_law_number_here"] (wL K):=by
 refine T.yo.ok pT (fun vs H Q E h=>?_) (fun cdv A outer s H vs Q E hr h=>?_)
 ·obtain⟨t,n,x,rfl,_⟩:=h;rfl
 ·have hu:=bg hr
  have g8:=hr.aP
  obtain⟨t,n,x,rfl,ht,g,k⟩:=h
  refine⟨_,(ai (eS 2 pT.nd (L3 (tG K rfl) T.p8 (af (pv 0) ah)))
   (ai (eS 3 pT.nd (aK dB (pv 1) aq))
   (ai (aG (dw Cf (pv 3) aq) (ak (kM (Mr (Ad K (pv 2) (aK e9 aq (pv 3)))) (Dp (pv 2) (aK e9 aq (pv 3)) set_list))) az)
   (ai (aG (dw bA (pv 3) aq) (ak (kM (cZ K rfl PySem.F.plainAttrs_str PySem.F.slot_str_join PySem.F.type_str_join (lZ K rfl) au (af (Ff rfl rfl T.p8 rfl T.yu (af (gw K (pv 0) aq) ah)) ah)) (Dp (pv 2) aq set_list))) az)
   (ai (aG (dw bA (pv 3) aq) (ak (kM au (Dp (pv 2) aq set_list))) az)
   (ai (aG (dw bA (pv 3) aq) (ak (kM au (Dp (pv 2) aq set_list))) az)
   (ak (ay (L3 (gB K rfl) T.kI (af (pv 2) ah)))))))))),?_⟩
  refine⟨_,rfl,t,_,rfl,.inr (aY.of ht),fun l hl=>?_⟩
  have s1:=ao (o:=HO.lst (sS x)) hl
  have h1:(upd H l (.lst (sS x))) l=some (.lst (sS x)):=aj
  generalize upd H l (.lst (sS x))=H1 at s1 h1 ⊢
  refine⟨_,rfl,_,_,rfl,rfl,(by show(0:Int) < 7;decide),?_⟩
  have w0:=Int.emod_nonneg n (show(7:Int)≠0 by decide)
  have w1:=Int.emod_lt_of_pos n (show(0:Int) < 7 by decide)
  dsimp only[bf]
  generalize n % 7=w at w0 w1 ⊢
  refine iY (t:=Dn _ _ _) (fun σ' H'=>aD H H'∧σ'=[some (.ref t),some (.int n),some (.ref l),some (.int w)]∧∃ y:cN,uz y∧H' l=some (.lst (sS y))) ?_ (fun go=>?_)
  rotate_left
  ·refine⟨_,rfl,_,_,rfl,rfl,_,rfl,bu (fun h4=>?_) (fun _=>go _ _ ⟨s1,rfl,x,g,h1⟩)⟩
   have h4:w < 4:=of_decide_eq_true h4
   rcases(by omega:w=0∨w=1∨w=2∨w=3) with rfl | rfl | rfl | rfl
   ·exact⟨_,rfl,_,rfl,_,_,rfl,rfl,l,_,_,_,rfl,rfl,aU.of h1,rfl,x.2.2.2.a,rfl,_,rfl,_,rfl,_,_,rfl,rfl,l,_,_,3,rfl,rfl,h1,rfl,go _ _ ⟨aI hl s1,rfl,(x.1,x.2.1,x.2.2.1,⟨!x.2.2.2.a,x.2.2.2.b,x.2.2.2.c,x.2.2.2.d⟩),g,aj⟩⟩
   ·exact⟨_,rfl,_,rfl,_,_,rfl,rfl,l,_,_,_,rfl,rfl,aU.of h1,rfl,x.2.2.2.b,rfl,_,rfl,_,rfl,_,_,rfl,rfl,l,_,_,4,rfl,rfl,h1,rfl,go _ _ ⟨aI hl s1,rfl,(x.1,x.2.1,x.2.2.1,⟨x.2.2.2.a,!x.2.2.2.b,x.2.2.2.c,x.2.2.2.d⟩),g,aj⟩⟩
   ·exact⟨_,rfl,_,rfl,_,_,rfl,rfl,l,_,_,_,rfl,rfl,aU.of h1,rfl,x.2.2.2.c,rfl,_,rfl,_,rfl,_,_,rfl,rfl,l,_,_,5,rfl,rfl,h1,rfl,go _ _ ⟨aI hl s1,rfl,(x.1,x.2.1,x.2.2.1,⟨x.2.2.2.a,x.2.2.2.b,!x.2.2.2.c,x.2.2.2.d⟩),g,aj⟩⟩
   ·exact⟨_,rfl,_,rfl,_,_,rfl,rfl,l,_,_,_,rfl,rfl,aU.of h1,rfl,x.2.2.2.d,rfl,_,rfl,_,rfl,_,_,rfl,rfl,l,_,_,6,rfl,rfl,h1,rfl,go _ _ ⟨aI hl s1,rfl,(x.1,x.2.1,x.2.2.1,⟨x.2.2.2.a,x.2.2.2.b,x.2.2.2.c,!x.2.2.2.d⟩),g,aj⟩⟩
  rintro σ' H2 ⟨s2,rfl,x2,g2,h2⟩
  have a1:=g2.p1;have a2:=g2.p3;have a3:=g2.q2;have a4:=g2.f2
  have c1:=g.p1;have c2:=g.p3
  refine iY (t:=Dn _ _ _) (fun σ' H'=>aD H H'∧σ'=[some (.ref t),some (.int n),some (.ref l),some (.int w)]∧∃ y:cN,uz y∧H' l=some (.lst (sS y))) ?_ (fun go=>?_)
  rotate_left
  ·refine⟨_,rfl,rfl,_,rfl,bu (fun _=>?_) (fun _=>go _ _ ⟨s2,rfl,x2,g2,h2⟩)⟩
   have EI:=s2 _ _ ht
   have r1:=P7 x.1
   refine⟨rfl,_,rfl,t,_,_,_,rfl,rfl,aY.of EI,rfl,_,rfl,Nat.le_trans c2 (by decide),fun l2 hl2=>?_⟩
   have z2:=ao (o:=HO.lst (x.1.cps.toList.reverse.map fun c=>V.str (sg c))) hl2
   have q2:(upd H2 l2 (HO.lst (x.1.cps.toList.reverse.map fun c=>V.str (sg c)))) l2=some (.lst ((x.1.cps.toList.reverse.map sg).map V.str)):=by rw[List.map_map];exact aj
   have h3:=z2 _ _ h2
   generalize upd H2 l2 (HO.lst (x.1.cps.toList.reverse.map fun c=>V.str (sg c)))=H3 at z2 q2 h3 ⊢
   refine⟨_,l2,x.1.cps.toList.reverse.map sg,rfl,rfl,aU.of q2,?_,?_⟩
   ·rw[DL,nP,List.length_reverse,Array.length_toList]
    show x.1.length+_ * 0≤_
    omega
   rw[HK]
   exact⟨_,rfl,l,_,_,0,rfl,rfl,h3,rfl,go _ _ ⟨aI hl (s2.trans z2),rfl,(DH x.1,x2.2),⟨SX g.gp,g2.gq,g2.gf,by show 1≤(DH x.1).length;omega,by show(DH x.1).length≤3;omega,a3,a4⟩,aj⟩⟩
  rintro σ' H5 ⟨s5,rfl,x5,g5,h5⟩
  have d1:=g5.p1;have d2:=g5.p3;have d3:=g5.q2;have d4:=g5.f2
  refine iY (t:=Dn _ _ _) (fun σ' H'=>aD H H'∧σ'=[some (.ref t),some (.int n),some (.ref l),some (.int w)]∧∃ y:cN,uz y∧H' l=some (.lst (sS y))) ?_ (fun go=>?_)
  rotate_left
  ·refine⟨_,rfl,rfl,_,rfl,bu (fun _=>?_) (fun _=>go _ _ ⟨s5,rfl,x5,g5,h5⟩)⟩
   exact⟨_,rfl,l,_,_,1,rfl,rfl,h5,rfl,go _ _ ⟨aI hl s5,rfl,(x5.1,Str.ofString "",x5.2.2),⟨g5.gp,Ry,g5.gf,d1,d2,by show("":Str).length≤2;rw[nP];omega,d4⟩,aj⟩⟩
  rintro σ' H6 ⟨s6,rfl,x6,g6,h6⟩
  have e1:=g6.p1;have e2:=g6.p3;have e3:=g6.q2;have e4:=g6.f2
  refine iY (t:=Dn _ _ _) (fun σ' H'=>aD H H'∧σ'=[some (.ref t),some (.int n),some (.ref l),some (.int w)]∧∃ y:cN,uz y∧H' l=some (.lst (sS y))) ?_ (fun go=>?_)
  rotate_left
  ·refine⟨_,rfl,rfl,_,rfl,bu (fun _=>?_) (fun _=>go _ _ ⟨s6,rfl,x6,g6,h6⟩)⟩
   exact⟨_,rfl,l,_,_,2,rfl,rfl,h6,rfl,go _ _ ⟨aI hl s6,rfl,(x6.1,x6.2.1,Str.ofString "",x6.2.2.2),⟨g6.gp,g6.gq,Ry,e1,e2,e3,by show("":Str).length≤2;rw[nP];omega⟩,aj⟩⟩
  rintro σ' H7 ⟨s7,rfl,x7,g7,h7⟩
  exact⟨_,rfl,l,_,rfl,.inl ⟨aU.of h7,fun t2 EI=>k t2 x7 _ g7 aj (s7.trans (ao EI))⟩⟩
def rO (K:W.Frag):Sp:=fun vs H Q _=>∃(a t:Addr) (ns:List Int) (n0 m:Int) (x:cN),vs=[.ref a,.ref t,.int n0,.int m]∧aU K H a (ns.map V.int)∧ns.length≤63∧H t=some (.tup (sS x))∧uz x∧0≤n0∧n0≤100∧0≤m∧m≤10∧∀ l xs cs H',H l=none→H' l=some (.lst xs)→tN H' xs cs→(∀ c∈cs,uz c)→(cs.length:Int)≤m→aD H H'→Q (.ref l) H'
theorem A9:aJ P w K mg base bG 4 (aA 50) (aM 50) ["_law_script", "_law_told_here", "_law_first", "_law_many"] (rO K):=by
 have fG:aJ P w K mg base bG 1 (aA 40) (aM 40) ["_law_script", "_law_k"] (kQ K):=qA T
 have Gw:aJ P w K mg base bG 1 (aA 49) (aM 49) ["_law_told_here", "_law_number_here"] (wL K):=Em T
 have iF:aJ P w K mg base bG 2 (aA 42) (aM 42) ["_law_cell", "_law_salt"] jq:=mY T
 have rP:aJ P w K mg base bG 3 (aA 45) (aM 45) ["_law_cell"] qf:=wH T
 refine T.tX.ok jj (fun vs H Q E h=>?_) (fun cdv A outer s H vs Q E hr h=>?_)
 ·obtain⟨a,t,ns,n0,m,x,rfl,_⟩:=h;rfl
 ·have hu:=bg hr
  have g8:=hr.aP
  obtain⟨a,t,ns,n0,m,x,rfl,hS,hns,ht,g,hn0,hn1,hm0,hm1,k⟩:=h
  refine⟨_,(ai (eS 4 jj.nd (bU ah))
   (ai (cU PassesOwn.never rfl (lR rfl T.oM (af (pv 3) ah)) (gm 5 jj.nd)
   (ai (eS 6 jj.nd (gn iF hr T.nV T.jP.kp T.nU (af (gn fG hr T.gJ T.fz.kp T.gI (af (pv 0) (af (aK e9 (pv 2) (pv 5)) ah))) (af (aK e9 aq (aK kN aq (pv 5))) ah))))
   (ak (aG (dw bA (aK dB (pv 6) aq) aq) (ak (cW (cZ K rfl PySem.F.plainAttrs_list PySem.F.slot_list_append PySem.F.type_list_append cF (pv 4) (af (gn rP hr T.yj T.rD.kp T.yi (af (aK e9 (aK kN aq (aK Hi aq aq)) (aK kN aq (aK dW (pv 6) aq))) ah)) ah)))) (ak (cW (cZ K rfl PySem.F.plainAttrs_list PySem.F.slot_list_append PySem.F.type_list_append cF (pv 4) (af (gn Gw hr T.Gg T.yo.kp T.Gf (af (pv 1) (af (aK dW (pv 6) aq) ah))) ah))))))))
   (ak (ay (pv 4))))),?_⟩
  refine⟨(by show 0≤sizeLine;decide),fun l hl=>?_⟩
  have s0:=ao (o:=HO.lst []) hl
  have q0:=aj (H:=H) (a:=l) (o:=HO.lst [])
  generalize upd H l (HO.lst [])=H0 at s0 q0 ⊢
  refine⟨_,rfl,m,rfl,by omega,by omega,?_⟩
  refine lS (fun i σ J=>aD H J∧∃(xs:List V) (cs:List cN) (v1 v2:Option V),σ=[some (.ref a),some (.ref t),some (.int n0),some (.int m),some (.ref l),v1,v2]∧J l=some (.lst xs)∧tN J xs cs∧(∀ c∈cs,uz c)∧cs.length≤i) ⟨s0,[],[],none,none,rfl,q0,.nil,(fun _ z=>nomatch z),Nat.le_refl _⟩ ?_ ?_
  ·rintro i σ J hi ⟨sJ,xs,cs,v1,v2,rfl,hx,tp,gs,hcl⟩
   have hxl:=tp.length
   have hil:i < 10:=by omega
   have fin:∀(tt:Addr) (y:cN) (J2:Hp),aD J J2→J2 tt=some (.tup (sS y))→uz y→J2 l=some (.lst xs)∧xs.length < sizeLine∧aD H (upd J2 l (.lst (xs++[.ref tt])))∧tN (upd J2 l (.lst (xs++[.ref tt]))) (xs++[.ref tt]) (cs++[y])∧(∀ c∈cs++[y],uz c)∧(cs++[y]).length≤i+1:=fun tt y J2 s2 hy gy=>by
    have hx2:=s2 _ _ hx
    refine⟨hx2,Nat.lt_of_le_of_lt (show xs.length≤100 by omega) (by decide),aI hl (sJ.trans s2),tN.P8 hx2 (bJ (tN.mono s2 tp) (.cons ⟨tt,rfl,hy⟩ .nil)),fun c hc=>?_,by rw[List.length_append];show _+1≤_;omega⟩
    rcases List.mem_append.mp hc with z | z
    ·exact gs c z
    ·rw[List.mem_singleton.mp z];exact gy
   dsimp only[bf]
   refine⟨_,rfl,_,rfl,_,rfl,_,_,rfl,rfl,_,_,_,rfl,sJ.seq hS,(by omega),fun zz=>⟨_,rfl,_,_,rfl,rfl,.inl ⟨(by omega),(by omega)⟩,_,_,rfl,rfl,_,_,rfl,(by omega),(by omega),fun n=>?_⟩⟩
   dsimp only[bf]
   refine⟨_,rfl,_,_,rfl,rfl,(by show(0:Int) < 3;decide),rfl,_,rfl,bu (fun _=>?_) (fun _=>?_)⟩
   ·refine⟨_,rfl,.inl ⟨rfl,⟨_,aU.of hx⟩⟩,_,_,rfl,rfl,⟨(by omega),⟨(by omega),(by omega)⟩⟩,_,_,rfl,rfl,.inl ⟨(by omega),(by omega)⟩,_,rfl,_,_,rfl,rfl,⟨(by omega),(by omega)⟩,_,_,rfl,rfl,.inl ⟨(by omega),(by omega)⟩,_,_,rfl,rfl,_,rfl,fun t2 p' q' f' c1 c2 c3 c4 J2 g2 EI h2 s2=>⟨_,_,_,rfl,rfl,(s2 _ _ hx),?_,(aI hl (sJ.trans s2)),?_⟩⟩
    ·exact(fin t2 (p',q',f',⟨c1,c2,c3,c4⟩) J2 s2 h2 g2).2.1
    obtain⟨_,_,_,z1,z2,z3⟩:=fin t2 (p',q',f',⟨c1,c2,c3,c4⟩) J2 s2 h2 g2
    exact⟨_,_,_,_,rfl,aj,z1,z2,z3⟩
   ·refine⟨_,rfl,.inl ⟨rfl,⟨_,aU.of hx⟩⟩,_,rfl,_,rfl,_,_,rfl,rfl,⟨(by omega),(by omega)⟩,_,_,_,rfl,(sJ _ _ ht),g,fun t2 y J2 g2 h2 s2=>⟨_,_,_,rfl,rfl,(s2 _ _ hx),?_,(aI hl (sJ.trans s2)),?_⟩⟩
    ·exact(fin t2 y J2 s2 h2 g2).2.1
    obtain⟨_,_,_,z1,z2,z3⟩:=fin t2 y J2 s2 h2 g2
    exact⟨_,_,_,_,rfl,aj,z1,z2,z3⟩
  ·rintro σ J ⟨sJ,xs,cs,v1,v2,rfl,hx,tp,gs,hcl⟩
   exact⟨_,rfl,k l xs cs J hl hx tp gs (by omega) sJ⟩
def nY (K:W.Frag):Sp:=fun vs H Q _=>∃(l a:Addr) (ls xs:List V) (cs:List cN) (t:List (List Str)),vs=[.ref l,.ref a]∧H l=some (.lst ls)∧tN H ls cs∧(∀ c∈cs,uz c)∧cs.length≤20∧H a=some (.lst xs)∧Paired (bF H) xs t∧TabOk t∧∀(F:Str) H',F=oE cs t→dD F→1≤F.length→F.length≤1000→aD H H'→Q (.str F) H'
theorem uf:aJ P w K mg base bG 1 (aA 51) (aM 51) ["_law_tolds", "_law_table_here"] (nY K):=by
 refine T.pW.ok iD (fun vs H Q E h=>?_) (fun cdv A outer s H vs Q E hr h=>?_)
 ·obtain⟨l,a,ls,xs,cs,t,rfl,_⟩:=h;rfl
 ·have hu:=bg hr
  have g8:=hr.aP
  obtain⟨l,a,ls,xs,cs,t,rfl,hl,tp,gs,hcl,ha,pr,tok,k⟩:=h
  have tl:=tp.length
  have pl:=pr.length
  have hn:=tok.n
  have hsum:=tok.sum
  refine⟨_,(ai (eS 2 iD.nd (aK cE (aK cE (cZ K rfl PySem.F.plainAttrs_str PySem.F.slot_str_join PySem.F.type_str_join (lZ K rfl) au (af (dI rfl (show br ["_law_tolds", "_law_table_here", "_law_some_here", "_law_found", "_law_sign"] (av fO) ["_law_told_here"] 1 [] _ from CG) (bH K rfl (pv 0)) (fun _ _ _ _=>(gm 0 Ib)) (fun _ _ _ _=>dH) (fun _ _ _ _=>(aK cE (aK cE (gw K (pv 0) aq) (gw K (pv 0) aq)) (gw K (pv 0) aq)))) ah)) au) (cZ K rfl PySem.F.plainAttrs_str PySem.F.slot_str_join PySem.F.type_str_join (lZ K rfl) au (af (dI rfl (show br ["_law_tolds", "_law_table_here", "_law_some_here", "_law_found", "_law_sign"] (av fO) ["_law_row"] 1 [] _ from CG) (bH K rfl (pv 1)) (fun _ _ _ _=>(gm 0 Ib)) (fun _ _ _ _=>dH) (fun _ _ _ _=>(cZ K rfl PySem.F.plainAttrs_str PySem.F.slot_str_join PySem.F.type_str_join (lZ K rfl) au (af (pv 0) ah)))) ah))))
   (ai (eS 3 iD.nd au)
   (ai (cU PassesOwn.never rfl (pB (pv 2)) (gm 4 iD.nd)
   (ak (aG (cu lE (pv 4) (pv 3) rfl) (ak (eS 3 iD.nd (aK cE (pv 3) (pv 4)))) az)))
   (ak (ay (pv 3)))))),?_⟩
  refine⟨rfl,_,rfl,l,rfl,⟨_,aU.of hl⟩,fun D hD=>?_⟩
  refine cO (K:=K) (a:=l) (xs:=ls) (fun i ws τ J=>(∃ v,τ=[v])∧aD H J∧J D=some (.lst ws)∧∃ zs:List Str,ws=zs.map V.str∧zs.length=i∧zs=(cs.take i).map Xf∧∀ z∈zs,dD z∧z.length≤7) ⟨⟨_,rfl⟩,ao hD,aj,[],rfl,rfl,rfl,fun z q=>nomatch q⟩ (fun i ws τ J _ p=>⟨aU.of (p.2.1 _ _ hl),p.2.2.1⟩) ?_ ?_
  ·rintro i e ws τ J hi ⟨⟨v,rfl⟩,sJ,hJ,zs,rfl,zJ,hze,hzs⟩
   have hil:=(List.getElem?_eq_some_iff.mp hi).1
   obtain⟨x,hx,tt,rfl,lV⟩:=aQ tp i e hi
   have g:=gs x (List.mem_of_getElem? hx)
   have hp3:=g.p3;have hq2:=g.q2;have hf2:=g.f2
   have hS:aY K J tt (sS x):=aY.of (sJ _ _ lV)
   have e7:((x.1++x.2.1)++x.2.2.1).length≤7:=by rw[cy,cy];omega
   have co:dD ((x.1++x.2.1)++x.2.2.1):=ou (ou (fun c h=>.inr (g.gp.pr c h)) (fun c h=>.inr (g.gq.pr c h))) (fun c h=>.inr (g.gf.pr c h))
   refine sQ ?_
   refine⟨_,rfl,tt,_,_,_,rfl,rfl,hS,rfl,_,rfl,tt,_,_,_,rfl,rfl,hS,rfl,_,_,rfl,rfl,Nat.le_trans (show x.1.length+x.2.1.length≤5 by omega) (by decide),_,rfl,tt,_,_,_,rfl,rfl,hS,rfl,_,_,rfl,rfl,?_,hJ,?_,⟨_,rfl⟩,aI hD sJ,aj,zs++[(x.1++x.2.1)++x.2.2.1],?_,?_,by rw[aO hx,List.map_append,hze];rfl,?_⟩
   ·rw[cy];exact Nat.le_trans (show x.1.length+x.2.1.length+x.2.2.1.length≤7 by omega) (by decide)
   ·rw[List.length_map];exact Nat.lt_of_le_of_lt (show zs.length≤20 by omega) (by decide)
   ·rw[List.map_append];rfl
   ·rw[List.length_append,zJ];rfl
   ·intro z hz
    rcases List.mem_append.mp hz with h | h
    ·exact hzs z h
    ·rw[List.mem_singleton.mp h];exact⟨co,e7⟩
  rintro ws τ J ⟨⟨v,rfl⟩,sJ,hJ,zs,rfl,zJ,hze,hzs⟩
  have j1:=Kf (r:=zs) (m:=7) fun z hz=>(hzs z hz).2
  have j2:dD (dg zs):=zG fun z hz=>(hzs z hz).1
  have j3:=oB zs
  have szb:100000≤sizeLine:=by decide
  have nl2:(Str.ofString "\n ").length=2:=by decide +kernel
  have nlo:dD (Str.ofString "\n "):=by show ∀ c∈_,_;decide +kernel
  have j4:=cy (dg zs) (Str.ofString "\n ")
  refine⟨_,D,zs,rfl,rfl,aU.of hJ,by rw[nP];omega,?_⟩
  rw[pN]
  refine⟨_,_,rfl,rfl,by omega,?_⟩
  have A1:dD (dg zs++Str.ofString "\n "):=ou j2 nlo
  have A2:(dg zs++Str.ofString "\n ").length≤142∧2≤(dg zs++Str.ofString "\n ").length:=by omega
  rw[tl,List.take_of_length_le (Nat.le_refl _)] at hze
  have hzA:dg zs++Str.ofString "\n " = dg (cs.map Xf)++Str.ofString "\n " := by rw[hze]
  generalize dg zs++Str.ofString "\n " = zA at A1 A2 hzA ⊢
  have haJ:=sJ _ _ ha
  refine⟨rfl,_,rfl,a,rfl,⟨_,aU.of haJ⟩,fun E hE=>?_⟩
  refine cO (K:=K) (a:=a) (xs:=xs) (fun i ws τ G=>(∃ v,τ=[v])∧aD J G∧G E=some (.lst ws)∧ws=((t.take i).map dg).map V.str) ⟨⟨_,rfl⟩,ao hE,aj,rfl⟩ (fun i ws τ G _ p=>⟨aU.of (p.2.1 _ _ haJ),p.2.2.1⟩) ?_ ?_
  ·rintro i e ws τ G hi ⟨⟨v,rfl⟩,sG,hG,rfl⟩
   have hil:=(List.getElem?_eq_some_iff.mp hi).1
   obtain⟨r,hr,b,rfl,hb⟩:=aQ pr i e hi
   have hrs:=sd (List.mem_of_getElem? hr)
   have hrl:=(tok.rows r (List.mem_of_getElem? hr)).hi
   have hes:=oB r
   have hcs:=Fz r
   refine sQ ?_
   refine⟨rfl,_,rfl,_,b,r,rfl,rfl,aU.of ((sJ.trans sG) _ _ hb),by rw[nP];omega,hG,?_,⟨_,rfl⟩,aI hE sG,aj,?_⟩
   ·rw[List.length_map,List.length_map,List.length_take]
    exact Nat.lt_of_le_of_lt (show _≤100 by omega) (by decide)
   ·rw[pN,aO hr,List.map_append,List.map_append];rfl
  rintro ws τ G ⟨⟨v,rfl⟩,sG,hG,rfl⟩
  rw[pl,List.take_of_length_le (Nat.le_refl _)] at hG
  have k1:=CV t
  have k2:=oB (t.map dg)
  have k3:dD (dg (t.map dg)):=zG fun c hc=>by
   obtain⟨r,hr,rfl⟩:=List.mem_map.mp hc
   exact zG (tok.rows r hr).ok
  refine⟨_,E,t.map dg,rfl,rfl,aU.of hG,by rw[nP,List.length_map];omega,?_⟩
  rw[pN]
  have j6:=cy zA (dg (t.map dg))
  refine⟨_,_,rfl,rfl,by omega,?_⟩
  have B1:dD (zA++dg (t.map dg)):=ou A1 k3
  have B2:2≤(zA++dg (t.map dg)).length∧(zA++dg (t.map dg)).length≤600:=by omega
  have X6:tO (zA++dg (t.map dg))=oE cs t:=by rw[hzA];exact Qp cs t
  generalize zA++dg (t.map dg)=z at B1 B2 X6 ⊢
  refine⟨_,rfl,_,rfl,?_⟩
  have zJ:z.cps.toList.length=z.length:=by rw[Array.length_toList];rfl
  refine rW (fun i σ J2=>J2=G∧∃(F:Str) (v:Option V),σ=[some (.ref l),some (.ref a),some (.str z),some (.str F),v]∧F=⟨(d9 (z.cps.toList.take i)).toArray⟩∧dD F∧F.length≤i∧(1≤i→1≤F.length)) ⟨rfl,_,none,rfl,(by rw[List.take_zero];decide +kernel),(by show ∀ c∈_,_;decide +kernel),by decide,fun q=>absurd q (by decide)⟩ ?_ ?_
  ·rintro i c σ J2 hi ⟨rfl,F,v,rfl,eF,oF,hF,h1⟩
   have hil:=(List.getElem?_eq_some_iff.mp hi).1
   have e1:(F++(⟨#[c]⟩:Str)).length=F.length+1:=cy _ _
   refine⟨_,rfl,_,rfl,_,_,rfl,rfl,_,rfl,bu (fun hA=>?_) (fun hA=>?_)⟩
   ·refine⟨_,rfl,_,rfl,_,_,rfl,rfl,?_,rfl,_,_,rfl,?_,?_,?_,fun _=>?_⟩
    ·exact Nat.le_trans (show F.length+1≤1000 by omega) (by decide)
    ·rw[aO hi,mF]
     unfold gG
     rw[if_pos (by rw[←eF];exact hA),←JU,←eF]
     rfl
    ·exact ou oF (fun d hd=>by rw[List.mem_singleton.mp (show d∈[c] from hd)];exact B1 c (List.mem_of_getElem? hi))
    ·show(F++(⟨#[c]⟩:Str)).length≤_;rw[e1];omega
    ·show 1≤(F++(⟨#[c]⟩:Str)).length;rw[e1];omega
   ·refine⟨rfl,F,_,rfl,?_,oF,by omega,fun _=>?_⟩
    ·rw[aO hi,mF]
     unfold gG
     rw[if_neg (by rw[←eF];exact hA)]
     exact eF
    by_cases h0:1≤F.length
    ·exact h0
    ·exfalso
     refine hA ((qP F c).mpr fun hm=>?_)
     have:0 < F.cps.toList.length:=List.length_pos_of_mem hm
     rw[Array.length_toList] at this
     exact h0 this
  ·rintro σ J2 ⟨rfl,F,v,rfl,eF,oF,hF,h1⟩
   rw[List.take_of_length_le (Nat.le_refl _)] at eF
   exact⟨_,rfl,k F _ (by rw[eF];exact X6) oF (h1 (by omega)) (by omega) (sJ.trans sG)⟩
def ug (K:W.Frag):Sp:=fun vs H Q _=>∃(c:Int) (l:Addr) (ls:List V) (cs:List cN),vs=[.int c,.ref l]∧H l=some (.lst ls)∧tN H ls cs∧(∀ c∈cs,uz c)∧cs.length≤20∧∀ L es t H',H L=none→H' L=some (.lst es)→tM H H' es t→TabOk t→cells t+total t≤18→aD H H'→Q (.ref L) H'
theorem BY:aJ P w K mg base bG 3 (aA 52) (aM 52) ["_law_cell", "_law_tolds"] (ug K):=by
 have iF:aJ P w K mg base bG 2 (aA 42) (aM 42) ["_law_cell", "_law_salt"] jq:=mY T
 have qg:aJ P w K mg base bG 1 (aA 51) (aM 51) ["_law_tolds", "_law_table_here"] (nY K):=uf T
 refine T.vZ.ok bh (fun vs H Q E h=>?_) (fun cdv A outer s H vs Q E hr h=>?_)
 ·obtain⟨c,l,ls,cs,rfl,_⟩:=h;rfl
 ·have hu:=bg hr
  have g8:=hr.aP
  obtain⟨c,l,ls,cs,rfl,hl,tp,gs,hcl,k⟩:=h
  refine⟨_,(ai (eS 2 bh.nd (gn iF hr T.nV T.jP.kp T.nU (af (pv 0) (af aq ah))))
   (ai (eS 3 bh.nd (gn qg hr T.vY T.pW.kp T.vX (af (pv 1) (af (bU (af (bU (af au ah)) ah)) ah))))
   (ai (eS 4 bh.nd (Ad K (bU (af aq (af aq (af aq (af aq (af aq (af aq ah))))))) (aK dB (pv 2) aq)))
   (ai (eS 5 bh.nd (aK e9 aq (aK kN (aK dB (aK dW (pv 2) aq) aq) (L3 rU T.AL (af (CH Cf (pv 4) aq) ah)))))
   (ai (eS 2 bh.nd (aK dW (pv 2) aq))
   (ai (eS 6 bh.nd (bU ah))
   (ai (cU PassesOwn.never rfl (lR rfl T.oM (af (pv 4) ah)) (gm 7 bh.nd)
   (ai (eS 8 bh.nd (bU ah))
   (ai (cU PassesOwn.never rfl (lR rfl T.oM (af (pv 5) ah)) (gm 9 bh.nd)
   (ai (eS 10 bh.nd (aK dB (pv 2) (Ad K (bU (af aq (af aq (af aq (af aq ah))))) (pv 4))))
   (ai (eS 2 bh.nd (aK dW (pv 2) aq))
   (ai (eS 11 bh.nd au)
   (ai (cU PassesOwn.never rfl (lR rfl T.oM (af (pv 10) ah)) (gm 12 bh.nd)
   (ai (eS 11 bh.nd (aK cE (pv 11) (Co MF (pv 3) (aK dB (pv 2) (j8 cX T.bX (af (pv 3) ah))) (fun _ _=>rfl))))
   (ak (eS 2 bh.nd (aK dW (pv 2) (j8 cX T.bX (af (pv 3) ah)))))))
   (ak (cW (cZ K rfl PySem.F.plainAttrs_list PySem.F.slot_list_append PySem.F.type_list_append cF (pv 8) (af (pv 11) ah)))))))))
   (ak (cW (cZ K rfl PySem.F.plainAttrs_list PySem.F.slot_list_append PySem.F.type_list_append cF (pv 6) (af (pv 8) ah)))))))
   (ak (ay (pv 6)))))))))),?_⟩
  refine⟨_,rfl,_,_,rfl,by decide,by decide,fun n=>?_⟩
  dsimp only[bf]
  refine⟨_,rfl,(by decide),fun r1 hr1=>⟨(by show(1:Nat)≤sizeLine;decide),fun a1 ha1=>?_⟩⟩
  have f1:=ao (o:=HO.lst [.str ("a":Str)]) hr1
  have f2:=ao (o:=HO.lst [.ref r1]) ha1
  have w1:=f2 _ _ (aj (H:=H) (a:=r1) (o:=HO.lst [.str ("a":Str)]))
  have w2:=aj (H:=upd H r1 (HO.lst [.str ("a":Str)])) (a:=a1) (o:=HO.lst [.ref r1])
  have s1:=f1.trans f2
  generalize upd (upd H r1 (HO.lst [.str ("a":Str)])) a1 (HO.lst [.ref r1])=H1 at w1 w2 s1 ⊢
  have aok:dD ("a":Str):=by show ∀ c∈_,_;decide +kernel
  have al:("a":Str).length=1:=by decide +kernel
  have tok:TabOk [[Str.ofString "a"]]:=⟨by show 1≤60;omega,fun r hr=>by rw[List.mem_singleton.mp hr];exact⟨by show 1≤1;omega,by show 1≤20;omega,fun c hc=>by rw[List.mem_singleton.mp hc];exact aok⟩,by show("a":Str).length+0+0≤400;omega⟩
  refine⟨l,a1,ls,_,cs,[[Str.ofString "a"]],rfl,s1 _ _ hl,tN.mono s1 tp,gs,hcl,w2,.cons ⟨r1,rfl,w1⟩ .nil,tok,fun S H2 _ oS Ru X7 s2=>?_⟩
  have s12:=s1.trans s2
  dsimp only[bf]
  refine⟨(by decide),fun l3 hl3=>?_⟩
  have s3:=ao (o:=HO.lst [.int 1,.int 1,.int 2,.int 1,.int 0,.int 3]) hl3
  have b0:=Int.emod_nonneg n (show(6:Int)≠0 by decide)
  have b1:=Int.emod_lt_of_pos n (show(0:Int) < 6 by decide)
  obtain⟨R,hR,R0,R3⟩:∃ R:Int,Bk [V.int 1,.int 1,.int 2,.int 1,.int 0,.int 3] (n % 6)=some (.int R)∧0≤R∧R≤3:=by
   rcases(show n % 6=0∨n % 6=1∨n % 6=2∨n % 6=3∨n % 6=4∨n % 6=5 by omega) with q | q | q | q | q | q <;> rw[q] <;> exact⟨_,rfl,by decide,by decide⟩
  refine⟨_,rfl,_,_,rfl,rfl,(by show(0:Int) < 6;decide),l3,_,_,_,rfl,rfl,aU.of aj,hR,?_⟩
  generalize upd H2 l3 (HO.lst [.int 1,.int 1,.int 2,.int 1,.int 0,.int 3])=H3 at s3 ⊢
  dsimp only[bf]
  have QK:=s12.trans s3
  refine⟨_,rfl,_,_,rfl,rfl,⟨(by omega),(by omega)⟩,_,_,rfl,rfl,(by omega),_,rfl,_,_,rfl,rfl,.inr (⟨_,rfl,_,_,rfl,rfl,.inl ⟨(by omega),(by omega)⟩,_,_,rfl,rfl,_,rfl,_,_,rfl,rfl,⟨(by omega),(by omega)⟩,(by decide),fun L hL=>?_⟩)⟩
  have sL:=ao (o:=HO.lst []) hL
  have qL:=aj (H:=H3) (a:=L) (o:=HO.lst [])
  have hL0:H L=none:=QK.free hL
  generalize upd H3 L (HO.lst [])=H4 at sL qL ⊢
  have EJ:=QK.trans sL
  dsimp only[bf]
  obtain⟨C,eC,C1,C2⟩:∃ C:Int,C=1+n / 6 % 2 * (if decide (R < 2)=true then 1 else 0)∧1≤C∧C≤2:=by
   refine⟨_,rfl,?_,?_⟩ <;> split <;> omega
  rw[←eC]
  obtain⟨m,em⟩:∃ m:Int,m=n / 12:=⟨_,rfl⟩
  rw[←em]
  clear eC em
  obtain⟨d,hd,hd2⟩:∃ d:Int,Bk [V.int 3,.int 3,.int 3,.int 2] R=some (.int d)∧(d=3∨d=2):=by
   rcases(show R=0∨R=1∨R=2∨R=3 by omega) with rfl | rfl | rfl | rfl
   ·exact⟨_,rfl,.inl rfl⟩
   ·exact⟨_,rfl,.inl rfl⟩
   ·exact⟨_,rfl,.inl rfl⟩
   ·exact⟨_,rfl,.inr rfl⟩
  refine⟨_,rfl,R,rfl,by omega,by omega,?_⟩
  refine lS (fun i σ J=>aD H J∧∃(m:Int) (es:List V) (T:List (List Str)) (v1 v2 v3 v4 v5 v6:Option V),σ=[some (.int c),some (.ref l),some (.int m),some (.str S),some (.int R),some (.int C),some (.ref L),v1,v2,v3,v4,v5,v6]∧J L=some (.lst es)∧V.ref L∉es∧tM H J es T∧(∀ r∈T,Ag r)∧cells T+total T≤6 * i∧T.length≤i) ⟨EJ,m,[],[],none,none,none,none,none,none,rfl,qL,(fun z=>nomatch z),.nil,(fun _ z=>nomatch z),Nat.le_refl _,Nat.le_refl _⟩ ?_ ?_
  ·rintro i σ J hi ⟨sJ,m,es,T,v1,v2,v3,v4,v5,v6,rfl,hLJ,nL,RK,okT,aeo,hTl⟩
   have hel:=RK.length
   refine⟨(by decide),fun Rw X8=>?_⟩
   have sr:=ao (o:=HO.lst []) X8
   have qR:=aj (H:=J) (a:=Rw) (o:=HO.lst [])
   have hR0:H Rw=none:=sJ.free X8
   have nRL:Rw≠L:=fun q=>by rw[q,hLJ] at X8;cases X8
   have nRe:V.ref Rw∉es:=fun q=>by
    obtain⟨_,ys,hy⟩:=tM.has RK q
    rw[X8] at hy;cases hy
   have hL4:=sr _ _ hLJ
   have rw4:=tM.mono sr RK
   have sJ4:=sJ.trans sr
   generalize upd J Rw (HO.lst [])=J4 at qR hL4 rw4 sJ4 ⊢
   dsimp only[bf]
   refine⟨_,rfl,C,rfl,by omega,by omega,?_⟩
   refine lS (fun j σ G=>aD H G∧∃(m:Int) (r:List Str) (v1 v3 v4 v5 v6:Option V),σ=[some (.int c),some (.ref l),some (.int m),some (.str S),some (.int R),some (.int C),some (.ref L),v1,some (.ref Rw),v3,v4,v5,v6]∧G L=some (.lst es)∧G Rw=some (.lst (r.map V.str))∧tM H G es T∧(∀ c∈r,dD c)∧r.length=j∧r.length+(lens r).sum≤3 * j) ⟨sJ4,m,[],_,v3,v4,v5,v6,rfl,hL4,qR,rw4,(fun _ z=>nomatch z),rfl,Nat.le_refl _⟩ ?_ ?_
   ·rintro j σ G hj ⟨sG,m,r,v1,v3,v4,v5,v6,rfl,hLG,hRG,rwG,okr,hrl,hrc⟩
    refine⟨_,rfl,(by decide),fun l5 hl5=>?_⟩
    have s5:=ao (o:=HO.lst [.int 3,.int 3,.int 3,.int 2]) hl5
    have q5:=aj (H:=G) (a:=l5) (o:=HO.lst [.int 3,.int 3,.int 3,.int 2])
    have sG5:=sG.trans s5
    have hL5:=s5 _ _ hLG;have hR5:=s5 _ _ hRG;have rw5:=tM.mono s5 rwG
    generalize upd G l5 (HO.lst [.int 3,.int 3,.int 3,.int 2])=G5 at sG5 q5 hL5 hR5 rw5 ⊢
    refine⟨_,rfl,l5,_,_,_,rfl,rfl,aU.of q5,hd,_,_,rfl,rfl,(by omega),?_⟩
    dsimp only[bf]
    have c0:=Int.emod_nonneg m (show d≠0 by omega)
    have c1:=Int.emod_lt_of_pos m (show(0:Int) < d by omega)
    generalize m % d=z at c0 c1 ⊢
    refine⟨_,rfl,_,_,rfl,rfl,⟨by decide,by decide⟩,?_⟩
    refine⟨_,rfl,z,rfl,by omega,by omega,?_⟩
    refine lS (fun i2 σ G2=>G2=G5∧∃(m:Int) (F:Str) (v1 v3 v6:Option V),σ=[some (.int c),some (.ref l),some (.int m),some (.str S),some (.int R),some (.int C),some (.ref L),v1,some (.ref Rw),v3,some (.int z),some (.str F),v6]∧dD F∧F.length≤i2) ⟨rfl,_,_,_,_,v6,rfl,Ig,by rw[nP];exact Nat.le_refl _⟩ ?_ ?_
    ·rintro i2 σ G2 hi2 ⟨rfl,m,F,v1,v3,v6,rfl,oF,hF⟩
     have hml:S.length≤sizeLine:=Nat.le_trans X7 (by decide)
     have hlen:S.cps.toList.length=S.length:=by rw[Array.length_toList];rfl
     obtain⟨dd,ed,hdd⟩:=Ie (xs:=S.cps.toList) (Int.emod_nonneg m (show(S.length:Int)≠0 by omega)) (by rw[hlen];exact Int.emod_lt_of_pos m (by omega))
     have e1:(F++(⟨#[dd]⟩:Str)).length=F.length+1:=cy _ _
     refine⟨_,rfl,_,rfl,_,rfl,_,rfl,_,rfl,(by omega),_,_,rfl,rfl,(by omega),_,_,_,rfl,rfl,(by omega),ed,_,_,rfl,rfl,?_,_,rfl,_,rfl,_,rfl,(by omega),_,_,rfl,rfl,⟨(by omega),(by omega)⟩,rfl,_,_,_,_,_,rfl,?_,?_⟩
     ·exact Nat.le_trans (show F.length+1≤100 by omega) (by decide)
     ·exact ou oF (fun b hb=>by rw[List.mem_singleton.mp (show b∈[dd] from hb)];exact oS dd hdd)
     ·rw[e1];omega
    ·rintro σ G2 ⟨rfl,m,F,v1,v3,v6,rfl,oF,hF⟩
     refine⟨_,rfl,.inl ⟨rfl,_,aU.of hR5⟩,_,rfl,Rw,_,_,rfl,rfl,hR5,?_,?_⟩
     ·rw[List.length_map];exact Nat.lt_of_le_of_lt (show r.length≤100 by omega) (by decide)
     refine⟨aI hR0 sG5,m,r++[F],_,_,_,_,_,rfl,(aE (Ne.symm nRL)).trans hL5,by rw[List.map_append];exact aj,tM.but nRe rw5,fun c hc=>?_,by rw[List.length_append,hrl];rfl,?_⟩
     ·rcases List.mem_append.mp hc with q | q
      ·exact okr c q
      ·rw[List.mem_singleton.mp q];exact oF
     ·rw[K6,List.length_append,List.length_singleton];omega
   ·rintro σ G ⟨sG,m,r,v1,v3,v4,v5,v6,rfl,hLG,hRG,rwG,okr,hrl,hrc⟩
    refine⟨_,rfl,.inl ⟨rfl,_,aU.of hLG⟩,_,rfl,L,_,_,rfl,rfl,hLG,?_,?_⟩
    ·exact Nat.lt_of_le_of_lt (show es.length≤100 by omega) (by decide)
    have nL2:V.ref L∉es++[.ref Rw]:=fun q=>by
     rcases List.mem_append.mp q with q | q
     ·exact nL q
     ·have:=List.mem_singleton.mp q;cases this;exact nRL rfl
    refine⟨aI hL0 sG,m,es++[.ref Rw],T++[r],_,_,_,_,_,_,rfl,aj,nL2,tM.but nL2 (tM.app rwG (.cons ⟨Rw,rfl,hR0,hRG⟩ .nil)),fun r' hr'=>?_,?_,?_⟩
    ·rcases List.mem_append.mp hr' with q | q
     ·exact okT r' q
     ·rw[List.mem_singleton.mp q];exact⟨by omega,by omega,okr⟩
    ·rw[Ii,Ij];omega
    ·rw[List.length_append,List.length_singleton];omega
  ·rintro σ J ⟨sJ,m,es,T,v1,v2,v3,v4,v5,v6,rfl,hLJ,nL,RK,okT,aeo,hTl⟩
   have hcg:=Fw okT
   exact⟨_,rfl,k L es T J hL0 hLJ RK ⟨by omega,okT,by omega⟩ (by omega) sJ⟩
def mZ (K:W.Frag):Sp:=fun vs H Q _=>∃(a:Addr) (xs:List V) (t:List (List Str)),vs=[.ref a]∧H a=some (.lst xs)∧Paired (bF H) xs t∧TabOk t∧∀(l:Addr) (ys:List V) H',H l=none→H' l=some (.lst ys)→Paired (eO K H') ys (aT t)→aD H H'→Q (.ref l) H'
theorem rQ:aJ P w K mg base bG 1 (aA 53) (aM 53) ["_law_table_here"] (mZ K):=by
 refine T.nW.ok gH (fun vs H Q E h=>?_) (fun cdv A outer s H vs Q E hr h=>?_)
 ·obtain⟨a,xs,t,rfl,_⟩:=h;rfl
 ·have hu:=bg hr
  have g8:=hr.aP
  obtain⟨a,xs,t,rfl,ha,tr,g,k⟩:=h
  have hlx:=tr.length
  refine⟨_,(ai (eS 1 gH.nd (bU ah))
   (ai (cU PassesOwn.never rfl (bH K rfl (pv 0)) (gm 2 gH.nd)
   (ai (cU PassesOwn.never rfl (lR rfl T.oM (af (j8 (aZ K rfl) T.bX (af (pv 2) ah)) ah)) (gm 3 gH.nd)
   (ai (aG (dw qI (pv 3) aq) (ak (cW (cZ K rfl PySem.F.plainAttrs_list PySem.F.slot_list_append PySem.F.type_list_append cF (pv 1) (af (aC (af au (af au ah))) ah)))) az)
   (ak (cU PassesOwn.never rfl (pB (Ad K (pv 2) (pv 3))) (gm 4 gH.nd)
   (ak (cW (cZ K rfl PySem.F.plainAttrs_list PySem.F.slot_list_append PySem.F.type_list_append cF (pv 1) (af (aC (af au (af (pv 4) ah))) ah))))))))
   (ak (cW (cZ K rfl PySem.F.plainAttrs_list PySem.F.slot_list_append PySem.F.type_list_append cF (pv 1) (af (aC (af au (af au ah))) ah))))))
   (ak (ay (pv 1))))),?_⟩
  refine⟨by decide,fun l hl=>?_⟩
  have s0:=ao (o:=HO.lst []) hl
  refine⟨_,rfl,a,rfl,⟨_,aU.of (s0 _ _ ha)⟩,?_⟩
  refine i7 (K:=K) (a:=a) (xs:=xs) (fun i σ H2=>(∃ v1 v2 v3,σ=[some (.ref a),some (.ref l),v1,v2,v3])∧aD H H2∧∃ ys,H2 l=some (.lst ys)∧Paired (eO K H2) ys (aT (t.take i))) ⟨⟨_,_,_,rfl⟩,s0,[],aj,.nil⟩ (fun i σ H2 _ q=>aU.of (q.2.1 _ _ ha)) ?_ ?_
  ·rintro i e σ H2 hi ⟨⟨v1,v2,v3,rfl⟩,s2,ys,hy,hp⟩
   obtain⟨r,hr,b,rfl,hb⟩:=aQ tr i e hi
   have L7:=List.mem_of_getElem? hr
   have b1:=Ai g i
   have hs:=Nat.le_trans (sd L7) g.sum
   have hrh:=(g.rows r L7).hi
   have OE:∀ n,n≤r.length→(jK r n).length≤420:=fun n hn=>by
    have:=vt r n hn
    have h2:(lens (r.take n)).sum≤(lens r).sum:=by
     unfold lens;rw[List.map_take];exact m9 _ _
    omega
   have hbm:=s2 _ _ hb
   refine⟨_,rfl,b,_,rfl,.inl (aU.of hbm),_,rfl,by rw[List.length_map];omega,by rw[List.length_map];omega,?_⟩
   rw[List.length_map]
   refine lS (fun j σ H3=>(∃ v2 v3,σ=[some (.ref a),some (.ref l),some (.ref b),v2,v3])∧aD H H3∧∃ ws,H3 l=some (.lst ws)∧Paired (eO K H3) ws (aT (t.take i)++jK r j)) ⟨⟨_,_,rfl⟩,s2,ys,hy,by show Paired _ _ (_++[]);rw[List.append_nil];exact hp⟩ ?_ ?_
   ·rintro j σ H3 hj ⟨⟨v2,v3,rfl⟩,s3,ws,hw,G7⟩
    have hjr:j < r.length:=by omega
    have bj:=OE j (by omega)
    have hwl:=G7.length
    rw[List.length_append] at hwl
    dsimp only[bf]
    refine iY (t:=Dn _ _ _) (fun σ' H'=>(∃ v3,σ'=[some (.ref a),some (.ref l),some (.ref b),some (.int (0+(j:Int))),v3])∧aD H H'∧∃ ws,H' l=some (.lst ws)∧Paired (eO K H') ws (aT (t.take i)++(jK r j++(if j=0 then [] else [ow])))) ?_ (fun go=>?_)
    rotate_left
    ·refine⟨_,rfl,_,_,rfl,rfl,_,rfl,bu (fun h=>?_) (fun h=>?_)⟩
     ·have h0:(0:Int) < 0+j:=of_decide_eq_true h
      refine⟨_,rfl,.inl ⟨rfl,_,aU.of hw⟩,(by show 2≤sizeLine;decide),fun u TR=>?_⟩
      have su:=ao (o:=HO.tup [.str ("part":Str),.str ("":Str)]) TR
      have Yb:=su _ _ hw
      refine⟨l,ws,_,rfl,rfl,Yb,Nat.lt_of_le_of_lt (show ws.length≤3000 by omega) (by decide),go _ _ ⟨⟨_,rfl⟩,aI hl (s3.trans su),_,aj,?_⟩⟩
      rw[if_neg (by omega),←List.append_assoc]
      exact aH (fun a b h=>eO.but Yb h) (iZ (aH (fun a b h=>eO.mono su h) G7) ⟨u,rfl,aY.of aj⟩)
     ·have h0:j=0:=by
       have:¬(0:Int) < 0+j:=fun q=>h (decide_eq_true q)
       omega
      refine go _ _ ⟨⟨_,rfl⟩,s3,ws,hw,?_⟩
      rw[if_pos h0,List.append_nil]
      exact G7
    clear hw G7 s3 hwl
    rintro σ' H4 ⟨⟨v4,rfl⟩,s4,ws,hw,G7⟩
    have hwl:=G7.length
    have adS:ws.length≤2100:=by
     rw[hwl,List.length_append,List.length_append]
     split
     ·simp;omega
     ·show _+(_+1)≤2100;omega
    obtain⟨z,hz⟩:∃ z,r[j]? = some z:=⟨r[j],by simp[hjr]⟩
    have XI:z.length≤400:=Nat.le_trans (vp (List.mem_of_getElem? hz)) hs
    have hb4:=s4 _ _ hb
    refine⟨_,rfl,_,rfl,b,_,_,.str z,rfl,rfl,aU.of hb4,?_,z,rfl,?_⟩
    ·rw[Int.zero_add];exact iH (by rw[List.getElem?_map,hz];rfl)
    refine rW (fun n σ H5=>(∃ v4,σ=[some (.ref a),some (.ref l),some (.ref b),some (.int (0+(j:Int))),v4])∧aD H H5∧∃ zs,H5 l=some (.lst zs)∧Paired (eO K H5) zs ((aT (t.take i)++(jK r j++(if j=0 then [] else [ow])))++((z.cps.toList.take n).map fun c=>(Str.ofString "put",sg c)))) ⟨⟨_,rfl⟩,s4,ws,hw,by rw[List.take_zero];show Paired _ _ (_++[]);rw[List.append_nil];exact G7⟩ ?_ ?_
    ·rintro n d σ H5 hn ⟨⟨v5,rfl⟩,s5,zs,h5,Lr⟩
     have hnl:n < z.cps.toList.length:=(List.getElem?_eq_some_iff.mp hn).1
     rw[Array.length_toList] at hnl
     have hnl:n < z.length:=hnl
     have zJ:=Lr.length
     rw[List.length_append,←hwl,List.length_map,List.length_take] at zJ
     refine⟨_,rfl,.inl ⟨rfl,_,aU.of h5⟩,_,rfl,(by show 2≤sizeLine;decide),fun u TR=>?_⟩
     have s6:=ao (o:=HO.tup [.str ("put":Str),.str (sg d)]) TR
     have h56:=s6 _ _ h5
     refine⟨l,zs,_,rfl,rfl,h56,Nat.lt_of_le_of_lt (show zs.length≤3000 by omega) (by decide),⟨_,rfl⟩,aI hl (s5.trans s6),_,aj,?_⟩
     rw[aO hn,List.map_append,←List.append_assoc]
     exact aH (fun a b h=>eO.but h56 h) (iZ (aH (fun a b h=>eO.mono s6 h) Lr) ⟨u,rfl,aY.of aj⟩)
    ·rintro σ H5 ⟨⟨v5,rfl⟩,s5,zs,h5,Lr⟩
     rw[List.take_of_length_le (Nat.le_refl _)] at Lr
     refine⟨⟨_,_,rfl⟩,s5,zs,h5,?_⟩
     rw[lU hz]
     rw[List.append_assoc,List.append_assoc] at Lr
     exact Lr
   ·rintro σ H3 ⟨⟨v2,v3,rfl⟩,s3,ws,hw,G7⟩
    have bj:=OE r.length (Nat.le_refl _)
    have hwl:=G7.length
    have G7:Paired (eO K H3) ws (aT (t.take i)++jK r r.length):=G7
    rw[List.length_append] at hwl
    refine⟨_,rfl,.inl ⟨rfl,_,aU.of hw⟩,(by show 2≤sizeLine;decide),fun u TR=>?_⟩
    have su:=ao (o:=HO.tup [.str ("end":Str),.str ("":Str)]) TR
    have Yb:=su _ _ hw
    have hbl:ws.length≤2100:=by
     have:ws.length=(aT (t.take i)).length+(jK r r.length).length:=G7.length.trans (List.length_append ..)
     omega
    refine⟨l,ws,_,rfl,rfl,Yb,Nat.lt_of_le_of_lt hbl (by decide),⟨_,_,_,rfl⟩,aI hl (s3.trans su),_,aj,?_⟩
    rw[aO hr,ng]
    unfold nR
    rw[←List.append_assoc]
    exact aH (fun a b h=>eO.but Yb h) (iZ (aH (fun a b h=>eO.mono su h) G7) ⟨u,rfl,aY.of aj⟩)
  ·rintro σ H2 ⟨⟨v1,v2,v3,rfl⟩,s2,ys,hy,hp⟩
   rw[hlx,List.take_of_length_le (Nat.le_refl _)] at hp
   exact⟨_,rfl,k l ys H2 hl hy hp s2⟩
def rR (K:W.Frag):Sp:=fun vs H Q _=>∃(tt l:Addr) (ys:List V) (ts:List (Str×Str)) (mk:fT) (v:V) (c:Nat) (p q f:Str) (b1 b2 b3 b4:Bool),vs=[.ref tt,.ref l,v,.str (sg c)]∧H tt=some (.tup (qo p q f b1 b2 b3 b4))∧H l=some (.lst ys)∧Paired (eO K H) ys ts∧kY K H mk v∧sR q mk.1.1 mk.1.2∧mk.2≤ts.length∧∀ v' H',aD H H'→vv K (jL p q f b1 b2 b3 b4 ts mk c) H' v'→Q v' H'
theorem yy:aJ P w K mg base bG 3 (aA 54) (aM 54) ["_law_told_here", "_law_tokens_here", "_law_mark", "_law_sign"] (rR K):=by
 have Gx:aJ P w K mg base bG 2 (aA 48) (aM 48) ["_law_told_here", "_law_state", "_law_sign"] (wK K):=El T
 refine T.pX.ok ni (fun vs H Q E h=>?_) (fun cdv A outer s H vs Q E hr h=>?_)
 ·obtain⟨tt,l,ys,ts,mk,v,c,p,q,f,b1,b2,b3,b4,rfl,_⟩:=h;rfl
 ·have hu:=bg hr
  have g8:=hr.aP
  obtain⟨tt,l,ys,ts,mk,v,c,p,q,f,b1,b2,b3,b4,rfl,lV,hl,tp,hv,hst,hmn,k⟩:=h
  have jx:=hr.units
  obtain⟨b,s,rfl,hb,hs⟩:=hv
  have tl:=tp.length
  unfold jL mG at k
  refine⟨_,(ai (kM (gn Gx hr T.Ge T.ym.kp T.Gb (af (pv 0) (af (gw K (pv 2) aq) (af (pv 3) ah)))) (iI K rfl 2 rfl (aW (gm 4 ni.nd) (aW (gm 5 ni.nd) iG))))
   (ai (aG (PW.pt (gX (dw bA (pv 4) au) (gZ (PW.pt (eZ (cu (zT K rfl) (gw K (pv 5) aq) (bU (af au (af au ah))) rfl) (eZ (dw u6 (gw K (pv 5) aq) au) (dU (cu cD (gw K (pv 5) aq) (gw K (pv 0) aq) rfl)))))))) (ak (ay bT)) az)
   (ai (aG (dw bA (pv 4) au) (ak (ay (aC (af (pv 5) (af (gw K (pv 2) aq) ah))))) az)
   (ai (eS 6 ni.nd (Ad K (bU (af (aC (af (pv 4) (af au ah))) (af (aC (af au (af (pv 3) ah))) ah))) (L3 rU T.AL (af (CH bA (pv 4) au) ah))))
   (ai (aG (PW.pt (gX (dw bA (gw K (pv 2) aq) (j8 (aZ K rfl) T.bX (af (pv 1) ah))) (gZ (dw (SG (YL _ _ K) rfl (hn0 jx)) (Ad K (pv 1) (gw K (pv 2) aq)) (pv 6))))) (ak (ay bT)) az)
   (ak (ay (aC (af (pv 5) (af (aK e9 (gw K (pv 2) aq) aq) ah)))))))))),?_⟩
  refine⟨_,rfl,_,rfl,b,_,_,_,rfl,rfl,hb,rfl,_,rfl,tt,s,mk.1.1,mk.1.2,c,p,q,f,b1,b2,b3,b4,rfl,aY.of lV,hs,fun v5 H5 s5 r=>?_⟩
  have hb5:=aB s5 hb
  have aep:=aY.of (K:=K) (s5 _ _ lV)
  have hl5:=s5 _ _ hl
  have TQ:=cS s5 tp
  cases VS:bN p q f b1 b2 b3 b4 mk.1.1 mk.1.2 c with
  | uq e =>
   rw[VS] at r k
   obtain⟨a,rfl,ha⟩:=r
   have k:∀ v' H',aD H H'→vv K none H' v'→Q v' H':=k
   refine⟨a,_,rfl,ha,rfl,_,_,rfl,_,_,rfl,rfl,?_⟩
   exact⟨_,rfl,rfl,_,rfl,mw (bq _) (n8 (k _ _ s5 rfl))⟩
  | go kd w3 u3 =>
   rw[VS] at r k
   obtain⟨hk,a,b2,rfl,ha,hb2⟩:=r
   have aeq:=pM hst VS
   have k:∀ v' H',aD H H'→vv K (match (if dJ f w3 u3=true then some (kd,w3,u3) else none) with | none=>none | some (k,w,u)=>(match qQ ts mk.2 k (sg c) with | none=>none | some n=>some ((w,u),n))) H' v'→Q v' H':=k
   refine⟨a,_,rfl,ha,rfl,_,_,rfl,_,_,rfl,rfl,?_⟩
   dsimp only[bf]
   refine iY (t:=Dn _ _ _) (fun σ' H'=>aD H5 H'∧dJ f w3 u3=true∧σ'=[some (.ref tt),some (.ref l),some (.ref b),some (.str (sg c)),some (.str kd),some (.ref b2),none]) ?_ (fun go=>?_)
   rotate_left
   ·refine⟨_,rfl,rfl,_,rfl,mC hk ?_⟩
    refine⟨_,rfl,_,_,_,_,rfl,rfl,hb2,rfl,(by show(2:Nat)≤sizeLine;decide),fun m hm=>⟨_,_,rfl,.inl (aU.of aj),rfl,rfl,_,rfl,?_⟩⟩
    have s6:=ao (o:=HO.lst [.str ("within":Str),.str ("freed":Str)]) hm
    have Gy:=aB s6 hb2
    have T4:=aB s6 aep
    generalize upd H5 m (HO.lst [.str ("within":Str),.str ("freed":Str)])=H6 at s6 Gy T4 ⊢
    rcases aeq with ⟨rfl,hw⟩ | ⟨d,hd,rfl,hw⟩
    ·have L4:dJ f w3 ("":Str)=true:=by unfold dJ;rw[if_pos (bq _)]
     refine bu (fun _=>?_) (fun _=>cz (go _ _ ⟨s6,L4,rfl⟩))
     exact⟨_,rfl,b2,_,_,_,rfl,rfl,Gy,rfl,rfl,_,rfl,PU rfl (cz (go _ _ ⟨s6,L4,rfl⟩))⟩
    ·have hne:¬V.str (sg d)=V.str ("":Str):=fun z=>tL d (by rw[V.str.inj z];exact bq _)
     have hin:∀{w:Str},w=Str.ofString "within"∨w=Str.ofString "freed"→dJ f w (sg d)=!(iX d f):=fun hw=>by
      unfold dJ
      rcases hw with rfl | rfl
      ·rw[if_neg (tL d),if_neg (ns (by decide +kernel))];rfl
      ·rw[if_neg (tL d),if_neg (ns (by decide +kernel))];rfl
     have rest:(w3=Str.ofString "within"∨w3=Str.ofString "freed")→∀ hx:iX d f=true∨iX d f=false,True:=fun _ _=>trivial
     rcases hw with rfl | rfl | rfl
     ·refine mw (by decide +kernel) ⟨_,rfl,b2,_,_,_,rfl,rfl,Gy,rfl,rfl,_,rfl,Fb hne ⟨_,rfl,b2,_,_,_,rfl,rfl,Gy,rfl,_,rfl,tt,_,_,_,rfl,rfl,T4,rfl,_,_,rfl,rfl,_,rfl,rdB (fun (hx:iX d f=true)=>?_) (fun (hx:iX d f=false)=>go _ _ ⟨s6,by rw[hin (.inl rfl),hx];rfl,rfl⟩)⟩⟩
      rw[hin (.inl rfl),hx] at k
      exact k _ _ (s5.trans s6) rfl
     ·exact mC (by decide +kernel) (cz (go _ _ ⟨s6,by unfold dJ;rw[if_neg (tL d),if_pos (bq _)],rfl⟩))
     ·refine mw (by decide +kernel) ⟨_,rfl,b2,_,_,_,rfl,rfl,Gy,rfl,rfl,_,rfl,Fb hne ⟨_,rfl,b2,_,_,_,rfl,rfl,Gy,rfl,_,rfl,tt,_,_,_,rfl,rfl,T4,rfl,_,_,rfl,rfl,_,rfl,rdB (fun (hx:iX d f=true)=>?_) (fun (hx:iX d f=false)=>go _ _ ⟨s6,by rw[hin (.inr rfl),hx];rfl,rfl⟩)⟩⟩
      rw[hin (.inr rfl),hx] at k
      exact k _ _ (s5.trans s6) rfl
   rintro σ' H6 ⟨s6,L4,rfl⟩
   rw[if_pos L4] at k
   have k:∀ v' H',aD H H'→vv K (match qQ ts mk.2 kd (sg c) with | none=>none | some n=>some ((w3,u3),n)) H' v'→Q v' H':=k
   unfold qQ at k
   have s56:=s5.trans s6
   have hb6:=aB s6 hb5
   have Gy:=aB s6 hb2
   refine⟨_,rfl,rfl,_,rfl,bu (fun (h1:bz kd ("skip":Str)=true)=>?_) (fun (h1:¬bz kd ("skip":Str)=true)=>?_)⟩
   ·rw[if_pos h1] at k
    refine⟨_,rfl,_,rfl,b,_,_,_,rfl,rfl,hb6,rfl,(by show 2≤sizeLine;decide),fun t ht=>?_⟩
    exact k _ _ (s56.trans (ao ht)) ⟨t,b2,rfl,aY.of aj,aB (ao ht) Gy⟩
   rw[if_neg h1] at k
   refine⟨_,rfl,(by show(2:Nat)≤sizeLine;decide),fun t1 ht1=>⟨_,rfl,(by show(2:Nat)≤sizeLine;decide),fun t2 EI=>⟨(by show(2:Nat)≤sizeLine;decide),fun l2 hl2=>?_⟩⟩⟩
   have e1:=ao (o:=HO.tup [.str kd,.str ("":Str)]) ht1
   have e2:=ao (o:=HO.tup [.str ("put":Str),.str (sg c)]) EI
   have e3:=ao (o:=HO.lst [.ref t1,.ref t2]) hl2
   have q1:=e3 _ _ (e2 _ _ (aj (H:=H6) (a:=t1) (o:=HO.tup [.str kd,.str ("":Str)])))
   have q2:=e3 _ _ (aj (H:=upd H6 t1 (HO.tup [.str kd,.str ("":Str)])) (a:=t2) (o:=HO.tup [.str ("put":Str),.str (sg c)]))
   have q3:=aj (H:=upd (upd H6 t1 (HO.tup [.str kd,.str ("":Str)])) t2 (HO.tup [.str ("put":Str),.str (sg c)])) (a:=l2) (o:=HO.lst [.ref t1,.ref t2])
   have s67:=e1.trans (e2.trans e3)
   generalize upd (upd (upd H6 t1 (HO.tup [.str kd,.str ("":Str)])) t2 (HO.tup [.str ("put":Str),.str (sg c)])) l2 (HO.lst [.ref t1,.ref t2])=H7 at q1 q2 q3 s67 ⊢
   clear e1 e2 e3
   obtain⟨tk,htk,hat⟩:∃ tk,aY K H7 tk [.str kd,.str (if bz kd ("put":Str)=true then sg c else Str.ofString "")]∧Bk [V.ref t1,.ref t2] (if bz kd ("put":Str)=true then 1 else 0)=some (.ref tk):=by
    by_cases hp:bz kd ("put":Str)=true
    ·rw[if_pos hp,if_pos hp]
     refine⟨t2,?_,rfl⟩
     rw[mD hp];exact aY.of q2
    ·rw[if_neg hp,if_neg hp];exact⟨t1,aY.of q1,rfl⟩
   refine⟨_,rfl,rfl,.inr (⟨_,rfl,_,_,_,_,rfl,rfl,aU.of q3,hat,?_⟩)⟩
   dsimp only[bf]
   have Yc:=s6.trans s67
   have hb7:=aB Yc hb5
   have aer:=aB Yc hb2
   have hl7:=Yc _ _ hl5
   have tp7:=cS Yc TQ
   have s07:=s5.trans Yc
   refine⟨_,rfl,b,_,_,_,rfl,rfl,hb7,rfl,_,rfl,l,_,rfl,.inl (aU.of hl7),rfl,_,rfl,adI (fun h2=>?_) (fun h2=>?_)⟩
   ·rw[List.getElem?_eq_none (by omega),if_neg (fun q=>nomatch q)] at k
    exact n8 (k _ _ s07 rfl)
   have hlt:mk.2 < ys.length:=by omega
   obtain⟨y,hy⟩:∃ y,ys[mk.2]? = some y:=⟨_,List.getElem?_eq_getElem hlt⟩
   obtain⟨⟨k1,s2⟩,Yd,a',rfl,ha'⟩:=aQ tp7 mk.2 y hy
   have aes:Bk ys (mk.2:Int)=some (.ref a'):=iH hy
   refine⟨_,rfl,_,rfl,b,_,_,_,rfl,rfl,hb7,rfl,l,_,_,.ref a',rfl,rfl,aU.of hl7,aes,_,rfl,a',tk,_,_,rfl,rfl,pH (P:=P) (w:=w) ha',pH (P:=P) (w:=w) htk,_,rfl,adH (fun h4=>?_) (fun h4=>?_)⟩
   ·have h4:¬(k1,s2)=(kd,if bz kd ("put":Str)=true then sg c else Str.ofString ""):=fun q=>h4 (jH.mpr q)
    rw[Yd,if_neg (fun q=>h4 (Option.some.inj q))] at k
    exact k _ _ s07 rfl
   ·have h4:=jH.mp h4
    rw[Yd,if_pos (by rw[h4])] at k
    refine⟨_,rfl,_,rfl,b,_,_,_,rfl,rfl,hb7,rfl,_,_,rfl,rfl,(by show 2≤sizeLine;decide),fun t3 T3=>?_⟩
    exact k _ _ (s07.trans (ao T3)) ⟨t3,b2,rfl,aY.of aj,aB (ao T3) aer⟩
def rS (K:W.Frag):Sp:=fun vs H Q _=>∃(lt l:Addr) (v:V) (tv ys:List V) (x:cN) (cs:List cN) (ts:List (Str×Str)) (m:dj) (c:Nat),vs=[.ref lt,.ref l,v,.str (sg c)]∧H lt=some (.lst tv)∧tN H tv (x :: cs)∧H l=some (.lst ys)∧Paired (eO K H) ys ts∧cI K H m v∧Qo x ts m.1∧Xe cs ts m.2∧cs.length≤1000∧∀ v' H',aD H H'→Xc K (uB x cs ts m c) H' v'→Q v' H'
theorem Ba:aJ P w K mg base bG 4 (aA 55) (aM 55) ["_law_tolds", "_law_tokens_here", "_law_place", "_law_sign"] (rS K):=by
 have qh:aJ P w K mg base bG 3 (aA 54) (aM 54) ["_law_told_here", "_law_tokens_here", "_law_mark", "_law_sign"] (rR K):=yy T
 refine T.t6.ok fu (fun vs H Q E h=>?_) (fun cdv A outer s H vs Q E hr h=>?_)
 ·obtain⟨lt,l,v,tv,ys,x,cs,ts,m,c,rfl,_⟩:=h;rfl
 ·have hu:=bg hr
  have g8:=hr.aP
  obtain⟨lt,l,v,tv,ys,x,cs,ts,m,c,rfl,hlt,tps,hl,tp,hv,okx,okp,hcn,k⟩:=h
  obtain⟨b,s,u,vs,rfl,hb,hs,hu,ho⟩:=hv
  cases tps with
  | @cons e0 _ IK _ h0 tps =>
  obtain⟨t0,rfl,h0⟩:=h0
  have hat:Bk (V.ref t0 :: IK) ((0:Nat):Int)=some (.ref t0):=iH rfl
  refine⟨_,(ai (eS 4 fu.nd (gn qh hr T.uK T.pX.kp T.uJ (af (Ad K (pv 0) aq) (af (pv 1) (af (i9 (zE K rfl) (pv 2) lC (lD aq)) (af (pv 3) ah))))))
   (ai (aG (dw o9 (pv 4) bT) (ak (ay bT)) az)
   (ai (eS 5 fu.nd (bU ah))
   (ai (cU PassesOwn.never rfl (xq K rfl rfl T.IC (af (i9 (qK K rfl) (pv 0) (lD aq) lC) (af (gw K (pv 2) aq) ah))) (iI K rfl 2 rfl (aW (gm 6 fu.nd) (aW (gm 7 fu.nd) iG)))
   (ai (aG (dw pq (pv 7) bT) (ak (eS 7 fu.nd (gn qh hr T.uK T.pX.kp T.uJ (af (pv 6) (af (pv 1) (af (pv 7) (af (pv 3) ah))))))) az)
   (ak (cW (cZ K rfl PySem.F.plainAttrs_list PySem.F.slot_list_append PySem.F.type_list_append cF (pv 5) (af (pv 7) ah))))))
   (ak (ay (aK (EV K rfl) (pv 4) (aC (af (L3 (gB K rfl) T.kI (af (pv 5) ah)) ah))))))))),?_⟩
  refine⟨_,rfl,_,_,_,_,rfl,rfl,aU.of hlt,hat,_,rfl,_,rfl,_,rfl,_,_,rfl,hb,(by show ¬(_∧(2:Nat)=3);omega),fun pa hpa=>?_⟩
  have s1:=ao (o:=HO.tup [.ref s,.int (m.1.2:Int)]) hpa
  have q1:=aj (H:=H) (a:=pa) (o:=HO.tup [.ref s,.int (m.1.2:Int)])
  rw[show sO [V.ref s,.int (m.1.2:Int),.ref u] none (some 2)=[.ref s,.int (m.1.2:Int)] from rfl]
  generalize upd H pa (HO.tup [.ref s,.int (m.1.2:Int)])=H1 at s1 q1 ⊢
  refine⟨_,rfl,t0,l,ys,ts,m.1,.ref pa,c,_,_,_,_,_,_,_,rfl,s1 _ _ h0,s1 _ _ hl,cS s1 tp,⟨pa,s,rfl,aY.of q1,aB s1 hs⟩,okx.1,okx.2,fun v' H2 s2 hv'=>?_⟩
  have hv':vv K (uA x ts m.1 c) H2 v':=hv'
  have s12:=s1.trans s2
  dsimp only[bf]
  cases hM:uA x ts m.1 c with
  | none =>
   rw[hM] at hv'
   have hv':v'=.non:=hv'
   subst hv'
   have kb:uB x cs ts m c=none:=by unfold uB;rw[hM];rfl
   rw[kb] at k
   exact⟨_,rfl,rfl,_,rfl,Rt rfl (k _ _ s12 rfl)⟩
  | some m' =>
  rw[hM] at hv'
  have kb:uB x cs ts m c=some (m',iR cs ts m.2 c):=by unfold uB;rw[hM];rfl
  rw[kb] at k
  obtain⟨b3,s3,rfl,q3,q4⟩:=(show kY K H2 m' v' from hv')
  have tl:=tps.length
  have VJ:=ho.length
  have hcl:=okp.length
  refine⟨_,rfl,rfl,_,rfl,yH (fun z=>nomatch z) ⟨(by decide),fun D hD=>?_⟩⟩
  have sD:=ao (o:=HO.lst []) hD
  have wD:=aj (H:=H2) (a:=D) (o:=HO.lst [])
  generalize upd H2 D (HO.lst [])=H3 at sD wD ⊢
  have QK:=s12.trans sD
  dsimp only[bf]
  refine⟨_,rfl,_,rfl,_,_,rfl,aU.of (QK _ _ hlt),fun lc Ye=>?_⟩
  rw[show sO (V.ref t0 :: IK) (some 1) none=IK from vz (V.ref t0 :: IK) 1 (by rw[List.length_cons];omega)]
  have f2:=ao (o:=HO.lst IK) Ye
  have w2:=aj (H:=H3) (a:=lc) (o:=HO.lst IK)
  have nDc:lc≠D:=fun e=>by rw[e,wD] at Ye;cases Ye
  have hD4:=f2 _ _ wD
  generalize upd H3 lc (HO.lst IK)=H4 at f2 w2 hD4 ⊢
  have EJ:=QK.trans f2
  have fD:H D=none:=s12.free hD
  refine⟨_,rfl,_,_,_,_,rfl,rfl,aB EJ hb,rfl,lc,u,rfl,⟨_,aU.of w2⟩,⟨_,aB EJ hu⟩,?_⟩
  refine K2 (K:=K) (a:=lc) (b:=u) (xs:=IK) (ys:=vs) (fun i σ J=>∃ ws v6 v7,σ=[some (.ref lt),some (.ref l),some (.ref b),some (.str (sg c)),some (.ref b3),some (.ref D),v6,v7]∧aD H J∧J lc=some (.lst IK)∧kY K J m' (.ref b3)∧J D=some (.lst ws)∧Paired (ff K J) (((cs.zip m.2).take i).map fun p=>CY p.1 ts p.2 c) ws) ⟨[],_,_,rfl,EJ,w2,⟨b3,s3,rfl,aB (sD.trans f2) q3,aB (sD.trans f2) q4⟩,hD4,.nil⟩ (fun i σ J _ ⟨ws,v6,v7,_,sJ,hc,_⟩=>⟨aU.of hc,aB sJ hu⟩) ?_ ?_
  ·rintro i e w' t σ J hi hw ht ⟨ws,v6,v7,rfl,sJ,hc,hmJ,hDJ,pr⟩
   obtain⟨x',hx',te,rfl,hte⟩:=aQ tps i e hi
   obtain⟨o,VV,hoa⟩:=kF ho i w' hw
   have st:=ao (o:=HO.tup [.ref te,w']) ht
   have wt:=aj (H:=J) (a:=t) (o:=HO.tup [.ref te,w'])
   generalize upd J t (HO.tup [.ref te,w'])=J1 at st wt ⊢
   have sT:=sJ.trans st
   have hil:i < IK.length:=(List.getElem?_eq_some_iff.mp hi).1
   have hpl:=pr.length
   rw[List.length_map,List.length_take] at hpl
   have hz:(cs.zip m.2)[i]? = some (x',o):=by rw[List.getElem?_zip_eq_some];exact⟨hx',VV⟩
   rw[aO hz,List.map_append]
   have T5:=aQ okp i x' hx'
   obtain⟨o',ho',T5⟩:=T5
   rw[VV] at ho';cases ho'
   refine⟨t,_,rfl,aY.of wt,rfl,_,_,rfl,_,_,rfl,rfl,?_⟩
   dsimp only[bf]
   have hwl:ws.length < sizeLine:=Nat.lt_of_le_of_lt (show ws.length≤1000 by omega) (by decide)
   cases o with
   | none =>
    have hoa:w'=.non:=hoa
    subst hoa
    have OO:=st _ _ hDJ
    refine⟨_,rfl,rfl,_,rfl,PU rfl ?_⟩
    refine⟨_,rfl,.inl ⟨rfl,⟨_,aU.of OO⟩⟩,_,rfl,D,ws,_,rfl,rfl,OO,hwl,ws++[.non],_,_,rfl,aI fD sT,(aE nDc).trans (st _ _ hc),kY.but OO (hmJ.mono st),aj,?_⟩
    exact bJ (f6 OO (dS st pr)) (f6 OO (.cons rfl .nil))
   | some m1 =>
    obtain⟨b1,s1',rfl,r1,r2⟩:=hoa
    have ok1:=T5 m1 rfl
    refine⟨_,rfl,rfl,_,rfl,Fb (fun z=>nomatch z) ⟨_,rfl,_,rfl,_,rfl,_,rfl,te,l,ys,ts,m1,.ref b1,c,_,_,_,_,_,_,_,rfl,sT _ _ hte,sT _ _ hl,cS sT tp,⟨b1,s1',rfl,aB sT r1,aB sT r2⟩,ok1.1,ok1.2,fun v2 J2 s2' hv2=>?_⟩⟩
    have hv2:ff K J2 (CY x' ts (some m1) c) v2:=DR hv2
    have OO:=s2' _ _ (st _ _ hDJ)
    dsimp only[bf]
    refine⟨_,rfl,.inl ⟨rfl,⟨_,aU.of OO⟩⟩,_,rfl,D,ws,_,rfl,rfl,OO,hwl,ws++[v2],_,_,rfl,aI fD (sT.trans s2'),(aE nDc).trans (s2' _ _ (st _ _ hc)),kY.but OO (hmJ.mono (st.trans s2')),aj,?_⟩
    exact bJ (f6 OO (dS (st.trans s2') pr)) (f6 OO (.cons hv2 .nil))
  ·rintro σ J ⟨ws,v6,v7,rfl,sJ,hc,hmJ,hDJ,pr⟩
   rw[List.take_of_length_le (by rw[List.length_zip];omega)] at pr
   have pr:Paired (ff K J) (iR cs ts m.2 c) ws:=pr
   obtain⟨b4,s4,e4,q5,q6⟩:=hmJ
   cases e4
   refine⟨_,rfl,_,rfl,D,ws,rfl,.inl ⟨aU.of hDJ,fun tu htu=>⟨(by show 1≤sizeLine;decide),fun t1 ht1=>?_⟩⟩⟩
   have g1:=ao (o:=HO.tup ws) htu
   have g2:=ao (o:=HO.tup [.ref tu]) ht1
   have x1:=g2 _ _ (aj (H:=J) (a:=tu) (o:=HO.tup ws))
   have x2:=aj (H:=upd J tu (HO.tup ws)) (a:=t1) (o:=HO.tup [.ref tu])
   have g12:=g1.trans g2
   generalize upd (upd J tu (HO.tup ws)) t1 (HO.tup [.ref tu])=J1 at x1 x2 g12 ⊢
   refine⟨b3,t1,_,_,rfl,rfl,aB g12 q5,aY.of x2,(by simp),(by show 3≤sizeLine;decide),(fun z=>by cases z),fun _ p3 hp3=>?_⟩
   have g3:=ao (o:=HO.tup [.ref s4,.int (m'.2:Int),.ref tu]) hp3
   have g13:=g12.trans g3
   exact k _ _ (sJ.trans g13) ⟨p3,s4,tu,ws,rfl,aY.of aj,aB g13 q6,aY.of (g3 _ _ x1),dS g13 pr⟩
def wM (K:W.Frag):Sp:=fun vs H Q _=>∃(l:Addr) (v:V) (ys:List V) (ts:List (Str×Str)) (m:dj),vs=[.ref l,v]∧H l=some (.lst ys)∧ys.length=ts.length∧cI K H m v∧∀ H',aD H H'→Q (.bl (cT ts m)) H'
theorem En:aJ P w K mg base bG 1 (aA 56) (aM 56) ["_law_tokens_here", "_law_place"] (wM K):=by
 refine T.yp.ok vJ (fun vs H Q E h=>?_) (fun cdv A outer s H vs Q E hr h=>?_)
 ·obtain⟨l,v,ys,ts,m,rfl,_⟩:=h;rfl
 ·have hu:=bg hr
  have g8:=hr.aP
  obtain⟨l,v,ys,ts,m,rfl,hl,tl,hv,k⟩:=h
  have jx:=hr.units
  obtain⟨b,s,u,vs,rfl,hb,hs,hu,ho⟩:=hv
  refine⟨_,(ai (eS 2 vJ.nd (aC (af (aC (af au (af au ah))) (af (j8 (aZ K rfl) T.bX (af (pv 0) ah)) ah))))
   (ak (ay (xg (CH (DA (YM _ _ K) rfl (hn1 jx)) (i9 (zE K rfl) (pv 1) lC (lD aq)) (pv 2)) (w6 (Dq (CF (ve (YM _ _ K)) rfl (hq1 jx)) (pv 2) (gw K (pv 1) aq) rfl)))))),?_⟩
  refine⟨(by decide),fun p1 hp1=>⟨_,rfl,l,ys,rfl,.inl (aU.of (ao hp1 _ _ hl)),(by show 2≤sizeLine;decide),fun p2 hp2=>?_⟩⟩
  have f1:=ao (o:=HO.tup [.str ("row":Str),.str ("":Str)]) hp1
  have f2:=ao (o:=HO.tup [.ref p1,.int (ys.length:Int)]) hp2
  have w1:=f2 _ _ (aj (H:=H) (a:=p1) (o:=HO.tup [.str ("row":Str),.str ("":Str)]))
  have w2:=aj (H:=upd H p1 (HO.tup [.str ("row":Str),.str ("":Str)])) (a:=p2) (o:=HO.tup [.ref p1,.int (ys.length:Int)])
  have Ma:=f1.trans f2
  generalize upd (upd H p1 (HO.tup [.str ("row":Str),.str ("":Str)])) p2 (HO.tup [.ref p1,.int (ys.length:Int)])=H1 at w1 w2 Ma ⊢
  rw[tl] at w2
  dsimp only[bf]
  refine⟨_,rfl,_,rfl,_,_,rfl,aB Ma hb,(by show ¬(_∧(2:Nat)=3);omega),fun pa hpa=>?_⟩
  have s3:=ao (o:=HO.tup [.ref s,.int (m.1.2:Int)]) hpa
  have q3:=aj (H:=H1) (a:=pa) (o:=HO.tup [.ref s,.int (m.1.2:Int)])
  rw[show sO [V.ref s,.int (m.1.2:Int),.ref u] none (some 2)=[.ref s,.int (m.1.2:Int)] from rfl]
  generalize upd H1 pa (HO.tup [.ref s,.int (m.1.2:Int)])=H2 at s3 q3 ⊢
  have V0:=Ma.trans s3
  have e1:qm (YM _ _ K) H2 (jz m.1) pa:=pI (P:=P) (w:=w) (m:=m.1) (aY.of q3) (aB V0 hs)
  have e2:qm (YM _ _ K) H2 (jz (qT ts)) p2:=pI (P:=P) (w:=w) (m:=qT ts) (aY.of (s3 _ _ w2)) (aY.of (s3 _ _ w1))
  refine⟨_,rfl,pa,p2,_,_,rfl,rfl,e1,e2,_,rfl,?_⟩
  by_cases hd:m.1=qT ts
  rotate_left
  ·refine mC (decide_eq_false fun z=>hd (oh.mp z)) ?_
   rw[show cT ts m=false by unfold cT;rw[decide_eq_false hd];rfl] at k
   exact k _ V0
  refine mw (decide_eq_true (oh.mpr hd)) ?_
  refine⟨_,rfl,_,rfl,_,_,_,_,rfl,rfl,aB V0 hb,rfl,u,.inr (jz (qT ts)),m.2.map Bs,vs,rfl,⟨p2,rfl,e2⟩,.inr (aB V0 hu),DI (dS V0 ho),?_⟩
  rw[Qn]
  rw[show cT ts m=!(m.2.any fun o=>decide (o=some (qT ts))) by unfold cT;rw[decide_eq_true hd];rfl] at k
  exact k _ V0
def uh (K:W.Frag):Sp:=fun vs H Q _=>∃(l:Addr) (v:V) (os:List V),vs=[.ref l]∧H l=some (.lst (v :: os))∧os.length≤1000∧∀ v H',aD H H'→cI K H' (dO os.length) v→Q v H'
theorem BZ:aJ P w K mg base bG 1 (aA 57) (aM 57) ["_law_tolds"] (uh K):=by
 refine T.wc.ok Bw (fun vs H Q E h=>?_) (fun cdv A outer s H vs Q E hr h=>?_)
 ·obtain⟨l,v,os,rfl,_⟩:=h;rfl
 ·have hu:=bg hr
  have g8:=hr.aP
  obtain⟨l,v,os,rfl,hl,hn,k⟩:=h
  refine⟨_,(ak (ay (aC (af (aC (af au (af au ah))) (af aq (af (L3 (gB K rfl) T.kI (af (dI rfl (show br ["_law_tolds"] (av gP) ["_law_told_here"] 1 [] _ from CG) (bH K rfl (i9 (qK K rfl) (pv 0) (lD aq) lC)) (fun _ _ _ _=>(gm 0 Ib)) (fun _ _ _ _=>dH) (fun _ _ _ _=>(aC (af (aC (af au (af au ah))) (af aq ah))))) ah)) ah)))))),?_⟩
  have ltl:(v :: os).length=os.length+1:=List.length_cons
  refine⟨(by decide),fun p1 hp1=>?_⟩
  have f1:=ao (o:=HO.tup [.str ("row":Str),.str ("":Str)]) hp1
  have w1:=aj (H:=H) (a:=p1) (o:=HO.tup [.str ("row":Str),.str ("":Str)])
  generalize upd H p1 (HO.tup [.str ("row":Str),.str ("":Str)])=H1 at f1 w1 ⊢
  refine⟨_,rfl,_,rfl,_,_,rfl,aU.of (f1 _ _ hl),fun lc Ye=>?_⟩
  rw[show sO (v :: os) (some 1) none=os from vz (v :: os) 1 (by rw[List.length_cons];omega)]
  have f2:=ao (o:=HO.lst os) Ye
  have w2:=aj (H:=H1) (a:=lc) (o:=HO.lst os)
  generalize upd H1 lc (HO.lst os)=H2 at f2 w2 ⊢
  have s2:=f1.trans f2
  refine⟨lc,rfl,⟨_,aU.of w2⟩,fun D hD=>?_⟩
  refine cO (K:=K) (a:=lc) (xs:=os) (fun i vs τ J=>(∃ v,τ=[v])∧aD H2 J∧J D=some (.lst vs)∧vs.length=i∧Paired (ff K J) (List.replicate i (some stM)) vs) ⟨⟨_,rfl⟩,ao hD,aj,rfl,.nil⟩ (fun i vs τ J _ p=>⟨aU.of (p.2.1 _ _ w2),p.2.2.1⟩) ?_ ?_
  ·rintro i e vs τ J hi ⟨⟨v',rfl⟩,sJ,hJ,hvl,pr⟩
   have hil:i < os.length:=(List.getElem?_eq_some_iff.mp hi).1
   refine sQ ⟨(by show 2≤sizeLine;decide),fun t1 ht1=>⟨(by show 2≤sizeLine;decide),fun t ht=>?_⟩⟩
   have st1:=ao (o:=HO.tup [.str ("row":Str),.str ("":Str)]) ht1
   have st2:=ao (o:=HO.tup [.ref t1,.int 0]) ht
   have x1:=st2 _ _ (aj (H:=J) (a:=t1) (o:=HO.tup [.str ("row":Str),.str ("":Str)]))
   have st:=st1.trans st2
   have OG:=st _ _ hJ
   refine⟨OG,Nat.lt_of_le_of_lt (show vs.length≤1000 by omega) (by decide),⟨_,rfl⟩,aI hD (sJ.trans st),aj,(by rw[List.length_append];show vs.length+1=_;omega),?_⟩
   rw[List.replicate_succ']
   exact bJ (f6 OG (dS st pr)) (f6 OG (.cons ⟨t,t1,rfl,aY.of aj,aY.of x1⟩ .nil))
  rintro vs τ J ⟨⟨v',rfl⟩,sJ,hJ,hvl,pr⟩
  refine⟨D,vs,rfl,.inl ⟨aU.of hJ,fun u hu=>⟨(by show 3≤sizeLine;decide),fun t ht=>?_⟩⟩⟩
  have g1:=ao (o:=HO.tup vs) hu
  have g2:=ao (o:=HO.tup [.ref p1,.int 0,.ref u]) ht
  exact k _ _ (s2.trans (sJ.trans (g1.trans g2))) ⟨t,p1,u,vs,rfl,aY.of aj,aY.of ((f2.trans (sJ.trans (g1.trans g2))) _ _ w1),aY.of (g2 _ _ aj),dS (g1.trans g2) pr⟩
def rT (P:Program) (w:World) (K:W.Frag):Sp:=fun vs H Q _=>∃(lt a0:Addr) (n:Nat) (tv xs:List V) (x:cN) (cs:List cN) (t:List (List Str)),vs=[.ref lt,.ref a0,.int n]∧H lt=some (.lst tv)∧tN H tv (x :: cs)∧(∀ c∈x :: cs,uz c)∧cs.length≤10∧H a0=some (.lst xs)∧Paired (bF H) xs t∧TabOk t∧n≤4000∧∀ tt wd v r cm k H',aD H H'→H' tt=some (.tup [.str wd,v])→qC (cT (aT t)) (bZ x cs (aT t) (oE (x :: cs) t)) (some n) [(dO cs.length,none)] [dO cs.length] r cm→Oh P w K (cT (aT t)) (bZ x cs (aT t) (oE (x :: cs) t)) (dO cs.length) n r cm k H' wd v→Q (.ref tt) H'
theorem Bb:aJ P w K mg base bG 5 (aA 58) (aM 58) ["_law_tolds", "_law_table_here", "_law_most"] (rT P w K):=by
 have B0:aJ P w K mg base bG 4 (aA 55) (aM 55) ["_law_tolds", "_law_tokens_here", "_law_place", "_law_sign"] (rS K):=Ba T
 have Gz:aJ P w K mg base bG 1 (aA 56) (aM 56) ["_law_tokens_here", "_law_place"] (wM K):=En T
 have qg:aJ P w K mg base bG 1 (aA 51) (aM 51) ["_law_tolds", "_law_table_here"] (nY K):=uf T
 have Eo:aJ P w K mg base bG 1 (aA 57) (aM 57) ["_law_tolds"] (uh K):=BZ T
 have nZ:aJ P w K mg base bG 1 (aA 53) (aM 53) ["_law_table_here"] (mZ K):=rQ T
 refine T.t7.ok bE (fun vs H Q E h=>?_) (fun cdv A outer s H vs Q E hr h=>?_)
 ·obtain⟨lt,a0,n,tv,xs,x,cs,t,rfl,_⟩:=h;rfl
 ·have hu:=bg hr
  have g8:=hr.aP
  obtain⟨lt,a0,n,tv,xs,x,cs,t,rfl,hlt,tps,gs,hcn,ha0,pr,tok,hn4,k⟩:=h
  have jx:=hr.units
  have tpl:=tps.length
  obtain⟨e0,IK,rfl⟩:∃ e0 IK,tv=e0 :: IK:=by
   cases tps with
   | cons _ _=>exact⟨_,_,rfl⟩
  rw[List.length_cons,List.length_cons] at tpl
  refine⟨_,(ai (eS 3 bE.nd (gn nZ hr T.tZ T.nW.kp T.tY (af (pv 1) ah)))
   (ai (eS 4 bE.nd (gn qg hr T.vY T.pW.kp T.vX (af (pv 0) (af (pv 1) ah))))
   (ai (eS 5 bE.nd (bU (af (gn Eo hr T.D7 T.wc.kp T.D6 (af (pv 0) ah)) ah)))
   (ai (eS 6 bE.nd (Cz (YP P w K) (aS P w) rfl rfl rfl (hp1 jx) (Ad K (pv 5) aq) gA))
   (ai (eS 7 bE.nd aq)
   (ai (zL PassesOwn.never (dw (Dz K rfl g8) (pv 5) (bU ah))
   (ai (aG (dw (Dz K rfl g8) (dI rfl (show br ["_law_tolds", "_law_table_here", "_law_most", "_law_tokens_here", "_law_signs_here", "_law_level", "_law_known", "_law_size", "_law_ahead", "_law_place", "_law_sign", "_law_there"] (av gi) ["_law_place", "_law_tokens_here"] 1 [3] _ from CG) (bH K rfl (pv 5)) (fun _ _ _ _=>(gm 0 (show(["_law_place", "_law_tokens_here"]:List Str).Nodup by decide +kernel))) (fun _ _ _ _=>(JR (bD (gn Gz hr T.Gi T.yp.kp T.Gh (af (pv 1) (af (pv 0) ah)))))) (fun _ _ _ _=>(pv 0))) (bU ah)) (ak (ay (aC (af au (af (pv 7) ah))))) az)
   (ai (aG (dw qI (j8 (rY (YP P w K) (aS P w) rfl rfl rfl) T.bX (af (pv 6) ah)) (pv 2)) (ak (ay (aC (af au (af (pv 7) ah))))) az)
   (ai (eS 8 bE.nd (bU ah))
   (ai (cU PassesOwn.never rfl (bH K rfl (pv 5)) (gm 9 bE.nd)
   (ak (cU PassesOwn.never rfl (pB (pv 4)) (gm 10 bE.nd)
   (ai (eS 11 bE.nd (gn B0 hr T.BK T.t6.kp T.BJ (af (pv 0) (af (pv 3) (af (pv 9) (af (pv 10) ah))))))
   (ak (aG (PW.pt (eZ (dw pq (pv 11) bT) (dU (Mq (zW (YP P w K) (aS P w) rfl rfl rfl (hp2 jx) (pv 11) (pv 6)))))) (ai (E4 (YP P w K) (aS P w) rfl rfl rfl (hp2 jx) (pv 6) (pv 11) gA rfl)
   (ak (cW (cZ K rfl PySem.F.plainAttrs_list PySem.F.slot_list_append PySem.F.type_list_append cF (pv 8) (af (pv 11) ah))))) az))))))
   (ai (eS 5 bE.nd (pv 8))
   (ak (eS 7 bE.nd (aK e9 (pv 7) aq)))))))))
   (ak (ay (aC (af au (af (pv 6) ah))))))))))),?_⟩
  refine bB fun Rk hk=>?_
  refine⟨_,rfl,a0,xs,t,rfl,ha0,pr,tok,fun l1 ys H1 ahm hl1 tp s1=>?_⟩
  dsimp only[bf]
  refine hk _ _ _ (bB fun Rk hk=>?_)
  refine⟨_,rfl,_,rfl,lt,a0,_,xs,x :: cs,t,rfl,s1 _ _ hlt,tN.mono s1 tps,gs,by rw[List.length_cons];omega,s1 _ _ ha0,aH (fun a b h=>bF.mono s1 h) pr,tok,fun z H2 ez oz hz1 hz2 s2=>?_⟩
  dsimp only[bf]
  rw[←ez] at k
  clear ez oz
  have s12:=s1.trans s2
  have tl:=tp.length
  generalize aT t=ts at tp k tl
  refine hk _ _ _ (bB fun Rk hk=>?_)
  refine⟨_,rfl,lt,e0,IK,rfl,s12 _ _ hlt,by omega,fun v0 H3 s3 hv0=>⟨(by show 1≤sizeLine;decide),fun l0 Ac=>?_⟩⟩
  rw[show IK.length=cs.length by omega] at hv0
  obtain⟨p0,ep⟩:∃ p0,p0=dO cs.length:=⟨_,rfl⟩
  have aeu:Au x cs ts p0:=by rw[ep];exact Au.start x cs ts
  rw[←ep] at k hv0
  clear ep
  obtain⟨b,rfl⟩:=iK hv0
  have s4:=ao (o:=HO.lst [.ref b]) Ac
  have q4:=aj (H:=H3) (a:=l0) (o:=HO.lst [.ref b])
  have Yg:=bW s4 hv0
  have V1:=s12.trans (s3.trans s4)
  generalize upd H3 l0 (HO.lst [.ref b])=H4 at q4 Yg V1 s4 ⊢
  dsimp only[bf]
  refine hk _ _ _ (bB fun Rk hk=>?_)
  refine fun a ha=>?_
  have sA:=ao (o:=dN (ZP P w) (aS P w) a []) ha
  have Ep:Bk [V.ref b] ((0:Nat):Int)=some (.ref b):=iH rfl
  refine⟨_,rfl,l0,_,_,_,rfl,rfl,aU.of (sA _ _ q4),Ep,aX p0,b,rfl,aj,iJ (bW sA Yg),?_⟩
  have c1:pO P w K (upd (upd H4 a (dN (ZP P w) (aS P w) a [])) a (dN (ZP P w) (aS P w) a [(aX p0,b,.bl true)])) a [(p0,none)]:=pO.one aj (bW sA Yg)
  have s5:aD H4 (upd (upd H4 a (dN (ZP P w) (aS P w) a [])) a (dN (ZP P w) (aS P w) a [(aX p0,b,.bl true)])):=aI ha sA
  generalize upd (upd H4 a (dN (ZP P w) (aS P w) a [])) a (dN (ZP P w) (aS P w) a [(aX p0,b,.bl true)])=H5 at c1 s5 ⊢
  have hv5:=bW s5 Yg
  have q5:=s5 _ _ q4
  have aev:=V1 _ _ hlt
  have aew:=tN.mono V1 tps
  have Yh:=(s2.trans (s3.trans s4)) _ _ hl1
  have Yi:=cS (s2.trans (s3.trans s4)) tp
  clear s1 s2 s3 s4 s12 sA q4 Yg hv0 hl1 tp tps
  dsimp only[bf]
  refine hk _ _ _ (bB fun Rk hk=>?_)
  refine hk _ _ _ (bB fun Rk hk=>?_)
  refine⟨fun nn σ J=>∃(l:Addr) (vs:List V) (aN:List dj) (cm:gY dj) (k0:Nat) (v8 v9 v10 v11:Option V),σ=[some (.ref lt),some (.ref a0),some (.int n),some (.ref l1),some (.str z),some (.ref l),some (.ref a),some (.int k0),v8,v9,v10,v11]∧aD H4 J∧J l=some (.lst vs)∧m7 K J vs aN∧pO P w K J a cm∧(aN.length≤cm.length∧cm.length≤5000000)∧(∀ m∈aN,Au x cs ts m)∧xx (cT ts) (bZ x cs ts z) p0 cm aN k0∧(aN=[]→cm.length≤n)∧(∀ r Ar,qC (cT ts) (bZ x cs ts z) (some n) cm aN r Ar→qC (cT ts) (bZ x cs ts z) (some n) [(p0,none)] [p0] r Ar)∧nn=2 * (n+1 - cm.length)+(if aN=[] then 0 else 1),⟨_,l0,_,[p0],_,0,_,_,_,_,rfl,s5,q5,.cons hv5 .nil,c1,(by show 1≤1∧1≤5000000;omega),(fun m hm=>by rw[List.mem_singleton.mp hm];exact aeu),xx.zero,(fun q=>nomatch q),fun r Ar q=>q,rfl⟩,?_⟩
  rintro nn σ J ⟨l,vs,aN,cm,k0,v8,v9,v10,v11,rfl,sJ,hl,em,ca,iu,eU,lv,hem,hR,hn⟩
  refine⟨_,rfl,(by decide),fun e he=>⟨_,_,_,rfl,rfl,aU.of (ao he _ _ hl),aU.of aj,_,rfl,?_⟩⟩
  have se:=ao (o:=HO.lst []) he
  replace sJ:=sJ.trans se
  replace hl:=se _ _ hl
  replace em:=em.keep fun b xs q=>aB se q
  replace ca:=ca.mono se
  generalize upd J e (.lst [])=J1 at sJ hl em ca ⊢
  clear se he
  cases em with
  | nil =>
   refine cz (hk _ _ _ ⟨_,rfl,(by show 2≤sizeLine;decide),fun tt lV=>?_⟩)
   have st:=ao (o:=HO.tup [.str ("none":Str),.ref a]) lV
   exact k tt _ _ none cm k0 _ (V1.trans (sJ.trans st)) aj (hR _ _ .stop) (.inr ⟨hem rfl,rfl,a,rfl,ca.mono st⟩)
  | @cons v1 e1 vs aN h1 em =>
  have em:m7 K J1 (v1 :: vs) (e1 :: aN):=.cons h1 em
  have hne:e1 :: aN≠[]:=fun q=>nomatch q
  refine n8 ?_
  generalize e1 :: aN=aN at em hne hn hR eU iu lv hem
  generalize v1 :: vs=vs at em hl
  rw[if_neg hne] at hn
  refine⟨fun σ G=>∃(l:Addr) (vs:List V) (k0':Nat) (v8 v9 v10 v11:Option V),σ=[some (.ref lt),some (.ref a0),some (.int n),some (.ref l1),some (.str z),some (.ref l),some (.ref a),some (.int k0'),v8,v9,v10,v11]∧k0'=k0+1∧aN.find? (cT ts)=none∧cm.length≤n∧aD H4 G∧G l=some (.lst vs)∧m7 K G vs (cJ (bZ x cs ts z) cm aN).2∧pO P w K G a (cJ (bZ x cs ts z) cm aN).1∧(cJ (bZ x cs ts z) cm aN).1.length≤5000000∧∀ m∈(cJ (bZ x cs ts z) cm aN).2,Au x cs ts m,?_,?_⟩
  ·rintro σ G ⟨l,vs,k0',v8,v9,v10,v11,rfl,ek,hf,hmo,sG,hl,em,ca,hbig,eU'⟩
   have e1:=jM (led:=bZ x cs ts z) aN (cm,[])
   simp only[List.length_nil,Nat.add_zero] at e1
   refine⟨_,?_,l,vs,_,_,k0',v8,v9,v10,v11,rfl,sG,hl,em,ca,⟨by unfold cJ;omega,hbig⟩,eU',(by rw[ek];exact lv.go hf),(fun q=>by unfold cJ at q ⊢;rw[q] at e1;rw[List.length_nil] at e1;omega),fun r Ar q=>hR r Ar (.go hne hf (fun n' e=>by cases e;exact hmo) q),rfl⟩
   unfold cJ
   rw[hn]
   by_cases q:(aN.foldl (iC (bZ x cs ts z)) (cm,[])).2=[]
   ·rw[if_pos q];rw[q,List.length_nil] at e1;omega
   ·rw[if_neg q]
    have:=List.length_pos_iff.mpr q
    omega
  have T6:=sJ
  refine bB fun R2 T7=>?_
  refine⟨_,rfl,l,rfl,⟨_,aU.of hl⟩,fun D hD=>?_⟩
  refine cO (K:=K) (a:=l) (xs:=vs) (fun i ws τ G=>(∃ v,τ=[v,some (.ref l1)])∧aD J1 G∧G D=some (.lst ws)∧ws.length≤i∧(ws=[]→∀ m∈aN.take i,cT ts m=false)∧(ws≠[]→∃ m∈aN.take i,cT ts m=true)) ⟨⟨_,rfl⟩,ao hD,aj,Nat.le_refl _,(fun _ m hm=>nomatch hm),fun q=>absurd rfl q⟩ (fun i ws τ G _ p=>⟨aU.of (p.2.1 _ _ hl),p.2.2.1⟩) ?_ ?_
  ·rintro i e2 ws τ G hi ⟨⟨v,rfl⟩,sG,hG,hwl,hw1,RI⟩
   obtain⟨m,hm,hv⟩:=aQ em i e2 hi
   have hil:=(List.getElem?_eq_some_iff.mp hm).1
   have EG:=bW sG hv
   obtain⟨bx,rfl⟩:=iK EG
   dsimp only[bf]
   refine⟨_,rfl,_,rfl,l1,.ref bx,ys,ts,m,rfl,(sJ.trans sG) _ _ Yh,tl,EG,fun G2 s2=>⟨_,rfl,?_⟩⟩
   rw[aO hm]
   by_cases hg:cT ts m=true
   ·refine mw hg ⟨_,rfl,s2 _ _ hG,?_,⟨_,rfl⟩,aI hD (sG.trans s2),aj,(by rw[List.length_append];show ws.length+1≤i+1;omega),(fun q=>by cases ws <;> cases q),fun _=>⟨m,List.mem_append_right _ (List.mem_singleton.mpr rfl),hg⟩⟩
    exact Nat.lt_of_le_of_lt (show ws.length≤5000000 by omega) (by decide)
   ·refine mC (jA hg) ⟨⟨_,rfl⟩,sG.trans s2,s2 _ _ hG,by omega,fun q m' hm'=>?_,fun q=>?_⟩
    ·rcases List.mem_append.mp hm' with z | z
     ·exact hw1 q m' z
     ·rw[List.mem_singleton.mp z];exact jA hg
    ·obtain⟨m',h1,h2⟩:=RI q
     exact⟨m',List.mem_append_left _ h1,h2⟩
  rintro ws τ G ⟨⟨v,rfl⟩,sG,hG,hwl,hw1,RI⟩
  rw[em.length,List.take_of_length_le (Nat.le_refl _)] at hw1 RI
  refine⟨(by decide),fun e he=>⟨_,_,_,rfl,rfl,aU.of (ao he _ _ hG),aU.of aj,_,rfl,?_⟩⟩
  have se:=sG.trans (ao (o:=HO.lst []) he)
  replace sJ:=sJ.trans se
  replace hl:=se _ _ hl
  replace em:=em.keep fun b xs q=>aB se q
  replace ca:=ca.mono se
  generalize upd G e (.lst [])=G1 at sJ hl em ca ⊢
  clear sG se he hG
  cases ws with
  | cons w1 ws =>
   obtain⟨m,hm,hg⟩:=RI (fun q=>nomatch q)
   cases hF:aN.find? (cT ts) with
   | none=>have:=List.find?_eq_none.mp hF m hm;rw[hg] at this;exact absurd rfl this
   | some m1 =>
   refine n8 ⟨_,rfl,(by show 2≤sizeLine;decide),fun tt lV=>?_⟩
   exact k tt _ _ (some m1) cm k0 _ (V1.trans (sJ.trans (ao lV))) aj (hR _ _ (.found hF)) ⟨rfl,rfl,aN,lv,List.mem_of_find?_eq_some hF,List.find?_some hF⟩
  | nil =>
  have hf:=FE (hw1 rfl)
  clear hw1 RI
  refine cz (T7 _ _ _ (bB fun R2 T7=>?_))
  obtain⟨OJ,VW,VX⟩:=ca.ok
  have kl0:=Paired.length VX
  refine⟨_,rfl,_,_,rfl,VW,_,rfl,_,_,rfl,rfl,_,rfl,?_⟩
  by_cases hmo:cm.length≤n
  rotate_left
  ·refine mw (decide_eq_true (show(n:Int) < (OJ.length:Int) by omega)) ⟨_,rfl,(by show 2≤sizeLine;decide),fun tt lV=>?_⟩
   exact k tt _ _ none cm k0 _ (V1.trans (sJ.trans (ao lV))) aj (hR _ _ (.over rfl hne hf (by omega))) (.inl ⟨by omega,rfl,rfl⟩)
  refine mC (decide_eq_false (show ¬(n:Int) < (OJ.length:Int) by omega)) (T7 _ _ _ (bB fun R2 T7=>⟨(by decide),fun lf Lu=>T7 _ _ _ (bB fun R2 T7=>⟨_,rfl,l,rfl,⟨_,aU.of (ao Lu _ _ hl)⟩,?_⟩)⟩))
  have sf:=ao (o:=HO.lst []) Lu
  have OL:=aj (H:=G1) (a:=lf) (o:=HO.lst [])
  have nlf:lf≠l:=fun q=>by rw[q,hl] at Lu;cases Lu
  have flf:H4 lf=none:=sJ.free Lu
  replace sJ:=sJ.trans sf
  replace hl:=sf _ _ hl
  replace em:=em.keep fun b xs q=>aB sf q
  replace ca:=ca.mono sf
  generalize upd G1 lf (.lst [])=G2 at sJ hl em ca OL ⊢
  clear sf Lu
  have zJ:z.cps.toList.length=z.length:=by rw[Array.length_toList];rfl
  refine i7 (K:=K) (a:=l) (xs:=vs) (fun i σ J=>aD H4 J∧J l=some (.lst vs)∧m7 K J vs aN∧∃ fv v9 v10 v11,σ=[some (.ref lt),some (.ref a0),some (.int n),some (.ref l1),some (.str z),some (.ref l),some (.ref a),some (.int k0),some (.ref lf),v9,v10,v11]∧J lf=some (.lst fv)∧m7 K J fv ((aN.take i).foldl (iC (bZ x cs ts z)) (cm,[])).2∧pO P w K J a ((aN.take i).foldl (iC (bZ x cs ts z)) (cm,[])).1∧((aN.take i).foldl (iC (bZ x cs ts z)) (cm,[])).1.length≤cm.length+i * 1000∧∀ m∈((aN.take i).foldl (iC (bZ x cs ts z)) (cm,[])).2,Au x cs ts m) ⟨sJ,hl,em,[],_,_,_,rfl,OL,.nil,ca,(by show cm.length≤cm.length+0 * 1000;omega),fun m hm=>nomatch hm⟩ (fun i σ J _ q=>aU.of q.2.1) ?_ ?_
  ·rintro i e2 σ J hi ⟨OY,hl',OI,fv,v9',T8,T9,rfl,RE,mf,OM,OZ,fU⟩
   obtain⟨m,hm,hv⟩:=aQ OI i e2 hi
   have T5:=eU m (List.mem_of_getElem? hm)
   have hil:=(List.getElem?_eq_some_iff.mp hm).1
   have ef:(aN.take (i+1)).foldl (iC (bZ x cs ts z)) (cm,[])=(bZ x cs ts z m).foldl (dP m) ((aN.take i).foldl (iC (bZ x cs ts z)) (cm,[])):=by rw[aO hm,List.foldl_append];rfl
   rw[ef]
   have hal:((aN.take i).foldl (iC (bZ x cs ts z)) (cm,[])).2.length≤((aN.take i).foldl (iC (bZ x cs ts z)) (cm,[])).1.length:=by
    have q:=jM (led:=bZ x cs ts z) (aN.take i) (cm,[])
    simp only[List.length_nil,Nat.add_zero] at q
    omega
   generalize (aN.take i).foldl (iC (bZ x cs ts z)) (cm,[])=acc at mf OM OZ fU hal ⊢
   obtain⟨bx,rfl⟩:=iK hv
   dsimp only[bf]
   refine⟨_,rfl,_,rfl,?_⟩
   refine rW (fun j σ G=>aD H4 G∧G l=some (.lst vs)∧m7 K G vs aN∧cI K G m (.ref bx)∧∃ fv v10 v11,σ=[some (.ref lt),some (.ref a0),some (.int n),some (.ref l1),some (.str z),some (.ref l),some (.ref a),some (.int k0),some (.ref lf),some (.ref bx),v10,v11]∧G lf=some (.lst fv)∧m7 K G fv ((vH x cs ts (z.cps.toList.take j) m).foldl (dP m) acc).2∧pO P w K G a ((vH x cs ts (z.cps.toList.take j) m).foldl (dP m) acc).1∧((vH x cs ts (z.cps.toList.take j) m).foldl (dP m) acc).1.length≤cm.length+i * 1000+j∧∀ m'∈((vH x cs ts (z.cps.toList.take j) m).foldl (dP m) acc).2,Au x cs ts m') ⟨OY,hl',OI,hv,fv,_,_,rfl,RE,mf,OM,OZ,fU⟩ ?_ ?_
   ·rintro j c σ G hj ⟨sG,Mb,Mc,EG,fv,T8,T9,rfl,Me,G8,G9,RH,Kl⟩
    have hjl:=(List.getElem?_eq_some_iff.mp hj).1
    have TX:((vH x cs ts (z.cps.toList.take j) m).foldl (dP m) acc).2.length≤((vH x cs ts (z.cps.toList.take j) m).foldl (dP m) acc).1.length:=by
     have q:=sy (p:=m) (vH x cs ts (z.cps.toList.take j) m) acc
     omega
    have esn:(vH x cs ts (z.cps.toList.take (j+1)) m).foldl (dP m) acc=(match uB x cs ts m c with | none=>((vH x cs ts (z.cps.toList.take j) m).foldl (dP m) acc) | some m'=>dP m ((vH x cs ts (z.cps.toList.take j) m).foldl (dP m) acc) (c,m')):=by
     rw[aO hj,Ld,List.foldl_append]
     cases uB x cs ts m c <;> rfl
    rw[esn]
    generalize (vH x cs ts (z.cps.toList.take j) m).foldl (dP m) acc=ac at G8 G9 RH Kl TX ⊢
    dsimp only[bf]
    refine⟨_,rfl,_,rfl,_,rfl,_,rfl,lt,l1,.ref bx,_,ys,x,cs,ts,m,c,rfl,sG _ _ aev,tN.mono sG aew,sG _ _ Yh,cS sG Yi,EG,T5.1,T5.2,by omega,fun v' G2 s2 hb=>?_⟩
    dsimp only[bf]
    replace Mc:=Mc.keep fun b xs q=>aB s2 q
    replace G8:=G8.keep fun b xs q=>aB s2 q
    replace EG:=bW s2 EG
    replace G9:=G9.mono s2
    replace Mb:=s2 _ _ Mb
    replace Me:=s2 _ _ Me
    replace sG:=sG.trans s2
    cases hB:uB x cs ts m c with
    | none =>
     rw[hB] at hb
     have hb:v'=.non:=hb
     subst hb
     exact⟨_,rfl,rfl,_,rfl,PU rfl (cz ⟨sG,Mb,Mc,EG,fv,_,_,rfl,Me,G8,G9,by show ac.1.length≤_;omega,Kl⟩)⟩
    | some m' =>
     rw[hB] at hb
     have O0:cI K G2 m' v':=hb
     obtain⟨b3,rfl⟩:=iK O0
     have aex:=T5.step hB
     obtain⟨kvs,d,cr⟩:=G9.ok
     have kl:=Paired.length cr
     have ka:qm (YP P w K) G2 (aX m') b3:=iJ O0
     refine⟨_,rfl,rfl,_,rfl,Fb (fun z=>nomatch z) (⟨_,rfl,_,rfl,a,kvs,aX m',b3,rfl,rfl,d,ka,_,rfl,?_⟩)⟩
     rw[xC cr]
     cases hh:eg ac.1 m' with
     | true =>
      have e4:dP m ac (c,m')=ac:=if_pos hh
      dsimp only
      rw[e4]
      exact cz ⟨sG,Mb,Mc,EG,fv,_,_,rfl,Me,G8,G9,by omega,Kl⟩
     | false =>
      have e4:dP m ac (c,m')=(ac.1++[(m',some (m,c))],ac.2++[m']):=if_neg (by rw[hh];decide)
      dsimp only
      rw[e4]
      refine n8 ?_
      have c5:=pO.put (x:=some (m,c)) (v:=.bl true) d cr O0 hh
      have hkl:kvs.length < sizeLine:=Nat.lt_of_le_of_lt (show kvs.length≤5000000 by omega) (by decide)
      refine⟨_,rfl,_,rfl,a,kvs,aX m',b3,rfl,rfl,d,ka,hkl,?_⟩
      have tq:=pG (F:=K) d.ob (o:=dN (ZP P w) (aS P w) a (putN kvs (aX m') b3 (.bl true)))
      have tl':∀ b' xs,G2 b'=some (.lst xs)→(upd G2 a (dN (ZP P w) (aS P w) a (putN kvs (aX m') b3 (.bl true)))) b'=some (.lst xs):=fun b' xs e=>(aE (gW e d.ob (fun q=>nomatch q))).trans e
      have s5':aD H4 (upd G2 a (dN (ZP P w) (aS P w) a (putN kvs (aX m') b3 (.bl true)))):=aI ha sG
      have l5:=tl' _ _ Mb
      have EH:=tl' _ _ Me
      have TN:=Mc.keep tq
      have TY:=G8.keep tq
      have Yj:=cI.keep tq EG
      have XU:=cI.keep tq O0
      generalize upd G2 a (dN (ZP P w) (aS P w) a (putN kvs (aX m') b3 (.bl true)))=G5 at c5 s5' l5 EH TN TY Yj XU ⊢
      have fvl:=TY.length
      refine⟨_,rfl,.inl ⟨rfl,_,aU.of EH⟩,_,rfl,lf,_,_,rfl,rfl,EH,?_,?_⟩
      ·exact Nat.lt_of_le_of_lt (show fv.length≤5000000 by rw[fvl];omega) (by decide)
      refine⟨aI flf s5',(aE (Ne.symm nlf)).trans l5,TN.keep (fun b xs q=>jN EH q),vC EH Yj,fv++[.ref b3],_,_,rfl,aj,bJ (TY.keep fun b xs q=>jN EH q) (.cons (vC EH XU) .nil),c5.but EH,(by rw[List.length_append];show ac.1.length+1≤_;omega),fun m1 hm1=>?_⟩
      rcases List.mem_append.mp hm1 with z | z
      ·exact Kl m1 z
      ·rw[List.mem_singleton.mp z];exact aex
   ·rintro σ G ⟨sG,Mb,Mc,EG,fv,T8,T9,rfl,Me,G8,G9,RH,Kl⟩
    rw[List.take_of_length_le (Nat.le_refl _)] at G8 G9 RH Kl
    exact⟨sG,Mb,Mc,fv,_,_,_,rfl,Me,G8,G9,Nat.le_trans RH (by omega),Kl⟩
  ·rintro σ J ⟨OY,hl',OI,fv,v9',T8,T9,rfl,RE,mf,OM,OZ,fU⟩
   rw[em.length,List.take_of_length_le (Nat.le_refl _)] at mf OM OZ fU
   exact T7 _ _ _ ⟨_,rfl,_,rfl,_,_,rfl,rfl,lf,fv,k0+1,_,_,_,_,rfl,rfl,hf,hmo,OY,RE,mf,OM,Nat.le_trans OZ (by omega),fU⟩
def um (K:W.Frag):Sp:=fun vs H Q _=>∃(tt a:Addr) (z:Str) (xs:List V) (t:List (List Str)) (x:cN),vs=[.ref tt,.str z,.ref a]∧H tt=some (.tup (sS x))∧uz x∧H a=some (.lst xs)∧Paired (bF H) xs t∧TabOk t∧∀ H',aD H H'→Q (.bl (Fy x t z)) H'
theorem B3:aJ P w K mg base bG 4 (aA 59) (aM 59) ["_law_told_here", "_law_text", "_law_table_here"] (um K):=by
 have qh:aJ P w K mg base bG 3 (aA 54) (aM 54) ["_law_told_here", "_law_tokens_here", "_law_mark", "_law_sign"] (rR K):=yy T
 have nZ:aJ P w K mg base bG 1 (aA 53) (aM 53) ["_law_table_here"] (mZ K):=rQ T
 refine T.pY.ok iE (fun vs H Q E h=>?_) (fun cdv A outer s H vs Q E hr h=>?_)
 ·obtain⟨tt,a,z,xs,t,x,rfl,_⟩:=h;rfl
 ·have hu:=bg hr
  have g8:=hr.aP
  obtain⟨tt,a,z,xs,t,x,rfl,lV,g,ha,pr,tok,k⟩:=h
  have jx:=hr.units
  rw[N2 fun r hr=>(tok.rows r hr).lo] at k
  refine⟨_,(ai (eS 3 iE.nd (gn nZ hr T.tZ T.nW.kp T.tY (af (pv 2) ah)))
   (ai (eS 4 iE.nd (aC (af (aC (af au (af au ah))) (af aq ah))))
   (ai (cU PassesOwn.never rfl (pB (pv 1)) (gm 5 iE.nd)
   (ai (eS 4 iE.nd (gn qh hr T.uK T.pX.kp T.uJ (af (pv 0) (af (pv 3) (af (pv 4) (af (pv 5) ah))))))
   (ak (aG (dw o9 (pv 4) bT) (ak (ay gA)) az))))
   (ak (ay (CH (DA (YM _ _ K) rfl (hn1 jx)) (pv 4) (aC (af (aC (af au (af au ah))) (af (j8 (aZ K rfl) T.bX (af (pv 3) ah)) ah))))))))),?_⟩
  refine⟨_,rfl,a,xs,t,rfl,ha,pr,tok,fun l ys H1 Ac hl tp s1=>?_⟩
  dsimp only[bf]
  generalize aT t=ts at tp k
  have tl:=tp.length
  refine⟨(by show(2:Nat)≤sizeLine;decide),fun t1 ht1=>⟨(by show(2:Nat)≤sizeLine;decide),fun t2 EI=>?_⟩⟩
  have e1:=ao (o:=HO.tup [.str ("row":Str),.str ("":Str)]) ht1
  have e2:=ao (o:=HO.tup [.ref t1,.int 0]) EI
  have q1:=e2 _ _ (aj (H:=H1) (a:=t1) (o:=HO.tup [.str ("row":Str),.str ("":Str)]))
  have q2:=aj (H:=upd H1 t1 (HO.tup [.str ("row":Str),.str ("":Str)])) (a:=t2) (o:=HO.tup [.ref t1,.int 0])
  have s12:=e1.trans e2
  generalize upd (upd H1 t1 (HO.tup [.str ("row":Str),.str ("":Str)])) t2 (HO.tup [.ref t1,.int 0])=H2 at q1 q2 s12 ⊢
  have L8:=s1.trans s12
  have hm0:kY K H2 m0 (.ref t2):=⟨t2,t1,rfl,aY.of q2,aY.of q1⟩
  refine⟨_,rfl,_,rfl,?_⟩
  refine rW (fun i σ J=>aD H2 J∧∃(v:V) (m:fT) (vs:Option V),σ=[some (.ref tt),some (.str z),some (.ref a),some (.ref l),some v,vs]∧kY K J m v∧Ke x.1 x.2.1 x.2.2.1 x.2.2.2.a x.2.2.2.b x.2.2.2.c x.2.2.2.d ts m0 (z.cps.toList.take i)=some m) ⟨aD.refl _,.ref t2,m0,none,rfl,hm0,rfl⟩ ?_ ?_
  ·rintro i c σ J hi ⟨sJ,v,m,vs,rfl,hv,hm⟩
   have T6:=L8.trans sJ
   obtain⟨_,hmn,hpr⟩:=DP (Nat.zero_le _) hm
   have hst:sR x.2.1 m.1.1 m.1.2:=by
    have:=SS (p:=x.1) (q:=x.2.1) (f:=x.2.2.1) (b1:=x.2.2.2.a) (b2:=x.2.2.2.b) (b3:=x.2.2.2.c) (b4:=x.2.2.2.d) (cs:=z.cps.toList.take i) (show sR x.2.1 ("row":Str) ("":Str) from .inl ⟨rfl,.inl rfl⟩)
    rw[show(runM x.1 x.2.1 x.2.2.1 x.2.2.2.a x.2.2.2.b x.2.2.2.c x.2.2.2.d ("row":Str) ("":Str) (z.cps.toList.take i)).2=(m.1.1,m.1.2,none) from hpr.1] at this
    exact this
   dsimp only[bf]
   refine⟨_,rfl,_,rfl,_,rfl,_,rfl,tt,l,ys,ts,m,v,c,x.1,x.2.1,x.2.2.1,x.2.2.2.a,x.2.2.2.b,x.2.2.2.c,x.2.2.2.d,rfl,T6 _ _ lV,(s12.trans sJ) _ _ hl,cS (s12.trans sJ) tp,hv,hst,hmn,fun v' J' s' hv'=>?_⟩
   have hsn:Ke x.1 x.2.1 x.2.2.1 x.2.2.2.a x.2.2.2.b x.2.2.2.c x.2.2.2.d ts m0 (z.cps.toList.take (i+1))=jL x.1 x.2.1 x.2.2.1 x.2.2.2.a x.2.2.2.b x.2.2.2.c x.2.2.2.d ts m c:=by rw[aO hi,An,hm];rfl
   dsimp only[bf]
   cases hM:jL x.1 x.2.1 x.2.2.1 x.2.2.2.a x.2.2.2.b x.2.2.2.c x.2.2.2.d ts m c with
   | none =>
    rw[hM] at hv'
    have hv':v'=.non:=hv'
    subst hv'
    refine⟨_,rfl,rfl,_,rfl,mw rfl ?_⟩
    have kk:=k J' (T6.trans s')
    rw[hM] at hsn
    have e:Ke x.1 x.2.1 x.2.2.1 x.2.2.2.a x.2.2.2.b x.2.2.2.c x.2.2.2.d ts m0 z.cps.toList=none:=by
     have:=NY (c:=c) hsn (z.cps.toList.drop (i+1))
     rw[List.take_append_drop] at this
     exact this
    rw[e,decide_eq_false (by intro q;cases q)] at kk
    exact kk
   | some m' =>
    rw[hM] at hv' hsn
    obtain⟨b',sb',rfl,r1,r2⟩:=(show kY K J' m' v' from hv')
    exact⟨_,rfl,rfl,_,rfl,mC rfl ⟨sJ.trans s',.ref b',m',_,rfl,⟨b',sb',rfl,r1,r2⟩,hsn⟩⟩
  ·rintro σ J ⟨sJ,v,m,vs,rfl,hv,hm⟩
   rw[List.take_of_length_le (Nat.le_refl _)] at hm
   obtain⟨b,sb,rfl,r1,r2⟩:=hv
   have Mf:=(s12.trans sJ) _ _ hl
   refine⟨_,rfl,(by show(2:Nat)≤sizeLine;decide),fun t3 T3=>⟨_,rfl,_,_,rfl,.inl (aU.of (ao T3 _ _ Mf)),(by show(2:Nat)≤sizeLine;decide),fun t4 ht4=>?_⟩⟩
   have f1:=ao (o:=HO.tup [.str ("row":Str),.str ("":Str)]) T3
   have f2:=ao (o:=HO.tup [.ref t3,.int (ys.length:Nat)]) ht4
   have Ma:=f1.trans f2
   have w2:=aj (H:=upd J t3 (HO.tup [.str ("row":Str),.str ("":Str)])) (a:=t4) (o:=HO.tup [.ref t3,.int (ys.length:Nat)])
   have w1:=f2 _ _ (aj (H:=J) (a:=t3) (o:=HO.tup [.str ("row":Str),.str ("":Str)]))
   generalize upd (upd J t3 (HO.tup [.str ("row":Str),.str ("":Str)])) t4 (HO.tup [.ref t3,.int (ys.length:Nat)])=J4 at Ma w1 w2 ⊢
   have c1:qm (YM _ _ K) J4 (jz m) b:=pI (P:=P) (w:=w) (aB Ma r1) (aB Ma r2)
   have c2:qm (YM _ _ K) J4 (jz ((Str.ofString "row",Str.ofString ""),ts.length)) t4:=pI (P:=P) (w:=w) (m:=((Str.ofString "row",Str.ofString ""),ts.length)) (by rw[←tl];exact aY.of w2) (aY.of w1)
   refine⟨b,t4,_,_,rfl,rfl,c1,c2,?_⟩
   have kk:=k J4 ((L8.trans sJ).trans Ma)
   have ed:decide (jz m=jz ((Str.ofString "row",Str.ofString ""),ts.length))=decide (Ke x.1 x.2.1 x.2.2.1 x.2.2.2.a x.2.2.2.b x.2.2.2.c x.2.2.2.d ts m0 z.cps.toList=some ((Str.ofString "row",Str.ofString ""),ts.length)):=by
    rw[hm,Bool.eq_iff_iff,decide_eq_true_iff,decide_eq_true_iff,oh]
    exact⟨fun e=>by rw[e],fun e=>Option.some.inj e⟩
   rw[ed]
   exact kk
def wN (K:W.Frag):Sp:=fun vs H Q _=>∃(l a:Addr) (z:Str) (ls xs:List V) (t:List (List Str)) (x:cN) (cs:List cN),vs=[.ref l,.str z,.ref a]∧H l=some (.lst ls)∧tN H ls (x :: cs)∧(∀ c∈x :: cs,uz c)∧H a=some (.lst xs)∧Paired (bF H) xs t∧TabOk t∧∀ H',aD H H'→Q (.bl (CU x cs t z)) H'
theorem Er:aJ P w K mg base bG 5 (aA 60) (aM 60) ["_law_tolds", "_law_text", "_law_table_here"] (wN K):=by
 have wO:aJ P w K mg base bG 4 (aA 59) (aM 59) ["_law_told_here", "_law_text", "_law_table_here"] (um K):=B3 T
 refine T.yq.ok vK (fun vs H Q E h=>?_) (fun cdv A outer s H vs Q E hr h=>?_)
 ·obtain⟨l,a,z,ls,xs,t,x,cs,rfl,_⟩:=h;rfl
 ·have hu:=bg hr
  have g8:=hr.aP
  obtain⟨l,a,z,ls,xs,t,x,cs,rfl,hl,tp,gs,ha,pr,tok,k⟩:=h
  refine⟨_,(ai (aG (PW.pt (gX (ck (bD (j8 (bQ K rfl) T.bw (af (pv 1) (af (Ic "str" T.Ea) ah))))) (gZ (ck (bD (gn wO hr T.wj T.pY.kp T.wg (af (Ad K (pv 0) aq) (af (pv 1) (af (pv 2) ah))))))))) (ak (ay gA)) az)
   (ai (cU PassesOwn.never rfl (bH K rfl (i9 (qK K rfl) (pv 0) (lD aq) lC)) (gm 3 vK.nd)
   (ak (aG (bD (gn wO hr T.wj T.pY.kp T.wg (af (pv 3) (af (pv 1) (af (pv 2) ah))))) (ak (ay gA)) az)))
   (ak (ay gA)))),?_⟩
  cases tp with
  | @cons e0 _ ls _ h0 tp =>
  obtain⟨tt,rfl,lV⟩:=h0
  have Ep:Bk (V.ref tt :: ls) ((0:Nat):Int)=some (.ref tt):=iH rfl
  refine⟨_,rfl,_,_,_,true,rfl,.str _,.inl ⟨_,rfl,rfl⟩,true,rfl,cz ?_⟩
  refine⟨_,rfl,l,_,_,_,rfl,rfl,aU.of hl,Ep,_,rfl,_,rfl,tt,a,z,xs,t,x,rfl,lV,gs x (List.mem_cons_self ..),ha,pr,tok,fun H1 s1=>⟨_,rfl,?_⟩⟩
  cases hx:Fy x t z with
  | false =>
   refine n8 ?_
   have kk:=k H1 s1
   unfold CU at kk
   rw[hx,Bool.false_and] at kk
   exact kk
  | true =>
  refine cz ?_
  unfold CU at k
  rw[hx,Bool.true_and] at k
  have hl1:=s1 _ _ hl
  refine⟨_,rfl,_,rfl,l,_,rfl,aU.of hl1,fun l2 hl2=>?_⟩
  rw[show sO (V.ref tt :: ls) (some 1) none=ls from vz (V.ref tt :: ls) 1 (by rw[List.length_cons];omega)]
  (have s2:=ao (o:=HO.lst ls) hl2;have q2:=aj (H:=H1) (a:=l2) (o:=HO.lst ls);generalize upd H1 l2 (HO.lst ls)=H2 at s2 q2 ⊢)
  have tp2:=tN.mono (s1.trans s2) tp
  have tl:=tp.length
  refine⟨l2,rfl,⟨_,aU.of q2⟩,?_⟩
  refine i7 (K:=K) (a:=l2) (xs:=ls) (fun i σ J=>aD H2 J∧(∀ y∈cs.take i,Fy y t z=false)∧∃ v,σ=[some (.ref l),some (.str z),some (.ref a),v]) ⟨aD.refl _,(fun y hy=>nomatch hy),_,rfl⟩ (fun i σ J _ q=>aU.of (q.1 _ _ q2)) ?_ ?_
  ·rintro i e σ J hi ⟨sJ,hno,v,rfl⟩
   obtain⟨y,hy,ty,rfl,hty⟩:=aQ tp2 i e hi
   have T6:=(s1.trans s2).trans sJ
   dsimp only[bf]
   refine⟨_,rfl,_,rfl,_,rfl,ty,a,z,xs,t,y,rfl,sJ _ _ hty,gs y (List.mem_cons_of_mem _ (List.mem_of_getElem? hy)),T6 _ _ ha,aH (fun a b h=>bF.mono T6 h) pr,tok,fun J2 s3=>⟨_,rfl,rdB (fun hyt=>?_) (fun hyf=>?_)⟩⟩
   ·have kk:=k J2 (T6.trans s3)
    rw[List.any_eq_true.mpr ⟨y,List.mem_of_getElem? hy,hyt⟩] at kk
    exact kk
   ·refine⟨sJ.trans s3,fun y' hy'=>?_,_,rfl⟩
    rw[aO hy] at hy'
    rcases List.mem_append.mp hy' with q | q
    ·exact hno y' q
    ·rw[List.mem_singleton.mp q];exact hyf
  ·rintro σ J ⟨sJ,hno,v,rfl⟩
   rw[tl,List.take_of_length_le (Nat.le_refl _)] at hno
   have kk:=k J ((s1.trans s2).trans sJ)
   rw[show(cs.any fun y=>Fy y t z)=false from List.any_eq_false.mpr fun y hy=>by rw[hno y hy];decide] at kk
   exact kk
def wQ (K:W.Frag):Sp:=fun vs H Q _=>∃(a:Addr) (xs:List V) (t:List (List Str)),vs=[.ref a]∧H a=some (.lst xs)∧Paired (bF H) xs t∧t.length≤100∧∀ l es H',H l=none→H' l=some (.lst es)→tM H H' es t→es.Nodup→V.ref l∉es→aD H H'→Q (.ref l) H'
theorem Es:aJ P w K mg base bG 1 (aA 61) (aM 61) ["_law_table_here"] (wQ K):=by
 refine T.yr.ok DV (fun vs H Q E h=>?_) (fun cdv A outer s H vs Q E hr h=>?_)
 ·obtain⟨a,xs,t,rfl,_⟩:=h;rfl
 ·have hu:=bg hr
  have g8:=hr.aP
  obtain⟨a,xs,t,rfl,ha,pr,htl,k⟩:=h
  have hlx:=pr.length
  refine⟨_,(ak (ay (dI rfl (show br ["_law_table_here"] (av iW) ["_law_row"] 1 [] _ from CG) (bH K rfl (pv 0)) (fun _ _ _ _=>(gm 0 Ib)) (fun _ _ _ _=>dH) (fun _ _ _ _=>(L3 (tG K rfl) T.p8 (af (pv 0) ah)))))),?_⟩
  refine⟨_,rfl,a,rfl,⟨_,aU.of ha⟩,fun D hD=>?_⟩
  refine cO (K:=K) (a:=a) (xs:=xs) (fun i ys τ J=>(∃ v,τ=[v])∧aD H J∧J D=some (.lst ys)∧V.ref D∉ys∧ys.Nodup∧tM H J ys (t.take i)) ⟨⟨_,rfl⟩,ao hD,aj,(fun z=>nomatch z),List.nodup_nil,.nil⟩ (fun i ys τ J _ p=>⟨aU.of (p.2.1 _ _ ha),p.2.2.1⟩) ?_ ?_
  ·rintro i e ys τ J hi ⟨⟨v,rfl⟩,sJ,hJ,nD,ndp,V2⟩
   have hil:=(List.getElem?_eq_some_iff.mp hi).1
   obtain⟨r,hr,b,rfl,hb⟩:=aQ pr i e hi
   have hyl:=V2.length
   rw[List.length_take] at hyl
   refine sQ ?_
   refine⟨_,rfl,b,_,rfl,.inl (aU.of (sJ _ _ hb)),fun l hl=>?_⟩
   have s2:=ao (o:=HO.lst (r.map V.str)) hl
   have OX:=s2 _ _ hJ
   have nl:l≠D:=fun q=>by rw[q,hJ] at hl;cases hl
   have nD2:V.ref D∉ys++[.ref l]:=fun q=>by
    rcases List.mem_append.mp q with q | q
    ·exact nD q
    ·have:=List.mem_singleton.mp q;cases this;exact nl rfl
   refine⟨OX,Nat.lt_of_le_of_lt (show ys.length≤100 by omega) (by decide),⟨_,rfl⟩,aI hD (sJ.trans s2),aj,nD2,?_,?_⟩
   ·rw[List.nodup_append]
    refine⟨ndp,by simp,fun y hy z hz q=>?_⟩
    rw[List.mem_singleton.mp hz] at q
    subst q
    obtain⟨_,ys',hy'⟩:=tM.has V2 hy
    rw[hl] at hy';cases hy'
   rw[aO hr]
   refine tM.but nD2 (tM.app (tM.mono s2 V2) (.cons ⟨l,rfl,sJ.free hl,aj⟩ .nil))
  ·rintro ys τ J ⟨⟨v,rfl⟩,sJ,hJ,nD,ndp,V2⟩
   rw[hlx,List.take_of_length_le (Nat.le_refl _)] at V2
   exact k D ys J hD hJ V2 ndp nD sJ
def uo (P:Program) (w:World) (K:W.Frag):Sp:=fun vs H Q _=>∃(tt lt a0:Addr) (wd:Str) (due:V) (tv xs:List V) (x:cN) (cs:List cN) (t:List (List Str)),vs=[.ref tt,.ref lt,.ref a0,.str wd,due]∧H lt=some (.lst tv)∧tN H tv (x :: cs)∧(∀ c∈x :: cs,uz c)∧H a0=some (.lst xs)∧Paired (bF H) xs t∧TabOk t∧cs.length≤10∧Xg P w K x cs t H tt wd due∧∀ H',aD H H'→Q (.bl true) H'
theorem B5:aJ P w K mg base bG 6 (aA 62) (aM 62) ["_law_found", "_law_tolds", "_law_table_here", "_law_word", "_law_due"] (uo P w K):=by
 have GA:aJ P w K mg base bG 5 (aA 60) (aM 60) ["_law_tolds", "_law_text", "_law_table_here"] (wN K):=Er T
 refine T.pZ.ok jO (fun vs H Q E h=>?_) (fun cdv A outer s H vs Q E hr h=>?_)
 ·obtain⟨tt,lt,a0,wd,due,tv,xs,x,cs,t,rfl,_⟩:=h;rfl
 ·have hu:=bg hr
  have g8:=hr.aP
  obtain⟨tt,lt,a0,wd,due,tv,xs,x,cs,t,rfl,hlt,tps,gs,ha0,pr,tok,ahn,hR,k⟩:=h
  have jx:=hr.units
  refine⟨_,(ai (aG (PW.pt (gX (ck (bD (j8 (bQ K rfl) T.bw (af (pv 0) (af (Ic "tuple" T.kI) ah))))) (gX (dw (Sx K rfl jx) (pv 0) (aC ah)) (gX (ck (bD (j8 (bQ K rfl) T.bw (af (gw K (pv 0) aq) (af (Ic "str" T.Ea) ah))))) (gZ (dw u6 (gw K (pv 0) aq) (pv 3))))))) (ak (ay gA)) az)
   (ai (aG (dw bA (pv 3) au) (ak (ay (CH bA (j8 (aZ K rfl) T.bX (af (pv 0) ah)) aq))) az)
   (ai (aG (dw u6 (j8 (aZ K rfl) T.bX (af (pv 0) ah)) aq) (ak (ay gA)) az)
   (ai (aG (dw bA (pv 3) au) (ak (ay (xg (gn GA hr T.Gk T.yq.kp T.Gj (af (pv 1) (af (gw K (pv 0) aq) (af (pv 2) ah)))) (w6 (CH bA (j8 cX T.bX (af (gw K (pv 0) aq) ah)) (pv 4)))))) az)
   (ai (aG (PW.pt (gX (ck (bD (j8 (bQ K rfl) T.bw (af (gw K (pv 0) aq) (af (Ic "list" T.p8) ah))))) (gZ (dw u6 (j8 (aZ K rfl) T.bX (af (gw K (pv 0) aq) ah)) (j8 (rY (YP P w K) (aS P w) rfl rfl rfl) T.bX (af (pv 4) ah)))))) (ak (ay gA)) az)
   (ai (cU PassesOwn.never rfl (bH K rfl (gw K (pv 0) aq)) (gm 5 jO.nd)
   (ak (aG (PW.pt (gX (ck (bD (j8 (DJ K rfl) T.bw (af (pv 5) (af (Ic "tuple" T.kI) ah))))) (gX (dw u6 (j8 (aZ K rfl) T.bX (af (pv 5) ah)) aq) (gZ (bD (j8 (bQ K rfl) T.bw (af (gw K (pv 5) aq) (af (Ic "bool" T.zI) ah)))))))) (ak (ay gA)) az)))
   (ai (P0 (ZP P w) (aS P w) rfl rfl (cU PassesOwn.never rfl (Ng (YP P w K) (aS P w) rfl rfl rfl (pv 4)) (gm 5 jO.nd)
   (ak (aG (cu (CF (ve (YP _ _ K)) rfl (hqp jx)) (pv 5) (gw K (pv 0) aq) rfl) (ak (ay gA)) az))))
   (ai (cU PassesOwn.never rfl (bH K rfl (gw K (pv 0) aq)) (gm 5 jO.nd)
   (ak (aG (cu (zT K rfl) gA (dI rfl (show br ["_law_found", "_law_tolds", "_law_table_here", "_law_word", "_law_due", "_law_place"] (av gQ) ["_law_mark"] 1 [] _ from CG) (JV K rfl (gw K (pv 5) aq)) (fun _ _ _ _=>(gm 0 Ib)) (fun _ _ _ _=>(JR (dw pq (pv 0) bT))) (fun _ _ _ _=>(j8 (bQ K rfl) T.bw (af (gw K (pv 0) aq) (af (Ic "bool" T.zI) ah))))) rfl) (ak (ay gA)) az)))
   (ak (ay gA)))))))))),?_⟩
  obtain⟨rest,Ua⟩:∃ rest,H tt=some (.tup (.str wd :: rest)):=by
   rcases hR with ⟨rfl,lV⟩ | ⟨rfl,z,kk,lV,rfl,hso,hzk,zJ⟩ | ⟨rfl,l,a2,vs,cm,lV,rfl,hl,em,ca,hml⟩
   ·exact⟨_,lV⟩
   ·exact⟨_,lV⟩
   ·exact⟨_,lV⟩
  refine⟨_,rfl,_,_,_,_,rfl,.tup Ua,.inl ⟨_,⟨rfl,rfl⟩⟩,_,rfl,cz (⟨_,rfl,(by decide),fun pe hpe=>?_⟩)⟩
  have s1:=ao (o:=HO.tup []) hpe
  have q1:=aj (H:=H) (a:=pe) (o:=HO.tup [])
  generalize upd H pe (HO.tup [])=H1 at s1 q1 ⊢
  have tD:=s1 _ _ Ua
  have hT:TopC K H1 (.ref tt) (.ref pe) false:=by
   have:=TopC.tup (K:=K) (H:=H1) (n:=0) (a:=tt) (b:=pe) (e:=fun _=>true) (by omega) (aY.of tD) (aY.of q1) (fun j x y _ h=>nomatch h)
   simpa using this
  have Ep:Bk (V.str wd :: rest) ((0:Nat):Int)=some (.str wd):=iH rfl
  refine⟨_,hT,_,rfl,cz ?_⟩
  refine⟨_,rfl,_,_,_,_,rfl,rfl,aY.of tD,Ep,_,_,_,_,rfl,.str _,.inl ⟨_,⟨rfl,rfl⟩⟩,_,rfl,cz (⟨_,rfl,_,_,_,_,rfl,rfl,aY.of tD,Ep,_,rfl,rfl,_,rfl,PU rfl (⟨_,rfl,rfl,_,rfl,?_⟩)⟩)⟩
  clear tD hT Ua
  rcases hR with ⟨rfl,lV⟩ | ⟨rfl,z,kk,lV,rfl,hso,hzk,zJ⟩ | ⟨rfl,l,a2,vs,cm,lV,rfl,hl,em,ca,hml⟩
  ·have tD:=s1 _ _ lV
   have kk:=k H1 s1
   refine Rt rfl (⟨_,rfl,_,_,rfl,.inr (aY.of tD),rfl,kk⟩)
  ·have tD:=s1 _ _ lV
   have zle:z.length≤sizeLine:=Nat.le_trans zJ (by decide)
   refine yH (by decide +kernel) (⟨_,rfl,_,_,rfl,.inr (aY.of tD),rfl,_,rfl,rdJ (by simp) (⟨_,rfl,rfl,_,rfl,Rt rfl (⟨_,rfl,_,rfl,_,_,_,_,rfl,rfl,aY.of tD,rfl,_,rfl,lt,a0,z,tv,xs,t,x,cs,rfl,s1 _ _ hlt,tN.mono s1 tps,gs,s1 _ _ ha0,aH (fun a b h=>bF.mono s1 h) pr,tok,fun H2 s2=>?_⟩)⟩)⟩)
   rw[hso]
   have kk':=k H2 (s1.trans s2)
   refine⟨_,rfl,n8 ⟨_,rfl,tt,_,_,_,rfl,rfl,aY.of (s2 _ _ tD),rfl,z,rfl,zle,_,rfl,rfl,?_⟩⟩
   show Q (.bl (decide (V.int (z.length:Int)=V.int (kk:Int)))) H2
   rw[decide_eq_true (p:=V.int (z.length:Int)=V.int (kk:Int)) (by rw[hzk])]
   exact kk'
  ·have tD:=s1 _ _ lV
   have hl1:=s1 _ _ hl
   have ca1:=ca.mono s1
   have em1:=em.keep fun b xs q=>aB s1 q
   clear ca em
   obtain⟨kvs,nd,cr⟩:=ca1.ok
   have kl:=Paired.length cr
   have vl:=em1.length
   rw[List.length_map] at vl
   refine yH (by decide +kernel) (⟨_,rfl,_,_,rfl,.inr (aY.of tD),rfl,_,rfl,rdJ (by simp) (⟨_,rfl,rfl,_,rfl,yH (by decide +kernel) (⟨_,rfl,_,_,_,_,rfl,rfl,aY.of tD,rfl,_,_,_,_,rfl,.lst hl1,.inl ⟨_,⟨rfl,rfl⟩⟩,_,rfl,cz (⟨_,rfl,_,_,_,_,rfl,rfl,aY.of tD,rfl,_,_,rfl,.inl (aU.of hl1),_,rfl,a2,kvs,rfl,nd,rfl,_,rfl,rdJ (by show(vs.length:Int)=(kvs.length:Int);omega) ?_⟩)⟩)⟩)⟩)
   dsimp only[Ms]
   refine⟨_,rfl,tt,_,_,_,rfl,rfl,aY.of tD,rfl,l,rfl,⟨_,aU.of hl1⟩,?_⟩
   refine i7 (K:=K) (a:=l) (xs:=vs) (fun i σ J=>aD H1 J∧∃ v5,σ=[some (.ref tt),some (.ref lt),some (.ref a0),some (.str ("none":Str)),some (.ref a2),v5]) ⟨aD.refl _,_,rfl⟩ (fun i σ J _ q=>aU.of (q.1 _ _ hl1)) ?_ ?_
   ·rintro i e σ J hi ⟨sJ,v5,rfl⟩
    obtain⟨m,hm,hv⟩:=aQ em1 i e hi
    obtain⟨b,s,u,us,rfl,hb,hs,hu,ho⟩:=bW sJ hv
    dsimp only[bf]
    refine⟨_,rfl,_,_,_,_,rfl,.sqt hb,rfl,_,rfl,cz ?_⟩
    refine⟨_,rfl,_,_,rfl,.inr hb,rfl,_,rfl,rdJ (by simp) (⟨_,rfl,_,_,_,_,rfl,rfl,hb,rfl,_,_,_,_,rfl,.int _,.inl ⟨_,⟨rfl,rfl⟩⟩,_,rfl,cz (⟨sJ,_,rfl⟩)⟩)⟩
   rintro σ J ⟨sJ,v5,rfl⟩
   have Yk:=nd.mono sJ
   have htJ:=sJ _ _ tD
   have Mf:=sJ _ _ hl1
   have emJ:=em1.keep fun b xs q=>aB sJ q
   refine⟨_,rfl,a2,kvs,rfl,Yk,fun o=>?_⟩
   have tq:=pG (F:=K) Yk.ob (o:=dX (ZP P w) (aS P w) a2 kvs o)
   have hx:=aj (H:=J) (a:=a2) (o:=dX (ZP P w) (aS P w) a2 kvs o)
   have EI:(upd J a2 (dX (ZP P w) (aS P w) a2 kvs o)) tt=_:=(aE (gW htJ Yk.ob (fun q=>nomatch q))).trans htJ
   have hl2:(upd J a2 (dX (ZP P w) (aS P w) a2 kvs o)) l=_:=(aE (gW Mf Yk.ob (fun q=>nomatch q))).trans Mf
   have em2:=emJ.keep tq
   have cr2:=qW.keep (fun b xs q=>tq b xs (aB sJ q)) cr
   have eb:upd (upd J a2 (dX (ZP P w) (aS P w) a2 kvs o)) a2 (dN (ZP P w) (aS P w) a2 kvs)=J:=by
    rw[O1];funext b;unfold upd;split
    ·rename_i q;rw[q];exact Yk.ob.symm
    ·rfl
   generalize upd J a2 (dX (ZP P w) (aS P w) a2 kvs o)=G at hx EI hl2 em2 cr2 eb ⊢
   refine Nu (fun i σ G'=>G'=G∧∃ v5,σ=[some (.ref tt),some (.ref lt),some (.ref a0),some (.str ("none":Str)),some (.ref a2),v5]) ⟨rfl,_,rfl⟩ (fun i σ G' _ q=>by rw[q.1];exact hx) ?_ ?_
   ·rintro i e σ G' hi ⟨rfl,v5,rfl⟩
    obtain⟨p,hp,hk,hv⟩:=aQ cr2 i e hi
    have hon:(ve (YP P w K)).on G' (.inr (aX p.1)) (.ref e.2.1):=⟨_,rfl,iJ hv⟩
    dsimp only[bf]
    refine⟨_,rfl,_,rfl,tt,_,_,_,rfl,rfl,aY.of EI,rfl,l,_,_,_,rfl,hon,.inl (aU.of hl2),Kg em2,?_⟩
    rw[Qq (List.mem_map.mpr ⟨p,List.mem_of_getElem? hp,rfl⟩)]
    exact⟨_,rfl,cz ⟨rfl,_,rfl⟩⟩
   ·rintro σ G' ⟨rfl,v5,rfl⟩
    refine⟨J,.inr ⟨a2,kvs,o,hx,eb.symm⟩,?_⟩
    refine⟨_,rfl,tt,_,_,_,rfl,rfl,aY.of htJ,rfl,l,rfl,⟨_,aU.of Mf⟩,?_⟩
    refine i7 (K:=K) (a:=l) (xs:=vs) (fun i σ J=>aD H1 J∧∃ v5,σ=[some (.ref tt),some (.ref lt),some (.ref a0),some (.str ("none":Str)),some (.ref a2),v5]) ⟨sJ,_,rfl⟩ (fun i σ J _ q=>aU.of (q.1 _ _ hl1)) ?_ ?_
    ·rintro i e σ J hi ⟨sJ,v5,rfl⟩
     obtain⟨m,hm,hv⟩:=aQ em1 i e hi
     obtain⟨b,s,u,us,rfl,hb,hs,hu,ho⟩:=bW sJ hv
     dsimp only[bf]
     have hun:us.length≤sizeLine∨True:=.inr trivial
     refine⟨_,rfl,b,_,_,_,rfl,rfl,hb,rfl,u,rfl,⟨_,hu⟩,fun D hD=>?_⟩
     refine Nh (K:=K) (a:=u) (xs:=us) (fun i ws τ G=>(∃ v,τ=[v])∧aD J G∧G D=some (.lst ws)∧ws.length≤i∧∀ v∈ws,v=.bl false) ⟨⟨_,rfl⟩,ao hD,aj,Nat.le_refl _,fun _ q=>nomatch q⟩ (fun i ws τ G _ p=>⟨aB p.2.1 hu,p.2.2.1⟩) ?_ ?_
     ·rintro i2 e2 ws τ G hi2 ⟨⟨v,rfl⟩,sG,hG,hwl,hws⟩
      obtain⟨o,ho1,ho2⟩:=kF ho i2 e2 hi2
      dsimp only[bf]
      cases o with
      | none =>
       have ho2:e2=.non:=ho2
       subst ho2
       exact⟨_,rfl,rfl,_,rfl,PU rfl ⟨⟨_,rfl⟩,sG,hG,by omega,hws⟩⟩
      | some mk =>
       obtain⟨b2,s2,rfl,q1,q2⟩:=vA sG ho2
       refine⟨_,rfl,rfl,_,rfl,Fb (fun z=>nomatch z) ⟨_,rfl,b2,_,_,_,rfl,rfl,q1,rfl,_,_,_,_,rfl,.int _,.inl ⟨_,rfl,rfl⟩,hG,?_,⟨_,rfl⟩,aI hD sG,aj,(by rw[List.length_append];show ws.length+1≤i2+1;omega),fun v hv=>?_⟩⟩
       ·have h1:=hml m (List.mem_of_getElem? hm)
        have h2:=ho.length
        have h3:=(List.getElem?_eq_some_iff.mp hi2).1
        exact Nat.lt_of_le_of_lt (show ws.length≤100 by omega) (by decide)
       ·rcases List.mem_append.mp hv with z | z
        ·exact hws v z
        ·exact List.mem_singleton.mp z
     ·rintro ws τ G ⟨⟨v,rfl⟩,sG,hG,hwl,hws⟩
      refine⟨_,_,rfl,.inl (aU.of hG),rfl,List.all_eq_true.mpr fun v hv=>by rw[hws v hv];rfl,_,rfl,?_⟩
      rw[if_neg (by decide),show inV (V.bl true) ws=false from List.any_eq_false.mpr fun v hv=>by rw[hws v hv];decide]
      exact cz ⟨sJ.trans sG,_,rfl⟩
    ·rintro σ J ⟨sJ,v5,rfl⟩
     exact k J (s1.trans sJ)
def Et (K:W.Frag):Sp:=fun vs H Q _=>∃(a:Addr) (ns:List Int),vs=[.ref a]∧aU K H a (ns.map V.int)∧ns.length≤63∧∀ H',Q (.bl true) H'
theorem Ub:aJ P w K mg base bG 13 (aA 63) (aM 63) ["_law_script"] (Et K):=by
 have fG:aJ P w K mg base bG 1 (aA 40) (aM 40) ["_law_script", "_law_k"] (kQ K):=qA T
 have GB:aJ P w K mg base bG 1 (aA 61) (aM 61) ["_law_table_here"] (wQ K):=Es T
 have B6:aJ P w K mg base bG 5 (aA 58) (aM 58) ["_law_tolds", "_law_table_here", "_law_most"] (rT P w K):=Bb T
 have GC:aJ P w K mg base bG 5 (aA 46) (aM 46) ["_law_told_here"] (wI (aA 64)):=Ej T
 have B7:aJ P w K mg base bG 4 (aA 50) (aM 50) ["_law_script", "_law_told_here", "_law_first", "_law_many"] (rO K):=A9 T
 have wR:aJ P w K mg base bG 6 (aA 62) (aM 62) ["_law_found", "_law_tolds", "_law_table_here", "_law_word", "_law_due"] (uo P w K):=B5 T
 have Eu:aJ P w K mg base bG 3 (aA 52) (aM 52) ["_law_cell", "_law_tolds"] (ug K):=BY T
 have rP:aJ P w K mg base bG 3 (aA 45) (aM 45) ["_law_cell"] qf:=wH T
 have OP:aJ P w K mg base bG 12 (aA 39) (aM 39) ["dialect", "table", "others", "most"] (Km P w K (aA 64) (aA 65) (aA 66) (aA 67)):=QJ T
 refine T.Xi.ok mL (fun vs H Q E h=>?_) (fun cdv A outer s H vs Q E hr h=>?_)
 ·obtain⟨a,ns,rfl,_⟩:=h;rfl
 ·have hu:=bg hr
  have g8:=hr.aP
  obtain⟨a,ns,rfl,hS,hlen,k⟩:=h
  have jx:=hr.units
  refine⟨_,(ai (eS 1 mL.nd (gn rP hr T.yj T.rD.kp T.yi (af (gn fG hr T.gJ T.fz.kp T.gI (af (pv 0) (af aq ah))) ah)))
   (ai (eS 2 mL.nd (aK MJ (bU (af (pv 1) ah)) (gn B7 hr T.BI T.tX.kp T.BH (af (pv 0) (af (pv 1) (af aq (af (aK e9 aq (aK dB (aK dW (gn fG hr T.gJ T.fz.kp T.gI (af (pv 0) (af aq ah))) aq) aq)) ah)))))))
   (ai (eS 3 mL.nd (gn Eu hr T.D5 T.vZ.kp T.D4 (af (gn fG hr T.gJ T.fz.kp T.gI (af (pv 0) (af aq ah))) (af (pv 2) ah))))
   (ai (eS 4 mL.nd (aK e9 aq (aK dB (gn fG hr T.gJ T.fz.kp T.gI (af (pv 0) (af aq ah))) aq)))
   (ai (kM (gn B6 hr T.BN T.t7.kp T.BL (af (pv 2) (af (pv 3) (af (pv 4) ah)))) (iI K rfl 2 rfl (aW (gm 5 mL.nd) (aW (gm 6 mL.nd) iG))))
   (ai (JS (i:=7) rfl mL.nd rfl rfl (show br ["_law_script", "_law_told_here", "_law_tolds", "_law_table_here", "_law_most", "_law_word", "_law_due", "_law_made_here", "_law_beside", "_law_handed", "_law_found"] (av vm) ["_law_one"] 1 [] _ from CG) (bH K rfl (pv 2)) (fun _ _ _ _=>(gm 0 Ib)) (fun _ _ _ _=>dH) (fun _ _ _ _=>(gn GC hr T.FY T.yk.kp T.FW (af (pv 0) ah))))
   (ai (eS 8 mL.nd (i9 (qK K rfl) (pv 7) (lD aq) lC))
   (ai (eS 9 mL.nd (gn GB hr T.Gn T.yr.kp T.Gm (af (pv 3) ah)))
   (ai (eS 10 mL.nd (gn OP hr T.Ow T.IB.kp T.Ov (af (Ad K (pv 7) aq) (af (pv 9) (af (pv 8) (af (pv 4) ah))))))
   (ai (aG (PW.pt (gX (ck (bD (gn wR hr T.wm T.pZ.kp T.wk (af (pv 10) (af (pv 2) (af (pv 3) (af (pv 5) (af (pv 6) ah)))))))) (gX (dw (Su K rfl jx) (pv 9) (pv 3)) (gZ (dw (Sy K rfl jx) (pv 8) (i9 (qK K rfl) (pv 7) (lD aq) lC)))))) (ak (ay gA)) az)
   (ai (aG (dw bA (gw K (pv 10) aq) au) (ak (cW (Pz K rfl PySem.F.plainAttrs_list PySem.F.slot_list_clear PySem.F.type_list_clear MI (gw K (pv 10) aq)))) az)
   (ak (ay (gn wR hr T.wm T.pZ.kp T.wk (af (gn OP hr T.Ow T.IB.kp T.Ov (af (Ad K (pv 7) aq) (af (pv 9) (af (pv 8) (af (pv 4) ah))))) (af (pv 2) (af (pv 3) (af (pv 5) (af (pv 6) ah))))))))))))))))))),?_⟩
  refine bB fun R hR=>?_
  refine⟨_,rfl,a,_,_,rfl,hS,by decide,fun c0=>⟨c0,rfl,fun t p q f b1 b2 b3 b4 H1 g ht h1 s1=>?_⟩⟩
  obtain⟨x,ex⟩:∃ x:cN,x=(p,q,f,⟨b1,b2,b3,b4⟩):=⟨_,rfl⟩
  have g:uz x:=by rw[ex];exact g
  have h1:H1 t=some (.tup (sS x)):=by rw[ex];exact h1
  clear ex
  dsimp only[bf]
  have Ru:=s1.seq hS
  refine hR _ _ _ (bB fun R hR=>?_)
  refine⟨_,rfl,(by show(1:Nat)≤sizeLine;decide),fun l0 Ac=>?_⟩
  (have s2:=ao (o:=HO.lst [V.ref t]) Ac;have q2:=aj (H:=H1) (a:=l0) (o:=HO.lst [V.ref t]);generalize upd H1 l0 (HO.lst [V.ref t])=H2 at s2 q2 ⊢)
  have X7:=s2.seq Ru
  have EI:=s2 _ _ h1
  refine⟨_,rfl,_,rfl,_,rfl,a,_,_,rfl,X7,by decide,fun c2=>?_⟩
  have m0':=Int.emod_nonneg (c2 / 60) (show(3:Int)≠0 by decide)
  have m1':=Int.emod_lt_of_pos (c2 / 60) (show(0:Int) < 3 by decide)
  refine⟨_,_,rfl,rfl,⟨(by omega),(by omega)⟩,_,_,rfl,rfl,(by omega),_,_,rfl,rfl,_,_,_,_,_,_,rfl,(aD.refl _).seq X7,(by omega),EI,g,(by omega),(by omega),(by omega),(by omega),fun l1 QL Lw H3 hl1 h3 VU gs3 aho s3=>⟨_,_,_,_,rfl,rfl,(s3 _ _ q2),h3,?_,?_⟩⟩
  ·exact Nat.le_trans (show 1+QL.length≤100 by have:=VU.length;omega) (by decide)
  intro L hL
  have s4:=ao (o:=HO.lst ([V.ref t]++QL)) hL
  have q4:=aj (H:=H3) (a:=L) (o:=HO.lst ([V.ref t]++QL))
  generalize upd H3 L (HO.lst ([V.ref t]++QL))=H4 at s4 q4 ⊢
  have EJ:=s2.trans (s3.trans s4)
  have Yi:tN H4 (.ref t :: QL) (x :: Lw):=.cons ⟨t,rfl,EJ _ _ h1⟩ (tN.mono s4 VU)
  have RL:∀ c∈x :: Lw,uz c:=fun c hc=>by
   rcases List.mem_cons.mp hc with q | q
   ·rw[q];exact g
   ·exact gs3 c q
  have aey:(x :: Lw).length≤20:=by rw[List.length_cons];omega
  have hc3:Lw.length≤3:=by omega
  have hS4:=EJ.seq Ru
  clear VU h3 q2 s2 s3 s4 X7 EI
  dsimp only[bf]
  refine hR _ _ _ (bB fun R hR=>?_)
  refine⟨_,rfl,a,_,_,rfl,hS4,by decide,fun c1=>⟨_,rfl,c1,L,_,x :: Lw,rfl,q4,Yi,RL,aey,fun lt es T H5 ahp hlt RK Ew aez s5=>?_⟩⟩
  dsimp only[bf]
  have XJ:=Kd RK
  have q5:=s5 _ _ q4
  have TQ:=tN.mono s5 Yi
  have hS5:=s5.seq hS4
  have h24:=Xh Ew aez
  clear q4 Yi hS4
  refine hR _ _ _ (bB fun R hR=>?_)
  refine⟨_,rfl,a,_,_,rfl,hS5,by decide,fun c3=>?_⟩
  have m2':=Int.emod_nonneg c3 (show(60:Int)≠0 by decide)
  have m3':=Int.emod_lt_of_pos c3 (show(0:Int) < 60 by decide)
  obtain⟨n,en,n1,n4⟩:∃ n:Nat,(n:Int)=1+c3 % 60∧1≤n∧n≤4000:=⟨(1+c3 % 60).toNat,Int.toNat_of_nonneg (by omega),by omega,by omega⟩
  refine⟨_,_,rfl,rfl,(by show(0:Int) < 60;decide),_,_,rfl,rfl,?_⟩
  dsimp only[bf]
  rw[←en]
  clear en
  refine hR _ _ _ (bB fun R hR=>?_)
  refine⟨_,rfl,_,rfl,_,rfl,L,lt,n,_,es,x,Lw,T,rfl,q5,TQ,RL,by omega,hlt,XJ,Ew,n4,fun tl wd due r cm kk H6 s6 htl DQ L4=>?_⟩
  refine⟨tl,_,rfl,aY.of htl,rfl,_,_,rfl,_,_,rfl,rfl,?_⟩
  dsimp only[bf]
  have q6:=s6 _ _ q5
  have tp6:=tN.mono s6 TQ
  have hS6:=s6.seq hS5
  have tl6:=tp6.length
  have Uc:=s6 _ _ hlt
  have pr6:=aH (fun a b h=>bF.mono s6 h) XJ
  clear q5 TQ hS5 hlt XJ RK
  refine hR _ _ _ (bB fun R hR=>?_)
  refine⟨_,rfl,L,rfl,⟨_,aU.of q6⟩,fun M hM=>?_⟩
  refine cO (K:=K) (a:=L) (xs:=.ref t :: QL) (fun i ys τ J=>(∃ v,τ=[v])∧aD H6 J∧J M=some (.lst ys)∧Bh (aA 64) J ys ((x :: Lw).take i)) ⟨⟨_,rfl⟩,ao hM,aj,.nil⟩ (fun i ys τ J _ p=>⟨aU.of (p.2.1 _ _ q6),p.2.2.1⟩) ?_ ?_
  ·rintro i e ys τ J hi ⟨⟨v,rfl⟩,sJ,hJ,mkJ⟩
   obtain⟨y,hy,ty,rfl,hty⟩:=aQ tp6 i e hi
   have hil:i < (x :: Lw).length:=(List.getElem?_eq_some_iff.mp hy).1
   have hyl:=mkJ.length
   rw[List.length_take] at hyl
   refine sQ ?_
   refine⟨_,rfl,ty,y.1,y.2.1,y.2.2.1,y.2.2.2.a,y.2.2.2.b,y.2.2.2.c,y.2.2.2.d,rfl,sJ _ _ hty,RL y (List.mem_of_getElem? hy),fun m dm J3 hm0 hm s3=>?_⟩
   have OG:=s3 _ _ hJ
   refine⟨OG,Nat.lt_of_le_of_lt (show ys.length≤100 by omega) (by decide),⟨_,rfl⟩,aI hM (sJ.trans s3),aj,?_⟩
   rw[aO hy]
   exact bJ (Bh.but OG (Bh.mono s3 mkJ)) (Bh.but OG (.cons ⟨m,dm,rfl,hm⟩ .nil))
  rintro ms τ H7 ⟨⟨v,rfl⟩,s7,hM7,V3⟩
  rw[tl6,List.take_of_length_le (Nat.le_refl _)] at V3
  cases V3 with
  | @cons e0 _ ms _ h0 V3 =>
  obtain⟨y0,dy0,rfl,hy7⟩:=h0
  have Yl:sO (V.ref y0 :: ms) (some 1) none=ms:=vz (V.ref y0 :: ms) 1 (by rw[List.length_cons];omega)
  have Ep:Bk (V.ref y0 :: ms) ((0:Nat):Int)=some (.ref y0):=iH rfl
  have gsT:∀ c∈Lw,uz c:=fun c hc=>RL c (List.mem_cons_of_mem _ hc)
  have mkr:∀ v∈ms,∃ c,v=.ref c:=fun v hv=>by
   obtain⟨i,hi⟩:=List.getElem?_of_mem hv
   obtain⟨_,_,y,_,e,_⟩:=aQ V3 i v hi
   exact⟨y,e⟩
  dsimp only[bf]
  refine hR _ _ _ (bB fun R hR=>?_)
  refine⟨_,rfl,_,rfl,_,_,rfl,aU.of hM7,fun B hB=>?_⟩
  rw[Yl]
  have s8:=ao (o:=HO.lst ms) hB
  have hB8:=aj (H:=H7) (a:=B) (o:=HO.lst ms)
  generalize upd H7 B (HO.lst ms)=H8 at s8 hB8 ⊢
  dsimp only[bf]
  have s68:=s7.trans s8
  refine hR _ _ _ (bB fun R hR=>?_)
  refine⟨_,rfl,lt,es,T,rfl,s68 _ _ Uc,aH (fun a b h=>bF.mono s68 h) pr6,by have:=Ew.n;omega,fun Hd esd H9 hd0 hd rwd ndd nld s9=>?_⟩
  have RJ:=s68.trans s9
  have hS9:=RJ.seq hS6
  have q9:=RJ _ _ q6
  have tp9:=tN.mono RJ tp6
  have Ud:=RJ _ _ Uc
  have pr9:=aH (fun a b h=>bF.mono RJ h) pr6
  have lv9:=L4.mono RJ
  have hM9:=(s8.trans s9) _ _ hM7
  have hy9:=(s8.trans s9) _ _ hy7
  have mk9:=Bh.mono (s8.trans s9) V3
  have hB9:=s9 _ _ hB8
  have prd:=Kd rwd
  clear hS6 q6 tp6 Uc pr6 L4 hM7 hy7 V3 hB8 s68 s8 s7 s6 Ru
  dsimp only[bf]
  refine hR _ _ _ (bB fun R hR=>?_)
  refine⟨_,rfl,M,_,_,_,rfl,rfl,aU.of hM9,Ep,_,rfl,_,rfl,_,rfl,y0,dy0,Hd,B,esd,ms,T,x,Lw,n,rfl,hy9,RL x (List.mem_cons_self ..),hd,prd,Ew,hB9,mk9,gsT,by omega,h24,hc3,n1,n4,fun tf r2 cm2 aN k2 HA sA htf Ym hE hsv=>?_⟩
  obtain⟨rg,hno,rest,hrest⟩:=Oj Ew n4 Ym hE hsv DQ (lv9.mono sA)
  dsimp only[bf]
  refine hR _ _ _ (bB fun R hR=>?_)
  refine⟨_,rfl,_,rfl,_,rfl,_,rfl,_,rfl,tf,L,lt,wd,due,_,es,x,Lw,T,rfl,sA _ _ q9,tN.mono sA tp9,RL,sA _ _ Ud,aH (fun a b h=>bF.mono sA h) pr9,Ew,by omega,rg,fun HB sB=>?_⟩
  have Ue:=sA.trans sB
  refine⟨_,rfl,cz ⟨_,rfl,_,rfl,S4 (Ue _ _ hd) (Ue _ _ Ud) (aH (fun a b h=>bF.mono Ue h) prd) (aH (fun a b h=>bF.mono Ue h) pr9),_,rfl,cz ?_⟩⟩
  refine⟨_,rfl,_,rfl,_,rfl,M,_,rfl,aU.of (Ue _ _ hM9),fun B2 hB2=>?_⟩
  rw[Yl]
  have sC:=ao (o:=HO.lst ms) hB2
  refine⟨true,Lg (sC _ _ (Ue _ _ hB9)) aj mkr,_,rfl,cz ?_⟩
  generalize upd HB B2 (HO.lst ms)=HC at sC ⊢
  have sAC:=Ue.trans sC
  have hrC:=(sB.trans sC) _ _ hrest
  dsimp only[Ms]
  refine hR _ _ _ (bB fun R hR=>?_)
  refine iY (t:=Dn _ _ _) (fun σ' H'=>aD H9 H'∧σ'=[some (.ref a),some (.ref t),some (.ref L),some (.ref lt),some (.int n),some (.str wd),some due,some (.ref M),some (.ref B),some (.ref Hd),some (.ref tf)]) ?_ (fun go=>?_)
  rotate_left
  ·have hr0:Bk (V.str wd :: rest) ((0:Nat):Int)=some (.str wd):=iH rfl
   refine⟨_,rfl,tf,_,_,_,rfl,rfl,aY.of hrC,hr0,rfl,_,rfl,bu (fun (hw:bz wd ("none":Str)=true)=>?_) (fun _=>go _ _ ⟨sAC,rfl⟩)⟩
   have hw:=mD hw
   obtain⟨l,vs,h5,h6,h7⟩:=hno hw
   have hr1:Bk [V.str ("none":Str),.ref l] ((1:Nat):Int)=some (.ref l):=iH rfl
   have sBC:=sB.trans sC
   exact⟨_,rfl,tf,_,_,_,rfl,rfl,aY.of (sBC _ _ h5),hr1,.inl ⟨rfl,_,aU.of (sBC _ _ h6)⟩,l,vs,rfl,rfl,sBC _ _ h6,go _ _ ⟨aI h7 sAC,rfl⟩⟩
  rintro σ' HD ⟨sD,rfl⟩
  have hSD:=sD.seq hS9
  refine hR _ _ _ ?_
  refine⟨_,rfl,M,_,_,_,rfl,rfl,aU.of (sD _ _ hM9),Ep,_,rfl,_,rfl,_,rfl,y0,dy0,Hd,B,esd,ms,T,x,Lw,n,rfl,sD _ _ hy9,RL x (List.mem_cons_self ..),sD _ _ hd,aH (fun a b h=>bF.mono sD h) prd,Ew,sD _ _ hB9,Bh.mono sD mk9,gsT,by omega,h24,hc3,n1,n4,fun tf3 r3 cm3 ahh k3 HX sX ahq Yn hE3 aeA=>?_⟩
  have Yo:=sD.trans sX
  obtain⟨rg3,_⟩:=Oj Ew n4 Yn hE3 aeA DQ (lv9.mono Yo)
  exact⟨_,rfl,_,rfl,_,rfl,_,rfl,tf3,L,lt,wd,due,_,es,x,Lw,T,rfl,Yo _ _ q9,tN.mono Yo tp9,RL,Yo _ _ Ud,aH (fun a b h=>bF.mono Yo h) pr9,Ew,by omega,rg3,fun HB sB=>k _⟩
end
end
theorem all_mk {l:W.OpenLaw}{w:World}{K:W.Frag}{h:Heap}{mg:Str→Option Value}{fa jr gv fR dF gM lH eX iL jR jS iM lI gg kL Ey eB sE fH jt eG cM cC sF wU ju qi jT iN nB dG qj jU fS eH gO fJ jV wV sH Ez jv lJ jW nC lK nE nF nG nH nI jX lM lN jY qk jZ nJ lO j0 lP nK nM lQ OQ bM kR fK eN bP jw sI sM wW wX gk sN EA IL OR:Addr}{od0 an0 od1 an1 od2 an2 od3 an3 od4 an4 od5 an5 od6 an6 od7 an7 od8 an8 od9 an9 aeB Yp aeC Yq aeD Yr aeE Ys aeF Yt aeG Yu aeH Yv aeI Yw aeJ Yx aeK Yy aeL Yz aeM YA aeN YB aeO YC aeP YD aeQ YE aeR YF aeS YG aeT YH aeU YI aeV YJ aeW YK aeX YN aeY YO aeZ YQ ae0 YR ae1 YS ae2 Ug ae3 YT ae4 YU ae5 YV ae6 YW ae7 YX ae8 YY ae9 YZ afa Y0 afb Y3 afc Y4 afd Y5 afe Y6 afg Y7 afh Y8 afi Y9 afj Za afk Zb afl Zc afm Zd afn Ze afo Zf afp Zg afq Zh afr Zi afs Zj aft Uh:Option Addr}{sl0 sl1 sl2 sl3 sl4 sl5 sl6 sl7 sl8 sl9 afu afv afw afx afy afz afA afB afC afD afE afF afG afH afI afJ afK afL afM afN afO afP afQ afR afS afT afU afV afW afX afY afZ af0 af1 af2 af3 af4 af5 af6 af7 af8 af9 aga agb agc agd age agf agg agh agi agj agk agl:Array (Option Value)}{oc0 kV0 dc0 pm0 cd0 ct0 oc1 kV1 dc1 pm1 cd1 ct1 oc2 kV2 dc2 pm2 cd2 ct2 oc3 kV3 dc3 pm3 cd3 ct3 oc4 kV4 dc4 pm4 cd4 ct4 oc5 kV5 dc5 pm5 cd5 ct5 oc6 kV6 dc6 pm6 cd6 ct6 oc7 kV7 dc7 pm7 cd7 ct7 oc8 kV8 dc8 pm8 cd8 ct8 oc9 kV9 dc9 pm9 cd9 ct9 agm Zk Zl Zm Ui Zn agn Zo Zp Zq Uj Zr ago Zs Zt Zu Uk Zv agp Zw Zx Zy Ul Zz agq ZA ZC ZD Um ZE agr ZF ZG ZH Uo ZI ags ZJ ZK ZL Up ZN agt ZO ZQ ZR Uq ZS agu ZT ZU ZV Ur ZW agv ZX ZY ZZ Us Z0 agw Z1 Z2 Z3 Ut Z4 agx Z5 Z6 Z7 Uu Z8 agy Z9 aac aad Uv aae agz aaf aag aah Uw aai agA aaj aak aal Ux aam agB aan aao aap Uy aaq agC aar aas aat Uz aau agD aav aaw aax UA aay agE aaz aaA aaB UB aaC agF aaD aaE aaF UC aaG agG aaH aaI aaJ UD aaK agH aaL aaM aaN UE aaO agI aaP aaQ aaR UG aaS agJ aaT aaU aaV UH aaW agK aaX aaY aaZ UI aa0 agL aa1 aa2 aa3 UJ aa4 agM aa5 aa6 aa7 UK aa8 agN UL UM UN QM UO agO aa9 abb abd UP abe agP abf abg abh UQ abi agQ abj abk abl UR abm agR abn abo abp US abq agS abr abt abu UT abv agT abw abx aby UU abz agU abA abB abC UW abD agV abE abF abG UX abH agW abI abJ abK UY abL agX abM abN abO UZ abP agY abQ abR abS U0 abT agZ abU abV abW U1 abX ag0 abY abZ ab0 U3 ab1 ag1 ab2 ab3 ab4 U4 ab5 ag2 ab6 ab7 ab8 U5 ab9 ag3 acd ace acf U6 acg ag4 ach aci acj U7 ack ag5 acm acn aco U8 acp ag6 acq acr acs U9 acu ag7 acv acw acy Va acz ag8 acA acB acC Vb acD ag9 acE acF acG Vc acH aha acI acJ acK Vd acL ahb acM acN acO Ve acP ahc acQ acR acS Vf acT ahd Vg Vh Vi QN Vj:Value}{IM:Str}{cg lW:Addr} (X:K.In h) (G:h.Ns mainGlobals mg) (hfa:mg "law" = some (.ref fa))
  (IP:W.nsIn K mainGlobals "Dialect" = some (some (.ref bM)))
  (QO:W.nsIn K mainGlobals "Turn" = some (some (.ref kR)))
  (Lx:W.nsIn K mainGlobals "Marker" = some (some (.ref fK)))
  (Ly:W.nsIn K mainGlobals "Places" = some (some (.ref eN)))
  (kT:W.nsIn K mainGlobals "DialectError" = some (some (.ref bP)))
  (uQ:W.nsIn K mainGlobals "NoTable" = some (some (.ref sI)))
  (xR:W.nsIn K mainGlobals "NoMost" = some (some (.ref wW)))
  (uR:W.nsIn K mainGlobals "TooMany" = some (some (.ref gk)))
  (a0:W.nsIn K mainGlobals "is_printable" = RF jr)
  (l0:K.lookup jr=FO "is_printable" "is_printable" fh .none oc0 od0 kV0 dc0 pm0 an0 cd0 ct0 sl0) (c0:W.codeIn K cd0 "is_printable" = true) (k0:W.keepIn K (.ref jr)=true)
  (a1:W.nsIn K mainGlobals "has_signs_alone" = RF gv)
  (l1:K.lookup gv=FO "has_signs_alone" "has_signs_alone" cP .none oc1 od1 kV1 dc1 pm1 an1 cd1 ct1 sl1) (c1:W.codeIn K cd1 "has_signs_alone" = true) (k1:W.keepIn K (.ref gv)=true)
  (a2:W.nsIn K mainGlobals "are_unlike_signs" = RF fR)
  (l2:K.lookup fR=FO "are_unlike_signs" "are_unlike_signs" cG .none oc2 od2 kV2 dc2 pm2 an2 cd2 ct2 sl2) (c2:W.codeIn K cd2 "are_unlike_signs" = true) (k2:W.keepIn K (.ref fR)=true)
  (a3:W.findIn K (.ref bM) "__init__" = some (some (.ref dF))) (i3:W.isFn K (.ref dF)=true)
  (l3:K.lookup dF=FO "__init__" "Dialect.__init__" bI (.ref cg) oc3 od3 kV3 dc3 pm3 an3 cd3 ct3 sl3) (c3:W.codeIn K cd3 "Dialect.__init__" = true) (k3:W.keepIn K (.ref dF)=true)
  {acU:Option Addr}{ahe:Nat}{acV:Array (Option Value)}{acW acX:Tok} (d3:K.lookup cg=some ⟨.type "tuple",acU,.seq #[.str ("":Str) acW,.str ("":Str) acX,.bool false,.bool false,.bool false,.bool false] ahe,acV⟩)
  (a4:W.findIn K (.ref bM) "told" = some (some (.ref gM))) (i4:W.isFn K (.ref gM)=true)
  (l4:K.lookup gM=FO "told" "Dialect.told" gC .none oc4 od4 kV4 dc4 pm4 an4 cd4 ct4 sl4) (c4:W.codeIn K cd4 "Dialect.told" = true) (k4:W.keepIn K (.ref gM)=true)
  (a5:W.nsIn K mainGlobals "dialect_of" = RF lH)
  (l5:K.lookup lH=FO "dialect_of" "dialect_of" jc .none oc5 od5 kV5 dc5 pm5 an5 cd5 ct5 sl5) (c5:W.codeIn K cd5 "dialect_of" = true) (k5:W.keepIn K (.ref lH)=true)
  (a6:W.nsIn K mainGlobals "step_at_beginning" = RF eX)
  (l6:K.lookup eX=FO "step_at_beginning" "step_at_beginning" cV .none oc6 od6 kV6 dc6 pm6 an6 cd6 ct6 sl6) (c6:W.codeIn K cd6 "step_at_beginning" = true) (k6:W.keepIn K (.ref eX)=true)
  (a7:W.nsIn K mainGlobals "step_in_plain" = RF iL)
  (l7:K.lookup iL=FO "step_in_plain" "step_in_plain" fX .none oc7 od7 kV7 dc7 pm7 an7 cd7 ct7 sl7) (c7:W.codeIn K cd7 "step_in_plain" = true) (k7:W.keepIn K (.ref iL)=true)
  (a8:W.nsIn K mainGlobals "step_within" = RF jR)
  (l8:K.lookup jR=FO "step_within" "step_within" ic .none oc8 od8 kV8 dc8 pm8 an8 cd8 ct8 sl8) (c8:W.codeIn K cd8 "step_within" = true) (k8:W.keepIn K (.ref jR)=true)
  (a9:W.nsIn K mainGlobals "step_behind" = RF jS)
  (l9:K.lookup jS=FO "step_behind" "step_behind" ie .none oc9 od9 kV9 dc9 pm9 an9 cd9 ct9 sl9) (c9:W.codeIn K cd9 "step_behind" = true) (k9:W.keepIn K (.ref jS)=true)
  (a10:W.nsIn K mainGlobals "step_in_doubt" = RF iM)
  (l10:K.lookup iM=FO "step_in_doubt" "step_in_doubt" fY .none agm aeB Zk Zl Zm Yp Ui Zn afu) (c10:W.codeIn K Ui "step_in_doubt" = true) (k10:W.keepIn K (.ref iM)=true)
  (XE:W.nsIn K mainGlobals "step_freed" = RF lI)
  (l11:K.lookup lI=FO "step_freed" "step_freed" jd .none agn aeC Zo Zp Zq Yq Uj Zr afv) (Tg:W.codeIn K Uj "step_freed" = true) (k11:W.keepIn K (.ref lI)=true)
  (a12:W.findIn K (.ref kR) "__init__" = some (some (.ref gg))) (i12:W.isFn K (.ref gg)=true)
  (l12:K.lookup gg=FO "__init__" "Turn.__init__" fZ .none ago aeD Zs Zt Zu Yr Uk Zv afw) (c12:W.codeIn K Uk "Turn.__init__" = true) (k12:W.keepIn K (.ref gg)=true)
  (a13:W.findIn K (.ref kR) "step" = some (some (.ref kL))) (i13:W.isFn K (.ref kL)=true)
  (l13:K.lookup kL=FO "step" "Turn.step" j9 .none agp aeE Zw Zx Zy Ys Ul Zz afx) (c13:W.codeIn K Ul "Turn.step" = true) (k13:W.keepIn K (.ref kL)=true)
  (Qu:W.nsIn K mainGlobals "once" = RF Ey)
  (l14:K.lookup Ey=FO "once" "once" Ae .none agq aeF ZA ZC ZD Yt Um ZE afy) (c14:W.codeIn K Um "once" = true) (k14:W.keepIn K (.ref Ey)=true)
  (a15:W.findIn K (.ref bM) "special" = some (some (.ref eB))) (i15:W.isFn K (.ref eB)=true)
  (l15:K.lookup eB=FO "special" "Dialect.special" dZ .none agr aeG ZF ZG ZH Yu Uo ZI afz) (c15:W.codeIn K Uo "Dialect.special" = true) (k15:W.keepIn K (.ref eB)=true)
  (a16:W.nsIn K mainGlobals "is_live" = RF sE)
  (l16:K.lookup sE=FO "is_live" "is_live" oi .none ags aeH ZJ ZK ZL Yv Up ZN afA) (c16:W.codeIn K Up "is_live" = true) (k16:W.keepIn K (.ref sE)=true)
  (a17:W.findIn K (.ref kR) "live_step" = some (some (.ref fH))) (i17:W.isFn K (.ref fH)=true)
  (l17:K.lookup fH=FO "live_step" "Turn.live_step" fj .none agt aeI ZO ZQ ZR Yw Uq ZS afB) (c17:W.codeIn K Uq "Turn.live_step" = true) (k17:W.keepIn K (.ref fH)=true)
  (XX:W.nsIn K mainGlobals "count_behind" = RF jt)
  (l18:K.lookup jt=FO "count_behind" "count_behind" gD .none agu aeJ ZT ZU ZV Yx Ur ZW afC) (Qy:W.codeIn K Ur "count_behind" = true) (k18:W.keepIn K (.ref jt)=true)
  (a19:W.findIn K (.ref fK) "__init__" = some (some (.ref eG))) (i19:W.isFn K (.ref eG)=true)
  (l19:K.lookup eG=FO "__init__" "Marker.__init__" d7 .none agv aeK ZX ZY ZZ Yy Us Z0 afD) (c19:W.codeIn K Us "Marker.__init__" = true) (k19:W.keepIn K (.ref eG)=true)
  (a20:W.findIn K (.ref fK) "mark_behind" = some (some (.ref cM))) (i20:W.isFn K (.ref cM)=true)
  (l20:K.lookup cM=FO "mark_behind" "Marker.mark_behind" cL .none agw aeL Z1 Z2 Z3 Yz Ut Z4 afE) (c20:W.codeIn K Ut "Marker.mark_behind" = true) (k20:W.keepIn K (.ref cM)=true)
  (QA:W.findIn K (.ref fK) "has_read_all" = some (some (.ref cC))) (i21:W.isFn K (.ref cC)=true)
  (l21:K.lookup cC=FO "has_read_all" "Marker.has_read_all" cA .none agx aeM Z5 Z6 Z7 YA Uu Z8 afF) (c21:W.codeIn K Uu "Marker.has_read_all" = true) (k21:W.keepIn K (.ref cC)=true)
  (a22:W.nsIn K mainGlobals "is_cell" = RF sF)
  (l22:K.lookup sF=FO "is_cell" "is_cell" oj .none agy aeN Z9 aac aad YB Uv aae afG) (c22:W.codeIn K Uv "is_cell" = true) (k22:W.keepIn K (.ref sF)=true)
  (a23:W.nsIn K mainGlobals "is_row" = RF wU)
  (l23:K.lookup wU=FO "is_row" "is_row" om .none agz aeO aaf aag aah YC Uw aai afH) (c23:W.codeIn K Uw "is_row" = true) (k23:W.keepIn K (.ref wU)=true)
  (QE:W.nsIn K mainGlobals "signs_in_row" = RF ju)
  (l24:K.lookup ju=FO "signs_in_row" "signs_in_row" fk .none agA aeP aaj aak aal YD Ux aam afI) (c24:W.codeIn K Ux "signs_in_row" = true) (k24:W.keepIn K (.ref ju)=true)
  (a25:W.nsIn K mainGlobals "is_table" = RF qi)
  (l25:K.lookup qi=FO "is_table" "is_table" iP .none agB aeQ aan aao aap YE Uy aaq afJ) (c25:W.codeIn K Uy "is_table" = true) (k25:W.keepIn K (.ref qi)=true)
  (a26:W.nsIn K mainGlobals "check_table" = RF jT)
  (l26:K.lookup jT=FO "check_table" "check_table" ig .none agC aeR aar aas aat YF Uz aau afK) (c26:W.codeIn K Uz "check_table" = true) (k26:W.keepIn K (.ref jT)=true)
  (a27:W.nsIn K mainGlobals "tokens_of_row" = RF iN)
  (l27:K.lookup iN=FO "tokens_of_row" "tokens_of_row" dR .none agD aeS aav aaw aax YG UA aay afL) (c27:W.codeIn K UA "tokens_of_row" = true) (k27:W.keepIn K (.ref iN)=true)
  (XY:W.nsIn K mainGlobals "tokens_of" = RF nB)
  (l28:K.lookup nB=FO "tokens_of" "tokens_of" kc .none agE aeT aaz aaA aaB YH UB aaC afM) (Xp:W.codeIn K UB "tokens_of" = true) (k28:W.keepIn K (.ref nB)=true)
  (l29:K.lookup dG=FO "__init__" "TooMany.__init__" fN .none agF aeU aaD aaE aaF YI UC aaG afN) (c29:W.codeIn K UC "TooMany.__init__" = true) (k29:W.keepIn K (.ref dG)=true)
  (a30:W.nsIn K mainGlobals "is_whole" = RF qj)
  (l30:K.lookup qj=FO "is_whole" "is_whole" mj .none agG aeV aaH aaI aaJ YJ UD aaK afO) (c30:W.codeIn K UD "is_whole" = true) (k30:W.keepIn K (.ref qj)=true)
  (Xr:W.nsIn K mainGlobals "first_place" = RF jU)
  (l31:K.lookup jU=FO "first_place" "first_place" gh .none agH aeW aaL aaM aaN YK UE aaO afP) (c31:W.codeIn K UE "first_place" = true) (k31:W.keepIn K (.ref jU)=true)
  (a32:W.nsIn K mainGlobals "signs_that_count" = RF fS)
  (l32:K.lookup fS=FO "signs_that_count" "signs_that_count" bV .none agI aeX aaP aaQ aaR YN UG aaS afQ) (XZ:W.codeIn K UG "signs_that_count" = true) (k32:W.keepIn K (.ref fS)=true)
  (a33:W.findIn K (.ref eN) "__init__" = some (some (.ref eH))) (i33:W.isFn K (.ref eH)=true)
  (l33:K.lookup eH=FO "__init__" "Places.__init__" cQ .none agJ aeY aaT aaU aaV YO UH aaW afR) (c33:W.codeIn K UH "Places.__init__" = true) (k33:W.keepIn K (.ref eH)=true)
  (a34:W.findIn K (.ref eN) "leads" = some (some (.ref gO))) (i34:W.isFn K (.ref gO)=true)
  (l34:K.lookup gO=FO "leads" "Places.leads" fm .none agK aeZ aaX aaY aaZ YQ UI aa0 afS) (c34:W.codeIn K UI "Places.leads" = true) (k34:W.keepIn K (.ref gO)=true)
  (X3:W.findIn K (.ref eN) "is_good" = some (some (.ref fJ))) (i35:W.isFn K (.ref fJ)=true)
  (l35:K.lookup fJ=FO "is_good" "Places.is_good" di .none agL ae0 aa1 aa2 aa3 YR UJ aa4 afT) (c35:W.codeIn K UJ "Places.is_good" = true) (k35:W.keepIn K (.ref fJ)=true)
  (a36:W.nsIn K mainGlobals "check_asked" = RF jV)
  (l36:K.lookup jV=FO "check_asked" "check_asked" iw .none agM ae1 aa5 aa6 aa7 YS UK aa8 afU) (c36:W.codeIn K UK "check_asked" = true) (k36:W.keepIn K (.ref jV)=true)
  (a37:W.nsIn K mainGlobals "search" = RF wV)
  (l37:K.lookup wV=FO "search" "search" kg (.ref lW) agN ae2 UL UM UN Ug QM UO afV) (c37:W.codeIn K QM "search" = true) (k37:W.keepIn K (.ref wV)=true)
  {Vk:Option Addr}{acY:Nat}{Vl:Array (Option Value)} (d37:K.lookup lW=some ⟨.type "tuple",Vk,.seq #[.none] acY,Vl⟩)
  (a38:W.nsIn K mainGlobals "text_to" = RF sH)
  (l38:K.lookup sH=FO "text_to" "text_to" oq .none agO ae3 aa9 abb abd YT UP abe afW) (c38:W.codeIn K UP "text_to" = true) (k38:W.keepIn K (.ref sH)=true)
  (a39:W.nsIn K mainGlobals "sole" = RF Ez)
  (l39:K.lookup Ez=FO "sole" "sole" Af .none agP ae4 abf abg abh YU UQ abi afX) (c39:W.codeIn K UQ "sole" = true) (k39:W.keepIn K (.ref Ez)=true)
  (a40:W.nsIn K mainGlobals "_law_cell_at" = RF jv)
  (l40:K.lookup jv=FO "_law_cell_at" "_law_cell_at" gE .none agQ ae5 abj abk abl YV UR abm afY) (c40:W.codeIn K UR "_law_cell_at" = true) (k40:W.keepIn K (.ref jv)=true)
  (a41:W.nsIn K mainGlobals "_law_mixed" = RF lJ)
  (l41:K.lookup lJ=FO "_law_mixed" "_law_mixed" je .none agR ae6 abn abo abp YW US abq afZ) (c41:W.codeIn K US "_law_mixed" = true) (k41:W.keepIn K (.ref lJ)=true)
  (a42:W.nsIn K mainGlobals "_law_number" = RF jW)
  (l42:K.lookup jW=FO "_law_number" "_law_number" iy .none agS ae7 abr abt abu YX UT abv af0) (c42:W.codeIn K UT "_law_number" = true) (k42:W.keepIn K (.ref jW)=true)
  (a43:W.nsIn K mainGlobals "_law_some" = RF nC)
  (l43:K.lookup nC=FO "_law_some" "_law_some" kh .none agT ae8 abw abx aby YY UU abz af1) (c43:W.codeIn K UU "_law_some" = true) (k43:W.keepIn K (.ref nC)=true)
  (a44:W.nsIn K mainGlobals "_law_menus" = RF lK)
  (l44:K.lookup lK=FO "_law_menus" "_law_menus" jf .none agU ae9 abA abB abC YZ UW abD af2) (c44:W.codeIn K UW "_law_menus" = true) (k44:W.keepIn K (.ref lK)=true)
  (a45:W.nsIn K mainGlobals "_law_told" = RF nE)
  (l45:K.lookup nE=FO "_law_told" "_law_told" ki .none agV afa abE abF abG Y0 UX abH af3) (c45:W.codeIn K UX "_law_told" = true) (k45:W.keepIn K (.ref nE)=true)
  (a46:W.nsIn K mainGlobals "_law_made" = RF nF)
  (l46:K.lookup nF=FO "_law_made" "_law_made" kj .none agW afb abI abJ abK Y3 UY abL af4) (c46:W.codeIn K UY "_law_made" = true) (k46:W.keepIn K (.ref nF)=true)
  (a47:W.nsIn K mainGlobals "_law_open" = RF nG)
  (l47:K.lookup nG=FO "_law_open" "_law_open" ko .none agX afc abM abN abO Y4 UZ abP af5) (c47:W.codeIn K UZ "_law_open" = true) (k47:W.keepIn K (.ref nG)=true)
  (a48:W.nsIn K mainGlobals "_law_step" = RF nH)
  (l48:K.lookup nH=FO "_law_step" "_law_step" kr .none agY afd abQ abR abS Y5 U0 abT af6) (c48:W.codeIn K U0 "_law_step" = true) (k48:W.keepIn K (.ref nH)=true)
  (Xw:W.nsIn K mainGlobals "_law_near" = RF nI)
  (l49:K.lookup nI=FO "_law_near" "_law_near" ku .none agZ afe abU abV abW Y6 U1 abX af7) (c49:W.codeIn K U1 "_law_near" = true) (k49:W.keepIn K (.ref nI)=true)
  (a50:W.nsIn K mainGlobals "_law_others" = RF jX)
  (l50:K.lookup jX=FO "_law_others" "_law_others" iz .none ag0 afg abY abZ ab0 Y7 U3 ab1 af8) (c50:W.codeIn K U3 "_law_others" = true) (k50:W.keepIn K (.ref jX)=true)
  (a51:W.nsIn K mainGlobals "_law_signs" = RF lM)
  (l51:K.lookup lM=FO "_law_signs" "_law_signs" fO .none ag1 afh ab2 ab3 ab4 Y8 U4 ab5 af9) (c51:W.codeIn K U4 "_law_signs" = true) (k51:W.keepIn K (.ref lM)=true)
  (a52:W.nsIn K mainGlobals "_law_table" = RF lN)
  (l52:K.lookup lN=FO "_law_table" "_law_table" jg .none ag2 afi ab6 ab7 ab8 Y9 U5 ab9 aga) (c52:W.codeIn K U5 "_law_table" = true) (k52:W.keepIn K (.ref lN)=true)
  (a53:W.nsIn K mainGlobals "_law_tokens" = RF jY)
  (l53:K.lookup jY=FO "_law_tokens" "_law_tokens" iA .none ag3 afj acd ace acf Za U6 acg agb) (c53:W.codeIn K U6 "_law_tokens" = true) (k53:W.keepIn K (.ref jY)=true)
  (a54:W.nsIn K mainGlobals "_law_led" = RF qk)
  (l54:K.lookup qk=FO "_law_led" "_law_led" mq .none ag4 afk ach aci acj Zb U7 ack agc) (c54:W.codeIn K U7 "_law_led" = true) (k54:W.keepIn K (.ref qk)=true)
  (a55:W.nsIn K mainGlobals "_law_behind" = RF jZ)
  (l55:K.lookup jZ=FO "_law_behind" "_law_behind" iB .none ag5 afl acm acn aco Zc U8 acp agd) (c55:W.codeIn K U8 "_law_behind" = true) (k55:W.keepIn K (.ref jZ)=true)
  (a56:W.nsIn K mainGlobals "_law_good" = RF nJ)
  (l56:K.lookup nJ=FO "_law_good" "_law_good" kB .none ag6 afm acq acr acs Zd U9 acu age) (c56:W.codeIn K U9 "_law_good" = true) (k56:W.keepIn K (.ref nJ)=true)
  (a57:W.nsIn K mainGlobals "_law_start" = RF lO)
  (l57:K.lookup lO=FO "_law_start" "_law_start" gP .none ag7 afn acv acw acy Ze Va acz agf) (c57:W.codeIn K Va "_law_start" = true) (k57:W.keepIn K (.ref lO)=true)
  (a58:W.nsIn K mainGlobals "_law_levels" = RF j0)
  (l58:K.lookup j0=FO "_law_levels" "_law_levels" gi .none ag8 afo acA acB acC Zf Vb acD agg) (c58:W.codeIn K Vb "_law_levels" = true) (k58:W.keepIn K (.ref j0)=true)
  (a59:W.nsIn K mainGlobals "_law_reads" = RF lP)
  (l59:K.lookup lP=FO "_law_reads" "_law_reads" jh .none ag9 afp acE acF acG Zg Vc acH agh) (c59:W.codeIn K Vc "_law_reads" = true) (k59:W.keepIn K (.ref lP)=true)
  (X4:W.nsIn K mainGlobals "_law_sole" = RF nK)
  (l60:K.lookup nK=FO "_law_sole" "_law_sole" kC .none aha afq acI acJ acK Zh Vd acL agi) (c60:W.codeIn K Vd "_law_sole" = true) (k60:W.keepIn K (.ref nK)=true)
  (a61:W.nsIn K mainGlobals "_law_copy" = RF nM)
  (l61:K.lookup nM=FO "_law_copy" "_law_copy" iW .none ahb afr acM acN acO Zi Ve acP agj) (c61:W.codeIn K Ve "_law_copy" = true) (k61:W.keepIn K (.ref nM)=true)
  (a62:W.nsIn K mainGlobals "_law_right" = RF lQ)
  (l62:K.lookup lQ=FO "_law_right" "_law_right" gQ .none ahc afs acQ acR acS Zj Vf acT agk) (c62:W.codeIn K Vf "_law_right" = true) (k62:W.keepIn K (.ref lQ)=true)
  (a63:W.nsIn K mainGlobals "law" = RF OQ)
  (l63:K.lookup OQ=FO "law" "law" vm .none ahd aft Vg Vh Vi Uh QN Vj agl) (c63:W.codeIn K QN "law" = true) (k63:W.keepIn K (.ref OQ)=true)
  (IQ:W.plainGet K bM Str.empty=true) (IS:W.hasDictIn K bM=true) (IT:W.plainOver K bM=true) (IU:W.findIn K (.ref bM) "__setattr__" = some (some (.builtin "object.__setattr__"))) (IV:W.makesIn K bM=true) (IW:W.keepIn K (.ref bM)=true)
  (cj:W.findIn K (.ref bM) "parts" = some none)
  (cH:W.findIn K (.ref bM) "quotes" = some none)
  (bS:W.findIn K (.ref bM) "frees" = some none)
  (gK:W.findIn K (.ref bM) "twin" = some none)
  (fB:W.findIn K (.ref bM) "wide" = some none)
  (fE:W.findIn K (.ref bM) "thin" = some none)
  (f9:W.findIn K (.ref bM) "stray" = some none)
  (QS:W.plainGet K kR Str.empty=true) (QT:W.hasDictIn K kR=true) (QU:W.plainOver K kR=true) (QV:W.findIn K (.ref kR) "__setattr__" = some (some (.builtin "object.__setattr__"))) (QW:W.makesIn K kR=true) (QX:W.keepIn K (.ref kR)=true)
  (bO:W.findIn K (.ref kR) "dialect" = some none)
  (Lz:W.plainGet K fK Str.empty=true) (LA:W.hasDictIn K fK=true) (LB:W.plainOver K fK=true) (LC:W.findIn K (.ref fK) "__setattr__" = some (some (.builtin "object.__setattr__"))) (LD:W.makesIn K fK=true) (LF:W.keepIn K (.ref fK)=true)
  (jQ:W.findIn K (.ref fK) "turn" = some none)
  (gb:W.findIn K (.ref fK) "tokens" = some none)
  (LG:W.plainGet K eN Str.empty=true) (LH:W.hasDictIn K eN=true) (LI:W.plainOver K eN=true) (LJ:W.findIn K (.ref eN) "__setattr__" = some (some (.builtin "object.__setattr__"))) (LK:W.makesIn K eN=true) (LL:W.keepIn K (.ref eN)=true)
  (gc:W.findIn K (.ref eN) "marker" = some none)
  (fF:W.findIn K (.ref eN) "markers" = some none)
  (jm:W.findIn K (.ref eN) "signs" = some none)
  {zf zg:Str}{zh xS:List Value}{xT zj:Bool}{zk:List Str}{xU:Option Bool}{zl xV:Option Addr}{zm zo zp zq zu:Option Value}{xW:Value}{oX:Array DictEntry}{zv:Nat}{xX:Array (Option Value)}
  (kU:K.lookup bP=some (excClassObj zf zg bP jw zh Fg xT zk xS zj xU zl zm zo zp zq zu "ValueError.__new__"))
  (kW:K.lookup jw=some ⟨xW,xV,.dict oX zv,xX⟩) (wY:(oX.toList.all fun e=>match e.key with | .str _ _=>true | _=>false)=true) (kX:W.nsIn K jw "__init__" = some none)
  (zw:W.specialIn K (.ref bP) "__getattribute__" = some (some (.builtin "type.__getattribute__"))) (zx:W.readsIn K bP (.type "type")=true) (zy:W.findCls K (.ref bP) (.type "type") "__init__" = some (.val (.builtin "ValueError.__init__")))
  {IX IY:Str}{IZ GD:List Value}{GF Ja:Bool}{Jb:List Str}{GG:Option Bool}{Jc GH:Option Addr}{Jd Je Jf Jg Jh:Option Value}{GI:Value}{yz:Array DictEntry}{Ji:Nat}{GJ:Array (Option Value)}
  (uS:K.lookup sI=some (excClassObj IX IY sI sM IZ (.ref bP :: Fg) GF Jb GD Ja GG Jc Jd Je Jf Jg Jh "ValueError.__new__"))
  (uT:K.lookup sM=some ⟨GI,GH,.dict yz Ji,GJ⟩) (EB:(yz.toList.all fun e=>match e.key with | .str _ _=>true | _=>false)=true) (uU:W.nsIn K sM "__init__" = some none)
  {LM LN:Str}{LO Jj:List Value}{Jk LP:Bool}{LQ:List Str}{Jl:Option Bool}{LR Jm:Option Addr}{LS LU LV LW LX:Option Value}{Jo:Value}{Bc:Array DictEntry}{LY:Nat}{Jp:Array (Option Value)}
  (xY:K.lookup wW=some (excClassObj LM LN wW wX LO (.ref bP :: Fg) Jk LQ Jj LP Jl LR LS LU LV LW LX "ValueError.__new__"))
  (xZ:K.lookup wX=some ⟨Jo,Jm,.dict Bc LY,Jp⟩) (GK:(Bc.toList.all fun e=>match e.key with | .str _ _=>true | _=>false)=true) (ya:W.nsIn K wX "__init__" = some none)
  {Jq Jr:Str}{Js GL:List Value}{GN Jt:Bool}{Ju:List Str}{GO:Option Bool}{Jv GP:Option Addr}{Jw Jx Jy Jz JA:Option Value}{GQ:Value}{yC:Array DictEntry}{JB:Nat}{GR:Array (Option Value)}
  (uV:K.lookup gk=some (excClassObj Jq Jr gk sN Js (.ref bP :: Fg) GN Ju GL Jt GO Jv Jw Jx Jy Jz JA "ValueError.__new__"))
  (uW:K.lookup sN=some ⟨GQ,GP,.dict yC JB,GR⟩) (EC:(yC.toList.all fun e=>match e.key with | .str _ _=>true | _=>false)=true) (uX:W.nsIn K sN "__init__" = some (some (.ref dG)))
  {GS:Option Addr}{GU:Data}{GV:Array (Option Value)} (JC:W.keepIn K (.ref gk)=true) (JD:K.lookup dG=some ⟨.type "function",GS,GU,GV⟩) (GW:W.findIn K (.ref gk) "__setattr__" = some (some (.builtin "object.__setattr__"))) (GX:W.findIn K (.ref gk) "__getattribute__" = some (some (.builtin "BaseException.__getattribute__"))) (GY:W.findIn K (.ref gk) "__getattr__" = some none) (GZ:W.hasDictIn K gk=true)
  (zB:W.findIn K (.ref gk) "most" = some none)
  (acZ:W.nsIn K mainGlobals "all" = some none)
  (ac0:W.nsIn K mainGlobals "any" = some none)
  (Vm:W.nsIn K mainGlobals "bool" = some none)
  (G0:W.nsIn K mainGlobals "enumerate" = some none)
  (ac1:W.nsIn K mainGlobals "int" = some none)
  (ED:W.nsIn K mainGlobals "isinstance" = some none)
  (ac2:W.nsIn K mainGlobals "len" = some none)
  (Vn:W.nsIn K mainGlobals "list" = some none)
  (z_ord:W.nsIn K mainGlobals "ord" = some none)
  (QY:W.nsIn K mainGlobals "range" = some none)
  (JE:W.nsIn K mainGlobals "reversed" = some none)
  (ac3:W.nsIn K mainGlobals "str" = some none)
  (ac4:W.nsIn K mainGlobals "sum" = some none)
  (QZ:W.nsIn K mainGlobals "tuple" = some none)
  (ac5:W.nsIn K mainGlobals "zip" = some none)
  {Q0:Tok} (Vo:W.nsIn K mainGlobals "LINE" = some (some (.str IM Q0))) (Vp:IM=Str.ofString "\n")
  {EE:Tok} (G3:W.nsIn K mainGlobals "MOST_ROWS" = some (some (.int 60 EE)))
  {B8:Tok} (EF:W.nsIn K mainGlobals "MOST_CELLS" = some (some (.int 20 B8)))
  {ql:Tok} (qF:W.nsIn K mainGlobals "MOST_SIGNS_IN_CELLS" = some (some (.int 400 ql)))
  {Bd:Tok} (B9:W.nsIn K mainGlobals "MOST_TOKENS" = some (some (.int 24 Bd)))
  {Be:Tok} (Ca:W.nsIn K mainGlobals "MOST_OTHERS" = some (some (.int 3 Be)))
  {Bf:Tok} (Cb:W.nsIn K mainGlobals "MOST_PLACES" = some (some (.int 4000 Bf)))
  (Q2:W.nsIn K mainGlobals "START" = some (some (.ref EA)))
  {OS:Option Addr}{Q3:Nat}{OT:Array (Option Value)}{OU OV:Tok} (Q4:K.lookup EA=some ⟨.type "tuple",OS,.seq #[.str ("row":Str) OU,.str ("":Str) OV] Q3,OT⟩)
  (Vq:W.nsIn K mainGlobals "PART" = some (some (.ref IL)))
  {Q5:Option Addr}{Vr:Nat}{Q6:Array (Option Value)}{Q7 Q8:Tok} (Vs:K.lookup IL=some ⟨.type "tuple",Q5,.seq #[.str ("part":Str) Q7,.str ("":Str) Q8] Vr,Q6⟩)
  (ac6:W.nsIn K mainGlobals "END" = some (some (.ref OR)))
  {Vt:Option Addr}{ac7:Nat}{Vu:Array (Option Value)}{Vv Vw:Tok} (ac8:K.lookup OR=some ⟨.type "tuple",Vt,.seq #[.str ("end":Str) Vv,.str ("":Str) Vw] ac7,Vu⟩) :
  ∃ fd:FuncData,(∀(s:Shared) (v:Value),BindsTo s fd ⟨[v],[]⟩ [("_law_script",v)])∧∀ base:Heap,K.In base→base.Ns mainGlobals mg→aJ l.prog w K mg base bG 13 fa fd ["_law_script"] (Et K):=by
 have e:=hfa.symm.trans (W.mg_of X G a63)
 cases e
 have mo:∀{n:Str}{v:Value},W.nsIn K mainGlobals n=some (some v)→mg n=some v:=fun e=>W.mg_of X G e
 have mz:∀{n:Str},W.nsIn K mainGlobals n=some none→mg n=none:=fun e=>W.mg_none_of X G e
 have F0:=aR (st:=fh) l0 c0 k0
 have b0:=F0.nO (ps:=["sign"])
 have F1:=aR (st:=cP) l1 c1 k1
 have b1:=F1.nO (ps:=["text"])
 have F2:=aR (st:=cG) l2 c2 k2
 have b2:=F2.qB (ps:=["thing", "least", "most"])
 have F3:=JW (st:=bI) l3 c3 k3
 have b3:Binds K (W.fnOf "__init__" "Dialect.__init__" (dY bI) (cY bI) (av bI) (.ref cg) kV3 dc3 pm3 an3 cd3 ct3) ["self", "parts", "quotes", "frees", "twin", "wide", "thin", "stray"] []:=fun s us hK hl=>match us,hl with | [_,_,_,_,_,_,_,_],_=>BindsTo.of_defaults (T:=cg) rfl (hK _ _ d3) rfl rfl rfl
 have F4:=aR (st:=gC) l4 c4 k4
 have b4:=F4.nO (ps:=["self"])
 have F5:=aR (st:=jc) l5 c5 k5
 have b5:=F5.nO (ps:=["told"])
 have F6:=aR (st:=cV) l6 c6 k6
 have b6:=F6.qB (ps:=["dialect", "state", "sign"])
 have F7:=aR (st:=fX) l7 c7 k7
 have b7:=F7.sP (ps:=["dialect", "sign"])
 have F8:=aR (st:=ic) l8 c8 k8
 have b8:=F8.qB (ps:=["dialect", "quote", "sign"])
 have F9:=aR (st:=ie) l9 c9 k9
 have b9:=F9.sP (ps:=["dialect", "sign"])
 have F10:=aR (st:=fY) l10 c10 k10
 have b10:=F10.qB (ps:=["dialect", "quote", "sign"])
 have F11:=aR (st:=jd) l11 Tg k11
 have Th:=F11.qB (ps:=["dialect", "quote", "sign"])
 have F12:=aR (st:=fZ) l12 c12 k12
 have b12:=F12.sP (ps:=["self", "dialect"])
 have F13:=aR (st:=j9) l13 c13 k13
 have b13:=F13.qB (ps:=["self", "state", "sign"])
 have F14:=aR (st:=Ae) l14 c14 k14
 have b14:=F14.nO (ps:=["text"])
 have F15:=aR (st:=dZ) l15 c15 k15
 have b15:=F15.nO (ps:=["self"])
 have F16:=aR (st:=oi) l16 c16 k16
 have b16:=F16.sP (ps:=["dialect", "state"])
 have F17:=aR (st:=fj) l17 c17 k17
 have b17:=F17.qB (ps:=["self", "state", "sign"])
 have F18:=aR (st:=gD) l18 Qy k18
 have Qz:=F18.K3 (ps:=["tokens", "count", "kind", "sign"])
 have F19:=aR (st:=d7) l19 c19 k19
 have b19:=F19.qB (ps:=["self", "dialect", "tokens"])
 have F20:=aR (st:=cL) l20 c20 k20
 have b20:=F20.qB (ps:=["self", "mark", "sign"])
 have F21:=aR (st:=cA) l21 c21 k21
 have b21:=F21.sP (ps:=["self", "mark"])
 have F22:=aR (st:=oj) l22 c22 k22
 have b22:=F22.nO (ps:=["thing"])
 have F23:=aR (st:=om) l23 c23 k23
 have b23:=F23.nO (ps:=["thing"])
 have F24:=aR (st:=fk) l24 c24 k24
 have b24:=F24.nO (ps:=["row"])
 have F25:=aR (st:=iP) l25 c25 k25
 have b25:=F25.nO (ps:=["thing"])
 have F26:=aR (st:=ig) l26 c26 k26
 have b26:=F26.nO (ps:=["thing"])
 have F27:=aR (st:=dR) l27 c27 k27
 have b27:=F27.nO (ps:=["row"])
 have F28:=aR (st:=kc) l28 Xp k28
 have Xq:=F28.nO (ps:=["table"])
 have F29:=aR (st:=fN) l29 c29 k29
 have b29:=F29.sP (ps:=["self", "most"])
 have F30:=aR (st:=mj) l30 c30 k30
 have b30:=F30.qB (ps:=["thing", "least", "most"])
 have F31:=aR (st:=gh) l31 c31 k31
 have b31:=F31.nO (ps:=["others"])
 have F32:=aR (st:=bV) l32 XZ k32
 have X0:=F32.qB (ps:=["dialect", "table", "others"])
 have F33:=aR (st:=cQ) l33 c33 k33
 have b33:=F33.K3 (ps:=["self", "dialect", "table", "others"])
 have F34:=aR (st:=fm) l34 c34 k34
 have b34:=F34.sP (ps:=["self", "place"])
 have F35:=aR (st:=di) l35 c35 k35
 have b35:=F35.sP (ps:=["self", "place"])
 have F36:=aR (st:=iw) l36 c36 k36
 have b36:=F36.qB (ps:=["table", "others", "most"])
 have F37:=JW (st:=kg) l37 c37 k37
 have b37:Binds K (W.fnOf "search" "search" (dY kg) (cY kg) (av kg) (.ref lW) UL UM UN Ug QM UO) ["first", "searched", "most"] []:=fun s us hK hl=>match us,hl with | [_,_,_],_=>BindsTo.of_defaults (T:=lW) rfl (hK _ _ d37) rfl rfl rfl
 have F38:=aR (st:=oq) l38 c38 k38
 have b38:=F38.sP (ps:=["came", "place"])
 have F39:=aR (st:=Af) l39 c39 k39
 have b39:=F39.K3 (ps:=["dialect", "table", "others", "most"])
 have F40:=aR (st:=gE) l40 c40 k40
 have b40:=F40.sP (ps:=["_law_script", "_law_k"])
 have F41:=aR (st:=je) l41 c41 k41
 have b41:=F41.sP (ps:=["_law_number_here", "_law_salt"])
 have F42:=aR (st:=iy) l42 c42 k42
 have b42:=F42.sP (ps:=["_law_cell", "_law_salt"])
 have F43:=aR (st:=kh) l43 c43 k43
 have b43:=F43.qB (ps:=["_law_number_here", "_law_many", "_law_menu"])
 have F44:=aR (st:=jf) l44 c44 k44
 have b44:=F44.nO (ps:=["_law_way"])
 have F45:=aR (st:=ki) l45 c45 k45
 have b45:=F45.nO (ps:=["_law_cell"])
 have F46:=aR (st:=kj) l46 c46 k46
 have b46:=F46.nO (ps:=["_law_told_here"])
 have F47:=aR (st:=ko) l47 c47 k47
 have b47:=F47.qB (ps:=["_law_told_here", "_law_state", "_law_sign"])
 have F48:=aR (st:=kr) l48 c48 k48
 have b48:=F48.qB (ps:=["_law_told_here", "_law_state", "_law_sign"])
 have F49:=aR (st:=ku) l49 c49 k49
 have b49:=F49.sP (ps:=["_law_told_here", "_law_number_here"])
 have F50:=aR (st:=iz) l50 c50 k50
 have b50:=F50.K3 (ps:=["_law_script", "_law_told_here", "_law_first", "_law_many"])
 have F51:=aR (st:=fO) l51 c51 k51
 have b51:=F51.sP (ps:=["_law_tolds", "_law_table_here"])
 have F52:=aR (st:=jg) l52 c52 k52
 have b52:=F52.sP (ps:=["_law_cell", "_law_tolds"])
 have F53:=aR (st:=iA) l53 c53 k53
 have b53:=F53.nO (ps:=["_law_table_here"])
 have F54:=aR (st:=mq) l54 c54 k54
 have b54:=F54.K3 (ps:=["_law_told_here", "_law_tokens_here", "_law_mark", "_law_sign"])
 have F55:=aR (st:=iB) l55 c55 k55
 have b55:=F55.K3 (ps:=["_law_tolds", "_law_tokens_here", "_law_place", "_law_sign"])
 have F56:=aR (st:=kB) l56 c56 k56
 have b56:=F56.sP (ps:=["_law_tokens_here", "_law_place"])
 have F57:=aR (st:=gP) l57 c57 k57
 have b57:=F57.nO (ps:=["_law_tolds"])
 have F58:=aR (st:=gi) l58 c58 k58
 have b58:=F58.qB (ps:=["_law_tolds", "_law_table_here", "_law_most"])
 have F59:=aR (st:=jh) l59 c59 k59
 have b59:=F59.qB (ps:=["_law_told_here", "_law_text", "_law_table_here"])
 have F60:=aR (st:=kC) l60 c60 k60
 have b60:=F60.qB (ps:=["_law_tolds", "_law_text", "_law_table_here"])
 have F61:=aR (st:=iW) l61 c61 k61
 have b61:=F61.nO (ps:=["_law_table_here"])
 have F62:=aR (st:=gQ) l62 c62 k62
 have b62:=F62.adP (ps:=["_law_found", "_law_tolds", "_law_table_here", "_law_word", "_law_due"])
 have F63:=aR (st:=vm) l63 c63 k63
 have b63:=F63.nO (ps:=["_law_script"])
 exact⟨W.fnOf "law" "law" (dY vm) (cY vm) (av vm) .none Vg Vh Vi Uh QN Vj,fun s v=>.of_eq rfl,fun base _ _=>Ub (aA:=fun i=>[jr,gv,fR,dF,gM,lH,eX,iL,jR,jS,iM,lI,gg,kL,Ey,eB,sE,fH,jt,eG,cM,cC,sF,wU,ju,qi,jT,iN,nB,dG,qj,jU,fS,eH,gO,fJ,jV,wV,sH,Ez,jv,lJ,jW,nC,lK,nE,nF,nG,nH,nI,jX,lM,lN,jY,qk,jZ,nJ,lO,j0,lP,nK,nM,lQ,fa,bM,kR,fK,eN,bP,jw,sI,sM,wW,wX,gk,sN,EA,IL,OR,cg,lW].getD i fa) (aM:=fun i=>[FN "is_printable" "is_printable" fh .none kV0 dc0 pm0 an0 cd0 ct0,FN "has_signs_alone" "has_signs_alone" cP .none kV1 dc1 pm1 an1 cd1 ct1,FN "are_unlike_signs" "are_unlike_signs" cG .none kV2 dc2 pm2 an2 cd2 ct2,FN "__init__" "Dialect.__init__" bI (.ref cg) kV3 dc3 pm3 an3 cd3 ct3,FN "told" "Dialect.told" gC .none kV4 dc4 pm4 an4 cd4 ct4,FN "dialect_of" "dialect_of" jc .none kV5 dc5 pm5 an5 cd5 ct5,FN "step_at_beginning" "step_at_beginning" cV .none kV6 dc6 pm6 an6 cd6 ct6,FN "step_in_plain" "step_in_plain" fX .none kV7 dc7 pm7 an7 cd7 ct7,FN "step_within" "step_within" ic .none kV8 dc8 pm8 an8 cd8 ct8,FN "step_behind" "step_behind" ie .none kV9 dc9 pm9 an9 cd9 ct9,FN "step_in_doubt" "step_in_doubt" fY .none Zk Zl Zm Yp Ui Zn,FN "step_freed" "step_freed" jd .none Zo Zp Zq Yq Uj Zr,FN "__init__" "Turn.__init__" fZ .none Zs Zt Zu Yr Uk Zv,FN "step" "Turn.step" j9 .none Zw Zx Zy Ys Ul Zz,FN "once" "once" Ae .none ZA ZC ZD Yt Um ZE,FN "special" "Dialect.special" dZ .none ZF ZG ZH Yu Uo ZI,FN "is_live" "is_live" oi .none ZJ ZK ZL Yv Up ZN,FN "live_step" "Turn.live_step" fj .none ZO ZQ ZR Yw Uq ZS,FN "count_behind" "count_behind" gD .none ZT ZU ZV Yx Ur ZW,FN "__init__" "Marker.__init__" d7 .none ZX ZY ZZ Yy Us Z0,FN "mark_behind" "Marker.mark_behind" cL .none Z1 Z2 Z3 Yz Ut Z4,FN "has_read_all" "Marker.has_read_all" cA .none Z5 Z6 Z7 YA Uu Z8,FN "is_cell" "is_cell" oj .none Z9 aac aad YB Uv aae,FN "is_row" "is_row" om .none aaf aag aah YC Uw aai,FN "signs_in_row" "signs_in_row" fk .none aaj aak aal YD Ux aam,FN "is_table" "is_table" iP .none aan aao aap YE Uy aaq,FN "check_table" "check_table" ig .none aar aas aat YF Uz aau,FN "tokens_of_row" "tokens_of_row" dR .none aav aaw aax YG UA aay,FN "tokens_of" "tokens_of" kc .none aaz aaA aaB YH UB aaC,FN "__init__" "TooMany.__init__" fN .none aaD aaE aaF YI UC aaG,FN "is_whole" "is_whole" mj .none aaH aaI aaJ YJ UD aaK,FN "first_place" "first_place" gh .none aaL aaM aaN YK UE aaO,FN "signs_that_count" "signs_that_count" bV .none aaP aaQ aaR YN UG aaS,FN "__init__" "Places.__init__" cQ .none aaT aaU aaV YO UH aaW,FN "leads" "Places.leads" fm .none aaX aaY aaZ YQ UI aa0,FN "is_good" "Places.is_good" di .none aa1 aa2 aa3 YR UJ aa4,FN "check_asked" "check_asked" iw .none aa5 aa6 aa7 YS UK aa8,FN "search" "search" kg (.ref lW) UL UM UN Ug QM UO,FN "text_to" "text_to" oq .none aa9 abb abd YT UP abe,FN "sole" "sole" Af .none abf abg abh YU UQ abi,FN "_law_cell_at" "_law_cell_at" gE .none abj abk abl YV UR abm,FN "_law_mixed" "_law_mixed" je .none abn abo abp YW US abq,FN "_law_number" "_law_number" iy .none abr abt abu YX UT abv,FN "_law_some" "_law_some" kh .none abw abx aby YY UU abz,FN "_law_menus" "_law_menus" jf .none abA abB abC YZ UW abD,FN "_law_told" "_law_told" ki .none abE abF abG Y0 UX abH,FN "_law_made" "_law_made" kj .none abI abJ abK Y3 UY abL,FN "_law_open" "_law_open" ko .none abM abN abO Y4 UZ abP,FN "_law_step" "_law_step" kr .none abQ abR abS Y5 U0 abT,FN "_law_near" "_law_near" ku .none abU abV abW Y6 U1 abX,FN "_law_others" "_law_others" iz .none abY abZ ab0 Y7 U3 ab1,FN "_law_signs" "_law_signs" fO .none ab2 ab3 ab4 Y8 U4 ab5,FN "_law_table" "_law_table" jg .none ab6 ab7 ab8 Y9 U5 ab9,FN "_law_tokens" "_law_tokens" iA .none acd ace acf Za U6 acg,FN "_law_led" "_law_led" mq .none ach aci acj Zb U7 ack,FN "_law_behind" "_law_behind" iB .none acm acn aco Zc U8 acp,FN "_law_good" "_law_good" kB .none acq acr acs Zd U9 acu,FN "_law_start" "_law_start" gP .none acv acw acy Ze Va acz,FN "_law_levels" "_law_levels" gi .none acA acB acC Zf Vb acD,FN "_law_reads" "_law_reads" jh .none acE acF acG Zg Vc acH,FN "_law_sole" "_law_sole" kC .none acI acJ acK Zh Vd acL,FN "_law_copy" "_law_copy" iW .none acM acN acO Zi Ve acP,FN "_law_right" "_law_right" gQ .none acQ acR acS Zj Vf acT,FN "law" "law" vm .none Vg Vh Vi Uh QN Vj].getD i (FN "is_printable" "is_printable" fh .none kV0 dc0 pm0 an0 cd0 ct0)) (Bx:=fun i=>[IM].getD i "") ⟨F0,b0,mo a0,
  F1,b1,mo a1,
  F2,b2,mo a2,
  F3,b3,
  F4,b4,⟨a4,i4,k4⟩,
  F5,b5,mo a5,
  F6,b6,mo a6,
  F7,b7,mo a7,
  F8,b8,mo a8,
  F9,b9,mo a9,
  F10,b10,mo a10,
  F11,Th,mo XE,
  F12,b12,
  F13,b13,⟨a13,i13,k13⟩,
  F14,b14,mo Qu,
  F15,b15,⟨a15,i15,k15⟩,
  F16,b16,mo a16,
  F17,b17,⟨a17,i17,k17⟩,
  F18,Qz,mo XX,
  F19,b19,
  F20,b20,⟨a20,i20,k20⟩,
  F21,b21,⟨QA,i21,k21⟩,
  F22,b22,mo a22,
  F23,b23,mo a23,
  F24,b24,mo QE,
  F25,b25,mo a25,
  F26,b26,mo a26,
  F27,b27,mo a27,
  F28,Xq,mo XY,
  F29,b29,
  F30,b30,mo a30,
  F31,b31,mo Xr,
  F32,X0,mo a32,
  F33,b33,
  F34,b34,⟨a34,i34,k34⟩,
  F35,b35,⟨X3,i35,k35⟩,
  F36,b36,mo a36,
  F37,b37,mo a37,
  F38,b38,mo a38,
  F39,b39,mo a39,
  F40,b40,mo a40,
  F41,b41,mo a41,
  F42,b42,mo a42,
  F43,b43,mo a43,
  F44,b44,mo a44,
  F45,b45,mo a45,
  F46,b46,mo a46,
  F47,b47,mo a47,
  F48,b48,mo a48,
  F49,b49,mo Xw,
  F50,b50,mo a50,
  F51,b51,mo a51,
  F52,b52,mo a52,
  F53,b53,mo a53,
  F54,b54,mo a54,
  F55,b55,mo a55,
  F56,b56,mo a56,
  F57,b57,mo a57,
  F58,b58,mo a58,
  F59,b59,mo a59,
  F60,b60,mo X4,
  F61,b61,mo a61,
  F62,b62,mo a62,
  F63,b63,mo a63,
  ⟨IQ,IS,IT,IU⟩,mo IP,⟨IV,a3,i3,IW⟩,
  cj,
  cH,
  bS,
  gK,
  fB,
  fE,
  f9,
  ⟨QS,QT,QU,QV⟩,mo QO,⟨QW,a12,i12,QX⟩,
  bO,
  ⟨Lz,LA,LB,LC⟩,mo Lx,⟨LD,a19,i19,LF⟩,
  jQ,
  gb,
  ⟨LG,LH,LI,LJ⟩,mo Ly,⟨LK,a33,i33,LL⟩,
  gc,
  fF,
  jm,
  mo kT,⟨⟨_,_,_,_,_,_,_,_,_,_,_,_,_,_,kU⟩,⟨_,_,_,_,_,kW,wY⟩,kX⟩,
  ⟨zw,zx,zy⟩,
  mo uQ,⟨⟨_,_,_,_,_,_,_,_,_,_,_,_,_,_,uS⟩,⟨_,_,_,_,_,uT,EB⟩,uU⟩,
  mo xR,⟨⟨_,_,_,_,_,_,_,_,_,_,_,_,_,_,xY⟩,⟨_,_,_,_,_,xZ,GK⟩,ya⟩,
  mo uR,⟨⟨_,_,_,_,_,_,_,_,_,_,_,_,_,_,uV⟩,⟨_,_,_,_,_,uW,EC⟩,uX⟩,
  JC,⟨_,JD,rfl⟩,
  ⟨zB,GW,GX,GY,GZ⟩,
  mz acZ,
  mz ac0,
  mz Vm,
  mz G0,
  mz ac1,
  mz ED,
  mz ac2,
  mz Vn,
  mz z_ord,
  mz QY,
  mz JE,
  mz ac3,
  mz ac4,
  mz QZ,
  mz ac5,
  ⟨_,mo Vo⟩,Vp,
  ⟨_,mo G3⟩,
  ⟨_,mo EF⟩,
  ⟨_,mo qF⟩,
  ⟨_,mo B9⟩,
  ⟨_,mo Ca⟩,
  ⟨_,mo Cb⟩,
  mo Q2,⟨_,_,_,Q4,rfl,rfl,(by show 2≤sizeLine;decide),(.cons ⟨_,rfl⟩ (.cons ⟨_,rfl⟩ .nil))⟩,
  mo Vq,⟨_,_,_,Vs,rfl,rfl,(by show 2≤sizeLine;decide),(.cons ⟨_,rfl⟩ (.cons ⟨_,rfl⟩ .nil))⟩,
  mo ac6,⟨_,_,_,ac8,rfl,rfl,(by show 2≤sizeLine;decide),(.cons ⟨_,rfl⟩ (.cons ⟨_,rfl⟩ .nil))⟩⟩⟩
theorem walk {l:W.OpenLaw}{q:Program}{loose:List Str}{XP:(Str→Option Value)→Heap→Prop}{YP:World→Heap→Prop}{d:DefRec}{K:Params→W.Frag} (hn:l.most=some 63) (hdf:d.params.defaults=[])
  (hY:∀(w:World) (h:Heap),YP w h→(K w.params).In h)
  (F:∀(w:World) (mg:Str→Option Value) (fa:Addr) (h:Heap),(K w.params).In h→h.Ns mainGlobals mg→mg d.name=some (.ref fa) →
   ∃ fd:FuncData,(∀(s:Shared) (u:Value),BindsTo s fd ⟨[u],[]⟩ [("_law_script",u)])∧∀ base:Heap,(K w.params).In base→base.Ns mainGlobals mg→aJ l.prog w (K w.params) mg base bG 13 fa fd ["_law_script"] (Et (K w.params))) :
  W.WalkO q loose XP YP l.row.toRowW d [] (fun f vs=>PySem.call f vs) :=
 L2.Pu (n:=63) (k:=13) (x := "_law_script") (CX:=fun _=>bG) (sp:=fun w=>Et (K w.params)) hn (by decide) hdf ⟨rfl,by decide,by decide⟩ hY F (fun _ _ a ns hl _ hS=>⟨a,ns,rfl,hS,hl,fun _=>rfl⟩) fun _ _ _ _ _ z=>z
end My
def PySem.W.Fast.tw4048544088499712562:Unit:=()
def PySem.W.Fast.tw15346011525426776357:Unit:=()
def PySem.W.Fast.tw9132658974389644421:Unit:=()
def PySem.W.Fast.tw15592107353783220330:Unit:=()
def PySem.W.Fast.tw8050271645584687099:Unit:=()
def PySem.W.Fast.tw14843006744170816540:Unit:=()
def PySem.W.Fast.tw12632335533525499873:Unit:=()
def PySem.W.Fast.tw1734044689318606284:Unit:=()
def PySem.W.Fast.tw7255042369260664830:Unit:=()
def PySem.W.Fast.tw6341134547047212484:Unit:=()
def PySem.W.Fast.tw18056566869165725757:Unit:=()
def PySem.W.Fast.tw9954758726747674402:Unit:=()
def PySem.W.Fast.tw825999036335002799:Unit:=()
def PySem.W.Fast.tw1644225687613634156:Unit:=()
def PySem.W.Fast.tw5692206703819141466:Unit:=()
def PySem.W.Fast.tw7043473238043370036:Unit:=()
def PySem.W.Fast.tw4990443454771504803:Unit:=()
def PySem.W.Fast.tw1128544474013719256:Unit:=()
def PySem.W.Fast.tw5367402158045228053:Unit:=()
def PySem.W.Fast.tw15671952585119403132:Unit:=()
def PySem.W.Fast.tw1364697261009389474:Unit:=()
def PySem.W.Fast.tw6860496595538889642:Unit:=()
def PySem.W.Fast.tw1974719964071957569:Unit:=()
def PySem.W.Fast.tw11113306821670273507:Unit:=()
def PySem.W.Fast.tw9333192923156496878:Unit:=()
def PySem.W.Fast.tw2699082483832021846:Unit:=()
def PySem.W.Fast.tw2279691704300608570:Unit:=()
def PySem.W.Fast.tw16838109359112120003:Unit:=()
def PySem.W.Fast.tw1525596399955087106:Unit:=()
def PySem.W.Fast.tw4825971588343074397:Unit:=()
def PySem.W.Fast.tw7876748914140007037:Unit:=()
def PySem.W.Fast.tw17013333656886896959:Unit:=()
def PySem.W.Fast.tw1222135772411682077:Unit:=()
def PySem.W.Fast.tw1778126272701906262:Unit:=()
def PySem.W.Fast.tw3030821205755673261:Unit:=()
def PySem.W.Fast.tw46322011830908904:Unit:=()
def PySem.W.Fast.tw432584685008922903:Unit:=()
def PySem.W.Fast.tw8334497918579078458:Unit:=()
def PySem.W.Fast.tw10981341688764003619:Unit:=()
def PySem.W.Fast.tw7000032590715661806:Unit:=()
def PySem.W.Fast.tw17921363064186655881:Unit:=()
def PySem.W.Fast.tw13817760127204603446:Unit:=()
def PySem.W.Fast.tw6950495486795933291:Unit:=()
def PySem.W.Fast.tw931887849311215145:Unit:=()
def PySem.W.Fast.tw9491861842803827851:Unit:=()
def PySem.W.Fast.tw6575989476564385519:Unit:=()
def PySem.W.Fast.tw4341261209586611674:Unit:=()
def PySem.W.Fast.tw4147888245029907373:Unit:=()
def PySem.W.Fast.tw8424508519982955092:Unit:=()
def PySem.W.Fast.tw10369639018035921082:Unit:=()
def PySem.W.Fast.tw7037125792892741378:Unit:=()
def PySem.W.Fast.tw14732758353995951711:Unit:=()
def PySem.W.Fast.tw9599234458073997143:Unit:=()
def PySem.W.Fast.tw9118467230473519652:Unit:=()
def PySem.W.Fast.tw8037683856597935485:Unit:=()
def PySem.W.Fast.tw5162753672712723337:Unit:=()
def PySem.W.Fast.tw8511254064072510909:Unit:=()
def PySem.W.Fast.tw12380138463947066689:Unit:=()
def PySem.W.Fast.tw460876621350431460:Unit:=()
def PySem.W.Fast.tw1898628445334110181:Unit:=()
def PySem.W.Fast.tw5164809394473710689:Unit:=()
def PySem.W.Fast.tw1468897169003479156:Unit:=()
def PySem.W.Fast.tw5857865739746732420:Unit:=()
def PySem.W.Fast.tw7818419783393131853:Unit:=()
def PySem.W.Fast.tw13433623691693977698:Unit:=()
def PySem.W.Fast.tw8385159600018221772:Unit:=()
def PySem.W.Fast.tw10348015545877238365:Unit:=()
def PySem.W.Fast.tw14983622781788036980:Unit:=()
def PySem.W.Fast.tw15604707826358364725:Unit:=()
def PySem.W.Fast.tw6502783028087582528:Unit:=()
def PySem.W.Fast.tw292229152788899147:Unit:=()
def PySem.W.Fast.tw13503051527389409477:Unit:=()
def PySem.W.Fast.tw2448550334778774122:Unit:=()
def PySem.W.Fast.tw18251510770434461622:Unit:=()
def PySem.W.Fast.tw14973199308867184767:Unit:=()
def PySem.W.Fast.tw103522681868333023:Unit:=()
def PySem.W.Fast.tw14570106436522743016:Unit:=()
def PySem.W.Fast.tw6775681624051594497:Unit:=()
def PySem.W.Fast.tw4362214380421116513:Unit:=()
def PySem.W.Fast.tw17611186948964625778:Unit:=()
def PySem.W.Fast.tw14799610187006333046:Unit:=()
def PySem.W.Fast.tw3648063308309977618:Unit:=()
def PySem.W.Fast.tw6070658052076645362:Unit:=()
def PySem.W.Fast.tw4441977107399552955:Unit:=()
def PySem.W.Fast.tw1436620421712763323:Unit:=()
def PySem.W.Fast.tw14347147647213070838:Unit:=()
def PySem.W.Fast.tw12374958100720020151:Unit:=()
def PySem.W.Fast.tw6072412676670208663:Unit:=()
def PySem.W.Fast.tw8966488475799248113:Unit:=()
def PySem.W.Fast.tw9113357864162807200:Unit:=()
def PySem.W.Fast.tw6151063221522387638:Unit:=()
def PySem.W.Fast.tw13505625537304664942:Unit:=()
def PySem.W.Fast.tw17134436976365855106:Unit:=()
def PySem.W.Fast.tw6878718421683138141:Unit:=()
def PySem.W.Fast.tw2106358839496406498:Unit:=()
def PySem.W.Fast.tw7068194026744666576:Unit:=()
def PySem.W.Fast.tw3701288547787688785:Unit:=()
def PySem.W.Fast.tw17265419080313019136:Unit:=()
def PySem.W.Fast.tw14595631852423300328:Unit:=()
def PySem.W.Fast.tw11022874299418314543:Unit:=()
def PySem.W.Fast.tw9379913225682950694:Unit:=()
def PySem.W.Fast.tw777066179642736599:Unit:=()
def PySem.W.Fast.tw13898832692942662156:Unit:=()
def PySem.W.Fast.tw18315504176069120875:Unit:=()
def PySem.W.Fast.tw7928301000543905480:Unit:=()
def PySem.W.Fast.tw18176738367879245799:Unit:=()
def PySem.W.Fast.tw15111052308703955639:Unit:=()
def PySem.W.Fast.tw8890012588882245094:Unit:=()
def PySem.W.Fast.tw233718732626263480:Unit:=()
def PySem.W.Fast.tw4001608638073098042:Unit:=()
def PySem.W.Fast.tw8590294314075765119:Unit:=()
def PySem.W.Fast.tw14261263145914327421:Unit:=()
def PySem.W.Fast.tw4659892147544624018:Unit:=()
def PySem.W.Fast.tw1201988650963435497:Unit:=()
def PySem.W.Fast.tw8018855026241928574:Unit:=()
def PySem.W.Fast.tw1044223055009275681:Unit:=()
def PySem.W.Fast.tw4685452017983145824:Unit:=()
def PySem.W.Fast.tw13734610705607497555:Unit:=()
def PySem.W.Fast.tw6156967607916584718:Unit:=()
def PySem.W.Fast.tw8086642701499704984:Unit:=()
def PySem.W.Fast.tw3304096988167947719:Unit:=()
def PySem.W.Fast.tw1579327431643335343:Unit:=()
def PySem.W.Fast.tw14946852962482003545:Unit:=()
def PySem.W.Fast.tw11901261161316306714:Unit:=()
def PySem.W.Fast.tw8610630047850182555:Unit:=()
def PySem.W.Fast.tw1273673666882099158:Unit:=()
def PySem.W.Fast.tw6039658024893167567:Unit:=()
def PySem.W.Fast.tw2672289604212319994:Unit:=()
def PySem.W.Fast.tw6703831701653612651:Unit:=()
def PySem.W.Fast.tw6814473722287057563:Unit:=()
def PySem.W.Fast.tw6176427325226488998:Unit:=()
def PySem.W.Fast.tw5006177673124166623:Unit:=()
def PySem.W.Fast.tw13802682631439634948:Unit:=()
def PySem.W.Fast.tw7162882876747109806:Unit:=()
def PySem.W.Fast.tw11564308840868826641:Unit:=()
def PySem.W.Fast.tw3888807400336277712:Unit:=()
def PySem.W.Fast.tw14152726592605681375:Unit:=()
def PySem.W.Fast.tw16748801752002419261:Unit:=()
def PySem.W.Fast.tw3170842994753990584:Unit:=()
def PySem.W.Fast.tw17142555394850170727:Unit:=()
def PySem.W.Fast.tw15931200385662928828:Unit:=()
def PySem.W.Fast.tw13035875526647019031:Unit:=()
def PySem.W.Fast.tw2176734373165598455:Unit:=()
def PySem.W.Fast.tw13632097903745887537:Unit:=()
def PySem.W.Fast.tw462730245044531201:Unit:=()
def PySem.W.Fast.tw14037145743116901435:Unit:=()
def PySem.W.Fast.tw11885391756215109811:Unit:=()
def PySem.W.Fast.tw415455261303832076:Unit:=()
def PySem.W.Fast.tw1371340934961171715:Unit:=()
def PySem.W.Fast.tw4534250656344082220:Unit:=()
def PySem.W.Fast.tw13277976851543906805:Unit:=()
def PySem.W.Fast.tw15135452436001643597:Unit:=()
def PySem.W.Fast.tw7392620832147970184:Unit:=()
def PySem.W.Fast.tw12411171848371170002:Unit:=()
def PySem.W.Fast.tw8633496993705268115:Unit:=()
def PySem.W.Fast.tw17565783081481729929:Unit:=()
def PySem.W.Fast.tw18169878907309264054:Unit:=()
def PySem.W.Fast.tw637971251874685602:Unit:=()
def PySem.W.Fast.tw8532499748358482183:Unit:=()
def PySem.W.Fast.tw3624188720018347748:Unit:=()
def PySem.W.Fast.tw14485171727614666186:Unit:=()
def PySem.W.Fast.tw2420609459415171644:Unit:=()
def PySem.W.Fast.tw6537655390292937057:Unit:=()
def PySem.W.Fast.tw10276178143301156214:Unit:=()
def PySem.W.Fast.tw13698272229057143673:Unit:=()
def PySem.W.Fast.tw8769171617151628128:Unit:=()
def PySem.W.Fast.tw11827026485306464812:Unit:=()
def PySem.W.Fast.tw33494131673799483:Unit:=()
def PySem.W.Fast.tw127177933056118693:Unit:=()
def PySem.W.Fast.tw12531303867378191774:Unit:=()
def PySem.W.Fast.tw7347982528009478138:Unit:=()
def PySem.W.Fast.tw1269445089362914686:Unit:=()
def PySem.W.Fast.tw5879397078224387099:Unit:=()
def PySem.W.Fast.tw8213369474442318097:Unit:=()
def PySem.W.Fast.tw188992713658353808:Unit:=()
def PySem.W.Fast.tw3060198770314725078:Unit:=()
def PySem.W.Fast.tw10211279998887292796:Unit:=()
def PySem.W.Fast.tw12289975440254260455:Unit:=()
open PySem PySem.W PyProof.Rows
set_option maxRecDepth 100000 in
set_option maxHeartbeats 0 in
theorem PySem.Challenge.cw_dialecthall_k74_open_or_not_holds : PySem.Challenge.rw_dialecthall_k74_open_or_not.Holds := by
 w_on;o_law;k_head;(case hw=>w_witness2)
 k_fill
 refine My.walk (l:=PySem.Challenge.rw_dialecthall_k74_open_or_not) rfl rfl (fun w h Y=>W.kIn_of Y) ?F
 case F =>
  intro w mg fa h KX G hmg
  refine' My.all_mk KX G hmg ?_ ?_ ?_ ?_ ?kT ?uQ ?xR ?uR ?_ ?_ ?_ ?_ ?_ ?_ ?_ ?_ ?_ ?_ ?_ ?_ ?_ ?_ ?_ ?_ ?_ ?_ ?_ ?_ ?_ ?_ ?_ ?_ ?_ ?_ ?_ ?_ ?_ ?_ ?_ ?_ ?_ ?_ ?_ ?_ ?_ ?_ ?_ ?_ ?_ ?_ ?_ ?_ ?_ ?_ ?_ ?_ ?_ ?_ ?_ ?_ ?_ ?_ ?_ ?_ ?_ ?_ ?_ ?_ ?_ ?_ ?_ ?_ ?_ ?_ ?_ ?_ ?_ ?_ ?_ ?_ ?_ ?_ ?_ ?_ ?_ ?_ ?_ ?_ ?_ ?_ ?_ ?_ ?_ ?_ ?_ ?_ ?_ ?_ ?_ ?_ ?_ ?_ ?_ ?_ ?_ ?_ ?_ ?_ ?_ ?_ ?_ ?_ ?_ ?_ ?_ ?_ ?_ ?_ ?_ ?_ ?_ ?_ ?_ ?_ ?_ ?_ ?_ ?_ ?_ ?_ ?_ ?_ ?_ ?_ ?_ ?_ ?_ ?_ ?_ ?_ ?_ ?_ ?_ ?_ ?_ ?_ ?_ ?_ ?_ ?_ ?_ ?_ ?_ ?_ ?_ ?_ ?_ ?_ ?_ ?_ ?_ ?_ ?_ ?_ ?_ ?_ ?_ ?_ ?_ ?_ ?_ ?_ ?_ ?_ ?_ ?_ ?_ ?_ ?_ ?_ ?_ ?_ ?_ ?_ ?_ ?_ ?_ ?_ ?_ ?_ ?_ ?_ ?_ ?_ ?_ ?_ ?_ ?_ ?_ ?_ ?_ ?_ ?_ ?_ ?_ ?_ ?_ ?_ ?_ ?_ ?_ ?_ ?_ ?_ ?_ ?_ ?_ ?_ ?_ ?_ ?_ ?_ ?_ ?_ ?_ ?_ ?_ ?_ ?_ ?_ ?_ ?_ ?_ ?_ ?_ ?_ ?_ ?_ ?_ ?_ ?_ ?_ ?_ ?_ ?_ ?_ ?_ ?_ ?_ ?_ ?_ ?_ ?_ ?_ ?_ ?_ ?_ ?_ ?_ ?_ ?_ ?_ ?_ ?_ ?_ ?_ ?_ ?_ ?_ ?_ ?_ ?_ ?_ ?_ ?_ ?_ ?_ ?_ ?_ ?_ ?_ ?_ ?_ ?_ ?_ ?_ ?_ ?_ ?_ ?_ ?_ ?_ ?_ ?_ ?_ ?_ ?_ ?_ ?_ ?_ ?_ ?_ ?_ ?_ ?_ ?_ ?_ ?_ ?_ ?_ ?_ ?_ ?_ ?_ ?kU ?kW ?_ ?kX ?_ ?_ ?_ ?uS ?uT ?_ ?uU ?xY ?xZ ?_ ?ya ?uV ?uW ?_ ?uX ?_ ?_ ?_ ?_ ?_ ?_ ?_ ?_ ?_ ?_ ?_ ?_ ?_ ?_ ?_ ?_ ?_ ?_ ?_ ?_ ?_ ?_ ?_ ?_ ?_ ?_ ?_ ?_ ?_ ?_ ?_ ?_ ?_ ?_ ?_ ?_
  (case kT=>k_is)
  (case uQ=>k_is)
  (case xR=>k_is)
  (case uR=>k_is)
  (case kU=>k_is)
  (case kW=>k_is)
  (case kX=>k_is)
  (case uS=>k_is)
  (case uT=>k_is)
  (case uU=>k_is)
  (case xY=>k_is)
  (case xZ=>k_is)
  (case ya=>k_is)
  (case uV=>k_is)
  (case uW=>k_is)
  (case uX=>k_is)
  all_goals try first | k_is | rfl
