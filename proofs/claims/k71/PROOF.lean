import PyProof.Rows.All
import Wide.All
import OpenK.AllK
import Wide.FinOn
import Lean
import PyProof.EqAt
import PyProof.EqKinds
import PyProof.TupleCall
import PyProof.JoinWalk
import PyProof.DictIter
import PyProof.SeqI3
import PyProof.WalkInts
import PyProof.DictTruth
import PyProof.ListRange
import PyProof.DictWalks
import PySem.Challenge.RW_dialecthall_k71_sole_refused
set_option Elab.async false
set_option linter.all false
set_option maxRecDepth 100000
namespace L2
open PySem PySem.Spec PyProof.Rows
abbrev Key:=Sum Int Str
def yi:Key→Value→Bool
 | .inl k,v=>Value.isInt k v
 | .inr x,v=>Value.isStrOf x v
def ZD (w:World):Key→Int
 | .inl k=>hashInt k
 | .inr x=>hashStr w x
theorem dw:∀{k:Key}{v:Value},yi k v=true→(∃ i t,k=Sum.inl i∧v=Value.int i t)∨(∃ x t,k=Sum.inr x∧v=Value.str x t)
 | .inl i,v,h=>by
  obtain⟨t,e⟩:=Value.isInt_shape (k:=i) (v:=v) h
  exact .inl ⟨i,t,rfl,e⟩
 | .inr x,v,h=>by
  obtain⟨t,e⟩:=Value.isStrOf_shape (x:=x) (v:=v) h
  exact .inr ⟨x,t,rfl,e⟩
theorem MA (i:Int) (t:Tok):yi (.inl i) (.int i t)=true:=by simp[yi,Value.isInt]
theorem MB (x:Str) (t:Tok):yi (.inr x) (.str x t)=true:=by simp[yi,Value.isStrOf]
theorem Pe (a b:Int):decide ((Sum.inl a:Key)=Sum.inl b)=(a == b):=by
 by_cases e:a=b
 ·subst e;simp
 ·have h:¬(Sum.inl a:Key)=Sum.inl b:=fun q=>e (Sum.inl.inj q)
  rw[decide_eq_false h]
  exact(beq_eq_false_iff_ne.mpr e).symm
theorem Pf (a b:Str):decide ((Sum.inr a:Key)=Sum.inr b)=decide (a=b):=by
 by_cases e:a=b
 ·subst e;simp
 ·have h:¬(Sum.inr a:Key)=Sum.inr b:=fun q=>e (Sum.inr.inj q)
  rw[decide_eq_false h,decide_eq_false e]
theorem Pg (a:Int) (b:Str):decide ((Sum.inl a:Key)=Sum.inr b)=false:=decide_eq_false (fun q=>nomatch q)
theorem Ph (a:Str) (b:Int):decide ((Sum.inr a:Key)=Sum.inl b)=false:=decide_eq_false (fun q=>nomatch q)
def pW (prog:Program) (w:World):PySem.KeyKind prog w Key where
 is:=yi
 hash:=ZD w
 inj:=fun v a b ha hb=>by
  rcases dw ha with ⟨i,t,rfl,rfl⟩ | ⟨x,t,rfl,rfl⟩
  ·rcases dw hb with ⟨j,u,rfl,e⟩ | ⟨y,u,rfl,e⟩
   ·injection e with e1 _;rw[e1]
   ·exact nomatch e
  ·rcases dw hb with ⟨j,u,rfl,e⟩ | ⟨y,u,rfl,e⟩
   ·exact nomatch e
   ·injection e with e1 _;rw[e1]
 byValue:=fun k v h=>by
  rcases dw h with ⟨i,t,rfl,rfl⟩ | ⟨x,t,rfl,rfl⟩ <;> rfl
 pyHash:=fun hv h=>by
  rcases dw hv with ⟨i,t,rfl,rfl⟩ | ⟨x,t,rfl,rfl⟩
  ·exact wpAny_pyHash_int h
  ·exact wpAny_pyHash_str h
 eqBool:=fun hu hv h=>by
  rcases dw hu with ⟨i,t,rfl,rfl⟩ | ⟨x,t,rfl,rfl⟩
  ·rcases dw hv with ⟨j,u,rfl,rfl⟩ | ⟨y,u,rfl,rfl⟩
   ·rw[Pe] at h;exact wpAny_eqBool_int h
   ·rw[Pg] at h;exact SeqAt.EqAt.int_str i t y u _ _ _ _ h
  ·rcases dw hv with ⟨j,u,rfl,rfl⟩ | ⟨y,u,rfl,rfl⟩
   ·rw[Ph] at h;exact SeqAt.EqAt.str_int x t j u _ _ _ _ h
   ·rw[Pf] at h;exact wpAny_eqBool_str h
 «strs» := fun k x t v h=>by
  rcases dw h with ⟨i,u,rfl,e⟩ | ⟨y,u,rfl,e⟩
  ·exact nomatch e
  ·injection e with e1 _
   subst e1
   cases v <;> rfl
theorem Gf (prog:Program) (w:World) (i:Int) (t:Tok):(pW prog w).is (.inl i) (.int i t)=true:=MA i t
theorem Gg (prog:Program) (w:World) (x:Str) (t:Tok):(pW prog w).is (.inr x) (.str x t)=true:=MB x t
inductive V where
 | non | bl (b:Bool) | int (i:Int) | str (x:Str) | O8 (b:Array UInt8) | Gh (b:UInt64) | ref (a:Addr) | ty (n:String)
 deriving DecidableEq
def RelV:V→Value→Prop
 | .non,u=>u=Value.none
 | .bl b,u=>u=Value.bool b
 | .int i,u=>∃ t,u=Value.int i t
 | .str x,u=>∃ t,u=Value.str x t
 | .O8 b,u=>∃ t,u=Value.bytes b t
 | .Gh b,u=>∃ t,u=Value.float b t
 | .ref a,u=>u=Value.ref a
 | .ty n,u=>u=Value.type n
abbrev Vals:List V→List Value→Prop:=Paired RelV
theorem Vals.length {xs:List V}{us:List Value} (r:Vals xs us):xs.length=us.length:=Paired.length r
theorem Vals.get:∀{xs:List V}{us:List Value}{i:Nat}{x:V},Vals xs us→xs[i]? = some x→∃ u,us[i]? = some u∧RelV x u
 | _,_,_,_,.nil,e=>by simp at e
 | _,_,0,_,.cons r _,e=>by simp at e;subst e;exact⟨_,rfl,r⟩
 | _,_,i+1,x,.cons _ t,e=>by
  obtain⟨u,h1,h2⟩:=Vals.get (i:=i) (x:=x) t (by simpa using e)
  exact⟨u,by simpa using h1,h2⟩
theorem Vals.append:∀{xs ys:List V}{us ws:List Value},Vals xs us→Vals ys ws→Vals (xs++ys) (us++ws)
 | _,_,_,_,.nil,s=>s
 | _,_,_,_,.cons r t,s=>.cons r (Vals.append t s)
theorem Vals.take:∀{xs:List V}{us:List Value} (n:Nat),Vals xs us→Vals (xs.take n) (us.take n)
 | _,_,0,_=>.nil
 | _,_,_+1,.nil=>.nil
 | _,_,n+1,.cons r t=>.cons r (Vals.take n t)
theorem Vals.drop:∀{xs:List V}{us:List Value} (n:Nat),Vals xs us→Vals (xs.drop n) (us.drop n)
 | _,_,0,r=>r
 | _,_,_+1,.nil=>.nil
 | _,_,n+1,.cons _ t=>Vals.drop n t
def rj:Option V→Option Value→Prop
 | some v,some u=>RelV v u
 | none,none=>True
 | _,_=>False
def KV {κ:Type}:List (κ×V)→List (κ×Value)→Prop:=Paired fun (p:κ×V) (q:κ×Value)=>p.1=q.1∧RelV p.2 q.2
def kV:Key→V
 | .inl i=>.int i
 | .inr x=>.str x
inductive HO where
 | lst (xs:List V)
 | tup (xs:List V)
 | dK (kvs:List (Key×V)) | dT (kvs:List (List Key×V))
 | set (S:Int→Bool) (n:Nat)
 | ins (C dx:Addr) (fs:List (Str×V))
 | own (x:Addr)
 | xd (fs:List (Str×V))
 | met (f x:Addr)
 | rng (lo hi:Int)
 | IK (o:Obj) (u:HO)
 | Vh (ps:Array Value)
 | ext (φ:Heap→Prop)
abbrev Hp:=Addr→Option HO
def upd (H:Hp) (a:Addr) (o:HO):Hp:=fun b=>if b=a then some o else H b
theorem ah {H:Hp}{a:Addr}{o:HO}:upd H a o a=some o:=by unfold upd;rw[if_pos rfl]
theorem aF {H:Hp}{a b:Addr}{o:HO} (h:b≠a):upd H a o b=H b:=by unfold upd;rw[if_neg h]
theorem lu {H:Hp}{a b:Addr}{o u:HO} (h:H a=some o) (h':H b=some u) (d:o≠u):a≠b:=by
 intro e;subst e;rw[h] at h';exact d (Option.some.inj h')
theorem aW {H:Hp}{a b:Addr}{o:HO} (h:H a=some o) (h':H b=none):a≠b:=by
 intro e;subst e;rw[h] at h';cases h'
section
variable (P:Program) (w:World)
def eY (H:Hp) (h:Heap) (a:Addr):HO→Prop
 | .lst xs=>xs.length≤sizeLine∧∃(its:List Value) (n:Nat),Vals xs its∧h.get? a=some { cls:=.type "list",data:=.seq its.toArray n }
 | .tup xs=>xs.length≤sizeLine∧∃ its:List Value,Vals xs its∧IsTup h a its.toArray
 | .dK kvs=>kvs.length≤sizeLine∧(a == sysModules)=false∧∃ vs,KV kvs vs∧h.DictOf (pW P w) a vs
 | .dT kvs=>kvs.length≤sizeLine∧(a == sysModules)=false∧∃ xs:List (List Key×Addr×Value),
   Paired (fun (p:List Key×V) (q:List Key×Addr×Value)=>p.1=q.1∧H q.2.1=some (.tup (p.1.map kV))∧RelV p.2 q.2.2) kvs xs ∧
   ∃ o es ep,h.get? a=some o∧o.ExactDict∧o.data=.dict es ep∧es.toList=xs.map (entryOfKey (tupleKind (pW P w)))∧(xs.map (·.1)).Nodup
 | .set S n=>h.SetOf (intKind P w) a S n
 | .ins C dx fs=>H dx=some (.own a)∧fs.length≤1000∧dx≠a∧h.get? a=some (W.instObj C dx) ∧
   ∃ mA,h.Ns1 dx mA∧(∀ f,rj (fs.lookup f) (mA f))∧PySem.Within mA (fs.map (·.1))
 | .own _=>∃ o,h.get? a=some o
 | .xd fs=>∃ mA,h.Ns1 a mA∧∀ f,rj (fs.lookup f) (mA f)
 | .rng lo hi=>∃ t u v,h.get? a=some { cls:=.type "range",data:=.fields #[.int lo t,.int hi u,.int 1 v] }
 | .IK o u=>h.get? a=some o∧eY H h a u
 | .Vh ps=>h.get? a=some { cls:=.none,data:=.fields ps }
 | .met f x=>h.get? a=some (W.methodObj (.ref f) (.ref x))
 | .ext φ=>φ h∧(∃ o,h.get? a=some o)∧∀ h1 h2:Heap,φ h1→(∀ o,h1.get? a=some o→h2.get? a=some o)→φ h2
def wX (H:Hp) (h:Heap):Prop:=∀ a o,H a=some o→eY P w H h a o
end
section
variable {P:Program}{w:World}{H H':Hp}{h h':Heap}{a:Addr}{o:HO}
theorem eY.lt (x:eY P w H h a o):a < h.objs.size:=by
 cases o with
 | lst xs=>obtain⟨_,_,_,_,e⟩:=x;exact Heap.lt_size e
 | tup xs=>obtain⟨_,_,_,p⟩:=x;exact p.lt
 | dK kvs=>obtain⟨_,_,_,_,o,_,_,e,_⟩:=x;exact Heap.lt_size e
 | dT kvs=>obtain⟨_,_,_,_,o,_,_,e,_⟩:=x;exact Heap.lt_size e
 | set S n=>obtain⟨o,_,_,_,e,_⟩:=x;exact Heap.lt_size e
 | ins C dx fs=>obtain⟨_,_,_,e,_⟩:=x;exact Heap.lt_size e
 | own y=>obtain⟨_,e⟩:=x;exact Heap.lt_size e
 | xd fs=>obtain⟨_,⟨_,_,_,e,_⟩,_⟩:=x;exact Heap.lt_size e
 | rng lo hi=>obtain⟨_,_,_,e⟩:=x;exact Heap.lt_size e
 | IK ob u=>obtain⟨e,_⟩:=x;exact Heap.lt_size e
 | Vh ps=>exact Heap.lt_size (show h.get? a=some _ from x)
 | met f y=>exact Heap.lt_size (show h.get? a=some _ from x)
 | ext φ=>obtain⟨_,⟨_,e⟩,_⟩:=x;exact Heap.lt_size e
theorem Paired.MC {α β:Type}{F G:α→β→Prop}:∀{l₁:List α}{l₂:List β},Paired F l₁ l₂→(∀ a b,F a b→G a b)→Paired G l₁ l₂
 | _,_,.nil,_=>.nil
 | _,_,.cons r t,f=>.cons (f _ _ r) (Paired.MC t f)
theorem Paired.imp' {α β:Type}{F G:α→β→Prop} (f:∀ a b,F a b→G a b) {l₁:List α}{l₂:List β} (r:Paired F l₁ l₂):Paired G l₁ l₂:=Paired.MC r f
theorem eY.stay (x:eY P w H h a o) (k:∀ b u,(b=a∨H b=some (.own a))→h.get? b=some u→h'.get? b=some u)
  (ho:∀ b,H b=some (.own a)→H' b=some (.own a)) (ht:∀ b xs,H b=some (.tup xs)→H' b=some (.tup xs)):eY P w H' h' a o:=by
 induction o with
 | lst xs=>obtain⟨z,its,n,r,e⟩:=x;exact⟨z,its,n,r,k _ _ (.inl rfl) e⟩
 | tup xs=>obtain⟨z,its,r,ob,e,c⟩:=x;exact⟨z,its,r,ob,k _ _ (.inl rfl) e,c⟩
 | dK kvs=>obtain⟨z,y,vs,r,ob,es,ep,e,c⟩:=x;exact⟨z,y,vs,r,ob,es,ep,k _ _ (.inl rfl) e,c⟩
 | dT kvs =>
  obtain⟨z,y,xs,r,ob,es,ep,e,c⟩:=x
  exact⟨z,y,xs,Paired.MC r fun p q z=>⟨z.1,ht _ _ z.2.1,z.2.2⟩,ob,es,ep,k _ _ (.inl rfl) e,c⟩
 | set S n=>obtain⟨ob,es,ep,t,e,c⟩:=x;exact⟨ob,es,ep,t,k _ _ (.inl rfl) e,c⟩
 | ins C dx fs =>
  obtain⟨d,z,ne,e,mA,⟨od,es,ep,e2,c⟩,r⟩:=x
  exact⟨ho _ d,z,ne,k _ _ (.inl rfl) e,mA,⟨od,es,ep,k _ _ (.inr d) e2,c⟩,r⟩
 | own y=>obtain⟨ob,e⟩:=x;exact⟨ob,k _ _ (.inl rfl) e⟩
 | xd fs=>obtain⟨mA,⟨od,es,ep,e,c⟩,r⟩:=x;exact⟨mA,⟨od,es,ep,k _ _ (.inl rfl) e,c⟩,r⟩
 | rng lo hi=>obtain⟨t,u,v,e⟩:=x;exact⟨t,u,v,k _ _ (.inl rfl) e⟩
 | IK ob u ih=>obtain⟨e,q⟩:=x;exact⟨k _ _ (.inl rfl) e,ih q⟩
 | Vh ps =>
  have e:h.get? a=some { cls:=.none,data:=.fields ps }:=x
  show h'.get? a=some { cls:=.none,data:=.fields ps }
  exact k a _ (.inl rfl) e
 | met f y =>
  have e:h.get? a=some (W.methodObj (.ref f) (.ref y)):=x
  show h'.get? a=some (W.methodObj (.ref f) (.ref y))
  exact k a _ (.inl rfl) e
 | ext φ=>obtain⟨p,⟨o,e⟩,st⟩:=x;exact⟨st _ _ p fun o q=>k _ _ (.inl rfl) q,⟨o,k _ _ (.inl rfl) e⟩,st⟩
theorem wX.lt (x:wX P w H h) (e:H a=some o):a < h.objs.size:=(x a o e).lt
theorem wX.fresh (x:wX P w H h) (e:h.objs.size≤a):H a=none:=by
 cases q:H a with
 | none=>rfl
 | some u=>exact absurd (Nat.lt_of_lt_of_le (x.lt q) e) (Nat.lt_irrefl _)
theorem wX.kept (x:wX P w H h) (k:∀ b u,h.get? b=some u→h'.get? b=some u):wX P w H h':=fun a o e =>
 (x a o e).stay (fun b u _ q=>k b u q) (fun _ q=>q) fun _ _ q=>q
theorem wX.laid (x:wX P w H h) (k:∀ b u,h.get? b=some u→h'.get? b=some u) (hp:h.objs.size≤a) (new:eY P w (upd H a o) h' a o):wX P w (upd H a o) h':=fun b u e=>by
 have hn:=x.fresh hp
 by_cases hb:b=a
 ·subst hb;rw[ah] at e;cases e;exact new
 ·rw[aF hb] at e
  exact(x b u e).stay (fun c v _ q=>k c v q) (fun c q=>by rw[aF (aW q hn)];exact q) fun c xs q=>by rw[aF (aW q hn)];exact q
end
def Rd (H:Hp) (a:Addr) (u:HO):Prop:=H a=some u∨∃ o,H a=some (.IK o u)
theorem Rd.ok {P:Program}{w:World}{H:Hp}{h:Heap}{a:Addr}{u:HO} (r:Rd H a u) (x:wX P w H h):eY P w H h a u:=by
 rcases r with r | ⟨o,r⟩
 ·exact x a u r
 ·obtain⟨_,q⟩:=x a _ r
  exact q
def Mut:Option HO→Prop
 | some (.lst _)=>True
 | some (.dK _)=>True
 | some (.dT _)=>True
 | some (.set _ _)=>True
 | some (.ins _ _ _)=>True
 | some (.ext _)=>True
 | _=>False
section
variable {P:Program}{w:World}{H:Hp}{h h':Heap}{x e:Addr}{o':HO}
theorem wX.write (ok:wX P w H h) (mu:Mut (H x)) (he:e=x∨H e=some (.own x)) (k:∀ b u,b≠e→h.get? b=some u→h'.get? b=some u) (Zb:∃ u,h'.get? e=some u)
  (new:eY P w (upd H x o') h' x o'):wX P w (upd H x o') h':=fun b u q=>by
 have ZE:∀ c y,H c=some (.own y)→c≠x:=fun c y r z=>by subst z;rw[r] at mu;exact mu
 have ae7:∀ c xs,H c=some (.tup xs)→c≠x:=fun c xs r z=>by subst z;rw[r] at mu;exact mu
 by_cases hb:b=x
 ·subst hb;rw[ah] at q;cases q;exact new
 ·rw[aF hb] at q
  by_cases VQ:b=e
  ·have q':H b=some (.own x):=by
    rcases he with z | z
    ·exact absurd (VQ.trans z) hb
    ·rw[VQ];exact z
   rw[q] at q';cases q'
   obtain⟨v,hv⟩:=Zb
   exact⟨v,by rw[VQ];exact hv⟩
  ·refine(ok b u q).stay (fun c v hc r=>k c v ?_ r) (fun c r=>by rw[aF (ZE c b r)];exact r) fun c xs r=>by rw[aF (ae7 c xs r)];exact r
   rcases hc with rfl | hc
   ·exact VQ
   ·rintro rfl
    rcases he with z | z
    ·exact ZE c b hc z
    ·rw[hc] at z;cases z;exact hb rfl
end
structure Un (fs ex:List Addr) (H H':Hp) (h h':Heap):Prop where
 keep:∀ b o,h.get? b=some o→H b=none→b∉fs→b∉ex→h'.get? b=some o
 slot:∀ b o,h.get? b=some o→H b=none→b∈fs→b∉ex→∃ sl,h'.get? b=some { o with slots:=sl }
 free:∀ b o,h.get? b=some o→H b=none→b∉ex→H' b=none
 there:∀ b o,h.get? b=some o→b∉ex→∃ o',h'.get? b=some o'
 tups:∀ b xs,H b=some (.tup xs)→H' b=some (.tup xs)
 wZ:∀ b o u,H b=some (.IK o u)→H' b=some (.IK o u)
 yQ:∀ b ps,H b=some (.Vh ps)→∃ more,H' b=some (.Vh (ps++more))
section
variable {fs fs' ex ex':List Addr}{H H1 H2:Hp}{h h1 h2 h':Heap}{a x e:Addr}{o:HO}
theorem Un.any (u:Un fs ex H H1 h h1) {b:Addr}{ob:Obj} (q:h.get? b=some ob) (n:H b=none) (hx:b∉ex):∃ sl,h1.get? b=some { ob with slots:=sl }:=by
 by_cases hb:b∈fs
 ·exact u.slot b ob q n hb hx
 ·exact⟨ob.slots,u.keep b ob q n hb hx⟩
theorem Un.kept (k:∀ b u,h.get? b=some u→h'.get? b=some u):Un fs ex H H h h' :=
 ⟨fun b ob q _ _ _=>k b ob q,fun b ob q _ _ _=>⟨ob.slots,k b ob q⟩,fun _ _ _ n _=>n,fun b ob q _=>⟨ob,k b ob q⟩,fun _ _ q=>q,fun _ _ _ q=>q,fun _ ps q=>⟨#[],by rw[q];simp⟩⟩
theorem Un.refl:Un fs ex H H h h:=Un.kept fun _ _ q=>q
theorem Un.laid (k:∀ b u,h.get? b=some u→h'.get? b=some u) (hp:h.objs.size≤a) (hn:H a=none):Un fs ex H (upd H a o) h h' where
 keep:=fun b u q _ _ _=>k b u q
 slot:=fun b u q _ _ _=>⟨u.slots,k b u q⟩
 free:=fun b u q n _=>by rw[aF (Nat.ne_of_lt (Nat.lt_of_lt_of_le (Heap.lt_size q) hp))];exact n
 there:=fun b u q _=>⟨u,k b u q⟩
 tups:=fun b xs q=>by rw[aF (aW q hn)];exact q
 wZ:=fun b u xs q=>by rw[aF (aW q hn)];exact q
 yQ:=fun b ps q=>⟨#[],by rw[aF (aW q hn),q];simp⟩
theorem Un.write (mu:Mut (H x)) (he:e=x∨H e=some (.own x)) (k:∀ b u,b≠e→h.get? b=some u→h'.get? b=some u) (Zb:∃ u,h'.get? e=some u):Un fs ex H (upd H x o) h h':=by
 have hx:∀ b,H b=none→b≠x:=fun b n z=>by subst z;rw[n] at mu;exact mu
 have hb:∀ b,H b=none→b≠e:=fun b n z=>by
  subst z
  rcases he with r | r
  ·exact hx b n r
  ·rw[n] at r;cases r
 have hm:∀ b u,H b=some u→¬Mut (some u)→b≠x:=fun b u q nm z=>by subst z;rw[q] at mu;exact nm mu
 refine⟨fun b u q n _ _=>k b u (hb b n) q,fun b u q n _ _=>⟨u.slots,k b u (hb b n) q⟩,fun b u q n _=>by rw[aF (hx b n)];exact n,fun b u q _=>?_,
  fun b xs q=>by rw[aF (hm b _ q fun z=>z)];exact q,fun b u xs q=>by rw[aF (hm b _ q fun z=>z)];exact q,fun b ps q=>⟨#[],by rw[aF (hm b _ q fun z=>z),q];simp⟩⟩
 by_cases VQ:b=e
 ·subst VQ;exact Zb
 ·exact⟨u,k b u VQ q⟩
end
def trk (h:Heap) (H:Hp):List Addr:=(List.range h.objs.size).filter fun a=>(H a).isSome
def D5 (h:Heap) (H:Hp):Heap:=W.hideAll h (trk h H)
theorem MD (h:Heap) (H:Hp):(D5 h H).objs.size=h.objs.size:=W.hideAll_size _ _
theorem Pj {h:Heap}{H:Hp}{b:Addr}{o:Obj} (e:h.get? b=some o) (n:H b=none):(D5 h H).get? b=some o :=
 W.hideAll_get _ e fun hm=>by
  have q:(H b).isSome=true:=(List.mem_filter.mp hm).2
  rw[n] at q;simp at q
theorem SY {h:Heap}{H:Hp}{b:Addr}{o:Obj} (e:(D5 h H).get? b=some o):h.get? b=some o∧H b=none:=by
 have e':h.get? b=some o:=W.of_hideAll (trk h H) e
 refine⟨e',?_⟩
 cases q:H b with
 | none=>rfl
 | some x =>
  have hm:b∈trk h H:=List.mem_filter.mpr ⟨List.mem_range.mpr (Heap.lt_size e'),by simp[q]⟩
  have z:(D5 h H).get? b=none:=W.hideAll_none (trk h H) hm
  rw[z] at e;cases e
def S0 (g h:Heap) (L:Addr):List (Addr×Obj):=(List.range h.objs.size).filterMap fun a=>if a=L∨(g.get? a).isSome=true then none else (h.get? a).map fun o=>(a,o)
def rest (g h:Heap) (L d:Addr):List (Addr×Obj):=(S0 g h L).filter fun p=>decide (p.1≠d)
structure Mod (K:W.Frag) (mg:Str→Option Value) (base:Heap):Prop where
 j8:K.In base
 glob:base.Ns mainGlobals mg
 blt:∃ mb,base.Ns builtinsNs mb∧∀ x:Str,x ≠ "__name__"→mb x=bootBuiltins x
 nolimit:base.NoLimit
structure Cx where
 prog:Program
 w:World
 K:W.Frag
 mg:Str→Option Value
 base:Heap
 A:Around
 N:List Str
 s₀:Shared
 H₀:Hp
 env:Env
 outer:List Env
 stack:List Env
 ex:List Addr
 fn:Str→Bool
 calm:Bool
 pn:List (Addr×Obj)
 xe:Value→Shared→Prop
def frs (l:List Env):List Addr:=l.filterMap (·.frame)
abbrev Cx.fs (X:Cx):List Addr:=frs X.outer
def Vis (sc:Scope) (x:Str):Prop:=sc.names.lookup x=some .local∨sc.names.lookup x=some .cell∨sc.names.lookup x=some .free
def Loc (sc:Scope) (x:Str):Prop:=sc.names.lookup x=some .local∨sc.names.lookup x=some .cell
def Look (env:Env) (h:Heap) (m:Str→Option Value) (x:Str) (u:Value):Prop :=
 (env.kindOf x=some .local∧m x=some u)∨((env.kindOf x=some .cell∨env.kindOf x=some .free)∧∃ c,env.cells.lookup x=some c∧h.IsCell c (some u))
structure Cx.Ok (X:Cx):Prop where
 mod:Mod X.K X.mg X.base
 kind:X.env.scope.kind=.function
 glob:X.env.globals=mainGlobals
 blt:X.env.builtins=builtinsNs
 above:X.s₀.heap.objs.size≤X.env.locals
 inj:∀ x y c,X.env.cells.lookup x=some c→X.env.cells.lookup y=some c→x=y
 has:∀ x,(X.env.kindOf x=some .cell∨X.env.kindOf x=some .free)→∃ c,X.env.cells.lookup x=some c
 VR:∀ x c,X.fn x=true→X.env.cells.lookup x=some c→X.s₀.heap.objs.size≤c
 hd:X.calm=true→X.A.handled=none
 frames:X.A.frames=some X.stack
 stk:X.stack=X.outer∨(X.stack=X.env :: X.outer∧X.env.frame=some X.env.locals)
 exf:∀ b∈X.ex,b≠X.env.locals∧∀ x c,X.env.cells.lookup x=some c→c≠b
 bs:∀ b o,X.base.get? b=some o→X.s₀.heap.get? b=some o∧X.H₀ b=none
 O9:X.base.objs.size≤X.s₀.heap.objs.size
 IL:∀ b o,X.base.get? b=some o→b∉X.ex
 ME:∀ b∈X.ex,b∉X.fs
 uE:X.s₀.heap.FunFrames X.base X.outer
 SK:∀ b∈X.fs,X.H₀ b=none
structure Inv (X:Cx) (pins:List (Addr×Obj)) (σ:List (Option V)) (H:Hp) (s:Shared):Prop where
 ok:X.Ok
 os:s.os=X.s₀.os
 bare:AllBare s.gens
 base:Un X.fs X.ex X.H₀ H X.s₀.heap s.heap
 loc:∃ m,s.heap.Ns X.env.locals m∧∀(i:Nat) (x:Str) (v:V),X.N[i]? = some x→σ[i]? = some (some v)→Vis X.env.scope x→∃ u,RelV v u∧Look X.env s.heap m x u
 cell:∀ x c,X.env.cells.lookup x=some c→∃ v,s.heap.IsCell c v
 free:H X.env.locals=none
 ly:∀ x c,X.env.cells.lookup x=some c→H c=none
 pin:∀ p∈X.pn++pins,s.heap.get? p.1=some p.2∧H p.1=none∧p.1≠X.env.locals∧p.1∉X.fs∧∀ v,p.2.data≠.cell v
 hok:wX X.prog X.w H s.heap
 len:σ.length=X.N.length
section
variable {X:Cx}{pins:List (Addr×Obj)}{σ:List (Option V)}{H H':Hp}{s:Shared}{h':Heap}
theorem Cx.Ok.ae8 (ok:X.Ok) {b:Addr}{o:Obj} (e:X.base.get? b=some o):b∉X.fs:=fun hb=>by
 have:=(ok.uE.mem hb).1
 rw[e] at this;cases this
theorem Inv.bs (I:Inv X pins σ H s):∀ b o,X.base.get? b=some o→s.heap.get? b=some o∧H b=none:=fun b o e =>
 ⟨I.base.keep b o (I.ok.bs b o e).1 (I.ok.bs b o e).2 (I.ok.ae8 e) (I.ok.IL b o e),I.base.free b o (I.ok.bs b o e).1 (I.ok.bs b o e).2 (I.ok.IL b o e)⟩
theorem Inv.bk (I:Inv X pins σ H s):∀ b o,X.base.get? b=some o→s.heap.get? b=some o:=fun b o e=>(I.bs b o e).1
theorem Inv.mod (I:Inv X pins σ H s):Mod X.K X.mg X.base:=I.ok.mod
theorem Inv.nU (I:Inv X pins σ H s):X.K.In s.heap:=I.ok.mod.j8.keeps I.bk
theorem Inv.lt (I:Inv X pins σ H s):X.env.locals < s.heap.objs.size:=let ⟨_,hn,_⟩:=I.loc;hn.lt
theorem Inv.sz (I:Inv X pins σ H s):X.s₀.heap.objs.size≤s.heap.objs.size:=Nat.le_trans I.ok.above (Nat.le_of_lt I.lt)
theorem Inv.ae9 (I:Inv X pins σ H s) {a:Addr} (h:s.heap.objs.size≤a):a∉X.fs:=fun hb=>by
 obtain⟨_,o,ho,_⟩:=I.ok.uE.mem hb
 exact absurd (Nat.lt_of_lt_of_le (Heap.lt_size ho) (Nat.le_trans I.sz h)) (Nat.lt_irrefl _)
theorem Inv.S3 (I:Inv X pins σ H s):∀ x c,X.env.cells.lookup x=some c→c≠X.env.locals:=fun x c e z=>by
 obtain⟨v,o,ho,hd⟩:=I.cell x c e
 obtain⟨m,⟨o',es,ep,ho',hd',_⟩,_⟩:=I.loc
 rw[z,ho'] at ho;cases ho;rw[hd'] at hd;cases hd
theorem Inv.uE (I:Inv X pins σ H s):s.heap.FunFrames X.base X.outer:=by
 have all:∀(l:List Env),(∀ b∈frs l,b∈X.fs)→X.s₀.heap.FunFrames X.base l→s.heap.FunFrames X.base l:=by
  intro l
  induction l with
  | nil=>intro _ _;trivial
  | cons env r ih =>
   intro hs hl
   obtain⟨hk,⟨L,o,hf,hn,ho,hd⟩,hr⟩:=hl
   have hL:L∈X.fs:=hs L (by unfold frs;rw[List.filterMap_cons,hf];exact List.mem_cons_self)
   obtain⟨sl,e⟩:=I.base.slot L o ho (I.ok.SK L hL) hL fun z=>I.ok.ME L z hL
   exact⟨hk,⟨L,_,hf,hn,e,hd⟩,ih (fun b hb=>hs b (by unfold frs;rw[List.filterMap_cons,hf];exact List.mem_cons_of_mem _ hb)) hr⟩
 exact all X.outer (fun _ hb=>hb) I.ok.uE
theorem Inv.stack (I:Inv X pins σ H s):s.heap.FunFrames X.base X.stack:=by
 rcases I.ok.stk with e | ⟨e,hf⟩
 ·rw[e];exact I.uE
 ·rw[e]
  obtain⟨m,hn,_⟩:=I.loc
  refine .cons (by rw[I.ok.kind];decide) hf hn ?_ I.uE
  exact Heap.get?_none_of_le (Nat.le_trans I.ok.O9 I.ok.above)
theorem Inv.Aa (I:Inv X pins σ H s):∀ b∈frs X.stack,b∈X.env.locals :: X.fs:=fun b hb=>by
 rcases I.ok.stk with e | ⟨e,hf⟩
 ·rw[e] at hb;exact List.mem_cons_of_mem _ hb
 ·rw[e] at hb
  unfold frs at hb
  rw[List.filterMap_cons,hf] at hb
  exact hb
theorem Inv.D6 (I:Inv X pins σ H s):∀ b∈frs X.stack,H b=none:=fun b hb=>by
 rcases List.mem_cons.mp (I.Aa b hb) with e | hb
 ·rw[e];exact I.free
 ·obtain⟨_,o,ho,_⟩:=I.ok.uE.mem hb
  exact I.base.free b o ho (I.ok.SK b hb) fun z=>I.ok.ME b z hb
theorem Inv.step {g':Array GenState}{t':Nat}{d':Drawn}{ch:List Addr} (I:Inv X pins σ H s)
  (hch:∀ b∈ch,(b∈X.ex∨X.s₀.heap.objs.size≤b)∧b≠X.env.locals∧(∀ x c,X.env.cells.lookup x=some c→c≠b)∧∀ p∈X.pn++pins,p.1≠b)
  (keep:∀ b o,b≠X.env.locals→b∉X.fs→b∉ch→s.heap.get? b=some o→H b=none→h'.get? b=some o)
  (slot:∀ b o,b≠X.env.locals→b∈X.fs→b∉ch→s.heap.get? b=some o→H b=none→∃ sl,h'.get? b=some { o with slots:=sl }) (free:∀ b o,b∉ch→s.heap.get? b=some o→H b=none→H' b=none)
  (there:∀ b o,b∉ch→s.heap.get? b=some o→∃ o',h'.get? b=some o')
  (tups:∀ b xs,H b=some (.tup xs)→H' b=some (.tup xs)) (wZ:∀ b o u,H b=some (.IK o u)→H' b=some (.IK o u)) (yQ:∀ b ps,H b=some (.Vh ps)→∃ more,H' b=some (.Vh (ps++more)))
  (ns:∀ m,s.heap.Ns X.env.locals m→h'.Ns X.env.locals m) (hok:wX X.prog X.w H' h') (hg:AllBare g') :
  Inv X pins σ H' { s with heap:=h',gens:=g',drawn:=d',toks:=t' }:=by
 have neL:∀ b o,X.s₀.heap.get? b=some o→b≠X.env.locals:=fun b o e=>Nat.ne_of_lt (Nat.lt_of_lt_of_le (Heap.lt_size e) I.ok.above)
 have neC:∀ b o,X.s₀.heap.get? b=some o→b∉X.ex→b∉ch:=fun b o e hx hb=>by
  rcases(hch b hb).1 with z | z
  ·exact hx z
  ·exact absurd (Nat.lt_of_lt_of_le (Heap.lt_size e) z) (Nat.lt_irrefl _)
 have cellK:∀ x c,X.env.cells.lookup x=some c→∀ v,s.heap.IsCell c v→h'.IsCell c v:=fun x c e v ⟨o,ho,hd⟩=>by
  have SM:c∉ch:=fun z=>(hch c z).2.2.1 x c e rfl
  by_cases hc:c∈X.fs
  ·obtain⟨sl,q⟩:=slot c o (I.S3 x c e) hc SM ho (I.ly x c e)
   exact⟨_,q,hd⟩
  ·exact⟨o,keep c o (I.S3 x c e) hc SM ho (I.ly x c e),hd⟩
 refine⟨I.ok,I.os,hg,⟨fun b o e n hb hx=>?_,fun b o e n hb hx=>?_,fun b o e n hx=>?_,fun b o e hx=>?_,fun b xs e=>tups b xs (I.base.tups b xs e),fun b o xs e=>wZ b o xs (I.base.wZ b o xs e),fun b ps e=>?_⟩,?_,fun x c e=>?_,?_,fun x c e=>?_,fun p hp=>?_,hok,I.len⟩
 ·exact keep b o (neL b o e) hb (neC b o e hx) (I.base.keep b o e n hb hx) (I.base.free b o e n hx)
 ·obtain⟨sl,e1⟩:=I.base.slot b o e n hb hx
  obtain⟨sl',e2⟩:=slot b _ (neL b o e) hb (neC b o e hx) e1 (I.base.free b o e n hx)
  exact⟨sl',e2⟩
 ·obtain⟨o',e1⟩:=I.base.there b o e hx
  exact free b o' (neC b o e hx) e1 (I.base.free b o e n hx)
 ·obtain⟨o',e1⟩:=I.base.there b o e hx
  exact there b o' (neC b o e hx) e1
 ·obtain⟨m1,e1⟩:=I.base.yQ b ps e
  obtain⟨m2,e2⟩:=yQ b _ e1
  exact⟨m1++m2,by rw[e2,Array.append_assoc]⟩
 ·obtain⟨m,hn,hl⟩:=I.loc
  refine⟨m,ns m hn,fun i x v e1 e2 e3=>?_⟩
  obtain⟨u,r,l⟩:=hl i x v e1 e2 e3
  refine⟨u,r,?_⟩
  rcases l with l | ⟨k,c,e,z⟩
  ·exact .inl l
  ·exact .inr ⟨k,c,e,cellK x c e _ z⟩
 ·obtain⟨v,z⟩:=I.cell x c e
  exact⟨v,cellK x c e v z⟩
 ·obtain⟨m,⟨o,_,_,ho,_⟩,_⟩:=I.loc
  exact free _ o (fun z=>(hch _ z).2.1 rfl) ho I.free
 ·obtain⟨v,o,ho,hd⟩:=I.cell x c e
  exact free c o (fun z=>(hch c z).2.2.1 x c e rfl) ho (I.ly x c e)
 ·obtain⟨e,n,ne,nf,d⟩:=I.pin p hp
  have SM:p.1∉ch:=fun z=>(hch p.1 z).2.2.2 p hp rfl
  exact⟨keep p.1 p.2 ne nf SM e n,free p.1 p.2 SM e n,ne,nf,d⟩
theorem Inv.un {t':Nat} (I:Inv X pins σ H s) (u:Un X.fs [] H H' s.heap h') (hok:wX X.prog X.w H' h'):Inv X pins σ H' { s with heap:=h',toks:=t' }:=by
 obtain⟨m,⟨o,es,ep,ho,r⟩,_⟩:=id I.loc
 obtain⟨sl,hL⟩:=u.any ho I.free (by simp)
 exact I.step (g':=s.gens) (d':=s.drawn) (ch:=[]) (fun _ z=>nomatch z) (fun b o _ hb _ e n=>u.keep b o e n hb (by simp)) (fun b o _ hb _ e n=>u.slot b o e n hb (by simp)) (fun b o _ e n=>u.free b o e n (by simp)) (fun b o _ e=>u.there b o e (by simp)) u.tups u.wZ u.yQ (fun m' hm=>by
  obtain⟨o',es',ep',ho',r'⟩:=hm
  rw[ho] at ho';cases ho'
  exact⟨_,es',ep',hL,r'⟩) hok I.bare
theorem Inv.call {g':Array GenState}{t':Nat}{d':Drawn}{ch:List Addr} (I:Inv X pins σ H s) (u:Un (frs X.stack) ch H H' s.heap h') (hok:wX X.prog X.w H' h') (hg:AllBare g')
  (hch:∀ b∈ch,(b∈X.ex∨X.s₀.heap.objs.size≤b)∧b≠X.env.locals∧(∀ x c,X.env.cells.lookup x=some c→c≠b)∧∀ p∈X.pn++pins,p.1≠b) :
  Inv X pins σ H' { s with heap:=h',gens:=g',drawn:=d',toks:=t' }:=by
 obtain⟨m,⟨o,es,ep,ho,r⟩,_⟩:=id I.loc
 obtain⟨sl,hL⟩:=u.any ho I.free fun z=>(hch _ z).2.1 rfl
 exact I.step (ch:=ch) hch (fun b o hL hb hc e n=>u.keep b o e n (fun z=>(List.mem_cons.mp (I.Aa b z)).elim hL hb) hc) (fun b o _ _ hc e n=>u.any e n hc) (fun b o hc e n=>u.free b o e n hc) (fun b o hc e=>u.there b o e hc) u.tups u.wZ u.yQ (fun m' hm=>by
  obtain⟨o',es',ep',ho',r'⟩:=hm
  rw[ho] at ho';cases ho'
  exact⟨_,es',ep',hL,r'⟩) hok hg
theorem Inv.turned {t':Nat}{it:Addr} (I:Inv X pins σ H s) (k:∀ b o,b≠it→s.heap.get? b=some o→h'.get? b=some o) (hn:H it=none) (hL:it≠X.env.locals)
  (h1:it∈X.ex∨X.s₀.heap.objs.size≤it) (h2:∀ x c,X.env.cells.lookup x=some c→c≠it) (h3:∀ p∈X.pn++pins,p.1≠it):Inv X pins σ H { s with heap:=h',toks:=t' }:=by
 have ZF:∀ b u,H b=some u→b≠it:=fun b u e z=>by rw[z,hn] at e;cases e
 refine I.step (g':=s.gens) (d':=s.drawn) (ch:=[it]) (fun b hb=>?_) (fun b o _ _ hc e _=>k b o (fun z=>hc (by simp[z])) e) (fun b o _ _ hc e _=>⟨o.slots,k b o (fun z=>hc (by simp[z])) e⟩) (fun _ _ _ _ n=>n)
  (fun b o hc e=>⟨o,k b o (fun z=>hc (by simp[z])) e⟩) (fun _ _ e=>e) (fun _ _ _ e=>e) (fun b ps e=>⟨#[],by rw[e];simp⟩) (fun m hm=>?_) (fun b u e=>?_) I.bare
 ·have e:b=it:=by simpa using hb
  subst e
  exact⟨h1,hL,h2,h3⟩
 ·obtain⟨o,es,ep,ho,r⟩:=hm
  exact⟨o,es,ep,k _ o (Ne.symm hL) ho,r⟩
 ·refine(I.hok b u e).stay (fun c v hc q=>k c v ?_ q) (fun _ q=>q) fun _ _ q=>q
  rcases hc with z | z
  ·rw[z];exact ZF b u e
  ·exact ZF c _ z
theorem Inv.tok (I:Inv X pins σ H s) (t:Nat):Inv X pins σ H { s with toks:=t }:=I.un (h':=s.heap) (t':=t) Un.refl I.hok
theorem Inv.kept {t':Nat} (I:Inv X pins σ H s) (k:∀ b u,s.heap.get? b=some u→h'.get? b=some u):Inv X pins σ H { s with heap:=h',toks:=t' }:=I.un (Un.kept k) (I.hok.kept k)
theorem Inv.laid {a:Addr}{o:HO}{t':Nat} (I:Inv X pins σ H s) (k:∀ b u,s.heap.get? b=some u→h'.get? b=some u) (hp:s.heap.objs.size≤a) (new:eY X.prog X.w (upd H a o) h' a o) :
 Inv X pins σ (upd H a o) { s with heap:=h',toks:=t' }:=I.un (Un.laid k hp (I.hok.fresh hp)) (I.hok.laid k hp new)
theorem Inv.write {x e:Addr}{o:HO}{t':Nat} (I:Inv X pins σ H s) (mu:Mut (H x)) (he:e=x∨H e=some (.own x)) (k:∀ b u,b≠e→s.heap.get? b=some u→h'.get? b=some u) (Zb:∃ u,h'.get? e=some u)
 (new:eY X.prog X.w (upd H x o) h' x o):Inv X pins σ (upd H x o) { s with heap:=h',toks:=t' }:=I.un (Un.write mu he k Zb) (I.hok.write mu he k Zb new)
theorem Inv.Lx {Vi:List (Addr×Obj)} (I:Inv X pins σ H s) (h:∀ p∈Vi,s.heap.get? p.1=some p.2∧H p.1=none∧p.1≠X.env.locals∧p.1∉X.fs∧∀ v,p.2.data≠.cell v):Inv X Vi σ H s :=
 ⟨I.ok,I.os,I.bare,I.base,I.loc,I.cell,I.free,I.ly,fun p hp=>(List.mem_append.mp hp).elim (fun z=>I.pin p (List.mem_append_left _ z)) (h p),I.hok,I.len⟩
theorem Ab {N:List Str} (hN:N.Nodup) {i j:Nat}{x:Str} (a:N[i]? = some x) (b:N[j]? = some x):i=j:=by
 obtain⟨h1,e1⟩:=List.getElem?_eq_some_iff.mp a
 obtain⟨h2,e2⟩:=List.getElem?_eq_some_iff.mp b
 exact(List.getElem_inj hN).mp (e1.trans e2.symm)
theorem De {M:Model}{A:Around}{E:Value→Shared→Prop}{i:Nat}{x:Str}{v:V}{u:Value}{Q:Unit→Shared→Prop} (I:Inv X pins σ H s) (hN:X.N.Nodup) (hi:X.N[i]? = some x) (hx:Loc X.env.scope x) (r:RelV v u)
  (h:∀ s',Inv X pins (σ.set i (some v)) H s'→(∃ a,Heap.SameBut a s.heap s'.heap∧(a=X.env.locals∨X.env.cells.lookup x=some a))→Q () s') (hf:X.fn x=true∨X.env.scope.names.lookup x=some .local:=by first | exact .inl rfl | exact .inr rfl | assumption):wpAny M A (storeName X.env x u) Q E s:=by
 obtain⟨m,hn,hl⟩:=id I.loc
 have hcls:(X.env.scope.kind == .class || (X.env.scope.kind == .module && X.env.locals != X.env.globals))=false:=by rw[I.ok.kind];rfl
 have ZG:i < σ.length:=by rw[I.len];exact(List.getElem?_eq_some_iff.mp hi).1
 have S3:=I.S3
 have tracked:∀{a:Addr}{h':Heap},(∃ o,s.heap.get? a=some o∧H a=none)→Heap.SameBut a s.heap h'→wX X.prog X.w H h':=fun {a h'} ha hs b ob e=>by
  obtain⟨_,_,hfree⟩:=ha
  refine(I.hok b ob e).stay (fun c w' hc q=>(hs.2 c ?_).trans q) (fun _ q=>q) fun _ _ q=>q
  rintro rfl
  rcases hc with rfl | hc
  ·rw[hfree] at e;cases e
  ·rw[hfree] at hc;cases hc
 rcases hx with hk | hk
 ·refine wpAny_storeName_local hk hn (fun h' hn' hs=>?_) hcls
  obtain⟨oL,_,_,hoL,_⟩:=id hn
  refine h _ ⟨I.ok,I.os,I.bare,⟨fun b o e n hb hx=>?_,fun b o e n hb hx=>?_,I.base.free,fun b o e hx=>?_,I.base.tups,I.base.wZ,I.base.yQ⟩,⟨_,hn',fun j y v' e1 e2 e3=>?_⟩,fun y c e=>?_,I.free,I.ly,fun p hp=>?_,tracked ⟨oL,hoL,I.free⟩ hs,by simpa using I.len⟩ ⟨_,hs,.inl rfl⟩
  ·exact(hs.2 b (Nat.ne_of_lt (Nat.lt_of_lt_of_le (Heap.lt_size e) I.ok.above))).trans (I.base.keep b o e n hb hx)
  ·obtain⟨sl,e1⟩:=I.base.slot b o e n hb hx
   exact⟨sl,(hs.2 b (Nat.ne_of_lt (Nat.lt_of_lt_of_le (Heap.lt_size e) I.ok.above))).trans e1⟩
  ·obtain⟨o',e1⟩:=I.base.there b o e hx
   exact⟨o',(hs.2 b (Nat.ne_of_lt (Nat.lt_of_lt_of_le (Heap.lt_size e) I.ok.above))).trans e1⟩
  ·by_cases hj:j=i
   ·subst hj
    rw[hi] at e1;cases e1
    rw[List.getElem?_set_self ZG] at e2
    cases e2
    exact⟨u,r,.inl ⟨hk,by simp⟩⟩
   ·rw[List.getElem?_set_ne (Ne.symm hj)] at e2
    obtain⟨u',r',q⟩:=hl j y v' e1 e2 e3
    refine⟨u',r',?_⟩
    rcases q with ⟨k,e⟩ | ⟨k,c,e,z⟩
    ·refine .inl ⟨k,?_⟩
     have:y≠x:=fun e=>hj (Ab hN e1 (e ▸ hi))
     simp[this,e]
    ·exact .inr ⟨k,c,e,z.sameBut hs (S3 y c e)⟩
  ·obtain⟨w',z⟩:=I.cell y c e
   exact⟨w',z.sameBut hs (S3 y c e)⟩
  ·obtain⟨e,n,ne,nf,d⟩:=I.pin p hp
   exact⟨(hs.2 p.1 ne).trans e,n,ne,nf,d⟩
 ·have hfn:X.fn x=true:=by
   rcases hf with z | z
   ·exact z
   ·rw[z] at hk;cases hk
  obtain⟨c,hc⟩:=I.ok.has x (.inl hk)
  obtain⟨w',z⟩:=I.cell x c hc
  refine wpAny_storeName_cell I.ok.kind hk hc z (fun h' hc' hs=>?_)
  obtain⟨oc,hoc,afa⟩:=id z
  refine h { s with heap:=h' } ⟨I.ok,I.os,I.bare,⟨fun b o e n hb hx=>?_,fun b o e n hb hx=>?_,I.base.free,fun b o e hx=>?_,I.base.tups,I.base.wZ,I.base.yQ⟩,⟨m,hn.sameBut hs (Ne.symm (S3 x c hc)),fun j y v' e1 e2 e3=>?_⟩,fun y c' e=>?_,I.free,I.ly,fun p hp=>?_,tracked ⟨oc,hoc,I.ly x c hc⟩ hs,by simpa using I.len⟩ ⟨c,hs,.inr hc⟩
  ·exact(hs.2 b (Nat.ne_of_lt (Nat.lt_of_lt_of_le (Heap.lt_size e) (I.ok.VR x c hfn hc)))).trans (I.base.keep b o e n hb hx)
  ·obtain⟨sl,e1⟩:=I.base.slot b o e n hb hx
   exact⟨sl,(hs.2 b (Nat.ne_of_lt (Nat.lt_of_lt_of_le (Heap.lt_size e) (I.ok.VR x c hfn hc)))).trans e1⟩
  ·obtain⟨o',e1⟩:=I.base.there b o e hx
   exact⟨o',(hs.2 b (Nat.ne_of_lt (Nat.lt_of_lt_of_le (Heap.lt_size e) (I.ok.VR x c hfn hc)))).trans e1⟩
  ·by_cases hj:j=i
   ·subst hj
    rw[hi] at e1;cases e1
    rw[List.getElem?_set_self ZG] at e2
    cases e2
    exact⟨u,r,.inr ⟨.inl hk,c,hc,hc'⟩⟩
   ·rw[List.getElem?_set_ne (Ne.symm hj)] at e2
    obtain⟨u',r',q⟩:=hl j y v' e1 e2 e3
    refine⟨u',r',?_⟩
    rcases q with q | ⟨k,c',e,z'⟩
    ·exact .inl q
    ·refine .inr ⟨k,c',e,z'.sameBut hs ?_⟩
     rintro rfl
     exact hj (Ab hN e1 (I.ok.inj _ _ _ e hc ▸ hi))
  ·by_cases hcc:c'=c
   ·subst hcc;exact⟨_,hc'⟩
   ·obtain⟨w2,z2⟩:=I.cell y c' e
    exact⟨w2,z2.sameBut hs hcc⟩
  ·obtain⟨e,n,ne,nf,d⟩:=I.pin p hp
   refine⟨(hs.2 p.1 ?_).trans e,n,ne,nf,d⟩
   intro q
   rw[q,hoc] at e
   have q':oc=p.2:=Option.some.inj e
   exact d w' (by rw[←q'];exact afa)
theorem vo {M:Model}{A:Around}{E:Value→Shared→Prop}{i:Nat}{x:Str}{v:V}{u:Value}{Q:Unit→Shared→Prop} (I:Inv X pins σ H s) (hN:X.N.Nodup) (hi:X.N[i]? = some x) (hx:Loc X.env.scope x) (r:RelV v u)
  (h:∀ s',Inv X pins (σ.set i (some v)) H s'→Q () s') (hf:X.fn x=true∨X.env.scope.names.lookup x=some .local:=by first | exact .inl rfl | exact .inr rfl | assumption):wpAny M A (storeName X.env x u) Q E s :=
 De I hN hi hx r (fun s' I' _=>h s' I') hf
theorem Inv.Ly {s':Shared}{ch:List Addr} (I:Inv X pins σ H s) (ho:s'.os=s.os) (u:Un (frs X.stack) ch H H' s.heap s'.heap) (hok:wX X.prog X.w H' s'.heap) (hg:AllBare s'.gens)
  (hch:∀ b∈ch,(b∈X.ex∨X.s₀.heap.objs.size≤b)∧b≠X.env.locals∧(∀ x c,X.env.cells.lookup x=some c→c≠b)∧∀ p∈X.pn++pins,p.1≠b):Inv X pins σ H' s':=by
 obtain⟨h',g',d',t',o'⟩:=s'
 have e:o'=s.os:=ho
 subst e
 exact I.call (g':=g') (t':=t') (d':=d') u hok hg hch
end
abbrev XK:=Value→Option Addr→Hp→Prop
abbrev St:=List (Option V)
abbrev VK:=V→Hp→Prop
abbrev TE:=St→Hp→VK→Prop
abbrev TT:=St→Hp→(Bool→Hp→Prop)→Prop
abbrev TA:=St→Hp→(List V→Hp→Prop)→Prop
structure Ends where
 nx:St→Hp→Prop
 rt:VK
 bk:St→Hp→Prop:=fun _ _=>False
 ct:St→Hp→Prop:=fun _ _=>False
abbrev TS:=Ends→St→Hp→Prop
def EP (X:Cx) (pins:List (Addr×Obj)) (σ:St) (Q:VK) (u:Value) (s':Shared):Prop:=∃ v H',Inv X pins σ H' s'∧RelV v u∧Q v H'
def TP (X:Cx) (pins:List (Addr×Obj)) (σ:St) (Q:Bool→Hp→Prop) (b:Bool) (s':Shared):Prop:=∃ H',Inv X pins σ H' s'∧Q b H'
def AP (X:Cx) (pins:List (Addr×Obj)) (σ:St) (Q:List V→Hp→Prop) (us:List Value) (s':Shared):Prop:=∃ vs H',Inv X pins σ H' s'∧Vals vs us∧Q vs H'
def SP (X:Cx) (pins:List (Addr×Obj)) (D:Ends) (f:Flow) (s':Shared):Prop :=
 match f with
 | .next=>∃ σ' H',Inv X pins σ' H' s'∧D.nx σ' H'
 | .brk=>∃ σ' H',Inv X pins σ' H' s'∧D.bk σ' H'
 | .cont=>∃ σ' H',Inv X pins σ' H' s'∧D.ct σ' H'
 | .ret u=>∃ v σ' H',Inv X pins σ' H' s'∧RelV v u∧D.rt v H'
def PE (X:Cx) (e:Expr) (t:TE):Prop :=
 ∀(pins:List (Addr×Obj)) (s:Shared) (σ:St) (H:Hp) (Q:VK),Inv X pins σ H s→t σ H Q→wpAny (model X.prog X.w) X.A (eval e X.env) (EP X pins σ Q) X.xe s
def PT (X:Cx) (e:Expr) (t:TT):Prop :=
 ∀(pins:List (Addr×Obj)) (s:Shared) (σ:St) (H:Hp) (Q:Bool→Hp→Prop),Inv X pins σ H s→t σ H Q→wpAny (model X.prog X.w) X.A (isTrue e X.env (eval e X.env)) (TP X pins σ Q) X.xe s
def PW (X:Cx) (e:Expr) (t:TT):Prop :=
 ∀(whole:Sem Value) (pins:List (Addr×Obj)) (s:Shared) (σ:St) (H:Hp) (Q:Bool→Hp→Prop),Inv X pins σ H s→t σ H Q→wpAny (model X.prog X.w) X.A (isTrue e X.env whole) (TP X pins σ Q) X.xe s
theorem PW.pt {X:Cx}{e:Expr}{t:TT} (h:PW X e t):PT X e t:=h _
def PA (X:Cx) (es:List Expr) (t:TA):Prop :=
 ∀(pos:Pos) (pins:List (Addr×Obj)) (s:Shared) (σ:St) (H:Hp) (Q:List V→Hp→Prop),Inv X pins σ H s→t σ H Q→wpAny (model X.prog X.w) X.A (spliced (backTo pos (starEach es X.env))) (AP X pins σ Q) X.xe s
def PS (X:Cx) (st:Stmt) (t:TS):Prop :=
 ∀(pins:List (Addr×Obj)) (s:Shared) (σ:St) (H:Hp) (D:Ends),Inv X pins σ H s→t D σ H→wpAny (model X.prog X.w) X.A (exec st X.env) (SP X pins D) X.xe s
def Gb (X:Cx) (st:List Stmt) (t:TS):Prop :=
 ∀(pins:List (Addr×Obj)) (s:Shared) (σ:St) (H:Hp) (D:Ends),Inv X pins σ H s→t D σ H→wpAny (model X.prog X.w) X.A (execs st X.env) (SP X pins D) X.xe s
theorem dF {α:Type}{t:Sem α}{Q Q':α→Shared→Prop}{M:Model}{A:Around}{E:Value→Shared→Prop}{s:Shared} (h:wpAny M A t Q E s) (hQ:∀ a s,Q a s→Q' a s):wpAny M A t Q' E s:=wpAny_mono h hQ fun _ _ x=>x
section
variable {X:Cx}
def ZH (i:Nat):TE:=fun σ H Q=>∃ v,σ[i]? = some (some v)∧Q v H
def tC (v:V):TE:=fun _ H Q=>Q v H
theorem VS {i:Nat}{x:Str}{pos:Pos} (hN:X.N[i]? = some x) (hv:Vis X.env.scope x) (hd:(x == ("__debug__" : Str))=false:=by decide) (hcd:(x == ("__classdict__" : Str))=false:=by decide):PE X (.Name x pos) (ZH i):=by
 intro pins s σ H Q I h
 obtain⟨v,e,h⟩:=h
 obtain⟨m,hn,hl⟩:=I.loc
 obtain⟨u,r,l⟩:=hl i x v hN e hv
 have fin:EP X pins σ Q u s:=⟨v,H,I,r,h⟩
 rcases l with ⟨hk,hm⟩ | ⟨hk,c,hc,hcell⟩
 ·exact wpAny_Name (wpAny_loadName_local I.ok.kind hk hn hm fin) hd
 ·rcases hk with hk | hk
  ·exact wpAny_Name (wpAny_loadName_cell I.ok.kind hk hc hcell fin) hd
  ·exact wpAny_Name (wpAny_loadName_free I.ok.kind hk hc hcell fin hcd) hd
theorem au {i j pos}:PE X (.Constant (.int i) j pos) (tC (.int i)):=fun _ _ _ H _ I h=>wpAny_Constant_int ⟨.int i,H,I.tok _,⟨_,rfl⟩,h⟩
theorem oX {b j pos}:PE X (.Constant (.bool b) j pos) (tC (.bl b)):=fun _ _ _ H _ I h=>Constant_bool ⟨.bl b,H,I,rfl,h⟩
theorem cM {j pos}:PE X (.Constant .none j pos) (tC .non):=fun _ _ _ H _ I h=>Constant_none ⟨.non,H,I,rfl,h⟩
theorem aB {x j pos}:PE X (.Constant (.str x) j pos) (tC (.str x)):=fun _ _ _ H _ I h=>Calls.Constant_str ⟨.str x,H,I.tok _,⟨_,rfl⟩,h⟩
def Gl (X:Cx) (x:Str):Prop:=X.env.kindOf x=some .globalImplicit
theorem mw {E:Value→Shared→Prop}{pins:List (Addr×Obj)}{s:Shared}{σ:St}{H:Hp}{x:Str}{u:Value}{pos:Pos}{Q:Value→Shared→Prop} (I:Inv X pins σ H s) (hg:Gl X x) (hm:X.mg x=some u) (h:Q u s)
  (hd:(x == ("__debug__" : Str))=false:=by decide):wpAny (model X.prog X.w) X.A (eval (.Name x pos) X.env) Q E s :=
 Calls.Name_function_global I.ok.kind hg (Calls.loadGlobal_global (by rw[I.ok.glob];exact I.mod.glob.keeps I.bk) hm h) hd
theorem uF {E:Value→Shared→Prop}{pins:List (Addr×Obj)}{s:Shared}{σ:St}{H:Hp}{x:Str}{u:Value}{pos:Pos}{Q:Value→Shared→Prop} (I:Inv X pins σ H s) (hg:Gl X x) (hm:X.mg x=none) (hv:bootBuiltins x=some u) (h:Q u s)
  (hn:x ≠ "__name__" := by decide) (hd:(x == ("__debug__" : Str))=false:=by decide):wpAny (model X.prog X.w) X.A (eval (.Name x pos) X.env) Q E s:=by
 obtain⟨mb,h1,h2⟩:=I.mod.blt
 exact Calls.Name_function_global I.ok.kind hg (Calls.loadGlobal_builtin (by rw[I.ok.glob];exact I.mod.glob.keeps I.bk) hm (by rw[I.ok.blt];exact h1.keeps I.bk) ((h2 x hn).trans hv) h) hd
theorem D7 {x:Str}{v:V}{u:Value}{pos:Pos} (hg:Gl X x) (hm:X.mg x=some u) (r:RelV v u) (hd:(x == ("__debug__" : Str))=false:=by decide):PE X (.Name x pos) (tC v) :=
 fun _ _ _ H _ I h=>mw I hg hm ⟨v,H,I,r,h⟩ hd
theorem S4 {x:Str}{v:V}{u:Value}{pos:Pos} (hg:Gl X x) (hm:X.mg x=none) (hv:bootBuiltins x=some u) (r:RelV v u) (hn:x ≠ "__name__" := by decide) (hd:(x == ("__debug__" : Str))=false:=by decide):PE X (.Name x pos) (tC v) :=
 fun _ _ _ H _ I h=>uF I hg hm hv ⟨v,H,I,r,h⟩ hn hd
variable {a b:Expr}{ta tb:TE}{pos:Pos}
def PC (X:Cx) (op:CmpOp) (a b:Expr) (t:TE):Prop :=
 ∀(pins:List (Addr×Obj)) (s:Shared) (σ:St) (H:Hp) (Q:VK),Inv X pins σ H s→t σ H Q →
  wpAny (model X.prog X.w) X.A (eval a X.env) (fun v s₁=>wpAny (model X.prog X.w) X.A (eval b X.env) (fun u s₂=>wpAny (model X.prog X.w) X.A (compareOp op v u) (EP X pins σ Q) X.xe s₂) X.xe s₁) X.xe s
theorem Pk (b:Expr) {op:CmpOp} (h:op≠.In) (h2:op≠.NotIn):behindInMarks op b=false:=by
 have e1:(op == CmpOp.In)=false:=by cases op <;> first | rfl | exact absurd rfl h
 have e2:(op == CmpOp.NotIn)=false:=by cases op <;> first | rfl | exact absurd rfl h2
 cases b <;> simp[behindInMarks,e1,e2]
def tB (t:TE):TT:=fun σ H Q=>t σ H fun x H1=>∃ c,x=.bl c∧Q c H1
theorem VT {op:CmpOp}{t:TE} (h:PC X op a b t) (h1:behindInMarks op b=false:=by first | exact Pk _ (by decide) (by decide) | rfl):PT X (.Compare a [op] [b] pos) (tB t):=by
 intro pins s σ H Q I hw
 refine wpAny_isTrue_Compare1 (dF (h pins s σ H _ I hw) fun v s1 h1=>dF h1 fun u s2 h2=>dF h2 fun c s3 ⟨x,H1,I1,r1,q1⟩=>?_) h1
 obtain⟨d,rfl,q⟩:=q1
 cases r1
 exact wpAny_truthy_bool ⟨H1,I1,q⟩
theorem bP {e:Expr}{t:TE} (h:PE X e t) (he:∀ whole,isTrue e X.env whole=(do let v ←whole;standAt e.pos;holding [v] (truthy v)):=by intro _;rfl):PT X e (tB t):=by
 intro pins s σ H Q I hw
 refine isTrue_plain (dF (h pins s σ H _ I hw) fun v s1 ⟨x,H1,I1,r1,q1⟩=>?_) (he _)
 obtain⟨d,rfl,q⟩:=q1
 cases r1
 exact wpAny_truthy_bool ⟨H1,I1,q⟩
variable {tA tB':TT}{rest:List Expr}
def afb (t u:TT):TT:=fun σ H Q=>t σ H fun c H1=>if c=true then u σ H1 Q else Q false H1
def tOr (t u:TT):TT:=fun σ H Q=>t σ H fun c H1=>if c=true then Q true H1 else u σ H1 Q
def afc (t:TT):TT:=fun σ H Q=>t σ H fun c H1=>Q (!c) H1
theorem mC (ha:PT X a tA):PW X (.BoolOp .And [a] pos) tA:=by
 intro wh pins s σ H Q I h
 refine isTrue_and (dF (ha pins s σ H Q I h) fun c s1 e=>?_)
 cases c with
 | true=>exact isTrue_and_nil e
 | false=>exact e
theorem ko (ha:PT X a tA):PW X (.BoolOp .Or [a] pos) tA:=by
 intro wh pins s σ H Q I h
 refine isTrue_or (dF (ha pins s σ H Q I h) fun c s1 e=>?_)
 cases c with
 | false=>exact isTrue_or_nil e
 | true=>exact e
theorem pX (ha:PT X a tA) (hb:PW X (.BoolOp .And (b :: rest) pos) tB'):PW X (.BoolOp .And (a :: b :: rest) pos) (afb tA tB'):=by
 intro wh pins s σ H Q I h
 refine isTrue_and (dF (ha pins s σ H _ I h) fun c s1 ⟨H1,I1,q1⟩=>?_)
 cases c with
 | true=>exact hb wh pins s1 σ H1 Q I1 q1
 | false=>exact⟨H1,I1,q1⟩
theorem j9 (ha:PT X a tA) (hb:PW X (.BoolOp .Or (b :: rest) pos) tB'):PW X (.BoolOp .Or (a :: b :: rest) pos) (tOr tA tB'):=by
 intro wh pins s σ H Q I h
 refine isTrue_or (dF (ha pins s σ H _ I h) fun c s1 ⟨H1,I1,q1⟩=>?_)
 cases c with
 | true=>exact⟨H1,I1,q1⟩
 | false=>exact hb wh pins s1 σ H1 Q I1 q1
theorem cY (ha:PT X a tA):PT X (.UnaryOp .Not a pos) (afc tA):=by
 intro pins s σ H Q I h
 exact isTrue_not (ha pins s σ H (fun c H1=>Q (!c) H1) I h)
def ZI (ta tb:TE):TE:=fun σ H Q=>ta σ H fun x H1=>∃ c,x=.bl c∧if c=true then tb σ H1 Q else Q (.bl false) H1
def afd (ta tb:TE):TE:=fun σ H Q=>ta σ H fun x H1=>∃ c,x=.bl c∧if c=true then Q (.bl true) H1 else tb σ H1 Q
def ZJ (ta:TE):TE:=fun σ H Q=>ta σ H fun x H1=>∃ c,x=.bl c∧Q (.bl (!c)) H1
theorem w6 {op}{t:TE} (h:PE X a t):PE X (.BoolOp op [a] pos) t:=fun pins s σ H Q I hw=>BoolOp_one (h pins s σ H Q I hw)
theorem uG (ha:PE X a ta) (hb:PE X (.BoolOp .And (b :: rest) pos) tb):PE X (.BoolOp .And (a :: b :: rest) pos) (ZI ta tb):=by
 intro pins s σ H Q I h
 refine BoolOp_and (dF (ha pins s σ H _ I h) fun v s1 ⟨x,H1,I1,r1,q1⟩=>?_)
 obtain⟨c,rfl,q1⟩:=q1
 cases r1
 refine wpAny_truthy_bool ?_
 cases c with
 | true=>exact hb pins s1 σ H1 Q I1 q1
 | false=>exact⟨.bl false,H1,I1,rfl,q1⟩
theorem ZK (ha:PE X a ta) (hb:PE X (.BoolOp .Or (b :: rest) pos) tb):PE X (.BoolOp .Or (a :: b :: rest) pos) (afd ta tb):=by
 intro pins s σ H Q I h
 refine BoolOp_or (dF (ha pins s σ H _ I h) fun v s1 ⟨x,H1,I1,r1,q1⟩=>?_)
 obtain⟨c,rfl,q1⟩:=q1
 cases r1
 refine wpAny_truthy_bool ?_
 cases c with
 | false=>exact hb pins s1 σ H1 Q I1 q1
 | true=>exact⟨.bl true,H1,I1,rfl,q1⟩
theorem Po (ha:PE X a ta):PE X (.UnaryOp .Not a pos) (ZJ ta):=by
 intro pins s σ H Q I h
 refine UnaryOp_ (dF (ha pins s σ H _ I h) fun v s1 ⟨x,H1,I1,r1,q1⟩=>?_)
 obtain⟨c,rfl,q1⟩:=q1
 cases r1
 exact not_of (wpAny_truthy_bool ⟨.bl (!c),H1,I1,rfl,q1⟩)
def tIf (t:TT) (ta tb:TE):TE:=fun σ H Q=>t σ H fun c H1=>if c=true then ta σ H1 Q else tb σ H1 Q
theorem rB {c:Expr} (hc:PT X c tA) (ha:PE X a ta) (hb:PE X b tb):PE X (.IfExp c a b pos) (tIf tA ta tb):=by
 intro pins s σ H Q I h
 refine wpAny_IfExp (dF (hc pins s σ H _ I h) fun d s1 ⟨H1,I1,q1⟩=>?_)
 cases d with
 | true=>exact ha pins s1 σ H1 Q I1 q1
 | false=>exact hb pins s1 σ H1 Q I1 q1
end
def bB (K:W.Frag) (H:Hp) (a:Addr) (xs:List V):Prop :=
 Rd H a (.lst xs) ∨
  ∃(o:Obj) (its:Array Value) (n:Nat),K.lookup a=some o∧o.cls=.type "list"∧o.dict=none∧o.data=.seq its n∧its.size≤sizeLine∧Vals xs its.toList
def ck (K:W.Frag) (H:Hp) (a:Addr) (xs:List V):Prop :=
 Rd H a (.tup xs) ∨
  ∃(o:Obj) (its:Array Value) (n:Nat),K.lookup a=some o∧o.cls=.type "tuple"∧o.data=.seq its n∧its.size≤sizeLine∧Vals xs its.toList
def afe:Value→Option V
 | .none=>some .non
 | .bool b=>some (.bl b)
 | .int i _=>some (.int i)
 | .str x _=>some (.str x)
 | .bytes b _=>some (.O8 b)
 | .float b _=>some (.Gh b)
 | .ref a=>some (.ref a)
 | .type n=>some (.ty n)
 | _=>none
theorem RelV.abs {x:V}{u:Value} (r:RelV x u):afe u=some x:=by
 cases x with
 | non=>cases r;rfl
 | bl _=>cases r;rfl
 | int _=>obtain⟨t,rfl⟩:=r;rfl
 | str _=>obtain⟨t,rfl⟩:=r;rfl
 | O8 _=>obtain⟨t,rfl⟩:=r;rfl
 | Gh _=>obtain⟨t,rfl⟩:=r;rfl
 | ref _=>cases r;rfl
 | ty _=>cases r;rfl
theorem RelV.inj {x y:V}{u:Value} (r:RelV x u) (q:RelV y u):x=y:=Option.some.inj (r.abs.symm.trans q.abs)
theorem Vals.inj:∀{xs ys:List V}{us:List Value},Vals xs us→Vals ys us→xs=ys
 | _,_,_,.nil,.nil=>rfl
 | _,_,_,.cons r t,.cons r' t'=>by rw[r.inj r',Vals.inj t t']
section
variable {X:Cx}{pins:List (Addr×Obj)}{σ:St}{H:Hp}{s:Shared}{a:Addr}{xs ys:List V}
theorem bB.of {K:W.Frag} (h:H a=some (.lst xs)):bB K H a xs:=.inl (.inl h)
theorem ck.of {K:W.Frag} (h:H a=some (.tup xs)):ck K H a xs:=.inl (.inl h)
theorem Inv.list (I:Inv X pins σ H s) (h:bB X.K H a xs):∃ its:List Value,Vals xs its∧PlainL s.heap a its.toArray∧xs.length≤sizeLine:=by
 rcases h with h | ⟨o,its,n,hk,hc,hd,hs,hz,r⟩
 ·obtain⟨z,its,n,r,e⟩:=h.ok I.hok
  exact⟨its,r,⟨_,n,e,rfl,rfl,rfl⟩,z⟩
 ·refine⟨its.toList,r,⟨o,n,I.nU a o hk,hc,hd,by simpa using hs⟩,?_⟩
  have e:=r.length
  simp only[Array.length_toList] at e
  omega
theorem Inv.tuple (I:Inv X pins σ H s) (h:ck X.K H a xs):∃ its:List Value,Vals xs its∧IsTup s.heap a its.toArray∧xs.length≤sizeLine:=by
 rcases h with h | ⟨o,its,n,hk,hc,hs,hz,r⟩
 ·obtain⟨z,its,r,p⟩:=h.ok I.hok
  exact⟨its,r,p,z⟩
 ·refine⟨its.toList,r,⟨o,I.nU a o hk,hc,n,by simpa using hs⟩,?_⟩
  have e:=r.length
  simp only[Array.length_toList] at e
  omega
theorem Inv.Ac (I:Inv X pins σ H s) (h:bB X.K H a xs) (h':bB X.K H a ys):xs=ys:=by
 obtain⟨its,r,⟨o,n,e,_,_,d⟩,_⟩:=I.list h
 obtain⟨its',r',⟨o',n',e',_,_,d'⟩,_⟩:=I.list h'
 rw[e] at e';cases e'
 rw[d] at d'
 injection d' with d1 _
 have:its=its':=by simpa using congrArg Array.toList d1
 subst this
 exact r.inj r'
theorem Inv.Df (I:Inv X pins σ H s) (h:ck X.K H a xs) (h':ck X.K H a ys):xs=ys:=by
 obtain⟨its,r,⟨o,e,_,n,d⟩,_⟩:=I.tuple h
 obtain⟨its',r',⟨o',e',_,n',d'⟩,_⟩:=I.tuple h'
 rw[e] at e';cases e'
 rw[d] at d'
 injection d' with d1 _
 have:its=its':=by simpa using congrArg Array.toList d1
 subst this
 exact r.inj r'
end
abbrev Cx.Ad (X:Cx) (E:Value→Shared→Prop):Cx:={ X with xe:=E }
abbrev Cx.VU (X:Cx):Cx:=X.Ad fun _ _=>False
theorem Cx.Ok.Ad {X:Cx} (ok:X.Ok) (E:Value→Shared→Prop):(X.Ad E).Ok :=
 ⟨ok.mod,ok.kind,ok.glob,ok.blt,ok.above,ok.inj,ok.has,ok.VR,ok.hd,ok.frames,ok.stk,ok.exf,ok.bs,ok.O9,ok.IL,ok.ME,ok.uE,ok.SK⟩
theorem Cx.Ok.oM {X:Cx}{E:Value→Shared→Prop} (ok:(X.Ad E).Ok):X.Ok :=
 ⟨ok.mod,ok.kind,ok.glob,ok.blt,ok.above,ok.inj,ok.has,ok.VR,ok.hd,ok.frames,ok.stk,ok.exf,ok.bs,ok.O9,ok.IL,ok.ME,ok.uE,ok.SK⟩
section
variable {X:Cx}{pins:List (Addr×Obj)}{σ:St}{H:Hp}{s:Shared}{E:Value→Shared→Prop}
theorem Inv.Ad (I:Inv X pins σ H s) (E:Value→Shared→Prop):Inv (X.Ad E) pins σ H s:=⟨I.ok.Ad E,I.os,I.bare,I.base,I.loc,I.cell,I.free,I.ly,I.pin,I.hok,I.len⟩
theorem Inv.oM (I:Inv (X.Ad E) pins σ H s):Inv X pins σ H s:=⟨I.ok.oM,I.os,I.bare,I.base,I.loc,I.cell,I.free,I.ly,I.pin,I.hok,I.len⟩
theorem SP.oM {D:Ends}{f:Flow}{s':Shared} (h:SP (X.Ad E) pins D f s'):SP X pins D f s':=by
 cases f with
 | next=>obtain⟨σ',H',I,q⟩:=h;exact⟨σ',H',I.oM,q⟩
 | brk=>obtain⟨σ',H',I,q⟩:=h;exact⟨σ',H',I.oM,q⟩
 | cont=>obtain⟨σ',H',I,q⟩:=h;exact⟨σ',H',I.oM,q⟩
 | ret u=>obtain⟨v,σ',H',I,r,q⟩:=h;exact⟨v,σ',H',I.oM,r,q⟩
theorem Gb.VU {st:List Stmt}{t:TS} (h:Gb X.VU st t):Gb X st t:=fun pins s σ H D I hw =>
 wpAny_mono (h pins s σ H D (I.Ad _) hw) (fun _ _ q=>q.oM) fun _ _ z=>False.elim z
end
section
variable {X:Cx}{st:Stmt}{rest:List Stmt}{t u:TS}{e:Expr}{te:TE}{pos:Pos}
def Ae:TS:=fun D σ H=>D.nx σ H
def S5 (t u:TS):TS:=fun D σ H=>t { D with nx:=u D } σ H
theorem aE:Gb X [] Ae:=fun _ _ σ H _ I h=>wpAny_execs_nil ⟨σ,H,I,h⟩
theorem aq (h1:PS X st t) (h2:Gb X rest u):Gb X (st :: rest) (S5 t u):=by
 intro pins s σ H D I h
 refine wpAny_execs_cons (dF (h1 pins s σ H { D with nx:=u D } I h) fun f s1 q=>?_)
 cases f with
 | next =>
  obtain⟨σ',H',I',q⟩:=q
  exact h2 pins s1 σ' H' D I' q
 | ret v=>exact q
 | brk=>exact q
 | cont=>exact q
theorem av (h1:PS X st t):Gb X [st] t:=by
 intro pins s σ H D I h
 refine wpAny_execs_cons (dF (h1 pins s σ H D I h) fun f s1 q=>?_)
 cases f with
 | next=>exact wpAny_execs_nil q
 | ret v=>exact q
 | brk=>exact q
 | cont=>exact q
theorem Inv.quiet {pins:List (Addr×Obj)}{σ:St}{H:Hp}{s:Shared} (I:Inv X pins σ H s):interactive X.env=false:=by simp[interactive,I.ok.kind]
def ZL (te:TE):TS:=fun D σ H=>te σ H fun _ H1=>D.nx σ H1
theorem kL (he:PE X e te) (hs:swapsWith e none pos.line X.env=pure false:=by rfl):PS X (.Expr e pos) (ZL te):=by
 intro pins s σ H D I h
 exact wpAny_Expr_any (dF (he pins s σ H _ I h) fun v s1 ⟨x,H1,I1,r1,q1⟩=>⟨σ,H1,I1,q1⟩) I.quiet hs
def afg (te:TE):TS:=fun D σ H=>te σ H D.rt
theorem aC (he:PE X e te):PS X (.Return (some e) pos) (afg te):=by
 intro pins s σ H D I h
 exact wpAny_Return_some (dF (he pins s σ H _ I h) fun v s1 ⟨x,H1,I1,r1,q1⟩=>⟨x,σ,H1,I1,r1,q1⟩)
def VV (c:TT) (t u:TS):TS:=fun D σ H=>c σ H fun b H1=>if b=true then t D σ H1 else u D σ H1
theorem aP {c:Expr}{a b:List Stmt}{tc:TT} (hc:PT X c tc) (ha:Gb X a t) (hb:Gb X b u):PS X (.If c a b pos) (VV tc t u):=by
 intro pins s σ H D I h
 refine wpAny_If (dF (hc pins s σ H _ I h) fun d s1 ⟨H1,I1,q1⟩=>?_)
 cases d with
 | true=>exact ha pins s1 σ H1 D I1 q1
 | false=>exact hb pins s1 σ H1 D I1 q1
def VW:TS:=fun _ _ _=>False
theorem rC:PS X st VW:=fun _ _ _ _ _ _ h=>h.elim
end
abbrev TG:=V→St→Hp→(St→Hp→Prop)→Prop
abbrev Vj:=List V→St→Hp→(St→Hp→Prop)→Prop
def PG (X:Cx) (target:Expr) (t:TG):Prop :=
 ∀(pins:List (Addr×Obj)) (s:Shared) (σ:St) (H:Hp) (v:V) (u:Value) (Q:St→Hp→Prop),Inv X pins σ H s→RelV v u→t v σ H Q →
  wpAny (model X.prog X.w) X.A (assign target X.env u) (fun _ s'=>∃ σ' H',Inv X pins σ' H' s'∧Q σ' H') X.xe s
def ZN (X:Cx) (ts:List Expr) (t:Vj):Prop :=
 ∀(pins:List (Addr×Obj)) (s:Shared) (σ:St) (H:Hp) (vs:List V) (us:List Value) (Q:St→Hp→Prop),Inv X pins σ H s→Vals vs us→t vs σ H Q →
  wpAny (model X.prog X.w) X.A (assignInOrder ((assignEach ts X.env).map (·.2)) us) (fun _ s'=>∃ σ' H',Inv X pins σ' H' s'∧Q σ' H') X.xe s
section
variable {X:Cx}{pos:Pos}
def cK (i:Nat):TG:=fun v σ H Q=>Q (σ.set i (some v)) H
theorem S6 {i:Nat}{x:Str} (hN:X.N.Nodup) (hi:X.N[i]? = some x) (hx:Loc X.env.scope x) (hf:X.fn x=true∨X.env.scope.names.lookup x=some .local:=by first | exact .inl rfl | exact .inr rfl | assumption):PG X (.Name x pos) (cK i):=by
 intro pins s σ H v u Q I r h
 exact wpAny_assign_Name (vo I hN hi hx r (fun s' I'=>⟨_,H,I',h⟩) hf)
def afh:Vj:=fun vs σ H Q=>vs=[]∧Q σ H
def ZO (t:TG) (u:Vj):Vj:=fun vs σ H Q=>∃ v r,vs=v :: r∧t v σ H fun σ' H'=>u r σ' H' Q
theorem sX:ZN X [] afh:=by
 intro pins s σ H vs us Q I r h
 obtain⟨e,h⟩:=h
 subst e
 cases r
 exact assignInOrder_nil ⟨σ,H,I,h⟩
theorem fT {e:Expr}{es:List Expr}{t:TG}{u:Vj} (h1:PG X e t) (h2:ZN X es u)
  (hs:(assignEach (e :: es) X.env).map (·.2)=assign e X.env :: (assignEach es X.env).map (·.2):=by rfl):ZN X (e :: es) (ZO t u):=by
 intro pins s σ H vs us Q I r h
 obtain⟨v,vr,e1,h⟩:=h
 subst e1
 cases r with
 | cons r rr =>
  rw[hs]
  refine assignInOrder_cons (dF (h1 pins s σ H _ _ _ I r h) fun _ s1 ⟨σ1,H1,I1,q1⟩=>?_)
  exact h2 pins s1 σ1 H1 _ _ Q I1 rr q1
def ZQ (K:W.Frag) (n:Nat) (t:Vj):TG:=fun v σ H Q=>∃ a xs,v=.ref a∧ck K H a xs∧xs.length=n∧t xs σ H Q
theorem VX {es:List Expr}{k:Nat}{t:Vj}{n:Nat} (hc:X.calm=true) (h:ZN X es t)
  (hn:(assignEach es X.env).length=n:=by rfl) (hst:(assignEach es X.env).findIdx? (·.1)=none:=by rfl):PG X (.Tuple es k pos) (ZQ X.K n t):=by
 intro pins s σ H v u Q I r hw
 obtain⟨a,xs,e1,hq,hl,hw⟩:=hw
 subst e1
 cases r
 obtain⟨its,rv,ht,hz⟩:=I.tuple hq
 refine assign_Tuple_tuple (I.ok.hd hc) ht (by simp[hn,←hl,rv.length]) hst fun h' hx=>?_
 have I1:Inv X pins σ H { s with heap:=h' }:=I.kept (t':=s.toks) fun b o e=>hx b o (Nat.ne_of_lt (Heap.lt_size e)) e
 exact h pins _ σ H xs _ Q I1 (by simpa using rv) hw
def S7 (te:TE) (g:TG):TS:=fun D σ H=>te σ H fun x H1=>g x σ H1 D.nx
theorem IM {tg e:Expr}{te:TE}{g:TG} (he:PE X e te) (hg:PG X tg g) (hs:swapsWithSole [tg] e pos.line X.env=pure false:=by rfl) (hw:swappedStores [tg] e X.env=pure none:=by rfl)
  (h1:(assignEach [tg] X.env).map (·.2)=[assign tg X.env]:=by rfl):PS X (.Assign [tg] e pos) (S7 te g):=by
 intro pins s σ H D I h
 refine wpAny_Assign_stores (dF (he pins s σ H _ I h) fun v s1 ⟨x,H1,I1,r1,q1⟩=>?_) hs hw
 rw[h1]
 exact dF (hg pins s1 σ H1 x v _ I1 r1 q1) fun _ s2 q=>q
theorem Af {i:Nat}{x:Str}{e:Expr}{te:TE}{pos':Pos} (hN:X.N.Nodup) (hi:X.N[i]? = some x) (hx:Loc X.env.scope x) (he:PE X e te) (hs:swapsWith e (some (.Name x pos')) pos.line X.env=pure false:=by rfl) (hf:X.fn x=true∨X.env.scope.names.lookup x=some .local:=by first | exact .inl rfl | exact .inr rfl | assumption) :
  PS X (.Assign [.Name x pos'] e pos) (S7 te (cK i)):=by
 intro pins s σ H D I h
 refine wpAny_Assign_Name (dF (he pins s σ H _ I h) fun v s1 ⟨y,H1,I1,r1,q1⟩=>?_) hs
 exact vo I1 hN hi hx r1 (fun s2 I2=>⟨_,H1,I2,q1⟩) hf
end
section
variable {X:Cx}{pos:Pos}
def VY (c:TT) (tb:TS):TS:=fun D σ H=>∃ W:Nat→St→Hp→Prop,(∃ m,W m σ H)∧∀ m σ H,W m σ H →
 c σ H fun b H1=>if b=true then ∃ N:St→Hp→Prop,(∀ σ' H',N σ' H'→∃ m',m' < m∧W m' σ' H')∧tb { D with nx:=N,ct:=N,bk:=D.nx } σ H1 else D.nx σ H1
theorem Gi {c:Expr}{body:List Stmt}{tc:TT}{tb:TS} (hp:PassesOwn (model X.prog X.w) X.A X.env X.xe) (hc:PT X c tc) (hb:Gb X body tb):PS X (.While c body [] pos) (VY tc tb):=by
 intro pins s σ H D I h
 obtain⟨W,⟨m0,w0⟩,turn⟩:=h
 refine wpAny_While (codeAny_whileLoop (fun n s'=>∃ σ' H',Inv X pins σ' H' s'∧W n σ' H') ?_ m0 ⟨σ,H,I,w0⟩)
 rintro n s1 ⟨σ1,H1,I1,w1⟩
 refine wpAny_passesOwn hp (dF (hc pins s1 σ1 H1 _ I1 (turn n σ1 H1 w1)) fun b s2 ⟨H2,I2,q2⟩=>?_)
 cases b with
 | true =>
  obtain⟨N,hN,q2⟩:=q2
  rw[if_pos rfl]
  refine wpAny_passesOwn hp (dF (hb pins s2 σ1 H2 _ I2 q2) fun f s3 q3=>?_)
  cases f with
  | next =>
   obtain⟨σ3,H3,I3,n3⟩:=q3
   obtain⟨m',hm,w3⟩:=hN σ3 H3 n3
   exact⟨m',hm,σ3,H3,I3,w3⟩
  | cont =>
   obtain⟨σ3,H3,I3,n3⟩:=q3
   obtain⟨m',hm,w3⟩:=hN σ3 H3 n3
   exact⟨m',hm,σ3,H3,I3,w3⟩
  | brk=>exact q3
  | ret v=>exact q3
 | false =>
  rw[if_neg Bool.false_ne_true]
  exact wpAny_execs_nil ⟨σ1,H2,I2,q2⟩
end
structure It where
 go:Nat→Hp→Prop
 SN:Nat→Hp→V→Hp→Prop
 stop:Nat→Hp→Prop
def vp (X:Cx) (pins:List (Addr×Obj)) (H:Hp) (b:Addr):Prop :=
 H b=none∧b≠X.env.locals∧b∉X.fs∧(b∈X.ex∨X.s₀.heap.objs.size≤b)∧(∀ x c,X.env.cells.lookup x=some c→c≠b)∧∀ p∈X.pn++pins,p.1≠b
theorem Inv.Ag {X:Cx}{pins:List (Addr×Obj)}{σ:St}{H H':Hp}{s:Shared}{b:Addr} (I:Inv X pins σ H s) (hb:s.heap.objs.size≤b) (hn:H' b=none):vp X pins H' b:=by
 refine⟨hn,Nat.ne_of_gt (Nat.lt_of_lt_of_le I.lt hb),I.ae9 hb,.inr (Nat.le_trans I.sz hb),fun x c e z=>?_,fun p hp z=>?_⟩
 ·obtain⟨v,q⟩:=I.cell x c e
  exact absurd (Nat.lt_of_lt_of_le q.lt (by rw[z];exact hb)) (Nat.lt_irrefl _)
 ·exact absurd (Nat.lt_of_lt_of_le (Heap.lt_size (I.pin p hp).1) (by rw[z];exact hb)) (Nat.lt_irrefl _)
structure Turn (P:Program) (w:World) (K:W.Frag) (tg:Expr) (J:It) (fp:List Addr) (it:Addr) (tn:Nat→Heap→Prop):Prop where
 mem:it∈fp
 obj:∀ i h,tn i h→∀ b∈fp,∃ o,h.get? b=some o∧∀ v,o.data≠.cell v
 keep:∀ i h h',tn i h→(∀ b∈fp,∀ o,h.get? b=some o→h'.get? b=some o)→tn i h'
 item:∀(X:Cx),X.prog=P→X.w=w→X.K=K→X.calm=true→∀(i:Nat) (pins:List (Addr×Obj)) (s:Shared) (σ:St) (H:Hp) (E:Value→Shared→Prop),Inv X pins σ H s→(∀ b∈fp,vp X pins H b)→tn i s.heap→J.go i H →
  wpAny (model P w) X.A (pyNext (.ref it)) (fun r s1=>∃ u,r=some u ∧
   wpAny (model P w) X.A (letOwnedTupleGo tg (.ref it) u) (fun _ s2=>∃ x H',Inv X pins σ H' s2∧RelV x u∧J.SN i H x H'∧tn (i+1) s2.heap∧∀ b∈fp,H' b=none) E s1) E s
 done:∀(X:Cx),X.prog=P→X.w=w→X.K=K→X.calm=true→∀(i:Nat) (pins:List (Addr×Obj)) (s:Shared) (σ:St) (H:Hp) (E:Value→Shared→Prop),Inv X pins σ H s→(∀ b∈fp,vp X pins H b)→tn i s.heap→J.stop i H →
  wpAny (model P w) X.A (pyNext (.ref it)) (fun r s1=>r=none∧Inv X pins σ H s1) E s
 self:∀(A:Around) (i:Nat) (s:Shared) (Q:Value→Shared→Prop) (E:Value→Shared→Prop),tn i s.heap→Q (.ref it) s→wpAny (model P w) A (pyIter (.ref it)) Q E s
abbrev TI:=St→Hp→(It→Hp→Prop)→Prop
def PIE (X:Cx) (pins:List (Addr×Obj)) (σ:St) (tg:Expr) (R:It→Hp→Prop) (itv:Value) (s2:Shared):Prop :=
 ∃(it:Addr) (fp:List Addr) (tn:Nat→Heap→Prop) (J:It) (H':Hp),itv=.ref it∧Inv X pins σ H' s2∧Turn X.prog X.w X.K tg J fp it tn∧tn 0 s2.heap∧(∀ b∈fp,vp X pins H' b)∧R J H'
def PI (X:Cx) (tg iter:Expr) (wi:TI):Prop :=
 ∀(pins:List (Addr×Obj)) (s:Shared) (σ:St) (H:Hp) (R:It→Hp→Prop),Inv X pins σ H s→wi σ H R →
  wpAny (model X.prog X.w) X.A (eval iter X.env) (fun v s1=>wpAny (model X.prog X.w) X.A (pyIter v) (PIE X pins σ tg R) X.xe s1) X.xe s
theorem Gj {M:Model}{A:Around}{E:Value→Shared→Prop}{s:Shared}{tg:Expr}{it:Addr}{u:Value}{o:Obj}{n:String}{vs:Array Value}{Q:Unit→Shared→Prop} (ho:s.heap.get? it=some o) (hc:o.cls=.type n) (hd:o.data=.fields vs)
   (hn:["enumerate", "zip", "dict_itemiterator", "dict_reverseitemiterator", "odict_iterator", "itertools.zip_longest", "itertools.pairwise"].contains n=false) (hQ:Q () s):wpAny M A (letOwnedTupleGo tg (.ref it) u) Q E s:=by
 unfold letOwnedTupleGo
 cases tg <;> first
   | exact wpAny_pure hQ
   | (cases u <;> first
       | exact wpAny_pure hQ
       | (refine wpAny_bind (wpAny_load ho ?_)
          rw[hc,hd]
          show wpAny M A (if (["enumerate", "zip", "dict_itemiterator", "dict_reverseitemiterator", "odict_iterator", "itertools.zip_longest", "itertools.pairwise"].contains n && vs[0]? == some (rawInt _))=true then _ else _) Q E s
          rw[if_neg (by intro h;rw[hn,Bool.false_and] at h;cases h)]
          exact wpAny_pure hQ))
def Zc (K:W.Frag) (a:Addr):It :=
 ⟨fun i H=>∃ xs x,bB K H a xs∧xs[i]? = some x,fun i H x H'=>H'=H∧∀ xs,bB K H a xs→xs[i]? = some x,fun i H=>∃ xs,bB K H a xs∧xs.length≤i⟩
def ZR (K:W.Frag) (a:Addr):It :=
 ⟨fun i H=>∃ xs x,ck K H a xs∧xs[i]? = some x,fun i H x H'=>H'=H∧∀ xs,ck K H a xs→xs[i]? = some x,fun i H=>∃ xs,ck K H a xs∧xs.length≤i⟩
def VZ (lo:Int) (n:Nat):It:=⟨fun i _=>i < n,fun i H x H'=>H'=H∧x=.int (lo+i),fun i _=>n≤i⟩
theorem MF {P:Program}{w:World}{K:W.Frag}{tg:Expr} (a it:Addr):Turn P w K tg (Zc K a) [it] it (fun i h=>h.IsListIter it a i) where
 mem:=by simp
 obj:=fun i h st b hb=>by
  have e:b=it:=by simpa using hb
  subst e
  obtain⟨o,e,c,d⟩:=st
  exact⟨o,e,fun v z=>by rw[d] at z;cases z⟩
 keep:=fun i h h' st k=>st.at fun o e=>k it (by simp) o e
 item:=by
  intro X hP hw hK hc i pins s σ H E I hf st hg
  subst hP hw hK
  obtain⟨xs,x,hq,hx⟩:=hg
  obtain⟨its,rv,p,hz⟩:=I.list hq
  obtain⟨u,hu,ru⟩:=rv.get hx
  obtain⟨f0,f1,f2,f3,f4,f5⟩:=hf it (by simp)
  refine wpAny_pyNext_list_item st p.isList (x:=u) (by simpa using hu) fun h' st' sb=>?_
  have I1:Inv X pins σ H { s with heap:=h' }:=I.turned (t':=s.toks) (fun b o hb e=>(sb.2 b hb).trans e) f0 f1 f3 f4 f5
  obtain⟨o,e,c,d⟩:=id st'
  exact⟨u,rfl,Gj (s:={ s with heap:=h' }) e c d (by decide) ⟨x,H,I1,ru,⟨rfl,fun ys hy=>by rw[I.Ac hy hq];exact hx⟩,st',fun b hb=>(hf b hb).1⟩⟩
 done:=by
  intro X hP hw hK hc i pins s σ H E I hf st hg
  subst hP hw hK
  obtain⟨xs,hq,hx⟩:=hg
  obtain⟨its,rv,p,hz⟩:=I.list hq
  obtain⟨f0,f1,f2,f3,f4,f5⟩:=hf it (by simp)
  have hl:=rv.length
  exact wpAny_pyNext_list_end (I.ok.hd hc) st p.isList (by simp;omega) fun h' eb=>⟨rfl,I.turned (t':=s.toks) (fun b o hb e=>eb b o hb e) f0 f1 f3 f4 f5⟩
 self:=fun _ _ _ _ _ st h=>wpAny_pyIter_listiter st h
theorem IP {P:Program}{w:World}{K:W.Frag}{tg:Expr} (a it:Addr):Turn P w K tg (ZR K a) [it] it (fun i h=>h.IsTupleIter it a i) where
 mem:=by simp
 obj:=fun i h st b hb=>by
  have e:b=it:=by simpa using hb
  subst e
  obtain⟨o,e,c,d⟩:=st
  exact⟨o,e,fun v z=>by rw[d] at z;cases z⟩
 keep:=fun i h h' st k=>st.at fun o e=>k it (by simp) o e
 item:=by
  intro X hP hw hK hc i pins s σ H E I hf st hg
  subst hP hw hK
  obtain⟨xs,x,hq,hx⟩:=hg
  obtain⟨its,rv,p,hz⟩:=I.tuple hq
  obtain⟨u,hu,ru⟩:=rv.get hx
  obtain⟨f0,f1,f2,f3,f4,f5⟩:=hf it (by simp)
  refine wpAny_pyNext_tuple_item st (show s.heap.IsTuple a its.toArray from p) (x:=u) (by simpa using hu) fun h' st' sb=>?_
  have I1:Inv X pins σ H { s with heap:=h' }:=I.turned (t':=s.toks) (fun b o hb e=>(sb.2 b hb).trans e) f0 f1 f3 f4 f5
  obtain⟨o,e,c,d⟩:=id st'
  exact⟨u,rfl,Gj (s:={ s with heap:=h' }) e c d (by decide) ⟨x,H,I1,ru,⟨rfl,fun ys hy=>by rw[I.Df hy hq];exact hx⟩,st',fun b hb=>(hf b hb).1⟩⟩
 done:=by
  intro X hP hw hK hc i pins s σ H E I hf st hg
  subst hP hw hK
  obtain⟨xs,hq,hx⟩:=hg
  obtain⟨its,rv,p,hz⟩:=I.tuple hq
  obtain⟨f0,f1,f2,f3,f4,f5⟩:=hf it (by simp)
  have hl:=rv.length
  exact wpAny_pyNext_tuple_end (I.ok.hd hc) st (show s.heap.IsTuple a its.toArray from p) (by simp;omega) fun h' eb=>⟨rfl,I.turned (t':=s.toks) (fun b o hb e=>eb b o hb e) f0 f1 f3 f4 f5⟩
 self:=fun _ _ _ _ _ st h=>wpAny_pyIter_tupleiter st h
theorem IQ {P:Program}{w:World}{K:W.Frag}{tg:Expr} (it:Addr) (lo:Int) (n:Nat):Turn P w K tg (VZ lo n) [it] it (fun i h=>IsRangeIter h it (lo+(i:Nat) * 1) ((n:Int) - (i:Nat)) 1) where
 mem:=by simp
 obj:=fun i h st b hb=>by
  have e:b=it:=by simpa using hb
  subst e
  exact⟨_,st,fun v z=>by
   have z':Data.fields _=Data.cell v:=z
   cases z'⟩
 keep:=fun i h h' st k=>k it (by simp) _ st
 item:=by
  intro X hP hw hK hc i pins s σ H E I hf st hg
  subst hP hw hK
  obtain⟨f0,f1,f2,f3,f4,f5⟩:=hf it (by simp)
  have W:=Walks.range (prog:=X.prog) (w:=X.w) (I.ok.hd hc) it lo 1 n
  refine W.item i s _ _ hg st fun v h' tk hv st' kk=>?_
  obtain⟨t,rfl⟩:=hv
  have I1:Inv X pins σ H { s with heap:=h',toks:=tk }:=I.turned (fun b o hb e=>kk b o (by simpa using hb) e) f0 f1 f3 f4 f5
  refine⟨_,rfl,Gj (s:={ s with heap:=h',toks:=tk }) (n := "range_iterator") st' rfl rfl (by decide) ⟨.int (lo+i),H,I1,⟨t,?_⟩,⟨rfl,rfl⟩,st',fun b hb=>(hf b hb).1⟩⟩
  rw[Int.mul_one]
 done:=by
  intro X hP hw hK hc i pins s σ H E I hf st hg
  subst hP hw hK
  obtain⟨f0,f1,f2,f3,f4,f5⟩:=hf it (by simp)
  exact wpAny_pyNext_range_end (I.ok.hd hc) st (by have:n≤i:=hg;omega) fun h' eb=>⟨rfl,I.turned (t':=s.toks) (fun b o hb e=>eb b o hb e) f0 f1 f3 f4 f5⟩
 self:=fun _ _ _ _ _ st h=>wpAny_pyIter_rangeiter st h
section
variable {X:Cx}{tg:Expr}
def Vk (K:W.Frag) (tl:TE):TI:=fun σ H R=>tl σ H fun x H1=>∃ a,x=.ref a∧(∃ xs,bB K H1 a xs)∧R (Zc K a) H1
def ZS (K:W.Frag) (tl:TE):TI:=fun σ H R=>tl σ H fun x H1=>∃ a,x=.ref a∧(∃ xs,ck K H1 a xs)∧R (ZR K a) H1
theorem S8 {l:Expr}{tl:TE} (hl:PE X l tl):PI X tg l (Vk X.K tl):=by
 intro pins s σ H R I h
 refine dF (hl pins s σ H _ I h) fun v s1 ⟨x,H1,I1,r1,q1⟩=>?_
 obtain⟨a,e,⟨xs,hq⟩,q⟩:=q1
 subst e
 cases r1
 obtain⟨its,rv,p,hz⟩:=I1.list hq
 refine wpAny_pyIter_list p.isList ?_
 refine⟨s1.heap.objs.size,[s1.heap.objs.size],_,_,H1,rfl,I1.kept (t':=s1.toks) fun b o e=>Heap.get?_push_of_some _ e,MF a _,⟨_,Heap.get?_push_size _ rfl,rfl,rfl⟩,fun b hb=>?_,q⟩
 have e:b=s1.heap.objs.size:=by simpa using hb
 subst e
 exact I1.Ag (Nat.le_refl _) (I1.hok.fresh (Nat.le_refl _))
theorem V0 {l:Expr}{tl:TE} (hl:PE X l tl):PI X tg l (ZS X.K tl):=by
 intro pins s σ H R I h
 refine dF (hl pins s σ H _ I h) fun v s1 ⟨x,H1,I1,r1,q1⟩=>?_
 obtain⟨a,e,⟨xs,hq⟩,q⟩:=q1
 subst e
 cases r1
 obtain⟨its,rv,p,hz⟩:=I1.tuple hq
 refine wpAny_pyIter_tuple (show s1.heap.IsTuple a its.toArray from p) ?_
 refine⟨s1.heap.objs.size,[s1.heap.objs.size],_,_,H1,rfl,I1.kept (t':=s1.toks) fun b o e=>Heap.get?_push_of_some _ e,IP a _,⟨_,Heap.get?_push_size _ rfl,rfl,rfl⟩,fun b hb=>?_,q⟩
 have e:b=s1.heap.objs.size:=by simpa using hb
 subst e
 exact I1.Ag (Nat.le_refl _) (I1.hok.fresh (Nat.le_refl _))
theorem Pp {pins:List (Addr×Obj)}{σ:St}{H:Hp}{s:Shared}{R:It→Hp→Prop}{E:Value→Shared→Prop}{lo hi:Int}{t u v:Tok}{tk:Nat} (I:Inv X pins σ H s) (h1 : -(2 ^ 62)≤lo) (h2:lo < 2 ^ 62) (h3 : -(2 ^ 62)≤hi) (h4:hi < 2 ^ 62)
  (q:R (VZ lo (hi - lo).toNat) H):wpAny (model X.prog X.w) X.A (pyIter (.ref s.heap.objs.size)) (PIE X pins σ tg R) E { s with heap:=s.heap.push { cls:=.type "range",data:=.fields #[.int lo t,.int hi u,.int 1 v] },toks:=tk }:=by
 refine wpAny_pyIter_range (IsRange.new ..) (small_one h1 h2 h3 h4) ?_
 have I1:Inv X pins σ H { s with heap:=s.heap.push { cls:=.type "range",data:=.fields #[.int lo t,.int hi u,.int 1 v] },toks:=tk }:=I.kept fun b o e=>Heap.get?_push_of_some _ e
 refine⟨(s.heap.push { cls:=.type "range",data:=.fields #[.int lo t,.int hi u,.int 1 v] }).objs.size,[(s.heap.push { cls:=.type "range",data:=.fields #[.int lo t,.int hi u,.int 1 v] }).objs.size],_,_,H,rfl,
  I1.kept (t':=tk) fun b o e=>Heap.get?_push_of_some _ e,IQ _ lo (hi - lo).toNat,?_,fun b hb=>?_,q⟩
 ·have e1:lo+((0:Nat):Int) * 1=lo:=by simp
  have e2:(((hi - lo).toNat:Nat):Int) - ((0:Nat):Int)=Builtin.Range.rangeSize lo hi 1:=by rw[rangeSize_one];split <;> omega
  show IsRangeIter _ _ (lo+((0:Nat):Int) * 1) ((((hi - lo).toNat:Nat):Int) - ((0:Nat):Int)) 1
  rw[e1,e2]
  exact Heap.get?_push_size _ rfl
 ·have e:b=(s.heap.push { cls:=.type "range",data:=.fields #[.int lo t,.int hi u,.int 1 v] }).objs.size:=by simpa using hb
  subst e
  exact I1.Ag (Nat.le_refl _) (I1.hok.fresh (Nat.le_refl _))
def ZT (ta:TA):TI:=fun σ H R=>ta σ H fun vs H1=>∃ j:Int,vs=[.int j]∧-(2 ^ 62)≤j∧j < 2 ^ 62∧R (VZ 0 j.toNat) H1
theorem Dg {a:Expr}{ta:TA}{p pos:Pos} (hg:Gl X "range") (hm:X.mg "range" = none) (ha:PA X [a] ta) (hs:starEach [a] X.env=[(false,eval a X.env)]:=by rfl):PI X tg (.Call (.Name "range" p) [a] [] pos) (ZT ta):=by
 intro pins s σ H R I h
 refine Call_ (uF I hg hm boot_range (PyProof.Rows.callWith_type1 (dF (ha pos pins s σ H _ I h) fun us s1 ⟨vs,H1,I1,r1,q1⟩=>?_) hs rfl))
 obtain⟨j,e,q1,q2,q⟩:=q1
 subst e
 cases r1 with
 | cons r rr =>
  cases rr
  obtain⟨t,rfl⟩:=r
  exact call_range_1 (Pp I1 (by omega) (by omega) q1 q2 (by simpa using q))
def afi (wi:TI) (g:TG) (tb:TS):TS:=fun D σ H=>wi σ H fun J H1=>∃ W:Nat→Nat→St→Hp→Prop,(∃ m,W 0 m σ H1)∧∀ i m σ H,W i m σ H →
 (J.stop i H∧D.nx σ H)∨(J.go i H∧∃ N:St→Hp→Prop,(∀ σ' H',N σ' H'→∃ m',m' < m∧W (i+1) m' σ' H')∧∀ x H',J.SN i H x H'→g x σ H' fun σ2 H2=>tb { D with nx:=N,ct:=N,bk:=D.nx } σ2 H2)
def Ah (fp:List Addr) (h:Heap):List (Addr×Obj):=fp.filterMap fun b=>(h.get? b).map fun o=>(b,o)
theorem pY {fp:List Addr}{h:Heap}{b:Addr}{o:Obj} (hb:b∈fp) (e:h.get? b=some o):(b,o)∈Ah fp h:=List.mem_filterMap.mpr ⟨b,hb,by rw[e];rfl⟩
theorem MG {fp:List Addr}{h:Heap}{p:Addr×Obj} (hp:p∈Ah fp h):p.1∈fp∧h.get? p.1=some p.2:=by
 obtain⟨b,hb,e⟩:=List.mem_filterMap.mp hp
 cases q:h.get? b with
 | none=>rw[q] at e;cases e
 | some o =>
  rw[q] at e
  have e':(b,o)=p:=Option.some.inj e
  subst e'
  exact⟨hb,q⟩
theorem Inv.pinned {pins:List (Addr×Obj)}{σ:St}{H:Hp}{s:Shared}{fp:List Addr} (I:Inv X pins σ H s) (hf:∀ b∈fp,vp X pins H b) (ho:∀ b∈fp,∃ o,s.heap.get? b=some o∧∀ v,o.data≠.cell v):Inv X (pins++Ah fp s.heap) σ H s :=
 I.Lx fun p hp=>(List.mem_append.mp hp).elim (fun z=>I.pin p (List.mem_append_right _ z)) fun z=>by
  obtain⟨hb,e⟩:=MG z
  obtain⟨f0,f1,f2,_⟩:=hf p.1 hb
  obtain⟨o,e',d⟩:=ho p.1 hb
  rw[e] at e';cases e'
  exact⟨e,f0,f1,f2,d⟩
theorem Inv.vq {pins pl:List (Addr×Obj)}{σ:St}{H:Hp}{s:Shared} (I:Inv X (pins++pl) σ H s):Inv X pins σ H s:=I.Lx fun p hp=>I.pin p (List.mem_append_right _ (List.mem_append_left _ hp))
theorem oN {iter:Expr}{body:List Stmt}{wi:TI}{g:TG}{tb:TS}{pos:Pos} (hp:PassesOwn (model X.prog X.w) X.A X.env X.xe) (hc:X.calm=true) (hi:PI X tg iter wi) (hg:PG X tg g) (hb:Gb X body tb)
  (hs:∀ x,foldedSetIterable iter X.env x=pure x:=by intro _;rfl):PS X (.For tg iter body [] pos) (afi wi g tb):=by
 intro pins s σ H D I h
 refine wpAny_For (dF (hi pins s σ H _ I h) fun v s1 h1=>dF h1 fun itv s2 h2=>?_) hs
 obtain⟨it,fp,tn,J,H2,e,I2,T,st2,f2,W,⟨m0,w0⟩,turn⟩:=h2
 subst e
 have IS:∀{H':Hp},(∀ b∈fp,H' b=none)→∀ b∈fp,vp X pins H' b:=fun hn b hb=>⟨hn b hb,(f2 b hb).2⟩
 refine codeAny_forLoop_any (fun n s'=>∃ i σ' H',Inv X pins σ' H' s'∧tn i s'.heap∧(∀ b∈fp,H' b=none)∧W i n σ' H') ?_ m0 ⟨0,σ,H2,I2,st2,fun b hb=>(f2 b hb).1,w0⟩
 rintro n s3 ⟨i,σ3,H3,I3,st3,fr3,w3⟩
 rcases turn i n σ3 H3 w3 with ⟨stop,qn⟩ | ⟨go,N,hN,step⟩
 ·refine wpAny_passesOwn hp (dF (T.done X rfl rfl rfl hc i pins s3 σ3 H3 X.xe I3 (IS fr3) st3 stop) fun r s4 ⟨hr,I4⟩=>?_)
  subst hr
  exact wpAny_execs_nil ⟨σ3,H3,I4,qn⟩
 ·refine wpAny_passesOwn hp (dF (T.item X rfl rfl rfl hc i pins s3 σ3 H3 X.xe I3 (IS fr3) st3 go) fun r s4 ⟨u,hr,h4⟩=>?_)
  subst hr
  refine wpAny_passesOwn hp (dF h4 fun _ s5 ⟨x,H5,I5,r5,y5,st5,fr5⟩=>?_)
  have I5':=I5.pinned (IS fr5) (T.obj _ _ st5)
  refine wpAny_passesOwn hp (dF (hg _ s5 σ3 H5 x u _ I5' r5 (step x H5 y5)) fun _ s6 ⟨σ6,H6,I6,q6⟩=>?_)
  refine wpAny_passesOwn hp (dF (hb _ s6 σ6 H6 _ I6 q6) fun f s7 q7=>?_)
  have again:∀{σ7:St}{H7:Hp},Inv X (pins++Ah fp s5.heap) σ7 H7 s7→N σ7 H7→∃ m,m < n∧∃ i σ' H',Inv X pins σ' H' s7∧tn i s7.heap∧(∀ b∈fp,H' b=none)∧W i m σ' H':=fun {σ7 H7} I7 n7=>by
   obtain⟨m',hm,w7⟩:=hN σ7 H7 n7
   refine⟨m',hm,i+1,σ7,H7,I7.vq,T.keep _ _ _ st5 fun b hb o e=>(I7.pin (b,o) (List.mem_append_right _ (List.mem_append_right _ (pY hb e)))).1,fun b hb=>?_,w7⟩
   obtain⟨o,e,d⟩:=T.obj _ _ st5 b hb
   exact(I7.pin (b,o) (List.mem_append_right _ (List.mem_append_right _ (pY hb e)))).2.1
  cases f with
  | next=>obtain⟨σ7,H7,I7,n7⟩:=q7;exact again I7 n7
  | cont=>obtain⟨σ7,H7,I7,n7⟩:=q7;exact again I7 n7
  | brk=>obtain⟨σ7,H7,I7,q7⟩:=q7;exact⟨σ7,H7,I7.vq,q7⟩
  | ret v=>obtain⟨x7,σ7,H7,I7,r7,q7⟩:=q7;exact⟨x7,σ7,H7,I7.vq,r7,q7⟩
end
theorem rD {K:W.Frag}{a:Addr}{xs:List V}{g:TG}{tb:TS}{D:Ends}{σ:St}{H:Hp} (Pv:Nat→St→Hp→Prop) (h0:Pv 0 σ H) (hl:∀ i σ H,i≤xs.length→Pv i σ H→bB K H a xs)
  (hs:∀ i x σ H,xs[i]? = some x→Pv i σ H→g x σ H fun σ2 H2=>tb { D with nx:=Pv (i+1),ct:=Pv (i+1),bk:=D.nx } σ2 H2) (hd:∀ σ H,Pv xs.length σ H→D.nx σ H) :
  ∃ W:Nat→Nat→St→Hp→Prop,(∃ m,W 0 m σ H)∧∀ i m σ H,W i m σ H →
   ((Zc K a).stop i H∧D.nx σ H)∨((Zc K a).go i H∧∃ N:St→Hp→Prop,(∀ σ' H',N σ' H'→∃ m',m' < m∧W (i+1) m' σ' H')∧∀ x H',(Zc K a).SN i H x H'→g x σ H' fun σ2 H2=>tb { D with nx:=N,ct:=N,bk:=D.nx } σ2 H2):=by
 refine⟨fun i m σ H=>m=xs.length - i∧i≤xs.length∧Pv i σ H,⟨xs.length,by simp,Nat.zero_le _,h0⟩,?_⟩
 rintro i m σ H ⟨rfl,hi,p⟩
 have q:=hl i σ H hi p
 by_cases hlt:i < xs.length
 ·refine .inr ⟨⟨xs,xs[i],q,by simp[hlt]⟩,Pv (i+1),fun σ' H' p'=>⟨xs.length - (i+1),by omega,rfl,hlt,p'⟩,fun x H' y=>?_⟩
  obtain⟨e,y⟩:=y
  subst e
  exact hs i x σ _ (y xs q) p
 ·have e:i=xs.length:=by omega
  subst e
  exact .inl ⟨⟨xs,q,Nat.le_refl _⟩,hd σ H p⟩
theorem S9 {K:W.Frag}{a:Addr}{xs:List V}{g:TG}{tb:TS}{D:Ends}{σ:St}{H:Hp} (Pv:Nat→St→Hp→Prop) (h0:Pv 0 σ H) (hl:∀ i σ H,i≤xs.length→Pv i σ H→ck K H a xs)
  (hs:∀ i x σ H,xs[i]? = some x→Pv i σ H→g x σ H fun σ2 H2=>tb { D with nx:=Pv (i+1),ct:=Pv (i+1),bk:=D.nx } σ2 H2) (hd:∀ σ H,Pv xs.length σ H→D.nx σ H) :
  ∃ W:Nat→Nat→St→Hp→Prop,(∃ m,W 0 m σ H)∧∀ i m σ H,W i m σ H →
   ((ZR K a).stop i H∧D.nx σ H)∨((ZR K a).go i H∧∃ N:St→Hp→Prop,(∀ σ' H',N σ' H'→∃ m',m' < m∧W (i+1) m' σ' H')∧∀ x H',(ZR K a).SN i H x H'→g x σ H' fun σ2 H2=>tb { D with nx:=N,ct:=N,bk:=D.nx } σ2 H2):=by
 refine⟨fun i m σ H=>m=xs.length - i∧i≤xs.length∧Pv i σ H,⟨xs.length,by simp,Nat.zero_le _,h0⟩,?_⟩
 rintro i m σ H ⟨rfl,hi,p⟩
 have q:=hl i σ H hi p
 by_cases hlt:i < xs.length
 ·refine .inr ⟨⟨xs,xs[i],q,by simp[hlt]⟩,Pv (i+1),fun σ' H' p'=>⟨xs.length - (i+1),by omega,rfl,hlt,p'⟩,fun x H' y=>?_⟩
  obtain⟨e,y⟩:=y
  subst e
  exact hs i x σ _ (y xs q) p
 ·have e:i=xs.length:=by omega
  subst e
  exact .inl ⟨⟨xs,q,Nat.le_refl _⟩,hd σ H p⟩
theorem MH {lo:Int}{n:Nat}{g:TG}{tb:TS}{D:Ends}{σ:St}{H:Hp} (Pv:Nat→St→Hp→Prop) (h0:Pv 0 σ H)
  (hs:∀ i σ H,i < n→Pv i σ H→g (.int (lo+i)) σ H fun σ2 H2=>tb { D with nx:=Pv (i+1),ct:=Pv (i+1),bk:=D.nx } σ2 H2) (hd:∀ σ H,Pv n σ H→D.nx σ H) :
  ∃ W:Nat→Nat→St→Hp→Prop,(∃ m,W 0 m σ H)∧∀ i m σ H,W i m σ H →
   ((VZ lo n).stop i H∧D.nx σ H)∨((VZ lo n).go i H∧∃ N:St→Hp→Prop,(∀ σ' H',N σ' H'→∃ m',m' < m∧W (i+1) m' σ' H')∧∀ x H',(VZ lo n).SN i H x H'→g x σ H' fun σ2 H2=>tb { D with nx:=N,ct:=N,bk:=D.nx } σ2 H2):=by
 refine⟨fun i m σ H=>m=n - i∧i≤n∧Pv i σ H,⟨n,by simp,Nat.zero_le _,h0⟩,?_⟩
 rintro i m σ H ⟨rfl,hi,p⟩
 by_cases hlt:i < n
 ·refine .inr ⟨hlt,Pv (i+1),fun σ' H' p'=>⟨n - (i+1),by omega,rfl,hlt,p'⟩,fun x H' y=>?_⟩
  obtain⟨e,y⟩:=y
  subst e y
  exact hs i σ _ hlt p
 ·have e:i=n:=by omega
  subst e
  exact .inl ⟨Nat.le_refl _,hd σ H p⟩
abbrev R2:=V→V→Hp→VK→Prop
def pZ (X:Cx) (f:Value→Value→Sem Value) (r:R2):Prop :=
 ∀(pins:List (Addr×Obj)) (s:Shared) (σ:St) (H:Hp) (x y:V) (v u:Value) (Q:VK),Inv X pins σ H s→RelV x v→RelV y u→r x y H Q →
  wpAny (model X.prog X.w) X.A (f v u) (EP X pins σ Q) X.xe s
def UnR (X:Cx) (f:Value→Sem Value) (r:V→Hp→VK→Prop):Prop :=
 ∀(pins:List (Addr×Obj)) (s:Shared) (σ:St) (H:Hp) (x:V) (v:Value) (Q:VK),Inv X pins σ H s→RelV x v→r x H Q →
  wpAny (model X.prog X.w) X.A (f v) (EP X pins σ Q) X.xe s
def iE (X:Cx) (f:Value) (r:List V→Hp→VK→Prop):Prop :=
 ∀(pins:List (Addr×Obj)) (s:Shared) (σ:St) (H:Hp) (xs:List V) (us:List Value) (Q:VK),Inv X pins σ H s→Vals xs us→r xs H Q →
  wpAny (model X.prog X.w) X.A (call f us) (EP X pins σ Q) X.xe s
def Vl (r:R2) (ta tb:TE):TE:=fun σ H Q=>ta σ H fun x H1=>tb σ H1 fun y H2=>r x y H2 Q
def tUn (r:V→Hp→VK→Prop) (ta:TE):TE:=fun σ H Q=>ta σ H fun x H1=>r x H1 Q
def rI (C:Int→Int→Prop) (g:Int→Int→V):R2:=fun x y H Q=>∃ i j,x=.int i∧y=.int j∧C i j∧Q (g i j) H
def Vm (g:Int→Int→V):R2:=fun x y H Q=>∃ i j,x=.int i∧y=.int j∧Q (g i j) H
def rU (g:Int→V):V→Hp→VK→Prop:=fun x H Q=>∃ i,x=.int i∧Q (g i) H
section
variable {X:Cx}{a b c:Expr}{ta tb tc:TE}{pos:Pos}
theorem V1 (ha:PE X a ta) (hb:PE X b tb) {pins:List (Addr×Obj)}{s:Shared}{σ:St}{H:Hp}{R:V→V→Hp→Prop} (I:Inv X pins σ H s)
  (h:ta σ H fun x H1=>tb σ H1 fun y H2=>R x y H2) {Q:Value→Shared→Prop}{f:Value→Value→Sem Value}
  (hf:∀ v u s2 x y H2,Inv X pins σ H2 s2→RelV x v→RelV y u→R x y H2→wpAny (model X.prog X.w) X.A (f v u) Q X.xe s2) :
  wpAny (model X.prog X.w) X.A (eval a X.env) (fun v s₁=>wpAny (model X.prog X.w) X.A (eval b X.env) (fun u s₂=>wpAny (model X.prog X.w) X.A (f v u) Q X.xe s₂) X.xe s₁) X.xe s:=by
 refine dF (ha pins s σ H _ I h) fun v s1 ⟨x,H1,I1,r1,q1⟩=>?_
 refine dF (hb pins s1 σ H1 _ I1 q1) fun u s2 ⟨y,H2,I2,r2,q2⟩=>?_
 exact hf v u s2 x y H2 I2 r1 r2 q2
theorem aL {op:Operator}{r:R2} (ho:pZ X (binaryOp op) r) (ha:PE X a ta) (hb:PE X b tb):PE X (.BinOp a op b pos) (Vl r ta tb):=by
 intro pins s σ H Q I h
 exact wpAny_BinOp (V1 ha hb I h fun v u s2 x y H2 I2 rx ry q=>ho pins s2 σ H2 x y v u Q I2 rx ry q)
theorem Vn {op:UnaryOp}{r:V→Hp→VK→Prop} (ho:UnR X (unaryOp op) r) (ha:PE X a ta):PE X (.UnaryOp op a pos) (tUn r ta):=by
 intro pins s σ H Q I h
 exact UnaryOp_ (dF (ha pins s σ H _ I h) fun v s1 ⟨x,H1,I1,r1,q1⟩=>ho pins s1 σ H1 x v Q I1 r1 q1)
theorem opI {f:Value→Value→Sem Value}{C:Int→Int→Prop}{g:Int→Int→Int}
  (rule:∀(i j:Int) (t u:Tok) (s:Shared) (Q:Value→Shared→Prop) (E:Value→Shared→Prop),C i j→Q (.int (g i j) s.toks) { s with toks:=s.toks+1 }→wpAny (model X.prog X.w) X.A (f (.int i t) (.int j u)) Q E s) :
  pZ X f (rI C fun i j=>.int (g i j)):=by
 intro pins s σ H x y v u Q I rx ry h
 obtain⟨i,j,rfl,rfl,hc,q⟩:=h
 obtain⟨t,rfl⟩:=rx
 obtain⟨t',rfl⟩:=ry
 exact rule i j t t' s _ _ hc ⟨.int (g i j),H,I.tok _,⟨_,rfl⟩,q⟩
theorem ZU {f:Value→Value→Sem Value}{g:Int→Int→Int}
  (rule:∀(i j:Int) (t u:Tok) (s:Shared) (Q:Value→Shared→Prop) (E:Value→Shared→Prop),Q (.int (g i j) s.toks) { s with toks:=s.toks+1 }→wpAny (model X.prog X.w) X.A (f (.int i t) (.int j u)) Q E s) :
  pZ X f (Vm fun i j=>.int (g i j)):=by
 intro pins s σ H x y v u Q I rx ry h
 obtain⟨i,j,rfl,rfl,q⟩:=h
 obtain⟨t,rfl⟩:=rx
 obtain⟨t',rfl⟩:=ry
 exact rule i j t t' s _ _ ⟨.int (g i j),H,I.tok _,⟨_,rfl⟩,q⟩
theorem Tc {f:Value→Value→Sem Value}{g:Int→Int→Bool}
  (rule:∀(i j:Int) (t u:Tok) (s:Shared) (Q:Value→Shared→Prop) (E:Value→Shared→Prop),Q (.bool (g i j)) s→wpAny (model X.prog X.w) X.A (f (.int i t) (.int j u)) Q E s) :
  pZ X f (Vm fun i j=>.bl (g i j)):=by
 intro pins s σ H x y v u Q I rx ry h
 obtain⟨i,j,rfl,rfl,q⟩:=h
 obtain⟨t,rfl⟩:=rx
 obtain⟨t',rfl⟩:=ry
 exact rule i j t t' s _ _ ⟨.bl (g i j),H,I,rfl,q⟩
def afj (i j:Int):Prop:=0 < j∧j < 1073741824
def ZV (i j:Int):Prop:=0≤j∧j≤1000000∧i.natAbs < 2 ^ 64
def V2 (i j:Int):Prop:=(-(2 ^ 64) < i∧i < 2 ^ 64)∨(-(2 ^ 64) < j∧j < 2 ^ 64)
theorem V2.ok {i j:Int} (h:V2 i j):IntMulOk i j:=by
 rcases h with ⟨h1,h2⟩ | ⟨h1,h2⟩
 ·exact .of_left (intBits_le_64 h1 h2)
 ·exact .of_right (intBits_le_64 h1 h2)
theorem gD:pZ X (binaryOp .Add) (Vm fun i j=>.int (i+j)):=ZU fun _ _ _ _ _ _ _ q=>add_int q
theorem Pq:pZ X (binaryOp .Sub) (Vm fun i j=>.int (i - j)):=ZU fun _ _ _ _ _ _ _ q=>sub_int q
theorem rE:pZ X (binaryOp .Mult) (rI V2 fun i j=>.int (i * j)):=opI fun _ _ _ _ _ _ _ hc q=>mul_int q hc.ok
theorem fM:pZ X (binaryOp .FloorDiv) (rI afj fun i j=>.int (i / j)):=opI fun i j _ _ _ _ _ hc q=>by
 have h1:(0:Int) < j:=hc.1
 have h2:j < 1073741824:=hc.2
 exact floordiv_int (by omega) (by rw[Int.fdiv_eq_ediv_of_nonneg i (by omega)];exact q) (.inl (PyProof.noPylong_small (by omega)))
theorem cC:pZ X (binaryOp .Mod) (rI (fun _ j=>0 < j) fun i j=>.int (i % j)):=opI fun i j _ _ _ _ _ hc q=>by
 have h1:(0:Int) < j:=hc
 exact mod_int' (by omega) (by rw[Int.fmod_eq_emod_of_nonneg i (by omega)];exact q)
theorem IT:pZ X (binaryOp .Pow) (rI ZV fun i j=>.int (i ^ j.toNat)):=opI fun _ _ _ _ _ _ _ hc q=>pow_int_small hc.1 hc.2.1 hc.2.2 q
theorem unI {f:Value→Sem Value}{g:Int→Int}
  (rule:∀(i:Int) (t:Tok) (s:Shared) (Q:Value→Shared→Prop) (E:Value→Shared→Prop),Q (.int (g i) s.toks) { s with toks:=s.toks+1 }→wpAny (model X.prog X.w) X.A (f (.int i t)) Q E s) :
  UnR X f (rU fun i=>.int (g i)):=by
 intro pins s σ H x v Q I rx h
 obtain⟨i,rfl,q⟩:=h
 obtain⟨t,rfl⟩:=rx
 exact rule i t s _ _ ⟨.int (g i),H,I.tok _,⟨_,rfl⟩,q⟩
theorem Pr:UnR X (unaryOp .USub) (rU fun i=>.int (-i)):=unI fun _ _ _ _ _ q=>neg_int q
end
def ZW:V→V→Bool
 | .non,.non=>true | .non,.int _=>true | .int _,.non=>true | .non,.bl _=>true | .bl _,.non=>true | .non,.str _=>true | .str _,.non=>true
 | .int _,.int _=>true | .bl _,.bl _=>true | .str _,.str _=>true | .O8 _,.O8 _=>true
 | .int _,.str _=>true | .str _,.int _=>true | .bl _,.str _=>true | .str _,.bl _=>true
 | _,_=>false
def rEq:R2:=fun x y H Q=>ZW x y=true∧Q (.bl (decide (x=y))) H
def rNe:R2:=fun x y H Q=>ZW x y=true∧Q (.bl (!decide (x=y))) H
theorem Lz {i j:Int}:decide (V.int i=V.int j)=(i == j):=by
 rw[Bool.eq_iff_iff]
 simp
theorem Pu {i j:Bool}:decide (V.bl i=V.bl j)=(i == j):=by
 rw[Bool.eq_iff_iff]
 simp
theorem LA {i j:Str}:decide (V.str i=V.str j)=(i == j):=by
 rw[Bool.eq_iff_iff]
 simp
theorem LB {i j:Array UInt8}:decide (V.O8 i=V.O8 j)=(i.toList == j.toList):=by
 rw[Bool.eq_iff_iff]
 cases i
 cases j
 simp
section
variable {X:Cx}{a b c:Expr}{ta tb tc:TE}{pos:Pos}
theorem bQ {pins:List (Addr×Obj)}{σ:St}{H:Hp}{s:Shared}{Q:VK}{k k':Bool} (I:Inv X pins σ H s) (q:Q (.bl k) H) (e:k=k'):EP X pins σ Q (.bool k') s:=by
 subst e
 exact⟨.bl k,H,I,rfl,q⟩
theorem cN:pZ X (compareOp .Eq) rEq:=by
 intro pins s σ H x y v u Q I rx ry h
 obtain⟨hs,q⟩:=h
 cases x with
 | non =>
  cases rx
  cases y with
  | non=>cases ry;exact PySem.EqNone.eq_none_none (bQ I q (by simp))
  | bl j=>cases ry;exact PySem.EqNone.eq_none_bool (bQ I q (by simp))
  | int j=>obtain⟨t',rfl⟩:=ry;exact PySem.EqNone.eq_none_int (bQ I q (by simp))
  | str j=>obtain⟨t',rfl⟩:=ry;exact PySem.EqNone.eq_none_str (bQ I q (by simp))
  | _=>exact absurd (show false=true from hs) Bool.false_ne_true
 | bl i =>
  cases rx
  cases y with
  | non=>cases ry;exact PySem.EqNone.eq_bool_none (bQ I q (by simp))
  | bl j=>cases ry;exact eq_bool (bQ I q Pu)
  | str j=>obtain⟨t',rfl⟩:=ry;exact PySem.EqMixed.eq_bool_str (bQ I q (by simp))
  | _=>exact absurd (show false=true from hs) Bool.false_ne_true
 | int i =>
  obtain⟨t,rfl⟩:=rx
  cases y with
  | non=>cases ry;exact PySem.EqNone.eq_int_none (bQ I q (by simp))
  | int j=>obtain⟨t',rfl⟩:=ry;exact eq_int (bQ I q Lz)
  | str j=>obtain⟨t',rfl⟩:=ry;exact PySem.EqMixed.eq_int_str (bQ I q (by simp))
  | _=>exact absurd (show false=true from hs) Bool.false_ne_true
 | str i =>
  obtain⟨t,rfl⟩:=rx
  cases y with
  | non=>cases ry;exact PySem.EqNone.eq_str_none (bQ I q (by simp))
  | bl j=>cases ry;exact PySem.EqMixed.eq_str_bool (bQ I q (by simp))
  | int j=>obtain⟨t',rfl⟩:=ry;exact PySem.EqMixed.eq_str_int (bQ I q (by simp))
  | str j=>obtain⟨t',rfl⟩:=ry;exact eq_str (bQ I q LA)
  | _=>exact absurd (show false=true from hs) Bool.false_ne_true
 | O8 i =>
  obtain⟨t,rfl⟩:=rx
  cases y with
  | O8 j=>obtain⟨t',rfl⟩:=ry;exact W.eq_bytes (bQ I q LB)
  | _=>exact absurd (show false=true from hs) Bool.false_ne_true
 | _=>cases y <;> exact absurd (show false=true from hs) Bool.false_ne_true
theorem Pw:pZ X (compareOp .NotEq) rNe:=by
 intro pins s σ H x y v u Q I rx ry h
 obtain⟨hs,q⟩:=h
 cases x with
 | non =>
  cases rx
  cases y with
  | non=>cases ry;exact PySem.EqNone.ne_none_none (bQ I q (by simp))
  | bl j=>cases ry;exact PySem.EqNone.ne_none_bool (bQ I q (by simp))
  | int j=>obtain⟨t',rfl⟩:=ry;exact PySem.EqNone.ne_none_int (bQ I q (by simp))
  | str j=>obtain⟨t',rfl⟩:=ry;exact PySem.EqNone.ne_none_str (bQ I q (by simp))
  | _=>exact absurd (show false=true from hs) Bool.false_ne_true
 | bl i =>
  cases rx
  cases y with
  | non=>cases ry;exact PySem.EqNone.ne_bool_none (bQ I q (by simp))
  | bl j=>cases ry;exact ne_bool (bQ I q (congrArg not Pu))
  | str j=>obtain⟨t',rfl⟩:=ry;exact PySem.EqMixed.ne_bool_str (bQ I q (by simp))
  | _=>exact absurd (show false=true from hs) Bool.false_ne_true
 | int i =>
  obtain⟨t,rfl⟩:=rx
  cases y with
  | non=>cases ry;exact PySem.EqNone.ne_int_none (bQ I q (by simp))
  | int j=>obtain⟨t',rfl⟩:=ry;exact ne_int (bQ I q (congrArg not Lz))
  | str j=>obtain⟨t',rfl⟩:=ry;exact PySem.EqMixed.ne_int_str (bQ I q (by simp))
  | _=>exact absurd (show false=true from hs) Bool.false_ne_true
 | str i =>
  obtain⟨t,rfl⟩:=rx
  cases y with
  | non=>cases ry;exact PySem.EqNone.ne_str_none (bQ I q (by simp))
  | bl j=>cases ry;exact PySem.EqMixed.ne_str_bool (bQ I q (by simp))
  | int j=>obtain⟨t',rfl⟩:=ry;exact PySem.EqMixed.ne_str_int (bQ I q (by simp))
  | str j=>obtain⟨t',rfl⟩:=ry;exact ne_str (bQ I q (congrArg not LA))
  | _=>exact absurd (show false=true from hs) Bool.false_ne_true
 | O8 i =>
  obtain⟨t,rfl⟩:=rx
  cases y with
  | O8 j=>obtain⟨t',rfl⟩:=ry;exact W.ne_bytes (bQ I q (congrArg not LB))
  | _=>exact absurd (show false=true from hs) Bool.false_ne_true
 | _=>cases y <;> exact absurd (show false=true from hs) Bool.false_ne_true
theorem Dh:pZ X (compareOp .Lt) (Vm fun i j=>.bl (decide (i < j))):=Tc fun _ _ _ _ _ _ _ q=>lt_int q
theorem Px:pZ X (compareOp .LtE) (Vm fun i j=>.bl (decide (i≤j))):=Tc fun _ _ _ _ _ _ _ q=>le_int q
theorem m9:pZ X (compareOp .Gt) (Vm fun i j=>.bl (decide (j < i))):=Tc fun _ _ _ _ _ _ _ q=>gt_int q
theorem Py:pZ X (compareOp .GtE) (Vm fun i j=>.bl (decide (j≤i))):=Tc fun _ _ _ _ _ _ _ q=>ge_int q
theorem jk:pZ X (compareOp .In) (fun x y H Q=>∃ i j,x=.str i∧y=.str j∧Q (.bl (!(Builtin.Str.occurrences j i 0 j.length 1).isEmpty)) H):=by
 intro pins s σ H x y v u Q I rx ry h
 obtain⟨i,j,rfl,rfl,q⟩:=h
 obtain⟨t,rfl⟩:=rx
 obtain⟨t',rfl⟩:=ry
 exact in_str (bQ I q rfl)
theorem uH:pZ X (compareOp .Is) (fun x y H Q=>y=.non∧Q (.bl (decide (x=.non))) H):=by
 intro pins s σ H x y v u Q I rx ry h
 obtain⟨rfl,q⟩:=h
 cases ry
 refine is_none_gen (bQ I q ?_)
 cases x <;> first
  | (cases rx;rfl)
  | (obtain⟨t,rfl⟩:=rx;rfl)
theorem zQ:pZ X (compareOp .IsNot) (fun x y H Q=>y=.non∧Q (.bl (!decide (x=.non))) H):=by
 intro pins s σ H x y v u Q I rx ry h
 obtain⟨rfl,q⟩:=h
 cases ry
 refine isnot_none_gen (bQ I q ?_)
 cases x <;> first
  | (cases rx;rfl)
  | (obtain⟨t,rfl⟩:=rx;rfl)
theorem D8:pZ X (compareOp .NotIn) (fun x y H Q=>∃ i j,x=.str i∧y=.str j∧Q (.bl (!(!(Builtin.Str.occurrences j i 0 j.length 1).isEmpty))) H):=by
 intro pins s σ H x y v u Q I rx ry h
 obtain⟨i,j,rfl,rfl,q⟩:=h
 obtain⟨t,rfl⟩:=rx
 obtain⟨t',rfl⟩:=ry
 exact notIn_str (bQ I q rfl)
theorem Pz (b:Expr) {op:CmpOp} (h:op≠.In:=by decide) (h2:op≠.NotIn:=by decide):behindInMarks op b=false:=by
 have e1:(op == CmpOp.In)=false:=by cases op <;> first | rfl | exact absurd rfl h
 have e2:(op == CmpOp.NotIn)=false:=by cases op <;> first | rfl | exact absurd rfl h2
 cases b <;> simp[behindInMarks,e1,e2]
theorem D9 {op:CmpOp}{r:R2} (ho:pZ X (compareOp op) r) (ha:PE X a ta) (hb:PE X b tb) (hm:behindInMarks op b=false):PE X (.Compare a [op] [b] pos) (Vl r ta tb):=by
 intro pins s σ H Q I h
 exact wpAny_Compare1 (V1 ha hb I h fun v u s2 x y H2 I2 rx ry q=>ho pins s2 σ H2 x y v u Q I2 rx ry q) hm
def Vo (t:TE):TT:=fun σ H Q=>t σ H fun x H'=>∃ k,x=.bl k∧Q k H'
theorem iW {op:CmpOp}{r:R2} (ho:pZ X (compareOp op) r) (ha:PE X a ta) (hb:PE X b tb) (hm:behindInMarks op b=false):PT X (.Compare a [op] [b] pos) (Vo (Vl r ta tb)):=by
 intro pins s σ H Q I h
 refine wpAny_isTrue_Compare1 (dF (ha pins s σ H _ I h) fun v s1 ⟨x,H1,I1,r1,q1⟩=>dF (hb pins s1 σ H1 _ I1 q1) fun u s2 ⟨y,H2,I2,r2,q2⟩ =>
  dF (ho pins s2 σ H2 x y v u _ I2 r1 r2 q2) fun c s3 ⟨z,H3,I3,r3,k,e,q3⟩=>?_) hm
 subst e
 cases r3
 exact wpAny_truthy_bool ⟨H3,I3,q3⟩
theorem Ai:(sizeLine:Nat) < 2 ^ 63:=by rw[sizeLine_eq];decide
theorem i8:pZ X (binaryOp .Add) (fun x y H Q=>∃ i j,x=.str i∧y=.str j∧i.length+j.length≤sizeLine∧Q (.str (i++j)) H):=by
 intro pins s σ H x y v u Q I rx ry h
 obtain⟨i,j,rfl,rfl,hz,q⟩:=h
 obtain⟨t,rfl⟩:=rx
 obtain⟨t',rfl⟩:=ry
 exact add_str (fun t' tk=>⟨.str (i++j),H,I.tok _,⟨_,rfl⟩,q⟩) hz
theorem vals1 {x:V}{us:List Value} (r:Vals [x] us):∃ u,us=[u]∧RelV x u:=by
 cases r with
 | cons r1 r2=>cases r2;exact⟨_,rfl,r1⟩
theorem vals2 {x y:V}{us:List Value} (r:Vals [x,y] us):∃ u w',us=[u,w']∧RelV x u∧RelV y w':=by
 cases r with
 | cons r1 r2 =>
  cases r2 with
  | cons r3 r4=>cases r4;exact⟨_,_,rfl,r1,r3⟩
theorem PB:iE X (.builtin "ord") (fun xs H Q=>∃ x,xs=[.str x]∧x.length=1∧Q (.int (x.cps.getD 0 0:Nat)) H):=by
 intro pins s σ H xs us Q I r h
 obtain⟨x,rfl,hz,q⟩:=h
 obtain⟨u,rfl,t,rfl⟩:=vals1 r
 exact ord_of_one hz ⟨.int _,H,I.tok _,⟨_,rfl⟩,q⟩
end
structure IU (h:Heap) (x dx C:Addr) (mA:Str→Option Value):Prop where
 obj:h.get? x=some (W.instObj C dx)
 ns:h.Ns1 dx mA
 ne:dx≠x
theorem Di {h:Heap}{dx:Addr}{mA:Str→Option Value} (n:h.Ns1 dx mA):∃ od,h.get? dx=some od∧∀ name,W.lookIn name od=some (mA name):=by
 obtain⟨o,es,ep,ho,hd,hk,_,hm⟩:=n
 refine⟨o,ho,fun name=>?_⟩
 have e:=hm name
 unfold nsFind findBy at e
 rw[←Array.find?_toList] at e
 unfold W.lookIn
 rw[hd]
 dsimp only
 split
 ·rename_i y q
  rw[q] at e
  exact congrArg some e
 ·rename_i q
  rw[q] at e
  have a:es.toList.any (·.refKey)=false:=by
   rw[List.any_eq_false]
   intro y hy
   obtain⟨z,t,hkey⟩:=hk y (Array.mem_toList_iff.mp hy)
   simp[DictEntry.refKey,hkey]
  have a':¬es.toList.any (·.refKey)=true:=by rw[a];exact Bool.false_ne_true
  rw[if_neg a']
  exact congrArg some e
theorem IU.look {h:Heap}{x dx C:Addr}{mA:Str→Option Value} (I:IU h x dx C mA):∃ od,W.InstAt h x (W.instObj C dx) C (some od)∧∀ name,W.lookIn name od=some (mA name) :=
 let ⟨od,ho,hl⟩:=Di I.ns
 ⟨od,⟨I.obj,rfl,rfl,ho⟩,hl⟩
section
variable {prog:Program}{w:World}{A:Around}{E:Value→Shared→Prop}{s:Shared}{K:W.Frag}{x dx C f:Addr}{mA:Str→Option Value}{name:Str}{v:Value}
theorem get_map {expr:Bool}{Q:Value→Shared→Prop} (X:K.In s.heap) (I:IU s.heap x dx C mA) (hg:W.plainGet K C name=true) (hh:W.hasDictIn K C=true)
  (ha:W.findIn K (.ref C) name=some none) (hv:mA name=some v) (hv':W.handedIn v=true) (h:Q v { s with toks:=s.toks+1 }) :
  wpAny (model prog w) A (getAttr (.ref x) name expr) Q E s:=by
 obtain⟨od,J,hl⟩:=I.look
 exact W.get_value X J (W.plainGet_of hg).1 (W.findObj_own hh ha rfl (by rw[hl,hv])) hv' h
theorem PD {pl:Sem Bool}{Q:Value×List Value→Shared→Prop} (X:K.In s.heap) (I:IU s.heap x dx C mA) (hg:W.plainGet K C name=true)
  (hf:W.findIn K (.ref C) name=some (some (.ref f))) (ht:W.isFn K (.ref f)=true) (hv:mA name=none) (h:Q (.ref f,[.ref x]) s) :
  wpAny (model prog w) A (getMethod (.ref x) name pl) Q E s:=by
 obtain⟨od,J,hl⟩:=I.look
 exact W.method_fn X J (W.plainGet_of hg).1 (W.plainGet_of hg).2 hf (beq_iff_eq.mp ht) (by show(W.lookIn name od).map (·.isSome)=some false;rw[hl,hv];rfl) h
theorem Td {ns:List Str}{Q:Unit→Shared→Prop} (X:K.In s.heap) (I:IU s.heap x dx C mA)
  (hs:W.findIn K (.ref C) "__setattr__" = some (some (.builtin "object.__setattr__"))) (hp:W.plainOver K C=true) (ht:W.takerIn K C name=some none) (hh:W.hasDictIn K C=true)
  (hw:PySem.Within mA ns) (hsz:ns.length≤sizeLine)
  (h:∀ h',IU h' x dx C (fun y=>if y=name then some v else mA y)→Heap.SameBut dx s.heap h'→Q () { s with heap:=h',toks:=s.toks+2 }) :
  wpAny (model prog w) A (setAttr (.ref x) name v) Q E s:=by
 obtain⟨od,J,hl⟩:=I.look
 refine W.set_plain X J hs (W.osa_open (s:={ s with toks:=s.toks+1 }) (r:=none) X J hp ht fun b=>?_)
 obtain⟨cd,hc,hd'⟩:=W.any_some hh
 have hx:s.heap.get? x=some ⟨.ref C,some dx,.plain,#[]⟩:=I.obj
 refine wpAny_bind (wpAny_pure (wpAny_bind (wpAny_bind (wpAny_loadPart hx (wpAny_bind (W.Looks.here (s:={ s with toks:=s.toks+1 }) (W.looks_clsIn X hc) ?_))))))
 rw[hd']
 refine wpAny_pure (a:=some dx) (wpAny_bind (wpAny_pure (wpAny_bind ?_)))
 refine wpAny_nsSet1 (s:={ s with toks:=s.toks+1 }) I.ns fun h' hn2 hs2=>?_
 obtain⟨oD,esD,epD,hoD,hdD,hcD⟩:=hn2.count (PySem.Within.cons name v hw)
 refine wpAny_bind (wpAny_lookBehind hoD (by rw[hdD];exact pastItsLine_dict (Nat.le_trans hcD (by rw[List.length_cons];omega))) ?_)
 exact wpAny_pure (h _ ⟨(hs2.2 _ (Ne.symm I.ne)).trans I.obj,hn2,I.ne⟩ hs2)
theorem PF {R:Result→Shared→Prop}{vs:List Value}{kw:List (Str×Value)} (X:K.In s.heap) (hm:W.makesIn K C=true)
  (hi:W.findIn K (.ref C) "__init__" = some (some (.ref f))) (hf:W.typeIn K (.ref f)=some (.type "function"))
  (h:codeAny (model prog w) (A.under (.builtin "type.__call__" ⟨.ref C :: vs,kw⟩)) (.call (.ref f) ⟨.ref (s.heap.objs.size+1) :: vs,kw⟩) (W.InitBack (s.heap.objs.size+1) R)
   { s with heap:=(s.heap.push W.emptyDict).push (W.instObj C s.heap.objs.size) }) :
  codeAny (model prog w) A (.call (.ref C) ⟨vs,kw⟩) R s:=by
 obtain⟨hh,g,d,t,os⟩:=s
 exact W.make_core (W.makes_of X hm) (W.looks_findIn X hi) (fun self=>W.bind_fn X self hf) (.inl rfl) h
end
def qb (f:Str) (v:V):List (Str×V)→List (Str×V)
 | []=>[(f,v)]
 | (g,x) :: r=>if g=f then (g,v) :: r else (g,x) :: qb f v r
theorem yj (f g:Str) (v:V):∀ fs:List (Str×V),(qb f v fs).lookup g=if g=f then some v else fs.lookup g
 | []=>by
  show List.lookup g [(f,v)]=_
  by_cases h:g=f
  ·have hb:(g == f)=true:=beq_iff_eq.mpr h
   simp only[List.lookup,hb,if_pos h]
  ·have hb:(g == f)=false:=beq_eq_false_iff_ne.mpr h
   simp only[List.lookup,hb,if_neg h]
 | (k,x) :: r=>by
  have ih:=yj f g v r
  rw[show qb f v ((k,x) :: r)=(if k=f then (k,v) :: r else (k,x) :: qb f v r) from rfl]
  by_cases hk:k=f
  ·rw[if_pos hk]
   by_cases h:g=k
   ·have hb:(g == k)=true:=beq_iff_eq.mpr h
    simp only[List.lookup,hb,if_pos (h.trans hk)]
   ·have hb:(g == k)=false:=beq_eq_false_iff_ne.mpr h
    simp only[List.lookup,hb,if_neg (fun e:g=f=>h (e.trans hk.symm))]
  ·rw[if_neg hk]
   by_cases h:g=k
   ·have hb:(g == k)=true:=beq_iff_eq.mpr h
    simp only[List.lookup,hb,if_neg (fun e:g=f=>hk (h.symm.trans e))]
   ·have hb:(g == k)=false:=beq_eq_false_iff_ne.mpr h
    simp only[List.lookup,hb]
    exact ih
theorem xg (f:Str) (v:V):∀ fs:List (Str×V),f∈(qb f v fs).map (·.1)∧∀ g,g∈fs.map (·.1)→g∈(qb f v fs).map (·.1)
 | []=>⟨by simp[qb],fun g h=>by simp at h⟩
 | (k,x) :: r=>by
  obtain⟨i1,i2⟩:=xg f v r
  rw[show qb f v ((k,x) :: r)=(if k=f then (k,v) :: r else (k,x) :: qb f v r) from rfl]
  by_cases hk:k=f
  ·rw[if_pos hk]
   subst hk
   exact⟨by simp,fun g h=>by simpa using h⟩
  ·rw[if_neg hk]
   refine⟨?_,fun g h=>?_⟩
   ·rw[List.map_cons]
    exact List.mem_cons_of_mem _ i1
   ·rw[List.map_cons] at h ⊢
    rcases List.mem_cons.mp h with e | e
    ·exact List.mem_cons.mpr (.inl e)
    ·exact List.mem_cons_of_mem _ (i2 g e)
theorem yk (f:Str) (v:V):∀ fs:List (Str×V),(qb f v fs).length≤fs.length+1
 | []=>by simp[qb]
 | (k,x) :: r=>by
  have ih:=yk f v r
  rw[show qb f v ((k,x) :: r)=(if k=f then (k,v) :: r else (k,x) :: qb f v r) from rfl]
  by_cases hk:k=f
  ·rw[if_pos hk,List.length_cons,List.length_cons];omega
  ·rw[if_neg hk,List.length_cons,List.length_cons];omega
theorem rj.some_of {v:V}{o:Option Value} (r:rj (some v) o):∃ u,o=some u∧RelV v u:=by
 cases o with
 | none=>exact(show False from r).elim
 | some u=>exact⟨u,rfl,r⟩
theorem rj.none_of {o:Option Value} (r:rj none o):o=none:=by
 cases o with
 | none=>rfl
 | some u=>exact(show False from r).elim
theorem Dj {v:V}{u:Value} (r:RelV v u):W.handedIn u=true:=by
 cases v with
 | non=>cases(show u=Value.none from r);rfl
 | bl b=>cases(show u=Value.bool b from r);rfl
 | int i=>obtain⟨t,e⟩:=(show ∃ t,u=Value.int i t from r);cases e;rfl
 | str x=>obtain⟨t,e⟩:=(show ∃ t,u=Value.str x t from r);cases e;rfl
 | O8 b=>obtain⟨t,e⟩:=(show ∃ t,u=Value.bytes b t from r);cases e;rfl
 | Gh b=>obtain⟨t,e⟩:=(show ∃ t,u=Value.float b t from r);cases e;rfl
 | ref a=>cases(show u=Value.ref a from r);rfl
 | ty n=>cases(show u=Value.type n from r);rfl
section
variable {P:Program}{w:World}{H H':Hp}{h h':Heap}{a C dx:Addr}{fs fs':List (Str×V)}
theorem zR (hok:wX P w H h) (e:H a=some (.ins C dx fs)):∃ mA,IU h a dx C mA∧(∀ f,rj (fs.lookup f) (mA f))∧PySem.Within mA (fs.map (·.1))∧fs.length≤1000∧H dx=some (.own a):=by
 obtain⟨d,z,ne,ob,mA,n,r,q⟩:=(show eY P w H h a (.ins C dx fs) from hok a _ e)
 exact⟨mA,⟨ob,n,ne⟩,r,q,z,d⟩
end
structure LC (K:W.Frag) (C:Addr):Prop where
 pg:W.plainGet K C Str.empty=true
 hd:W.hasDictIn K C=true
 po:W.plainOver K C=true
 sa:W.findIn K (.ref C) "__setattr__" = some (some (.builtin "object.__setattr__"))
theorem LC.get {K:W.Frag}{C:Addr} (c:LC K C) (f:Str):W.plainGet K C f=true:=c.pg
def fN (K:W.Frag) (C:Addr) (f:Str):Prop:=W.findIn K (.ref C) f=some none
theorem fN.ZX {K:W.Frag}{C:Addr}{f:Str} (n:fN K C f):W.takerIn K C f=some none:=by
 unfold W.takerIn
 rw[show W.findIn K (.ref C) f=some none from n]
 rfl
structure Meth (K:W.Frag) (C:Addr) (m:Str) (f:Addr):Prop where
 at_:W.findIn K (.ref C) m=some (some (.ref f))
 fn:W.isFn K (.ref f)=true
 kp:W.keepIn K (.ref f)=true
section
variable {X:Cx}{pins:List (Addr×Obj)}{σ:St}{H:Hp}{s:Shared}{a C dx:Addr}{fs:List (Str×V)}{f:Str}{v:V}{A:Around}{E:Value→Shared→Prop}
theorem IV {b:Bool}{Q:Value→Shared→Prop} (I:Inv X pins σ H s) (e:H a=some (.ins C dx fs)) (c:LC X.K C) (n:fN X.K C f) (l:fs.lookup f=some v)
  (h:∀ u s',Inv X pins σ H s'→RelV v u→Q u s'):wpAny (model X.prog X.w) A (getAttr (.ref a) f b) Q E s:=by
 obtain⟨mA,O,r,_,_,_⟩:=zR I.hok e
 obtain⟨u,hu,ru⟩:=rj.some_of (v:=v) (o:=mA f) (by rw[←l];exact r f)
 exact get_map I.nU O (c.get f) c.hd n hu (Dj ru) (h u _ (I.tok _) ru)
theorem Aj {m:Str}{g:Addr}{pl:Sem Bool}{Q:Value×List Value→Shared→Prop} (I:Inv X pins σ H s) (e:H a=some (.ins C dx fs)) (c:LC X.K C) (k:Meth X.K C m g) (l:fs.lookup m=none)
  (h:Q (.ref g,[.ref a]) s):wpAny (model X.prog X.w) A (getMethod (.ref a) m pl) Q E s:=by
 obtain⟨mA,O,r,_,_,_⟩:=zR I.hok e
 have hn:mA m=none:=rj.none_of (by rw[←l];exact r m)
 exact PD I.nU O (c.get m) k.at_ k.fn hn h
theorem IW {y:V}{u:Value}{Q:Unit→Shared→Prop} (I:Inv X pins σ H s) (e:H a=some (.ins C dx fs)) (c:LC X.K C) (n:fN X.K C f) (hl:fs.length < 1000) (ry:RelV y u)
  (h:∀ s',Inv X pins σ (upd H a (.ins C dx (qb f y fs))) s'→Q () s'):wpAny (model X.prog X.w) A (setAttr (.ref a) f u) Q E s:=by
 obtain⟨mA,O,r,wi,_,ho⟩:=zR I.hok e
 have hz:(fs.map (·.1)).length≤sizeLine:=by rw[List.length_map,sizeLine_eq];omega
 refine Td I.nU O c.sa c.po n.ZX c.hd wi hz fun h' O' sb=>h _ ?_
 have hd:∃ o,h'.get? dx=some o:=let ⟨o,_,_,e',_⟩:=O'.ns;⟨o,e'⟩
 refine I.write (x:=a) (e:=dx) (by rw[e];exact True.intro) (.inr ho) (fun b q hb z=>(sb.2 b hb).trans z) hd ?_
 refine⟨by rw[aF O.ne];exact ho,?_,O.ne,O'.obj,_,O'.ns,fun g=>?_,fun g hg=>?_⟩
 ·have:=yk f y fs;omega
 ·show rj ((qb f y fs).lookup g) (if g=f then some u else mA g)
  rw[yj]
  by_cases q:g=f
  ·rw[if_pos q,if_pos q];exact ry
  ·rw[if_neg q,if_neg q];exact r g
 ·by_cases q:g=f
  ·rw[q];exact(xg f y fs).1
  ·refine(xg f y fs).2 g (wi g fun z=>hg ?_)
   show(if g=f then some u else mA g)=none
   rw[if_neg q];exact z
theorem Inv.made (I:Inv X pins σ H s):Inv X pins σ (upd (upd H s.heap.objs.size (.own (s.heap.objs.size+1))) (s.heap.objs.size+1) (.ins C s.heap.objs.size []))
  { s with heap:=(s.heap.push W.emptyDict).push (W.instObj C s.heap.objs.size) }:=by
 have e1:(s.heap.push W.emptyDict).get? s.heap.objs.size=some W.emptyDict:=Heap.get?_push_size s.heap rfl
 have e2:((s.heap.push W.emptyDict).push (W.instObj C s.heap.objs.size)).get? (s.heap.objs.size+1)=some (W.instObj C s.heap.objs.size):=by
  have:=Heap.get?_push_size (s.heap.push W.emptyDict) (o:=W.instObj C s.heap.objs.size) rfl
  rwa [Heap.size_push] at this
 have e3:(s.heap.push W.emptyDict).Ns s.heap.objs.size (fun _=>none):=⟨W.emptyDict,#[],_,e1,rfl,(fun e he=>absurd he (by simp)),fun _=>rfl⟩
 have I1:=I.laid (a:=s.heap.objs.size) (o:=.own (s.heap.objs.size+1)) (h':=s.heap.push W.emptyDict) (t':=s.toks) (fun b u q=>Heap.get?_push_of_some _ q) (Nat.le_refl _) ⟨_,e1⟩
 refine I1.laid (a:=s.heap.objs.size+1) (o:=.ins C s.heap.objs.size []) (t':=s.toks) (fun b u q=>Heap.get?_push_of_some _ q) (Nat.le_of_eq (Heap.size_push _ _)) ?_
 have ne:s.heap.objs.size≠s.heap.objs.size+1:=Nat.ne_of_lt (Nat.lt_succ_self _)
 refine⟨by rw[aF ne,ah],Nat.zero_le _,ne,e2,fun _=>none,(Heap.Ns1.of_empty e3).at fun o q=>Heap.get?_push_of_some _ q,fun _=>True.intro,fun y hy=>absurd rfl hy⟩
theorem LD {prog:Program}{w:World}{env:Env}{e:Expr}{f:Str}{pos:Pos}{s:Shared}{Q:Value→Shared→Prop} (hb:attributeBase e f env (eval e env)=eval e env)
  (h:wpAny (model prog w) A (eval e env) (fun o s₁=>wpAny (model prog w) A (getAttr o f true) Q E s₁) E s):wpAny (model prog w) A (eval (.Attribute e f pos) env) Q E s :=
 Attribute_any_ h (by rw[arm_eval_Attribute,hb])
end
def ZY (K:W.Frag) (ta:TE) (f:Str):TE:=fun σ H Q=>ta σ H fun x H1=>∃ a C dx fs v,x=.ref a∧H1 a=some (.ins C dx fs)∧LC K C∧fN K C f∧fs.lookup f=some v∧Q v H1
def afk (K:W.Frag) (ta tv:TE) (f:Str):TS:=fun D σ H=>tv σ H fun y H1=>ta σ H1 fun x H2=>∃ a C dx fs,x=.ref a∧H2 a=some (.ins C dx fs)∧LC K C∧fN K C f∧fs.length < 1000 ∧
 D.nx σ (upd H2 a (.ins C dx (qb f y fs)))
section
variable {X:Cx}{o e value:Expr}{f:Str}{pos pos' tpos:Pos}{ta tv:TE}
theorem V3 (he:PE X e ta) (hb:attributeBase e f X.env (eval e X.env)=eval e X.env):PE X (.Attribute e f pos) (ZY X.K ta f):=by
 intro pins s σ H Q I h
 refine LD hb (dF (he pins s σ H _ I h) fun u s1 ⟨x,H1,I1,rx,a,C,dx,fs,v,ex,ea,c,n,l,q⟩=>?_)
 subst ex
 obtain rfl:u=Value.ref a:=rx
 exact IV I1 ea c n l fun u' s2 I2 ru=>⟨v,H1,I2,ru,q⟩
theorem kr (ha:PE X o ta) (hv:PE X value tv) (hs:swapsWith value (some (.Attribute o f pos')) pos.line X.env=pure false):PS X (.Assign [.Attribute o f pos'] value pos) (afk X.K ta tv f):=by
 intro pins s σ H D I h
 refine plainObj_wpAny_Assign_Attribute (dF (hv pins s σ H _ I h) fun u s1 ⟨y,H1,I1,ry,q⟩=>dF (ha pins s1 σ H1 _ I1 q) fun ov s2 ⟨x,H2,I2,rx,a,C,dx,fs,ex,ea,c,n,l,q2⟩=>?_) hs
 subst ex
 obtain rfl:ov=Value.ref a:=rx
 exact IW I2 ea c n l ry fun s3 I3=>⟨σ,_,I3,q2⟩
end
section
variable {X:Cx}{pins:List (Addr×Obj)}{σ:St}{H:Hp}{s:Shared}{A:Around}{E:Value→Shared→Prop}{Q:Value→Shared→Prop}{c:Value}{b:Bool}
inductive rF (K:W.Frag) (H:Hp):V→Value→Prop where
 | non:rF K H .non (.type "NoneType")
 | bl (x:Bool):rF K H (.bl x) (.type "bool")
 | int (i:Int):rF K H (.int i) (.type "int")
 | str (x:Str):rF K H (.str x) (.type "str")
 | Gh (x:UInt64):rF K H (.Gh x) (.type "float")
 | lst {a:Addr}{xs:List V} (e:H a=some (.lst xs)):rF K H (.ref a) (.type "list")
 | IK {a:Addr}{o:Obj}{xs:List V} (e:H a=some (.IK o (.lst xs))):rF K H (.ref a) (.type "list")
 | tup {a:Addr}{xs:List V} (e:H a=some (.tup xs)):rF K H (.ref a) (.type "tuple")
 | dK {a:Addr}{kvs:List (Key×V)} (e:H a=some (.dK kvs)):rF K H (.ref a) (.type "dict")
 | dT {a:Addr}{kvs:List (List Key×V)} (e:H a=some (.dT kvs)):rF K H (.ref a) (.type "dict")
 | ins {a C dx:Addr}{fs:List (Str×V)} (e:H a=some (.ins C dx fs)) (cl:LC K C) (ha:W.findIn K (.ref C) "__class__" = some (some (.builtin "object.__class__")))
   (hn:W.specialIn K (.builtin "object.__class__") "__get__" = some (some (.builtin "getset_descriptor.__get__"))) (htk:W.takesIn K (.builtin "object.__class__")=some true)
   (hm:W.mroIn K C (.type "object")=some true):rF K H (.ref a) (.ref C)
theorem Dk {x:V}{u t:Value} (I:Inv X pins σ H s) (rx:RelV x u) (ty:rF X.K H x t) (e:W.kitOne X.K t c=some b) (h:∀ tk,Q (.bool b) { s with toks:=tk }) :
  wpAny (model X.prog X.w) A (call (.builtin "isinstance") [u,c]) Q E s:=by
 cases ty with
 | non=>cases(show u=Value.none from rx);exact W.kia_one W.kitx_none I.nU True.intro e (fun z=>nomatch z) h
 | bl y=>cases(show u=Value.bool y from rx);exact W.kia_one W.kitx_bool I.nU True.intro e (fun z=>nomatch z) h
 | int i=>obtain⟨t,q⟩:=(show ∃ t,u=Value.int i t from rx);cases q;exact W.kia_one W.kitx_int I.nU True.intro e (fun z=>nomatch z) h
 | str y=>obtain⟨t,q⟩:=(show ∃ t,u=Value.str y t from rx);cases q;exact W.kia_one W.kitx_str I.nU True.intro e (fun z=>nomatch z) h
 | Gh y=>obtain⟨t,q⟩:=(show ∃ t,u=Value.float y t from rx);cases q;exact W.kia_one W.kitx_float I.nU True.intro e (fun z=>nomatch z) h
 | @lst a xs ea =>
  cases(show u=Value.ref a from rx)
  obtain⟨_,_,n,_,h1⟩:=(show eY X.prog X.w H s.heap a (.lst xs) from I.hok a _ ea)
  exact W.kia_one W.kitx_list I.nU ⟨_,h1,rfl⟩ e (fun z=>nomatch z) h
 | @IK a ob xs ea =>
  cases(show u=Value.ref a from rx)
  obtain⟨_,_,_,n,_,h1⟩:=(show eY X.prog X.w H s.heap a (.IK ob (.lst xs)) from I.hok a _ ea)
  exact W.kia_one W.kitx_list I.nU ⟨_,h1,rfl⟩ e (fun z=>nomatch z) h
 | @tup a xs ea =>
  cases(show u=Value.ref a from rx)
  obtain⟨_,_,_,p⟩:=(show eY X.prog X.w H s.heap a (.tup xs) from I.hok a _ ea)
  obtain⟨o,h1,h2,_⟩:=p
  exact W.kia_one W.kitx_tuple I.nU ⟨o,h1,h2⟩ e (fun z=>nomatch z) h
 | @dK a kvs ea =>
  cases(show u=Value.ref a from rx)
  obtain⟨_,_,vs,_,p⟩:=(show eY X.prog X.w H s.heap a (.dK kvs) from I.hok a _ ea)
  obtain⟨o,es,ep,h1,h2,_⟩:=p
  exact W.kia_one W.kitx_dict I.nU ⟨o,h1,h2.1⟩ e (fun z=>nomatch z) h
 | @dT a kvs ea =>
  cases(show u=Value.ref a from rx)
  obtain⟨_,_,xs,_,o,es,ep,h1,h2,_⟩:=(show eY X.prog X.w H s.heap a (.dT kvs) from I.hok a _ ea)
  exact W.kia_one W.kitx_dict I.nU ⟨o,h1,h2.1⟩ e (fun z=>nomatch z) h
 | @ins a C dx fs ea cl ha hn htk hm =>
  cases(show u=Value.ref a from rx)
  obtain⟨mA,O,_⟩:=zR I.hok ea
  obtain⟨od,J,_⟩:=O.look
  exact W.kia_one (W.kitx_own (cl.get _) cl.hd ha hn htk hm) I.nU J e (fun z=>nomatch z) h
end
structure gE (k:Nat) (A:Around):Prop where
 hd:A.handled=none
 dp:A.depth+3 * k+5 < recursionLimit
 un:A.units+16 * k+200 < cLine
theorem gE.mono {j k:Nat}{A:Around} (r:gE k A) (h:j≤k):gE j A:=⟨r.hd,by have:=r.dp;omega,by have:=r.un;omega⟩
theorem gE.deeper {k:Nat}{A:Around} (r:gE (k+1) A) (env:Env):gE k (A.deeper env) :=
 ⟨r.hd,by have:=r.dp;show A.depth+1+3 * k+5 < _;omega,by have:=r.un;show A.units+3+16 * k+200 < _;omega⟩
theorem IX {A:Around}{C:Addr}{us:List Value}{kw:List (Str×Value)}:(A.under (.builtin "type.__call__" ⟨.ref C :: us,kw⟩)).depth=A.depth+1:=by
 first | rfl | simp[Around.under,Code.weight,Code.isCreation,Code.isGuard,Code.isCaller,Code.frames,Code.isFrame,guardIds]
theorem IY {A:Around}{C:Addr}{us:List Value}{kw:List (Str×Value)}:(A.under (.builtin "type.__call__" ⟨.ref C :: us,kw⟩)).units=A.units+1:=by
 first | rfl | simp[Around.under,Code.cUnits,Code.frames,Code.isFrame]
theorem gE.make {k:Nat}{A:Around} (r:gE (k+1) A) (C:Addr) (us:List Value) (kw:List (Str×Value)):gE k (A.under (.builtin "type.__call__" ⟨.ref C :: us,kw⟩)) :=
 ⟨r.hd,by have:=r.dp;rw[IX];omega,by have:=r.un;rw[IY];omega⟩
theorem gE.depth {k:Nat}{A:Around} (r:gE k A):A.depth < recursionLimit:=by have:=r.dp;omega
theorem gE.units {k:Nat}{A:Around} (r:gE k A):A.units+64 < cLine:=by have:=r.un;omega
theorem gE.aQ {k:Nat}{A:Around} (r:gE k A):A.units < cLine:=by have:=r.un;omega
def ZZ:TA:=fun _ H Q=>Q [] H
def Z0 (ta:TE) (tr:TA):TA:=fun σ H Q=>ta σ H fun x H1=>tr σ H1 fun xs H2=>Q (x :: xs) H2
section
variable {X:Cx}{e:Expr}{es:List Expr}{te:TE}{t:TA}{pos:Pos}
theorem aj:PA X [] ZZ:=fun _ _ _ _ H Q I h=>Calls.spliced_nil ⟨[],H,I,.nil,h⟩
theorem af (ha:PE X e te) (hr:PA X es t) (hs:starEach (e :: es) X.env=(false,eval e X.env) :: starEach es X.env:=by rfl):PA X (e :: es) (Z0 te t):=by
 intro pos pins s σ H Q I h
 rw[hs]
 show wpAny _ _ (spliced ((false,eval e X.env) :: backTo pos (starEach es X.env))) _ _ s
 refine Calls.spliced_cons (dF (ha pins s σ H _ I h) fun u s1 ⟨x,H1,I1,r1,q1⟩=>?_)
 exact dF (hr pos pins s1 σ H1 _ I1 q1) fun us s2 ⟨xs,H2,I2,r2,q2⟩=>⟨x :: xs,H2,I2,.cons r1 r2,q2⟩
def afl (t:TA):TE:=fun σ H Q=>t σ H fun xs H1=>xs.length≤sizeLine∧∀ p,H1 p=none→Q (.ref p) (upd H1 p (.tup xs))
def afm (t:TA):TE:=fun σ H Q=>t σ H fun xs H1=>xs.length≤sizeLine∧∀ p,H1 p=none→Q (.ref p) (upd H1 p (.lst xs))
theorem aJ {x1} (h:PA X es t):PE X (.Tuple es x1 pos) (afl t):=by
 intro pins s σ H Q I hq
 refine wpAny_Tuple_spliced (dF (h pos pins s σ H _ I hq) fun us s1 ⟨xs,H1,I1,r,z,q⟩=>⟨by rw[←r.length];exact z,?_⟩)
 have hf:H1 s1.heap.objs.size=none:=I1.hok.fresh (Nat.le_refl _)
 refine⟨.ref s1.heap.objs.size,upd H1 s1.heap.objs.size (.tup xs),I1.laid (t':=s1.toks) (fun b u e=>Heap.get?_push_of_some _ e) (Nat.le_refl _) ?_,rfl,q _ hf⟩
 exact⟨z,us,r,⟨_,Heap.get?_push_size _ rfl,rfl,_,rfl⟩⟩
theorem bh (h:PA X es t):PE X (.List es pos) (afm t):=by
 intro pins s σ H Q I hq
 refine wpAny_List_spliced (dF (h pos pins s σ H _ I hq) fun us s1 ⟨xs,H1,I1,r,z,q⟩=>⟨by rw[←r.length];exact z,?_⟩)
 have hf:H1 s1.heap.objs.size=none:=I1.hok.fresh (Nat.le_refl _)
 refine⟨.ref s1.heap.objs.size,upd H1 s1.heap.objs.size (.lst xs),I1.laid (t':=s1.toks) (fun b u e=>Heap.get?_push_of_some _ e) (Nat.le_refl _) ?_,rfl,q _ hf⟩
 exact⟨z,us,0,r,Heap.get?_push_size _ rfl⟩
end
abbrev Sp:=List V→Hp→VK→XK→Prop
abbrev MI:=List Env→Hp→Shared→XK→Value→Shared→Prop
structure Ea (P:Program) (w:World) (K:W.Frag) (mg:Str→Option Value) (base:Heap) (A:Around) (outer:List Env) (s:Shared) (H:Hp):Prop where
 frames:A.frames=some outer
 mod:Mod K mg base
 bs:∀ b o,base.get? b=some o→s.heap.get? b=some o∧H b=none
 O9:base.objs.size≤s.heap.objs.size
 uE:s.heap.FunFrames base outer
 SK:∀ b∈frs outer,H b=none
 hok:wX P w H s.heap
 bare:AllBare s.gens
def CE (outer:List Env) (P:Program) (w:World) (H:Hp) (s:Shared) (Q:VK) (u:Value) (s':Shared):Prop :=
 ∃ v H',s'.os=s.os∧AllBare s'.gens∧Un (frs outer) [] H H' s.heap s'.heap∧wX P w H' s'.heap∧RelV v u∧Q v H'
def CR (CX:MI) (outer:List Env) (P:Program) (w:World) (H:Hp) (s:Shared) (Q:VK) (E:XK) (r:Result) (s':Shared):Prop :=
 match r with
 | .ok (.ret u)=>CE outer P w H s Q u s'
 | .ok _=>False
 | .error e=>CX outer H s E e s'
structure aM (P:Program) (w:World) (K:W.Frag) (mg:Str→Option Value) (base:Heap) (CX:MI) (k:Nat) (f:Addr) (fd:FuncData) (ps:List Str) (sp:Sp):Prop where
 len:∀ vs H Q E,sp vs H Q E→vs.length=ps.length
 run:∀(A:Around) (outer:List Env) (s:Shared) (H:Hp) (args:Args) (us:List Value) (vs:List V) (Q:VK) (E:XK),gE k A→Ea P w K mg base A outer s H→BindsTo s fd args (ps.zip us)→Vals vs us→sp vs H Q E →
  codeAny (model P w) A (.call (.ref f) args) (CR CX outer P w H s Q E) s
theorem Ea.make {P:Program}{w:World}{K:W.Frag}{mg:Str→Option Value}{base:Heap}{A:Around}{outer:List Env}{s:Shared}{H:Hp} (e:Ea P w K mg base A outer s H) (C:Addr) (us:List Value) (kw:List (Str×Value)) :
 Ea P w K mg base (A.under (.builtin "type.__call__" ⟨.ref C :: us,kw⟩)) outer s H:=⟨by first | exact e.frames | (simpa [Around.under,Code.envs,Code.isFrame,pushEnvs] using e.frames),e.mod,e.bs,e.O9,e.uE,e.SK,e.hok,e.bare⟩
section
variable {X:Cx}{pins:List (Addr×Obj)}{σ:St}{H:Hp}{s s':Shared}
theorem Inv.PK (I:Inv X pins σ H s):Ea X.prog X.w X.K X.mg X.base X.A X.stack s H :=
 ⟨I.ok.frames,I.ok.mod,I.bs,Nat.le_trans I.ok.O9 I.sz,I.stack,I.D6,I.hok,I.bare⟩
theorem Inv.after {Q:VK}{u:Value} (I:Inv X pins σ H s) (h:CE X.stack X.prog X.w H s Q u s'):EP X pins σ Q u s':=by
 obtain⟨v,H',os,bare,un,hok,r,q⟩:=h
 obtain⟨hh,g,d,t,os'⟩:=s'
 obtain rfl:os'=s.os:=os
 exact⟨v,H',I.call (h':=hh) (g':=g) (d':=d) (t':=t) (ch:=[]) un hok bare (fun b z=>absurd z (by simp)),r,q⟩
end
def PL (sp:Sp) (vn:List V) (E:XK) (t:TA):TE:=fun σ H Q=>t σ H fun vs H1=>sp (vs++vn) H1 Q E
def Vp (C:Addr) (m:Str) (sp:Sp) (vn:List V) (E:XK) (ta:TE) (t:TA):TE:=fun σ H Q=>ta σ H fun x H1=>∃ a dx fs,x=.ref a∧H1 a=some (.ins C dx fs)∧fs.lookup m=none ∧
 t σ H1 fun vs H2=>sp (x :: (vs++vn)) H2 Q E
def Z1 (C:Addr) (sp:Sp) (vn:List V) (E:XK) (t:TA):TE:=fun σ H Q=>t σ H fun vs H1=>∀ x dx,H1 x=none→H1 dx=none→dx≠x →
 sp (.ref x :: (vs++vn)) (upd (upd H1 dx (.own x)) x (.ins C dx [])) (fun v H2=>v=.non∧Q (.ref x) H2) E
def Binds (K:W.Frag) (fd:FuncData) (ps:List Str) (ds:List Value):Prop :=
 ∀(s:Shared) (us:List Value),K.In s.heap→(us++ds).length=ps.length→BindsTo s fd ⟨us,[]⟩ (ps.zip (us++ds))
theorem Binds.all {K:W.Frag}{fd:FuncData}{ps:List Str} (h:∀ us:List Value,us.length=ps.length→bindArgs fd ⟨us,[]⟩=pure (ps.zip us)):Binds K fd ps []:=fun s us _ hl=>by
 rw[List.append_nil] at hl ⊢
 exact .of_eq (h us hl)
def Passes (CX:MI) (X:Cx) (E:XK):Prop:=∀(pins:List (Addr×Obj)) (σ:St) (H:Hp) (s:Shared) (e:Value) (s':Shared),Inv X pins σ H s→CX X.stack H s E e s'→X.xe e s'
section
variable {X:Cx}{CX:MI}{k:Nat}{f C:Addr}{fd:FuncData}{ps:List Str}{sp:Sp}{vn:List V}{ds:List Value}{E:XK}{x m:Str}{p pos apos:Pos}{e o:Expr}{es:List Expr}{ta:TE}{t:TA}
theorem IZ {pins:List (Addr×Obj)}{σ:St}{H:Hp}{s:Shared}{Q:VK}{us:List Value}{vs:List V} (F:aM X.prog X.w X.K X.mg X.base CX k f fd ps sp) (hr:gE k X.A) (hb:Binds X.K fd ps ds) (hd:Vals vn ds) (hx:Passes CX X E)
  (I:Inv X pins σ H s) (r:Vals vs us) (h:sp (vs++vn) H Q E):wpAny (model X.prog X.w) X.A (call (.ref f) us) (EP X pins σ Q) X.xe s:=by
 have r2:Vals (vs++vn) (us++ds):=r.append hd
 have hl:(us++ds).length=ps.length:=by rw[←r2.length];exact F.len _ _ _ _ h
 refine wpAny_call (codeAny_mono (F.run X.A X.stack s H ⟨us,[]⟩ (us++ds) (vs++vn) Q E hr I.PK (hb s us I.nU hl) r2 h) fun r s' hq=>?_)
 cases r with
 | error e=>exact hx pins σ H s e s' I hq
 | ok fl =>
  cases fl with
  | ret u=>exact I.after hq
  | next=>exact False.elim hq
  | brk=>exact False.elim hq
  | cont=>exact False.elim hq
theorem vt (F:aM X.prog X.w X.K X.mg X.base CX k f fd ps sp) (hr:gE k X.A) (hg:Gl X x) (hm:X.mg x=some (.ref f)) (hk:W.keepIn X.K (.ref f)=true) (hb:Binds X.K fd ps ds) (hd:Vals vn ds) (hx:Passes CX X E)
  (ha:PA X (e :: es) t) (hdb:(x == ("__debug__" : Str))=false:=by decide) (he:starEach (e :: es) X.env=(false,eval e X.env) :: starEach es X.env:=by rfl) (hpl:(backTo pos (starEach es X.env)).any (·.1)=false:=by rfl) :
  PE X (.Call (.Name x p) (e :: es) [] pos) (PL sp vn E t):=by
 intro pins s σ H Q I h
 refine wpAny_Call_Name_kw (mw I hg hm ?_ hdb)
 refine W.callWith_K (h₀:=X.base) I.ok.mod.j8 hk (dF (ha pos pins s σ H _ I h) fun us s1 ⟨vs,H1,I1,r,q⟩=>⟨I1.nU,?_⟩) he hpl
 exact IZ F hr hb hd hx I1 r q
theorem mD {pl:Sem Bool} (he:PE X o ta) (c:LC X.K C) (hm:Meth X.K C m f) (F:aM X.prog X.w X.K X.mg X.base CX k f fd ps sp) (hr:gE k X.A) (hb:Binds X.K fd ps ds) (hd:Vals vn ds) (hx:Passes CX X E) (ha:PA X (e :: es) t)
  (hst:starEach (e :: es) X.env=(false,eval e X.env) :: starEach es X.env:=by rfl) (hpl:(backTo pos (starEach es X.env)).any (·.1)=false:=by rfl)
  (ht:eval (.Call (.Attribute o m apos) (e :: es) [] pos) X.env=(do
   let ov ←eval o X.env
   standAt apos.atName
   let (f,first) ←holding [ov] (getMethod ov m pl)
   callWith pos f first (backTo pos (starEach (e :: es) X.env)) (backToKw pos (keywordEach [] X.env))):=by rfl) :
  PE X (.Call (.Attribute o m apos) (e :: es) [] pos) (Vp C m sp vn E ta t):=by
 intro pins s σ H Q I h
 refine W.methodCall_KW (pl:=pl) (dF (he pins s σ H _ I h) fun u s1 ⟨x,H1,I1,rx,a,dx,fs,ex,ea,l,q⟩=>?_) ht
 subst ex
 obtain rfl:u=Value.ref a:=rx
 refine Aj I1 ea c hm l ?_
 refine W.callWith_K (first:=[.ref a]) (h₀:=X.base) I.ok.mod.j8 hm.kp (dF (ha pos pins s1 σ H1 _ I1 q) fun us s2 ⟨vs,H2,I2,r,q2⟩=>⟨I2.nU,?_⟩) hst hpl
 exact IZ (us:=.ref a :: us) (vs:=.ref a :: vs) F hr hb hd hx I2 (.cons rfl r) q2
theorem Gk {pl:Sem Bool} (he:PE X o ta) (c:LC X.K C) (hm:Meth X.K C m f) (F:aM X.prog X.w X.K X.mg X.base CX k f fd ps sp) (hr:gE k X.A) (hb:Binds X.K fd ps ds) (hd:Vals vn ds) (hx:Passes CX X E)
  (ht:eval (.Call (.Attribute o m apos) [] [] pos) X.env=(do
   let ov ←eval o X.env
   standAt apos.atName
   let (f,first) ←holding [ov] (getMethod ov m pl)
   callWith pos f first (backTo pos (starEach [] X.env)) (backToKw pos (keywordEach [] X.env))):=by rfl) :
  PE X (.Call (.Attribute o m apos) [] [] pos) (Vp C m sp vn E ta ZZ):=by
 intro pins s σ H Q I h
 refine W.methodCall_KW (pl:=pl) (dF (he pins s σ H _ I h) fun u s1 ⟨x,H1,I1,rx,a,dx,fs,ex,ea,l,q⟩=>?_) ht
 subst ex
 obtain rfl:u=Value.ref a:=rx
 refine Aj I1 ea c hm l ?_
 exact W.callWith_K0 (first:=[.ref a]) I1.nU hm.kp (IZ (us:=[.ref a]) (vs:=[.ref a]) F hr hb hd hx I1 (.cons rfl .nil) q)
structure Mk (K:W.Frag) (C f:Addr):Prop where
 makes:W.makesIn K C=true
 init:W.findIn K (.ref C) "__init__" = some (some (.ref f))
 fn:W.isFn K (.ref f)=true
 kp:W.keepIn K (.ref C)=true
theorem PM {pins:List (Addr×Obj)}{σ:St}{H:Hp}{s:Shared}{Q:VK}{us:List Value}{vs:List V} (M:Mk X.K C f) (F:aM X.prog X.w X.K X.mg X.base CX k f fd ps sp) (hr:gE (k+1) X.A) (hb:Binds X.K fd ps ds) (hd:Vals vn ds)
  (hx:Passes CX X E) (I:Inv X pins σ H s) (r:Vals vs us)
  (h:∀ x dx,H x=none→H dx=none→dx≠x→sp (.ref x :: (vs++vn)) (upd (upd H dx (.own x)) x (.ins C dx [])) (fun v H2=>v=.non∧Q (.ref x) H2) E) :
  wpAny (model X.prog X.w) X.A (call (.ref C) us) (EP X pins σ Q) X.xe s:=by
 have hq:=h (s.heap.objs.size+1) s.heap.objs.size (I.hok.fresh (Nat.le_succ _)) (I.hok.fresh (Nat.le_refl _)) (Nat.ne_of_lt (Nat.lt_succ_self _))
 have I2:=Inv.made (C:=C) I
 have r2:Vals (V.ref (s.heap.objs.size+1) :: (vs++vn)) (Value.ref (s.heap.objs.size+1) :: (us++ds)):=.cons rfl (r.append hd)
 have hl:(Value.ref (s.heap.objs.size+1) :: us++ds).length=ps.length:=by
  have e:=r2.length
  rw[F.len _ _ _ _ hq] at e
  exact e.symm
 refine wpAny_call (PF (f:=f) I.nU M.makes M.init (beq_iff_eq.mp M.fn) (codeAny_mono (F.run _ X.stack _ _ ⟨Value.ref (s.heap.objs.size+1) :: us,[]⟩ (Value.ref (s.heap.objs.size+1) :: (us++ds)) _ _ E (hr.make C us [])
  (I2.PK.make C us []) (hb _ (Value.ref (s.heap.objs.size+1) :: us) I2.nU hl) r2 hq) fun r s' hq'=>?_))
 cases r with
 | error e=>exact hx pins σ _ _ e s' I2 hq'
 | ok fl =>
  cases fl with
  | ret u =>
   obtain⟨v,H',I3,rv,ev,q3⟩:=I2.after hq'
   subst ev
   exact⟨rv,⟨V.ref (s.heap.objs.size+1),H',I3,rfl,q3⟩⟩
  | next=>exact False.elim hq'
  | brk=>exact False.elim hq'
  | cont=>exact False.elim hq'
theorem sY (M:Mk X.K C f) (F:aM X.prog X.w X.K X.mg X.base CX k f fd ps sp) (hr:gE (k+1) X.A) (hg:Gl X x) (hm:X.mg x=some (.ref C)) (hb:Binds X.K fd ps ds) (hd:Vals vn ds) (hx:Passes CX X E)
  (ha:PA X (e :: es) t) (hdb:(x == ("__debug__" : Str))=false:=by decide) (he:starEach (e :: es) X.env=(false,eval e X.env) :: starEach es X.env:=by rfl) (hpl:(backTo pos (starEach es X.env)).any (·.1)=false:=by rfl) :
  PE X (.Call (.Name x p) (e :: es) [] pos) (Z1 C sp vn E t):=by
 intro pins s σ H Q I h
 refine wpAny_Call_Name_kw (mw I hg hm ?_ hdb)
 refine W.callWith_K (h₀:=X.base) I.ok.mod.j8 M.kp (dF (ha pos pins s σ H _ I h) fun us s1 ⟨vs,H1,I1,r,q⟩=>⟨I1.nU,?_⟩) he hpl
 exact PM M F hr hb hd hx I1 r q
end
section
variable {X:Cx}{CX:MI}{k:Nat}{f C:Addr}{fd:FuncData}{ps ks:List Str}{sp:Sp}{E:XK}{x m:Str}{p pos apos kpos:Pos}{e o:Expr}{es:List Expr}{kws:List Keyword}{te ta:TE}{t tk:TA}{nm:Option Str}
variable {g:List Value→List Value→List Value}{gV:List V→List V→List V}
end
structure aG (N P:List Str) (sc:Scope):Prop where
 kind:sc.kind=.function
 co:sc.isCoroutine=false
 gen:sc.isGenerator=false
 nd:N.Nodup
 pre:N.take P.length=P
 par:∀ x∈P,sc.names.lookup x=some .local∨sc.names.lookup x=some .cell
 V4:∀ y∈sc.names,y.2≠.free
theorem Dm {kindOf:Str→Option NameKind}{x:Str}:∀{binds:List (Str×Value)}{m:Str→Option Value},(∀ v,(x,v)∉binds)→bindL kindOf binds m x=m x
 | [],_,_=>rfl
 | (n,v) :: r,m,h=>by
  unfold bindL
  rw[Dm fun w hw=>h w (List.mem_cons_of_mem _ hw)]
  split
  ·have:x≠n:=by rintro rfl;exact h v List.mem_cons_self
   simp[this]
  ·rfl
theorem Dn {kindOf:Str→Option NameKind}{x:Str}:∀{binds:List (Str×Value)}{m:Str→Option Value},(∀ v,(x,v)∉binds)→bindC kindOf binds m x=m x
 | [],_,_=>rfl
 | (n,v) :: r,m,h=>by
  unfold bindC
  rw[Dn fun w hw=>h w (List.mem_cons_of_mem _ hw)]
  split
  ·rfl
  ·have:x≠n:=by rintro rfl;exact h v List.mem_cons_self
   simp[this]
theorem Dp {kindOf:Str→Option NameKind}{x:Str}{v:Value}:∀{P:List Str}{vs:List Value}{i:Nat}{m:Str→Option Value},P.Nodup→P[i]? = some x→vs[i]? = some v→kindOf x=some .local →
  bindL kindOf (P.zip vs) m x=some v
 | [],_,_,_,_,h,_,_=>by simp at h
 | _ :: _,[],_,_,_,_,h,_=>by simp at h
 | p :: P,w :: vs,0,m,nd,h1,h2,hk=>by
  simp at h1 h2;subst h1;subst h2
  show bindL kindOf ((p,w) :: P.zip vs) m p=_
  unfold bindL
  rw[Dm fun v hv=>(List.nodup_cons.mp nd).1 (List.of_mem_zip hv).1,if_pos hk]
  simp
 | p :: P,w :: vs,i+1,m,nd,h1,h2,hk=>by
  show bindL kindOf ((p,w) :: P.zip vs) m x=_
  unfold bindL
  exact Dp (i:=i) (List.nodup_cons.mp nd).2 (by simpa using h1) (by simpa using h2) hk
theorem Dq {kindOf:Str→Option NameKind}{x:Str}{v:Value}:∀{P:List Str}{vs:List Value}{i:Nat}{m:Str→Option Value},P.Nodup→P[i]? = some x→vs[i]? = some v→kindOf x≠some .local →
  bindC kindOf (P.zip vs) m x=some v
 | [],_,_,_,_,h,_,_=>by simp at h
 | _ :: _,[],_,_,_,_,h,_=>by simp at h
 | p :: P,w :: vs,0,m,nd,h1,h2,hk=>by
  simp at h1 h2;subst h1;subst h2
  show bindC kindOf ((p,w) :: P.zip vs) m p=_
  unfold bindC
  rw[Dn fun v hv=>(List.nodup_cons.mp nd).1 (List.of_mem_zip hv).1,if_neg hk]
  simp
 | p :: P,w :: vs,i+1,m,nd,h1,h2,hk=>by
  show bindC kindOf ((p,w) :: P.zip vs) m x=_
  unfold bindC
  exact Dq (i:=i) (List.nodup_cons.mp nd).2 (by simpa using h1) (by simpa using h2) hk
def start (N:List Str) (vs:List V):St:=vs.map some++List.replicate (N.length - vs.length) none
def tO (CX:MI) (P:Program) (w:World) (K:W.Frag) (mg:Str→Option Value) (base:Heap) (N:List Str) (qual:Str) (scope:Scope) (f:Addr) (cd:Value) (A:Around) (outer:List Env) (s:Shared) (H:Hp) (E:XK):Cx where
 prog:=P
 w:=w
 K:=K
 mg:=mg
 base:=base
 A:=A.deeper (envOfC qual scope s.heap.objs.size f cd)
 N:=N
 s₀:=s
 H₀:=H
 env:=envOfC qual scope s.heap.objs.size f cd
 outer:=outer
 stack:=envOfC qual scope s.heap.objs.size f cd :: outer
 ex:=[]
 calm:=true
 fn:=fun _=>true
 pn:=[]
 xe:=fun e s'=>wpAny (model P w) (A.deeper (envOfC qual scope s.heap.objs.size f cd)) (leaving (envOfC qual scope s.heap.objs.size f cd) e) (fun _ s''=>CX outer H s E e s'') (fun e' s''=>CX outer H s E e' s'') s'
theorem Gm {sc:Scope}{n:Nat}{x:Str} (h:sc.names.lookup x=some .cell):∃ c,(cellsFrom n sc.names []).lookup x=some c:=by
 have q:=W.cellsFrom_some sc.names n [] (.inl h)
 exact Option.isSome_iff_exists.mp q
theorem Dr {CX:MI}{P:Program}{w:World}{K:W.Frag}{mg:Str→Option Value}{base:Heap}{N ps:List Str}{qual:Str}{scope:Scope}{f:Addr}{cd:Value}{A:Around}{outer:List Env}{s s1:Shared}{H:Hp}{E:XK}{us:List Value}{vs:List V}
  (S:aG N ps scope) (hd:A.handled=none) (e0:Ea P w K mg base A outer s H) (hl:vs.length=ps.length) (r:Vals vs us)
  (x:InCallC s s.heap.objs.size (bindL (envOfC qual scope s.heap.objs.size f cd).kindOf (ps.zip us) fun _=>none) (cellsFrom (s.heap.objs.size+1) scope.names []) (bindC (envOfC qual scope s.heap.objs.size f cd).kindOf (ps.zip us) fun _=>none) s1) :
  Inv (tO CX P w K mg base N qual scope f cd A outer s H E) [] (start N vs) H s1:=by
 have hpl:ps.length≤N.length:=by have:=congrArg List.length S.pre;rw[List.length_take] at this;omega
 obtain⟨h1,tk,rfl,hk⟩:=x.done
 have Z2:∀ b:Addr,b∉(tO CX P w K mg base N qual scope f cd A outer s H E).ex:=fun b z=>absurd (show b∈([]:List Addr) from z) (by simp)
 refine⟨⟨e0.mod,S.kind,rfl,rfl,Nat.le_refl _,fun y z c h1 h2=>?_,fun y hy=>?_,fun y c _ h=>?_,fun _=>hd,Around.frames_deeper e0.frames,.inr ⟨rfl,rfl⟩,fun b z=>absurd z (Z2 b),e0.bs,e0.O9,fun b _ _=>Z2 b,fun b z=>absurd z (Z2 b),e0.uE,e0.SK⟩,
  rfl,e0.bare,Un.kept hk,⟨_,x.toInCall.ns,fun i y v h1 h2 h3=>?_⟩,fun y c h=>⟨_,x.cell y c h⟩,e0.hok.fresh (Nat.le_refl _),fun y c h=>?_,fun p hp=>absurd (show p∈([]:List (Addr×Obj)) from hp) (by simp),e0.hok.kept hk,?_⟩
 ·exact name_of_addr x.apart (PySem.mem_of_lookup h1) (PySem.mem_of_lookup h2)
 ·have hy:scope.names.lookup y=some .cell∨scope.names.lookup y=some .free:=hy
  rcases hy with hy | hy
  ·exact Gm hy
  ·exact absurd rfl (S.V4 _ (PySem.mem_of_lookup hy))
 ·exact Nat.le_of_lt (x.above y c (PySem.mem_of_lookup h))
 ·have hi:i < vs.length:=by
   unfold start at h2
   by_cases hi:i < vs.length
   ·exact hi
   ·rw[List.getElem?_append_right (by simpa using hi)] at h2
    rw[List.getElem?_replicate] at h2
    split at h2 <;> cases h2
  have ha:vs[i]? = some v:=by
   unfold start at h2
   rw[List.getElem?_append_left (by simpa using hi),List.getElem?_map] at h2
   cases e:vs[i]? with
   | none=>rw[e] at h2;cases h2
   | some a=>rw[e] at h2;cases h2;rfl
  obtain⟨u,hu,rv⟩:=r.get ha
  have hp:ps[i]? = some y:=by
   rw[←S.pre,List.getElem?_take_of_lt (by omega)];exact h1
  have ndP:ps.Nodup:=by rw[←S.pre];exact S.nd.sublist (List.take_sublist _ _)
  refine⟨u,rv,?_⟩
  rcases S.par y (List.mem_of_getElem? hp) with k | k
  ·exact .inl ⟨k,Dp ndP hp hu k⟩
  ·obtain⟨c,e⟩:=Gm (n:=s.heap.objs.size+1) k
   refine .inr ⟨.inl k,c,e,?_⟩
   have q:=x.cell y c e
   rw[Dq ndP hp hu (by show scope.names.lookup y≠_;rw[k];decide)] at q
   exact q
 ·exact e0.hok.fresh (Nat.le_of_lt (x.above y c (PySem.mem_of_lookup h)))
 ·unfold start
  show _=N.length
  rw[List.length_append,List.length_map,List.length_replicate]
  omega
theorem PN {CX:MI}{P:Program}{w:World}{K:W.Frag}{mg:Str→Option Value}{base:Heap}{k:Nat}{f:Addr}{name qual:Str}{params:Arguments}{body:List Stmt}{scope:Scope}{dV kV doc pm cdv ct oc:Value}{an od:Option Addr}
  {osl:Array (Option Value)}{N ps:List Str}{sp:Sp} (lk:K.lookup f=some ⟨oc,od,.func (W.fnOf name qual params body scope dV kV doc pm an cdv ct),osl⟩) (hcd:W.codeIn K cdv qual=true) (S:aG N ps scope)
  (len:∀ vs H Q E,sp vs H Q E→vs.length=ps.length)
  (hbody:∀(A:Around) (outer:List Env) (s:Shared) (H:Hp) (vs:List V) (Q:VK) (E:XK),gE k (A.deeper (envOfC qual scope s.heap.objs.size f cdv))→sp vs H Q E →
   ∃ t,Gb (tO CX P w K mg base N qual scope f cdv A outer s H E) body t∧t { nx:=fun _ H'=>Q .non H',rt:=Q } (start N vs) H) :
  aM P w K mg base CX (k+1) f (W.fnOf name qual params body scope dV kV doc pm an cdv ct) ps sp:=by
 refine⟨len,fun A outer s H args us vs Q E hr e0 hb r Ja=>?_⟩
 have hl:=len _ _ _ _ Ja
 have KX:K.In s.heap:=e0.mod.j8.keeps fun b o e=>(e0.bs b o e).1
 have lim:s.heap.NoLimit:=e0.mod.nolimit.keeps fun b o e=>(e0.bs b o e).1
 have hkind:∀ y∈ps.zip us,scope.names.lookup y.1=some .local∨(scope.names.lookup y.1=some .cell∧((cellsFrom (s.heap.objs.size+1) scope.names []).lookup y.1).isSome=true):=fun ⟨n,v⟩ hy=>by
  rcases S.par n (List.of_mem_zip hy).1 with q | q
  ·exact .inl q
  ·exact .inr ⟨q,W.cellsFrom_some _ _ _ (.inl q)⟩
 refine codeAny_call_function hr.depth (KX _ _ lk) rfl S.co S.gen rfl (W.codeRec_of KX hcd) (hb _ _ _ _ ?_)
 refine wpAny_newFunctionEnv_cells S.kind hkind fun env he s1 x=>?_
 subst he
 refine⟨lim.keeps x.toInCall.keep,codeAny_func ?_⟩
 obtain⟨t,ht,hq⟩:=hbody A outer s H vs Q E (hr.deeper _) Ja
 have I:Inv (tO CX P w K mg base N qual scope f cdv A outer s H E) [] (start N vs) H s1:=Dr S hr.hd e0 hl r x
 refine wpAny_mono (ht [] s1 (start N vs) H _ I hq) (fun fl s' hs=>?_) fun e s' hs=>hs
 have fin:∀{σ':St}{H':Hp}{v:V}{u:Value},Inv (tO CX P w K mg base N qual scope f cdv A outer s H E) [] σ' H' s'→RelV v u→Q v H'→CE outer P w H s Q u s' :=
  fun {σ' H' v u} J rv q=>⟨v,H',J.os,J.bare,J.base,J.hok,rv,q⟩
 cases fl with
 | ret u =>
  obtain⟨v,σ',H',J,rv,q⟩:=hs
  exact fin J rv q
 | next =>
  obtain⟨σ',H',J,q⟩:=hs
  exact fin (v:=V.non) (u:=Value.none) J rfl q
 | brk =>
  obtain⟨_,_,_,q⟩:=hs
  exact False.elim q
 | cont =>
  obtain⟨_,_,_,q⟩:=hs
  exact False.elim q
section
variable {X:Cx}{x:Str}{p pos:Pos}{e:Expr}{es:List Expr}{t:TA}{id T:String}{r:List V→Hp→VK→Prop}
def tCB (r:List V→Hp→VK→Prop) (t:TA):TE:=fun σ H Q=>t σ H fun vs H1=>r vs H1 Q
theorem PR (hc:iE X (.builtin id) r) (hg:Gl X x) (hm:X.mg x=none) (hv:bootBuiltins x=some (.builtin id)) (ha:PA X (e :: es) t) (hn:x ≠ "__name__" := by decide) (hdb:(x == ("__debug__" : Str))=false:=by decide)
  (he:starEach (e :: es) X.env=(false,eval e X.env) :: starEach es X.env:=by rfl) (hpl:(backTo pos (starEach es X.env)).any (·.1)=false:=by rfl):PE X (.Call (.Name x p) (e :: es) [] pos) (tCB r t):=by
 intro pins s σ H Q I h
 refine wpAny_Call_Name_kw (uF I hg hm hv ?_ hn hdb)
 exact PyProof.Rows.callWith_builtin1 (dF (ha pos pins s σ H _ I h) fun us s1 ⟨vs,H1,I1,r1,q1⟩=>hc pins s1 σ H1 vs us Q I1 r1 q1) he hpl
theorem MJ (hc:iE X (.type T) r) (hg:Gl X x) (hm:X.mg x=none) (hv:bootBuiltins x=some (.type T)) (ha:PA X (e :: es) t) (hn:x ≠ "__name__" := by decide) (hdb:(x == ("__debug__" : Str))=false:=by decide)
  (he:starEach (e :: es) X.env=(false,eval e X.env) :: starEach es X.env:=by rfl) (hpl:(backTo pos (starEach es X.env)).any (·.1)=false:=by rfl):PE X (.Call (.Name x p) (e :: es) [] pos) (tCB r t):=by
 intro pins s σ H Q I h
 refine wpAny_Call_Name_kw (uF I hg hm hv ?_ hn hdb)
 exact PyProof.Rows.callWith_type1 (dF (ha pos pins s σ H _ I h) fun us s1 ⟨vs,H1,I1,r1,q1⟩=>hc pins s1 σ H1 vs us Q I1 r1 q1) he hpl
end
end L2
namespace HT
open PySem PyProof.Rows
section
open PySem.SeqAt
open PySem.AutoSeq1 (wpAny_loadPart')
open PySem.MeetsSeq PySem.MeetsSeq2 PySem.MeetsSeq3
end
section
variable {prog:Program}{w:World}{A:Around}{E:Value→Shared→Prop}{s:Shared}
theorem Te {t b:Addr}{vs ws:List Value}{Q:Value→Shared→Prop} (ht:IsTup s.heap t vs.toArray) (hb:IsTup s.heap b ws.toArray) (hv:vs≠[])
  (h1:ws=[]→Q (.ref t) s) (h2:ws≠[]→Q (.ref s.heap.objs.size) { s with heap:=s.heap.push { cls:=.type "tuple",data:=.seq (vs++ws).toArray } })
  (hsz:vs.length+ws.length≤sizeLine):wpAny (model prog w) A (binaryOp .Add (.ref t) (.ref b)) Q E s:=by
 obtain⟨⟨cls,dd,data,sl⟩,ho,hc,n,hd⟩:=id ht
 obtain⟨⟨aiu,dd2,data2,sl2⟩,ho2,hc2,n2,hd2⟩:=id hb
 simp only at hc hd hc2 hd2
 subst hc hd hc2 hd2
 have e:vs.toArray++ws.toArray=(vs++ws).toArray:=by simp
 by_cases hw:ws=[]
 ·exact concat_meets ⟨_,ho,rfl⟩ ⟨_,ho2,rfl⟩ noFill_tuple_add seq_tuple_add PySem.F.slot_tuple_add PySem.F.entry_tuple_add (PySem.F.args_tuple_add_2 _ _)
   (tuple_addW1 t b vs.toArray ws.toArray n n2 dd dd2 sl sl2 (by simpa using hv) (by simp[hw])) ⟨ho,ho2,h1 hw⟩
 ·refine concat_meets ⟨_,ho,rfl⟩ ⟨_,ho2,rfl⟩ noFill_tuple_add seq_tuple_add PySem.F.slot_tuple_add PySem.F.entry_tuple_add (PySem.F.args_tuple_add_2 _ _)
   (tuple_addW2 t b vs.toArray ws.toArray n n2 dd dd2 sl sl2 (by simpa using hv) (by simpa using hw) (by rw[List.size_toArray,List.size_toArray];exact hsz)) ⟨ho,ho2,?_⟩
  rw[e]
  exact h2 hw
def qc (n d:Nat):Option Int→Nat
 | none=>d
 | some v=>if v < 0 then (v+(n:Int)).toNat else min v.toNat n
theorem V5 (n d:Nat) (hd:d≤n) (o:Option Int):qc n d o≤n:=by
 cases o with
 | none=>exact hd
 | some v =>
  show(if v < 0 then (v+(n:Int)).toNat else min v.toNat n)≤n
  by_cases hv:v < 0
  ·rw[if_pos hv];omega
  ·rw[if_neg hv];exact Nat.min_le_right _ _
theorem LF (v:Int) (n d:Nat):(if v < 0 then max (v+(n:Int)) 0 else min v (n:Int))=((qc n d (some v):Nat):Int):=by
 show(if v < 0 then max (v+(n:Int)) 0 else min v (n:Int))=(((if v < 0 then (v+(n:Int)).toNat else min v.toNat n):Nat):Int)
 by_cases hv:v < 0
 ·simp only[if_pos hv];omega
 ·simp only[if_neg hv];omega
theorem Jb (lo hi:Option Int) (n:Nat):Builtin.Slice.sliceAdjust lo hi 1 (n:Int)=(((qc n 0 lo:Nat):Int),((qc n n hi:Nat):Int)):=by
 have h1:¬((1:Int) < 0):=by omega
 unfold Builtin.Slice.sliceAdjust
 simp only[h1,if_false]
 refine Prod.ext ?_ ?_
 ·cases lo with
  | none=>rfl
  | some v=>exact LF v n 0
 ·cases hi with
  | none=>rfl
  | some v=>exact LF v n n
theorem Jc (i j:Nat):Builtin.Slice.slicePlaces (i:Int) (j:Int) 1=j - i:=by
 unfold Builtin.Slice.slicePlaces
 have h1:(1:Int) > 0:=by omega
 simp only[h1,if_true,Int.ediv_one]
 split <;> omega
theorem Ak {v:Value}{o:Option Int}{Q:Option Int→Shared→Prop} (p:IsPart v o) (h:Q o s):wpAny (model prog w) A (Builtin.Slice.slicePartIndex v) Q E s:=by
 cases p with
 | none=>exact slicePart_none h
 | int i t=>exact slicePart_int h
theorem xh {sl:Addr}{vl vu:Value}{lo hi:Option Int}{n:Nat}{Q:Int×Int×Nat→Shared→Prop} (hs:s.heap.IsSliceOf sl vl vu .none) (pl:IsPart vl lo) (pu:IsPart vu hi)
  (h:Q (((qc n 0 lo:Nat):Int),1,qc n n hi - qc n 0 lo) s):wpAny (model prog w) A (Builtin.Slice.sliceApplied (.ref sl) (pure (n:Int))) Q E s:=by
 obtain⟨os,hos,hcs,hds⟩:=id hs
 unfold Builtin.Slice.sliceApplied Builtin.Slice.sliceFields
 refine wpAny_bind (wpAny_bind (wpAny_field hos hds (x:=vl) rfl (wpAny_bind (wpAny_field hos hds (x:=vu) rfl (wpAny_bind (wpAny_field hos hds (x:=.none) rfl (wpAny_pure ?_)))))))
 refine wpAny_bind (slicePart_none ?_)
 show wpAny _ _ (if ((1:Int) == 0)=true then _ else _) _ _ s
 rw[if_neg (by decide)]
 refine wpAny_bind (Ak pl (wpAny_bind (Ak pu (wpAny_bind (wpAny_pure ?_)))))
 show wpAny _ _ (match Builtin.Slice.sliceAdjust lo hi 1 (n:Int) with | (lo,hi)=>pure (lo,(1:Int),Builtin.Slice.slicePlaces lo hi 1)) _ _ s
 rw[Jb lo hi n]
 show wpAny _ _ (pure (((qc n 0 lo:Nat):Int),(1:Int),Builtin.Slice.slicePlaces ((qc n 0 lo:Nat):Int) ((qc n n hi:Nat):Int) 1)) _ _ s
 rw[Jc]
 exact wpAny_pure h
theorem PU (xs:Array Value) (i k:Nat):((List.range k).filterMap fun (m:Nat)=>xs[((i:Int)+(m:Int) * 1).toNat]?).toArray=((xs.toList.drop i).take k).toArray:=by
 have e:(fun (m:Nat)=>xs[((i:Int)+(m:Int) * 1).toNat]?)=fun m=>xs[i+m]? := by
  funext m
  have:((i:Int)+(m:Int) * 1).toNat=i+m:=by omega
  rw[this]
 rw[e]
 have:=pick_run xs i k
 rw[List.filterMap_map] at this
 have e2:((fun x=>xs[x]?) ∘ fun x=>i+x)=fun m=>xs[i+m]? := rfl
 rw[e2] at this
 rw[this]
theorem vv {t sl:Addr}{items:Array Value}{vl vu:Value}{lo hi:Option Int}{Q:Value→Shared→Prop} (ht:IsTup s.heap t items) (hs:s.heap.IsSliceOf sl vl vu .none) (pl:IsPart vl lo) (pu:IsPart vu hi)
  (hw:¬(qc items.size 0 lo=0∧qc items.size items.size hi=items.size))
  (h:Q (.ref s.heap.objs.size) { s with heap:=s.heap.push { cls:=.type "tuple",data:=.seq ((items.toList.drop (qc items.size 0 lo)).take (qc items.size items.size hi - qc items.size 0 lo)).toArray } })
  (hsz:items.size≤sizeLine):wpAny (model prog w) A (getItem (.ref t) (.ref sl)) Q E s:=by
 have LG:sizeOk (.seq ((items.toList.drop (qc items.size 0 lo)).take (qc items.size items.size hi - qc items.size 0 lo)).toArray):=by
  show((items.toList.drop (qc items.size 0 lo)).take (qc items.size items.size hi - qc items.size 0 lo)).toArray.size≤sizeLine
  rw[List.size_toArray,List.length_take,List.length_drop,Array.length_toList]
  omega
 have hj:qc items.size items.size hi≤items.size:=V5 _ _ (Nat.le_refl _) hi
 obtain⟨os,hos,hcs,hds⟩:=id hs
 have hTs:s.TypeIs (.ref sl) "slice" := ⟨os,hos,hcs⟩
 unfold getItem
 try with_reducible refine wpAny_holding ?_
 first | refine wpAny_bind (wpAny_pure ?_) | skip
 refine wpAny_bind (wpAny_sequenceKey ht.typeIs (by decide) ?_)
 refine wpAny_bind (wpAny_callSpecial?_slot (name:=Str.ofString "__getitem__") ht.typeIs PyProof.Rows.slot_tuple_getitem
  (wpAny_call_entry PyProof.Rows.slot_tuple_getitem ht.typeIs entry_tuple_getitem ?_ (args_tuple_getitem _ _)))
 show wpAny _ _ (Builtin.Tuple.tupleItemsOf (.ref t) >>= _) _ _ s
 refine wpAny_bind (tupleItemsOf_ ht ?_)
 refine wpAny_bind (wpAny_typeOf hTs ?_)
 rw[if_pos (by decide)]
 refine wpAny_bind (xh hs pl pu ?_)
 have hno:¬((((qc items.size 0 lo:Nat):Int) == 0 && (1:Int) == 1 && (qc items.size items.size hi - qc items.size 0 lo) == items.size)=true):=by
  intro q
  rw[Bool.and_eq_true,Bool.and_eq_true] at q
  have q1:((qc items.size 0 lo:Nat):Int)=0:=eq_of_beq q.1.1
  have q2:qc items.size items.size hi - qc items.size 0 lo=items.size:=eq_of_beq q.2
  exact hw ⟨by omega,by omega⟩
 show wpAny _ _ (if (((qc items.size 0 lo:Nat):Int) == 0 && (1:Int) == 1 && (qc items.size items.size hi - qc items.size 0 lo) == items.size)=true then _ else _) _ _ s
 rw[if_neg hno,PU]
 first
  | exact wpAny_bind (m:=Builtin.Tuple.tupleExact _) (wpAny_newObj_type (wpAny_pure ⟨_,rfl,wpAny_pure h⟩) LG)
  | exact wpAny_bind (m:=Builtin.Tuple.tupleExact _) (wpAny_newObj_type (wpAny_bind (wpAny_pure (wpAny_pure ⟨_,rfl,wpAny_pure h⟩))) LG)
  | exact wpAny_bind (wpAny_bind (m:=Builtin.Tuple.tupleExact _) (wpAny_newObj_type (wpAny_pure (wpAny_pure ⟨_,rfl,wpAny_pure h⟩)) LG))
  | exact wpAny_bind (wpAny_bind (m:=Builtin.Tuple.tupleExact _) (wpAny_newObj_type (wpAny_pure ⟨_,rfl,wpAny_pure h⟩) LG))
end
end HT
namespace L2
open PySem PySem.Spec PyProof.Rows
abbrev TO:=St→Hp→(Option Int→Hp→Prop)→Prop
def PO (X:Cx) (e:Option Expr) (t:TO):Prop :=
 ∀(pins:List (Addr×Obj)) (s:Shared) (σ:St) (H:Hp) (Q:Option Int→Hp→Prop),Inv X pins σ H s→t σ H Q →
  wpAny (model X.prog X.w) X.A (evalPart e X.env) (fun u s'=>∃ o H',Inv X pins σ H' s'∧IsPart u o∧Q o H') X.xe s
def Tf:TO:=fun _ H Q=>Q none H
def Z3 (t:TE):TO:=fun σ H Q=>t σ H fun x H1=>∃ i,x=.int i∧Q (some i) H1
section
variable {X:Cx}{e:Expr}{te:TE}{lo hi:Option Expr}{tl th:TO}{pos p2:Pos}
theorem LH:PO X none Tf:=by
 intro pins s σ H Q I h
 rw[evalPart_none]
 exact wpAny_pure ⟨none,H,I,.none,h⟩
theorem LI (h:PE X e te):PO X (some e) (Z3 te):=by
 intro pins s σ H Q I hw
 rw[evalPart_some]
 refine dF (h pins s σ H _ I hw) fun u s1 ⟨x,H1,I1,r1,q1⟩=>?_
 obtain⟨i,rfl,q⟩:=q1
 obtain⟨t,rfl⟩:=r1
 exact⟨some i,H1,I1,.int i t,q⟩
def SlR (X:Cx) (r:V→Option Int→Option Int→Hp→VK→Prop):Prop :=
 ∀(pins:List (Addr×Obj)) (s:Shared) (σ:St) (H:Hp) (x:V) (v vl vu:Value) (lo hi:Option Int) (sl:Addr) (Q:VK),Inv X pins σ H s→RelV x v→s.heap.IsSliceOf sl vl vu .none→IsPart vl lo→IsPart vu hi→r x lo hi H Q →
  ∃ T id,typeLookup (.type T) "__getitem__" = pure (some (.builtin id))∧s.TypeIs v T∧wpAny (model X.prog X.w) X.A (getItem v (.ref sl)) (EP X pins σ Q) X.xe s
def tSl (r:V→Option Int→Option Int→Hp→VK→Prop) (te:TE) (tl th:TO):TE:=fun σ H Q=>te σ H fun x H1=>tl σ H1 fun l H2=>th σ H2 fun u H3=>r x l u H3 Q
theorem Gn {r:V→Option Int→Option Int→Hp→VK→Prop} (hr:SlR X r) (he:PE X e te) (hl:PO X lo tl) (hu:PO X hi th):PE X (.Subscript e (.Slice lo hi none p2) pos) (tSl r te tl th):=by
 intro pins s σ H Q I h
 refine Subscript_ (dF (he pins s σ H _ I h) fun v s1 ⟨x,H1,I1,r1,q1⟩=>?_)
 refine wpAny_Slice (dF (hl pins s1 σ H1 _ I1 q1) fun vl s2 ⟨l,H2,I2,pl,q2⟩=>dF (hu pins s2 σ H2 _ I2 q2) fun vu s3 ⟨u,H3,I3,pu,q3⟩=>?_)
 rw[evalPart_none]
 refine wpAny_pure ?_
 have I4:Inv X pins σ H3 { s3 with heap:=s3.heap.push { cls:=.type "slice",data:=.fields #[vl,vu,.none] } }:=I3.kept (t':=s3.toks) fun b ob q=>Heap.get?_push_of_some _ q
 obtain⟨T,id,hT,ht,hg⟩:=hr pins { s3 with heap:=s3.heap.push { cls:=.type "slice",data:=.fields #[vl,vu,.none] } } σ H3 x v vl vu l u s3.heap.objs.size Q I4 r1 (Heap.IsSliceOf.new ..) pl pu q3
 show wpAny (model X.prog X.w) X.A (subscriptTail e (.Slice lo hi none p2) v (.ref s3.heap.objs.size)) (EP X pins σ Q) X.xe { s3 with heap:=s3.heap.push { cls:=.type "slice",data:=.fields #[vl,vu,.none] } }
 exact tail_any (ops:=[.ref s3.heap.objs.size,v]) ht hT hg (by with_unfolding_all rfl)
def MK (xs:List V) (lo hi:Option Int):List V:=(xs.drop (HT.qc xs.length 0 lo)).take (HT.qc xs.length xs.length hi - HT.qc xs.length 0 lo)
theorem Gp (xs:List V) (lo hi:Option Int):(MK xs lo hi).length≤xs.length:=by
 unfold MK
 rw[List.length_take,List.length_drop]
 omega
def Z4 (K:W.Frag):V→Option Int→Option Int→Hp→VK→Prop:=fun x lo hi H Q=>∃ a xs,x=.ref a∧ck K H a xs ∧
 ¬(HT.qc xs.length 0 lo=0∧HT.qc xs.length xs.length hi=xs.length)∧∀ p,H p=none→Q (.ref p) (upd H p (.tup (MK xs lo hi)))
theorem V6:SlR X (Z4 X.K):=by
 intro pins s σ H x v vl vu lo hi sl Q I rx hs pl pu h
 obtain⟨a,xs,rfl,hx,hw,q⟩:=h
 cases rx
 obtain⟨its,r,ht,hz⟩:=I.tuple hx
 have hlen:its.toArray.size=xs.length:=by rw[List.size_toArray];exact r.length.symm
 refine⟨"tuple",_,PyProof.Rows.slot_tuple_getitem.lookup,ht.typeIs,?_⟩
 refine HT.vv ht hs pl pu (by rw[hlen];exact hw) ?_ (by rw[hlen];exact hz)
 rw[hlen]
 refine⟨.ref s.heap.objs.size,_,I.laid (t':=s.toks) (o:=.tup (MK xs lo hi)) (fun b ob q=>Heap.get?_push_of_some _ q) (Nat.le_refl _) ?_,rfl,q _ (I.hok.fresh (Nat.le_refl _))⟩
 exact⟨Nat.le_trans (Gp xs lo hi) hz,_,(r.drop (HT.qc xs.length 0 lo)).take (HT.qc xs.length xs.length hi - HT.qc xs.length 0 lo),IsTup.new _ _⟩
def Vq (K:W.Frag):R2:=fun x y H Q=>∃ a b xs ys,x=.ref a∧y=.ref b∧ck K H a xs∧ck K H b ys∧xs≠[]∧xs.length+ys.length≤sizeLine ∧
 (ys=[]→Q (.ref a) H)∧(ys≠[]→∀ p,H p=none→Q (.ref p) (upd H p (.tup (xs++ys))))
theorem Vals.Eb {xs:List V}{us:List Value} (r:Vals xs us):us=[]↔xs=[]:=by
 cases r with
 | nil=>simp
 | cons _ _=>simp
theorem Tg:pZ X (binaryOp .Add) (Vq X.K):=by
 intro pins s σ H x y v u Q I rx ry h
 obtain⟨a,b,xs,ys,rfl,rfl,ha,hb,hx,hz,q1,q2⟩:=h
 cases rx
 cases ry
 obtain⟨its,r1,p1,_⟩:=I.tuple ha
 obtain⟨its2,r2,p2,_⟩:=I.tuple hb
 refine HT.Te p1 p2 (fun z=>hx (r1.Eb.mp z)) (fun z=>⟨.ref a,H,I,rfl,q1 (r2.Eb.mp z)⟩) (fun z=>?_) (by rw[←r1.length,←r2.length];exact hz)
 refine⟨.ref s.heap.objs.size,_,I.laid (t':=s.toks) (o:=.tup (xs++ys)) (fun b ob q=>Heap.get?_push_of_some _ q) (Nat.le_refl _) ?_,rfl,q2 (fun w=>z (r2.Eb.mpr w)) _ (I.hok.fresh (Nat.le_refl _))⟩
 exact⟨by rw[List.length_append];exact hz,_,r1.append r2,IsTup.new _ _⟩
end
def Zd (n:Nat) (i:Int):Option Nat:=if 0≤i then (if i < n then some i.toNat else none) else if -(n:Int)≤i then some (i+n).toNat else none
def PV {α:Type} (xs:List α) (i:Int):Option α:=(Zd xs.length i).bind fun j=>xs[j]?
theorem Th {n:Nat}{i:Int}{j:Nat} (h:Zd n i=some j):seqIndex? i n=some j∧j < n∧-(n:Int)≤i∧i < n:=by
 unfold Zd at h
 by_cases h0:0≤i
 ·rw[if_pos h0] at h
  by_cases h1:i < n
  ·rw[if_pos h1] at h
   have e:i.toNat=j:=Option.some.inj h
   exact⟨by rw[seqIndex_of h0 h1,e],by omega,by omega,h1⟩
  ·rw[if_neg h1] at h;cases h
 ·rw[if_neg h0] at h
  by_cases h1 : -(n:Int)≤i
  ·rw[if_pos h1] at h
   have e:(i+n).toNat=j:=Option.some.inj h
   exact⟨by rw[seqIndex_neg (by omega) h1,e],by omega,h1,by omega⟩
  ·rw[if_neg h1] at h;cases h
theorem Ec {α:Type}{xs:List α}{i:Int}{v:α} (h:PV xs i=some v):∃ j,seqIndex? i xs.length=some j∧xs[j]? = some v∧j < xs.length∧-(xs.length:Int)≤i∧i < xs.length:=by
 unfold PV at h
 cases e:Zd xs.length i with
 | none=>rw[e] at h;cases h
 | some j =>
  rw[e] at h
  obtain⟨h1,h2,h3,h4⟩:=Th e
  exact⟨j,h1,h,h2,h3,h4⟩
theorem zS {α:Type}{xs:List α}{j:Nat}{v:α} (h:xs[j]? = some v):PV xs (j:Int)=some v:=by
 have hj:j < xs.length:=(List.getElem?_eq_some_iff.mp h).1
 have e:Zd xs.length (j:Int)=some j:=by
  unfold Zd
  rw[if_pos (by omega),if_pos (by omega)];simp
 unfold PV;rw[e];exact h
def Ed (b:Expr):Prop:=∀ o i,subscripted b false o i=operate [o,i] (getItem o i)
def Ze (X:Cx) (r:R2):Prop :=
 ∀(value slice:Expr) (pins:List (Addr×Obj)) (s:Shared) (σ:St) (H:Hp) (x y:V) (v u:Value) (Q:VK),Inv X pins σ H s→RelV x v→RelV y u→r x y H Q →
  subscripted slice false v u=operate [v,u] (getItem v u)→wpAny (model X.prog X.w) X.A (subscriptTail value slice v u) (EP X pins σ Q) X.xe s
def V7 (X:Cx) (id:String) (r:V→List V→Hp→VK→Prop):Prop :=
 ∀(pins:List (Addr×Obj)) (s:Shared) (σ:St) (H:Hp) (x:V) (xs:List V) (v:Value) (us:List Value) (Q:VK),Inv X pins σ H s→RelV x v→Vals xs us→r x xs H Q →
  wpAny (model X.prog X.w) X.A (call (.builtin id) (v :: us)) (EP X pins σ Q) X.xe s
section
variable {X:Cx}{a b:Expr}{ta tb:TE}{pos:Pos}
theorem PX {r:R2} (hr:Ze X r) (ha:PE X a ta) (hb:PE X b tb) (hs:Ed b):PE X (.Subscript a b pos) (Vl r ta tb):=by
 intro pins s σ H Q I h
 exact Subscript_ (V1 ha hb I h fun v u s2 x y H2 I2 rx ry q=>hr a b pins s2 σ H2 x y v u Q I2 rx ry q (hs _ _))
def V8 (K:W.Frag):R2:=fun x y H Q=>∃ p xs i v,x=.ref p∧y=.int i∧bB K H p xs∧PV xs i=some v∧Q v H
def V9 (K:W.Frag):R2:=fun x y H Q=>∃ p xs i v,x=.ref p∧y=.int i∧ck K H p xs∧PV xs i=some v∧Q v H
def afn:R2:=fun x y H Q=>∃ z i c,x=.str z∧y=.int i∧z.length≤sizeLine∧PV z.cps.toList i=some c∧Q (.str ⟨#[c]⟩) H
theorem Ti:Ze X (V8 X.K):=by
 intro value slice pins s σ H x y v u Q I rx ry h hs
 obtain⟨p,xs,i,z,rfl,rfl,hq,he,q⟩:=h
 cases rx
 obtain⟨t,rfl⟩:=ry
 obtain⟨its,r,pl,hz⟩:=I.list hq
 obtain⟨j,h1,h2,h3,h4,h5⟩:=Ec he
 obtain⟨w,ew,rw'⟩:=r.get h2
 have hl:=r.length
 have hn:=Ai
 have fin:EP X pins σ Q w s:=⟨z,H,I,rw',q⟩
 by_cases h0:0≤i
 ·have hj:i.toNat=j:=by
   rw[seqIndex_of h0 h5] at h1
   exact Option.some.inj h1
  exact item_listR pl.isList h0 (by omega) (by rw[hj];simpa using ew) fin hs
 ·have hj:(i+(its.toArray.size:Int)).toNat=j:=by
   rw[seqIndex_neg (by omega) h4] at h1
   rw[List.size_toArray,←hl]
   exact Option.some.inj h1
  exact subscriptTail_builtinR (x:=w) pl.isList.typeIs slot_list_getitem.lookup
   (wpAny_getItem_list_neg (Q:=fun r s'=>r=w∧EP X pins σ Q r s') pl.isList (by omega) (by rw[List.size_toArray] <;> omega) (by omega) (by rw[hj];simpa using ew) ⟨rfl,fin⟩) hs
theorem Wa:Ze X (V9 X.K):=by
 intro value slice pins s σ H x y v u Q I rx ry h hs
 obtain⟨p,xs,i,z,rfl,rfl,hq,he,q⟩:=h
 cases rx
 obtain⟨t,rfl⟩:=ry
 obtain⟨its,r,pl,hz⟩:=I.tuple hq
 obtain⟨j,h1,h2,h3,h4,h5⟩:=Ec he
 obtain⟨w,ew,rw'⟩:=r.get h2
 have hl:=r.length
 have hn:=Ai
 have fin:EP X pins σ Q w s:=⟨z,H,I,rw',q⟩
 exact subscriptTail_builtinR (x:=w) pl.typeIs slot_tuple_getitem.lookup
  (getItem_tuple (j:=j) (Q:=fun r s'=>r=w∧EP X pins σ Q r s') pl (by omega) (by omega) (by rw[List.size_toArray,←hl];exact h1) (by simpa using ew) ⟨rfl,fin⟩) hs
theorem Wb:Ze X afn:=by
 intro value slice pins s σ H x y v u Q I rx ry h hs
 obtain⟨z,i,c,rfl,rfl,hz,he,q⟩:=h
 obtain⟨t,rfl⟩:=rx
 obtain⟨t',rfl⟩:=ry
 obtain⟨j,h1,h2,h3,h4,h5⟩:=Ec he
 have hl:z.cps.toList.length=z.length:=by simp[Str.length]
 rw[hl] at h1 h4 h5
 have hn:=Ai
 exact tail_any (typeIs_str s z t) slot_str_getitem.lookup (getItem_str (c:=c) (by
  have e1:decide (i < -(2 ^ 63:Int))=false:=decide_eq_false (by omega)
  have e2:decide (i≥2 ^ 63)=false:=decide_eq_false (by omega)
  rw[e1,e2,Bool.or_false]) (by rw[h1];simpa using h2) ⟨.str ⟨#[c]⟩,H,I.tok _,⟨_,rfl⟩,q⟩) hs
def iL:V→Bool
 | .non=>true
 | .bl _=>true
 | .int _=>true
 | .str _=>true
 | _=>false
def Gq:V→V→Bool
 | .non,.non=>true
 | .bl a,.bl b=>a == b
 | .bl a,.int b=>(if a then 1 else 0) == b
 | .int a,.bl b=>a == (if b then 1 else 0)
 | .int a,.int b=>a == b
 | .str a,.str b=>a == b
 | _,_=>false
theorem PY {A:Around}{s:Shared}{y x:V}{u v:Value} (ry:RelV y u) (rx:RelV x v) (fy:iL y=true) (fx:iL x=true):SeqAt.EqAt A s u v (Gq y x):=by
 cases y with
 | non =>
  cases ry
  cases x with
  | non=>cases rx;exact SeqAt.EqAt.same _
  | bl b=>cases rx;exact SeqAt.EqAt.none_bool b
  | int b=>obtain⟨t,rfl⟩:=rx;exact SeqAt.EqAt.none_int b t
  | str b=>obtain⟨t,rfl⟩:=rx;exact SeqAt.EqAt.none_str b t
  | _=>exact absurd (show false=true from fx) Bool.false_ne_true
 | bl a =>
  cases ry
  cases x with
  | non=>cases rx;exact SeqAt.EqAt.bool_none a
  | bl b=>cases rx;exact SeqAt.EqAt.bool_bool a b
  | int b=>obtain⟨t,rfl⟩:=rx;exact SeqAt.EqAt.bool_int a b t
  | str b=>obtain⟨t,rfl⟩:=rx;exact SeqAt.EqAt.bool_str a b t
  | _=>exact absurd (show false=true from fx) Bool.false_ne_true
 | int a =>
  obtain⟨t',rfl⟩:=ry
  cases x with
  | non=>cases rx;exact SeqAt.EqAt.int_none a t'
  | bl b=>cases rx;exact SeqAt.EqAt.int_bool a t' b
  | int b=>obtain⟨t,rfl⟩:=rx;exact SeqAt.EqAt.int_int a t' b t
  | str b=>obtain⟨t,rfl⟩:=rx;exact SeqAt.EqAt.int_str a t' b t
  | _=>exact absurd (show false=true from fx) Bool.false_ne_true
 | str a =>
  obtain⟨t',rfl⟩:=ry
  cases x with
  | non=>cases rx;exact SeqAt.EqAt.str_none a t'
  | bl b=>cases rx;exact SeqAt.EqAt.str_bool a t' b
  | int b=>obtain⟨t,rfl⟩:=rx;exact SeqAt.EqAt.str_int a t' b t
  | str b=>obtain⟨t,rfl⟩:=rx;exact SeqAt.EqAt.str_str a t' b t
  | _=>exact absurd (show false=true from fx) Bool.false_ne_true
 | _=>exact absurd (show false=true from fy) Bool.false_ne_true
def PZ (x:V) (u:Value):Bool:=match u with
 | .none=>Gq .non x
 | .bool b=>Gq (.bl b) x
 | .int i _=>Gq (.int i) x
 | .str z _=>Gq (.str z) x
 | _=>false
theorem Jd {x y:V}{u:Value} (r:RelV y u) (f:iL y=true):PZ x u=Gq y x:=by
 cases y with
 | non=>cases r;rfl
 | bl b=>cases r;rfl
 | int i=>obtain⟨t,rfl⟩:=r;rfl
 | str z=>obtain⟨t,rfl⟩:=r;rfl
 | _=>exact absurd (show false=true from f) Bool.false_ne_true
theorem Ef {x:V}:∀{xs:List V}{us:List Value},Vals xs us→xs.all iL=true→us.any (PZ x)=xs.any fun y=>Gq y x
 | _,_,.nil,_=>rfl
 | y :: xs,u :: us,.cons r t,f=>by
  rw[List.all_cons,Bool.and_eq_true] at f
  rw[List.any_cons,List.any_cons,Jd r f.1,Ef t f.2]
theorem vz {A:Around}{s:Shared}{x:V}{v:Value} (rx:RelV x v) (fx:iL x=true):∀{xs:List V}{us:List Value},Vals xs us→xs.all iL=true→∀ u∈us,SeqAt.EqAt A s u v (PZ x u)
 | _,_,.nil,_=>fun u hu=>by cases hu
 | y :: xs,u :: us,.cons r t,f=>fun u' hu=>by
  rw[List.all_cons,Bool.and_eq_true] at f
  rcases List.mem_cons.mp hu with rfl | hu
  ·rw[Jd r f.1];exact PY r rx f.1 fx
  ·exact vz rx fx t f.2 u' hu
def inV (x:V) (xs:List V):Bool:=xs.any fun y=>Gq y x
def rIn (K:W.Frag) (neg:Bool):R2:=fun x y H Q=>∃ p xs,y=.ref p∧(bB K H p xs∨ck K H p xs)∧iL x=true∧xs.all iL=true∧Q (.bl (if neg then !inV x xs else inV x xs)) H
theorem Eg:pZ X (compareOp .NotIn) (rIn X.K true):=by
 intro pins s σ H x y v u Q I rx ry h
 obtain⟨p,xs,rfl,hq,fx,fs,q⟩:=h
 cases ry
 rcases hq with hq | hq
 ·obtain⟨its,r,pl,hz⟩:=I.list hq
  refine SeqAt.notIn_listAt (PZ x) pl.isList (fun w hw=>vz rx fx r fs w (by simpa using hw)) ⟨.bl _,H,I,rfl,?_⟩
  rw[show its.toArray.any (PZ x)=its.any (PZ x) by simp,Ef r fs]
  exact q
 ·obtain⟨its,r,pl,hz⟩:=I.tuple hq
  refine SeqAt.notIn_tupleAt (PZ x) pl (fun w hw=>vz rx fx r fs w (by simpa using hw)) ⟨.bl _,H,I,rfl,?_⟩
  rw[show its.toArray.any (PZ x)=its.any (PZ x) by simp,Ef r fs]
  exact q
theorem qd:pZ X (compareOp .NotIn) (fun x y H Q=>∃ i j,x=.str i∧y=.str j∧Q (.bl (!(!(Builtin.Str.occurrences j i 0 j.length 1).isEmpty))) H):=by
 intro pins s σ H x y v u Q I rx ry h
 obtain⟨i,j,rfl,rfl,q⟩:=h
 obtain⟨t,rfl⟩:=rx
 obtain⟨t',rfl⟩:=ry
 exact notIn_str ⟨.bl _,H,I,rfl,q⟩
theorem Eh:iE X (.builtin "len") (fun xs H Q=>∃ p ys,xs=[.ref p]∧(bB X.K H p ys∨ck X.K H p ys)∧Q (.int ys.length) H):=by
 intro pins s σ H xs us Q I r h
 obtain⟨p,ys,rfl,hq,q⟩:=h
 obtain⟨u,rfl,rx⟩:=vals1 r
 cases rx
 have hn:=Ai
 rcases hq with hq | hq
 ·obtain⟨its,r',pl,hz⟩:=I.list hq
  have hlen:=r'.length
  exact Calls.call_len_list pl.isList (by simp only[List.size_toArray] <;> omega) ⟨.int ys.length,H,I.tok _,⟨s.toks+1,by rw[List.size_toArray,hlen]⟩,q⟩
 ·obtain⟨its,r',pl,hz⟩:=I.tuple hq
  have hlen:=r'.length
  exact len_tuple pl (by simp only[List.size_toArray] <;> omega) ⟨.int ys.length,H,I.tok _,⟨s.toks+1,by rw[List.size_toArray,hlen]⟩,q⟩
theorem dU:iE X (.builtin "len") (fun xs H Q=>∃ z,xs=[.str z]∧z.length≤sizeLine∧Q (.int z.length) H):=by
 intro pins s σ H xs us Q I r h
 obtain⟨z,rfl,hz,q⟩:=h
 obtain⟨u,rfl,t,rfl⟩:=vals1 r
 have hn:=Ai
 exact len_str (by omega) ⟨.int z.length,H,I.tok _,⟨_,rfl⟩,q⟩
theorem B7:iE X (.type "tuple") (fun xs H Q=>∃ p ys,xs=[.ref p]∧((bB X.K H p ys∧∀ l,H l=none→Q (.ref l) (upd H l (.tup ys)))∨(ck X.K H p ys∧Q (.ref p) H))):=by
 intro pins s σ H xs us Q I r h
 obtain⟨p,ys,rfl,h⟩:=h
 obtain⟨u,rfl,rx⟩:=vals1 r
 cases rx
 rcases h with ⟨hq,q⟩ | ⟨hq,q⟩
 ·obtain⟨its,r',pl,hz⟩:=I.list hq
  have hlen:=r'.length
  refine call_tuple_list pl.isList (fun h' kp=>?_) (by simp only[List.size_toArray] <;> omega)
  have I1:Inv X pins σ H { s with heap:=h' }:=I.kept (t':=s.toks) kp
  have I2:Inv X pins σ (upd H h'.objs.size (.tup ys)) { s with heap:=h'.push { cls:=.type "tuple",data:=.seq its.toArray } } :=
   I1.laid (t':=s.toks) (fun b o e=>Heap.get?_push_of_some _ e) (Nat.le_refl _) (show eY X.prog X.w _ _ _ (.tup ys) from ⟨hz,its,r',IsTup.new _ _⟩)
  exact⟨.ref h'.objs.size,_,I2,rfl,q _ (I1.hok.fresh (Nat.le_refl _))⟩
 ·obtain⟨its,r',pl,hz⟩:=I.tuple hq
  exact call_tuple_same pl ⟨.ref p,H,I,rfl,q⟩
def tyV (K:W.Frag) (T:String) (x:V) (H:Hp):Prop:=match x with
 | .str _=>T = "str"
 | .int _=>T = "int"
 | .ref p=>(T = "list"∧∃ xs,bB K H p xs)∨(T = "tuple"∧∃ o,K.lookup p=some o∧o.cls=.type "tuple"∧o.dict=none) ∨
   (T = "dict"∧((∃ kvs,H p=some (.dK kvs))∨∃ kvs,H p=some (.dT kvs)))∨(T = "set"∧∃ S n,H p=some (.set S n))
 | _=>False
theorem P0 {pins:List (Addr×Obj)}{σ:St}{H:Hp}{s:Shared}{T:String}{x:V}{v:Value} (I:Inv X pins σ H s) (r:RelV x v) (ty:tyV X.K T x H) :
  s.TypeIs v T∧∀ a,v=.ref a→∃ ob,s.heap.get? a=some ob∧ob.dict=none:=by
 cases x with
 | str z =>
  obtain⟨t,rfl⟩:=r
  cases(show T = "str" from ty)
  exact⟨typeIs_str s z t,fun _ e=>nomatch e⟩
 | int i =>
  obtain⟨t,rfl⟩:=r
  cases(show T = "int" from ty)
  exact⟨typeIs_int s i t,fun _ e=>nomatch e⟩
 | ref p =>
  cases r
  rcases ty with ⟨rfl,xs,hq⟩ | ⟨rfl,o,hk,hc,hd⟩ | ⟨rfl,hk⟩ | ⟨rfl,S,n,hk⟩
  ·obtain⟨its,_,pl,_⟩:=I.list hq
   refine⟨pl.isList.typeIs,fun a e=>?_⟩
   cases e
   obtain⟨o,n,e,c,hd,_⟩:=pl
   exact⟨o,e,hd⟩
  ·refine⟨⟨o,I.nU p o hk,hc⟩,fun a e=>?_⟩
   cases e
   exact⟨o,I.nU _ o hk,hd⟩
  ·have z:∃ o,s.heap.get? p=some o∧o.ExactDict:=by
    rcases hk with ⟨kvs,hk⟩ | ⟨kvs,hk⟩
    ·obtain⟨_,_,_,_,o,_,_,e,ex,_⟩:=I.hok p _ hk
     exact⟨o,e,ex⟩
    ·obtain⟨_,_,_,_,o,_,_,e,ex,_⟩:=I.hok p _ hk
     exact⟨o,e,ex⟩
   obtain⟨o,e,ex⟩:=z
   refine⟨⟨o,e,ex.1⟩,fun a e2=>?_⟩
   cases e2
   exact⟨o,e,ex.2.1⟩
  ·obtain⟨o,_,_,_,e,ex,_⟩:=I.hok p _ hk
   refine⟨⟨o,e,ex.1⟩,fun a e2=>?_⟩
   cases e2
   exact⟨o,e,ex.2.1⟩
 | _=>exact False.elim ty
def tBM (K:W.Frag) (T:String) (r:V→List V→Hp→VK→Prop) (to:TE) (t:TA):TE:=fun σ H Q=>to σ H fun x H1=>tyV K T x H1∧t σ H1 fun xs H2=>r x xs H2 Q
variable {o e:Expr}{es:List Expr}{to:TE}{t:TA}{name:Str}{apos cpos:Pos}{T id:String}{r:V→List V→Hp→VK→Prop}
theorem Z5 (pa:PlainAttrs T) (slot:Slot T name id) (hty:typeOf (.builtin id)=pure (.type "method_descriptor")) (hm:V7 X id r) (ho:PE X o to) (ha:PA X (e :: es) t)
  (hbase:attributeBase o name X.env (eval o X.env)=eval o X.env:=by rfl)
  (hfew:((backTo cpos (starEach (e :: es) X.env)).all (fun x=>!x.1) && (backToKw cpos (keywordEach [] X.env)).all (fun x=>x.1.isSome)
   && decide ((e :: es).length+([]:List Keyword).length+(if ([]:List Keyword).isEmpty then 0 else 1) < 30))=true:=by rfl)
  (hline:(apos.endLine == cpos.line)=true:=by rfl) (hs:starEach (e :: es) X.env=(false,eval e X.env) :: starEach es X.env:=by rfl) (hplain:(backTo cpos (starEach es X.env)).any (·.1)=false:=by rfl) :
  PE X (.Call (.Attribute o name apos) (e :: es) [] cpos) (tBM X.K T r to t):=by
 intro pins s σ H Q I h
 refine wpAny_Call_method_late hbase hfew hline rfl (dF (ho pins s σ H _ I h) fun v s1 ⟨x,H1,I1,r1,ty,q1⟩=>?_)
 obtain⟨h1,h2⟩:=P0 I1 r1 ty
 refine⟨T,id,pa,slot,hty,h1,h2,?_⟩
 have hA:=ha cpos pins s1 σ H1 _ I1 q1
 rw[hs] at hA ⊢
 refine Calls.callWith_builtin (by show(false || (backTo cpos (starEach es X.env)).any (·.1))=false;rw[hplain] <;> rfl) (Calls.evalArgs_plain ?_)
 exact dF hA fun us s2 ⟨vs,H2,I2,r2,q2⟩=>hm pins s2 σ H2 x vs v us Q I2 r1 r2 q2
end
def MtM (X:Cx) (id:String) (r:V→List V→Hp→VK→Prop):Prop :=
 ∀(pins:List (Addr×Obj)) (s:Shared) (σ:St) (H:Hp) (x:V) (xs:List V) (v:Value) (us:List Value) (Q:VK),Inv X pins σ H s→RelV x v→Vals xs us→r x xs H Q →
  wpAny (model X.prog X.w) X.A (call (.builtin id) (v :: us)) (EP X pins σ Q) X.xe s
theorem Vals.one:∀{x:V}{us:List Value},Vals [x] us→∃ u,us=[u]∧RelV x u
 | _,_,.cons r .nil=>⟨_,rfl,r⟩
theorem Vals.reverse {xs:List V}{us:List Value} (h:Vals xs us):Vals xs.reverse us.reverse:=by
 induction h with
 | nil=>exact .nil
 | cons r t ih=>rw[List.reverse_cons,List.reverse_cons];exact Vals.append ih (.cons r .nil)
theorem Vals.rep {xs:List V}{us:List Value} (h:Vals xs us):∀ k:Nat,Vals (List.replicate k xs).flatten (List.replicate k us).flatten
 | 0=>.nil
 | k+1=>by
  rw[List.replicate_succ,List.replicate_succ,List.flatten_cons,List.flatten_cons]
  exact Vals.append h (Vals.rep h k)
theorem foldl_rep (its:List Value):∀(k:Nat) (acc:List Value),
  List.foldl (fun x1 x2=>x1++x2) acc.toArray (List.replicate k its.toArray)=(acc++(List.replicate k its).flatten).toArray
 | 0,acc=>by simp
 | k+1,acc=>by
  have e:acc.toArray++its.toArray=(acc++its).toArray:=by simp
  have e2:(acc++its)++(List.replicate k its).flatten=acc++(List.replicate (k+1) its).flatten:=by
   rw[List.replicate_succ,List.flatten_cons,List.append_assoc]
  rw[←e2,←foldl_rep its k (acc++its),←e,List.replicate_succ,List.foldl_cons]
section
variable {X:Cx}{pins:List (Addr×Obj)}{σ:St}{H:Hp}{s:Shared}{l b:Addr}{xs ys zs:List V}
theorem Inv.Z6 {its its':List Value}{n:Nat}{f:Array Value→Array Value}{t':Nat} (I:Inv X pins σ H s) (hH:H l=some (.lst xs))
  (e:s.heap.get? l=some { cls:=.type "list",data:=.seq its.toArray n }) (hf:f its.toArray=its'.toArray) (hv:Vals ys its') (hz:ys.length≤sizeLine) :
  Inv X pins σ (upd H l (.lst ys)) { s with heap:=s.heap.update l (Obj.mapSeq f),toks:=t' }:=by
 have q:=PySem.IsL.update e f
 rw[hf] at q
 refine I.write (x:=l) (e:=l) (by rw[hH];exact trivial) (.inl rfl) (fun b' u hb hu=>(Heap.get?_update_other s.heap (Obj.mapSeq f) (Ne.symm hb)).trans hu) ⟨_,q⟩ ?_
 exact⟨hz,its',_,hv,q⟩
theorem Inv.Wc {its:List Value}{t':Nat} (I:Inv X pins σ H s) (hv:Vals ys its) (hz:ys.length≤sizeLine) :
  Inv X pins σ (upd H s.heap.objs.size (.lst ys)) { s with heap:=s.heap.push { cls:=.type "list",data:=.seq its.toArray },toks:=t' } :=
 I.laid (fun _ _ q=>Heap.get?_push_of_some _ q) (Nat.le_refl _) ⟨hz,its,0,hv,Heap.get?_push_size _ rfl⟩
theorem Inv.fresh (I:Inv X pins σ H s):H s.heap.objs.size=none:=I.hok.fresh (Nat.le_refl _)
theorem Inv.ML (I:Inv X pins σ H s) (hH:H l=some (.lst xs)):xs.length≤sizeLine∧∃(its:List Value) (n:Nat),Vals xs its∧xs.length=its.length∧s.heap.get? l=some { cls:=.type "list",data:=.seq its.toArray n }:=by
 obtain⟨z,its,n,r,e⟩:=I.hok l _ hH
 exact⟨z,its,n,r,r.length,e⟩
theorem Gr {n:Nat} (h:n≤sizeLine):Builtin.List.listTooLong n=false:=by
 unfold Builtin.List.listTooLong
 exact decide_eq_false (by omega)
end
section
variable {X:Cx}
def Tj:V→List V→Hp→VK→Prop:=fun x vs H Q=>∃ l xs y,x=.ref l∧vs=[y]∧H l=some (.lst xs)∧xs.length < sizeLine∧Q .non (upd H l (.lst (xs++[y])))
theorem mR:MtM X "list.append" Tj:=by
 intro pins s σ H x vs v us Q I rx rv h
 obtain⟨l,xs,y,rfl,rfl,hH,hz,q⟩:=h
 cases rx
 obtain⟨u,rfl,ru⟩:=rv.one
 obtain⟨z,its,n,r,hl,e⟩:=I.ML hH
 refine call_meets F.slot_list_append ⟨_,e,rfl⟩ F.entry_list_append (F.args_list_append_2 _ _) (PySem.list_append l its.toArray n u (by rw[List.size_toArray];omega)) ⟨e,?_⟩
 refine⟨.non,_,I.Z6 (its':=its++[u]) hH e (by simp) (r.append (.cons ru .nil)) ?_,rfl,q⟩
 rw[List.length_append,List.length_singleton]
 omega
def To:V→List V→Hp→VK→Prop:=fun x vs H Q=>∃ l b xs zs,x=.ref l∧vs=[.ref b]∧H l=some (.lst xs)∧H b=some (.lst zs)∧xs.length+zs.length≤sizeLine∧Q .non (upd H l (.lst (xs++zs)))
theorem Ds:MtM X "list.extend" To:=by
 intro pins s σ H x vs v us Q I rx rv h
 obtain⟨l,b,xs,zs,rfl,rfl,hH,hB,hz,q⟩:=h
 cases rx
 obtain⟨u,rfl,ru⟩:=rv.one
 cases ru
 obtain⟨z,its,n,r,hl,e⟩:=I.ML hH
 obtain⟨z2,its2,n2,r2,hl2,e2⟩:=I.ML hB
 have hsz:its.toArray.size+its2.toArray.size≤sizeLine:=by rw[List.size_toArray,List.size_toArray];omega
 have P4:¬(!its.toArray.isEmpty && Builtin.List.listTooLong (its.toArray.size+its2.toArray.size))=true:=by
  rw[Gr hsz,Bool.and_false]
  exact Bool.false_ne_true
 refine call_meets F.slot_list_extend ⟨_,e,rfl⟩ F.entry_list_extend (F.args_list_extend_2 _ _)
  (AutoSeq1.list_extend_list_list_0 l its.toArray n b its2.toArray n2 P4 (by rw[List.size_toArray];omega) (by omega)) ⟨e,e2,?_⟩
 refine⟨.non,_,I.Z6 (its':=its++its2) hH e (by simp) (r.append r2) ?_,rfl,q⟩
 rw[List.length_append]
 omega
def afo:R2:=fun x y H Q=>∃ l b xs zs,x=.ref l∧y=.ref b∧H l=some (.lst xs)∧H b=some (.lst zs)∧xs.length+zs.length≤sizeLine∧∀ p,H p=none→Q (.ref p) (upd H p (.lst (xs++zs)))
theorem Ei:pZ X (binaryOp .Add) afo:=by
 intro pins s σ H x y v u Q I rx ry h
 obtain⟨l,b,xs,zs,rfl,rfl,hH,hB,hz,q⟩:=h
 cases rx
 cases ry
 obtain⟨z,its,n,r,hl,e⟩:=I.ML hH
 obtain⟨z2,its2,n2,r2,hl2,e2⟩:=I.ML hB
 refine PySem.P.add_list e e2 ?_ (by rw[List.size_toArray,List.size_toArray];omega)
 have ea:its.toArray++its2.toArray=(its++its2).toArray:=by simp
 rw[ea]
 exact⟨.ref _,_,I.Wc (t':=s.toks) (r.append r2) (by rw[List.length_append];omega),rfl,q _ I.fresh⟩
def afp:R2:=fun x y H Q=>∃ l k xs,x=.ref l∧y=.int k∧H l=some (.lst xs)∧-(2 ^ 63)≤k∧k < 2 ^ 63∧xs.length * k.toNat≤sizeLine ∧
 ∀ p,H p=none→Q (.ref p) (upd H p (.lst (List.replicate k.toNat xs).flatten))
theorem len_rep {α:Type} (xs:List α) (k:Nat):(List.replicate k xs).flatten.length=k * xs.length:=by
 induction k with
 | zero=>simp
 | succ k ih=>rw[List.replicate_succ,List.flatten_cons,List.length_append,ih,Nat.succ_mul,Nat.add_comm]
theorem Je:pZ X (binaryOp .Mult) afp:=by
 intro pins s σ H x y v u Q I rx ry h
 obtain⟨l,k,xs,rfl,rfl,hH,h1,h2,hz,q⟩:=h
 cases rx
 obtain⟨t,rfl⟩:=ry
 obtain⟨z,its,n,r,hl,e⟩:=I.ML hH
 have hlen:its.toArray.size * k.toNat≤sizeLine:=by rw[List.size_toArray,←hl];exact hz
 have hcap:¬its.toArray.size * k.toNat > (2 ^ 63 - 1) / 8:=by
  have:(sizeLine:Nat)≤(2 ^ 63 - 1) / 8:=by decide
  omega
 have hfit:¬(!Builtin.List.listFitsIndex k)=true:=by
  rw[fitsIndex_both h1 h2]
  exact Bool.false_ne_true
 have P4:¬Builtin.List.listTooLong (its.toArray.size * k.toNat)=true:=by
  rw[Gr hlen]
  exact Bool.false_ne_true
 have hnew:List.foldl (fun x1 x2=>x1++x2) #[] (List.replicate (if its.toArray.isEmpty=true then 0 else k.toNat) its.toArray)=(List.replicate k.toNat its).flatten.toArray:=by
  have f0:∀ m:Nat,List.foldl (fun x1 x2=>x1++x2) #[] (List.replicate m its.toArray)=(List.replicate m its).flatten.toArray:=fun m=>by
   have:=foldl_rep its m []
   rw[List.nil_append] at this
   exact this
  rw[f0]
  cases its with
  | nil=>simp
  | cons a r'=>rw[if_neg (by simp)]
 refine wpAny_binaryOp_repeat_ref (T := "list") (U := "int") (by decide) ⟨_,e,rfl⟩ (fun s'=>typeIs_int s' k t) noFill_list_mul F.fills_int_mul F.slot_int_rmul repeat_list F.slot_int_index.lookup
  (call_meets F.slot_int_rmul (typeIs_int s k t) F.entry_int_rmul (F.args_int_rmul_2 _ _) (int___rmul___int_list k t l its.toArray n)
   ⟨e,rfl,⟨_,e,rfl⟩,call_meets F.slot_list_mul ⟨_,e,rfl⟩ F.entry_list_mul (F.args_list_mul_2 _ _) (AutoListH.list___mul___list_int_3 l its.toArray n k t hfit hcap P4) ⟨e,?_⟩⟩)
 rw[hnew]
 exact⟨.ref _,_,I.Wc (t':=s.toks) (r.rep k.toNat) (by rw[len_rep,Nat.mul_comm];exact hz),rfl,q _ I.fresh⟩
end
section
variable {prog:Program}{w:World}{A:Around}{E:Value→Shared→Prop}{s:Shared}
set_option maxRecDepth 100000 in
end
section
variable {X:Cx}
end
end L2
namespace Att
open PySem PySem.W PySem.Calls PyProof.Rows
theorem yR {P:Params}{h:Heap}:∀(ns:List Int) (vs:List Value),WellAll P h vs (ns.map WData.int)→IntsAre vs ns:=by
 intro ns
 induction ns with
 | nil =>
  intro vs w
  rw[List.map_nil] at w
  cases w
  exact .nil
 | cons n ns ih =>
  intro vs w
  rw[List.map_cons] at w
  cases w with
  | cons a b =>
   cases a
   exact .cons _ _ (ih _ b)
theorem MN {l:OpenLaw}{n:Nat} (hn:l.most=some n) {P:Params}{h:Heap}{args:List WData}{vals:List Value}
  (hpre:l.row.toRowW.claim.pre args=true) (hwl:WellAll P h vals args) :
  ∃ a vs ns,vals=[Value.ref a]∧args=[WData.list (ns.map WData.int)]∧h.get? a=some { cls:=.type "list",data:=.seq vs.toArray }∧IntsAre vs ns∧ns.length≤n:=by
 have hsh:WShape.hasAll [] args [.list .int]=true:=(pre_splitW hpre).1
 have hc:l.pre.holds [] { args:=args }=true:=(pre_splitW hpre).2
 obtain⟨d,r,rfl,h1,h2⟩:=hasAllW_cons hsh
 obtain rfl:=hasAllW_nil h2
 obtain⟨xs,rfl,h3⟩:=hasW_list h1
 obtain⟨ns,rfl⟩:=items_int h3
 have hlen:ns.length≤n:=by
  unfold OpenLaw.pre at hc
  have h4:(WTm.not (.lt (.lit (.int (n:Int))) (.len (.arg 0)))).holds [] { args:=[.list (ns.map .int)] }=true:=by
   have h4:=(holds_andW hc).1
   rw[hn] at h4
   exact h4
  have h5:=condW_of h4 (w_not (w_lt w_lit (w_len_list (w_arg rfl))))
  rw[List.length_map] at h5
  refine Nat.le_of_not_lt fun q=>?_
  have q':(n:Int) < ((ns.length:Nat):Int):=by omega
  first
   | (rw[decide_eq_true q'] at h5;exact absurd h5 (by decide))
   | (simp at h5;omega)
 cases hwl with
 | cons w1 w2 =>
  cases w2
  cases w1 with
  | list ho hall=>exact⟨_,_,ns,rfl,rfl,ho,yR ns _ hall,hlen⟩
theorem MO (l:OpenLaw) (args:List WData):l.row.toRowW.claim.post args (.bool true) args=true :=
 postW_of (r:=l.row.toRowW) (X:=(true == true))
  (show WShape.has [] (.bool true) .bool=true by first | rfl | decide | simp[WShape.has,WShape.arms,WShape.armsAll])
  (show(WTm.eq .res (.lit (.bool true))).value [] { args:=args,res:=some (.bool true),after:=args }=some (.bool (true == true)) from w_eq_bool (w_res rfl) w_lit) rfl
theorem Gs {l:OpenLaw}{n:Nat}{q:Program}{loose:List Str}{XP:(Str→Option Value)→Heap→Prop}{YP:World→Heap→Prop}{d:DefRec}
  (hn:l.most=some n) (hdf:d.params.defaults=[])
  (call:∀(w:World) (s₀ s₁:Shared) (mg mb:Str→Option Value) (fa:Addr) (o:Obj) (pm cd doc:Value) (a:Addr) (vs:List Value) (ns:List Int),
   Ground q loose [] XP w s₀ mg mb s₁.heap→YP w s₁.heap →
   s₁.heap.get? fa=some o→o.data=.func (docDef d.name d.params d.body d.scope pm cd doc)→s₁.heap.CodeRec cd d.name→mg d.name=some (.ref fa) →
   s₁.heap.get? a=some { cls:=.type "list",data:=.seq vs.toArray }→IntsAre vs ns→ns.length≤n→s₁.gens = #[] →
   codeAny (model l.prog w) callerA (.call (.ref fa) ⟨[.ref a],[]⟩) (fun r s'=>r=.ok (.ret (.bool true))∧OldK s₁.heap s'.heap∧s'.os=s₁.os∧AllBare s'.gens) s₁) :
  WalkO q loose XP YP l.row.toRowW d [] (fun f vs=>PySem.call f vs):=by
 intro w s₀ s₁ mg mb G Y fa o pm cd doc dV kV ho hd hcd hD hmg hg args vals as hpre hlay hrd hwl hlo
 obtain rfl:dV=.none:=Dflts.none hD hdf
 obtain rfl:kV=.none:=Dflts.noKw hD
 obtain⟨a,vs,ns,rfl,rfl,hobj,hints,hlen⟩:=MN hn hpre hwl
 refine enter_call (codeAny_mono (call w s₀ s₁ mg mb fa o pm cd doc a vs ns G Y ho (fd_plain hd) hcd hmg hobj hints hlen hg) fun r s' hq=>?_)
 obtain⟨rfl,h2,h3,h4⟩:=hq
 exact⟨.inl ⟨.bool true,.bool true,[],rfl,fun _=>rfl,.bool true,MO l _,fun _=>⟨List.Pairwise.nil,fun _ hm=>(nomatch hm)⟩⟩,h2,h3,h4⟩
section
variable {prog:Program}{w:World}{A:Around}{E:Value→Shared→Prop}{s:Shared}{K:Frag}
end
end Att
namespace L2
open PySem PySem.Spec PyProof.Rows
theorem Dt:∀{vs:List Value}{ns:List Int},IntsAre vs ns→Vals (ns.map V.int) vs
 | _,_,.nil=>.nil
 | _,_,.cons n t h=>.cons ⟨t,rfl⟩ (Dt h)
def Wd (H:Hp):Prop:=∀ b,H b=none∨∃ o xs,H b=some (.IK o (.lst xs))
theorem P5 {P:Program}{w:World}{K:W.Frag}{mg mb:Str→Option Value}{CX:MI}{k:Nat}{fa a:Addr}{fd:FuncData}{x:Str}{sp:Sp}{s₁:Shared}{vs:List Value}{ns:List Int}
  (KX:K.In s₁.heap) (hns:s₁.heap.Ns mainGlobals mg) (hb:s₁.heap.Ns builtinsNs mb) (hbb:∀ x:Str,x ≠ "__name__"→mb x=bootBuiltins x) (hlim:s₁.heap.NoLimit) (hg:s₁.gens = #[])
  (ha:s₁.heap.get? a=some { cls:=.type "list",data:=.seq vs.toArray }) (hi:IntsAre vs ns) (hl:ns.length≤sizeLine) (hr:gE k callerA)
  (F:∀ base:Heap,K.In base→base.Ns mainGlobals mg→aM P w K mg base CX k fa fd [x] sp) (hbind:∀(s:Shared) (u:Value),BindsTo s fd ⟨[u],[]⟩ [(x,u)])
  (Ja:∀ H:Hp,Wd H→bB K H a (ns.map V.int)→sp [.ref a] H (fun v _=>v=.bl true) fun _ _ _=>False)
  (hCX:∀ H e s',CX [] H s₁ (fun _ _ _=>False) e s'→False) :
  codeAny (model P w) callerA (.call (.ref fa) ⟨[.ref a],[]⟩) (fun r s'=>r=.ok (.ret (.bool true))∧OldK s₁.heap s'.heap∧s'.os=s₁.os∧AllBare s'.gens) s₁:=by
 have rv:=Dt hi
 have afq:=hi.length
 have core:∀ H:Hp,Wd H→bB K H a (ns.map V.int)→wX P w H s₁.heap→(∀ b,H b≠none→b=a)→(H a≠none→K.lookup a=none) →
   codeAny (model P w) callerA (.call (.ref fa) ⟨[.ref a],[]⟩) (fun r s'=>r=.ok (.ret (.bool true))∧OldK s₁.heap s'.heap∧s'.os=s₁.os∧AllBare s'.gens) s₁:=by
  intro H hO hS hok hA hK
  have LJ:∀{b:Addr}{o:Obj},s₁.heap.get? b=some o→H b=none→(D5 s₁.heap H).get? b=some o:=fun e n=>Pj e n
  have Z2:∀{b:Addr}{o:Obj}{es:Array DictEntry}{ep:Nat},s₁.heap.get? b=some o→o.data=.dict es ep→H b=none:=fun {b o es ep} e d=>by
   cases q:H b with
   | none=>rfl
   | some u =>
    have e':b=a:=hA b (by rw[q];simp)
    subst e'
    rw[ha] at e;cases e
    have d':Data.seq vs.toArray _=Data.dict es ep:=d
    cases d'
  have nsK:∀{b:Addr}{m:Str→Option Value},s₁.heap.Ns b m→(D5 s₁.heap H).Ns b m:=fun {b m} ⟨o,es,ep,e,d,r⟩=>⟨o,es,ep,LJ e (Z2 e d),d,r⟩
  have hKb:K.In (D5 s₁.heap H):=fun b o e=>LJ (KX b o e) (by
   cases q:H b with
   | none=>rfl
   | some u =>
    have e':b=a:=hA b (by rw[q];simp)
    subst e'
    rw[hK (by rw[q];simp)] at e;cases e)
  have hM:Mod K mg (D5 s₁.heap H):=⟨hKb,nsK hns,⟨mb,nsK hb,hbb⟩,let ⟨mc,h1,h2⟩:=hlim;⟨mc,nsK h1,h2⟩⟩
  have e0:Ea P w K mg (D5 s₁.heap H) callerA [] s₁ H:=⟨rfl,hM,fun b o e=>SY e,Nat.le_of_eq (MD _ _),trivial,fun b hb=>absurd (show b∈([]:List Addr) from hb) (by simp),hok,.of_eq hg⟩
  refine codeAny_mono ((F _ hKb (nsK hns)).run callerA [] s₁ H ⟨[.ref a],[]⟩ [.ref a] [.ref a] _ _ hr e0 (hbind s₁ (.ref a)) (.cons rfl .nil) (Ja H hO hS)) fun r s' h=>?_
  cases r with
  | error e=>exact(hCX H e s' h).elim
  | ok fl =>
   cases fl with
   | next=>exact False.elim h
   | brk=>exact False.elim h
   | cont=>exact False.elim h
   | ret u =>
    obtain⟨v,H',os,bare,un,afr,r',q⟩:=h
    have q':v=.bl true:=q
    subst q'
    obtain rfl:u=Value.bool true:=r'
    refine⟨rfl,OldK.of_keep fun b o e=>?_,os,bare⟩
    cases q:H b with
    | none=>exact un.keep b o e q (by intro z;exact absurd (show b∈([]:List Addr) from z) (by simp)) (by simp)
    | some u =>
     rcases hO b with z | ⟨ob,xs,z⟩
     ·rw[q] at z;cases z
     ·have z2:=un.wZ b ob _ z
      obtain⟨e1,_⟩:=hok b _ z
      obtain⟨e2,_⟩:=afr b _ z2
      rw[e] at e1;cases e1
      exact e2
 cases hk:K.lookup a with
 | some o =>
  have e:=KX a o hk
  rw[ha] at e
  cases e
  refine core (fun _=>none) (fun _=>.inl rfl) (.inr ⟨_,vs.toArray,_,hk,rfl,rfl,rfl,by rw[List.size_toArray,afq];exact hl,by simpa using rv⟩) (fun b u z=>by have z':(none:Option HO)=some u:=z;cases z') (fun b z=>absurd rfl z) fun z=>absurd rfl z
 | none =>
  refine core (fun b=>if b=a then some (.IK { cls:=.type "list",data:=.seq vs.toArray } (.lst (ns.map V.int))) else none) (fun b=>?_) (.inl (.inr ⟨{ cls:=.type "list",data:=.seq vs.toArray },if_pos rfl⟩)) (fun b u z=>?_) (fun b z=>?_) fun _=>hk
  ·by_cases hb:b=a
   ·exact .inr ⟨_,_,if_pos hb⟩
   ·exact .inl (if_neg hb)
  ·by_cases hb:b=a
   ·have z':=(if_pos hb).symm.trans z
    cases z'
    subst hb
    exact⟨ha,by rw[List.length_map];exact hl,vs,_,rv,ha⟩
   ·have z':=(if_neg hb).symm.trans z
    cases z'
  ·by_cases hb:b=a
   ·exact hb
   ·exact absurd (if_neg hb) z
theorem Tp {l:W.OpenLaw}{n k:Nat}{q:Program}{loose:List Str}{XP:(Str→Option Value)→Heap→Prop}{YP:World→Heap→Prop}{d:DefRec}{K:Params→W.Frag}{CX:World→MI}{sp:World→Sp}{x:Str}
  (hn:l.most=some n) (hn2:n≤sizeLine) (hdf:d.params.defaults=[]) (hr:gE k callerA)
  (hY:∀(w:World) (h:Heap),YP w h→(K w.params).In h)
  (F:∀(w:World) (mg:Str→Option Value) (fa:Addr) (h:Heap),(K w.params).In h→h.Ns mainGlobals mg→mg d.name=some (.ref fa) →
   ∃ fd:FuncData,(∀(s:Shared) (u:Value),BindsTo s fd ⟨[u],[]⟩ [(x,u)]) ∧
    ∀ base:Heap,(K w.params).In base→base.Ns mainGlobals mg→aM l.prog w (K w.params) mg base (CX w) k fa fd [x] (sp w))
  (Ja:∀(w:World) (H:Hp) (a:Addr) (ns:List Int),ns.length≤n→Wd H→bB (K w.params) H a (ns.map V.int)→sp w [.ref a] H (fun v _=>v=.bl true) fun _ _ _=>False)
  (hCX:∀(w:World) (H:Hp) (s:Shared) (e:Value) (s':Shared),CX w [] H s (fun _ _ _=>False) e s'→False) :
  W.WalkO q loose XP YP l.row.toRowW d [] (fun f vs=>PySem.call f vs):=by
 refine Att.Gs hn hdf fun w s₀ s₁ mg mb fa o pm cd doc a vs ns G Y ho hd hcd hmg hobj hints hlen hg=>?_
 have KX:=hY w _ Y
 obtain⟨fd,hb,hF⟩:=F w mg fa _ KX G.T.g hmg
 exact P5 KX G.T.g G.T.b G.T.builtins G.T.nolimit hg hobj hints (Nat.le_trans hlen hn2) hr hF hb (fun H hO hS=>Ja w H a ns hlen hO hS) fun H e s'=>hCX w H s₁ e s'
def inClass (s:Stmt) (j:Nat):Stmt:=match s with
 | .ClassDef _ _ _ body _ _ _ _ _ _ _=>body.getD j (.Pass ⟨0,0,0,0⟩)
 | _=>.Pass ⟨0,0,0,0⟩
def ff (s:Stmt):Arguments:=match s with
 | .FunctionDef _ a _ _ _ _ _ _ _ _=>a
 | _=>{ posonlyargs:=[],args:=[],vararg:=none,kwonlyargs:=[],kw_defaults:=[],kwarg:=none,defaults:=[] }
def cT (s:Stmt):List Stmt:=match s with
 | .FunctionDef _ _ b _ _ _ _ _ _ _=>b
 | _=>[]
def aA (s:Stmt):Scope:=match s with
 | .FunctionDef _ _ _ _ _ _ sc _ _ _=>sc
 | _=>{ kind:=.function,names:=[],isGenerator:=false,isCoroutine:=false }
abbrev cy:MI:=fun _ _ _ _ _ _=>False
abbrev E0:XK:=fun _ _ _=>False
theorem kc {X:Cx}:Passes cy X E0:=fun _ _ _ _ _ _ _ h=>h.elim
structure gC (K:W.Frag) (x qual:Str) (st:Stmt) (f:Addr) (fd:FuncData):Prop where
 ex:∃(oc:Value) (od:Option Addr) (kV doc pm:Value) (an:Option Addr) (cdv ct:Value) (osl:Array (Option Value)),
  fd=W.fnOf x qual (ff st) (cT st) (aA st) .none kV doc pm an cdv ct∧K.lookup f=some ⟨oc,od,.func fd,osl⟩∧W.codeIn K cdv qual=true
 kp:W.keepIn K (.ref f)=true
section
variable {P:Program}{w:World}{K:W.Frag}{mg:Str→Option Value}{base:Heap}
theorem gC.ok {x qual:Str}{st:Stmt}{f:Addr}{fd:FuncData}{N ps:List Str}{k:Nat}{sp:Sp} (F:gC K x qual st f fd) (S:aG N ps (aA st)) (len:∀ vs H Q E,sp vs H Q E→vs.length=ps.length)
  (hbody:∀(cdv:Value) (A:Around) (outer:List Env) (s:Shared) (H:Hp) (vs:List V) (Q:VK) (E:XK),gE k (A.deeper (envOfC qual (aA st) s.heap.objs.size f cdv))→sp vs H Q E →
   ∃ t,Gb (tO cy P w K mg base N qual (aA st) f cdv A outer s H E).VU (cT st) t∧t { nx:=fun _ H'=>Q .non H',rt:=Q } (start N vs) H):aM P w K mg base cy (k+1) f fd ps sp:=by
 obtain⟨oc,od,kV,doc,pm,an,cdv,ct,osl,rfl,lk,hcd⟩:=F.ex
 refine PN lk hcd S len fun A outer s H vs Q E hr Ja=>?_
 obtain⟨t,h,q⟩:=hbody cdv A outer s H vs Q E hr Ja
 exact⟨t,h.VU,q⟩
theorem gC.binds {x qual:Str}{st:Stmt}{f:Addr}{fd:FuncData}{ps:List Str} (F:gC K x qual st f fd)
  (h:∀(kV doc pm:Value) (an:Option Addr) (cdv ct:Value) (us:List Value),us.length=ps.length→bindArgs (W.fnOf x qual (ff st) (cT st) (aA st) .none kV doc pm an cdv ct) ⟨us,[]⟩=pure (ps.zip us)):Binds K fd ps []:=by
 obtain⟨oc,od,kV,doc,pm,an,cdv,ct,osl,rfl,lk,hcd⟩:=F.ex
 exact .all (h kV doc pm an cdv ct)
theorem aR {x qual:Str}{st:Stmt}{f:Addr}{oc:Value}{od an:Option Addr}{osl:Array (Option Value)}{kV doc pm cdv ct:Value} (l:K.lookup f=some ⟨oc,od,.func (W.fnOf x qual (ff st) (cT st) (aA st) .none kV doc pm an cdv ct),osl⟩)
 (c:W.codeIn K cdv qual=true) (k:W.keepIn K (.ref f)=true):gC K x qual st f (W.fnOf x qual (ff st) (cT st) (aA st) .none kV doc pm an cdv ct):=⟨⟨oc,od,kV,doc,pm,an,cdv,ct,osl,rfl,l,c⟩,k⟩
end
theorem bA {A:Around}{k:Nat} (hr:gE k A):A.units+1 < cLine:=Nat.lt_of_le_of_lt (Nat.add_le_add_left (by decide:1≤64) _) hr.units
section
variable {X:Cx}
theorem pv (i:Nat) {x:Str}{pos:Pos} (hN:X.N[i]? = some x:=by rfl) (hv:Vis X.env.scope x:=by first | exact Or.inl rfl | exact Or.inr (Or.inl rfl) | exact Or.inr (Or.inr rfl)) (hd:(x == ("__debug__" : Str))=false:=by decide)
 (hcd:(x == ("__classdict__" : Str))=false:=by decide):PE X (.Name x pos) (ZH i):=VS hN hv hd hcd
end
theorem eZ {A B:Prop} (h:B):if false=true then A else B:=by
 rw[if_neg Bool.false_ne_true]
 exact h
theorem gj {A B:Prop} (h:A):if true=true then A else B:=by
 rw[if_pos rfl]
 exact h
theorem dh {c A B:Prop} [Decidable c] (h1:c→A) (h2:¬c→B):if c then A else B:=by
 by_cases h:c
 ·rw[if_pos h]
  exact h1 h
 ·rw[if_neg h]
  exact h2 h
theorem Z7 {c A B:Prop} [Decidable c] (hc:c) (h:B):if (!decide c)=true then A else B:=by
 rw[decide_eq_true hc]
 exact eZ h
def aH (H H':Hp):Prop:=∀ b o,H b=some o→H' b=some o
theorem aH.refl (H:Hp):aH H H:=fun _ _ h=>h
theorem aH.trans {H H1 H2:Hp} (a:aH H H1) (b:aH H1 H2):aH H H2:=fun c o h=>b c o (a c o h)
theorem aH.free {H H':Hp} (e:aH H H') {l:Addr} (h:H' l=Option.none):H l=Option.none:=by
 cases q:H l with
 | none=>rfl
 | some o =>
  rw[e l o q] at h
  cases h
theorem aH.seq {K:W.Frag}{H H':Hp}{a:Addr}{xs:List V} (e:aH H H') (h:bB K H a xs):bB K H' a xs:=by
 rcases h with (h | ⟨o,h⟩) | h
 ·exact .inl (.inl (e _ _ h))
 ·exact .inl (.inr ⟨o,e _ _ h⟩)
 ·exact .inr h
end L2
set_option maxHeartbeats 4000000
namespace L2
open PySem PySem.Spec PyProof.Rows
def ku (env:Env):List (Str×NameKind)→List (Str×Addr)→List (Str×Addr)
 | [],cs=>cs
 | (n,k) :: r,cs=>ku env r (if k == .free then (n,(env.cells.lookup n).getD 0) :: cs else cs)
theorem tZ {scope:Scope}{env:Env} (h:∀ n,(n,NameKind.free)∈scope.names→∃ c,env.cells.lookup n=some c) :
  closureFor scope env=pure (ku env scope.names []):=by
 simp only[closureFor]
 have key:∀(l:List (Str×NameKind)) (cs:List (Str×Addr)),(∀ n,(n,NameKind.free)∈l→∃ c,env.cells.lookup n=some c) →
   (forIn l cs (fun x r=>if (x.2 == NameKind.free)=true then (cellOf env x.1 >>= fun a=>pure (ForInStep.yield ((x.1,a) :: r))) else pure (ForInStep.yield r)):Sem (List (Str×Addr)))=pure (ku env l cs):=by
  intro l
  induction l with
  | nil=>intro cs _;rfl
  | cons x l ih =>
   intro cs hl
   obtain⟨n,k⟩:=x
   have hl':∀ n,(n,NameKind.free)∈l→∃ c,env.cells.lookup n=some c:=fun n hn=>hl n (List.mem_cons_of_mem _ hn)
   rw[List.forIn_cons]
   by_cases hk:k=.free
   ·subst hk
    obtain⟨c,hc⟩:=hl n List.mem_cons_self
    have e1:cellOf env n=pure c:=by unfold cellOf;rw[hc]
    simp only[beq_self_eq_true,if_true,e1,pure_bind]
    rw[ih _ hl']
    simp only[ku,beq_self_eq_true,if_true,hc,Option.getD_some]
   ·have hb:(k == NameKind.free)=false:=by simpa using hk
    simp only[hb,Bool.false_eq_true,if_false,pure_bind]
    rw[ih _ hl']
    simp only[ku,hb,Bool.false_eq_true,if_false]
 exact(congrArg (fun z=>z >>= fun r=>pure r) (key scope.names [] h)).trans rfl
theorem uI {env:Env}:∀(l:List (Str×NameKind)) (cs:List (Str×Addr)),(∀ n,(n,NameKind.free)∈l→∃ c,env.cells.lookup n=some c)→(∀ x c,cs.lookup x=some c→env.cells.lookup x=some c) →
  ∀ x c,(ku env l cs).lookup x=some c→env.cells.lookup x=some c
 | [],cs,_,h,x,c,e=>h x c e
 | (n,k) :: r,cs,hl,h,x,c,e=>by
  refine uI r _ (fun n hn=>hl n (List.mem_cons_of_mem _ hn)) ?_ x c e
  intro y d hy
  by_cases hk:(k == NameKind.free)=true
  ·rw[if_pos hk] at hy
   have hk':k=.free:=by simpa using hk
   subst hk'
   obtain⟨c',hc'⟩:=hl n List.mem_cons_self
   rw[hc',Option.getD_some,List.lookup_cons] at hy
   cases hyn:y == n with
   | true =>
    rw[hyn] at hy
    have:y=n:=by simpa using hyn
    subst this
    rw[hc'];exact hy
   | false=>rw[hyn] at hy;exact h y d hy
  ·rw[if_neg hk] at hy;exact h y d hy
theorem rG {env:Env}:∀(l:List (Str×NameKind)) (cs:List (Str×Addr)) (x:Str),((x,NameKind.free)∈l∨∃ c,cs.lookup x=some c)→∃ c,(ku env l cs).lookup x=some c
 | [],cs,x,h=>by
  rcases h with h | h
  ·cases h
  ·exact h
 | (n,k) :: r,cs,x,h=>by
  refine rG r _ x ?_
  rcases h with h | ⟨c,h⟩
  ·rcases List.mem_cons.mp h with e | h
   ·cases e
    refine .inr ⟨(env.cells.lookup n).getD 0,?_⟩
    simp[List.lookup_cons]
   ·exact .inl h
  ·right
   by_cases hk:(k == NameKind.free)=true
   ·rw[if_pos hk,List.lookup_cons]
    cases x == n with
    | true=>exact⟨_,rfl⟩
    | false=>exact⟨c,h⟩
   ·rw[if_neg hk];exact⟨c,h⟩
theorem nc {env:Env} (x:Str):∀(names:List (Str×NameKind)),
  (names.map fun (n,k)=>if (k == NameKind.free && env.scope.kind == .function && env.kindOf n == some .cell) then (n,NameKind.cell) else (n,k)).lookup x =
   (names.lookup x).map fun k=>if (k == NameKind.free && env.scope.kind == .function && env.kindOf x == some .cell) then NameKind.cell else k
 | []=>rfl
 | (n,k) :: r=>by
  have ih:=nc (env:=env) x r
  show List.lookup x ((if (k == NameKind.free && env.scope.kind == .function && env.kindOf n == some .cell)=true then (n,NameKind.cell) else (n,k)) :: _)=_
  cases hx:x == n with
  | true =>
   have e:x=n:=by simpa using hx
   subst e
   by_cases hc:(k == NameKind.free && env.scope.kind == .function && env.kindOf x == some .cell)=true
   ·rw[if_pos hc];simp only[List.lookup_cons,beq_self_eq_true,Option.map_some,if_pos hc]
   ·rw[if_neg hc];simp only[List.lookup_cons,beq_self_eq_true,Option.map_some,if_neg hc]
  | false =>
   by_cases hc:(k == NameKind.free && env.scope.kind == .function && env.kindOf n == some .cell)=true
   ·rw[if_pos hc];simp only[List.lookup_cons,hx];exact ih
   ·rw[if_neg hc];simp only[List.lookup_cons,hx];exact ih
structure bq (XN:List Str) (Zf:Scope) (N:List Str) (nv:Nat) (js:List Nat) (scope:Scope):Prop where
 kind:scope.kind=.function
 cell:∀ y∈scope.names,y.2≠.cell
 loc:∀ y∈scope.names,y.2=.local→scope.names.lookup y.1=some .local
 free:∀ y∈scope.names,y.2=.free→(Zf.names.lookup y.1=some .cell∨Zf.names.lookup y.1=some .free)
 nd:N.Nodup
 len:N.length=nv+js.length
 pl:js.map (fun j=>XN[j]?)=(N.drop nv).map some
 fr:∀ x∈N.drop nv,scope.names.lookup x=some .free
abbrev ng (X:Cx) (N:List Str) (scope:Scope) (C:Addr) (s:Shared) (H:Hp) (fp:List Addr):Cx where
 prog:=X.prog
 w:=X.w
 K:=X.K
 mg:=X.mg
 base:=X.base
 A:=X.A
 N:=N
 s₀:=s
 H₀:=H
 env:=compEnvC scope (ku X.env scope.names []) C X.env
 outer:=X.stack
 stack:=X.stack
 ex:=fp
 fn:=fun _=>false
 calm:=X.calm
 pn:=[]
 xe:=fun _ _=>False
def xj (nv:Nat) (js:List Nat) (σ:St):St:=List.replicate nv none++js.map fun j=>(σ[j]?).getD none
section
variable {X:Cx}{pins:List (Addr×Obj)}{σ:St}{H:Hp}{s:Shared}
theorem Jf {N:List Str}{nv:Nat}{js:List Nat}{scope:Scope}{fp:List Addr}{h1:Heap}{tk:Nat} (I:Inv X pins σ H s) (S:bq X.N X.env.scope N nv js scope) (hf:∀ b∈fp,vp X pins H b) (hfl:∀ b∈fp,b < s.heap.objs.size)
  (keep:∀ b o,s.heap.get? b=some o→h1.get? b=some o) (ns:h1.Ns s.heap.objs.size fun _=>none) :
  Inv (ng X N scope s.heap.objs.size s H fp) [] (xj nv js σ) H { s with heap:=h1,toks:=tk }:=by
 have hfr:∀ n,(n,NameKind.free)∈scope.names→∃ c,X.env.cells.lookup n=some c:=fun n hn=>I.ok.has n (S.free _ hn rfl)
 have sub:∀ x c,(ku X.env scope.names []).lookup x=some c→X.env.cells.lookup x=some c:=uI scope.names [] hfr (fun x c z=>by cases z)
 have We:∀ x,scope.names.lookup x≠some .cell:=fun x z=>S.cell _ (PySem.mem_of_lookup z) rfl
 have afs:∀ x,(relabel scope X.env).names.lookup x=some .cell∨(relabel scope X.env).names.lookup x=some .free→scope.names.lookup x=some .free:=by
  intro x hx
  have e:=nc (env:=X.env) x scope.names
  have hx':(relabel scope X.env).names.lookup x=_:=e
  rw[hx'] at hx
  cases q:scope.names.lookup x with
  | none=>rw[q] at hx;rcases hx with hx | hx <;> cases hx
  | some k =>
   rw[q,Option.map_some] at hx
   cases k <;> first | rfl | (exact absurd q (We x)) | (exfalso;rcases hx with hx | hx <;> simp at hx)
 refine⟨⟨I.ok.mod,S.kind,I.ok.glob,I.ok.blt,Nat.le_refl _,fun x y c h1 h2=>I.ok.inj x y c (sub _ _ h1) (sub _ _ h2),fun x hx=>?_,fun x c z=>(by cases z),I.ok.hd,I.ok.frames,.inl rfl,fun b hb=>?_,fun b o e=>?_,?_,fun b o e hb=>?_,fun b hb z=>?_,I.stack,I.D6⟩,
  rfl,I.bare,Un.kept keep,⟨_,ns,fun i x v e1 e2 e3=>?_⟩,fun x c e=>?_,I.hok.fresh (Nat.le_refl _),fun x c e=>I.ly x c (sub _ _ e),fun p hp=>absurd (show p∈([]:List (Addr×Obj)) from hp) (by simp),I.hok.kept keep,?_⟩
 ·exact rG _ _ _ (.inl (PySem.mem_of_lookup (afs x hx)))
 ·obtain⟨f0,f1,f2,f3,f4,f5⟩:=hf b hb
  exact⟨Nat.ne_of_lt (hfl b hb),fun x c e=>f4 x c (sub x c e)⟩
 ·exact I.bs b o e
 ·exact Nat.le_trans I.ok.O9 I.sz
 ·obtain⟨f0,f1,f2,f3,f4,f5⟩:=hf b hb
  rcases f3 with z | z
  ·exact I.ok.IL b o e z
  ·exact absurd (Nat.lt_of_lt_of_le (Heap.lt_size e) (Nat.le_trans I.ok.O9 z)) (Nat.lt_irrefl _)
 ·obtain⟨f0,f1,f2,f3,f4,f5⟩:=hf b hb
  rcases List.mem_cons.mp (I.Aa b z) with q | q
  ·exact f1 q
  ·exact f2 q
 ·
  have hi:¬i < nv:=fun hlt=>by
   unfold xj at e2
   rw[List.getElem?_append_left (by simpa using hlt),List.getElem?_replicate,if_pos hlt] at e2
   cases e2
  obtain⟨k,rfl⟩:∃ k,i=nv+k:=⟨i - nv,by omega⟩
  unfold xj at e2
  rw[List.getElem?_append_right (by simp),List.length_replicate,Nat.add_sub_cancel_left,List.getElem?_map] at e2
  cases hj:js[k]? with
  | none=>rw[hj] at e2;cases e2
  | some j =>
   rw[hj,Option.map_some] at e2
   have e2':(σ[j]?).getD none=some v:=Option.some.inj e2
   have hσ:σ[j]? = some (some v):=by
    cases q:σ[j]? with
    | none=>rw[q] at e2';cases e2'
    | some z=>rw[q] at e2';exact congrArg some e2'
   have hd:(N.drop nv)[k]? = some x:=by rw[List.getElem?_drop];exact e1
   have hX:X.N[j]? = some x:=by
    have q:=congrArg (fun l=>l[k]?) S.pl
    simp only[List.getElem?_map,hj,hd,Option.map_some] at q
    exact Option.some.inj q
   have hfx:=S.fr x (List.mem_of_getElem? hd)
   have kx:=S.free _ (PySem.mem_of_lookup hfx) rfl
   obtain⟨m,_,hl⟩:=I.loc
   obtain⟨u,r,l⟩:=hl j x v hX hσ (.inr kx)
   refine⟨u,r,?_⟩
   rcases l with ⟨k1,_⟩ | ⟨_,c,hc,hcell⟩
   ·exfalso
    have k1':X.env.scope.names.lookup x=some .local:=k1
    rcases kx with z | z <;> (rw[k1'] at z;cases z)
   ·obtain⟨c',hc'⟩:=rG (env:=X.env) scope.names [] x (.inl (PySem.mem_of_lookup hfx))
    have e:=sub _ _ hc'
    rw[hc] at e;cases e
    refine .inr ⟨?_,c,hc',hcell.keeps keep⟩
    have e:=nc (env:=X.env) x scope.names
    have e':(relabel scope X.env).names.lookup x=_:=e
    rw[hfx,Option.map_some] at e'
    show(relabel scope X.env).names.lookup x=some .cell∨(relabel scope X.env).names.lookup x=some .free
    rw[e']
    split
    ·exact .inl rfl
    ·exact .inr rfl
 ·obtain⟨v,q⟩:=I.cell x c (sub _ _ e)
  exact⟨v,q.keeps keep⟩
 ·unfold xj
  show _=N.length
  rw[List.length_append,List.length_replicate,List.length_map,S.len]
end
def P6 (X:Cx) (ifs:List Expr) (t:TT):Prop :=
 ∀(pins:List (Addr×Obj)) (s:Shared) (σ:St) (H:Hp) (Q:Bool→Hp→Prop),Inv X pins σ H s→t σ H Q →
  wpAny (model X.prog X.w) X.A (forIn ifs true fun c r=>if r=true then do let ok ←isTrue c X.env (eval c X.env);pure (ForInStep.yield ok) else pure (ForInStep.yield r)) (TP X pins σ Q) X.xe s
def Tq:TT:=fun _ H Q=>Q true H
theorem di {X:Cx}:P6 X [] Tq:=fun _ _ _ H _ I h=>wpAny_tests_nil ⟨H,I,h⟩
def Du (J:It) (g:TG) (tt:TT) (te:TE) (Q:VK) (D:Addr) (τ:St) (H:Hp):Prop :=
 ∃ W:Nat→Nat→List V→St→Hp→Prop,(∃ m,W 0 m [] τ (upd H D (.lst [])))∧∀ i m ys τ H,W i m ys τ H→H D=some (.lst ys) ∧
  ((J.stop i H∧Q (.ref D) H)∨(J.go i H∧∃ N:List V→St→Hp→Prop,(∀ zs σ' H',N zs σ' H'→∃ m',m' < m∧W (i+1) m' zs σ' H')∧∀ x H',J.SN i H x H'→g x τ H' fun τ2 H2=>tt τ2 H2 fun b H3 =>
   if b=true then te τ2 H3 fun y H4=>H4 D=some (.lst ys)∧ys.length < sizeLine∧N (ys++[y]) τ2 (upd H4 D (.lst (ys++[y])))
   else N ys τ2 H3))
def Vr (wi:TI) (g:TG) (tt:TT) (te:TE) (nv:Nat) (js:List Nat):TE:=fun σ H Q=>wi σ H fun J H1=>∀ D,H1 D=none→Du J g tt te Q D (xj nv js σ) H1
theorem Jg {prog:Program}{w:World}{A:Around}{R:Result→Shared→Prop}{s:Shared}{elt target iter:Expr}{ifs:List Expr}{scope:Scope}{pos:Pos}{it acc:Value}{env:Env} (I:Nat→Shared→Prop)
  (turn:∀ n s,I n s→wpAny (model prog w) A (pyNext it) (fun r s₁=>match r with
   | none=>R (.ok .next) s₁
   | some v=>wpAny (model prog w) A (letOwnedTupleGo target it v) (fun _ s₁'=>wpAny (model prog w) A (assign target env v) (fun _ s₂ =>
     wpAny (model prog w) A (forIn ifs true fun c r=>if r=true then do let ok ←isTrue c env (eval c env);pure (ForInStep.yield ok) else pure (ForInStep.yield r)) (fun ok s₃ =>
      if ok=true then wpAny (model prog w) A (eval elt env) (fun x s₄ =>
       wpAny (model prog w) A (call (.builtin "list.append") [acc,x]) (fun _ s₅=>∃ m,m < n∧I m s₅) (fun _ _=>False) s₄) (fun _ _=>False) s₃
      else ∃ m,m < n∧I m s₃) (fun _ _=>False) s₂) (fun _ _=>False) s₁') (fun _ _=>False) s₁) (fun _ _=>False) s)
  (n:Nat) (h:I n s) :
  codeAny (model prog w) A (.compLoop (.ListComp elt [⟨target,iter,ifs,0⟩] scope pos) 0 it acc env) R s:=by
 refine codeAny_loop rfl I (fun n s hI=>?_) n h
 show wpAny _ A ((compTurn (.ListComp elt [⟨target,iter,ifs,0⟩] scope pos) 0 it acc env).onRaise (fun x=>do noteFrame x env;theTreesLotGoes x)) _ _ s
 refine wpAny_noted (wpAny_mono (E:=fun _ _=>False) ?_ (fun _ _ q=>q) fun _ _ q=>q.elim)
 rw[compTurn_list]
 refine wpAny_bind (wpAny_standAt (wpAny_bind (wpAny_mono (turn n s hI) (fun r s₁ h₁=>?_) fun _ _ h'=>h')))
 cases r with
 | none=>exact wpAny_pure h₁
 | some v =>
  refine wpAny_bind (wpAny_mono h₁ (fun _ s₁' h₁'=>?_) fun _ _ h'=>h')
  refine wpAny_bind (wpAny_mono h₁' (fun _ s₂ h₂=>wpAny_bind (wpAny_mono h₂ (fun ok s₃ h₃=>?_) fun _ _ h'=>h')) fun _ _ h'=>h')
  cases ok with
  | false=>exact wpAny_pure ⟨rfl,h₃⟩
  | true =>
   exact wpAny_bind (wpAny_bind (wpAny_mono h₃ (fun x s₄ h₄=>wpAny_bind (wpAny_mono h₄ (fun _ s₅ h₅=>wpAny_pure (wpAny_pure ⟨rfl,h₅⟩)) fun _ _ h'=>h')) fun _ _ h'=>h'))
section
variable {X:Cx}{elt tg iter:Expr}{ifs:List Expr}{scope:Scope}{pos:Pos}{N:List Str}{nv:Nat}{js:List Nat}{wi:TI}{g:TG}{tt:TT}{te:TE}
theorem Al {pins:List (Addr×Obj)}{σ:St}{H:Hp}{s:Shared}{Q:VK}{it:Addr}{fp:List Addr}{tn:Nat→Heap→Prop}{J:It}{E:Value→Shared→Prop}{RR:Value→Addr→Result→Shared→Prop} (hc:X.calm=true)
  (S:bq X.N X.env.scope N nv js scope) (hg:∀ C s H fp,PG (ng X N scope C s H fp) tg g) (ht:∀ C s H fp,P6 (ng X N scope C s H fp) ifs tt) (he:∀ C s H fp,PE (ng X N scope C s H fp) elt te)
  (I:Inv X pins σ H s) (T:Turn X.prog X.w X.K tg J fp it tn) (st:tn 0 s.heap) (hf:∀ b∈fp,vp X pins H b) (hR:∀ D,H D=none→Du J g tt te Q D (xj nv js σ) H)
  (hRR:∀ D C H' s' m,Inv X pins σ H' s'→vp X pins H' C→s'.heap.Ns C m→Q (.ref D) H'→RR (.ref D) C (.ok .next) s') :
  wpAny (model X.prog X.w) X.A (newList []) (fun acc s₃=>wpAny (model X.prog X.w) X.A (newFunctionEnv scope X.env.globals (ku X.env scope.names []) [] X.env.qual none .none (some X.env)) (fun cenv s₄ =>
   codeAny (model X.prog X.w) X.A (.compStart (.ListComp elt [⟨tg,iter,ifs,0⟩] scope pos) 0 (.ref it) acc { cenv with scope:=relabel scope X.env }) (RR acc cenv.locals) s₄) E s₃) E s:=by
 refine wpAny_newObj_type (wpAny_newFunctionEnv S.cell (by intro y hy;simp at hy) (fun h₁ P7 P8=>?_) S.kind)
 have I3:Inv X pins σ (upd H s.heap.objs.size (.lst [])) { s with heap:=s.heap.push { cls:=.type "list",data:=.seq ([]:List Value).toArray } }:=I.Wc (t':=s.toks) (its:=[]) .nil (Nat.zero_le _)
 have hD:=I.fresh
 obtain⟨W,⟨m0,w0⟩,turn⟩:=hR s.heap.objs.size hD
 have ho:=T.obj 0 s.heap st
 have Z8:∀ b∈fp,b < s.heap.objs.size:=fun b hb=>let ⟨o,e,_⟩:=ho b hb;Heap.lt_size e
 have Wf:∀ b∈fp,vp X pins (upd H s.heap.objs.size (.lst [])) b:=fun b hb=>⟨by rw[aF (Nat.ne_of_lt (Z8 b hb))];exact(hf b hb).1,(hf b hb).2⟩
 generalize hs3:({ s with heap:=s.heap.push { cls:=.type "list",data:=.seq ([]:List Value).toArray } }:Shared)=s3 at I3 P7 P8
 have e3:s3.heap=s.heap.push { cls:=.type "list",data:=.seq ([]:List Value).toArray }:=by rw[←hs3]
 have hfl:∀ b∈fp,b < s3.heap.objs.size:=fun b hb=>by rw[e3,Heap.size_push];exact Nat.lt_succ_of_lt (Z8 b hb)
 have keep:∀ b o,s3.heap.get? b=some o→h₁.get? b=some o:=fun b o e=>P8.extBut b o (Nat.ne_of_lt (Heap.lt_size e)) (Heap.get?_push_of_some _ e)
 have J0:=Jf (tk:=s3.toks+([]:List (Str×Value)).length) I3 S Wf hfl keep P7
 have st1:tn 0 h₁:=T.keep 0 s.heap h₁ st fun b hb o e=>keep b o (by rw[e3];exact Heap.get?_push_of_some _ e)
 generalize hH3:upd H s.heap.objs.size (.lst [])=H3 at *
 generalize hY:ng X N scope s3.heap.objs.size s3 H3 fp=Y at *
 have sub:∀ x c,(ku X.env scope.names []).lookup x=some c→X.env.cells.lookup x=some c :=
  uI scope.names [] (fun n hn=>I.ok.has n (S.free _ hn rfl)) (fun x c z=>by cases z)
 have IS:∀{H':Hp},(∀ b∈fp,H' b=none)→∀ b∈fp,vp Y [] H' b:=fun {H'} hn b hb=>by
  subst hY
  obtain⟨f0,f1,f2,f3,f4,f5⟩:=Wf b hb
  refine⟨hn b hb,Nat.ne_of_lt (hfl b hb),fun z=>?_,.inl hb,fun x c e=>f4 x c (sub x c e),fun p hp=>absurd (show p∈([]:List (Addr×Obj)) from hp) (by simp)⟩
  rcases List.mem_cons.mp (I3.Aa b z) with q | q
  ·exact f1 q
  ·exact f2 q
 have eA:Y.A=X.A:=by subst hY;rfl
 have eP:Y.prog=X.prog:=by subst hY;rfl
 have eW:Y.w=X.w:=by subst hY;rfl
 have eK:Y.K=X.K:=by subst hY;rfl
 have eC:Y.calm=true:=by subst hY;exact hc
 have eE:Y.env=compEnvC scope (ku X.env scope.names []) s3.heap.objs.size X.env:=by subst hY;rfl
 have eXe:Y.xe=fun _ _=>False:=by subst hY;rfl
 have hgY:PG Y tg g:=by subst hY;exact hg _ _ _ _
 have htY:P6 Y ifs tt:=by subst hY;exact ht _ _ _ _
 have heY:PE Y elt te:=by subst hY;exact he _ _ _ _
 have loop:codeAny (model X.prog X.w) X.A (.compLoop (.ListComp elt [⟨tg,iter,ifs,0⟩] scope pos) 0 (.ref it) (.ref s.heap.objs.size) (compEnvC scope (ku X.env scope.names []) s3.heap.objs.size X.env))
   (RR (.ref s.heap.objs.size) s3.heap.objs.size) { s3 with heap:=h₁,toks:=s3.toks+([]:List (Str×Value)).length }:=by
  refine Jg (fun n s'=>∃ i ys τ H',Inv Y [] τ H' s'∧tn i s'.heap∧(∀ b∈fp,H' b=none)∧W i n ys τ H') ?_ m0 ⟨0,[],_,H3,J0,st1,fun b hb=>(Wf b hb).1,w0⟩
  rintro n s4 ⟨i,ys,τ,H4,I4,st4,fr4,w4⟩
  obtain⟨hDl,tr⟩:=turn i n ys τ H4 w4
  rcases tr with ⟨stop,qn⟩ | ⟨go,Nn,hNn,step⟩
  ·have d:=T.done Y eP eW eK eC i [] s4 τ H4 (fun _ _=>False) I4 (IS fr4) st4 stop
   rw[eA] at d
   refine dF d fun r s5 ⟨hr,I5⟩=>?_
   subst hr
   have u:Inv X pins σ H4 s5:=by
    subst hY
    exact I3.Ly (ch:=fp) I5.os I5.base I5.hok I5.bare fun b hb=>⟨(Wf b hb).2.2.2.1,(Wf b hb).2.1,(Wf b hb).2.2.2.2.1,(Wf b hb).2.2.2.2.2⟩
   have hC:H4 s3.heap.objs.size=none:=by have z:=I5.free;rw[eE] at z;exact z
   obtain⟨m,hn,_⟩:=I5.loc
   rw[eE] at hn
   exact hRR _ _ H4 s5 m u (I3.Ag (Nat.le_refl _) hC) hn qn
  ·have d:=T.item Y eP eW eK eC i [] s4 τ H4 (fun _ _=>False) I4 (IS fr4) st4 go
   rw[eA] at d
   refine dF d fun r s5 ⟨u,hr,h5⟩=>?_
   subst hr
   refine dF h5 fun _ s6 ⟨x,H6,I6,r6,y6,st6,fr6⟩=>?_
   have I6':=I6.pinned (IS fr6) (T.obj _ _ st6)
   have q6:=hgY _ s6 τ H6 x u _ I6' r6 (step x H6 y6)
   rw[eP,eW,eA,eE,eXe] at q6
   refine dF q6 fun _ s7 ⟨σ7,H7,I7,q7⟩=>?_
   have q8:=htY _ s7 σ7 H7 _ I7 q7
   rw[eP,eW,eA,eE,eXe] at q8
   refine dF q8 fun ok s8 ⟨H8,I8,q8⟩=>?_
   have again:∀{σ9:St}{H9:Hp}{s9:Shared}{zs:List V},Inv Y ([]++Ah fp s6.heap) σ9 H9 s9→(∃ m',m' < n∧W (i+1) m' zs σ9 H9)→∃ m,m < n∧∃ i ys τ H',Inv Y [] τ H' s9∧tn i s9.heap∧(∀ b∈fp,H' b=none)∧W i m ys τ H':=fun {σ9 H9 s9 zs} I9 n9=>by
    obtain⟨m',hm,w9⟩:=n9
    refine⟨m',hm,i+1,zs,σ9,H9,I9.vq,T.keep _ _ _ st6 fun b hb o e=>(I9.pin (b,o) (List.mem_append_right _ (List.mem_append_right _ (pY hb e)))).1,fun b hb=>?_,w9⟩
    obtain⟨o,e,d⟩:=T.obj _ _ st6 b hb
    exact(I9.pin (b,o) (List.mem_append_right _ (List.mem_append_right _ (pY hb e)))).2.1
   cases ok with
   | false =>
    rw[if_neg Bool.false_ne_true]
    rw[if_neg Bool.false_ne_true] at q8
    exact again I8 (hNn _ _ _ q8)
   | true =>
    rw[if_pos rfl]
    rw[if_pos rfl] at q8
    have q9:=heY _ s8 σ7 H8 _ I8 q8
    rw[eP,eW,eA,eE,eXe] at q9
    refine dF q9 fun y s9 ⟨yv,H9,I9,r9,hD9,hz9,q9⟩=>?_
    have ap:=mR (X:=Y) _ s9 σ7 H9 (.ref s.heap.objs.size) [yv] (.ref s.heap.objs.size) [y] (fun _ Z9=>Nn (ys++[yv]) σ7 Z9) I9 rfl (.cons r9 .nil) ⟨_,ys,yv,rfl,rfl,hD9,hz9,q9⟩
    rw[eP,eW,eA,eXe] at ap
    exact dF ap fun _ Tt ⟨_,Z9,I10,_,q10⟩=>again I10 (hNn _ _ _ q10)
 subst hs3
 exact codeAny_compStart_list loop (T.self _ 0 _ _ _ st1 loop)
theorem dW (hc:X.calm=true) (S:bq X.N X.env.scope N nv js scope) (hi:PI X tg iter wi) (hg:∀ C s H fp,PG (ng X N scope C s H fp) tg g) (ht:∀ C s H fp,P6 (ng X N scope C s H fp) ifs tt)
  (he:∀ C s H fp,PE (ng X N scope C s H fp) elt te) (hs:∀ x,foldedSetIterable iter X.env x=pure x:=by intro _;rfl) :
  PE X (.ListComp elt [⟨tg,iter,ifs,0⟩] scope pos) (Vr wi g tt te nv js):=by
 intro pins s σ H Q I h
 rw[eval_ListComp]
 refine wpAny_comprehension_free (use:=none) rfl hs (tZ fun n hn=>I.ok.has n (S.free _ hn rfl)) S.kind S.loc (dF (hi pins s σ H _ I h) fun v s1 h1=>dF h1 fun itv s2 h2=>?_)
 obtain⟨it,fp,tn,J,H2,e,I2,T,st2,f2,hR⟩:=h2
 subst e
 refine Al (RR:=fun acc C=>compPost (model X.prog X.w) X.A X.xe none (EP X pins σ Q) acc C) hc S hg ht he I2 T st2 f2 hR ?_
 intro D C H' s' m I' fC hn q
 refine⟨m,hn,fun h' sb=>⟨.ref D,H',?_,rfl,q⟩⟩
 exact I'.turned (t':=s'.toks) (fun b o hb e=>(sb.2 b hb).trans e) fC.1 fC.2.1 fC.2.2.2.1 fC.2.2.2.2.1 fC.2.2.2.2.2
theorem LK {i:Nat}{x:Str}{pos' spos:Pos} (hc:X.calm=true) (hN:X.N.Nodup) (hi':X.N[i]? = some x) (hx:X.env.scope.names.lookup x=some .local) (S:bq X.N X.env.scope N nv js scope) (hi:PI X tg iter wi) (hg:∀ C s H fp,PG (ng X N scope C s H fp) tg g) (ht:∀ C s H fp,P6 (ng X N scope C s H fp) ifs tt)
  (he:∀ C s H fp,PE (ng X N scope C s H fp) elt te) (hsw:swapsWith (.ListComp elt [⟨tg,iter,ifs,0⟩] scope pos) (some (.Name x pos')) spos.line X.env=pure true:=by rfl) (hs:∀ x,foldedSetIterable iter X.env x=pure x:=by intro _;rfl) :
  PS X (.Assign [.Name x pos'] (.ListComp elt [⟨tg,iter,ifs,0⟩] scope pos) spos) (S7 (Vr wi g tt te nv js) (cK i)):=by
 intro pins s σ H D I h
 rw[exec_Assign_Name_used _ _ _ _ hsw]
 refine wpAny_bind (wpAny_standAt (wpAny_bind ?_))
 show wpAny _ X.A (do let _ ←comprehension (.ListComp elt [⟨tg,iter,ifs,0⟩] scope pos) scope X.env _ (newList []) false (eval iter X.env) (some (assign (.Name x pos') X.env))) _ _ s
 refine wpAny_bind (wpAny_mono (wpAny_comprehension_free (use:=some (assign (.Name x pos') X.env)) (Q:=fun _ s'=>SP X pins D .next s') rfl hs (tZ fun n hn=>I.ok.has n (S.free _ hn rfl)) S.kind S.loc
  (dF (hi pins s σ H _ I h) fun v s1 h1=>dF h1 fun itv s2 h2=>?_)) (fun _ s' hq=>wpAny_pure (wpAny_pure hq)) fun _ _ e=>e)
 obtain⟨it,fp,tn,J,H2,e,I2,T,st2,f2,hR⟩:=h2
 subst e
 refine Al (RR:=fun acc C=>compPost (model X.prog X.w) X.A X.xe (some (assign (.Name x pos') X.env)) (fun _ s'=>SP X pins D .next s') acc C) hc S hg ht he I2 T st2 f2 hR ?_
 intro Dl C H' s' m I' fC hn q
 show wpAny _ X.A (assign (.Name x pos') X.env (.ref Dl)) _ _ _
 refine wpAny_assign_Name (De I' hN hi' (.inl hx) (v:=.ref Dl) rfl (fun s2 I3 ch=>?_) (.inr hx))
 obtain⟨a,sb,ha⟩:=ch
 have hCa:C≠a:=by
  rcases ha with rfl | ha
  ·exact fC.2.1
  ·exact(fC.2.2.2.2.1 x a ha).symm
 refine⟨m,hn.sameBut sb hCa,fun h' sb'=>⟨_,H',?_,q⟩⟩
 exact I3.turned (t':=s2.toks) (fun b o hb e=>(sb'.2 b hb).trans e) fC.1 fC.2.1 fC.2.2.2.1 fC.2.2.2.2.1 fC.2.2.2.2.2
end
theorem Jh:typeLookup (.type "list_reverseiterator") "__len__" = pure none:=by rw[typeLookup_type,builtinLookup_eq_fast];kernel_rfl
theorem P9:typeLookup (.type "list_reverseiterator") "__length_hint__" = pure (some (.builtin "list_reverseiterator.__length_hint__")):=by rw[typeLookup_type,builtinLookup_eq_fast];kernel_rfl
section
variable {prog:Program}{w:World}{A:Around}{E:Value→Shared→Prop}{s:Shared}
theorem Qa {I l:Addr}{i:Int}{Q:Bool→Shared→Prop} (hit:s.heap.IsRevIter I l i) (h:Q false s):wpAny (model prog w) A (Builtin.List.listLengthHint (.ref I)) Q E s:=by
 unfold Builtin.List.listLengthHint
 refine wpAny_bind (wpAny_specialOf hit.typeIs Jh ?_)
 show wpAny _ _ (specialOf (Value.ref I) ("__length_hint__":Str) >>= _) _ _ _
 refine wpAny_bind (wpAny_specialOf hit.typeIs P9 ?_)
 generalize hid:("list_reverseiterator.__length_hint__" : String)=id0
 wp_delta
 rw[show splitId id0=some ("list_reverseiterator", "__length_hint__") from by subst hid;decide +kernel]
 subst hid
 refine wpAny_bind (wpAny_isInstance (T := "list_reverseiterator") (b:=true) hit.typeIs (by rw[isSubtype_type];kernel_rfl) ?_)
 refine wpAny_ite_split (fun hab=>absurd hab (by decide)) (fun _=>?_)
 refine wpAny_ite_split (fun _=>?_) (fun hab=>absurd (by decide +kernel) hab)
 refine wpAny_ite_split (fun hab=>absurd hab (by decide +kernel)) (fun _=>?_)
 exact wpAny_pure h
theorem Ji {R:Result→Shared→Prop} (hh:A.handled=none) {I l:Addr}{items:Array Value} (hne:l≠I) (hit:s.heap.IsRevIter I l ((items.size:Int) - 1)) (hl:s.heap.IsList l items) (S:Addr) (hSl:S≠l) (res:Value) (c₀:Nat) (hS:s.heap.get? S=some { cls:=.type "list",data:=.seq #[] c₀ })
  (hn:items.size≤sizeLine)
  (hR:∀ h' tk acc' c',(∀ b o,b≠S→b≠I→s.heap.get? b=some o→h'.get? b=some o)→h'.get? S=some { cls:=.type "list",dict:=none,data:=.seq acc' c',slots:=#[] } →
   ItemsOf (fun i v=>items[items.size - 1 - i]? = some v) acc' items.size→R (.ok (.ret res)) { s with heap:=h',toks:=tk }) :
  wpAny (model prog w) A.in1 (Builtin.List.listExtendWith (.ref S) (.ref I) res)
   (fun fin s'=>match fin with | .done f=>R (.ok f) s' | .again c'=>c'.quiet=true∧codeAny (model prog w) A c' R s') (fun e s'=>R (.error e) s') s:=by
 have hSI:S≠I:=fun e=>by
  subst e
  obtain⟨o,ho,hc,_⟩:=hit
  rw[hS] at ho;cases ho
  exact absurd (show Value.type "list" = Value.type "list_reverseiterator" from hc) (by decide)
 have hSf:S∉[I,l]:=fun hm=>by
  rcases List.mem_cons.mp hm with e | hm
  ·exact hSI e
  ·exact hSl (List.mem_singleton.mp hm)
 unfold Builtin.List.listExtendWith
 refine wpAny_bind (wpAny_typeOf hit.typeIs ?_)
 have h1:Builtin.List.listSameRef (.ref S) (.ref I)=false:=by simp[Builtin.List.listSameRef,hSI]
 have h2:(Value.type "list_reverseiterator" == Value.type "list")=false:=by decide
 have h3:(Value.type "list_reverseiterator" == Value.type "tuple")=false:=by decide
 simp only[h1,h2,h3,Bool.or_false,Bool.false_eq_true,if_false]
 refine wpAny_bind (wpAny_pyIter_revIter hit ?_)
 refine wpAny_bind (wpAny_holding (Qa hit ?_))
 rw[if_neg (by decide)]
 refine wpAny_pure ⟨plainId_quiet F.plain_extend_loop _,codeAny_extend_loopS (Walks.listRev (prog:=prog) (w:=w) (A:=A.in1) hh I l hne items).toS hn _ hSf _ items.size 0 _ _ _ rfl (Nat.zero_le _) ⟨Nat.zero_le _,by simpa using hit,hl⟩ hS (ItemsOf.nil _) fun s' acc' c' hm hS' hacc=>?_⟩
 rw[Moved.eq_with hm]
 refine hR s'.heap s'.toks acc' c' (fun b ob hb hb2 e=>hm.heap b ob (fun hmem=>?_) e) hS' hacc
 rcases List.mem_cons.mp hmem with e' | hmem
 ·exact hb e'
 ·exact hb2 (List.mem_singleton.mp hmem)
end
theorem MP {items:List Value}{acc:Array Value} (h:ItemsOf (fun i v=>items.toArray[items.toArray.size - 1 - i]? = some v) acc items.toArray.size):acc.toList=items.reverse:=by
 have hz:=h.1
 refine List.ext_getElem? fun i=>?_
 by_cases hi:i < items.length
 ·have hi':i < acc.size:=by rw[hz];simpa using hi
  have q:=h.2 i acc[i] (by simp[hi'])
  rw[List.getElem?_reverse hi]
  simp only[List.size_toArray,List.getElem?_toArray] at q
  rw[q]
  simp[hi']
 ·rw[List.getElem?_eq_none (by rw[Array.length_toList,hz];simpa using hi),List.getElem?_eq_none (by simpa using hi)]
section
variable {X:Cx}{e:Expr}{te:TE}
end
def sg (c:Nat):Str:=⟨#[c]⟩
def Zg (z:Str):It:=⟨fun i _=>i < z.cps.size,fun i H x H'=>H'=H∧∃ c,z.cps[i]? = some c∧x=.str (sg c),fun i _=>z.cps.size≤i⟩
theorem Qc {P:Program}{w:World}{K:W.Frag}{tg:Expr} (it:Addr) (z:Str) (t:Tok):Turn P w K tg (Zg z) [it] it (fun i h=>h.IsStrIter it (strIterType z) z t i) where
 mem:=by simp
 obj:=fun i h st b hb=>by
  have e:b=it:=by simpa using hb
  subst e
  obtain⟨o,e,c,d⟩:=st
  exact⟨o,e,fun v z=>by rw[d] at z;cases z⟩
 keep:=fun i h h' st k=>by
  obtain⟨o,e,r⟩:=st
  exact⟨o,k it (by simp) o e,r⟩
 item:=by
  intro X hP hw hK hc i pins s σ H E I hf st hg
  subst hP hw hK
  obtain⟨f0,f1,f2,f3,f4,f5⟩:=hf it (by simp)
  have hi:i < z.cps.size:=hg
  have hx:z.cps[i]? = some z.cps[i]:=by simp[hi]
  cases ha:z.cps.all (· < 128) with
  | true =>
   have et:strIterType z = "str_ascii_iterator" := by simp only[strIterType,ha,if_true]
   rw[et] at st ⊢
   refine wpAny_pyNext_ascii_item st hx fun h' st' sb=>?_
   have I1:Inv X pins σ H { s with heap:=h',toks:=s.toks+1 }:=I.turned (fun b o hb e=>(sb.2 b hb).trans e) f0 f1 f3 f4 f5
   obtain⟨o,e,c,d⟩:=id st'
   exact⟨_,rfl,Gj (s:={ s with heap:=h',toks:=s.toks+1 }) e c d (by decide) ⟨.str (sg z.cps[i]),H,I1,⟨_,rfl⟩,⟨rfl,_,hx,rfl⟩,st',fun b hb=>(hf b hb).1⟩⟩
  | false =>
   have et:strIterType z = "str_iterator" := by simp only[strIterType,ha,Bool.false_eq_true,if_false]
   rw[et] at st ⊢
   refine wpAny_pyNext_wide_item st hx fun h' st' sb=>?_
   have I1:Inv X pins σ H { s with heap:=h',toks:=s.toks+1 }:=I.turned (fun b o hb e=>(sb.2 b hb).trans e) f0 f1 f3 f4 f5
   obtain⟨o,e,c,d⟩:=id st'
   exact⟨_,rfl,Gj (s:={ s with heap:=h',toks:=s.toks+1 }) e c d (by decide) ⟨.str (sg z.cps[i]),H,I1,⟨_,rfl⟩,⟨rfl,_,hx,rfl⟩,st',fun b hb=>(hf b hb).1⟩⟩
 done:=by
  intro X hP hw hK hc i pins s σ H E I hf st hg
  subst hP hw hK
  obtain⟨f0,f1,f2,f3,f4,f5⟩:=hf it (by simp)
  have hi:z.cps.size≤i:=hg
  have hx:z.cps[i]? = none:=by simp[hi]
  cases ha:z.cps.all (· < 128) with
  | true =>
   have et:strIterType z = "str_ascii_iterator" := by simp only[strIterType,ha,if_true]
   rw[et] at st
   exact wpAny_pyNext_ascii_end (I.ok.hd hc) st hx fun h' eb=>⟨rfl,I.turned (t':=s.toks) (fun b o hb e=>eb b o hb e) f0 f1 f3 f4 f5⟩
  | false =>
   have et:strIterType z = "str_iterator" := by simp only[strIterType,ha,Bool.false_eq_true,if_false]
   rw[et] at st
   exact wpAny_pyNext_wide_end (I.ok.hd hc) st hx fun h' eb=>⟨rfl,I.turned (t':=s.toks) (fun b o hb e=>eb b o hb e) f0 f1 f3 f4 f5⟩
 self:=by
  intro A i s Q E st h
  cases ha:z.cps.all (· < 128) with
  | true =>
   have et:strIterType z = "str_ascii_iterator" := by simp only[strIterType,ha,if_true]
   rw[et] at st
   exact wpAny_pyIter_striter_ascii st h
  | false =>
   have et:strIterType z = "str_iterator" := by simp only[strIterType,ha,Bool.false_eq_true,if_false]
   rw[et] at st
   exact wpAny_pyIter_striter_wide st h
section
variable {X:Cx}{tg:Expr}
def aft (tl:TE):TI:=fun σ H R=>tl σ H fun x H1=>∃ z,x=.str z∧R (Zg z) H1
theorem Am {l:Expr}{tl:TE} (hl:PE X l tl):PI X tg l (aft tl):=by
 intro pins s σ H R I h
 refine dF (hl pins s σ H _ I h) fun v s1 ⟨x,H1,I1,r1,q1⟩=>?_
 obtain⟨z,e,q⟩:=q1
 subst e
 obtain⟨t,rfl⟩:=r1
 refine wpAny_pyIter_strU ?_
 refine⟨s1.heap.objs.size,[s1.heap.objs.size],_,_,H1,rfl,I1.kept (t':=s1.toks) fun b o e=>Heap.get?_push_of_some _ e,Qc _ z t,⟨_,Heap.get?_push_size _ rfl,rfl,rfl⟩,fun b hb=>?_,q⟩
 have e:b=s1.heap.objs.size:=by simpa using hb
 subst e
 exact I1.Ag (Nat.le_refl _) (I1.hok.fresh (Nat.le_refl _))
end
theorem LL {z:Str}{g:TG}{tb:TS}{D:Ends}{σ:St}{H:Hp} (Pv:Nat→St→Hp→Prop) (h0:Pv 0 σ H)
  (hs:∀ i c σ H,z.cps.toList[i]? = some c→Pv i σ H→g (.str (sg c)) σ H fun σ2 H2=>tb { D with nx:=Pv (i+1),ct:=Pv (i+1),bk:=D.nx } σ2 H2) (hd:∀ σ H,Pv z.cps.toList.length σ H→D.nx σ H) :
  ∃ W:Nat→Nat→St→Hp→Prop,(∃ m,W 0 m σ H)∧∀ i m σ H,W i m σ H →
   ((Zg z).stop i H∧D.nx σ H)∨((Zg z).go i H∧∃ N:St→Hp→Prop,(∀ σ' H',N σ' H'→∃ m',m' < m∧W (i+1) m' σ' H')∧∀ x H',(Zg z).SN i H x H'→g x σ H' fun σ2 H2=>tb { D with nx:=N,ct:=N,bk:=D.nx } σ2 H2):=by
 refine⟨fun i m σ H=>m=z.cps.size - i∧i≤z.cps.size∧Pv i σ H,⟨z.cps.size,by simp,Nat.zero_le _,h0⟩,?_⟩
 rintro i m σ H ⟨rfl,hi,p⟩
 by_cases hlt:i < z.cps.size
 ·refine .inr ⟨hlt,Pv (i+1),fun σ' H' p'=>⟨z.cps.size - (i+1),by omega,rfl,hlt,p'⟩,fun x H' y=>?_⟩
  obtain⟨e,c,hc,ex⟩:=y
  subst e ex
  exact hs i c σ _ (by simpa using hc) p
 ·have e:i=z.cps.size:=by omega
  subst e
  exact .inl ⟨Nat.le_refl _,hd σ H (by simpa using p)⟩
theorem dB {K:W.Frag}{a:Addr}{xs:List V}{g:TG}{tt:TT}{te:TE}{Q:VK}{D:Addr}{τ:St}{H:Hp} (Pv:Nat→List V→St→Hp→Prop) (h0:Pv 0 [] τ (upd H D (.lst [])))
  (hl:∀ i ys τ H,i≤xs.length→Pv i ys τ H→bB K H a xs∧H D=some (.lst ys))
  (hs:∀ i x ys τ H,xs[i]? = some x→Pv i ys τ H→g x τ H fun τ2 H2=>tt τ2 H2 fun b H3=>if b=true then te τ2 H3 fun y H4=>H4 D=some (.lst ys)∧ys.length < sizeLine∧Pv (i+1) (ys++[y]) τ2 (upd H4 D (.lst (ys++[y]))) else Pv (i+1) ys τ2 H3)
  (hd:∀ ys τ H,Pv xs.length ys τ H→Q (.ref D) H) :
  Du (Zc K a) g tt te Q D τ H:=by
 refine⟨fun i m ys τ H=>m=xs.length - i∧i≤xs.length∧Pv i ys τ H,⟨xs.length,by simp,Nat.zero_le _,h0⟩,?_⟩
 rintro i m ys τ H ⟨rfl,hi,p⟩
 obtain⟨q,hD⟩:=hl i ys τ H hi p
 refine⟨hD,?_⟩
 by_cases hlt:i < xs.length
 ·refine .inr ⟨⟨xs,xs[i],q,by simp[hlt]⟩,Pv (i+1),fun zs σ' H' p'=>⟨xs.length - (i+1),by omega,rfl,hlt,p'⟩,fun x H' y=>?_⟩
  obtain⟨e,y⟩:=y
  subst e
  exact hs i x ys τ _ (y xs q) p
 ·have e:i=xs.length:=by omega
  subst e
  exact .inl ⟨⟨xs,q,Nat.le_refl _⟩,hd ys τ H p⟩
theorem An {z:Str}{g:TG}{tt:TT}{te:TE}{Q:VK}{D:Addr}{τ:St}{H:Hp} (Pv:Nat→List V→St→Hp→Prop) (h0:Pv 0 [] τ (upd H D (.lst [])))
  (hl:∀ i ys τ H,i≤z.cps.toList.length→Pv i ys τ H→H D=some (.lst ys))
  (hs:∀ i c ys τ H,z.cps.toList[i]? = some c→Pv i ys τ H→g (.str (sg c)) τ H fun τ2 H2=>tt τ2 H2 fun b H3=>if b=true then te τ2 H3 fun y H4=>H4 D=some (.lst ys)∧ys.length < sizeLine∧Pv (i+1) (ys++[y]) τ2 (upd H4 D (.lst (ys++[y]))) else Pv (i+1) ys τ2 H3)
  (hd:∀ ys τ H,Pv z.cps.toList.length ys τ H→Q (.ref D) H) :
  Du (Zg z) g tt te Q D τ H:=by
 have hz:z.cps.toList.length=z.cps.size:=by simp
 refine⟨fun i m ys τ H=>m=z.cps.size - i∧i≤z.cps.size∧Pv i ys τ H,⟨z.cps.size,by simp,Nat.zero_le _,h0⟩,?_⟩
 rintro i m ys τ H ⟨rfl,hi,p⟩
 refine⟨hl i ys τ H (by omega) p,?_⟩
 by_cases hlt:i < z.cps.size
 ·refine .inr ⟨hlt,Pv (i+1),fun zs σ' H' p'=>⟨z.cps.size - (i+1),by omega,rfl,hlt,p'⟩,fun x H' y=>?_⟩
  obtain⟨e,c,hc,ex⟩:=y
  subst e ex
  exact hs i c ys τ _ (by simpa using hc) p
 ·have e:i=z.cps.size:=by omega
  subst e
  exact .inl ⟨Nat.le_refl _,hd ys τ H (by rw[hz];exact p)⟩
theorem Jj {lo:Int}{n:Nat}{g:TG}{tt:TT}{te:TE}{Q:VK}{D:Addr}{τ:St}{H:Hp} (Pv:Nat→List V→St→Hp→Prop) (h0:Pv 0 [] τ (upd H D (.lst [])))
  (hl:∀ i ys τ H,i≤n→Pv i ys τ H→H D=some (.lst ys))
  (hs:∀ i ys τ H,i < n→Pv i ys τ H→g (.int (lo+i)) τ H fun τ2 H2=>tt τ2 H2 fun b H3=>if b=true then te τ2 H3 fun y H4=>H4 D=some (.lst ys)∧ys.length < sizeLine∧Pv (i+1) (ys++[y]) τ2 (upd H4 D (.lst (ys++[y]))) else Pv (i+1) ys τ2 H3)
  (hd:∀ ys τ H,Pv n ys τ H→Q (.ref D) H) :
  Du (VZ lo n) g tt te Q D τ H:=by
 refine⟨fun i m ys τ H=>m=n - i∧i≤n∧Pv i ys τ H,⟨n,by simp,Nat.zero_le _,h0⟩,?_⟩
 rintro i m ys τ H ⟨rfl,hi,p⟩
 refine⟨hl i ys τ H hi p,?_⟩
 by_cases hlt:i < n
 ·refine .inr ⟨hlt,Pv (i+1),fun zs σ' H' p'=>⟨n - (i+1),by omega,rfl,hlt,p'⟩,fun x H' y=>?_⟩
  obtain⟨e,y⟩:=y
  subst e y
  exact hs i ys τ _ hlt p
 ·have e:i=n:=by omega
  subst e
  exact .inl ⟨Nat.le_refl _,hd ys τ H p⟩
theorem LM:∀{zs:List Str}{us:List Value},Vals (zs.map V.str) us→StrsAre us zs
 | [],_,r=>by cases r;exact .nil
 | z :: zs,_,r=>by
  cases r with
  | cons r1 r2 =>
   obtain⟨t,e⟩:=r1
   subst e
   exact .cons z t (LM r2)
section
variable {X:Cx}
def rJoin (K:W.Frag):V→List V→Hp→VK→Prop:=fun x vs H Q=>∃ z p zs,x=.str z∧vs=[.ref p]∧bB K H p (zs.map V.str)∧(zs.map (·.length)).sum+zs.length * z.length≤16777216∧Q (.str (Txt.join z zs)) H
theorem Tu:V7 X "str.join" (rJoin X.K):=by
 intro pins s σ H x vs v us Q I rx rv h
 obtain⟨z,p,zs,rfl,rfl,hq,hz,q⟩:=h
 obtain⟨t,rfl⟩:=rx
 obtain⟨u,rfl,ru⟩:=rv.one
 cases ru
 obtain⟨its,r,pl,_⟩:=I.list hq
 exact join_list pl.isList (by simpa using LM r) hz fun t' k=>⟨.str _,H,I.tok k,⟨t',rfl⟩,q⟩
theorem Gu:iE X (.builtin "isinstance") (fun xs H Q=>∃ x c t b,xs=[x,c]∧rF X.K H x t∧((∃ n,c=.ty n∧W.kitOne X.K t (.type n)=some b)∨(∃ a,c=.ref a∧W.kitOne X.K t (.ref a)=some b))∧Q (.bl b) H):=by
 intro pins s σ H xs us Q I r h
 obtain⟨x,c,t,b,rfl,ty,hc,q⟩:=h
 obtain⟨u,w',rfl,ru,rw'⟩:=vals2 r
 rcases hc with ⟨n,rfl,e⟩ | ⟨a,rfl,e⟩
 ·cases rw'
  exact Dk I ru ty e fun tk=>⟨.bl b,H,I.tok tk,rfl,q⟩
 ·cases rw'
  exact Dk I ru ty e fun tk=>⟨.bl b,H,I.tok tk,rfl,q⟩
end
theorem Wg (c:Nat):(sg c).length=1:=rfl
theorem Tv (a b:List Nat):(⟨a.toArray⟩:Str)++(⟨b.toArray⟩:Str)=⟨(a++b).toArray⟩:=by
 show Str.mk (a.toArray++b.toArray)=_
 simp
section
variable {X:Cx}
def aac (K:W.Frag):R2:=fun x y H Q=>∃ a b xs,x=.ref a∧y=.ref b∧bB K H a xs∧bB K H b []∧Q (.bl (!xs.isEmpty)) H
theorem Wh (hu:X.A.units < cLine):pZ X (compareOp .NotEq) (aac X.K):=by
 intro pins s σ H x y v u Q I rx ry h
 obtain⟨a,b,xs,rfl,rfl,ha,hb,q⟩:=h
 cases rx
 cases ry
 obtain⟨its,r1,p1,_⟩:=I.list ha
 obtain⟨its2,r2,p2,_⟩:=I.list hb
 cases r2
 show wpAny _ _ (richCompare .NotEq (.ref a) (.ref b)) _ _ _
 cases xs with
 | nil =>
  cases r1
  refine SeqAt.RcNeAt.lists (e:=fun _=>true) p1.isList p2.isList rfl hu (fun j h1 _=>absurd h1 (by simp)) _ _ _ _ ⟨.bl false,H,I,?_,q⟩
  simp[RelV]
 | cons x xs =>
  cases r1 with
  | cons r rr =>
   exact SeqAt.RcNeAt.lists_lengths p1.isList p2.isList (by simp) hu _ _ _ _ ⟨.bl true,H,I,rfl,q⟩
end
section
variable {X:Cx} (K:W.Frag) (h:X.K=K)
include h
theorem Qd:Ze X (V8 K):=by subst h;exact Ti
theorem Tw:Ze X (V9 K):=by subst h;exact Wa
theorem LN:SlR X (Z4 K):=by subst h;exact V6
theorem Ao:V7 X "str.join" (rJoin K):=by subst h;exact Tu
theorem bE:iE X (.builtin "len") (fun xs H Q=>∃ p ys,xs=[.ref p]∧(bB K H p ys∨ck K H p ys)∧Q (.int ys.length) H):=by subst h;exact Eh
theorem bN:iE X (.builtin "isinstance") (fun xs H Q=>∃ x c t b,xs=[x,c]∧rF K H x t∧((∃ n,c=.ty n∧W.kitOne K t (.type n)=some b)∨(∃ a,c=.ref a∧W.kitOne K t (.ref a)=some b))∧Q (.bl b) H):=by subst h;exact Gu
theorem rH:iE X (.type "tuple") (fun xs H Q=>∃ p ys,xs=[.ref p]∧((bB K H p ys∧∀ l,H l=none→Q (.ref l) (upd H l (.tup ys)))∨(ck K H p ys∧Q (.ref p) H))):=by subst h;exact B7
theorem B8:pZ X (compareOp .NotIn) (rIn K true):=by subst h;exact Eg
theorem Qe:pZ X (binaryOp .Add) (Vq K):=by subst h;exact Tg
theorem Tz (hu:X.A.units < cLine):pZ X (compareOp .NotEq) (aac K):=by subst h;exact Wh hu
theorem cE {tg l:Expr}{tl:TE} (hl:PE X l tl):PI X tg l (Vk K tl):=by subst h;exact S8 hl
theorem TF {tg l:Expr}{tl:TE} (hl:PE X l tl):PI X tg l (ZS K tl):=by subst h;exact V0 hl
theorem sZ {es:List Expr}{k:Nat}{pos:Pos}{t:Vj} (n:Nat) (hc:X.calm=true) (hh:ZN X es t)
 (hn:(assignEach es X.env).length=n:=by rfl) (hst:(assignEach es X.env).findIdx? (·.1)=none:=by rfl):PG X (.Tuple es k pos) (ZQ K n t):=by subst h;exact VX hc hh hn hst
theorem aU {e:Expr}{ta:TE}{f:Str}{pos:Pos} (he:PE X e ta) (hb:attributeBase e f X.env (eval e X.env)=eval e X.env):PE X (.Attribute e f pos) (ZY K ta f):=by subst h;exact V3 he hb
theorem lQ {o e:Expr}{es:List Expr}{to:TE}{t:TA}{name:Str}{apos cpos:Pos}{T id:String}{r:V→List V→Hp→VK→Prop} (pa:PlainAttrs T) (slot:Slot T name id) (hty:typeOf (.builtin id)=pure (.type "method_descriptor")) (hm:V7 X id r) (ho:PE X o to) (ha:PA X (e :: es) t)
 (hbase:attributeBase o name X.env (eval o X.env)=eval o X.env:=by rfl)
 (hfew:((backTo cpos (starEach (e :: es) X.env)).all (fun x=>!x.1) && (backToKw cpos (keywordEach [] X.env)).all (fun x=>x.1.isSome)
  && decide ((e :: es).length+([]:List Keyword).length+(if ([]:List Keyword).isEmpty then 0 else 1) < 30))=true:=by rfl)
 (hline:(apos.endLine == cpos.line)=true:=by rfl) (hs:starEach (e :: es) X.env=(false,eval e X.env) :: starEach es X.env:=by rfl) (hplain:(backTo cpos (starEach es X.env)).any (·.1)=false:=by rfl) :
 PE X (.Call (.Attribute o name apos) (e :: es) [] cpos) (tBM K T r to t):=by subst h;exact Z5 pa slot hty hm ho ha hbase hfew hline hs hplain
end
section
variable {X:Cx}
theorem qe {x:Str}{z:Str}{t:Tok}{pos:Pos} (hg:Gl X x) (hm:X.mg x=some (.str z t)) (hd:(x == ("__debug__" : Str))=false:=by decide):PE X (.Name x pos) (tC (.str z)):=D7 hg hm ⟨t,rfl⟩ hd
theorem dj {x:Str}{a:Addr}{pos:Pos} (hg:Gl X x) (hm:X.mg x=some (.ref a)) (hd:(x == ("__debug__" : Str))=false:=by decide):PE X (.Name x pos) (tC (.ref a)):=D7 hg hm rfl hd
theorem Wi (n:String) {x:Str}{pos:Pos} (hg:Gl X x) (hm:X.mg x=none) (hv:bootBuiltins x=some (.type n)) (hn:x ≠ "__name__" := by decide) (hd:(x == ("__debug__" : Str))=false:=by decide):PE X (.Name x pos) (tC (.ty n)):=S4 hg hm hv rfl hn hd
end
structure Qf (K:W.Frag) (x qual:Str) (st:Stmt) (f:Addr) (fd:FuncData) (dV:Value):Prop where
 ex:∃(oc:Value) (od:Option Addr) (kV doc pm:Value) (an:Option Addr) (cdv ct:Value) (osl:Array (Option Value)),
  fd=W.fnOf x qual (ff st) (cT st) (aA st) dV kV doc pm an cdv ct∧K.lookup f=some ⟨oc,od,.func fd,osl⟩∧W.codeIn K cdv qual=true
 kp:W.keepIn K (.ref f)=true
section
variable {P:Program}{w:World}{K:W.Frag}{mg:Str→Option Value}{base:Heap}
theorem Qf.ok {x qual:Str}{st:Stmt}{f:Addr}{fd:FuncData}{dV:Value}{N ps:List Str}{k:Nat}{sp:Sp} (F:Qf K x qual st f fd dV) (S:aG N ps (aA st)) (len:∀ vs H Q E,sp vs H Q E→vs.length=ps.length)
  (hbody:∀(cdv:Value) (A:Around) (outer:List Env) (s:Shared) (H:Hp) (vs:List V) (Q:VK) (E:XK),gE k (A.deeper (envOfC qual (aA st) s.heap.objs.size f cdv))→sp vs H Q E →
   ∃ t,Gb (tO cy P w K mg base N qual (aA st) f cdv A outer s H E).VU (cT st) t∧t { nx:=fun _ H'=>Q .non H',rt:=Q } (start N vs) H):aM P w K mg base cy (k+1) f fd ps sp:=by
 obtain⟨oc,od,kV,doc,pm,an,cdv,ct,osl,rfl,lk,hcd⟩:=F.ex
 refine PN lk hcd S len fun A outer s H vs Q E hr Ja=>?_
 obtain⟨t,h,q⟩:=hbody cdv A outer s H vs Q E hr Ja
 exact⟨t,h.VU,q⟩
theorem LO {x qual:Str}{st:Stmt}{f:Addr}{oc dV:Value}{od an:Option Addr}{osl:Array (Option Value)}{kV doc pm cdv ct:Value} (l:K.lookup f=some ⟨oc,od,.func (W.fnOf x qual (ff st) (cT st) (aA st) dV kV doc pm an cdv ct),osl⟩)
 (c:W.codeIn K cdv qual=true) (k:W.keepIn K (.ref f)=true):Qf K x qual st f (W.fnOf x qual (ff st) (cT st) (aA st) dV kV doc pm an cdv ct) dV:=⟨⟨oc,od,kV,doc,pm,an,cdv,ct,osl,rfl,l,c⟩,k⟩
end
section
variable {X:Cx}
theorem rJ:∀{bs:List Bool}{us:List Value}{i:Nat}{u:Value},Vals (bs.map V.bl) us→us[i]? = some u→u=.bool (bs.getD i true)
 | [],_,_,_,r,e=>by cases r;simp at e
 | b :: bs,_,i,u,r,e=>by
  cases r with
  | cons r1 r2 =>
   cases i with
   | zero=>simp at e;subst e;exact r1
   | succ i=>simp at e;simpa using rJ r2 e
theorem all_range (bs:List Bool):((List.range bs.length).all fun i=>bs.getD i true)=bs.all id:=by
 rw[Bool.eq_iff_iff,List.all_eq_true,List.all_eq_true]
 constructor
 ·intro h b hb
  obtain⟨i,hi,rfl⟩:=List.mem_iff_getElem.mp hb
  have:=h i (by simpa using hi)
  simpa [List.getD,hi] using this
 ·intro h i hi
  have hi':i < bs.length:=by simpa using hi
  have:=h bs[i] (List.getElem_mem hi')
  simpa [List.getD,hi'] using this
def aad (K:W.Frag):List V→Hp→VK→Prop:=fun xs H Q=>∃(p:Addr) (bs:List Bool),xs=[.ref p]∧bB K H p (bs.map V.bl)∧Q (.bl (bs.all id)) H
theorem Qg (hc:X.calm=true):iE X (.builtin "all") (aad X.K):=by
 intro pins s σ H xs us Q I r h
 obtain⟨p,bs,rfl,hq,q⟩:=h
 obtain⟨u,rfl,ru⟩:=vals1 r
 cases ru
 obtain⟨its,rv,pl,hz⟩:=I.list hq
 have hlen:=rv.length
 rw[List.length_map] at hlen
 have hpl:p < s.heap.objs.size:=by obtain⟨o,ho,_⟩:=pl.isList;exact Heap.lt_size ho
 refine call_all_walk (wpAny_pyIter_list pl.isList ⟨s.heap.objs.size,_,_,_,_,_,fun i=>bs.getD i true,rfl,Walks.list (A:=X.A.in1) (show X.A.in1.handled=none from I.ok.hd hc) s.heap.objs.size p (Nat.ne_of_lt hpl) its.toArray,⟨⟨_,Heap.get?_push_size _ rfl,rfl,rfl⟩,pl.isList.at fun o e=>Heap.get?_push_of_some _ e⟩,?_,?_⟩)
 ·intro i v s' Q' E' hv hq'
  have e:its[i]? = some v:=by simpa using hv
  rw[rJ rv e]
  exact wpAny_truthy_bool hq'
 ·intro h' tk hk
  have f0:=I.Ag (Nat.le_refl s.heap.objs.size) (I.hok.fresh (Nat.le_refl _))
  have I2:Inv X pins σ H { s with heap:=s.heap.push { cls:=.type "list_iterator",data:=.fields #[.ref p,rawInt 0] } }:=I.kept (t':=s.toks) fun b o e=>Heap.get?_push_of_some _ e
  have I3:=I2.turned (h':=h') (t':=tk) (it:=s.heap.objs.size) (fun b o hb e=>hk b o (by simpa using hb) e) f0.1 f0.2.1 f0.2.2.2.1 f0.2.2.2.2.1 f0.2.2.2.2.2
  refine⟨.bl (bs.all id),H,I3,?_,q⟩
  show Value.bool _=Value.bool _
  rw[List.size_toArray,←hlen,all_range]
theorem oY (K:W.Frag) (h:X.K=K) (hc:X.calm=true):iE X (.builtin "all") (aad K):=by subst h;exact Qg hc
def Wj:V→List V→Hp→VK→Prop:=fun x vs H Q=>∃(z:Str) (c:Nat),x=.str z∧vs=[.str (sg c)]∧Q (.int (PyProof.Rows.cnt c z.cps.toList)) H
theorem Qh:V7 X "str.count" Wj:=by
 intro pins s σ H x vs v us Q I rx rv h
 obtain⟨z,c,rfl,rfl,q⟩:=h
 obtain⟨t,rfl⟩:=rx
 obtain⟨u,rfl,ru⟩:=rv.one
 obtain⟨t',rfl⟩:=ru
 exact SC.count ⟨.int _,H,I.tok _,⟨_,rfl⟩,by
  have e:Txt.count z (sg c)=PyProof.Rows.cnt c z.cps.toList:=PyProof.Rows.count_is z c
  rw[e];exact q⟩
theorem LP:∀{l:List Nat}{c:Nat},l.Nodup→c∈l→PyProof.Rows.cnt c l=1
 | [],_,_,h=>by cases h
 | n :: r,c,nd,h=>by
  rw[PyProof.Rows.cnt_cons]
  obtain⟨n1,n2⟩:=List.nodup_cons.mp nd
  by_cases e:n=c
  ·subst e
   rw[if_pos rfl,PyProof.Rows.cnt_none _ _ n1];rfl
  ·rw[if_neg e,LP n2 ((List.mem_cons.mp h).resolve_left (Ne.symm e))];rfl
def Gv:List V→List V→Bool
 | [],[]=>true
 | x :: xs,y :: ys=>Gq x y && Gv xs ys
 | _,_=>false
theorem Qi:∀{x:V},iL x=true→Gq x x=true
 | .non,_=>rfl
 | .bl b,_=>by cases b <;> rfl
 | .int i,_=>by simp[Gq]
 | .str z,_=>by simp[Gq]
theorem Dv:∀{xs:List V},xs.all iL=true→Gv xs xs=true
 | [],_=>rfl
 | x :: xs,h=>by
  rw[List.all_cons,Bool.and_eq_true] at h
  unfold Gv
  rw[Qi h.1,Dv h.2];rfl
def Vs (xs ys:List V) (j:Nat):Bool:=match xs[j]?,ys[j]? with
 | some x,some y=>Gq x y
 | _,_=>true
theorem Aq:∀(xs ys:List V),((List.range (min xs.length ys.length)).all (Vs xs ys) && xs.length == ys.length)=Gv xs ys
 | [],[]=>rfl
 | [],_ :: _=>by simp[Gv]
 | _ :: _,[]=>by simp[Gv]
 | x :: xs,y :: ys=>by
  have ih:=Aq xs ys
  have e:min (x :: xs).length (y :: ys).length=min xs.length ys.length+1:=by rw[List.length_cons,List.length_cons];omega
  rw[e,List.range_succ_eq_map,List.all_cons,List.all_map]
  have e2:(Vs (x :: xs) (y :: ys) ∘ Nat.succ)=Vs xs ys:=by funext j;simp[Vs]
  rw[e2]
  unfold Gv
  rw[←ih]
  have e3:((x :: xs).length == (y :: ys).length)=(xs.length == ys.length):=by simp
  rw[e3]
  show(Gq x y && _ && _)=_
  rw[Bool.and_assoc]
def afu (K:W.Frag):R2:=fun x y H Q=>∃ a b xs ys,x=.ref a∧y=.ref b∧ck K H a xs∧ck K H b ys∧xs.all iL=true∧ys.all iL=true∧Q (.bl (Gv xs ys)) H
theorem items_eqAt {A:Around}{s:Shared}{xs ys:List V}{us ws:List Value} (r1:Vals xs us) (r2:Vals ys ws) (f1:xs.all iL=true) (f2:ys.all iL=true) (j:Nat) (h1:j < us.toArray.size) (h2:j < ws.toArray.size) :
  SeqAt.EqAt A s us.toArray[j] ws.toArray[j] (Vs xs ys j):=by
 have hl1:=r1.length
 have hl2:=r2.length
 have hj1:j < xs.length:=by rw[hl1];simpa using h1
 have hj2:j < ys.length:=by rw[hl2];simpa using h2
 obtain⟨u,eu,ru⟩:=r1.get (i:=j) (x:=xs[j]) (by simp[hj1])
 obtain⟨w,ew,rw'⟩:=r2.get (i:=j) (x:=ys[j]) (by simp[hj2])
 have e1:us.toArray[j]=u:=by
  have:=List.getElem?_eq_some_iff.mp eu
  obtain⟨_,q⟩:=this
  simpa using q
 have e2:ws.toArray[j]=w:=by
  have:=List.getElem?_eq_some_iff.mp ew
  obtain⟨_,q⟩:=this
  simpa using q
 rw[e1,e2]
 have e3:Vs xs ys j=Gq xs[j] ys[j]:=by simp[Vs,hj1,hj2]
 rw[e3]
 exact PY ru rw' (List.all_eq_true.mp f1 _ (List.getElem_mem hj1)) (List.all_eq_true.mp f2 _ (List.getElem_mem hj2))
theorem Wk (K:W.Frag) (hK:X.K=K) (hu:X.A.units < cLine):pZ X (compareOp .Eq) (afu K):=by
 subst hK
 intro pins s σ H x y v u Q I rx ry h
 obtain⟨a,b,xs,ys,rfl,rfl,ha,hb,f1,f2,q⟩:=h
 cases rx
 cases ry
 obtain⟨its,r1,p1,_⟩:=I.tuple ha
 obtain⟨its2,r2,p2,_⟩:=I.tuple hb
 refine SeqAt.eq_tupleAt (e:=Vs xs ys) p1 p2 hu (fun j h1 h2=>items_eqAt r1 r2 f1 f2 j h1 h2) ⟨.bl _,H,I,?_,q⟩
 show Value.bool _=Value.bool _
 rw[List.size_toArray,List.size_toArray,←r1.length,←r2.length,Aq]
end
section
variable {X:Cx}{pins:List (Addr×Obj)}{σ:St}{H:Hp}{s:Shared}
end
section
variable {X:Cx}
def Wl (K:W.Frag):List V→Hp→VK→Prop:=fun xs H Q=>∃(a:Addr) (c:String) (ys:List V) (b:Bool),xs=[.ref a,.ty c]∧((ck K H a ys∧W.kitOne K (.type "tuple") (.type c)=some b)∨(bB K H a ys∧W.kitOne K (.type "list") (.type c)=some b))∧Q (.bl b) H
theorem Gw (K:W.Frag) (hK:X.K=K):iE X (.builtin "isinstance") (Wl K):=by
 subst hK
 intro pins s σ H xs us Q I r h
 obtain⟨a,c,ys,b,rfl,hk,q⟩:=h
 obtain⟨u,w',rfl,ru,rw'⟩:=vals2 r
 cases ru;cases rw'
 have fin:∀ tk,EP X pins σ Q (.bool b) { s with toks:=tk }:=fun tk=>⟨.bl b,H,I.tok tk,rfl,q⟩
 rcases hk with ⟨ha,e⟩ | ⟨ha,e⟩
 ·obtain⟨its,r1,p1,_⟩:=I.tuple ha
  obtain⟨o,h1,h2,_⟩:=p1
  exact W.kia_one W.kitx_tuple I.nU ⟨o,h1,h2⟩ e (fun z=>nomatch z) fin
 ·obtain⟨its,r1,p1,_⟩:=I.list ha
  obtain⟨o,h1,h2,_⟩:=p1.isList
  exact W.kia_one W.kitx_list I.nU ⟨o,h1,h2⟩ e (fun z=>nomatch z) fin
end
section
variable {X:Cx}
theorem mE {x:Str}{z:Int}{t:Tok}{pos:Pos} (hg:Gl X x) (hm:X.mg x=some (.int z t)) (hd:(x == ("__debug__" : Str))=false:=by decide):PE X (.Name x pos) (tC (.int z)):=D7 hg hm ⟨t,rfl⟩ hd
end
section
variable {X:Cx}{CX:MI}{k:Nat}{f C:Addr}{fd:FuncData}{ps ks:List Str}{sp:Sp}{E:XK}{x m:Str}{p pos apos kpos:Pos}{e o:Expr}{es:List Expr}{kws:List Keyword}{te ta:TE}{t tk:TA}{nm:Option Str}
 {g:List Value→List Value→List Value}{gV:List V→List V→List V}
end
section
variable {X:Cx}{pins:List (Addr×Obj)}{σ:St}{H:Hp}{s:Shared}
end
section
variable {X:Cx}
end
section
variable {X:Cx}{pins:List (Addr×Obj)}{σ:St}{H:Hp}{s:Shared}{h':Heap}
theorem Inv.LQ {t':Nat}{wr:List Addr} (I:Inv X pins σ H s) (k:∀ b o,b∉wr→s.heap.get? b=some o→h'.get? b=some o) (hf:∀ it∈wr,vp X pins H it):Inv X pins σ H { s with heap:=h',toks:=t' }:=by
 have ZF:∀ b u,H b=some u→b∉wr:=fun b u e z=>by rw[(hf b z).1] at e;cases e
 have hL:X.env.locals∉wr:=fun z=>(hf _ z).2.1 rfl
 refine I.step (g':=s.gens) (d':=s.drawn) (ch:=wr) (fun b hb=>?_) (fun b o _ _ hc e _=>k b o hc e) (fun b o _ _ hc e _=>⟨o.slots,k b o hc e⟩) (fun _ _ _ _ n=>n)
  (fun b o hc e=>⟨o,k b o hc e⟩) (fun _ _ e=>e) (fun _ _ _ e=>e) (fun b ps e=>⟨#[],by rw[e];simp⟩) (fun m hm=>?_) (fun b u e=>?_) I.bare
 ·obtain⟨f0,f1,f2,f3,f4,f5⟩:=hf b hb
  exact⟨f3,f1,f4,f5⟩
 ·obtain⟨o,es,ep,ho,r⟩:=hm
  exact⟨o,es,ep,k _ o hL ho,r⟩
 ·refine(I.hok b u e).stay (fun c v hc q=>k c v ?_ q) (fun _ q=>q) fun _ _ q=>q
  rcases hc with z | z
  ·rw[z];exact ZF b u e
  ·exact ZF c _ z
end
def hmid (h h2:Heap):Heap:=⟨h.objs++(h2.objs.toList.drop h.objs.size).toArray,h2.life⟩
theorem Qj {h h2:Heap}{a:Addr} (ha:a < h.objs.size):(hmid h h2).get? a=h.get? a:=by
 have e:(hmid h h2).objs[a]? = h.objs[a]? := Array.getElem?_append_left ha
 unfold Heap.get?
 rw[e]
theorem Qk {h h2:Heap}{a:Addr} (ha:h.objs.size≤a):(hmid h h2).get? a=h2.get? a:=by
 have e:(hmid h h2).objs[a]? = h2.objs[a]? := by
  show(h.objs++(h2.objs.toList.drop h.objs.size).toArray)[a]? = _
  rw[Array.getElem?_append_right ha,List.getElem?_toArray,List.getElem?_drop,Array.getElem?_toList]
  congr 1
  omega
 unfold Heap.get?
 rw[e]
theorem Dw {X:Cx}{pins:List (Addr×Obj)}{σ:St}{H:Hp}{s:Shared}{E:Value→Shared→Prop}{it:Addr}{fpW wr fp:List Addr}{n:Nat}{Pt:Nat→Array Value→Prop}{Zh:Nat→Heap→Prop}{Mid:Nat→Addr→Heap→Prop}{elts:List Expr}{k:Nat}{pos:Pos}{J:It}{tn:Nat→Heap→Prop}{i:Nat}
  (W:WalksT X.prog X.w X.A it fpW wr n Pt Zh Mid) (I:Inv X pins σ H s) (hfp:∀ b∈fp,vp X pins H b) (hwr:∀ b∈wr,b∈fp) (hsz:∀ b∈fp,b < s.heap.objs.size) (hi:i < n) (hst:Zh i s.heap)
  (hv:∀ vals,Pt i vals→∃ vs:List V,vs.length≤sizeLine∧Vals vs vals.toList∧∀ T,H T=none→J.SN i H (.ref T) (upd H T (.tup vs))) (htn:∀ h,Zh (i+1) h→tn (i+1) h) :
  wpAny (model X.prog X.w) X.A (pyNext (.ref it)) (fun r s1=>∃ u,r=some u ∧
   wpAny (model X.prog X.w) X.A (letOwnedTupleGo (.Tuple elts k pos) (.ref it) u) (fun _ s2=>∃ x H',Inv X pins σ H' s2∧RelV x u∧J.SN i H x H'∧tn (i+1) s2.heap∧∀ b∈fp,H' b=none) E s1) E s:=by
 refine W.item i s _ E hi hst fun T vals h1 tk hPt hT afv aae hk=>⟨.ref T,rfl,?_⟩
 have hap:=W.apart i T h1 aae
 refine W.go elts k pos i T _ _ E aae fun h2 hSt hk2=>?_
 obtain⟨vs,hlen,aaf,hy⟩:=hv vals hPt
 have hTn:H T=none:=I.hok.fresh hT
 obtain⟨o,ho,hoc,m,hod⟩:=afv
 have ho2:h2.get? T=some o:=hk2 T o hap ho
 have I1:Inv X pins σ (upd H T (.tup vs)) { s with heap:=hmid s.heap h2,toks:=tk }:=by
  refine I.laid (fun b u e=>(Qj (Heap.lt_size e)).trans e) hT ?_
  refine⟨hlen,vals.toList,aaf,⟨o,(Qk hT).trans ho2,hoc,m,?_⟩⟩
  rw[hod]
 have hne:∀ b∈fp,b≠T:=fun b hb e=>by
  have:=hsz b hb
  rw[e] at this
  exact absurd this (Nat.not_lt.mpr hT)
 have I2:=I1.LQ (h':=h2) (t':=tk) (wr:=wr) (fun b ob hb e=>?_) (fun b hb=>?_)
 ·exact⟨.ref T,_,I2,rfl,hy T hTn,htn _ hSt,fun b hb=>(aF (hne b hb)).trans (hfp b hb).1⟩
 ·by_cases hlt:b < s.heap.objs.size
  ·have e:s.heap.get? b=some ob:=(Qj hlt).symm.trans e
   exact hk2 b ob hb (hk b ob hb e)
  ·exact(Qk (Nat.le_of_not_lt hlt)).symm.trans e
 ·have f:=hfp b (hwr b hb)
  exact⟨(aF (hne b (hwr b hb))).trans f.1,f.2⟩
theorem Dy {X:Cx}{pins:List (Addr×Obj)}{σ:St}{H:Hp}{s:Shared}{E:Value→Shared→Prop}{it:Addr}{fpW wr fp:List Addr}{n:Nat}{Pt:Nat→Array Value→Prop}{Zh:Nat→Heap→Prop}{Mid:Nat→Addr→Heap→Prop}
  (W:WalksT X.prog X.w X.A it fpW wr n Pt Zh Mid) (I:Inv X pins σ H s) (hfp:∀ b∈fp,vp X pins H b) (hwr:∀ b∈wr,b∈fp) (hst:Zh n s.heap) :
  wpAny (model X.prog X.w) X.A (pyNext (.ref it)) (fun r s1=>r=none∧Inv X pins σ H s1) E s :=
 W.done s _ E hst fun h1 tk hk=>⟨rfl,I.LQ (h':=h1) (t':=tk) (wr:=wr) hk fun b hb=>hfp b (hwr b hb)⟩
theorem Wm (I l1 l2:Nat) (h1:@LT.lt Nat _ l1 I) (h2:@LT.lt Nat _ l2 I):ZipApart (I+4) (I+2) (I+3) I (I+1) l1 l2:=by
 constructor <;> (intro e;have e':=@id (@Eq Nat _ _) e;omega)
def Zi (K:W.Frag) (a:Addr):It :=
 ⟨fun i H=>∃ xs x,bB K H a xs∧xs[i]? = some x,
  fun i H v H'=>∃ t x,H t=none∧v=.ref t∧H'=upd H t (.tup [.int i,x])∧∀ xs,bB K H a xs→xs[i]? = some x,
  fun i H=>∃ xs,bB K H a xs∧xs.length=i⟩
theorem MQ {P:Program}{w:World}{K:W.Frag}{elts:List Expr}{k:Nat}{pos:Pos}{e it l:Addr} (hei:e≠it) (hle:l≠e) (hli:l≠it) :
  Turn P w K (.Tuple elts k pos) (Zi K l) [e,it] e (fun i h=>(∃ old,IsEnum h e it i old)∧h.IsListIter it l i) where
 mem:=by simp
 obj:=fun i h st b hb=>by
  obtain⟨⟨old,he⟩,⟨o1,e1,c1,d1⟩⟩:=st
  simp only[List.mem_cons,List.mem_nil_iff,or_false] at hb
  rcases hb with rfl | rfl
  ·exact⟨_,he,fun v q=>by cases q⟩
  ·exact⟨_,e1,fun v q=>by rw[d1] at q;cases q⟩
 keep:=fun i h h' st k=>by
  obtain⟨⟨old,he⟩,q1⟩:=st
  exact⟨⟨old,k e (by simp) _ he⟩,q1.at fun o x=>k it (by simp) o x⟩
 item:=by
  intro X hP hw hK hc i pins s σ H E I hf st hg
  subst hP hw hK
  obtain⟨xs,x,hx,ex⟩:=hg
  obtain⟨its,rv,p,hz⟩:=I.list hx
  obtain⟨u,hu,ru⟩:=rv.get ex
  obtain⟨s1,s2⟩:=id st
  have W:=WalksT.enumerate (prog:=X.prog) (w:=X.w) (A:=X.A) (I.ok.hd hc) e it l hei hle hli its.toArray
  refine Dw (J:=Zi X.K l) (tn:=fun i h=>(∃ old,IsEnum h e it i old)∧h.IsListIter it l i) W I hf (fun b hb=>hb) ?_ ?_ ?_ ?_ ?_
  ·intro b hb
   simp only[List.mem_cons,List.mem_nil_iff,or_false] at hb
   obtain⟨old,s1⟩:=s1
   obtain⟨o1,e1,_⟩:=s2
   rcases hb with rfl | rfl
   ·exact Heap.lt_size s1
   ·exact Heap.lt_size e1
  ·have h1:=(List.getElem?_eq_some_iff.mp hu).1
   simpa using h1
  ·exact⟨s1,s2,p.isList⟩
  ·intro vals hp
   obtain⟨t,v1,e1,rfl⟩:=hp
   have e1:its[i]? = some v1:=by simpa using e1
   rw[hu] at e1;cases e1
   exact⟨[.int i,x],(by show 2≤sizeLine;decide),.cons ⟨_,rfl⟩ (.cons ru .nil),fun T hT=>⟨T,x,hT,rfl,rfl,fun zs hz=>by rw[I.Ac hz hx];exact ex⟩⟩
  ·exact fun h q=>⟨q.1,q.2.1⟩
 done:=by
  intro X hP hw hK hc i pins s σ H E I hf st hg
  subst hP hw hK
  obtain⟨xs,hx,hlen⟩:=hg
  obtain⟨its,rv,p,hz⟩:=I.list hx
  obtain⟨s1,s2⟩:=id st
  have e':i=its.toArray.size:=by rw[List.size_toArray,←rv.length,hlen]
  subst e'
  have W:=WalksT.enumerate (prog:=X.prog) (w:=X.w) (A:=X.A) (I.ok.hd hc) e it l hei hle hli its.toArray
  exact Dy W I hf (fun b hb=>hb) ⟨s1,s2,p.isList⟩
 self:=fun _ _ _ _ _ st h=>by
  obtain⟨⟨old,he⟩,_⟩:=st
  exact wpAny_pyIter_enum he h
def aag (K:W.Frag) (ta:TA):TI:=fun σ H R=>ta σ H fun vs H1=>∃ a,vs=[.ref a]∧(∃ xs,bB K H1 a xs)∧R (Zi K a) H1
theorem Ql {X:Cx}{elts:List Expr}{k:Nat}{tpos:Pos}{a:Expr}{ta:TA}{p pos:Pos} (K:W.Frag) (hK:X.K=K) (hg:Gl X "enumerate") (hm:X.mg "enumerate" = none) (ha:PA X [a] ta) (hs:starEach [a] X.env=[(false,eval a X.env)]:=by rfl) :
  PI X (.Tuple elts k tpos) (.Call (.Name "enumerate" p) [a] [] pos) (aag K ta):=by
 subst hK
 intro pins s σ H R I h
 refine Call_ (uF I hg hm (u:=.type "enumerate") (by decide +kernel) (PyProof.Rows.callWith_type1 (dF (ha pos pins s σ H _ I h) fun us s1 ⟨vs,H1,I1,r1,q1⟩=>?_) hs rfl))
 obtain⟨l,e,⟨xs,hx⟩,q⟩:=q1
 subst e
 cases r1 with
 | cons r rr =>
  cases rr
  cases r
  obtain⟨its,rv,pl,hz⟩:=I1.list hx
  have hlt:l < s1.heap.objs.size:=by obtain⟨o,ho,_⟩:=pl.isList;exact Heap.lt_size ho
  refine call_enumerate_list pl.isList fun h' hE hI hsz hk=>?_
  refine wpAny_pyIter_enum hE ?_
  have I2:Inv X pins σ H1 { s1 with heap:=h' }:=I1.kept (t':=s1.toks) fun b o e=>hk b o e
  refine⟨s1.heap.objs.size+1,_,_,_,H1,rfl,I2,MQ (Nat.succ_ne_self _) (Nat.ne_of_lt (Nat.lt_succ_of_lt hlt)) (Nat.ne_of_lt hlt),⟨⟨_,hE⟩,hI⟩,fun b hb=>?_,q⟩
  have hb':s1.heap.objs.size≤b:=by
   simp only[List.mem_cons,List.mem_nil_iff,or_false] at hb
   rcases hb with rfl | rfl
   ·exact Nat.le_add_right _ _
   ·exact Nat.le_refl _
  exact I1.Ag hb' (I1.hok.fresh hb')
theorem Qm {K:W.Frag}{a:Addr}{xs:List V}{g:TG}{tb:TS}{D:Ends}{σ:St}{H:Hp} (Pv:Nat→St→Hp→Prop) (h0:Pv 0 σ H) (hl:∀ i σ H,i≤xs.length→Pv i σ H→bB K H a xs)
  (hs:∀ i x t σ H,xs[i]? = some x→H t=none→Pv i σ H→g (.ref t) σ (upd H t (.tup [.int i,x])) fun σ2 H2=>tb { D with nx:=Pv (i+1),ct:=Pv (i+1),bk:=D.nx } σ2 H2) (hd:∀ σ H,Pv xs.length σ H→D.nx σ H) :
  ∃ W:Nat→Nat→St→Hp→Prop,(∃ m,W 0 m σ H)∧∀ i m σ H,W i m σ H →
   ((Zi K a).stop i H∧D.nx σ H)∨((Zi K a).go i H∧∃ N:St→Hp→Prop,(∀ σ' H',N σ' H'→∃ m',m' < m∧W (i+1) m' σ' H')∧∀ x H',(Zi K a).SN i H x H'→g x σ H' fun σ2 H2=>tb { D with nx:=N,ct:=N,bk:=D.nx } σ2 H2):=by
 refine⟨fun i m σ H=>m=xs.length - i∧i≤xs.length∧Pv i σ H,⟨xs.length,by simp,Nat.zero_le _,h0⟩,?_⟩
 rintro i m σ H ⟨rfl,hi,p⟩
 have q:=hl i σ H hi p
 by_cases hlt:i < xs.length
 ·refine .inr ⟨⟨xs,xs[i],q,by simp[hlt]⟩,Pv (i+1),fun σ' H' p'=>⟨xs.length - (i+1),by omega,rfl,hlt,p'⟩,fun v H' y=>?_⟩
  obtain⟨t,x,ht,e1,e2,ex⟩:=y
  subst e1 e2
  exact hs i x t σ _ (ex xs q) ht p
 ·have e:i=xs.length:=by omega
  subst e
  exact .inl ⟨⟨xs,q,rfl⟩,hd σ H p⟩
def aah (K:W.Frag):List V→Hp→VK→Prop:=fun xs H Q=>∃(p:Addr) (ns:List Nat),xs=[.ref p]∧bB K H p (ns.map fun n:Nat=>V.int n)∧ns.sum < 1000000∧Q (.int (ns.sum:Nat)) H
theorem pre_take (ns:List Nat):∀ k,k≤ns.length→preSum (fun i=>((ns.getD i 0:Nat):Int)) k=((ns.take k).sum:Nat)
 | 0,_=>rfl
 | k+1,h=>by
  show preSum _ k+((ns.getD k 0:Nat):Int)=_
  rw[pre_take ns k (by omega)]
  have hk:k < ns.length:=by omega
  rw[List.take_succ,List.getElem?_eq_getElem hk,List.sum_append]
  simp[List.getD,List.getElem?_eq_getElem hk]
theorem rK (ns:List Nat) (k:Nat):(ns.take k).sum≤ns.sum:=by
 have e:=congrArg List.sum (List.take_append_drop k ns)
 rw[List.sum_append] at e
 omega
theorem vA:∀{ns:List Nat}{us:List Value}{i:Nat}{v:Value},Vals (ns.map fun n:Nat=>V.int n) us→us[i]? = some v→∃ t,v=.int (ns.getD i 0:Nat) t
 | [],_,i,v,r,e=>by cases r;simp at e
 | n :: ns,_,0,v,r,e=>by
  cases r with
  | cons r1 r2 =>
   simp at e
   subst e
   obtain⟨t,e⟩:=r1
   exact⟨t,by simpa using e⟩
 | n :: ns,_,i+1,v,r,e=>by
  cases r with
  | cons r1 r2 =>
   obtain⟨t,e2⟩:=vA r2 (i:=i) (v:=v) (by simpa using e)
   exact⟨t,by simpa using e2⟩
theorem MR {X:Cx} (hc:X.calm=true):iE X (.builtin "sum") (aah X.K):=by
 intro pins s σ H xs us Q I r h
 obtain⟨p,ns,rfl,hq,hs,q⟩:=h
 obtain⟨u,rfl,ru⟩:=vals1 r
 cases ru
 obtain⟨its,rv,pl,hz⟩:=I.list hq
 have hlen:=rv.length
 rw[List.length_map] at hlen
 have hpl:p < s.heap.objs.size:=by obtain⟨o,ho,_⟩:=pl.isList;exact Heap.lt_size ho
 refine call_sum_walk (wpAny_pyIter_list pl.isList ⟨s.heap.objs.size,_,_,_,_,_,fun i=>((ns.getD i 0:Nat):Int),rfl,Walks.list (A:=X.A.in1) (show X.A.in1.handled=none from I.ok.hd hc) s.heap.objs.size p (Nat.ne_of_lt hpl) its.toArray,⟨⟨_,Heap.get?_push_size _ rfl,rfl,rfl⟩,pl.isList.at fun o e=>Heap.get?_push_of_some _ e⟩,?_,?_,?_,?_⟩)
 ·intro b hb
  have e:b=s.heap.objs.size∨b=p:=by simpa using hb
  show b < (s.heap.push _).objs.size
  rw[Heap.size_push]
  rcases e with rfl | rfl
  ·exact Nat.lt_succ_self _
  ·exact Nat.lt_succ_of_lt hpl
 ·intro i v hv
  exact vA rv (by simpa using hv)
 ·intro j hj
  have hj':j < ns.length:=by rw[hlen];simpa using hj
  have h1:=rK ns (j+1)
  have h2:ns.getD j 0≤ns.sum:=by
   have:=rK ns (j+1)
   rw[List.take_succ,List.getElem?_eq_getElem hj',List.sum_append] at this
   simp[List.getD,List.getElem?_eq_getElem hj'] at this ⊢
   omega
  rw[pre_take ns (j+1) (by omega)]
  show InLong ((ns.getD j 0:Nat):Int)∧_
  constructor <;> (unfold InLong;constructor <;> omega)
 ·intro h' tk t' hk
  have f0:=I.Ag (Nat.le_refl s.heap.objs.size) (I.hok.fresh (Nat.le_refl _))
  have I2:Inv X pins σ H { s with heap:=s.heap.push { cls:=.type "list_iterator",data:=.fields #[.ref p,rawInt 0] } }:=I.kept (t':=s.toks) fun b o e=>Heap.get?_push_of_some _ e
  have I3:=I2.turned (h':=h') (t':=tk) (it:=s.heap.objs.size) (fun b o hb e=>hk b o (by simpa using hb) e) f0.1 f0.2.1 f0.2.2.2.1 f0.2.2.2.2.1 f0.2.2.2.2.2
  refine⟨.int (ns.sum:Nat),H,I3,⟨t',?_⟩,q⟩
  rw[List.size_toArray,←hlen,pre_take ns _ (Nat.le_refl _),List.take_of_length_le (Nat.le_refl _)]
theorem mS {X:Cx} (K:W.Frag) (h:X.K=K) (hc:X.calm=true):iE X (.builtin "sum") (aah K):=by subst h;exact MR hc
theorem Ar {y:V}:∀{xs:List V}{us:List Value},Vals xs us→xs.all iL=true→us.countP (PZ y)=xs.countP (fun z=>Gq z y)
 | _,_,.nil,_=>rfl
 | x :: xs,u :: us,.cons r t,f=>by
  rw[List.all_cons,Bool.and_eq_true] at f
  rw[List.countP_cons,List.countP_cons,Ar t f.2,Jd r f.1]
section
variable {X:Cx}
def LR (K:W.Frag):V→List V→Hp→VK→Prop:=fun x vs H Q=>∃(p:Addr) (xs:List V) (y:V),x=.ref p∧vs=[y]∧bB K H p xs∧iL y=true∧xs.all iL=true∧Q (.int (xs.countP fun z=>Gq z y:Nat)) H
theorem MS:V7 X "list.count" (LR X.K):=by
 intro pins s σ H x vs v us Q I rx rv h
 obtain⟨p,xs,y,rfl,rfl,hq,fy,fs,q⟩:=h
 cases rx
 obtain⟨u,rfl,ru⟩:=rv.one
 obtain⟨its,r,pl,_⟩:=I.list hq
 obtain⟨⟨cls,dd,data,sl⟩,ho,hc,n,hd⟩:=pl.isList
 simp only at hc hd
 subst hc hd
 refine call_meets F.slot_list_count ⟨_,ho,rfl⟩ F.entry_list_count (F.args_list_count_2 _ _) (SeqAt.list_countAt p its.toArray n dd sl u (PZ y)) ⟨ho,fun w hw=>vz ru fy r fs w (by simpa using hw),?_⟩
 refine⟨.int _,H,I.tok _,⟨_,rfl⟩,?_⟩
 rw[show its.toArray.toList=its from rfl,Ar r fs]
 exact q
theorem Jk (K:W.Frag) (h:X.K=K):V7 X "list.count" (LR K):=by subst h;exact MS
def afw (K:W.Frag):R2:=fun x y H Q=>∃ a b xs,x=.ref a∧y=.ref b∧bB K H a xs∧bB K H b []∧Q (.bl xs.isEmpty) H
theorem Wn (K:W.Frag) (hK:X.K=K) (hu:X.A.units < cLine):pZ X (compareOp .Eq) (afw K):=by
 subst hK
 intro pins s σ H x y v u Q I rx ry h
 obtain⟨a,b,xs,rfl,rfl,ha,hb,q⟩:=h
 cases rx
 cases ry
 obtain⟨its,r1,p1,_⟩:=I.list ha
 obtain⟨its2,r2,p2,_⟩:=I.list hb
 cases r2
 show wpAny _ _ (richCompare .Eq (.ref a) (.ref b)) _ _ _
 cases xs with
 | nil =>
  cases r1
  refine SeqAt.RcAt.lists (e:=fun _=>true) p1.isList p2.isList rfl hu (fun j h1 _=>absurd h1 (by simp)) _ _ _ _ ⟨.bl true,H,I,?_,q⟩
  simp[RelV]
 | cons x xs =>
  cases r1 with
  | cons r rr =>
   exact SeqAt.RcAt.lists_lengths p1.isList p2.isList (by simp) hu _ _ _ _ ⟨.bl false,H,I,rfl,q⟩
def rL (z:Str) (n:Nat):Str:=⟨(List.replicate n z.cps).foldl (· ++ ·) #[]⟩
end
section
variable {X:Cx}
end
section
variable {prog:Program}{w:World}{A:Around}{E:Value→Shared→Prop}{s:Shared}
end
section
variable {prog:Program}{w:World}{A:Around}{E:Value→Shared→Prop}{s:Shared}
end
section
variable {prog:Program}{w:World}{A:Around}{E:Value→Shared→Prop}{s:Shared}
end
section
variable {X:Cx}
theorem any_range (bs:List Bool):((List.range bs.length).any fun i=>bs.getD i true)=bs.any id:=by
 rw[Bool.eq_iff_iff,List.any_eq_true,List.any_eq_true]
 constructor
 ·rintro⟨i,hi,h⟩
  have hi':i < bs.length:=by simpa using hi
  exact⟨bs[i],List.getElem_mem hi',by simpa [List.getD,hi'] using h⟩
 ·rintro⟨b,hb,h⟩
  obtain⟨i,hi,rfl⟩:=List.mem_iff_getElem.mp hb
  exact⟨i,by simpa using hi,by simpa [List.getD,hi] using h⟩
def aai (K:W.Frag):List V→Hp→VK→Prop:=fun xs H Q=>∃(p:Addr) (bs:List Bool),xs=[.ref p]∧bB K H p (bs.map V.bl)∧Q (.bl (bs.any id)) H
theorem Qn (hc:X.calm=true):iE X (.builtin "any") (aai X.K):=by
 intro pins s σ H xs us Q I r h
 obtain⟨p,bs,rfl,hq,q⟩:=h
 obtain⟨u,rfl,ru⟩:=vals1 r
 cases ru
 obtain⟨its,rv,pl,hz⟩:=I.list hq
 have hlen:=rv.length
 rw[List.length_map] at hlen
 have hpl:p < s.heap.objs.size:=by obtain⟨o,ho,_⟩:=pl.isList;exact Heap.lt_size ho
 refine call_any_walk (wpAny_pyIter_list pl.isList ⟨s.heap.objs.size,_,_,_,_,_,fun i=>bs.getD i true,rfl,Walks.list (A:=X.A.in1) (show X.A.in1.handled=none from I.ok.hd hc) s.heap.objs.size p (Nat.ne_of_lt hpl) its.toArray,⟨⟨_,Heap.get?_push_size _ rfl,rfl,rfl⟩,pl.isList.at fun o e=>Heap.get?_push_of_some _ e⟩,?_,?_⟩)
 ·intro i v s' Q' E' hv hq'
  have e:its[i]? = some v:=by simpa using hv
  rw[rJ rv e]
  exact wpAny_truthy_bool hq'
 ·intro h' tk hk
  have f0:=I.Ag (Nat.le_refl s.heap.objs.size) (I.hok.fresh (Nat.le_refl _))
  have I2:Inv X pins σ H { s with heap:=s.heap.push { cls:=.type "list_iterator",data:=.fields #[.ref p,rawInt 0] } }:=I.kept (t':=s.toks) fun b o e=>Heap.get?_push_of_some _ e
  have I3:=I2.turned (h':=h') (t':=tk) (it:=s.heap.objs.size) (fun b o hb e=>hk b o (by simpa using hb) e) f0.1 f0.2.1 f0.2.2.2.1 f0.2.2.2.2.1 f0.2.2.2.2.2
  refine⟨.bl (bs.any id),H,I3,?_,q⟩
  show Value.bool _=Value.bool _
  rw[List.size_toArray,←hlen,any_range]
theorem MT (K:W.Frag) (h:X.K=K) (hc:X.calm=true):iE X (.builtin "any") (aai K):=by subst h;exact Qn hc
end
section
variable {X:Cx}{pins:List (Addr×Obj)}{σ:St}{H:Hp}{s:Shared}
end
section
variable {X:Cx}
end
structure rA (prog:Program) (w:World) (K:Type) [DecidableEq K] where
 is:Heap→K→Value→Prop
 hash:K→Int
 draws:K→Nat
 jm:Nat
 inj:∀{h:Heap}{v:Value}{x y:K},is h x v→is h y v→x=y
 keeps:∀{h h':Heap}{k:K}{v:Value}{d:Addr}{o:Obj}{es ep},is h k v→h.get? d=some o→o.data=.dict es ep→Heap.SameBut d h h'→is h' k v
 pyHash:∀{A:Around}{E:Value→Shared→Prop}{s:Shared}{k:K}{v:Value}{Q:Int→Shared→Prop},A.units+jm < cLine→is s.heap k v→Q (hash k) { s with toks:=s.toks+draws k }→wpAny (model prog w) A (PySem.pyHash v) Q E s
 eq:∀{A:Around}{s:Shared}{x y:K}{u v:Value},A.units+jm < cLine→is s.heap x u→is s.heap y v→SeqAt.EqAt A s u v (decide (x=y))
 quiet:∀{A:Around}{E:Value→Shared→Prop}{s:Shared}{k:K}{v:Value}{Q:Bool→Shared→Prop}{n:Nat},jm≤n→is s.heap k v→Q true s→wpAny (model prog w) A (eqIsQuiet n v) Q E s
section
variable {prog:Program}{w:World}{K:Type} [DecidableEq K] (V:rA prog w K)
def TupIs (h:Heap) (ks:List K) (a:Addr):Prop:=∃ o items n,h.get? a=some o∧o.cls=.type "tuple"∧o.data=.seq items n∧Paired (fun k v=>V.is h k v) ks items.toList
def zU (ks:List K):Int:=reduceHash (Builtin.Tuple.tupleHashOf (ks.map V.hash))
variable {V}
theorem TupIs.ty {s:Shared}{ks:List K}{a:Addr} (x:TupIs V s.heap ks a):s.TypeIs (.ref a) "tuple" := by obtain⟨o,_,_,ho,hc,_⟩:=x;exact⟨o,ho,hc⟩
theorem As {h:Heap}:∀{x y:List K}{vs:List Value},Paired (fun k v=>V.is h k v) x vs→Paired (fun k v=>V.is h k v) y vs→x=y
 | _,_,_,.nil,.nil=>rfl
 | _,_,_,.cons a r,.cons b q=>by rw[V.inj a b,As r q]
theorem TupIs.inj {h:Heap}{a:Addr}{x y:List K} (hx:TupIs V h x a) (hy:TupIs V h y a):x=y:=by
 obtain⟨o,items,n,ho,_,hd,hi⟩:=hx
 obtain⟨o',items',n',ho',_,hd',hi'⟩:=hy
 rw[ho] at ho'
 cases ho'
 rw[hd] at hd'
 cases hd'
 exact As hi hi'
theorem TupIs.keeps {h h':Heap}{ks:List K}{a d:Addr}{o:Obj}{es ep} (x:TupIs V h ks a) (ho:h.get? d=some o) (hd:o.data=.dict es ep) (hs:Heap.SameBut d h h'):TupIs V h' ks a:=by
 obtain⟨o',items,n,e1,e2,e3,e4⟩:=x
 have hne:a≠d:=fun e=>by
  subst e
  rw[e1] at ho
  cases ho
  rw[hd] at e3;cases e3
 exact⟨o',items,n,(hs.2 a hne).trans e1,e2,e3,Paired.MC e4 fun k v q=>V.keeps q ho hd hs⟩
variable {A:Around}{E:Value→Shared→Prop}{s:Shared}
theorem Gx {ks:List K}{a:Addr}{Q:Int→Shared→Prop} (hu:A.units+(V.jm+1) < cLine) (hk:TupIs V s.heap ks a) (h:Q (zU V ks) { s with toks:=s.toks+((ks.map V.draws).sum+1) }) :
  wpAny (model prog w) A (pyHash (.ref a)) Q E s:=by
 have hT:=hk.ty
 have jv:A.units < cLine:=by omega
 obtain⟨o,items,n,ho,_,hd,hi⟩:=hk
 unfold pyHash
 first | unfold pyHashByItsType | skip
 first | refine wpAny_bind (wpAny_cRoomFor_or (.inr jv) ?_) | skip
 refine wpAny_bind (wpAny_specialOf hT F.slot_tuple_hash.lookup ?_);show wpAny _ _ (if (some (Value.builtin "tuple.__hash__") == some Value.none)=true then _ else _) Q E s
 rw[if_neg (by rw[beq_builtin_none];exact Bool.false_ne_true)];refine wpAny_bind (wpAny_specialOf hT F.slot_tuple_hash.lookup ?_)
 show wpAny _ _ (callSpecialIfBoundUnlessNone? (.ref a) "__hash__" _ >>= _) Q E s;refine wpAny_bind (wpAny_callSpecialIfBoundUnlessNone?_slot hT F.slot_tuple_hash (wpAny_call_entry F.slot_tuple_hash hT F.entry_tuple_hash ?_ (F.args_tuple_hash_1 _)))
 have hu1:A.in1.units+V.jm < cLine:=by show A.units+1+V.jm < cLine;omega
 show wpAny _ _ (Builtin.Tuple.tupleItemsOf (.ref a) >>= _) _ _ s
 refine wpAny_bind (wpAny_tupleItemsOf ho hd (wpAny_bind ?_))
 rw[←Array.forIn_toList]
 refine wpAny_forIn_list _ (fun rest (b:Array Int) s'=>∃ done left,ks=done++left∧Paired (fun k v=>V.is s.heap k v) left rest∧b.toList=done.map V.hash∧s'={ s with toks:=s.toks+(done.map V.draws).sum }) _ ?_ ?_ _ _ ⟨[],ks,rfl,hi,rfl,rfl⟩
 ·rintro x rest b s' ⟨done,left,rfl,hl,hb,rfl⟩
  cases hl with
  | @cons k _ ks' _ h1 hl' =>
   have fin:∃ d l,done++k :: ks'=d++l∧Paired (fun k v=>V.is s.heap k v) l rest∧(b.push (V.hash k)).toList=d.map V.hash∧({ s with toks:=s.toks+(done.map V.draws).sum+V.draws k }:Shared)={ s with toks:=s.toks+(d.map V.draws).sum }:=⟨done++[k],ks',by simp,hl',by simp[hb],by simp[Nat.add_assoc]⟩
   refine wpAny_bind (V.pyHash hu1 h1 ?_)
   first
    | exact wpAny_pure fin
    | exact wpAny_bind (wpAny_pure (wpAny_pure fin))
 ·rintro b s' ⟨done,left,rfl,hl,hb,rfl⟩
  cases hl
  rw[List.append_nil] at h
  show wpAny _ _ (retInt (Builtin.Tuple.tupleHashOf b.toList)) _ _ _
  rw[hb]
  refine wpAny_ret_mkInt ?_
  generalize hz:Builtin.Tuple.tupleHashOf (done.map V.hash)=z
  unfold zU reduceHash at h
  rw[hz] at h
  show wpAny _ _ (if (decide (-(2:Int) ^ 63≤z) && decide (z < 2 ^ 63))=true then _ else _) Q E _
  by_cases hr:(decide (-(2:Int) ^ 63≤z) && decide (z < 2 ^ 63))=true
  ·rw[if_pos hr] at h ⊢
   exact wpAny_pure (by simpa [Nat.add_assoc] using h)
  ·rw[if_neg hr] at h ⊢
   exact wpAny_bind (wpAny_rule (wpAny_pure (by simpa [Nat.add_assoc] using h)))
theorem Au {x y:List K}:((List.range (min x.length y.length)).all (fun j=>decide (x[j]? = y[j]?)) && x.length == y.length)=decide (x=y):=by
 rw[Bool.eq_iff_iff,Bool.and_eq_true,List.all_eq_true,decide_eq_true_iff,beq_iff_eq]
 constructor
 ·rintro⟨q,hl⟩
  refine List.ext_getElem? fun i=>?_
  by_cases hi:i < x.length
  ·exact of_decide_eq_true (q i (List.mem_range.mpr (by omega)))
  ·rw[List.getElem?_eq_none (by omega),List.getElem?_eq_none (by omega)]
 ·rintro rfl
  exact⟨fun i _=>decide_eq_true rfl,rfl⟩
theorem nh {F:K→Value→Prop}:∀{ks:List K}{vs:List Value},Paired F ks vs→∀(j:Nat) v,vs[j]? = some v→∃ k,ks[j]? = some k∧F k v
 | _,_,.nil,j,v,h=>by simp at h
 | _,_,.cons a r,0,v,h=>by cases h;exact⟨_,rfl,a⟩
 | _,_,.cons a r,j+1,v,h=>by
  rw[List.getElem?_cons_succ] at h
  obtain⟨k,e,q⟩:=nh r j v h
  exact⟨k,by rw[List.getElem?_cons_succ];exact e,q⟩
theorem Qo {x y:List K}{a b:Addr} (hu:A.units+(V.jm+1) < cLine) (hx:TupIs V s.heap x a) (hy:TupIs V s.heap y b):SeqAt.EqAt A s (.ref a) (.ref b) (decide (x=y)):=by
 by_cases e:a=b
 ·subst e
  rw[decide_eq_true (hx.inj hy)]
  exact SeqAt.EqAt.same _
 ·obtain⟨o,items,n,h1,h2,h3,h4⟩:=hx
  obtain⟨o',items',n',h1',h2',h3',Zj⟩:=hy
  have l1:x.length=items.size:=by rw[Paired.length h4,Array.length_toList]
  have l2:y.length=items'.size:=by rw[Paired.length Zj,Array.length_toList]
  refine SeqAt.EqAt.of_refs e ?_
  rw[←Au,l1,l2]
  refine SeqAt.RcAt.tuples ⟨o,h1,h2,n,h3⟩ ⟨o',h1',h2',n',h3'⟩ (by omega) fun j j1 j2=>?_
  obtain⟨k,ek,hk⟩:=nh h4 j items[j] (by simp[j1])
  obtain⟨k',ek',hk'⟩:=nh Zj j items'[j] (by simp[j2])
  rw[ek,ek',show decide (some k=some k')=decide (k=k') by simp]
  exact V.eq (by show A.units+1+V.jm < cLine;omega) hk hk'
theorem Dz {ks:List K}{a:Addr}{Q:Bool→Shared→Prop}{n:Nat} (hn:V.jm+1≤n) (hk:TupIs V s.heap ks a) (h:Q true s):wpAny (model prog w) A (eqIsQuiet n (.ref a)) Q E s:=by
 have hT:=hk.ty
 obtain⟨o,items,m,ho,_,hd,hi⟩:=hk
 obtain⟨n,rfl⟩:∃ n',n=n'+1:=⟨n - 1,by omega⟩
 unfold eqIsQuiet
 refine wpAny_bind (wpAny_specialOf hT F.slot_tuple_eq.lookup ?_);show wpAny _ _ (isInstance (.ref a) (.type "tuple") >>= _) _ _ s
 refine wpAny_bind (wpAny_isInstance hT isSubtype_tuple_tuple ?_)
 simp only[Bool.not_true,Bool.false_eq_true,if_false]
 refine wpAny_bind (wpAny_seqItems ho hd (wpAny_bind ?_))
 show wpAny _ _ (forIn items _ _) _ _ s
 rw[←Array.forIn_toList]
 refine wpAny_forIn_list _ (fun rest r s'=>r.1=none∧s'=s∧∃ l,Paired (fun k v=>V.is s.heap k v) l rest) _ ?_ ?_ _ _ ⟨rfl,rfl,ks,hi⟩
 ·rintro v rest r s' ⟨hr,rfl,l,hl⟩
  cases hl with
  | @cons k _ ks' _ h1 hl' =>
   refine wpAny_bind (V.quiet (by omega) h1 ?_)
   simp only[Bool.not_true,Bool.false_eq_true,if_false]
   exact wpAny_pure ⟨rfl,rfl,ks',hl'⟩
 ·rintro⟨r1,r2⟩ s' ⟨hr,rfl,_⟩
  simp only at hr
  subst hr
  exact wpAny_pure h
end
abbrev Lf:=Option Key
def Gy:Lf→Value→Prop
 | none,v=>v=.none
 | some k,v=>yi k v=true
section
variable {prog:Program}{w:World}{A:Around}{E:Value→Shared→Prop}{s:Shared}
theorem MU {Q:Int→Shared→Prop} (hu:A.units < cLine) (h:Q 4238894112 { s with toks:=s.toks+1 }):wpAny (model prog w) A (pyHash .none) Q E s:=by
 have hT:s.TypeIs .none "NoneType" := rfl
 unfold pyHash
 first | unfold pyHashByItsType | skip
 first | refine wpAny_bind (wpAny_cRoomFor_or (.inr hu) ?_) | skip
 refine wpAny_bind (wpAny_specialOf hT F.slot_NoneType_hash.lookup ?_)
 show wpAny _ _ (if (some (Value.builtin "NoneType.__hash__") == some Value.none)=true then _ else _) Q E s
 rw[if_neg (by rw[beq_builtin_none];exact Bool.false_ne_true)];refine wpAny_bind (wpAny_specialOf hT F.slot_NoneType_hash.lookup ?_)
 show wpAny _ _ (callSpecialIfBoundUnlessNone? .none "__hash__" _ >>= _) Q E s
 refine wpAny_bind (wpAny_callSpecialIfBoundUnlessNone?_slot hT F.slot_NoneType_hash (wpAny_call_entry F.slot_NoneType_hash hT F.entry_NoneType_hash ?_ (F.args_NoneType_hash_1 _)))
 show wpAny _ _ (retInt 4238894112) _ _ _
 refine wpAny_ret_mkInt ?_
 show wpAny _ _ (if (decide (-(2:Int) ^ 63≤4238894112) && decide ((4238894112:Int) < 2 ^ 63))=true then _ else _) Q E _
 rw[if_pos (by decide)]
 exact wpAny_pure h
theorem oO {k:Key}{v:Value} (h:yi k v=true):(∃ i t,k=.inl i∧v=.int i t)∨∃ z t,k=.inr z∧v=.str z t:=dw h
theorem Qp (prog:Program) (w:World) {v:Value}{x y:Lf} (hx:Gy x v) (hy:Gy y v):x=y:=by
 cases x with
 | none =>
  cases y with
  | none=>rfl
  | some k=>rcases oO hy with ⟨i,t,rfl,e⟩ | ⟨z,t,rfl,e⟩ <;> (rw[show v=.none from hx] at e;cases e)
 | some k =>
  cases y with
  | none=>rcases oO hx with ⟨i,t,rfl,e⟩ | ⟨z,t,rfl,e⟩ <;> (rw[show v=.none from hy] at e;cases e)
  | some k'=>rw[(pW prog w).inj v k k' hx hy]
theorem Vt {x y:Lf}{u v:Value} (hx:Gy x u) (hy:Gy y v):SeqAt.EqAt A s u v (decide (x=y)):=by
 cases x with
 | none =>
  have hx:u=.none:=hx
  subst hx
  cases y with
  | none =>
   have hy:v=.none:=hy
   subst hy
   rw[decide_eq_true rfl];exact SeqAt.EqAt.same _
  | some k =>
   rw[decide_eq_false (by simp)]
   rcases oO hy with ⟨i,t,rfl,rfl⟩ | ⟨z,t,rfl,rfl⟩
   ·exact SeqAt.EqAt.none_int _ _
   ·exact SeqAt.EqAt.none_str _ _
 | some k =>
  cases y with
  | none =>
   have hy:v=.none:=hy
   subst hy
   rw[decide_eq_false (by simp)]
   rcases oO hx with ⟨i,t,rfl,rfl⟩ | ⟨z,t,rfl,rfl⟩
   ·exact SeqAt.EqAt.int_none _ _
   ·exact SeqAt.EqAt.str_none _ _
  | some k' =>
   rw[show decide (some k=some k')=decide (k=k') by simp]
   rcases oO hx with ⟨i,t,rfl,rfl⟩ | ⟨z,t,rfl,rfl⟩ <;> rcases oO hy with ⟨i',t',rfl,rfl⟩ | ⟨z',t',rfl,rfl⟩
   ·rw[Pe];exact SeqAt.EqAt.int_int _ _ _ _
   ·rw[Pg];exact SeqAt.EqAt.int_str _ _ _ _
   ·rw[Ph];exact SeqAt.EqAt.str_int _ _ _ _
   ·rw[Pf,show decide (z=z')=(z == z') by rw[Bool.eq_iff_iff,decide_eq_true_iff,beq_iff_eq]];exact SeqAt.EqAt.str_str _ _ _ _
theorem Jl {x:Lf}{v:Value} (h:Gy x v):carriedByValue v=true:=by
 cases x with
 | none=>rw[show v=.none from h];rfl
 | some k=>rcases oO h with ⟨i,t,rfl,rfl⟩ | ⟨z,t,rfl,rfl⟩ <;> rfl
end
def Qq (w:World):Lf→Int
 | none=>4238894112
 | some k=>ZD w k
def Gz (prog:Program) (w:World):rA prog w Lf where
 is:=fun _ k v=>Gy k v
 hash:=Qq w
 draws:=fun _=>1
 jm:=0
 inj:=fun hx hy=>Qp prog w hx hy
 keeps:=fun h _ _ _=>h
 pyHash:=fun {A E s k v Q} hu h q=>by
  cases k with
  | none =>
   have h:v=.none:=h
   subst h
   exact MU hu q
  | some k=>exact(pW prog w).pyHash h q
 eq:=fun _ hx hy=>Vt hx hy
 quiet:=fun {A E s k v Q n} _ h q=>by rw[eqIsQuiet_byValue n (Jl h)];exact wpAny_pure q
section
variable {prog:Program}{w:World}{K:Type} [DecidableEq K] (V:rA prog w K)
def Wo (h:Heap):Lf ⊕ List K→Value→Prop
 | .inl k,v=>Gy k v
 | .inr ks,v=>∃ a,v=.ref a∧TupIs V h ks a
def Wq:Lf ⊕ List K→Int
 | .inl k=>Qq w k
 | .inr ks=>zU V ks
def TL:Lf ⊕ List K→Nat
 | .inl _=>1
 | .inr ks=>(ks.map V.draws).sum+1
variable {V}
theorem Qs {k:Lf}{a:Addr} (h:Gy k (.ref a)):False:=by
 cases k with
 | none=>cases(show Value.ref a=.none from h)
 | some k=>rcases oO h with ⟨i,t,rfl,e⟩ | ⟨z,t,rfl,e⟩ <;> cases e
theorem aaj {A:Around}{s:Shared}{x y:Lf ⊕ List K}{u v:Value} (hu:A.units+(V.jm+1) < cLine) (hx:Wo V s.heap x u) (hy:Wo V s.heap y v):SeqAt.EqAt A s u v (decide (x=y)):=by
 cases x with
 | inl k =>
  cases y with
  | inl k' =>
   rw[show decide ((Sum.inl k:Lf ⊕ List K)=.inl k')=decide (k=k') by simp]
   exact Vt hx hy
  | inr ks =>
   obtain⟨a,rfl,o,items,n,h1,h2,h3,h4⟩:=hy
   rw[decide_eq_false (fun q=>nomatch q)]
   cases k with
   | none =>
    have hx:u=.none:=hx
    subst hx
    exact SeqAt.EqAt.none_tuple ⟨o,h1,h2,n,h3⟩ (by omega)
   | some k =>
    rcases oO hx with ⟨i,t,rfl,rfl⟩ | ⟨z,t,rfl,rfl⟩
    ·exact SeqAt.EqAt.int_tuple _ _ ⟨o,h1,h2,n,h3⟩ (by omega)
    ·exact SeqAt.EqAt.str_tuple _ _ ⟨o,h1,h2,n,h3⟩ (by omega)
 | inr ks =>
  obtain⟨a,rfl,hxa⟩:=hx
  cases y with
  | inl k' =>
   obtain⟨o,items,n,h1,h2,h3,h4⟩:=hxa
   rw[decide_eq_false (fun q=>nomatch q)]
   cases k' with
   | none =>
    have hy:v=.none:=hy
    subst hy
    exact SeqAt.EqAt.tuple_none ⟨o,h1,h2,n,h3⟩ (by omega)
   | some k =>
    rcases oO hy with ⟨i,t,rfl,rfl⟩ | ⟨z,t,rfl,rfl⟩
    ·exact SeqAt.EqAt.tuple_int _ _ ⟨o,h1,h2,n,h3⟩ (by omega)
    ·exact SeqAt.EqAt.tuple_str _ _ ⟨o,h1,h2,n,h3⟩ (by omega)
  | inr ks' =>
   obtain⟨b,rfl,hyb⟩:=hy
   rw[show decide ((Sum.inr ks:Lf ⊕ List K)=.inr ks')=decide (ks=ks') by simp]
   exact Qo hu hxa hyb
def stepK (V:rA prog w K):rA prog w (Lf ⊕ List K) where
 is:=Wo V
 hash:=Wq V
 draws:=TL V
 jm:=V.jm+1
 inj:=fun {h v x y} hx hy=>by
  cases x with
  | inl k =>
   cases y with
   | inl k'=>rw[Qp prog w hx hy]
   | inr ks=>obtain⟨a,rfl,_⟩:=hy;exact(Qs hx).elim
  | inr ks =>
   obtain⟨a,rfl,hxa⟩:=hx
   cases y with
   | inl k'=>exact(Qs hy).elim
   | inr ks'=>obtain⟨b,e,hyb⟩:=hy;cases e;rw[hxa.inj hyb]
 keeps:=fun {h h' k v d o es ep} hx ho hd hs=>by
  cases k with
  | inl k=>exact hx
  | inr ks=>obtain⟨a,rfl,hxa⟩:=hx;exact⟨a,rfl,hxa.keeps ho hd hs⟩
 pyHash:=fun {A E s k v Q} hu hx q=>by
  cases k with
  | inl k=>exact(Gz prog w).pyHash (by show A.units+0 < cLine;omega) hx q
  | inr ks=>obtain⟨a,rfl,hxa⟩:=hx;exact Gx hu hxa q
 eq:=fun hu hx hy=>aaj hu hx hy
 quiet:=fun {A E s k v Q n} hn hx q=>by
  cases k with
  | inl k=>exact(Gz prog w).quiet (Nat.zero_le _) hx q
  | inr ks=>obtain⟨a,rfl,hxa⟩:=hx;exact Dz hn hxa q
def yl (V:rA prog w K) (hl:V.jm+1≤8):HeapKind prog w (List K) where
 is:=TupIs V
 hash:=zU V
 draws:=fun ks=>(ks.map V.draws).sum+1
 room:=fun A=>A.units+(V.jm+1) < cLine
 inj:=fun hx hy=>hx.inj hy
 keeps:=fun x ho hd hs=>x.keeps ho hd hs
 pyHash:=fun hu hk h=>Gx hu hk h
 eqBool:=fun hu hx hy h=>Qo hu hx hy prog w _ _ h
 quiet:=fun hk h=>Dz hl hk h
end
section
variable {κ:Type} [DecidableEq κ]
theorem rj.DA {o:Option V}{u:Option Value} (r:rj o u):o.isSome=u.isSome:=by
 cases o with
 | none=>cases u with
  | none=>rfl
  | some _=>exact(show False from r).elim
 | some _=>cases u with
  | none=>exact(show False from r).elim
  | some _=>rfl
end
theorem aak {P:Program}{w:World}{k:Key}{u:Value} (r:RelV (kV k) u):(pW P w).is k u=true:=by
 cases k with
 | inl i=>obtain⟨t,e⟩:=(show ∃ t,u=Value.int i t from r);subst e;exact Gf P w i t
 | inr x=>obtain⟨t,e⟩:=(show ∃ t,u=Value.str x t from r);subst e;exact Gg P w x t
section
variable {P:Program}{w:World}{H:Hp}{h:Heap}{a:Addr}
end
section
variable {X:Cx}{pins:List (Addr×Obj)}{σ:St}{H:Hp}{s:Shared}{a:Addr}{y v:V}{u r:Value}{o:Option V}{A:Around}{E:Value→Shared→Prop}
theorem Inv.big (I:Inv X pins σ H s):sysModules < s.heap.objs.size:=by
 have h:mainGlobals < s.heap.objs.size:=(I.mod.glob.keeps I.bk).lt
 exact Nat.lt_trans (by decide) h
end
section
variable {X:Cx}{pins:List (Addr×Obj)}{σ:St}{H:Hp}{s:Shared}{a:Addr}{kvs:List (Key×V)}{k:Key}{u:Value}{A:Around}{E:Value→Shared→Prop}
end
def Wr (i:Expr):Prop:=∀ ov iv,subscripted i false ov iv=operate [ov,iv] (getItem ov iv)
theorem TM {prog:Program}{w:World}{A:Around}{E:Value→Shared→Prop}{s:Shared}{env:Env}{value slice:Expr}{pos:Pos}{T id:String}{Q:Value→Shared→Prop}
  (hl:typeLookup (.type T) "__getitem__" = pure (some (.builtin id))) (hs:Wr slice)
  (h:wpAny (model prog w) A (eval value env) (fun o s₁=>wpAny (model prog w) A (eval slice env) (fun i s₂=>s₂.TypeIs o T∧wpAny (model prog w) A (getItem o i) Q E s₂) E s₁) E s) :
  wpAny (model prog w) A (eval (.Subscript value slice pos) env) Q E s:=by
 refine Subscript_ (wpAny_mono h (fun o s₁ h₁=>wpAny_mono h₁ (fun i s₂ h₂=>?_) fun _ _ x=>x) fun _ _ x=>x)
 obtain⟨hT,h₂⟩:=h₂
 unfold subscriptTail
 refine wpAny_bind ?_
 rw[getitemInPython_of_ne hT.not_modules]
 refine wpAny_bind (wpAny_specialOf hT hl ?_)
 have fin:wpAny (model prog w) A (subscripted slice false o i) (fun r s₃=>wpAny (model prog w) A (letTemporaryGo value o r >>= fun _=>pure r) Q E s₃) E s₂:=by
  rw[hs o i]
  exact wpAny_operating (wpAny_mono h₂ (fun r s₃ h₃=>wpAny_bind (wpAny_letTemporaryGo (wpAny_pure h₃))) fun _ _ x=>x)
 first
  | exact wpAny_pure (wpAny_bind fin)
  | exact wpAny_bind (wpAny_pure (wpAny_bind fin))
  | exact wpAny_bind fin
section
variable {X:Cx}{o i e value:Expr}{pos pos' tpos:Pos}{td ty tv:TE}
end
section
variable {X:Cx}{pos:Pos}
end
section
variable {X:Cx}{pins:List (Addr×Obj)}{σ:St}{H:Hp}{s:Shared}{a:Addr}{y d:V}{u r:Value}{o:Option V}{A:Around}{E:Value→Shared→Prop}
end
section
variable {X:Cx}{o e f:Expr}{apos cpos:Pos}{td ty tx:TE}
end
section
variable {X:Cx}{pins:List (Addr×Obj)}{σ:St}{H:Hp}{s:Shared}{a:Addr}{kvs:List (Key×V)}{A:Around}{E:Value→Shared→Prop}
end
section
variable {X:Cx}{pins:List (Addr×Obj)}{σ:St}{H:Hp}{s:Shared}{a:Addr}{y:V}{u:Value}{A:Around}{E:Value→Shared→Prop}
end
def lfV:Lf→V
 | none=>.non
 | some k=>kV k
theorem ym {α β γ:Type}{F:α→β→Prop}{G:β→γ→Prop}:∀{xs:List α}{ys:List β}{zs:List γ},Paired F xs ys→Paired G ys zs→Paired (fun a c=>∃ b,F a b∧G b c) xs zs
 | _,_,_,.nil,.nil=>.nil
 | _,_,_,.cons a r,.cons b q=>.cons ⟨_,a,b⟩ (ym r q)
section
variable {P:Program}{w:World}{K:Type} [DecidableEq K]
structure t6 (F:W.Frag) (Z:rA P w K) where
 on:Hp→K→V→Prop
 ok:∀{X:Cx}{pins:List (Addr×Obj)}{σ:St}{H:Hp}{s:Shared}{k:K}{v:V}{u:Value},X.K=F→Inv X pins σ H s→RelV v u→on H k v→Z.is s.heap k u
 keep:∀{H H':Hp}{k:K}{v:V},(∀ b xs,ck F H b xs→ck F H' b xs)→on H k v→on H' k v
def uJ {F:W.Frag}{Z:rA P w K} (Y:t6 F Z) (H:Hp) (ks:List K) (b:Addr):Prop:=∃ vs,ck F H b vs∧Paired (fun k v=>Y.on H k v) ks vs
variable {F:W.Frag}{Z:rA P w K}{Y:t6 F Z}{H H':Hp}{ks:List K}{b:Addr}
theorem uJ.is {X:Cx}{pins:List (Addr×Obj)}{σ:St}{s:Shared} (hF:X.K=F) (I:Inv X pins σ H s) (e:uJ Y H ks b):TupIs Z s.heap ks b:=by
 obtain⟨vs,e,r⟩:=e
 obtain⟨its,rv,⟨o,h1,h2,n,h3⟩,_⟩:=I.tuple (by rw[hF];exact e)
 exact⟨o,its.toArray,n,h1,h2,h3,by simpa using Paired.MC (ym r rv) (fun k u ⟨v,a,c⟩=>Y.ok hF I c a)⟩
theorem uJ.keep (t:∀ b xs,ck F H b xs→ck F H' b xs) (e:uJ Y H ks b):uJ Y H' ks b:=by
 obtain⟨vs,e,r⟩:=e
 exact⟨vs,t _ _ e,Paired.MC r fun k v q=>Y.keep t q⟩
theorem uJ.mono (s:∀ a o,H a=some o→H' a=some o) (e:uJ Y H ks b):uJ Y H' ks b:=e.keep fun b xs q=>by
 rcases q with (q | ⟨o,q⟩) | q
 ·exact .inl (.inl (s _ _ q))
 ·exact .inl (.inr ⟨o,s _ _ q⟩)
 ·exact .inr q
end
def Qt (P:Program) (w:World) (F:W.Frag):t6 F (Gz P w) where
 on:=fun _ k v=>v=lfV k
 ok:=fun {X pins σ H s k v u} _ _ r e=>by
  subst e
  cases k with
  | none=>cases r;rfl
  | some k=>exact aak (P:=P) (w:=w) r
 keep:=fun _ e=>e
section
variable {P:Program}{w:World}{K:Type} [DecidableEq K]
def afx {F:W.Frag}{Z:rA P w K} (Y:t6 F Z) (H:Hp):Lf ⊕ List K→V→Prop
 | .inl k,v=>v=lfV k
 | .inr ks,v=>∃ b,v=.ref b∧uJ Y H ks b
def GA {F:W.Frag}{Z:rA P w K} (Y:t6 F Z):t6 F (stepK Z) where
 on:=afx Y
 ok:=fun {X pins σ H s k v u} hF I r e=>by
  cases k with
  | inl k=>exact(Qt P w F).ok hF I r e
  | inr ks =>
   obtain⟨b,rfl,e⟩:=e
   cases r
   exact⟨b,rfl,e.is hF I⟩
 keep:=fun {H H' k v} t e=>by
  cases k with
  | inl k=>exact e
  | inr ks=>obtain⟨b,rfl,e⟩:=e;exact⟨b,rfl,e.keep t⟩
abbrev N3 (K:Type):=List K×Addr×V
abbrev yS:List (N3 K)→List (List K×Addr×Value)→Prop:=Paired fun p q=>p.1=q.1∧p.2.1=q.2.1∧RelV p.2.2 q.2.2
def LS (Z:rA P w K) (hl:Z.jm+1≤8) (a:Addr) (kvs:List (N3 K)) (h:Heap):Prop :=
 kvs.length≤sizeLine∧(a == sysModules)=false∧∃ xs,yS kvs xs∧∃ o es ep,h.get? a=some o∧o.ExactDict∧o.data=.dict es ep∧es.toList=xs.map (entryOfKey (yl Z hl))∧(xs.map (·.1)).Nodup
def dN (Z:rA P w K) (hl:Z.jm+1≤8) (a:Addr) (kvs:List (N3 K)):HO:=.ext (LS Z hl a kvs)
structure Nd {F:W.Frag}{Z:rA P w K} (Y:t6 F Z) (hl:Z.jm+1≤8) (H:Hp) (a:Addr) (kvs:List (N3 K)):Prop where
 ob:H a=some (dN Z hl a kvs)
 keys:∀ e∈kvs,uJ Y H e.1 e.2.1
variable {F:W.Frag}{Z:rA P w K}{Y:t6 F Z}{hl:Z.jm+1≤8}{H H':Hp}{h:Heap}{a b:Addr}{kvs:List (N3 K)}
theorem Nd.mono (s:∀ a o,H a=some o→H' a=some o) (d:Nd Y hl H a kvs):Nd Y hl H' a kvs:=⟨s _ _ d.ob,fun e he=>(d.keys e he).mono s⟩
theorem Qu {xs:List (List K×Addr×Value)}:∀{kvs:List (N3 K)},yS kvs xs→∀ q∈xs,∃ p∈kvs,p.1=q.1∧p.2.1=q.2.1:=by
 intro kvs r
 induction r with
 | nil=>intro q hq;cases hq
 | cons a r ih =>
  intro q hq
  rcases List.mem_cons.mp hq with rfl | hq
  ·exact⟨_,List.mem_cons_self ..,a.1,a.2.1⟩
  ·obtain⟨p,hp,e⟩:=ih q hq
   exact⟨p,List.mem_cons_of_mem _ hp,e⟩
theorem Nd.of {X:Cx}{K:Type} [DecidableEq K] {F:W.Frag}{Z:rA X.prog X.w K}{Y:t6 F Z}{hl:Z.jm+1≤8}{H:Hp}{a:Addr}{kvs:List (N3 K)}{pins:List (Addr×Obj)}{σ:St}{s:Shared} (hF:X.K=F) (I:Inv X pins σ H s) (d:Nd Y hl H a kvs):kvs.length≤sizeLine∧(a == sysModules)=false∧∃ xs,yS kvs xs∧s.heap.DictOfH (yl Z hl) a xs:=by
 obtain⟨⟨z,y,xs,r,o,es,ep,h1,h2,h3,h4,h5⟩,_⟩:=(show eY X.prog X.w H s.heap a (dN Z hl a kvs) from I.hok a _ d.ob)
 refine⟨z,y,xs,r,o,es,ep,h1,h2,h3,h4,fun x hx=>?_,h5⟩
 obtain⟨p,hp,e1,e2⟩:=Qu r x hx
 have:=(d.keys p hp).is hF I
 rw[e1,e2] at this
 exact this
theorem Qv {h':Heap}{xs:List (List K×Addr×Value)} (z:kvs.length≤sizeLine) (y:(a == sysModules)=false) (r:yS kvs xs) (dd:h'.DictOfH (yl Z hl) a xs):eY P w H h' a (dN Z hl a kvs):=by
 obtain⟨o,es,ep,h1,h2,h3,h4,_,h5⟩:=dd
 refine⟨⟨z,y,xs,r,o,es,ep,h1,h2,h3,h4,h5⟩,⟨o,h1⟩,fun g1 g2 q k=>?_⟩
 obtain⟨z,y,xs,r,o,es,ep,h1,h2,h3,h4,h5⟩:=q
 exact⟨z,y,xs,r,o,es,ep,k _ h1,h2,h3,h4,h5⟩
def valN (kvs:List (N3 K)) (k:List K):Option V:=(kvs.find? fun x=>decide (x.1=k)).map (·.2.2)
theorem vB {k:List K}:∀{kvs:List (N3 K)}{xs:List (List K×Addr×Value)},yS kvs xs→rj (valN kvs k) ((atKey xs k).map (·.2))
 | _,_,.nil=>trivial
 | p :: kvs,q :: xs,.cons a r=>by
  have ih:=vB (k:=k) r
  unfold valN atKey at ih ⊢
  rw[List.find?_cons,List.find?_cons,a.1]
  by_cases e:q.1=k
  ·rw[decide_eq_true e];exact a.2.2
  ·rw[decide_eq_false e];exact ih
def putN (kvs:List (N3 K)) (k:List K) (b:Addr) (v:V):List (N3 K):=if (valN kvs k).isSome=true then kvs.map (fun x=>if x.1=k then (x.1,x.2.1,v) else x) else kvs++[(k,b,v)]
theorem GB {k:List K}{v:V} (h:valN kvs k=none):putN kvs k b v=kvs++[(k,b,v)]:=by unfold putN;rw[h];rfl
theorem GC {k:List K}{v:V}{u:Value} (rv:RelV v u):∀{kvs:List (N3 K)}{xs:List (List K×Addr×Value)},yS kvs xs→yS (kvs.map (fun x=>if x.1=k then (x.1,x.2.1,v) else x)) (xs.map (putAt k u))
 | _,_,.nil=>.nil
 | p :: kvs,q :: xs,.cons a r=>by
  refine .cons ?_ (GC rv r)
  unfold putAt
  by_cases e:q.1=k
  ·rw[if_pos e,show(fun x:N3 K=>if x.1=k then (x.1,x.2.1,v) else x) p=(p.1,p.2.1,v) from if_pos (a.1.trans e)];exact⟨a.1,a.2.1,rv⟩
  ·rw[if_neg e,show(fun x:N3 K=>if x.1=k then (x.1,x.2.1,v) else x) p=p from if_neg (fun q=>e (a.1.symm.trans q))];exact a
theorem GD {kvs':List (N3 K)}{xs':List (List K×Addr×Value)}:∀{kvs:List (N3 K)}{xs:List (List K×Addr×Value)},yS kvs xs→yS kvs' xs'→yS (kvs++kvs') (xs++xs')
 | _,_,.nil,q=>q
 | _,_,.cons a r,q=>.cons a (GD r q)
theorem Qw {k:List K}{v:V}{u:Value}{xs:List (List K×Addr×Value)} (r:yS kvs xs) (rv:RelV v u):yS (putN kvs k b v) (storedH xs k b u):=by
 have q:=(vB (k:=k) r).DA
 rw[Option.isSome_map] at q
 unfold putN storedH
 by_cases e:(valN kvs k).isSome=true
 ·rw[if_pos e,if_pos (by rw[←q];exact e)];exact GC rv r
 ·rw[if_neg e,if_neg (by rw[←q];exact e)];exact GD r (.cons ⟨rfl,rfl,rv⟩ .nil)
theorem Qx {k:List K}{v:V}:(putN kvs k b v).length≤kvs.length+1:=by
 unfold putN
 split
 ·rw[List.length_map];omega
 ·rw[List.length_append];exact Nat.le_refl _
theorem Av (d:H a=some (dN Z hl a kvs)) {o:HO}:∀ c xs,ck F H c xs→ck F (upd H a o) c xs:=fun c xs e=>by
 rcases e with (e | ⟨ob,e⟩) | e
 ·exact .inl (.inl ((aF (lu e d (fun q=>nomatch q))).trans e))
 ·exact .inl (.inr ⟨ob,(aF (lu e d (fun q=>nomatch q))).trans e⟩)
 ·exact .inr e
theorem Nd.put {k:List K}{v:V} (d:Nd Y hl H a kvs) (e:uJ Y H k b):Nd Y hl (upd H a (dN Z hl a (putN kvs k b v))) a (putN kvs k b v):=by
 refine⟨ah,fun p hp=>?_⟩
 have t:=Av (F:=F) d.ob (o:=dN Z hl a (putN kvs k b v))
 unfold putN at hp
 split at hp
 ·obtain⟨x,hx,rfl⟩:=List.mem_map.mp hp
  have:=(d.keys x hx).keep t
  split <;> exact this
 ·rcases List.mem_append.mp hp with q | q
  ·exact(d.keys p q).keep t
  ·rw[List.mem_singleton.mp q];exact e.keep t
end
section
variable {X:Cx}{K:Type} [DecidableEq K] {F:W.Frag}{Z:rA X.prog X.w K}{Y:t6 F Z}{hl:Z.jm+1≤8}{pins:List (Addr×Obj)}{σ:St}{H:Hp}{s:Shared}{a b:Addr}{kvs:List (N3 K)}{k:List K}{v:V}{r:Value}{A:Around}{E:Value→Shared→Prop}
theorem MV {Q:Value→Shared→Prop} (hu:A.units+1+(Z.jm+1) < cLine) (hF:X.K=F) (I:Inv X pins σ H s) (d:Nd Y hl H a kvs) (e:uJ Y H k b) (g:valN kvs k=some v) (h:∀ w' s',Inv X pins σ H s'→RelV v w'→Q w' s'):wpAny (model X.prog X.w) A (getItem (.ref a) (.ref b)) Q E s:=by
 obtain⟨z,y,xs,rel,dd⟩:=d.of hF I
 obtain⟨w',hw,rw'⟩:=rj.some_of (v:=v) (o:=(atKey xs k).map (·.2)) (by rw[←g];exact vB rel)
 obtain⟨p,hp,hp2⟩:=Option.map_eq_some_iff.mp hw
 refine wpAny_getItem_heap (knd:=yl Z hl) hu (e.is hF I) dd hp ?_
 rw[hp2]
 exact h w' _ (I.tok _) rw'
theorem TN {Q:Value→Shared→Prop} (hu:A.units+1+(Z.jm+1) < cLine) (hF:X.K=F) (I:Inv X pins σ H s) (d:Nd Y hl H a kvs) (e:uJ Y H k b) (h:∀ s',Inv X pins σ H s'→Q (.bool (!(valN kvs k).isSome)) s'):wpAny (model X.prog X.w) A (compareOp .NotIn (.ref b) (.ref a)) Q E s:=by
 obtain⟨z,y,xs,rel,dd⟩:=d.of hF I
 refine wpAny_notIn_heap (knd:=yl Z hl) hu (e.is hF I) y dd ?_
 have q:=(vB (k:=k) rel).DA
 rw[Option.isSome_map] at q
 rw[←q]
 exact h _ (I.tok _)
theorem MW {Q:Unit→Shared→Prop} (hu:A.units+1+(Z.jm+1) < cLine) (hF:X.K=F) (I:Inv X pins σ H s) (d:Nd Y hl H a kvs) (e:uJ Y H k b) (hz:kvs.length < sizeLine) (rv:RelV v r) (h:∀ s',Inv X pins σ (upd H a (dN Z hl a (putN kvs k b v))) s'→Q () s'):wpAny (model X.prog X.w) A (setItem (.ref a) (.ref b) r) Q E s:=by
 obtain⟨z,y,xs,rel,dd⟩:=d.of hF I
 have hxz:xs.length≤sizeLine:=by rw[←Paired.length rel];exact z
 refine wpAny_setItem_heap (knd:=yl Z hl) (hsz:=hxz) hu (e.is hF I) dd fun h' Zk hs=>h _ ?_
 have he:∃ q,h'.get? a=some q:=let ⟨q,_,_,hq,_⟩:=Zk;⟨q,hq⟩
 have:=Qx (kvs:=kvs) (k:=k) (b:=b) (v:=v)
 exact I.write (x:=a) (e:=a) (by rw[d.ob];exact True.intro) (.inl rfl) (fun c q hc z=>(hs.2 c hc).trans z) he (Qv (by omega) y (Qw rel rv) Zk)
variable {o i value kx:Expr}{pos pos':Pos}{td ty tv:TE}
def Vu {P:Program}{w:World}{K:Type} [DecidableEq K] {F:W.Frag}{Z:rA P w K} (Y:t6 F Z) (hl:Z.jm+1≤8) (td ty:TE):TE:=fun σ H Q=>td σ H fun x H1=>ty σ H1 fun y H2=>∃ a kvs k b v,x=.ref a∧y=.ref b∧Nd Y hl H2 a kvs∧uJ Y H2 k b∧valN kvs k=some v∧Q v H2
def LU {P:Program}{w:World}{K:Type} [DecidableEq K] {F:W.Frag}{Z:rA P w K} (Y:t6 F Z) (hl:Z.jm+1≤8) (ty td:TE):TE:=fun σ H Q=>ty σ H fun y H1=>td σ H1 fun x H2=>∃ a kvs k b,x=.ref a∧y=.ref b∧Nd Y hl H2 a kvs∧uJ Y H2 k b∧Q (.bl (!(valN kvs k).isSome)) H2
def Vv {P:Program}{w:World}{K:Type} [DecidableEq K] {F:W.Frag}{Z:rA P w K} (Y:t6 F Z) (hl:Z.jm+1≤8) (td ty tv:TE):TS:=fun D σ H=>tv σ H fun v H1=>td σ H1 fun x H2=>ty σ H2 fun y H3=>∃ a kvs k b,x=.ref a∧y=.ref b∧Nd Y hl H3 a kvs∧uJ Y H3 k b∧kvs.length < sizeLine∧D.nx σ (upd H3 a (dN Z hl a (putN kvs k b v)))
def Vw {P:Program}{w:World}{K:Type} [DecidableEq K] {F:W.Frag}{Z:rA P w K} (Y:t6 F Z) (hl:Z.jm+1≤8) (tk tv:TE):TE:=fun σ H Q=>∀ p,H p=none→tk σ (upd H p (dN Z hl p [])) fun y H1=>tv σ H1 fun v H2=>∃ k b,y=.ref b∧H2 p=some (dN Z hl p [])∧uJ Y H2 k b∧Q (.ref p) (upd H2 p (dN Z hl p [(k,b,v)]))
theorem TQ (Y:t6 F Z) (hl:Z.jm+1≤8) (hF:X.K=F) (hu:X.A.units+1+(Z.jm+1) < cLine) (ho:PE X o td) (hi:PE X i ty) (hs:Wr i):PE X (.Subscript o i pos) (Vu Y hl td ty):=by
 intro pins s σ H Q I h
 refine TM PySem.F.slot_dict_getitem.lookup hs (dF (ho pins s σ H _ I h) fun u s1 ⟨x,H1,I1,rx,q1⟩=>dF (hi pins s1 σ H1 _ I1 q1) fun iv s2 ⟨y,H2,I2,ry,a,kvs,k,b,v,ex,ey,d,e,g,q2⟩=>?_)
 subst ex ey
 obtain rfl:u=Value.ref a:=rx
 obtain rfl:iv=Value.ref b:=ry
 obtain⟨_,_,xs,_,dd⟩:=d.of hF I2
 exact⟨dd.typeIs,MV hu hF I2 d e g fun w' s3 I3 rw'=>⟨v,H2,I3,rw',q2⟩⟩
theorem MX (Y:t6 F Z) (hl:Z.jm+1≤8) (hF:X.K=F) (hu:X.A.units+1+(Z.jm+1) < cLine) (hi:PE X i ty) (ho:PE X o td):PC X .NotIn i o (LU Y hl ty td):=by
 intro pins s σ H Q I h
 refine dF (hi pins s σ H _ I h) fun iv s1 ⟨y,H1,I1,ry,q1⟩=>dF (ho pins s1 σ H1 _ I1 q1) fun u s2 ⟨x,H2,I2,rx,a,kvs,k,b,ex,ey,d,e,q2⟩=>?_
 subst ex ey
 obtain rfl:u=Value.ref a:=rx
 obtain rfl:iv=Value.ref b:=ry
 exact TN hu hF I2 d e fun s3 I3=>⟨.bl (!(valN kvs k).isSome),H2,I3,rfl,q2⟩
theorem TR (Y:t6 F Z) (hl:Z.jm+1≤8) (hF:X.K=F) (hu:X.A.units+1+(Z.jm+1) < cLine) (ho:PE X o td) (hi:PE X i ty) (hv:PE X value tv) (hs:swapsWith value (some (.Subscript o i pos')) pos.line X.env=pure false) :
  PS X (.Assign [.Subscript o i pos'] value pos) (Vv Y hl td ty tv):=by
 intro pins s σ H D I h
 refine wpAny_Assign_Subscript (dF (hv pins s σ H _ I h) fun r s1 ⟨v,H1,I1,rv,q1⟩=>dF (ho pins s1 σ H1 _ I1 q1) fun u s2 ⟨x,H2,I2,rx,q2⟩=>dF (hi pins s2 σ H2 _ I2 q2) fun iv s3 ⟨y,H3,I3,ry,a,kvs,k,b,ex,ey,d,e,hz,q3⟩=>?_) hs
 subst ex ey
 obtain rfl:u=Value.ref a:=rx
 obtain rfl:iv=Value.ref b:=ry
 exact MW hu hF I3 d e hz rv fun s4 I4=>⟨σ,_,I4,q3⟩
theorem Qy (Y:t6 F Z) (hl:Z.jm+1≤8) (hF:X.K=F) (hu:X.A.units+(Z.jm+1) < cLine) {tk:TE} (hk:PE X kx tk) (hv:PE X value tv):PE X (.Dict [some kx] [value] pos) (Vw Y hl tk tv):=by
 intro pins s σ H Q I q
 have hn:=I.hok.fresh (Nat.le_refl s.heap.objs.size)
 have y0:(s.heap.objs.size == sysModules)=false:=beq_eq_false_iff_ne.mpr (Ne.symm (Nat.ne_of_lt I.big))
 have I1:=I.laid (a:=s.heap.objs.size) (o:=dN Z hl s.heap.objs.size []) (h':=s.heap.push { cls:=.type "dict",data:=.dict #[] }) (t':=s.toks) (fun _ _ q=>Heap.get?_push_of_some _ q) (Nat.le_refl _) (Qv (xs:=[]) (Nat.zero_le _) y0 .nil (Heap.DictOfH.new s.heap))
 refine wpAny_Dict_any rfl rfl (fun z=>nomatch z) (by show 1≤15;decide) (pairTrees_cons_walk (dF (hk pins _ σ _ _ I1 (q _ hn)) fun u s1 ⟨x,H1,I1',rx,q1⟩=>dF (hv pins s1 σ H1 _ I1' q1) fun vu s2 ⟨v,H2,I2,rv,k,b,ex,e,ek,q2⟩=>pairTrees_nil_walk ?_))
 subst ex
 obtain rfl:u=Value.ref b:=rx
 have d0:Nd Y hl H2 s.heap.objs.size []:=⟨e,fun x hx=>nomatch hx⟩
 obtain⟨z,y,xs,rel,dd⟩:=d0.of hF I2
 cases rel
 unfold storeAll
 refine wpAny_forIn_list _ (fun rest _ s'=>(rest=[(Value.ref b,vu)]∧s'=s2)∨(rest=[]∧EP X pins σ Q (Value.ref s.heap.objs.size) s')) _ ?_ ?_ _ _ (.inl ⟨rfl,rfl⟩)
 ·rintro x rest u s' (⟨e1,rfl⟩ | ⟨e1,_⟩)
  ·cases e1
   refine wpAny_bind (wpAny_dictSet_heap (knd:=yl Z hl) (hsz:=Nat.zero_le _) hu (ek.is hF I2) dd fun h' Zk hs=>wpAny_pure (.inr ⟨rfl,.ref s.heap.objs.size,_,?_,rfl,q2⟩))
   have he:∃ q,h'.get? s.heap.objs.size=some q:=let ⟨q,_,_,hq,_⟩:=Zk;⟨q,hq⟩
   exact I2.write (x:=s.heap.objs.size) (e:=s.heap.objs.size) (by rw[e];exact True.intro) (.inl rfl) (fun c q hc z=>(hs.2 c hc).trans z) he (Qv (by show 1≤sizeLine;decide) y (.cons ⟨rfl,rfl,rv⟩ .nil) Zk)
  ·cases e1
 ·rintro u s' (⟨e1,_⟩ | ⟨_,q⟩)
  ·cases e1
  ·exact q
end
section
variable {X:Cx}{K:Type} [DecidableEq K] {F:W.Frag}{Z:rA X.prog X.w K}
def afy {P:Program}{w:World}{K:Type} [DecidableEq K] {F:W.Frag}{Z:rA P w K} (Y:t6 F Z):R2:=fun x y H Q=>∃ b b' ks ks',x=.ref b∧y=.ref b'∧uJ Y H ks b∧uJ Y H ks' b'∧Q (.bl (decide (ks=ks'))) H
theorem Qz (Y:t6 F Z) (hF:X.K=F) (hu:X.A.units+(Z.jm+1) < cLine):pZ X (compareOp .Eq) (afy Y):=by
 intro pins s σ H x y v u Q I rx ry h
 obtain⟨b,b',ks,ks',rfl,rfl,e1,e2,q⟩:=h
 cases rx;cases ry
 obtain⟨o,items,n,h1,h2,h3,h4⟩:=e1.is hF I
 obtain⟨o',items',n',h1',h2',h3',Zj⟩:=e2.is hF I
 have l1:ks.length=items.size:=by rw[Paired.length h4,Array.length_toList]
 have l2:ks'.length=items'.size:=by rw[Paired.length Zj,Array.length_toList]
 refine SeqAt.eq_tupleAt (e:=fun j=>decide (ks[j]? = ks'[j]?)) ⟨o,h1,h2,n,h3⟩ ⟨o',h1',h2',n',h3'⟩ (by omega) (fun j j1 j2=>?_) ⟨.bl (decide (ks=ks')),H,I,?_,q⟩
 ·obtain⟨k,ek,hk⟩:=nh h4 j items[j] (by simp[j1])
  obtain⟨k',ek',hk'⟩:=nh Zj j items'[j] (by simp[j2])
  rw[ek,ek',show decide (some k=some k')=decide (k=k') by simp]
  exact Z.eq (by show X.A.units+1+Z.jm < cLine;omega) hk hk'
 ·show Value.bool _=Value.bool _
  rw[←l1,←l2,Au]
end
abbrev ZM (P:Program) (w:World):=stepK (Gz P w)
abbrev YL (P:Program) (w:World) (F:W.Frag):=Qt P w F
abbrev YM (P:Program) (w:World) (F:W.Frag):t6 F (ZM P w):=GA (Qt P w F)
theorem hn0 {A:Around}{P:Program}{w:World} (h:A.units+64 < cLine):A.units+((Gz P w).jm+1) < cLine:=by show A.units+1 < cLine;omega
theorem hn1 {A:Around}{P:Program}{w:World} (h:A.units+64 < cLine):A.units+((ZM P w).jm+1) < cLine:=by show A.units+2 < cLine;omega
theorem hn2 {A:Around}{P:Program}{w:World} (h:A.units+64 < cLine):A.units+1+((ZM P w).jm+1) < cLine:=by show A.units+1+2 < cLine;omega
def GF (k s:Str):List Lf:=[some (.inr k),some (.inr s)]
def vC (m:(Str×Str)×Nat):List (Lf ⊕ List Lf):=[.inr (GF m.1.1 m.1.2),.inl (some (.inl m.2))]
theorem oZ {k s k' s':Str}:GF k s=GF k' s'↔(k,s)=(k',s'):=by
 unfold GF
 constructor
 ·intro h;injection h with h1 h2;injection h2 with h2 _;injection h1 with h1;injection h2 with h2;injection h1 with h1;injection h2 with h2;rw[h1,h2]
 ·intro h;injection h with h1 h2;rw[h1,h2]
theorem DB {m m':(Str×Str)×Nat}:vC m=vC m'↔m=m':=by
 unfold vC
 constructor
 ·intro h
  injection h with h1 h2
  injection h2 with h2 _
  injection h1 with h1
  injection h2 with h2;injection h2 with h2;injection h2 with h2
  have e:=oZ.mp h1
  obtain⟨⟨a,b⟩,n⟩:=m
  obtain⟨⟨a',b'⟩,n'⟩:=m'
  injection e with e1 e2
  have h2:n=n':=Int.ofNat.inj h2
  simp only at e1 e2
  rw[e1,e2,h2]
 ·rintro rfl;rfl
section
variable {P:Program}{w:World}{F:W.Frag}{H:Hp}
theorem vD {a:Addr}{k s:Str} (h:ck F H a [.str k,.str s]):uJ (YL P w F) H (GF k s) a:=⟨_,h,.cons rfl (.cons rfl .nil)⟩
theorem Ej {b s:Addr}{m:(Str×Str)×Nat} (h:ck F H b [.ref s,.int m.2]) (h2:ck F H s [.str m.1.1,.str m.1.2]):uJ (YM P w F) H (vC m) b:=⟨_,h,.cons ⟨s,rfl,vD h2⟩ (.cons rfl .nil)⟩
end
section
variable {X:Cx}{P:Program}{w:World}{K:Type} [DecidableEq K] {F:W.Frag}{Z:rA P w K}{o i value kx:Expr}{pos pos':Pos}{td ty tv tk:TE}
theorem GG (Y:t6 F Z) (hl:Z.jm+1≤8) (hP:X.prog=P) (hw:X.w=w) (hF:X.K=F) (hu:X.A.units+1+(Z.jm+1) < cLine) (ho:PE X o td) (hi:PE X i ty) (hs:Wr i):PE X (.Subscript o i pos) (Vu Y hl td ty):=by
 subst hP hw;exact TQ Y hl hF hu ho hi hs
theorem Jm (Y:t6 F Z) (hl:Z.jm+1≤8) (hP:X.prog=P) (hw:X.w=w) (hF:X.K=F) (hu:X.A.units+1+(Z.jm+1) < cLine) (hi:PE X i ty) (ho:PE X o td):PC X .NotIn i o (LU Y hl ty td):=by
 subst hP hw;exact MX Y hl hF hu hi ho
theorem QA (Y:t6 F Z) (hl:Z.jm+1≤8) (hP:X.prog=P) (hw:X.w=w) (hF:X.K=F) (hu:X.A.units+1+(Z.jm+1) < cLine) (ho:PE X o td) (hi:PE X i ty) (hv:PE X value tv) (hs:swapsWith value (some (.Subscript o i pos')) pos.line X.env=pure false) :
  PS X (.Assign [.Subscript o i pos'] value pos) (Vv Y hl td ty tv):=by
 subst hP hw;exact TR Y hl hF hu ho hi hv hs
theorem MY (Y:t6 F Z) (hl:Z.jm+1≤8) (hP:X.prog=P) (hw:X.w=w) (hF:X.K=F) (hu:X.A.units+(Z.jm+1) < cLine) (hk:PE X kx tk) (hv:PE X value tv):PE X (.Dict [some kx] [value] pos) (Vw Y hl tk tv):=by
 subst hP hw;exact Qy Y hl hF hu hk hv
end
section
variable {X:Cx}
def aal:R2:=fun x y H Q=>∃(z:Str) (k:Int),x=.str z∧y=.int k∧0≤k∧k < 1000000∧z.length * k.toNat≤10000000∧z.length≤10000000∧Q (.str (rL z k.toNat)) H
theorem QB (z:Str):rL z 1=z:=by
 unfold rL
 show(⟨#[]++z.cps⟩:Str)=z
 rw[Array.empty_append]
theorem Ws {z:Str} (h:z.length=0) (n:Nat):rL z n=z:=by
 have e:z.cps = #[]:=Array.eq_empty_of_size_eq_zero h
 have key:∀ n:Nat,(List.replicate n (#[]:Array Nat)).foldl (· ++ ·) (#[]:Array Nat) = #[]:=fun n=>by
  induction n with
  | zero=>rfl
  | succ n ih=>rw[List.replicate_succ,List.foldl_cons,Array.append_empty];exact ih
 obtain⟨c⟩:=z
 have e:c = #[]:=e
 unfold rL
 show(⟨(List.replicate n c).foldl (· ++ ·) #[]⟩:Str)=⟨c⟩
 rw[e,key n]
theorem Ek:pZ X (binaryOp .Mult) aal:=by
 intro pins s σ H x y v u Q I rx ry h
 obtain⟨z,k,rfl,rfl,hk,hk2,hl,hz,q⟩:=h
 obtain⟨t,rfl⟩:=rx
 obtain⟨t',rfl⟩:=ry
 have tl:Builtin.Str.tooLong (z.length * k.toNat)=false:=by
  unfold Builtin.Str.tooLong
  have hsl:10000000≤sizeLine:=by decide
  simp
  omega
 refine P.mul_str (by simp;omega) (fun _ _=>?_) (fun _ _=>tl) ?_
 ·intro h
  have h3:(10000000:Int)≤(2 ^ 63 - 1) / k:=by
   rw[Int.le_ediv_iff_mul_le (by omega)]
   omega
  omega
 ·by_cases e1:k < 1
  ·rw[if_pos e1]
   have:k=0:=by omega
   subst this
   exact⟨by decide,.str _,H,I.tok _,⟨_,rfl⟩,q⟩
  ·rw[if_neg e1]
   cases e2:(k == 1 || z.length == 0) with
   | true =>
    rw[if_pos rfl]
    have er:rL z k.toNat=z:=by
     rw[Bool.or_eq_true] at e2
     rcases e2 with e | e
     ·have:k=1:=by simpa using e
      subst this;exact QB z
     ·exact Ws (by simpa using e) _
    rw[er] at q
    exact⟨.str _,H,I,⟨_,rfl⟩,q⟩
   | false =>
    rw[if_neg (by decide)]
    exact⟨fits_reps tl,⟨.str _,H,I.tok _,⟨_,rfl⟩,q⟩⟩
end
section
variable {X:Cx}
end
section
variable {X:Cx}{K:Type} [DecidableEq K] {F:W.Frag}{Z:rA X.prog X.w K}
end
section
variable {prog:Program}{w:World}{A:Around}{E:Value→Shared→Prop}{s:Shared}
theorem yT {R:Result→Shared→Prop} (hh:A.handled=none) {I l:Addr}{items:List Value} (hne:l≠I) (hit:s.heap.IsRevIter I l ((items.toArray.size:Int) - 1)) (hl:s.heap.IsList l items.toArray) (hn:items.toArray.size≤sizeLine)
  (hR:∀ h' tk acc' c',(∀ b o,b≠I→s.heap.get? b=some o→h'.get? b=some o)→h'.get? s.heap.objs.size=some { cls:=.type "list",dict:=none,data:=.seq acc' c',slots:=#[] }→acc'.toList=items.reverse→R (.ok (.ret (.ref s.heap.objs.size))) { s with heap:=h',toks:=tk }) :
  codeAny (model prog w) A (.builtin "proto.collect" ⟨[.ref I],[]⟩) R s:=by
 refine codeAny_builtin F.entry_proto_collect ?_;rw[Around.under_plainId F.plain_proto_collect _]
 show wpAny _ A.in1 (newList [] >>= fun l=>again (.builtin "list.__iadd__" ⟨[l,.ref I],[]⟩)) _ _ s;refine wpAny_bind (wpAny_newObj_type ?_)
 refine wpAny_pure ⟨plainId_quiet F.plain_list_iadd _,codeAny_builtin F.entry_list_iadd ?_⟩
 rw[Around.under_plainId F.plain_list_iadd _]
 have hS:(s.heap.push { cls:=.type "list",data:=.seq #[] }).get? s.heap.objs.size=some { cls:=.type "list",data:=.seq #[] }:=Heap.get?_push_size _ rfl
 have hlt:l < s.heap.objs.size:=by obtain⟨o,ho,_⟩:=hl;exact Heap.lt_size ho
 show wpAny _ A.in1 (Builtin.List.listExtendWith (.ref s.heap.objs.size) (.ref I) (.ref s.heap.objs.size)) _ _ _
 exact Ji (R:=R) (s:={ s with heap:=s.heap.push { cls:=.type "list",data:=.seq #[] } }) hh hne (hit.at fun o e=>Heap.get?_push_of_some _ e) (hl.at fun o e=>Heap.get?_push_of_some _ e) _ (Nat.ne_of_gt hlt) _ _ hS hn fun h' tk acc' c' hk hS' hacc =>
  hR h' tk acc' c' (fun b o hb e=>hk b o (Nat.ne_of_lt (Heap.lt_size e)) hb (Heap.get?_push_of_some _ e)) hS' (MP hacc)
theorem GH {Q:List Value→Shared→Prop} (hh:A.handled=none) {I l:Addr}{items:List Value} (hne:l≠I) (hit:s.heap.IsRevIter I l ((items.toArray.size:Int) - 1)) (hl:s.heap.IsList l items.toArray) (hn:items.toArray.size≤sizeLine)
  (hQ:∀ h' tk,(∀ b o,b≠I→s.heap.get? b=some o→h'.get? b=some o)→Q items.reverse { s with heap:=h',toks:=tk }):wpAny (model prog w) A (collect (.ref I)) Q E s:=by
 unfold collect
 refine wpAny_bind (wpAny_runValue (yT hh hne hit hl hn fun h' tk acc' c' hk hS' hacc=>?_))
 show wpAny _ A (load s.heap.objs.size >>= _) _ _ _
 refine wpAny_bind (wpAny_load hS' (wpAny_pure ?_))
 show Q acc'.toList _
 rw[hacc]
 exact hQ h' tk hk
theorem QC {x:Str}{t:Tok}{Q:Value→Shared→Prop} (hh:A.handled=none) {I l:Addr}{items:List Value}{ys:List Str} (hne:l≠I) (hit:s.heap.IsRevIter I l ((items.toArray.size:Int) - 1)) (hl:s.heap.IsList l items.toArray) (hn:items.toArray.size≤sizeLine) (hi:StrsAre items.reverse ys) (hok:(ys.map (·.length)).sum+ys.length * x.length≤16777216)
  (hQ:∀ h' t' k,(∀ b o,b≠I→s.heap.get? b=some o→h'.get? b=some o)→Q (.str (Txt.join x ys) t') { s with heap:=h',toks:=k }):wpAny (model prog w) A (call (.builtin "str.join") [.str x t,.ref I]) Q E s:=by
 refine wpAny_call (codeAny_call_builtin F.slot_str_join.plain F.entry_str_join (F.slot_str_join.check _ _ _ _ _ _ _ _ (typeIs_str _ _ _) (F.args_str_join_2 _ _) ?_))
 rw[join_tree_other]
 refine wpAny_bind (wpAny_typeOf hit.typeIs ?_)
 show wpAny _ A.in1 ((pyIter (.ref I)).tryCatch _ >>= fun it=>collect it >>= fun items=>joinTail x items) _ _ s
 refine wpAny_bind (wpAny_tryCatch (wpAny_pyIter_revIter hit ?_))
 refine wpAny_bind (GH (A:=A.in1) hh hne hit hl hn fun h' tk hk=>?_)
 obtain⟨lt,hv,ht⟩:=strsAre_values hi
 rw[hv]
 have ok:=joinOk_of hok
 subst ht
 unfold JoinOk at ok
 rw[Bool.not_eq_true'] at ok
 have g:Gives (joinTail x (strValues lt)) (joinMade x lt):=by
  have g0:=gives_joinTail x lt ok
  cases lt with
  | nil=>exact g0
  | cons p r=>cases r with
   | nil=>exact g0
   | cons q r'=>exact g0
 exact g prog w A (wants Q E) _ (post_join lt ⟨joinFit_length ok,fun t' k=>hQ h' t' k hk⟩)
end
section
variable {X:Cx}{e:Expr}
def GI (K:W.Frag) (tx:TE) (ta:TA):TE:=fun σ H Q=>tx σ H fun x H0=>∃ z,x=.str z∧ta σ H0 fun vs H1=>∃ p,∃ ys:List Str,vs=[.ref p]∧bB K H1 p (ys.map V.str)∧(ys.map (·.length)).sum+ys.length * z.length≤16777216∧Q (.str (Txt.join z ys.reverse)) H1
theorem Aw:∀{its:List Value}{ys:List Str},Vals (ys.map V.str) its→StrsAre its ys
 | _,[],h=>by cases h;exact .nil
 | _,y :: ys,h=>by cases h with | cons a b=>obtain⟨t,rfl⟩:=a;exact .cons _ _ (Aw b)
theorem Jo {o:Expr}{apos p2 pos2 cpos:Pos}{tx:TE}{ta:TA} (hc:X.calm=true) (hg2:Gl X "reversed") (hm2:X.mg "reversed" = none) (hx:PE X o tx) (ha:PA X [e] ta)
  (hbase:attributeBase o "join" X.env (eval o X.env)=eval o X.env:=by rfl)
  (hfew:((backTo cpos (starEach [.Call (.Name "reversed" p2) [e] [] pos2] X.env)).all (fun x=>!x.1) && (backToKw cpos (keywordEach [] X.env)).all (fun x=>x.1.isSome)
   && decide (([.Call (.Name "reversed" p2) [e] [] pos2]:List Expr).length+([]:List Keyword).length+(if ([]:List Keyword).isEmpty then 0 else 1) < 30))=true:=by rfl)
  (hline:(apos.endLine == cpos.line)=true:=by rfl)
  (h1:starEach [.Call (.Name "reversed" p2) [e] [] pos2] X.env=[(false,eval (.Call (.Name "reversed" p2) [e] [] pos2) X.env)]:=by rfl) (h2:starEach [e] X.env=[(false,eval e X.env)]:=by rfl) :
  PE X (.Call (.Attribute o "join" apos) [.Call (.Name "reversed" p2) [e] [] pos2] [] cpos) (GI X.K tx ta):=by
 intro pins s σ H Q I h
 refine wpAny_Call_method_late hbase hfew hline rfl (dF (hx pins s σ H _ I h) fun v s1 ⟨x,H0,I0,r0,z,hz,q0⟩=>?_)
 subst hz
 obtain⟨t1,t2⟩:=P0 I0 r0 (T := "str") rfl
 refine⟨"str", "str.join",F.plainAttrs_str,F.slot_str_join,rfl,t1,t2,?_⟩
 rw[h1]
 refine Calls.callWith_builtin rfl (Calls.evalArgs_plain ?_)
 refine Calls.spliced_cons ?_
 refine wpAny_Call_Name_kw (uF I0 hg2 hm2 boot_reversed ?_ (by decide) (by decide))
 refine PyProof.Rows.callWith_type1 (dF (ha pos2 pins s1 σ H0 _ I0 q0) fun us s2 ⟨vs,H1,I1,r1,q1⟩=>?_) h2 rfl
 obtain⟨p,ys,rfl,hq,hok,q⟩:=q1
 obtain⟨u,rfl,ru⟩:=vals1 r1
 cases ru
 obtain⟨its,rv,pl,hz⟩:=I1.list hq
 have hlen:=rv.length
 refine call_reversed_list pl.isList ?_
 refine Calls.spliced_nil ?_
 have hnew:s2.heap.objs.size≤s2.heap.objs.size:=Nat.le_refl _
 have I2:Inv X pins σ H1 { s2 with heap:=s2.heap.push (revObj p ((its.toArray.size:Int) - 1)) }:=I1.kept (t':=s2.toks) fun b o e=>Heap.get?_push_of_some _ e
 have hpl:p < s2.heap.objs.size:=by obtain⟨o,ho,_⟩:=pl.isList;exact Heap.lt_size ho
 have f0:=I1.Ag hnew (I1.hok.fresh hnew)
 obtain⟨t0,rfl⟩:=r0
 refine QC (s:={ s2 with heap:=s2.heap.push (revObj p ((its.toArray.size:Int) - 1)) }) (items:=its) (I.ok.hd hc) (Nat.ne_of_lt hpl) ⟨_,Heap.get?_push_size _ rfl,rfl,rfl⟩ (pl.isList.at fun o e=>Heap.get?_push_of_some _ e) (by rw[List.size_toArray];omega) (ys:=ys.reverse) (Aw (by rw[List.map_reverse];exact rv.reverse)) (by rw[List.map_reverse,List.sum_reverse,List.length_reverse];exact hok) fun h' t' tk hk=>?_
 have I4:=I2.turned (t':=tk) (h':=h') (it:=s2.heap.objs.size) hk f0.1 f0.2.1 f0.2.2.2.1 f0.2.2.2.2.1 f0.2.2.2.2.2
 exact⟨.str _,_,I4,⟨t',rfl⟩,q⟩
theorem GJ (K:W.Frag) (h:X.K=K) {o:Expr}{apos p2 pos2 cpos:Pos}{tx:TE}{ta:TA} (hc:X.calm=true) (hg2:Gl X "reversed") (hm2:X.mg "reversed" = none) (hx:PE X o tx) (ha:PA X [e] ta)
 (hbase:attributeBase o "join" X.env (eval o X.env)=eval o X.env:=by rfl)
 (hfew:((backTo cpos (starEach [.Call (.Name "reversed" p2) [e] [] pos2] X.env)).all (fun x=>!x.1) && (backToKw cpos (keywordEach [] X.env)).all (fun x=>x.1.isSome)
  && decide (([.Call (.Name "reversed" p2) [e] [] pos2]:List Expr).length+([]:List Keyword).length+(if ([]:List Keyword).isEmpty then 0 else 1) < 30))=true:=by rfl)
 (hline:(apos.endLine == cpos.line)=true:=by rfl)
 (h1:starEach [.Call (.Name "reversed" p2) [e] [] pos2] X.env=[(false,eval (.Call (.Name "reversed" p2) [e] [] pos2) X.env)]:=by rfl) (h2:starEach [e] X.env=[(false,eval e X.env)]:=by rfl) :
 PE X (.Call (.Attribute o "join" apos) [.Call (.Name "reversed" p2) [e] [] pos2] [] cpos) (GI K tx ta):=by subst h;exact Jo hc hg2 hm2 hx ha hbase hfew hline h1 h2
end
section
variable {prog:Program}{w:World}{A:Around}{E:Value→Shared→Prop}{s:Shared}{d it i ep:Nat}{od:Obj}{es:Array DictEntry}
theorem QD {Q:Value→Shared→Prop} (nd:(d == sysModules)=false) (g:s.heap.get? d=some od) (c:od.ExactDict) (dt:od.data=.dict es ep)
  (q:Q (.ref s.heap.objs.size) { s with heap:=s.heap.push { cls:=.type "dict_keyiterator",data:=.fields #[.ref d,.int 0 0,.int es.size 0,.int ep 0] } }):wpAny (model prog w) A (pyIter (.ref d)) Q E s:=by
 have ty:s.TypeIs (.ref d) "dict" := ⟨od,g,c.1⟩
 refine wpAny_pyIter_slot ty PySem.F.slot_dict_iter (wpAny_call_entry PySem.F.slot_dict_iter ty PySem.F.entry_dict_iter ?_ (PySem.F.args_dict_iter_1 _))
 unfold Builtin.«dict.__iter__»;refine wpAny_bind ?_
 unfold Builtin.Dict.dictSlotNone;refine wpAny_bind (wpAny_notOrdered_dict ty ?_)
 show wpAny _ _ (pure (Value.ref d)) _ _ _;refine wpAny_pure ?_
 show wpAny _ _ (Builtin.Dict.showsAll d >>= _) _ _ _
 unfold Builtin.Dict.showsAll;rw[if_neg (fun z=>by rw[nd] at z;cases z)];refine wpAny_bind (wpAny_pure ?_)
 refine wpAny_bind (wpAny_dictEntries g dt (wpAny_bind (wpAny_dictEpoch g dt ?_)))
 refine wpAny_bind (wpAny_newObj_type (wpAny_pure ⟨_,rfl, "dict_keyiterator",_,⟨_,Heap.get?_push_size _ rfl,rfl⟩,PySem.F.slot_dict_keyiterator_next.lookup,?_⟩))
 simpa [rawInt] using q
theorem QE {Q:Option Value→Shared→Prop} (IG:s.heap.IsKeyIter it d i es.size ep) (g:s.heap.get? d=some od) (dt:od.data=.dict es ep) (hi:i < es.size)
  (q:∀ h',h'.IsKeyIter it d (i+1) es.size ep→Heap.SameBut it s.heap h'→Q (some es[i].key) { s with heap:=h' }):wpAny (model prog w) A (pyNext (.ref it)) Q E s:=by
 obtain⟨o,ho,hc,hd⟩:=id IG
 unfold pyNext;refine wpAny_bind (wpAny_attempt (wpAny_callSpecial?_slot (name:=Str.ofString "__next__") IG.typeIs PySem.F.slot_dict_keyiterator_next (wpAny_call_entry PySem.F.slot_dict_keyiterator_next IG.typeIs PySem.F.entry_dict_keyiterator_next ?_ (PySem.F.args_dict_keyiterator_next_1 _))))
 refine wpAny_bind (wpAny_pure (wpAny_bind (wpAny_bind ?_)))
 first | refine wpAny_bind (wpAny_typeNameOfWhole_keyiter IG.typeIs (wpAny_pure ?_)) | refine wpAny_bind (wpAny_typeNameOf_keyiter IG.typeIs (wpAny_pure ?_))
 refine wpAny_bind (wpAny_fieldsOf ho hd ?_);simp only[(show Builtin.Dict_items.ownsTuple "dict_keyiterator" = false by decide),Bool.false_eq_true,if_false]
 show wpAny _ _ (if (Value.ref d == Value.none)=true then _ else _) _ _ _;rw[if_neg (fun z:(Value.ref d == Value.none)=true=>nomatch z)]
 refine wpAny_bind (wpAny_pure (wpAny_bind (wpAny_dictEntries g dt ?_)))
 rw[if_neg (by simp)];refine wpAny_bind (wpAny_pure (wpAny_bind (wpAny_dictEpoch g dt ?_)))
 rw[if_neg (by simp)];refine wpAny_pure ?_
 simp only[show ¬((i:Int) < 0) by omega,if_false,Int.toNat_natCast,Array.getElem?_eq_getElem hi]
 refine wpAny_bind ?_
 first | refine wpAny_bind (wpAny_typeNameOfWhole_keyiter IG.typeIs (wpAny_pure ?_)) | refine wpAny_bind (wpAny_typeNameOf_keyiter IG.typeIs (wpAny_pure ?_))
 refine wpAny_bind (wpAny_isOneOf_keyiter IG.typeIs ?_);show wpAny _ _ (setField (.ref it) 1 (rawInt ((i:Int)+1)) >>= _) _ _ _
 refine wpAny_bind (wpAny_setField ho hd (by simp) ?_)
 have it1:(s.heap.update it (Obj.mapFields (·.setIfInBounds 1 (rawInt ((i:Int)+1))))).IsKeyIter it d (i+1) es.size ep:=⟨_,Heap.get?_update_self _ ho (Obj.isFreed_of_fields (Obj.data_mapFields hd _)),(Obj.cls_mapFields ..).trans hc,by rw[Obj.data_mapFields hd];simp[rawInt]⟩
 refine wpAny_bind (wpAny_holding (wpAny_bind (wpAny_isOneOf_keyiter (s:={ s with heap:=s.heap.update it (Obj.mapFields (·.setIfInBounds 1 (rawInt ((i:Int)+1)))) }) it1.typeIs ?_)))
 show wpAny _ _ (pure es[i].key) _ _ _;exact wpAny_pure (wpAny_pure ⟨_,rfl,wpAny_pure (q _ it1 (Heap.SameBut.update ..))⟩)
theorem TU {Q:Option Value→Shared→Prop} (hh:A.handled=none) (IG:s.heap.IsKeyIter it d i es.size ep) (g:s.heap.get? d=some od) (dt:od.data=.dict es ep) (hi:es.size≤i)
  (q:∀ h',Heap.ExtBut it s.heap h'→Q none { s with heap:=h' }):wpAny (model prog w) A (pyNext (.ref it)) Q E s:=by
 obtain⟨o,ho,hc,hd⟩:=id IG
 unfold pyNext;refine wpAny_bind (wpAny_attempt (wpAny_callSpecial?_slot (name:=Str.ofString "__next__") IG.typeIs PySem.F.slot_dict_keyiterator_next (wpAny_call_entry PySem.F.slot_dict_keyiterator_next IG.typeIs PySem.F.entry_dict_keyiterator_next ?_ (PySem.F.args_dict_keyiterator_next_1 _))))
 refine wpAny_bind (wpAny_pure (wpAny_bind (wpAny_bind ?_)))
 first | refine wpAny_bind (wpAny_typeNameOfWhole_keyiter IG.typeIs (wpAny_pure ?_)) | refine wpAny_bind (wpAny_typeNameOf_keyiter IG.typeIs (wpAny_pure ?_))
 refine wpAny_bind (wpAny_fieldsOf ho hd ?_);simp only[(show Builtin.Dict_items.ownsTuple "dict_keyiterator" = false by decide),Bool.false_eq_true,if_false]
 show wpAny _ _ (if (Value.ref d == Value.none)=true then _ else _) _ _ _;rw[if_neg (fun z:(Value.ref d == Value.none)=true=>nomatch z)]
 refine wpAny_bind (wpAny_pure (wpAny_bind (wpAny_dictEntries g dt ?_)))
 rw[if_neg (by simp)];refine wpAny_bind (wpAny_pure (wpAny_bind (wpAny_dictEpoch g dt ?_)))
 rw[if_neg (by simp)];refine wpAny_pure ?_
 simp only[show ¬((i:Int) < 0) by omega,if_false,Int.toNat_natCast,Array.getElem?_eq_none hi]
 refine wpAny_bind ?_
 first | refine wpAny_bind (wpAny_typeNameOfWhole_keyiter IG.typeIs (wpAny_pure ?_)) | refine wpAny_bind (wpAny_typeNameOf_keyiter IG.typeIs (wpAny_pure ?_))
 show wpAny _ _ (setField (.ref it) 0 .none >>= _) _ _ _;refine wpAny_bind (wpAny_setField ho hd (by simp) ?_)
 show wpAny _ _ (newExc (.type "StopIteration") [] >>= _) _ _ _;refine wpAny_bind ?_
 simp only[newExc,newTuple];refine wpAny_bind (wpAny_newObj_type ?_ (by size_fits))
 refine wpAny_bind (m:=firstArgMember _ _) (wpAny_of_eq (a:=Value.none) (by first | rfl | (simp only[firstArgMember];rfl)) (wpAny_newObj_type ?_ (by size_fits)))
 simp only[raiseNew];refine wpAny_bind (wpAny_handled ?_)
 rw[show A.in1.handled=none from hh];refine wpAny_bind (wpAny_pure (wpAny_throw ?_))
 refine wpAny_bind (wpAny_isInstance (T := "StopIteration") (b:=true) ⟨_,Heap.get?_push_size _ rfl,rfl⟩ isSubtype_stop (wpAny_pure ?_))
 exact q _ (((Heap.SameBut.update ..).extBut.push _).push _)
end
theorem DC {α β:Type}{F:α→β→Prop}:∀{xs:List α}{ys:List β},Paired F xs ys→∀(i:Nat) x,xs[i]? = some x→∃ y,ys[i]? = some y∧F x y
 | _,_,.nil,i,x,h=>by simp at h
 | _,_,.cons a r,0,x,h=>by cases h;exact⟨_,rfl,a⟩
 | _,_,.cons a r,i+1,x,h=>DC r i x h
section
variable {P:Program}{w:World}{K:Type} [DecidableEq K]
variable {Z:rA P w K}{hl:Z.jm+1≤8}
theorem Ax {h:Heap}{a:Addr}{kvs:List (N3 K)}{o:Obj}{es:Array DictEntry}{ep:Nat} (q:LS Z hl a kvs h) (g:h.get? a=some o) (dt:o.data=.dict es ep):es.size=kvs.length∧∀(i:Nat) (hi:i < es.size) (e:N3 K),kvs[i]? = some e→es[i].key=.ref e.2.1:=by
 obtain⟨_,_,xs,r,o',es',ep',g',_,dt',he,_⟩:=q
 rw[g] at g';cases g'
 rw[dt] at dt';cases dt'
 have e1:es.size=xs.length:=size_of_entries he
 refine⟨by rw[e1];exact(Paired.length r).symm,fun i hi e h1=>?_⟩
 obtain⟨x,hx,q⟩:=DC r i e h1
 have e2:=entry_at he i
 rw[hx,Array.getElem?_eq_getElem hi] at e2
 have e3:es[i]=entryOfKey (yl Z hl) x:=Option.some.inj e2
 rw[e3,q.2.1]
 rfl
end
section
variable {X:Cx}{K:Type} [DecidableEq K] {F:W.Frag}{Z:rA X.prog X.w K}
end
section
variable {X:Cx}
end
open PySem
theorem rdT {A B:Prop}{b:Bool} (hb:b=true) (h:A):if b=true then A else B:=by rw[if_pos hb];exact h
theorem rdF {A B:Prop}{b:Bool} (hb:b=false) (h:B):if b=true then A else B:=by rw[if_neg (by rw[hb];decide)];exact h
theorem Zl {p A B:Prop} [Decidable p] (hp:p) (h:A):if decide p=true then A else B:=rdT (decide_eq_true hp) h
theorem Jp {p A B:Prop} [Decidable p] (hp:¬p) (h:B):if decide p=true then A else B:=rdF (decide_eq_false hp) h
theorem rdN {p A B:Prop} [Decidable p] (hp:p) (h:B):if (!decide p)=true then A else B:=rdF (by rw[decide_eq_true hp];rfl) h
theorem aam {p A B:Prop} [Decidable p] (hp:¬p) (h:A):if (!decide p)=true then A else B:=rdT (by rw[decide_eq_false hp];rfl) h
theorem afz {A B:Prop}{b:Bool} (hb:b=true) (h:B):if (!b)=true then A else B:=rdF (by rw[hb];rfl) h
theorem afA {A B:Prop}{b:Bool} (hb:b=false) (h:A):if (!b)=true then A else B:=rdT (by rw[hb];rfl) h
theorem rdI {A B:Prop}{a b:Int} (hp:a=b) (h:A):if decide (V.int a=V.int b)=true then A else B:=Zl (by rw[hp]) h
theorem afB {A B:Prop}{a b:Int} (hp:¬a=b) (h:B):if decide (V.int a=V.int b)=true then A else B:=Jp (fun e=>hp (V.int.inj e)) h
theorem rdB {A B:Prop}{b:Bool} (h1:b=true→A) (h2:b=false→B):if b=true then A else B:=by
 cases b with
 | true=>exact gj (h1 rfl)
 | false=>exact eZ (h2 rfl)
theorem MZ {p A B:Prop} [Decidable p] (h1:p→A) (h2:¬p→B):if decide p=true then A else B:=by
 by_cases h:p
 ·exact Zl h (h1 h)
 ·exact Jp h (h2 h)
theorem TV {A B:Prop}{a b:Int} (h1:a=b→A) (h2:¬a=b→B):if decide (V.int a=V.int b)=true then A else B:=by
 by_cases h:a=b
 ·exact rdI h (h1 h)
 ·exact afB h (h2 h)
section
variable {prog:Program}{w:World}{A:Around}{E:Value→Shared→Prop}{s:Shared}
end
section
variable {X:Cx}{e:Expr}{te:TE}
end
section
variable {prog:Program}{w:World}{A:Around}{E:Value→Shared→Prop}{s:Shared}
end
def Wt (h₀:Heap) (H:Hp) (h:Heap) (e:Addr) (vs:Array Value):Option Value→Prop
 | none=>vs[1]? = some .none∧vs[2]? = some .none
 | some v=>∃ T oT ts,vs[1]? = some (.ref T)∧H T=none∧h₀.get? T=none∧T≠e∧h.get? T=some oT∧oT.data=.fields ts∧ts[3]? = some v∧vs[2]? = some .none
theorem Wt.cx {h₀:Heap}{H:Hp}{h:Heap}{e:Addr}{vs:Array Value}{fl:Option Value} (x:Wt h₀ H h e vs fl):vs[2]? = some .none:=by
 cases fl with
 | none=>exact x.2
 | some v=>obtain⟨_,_,_,_,_,_,_,_,_,_,z⟩:=x;exact z
structure Exc (h₀:Heap) (H:Hp) (h:Heap) (e:Addr) (C:Value) (od:Option Addr) (fl:Option Value):Prop where
 fr:H e=none
 nw:h₀.get? e=none
 tr:∃ oe vs,h.get? e=some oe∧oe.cls=C∧oe.dict=od∧oe.data=.fields vs∧Wt h₀ H h e vs fl
structure Mv (fs ch:List Addr) (h h':Heap):Prop where
 keep:∀ b o,b∉ch→b∉fs→h.get? b=some o→h'.get? b=some o
 slot:∀ b o,b∉ch→h.get? b=some o→∃ sl,h'.get? b=some { o with slots:=sl }
 there:∀ b o,h.get? b=some o→∃ o',h'.get? b=some o'
theorem Mv.trans {fs ch:List Addr}{h h1 h2:Heap} (a:Mv fs ch h h1) (b:Mv fs ch h1 h2):Mv fs ch h h2 :=
 ⟨fun c o n1 n2 q=>b.keep c o n1 n2 (a.keep c o n1 n2 q),fun c o n q=>let ⟨sl,q1⟩:=a.slot c o n q;let ⟨sl2,q2⟩:=b.slot c _ n q1;⟨sl2,q2⟩,fun c o q=>let ⟨o1,q1⟩:=a.there c o q;b.there c o1 q1⟩
theorem Mv.mono {fs fs' ch ch':List Addr}{h h':Heap} (a:Mv fs ch h h') (hf:∀ b∈fs,b∈fs') (hc:∀ b∈ch,b∈ch'):Mv fs' ch' h h' :=
 ⟨fun c o n1 n2 q=>a.keep c o (fun z=>n1 (hc c z)) (fun z=>n2 (hf c z)) q,fun c o n q=>a.slot c o (fun z=>n (hc c z)) q,a.there⟩
theorem Mv.refl {fs ch:List Addr}{h:Heap}:Mv fs ch h h:=⟨fun _ _ _ _ q=>q,fun _ o _ q=>⟨o.slots,q⟩,fun _ o q=>⟨o,q⟩⟩
theorem Mv.of_slots {fs ch:List Addr}{h h':Heap} (x:Heap.SlotsOnly fs h h'):Mv fs ch h h' :=
 ⟨fun b o _ n q=>(x.2.1 b n).trans q,fun b o _ q=>x.2.2 b o q,fun b o q=>let ⟨sl,e⟩:=x.2.2 b o q;⟨_,e⟩⟩
theorem Mv.push {fs ch:List Addr}{h:Heap} (o:Obj):Mv fs ch h (h.push o) :=
 ⟨fun b u _ _ q=>Heap.get?_push_of_some _ q,fun b u _ q=>⟨u.slots,Heap.get?_push_of_some _ q⟩,fun b u q=>⟨u,Heap.get?_push_of_some _ q⟩⟩
theorem Mv.upd {fs ch:List Addr}{h:Heap}{a:Addr}{f:Obj→Obj}{o:Obj} (ha:a∈ch) (q:h.get? a=some o) (hf:(f o).isFreed=false):Mv fs ch h (h.update a f):=by
 have ne:∀ b,b∉ch→a≠b:=fun b n z=>n (z ▸ ha)
 refine⟨fun b u n _ e=>(Heap.get?_update_other _ _ (ne b n)).trans e,fun b u n e=>⟨u.slots,(Heap.get?_update_other _ _ (ne b n)).trans e⟩,fun b u e=>?_⟩
 by_cases hb:a=b
 ·subst hb;exact⟨_,Heap.get?_update_self _ q hf⟩
 ·exact⟨u,(Heap.get?_update_other _ _ hb).trans e⟩
theorem Mv.frames {fs ch:List Addr}{h h' base:Heap} (x:Mv fs ch h h') {l:List Env} (hl:h.FunFrames base l) (hc:∀ b∈ch,∀ o,h.get? b=some o→∃ vs,o.data=.fields vs):h'.FunFrames base l :=
 hl.of_keeps fun b o q nf=>by
  have n:b∉ch:=fun z=>let ⟨vs,e⟩:=hc b z o q;nf vs e
  obtain⟨sl,e⟩:=x.slot b o n q
  exact⟨_,e,rfl⟩
section
variable {M:Model}{A:Around}{E:Value→Shared→Prop}{s:Shared}{base:Heap}{env:Env}{outer:List Env}{L e:Addr}{Q:Unit→Shared→Prop}
theorem DE {oe:Obj}{vs:Array Value}{head:Value}{hn:Bool} (hfr:A.frames=some (env :: outer)) (hl:s.heap.FunFrames base (env :: outer)) (hf:env.frame=some L)
  (he:s.heap.get? e=some oe) (hd:oe.data=.fields vs) (hsz:1 < vs.size)
  (k:∀ h' T oT ts,Mv (frs (env :: outer)) [e] s.heap h'→s.heap.objs.size≤T→T≠e→h'.get? e=some (oe.mapFields (·.setIfInBounds 1 (.ref T)))→h'.get? T=some oT→oT.data=.fields ts→ts[3]? = some (rawInt L)→Q () { s with heap:=h' }) :
  wpAny M A (do let a ←frameOf env;let pl ←entryPlaceOf L hn;let b ←EntryCells.newEntry head a .none (rawInt L) .none pl;setField (.ref e) 1 b) Q E s:=by
 have hnf:e∉(env :: outer).filterMap (·.frame):=fun z=>by
  obtain⟨_,o,ho,nf⟩:=hl.mem z
  rw[he] at ho
  cases ho
  exact nf vs hd
 refine wpAny_bind (wpAny_frameOf_fun hfr hl hf fun h1 s1=>wpAny_bind (wpAny_entryPlaceOf fun pl hpl=>?_))
 unfold EntryCells.newEntry newFields
 refine wpAny_bind (wpAny_newObj_type ?_ (hpl.sizeOk5 _ _ _ _ _))
 have e1:h1.get? e=some oe:=(s1.2.1 e hnf).trans he
 have e2:=fun o=>Heap.get?_push_of_some (h:=h1) o e1
 refine wpAny_setField (e2 _) hd hsz ?_
 have hne:h1.objs.size≠e:=Nat.ne_of_gt (Heap.lt_size e1)
 have fd:=Obj.data_mapFields hd (·.setIfInBounds 1 (Value.ref h1.objs.size))
 have m1:Mv (frs (env :: outer)) [e] s.heap h1:=Mv.of_slots s1
 refine k _ h1.objs.size _ _ ((m1.trans (Mv.push _)).trans (Mv.upd (List.mem_singleton.mpr rfl) (e2 _) (Obj.isFreed_of_fields fd))) ?_ hne (Heap.get?_update_self _ (e2 _) (Obj.isFreed_of_fields fd)) ((Heap.get?_update_other _ _ (Ne.symm hne)).trans (Heap.get?_push_size h1 rfl)) rfl ?_
 ·rw[s1.1];exact Nat.le_refl _
 ·first | (simp;done) | (rcases hpl with rfl | ⟨_,_,_,_,_,_,_,rfl⟩ <;> simp)
end
section
variable {M:Model}{A:Around}{E:Value→Shared→Prop}{s:Shared}{base h₀:Heap}{H:Hp}{env:Env}{outer:List Env}{L e:Addr}{C:Value}{od:Option Addr}{Q:Unit→Shared→Prop}
def Wu (h₀:Heap) (H:Hp) (ch:List Addr):Prop:=∀ b∈ch,H b=none∧h₀.get? b=none
theorem Ay (oe:Obj) (f:Array Value→Array Value):(oe.mapFields f).cls=oe.cls:=Obj.cls_mapFields _ _
theorem xm (oe:Obj) (f:Array Value→Array Value):(oe.mapFields f).dict=oe.dict:=by
 obtain⟨c,d,dt,sl⟩:=oe
 cases dt <;> rfl
theorem GK {fl:Option Value} (hfr:A.frames=some (env :: outer)) (hl:s.heap.FunFrames base (env :: outer)) (hf:env.frame=some L)
  (x:Exc h₀ H s.heap e C od fl) (hfl:fl=none∨fl=some .none∨fl=some (rawInt L))
  (ht:∀ b o,h₀.get? b=some o→∃ o',s.heap.get? b=some o') (hH:∀ b,s.heap.objs.size≤b→H b=none)
  (k:∀ h' ch,Wu h₀ H ch→Mv (frs (env :: outer)) ch s.heap h'→Exc h₀ H h' e C od (some (rawInt L))→Q () { s with heap:=h' }) :
  wpAny M A (noteFrame (.ref e) env) Q E s:=by
 obtain⟨fr,nw,oe,vs,he,hc,hdi,hd,fa⟩:=x
 have aan:∀ T,s.heap.get? T=none→h₀.get? T=none:=fun T hT=>by
  cases q:h₀.get? T with
  | none=>rfl
  | some o=>obtain⟨o',z⟩:=ht T o q;rw[hT] at z;cases z
 unfold noteFrame
 simp only[hf]
 rcases hfl with rfl | rfl | rfl
 ·obtain⟨h1,Wv⟩:=fa
  refine wpAny_bind (wpAny_field he hd h1 ?_)
  rw[if_neg (by decide)]
  have hsz:=(Array.getElem?_eq_some_iff.mp h1).1
  refine DE hfr hl hf he hd hsz fun h' T oT ts m zT hne e1 eT dT t3=>?_
  have nT:s.heap.get? T=none:=Heap.get?_none_of_le zT
  have hT:H T=none:=hH T zT
  refine k h' [e] (fun b hb=>?_) m ⟨fr,nw,_,_,e1,(Ay _ _).trans hc,(xm _ _).trans hdi,Obj.data_mapFields hd _,T,oT,ts,by simp[hsz],hT,aan T nT,hne,eT,dT,t3,by rw[Array.getElem?_setIfInBounds_ne (by decide)];exact Wv⟩
  rw[List.mem_singleton.mp hb]
  exact⟨fr,nw⟩
 ·obtain⟨T0,o0,t0,h1,n0,w0,Vx,q0,d0,z3,Wv⟩:=fa
  refine wpAny_bind (wpAny_field he hd h1 ?_)
  rw[if_pos (show(Value.ref T0 != Value.none)=true from by simp)]
  refine wpAny_bind (wpAny_field q0 d0 z3 ?_)
  rw[if_neg (show ¬((Value.none == rawInt L)=true) from by simp[rawInt])]
  have z3s:=(Array.getElem?_eq_some_iff.mp z3).1
  refine wpAny_bind (wpAny_setField q0 d0 z3s ?_)
  have hsz:=(Array.getElem?_eq_some_iff.mp h1).1
  have m0:Mv (frs (env :: outer)) [e,T0] s.heap (s.heap.update T0 (Obj.mapFields (·.setIfInBounds 3 Value.none))) :=
   Mv.upd (List.mem_cons_of_mem _ (List.mem_singleton.mpr rfl)) q0 (Obj.isFreed_of_fields (Obj.data_mapFields d0 _))
  have Vy:(s.heap.update T0 (Obj.mapFields (·.setIfInBounds 3 Value.none))).get? e=some oe:=(Heap.get?_update_other _ _ Vx).trans he
  have hl1:(s.heap.update T0 (Obj.mapFields (·.setIfInBounds 3 Value.none))).FunFrames base (env :: outer):=m0.frames hl fun b hb o q=>by
   rcases List.mem_cons.mp hb with rfl | hb
   ·rw[he] at q;cases q;exact⟨vs,hd⟩
   ·rw[List.mem_singleton.mp hb,q0] at q;cases q;exact⟨t0,d0⟩
  have zs:(s.heap.update T0 (Obj.mapFields (·.setIfInBounds 3 Value.none))).objs.size=s.heap.objs.size:=Heap.size_after_update ..
  refine DE (s:={ s with heap:=s.heap.update T0 (Obj.mapFields (·.setIfInBounds 3 Value.none)) }) hfr hl1 hf Vy hd hsz fun h' T oT ts m zT hne e1 eT dT t3=>?_
  have zT:s.heap.objs.size≤T:=by rw[←zs];exact zT
  have nT:s.heap.get? T=none:=Heap.get?_none_of_le zT
  refine k h' [e,T0] (fun b hb=>?_) (m0.trans (m.mono (fun _ z=>z) fun b z=>by rw[List.mem_singleton.mp z];exact List.mem_cons_self)) ⟨fr,nw,_,_,e1,(Ay _ _).trans hc,(xm _ _).trans hdi,Obj.data_mapFields hd _,T,oT,ts,by simp[hsz],hH T zT,aan T nT,hne,eT,dT,t3,by rw[Array.getElem?_setIfInBounds_ne (by decide)];exact Wv⟩
  rcases List.mem_cons.mp hb with rfl | hb
  ·exact⟨fr,nw⟩
  ·rw[List.mem_singleton.mp hb];exact⟨n0,w0⟩
 ·obtain⟨T0,o0,t0,h1,n0,w0,Vx,q0,d0,z3,Wv⟩:=fa
  refine wpAny_bind (wpAny_field he hd h1 ?_)
  rw[if_pos (show(Value.ref T0 != Value.none)=true from by simp)]
  refine wpAny_bind (wpAny_field q0 d0 z3 ?_)
  rw[if_pos (show(rawInt L == rawInt L)=true from by simp)]
  refine wpAny_pure ?_
  exact k s.heap [] (fun b hb=>nomatch hb) Mv.refl ⟨fr,nw,oe,vs,he,hc,hdi,hd,T0,o0,t0,h1,n0,w0,Vx,q0,d0,z3,Wv⟩
theorem Az {v:Value} (x:Exc h₀ H s.heap e C od (some v)) (k:∀ h' ch,Wu h₀ H ch→Mv [] ch s.heap h'→Exc h₀ H h' e C od (some .none)→Q () { s with heap:=h' }) :
  wpAny M A (setFlight (.ref e) none) Q E s:=by
 obtain⟨fr,nw,oe,vs,he,hc,hdi,hd,T,oT,ts,h1,n0,w0,Vx,q0,d0,z3,Wv⟩:=x
 have hsz:=(Array.getElem?_eq_some_iff.mp z3).1
 refine wpAny_setFlight_none he hd h1 q0 d0 hsz (k _ [T] (fun b hb=>?_) (Mv.upd (List.mem_singleton.mpr rfl) q0 (Obj.isFreed_of_fields (Obj.data_mapFields d0 _))) ⟨fr,nw,oe,vs,(Heap.get?_update_other _ _ Vx).trans he,hc,hdi,hd,T,_,_,h1,n0,w0,Vx,Heap.get?_update_self _ q0 (Obj.isFreed_of_fields (Obj.data_mapFields d0 _)),Obj.data_mapFields d0 _,by simp[hsz],Wv⟩)
 rw[List.mem_singleton.mp hb]
 exact⟨n0,w0⟩
theorem M0 {fl:Option Value} (hfr:A.frames=some (env :: outer)) (hl:s.heap.FunFrames base (env :: outer)) (hf:env.frame=some L)
  (x:Exc h₀ H s.heap e C od fl) (hfl:fl=none∨fl=some .none∨fl=some (rawInt L))
  (ht:∀ b o,h₀.get? b=some o→∃ o',s.heap.get? b=some o') (hH:∀ b,s.heap.objs.size≤b→H b=none)
  (k:∀ h' ch,Wu h₀ H ch→Mv (frs (env :: outer)) ch s.heap h'→Exc h₀ H h' e C od (some .none)→Q () { s with heap:=h' }) :
  wpAny M A (leaving env (.ref e)) Q E s:=by
 unfold leaving
 refine wpAny_bind (GK hfr hl hf x hfl ht hH fun h1 c1 k1 m1 x1=>?_)
 refine Az x1 fun h2 c2 k2 m2 x2=>?_
 refine k h2 (c1++c2) (fun b hb=>(List.mem_append.mp hb).elim (k1 b) (k2 b)) ((m1.mono (fun _ z=>z) fun b z=>List.mem_append_left _ z).trans (m2.mono (fun b z=>nomatch z) fun b z=>List.mem_append_right _ z)) x2
end
section
variable {X:Cx}{pins:List (Addr×Obj)}{σ σ':St}{H H':Hp}{s s1:Shared}
theorem Inv.mv {h':Heap}{ch:List Addr} (I:Inv X pins σ H s) (J:Inv X pins σ' H' s1) (m:Mv (frs X.stack) ch s1.heap h') (hc:∀ b∈ch,H' b=none∧s.heap.get? b=none):Inv X pins σ' H' { s1 with heap:=h' }:=by
 have SM:∀ b o,s.heap.get? b=some o→b∉ch:=fun b o e z=>by rw[(hc b z).2] at e;cases e
 have n0:∀ b o,X.s₀.heap.get? b=some o→b∉X.ex→b∉ch:=fun b o e hx=>let ⟨o',e'⟩:=I.base.there b o e hx;SM b o' e'
 have neL:∀ b o,X.s₀.heap.get? b=some o→b≠X.env.locals:=fun b o e=>Nat.ne_of_lt (Nat.lt_of_lt_of_le (Heap.lt_size e) I.ok.above)
 have nst:∀ b,b≠X.env.locals→b∉X.fs→b∉frs X.stack:=fun b h1 h2 z=>(List.mem_cons.mp (I.Aa b z)).elim h1 h2
 have cellK:∀ x c,X.env.cells.lookup x=some c→∀ v,s1.heap.IsCell c v→Heap.IsCell h' c v:=fun x c e v ⟨o,ho,hd⟩=>by
  obtain⟨v0,o0,e0,_⟩:=I.cell x c e
  obtain⟨sl,q⟩:=m.slot c o (SM c o0 e0) ho
  exact⟨_,q,hd⟩
 have afC:∃ o,s.heap.get? X.env.locals=some o:=let ⟨m',⟨o,_,_,ho,_⟩,_⟩:=I.loc;⟨o,ho⟩
 obtain⟨oL,eL⟩:=afC
 refine⟨J.ok,J.os,J.bare,⟨fun b o e n hb hx=>m.keep b o (n0 b o e hx) (nst b (neL b o e) hb) (J.base.keep b o e n hb hx),fun b o e n hb hx=>?_,J.base.free,fun b o e hx=>?_,J.base.tups,J.base.wZ,J.base.yQ⟩,?_,fun x c e=>?_,J.free,J.ly,fun p hp=>?_,fun a o e=>?_,J.len⟩
 ·obtain⟨sl,e1⟩:=J.base.slot b o e n hb hx
  obtain⟨sl2,e2⟩:=m.slot b _ (n0 b o e hx) e1
  exact⟨sl2,e2⟩
 ·obtain⟨o',e1⟩:=J.base.there b o e hx
  exact m.there b o' e1
 ·obtain⟨mm,⟨o,es,ep,ho,r⟩,hl⟩:=J.loc
  obtain⟨sl,q⟩:=m.slot _ o (SM _ oL eL) ho
  refine⟨mm,⟨_,es,ep,q,r⟩,fun i x v e1 e2 e3=>?_⟩
  obtain⟨u,r1,l⟩:=hl i x v e1 e2 e3
  refine⟨u,r1,?_⟩
  rcases l with l | ⟨k,c,e,z⟩
  ·exact .inl l
  ·exact .inr ⟨k,c,e,cellK x c e _ z⟩
 ·obtain⟨v,z⟩:=J.cell x c e
  exact⟨v,cellK x c e v z⟩
 ·obtain⟨e0,_,_,_,_⟩:=I.pin p hp
  obtain⟨e,n,ne,nf,d⟩:=J.pin p hp
  exact⟨m.keep p.1 p.2 (SM _ _ e0) (nst _ ne nf) e,n,ne,nf,d⟩
 ·refine(J.hok a o e).stay (fun b u hb q=>m.keep b u (fun z=>?_) (fun z=>?_) q) (fun _ q=>q) fun _ _ q=>q
  ·have:=(hc b z).1
   rcases hb with rfl | hb
   ·rw[this] at e;cases e
   ·rw[this] at hb;cases hb
  ·have:=J.D6 b z
   rcases hb with rfl | hb
   ·rw[this] at e;cases e
   ·rw[this] at hb;cases hb
def zV (P:Program) (w:World):MI:=fun outer H s E e s'=>∃ ea C od H',e=.ref ea∧s'.os=s.os∧AllBare s'.gens∧Un (frs outer) [] H H' s.heap s'.heap∧wX P w H' s'.heap∧Exc s.heap H' s'.heap ea C od (some .none)∧E C od H'
theorem Exc.older {h₀ h1 h:Heap}{H:Hp}{e:Addr}{C:Value}{od:Option Addr}{fl:Option Value} (x:Exc h1 H h e C od fl) (ht:∀ b,h1.get? b=none→h₀.get? b=none):Exc h₀ H h e C od fl:=by
 obtain⟨fr,nw,oe,vs,he,hc,hdi,hd,fa⟩:=x
 refine⟨fr,ht _ nw,oe,vs,he,hc,hdi,hd,?_⟩
 cases fl with
 | none=>exact fa
 | some v=>obtain⟨T,oT,ts,h1,n0,w0,r⟩:=fa;exact⟨T,oT,ts,h1,n0,ht _ w0,r⟩
theorem leaveX {E:XK}{E':Value→Shared→Prop}{ea:Addr}{C:Value}{od:Option Addr}{fl:Option Value} (hst:X.stack=X.env :: X.outer) (hfm:X.env.frame=some X.env.locals) (hex:X.ex=[])
  (I:Inv X pins σ H s) (J:Inv X pins σ' H' s1) (ht:∀ b o,s.heap.get? b=some o→∃ o',s1.heap.get? b=some o') (x:Exc s.heap H' s1.heap ea C od fl) (hfl:fl=none∨fl=some .none∨fl=some (rawInt X.env.locals)) (hE:E C od H') :
  wpAny (model X.prog X.w) X.A (leaving X.env (.ref ea)) (fun _ s''=>zV X.prog X.w X.outer X.H₀ X.s₀ E (.ref ea) s'') E' s1:=by
 have hl:=J.stack
 rw[hst] at hl
 refine M0 (J.ok.frames.trans (by rw[hst])) hl hfm x hfl ht (fun b hb=>J.hok.fresh hb) fun h' ch hc m x'=>?_
 have K:=I.mv J (h':=h') (by rw[hst];exact m) hc
 have old:∀ b,s.heap.get? b=none→X.s₀.heap.get? b=none:=fun b hb=>by
  cases q:X.s₀.heap.get? b with
  | none=>rfl
  | some o=>obtain⟨o',z⟩:=I.base.there b o q (by rw[hex];simp);rw[hb] at z;cases z
 have U:=K.base
 rw[hex] at U
 exact⟨ea,C,od,H',rfl,J.os,J.bare,U,K.hok,x'.older old,hE⟩
end
section
variable {P:Program}{w:World}{K:W.Frag}{mg:Str→Option Value}{base:Heap}{N:List Str}{qual:Str}{scope:Scope}{f:Addr}{cd:Value}{A:Around}{outer:List Env}{s:Shared}{H:Hp}{E:XK}
theorem QF:Passes (zV P w) (tO (zV P w) P w K mg base N qual scope f cd A outer s H E) E:=by
 rintro pins σ H1 s1 e s' I ⟨ea,C,od,H',rfl,os,bare,un,hok,x,hE⟩
 have J:=I.Ly os un hok bare (fun b z=>nomatch z)
 exact leaveX (X:=tO (zV P w) P w K mg base N qual scope f cd A outer s H E) rfl rfl rfl I J (fun b o q=>un.there b o q (by simp)) x (.inr (.inl rfl)) hE
theorem gC.okE {x:Str}{st:Stmt}{fd:FuncData}{ps:List Str}{k:Nat}{sp:Sp} (F:gC K x qual st f fd) (S:aG N ps (aA st)) (len:∀ vs H Q E,sp vs H Q E→vs.length=ps.length)
  (hbody:∀(cdv:Value) (A:Around) (outer:List Env) (s:Shared) (H:Hp) (vs:List V) (Q:VK) (E:XK),gE k (A.deeper (envOfC qual (aA st) s.heap.objs.size f cdv))→sp vs H Q E →
   ∃ t,Gb (tO (zV P w) P w K mg base N qual (aA st) f cdv A outer s H E) (cT st) t∧t { nx:=fun _ H'=>Q .non H',rt:=Q } (start N vs) H):aM P w K mg base (zV P w) (k+1) f fd ps sp:=by
 obtain⟨oc,od,kV,doc,pm,an,cdv,ct,osl,rfl,lk,hcd⟩:=F.ex
 exact PN lk hcd S len fun A outer s H vs Q E hr Ja=>hbody cdv A outer s H vs Q E hr Ja
end
theorem eY.ex {P:Program}{w:World}{H:Hp}{h:Heap}{a:Addr}{o:HO} (x:eY P w H h a o):∃ u,h.get? a=some u:=by
 cases o with
 | lst xs=>obtain⟨_,_,_,_,e⟩:=x;exact⟨_,e⟩
 | tup xs=>obtain⟨_,_,_,ob,e,_⟩:=x;exact⟨_,e⟩
 | dK kvs=>obtain⟨_,_,_,_,o,_,_,e,_⟩:=x;exact⟨_,e⟩
 | dT kvs=>obtain⟨_,_,_,_,o,_,_,e,_⟩:=x;exact⟨_,e⟩
 | set S n=>obtain⟨o,_,_,_,e,_⟩:=x;exact⟨_,e⟩
 | ins C dx fs=>obtain⟨_,_,_,e,_⟩:=x;exact⟨_,e⟩
 | own y=>exact x
 | xd fs=>obtain⟨_,⟨_,_,_,e,_⟩,_⟩:=x;exact⟨_,e⟩
 | rng lo hi=>obtain⟨_,_,_,e⟩:=x;exact⟨_,e⟩
 | IK ob u=>obtain⟨e,_⟩:=x;exact⟨_,e⟩
 | Vh ps=>exact⟨_,x⟩
 | met f y=>exact⟨_,x⟩
 | ext φ=>exact x.2.1
theorem wX.none {P:Program}{w:World}{H:Hp}{h:Heap}{a:Addr} (x:wX P w H h) (e:h.get? a=Option.none):H a=Option.none:=by
 cases q:H a with
 | none=>rfl
 | some u=>obtain⟨o,z⟩:=(x a u q).ex;rw[e] at z;cases z
abbrev jw:List Value:=[.type "ValueError",.type "Exception",.type "BaseException",.type "object"]
structure cA (K:W.Frag) (C N:Addr) (bm:List Value) (ini:Option Value):Prop where
 ob:∃ nm q bs hdct sn sub ab col dd k0 k1 k2 k3 k5,K.lookup C=some (excClassObj nm q C N bs bm hdct sn sub ab col dd k0 k1 k2 k3 k5 "ValueError.__new__")
 ns:∃ oc od es n sl,K.lookup N=some ⟨oc,od,.dict es n,sl⟩∧(es.toList.all fun e=>match e.key with | .str _ _=>true | _=>false)=true
 ini:W.nsIn K N "__init__" = some ini
def B5 (K:W.Frag) (bm:List Value):Prop:=bm=jw∨∃ D ND,bm=.ref D :: jw∧cA K D ND jw none
section
variable {K:W.Frag}{h:Heap}{C N:Addr}{bm:List Value}{ini:Option Value}
theorem cA.names (x:cA K C N bm ini):∃ m:Str→Option Value,m "__init__" = ini∧∀ h,K.In h→h.Ns N m:=by
 obtain⟨oc,od,es,n,sl,lk,al⟩:=x.ns
 have sk:StrKeys es:=fun e he=>by
  have z:=List.all_eq_true.mp al e (by simpa using he)
  revert z
  cases e.key <;> intro z <;> first | exact⟨_,_,rfl⟩ | cases z
 refine⟨nsFind es,?_,fun h j8=>⟨_,es,n,j8 _ _ lk,rfl,sk,fun _=>rfl⟩⟩
 have e:=x.ini
 unfold W.nsIn at e
 rw[lk] at e
 dsimp only at e
 unfold nsFind findBy
 rw[←Array.find?_toList]
 cases q:es.toList.find? (·.key.isStr "__init__") with
 | some en =>
  rw[q] at e
  exact Option.some.inj e
 | none =>
  rw[q] at e
  dsimp only at e
  split at e
  ·cases e
  ·exact Option.some.inj e
theorem cA.obj (x:cA K C N bm ini) (j8:K.In h):∃ nm q bs hdct sn sub ab col dd k0 k1 k2 k3 k5,h.get? C=some (excClassObj nm q C N bs bm hdct sn sub ab col dd k0 k1 k2 k3 k5 "ValueError.__new__"):=by
 obtain⟨nm,q,bs,hdct,sn,sub,ab,col,dd,k0,k1,k2,k3,k5,e⟩:=x.ob
 exact⟨nm,q,bs,hdct,sn,sub,ab,col,dd,k0,k1,k2,k3,k5,j8 _ _ e⟩
theorem B5.tail (x:B5 K bm) (j8:K.In h):OwnTail h jw bm:=by
 rcases x with rfl | ⟨D,ND,rfl,d⟩
 ·exact .base
 ·obtain⟨nm,q,bs,hdct,sn,sub,ab,col,dd,k0,k1,k2,k3,k5,e⟩:=d.obj j8
  obtain⟨m,mi,mn⟩:=d.names
  exact .own e (mn h j8) mi .base
theorem B5.base (x:B5 K bm):bm.contains (.type "BaseException")=true:=by
 rcases x with rfl | ⟨D,ND,rfl,d⟩
 ·decide
 ·rw[List.contains_cons];rfl
end
section
variable {P:Program}{w:World}{K:W.Frag}{mg:Str→Option Value}{base:Heap}{N0:List Str}{qual:Str}{scope:Scope}{f:Addr}{cd:Value}{A:Around}{outer:List Env}{s0:Shared}{H0:Hp}{E:XK}
def Ww (E:XK) (C:Addr) (t:TA):TS:=fun _ σ H=>t σ H fun vs H1=>vs.length≤sizeLine∧E (.ref C) none H1
theorem GL {X:Cx} (hX:X=tO (zV P w) P w K mg base N0 qual scope f cd A outer s0 H0 E) {C N:Addr}{bm:List Value}{x:Str}{np cpos pos:Pos}{e:Expr}{es:List Expr}{t:TA} (c:cA K C N bm none) (tl:B5 K bm)
  (hg:Gl X x) (hm:mg x=some (.ref C)) (ha:PA X (e :: es) t) (hdb:(x == ("__debug__" : Str))=false:=by decide) (he:starEach (e :: es) X.env=(false,eval e X.env) :: starEach es X.env:=by rfl)
  (hpl:(backTo cpos (starEach es X.env)).any (·.1)=false:=by rfl):PS X (.Raise (some (.Call (.Name x np) (e :: es) [] cpos)) none pos) (Ww E C t):=by
 intro pins s σ H D I h
 obtain⟨nm,q,bs,hdct,sn,sub,ab,col,dd,k0,k1,k2,k3,k5,lk⟩:=c.ob
 obtain⟨m,mi,mn⟩:=c.names
 have hx:X.xe=fun (e:Value) (s':Shared)=>wpAny (model X.prog X.w) X.A (leaving X.env e) (fun _ s''=>zV X.prog X.w X.outer X.H₀ X.s₀ E e s'') (fun e' s''=>zV X.prog X.w X.outer X.H₀ X.s₀ E e' s'') s':=by subst hX;rfl
 have afD:(backTo cpos (starEach (e :: es) X.env)).any (·.1)=false:=by rw[he];exact hpl
 have hst:X.stack=X.env :: X.outer:=by subst hX;rfl
 have hfm:X.env.frame=some X.env.locals:=by subst hX;rfl
 have hex:X.ex=[]:=by subst hX;rfl
 have hmg:X.mg x=some (.ref C):=by subst hX;exact hm
 have QG:X.calm=true:=by subst hX;rfl
 have hK:X.K=K:=by subst hX;rfl
 refine wpAny_Raise_call_subU (C:=C) (nm:=nm) (q:=q) (N:=N) (bs:=bs) (bm:=bm) (hdct:=hdct) (sn:=sn) (sub:=sub) (ab:=ab) (col:=col) (dd:=dd) (k0:=k0) (k1:=k1) (k2:=k2) (k3:=k3) (k5:=k5) (newId := "ValueError.__new__")
  PySem.F.excBase_ValueError (by decide) PySem.F.excBase_ValueError (mN:=m) tl.base (I.ok.hd QG) afD mi (mw I hg hmg ⟨rfl,?_⟩ hdb)
 have z:=ha cpos pins s σ H _ I h
 rw[he] at z ⊢
 refine Calls.evalArgs_plain (dF z fun us s1 ⟨vs,H1,I1,r,hl,hE⟩=>?_)
 have j8:K.In s1.heap:=by rw[←hK];exact I1.nU
 refine⟨rfl,by show us.length≤sizeLine;rw[←r.length];exact hl,j8 _ _ lk,mn _ j8,tl.tail j8,fun h' ea md=>?_⟩
 obtain⟨ta,q1,_,_⟩:=md.there
 rw[hx]
 exact leaveX (fl:=none) hst hfm hex I1 (I1.kept (t':=s1.toks) md.keeps) (fun b o q=>⟨o,md.keeps b o q⟩) ⟨I1.hok.none md.new,md.new,_,_,q1,rfl,rfl,rfl,rfl,rfl⟩ (.inl rfl) hE
end
section
abbrev TEx:=St→Hp→VK→XK→Prop
abbrev TSx:=Ends→XK→St→Hp→Prop
def XP (X:Cx) (pins:List (Addr×Obj)) (σ:St) (Ex:XK) (e:Value) (s':Shared):Prop :=
 ∃ ea C od H' s2 H2,e=.ref ea∧Inv X pins σ H2 s2∧Inv X pins σ H' s'∧(∀ b o,s2.heap.get? b=some o→∃ o',s'.heap.get? b=some o')∧Exc s2.heap H' s'.heap ea C od (some .none)∧Ex C od H'
def PEx (X:Cx) (e:Expr) (t:TEx):Prop :=
 ∀(pins:List (Addr×Obj)) (s:Shared) (σ:St) (H:Hp) (Q:VK) (Ex:XK),Inv X pins σ H s→t σ H Q Ex→wpAny (model X.prog X.w) X.A (eval e X.env) (EP X pins σ Q) (XP X pins σ Ex) s
def PSx (X:Cx) (st:Stmt) (t:TSx):Prop :=
 ∀(pins:List (Addr×Obj)) (s:Shared) (σ:St) (H:Hp) (D:Ends) (Ex:XK),Inv X pins σ H s→t D Ex σ H→wpAny (model X.prog X.w) X.A (exec st X.env) (SP X pins D) (XP X pins σ Ex) s
def aao (X:Cx) (st:List Stmt) (t:TSx):Prop :=
 ∀(pins:List (Addr×Obj)) (s:Shared) (σ:St) (H:Hp) (D:Ends) (Ex:XK),Inv X pins σ H s→t D Ex σ H→wpAny (model X.prog X.w) X.A (execs st X.env) (SP X pins D) (XP X pins σ Ex) s
variable {X:Cx}{k:Nat}{f C:Addr}{fd:FuncData}{ps:List Str}{sp:Sp}{vn:List V}{ds:List Value}{x m:Str}{p pos apos:Pos}{e o:Expr}{es:List Expr}{ta:TE}{t:TA}{te:TEx}
theorem afE {α:Type}{u:Sem α}{Q Q':α→Shared→Prop}{M:Model}{A:Around}{E:Value→Shared→Prop}{s:Shared} (h:wpAny M A u Q (fun _ _=>False) s) (hQ:∀ a s,Q a s→Q' a s):wpAny M A u Q' E s:=wpAny_mono h hQ fun _ _ z=>z.elim
theorem TX {pins:List (Addr×Obj)}{σ:St}{H:Hp}{s:Shared}{Q:VK}{Ex:XK}{us:List Value}{vs:List V} (F:aM X.prog X.w X.K X.mg X.base (zV X.prog X.w) k f fd ps sp) (hr:gE k X.A) (hb:Binds X.K fd ps ds) (hd:Vals vn ds)
  (I:Inv X pins σ H s) (r:Vals vs us) (h:sp (vs++vn) H Q Ex):wpAny (model X.prog X.w) X.A (call (.ref f) us) (EP X pins σ Q) (XP X pins σ Ex) s:=by
 have r2:Vals (vs++vn) (us++ds):=r.append hd
 have hl:(us++ds).length=ps.length:=by rw[←r2.length];exact F.len _ _ _ _ h
 refine wpAny_call (codeAny_mono (F.run X.A X.stack s H ⟨us,[]⟩ (us++ds) (vs++vn) Q Ex hr I.PK (hb s us I.nU hl) r2 h) fun r s' hq=>?_)
 cases r with
 | error e =>
  obtain⟨ea,C,od,H',rfl,os,bare,un,hok,y,hE⟩:=hq
  exact⟨ea,C,od,H',s,H,rfl,I,I.Ly os un hok bare (fun b z=>nomatch z),fun b o q=>un.there b o q (by simp),y,hE⟩
 | ok fl =>
  cases fl with
  | ret u=>exact I.after hq
  | next=>exact False.elim hq
  | brk=>exact False.elim hq
  | cont=>exact False.elim hq
def Wx (sp:Sp) (vn:List V) (t:TA):TEx:=fun σ H Q Ex=>t σ H fun vs H1=>sp (vs++vn) H1 Q Ex
theorem QH (F:aM X.prog X.w X.K X.mg X.base (zV X.prog X.w) k f fd ps sp) (hr:gE k X.A) (hg:Gl X x) (hm:X.mg x=some (.ref f)) (hk:W.keepIn X.K (.ref f)=true) (hb:Binds X.K fd ps ds) (hd:Vals vn ds)
  (ha:PA X.VU (e :: es) t) (hdb:(x == ("__debug__" : Str))=false:=by decide) (he:starEach (e :: es) X.env=(false,eval e X.env) :: starEach es X.env:=by rfl) (hpl:(backTo pos (starEach es X.env)).any (·.1)=false:=by rfl) :
  PEx X (.Call (.Name x p) (e :: es) [] pos) (Wx sp vn t):=by
 intro pins s σ H Q Ex I h
 refine wpAny_Call_Name_kw (mw I hg hm ?_ hdb)
 refine W.callWith_K (h₀:=X.base) I.ok.mod.j8 hk (afE (ha pos pins s σ H _ (I.Ad _) h) fun us s1 ⟨vs,H1,I1,r,q⟩=>⟨I1.oM.nU,?_⟩) he hpl
 exact TX F hr hb hd I1.oM r q
theorem TY {i:Nat}{pos':Pos} (hN:X.N.Nodup) (hi:X.N[i]? = some x) (hx:Loc X.env.scope x) (he:PEx X e te) (hs:swapsWith e (some (.Name x pos')) pos.line X.env=pure false:=by rfl) (hf:X.fn x=true∨X.env.scope.names.lookup x=some .local:=by first | exact .inl rfl | exact .inr rfl | assumption) :
  PSx X (.Assign [.Name x pos'] e pos) (fun D Ex σ H=>te σ H (fun v H1=>D.nx (σ.set i (some v)) H1) Ex):=by
 intro pins s σ H D Ex I h
 refine wpAny_Assign_Name (dF (he pins s σ H _ _ I h) fun v s1 ⟨y,H1,I1,r1,q1⟩=>?_) hs
 exact vo I1 hN hi hx r1 (fun s2 I2=>⟨_,H1,I2,q1⟩) hf
theorem QI {st:Stmt}{ts:TSx} (h1:PSx X st ts):aao X [st] ts:=by
 intro pins s σ H D Ex I h
 refine wpAny_execs_cons (dF (h1 pins s σ H D Ex I h) fun f s1 q=>?_)
 cases f with
 | next=>exact wpAny_execs_nil q
 | ret v=>exact q
 | brk=>exact q
 | cont=>exact q
end
def vE (e:Addr) (C:Value) (od:Option Addr):HO:=.ext fun h=>∃ o vs,h.get? e=some o∧o.cls=C∧o.dict=od∧o.data=.fields vs∧vs[2]? = some .none
theorem M1 {e:Addr}{C:Value}{od:Option Addr}:∀ h1 h2:Heap,(∃ o vs,h1.get? e=some o∧o.cls=C∧o.dict=od∧o.data=.fields vs∧vs[2]? = some .none)→(∀ o,h1.get? e=some o→h2.get? e=some o)→∃ o vs,h2.get? e=some o∧o.cls=C∧o.dict=od∧o.data=.fields vs∧vs[2]? = some .none :=
 fun _ _ ⟨o,vs,q,r⟩ k=>⟨o,vs,k o q,r⟩
theorem aap {P:Program}{w:World}{H:Hp}{h:Heap}{e:Addr}{C:Value}{od:Option Addr} (x:∃ o vs,h.get? e=some o∧o.cls=C∧o.dict=od∧o.data=.fields vs∧vs[2]? = some .none):eY P w H h e (vE e C od) :=
 ⟨x,(let ⟨o,_,q,_⟩:=x;⟨o,q⟩),M1⟩
section
variable {X:Cx}{pins:List (Addr×Obj)}{σ σ':St}{H H':Hp}{s s1:Shared}
theorem Inv.QJ {a:Addr}{o:HO} (I:Inv X pins σ H s) (J:Inv X pins σ' H' s1) (hex:X.ex=[]) (hn:H' a=none) (hw:s.heap.get? a=none) (new:eY X.prog X.w (upd H' a o) s1.heap a o):Inv X pins σ' (upd H' a o) s1:=by
 have ne:∀ b u,s.heap.get? b=some u→b≠a:=fun b u e z=>by rw[z,hw] at e;cases e
 have Vx:∀ b u,X.s₀.heap.get? b=some u→b≠a:=fun b u e=>let ⟨o',e'⟩:=I.base.there b u e (by rw[hex];simp);ne b o' e'
 refine⟨J.ok,J.os,J.bare,⟨J.base.keep,J.base.slot,fun b u e n hx=>?_,J.base.there,fun b xs e=>?_,fun b u v e=>?_,fun b ps e=>?_⟩,J.loc,J.cell,?_,fun x c e=>?_,fun p hp=>?_,fun b u e=>?_,J.len⟩
 ·rw[aF (Vx b u e)];exact J.base.free b u e n hx
 ·have z:=J.base.tups b xs e
  rw[aF (aW z hn)];exact z
 ·have z:=J.base.wZ b u v e
  rw[aF (aW z hn)];exact z
 ·obtain⟨more,z⟩:=J.base.yQ b ps e
  exact⟨more,by rw[aF (aW z hn)];exact z⟩
 ·obtain⟨m,⟨oL,_,_,eL,_⟩,_⟩:=I.loc
  rw[aF (ne _ _ eL)];exact J.free
 ·obtain⟨v,oc,ec,_⟩:=I.cell x c e
  rw[aF (ne _ _ ec)];exact J.ly x c e
 ·obtain⟨e0,_⟩:=I.pin p hp
  obtain⟨e1,n1,r⟩:=J.pin p hp
  exact⟨e1,by rw[aF (ne _ _ e0)];exact n1,r⟩
 ·by_cases hb:b=a
  ·subst hb;rw[ah] at e;cases e;exact new
  ·rw[aF hb] at e
   exact(J.hok b u e).stay (fun c v _ q=>q) (fun c q=>by rw[aF (aW q hn)];exact q) fun c xs q=>by rw[aF (aW q hn)];exact q
theorem Inv.gone {i:Nat}{n:Str}{h':Heap}{v:Option Value}{tk:Nat}{m:Str→Option Value} (I:Inv X pins σ H s) (hN:X.N.Nodup) (hi:X.N[i]? = some n)
  (hm:s.heap.Ns X.env.locals m) (hn:h'.Ns X.env.locals (fun x=>if x=n then v else m x)) (hs:Heap.SameBut X.env.locals s.heap h'):Inv X pins (σ.set i none) H { s with heap:=h',toks:=tk }:=by
 obtain⟨m0,hn0,hl⟩:=I.loc
 have em:m0=m:=by
  obtain⟨o1,es1,ep1,q1,d1,_,f1⟩:=hn0
  obtain⟨o2,es2,ep2,q2,d2,_,f2⟩:=hm
  rw[q1] at q2
  cases q2
  rw[d1] at d2
  cases d2
  funext x
  rw[←f1,←f2]
 subst em
 have hil:i < σ.length:=by rw[I.len];exact(List.getElem?_eq_some_iff.mp hi).1
 have ab:∀ b o,X.s₀.heap.get? b=some o→b≠X.env.locals:=fun b o e=>Nat.ne_of_lt (Nat.lt_of_lt_of_le (Heap.lt_size e) I.ok.above)
 have hk:wX X.prog X.w H h':=fun b ob e=>by
  refine(I.hok b ob e).stay (fun c w' hc q=>(hs.2 c ?_).trans q) (fun _ q=>q) fun _ _ q=>q
  rintro rfl
  rcases hc with rfl | hc
  ·rw[I.free] at e;cases e
  ·rw[I.free] at hc;cases hc
 refine⟨I.ok,I.os,I.bare,⟨fun b o e n hb hx=>(hs.2 b (ab b o e)).trans (I.base.keep b o e n hb hx),fun b o e n hb hx=>?_,I.base.free,fun b o e hx=>?_,I.base.tups,I.base.wZ,I.base.yQ⟩,⟨_,hn,fun j y u e1 e2 e3=>?_⟩,fun y c e=>?_,I.free,I.ly,fun p hp=>?_,hk,by simpa using I.len⟩
 ·obtain⟨sl,e1⟩:=I.base.slot b o e n hb hx
  exact⟨sl,(hs.2 b (ab b o e)).trans e1⟩
 ·obtain⟨o',e1⟩:=I.base.there b o e hx
  exact⟨o',(hs.2 b (ab b o e)).trans e1⟩
 ·by_cases hj:j=i
  ·subst hj
   rw[List.getElem?_set_self hil] at e2
   cases e2
  ·rw[List.getElem?_set_ne (Ne.symm hj)] at e2
   obtain⟨u',r',q⟩:=hl j y u e1 e2 e3
   refine⟨u',r',?_⟩
   have hne:y≠n:=fun z=>hj (Ab hN e1 (z ▸ hi))
   rcases q with ⟨k,e⟩ | ⟨k,c,e,z⟩
   ·exact .inl ⟨k,by simp[hne,e]⟩
   ·exact .inr ⟨k,c,e,z.sameBut hs (I.S3 y c e)⟩
 ·obtain⟨w',z⟩:=I.cell y c e
  exact⟨w',z.sameBut hs (I.S3 y c e)⟩
 ·obtain⟨e,n,ne,nf,d⟩:=I.pin p hp
  exact⟨(hs.2 p.1 ne).trans e,n,ne,nf,d⟩
end
section
variable {M:Model}{A:Around}{E:Value→Shared→Prop}{K:W.Frag}{s:Shared}{C D N N' ea:Addr}{bm bm':List Value}{ini Wy:Option Value}{Q:Bool→Shared→Prop}
theorem GN {oe:Obj} (j8:K.In s.heap) (c:cA K C N bm ini) (d:cA K D N' bm' Wy) (td:B5 K bm') (he:s.heap.get? ea=some oe) (hc:oe.cls=.ref C) (h:Q ((Value.ref C :: bm).contains (.ref D)) s) :
  wpAny M A (excMatches (.ref ea) (.ref D)) Q E s:=by
 obtain⟨nm,q,bs,hdct,sn,sub,ab,col,dd,k0,k1,k2,k3,k5,lc⟩:=c.obj j8
 obtain⟨nm',q',bs',air,sn',sub',ab',col',Zk,k0',k1',k2',k3',k5',ld⟩:=d.obj j8
 have hB:(Value.ref D :: bm').contains (.type "BaseException")=true:=by rw[List.contains_cons,td.base];rfl
 have f:=tc_notTuple
 obtain⟨hp,g,dr,tk,os⟩:=s
 unfold excMatches
 repeat (first | (with_reducible refine wpAny_loadPart_at he ?_;rw[hc]) | with_reducible refine wpAny_loadPart_at ld ?_ | (with_reducible refine wpAny_isSubtype_exc ld ?_;rw[hB]) | with_reducible refine wpAny_isSubtype_exc lc ?_ | wp_step)
 cases hb:(Value.ref C :: bm).contains (.ref D) <;> (rw[hb] at h;wp_walk;exact h)
end
abbrev Cx.han (X:Cx) (ea:Addr):Cx:={ X with A:=X.A.mark (some (.ref ea)),calm:=false,xe:=fun _ _=>False }
section
variable {X:Cx}{pins:List (Addr×Obj)}{σ:St}{H:Hp}{s:Shared}{ea:Addr}
theorem Cx.Ok.han (ok:X.Ok) (ea:Addr):(X.han ea).Ok :=
 ⟨ok.mod,ok.kind,ok.glob,ok.blt,ok.above,ok.inj,ok.has,ok.VR,(fun z=>nomatch (show false=true from z)),ok.frames,ok.stk,ok.exf,ok.bs,ok.O9,ok.IL,ok.ME,ok.uE,ok.SK⟩
theorem Inv.han (I:Inv X pins σ H s) (ea:Addr):Inv (X.han ea) pins σ H s:=⟨I.ok.han ea,I.os,I.bare,I.base,I.loc,I.cell,I.free,I.ly,I.pin,I.hok,I.len⟩
theorem Inv.aaq (ok:X.Ok) (I:Inv (X.han ea) pins σ H s):Inv X pins σ H s:=⟨ok,I.os,I.bare,I.base,I.loc,I.cell,I.free,I.ly,I.pin,I.hok,I.len⟩
abbrev TH:=Addr→Value→Option Addr→TS
def PHs (X:Cx) (hs:List ExceptHandler) (t:TH):Prop :=
 ∀(pins:List (Addr×Obj)) (s:Shared) (σ:St) (H:Hp) (D:Ends) (ea:Addr) (C:Value) (od:Option Addr) (s2:Shared) (H2:Hp),Inv X pins σ H2 s2→Inv X pins σ H s→(∀ b o,s2.heap.get? b=some o→∃ o',s.heap.get? b=some o') →
  Exc s2.heap H s.heap ea C od (some .none)→t ea C od D σ H→wpAny (model X.prog X.w) X.A (handleBy (.ref ea) X.env hs) (SP X pins D) X.xe s
theorem Wz:PHs X [] (fun _ _ _ _ _ _=>False):=fun _ _ _ _ _ _ _ _ _ _ _ _ _ _ h=>h.elim
def aar (K:W.Frag) (Dc:Addr) (i:Nat) (tb:Addr→TS) (tr:TH):TH:=fun ea C od D σ H=>∃ Cc N bm ini,C=.ref Cc∧cA K Cc N bm ini ∧
 if (Value.ref Cc :: bm).contains (.ref Dc)=true then tb ea { nx:=fun σ' H'=>D.nx (σ'.set i none) H',rt:=D.rt,bk:=fun σ' H'=>D.bk (σ'.set i none) H',ct:=fun σ' H'=>D.ct (σ'.set i none) H' } (σ.set i (some (.ref ea))) (upd H ea (vE ea C od)) else tr ea C od D σ H
theorem aas {i:Nat}{x n:Str}{np hpos:Pos}{b₀:Stmt}{suite:List Stmt}{rest:List ExceptHandler}{Dc ND:Addr}{bmD:List Value}{afF:Option Value}{tb:Addr→TS}{tr:TH} (hex:X.ex=[]) (hg:Gl X x) (hm:X.mg x=some (.ref Dc))
  (d:cA X.K Dc ND bmD afF) (td:B5 X.K bmD) (hN:X.N.Nodup) (hi:X.N[i]? = some n) (hl:X.env.scope.names.lookup n=some .local) (hb:∀ ea,Gb (X.han ea) (b₀ :: suite) (tb ea)) (hr:PHs X rest tr)
  (hdb:(x == ("__debug__" : Str))=false:=by decide):PHs X (.ExceptHandler (some (.Name x np)) (some n) (b₀ :: suite) hpos :: rest) (aar X.K Dc i tb tr):=by
 rintro pins s σ H D ea C od s2 H2 I2 J ht y ⟨Cc,N,bm,ini,rfl,c,q⟩
 obtain⟨fr,nw,oe,vs,he,hc,hdi,hd,fa⟩:=id y
 refine wpAny_handleBy_cons (codeAny_handlers_test (mw (X:=X.han ea) (J.han ea) hg hm ?_ hdb)) (by intro z;cases z)
 refine GN J.nU c d td he hc ?_
 cases hb2:(Value.ref Cc :: bm).contains (.ref Dc) with
 | false =>
  rw[hb2,if_neg Bool.false_ne_true] at q
  exact hr pins s σ H D ea _ od s2 H2 I2 J ht y q
 | true =>
  rw[hb2,if_pos rfl] at q
  refine codeAny_handlers_suite_as ?_
  refine Az y fun h1 ch hch mv y1=>?_
  have J1:=I2.mv J (mv.mono (fun b z=>nomatch z) fun b z=>z) hch
  obtain⟨fr1,nw1,oe1,vs1,Vy,hc1,afG,hd1,fa1⟩:=id y1
  have J2:=I2.QJ J1 (o:=vE ea (.ref Cc) od) hex fr1 nw1 (aap ⟨oe1,vs1,Vy,hc1,afG,hd1,fa1.cx⟩)
  refine vo J2 hN hi (.inl hl) (show RelV (.ref ea) (.ref ea) from rfl) (fun s3 J3=>?_) (.inr hl)
  refine wpAny_mono (hb ea pins s3 _ _ _ (J3.han ea) q) (fun f s4 r=>?_) fun _ _ z=>z.elim
  have hp:(X.env.scope.kind == .class || (X.env.scope.kind == .module && X.env.locals != X.env.globals))=false:=by rw[J.ok.kind];rfl
  have go:∀{σ':St}{H':Hp}{Q:Unit→Shared→Prop},Inv (X.han ea) pins σ' H' s4→(∀ s5,Inv X pins (σ'.set i none) H' s5→Q () s5)→wpAny (model X.prog X.w) X.A (do bindName X.env n .none;unbindBehindTheSuite X.env n hpos) Q X.xe s4:=fun {σ' H' Q} I4 k=>by
   have I5:=I4.aaq J.ok
   obtain⟨m,hn,_⟩:=id I5.loc
   exact wpAny_nameGoes_keeps hl hn hp fun h' v hn' hs=>k _ (I5.gone hN hi hn hn' hs)
  cases f with
  | next=>obtain⟨σ',H',I4,q4⟩:=r;exact go I4 fun s5 I5=>⟨_,H',I5,q4⟩
  | brk=>obtain⟨σ',H',I4,q4⟩:=r;exact go I4 fun s5 I5=>⟨_,H',I5,q4⟩
  | cont=>obtain⟨σ',H',I4,q4⟩:=r;exact go I4 fun s5 I5=>⟨_,H',I5,q4⟩
  | ret u=>obtain⟨v,σ',H',I4,rv,q4⟩:=r;exact go I4 fun s5 I5=>⟨v,_,H',I5,rv,q4⟩
def aat (tb:TSx) (th:TH) (to:TS):TS:=fun D σ H=>tb { D with nx:=fun σ1 H1=>to D σ1 H1 } (fun C od H'=>∀ ea,H' ea=none→th ea C od D σ H') σ H
theorem TZ {body orelse:List Stmt}{h₀:ExceptHandler}{hs:List ExceptHandler}{pos:Pos}{tb:TSx}{th:TH}{to:TS} (hst:X.stack=X.env :: X.outer) (hfm:X.env.frame=some X.env.locals) (hb:aao X body tb) (hh:PHs X (h₀ :: hs) th) (ho:Gb X orelse to) :
  PS X (.Try body (h₀ :: hs) orelse [] pos) (aat tb th to):=by
 intro pins s σ H D I h
 refine wpAny_Try_except (wpAny_mono (hb pins s σ H _ _ I h) (fun f s1 q=>?_) fun e s1 q=>?_)
 ·cases f with
  | next=>obtain⟨σ1,H1,I1,q1⟩:=q;exact ho pins s1 σ1 H1 D I1 q1
  | ret u=>exact q
  | brk=>exact q
  | cont=>exact q
 ·obtain⟨ea,C,od,H',s2,H2,rfl,I2,J,ht,y,hE⟩:=q
  have hl:=J.stack
  rw[hst] at hl
  refine GK (J.ok.frames.trans (by rw[hst])) hl hfm y (.inr (.inl rfl)) ht (fun b hb=>J.hok.fresh hb) fun h1 ch hc m y1=>?_
  have J1:=I2.mv J (h':=h1) (by rw[hst];exact m) hc
  have ht1:∀ b o,s2.heap.get? b=some o→∃ o',h1.get? b=some o':=fun b o q=>let ⟨o',q'⟩:=ht b o q;m.there b o' q'
  refine Az y1 fun h2 ch2 hc2 m2 y2=>?_
  have J2:=I2.mv J1 (h':=h2) (m2.mono (fun b z=>nomatch z) fun b z=>z) hc2
  exact hh pins _ σ H' D ea C od s2 H2 I2 J2 (fun b o q=>let ⟨o',q'⟩:=ht1 b o q;m2.there b o' q') y2 (hE ea y2.fr)
end
end L2
set_option maxHeartbeats 1000000
namespace L2
open PySem PySem.Spec PyProof.Rows PySem.Builtin PySem.Builtin.ObjectAttr
theorem DF (self:Value):refuseLoop self "__setattr__" jw=pure ():=by kernel_rfl
theorem GO {K:W.Frag}{bm:List Value} (tl:B5 K bm) (self:Value):refuseLoop self "__setattr__" bm=pure ():=by
 rcases tl with rfl | ⟨D,ND,rfl,d⟩
 ·exact DF self
 ·rw[refuseLoop_ref];exact DF self
structure Pa (K:W.Frag) (C:Addr) (f:Str):Prop where
 no:W.findIn K (.ref C) f=some none
 sa:W.findIn K (.ref C) "__setattr__" = some (some (.builtin "object.__setattr__"))
 ga:W.findIn K (.ref C) "__getattribute__" = some (some (.builtin "BaseException.__getattribute__"))
 gx:W.findIn K (.ref C) "__getattr__" = some none
 hd:W.hasDictIn K C=true
section
variable {P:Program}{w:World}{A:Around}{E:Value→Shared→Prop}{s:Shared}{K:W.Frag}{C N x:Addr}{bm:List Value}{ini:Option Value}{f:Str}{v:Value}{ox:Obj}{vs:Array Value}
theorem cA.cls (c:cA K C N bm ini) (h:W.hasDictIn K C=true):∃ cd,W.clsIn K C=some cd∧cd.mro=.ref C :: bm∧cd.hasDict=true:=by
 obtain⟨nm,q,bs,hdct,sn,sub,ab,col,dd,k0,k1,k2,k3,k5,lk⟩:=c.ob
 obtain⟨cd,hc,hd⟩:=W.any_some h
 refine⟨cd,hc,?_,hd⟩
 unfold W.clsIn at hc
 rw[lk] at hc
 cases hc
 rfl
theorem T3 {od:Option Obj}{tk:Tok}{R:Result→Shared→Prop} (j8:K.In s.heap) (c:cA K C N bm ini) (tl:B5 K bm) (a:Pa K C f) (J:W.InstAt s.heap x ox C od)
  (h:∀ b,wpAny (model P w) A.in1 (storeInOwnDict (.ref x) (.ref C) (.str f tk) f v b) (fun fin s'=>match fin with | .done g=>R (.ok g) s' | .again c'=>c'.quiet=true∧codeAny (model P w) A c' R s') (fun e s'=>R (.error e) s') s) :
  codeAny (model P w) A (.call (.builtin "object.__setattr__") ⟨[.ref x,.str f tk,v],[]⟩) R s:=by
 obtain⟨cd,hc,hm,hd⟩:=c.cls a.hd
 have SF:=PySem.F.store_object
 have afH:W.Looks (model P w) s.heap (mroOf (.ref C)) cd.mro:=(W.looks_clsIn j8 hc).andThen .now
 have hob:(cd.mro.contains (.type "object"))=true:=by
  rw[hm,List.contains_cons]
  rcases tl with rfl | ⟨D,ND,rfl,d⟩
  ·rfl
  ·rw[List.contains_cons];rfl
 have ne:cd.mro.isEmpty=false:=by rw[hm];rfl
 have sub:W.Looks (model P w) s.heap (isInstance (.ref x) (.type "object")) true :=
  J.type.andThen (W.looks_mroIn j8 (by unfold W.mroIn;rw[hc,Option.bind_some,if_neg (by rw[ne];decide),hob]))
 refine codeAny_call_builtin SF.slot.plain SF.entry (W.check_slot (M:=model P w) (s:=s) (i := "object.__setattr__") (owner := "object") (n := "__setattr__") (self:=.ref x) (rest:=[.str f tk,v]) (kw:=[]) SF.kind SF.split sub (SF.args (.ref x) (.str f tk) v) ?_)
 rw[W.osa_eq,refuse_eq]
 refine wpAny_bind (wpAny_bind (J.type.here (wpAny_bind (afH.here ?_))))
 rw[hm,refuseLoop_ref,GO tl]
 have L3:W.Looks (model P w) s.heap (storeTaker? none) none:=.now
 refine wpAny_pure (wpAny_bind (J.type.here (wpAny_bind ((W.looks_findIn j8 a.no).here (wpAny_bind (L3.here ?_))))))
 exact h _
theorem T4 {h:Heap}{d:Addr}{o:Obj} (e:h.get? d=some o) (hd:o.data=.dict #[] 0):h.Ns1 d (fun _=>none) :=
 ⟨o,#[],0,e,hd,fun e he=>absurd he (by simp),(by first | exact fun i j e e' h1=>absurd h1 (by simp) | simp[UniqKeys]),fun _=>rfl⟩
theorem QK {Q:Unit→Shared→Prop} (j8:K.In s.heap) (c:cA K C N bm ini) (tl:B5 K bm) (a:Pa K C f) (hx:s.heap.get? x=some ox) (hc:ox.cls=.ref C) (hdi:ox.dict=none) (hd:ox.data=.fields vs)
  (h:∀ h' tk,h'.get? x=some { ox with dict:=some s.heap.objs.size }→h'.Ns1 s.heap.objs.size (fun y=>if y=f then some v else none)→(∀ b o,b≠x→s.heap.get? b=some o→h'.get? b=some o)→Q () { s with heap:=h',toks:=tk }) :
  wpAny (model P w) A (setAttr (.ref x) f v) Q E s:=by
 have J:W.InstAt s.heap x ox C none:=⟨hx,hc,by obtain⟨oc,odi,oda,osl⟩:=ox;cases hd;rfl,by rw[hdi];exact True.intro⟩
 refine W.set_plain j8 J a.sa (T3 (s:={ s with toks:=s.toks+1 }) j8 c tl a J fun b=>?_)
 obtain⟨cd,hcd,hm,hdd⟩:=c.cls a.hd
 obtain⟨oc,odi,oda,osl⟩:=ox
 dsimp only at hc hdi hd
 subst hc hdi hd
 refine wpAny_bind (wpAny_pure (wpAny_bind (wpAny_bind (wpAny_loadPart hx (wpAny_bind (W.Looks.here (s:={ s with toks:=s.toks+1 }) (W.looks_clsIn j8 hcd) ?_))))))
 rw[hdd]
 refine wpAny_bind (wpAny_alloc ?_)
 have x1:(s.heap.push { cls:=.type "dict",data:=.dict #[] }).get? x=some ⟨.ref C,none,.fields vs,osl⟩:=Heap.get?_push_of_some _ hx
 refine wpAny_bind (wpAny_update x1 ?_)
 refine wpAny_pure (a:=some s.heap.objs.size) ?_
 show wpAny _ _ (storeInDict s.heap.objs.size (Value.str f s.toks) f v) _ _ _
 unfold storeInDict
 refine wpAny_bind (m:=newKeyGuard _ _ _) ?_
 refine wpAny_pure (wpAny_bind ?_)
 have ne:s.heap.objs.size≠x:=Nat.ne_of_gt (Heap.lt_size hx)
 have d1:((s.heap.push { cls:=.type "dict",data:=.dict #[] }).update x fun o=>{ o with dict:=some s.heap.objs.size }).get? s.heap.objs.size=some { cls:=.type "dict",data:=.dict #[] } :=
  (Heap.get?_update_other _ _ (Ne.symm ne)).trans (Heap.get?_push_size s.heap rfl)
 have x2:((s.heap.push { cls:=.type "dict",data:=.dict #[] }).update x fun o=>{ o with dict:=some s.heap.objs.size }).get? x=some ⟨.ref C,some s.heap.objs.size,.fields vs,osl⟩:=Heap.get?_update_self _ x1 rfl
 refine wpAny_nsSet1 (T4 d1 rfl) fun h' hn2 hs2=>?_
 obtain⟨oD,esD,epD,hoD,hdD,hcD⟩:=hn2.count (ns:=[f]) (PySem.Within.cons f v (ns:=[]) (fun y hy=>absurd rfl hy))
 refine wpAny_bind (wpAny_lookBehind hoD (by rw[hdD];exact pastItsLine_dict (Nat.le_trans hcD (Nat.le_add_left 1 sizeLine))) ?_)
 refine wpAny_pure (h _ _ ((hs2.2 _ (Ne.symm ne)).trans x2) hn2 fun b o hb q=>?_)
 have nb:b≠s.heap.objs.size:=Nat.ne_of_lt (Heap.lt_size q)
 exact(hs2.2 b nb).trans ((Heap.get?_update_other _ _ (Ne.symm hb)).trans (Heap.get?_push_of_some _ q))
theorem T5 {tk:Tok}{Q:Fin→Shared→Prop}{tp:Value} (L0:W.Looks (model P w) s.heap (typeOf (.ref x)) tp) (L1:W.Looks (model P w) s.heap (find (.ref x) tp f) (.value v)) (h:Q (.done (.ret v)) s) :
  wpAny (model P w) A (Builtin.«object.__getattribute__» ⟨[.ref x,.str f tk],[]⟩) Q E s:=by
 unfold Builtin.«object.__getattribute__»
 refine wpAny_bind (m:=slotArgs _ _ _) ?_
 refine wpAny_pure (a:=(Value.ref x,[Value.str f tk])) ?_
 refine wpAny_bind (m:=attrName _) ?_
 refine wpAny_pure (a:=f) ?_
 refine wpAny_bind (L0.here ?_)
 refine wpAny_bind (L1.here ?_)
 exact wpAny_pure h
theorem T6 {d:Addr}{mA:Str→Option Value}{expr:Bool}{Q:Value→Shared→Prop} (j8:K.In s.heap) (c:cA K C N bm ini) (tl:B5 K bm) (a:Pa K C f) (hx:s.heap.get? x=some ox) (hc:ox.cls=.ref C) (hdi:ox.dict=some d) (hd:ox.data=.fields vs)
  (hn:s.heap.Ns1 d mA) (hv:mA f=some v) (hh:W.handedIn v=true) (h:Q v { s with toks:=s.toks+1 }):wpAny (model P w) A (getAttr (.ref x) f expr) Q E s:=by
 obtain⟨od,ho,hl⟩:=Di hn
 have J:W.InstAt s.heap x ox C (some od):=⟨hx,hc,by obtain⟨oc,odi,oda,osl⟩:=ox;cases hd;rfl,by rw[hdi];exact ho⟩
 have FO:W.findObj K C (some od) f=some (.value v):=W.findObj_own a.hd a.no rfl (by rw[hl,hv])
 obtain⟨cd,hcd,hm,hdd⟩:=c.cls a.hd
 have hob:(cd.mro.contains (.type "BaseException"))=true:=by rw[hm,List.contains_cons,tl.base];rfl
 have ne:cd.mro.isEmpty=false:=by rw[hm];rfl
 have sub:W.Looks (model P w) s.heap (isInstance (.ref x) (.type "BaseException")) true :=
  J.type.andThen (W.looks_mroIn j8 (by unfold W.mroIn;rw[hcd,Option.bind_some,if_neg (by rw[ne];decide),hob]))
 have hk:W.Looks (model P w) s.heap (hookBefore (.ref C)) none:=W.looks_hook j8 (by show(if onTheHeap (.ref C) then _ else _)=_;exact a.gx)
 refine wpAny_bind (wpAny_mkText (wpAny_holding (wpAny_bind (J.type _ _ _ _ (fun _ _ e=>e) (wpAny_bind (W.looks_findIn j8 a.ga _ _ _ _ (fun _ _ e=>e) ?_))))))
 dsimp only
 rw[show(onTheHeap (Value.ref C) && Value.builtin "BaseException.__getattribute__" == Value.builtin "object.__getattribute__")=false from by rw[show(Value.builtin "BaseException.__getattribute__" == Value.builtin "object.__getattribute__")=false from by decide +kernel];exact Bool.and_false _,if_neg (by decide)]
 refine wpAny_bind (hk _ _ _ _ (fun _ _ e=>e) (wpAny_bind (wpAny_attempt (wpAny_holding ?_))))
 unfold callGetattribute
 rw[show(expr && onTheHeap (Value.builtin "BaseException.__getattribute__"))=false from Bool.and_false _,if_neg (by decide)]
 unfold boundAndCalled
 rw[PySem.F.attr_ValueError.ga.bind]
 refine wpAny_bind (wpAny_pure ?_)
 show wpAny _ _ (call (.builtin "BaseException.__getattribute__") [.ref x,.str f s.toks]) _ _ _
 refine wpAny_call (codeAny_call_builtin PySem.F.attr_ValueError.ga.plain PySem.F.entry_bexc_ga (W.check_slot (M:=model P w) (s:={ s with toks:=s.toks+1 }) (i := "BaseException.__getattribute__") (owner := "BaseException") (n := "__getattribute__") (self:=.ref x) (rest:=[.str f s.toks]) (kw:=[]) (by decide +kernel) (by decide +kernel) sub (PySem.F.args_bexc_ga (.ref x) (.str f s.toks)) ?_))
 have L1:=W.looks_find (M:=model P w) j8 J FO
 refine T5 (s:={ s with toks:=s.toks+1 }) J.type L1 ?_
 show wpAny _ _ (handedOut v) _ _ _
 rw[W.handedOut_of hh]
 exact wpAny_pure h
end
section
variable {P:Program}{w:World}{A:Around}{E:Value→Shared→Prop}{K:W.Frag}{C N fI:Addr}{bm:List Value}{us:List Value}
theorem B9 {h:Heap}{g:Array GenState}{dr:Drawn}{tk:Nat}{os:OsState}{oI:Obj}{Q:Fin→Shared→Prop} (j8:K.In h) (c:cA K C N bm (some (.ref fI))) (tl:B5 K bm) (lf:h.get? fI=some oI) (cf:oI.cls=.type "function")
  (k:∀ h' e,Heap.MadeExcOf h h' e (.ref C) us→wpAny (model P w) A (call (.ref fI) (.ref e :: us)) (fun r s'=>r=.none∧Q (.done (.ret (.ref e))) s') E ⟨h',g,dr,tk,os⟩) (hu:us.length≤sizeLine) :
  wpAny (model P w) A (Builtin.«type.__call__» ⟨.ref C :: us,[]⟩) Q E ⟨h,g,dr,tk,os⟩:=by
 obtain⟨nm,q,bs,hdct,sn,sub,ab,col,dd,k0,k1,k2,k3,k5,lc⟩:=c.obj j8
 obtain⟨m,mi,mn⟩:=c.names
 have T:=tl.tail j8
 have VE:=PySem.F.excBase_ValueError
 repeat (first | with_reducible refine wpAny_loadPart_at lc ?_ | with_reducible refine wpAny_madeBy_exc lc ?_ | wp_step)
 refine codeAny_call_builtin_code (Code.quiet_builtin _ VE.quiet) (wpAny_check_new_subU VE (by decide) T lc (codeAny_exc_new_subU VE (by decide) VE T lc ?_ hu))
 show wpAny _ _ _ _ _ _
 generalize ho1:({ cls:=.type "tuple",data:=.seq us.toArray }:Obj)=o1
 generalize ho2:({ cls:=.ref C,data:=.fields #[.ref h.objs.size,.none,.none,.none,.bool false,.none] }:Obj)=o2
 have up:∀ b o,h.get? b=some o→((h.push o1).push o2).get? b=some o:=fun b o z=>Heap.get?_push_of_some _ (Heap.get?_push_of_some _ z)
 have lc1:=up _ _ lc
 have lf1:=up _ _ lf
 have n1:=mn _ (j8.keeps up)
 have T1:=T.keeps up
 have z2:(h.push o1).objs.size=h.objs.size+1:=Heap.size_push ..
 have ge:((h.push o1).push o2).get? (h.objs.size+1)=some o2:=by rw[←z2];exact Heap.get?_push_size _ (by rw[←ho2];rfl)
 have oc:o2.cls=.ref C:=by rw[←ho2]
 have cc:(Value.ref C :: bm).contains (.ref C)=true:=by simp
 unfold isInstance
 repeat (first | (with_reducible refine wpAny_loadPart_at ge ?_;rw[oc]) | (with_reducible refine wpAny_isSubtype_exc lc1 ?_;rw[cc]) | wp_step)
 show wpAny _ _ (typeLookup (.ref C) _) _ _ _
 refine wpAny_typeLookup_tail lc1 n1 T1 VE.mroIs VE.init.lookup ?_
 rw[mi]
 refine wpAny_holding (wpAny_bind ?_)
 unfold bindSpecial
 refine wpAny_bind (wpAny_typeOf (T := "function") ⟨_,lf1,cf⟩ ?_)
 rw[if_pos (by decide)]
 have hm:Heap.MadeExcOf h ((h.push o1).push o2) (h.objs.size+1) (.ref C) us :=
  ⟨up,Heap.get?_none_of_le (Nat.le_succ _),h.objs.size,by rw[ge,←ho2],Heap.get?_none_of_le (Nat.le_refl _),by rw[Heap.get?_push_of_some _ (Heap.get?_push_at rfl (by rw[←ho1];rfl)),←ho1]⟩
 refine wpAny_pure (wpAny_bind (wpAny_mono (k _ _ hm) (fun r s' hr=>?_) fun _ _ z=>z))
 obtain⟨rfl,hQ⟩:=hr
 wp_walk
 exact hQ
theorem QL {s:Shared}{oI:Obj}{Q:Value→Shared→Prop} (j8:K.In s.heap) (c:cA K C N bm (some (.ref fI))) (tl:B5 K bm) (lf:s.heap.get? fI=some oI) (cf:oI.cls=.type "function")
  (k:∀ h' e,Heap.MadeExcOf s.heap h' e (.ref C) us→wpAny (model P w) (A.under (.builtin "type.__call__" ⟨.ref C :: us,[]⟩)) (call (.ref fI) (.ref e :: us)) (fun r s'=>r=.none∧Q (.ref e) s') E { s with heap:=h' }) (hu:us.length≤sizeLine) :
  wpAny (model P w) A (call (.ref C) us) Q E s:=by
 obtain⟨nm,q,bs,hdct,sn,sub,ab,col,dd,k0,k1,k2,k3,k5,lc⟩:=c.obj j8
 obtain⟨h,g,dr,tk,os⟩:=s
 have t1:=tc_lookup
 have t2:=tc_bind (.ref C)
 have tT:(⟨h,g,dr,tk,os⟩:Shared).TypeIs (.ref C) "type" := ⟨_,lc,rfl⟩
 refine wpAny_call (codeAny_of_tree ?_)
 show wpAny _ _ (callAny (.ref C) _) _ _ _
 repeat (any_goals (first | assumption | with_reducible refine wpAny_loadPart_at lc ?_ | wp_step))
 exact⟨rfl,codeAny_call_builtin_at (Code.quiet_builtin _ (by decide +kernel)) entry_typeCall (wpAny_check_type_call_sub lc (B9 j8 c tl lf cf k hu))⟩
theorem QM {s:Shared}{ea:Addr}{oe:Obj}{vs:Array Value}{v:Value}{ini:Option Value}{Q:Value→Shared→Prop} (j8:K.In s.heap) (c:cA K C N bm ini) (tl:B5 K bm) (he:s.heap.get? ea=some oe) (hc:oe.cls=.ref C) (hd:oe.data=.fields vs) (hz:0 < vs.size)
  (k:∀ h' t,(∀ b o,b≠ea→s.heap.get? b=some o→h'.get? b=some o)→h'.get? ea=some (oe.mapFields (·.setIfInBounds 0 (.ref t)))→Q .none { s with heap:=h' }) :
  wpAny (model P w) A (call (.builtin "ValueError.__init__") [.ref ea,v]) Q E s:=by
 obtain⟨nm,q,bs,hdct,sn,sub,ab,col,dd,k0,k1,k2,k3,k5,lc⟩:=c.obj j8
 have VE:=PySem.F.excBase_ValueError
 obtain⟨h,g,dr,tk,os⟩:=s
 refine wpAny_call (codeAny_call_builtin VE.init.plain VE.initEntry (wpAny_check_init_subU VE (tl.tail j8) lc he hc ?_))
 wp_walk
 obtain⟨x0,hx0⟩:∃ x0,vs[0]? = some x0:=⟨vs[0],Array.getElem?_eq_getElem hz⟩
 have Vy:(h.push { cls:=.type "tuple",data:=.seq #[v] }).get? ea=some oe:=Heap.get?_push_of_some _ he
 have fin:=k ((h.push { cls:=.type "tuple",data:=.seq #[v] }).update ea (Obj.mapFields (·.setIfInBounds 0 (.ref h.objs.size)))) h.objs.size (fun b o hb q=>(Heap.get?_update_other _ _ (Ne.symm hb)).trans (Heap.get?_push_of_some _ q))
  (Heap.get?_update_self _ Vy (Obj.isFreed_of_fields (Obj.data_mapFields hd _)))
 rw[hd]
 refine wpAny_pure ?_
 rw[hx0]
 refine wpAny_pure (wpAny_bind (wpAny_setField Vy hd hz ?_))
 cases x0 <;> (wp_walk;exact fin)
theorem Jq {M:Model}{s:Shared}{env:Env}{ex:Expr}{pos:Pos}{ini:Option Value}{Q:Flow→Shared→Prop} (c:cA K C N bm ini) (tl:B5 K bm) (hh:A.handled=none)
  (h:wpAny M A (eval ex env) (fun v s1=>∃ e oe vs,v=.ref e∧K.In s1.heap∧s1.heap.get? e=some oe∧oe.cls=.ref C∧oe.data=.fields vs∧vs[1]? = some .none∧E (.ref e) s1) E s) :
  wpAny M A (exec (.Raise (some ex) none pos) env) Q E s:=by
 have bc:(Value.ref C :: bm).contains (.type "BaseException")=true:=by rw[List.contains_cons,tl.base,Bool.or_true]
 rw[arm_exec_Raise]
 refine wpAny_bind (wpAny_standAt ?_)
 show wpAny M A (raiseStmt env (some _) none) Q E s
 unfold raiseStmt
 refine wpAny_bind (wpAny_bind (wpAny_mono h (fun v s1 h1=>?_) fun _ _ z=>z))
 obtain⟨e,oe,vs,rfl,j8,he,hc,hd,h1,hE⟩:=h1
 refine wpAny_bind (wpAny_standAt (wpAny_pure ?_))
 obtain⟨nm,q,bs,hdct,sn,sub,ab,col,dd,k0,k1,k2,k3,k5,lc⟩:=c.obj j8
 obtain⟨hp,g,dr,tk,os⟩:=s1
 repeat (first | (with_reducible refine wpAny_loadPart_at he ?_;rw[hc]) | with_reducible refine wpAny_loadPart_at lc ?_ | (with_reducible refine wpAny_isSubtype_exc lc ?_;rw[bc]) | with_reducible refine wpAny_field he hd h1 ?_ | wp_step)
 exact wpAny_raiseNew_none hh hE
end
def Pb (e:Addr) (C:Value) (od:Option Addr):HO:=.ext fun h=>∃ o vs,h.get? e=some o∧o.cls=C∧o.dict=od∧o.data=.fields vs∧vs[1]? = some .none∧vs[2]? = some .none
theorem QN {P:Program}{w:World}{H:Hp}{h:Heap}{e:Addr}{C:Value}{od:Option Addr} (x:∃ o vs,h.get? e=some o∧o.cls=C∧o.dict=od∧o.data=.fields vs∧vs[1]? = some .none∧vs[2]? = some .none):eY P w H h e (Pb e C od) :=
 ⟨x,(let ⟨o,_,q,_⟩:=x;⟨o,q⟩),fun _ _ ⟨o,vs,q,r⟩ k=>⟨o,vs,k o q,r⟩⟩
def LV (d:Addr) (fs:List (Str×V)):HO:=.ext fun h=>∃ mA,h.Ns1 d mA∧(∀ g,rj (fs.lookup g) (mA g))∧PySem.Within mA (fs.map (·.1))
theorem aau {P:Program}{w:World}{H:Hp}{h:Heap}{d:Addr}{fs:List (Str×V)} (x:∃ mA,h.Ns1 d mA∧(∀ g,rj (fs.lookup g) (mA g))∧PySem.Within mA (fs.map (·.1))):eY P w H h d (LV d fs) :=
 ⟨x,(let ⟨_,⟨o,_,_,q,_⟩,_⟩:=x;⟨o,q⟩),fun _ _ ⟨m,n,r⟩ k=>⟨m,n.at k,r⟩⟩
def del (H:Hp) (a:Addr):Hp:=fun b=>if b=a then none else H b
theorem GP {H:Hp}{a:Addr}:del H a a=none:=if_pos rfl
theorem AA {H:Hp}{a b:Addr} (h:b≠a):del H a b=H b:=if_neg h
theorem WA {H:Hp}{a:Addr}{o:HO} (h:H a=some o):upd H a o=H:=by
 funext b
 unfold upd
 split
 ·rename_i z;rw[z,h]
 ·rfl
section
variable {X:Cx}{pins:List (Addr×Obj)}{σ:St}{H:Hp}{s:Shared}{a:Addr}{φ:Heap→Prop}
theorem Inv.T7 (I:Inv X pins σ H s) (e:H a=some (.ext φ)):Inv X pins σ (del H a) s:=by
 have nn:∀ b,H b=none→del H a b=none:=fun b z=>by unfold del;split <;> first | rfl | exact z
 have nx:∀ b u,H b=some u→(∀ ψ,u≠.ext ψ)→del H a b=some u:=fun b u z k=>by
  rw[AA]
  ·exact z
  ·rintro rfl;rw[e] at z;cases z;exact k φ rfl
 refine⟨I.ok,I.os,I.bare,⟨I.base.keep,I.base.slot,fun b u q n hx=>nn b (I.base.free b u q n hx),I.base.there,fun b xs q=>nx b _ (I.base.tups b xs q) (fun _ z=>nomatch z),fun b u v q=>nx b _ (I.base.wZ b u v q) (fun _ z=>nomatch z),fun b ps q=>?_⟩,I.loc,I.cell,nn _ I.free,fun x c q=>nn _ (I.ly x c q),fun p hp=>?_,fun b u q=>?_,I.len⟩
 ·obtain⟨more,z⟩:=I.base.yQ b ps q
  exact⟨more,nx b _ z (fun _ z=>nomatch z)⟩
 ·obtain⟨e1,n1,r⟩:=I.pin p hp
  exact⟨e1,nn _ n1,r⟩
 ·by_cases hb:b=a
  ·subst hb;rw[GP] at q;cases q
  ·rw[AA hb] at q
   exact(I.hok b u q).stay (fun c v _ z=>z) (fun c z=>nx c _ z (fun _ y=>nomatch y)) fun c xs z=>nx c _ z (fun _ y=>nomatch y)
end
def afI (v:V):Prop:=(∃ a:Int,v=.int a∧a.natAbs.log2 < 1920)∨∃ x:Str,v=.str x∧x.length≤2000
section
variable {X:Cx}{e:Expr}{te:TE}{pos:Pos}
def afJ (te:TE):TE:=fun σ H Q=>te σ H fun v H1=>afI v∧∀ z:Str,z.length≤2000→Q (.str z) H1
theorem WB (he:PE X e te):PE X (.FormattedValue e (-1) none pos) (afJ te):=by
 intro pins s σ H Q I h
 refine wpAny_FormattedValue_plain (dF (he pins s σ H _ I h) fun u s1 ⟨v,H1,I1,r,f,q⟩=>?_)
 rcases f with ⟨a,rfl,ha⟩ | ⟨x,rfl,hx⟩
 ·obtain⟨t,rfl⟩:=(show ∃ t,u=Value.int a t from r)
  exact wpAny_formatField_int ha ⟨.str (Str.ofString (toString a)),H1,I1.tok _,⟨_,rfl⟩,q _ (Nat.le_trans (int_text_len_1921 ha) (by decide))⟩
 ·obtain⟨t,rfl⟩:=(show ∃ t,u=Value.str x t from r)
  exact wpAny_formatField_str ⟨.str x,H1,I1,⟨_,rfl⟩,q _ hx⟩ ⟨.str x,H1,I1.tok _,⟨_,rfl⟩,q _ hx⟩ (Nat.le_trans hx (by decide))
abbrev TJ:=St→Hp→(Hp→Prop)→Prop
def PJ (X:Cx) (parts:List Expr) (t:TJ):Prop:=∀(pins:List (Addr×Obj)) (s:Shared) (σ:St) (H:Hp) (out:Str) (Q:Hp→Prop),Inv X pins σ H s→t σ H Q→out.length+2000 * parts.length≤100000 →
 wpAny (model X.prog X.w) X.A (joinParts out (evalEach parts X.env)) (fun u s'=>∃ z H',RelV (.str z) u∧Inv X pins σ H' s'∧Q H') X.xe s
theorem WC:PJ X [] (fun _ H Q=>Q H):=fun pins s σ H out Q I h hl=>joinParts_nil ⟨out,H,⟨_,rfl⟩,I.tok _,h⟩ (Nat.le_trans (show out.length≤100000 by simp at hl;exact hl) (by decide))
theorem LW {rest:List Expr}{t:TJ} (he:PE X e te) (hr:PJ X rest t) (hs:evalEach (e :: rest) X.env=eval e X.env :: evalEach rest X.env:=by rfl):PJ X (e :: rest) (fun σ H Q=>te σ H fun v H1=>∃ y:Str,v=.str y∧y.length≤2000∧t σ H1 Q):=by
 intro pins s σ H out Q I h hl
 rw[hs]
 refine joinParts_cons (dF (he pins s σ H _ I h) fun u s1 ⟨v,H1,I1,r,y,ev,hy,q⟩=>?_)
 subst ev
 obtain⟨t,rfl⟩:=(show ∃ t,u=Value.str y t from r)
 have el:(out++y).length=out.length+y.length:=Str.length_append ..
 rw[List.length_cons] at hl
 exact⟨Nat.le_trans (show(out++y).length≤100000 by omega) (by decide),hr pins s1 σ H1 (out++y) Q I1 q (by omega)⟩
theorem M3 {v1 v2:Expr}{rest:List Expr}{t:TJ} (h:PJ X (v1 :: v2 :: rest) t) (hn:2000 * (v1 :: v2 :: rest).length≤100000:=by decide):PE X (.JoinedStr (v1 :: v2 :: rest) pos) (fun σ H Q=>t σ H fun H'=>∀ z:Str,Q (.str z) H'):=by
 intro pins s σ H Q I hq
 refine JoinedStr_many ?_
 exact dF (h pins s σ H Str.empty _ I hq (by show 0+_≤_;omega)) fun u s1 ⟨z,H1,r,I1,q⟩=>⟨.str z,H1,I1,r,q z⟩
end
section
variable {X:Cx}{C N D fI:Addr}{bm:List Value}{ini:Option Value}{x f:Str}{np ap pos cpos pos':Pos}{e o value a1 a2:Expr}{es:List Expr}{t:TA}{ta tv te:TE}
structure XIn (K:W.Frag) (D:Addr):Prop where
 sp:W.specialIn K (.ref D) "__getattribute__" = some (some (.builtin "type.__getattribute__"))
 rd:W.readsIn K D (.type "type")=true
 fc:W.findCls K (.ref D) (.type "type") "__init__" = some (.val (.builtin "ValueError.__init__"))
def WD (C:Addr) (t:TA):TE:=fun σ H Q=>t σ H fun vs H1=>∃ ea od z,vs=[.ref ea,z]∧H1 ea=some (Pb ea (.ref C) od)∧Q .non H1
theorem QO {pl:Sem Bool} (hg:Gl X x) (hm:X.mg x=some (.ref D)) (i:XIn X.K D) (c:cA X.K C N bm ini) (tl:B5 X.K bm) (ha:PA X [a1,a2] t) (hdb:(x == ("__debug__" : Str))=false:=by decide)
  (hst:starEach [a1,a2] X.env=(false,eval a1 X.env) :: starEach [a2] X.env:=by rfl) (hpl:(backTo pos (starEach [a2] X.env)).any (·.1)=false:=by rfl)
  (ht:eval (.Call (.Attribute (.Name x np) "__init__" ap) [a1,a2] [] pos) X.env=(do
   let ov ←eval (.Name x np) X.env
   standAt ap.atName
   let (f,first) ←holding [ov] (getMethod ov "__init__" pl)
   callWith pos f first (backTo pos (starEach [a1,a2] X.env)) (backToKw pos (keywordEach [] X.env))):=by rfl) :
  PE X (.Call (.Attribute (.Name x np) "__init__" ap) [a1,a2] [] pos) (WD C t):=by
 intro pins s σ H Q I h
 refine W.methodCall_KW (pl:=pl) (mw I hg hm ?_ hdb) ht
 refine W.method_cls I.nU i.sp (W.cls_value I.nU i.rd i.fc (by decide +kernel) ?_)
 have I0:=I.tok (s.toks+1)
 refine PyProof.Rows.callWith_builtin1 (dF (ha pos pins _ σ H _ I0 h) fun us s1 ⟨vs,H1,I1,r,ea,od,z,ev,t7,q⟩=>?_) hst hpl
 subst ev
 obtain⟨⟨oe,ws,he,hc,hdi,hd,h1⟩,_⟩:=I1.hok ea _ t7
 cases r with
 | cons r1 r' =>
  cases r' with
  | cons r2 r'' =>
   cases r''
   obtain rfl:=(show _=Value.ref ea from r1)
   have hz:=(Array.getElem?_eq_some_iff.mp h1.1).1
   refine QM I1.nU c tl he hc hd (by omega) fun h' ta kp he'=>?_
   have W:=I1.write (x:=ea) (e:=ea) (o:=Pb ea (.ref C) od) (h':=h') (t':=s1.toks) (by rw[t7];exact True.intro) (.inl rfl) kp ⟨_,he'⟩ (QN ⟨_,_,he',(Ay _ _).trans hc,(xm _ _).trans hdi,Obj.data_mapFields hd _,by rw[Array.getElem?_setIfInBounds_ne (by decide)];exact h1.1,by rw[Array.getElem?_setIfInBounds_ne (by decide)];exact h1.2⟩)
   rw[WA t7] at W
   exact⟨.non,H1,W,rfl,q⟩
def WE (C:Addr) (ta tv:TE) (f:Str):TS:=fun D σ H=>tv σ H fun y H1=>ta σ H1 fun x H2=>∃ ea,x=.ref ea∧H2 ea=some (Pb ea (.ref C) none)∧∀ d,H2 d=none→D.nx σ (upd (upd H2 ea (Pb ea (.ref C) (some d))) d (LV d [(f,y)]))
theorem QS (hex:X.ex=[]) (c:cA X.K C N bm ini) (tl:B5 X.K bm) (a:Pa X.K C f) (ha:PE X o ta) (hv:PE X value tv) (hs:swapsWith value (some (.Attribute o f pos')) pos.line X.env=pure false):PS X (.Assign [.Attribute o f pos'] value pos) (WE C ta tv f):=by
 intro pins s σ H D I h
 refine plainObj_wpAny_Assign_Attribute (dF (hv pins s σ H _ I h) fun u s1 ⟨y,H1,I1,ry,q⟩=>dF (ha pins s1 σ H1 _ I1 q) fun ov s2 ⟨x,H2,I2,rx,ea,ex,t7,q2⟩=>?_) hs
 subst ex
 obtain rfl:ov=Value.ref ea:=rx
 obtain⟨⟨oe,ws,he,hc,hdi,hd,h1⟩,_⟩:=I2.hok ea _ t7
 refine QK I2.nU c tl a he hc hdi hd fun h' tk x1 n1 kp=>?_
 have nd:H2 s2.heap.objs.size=none:=I2.hok.fresh (Nat.le_refl _)
 have W:=I2.write (x:=ea) (e:=ea) (o:=Pb ea (.ref C) (some s2.heap.objs.size)) (h':=h') (t':=tk) (by rw[t7];exact True.intro) (.inl rfl) kp ⟨_,x1⟩ (QN ⟨_,_,x1,hc,rfl,hd,h1⟩)
 have ne:s2.heap.objs.size≠ea:=fun z=>by rw[z,t7] at nd;cases nd
 have T:=I2.QJ W (a:=s2.heap.objs.size) (o:=LV s2.heap.objs.size [(f,y)]) hex (by rw[aF ne];exact nd) (Heap.get?_none_of_le (Nat.le_refl _)) (aau ⟨_,n1,fun g=>?_,fun g hg=>?_⟩)
 ·exact⟨σ,_,T,q2 _ nd⟩
 ·show rj (List.lookup g [(f,y)]) (if g=f then some u else none)
  by_cases z:g=f
  ·subst z;simp[List.lookup];exact ry
  ·rw[if_neg z];simp[List.lookup,beq_false_of_ne z];exact True.intro
 ·by_cases z:g=f
  ·rw[z];exact List.mem_singleton.mpr rfl
  ·exact absurd (if_neg z) hg
def aav (C:Addr) (te:TE) (f:Str):TE:=fun σ H Q=>te σ H fun x H1=>∃ ea d fs v,x=.ref ea∧H1 ea=some (vE ea (.ref C) (some d))∧H1 d=some (LV d fs)∧fs.lookup f=some v∧Q v H1
theorem T8 (c:cA X.K C N bm ini) (tl:B5 X.K bm) (a:Pa X.K C f) (he:PE X e te) (hb:attributeBase e f X.env (eval e X.env)=eval e X.env):PE X (.Attribute e f pos) (aav C te f):=by
 intro pins s σ H Q I h
 refine LD hb (dF (he pins s σ H _ I h) fun u s1 ⟨x,H1,I1,rx,ea,d,fs,v,ex,t7,hed,l,q⟩=>?_)
 subst ex
 obtain rfl:u=Value.ref ea:=rx
 obtain⟨⟨oe,ws,he,hc,hdi,hd,_⟩,_⟩:=I1.hok ea _ t7
 obtain⟨⟨mA,hn,r,wi⟩,_⟩:=I1.hok d _ hed
 obtain⟨u,hu,ru⟩:=rj.some_of (v:=v) (o:=mA f) (by rw[←l];exact r f)
 exact T6 I1.nU c tl a he hc hdi hd hn hu (Dj ru) ⟨v,H1,I1.tok _,ru,q⟩
end
section
variable {P:Program}{w:World}{K:W.Frag}{mg:Str→Option Value}{base:Heap}{N0:List Str}{qual:Str}{scope:Scope}{f:Addr}{cd:Value}{A:Around}{outer:List Env}{s0:Shared}{H0:Hp}{E:XK}
def T9 (E:XK) (C:Addr) (sp:Sp) (t:TA):TS:=fun _ σ H=>t σ H fun vs H1=>vs.length≤sizeLine∧∀ ea,H1 ea=none →
 sp (.ref ea :: vs) (upd H1 ea (Pb ea (.ref C) none)) (fun v H2=>v=.non∧∃ od,H2 ea=some (Pb ea (.ref C) od)∧E (.ref C) od (del H2 ea)) E0
theorem DG {X:Cx} (hX:X=tO (zV P w) P w K mg base N0 qual scope f cd A outer s0 H0 E) {C N fI:Addr}{bm:List Value}{x:Str}{np cpos pos:Pos}{e:Expr}{es:List Expr}{t:TA}{k:Nat}{fd:FuncData}{ps:List Str}{sp:Sp}{oI:Obj}
  (c:cA K C N bm (some (.ref fI))) (tl:B5 K bm) (lf:K.lookup fI=some oI) (cf:oI.cls=.type "function") (F:aM P w K mg base cy k fI fd ps sp) (hr:gE (k+1) X.A) (hb:Binds K fd ps []) (hk:W.keepIn K (.ref C)=true)
  (hg:Gl X x) (hm:mg x=some (.ref C)) (ha:PA X (e :: es) t) (hdb:(x == ("__debug__" : Str))=false:=by decide) (he:starEach (e :: es) X.env=(false,eval e X.env) :: starEach es X.env:=by rfl)
  (hpl:(backTo cpos (starEach es X.env)).any (·.1)=false:=by rfl):PS X (.Raise (some (.Call (.Name x np) (e :: es) [] cpos)) none pos) (T9 E C sp t):=by
 intro pins s σ H D I h
 have hx:X.xe=fun (e:Value) (s':Shared)=>wpAny (model X.prog X.w) X.A (leaving X.env e) (fun _ s''=>zV X.prog X.w X.outer X.H₀ X.s₀ E e s'') (fun e' s''=>zV X.prog X.w X.outer X.H₀ X.s₀ E e' s'') s':=by subst hX;rfl
 have hst:X.stack=X.env :: X.outer:=by subst hX;rfl
 have hfm:X.env.frame=some X.env.locals:=by subst hX;rfl
 have hex:X.ex=[]:=by subst hX;rfl
 have hmg:X.mg x=some (.ref C):=by subst hX;exact hm
 have QG:X.calm=true:=by subst hX;rfl
 have hK:X.K=K:=by subst hX;rfl
 have F':aM X.prog X.w X.K X.mg X.base cy k fI fd ps sp:=by subst hX;exact F
 refine Jq (K:=K) c tl (I.ok.hd QG) (wpAny_Call_Name_kw (mw I hg hmg ?_ hdb))
 refine W.callWith_K (K:=X.K) (h₀:=X.base) I.ok.mod.j8 (by rw[hK];exact hk) (dF (ha cpos pins s σ H _ I h) fun us s1 ⟨vs,H1,I1,r,hl,q⟩=>⟨I1.nU,?_⟩) he hpl
 have j8:K.In s1.heap:=by rw[←hK];exact I1.nU
 refine QL j8 c tl (j8 _ _ lf) cf (fun h' ea md=>?_) (by show us.length≤sizeLine;rw[←r.length];exact hl)
 obtain⟨tt,q1,_,_⟩:=md.there
 have nea:H1 ea=none:=I1.hok.none md.new
 have I2:=I1.kept (t':=s1.toks) (h':=h') md.keeps
 have I3:=I1.QJ I2 (a:=ea) (o:=Pb ea (.ref C) none) hex nea md.new (QN ⟨_,_,q1,rfl,rfl,rfl,rfl,rfl⟩)
 have hq:=q ea nea
 have r2:Vals (V.ref ea :: vs) (Value.ref ea :: us):=.cons rfl r
 have hlen:(Value.ref ea :: us++[]).length=ps.length:=by rw[List.append_nil,←r2.length];exact F'.len _ _ _ _ hq
 have hb':=hb { s1 with heap:=h' } (Value.ref ea :: us) (by rw[←hK];exact I3.nU) hlen
 rw[List.append_nil] at hb'
 refine wpAny_call (codeAny_mono (F'.run _ X.stack _ _ ⟨Value.ref ea :: us,[]⟩ (Value.ref ea :: us) _ _ E0 (hr.make C us []) (I3.PK.make C us []) hb' r2 hq) fun rr s' hq'=>?_)
 cases rr with
 | error e=>exact hq'.elim
 | ok fl =>
  cases fl with
  | next=>exact hq'.elim
  | brk=>exact hq'.elim
  | cont=>exact hq'.elim
  | ret u =>
   obtain⟨v,H',os,bare,un,hok,rv,ev,od,t7,hE⟩:=hq'
   subst ev
   have J:=I3.Ly os un hok bare (fun b z=>nomatch z)
   obtain⟨⟨oe,ws,he2,hc2,afK,hd2,h12⟩,_⟩:=J.hok ea _ t7
   refine⟨rv,ea,oe,ws,rfl,by rw[←hK];exact J.nU,he2,hc2,hd2,h12.1,?_⟩
   rw[hx]
   exact leaveX (fl:=none) hst hfm hex I1 (J.T7 t7) (fun b o z=>un.there b o (md.keeps b o z) (by simp)) ⟨GP,md.new,oe,ws,he2,hc2,afK,hd2,h12⟩ (.inl rfl) hE
end
open PySem PySem.Spec PyProof.Rows
structure nV (k:Nat) (A:Around):Prop where
 dp:A.depth+3 * k+5 < recursionLimit
 un:A.units+16 * k+200 < cLine
theorem gE.m {k:Nat}{A:Around} (r:gE k A):nV k A:=⟨r.dp,r.un⟩
theorem nV.mark {k:Nat}{A:Around} (r:nV k A) (h:Option Value):nV k (A.mark h):=⟨r.dp,r.un⟩
theorem nV.deeper {k:Nat}{A:Around} (r:nV (k+1) A) (env:Env):nV k (A.deeper env) :=
 ⟨by have:=r.dp;show A.depth+1+3 * k+5 < _;omega,by have:=r.un;show A.units+3+16 * k+200 < _;omega⟩
theorem nV.aQ {k:Nat}{A:Around} (r:nV k A):A.units < cLine:=by have:=r.un;omega
theorem nV.hu {k:Nat}{A:Around} (r:nV k A):A.units+1 < cLine:=by have:=r.un;omega
structure LX (P:Program) (w:World) (K:W.Frag) (mg:Str→Option Value) (base:Heap) (k:Nat) (f:Addr) (fd:FuncData) (ps:List Str) (sp:Sp):Prop where
 len:∀ vs H Q E,sp vs H Q E→vs.length=ps.length
 run:∀(A:Around) (outer:List Env) (s:Shared) (H:Hp) (args:Args) (us:List Value) (vs:List V) (Q:VK) (E:XK),nV k A→Ea P w K mg base A outer s H→BindsTo s fd args (ps.zip us)→Vals vs us→sp vs H Q E →
  codeAny (model P w) A (.call (.ref f) args) (CR cy outer P w H s Q E) s
abbrev Cx.WG (X:Cx):Cx:={ X with calm:=false,xe:=fun _ _=>False }
section
variable {P:Program}{w:World}{K:W.Frag}{mg:Str→Option Value}{base:Heap}
theorem gC.okM {x qual:Str}{st:Stmt}{f:Addr}{fd:FuncData}{N ps:List Str}{k:Nat}{sp:Sp} (F:gC K x qual st f fd) (S:aG N ps (aA st)) (len:∀ vs H Q E,sp vs H Q E→vs.length=ps.length)
  (hbody:∀(cdv:Value) (A:Around) (outer:List Env) (s:Shared) (H:Hp) (vs:List V) (Q:VK) (E:XK),nV k (A.deeper (envOfC qual (aA st) s.heap.objs.size f cdv))→sp vs H Q E →
   ∃ t,Gb (tO cy P w K mg base N qual (aA st) f cdv A outer s H E).WG (cT st) t∧t { nx:=fun _ H'=>Q .non H',rt:=Q } (start N vs) H):LX P w K mg base (k+1) f fd ps sp:=by
 obtain⟨oc,od,kV,doc,pm,an,cdv,ct,osl,rfl,lk,hcd⟩:=F.ex
 refine⟨len,fun A outer s H args us vs Q E hr e0 hb r Ja=>?_⟩
 have hl:=len _ _ _ _ Ja
 have KX:K.In s.heap:=e0.mod.j8.keeps fun b o e=>(e0.bs b o e).1
 have lim:s.heap.NoLimit:=e0.mod.nolimit.keeps fun b o e=>(e0.bs b o e).1
 have hkind:∀ y∈ps.zip us,(aA st).names.lookup y.1=some .local∨((aA st).names.lookup y.1=some .cell∧((cellsFrom (s.heap.objs.size+1) (aA st).names []).lookup y.1).isSome=true):=fun ⟨n,v⟩ hy=>by
  rcases S.par n (List.of_mem_zip hy).1 with q | q
  ·exact .inl q
  ·exact .inr ⟨q,W.cellsFrom_some _ _ _ (.inl q)⟩
 refine codeAny_call_function (show A.depth < recursionLimit by have:=hr.dp;omega) (KX _ _ lk) rfl S.co S.gen rfl (W.codeRec_of KX hcd) (hb _ _ _ _ ?_)
 refine wpAny_newFunctionEnv_cells S.kind hkind fun env he s1 x=>?_
 subst he
 refine⟨lim.keeps x.toInCall.keep,codeAny_func ?_⟩
 obtain⟨t,ht,hq⟩:=hbody cdv A outer s H vs Q E (hr.deeper _) Ja
 have e1:Ea P w K mg base ({ A with handled:=none }:Around) outer s H:=⟨e0.frames,e0.mod,e0.bs,e0.O9,e0.uE,e0.SK,e0.hok,e0.bare⟩
 have I1:Inv (tO cy P w K mg base N qual (aA st) f cdv ({ A with handled:=none }:Around) outer s H E) [] (start N vs) H s1:=Dr S rfl e1 hl r x
 have I:Inv (tO cy P w K mg base N qual (aA st) f cdv A outer s H E).WG [] (start N vs) H s1 :=
  ⟨⟨I1.ok.mod,I1.ok.kind,I1.ok.glob,I1.ok.blt,I1.ok.above,I1.ok.inj,I1.ok.has,I1.ok.VR,(fun z=>nomatch (show false=true from z)),Around.frames_deeper e0.frames,I1.ok.stk,I1.ok.exf,I1.ok.bs,I1.ok.O9,I1.ok.IL,I1.ok.ME,I1.ok.uE,I1.ok.SK⟩,
   I1.os,I1.bare,I1.base,I1.loc,I1.cell,I1.free,I1.ly,I1.pin,I1.hok,I1.len⟩
 refine wpAny_mono (ht [] s1 (start N vs) H _ I hq) (fun fl s' hs=>?_) fun e s' hs=>hs.elim
 have fin:∀{σ':St}{H':Hp}{v:V}{u:Value},Inv (tO cy P w K mg base N qual (aA st) f cdv A outer s H E).WG [] σ' H' s'→RelV v u→Q v H'→CE outer P w H s Q u s' :=
  fun {σ' H' v u} J rv q=>⟨v,H',J.os,J.bare,J.base,J.hok,rv,q⟩
 cases fl with
 | ret u =>
  obtain⟨v,σ',H',J,rv,q⟩:=hs
  exact fin J rv q
 | next =>
  obtain⟨σ',H',J,q⟩:=hs
  exact fin (v:=V.non) (u:=Value.none) J rfl q
 | brk =>
  obtain⟨_,_,_,q⟩:=hs
  exact False.elim q
 | cont =>
  obtain⟨_,_,_,q⟩:=hs
  exact False.elim q
end
section
variable {X:Cx}{k:Nat}{f:Addr}{fd:FuncData}{ps:List Str}{sp:Sp}{x:Str}{p pos:Pos}{e:Expr}{es:List Expr}{t:TA}
theorem QT (F:LX X.prog X.w X.K X.mg X.base k f fd ps sp) (hr:nV k X.A) (hg:Gl X x) (hm:X.mg x=some (.ref f)) (hk:W.keepIn X.K (.ref f)=true) (hb:Binds X.K fd ps [])
  (ha:PA X (e :: es) t) (hdb:(x == ("__debug__" : Str))=false:=by decide) (he:starEach (e :: es) X.env=(false,eval e X.env) :: starEach es X.env:=by rfl) (hpl:(backTo pos (starEach es X.env)).any (·.1)=false:=by rfl) :
  PE X (.Call (.Name x p) (e :: es) [] pos) (PL sp [] E0 t):=by
 intro pins s σ H Q I h
 refine wpAny_Call_Name_kw (mw I hg hm ?_ hdb)
 refine W.callWith_K (h₀:=X.base) I.ok.mod.j8 hk (dF (ha pos pins s σ H _ I h) fun us s1 ⟨vs,H1,I1,r,q⟩=>⟨I1.nU,?_⟩) he hpl
 have q:sp (vs++[]) H1 Q E0:=q
 rw[List.append_nil] at q
 have hl:us.length=ps.length:=by rw[←r.length];exact F.len _ _ _ _ q
 have hb':=hb s1 us I1.nU (by rw[List.append_nil];exact hl)
 rw[List.append_nil] at hb'
 refine wpAny_call (codeAny_mono (F.run X.A X.stack s1 H1 ⟨us,[]⟩ us vs Q E0 hr I1.PK hb' r q) fun rr s' hq=>?_)
 cases rr with
 | error e=>exact hq.elim
 | ok fl =>
  cases fl with
  | ret u=>exact I1.after hq
  | next=>exact False.elim hq
  | brk=>exact False.elim hq
  | cont=>exact False.elim hq
end
end L2
set_option maxHeartbeats 4000000
namespace L2
open PySem PySem.Spec PyProof.Rows
section
variable {prog:Program}{w:World}{A:Around}{E:Value→Shared→Prop}{s:Shared}
theorem Jr {it t:Addr}{i:Nat}{items:Array Value}{x:Value}{Q:Value→Shared→Prop} (hit:s.heap.IsTupleIter it t i) (ht:s.heap.IsTuple t items) (hx:items[i]? = some x)
  (hQ:∀ h',h'.IsTupleIter it t (i+1)→Heap.SameBut it s.heap h'→Q x { s with heap:=h' }):wpAny (model prog w) A (Builtin.SmallTypes.nextOf (.ref it)) Q E s:=by
 obtain⟨o,ho,hc,hd⟩:=id hit
 obtain⟨ol,Zm,_,nl,hdl⟩:=id ht
 unfold Builtin.SmallTypes.nextOf;refine wpAny_bind (wpAny_callSpecial?_slot (name:=Str.ofString "__next__") hit.typeIs F.slot_tuple_iterator_next (wpAny_call_entry F.slot_tuple_iterator_next hit.typeIs F.entry_tuple_iterator_next ?_ (F.args_tuple_iterator_next_1 _)))
 show wpAny _ _ (field (.ref it) 0 >>= _) _ _ _;refine wpAny_bind (wpAny_field ho hd (x:=.ref t) rfl ?_)
 show wpAny _ _ (if (Value.ref t == Value.none)=true then _ else _) _ _ _;rw[if_neg (fun q:(Value.ref t == Value.none)=true=>nomatch q)]
 show wpAny _ _ (field (.ref it) 1 >>= _) _ _ _;refine wpAny_bind (wpAny_field ho hd (x:=.int i 0) rfl ?_)
 show wpAny _ _ (seqItems? (.ref t) >>= _) _ _ _;refine wpAny_bind (wpAny_seqItems Zm hdl ?_)
 simp only[Int.toNat_natCast,hx]
 refine wpAny_bind (wpAny_setField ho hd (by simp) (wpAny_pure ⟨x,rfl,wpAny_pure (hQ _ ⟨_,Heap.get?_update_self _ ho (Obj.isFreed_of_fields (Obj.data_mapFields hd _)),(Obj.cls_mapFields ..).trans hc,by rw[Obj.data_mapFields hd];simp[rawInt]⟩ (Heap.SameBut.update ..))⟩))
theorem M4 {it t:Addr}{i:Nat}{items:Array Value}{Q:Value→Shared→Prop} (hh:A.handled=none) (hit:s.heap.IsTupleIter it t i) (ht:s.heap.IsTuple t items) (hx:items[i]? = none)
  (hE:∀ h' e,Heap.ExtBut it s.heap h'→(∃ o,h'.get? e=some o∧o.cls=.type "StopIteration")→E (.ref e) { s with heap:=h' }):wpAny (model prog w) A (Builtin.SmallTypes.nextOf (.ref it)) Q E s:=by
 obtain⟨o,ho,hc,hd⟩:=id hit
 obtain⟨ol,Zm,_,nl,hdl⟩:=id ht
 unfold Builtin.SmallTypes.nextOf;refine wpAny_bind (wpAny_callSpecial?_slot (name:=Str.ofString "__next__") hit.typeIs F.slot_tuple_iterator_next (wpAny_call_entry F.slot_tuple_iterator_next hit.typeIs F.entry_tuple_iterator_next ?_ (F.args_tuple_iterator_next_1 _)))
 show wpAny _ _ (field (.ref it) 0 >>= _) _ _ _;refine wpAny_bind (wpAny_field ho hd (x:=.ref t) rfl ?_)
 show wpAny _ _ (if (Value.ref t == Value.none)=true then _ else _) _ _ _;rw[if_neg (fun q:(Value.ref t == Value.none)=true=>nomatch q)]
 show wpAny _ _ (field (.ref it) 1 >>= _) _ _ _;refine wpAny_bind (wpAny_field ho hd (x:=.int i 0) rfl ?_)
 show wpAny _ _ (seqItems? (.ref t) >>= _) _ _ _;refine wpAny_bind (wpAny_seqItems Zm hdl ?_)
 simp only[Int.toNat_natCast,hx]
 refine wpAny_bind (wpAny_rule (wpAny_bind (wpAny_setField ho hd (by simp) ?_)));   show wpAny _ _ (newExc (.type "StopIteration") [] >>= _) _ _ _;refine wpAny_bind ?_
 simp only[newExc,newTuple];refine wpAny_bind (wpAny_newObj_type ?_ (by size_fits))
 refine wpAny_bind (m:=firstArgMember _ _) (wpAny_of_eq (a:=Value.none) (by first | rfl | (simp only[firstArgMember];rfl)) (wpAny_newObj_type ?_ (by size_fits)))
 simp only[raiseNew];refine wpAny_bind (wpAny_handled ?_)
 first | rw[show A.in1.handled=none from hh];refine wpAny_bind (wpAny_pure (wpAny_throw ?_)) | rw[hh];refine wpAny_bind (wpAny_pure (wpAny_throw ?_))
 exact hE _ _ (((Heap.SameBut.update ..).extBut.push _).push _) ⟨_,Heap.get?_push_size _ rfl,rfl⟩
theorem QU (hh:A.handled=none) (it l:Addr) (hne:l≠it) (items:Array Value):Draws prog w A it [it,l] items.size (fun i v=>items[i]? = some v) (fun i h=>h.IsTupleIter it l i∧h.IsTuple l items) where
 live:=fun _ _ st=>let ⟨o,ho,_⟩:=st.1;⟨o,ho⟩
 frame:=fun _ _ _ st hk=>⟨let ⟨o,ho,r⟩:=st.1;⟨o,hk it (by simp) o ho,r⟩,let ⟨o,ho,r⟩:=st.2;⟨o,hk l (by simp) o ho,r⟩⟩
 item:=fun i s Q E hi st hQ=>Jr st.1 st.2 (x:=items[i]) (by simp[hi]) fun h' WH hs'=>hQ _ h' s.toks (by simp[hi]) ⟨WH,st.2.extBut hs'.extBut hne⟩ hs'
 done:=fun s Q E st hE=>M4 hh st.1 st.2 (by simp) hE
theorem QV {z TI TO i1 i2 l1 l2:Addr}{n1 n2 k:Nat}{P1 P2:Nat→Value→Prop}{S1 S2:Nat→Heap→Prop}{a b:Value}{Q:Value→Shared→Prop} (D:ZipApart z TI TO i1 i2 l1 l2)
  (G1:Draws prog w A i1 [i1,l1] n1 P1 S1) (G2:Draws prog w A i2 [i2,l2] n2 P2 S2) (hz:IsZip s.heap z TI TO .none) (hTI:IsPair s.heap TI (.ref i1) (.ref i2)) (hTO:IsPair s.heap TO a b)
  (g1:S1 k s.heap) (g2:S2 k s.heap) (k1:k < n1) (k2:k < n2)
  (hQ:∀ h' tk x y,P1 k x→P2 k y→IsZip h' z TI TO (rawInt s.heap.objs.size)→IsPair h' TO x y→S1 (k+1) h'→S2 (k+1) h'→IsPair h' s.heap.objs.size x y →
   (∀ c o,c≠z→c≠TO→c≠i1→c≠i2→s.heap.get? c=some o→h'.get? c=some o)→Q (.ref s.heap.objs.size) { s with heap:=h',toks:=tk }) :
  wpAny (model prog w) A (Builtin.«zip.__next__» ⟨[.ref z],[]⟩) (fun fin s'=>∃ v,fin=.done (.ret v)∧Q v s') E s:=by
 have e1:∀{i:Nat}{h h':Heap}{c:Addr},Heap.SameBut c h h'→i1≠c→l1≠c→S1 i h→S1 i h':=fun hs hn hl g=>G1.frame _ _ _ g fun b hb o e=>by
  rcases List.mem_cons.mp hb with q | q
  ·rw[q] at e ⊢;exact hs.extBut _ _ hn e
  ·rw[List.mem_singleton.mp q] at e ⊢;exact hs.extBut _ _ hl e
 have e2:∀{i:Nat}{h h':Heap}{c:Addr},Heap.SameBut c h h'→i2≠c→l2≠c→S2 i h→S2 i h':=fun hs hn hl g=>G2.frame _ _ _ g fun b hb o e=>by
  rcases List.mem_cons.mp hb with q | q
  ·rw[q] at e ⊢;exact hs.extBut _ _ hn e
  ·rw[List.mem_singleton.mp q] at e ⊢;exact hs.extBut _ _ hl e
 show wpAny _ _ (field (.ref z) 2 >>= _) _ _ _
 refine wpAny_bind (wpAny_field hz rfl (x:=.bool false) rfl ?_)
 show wpAny _ _ (field (.ref z) 3 >>= _) _ _ _
 refine wpAny_bind (wpAny_field hz rfl (x:=.ref TI) rfl (wpAny_bind (wpAny_seqItems hTI rfl ?_)))
 show wpAny _ _ (Builtin.SmallTypes.ownedTupleIsFree (.ref z) >>= _) _ _ _
 refine wpAny_bind ?_
 unfold Builtin.SmallTypes.ownedTupleIsFree
 refine wpAny_bind (wpAny_field hz rfl (x:=.none) rfl (wpAny_pure ?_))
 simp only[if_true]
 refine wpAny_bind (wpAny_rule (wpAny_bind (wpAny_field hz rfl (x:=.ref TO) rfl (wpAny_bind (wpAny_setField_rec hz (by simp) fun A1 z1 q1=>?_)))))
 replace z1:IsZip A1 z TI TO .ellipsis:=z1
 refine wpAny_bind ?_
 simp only[List.zipIdx_cons,List.zipIdx_nil,List.forIn_cons,List.forIn_nil]
 refine wpAny_bind (wpAny_bind (wpAny_onRaise ?_))
 show wpAny _ _ (Builtin.SmallTypes.nextOf (.ref i1) >>= _) _ _ _
 refine wpAny_bind (G1.item k _ _ _ k1 (e1 q1 D.i1z D.l1z g1) fun x A2 tk px g1' q2=>wpAny_pure ?_)
 have o2:IsPair A2 TO a b:=q2.extBut _ _ D.TOi1 (q1.extBut _ _ D.TOz hTO)
 refine wpAny_bind (wpAny_seqItems o2 rfl (wpAny_bind (wpAny_updateSeq_pair o2 fun A3 o3 q3=>?_)))
 replace o3:IsPair A3 TO x b:=o3
 refine wpAny_bind (wpAny_letGo (wpAny_pure (wpAny_bind (wpAny_bind (wpAny_onRaise ?_)))))
 show wpAny _ _ (Builtin.SmallTypes.nextOf (.ref i2) >>= _) _ _ _
 refine wpAny_bind (G2.item k _ _ _ k2 (e2 q3 D.TOi2.symm D.l2TO (e2 q2 D.i12.symm D.l2i1 (e2 q1 D.i2z D.l2z g2))) fun y A4 tk2 py g2' q4=>wpAny_pure ?_)
 have o4:IsPair A4 TO x b:=q4.extBut _ _ D.TOi2 o3
 refine wpAny_bind (wpAny_seqItems o4 rfl (wpAny_bind (wpAny_updateSeq_pair o4 fun A5 o5 q5=>?_)))
 replace o5:IsPair A5 TO x y:=o5
 refine wpAny_bind (wpAny_letGo (wpAny_pure (wpAny_pure (wpAny_bind (wpAny_seqItems o5 rfl (wpAny_bind (wpAny_newTuple ?_)))))))
 have sz:A5.objs.size=s.heap.objs.size:=by rw[q5.1,q4.1,q3.1,q2.1,q1.1]
 have z5:IsZip A5 z TI TO .ellipsis:=q5.extBut _ _ D.TOz.symm (q4.extBut _ _ D.i2z.symm (q3.extBut _ _ D.TOz.symm (q2.extBut _ _ D.i1z.symm z1)))
 have w1:S1 (k+1) A5:=e1 q5 D.TOi1.symm D.l1TO (e1 q4 D.i12 D.l1i2 (e1 q3 D.TOi1.symm D.l1TO g1'))
 have w2:S2 (k+1) A5:=e2 q5 D.TOi2.symm D.l2TO g2'
 have kp:∀ c o,c≠z→c≠TO→c≠i1→c≠i2→s.heap.get? c=some o→A5.get? c=some o:=fun c o c1 c2 c3 c4 e=>q5.extBut _ _ c2 (q4.extBut _ _ c4 (q3.extBut _ _ c2 (q2.extBut _ _ c3 (q1.extBut _ _ c1 e))))
 have lz:z < A5.objs.size:=Heap.lt_size z5
 have z6:IsZip (A5.push { cls:=.type "tuple",data:=.seq #[x,y] }) z TI TO .ellipsis:=Heap.get?_push_of_some _ z5
 show wpAny _ _ (Builtin.SmallTypes.ownedTupleHandOut (.ref z) (.ref A5.objs.size) >>= _) _ _ _
 refine wpAny_bind ?_
 unfold Builtin.SmallTypes.ownedTupleHandOut
 refine wpAny_bind (wpAny_setField_rec z6 (by simp) fun A7 z7 q7=>?_)
 replace z7:IsZip A7 z TI TO (rawInt A5.objs.size):=z7
 refine wpAny_setField_rec z7 (by simp) fun A8 z8 q8=>?_
 replace z8:IsZip A8 z TI TO (rawInt A5.objs.size):=z8
 have up:∀ c o,c≠z→A5.get? c=some o→A8.get? c=some o:=fun c o c1 e=>q8.extBut _ _ c1 (q7.extBut _ _ c1 (Heap.get?_push_of_some _ e))
 have t8:IsPair A8 A5.objs.size x y:=q8.extBut _ _ (Nat.ne_of_gt lz) (q7.extBut _ _ (Nat.ne_of_gt lz) (Heap.get?_push_size _ rfl))
 have v1:S1 (k+1) A8:=G1.frame _ _ _ w1 fun b hb o e=>by
  rcases List.mem_cons.mp hb with q | q
  ·rw[q] at e ⊢;exact up _ o D.i1z e
  ·rw[List.mem_singleton.mp q] at e ⊢;exact up _ o D.l1z e
 have v2:S2 (k+1) A8:=G2.frame _ _ _ w2 fun b hb o e=>by
  rcases List.mem_cons.mp hb with q | q
  ·rw[q] at e ⊢;exact up _ o D.i2z e
  ·rw[List.mem_singleton.mp q] at e ⊢;exact up _ o D.l2z e
 rw[sz] at z8 t8
 refine wpAny_pure ⟨_,rfl,?_⟩
 show Q (.ref A5.objs.size) _
 rw[sz]
 exact hQ A8 _ x y px py z8 (up _ _ D.TOz o5) v1 v2 t8 fun c o c1 c2 c3 c4 e=>up c o c1 (kp c o c1 c2 c3 c4 e)
theorem Ua {z TI TO i1 i2 l1 l2:Addr}{n1 n2 k:Nat}{P1 P2:Nat→Value→Prop}{S1 S2:Nat→Heap→Prop}{a b:Value}{Q:Fin→Shared→Prop} (D:ZipApart z TI TO i1 i2 l1 l2)
  (G1:Draws prog w A i1 [i1,l1] n1 P1 S1) (G2:Draws prog w A i2 [i2,l2] n2 P2 S2) (hz:IsZip s.heap z TI TO .none) (hTI:IsPair s.heap TI (.ref i1) (.ref i2)) (hTO:IsPair s.heap TO a b)
  (g1:S1 k s.heap) (g2:S2 k s.heap) (hk:k=n1∨(k < n1∧k=n2))
  (hE:∀ h' tk e,(∀ c o,c≠z→c≠TO→c≠i1→c≠i2→s.heap.get? c=some o→h'.get? c=some o)→(∃ o,h'.get? e=some o∧o.cls=.type "StopIteration")→E (.ref e) { s with heap:=h',toks:=tk }) :
  wpAny (model prog w) A (Builtin.«zip.__next__» ⟨[.ref z],[]⟩) Q E s:=by
 have e1:∀{i:Nat}{h h':Heap}{c:Addr},Heap.SameBut c h h'→i1≠c→l1≠c→S1 i h→S1 i h':=fun hs hn hl g=>G1.frame _ _ _ g fun b hb o e=>by
  rcases List.mem_cons.mp hb with q | q
  ·rw[q] at e ⊢;exact hs.extBut _ _ hn e
  ·rw[List.mem_singleton.mp q] at e ⊢;exact hs.extBut _ _ hl e
 have e2:∀{i:Nat}{h h':Heap}{c:Addr},Heap.SameBut c h h'→i2≠c→l2≠c→S2 i h→S2 i h':=fun hs hn hl g=>G2.frame _ _ _ g fun b hb o e=>by
  rcases List.mem_cons.mp hb with q | q
  ·rw[q] at e ⊢;exact hs.extBut _ _ hn e
  ·rw[List.mem_singleton.mp q] at e ⊢;exact hs.extBut _ _ hl e
 show wpAny _ _ (field (.ref z) 2 >>= _) _ _ _
 refine wpAny_bind (wpAny_field hz rfl (x:=.bool false) rfl ?_)
 show wpAny _ _ (field (.ref z) 3 >>= _) _ _ _
 refine wpAny_bind (wpAny_field hz rfl (x:=.ref TI) rfl (wpAny_bind (wpAny_seqItems hTI rfl ?_)))
 show wpAny _ _ (Builtin.SmallTypes.ownedTupleIsFree (.ref z) >>= _) _ _ _
 refine wpAny_bind ?_
 unfold Builtin.SmallTypes.ownedTupleIsFree
 refine wpAny_bind (wpAny_field hz rfl (x:=.none) rfl (wpAny_pure ?_))
 simp only[if_true]
 refine wpAny_bind (wpAny_rule (wpAny_bind (wpAny_field hz rfl (x:=.ref TO) rfl (wpAny_bind (wpAny_setField_rec hz (by simp) fun A1 z1 q1=>?_)))))
 replace z1:IsZip A1 z TI TO .ellipsis:=z1
 refine wpAny_bind ?_
 simp only[List.zipIdx_cons,List.zipIdx_nil,List.forIn_cons,List.forIn_nil]
 refine wpAny_bind (wpAny_bind (wpAny_onRaise ?_))
 show wpAny _ _ (Builtin.SmallTypes.nextOf (.ref i1) >>= _) _ _ _
 rcases hk with rfl | ⟨k1,rfl⟩
 ·refine wpAny_bind (G1.done _ _ _ (e1 q1 D.i1z D.l1z g1) fun A2 e q2 he=>?_)
  obtain⟨oe,WI,hce⟩:=he
  have z2:IsZip A2 z TI TO .ellipsis:=q2 _ _ D.i1z.symm z1
  have ez:e≠z:=fun q=>by rw[q,z2] at WI;cases WI;exact absurd (show Value.type "zip" = Value.type "StopIteration" from hce) (by decide)
  exact wpAny_setField_rec z2 (by simp) fun A3 _ q3=>hE A3 _ e (fun c o c1 _ c3 _ p=>q3.extBut _ _ c1 (q2 _ _ c3 (q1.extBut _ _ c1 p))) ⟨oe,q3.extBut _ _ ez WI,hce⟩
 ·refine wpAny_bind (G1.item k _ _ _ k1 (e1 q1 D.i1z D.l1z g1) fun x A2 tk px g1' q2=>wpAny_pure ?_)
  have o2:IsPair A2 TO a b:=q2.extBut _ _ D.TOi1 (q1.extBut _ _ D.TOz hTO)
  refine wpAny_bind (wpAny_seqItems o2 rfl (wpAny_bind (wpAny_updateSeq_pair o2 fun A3 o3 q3=>?_)))
  refine wpAny_bind (wpAny_letGo (wpAny_pure (wpAny_bind (wpAny_bind (wpAny_onRaise ?_)))))
  show wpAny _ _ (Builtin.SmallTypes.nextOf (.ref i2) >>= _) _ _ _
  refine wpAny_bind (G2.done _ _ _ (e2 q3 D.TOi2.symm D.l2TO (e2 q2 D.i12.symm D.l2i1 (e2 q1 D.i2z D.l2z g2))) fun A4 e q4 he=>?_)
  obtain⟨oe,WI,hce⟩:=he
  have z4:IsZip A4 z TI TO .ellipsis:=q4 _ _ D.i2z.symm (q3.extBut _ _ D.TOz.symm (q2.extBut _ _ D.i1z.symm z1))
  have ez:e≠z:=fun q=>by rw[q,z4] at WI;cases WI;exact absurd (show Value.type "zip" = Value.type "StopIteration" from hce) (by decide)
  exact wpAny_setField_rec z4 (by simp) fun A5 _ q5=>hE A5 _ e (fun c o c1 c2 c3 c4 p=>q5.extBut _ _ c1 (q4 _ _ c4 (q3.extBut _ _ c2 (q2.extBut _ _ c3 (q1.extBut _ _ c1 p))))) ⟨oe,q5.extBut _ _ ez WI,hce⟩
theorem GQ (hh:A.handled=none) (z TI TO i1 i2 l1 l2:Addr) (D:ZipApart z TI TO i1 i2 l1 l2) (xs ys:Array Value) :
  WalksT prog w A z [z,TI,TO,i1,i2,l1,l2] [z,TO,i1,i2] (min xs.size ys.size)
   (fun i vals=>∃ x y,xs[i]? = some x∧ys[i]? = some y∧vals = #[x,y])
   (fun i h=>IsZip h z TI TO .none∧IsPair h TI (.ref i1) (.ref i2)∧(∃ a b,IsPair h TO a b)∧h.IsListIter i1 l1 i∧h.IsList l1 xs∧h.IsTupleIter i2 l2 i∧h.IsTuple l2 ys)
   (fun i T h=>IsZip h z TI TO (rawInt T)∧IsPair h TI (.ref i1) (.ref i2)∧(∃ a b,IsPair h TO a b)∧h.IsListIter i1 l1 (i+1)∧h.IsList l1 xs∧h.IsTupleIter i2 l2 (i+1)∧h.IsTuple l2 ys∧T≠z∧T≠TO∧T≠i1∧T≠i2) where
 sub:=fun c hc=>by
  simp only[List.mem_cons,List.mem_nil_iff,or_false] at hc ⊢
  rcases hc with q | q | q | q <;> simp[q]
 frame:=fun i h h' st hk=>by
  obtain⟨p1,p2,⟨a,b,p3⟩,p4,p5,p6,p7⟩:=st
  exact⟨hk z (by simp) _ p1,hk TI (by simp) _ p2,⟨a,b,hk TO (by simp) _ p3⟩,p4.at fun o e=>hk i1 (by simp) o e,p5.at fun o e=>hk l1 (by simp) o e,(let ⟨o,ho,r⟩:=p6;⟨o,hk i2 (by simp) o ho,r⟩),(let ⟨o,ho,r⟩:=p7;⟨o,hk l2 (by simp) o ho,r⟩)⟩
 item:=fun i s Q E hi st hQ=>by
  obtain⟨p1,p2,⟨a,b,p3⟩,p4,p5,p6,p7⟩:=st
  have hT:s.TypeIs (.ref z) "zip" := ⟨_,p1,rfl⟩
  unfold pyNext
  refine wpAny_bind (wpAny_attempt (wpAny_callSpecial?_slot (name:=Str.ofString "__next__") hT F.slot_zip_next (wpAny_call_entry F.slot_zip_next hT F.entry_zip_next ?_ (F.args_zip_next_1 _))))
  refine QV (S1:=fun i h=>h.IsListIter i1 l1 i∧h.IsList l1 xs) (S2:=fun i h=>h.IsTupleIter i2 l2 i∧h.IsTuple l2 ys) D (Draws.list (A:=A.in1) hh i1 l1 D.l1i1 xs) (QU (A:=A.in1) hh i2 l2 D.l2i2 ys) p1 p2 p3 ⟨p4,p5⟩ ⟨p6,p7⟩ (Nat.lt_of_lt_of_le hi (Nat.min_le_left ..)) (Nat.lt_of_lt_of_le hi (Nat.min_le_right ..)) fun h' tk u y pu py r1 r2 r3 r4 r5 kp=>?_
  have lt:∀{c o},s.heap.get? c=some o→s.heap.objs.size≠c:=fun e=>Nat.ne_of_gt (Heap.lt_size e)
  refine wpAny_pure (hQ s.heap.objs.size #[u,y] h' tk ⟨u,y,pu,py,rfl⟩ (Nat.le_refl _) ⟨_,r5,rfl,_,rfl⟩ ⟨r1,kp _ _ D.TIz D.TITO D.TIi1 D.TIi2 p2,⟨_,_,r2⟩,r3.1,r3.2,r4.1,r4.2,lt p1,lt p3,?_,?_⟩ fun c o hc e=>kp c o (fun q=>hc (by simp[q])) (fun q=>hc (by simp[q])) (fun q=>hc (by simp[q])) (fun q=>hc (by simp[q])) e)
  ·obtain⟨o,ho,_⟩:=p4;exact lt ho
  ·obtain⟨o,ho,_⟩:=p6;exact lt ho
 go:=fun elts k pos i T s Q E hm hQ=>by
  obtain⟨p1,p2,⟨a,b,p3⟩,p4,p5,p6,p7,_⟩:=hm
  refine wpAny_letOwnedTupleGo_zip p1 fun h' z' q=>hQ h' ⟨z',q.extBut _ _ D.TIz p2,⟨a,b,q.extBut _ _ D.TOz p3⟩,p4.extBut q.extBut D.i1z,p5.extBut q.extBut D.l1z,p6.extBut q.extBut D.i2z,p7.extBut q.extBut D.l2z⟩ fun c o hc e=>q.extBut _ _ (fun y=>hc (by simp[y])) e
 apart:=fun i T h hm hT=>by
  obtain⟨_,_,_,_,_,_,_,t1,t2,t3,t4⟩:=hm
  simp only[List.mem_cons,List.mem_nil_iff,or_false] at hT
  rcases hT with q | q | q | q
  ·exact t1 q
  ·exact t2 q
  ·exact t3 q
  ·exact t4 q
 done:=fun s Q E st hQ=>by
  obtain⟨p1,p2,⟨a,b,p3⟩,p4,p5,p6,p7⟩:=st
  have hT:s.TypeIs (.ref z) "zip" := ⟨_,p1,rfl⟩
  unfold pyNext
  refine wpAny_bind (wpAny_attempt (wpAny_callSpecial?_slot (name:=Str.ofString "__next__") hT F.slot_zip_next (wpAny_call_entry F.slot_zip_next hT F.entry_zip_next ?_ (F.args_zip_next_1 _))))
  refine Ua (S1:=fun i h=>h.IsListIter i1 l1 i∧h.IsList l1 xs) (S2:=fun i h=>h.IsTupleIter i2 l2 i∧h.IsTuple l2 ys) D (Draws.list (A:=A.in1) hh i1 l1 D.l1i1 xs) (QU (A:=A.in1) hh i2 l2 D.l2i2 ys) p1 p2 p3 ⟨p4,p5⟩ ⟨p6,p7⟩ ?_ fun h' tk e kp he=>?_
  ·by_cases q:xs.size≤ys.size
   ·exact .inl (Nat.min_eq_left q)
   ·exact .inr ⟨by omega,Nat.min_eq_right (by omega)⟩
  ·obtain⟨o,ho,hc⟩:=he
   refine wpAny_bind (wpAny_isInstance (T := "StopIteration") (b:=true) ⟨o,ho,hc⟩ isSubtype_stop (wpAny_pure (hQ _ _ fun c o hc e=>kp c o (fun q=>hc (by simp[q])) (fun q=>hc (by simp[q])) (fun q=>hc (by simp[q])) (fun q=>hc (by simp[q])) e)))
 self:=fun i s Q E st hQ=>wpAny_pyIter_zip st.1 hQ
end
def Ub (K:W.Frag) (a b:Addr):It :=
 ⟨fun i H=>∃ xs ys x y,bB K H a xs∧ck K H b ys∧xs[i]? = some x∧ys[i]? = some y,
  fun i H v H'=>∃ t x y,H t=none∧v=.ref t∧H'=upd H t (.tup [x,y])∧(∀ xs,bB K H a xs→xs[i]? = some x)∧(∀ ys,ck K H b ys→ys[i]? = some y),
  fun i H=>∃ xs ys,bB K H a xs∧ck K H b ys∧min xs.length ys.length=i⟩
theorem Js {P:Program}{w:World}{K:W.Frag}{elts:List Expr}{k:Nat}{pos:Pos}{z TI TO i1 i2 l1 l2:Addr} (D:ZipApart z TI TO i1 i2 l1 l2) :
  Turn P w K (.Tuple elts k pos) (Ub K l1 l2) [z,TI,TO,i1,i2] z (fun i h=>IsZip h z TI TO .none∧IsPair h TI (.ref i1) (.ref i2)∧(∃ a b,IsPair h TO a b)∧h.IsListIter i1 l1 i∧h.IsTupleIter i2 l2 i) where
 mem:=by simp
 obj:=fun i h st b hb=>by
  obtain⟨p1,p2,⟨a,c,p3⟩,⟨o1,e1,c1,d1⟩,⟨o2,e2,c2,d2⟩⟩:=st
  simp only[List.mem_cons,List.mem_nil_iff,or_false] at hb
  rcases hb with rfl | rfl | rfl | rfl | rfl
  ·exact⟨_,p1,fun v q=>by cases q⟩
  ·exact⟨_,p2,fun v q=>by cases q⟩
  ·exact⟨_,p3,fun v q=>by cases q⟩
  ·exact⟨_,e1,fun v q=>by rw[d1] at q;cases q⟩
  ·exact⟨_,e2,fun v q=>by rw[d2] at q;cases q⟩
 keep:=fun i h h' st k=>by
  obtain⟨p1,p2,⟨a,c,p3⟩,p4,p5⟩:=st
  exact⟨k z (by simp) _ p1,k TI (by simp) _ p2,⟨a,c,k TO (by simp) _ p3⟩,p4.at fun o e=>k i1 (by simp) o e,(let ⟨o,ho,r⟩:=p5;⟨o,k i2 (by simp) o ho,r⟩)⟩
 item:=by
  intro X hP hw hK hc i pins s σ H E I hf st hg
  subst hP hw hK
  obtain⟨xs,ys,x,y,hx,hy,ex,ey⟩:=hg
  obtain⟨Jt,rv1,Zn,hz1⟩:=I.list hx
  obtain⟨u1,hu1,ru1⟩:=rv1.get ex
  obtain⟨its,rv,p,hz⟩:=I.tuple hy
  obtain⟨u,hu,ru⟩:=rv.get ey
  obtain⟨p1,p2,p3,p4,p5⟩:=id st
  have W:=GQ (prog:=X.prog) (w:=X.w) (A:=X.A) (I.ok.hd hc) z TI TO i1 i2 l1 l2 D Jt.toArray its.toArray
  have hsub:∀ b∈[z,TO,i1,i2],b∈[z,TI,TO,i1,i2]:=by
   intro b hb
   simp only[List.mem_cons,List.mem_nil_iff,or_false] at hb ⊢
   rcases hb with q | q | q | q <;> simp[q]
  refine Dw (J:=Ub X.K l1 l2) (tn:=fun i h=>IsZip h z TI TO .none∧IsPair h TI (.ref i1) (.ref i2)∧(∃ a b,IsPair h TO a b)∧h.IsListIter i1 l1 i∧h.IsTupleIter i2 l2 i) W I hf hsub ?_ ?_ ?_ ?_ ?_
  ·intro b hb
   obtain⟨a',b',p3⟩:=p3
   obtain⟨o1,e1,_⟩:=p4
   obtain⟨o2,e2,_⟩:=p5
   simp only[List.mem_cons,List.mem_nil_iff,or_false] at hb
   rcases hb with rfl | rfl | rfl | rfl | rfl
   ·exact Heap.lt_size p1
   ·exact Heap.lt_size p2
   ·exact Heap.lt_size p3
   ·exact Heap.lt_size e1
   ·exact Heap.lt_size e2
  ·have h1:=(List.getElem?_eq_some_iff.mp hu1).1
   have h2:=(List.getElem?_eq_some_iff.mp hu).1
   simp only[List.size_toArray]
   omega
  ·exact⟨p1,p2,p3,p4,Zn.isList,p5,p⟩
  ·rintro vals ⟨v1,v2,q1,q2,rfl⟩
   have q1:Jt[i]? = some v1:=by simpa using q1
   rw[hu1] at q1;cases q1
   have q2:its[i]? = some v2:=by simpa using q2
   rw[hu] at q2;cases q2
   exact⟨[x,y],(by show 2≤sizeLine;decide),.cons ru1 (.cons ru .nil),fun T hT=>⟨T,x,y,hT,rfl,rfl,fun zs hz=>by rw[I.Ac hz hx];exact ex,fun zs hz=>by rw[I.Df hz hy];exact ey⟩⟩
  ·exact fun h q=>⟨q.1,q.2.1,q.2.2.1,q.2.2.2.1,q.2.2.2.2.2.1⟩
 done:=by
  intro X hP hw hK hc i pins s σ H E I hf st hg
  subst hP hw hK
  obtain⟨xs,ys,hx,hy,hmin⟩:=hg
  obtain⟨Jt,rv1,Zn,hz1⟩:=I.list hx
  obtain⟨its,rv,p,hz⟩:=I.tuple hy
  obtain⟨p1,p2,p3,p4,p5⟩:=id st
  have e2:its.toArray.size=ys.length:=by rw[rv.length];exact List.size_toArray ..
  have e1:Jt.toArray.size=xs.length:=by rw[rv1.length];exact List.size_toArray ..
  have e:i=min Jt.toArray.size its.toArray.size:=by rw[e1,e2,hmin]
  subst e
  have W:=GQ (prog:=X.prog) (w:=X.w) (A:=X.A) (I.ok.hd hc) z TI TO i1 i2 l1 l2 D Jt.toArray its.toArray
  have hsub:∀ b∈[z,TO,i1,i2],b∈[z,TI,TO,i1,i2]:=by
   intro b hb
   simp only[List.mem_cons,List.mem_nil_iff,or_false] at hb ⊢
   rcases hb with q | q | q | q <;> simp[q]
  exact Dy W I hf hsub ⟨p1,p2,p3,p4,Zn.isList,p5,p⟩
 self:=fun _ _ _ _ _ st h=>wpAny_pyIter_zip st.1 h
abbrev zl1 (h:Heap) (a:Addr):Heap:=h.push { cls:=.type "list_iterator",data:=.fields #[.ref a,.int 0 0] }
abbrev zl2 (h:Heap) (a l:Addr):Heap:=(zl1 h a).push { cls:=.type "tuple_iterator",data:=.fields #[.ref l,.int 0 0] }
abbrev zl3 (h:Heap) (a l:Addr):Heap:=(zl2 h a l).push { cls:=.type "tuple",data:=.seq #[.ref h.objs.size,.ref (zl1 h a).objs.size] }
abbrev zl4 (h:Heap) (a l:Addr):Heap:=(zl3 h a l).push { cls:=.type "tuple",data:=.seq #[.none,.none] }
abbrev Zo (h:Heap) (a l:Addr):Heap:=(zl4 h a l).push { cls:=.type "zip",data:=.fields #[.none,.bool false,.bool false,.ref (zl2 h a l).objs.size,.ref (zl3 h a l).objs.size] }
theorem QW (a l:Addr) (xs ys:Array Value):Meets (Builtin.«zip.__new__» ⟨[.type "zip",.ref a,.ref l],[]⟩) (fun _ R s=>(s.heap.IsList a xs∧s.heap.IsTuple l ys)∧R (.ok (.ret (.ref (zl4 s.heap a l).objs.size))) { s with heap:=Zo s.heap a l }) :=
 .of_wp fun prog w A R s h=>by
  obtain⟨hp,g,d,tk,os⟩:=s
  obtain⟨⟨hl1,hl⟩,h⟩:=h
  have hsub:=sub_zip
  have hL:Heap.IsTuple (Shared.heap ⟨zl1 hp a,g,d,tk,os⟩) l ys:=Heap.IsTuple.push hl _
  wp_walk using wpAny_pyIter_list hl1,wpAny_pyIter_tuple hL
  exact⟨_,rfl,h⟩
section
variable {prog:Program}{w:World}{A:Around}{E:Value→Shared→Prop}{s:Shared}
theorem Ju {a l:Addr}{xs ys:Array Value}{Q:Value→Shared→Prop} (hl1:s.heap.IsList a xs) (hl:s.heap.IsTuple l ys)
  (h:∀ h',IsZip h' (s.heap.objs.size+4) (s.heap.objs.size+2) (s.heap.objs.size+3) .none→IsPair h' (s.heap.objs.size+2) (.ref s.heap.objs.size) (.ref (s.heap.objs.size+1))→IsPair h' (s.heap.objs.size+3) .none .none →
   h'.IsListIter s.heap.objs.size a 0→h'.IsTupleIter (s.heap.objs.size+1) l 0→(∀ c o,s.heap.get? c=some o→h'.get? c=some o)→Q (.ref (s.heap.objs.size+4)) { s with heap:=h' }) :
  wpAny (model prog w) A (call (.type "zip") [.ref a,.ref l]) Q E s:=by
 refine callType_new F.called_zip (by decide) (F.typeCall_zip_2 _ _) (F.newCall_zip_2 _ _) (fun obj=>F.args_object_init_3 obj _ _) F.entry_zip_new (QW a l xs ys) ⟨⟨hl1,hl⟩,?_⟩
 have n1:(zl1 s.heap a).objs.size=s.heap.objs.size+1:=Heap.size_push ..
 have n2:(zl2 s.heap a l).objs.size=s.heap.objs.size+2:=by rw[Heap.size_push,n1]
 have n3:(zl3 s.heap a l).objs.size=s.heap.objs.size+3:=by rw[Heap.size_push,n2]
 have n4:(zl4 s.heap a l).objs.size=s.heap.objs.size+4:=by rw[Heap.size_push,n3]
 have up:∀{h:Heap}{c:Addr}{u o:Obj},h.get? c=some o→(h.push u).get? c=some o:=fun e=>Heap.get?_push_of_some _ e
 have r5:(Zo s.heap a l).get? (zl4 s.heap a l).objs.size=some _:=Heap.get?_push_size _ rfl
 have r4:(Zo s.heap a l).get? (zl3 s.heap a l).objs.size=some _:=up (Heap.get?_push_size _ rfl)
 have r3:(Zo s.heap a l).get? (zl2 s.heap a l).objs.size=some _:=up (up (Heap.get?_push_size _ rfl))
 have r2:(Zo s.heap a l).get? (zl1 s.heap a).objs.size=some _:=up (up (up (Heap.get?_push_size _ rfl)))
 have r1:(Zo s.heap a l).get? s.heap.objs.size=some _:=up (up (up (up (Heap.get?_push_size _ rfl))))
 show _∧_
 rw[n2,n3,n4] at r5
 rw[n1,n2] at r3
 rw[n3] at r4
 rw[n1] at r2
 rw[n4]
 exact⟨⟨_,r5,rfl⟩,h _ r5 r3 r4 ⟨_,r1,rfl,rfl⟩ ⟨_,r2,rfl,rfl⟩ fun c o q=>up (up (up (up (up q))))⟩
end
def WJ (K:W.Frag) (ta:TA):TI:=fun σ H R=>ta σ H fun vs H1=>∃ a b,vs=[.ref a,.ref b]∧(∃ xs,bB K H1 a xs)∧(∃ ys,ck K H1 b ys)∧R (Ub K a b) H1
theorem DH {X:Cx}{elts:List Expr}{k:Nat}{tpos:Pos}{a b:Expr}{ta:TA}{p pos:Pos} (K:W.Frag) (hK:X.K=K) (hg:Gl X "zip") (hm:X.mg "zip" = none) (ha:PA X [a,b] ta) (hs:starEach [a,b] X.env=[(false,eval a X.env),(false,eval b X.env)]:=by rfl) (hs2:starEach [b] X.env=[(false,eval b X.env)]:=by rfl) :
  PI X (.Tuple elts k tpos) (.Call (.Name "zip" p) [a,b] [] pos) (WJ K ta):=by
 subst hK
 intro pins s σ H R I h
 refine Call_ (uF I hg hm (u:=.type "zip") (by decide +kernel) (PyProof.Rows.callWith_type1 (dF (ha pos pins s σ H _ I h) fun us s1 ⟨vs,H1,I1,r1,q1⟩=>?_) (by rw[hs,hs2]) (by rw[hs2];rfl)))
 obtain⟨l1,l,e,⟨xs,hx⟩,⟨ys,hy⟩,q⟩:=q1
 subst e
 cases r1 with
 | cons r rr =>
  cases rr with
  | cons r' rr =>
   cases rr
   cases r;cases r'
   obtain⟨Jt,rv1,Zn,hz1⟩:=I1.list hx
   obtain⟨its,rv,pl,hz⟩:=I1.tuple hy
   have afL:l1 < s1.heap.objs.size:=by obtain⟨o,ho,_⟩:=Zn.isList;exact Heap.lt_size ho
   have hlt:l < s1.heap.objs.size:=by obtain⟨o,ho,_⟩:=pl;exact Heap.lt_size ho
   refine Ju Zn.isList pl fun h' hz' hTI hTO hi1 hi2 hk=>?_
   refine wpAny_pyIter_zip hz' ?_
   have I2:Inv X pins σ H1 { s1 with heap:=h' }:=I1.kept (t':=s1.toks) fun b o e=>hk b o e
   refine⟨s1.heap.objs.size+4,_,_,_,H1,rfl,I2,Js (Wm s1.heap.objs.size l1 l afL hlt),⟨hz',hTI,⟨_,_,hTO⟩,hi1,hi2⟩,fun b hb=>?_,q⟩
   have hb':s1.heap.objs.size≤b:=by
    simp only[List.mem_cons,List.mem_nil_iff,or_false] at hb
    rcases hb with rfl | rfl | rfl | rfl | rfl
    ·exact Nat.le_add_right _ _
    ·exact Nat.le_add_right _ _
    ·exact Nat.le_add_right _ _
    ·exact Nat.le_refl _
    ·exact Nat.le_add_right _ _
   exact I1.Ag hb' (I1.hok.fresh hb')
theorem AB {K:W.Frag}{a b:Addr}{xs ys:List V}{g:TG}{tt:TT}{te:TE}{Q:VK}{D:Addr}{τ:St}{H:Hp} (Pv:Nat→List V→St→Hp→Prop) (h0:Pv 0 [] τ (upd H D (.lst [])))
  (hl:∀ i ws τ H,i≤min xs.length ys.length→Pv i ws τ H→bB K H a xs∧ck K H b ys∧H D=some (.lst ws))
  (hs:∀ i x y t ws τ H,xs[i]? = some x→ys[i]? = some y→H t=none→Pv i ws τ H→g (.ref t) τ (upd H t (.tup [x,y])) fun τ2 H2=>tt τ2 H2 fun b H3=>if b=true then te τ2 H3 fun v H4=>H4 D=some (.lst ws)∧ws.length < sizeLine∧Pv (i+1) (ws++[v]) τ2 (upd H4 D (.lst (ws++[v]))) else Pv (i+1) ws τ2 H3)
  (hd:∀ ws τ H,Pv (min xs.length ys.length) ws τ H→Q (.ref D) H):Du (Ub K a b) g tt te Q D τ H:=by
 refine⟨fun i m ws τ H=>m=min xs.length ys.length - i∧i≤min xs.length ys.length∧Pv i ws τ H,⟨min xs.length ys.length,by simp,Nat.zero_le _,h0⟩,?_⟩
 rintro i m ws τ H ⟨rfl,hi,p⟩
 obtain⟨q1,q2,hD⟩:=hl i ws τ H hi p
 refine⟨hD,?_⟩
 by_cases hlt:i < min xs.length ys.length
 ·have k1:i < xs.length:=by omega
  have k2:i < ys.length:=by omega
  refine .inr ⟨⟨xs,ys,xs[i],ys[i],q1,q2,by simp[k1],by simp[k2]⟩,Pv (i+1),fun zs σ' H' p'=>⟨min xs.length ys.length - (i+1),by omega,rfl,hlt,p'⟩,fun v H' y=>?_⟩
  obtain⟨t,x,y,ht,e1,e2,ex,ey⟩:=y
  subst e1 e2
  exact hs i x y t ws τ _ (ex xs q1) (ey ys q2) ht p
 ·have e:i=min xs.length ys.length:=by omega
  subst e
  exact .inl ⟨⟨xs,ys,q1,q2,rfl⟩,hd ws τ H p⟩
end L2
set_option synthInstance.maxSize 100000
set_option synthInstance.maxHeartbeats 400000
namespace L2
open PySem PySem.Spec PyProof.Rows
section
variable {X:Cx}{K:Type} [DecidableEq K] {F:W.Frag}{Z:rA X.prog X.w K}
def afM {P:Program}{w:World}{K:Type} [DecidableEq K] {F:W.Frag}{Z:rA P w K} (Y:t6 F Z):R2:=fun x y H Q=>∃ b' ks',y=.ref b'∧uJ Y H ks' b'∧((x=.non∧Q (.bl false) H)∨∃ b ks,x=.ref b∧uJ Y H ks b∧Q (.bl (decide (ks=ks'))) H)
theorem WK (Y:t6 F Z) (hF:X.K=F) (hu:X.A.units+(Z.jm+1) < cLine):pZ X (compareOp .Eq) (afM Y):=by
 intro pins s σ H x y v u Q I rx ry h
 obtain⟨b',ks',rfl,e2,h⟩:=h
 rcases h with ⟨rfl,q⟩ | ⟨b,ks,rfl,e1,q⟩
 ·cases rx;cases ry
  obtain⟨o',items',n',h1',h2',h3',Zj⟩:=e2.is hF I
  show wpAny _ _ (richCompare .Eq .none (.ref b')) _ _ _
  exact SeqAt.RcAt.none_tuple ⟨o',h1',h2',n',h3'⟩ (by omega) _ _ _ _ ⟨.bl false,H,I,rfl,q⟩
 ·exact Qz Y hF hu pins s σ H _ _ v u Q I rx ry ⟨b,b',ks,ks',rfl,rfl,e1,e2,q⟩
end
abbrev ZP (P:Program) (w:World):=stepK (stepK (ZM P w))
abbrev YP (P:Program) (w:World) (F:W.Frag):t6 F (ZP P w):=GA (GA (YM P w F))
theorem cu (P:Program) (w:World):(ZP P w).jm+1≤8:=by show 4≤8;decide
theorem hp1 {A:Around}{P:Program}{w:World} (h:A.units+64 < cLine):A.units+((ZP P w).jm+1) < cLine:=by show A.units+4 < cLine;omega
theorem hp2 {A:Around}{P:Program}{w:World} (h:A.units+64 < cLine):A.units+1+((ZP P w).jm+1) < cLine:=by show A.units+1+4 < cLine;omega
abbrev Uc:=(Str×Str)×Nat
abbrev lP:=Uc×List (Option Uc)
def Jv:Option Uc→Lf ⊕ List (Lf ⊕ List Lf)
 | none=>.inl none
 | some m=>.inr (vC m)
theorem QX {a b:Option Uc} (h:Jv a=Jv b):a=b:=by
 cases a with
 | none=>cases b with
  | none=>rfl
  | some y=>exact nomatch h
 | some x=>cases b with
  | none=>exact nomatch h
  | some y=>injection h with h;rw[DB.mp h]
theorem DI:∀{a b:List (Option Uc)},a.map Jv=b.map Jv→a=b
 | [],[],_=>rfl
 | [],_ :: _,h=>nomatch h
 | _ :: _,[],h=>nomatch h
 | x :: a,y :: b,h=>by injection h with h1 h2;rw[QX h1,DI h2]
def cD (m:lP):List (Lf ⊕ List (Lf ⊕ List (Lf ⊕ List Lf))):=[.inr [.inl (some (.inr m.1.1.1)),.inl (some (.inr m.1.1.2))],.inl (some (.inl m.1.2)),.inr (m.2.map Jv)]
theorem AD {m m':lP}:cD m=cD m'↔m=m':=by
 constructor
 ·obtain⟨⟨⟨a,b⟩,n⟩,l⟩:=m
  obtain⟨⟨⟨a',b'⟩,n'⟩,l'⟩:=m'
  intro h
  unfold cD at h
  injection h with h1 h2
  injection h2 with h2 h3
  injection h3 with h3 _
  injection h3 with h3
  injection h1 with h1;injection h1 with h1 h4;injection h4 with h4 _
  injection h1 with h1;injection h1 with h1;injection h1 with h1
  injection h4 with h4;injection h4 with h4;injection h4 with h4
  injection h2 with h2;injection h2 with h2;injection h2 with h2
  have h2:n=n':=Int.ofNat.inj h2
  have h3:=DI h3
  have h1:a=a':=h1
  have h4:b=b':=h4
  have h3:l=l':=h3
  rw[h1,h4,h2,h3]
 ·rintro rfl;rfl
section
variable {P:Program}{w:World}{F:W.Frag}{H:Hp}
def gF (F:W.Frag) (H:Hp):Option Uc→V→Prop
 | none,v=>v=.non
 | some m,v=>∃ b s,v=.ref b∧ck F H b [.ref s,.int m.2]∧ck F H s [.str m.1.1,.str m.1.2]
def fL (F:W.Frag) (H:Hp) (m:lP) (v:V):Prop:=∃ b s u vs,v=.ref b∧ck F H b [.ref s,.int m.1.2,.ref u]∧ck F H s [.str m.1.1.1,.str m.1.1.2]∧ck F H u vs∧Paired (gF F H) m.2 vs
theorem fL.keep {H':Hp}{m:lP}{v:V} (t:∀ b xs,ck F H b xs→ck F H' b xs) (h:fL F H m v):fL F H' m v:=by
 obtain⟨b,s,u,vs,e1,e2,e3,e4,e5⟩:=h
 have key:∀{os:List (Option Uc)}{vs:List V},Paired (gF F H) os vs→Paired (gF F H') os vs:=by
  intro os vs h
  induction h with
  | nil=>exact .nil
  | cons h _ ih =>
   refine .cons ?_ ih
   rename_i o v _ _ _
   cases o with
   | none=>exact h
   | some m=>obtain⟨b,s,e1,e2,e3⟩:=h;exact⟨b,s,e1,t _ _ e2,t _ _ e3⟩
 exact⟨b,s,u,vs,e1,t _ _ e2,t _ _ e3,t _ _ e4,key e5⟩
theorem WL {o:Option Uc}{v:V} (h:gF F H o v):(GA (YM P w F)).on H (Jv o) v:=by
 cases o with
 | none=>have h:v=.non:=h;subst h;rfl
 | some m =>
  obtain⟨b,s,rfl,h1,h2⟩:=h
  exact⟨b,rfl,Ej h1 h2⟩
theorem LY:∀{os:List (Option Uc)}{vs:List V},Paired (gF F H) os vs→Paired (fun k v=>(GA (YM P w F)).on H k v) (os.map Jv) vs
 | _,_,.nil=>.nil
 | _,_,.cons a r=>.cons (WL a) (LY r)
theorem QY {m:lP}{b s u:Addr}{vs:List V} (h:ck F H b [.ref s,.int m.1.2,.ref u]) (h2:ck F H s [.str m.1.1.1,.str m.1.1.2]) (h3:ck F H u vs) (h4:Paired (gF F H) m.2 vs):uJ (YP P w F) H (cD m) b :=
 ⟨_,h,.cons ⟨s,rfl,_,h2,.cons rfl (.cons rfl .nil)⟩ (.cons rfl (.cons ⟨u,rfl,vs,h3,LY h4⟩ .nil))⟩
end
section
variable {prog:Program}{w:World}{A:Around}{E:Value→Shared→Prop}{s:Shared}{d ep:Nat}{od:Obj}{es:Array DictEntry}
theorem Ca (hd:(d == sysModules)=false):MeetsIn prog w (Builtin.«dict.__len__» ⟨[.ref d],[]⟩) (fun _ R s=>∃(o:Obj) (es:Array DictEntry) (ep:Nat),s.heap.get? d=some o∧o.data=.dict es ep∧R (.ok (.ret (.int es.size s.toks))) { s with toks:=s.toks+1 }) :=
 .of_wp fun A R s ⟨o,es,ep,ho,hdat,h⟩=>by
  show wpAny _ _ (dictSize d >>= _) _ _ s
  unfold dictSize
  refine wpAny_bind (wpAny_bind (wpAny_dictEntries ho hdat (wpAny_pure ?_)))
  show wpAny _ _ (Builtin.Dict.pendingCount d >>= _) _ _ s
  refine wpAny_bind (wpAny_pendingCount_other hd ?_)
  refine wpAny_ret_mkInt ?_
  rw[Nat.add_zero];exact h
theorem Ud {Q:Value→Shared→Prop} (hd:(d == sysModules)=false) (g:s.heap.get? d=some od) (c:od.ExactDict) (dt:od.data=.dict es ep) (hfit:(es.size:Int) < 2 ^ 63)
  (h:Q (.int es.size (s.toks+1)) { s with toks:=s.toks+1+1 }):wpAny (model prog w) A (call (.builtin "len") [.ref d]) Q E s:=by
 have ty:s.TypeIs (.ref d) "dict" := ⟨od,g,c.1⟩
 refine Calls.call_function_entry kind_len plain_len entry_len (args_len1 _) ?_
 unfold Builtin.«len»
 refine wpAny_bind (m:=oneArg "len" _) (wpAny_pure ?_)
 refine wpAny_bind (m:=callSpecial? (.ref d) ("__len__":Str)) (wpAny_callSpecial?_slot (name:=Str.ofString "__len__") ty PySem.F.slot_dict_len
  (call_meetsIn PySem.F.slot_dict_len ty PySem.F.entry_dict_len (PySem.F.args_dict_len_1 _) (Ca hd) ⟨od,es,ep,g,dt,?_⟩))
 show wpAny _ _ _ _ _ { s with toks:=s.toks+1 }
 refine wpAny_bind (wpAny_holding (wpAny_pure ?_))
 refine wpAny_bind (wpAny_letGo ?_)
 show wpAny _ _ (if ((es.size:Nat):Int) < 0 then _ else _) _ _ _
 rw[if_neg (by omega)]
 show wpAny _ _ (if ((es.size:Nat):Int)≥2 ^ 63 then _ else _) _ _ _
 rw[if_neg (by omega)]
 exact wpAny_bind (wpAny_mkInt (wpAny_pure ⟨_,rfl,h⟩))
end
section
variable {X:Cx}{P:Program}{w:World}{K:Type} [DecidableEq K] {F:W.Frag}{Z:rA P w K}
def aaw {P:Program}{w:World}{K:Type} [DecidableEq K] {F:W.Frag}{Z:rA P w K} (Y:t6 F Z) (hl:Z.jm+1≤8):List V→Hp→VK→Prop:=fun xs H Q=>∃ a kvs,xs=[.ref a]∧Nd Y hl H a kvs∧Q (.int kvs.length) H
theorem DJ (Y:t6 F Z) (hl:Z.jm+1≤8) (hP:X.prog=P) (hw:X.w=w) (hF:X.K=F):iE X (.builtin "len") (aaw Y hl):=by
 subst hP;subst hw
 intro pins s σ H xs vs Q I rx h
 obtain⟨a,kvs,rfl,nd,q⟩:=h
 obtain⟨z,y,ys,r,dd⟩:=Nd.of hF I nd
 obtain⟨o,es,ep,g,c,dt,he,_⟩:=dd
 cases rx with
 | cons r1 r2 =>
 cases r1;cases r2
 have e1:es.size=ys.length:=size_of_entries he
 have e2:=Paired.length r
 have e3:es.size=kvs.length:=by omega
 refine Ud y g c dt (by rw[e3];have:sizeLine=2 ^ 24:=rfl;omega) ⟨.int kvs.length,H,I.tok _,⟨_,by rw[e3]⟩,q⟩
end
section
variable {prog:Program}{w:World}{A:Around}{E:Value→Shared→Prop}{s:Shared}{d ep:Nat}{od:Obj}{es:Array DictEntry}
def GR (es:Array DictEntry) (i:Nat) (v:Value):Prop:=∃ h:i < es.size,v=es[i].key
theorem M5 (hh:A.handled=none) (I d:Addr) (hne:d≠I) (dt:od.data=.dict es ep):Walks prog w A I [I,d] [I] es.size (GR es) (fun i h=>h.IsKeyIter I d i es.size ep∧h.get? d=some od) where
 sub:=fun b hb=>by simp at hb;simp[hb]
 frame:=fun _ _ _ st hk=>⟨st.1.at fun o e=>hk I (by simp) o e,hk d (by simp) _ st.2⟩
 item:=fun i s Q E hi st hQ=>by
  refine QE st.1 st.2 dt hi fun h' WH hs'=>?_
  exact hQ _ h' s.toks ⟨hi,rfl⟩ ⟨WH,(hs'.2 d hne).trans st.2⟩ fun b o hb e=>(hs'.2 b (fun h=>hb (by simp[h]))).trans e
 done:=fun s Q E st hQ=>TU hh st.1 st.2 dt (Nat.le_refl _) fun h' he'=>hQ h' s.toks fun b o hb e=>he' b o (fun h=>hb (by simp[h])) e
 self:=fun _ _ _ _ st hQ=>wpAny_pyIter_keyiter st.1 hQ
theorem QZ {Q:Bool→Shared→Prop} (g:s.heap.get? d=some od) (c:od.ExactDict) (h:Q false s):wpAny (model prog w) A (Builtin.List.listLengthHint (.ref d)) Q E s:=by
 have ty:s.TypeIs (.ref d) "dict" := ⟨od,g,c.1⟩
 unfold Builtin.List.listLengthHint
 refine wpAny_bind (wpAny_specialOf ty PySem.F.slot_dict_len.lookup ?_)
 generalize hid:("dict.__len__" : String)=id0
 wp_delta
 rw[show splitId id0=some ("dict", "__len__") from by subst hid;decide +kernel]
 subst hid
 refine wpAny_bind (wpAny_isInstance (T := "dict") (b:=true) ty (by rw[isSubtype_type];kernel_rfl) ?_)
 refine wpAny_ite_split (fun hab=>absurd hab (by decide)) (fun _=>?_)
 refine wpAny_ite_split (fun _=>?_) (fun hab=>absurd (by decide +kernel) hab)
 show wpAny _ _ (typeOf (Value.ref d) >>= _) _ _ _
 refine wpAny_bind (wpAny_typeOf ty ?_)
 exact wpAny_pure h
theorem Jw {R:Result→Shared→Prop} (hh:A.handled=none) (nd:(d == sysModules)=false) (g:s.heap.get? d=some od) (c:od.ExactDict) (dt:od.data=.dict es ep) (hlen:es.size≤2 ^ 24)
  (S:Addr) (res:Value) (c₀:Nat) (hS:s.heap.get? S=some { cls:=.type "list",data:=.seq #[] c₀ })
  (hR:∀ h' tk acc' c',(∀ b o,b≠S→s.heap.get? b=some o→h'.get? b=some o)→h'.get? S=some { cls:=.type "list",dict:=none,data:=.seq acc' c',slots:=#[] }→ItemsOf (GR es) acc' es.size→R (.ok (.ret res)) { s with heap:=h',toks:=tk }) :
  wpAny (model prog w) A.in1 (Builtin.List.listExtendWith (.ref S) (.ref d) res)
   (fun fin s'=>match fin with | .done f=>R (.ok f) s' | .again c'=>c'.quiet=true∧codeAny (model prog w) A c' R s') (fun e s'=>R (.error e) s') s:=by
 have hSd:S≠d:=fun e=>by rw[e,g] at hS;cases hS;cases dt
 have afN:S < s.heap.objs.size:=Heap.lt_size hS
 have hSI:S≠s.heap.objs.size:=Nat.ne_of_lt afN
 have hdI:d≠s.heap.objs.size:=Nat.ne_of_lt (Heap.lt_size g)
 have hSf:S∉[s.heap.objs.size,d]:=fun hm=>by
  rcases List.mem_cons.mp hm with q | q
  ·exact hSI q
  ·exact hSd (List.mem_singleton.mp q)
 have W:=(M5 (prog:=prog) (w:=w) (A:=A.in1) hh s.heap.objs.size d hdI dt).toS
 have key:∀(h:Heap) (c₁ tk:Nat),h.IsKeyIter s.heap.objs.size d 0 es.size ep→h.get? d=some od→(∀ b o,b≠S→s.heap.get? b=some o→h.get? b=some o) →
   h.get? S=some { cls:=.type "list",data:=.seq #[] c₁ }→codeAny (model prog w) A (.builtin "list.extend.loop" ⟨[.ref S,.ref s.heap.objs.size,res],[]⟩) R { s with heap:=h,toks:=tk }:=by
  intro h c₁ tk hit hd' hk GS
  refine codeAny_extend_loopS W (by rw[sizeLine_eq];omega) S hSf res es.size 0 _ #[] c₁ rfl (Nat.zero_le _) ⟨hit,hd'⟩ GS (ItemsOf.nil _) fun s' acc' c' hm hS' hacc=>?_
  rw[Moved.eq_with hm]
  refine hR s'.heap s'.toks acc' c' (fun b o hb e=>hm.heap b o (fun hmem=>?_) (hk b o hb e)) hS' hacc
  rcases List.mem_cons.mp hmem with e' | hmem
  ·exact hb e'
  ·exact absurd (Heap.lt_size e) (by rw[List.mem_singleton.mp hmem];exact Nat.lt_irrefl _)
 have ty:s.TypeIs (.ref d) "dict" := ⟨od,g,c.1⟩
 unfold Builtin.List.listExtendWith
 refine wpAny_bind (wpAny_typeOf (T := "dict") ty ?_)
 have h1:Builtin.List.listSameRef (.ref S) (.ref d)=false:=by simp[Builtin.List.listSameRef,hSd]
 have h2:(Value.type "dict" == Value.type "list")=false:=by decide
 have h3:(Value.type "dict" == Value.type "tuple")=false:=by decide
 simp only[h1,h2,h3,Bool.or_false,Bool.false_eq_true,if_false]
 refine wpAny_bind (QD nd g c dt ?_)
 refine wpAny_bind (wpAny_holding (QZ (Heap.get?_push_of_some _ g) c ?_))
 have Q0:(s.heap.push { cls:=.type "dict_keyiterator",data:=.fields #[.ref d,.int 0 0,.int es.size 0,.int ep 0] }).IsKeyIter s.heap.objs.size d 0 es.size ep:=⟨_,Heap.get?_push_size _ rfl,rfl,rfl⟩
 have GS:=Heap.get?_push_of_some { cls:=.type "dict_keyiterator",data:=.fields #[.ref d,.int 0 0,.int es.size 0,.int ep 0] } hS
 have g₁:=Heap.get?_push_of_some { cls:=.type "dict_keyiterator",data:=.fields #[.ref d,.int 0 0,.int es.size 0,.int ep 0] } g
 refine wpAny_ite_split (fun _=>?_) (fun _=>wpAny_pure ⟨plainId_quiet PySem.F.plain_extend_loop _,key _ c₀ _ Q0 g₁ (fun b o _ e=>Heap.get?_push_of_some _ e) GS⟩)
 refine wpAny_bind (wpAny_rule ?_)
 refine wpAny_bind ?_
 show wpAny _ _ (updateSeq S (·.push .none) >>= fun _=>updateSeq S (·.pop)) _ _ _
 refine wpAny_bind (wpAny_updateSeq GS rfl ?_)
 have LZ:=Heap.get?_update_self (Obj.mapSeq (·.push Value.none)) GS rfl
 refine wpAny_updateSeq (hz:=by seq_fits) LZ rfl ?_
 have aax:=Heap.get?_update_self (Obj.mapSeq (·.pop)) LZ rfl
 refine wpAny_pure ⟨plainId_quiet PySem.F.plain_extend_loop _,key _ _ _ ?_ ?_ (fun b o hb e=>?_) aax⟩
 ·exact Q0.at fun o e=>(Heap.get?_update_other _ _ hSI).trans ((Heap.get?_update_other _ _ hSI).trans e)
 ·exact(Heap.get?_update_other _ _ hSd).trans ((Heap.get?_update_other _ _ hSd).trans g₁)
 ·exact(Heap.get?_update_other _ _ (Ne.symm hb)).trans ((Heap.get?_update_other _ _ (Ne.symm hb)).trans (Heap.get?_push_of_some _ e))
theorem Q2 {R:Result→Shared→Prop} (hh:A.handled=none) (nd:(d == sysModules)=false) (g:s.heap.get? d=some od) (c:od.ExactDict) (dt:od.data=.dict es ep) (hlen:es.size≤2 ^ 24)
  (S:Addr) (hS:s.heap.get? S=some { cls:=.type "list",data:=.seq #[] })
  (hR:∀ h' tk acc' c',(∀ b o,b≠S→s.heap.get? b=some o→h'.get? b=some o)→h'.get? S=some { cls:=.type "list",dict:=none,data:=.seq acc' c',slots:=#[] }→ItemsOf (GR es) acc' es.size→R (.ok (.ret .none)) { s with heap:=h',toks:=tk }) :
  wpAny (model prog w) A.in1 (Builtin.«list.__init__» ⟨[.ref S,.ref d],[]⟩)
   (fun fin s'=>match fin with | .done f=>R (.ok f) s' | .again c'=>c'.quiet=true∧codeAny (model prog w) A c' R s') (fun e s'=>R (.error e) s') s:=by
 have hSd:S≠d:=fun e=>by rw[e,g] at hS;cases hS;cases dt
 show wpAny _ _ (do let old ←Builtin.List.listItems (.ref S);Builtin.List.listUpdate (.ref S) (fun _=>#[]);letGo old.toList.reverse;Builtin.List.listExtendWith (.ref S) (.ref d) .none) _ _ s
 refine wpAny_bind ?_
 unfold Builtin.List.listItems
 refine wpAny_bind (wpAny_seqItems hS rfl (wpAny_pure ?_))
 show wpAny _ _ (updateSeq S (fun _=>#[]) >>= fun _=>letGo (#[]:Array Value).toList.reverse >>= fun _=>Builtin.List.listExtendWith (.ref S) (.ref d) .none) _ _ s
 refine wpAny_bind (wpAny_updateSeq hS rfl ?_)
 have LZ:=Heap.get?_update_self (Obj.mapSeq (fun _=>(#[]:Array Value))) hS rfl
 have Ue:∀ b o,b≠S→s.heap.get? b=some o→(s.heap.update S (Obj.mapSeq (fun _=>(#[]:Array Value)))).get? b=some o :=
  fun b o hb e=>(Heap.get?_update_other _ _ (Ne.symm hb)).trans e
 refine wpAny_bind (wpAny_letGo ?_)
 refine Jw hh nd (Ue d _ (Ne.symm hSd) g) c dt hlen S .none _ LZ fun h' tk acc' c' hk hS' hacc=>?_
 exact hR h' tk acc' c' (fun b o hb e=>hk b o hb (Ue b o hb e)) hS' hacc
end
section
variable {prog:Program}{w:World}{A:Around}{E:Value→Shared→Prop}{s:Shared}{d ep:Nat}{od:Obj}{es:Array DictEntry}
theorem Q3 {Q:Value→Shared→Prop} (hh:A.handled=none) (nd:(d == sysModules)=false) (g:s.heap.get? d=some od) (c:od.ExactDict) (dt:od.data=.dict es ep) (hlen:es.size≤2 ^ 24)
  (hQ:∀ h' tk acc' c',(∀ b o,s.heap.get? b=some o→h'.get? b=some o) →
   h'.get? s.heap.objs.size=some { cls:=.type "list",dict:=none,data:=.seq acc' c',slots:=#[] }→ItemsOf (GR es) acc' es.size→Q (.ref s.heap.objs.size) { s with heap:=h',toks:=tk }) :
  wpAny (model prog w) A (call (.type "list") [.ref d]) Q E s:=by
 refine callType_codes (Q₁:=fun obj s₁=>obj=.ref s.heap.objs.size∧s₁={ s with heap:=s.heap.push { cls:=.type "list",data:=.seq #[] } }) PySem.F.called_list (PySem.F.typeCall_list_1 _) PySem.F.entry_list_init
  (code_list_new _ ⟨rfl,rfl⟩) fun obj s₁ h₁=>?_
 obtain⟨rfl,rfl⟩:=h₁
 have hS:(s.heap.push { cls:=.type "list",data:=.seq #[] }).get? s.heap.objs.size=some { cls:=.type "list",data:=.seq #[] }:=Heap.get?_push_size _ rfl
 refine⟨⟨_,hS,rfl⟩,PySem.F.args_list_init_2 _ _,Q2 (A:=A.in1) hh nd (Heap.get?_push_of_some _ g) c dt hlen _ hS fun h' tk acc' c' hk hS' hacc=>?_⟩
 exact⟨rfl,hQ h' tk acc' c' (fun b o e=>hk b o (Nat.ne_of_lt (Heap.lt_size e)) (Heap.get?_push_of_some _ e)) hS' hacc⟩
end
section
variable {X:Cx}{P:Program}{w:World}{K:Type} [DecidableEq K] {F:W.Frag}{Z:rA P w K}
theorem M6 {Z:rA P w K}{hl:Z.jm+1≤8}{h:Heap}{a:Addr}{kvs:List (N3 K)}{o:Obj}{es:Array DictEntry}{ep:Nat} (q:LS Z hl a kvs h) (g:h.get? a=some o) (dt:o.data=.dict es ep) {acc:Array Value} (hacc:ItemsOf (GR es) acc es.size):Vals (kvs.map fun (e:N3 K)=>V.ref e.2.1) acc.toList:=by
 obtain⟨hsz,hkey⟩:=Ax q g dt
 have El:acc.toList.length=kvs.length:=by rw[Array.length_toList,hacc.1,hsz]
 have hat:∀ j v,acc.toList[j]? = some v→∃ e:N3 K,kvs[j]? = some e∧v=Value.ref e.2.1:=fun j v hv=>by
  rw[Array.getElem?_toList] at hv
  obtain⟨hj,rfl⟩:=hacc.2 j v hv
  have hj':j < kvs.length:=by omega
  exact⟨kvs[j],List.getElem?_eq_getElem hj',hkey j hj _ (List.getElem?_eq_getElem hj')⟩
 clear hacc hkey hsz q g dt
 generalize acc.toList=us at El hat
 induction kvs generalizing us with
 | nil=>cases us with
  | nil=>exact .nil
  | cons u us=>cases El
 | cons e kvs ih=>cases us with
  | nil=>cases El
  | cons u us =>
   obtain⟨e',h1,h2⟩:=hat 0 u rfl
   have h1:some e=some e':=h1
   cases h1
   subst h2
   exact .cons rfl (ih us (Nat.succ.inj El) fun j v hv=>hat (j+1) v hv)
def WM {P:Program}{w:World}{K:Type} [DecidableEq K] {F:W.Frag}{Z:rA P w K} (Y:t6 F Z) (hl:Z.jm+1≤8):List V→Hp→VK→Prop:=fun xs H Q=>∃(a:Addr) (kvs:List (N3 K)),xs=[.ref a]∧Nd Y hl H a kvs∧∀ l,H l=none→Q (.ref l) (upd H l (.lst (kvs.map fun (e:N3 K)=>V.ref e.2.1)))
theorem Jx (Y:t6 F Z) (hl:Z.jm+1≤8) (hc:X.calm=true) (hP:X.prog=P) (hw:X.w=w) (hF:X.K=F):iE X (.type "list") (WM Y hl):=by
 subst hP;subst hw
 intro pins s σ H xs vs Q I rx h
 obtain⟨a,kvs,rfl,nd,q⟩:=h
 have nn:LS Z hl a kvs s.heap:=(show eY X.prog X.w H s.heap a (dN Z hl a kvs) from I.hok a _ nd.ob).1
 obtain⟨z,y,ys,r,o,es,ep,g,c,dt,rest⟩:=id nn
 cases rx with
 | cons r1 r2 =>
 cases r1;cases r2
 obtain⟨hsz,_⟩:=Ax nn g dt
 refine Q3 (I.ok.hd hc) y g c dt (by rw[hsz];exact z) fun h' tk acc' c' hk hS hacc=>?_
 refine⟨.ref _,_,I.laid (t':=tk) (o:=.lst (kvs.map fun e=>V.ref e.2.1)) (fun b u e=>hk b u e) (Nat.le_refl _) ⟨?_,acc'.toList,c',M6 nn g dt hacc,?_⟩,rfl,q _ (I.hok.fresh (Nat.le_refl _))⟩
 ·rw[List.length_map];exact z
 ·rw[hS]
end
section
variable {X:Cx}{K:Type} [DecidableEq K] {F:W.Frag}{Z:rA X.prog X.w K}
end
section
variable {P:Program}{w:World}{K:Type} [DecidableEq K]
end
section
variable {X:Cx}{K:Type} [DecidableEq K] {Z:rA X.prog X.w K}{hl:Z.jm+1≤8}
end
section
variable {X:Cx}
end
end L2
set_option maxHeartbeats 1000000
namespace L2
open PySem PySem.Spec PyProof.Rows PySem.Builtin PySem.Builtin.ObjectAttr
structure Zp (K:W.Frag) (C:Addr):Prop where
 ga:W.findIn K (.ref C) "__getattribute__" = some (some (.builtin "BaseException.__getattribute__"))
 gx:W.findIn K (.ref C) "__getattr__" = some none
 hd:W.hasDictIn K C=true
 ha:W.findIn K (.ref C) "__class__" = some (some (.builtin "object.__class__"))
 hn:W.specialIn K (.builtin "object.__class__") "__get__" = some (some (.builtin "getset_descriptor.__get__"))
 tk:W.takesIn K (.builtin "object.__class__")=some true
 hm:W.mroIn K C (.type "object")=some true
section
variable {P:Program}{w:World}{A:Around}{E:Value→Shared→Prop}{s:Shared}{K:W.Frag}{C N x:Addr}{bm:List Value}{ini:Option Value}{f:Str}{v:Value}{ox:Obj}{vs:Array Value}
theorem M7 {a g:Value}{odo:Option Obj} (hc:(W.clsIn K C).isSome=true) (ha:W.findIn K (.ref C) f=some (some a)) (hg:W.specialIn K a "__get__" = some (some g)) (ht:W.takesIn K a=some true):W.findObj K C odo f=some (.bind g a):=by
 obtain⟨cd,hc⟩:=Option.isSome_iff_exists.mp hc
 unfold W.findObj
 rw[hc,Option.bind_some,ha,Option.bind_some]
 simp[hg,ht]
theorem Q4 {tk:Tok}{Q:Fin→Shared→Prop}{tp g a:Value} (L0:W.Looks (model P w) s.heap (typeOf (.ref x)) tp) (L1:W.Looks (model P w) s.heap (find (.ref x) tp f) (.bind g a))
  (h:wpAny (model P w) A (call g [a,.ref x,tp]) (fun v s'=>Q (.done (.ret v)) s') E s) :
  wpAny (model P w) A (Builtin.«object.__getattribute__» ⟨[.ref x,.str f tk],[]⟩) Q E s:=by
 unfold Builtin.«object.__getattribute__»
 refine wpAny_bind (m:=slotArgs _ _ _) ?_
 refine wpAny_pure (a:=(Value.ref x,[Value.str f tk])) ?_
 refine wpAny_bind (m:=attrName _) ?_
 refine wpAny_pure (a:=f) ?_
 refine wpAny_bind (L0.here ?_)
 refine wpAny_bind (L1.here ?_)
 first
  | exact wpAny_bind (wpAny_holding (wpAny_mono h (fun v s' z=>wpAny_pure z) fun _ _ z=>z))
  | exact wpAny_bind (wpAny_mono h (fun v s' z=>wpAny_pure z) fun _ _ z=>z)
theorem M8 {od:Option Obj}{Q:Option Value→Shared→Prop} (j8:K.In s.heap) (c:cA K C N bm ini) (tl:B5 K bm) (k:Zp K C) (J:W.InstAt s.heap x ox C od)
  (h:Q (some (.ref C)) { s with toks:=s.toks+1 }):wpAny (model P w) A (getAttr? (.ref x) "__class__") Q E s:=by
 obtain⟨cd,hcd,hm,hdd⟩:=c.cls k.hd
 have FO:W.findObj K C od "__class__" = some (.bind (.builtin "getset_descriptor.__get__") (.builtin "object.__class__")):=M7 (by rw[hcd];rfl) k.ha k.hn k.tk
 have hob:(cd.mro.contains (.type "BaseException"))=true:=by rw[hm,List.contains_cons,tl.base];rfl
 have ne:cd.mro.isEmpty=false:=by rw[hm];rfl
 have sub:W.Looks (model P w) s.heap (isInstance (.ref x) (.type "BaseException")) true :=
  J.type.andThen (W.looks_mroIn j8 (by unfold W.mroIn;rw[hcd,Option.bind_some,if_neg (by rw[ne];decide),hob]))
 have hk:W.Looks (model P w) s.heap (hookBefore (.ref C)) none:=W.looks_hook j8 (by show(if onTheHeap (.ref C) then _ else _)=_;exact k.gx)
 have L1:=W.looks_find (M:=model P w) j8 J FO
 unfold getAttr? getAttrBy? getAttrBy
 refine wpAny_bind (wpAny_mkText (wpAny_bind (wpAny_attempt (wpAny_holding (wpAny_bind (J.type _ _ _ _ (fun _ _ e=>e) (wpAny_bind (W.looks_findIn j8 k.ga _ _ _ _ (fun _ _ e=>e) ?_))))))))
 dsimp only
 rw[show(onTheHeap (Value.ref C) && Value.builtin "BaseException.__getattribute__" == Value.builtin "object.__getattribute__")=false from by rw[show(Value.builtin "BaseException.__getattribute__" == Value.builtin "object.__getattribute__")=false from by decide +kernel];exact Bool.and_false _,if_neg (by decide)]
 refine wpAny_bind (hk _ _ _ _ (fun _ _ e=>e) (wpAny_bind (wpAny_attempt (wpAny_holding ?_))))
 unfold callGetattribute
 rw[show(false && onTheHeap (Value.builtin "BaseException.__getattribute__"))=false from Bool.false_and _,if_neg (by decide)]
 unfold boundAndCalled
 rw[PySem.F.attr_ValueError.ga.bind]
 refine wpAny_bind (wpAny_pure ?_)
 show wpAny _ _ (call (.builtin "BaseException.__getattribute__") [.ref x,.str "__class__" s.toks]) _ _ _
 refine wpAny_call (codeAny_call_builtin PySem.F.attr_ValueError.ga.plain PySem.F.entry_bexc_ga (W.check_slot (M:=model P w) (s:={ s with toks:=s.toks+1 }) (i := "BaseException.__getattribute__") (owner := "BaseException") (n := "__getattribute__") (self:=.ref x) (rest:=[.str "__class__" s.toks]) (kw:=[]) (by decide +kernel) (by decide +kernel) sub (PySem.F.args_bexc_ga (.ref x) (.str "__class__" s.toks)) ?_))
 refine Q4 (s:={ s with toks:=s.toks+1 }) J.type L1 (wpAny_call (W.class_get (s:={ s with toks:=s.toks+1 }) (ox:=ox) (od:=od) j8 J k.hm ?_))
 show wpAny _ _ (handedOut (.ref C)) _ _ _
 rw[W.handedOut_of rfl]
 exact wpAny_pure (wpAny_pure h)
theorem GU {x:Addr}{ox:Obj}{od:Option Obj} (c:cA K C N bm ini) (tl:B5 K bm) (k:Zp K C):W.KitX K (.ref x) (.ref C) (fun h=>W.InstAt h x ox C od) where
 ty:=fun _ _ _ I=>I.type
 it:=fun _ _ X _=>by
  obtain⟨nm,q,bs,hdct,sn,sub,ab,col,dd,k0,k1,k2,k3,k5,lc⟩:=c.ob
  intro A' Q' E' s' k q
  unfold isType loadHead
  exact wpAny_bind (wpAny_loadPart (k _ _ (X _ _ lc)) (wpAny_pure q))
 ne:=fun h tp dd its n sl X htp=>by
  obtain⟨nm,q,bs,hdct,sn,sub,ab,col,dd,k0,k1,k2,k3,k5,lc⟩:=c.ob
  refine Bool.eq_false_iff.mpr fun q=>?_
  have e:C=tp:=Value.ref.inj (beq_iff_eq.mp q)
  subst e
  have z:=congrArg Obj.cls (Option.some.inj ((X _ _ lc).symm.trans htp))
  have z:Value.type "type" = Value.type "tuple" := z
  injection z with z
  exact absurd z (by decide)
 ca:=fun X I q=>M8 X c tl k I q
end
section
variable {X:Cx}{K:W.Frag}
def SO (H:Hp) (ea C:Addr):Prop:=∃ od,(H ea=some (Pb ea (.ref C) od)∨H ea=some (vE ea (.ref C) od))∧(od=none∨∃ d fs,od=some d∧H d=some (LV d fs))
theorem SO.at {pins:List (Addr×Obj)}{σ:St}{H:Hp}{s:Shared}{ea C:Addr} (I:Inv X pins σ H s) (h:SO H ea C):∃ o od,W.InstAt s.heap ea o C od:=by
 obtain⟨od,e,d⟩:=h
 obtain⟨o,vs,q1,q2,q3,q4⟩:∃ o vs,s.heap.get? ea=some o∧o.cls=.ref C∧o.dict=od∧o.data=.fields vs:=by
  rcases e with e | e
  ·obtain⟨⟨o,vs,q1,q2,q3,q4,_⟩,_⟩:=I.hok ea _ e
   exact⟨o,vs,q1,q2,q3,q4⟩
  ·obtain⟨⟨o,vs,q1,q2,q3,q4,_⟩,_⟩:=I.hok ea _ e
   exact⟨o,vs,q1,q2,q3,q4⟩
 have no:∀{P:Prop},P→P:=id
 rcases d with rfl | ⟨d,fs,rfl,e2⟩
 ·exact⟨o,none,q1,q2,by obtain⟨oc,odi,oda,osl⟩:=o;cases q4;rfl,by rw[q3];exact True.intro⟩
 ·obtain⟨⟨mA,⟨od,es,n,ho,_⟩,_⟩,_⟩:=I.hok d _ e2
  exact⟨o,some od,q1,q2,by obtain⟨oc,odi,oda,osl⟩:=o;cases q4;rfl,by rw[q3];exact ho⟩
theorem SO.mono {H H':Hp}{ea C:Addr} (s:aH H H') (h:SO H ea C):SO H' ea C:=by
 obtain⟨od,e,d⟩:=h
 refine⟨od,e.imp (s _ _) (s _ _),d.imp id fun ⟨d,fs,e1,e2⟩=>⟨d,fs,e1,s _ _ e2⟩⟩
def afO (K:W.Frag):List V→Hp→VK→Prop:=fun xs H Q=>∃ ea C N bm ini c b,xs=[.ref ea,c]∧SO H ea C∧cA K C N bm ini∧B5 K bm∧Zp K C∧((∃ n,c=.ty n∧W.kitOne K (.ref C) (.type n)=some b)∨(∃ a,c=.ref a∧W.kitOne K (.ref C) (.ref a)=some b))∧Q (.bl b) H
theorem fV (h:X.K=K):iE X (.builtin "isinstance") (afO K):=by
 subst h
 intro pins s σ H xs us Q I r h
 obtain⟨ea,C,N,bm,ini,c,b,rfl,xo,xc,tl,k,hc,q⟩:=h
 obtain⟨u,w',rfl,ru,rw'⟩:=vals2 r
 obtain⟨o,od,J⟩:=xo.at I
 cases(show u=Value.ref ea from ru)
 rcases hc with ⟨n,rfl,e⟩ | ⟨a,rfl,e⟩
 ·cases rw'
  exact W.kia_one (GU xc tl k) I.nU J e (fun z=>nomatch z) fun tk=>⟨.bl b,H,I.tok tk,rfl,q⟩
 ·cases rw'
  exact W.kia_one (GU xc tl k) I.nU J e (fun z=>nomatch z) fun tk=>⟨.bl b,H,I.tok tk,rfl,q⟩
end
section
variable {X:Cx}{C N fI:Addr}{bm:List Value}{x:Str}{np cpos:Pos}{e:Expr}{es:List Expr}{t:TA}
end
section
variable {K:W.Frag}{C D N N':Addr}{bm bm':List Value}{ini Wy:Option Value}{b:Bool}
theorem cA.kind (c:cA K C N bm ini):(W.clsIn K C).isSome=true∧W.typeIn K (.ref C)=some (.type "type"):=by
 obtain⟨nm,q,bs,hdct,sn,sub,ab,col,dd,k0,k1,k2,k3,k5,lc⟩:=c.ob
 constructor
 ·unfold W.clsIn;rw[lc];rfl
 ·show(K.lookup C).map (·.cls)=_;rw[lc];rfl
theorem cA.self (c:cA K C N bm ini):W.mroIn K C (.ref C)=some true:=by
 obtain⟨nm,q,bs,hdct,sn,sub,ab,col,dd,k0,k1,k2,k3,k5,lc⟩:=c.ob
 unfold W.mroIn W.clsIn
 rw[lc]
 show(if (Value.ref C :: bm).isEmpty=true then none else some ((Value.ref C :: bm).contains (.ref C)))=some true
 simp
theorem cL (c:cA K C N bm ini) (d:cA K D N' bm' Wy) (m:W.mroIn K C (.ref D)=some b):W.kitOne K (.ref C) (.ref D)=some b:=by
 unfold W.kitOne
 by_cases e:C=D
 ·subst e
  rw[c.self] at m
  rw[if_pos (by simp)];exact m
 ·rw[if_neg (by simp;exact e)]
  unfold W.kitCls
  dsimp only
  rw[d.kind.1,d.kind.2,if_pos (by decide)]
  exact m
theorem Q5 (m:W.mroIn K C (.type "ValueError")=some b):W.kitOne K (.ref C) (.type "ValueError")=some b:=by
 unfold W.kitOne
 rw[if_neg (by simp)]
 unfold W.kitCls
 dsimp only
 rw[if_pos (by decide +kernel)]
 exact m
end
open PySem PySem.Spec PyProof.Rows PySem.Builtin
section
variable {prog:Program}{w:World}{A:Around}{E:Value→Shared→Prop}{s:Shared}{α:Type}
end
end L2
set_option maxHeartbeats 4000000
namespace L2
open PySem PySem.Spec PyProof.Rows
section
variable {X:Cx}{tg:Expr}{ea:Addr}
end
section
variable {X:Cx}{elt tg iter:Expr}{ifs:List Expr}{scope:Scope}{pos:Pos}{N:List Str}{nv:Nat}{js:List Nat}{wi:TI}{g:TG}{tt:TT}{te:TE}
end
theorem aay {P:Program}{w:World}{X:Cx}:Passes (zV P w) X E0:=fun _ _ _ _ _ _ _ h=>by
 obtain⟨_,_,_,_,_,_,_,_,_,_,h⟩:=h
 exact h.elim
section
variable {X:Cx}{K:W.Frag}
end
section
variable {X:Cx}
theorem dX {a o b p}{tt:Option Expr}{ll:Nat}{env:Env}:swapsWith (.BinOp a o b p) tt ll env=pure false:=rfl
theorem Ug {k v p}{tt:Option Expr}{ll:Nat}{env:Env}:swapsWith (.Dict k v p) tt ll env=pure false:=rfl
theorem cU {f a k p}{tt:Option Expr}{ll:Nat}{env:Env}:swapsWith (.Call f a k p) tt ll env=pure false:=rfl
theorem nW {v k p}{tt:Option Expr}{ll:Nat}{env:Env}:swapsWith (.Constant v k p) tt ll env=pure false:=rfl
theorem gY {v s p}{tt:Option Expr}{ll:Nat}{env:Env}:swapsWith (.Subscript v s p) tt ll env=pure false:=rfl
theorem Uh {i p}{tt:Option Expr}{ll:Nat}{env:Env}:swapsWith (.Name i p) tt ll env=pure false:=rfl
theorem kM {e p}{tt:Option Expr}{ll:Nat}{env:Env}:swapsWith (.List e p) tt ll env=pure false:=rfl
theorem Q6 {e k p}{tt:Option Expr}{ll:Nat}{env:Env}:swapsWith (.Tuple e k p) tt ll env=pure false:=rfl
theorem cj {a o b p es}{env:Env}:starEach (.BinOp a o b p :: es) env=(false,eval (.BinOp a o b p) env) :: starEach es env:=rfl
theorem Jy {o a p es}{env:Env}:starEach (.UnaryOp o a p :: es) env=(false,eval (.UnaryOp o a p) env) :: starEach es env:=rfl
theorem AE {t a b p es}{env:Env}:starEach (.IfExp t a b p :: es) env=(false,eval (.IfExp t a b p) env) :: starEach es env:=rfl
theorem qf {l o c p es}{env:Env}:starEach (.Compare l o c p :: es) env=(false,eval (.Compare l o c p) env) :: starEach es env:=rfl
theorem bR {f a k p es}{env:Env}:starEach (.Call f a k p :: es) env=(false,eval (.Call f a k p) env) :: starEach es env:=rfl
theorem Em {v p es}{env:Env}:starEach (.JoinedStr v p :: es) env=(false,eval (.JoinedStr v p) env) :: starEach es env:=rfl
theorem ai {v k p es}{env:Env}:starEach (.Constant v k p :: es) env=(false,eval (.Constant v k p) env) :: starEach es env:=rfl
theorem aV {v a p es}{env:Env}:starEach (.Attribute v a p :: es) env=(false,eval (.Attribute v a p) env) :: starEach es env:=rfl
theorem aD {v s p es}{env:Env}:starEach (.Subscript v s p :: es) env=(false,eval (.Subscript v s p) env) :: starEach es env:=rfl
theorem ak {i p es}{env:Env}:starEach (.Name i p :: es) env=(false,eval (.Name i p) env) :: starEach es env:=rfl
theorem dY {e p es}{env:Env}:starEach (.List e p :: es) env=(false,eval (.List e p) env) :: starEach es env:=rfl
theorem cO {e k p es}{env:Env}:starEach (.Tuple e k p :: es) env=(false,eval (.Tuple e k p) env) :: starEach es env:=rfl
theorem bF {e g s p es}{env:Env}:starEach (.ListComp e g s p :: es) env=(false,eval (.ListComp e g s p) env) :: starEach es env:=rfl
end
end L2
set_option maxHeartbeats 1000000
namespace L2
open PySem PySem.Spec PyProof.Rows
section
variable {X:Cx}
end
section
variable {X:Cx}
end
end L2
set_option maxHeartbeats 4000000
namespace L2
open PySem PySem.Spec PyProof.Rows
theorem L4 {x:Str}:[x].Nodup:=.cons (fun y hy=>nomatch hy) .nil
section
variable {X:Cx}
theorem qM (i:Nat) {x:Str}{pos:Pos} (hN:X.N.Nodup) (hi:X.N[i]? = some x:=by rfl) (hx:Loc X.env.scope x:=by first | exact .inl rfl | exact .inr rfl) (hf:X.fn x=true∨X.env.scope.names.lookup x=some .local:=by first | exact .inl rfl | exact .inr rfl | assumption):PG X (.Name x pos) (cK i):=S6 hN hi hx hf
theorem lA (i:Nat) {x:Str}{e:Expr}{te:TE}{pos pos':Pos} (hN:X.N.Nodup) (he:PE X e te) (hi:X.N[i]? = some x:=by rfl) (hx:Loc X.env.scope x:=by first | exact .inl rfl | exact .inr rfl) (hs:swapsWith e (some (.Name x pos')) pos.line X.env=pure false:=by rfl) (hf:X.fn x=true∨X.env.scope.names.lookup x=some .local:=by first | exact .inl rfl | exact .inr rfl | assumption) :
 PS X (.Assign [.Name x pos'] e pos) (S7 te (cK i)):=Af hN hi hx he hs hf
theorem GV {XN:List Str}{Zf:Scope}{N:List Str}{nv:Nat}{js:List Nat}{scope:Scope} (kind:scope.kind=.function:=by rfl) (cell:∀ y∈scope.names,y.2≠.cell:=by decide +kernel) (loc:∀ y∈scope.names,y.2=.local→scope.names.lookup y.1=some .local:=by decide +kernel)
 (free:∀ y∈scope.names,y.2=.free→(Zf.names.lookup y.1=some .cell∨Zf.names.lookup y.1=some .free):=by decide +kernel) (nd:N.Nodup:=by decide +kernel) (len:N.length=nv+js.length:=by rfl) (pl:js.map (fun j=>XN[j]?)=(N.drop nv).map some:=by rfl)
 (fr:∀ x∈N.drop nv,scope.names.lookup x=some .free:=by decide +kernel):bq XN Zf N nv js scope:=⟨kind,cell,loc,free,nd,len,pl,fr⟩
theorem i9 {id:String}{r:List V→Hp→VK→Prop}{x:Str}{e:Expr}{es:List Expr}{t:TA}{p pos:Pos} (hc:iE X (.builtin id) r) (hm:X.mg x=none) (ha:PA X (e :: es) t) (hg:Gl X x:=by rfl) (hv:bootBuiltins x=some (.builtin id):=by decide +kernel) (hn:x ≠ "__name__" := by decide) (hdb:(x == ("__debug__" : Str))=false:=by decide)
 (he:starEach (e :: es) X.env=(false,eval e X.env) :: starEach es X.env:=by rfl) (hpl:(backTo pos (starEach es X.env)).any (·.1)=false:=by rfl):PE X (.Call (.Name x p) (e :: es) [] pos) (tCB r t):=PR hc hg hm hv ha hn hdb he hpl
theorem pcy {T:String}{r:List V→Hp→VK→Prop}{x:Str}{e:Expr}{es:List Expr}{t:TA}{p pos:Pos} (hc:iE X (.type T) r) (hm:X.mg x=none) (ha:PA X (e :: es) t) (hg:Gl X x:=by rfl) (hv:bootBuiltins x=some (.type T):=by decide +kernel) (hn:x ≠ "__name__" := by decide) (hdb:(x == ("__debug__" : Str))=false:=by decide)
 (he:starEach (e :: es) X.env=(false,eval e X.env) :: starEach es X.env:=by rfl) (hpl:(backTo pos (starEach es X.env)).any (·.1)=false:=by rfl):PE X (.Call (.Name x p) (e :: es) [] pos) (tCB r t):=MJ hc hg hm hv ha hn hdb he hpl
theorem II (n:String) {x:Str}{pos:Pos} (hm:X.mg x=none) (hg:Gl X x:=by rfl) (hv:bootBuiltins x=some (.type n):=by decide +kernel) (hn:x ≠ "__name__" := by decide) (hd:(x == ("__debug__" : Str))=false:=by decide):PE X (.Name x pos) (tC (.ty n)):=Wi n hg hm hv hn hd
theorem kB {k kk:Nat}{f:Addr}{fd:FuncData}{ps:List Str}{sp:Sp}{x:Str}{e:Expr}{es:List Expr}{t:TA}{p pos:Pos} (F:aM X.prog X.w X.K X.mg X.base cy k f fd ps sp) (hr:gE kk X.A) (hm:X.mg x=some (.ref f)) (hk:W.keepIn X.K (.ref f)=true) (hb:Binds X.K fd ps []) (ha:PA X (e :: es) t) (hkk:k≤kk:=by decide) (hg:Gl X x:=by rfl)
 (hdb:(x == ("__debug__" : Str))=false:=by decide) (he:starEach (e :: es) X.env=(false,eval e X.env) :: starEach es X.env:=by rfl) (hpl:(backTo pos (starEach es X.env)).any (·.1)=false:=by rfl):PE X (.Call (.Name x p) (e :: es) [] pos) (PL sp [] E0 t):=vt F (hr.mono hkk) hg hm hk hb .nil kc ha hdb he hpl
theorem oQ (K:W.Frag) {a b:Expr}{ta tb:TE}{pos:Pos} (ha:PE X a ta) (hb:PE X b tb) (hs:Ed b:=by exact fun _ _=>rfl) (h:X.K=K:=by rfl):PE X (.Subscript a b pos) (Vl (V9 K) ta tb):=PX (Tw K h) ha hb hs
theorem Ge (K:W.Frag) {a b:Expr}{ta tb:TE}{pos:Pos} (ha:PE X a ta) (hb:PE X b tb) (hs:Ed b:=by exact fun _ _=>rfl) (h:X.K=K:=by rfl):PE X (.Subscript a b pos) (Vl (V8 K) ta tb):=PX (Qd K h) ha hb hs
theorem iM {op:CmpOp}{r:R2}{a b:Expr}{ta tb:TE}{pos:Pos} (ho:pZ X (compareOp op) r) (ha:PE X a ta) (hb:PE X b tb) (h:op≠.In:=by decide) (h2:op≠.NotIn:=by decide):PT X (.Compare a [op] [b] pos) (Vo (Vl r ta tb)):=iW ho ha hb (Pz b h h2)
theorem IJ {op:CmpOp}{r:R2}{a b:Expr}{ta tb:TE}{pos:Pos} (ho:pZ X (compareOp op) r) (ha:PE X a ta) (hb:PE X b tb) (h:op≠.In:=by decide) (h2:op≠.NotIn:=by decide):PE X (.Compare a [op] [b] pos) (Vl r ta tb):=D9 ho ha hb (Pz b h h2)
end
theorem nj {a b:TS}{D:Ends}{σ:St}{H:Hp} (h:∀ R:TS,(∀ D σ H,b D σ H→R D σ H)→S5 a R D σ H):S5 a b D σ H:=h b fun _ _ _ z=>z
abbrev FO (n q:Str) (s:Stmt) (d oc:Value) (od:Option Addr) (kV dc pm:Value) (an:Option Addr) (cd ct:Value) (sl:Array (Option Value)):Option Obj:=some ⟨oc,od,.func (W.fnOf n q (ff s) (cT s) (aA s) d kV dc pm an cd ct),sl⟩
abbrev FN (n q:Str) (s:Stmt) (d kV dc pm:Value) (an:Option Addr) (cd ct:Value):FuncData:=W.fnOf n q (ff s) (cT s) (aA s) d kV dc pm an cd ct
abbrev RF (a:Addr):Option (Option Value):=some (some (.ref a))
theorem gC.nk {K:W.Frag}{x qual:Str}{st:Stmt}{f:Addr}{fd:FuncData}{ps:List Str} (F:gC K x qual st f fd) (hp:ps.length=1:=by rfl)
  (h:∀(kV doc pm:Value) (an:Option Addr) (cdv ct a0:Value),bindArgs (W.fnOf x qual (ff st) (cT st) (aA st) .none kV doc pm an cdv ct) ⟨[a0],[]⟩=pure (ps.zip [a0]):=by intros;rfl):Binds K fd ps [] :=
 F.binds fun kV doc pm an cdv ct us hl=>by
  rw[hp] at hl
  match us,hl with
  | [a0],_=>exact h kV doc pm an cdv ct a0
theorem gC.xq {K:W.Frag}{x qual:Str}{st:Stmt}{f:Addr}{fd:FuncData}{ps:List Str} (F:gC K x qual st f fd) (hp:ps.length=2:=by rfl)
  (h:∀(kV doc pm:Value) (an:Option Addr) (cdv ct a0 a1:Value),bindArgs (W.fnOf x qual (ff st) (cT st) (aA st) .none kV doc pm an cdv ct) ⟨[a0,a1],[]⟩=pure (ps.zip [a0,a1]):=by intros;rfl):Binds K fd ps [] :=
 F.binds fun kV doc pm an cdv ct us hl=>by
  rw[hp] at hl
  match us,hl with
  | [a0,a1],_=>exact h kV doc pm an cdv ct a0 a1
theorem gC.uK {K:W.Frag}{x qual:Str}{st:Stmt}{f:Addr}{fd:FuncData}{ps:List Str} (F:gC K x qual st f fd) (hp:ps.length=3:=by rfl)
  (h:∀(kV doc pm:Value) (an:Option Addr) (cdv ct a0 a1 a2:Value),bindArgs (W.fnOf x qual (ff st) (cT st) (aA st) .none kV doc pm an cdv ct) ⟨[a0,a1,a2],[]⟩=pure (ps.zip [a0,a1,a2]):=by intros;rfl):Binds K fd ps [] :=
 F.binds fun kV doc pm an cdv ct us hl=>by
  rw[hp] at hl
  match us,hl with
  | [a0,a1,a2],_=>exact h kV doc pm an cdv ct a0 a1 a2
theorem gC.Q7 {K:W.Frag}{x qual:Str}{st:Stmt}{f:Addr}{fd:FuncData}{ps:List Str} (F:gC K x qual st f fd) (hp:ps.length=4:=by rfl)
  (h:∀(kV doc pm:Value) (an:Option Addr) (cdv ct a0 a1 a2 a3:Value),bindArgs (W.fnOf x qual (ff st) (cT st) (aA st) .none kV doc pm an cdv ct) ⟨[a0,a1,a2,a3],[]⟩=pure (ps.zip [a0,a1,a2,a3]):=by intros;rfl):Binds K fd ps [] :=
 F.binds fun kV doc pm an cdv ct us hl=>by
  rw[hp] at hl
  match us,hl with
  | [a0,a1,a2,a3],_=>exact h kV doc pm an cdv ct a0 a1 a2 a3
end L2
namespace My
open PySem L2
def top (i:Nat):Stmt:=PySem.Challenge.pw_dialecthall_k71_sole_refused.main.body.getD i (.Pass ⟨0,0,0,0⟩)
abbrev fk:Stmt:=top 19
abbrev cI:Stmt:=top 37
abbrev bO:Stmt:=inClass (top 38) 0
abbrev gG:Stmt:=inClass (top 38) 1
abbrev jx:Stmt:=top 39
abbrev fW:Stmt:=inClass (top 47) 0
abbrev dZ:Stmt:=inClass (top 49) 0
abbrev dO:Stmt:=top 32
abbrev cV:Stmt:=top 20
abbrev o7:Stmt:=top 21
abbrev o8:Stmt:=top 22
abbrev fm:Stmt:=top 23
abbrev ja:Stmt:=top 24
abbrev iN:Stmt:=top 33
abbrev lB:Stmt:=top 34
abbrev AF:Stmt:=top 25
abbrev d7:Stmt:=inClass (top 38) 2
abbrev cg:Stmt:=top 52
abbrev cW:Stmt:=inClass (top 53) 0
abbrev d8:Stmt:=inClass (top 12) 0
abbrev gk:Stmt:=inClass (top 11) 0
abbrev dG:Stmt:=inClass (top 10) 0
abbrev gm:Stmt:=inClass (top 9) 0
abbrev nq:Stmt:=top 18
abbrev o9:Stmt:=top 28
abbrev gH:Stmt:=top 35
abbrev dg:Stmt:=top 41
abbrev fX:Stmt:=top 42
abbrev iO:Stmt:=top 43
abbrev iP:Stmt:=top 44
abbrev fY:Stmt:=top 45
abbrev jy:Stmt:=top 46
abbrev lC:Stmt:=inClass (top 47) 1
abbrev fq:Stmt:=inClass (top 47) 2
abbrev cP:Stmt:=inClass (top 49) 1
abbrev cF:Stmt:=inClass (top 49) 2
abbrev gg:Stmt:=top 51
abbrev fu:Stmt:=inClass (top 53) 1
abbrev dD:Stmt:=inClass (top 53) 2
abbrev lD:Stmt:=top 55
abbrev pe:Stmt:=top 56
abbrev iQ:Stmt:=top 61
abbrev AG:Stmt:=top 62
abbrev gI:Stmt:=top 64
abbrev jz:Stmt:=top 65
abbrev iR:Stmt:=top 66
abbrev lE:Stmt:=top 67
abbrev jA:Stmt:=top 68
abbrev lF:Stmt:=top 69
abbrev lG:Stmt:=top 70
abbrev jB:Stmt:=top 71
abbrev gh:Stmt:=top 72
abbrev gJ:Stmt:=top 73
abbrev lH:Stmt:=top 74
abbrev nt:Stmt:=top 75
abbrev gK:Stmt:=top 76
abbrev jC:Stmt:=top 77
abbrev vF:Stmt:=top 78
theorem ao {H:Hp}{l:Addr}{o:HO} (h:H l=none):aH H (upd H l o):=fun b u e=>by rw[aF (aW e h)];exact e
theorem bg {H H2:Hp}{l:Addr}{o:HO} (h:H l=none) (s:aH H H2):aH H (upd H2 l o):=fun b u e=>by rw[aF (aW e h)];exact s b u e
theorem rM {i:Nat}{x:V}{σ:St}{H:Hp}{A B:St→Hp→Prop} (h:A (σ.set i (some x)) H):cK i x σ H (fun τ2 H2=>Tq τ2 H2 fun b H3=>if b=true then A τ2 H3 else B τ2 H3):=by
 show(if true=true then A (σ.set i (some x)) H else B (σ.set i (some x)) H)
 exact gj h
theorem Vz {p A B:Prop} [Decidable p] (hp:¬p) (h:B):if decide p=true then A else B:=by rw[if_neg (by simpa using hp)];exact h
theorem Q8 {A B:Prop}{b:Bool} (hb:b=true) (h:B):if (!b)=true then A else B:=by rw[hb];exact eZ h
theorem AH {α:Type}{xs:List α}{i:Int} (h0:0≤i) (h:i < xs.length):∃ c,PV xs i=some c∧c∈xs:=by
 obtain⟨j,rfl⟩:∃ j:Nat,i=j:=⟨i.toNat,by omega⟩
 have hj:j < xs.length:=by omega
 exact⟨xs[j],zS (by simp[hj]),List.getElem_mem hj⟩
theorem take_snoc {l:List Nat}{i c:Nat} (h:l[i]? = some c):l.take (i+1)=l.take i++[c]:=by
 rw[List.take_succ,h];rfl
def Pn (c:Nat):Prop:=32≤c∧c≤126∧c≠37
instance (c:Nat):Decidable (Pn c):=by unfold Pn;exact inferInstance
structure Sg (z:Str):Prop where
 nd:z.cps.toList.Nodup
 pr:∀ c∈z.cps.toList,Pn c
def Mn (z:Str):Prop:=0 < z.length∧z.length≤100∧∀ c∈z.cps.toList,Pn c
instance (z:Str):Decidable (Mn z):=by unfold Mn;exact inferInstance
structure Gd (p q f:Str):Prop where
 gp:Sg p
 gq:Sg q
 gf:Sg f
 p1:1≤p.length
 p3:p.length≤3
 q2:q.length≤2
 f2:f.length≤2
def yo (p q f:Str) (b1 b2 b3 b4:Bool):List V:=[.str p,.str q,.str f,.bl b1,.bl b2,.bl b3,.bl b4]
def DK (p q f:Str) (b1 b2 b3 b4:Bool):List (Str×V):=[("parts",.str p),("quotes",.str q),("frees",.str f),("twin",.bl b1),("wide",.bl b2),("thin",.bl b3),("stray",.bl b4)]
def away (t:Str) (c:Nat):Bool:=!(!(Builtin.Str.occurrences t (sg c) 0 t.length 1).isEmpty)
theorem vG (t:Str) (c:Nat):away t c=true↔c∉t.cps.toList:=by
 unfold away
 have e:(!(Builtin.Str.occurrences t (sg c) 0 t.length 1).isEmpty)=decide (c∈t.cps.toList):=StrLaws.found_one t c
 rw[e]
 simp
theorem WN {z:Str}{c:Nat} (h:Sg z) (hc:Pn c) (ha:away z c=true):Sg (z++sg c):=by
 have e:(z++sg c).cps.toList=z.cps.toList++[c]:=by
  show(z.cps ++ #[c]).toList=_
  simp
 have hn:=(vG z c).mp ha
 refine⟨?_,?_⟩
 ·rw[e,List.nodup_append]
  refine⟨h.nd,by simp,fun a ha b hb=>?_⟩
  rw[List.mem_singleton.mp hb]
  intro q;exact hn (q ▸ ha)
 ·rw[e]
  intro d hd
  rcases List.mem_append.mp hd with z' | z'
  ·exact h.pr d z'
  ·rw[List.mem_singleton.mp z'];exact hc
theorem WO:Sg ("":Str):=by
 have e:("":Str).cps.toList=[]:=by decide +kernel
 refine⟨?_,?_⟩
 ·rw[e];exact List.nodup_nil
 ·rw[e];intro c hc;cases hc
theorem gZ (a b:Str):(a++b).length=a.length+b.length:=by
 show(a.cps++b.cps).size=_
 rw[Array.size_append];rfl
theorem aS {K:W.Frag}{H H':Hp}{a:Addr}{xs:List V} (e:aH H H') (h:ck K H a xs):ck K H' a xs:=by
 rcases h with (h | ⟨o,h⟩) | h
 ·exact .inl (.inl (e _ _ h))
 ·exact .inl (.inr ⟨o,e _ _ h⟩)
 ·exact .inr h
theorem Q9 {A B:Prop}{b:Bool} (hb:b=false) (h:A):if (!b)=true then A else B:=by rw[hb];exact gj h
theorem qN {A B:Prop}{b:Bool} (hb:b=true) (h:A):if b=true then A else B:=by rw[hb];exact gj h
theorem DL {A B:Prop}{b:Bool} (hb:b=false) (h:B):if b=true then A else B:=by rw[hb];exact eZ h
def xr (c:Nat) (z:Str):Bool:=!(Builtin.Str.occurrences z (sg c) 0 z.length 1).isEmpty
def d9 (a b:Str):Bool:=decide (V.str a=V.str b)
theorem En {a b:Str} (h:d9 a b=true):a=b:=by have:=of_decide_eq_true h;cases this;rfl
theorem rN (a:Str):d9 a a=true:=decide_eq_true rfl
inductive Res where
 | go (k w u:Str)
 | Gh (w:Str)
def Cb (K:W.Frag) (H:Hp) (v:V):Res→Prop
 | .go k w u=>d9 k ("fault":Str)=false∧∃ a b,v=.ref a∧ck K H a [.str k,.ref b]∧ck K H b [.str w,.str u]
 | .Gh w=>∃ a,v=.ref a∧ck K H a [.str ("fault":Str),.str w]
theorem iS {K:W.Frag}{H:Hp}{Q:VK}{k w u:Str}{r:Res} (e:r=.go k w u) (hk:d9 k ("fault":Str)=false) (h:∀ v H',aH H H'→Cb K H' v r→Q v H') :
  [V.str w,V.str u].length≤sizeLine∧∀ b,H b=none→([V.str k,V.ref b].length≤sizeLine∧∀ a,(upd H b (.tup [.str w,.str u])) a=none→Q (.ref a) (upd (upd H b (.tup [.str w,.str u])) a (.tup [.str k,.ref b]))):=by
 refine⟨(by show 2≤sizeLine;decide),fun b hb=>⟨(by show 2≤sizeLine;decide),fun a ha=>?_⟩⟩
 have s1:=ao (o:=HO.tup [.str w,.str u]) hb
 have s2:=ao (o:=HO.tup [.str k,.ref b]) ha
 refine h _ _ (s1.trans s2) ?_
 rw[e]
 exact⟨hk,a,b,rfl,ck.of ah,aS s2 (ck.of ah)⟩
theorem Eo {K:W.Frag}{H H0:Hp}{Q:VK}{k w u:Str}{r:Res}{b:Addr} (e:r=.go k w u) (hk:d9 k ("fault":Str)=false) (s0:aH H0 H) (hb:ck K H b [.str w,.str u]) (h:∀ v H',aH H0 H'→Cb K H' v r→Q v H') :
  [V.str k,V.ref b].length≤sizeLine∧∀ a,H a=none→Q (.ref a) (upd H a (.tup [.str k,.ref b])):=by
 refine⟨(by show 2≤sizeLine;decide),fun a ha=>?_⟩
 have s2:=ao (o:=HO.tup [.str k,.ref b]) ha
 refine h _ _ (s0.trans s2) ?_
 rw[e]
 exact⟨hk,a,b,rfl,ck.of ah,aS s2 hb⟩
theorem AI {K:W.Frag}{H:Hp}{Q:VK}{w:Str}{r:Res} (e:r=.Gh w) (h:∀ v H',aH H H'→Cb K H' v r→Q v H') :
  [V.str ("fault":Str),V.str w].length≤sizeLine∧∀ a,H a=none→Q (.ref a) (upd H a (.tup [.str ("fault":Str),.str w])):=by
 refine⟨(by show 2≤sizeLine;decide),fun a ha=>?_⟩
 have s2:=ao (o:=HO.tup [.str ("fault":Str),.str w]) ha
 refine h _ _ s2 ?_
 rw[e]
 exact⟨a,rfl,ck.of ah⟩
theorem nX:d9 ("skip":Str) ("fault":Str)=false:=by decide +kernel
theorem Jz:d9 ("end":Str) ("fault":Str)=false:=by decide +kernel
theorem Ep:d9 ("part":Str) ("fault":Str)=false:=by decide +kernel
theorem nu:d9 ("put":Str) ("fault":Str)=false:=by decide +kernel
def qg (p q f:Str) (b3:Bool) (w u:Str) (c:Nat):Res :=
 if xr c f=true then .go ("skip":Str) ("freed":Str) ("":Str) else
 if d9 (sg c) (Str.ofString "\n")=true then .go ("end":Str) ("row":Str) ("":Str) else
 if xr c q=true then .go ("skip":Str) ("within":Str) (sg c) else
 if xr c p=true then .go ("part":Str) ("cell":Str) ("":Str) else
 if d9 (sg c) (" ":Str)=true then (if b3=true then .go ("skip":Str) w u else .go ("put":Str) ("plain":Str) ("":Str)) else
 .go ("put":Str) ("plain":Str) ("":Str)
def qh (p q f:Str) (b4:Bool) (c:Nat):Res :=
 if xr c f=true then .go ("skip":Str) ("freed":Str) ("":Str) else
 if d9 (sg c) (Str.ofString "\n")=true then .go ("end":Str) ("row":Str) ("":Str) else
 if xr c p=true then .go ("part":Str) ("cell":Str) ("":Str) else
 if xr c q=true then (if (!b4)=true then .Gh ("quote":Str) else .go ("put":Str) ("plain":Str) ("":Str)) else
 .go ("put":Str) ("plain":Str) ("":Str)
def mF (f:Str) (b1 b2:Bool) (u:Str) (c:Nat):Res :=
 if xr c f=true then .go ("skip":Str) ("freed":Str) u else
 if d9 (sg c) u=true then (if b1=true then .go ("skip":Str) ("doubt":Str) u else .go ("skip":Str) ("behind":Str) ("":Str)) else
 if d9 (sg c) (Str.ofString "\n")=true then (if (!b2)=true then .Gh ("line":Str) else .go ("put":Str) ("within":Str) u) else
 .go ("put":Str) ("within":Str) u
def mG (p:Str) (b3:Bool) (c:Nat):Res :=
 if d9 (sg c) (Str.ofString "\n")=true then .go ("end":Str) ("row":Str) ("":Str) else
 if xr c p=true then .go ("part":Str) ("cell":Str) ("":Str) else
 if d9 (sg c) (" ":Str)=true then (if b3=true then .go ("skip":Str) ("behind":Str) ("":Str) else .Gh ("behind":Str)) else
 .Gh ("behind":Str)
def AJ (p:Str) (b3:Bool) (u:Str) (c:Nat):Res:=if d9 (sg c) u=true then .go ("put":Str) ("within":Str) u else mG p b3 c
def tw (u:Str):Res:=if d9 u ("":Str)=true then .go ("put":Str) ("plain":Str) ("":Str) else .go ("put":Str) ("within":Str) u
def rO (b2:Bool) (u:Str) (c:Nat):Res :=
 if d9 (sg c) (Str.ofString "\n")=true then (if (!b2)=true then .Gh ("line":Str) else tw u) else tw u
def L5 (p q f:Str) (b3 b4:Bool) (w u:Str) (c:Nat):Res:=if d9 w ("plain":Str)=true then qh p q f b4 c else qg p q f b3 w u c
def nA (p q f:Str) (b1 b2 b3 b4:Bool) (w u:Str) (c:Nat):Res :=
 if d9 w ("within":Str)=true then mF f b1 b2 u c else
 if d9 w ("freed":Str)=true then rO b2 u c else
 if d9 w ("doubt":Str)=true then AJ p b3 u c else
 if d9 w ("behind":Str)=true then mG p b3 c else
 L5 p q f b3 b4 w u c
theorem ns {a b:String} (h:d9 (Str.ofString a) (Str.ofString b)=false):¬d9 (Str.ofString a) (Str.ofString b)=true:=by rw[h];decide
theorem Ra {p q f:Str}{b1 b2 b3 b4:Bool}{w u:Str}{c:Nat} (h:d9 w ("plain":Str)=true):nA p q f b1 b2 b3 b4 w u c=qh p q f b4 c:=by
 cases En h
 unfold nA L5
 rw[if_neg (ns (by decide +kernel)),if_neg (ns (by decide +kernel)),if_neg (ns (by decide +kernel)),if_neg (ns (by decide +kernel)),if_pos (rN _)]
theorem M9 {p q f:Str}{b1 b2 b3 b4:Bool}{w u:Str}{c:Nat} (h:d9 w ("within":Str)=true):nA p q f b1 b2 b3 b4 w u c=mF f b1 b2 u c:=by
 unfold nA
 rw[if_pos h]
theorem Rb {p q f:Str}{b1 b2 b3 b4:Bool}{w u:Str}{c:Nat} (h:d9 w ("doubt":Str)=true):nA p q f b1 b2 b3 b4 w u c=AJ p b3 u c:=by
 cases En h
 unfold nA
 rw[if_neg (ns (by decide +kernel)),if_neg (ns (by decide +kernel)),if_pos (rN _)]
theorem Na {p q f:Str}{b1 b2 b3 b4:Bool}{w u:Str}{c:Nat} (h:d9 w ("behind":Str)=true):nA p q f b1 b2 b3 b4 w u c=mG p b3 c:=by
 cases En h
 unfold nA
 rw[if_neg (ns (by decide +kernel)),if_neg (ns (by decide +kernel)),if_neg (ns (by decide +kernel)),if_pos (rN _)]
theorem Rc {p q f:Str}{b1 b2 b3 b4:Bool}{w u:Str}{c:Nat} (h:d9 w ("freed":Str)=true):nA p q f b1 b2 b3 b4 w u c=rO b2 u c:=by
 cases En h
 unfold nA
 rw[if_neg (ns (by decide +kernel)),if_pos (rN _)]
theorem Ui {p q f:Str}{b1 b2 b3 b4:Bool}{w u:Str}{c:Nat} (h1:d9 w ("within":Str)=false) (h2:d9 w ("freed":Str)=false) (h3:d9 w ("doubt":Str)=false) (h4:d9 w ("behind":Str)=false):nA p q f b1 b2 b3 b4 w u c=L5 p q f b3 b4 w u c:=by
 unfold nA
 rw[h1,h2,h3,h4]
 rfl
theorem rP {b:Bool} (h:¬b=true):b=false:=by cases b <;> simp_all
def tfl (d:Addr):List (Str×V):=[("dialect",.ref d)]
structure Tn (C CT:Addr) (H:Hp) (y:Addr) (p q f:Str) (b1 b2 b3 b4:Bool):Prop where
 ok:∃ dy d dd,H y=some (.ins CT dy (tfl d))∧H d=some (.ins C dd (DK p q f b1 b2 b3 b4))
theorem Tn.mono {C CT:Addr}{H H':Hp}{y:Addr}{p q f:Str}{b1 b2 b3 b4:Bool} (s:aH H H') (h:Tn C CT H y p q f b1 b2 b3 b4):Tn C CT H' y p q f b1 b2 b3 b4:=by
 obtain⟨dy,d,dd,e1,e2⟩:=h.ok
 exact⟨dy,d,dd,s _ _ e1,s _ _ e2⟩
theorem tD {H H':Hp}{y dy:Addr}{o:HO} (hy:H y=none) (Zq:H dy=none) (kp:∀ b o',upd (upd H dy (.own y)) y o b=some o'→b≠y→H' b=some o'):aH H H':=fun b o' e=>kp b o' (by rw[aF (aW e hy),aF (aW e Zq)];exact e) (aW e hy)
theorem lI {H:Hp}{y dy b:Addr}{o o':HO} (hy:H y=none) (Zq:H dy=none) (e:H b=some o'):upd (upd H dy (.own y)) y o b=some o':=by rw[aF (aW e hy),aF (aW e Zq)];exact e
def jD (K:W.Frag) (H:Hp) (x:V) (w:Str×Str):Prop:=∃ a,x=.ref a∧ck K H a [.str w.1,.str w.2]
theorem jD.mono {K:W.Frag}{H H':Hp}{x:V}{w:Str×Str} (e:aH H H') (h:jD K H x w):jD K H' x w:=let ⟨a,e1,e2⟩:=h;⟨a,e1,aS e e2⟩
theorem jD.but {K:W.Frag}{H:Hp}{x:V}{w:Str×Str}{l:Addr}{ys:List V}{o:HO} (hl:H l=some (.lst ys)) (h:jD K H x w):jD K (upd H l o) x w:=by
 obtain⟨a,e1,e2⟩:=h
 refine⟨a,e1,?_⟩
 rcases e2 with (h | ⟨ob,h⟩) | h
 ·exact .inl (.inl ((aF (lu h hl (by intro z;cases z))).trans h))
 ·exact .inl (.inr ⟨ob,(aF (lu h hl (by intro z;cases z))).trans h⟩)
 ·exact .inr h
theorem bz {α β:Type}{F G:α→β→Prop} (h:∀ a b,F a b→G a b):∀{xs:List α}{ys:List β},Paired F xs ys→Paired G xs ys
 | _,_,.nil=>.nil
 | _,_,.cons q r=>.cons (h _ _ q) (bz h r)
theorem eV {α β:Type}{F:α→β→Prop}:∀{xs xs':List α}{ys ys':List β},Paired F xs ys→Paired F xs' ys'→Paired F (xs++xs') (ys++ys')
 | _,_,_,_,.nil,r=>r
 | _,_,_,_,.cons q t,r=>.cons q (eV t r)
theorem bD {α β:Type}{F:α→β→Prop}:∀{xs:List α}{ys:List β},Paired F xs ys→∀(j:Nat) x,xs[j]? = some x→∃ y,ys[j]? = some y∧F x y
 | _,_,.nil,j,x,h=>by simp at h
 | _,_,.cons q t,0,x,h=>by simp at h;subst h;exact⟨_,rfl,q⟩
 | _,_,.cons q t,j+1,x,h=>by
  obtain⟨y,h1,h2⟩:=bD t j x (by simpa using h)
  exact⟨y,by simpa using h1,h2⟩
def c5:List (Str×Str):=[(Str.ofString "row",Str.ofString ""),(Str.ofString "cell",Str.ofString ""),(Str.ofString "plain",Str.ofString ""),(Str.ofString "behind",Str.ofString ""),(Str.ofString "freed",Str.ofString "")]
def c3 (c:Nat):List (Str×Str):=[(Str.ofString "within",sg c),(Str.ofString "doubt",sg c),(Str.ofString "freed",sg c)]
def cont (l:List Nat):List (Str×Str):=c5++l.flatMap c3
def nin (u f:Str):Bool:=!(!(Builtin.Str.occurrences f u 0 f.length 1).isEmpty)
def GW (f w u:Str):Bool:=if d9 u ("":Str)=true then true else if d9 w ("doubt":Str)=true then true else nin u f
theorem Uj (c:Nat) (z:Str):xr c z=decide (c∈z.cps.toList):=StrLaws.found_one z c
theorem WQ {c:Nat}{z:Str} (h:c∉z.cps.toList):¬xr c z=true:=by rw[Uj];simpa using h
theorem l10 {z:Str} (g:Sg z):¬xr 10 z=true:=WQ fun h=>by have:=(g.pr 10 h).1;omega
theorem app_list (a b:Str):(a++b).cps.toList=a.cps.toList++b.cps.toList:=by
 show(a.cps++b.cps).toList=_
 simp
theorem Uk:("":Str).cps.toList=[]:=by decide +kernel
theorem qi {K:W.Frag}{H:Hp}{a l:Addr}{xs ys:List V}{o:HO} (hl:H l=some (.lst ys)) (e2:ck K H a xs):ck K (upd H l o) a xs:=by
 rcases e2 with (h | ⟨ob,h⟩) | h
 ·exact .inl (.inl ((aF (lu h hl (by intro z;cases z))).trans h))
 ·exact .inl (.inr ⟨ob,(aF (lu h hl (by intro z;cases z))).trans h⟩)
 ·exact .inr h
theorem aY {α:Type}{l:List α}{i:Nat}{c:α} (h:l[i]? = some c):l.take (i+1)=l.take i++[c]:=by
 rw[List.take_succ,h];rfl
def lR (z:Str):Prop:=∀ k∈z.cps.toList,k=10∨Pn k
theorem sgL {c:Nat}{z:Str} (e:z=Str.ofString "\n") (h:¬decide (V.str (sg c)=V.str z)=true):c≠10:=fun e2=>h (by
 have:Str.ofString "\n" = sg 10:=by decide +kernel
 rw[e,e2,this];exact decide_eq_true rfl)
theorem DM {t u:TS}{D:Ends}{σ:St}{H:Hp} (N:St→Hp→Prop) (hu:∀ σ' H',N σ' H'→u D σ' H') (ht:(∀ σ' H',N σ' H'→u D σ' H')→t { D with nx:=u D } σ H):S5 t u D σ H:=ht hu
theorem WR:("":Str).length=0:=by decide +kernel
theorem AK (a:Array Nat):∀(n:Nat) (acc:Array Nat),((List.replicate n a).foldl (· ++ ·) acc).size=acc.size+n * a.size∧∀ c∈((List.replicate n a).foldl (· ++ ·) acc).toList,c∈acc.toList∨c∈a.toList
 | 0,acc=>⟨by simp,fun c hc=>.inl hc⟩
 | n+1,acc=>by
  rw[List.replicate_succ,List.foldl_cons]
  obtain⟨h1,h2⟩:=AK a n (acc++a)
  refine⟨by rw[h1,Array.size_append,Nat.succ_mul];omega,fun c hc=>?_⟩
  rcases h2 c hc with h | h
  ·rw[Array.toList_append] at h
   exact List.mem_append.mp h
  ·exact .inr h
theorem L6 (z:Str) (n:Nat):(rL z n).length=n * z.length:=by
 have:=(AK z.cps n #[]).1
 show((List.replicate n z.cps).foldl (· ++ ·) #[]).size=_
 rw[this];simp;rfl
theorem JA {z:Str}{n:Nat} (h:lR z):lR (rL z n):=fun c hc=>by
 rcases(AK z.cps n #[]).2 c hc with q | q
 ·cases q
 ·exact h c q
def Ue:List Nat:=("a7ZbXq9KwM":Str).cps.toList
def L7 (c:Nat):Bool:=decide (c=10∨Pn c)
def textOk (z:Str):Bool:=z.cps.toList.all L7
theorem L8 {z:Str} (h:lR z):textOk z=true:=by
 unfold textOk
 rw[List.all_eq_true]
 exact fun c hc=>decide_eq_true (h c hc)
theorem join_list (zs:List Str):(Txt.join ("":Str) zs).cps.toList=zs.flatMap (fun z=>z.cps.toList):=by
 have ee:("":Str).cps.toList=[]:=by decide +kernel
 show(Builtin.Str.glued ("":Str) zs).cps.toList=_
 rw[StrLaws.glued_eq_join]
 induction zs with
 | nil=>exact ee
 | cons c cs ih =>
  cases cs with
  | nil =>
   show c.cps.toList=_
   simp
  | cons d cs =>
   show(c++("":Str)++Str.join ("":Str) (d :: cs)).cps.toList=_
   rw[app_list,app_list,ee,List.append_nil,ih]
   simp[List.flatMap_cons]
theorem Ul {a b:Str} (h:a.cps.toList=b.cps.toList):a=b:=by
 cases a;cases b
 congr 1
 exact Array.toList_inj.mp h
theorem Rf {a b:Int} (h:decide (V.int a=V.int b)=true):a=b:=by have:=of_decide_eq_true h;cases this;rfl
structure B4 where
 a:Bool
 b:Bool
 c:Bool
 d:Bool
abbrev nR:=Str×Str×Str×B4
def Rg (x:nR):List (Str×V):=DK x.1 x.2.1 x.2.2.1 x.2.2.2.a x.2.2.2.b x.2.2.2.c x.2.2.2.d
abbrev Ma (x:nR):Prop:=Gd x.1 x.2.1 x.2.2.1
abbrev Cd (C:Addr) (H:Hp):List V→List nR→Prop:=Paired fun e x=>∃ y dy,e=V.ref y∧H y=some (.ins C dy (Rg x))
theorem Cd.mono {C:Addr}{H H':Hp} (s:aH H H'):∀{es:List V}{xs:List nR},Cd C H es xs→Cd C H' es xs
 | _,_,.nil=>.nil
 | _,_,.cons ⟨y,dy,e,h⟩ r=>.cons ⟨y,dy,e,s _ _ h⟩ (Cd.mono s r)
theorem Cd.but {C:Addr}{H:Hp}{l:Addr}{o:HO}{ws:List V} (hl:H l=some (.lst ws)):∀{es:List V}{xs:List nR},Cd C H es xs→Cd C (upd H l o) es xs
 | _,_,.nil=>.nil
 | _,_,.cons ⟨y,dy,e,h⟩ r=>.cons ⟨y,dy,e,(aF (lu h hl (by intro z;cases z))).trans h⟩ (Cd.but hl r)
theorem AL {H H1 H':Hp}{ea d:Addr}{o:HO} (s:aH H H1) (t7:H1 ea=none) (hd:(upd H1 ea o) d=none) (Ue:∀ b,b≠ea→b≠d→H' b=upd H1 ea o b):aH H (del H' ea):=fun b u hb=>by
 have hb1:=s b u hb
 have n1:b≠ea:=fun z=>by rw[z,t7] at hb1;cases hb1
 have n2:b≠d:=fun z=>by rw[←z,aF n1,hb1] at hd;cases hd
 rw[AA n1,Ue b n1 n2,aF n1];exact hb1
def Rh:List Str→Str
 | []=>Str.ofString ""
 | z :: r=>z++Rh r
theorem Ri (z:Str):z++Str.ofString "" = z:=Ul (by rw[app_list,Uk,List.append_nil])
def lens (r:List Str):List Nat:=r.map fun z=>z.length
def total (t:List (List Str)):Nat:=(t.map fun r=>(lens r).sum).sum
structure Mb (r:List Str):Prop where
 lo:1≤r.length
 hi:r.length≤20
 ok:∀ c∈r,lR c
structure TabOk (t:List (List Str)):Prop where
 n:t.length≤60
 rows:∀ r∈t,Mb r
 sum:total t≤400
theorem Mc {ns:List Nat}{n:Nat} (h:n∈ns):n≤ns.sum:=by
 induction ns with
 | nil=>cases h
 | cons m ns ih =>
  rw[List.sum_cons]
  rcases List.mem_cons.mp h with rfl | h
  ·omega
  ·have:=ih h;omega
theorem zW {t:List (List Str)}{r:List Str} (h:r∈t):(lens r).sum≤total t:=Mc (List.mem_map_of_mem h)
theorem AM {r:List Str}{c:Str} (h:c∈r):c.length≤(lens r).sum:=Mc (List.mem_map_of_mem (f:=fun z:Str=>z.length) h)
def kC (H:Hp) (v:V) (r:List Str):Prop:=∃ a,v=.ref a∧H a=some (.lst (r.map V.str))
theorem kC.mono {H H':Hp}{v:V}{r:List Str} (s:aH H H') (h:kC H v r):kC H' v r:=let ⟨a,e1,e2⟩:=h;⟨a,e1,s _ _ e2⟩
def Rj (z:Str):List (Str×Str):=z.cps.toList.map fun k=>(Str.ofString "put",sg k)
def Me:Str×Str:=(Str.ofString "part",Str.ofString "")
def afP:Str×Str:=(Str.ofString "end",Str.ofString "")
def AO:List Str→Nat→List (Str×Str)
 | _,0=>[]
 | r,n+1=>AO r n++((if n=0 then [] else [Me])++Rj (r.getD n ("":Str)))
def AQ (r:List Str):List (Str×Str):=AO r r.length++[afP]
def cQ (t:List (List Str)):List (Str×Str):=t.flatMap AQ
theorem DN {r:List Str}{n:Nat}{z:Str} (h:r[n]? = some z):AO r (n+1)=AO r n++((if n=0 then [] else [Me])++Rj z):=by
 show AO r n++((if n=0 then [] else [Me])++Rj (r.getD n ("":Str)))=_
 rw[List.getD_eq_getElem?_getD,h];rfl
theorem Rl (z:Str):(Rj z).length=z.length:=by unfold Rj;rw[List.length_map,Array.length_toList];rfl
theorem AR (r:List Str):∀ n,n≤r.length→(AO r n).length+(if n=0 then 0 else 1)=n+(lens (r.take n)).sum
 | 0,_=>by simp[AO,lens]
 | n+1,h=>by
  have hn:n < r.length:=by omega
  rw[DN (z:=r[n]) (by simp[hn]),List.length_append,List.length_append,Rl,aY (c:=r[n]) (by simp[hn])]
  have ih:=AR r n (by omega)
  unfold lens at ih ⊢
  rw[List.map_append,List.sum_append]
  simp only[List.map_cons,List.map_nil,List.sum_cons,List.sum_nil]
  by_cases h0:n=0
  ·subst h0;simp[AO];omega
  ·simp[h0] at ih ⊢;omega
theorem JB {r:List Str} (h:1≤r.length):(AQ r).length=r.length+(lens r).sum:=by
 unfold AQ
 have:=AR r r.length (Nat.le_refl _)
 rw[List.take_of_length_le (Nat.le_refl _),if_neg (by omega)] at this
 rw[List.length_append];show _+1=_;omega
theorem uL {t:List (List Str)} (h:∀ r∈t,Mb r):(cQ t).length=(t.map fun r=>r.length+(lens r).sum).sum:=by
 unfold cQ
 induction t with
 | nil=>rfl
 | cons r t ih =>
  rw[List.flatMap_cons,List.length_append,ih (fun r' h'=>h r' (List.mem_cons_of_mem _ h')),JB (h r (List.mem_cons_self ..)).lo,List.map_cons,List.sum_cons]
theorem Nb {t:List (List Str)} (h:∀ r∈t,Mb r):(t.map fun r=>r.length+(lens r).sum).sum≤20 * t.length+total t:=by
 unfold total
 induction t with
 | nil=>exact Nat.le_refl _
 | cons r t ih =>
  have h1:=(h r (List.mem_cons_self ..)).hi
  have h2:=ih fun r' h'=>h r' (List.mem_cons_of_mem _ h')
  rw[List.map_cons,List.sum_cons,List.map_cons,List.sum_cons,List.length_cons]
  omega
theorem AS {t:List (List Str)} (h:TabOk t) (i:Nat):(cQ (t.take i)).length≤1600:=by
 have hr:∀ r∈t.take i,Mb r:=fun r hr=>h.rows r (List.mem_of_mem_take hr)
 rw[uL hr]
 have h1:=Nb hr
 have h2:(t.take i).length≤60:=by rw[List.length_take];have:=h.n;omega
 have h3:total (t.take i)≤total t:=by
  unfold total
  have e:=congrArg (fun l=>(l.map fun r=>(lens r).sum).sum) (List.take_append_drop i t)
  simp only[List.map_append,List.sum_append] at e
  omega
 have:=h.sum
 omega
theorem yp (t:List (List Str)) (r:List Str):cQ (t++[r])=cQ t++AQ r:=by unfold cQ;rw[List.flatMap_append];simp
theorem nY {α β:Type}{F:α→β→Prop}{xs:List α}{ys:List β}{x:α}{y:β} (h:Paired F xs ys) (q:F x y):Paired F (xs++[x]) (ys++[y]):=eV h (.cons q .nil)
def yq (acc:List Nat) (c:Nat):List Nat:=if away ⟨acc.toArray⟩ c=true then acc++[c] else acc
def pq (l:List Nat):List Nat:=l.foldl yq []
theorem AU (l:List Nat) (c:Nat):pq (l++[c])=yq (pq l) c:=by unfold pq;rw[List.foldl_append];rfl
theorem DO (l:List Nat):(pq l).length≤l.length:=by
 have key:∀(l acc:List Nat),(l.foldl yq acc).length≤acc.length+l.length:=by
  intro l
  induction l with
  | nil=>intro acc;exact Nat.le_refl _
  | cons c l ih =>
   intro acc
   rw[List.foldl_cons,List.length_cons]
   have h1:=ih (yq acc c)
   have h2:(yq acc c).length≤acc.length+1:=by
    unfold yq
    split
    ·rw[List.length_append];exact Nat.le_refl _
    ·omega
   omega
 have:=key l []
 simpa [pq] using this
def AV (z:Str):Str:=⟨(pq z.cps.toList).toArray⟩
theorem DP (z:Str):(AV z).length≤z.length:=by
 show(pq z.cps.toList).toArray.size≤_
 rw[List.size_toArray]
 refine Nat.le_trans (DO _) ?_
 rw[Array.length_toList];exact Nat.le_refl _
def vH (p q f:Str) (b1 b2 b3 b4:Bool) (w u:Str) (c:Nat):Option (Str×Str×Str):=match nA p q f b1 b2 b3 b4 w u c with
 | .go k w' u'=>if GW f w' u'=true then some (k,w',u') else none
 | .Gh _=>none
def lvV (K:W.Frag) (x:Option (Str×Str×Str)) (H:Hp) (v:V):Prop:=match x with
 | none=>v=.non
 | some (k,w,u)=>∃ a b,v=.ref a∧ck K H a [.str k,.ref b]∧ck K H b [.str w,.str u]
def Rm (ts:List (Str×Str)) (n:Nat) (k s:Str):Option Nat:=if d9 k ("skip":Str)=true then some n else if ts[n]? = some (k,if d9 k ("put":Str)=true then s else Str.ofString "") then some (n+1) else none
def afQ (x:Option Nat):V:=match x with
 | none=>.non
 | some n=>.int n
abbrev j7:=(Str×Str)×Nat
def GX (K:W.Frag) (H:Hp) (m:j7) (v:V):Prop:=∃ b s,v=.ref b∧ck K H b [.ref s,.int m.2]∧ck K H s [.str m.1.1,.str m.1.2]
def Um (p q f:Str) (b1 b2 b3 b4:Bool) (ts:List (Str×Str)) (m:j7) (c:Nat):Option j7:=match vH p q f b1 b2 b3 b4 m.1.1 m.1.2 c with
 | none=>none
 | some (k,w,u)=>(match Rm ts m.2 k (sg c) with
  | none=>none
  | some n=>some ((w,u),n))
def Er (K:W.Frag) (x:Option j7) (H:Hp) (v:V):Prop:=match x with
 | none=>v=.non
 | some m=>GX K H m v
def WS (y l:Addr):List (Str×V):=[("turn",.ref y),("tokens",.ref l)]
structure wY (K:W.Frag) (C CT CM:Addr) (H:Hp) (m:Addr) (p q f:Str) (b1 b2 b3 b4:Bool) (ts:List (Str×Str)):Prop where
 ok:∃ dm y l ys,H m=some (.ins CM dm (WS y l))∧Tn C CT H y p q f b1 b2 b3 b4∧H l=some (.lst ys)∧Paired (jD K H) ys ts
theorem kD {K:W.Frag}{H H':Hp} (s:aH H H'):∀{ys:List V}{ts:List (Str×Str)},Paired (jD K H) ys ts→Paired (jD K H') ys ts
 | _,_,.nil=>.nil
 | _,_,.cons a r=>.cons (a.mono s) (kD s r)
theorem wY.mono {K:W.Frag}{C CT CM:Addr}{H H':Hp}{m:Addr}{p q f:Str}{b1 b2 b3 b4:Bool}{ts:List (Str×Str)} (s:aH H H') (h:wY K C CT CM H m p q f b1 b2 b3 b4 ts):wY K C CT CM H' m p q f b1 b2 b3 b4 ts:=by
 obtain⟨dm,y,l,ys,e1,e2,e3,e4⟩:=h.ok
 exact⟨dm,y,l,ys,s _ _ e1,e2.mono s,s _ _ e3,kD s e4⟩
theorem Uo {K:W.Frag}{H:Hp}{m a C dm:Addr}{fs:List (Str×V)}{xs:List V}{o:HO} (hm:H m=some (.ins C dm fs)) (h:ck K H a xs):ck K (upd H m o) a xs:=by
 rcases h with (h | ⟨ob,h⟩) | h
 ·exact .inl (.inl ((aF (lu h hm (by intro z;cases z))).trans h))
 ·exact .inl (.inr ⟨ob,(aF (lu h hm (by intro z;cases z))).trans h⟩)
 ·exact .inr h
theorem rQ {K:W.Frag}{H:Hp}{m C dm:Addr}{fs:List (Str×V)}{o:HO} (hm:H m=some (.ins C dm fs)):∀{ys:List V}{ts:List (Str×Str)},Paired (jD K H) ys ts→Paired (jD K (upd H m o)) ys ts
 | _,_,.nil=>.nil
 | _,_,.cons ⟨a,e1,e2⟩ r=>.cons ⟨a,e1,Uo hm e2⟩ (rQ hm r)
theorem Tn.off {C CT:Addr}{H:Hp}{y m:Addr}{p q f:Str}{b1 b2 b3 b4:Bool}{o o':HO} (hm:H m=some o') (n1:∀ d fs,o'≠.ins CT d (tfl fs)) (n2:∀ d,o'≠.ins C d (DK p q f b1 b2 b3 b4)) (h:Tn C CT H y p q f b1 b2 b3 b4):Tn C CT (upd H m o) y p q f b1 b2 b3 b4:=by
 obtain⟨dy,d,dd,e1,e2⟩:=h.ok
 exact⟨dy,d,dd,(aF (fun q=>by rw[q,hm] at e1;exact n1 _ _ (Option.some.inj e1))).trans e1,(aF (fun q=>by rw[q,hm] at e2;exact n2 _ (Option.some.inj e2))).trans e2⟩
theorem wY.off {K:W.Frag}{C CT CM CW:Addr}{H:Hp}{m z dz:Addr}{fs:List (Str×V)}{p q f:Str}{b1 b2 b3 b4:Bool}{ts:List (Str×Str)}{o:HO} (hz:H z=some (.ins CW dz fs)) (n0:∀ y l,fs≠WS y l) (n1:∀ d,fs≠tfl d) (n2:fs≠DK p q f b1 b2 b3 b4) (h:wY K C CT CM H m p q f b1 b2 b3 b4 ts):wY K C CT CM (upd H z o) m p q f b1 b2 b3 b4 ts:=by
 obtain⟨dm,y,l,ys,e1,e2,e3,e4⟩:=h.ok
 refine⟨dm,y,l,ys,(aF (fun q=>?_)).trans e1,Tn.off hz (fun d fs q=>?_) (fun d q=>?_) e2,(aF (fun q=>by rw[q,hz] at e3;cases e3)).trans e3,rQ hz e4⟩
 ·rw[q,hz] at e1;injection e1 with e1;injection e1 with a b c;exact n0 _ _ c
 ·injection q with a b c;exact n1 _ c
 ·injection q with a b c;exact n2 c
theorem tE {H:Hp}{x dx:Addr}{o:HO} (hx:H x=none) (hdx:H dx=none):aH H (upd (upd H dx (.own x)) x o):=fun b o' e=>by
 rw[aF (aW e hx),aF (aW e hdx)];exact e
theorem GX.but {K:W.Frag}{H:Hp}{m:j7}{v:V}{l:Addr}{ws:List V}{o:HO} (hl:H l=some (.lst ws)) (h:GX K H m v):GX K (upd H l o) m v:=by
 obtain⟨b,s,e1,e2,e3⟩:=h
 exact⟨b,s,e1,qi hl e2,qi hl e3⟩
theorem Er.but {K:W.Frag}{x:Option j7}{H:Hp}{v:V}{l:Addr}{ws:List V}{o:HO} (hl:H l=some (.lst ws)) (h:Er K x H v):Er K x (upd H l o) v:=by
 cases x with
 | none=>exact h
 | some m=>exact GX.but hl h
abbrev Cm:=List (j7×Option (j7×Nat))
def Up (cm:Cm) (m:j7):Bool:=cm.any fun e=>decide (e.1=m)
def m0:j7:=((Str.ofString "row",Str.ofString ""),0)
def aaz (cm:Cm) (m:j7):Option (Option (j7×Nat)):=(cm.find? fun e=>decide (e.1=m)).map (·.2)
inductive Mf (cm:Cm):Option (j7×Nat)→List Nat→Prop where
 | nil:Mf cm none []
 | cons {m:j7}{c:Nat}{x:Option (j7×Nat)}{r:List Nat}:aaz cm m=some x→Mf cm x r→Mf cm (some (m,c)) (c :: r)
theorem Mg:∀(xs:List Nat),((xs.map sg).map (·.length)).sum=xs.length
 | []=>rfl
 | x :: xs=>by rw[List.map_cons,List.map_cons,List.sum_cons,Mg xs,Wg,List.length_cons];omega
inductive Mh (led:j7→List (Nat×j7)) (a:j7):List Nat→j7→Prop where
 | nil:Mh led a [] a
 | snoc {xs:List Nat}{p q:j7}{c:Nat}:Mh led a xs p→(c,q)∈led p→Mh led a (xs++[c]) q
def VA (led:j7→List (Nat×j7)) (a:j7) (cm:Cm) (m:j7) (n:Nat):Prop:=∃ x xs,aaz cm m=some x∧Mf cm x xs∧Mh led a xs.reverse m∧xs.length=n
section
variable {good:j7→Bool}{led:j7→List (Nat×j7)}{a:j7}
structure Mid (led:j7→List (Nat×j7)) (a:j7) (cm:Cm) (k:Nat) (acc:Cm×List j7):Prop where
 pre:∃ l,acc.1=cm++l
 told:∀ m,Up acc.1 m=true→∃ n,n≤k+1∧VA led a acc.1 m n
 new:∀ m∈acc.2,VA led a acc.1 m (k+1)∧Up acc.1 m=true
 old:∀ m,Up acc.1 m=true→Up cm m=true∨m∈acc.2
end
section
variable {p q f:Str}{b1 b2 b3 b4:Bool}
end
theorem WT {t:List (List Str)} (h:TabOk t):(cQ t).length≤9000:=by
 have:=AS h t.length
 rw[List.take_length] at this
 omega
section
variable {good:j7→Bool}{led:j7→List (Nat×j7)}{a:j7}
end
section
variable {p q f:Str}{b1 b2 b3 b4:Bool}
end
theorem GY:∀(fs:List Str),(fs.map (·.length)).sum=(Rh fs).length
 | []=>WR.symm
 | F :: fs=>by rw[List.map_cons,List.sum_cons,GY fs];show _=(F++Rh fs).length;rw[gZ]
theorem Uq:∀(fs:List Str),Txt.join ("":Str) fs=Rh fs:=by
 intro fs
 show Builtin.Str.glued ("":Str) fs=_
 rw[StrLaws.glued_eq_join]
 induction fs with
 | nil=>rfl
 | cons F fs ih =>
  cases fs with
  | nil=>show F=F++Str.ofString "";rw[Ri]
  | cons G fs =>
   show F++Str.ofString "" ++ Str.join ("":Str) (G :: fs)=F++Rh (G :: fs)
   rw[ih,Ri]
section
variable {p q f:Str}{b1 b2 b3 b4:Bool}{ts:List (Str×Str)}
end
section
variable {good:j7→Bool}{led:j7→List (Nat×j7)}{a:j7}
end
section
variable {p q f:Str}{b1 b2 b3 b4:Bool}
end
theorem AW {K:W.Frag}{H H':Hp}{o:Option j7}{v:V} (s:aH H H') (h:gF K H o v):gF K H' o v:=by
 cases o with
 | none=>exact h
 | some m=>obtain⟨b,t,rfl,h1,h2⟩:=h;exact⟨b,t,rfl,aS s h1,aS s h2⟩
theorem mT {K:W.Frag}{H H':Hp} (s:aH H H'):∀{os:List (Option j7)}{vs:List V},Paired (gF K H) os vs→Paired (gF K H') os vs
 | _,_,.nil=>.nil
 | _,_,.cons a r=>.cons (AW s a) (mT s r)
theorem fZ {K:W.Frag}{H H':Hp}{m:lP}{v:V} (s:aH H H') (h:fL K H m v):fL K H' m v:=by
 obtain⟨b,t,u,vs,rfl,h1,h2,h3,h4⟩:=h
 exact⟨b,t,u,vs,rfl,aS s h1,aS s h2,aS s h3,mT s h4⟩
theorem Mi {K:W.Frag}{H:Hp}{o:Option j7}{v:V} (h:Er K o H v):gF K H o v:=by
 cases o with
 | none=>exact h
 | some m=>exact h
def afR (p q f:Str) (b1 b2 b3 b4:Bool) (ts:List (Str×Str)) (o:Option j7) (c:Nat):Option j7:=o.bind fun m=>Um p q f b1 b2 b3 b4 ts m c
def Nc (x:nR) (ts:List (Str×Str)) (m:j7) (c:Nat):Option j7:=Um x.1 x.2.1 x.2.2.1 x.2.2.2.a x.2.2.2.b x.2.2.2.c x.2.2.2.d ts m c
def VB (x:nR) (ts:List (Str×Str)) (o:Option j7) (c:Nat):Option j7:=o.bind fun m=>Nc x ts m c
def GZ (K:W.Frag) (C CT CM:Addr) (H:Hp) (m:Addr) (x:nR) (ts:List (Str×Str)):Prop:=wY K C CT CM H m x.1 x.2.1 x.2.2.1 x.2.2.2.a x.2.2.2.b x.2.2.2.c x.2.2.2.d ts
abbrev Rn (K:W.Frag) (C CT CM:Addr) (ts:List (Str×Str)) (H:Hp):List V→List nR→Prop:=Paired fun v x=>∃ m,v=.ref m∧GZ K C CT CM H m x ts
theorem Rn.mono {K:W.Frag}{C CT CM:Addr}{ts:List (Str×Str)}{H H':Hp} (s:aH H H') {vs:List V}{cs:List nR} (h:Rn K C CT CM ts H vs cs):Rn K C CT CM ts H' vs cs:=bz (fun _ _ ⟨m,e,q⟩=>⟨m,e,wY.mono s q⟩) h
theorem Ur {K:W.Frag}{H:Hp}{o:Option j7}{v:V} (h:gF K H o v):Er K o H v:=by
 cases o with
 | none=>exact h
 | some m=>exact h
theorem Us {K:W.Frag}{H:Hp}{l:Addr}{ws:List V}{x:HO}{o:Option j7}{v:V} (hl:H l=some (.lst ws)) (h:gF K H o v):gF K (upd H l x) o v:=Mi (Er.but hl (Ur h))
theorem pA {K:W.Frag}{H:Hp}{l:Addr}{ws:List V}{x:HO} (hl:H l=some (.lst ws)):∀{os:List (Option j7)}{vs:List V},Paired (gF K H) os vs→Paired (gF K (upd H l x)) os vs
 | _,_,.nil=>.nil
 | _,_,.cons a r=>.cons (Us hl a) (pA hl r)
def stM:j7:=((Str.ofString "row",Str.ofString ""),0)
def uM (n:Nat):lP:=(stM,List.replicate n (some stM))
def pfl (m lm:Addr) (z:Str):List (Str×V):=[("marker",.ref m),("markers",.ref lm),("signs",.str z)]
structure JC (K:W.Frag) (C CT CM CP:Addr) (H:Hp) (y:Addr) (x:nR) (cs:List nR) (ts:List (Str×Str)) (z:Str):Prop where
 ok:∃ dy m lm ms,H y=some (.ins CP dy (pfl m lm z))∧GZ K C CT CM H m x ts∧H lm=some (.lst ms)∧Rn K C CT CM ts H ms cs
theorem JC.mono {K:W.Frag}{C CT CM CP:Addr}{H H':Hp}{y:Addr}{x:nR}{cs:List nR}{ts:List (Str×Str)}{z:Str} (s:aH H H') (h:JC K C CT CM CP H y x cs ts z):JC K C CT CM CP H' y x cs ts z:=by
 obtain⟨dy,m,lm,ms,e1,e2,e3,e4⟩:=h.ok
 exact⟨dy,m,lm,ms,s _ _ e1,wY.mono s e2,s _ _ e3,Rn.mono s e4⟩
theorem rR {α β:Type}{F:α→β→Prop}:∀{xs:List α}{ys:List β},Paired F xs ys→∀(i:Nat) (y:β),ys[i]? = some y→∃ x,xs[i]? = some x∧F x y
 | _,_,.nil,_,_,h=>nomatch h
 | x :: _,_,.cons a r,0,y,h=>⟨x,rfl,by have h:some _=some y:=h;cases h;exact a⟩
 | _ :: _,_,.cons a r,i+1,y,h=>rR r i y h
def DQ (ts:List (Str×Str)):j7:=((Str.ofString "row",Str.ofString ""),ts.length)
def pB (ts:List (Str×Str)) (m:lP):Bool:=decide (m.1=DQ ts) && !(m.2.any fun o=>decide (o=some (DQ ts)))
def xu (cs:List nR) (ts:List (Str×Str)) (os:List (Option j7)) (c:Nat):List (Option j7):=(cs.zip os).map fun p=>VB p.1 ts p.2 c
def jE (x:nR) (cs:List nR) (ts:List (Str×Str)) (z:Str) (m:lP):List (Nat×lP):=z.cps.toList.filterMap fun c=>(Nc x ts m.1 c).map fun m'=>(c,(m',xu cs ts m.2 c))
abbrev yU (K:W.Frag) (H:Hp):List V→List (Nat×lP)→Prop:=Paired fun v e=>∃ t w,v=.ref t∧H t=some (.tup [.str (sg e.1),w])∧fL K H e.2 w
theorem vI {K:W.Frag}{H:Hp}{l a:Addr}{ws xs:List V}{o:HO} (hl:H l=some (.lst ws)) (h:ck K H a xs):ck K (upd H l o) a xs:=by
 rcases h with (h | ⟨ob,h⟩) | h
 ·exact .inl (.inl ((aF (lu h hl (by intro z;cases z))).trans h))
 ·exact .inl (.inr ⟨ob,(aF (lu h hl (by intro z;cases z))).trans h⟩)
 ·exact .inr h
theorem Es {K:W.Frag}{H:Hp}{l:Addr}{ws:List V}{o:HO}{m:lP}{v:V} (hl:H l=some (.lst ws)) (h:fL K H m v):fL K (upd H l o) m v:=by
 obtain⟨b,t,u,vs,rfl,h1,h2,h3,h4⟩:=h
 exact⟨b,t,u,vs,rfl,vI hl h1,vI hl h2,vI hl h3,pA hl h4⟩
theorem tF {K:W.Frag}{H H':Hp} (s:aH H H'):∀{vs:List V}{es:List (Nat×lP)},yU K H vs es→yU K H' vs es
 | _,_,.nil=>.nil
 | _,_,.cons ⟨t,w,e,h,q⟩ r=>.cons ⟨t,w,e,s _ _ h,fZ s q⟩ (tF s r)
theorem vJ {K:W.Frag}{H:Hp}{l:Addr}{ws:List V}{o:HO} (hl:H l=some (.lst ws)):∀{vs:List V}{es:List (Nat×lP)},yU K H vs es→yU K (upd H l o) vs es
 | _,_,.nil=>.nil
 | _,_,.cons ⟨t,w,e,h,q⟩ r=>.cons ⟨t,w,e,(aF (lu h hl (by intro z;cases z))).trans h,Es hl q⟩ (vJ hl r)
def AX (x:nR):Str:=AV ((x.1++x.2.1)++x.2.2.1)
def Et (cs:List nR) (t:List (List Str)):Str:=AV (((Txt.join ("":Str) (cs.map AX)++Str.ofString "\n")++Str.ofString " ")++Txt.join ("":Str) (t.map (Txt.join ("":Str))))
theorem pC (fs:List Str):(Txt.join ("":Str) fs).length=(fs.map (·.length)).sum:=by rw[Uq,GY]
theorem Ut {c:nR} (g:Ma c):(AX c).length≤7:=by
 have h:=DP ((c.1++c.2.1)++c.2.2.1)
 have a1:=gZ c.1 c.2.1
 have a2:=gZ (c.1++c.2.1) c.2.2.1
 have g1:c.1.length≤3:=Gd.p3 g
 have g2:c.2.1.length≤2:=Gd.q2 g
 have g3:c.2.2.1.length≤2:=Gd.f2 g
 unfold AX
 omega
theorem Eu:∀{cs:List nR},(∀ c∈cs,Ma c)→((cs.map AX).map (·.length)).sum≤7 * cs.length
 | [],_=>Nat.le_refl _
 | c :: cs,h=>by
  have h1:=Ut (h c (List.mem_cons_self ..))
  have h2:=Eu fun d hd=>h d (List.mem_cons_of_mem _ hd)
  rw[List.map_cons,List.map_cons,List.sum_cons,List.length_cons]
  omega
theorem xw:∀(t:List (List Str)),((t.map (Txt.join ("":Str))).map (·.length)).sum=total t
 | []=>rfl
 | r :: t=>by
  rw[List.map_cons,List.map_cons,List.sum_cons,xw t,pC]
  unfold total lens
  rw[List.map_cons,List.sum_cons]
theorem wY.afS {K:W.Frag}{C CT CM:Addr}{H:Hp}{m l D:Addr}{vs:List V}{p q f:Str}{b1 b2 b3 b4:Bool}{ts:List (Str×Str)}{o:HO} (hD:H D=some (.lst vs)) (hl:l≠D) (hm:∃ dm y,H m=some (.ins CM dm (WS y l))) (h:wY K C CT CM H m p q f b1 b2 b3 b4 ts):wY K C CT CM (upd H D o) m p q f b1 b2 b3 b4 ts:=by
 obtain⟨dm,y,l',ys,e1,e2,e3,e4⟩:=h.ok
 obtain⟨dm',y',e0⟩:=hm
 rw[e1] at e0
 injection e0 with e0
 injection e0 with i1 i2 i3
 injection i3 with j1 j2
 injection j2 with j3 j4
 injection j3 with j5 j6
 injection j6 with j6
 subst j6
 refine⟨dm,y,l',ys,(aF (lu e1 hD (by intro z;cases z))).trans e1,Tn.off hD (fun d fs q=>by cases q) (fun d q=>by cases q) e2,(aF hl).trans e3,bz (fun v t h=>?_) e4⟩
 obtain⟨a,q1,q2⟩:=h
 exact⟨a,q1,vI hD q2⟩
abbrev rS (K:W.Frag) (C CT CM:Addr) (ts:List (Str×Str)) (l:Addr) (H:Hp):List V→List nR→Prop:=Paired fun v x=>∃ m,v=.ref m∧GZ K C CT CM H m x ts∧∃ dm y,H m=some (.ins CM dm (WS y l))
theorem rS.mono {K:W.Frag}{C CT CM l:Addr}{ts:List (Str×Str)}{H H':Hp} (s:aH H H') {vs:List V}{cs:List nR} (h:rS K C CT CM ts l H vs cs):rS K C CT CM ts l H' vs cs:=bz (fun _ _ ⟨m,e,q,dm,y,z⟩=>⟨m,e,wY.mono s q,dm,y,s _ _ z⟩) h
theorem rS.but {K:W.Frag}{C CT CM l D:Addr}{ts:List (Str×Str)}{H:Hp}{ws:List V}{o:HO} (hD:H D=some (.lst ws)) (hl:l≠D) {vs:List V}{cs:List nR} (h:rS K C CT CM ts l H vs cs):rS K C CT CM ts l (upd H D o) vs cs:=bz (fun _ _ ⟨m,e,q,dm,y,z⟩=>⟨m,e,wY.afS hD hl ⟨dm,y,z⟩ q,dm,y,(aF (lu z hD (by intro z;cases z))).trans z⟩) h
theorem rS.off {K:W.Frag}{C CT CM CP l q dq:Addr}{fs:List (Str×V)}{ts:List (Str×Str)}{H:Hp}{o:HO} (hq:H q=some (.ins CP dq fs)) (n0:∀ y l,fs≠WS y l) (n1:∀ d,fs≠tfl d) (n2:∀ p q f b1 b2 b3 b4,fs≠DK p q f b1 b2 b3 b4) {vs:List V}{cs:List nR} (h:rS K C CT CM ts l H vs cs):rS K C CT CM ts l (upd H q o) vs cs:=bz (fun _ _ ⟨m,e,r,dm,y,z⟩=>⟨m,e,wY.off hq n0 n1 (n2 _ _ _ _ _ _ _) r,dm,y,(aF (fun t=>by rw[t,hq] at z;injection z with z;injection z with z1 z2 z3;exact n0 _ _ z3)).trans z⟩) h
theorem Ro {n:Str}{v:V}{r:List (Str×V)} (h:n = "marker"):(∀ y l,(n,v) :: r≠WS y l)∧(∀ d,(n,v) :: r≠tfl d)∧(∀ p q f b1 b2 b3 b4,(n,v) :: r≠DK p q f b1 b2 b3 b4):=by
 subst h
 refine⟨fun y l q=>?_,fun d q=>?_,fun p q f b1 b2 b3 b4 q=>?_⟩
 ·injection q with q1 q2;injection q1 with q3 q4;exact absurd q3 (by decide +kernel)
 ·injection q with q1 q2;injection q1 with q3 q4;exact absurd q3 (by decide +kernel)
 ·injection q with q1 q2;injection q1 with q3 q4;exact absurd q3 (by decide +kernel)
section
variable {M:Type} [DecidableEq M]
variable {good:M→Bool}{led:M→List (Nat×M)}{a:M}
abbrev kN (M:Type):=List (M×Option (M×Nat))
def fK (cm:kN M) (m:M):Bool:=cm.any fun e=>decide (e.1=m)
def jb (p:M) (acc:kN M×List M) (e:Nat×M):kN M×List M:=if fK acc.1 e.2=true then acc else (acc.1++[(e.2,some (p,e.1))],acc.2++[e.2])
def nS (led:M→List (Nat×M)) (acc:kN M×List M) (p:M):kN M×List M:=(led p).foldl (jb p) acc
def gn (led:M→List (Nat×M)) (cm:kN M) (br:List M):kN M×List M:=br.foldl (nS led) (cm,[])
theorem Rq {cm:kN M}{m:M}:fK cm m=true↔m∈cm.map (·.1):=by
 unfold fK
 rw[List.any_eq_true,List.mem_map]
 constructor
 ·rintro⟨e,he,q⟩;exact⟨e,he,of_decide_eq_true q⟩
 ·rintro⟨e,he,q⟩;exact⟨e,he,decide_eq_true q⟩
theorem Rr (p:M) (acc:kN M×List M) (e:Nat×M):(jb p acc e).1.length+acc.2.length=acc.1.length+(jb p acc e).2.length:=by
 unfold jb
 split
 ·rfl
 ·rw[List.length_append,List.length_append];show acc.1.length+1+_=_+(_+1);omega
theorem Rt {α:Type}{f:α→Bool}{l:List α}{i:Nat}{m:α} (hi:l[i]? = some m) (hg:f m=true) (hb:∀ m'∈l.take i,f m'=false):l.find? f=some m:=by
 have e:l=l.take i++m :: l.drop (i+1):=by
  obtain⟨h1,h2⟩:=List.getElem?_eq_some_iff.mp hi
  rw[←h2,←List.drop_eq_getElem_cons h1,List.take_append_drop]
 rw[e,List.find?_append,List.find?_eq_none.mpr (fun x hx=>by rw[hb x hx];decide),List.find?_cons,hg]
 rfl
theorem Ru {α:Type}{f:α→Bool}{l:List α} (hb:∀ m'∈l,f m'=false):l.find? f=none:=List.find?_eq_none.mpr fun x hx=>by rw[hb x hx];decide
theorem xx {p:M}:∀(es:List (Nat×M)) (acc:kN M×List M),(es.foldl (jb p) acc).1.length+acc.2.length=acc.1.length+(es.foldl (jb p) acc).2.length
 | [],_=>rfl
 | e :: es,acc=>by
  have h1:=Rr p acc e
  have h2:=xx (p:=p) es (jb p acc e)
  rw[List.foldl_cons];omega
theorem pD {led:M→List (Nat×M)}:∀(ms:List M) (acc:kN M×List M),(ms.foldl (nS led) acc).1.length+acc.2.length=acc.1.length+(ms.foldl (nS led) acc).2.length
 | [],_=>rfl
 | m :: ms,acc=>by
  have h1:=xx (p:=m) (led m) acc
  have h2:=pD (led:=led) ms (nS led acc m)
  rw[List.foldl_cons]
  unfold nS at h2 ⊢
  omega
def AY (cm:kN M) (m:M):Option (Option (M×Nat)):=(cm.find? fun e=>decide (e.1=m)).map (·.2)
inductive vK (cm:kN M):Option (M×Nat)→List Nat→Prop where
 | nil:vK cm none []
 | cons {m:M}{c:Nat}{x:Option (M×Nat)}{r:List Nat}:AY cm m=some x→vK cm x r→vK cm (some (m,c)) (c :: r)
inductive WalkG (led:M→List (Nat×M)) (a:M):List Nat→M→Prop where
 | nil:WalkG led a [] a
 | snoc {xs:List Nat}{p q:M}{c:Nat}:WalkG led a xs p→(c,q)∈led p→WalkG led a (xs++[c]) q
theorem AZ {cm l:kN M}{m:M}{x:Option (M×Nat)} (h:AY cm m=some x):AY (cm++l) m=some x:=by
 unfold AY at h ⊢
 rw[List.find?_append]
 cases e:cm.find? fun e=>decide (e.1=m) with
 | none=>rw[e] at h;cases h
 | some y=>rw[e] at h;exact h
theorem Rv {cm:kN M}{m:M}{x:Option (M×Nat)} (h:fK cm m=false):AY (cm++[(m,x)]) m=some x:=by
 unfold AY
 rw[List.find?_append,List.find?_eq_none.mpr,List.find?_cons,decide_eq_true rfl]
 ·rfl
 ·intro e he q
  have z:fK cm m=true:=List.any_eq_true.mpr ⟨e,he,q⟩
  rw[h] at z;cases z
theorem vK.app {cm l:kN M}{x:Option (M×Nat)}{xs:List Nat} (h:vK cm x xs):vK (cm++l) x xs:=by
 induction h with
 | nil=>exact .nil
 | cons e _ ih=>exact .cons (AZ e) ih
theorem rT {cm l:kN M}{m:M}:fK (cm++l) m=(fK cm m || fK l m):=List.any_append ..
theorem nB {m q:M}{x:Option (M×Nat)}:fK [(q,x)] m=true↔m=q:=by
 unfold fK
 rw[List.any_cons,List.any_nil,Bool.or_false]
 exact⟨fun h=>(of_decide_eq_true h).symm,fun h=>decide_eq_true h.symm⟩
def pF (led:M→List (Nat×M)) (a:M) (cm:kN M) (m:M) (n:Nat):Prop:=∃ x xs,AY cm m=some x∧vK cm x xs∧WalkG led a xs.reverse m∧xs.length=n
theorem pF.app {led:M→List (Nat×M)}{a m:M}{cm l:kN M}{n:Nat} (h:pF led a cm m n):pF led a (cm++l) m n:=by
 obtain⟨x,xs,h1,h2,h3,h4⟩:=h
 exact⟨x,xs,AZ h1,h2.app,h3,h4⟩
structure xy (led:M→List (Nat×M)) (a:M) (cm:kN M) (k:Nat) (acc:kN M×List M):Prop where
 pre:∃ l,acc.1=cm++l
 told:∀ m,fK acc.1 m=true→∃ n,n≤k+1∧pF led a acc.1 m n
 new:∀ m∈acc.2,pF led a acc.1 m (k+1)∧fK acc.1 m=true
 old:∀ m,fK acc.1 m=true→fK cm m=true∨m∈acc.2
theorem xy.vis {cm:kN M}{k:Nat}{acc:kN M×List M}{p:M}{e:Nat×M} (h:xy led a cm k acc) (hp:pF led a acc.1 p k) (he:e∈led p):xy led a cm k (jb p acc e)∧fK (jb p acc e).1 e.2=true∧(∃ l,(jb p acc e).1=acc.1++l):=by
 unfold jb
 cases hh:fK acc.1 e.2 with
 | true=>rw[if_pos rfl];exact⟨h,hh,[],(List.append_nil _).symm⟩
 | false =>
  rw[if_neg (by decide)]
  obtain⟨x,xs,h1,h2,h3,h4⟩:=hp
  have hnew:pF led a (acc.1++[(e.2,some (p,e.1))]) e.2 (k+1):=by
   refine⟨some (p,e.1),e.1 :: xs,Rv hh,.cons (AZ h1) h2.app,?_,by rw[List.length_cons,h4]⟩
   rw[List.reverse_cons]
   exact .snoc h3 he
  have hhas:fK (acc.1++[(e.2,some (p,e.1))]) e.2=true:=by rw[rT,nB.mpr rfl,Bool.or_true]
  refine⟨⟨?_,fun m hm=>?_,fun m hm=>?_,fun m hm=>?_⟩,hhas,_,rfl⟩
  ·obtain⟨l,q⟩:=h.pre
   exact⟨l++[(e.2,some (p,e.1))],by show acc.1++_=_;rw[q,List.append_assoc]⟩
  ·have hm:fK (acc.1++[(e.2,some (p,e.1))]) m=true:=hm
   rw[rT,Bool.or_eq_true] at hm
   rcases hm with z | z
   ·obtain⟨n,hn,t⟩:=h.told m z
    exact⟨n,hn,t.app⟩
   ·rw[nB] at z;subst z
    exact⟨_,Nat.le_refl _,hnew⟩
  ·rcases List.mem_append.mp hm with z | z
   ·obtain⟨t,u⟩:=h.new m z
    exact⟨t.app,by show fK (acc.1++_) m=true;rw[rT,u];rfl⟩
   ·rw[List.mem_singleton.mp z];exact⟨hnew,hhas⟩
  ·have hm:fK (acc.1++[(e.2,some (p,e.1))]) m=true:=hm
   rw[rT,Bool.or_eq_true] at hm
   rcases hm with z | z
   ·rcases h.old m z with y | y
    ·exact .inl y
    ·exact .inr (List.mem_append_left _ y)
   ·rw[nB] at z;subst z
    exact .inr (List.mem_append_right _ (List.mem_singleton.mpr rfl))
theorem vL {cm l:kN M}{m:M} (h:fK cm m=true):fK (cm++l) m=true:=by rw[rT,h];rfl
theorem xy.aaA {cm:kN M}{k:Nat}{p:M}:∀{es:List (Nat×M)}{acc:kN M×List M},xy led a cm k acc→pF led a acc.1 p k→(∀ e∈es,e∈led p) →
  xy led a cm k (es.foldl (jb p) acc)∧(∀ e∈es,fK (es.foldl (jb p) acc).1 e.2=true)∧∃ l,(es.foldl (jb p) acc).1=acc.1++l
 | [],acc,h,_,_=>⟨h,(fun _ z=>nomatch z),[],(List.append_nil _).symm⟩
 | e :: es,acc,h,hp,he=>by
  obtain⟨h1,h2,l,h3⟩:=h.vis hp (he e (List.mem_cons_self ..))
  have hp1:pF led a (jb p acc e).1 p k:=by rw[h3];exact hp.app
  obtain⟨g1,g2,l',g3⟩:=xy.aaA h1 hp1 fun e' z=>he e' (List.mem_cons_of_mem _ z)
  rw[List.foldl_cons]
  refine⟨g1,fun e' z=>?_,l++l',by rw[g3,h3,List.append_assoc]⟩
  rcases List.mem_cons.mp z with y | y
  ·subst y;rw[g3];exact vL h2
  ·exact g2 e' y
theorem xy.aaB {cm:kN M}{k:Nat}:∀{ms:List M}{acc:kN M×List M},xy led a cm k acc→(∀ p∈ms,pF led a acc.1 p k) →
  xy led a cm k (ms.foldl (nS led) acc)∧(∀ p∈ms,∀ e∈led p,fK (ms.foldl (nS led) acc).1 e.2=true)∧∃ l,(ms.foldl (nS led) acc).1=acc.1++l
 | [],acc,h,_=>⟨h,(fun _ z=>nomatch z),[],(List.append_nil _).symm⟩
 | p :: ms,acc,h,hp=>by
  obtain⟨h1,h2,l,h3⟩:=h.aaA (p:=p) (es:=led p) (hp p (List.mem_cons_self ..)) fun e z=>z
  have h1:xy led a cm k (nS led acc p):=h1
  have h3:(nS led acc p).1=acc.1++l:=h3
  have h2:∀ e∈led p,fK (nS led acc p).1 e.2=true:=h2
  obtain⟨g1,g2,l',g3⟩:=xy.aaB h1 fun p' z=>by rw[h3];exact(hp p' (List.mem_cons_of_mem _ z)).app
  rw[List.foldl_cons]
  refine⟨g1,fun p' z e' ze=>?_,l++l',by rw[g3,h3,List.append_assoc]⟩
  rcases List.mem_cons.mp z with y | y
  ·subst y;rw[g3];exact vL (h2 e' ze)
  ·exact g2 p' y e' ze
structure G0 (good:M→Bool) (led:M→List (Nat×M)) (a:M) (cm:kN M) (br:List M) (k:Nat):Prop where
 told:∀ m,fK cm m=true→∃ n,n≤k∧pF led a cm m n
 edg:∀ m∈br,pF led a cm m k∧fK cm m=true
 all:∀ ys m,WalkG led a ys m→ys.length≤k→fK cm m=true
 shut:∀ p,fK cm p=true→p∉br→∀ e∈led p,fK cm e.2=true
 bad:∀ p,fK cm p=true→p∉br→good p=false
 less:∀ ys m,WalkG led a ys m→ys.length < k→good m=false
theorem G0.go {cm:kN M}{br:List M}{k:Nat} (h:G0 good led a cm br k) (hf:br.find? good=none):G0 good led a (gn led cm br).1 (gn led cm br).2 (k+1):=by
 have hm:xy led a cm k (cm,[]):=⟨⟨[],(List.append_nil _).symm⟩,fun m hm=>by obtain⟨n,hn,t⟩:=h.told m hm;exact⟨n,by omega,t⟩,(fun _ z=>nomatch z),fun m hm=>.inl hm⟩
 obtain⟨g1,g2,l,g3⟩:=hm.aaB (ms:=br) fun p hp=>(h.edg p hp).1
 have hno:∀ m∈br,good m=false:=fun m hm=>by
  have:=List.find?_eq_none.mp hf m hm
  cases e:good m with
  | true=>exact absurd e this
  | false=>rfl
 have hbad:∀ p,fK cm p=true→good p=false:=fun p hp=>by
  by_cases q:p∈br
  ·exact hno p q
  ·exact h.bad p hp q
 have VC:∀ p,fK cm p=true→∀ e∈led p,fK (gn led cm br).1 e.2=true:=fun p hp e he=>by
  by_cases q:p∈br
  ·exact g2 p q e he
  ·unfold gn;rw[g3];exact vL (h.shut p hp q e he)
 refine⟨g1.told,g1.new,fun ys m hw hl=>?_,fun p hp hq e he=>?_,fun p hp hq=>?_,fun ys m hw hl=>?_⟩
 ·cases hw with
  | nil=>unfold gn;rw[g3];exact vL (h.all [] a .nil (Nat.zero_le _))
  | @snoc xs p q c hw1 he =>
   rw[List.length_append] at hl
   exact VC p (h.all xs p hw1 (by simpa using hl)) _ he
 ·rcases g1.old p hp with z | z
  ·exact VC p z e he
  ·exact absurd z hq
 ·rcases g1.old p hp with z | z
  ·exact hbad p z
  ·exact absurd z hq
 ·exact hbad m (h.all ys m hw (by omega))
theorem G0.zero:G0 good led a [(a,none)] [a] 0:=by
 have hv:pF led a [(a,none)] a 0:=⟨none,[],by unfold AY;rw[List.find?_cons,decide_eq_true rfl];rfl,.nil,.nil,rfl⟩
 have ha:fK [(a,none)] a=true:=nB.mpr rfl
 refine⟨fun m hm=>?_,fun m hm=>?_,fun ys m hw hl=>?_,fun p hp hq=>?_,fun p hp hq=>?_,fun ys m hw hl=>absurd hl (Nat.not_lt_zero _)⟩
 ·rw[nB.mp hm];exact⟨0,Nat.le_refl _,hv⟩
 ·rw[List.mem_singleton.mp hm];exact⟨hv,ha⟩
 ·cases hw with
  | nil=>exact ha
  | snoc _ _=>rw[List.length_append] at hl;simp at hl
 ·exact absurd (List.mem_singleton.mpr (nB.mp hp)) hq
 ·exact absurd (List.mem_singleton.mpr (nB.mp hp)) hq
end
section
variable {M:Type} [DecidableEq M] {good:M→Bool}{led:M→List (Nat×M)}{most:Option Nat}{a:M}
theorem Uu {p:M}{acc:kN M×List M}{e:Nat×M} (h:(acc.1.map (·.1)).Nodup):((jb p acc e).1.map (·.1)).Nodup:=by
 unfold jb
 by_cases q:fK acc.1 e.2=true
 ·rw[if_pos q];exact h
 ·rw[if_neg q,List.map_append,List.nodup_append]
  refine⟨h,by simp,fun x hx y hy z=>q (Rq.mpr ?_)⟩
  rw[List.mem_singleton.mp hy] at z
  have z:x=e.2:=z
  rw[←z];exact hx
theorem G3 {p:M}:∀{es:List (Nat×M)}{acc:kN M×List M},(acc.1.map (·.1)).Nodup→((es.foldl (jb p) acc).1.map (·.1)).Nodup
 | [],_,h=>h
 | e :: es,acc,h=>by rw[List.foldl_cons];exact G3 (Uu h)
theorem G6:∀{ms:List M}{acc:kN M×List M},(acc.1.map (·.1)).Nodup→((ms.foldl (nS led) acc).1.map (·.1)).Nodup
 | [],_,h=>h
 | m :: ms,acc,h=>by rw[List.foldl_cons];exact G6 (G3 h)
inductive A0 (good:M→Bool) (led:M→List (Nat×M)) (most:Option Nat):kN M→List M→Option M→kN M→Prop where
 | stop {cm:kN M}:A0 good led most cm [] none cm
 | found {cm:kN M}{br:List M}{m:M}:br.find? good=some m→A0 good led most cm br (some m) cm
 | over {cm:kN M}{br:List M}{n:Nat}:most=some n→br≠[]→br.find? good=none→n < cm.length→A0 good led most cm br none cm
 | go {cm Pc:kN M}{br:List M}{r:Option M}:br≠[]→br.find? good=none→(∀ n,most=some n→cm.length≤n)→A0 good led most (gn led cm br).1 (gn led cm br).2 r Pc→A0 good led most cm br r Pc
structure WU (good:M→Bool) (led:M→List (Nat×M)) (most:Option Nat) (a:M) (r:Option M) (cm:kN M) (br:List M) (k:Nat):Prop where
 jm:G0 good led a cm br k
 nd:(cm.map (·.1)).Nodup
 res:r=br.find? good
 why:r=none→br=[]∨∃ n,most=some n∧n < cm.length
 len:br≠[]→k≤cm.length
 few:br.length≤cm.length
end
theorem tG {P:Program}{w:World}{K:W.Frag}{H:Hp}{m:lP}{b:Addr} (h:fL K H m (.ref b)):uJ (YP P w K) H (cD m) b:=by
 obtain⟨b',s,u,vs,e1,e2,e3,e4,e5⟩:=h
 cases e1
 exact QY e2 e3 e4 e5
def vM (K:W.Frag) (x:Option (lP×Nat)) (H:Hp) (v:V):Prop:=match x with
 | none=>v=.non
 | some (m,c)=>∃ t w,v=.ref t∧ck K H t [w,.str (sg c)]∧fL K H m w
abbrev t9 (K:W.Frag) (H:Hp):List (N3 (Lf ⊕ List (Lf ⊕ List (Lf ⊕ List Lf))))→(kN lP)→Prop:=Paired fun e p=>e.1=cD p.1∧fL K H p.1 (.ref e.2.1)∧vM K p.2 H e.2.2
structure jF (P:Program) (w:World) (K:W.Frag) (H:Hp) (a:Addr) (cm:(kN lP)):Prop where
 ok:∃ kvs,Nd (YP P w K) (cu P w) H a kvs∧t9 K H kvs cm
theorem vM.keep {K:W.Frag}{H H':Hp}{x:Option (lP×Nat)}{v:V} (t:∀ b xs,ck K H b xs→ck K H' b xs) (h:vM K x H v):vM K x H' v:=by
 cases x with
 | none=>exact h
 | some mc=>obtain⟨t1,w1,e1,e2,e3⟩:=h;exact⟨t1,w1,e1,t _ _ e2,e3.keep t⟩
theorem t9.keep {K:W.Frag}{H H':Hp} (t:∀ b xs,ck K H b xs→ck K H' b xs):∀{kvs:List (N3 (Lf ⊕ List (Lf ⊕ List (Lf ⊕ List Lf))))}{cm:(kN lP)},t9 K H kvs cm→t9 K H' kvs cm
 | _,_,.nil=>.nil
 | _,_,.cons a r=>.cons ⟨a.1,a.2.1.keep t,a.2.2.keep t⟩ (t9.keep t r)
theorem jF.mono {P:Program}{w:World}{K:W.Frag}{H H':Hp}{a:Addr}{cm:(kN lP)} (s:aH H H') (h:jF P w K H a cm):jF P w K H' a cm:=by
 obtain⟨kvs,d,r⟩:=h.ok
 exact⟨kvs,d.mono s,r.keep fun b xs q=>aS s q⟩
theorem jF.but {P:Program}{w:World}{K:W.Frag}{H:Hp}{a l:Addr}{cm:(kN lP)}{ws:List V}{o:HO} (hl:H l=some (.lst ws)) (h:jF P w K H a cm):jF P w K (upd H l o) a cm:=by
 obtain⟨kvs,d,r⟩:=h.ok
 have t:∀ b xs,ck K H b xs→ck K (upd H l o) b xs:=fun b xs q=>qi hl q
 exact⟨kvs,⟨(aF (lu d.ob hl (fun q=>nomatch q))).trans d.ob,fun e he=>(d.keys e he).keep t⟩,r.keep t⟩
theorem xA {K:W.Frag}{H:Hp}{m:lP}:∀{kvs:List (N3 (Lf ⊕ List (Lf ⊕ List (Lf ⊕ List Lf))))}{cm:(kN lP)},t9 K H kvs cm→(valN kvs (cD m)).isSome=fK cm m
 | _,_,.nil=>rfl
 | e :: kvs,p :: cm,.cons a r=>by
  have ih:=xA (m:=m) r
  unfold valN fK at ih ⊢
  rw[List.find?_cons,List.any_cons,a.1]
  by_cases q:p.1=m
  ·rw[decide_eq_true q,decide_eq_true (by rw[q])];rfl
  ·rw[decide_eq_false q,decide_eq_false (fun z=>q (AD.mp z)),Bool.false_or];exact ih
theorem xB {K:W.Frag}{H:Hp}{kvs:List (N3 (Lf ⊕ List (Lf ⊕ List (Lf ⊕ List Lf))))}{cm:(kN lP)} (h:t9 K H kvs cm):kvs.length=cm.length:=Paired.length h
theorem Nd.afT {P:Program}{w:World}{K:W.Frag}{H:Hp}{a b:Addr}{k:List (Lf ⊕ List (Lf ⊕ List (Lf ⊕ List Lf)))}{v:V} (h:H a=some (dN (ZP P w) (cu P w) a [])) (e:uJ (YP P w K) H k b):Nd (YP P w K) (cu P w) (upd H a (dN (ZP P w) (cu P w) a [(k,b,v)])) a [(k,b,v)]:=by
 refine⟨ah,fun p hp=>?_⟩
 rw[List.mem_singleton.mp hp]
 exact e.keep (Av h)
theorem jF.one {P:Program}{w:World}{K:W.Frag}{H:Hp}{a b:Addr}{m:lP} (h:H a=some (dN (ZP P w) (cu P w) a [])) (hm:fL K H m (.ref b)):jF P w K (upd H a (dN (ZP P w) (cu P w) a [(cD m,b,.non)])) a [(m,none)]:=by
 have e2:=tG (P:=P) (w:=w) hm
 have t:=Av (F:=K) h (o:=dN (ZP P w) (cu P w) a [(cD m,b,.non)])
 exact⟨_,Nd.afT h (e2),.cons ⟨rfl,hm.keep t,rfl⟩ .nil⟩
theorem jF.put {P:Program}{w:World}{K:W.Frag}{H:Hp}{a b:Addr}{m:lP}{cm:(kN lP)}{kvs:List (N3 (Lf ⊕ List (Lf ⊕ List (Lf ⊕ List Lf))))}{x:Option (lP×Nat)}{v:V} (d:Nd (YP P w K) (cu P w) H a kvs) (r:t9 K H kvs cm) (hm:fL K H m (.ref b)) (hn:fK cm m=false) (hv:vM K x H v) :
  jF P w K (upd H a (dN (ZP P w) (cu P w) a (putN kvs (cD m) b v))) a (cm++[(m,x)]):=by
 have e2:=tG (P:=P) (w:=w) hm
 have t:=Av (F:=K) d.ob (o:=dN (ZP P w) (cu P w) a (putN kvs (cD m) b v))
 refine⟨_,d.put (e2),?_⟩
 have q:=xA (m:=m) r
 rw[hn] at q
 have hv0:valN kvs (cD m)=none:=by
  cases z:valN kvs (cD m) with
  | none=>rfl
  | some y=>rw[z] at q;cases q
 rw[GB hv0]
 rw[GB hv0] at t
 exact eV (r.keep t) (.cons ⟨rfl,hm.keep t,hv.keep t⟩ .nil)
theorem yU.keep {K:W.Frag}{H H':Hp} (t1:∀ b xs,H b=some (.tup xs)→H' b=some (.tup xs)) (t:∀ b xs,ck K H b xs→ck K H' b xs):∀{vs:List V}{es:List (Nat×lP)},yU K H vs es→yU K H' vs es
 | _,_,.nil=>.nil
 | _,_,.cons ⟨x,w,e,h,q⟩ r=>.cons ⟨x,w,e,t1 _ _ h,q.keep t⟩ (yU.keep t1 t r)
abbrev xC (K:W.Frag) (H:Hp):List V→List lP→Prop:=Paired fun v m=>fL K H m v
theorem xC.keep {K:W.Frag}{H H':Hp} (t:∀ b xs,ck K H b xs→ck K H' b xs):∀{vs:List V}{ms:List lP},xC K H vs ms→xC K H' vs ms
 | _,_,.nil=>.nil
 | _,_,.cons a r=>.cons (a.keep t) (xC.keep t r)
theorem xD {K:W.Frag}{H:Hp}{m:lP}{x:Option (lP×Nat)}:∀{kvs:List (N3 (Lf ⊕ List (Lf ⊕ List (Lf ⊕ List Lf))))}{cm:(kN lP)},t9 K H kvs cm→AY cm m=some x→∃ v,valN kvs (cD m)=some v∧vM K x H v
 | _,_,.nil,h=>by cases h
 | e :: kvs,p :: cm,.cons a r,h=>by
  unfold AY at h
  unfold valN
  rw[List.find?_cons] at h ⊢
  rw[a.1]
  by_cases q:p.1=m
  ·rw[decide_eq_true q] at h
   rw[decide_eq_true (by rw[q])]
   cases h
   exact⟨_,rfl,a.2.2⟩
  ·rw[decide_eq_false q] at h
   rw[decide_eq_false (fun z=>q (AD.mp z))]
   exact xD r h
def afU (K:W.Frag) (x:Option lP) (H:Hp) (v:V):Prop:=match x with
 | none=>v=.non
 | some m=>fL K H m v
theorem Rw {x:nR}{cs:List nR}{ts:List (Str×Str)}{z:Str}{m:lP} (hm:m.2.length=cs.length) {e:Nat×lP} (he:e∈jE x cs ts z m):e.2.2.length=cs.length:=by
 obtain⟨c,_,hc⟩:=List.mem_filterMap.mp he
 cases h:Nc x ts m.1 c with
 | none=>rw[h] at hc;cases hc
 | some m'=>rw[h] at hc;cases hc;show(xu cs ts m.2 c).length=_;unfold xu;rw[List.length_map,List.length_zip,hm,Nat.min_self]
theorem Nf {x:nR}{cs:List nR}{ts:List (Str×Str)}{z:Str}{m:lP}:(jE x cs ts z m).length≤z.length:=by
 unfold jE
 refine Nat.le_trans (List.length_filterMap_le ..) ?_
 rw[Array.length_toList];exact Nat.le_refl _
theorem qj {K:W.Frag}{H:Hp}{m:lP}{v:V} (h:fL K H m v):∃ b,v=.ref b:=let ⟨b,_,_,_,e,_⟩:=h;⟨b,e⟩
theorem A6 {K:W.Frag}{H:Hp}:∀{kvs:List (N3 (Lf ⊕ List (Lf ⊕ List (Lf ⊕ List Lf))))}{cm:kN lP},t9 K H kvs cm→xC K H (kvs.map fun e=>V.ref e.2.1) (cm.map (·.1))
 | _,_,.nil=>.nil
 | _,_,.cons a r=>.cons a.2.1 (A6 r)
section
variable {M:Type} [DecidableEq M] {good:M→Bool}{led:M→List (Nat×M)}{n:Nat}{a:M}
theorem Rx {cm Pc:kN M}{br:List M}{r:Option M} (h:A0 good led (some n) cm br r Pc):∀{k:Nat},G0 good led a cm br k→(cm.map (·.1)).Nodup→(br≠[]→k≤cm.length)→br.length≤cm.length→k≤n+1→∃ VD k',WU good led (some n) a r Pc VD k'∧(VD≠[]→k'≤n+1):=by
 generalize hmo:some n=most at h
 induction h with
 | stop=>intro k L nd hk hf hk2;exact⟨_,k,⟨L,nd,rfl,(fun _=>.inl rfl),hk,hf⟩,fun _=>hk2⟩
 | found hF=>intro k L nd hk hf hk2;exact⟨_,k,⟨L,nd,hF.symm,(fun z=>nomatch z),hk,hf⟩,fun _=>hk2⟩
 | @over cm br n' hn _ hF hlt=>intro k L nd hk hf hk2;exact⟨_,k,⟨L,nd,hF.symm,(fun _=>.inr ⟨n',hn,hlt⟩),hk,hf⟩,fun _=>hk2⟩
 | @go cm Pc br r hne hF hm hR ih =>
  intro k L nd hk hf hk2
  have q:=pD (led:=led) br (cm,[])
  simp only[List.length_nil,Nat.add_zero] at q
  have h1:=hm n hmo.symm
  have h2:=hk hne
  refine ih (L.go hF) (G6 nd) (fun z=>?_) (by unfold gn;omega) (by omega)
  have:=List.length_pos_iff.mpr z
  unfold gn at *
  omega
theorem Ry {cm:kN M}{r:Option M} (h:A0 good led (some n) [(a,none)] [a] r cm):∃ br k,WU good led (some n) a r cm br k∧(br≠[]→k≤n+1):=Rx h G0.zero (by simp) (fun _=>Nat.zero_le _) (by simp) (Nat.zero_le _)
end
def afV (K:W.Frag) (led:lP→List (Nat×lP)) (p0:lP) (n:Nat) (r:Option lP) (cm:kN lP) (k:Nat) (H0 H:Hp) (t:Addr):Prop:=match r with
 | some m=>∃ xs,H t=some (.tup [.str ("text":Str),.str (Txt.join ("":Str) (xs.map sg))])∧WalkG led p0 xs m∧xs.length=k∧k≤n+1
 | none=>(n < cm.length∧H t=some (.tup [.str ("open":Str)]))∨(cm.length≤n∧∃ l vs,H t=some (.tup [.str ("none":Str),.ref l])∧H0 l=none∧H l=some (.lst vs)∧xC K H vs (cm.map (·.1)))
theorem Rz {cs:List nR}{t:List (List Str)} (gs:∀ c∈cs,Ma c) (tok:TabOk t):(Et cs t).length≤7 * cs.length+402:=by
 have n1:(Str.ofString "\n").length=1:=by decide +kernel
 have n2:(" ":Str).length=1:=by decide +kernel
 have a0:=Eu gs
 have j1:=pC (cs.map AX)
 have j2:=pC (t.map (Txt.join ("":Str)))
 have c1:=xw t
 have ts:=tok.sum
 unfold Et
 generalize Txt.join ("":Str) (cs.map AX)=S1 at j1 ⊢
 generalize Txt.join ("":Str) (t.map (Txt.join ("":Str)))=S2 at j2 ⊢
 have a1:=gZ S1 (Str.ofString "\n")
 have a2:=gZ (S1++Str.ofString "\n") (" ":Str)
 have a3:=gZ ((S1++Str.ofString "\n")++Str.ofString " ") S2
 have m1:=DP (((S1++Str.ofString "\n")++Str.ofString " ")++S2)
 omega
inductive Tr where
 | leaf (v:V)
 | list (ts:List Tr)
inductive Lf (H:Hp):V→Prop where
 | flat {v:V}:iL v=true→(∀ z,v=.str z→z.length≤10000)→Lf H v
 | tup {a:Addr}{xs:List V}:H a=some (.tup xs)→(∀ x∈xs,iL x=true∨∃ b,x=.ref b)→Lf H (.ref a)
 | Zr {a:Addr}:H a=some (.dK [])→Lf H (.ref a)
def Rp (N:Addr→Prop):Nat→Hp→V→Tr→Prop
 | 0,H,v,t=>t=.leaf v∧Lf H v
 | n+1,H,v,t=>(t=.leaf v∧Lf H v)∨∃(a:Addr) (xs:List V) (ts:List Tr),v=.ref a∧t=.list ts∧H a=some (.lst xs)∧N a∧xs.length≤1000∧Paired (Rp N n H) xs ts
theorem Lf.mono {H H':Hp}{v:V} (s:aH H H') (h:Lf H v):Lf H' v:=by
 cases h with
 | flat e f=>exact .flat e f
 | tup e f=>exact .tup (s _ _ e) f
 | Zr e=>exact .Zr (s _ _ e)
theorem Rp.leaf {N:Addr→Prop}{n:Nat}{H:Hp}{v:V} (h:Lf H v):Rp N n H v (.leaf v):=by
 cases n with
 | zero=>exact⟨rfl,h⟩
 | succ n=>exact .inl ⟨rfl,h⟩
theorem Rp.lst {N:Addr→Prop}{n:Nat}{H:Hp}{a:Addr}{xs:List V}{ts:List Tr} (e:H a=some (.lst xs)) (hN:N a) (hl:xs.length≤1000) (h:Paired (Rp N n H) xs ts):Rp N (n+1) H (.ref a) (.list ts):=.inr ⟨a,xs,ts,rfl,rfl,e,hN,hl,h⟩
theorem Rp.mono {N N':Addr→Prop}{H H':Hp} (s:aH H H') (f:∀ a,N a→N' a):∀{n:Nat}{v:V}{t:Tr},Rp N n H v t→Rp N' n H' v t
 | 0,_,_,h=>⟨h.1,h.2.mono s⟩
 | n+1,_,_,.inl h=>.inl ⟨h.1,h.2.mono s⟩
 | n+1,_,_,.inr ⟨a,xs,ts,e1,e2,e3,e4,e5,e6⟩=>.inr ⟨a,xs,ts,e1,e2,s _ _ e3,f _ e4,e5,Paired.imp' (fun _ _ q=>Rp.mono s f q) e6⟩
def iT:Tr→Bool
 | .leaf (.str z)=>decide (z.length≤400) && textOk z
 | _=>false
def A9:Tr→Nat
 | .leaf (.str z)=>z.length
 | _=>0
def rV:Tr→Bool
 | .list cs=>decide (1≤cs.length∧cs.length≤20) && cs.all iT
 | _=>false
def xE:Tr→Nat
 | .list cs=>(cs.map A9).sum
 | _=>0
def tP:Tr→Bool
 | .list rs=>decide (rs.length≤60) && rs.all rV && decide ((rs.map xE).sum≤400)
 | _=>false
theorem Rp.iX (K:W.Frag) {N:Addr→Prop}{n:Nat}{H:Hp}{v:V}{t:Tr} (h:Rp N n H v t):(∃(m:Nat) (a:Addr) (xs:List V) (ts:List Tr),n=m+1∧v=.ref a∧t=.list ts∧H a=some (.lst xs)∧N a∧xs.length≤1000∧Paired (Rp N m H) xs ts)∨∃ ty,rF K H v ty∧W.kitOne K ty (.type "list")=some false∧t=.leaf v∧Lf H v:=by
 have VF:∀{v:V},Lf H v→∃ ty,rF K H v ty∧W.kitOne K ty (.type "list")=some false:=fun {v} h=>by
  cases h with
  | flat e f =>
   cases v with
   | non=>exact⟨_,.non,rfl⟩
   | bl b=>exact⟨_,.bl b,rfl⟩
   | int i=>exact⟨_,.int i,rfl⟩
   | str z=>exact⟨_,.str z,rfl⟩
   | _=>cases e
  | tup e f=>exact⟨_,.tup e,rfl⟩
  | Zr e=>exact⟨_,.dK e,rfl⟩
 cases n with
 | zero =>
  obtain⟨ty,h1,h2⟩:=VF h.2
  exact .inr ⟨ty,h1,h2,h.1,h.2⟩
 | succ n =>
  rcases h with h | ⟨a,xs,ts,e1,e2,e3,e4,e5,e6⟩
  ·obtain⟨ty,h1,h2⟩:=VF h.2
   exact .inr ⟨ty,h1,h2,h.1,h.2⟩
  ·exact .inl ⟨n,a,xs,ts,rfl,e1,e2,e3,e4,e5,e6⟩
theorem Rp.Ew (K:W.Frag) {N:Addr→Prop}{n:Nat}{H:Hp}{v:V}{t:Tr} (h:Rp N n H v t):(∃ z:Str,v=.str z∧t=.leaf (.str z)∧z.length≤10000)∨∃ ty,rF K H v ty∧W.kitOne K ty (.type "str")=some false∧iT t=false:=by
 rcases h.iX K with ⟨m,a,xs,ts,_,rfl,rfl,e,_⟩ | ⟨_,_,_,rfl,hl⟩
 ·exact .inr ⟨_,.lst e,rfl,rfl⟩
 ·cases hl with
  | flat e f =>
   cases v with
   | non=>exact .inr ⟨_,.non,rfl,rfl⟩
   | bl b=>exact .inr ⟨_,.bl b,rfl,rfl⟩
   | int i=>exact .inr ⟨_,.int i,rfl,rfl⟩
   | str z=>exact .inl ⟨z,rfl,rfl,f z rfl⟩
   | _=>cases e
  | tup e f=>exact .inr ⟨_,.tup e,rfl,rfl⟩
  | Zr e=>exact .inr ⟨_,.dK e,rfl,rfl⟩
def leaves (r:List Str):List Tr:=r.map fun z=>.leaf (.str z)
def vN (r:List Str):Tr:=.list (leaves r)
def Ba (t:List (List Str)):Tr:=.list (t.map vN)
theorem DR (K:W.Frag) {N:Addr→Prop}{n:Nat}{H:Hp}:∀{xs:List V}{cs:List Tr},Paired (Rp N n H) xs cs→cs.all iT=true→∃ r:List Str,cs=leaves r∧xs=r.map V.str∧∀ c∈r,c.length≤400
 | _,_,.nil,_=>⟨[],rfl,rfl,fun _ z=>nomatch z⟩
 | x :: xs,c :: cs,.cons a r,h=>by
  rw[List.all_cons,Bool.and_eq_true] at h
  obtain⟨rs,rfl,rfl,hl⟩:=DR K r h.2
  rcases a.Ew K with ⟨z,rfl,rfl,_⟩ | ⟨_,_,_,e⟩
  ·refine⟨z :: rs,rfl,rfl,fun c hc=>?_⟩
   rcases List.mem_cons.mp hc with rfl | hc
   ·have h1:=h.1
    have h1:(decide (c.length≤400) && textOk c)=true:=h1
    rw[Bool.and_eq_true] at h1
    exact of_decide_eq_true h1.1
   ·exact hl c hc
  ·rw[e] at h;cases h.1
theorem RA (r:List Str):xE (vN r)=(lens r).sum:=by
 show((leaves r).map A9).sum=_
 unfold leaves lens
 rw[List.map_map];rfl
theorem vO {m:Nat}:∀{r:List Str},(∀ c∈r,c.length≤m)→(lens r).sum≤r.length * m
 | [],_=>by show 0≤0 * m;omega
 | c :: r,h=>by
  have h1:=vO (r:=r) fun c hc=>h c (List.mem_cons_of_mem _ hc)
  have h2:=h c (List.mem_cons_self ..)
  show c.length+(lens r).sum≤(r.length+1) * m
  rw[Nat.add_mul];omega
theorem Ey (K:W.Frag) {N:Addr→Prop}{n:Nat}{H:Hp}:∀{xs:List V}{ts:List Tr},Paired (Rp N n H) xs ts→ts.all rV=true→∃ t:List (List Str),ts=t.map vN∧Paired (fun x r=>∃ b,x=V.ref b∧H b=some (.lst (r.map V.str))∧r.length≤20∧∀ c∈r,c.length≤400) xs t
 | _,_,.nil,_=>⟨[],rfl,.nil⟩
 | x :: xs,u :: ts,.cons a r,h=>by
  rw[List.all_cons,Bool.and_eq_true] at h
  obtain⟨t,rfl,q⟩:=Ey K r h.2
  rcases a.iX K with ⟨m,b,ys,cs,_,rfl,rfl,hb,_,_,ps⟩ | ⟨_,_,_,rfl,_⟩
  ·have h1:(decide (1≤cs.length∧cs.length≤20) && cs.all iT)=true:=h.1
   rw[Bool.and_eq_true] at h1
   have h2:=of_decide_eq_true h1.1
   obtain⟨r,rfl,rfl,hl⟩:=DR K ps h1.2
   have e:(leaves r).length=r.length:=List.length_map ..
   exact⟨r :: t,rfl,.cons ⟨b,rfl,hb,by omega,hl⟩ q⟩
  ·cases h.1
theorem Mj (t:List (List Str)):((t.map vN).map xE)=t.map fun r=>(lens r).sum:=by
 rw[List.map_map]
 refine List.map_congr_left fun r _=>RA r
theorem RB:∀{t:List (List Str)},(∀ r∈t,r.length≤20∧∀ c∈r,c.length≤400)→(t.map fun r=>(lens r).sum).sum≤t.length * 8000
 | [],_=>by show 0≤0 * 8000;omega
 | r :: t,h=>by
  have h1:=RB (t:=t) fun c hc=>h c (List.mem_cons_of_mem _ hc)
  have h2:=h r (List.mem_cons_self ..)
  have h3:=vO h2.2
  show(lens r).sum+(t.map fun r=>(lens r).sum).sum≤(t.length+1) * 8000
  rw[Nat.add_mul];omega
theorem Bb {α β:Type}{F:α→β→Prop}{G:β→Prop} (f:∀ a b,F a b→G b):∀{xs:List α}{ys:List β},Paired F xs ys→∀ y∈ys,G y
 | _,_,.nil,_,h=>nomatch h
 | _,_,.cons a r,y,h=>by
  rcases List.mem_cons.mp h with rfl | h
  ·exact f _ _ a
  ·exact Bb f r y h
def WV (N:Addr→Prop) (H:Hp) (x:V) (r:List Str):Prop:=∃ b,x=V.ref b∧N b∧H b=some (.lst (r.map V.str))
def RowW (r:List Str):Prop:=r.length≤21∧∀ c∈r,lR c∧c.length≤401
theorem uN {a b:Int} (h:0 < b):0≤a % b:=Int.emod_nonneg a (by omega)
theorem uO {a b:Int} (h:0 < b):a % b < b:=Int.emod_lt_of_pos a h
theorem all_congr {α:Type}{f g:α→Bool}:∀{xs:List α},(∀ x∈xs,f x=g x)→xs.all f=xs.all g
 | [],_=>rfl
 | x :: xs,h=>by rw[List.all_cons,List.all_cons,h x (List.mem_cons_self ..),all_congr fun y hy=>h y (List.mem_cons_of_mem _ hy)]
def Bc (r:List Str):Bool:=decide (1≤r.length∧r.length≤20)
def JD (t:List (List Str)):Nat:=(t.map fun r=>(lens r).sum).sum
def aaC (t:List (List Str)):Bool:=decide (t.length≤60) && t.all Bc && decide (JD t≤400)
theorem Ez {ns:List Nat}{n:Nat} (h:n∈ns):n≤ns.sum:=by
 induction ns with
 | nil=>cases h
 | cons m ns ih =>
  rw[List.sum_cons]
  rcases List.mem_cons.mp h with rfl | h
  ·omega
  ·have:=ih h;omega
theorem WW {t:List (List Str)} (hW:∀ r∈t,RowW r):tP (Ba t)=aaC t:=by
 show(decide ((t.map vN).length≤60) && (t.map vN).all rV && decide (((t.map vN).map xE).sum≤400))=_
 rw[Mj,List.length_map]
 show _=(decide (t.length≤60) && t.all Bc && decide (JD t≤400))
 by_cases h:JD t≤400
 ·have e:(t.map vN).all rV=t.all Bc:=by
   rw[List.all_map]
   refine all_congr fun r hr=>?_
   show(decide (1≤(leaves r).length∧(leaves r).length≤20) && (leaves r).all iT)=Bc r
   have e2:(leaves r).all iT=true:=by
    rw[List.all_eq_true]
    intro u hu
    obtain⟨z,hz,rfl⟩:=List.mem_map.mp hu
    show(decide (z.length≤400) && textOk z)=true
    have h1:z.length≤(lens r).sum:=Ez (List.mem_map.mpr ⟨z,hz,rfl⟩)
    have h2:(lens r).sum≤JD t:=Ez (List.mem_map.mpr ⟨r,hr,rfl⟩)
    rw[decide_eq_true (by omega),L8 ((hW r hr).2 z hz).1];rfl
   rw[e2,Bool.and_true]
   unfold leaves Bc
   rw[List.length_map]
  rw[e];rfl
 ·have e:decide (JD t≤400)=false:=decide_eq_false h
  have e':decide ((t.map fun r=>(lens r).sum).sum≤400)=false:=e
  rw[e,e',Bool.and_false,Bool.and_false]
theorem JE {N:Addr→Prop}{n:Nat}{H:Hp}:∀{r:List Str},(∀ c∈r,c.length≤401)→Paired (Rp N n H) (r.map V.str) (leaves r)
 | [],_=>.nil
 | z :: r,h=>.cons (Rp.leaf (.flat rfl fun z' e=>by cases e;have:=h z (List.mem_cons_self ..);omega)) (JE fun c hc=>h c (List.mem_cons_of_mem _ hc))
theorem WX {N:Addr→Prop}{n:Nat}{H:Hp}{x:V}{r:List Str} (w:RowW r) (h:WV N H x r):Rp N (n+1) H x (vN r):=by
 obtain⟨b,rfl,hN,hb⟩:=h
 exact Rp.lst hb hN (by rw[List.length_map];have:=w.1;omega) (JE fun c hc=>(w.2 c hc).2)
theorem Ml {N:Addr→Prop}{n:Nat}{H:Hp}:∀{es:List V}{t:List (List Str)},Paired (WV N H) es t→(∀ r∈t,RowW r)→Paired (Rp N (n+1) H) es (t.map vN)
 | _,_,.nil,_=>.nil
 | x :: es,r :: t,.cons a p,h=>.cons (WX (h r (List.mem_cons_self ..)) a) (Ml p fun r hr=>h r (List.mem_cons_of_mem _ hr))
theorem yr {N:Addr→Prop}{n:Nat}{H:Hp}{v:V} (h:iL v=true) (hs:∀ z,v=.str z→z.length≤10000):Rp N n H v (.leaf v):=Rp.leaf (.flat h hs)
theorem RC {H:Hp}{x:V}{r:List Str} (h:kC H x r):WV (fun _=>True) H x r:=let ⟨a,e,f⟩:=h;⟨a,e,trivial,f⟩
theorem TabOk.w {t:List (List Str)} (g:TabOk t):∀ r∈t,RowW r:=fun r hr=>⟨by have:=(g.rows r hr).hi;omega,fun c hc=>⟨(g.rows r hr).ok c hc,by have h1:=AM hc;have h2:=zW hr;have h3:=g.sum;omega⟩⟩
theorem TabOk.q {t:List (List Str)} (g:TabOk t):tP (Ba t)=true:=by
 rw[WW g.w]
 show(decide (t.length≤60) && t.all Bc && decide (JD t≤400))=true
 have h1:t.all Bc=true:=by
  rw[List.all_eq_true]
  exact fun r hr=>decide_eq_true ⟨(g.rows r hr).lo,(g.rows r hr).hi⟩
 rw[h1,decide_eq_true g.n,decide_eq_true (show JD t≤400 from g.sum)];rfl
theorem WY {H:Hp}{a:Addr}{xs:List V}{t:List (List Str)} (ha:H a=some (.lst xs)) (p:Paired (kC H) xs t) (g:TabOk t):Rp (fun _=>True) 2 H (.ref a) (Ba t) :=
 Rp.lst ha trivial (by have:=p.length;have:=g.n;omega) (Ml (n:=0) (Paired.imp' (fun _ _ q=>RC q) p) g.w)
def oR:V→Int→Int→Bool
 | .int n,a,b=>decide (a≤n∧n≤b)
 | _,_,_=>false
def WZ:Tr→Nat
 | .list cs=>cs.length+(cs.map A9).sum
 | _=>0
def G7:Tr→Nat
 | .list rs=>(rs.map WZ).sum
 | _=>0
def iF (u:Tr) (m:Nat) (w:V):Nat:=if tP u=false then 0 else if 24 < G7 u then 1 else if 3 < m then 2 else if oR w 1 4000=false then 3 else 4
theorem Uv {z:Str} (h:textOk z=true):lR z:=fun c hc=>of_decide_eq_true ((List.all_eq_true.mp h) c hc)
theorem W0 (r:List Str):WZ (vN r)=r.length+(lens r).sum:=by
 show(leaves r).length+((leaves r).map A9).sum=_
 have h:=RA r
 have h:((leaves r).map A9).sum=(lens r).sum:=h
 rw[h];unfold leaves;rw[List.length_map]
theorem EA {t:List (List Str)} (g:TabOk t):G7 (Ba t)=(cQ t).length:=by
 show((t.map vN).map WZ).sum=_
 rw[uL g.rows,List.map_map]
 congr 1
 exact List.map_congr_left fun r _=>W0 r
theorem RD {t:List Tr} (h:t.all iT=true) {r:List Str} (e:t=leaves r):∀ c∈r,lR c:=fun c hc=>by
 subst e
 have:=List.all_eq_true.mp h (.leaf (.str c)) (List.mem_map.mpr ⟨c,hc,rfl⟩)
 have this:(decide (c.length≤400) && textOk c)=true:=this
 rw[Bool.and_eq_true] at this
 exact Uv this.2
theorem Bd (K:W.Frag) {N:Addr→Prop}{n:Nat}{H:Hp}{v:V}{u:Tr} (h:Rp N n H v u) (hq:tP u=true):∃ a xs t,v=.ref a∧u=Ba t∧H a=some (.lst xs)∧Paired (kC H) xs t∧TabOk t:=by
 rcases h.iX K with ⟨m,a,xs,ts,_,rfl,rfl,ha,_,_,ps⟩ | ⟨_,_,_,rfl,_⟩
 rotate_left
 ·cases hq
 have hq:(decide (ts.length≤60) && ts.all rV && decide ((ts.map xE).sum≤400))=true:=hq
 rw[Bool.and_eq_true,Bool.and_eq_true] at hq
 obtain⟨t,rfl,pr⟩:=Ey K ps hq.1.2
 have h1:=of_decide_eq_true hq.1.1
 have h2:=of_decide_eq_true hq.2
 rw[List.length_map] at h1
 rw[Mj] at h2
 refine⟨a,xs,t,rfl,rfl,ha,Paired.imp' (fun _ _ ⟨b,e,f,_⟩=>⟨b,e,f⟩) pr,h1,fun r hr=>?_,h2⟩
 have hr2:=List.all_eq_true.mp hq.1.2 (vN r) (List.mem_map.mpr ⟨r,hr,rfl⟩)
 have hr2:(decide (1≤(leaves r).length∧(leaves r).length≤20) && (leaves r).all iT)=true:=hr2
 rw[Bool.and_eq_true] at hr2
 have h3:=of_decide_eq_true hr2.1
 have e:(leaves r).length=r.length:=List.length_map ..
 exact⟨by omega,by omega,RD hr2.2 rfl⟩
theorem W2 {u:Tr}{m:Nat}{w:V} (h:iF u m w=4):tP u=true∧G7 u≤24∧m≤3∧oR w 1 4000=true:=by
 unfold iF at h
 cases h1:tP u with
 | false=>rw[h1,if_pos rfl] at h;cases h
 | true =>
  rw[h1,if_neg (by decide)] at h
  by_cases h2:24 < G7 u
  ·rw[if_pos h2] at h;cases h
  ·rw[if_neg h2] at h
   by_cases h3:3 < m
   ·rw[if_pos h3] at h;cases h
   ·rw[if_neg h3] at h
    cases h4:oR w 1 4000 with
    | false=>rw[h4,if_pos rfl] at h;cases h
    | true=>exact⟨rfl,by omega,by omega,rfl⟩
theorem DS {w:V} (h:oR w 1 4000=true):∃ n:Nat,w=.int n∧1≤n∧n≤4000:=by
 cases w with
 | int i =>
  have h:decide ((1:Int)≤i∧i≤4000)=true:=h
  have h:=of_decide_eq_true h
  exact⟨i.toNat,by rw[Int.toNat_of_nonneg (by omega)],by omega,by omega⟩
 | _=>cases h
def vP:Tr→Prop
 | .leaf (.str z)=>(lR z∨9∈z.cps.toList)∧z.length≤401
 | _=>True
def JF:Tr→Prop
 | .list cs=>∀ c∈cs,vP c
 | _=>True
def Ng:Tr→Prop
 | .list rs=>∀ r∈rs,JF r
 | _=>True
def jG:Tr→Bool
 | .leaf (.str z)=>away z 9
 | _=>false
def Ce:Tr→Bool
 | .list cs=>decide (1≤cs.length∧cs.length≤20) && cs.all jG
 | _=>false
def aaD:Tr→Bool
 | .list rs=>decide (rs.length≤60) && rs.all Ce && decide ((rs.map xE).sum≤400)
 | _=>false
theorem aaE {z:Str} (h:lR z):away z 9=true:=(vG z 9).mpr fun q=>by
 rcases h 9 q with e | e
 ·cases e
 ·exact absurd e.1 (by decide)
theorem aaF {z:Str} (h:9∈z.cps.toList):textOk z=false:=by
 unfold textOk
 rw[Bool.eq_false_iff]
 intro q
 exact absurd (List.all_eq_true.mp q 9 h) (by decide)
theorem Uw {c:Tr} (h:vP c) (h4:A9 c≤400):iT c=jG c:=by
 cases c with
 | list cs=>rfl
 | leaf v =>
  cases v with
  | str z =>
   have h4:z.length≤400:=h4
   show(decide (z.length≤400) && textOk z)=away z 9
   rw[decide_eq_true h4,Bool.true_and]
   rcases h.1 with e | e
   ·rw[L8 e,aaE e]
   ·rw[aaF e]
    cases q:away z 9 with
    | false=>rfl
    | true=>exact absurd e ((vG z 9).mp q)
  | _=>rfl
theorem W3 {u:Tr} (h:Ng u):tP u=aaD u:=by
 cases u with
 | leaf v=>rfl
 | list rs =>
  show(decide (rs.length≤60) && rs.all rV && decide ((rs.map xE).sum≤400))=(decide (rs.length≤60) && rs.all Ce && decide ((rs.map xE).sum≤400))
  by_cases ht:(rs.map xE).sum≤400
  ·have e:rs.all rV=rs.all Ce:=all_congr fun r hr=>by
    have h1:xE r≤(rs.map xE).sum:=Ez (List.mem_map.mpr ⟨r,hr,rfl⟩)
    have h2:=h r hr
    cases r with
    | leaf v=>rfl
    | list cs =>
     show(_ && cs.all iT)=(_ && cs.all jG)
     rw[all_congr fun c hc=>Uw (h2 c hc) (Nat.le_trans (Ez (List.mem_map.mpr ⟨c,hc,rfl⟩)) (show(cs.map A9).sum≤400 from Nat.le_trans h1 ht))]
   rw[e]
  ·rw[decide_eq_false ht,Bool.and_false,Bool.and_false]
theorem G8 (K:W.Frag) {N:Addr→Prop}{n:Nat}{H:Hp}:∀{xs:List V}{cs:List Tr},Paired (Rp N n H) xs cs→cs.all jG=true→(∀ c∈cs,vP c)→∃ r:List Str,cs=leaves r∧xs=r.map V.str∧∀ c∈r,c.length≤401
 | _,_,.nil,_,_=>⟨[],rfl,rfl,fun _ z=>nomatch z⟩
 | x :: xs,c :: cs,.cons a r,h,hc=>by
  rw[List.all_cons,Bool.and_eq_true] at h
  obtain⟨rs,rfl,rfl,hl⟩:=G8 K r h.2 fun c q=>hc c (List.mem_cons_of_mem _ q)
  have h0:=hc c (List.mem_cons_self ..)
  rcases a.Ew K with ⟨z,rfl,rfl,_⟩ | ⟨ty,hty,hk,e⟩
  ·refine⟨z :: rs,rfl,rfl,fun c hc=>?_⟩
   rcases List.mem_cons.mp hc with rfl | hc
   ·exact h0.2
   ·exact hl c hc
  ·exfalso
   cases c with
   | list cs=>cases h.1
   | leaf v =>
    cases v with
    | str z =>
     rcases a.iX K with ⟨_,_,_,_,_,_,e2,_⟩ | ⟨_,_,_,e2,hv⟩
     ·cases e2
     ·cases e2
      cases hty with
      | str _=>cases hk
    | _=>cases h.1
theorem RE (K:W.Frag) {N:Addr→Prop}{n:Nat}{H:Hp}:∀{xs:List V}{ts:List Tr},Paired (Rp N n H) xs ts→(∀ r∈ts,Ce r=true)→(∀ r∈ts,JF r)→∃ t:List (List Str),ts=t.map vN∧Paired (fun x r=>∃ b,x=V.ref b∧H b=some (.lst (r.map V.str))∧r.length≤20∧∀ c∈r,c.length≤401) xs t
 | _,_,.nil,_,_=>⟨[],rfl,.nil⟩
 | x :: xs,u :: ts,.cons a r,h,hp=>by
  obtain⟨t,rfl,q⟩:=RE K r (fun r hr=>h r (List.mem_cons_of_mem _ hr)) fun r hr=>hp r (List.mem_cons_of_mem _ hr)
  have h0:=h u (List.mem_cons_self ..)
  have p0:=hp u (List.mem_cons_self ..)
  rcases a.iX K with ⟨m,b,ys,cs,_,rfl,rfl,hb,_,_,ps⟩ | ⟨_,_,_,rfl,_⟩
  ·have h1:(decide (1≤cs.length∧cs.length≤20) && cs.all jG)=true:=h0
   rw[Bool.and_eq_true] at h1
   have h2:=of_decide_eq_true h1.1
   obtain⟨r,rfl,rfl,hl⟩:=G8 K ps h1.2 p0
   have e:(leaves r).length=r.length:=List.length_map ..
   exact⟨r :: t,rfl,.cons ⟨b,rfl,hb,by omega,hl⟩ q⟩
  ·cases h0
theorem VG:∀{t:List (List Str)},(∀ r∈t,r.length≤20∧∀ c∈r,c.length≤401)→(t.map fun r=>(lens r).sum).sum≤t.length * 8020
 | [],_=>by show 0≤0 * 8020;omega
 | r :: t,h=>by
  have h1:=VG (t:=t) fun c hc=>h c (List.mem_cons_of_mem _ hc)
  have h2:=h r (List.mem_cons_self ..)
  have h3:=vO h2.2
  show(lens r).sum+(t.map fun r=>(lens r).sum).sum≤(t.length+1) * 8020
  rw[Nat.add_mul];omega
theorem RG {α:Type} (x:α):∀ n:Nat,(List.replicate n [x]).flatten=List.replicate n x
 | 0=>rfl
 | n+1=>by rw[List.replicate_succ,List.flatten_cons,RG x n,List.replicate_succ];rfl
theorem JG {α β:Type}{F:α→β→Prop}{x:α}{t:β} (h:F x t):∀ n:Nat,Paired F (List.replicate n x) (List.replicate n t)
 | 0=>.nil
 | n+1=>by rw[List.replicate_succ,List.replicate_succ];exact .cons h (JG h n)
theorem W4:lR ("a":Str):=by show ∀ c∈_,c=10∨Pn c;decide +kernel
theorem aaG:lR ("b":Str):=by show ∀ c∈_,c=10∨Pn c;decide +kernel
theorem G9 {z:Str} (h:lR z) (hl:z.length≤401):vP (.leaf (.str z)):=⟨.inl h,hl⟩
theorem Nh:vP (.leaf (.str ("a":Str))):=G9 W4 (by decide)
theorem aaH:vP (.leaf (.str ("b":Str))):=G9 aaG (by decide)
theorem RH {c:Tr} (h:vP c):JF (.list [c]):=fun d hd=>by rw[List.mem_singleton.mp hd];exact h
theorem aaI {c d:Tr} (h:vP c) (h2:vP d):JF (.list [c,d]):=fun e he=>by
 rcases List.mem_cons.mp he with rfl | he
 ·exact h
 ·rw[List.mem_singleton.mp he];exact h2
theorem Hf {r:Tr} (h:JF r):Ng (.list [r]):=fun d hd=>by rw[List.mem_singleton.mp hd];exact h
theorem RI {r:Tr} (h:JF r) (n:Nat):Ng (.list (List.replicate n r)):=fun d hd=>by rw[(List.mem_replicate.mp hd).2];exact h
theorem yV {N:Addr→Prop}{n:Nat}{H:Hp}{z:Str} (h:z.length≤10000):Rp N n H (.str z) (.leaf (.str z)):=yr rfl fun z e=>by cases e;exact h
def W5:Nat→Str
 | 0=>Str.ofString "table"
 | 1=>Str.ofString "many"
 | 2=>Str.ofString "many"
 | 3=>Str.ofString "most"
 | _=>Str.ofString "told"
def W6:Nat→Int
 | 1=>24
 | 2=>3
 | _=>0
def afW (CT CM CN:Addr) (H:Hp) (ea:Addr):Nat→Prop
 | 0=>H ea=some (vE ea (.ref CT) none)
 | 1=>∃ d,H ea=some (vE ea (.ref CM) (some d))∧H d=some (LV d [(Str.ofString "most",.int 24)])
 | 2=>∃ d,H ea=some (vE ea (.ref CM) (some d))∧H d=some (LV d [(Str.ofString "most",.int 3)])
 | 3=>H ea=some (vE ea (.ref CN) none)
 | _=>False
theorem qO:aG ["sign", "number"] ["sign"] (aA fk):=⟨rfl,rfl,rfl,by decide +kernel,rfl,by decide +kernel,by decide +kernel⟩
theorem tQ:aG ["thing", "least", "most"] ["thing", "least", "most"] (aA cI):=⟨rfl,rfl,rfl,by decide +kernel,rfl,by decide +kernel,by decide +kernel⟩
theorem lX:aG ["self", "parts", "quotes", "frees", "twin", "wide", "thin", "stray", "truth"] ["self", "parts", "quotes", "frees", "twin", "wide", "thin", "stray"] (aA bO):=⟨rfl,rfl,rfl,by decide +kernel,rfl,by decide +kernel,by decide +kernel⟩
theorem yW:aG ["self"] ["self"] (aA gG):=⟨rfl,rfl,rfl,by decide +kernel,rfl,by decide +kernel,by decide +kernel⟩
theorem Cf:aG ["told"] ["told"] (aA jx):=⟨rfl,rfl,rfl,by decide +kernel,rfl,by decide +kernel,by decide +kernel⟩
theorem xF:aG ["self", "dialect"] ["self", "dialect"] (aA fW):=⟨rfl,rfl,rfl,by decide +kernel,rfl,by decide +kernel,by decide +kernel⟩
theorem uP:aG ["self", "dialect", "tokens"] ["self", "dialect", "tokens"] (aA dZ):=⟨rfl,rfl,rfl,by decide +kernel,rfl,by decide +kernel,by decide +kernel⟩
theorem ia:aG ["row", "tokens", "place", "cell"] ["row"] (aA dO):=⟨rfl,rfl,rfl,by decide +kernel,rfl,by decide +kernel,by decide +kernel⟩
theorem uQ:aG ["text"] ["text"] (aA cV):=⟨rfl,rfl,rfl,by decide +kernel,rfl,by decide +kernel,by decide +kernel⟩
theorem JH:aG ["thing"] ["thing"] (aA o7):=⟨rfl,rfl,rfl,by decide +kernel,rfl,by decide +kernel,by decide +kernel⟩
theorem Ni:aG ["thing"] ["thing"] (aA o8):=⟨rfl,rfl,rfl,by decide +kernel,rfl,by decide +kernel,by decide +kernel⟩
theorem yX:aG ["row"] ["row"] (aA fm):=⟨rfl,rfl,rfl,by decide +kernel,rfl,by decide +kernel,by decide +kernel⟩
theorem Hg:aG ["thing"] ["thing"] (aA ja):=⟨rfl,rfl,rfl,by decide +kernel,rfl,by decide +kernel,by decide +kernel⟩
theorem Be:aG ["thing"] ["thing"] (aA iN):=⟨rfl,rfl,rfl,by decide +kernel,rfl,by decide +kernel,by decide +kernel⟩
theorem qk:aG ["table", "tokens", "row"] ["table"] (aA lB):=⟨rfl,rfl,rfl,by decide +kernel,rfl,by decide +kernel,by decide +kernel⟩
theorem zX:aG ["text", "found", "sign"] ["text"] (aA AF):=⟨rfl,rfl,rfl,by decide +kernel,rfl,by decide +kernel,by decide +kernel⟩
theorem uR:aG ["self"] ["self"] (aA d7):=⟨rfl,rfl,rfl,by decide +kernel,rfl,by decide +kernel,by decide +kernel⟩
theorem iG:aG ["dialect", "table", "others", "special", "cells"] ["dialect", "table", "others"] (aA cg):=⟨rfl,rfl,rfl,by decide +kernel,rfl,by decide +kernel,by decide +kernel⟩
theorem nC:aG ["self", "dialect", "table", "others", "tokens"] ["self", "dialect", "table", "others"] (aA cW):=⟨rfl,rfl,rfl,by decide +kernel,rfl,by decide +kernel,by decide +kernel⟩
theorem tR:aG ["self", "most"] ["self", "most"] (aA dG):=⟨rfl,rfl,rfl,by decide +kernel,rfl,by decide +kernel,by decide +kernel⟩
theorem Hh:aG ["thing", "least", "most"] ["thing", "least", "most"] (aA nq):=⟨rfl,rfl,rfl,by decide +kernel,rfl,by decide +kernel,by decide +kernel⟩
theorem JI:aG ["dialect", "state"] ["dialect", "state"] (aA o9):=⟨rfl,rfl,rfl,by decide +kernel,rfl,by decide +kernel,by decide +kernel⟩
theorem qP:aG ["tokens", "count", "kind", "sign", "token"] ["tokens", "count", "kind", "sign"] (aA gH):=⟨rfl,rfl,rfl,by decide +kernel,rfl,by decide +kernel,by decide +kernel⟩
theorem rW:aG ["dialect", "state", "sign"] ["dialect", "state", "sign"] (aA dg):=⟨rfl,rfl,rfl,by decide +kernel,rfl,by decide +kernel,by decide +kernel⟩
theorem xG:aG ["dialect", "sign"] ["dialect", "sign"] (aA fX):=⟨rfl,rfl,rfl,by decide +kernel,rfl,by decide +kernel,by decide +kernel⟩
theorem Bf:aG ["dialect", "quote", "sign"] ["dialect", "quote", "sign"] (aA iO):=⟨rfl,rfl,rfl,by decide +kernel,rfl,by decide +kernel,by decide +kernel⟩
theorem Bg:aG ["dialect", "sign"] ["dialect", "sign"] (aA iP):=⟨rfl,rfl,rfl,by decide +kernel,rfl,by decide +kernel,by decide +kernel⟩
theorem xH:aG ["dialect", "quote", "sign"] ["dialect", "quote", "sign"] (aA fY):=⟨rfl,rfl,rfl,by decide +kernel,rfl,by decide +kernel,by decide +kernel⟩
theorem Cg:aG ["dialect", "quote", "sign"] ["dialect", "quote", "sign"] (aA jy):=⟨rfl,rfl,rfl,by decide +kernel,rfl,by decide +kernel,by decide +kernel⟩
theorem ql:aG ["self", "state", "sign", "word", "quote"] ["self", "state", "sign"] (aA lC):=⟨rfl,rfl,rfl,by decide +kernel,rfl,by decide +kernel,by decide +kernel⟩
theorem nZ:aG ["self", "state", "sign", "step"] ["self", "state", "sign"] (aA fq):=⟨rfl,rfl,rfl,by decide +kernel,rfl,by decide +kernel,by decide +kernel⟩
theorem cG:aG ["self", "mark", "sign", "step", "count"] ["self", "mark", "sign"] (aA cP):=⟨rfl,rfl,rfl,by decide +kernel,rfl,by decide +kernel,by decide +kernel⟩
theorem qm:aG ["self", "mark"] ["self", "mark"] (aA cF):=⟨rfl,rfl,rfl,by decide +kernel,rfl,by decide +kernel,by decide +kernel⟩
theorem Bh:aG ["others"] ["others"] (aA gg):=⟨rfl,rfl,rfl,by decide +kernel,rfl,by decide +kernel,by decide +kernel⟩
theorem f6:aG ["self", "place", "found", "sign", "mark", "marks"] ["self", "place"] (aA fu):=⟨rfl,rfl,rfl,by decide +kernel,rfl,by decide +kernel,by decide +kernel⟩
theorem vQ:aG ["self", "place"] ["self", "place"] (aA dD):=⟨rfl,rfl,rfl,by decide +kernel,rfl,by decide +kernel,by decide +kernel⟩
theorem jn:aG ["first", "searched", "most", "came", "edge", "place", "farther", "lead"] ["first", "searched", "most"] (aA lD):=⟨rfl,rfl,rfl,by decide +kernel,rfl,by decide +kernel,by decide +kernel⟩
theorem qo:aG ["came", "place", "signs", "link"] ["came", "place"] (aA pe):=⟨rfl,rfl,rfl,by decide +kernel,rfl,by decide +kernel,by decide +kernel⟩
theorem Bj:aG ["table", "others", "most"] ["table", "others", "most"] (aA iQ):=⟨rfl,rfl,rfl,by decide +kernel,rfl,by decide +kernel,by decide +kernel⟩
theorem EB:aG ["dialect", "table", "others", "most", "found", "came"] ["dialect", "table", "others", "most"] (aA AG):=⟨rfl,rfl,rfl,by decide +kernel,rfl,by decide +kernel,by decide +kernel⟩
theorem yY:aG ["_law_script", "_law_k"] ["_law_script", "_law_k"] (aA gI):=⟨rfl,rfl,rfl,by decide +kernel,rfl,by decide +kernel,by decide +kernel⟩
theorem oS:aG ["_law_number_here", "_law_salt", "_law_one", "_law_two"] ["_law_number_here", "_law_salt"] (aA jz):=⟨rfl,rfl,rfl,by decide +kernel,rfl,by decide +kernel,by decide +kernel⟩
theorem nD:aG ["_law_cell", "_law_salt", "_law_number_here", "_law_high"] ["_law_cell", "_law_salt"] (aA iR):=⟨rfl,rfl,rfl,by decide +kernel,rfl,by decide +kernel,by decide +kernel⟩
theorem ic:aG ["_law_number_here", "_law_many", "_law_menu", "_law_found", "_law_k", "_law_sign"] ["_law_number_here", "_law_many", "_law_menu"] (aA lE):=⟨rfl,rfl,rfl,by decide +kernel,rfl,by decide +kernel,by decide +kernel⟩
theorem ua:aG ["_law_way", "_law_every"] ["_law_way"] (aA jA):=⟨rfl,rfl,rfl,by decide +kernel,rfl,by decide +kernel,by decide +kernel⟩
theorem bY:aG ["_law_cell", "_law_number_here", "_law_flags", "_law_sizes", "_law_menus_here", "_law_parts", "_law_quotes", "_law_frees", "_law_truths"] ["_law_cell"] (aA lF):=⟨rfl,rfl,rfl,by decide +kernel,rfl,by decide +kernel,by decide +kernel⟩
theorem EC:aG ["_law_told_here"] ["_law_told_here"] (aA lG):=⟨rfl,rfl,rfl,by decide +kernel,rfl,by decide +kernel,by decide +kernel⟩
theorem iU:aG ["_law_cell", "_law_number_here", "_law_more", "_law_odd"] ["_law_cell"] (aA jB):=⟨rfl,rfl,rfl,by decide +kernel,rfl,by decide +kernel,by decide +kernel⟩
theorem Bk:aG ["_law_table_here"] ["_law_table_here"] (aA gh):=⟨rfl,rfl,rfl,by decide +kernel,rfl,by decide +kernel,by decide +kernel⟩
theorem vR:aG ["_law_table_here", "_law_row"] ["_law_table_here"] (aA gJ):=⟨rfl,rfl,rfl,by decide +kernel,rfl,by decide +kernel,by decide +kernel⟩
theorem qp:aG ["_law_cell", "_law_number_here", "_law_more"] ["_law_cell"] (aA lH):=⟨rfl,rfl,rfl,by decide +kernel,rfl,by decide +kernel,by decide +kernel⟩
theorem Hi:aG ["_law_table_here", "_law_many", "_law_most_here"] ["_law_table_here", "_law_many", "_law_most_here"] (aA nt):=⟨rfl,rfl,rfl,by decide +kernel,rfl,by decide +kernel,by decide +kernel⟩
theorem iY:aG ["_law_e", "_law_kinds"] ["_law_e"] (aA gK):=⟨rfl,rfl,rfl,by decide +kernel,rfl,by decide +kernel,by decide +kernel⟩
theorem oU:aG ["_law_made_here", "_law_table_here", "_law_beside", "_law_most_here", "_law_found", "_law_e"] ["_law_made_here", "_law_table_here", "_law_beside", "_law_most_here"] (aA jC):=⟨rfl,rfl,rfl,by decide +kernel,rfl,by decide +kernel,by decide +kernel⟩
theorem qq:aG ["_law_script", "_law_made_here", "_law_table_here", "_law_many", "_law_most_here", "_law_beside", "_law_due_here", "_law_found"] ["_law_script"] (aA vF):=⟨rfl,rfl,rfl,by decide +kernel,rfl,by decide +kernel,by decide +kernel⟩
structure Txt (K:W.Frag) (mg:Str→Option Value) (ay:Nat→Addr) (aO:Nat→FuncData) (B6:Nat→Str):Prop where
 nE:gC K "is_printable" "is_printable" fk (ay 0) (aO 0)
 rX:Binds K (aO 0) ["sign"] []
 rY:mg "is_printable" = some (.ref (ay 0))
 fO:gC K "are_unlike_signs" "are_unlike_signs" cI (ay 1) (aO 1)
 jc:Binds K (aO 1) ["thing", "least", "most"] []
 jd:mg "are_unlike_signs" = some (.ref (ay 1))
 uS:Qf K "__init__" "Dialect.__init__" bO (ay 2) (aO 2) (.ref (ay 89))
 nF:Binds K (aO 2) ["self", "parts", "quotes", "frees", "twin", "wide", "thin", "stray"] []
 Bl:gC K "told" "Dialect.told" gG (ay 3) (aO 3)
 Bm:Binds K (aO 3) ["self"] []
 Bo:Meth K (ay 58) "told" (ay 3)
 vS:gC K "dialect_of" "dialect_of" jx (ay 4) (aO 4)
 ED:Binds K (aO 4) ["told"] []
 EE:mg "dialect_of" = some (.ref (ay 4))
 yZ:gC K "__init__" "Turn.__init__" fW (ay 5) (aO 5)
 za:Binds K (aO 5) ["self", "dialect"] []
 vU:gC K "__init__" "Marker.__init__" dZ (ay 6) (aO 6)
 n6:Binds K (aO 6) ["self", "dialect", "tokens"] []
 qQ:gC K "tokens_of_row" "tokens_of_row" dO (ay 7) (aO 7)
 zb:Binds K (aO 7) ["row"] []
 zc:mg "tokens_of_row" = some (.ref (ay 7))
 n8:gC K "has_signs_alone" "has_signs_alone" cV (ay 8) (aO 8)
 vV:Binds K (aO 8) ["text"] []
 vW:mg "has_signs_alone" = some (.ref (ay 8))
 DT:gC K "is_cell" "is_cell" o7 (ay 9) (aO 9)
 Nj:Binds K (aO 9) ["thing"] []
 Nk:mg "is_cell" = some (.ref (ay 9))
 Hj:gC K "is_row" "is_row" o8 (ay 10) (aO 10)
 RJ:Binds K (aO 10) ["thing"] []
 RK:mg "is_row" = some (.ref (ay 10))
 rZ:gC K "signs_in_row" "signs_in_row" fm (ay 11) (aO 11)
 Bp:Binds K (aO 11) ["row"] []
 Bq:mg "signs_in_row" = some (.ref (ay 11))
 Br:gC K "is_table" "is_table" ja (ay 12) (aO 12)
 JJ:Binds K (aO 12) ["thing"] []
 JK:mg "is_table" = some (.ref (ay 12))
 uc:gC K "check_table" "check_table" iN (ay 13) (aO 13)
 Ci:Binds K (aO 13) ["thing"] []
 Cj:mg "check_table" = some (.ref (ay 13))
 r8:gC K "tokens_of" "tokens_of" lB (ay 14) (aO 14)
 yu:Binds K (aO 14) ["table"] []
 yw:mg "tokens_of" = some (.ref (ay 14))
 JL:gC K "once" "once" AF (ay 15) (aO 15)
 RL:Binds K (aO 15) ["text"] []
 RM:mg "once" = some (.ref (ay 15))
 vX:gC K "special" "Dialect.special" d7 (ay 16) (aO 16)
 vY:Binds K (aO 16) ["self"] []
 vZ:Meth K (ay 58) "special" (ay 16)
 nG:gC K "signs_that_count" "signs_that_count" cg (ay 17) (aO 17)
 uT:Binds K (aO 17) ["dialect", "table", "others"] []
 uU:mg "signs_that_count" = some (.ref (ay 17))
 v9:gC K "__init__" "Places.__init__" cW (ay 18) (aO 18)
 wc:Binds K (aO 18) ["self", "dialect", "table", "others"] []
 Hl:gC K "__init__" "NoWriting.__init__" d8 (ay 19) (aO 19)
 Ho:Binds K (aO 19) ["self", "row", "cell"] []
 Mm:gC K "__init__" "Broken.__init__" gk (ay 20) (aO 20)
 Mp:Binds K (aO 20) ["self", "row", "place", "word"] []
 uV:gC K "__init__" "TooMany.__init__" dG (ay 21) (aO 21)
 nH:Binds K (aO 21) ["self", "most"] []
 Mq:gC K "__init__" "NoName.__init__" gm (ay 22) (aO 22)
 Mr:Binds K (aO 22) ["self", "name"] []
 Bs:gC K "is_whole" "is_whole" nq (ay 23) (aO 23)
 JM:Binds K (aO 23) ["thing", "least", "most"] []
 JN:mg "is_whole" = some (.ref (ay 23))
 DU:gC K "is_live" "is_live" o9 (ay 24) (aO 24)
 Nl:Binds K (aO 24) ["dialect", "state"] []
 Nm:mg "is_live" = some (.ref (ay 24))
 nI:gC K "count_behind" "count_behind" gH (ay 25) (aO 25)
 sd:Binds K (aO 25) ["tokens", "count", "kind", "sign"] []
 sj:mg "count_behind" = some (.ref (ay 25))
 lY:gC K "step_at_beginning" "step_at_beginning" dg (ay 26) (aO 26)
 tS:Binds K (aO 26) ["dialect", "state", "sign"] []
 tU:mg "step_at_beginning" = some (.ref (ay 26))
 qR:gC K "step_in_plain" "step_in_plain" fX (ay 27) (aO 27)
 zd:Binds K (aO 27) ["dialect", "sign"] []
 zf:mg "step_in_plain" = some (.ref (ay 27))
 ud:gC K "step_within" "step_within" iO (ay 28) (aO 28)
 Ck:Binds K (aO 28) ["dialect", "quote", "sign"] []
 Cn:mg "step_within" = some (.ref (ay 28))
 oV:gC K "step_behind" "step_behind" iP (ay 29) (aO 29)
 uf:Binds K (aO 29) ["dialect", "sign"] []
 ug:mg "step_behind" = some (.ref (ay 29))
 qS:gC K "step_in_doubt" "step_in_doubt" fY (ay 30) (aO 30)
 zg:Binds K (aO 30) ["dialect", "quote", "sign"] []
 zh:mg "step_in_doubt" = some (.ref (ay 30))
 wg:gC K "step_freed" "step_freed" jy (ay 31) (aO 31)
 EF:Binds K (aO 31) ["dialect", "quote", "sign"] []
 EG:mg "step_freed" = some (.ref (ay 31))
 Hq:gC K "step" "Turn.step" lC (ay 32) (aO 32)
 Hr:Binds K (aO 32) ["self", "state", "sign"] []
 Hs:Meth K (ay 59) "step" (ay 32)
 xJ:gC K "live_step" "Turn.live_step" fq (ay 33) (aO 33)
 pG:Binds K (aO 33) ["self", "state", "sign"] []
 pH:Meth K (ay 59) "live_step" (ay 33)
 sq:gC K "mark_behind" "Marker.mark_behind" cP (ay 34) (aO 34)
 lJ:Binds K (aO 34) ["self", "mark", "sign"] []
 lK:Meth K (ay 60) "mark_behind" (ay 34)
 rm:gC K "has_read_all" "Marker.has_read_all" cF (ay 35) (aO 35)
 kg:Binds K (aO 35) ["self", "mark"] []
 kh:Meth K (ay 60) "has_read_all" (ay 35)
 uh:gC K "first_place" "first_place" gg (ay 36) (aO 36)
 Co:Binds K (aO 36) ["others"] []
 Cp:mg "first_place" = some (.ref (ay 36))
 Bt:gC K "leads" "Places.leads" fu (ay 37) (aO 37)
 Bu:Binds K (aO 37) ["self", "place"] []
 Bv:Meth K (ay 61) "leads" (ay 37)
 xK:gC K "is_good" "Places.is_good" dD (ay 38) (aO 38)
 xM:Binds K (aO 38) ["self", "place"] []
 xN:Meth K (ay 61) "is_good" (ay 38)
 Ht:Qf K "search" "search" lD (ay 39) (aO 39) (.ref (ay 90))
 RN:Binds K (aO 39) ["first", "searched", "most"] []
 RO:mg "search" = some (.ref (ay 39))
 DV:gC K "text_to" "text_to" pe (ay 40) (aO 40)
 Np:Binds K (aO 40) ["came", "place"] []
 Nq:mg "text_to" = some (.ref (ay 40))
 um:gC K "check_asked" "check_asked" iQ (ay 41) (aO 41)
 Cq:Binds K (aO 41) ["table", "others", "most"] []
 Cr:mg "check_asked" = some (.ref (ay 41))
 RP:gC K "sole" "sole" AG (ay 42) (aO 42)
 W7:Binds K (aO 42) ["dialect", "table", "others", "most"] []
 W8:mg "sole" = some (.ref (ay 42))
 fz:gC K "_law_cell_at" "_law_cell_at" gI (ay 43) (aO 43)
 gM:Binds K (aO 43) ["_law_script", "_law_k"] []
 gO:mg "_law_cell_at" = some (.ref (ay 43))
 mH:gC K "_law_mixed" "_law_mixed" jz (ay 44) (aO 44)
 qt:Binds K (aO 44) ["_law_number_here", "_law_salt"] []
 qu:mg "_law_mixed" = some (.ref (ay 44))
 iV:gC K "_law_number" "_law_number" iR (ay 45) (aO 45)
 kO:Binds K (aO 45) ["_law_cell", "_law_salt"] []
 kP:mg "_law_number" = some (.ref (ay 45))
 oh:gC K "_law_some" "_law_some" lE (ay 46) (aO 46)
 sr:Binds K (aO 46) ["_law_number_here", "_law_many", "_law_menu"] []
 su:mg "_law_some" = some (.ref (ay 46))
 wj:gC K "_law_menus" "_law_menus" jA (ay 47) (aO 47)
 EH:Binds K (aO 47) ["_law_way"] []
 EI:mg "_law_menus" = some (.ref (ay 47))
 sy:gC K "_law_told" "_law_told" lF (ay 48) (aO 48)
 yx:Binds K (aO 48) ["_law_cell"] []
 yy:mg "_law_told" = some (.ref (ay 48))
 sC:gC K "_law_made" "_law_made" lG (ay 49) (aO 49)
 yz:Binds K (aO 49) ["_law_told_here"] []
 yC:mg "_law_made" = some (.ref (ay 49))
 wk:gC K "_law_table" "_law_table" jB (ay 50) (aO 50)
 EJ:Binds K (aO 50) ["_law_cell"] []
 EK:mg "_law_table" = some (.ref (ay 50))
 uo:gC K "_law_tokens" "_law_tokens" gh (ay 51) (aO 51)
 Cs:Binds K (aO 51) ["_law_table_here"] []
 Ct:mg "_law_tokens" = some (.ref (ay 51))
 yD:gC K "_law_good" "_law_good" gJ (ay 52) (aO 52)
 Hu:Binds K (aO 52) ["_law_table_here"] []
 Hv:mg "_law_good" = some (.ref (ay 52))
 yE:gC K "_law_most" "_law_most" lH (ay 53) (aO 53)
 Hw:Binds K (aO 53) ["_law_cell"] []
 Hx:mg "_law_most" = some (.ref (ay 53))
 Bw:gC K "_law_due" "_law_due" nt (ay 54) (aO 54)
 JO:Binds K (aO 54) ["_law_table_here", "_law_many", "_law_most_here"] []
 JP:mg "_law_due" = some (.ref (ay 54))
 sD:gC K "_law_refusal" "_law_refusal" gK (ay 55) (aO 55)
 Bx:Binds K (aO 55) ["_law_e"] []
 By:mg "_law_refusal" = some (.ref (ay 55))
 wm:gC K "_law_asked" "_law_asked" jC (ay 56) (aO 56)
 EL:Binds K (aO 56) ["_law_made_here", "_law_table_here", "_law_beside", "_law_most_here"] []
 EM:mg "_law_asked" = some (.ref (ay 56))
 aaJ:gC K "law" "law" vF (ay 57) (aO 57)
 ais:Binds K (aO 57) ["_law_script"] []
 ait:mg "law" = some (.ref (ay 57))
 aK:LC K (ay 58)
 DW:mg "Dialect" = some (.ref (ay 58))
 DX:Mk K (ay 58) (ay 2)
 cB:fN K (ay 58) "parts"
 cJ:fN K (ay 58) "quotes"
 bZ:fN K (ay 58) "frees"
 gP:fN K (ay 58) "twin"
 fB:fN K (ay 58) "wide"
 fD:fN K (ay 58) "thin"
 f7:fN K (ay 58) "stray"
 jH:LC K (ay 59)
 W9:mg "Turn" = some (.ref (ay 59))
 Xa:Mk K (ay 59) (ay 5)
 bX:fN K (ay 59) "dialect"
 ie:LC K (ay 60)
 Hy:mg "Marker" = some (.ref (ay 60))
 Hz:Mk K (ay 60) (ay 6)
 kQ:fN K (ay 60) "turn"
 f9:fN K (ay 60) "tokens"
 gi:LC K (ay 61)
 RQ:mg "Places" = some (.ref (ay 61))
 RS:Mk K (ay 61) (ay 18)
 gb:fN K (ay 61) "marker"
 fE:fN K (ay 61) "markers"
 jI:fN K (ay 61) "signs"
 sE:mg "DialectError" = some (.ref (ay 62))
 az:cA K (ay 62) (ay 63) jw none
 zj:XIn K (ay 62)
 RT:mg "NoText" = some (.ref (ay 64))
 aaK:cA K (ay 64) (ay 65) (.ref (ay 62) :: jw) none
 DY:mg "NoTable" = some (.ref (ay 66))
 cX:cA K (ay 66) (ay 67) (.ref (ay 62) :: jw) none
 HA:mg "NoDialect" = some (.ref (ay 68))
 VH:cA K (ay 68) (ay 69) (.ref (ay 62) :: jw) none
 JQ:mg "NoFamily" = some (.ref (ay 70))
 Xb:cA K (ay 70) (ay 71) (.ref (ay 62) :: jw) none
 HB:mg "NoMost" = some (.ref (ay 72))
 eg:cA K (ay 72) (ay 73) (.ref (ay 62) :: jw) none
 Ux:mg "NoAsk" = some (.ref (ay 74))
 ae5:cA K (ay 74) (ay 75) (.ref (ay 62) :: jw) none
 Uy:mg "NoRow" = some (.ref (ay 76))
 ae6:cA K (ay 76) (ay 77) (.ref (ay 62) :: jw) none
 RU:mg "NoName" = some (.ref (ay 78))
 aaL:cA K (ay 78) (ay 79) (.ref (ay 62) :: jw) (some (.ref (ay 22)))
 Xc:W.keepIn K (.ref (ay 78))=true
 Zs:∃ oI:Obj,K.lookup (ay 22)=some oI∧oI.cls=.type "function"
 RV:Pa K (ay 78) "name"
 xO:mg "TooMany" = some (.ref (ay 80))
 aT:cA K (ay 80) (ay 81) (.ref (ay 62) :: jw) (some (.ref (ay 21)))
 yF:W.keepIn K (.ref (ay 80))=true
 qv:∃ oI:Obj,K.lookup (ay 21)=some oI∧oI.cls=.type "function"
 qT:Pa K (ay 80) "most"
 RW:mg "Broken" = some (.ref (ay 82))
 aaM:cA K (ay 82) (ay 83) (.ref (ay 62) :: jw) (some (.ref (ay 20)))
 Xd:W.keepIn K (.ref (ay 82))=true
 Zt:∃ oI:Obj,K.lookup (ay 20)=some oI∧oI.cls=.type "function"
 SQ:Pa K (ay 82) "row"
 Pd:Pa K (ay 82) "place"
 RX:Pa K (ay 82) "word"
 HC:mg "NoWriting" = some (.ref (ay 84))
 VI:cA K (ay 84) (ay 85) (.ref (ay 62) :: jw) (some (.ref (ay 19)))
 SR:W.keepIn K (.ref (ay 84))=true
 Uz:∃ oI:Obj,K.lookup (ay 19)=some oI∧oI.cls=.type "function"
 Nr:Pa K (ay 84) "row"
 Ms:Pa K (ay 84) "cell"
 cZ:Zp K (ay 66)
 VJ:W.keepIn K (.ref (ay 66))=true
 uW:W.kitOne K (.ref (ay 66)) (.type "ValueError")=some true
 jo:W.kitOne K (.ref (ay 66)) (.ref (ay 62))=some true
 jJ:W.kitOne K (.ref (ay 66)) (.ref (ay 64))=some false
 je:W.kitOne K (.ref (ay 66)) (.ref (ay 66))=some true
 gQ:W.kitOne K (.ref (ay 66)) (.ref (ay 68))=some false
 iH:W.kitOne K (.ref (ay 66)) (.ref (ay 70))=some false
 jK:W.kitOne K (.ref (ay 66)) (.ref (ay 72))=some false
 kF:W.kitOne K (.ref (ay 66)) (.ref (ay 74))=some false
 kG:W.kitOne K (.ref (ay 66)) (.ref (ay 76))=some false
 jL:W.kitOne K (.ref (ay 66)) (.ref (ay 78))=some false
 jf:W.kitOne K (.ref (ay 66)) (.ref (ay 80))=some false
 jM:W.kitOne K (.ref (ay 66)) (.ref (ay 82))=some false
 gR:W.kitOne K (.ref (ay 66)) (.ref (ay 84))=some false
 aZ:Zp K (ay 80)
 qw:W.kitOne K (.ref (ay 80)) (.type "ValueError")=some true
 jq:W.kitOne K (.ref (ay 80)) (.ref (ay 62))=some true
 gu:W.kitOne K (.ref (ay 80)) (.ref (ay 64))=some false
 fP:W.kitOne K (.ref (ay 80)) (.ref (ay 66))=some false
 eo:W.kitOne K (.ref (ay 80)) (.ref (ay 68))=some false
 fh:W.kitOne K (.ref (ay 80)) (.ref (ay 70))=some false
 gv:W.kitOne K (.ref (ay 80)) (.ref (ay 72))=some false
 ig:W.kitOne K (.ref (ay 80)) (.ref (ay 74))=some false
 iw:W.kitOne K (.ref (ay 80)) (.ref (ay 76))=some false
 gw:W.kitOne K (.ref (ay 80)) (.ref (ay 78))=some false
 fQ:W.kitOne K (.ref (ay 80)) (.ref (ay 80))=some true
 gy:W.kitOne K (.ref (ay 80)) (.ref (ay 82))=some false
 eB:W.kitOne K (.ref (ay 80)) (.ref (ay 84))=some false
 dP:Zp K (ay 72)
 Xe:W.keepIn K (.ref (ay 72))=true
 xP:W.kitOne K (.ref (ay 72)) (.type "ValueError")=some true
 jN:W.kitOne K (.ref (ay 72)) (.ref (ay 62))=some true
 kH:W.kitOne K (.ref (ay 72)) (.ref (ay 64))=some false
 jO:W.kitOne K (.ref (ay 72)) (.ref (ay 66))=some false
 iI:W.kitOne K (.ref (ay 72)) (.ref (ay 68))=some false
 jg:W.kitOne K (.ref (ay 72)) (.ref (ay 70))=some false
 kI:W.kitOne K (.ref (ay 72)) (.ref (ay 72))=some true
 lS:W.kitOne K (.ref (ay 72)) (.ref (ay 74))=some false
 lT:W.kitOne K (.ref (ay 72)) (.ref (ay 76))=some false
 kJ:W.kitOne K (.ref (ay 72)) (.ref (ay 78))=some false
 jP:W.kitOne K (.ref (ay 72)) (.ref (ay 80))=some false
 kK:W.kitOne K (.ref (ay 72)) (.ref (ay 82))=some false
 iJ:W.kitOne K (.ref (ay 72)) (.ref (ay 84))=some false
 Cu:mg "ValueError" = none
 BA:mg "all" = none
 Xf:mg "any" = none
 zY:mg "bool" = none
 EN:mg "enumerate" = none
 RY:mg "int" = none
 aI:mg "isinstance" = none
 dH:mg "len" = none
 wo:mg "list" = none
 Xg:mg "ord" = none
 HD:mg "range" = none
 HE:mg "reversed" = none
 JR:mg "str" = none
 xQ:mg "sum" = none
 wu:mg "tuple" = none
 RZ:mg "zip" = none
 qx:∃ t,mg "LINE" = some (.str (B6 0) t)
 oi:(B6 0)=Str.ofString "\n"
 EO:∃ t,mg "MOST_ROWS" = some (.int 60 t)
 Cv:∃ t,mg "MOST_CELLS" = some (.int 20 t)
 jQ:∃ t,mg "MOST_SIGNS_IN_CELLS" = some (.int 400 t)
 sF:∃ t,mg "MOST_TOKENS" = some (.int 24 t)
 sI:∃ t,mg "MOST_OTHERS" = some (.int 3 t)
 BB:∃ t,mg "MOST_PLACES" = some (.int 4000 t)
 pI:mg "START" = some (.ref (ay 86))
 pJ:∃(o:Obj) (its:Array Value) (n:Nat),K.lookup (ay 86)=some o∧o.cls=.type "tuple"∧o.data=.seq its n∧its.size≤sizeLine∧Vals [.str ("row":Str),.str ("":Str)] its.toList
 UA:mg "PART" = some (.ref (ay 87))
 UB:∃(o:Obj) (its:Array Value) (n:Nat),K.lookup (ay 87)=some o∧o.cls=.type "tuple"∧o.data=.seq its n∧its.size≤sizeLine∧Vals [.str ("part":Str),.str ("":Str)] its.toList
 Xh:mg "END" = some (.ref (ay 88))
 Xi:∃(o:Obj) (its:Array Value) (n:Nat),K.lookup (ay 88)=some o∧o.cls=.type "tuple"∧o.data=.seq its n∧its.size≤sizeLine∧Vals [.str ("end":Str),.str ("":Str)] its.toList
section
variable {P:Program}{w:World}{K:W.Frag}{mg:Str→Option Value}{base:Heap}{ay:Nat→Addr}{aO:Nat→FuncData}{B6:Nat→Str}
def lU:Sp:=fun vs H Q _=>∃ c:Nat,vs=[.str (sg c)]∧Q (.bl (decide (Pn c))) H
section
variable (T:Txt K mg ay aO B6)
include T
theorem qU:aM P w K mg base cy 1 (ay 0) (aO 0) ["sign"] lU:=by
 refine T.nE.ok qO (fun vs H Q E h=>?_) (fun cdv A outer s H vs Q E hr h=>?_)
 ·obtain⟨c,rfl,_⟩:=h;rfl
 ·have hu:=bA hr
  have jv:=hr.aQ
  obtain⟨c,rfl,k⟩:=h
  refine⟨_,(aq (lA 1 qO.nd (i9 PB T.Xg (af (pv 0) aj ak)) (hs:=cU))
   (av (aC (uG (IJ Py (pv 1) au) (uG (IJ Px (pv 1) au) (w6 (IJ Pw (pv 1) au))))))),?_⟩
  refine⟨_,rfl,_,rfl,rfl,?_⟩
  refine⟨_,rfl,_,_,rfl,rfl,_,rfl,dh (fun h1=>?_) (fun h1=>?_)⟩
  ·have h1:(32:Int)≤((c:Nat):Int):=of_decide_eq_true h1
   refine⟨_,rfl,_,_,rfl,rfl,_,rfl,dh (fun h2=>?_) (fun h2=>?_)⟩
   ·have h2:((c:Nat):Int)≤126:=of_decide_eq_true h2
    refine⟨_,rfl,rfl,?_⟩
    have e:(!decide (V.int ((c:Nat):Int)=V.int 37))=decide (Pn c):=by
     by_cases h3:c=37
     ·subst h3;decide
     ·have n1:¬(V.int ((c:Nat):Int)=V.int 37):=fun z=>h3 (by injection z with z;omega)
      rw[decide_eq_false n1,decide_eq_true (show Pn c from ⟨by omega,by omega,h3⟩)];rfl
    show Q (.bl (!decide (V.int ((c:Nat):Int)=V.int 37))) H
    rw[e];exact k
   ·have e:decide (((c:Nat):Int)≤126)=decide (Pn c):=by
     have n1:¬((c:Nat):Int)≤126:=fun z=>h2 (decide_eq_true z)
     rw[decide_eq_false n1,decide_eq_false (fun z:Pn c=>n1 (by have:=z.2.1;omega))]
    rw[←e,show decide (((c:Nat):Int)≤126)=false from Bool.eq_false_iff.mpr h2] at k
    exact k
  ·have e:decide ((32:Int)≤((c:Nat):Int))=decide (Pn c):=by
    have n1:¬(32:Int)≤((c:Nat):Int):=fun z=>h1 (decide_eq_true z)
    rw[decide_eq_false n1,decide_eq_false (fun z:Pn c=>n1 (by have:=z.1;omega))]
   rw[←e,show decide ((32:Int)≤((c:Nat):Int))=false from Bool.eq_false_iff.mpr h1] at k
   exact k
def lZ:Sp:=fun vs H Q _=>∃(z:Str) (lo hi:Int),vs=[.str z,.int lo,.int hi]∧Sg z∧lo≤z.length∧(z.length:Int)≤hi∧z.length≤1000∧∀ H',aH H H'→Q (.bl true) H'
theorem tV:aM P w K mg base cy 2 (ay 1) (aO 1) ["thing", "least", "most"] lZ:=by
 have nJ:aM P w K mg base cy 1 (ay 0) (aO 0) ["sign"] lU:=qU T
 refine T.fO.ok tQ (fun vs H Q E h=>?_) (fun cdv A outer s H vs Q E hr h=>?_)
 ·obtain⟨z,lo,hi,rfl,_⟩:=h;rfl
 ·have hu:=bA hr
  have jv:=hr.aQ
  obtain⟨z,lo,hi,rfl,g,hlo,hhi,hz,k⟩:=h
  have Mt:z.length≤sizeLine:=Nat.le_trans hz (by decide)
  refine⟨_,(aq (aP (PW.pt (j9 (cY (bP (i9 (bN K rfl) T.aI (af (pv 0) (af (II "str" T.JR) aj ak) ak)))) (j9 (iM Dh (i9 dU T.dH (af (pv 0) aj ak)) (pv 1)) (ko (iM m9 (i9 dU T.dH (af (pv 0) aj ak)) (pv 2)))))) (av (aC oX)) aE)
   (av (aC (i9 (oY K rfl rfl) T.BA (af (dW rfl (show bq ["thing", "least", "most"] (aA cI) ["sign", "thing"] 1 [0] _ from GV) (Am (pv 0)) (fun _ _ _ _=>(qM 0 (show(["sign", "thing"]:List Str).Nodup by decide +kernel))) (fun _ _ _ _=>di) (fun _ _ _ _=>(uG (kB nJ hr T.rY T.nE.kp T.rX (af (pv 0) aj ak)) (w6 (IJ cN (lQ K rfl PySem.F.plainAttrs_str PySem.F.slot_str_count PySem.F.type_str_count Qh (pv 1) (af (pv 0) aj ak)) au))))) aj bF))))),?_⟩
  refine⟨_,rfl,_,_,_,true,rfl,.str _,.inl ⟨_,rfl,rfl⟩,true,rfl,eZ ?_⟩
  refine⟨_,rfl,z,rfl,Mt,_,rfl,_,_,rfl,rfl,_,rfl,Vz (by omega) ?_⟩
  refine⟨_,rfl,z,rfl,Mt,_,rfl,_,_,rfl,rfl,_,rfl,Vz (by omega) ?_⟩
  refine⟨_,rfl,z,rfl,fun D hD=>?_⟩
  have hsz:z.cps.toList.length=z.length:=by rw[Array.length_toList];rfl
  refine An (fun i ys τ H2=>(∃ v,τ=[v,some (.str z)])∧aH H H2∧H2 D=some (.lst ys)∧ys=(List.replicate i true).map V.bl) ⟨⟨_,rfl⟩,ao hD,ah,rfl⟩ (fun i ys τ H2 _ p=>p.2.2.1) ?_ ?_
  ·rintro i c ys τ H2 hi ⟨⟨v,rfl⟩,s2,hl,rfl⟩
   have hc:c∈z.cps.toList:=List.mem_of_getElem? hi
   have hil:i < z.cps.toList.length:=(List.getElem?_eq_some_iff.mp hi).1
   refine rM ?_
   refine⟨_,rfl,c,rfl,_,rfl,qN (decide_eq_true (g.pr c hc)) ?_⟩
   refine⟨_,rfl,rfl,_,rfl,z,c,rfl,rfl,rfl,?_⟩
   have e:decide (V.int (PyProof.Rows.cnt c z.cps.toList)=V.int 1)=true:=by rw[LP g.nd hc];exact decide_eq_true rfl
   rw[e]
   refine⟨hl,?_,⟨_,rfl⟩,bg hD s2,ah,?_⟩
   ·rw[List.length_map,List.length_replicate]
    exact Nat.lt_of_lt_of_le (show i < 1001 by omega) (by decide)
   ·rw[List.replicate_succ',List.map_append];rfl
  ·rintro ys τ H2 ⟨⟨v,rfl⟩,s2,hl,rfl⟩
   refine⟨D,List.replicate _ true,rfl,bB.of hl,?_⟩
   have e:(List.replicate z.cps.toList.length true).all id=true:=by
    rw[List.all_eq_true]
    intro b hb
    exact(List.mem_replicate.mp hb).2
   rw[e]
   exact k H2 s2
def iK (C:Addr):Sp:=fun vs H Q _=>∃(x dx:Addr) (p q f:Str) (b1 b2 b3 b4:Bool),vs=.ref x :: yo p q f b1 b2 b3 b4∧H x=some (.ins C dx [])∧Gd p q f∧∀ H',H' x=some (.ins C dx (DK p q f b1 b2 b3 b4))→(∀ b o,H b=some o→b≠x→H' b=some o)→Q .non H'
theorem mh:aM P w K mg base cy 3 (ay 2) (aO 2) ["self", "parts", "quotes", "frees", "twin", "wide", "thin", "stray"] (iK (ay 58)):=by
 have jh:aM P w K mg base cy 2 (ay 1) (aO 1) ["thing", "least", "most"] lZ:=tV T
 refine T.uS.ok lX (fun vs H Q E h=>?_) (fun cdv A outer s H vs Q E hr h=>?_)
 ·obtain⟨x,dx,p,q,f,b1,b2,b3,b4,rfl,_⟩:=h;rfl
 ·have hu:=bA hr
  have jv:=hr.aQ
  obtain⟨x,dx,p,q,f,b1,b2,b3,b4,rfl,hx,g,k⟩:=h
  have hp1:=g.p1;have hp3:=g.p3;have hq2:=g.q2;have hf2:=g.f2
  refine⟨_,(aq (aP (cY (bP (kB jh hr T.jd T.fO.kp T.jc (af (pv 1) (af au (af au aj ai) ai) ak)))) (av rC) aE)
   (aq (aP (cY (bP (kB jh hr T.jd T.fO.kp T.jc (af (pv 2) (af au (af au aj ai) ai) ak)))) (av rC) aE)
   (aq (aP (cY (bP (kB jh hr T.jd T.fO.kp T.jc (af (pv 3) (af au (af au aj ai) ai) ak)))) (av rC) aE)
   (aq (oN PassesOwn.never rfl (TF K rfl (aJ (af (pv 4) (af (pv 5) (af (pv 6) (af (pv 7) aj ak) ak) ak) ak))) (qM 8 lX.nd)
   (av (aP (cY (bP (i9 (bN K rfl) T.aI (af (pv 8) (af (II "bool" T.zY) aj ak) ak)))) (av rC) aE)))
   (aq (kr (pv 0) (pv 1) rfl)
   (aq (kr (pv 0) (pv 2) rfl)
   (aq (kr (pv 0) (pv 3) rfl)
   (aq (kr (pv 0) (pv 4) rfl)
   (aq (kr (pv 0) (pv 5) rfl)
   (aq (kr (pv 0) (pv 6) rfl)
   (av (kr (pv 0) (pv 7) rfl)))))))))))),?_⟩
  refine⟨_,rfl,p,1,3,rfl,g.gp,by omega,by omega,by omega,fun H1 s1=>⟨true,rfl,eZ ?_⟩⟩
  refine⟨_,rfl,q,0,2,rfl,g.gq,by omega,by omega,by omega,fun H2 s2=>⟨true,rfl,eZ ?_⟩⟩
  refine⟨_,rfl,f,0,2,rfl,g.gf,by omega,by omega,by omega,fun H3 s3=>⟨true,rfl,eZ ?_⟩⟩
  refine⟨_,rfl,_,rfl,_,rfl,_,rfl,(by show 4≤sizeLine;decide),fun t ht=>⟨t,rfl,⟨_,ck.of ah⟩,?_⟩⟩
  have s03:aH H (upd H3 t (.tup [.bl b1,.bl b2,.bl b3,.bl b4])):=((s1.trans s2).trans s3).trans (ao ht)
  have Mu:(upd H3 t (.tup [.bl b1,.bl b2,.bl b3,.bl b4])) t=some (.tup [.bl b1,.bl b2,.bl b3,.bl b4]):=ah
  generalize upd H3 t (.tup [.bl b1,.bl b2,.bl b3,.bl b4])=H4 at s03 Mu ⊢
  refine S9 (K:=K) (a:=t) (xs:=[.bl b1,.bl b2,.bl b3,.bl b4]) (fun i σ H5=>H5=H4∧∃ v,σ=[some (.ref x),some (.str p),some (.str q),some (.str f),some (.bl b1),some (.bl b2),some (.bl b3),some (.bl b4),v]) ⟨rfl,_,rfl⟩ (fun i σ H5 _ q=>by rw[q.1];exact ck.of Mu) ?_ ?_
  ·rintro i y σ H5 hi ⟨rfl,v,rfl⟩
   obtain⟨b,rfl⟩:∃ b,y=V.bl b:=by
    have hi4:i < 4:=(List.getElem?_eq_some_iff.mp hi).1
    match i,hi4,hi with
    | 0,_,hi=>exact⟨_,(Option.some.inj hi).symm⟩
    | 1,_,hi=>exact⟨_,(Option.some.inj hi).symm⟩
    | 2,_,hi=>exact⟨_,(Option.some.inj hi).symm⟩
    | 3,_,hi=>exact⟨_,(Option.some.inj hi).symm⟩
   refine⟨_,rfl,_,_,_,true,rfl,.bl _,.inl ⟨_,rfl,rfl⟩,true,rfl,eZ ?_⟩
   exact⟨rfl,_,rfl⟩
  ·rintro σ H5 ⟨rfl,v,rfl⟩
   have hx5:=s03 _ _ hx
   refine⟨_,rfl,_,rfl,x,(ay 58),dx,_,rfl,hx5,T.aK,T.cB,(by show 0 < 1000;decide),_,rfl,_,rfl,x,(ay 58),dx,_,rfl,ah,T.aK,T.cJ,(by show 1 < 1000;decide),_,rfl,_,rfl,x,(ay 58),dx,_,rfl,ah,T.aK,T.bZ,(by show 2 < 1000;decide),_,rfl,_,rfl,x,(ay 58),dx,_,rfl,ah,T.aK,T.gP,(by show 3 < 1000;decide),
    _,rfl,_,rfl,x,(ay 58),dx,_,rfl,ah,T.aK,T.fB,(by show 4 < 1000;decide),_,rfl,_,rfl,x,(ay 58),dx,_,rfl,ah,T.aK,T.fD,(by show 5 < 1000;decide),_,rfl,_,rfl,x,(ay 58),dx,_,rfl,ah,T.aK,T.f7,(by show 6 < 1000;decide),?_⟩
   refine k _ ah fun b o e hb=>?_
   rw[aF hb,aF hb,aF hb,aF hb,aF hb,aF hb,aF hb]
   exact s03 _ _ e
def qV (C:Addr):Sp:=fun vs H Q _=>∃(x dx:Addr) (p q f:Str) (b1 b2 b3 b4:Bool),vs=[.ref x]∧H x=some (.ins C dx (DK p q f b1 b2 b3 b4))∧∀ t,H t=none→Q (.ref t) (upd H t (.tup (yo p q f b1 b2 b3 b4)))
theorem zk:aM P w K mg base cy 1 (ay 3) (aO 3) ["self"] (qV (ay 58)):=by
 refine T.Bl.ok yW (fun vs H Q E h=>?_) (fun cdv A outer s H vs Q E hr h=>?_)
 ·obtain⟨x,dx,p,q,f,b1,b2,b3,b4,rfl,_⟩:=h;rfl
 ·have hu:=bA hr
  have jv:=hr.aQ
  obtain⟨x,dx,p,q,f,b1,b2,b3,b4,rfl,hx,k⟩:=h
  refine⟨_,(av (aC (aJ (af (aU K rfl (pv 0) rfl) (af (aU K rfl (pv 0) rfl) (af (aU K rfl (pv 0) rfl) (af (aU K rfl (pv 0) rfl) (af (aU K rfl (pv 0) rfl) (af (aU K rfl (pv 0) rfl) (af (aU K rfl (pv 0) rfl) aj aV) aV) aV) aV) aV) aV) aV)))),?_⟩
  refine⟨_,rfl,x,(ay 58),dx,_,_,rfl,hx,T.aK,T.cB,rfl,_,rfl,x,(ay 58),dx,_,_,rfl,hx,T.aK,T.cJ,rfl,_,rfl,x,(ay 58),dx,_,_,rfl,hx,T.aK,T.bZ,rfl,_,rfl,x,(ay 58),dx,_,_,rfl,hx,T.aK,T.gP,rfl,_,rfl,x,(ay 58),dx,_,_,rfl,hx,T.aK,T.fB,rfl,_,rfl,x,(ay 58),dx,_,_,rfl,hx,T.aK,T.fD,rfl,_,rfl,x,(ay 58),dx,_,_,rfl,hx,T.aK,T.f7,rfl,(by show 7≤sizeLine;decide),fun t ht=>?_⟩
  exact k t ht
def uq (C:Addr):Sp:=fun vs H Q _=>∃(t:Addr) (p q f:Str) (b1 b2 b3 b4:Bool),vs=[.ref t]∧H t=some (.tup (yo p q f b1 b2 b3 b4))∧Gd p q f∧∀(x dx:Addr) (H':Hp),H x=none→H' x=some (.ins C dx (DK p q f b1 b2 b3 b4))→aH H H'→Q (.ref x) H'
theorem Cw:aM P w K mg base cy 5 (ay 4) (aO 4) ["told"] (uq (ay 58)):=by
 have ji:aM P w K mg base cy 3 (ay 2) (aO 2) ["self", "parts", "quotes", "frees", "twin", "wide", "thin", "stray"] (iK (ay 58)):=mh T
 refine T.vS.ok Cf (fun vs H Q E h=>?_) (fun cdv A outer s H vs Q E hr h=>?_)
 ·obtain⟨t,p,q,f,b1,b2,b3,b4,rfl,_⟩:=h;rfl
 ·have hu:=bA hr
  have jv:=hr.aQ
  obtain⟨t,p,q,f,b1,b2,b3,b4,rfl,ht,g,k⟩:=h
  have hS:ck K H t (yo p q f b1 b2 b3 b4):=ck.of ht
  refine⟨_,(aq (aP (PW.pt (j9 (cY (bP (i9 (Gw K rfl) T.aI (af (pv 0) (af (II "tuple" T.wu) aj ak) ak)))) (ko (iM Pw (i9 (bE K rfl) T.dH (af (pv 0) aj ak)) au)))) (av rC) aE)
   (av (aC (sY (k:=3) T.DX ji (hr.mono (by decide)) rfl T.DW T.nF .nil kc (af (oQ K (pv 0) au) (af (oQ K (pv 0) au) (af (oQ K (pv 0) au) (af (oQ K (pv 0) au) (af (oQ K (pv 0) au) (af (oQ K (pv 0) au) (af (oQ K (pv 0) au) aj aD) aD) aD) aD) aD) aD) aD))))),?_⟩
  refine⟨_,rfl,t,_,_,true,rfl,.inl ⟨hS,rfl⟩,true,rfl,eZ ?_⟩
  refine⟨_,rfl,t,_,rfl,.inr hS,rfl,_,rfl,Z7 rfl ?_⟩
  refine⟨_,rfl,t,_,_,_,rfl,rfl,hS,rfl,_,rfl,t,_,_,_,rfl,rfl,hS,rfl,_,rfl,t,_,_,_,rfl,rfl,hS,rfl,_,rfl,t,_,_,_,rfl,rfl,hS,rfl,_,rfl,t,_,_,_,rfl,rfl,hS,rfl,_,rfl,t,_,_,_,rfl,rfl,hS,rfl,_,rfl,t,_,_,_,rfl,rfl,hS,rfl,fun x dx hx hdx ne=>?_⟩
  refine⟨x,dx,p,q,f,b1,b2,b3,b4,rfl,ah,g,fun H2 h2 kp=>⟨rfl,k x dx H2 hx h2 fun b o e=>kp b o ?_ (aW e hx)⟩⟩
  rw[aF (aW e hx),aF (aW e hdx)]
  exact e
def pK (C CT:Addr):Sp:=fun vs H Q _=>∃(y dy x dx:Addr) (p q f:Str) (b1 b2 b3 b4:Bool),vs=[.ref y,.ref x]∧H y=some (.ins CT dy [])∧H x=some (.ins C dx (DK p q f b1 b2 b3 b4))∧Gd p q f∧∀ H',Tn C CT H' y p q f b1 b2 b3 b4→(∀ b o,H b=some o→b≠y→H' b=some o)→Q .non H'
theorem xR:aM P w K mg base cy 6 (ay 5) (aO 5) ["self", "dialect"] (pK (ay 58) (ay 59)):=by
 have BC:aM P w K mg base cy 1 (ay 3) (aO 3) ["self"] (qV (ay 58)):=zk T
 have ER:aM P w K mg base cy 5 (ay 4) (aO 4) ["told"] (uq (ay 58)):=Cw T
 refine T.yZ.ok xF (fun vs H Q E h=>?_) (fun cdv A outer s H vs Q E hr h=>?_)
 ·obtain⟨y,dy,x,dx,p,q,f,b1,b2,b3,b4,rfl,_⟩:=h;rfl
 ·have hu:=bA hr
  have jv:=hr.aQ
  obtain⟨y,dy,x,dx,p,q,f,b1,b2,b3,b4,rfl,hy,hx,g,k⟩:=h
  refine⟨_,(av (kr (pv 0) (kB ER hr T.EE T.vS.kp T.ED (af (Gk (k:=1) (pv 1) T.aK T.Bo BC (hr.mono (by decide)) T.Bm .nil kc) aj bR)) rfl)),?_⟩
  refine⟨_,rfl,x,dx,_,rfl,hx,rfl,x,dx,p,q,f,b1,b2,b3,b4,rfl,hx,fun t ht=>?_⟩
  have s1:=ao (o:=HO.tup (yo p q f b1 b2 b3 b4)) ht
  refine⟨t,p,q,f,b1,b2,b3,b4,rfl,ah,g,fun d dd H2 hd h2 s2=>?_⟩
  have s12:=s1.trans s2
  have nyd:d≠y:=fun e=>by subst e;rw[s1 _ _ hy] at hd;cases hd
  refine⟨_,rfl,y,(ay 59),dy,_,rfl,s12 _ _ hy,T.jH,T.bX,(by show 0 < 1000;decide),?_⟩
  refine k _ ⟨⟨dy,d,dd,ah,(aF nyd).trans h2⟩⟩ fun b o e hb=>(aF hb).trans (s12 _ _ e)
def nK (K:W.Frag) (C CT CM:Addr):Sp:=fun vs H Q _=>∃(m dm x dx l:Addr) (ys:List V) (ts:List (Str×Str)) (p q f:Str) (b1 b2 b3 b4:Bool),vs=[.ref m,.ref x,.ref l]∧H m=some (.ins CM dm [])∧H x=some (.ins C dx (DK p q f b1 b2 b3 b4))∧Gd p q f∧H l=some (.lst ys)∧Paired (jD K H) ys ts∧∀ H',wY K C CT CM H' m p q f b1 b2 b3 b4 ts→(∀ b o,H b=some o→b≠m→H' b=some o)→(∃ dm y,H' m=some (.ins CM dm (WS y l)))→Q .non H'
theorem uX:aM P w K mg base cy 8 (ay 6) (aO 6) ["self", "dialect", "tokens"] (nK K (ay 58) (ay 59) (ay 60)):=by
 have zl:aM P w K mg base cy 6 (ay 5) (aO 5) ["self", "dialect"] (pK (ay 58) (ay 59)):=xR T
 refine T.vU.ok uP (fun vs H Q E h=>?_) (fun cdv A outer s H vs Q E hr h=>?_)
 ·obtain⟨m,dm,x,dx,l,ys,ts,p,q,f,b1,b2,b3,b4,rfl,_⟩:=h;rfl
 ·have hu:=bA hr
  have jv:=hr.aQ
  obtain⟨m,dm,x,dx,l,ys,ts,p,q,f,b1,b2,b3,b4,rfl,hm,hx,g,hl,tp,k⟩:=h
  refine⟨_,(aq (kr (pv 0) (sY (k:=6) T.Xa zl (hr.mono (by decide)) rfl T.W9 T.za .nil kc (af (pv 1) aj ak)) rfl)
   (av (kr (pv 0) (pv 2) rfl))),?_⟩
  refine⟨_,rfl,fun y dy hy Zq ne=>⟨y,dy,x,dx,p,q,f,b1,b2,b3,b4,rfl,ah,lI hy Zq hx,g,fun H2 hT kp=>⟨rfl,?_⟩⟩⟩
  have s2:=tD hy Zq kp
  have hm2:=s2 _ _ hm
  refine⟨_,rfl,m,(ay 60),dm,_,rfl,hm2,T.ie,T.kQ,(by show 0 < 1000;decide),?_⟩
  refine⟨_,rfl,_,rfl,m,(ay 60),dm,_,rfl,ah,T.ie,T.f9,(by show 1 < 1000;decide),?_⟩
  have nlm:l≠m:=fun q=>by rw[q,hm] at hl;cases hl
  refine k _ ⟨dm,y,l,ys,ah,?_,(aF nlm).trans ((aF nlm).trans (s2 _ _ hl)),rQ ah (rQ hm2 (kD s2 tp))⟩ (fun b o e hb=>(aF hb).trans ((aF hb).trans (s2 _ _ e))) ⟨dm,y,ah⟩
  refine Tn.off ah ?_ ?_ (Tn.off hm2 ?_ ?_ hT)
  ·intro d fs q;injection q with q1 q2 q3;injection q3 with q4 q5;injection q4 with q6 q7;exact absurd q6 (by decide +kernel)
  ·intro d q;injection q with q1 q2 q3;injection q3 with q4 q5;injection q4 with q6 q7;exact absurd q6 (by decide +kernel)
  ·intro d fs q;injection q with q1 q2 q3;cases q3
  ·intro d q;injection q with q1 q2 q3;cases q3
def pL (K:W.Frag):Sp:=fun vs H Q _=>∃(a:Addr) (r:List Str),vs=[.ref a]∧H a=some (.lst (r.map V.str))∧r.length≤20∧(lens r).sum≤400∧∀(l:Addr) (ys:List V) H',H l=none→H' l=some (.lst ys)→Paired (jD K H') ys (AQ r)→aH H H'→Q (.ref l) H'
theorem xS:aM P w K mg base cy 1 (ay 7) (aO 7) ["row"] (pL K):=by
 refine T.qQ.ok ia (fun vs H Q E h=>?_) (fun cdv A outer s H vs Q E hr h=>?_)
 ·obtain⟨a,r,rfl,_⟩:=h;rfl
 ·have hu:=bA hr
  have jv:=hr.aQ
  obtain⟨a,r,rfl,ha,hr,hs,k⟩:=h
  refine⟨_,(aq (lA 1 ia.nd (bh aj) (hs:=kM))
   (aq (oN PassesOwn.never rfl (Ql K rfl rfl T.EN (af (pv 0) aj ak)) (sZ K rfl 2 rfl (fT (qM 2 ia.nd) (fT (qM 3 ia.nd) sX)))
   (aq (aP (iM m9 (pv 2) au) (av (kL (lQ K rfl PySem.F.plainAttrs_list PySem.F.slot_list_append PySem.F.type_list_append mR (pv 1) (af (dj rfl T.UA) aj ak)))) aE)
   (av (kL (lQ K rfl PySem.F.plainAttrs_list PySem.F.slot_list_extend PySem.F.type_list_extend Ds (pv 1) (af (dW rfl (show bq ["row", "tokens", "place", "cell"] (aA dO) ["sign"] 1 [] _ from GV) (Am (pv 3)) (fun _ _ _ _=>(qM 0 L4)) (fun _ _ _ _=>di) (fun _ _ _ _=>(aJ (af aB (af (pv 0) aj ak) ai)))) aj bF))))))
   (aq (kL (lQ K rfl PySem.F.plainAttrs_list PySem.F.slot_list_append PySem.F.type_list_append mR (pv 1) (af (dj rfl T.Xh) aj ak)))
   (av (aC (pv 1)))))),?_⟩
  refine⟨by decide,fun l hl=>?_⟩
  have s0:=ao (o:=HO.lst []) hl
  have aaN:∀ n,n≤r.length→(AO r n).length≤420:=fun n hn=>by
   have:=AR r n hn
   have h2:(lens (r.take n)).sum≤(lens r).sum:=by
    unfold lens;rw[List.map_take];exact rK _ _
   omega
  refine⟨_,rfl,a,rfl,⟨_,bB.of (s0 _ _ ha)⟩,?_⟩
  refine Qm (K:=K) (a:=a) (xs:=r.map V.str) (fun i σ H2=>(∃ v1 v2,σ=[some (.ref a),some (.ref l),v1,v2])∧aH H H2∧∃ ys,H2 l=some (.lst ys)∧Paired (jD K H2) ys (AO r i)) ⟨⟨_,_,rfl⟩,s0,[],ah,.nil⟩ (fun i σ H2 _ q=>bB.of (q.2.1 _ _ ha)) ?_ ?_
  ·rintro i e t σ H2 hi ht ⟨⟨v1,v2,rfl⟩,s2,ys,hy,hp⟩
   have hil:i < r.length:=by
    have:=(List.getElem?_eq_some_iff.mp hi).1
    rwa [List.length_map] at this
   rw[List.getElem?_map] at hi
   cases hz:r[i]? with
   | none=>rw[hz] at hi;cases hi
   | some z =>
    rw[hz] at hi
    cases hi
    have Xj:z.length≤400:=Nat.le_trans (AM (List.mem_of_getElem? hz)) hs
    have st:=ao (o:=HO.tup [.int (i:Int),.str z]) ht
    have hb:=aaN i (by omega)
    have hyl:=hp.length
    refine⟨t,_,rfl,ck.of ah,rfl,_,_,rfl,_,_,rfl,rfl,?_⟩
    have hy1:=st _ _ hy
    have hp1:=bz (fun a b h=>jD.mono st h) hp
    have Xk:=s2.trans st
    generalize upd H2 t (HO.tup [.int (i:Int),.str z])=H3 at st hy1 hp1 Xk ⊢
    clear hp hy s2 st
    refine DM (t:=VV _ _ _) (fun σ' H'=>σ'=[some (.ref a),some (.ref l),some (.int (i:Int)),some (.str z)]∧aH H H'∧∃ ws,H' l=some (.lst ws)∧Paired (jD K H') ws (AO r i++(if i=0 then [] else [Me]))) ?_ (fun go=>?_)
    rotate_left
    ·refine⟨_,rfl,_,_,rfl,rfl,_,rfl,dh (fun h=>?_) (fun h=>?_)⟩
     ·have h0:(0:Int) < i:=of_decide_eq_true h
      refine⟨_,rfl,.inl ⟨rfl,_,bB.of hy1⟩,l,ys,_,rfl,rfl,hy1,Nat.lt_of_le_of_lt (show ys.length≤420 by omega) (by decide),go _ _ ⟨rfl,bg hl Xk,_,ah,?_⟩⟩
      rw[if_neg (by omega)]
      exact bz (fun a b h=>jD.but hy1 h) (nY hp1 ⟨(ay 87),rfl,.inr T.UB⟩)
     ·have h0:i=0:=by
       have:¬(0:Int) < i:=fun q=>h (decide_eq_true q)
       omega
      refine go _ _ ⟨rfl,Xk,ys,hy1,?_⟩
      rw[if_pos h0,List.append_nil]
      exact hp1
    clear hy1 hp1 Xk hyl
    rintro σ' H4 ⟨rfl,s4,ws,hw,hpw⟩
    have hwl:=hpw.length
    have aiv:ws.length≤421:=by
     rw[hwl,List.length_append]
     split
     ·simp;omega
     ·show _+1≤421;omega
    refine⟨_,rfl,.inl ⟨rfl,_,bB.of hw⟩,_,rfl,z,rfl,fun D hD=>?_⟩
    refine An (fun j zs τ H5=>(∃ v,τ=[v])∧aH H4 H5∧H5 D=some (.lst zs)∧Paired (jD K H5) zs ((z.cps.toList.take j).map fun c=>(Str.ofString "put",sg c))) ⟨⟨_,rfl⟩,ao hD,ah,.nil⟩ (fun j zs τ H5 _ p=>p.2.2.1) ?_ ?_
    ·rintro j c zs τ H5 hj ⟨⟨v,rfl⟩,s5,h5,Zu⟩
     have hjl:j < z.cps.toList.length:=(List.getElem?_eq_some_iff.mp hj).1
     rw[Array.length_toList] at hjl
     have hjl:j < z.length:=hjl
     have Mt:=Zu.length
     rw[List.length_map,List.length_take] at Mt
     refine rM ?_
     refine⟨_,rfl,(by show 2≤sizeLine;decide),fun u hu5=>?_⟩
     have s6:=ao (o:=HO.tup [.str ("put":Str),.str (sg c)]) hu5
     refine⟨s6 _ _ h5,Nat.lt_of_le_of_lt (show zs.length≤400 by omega) (by decide),⟨_,rfl⟩,bg hD (s5.trans s6),ah,?_⟩
     rw[aY hj,List.map_append]
     exact bz (fun a b h=>jD.but (s6 _ _ h5) h) (nY (bz (fun a b h=>jD.mono s6 h) Zu) ⟨u,rfl,ck.of ah⟩)
    ·rintro zs τ H5 ⟨⟨v,rfl⟩,s5,h5,Zu⟩
     rw[List.take_of_length_le (Nat.le_refl _)] at Zu
     have Mt:=Zu.length
     rw[List.length_map,Array.length_toList] at Mt
     have Mt:zs.length=z.length:=Mt
     have hw5:=s5 _ _ hw
     refine⟨l,D,ws,zs,rfl,rfl,hw5,h5,Nat.le_trans (show ws.length+zs.length≤1000 by omega) (by decide),⟨_,_,rfl⟩,bg hl (s4.trans s5),_,ah,?_⟩
     rw[DN hz,←List.append_assoc]
     exact bz (fun a b h=>jD.but hw5 h) (eV (bz (fun a b h=>jD.mono s5 h) hpw) Zu)
  ·rintro σ H2 ⟨⟨v1,v2,rfl⟩,s2,ys,hy,hp⟩
   rw[List.length_map] at hp
   have hb:=aaN r.length (Nat.le_refl _)
   have hyl:=hp.length
   refine⟨_,rfl,.inl ⟨rfl,_,bB.of hy⟩,l,ys,_,rfl,rfl,hy,Nat.lt_of_le_of_lt (show ys.length≤420 by omega) (by decide),?_⟩
   refine⟨_,rfl,k l _ _ hl ah ?_ (bg hl s2)⟩
   exact bz (fun a b h=>jD.but hy h) (nY hp ⟨(ay 88),rfl,.inr T.Xi⟩)
def nL:Sp:=fun vs H Q _=>∃ z:Str,vs=[.str z]∧z.length≤2000∧∀ H',aH H H'→Q (.bl (textOk z)) H'
theorem uY:aM P w K mg base cy 2 (ay 8) (aO 8) ["text"] nL:=by
 have nJ:aM P w K mg base cy 1 (ay 0) (aO 0) ["sign"] lU:=qU T
 refine T.n8.ok uQ (fun vs H Q E h=>?_) (fun cdv A outer s H vs Q E hr h=>?_)
 ·obtain⟨z,rfl,_⟩:=h;rfl
 ·have hu:=bA hr
  have jv:=hr.aQ
  obtain⟨z,rfl,hz,k⟩:=h
  refine⟨_,(av (aC (i9 (oY K rfl rfl) T.BA (af (dW rfl (show bq ["text"] (aA cV) ["sign"] 1 [] _ from GV) (Am (pv 0)) (fun _ _ _ _=>(qM 0 L4)) (fun _ _ _ _=>di) (fun _ _ _ _=>(ZK (IJ cN (pv 0) (qe rfl T.qx.choose_spec)) (w6 (kB nJ hr T.rY T.nE.kp T.rX (af (pv 0) aj ak)))))) aj bF)))),?_⟩
  refine⟨_,rfl,z,rfl,fun D hD=>?_⟩
  have hsz:z.cps.toList.length=z.length:=by rw[Array.length_toList];rfl
  refine An (fun i ys τ H2=>(∃ v,τ=[v])∧aH H H2∧H2 D=some (.lst ys)∧ys=((z.cps.toList.take i).map L7).map V.bl) ⟨⟨_,rfl⟩,ao hD,ah,rfl⟩ (fun i ys τ H2 _ p=>p.2.2.1) ?_ ?_
  ·rintro i c ys τ H2 hi ⟨⟨v,rfl⟩,s2,hl,rfl⟩
   have hil:i < z.cps.toList.length:=(List.getElem?_eq_some_iff.mp hi).1
   have hlen:(((z.cps.toList.take i).map L7).map V.bl).length < sizeLine:=by
    rw[List.length_map,List.length_map,List.length_take]
    exact Nat.lt_of_le_of_lt (show min i z.cps.toList.length≤2000 by omega) (by decide)
   have fin:∀ b,b=L7 c→H2 D=some (.lst (((z.cps.toList.take i).map L7).map V.bl))∧(((z.cps.toList.take i).map L7).map V.bl).length < sizeLine∧(∃ v,[some (V.str (sg c))]=[v])∧aH H (upd H2 D (.lst (((z.cps.toList.take i).map L7).map V.bl++[.bl b])))∧(upd H2 D (.lst (((z.cps.toList.take i).map L7).map V.bl++[.bl b]))) D=some (.lst (((z.cps.toList.take i).map L7).map V.bl++[.bl b]))∧((z.cps.toList.take i).map L7).map V.bl++[.bl b]=((z.cps.toList.take (i+1)).map L7).map V.bl:=fun b hb=>by
    refine⟨hl,hlen,⟨_,rfl⟩,bg hD s2,ah,?_⟩
    rw[aY hi,List.map_append,List.map_append,hb];rfl
   refine rM ?_
   refine⟨_,rfl,rfl,_,rfl,dh (fun h=>?_) (fun h=>?_)⟩
   ·have h:decide (V.str (sg c)=V.str (B6 0))=true:=h
    have hc:c=10:=by
     have e:=of_decide_eq_true h
     rw[T.oi] at e
     have e2:sg c=sg 10:=(V.str.inj e).trans (by decide +kernel)
     have:=congrArg (fun z:Str=>z.cps.toList) e2
     exact(List.cons.inj (show [c]=[10] from this)).1
    exact fin true (by rw[hc];exact(decide_eq_true (.inl rfl)).symm)
   ·have hc:c≠10:=sgL T.oi h
    refine⟨_,rfl,c,rfl,fin _ ?_⟩
    unfold L7
    by_cases hp:Pn c
    ·rw[decide_eq_true hp,decide_eq_true (.inr hp)]
    ·rw[decide_eq_false hp,decide_eq_false (fun z=>z.elim hc hp)]
  ·rintro ys τ H2 ⟨⟨v,rfl⟩,s2,hl,rfl⟩
   refine⟨D,(z.cps.toList.take z.cps.toList.length).map L7,rfl,bB.of hl,?_⟩
   have e:((z.cps.toList.take z.cps.toList.length).map L7).all id=textOk z:=by
    rw[List.take_of_length_le (Nat.le_refl _),List.all_map];rfl
   rw[e]
   exact k H2 s2
def BD (K:W.Frag):Sp:=fun vs H Q _=>∃(N:Addr→Prop) (n:Nat) (v:V) (t:Tr),vs=[v]∧Rp N n H v t∧∀ H',aH H H'→Q (.bl (iT t)) H'
theorem JS:aM P w K mg base cy 3 (ay 9) (aO 9) ["thing"] (BD K):=by
 have wz:aM P w K mg base cy 2 (ay 8) (aO 8) ["text"] nL:=uY T
 refine T.DT.ok JH (fun vs H Q E h=>?_) (fun cdv A outer s H vs Q E hr h=>?_)
 ·obtain⟨N,n,v,t,rfl,_⟩:=h;rfl
 ·have hu:=bA hr
  have jv:=hr.aQ
  obtain⟨N,n,v,t,rfl,hv,k⟩:=h
  refine⟨_,(aq (aP (PW.pt (j9 (cY (bP (i9 (bN K rfl) T.aI (af (pv 0) (af (II "str" T.JR) aj ak) ak)))) (ko (iM m9 (i9 dU T.dH (af (pv 0) aj ak)) (mE rfl T.jQ.choose_spec))))) (av (aC oX)) aE)
   (av (aC (kB wz hr T.vW T.n8.kp T.vV (af (pv 0) aj ak))))),?_⟩
  rcases hv.Ew K with ⟨z,rfl,rfl,hz⟩ | ⟨ty,hty,ht,e⟩
  ·refine⟨_,rfl,_,_,_,true,rfl,.str _,.inl ⟨_,rfl,rfl⟩,true,rfl,eZ ⟨_,rfl,z,rfl,Nat.le_trans hz (by decide),_,_,rfl,rfl,_,rfl,MZ (fun h1=>?_) (fun h1=>?_)⟩⟩
   ·have e:iT (.leaf (.str z))=false:=by
     show(decide (z.length≤400) && textOk z)=false
     rw[decide_eq_false (by omega)];rfl
    rw[e] at k
    exact k H (aH.refl H)
   ·have e:iT (.leaf (.str z))=textOk z:=by
     show(decide (z.length≤400) && textOk z)=_
     rw[decide_eq_true (by omega)];rfl
    rw[e] at k
    exact⟨_,rfl,z,rfl,by omega,k⟩
  ·rw[e] at k
   exact⟨_,rfl,_,_,_,false,rfl,hty,.inl ⟨_,rfl,ht⟩,false,rfl,gj (k H (aH.refl H))⟩
def DZ (K:W.Frag):Sp:=fun vs H Q _=>∃(N:Addr→Prop) (n:Nat) (v:V) (t:Tr),vs=[v]∧Rp N n H v t∧∀ H',aH H H'→Q (.bl (rV t)) H'
theorem Nt:aM P w K mg base cy 4 (ay 10) (aO 10) ["thing"] (DZ K):=by
 have Nu:aM P w K mg base cy 3 (ay 9) (aO 9) ["thing"] (BD K):=JS T
 refine T.Hj.ok Ni (fun vs H Q E h=>?_) (fun cdv A outer s H vs Q E hr h=>?_)
 ·obtain⟨N,n,v,t,rfl,_⟩:=h;rfl
 ·have hu:=bA hr
  have jv:=hr.aQ
  obtain⟨N,n,v,t,rfl,hv,k⟩:=h
  refine⟨_,(aq (aP (PW.pt (j9 (cY (bP (i9 (bN K rfl) T.aI (af (pv 0) (af (II "list" T.wo) aj ak) ak)))) (j9 (iM Dh (i9 (bE K rfl) T.dH (af (pv 0) aj ak)) au) (ko (iM m9 (i9 (bE K rfl) T.dH (af (pv 0) aj ak)) (mE rfl T.Cv.choose_spec)))))) (av (aC oX)) aE)
   (av (aC (i9 (oY K rfl rfl) T.BA (af (dW rfl (show bq ["thing"] (aA o8) ["cell"] 1 [] _ from GV) (cE K rfl (pv 0)) (fun _ _ _ _=>(qM 0 L4)) (fun _ _ _ _=>di) (fun _ _ _ _=>(kB Nu hr T.Nk T.DT.kp T.Nj (af (pv 0) aj ak)))) aj bF))))),?_⟩
  rcases hv.iX K with ⟨m,a,xs,ts,rfl,rfl,rfl,ha,hN,El,ps⟩ | ⟨ty,hty,ht,rfl,_⟩
  rotate_left
  ·exact⟨_,rfl,_,_,_,false,rfl,hty,.inl ⟨_,rfl,ht⟩,false,rfl,gj (k H (aH.refl H))⟩
  have hlx:=ps.length
  refine⟨_,rfl,_,_,_,true,rfl,.lst ha,.inl ⟨_,rfl,rfl⟩,true,rfl,eZ ?_⟩
  refine⟨_,rfl,a,_,rfl,.inl (bB.of ha),_,_,rfl,rfl,_,rfl,MZ (fun h1=>?_) (fun h1=>?_)⟩
  ·have e:rV (.list ts)=false:=by
    show(decide (1≤ts.length∧ts.length≤20) && ts.all iT)=false
    rw[decide_eq_false (by omega)];rfl
   rw[e] at k
   exact gj (k H (aH.refl _))
  refine⟨_,rfl,a,_,rfl,.inl (bB.of ha),_,_,rfl,rfl,_,rfl,MZ (fun h2=>?_) (fun h2=>?_)⟩
  ·have e:rV (.list ts)=false:=by
    show(decide (1≤ts.length∧ts.length≤20) && ts.all iT)=false
    rw[decide_eq_false (by omega)];rfl
   rw[e] at k
   exact k H (aH.refl _)
  have e:rV (.list ts)=ts.all iT:=by
   show(decide (1≤ts.length∧ts.length≤20) && ts.all iT)=_
   rw[decide_eq_true (by omega)];rfl
  rw[e] at k
  clear e
  refine⟨_,rfl,a,rfl,⟨_,bB.of ha⟩,fun D hD=>?_⟩
  refine dB (K:=K) (a:=a) (xs:=xs) (fun i ys τ H2=>(∃ v,τ=[v])∧aH H H2∧H2 D=some (.lst ys)∧ys=((ts.take i).map iT).map V.bl) ⟨⟨_,rfl⟩,ao hD,ah,rfl⟩ (fun i ys τ H2 _ p=>⟨bB.of (p.2.1 _ _ ha),p.2.2.1⟩) ?_ ?_
  ·rintro i e ys τ H2 hi ⟨⟨v,rfl⟩,s2,hl,rfl⟩
   have hil:i < xs.length:=(List.getElem?_eq_some_iff.mp hi).1
   obtain⟨r,hr,hb⟩:=bD ps i e hi
   refine rM ?_
   refine⟨_,rfl,N,m,e,r,rfl,hb.mono s2 (fun _ z=>z),fun H3 s3=>⟨s3 _ _ hl,?_,⟨_,rfl⟩,bg hD (s2.trans s3),ah,?_⟩⟩
   ·rw[List.length_map,List.length_map,List.length_take]
    exact Nat.lt_of_le_of_lt (show _≤1000 by omega) (by decide)
   ·rw[aY hr,List.map_append,List.map_append];rfl
  ·rintro ys τ H2 ⟨⟨v,rfl⟩,s2,hl,rfl⟩
   rw[hlx,List.take_of_length_le (Nat.le_refl _)] at hl
   refine⟨D,ts.map iT,rfl,bB.of hl,?_⟩
   have ea:(ts.map iT).all id=ts.all iT:=by rw[List.all_map];rfl
   rw[ea]
   exact k H2 s2
def qW (K:W.Frag):Sp:=fun vs H Q _=>∃(a:Addr) (r:List Str),vs=[.ref a]∧H a=some (.lst (r.map V.str))∧r.length≤20∧(∀ c∈r,c.length≤400)∧∀ H',aH H H'→Q (.int ((lens r).sum:Nat)) H'
theorem zm:aM P w K mg base cy 1 (ay 11) (aO 11) ["row"] (qW K):=by
 refine T.rZ.ok yX (fun vs H Q E h=>?_) (fun cdv A outer s H vs Q E hr h=>?_)
 ·obtain⟨a,r,rfl,_⟩:=h;rfl
 ·have hu:=bA hr
  have jv:=hr.aQ
  obtain⟨a,r,rfl,ha,hr,hs,k⟩:=h
  have hsum:(lens r).sum≤8000:=by
   have h1:=vO hs
   omega
  refine⟨_,(av (aC (i9 (mS K rfl rfl) T.xQ (af (dW rfl (show bq ["row"] (aA fm) ["cell"] 1 [] _ from GV) (cE K rfl (pv 0)) (fun _ _ _ _=>(qM 0 L4)) (fun _ _ _ _=>di) (fun _ _ _ _=>(i9 dU T.dH (af (pv 0) aj ak)))) aj bF)))),?_⟩
  refine⟨_,rfl,a,rfl,⟨_,bB.of ha⟩,fun D hD=>?_⟩
  refine dB (K:=K) (a:=a) (xs:=r.map V.str) (fun i ys τ H2=>(∃ v,τ=[v])∧aH H H2∧H2 D=some (.lst ys)∧ys=((lens r).take i).map fun n:Nat=>V.int n) ⟨⟨_,rfl⟩,ao hD,ah,rfl⟩ (fun i ys τ H2 _ p=>⟨bB.of (p.2.1 _ _ ha),p.2.2.1⟩) ?_ ?_
  ·rintro i e ys τ H2 hi ⟨⟨v,rfl⟩,s2,hl,rfl⟩
   rw[List.getElem?_map] at hi
   cases hz:r[i]? with
   | none=>rw[hz] at hi;cases hi
   | some z =>
    rw[hz] at hi
    cases hi
    have hzr:=List.mem_of_getElem? hz
    have Xj:=hs z hzr
    refine rM ?_
    refine⟨_,rfl,z,rfl,Nat.le_trans Xj (by decide),hl,?_,⟨_,rfl⟩,bg hD s2,ah,?_⟩
    ·rw[List.length_map,List.length_take]
     unfold lens;rw[List.length_map]
     exact Nat.lt_of_le_of_lt (show _≤20 by omega) (by decide)
    ·rw[aY (l:=lens r) (c:=z.length) (by unfold lens;rw[List.getElem?_map,hz];rfl),List.map_append];rfl
  ·rintro ys τ H2 ⟨⟨v,rfl⟩,s2,hl,rfl⟩
   refine⟨D,lens r,rfl,?_,by omega,k H2 s2⟩
   have e:(lens r).take (r.map V.str).length=lens r:=List.take_of_length_le (by unfold lens;rw[List.length_map,List.length_map];exact Nat.le_refl _)
   rw[e] at hl
   exact bB.of hl
def yG (K:W.Frag):Sp:=fun vs H Q _=>∃(N:Addr→Prop) (n:Nat) (v:V) (t:Tr),vs=[v]∧Rp N n H v t∧∀ H',aH H H'→Q (.bl (tP t)) H'
theorem HF:aM P w K mg base cy 5 (ay 12) (aO 12) ["thing"] (yG K):=by
 have R0:aM P w K mg base cy 4 (ay 10) (aO 10) ["thing"] (DZ K):=Nt T
 have BE:aM P w K mg base cy 1 (ay 11) (aO 11) ["row"] (qW K):=zm T
 refine T.Br.ok Hg (fun vs H Q E h=>?_) (fun cdv A outer s H vs Q E hr h=>?_)
 ·obtain⟨N,n,v,t,rfl,_⟩:=h;rfl
 ·have hu:=bA hr
  have jv:=hr.aQ
  obtain⟨N,n,v,t,rfl,hv,k⟩:=h
  refine⟨_,(aq (aP (PW.pt (j9 (cY (bP (i9 (bN K rfl) T.aI (af (pv 0) (af (II "list" T.wo) aj ak) ak)))) (ko (iM m9 (i9 (bE K rfl) T.dH (af (pv 0) aj ak)) (mE rfl T.EO.choose_spec))))) (av (aC oX)) aE)
   (aq (aP (cY (bP (i9 (oY K rfl rfl) T.BA (af (dW rfl (show bq ["thing"] (aA ja) ["row"] 1 [] _ from GV) (cE K rfl (pv 0)) (fun _ _ _ _=>(qM 0 L4)) (fun _ _ _ _=>di) (fun _ _ _ _=>(kB R0 hr T.RK T.Hj.kp T.RJ (af (pv 0) aj ak)))) aj bF)))) (av (aC oX)) aE)
   (av (aC (IJ Px (i9 (mS K rfl rfl) T.xQ (af (dW rfl (show bq ["thing"] (aA ja) ["row"] 1 [] _ from GV) (cE K rfl (pv 0)) (fun _ _ _ _=>(qM 0 L4)) (fun _ _ _ _=>di) (fun _ _ _ _=>(kB BE hr T.Bq T.rZ.kp T.Bp (af (pv 0) aj ak)))) aj bF)) (mE rfl T.jQ.choose_spec)))))),?_⟩
  rcases hv.iX K with ⟨m,a,xs,ts,rfl,rfl,rfl,ha,hN,El,ps⟩ | ⟨ty,hty,ht,rfl,_⟩
  rotate_left
  ·exact⟨_,rfl,_,_,_,false,rfl,hty,.inl ⟨_,rfl,ht⟩,false,rfl,gj (k H (aH.refl H))⟩
  have hlx:=ps.length
  refine⟨_,rfl,_,_,_,true,rfl,.lst ha,.inl ⟨_,rfl,rfl⟩,true,rfl,eZ ?_⟩
  have ek:tP (.list ts)=(decide (ts.length≤60) && ts.all rV && decide ((ts.map xE).sum≤400)):=rfl
  refine⟨_,rfl,a,_,rfl,.inl (bB.of ha),_,_,rfl,rfl,_,rfl,MZ (fun h1=>?_) (fun h1=>?_)⟩
  ·rw[ek,decide_eq_false (by omega)] at k
   exact k H (aH.refl _)
  refine⟨_,rfl,a,rfl,⟨_,bB.of ha⟩,fun D hD=>?_⟩
  refine dB (K:=K) (a:=a) (xs:=xs) (fun i ys τ H2=>(∃ v,τ=[v])∧aH H H2∧H2 D=some (.lst ys)∧ys=((ts.take i).map rV).map V.bl) ⟨⟨_,rfl⟩,ao hD,ah,rfl⟩ (fun i ys τ H2 _ p=>⟨bB.of (p.2.1 _ _ ha),p.2.2.1⟩) ?_ ?_
  ·rintro i e ys τ H2 hi ⟨⟨v,rfl⟩,s2,hl,rfl⟩
   have hil:i < xs.length:=(List.getElem?_eq_some_iff.mp hi).1
   obtain⟨r,hr,hb⟩:=bD ps i e hi
   refine rM ?_
   refine⟨_,rfl,N,m,e,r,rfl,hb.mono s2 (fun _ z=>z),fun H3 s3=>⟨s3 _ _ hl,?_,⟨_,rfl⟩,bg hD (s2.trans s3),ah,?_⟩⟩
   ·rw[List.length_map,List.length_map,List.length_take]
    exact Nat.lt_of_le_of_lt (show _≤1000 by omega) (by decide)
   ·rw[aY hr,List.map_append,List.map_append];rfl
  ·rintro ys τ H2 ⟨⟨v,rfl⟩,s2,hl,rfl⟩
   rw[hlx,List.take_of_length_le (Nat.le_refl _)] at hl
   refine⟨D,ts.map rV,rfl,bB.of hl,?_⟩
   have ea:(ts.map rV).all id=ts.all rV:=by rw[List.all_map];rfl
   rw[ea]
   cases hA:ts.all rV with
   | false =>
    rw[ek,hA,Bool.and_false] at k
    exact⟨_,rfl,gj (k H2 s2)⟩
   | true =>
    rw[ek,hA,decide_eq_true (by omega)] at k
    obtain⟨t,rfl,tr⟩:=Ey K ps hA
    rw[Mj] at k
    have tl:=RB (t:=t) (Bb (fun a b ⟨_,_,_,q⟩=>q) tr)
    have htl:t.length≤60:=by rw[List.length_map] at hlx;omega
    refine⟨true,rfl,eZ ?_⟩
    clear hl
    have ha2:=s2 _ _ ha
    refine⟨_,rfl,a,rfl,⟨_,bB.of ha2⟩,fun E hE=>?_⟩
    refine dB (K:=K) (a:=a) (xs:=xs) (fun i ys τ H3=>(∃ v,τ=[v])∧aH H2 H3∧H3 E=some (.lst ys)∧ys=((t.map fun r=>(lens r).sum).take i).map fun n:Nat=>V.int n) ⟨⟨_,rfl⟩,ao hE,ah,rfl⟩ (fun i ys τ H3 _ p=>⟨bB.of (p.2.1 _ _ ha2),p.2.2.1⟩) ?_ ?_
    ·rintro i e ys τ H3 hi ⟨⟨v,rfl⟩,s3,hl,rfl⟩
     obtain⟨r,hr,b,rfl,hb,aaO,hr4⟩:=bD tr i e hi
     have hil:i < xs.length:=(List.getElem?_eq_some_iff.mp hi).1
     refine rM ?_
     refine⟨_,rfl,b,r,rfl,s3 _ _ (s2 _ _ hb),aaO,hr4,fun H4 s4=>⟨s4 _ _ hl,?_,⟨_,rfl⟩,bg hE (s3.trans s4),ah,?_⟩⟩
     ·rw[List.length_map,List.length_take,List.length_map]
      exact Nat.lt_of_le_of_lt (show _≤60 by omega) (by decide)
     ·rw[aY (l:=t.map fun r=>(lens r).sum) (c:=(lens r).sum) (by rw[List.getElem?_map,hr];rfl),List.map_append];rfl
    ·rintro ys τ H3 ⟨⟨v,rfl⟩,s3,hl,rfl⟩
     have e:(t.map fun r=>(lens r).sum).take xs.length=t.map fun r=>(lens r).sum:=List.take_of_length_le (by rw[List.length_map,hlx,List.length_map];exact Nat.le_refl _)
     rw[e] at hl
     refine⟨E,t.map fun r=>(lens r).sum,rfl,bB.of hl,by omega,_,_,rfl,rfl,?_⟩
     have e2:decide ((((t.map fun r=>(lens r).sum).sum:Nat):Int)≤400)=decide ((t.map fun r=>(lens r).sum).sum≤400):=decide_eq_decide.mpr (by omega)
     have q:=k H3 (s2.trans s3)
     rw[show((true && true) && decide ((t.map fun r=>(lens r).sum).sum≤400))=decide ((t.map fun r=>(lens r).sum).sum≤400) from rfl,←e2] at q
     exact q
def sL (K:W.Frag) (CN:Addr):Sp:=fun vs H Q E=>∃(N:Addr→Prop) (n:Nat) (v:V) (u:Tr),vs=[v]∧Rp N n H v u∧(tP u=true→∀ H',aH H H'→Q .non H')∧(tP u=false→∀ H',aH H H'→E (.ref CN) none H')
theorem BF:aM P w K mg base (zV P w) 6 (ay 13) (aO 13) ["thing"] (sL K (ay 66)):=by
 have JT:aM P w K mg base cy 5 (ay 12) (aO 12) ["thing"] (yG K):=HF T
 refine T.uc.okE Be (fun vs H Q E h=>?_) (fun cdv A outer s H vs Q E hr h=>?_)
 ·obtain⟨N,n,v,u,rfl,_⟩:=h;rfl
 ·have hu:=bA hr
  have jv:=hr.aQ
  obtain⟨N,n,v,u,rfl,hv,k,kE⟩:=h
  refine⟨_,(av (aP (cY (bP (kB JT hr T.JK T.Br.kp T.JJ (af (pv 0) aj ak)))) (av (GL rfl T.cX (.inr ⟨_,_,rfl,T.az⟩) rfl T.DY (af aB aj ai))) aE)),?_⟩
  refine⟨_,rfl,N,n,v,u,rfl,hv,fun H1 s1=>⟨_,rfl,?_⟩⟩
  by_cases hT:tP u=true
  ·exact Q8 hT (k hT H1 s1)
  ·exact Q9 (rP hT) ⟨by decide,kE (rP hT) H1 s1⟩
def qy (K:W.Frag) (CN:Addr):Sp:=fun vs H Q E=>(∃(a:Addr) (xs:List V) (t:List (List Str)),vs=[.ref a]∧H a=some (.lst xs)∧Paired (kC H) xs t∧TabOk t∧∀(l:Addr) (ys:List V) H',H l=none→H' l=some (.lst ys)→Paired (jD K H') ys (cQ t)→aH H H'→Q (.ref l) H')∨(∃(N:Addr→Prop) (n:Nat) (v:V) (u:Tr),vs=[v]∧Rp N n H v u∧tP u=false∧∀ H',aH H H'→E (.ref CN) none H')
theorem wA:aM P w K mg base (zV P w) 7 (ay 14) (aO 14) ["table"] (qy K (ay 66)):=by
 have Cy:aM P w K mg base (zV P w) 6 (ay 13) (aO 13) ["thing"] (sL K (ay 66)):=BF T
 have zo:aM P w K mg base cy 1 (ay 7) (aO 7) ["row"] (pL K):=xS T
 refine T.r8.okE qk (fun vs H Q E h=>?_) (fun cdv A outer s H vs Q E hr h=>?_)
 ·rcases h with ⟨a,xs,t,rfl,_⟩ | ⟨N,n,v,u,rfl,_⟩ <;> rfl
 ·have hu:=bA hr
  have jv:=hr.aQ
  refine⟨_,(aq (kL (vt (k:=6) Cy (hr.mono (by decide)) rfl T.Cj T.uc.kp T.Ci .nil QF (af (pv 0) aj ak)))
   (aq (lA 1 qk.nd (bh aj) (hs:=kM))
   (aq (oN PassesOwn.leaving rfl (cE K rfl (pv 0)) (qM 2 qk.nd)
   (av (kL (lQ K rfl PySem.F.plainAttrs_list PySem.F.slot_list_extend PySem.F.type_list_extend Ds (pv 1) (af (kB zo hr T.zc T.qQ.kp T.zb (af (pv 2) aj ak)) aj bR)))))
   (av (aC (pv 1)))))),?_⟩
  rcases h with ⟨a,xs,t,rfl,ha,tr,g,k⟩ | ⟨N,n,v,u,rfl,hv,hT,kE⟩
  rotate_left
  ·exact⟨_,rfl,N,n,v,u,rfl,hv,(fun e=>by rw[hT] at e;cases e),fun _ H1 s1=>kE H1 s1⟩
  have hlx:=tr.length
  refine⟨_,rfl,_,2,_,_,rfl,WY ha tr g,(fun _ H1 s1=>?_),(fun e=>by rw[g.q] at e;cases e)⟩
  refine⟨by decide,fun l hl=>?_⟩
  have s0:=s1.trans (ao (o:=HO.lst []) hl)
  have El:H l=none:=s1.free hl
  refine⟨_,rfl,a,rfl,⟨_,bB.of (s0 _ _ ha)⟩,?_⟩
  refine rD (K:=K) (a:=a) (xs:=xs) (fun i σ H2=>(∃ v,σ=[some (.ref a),some (.ref l),v])∧aH H H2∧∃ ys,H2 l=some (.lst ys)∧Paired (jD K H2) ys (cQ (t.take i))) ⟨⟨_,rfl⟩,s0,[],ah,.nil⟩ (fun i σ H2 _ q=>bB.of (q.2.1 _ _ ha)) ?_ ?_
  ·rintro i e σ H2 hi ⟨⟨v,rfl⟩,s2,ys,hy,hp⟩
   obtain⟨r,hr,b,rfl,hb⟩:=bD tr i e hi
   have VL:=List.mem_of_getElem? hr
   have b1:=AS g i
   have b2:=AS g (i+1)
   rw[aY hr,yp,List.length_append] at b2
   have hyl:=hp.length
   refine⟨_,rfl,.inl ⟨rfl,_,bB.of hy⟩,_,rfl,b,r,rfl,s2 _ _ hb,(g.rows r VL).hi,Nat.le_trans (zW VL) g.sum,fun m zs H3 hm h3 hp3 s3=>?_⟩
   have Mt:=hp3.length
   have hy3:=s3 _ _ hy
   refine⟨l,m,ys,zs,rfl,rfl,hy3,h3,Nat.le_trans (show ys.length+zs.length≤1600 by omega) (by decide),⟨_,rfl⟩,bg El (s2.trans s3),_,ah,?_⟩
   rw[aY hr,yp]
   exact bz (fun a b h=>jD.but hy3 h) (eV (bz (fun a b h=>jD.mono s3 h) hp) hp3)
  ·rintro σ H2 ⟨⟨v,rfl⟩,s2,ys,hy,hp⟩
   rw[hlx,List.take_of_length_le (Nat.le_refl _)] at hp
   exact⟨_,rfl,k l ys H2 El hy hp s2⟩
def ES:Sp:=fun vs H Q _=>∃ z:Str,vs=[.str z]∧z.length≤4000∧Q (.str (AV z)) H
theorem Mw:aM P w K mg base cy 1 (ay 15) (aO 15) ["text"] ES:=by
 refine T.JL.ok zX (fun vs H Q E h=>?_) (fun cdv A outer s H vs Q E hr h=>?_)
 ·obtain⟨z,rfl,_⟩:=h;rfl
 ·have hu:=bA hr
  have jv:=hr.aQ
  obtain⟨z,rfl,Xj,k⟩:=h
  have e0:Str.ofString "" = ⟨(pq []).toArray⟩:=by decide +kernel
  have e0:([some (V.str z),some (V.str ("":Str)),none]:St)=[some (.str z),some (.str ⟨(pq []).toArray⟩),none]:=by rw[e0]
  refine⟨_,(aq (lA 1 zX.nd aB (hs:=nW))
   (aq (oN PassesOwn.never rfl (Am (pv 0)) (qM 2 zX.nd)
   (av (aP (iW qd (pv 2) (pv 1) rfl) (av (lA 1 zX.nd (aL i8 (pv 1) (pv 2)) (hs:=dX))) aE)))
   (av (aC (pv 1))))),?_⟩
  refine⟨_,rfl,_,rfl,?_⟩
  unfold AV at k
  refine LL (fun i σ H2=>H2=H∧∃ v,σ=[some (.str z),some (.str ⟨(pq (z.cps.toList.take i)).toArray⟩),v]) ⟨rfl,none,by rw[List.take_zero];exact e0⟩ ?_ ?_
  ·rintro i c σ H2 hi ⟨rfl,v,rfl⟩
   have hl:(pq (z.cps.toList.take i)).length≤4000:=by
    refine Nat.le_trans (DO _) ?_
    rw[List.length_take,Array.length_toList]
    have:z.cps.size≤4000:=Xj
    omega
   refine⟨_,rfl,_,rfl,_,_,rfl,rfl,_,rfl,?_⟩
   refine dh (fun ha=>?_) (fun ha=>?_)
   ·have ha':away ⟨(pq (z.cps.toList.take i)).toArray⟩ c=true:=ha
    refine⟨_,rfl,_,rfl,_,_,rfl,rfl,?_,rfl,some (.str (sg c)),?_⟩
    ·refine Nat.le_trans (show _≤4001 from ?_) (by decide)
     show Array.size _+1≤4001
     rw[List.size_toArray];omega
    ·rw[take_snoc hi,AU]
     unfold yq
     rw[if_pos ha',←Tv]
     rfl
   ·have ha':¬away ⟨(pq (z.cps.toList.take i)).toArray⟩ c=true:=ha
    refine⟨rfl,some (.str (sg c)),?_⟩
    rw[take_snoc hi,AU]
    unfold yq
    rw[if_neg ha']
    rfl
  ·rintro σ H2 ⟨rfl,v,rfl⟩
   refine⟨_,rfl,?_⟩
   rw[List.take_of_length_le (Nat.le_refl _)]
   exact k
def nM (C:Addr):Sp:=fun vs H Q _=>∃(x dx:Addr) (p q f:Str) (b1 b2 b3 b4:Bool),vs=[.ref x]∧H x=some (.ins C dx (DK p q f b1 b2 b3 b4))∧Gd p q f∧Q (.str (AV ((p++q)++f))) H
theorem uZ:aM P w K mg base cy 2 (ay 16) (aO 16) ["self"] (nM (ay 58)):=by
 have JU:aM P w K mg base cy 1 (ay 15) (aO 15) ["text"] ES:=Mw T
 refine T.vX.ok uR (fun vs H Q E h=>?_) (fun cdv A outer s H vs Q E hr h=>?_)
 ·obtain⟨x,dx,p,q,f,b1,b2,b3,b4,rfl,_⟩:=h;rfl
 ·have hu:=bA hr
  have jv:=hr.aQ
  obtain⟨x,dx,p,q,f,b1,b2,b3,b4,rfl,hx,g,k⟩:=h
  have hp3:=g.p3;have hq2:=g.q2;have hf2:=g.f2
  refine⟨_,(av (aC (kB JU hr T.RM T.JL.kp T.RL (af (aL i8 (aL i8 (aU K rfl (pv 0) rfl) (aU K rfl (pv 0) rfl)) (aU K rfl (pv 0) rfl)) aj cj)))),?_⟩
  refine⟨_,rfl,x,(ay 58),dx,_,_,rfl,hx,T.aK,T.cB,rfl,_,rfl,x,(ay 58),dx,_,_,rfl,hx,T.aK,T.cJ,rfl,_,_,rfl,rfl,Nat.le_trans (show p.length+q.length≤5 by omega) (by decide),_,rfl,x,(ay 58),dx,_,_,rfl,hx,T.aK,T.bZ,rfl,_,_,rfl,rfl,?_,_,rfl,?_,k⟩
  ·rw[gZ];exact Nat.le_trans (show p.length+q.length+f.length≤7 by omega) (by decide)
  ·rw[gZ,gZ];omega
def mj (K:W.Frag) (C:Addr):Sp:=fun vs H Q _=>∃(y dy a o:Addr) (xs os:List V) (t:List (List Str)) (x:nR) (cs:List nR),vs=[.ref y,.ref a,.ref o]∧H y=some (.ins C dy (Rg x))∧Ma x∧H a=some (.lst xs)∧Paired (kC H) xs t∧TabOk t∧H o=some (.lst os)∧Cd C H os cs∧(∀ c∈cs,Ma c)∧cs.length≤20∧∀ H',aH H H'→Q (.str (Et (x :: cs) t)) H'
theorem tW:aM P w K mg base cy 3 (ay 17) (aO 17) ["dialect", "table", "others"] (mj K (ay 58)):=by
 have wB:aM P w K mg base cy 2 (ay 16) (aO 16) ["self"] (nM (ay 58)):=uZ T
 have JU:aM P w K mg base cy 1 (ay 15) (aO 15) ["text"] ES:=Mw T
 refine T.nG.ok iG (fun vs H Q E h=>?_) (fun cdv A outer s H vs Q E hr h=>?_)
 ·obtain⟨y,dy,a,o,xs,os,t,x,cs,rfl,_⟩:=h;rfl
 ·have hu:=bA hr
  have jv:=hr.aQ
  obtain⟨y,dy,a,o,xs,os,t,x,cs,rfl,hy,gx,ha,pr,tok,ho,mk,gs,hcl,k⟩:=h
  have szb:10000≤sizeLine:=by decide
  refine⟨_,(aq (lA 3 iG.nd (lQ K rfl PySem.F.plainAttrs_str PySem.F.slot_str_join PySem.F.type_str_join (Ao K rfl) aB (af (dW rfl (show bq ["dialect", "table", "others", "special", "cells"] (aA cg) ["each"] 1 [] _ from GV) (cE K rfl (aL Ei (bh (af (pv 0) aj ak)) (pv 2))) (fun _ _ _ _=>(qM 0 L4)) (fun _ _ _ _=>di) (fun _ _ _ _=>(Gk (k:=2) (pv 0) T.aK T.vZ wB (hr.mono (by decide)) T.vY .nil kc))) aj bF)) (hs:=cU))
   (aq (lA 4 iG.nd (lQ K rfl PySem.F.plainAttrs_str PySem.F.slot_str_join PySem.F.type_str_join (Ao K rfl) aB (af (dW rfl (show bq ["dialect", "table", "others", "special", "cells"] (aA cg) ["row"] 1 [] _ from GV) (cE K rfl (pv 1)) (fun _ _ _ _=>(qM 0 L4)) (fun _ _ _ _=>di) (fun _ _ _ _=>(lQ K rfl PySem.F.plainAttrs_str PySem.F.slot_str_join PySem.F.type_str_join (Ao K rfl) aB (af (pv 0) aj ak)))) aj bF)) (hs:=cU))
   (av (aC (kB JU hr T.RM T.JL.kp T.RL (af (aL i8 (aL i8 (aL i8 (pv 3) (qe rfl T.qx.choose_spec)) aB) (pv 4)) aj cj)))))),?_⟩
  have mkl:=mk.length
  refine⟨rfl,_,rfl,(by show(1:Nat)≤sizeLine;decide),fun l0 El=>⟨_,rfl,l0,o,_,_,rfl,rfl,ah,ao El _ _ ho,(by show 1+os.length≤sizeLine;omega),fun L hL=>⟨L,rfl,⟨_,bB.of ah⟩,fun D hD=>?_⟩⟩⟩
  have f1:=(ao (o:=HO.lst [.ref y]) El).trans (ao (o:=HO.lst ([V.ref y]++os)) hL)
  have w1:=ah (H:=upd H l0 (HO.lst [.ref y])) (a:=L) (o:=HO.lst ([V.ref y]++os))
  generalize upd (upd H l0 (HO.lst [.ref y])) L (HO.lst ([V.ref y]++os))=H2 at f1 w1 hD ⊢
  have mk2:Cd (ay 58) H2 ([V.ref y]++os) (x :: cs):=.cons ⟨y,dy,rfl,f1 _ _ hy⟩ (Cd.mono f1 mk)
  have gs2:∀ c∈x :: cs,Ma c:=fun c hc=>by
   rcases List.mem_cons.mp hc with q | q
   ·rw[q];exact gx
   ·exact gs c q
  refine dB (K:=K) (a:=L) (xs:=[V.ref y]++os) (fun i vs τ J=>(∃ v,τ=[v])∧aH H2 J∧J D=some (.lst vs)∧vs=((x :: cs).take i).map fun c=>V.str (AX c)) ⟨⟨_,rfl⟩,ao hD,ah,rfl⟩ (fun i vs τ J _ p=>⟨bB.of (p.2.1 _ _ w1),p.2.2.1⟩) ?_ ?_
  ·rintro i e vs τ J hi ⟨⟨v,rfl⟩,sJ,hJ,hvs⟩
   obtain⟨x',hx',y',Xl,rfl,hy'⟩:=bD mk2 i e hi
   have hvl:vs.length≤i:=by rw[hvs,List.length_map,List.length_take];omega
   have hil:i < ([V.ref y]++os).length:=(List.getElem?_eq_some_iff.mp hi).1
   rw[List.length_append] at hil
   have hil:i < 1+os.length:=hil
   refine rM ⟨_,rfl,_,_,_,rfl,sJ _ _ hy',rfl,y',Xl,_,_,_,_,_,_,_,rfl,sJ _ _ hy',gs2 x' (List.mem_of_getElem? hx'),?_⟩
   refine⟨hJ,Nat.lt_of_le_of_lt (show vs.length≤100 by omega) (by decide),⟨_,rfl⟩,bg hD sJ,ah,?_⟩
   rw[aY hx',List.map_append,←hvs]
   rfl
  rintro vs τ J ⟨⟨v,rfl⟩,sJ,hJ,hvs⟩
  rw[List.take_of_length_le (by rw[List.length_append,List.length_cons];show cs.length+1≤1+os.length;omega)] at hvs
  subst hvs
  have hjl:=Eu gs2
  rw[List.length_cons] at hjl
  have e0:("":Str).length=0:=by decide +kernel
  have s3:=f1.trans sJ
  refine⟨_,D,(x :: cs).map AX,rfl,rfl,(by rw[List.map_map];exact bB.of hJ),(by rw[e0];omega),?_⟩
  have jl:=pC ((x :: cs).map AX)
  have kk:∀ H',aH H H'→Q (.str (AV (((Txt.join ("":Str) ((x :: cs).map AX)++Str.ofString "\n")++Str.ofString " ")++Txt.join ("":Str) (t.map (Txt.join ("":Str)))))) H':=k
  clear k
  generalize Txt.join ("":Str) ((x :: cs).map AX)=S1 at jl kk ⊢
  dsimp only[cK]
  have tl:=pr.length
  have tn:=tok.n
  have aiw:=tok.sum
  refine⟨rfl,_,rfl,_,rfl,⟨_,bB.of (s3 _ _ ha)⟩,fun D2 hD2=>?_⟩
  refine dB (K:=K) (a:=a) (xs:=xs) (fun i vs τ G=>(∃ v,τ=[v])∧aH J G∧G D2=some (.lst vs)∧vs=(t.take i).map fun r=>V.str (Txt.join ("":Str) r)) ⟨⟨_,rfl⟩,ao hD2,ah,rfl⟩ (fun i vs τ G _ p=>⟨bB.of (p.2.1 _ _ (s3 _ _ ha)),p.2.2.1⟩) ?_ ?_
  ·rintro i e vs τ G hi ⟨⟨v,rfl⟩,sG,hG,hvs⟩
   obtain⟨r,hr',ra,rfl,hra⟩:=bD pr i e hi
   have hvl:vs.length≤i:=by rw[hvs,List.length_map,List.length_take];omega
   have hil:i < xs.length:=(List.getElem?_eq_some_iff.mp hi).1
   have rs:=zW (List.mem_of_getElem? hr')
   refine rM ⟨rfl,_,rfl,_,ra,r,rfl,rfl,bB.of (sG _ _ (s3 _ _ hra)),(by rw[e0];show(lens r).sum+_≤_;omega),?_⟩
   refine⟨hG,Nat.lt_of_le_of_lt (show vs.length≤100 by omega) (by decide),⟨_,rfl⟩,bg hD2 sG,ah,?_⟩
   rw[aY hr',List.map_append,←hvs]
   rfl
  rintro vs τ G ⟨⟨v,rfl⟩,sG,hG,hvs⟩
  rw[List.take_of_length_le (by omega)] at hvs
  subst hvs
  have aix:=xw t
  have jl2:=pC (t.map (Txt.join ("":Str)))
  refine⟨_,D2,t.map (Txt.join ("":Str)),rfl,rfl,(by rw[List.map_map];exact bB.of hG),(by rw[e0];omega),?_⟩
  generalize Txt.join ("":Str) (t.map (Txt.join ("":Str)))=S2 at jl2 kk ⊢
  dsimp only[cK]
  have n1:(Str.ofString "\n").length=1:=by decide +kernel
  have n2:(" ":Str).length=1:=by decide +kernel
  have a1:=gZ S1 (Str.ofString "\n")
  have a2:=gZ (S1++Str.ofString "\n") (" ":Str)
  have a3:=gZ ((S1++Str.ofString "\n")++Str.ofString " ") S2
  have kq:=kk G (s3.trans sG)
  have eL:(B6 0)=Str.ofString "\n" := T.oi
  rw[←eL] at a1 a2 a3 n1 kq
  exact⟨_,rfl,_,_,rfl,rfl,by omega,_,_,rfl,rfl,by omega,_,rfl,_,_,rfl,rfl,by omega,_,rfl,by omega,kq⟩
def nN (K:W.Frag) (C CT CM CP:Addr):Sp:=fun vs H Q _=>∃(q dq:Addr) (y dy a o:Addr) (xs os:List V) (t:List (List Str)) (x:nR) (cs:List nR),vs=[.ref q,.ref y,.ref a,.ref o]∧H q=some (.ins CP dq [])∧H y=some (.ins C dy (Rg x))∧Ma x∧H a=some (.lst xs)∧Paired (kC H) xs t∧TabOk t∧H o=some (.lst os)∧Cd C H os cs∧(∀ c∈cs,Ma c)∧cs.length≤20∧∀ H',JC K C CT CM CP H' q x cs (cQ t) (Et (x :: cs) t)→(∀ b o,H b=some o→b≠q→H' b=some o)→Q .non H'
theorem u0:aM P w K mg base cy 10 (ay 18) (aO 18) ["self", "dialect", "table", "others"] (nN K (ay 58) (ay 59) (ay 60) (ay 61)):=by
 have oj:aM P w K mg base cy 8 (ay 6) (aO 6) ["self", "dialect", "tokens"] (nK K (ay 58) (ay 59) (ay 60)):=uX T
 have vd:aM P w K mg base cy 3 (ay 17) (aO 17) ["dialect", "table", "others"] (mj K (ay 58)):=tW T
 have sM:aM P w K mg base (zV P w) 7 (ay 14) (aO 14) ["table"] (qy K (ay 66)):=wA T
 refine T.v9.ok nC (fun vs H Q E h=>?_) (fun cdv A outer s H vs Q E hr h=>?_)
 ·obtain⟨q,dq,y,dy,a,o,xs,os,t,x,cs,rfl,_⟩:=h;rfl
 ·have hu:=bA hr
  have jv:=hr.aQ
  obtain⟨q,dq,y,dy,a,o,xs,os,t,x,cs,rfl,hq,hy,gx,ha,pr,tok,ho,mk,gs,hcl,k⟩:=h
  have mkl:=mk.length
  have ny:y≠q:=fun e=>by rw[e,hq] at hy;injection hy with hy;injection hy with h1 h2 h3;cases h3
  have na:a≠q:=fun e=>by rw[e,hq] at ha;cases ha
  have no:o≠q:=fun e=>by rw[e,hq] at ho;cases ho
  refine⟨_,(aq (lA 4 nC.nd (vt (k:=7) sM (hr.mono (by decide)) rfl T.yw T.r8.kp T.yu .nil aay (af (pv 2) aj ak)) (hs:=cU))
   (aq (kr (pv 0) (sY (k:=8) T.Hz oj (hr.mono (by decide)) rfl T.Hy T.n6 .nil kc (af (pv 1) (af (pv 4) aj ak) ak)) rfl)
   (aq (kr (pv 0) (dW rfl (show bq ["self", "dialect", "table", "others", "tokens"] (aA cW) ["other", "tokens"] 1 [4] _ from GV) (cE K rfl (pv 3)) (fun _ _ _ _=>(qM 0 (show(["other", "tokens"]:List Str).Nodup by decide +kernel))) (fun _ _ _ _=>di) (fun _ _ _ _=>(sY (k:=8) T.Hz oj (hr.mono (by decide)) rfl T.Hy T.n6 .nil kc (af (pv 0) (af (pv 1) aj ak) ak)))) rfl)
   (av (kr (pv 0) (kB vd hr T.uU T.nG.kp T.uT (af (pv 1) (af (pv 2) (af (pv 3) aj ak) ak) ak)) rfl))))),?_⟩
  refine⟨_,rfl,.inl ⟨a,xs,t,rfl,ha,pr,tok,fun l ys H1 El hl tp s1=>?_⟩⟩
  dsimp only[cK]
  refine⟨_,rfl,_,rfl,fun m dm hm hdm ne=>⟨m,dm,y,dy,l,ys,cQ t,_,_,_,_,_,_,_,rfl,ah,lI hm hdm (s1 _ _ hy),gx,lI hm hdm hl,kD (tE hm hdm) tp,fun H2 hM kp hml=>⟨rfl,?_⟩⟩⟩
  have s2:=tD hm hdm kp
  have s12:=s1.trans s2
  have hq2:=s12 _ _ hq
  refine⟨_,rfl,q,(ay 61),dq,_,rfl,hq2,T.gi,T.gb,(by show 0 < 1000;decide),?_⟩
  have b3:∀ b o',H b=some o'→b≠q→(upd H2 q (HO.ins (ay 61) dq [("marker",V.ref m)])) b=some o':=fun b o' e hb=>(aF hb).trans (s12 _ _ e)
  have w3:(upd H2 q (HO.ins (ay 61) dq [("marker",V.ref m)])) q=some (HO.ins (ay 61) dq [("marker",V.ref m)]):=ah
  have nlq:l≠q:=fun e=>by rw[e,hq] at El;cases El
  have hl3:(upd H2 q (HO.ins (ay 61) dq [("marker",V.ref m)])) l=some (.lst ys):=(aF nlq).trans (s2 _ _ hl)
  have tp3:Paired (jD K (upd H2 q (HO.ins (ay 61) dq [("marker",V.ref m)]))) ys (cQ t):=rQ hq2 (kD s2 tp)
  have hM3:GZ K (ay 58) (ay 59) (ay 60) (upd H2 q (HO.ins (ay 61) dq [("marker",V.ref m)])) m x (cQ t):=wY.off hq2 (fun y l e=>by cases e) (fun d e=>by cases e) (fun e=>by cases e) hM
  rw[show qb ("marker":Str) (V.ref m) []=([(("marker" : Str),V.ref m)]:List (Str×V)) from rfl]
  generalize upd H2 q (HO.ins (ay 61) dq [("marker",V.ref m)])=H3 at b3 w3 hl3 tp3 hM3 ⊢
  have ho3:=b3 _ _ ho no
  have mk3:Cd (ay 58) H3 os cs:=bz (fun e x' ⟨y',Xl,e1,e2⟩=>⟨y',Xl,e1,b3 _ _ e2 (fun z=>by rw[z,hq] at e2;injection e2 with e2;injection e2 with h1 h2 h3;cases h3)⟩) mk
  refine⟨_,rfl,_,rfl,⟨_,bB.of ho3⟩,fun D hD=>?_⟩
  have nlD:l≠D:=fun e=>by rw[e,hD] at hl3;cases hl3
  refine dB (K:=K) (a:=o) (xs:=os) (fun i vs τ J=>(∃ v,τ=[v,some (.ref l)])∧aH H3 J∧J D=some (.lst vs)∧rS K (ay 58) (ay 59) (ay 60) (cQ t) l J vs (cs.take i)) ⟨⟨_,rfl⟩,ao hD,ah,.nil⟩ (fun i vs τ J _ p=>⟨bB.of (p.2.1 _ _ ho3),p.2.2.1⟩) ?_ ?_
  ·rintro i e vs τ J hi ⟨⟨v,rfl⟩,sJ,hJ,ml⟩
   obtain⟨x',hx',y',Xl,rfl,hy'⟩:=bD mk3 i e hi
   have hvl:=ml.length
   rw[List.length_take] at hvl
   have hil:i < os.length:=(List.getElem?_eq_some_iff.mp hi).1
   refine rM ⟨_,rfl,_,rfl,fun m' dm' hm' UC ne'=>⟨m',dm',y',Xl,l,ys,cQ t,_,_,_,_,_,_,_,rfl,ah,lI hm' UC (sJ _ _ hy'),gs x' (List.mem_of_getElem? hx'),lI hm' UC (sJ _ _ hl3),kD ((sJ.trans (tE hm' UC))) tp3,fun J2 hM' kp' afX=>⟨rfl,?_⟩⟩⟩
   have s2':=tD hm' UC kp'
   have VM:=s2' _ _ hJ
   refine⟨VM,Nat.lt_of_le_of_lt (show vs.length≤1000 by omega) (by decide),⟨_,rfl⟩,bg hD (sJ.trans s2'),ah,?_⟩
   rw[aY hx']
   exact eV (rS.but VM nlD (rS.mono s2' ml)) (rS.but VM nlD (.cons ⟨m',rfl,hM',afX⟩ .nil))
  rintro vs τ J ⟨⟨v,rfl⟩,sJ,hJ,ml⟩
  rw[List.take_of_length_le (by omega)] at ml
  have n3:=Ro (v:=V.ref m) (r:=[]) (n := "marker") rfl
  have n5:=Ro (v:=V.ref m) (r:=[("markers",V.ref D)]) (n := "marker") rfl
  have hqJ:=sJ _ _ w3
  refine⟨_,rfl,q,(ay 61),dq,_,rfl,hqJ,T.gi,T.fE,(by show 1 < 1000;decide),?_⟩
  rw[show qb ("markers":Str) (V.ref D) ([(("marker" : Str),V.ref m)]:List (Str×V))=([(("marker" : Str),V.ref m),(("markers" : Str),V.ref D)]:List (Str×V)) from rfl]
  have b5:∀ b o',H b=some o'→b≠q→(upd J q (HO.ins (ay 61) dq [("marker",V.ref m),("markers",V.ref D)])) b=some o':=fun b o' e hb=>(aF hb).trans (sJ _ _ (b3 _ _ e hb))
  have w5:(upd J q (HO.ins (ay 61) dq [("marker",V.ref m),("markers",V.ref D)])) q=some (HO.ins (ay 61) dq [("marker",V.ref m),("markers",V.ref D)]):=ah
  have nDq:D≠q:=fun e=>by rw[e,w3] at hD;cases hD
  have hD5:(upd J q (HO.ins (ay 61) dq [("marker",V.ref m),("markers",V.ref D)])) D=some (.lst vs):=(aF nDq).trans hJ
  have ml5:rS K (ay 58) (ay 59) (ay 60) (cQ t) l (upd J q (HO.ins (ay 61) dq [("marker",V.ref m),("markers",V.ref D)])) vs cs:=rS.off hqJ n3.1 n3.2.1 n3.2.2 ml
  have hM5:GZ K (ay 58) (ay 59) (ay 60) (upd J q (HO.ins (ay 61) dq [("marker",V.ref m),("markers",V.ref D)])) m x (cQ t):=wY.off hqJ n3.1 n3.2.1 (n3.2.2 _ _ _ _ _ _ _) (wY.mono sJ hM3)
  generalize upd J q (HO.ins (ay 61) dq [("marker",V.ref m),("markers",V.ref D)])=H5 at b5 w5 hD5 ml5 hM5 ⊢
  have pr5:Paired (kC H5) xs t:=bz (fun v r ⟨ra,e1,e2⟩=>⟨ra,e1,b5 _ _ e2 (fun z=>by rw[z,hq] at e2;cases e2)⟩) pr
  have mk5:Cd (ay 58) H5 os cs:=bz (fun e x' ⟨y',Xl,e1,e2⟩=>⟨y',Xl,e1,b5 _ _ e2 (fun z=>by rw[z,hq] at e2;injection e2 with e2;injection e2 with h1 h2 h3;cases h3)⟩) mk
  refine⟨_,rfl,_,rfl,_,rfl,y,dy,a,o,xs,os,t,x,cs,rfl,b5 _ _ hy ny,gx,b5 _ _ ha na,pr5,tok,b5 _ _ ho no,mk5,gs,hcl,fun H6 s6=>?_⟩
  refine⟨_,rfl,q,(ay 61),dq,_,rfl,s6 _ _ w5,T.gi,T.jI,(by show 2 < 1000;decide),k _ ?_ fun b o' e hb=>(aF hb).trans (s6 _ _ (b5 _ _ e hb))⟩
  have ml7:=rS.off (o:=HO.ins (ay 61) dq (qb ("signs":Str) (V.str (Et (x :: cs) t)) [("marker",V.ref m),("markers",V.ref D)])) (s6 _ _ w5) n5.1 n5.2.1 n5.2.2 (rS.mono s6 ml5)
  exact⟨dq,m,D,vs,ah,wY.off (s6 _ _ w5) n5.1 n5.2.1 (n5.2.2 _ _ _ _ _ _ _) (wY.mono s6 hM5),(aF nDq).trans (s6 _ _ hD5),bz (fun v x' ⟨m',e1,e2,_⟩=>⟨m',e1,e2⟩) ml7⟩
def mq (CB:Addr):Sp:=fun vs H Q _=>∃(ea:Addr) (r:Int),vs=[.ref ea,.int r]∧H ea=some (Pb ea (.ref CB) none)∧r.natAbs.log2 < 1920∧∀ d H',H d=none→d≠ea→H' ea=some (Pb ea (.ref CB) (some d))→H' d=some (LV d [(Str.ofString "most",.int r)])→(∀ b,b≠ea→b≠d→H' b=H b)→Q .non H'
theorem tX:aM P w K mg base cy 1 (ay 21) (aO 21) ["self", "most"] (mq (ay 80)):=by
 refine T.uV.ok tR (fun vs H Q E h=>?_) (fun cdv A outer s H vs Q E hr h=>?_)
 ·obtain⟨ea,r,rfl,_⟩:=h;rfl
 ·have hu:=bA hr
  have jv:=hr.aQ
  obtain⟨ea,r,rfl,t7,hr0,k⟩:=h
  refine⟨_,(aq (kL (QO rfl T.sE T.zj T.aT (.inr ⟨_,_,rfl,T.az⟩) (af (pv 0) (af (M3 (LW aB (LW (WB (pv 1)) WC))) aj Em) ak)))
   (av (QS rfl T.aT (.inr ⟨_,_,rfl,T.az⟩) T.qT (pv 0) (pv 1) rfl))),?_⟩
  refine⟨_,rfl,_,rfl,by decide +kernel,_,rfl,.inl ⟨r,rfl,hr0⟩,fun z1 l1=>⟨_,rfl,l1,fun zz=>?_⟩⟩
  refine⟨ea,none,_,rfl,t7,?_⟩
  refine⟨_,rfl,_,rfl,ea,rfl,t7,fun d hd=>?_⟩
  have nd:d≠ea:=fun z=>by rw[z,t7] at hd;cases hd
  refine k d _ hd nd ((aF (Ne.symm nd)).trans ah) ah fun b h1 h2=>?_
  rw[aF h2,aF h1]
def yH (K:W.Frag):Sp:=fun vs H Q _=>∃(N:Addr→Prop) (n:Nat) (v:V) (u:Tr) (a b:Int),vs=[v,.int a,.int b]∧Rp N n H v u∧Q (.bl (oR v a b)) H
theorem HG:aM P w K mg base cy 1 (ay 23) (aO 23) ["thing", "least", "most"] (yH K):=by
 refine T.Bs.ok Hh (fun vs H Q E h=>?_) (fun cdv A outer s H vs Q E hr h=>?_)
 ·obtain⟨N,n,v,u,a,b,rfl,_⟩:=h;rfl
 ·have hu:=bA hr
  have jv:=hr.aQ
  obtain⟨N,n,v,u,a,b,rfl,hv,k⟩:=h
  refine⟨_,(aq (aP (PW.pt (j9 (cY (bP (i9 (bN K rfl) T.aI (af (pv 0) (af (II "int" T.RY) aj ak) ak)))) (ko (bP (i9 (bN K rfl) T.aI (af (pv 0) (af (II "bool" T.zY) aj ak) ak)))))) (av (aC oX)) aE)
   (av (aC (uG (IJ Py (pv 0) (pv 1)) (w6 (IJ Px (pv 0) (pv 2))))))),?_⟩
  rcases hv.iX K with ⟨m,l,xs,ts,_,rfl,rfl,ha,_⟩ | ⟨_,_,_,rfl,hvl⟩
  ·exact⟨_,rfl,_,_,_,false,rfl,.lst ha,.inl ⟨_,rfl,rfl⟩,false,rfl,gj k⟩
  cases hvl with
  | @tup l xs e f=>exact⟨_,rfl,_,_,_,false,rfl,.tup e,.inl ⟨_,rfl,rfl⟩,false,rfl,gj k⟩
  | @Zr l e=>exact⟨_,rfl,_,_,_,false,rfl,.dK e,.inl ⟨_,rfl,rfl⟩,false,rfl,gj k⟩
  | flat e f =>
   cases v with
   | non=>exact⟨_,rfl,_,_,_,false,rfl,.non,.inl ⟨_,rfl,rfl⟩,false,rfl,gj k⟩
   | str z=>exact⟨_,rfl,_,_,_,false,rfl,.str z,.inl ⟨_,rfl,rfl⟩,false,rfl,gj k⟩
   | bl x=>exact⟨_,rfl,_,_,_,true,rfl,.bl x,.inl ⟨_,rfl,rfl⟩,true,rfl,eZ ⟨_,rfl,_,_,_,true,rfl,.bl x,.inl ⟨_,rfl,rfl⟩,true,rfl,gj k⟩⟩
   | int n =>
    refine⟨_,rfl,_,_,_,true,rfl,.int n,.inl ⟨_,rfl,rfl⟩,true,rfl,eZ ⟨_,rfl,_,_,_,false,rfl,.int n,.inl ⟨_,rfl,rfl⟩,false,rfl,eZ ?_⟩⟩
    have k:Q (.bl (decide (a≤n∧n≤b))) H:=k
    refine⟨_,rfl,_,rfl,_,_,rfl,rfl,_,rfl,?_⟩
    by_cases h1:a≤n
    ·rw[if_pos (decide_eq_true h1)]
     refine⟨_,rfl,_,rfl,_,_,rfl,rfl,?_⟩
     show Q (.bl (decide (n≤b))) H
     rw[show decide (n≤b)=decide (a≤n∧n≤b) by rw[Bool.eq_iff_iff,decide_eq_true_iff,decide_eq_true_iff];exact⟨fun z=>⟨h1,z⟩,fun z=>z.2⟩]
     exact k
    ·rw[if_neg (by rw[decide_eq_false h1];decide)]
     rw[show decide (a≤n∧n≤b)=false from decide_eq_false fun z=>h1 z.1] at k
     exact k
   | _=>cases e
def BG (K:W.Frag) (C:Addr):Sp:=fun vs H Q _=>∃(x dx s:Addr) (w u:Str) (p q f:Str) (b1 b2 b3 b4:Bool),vs=[.ref x,.ref s]∧H x=some (.ins C dx (DK p q f b1 b2 b3 b4))∧ck K H s [.str w,.str u]∧Q (.bl (GW f w u)) H
theorem JV:aM P w K mg base cy 1 (ay 24) (aO 24) ["dialect", "state"] (BG K (ay 58)):=by
 refine T.DU.ok JI (fun vs H Q E h=>?_) (fun cdv A outer s H vs Q E hr h=>?_)
 ·obtain⟨x,dx,s,w,u,p,q,f,b1,b2,b3,b4,rfl,_⟩:=h;rfl
 ·have hu:=bA hr
  have jv:=hr.aQ
  obtain⟨x,dx,s,w,u,p,q,f,b1,b2,b3,b4,rfl,hx,hs,k⟩:=h
  unfold GW at k
  refine⟨_,(aq (aP (PW.pt (j9 (iM cN (oQ K (pv 1) au) aB) (ko (iM cN (oQ K (pv 1) au) aB)))) (av (aC oX)) aE)
   (av (aC (D9 qd (oQ K (pv 1) au) (aU K rfl (pv 0) rfl) rfl)))),?_⟩
  refine⟨_,rfl,s,_,_,_,rfl,rfl,hs,rfl,rfl,_,rfl,dh (fun (h1:d9 u ("":Str)=true)=>gj ?_) (fun (h1:¬d9 u ("":Str)=true)=>?_)⟩
  ·rw[if_pos h1] at k
   exact k
  rw[if_neg h1] at k
  refine⟨_,rfl,s,_,_,_,rfl,rfl,hs,rfl,rfl,_,rfl,dh (fun (h2:d9 w ("doubt":Str)=true)=>?_) (fun (h2:¬d9 w ("doubt":Str)=true)=>?_)⟩
  ·rw[if_pos h2] at k
   exact k
  rw[if_neg h2] at k
  exact⟨_,rfl,s,_,_,_,rfl,rfl,hs,rfl,_,rfl,x,(ay 58),dx,_,_,rfl,hx,T.aK,T.bZ,rfl,_,_,rfl,rfl,k⟩
def qX (K:W.Frag):Sp:=fun vs H Q _=>∃(l:Addr) (ys:List V) (ts:List (Str×Str)) (n:Nat) (kd s:Str),vs=[.ref l,.int n,.str kd,.str s]∧H l=some (.lst ys)∧Paired (jD K H) ys ts∧∀ H',aH H H'→Q (afQ (Rm ts n kd s)) H'
theorem zp:aM P w K mg base cy 1 (ay 25) (aO 25) ["tokens", "count", "kind", "sign"] (qX K):=by
 refine T.nI.ok qP (fun vs H Q E h=>?_) (fun cdv A outer s H vs Q E hr h=>?_)
 ·obtain⟨l,ys,ts,n,kd,s,rfl,_⟩:=h;rfl
 ·have hu:=bA hr
  have jv:=hr.aQ
  obtain⟨l,ys,ts,n,kd,s,rfl,hl,tp,k⟩:=h
  have xT:=hr.units
  refine⟨_,(aq (aP (iM cN (pv 2) aB) (av (aC (pv 1))) aE)
   (aq (lA 4 qP.nd (aJ (af (pv 2) (af (rB (iM cN (pv 2) aB) (pv 3) aB) aj AE) ak)) (hs:=Q6))
   (aq (aP (PW.pt (pX (iM Dh (pv 1) (i9 (bE K rfl) T.dH (af (pv 0) aj ak))) (mC (iM (Qz (YL _ _ K) rfl (hn0 xT)) (Ge K (pv 0) (pv 1)) (pv 4))))) (av (aC (aL gD (pv 1) au))) aE)
   (av (aC cM))))),?_⟩
  unfold Rm at k
  have tl:=tp.length
  refine⟨_,rfl,rfl,_,rfl,dh (fun (h1:d9 kd ("skip":Str)=true)=>?_) (fun (h1:¬d9 kd ("skip":Str)=true)=>?_)⟩
  ·rw[if_pos h1] at k
   exact⟨_,rfl,k H (aH.refl _)⟩
  rw[if_neg h1] at k
  refine⟨_,rfl,_,rfl,rfl,_,rfl,dh (fun (h2:d9 kd ("put":Str)=true)=>?_) (fun (h2:¬d9 kd ("put":Str)=true)=>?_)⟩
  ·rw[if_pos h2] at k
   refine⟨_,rfl,(by show 2≤sizeLine;decide),fun t ht=>?_⟩
   (have s1:=ao (o:=HO.tup [V.str kd,V.str s]) ht;have g1:=ah (H:=H) (a:=t) (o:=HO.tup [V.str kd,V.str s]);generalize upd H t (HO.tup [V.str kd,V.str s])=H1 at s1 g1 ⊢)
   have hl1:=s1 _ _ hl
   dsimp only[cK]
   refine⟨_,rfl,_,rfl,l,_,rfl,.inl (bB.of hl1),_,_,rfl,rfl,_,rfl,dh (fun h3=>?_) (fun h3=>?_)⟩
   ·have h3:=of_decide_eq_true h3
    have hn:n < ys.length:=by omega
    obtain⟨y,hy⟩:∃ y,ys[n]? = some y:=⟨_,List.getElem?_eq_getElem hn⟩
    obtain⟨⟨k1,s2⟩,ht1,a,rfl,ha⟩:=bD tp n y hy
    have hat:PV ys (n:Int)=some (.ref a):=zS hy
    refine⟨_,rfl,_,rfl,l,_,_,.ref a,rfl,rfl,bB.of hl1,hat,_,rfl,a,t,_,_,rfl,rfl,vD (aS s1 ha),vD (ck.of g1),_,rfl,dh (fun h4=>?_) (fun h4=>?_)⟩
    ·have h4:=oZ.mp (of_decide_eq_true h4)
     rw[ht1,if_pos (by rw[h4])] at k
     have kk:=k H1 s1
     exact⟨_,rfl,_,_,rfl,rfl,kk⟩
    ·have h4:¬(k1,s2)=(kd,s):=fun q=>h4 (decide_eq_true (oZ.mpr q))
     rw[ht1,if_neg (fun q=>h4 (Option.some.inj q))] at k
     exact k H1 s1
   ·have h3:=of_decide_eq_false (Bool.eq_false_iff.mpr h3)
    have hn:ts[n]? = none:=List.getElem?_eq_none (by omega)
    rw[hn,if_neg (fun q=>nomatch q)] at k
    exact k H1 s1
  ·rw[if_neg h2] at k
   refine⟨(by show 2≤sizeLine;decide),fun t ht=>?_⟩
   (have s1:=ao (o:=HO.tup [V.str kd,V.str ("":Str)]) ht;have g1:=ah (H:=H) (a:=t) (o:=HO.tup [V.str kd,V.str ("":Str)]);generalize upd H t (HO.tup [V.str kd,V.str ("":Str)])=H1 at s1 g1 ⊢)
   have hl1:=s1 _ _ hl
   dsimp only[cK]
   refine⟨_,rfl,_,rfl,l,_,rfl,.inl (bB.of hl1),_,_,rfl,rfl,_,rfl,dh (fun h3=>?_) (fun h3=>?_)⟩
   ·have h3:=of_decide_eq_true h3
    have hn:n < ys.length:=by omega
    obtain⟨y,hy⟩:∃ y,ys[n]? = some y:=⟨_,List.getElem?_eq_getElem hn⟩
    obtain⟨⟨k1,s2⟩,ht1,a,rfl,ha⟩:=bD tp n y hy
    have hat:PV ys (n:Int)=some (.ref a):=zS hy
    refine⟨_,rfl,_,rfl,l,_,_,.ref a,rfl,rfl,bB.of hl1,hat,_,rfl,a,t,_,_,rfl,rfl,vD (aS s1 ha),vD (ck.of g1),_,rfl,dh (fun h4=>?_) (fun h4=>?_)⟩
    ·have h4:=oZ.mp (of_decide_eq_true h4)
     rw[ht1,if_pos (by rw[h4])] at k
     have kk:=k H1 s1
     exact⟨_,rfl,_,_,rfl,rfl,kk⟩
    ·have h4:¬(k1,s2)=(kd,Str.ofString ""):=fun q=>h4 (decide_eq_true (oZ.mpr q))
     rw[ht1,if_neg (fun q=>h4 (Option.some.inj q))] at k
     exact k H1 s1
   ·have h3:=of_decide_eq_false (Bool.eq_false_iff.mpr h3)
    have hn:ts[n]? = none:=List.getElem?_eq_none (by omega)
    rw[hn,if_neg (fun q=>nomatch q)] at k
    exact k H1 s1
def lM (K:W.Frag) (C:Addr):Sp:=fun vs H Q _=>∃(x dx:Addr) (p q f:Str) (b1 b2 b3 b4:Bool) (s:Addr) (w u:Str) (c:Nat),vs=[.ref x,.ref s,.str (sg c)]∧H x=some (.ins C dx (DK p q f b1 b2 b3 b4))∧ck K H s [.str w,.str u]∧∀ v H',aH H H'→Cb K H' v (qg p q f b3 w u c)→Q v H'
theorem sN:aM P w K mg base cy 1 (ay 26) (aO 26) ["dialect", "state", "sign"] (lM K (ay 58)):=by
 refine T.lY.ok rW (fun vs H Q E h=>?_) (fun cdv A outer s H vs Q E hr h=>?_)
 ·obtain⟨x,dx,p,q,f,b1,b2,b3,b4,s,w,u,c,rfl,_⟩:=h;rfl
 ·have hu:=bA hr
  have jv:=hr.aQ
  obtain⟨x,dx,p,q,f,b1,b2,b3,b4,s,w,u,c,rfl,hx,hs,k⟩:=h
  refine'⟨_,?aa,?bb⟩
  case aa =>
   refine' aq ?s0 ?r0
   case s0 =>
    refine' aP ?c1 ?b1 ?e1
    case c1=>exact(iW jk (pv 2) (aU K rfl (pv 0) rfl) rfl)
    case b1 =>
     refine' av ?s2
     case s2 =>
      refine' aC ?v3
      case v3 =>
       refine' aJ ?a4
       case a4 =>
        refine' af ?x5 ?y5 ?z5
        case z5=>exact ai
        case x5 =>
         exact aB
        case y5 =>
         refine' af ?x6 ?y6 ?z6
         case z6=>exact cO
         case x6 =>
          refine' aJ ?a7
          case a7 =>
           refine' af ?x8 ?y8 ?z8
           case z8=>exact ai
           case x8 =>
            exact aB
           case y8 =>
            refine' af ?x9 ?y9 ?z9
            case z9=>exact ai
            case x9 =>
             exact aB
            case y9 =>
             exact aj
         case y6 =>
          exact aj
    case e1 =>
     exact aE
   case r0 =>
    refine' aq ?Tt ?r10
    case Tt =>
     refine' aP ?Xm ?Xn ?VN
     case Xm=>exact(iM cN (pv 2) (qe rfl T.qx.choose_spec))
     case Xn =>
      refine' av ?s12
      case s12 =>
       refine' aC ?v13
       case v13 =>
        refine' aJ ?R1
        case R1 =>
         refine' af ?UD ?UE ?UG
         case UG=>exact ai
         case UD =>
          exact aB
         case UE =>
          refine' af ?UH ?UI ?UJ
          case UJ=>exact ak
          case UH =>
           exact(dj rfl T.pI)
          case UI =>
           exact aj
     case VN =>
      exact aE
    case r10 =>
     refine' aq ?SS ?Xo
     case SS =>
      refine' aP ?UK ?UL ?SV
      case UK=>exact(iW jk (pv 2) (aU K rfl (pv 0) rfl) rfl)
      case UL =>
       refine' av ?SW
       case SW =>
        refine' aC ?v20
        case v20 =>
         refine' aJ ?Xp
         case Xp =>
          refine' af ?R3 ?R4 ?R5
          case R5=>exact ai
          case R3 =>
           exact aB
          case R4 =>
           refine' af ?UM ?UN ?UO
           case UO=>exact cO
           case UM =>
            refine' aJ ?UP
            case UP =>
             refine' af ?Xq ?Xr ?Xs
             case Xs=>exact ai
             case Xq =>
              exact aB
             case Xr =>
              refine' af ?Xu ?Xv ?Xw
              case Xw=>exact ak
              case Xu =>
               exact(pv 2)
              case Xv =>
               exact aj
           case UN =>
            exact aj
      case SV =>
       exact aE
     case Xo =>
      refine' aq ?s27 ?r27
      case s27 =>
       refine' aP ?c28 ?b28 ?e28
       case c28=>exact(iW jk (pv 2) (aU K rfl (pv 0) rfl) rfl)
       case b28 =>
        refine' av ?s29
        case s29 =>
         refine' aC ?v30
         case v30 =>
          refine' aJ ?a31
          case a31 =>
           refine' af ?x32 ?y32 ?z32
           case z32=>exact ai
           case x32 =>
            exact aB
           case y32 =>
            refine' af ?x33 ?y33 ?z33
            case z33=>exact cO
            case x33 =>
             refine' aJ ?Xx
             case Xx =>
              refine' af ?x35 ?y35 ?z35
              case z35=>exact ai
              case x35 =>
               exact aB
              case y35 =>
               refine' af ?x36 ?y36 ?z36
               case z36=>exact ai
               case x36 =>
                exact aB
               case y36 =>
                exact aj
            case y33 =>
             exact aj
       case e28 =>
        exact aE
      case r27 =>
       refine' aq ?s37 ?r37
       case s37 =>
        refine' aP ?c38 ?b38 ?e38
        case c38=>exact(PW.pt (pX (iM cN (pv 2) aB) (mC (bP (aU K rfl (pv 0) rfl)))))
        case b38 =>
         refine' av ?s39
         case s39 =>
          refine' aC ?v40
          case v40 =>
           refine' aJ ?a41
           case a41 =>
            refine' af ?x42 ?y42 ?z42
            case z42=>exact ai
            case x42 =>
             exact aB
            case y42 =>
             refine' af ?x43 ?y43 ?z43
             case z43=>exact ak
             case x43 =>
              exact(pv 1)
             case y43 =>
              exact aj
        case e38 =>
         exact aE
       case r37 =>
        refine' av ?s44
        case s44 =>
         refine' aC ?v45
         case v45 =>
          refine' aJ ?a46
          case a46 =>
           refine' af ?x47 ?y47 ?z47
           case z47=>exact ai
           case x47 =>
            exact aB
           case y47 =>
            refine' af ?x48 ?y48 ?z48
            case z48=>exact cO
            case x48 =>
             refine' aJ ?a49
             case a49 =>
              refine' af ?x50 ?y50 ?z50
              case z50=>exact ai
              case x50 =>
               exact aB
              case y50 =>
               refine' af ?x51 ?y51 ?z51
               case z51=>exact ai
               case x51 =>
                exact aB
               case y51 =>
                exact aj
            case y48 =>
             exact aj
  have e2:d9 (sg c) (B6 0)=d9 (sg c) (Str.ofString "\n"):=by rw[T.oi]
  refine⟨_,rfl,_,rfl,x,(ay 58),dx,_,_,rfl,hx,T.aK,T.bZ,rfl,_,_,rfl,rfl,_,rfl,dh (fun (h1:xr c f=true)=>?_) (fun (h1:¬xr c f=true)=>?_)⟩
  ·exact iS (by unfold qg;rw[if_pos h1]) nX k
  refine⟨_,rfl,rfl,_,rfl,dh (fun (h2:d9 (sg c) (B6 0)=true)=>?_) (fun (h2:¬d9 (sg c) (B6 0)=true)=>?_)⟩
  ·rw[e2] at h2
   exact Eo (by unfold qg;rw[if_neg h1,if_pos h2]) Jz (aH.refl _) (.inr T.pJ) k
  rw[e2] at h2
  refine⟨_,rfl,_,rfl,x,(ay 58),dx,_,_,rfl,hx,T.aK,T.cJ,rfl,_,_,rfl,rfl,_,rfl,dh (fun (h3:xr c q=true)=>?_) (fun (h3:¬xr c q=true)=>?_)⟩
  ·exact⟨_,rfl,iS (by unfold qg;rw[if_neg h1,if_neg h2,if_pos h3]) nX k⟩
  refine⟨_,rfl,_,rfl,x,(ay 58),dx,_,_,rfl,hx,T.aK,T.cB,rfl,_,_,rfl,rfl,_,rfl,dh (fun (h4:xr c p=true)=>?_) (fun (h4:¬xr c p=true)=>?_)⟩
  ·exact iS (by unfold qg;rw[if_neg h1,if_neg h2,if_neg h3,if_pos h4]) Ep k
  refine⟨_,rfl,rfl,_,rfl,dh (fun (h5:d9 (sg c) (" ":Str)=true)=>?_) (fun (h5:¬d9 (sg c) (" ":Str)=true)=>?_)⟩
  ·refine⟨_,rfl,x,(ay 58),dx,_,_,rfl,hx,T.aK,T.fD,rfl,_,rfl,dh (fun (h6:b3=true)=>?_) (fun (h6:¬b3=true)=>?_)⟩
   ·exact⟨_,rfl,Eo (by unfold qg;rw[if_neg h1,if_neg h2,if_neg h3,if_neg h4,if_pos h5,if_pos h6]) nX (aH.refl _) hs k⟩
   exact iS (by unfold qg;rw[if_neg h1,if_neg h2,if_neg h3,if_neg h4,if_pos h5,if_neg h6]) nu k
  refine eZ ?_
  exact iS (by unfold qg;rw[if_neg h1,if_neg h2,if_neg h3,if_neg h4,if_neg h5]) nu k
def pM (K:W.Frag) (C:Addr):Sp:=fun vs H Q _=>∃(x dx:Addr) (p q f:Str) (b1 b2 b3 b4:Bool) (c:Nat),vs=[.ref x,.str (sg c)]∧H x=some (.ins C dx (DK p q f b1 b2 b3 b4))∧∀ v H',aH H H'→Cb K H' v (qh p q f b4 c)→Q v H'
theorem xU:aM P w K mg base cy 1 (ay 27) (aO 27) ["dialect", "sign"] (pM K (ay 58)):=by
 refine T.qR.ok xG (fun vs H Q E h=>?_) (fun cdv A outer s H vs Q E hr h=>?_)
 ·obtain⟨x,dx,p,q,f,b1,b2,b3,b4,c,rfl,_⟩:=h;rfl
 ·have hu:=bA hr
  have jv:=hr.aQ
  obtain⟨x,dx,p,q,f,b1,b2,b3,b4,c,rfl,hx,k⟩:=h
  refine'⟨_,?aa,?bb⟩
  case aa =>
   refine' aq ?s0 ?r0
   case s0 =>
    refine' aP ?c1 ?b1 ?e1
    case c1=>exact(iW jk (pv 1) (aU K rfl (pv 0) rfl) rfl)
    case b1 =>
     refine' av ?s2
     case s2 =>
      refine' aC ?v3
      case v3 =>
       refine' aJ ?a4
       case a4 =>
        refine' af ?x5 ?y5 ?z5
        case z5=>exact ai
        case x5 =>
         exact aB
        case y5 =>
         refine' af ?x6 ?y6 ?z6
         case z6=>exact cO
         case x6 =>
          refine' aJ ?a7
          case a7 =>
           refine' af ?x8 ?y8 ?z8
           case z8=>exact ai
           case x8 =>
            exact aB
           case y8 =>
            refine' af ?x9 ?y9 ?z9
            case z9=>exact ai
            case x9 =>
             exact aB
            case y9 =>
             exact aj
         case y6 =>
          exact aj
    case e1 =>
     exact aE
   case r0 =>
    refine' aq ?Tt ?r10
    case Tt =>
     refine' aP ?Xm ?Xn ?VN
     case Xm=>exact(iM cN (pv 1) (qe rfl T.qx.choose_spec))
     case Xn =>
      refine' av ?s12
      case s12 =>
       refine' aC ?v13
       case v13 =>
        refine' aJ ?R1
        case R1 =>
         refine' af ?UD ?UE ?UG
         case UG=>exact ai
         case UD =>
          exact aB
         case UE =>
          refine' af ?UH ?UI ?UJ
          case UJ=>exact ak
          case UH =>
           exact(dj rfl T.pI)
          case UI =>
           exact aj
     case VN =>
      exact aE
    case r10 =>
     refine' aq ?SS ?Xo
     case SS =>
      refine' aP ?UK ?UL ?SV
      case UK=>exact(iW jk (pv 1) (aU K rfl (pv 0) rfl) rfl)
      case UL =>
       refine' av ?SW
       case SW =>
        refine' aC ?v20
        case v20 =>
         refine' aJ ?Xp
         case Xp =>
          refine' af ?R3 ?R4 ?R5
          case R5=>exact ai
          case R3 =>
           exact aB
          case R4 =>
           refine' af ?UM ?UN ?UO
           case UO=>exact cO
           case UM =>
            refine' aJ ?UP
            case UP =>
             refine' af ?Xq ?Xr ?Xs
             case Xs=>exact ai
             case Xq =>
              exact aB
             case Xr =>
              refine' af ?Xu ?Xv ?Xw
              case Xw=>exact ai
              case Xu =>
               exact aB
              case Xv =>
               exact aj
           case UN =>
            exact aj
      case SV =>
       exact aE
     case Xo =>
      refine' aq ?s27 ?r27
      case s27 =>
       refine' aP ?c28 ?b28 ?e28
       case c28=>exact(PW.pt (pX (iW jk (pv 1) (aU K rfl (pv 0) rfl) rfl) (mC (cY (bP (aU K rfl (pv 0) rfl))))))
       case b28 =>
        refine' av ?s29
        case s29 =>
         refine' aC ?v30
         case v30 =>
          refine' aJ ?a31
          case a31 =>
           refine' af ?x32 ?y32 ?z32
           case z32=>exact ai
           case x32 =>
            exact aB
           case y32 =>
            refine' af ?x33 ?y33 ?z33
            case z33=>exact ai
            case x33 =>
             exact aB
            case y33 =>
             exact aj
       case e28 =>
        exact aE
      case r27 =>
       refine' av ?s34
       case s34 =>
        refine' aC ?v35
        case v35 =>
         refine' aJ ?a36
         case a36 =>
          refine' af ?x37 ?y37 ?z37
          case z37=>exact ai
          case x37 =>
           exact aB
          case y37 =>
           refine' af ?x38 ?y38 ?z38
           case z38=>exact cO
           case x38 =>
            refine' aJ ?a39
            case a39 =>
             refine' af ?x40 ?y40 ?z40
             case z40=>exact ai
             case x40 =>
              exact aB
             case y40 =>
              refine' af ?x41 ?y41 ?z41
              case z41=>exact ai
              case x41 =>
               exact aB
              case y41 =>
               exact aj
           case y38 =>
            exact aj
  have e2:d9 (sg c) (B6 0)=d9 (sg c) (Str.ofString "\n"):=by rw[T.oi]
  refine⟨_,rfl,_,rfl,x,(ay 58),dx,_,_,rfl,hx,T.aK,T.bZ,rfl,_,_,rfl,rfl,_,rfl,dh (fun (h1:xr c f=true)=>?_) (fun (h1:¬xr c f=true)=>?_)⟩
  ·exact iS (by unfold qh;rw[if_pos h1]) nX k
  refine⟨_,rfl,rfl,_,rfl,dh (fun (h2:d9 (sg c) (B6 0)=true)=>?_) (fun (h2:¬d9 (sg c) (B6 0)=true)=>?_)⟩
  ·rw[e2] at h2
   exact Eo (by unfold qh;rw[if_neg h1,if_pos h2]) Jz (aH.refl _) (.inr T.pJ) k
  rw[e2] at h2
  refine⟨_,rfl,_,rfl,x,(ay 58),dx,_,_,rfl,hx,T.aK,T.cB,rfl,_,_,rfl,rfl,_,rfl,dh (fun (h3:xr c p=true)=>?_) (fun (h3:¬xr c p=true)=>?_)⟩
  ·exact iS (by unfold qh;rw[if_neg h1,if_neg h2,if_pos h3]) Ep k
  refine⟨_,rfl,_,rfl,x,(ay 58),dx,_,_,rfl,hx,T.aK,T.cJ,rfl,_,_,rfl,rfl,_,rfl,dh (fun (h4:xr c q=true)=>?_) (fun (h4:¬xr c q=true)=>?_)⟩
  ·refine⟨_,rfl,x,(ay 58),dx,_,_,rfl,hx,T.aK,T.f7,rfl,_,rfl,dh (fun (h5:(!b4)=true)=>?_) (fun (h5:¬(!b4)=true)=>?_)⟩
   ·exact AI (by unfold qh;rw[if_neg h1,if_neg h2,if_neg h3,if_pos h4,if_pos h5]) k
   exact iS (by unfold qh;rw[if_neg h1,if_neg h2,if_neg h3,if_pos h4,if_neg h5]) nu k
  refine eZ ?_
  exact iS (by unfold qh;rw[if_neg h1,if_neg h2,if_neg h3,if_neg h4]) nu k
def sO (K:W.Frag) (C:Addr):Sp:=fun vs H Q _=>∃(x dx:Addr) (p q f:Str) (b1 b2 b3 b4:Bool) (u:Str) (c:Nat),vs=[.ref x,.str u,.str (sg c)]∧H x=some (.ins C dx (DK p q f b1 b2 b3 b4))∧∀ v H',aH H H'→Cb K H' v (mF f b1 b2 u c)→Q v H'
theorem BH:aM P w K mg base cy 1 (ay 28) (aO 28) ["dialect", "quote", "sign"] (sO K (ay 58)):=by
 refine T.ud.ok Bf (fun vs H Q E h=>?_) (fun cdv A outer s H vs Q E hr h=>?_)
 ·obtain⟨x,dx,p,q,f,b1,b2,b3,b4,u,c,rfl,_⟩:=h;rfl
 ·have hu:=bA hr
  have jv:=hr.aQ
  obtain⟨x,dx,p,q,f,b1,b2,b3,b4,u,c,rfl,hx,k⟩:=h
  refine'⟨_,?aa,?bb⟩
  case aa =>
   refine' aq ?s0 ?r0
   case s0 =>
    refine' aP ?c1 ?b1 ?e1
    case c1=>exact(iW jk (pv 2) (aU K rfl (pv 0) rfl) rfl)
    case b1 =>
     refine' av ?s2
     case s2 =>
      refine' aC ?v3
      case v3 =>
       refine' aJ ?a4
       case a4 =>
        refine' af ?x5 ?y5 ?z5
        case z5=>exact ai
        case x5 =>
         exact aB
        case y5 =>
         refine' af ?x6 ?y6 ?z6
         case z6=>exact cO
         case x6 =>
          refine' aJ ?a7
          case a7 =>
           refine' af ?x8 ?y8 ?z8
           case z8=>exact ai
           case x8 =>
            exact aB
           case y8 =>
            refine' af ?x9 ?y9 ?z9
            case z9=>exact ak
            case x9 =>
             exact(pv 1)
            case y9 =>
             exact aj
         case y6 =>
          exact aj
    case e1 =>
     exact aE
   case r0 =>
    refine' aq ?Tt ?r10
    case Tt =>
     refine' aP ?Xm ?Xn ?VN
     case Xm=>exact(iM cN (pv 2) (pv 1))
     case Xn =>
      refine' av ?s12
      case s12 =>
       refine' aC ?v13
       case v13 =>
        refine' aJ ?R1
        case R1 =>
         refine' af ?UD ?UE ?UG
         case UG=>exact ai
         case UD =>
          exact aB
         case UE =>
          refine' af ?UH ?UI ?UJ
          case UJ=>exact AE
          case UH =>
           exact(rB (bP (aU K rfl (pv 0) rfl)) (aJ (af aB (af (pv 1) aj ak) ai)) (aJ (af aB (af aB aj ai) ai)))
          case UI =>
           exact aj
     case VN =>
      exact aE
    case r10 =>
     refine' aq ?SS ?Xo
     case SS =>
      refine' aP ?UK ?UL ?SV
      case UK=>exact(PW.pt (pX (iM cN (pv 2) (qe rfl T.qx.choose_spec)) (mC (cY (bP (aU K rfl (pv 0) rfl))))))
      case UL =>
       refine' av ?SW
       case SW =>
        refine' aC ?v20
        case v20 =>
         refine' aJ ?Xp
         case Xp =>
          refine' af ?R3 ?R4 ?R5
          case R5=>exact ai
          case R3 =>
           exact aB
          case R4 =>
           refine' af ?UM ?UN ?UO
           case UO=>exact ai
           case UM =>
            exact aB
           case UN =>
            exact aj
      case SV =>
       exact aE
     case Xo =>
      refine' av ?s24
      case s24 =>
       refine' aC ?v25
       case v25 =>
        refine' aJ ?a26
        case a26 =>
         refine' af ?x27 ?y27 ?z27
         case z27=>exact ai
         case x27 =>
          exact aB
         case y27 =>
          refine' af ?Xy ?Xz ?XA
          case XA=>exact cO
          case Xy =>
           refine' aJ ?a29
           case a29 =>
            refine' af ?x30 ?y30 ?z30
            case z30=>exact ai
            case x30 =>
             exact aB
            case y30 =>
             refine' af ?x31 ?y31 ?z31
             case z31=>exact ak
             case x31 =>
              exact(pv 1)
             case y31 =>
              exact aj
          case Xz =>
           exact aj
  have e2:d9 (sg c) (B6 0)=d9 (sg c) (Str.ofString "\n"):=by rw[T.oi]
  refine⟨_,rfl,_,rfl,x,(ay 58),dx,_,_,rfl,hx,T.aK,T.bZ,rfl,_,_,rfl,rfl,_,rfl,dh (fun (h1:xr c f=true)=>?_) (fun (h1:¬xr c f=true)=>?_)⟩
  ·exact⟨_,rfl,iS (by unfold mF;rw[if_pos h1]) nX k⟩
  refine⟨_,rfl,_,rfl,rfl,_,rfl,dh (fun (h2:d9 (sg c) u=true)=>?_) (fun (h2:¬d9 (sg c) u=true)=>?_)⟩
  ·refine⟨_,rfl,x,(ay 58),dx,_,_,rfl,hx,T.aK,T.gP,rfl,_,rfl,dh (fun (h3:b1=true)=>?_) (fun (h3:¬b1=true)=>?_)⟩
   ·exact⟨_,rfl,iS (by unfold mF;rw[if_neg h1,if_pos h2,if_pos h3]) nX k⟩
   exact iS (by unfold mF;rw[if_neg h1,if_pos h2,if_neg h3]) nX k
  refine⟨_,rfl,rfl,_,rfl,dh (fun (h3:d9 (sg c) (B6 0)=true)=>?_) (fun (h3:¬d9 (sg c) (B6 0)=true)=>?_)⟩
  ·rw[e2] at h3
   refine⟨_,rfl,x,(ay 58),dx,_,_,rfl,hx,T.aK,T.fB,rfl,_,rfl,dh (fun (h4:(!b2)=true)=>?_) (fun (h4:¬(!b2)=true)=>?_)⟩
   ·exact AI (by unfold mF;rw[if_neg h1,if_neg h2,if_pos h3,if_pos h4]) k
   exact⟨_,rfl,iS (by unfold mF;rw[if_neg h1,if_neg h2,if_pos h3,if_neg h4]) nu k⟩
  rw[e2] at h3
  refine eZ ?_
  exact⟨_,rfl,iS (by unfold mF;rw[if_neg h1,if_neg h2,if_neg h3]) nu k⟩
def nO (K:W.Frag) (C:Addr):Sp:=fun vs H Q _=>∃(x dx:Addr) (p q f:Str) (b1 b2 b3 b4:Bool) (c:Nat),vs=[.ref x,.str (sg c)]∧H x=some (.ins C dx (DK p q f b1 b2 b3 b4))∧∀ v H',aH H H'→Cb K H' v (mG p b3 c)→Q v H'
theorem sP:aM P w K mg base cy 1 (ay 29) (aO 29) ["dialect", "sign"] (nO K (ay 58)):=by
 refine T.oV.ok Bg (fun vs H Q E h=>?_) (fun cdv A outer s H vs Q E hr h=>?_)
 ·obtain⟨x,dx,p,q,f,b1,b2,b3,b4,c,rfl,_⟩:=h;rfl
 ·have hu:=bA hr
  have jv:=hr.aQ
  obtain⟨x,dx,p,q,f,b1,b2,b3,b4,c,rfl,hx,k⟩:=h
  refine'⟨_,?aa,?bb⟩
  case aa =>
   refine' aq ?s0 ?r0
   case s0 =>
    refine' aP ?c1 ?b1 ?e1
    case c1=>exact(iM cN (pv 1) (qe rfl T.qx.choose_spec))
    case b1 =>
     refine' av ?s2
     case s2 =>
      refine' aC ?v3
      case v3 =>
       refine' aJ ?a4
       case a4 =>
        refine' af ?x5 ?y5 ?z5
        case z5=>exact ai
        case x5 =>
         exact aB
        case y5 =>
         refine' af ?x6 ?y6 ?z6
         case z6=>exact ak
         case x6 =>
          exact(dj rfl T.pI)
         case y6 =>
          exact aj
    case e1 =>
     exact aE
   case r0 =>
    refine' aq ?s7 ?r7
    case s7 =>
     refine' aP ?c8 ?b8 ?e8
     case c8=>exact(iW jk (pv 1) (aU K rfl (pv 0) rfl) rfl)
     case b8 =>
      refine' av ?s9
      case s9 =>
       refine' aC ?v10
       case v10 =>
        refine' aJ ?a11
        case a11 =>
         refine' af ?XC ?XD ?XE
         case XE=>exact ai
         case XC =>
          exact aB
         case XD =>
          refine' af ?XF ?XG ?XH
          case XH=>exact cO
          case XF =>
           refine' aJ ?R1
           case R1 =>
            refine' af ?UD ?UE ?UG
            case UG=>exact ai
            case UD =>
             exact aB
            case UE =>
             refine' af ?UH ?UI ?UJ
             case UJ=>exact ai
             case UH =>
              exact aB
             case UI =>
              exact aj
          case XG =>
           exact aj
     case e8 =>
      exact aE
    case r7 =>
     refine' aq ?SS ?Xo
     case SS =>
      refine' aP ?UK ?UL ?SV
      case UK=>exact(PW.pt (pX (iM cN (pv 1) aB) (mC (bP (aU K rfl (pv 0) rfl)))))
      case UL =>
       refine' av ?SW
       case SW =>
        refine' aC ?v20
        case v20 =>
         refine' aJ ?Xp
         case Xp =>
          refine' af ?R3 ?R4 ?R5
          case R5=>exact ai
          case R3 =>
           exact aB
          case R4 =>
           refine' af ?UM ?UN ?UO
           case UO=>exact cO
           case UM =>
            refine' aJ ?UP
            case UP =>
             refine' af ?Xq ?Xr ?Xs
             case Xs=>exact ai
             case Xq =>
              exact aB
             case Xr =>
              refine' af ?Xu ?Xv ?Xw
              case Xw=>exact ai
              case Xu =>
               exact aB
              case Xv =>
               exact aj
           case UN =>
            exact aj
      case SV =>
       exact aE
     case Xo =>
      refine' av ?s27
      case s27 =>
       refine' aC ?v28
       case v28 =>
        refine' aJ ?a29
        case a29 =>
         refine' af ?x30 ?y30 ?z30
         case z30=>exact ai
         case x30 =>
          exact aB
         case y30 =>
          refine' af ?x31 ?y31 ?z31
          case z31=>exact ai
          case x31 =>
           exact aB
          case y31 =>
           exact aj
  have e2:d9 (sg c) (B6 0)=d9 (sg c) (Str.ofString "\n"):=by rw[T.oi]
  refine⟨_,rfl,rfl,_,rfl,dh (fun (h1:d9 (sg c) (B6 0)=true)=>?_) (fun (h1:¬d9 (sg c) (B6 0)=true)=>?_)⟩
  ·rw[e2] at h1
   exact Eo (by unfold mG;rw[if_pos h1]) Jz (aH.refl _) (.inr T.pJ) k
  rw[e2] at h1
  refine⟨_,rfl,_,rfl,x,(ay 58),dx,_,_,rfl,hx,T.aK,T.cB,rfl,_,_,rfl,rfl,_,rfl,dh (fun (h2:xr c p=true)=>?_) (fun (h2:¬xr c p=true)=>?_)⟩
  ·exact iS (by unfold mG;rw[if_neg h1,if_pos h2]) Ep k
  refine⟨_,rfl,rfl,_,rfl,dh (fun (h3:d9 (sg c) (" ":Str)=true)=>?_) (fun (h3:¬d9 (sg c) (" ":Str)=true)=>?_)⟩
  ·refine⟨_,rfl,x,(ay 58),dx,_,_,rfl,hx,T.aK,T.fD,rfl,_,rfl,dh (fun (h4:b3=true)=>?_) (fun (h4:¬b3=true)=>?_)⟩
   ·exact iS (by unfold mG;rw[if_neg h1,if_neg h2,if_pos h3,if_pos h4]) nX k
   exact AI (by unfold mG;rw[if_neg h1,if_neg h2,if_pos h3,if_neg h4]) k
  refine eZ ?_
  exact AI (by unfold mG;rw[if_neg h1,if_neg h2,if_neg h3]) k
def pN (K:W.Frag) (C:Addr):Sp:=fun vs H Q _=>∃(x dx:Addr) (p q f:Str) (b1 b2 b3 b4:Bool) (u:Str) (c:Nat),vs=[.ref x,.str u,.str (sg c)]∧H x=some (.ins C dx (DK p q f b1 b2 b3 b4))∧∀ v H',aH H H'→Cb K H' v (AJ p b3 u c)→Q v H'
theorem xV:aM P w K mg base cy 2 (ay 30) (aO 30) ["dialect", "quote", "sign"] (pN K (ay 58)):=by
 have oW:aM P w K mg base cy 1 (ay 29) (aO 29) ["dialect", "sign"] (nO K (ay 58)):=sP T
 refine T.qS.ok xH (fun vs H Q E h=>?_) (fun cdv A outer s H vs Q E hr h=>?_)
 ·obtain⟨x,dx,p,q,f,b1,b2,b3,b4,u,c,rfl,_⟩:=h;rfl
 ·have hu:=bA hr
  have jv:=hr.aQ
  obtain⟨x,dx,p,q,f,b1,b2,b3,b4,u,c,rfl,hx,k⟩:=h
  refine⟨_,(aq (aP (iM cN (pv 2) (pv 1)) (av (aC (aJ (af aB (af (aJ (af aB (af (pv 1) aj ak) ai)) aj cO) ai)))) aE)
   (av (aC (kB oW hr T.ug T.oV.kp T.uf (af (pv 0) (af (pv 2) aj ak) ak))))),?_⟩
  refine⟨_,rfl,_,rfl,rfl,_,rfl,dh (fun (h1:d9 (sg c) u=true)=>?_) (fun (h1:¬d9 (sg c) u=true)=>?_)⟩
  ·exact⟨_,rfl,iS (by unfold AJ;rw[if_pos h1]) nu k⟩
  refine⟨_,rfl,_,rfl,x,dx,p,q,f,b1,b2,b3,b4,c,rfl,hx,fun v H2 s2 r=>k v H2 s2 ?_⟩
  unfold AJ
  rw[if_neg h1]
  exact r
def ur (K:W.Frag) (C:Addr):Sp:=fun vs H Q _=>∃(x dx:Addr) (p q f:Str) (b1 b2 b3 b4:Bool) (u:Str) (c:Nat),vs=[.ref x,.str u,.str (sg c)]∧H x=some (.ins C dx (DK p q f b1 b2 b3 b4))∧∀ v H',aH H H'→Cb K H' v (rO b2 u c)→Q v H'
theorem Cz:aM P w K mg base cy 1 (ay 31) (aO 31) ["dialect", "quote", "sign"] (ur K (ay 58)):=by
 refine T.wg.ok Cg (fun vs H Q E h=>?_) (fun cdv A outer s H vs Q E hr h=>?_)
 ·obtain⟨x,dx,p,q,f,b1,b2,b3,b4,u,c,rfl,_⟩:=h;rfl
 ·have hu:=bA hr
  have jv:=hr.aQ
  obtain⟨x,dx,p,q,f,b1,b2,b3,b4,u,c,rfl,hx,k⟩:=h
  refine'⟨_,?aa,?bb⟩
  case aa =>
   refine' aq ?s0 ?r0
   case s0 =>
    refine' aP ?c1 ?b1 ?e1
    case c1=>exact(PW.pt (pX (iM cN (pv 2) (qe rfl T.qx.choose_spec)) (mC (cY (bP (aU K rfl (pv 0) rfl))))))
    case b1 =>
     refine' av ?s2
     case s2 =>
      refine' aC ?v3
      case v3 =>
       refine' aJ ?a4
       case a4 =>
        refine' af ?x5 ?y5 ?z5
        case z5=>exact ai
        case x5 =>
         exact aB
        case y5 =>
         refine' af ?x6 ?y6 ?z6
         case z6=>exact ai
         case x6 =>
          exact aB
         case y6 =>
          exact aj
    case e1 =>
     exact aE
   case r0 =>
    refine' av ?s7
    case s7 =>
     refine' aC ?v8
     case v8 =>
      refine' aJ ?a9
      case a9 =>
       refine' af ?x10 ?y10 ?z10
       case z10=>exact ai
       case x10 =>
        exact aB
       case y10 =>
        refine' af ?x11 ?y11 ?z11
        case z11=>exact AE
        case x11 =>
         exact(rB (iM cN (pv 1) aB) (aJ (af aB (af aB aj ai) ai)) (aJ (af aB (af (pv 1) aj ak) ai)))
        case y11 =>
         exact aj
  have e2:d9 (sg c) (B6 0)=d9 (sg c) (Str.ofString "\n"):=by rw[T.oi]
  refine⟨_,rfl,rfl,_,rfl,dh (fun (h1:d9 (sg c) (B6 0)=true)=>?_) (fun (h1:¬d9 (sg c) (B6 0)=true)=>?_)⟩
  ·rw[e2] at h1
   refine⟨_,rfl,x,(ay 58),dx,_,_,rfl,hx,T.aK,T.fB,rfl,_,rfl,dh (fun (h2:(!b2)=true)=>?_) (fun (h2:¬(!b2)=true)=>?_)⟩
   ·exact AI (by unfold rO;rw[if_pos h1,if_pos h2]) k
   refine⟨_,rfl,rfl,_,rfl,dh (fun (h9:d9 u ("":Str)=true)=>?_) (fun (h9:¬d9 u ("":Str)=true)=>?_)⟩
   ·exact iS (by unfold rO tw;rw[if_pos h1,if_neg h2,if_pos h9]) nu k
   exact⟨_,rfl,iS (by unfold rO tw;rw[if_pos h1,if_neg h2,if_neg h9]) nu k⟩
  rw[e2] at h1
  refine eZ ?_
  refine⟨_,rfl,rfl,_,rfl,dh (fun (h9:d9 u ("":Str)=true)=>?_) (fun (h9:¬d9 u ("":Str)=true)=>?_)⟩
  ·exact iS (by unfold rO tw;rw[if_neg h1,if_pos h9]) nu k
  exact⟨_,rfl,iS (by unfold rO tw;rw[if_neg h1,if_neg h9]) nu k⟩
def wC (K:W.Frag) (C CT:Addr):Sp:=fun vs H Q _=>∃(y s:Addr) (w u:Str) (c:Nat) (p q f:Str) (b1 b2 b3 b4:Bool),vs=[.ref y,.ref s,.str (sg c)]∧Tn C CT H y p q f b1 b2 b3 b4∧ck K H s [.str w,.str u]∧∀ v H',aH H H'→Cb K H' v (nA p q f b1 b2 b3 b4 w u c)→Q v H'
theorem ET:aM P w K mg base cy 3 (ay 32) (aO 32) ["self", "state", "sign"] (wC K (ay 58) (ay 59)):=by
 have tY:aM P w K mg base cy 1 (ay 26) (aO 26) ["dialect", "state", "sign"] (lM K (ay 58)):=sN T
 have oW:aM P w K mg base cy 1 (ay 29) (aO 29) ["dialect", "sign"] (nO K (ay 58)):=sP T
 have EU:aM P w K mg base cy 1 (ay 31) (aO 31) ["dialect", "quote", "sign"] (ur K (ay 58)):=Cz T
 have zq:aM P w K mg base cy 2 (ay 30) (aO 30) ["dialect", "quote", "sign"] (pN K (ay 58)):=xV T
 have zu:aM P w K mg base cy 1 (ay 27) (aO 27) ["dialect", "sign"] (pM K (ay 58)):=xU T
 have CA:aM P w K mg base cy 1 (ay 28) (aO 28) ["dialect", "quote", "sign"] (sO K (ay 58)):=BH T
 refine T.Hq.ok ql (fun vs H Q E h=>?_) (fun cdv A outer s H vs Q E hr h=>?_)
 ·obtain⟨y,s,w,u,c,p,q,f,b1,b2,b3,b4,rfl,_⟩:=h;rfl
 ·have hu:=bA hr
  have jv:=hr.aQ
  obtain⟨y,s,w,u,c,p,q,f,b1,b2,b3,b4,rfl,hT,hs,k⟩:=h
  obtain⟨dy,d,dd,hy,hd⟩:=hT.ok
  refine⟨_,(aq (lA 3 ql.nd (oQ K (pv 1) au) (hs:=gY))
   (aq (lA 4 ql.nd (oQ K (pv 1) au) (hs:=gY))
   (aq (aP (iM cN (pv 3) aB) (av (aC (kB zu hr T.zf T.qR.kp T.zd (af (aU K rfl (pv 0) rfl) (af (pv 2) aj ak) aV)))) aE)
   (aq (aP (iM cN (pv 3) aB) (av (aC (kB CA hr T.Cn T.ud.kp T.Ck (af (aU K rfl (pv 0) rfl) (af (pv 4) (af (pv 2) aj ak) ak) aV)))) aE)
   (aq (aP (iM cN (pv 3) aB) (av (aC (kB zq hr T.zh T.qS.kp T.zg (af (aU K rfl (pv 0) rfl) (af (pv 4) (af (pv 2) aj ak) ak) aV)))) aE)
   (aq (aP (iM cN (pv 3) aB) (av (aC (kB oW hr T.ug T.oV.kp T.uf (af (aU K rfl (pv 0) rfl) (af (pv 2) aj ak) aV)))) aE)
   (aq (aP (iM cN (pv 3) aB) (av (aC (kB EU hr T.EG T.wg.kp T.EF (af (aU K rfl (pv 0) rfl) (af (pv 4) (af (pv 2) aj ak) ak) aV)))) aE)
   (av (aC (kB tY hr T.tU T.lY.kp T.tS (af (aU K rfl (pv 0) rfl) (af (pv 1) (af (pv 2) aj ak) ak) aV))))))))))),?_⟩
  refine⟨_,rfl,s,_,_,_,rfl,rfl,hs,rfl,_,rfl,s,_,_,_,rfl,rfl,hs,rfl,?_⟩
  refine⟨_,rfl,rfl,_,rfl,dh (fun (h1:d9 w ("plain":Str)=true)=>?_) (fun (h1:¬d9 w ("plain":Str)=true)=>?_)⟩
  ·refine⟨_,rfl,y,(ay 59),dy,_,_,rfl,hy,T.jH,T.bX,rfl,_,rfl,d,dd,p,q,f,b1,b2,b3,b4,c,rfl,hd,fun v H2 s2 r=>k v H2 s2 ?_⟩
   rw[Ra h1]
   exact r
  refine⟨_,rfl,rfl,_,rfl,dh (fun (h2:d9 w ("within":Str)=true)=>?_) (fun (h2:¬d9 w ("within":Str)=true)=>?_)⟩
  ·refine⟨_,rfl,y,(ay 59),dy,_,_,rfl,hy,T.jH,T.bX,rfl,_,rfl,_,rfl,d,dd,p,q,f,b1,b2,b3,b4,u,c,rfl,hd,fun v H2 s2 r=>k v H2 s2 ?_⟩
   rw[M9 h2]
   exact r
  refine⟨_,rfl,rfl,_,rfl,dh (fun (h3:d9 w ("doubt":Str)=true)=>?_) (fun (h3:¬d9 w ("doubt":Str)=true)=>?_)⟩
  ·refine⟨_,rfl,y,(ay 59),dy,_,_,rfl,hy,T.jH,T.bX,rfl,_,rfl,_,rfl,d,dd,p,q,f,b1,b2,b3,b4,u,c,rfl,hd,fun v H2 s2 r=>k v H2 s2 ?_⟩
   rw[Rb h3]
   exact r
  refine⟨_,rfl,rfl,_,rfl,dh (fun (h4:d9 w ("behind":Str)=true)=>?_) (fun (h4:¬d9 w ("behind":Str)=true)=>?_)⟩
  ·refine⟨_,rfl,y,(ay 59),dy,_,_,rfl,hy,T.jH,T.bX,rfl,_,rfl,d,dd,p,q,f,b1,b2,b3,b4,c,rfl,hd,fun v H2 s2 r=>k v H2 s2 ?_⟩
   rw[Na h4]
   exact r
  refine⟨_,rfl,rfl,_,rfl,dh (fun (h5:d9 w ("freed":Str)=true)=>?_) (fun (h5:¬d9 w ("freed":Str)=true)=>?_)⟩
  ·refine⟨_,rfl,y,(ay 59),dy,_,_,rfl,hy,T.jH,T.bX,rfl,_,rfl,_,rfl,d,dd,p,q,f,b1,b2,b3,b4,u,c,rfl,hd,fun v H2 s2 r=>k v H2 s2 ?_⟩
   rw[Rc h5]
   exact r
  refine⟨_,rfl,y,(ay 59),dy,_,_,rfl,hy,T.jH,T.bX,rfl,_,rfl,_,rfl,d,dd,p,q,f,b1,b2,b3,b4,s,w,u,c,rfl,hd,hs,fun v H2 s2 r=>k v H2 s2 ?_⟩
  rw[Ui (rP h2) (rP h5) (rP h3) (rP h4)]
  unfold L5
  rw[if_neg h1]
  exact r
def om (K:W.Frag) (C CT:Addr):Sp:=fun vs H Q _=>∃(y s:Addr) (w u:Str) (c:Nat) (p q f:Str) (b1 b2 b3 b4:Bool),vs=[.ref y,.ref s,.str (sg c)]∧Tn C CT H y p q f b1 b2 b3 b4∧ck K H s [.str w,.str u]∧∀ v H',aH H H'→lvV K (vH p q f b1 b2 b3 b4 w u c) H' v→Q v H'
theorem wD:aM P w K mg base cy 4 (ay 33) (aO 33) ["self", "state", "sign"] (om K (ay 58) (ay 59)):=by
 have HH:aM P w K mg base cy 3 (ay 32) (aO 32) ["self", "state", "sign"] (wC K (ay 58) (ay 59)):=ET T
 have Nv:aM P w K mg base cy 1 (ay 24) (aO 24) ["dialect", "state"] (BG K (ay 58)):=JV T
 refine T.xJ.ok nZ (fun vs H Q E h=>?_) (fun cdv A outer s H vs Q E hr h=>?_)
 ·obtain⟨y,s,w,u,c,p,q,f,b1,b2,b3,b4,rfl,_⟩:=h;rfl
 ·have hu:=bA hr
  have jv:=hr.aQ
  obtain⟨y,s,w,u,c,p,q,f,b1,b2,b3,b4,rfl,hT,hs,k⟩:=h
  unfold vH at k
  refine⟨_,(aq (aP (iM uH (pv 1) cM) (av (aC cM)) aE)
   (aq (lA 3 nZ.nd (mD (k:=3) (pv 0) T.jH T.Hs HH (hr.mono (by decide)) T.Hr .nil kc (af (pv 1) (af (pv 2) aj ak) ak)) (hs:=cU))
   (aq (aP (PW.pt (j9 (iM cN (oQ K (pv 3) au) aB) (ko (cY (bP (kB Nv hr T.Nm T.DU.kp T.Nl (af (aU K rfl (pv 0) rfl) (af (oQ K (pv 3) au) aj aD) aV))))))) (av (aC cM)) aE)
   (av (aC (pv 3)))))),?_⟩
  obtain⟨dy,d,dd,ey,ed⟩:=hT.ok
  refine⟨_,rfl,rfl,_,rfl,Jp (fun z=>nomatch z) ⟨_,rfl,y,dy,_,rfl,ey,rfl,_,rfl,_,rfl,y,s,w,u,c,p,q,f,b1,b2,b3,b4,rfl,hT,hs,fun v H5 s5 r=>?_⟩⟩
  cases hr5:nA p q f b1 b2 b3 b4 w u c with
  | go kd w3 u3 =>
   rw[hr5] at r k
   obtain⟨hk,a,b,rfl,ha,hb⟩:=r
   have ey5:=s5 _ _ ey
   have ed5:=s5 _ _ ed
   have k:∀ v H',aH H H'→lvV K (if GW f w3 u3=true then some (kd,w3,u3) else none) H' v→Q v H':=k
   refine⟨_,rfl,a,_,_,_,rfl,rfl,ha,rfl,rfl,_,rfl,DL hk ?_⟩
   refine⟨_,rfl,y,_,_,_,_,rfl,ey5,T.jH,T.bX,rfl,_,rfl,a,_,_,_,rfl,rfl,ha,rfl,d,dd,b,w3,u3,p,q,f,b1,b2,b3,b4,rfl,ed5,hb,_,rfl,?_⟩
   by_cases hL:GW f w3 u3=true
   ·rw[if_pos hL] at k
    exact Q8 hL ⟨_,rfl,k _ _ s5 ⟨a,b,rfl,ha,hb⟩⟩
   ·rw[if_neg hL] at k
    exact Q9 (rP hL) (k _ _ s5 rfl)
  | Gh e =>
   rw[hr5] at r k
   obtain⟨a,rfl,ha⟩:=r
   have k:∀ v H',aH H H'→lvV K none H' v→Q v H':=k
   exact⟨_,rfl,a,_,_,_,rfl,rfl,ha,rfl,rfl,_,rfl,qN (rN _) (gj (k _ _ s5 rfl))⟩
def ki (K:W.Frag) (C CT CM:Addr):Sp:=fun vs H Q _=>∃(m:Addr) (v:V) (o:Option j7) (c:Nat) (ts:List (Str×Str)) (p q f:Str) (b1 b2 b3 b4:Bool),vs=[.ref m,v,.str (sg c)]∧wY K C CT CM H m p q f b1 b2 b3 b4 ts∧gF K H o v∧∀ v' H',aH H H'→gF K H' (afR p q f b1 b2 b3 b4 ts o c) v'→Q v' H'
theorem rq:aM P w K mg base cy 5 (ay 34) (aO 34) ["self", "mark", "sign"] (ki K (ay 58) (ay 59) (ay 60)):=by
 have pO:aM P w K mg base cy 4 (ay 33) (aO 33) ["self", "state", "sign"] (om K (ay 58) (ay 59)):=wD T
 have sQ:aM P w K mg base cy 1 (ay 25) (aO 25) ["tokens", "count", "kind", "sign"] (qX K):=zp T
 refine T.sq.ok cG (fun vs H Q E h=>?_) (fun cdv A outer s H vs Q E hr h=>?_)
 ·obtain⟨m,v,o,c,ts,p,q,f,b1,b2,b3,b4,rfl,_⟩:=h;rfl
 ·have hu:=bA hr
  have jv:=hr.aQ
  obtain⟨m,v,o,c,ts,p,q,f,b1,b2,b3,b4,rfl,hM,hv,k⟩:=h
  obtain⟨dm,y,l,ys,em,eT,el,tp⟩:=hM.ok
  cases o with
  | none =>
   have hv:v=.non:=hv
   subst hv
   refine⟨_,(aq (aP (iM uH (pv 1) cM) (av (aC cM)) aE)
   (aq (lA 3 cG.nd (mD (k:=4) (aU K rfl (pv 0) rfl) T.jH T.pH pO (hr.mono (by decide)) T.pG .nil kc (af (oQ K (pv 1) au) (af (pv 2) aj ak) aD)) (hs:=cU))
   (aq (aP (iM uH (pv 3) cM) (av (aC cM)) aE)
   (aq (lA 4 cG.nd (kB sQ hr T.sj T.nI.kp T.sd (af (aU K rfl (pv 0) rfl) (af (oQ K (pv 1) au) (af (oQ K (pv 3) au) (af (pv 2) aj ak) aD) aD) aV)) (hs:=cU))
   (av (aC (rB (iM uH (pv 4) cM) cM (aJ (af (oQ K (pv 3) au) (af (pv 4) aj ak) aD))))))))),?_⟩
   exact⟨_,rfl,rfl,_,rfl,Zl rfl (k _ _ (aH.refl _) rfl)⟩
  | some mk =>
  have k:∀ v' H',aH H H'→Er K (Um p q f b1 b2 b3 b4 ts mk c) H' v'→Q v' H':=fun v' H' s' q'=>k v' H' s' (Mi q')
  obtain⟨b,s,rfl,hb,hs⟩:=hv
  obtain⟨dy,d,dd,ey,ed⟩:=eT.ok
  refine⟨_,(aq (aP (iM uH (pv 1) cM) (av (aC cM)) aE)
   (aq (lA 3 cG.nd (mD (k:=4) (aU K rfl (pv 0) rfl) T.jH T.pH pO (hr.mono (by decide)) T.pG .nil kc (af (oQ K (pv 1) au) (af (pv 2) aj ak) aD)) (hs:=cU))
   (aq (aP (iM uH (pv 3) cM) (av (aC cM)) aE)
   (aq (lA 4 cG.nd (kB sQ hr T.sj T.nI.kp T.sd (af (aU K rfl (pv 0) rfl) (af (oQ K (pv 1) au) (af (oQ K (pv 3) au) (af (pv 2) aj ak) aD) aD) aV)) (hs:=cU))
   (av (aC (rB (iM uH (pv 4) cM) cM (aJ (af (oQ K (pv 3) au) (af (pv 4) aj ak) aD))))))))),?_⟩
  unfold Um at k
  refine⟨_,rfl,rfl,_,rfl,Jp (fun z=>nomatch z) (⟨_,rfl,_,_,_,_,_,rfl,em,T.ie,T.kQ,rfl,_,_,_,rfl,ey,rfl,_,rfl,_,_,_,_,rfl,rfl,hb,rfl,_,rfl,_,_,_,_,_,_,_,_,_,_,_,_,rfl,eT,hs,fun v5 H5 s5 r=>?_⟩)⟩
  cases hL:vH p q f b1 b2 b3 b4 mk.1.1 mk.1.2 c with
  | none =>
   rw[hL] at r k
   have r:v5=.non:=r
   subst r
   have k:∀ v' H',aH H H'→Er K none H' v'→Q v' H':=k
   exact⟨_,rfl,rfl,_,rfl,Zl rfl (k _ _ s5 rfl)⟩
  | some kwu =>
   obtain⟨kd,w3,u3⟩:=kwu
   rw[hL] at r k
   obtain⟨a,b2,rfl,ha,hb2⟩:=r
   have k:∀ v' H',aH H H'→Er K (match Rm ts mk.2 kd (sg c) with | none=>none | some n=>some ((w3,u3),n)) H' v'→Q v' H':=k
   have em5:=s5 _ _ em
   have el5:=s5 _ _ el
   have tp5:=kD s5 tp
   have hb5:=aS s5 hb
   refine⟨_,rfl,rfl,_,rfl,Jp (fun z=>nomatch z) ?_⟩
   refine⟨_,rfl,_,_,_,_,_,rfl,em5,T.ie,T.f9,rfl,_,rfl,_,_,_,_,rfl,rfl,hb5,rfl,_,rfl,_,_,_,_,rfl,rfl,ha,rfl,_,rfl,l,ys,ts,mk.2,kd,sg c,rfl,el5,tp5,fun H6 s6=>?_⟩
   have s56:=s5.trans s6
   cases hC:Rm ts mk.2 kd (sg c) with
   | none =>
    rw[hC] at k
    exact⟨_,rfl,rfl,_,rfl,Zl rfl (k _ _ s56 rfl)⟩
   | some n =>
    rw[hC] at k
    refine⟨_,rfl,rfl,_,rfl,Jp (fun z=>nomatch z) ⟨_,rfl,_,_,_,_,rfl,rfl,aS s6 ha,rfl,_,rfl,(by show 2≤sizeLine;decide),fun t ht=>?_⟩⟩
    exact k _ _ (s56.trans (ao ht)) ⟨t,b2,rfl,ck.of ah,aS (s6.trans (ao ht)) hb2⟩
def jR (K:W.Frag) (C CT CM:Addr):Sp:=fun vs H Q _=>∃(m:Addr) (v:V) (o:Option j7) (ts:List (Str×Str)) (p q f:Str) (b1 b2 b3 b4:Bool),vs=[.ref m,v]∧wY K C CT CM H m p q f b1 b2 b3 b4 ts∧gF K H o v∧∀ H',aH H H'→Q (.bl (decide (o=some ((Str.ofString "row",Str.ofString ""),ts.length)))) H'
theorem qz:aM P w K mg base cy 1 (ay 35) (aO 35) ["self", "mark"] (jR K (ay 58) (ay 59) (ay 60)):=by
 refine T.rm.ok qm (fun vs H Q E h=>?_) (fun cdv A outer s H vs Q E hr h=>?_)
 ·obtain⟨m,v,o,ts,p,q,f,b1,b2,b3,b4,rfl,_⟩:=h;rfl
 ·have hu:=bA hr
  have jv:=hr.aQ
  obtain⟨m,v,o,ts,p,q,f,b1,b2,b3,b4,rfl,hM,hv,k⟩:=h
  have xT:=hr.units
  obtain⟨dm,y,l,ys,em,eT,el,tp⟩:=hM.ok
  have tl:=tp.length
  refine⟨_,(av (aC (IJ (WK (YM _ _ K) rfl (hn1 xT)) (pv 1) (aJ (af (dj rfl T.pI) (af (i9 (bE K rfl) T.dH (af (aU K rfl (pv 0) rfl) aj aV)) aj bR) ak))))),?_⟩
  refine⟨_,rfl,_,rfl,_,_,_,_,_,rfl,em,T.ie,T.f9,rfl,_,_,rfl,.inl (bB.of el),(by show(2:Nat)≤sizeLine;decide),fun t ht=>?_⟩
  (have st:=ao (o:=HO.tup [V.ref (ay 86),V.int ↑ys.length]) ht;have g1:=ah (H:=H) (a:=t) (o:=HO.tup [V.ref (ay 86),V.int ↑ys.length]);generalize upd H t (HO.tup [V.ref (ay 86),V.int ↑ys.length])=H1 at st g1 ⊢)
  have e2:uJ (YM _ _ K) H1 (vC ((Str.ofString "row",Str.ofString ""),ts.length)) t:=Ej (P:=P) (w:=w) (m:=((Str.ofString "row",Str.ofString ""),ts.length)) (by rw[←tl];exact ck.of g1) (.inr T.pJ)
  refine⟨t,_,rfl,e2,?_⟩
  cases o with
  | none =>
   have hv:v=.non:=hv
   subst hv
   exact .inl ⟨rfl,k _ st⟩
  | some mk =>
   obtain⟨b,s,rfl,hb,hs⟩:=hv
   have e1:uJ (YM _ _ K) H1 (vC mk) b:=Ej (P:=P) (w:=w) (aS st hb) (aS st hs)
   refine .inr ⟨b,_,rfl,e1,?_⟩
   have ed:decide (vC mk=vC ((Str.ofString "row",Str.ofString ""),ts.length))=decide (some mk=some ((Str.ofString "row",Str.ofString ""),ts.length)):=by rw[Bool.eq_iff_iff,decide_eq_true_iff,decide_eq_true_iff,Option.some_inj];exact DB
   rw[ed]
   exact k _ st
def sR (K:W.Frag):Sp:=fun vs H Q _=>∃(l:Addr) (os:List V),vs=[.ref l]∧H l=some (.lst os)∧os.length≤1000∧∀ v H',aH H H'→fL K H' (uM os.length) v→Q v H'
theorem BI:aM P w K mg base cy 1 (ay 36) (aO 36) ["others"] (sR K):=by
 refine T.uh.ok Bh (fun vs H Q E h=>?_) (fun cdv A outer s H vs Q E hr h=>?_)
 ·obtain⟨l,os,rfl,_⟩:=h;rfl
 ·have hu:=bA hr
  have jv:=hr.aQ
  obtain⟨l,os,rfl,hl,hn,k⟩:=h
  refine⟨_,(av (aC (aJ (af (dj rfl T.pI) (af au (af (pcy (rH K rfl) T.wu (af (dW rfl (show bq ["others"] (aA gg) ["other"] 1 [] _ from GV) (cE K rfl (pv 0)) (fun _ _ _ _=>(qM 0 L4)) (fun _ _ _ _=>di) (fun _ _ _ _=>(aJ (af (dj rfl T.pI) (af au aj ai) ak)))) aj bF)) aj bR) ai) ak)))),?_⟩
  refine⟨_,rfl,_,rfl,⟨_,bB.of hl⟩,fun D hD=>?_⟩
  refine dB (K:=K) (a:=l) (xs:=os) (fun i vs τ J=>(∃ v,τ=[v])∧aH H J∧J D=some (.lst vs)∧vs.length=i∧Paired (gF K J) (List.replicate i (some stM)) vs) ⟨⟨_,rfl⟩,ao hD,ah,rfl,.nil⟩ (fun i vs τ J _ p=>⟨bB.of (p.2.1 _ _ hl),p.2.2.1⟩) ?_ ?_
  ·rintro i e vs τ J hi ⟨⟨v,rfl⟩,sJ,hJ,hvl,pr⟩
   have hil:i < os.length:=(List.getElem?_eq_some_iff.mp hi).1
   refine rM ⟨(by show 2≤sizeLine;decide),fun t ht=>?_⟩
   have st:=ao (o:=HO.tup [.ref (ay 86),.int 0]) ht
   have hJ3:=st _ _ hJ
   refine⟨hJ3,Nat.lt_of_le_of_lt (show vs.length≤1000 by omega) (by decide),⟨_,rfl⟩,bg hD (sJ.trans st),ah,(by rw[List.length_append];show vs.length+1=_;omega),?_⟩
   rw[List.replicate_succ']
   exact eV (pA hJ3 (mT st pr)) (pA hJ3 (.cons ⟨t,(ay 86),rfl,ck.of ah,.inr T.pJ⟩ .nil))
  rintro vs τ J ⟨⟨v,rfl⟩,sJ,hJ,hvl,pr⟩
  refine⟨D,vs,rfl,.inl ⟨bB.of hJ,fun u hu=>⟨(by show 3≤sizeLine;decide),fun t ht=>?_⟩⟩⟩
  have s1:=ao (o:=HO.tup vs) hu
  have s2:=ao (o:=HO.tup [.ref (ay 86),.int 0,.ref u]) ht
  exact k _ _ (sJ.trans (s1.trans s2)) ⟨t,(ay 86),u,vs,rfl,ck.of ah,.inr T.pJ,ck.of (s2 _ _ ah),mT (s1.trans s2) pr⟩
def qY (K:W.Frag) (C CT CM CP:Addr):Sp:=fun vs H Q _=>∃(y:Addr) (v:V) (m:lP) (x:nR) (cs:List nR) (ts:List (Str×Str)) (z:Str),vs=[.ref y,v]∧JC K C CT CM CP H y x cs ts z∧fL K H m v∧cs.length=m.2.length∧cs.length≤1000∧z.length≤1000∧∀ l vs H',H l=none→H' l=some (.lst vs)→yU K H' vs (jE x cs ts z m)→aH H H'→Q (.ref l) H'
theorem zv:aM P w K mg base cy 6 (ay 37) (aO 37) ["self", "place"] (qY K (ay 58) (ay 59) (ay 60) (ay 61)):=by
 have lN:aM P w K mg base cy 5 (ay 34) (aO 34) ["self", "mark", "sign"] (ki K (ay 58) (ay 59) (ay 60)):=rq T
 refine T.Bt.ok f6 (fun vs H Q E h=>?_) (fun cdv A outer s H vs Q E hr h=>?_)
 ·obtain⟨y,v,m,x,cs,ts,z,rfl,_⟩:=h;rfl
 ·have hu:=bA hr
  have jv:=hr.aQ
  obtain⟨y,v,m,x,cs,ts,z,rfl,hP,hv,hcl,hcn,Mt,k⟩:=h
  obtain⟨dy,mm,lm,ms,ey,eM,elm,eMs⟩:=hP.ok
  obtain⟨b,s,u,vs,rfl,hb,hs,hu,ho⟩:=hv
  refine⟨_,(aq (lA 2 f6.nd (bh aj) (hs:=kM))
   (aq (oN PassesOwn.never rfl (Am (aU K rfl (pv 0) rfl)) (qM 3 f6.nd)
   (aq (lA 4 f6.nd (mD (k:=5) (aU K rfl (pv 0) rfl) T.ie T.lK lN (hr.mono (by decide)) T.lJ .nil kc (af (Gn (LN K rfl) (pv 1) LH (LI au)) (af (pv 3) aj ak) aD)) (hs:=cU))
   (av (aP (iM zQ (pv 4) cM) (aq (LK (i:=5) rfl f6.nd rfl rfl (show bq ["self", "place", "found", "sign", "mark", "marks"] (aA fu) ["marker", "other", "sign"] 2 [3] _ from GV) (DH K rfl rfl T.RZ (af (aU K rfl (pv 0) rfl) (af (oQ K (pv 1) au) aj aD) aV)) (fun _ _ _ _=>(sZ K rfl 2 rfl (fT (qM 0 (show(["marker", "other", "sign"]:List Str).Nodup by decide +kernel)) (fT (qM 1 (show(["marker", "other", "sign"]:List Str).Nodup by decide +kernel)) sX)))) (fun _ _ _ _=>di) (fun _ _ _ _=>(mD (k:=5) (pv 0) T.ie T.lK lN (hr.mono (by decide)) T.lJ .nil kc (af (pv 1) (af (pv 2) aj ak) ak))))
   (av (kL (lQ K rfl PySem.F.plainAttrs_list PySem.F.slot_list_append PySem.F.type_list_append mR (pv 2) (af (aJ (af (pv 3) (af (aL (Qe K rfl) (pv 4) (aJ (af (pcy (rH K rfl) T.wu (af (pv 5) aj ak)) aj bR))) aj cj) ak)) aj cO))))) aE))))
   (av (aC (pv 2))))),?_⟩
  have Zm:=ho.length
  have hml:=eMs.length
  refine⟨(by decide),fun l hl=>⟨_,rfl,_,_,_,_,_,rfl,ao hl _ _ ey,T.gi,T.jI,rfl,_,rfl,?_⟩⟩
  refine LL (fun i σ J=>∃ us v1 v2 v3,σ=[some (.ref y),some (.ref b),some (.ref l),v1,v2,v3]∧aH H J∧J l=some (.lst us)∧us.length≤i∧yU K J us ((z.cps.toList.take i).filterMap fun c=>(Nc x ts m.1 c).map fun m'=>(c,(m',xu cs ts m.2 c)))) ⟨[],none,none,none,rfl,ao hl,ah,Nat.le_refl _,.nil⟩ ?_ ?_
  ·rintro i c σ J hi ⟨us,v1,v2,v3,rfl,sJ,hJ,hul,ld⟩
   rw[aY hi,List.filterMap_append]
   have hil:i < z.cps.toList.length:=(List.getElem?_eq_some_iff.mp hi).1
   rw[Array.length_toList] at hil
   have hil:i < z.length:=hil
   have eMJ:GZ K (ay 58) (ay 59) (ay 60) J mm x ts:=wY.mono sJ eM
   obtain⟨dm,yt,lt,yts,em,eT,el,tp⟩:=eMJ.ok
   refine⟨_,rfl,_,_,_,_,_,rfl,sJ _ _ ey,T.gi,T.gb,rfl,_,_,_,rfl,em,rfl,_,rfl,_,rfl,_,_,rfl,aS sJ hb,(by show ¬(_∧(2:Nat)=3);omega),fun pa hpa=>?_⟩
   have s1:=ao (o:=HO.tup [.ref s,.int (m.1.2:Int)]) hpa
   have q1:=ah (H:=J) (a:=pa) (o:=HO.tup [.ref s,.int (m.1.2:Int)])
   rw[show MK [V.ref s,.int (m.1.2:Int),.ref u] none (some 2)=[.ref s,.int (m.1.2:Int)] from rfl]
   generalize upd J pa (HO.tup [.ref s,.int (m.1.2:Int)])=J1 at s1 q1 ⊢
   refine⟨_,rfl,mm,.ref pa,some m.1,c,ts,_,_,_,_,_,_,_,rfl,wY.mono s1 eMJ,⟨pa,s,rfl,ck.of q1,aS (sJ.trans s1) hs⟩,fun v' J2 s2 hv'=>?_⟩
   have hv':gF K J2 (Nc x ts m.1 c) v':=hv'
   have UQ:=sJ.trans (s1.trans s2)
   have VM:=s2 _ _ (s1 _ _ hJ)
   cases hM:Nc x ts m.1 c with
   | none =>
    rw[hM] at hv'
    have hv':v'=.non:=hv'
    subst hv'
    refine⟨_,rfl,rfl,_,rfl,rdN rfl ⟨us,_,_,_,rfl,UQ,VM,by omega,?_⟩⟩
    rw[List.filterMap_cons,hM]
    simpa using tF (s1.trans s2) ld
   | some m' =>
    rw[hM] at hv'
    obtain⟨b3,s3,rfl,q3,q4⟩:=hv'
    refine⟨_,rfl,rfl,_,rfl,aam (fun z=>nomatch z) ?_⟩
    refine⟨_,rfl,_,_,_,_,_,rfl,UQ _ _ ey,T.gi,T.fE,rfl,_,rfl,_,_,_,_,rfl,rfl,aS UQ hb,rfl,lm,u,rfl,⟨_,bB.of (UQ _ _ elm)⟩,⟨_,aS UQ hu⟩,fun D hD=>?_⟩
    refine AB (K:=K) (a:=lm) (b:=u) (xs:=ms) (ys:=vs) (fun j ws τ G=>(∃ v w,τ=[v,w,some (.str (sg c))])∧aH J2 G∧G D=some (.lst ws)∧Paired (gF K G) (((cs.zip m.2).take j).map fun p=>VB p.1 ts p.2 c) ws) ⟨⟨_,_,rfl⟩,ao hD,ah,.nil⟩ (fun j ws τ G _ p=>⟨bB.of (p.2.1 _ _ (UQ _ _ elm)),aS (UQ.trans p.2.1) hu,p.2.2.1⟩) ?_ ?_
    ·rintro j e w' t ws τ G hj hw ht ⟨⟨u1,u2,rfl⟩,sG,hG,pr⟩
     obtain⟨x',hx',ma,rfl,hma⟩:=bD eMs j e hj
     obtain⟨o,hoi,hoa⟩:=rR ho j w' hw
     have st:=ao (o:=HO.tup [.ref ma,w']) ht
     have sT:=(UQ.trans sG).trans st
     have R6:GZ K (ay 58) (ay 59) (ay 60) _ ma x' ts:=wY.mono sT hma
     obtain⟨dm',y',l',ys',XI,_⟩:=R6.ok
     refine⟨t,_,rfl,ck.of ah,rfl,_,_,rfl,_,_,rfl,rfl,?_⟩
     dsimp only[Tq]
     rw[if_pos rfl]
     refine⟨_,rfl,_,_,_,rfl,XI,rfl,_,rfl,_,rfl,ma,w',o,c,ts,_,_,_,_,_,_,_,rfl,R6,AW sT hoa,fun v2 G2 s2' hv2=>?_⟩
     have hG2:=s2' _ _ (st _ _ hG)
     have hjl:j < ms.length:=(List.getElem?_eq_some_iff.mp hj).1
     have hpl:=pr.length
     rw[List.length_map,List.length_take] at hpl
     refine⟨hG2,Nat.lt_of_le_of_lt (show ws.length≤1000 by omega) (by decide),⟨_,_,rfl⟩,bg hD (sG.trans (st.trans s2')),ah,?_⟩
     have hz:(cs.zip m.2)[j]? = some (x',o):=by rw[List.getElem?_zip_eq_some];exact⟨hx',hoi⟩
     rw[aY hz,List.map_append]
     exact eV (pA hG2 (mT (st.trans s2') pr)) (pA hG2 (.cons hv2 .nil))
    rintro ws τ G ⟨⟨u1,u2,rfl⟩,sG,hG,pr⟩
    rw[List.take_of_length_le (by rw[List.length_zip];omega)] at pr
    have pr:Paired (gF K G) (xu cs ts m.2 c) ws:=pr
    have hJG:=sG _ _ VM
    have q3G:=aS sG q3
    dsimp only[cK]
    refine⟨_,rfl,.inl ⟨rfl,⟨_,bB.of hJG⟩⟩,_,rfl,_,rfl,_,rfl,_,_,rfl,.inl (⟨bB.of hG,fun tu htu=>⟨(by show 1≤sizeLine;decide),fun t1 ht1=>?_⟩⟩)⟩
    have f1:=ao (o:=HO.tup ws) htu
    have f2:=ao (o:=HO.tup [.ref tu]) ht1
    have w1:=f2 _ _ (ah (H:=G) (a:=tu) (o:=HO.tup ws))
    have w2:=ah (H:=upd G tu (HO.tup ws)) (a:=t1) (o:=HO.tup [.ref tu])
    have f12:=f1.trans f2
    generalize upd (upd G tu (HO.tup ws)) t1 (HO.tup [.ref tu])=G1 at w1 w2 f12 ⊢
    refine⟨b3,t1,_,_,rfl,rfl,aS f12 q3G,ck.of w2,(by simp),(by show 3≤sizeLine;decide),(fun z=>by cases z),fun _ p3 hp3=>⟨(by show 2≤sizeLine;decide),fun p4 hp4=>?_⟩⟩
    have f3:=ao (o:=HO.tup [.ref s3,.int (m'.2:Int),.ref tu]) hp3
    have f4:=ao (o:=HO.tup [.str (sg c),.ref p3]) hp4
    have w3:=f4 _ _ (ah (H:=G1) (a:=p3) (o:=HO.tup [.ref s3,.int (m'.2:Int),.ref tu]))
    have w4:=ah (H:=upd G1 p3 (HO.tup [.ref s3,.int (m'.2:Int),.ref tu])) (a:=p4) (o:=HO.tup [.str (sg c),.ref p3])
    have f14:=f12.trans (f3.trans f4)
    have w14:=(f3.trans f4) _ _ w1
    have hl4:=f14 _ _ hJG
    have hpl:fL K (upd (upd G1 p3 (HO.tup [.ref s3,.int (m'.2:Int),.ref tu])) p4 (HO.tup [.str (sg c),.ref p3])) (m',xu cs ts m.2 c) (.ref p3):=⟨p3,s3,tu,ws,rfl,ck.of w3,aS (sG.trans f14) q4,ck.of w14,mT f14 pr⟩
    refine⟨l,us,_,rfl,rfl,hl4,(Nat.lt_of_le_of_lt (show us.length≤1000 by omega) (by decide)),_,_,_,_,rfl,bg hl (UQ.trans (sG.trans f14)),ah,(by rw[List.length_append];show us.length+1≤_;omega),?_⟩
    rw[List.filterMap_cons,hM]
    exact eV (vJ hl4 (tF (s1.trans (s2.trans (sG.trans f14))) ld)) (vJ hl4 (.cons ⟨p4,.ref p3,rfl,w4,hpl⟩ .nil))
  ·rintro σ J ⟨us,v1,v2,v3,rfl,sJ,hJ,hul,ld⟩
   rw[List.take_of_length_le (Nat.le_refl _)] at ld
   exact⟨_,rfl,k l us J hl hJ ld sJ⟩
def oq (K:W.Frag) (C CT CM CP:Addr):Sp:=fun vs H Q _=>∃(y:Addr) (v:V) (m:lP) (x:nR) (cs:List nR) (ts:List (Str×Str)) (z:Str),vs=[.ref y,v]∧JC K C CT CM CP H y x cs ts z∧fL K H m v∧cs.length=m.2.length∧cs.length≤1000∧∀ H',aH H H'→Q (.bl (pB ts m)) H'
theorem wF:aM P w K mg base cy 2 (ay 38) (aO 38) ["self", "place"] (oq K (ay 58) (ay 59) (ay 60) (ay 61)):=by
 have kj:aM P w K mg base cy 1 (ay 35) (aO 35) ["self", "mark"] (jR K (ay 58) (ay 59) (ay 60)):=qz T
 refine T.xK.ok vQ (fun vs H Q E h=>?_) (fun cdv A outer s H vs Q E hr h=>?_)
 ·obtain⟨y,v,m,x,cs,ts,z,rfl,_⟩:=h;rfl
 ·have hu:=bA hr
  have jv:=hr.aQ
  obtain⟨y,v,m,x,cs,ts,z,rfl,hP,hv,hcl,hcn,k⟩:=h
  obtain⟨dy,mm,lm,ms,ey,eM,elm,eMs⟩:=hP.ok
  obtain⟨b,s,u,vs,rfl,hb,hs,hu,ho⟩:=hv
  obtain⟨dm,yt,lt,yts,em,eT,el,tp⟩:=eM.ok
  refine⟨_,(aq (aP (cY (bP (mD (k:=1) (aU K rfl (pv 0) rfl) T.ie T.kh kj (hr.mono (by decide)) T.kg .nil kc (af (Gn (LN K rfl) (pv 1) LH (LI au)) aj aD)))) (av (aC oX)) aE)
   (av (aC (Po (i9 (MT K rfl rfl) T.Xf (af (dW rfl (show bq ["self", "place"] (aA dD) ["marker", "mark"] 2 [] _ from GV) (DH K rfl rfl T.RZ (af (aU K rfl (pv 0) rfl) (af (oQ K (pv 1) au) aj aD) aV)) (fun _ _ _ _=>(sZ K rfl 2 rfl (fT (qM 0 (show(["marker", "mark"]:List Str).Nodup by decide +kernel)) (fT (qM 1 (show(["marker", "mark"]:List Str).Nodup by decide +kernel)) sX)))) (fun _ _ _ _=>di) (fun _ _ _ _=>(mD (k:=1) (pv 0) T.ie T.kh kj (hr.mono (by decide)) T.kg .nil kc (af (pv 1) aj ak)))) aj bF)))))),?_⟩
  refine⟨_,rfl,_,_,_,_,_,rfl,ey,T.gi,T.gb,rfl,_,_,_,rfl,em,rfl,_,rfl,_,rfl,_,_,rfl,hb,(by show ¬(_∧(2:Nat)=3);omega),fun pa hpa=>?_⟩
  have s1:=ao (o:=HO.tup [.ref s,.int (m.1.2:Int)]) hpa
  have q1:=ah (H:=H) (a:=pa) (o:=HO.tup [.ref s,.int (m.1.2:Int)])
  rw[show MK [V.ref s,.int (m.1.2:Int),.ref u] none (some 2)=[.ref s,.int (m.1.2:Int)] from rfl]
  generalize upd H pa (HO.tup [.ref s,.int (m.1.2:Int)])=H1 at s1 q1 ⊢
  refine⟨mm,.ref pa,some m.1,ts,_,_,_,_,_,_,_,rfl,wY.mono s1 eM,⟨pa,s,rfl,ck.of q1,aS s1 hs⟩,fun H2 s2=>?_⟩
  have s12:=s1.trans s2
  by_cases hd:m.1=DQ ts
  rotate_left
  ·rw[show decide (some m.1=some ((Str.ofString "row",Str.ofString ""),ts.length))=false from decide_eq_false fun z=>hd (Option.some.inj z)]
   refine⟨_,rfl,gj ?_⟩
   rw[show pB ts m=false by unfold pB;rw[decide_eq_false hd];rfl] at k
   exact k _ s12
  rw[show decide (some m.1=some ((Str.ofString "row",Str.ofString ""),ts.length))=true from decide_eq_true (congrArg some hd)]
  refine⟨_,rfl,eZ ?_⟩
  have Zm:=ho.length
  have hml:=eMs.length
  refine⟨_,rfl,_,_,_,_,_,rfl,s12 _ _ ey,T.gi,T.fE,rfl,_,rfl,_,_,_,_,rfl,rfl,aS s12 hb,rfl,lm,u,rfl,⟨_,bB.of (s12 _ _ elm)⟩,⟨_,aS s12 hu⟩,fun D hD=>?_⟩
  refine AB (K:=K) (a:=lm) (b:=u) (xs:=ms) (ys:=vs) (fun i us τ J=>(∃ v w,τ=[v,w])∧aH H2 J∧J D=some (.lst us)∧us=(m.2.take i).map fun o=>V.bl (decide (o=some (DQ ts)))) ⟨⟨_,_,rfl⟩,ao hD,ah,rfl⟩ (fun i us τ J _ p=>⟨bB.of (p.2.1 _ _ (s12 _ _ elm)),aS (s12.trans p.2.1) hu,p.2.2.1⟩) ?_ ?_
  ·rintro i e w' t us τ J hi hw ht ⟨⟨v1,v2,rfl⟩,sJ,hJ,hus⟩
   obtain⟨x',hx',ma,rfl,hma⟩:=bD eMs i e hi
   obtain⟨o,hoi,hoa⟩:=rR ho i w' hw
   have st:=ao (o:=HO.tup [.ref ma,w']) ht
   have sT:=(s12.trans sJ).trans st
   have R6:GZ K (ay 58) (ay 59) (ay 60) _ ma x' ts:=wY.mono sT hma
   obtain⟨dm',y',l',ys',XI,_⟩:=R6.ok
   refine⟨t,_,rfl,ck.of ah,rfl,_,_,rfl,_,_,rfl,rfl,?_⟩
   dsimp only[Tq]
   rw[if_pos rfl]
   refine⟨_,rfl,_,_,_,rfl,XI,rfl,_,rfl,ma,w',o,ts,_,_,_,_,_,_,_,rfl,R6,AW sT hoa,fun J2 s2=>?_⟩
   have VM:=s2 _ _ (st _ _ hJ)
   have hil:i < ms.length:=(List.getElem?_eq_some_iff.mp hi).1
   have hul:us.length≤i:=by rw[hus,List.length_map,List.length_take];omega
   refine⟨VM,Nat.lt_of_le_of_lt (show us.length≤1000 by omega) (by decide),⟨_,_,rfl⟩,bg hD (sJ.trans (st.trans s2)),ah,?_⟩
   rw[aY hoi,List.map_append,←hus]
   rfl
  rintro us τ J ⟨⟨v1,v2,rfl⟩,sJ,hJ,hus⟩
  rw[List.take_of_length_le (by omega)] at hus
  refine⟨D,m.2.map (fun o=>decide (o=some (DQ ts))),rfl,?_,_,rfl,?_⟩
  ·rw[List.map_map]
   rw[hus] at hJ
   exact bB.of hJ
  have hg:(!(m.2.map (fun o=>decide (o=some (DQ ts)))).any id)=pB ts m:=by unfold pB;rw[decide_eq_true hd,List.any_map];rfl
  rw[hg]
  exact k _ (s12.trans sJ)
def D0 (P:Program) (w:World) (K:W.Frag) (C CT CM CP:Addr):Sp:=fun vs H Q _=>∃(qa:Addr) (v:V) (n:Nat) (p0:lP) (x:nR) (cs:List nR) (ts:List (Str×Str)) (z:Str),vs=[v,.ref qa,.int n]∧JC K C CT CM CP H qa x cs ts z∧fL K H p0 v∧p0.2.length=cs.length∧cs.length≤1000∧z.length≤1000∧n≤4000∧∀ t rv r a cm H',H a=none→H' t=some (.tup [rv,.ref a])→afU K r H' rv→jF P w K H' a cm→A0 (pB ts) (jE x cs ts z) (some n) [(p0,none)] [p0] r cm→aH H H'→Q (.ref t) H'
theorem Nx:aM P w K mg base cy 7 (ay 39) (aO 39) ["first", "searched", "most"] (D0 P w K (ay 58) (ay 59) (ay 60) (ay 61)):=by
 have xW:aM P w K mg base cy 2 (ay 38) (aO 38) ["self", "place"] (oq K (ay 58) (ay 59) (ay 60) (ay 61)):=wF T
 have BJ:aM P w K mg base cy 6 (ay 37) (aO 37) ["self", "place"] (qY K (ay 58) (ay 59) (ay 60) (ay 61)):=zv T
 refine T.Ht.ok jn (fun vs H Q E h=>?_) (fun cdv A outer s H vs Q E hr h=>?_)
 ·obtain⟨qa,v,n,p0,x,cs,ts,z,rfl,_⟩:=h;rfl
 ·have hu:=bA hr
  have jv:=hr.aQ
  obtain⟨qa,v,n,p0,x,cs,ts,z,rfl,hW,hv,hp0,hcl,Mt,hn4,k⟩:=h
  have xT:=hr.units
  obtain⟨b,rfl⟩:=qj hv
  refine⟨_,(aq (lA 3 jn.nd (MY (YP P w K) (cu P w) rfl rfl rfl (hp1 xT) (pv 0) cM) (hs:=Ug))
   (aq (lA 4 jn.nd (bh (af (pv 0) aj ak)) (hs:=kM))
   (aq (Gi PassesOwn.never (iM (Tz K rfl jv) (pv 4) (bh aj))
   (aq (oN PassesOwn.never rfl (cE K rfl (pv 4)) (qM 5 jn.nd)
   (av (aP (bP (mD (k:=2) (pv 1) T.gi T.xN xW (hr.mono (by decide)) T.xM .nil kc (af (pv 5) aj ak))) (av (aC (aJ (af (pv 5) (af (pv 3) aj ak) ak)))) aE)))
   (aq (aP (PW.pt (pX (iM zQ (pv 2) cM) (mC (iM m9 (i9 (DJ (YP P w K) (cu P w) rfl rfl rfl) T.dH (af (pv 3) aj ak)) (pv 2))))) (av (aC (aJ (af cM (af (pv 3) aj ak) ai)))) aE)
   (aq (lA 6 jn.nd (bh aj) (hs:=kM))
   (aq (oN PassesOwn.never rfl (cE K rfl (pv 4)) (qM 5 jn.nd)
   (av (oN PassesOwn.never rfl (cE K rfl (mD (k:=6) (pv 1) T.gi T.Bv BJ (hr.mono (by decide)) T.Bu .nil kc (af (pv 5) aj ak))) (qM 7 jn.nd)
   (av (aP (VT (Jm (YP P w K) (cu P w) rfl rfl rfl (hp2 xT) (oQ K (pv 7) au) (pv 3))) (aq (QA (YP P w K) (cu P w) rfl rfl rfl (hp2 xT) (pv 3) (oQ K (pv 7) au) (aJ (af (pv 5) (af (oQ K (pv 7) au) aj aD) ak)) rfl)
   (av (kL (lQ K rfl PySem.F.plainAttrs_list PySem.F.slot_list_append PySem.F.type_list_append mR (pv 6) (af (oQ K (pv 7) au) aj aD))))) aE)))))
   (av (lA 4 jn.nd (pv 6) (hs:=Uh))))))))
   (av (aC (aJ (af cM (af (pv 3) aj ak) ai))))))),?_⟩
  refine nj fun Rk hk=>?_
  refine fun a ha=>?_
  have sA:=ao (o:=dN (ZP P w) (cu P w) a []) ha
  refine⟨_,rfl,cD p0,b,rfl,ah,tG (fZ sA hv),?_⟩
  have c1:jF P w K (upd (upd H a (dN (ZP P w) (cu P w) a [])) a (dN (ZP P w) (cu P w) a [(cD p0,b,.non)])) a [(p0,none)]:=jF.one ah (fZ sA hv)
  have s1:aH H (upd (upd H a (dN (ZP P w) (cu P w) a [])) a (dN (ZP P w) (cu P w) a [(cD p0,b,.non)])):=bg ha sA
  generalize upd (upd H a (dN (ZP P w) (cu P w) a [])) a (dN (ZP P w) (cu P w) a [(cD p0,b,.non)])=H1 at c1 s1 ⊢
  refine hk _ _ _ (nj fun Rk hk=>?_)
  refine⟨_,rfl,(by show 1≤sizeLine;decide),fun l0 El=>?_⟩
  have s2:=ao (o:=HO.lst [.ref b]) El
  have g2:=ah (H:=H1) (a:=l0) (o:=HO.lst [.ref b])
  generalize upd H1 l0 (.lst [.ref b])=H2 at s2 g2 ⊢
  have s12:=s1.trans s2
  dsimp only[cK]
  refine hk _ _ _ (nj fun Rk hk=>?_)
  refine⟨fun nn σ J=>∃ l vs br cm v5 v6 v7,σ=[some (.ref b),some (.ref qa),some (.int n),some (.ref a),some (.ref l),v5,v6,v7]∧aH H J∧J l=some (.lst vs)∧xC K J vs br∧jF P w K J a cm∧br.length≤cm.length∧(∀ m∈br,m.2.length=cs.length)∧(∀ r Pc,A0 (pB ts) (jE x cs ts z) (some n) cm br r Pc→A0 (pB ts) (jE x cs ts z) (some n) [(p0,none)] [p0] r Pc)∧nn=2 * (n+1 - cm.length)+(if br=[] then 0 else 1),⟨_,l0,_,[p0],_,_,_,_,rfl,s12,g2,.cons (fZ s12 hv) .nil,c1.mono s2,(by simp),(fun m hm=>by rw[List.mem_singleton.mp hm];exact hp0),fun r Pc q=>q,rfl⟩,?_⟩
  rintro nn σ J ⟨l,vs,br,cm,v5,v6,v7,rfl,sJ,hl,em,ca,iu,eU,hR,hn⟩
  refine⟨_,rfl,(by decide),fun e he=>⟨_,_,_,rfl,rfl,bB.of (ao he _ _ hl),bB.of ah,_,rfl,?_⟩⟩
  have se:=ao (o:=HO.lst []) he
  replace sJ:=sJ.trans se
  replace hl:=se _ _ hl
  replace em:=em.keep fun b xs q=>aS se q
  replace ca:=ca.mono se
  generalize upd J e (.lst [])=J1 at sJ hl em ca ⊢
  clear se he
  cases em with
  | nil =>
   refine eZ (hk _ _ _ ⟨_,rfl,(by show 2≤sizeLine;decide),fun t ht=>?_⟩)
   exact k t .non none a cm _ ha ah rfl (ca.mono (ao ht)) (hR _ _ .stop) (sJ.trans (ao ht))
  | @cons v1 e1 vs br h1 em =>
  have em:xC K J1 (v1 :: vs) (e1 :: br):=.cons h1 em
  have hne:e1 :: br≠[]:=fun q=>nomatch q
  refine gj ?_
  generalize e1 :: br=br at em hne hn hR eU iu
  generalize v1 :: vs=vs at em hl
  rw[if_neg hne] at hn
  refine⟨fun σ G=>∃ l vs v5 v6 v7,σ=[some (.ref b),some (.ref qa),some (.int n),some (.ref a),some (.ref l),v5,v6,v7]∧br.find? (pB ts)=none∧cm.length≤n∧aH H G∧G l=some (.lst vs)∧xC K G vs (gn (jE x cs ts z) cm br).2∧jF P w K G a (gn (jE x cs ts z) cm br).1∧∀ m∈(gn (jE x cs ts z) cm br).2,m.2.length=cs.length,?_,?_⟩
  ·rintro σ G ⟨l,vs,v5,v6,v7,rfl,hf,hmo,sG,hl,em,ca,eU'⟩
   refine⟨_,?_,l,vs,_,_,v5,v6,v7,rfl,sG,hl,em,ca,(by have q:=pD (led:=jE x cs ts z) br (cm,[]);simp only[List.length_nil,Nat.add_zero] at q;unfold gn;omega),eU',fun r Pc q=>hR r Pc (.go hne hf (fun n' e=>by cases e;exact hmo) q),rfl⟩
   have e1:=pD (led:=jE x cs ts z) br (cm,[])
   unfold gn
   rw[hn]
   simp only[List.length_nil,Nat.add_zero] at e1
   by_cases q:(br.foldl (nS (jE x cs ts z)) (cm,[])).2=[]
   ·rw[if_pos q];rw[q,List.length_nil] at e1;omega
   ·rw[if_neg q]
    have:=List.length_pos_iff.mpr q
    omega
  refine nj fun R2 hk2=>?_
  refine⟨_,rfl,l,rfl,⟨_,bB.of hl⟩,?_⟩
  refine rD (K:=K) (a:=l) (xs:=vs) (fun i σ G=>aH J1 G∧(∀ m∈br.take i,pB ts m=false)∧∃ v5,σ=[some (.ref b),some (.ref qa),some (.int n),some (.ref a),some (.ref l),v5,v6,v7]) ⟨aH.refl _,(fun m hm=>nomatch hm),_,rfl⟩ (fun i σ G _ q=>bB.of (q.1 _ _ hl)) ?_ ?_
  ·rintro i e2 σ G hi ⟨sG,hno,v5',rfl⟩
   obtain⟨m,hm,hv⟩:=bD em i e2 hi
   have XJ:=fZ sG hv
   have hWG:=hW.mono (sJ.trans sG)
   obtain⟨dx,mm,ll,ys,ex,eM,el,tp⟩:=hWG.ok
   obtain⟨bx,rfl⟩:=qj XJ
   dsimp only[cK]
   refine⟨_,rfl,_,_,_,rfl,ex,rfl,_,rfl,qa,.ref bx,m,x,cs,ts,z,rfl,hWG,XJ,(eU m (List.mem_of_getElem? hm)).symm,hcl,fun G2 s2=>⟨_,rfl,?_⟩⟩
   by_cases hg:pB ts m=true
   ·refine qN hg ⟨_,rfl,_,rfl,(by show 2≤sizeLine;decide),fun t ht=>?_⟩
    have st:=(sG.trans s2).trans (ao (o:=HO.tup [.ref bx,.ref a]) ht)
    exact k t _ (some m) a cm _ ha ah (fZ st hv) (ca.mono st) (hR _ _ (.found (Rt hm hg hno))) (sJ.trans st)
   ·refine DL (rP hg) ⟨sG.trans s2,fun m' hm'=>?_,_,rfl⟩
    rw[aY hm] at hm'
    rcases List.mem_append.mp hm' with z | z
    ·exact hno m' z
    ·rw[List.mem_singleton.mp z];exact rP hg
  rintro σ G ⟨sG,hno,v5',rfl⟩
  rw[em.length,List.take_of_length_le (Nat.le_refl _)] at hno
  have hf:=Ru hno
  replace sJ:=sJ.trans sG
  replace hl:=sG _ _ hl
  replace em:=em.keep fun b xs q=>aS sG q
  replace ca:=ca.mono sG
  clear sG
  dsimp only[cK]
  obtain⟨aaP,nd0,cr0⟩:=ca.ok
  have kl0:=xB cr0
  refine hk2 _ _ _ (nj fun R2 hk2=>?_)
  refine⟨_,rfl,rfl,_,rfl,aam (fun z=>nomatch z) (⟨_,rfl,_,_,rfl,nd0,_,rfl,_,_,rfl,rfl,_,rfl,?_⟩)⟩
  by_cases hmo:cm.length≤n
  rotate_left
  ·refine qN (decide_eq_true (show(n:Int) < (aaP.length:Int) by omega)) ⟨_,rfl,(by show 2≤sizeLine;decide),fun t ht=>?_⟩
   exact k t .non none a cm _ ha ah rfl (ca.mono (ao ht)) (hR _ _ (.over rfl hne hf (by omega))) (sJ.trans (ao ht))
  refine DL (decide_eq_false (show ¬(n:Int) < (aaP.length:Int) by omega)) (hk2 _ _ _ (nj fun R2 hk2=>⟨(by decide),fun lf Zv=>hk2 _ _ _ (nj fun R2 hk2=>⟨_,rfl,l,rfl,⟨_,bB.of (ao Zv _ _ hl)⟩,?_⟩)⟩))
  have sf:=ao (o:=HO.lst []) Zv
  have aaQ:=ah (H:=G) (a:=lf) (o:=HO.lst [])
  have nlf:lf≠l:=fun q=>by rw[q,hl] at Zv;cases Zv
  have flf:H lf=none:=sJ.free Zv
  replace sJ:=sJ.trans sf
  replace hl:=sf _ _ hl
  replace em:=em.keep fun b xs q=>aS sf q
  replace ca:=ca.mono sf
  generalize upd G lf (.lst [])=G1 at sJ hl em ca aaQ ⊢
  clear sf Zv
  refine rD (K:=K) (a:=l) (xs:=vs) (fun i σ J=>aH H J∧J l=some (.lst vs)∧xC K J vs br∧∃ fv v5 v7,σ=[some (.ref b),some (.ref qa),some (.int n),some (.ref a),some (.ref l),v5,some (.ref lf),v7]∧J lf=some (.lst fv)∧xC K J fv ((br.take i).foldl (nS (jE x cs ts z)) (cm,[])).2∧jF P w K J a ((br.take i).foldl (nS (jE x cs ts z)) (cm,[])).1∧((br.take i).foldl (nS (jE x cs ts z)) (cm,[])).1.length≤cm.length+i * 1000∧∀ m∈((br.take i).foldl (nS (jE x cs ts z)) (cm,[])).2,m.2.length=cs.length) ⟨sJ,hl,em,[],_,_,rfl,aaQ,.nil,ca,(by show cm.length≤cm.length+0 * 1000;omega),fun m hm=>nomatch hm⟩ (fun i σ J _ q=>bB.of q.2.1) ?_ ?_
  ·rintro i e2 σ J hi ⟨Zw,hl',XI,fv,v5',v7',rfl,hfv,mf,ca',iu',fU⟩
   obtain⟨m,hm,hv⟩:=bD XI i e2 hi
   have hmU:=eU m (List.mem_of_getElem? hm)
   have hil:=(List.getElem?_eq_some_iff.mp hm).1
   have VO:∀ e∈jE x cs ts z m,e.2.2.length=cs.length:=fun e he=>Rw hmU he
   have aaR:=Nf (x:=x) (cs:=cs) (ts:=ts) (z:=z) (m:=m)
   have ef:(br.take (i+1)).foldl (nS (jE x cs ts z)) (cm,[])=(jE x cs ts z m).foldl (jb m) ((br.take i).foldl (nS (jE x cs ts z)) (cm,[])):=by rw[aY hm,List.foldl_append];rfl
   rw[ef]
   have hal:((br.take i).foldl (nS (jE x cs ts z)) (cm,[])).2.length≤((br.take i).foldl (nS (jE x cs ts z)) (cm,[])).1.length:=by
    have q:=pD (led:=jE x cs ts z) (br.take i) (cm,[])
    simp only[List.length_nil,Nat.add_zero] at q
    omega
   generalize (br.take i).foldl (nS (jE x cs ts z)) (cm,[])=acc at mf ca' iu' fU hal ⊢
   have hWG:=hW.mono Zw
   obtain⟨dx,mm,ll0,ys,ex,eM,el,tp⟩:=hWG.ok
   obtain⟨bx,rfl⟩:=qj hv
   dsimp only[cK]
   refine⟨_,rfl,_,_,_,rfl,ex,rfl,_,rfl,qa,.ref bx,m,x,cs,ts,z,rfl,hWG,hv,hmU.symm,hcl,Mt,fun ll us J2 aaS hll ld s2=>?_⟩
   have nll:ll≠lf:=fun q=>by rw[q,hfv] at aaS;cases aaS
   have ca2:=ca'.mono s2
   refine⟨ll,rfl,⟨_,bB.of hll⟩,?_⟩
   generalize hes:jE x cs ts z m=es at ld VO aaR ⊢
   refine rD (K:=K) (a:=ll) (xs:=us) (fun j σ G=>aH H G∧G ll=some (.lst us)∧yU K G us es∧G l=some (.lst vs)∧xC K G vs br∧fL K G m (.ref bx)∧∃ fv v7,σ=[some (.ref b),some (.ref qa),some (.int n),some (.ref a),some (.ref l),some (.ref bx),some (.ref lf),v7]∧G lf=some (.lst fv)∧xC K G fv ((es.take j).foldl (jb m) acc).2∧jF P w K G a ((es.take j).foldl (jb m) acc).1∧((es.take j).foldl (jb m) acc).1.length≤cm.length+i * 1000+j∧∀ m'∈((es.take j).foldl (jb m) acc).2,m'.2.length=cs.length) ⟨Zw.trans s2,hll,ld,s2 _ _ hl',XI.keep (fun b xs q=>aS s2 q),fZ s2 hv,fv,_,rfl,s2 _ _ hfv,mf.keep (fun b xs q=>aS s2 q),ca2,iu',fU⟩ (fun j σ G _ q=>bB.of q.2.1) ?_ ?_
   ·rintro j e3 σ G hj ⟨sG,XM,ldG,hlG,emG,XJ,fv,v7',rfl,hfG,Zx,Zy,iuG,Zz⟩
    obtain⟨⟨c,m'⟩,QG,t3,w3,rfl,h3,hm3⟩:=bD ldG j e3 hj
    have afY:=VO _ (List.mem_of_getElem? QG)
    have ev:(es.take (j+1)).foldl (jb m) acc=jb m ((es.take j).foldl (jb m) acc) (c,m'):=by rw[aY QG,List.foldl_append];rfl
    rw[ev]
    have afZ:((es.take j).foldl (jb m) acc).2.length≤((es.take j).foldl (jb m) acc).1.length:=by
     have q:=xx (p:=m) (es.take j) acc
     omega
    generalize (es.take j).foldl (jb m) acc=ac at Zx Zy iuG Zz afZ ⊢
    have hjl:=(List.getElem?_eq_some_iff.mp QG).1
    obtain⟨kvs,d,cr⟩:=Zy.ok
    have kl:=xB cr
    obtain⟨b3,rfl⟩:=qj hm3
    have ka:uJ (YP P w K) G (cD m') b3:=tG hm3
    dsimp only[cK]
    refine⟨_,rfl,t3,_,_,_,rfl,rfl,ck.of h3,rfl,_,rfl,a,kvs,cD m',b3,rfl,rfl,d,ka,_,rfl,?_⟩
    rw[xA cr]
    cases hh:fK ac.1 m' with
    | true =>
     have e4:jb m ac (c,m')=ac:=if_pos hh
     rw[e4]
     exact eZ ⟨sG,XM,ldG,hlG,emG,XJ,fv,_,rfl,hfG,Zx,Zy,by omega,Zz⟩
    | false =>
     have e4:jb m ac (c,m')=(ac.1++[(m',some (m,c))],ac.2++[m']):=if_neg (by rw[hh];decide)
     rw[e4]
     refine gj ?_
     refine⟨_,rfl,_,rfl,t3,_,_,_,rfl,rfl,ck.of h3,rfl,(by show 2≤sizeLine;decide),fun t4 ht4=>?_⟩
     have s4:=ao (o:=HO.tup [.ref bx,.str (sg c)]) ht4
     have g4:=ah (H:=G) (a:=t4) (o:=HO.tup [.ref bx,.str (sg c)])
     generalize upd G t4 (.tup [.ref bx,.str (sg c)])=G4 at s4 g4 ⊢
     have d4:=d.mono s4
     have cr4:=cr.keep fun b xs q=>aS s4 q
     have hm4:=fZ s4 hm3
     have lk4:vM K (some (m,c)) G4 (.ref t4):=⟨t4,.ref bx,rfl,ck.of g4,fZ s4 XJ⟩
     have c5:=jF.put d4 cr4 hm4 hh lk4
     have hkl:kvs.length < sizeLine:=Nat.lt_of_le_of_lt (show kvs.length≤5000000 by omega) (by decide)
     refine⟨_,rfl,_,rfl,t3,_,_,_,rfl,rfl,ck.of (s4 _ _ h3),rfl,a,kvs,cD m',b3,rfl,rfl,d4,uJ.mono s4 ka,hkl,?_⟩
     have tq:=Av (F:=K) d4.ob (o:=dN (ZP P w) (cu P w) a (putN kvs (cD m') b3 (.ref t4)))
     have t1:∀ b' xs,G4 b'=some (.tup xs)→(upd G4 a (dN (ZP P w) (cu P w) a (putN kvs (cD m') b3 (.ref t4)))) b'=some (.tup xs):=fun b' xs e=>(aF (lu e d4.ob (fun q=>nomatch q))).trans e
     have tl:∀ b' xs,G4 b'=some (.lst xs)→(upd G4 a (dN (ZP P w) (cu P w) a (putN kvs (cD m') b3 (.ref t4)))) b'=some (.lst xs):=fun b' xs e=>(aF (lu e d4.ob (fun q=>nomatch q))).trans e
     have s5:aH H (upd G4 a (dN (ZP P w) (cu P w) a (putN kvs (cD m') b3 (.ref t4)))):=bg ha (sG.trans s4)
     have ll5:=tl _ _ (s4 _ _ XM)
     have l5:=tl _ _ (s4 _ _ hlG)
     have UR:=tl _ _ (s4 _ _ hfG)
     have ld5:=yU.keep t1 tq (tF s4 ldG)
     have em5:=(emG.keep fun b xs q=>aS s4 q).keep tq
     have mf5:=(Zx.keep fun b xs q=>aS s4 q).keep tq
     have hv5:=fL.keep tq (fZ s4 XJ)
     have hm5:=hm4.keep tq
     have h35:=t1 _ _ (s4 _ _ h3)
     generalize upd G4 a (dN (ZP P w) (cu P w) a (putN kvs (cD m') b3 (.ref t4)))=G5 at c5 s5 ll5 l5 UR ld5 em5 mf5 hv5 hm5 h35 ⊢
     have fvl:=mf5.length
     refine⟨_,rfl,.inl ⟨rfl,_,bB.of UR⟩,_,rfl,t3,_,_,_,rfl,rfl,ck.of h35,rfl,lf,_,_,rfl,rfl,UR,?_,?_⟩
     ·exact Nat.lt_of_le_of_lt (show fv.length≤5000000 by rw[fvl];omega) (by decide)
     refine⟨bg flf s5,(aF nll).trans ll5,vJ UR ld5,(aF (Ne.symm nlf)).trans l5,em5.keep (fun b xs q=>qi UR q),Es UR hv5,fv++[.ref b3],_,rfl,ah,eV (mf5.keep fun b xs q=>qi UR q) (.cons (Es UR hm5) .nil),c5.but UR,(by rw[List.length_append];show ac.1.length+1≤_;omega),fun m1 hm1=>?_⟩
     rcases List.mem_append.mp hm1 with z | z
     ·exact Zz m1 z
     ·rw[List.mem_singleton.mp z];exact afY
   ·rintro σ G ⟨sG,XM,ldG,hlG,emG,XJ,fv,v7',rfl,hfG,Zx,Zy,iuG,Zz⟩
    rw[ld.length,List.take_of_length_le (Nat.le_refl _)] at Zx Zy iuG Zz
    exact⟨sG,hlG,emG,fv,_,_,rfl,hfG,Zx,Zy,by omega,Zz⟩
  ·rintro σ J ⟨Zw,hl',XI,fv,v5',v7',rfl,hfv,mf,ca',iu',fU⟩
   rw[em.length,List.take_of_length_le (Nat.le_refl _)] at mf ca' iu' fU
   exact hk2 _ _ _ ⟨_,rfl,lf,fv,_,_,_,rfl,hf,hmo,Zw,hfv,mf,ca',fU⟩
def BK (P:Program) (w:World) (K:W.Frag):Sp:=fun vs H Q _=>∃(a:Addr) (v:V) (cm:(kN lP)) (m:lP) (x:Option (lP×Nat)) (xs:List Nat),vs=[.ref a,v]∧jF P w K H a cm∧fL K H m v∧AY cm m=some x∧vK cm x xs∧xs.length≤100000∧∀ H',aH H H'→Q (.str (Txt.join ("":Str) (xs.map sg).reverse)) H'
theorem JW:aM P w K mg base cy 1 (ay 40) (aO 40) ["came", "place"] (BK P w K):=by
 refine T.DV.ok qo (fun vs H Q E h=>?_) (fun cdv A outer s H vs Q E hr h=>?_)
 ·obtain⟨a,v,cm,m,x,xs,rfl,_⟩:=h;rfl
 ·have hu:=bA hr
  have jv:=hr.aQ
  obtain⟨a,v,cm,m,x,xs,rfl,hC,hm,hx,hp,hxl,k⟩:=h
  have xT:=hr.units
  obtain⟨b,rfl⟩:=qj hm
  refine⟨_,(aq (lA 2 qo.nd (bh aj) (hs:=kM))
   (aq (lA 3 qo.nd (GG (YP P w K) (cu P w) rfl rfl rfl (hp2 xT) (pv 0) (pv 1) (fun _ _=>rfl)) (hs:=gY))
   (aq (Gi PassesOwn.never (iM zQ (pv 3) cM)
   (aq (kL (lQ K rfl PySem.F.plainAttrs_list PySem.F.slot_list_append PySem.F.type_list_append mR (pv 2) (af (oQ K (pv 3) au) aj aD)))
   (av (lA 3 qo.nd (GG (YP P w K) (cu P w) rfl rfl rfl (hp2 xT) (pv 0) (oQ K (pv 3) au) (fun _ _=>rfl)) (hs:=gY)))))
   (av (aC (GJ K rfl rfl rfl T.HE aB (af (pv 2) aj ak))))))),?_⟩
  refine⟨(by decide),fun l hl=>⟨_,rfl,_,rfl,?_⟩⟩
  have s1:=ao (o:=HO.lst []) hl
  have hl1:=ah (H:=H) (a:=l) (o:=HO.lst [])
  generalize upd H l (.lst [])=H1 at s1 hl1 ⊢
  obtain⟨kvs,d,cr⟩:=(hC.mono s1).ok
  obtain⟨v,hv,lv⟩:=xD cr hx
  refine⟨a,kvs,cD m,b,v,rfl,rfl,d,tG (fZ s1 hm),hv,?_⟩
  dsimp only[cK]
  refine⟨fun n σ J=>∃ done rest x v,σ=[some (.ref a),some (.ref b),some (.ref l),some v]∧aH H J∧J l=some (.lst ((done.map sg).map V.str))∧vM K x J v∧vK cm x rest∧xs=done++rest∧n=rest.length,⟨_,[],xs,x,v,rfl,s1,hl1,lv,hp,rfl,rfl⟩,?_⟩
  rintro n σ J ⟨done,rest,x,v,rfl,sJ,ZA,lv,hp,hxs,hn⟩
  cases hp with
  | nil =>
   have lv:v=.non:=lv
   subst lv
   rw[List.append_nil] at hxs
   subst hxs
   refine⟨_,rfl,rfl,_,rfl,DL rfl ?_⟩
   refine⟨_,rfl,_,rfl,l,xs.map sg,rfl,bB.of ZA,?_,k J sJ⟩
   rw[Mg,List.length_map]
   show xs.length+xs.length * 0≤_
   omega
  | @cons m1 c1 x1 r1 hx1 hp1 =>
   obtain⟨t,w1,rfl,ht,hw⟩:=lv
   refine⟨_,rfl,rfl,_,rfl,qN rfl ?_⟩
   refine⟨fun σ J=>∃ v,σ=[some (.ref a),some (.ref b),some (.ref l),some v]∧aH H J∧J l=some (.lst (((done++[c1]).map sg).map V.str))∧vM K x1 J v,?_,?_⟩
   ·rintro σ J' ⟨v,rfl,Zw,hl',lv'⟩
    exact⟨_,by rw[hn];exact Nat.lt_succ_self _,_,_,_,_,rfl,Zw,hl',lv',hp1,by rw[hxs,List.append_assoc];rfl,rfl⟩
   have hdl:done.length≤100000:=by rw[hxs,List.length_append] at hxl;omega
   refine⟨_,rfl,.inl ⟨rfl,_,bB.of ZA⟩,_,rfl,t,_,_,_,rfl,rfl,ht,rfl,l,_,_,rfl,rfl,ZA,?_,?_⟩
   ·exact Nat.lt_of_le_of_lt (show((done.map sg).map V.str).length≤100000 by rw[List.length_map,List.length_map];exact hdl) (by decide)
   have ht2:=qi (o:=HO.lst ((done.map sg).map V.str++[.str (sg c1)])) ZA ht
   obtain⟨kvs,d,cr⟩:=((hC.mono sJ).but (o:=HO.lst ((done.map sg).map V.str++[.str (sg c1)])) ZA).ok
   obtain⟨v,hv,lv⟩:=xD cr hx1
   have hw2:=fL.keep (fun b xs q=>qi (o:=HO.lst ((done.map sg).map V.str++[.str (sg c1)])) ZA q) hw
   obtain⟨b1,rfl⟩:=qj hw2
   refine⟨_,rfl,_,rfl,t,_,_,_,rfl,rfl,ht2,rfl,a,kvs,cD m1,b1,v,rfl,rfl,d,tG hw2,hv,?_⟩
   exact⟨v,rfl,bg hl sJ,by rw[List.map_append,List.map_append];exact ah,lv⟩
def sS (K:W.Frag) (CT CM CN:Addr):Sp:=fun vs H Q E=>∃(N N':Addr→Prop) (n n':Nat) (v w:V) (u u':Tr) (o:Addr) (os:List V),vs=[v,.ref o,w]∧Rp N n H v u∧Rp N' n' H w u'∧H o=some (.lst os)∧(iF u os.length w=0→∀ H',aH H H'→E (.ref CT) none H')∧(iF u os.length w=1→∀ d H',H d=none→H' d=some (LV d [(Str.ofString "most",.int 24)])→aH H H'→E (.ref CM) (some d) H')∧(iF u os.length w=2→∀ d H',H d=none→H' d=some (LV d [(Str.ofString "most",.int 3)])→aH H H'→E (.ref CM) (some d) H')∧(iF u os.length w=3→∀ H',aH H H'→E (.ref CN) none H')∧(iF u os.length w=4→∀ H',aH H H'→Q .non H')
theorem BL:aM P w K mg base (zV P w) 8 (ay 41) (aO 41) ["table", "others", "most"] (sS K (ay 66) (ay 80) (ay 72)):=by
 have nP:aM P w K mg base cy 1 (ay 21) (aO 21) ["self", "most"] (mq (ay 80)):=tX T
 have JX:aM P w K mg base cy 1 (ay 23) (aO 23) ["thing", "least", "most"] (yH K):=HG T
 have sM:aM P w K mg base (zV P w) 7 (ay 14) (aO 14) ["table"] (qy K (ay 66)):=wA T
 refine T.um.okE Bj (fun vs H Q E h=>?_) (fun cdv A outer s H vs Q E hr h=>?_)
 ·obtain⟨N,N',n,n',v,w,u,u',o,os,rfl,_⟩:=h;rfl
 ·have hu:=bA hr
  have jv:=hr.aQ
  obtain⟨N,N',n,n',v,w,u,u',o,os,rfl,hv,hw,ho,k0,k1,k2,k3,k4⟩:=h
  refine⟨_,(aq (aP (iM m9 (i9 (bE K rfl) T.dH (af (vt (k:=7) sM (hr.mono (by decide)) rfl T.yw T.r8.kp T.yu .nil QF (af (pv 0) aj ak)) aj bR)) (mE rfl T.sF.choose_spec)) (av (DG rfl T.aT (.inr ⟨_,_,rfl,T.az⟩) T.qv.choose_spec.1 T.qv.choose_spec.2 nP (hr.mono (by decide)) T.nH T.yF rfl T.xO (af (mE rfl T.sF.choose_spec) aj ak))) aE)
   (aq (aP (iM m9 (i9 (bE K rfl) T.dH (af (pv 1) aj ak)) (mE rfl T.sI.choose_spec)) (av (DG rfl T.aT (.inr ⟨_,_,rfl,T.az⟩) T.qv.choose_spec.1 T.qv.choose_spec.2 nP (hr.mono (by decide)) T.nH T.yF rfl T.xO (af (mE rfl T.sI.choose_spec) aj ak))) aE)
   (av (aP (cY (bP (kB JX hr T.JN T.Bs.kp T.JM (af (pv 2) (af au (af (mE rfl T.BB.choose_spec) aj ak) ai) ak)))) (av (GL rfl T.eg (.inr ⟨_,_,rfl,T.az⟩) rfl T.HB (af aB aj ai))) aE)))),?_⟩
  by_cases hT:tP u=true
  rotate_left
  ·exact⟨_,rfl,.inr ⟨N,n,v,u,rfl,hv,rP hT,k0 (by unfold iF;rw[if_pos (rP hT)])⟩⟩
  obtain⟨a,xs,t,rfl,rfl,ha,pr,tok⟩:=Bd K hv hT
  have hd:iF (Ba t) os.length w=if 24 < (cQ t).length then 1 else if 3 < os.length then 2 else if oR w 1 4000=false then 3 else 4:=by
   unfold iF;rw[if_neg (by rw[hT];decide),EA tok]
  rw[hd] at k0 k1 k2 k3 k4
  refine⟨_,rfl,.inl ⟨a,xs,t,rfl,ha,pr,tok,fun l ys H1 El hl tp s1=>?_⟩⟩
  have tl:=tp.length
  have ho1:=s1 _ _ ho
  refine⟨_,_,rfl,.inl (bB.of hl),_,_,rfl,rfl,_,rfl,?_⟩
  refine MZ (fun c1=>?_) (fun c1=>?_)
  ·rw[if_pos (by omega)] at k1
   have k1:=k1 rfl
   refine⟨(by decide),fun ea t7=>⟨_,_,rfl,ah,(by decide),fun d H' hd nd e1 e2 Ue=>⟨rfl,_,e1,k1 _ _ ((bg (s1.free t7) s1).free hd) ?_ ?_⟩⟩⟩
   ·rw[AA nd];exact e2
   ·exact AL s1 t7 hd Ue
  rw[if_neg (by omega)] at k0 k1 k2 k3 k4
  refine⟨_,rfl,_,_,rfl,.inl (bB.of ho1),_,_,rfl,rfl,_,rfl,?_⟩
  refine MZ (fun c2=>?_) (fun c2=>?_)
  ·rw[if_pos (by omega)] at k2
   have k2:=k2 rfl
   refine⟨(by decide),fun ea t7=>⟨_,_,rfl,ah,(by decide),fun d H' hd nd e1 e2 Ue=>⟨rfl,_,e1,k2 _ _ ((bg (s1.free t7) s1).free hd) ?_ ?_⟩⟩⟩
   ·rw[AA nd];exact e2
   ·exact AL s1 t7 hd Ue
  rw[if_neg (by omega)] at k0 k1 k2 k3 k4
  refine⟨_,rfl,_,_,_,_,_,_,rfl,hw.mono s1 (fun _ z=>z),_,rfl,?_⟩
  cases hW:oR w 1 4000 with
  | true =>
   rw[if_neg (by rw[hW];decide)] at k4
   exact Q8 rfl (k4 rfl _ s1)
  | false =>
   rw[if_pos hW] at k3
   exact Q9 rfl ⟨by decide,k3 rfl _ s1⟩
def Mx (P:Program) (w:World) (K:W.Frag) (C CT' CM' CP CT CM CN:Addr):Sp:=fun vs H Q E=>∃(N N':Addr→Prop) (n n':Nat) (v w:V) (u u':Tr) (y dy o:Addr) (os:List V) (x:nR) (cs:List nR),vs=[.ref y,v,.ref o,w]∧H y=some (.ins C dy (Rg x))∧Ma x∧Rp N n H v u∧Rp N' n' H w u'∧H o=some (.lst os)∧Cd C H os cs∧(∀ c∈cs,Ma c)∧cs.length≤20∧(iF u os.length w=0→∀ H',aH H H'→E (.ref CT) none H')∧(iF u os.length w=1→∀ d H',H d=none→H' d=some (LV d [(Str.ofString "most",.int 24)])→aH H H'→E (.ref CM) (some d) H')∧(iF u os.length w=2→∀ d H',H d=none→H' d=some (LV d [(Str.ofString "most",.int 3)])→aH H H'→E (.ref CM) (some d) H')∧(iF u os.length w=3→∀ H',aH H H'→E (.ref CN) none H')∧(iF u os.length w=4→∀ tt s ys H',aH H H'→H' tt=some (.tup (.str s :: ys))→(s=Str.ofString "text"∨s=Str.ofString "none"∨s=Str.ofString "open")→Q (.ref tt) H')
theorem US:aM P w K mg base (zV P w) 12 (ay 42) (aO 42) ["dialect", "table", "others", "most"] (Mx P w K (ay 58) (ay 59) (ay 60) (ay 61) (ay 66) (ay 80) (ay 72)):=by
 have wG:aM P w K mg base cy 10 (ay 18) (aO 18) ["self", "dialect", "table", "others"] (nN K (ay 58) (ay 59) (ay 60) (ay 61)):=u0 T
 have CC:aM P w K mg base (zV P w) 8 (ay 41) (aO 41) ["table", "others", "most"] (sS K (ay 66) (ay 80) (ay 72)):=BL T
 have CD:aM P w K mg base cy 1 (ay 36) (aO 36) ["others"] (sR K):=BI T
 have R7:aM P w K mg base cy 7 (ay 39) (aO 39) ["first", "searched", "most"] (D0 P w K (ay 58) (ay 59) (ay 60) (ay 61)):=Nx T
 have Ny:aM P w K mg base cy 1 (ay 40) (aO 40) ["came", "place"] (BK P w K):=JW T
 refine T.RP.okE EB (fun vs H Q E h=>?_) (fun cdv A outer s H vs Q E hr h=>?_)
 ·obtain⟨N,N',n,n',v,w,u,u',y,dy,o,os,x,cs,rfl,_⟩:=h;rfl
 ·have hu:=bA hr
  have jv:=hr.aQ
  obtain⟨N,N',nn,nn',v,w9,u,u',y,dy,o,os,x,cs,rfl,hy,gx,hv,hw,ho,mk,gs,hcl,k0,k1,k2,k3,k4⟩:=h
  have xT:=hr.units
  have mkl:=mk.length
  refine⟨_,(aq (kL (vt (k:=8) CC (hr.mono (by decide)) rfl T.Cr T.um.kp T.Cq .nil QF (af (pv 1) (af (pv 2) (af (pv 3) aj ak) ak) ak)))
   (aq (lA 4 EB.nd (kB R7 hr T.RO T.Ht.kp T.RN (af (kB CD hr T.Cp T.uh.kp T.Co (af (pv 2) aj ak)) (af (sY (k:=10) T.RS wG (hr.mono (by decide)) rfl T.RQ T.wc .nil kc (af (pv 0) (af (pv 1) (af (pv 2) aj ak) ak) ak)) (af (pv 3) aj ak) bR) bR)) (hs:=cU))
   (aq (lA 5 EB.nd (oQ K (pv 4) au) (hs:=gY))
   (aq (aP (iM zQ (oQ K (pv 4) au) cM) (av (aC (aJ (af aB (af (kB Ny hr T.Nq T.DV.kp T.Np (af (pv 5) (af (oQ K (pv 4) au) aj aD) ak)) aj bR) ai)))) aE)
   (aq (aP (iM m9 (i9 (DJ (YP P w K) (cu P w) rfl rfl rfl) T.dH (af (pv 5) aj ak)) (pv 3)) (av (aC (aJ (af aB aj ai)))) aE)
   (av (aC (aJ (af aB (af (pcy (Jx (YP P w K) (cu P w) rfl rfl rfl rfl) T.wo (af (pv 5) aj ak)) aj bR) ai))))))))),?_⟩
  refine⟨_,rfl,_,rfl,_,rfl,N,N',nn,nn',v,w9,u,u',o,os,rfl,hv,hw,ho,k0,k1,k2,k3,fun h4 H1 s1=>?_⟩
  replace k4:=k4 h4
  obtain⟨d1,d2,d3,d4⟩:=W2 h4
  obtain⟨n,rfl,n1,n4⟩:=DS d4
  obtain⟨a,xs,t,rfl,rfl,ha,pr,tok⟩:=Bd K hv d1
  have t24:(cQ t).length≤24:=by rw[←EA tok];exact d2
  clear k0 k1 k2 k3 d1 d2 d4 h4
  have c3:cs.length≤3:=by omega
  have k:∀ tt r cm br k H',aH H H'→H tt=none→A0 (pB (cQ t)) (jE x cs (cQ t) (Et (x :: cs) t)) (some n) [(uM cs.length,none)] [uM cs.length] r cm→WU (pB (cQ t)) (jE x cs (cQ t) (Et (x :: cs) t)) (some n) (uM cs.length) r cm br k→afV K (jE x cs (cQ t) (Et (x :: cs) t)) (uM cs.length) n r cm k H H' tt→Q (.ref tt) H':=fun tt r cm br kk H' sH _ _ _ hs=>by
   cases r with
   | none =>
    rcases hs with ⟨_,h⟩ | ⟨_,l,_,h,_⟩
    ·exact k4 tt _ _ H' sH h (.inr (.inr rfl))
    ·exact k4 tt _ _ H' sH h (.inr (.inl rfl))
   | some m =>
    obtain⟨zs,h,_⟩:=hs
    exact k4 tt _ _ H' sH h (.inl rfl)
  dsimp only[cK]
  refine⟨_,rfl,o,os,rfl,s1 _ _ ho,by omega,fun v0 H2 s2 hv0=>?_⟩
  have s12:=s1.trans s2
  rw[mkl] at hv0
  refine⟨_,rfl,_,rfl,_,rfl,fun q dq hq ZC ne=>⟨q,dq,y,dy,a,o,xs,os,t,x,cs,rfl,ah,lI hq ZC (s12 _ _ hy),gx,lI hq ZC (s12 _ _ ha),bz (fun a b h=>kC.mono (s12.trans (tE hq ZC)) h) pr,tok,lI hq ZC (s12 _ _ ho),Cd.mono (s12.trans (tE hq ZC)) mk,gs,hcl,fun H3 hP kp=>⟨rfl,?_⟩⟩⟩
  have s3:=tD hq ZC kp
  have VP:=s12.trans s3
  have gs2:∀ c∈x :: cs,Ma c:=fun c hc=>by
   rcases List.mem_cons.mp hc with q | q
   ·rw[q];exact gx
   ·exact gs c q
  have Mt:=Rz gs2 tok
  rw[List.length_cons] at Mt
  have hp0:(uM cs.length).2.length=cs.length:=List.length_replicate
  refine⟨_,rfl,q,v0,n,uM cs.length,x,cs,cQ t,Et (x :: cs) t,rfl,hP,fZ s3 hv0,hp0,by omega,by omega,n4,fun tf rv r a2 cm H4 _ htf XO QG UT s4=>?_⟩
  have Nz:=VP.trans s4
  dsimp only[cK]
  refine⟨_,rfl,tf,_,_,_,rfl,rfl,ck.of htf,rfl,?_⟩
  dsimp only[cK]
  obtain⟨br,kk,hE,hkk⟩:=Ry UT
  cases r with
  | none =>
   have XO:rv=.non:=XO
   subst XO
   obtain⟨kvs,nd0,cr0⟩:=QG.ok
   have kl:=xB cr0
   refine⟨_,rfl,tf,_,_,_,rfl,rfl,ck.of htf,rfl,rfl,_,rfl,DL rfl ?_⟩
   refine⟨_,rfl,a2,kvs,rfl,nd0,_,rfl,_,_,rfl,rfl,_,rfl,?_⟩
   by_cases hmo:n < cm.length
   ·refine qN (decide_eq_true (show(n:Int) < (kvs.length:Int) by omega)) ⟨(by show 1≤sizeLine;decide),fun tt Mu=>?_⟩
    exact k tt none cm br kk _ (Nz.trans (ao Mu)) (Nz.free Mu) UT hE (.inl ⟨hmo,ah⟩)
   ·refine DL (decide_eq_false (show ¬(n:Int) < (kvs.length:Int) by omega)) ?_
    refine⟨_,rfl,a2,kvs,rfl,nd0,fun l hl=>⟨(by show 2≤sizeLine;decide),fun tt Mu=>?_⟩⟩
    have f1:=ao (o:=HO.lst (kvs.map fun e=>V.ref e.2.1)) hl
    have f2:=ao (o:=HO.tup [.str ("none":Str),.ref l]) Mu
    exact k tt none cm br kk _ (Nz.trans (f1.trans f2)) ((Nz.trans f1).free Mu) UT hE (.inr ⟨by omega,l,_,ah,Nz.free hl,f2 _ _ ah,(A6 cr0).keep fun b xs q=>aS (f1.trans f2) q⟩)
  | some m1 =>
   have XO:fL K H4 m1 rv:=XO
   obtain⟨b1,rfl⟩:=qj XO
   have hmem:=List.mem_of_find?_eq_some hE.res.symm
   obtain⟨⟨x1,xs1,v1,l1,w1,e1⟩,_⟩:=hE.jm.edg m1 hmem
   have hk1:=hkk (List.ne_nil_of_mem hmem)
   refine⟨_,rfl,tf,_,_,_,rfl,rfl,ck.of htf,rfl,rfl,_,rfl,qN rfl ?_⟩
   refine⟨_,rfl,_,rfl,tf,_,_,_,rfl,rfl,ck.of htf,rfl,a2,.ref b1,cm,m1,x1,xs1,rfl,QG,XO,v1,l1,by omega,fun H5 s5=>⟨(by show 2≤sizeLine;decide),fun tt Mu=>?_⟩⟩
   refine k tt (some m1) cm br kk _ (Nz.trans (s5.trans (ao Mu))) ((Nz.trans s5).free Mu) UT hE ⟨xs1.reverse,?_,w1,by rw[List.length_reverse];exact e1,hk1⟩
   rw[List.map_reverse]
   exact ah
def qZ (K:W.Frag):Sp:=fun vs H Q _=>∃(a:Addr) (ns:List Int) (i:Int),vs=[.ref a,.int i]∧bB K H a (ns.map V.int)∧0≤i∧∀ r:Int,Q (.int r) H
theorem zw:aM P w K mg base cy 1 (ay 43) (aO 43) ["_law_script", "_law_k"] (qZ K):=by
 refine T.fz.ok yY (fun vs H Q E h=>?_) (fun cdv A outer s H vs Q E hr h=>?_)
 ·obtain⟨a,ns,i,rfl,_⟩:=h;rfl
 ·have hu:=bA hr
  have jv:=hr.aQ
  obtain⟨a,ns,i,rfl,hS,hi,k⟩:=h
  refine⟨_,(aq (aP (iM Dh (pv 1) (i9 (bE K rfl) T.dH (af (pv 0) aj ak))) (av (aC (Ge K (pv 0) (pv 1)))) aE)
   (av (aC au))),?_⟩
  refine⟨_,rfl,_,rfl,a,_,rfl,.inl hS,_,_,rfl,rfl,_,rfl,?_⟩
  refine dh (fun hc=>?_) (fun _=>?_)
  ·have hlt:=of_decide_eq_true hc
   obtain⟨v,ev,hv⟩:=AH hi hlt
   obtain⟨r,_,rfl⟩:=List.mem_map.mp hv
   exact⟨_,rfl,_,rfl,a,_,_,_,rfl,rfl,hS,ev,k r⟩
  ·exact k 0
def uu:Sp:=fun vs H Q _=>∃ a b:Int,vs=[.int a,.int b]∧0≤a∧a < 4294967296∧0≤b∧b < 65536∧∀ r:Int,0≤r→r < 49979687→Q (.int r) H
theorem CF:aM P w K mg base cy 1 (ay 44) (aO 44) ["_law_number_here", "_law_salt"] uu:=by
 refine T.mH.ok oS (fun vs H Q E h=>?_) (fun cdv A outer s H vs Q E hr h=>?_)
 ·obtain⟨a,b,rfl,_⟩:=h;rfl
 ·have hu:=bA hr
  have jv:=hr.aQ
  obtain⟨a,b,rfl,ha,ha',hb,hb',k⟩:=h
  refine⟨_,(aq (lA 2 oS.nd (aL cC (aL gD (aL rE (pv 0) (aL gD au (aL rE au (pv 1)))) (aL rE au (pv 1))) au) (hs:=dX))
   (aq (lA 3 oS.nd (aL cC (aL gD (aL rE (pv 2) (pv 2)) (pv 1)) au) (hs:=dX))
   (av (aC (aL cC (aL gD (aL rE (pv 3) (pv 3)) (pv 2)) au))))),?_⟩
  refine⟨_,rfl,_,rfl,_,_,rfl,rfl,.inl ⟨by decide,by decide⟩,_,_,rfl,rfl,_,_,rfl,rfl,.inl ⟨by omega,by omega⟩,_,rfl,_,_,rfl,rfl,.inl ⟨by decide,by decide⟩,_,_,rfl,rfl,_,_,rfl,rfl,(by show(0:Int) < 15485863;decide),?_⟩
  have h1:=Int.emod_nonneg (a * (1299709+210 * b)+7919 * b) (show(15485863:Int)≠0 by decide)
  have h2:=Int.emod_lt_of_pos (a * (1299709+210 * b)+7919 * b) (show(0:Int) < 15485863 by decide)
  refine⟨_,rfl,_,rfl,_,_,rfl,rfl,.inl ⟨by omega,by omega⟩,_,rfl,_,_,rfl,rfl,_,_,rfl,rfl,(by show(0:Int) < 32452843;decide),?_⟩
  refine⟨_,rfl,_,rfl,_,_,rfl,rfl,.inl ⟨?_,?_⟩,_,rfl,_,_,rfl,rfl,_,_,rfl,rfl,(by show(0:Int) < 49979687;decide),?_⟩
  ·exact Int.lt_of_lt_of_le (by decide) (Int.emod_nonneg _ (by decide))
  ·exact Int.lt_trans (Int.emod_lt_of_pos _ (by decide)) (by decide)
  ·exact k _ (Int.emod_nonneg _ (by decide)) (Int.emod_lt_of_pos _ (by decide))
def gS:Sp:=fun vs H Q _=>∃ c s:Int,vs=[.int c,.int s]∧0≤s∧s < 60000∧∀ r:Int,Q (.int r) H
theorem jS:aM P w K mg base cy 2 (ay 45) (aO 45) ["_law_cell", "_law_salt"] gS:=by
 have qA:aM P w K mg base cy 1 (ay 44) (aO 44) ["_law_number_here", "_law_salt"] uu:=CF T
 refine T.iV.ok nD (fun vs H Q E h=>?_) (fun cdv A outer s H vs Q E hr h=>?_)
 ·obtain⟨c,s,rfl,_⟩:=h;rfl
 ·have hu:=bA hr
  have jv:=hr.aQ
  obtain⟨c,sa,rfl,hs,hs',k⟩:=h
  refine⟨_,(aq (aP (PW.pt (pX (iM cN (aL cC (pv 0) au) au) (mC (iM Py (pv 0) (aL rE au (aL IT au au)))))) (av (aC (aL Pq (aL fM (pv 0) au) (aL IT au au)))) aE)
   (aq (lA 2 nD.nd (aL cC (pv 0) au) (hs:=dX))
   (aq (lA 3 nD.nd (aL gD (aL rE (kB qA hr T.qu T.mH.kp T.qt (af (pv 2) (af (pv 1) aj ak) ak)) au) (kB qA hr T.qu T.mH.kp T.qt (af (pv 2) (af (aL gD (pv 1) au) aj cj) ak))) (hs:=dX))
   (av (aC (aL gD (aL rE (pv 3) au) (kB qA hr T.qu T.mH.kp T.qt (af (pv 2) (af (aL gD (pv 1) au) aj cj) ak)))))))),?_⟩
  have p18:ZV 10 18:=⟨by decide,by decide,by decide⟩
  have n0:0≤c % 1000000007:=Int.emod_nonneg _ (by decide)
  have n1:c % 1000000007 < 4294967296:=Int.lt_trans (Int.emod_lt_of_pos _ (by decide)) (by decide)
  refine⟨_,rfl,_,_,rfl,rfl,(by show(0:Int) < 2;decide),rfl,_,rfl,?_⟩
  refine dh (fun _=>?_) (fun _=>?_)
  ·refine⟨_,rfl,_,_,rfl,rfl,p18,_,_,rfl,rfl,.inl ⟨by decide,by decide⟩,_,_,rfl,rfl,_,rfl,?_⟩
   refine dh (fun _=>?_) (fun _=>?_)
   ·exact⟨_,rfl,_,_,rfl,rfl,⟨by decide,by decide⟩,_,_,rfl,rfl,p18,_,_,rfl,rfl,k _⟩
   ·refine⟨_,rfl,_,_,rfl,rfl,(by show(0:Int) < 1000000007;decide),?_⟩
    refine⟨_,rfl,_,rfl,_,_,rfl,n0,n1,by omega,by omega,fun r1 _ _=>?_⟩
    refine⟨_,_,rfl,rfl,.inr ⟨by decide,by decide⟩,_,rfl,_,rfl,_,_,rfl,rfl,_,_,rfl,n0,n1,by omega,by omega,fun r2 _ _=>⟨_,_,rfl,rfl,?_⟩⟩
    refine⟨_,rfl,_,_,rfl,rfl,.inr ⟨by decide,by decide⟩,_,rfl,_,rfl,_,_,rfl,rfl,_,_,rfl,n0,n1,by omega,by omega,fun r3 _ _=>⟨_,_,rfl,rfl,k _⟩⟩
  ·refine⟨_,rfl,_,_,rfl,rfl,(by show(0:Int) < 1000000007;decide),?_⟩
   refine⟨_,rfl,_,rfl,_,_,rfl,n0,n1,by omega,by omega,fun r1 _ _=>?_⟩
   refine⟨_,_,rfl,rfl,.inr ⟨by decide,by decide⟩,_,rfl,_,rfl,_,_,rfl,rfl,_,_,rfl,n0,n1,by omega,by omega,fun r2 _ _=>⟨_,_,rfl,rfl,?_⟩⟩
   refine⟨_,rfl,_,_,rfl,rfl,.inr ⟨by decide,by decide⟩,_,rfl,_,rfl,_,_,rfl,rfl,_,_,rfl,n0,n1,by omega,by omega,fun r3 _ _=>⟨_,_,rfl,rfl,k _⟩⟩
def wH:Sp:=fun vs H Q _=>∃(n m:Int) (me:Str),vs=[.int n,.int m,.str me]∧Mn me∧0≤m∧m≤3∧∀(t:Addr) (z:Str) (r:Int),Sg z→(z.length:Int)≤m→(1≤m→1≤z.length)→H t=none→Q (.ref t) (upd H t (.tup [.str z,.int r]))
theorem EV:aM P w K mg base cy 1 (ay 46) (aO 46) ["_law_number_here", "_law_many", "_law_menu"] wH:=by
 refine T.oh.ok ic (fun vs H Q E h=>?_) (fun cdv A outer s H vs Q E hr h=>?_)
 ·obtain⟨n,m,me,rfl,_⟩:=h;rfl
 ·have hu:=bA hr
  have jv:=hr.aQ
  obtain⟨n,m,me,rfl,⟨hm1,hm2,hm3⟩,h0,h3,k⟩:=h
  have hml:me.length≤sizeLine:=Nat.le_trans hm2 (by decide)
  refine⟨_,(aq (lA 3 ic.nd aB (hs:=nW))
   (aq (oN PassesOwn.never rfl (Dg rfl T.HD (af (pv 1) aj ak)) (qM 4 ic.nd)
   (aq (lA 5 ic.nd (PX Wb (pv 2) (aL cC (pv 0) (i9 dU T.dH (af (pv 2) aj ak))) (fun _ _=>rfl)) (hs:=gY))
   (aq (lA 0 ic.nd (aL fM (pv 0) (i9 dU T.dH (af (pv 2) aj ak))) (hs:=dX))
   (av (aP (iW qd (pv 5) (pv 3) rfl) (av (lA 3 ic.nd (aL i8 (pv 3) (pv 5)) (hs:=dX))) aE)))))
   (av (aC (aJ (af (pv 3) (af (pv 0) aj ak) ak)))))),?_⟩
  refine⟨_,rfl,m,rfl,by omega,by omega,?_⟩
  refine MH (fun i σ H2=>H2=H∧∃(r:Int) (z:Str) (v1 v2:Option V),σ=[some (.int r),some (.int m),some (.str me),some (.str z),v1,v2]∧Sg z∧z.length≤i∧(1≤i→1≤z.length)) ⟨rfl,n,_,_,_,rfl,WO,by decide,fun z=>absurd z (by decide)⟩ ?_ ?_
  ·rintro i σ H2 hi ⟨rfl,r,z,v1,v2,rfl,g,hz,hz1⟩
   have hlen:me.cps.toList.length=me.length:=by rw[Array.length_toList];rfl
   obtain⟨c,ec,hc⟩:=AH (xs:=me.cps.toList) (Int.emod_nonneg r (show(me.length:Int)≠0 by omega)) (by rw[hlen];exact Int.emod_lt_of_pos r (by omega))
   refine⟨_,rfl,_,rfl,_,rfl,me,rfl,hml,_,_,rfl,rfl,(by show(0:Int) < me.length;omega),me,_,c,rfl,rfl,hml,ec,?_⟩
   refine⟨_,rfl,_,rfl,me,rfl,hml,_,_,rfl,rfl,⟨by show(0:Int) < me.length;omega,by show(me.length:Int) < 1073741824;omega⟩,?_⟩
   refine⟨_,rfl,_,rfl,_,_,rfl,rfl,_,rfl,?_⟩
   refine dh (fun ha=>?_) (fun ha=>?_)
   ·have e1:(z++(⟨#[c]⟩:Str)).length=z.length+1:=gZ _ _
    refine⟨_,rfl,_,rfl,_,_,rfl,rfl,?_,rfl,_,_,_,_,rfl,WN g (hm3 c hc) ha,by rw[e1];omega,fun _=>by rw[e1];omega⟩
    exact Nat.le_trans (show z.length+1≤5 by omega) (by decide)
   ·refine⟨rfl,_,_,_,_,rfl,g,by omega,fun _=>?_⟩
    have hin:c∈z.cps.toList:=Classical.byContradiction fun q=>ha ((vG z c).mpr q)
    have:=List.length_pos_of_mem hin
    rw[Array.length_toList] at this
    exact this
  ·rintro σ H2 ⟨rfl,r,z,v1,v2,rfl,g,hz,hz1⟩
   exact⟨_,rfl,_,rfl,(by show 2≤sizeLine;decide),fun t ht=>k t z r g (by omega) (fun q=>hz1 (by omega)) ht⟩
def uv:Sp:=fun vs H Q _=>∃ n:Int,vs=[.int n]∧∀(l:Addr) (m1 m2 m3:Str),Mn m1→Mn m2→Mn m3→(n≠0→n≠1→m1.length=94)→H l=none→Q (.ref l) (upd H l (.lst [.str m1,.str m2,.str m3]))
theorem CG:aM P w K mg base cy 1 (ay 47) (aO 47) ["_law_way"] uv:=by
 refine T.wj.ok ua (fun vs H Q E h=>?_) (fun cdv A outer s H vs Q E hr h=>?_)
 ·obtain⟨n,rfl,_⟩:=h;rfl
 ·have hu:=bA hr
  have jv:=hr.aQ
  obtain⟨n,rfl,k⟩:=h
  refine⟨_,(aq (lA 1 ua.nd aB (hs:=nW))
   (aq (aP (iM cN (pv 0) au) (av (aC (bh (af aB (af aB (af aB aj ai) ai) ai)))) aE)
   (aq (aP (iM cN (pv 0) au) (av (aC (bh (af aB (af aB (af aB aj ai) ai) ai)))) aE)
   (av (aC (bh (af (pv 1) (af (pv 1) (af (pv 1) aj ak) ak) ak))))))),?_⟩
  refine⟨_,rfl,rfl,_,rfl,?_⟩
  refine dh (fun h0=>?_) (fun _=>?_)
  ·exact⟨by decide,fun l hl=>k l _ _ _ (by decide +kernel) (by decide +kernel) (by decide +kernel) (fun q _=>absurd (Rf h0) q) hl⟩
  ·refine⟨_,rfl,rfl,_,rfl,?_⟩
   refine dh (fun h1=>?_) (fun _=>?_)
   ·exact⟨by decide,fun l hl=>k l _ _ _ (by decide +kernel) (by decide +kernel) (by decide +kernel) (fun _ q=>absurd (Rf h1) q) hl⟩
   ·exact⟨_,rfl,_,rfl,_,rfl,by decide,fun l hl=>k l _ _ _ (by decide +kernel) (by decide +kernel) (by decide +kernel) (fun _ _=>by decide +kernel) hl⟩
def wI:Sp:=fun vs H Q _=>∃ c:Int,vs=[.int c]∧∀(t:Addr) (p q f:Str) (b1 b2 b3 b4:Bool) (H':Hp),Gd p q f→H t=none→H' t=some (.tup (yo p q f b1 b2 b3 b4))→aH H H'→Q (.ref t) H'
theorem EW:aM P w K mg base cy 3 (ay 48) (aO 48) ["_law_cell"] wI:=by
 have EX:aM P w K mg base cy 1 (ay 47) (aO 47) ["_law_way"] uv:=CG T
 have eX:aM P w K mg base cy 2 (ay 45) (aO 45) ["_law_cell", "_law_salt"] gS:=jS T
 have sU:aM P w K mg base cy 1 (ay 46) (aO 46) ["_law_number_here", "_law_many", "_law_menu"] wH:=EV T
 refine T.sy.ok bY (fun vs H Q E h=>?_) (fun cdv A outer s H vs Q E hr h=>?_)
 ·obtain⟨c,rfl,_⟩:=h;rfl
 ·have hu:=bA hr
  have jv:=hr.aQ
  obtain⟨c,rfl,k⟩:=h
  refine⟨_,(aq (lA 1 bY.nd (kB eX hr T.kP T.iV.kp T.kO (af (pv 0) (af au aj ai) ak)) (hs:=cU))
   (aq (lA 2 bY.nd (aL cC (pv 1) au) (hs:=dX))
   (aq (lA 3 bY.nd (bh (af (aL gD au (aL cC (aL fM (pv 1) au) au)) (af (aL cC (aL fM (pv 1) au) au) (af (aL cC (aL fM (pv 1) au) au) aj cj) cj) cj)) (hs:=kM))
   (aq (lA 4 bY.nd (kB EX hr T.EI T.wj.kp T.EH (af (aL cC (aL fM (pv 1) au) au) aj cj)) (hs:=cU))
   (aq (IM (kB sU hr T.su T.oh.kp T.sr (af (aL fM (pv 1) au) (af (Ge K (pv 3) au) (af (Ge K (pv 4) au) aj aD) aD) cj)) (sZ K rfl 2 rfl (fT (qM 5 bY.nd) (fT (qM 1 bY.nd) sX))))
   (aq (IM (kB sU hr T.su T.oh.kp T.sr (af (pv 1) (af (Ge K (pv 3) au) (af (Ge K (pv 4) au) aj aD) aD) ak)) (sZ K rfl 2 rfl (fT (qM 6 bY.nd) (fT (qM 1 bY.nd) sX))))
   (aq (IM (kB sU hr T.su T.oh.kp T.sr (af (pv 1) (af (Ge K (pv 3) au) (af (Ge K (pv 4) au) aj aD) aD) ak)) (sZ K rfl 2 rfl (fT (qM 7 bY.nd) (fT (qM 1 bY.nd) sX))))
   (aq (lA 8 bY.nd (bh (af (IJ cN (aL cC (pv 2) au) au) (af (IJ cN (aL cC (aL fM (pv 2) au) au) au) (af (IJ cN (aL cC (aL fM (pv 2) au) au) au) (af (IJ cN (aL cC (aL fM (pv 2) au) au) au) aj qf) qf) qf) qf)) (hs:=kM))
   (av (aC (aJ (af (pv 5) (af (pv 6) (af (pv 7) (af (Ge K (pv 8) au) (af (Ge K (pv 8) au) (af (Ge K (pv 8) au) (af (Ge K (pv 8) au) aj aD) aD) aD) aD) ak) ak) ak)))))))))))),?_⟩
  refine⟨_,rfl,_,_,rfl,by decide,by decide,fun n=>?_⟩
  refine⟨_,rfl,_,_,rfl,rfl,(by show(0:Int) < 16;decide),?_⟩
  refine⟨_,rfl,_,_,rfl,rfl,⟨by decide,by decide⟩,_,_,rfl,rfl,(by show(0:Int) < 3;decide),_,_,rfl,rfl,_,rfl,_,_,rfl,rfl,⟨by decide,by decide⟩,_,_,rfl,rfl,(by show(0:Int) < 3;decide),_,rfl,_,_,rfl,rfl,⟨by decide,by decide⟩,_,_,rfl,rfl,(by show(0:Int) < 3;decide),(by show 3≤sizeLine;decide),fun l hl=>?_⟩
  have m1:=Int.emod_nonneg (n / 16) (show(3:Int)≠0 by decide)
  have m1':=Int.emod_lt_of_pos (n / 16) (show(0:Int) < 3 by decide)
  have m2:=Int.emod_nonneg (n / 48) (show(3:Int)≠0 by decide)
  have m2':=Int.emod_lt_of_pos (n / 48) (show(0:Int) < 3 by decide)
  have m3:=Int.emod_nonneg (n / 144) (show(3:Int)≠0 by decide)
  have m3':=Int.emod_lt_of_pos (n / 144) (show(0:Int) < 3 by decide)
  have h1:(upd H l (.lst [.int (1+n / 16 % 3),.int (n / 48 % 3),.int (n / 144 % 3)])) l=some (.lst [.int (1+n / 16 % 3),.int (n / 48 % 3),.int (n / 144 % 3)]):=ah
  have s1:aH H (upd H l (.lst [.int (1+n / 16 % 3),.int (n / 48 % 3),.int (n / 144 % 3)])):=ao hl
  generalize upd H l (.lst [.int (1+n / 16 % 3),.int (n / 48 % 3),.int (n / 144 % 3)])=H1 at h1 s1 ⊢
  refine⟨_,rfl,_,_,rfl,rfl,⟨by decide,by decide⟩,_,_,rfl,rfl,(by show(0:Int) < 3;decide),_,rfl,fun l2 e1 e2 e3 g1 g2 g3 _ hl2=>?_⟩
  have h2:(upd H1 l2 (.lst [.str e1,.str e2,.str e3])) l2=some (.lst [.str e1,.str e2,.str e3]):=ah
  have s2:aH H1 (upd H1 l2 (.lst [.str e1,.str e2,.str e3])):=ao hl2
  generalize upd H1 l2 (.lst [.str e1,.str e2,.str e3])=H2 at h2 s2 ⊢
  have h12:=s2 _ _ h1
  refine⟨_,rfl,_,_,rfl,rfl,⟨by decide,by decide⟩,_,rfl,l,_,_,_,rfl,rfl,bB.of h12,rfl,_,rfl,l2,_,_,_,rfl,rfl,bB.of h2,rfl,_,_,_,rfl,g1,by omega,by omega,fun t1 p r1 gp lp lp1 ht1=>?_⟩
  refine⟨t1,_,rfl,ck.of ah,rfl,_,_,rfl,_,_,rfl,rfl,?_⟩
  have s3:aH H2 (upd H2 t1 (.tup [.str p,.int r1])):=ao ht1
  generalize upd H2 t1 (.tup [.str p,.int r1])=H3 at s3 ⊢
  refine⟨_,rfl,_,rfl,l,_,_,_,rfl,rfl,bB.of (s3 _ _ h12),rfl,_,rfl,l2,_,_,_,rfl,rfl,bB.of (s3 _ _ h2),rfl,_,_,_,rfl,g2,by omega,by omega,fun t2 q r2 gq lq lq1 ht2=>?_⟩
  refine⟨t2,_,rfl,ck.of ah,rfl,_,_,rfl,_,_,rfl,rfl,?_⟩
  have s4:aH H3 (upd H3 t2 (.tup [.str q,.int r2])):=ao ht2
  generalize upd H3 t2 (.tup [.str q,.int r2])=H4 at s4 ⊢
  refine⟨_,rfl,_,rfl,l,_,_,_,rfl,rfl,bB.of (s4 _ _ (s3 _ _ h12)),rfl,_,rfl,l2,_,_,_,rfl,rfl,bB.of (s4 _ _ (s3 _ _ h2)),rfl,_,_,_,rfl,g3,by omega,by omega,fun t3 f r3 gf lf lf1 ht3=>?_⟩
  refine⟨t3,_,rfl,ck.of ah,rfl,_,_,rfl,_,_,rfl,rfl,?_⟩
  have s5:aH H4 (upd H4 t3 (.tup [.str f,.int r3])):=ao ht3
  generalize upd H4 t3 (.tup [.str f,.int r3])=H5 at s5 ⊢
  refine⟨_,rfl,_,_,rfl,rfl,(by show(0:Int) < 2;decide),rfl,_,rfl,_,_,rfl,rfl,⟨by decide,by decide⟩,_,_,rfl,rfl,(by show(0:Int) < 2;decide),rfl,_,rfl,_,_,rfl,rfl,⟨by decide,by decide⟩,_,_,rfl,rfl,(by show(0:Int) < 2;decide),rfl,_,rfl,_,_,rfl,rfl,⟨by decide,by decide⟩,_,_,rfl,rfl,(by show(0:Int) < 2;decide),rfl,(by show 4≤sizeLine;decide),fun l6 hl6=>?_⟩
  have s6:=ao (o:=HO.lst [.bl (decide (V.int (n % 16 % 2)=V.int 1)),.bl (decide (V.int (n % 16 / 2 % 2)=V.int 1)),.bl (decide (V.int (n % 16 / 4 % 2)=V.int 1)),.bl (decide (V.int (n % 16 / 8 % 2)=V.int 1))]) hl6
  refine⟨_,rfl,_,rfl,_,rfl,_,rfl,l6,_,_,_,rfl,rfl,bB.of ah,rfl,_,rfl,l6,_,_,_,rfl,rfl,bB.of ah,rfl,_,rfl,l6,_,_,_,rfl,rfl,bB.of ah,rfl,_,rfl,l6,_,_,_,rfl,rfl,bB.of ah,rfl,(by show 7≤sizeLine;decide),fun t ht=>?_⟩
  have aaT:=((((s1.trans s2).trans s3).trans s4).trans s5).trans s6
  exact k t p q f _ _ _ _ _ ⟨gp,gq,gf,lp1 (by omega),by omega,by omega,by omega⟩ (aaT.free ht) ah (aaT.trans (ao ht))
def wJ (C:Addr):Sp:=fun vs H Q _=>∃(t:Addr) (p q f:Str) (b1 b2 b3 b4:Bool),vs=[.ref t]∧H t=some (.tup (yo p q f b1 b2 b3 b4))∧Gd p q f∧∀(x dx:Addr) (H':Hp),H x=none→H' x=some (.ins C dx (DK p q f b1 b2 b3 b4))→aH H H'→Q (.ref x) H'
theorem EY:aM P w K mg base cy 5 (ay 49) (aO 49) ["_law_told_here"] (wJ (ay 58)):=by
 have ji:aM P w K mg base cy 3 (ay 2) (aO 2) ["self", "parts", "quotes", "frees", "twin", "wide", "thin", "stray"] (iK (ay 58)):=mh T
 refine T.sC.ok EC (fun vs H Q E h=>?_) (fun cdv A outer s H vs Q E hr h=>?_)
 ·obtain⟨t,p,q,f,b1,b2,b3,b4,rfl,_⟩:=h;rfl
 ·have hu:=bA hr
  have jv:=hr.aQ
  obtain⟨t,p,q,f,b1,b2,b3,b4,rfl,ht,g,k⟩:=h
  have hS:ck K H t (yo p q f b1 b2 b3 b4):=ck.of ht
  refine⟨_,(av (aC (sY (k:=3) T.DX ji (hr.mono (by decide)) rfl T.DW T.nF .nil kc (af (oQ K (pv 0) au) (af (oQ K (pv 0) au) (af (oQ K (pv 0) au) (af (oQ K (pv 0) au) (af (oQ K (pv 0) au) (af (oQ K (pv 0) au) (af (oQ K (pv 0) au) aj aD) aD) aD) aD) aD) aD) aD)))),?_⟩
  refine⟨_,rfl,t,_,_,_,rfl,rfl,hS,rfl,_,rfl,t,_,_,_,rfl,rfl,hS,rfl,_,rfl,t,_,_,_,rfl,rfl,hS,rfl,_,rfl,t,_,_,_,rfl,rfl,hS,rfl,_,rfl,t,_,_,_,rfl,rfl,hS,rfl,_,rfl,t,_,_,_,rfl,rfl,hS,rfl,_,rfl,t,_,_,_,rfl,rfl,hS,rfl,fun x dx hx hdx ne=>?_⟩
  refine⟨x,dx,p,q,f,b1,b2,b3,b4,rfl,ah,g,fun H2 h2 kp=>⟨rfl,k x dx H2 hx h2 fun b o e=>kp b o ?_ (aW e hx)⟩⟩
  rw[aF (aW e hx),aF (aW e hdx)]
  exact e
def uw (K:W.Frag):Sp:=fun vs H Q _=>∃(c:Int),vs=[.int c]∧∀(v:V) (u:Tr) (H':Hp),aH H H'→Rp (fun _=>True) 3 H' v u→Ng u→Q v H'
theorem CH:aM P w K mg base cy 3 (ay 50) (aO 50) ["_law_cell"] (uw K):=by
 have eX:aM P w K mg base cy 2 (ay 45) (aO 45) ["_law_cell", "_law_salt"] gS:=jS T
 refine T.wk.ok iU (fun vs H Q E h=>?_) (fun cdv A outer s H vs Q E hr h=>?_)
 ·obtain⟨c,rfl,_⟩:=h;rfl
 ·have hu:=bA hr
  have jv:=hr.aQ
  obtain⟨c,rfl,k⟩:=h
  refine'⟨_,?aa,?bb⟩
  case aa =>
   refine' aq ?s0 ?r0
   case s0 =>
    exact(lA 1 iU.nd (kB eX hr T.kP T.iV.kp T.kO (af (pv 0) (af au aj ai) ak)) (hs:=cU))
   case r0 =>
    refine' aq ?s1 ?r1
    case s1 =>
     exact(lA 2 iU.nd (aL fM (pv 1) au) (hs:=dX))
    case r1 =>
     refine' aq ?s2 ?r2
     case s2 =>
      refine' aP ?c3 ?b3 ?e3
      case c3=>exact(iM cN (aL cC (pv 1) au) au)
      case b3 =>
       refine' aq ?s4 ?r4
       case s4 =>
        refine' Af (i:=3) ?ha5 ?hb5 ?hc5 ?v5 ?hd5 ?he5
        case ha5=>exact iU.nd
        case hb5=>rfl
        case hc5=>exact(by first | exact Or.inl rfl | exact Or.inr rfl)
        case hd5=>exact kM
        case he5=>first | exact .inl rfl | exact .inr rfl | assumption
        case v5 =>
         refine' bh ?a6
         case a6 =>
          refine' af ?x7 ?y7 ?z7
          case z7=>exact ai
          case x7 =>
           exact cM
          case y7 =>
           refine' af ?x8 ?y8 ?z8
           case z8=>exact cO
           case x8 =>
            refine' aJ ?a9
            case a9 =>
             refine' af ?x10 ?y10 ?z10
             case z10=>exact cO
             case x10 =>
              refine' aJ ?a11
              case a11 =>
               refine' af ?XC ?XD ?XE
               case XE=>exact ai
               case XC =>
                exact aB
               case XD =>
                exact aj
             case y10 =>
              exact aj
           case y8 =>
            refine' af ?XF ?XG ?XH
            case XH=>exact dY
            case XF =>
             refine' bh ?R1
             case R1 =>
              refine' af ?UD ?UE ?UG
              case UG=>exact dY
              case UD =>
               refine' bh ?a16
               case a16 =>
                exact aj
              case UE =>
               exact aj
            case XG =>
             refine' af ?x17 ?y17 ?z17
             case z17=>exact dY
             case x17 =>
              refine' bh ?a18
              case a18 =>
               refine' af ?x19 ?y19 ?z19
               case z19=>exact dY
               case x19 =>
                refine' bh ?a20
                case a20 =>
                 refine' af ?x21 ?y21 ?z21
                 case z21=>exact ai
                 case x21 =>
                  exact aB
                 case y21 =>
                  refine' af ?R3 ?R4 ?R5
                  case R5=>exact ai
                  case R3 =>
                   exact au
                  case R4 =>
                   exact aj
               case y19 =>
                exact aj
             case y17 =>
              refine' af ?UM ?UN ?UO
              case UO=>exact dY
              case UM =>
               refine' bh ?UP
               case UP =>
                refine' af ?Xq ?Xr ?Xs
                case Xs=>exact cO
                case Xq =>
                 refine' aJ ?a26
                 case a26 =>
                  refine' af ?x27 ?y27 ?z27
                  case z27=>exact ai
                  case x27 =>
                   exact aB
                  case y27 =>
                   exact aj
                case Xr =>
                 exact aj
              case UN =>
               refine' af ?Xy ?Xz ?XA
               case XA=>exact ai
               case Xy =>
                exact aB
               case Xz =>
                refine' af ?x29 ?y29 ?z29
                case z29=>exact ai
                case x29 =>
                 exact au
                case y29 =>
                 refine' af ?x30 ?y30 ?z30
                 case z30=>exact cj
                 case x30 =>
                  exact(aL Je (bh (af (bh (af aB aj ai)) aj dY)) au)
                 case y30 =>
                  refine' af ?x31 ?y31 ?z31
                  case z31=>exact dY
                  case x31 =>
                   refine' bh ?a32
                   case a32 =>
                    refine' af ?x33 ?y33 ?z33
                    case z33=>exact dY
                    case x33 =>
                     refine' bh ?Xx
                     case Xx =>
                      refine' af ?x35 ?y35 ?z35
                      case z35=>exact ai
                      case x35 =>
                       exact aB
                      case y35 =>
                       exact aj
                    case y33 =>
                     refine' af ?x36 ?y36 ?z36
                     case z36=>exact ai
                     case x36 =>
                      exact cM
                     case y36 =>
                      exact aj
                  case y31 =>
                   exact aj
       case r4 =>
        refine' aq ?s37 ?r37
        case s37 =>
         refine' Af (i:=3) ?af0 ?af1 ?af2 ?v38 ?af3 ?af4
         case af0=>exact iU.nd
         case af1=>rfl
         case af2=>exact(by first | exact Or.inl rfl | exact Or.inr rfl)
         case af3=>exact dX
         case af4=>first | exact .inl rfl | exact .inr rfl | assumption
         case v38 =>
          refine' aL Ei ?a39 ?b39
          case a39 =>
           exact(pv 3)
          case b39 =>
           refine' bh ?a40
           case a40 =>
            refine' af ?x41 ?y41 ?z41
            case z41=>exact dY
            case x41 =>
             refine' bh ?a42
             case a42 =>
              refine' af ?x43 ?y43 ?z43
              case z43=>exact cj
              case x43 =>
               exact(aL Je (bh (af aB aj ai)) au)
              case y43 =>
               exact aj
            case y41 =>
             refine' af ?x44 ?y44 ?z44
             case z44=>exact dY
             case x44 =>
              refine' bh ?a45
              case a45 =>
               refine' af ?x46 ?y46 ?z46
               case z46=>exact dY
               case x46 =>
                refine' bh ?a47
                case a47 =>
                 refine' af ?x48 ?y48 ?z48
                 case z48=>exact cj
                 case x48 =>
                  exact(aL Ek aB au)
                 case y48 =>
                  exact aj
               case y46 =>
                exact aj
             case y44 =>
              refine' af ?x49 ?y49 ?z49
              case z49=>exact dY
              case x49 =>
               refine' bh ?a50
               case a50 =>
                refine' af ?x51 ?y51 ?z51
                case z51=>exact dY
                case x51 =>
                 refine' bh ?a52
                 case a52 =>
                  refine' af ?x53 ?y53 ?z53
                  case z53=>exact ai
                  case x53 =>
                   exact aB
                  case y53 =>
                   exact aj
                case y51 =>
                 exact aj
              case y49 =>
               exact aj
        case r37 =>
         refine' av ?s54
         case s54 =>
          exact(aC (Ge K (pv 3) (aL cC (pv 2) au)))
      case e3 =>
       exact aE
     case r2 =>
      refine' aq ?s55 ?r55
      case s55 =>
       refine' aP ?c56 ?b56 ?e56
       case c56=>exact(iM cN (aL cC (pv 1) au) au)
       case b56 =>
        refine' av ?s57
        case s57 =>
         refine' aC ?v58
         case v58 =>
          refine' bh ?a59
          case a59 =>
           refine' af ?x60 ?y60 ?z60
           case z60=>exact dY
           case x60 =>
            refine' bh ?a61
            case a61 =>
             refine' af ?x62 ?y62 ?z62
             case z62=>exact cj
             case x62 =>
              exact(aL Ek aB (aL gD au (aL cC (pv 2) au)))
             case y62 =>
              exact aj
           case y60 =>
            exact aj
       case e56 =>
        exact aE
      case r55 =>
       refine' aq ?s63 ?r63
       case s63 =>
        refine' aP ?c64 ?b64 ?e64
        case c64=>exact(iM cN (aL cC (pv 1) au) au)
        case b64 =>
         refine' av ?s65
         case s65 =>
          exact(aC (aL Je (bh (af (bh (af aB (af aB (af aB aj ai) ai) ai)) aj dY)) (aL gD au (aL cC (pv 2) au))))
        case e64 =>
         exact aE
       case r63 =>
        refine' av ?s66
        case s66 =>
         refine' aC ?v67
         case v67 =>
          refine' bh ?a68
          case a68 =>
           refine' af ?x69 ?y69 ?z69
           case z69=>exact dY
           case x69 =>
            refine' bh ?a70
            case a70 =>
             refine' af ?x71 ?y71 ?z71
             case z71=>exact cj
             case x71 =>
              exact(aL Ek aB (aL cC (pv 2) au))
             case y71 =>
              refine' af ?x72 ?y72 ?z72
              case z72=>exact ai
              case x72 =>
               exact aB
              case y72 =>
               exact aj
           case y69 =>
            exact aj
  refine⟨_,rfl,c,61,rfl,by decide,by decide,fun n=>?_⟩
  dsimp only[cK]
  refine⟨_,rfl,_,_,rfl,rfl,⟨(by omega),(by omega)⟩,?_⟩
  dsimp only[cK]
  generalize n / 4=mo
  refine⟨_,rfl,_,_,rfl,rfl,(by omega),rfl,_,rfl,TV (fun _=>?_) (fun _=>?_)⟩
  ·refine⟨(by decide),fun p1 h1=>⟨(by show(1:Nat)≤sizeLine;decide),fun p2 h2=>⟨(by decide),fun p3 h3=>⟨(by show(1:Nat)≤sizeLine;decide),fun p4 h4=>⟨(by decide),fun p5 h5=>⟨(by show(1:Nat)≤sizeLine;decide),fun p6 h6=>⟨(by decide),fun p7 h7=>⟨(by show(1:Nat)≤sizeLine;decide),fun p8 h8=>⟨(by decide),fun p9 h9=>⟨(by show(1:Nat)≤sizeLine;decide),fun p10 SX=>⟨_,_,_,rfl,rfl,ah,(by omega),(by omega),?_,fun UU h11=>⟨(by decide),fun p12 h12=>⟨(by show(2:Nat)≤sizeLine;decide),fun UW NB=>⟨(by show(9:Nat)≤sizeLine;decide),fun p14 Mz=>⟨_,rfl,(by decide),fun q1 g1=>⟨_,_,_,rfl,rfl,ah,(by omega),(by omega),(by decide),fun q2 g2=>⟨(by show(1:Nat)≤sizeLine;decide),fun q3 g3=>⟨_,_,rfl,rfl,(by omega),(by omega),(by decide),(by decide),(by decide),fun q4 g4=>⟨(by show(1:Nat)≤sizeLine;decide),fun q5 g5=>⟨(by decide),fun q6 g6=>⟨(by show(1:Nat)≤sizeLine;decide),fun q7 g7=>⟨(by show(3:Nat)≤sizeLine;decide),fun q8 g8=>⟨_,_,_,_,rfl,rfl,(ao g8 _ _ (ao g7 _ _ (ao g6 _ _ (ao g5 _ _ (ao g4 _ _ (ao g3 _ _ (ao g2 _ _ (ao g1 _ _ ah)))))))),ah,?_,fun q9 g9=>⟨_,rfl,_,rfl,_,_,rfl,rfl,(by omega),?_⟩⟩⟩⟩⟩⟩⟩⟩⟩⟩⟩⟩⟩⟩⟩⟩⟩⟩⟩⟩⟩⟩⟩⟩
   ·show 1 * 61≤sizeLine;decide
   ·show 9+3≤sizeLine;decide
   (have s1:=ao (o:=HO.tup [V.str ("a":Str)]) h1;have u1:=ah (H:=H) (a:=p1) (o:=HO.tup [V.str ("a":Str)]);generalize upd H p1 (HO.tup [V.str ("a":Str)])=H1 at s1 u1 h2 h3 h4 h5 h6 h7 h8 h9 SX h11 h12 NB Mz g1 g2 g3 g4 g5 g6 g7 g8 g9 ⊢;have s2:=ao (o:=HO.tup [V.ref p1]) h2;have u2:=ah (H:=H1) (a:=p2) (o:=HO.tup [V.ref p1]);generalize upd H1 p2 (HO.tup [V.ref p1])=H2 at s2 u2 h3 h4 h5 h6 h7 h8 h9 SX h11 h12 NB Mz g1 g2 g3 g4 g5 g6 g7 g8 g9 ⊢;have s3:=ao (o:=HO.lst []) h3;have u3:=ah (H:=H2) (a:=p3) (o:=HO.lst []);generalize upd H2 p3 (HO.lst [])=H3 at s3 u3 h4 h5 h6 h7 h8 h9 SX h11 h12 NB Mz g1 g2 g3 g4 g5 g6 g7 g8 g9 ⊢;have s4:=ao (o:=HO.lst [V.ref p3]) h4;have u4:=ah (H:=H3) (a:=p4) (o:=HO.lst [V.ref p3]);generalize upd H3 p4 (HO.lst [V.ref p3])=H4 at s4 u4 h5 h6 h7 h8 h9 SX h11 h12 NB Mz g1 g2 g3 g4 g5 g6 g7 g8 g9 ⊢;have s5:=ao (o:=HO.lst [V.str ("a":Str),V.int 5]) h5;have u5:=ah (H:=H4) (a:=p5) (o:=HO.lst [V.str ("a":Str),V.int 5]);generalize upd H4 p5 (HO.lst [V.str ("a":Str),V.int 5])=H5 at s5 u5 h6 h7 h8 h9 SX h11 h12 NB Mz g1 g2 g3 g4 g5 g6 g7 g8 g9 ⊢;have s6:=ao (o:=HO.lst [V.ref p5]) h6;have u6:=ah (H:=H5) (a:=p6) (o:=HO.lst [V.ref p5]);generalize upd H5 p6 (HO.lst [V.ref p5])=H6 at s6 u6 h7 h8 h9 SX h11 h12 NB Mz g1 g2 g3 g4 g5 g6 g7 g8 g9 ⊢;have s7:=ao (o:=HO.tup [V.str ("a":Str)]) h7;have u7:=ah (H:=H6) (a:=p7) (o:=HO.tup [V.str ("a":Str)]);generalize upd H6 p7 (HO.tup [V.str ("a":Str)])=H7 at s7 u7 h8 h9 SX h11 h12 NB Mz g1 g2 g3 g4 g5 g6 g7 g8 g9 ⊢;have s8:=ao (o:=HO.lst [V.ref p7]) h8;have u8:=ah (H:=H7) (a:=p8) (o:=HO.lst [V.ref p7]);generalize upd H7 p8 (HO.lst [V.ref p7])=H8 at s8 u8 h9 SX h11 h12 NB Mz g1 g2 g3 g4 g5 g6 g7 g8 g9 ⊢;have s9:=ao (o:=HO.lst [V.str ("a":Str)]) h9;have u9:=ah (H:=H8) (a:=p9) (o:=HO.lst [V.str ("a":Str)]);generalize upd H8 p9 (HO.lst [V.str ("a":Str)])=H9 at s9 u9 SX h11 h12 NB Mz g1 g2 g3 g4 g5 g6 g7 g8 g9 ⊢;have Tt:=ao (o:=HO.lst [V.ref p9]) SX;have u10:=ah (H:=H9) (a:=p10) (o:=HO.lst [V.ref p9]);generalize upd H9 p10 (HO.lst [V.ref p9])=Z9 at Tt u10 h11 h12 NB Mz g1 g2 g3 g4 g5 g6 g7 g8 g9 ⊢;have s11:=ao (o:=HO.lst (List.replicate (Int.toNat 61) [V.ref p9]).flatten) h11;have u11:=ah (H:=Z9) (a:=UU) (o:=HO.lst (List.replicate (Int.toNat 61) [V.ref p9]).flatten);generalize upd Z9 UU (HO.lst (List.replicate (Int.toNat 61) [V.ref p9]).flatten)=H11 at s11 u11 h12 NB Mz g1 g2 g3 g4 g5 g6 g7 g8 g9 ⊢;have s12:=ao (o:=HO.lst [V.str ("a":Str)]) h12;have u12:=ah (H:=H11) (a:=p12) (o:=HO.lst [V.str ("a":Str)]);generalize upd H11 p12 (HO.lst [V.str ("a":Str)])=H12 at s12 u12 NB Mz g1 g2 g3 g4 g5 g6 g7 g8 g9 ⊢;have VP:=ao (o:=HO.lst [V.ref p12,V.non]) NB;have u13:=ah (H:=H12) (a:=UW) (o:=HO.lst [V.ref p12,V.non]);generalize upd H12 UW (HO.lst [V.ref p12,V.non])=H13 at VP u13 Mz g1 g2 g3 g4 g5 g6 g7 g8 g9 ⊢;have Nz:=ao (o:=HO.lst [V.non,V.ref p2,V.ref p4,V.ref p6,V.ref p8,V.str ("a":Str),V.int 7,V.ref UU,V.ref UW]) Mz;have u14:=ah (H:=H13) (a:=p14) (o:=HO.lst [V.non,V.ref p2,V.ref p4,V.ref p6,V.ref p8,V.str ("a":Str),V.int 7,V.ref UU,V.ref UW]);generalize upd H13 p14 (HO.lst [V.non,V.ref p2,V.ref p4,V.ref p6,V.ref p8,V.str ("a":Str),V.int 7,V.ref UU,V.ref UW])=H14 at Nz u14 g1 g2 g3 g4 g5 g6 g7 g8 g9 ⊢;have s15:=ao (o:=HO.lst [V.str ("a":Str)]) g1;have u15:=ah (H:=H14) (a:=q1) (o:=HO.lst [V.str ("a":Str)]);generalize upd H14 q1 (HO.lst [V.str ("a":Str)])=H15 at s15 u15 g2 g3 g4 g5 g6 g7 g8 g9 ⊢;have s16:=ao (o:=HO.lst (List.replicate (Int.toNat 21) [V.str ("a":Str)]).flatten) g2;have u16:=ah (H:=H15) (a:=q2) (o:=HO.lst (List.replicate (Int.toNat 21) [V.str ("a":Str)]).flatten);generalize upd H15 q2 (HO.lst (List.replicate (Int.toNat 21) [V.str ("a":Str)]).flatten)=H16 at s16 u16 g3 g4 g5 g6 g7 g8 g9 ⊢;have SS:=ao (o:=HO.lst [V.ref q2]) g3;have u17:=ah (H:=H16) (a:=q3) (o:=HO.lst [V.ref q2]);generalize upd H16 q3 (HO.lst [V.ref q2])=H17 at SS u17 g4 g5 g6 g7 g8 g9 ⊢;have s18:=ao (o:=HO.lst [V.str (rL ("b":Str) (Int.toNat 401))]) g4;have u18:=ah (H:=H17) (a:=q4) (o:=HO.lst [V.str (rL ("b":Str) (Int.toNat 401))]);generalize upd H17 q4 (HO.lst [V.str (rL ("b":Str) (Int.toNat 401))])=H18 at s18 u18 g5 g6 g7 g8 g9 ⊢;have SW:=ao (o:=HO.lst [V.ref q4]) g5;have u19:=ah (H:=H18) (a:=q5) (o:=HO.lst [V.ref q4]);generalize upd H18 q5 (HO.lst [V.ref q4])=H19 at SW u19 g6 g7 g8 g9 ⊢;have s20:=ao (o:=HO.lst [V.str (Str.ofString "a\tb")]) g6;have u20:=ah (H:=H19) (a:=q6) (o:=HO.lst [V.str (Str.ofString "a\tb")]);generalize upd H19 q6 (HO.lst [V.str (Str.ofString "a\tb")])=H20 at s20 u20 g7 g8 g9 ⊢;have Xk:=ao (o:=HO.lst [V.ref q6]) g7;have u21:=ah (H:=H20) (a:=q7) (o:=HO.lst [V.ref q6]);generalize upd H20 q7 (HO.lst [V.ref q6])=H21 at Xk u21 g8 g9 ⊢;have s22:=ao (o:=HO.lst [V.ref q3,V.ref q5,V.ref q7]) g8;have u22:=ah (H:=H21) (a:=q8) (o:=HO.lst [V.ref q3,V.ref q5,V.ref q7]);generalize upd H21 q8 (HO.lst [V.ref q3,V.ref q5,V.ref q7])=H22 at s22 u22 g9 ⊢;have s23:=ao (o:=HO.lst ([V.non,V.ref p2,V.ref p4,V.ref p6,V.ref p8,V.str ("a":Str),V.int 7,V.ref UU,V.ref UW]++[V.ref q3,V.ref q5,V.ref q7])) g9;have u23:=ah (H:=H22) (a:=q9) (o:=HO.lst ([V.non,V.ref p2,V.ref p4,V.ref p6,V.ref p8,V.str ("a":Str),V.int 7,V.ref UU,V.ref UW]++[V.ref q3,V.ref q5,V.ref q7]));generalize upd H22 q9 (HO.lst ([V.non,V.ref p2,V.ref p4,V.ref p6,V.ref p8,V.str ("a":Str),V.int 7,V.ref UU,V.ref UW]++[V.ref q3,V.ref q5,V.ref q7]))=NC at s23 u23 ⊢)
   have e22:=s23
   have e21:=s22.trans e22
   have e20:=Xk.trans e21
   have e19:=s20.trans e20
   have SV:=SW.trans e19
   have e17:=s18.trans SV
   have e16:=SS.trans e17
   have e15:=s16.trans e16
   have e14:=s15.trans e15
   have e13:=Nz.trans e14
   have e12:=VP.trans e13
   have VN:=s12.trans e12
   have e10:=s11.trans VN
   have e9:=Tt.trans e10
   have e8:=s9.trans e9
   have e7:=s8.trans e8
   have e6:=s7.trans e7
   have e5:=s6.trans e6
   have e4:=s5.trans e5
   have e3:=s4.trans e4
   have e2:=s3.trans e3
   have e1:=s2.trans e2
   have sH:=s1.trans e1
   obtain⟨v,ev,hv⟩:=AH (xs:=[V.non,.ref p2,.ref p4,.ref p6,.ref p8,.str ("a":Str),.int 7,.ref UU,.ref UW]++[.ref q3,.ref q5,.ref q7]) (i:=mo % 12) (uN (by decide)) (uO (by decide))
   refine⟨q9,_,_,v,rfl,rfl,bB.of u23,ev,?_⟩
   have kk:=k v
   have lf:Lf NC v→Q v NC:=fun h=>kk (.leaf v) NC sH (Rp.leaf h) (by cases h <;> trivial)
   have tu:∀{p:Addr}{x:V},NC p=some (.tup [x])→(iL x=true∨∃ b,x=.ref b)→Lf NC (.ref p):=fun h h2=>.tup h fun y hy=>by rw[List.mem_singleton.mp hy];exact h2
   rw[List.mem_append] at hv
   simp only[List.mem_cons,List.not_mem_nil,or_false] at hv
   rcases hv with (rfl | rfl | rfl | rfl | rfl | rfl | rfl | rfl | rfl) | (rfl | rfl | rfl)
   ·exact lf (.flat rfl fun z e=>by cases e)
   ·exact lf (tu (e2 _ _ u2) (.inr ⟨_,rfl⟩))
   ·exact kk _ NC sH (Rp.lst (e4 _ _ u4) trivial (by show(1:Nat)≤1000;decide) (.cons (Rp.lst (e3 _ _ u3) trivial (by decide) .nil) .nil)) (Hf fun _ z=>nomatch z)
   ·exact kk _ NC sH (Rp.lst (e6 _ _ u6) trivial (by show(1:Nat)≤1000;decide) (.cons (Rp.lst (e5 _ _ u5) trivial (by decide) (.cons (yV (by decide)) (.cons (yr rfl fun z e=>by cases e) .nil))) .nil)) (Hf (aaI Nh trivial))
   ·exact kk _ NC sH (Rp.lst (e8 _ _ u8) trivial (by show(1:Nat)≤1000;decide) (.cons (Rp.leaf (tu (e7 _ _ u7) (.inl rfl))) .nil)) (Hf trivial)
   ·exact lf (.flat rfl fun z e=>by cases e;decide)
   ·exact lf (.flat rfl fun z e=>by cases e)
   ·have w:=VN _ _ u11
    rw[RG] at w
    exact kk _ NC sH (Rp.lst w trivial (by rw[List.length_replicate];decide) (JG (Rp.lst (e9 _ _ u9) trivial (by decide) (.cons (yV (by decide)) .nil)) _)) (RI (RH Nh) _)
   ·exact kk _ NC sH (Rp.lst (e13 _ _ u13) trivial (by show(2:Nat)≤1000;decide) (.cons (Rp.lst (e12 _ _ u12) trivial (by decide) (.cons (yV (by decide)) .nil)) (.cons (yr rfl fun z e=>by cases e) .nil))) (fun r hr=>by
     rcases List.mem_cons.mp hr with rfl | hr
     ·exact RH Nh
     ·rw[List.mem_singleton.mp hr];trivial)
   ·exact kk _ NC sH (Rp.lst (e17 _ _ u17) trivial (by show(1:Nat)≤1000;decide) (.cons (Rp.lst (e16 _ _ u16) trivial (by decide) (JE (r:=List.replicate 21 ("a":Str)) (by decide +kernel))) .nil)) (Hf fun c hc=>by
     obtain⟨z,hz,rfl⟩:=List.mem_map.mp hc
     rw[(List.mem_replicate.mp hz).2];exact Nh)
   ·exact kk _ NC sH (Rp.lst (e19 _ _ u19) trivial (by show(1:Nat)≤1000;decide) (.cons (Rp.lst (SV _ _ u18) trivial (by decide) (.cons (yV (by decide +kernel)) .nil)) .nil)) (Hf (RH (G9 (JA aaG) (by decide +kernel))))
   ·exact kk _ NC sH (Rp.lst (e21 _ _ u21) trivial (by show(1:Nat)≤1000;decide) (.cons (Rp.lst (e20 _ _ u20) trivial (by decide) (.cons (yV (by decide)) .nil)) .nil)) (Hf (RH ⟨.inr (by decide +kernel),by decide⟩))
  refine⟨_,rfl,_,_,rfl,rfl,(by omega),rfl,_,rfl,TV (fun _=>?_) (fun _=>?_)⟩
  ·have m0:=uN (a:=mo) (b:=3) (by decide)
   have m1:=uO (a:=mo) (b:=3) (by decide)
   have al:("a":Str).length=1:=by decide
   refine⟨_,rfl,_,_,rfl,rfl,(by omega),_,_,rfl,rfl,_,_,rfl,rfl,(by omega),(by omega),?_,(by omega),(by show(1:Nat)≤sizeLine;decide),fun p1 h1=>⟨(by show(1:Nat)≤sizeLine;decide),fun p2 h2=>?_⟩⟩
   ·rw[al];omega
   (have s1:=ao (o:=HO.lst [V.str (rL ("a":Str) (23+mo % 3).toNat)]) h1;have u1:=ah (H:=H) (a:=p1) (o:=HO.lst [V.str (rL ("a":Str) (23+mo % 3).toNat)]);generalize upd H p1 (HO.lst [V.str (rL ("a":Str) (23+mo % 3).toNat)])=H1 at s1 u1 h2 ⊢;have s2:=ao (o:=HO.lst [V.ref p1]) h2;have u2:=ah (H:=H1) (a:=p2) (o:=HO.lst [V.ref p1]);generalize upd H1 p2 (HO.lst [V.ref p1])=H2 at s2 u2 ⊢)
   have rl:=L6 ("a":Str) (23+mo % 3).toNat
   rw[al] at rl
   exact k _ _ H2 (s1.trans s2) (Rp.lst u2 trivial (by show(1:Nat)≤1000;decide) (.cons (Rp.lst (s2 _ _ u1) trivial (by show(1:Nat)≤1000;decide) (.cons (yV (by omega)) .nil)) .nil)) (Hf (RH (G9 (JA W4) (by omega))))
  refine⟨_,rfl,_,_,rfl,rfl,(by omega),rfl,_,rfl,TV (fun _=>?_) (fun _=>?_)⟩
  ·have m0:=uN (a:=mo) (b:=6) (by decide)
   have m1:=uO (a:=mo) (b:=6) (by decide)
   refine⟨(by decide),fun p1 h1=>⟨(by show(1:Nat)≤sizeLine;decide),fun p2 h2=>⟨_,rfl,_,_,rfl,rfl,(by omega),_,_,rfl,rfl,_,_,_,rfl,rfl,ah,(by omega),(by omega),?_,fun p3 h3=>?_⟩⟩⟩
   ·exact Nat.le_trans (m:=100) (by show 1 * _≤_;omega) (by decide)
   (have s1:=ao (o:=HO.lst [V.str ("a":Str),V.str ("b":Str),V.str ("a":Str)]) h1;have u1:=ah (H:=H) (a:=p1) (o:=HO.lst [V.str ("a":Str),V.str ("b":Str),V.str ("a":Str)]);generalize upd H p1 (HO.lst [V.str ("a":Str),V.str ("b":Str),V.str ("a":Str)])=H1 at s1 u1 h2 h3 ⊢;have s2:=ao (o:=HO.lst [V.ref p1]) h2;have u2:=ah (H:=H1) (a:=p2) (o:=HO.lst [V.ref p1]);generalize upd H1 p2 (HO.lst [V.ref p1])=H2 at s2 u2 h3 ⊢;have s3:=ao (o:=HO.lst (List.replicate (1+mo % 6).toNat [V.ref p1]).flatten) h3;have u3:=ah (H:=H2) (a:=p3) (o:=HO.lst (List.replicate (1+mo % 6).toNat [V.ref p1]).flatten);generalize upd H2 p3 (HO.lst (List.replicate (1+mo % 6).toNat [V.ref p1]).flatten)=H3 at s3 u3 ⊢)
   have w:=u3
   rw[RG] at w
   have r3:JF (.list [.leaf (.str ("a":Str)),.leaf (.str ("b":Str)),.leaf (.str ("a":Str))]):=fun c hc=>by
    simp only[List.mem_cons,List.not_mem_nil,or_false] at hc
    rcases hc with rfl | rfl | rfl
    ·exact Nh
    ·exact aaH
    ·exact Nh
   exact k _ _ H3 (s1.trans (s2.trans s3)) (Rp.lst w trivial (by rw[List.length_replicate];omega) (JG (Rp.lst (s3 _ _ (s2 _ _ u1)) trivial (by decide) (.cons (yV (by decide)) (.cons (yV (by decide)) (.cons (yV (by decide)) .nil)))) _)) (RI r3 _)
  have m0:=uN (a:=mo) (b:=4) (by decide)
  have m1:=uO (a:=mo) (b:=4) (by decide)
  have al:("a":Str).length=1:=by decide
  refine⟨_,rfl,_,_,rfl,rfl,(by omega),_,_,rfl,rfl,(by omega),(by omega),?_,(by omega),(by show(2:Nat)≤sizeLine;decide),fun p1 h1=>⟨(by show(1:Nat)≤sizeLine;decide),fun p2 h2=>?_⟩⟩
  ·rw[al];omega
  (have s1:=ao (o:=HO.lst [V.str (rL ("a":Str) (mo % 4).toNat),V.str ("b":Str)]) h1;have u1:=ah (H:=H) (a:=p1) (o:=HO.lst [V.str (rL ("a":Str) (mo % 4).toNat),V.str ("b":Str)]);generalize upd H p1 (HO.lst [V.str (rL ("a":Str) (mo % 4).toNat),V.str ("b":Str)])=H1 at s1 u1 h2 ⊢;have s2:=ao (o:=HO.lst [V.ref p1]) h2;have u2:=ah (H:=H1) (a:=p2) (o:=HO.lst [V.ref p1]);generalize upd H1 p2 (HO.lst [V.ref p1])=H2 at s2 u2 ⊢)
  have rl:=L6 ("a":Str) (mo % 4).toNat
  rw[al] at rl
  exact k _ _ H2 (s1.trans s2) (Rp.lst u2 trivial (by show(1:Nat)≤1000;decide) (.cons (Rp.lst (s2 _ _ u1) trivial (by show(2:Nat)≤1000;decide) (.cons (yV (by omega)) (.cons (yV (by decide)) .nil))) .nil)) (Hf (aaI (G9 (JA W4) (by omega)) aaH))
def sV (K:W.Frag):Sp:=fun vs H Q _=>∃(a:Addr) (xs:List V) (t:List (List Str)),vs=[.ref a]∧H a=some (.lst xs)∧Paired (kC H) xs t∧TabOk t∧∀ H',aH H H'→Q (.int (G7 (Ba t):Nat)) H'
theorem BN:aM P w K mg base cy 1 (ay 51) (aO 51) ["_law_table_here"] (sV K):=by
 refine T.uo.ok Bk (fun vs H Q E h=>?_) (fun cdv A outer s H vs Q E hr h=>?_)
 ·obtain⟨a,xs,t,rfl,_⟩:=h;rfl
 ·have hu:=bA hr
  have jv:=hr.aQ
  obtain⟨a,xs,t,rfl,ha,pr,tok,k⟩:=h
  have hel:=pr.length
  have h60:=tok.n
  have hts:G7 (Ba t)≤9000:=by rw[EA tok];exact WT tok
  have htn:G7 (Ba t)=(t.map fun r=>r.length+(lens r).sum).sum:=by rw[EA tok,uL tok.rows]
  refine⟨_,(av (aC (i9 (mS K rfl rfl) T.xQ (af (dW rfl (show bq ["_law_table_here"] (aA gh) ["_law_row"] 1 [] _ from GV) (cE K rfl (pv 0)) (fun _ _ _ _=>(qM 0 L4)) (fun _ _ _ _=>di) (fun _ _ _ _=>(aL gD (i9 (bE K rfl) T.dH (af (pv 0) aj ak)) (i9 (mS K rfl rfl) T.xQ (af (dW rfl (show bq ["_law_row"] _ ["_law_one"] 1 [] _ from ⟨rfl,by decide +kernel,by decide +kernel,fun y hy hf=>absurd hf ((by decide +kernel:∀ y∈_,y.2≠PySem.NameKind.free) y hy),by decide +kernel,rfl,rfl,by decide +kernel⟩) (cE K rfl (pv 0)) (fun _ _ _ _=>(qM 0 L4)) (fun _ _ _ _=>di) (fun _ _ _ _=>(i9 dU T.dH (af (pv 0) aj ak)))) aj bF))))) aj bF)))),?_⟩
  refine⟨_,rfl,a,rfl,⟨_,bB.of ha⟩,fun D hD=>?_⟩
  refine dB (K:=K) (a:=a) (xs:=xs) (fun i ys τ J=>(∃ v,τ=[v])∧aH H J∧J D=some (.lst ys)∧ys=((t.map fun r=>r.length+(lens r).sum).take i).map fun n:Nat=>V.int n) ⟨⟨_,rfl⟩,ao hD,ah,rfl⟩ (fun i ys τ J _ p=>⟨bB.of (p.2.1 _ _ ha),p.2.2.1⟩) ?_ ?_
  ·rintro i e ys τ J hi ⟨⟨v,rfl⟩,sJ,hJ,rfl⟩
   obtain⟨r,hr,b,rfl,hb⟩:=bD pr i e hi
   have VL:=List.mem_of_getElem? hr
   have hil:i < xs.length:=(List.getElem?_eq_some_iff.mp hi).1
   have hbJ:=sJ _ _ hb
   have ok:=tok.rows r VL
   have hhi:=ok.hi
   have hsum:(lens r).sum≤400:=Nat.le_trans (zW VL) tok.sum
   have hrl:(r.map V.str).length=r.length:=List.length_map ..
   refine rM ?_
   refine⟨_,rfl,b,_,rfl,.inl (bB.of hbJ),_,rfl,b,rfl,⟨_,bB.of hbJ⟩,fun E hE=>?_⟩
   refine dB (K:=K) (a:=b) (xs:=r.map V.str) (fun i ys τ G=>(∃ v,τ=[v])∧aH J G∧G E=some (.lst ys)∧ys=((lens r).take i).map fun n:Nat=>V.int n) ⟨⟨_,rfl⟩,ao hE,ah,rfl⟩ (fun i ys τ G _ p=>⟨bB.of (p.2.1 _ _ hbJ),p.2.2.1⟩) ?_ ?_
   ·rintro j e ys τ G hj ⟨⟨v,rfl⟩,s3,hl2,rfl⟩
    rw[List.getElem?_map] at hj
    cases hz:r[j]? with
    | none=>rw[hz] at hj;cases hj
    | some z =>
     rw[hz] at hj
     cases hj
     have hzr:=List.mem_of_getElem? hz
     have Xj:=AM hzr
     refine rM ?_
     refine⟨_,rfl,z,rfl,Nat.le_trans (show z.length≤400 by omega) (by decide),hl2,?_,⟨_,rfl⟩,bg hE s3,ah,?_⟩
     ·rw[List.length_map,List.length_take]
      unfold lens;rw[List.length_map]
      exact Nat.lt_of_le_of_lt (show _≤21 by omega) (by decide)
     ·rw[aY (l:=lens r) (c:=z.length) (by unfold lens;rw[List.getElem?_map,hz];rfl),List.map_append];rfl
   ·rintro ys τ G ⟨⟨v,rfl⟩,s3,hl2,rfl⟩
    have e:(lens r).take (r.map V.str).length=lens r:=List.take_of_length_le (by unfold lens;rw[List.length_map,List.length_map];exact Nat.le_refl _)
    rw[e] at hl2
    refine⟨E,lens r,rfl,bB.of hl2,by omega,_,_,rfl,rfl,s3 _ _ hJ,?_,⟨_,rfl⟩,bg hD (sJ.trans s3),ah,?_⟩
    ·rw[List.length_map,List.length_take,List.length_map]
     exact Nat.lt_of_le_of_lt (show _≤62 by omega) (by decide)
    ·rw[aY (l:=t.map fun r=>r.length+(lens r).sum) (c:=r.length+(lens r).sum) (by rw[List.getElem?_map,hr];rfl),List.map_append,←hrl];rfl
  rintro ys τ J ⟨⟨v,rfl⟩,sJ,hJ,rfl⟩
  have e:(t.map fun r=>r.length+(lens r).sum).take xs.length=t.map fun r=>r.length+(lens r).sum:=List.take_of_length_le (by rw[List.length_map,hel];exact Nat.le_refl _)
  rw[e] at hJ
  refine⟨D,_,rfl,bB.of hJ,by omega,?_⟩
  rw[←htn]
  exact k J sJ
def wK (K:W.Frag):Sp:=fun vs H Q _=>∃(N:Addr→Prop) (n:Nat) (v:V) (u:Tr),vs=[v]∧Rp N n H v u∧Ng u∧∀ H',aH H H'→Q (.bl (tP u)) H'
theorem EZ:aM P w K mg base cy 1 (ay 52) (aO 52) ["_law_table_here"] (wK K):=by
 refine T.yD.ok vR (fun vs H Q E h=>?_) (fun cdv A outer s H vs Q E hr h=>?_)
 ·obtain⟨N,n,v,u,rfl,_⟩:=h;rfl
 ·have hu:=bA hr
  have jv:=hr.aQ
  obtain⟨N,n,v,u,rfl,hv,hP,k⟩:=h
  rw[W3 hP] at k
  refine⟨_,(aq (aP (PW.pt (j9 (cY (bP (i9 (bN K rfl) T.aI (af (pv 0) (af (II "list" T.wo) aj ak) ak)))) (ko (iM m9 (i9 (bE K rfl) T.dH (af (pv 0) aj ak)) au)))) (av (aC oX)) aE)
   (aq (oN PassesOwn.never rfl (cE K rfl (pv 0)) (qM 1 vR.nd)
   (aq (aP (PW.pt (j9 (cY (bP (i9 (bN K rfl) T.aI (af (pv 1) (af (II "list" T.wo) aj ak) ak)))) (j9 (iM (Wn K rfl jv) (pv 1) (bh aj)) (ko (iM m9 (i9 (bE K rfl) T.dH (af (pv 1) aj ak)) au))))) (av (aC oX)) aE)
   (av (aP (cY (bP (i9 (oY K rfl rfl) T.BA (af (dW rfl (show bq ["_law_table_here", "_law_row"] (aA gJ) ["_law_one"] 1 [] _ from GV) (cE K rfl (pv 1)) (fun _ _ _ _=>(qM 0 L4)) (fun _ _ _ _=>di) (fun _ _ _ _=>(uG (i9 (bN K rfl) T.aI (af (pv 0) (af (II "str" T.JR) aj ak) ak)) (w6 (D9 D8 aB (pv 0) rfl))))) aj bF)))) (av (aC oX)) aE))))
   (av (aC (IJ Dh (i9 (mS K rfl rfl) T.xQ (af (dW rfl (show bq ["_law_table_here", "_law_row"] (aA gJ) ["_law_row"] 1 [] _ from GV) (cE K rfl (pv 0)) (fun _ _ _ _=>(qM 0 L4)) (fun _ _ _ _=>di) (fun _ _ _ _=>(i9 (mS K rfl rfl) T.xQ (af (dW rfl (show bq ["_law_row"] _ ["_law_one"] 1 [] _ from ⟨rfl,by decide +kernel,by decide +kernel,fun y hy hf=>absurd hf ((by decide +kernel:∀ y∈_,y.2≠PySem.NameKind.free) y hy),by decide +kernel,rfl,rfl,by decide +kernel⟩) (cE K rfl (pv 0)) (fun _ _ _ _=>(qM 0 L4)) (fun _ _ _ _=>di) (fun _ _ _ _=>(i9 dU T.dH (af (pv 0) aj ak)))) aj bF)))) aj bF)) au))))),?_⟩
  rcases hv.iX K with ⟨m,a,xs,ts,rfl,rfl,rfl,ha,hN,El,ps⟩ | ⟨ty,hty,ht,rfl,_⟩
  rotate_left
  ·exact⟨_,rfl,_,_,_,false,rfl,hty,.inl ⟨_,rfl,ht⟩,false,rfl,gj (k H (aH.refl H))⟩
  have hlx:=ps.length
  have ek:aaD (.list ts)=(decide (ts.length≤60) && ts.all Ce && decide ((ts.map xE).sum≤400)):=rfl
  refine⟨_,rfl,_,_,_,true,rfl,.lst ha,.inl ⟨_,rfl,rfl⟩,true,rfl,eZ ?_⟩
  refine⟨_,rfl,a,_,rfl,.inl (bB.of ha),_,_,rfl,rfl,_,rfl,MZ (fun h1=>?_) (fun h1=>?_)⟩
  ·rw[ek,decide_eq_false (by omega)] at k
   exact k H (aH.refl _)
  rw[ek,decide_eq_true (by omega),Bool.true_and] at k
  dsimp only[Ae]
  refine⟨_,rfl,a,rfl,⟨_,bB.of ha⟩,?_⟩
  refine rD (K:=K) (a:=a) (xs:=xs) (fun i σ J=>aH H J∧∃ v1,σ=[some (.ref a),v1]∧∀ r∈ts.take i,Ce r=true) ⟨aH.refl _,_,rfl,fun _ z=>by rw[List.take_zero] at z;cases z⟩ (fun i σ J _ q=>bB.of (q.1 _ _ ha)) ?_ ?_
  ·rintro i x σ J hi ⟨sJ,v1,rfl,hgd⟩
   have hil:i < xs.length:=(List.getElem?_eq_some_iff.mp hi).1
   obtain⟨r,VL,hx⟩:=bD ps i x hi
   have hmem:=List.mem_of_getElem? VL
   have hx:=hx.mono sJ fun _ z=>z
   have bad:∀ G,aH H G→Ce r=false→Q (.bl false) G:=fun G sG e=>by
    have ea:ts.all Ce=false:=by
     rw[Bool.eq_false_iff]
     intro h
     rw[List.all_eq_true] at h
     rw[h r hmem] at e;cases e
    rw[ea] at k
    exact k G sG
   dsimp only[cK]
   rcases hx.iX K with ⟨m2,b,ys,cs,rfl,rfl,rfl,hb,_,hlb,qs⟩ | ⟨ty,hty,ht,rfl,_⟩
   rotate_left
   ·exact⟨_,rfl,_,_,_,false,rfl,hty,.inl ⟨_,rfl,ht⟩,false,rfl,gj (bad J sJ rfl)⟩
   have hly:=qs.length
   have er:Ce (.list cs)=(decide (1≤cs.length∧cs.length≤20) && cs.all jG):=rfl
   refine⟨_,rfl,_,_,_,true,rfl,.lst hb,.inl ⟨_,rfl,rfl⟩,true,rfl,eZ ?_⟩
   refine⟨_,rfl,(by decide),fun l8 hl8=>⟨_,_,_,rfl,rfl,bB.of (ao hl8 _ _ hb),bB.of ah,_,rfl,?_⟩⟩
   (have t1:=ao (o:=HO.lst []) hl8;have u1:=ah (H:=J) (a:=l8) (o:=HO.lst []);generalize upd J l8 (HO.lst [])=J1 at t1 u1 ⊢)
   have sJ1:=sJ.trans t1
   have hb1:=t1 _ _ hb
   refine rdB (fun hne=>?_) (fun hne=>?_)
   ·refine gj (bad J1 sJ1 ?_)
    rw[er,decide_eq_false (by rw[List.isEmpty_iff.mp hne] at hly;rw[List.length_nil] at hly;omega)];rfl
   have hne:1≤ys.length:=by
    cases ys with
    | nil=>cases hne
    | cons y ys=>exact Nat.succ_pos _
   refine⟨_,rfl,b,_,rfl,.inl (bB.of hb1),_,_,rfl,rfl,_,rfl,MZ (fun h3=>bad J1 sJ1 ?_) (fun h3=>?_)⟩
   ·rw[er,decide_eq_false (by omega)];rfl
   dsimp only[Ae]
   refine⟨_,rfl,b,rfl,⟨_,bB.of hb1⟩,fun D hD=>?_⟩
   refine dB (K:=K) (a:=b) (xs:=ys) (fun i ws τ G=>(∃ v,τ=[v])∧aH J1 G∧G D=some (.lst ws)∧ws=((cs.take i).map jG).map V.bl) ⟨⟨_,rfl⟩,ao hD,ah,rfl⟩ (fun i ws τ G _ p=>⟨bB.of (p.2.1 _ _ hb1),p.2.2.1⟩) ?_ ?_
   ·rintro j e ws τ G hj ⟨⟨v,rfl⟩,s2,hl,rfl⟩
    have hjl:j < ys.length:=(List.getElem?_eq_some_iff.mp hj).1
    obtain⟨c,hc,he⟩:=bD qs j e hj
    have he:=he.mono (t1.trans s2) fun _ z=>z
    have fin:∀ b,b=jG c→G D=some (.lst (((cs.take j).map jG).map V.bl))∧(((cs.take j).map jG).map V.bl).length < sizeLine∧(∃ v,[some e]=[v])∧aH J1 (upd G D (.lst (((cs.take j).map jG).map V.bl++[.bl b])))∧(upd G D (.lst (((cs.take j).map jG).map V.bl++[.bl b]))) D=some (.lst (((cs.take j).map jG).map V.bl++[.bl b]))∧((cs.take j).map jG).map V.bl++[.bl b]=((cs.take (j+1)).map jG).map V.bl:=fun b hb=>by
     refine⟨hl,?_,⟨_,rfl⟩,bg hD s2,ah,?_⟩
     ·rw[List.length_map,List.length_map,List.length_take]
      exact Nat.lt_of_le_of_lt (show _≤1000 by omega) (by decide)
     ·rw[aY hc,List.map_append,List.map_append,hb];rfl
    refine rM ?_
    rcases he.Ew K with ⟨z,rfl,rfl,hz⟩ | ⟨ty,hty,ht,e2⟩
    ·refine⟨_,rfl,_,_,_,true,rfl,.str _,.inl ⟨_,rfl,rfl⟩,true,rfl,gj ?_⟩
     refine⟨_,rfl,_,_,rfl,rfl,fin _ ?_⟩
     show _=away z 9
     rw[show Str.ofString "	" = sg 9 by decide +kernel];rfl
    ·refine⟨_,rfl,_,_,_,false,rfl,hty,.inl ⟨_,rfl,ht⟩,false,rfl,eZ (fin _ ?_)⟩
     cases c with
     | list cs=>rfl
     | leaf v =>
      cases v with
      | str z =>
       rcases he.iX K with ⟨_,_,_,_,_,_,e3,_⟩ | ⟨_,_,_,e3,hv⟩
       ·cases e3
       ·cases e3
        cases hty with
        | str _=>cases ht
      | _=>rfl
   rintro ws τ G ⟨⟨v,rfl⟩,s2,hl,rfl⟩
   rw[hly,List.take_of_length_le (Nat.le_refl _)] at hl
   refine⟨D,cs.map jG,rfl,bB.of hl,?_⟩
   have ea:(cs.map jG).all id=cs.all jG:=by rw[List.all_map];rfl
   rw[ea]
   cases hA:cs.all jG with
   | false=>exact⟨_,rfl,gj (bad G (sJ1.trans s2) (by rw[er,hA,Bool.and_false]))⟩
   | true =>
    refine⟨_,rfl,eZ ⟨sJ1.trans s2,_,rfl,fun r2 hr2=>?_⟩⟩
    rw[aY VL] at hr2
    rcases List.mem_append.mp hr2 with q | q
    ·exact hgd r2 q
    ·rw[List.mem_singleton.mp q,er,hA,decide_eq_true (by omega)];rfl
  rintro σ J ⟨sJ,v1,rfl,hgd⟩
  rw[hlx,List.take_of_length_le (Nat.le_refl _)] at hgd
  have ea:ts.all Ce=true:=by rw[List.all_eq_true];exact hgd
  obtain⟨t,rfl,tr⟩:=RE K ps hgd hP
  rw[ea,Bool.true_and,Mj] at k
  have tl:=VG (t:=t) (Bb (fun a b ⟨_,_,_,q⟩=>q) tr)
  have htl:t.length≤60:=by rw[List.length_map] at hlx;omega
  have ha2:=sJ _ _ ha
  refine⟨_,rfl,a,rfl,⟨_,bB.of ha2⟩,fun E hE=>?_⟩
  refine dB (K:=K) (a:=a) (xs:=xs) (fun i ys τ G=>(∃ v,τ=[v])∧aH J G∧G E=some (.lst ys)∧ys=((t.map fun r=>(lens r).sum).take i).map fun n:Nat=>V.int n) ⟨⟨_,rfl⟩,ao hE,ah,rfl⟩ (fun i ys τ G _ p=>⟨bB.of (p.2.1 _ _ ha2),p.2.2.1⟩) ?_ ?_
  ·rintro i e ys τ G hi ⟨⟨v,rfl⟩,s3,hl,rfl⟩
   obtain⟨r,hr,b,rfl,hb,aaO,hr4⟩:=bD tr i e hi
   have hil:i < xs.length:=(List.getElem?_eq_some_iff.mp hi).1
   have hbG:=s3 _ _ (sJ _ _ hb)
   have hsum:(lens r).sum≤8020:=by have:=vO hr4;omega
   refine rM ?_
   refine⟨_,rfl,b,rfl,⟨_,bB.of hbG⟩,fun F hF=>?_⟩
   refine dB (K:=K) (a:=b) (xs:=r.map V.str) (fun i ys τ G2=>(∃ v,τ=[v])∧aH G G2∧G2 F=some (.lst ys)∧ys=((lens r).take i).map fun n:Nat=>V.int n) ⟨⟨_,rfl⟩,ao hF,ah,rfl⟩ (fun i ys τ G2 _ p=>⟨bB.of (p.2.1 _ _ hbG),p.2.2.1⟩) ?_ ?_
   ·rintro j e ys τ G2 hj ⟨⟨v,rfl⟩,s4,hl2,rfl⟩
    rw[List.getElem?_map] at hj
    cases hz:r[j]? with
    | none=>rw[hz] at hj;cases hj
    | some z =>
     rw[hz] at hj
     cases hj
     have Xj:=hr4 z (List.mem_of_getElem? hz)
     refine rM ?_
     refine⟨_,rfl,z,rfl,Nat.le_trans Xj (by decide),hl2,?_,⟨_,rfl⟩,bg hF s4,ah,?_⟩
     ·rw[List.length_map,List.length_take]
      unfold lens;rw[List.length_map]
      exact Nat.lt_of_le_of_lt (show _≤21 by omega) (by decide)
     ·rw[aY (l:=lens r) (c:=z.length) (by unfold lens;rw[List.getElem?_map,hz];rfl),List.map_append];rfl
   ·rintro ys τ G2 ⟨⟨v,rfl⟩,s4,hl2,rfl⟩
    have e:(lens r).take (r.map V.str).length=lens r:=List.take_of_length_le (by unfold lens;rw[List.length_map,List.length_map];exact Nat.le_refl _)
    rw[e] at hl2
    refine⟨F,lens r,rfl,bB.of hl2,by omega,s4 _ _ hl,?_,⟨_,rfl⟩,bg hE (s3.trans s4),ah,?_⟩
    ·rw[List.length_map,List.length_take,List.length_map]
     exact Nat.lt_of_le_of_lt (show _≤60 by omega) (by decide)
    ·rw[aY (l:=t.map fun r=>(lens r).sum) (c:=(lens r).sum) (by rw[List.getElem?_map,hr];rfl),List.map_append];rfl
  rintro ys τ G ⟨⟨v,rfl⟩,s3,hl,rfl⟩
  have e:(t.map fun r=>(lens r).sum).take xs.length=t.map fun r=>(lens r).sum:=List.take_of_length_le (by rw[List.length_map,hlx,List.length_map];exact Nat.le_refl _)
  rw[e] at hl
  refine⟨E,t.map fun r=>(lens r).sum,rfl,bB.of hl,by omega,_,_,rfl,rfl,?_⟩
  have e2:decide ((((t.map fun r=>(lens r).sum).sum:Nat):Int) < 401)=decide ((t.map fun r=>(lens r).sum).sum≤400):=decide_eq_decide.mpr (by omega)
  have q:=k G (sJ.trans s3)
  rw[←e2] at q
  exact q
def wL (K:W.Frag):Sp:=fun vs H Q _=>∃(c:Int),vs=[.int c]∧∀(v:V) (u:Tr) (H':Hp),aH H H'→Rp (fun _=>True) 1 H' v u→Q v H'
theorem E1:aM P w K mg base cy 3 (ay 53) (aO 53) ["_law_cell"] (wL K):=by
 have eX:aM P w K mg base cy 2 (ay 45) (aO 45) ["_law_cell", "_law_salt"] gS:=jS T
 refine T.yE.ok qp (fun vs H Q E h=>?_) (fun cdv A outer s H vs Q E hr h=>?_)
 ·obtain⟨c,rfl,_⟩:=h;rfl
 ·have hu:=bA hr
  have jv:=hr.aQ
  obtain⟨c,rfl,k⟩:=h
  refine'⟨_,?aa,?bb⟩
  case aa =>
   refine' aq ?s0 ?r0
   case s0 =>
    exact(lA 1 qp.nd (kB eX hr T.kP T.iV.kp T.kO (af (pv 0) (af au aj ai) ak)) (hs:=cU))
   case r0 =>
    refine' aq ?s1 ?r1
    case s1 =>
     exact(lA 2 qp.nd (aL cC (aL fM (pv 1) au) (aL IT au au)) (hs:=dX))
    case r1 =>
     refine' aq ?s2 ?r2
     case s2 =>
      refine' aP ?c3 ?b3 ?e3
      case c3=>exact(iM cN (aL cC (pv 1) au) au)
      case b3 =>
       refine' av ?s4
       case s4 =>
        refine' aC ?v5
        case v5 =>
         refine' Ge K ?o6 ?i6 ?h6 ?k6
         case h6=>exact fun _ _=>rfl
         case k6=>exact rfl
         case o6 =>
          refine' bh ?a7
          case a7 =>
           refine' af ?x8 ?y8 ?z8
           case z8=>exact ai
           case x8 =>
            exact au
           case y8 =>
            refine' af ?x9 ?y9 ?z9
            case z9=>exact Jy
            case x9 =>
             exact(Vn Pr au)
            case y9 =>
             refine' af ?x10 ?y10 ?z10
             case z10=>exact ai
             case x10 =>
              exact au
             case y10 =>
              refine' af ?x11 ?y11 ?z11
              case z11=>exact ai
              case x11 =>
               exact oX
              case y11 =>
               refine' af ?XC ?XD ?XE
               case XE=>exact ai
               case XC =>
                exact cM
               case XD =>
                refine' af ?XF ?XG ?XH
                case XH=>exact ai
                case XF =>
                 exact aB
                case XG =>
                 refine' af ?x14 ?y14 ?z14
                 case z14=>exact cO
                 case x14 =>
                  refine' aJ ?a15
                  case a15 =>
                   refine' af ?UH ?UI ?UJ
                   case UJ=>exact ai
                   case UH =>
                    exact au
                   case UI =>
                    exact aj
                 case y14 =>
                  refine' af ?x17 ?y17 ?z17
                  case z17=>exact dY
                  case x17 =>
                   refine' bh ?a18
                   case a18 =>
                    refine' af ?x19 ?y19 ?z19
                    case z19=>exact ai
                    case x19 =>
                     exact au
                    case y19 =>
                     exact aj
                  case y17 =>
                   refine' af ?x20 ?y20 ?z20
                   case z20=>exact cj
                   case x20 =>
                    exact(aL Pq (Vn Pr au) (pv 2))
                   case y20 =>
                    refine' af ?x21 ?y21 ?z21
                    case z21=>exact cj
                    case x21 =>
                     exact(aL gD au (pv 2))
                    case y21 =>
                     exact aj
         case i6=>exact(aL cC (aL fM (pv 1) au) au)
      case e3 =>
       exact aE
     case r2 =>
      refine' av ?s22
      case s22 =>
       refine' aC ?v23
       case v23 =>
        refine' Ge K ?o24 ?i24 ?h24 ?k24
        case h24=>exact fun _ _=>rfl
        case k24=>exact rfl
        case o24 =>
         refine' bh ?a25
         case a25 =>
          refine' af ?Xu ?Xv ?Xw
          case Xw=>exact ai
          case Xu =>
           exact au
          case Xv =>
           refine' af ?x27 ?y27 ?z27
           case z27=>exact ai
           case x27 =>
            exact au
           case y27 =>
            refine' af ?Xy ?Xz ?XA
            case XA=>exact cj
            case Xy =>
             exact(aL gD au (aL cC (aL fM (pv 1) au) au))
            case Xz =>
             exact aj
        case i24=>exact(aL cC (aL fM (pv 1) au) au)
  refine⟨_,rfl,c,67,rfl,by decide,by decide,fun n=>?_⟩
  dsimp only[cK]
  refine⟨_,rfl,_,_,rfl,rfl,⟨(by omega),(by omega)⟩,_,_,rfl,rfl,⟨(by omega),⟨(by omega),(by omega)⟩⟩,_,_,rfl,rfl,?_,_,rfl,_,_,rfl,rfl,(by omega),rfl,_,rfl,?_⟩
  ·show(0:Int) < 10 ^ 40;decide
  have ni:∀{G:Hp}{i:Int},Rp (fun _=>True) 1 G (.int i) (.leaf (.int i)):=yr rfl fun z e=>by cases e
  refine TV (fun _=>?_) (fun _=>?_)
  ·refine⟨_,rfl,(by decide),fun p1 h1=>⟨(by decide),fun p2 h2=>⟨_,rfl,_,rfl,_,_,rfl,rfl,_,rfl,_,_,rfl,rfl,(by show(10:Nat)≤sizeLine;decide),fun p3 h3=>⟨_,rfl,_,_,rfl,rfl,⟨(by omega),(by omega)⟩,_,_,rfl,rfl,(by omega),?_⟩⟩⟩⟩
   (have s1:=ao (o:=HO.tup [V.int 5]) h1;have u1:=ah (H:=H) (a:=p1) (o:=HO.tup [V.int 5]);generalize upd H p1 (HO.tup [V.int 5])=H1 at s1 u1 h2 h3 ⊢;have s2:=ao (o:=HO.lst [V.int 5]) h2;have u2:=ah (H:=H1) (a:=p2) (o:=HO.lst [V.int 5]);generalize upd H1 p2 (HO.lst [V.int 5])=H2 at s2 u2 h3 ⊢;have s3:=ao (o:=HO.lst [V.int 0,(fun i=>V.int (-i)) 1,V.int 4001,V.bl true,V.non,V.str ("7":Str),V.ref p1,V.ref p2,(fun i j=>V.int (i - j)) (-2) (n / 30 % 10 ^ Int.toNat 40),(fun i j=>V.int (i+j)) 4002 (n / 30 % 10 ^ Int.toNat 40)]) h3;have u3:=ah (H:=H2) (a:=p3) (o:=HO.lst [V.int 0,(fun i=>V.int (-i)) 1,V.int 4001,V.bl true,V.non,V.str ("7":Str),V.ref p1,V.ref p2,(fun i j=>V.int (i - j)) (-2) (n / 30 % 10 ^ Int.toNat 40),(fun i j=>V.int (i+j)) 4002 (n / 30 % 10 ^ Int.toNat 40)]);generalize upd H2 p3 (HO.lst [V.int 0,(fun i=>V.int (-i)) 1,V.int 4001,V.bl true,V.non,V.str ("7":Str),V.ref p1,V.ref p2,(fun i j=>V.int (i - j)) (-2) (n / 30 % 10 ^ Int.toNat 40),(fun i j=>V.int (i+j)) 4002 (n / 30 % 10 ^ Int.toNat 40)])=H3 at s3 u3 ⊢)
   obtain⟨v,ev,hv⟩:=AH (xs:=[V.int 0,V.int (-1),.int 4001,.bl true,.non,.str ("7":Str),.ref p1,.ref p2,.int (-2 - n / 30 % 10 ^ Int.toNat 40),.int (4002+n / 30 % 10 ^ Int.toNat 40)]) (i:=n / 3 % 10) (uN (by decide)) (uO (by decide))
   refine⟨p3,_,_,v,rfl,rfl,bB.of u3,ev,?_⟩
   have kk:=fun u=>k v u H3 (s1.trans (s2.trans s3))
   simp only[List.mem_cons,List.not_mem_nil,or_false] at hv
   rcases hv with rfl | rfl | rfl | rfl | rfl | rfl | rfl | rfl | rfl | rfl
   ·exact kk _ ni
   ·exact kk _ ni
   ·exact kk _ ni
   ·exact kk _ (yr rfl fun z e=>by cases e)
   ·exact kk _ (yr rfl fun z e=>by cases e)
   ·exact kk _ (yV (by decide))
   ·exact kk _ (Rp.leaf (.tup (s3 _ _ (s2 _ _ u1)) fun y hy=>by rw[List.mem_singleton.mp hy];exact .inl rfl))
   ·exact kk _ (Rp.lst (s3 _ _ u2) trivial (by decide) (.cons (yr rfl fun z e=>by cases e) .nil))
   ·exact kk _ ni
   ·exact kk _ ni
  refine⟨_,rfl,_,_,rfl,rfl,⟨(by omega),(by omega)⟩,_,_,rfl,rfl,(by omega),_,_,rfl,rfl,(by show(3:Nat)≤sizeLine;decide),fun p1 h1=>⟨_,rfl,_,_,rfl,rfl,⟨(by omega),(by omega)⟩,_,_,rfl,rfl,(by omega),?_⟩⟩
  (have s1:=ao (o:=HO.lst [V.int 1,V.int 4000,(fun i j=>V.int (i+j)) 1 (n / 9 % 4000)]) h1;have u1:=ah (H:=H) (a:=p1) (o:=HO.lst [V.int 1,V.int 4000,(fun i j=>V.int (i+j)) 1 (n / 9 % 4000)]);generalize upd H p1 (HO.lst [V.int 1,V.int 4000,(fun i j=>V.int (i+j)) 1 (n / 9 % 4000)])=H1 at s1 u1 ⊢)
  obtain⟨v,ev,hv⟩:=AH (xs:=[V.int 1,.int 4000,.int (1+n / 9 % 4000)]) (i:=n / 3 % 3) (uN (by decide)) (uO (by decide))
  refine⟨p1,_,_,v,rfl,rfl,bB.of u1,ev,?_⟩
  simp only[List.mem_cons,List.not_mem_nil,or_false] at hv
  rcases hv with rfl | rfl | rfl <;> exact k _ _ H1 s1 ni
def yI (K:W.Frag):Sp:=fun vs H Q _=>∃(N N':Addr→Prop) (n n':Nat) (v w:V) (u u':Tr) (m:Nat),vs=[v,.int m,w]∧Rp N n H v u∧Ng u∧Rp N' n' H w u'∧∀ p H',aH H H'→H p=none→H' p=some (.tup [.str (W5 (iF u m w)),.int (W6 (iF u m w))])→Q (.ref p) H'
theorem HJ:aM P w K mg base cy 2 (ay 54) (aO 54) ["_law_table_here", "_law_many", "_law_most_here"] (yI K):=by
 have HK:aM P w K mg base cy 1 (ay 52) (aO 52) ["_law_table_here"] (wK K):=EZ T
 have CI:aM P w K mg base cy 1 (ay 51) (aO 51) ["_law_table_here"] (sV K):=BN T
 refine T.Bw.ok Hi (fun vs H Q E h=>?_) (fun cdv A outer s H vs Q E hr h=>?_)
 ·obtain⟨N,N',n,n',v,w,u,u',m,rfl,_⟩:=h;rfl
 ·have hu:=bA hr
  have jv:=hr.aQ
  obtain⟨N,N',n,n',v,w,u,u',m,rfl,hv,hP,hw,k⟩:=h
  refine⟨_,(aq (aP (cY (bP (kB HK hr T.Hv T.yD.kp T.Hu (af (pv 0) aj ak)))) (av (aC (aJ (af aB (af au aj ai) ai)))) aE)
   (aq (aP (iM m9 (kB CI hr T.Ct T.uo.kp T.Cs (af (pv 0) aj ak)) au) (av (aC (aJ (af aB (af au aj ai) ai)))) aE)
   (aq (aP (iM m9 (pv 1) au) (av (aC (aJ (af aB (af au aj ai) ai)))) aE)
   (aq (aP (PW.pt (j9 (cY (bP (i9 (bN K rfl) T.aI (af (pv 2) (af (II "int" T.RY) aj ak) ak)))) (j9 (bP (i9 (bN K rfl) T.aI (af (pv 2) (af (II "bool" T.zY) aj ak) ak))) (j9 (iM Dh (pv 2) au) (ko (iM m9 (pv 2) au)))))) (av (aC (aJ (af aB (af au aj ai) ai)))) aE)
   (av (aC (aJ (af aB (af au aj ai) ai)))))))),?_⟩
  refine⟨_,rfl,N,n,v,u,rfl,hv,hP,fun H1 s1=>⟨_,rfl,?_⟩⟩
  cases hT:tP u with
  | false =>
   have hd:iF u m w=0:=by unfold iF;rw[if_pos hT]
   rw[hd] at k
   exact afA rfl ⟨(by decide),fun p hp=>k p _ (s1.trans (ao hp)) (s1.free hp) ah⟩
  | true =>
  refine afz rfl ?_
  dsimp only[Ae]
  obtain⟨a,xs,t,rfl,rfl,ha,pr,tok⟩:=Bd K hv hT
  have hd:iF (Ba t) m w=if 24 < G7 (Ba t) then 1 else if 3 < m then 2 else if oR w 1 4000=false then 3 else 4:=by
   unfold iF;rw[if_neg (by rw[hT];decide)]
  rw[hd] at k
  refine⟨_,rfl,a,xs,t,rfl,s1 _ _ ha,Paired.imp' (fun _ _ q=>kC.mono s1 q) pr,tok,fun H2 s2=>⟨_,_,rfl,rfl,_,rfl,MZ (fun c1=>?_) (fun c1=>?_)⟩⟩
  ·rw[if_pos (by omega)] at k
   exact⟨(by decide),fun p hp=>k p _ ((s1.trans s2).trans (ao hp)) ((s1.trans s2).free hp) ah⟩
  rw[if_neg (by omega)] at k
  dsimp only[Ae]
  refine⟨_,rfl,_,_,rfl,rfl,_,rfl,MZ (fun c2=>?_) (fun c2=>?_)⟩
  ·rw[if_pos (by omega)] at k
   exact⟨(by decide),fun p hp=>k p _ ((s1.trans s2).trans (ao hp)) ((s1.trans s2).free hp) ah⟩
  rw[if_neg (by omega)] at k
  dsimp only[Ae]
  have s12:=s1.trans s2
  have hw2:=hw.mono s12 fun _ z=>z
  have no:oR w 1 4000=false→∀ p,H2 p=none→Q (.ref p) (upd H2 p (.tup [.str ("most":Str),.int 0])):=fun e p hp=>by
   rw[if_pos e] at k
   exact k p _ (s12.trans (ao hp)) (s12.free hp) ah
  rcases hw2.iX K with ⟨_,l,ys,ts,_,rfl,rfl,hl,_⟩ | ⟨_,_,_,rfl,hwl⟩
  ·exact⟨_,rfl,_,_,_,false,rfl,.lst hl,.inl ⟨_,rfl,rfl⟩,false,rfl,gj ⟨(by decide),no rfl⟩⟩
  cases hwl with
  | @tup l xs e f=>exact⟨_,rfl,_,_,_,false,rfl,.tup e,.inl ⟨_,rfl,rfl⟩,false,rfl,gj ⟨(by decide),no rfl⟩⟩
  | @Zr l e=>exact⟨_,rfl,_,_,_,false,rfl,.dK e,.inl ⟨_,rfl,rfl⟩,false,rfl,gj ⟨(by decide),no rfl⟩⟩
  | flat e f =>
   cases w with
   | non=>exact⟨_,rfl,_,_,_,false,rfl,.non,.inl ⟨_,rfl,rfl⟩,false,rfl,gj ⟨(by decide),no rfl⟩⟩
   | str z=>exact⟨_,rfl,_,_,_,false,rfl,.str z,.inl ⟨_,rfl,rfl⟩,false,rfl,gj ⟨(by decide),no rfl⟩⟩
   | bl x=>exact⟨_,rfl,_,_,_,true,rfl,.bl x,.inl ⟨_,rfl,rfl⟩,true,rfl,eZ ⟨_,rfl,_,_,_,true,rfl,.bl x,.inl ⟨_,rfl,rfl⟩,true,rfl,gj ⟨(by decide),no rfl⟩⟩⟩
   | int i =>
    refine⟨_,rfl,_,_,_,true,rfl,.int i,.inl ⟨_,rfl,rfl⟩,true,rfl,eZ ⟨_,rfl,_,_,_,false,rfl,.int i,.inl ⟨_,rfl,rfl⟩,false,rfl,eZ ?_⟩⟩
    have e4:oR (.int i) 1 4000=decide (1≤i∧i≤4000):=rfl
    refine⟨_,rfl,_,_,rfl,rfl,_,rfl,MZ (fun c3=>gj ⟨(by decide),no (by rw[e4];exact decide_eq_false (by omega))⟩) (fun c3=>?_)⟩
    refine⟨_,rfl,_,_,rfl,rfl,_,rfl,MZ (fun c4=>⟨(by decide),no (by rw[e4];exact decide_eq_false (by omega))⟩) (fun c4=>?_)⟩
    rw[if_neg (by rw[e4,decide_eq_true (by omega)];decide)] at k
    exact⟨(by decide),fun p hp=>k p _ (s12.trans (ao hp)) (s12.free hp) ah⟩
   | _=>cases e
def ri (K:W.Frag) (CT CM CN:Addr):Sp:=fun vs H Q _=>∃(ea:Addr) (k:Nat),vs=[.ref ea]∧afW CT CM CN H ea k∧∀ p H',aH H H'→H p=none→H' p=some (.tup [.str (W5 k),.int (W6 k)])→Q (.ref p) H'
theorem zx:LX P w K mg base 1 (ay 55) (aO 55) ["_law_e"] (ri K (ay 66) (ay 80) (ay 72)):=by
 refine T.sD.okM iY (fun vs H Q E h=>?_) (fun cdv A outer s H vs Q E hr h=>?_)
 ·obtain⟨ea,k,rfl,_⟩:=h;rfl
 ·have hu:=hr.hu
  have jv:=hr.aQ
  obtain⟨ea,k,rfl,ho,kk⟩:=h
  refine'⟨_,?aa,?bb⟩
  case aa =>
   refine' aq ?s0 ?r0
   case s0 =>
    refine' Af (i:=1) ?ha1 ?hb1 ?hc1 ?v1 ?hd1 ?Vy
    case ha1=>exact iY.nd
    case hb1=>rfl
    case hc1=>exact(by first | exact Or.inl rfl | exact Or.inr rfl)
    case hd1=>exact kM
    case Vy=>first | exact .inl rfl | exact .inr rfl | assumption
    case v1 =>
     refine' bh ?a2
     case a2 =>
      refine' af ?x3 ?y3 ?z3
      case z3=>exact bR
      case x3 =>
       exact(i9 (fV rfl) T.aI (af (pv 0) (af (dj rfl T.DY) aj ak) ak))
      case y3 =>
       refine' af ?x4 ?y4 ?z4
       case z4=>exact bR
       case x4 =>
        exact(i9 (fV rfl) T.aI (af (pv 0) (af (dj rfl T.xO) aj ak) ak))
       case y4 =>
        refine' af ?x5 ?y5 ?z5
        case z5=>exact bR
        case x5 =>
         exact(i9 (fV rfl) T.aI (af (pv 0) (af (dj rfl T.HB) aj ak) ak))
        case y5 =>
         refine' af ?x6 ?y6 ?z6
         case z6=>exact bR
         case x6 =>
          exact(i9 (fV rfl) T.aI (af (pv 0) (af (dj rfl T.RW) aj ak) ak))
         case y6 =>
          exact aj
   case r0 =>
    refine' aq ?s7 ?r7
    case s7 =>
     refine' Af (i:=1) ?ha8 ?hb8 ?hc8 ?v8 ?hd8 ?he8
     case ha8=>exact iY.nd
     case hb8=>rfl
     case hc8=>exact(by first | exact Or.inl rfl | exact Or.inr rfl)
     case hd8=>exact dX
     case he8=>first | exact .inl rfl | exact .inr rfl | assumption
     case v8 =>
      refine' aL Ei ?a9 ?b9
      case a9 =>
       exact(pv 1)
      case b9 =>
       refine' bh ?a10
       case a10 =>
        refine' af ?x11 ?y11 ?z11
        case z11=>exact bR
        case x11 =>
         exact(i9 (fV rfl) T.aI (af (pv 0) (af (dj rfl T.Ux) aj ak) ak))
        case y11 =>
         refine' af ?XC ?XD ?XE
         case XE=>exact bR
         case XC =>
          exact(i9 (fV rfl) T.aI (af (pv 0) (af (dj rfl T.HA) aj ak) ak))
         case XD =>
          refine' af ?XF ?XG ?XH
          case XH=>exact bR
          case XF =>
           exact(i9 (fV rfl) T.aI (af (pv 0) (af (dj rfl T.JQ) aj ak) ak))
          case XG =>
           refine' af ?x14 ?y14 ?z14
           case z14=>exact bR
           case x14 =>
            exact(i9 (fV rfl) T.aI (af (pv 0) (af (dj rfl T.RU) aj ak) ak))
           case y14 =>
            exact aj
    case r7 =>
     refine' aq ?s15 ?r15
     case s15 =>
      exact(lA 1 iY.nd (aL Ei (pv 1) (bh (af (i9 (fV rfl) T.aI (af (pv 0) (af (dj rfl T.Uy) aj ak) ak)) (af (i9 (fV rfl) T.aI (af (pv 0) (af (dj rfl T.RT) aj ak) ak)) (af (i9 (fV rfl) T.aI (af (pv 0) (af (dj rfl T.HC) aj ak) ak)) aj bR) bR) bR))) (hs:=dX))
     case r15 =>
      refine' aq ?s16 ?r16
      case s16 =>
       refine' aP ?c17 ?b17 ?e17
       case c17=>exact(PW.pt (j9 (iM Pw (lQ K rfl PySem.F.plainAttrs_list PySem.F.slot_list_count PySem.F.type_list_count (Jk K rfl) (pv 1) (af oX aj ai)) au) (ko (cY (bP (i9 (fV rfl) T.aI (af (pv 0) (af (II "ValueError" T.Cu) aj ak) ak)))))))
       case b17 =>
        refine' av ?s18
        case s18 =>
         refine' aC ?v19
         case v19 =>
          refine' aJ ?a20
          case a20 =>
           refine' af ?x21 ?y21 ?z21
           case z21=>exact ai
           case x21 =>
            exact aB
           case y21 =>
            refine' af ?R3 ?R4 ?R5
            case R5=>exact ai
            case R3 =>
             exact au
            case R4 =>
             exact aj
       case e17 =>
        exact aE
      case r16 =>
       refine' aq ?s23 ?r23
       case s23 =>
        refine' aP ?c24 ?b24 ?e24
        case c24=>exact(bP (Ge K (pv 1) au))
        case b24 =>
         refine' av ?s25
         case s25 =>
          refine' aC ?v26
          case v26 =>
           refine' aJ ?a27
           case a27 =>
            refine' af ?Xy ?Xz ?XA
            case XA=>exact ai
            case Xy =>
             exact aB
            case Xz =>
             refine' af ?x29 ?y29 ?z29
             case z29=>exact ai
             case x29 =>
              exact au
             case y29 =>
              exact aj
        case e24 =>
         exact aE
       case r23 =>
        refine' aq ?s30 ?r30
        case s30 =>
         refine' aP ?c31 ?b31 ?e31
         case c31=>exact(bP (Ge K (pv 1) au))
         case b31 =>
          refine' av ?s32
          case s32 =>
           refine' aC ?v33
           case v33 =>
            refine' aJ ?Xx
            case Xx =>
             refine' af ?x35 ?y35 ?z35
             case z35=>exact ai
             case x35 =>
              exact aB
             case y35 =>
              refine' af ?x36 ?y36 ?z36
              case z36=>exact aV
              case x36 =>
               exact(T8 T.aT (.inr ⟨_,_,rfl,T.az⟩) T.qT (pv 0) rfl)
              case y36 =>
               exact aj
         case e31 =>
          exact aE
        case r30 =>
         refine' aq ?s37 ?r37
         case s37 =>
          refine' aP ?c38 ?b38 ?e38
          case c38=>exact(bP (Ge K (pv 1) au))
          case b38 =>
           refine' av ?s39
           case s39 =>
            refine' aC ?v40
            case v40 =>
             refine' aJ ?a41
             case a41 =>
              refine' af ?x42 ?y42 ?z42
              case z42=>exact ai
              case x42 =>
               exact aB
              case y42 =>
               refine' af ?x43 ?y43 ?z43
               case z43=>exact ai
               case x43 =>
                exact au
               case y43 =>
                exact aj
          case e38 =>
           exact aE
         case r37 =>
          refine' av ?s44
          case s44 =>
           refine' aC ?v45
           case v45 =>
            refine' aJ ?a46
            case a46 =>
             refine' af ?x47 ?y47 ?z47
             case z47=>exact ai
             case x47 =>
              exact aB
             case y47 =>
              refine' af ?x48 ?y48 ?z48
              case z48=>exact ai
              case x48 =>
               exact au
              case y48 =>
               exact aj
  match k,ho with
  | 0,ho =>
   have ho:H ea=some (vE ea (.ref (ay 66)) none):=ho
   have xo:SO H ea (ay 66):=⟨none,.inr ho,.inl rfl⟩
   refine⟨_,rfl,ea,(ay 66),_,_,_,_,true,rfl,xo,T.cX,(.inr ⟨_,_,rfl,T.az⟩),T.cZ,.inr ⟨_,rfl,T.je⟩,_,rfl,ea,(ay 66),_,_,_,_,false,rfl,xo,T.cX,(.inr ⟨_,_,rfl,T.az⟩),T.cZ,.inr ⟨_,rfl,T.jf⟩,_,rfl,ea,(ay 66),_,_,_,_,false,rfl,xo,T.cX,(.inr ⟨_,_,rfl,T.az⟩),T.cZ,.inr ⟨_,rfl,T.jK⟩,_,rfl,ea,(ay 66),_,_,_,_,false,rfl,xo,T.cX,(.inr ⟨_,_,rfl,T.az⟩),T.cZ,.inr ⟨_,rfl,T.jM⟩,(by show(4:Nat)≤sizeLine;decide),fun l1 h1=>?_⟩
   have s1:=ao (o:=HO.lst [V.bl true,V.bl false,V.bl false,V.bl false]) h1
   have e1:=ah (H:=H) (a:=l1) (o:=HO.lst [V.bl true,V.bl false,V.bl false,V.bl false])
   generalize upd H l1 (.lst [V.bl true,V.bl false,V.bl false,V.bl false])=H1 at e1 s1 ⊢
   have BO:=xo.mono s1
   refine⟨_,rfl,_,rfl,ea,(ay 66),_,_,_,_,false,rfl,BO,T.cX,(.inr ⟨_,_,rfl,T.az⟩),T.cZ,.inr ⟨_,rfl,T.kF⟩,_,rfl,ea,(ay 66),_,_,_,_,false,rfl,BO,T.cX,(.inr ⟨_,_,rfl,T.az⟩),T.cZ,.inr ⟨_,rfl,T.gQ⟩,_,rfl,ea,(ay 66),_,_,_,_,false,rfl,BO,T.cX,(.inr ⟨_,_,rfl,T.az⟩),T.cZ,.inr ⟨_,rfl,T.iH⟩,_,rfl,ea,(ay 66),_,_,_,_,false,rfl,BO,T.cX,(.inr ⟨_,_,rfl,T.az⟩),T.cZ,.inr ⟨_,rfl,T.jL⟩,(by show(4:Nat)≤sizeLine;decide),fun l2 h2=>?_⟩
   have s2:=ao (o:=HO.lst [V.bl false,V.bl false,V.bl false,V.bl false]) h2
   have e2:=ah (H:=H1) (a:=l2) (o:=HO.lst [V.bl false,V.bl false,V.bl false,V.bl false])
   generalize upd H1 l2 (.lst [V.bl false,V.bl false,V.bl false,V.bl false])=H2 at e2 s2 ⊢
   refine⟨l1,l2,_,_,rfl,rfl,s2 _ _ e1,e2,(by show(8:Nat)≤sizeLine;decide),fun l3 h3=>?_⟩
   have s3:=ao (o:=HO.lst ([V.bl true,V.bl false,V.bl false,V.bl false]++[V.bl false,V.bl false,V.bl false,V.bl false])) h3
   have e3:=ah (H:=H2) (a:=l3) (o:=HO.lst ([V.bl true,V.bl false,V.bl false,V.bl false]++[V.bl false,V.bl false,V.bl false,V.bl false]))
   generalize upd H2 l3 (.lst ([V.bl true,V.bl false,V.bl false,V.bl false]++[V.bl false,V.bl false,V.bl false,V.bl false]))=H3 at e3 s3 ⊢
   have E2:=(BO.mono s2).mono s3
   refine⟨_,rfl,_,rfl,ea,(ay 66),_,_,_,_,false,rfl,E2,T.cX,(.inr ⟨_,_,rfl,T.az⟩),T.cZ,.inr ⟨_,rfl,T.kG⟩,_,rfl,ea,(ay 66),_,_,_,_,false,rfl,E2,T.cX,(.inr ⟨_,_,rfl,T.az⟩),T.cZ,.inr ⟨_,rfl,T.jJ⟩,_,rfl,ea,(ay 66),_,_,_,_,false,rfl,E2,T.cX,(.inr ⟨_,_,rfl,T.az⟩),T.cZ,.inr ⟨_,rfl,T.gR⟩,(by show(3:Nat)≤sizeLine;decide),fun l4 h4=>?_⟩
   have s4:=ao (o:=HO.lst [V.bl false,V.bl false,V.bl false]) h4
   have e4:=ah (H:=H3) (a:=l4) (o:=HO.lst [V.bl false,V.bl false,V.bl false])
   generalize upd H3 l4 (.lst [V.bl false,V.bl false,V.bl false])=H4 at e4 s4 ⊢
   refine⟨l3,l4,_,_,rfl,rfl,s4 _ _ e3,e4,(by show(11:Nat)≤sizeLine;decide),fun l5 h5=>?_⟩
   have s5:=ao (o:=HO.lst (([V.bl true,V.bl false,V.bl false,V.bl false]++[V.bl false,V.bl false,V.bl false,V.bl false])++[V.bl false,V.bl false,V.bl false])) h5
   have e5:=ah (H:=H4) (a:=l5) (o:=HO.lst (([V.bl true,V.bl false,V.bl false,V.bl false]++[V.bl false,V.bl false,V.bl false,V.bl false])++[V.bl false,V.bl false,V.bl false]))
   generalize upd H4 l5 (.lst (([V.bl true,V.bl false,V.bl false,V.bl false]++[V.bl false,V.bl false,V.bl false,V.bl false])++[V.bl false,V.bl false,V.bl false]))=H5 at e5 s5 ⊢
   have XQ:=(E2.mono s4).mono s5
   have sH:=s1.trans (s2.trans (s3.trans (s4.trans s5)))
   dsimp only[cK]
   refine⟨_,rfl,.inl ⟨rfl,_,bB.of e5⟩,l5,_,_,rfl,rfl,bB.of e5,rfl,rfl,?_⟩
   refine⟨rfl,_,rfl,rdN (by decide) ?_⟩
   refine⟨_,rfl,ea,(ay 66),_,_,_,_,true,rfl,XQ,T.cX,(.inr ⟨_,_,rfl,T.az⟩),T.cZ,.inl ⟨_,rfl,T.uW⟩,true,rfl,eZ ?_⟩
   refine⟨_,rfl,l5,_,_,_,rfl,rfl,bB.of e5,rfl,true,rfl,gj ?_⟩
   exact⟨(by decide),fun p hp=>kk p _ (sH.trans (ao hp)) (sH.free hp) ah⟩
  | 3,ho =>
   have ho:H ea=some (vE ea (.ref (ay 72)) none):=ho
   have xo:SO H ea (ay 72):=⟨none,.inr ho,.inl rfl⟩
   refine⟨_,rfl,ea,(ay 72),_,_,_,_,false,rfl,xo,T.eg,(.inr ⟨_,_,rfl,T.az⟩),T.dP,.inr ⟨_,rfl,T.jO⟩,_,rfl,ea,(ay 72),_,_,_,_,false,rfl,xo,T.eg,(.inr ⟨_,_,rfl,T.az⟩),T.dP,.inr ⟨_,rfl,T.jP⟩,_,rfl,ea,(ay 72),_,_,_,_,true,rfl,xo,T.eg,(.inr ⟨_,_,rfl,T.az⟩),T.dP,.inr ⟨_,rfl,T.kI⟩,_,rfl,ea,(ay 72),_,_,_,_,false,rfl,xo,T.eg,(.inr ⟨_,_,rfl,T.az⟩),T.dP,.inr ⟨_,rfl,T.kK⟩,(by show(4:Nat)≤sizeLine;decide),fun l1 h1=>?_⟩
   have s1:=ao (o:=HO.lst [V.bl false,V.bl false,V.bl true,V.bl false]) h1
   have e1:=ah (H:=H) (a:=l1) (o:=HO.lst [V.bl false,V.bl false,V.bl true,V.bl false])
   generalize upd H l1 (.lst [V.bl false,V.bl false,V.bl true,V.bl false])=H1 at e1 s1 ⊢
   have BO:=xo.mono s1
   refine⟨_,rfl,_,rfl,ea,(ay 72),_,_,_,_,false,rfl,BO,T.eg,(.inr ⟨_,_,rfl,T.az⟩),T.dP,.inr ⟨_,rfl,T.lS⟩,_,rfl,ea,(ay 72),_,_,_,_,false,rfl,BO,T.eg,(.inr ⟨_,_,rfl,T.az⟩),T.dP,.inr ⟨_,rfl,T.iI⟩,_,rfl,ea,(ay 72),_,_,_,_,false,rfl,BO,T.eg,(.inr ⟨_,_,rfl,T.az⟩),T.dP,.inr ⟨_,rfl,T.jg⟩,_,rfl,ea,(ay 72),_,_,_,_,false,rfl,BO,T.eg,(.inr ⟨_,_,rfl,T.az⟩),T.dP,.inr ⟨_,rfl,T.kJ⟩,(by show(4:Nat)≤sizeLine;decide),fun l2 h2=>?_⟩
   have s2:=ao (o:=HO.lst [V.bl false,V.bl false,V.bl false,V.bl false]) h2
   have e2:=ah (H:=H1) (a:=l2) (o:=HO.lst [V.bl false,V.bl false,V.bl false,V.bl false])
   generalize upd H1 l2 (.lst [V.bl false,V.bl false,V.bl false,V.bl false])=H2 at e2 s2 ⊢
   refine⟨l1,l2,_,_,rfl,rfl,s2 _ _ e1,e2,(by show(8:Nat)≤sizeLine;decide),fun l3 h3=>?_⟩
   have s3:=ao (o:=HO.lst ([V.bl false,V.bl false,V.bl true,V.bl false]++[V.bl false,V.bl false,V.bl false,V.bl false])) h3
   have e3:=ah (H:=H2) (a:=l3) (o:=HO.lst ([V.bl false,V.bl false,V.bl true,V.bl false]++[V.bl false,V.bl false,V.bl false,V.bl false]))
   generalize upd H2 l3 (.lst ([V.bl false,V.bl false,V.bl true,V.bl false]++[V.bl false,V.bl false,V.bl false,V.bl false]))=H3 at e3 s3 ⊢
   have E2:=(BO.mono s2).mono s3
   refine⟨_,rfl,_,rfl,ea,(ay 72),_,_,_,_,false,rfl,E2,T.eg,(.inr ⟨_,_,rfl,T.az⟩),T.dP,.inr ⟨_,rfl,T.lT⟩,_,rfl,ea,(ay 72),_,_,_,_,false,rfl,E2,T.eg,(.inr ⟨_,_,rfl,T.az⟩),T.dP,.inr ⟨_,rfl,T.kH⟩,_,rfl,ea,(ay 72),_,_,_,_,false,rfl,E2,T.eg,(.inr ⟨_,_,rfl,T.az⟩),T.dP,.inr ⟨_,rfl,T.iJ⟩,(by show(3:Nat)≤sizeLine;decide),fun l4 h4=>?_⟩
   have s4:=ao (o:=HO.lst [V.bl false,V.bl false,V.bl false]) h4
   have e4:=ah (H:=H3) (a:=l4) (o:=HO.lst [V.bl false,V.bl false,V.bl false])
   generalize upd H3 l4 (.lst [V.bl false,V.bl false,V.bl false])=H4 at e4 s4 ⊢
   refine⟨l3,l4,_,_,rfl,rfl,s4 _ _ e3,e4,(by show(11:Nat)≤sizeLine;decide),fun l5 h5=>?_⟩
   have s5:=ao (o:=HO.lst (([V.bl false,V.bl false,V.bl true,V.bl false]++[V.bl false,V.bl false,V.bl false,V.bl false])++[V.bl false,V.bl false,V.bl false])) h5
   have e5:=ah (H:=H4) (a:=l5) (o:=HO.lst (([V.bl false,V.bl false,V.bl true,V.bl false]++[V.bl false,V.bl false,V.bl false,V.bl false])++[V.bl false,V.bl false,V.bl false]))
   generalize upd H4 l5 (.lst (([V.bl false,V.bl false,V.bl true,V.bl false]++[V.bl false,V.bl false,V.bl false,V.bl false])++[V.bl false,V.bl false,V.bl false]))=H5 at e5 s5 ⊢
   have XQ:=(E2.mono s4).mono s5
   have sH:=s1.trans (s2.trans (s3.trans (s4.trans s5)))
   dsimp only[cK]
   refine⟨_,rfl,.inl ⟨rfl,_,bB.of e5⟩,l5,_,_,rfl,rfl,bB.of e5,rfl,rfl,?_⟩
   refine⟨rfl,_,rfl,rdN (by decide) ?_⟩
   refine⟨_,rfl,ea,(ay 72),_,_,_,_,true,rfl,XQ,T.eg,(.inr ⟨_,_,rfl,T.az⟩),T.dP,.inl ⟨_,rfl,T.xP⟩,true,rfl,eZ ?_⟩
   refine⟨_,rfl,l5,_,_,_,rfl,rfl,bB.of e5,rfl,false,rfl,eZ ?_⟩
   refine⟨_,rfl,l5,_,_,_,rfl,rfl,bB.of e5,rfl,false,rfl,eZ ?_⟩
   refine⟨_,rfl,l5,_,_,_,rfl,rfl,bB.of e5,rfl,true,rfl,gj ?_⟩
   exact⟨(by decide),fun p hp=>kk p _ (sH.trans (ao hp)) (sH.free hp) ah⟩
  | 1,ho =>
   obtain⟨d,ho,hd⟩:=(show ∃ d,H ea=some (vE ea (.ref (ay 80)) (some d))∧H d=some (LV d [(Str.ofString "most",.int 24)]) from ho)
   have xo:SO H ea (ay 80):=⟨some d,.inr ho,.inr ⟨d,_,rfl,hd⟩⟩
   refine⟨_,rfl,ea,(ay 80),_,_,_,_,false,rfl,xo,T.aT,(.inr ⟨_,_,rfl,T.az⟩),T.aZ,.inr ⟨_,rfl,T.fP⟩,_,rfl,ea,(ay 80),_,_,_,_,true,rfl,xo,T.aT,(.inr ⟨_,_,rfl,T.az⟩),T.aZ,.inr ⟨_,rfl,T.fQ⟩,_,rfl,ea,(ay 80),_,_,_,_,false,rfl,xo,T.aT,(.inr ⟨_,_,rfl,T.az⟩),T.aZ,.inr ⟨_,rfl,T.gv⟩,_,rfl,ea,(ay 80),_,_,_,_,false,rfl,xo,T.aT,(.inr ⟨_,_,rfl,T.az⟩),T.aZ,.inr ⟨_,rfl,T.gy⟩,(by show(4:Nat)≤sizeLine;decide),fun l1 h1=>?_⟩
   have s1:=ao (o:=HO.lst [V.bl false,V.bl true,V.bl false,V.bl false]) h1
   have e1:=ah (H:=H) (a:=l1) (o:=HO.lst [V.bl false,V.bl true,V.bl false,V.bl false])
   generalize upd H l1 (.lst [V.bl false,V.bl true,V.bl false,V.bl false])=H1 at e1 s1 ⊢
   have BO:=xo.mono s1
   refine⟨_,rfl,_,rfl,ea,(ay 80),_,_,_,_,false,rfl,BO,T.aT,(.inr ⟨_,_,rfl,T.az⟩),T.aZ,.inr ⟨_,rfl,T.ig⟩,_,rfl,ea,(ay 80),_,_,_,_,false,rfl,BO,T.aT,(.inr ⟨_,_,rfl,T.az⟩),T.aZ,.inr ⟨_,rfl,T.eo⟩,_,rfl,ea,(ay 80),_,_,_,_,false,rfl,BO,T.aT,(.inr ⟨_,_,rfl,T.az⟩),T.aZ,.inr ⟨_,rfl,T.fh⟩,_,rfl,ea,(ay 80),_,_,_,_,false,rfl,BO,T.aT,(.inr ⟨_,_,rfl,T.az⟩),T.aZ,.inr ⟨_,rfl,T.gw⟩,(by show(4:Nat)≤sizeLine;decide),fun l2 h2=>?_⟩
   have s2:=ao (o:=HO.lst [V.bl false,V.bl false,V.bl false,V.bl false]) h2
   have e2:=ah (H:=H1) (a:=l2) (o:=HO.lst [V.bl false,V.bl false,V.bl false,V.bl false])
   generalize upd H1 l2 (.lst [V.bl false,V.bl false,V.bl false,V.bl false])=H2 at e2 s2 ⊢
   refine⟨l1,l2,_,_,rfl,rfl,s2 _ _ e1,e2,(by show(8:Nat)≤sizeLine;decide),fun l3 h3=>?_⟩
   have s3:=ao (o:=HO.lst ([V.bl false,V.bl true,V.bl false,V.bl false]++[V.bl false,V.bl false,V.bl false,V.bl false])) h3
   have e3:=ah (H:=H2) (a:=l3) (o:=HO.lst ([V.bl false,V.bl true,V.bl false,V.bl false]++[V.bl false,V.bl false,V.bl false,V.bl false]))
   generalize upd H2 l3 (.lst ([V.bl false,V.bl true,V.bl false,V.bl false]++[V.bl false,V.bl false,V.bl false,V.bl false]))=H3 at e3 s3 ⊢
   have E2:=(BO.mono s2).mono s3
   refine⟨_,rfl,_,rfl,ea,(ay 80),_,_,_,_,false,rfl,E2,T.aT,(.inr ⟨_,_,rfl,T.az⟩),T.aZ,.inr ⟨_,rfl,T.iw⟩,_,rfl,ea,(ay 80),_,_,_,_,false,rfl,E2,T.aT,(.inr ⟨_,_,rfl,T.az⟩),T.aZ,.inr ⟨_,rfl,T.gu⟩,_,rfl,ea,(ay 80),_,_,_,_,false,rfl,E2,T.aT,(.inr ⟨_,_,rfl,T.az⟩),T.aZ,.inr ⟨_,rfl,T.eB⟩,(by show(3:Nat)≤sizeLine;decide),fun l4 h4=>?_⟩
   have s4:=ao (o:=HO.lst [V.bl false,V.bl false,V.bl false]) h4
   have e4:=ah (H:=H3) (a:=l4) (o:=HO.lst [V.bl false,V.bl false,V.bl false])
   generalize upd H3 l4 (.lst [V.bl false,V.bl false,V.bl false])=H4 at e4 s4 ⊢
   refine⟨l3,l4,_,_,rfl,rfl,s4 _ _ e3,e4,(by show(11:Nat)≤sizeLine;decide),fun l5 h5=>?_⟩
   have s5:=ao (o:=HO.lst (([V.bl false,V.bl true,V.bl false,V.bl false]++[V.bl false,V.bl false,V.bl false,V.bl false])++[V.bl false,V.bl false,V.bl false])) h5
   have e5:=ah (H:=H4) (a:=l5) (o:=HO.lst (([V.bl false,V.bl true,V.bl false,V.bl false]++[V.bl false,V.bl false,V.bl false,V.bl false])++[V.bl false,V.bl false,V.bl false]))
   generalize upd H4 l5 (.lst (([V.bl false,V.bl true,V.bl false,V.bl false]++[V.bl false,V.bl false,V.bl false,V.bl false])++[V.bl false,V.bl false,V.bl false]))=H5 at e5 s5 ⊢
   have XQ:=(E2.mono s4).mono s5
   have sH:=s1.trans (s2.trans (s3.trans (s4.trans s5)))
   dsimp only[cK]
   refine⟨_,rfl,.inl ⟨rfl,_,bB.of e5⟩,l5,_,_,rfl,rfl,bB.of e5,rfl,rfl,?_⟩
   refine⟨rfl,_,rfl,rdN (by decide) ?_⟩
   refine⟨_,rfl,ea,(ay 80),_,_,_,_,true,rfl,XQ,T.aT,(.inr ⟨_,_,rfl,T.az⟩),T.aZ,.inl ⟨_,rfl,T.qw⟩,true,rfl,eZ ?_⟩
   refine⟨_,rfl,l5,_,_,_,rfl,rfl,bB.of e5,rfl,false,rfl,eZ ?_⟩
   refine⟨_,rfl,l5,_,_,_,rfl,rfl,bB.of e5,rfl,true,rfl,gj ?_⟩
   exact⟨_,rfl,ea,d,_,_,rfl,sH _ _ ho,sH _ _ hd,rfl,(by show(2:Nat)≤sizeLine;decide),fun p hp=>kk p _ (sH.trans (ao hp)) (sH.free hp) ah⟩
  | 2,ho =>
   obtain⟨d,ho,hd⟩:=(show ∃ d,H ea=some (vE ea (.ref (ay 80)) (some d))∧H d=some (LV d [(Str.ofString "most",.int 3)]) from ho)
   have xo:SO H ea (ay 80):=⟨some d,.inr ho,.inr ⟨d,_,rfl,hd⟩⟩
   refine⟨_,rfl,ea,(ay 80),_,_,_,_,false,rfl,xo,T.aT,(.inr ⟨_,_,rfl,T.az⟩),T.aZ,.inr ⟨_,rfl,T.fP⟩,_,rfl,ea,(ay 80),_,_,_,_,true,rfl,xo,T.aT,(.inr ⟨_,_,rfl,T.az⟩),T.aZ,.inr ⟨_,rfl,T.fQ⟩,_,rfl,ea,(ay 80),_,_,_,_,false,rfl,xo,T.aT,(.inr ⟨_,_,rfl,T.az⟩),T.aZ,.inr ⟨_,rfl,T.gv⟩,_,rfl,ea,(ay 80),_,_,_,_,false,rfl,xo,T.aT,(.inr ⟨_,_,rfl,T.az⟩),T.aZ,.inr ⟨_,rfl,T.gy⟩,(by show(4:Nat)≤sizeLine;decide),fun l1 h1=>?_⟩
   have s1:=ao (o:=HO.lst [V.bl false,V.bl true,V.bl false,V.bl false]) h1
   have e1:=ah (H:=H) (a:=l1) (o:=HO.lst [V.bl false,V.bl true,V.bl false,V.bl false])
   generalize upd H l1 (.lst [V.bl false,V.bl true,V.bl false,V.bl false])=H1 at e1 s1 ⊢
   have BO:=xo.mono s1
   refine⟨_,rfl,_,rfl,ea,(ay 80),_,_,_,_,false,rfl,BO,T.aT,(.inr ⟨_,_,rfl,T.az⟩),T.aZ,.inr ⟨_,rfl,T.ig⟩,_,rfl,ea,(ay 80),_,_,_,_,false,rfl,BO,T.aT,(.inr ⟨_,_,rfl,T.az⟩),T.aZ,.inr ⟨_,rfl,T.eo⟩,_,rfl,ea,(ay 80),_,_,_,_,false,rfl,BO,T.aT,(.inr ⟨_,_,rfl,T.az⟩),T.aZ,.inr ⟨_,rfl,T.fh⟩,_,rfl,ea,(ay 80),_,_,_,_,false,rfl,BO,T.aT,(.inr ⟨_,_,rfl,T.az⟩),T.aZ,.inr ⟨_,rfl,T.gw⟩,(by show(4:Nat)≤sizeLine;decide),fun l2 h2=>?_⟩
   have s2:=ao (o:=HO.lst [V.bl false,V.bl false,V.bl false,V.bl false]) h2
   have e2:=ah (H:=H1) (a:=l2) (o:=HO.lst [V.bl false,V.bl false,V.bl false,V.bl false])
   generalize upd H1 l2 (.lst [V.bl false,V.bl false,V.bl false,V.bl false])=H2 at e2 s2 ⊢
   refine⟨l1,l2,_,_,rfl,rfl,s2 _ _ e1,e2,(by show(8:Nat)≤sizeLine;decide),fun l3 h3=>?_⟩
   have s3:=ao (o:=HO.lst ([V.bl false,V.bl true,V.bl false,V.bl false]++[V.bl false,V.bl false,V.bl false,V.bl false])) h3
   have e3:=ah (H:=H2) (a:=l3) (o:=HO.lst ([V.bl false,V.bl true,V.bl false,V.bl false]++[V.bl false,V.bl false,V.bl false,V.bl false]))
   generalize upd H2 l3 (.lst ([V.bl false,V.bl true,V.bl false,V.bl false]++[V.bl false,V.bl false,V.bl false,V.bl false]))=H3 at e3 s3 ⊢
   have E2:=(BO.mono s2).mono s3
   refine⟨_,rfl,_,rfl,ea,(ay 80),_,_,_,_,false,rfl,E2,T.aT,(.inr ⟨_,_,rfl,T.az⟩),T.aZ,.inr ⟨_,rfl,T.iw⟩,_,rfl,ea,(ay 80),_,_,_,_,false,rfl,E2,T.aT,(.inr ⟨_,_,rfl,T.az⟩),T.aZ,.inr ⟨_,rfl,T.gu⟩,_,rfl,ea,(ay 80),_,_,_,_,false,rfl,E2,T.aT,(.inr ⟨_,_,rfl,T.az⟩),T.aZ,.inr ⟨_,rfl,T.eB⟩,(by show(3:Nat)≤sizeLine;decide),fun l4 h4=>?_⟩
   have s4:=ao (o:=HO.lst [V.bl false,V.bl false,V.bl false]) h4
   have e4:=ah (H:=H3) (a:=l4) (o:=HO.lst [V.bl false,V.bl false,V.bl false])
   generalize upd H3 l4 (.lst [V.bl false,V.bl false,V.bl false])=H4 at e4 s4 ⊢
   refine⟨l3,l4,_,_,rfl,rfl,s4 _ _ e3,e4,(by show(11:Nat)≤sizeLine;decide),fun l5 h5=>?_⟩
   have s5:=ao (o:=HO.lst (([V.bl false,V.bl true,V.bl false,V.bl false]++[V.bl false,V.bl false,V.bl false,V.bl false])++[V.bl false,V.bl false,V.bl false])) h5
   have e5:=ah (H:=H4) (a:=l5) (o:=HO.lst (([V.bl false,V.bl true,V.bl false,V.bl false]++[V.bl false,V.bl false,V.bl false,V.bl false])++[V.bl false,V.bl false,V.bl false]))
   generalize upd H4 l5 (.lst (([V.bl false,V.bl true,V.bl false,V.bl false]++[V.bl false,V.bl false,V.bl false,V.bl false])++[V.bl false,V.bl false,V.bl false]))=H5 at e5 s5 ⊢
   have XQ:=(E2.mono s4).mono s5
   have sH:=s1.trans (s2.trans (s3.trans (s4.trans s5)))
   dsimp only[cK]
   refine⟨_,rfl,.inl ⟨rfl,_,bB.of e5⟩,l5,_,_,rfl,rfl,bB.of e5,rfl,rfl,?_⟩
   refine⟨rfl,_,rfl,rdN (by decide) ?_⟩
   refine⟨_,rfl,ea,(ay 80),_,_,_,_,true,rfl,XQ,T.aT,(.inr ⟨_,_,rfl,T.az⟩),T.aZ,.inl ⟨_,rfl,T.qw⟩,true,rfl,eZ ?_⟩
   refine⟨_,rfl,l5,_,_,_,rfl,rfl,bB.of e5,rfl,false,rfl,eZ ?_⟩
   refine⟨_,rfl,l5,_,_,_,rfl,rfl,bB.of e5,rfl,true,rfl,gj ?_⟩
   exact⟨_,rfl,ea,d,_,_,rfl,sH _ _ ho,sH _ _ hd,rfl,(by show(2:Nat)≤sizeLine;decide),fun p hp=>kk p _ (sH.trans (ao hp)) (sH.free hp) ah⟩
def ux (K:W.Frag) (C:Addr):Sp:=fun vs H Q _=>∃(N N':Addr→Prop) (n n':Nat) (v w:V) (u u':Tr) (y dy o:Addr) (os:List V) (x:nR) (cs:List nR),vs=[.ref y,v,.ref o,w]∧H y=some (.ins C dy (Rg x))∧Ma x∧Rp N n H v u∧Rp N' n' H w u'∧H o=some (.lst os)∧Cd C H os cs∧(∀ c∈cs,Ma c)∧cs.length≤20∧∀ p H',aH H H'→H p=none→H' p=some (.tup [.str (W5 (iF u os.length w)),.int (W6 (iF u os.length w))])→Q (.ref p) H'
theorem CJ:aM P w K mg base cy 13 (ay 56) (aO 56) ["_law_made_here", "_law_table_here", "_law_beside", "_law_most_here"] (ux K (ay 58)):=by
 have BP:LX P w K mg base 1 (ay 55) (aO 55) ["_law_e"] (ri K (ay 66) (ay 80) (ay 72)):=zx T
 have XR:aM P w K mg base (zV P w) 12 (ay 42) (aO 42) ["dialect", "table", "others", "most"] (Mx P w K (ay 58) (ay 59) (ay 60) (ay 61) (ay 66) (ay 80) (ay 72)):=US T
 refine T.wm.ok oU (fun vs H Q E h=>?_) (fun cdv A outer s H vs Q E hr h=>?_)
 ·obtain⟨N,N',n,n',v,w,u,u',y,dy,o,os,x,cs,rfl,_⟩:=h;rfl
 ·have hu:=bA hr
  have jv:=hr.aQ
  obtain⟨N,N',n,n',v,w9,u,u',y,dy,o,os,x,cs,rfl,hy,gx,hv,hw,ho,mk,gs,hcl,k⟩:=h
  have xT:=hr.units
  refine⟨_,(aq (TZ rfl rfl (QI (TY (i:=4) oU.nd rfl (by first | exact Or.inl rfl | exact Or.inr rfl) (QH (k:=12) XR (hr.mono (by decide)) rfl T.W8 T.RP.kp T.W7 .nil (af (pv 0) (af (pv 1) (af (pv 2) (af (pv 3) aj ak) ak) ak) ak)))) (aas (i:=5) rfl rfl T.sE T.az (.inl rfl) oU.nd rfl rfl (fun ea=>(av (aC (QT (k:=1) BP ((hr.mono (by decide)).m.mark _) rfl T.By T.sD.kp T.Bx (af (pv 5) aj ak))))) Wz) aE)
   (aq (aP (PW.pt (j9 (cY (bP (i9 (bN K rfl) T.aI (af (pv 4) (af (II "tuple" T.wu) aj ak) ak)))) (ko (iW (B8 K rfl) (oQ K (pv 4) au) (bh (af aB (af aB (af aB aj ai) ai) ai)) rfl)))) (av (aC (aJ (af aB (af au aj ai) ai)))) aE)
   (av (aC (aJ (af aB (af au aj ai) ai)))))),?_⟩
  refine⟨_,rfl,_,rfl,_,rfl,_,rfl,N,N',n,n',v,w9,u,u',y,dy,o,os,x,cs,rfl,hy,gx,hv,hw,ho,mk,gs,hcl,?_,?_,?_,?_,?_⟩
  ·intro hd H2 s2 ea t7
   refine⟨(ay 66),(ay 67),_,_,rfl,T.cX,qN (by simp) ?_⟩
   have he:(upd H2 ea (vE ea (.ref (ay 66)) none)) ea=some (vE ea (.ref (ay 66)) none):=ah
   have s3:=ao (o:=vE ea (.ref (ay 66)) none) t7
   generalize upd H2 ea (vE ea (.ref (ay 66)) none)=H3 at he s3 ⊢
   rw[hd] at k
   exact⟨_,rfl,ea,0,rfl,he,fun p H' s4 hp h=>k p H' (s2.trans (s3.trans s4)) ((s2.trans s3).free hp) h⟩
  ·intro hd d H2 hd0 hxd s2 ea t7
   refine⟨(ay 80),(ay 81),_,_,rfl,T.aT,qN (by simp) ?_⟩
   have he:(upd H2 ea (vE ea (.ref (ay 80)) (some d))) ea=some (vE ea (.ref (ay 80)) (some d)):=ah
   have s3:=ao (o:=vE ea (.ref (ay 80)) (some d)) t7
   generalize upd H2 ea (vE ea (.ref (ay 80)) (some d))=H3 at he s3 ⊢
   rw[hd] at k
   exact⟨_,rfl,ea,1,rfl,⟨d,he,s3 _ _ hxd⟩,fun p H' s4 hp h=>k p H' (s2.trans (s3.trans s4)) ((s2.trans s3).free hp) h⟩
  ·intro hd d H2 hd0 hxd s2 ea t7
   refine⟨(ay 80),(ay 81),_,_,rfl,T.aT,qN (by simp) ?_⟩
   have he:(upd H2 ea (vE ea (.ref (ay 80)) (some d))) ea=some (vE ea (.ref (ay 80)) (some d)):=ah
   have s3:=ao (o:=vE ea (.ref (ay 80)) (some d)) t7
   generalize upd H2 ea (vE ea (.ref (ay 80)) (some d))=H3 at he s3 ⊢
   rw[hd] at k
   exact⟨_,rfl,ea,2,rfl,⟨d,he,s3 _ _ hxd⟩,fun p H' s4 hp h=>k p H' (s2.trans (s3.trans s4)) ((s2.trans s3).free hp) h⟩
  ·intro hd H2 s2 ea t7
   refine⟨(ay 72),(ay 73),_,_,rfl,T.eg,qN (by simp) ?_⟩
   have he:(upd H2 ea (vE ea (.ref (ay 72)) none)) ea=some (vE ea (.ref (ay 72)) none):=ah
   have s3:=ao (o:=vE ea (.ref (ay 72)) none) t7
   generalize upd H2 ea (vE ea (.ref (ay 72)) none)=H3 at he s3 ⊢
   rw[hd] at k
   exact⟨_,rfl,ea,3,rfl,he,fun p H' s4 hp h=>k p H' (s2.trans (s3.trans s4)) ((s2.trans s3).free hp) h⟩
  ·intro hd tt s ys H2 s2 Mu hs
   rw[hd] at k
   dsimp only[Ae]
   refine⟨_,rfl,_,_,_,true,rfl,.tup Mu,.inl ⟨_,rfl,rfl⟩,true,rfl,eZ ?_⟩
   rcases hs with rfl | rfl | rfl
   all_goals
    refine⟨_,rfl,tt,_,_,_,rfl,rfl,ck.of Mu,(show PV _ ((0:Nat):Int)=_ from zS rfl),(by decide),fun l hl=>?_⟩
    refine⟨l,_,rfl,.inl (bB.of ah),rfl,rfl,_,rfl,rdF (by decide +kernel) ?_⟩
    exact⟨(by decide),fun p hp=>k p _ (s2.trans ((ao hl).trans (ao hp))) ((s2.trans (ao hl)).free hp) ah⟩
def E3 (K:W.Frag):Sp:=fun vs H Q _=>∃(a:Addr) (ns:List Int),vs=[.ref a]∧bB K H a (ns.map V.int)∧ns.length≤63∧∀ H',Q (.bl true) H'
theorem XS:aM P w K mg base cy 14 (ay 57) (aO 57) ["_law_script"] (E3 K):=by
 have E4:aM P w K mg base cy 13 (ay 56) (aO 56) ["_law_made_here", "_law_table_here", "_law_beside", "_law_most_here"] (ux K (ay 58)):=CJ T
 have gT:aM P w K mg base cy 1 (ay 43) (aO 43) ["_law_script", "_law_k"] (qZ K):=zw T
 have JY:aM P w K mg base cy 2 (ay 54) (aO 54) ["_law_table_here", "_law_many", "_law_most_here"] (yI K):=HJ T
 have yJ:aM P w K mg base cy 5 (ay 49) (aO 49) ["_law_told_here"] (wJ (ay 58)):=EY T
 have HL:aM P w K mg base cy 3 (ay 53) (aO 53) ["_law_cell"] (wL K):=E1 T
 have eX:aM P w K mg base cy 2 (ay 45) (aO 45) ["_law_cell", "_law_salt"] gS:=jS T
 have E5:aM P w K mg base cy 3 (ay 50) (aO 50) ["_law_cell"] (uw K):=CH T
 have yK:aM P w K mg base cy 3 (ay 48) (aO 48) ["_law_cell"] wI:=EW T
 refine T.aaJ.ok qq (fun vs H Q E h=>?_) (fun cdv A outer s H vs Q E hr h=>?_)
 ·obtain⟨a,ns,rfl,_⟩:=h;rfl
 ·have hu:=bA hr
  have jv:=hr.aQ
  obtain⟨a,ns,rfl,hS,hlen,k⟩:=h
  have xT:=hr.units
  refine⟨_,(aq (lA 1 qq.nd (kB yJ hr T.yC T.sC.kp T.yz (af (kB yK hr T.yy T.sy.kp T.yx (af (kB gT hr T.gO T.fz.kp T.gM (af (pv 0) (af au aj ai) ak)) aj bR)) aj bR)) (hs:=cU))
   (aq (lA 2 qq.nd (kB E5 hr T.EK T.wk.kp T.EJ (af (kB gT hr T.gO T.fz.kp T.gM (af (pv 0) (af au aj ai) ak)) aj bR)) (hs:=cU))
   (aq (lA 3 qq.nd (aL cC (kB eX hr T.kP T.iV.kp T.kO (af (kB gT hr T.gO T.fz.kp T.gM (af (pv 0) (af au aj ai) ak)) (af au aj ai) bR)) au) (hs:=dX))
   (aq (lA 4 qq.nd (kB HL hr T.Hx T.yE.kp T.Hw (af (kB gT hr T.gO T.fz.kp T.gM (af (pv 0) (af au aj ai) ak)) aj bR)) (hs:=cU))
   (aq (LK (i:=5) rfl qq.nd rfl rfl (show bq ["_law_script", "_law_made_here", "_law_table_here", "_law_many", "_law_most_here", "_law_beside", "_law_due_here", "_law_found"] (aA vF) ["_law_k", "_law_script"] 1 [0] _ from GV) (Dg rfl T.HD (af (pv 3) aj ak)) (fun _ _ _ _=>(qM 0 (show(["_law_k", "_law_script"]:List Str).Nodup by decide +kernel))) (fun _ _ _ _=>di) (fun _ _ _ _=>(kB yJ hr T.yC T.sC.kp T.yz (af (kB yK hr T.yy T.sy.kp T.yx (af (aL gD (kB gT hr T.gO T.fz.kp T.gM (af (pv 1) (af (aL gD au (pv 0)) aj cj) ak)) (pv 0)) aj cj)) aj bR))))
   (aq (lA 6 qq.nd (kB JY hr T.JP T.Bw.kp T.JO (af (pv 2) (af (pv 3) (af (pv 4) aj ak) ak) ak)) (hs:=cU))
   (aq (aP (PW.pt (pX (iM cN (oQ K (pv 6) au) aB) (mC (iM m9 (pv 4) au)))) (av (lA 4 qq.nd au (hs:=nW))) aE)
   (aq (lA 7 qq.nd (kB E4 hr T.EM T.wm.kp T.EL (af (pv 1) (af (pv 2) (af (pv 5) (af (pv 4) aj ak) ak) ak) ak)) (hs:=cU))
   (av (aC (uG (IJ (Wk K rfl jv) (pv 7) (pv 6)) (uG (Po (i9 (bN K rfl) T.aI (af (oQ K (pv 7) au) (af (II "bool" T.zY) aj ak) aD))) (w6 (IJ cN (i9 (bE K rfl) T.dH (af (pv 5) aj ak)) (pv 3))))))))))))))),?_⟩
  refine⟨_,rfl,a,_,_,rfl,hS,by decide,fun c0=>⟨c0,rfl,fun t p q f b1 b2 b3 b4 H1 g ht h1 s1=>?_⟩⟩
  refine⟨t,p,q,f,b1,b2,b3,b4,rfl,h1,g,fun y dy H2 hy0 hy s2=>?_⟩
  have s12:=s1.trans s2
  dsimp only[cK]
  refine⟨_,rfl,a,_,_,rfl,s12.seq hS,by decide,fun c1=>⟨c1,rfl,fun v u H3 s3 hv hP=>?_⟩⟩
  have VP:=s12.trans s3
  dsimp only[cK]
  refine⟨_,rfl,a,_,_,rfl,VP.seq hS,by decide,fun c2=>⟨c2,73,rfl,by decide,by decide,fun r=>⟨_,_,rfl,rfl,(by omega),?_⟩⟩⟩
  dsimp only[cK]
  refine⟨_,rfl,a,_,_,rfl,VP.seq hS,by decide,fun c3=>⟨c3,rfl,fun w9 u' H4 s4 hw=>?_⟩⟩
  dsimp only[cK]
  have hm0:=uN (a:=r) (b:=5) (by decide)
  have hm1:=uO (a:=r) (b:=5) (by decide)
  generalize r % 5=mi at hm0 hm1 ⊢
  obtain⟨m,rfl⟩:∃ m:Nat,mi=(m:Int):=⟨mi.toNat,by omega⟩
  have Nz:=VP.trans s4
  refine⟨_,rfl,(m:Int),rfl,by omega,by omega,fun D hD=>?_⟩
  refine Jj (fun i ys τ J=>(∃ v,τ=[v,some (.ref a)])∧aH H4 J∧J D=some (.lst ys)∧∃ cs:List nR,Cd (ay 58) J ys cs∧(∀ c∈cs,Ma c)∧cs.length=i) ⟨⟨_,rfl⟩,ao hD,ah,[],.nil,(fun _ z=>nomatch z),rfl⟩ (fun i ys τ J _ p=>p.2.2.1) ?_ ?_
  ·rintro i ys τ J hi ⟨⟨v1,rfl⟩,sJ,hDJ,cs,mk,gs,hcl⟩
   have hi5:i < 5:=by omega
   have hyl:=mk.length
   refine rM ?_
   refine⟨_,rfl,_,rfl,_,_,rfl,rfl,a,_,_,rfl,(Nz.trans sJ).seq hS,by omega,fun c4=>⟨_,rfl,_,_,rfl,rfl,_,rfl,fun t2 p2 q2 f2 d1 d2 d3 d4 J1 g2 ht2 h2 t1=>?_⟩⟩
   refine⟨t2,p2,q2,f2,d1,d2,d3,d4,rfl,h2,g2,fun y2 dy2 J2 aiy hy2 t3=>?_⟩
   have hD2:=t3 _ _ (t1 _ _ hDJ)
   have t13:=t1.trans t3
   refine⟨hD2,?_,⟨_,rfl⟩,bg hD (sJ.trans t13),ah,cs++[(p2,q2,f2,⟨d1,d2,d3,d4⟩)],?_,fun c hc=>?_,by rw[List.length_append,hcl];rfl⟩
   ·rw[hyl,hcl];exact Nat.lt_of_le_of_lt (show i≤5 by omega) (by decide)
   ·exact Cd.but hD2 (nY (Cd.mono t13 mk) ⟨y2,dy2,rfl,hy2⟩)
   ·rcases List.mem_append.mp hc with z | z
    ·exact gs c z
    ·rw[List.mem_singleton.mp z];exact g2
  rintro os τ H5 ⟨⟨v1,rfl⟩,s5,ho,cs,mk,gs,hcl⟩
  have QG:cs.length=m:=by omega
  have Zm:=mk.length
  have s15:=Nz.trans s5
  have hy5:=(s3.trans (s4.trans s5)) _ _ hy
  have hv5:=hv.mono (s4.trans s5) fun _ z=>z
  have hw5:=hw.mono s5 fun _ z=>z
  dsimp only[cK]
  refine⟨_,rfl,_,rfl,_,rfl,_,_,3,1,v,w9,u,u',m,rfl,hv5,hP,hw5,fun td H6 s6 aiz htd=>?_⟩
  dsimp only[cK]
  have hv6:=hv5.mono s6 fun _ z=>z
  have hw6:=hw5.mono s6 fun _ z=>z
  refine DM (t:=VV _ _ _) (fun σ' G=>G=H6∧∃ w8 u8,σ'=[some (.ref a),some (.ref y),some v,some (.int m),some w8,some (.ref D),some (.ref td),none]∧Rp (fun _=>True) 1 H6 w8 u8∧iF u m w8=iF u m w9) ?_ (fun go=>?_)
  rotate_left
  ·refine⟨_,rfl,td,_,_,_,rfl,rfl,ck.of htd,rfl,rfl,_,rfl,?_⟩
   by_cases h4:iF u m w9=4
   ·obtain⟨n,rfl,n1,n4⟩:=DS (W2 h4).2.2.2
    refine Zl (by rw[h4];rfl) ?_
    refine⟨_,rfl,_,_,rfl,rfl,_,rfl,MZ (fun c5=>?_) (fun c5=>go _ _ ⟨rfl,_,_,rfl,hw6,rfl⟩)⟩
    refine go _ _ ⟨rfl,.int 300,_,rfl,yr rfl (fun z e=>by cases e),?_⟩
    obtain⟨d1,d2,d3,_⟩:=W2 h4
    rw[h4]
    unfold iF
    rw[if_neg (by rw[d1];decide),if_neg (by omega),if_neg (by omega),if_neg (by decide)]
   ·refine Jp (fun e=>?_) (eZ (go _ _ ⟨rfl,_,_,rfl,hw6,rfl⟩))
    have e:=V.str.inj e
    revert e
    have hle:iF u m w9≤4:=by unfold iF;split <;> (try split) <;> (try split) <;> (try split) <;> omega
    rcases(show iF u m w9=0∨iF u m w9=1∨iF u m w9=2∨iF u m w9=3 by omega) with q | q | q | q <;> rw[q] <;> decide +kernel
  rintro σ' G ⟨rfl,w8,u8,rfl,hw8,hd8⟩
  have ho6:=s6 _ _ ho
  have hom:os.length=m:=by omega
  refine⟨_,rfl,_,rfl,_,rfl,_,rfl,_,_,3,1,v,w8,u,u8,y,dy,D,os,(p,q,f,⟨b1,b2,b3,b4⟩),cs,rfl,s6 _ _ hy5,g,hv6,hw8,ho6,Cd.mono s6 mk,gs,by omega,fun tf H7 s7 aiA htf=>?_⟩
  dsimp only[cK]
  rw[hom,hd8] at htf
  refine⟨_,rfl,_,rfl,tf,td,_,_,rfl,rfl,ck.of htf,ck.of (s7 _ _ htd),rfl,rfl,_,rfl,qN (Dv rfl) ?_⟩
  refine⟨_,rfl,tf,_,_,_,rfl,rfl,ck.of htf,rfl,_,_,_,false,rfl,.int _,.inl ⟨_,rfl,rfl⟩,false,rfl,_,rfl,gj ?_⟩
  refine⟨_,rfl,D,_,rfl,.inl (bB.of (s7 _ _ ho6)),_,rfl,rfl,?_⟩
  have kk:=k H7
  rw[show true=decide (V.int (os.length:Int)=V.int (m:Int)) from (decide_eq_true (by rw[hom])).symm] at kk
  exact kk
end
end
theorem all_mk {l:W.OpenLaw}{w:World}{K:W.Frag}{h:Heap}{mg:Str→Option Value}{fa jT fR dI gU mJ gc eF iZ gA tH wM jU qB kR ou E6 eG fS eH cR eN dJ eO qC tK jV fj i0 kT kU i7 mK lO fF cS cH kW gW fG wN tL kX E7 jW mL kY ow mO oz oA mP kZ oB oE qD jX mQ R8 bT lV fH eS aN jY nQ wO bf tM gX oF jj qE bC wQ qF zZ qG z0 fJ wR aX tN dM wU bS oG E8 JZ R9:Addr}{od0 an0 od1 an1 od2 an2 od3 an3 od4 an4 od5 an5 od6 an6 od7 an7 od8 an8 od9 an9 af5 aaU af6 aaV af7 aaW af8 aaX af9 aaY aga aaZ agb aa0 agc aa1 agd aa2 age aa3 agf aa4 agg aa5 agh aa6 agi aa7 agj aa8 agk aa9 agl abb agm abd agn abe ago abf agp abg agq abh agr abi ags abj agt abk agu abl agv abm agw abn agx abo agy XT agz abp agA abq agB abr agC abt agD abu agE abv agF abw agG abx agH aby agI abz agJ abA agK abB agL abC agM abD agN abE agO abF agP abG agQ XU:Option Addr}{sl0 sl1 sl2 sl3 sl4 sl5 sl6 sl7 sl8 sl9 agR agS agT agU agV agW agX agY agZ ag0 ag1 ag2 ag3 ag4 ag5 ag6 ag7 ag8 ag9 aha ahb ahc ahd ahe ahf ahg ahh ahi ahj ahk ahl ahm ahn aho ahp ahq ahr ahs aht ahu ahv ahw ahx ahy ahz ahA ahB ahC:Array (Option Value)}{oc0 kV0 dc0 pm0 cd0 ct0 oc1 kV1 dc1 pm1 cd1 ct1 oc2 kV2 dc2 pm2 cd2 ct2 oc3 kV3 dc3 pm3 cd3 ct3 oc4 kV4 dc4 pm4 cd4 ct4 oc5 kV5 dc5 pm5 cd5 ct5 oc6 kV6 dc6 pm6 cd6 ct6 oc7 kV7 dc7 pm7 cd7 ct7 oc8 kV8 dc8 pm8 cd8 ct8 oc9 kV9 dc9 pm9 cd9 ct9 ahD abH abI abJ XW abK ahE abL abM abN XX abO ahF abP abQ abR XY abS ahG abT abU abV XZ abW ahH abX abY abZ X0 ab0 ahI ab1 ab2 ab3 X3 ab4 ahJ ab5 ab6 ab7 X4 ab8 ahK ab9 acd ace X5 acf ahL acg ach aci X6 acj ahM ack acm acn X7 aco ahN acp acq acr X8 acs ahO acu acv acw Yb acy ahP acz acA acB Yc acC ahQ acD acE acF Yd acG ahR acH acI acJ Ye acK ahS acL acM acN Yg acO ahT acP acQ acR Yh acS ahU acT acU acV Yi acW ahV acX acY acZ Yj ac0 ahW ac1 ac2 ac3 Yk ac4 ahX ac5 ac6 ac7 Yl ac8 ahY ac9 ada adb Ym ade ahZ adf adg adh Yn adi ah0 adj adk adl Yo adn ah1 ado adp adq Yp ads ah2 adt adu adv Yq adw ah3 adx ady adz Yr adA ah4 adB adC adD Ys adE ah5 adF adG adH Yt adI ah6 Yu Yv Yw UX Yx ah7 adJ adK adL Yy adM ah8 adN adO adP Yz adQ ah9 adR adS adT YA adU aia adV adW adX YB adY aib adZ ad0 ad1 YC ad2 aic ad3 ad4 ad5 YD ad6 aid ad7 ad8 ad9 YE aea aie aeb aec aed YF aee aif aef aeg aeh YG aei aih aej aek ael YH aem aii aen aeo aep YI aeq aij aer aes aeu YJ aev aik aew aex aey YK aez ail aeA aeB aeC YN aeD aim aeE aeF aeG YO aeH ain aeI aeJ aeK YQ aeL aio aeM aeN aeO YR aeP aip YS YT YU UY YV:Value}{J4:Str}{cz mU:Addr} (X:K.In h) (G:h.Ns mainGlobals mg) (hfa:mg "law" = some (.ref fa))
  (J5:W.nsIn K mainGlobals "Dialect" = some (some (.ref bT)))
  (UZ:W.nsIn K mainGlobals "Turn" = some (some (.ref lV)))
  (NF:W.nsIn K mainGlobals "Marker" = some (some (.ref fH)))
  (NG:W.nsIn K mainGlobals "Places" = some (some (.ref eS)))
  (lW:W.nsIn K mainGlobals "DialectError" = some (some (.ref aN)))
  (xX:W.nsIn K mainGlobals "NoText" = some (some (.ref nQ)))
  (ve:W.nsIn K mainGlobals "NoTable" = some (some (.ref bf)))
  (qH:W.nsIn K mainGlobals "NoDialect" = some (some (.ref gX)))
  (sW:W.nsIn K mainGlobals "NoFamily" = some (some (.ref jj)))
  (xY:W.nsIn K mainGlobals "NoMost" = some (some (.ref bC)))
  (BQ:W.nsIn K mainGlobals "NoAsk" = some (some (.ref qF)))
  (BR:W.nsIn K mainGlobals "NoRow" = some (some (.ref qG)))
  (xZ:W.nsIn K mainGlobals "NoName" = some (some (.ref fJ)))
  (vf:W.nsIn K mainGlobals "TooMany" = some (some (.ref aX)))
  (ya:W.nsIn K mainGlobals "Broken" = some (some (.ref dM)))
  (qI:W.nsIn K mainGlobals "NoWriting" = some (some (.ref bS)))
  (a0:W.nsIn K mainGlobals "is_printable" = RF jT)
  (l0:K.lookup jT=FO "is_printable" "is_printable" fk .none oc0 od0 kV0 dc0 pm0 an0 cd0 ct0 sl0) (c0:W.codeIn K cd0 "is_printable" = true) (k0:W.keepIn K (.ref jT)=true)
  (a1:W.nsIn K mainGlobals "are_unlike_signs" = RF fR)
  (l1:K.lookup fR=FO "are_unlike_signs" "are_unlike_signs" cI .none oc1 od1 kV1 dc1 pm1 an1 cd1 ct1 sl1) (c1:W.codeIn K cd1 "are_unlike_signs" = true) (k1:W.keepIn K (.ref fR)=true)
  (a2:W.findIn K (.ref bT) "__init__" = some (some (.ref dI))) (i2:W.isFn K (.ref dI)=true)
  (l2:K.lookup dI=FO "__init__" "Dialect.__init__" bO (.ref cz) oc2 od2 kV2 dc2 pm2 an2 cd2 ct2 sl2) (c2:W.codeIn K cd2 "Dialect.__init__" = true) (k2:W.keepIn K (.ref dI)=true)
  {aeQ:Option Addr}{aiq:Nat}{aeR:Array (Option Value)}{aeS aeT:Tok} (d2:K.lookup cz=some ⟨.type "tuple",aeQ,.seq #[.str ("":Str) aeS,.str ("":Str) aeT,.bool false,.bool false,.bool false,.bool false] aiq,aeR⟩)
  (a3:W.findIn K (.ref bT) "told" = some (some (.ref gU))) (i3:W.isFn K (.ref gU)=true)
  (l3:K.lookup gU=FO "told" "Dialect.told" gG .none oc3 od3 kV3 dc3 pm3 an3 cd3 ct3 sl3) (c3:W.codeIn K cd3 "Dialect.told" = true) (k3:W.keepIn K (.ref gU)=true)
  (a4:W.nsIn K mainGlobals "dialect_of" = RF mJ)
  (l4:K.lookup mJ=FO "dialect_of" "dialect_of" jx .none oc4 od4 kV4 dc4 pm4 an4 cd4 ct4 sl4) (c4:W.codeIn K cd4 "dialect_of" = true) (k4:W.keepIn K (.ref mJ)=true)
  (a5:W.findIn K (.ref lV) "__init__" = some (some (.ref gc))) (i5:W.isFn K (.ref gc)=true)
  (l5:K.lookup gc=FO "__init__" "Turn.__init__" fW .none oc5 od5 kV5 dc5 pm5 an5 cd5 ct5 sl5) (c5:W.codeIn K cd5 "Turn.__init__" = true) (k5:W.keepIn K (.ref gc)=true)
  (a6:W.findIn K (.ref fH) "__init__" = some (some (.ref eF))) (i6:W.isFn K (.ref eF)=true)
  (l6:K.lookup eF=FO "__init__" "Marker.__init__" dZ .none oc6 od6 kV6 dc6 pm6 an6 cd6 ct6 sl6) (c6:W.codeIn K cd6 "Marker.__init__" = true) (k6:W.keepIn K (.ref eF)=true)
  (a7:W.nsIn K mainGlobals "tokens_of_row" = RF iZ)
  (l7:K.lookup iZ=FO "tokens_of_row" "tokens_of_row" dO .none oc7 od7 kV7 dc7 pm7 an7 cd7 ct7 sl7) (c7:W.codeIn K cd7 "tokens_of_row" = true) (k7:W.keepIn K (.ref iZ)=true)
  (a8:W.nsIn K mainGlobals "has_signs_alone" = RF gA)
  (l8:K.lookup gA=FO "has_signs_alone" "has_signs_alone" cV .none oc8 od8 kV8 dc8 pm8 an8 cd8 ct8 sl8) (c8:W.codeIn K cd8 "has_signs_alone" = true) (k8:W.keepIn K (.ref gA)=true)
  (a9:W.nsIn K mainGlobals "is_cell" = RF tH)
  (l9:K.lookup tH=FO "is_cell" "is_cell" o7 .none oc9 od9 kV9 dc9 pm9 an9 cd9 ct9 sl9) (c9:W.codeIn K cd9 "is_cell" = true) (k9:W.keepIn K (.ref tH)=true)
  (a10:W.nsIn K mainGlobals "is_row" = RF wM)
  (l10:K.lookup wM=FO "is_row" "is_row" o8 .none ahD af5 abH abI abJ aaU XW abK agR) (c10:W.codeIn K XW "is_row" = true) (k10:W.keepIn K (.ref wM)=true)
  (a11:W.nsIn K mainGlobals "signs_in_row" = RF jU)
  (l11:K.lookup jU=FO "signs_in_row" "signs_in_row" fm .none ahE af6 abL abM abN aaV XX abO agS) (Xm:W.codeIn K XX "signs_in_row" = true) (k11:W.keepIn K (.ref jU)=true)
  (a12:W.nsIn K mainGlobals "is_table" = RF qB)
  (l12:K.lookup qB=FO "is_table" "is_table" ja .none ahF af7 abP abQ abR aaW XY abS agT) (c12:W.codeIn K XY "is_table" = true) (k12:W.keepIn K (.ref qB)=true)
  (a13:W.nsIn K mainGlobals "check_table" = RF kR)
  (l13:K.lookup kR=FO "check_table" "check_table" iN .none ahG af8 abT abU abV aaX XZ abW agU) (c13:W.codeIn K XZ "check_table" = true) (k13:W.keepIn K (.ref kR)=true)
  (R1:W.nsIn K mainGlobals "tokens_of" = RF ou)
  (l14:K.lookup ou=FO "tokens_of" "tokens_of" lB .none ahH af9 abX abY abZ aaY X0 ab0 agV) (c14:W.codeIn K X0 "tokens_of" = true) (k14:W.keepIn K (.ref ou)=true)
  (a15:W.nsIn K mainGlobals "once" = RF E6)
  (l15:K.lookup E6=FO "once" "once" AF .none ahI aga ab1 ab2 ab3 aaZ X3 ab4 agW) (c15:W.codeIn K X3 "once" = true) (k15:W.keepIn K (.ref E6)=true)
  (a16:W.findIn K (.ref bT) "special" = some (some (.ref eG))) (i16:W.isFn K (.ref eG)=true)
  (l16:K.lookup eG=FO "special" "Dialect.special" d7 .none ahJ agb ab5 ab6 ab7 aa0 X4 ab8 agX) (c16:W.codeIn K X4 "Dialect.special" = true) (k16:W.keepIn K (.ref eG)=true)
  (a17:W.nsIn K mainGlobals "signs_that_count" = RF fS)
  (l17:K.lookup fS=FO "signs_that_count" "signs_that_count" cg .none ahK agc ab9 acd ace aa1 X5 acf agY) (c17:W.codeIn K X5 "signs_that_count" = true) (k17:W.keepIn K (.ref fS)=true)
  (a18:W.findIn K (.ref eS) "__init__" = some (some (.ref eH))) (i18:W.isFn K (.ref eH)=true)
  (l18:K.lookup eH=FO "__init__" "Places.__init__" cW .none ahL agd acg ach aci aa2 X6 acj agZ) (UK:W.codeIn K X6 "Places.__init__" = true) (k18:W.keepIn K (.ref eH)=true)
  (l19:K.lookup cR=FO "__init__" "NoWriting.__init__" d8 .none ahM age ack acm acn aa3 X7 aco ag0) (c19:W.codeIn K X7 "NoWriting.__init__" = true) (k19:W.keepIn K (.ref cR)=true)
  (l20:K.lookup eN=FO "__init__" "Broken.__init__" gk .none ahN agf acp acq acr aa4 X8 acs ag1) (c20:W.codeIn K X8 "Broken.__init__" = true) (k20:W.keepIn K (.ref eN)=true)
  (l21:K.lookup dJ=FO "__init__" "TooMany.__init__" dG .none ahO agg acu acv acw aa5 Yb acy ag2) (c21:W.codeIn K Yb "TooMany.__init__" = true) (k21:W.keepIn K (.ref dJ)=true)
  (l22:K.lookup eO=FO "__init__" "NoName.__init__" gm .none ahP agh acz acA acB aa6 Yc acC ag3) (c22:W.codeIn K Yc "NoName.__init__" = true) (k22:W.keepIn K (.ref eO)=true)
  (a23:W.nsIn K mainGlobals "is_whole" = RF qC)
  (l23:K.lookup qC=FO "is_whole" "is_whole" nq .none ahQ agi acD acE acF aa7 Yd acG ag4) (c23:W.codeIn K Yd "is_whole" = true) (k23:W.keepIn K (.ref qC)=true)
  (UP:W.nsIn K mainGlobals "is_live" = RF tK)
  (l24:K.lookup tK=FO "is_live" "is_live" o9 .none ahR agj acH acI acJ aa8 Ye acK ag5) (c24:W.codeIn K Ye "is_live" = true) (k24:W.keepIn K (.ref tK)=true)
  (a25:W.nsIn K mainGlobals "count_behind" = RF jV)
  (l25:K.lookup jV=FO "count_behind" "count_behind" gH .none ahS agk acL acM acN aa9 Yg acO ag6) (c25:W.codeIn K Yg "count_behind" = true) (k25:W.keepIn K (.ref jV)=true)
  (a26:W.nsIn K mainGlobals "step_at_beginning" = RF fj)
  (l26:K.lookup fj=FO "step_at_beginning" "step_at_beginning" dg .none ahT agl acP acQ acR abb Yh acS ag7) (c26:W.codeIn K Yh "step_at_beginning" = true) (k26:W.keepIn K (.ref fj)=true)
  (a27:W.nsIn K mainGlobals "step_in_plain" = RF i0)
  (l27:K.lookup i0=FO "step_in_plain" "step_in_plain" fX .none ahU agm acT acU acV abd Yi acW ag8) (c27:W.codeIn K Yi "step_in_plain" = true) (k27:W.keepIn K (.ref i0)=true)
  (a28:W.nsIn K mainGlobals "step_within" = RF kT)
  (l28:K.lookup kT=FO "step_within" "step_within" iO .none ahV agn acX acY acZ abe Yj ac0 ag9) (c28:W.codeIn K Yj "step_within" = true) (k28:W.keepIn K (.ref kT)=true)
  (a29:W.nsIn K mainGlobals "step_behind" = RF kU)
  (l29:K.lookup kU=FO "step_behind" "step_behind" iP .none ahW ago ac1 ac2 ac3 abf Yk ac4 aha) (c29:W.codeIn K Yk "step_behind" = true) (k29:W.keepIn K (.ref kU)=true)
  (a30:W.nsIn K mainGlobals "step_in_doubt" = RF i7)
  (l30:K.lookup i7=FO "step_in_doubt" "step_in_doubt" fY .none ahX agp ac5 ac6 ac7 abg Yl ac8 ahb) (c30:W.codeIn K Yl "step_in_doubt" = true) (k30:W.keepIn K (.ref i7)=true)
  (a31:W.nsIn K mainGlobals "step_freed" = RF mK)
  (l31:K.lookup mK=FO "step_freed" "step_freed" jy .none ahY agq ac9 ada adb abh Ym ade ahc) (c31:W.codeIn K Ym "step_freed" = true) (k31:W.keepIn K (.ref mK)=true)
  (a32:W.findIn K (.ref lV) "step" = some (some (.ref lO))) (i32:W.isFn K (.ref lO)=true)
  (l32:K.lookup lO=FO "step" "Turn.step" lC .none ahZ agr adf adg adh abi Yn adi ahd) (c32:W.codeIn K Yn "Turn.step" = true) (k32:W.keepIn K (.ref lO)=true)
  (a33:W.findIn K (.ref lV) "live_step" = some (some (.ref fF))) (i33:W.isFn K (.ref fF)=true)
  (l33:K.lookup fF=FO "live_step" "Turn.live_step" fq .none ah0 ags adj adk adl abj Yo adn ahe) (c33:W.codeIn K Yo "Turn.live_step" = true) (k33:W.keepIn K (.ref fF)=true)
  (Xx:W.findIn K (.ref fH) "mark_behind" = some (some (.ref cS))) (i34:W.isFn K (.ref cS)=true)
  (l34:K.lookup cS=FO "mark_behind" "Marker.mark_behind" cP .none ah1 agt ado adp adq abk Yp ads ahf) (c34:W.codeIn K Yp "Marker.mark_behind" = true) (k34:W.keepIn K (.ref cS)=true)
  (a35:W.findIn K (.ref fH) "has_read_all" = some (some (.ref cH))) (i35:W.isFn K (.ref cH)=true)
  (l35:K.lookup cH=FO "has_read_all" "Marker.has_read_all" cF .none ah2 agu adt adu adv abl Yq adw ahg) (c35:W.codeIn K Yq "Marker.has_read_all" = true) (k35:W.keepIn K (.ref cH)=true)
  (a36:W.nsIn K mainGlobals "first_place" = RF kW)
  (l36:K.lookup kW=FO "first_place" "first_place" gg .none ah3 agv adx ady adz abm Yr adA ahh) (c36:W.codeIn K Yr "first_place" = true) (k36:W.keepIn K (.ref kW)=true)
  (a37:W.findIn K (.ref eS) "leads" = some (some (.ref gW))) (i37:W.isFn K (.ref gW)=true)
  (l37:K.lookup gW=FO "leads" "Places.leads" fu .none ah4 agw adB adC adD abn Ys adE ahi) (c37:W.codeIn K Ys "Places.leads" = true) (k37:W.keepIn K (.ref gW)=true)
  (a38:W.findIn K (.ref eS) "is_good" = some (some (.ref fG))) (i38:W.isFn K (.ref fG)=true)
  (l38:K.lookup fG=FO "is_good" "Places.is_good" dD .none ah5 agx adF adG adH abo Yt adI ahj) (c38:W.codeIn K Yt "Places.is_good" = true) (k38:W.keepIn K (.ref fG)=true)
  (a39:W.nsIn K mainGlobals "search" = RF wN)
  (l39:K.lookup wN=FO "search" "search" lD (.ref mU) ah6 agy Yu Yv Yw XT UX Yx ahk) (c39:W.codeIn K UX "search" = true) (k39:W.keepIn K (.ref wN)=true)
  {YW:Option Addr}{aeU:Nat}{YX:Array (Option Value)} (d39:K.lookup mU=some ⟨.type "tuple",YW,.seq #[.none] aeU,YX⟩)
  (a40:W.nsIn K mainGlobals "text_to" = RF tL)
  (l40:K.lookup tL=FO "text_to" "text_to" pe .none ah7 agz adJ adK adL abp Yy adM ahl) (c40:W.codeIn K Yy "text_to" = true) (k40:W.keepIn K (.ref tL)=true)
  (a41:W.nsIn K mainGlobals "check_asked" = RF kX)
  (l41:K.lookup kX=FO "check_asked" "check_asked" iQ .none ah8 agA adN adO adP abq Yz adQ ahm) (c41:W.codeIn K Yz "check_asked" = true) (k41:W.keepIn K (.ref kX)=true)
  (a42:W.nsIn K mainGlobals "sole" = RF E7)
  (l42:K.lookup E7=FO "sole" "sole" AG .none ah9 agB adR adS adT abr YA adU ahn) (c42:W.codeIn K YA "sole" = true) (k42:W.keepIn K (.ref E7)=true)
  (a43:W.nsIn K mainGlobals "_law_cell_at" = RF jW)
  (l43:K.lookup jW=FO "_law_cell_at" "_law_cell_at" gI .none aia agC adV adW adX abt YB adY aho) (c43:W.codeIn K YB "_law_cell_at" = true) (k43:W.keepIn K (.ref jW)=true)
  (a44:W.nsIn K mainGlobals "_law_mixed" = RF mL)
  (l44:K.lookup mL=FO "_law_mixed" "_law_mixed" jz .none aib agD adZ ad0 ad1 abu YC ad2 ahp) (c44:W.codeIn K YC "_law_mixed" = true) (k44:W.keepIn K (.ref mL)=true)
  (a45:W.nsIn K mainGlobals "_law_number" = RF kY)
  (l45:K.lookup kY=FO "_law_number" "_law_number" iR .none aic agE ad3 ad4 ad5 abv YD ad6 ahq) (c45:W.codeIn K YD "_law_number" = true) (k45:W.keepIn K (.ref kY)=true)
  (a46:W.nsIn K mainGlobals "_law_some" = RF ow)
  (l46:K.lookup ow=FO "_law_some" "_law_some" lE .none aid agF ad7 ad8 ad9 abw YE aea ahr) (c46:W.codeIn K YE "_law_some" = true) (k46:W.keepIn K (.ref ow)=true)
  (a47:W.nsIn K mainGlobals "_law_menus" = RF mO)
  (l47:K.lookup mO=FO "_law_menus" "_law_menus" jA .none aie agG aeb aec aed abx YF aee ahs) (c47:W.codeIn K YF "_law_menus" = true) (k47:W.keepIn K (.ref mO)=true)
  (a48:W.nsIn K mainGlobals "_law_told" = RF oz)
  (l48:K.lookup oz=FO "_law_told" "_law_told" lF .none aif agH aef aeg aeh aby YG aei aht) (c48:W.codeIn K YG "_law_told" = true) (k48:W.keepIn K (.ref oz)=true)
  (a49:W.nsIn K mainGlobals "_law_made" = RF oA)
  (l49:K.lookup oA=FO "_law_made" "_law_made" lG .none aih agI aej aek ael abz YH aem ahu) (c49:W.codeIn K YH "_law_made" = true) (k49:W.keepIn K (.ref oA)=true)
  (a50:W.nsIn K mainGlobals "_law_table" = RF mP)
  (l50:K.lookup mP=FO "_law_table" "_law_table" jB .none aii agJ aen aeo aep abA YI aeq ahv) (c50:W.codeIn K YI "_law_table" = true) (k50:W.keepIn K (.ref mP)=true)
  (a51:W.nsIn K mainGlobals "_law_tokens" = RF kZ)
  (l51:K.lookup kZ=FO "_law_tokens" "_law_tokens" gh .none aij agK aer aes aeu abB YJ aev ahw) (c51:W.codeIn K YJ "_law_tokens" = true) (k51:W.keepIn K (.ref kZ)=true)
  (a52:W.nsIn K mainGlobals "_law_good" = RF oB)
  (l52:K.lookup oB=FO "_law_good" "_law_good" gJ .none aik agL aew aex aey abC YK aez ahx) (c52:W.codeIn K YK "_law_good" = true) (k52:W.keepIn K (.ref oB)=true)
  (a53:W.nsIn K mainGlobals "_law_most" = RF oE)
  (l53:K.lookup oE=FO "_law_most" "_law_most" lH .none ail agM aeA aeB aeC abD YN aeD ahy) (c53:W.codeIn K YN "_law_most" = true) (k53:W.keepIn K (.ref oE)=true)
  (a54:W.nsIn K mainGlobals "_law_due" = RF qD)
  (l54:K.lookup qD=FO "_law_due" "_law_due" nt .none aim agN aeE aeF aeG abE YO aeH ahz) (c54:W.codeIn K YO "_law_due" = true) (k54:W.keepIn K (.ref qD)=true)
  (a55:W.nsIn K mainGlobals "_law_refusal" = RF jX)
  (l55:K.lookup jX=FO "_law_refusal" "_law_refusal" gK .none ain agO aeI aeJ aeK abF YQ aeL ahA) (c55:W.codeIn K YQ "_law_refusal" = true) (k55:W.keepIn K (.ref jX)=true)
  (a56:W.nsIn K mainGlobals "_law_asked" = RF mQ)
  (l56:K.lookup mQ=FO "_law_asked" "_law_asked" jC .none aio agP aeM aeN aeO abG YR aeP ahB) (c56:W.codeIn K YR "_law_asked" = true) (k56:W.keepIn K (.ref mQ)=true)
  (a57:W.nsIn K mainGlobals "law" = RF R8)
  (l57:K.lookup R8=FO "law" "law" vF .none aip agQ YS YT YU XU UY YV ahC) (c57:W.codeIn K UY "law" = true) (k57:W.keepIn K (.ref R8)=true)
  (J6:W.plainGet K bT Str.empty=true) (J7:W.hasDictIn K bT=true) (J8:W.plainOver K bT=true) (J9:W.findIn K (.ref bT) "__setattr__" = some (some (.builtin "object.__setattr__"))) (Ka:W.makesIn K bT=true) (Kc:W.keepIn K (.ref bT)=true)
  (cB:W.findIn K (.ref bT) "parts" = some none)
  (cJ:W.findIn K (.ref bT) "quotes" = some none)
  (bZ:W.findIn K (.ref bT) "frees" = some none)
  (gP:W.findIn K (.ref bT) "twin" = some none)
  (fB:W.findIn K (.ref bT) "wide" = some none)
  (fD:W.findIn K (.ref bT) "thin" = some none)
  (f7:W.findIn K (.ref bT) "stray" = some none)
  (U0:W.plainGet K lV Str.empty=true) (U1:W.hasDictIn K lV=true) (U3:W.plainOver K lV=true) (U4:W.findIn K (.ref lV) "__setattr__" = some (some (.builtin "object.__setattr__"))) (U5:W.makesIn K lV=true) (U6:W.keepIn K (.ref lV)=true)
  (bX:W.findIn K (.ref lV) "dialect" = some none)
  (NH:W.plainGet K fH Str.empty=true) (NI:W.hasDictIn K fH=true) (NJ:W.plainOver K fH=true) (NK:W.findIn K (.ref fH) "__setattr__" = some (some (.builtin "object.__setattr__"))) (NL:W.makesIn K fH=true) (NN:W.keepIn K (.ref fH)=true)
  (kQ:W.findIn K (.ref fH) "turn" = some none)
  (f9:W.findIn K (.ref fH) "tokens" = some none)
  (NO:W.plainGet K eS Str.empty=true) (NP:W.hasDictIn K eS=true) (NQ:W.plainOver K eS=true) (NR:W.findIn K (.ref eS) "__setattr__" = some (some (.builtin "object.__setattr__"))) (NS:W.makesIn K eS=true) (NT:W.keepIn K (.ref eS)=true)
  (gb:W.findIn K (.ref eS) "marker" = some none)
  (fE:W.findIn K (.ref eS) "markers" = some none)
  (jI:W.findIn K (.ref eS) "signs" = some none)
  {zy zA:Str}{zB yb:List Value}{yc zC:Bool}{zD:List Str}{yd:Option Bool}{zE ye:Option Addr}{zF zG zH zI zJ:Option Value}{yf:Value}{pP:Array DictEntry}{zK:Nat}{yg:Array (Option Value)}
  (dQ:K.lookup aN=some (excClassObj zy zA aN jY zB jw yc zD yb zC yd zE zF zG zH zI zJ "ValueError.__new__"))
  (dR:K.lookup jY=some ⟨yf,ye,.dict pP zK,yg⟩) (gB:(pP.toList.all fun e=>match e.key with | .str _ _=>true | _=>false)=true) (dS:W.nsIn K jY "__init__" = some none)
  (zL:W.specialIn K (.ref aN) "__getattribute__" = some (some (.builtin "type.__getattribute__"))) (zM:W.readsIn K aN (.type "type")=true) (zN:W.findCls K (.ref aN) (.type "type") "__init__" = some (.val (.builtin "ValueError.__init__")))
  {NU NV:Str}{NW Kd:List Value}{Ke NX:Bool}{NY:List Str}{Kf:Option Bool}{NZ Kg:Option Addr}{N1 N2 N4 N5 N6:Option Value}{Kh:Value}{BS:Array DictEntry}{N7:Nat}{Kl:Array (Option Value)}
  (mV:K.lookup nQ=some (excClassObj NU NV nQ wO NW (.ref aN :: jw) Ke NY Kd NX Kf NZ N1 N2 N4 N5 N6 "ValueError.__new__"))
  (mW:K.lookup wO=some ⟨Kh,Kg,.dict BS N7,Kl⟩) (oH:(BS.toList.all fun e=>match e.key with | .str _ _=>true | _=>false)=true) (mX:W.nsIn K wO "__init__" = some none)
  {Km Kn:Str}{Ko HM:List Value}{HN Kp:Bool}{Kq:List Str}{HP:Option Bool}{Kr HQ:Option Addr}{Ks Ku Kv Kw Ky:Option Value}{HR:Value}{yL:Array DictEntry}{Kz:Nat}{HS:Array (Option Value)}
  (bH:K.lookup bf=some (excClassObj Km Kn bf tM Ko (.ref aN :: jw) HN Kq HM Kp HP Kr Ks Ku Kv Kw Ky "ValueError.__new__"))
  (bI:K.lookup tM=some ⟨HR,HQ,.dict yL Kz,HS⟩) (bu:(yL.toList.all fun e=>match e.key with | .str _ _=>true | _=>false)=true) (bJ:W.nsIn K tM "__init__" = some none)
  {E9 Fb:Str}{Fc CK:List Value}{CL Fd:Bool}{Fe:List Str}{CO:Option Bool}{Ff CQ:Option Addr}{Fg Fi Fj Fl Fo:Option Value}{CS:Value}{uy:Array DictEntry}{Fp:Nat}{CU:Array (Option Value)}
  (iy:K.lookup gX=some (excClassObj E9 Fb gX oF Fc (.ref aN :: jw) CL Fe CK Fd CO Ff Fg Fi Fj Fl Fo "ValueError.__new__"))
  (iz:K.lookup oF=some ⟨CS,CQ,.dict uy Fp,CU⟩) (jZ:(uy.toList.all fun e=>match e.key with | .str _ _=>true | _=>false)=true) (iA:W.nsIn K oF "__init__" = some none)
  {HU HV:Str}{HW Fq:List Value}{Ft HX:Bool}{HY:List Str}{Fv:Option Bool}{HZ Fw:Option Addr}{Ia Ib Ic Ie Ig:Option Value}{Fx:Value}{wV:Array DictEntry}{Ih:Nat}{Fy:Array (Option Value)}
  (jr:K.lookup jj=some (excClassObj HU HV jj qE HW (.ref aN :: jw) Ft HY Fq HX Fv HZ Ia Ib Ic Ie Ig "ValueError.__new__"))
  (jt:K.lookup qE=some ⟨Fx,Fw,.dict wV Ih,Fy⟩) (lg:(wV.toList.all fun e=>match e.key with | .str _ _=>true | _=>false)=true) (ju:W.nsIn K qE "__init__" = some none)
  {N8 N9:Str}{Oa KA:List Value}{KC Ob:Bool}{Oc:List Str}{KD:Option Bool}{Od KG:Option Addr}{Oe Og Oh Oi Oj:Option Value}{KH:Value}{BU:Array DictEntry}{Ol:Nat}{KI:Array (Option Value)}
  (bU:K.lookup bC=some (excClassObj N8 N9 bC wQ Oa (.ref aN :: jw) KC Oc KA Ob KD Od Oe Og Oh Oi Oj "ValueError.__new__"))
  (bV:K.lookup wQ=some ⟨KH,KG,.dict BU Ol,KI⟩) (bG:(BU.toList.all fun e=>match e.key with | .str _ _=>true | _=>false)=true) (bW:W.nsIn K wQ "__init__" = some none)
  {Sa Sb:Str}{Sd Om:List Value}{Oo Se:Bool}{Sf:List Str}{Oq:Option Bool}{Sh Ot:Option Addr}{Si Sj Sk Sl Sm:Option Value}{Ou:Value}{D3:Array DictEntry}{Sn:Nat}{Ov:Array (Option Value)}
  (pQ:K.lookup qF=some (excClassObj Sa Sb qF zZ Sd (.ref aN :: jw) Oo Sf Om Se Oq Sh Si Sj Sk Sl Sm "ValueError.__new__"))
  (pR:K.lookup zZ=some ⟨Ou,Ot,.dict D3 Sn,Ov⟩) (qJ:(D3.toList.all fun e=>match e.key with | .str _ _=>true | _=>false)=true) (pS:W.nsIn K zZ "__init__" = some none)
  {So Sq:Str}{Ss Ow:List Value}{Ox Su:Bool}{Sv:List Str}{Oz:Option Bool}{Sw OA:Option Addr}{Sx Sy Sz SA SD:Option Value}{OB:Value}{D4:Array DictEntry}{SE:Nat}{OC:Array (Option Value)}
  (pT:K.lookup qG=some (excClassObj So Sq qG z0 Ss (.ref aN :: jw) Ox Sv Ow Su Oz Sw Sx Sy Sz SA SD "ValueError.__new__"))
  (pU:K.lookup z0=some ⟨OB,OA,.dict D4 SE,OC⟩) (qK:(D4.toList.all fun e=>match e.key with | .str _ _=>true | _=>false)=true) (pV:W.nsIn K z0 "__init__" = some none)
  {OD OE:Str}{OG KJ:List Value}{KL OH:Bool}{OI:List Str}{KN:Option Bool}{OJ KO:Option Addr}{OL OM ON OO OP:Option Value}{KP:Value}{BV:Array DictEntry}{OQ:Nat}{KQ:Array (Option Value)}
  (mY:K.lookup fJ=some (excClassObj OD OE fJ wR OG (.ref aN :: jw) KL OI KJ OH KN OJ OL OM ON OO OP "ValueError.__new__"))
  (mZ:K.lookup wR=some ⟨KP,KO,.dict BV OQ,KQ⟩) (oJ:(BV.toList.all fun e=>match e.key with | .str _ _=>true | _=>false)=true) (m5:W.nsIn K wR "__init__" = some (some (.ref eO)))
  {KR:Option Addr}{KS:Data}{KU:Array (Option Value)} (OR:W.keepIn K (.ref fJ)=true) (OS:K.lookup eO=some ⟨.type "function",KR,KS,KU⟩) (KW:W.findIn K (.ref fJ) "__setattr__" = some (some (.builtin "object.__setattr__"))) (KY:W.findIn K (.ref fJ) "__getattribute__" = some (some (.builtin "BaseException.__getattribute__"))) (KZ:W.findIn K (.ref fJ) "__getattr__" = some none) (K0:W.hasDictIn K fJ=true)
  (BW:W.findIn K (.ref fJ) "name" = some none)
  {K1 K2:Str}{K3 Ii:List Value}{Ij K4:Bool}{K5:List Str}{Ik:Option Bool}{K6 Il:Option Addr}{K7 K8 K9 La Lb:Option Value}{Im:Value}{yM:Array DictEntry}{Lc:Nat}{Io:Array (Option Value)}
  (bK:K.lookup aX=some (excClassObj K1 K2 aX tN K3 (.ref aN :: jw) Ij K5 Ii K4 Ik K6 K7 K8 K9 La Lb "ValueError.__new__"))
  (bL:K.lookup tN=some ⟨Im,Il,.dict yM Lc,Io⟩) (bw:(yM.toList.all fun e=>match e.key with | .str _ _=>true | _=>false)=true) (bM:W.nsIn K tN "__init__" = some (some (.ref dJ)))
  {Ip:Option Addr}{Iq:Data}{Ir:Array (Option Value)} (Ld:W.keepIn K (.ref aX)=true) (Le:K.lookup dJ=some ⟨.type "function",Ip,Iq,Ir⟩) (Iu:W.findIn K (.ref aX) "__setattr__" = some (some (.builtin "object.__setattr__"))) (yN:W.findIn K (.ref aX) "__getattribute__" = some (some (.builtin "BaseException.__getattribute__"))) (yO:W.findIn K (.ref aX) "__getattr__" = some none) (yP:W.hasDictIn K aX=true)
  (zO:W.findIn K (.ref aX) "most" = some none)
  {OT OU:Str}{OV Lg:List Value}{Lh OW:Bool}{OX:List Str}{Li:Option Bool}{OY Lj:Option Addr}{OZ O0 O1 O2 O3:Option Value}{Lk:Value}{BX:Array DictEntry}{O4:Nat}{Ll:Array (Option Value)}
  (m6:K.lookup dM=some (excClassObj OT OU dM wU OV (.ref aN :: jw) Lh OX Lg OW Li OY OZ O0 O1 O2 O3 "ValueError.__new__"))
  (m7:K.lookup wU=some ⟨Lk,Lj,.dict BX O4,Ll⟩) (oK:(BX.toList.all fun e=>match e.key with | .str _ _=>true | _=>false)=true) (m8:W.nsIn K wU "__init__" = some (some (.ref eN)))
  {Lm:Option Addr}{Ln:Data}{Lo:Array (Option Value)} (O5:W.keepIn K (.ref dM)=true) (O6:K.lookup eN=some ⟨.type "function",Lm,Ln,Lo⟩) (vg:W.findIn K (.ref dM) "__setattr__" = some (some (.builtin "object.__setattr__"))) (vh:W.findIn K (.ref dM) "__getattribute__" = some (some (.builtin "BaseException.__getattribute__"))) (vj:W.findIn K (.ref dM) "__getattr__" = some none) (vm:W.hasDictIn K dM=true)
  (CV:W.findIn K (.ref dM) "row" = some none)
  (zP:W.findIn K (.ref dM) "place" = some none)
  (BY:W.findIn K (.ref dM) "word" = some none)
  {Fz FA:Str}{FD CY:List Value}{CZ FE:Bool}{FF:List Str}{C0:Option Bool}{FG C1:Option Addr}{FH FI FJ FL FP:Option Value}{C2:Value}{uz:Array DictEntry}{FQ:Nat}{C3:Array (Option Value)}
  (iB:K.lookup bS=some (excClassObj Fz FA bS oG FD (.ref aN :: jw) CZ FF CY FE C0 FG FH FI FJ FL FP "ValueError.__new__"))
  (iC:K.lookup oG=some ⟨C2,C1,.dict uz FQ,C3⟩) (j0:(uz.toList.all fun e=>match e.key with | .str _ _=>true | _=>false)=true) (iD:W.nsIn K oG "__init__" = some (some (.ref cR)))
  {C4:Option Addr}{C5:Data}{C6:Array (Option Value)} (FT:W.keepIn K (.ref bS)=true) (FU:K.lookup cR=some ⟨.type "function",C4,C5,C6⟩) (uA:W.findIn K (.ref bS) "__setattr__" = some (some (.builtin "object.__setattr__"))) (uB:W.findIn K (.ref bS) "__getattribute__" = some (some (.builtin "BaseException.__getattribute__"))) (uC:W.findIn K (.ref bS) "__getattr__" = some none) (uD:W.hasDictIn K bS=true)
  (yh:W.findIn K (.ref bS) "row" = some none)
  (wW:W.findIn K (.ref bS) "cell" = some none)
  (xkn:W.specialIn K (.builtin "object.__class__") "__get__" = some (some (.builtin "getset_descriptor.__get__"))) (xkt:W.takesIn K (.builtin "object.__class__")=some true)
  (Iv:W.findIn K (.ref bf) "__getattribute__" = some (some (.builtin "BaseException.__getattribute__"))) (Iw:W.findIn K (.ref bf) "__getattr__" = some none) (Iz:W.hasDictIn K bf=true) (Lp:W.keepIn K (.ref bf)=true)
  (IA:W.findIn K (.ref bf) "__class__" = some (some (.builtin "object.__class__"))) (IB:W.mroIn K bf (.type "object")=some true) (uW:W.mroIn K bf (.type "ValueError")=some true)
  (jo:W.mroIn K bf (.ref aN)=some true)
  (jJ:W.mroIn K bf (.ref nQ)=some false)
  (je:W.mroIn K bf (.ref bf)=some true)
  (gQ:W.mroIn K bf (.ref gX)=some false)
  (iH:W.mroIn K bf (.ref jj)=some false)
  (jK:W.mroIn K bf (.ref bC)=some false)
  (kF:W.mroIn K bf (.ref qF)=some false)
  (kG:W.mroIn K bf (.ref qG)=some false)
  (jL:W.mroIn K bf (.ref fJ)=some false)
  (jf:W.mroIn K bf (.ref aX)=some false)
  (jM:W.mroIn K bf (.ref dM)=some false)
  (gR:W.mroIn K bf (.ref bS)=some false)
  (IC:W.findIn K (.ref aX) "__class__" = some (some (.builtin "object.__class__"))) (ID:W.mroIn K aX (.type "object")=some true) (qw:W.mroIn K aX (.type "ValueError")=some true)
  (jq:W.mroIn K aX (.ref aN)=some true)
  (gu:W.mroIn K aX (.ref nQ)=some false)
  (fP:W.mroIn K aX (.ref bf)=some false)
  (eo:W.mroIn K aX (.ref gX)=some false)
  (fh:W.mroIn K aX (.ref jj)=some false)
  (gv:W.mroIn K aX (.ref bC)=some false)
  (ig:W.mroIn K aX (.ref qF)=some false)
  (iw:W.mroIn K aX (.ref qG)=some false)
  (gw:W.mroIn K aX (.ref fJ)=some false)
  (fQ:W.mroIn K aX (.ref aX)=some true)
  (gy:W.mroIn K aX (.ref dM)=some false)
  (eB:W.mroIn K aX (.ref bS)=some false)
  (Lq:W.findIn K (.ref bC) "__getattribute__" = some (some (.builtin "BaseException.__getattribute__"))) (Lr:W.findIn K (.ref bC) "__getattr__" = some none) (Ls:W.hasDictIn K bC=true) (O7:W.keepIn K (.ref bC)=true)
  (Lu:W.findIn K (.ref bC) "__class__" = some (some (.builtin "object.__class__"))) (Lv:W.mroIn K bC (.type "object")=some true) (xP:W.mroIn K bC (.type "ValueError")=some true)
  (jN:W.mroIn K bC (.ref aN)=some true)
  (kH:W.mroIn K bC (.ref nQ)=some false)
  (jO:W.mroIn K bC (.ref bf)=some false)
  (iI:W.mroIn K bC (.ref gX)=some false)
  (jg:W.mroIn K bC (.ref jj)=some false)
  (kI:W.mroIn K bC (.ref bC)=some true)
  (lS:W.mroIn K bC (.ref qF)=some false)
  (lT:W.mroIn K bC (.ref qG)=some false)
  (kJ:W.mroIn K bC (.ref fJ)=some false)
  (jP:W.mroIn K bC (.ref aX)=some false)
  (kK:W.mroIn K bC (.ref dM)=some false)
  (iJ:W.mroIn K bC (.ref bS)=some false)
  (FW:W.nsIn K mainGlobals "ValueError" = some none)
  (aeV:W.nsIn K mainGlobals "all" = some none)
  (aeW:W.nsIn K mainGlobals "any" = some none)
  (YY:W.nsIn K mainGlobals "bool" = some none)
  (IE:W.nsIn K mainGlobals "enumerate" = some none)
  (aeX:W.nsIn K mainGlobals "int" = some none)
  (FY:W.nsIn K mainGlobals "isinstance" = some none)
  (aeY:W.nsIn K mainGlobals "len" = some none)
  (YZ:W.nsIn K mainGlobals "list" = some none)
  (z_ord:W.nsIn K mainGlobals "ord" = some none)
  (U7:W.nsIn K mainGlobals "range" = some none)
  (Lw:W.nsIn K mainGlobals "reversed" = some none)
  (aeZ:W.nsIn K mainGlobals "str" = some none)
  (ae0:W.nsIn K mainGlobals "sum" = some none)
  (U8:W.nsIn K mainGlobals "tuple" = some none)
  (ae1:W.nsIn K mainGlobals "zip" = some none)
  {U9:Tok} (Y0:W.nsIn K mainGlobals "LINE" = some (some (.str J4 U9))) (Y3:J4=Str.ofString "\n")
  {FZ:Tok} (IF:W.nsIn K mainGlobals "MOST_ROWS" = some (some (.int 60 FZ)))
  {C7:Tok} (Ga:W.nsIn K mainGlobals "MOST_CELLS" = some (some (.int 20 C7)))
  {qL:Tok} (rz:W.nsIn K mainGlobals "MOST_SIGNS_IN_CELLS" = some (some (.int 400 qL)))
  {BZ:Tok} (C8:W.nsIn K mainGlobals "MOST_TOKENS" = some (some (.int 24 BZ)))
  {B0:Tok} (C9:W.nsIn K mainGlobals "MOST_OTHERS" = some (some (.int 3 B0)))
  {B3:Tok} (Dd:W.nsIn K mainGlobals "MOST_PLACES" = some (some (.int 4000 B3)))
  (Va:W.nsIn K mainGlobals "START" = some (some (.ref E8)))
  {SG:Option Addr}{Vb:Nat}{SH:Array (Option Value)}{SI SJ:Tok} (Vc:K.lookup E8=some ⟨.type "tuple",SG,.seq #[.str ("row":Str) SI,.str ("":Str) SJ] Vb,SH⟩)
  (Y4:W.nsIn K mainGlobals "PART" = some (some (.ref JZ)))
  {Vd:Option Addr}{Y5:Nat}{Ve:Array (Option Value)}{Vf Vg:Tok} (Y6:K.lookup JZ=some ⟨.type "tuple",Vd,.seq #[.str ("part":Str) Vf,.str ("":Str) Vg] Y5,Ve⟩)
  (ae2:W.nsIn K mainGlobals "END" = some (some (.ref R9)))
  {Y7:Option Addr}{ae3:Nat}{Y8:Array (Option Value)}{Y9 Za:Tok} (ae4:K.lookup R9=some ⟨.type "tuple",Y7,.seq #[.str ("end":Str) Y9,.str ("":Str) Za] ae3,Y8⟩) :
  ∃ fd:FuncData,(∀(s:Shared) (v:Value),BindsTo s fd ⟨[v],[]⟩ [("_law_script",v)])∧∀ base:Heap,K.In base→base.Ns mainGlobals mg→aM l.prog w K mg base cy 14 fa fd ["_law_script"] (E3 K):=by
 have e:=hfa.symm.trans (W.mg_of X G a57)
 cases e
 have mo:∀{n:Str}{v:Value},W.nsIn K mainGlobals n=some (some v)→mg n=some v:=fun e=>W.mg_of X G e
 have mz:∀{n:Str},W.nsIn K mainGlobals n=some none→mg n=none:=fun e=>W.mg_none_of X G e
 have F0:=aR (st:=fk) l0 c0 k0
 have b0:=F0.nk (ps:=["sign"])
 have F1:=aR (st:=cI) l1 c1 k1
 have b1:=F1.uK (ps:=["thing", "least", "most"])
 have F2:=LO (st:=bO) l2 c2 k2
 have b2:Binds K (W.fnOf "__init__" "Dialect.__init__" (ff bO) (cT bO) (aA bO) (.ref cz) kV2 dc2 pm2 an2 cd2 ct2) ["self", "parts", "quotes", "frees", "twin", "wide", "thin", "stray"] []:=fun s us hK hl=>match us,hl with | [_,_,_,_,_,_,_,_],_=>BindsTo.of_defaults (T:=cz) rfl (hK _ _ d2) rfl rfl rfl
 have F3:=aR (st:=gG) l3 c3 k3
 have b3:=F3.nk (ps:=["self"])
 have F4:=aR (st:=jx) l4 c4 k4
 have b4:=F4.nk (ps:=["told"])
 have F5:=aR (st:=fW) l5 c5 k5
 have b5:=F5.xq (ps:=["self", "dialect"])
 have F6:=aR (st:=dZ) l6 c6 k6
 have b6:=F6.uK (ps:=["self", "dialect", "tokens"])
 have F7:=aR (st:=dO) l7 c7 k7
 have b7:=F7.nk (ps:=["row"])
 have F8:=aR (st:=cV) l8 c8 k8
 have b8:=F8.nk (ps:=["text"])
 have F9:=aR (st:=o7) l9 c9 k9
 have b9:=F9.nk (ps:=["thing"])
 have F10:=aR (st:=o8) l10 c10 k10
 have b10:=F10.nk (ps:=["thing"])
 have F11:=aR (st:=fm) l11 Xm k11
 have Xn:=F11.nk (ps:=["row"])
 have F12:=aR (st:=ja) l12 c12 k12
 have b12:=F12.nk (ps:=["thing"])
 have F13:=aR (st:=iN) l13 c13 k13
 have b13:=F13.nk (ps:=["thing"])
 have F14:=aR (st:=lB) l14 c14 k14
 have b14:=F14.nk (ps:=["table"])
 have F15:=aR (st:=AF) l15 c15 k15
 have b15:=F15.nk (ps:=["text"])
 have F16:=aR (st:=d7) l16 c16 k16
 have b16:=F16.nk (ps:=["self"])
 have F17:=aR (st:=cg) l17 c17 k17
 have b17:=F17.uK (ps:=["dialect", "table", "others"])
 have F18:=aR (st:=cW) l18 UK k18
 have UL:=F18.Q7 (ps:=["self", "dialect", "table", "others"])
 have F19:=aR (st:=d8) l19 c19 k19
 have b19:=F19.uK (ps:=["self", "row", "cell"])
 have F20:=aR (st:=gk) l20 c20 k20
 have b20:=F20.Q7 (ps:=["self", "row", "place", "word"])
 have F21:=aR (st:=dG) l21 c21 k21
 have b21:=F21.xq (ps:=["self", "most"])
 have F22:=aR (st:=gm) l22 c22 k22
 have b22:=F22.xq (ps:=["self", "name"])
 have F23:=aR (st:=nq) l23 c23 k23
 have b23:=F23.uK (ps:=["thing", "least", "most"])
 have F24:=aR (st:=o9) l24 c24 k24
 have b24:=F24.xq (ps:=["dialect", "state"])
 have F25:=aR (st:=gH) l25 c25 k25
 have b25:=F25.Q7 (ps:=["tokens", "count", "kind", "sign"])
 have F26:=aR (st:=dg) l26 c26 k26
 have b26:=F26.uK (ps:=["dialect", "state", "sign"])
 have F27:=aR (st:=fX) l27 c27 k27
 have b27:=F27.xq (ps:=["dialect", "sign"])
 have F28:=aR (st:=iO) l28 c28 k28
 have b28:=F28.uK (ps:=["dialect", "quote", "sign"])
 have F29:=aR (st:=iP) l29 c29 k29
 have b29:=F29.xq (ps:=["dialect", "sign"])
 have F30:=aR (st:=fY) l30 c30 k30
 have b30:=F30.uK (ps:=["dialect", "quote", "sign"])
 have F31:=aR (st:=jy) l31 c31 k31
 have b31:=F31.uK (ps:=["dialect", "quote", "sign"])
 have F32:=aR (st:=lC) l32 c32 k32
 have b32:=F32.uK (ps:=["self", "state", "sign"])
 have F33:=aR (st:=fq) l33 c33 k33
 have b33:=F33.uK (ps:=["self", "state", "sign"])
 have F34:=aR (st:=cP) l34 c34 k34
 have b34:=F34.uK (ps:=["self", "mark", "sign"])
 have F35:=aR (st:=cF) l35 c35 k35
 have b35:=F35.xq (ps:=["self", "mark"])
 have F36:=aR (st:=gg) l36 c36 k36
 have b36:=F36.nk (ps:=["others"])
 have F37:=aR (st:=fu) l37 c37 k37
 have b37:=F37.xq (ps:=["self", "place"])
 have F38:=aR (st:=dD) l38 c38 k38
 have b38:=F38.xq (ps:=["self", "place"])
 have F39:=LO (st:=lD) l39 c39 k39
 have b39:Binds K (W.fnOf "search" "search" (ff lD) (cT lD) (aA lD) (.ref mU) Yu Yv Yw XT UX Yx) ["first", "searched", "most"] []:=fun s us hK hl=>match us,hl with | [_,_,_],_=>BindsTo.of_defaults (T:=mU) rfl (hK _ _ d39) rfl rfl rfl
 have F40:=aR (st:=pe) l40 c40 k40
 have b40:=F40.xq (ps:=["came", "place"])
 have F41:=aR (st:=iQ) l41 c41 k41
 have b41:=F41.uK (ps:=["table", "others", "most"])
 have F42:=aR (st:=AG) l42 c42 k42
 have b42:=F42.Q7 (ps:=["dialect", "table", "others", "most"])
 have F43:=aR (st:=gI) l43 c43 k43
 have b43:=F43.xq (ps:=["_law_script", "_law_k"])
 have F44:=aR (st:=jz) l44 c44 k44
 have b44:=F44.xq (ps:=["_law_number_here", "_law_salt"])
 have F45:=aR (st:=iR) l45 c45 k45
 have b45:=F45.xq (ps:=["_law_cell", "_law_salt"])
 have F46:=aR (st:=lE) l46 c46 k46
 have b46:=F46.uK (ps:=["_law_number_here", "_law_many", "_law_menu"])
 have F47:=aR (st:=jA) l47 c47 k47
 have b47:=F47.nk (ps:=["_law_way"])
 have F48:=aR (st:=lF) l48 c48 k48
 have b48:=F48.nk (ps:=["_law_cell"])
 have F49:=aR (st:=lG) l49 c49 k49
 have b49:=F49.nk (ps:=["_law_told_here"])
 have F50:=aR (st:=jB) l50 c50 k50
 have b50:=F50.nk (ps:=["_law_cell"])
 have F51:=aR (st:=gh) l51 c51 k51
 have b51:=F51.nk (ps:=["_law_table_here"])
 have F52:=aR (st:=gJ) l52 c52 k52
 have b52:=F52.nk (ps:=["_law_table_here"])
 have F53:=aR (st:=lH) l53 c53 k53
 have b53:=F53.nk (ps:=["_law_cell"])
 have F54:=aR (st:=nt) l54 c54 k54
 have b54:=F54.uK (ps:=["_law_table_here", "_law_many", "_law_most_here"])
 have F55:=aR (st:=gK) l55 c55 k55
 have b55:=F55.nk (ps:=["_law_e"])
 have F56:=aR (st:=jC) l56 c56 k56
 have b56:=F56.Q7 (ps:=["_law_made_here", "_law_table_here", "_law_beside", "_law_most_here"])
 have F57:=aR (st:=vF) l57 c57 k57
 have b57:=F57.nk (ps:=["_law_script"])
 exact⟨W.fnOf "law" "law" (ff vF) (cT vF) (aA vF) .none YS YT YU XU UY YV,fun s v=>.of_eq rfl,fun base _ _=>XS (ay:=fun i=>[jT,fR,dI,gU,mJ,gc,eF,iZ,gA,tH,wM,jU,qB,kR,ou,E6,eG,fS,eH,cR,eN,dJ,eO,qC,tK,jV,fj,i0,kT,kU,i7,mK,lO,fF,cS,cH,kW,gW,fG,wN,tL,kX,E7,jW,mL,kY,ow,mO,oz,oA,mP,kZ,oB,oE,qD,jX,mQ,fa,bT,lV,fH,eS,aN,jY,nQ,wO,bf,tM,gX,oF,jj,qE,bC,wQ,qF,zZ,qG,z0,fJ,wR,aX,tN,dM,wU,bS,oG,E8,JZ,R9,cz,mU].getD i fa) (aO:=fun i=>[FN "is_printable" "is_printable" fk .none kV0 dc0 pm0 an0 cd0 ct0,FN "are_unlike_signs" "are_unlike_signs" cI .none kV1 dc1 pm1 an1 cd1 ct1,FN "__init__" "Dialect.__init__" bO (.ref cz) kV2 dc2 pm2 an2 cd2 ct2,FN "told" "Dialect.told" gG .none kV3 dc3 pm3 an3 cd3 ct3,FN "dialect_of" "dialect_of" jx .none kV4 dc4 pm4 an4 cd4 ct4,FN "__init__" "Turn.__init__" fW .none kV5 dc5 pm5 an5 cd5 ct5,FN "__init__" "Marker.__init__" dZ .none kV6 dc6 pm6 an6 cd6 ct6,FN "tokens_of_row" "tokens_of_row" dO .none kV7 dc7 pm7 an7 cd7 ct7,FN "has_signs_alone" "has_signs_alone" cV .none kV8 dc8 pm8 an8 cd8 ct8,FN "is_cell" "is_cell" o7 .none kV9 dc9 pm9 an9 cd9 ct9,FN "is_row" "is_row" o8 .none abH abI abJ aaU XW abK,FN "signs_in_row" "signs_in_row" fm .none abL abM abN aaV XX abO,FN "is_table" "is_table" ja .none abP abQ abR aaW XY abS,FN "check_table" "check_table" iN .none abT abU abV aaX XZ abW,FN "tokens_of" "tokens_of" lB .none abX abY abZ aaY X0 ab0,FN "once" "once" AF .none ab1 ab2 ab3 aaZ X3 ab4,FN "special" "Dialect.special" d7 .none ab5 ab6 ab7 aa0 X4 ab8,FN "signs_that_count" "signs_that_count" cg .none ab9 acd ace aa1 X5 acf,FN "__init__" "Places.__init__" cW .none acg ach aci aa2 X6 acj,FN "__init__" "NoWriting.__init__" d8 .none ack acm acn aa3 X7 aco,FN "__init__" "Broken.__init__" gk .none acp acq acr aa4 X8 acs,FN "__init__" "TooMany.__init__" dG .none acu acv acw aa5 Yb acy,FN "__init__" "NoName.__init__" gm .none acz acA acB aa6 Yc acC,FN "is_whole" "is_whole" nq .none acD acE acF aa7 Yd acG,FN "is_live" "is_live" o9 .none acH acI acJ aa8 Ye acK,FN "count_behind" "count_behind" gH .none acL acM acN aa9 Yg acO,FN "step_at_beginning" "step_at_beginning" dg .none acP acQ acR abb Yh acS,FN "step_in_plain" "step_in_plain" fX .none acT acU acV abd Yi acW,FN "step_within" "step_within" iO .none acX acY acZ abe Yj ac0,FN "step_behind" "step_behind" iP .none ac1 ac2 ac3 abf Yk ac4,FN "step_in_doubt" "step_in_doubt" fY .none ac5 ac6 ac7 abg Yl ac8,FN "step_freed" "step_freed" jy .none ac9 ada adb abh Ym ade,FN "step" "Turn.step" lC .none adf adg adh abi Yn adi,FN "live_step" "Turn.live_step" fq .none adj adk adl abj Yo adn,FN "mark_behind" "Marker.mark_behind" cP .none ado adp adq abk Yp ads,FN "has_read_all" "Marker.has_read_all" cF .none adt adu adv abl Yq adw,FN "first_place" "first_place" gg .none adx ady adz abm Yr adA,FN "leads" "Places.leads" fu .none adB adC adD abn Ys adE,FN "is_good" "Places.is_good" dD .none adF adG adH abo Yt adI,FN "search" "search" lD (.ref mU) Yu Yv Yw XT UX Yx,FN "text_to" "text_to" pe .none adJ adK adL abp Yy adM,FN "check_asked" "check_asked" iQ .none adN adO adP abq Yz adQ,FN "sole" "sole" AG .none adR adS adT abr YA adU,FN "_law_cell_at" "_law_cell_at" gI .none adV adW adX abt YB adY,FN "_law_mixed" "_law_mixed" jz .none adZ ad0 ad1 abu YC ad2,FN "_law_number" "_law_number" iR .none ad3 ad4 ad5 abv YD ad6,FN "_law_some" "_law_some" lE .none ad7 ad8 ad9 abw YE aea,FN "_law_menus" "_law_menus" jA .none aeb aec aed abx YF aee,FN "_law_told" "_law_told" lF .none aef aeg aeh aby YG aei,FN "_law_made" "_law_made" lG .none aej aek ael abz YH aem,FN "_law_table" "_law_table" jB .none aen aeo aep abA YI aeq,FN "_law_tokens" "_law_tokens" gh .none aer aes aeu abB YJ aev,FN "_law_good" "_law_good" gJ .none aew aex aey abC YK aez,FN "_law_most" "_law_most" lH .none aeA aeB aeC abD YN aeD,FN "_law_due" "_law_due" nt .none aeE aeF aeG abE YO aeH,FN "_law_refusal" "_law_refusal" gK .none aeI aeJ aeK abF YQ aeL,FN "_law_asked" "_law_asked" jC .none aeM aeN aeO abG YR aeP,FN "law" "law" vF .none YS YT YU XU UY YV].getD i (FN "is_printable" "is_printable" fk .none kV0 dc0 pm0 an0 cd0 ct0)) (B6:=fun i=>[J4].getD i "") ⟨F0,b0,mo a0,
  F1,b1,mo a1,
  F2,b2,
  F3,b3,⟨a3,i3,k3⟩,
  F4,b4,mo a4,
  F5,b5,
  F6,b6,
  F7,b7,mo a7,
  F8,b8,mo a8,
  F9,b9,mo a9,
  F10,b10,mo a10,
  F11,Xn,mo a11,
  F12,b12,mo a12,
  F13,b13,mo a13,
  F14,b14,mo R1,
  F15,b15,mo a15,
  F16,b16,⟨a16,i16,k16⟩,
  F17,b17,mo a17,
  F18,UL,
  F19,b19,
  F20,b20,
  F21,b21,
  F22,b22,
  F23,b23,mo a23,
  F24,b24,mo UP,
  F25,b25,mo a25,
  F26,b26,mo a26,
  F27,b27,mo a27,
  F28,b28,mo a28,
  F29,b29,mo a29,
  F30,b30,mo a30,
  F31,b31,mo a31,
  F32,b32,⟨a32,i32,k32⟩,
  F33,b33,⟨a33,i33,k33⟩,
  F34,b34,⟨Xx,i34,k34⟩,
  F35,b35,⟨a35,i35,k35⟩,
  F36,b36,mo a36,
  F37,b37,⟨a37,i37,k37⟩,
  F38,b38,⟨a38,i38,k38⟩,
  F39,b39,mo a39,
  F40,b40,mo a40,
  F41,b41,mo a41,
  F42,b42,mo a42,
  F43,b43,mo a43,
  F44,b44,mo a44,
  F45,b45,mo a45,
  F46,b46,mo a46,
  F47,b47,mo a47,
  F48,b48,mo a48,
  F49,b49,mo a49,
  F50,b50,mo a50,
  F51,b51,mo a51,
  F52,b52,mo a52,
  F53,b53,mo a53,
  F54,b54,mo a54,
  F55,b55,mo a55,
  F56,b56,mo a56,
  F57,b57,mo a57,
  ⟨J6,J7,J8,J9⟩,mo J5,⟨Ka,a2,i2,Kc⟩,
  cB,
  cJ,
  bZ,
  gP,
  fB,
  fD,
  f7,
  ⟨U0,U1,U3,U4⟩,mo UZ,⟨U5,a5,i5,U6⟩,
  bX,
  ⟨NH,NI,NJ,NK⟩,mo NF,⟨NL,a6,i6,NN⟩,
  kQ,
  f9,
  ⟨NO,NP,NQ,NR⟩,mo NG,⟨NS,a18,i18,NT⟩,
  gb,
  fE,
  jI,
  mo lW,⟨⟨_,_,_,_,_,_,_,_,_,_,_,_,_,_,dQ⟩,⟨_,_,_,_,_,dR,gB⟩,dS⟩,
  ⟨zL,zM,zN⟩,
  mo xX,⟨⟨_,_,_,_,_,_,_,_,_,_,_,_,_,_,mV⟩,⟨_,_,_,_,_,mW,oH⟩,mX⟩,
  mo ve,⟨⟨_,_,_,_,_,_,_,_,_,_,_,_,_,_,bH⟩,⟨_,_,_,_,_,bI,bu⟩,bJ⟩,
  mo qH,⟨⟨_,_,_,_,_,_,_,_,_,_,_,_,_,_,iy⟩,⟨_,_,_,_,_,iz,jZ⟩,iA⟩,
  mo sW,⟨⟨_,_,_,_,_,_,_,_,_,_,_,_,_,_,jr⟩,⟨_,_,_,_,_,jt,lg⟩,ju⟩,
  mo xY,⟨⟨_,_,_,_,_,_,_,_,_,_,_,_,_,_,bU⟩,⟨_,_,_,_,_,bV,bG⟩,bW⟩,
  mo BQ,⟨⟨_,_,_,_,_,_,_,_,_,_,_,_,_,_,pQ⟩,⟨_,_,_,_,_,pR,qJ⟩,pS⟩,
  mo BR,⟨⟨_,_,_,_,_,_,_,_,_,_,_,_,_,_,pT⟩,⟨_,_,_,_,_,pU,qK⟩,pV⟩,
  mo xZ,⟨⟨_,_,_,_,_,_,_,_,_,_,_,_,_,_,mY⟩,⟨_,_,_,_,_,mZ,oJ⟩,m5⟩,
  OR,⟨_,OS,rfl⟩,
  ⟨BW,KW,KY,KZ,K0⟩,
  mo vf,⟨⟨_,_,_,_,_,_,_,_,_,_,_,_,_,_,bK⟩,⟨_,_,_,_,_,bL,bw⟩,bM⟩,
  Ld,⟨_,Le,rfl⟩,
  ⟨zO,Iu,yN,yO,yP⟩,
  mo ya,⟨⟨_,_,_,_,_,_,_,_,_,_,_,_,_,_,m6⟩,⟨_,_,_,_,_,m7,oK⟩,m8⟩,
  O5,⟨_,O6,rfl⟩,
  ⟨CV,vg,vh,vj,vm⟩,
  ⟨zP,vg,vh,vj,vm⟩,
  ⟨BY,vg,vh,vj,vm⟩,
  mo qI,⟨⟨_,_,_,_,_,_,_,_,_,_,_,_,_,_,iB⟩,⟨_,_,_,_,_,iC,j0⟩,iD⟩,
  FT,⟨_,FU,rfl⟩,
  ⟨yh,uA,uB,uC,uD⟩,
  ⟨wW,uA,uB,uC,uD⟩,
  ⟨Iv,Iw,Iz,IA,xkn,xkt,IB⟩,
  Lp,
  Q5 uW,
  cL (cA.mk ⟨_,_,_,_,_,_,_,_,_,_,_,_,_,_,bH⟩ ⟨_,_,_,_,_,bI,bu⟩ bJ) (cA.mk ⟨_,_,_,_,_,_,_,_,_,_,_,_,_,_,dQ⟩ ⟨_,_,_,_,_,dR,gB⟩ dS) jo,
  cL (cA.mk ⟨_,_,_,_,_,_,_,_,_,_,_,_,_,_,bH⟩ ⟨_,_,_,_,_,bI,bu⟩ bJ) (cA.mk ⟨_,_,_,_,_,_,_,_,_,_,_,_,_,_,mV⟩ ⟨_,_,_,_,_,mW,oH⟩ mX) jJ,
  cL (cA.mk ⟨_,_,_,_,_,_,_,_,_,_,_,_,_,_,bH⟩ ⟨_,_,_,_,_,bI,bu⟩ bJ) (cA.mk ⟨_,_,_,_,_,_,_,_,_,_,_,_,_,_,bH⟩ ⟨_,_,_,_,_,bI,bu⟩ bJ) je,
  cL (cA.mk ⟨_,_,_,_,_,_,_,_,_,_,_,_,_,_,bH⟩ ⟨_,_,_,_,_,bI,bu⟩ bJ) (cA.mk ⟨_,_,_,_,_,_,_,_,_,_,_,_,_,_,iy⟩ ⟨_,_,_,_,_,iz,jZ⟩ iA) gQ,
  cL (cA.mk ⟨_,_,_,_,_,_,_,_,_,_,_,_,_,_,bH⟩ ⟨_,_,_,_,_,bI,bu⟩ bJ) (cA.mk ⟨_,_,_,_,_,_,_,_,_,_,_,_,_,_,jr⟩ ⟨_,_,_,_,_,jt,lg⟩ ju) iH,
  cL (cA.mk ⟨_,_,_,_,_,_,_,_,_,_,_,_,_,_,bH⟩ ⟨_,_,_,_,_,bI,bu⟩ bJ) (cA.mk ⟨_,_,_,_,_,_,_,_,_,_,_,_,_,_,bU⟩ ⟨_,_,_,_,_,bV,bG⟩ bW) jK,
  cL (cA.mk ⟨_,_,_,_,_,_,_,_,_,_,_,_,_,_,bH⟩ ⟨_,_,_,_,_,bI,bu⟩ bJ) (cA.mk ⟨_,_,_,_,_,_,_,_,_,_,_,_,_,_,pQ⟩ ⟨_,_,_,_,_,pR,qJ⟩ pS) kF,
  cL (cA.mk ⟨_,_,_,_,_,_,_,_,_,_,_,_,_,_,bH⟩ ⟨_,_,_,_,_,bI,bu⟩ bJ) (cA.mk ⟨_,_,_,_,_,_,_,_,_,_,_,_,_,_,pT⟩ ⟨_,_,_,_,_,pU,qK⟩ pV) kG,
  cL (cA.mk ⟨_,_,_,_,_,_,_,_,_,_,_,_,_,_,bH⟩ ⟨_,_,_,_,_,bI,bu⟩ bJ) (cA.mk ⟨_,_,_,_,_,_,_,_,_,_,_,_,_,_,mY⟩ ⟨_,_,_,_,_,mZ,oJ⟩ m5) jL,
  cL (cA.mk ⟨_,_,_,_,_,_,_,_,_,_,_,_,_,_,bH⟩ ⟨_,_,_,_,_,bI,bu⟩ bJ) (cA.mk ⟨_,_,_,_,_,_,_,_,_,_,_,_,_,_,bK⟩ ⟨_,_,_,_,_,bL,bw⟩ bM) jf,
  cL (cA.mk ⟨_,_,_,_,_,_,_,_,_,_,_,_,_,_,bH⟩ ⟨_,_,_,_,_,bI,bu⟩ bJ) (cA.mk ⟨_,_,_,_,_,_,_,_,_,_,_,_,_,_,m6⟩ ⟨_,_,_,_,_,m7,oK⟩ m8) jM,
  cL (cA.mk ⟨_,_,_,_,_,_,_,_,_,_,_,_,_,_,bH⟩ ⟨_,_,_,_,_,bI,bu⟩ bJ) (cA.mk ⟨_,_,_,_,_,_,_,_,_,_,_,_,_,_,iB⟩ ⟨_,_,_,_,_,iC,j0⟩ iD) gR,
  ⟨yN,yO,yP,IC,xkn,xkt,ID⟩,
  Q5 qw,
  cL (cA.mk ⟨_,_,_,_,_,_,_,_,_,_,_,_,_,_,bK⟩ ⟨_,_,_,_,_,bL,bw⟩ bM) (cA.mk ⟨_,_,_,_,_,_,_,_,_,_,_,_,_,_,dQ⟩ ⟨_,_,_,_,_,dR,gB⟩ dS) jq,
  cL (cA.mk ⟨_,_,_,_,_,_,_,_,_,_,_,_,_,_,bK⟩ ⟨_,_,_,_,_,bL,bw⟩ bM) (cA.mk ⟨_,_,_,_,_,_,_,_,_,_,_,_,_,_,mV⟩ ⟨_,_,_,_,_,mW,oH⟩ mX) gu,
  cL (cA.mk ⟨_,_,_,_,_,_,_,_,_,_,_,_,_,_,bK⟩ ⟨_,_,_,_,_,bL,bw⟩ bM) (cA.mk ⟨_,_,_,_,_,_,_,_,_,_,_,_,_,_,bH⟩ ⟨_,_,_,_,_,bI,bu⟩ bJ) fP,
  cL (cA.mk ⟨_,_,_,_,_,_,_,_,_,_,_,_,_,_,bK⟩ ⟨_,_,_,_,_,bL,bw⟩ bM) (cA.mk ⟨_,_,_,_,_,_,_,_,_,_,_,_,_,_,iy⟩ ⟨_,_,_,_,_,iz,jZ⟩ iA) eo,
  cL (cA.mk ⟨_,_,_,_,_,_,_,_,_,_,_,_,_,_,bK⟩ ⟨_,_,_,_,_,bL,bw⟩ bM) (cA.mk ⟨_,_,_,_,_,_,_,_,_,_,_,_,_,_,jr⟩ ⟨_,_,_,_,_,jt,lg⟩ ju) fh,
  cL (cA.mk ⟨_,_,_,_,_,_,_,_,_,_,_,_,_,_,bK⟩ ⟨_,_,_,_,_,bL,bw⟩ bM) (cA.mk ⟨_,_,_,_,_,_,_,_,_,_,_,_,_,_,bU⟩ ⟨_,_,_,_,_,bV,bG⟩ bW) gv,
  cL (cA.mk ⟨_,_,_,_,_,_,_,_,_,_,_,_,_,_,bK⟩ ⟨_,_,_,_,_,bL,bw⟩ bM) (cA.mk ⟨_,_,_,_,_,_,_,_,_,_,_,_,_,_,pQ⟩ ⟨_,_,_,_,_,pR,qJ⟩ pS) ig,
  cL (cA.mk ⟨_,_,_,_,_,_,_,_,_,_,_,_,_,_,bK⟩ ⟨_,_,_,_,_,bL,bw⟩ bM) (cA.mk ⟨_,_,_,_,_,_,_,_,_,_,_,_,_,_,pT⟩ ⟨_,_,_,_,_,pU,qK⟩ pV) iw,
  cL (cA.mk ⟨_,_,_,_,_,_,_,_,_,_,_,_,_,_,bK⟩ ⟨_,_,_,_,_,bL,bw⟩ bM) (cA.mk ⟨_,_,_,_,_,_,_,_,_,_,_,_,_,_,mY⟩ ⟨_,_,_,_,_,mZ,oJ⟩ m5) gw,
  cL (cA.mk ⟨_,_,_,_,_,_,_,_,_,_,_,_,_,_,bK⟩ ⟨_,_,_,_,_,bL,bw⟩ bM) (cA.mk ⟨_,_,_,_,_,_,_,_,_,_,_,_,_,_,bK⟩ ⟨_,_,_,_,_,bL,bw⟩ bM) fQ,
  cL (cA.mk ⟨_,_,_,_,_,_,_,_,_,_,_,_,_,_,bK⟩ ⟨_,_,_,_,_,bL,bw⟩ bM) (cA.mk ⟨_,_,_,_,_,_,_,_,_,_,_,_,_,_,m6⟩ ⟨_,_,_,_,_,m7,oK⟩ m8) gy,
  cL (cA.mk ⟨_,_,_,_,_,_,_,_,_,_,_,_,_,_,bK⟩ ⟨_,_,_,_,_,bL,bw⟩ bM) (cA.mk ⟨_,_,_,_,_,_,_,_,_,_,_,_,_,_,iB⟩ ⟨_,_,_,_,_,iC,j0⟩ iD) eB,
  ⟨Lq,Lr,Ls,Lu,xkn,xkt,Lv⟩,
  O7,
  Q5 xP,
  cL (cA.mk ⟨_,_,_,_,_,_,_,_,_,_,_,_,_,_,bU⟩ ⟨_,_,_,_,_,bV,bG⟩ bW) (cA.mk ⟨_,_,_,_,_,_,_,_,_,_,_,_,_,_,dQ⟩ ⟨_,_,_,_,_,dR,gB⟩ dS) jN,
  cL (cA.mk ⟨_,_,_,_,_,_,_,_,_,_,_,_,_,_,bU⟩ ⟨_,_,_,_,_,bV,bG⟩ bW) (cA.mk ⟨_,_,_,_,_,_,_,_,_,_,_,_,_,_,mV⟩ ⟨_,_,_,_,_,mW,oH⟩ mX) kH,
  cL (cA.mk ⟨_,_,_,_,_,_,_,_,_,_,_,_,_,_,bU⟩ ⟨_,_,_,_,_,bV,bG⟩ bW) (cA.mk ⟨_,_,_,_,_,_,_,_,_,_,_,_,_,_,bH⟩ ⟨_,_,_,_,_,bI,bu⟩ bJ) jO,
  cL (cA.mk ⟨_,_,_,_,_,_,_,_,_,_,_,_,_,_,bU⟩ ⟨_,_,_,_,_,bV,bG⟩ bW) (cA.mk ⟨_,_,_,_,_,_,_,_,_,_,_,_,_,_,iy⟩ ⟨_,_,_,_,_,iz,jZ⟩ iA) iI,
  cL (cA.mk ⟨_,_,_,_,_,_,_,_,_,_,_,_,_,_,bU⟩ ⟨_,_,_,_,_,bV,bG⟩ bW) (cA.mk ⟨_,_,_,_,_,_,_,_,_,_,_,_,_,_,jr⟩ ⟨_,_,_,_,_,jt,lg⟩ ju) jg,
  cL (cA.mk ⟨_,_,_,_,_,_,_,_,_,_,_,_,_,_,bU⟩ ⟨_,_,_,_,_,bV,bG⟩ bW) (cA.mk ⟨_,_,_,_,_,_,_,_,_,_,_,_,_,_,bU⟩ ⟨_,_,_,_,_,bV,bG⟩ bW) kI,
  cL (cA.mk ⟨_,_,_,_,_,_,_,_,_,_,_,_,_,_,bU⟩ ⟨_,_,_,_,_,bV,bG⟩ bW) (cA.mk ⟨_,_,_,_,_,_,_,_,_,_,_,_,_,_,pQ⟩ ⟨_,_,_,_,_,pR,qJ⟩ pS) lS,
  cL (cA.mk ⟨_,_,_,_,_,_,_,_,_,_,_,_,_,_,bU⟩ ⟨_,_,_,_,_,bV,bG⟩ bW) (cA.mk ⟨_,_,_,_,_,_,_,_,_,_,_,_,_,_,pT⟩ ⟨_,_,_,_,_,pU,qK⟩ pV) lT,
  cL (cA.mk ⟨_,_,_,_,_,_,_,_,_,_,_,_,_,_,bU⟩ ⟨_,_,_,_,_,bV,bG⟩ bW) (cA.mk ⟨_,_,_,_,_,_,_,_,_,_,_,_,_,_,mY⟩ ⟨_,_,_,_,_,mZ,oJ⟩ m5) kJ,
  cL (cA.mk ⟨_,_,_,_,_,_,_,_,_,_,_,_,_,_,bU⟩ ⟨_,_,_,_,_,bV,bG⟩ bW) (cA.mk ⟨_,_,_,_,_,_,_,_,_,_,_,_,_,_,bK⟩ ⟨_,_,_,_,_,bL,bw⟩ bM) jP,
  cL (cA.mk ⟨_,_,_,_,_,_,_,_,_,_,_,_,_,_,bU⟩ ⟨_,_,_,_,_,bV,bG⟩ bW) (cA.mk ⟨_,_,_,_,_,_,_,_,_,_,_,_,_,_,m6⟩ ⟨_,_,_,_,_,m7,oK⟩ m8) kK,
  cL (cA.mk ⟨_,_,_,_,_,_,_,_,_,_,_,_,_,_,bU⟩ ⟨_,_,_,_,_,bV,bG⟩ bW) (cA.mk ⟨_,_,_,_,_,_,_,_,_,_,_,_,_,_,iB⟩ ⟨_,_,_,_,_,iC,j0⟩ iD) iJ,
  mz FW,
  mz aeV,
  mz aeW,
  mz YY,
  mz IE,
  mz aeX,
  mz FY,
  mz aeY,
  mz YZ,
  mz z_ord,
  mz U7,
  mz Lw,
  mz aeZ,
  mz ae0,
  mz U8,
  mz ae1,
  ⟨_,mo Y0⟩,Y3,
  ⟨_,mo IF⟩,
  ⟨_,mo Ga⟩,
  ⟨_,mo rz⟩,
  ⟨_,mo C8⟩,
  ⟨_,mo C9⟩,
  ⟨_,mo Dd⟩,
  mo Va,⟨_,_,_,Vc,rfl,rfl,(by show 2≤sizeLine;decide),(.cons ⟨_,rfl⟩ (.cons ⟨_,rfl⟩ .nil))⟩,
  mo Y4,⟨_,_,_,Y6,rfl,rfl,(by show 2≤sizeLine;decide),(.cons ⟨_,rfl⟩ (.cons ⟨_,rfl⟩ .nil))⟩,
  mo ae2,⟨_,_,_,ae4,rfl,rfl,(by show 2≤sizeLine;decide),(.cons ⟨_,rfl⟩ (.cons ⟨_,rfl⟩ .nil))⟩⟩⟩
theorem walk {l:W.OpenLaw}{q:Program}{loose:List Str}{XP:(Str→Option Value)→Heap→Prop}{YP:World→Heap→Prop}{d:DefRec}{K:Params→W.Frag} (hn:l.most=some 63) (hdf:d.params.defaults=[])
  (hY:∀(w:World) (h:Heap),YP w h→(K w.params).In h)
  (F:∀(w:World) (mg:Str→Option Value) (fa:Addr) (h:Heap),(K w.params).In h→h.Ns mainGlobals mg→mg d.name=some (.ref fa) →
   ∃ fd:FuncData,(∀(s:Shared) (u:Value),BindsTo s fd ⟨[u],[]⟩ [("_law_script",u)])∧∀ base:Heap,(K w.params).In base→base.Ns mainGlobals mg→aM l.prog w (K w.params) mg base cy 14 fa fd ["_law_script"] (E3 (K w.params))) :
  W.WalkO q loose XP YP l.row.toRowW d [] (fun f vs=>PySem.call f vs) :=
 L2.Tp (n:=63) (k:=14) (x := "_law_script") (CX:=fun _=>cy) (sp:=fun w=>E3 (K w.params)) hn (by decide) hdf ⟨rfl,by decide,by decide⟩ hY F (fun _ _ a ns hl _ hS=>⟨a,ns,rfl,hS,hl,fun _=>rfl⟩) fun _ _ _ _ _ z=>z
end My
def PySem.W.Fast.tw8700007909121103672:Unit:=()
def PySem.W.Fast.tw18363641822663640826:Unit:=()
def PySem.W.Fast.tw6123082346443812633:Unit:=()
def PySem.W.Fast.tw10703967756281125732:Unit:=()
def PySem.W.Fast.tw9227992876611996512:Unit:=()
def PySem.W.Fast.tw15122266311147671906:Unit:=()
def PySem.W.Fast.tw14153530270439069917:Unit:=()
def PySem.W.Fast.tw16104964797196781333:Unit:=()
def PySem.W.Fast.tw10776835758184290038:Unit:=()
def PySem.W.Fast.tw5423591459742876661:Unit:=()
def PySem.W.Fast.tw8873471799482865147:Unit:=()
def PySem.W.Fast.tw1667122190652186274:Unit:=()
def PySem.W.Fast.tw4422807103162127414:Unit:=()
def PySem.W.Fast.tw17245580653787853593:Unit:=()
def PySem.W.Fast.tw9108046919530958475:Unit:=()
def PySem.W.Fast.tw1159328790219999198:Unit:=()
def PySem.W.Fast.tw11845174414547117200:Unit:=()
def PySem.W.Fast.tw13400348537526055008:Unit:=()
def PySem.W.Fast.tw6253242739538348612:Unit:=()
def PySem.W.Fast.tw8699290760682975754:Unit:=()
def PySem.W.Fast.tw6354102717876595711:Unit:=()
def PySem.W.Fast.tw6103780030148971195:Unit:=()
def PySem.W.Fast.tw13130724470941505775:Unit:=()
def PySem.W.Fast.tw13396168965152321728:Unit:=()
def PySem.W.Fast.tw3291874035720094087:Unit:=()
def PySem.W.Fast.tw15100591588264764831:Unit:=()
def PySem.W.Fast.tw14858448506775168332:Unit:=()
def PySem.W.Fast.tw7337804645758924125:Unit:=()
def PySem.W.Fast.tw18251007731466081256:Unit:=()
def PySem.W.Fast.tw6040176703639461733:Unit:=()
def PySem.W.Fast.tw18067919151469940976:Unit:=()
def PySem.W.Fast.tw5135478568817866548:Unit:=()
def PySem.W.Fast.tw7426634369535003584:Unit:=()
def PySem.W.Fast.tw14796898654459052666:Unit:=()
def PySem.W.Fast.tw13206429127960375870:Unit:=()
def PySem.W.Fast.tw217171866068360033:Unit:=()
def PySem.W.Fast.tw7409227387727849561:Unit:=()
def PySem.W.Fast.tw17622511966230751747:Unit:=()
def PySem.W.Fast.tw3871899534429411482:Unit:=()
def PySem.W.Fast.tw17310536198984516096:Unit:=()
def PySem.W.Fast.tw14936915084085123856:Unit:=()
def PySem.W.Fast.tw5282678034677016180:Unit:=()
def PySem.W.Fast.tw9469218330592930910:Unit:=()
def PySem.W.Fast.tw2003354511387136079:Unit:=()
def PySem.W.Fast.tw2474034533715192982:Unit:=()
def PySem.W.Fast.tw4326987290968365507:Unit:=()
def PySem.W.Fast.tw18254406364277520677:Unit:=()
def PySem.W.Fast.tw12498162952260350624:Unit:=()
def PySem.W.Fast.tw11507472619704329371:Unit:=()
def PySem.W.Fast.tw8367046774189489262:Unit:=()
def PySem.W.Fast.tw18217643068870651905:Unit:=()
def PySem.W.Fast.tw4316280944838812468:Unit:=()
def PySem.W.Fast.tw2360286001683363708:Unit:=()
def PySem.W.Fast.tw4917889158001067115:Unit:=()
def PySem.W.Fast.tw1596980974534456944:Unit:=()
def PySem.W.Fast.tw11705402550153785803:Unit:=()
def PySem.W.Fast.tw4379730114603784591:Unit:=()
def PySem.W.Fast.tw8659483928424208664:Unit:=()
def PySem.W.Fast.tw5784951018682724571:Unit:=()
def PySem.W.Fast.tw17651059457113328881:Unit:=()
def PySem.W.Fast.tw1522233535285190213:Unit:=()
def PySem.W.Fast.tw11602817197271122323:Unit:=()
def PySem.W.Fast.tw12270991121202255498:Unit:=()
def PySem.W.Fast.tw11519369789396481910:Unit:=()
def PySem.W.Fast.tw17635240654820414107:Unit:=()
def PySem.W.Fast.tw7733171254955052244:Unit:=()
def PySem.W.Fast.tw14317425441266654367:Unit:=()
def PySem.W.Fast.tw7867125654402667045:Unit:=()
def PySem.W.Fast.tw8702606718982369324:Unit:=()
def PySem.W.Fast.tw12566372267637415350:Unit:=()
def PySem.W.Fast.tw7354170741805805004:Unit:=()
def PySem.W.Fast.tw14093968209134678842:Unit:=()
def PySem.W.Fast.tw9137108065368014854:Unit:=()
def PySem.W.Fast.tw5201216611098131008:Unit:=()
def PySem.W.Fast.tw13584133409067188397:Unit:=()
def PySem.W.Fast.tw4959279497965016144:Unit:=()
def PySem.W.Fast.tw3951409636879814212:Unit:=()
def PySem.W.Fast.tw12578620421022884413:Unit:=()
def PySem.W.Fast.tw10249425527452224200:Unit:=()
def PySem.W.Fast.tw4888872547625513172:Unit:=()
def PySem.W.Fast.tw7813226737580012310:Unit:=()
def PySem.W.Fast.tw224053402485639787:Unit:=()
def PySem.W.Fast.tw2516622775309280749:Unit:=()
def PySem.W.Fast.tw15792047260020611642:Unit:=()
def PySem.W.Fast.tw14222457277721375722:Unit:=()
def PySem.W.Fast.tw7075348405280434699:Unit:=()
def PySem.W.Fast.tw14021704764997579838:Unit:=()
def PySem.W.Fast.tw9451318703445068876:Unit:=()
def PySem.W.Fast.tw2521392955910308765:Unit:=()
def PySem.W.Fast.tw9588841945008449170:Unit:=()
def PySem.W.Fast.tw16262847951657496700:Unit:=()
def PySem.W.Fast.tw11940077635066269385:Unit:=()
def PySem.W.Fast.tw6687682212032596909:Unit:=()
def PySem.W.Fast.tw12415581876748439905:Unit:=()
def PySem.W.Fast.tw5251993218933966458:Unit:=()
def PySem.W.Fast.tw13763281665248077709:Unit:=()
def PySem.W.Fast.tw14827825277828829845:Unit:=()
def PySem.W.Fast.tw18277942982609208751:Unit:=()
def PySem.W.Fast.tw5162122051777256237:Unit:=()
def PySem.W.Fast.tw5392559045449215842:Unit:=()
def PySem.W.Fast.tw3678163857466766642:Unit:=()
def PySem.W.Fast.tw18196930997706902007:Unit:=()
def PySem.W.Fast.tw17680457519562513659:Unit:=()
def PySem.W.Fast.tw11740694434529172500:Unit:=()
def PySem.W.Fast.tw13552233236140131858:Unit:=()
def PySem.W.Fast.tw16209878074479815696:Unit:=()
def PySem.W.Fast.tw11836554888676927409:Unit:=()
def PySem.W.Fast.tw7377259194361638451:Unit:=()
def PySem.W.Fast.tw16544318613479437140:Unit:=()
def PySem.W.Fast.tw2419432276603040073:Unit:=()
def PySem.W.Fast.tw13340413209411784527:Unit:=()
def PySem.W.Fast.tw3889309581567004191:Unit:=()
def PySem.W.Fast.tw11373404164814720073:Unit:=()
def PySem.W.Fast.tw9998896669788209448:Unit:=()
def PySem.W.Fast.tw3488325362925984489:Unit:=()
def PySem.W.Fast.tw14912527246924272349:Unit:=()
def PySem.W.Fast.tw14820154068446598893:Unit:=()
def PySem.W.Fast.tw8523958571854407170:Unit:=()
def PySem.W.Fast.tw8697287525030049942:Unit:=()
def PySem.W.Fast.tw6727597825355145518:Unit:=()
def PySem.W.Fast.tw10321827556412004767:Unit:=()
def PySem.W.Fast.tw10392621884196244510:Unit:=()
def PySem.W.Fast.tw11563911322411154439:Unit:=()
def PySem.W.Fast.tw1560197060408784526:Unit:=()
def PySem.W.Fast.tw10689277167437679953:Unit:=()
def PySem.W.Fast.tw11413066975774238628:Unit:=()
def PySem.W.Fast.tw7021772016642893295:Unit:=()
def PySem.W.Fast.tw13721861231503291771:Unit:=()
def PySem.W.Fast.tw15627057768884672798:Unit:=()
def PySem.W.Fast.tw16871371891479564372:Unit:=()
def PySem.W.Fast.tw16850746596485657217:Unit:=()
def PySem.W.Fast.tw7535793548859528354:Unit:=()
def PySem.W.Fast.tw8767397009574556108:Unit:=()
def PySem.W.Fast.tw11471815316972101883:Unit:=()
def PySem.W.Fast.tw13924490161213237150:Unit:=()
def PySem.W.Fast.tw15002901020792428356:Unit:=()
def PySem.W.Fast.tw12489668377381954518:Unit:=()
def PySem.W.Fast.tw13388264534692640966:Unit:=()
def PySem.W.Fast.tw10476383085943341443:Unit:=()
def PySem.W.Fast.tw15344860068210484665:Unit:=()
def PySem.W.Fast.tw3662901298110604489:Unit:=()
def PySem.W.Fast.tw8842375196565660062:Unit:=()
def PySem.W.Fast.tw16327515162721990231:Unit:=()
def PySem.W.Fast.tw6292501804428078441:Unit:=()
def PySem.W.Fast.tw7815030260397570106:Unit:=()
def PySem.W.Fast.tw1472064096669812251:Unit:=()
def PySem.W.Fast.tw1457347041395492190:Unit:=()
def PySem.W.Fast.tw7690599255534274441:Unit:=()
def PySem.W.Fast.tw5303996659579355397:Unit:=()
def PySem.W.Fast.tw1904691788946091053:Unit:=()
def PySem.W.Fast.tw7659167339675430572:Unit:=()
def PySem.W.Fast.tw6681865173026456784:Unit:=()
def PySem.W.Fast.tw6554753366887346899:Unit:=()
def PySem.W.Fast.tw10865001199239375680:Unit:=()
def PySem.W.Fast.tw10808683410362845087:Unit:=()
def PySem.W.Fast.tw16625231368526106312:Unit:=()
def PySem.W.Fast.tw16792039125649382004:Unit:=()
def PySem.W.Fast.tw1678473206836136844:Unit:=()
def PySem.W.Fast.tw14060653303624385638:Unit:=()
def PySem.W.Fast.tw6557862161289882812:Unit:=()
def PySem.W.Fast.tw13416032487037218783:Unit:=()
def PySem.W.Fast.tw239698819401809856:Unit:=()
def PySem.W.Fast.tw14866997397640776378:Unit:=()
def PySem.W.Fast.tw8002420055347113946:Unit:=()
def PySem.W.Fast.tw3169947948987205743:Unit:=()
def PySem.W.Fast.tw8244115455509317185:Unit:=()
def PySem.W.Fast.tw5545743052902817504:Unit:=()
def PySem.W.Fast.tw15615396953389677325:Unit:=()
def PySem.W.Fast.tw1163856057864885113:Unit:=()
open PySem PySem.W PyProof.Rows
set_option maxRecDepth 100000 in
set_option maxHeartbeats 0 in
theorem PySem.Challenge.cw_dialecthall_k71_sole_refused_holds : PySem.Challenge.rw_dialecthall_k71_sole_refused.Holds := by
 w_on;o_law;k_head;(case hw=>w_witness2)
 k_fill
 refine My.walk (l:=PySem.Challenge.rw_dialecthall_k71_sole_refused) rfl rfl (fun w h Y=>W.kIn_of Y) ?F
 case F =>
  intro w mg fa h KX G hmg
  refine' My.all_mk KX G hmg ?_ ?_ ?_ ?_ ?lW ?xX ?ve ?qH ?sW ?xY ?BQ ?BR ?xZ ?vf ?ya ?qI ?_ ?_ ?_ ?_ ?_ ?_ ?_ ?_ ?_ ?_ ?_ ?_ ?_ ?_ ?_ ?_ ?_ ?_ ?_ ?_ ?_ ?_ ?_ ?_ ?_ ?_ ?_ ?_ ?_ ?_ ?_ ?_ ?_ ?_ ?_ ?_ ?_ ?_ ?_ ?_ ?_ ?_ ?_ ?_ ?_ ?_ ?_ ?_ ?_ ?_ ?_ ?_ ?_ ?_ ?_ ?_ ?_ ?_ ?_ ?_ ?_ ?_ ?_ ?_ ?_ ?_ ?_ ?_ ?_ ?_ ?_ ?_ ?_ ?_ ?_ ?_ ?_ ?_ ?_ ?_ ?_ ?_ ?_ ?_ ?_ ?_ ?_ ?_ ?_ ?_ ?_ ?_ ?_ ?_ ?_ ?_ ?_ ?_ ?_ ?_ ?_ ?_ ?_ ?_ ?_ ?_ ?_ ?_ ?_ ?_ ?_ ?_ ?_ ?_ ?_ ?_ ?_ ?_ ?_ ?_ ?_ ?_ ?_ ?_ ?_ ?_ ?_ ?_ ?_ ?_ ?_ ?_ ?_ ?_ ?_ ?_ ?_ ?_ ?_ ?_ ?_ ?_ ?_ ?_ ?_ ?_ ?_ ?_ ?_ ?_ ?_ ?_ ?_ ?_ ?_ ?_ ?_ ?_ ?_ ?_ ?_ ?_ ?_ ?_ ?_ ?_ ?_ ?_ ?_ ?_ ?_ ?_ ?_ ?_ ?_ ?_ ?_ ?_ ?_ ?_ ?_ ?_ ?_ ?_ ?_ ?_ ?_ ?_ ?_ ?_ ?_ ?_ ?_ ?_ ?_ ?_ ?_ ?_ ?_ ?_ ?_ ?_ ?_ ?_ ?_ ?_ ?_ ?_ ?_ ?_ ?_ ?_ ?_ ?_ ?_ ?_ ?_ ?_ ?_ ?_ ?_ ?_ ?_ ?_ ?_ ?_ ?_ ?_ ?_ ?_ ?_ ?_ ?_ ?_ ?_ ?_ ?_ ?_ ?_ ?_ ?_ ?_ ?_ ?_ ?_ ?_ ?_ ?_ ?_ ?_ ?_ ?_ ?_ ?_ ?_ ?_ ?_ ?_ ?_ ?_ ?_ ?_ ?_ ?_ ?_ ?_ ?_ ?_ ?_ ?_ ?_ ?_ ?_ ?_ ?_ ?_ ?_ ?_ ?_ ?dQ ?dR ?_ ?dS ?_ ?_ ?_ ?mV ?mW ?_ ?mX ?bH ?bI ?_ ?bJ ?iy ?iz ?_ ?iA ?jr ?jt ?_ ?ju ?bU ?bV ?_ ?bW ?pQ ?pR ?_ ?pS ?pT ?pU ?_ ?pV ?mY ?mZ ?_ ?m5 ?_ ?_ ?_ ?_ ?_ ?_ ?_ ?bK ?bL ?_ ?bM ?_ ?_ ?_ ?_ ?_ ?_ ?_ ?m6 ?m7 ?_ ?m8 ?_ ?_ ?_ ?_ ?_ ?_ ?_ ?_ ?_ ?iB ?iC ?_ ?iD ?_ ?_ ?_ ?_ ?_ ?_ ?_ ?_ ?_ ?_ ?_ ?_ ?_ ?_ ?_ ?_ ?_ ?_ ?_ ?_ ?_ ?_ ?_ ?_ ?_ ?_ ?_ ?_ ?_ ?_ ?_ ?_ ?_ ?_ ?_ ?_ ?_ ?_ ?_ ?_ ?_ ?_ ?_ ?_ ?_ ?_ ?_ ?_ ?_ ?_ ?_ ?_ ?_ ?_ ?_ ?_ ?_ ?_ ?_ ?_ ?_ ?_ ?_ ?_ ?_ ?_ ?_ ?_ ?_ ?_ ?_ ?_ ?_ ?_ ?_ ?_ ?_ ?_ ?_ ?_ ?_ ?_ ?_ ?_ ?_ ?_ ?_ ?_ ?_ ?_ ?_ ?_ ?_
  (case lW=>k_is)
  (case xX=>k_is)
  (case ve=>k_is)
  (case qH=>k_is)
  (case sW=>k_is)
  (case xY=>k_is)
  (case BQ=>k_is)
  (case BR=>k_is)
  (case xZ=>k_is)
  (case vf=>k_is)
  (case ya=>k_is)
  (case qI=>k_is)
  (case dQ=>k_is)
  (case dR=>k_is)
  (case dS=>k_is)
  (case mV=>k_is)
  (case mW=>k_is)
  (case mX=>k_is)
  (case bH=>k_is)
  (case bI=>k_is)
  (case bJ=>k_is)
  (case iy=>k_is)
  (case iz=>k_is)
  (case iA=>k_is)
  (case jr=>k_is)
  (case jt=>k_is)
  (case ju=>k_is)
  (case bU=>k_is)
  (case bV=>k_is)
  (case bW=>k_is)
  (case pQ=>k_is)
  (case pR=>k_is)
  (case pS=>k_is)
  (case pT=>k_is)
  (case pU=>k_is)
  (case pV=>k_is)
  (case mY=>k_is)
  (case mZ=>k_is)
  (case m5=>k_is)
  (case bK=>k_is)
  (case bL=>k_is)
  (case bM=>k_is)
  (case m6=>k_is)
  (case m7=>k_is)
  (case m8=>k_is)
  (case iB=>k_is)
  (case iC=>k_is)
  (case iD=>k_is)
  all_goals try first | k_is | rfl
