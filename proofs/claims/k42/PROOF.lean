import PyProof.Rows.All
import Wide.All
import OpenK.AllK
import Wide.FinOn
import Lean
import PyProof.EqAt
import PyProof.EqKinds
import PyProof.TupleCall
import PyProof.JoinWalk
import PySem.Challenge.RW_dialecthall_k42_no_tables
set_option Elab.async false
set_option linter.all false
set_option maxRecDepth 100000
namespace L2
open PySem PySem.Spec PyProof.Rows
abbrev Key:=Sum Int Str
def tw:Key→Value→Bool
 | .inl k,v=>Value.isInt k v
 | .inr x,v=>Value.isStrOf x v
def PN (w:World):Key→Int
 | .inl k=>hashInt k
 | .inr x=>hashStr w x
theorem cz:∀{k:Key}{v:Value},tw k v=true→(∃ i t,k=Sum.inl i∧v=Value.int i t)∨(∃ x t,k=Sum.inr x∧v=Value.str x t)
 | .inl i,v,h=>by
  obtain⟨t,e⟩:=Value.isInt_shape (k:=i) (v:=v) h
  exact .inl ⟨i,t,rfl,e⟩
 | .inr x,v,h=>by
  obtain⟨t,e⟩:=Value.isStrOf_shape (x:=x) (v:=v) h
  exact .inr ⟨x,t,rfl,e⟩
theorem EC (i:Int) (t:Tok):tw (.inl i) (.int i t)=true:=by simp[tw,Value.isInt]
theorem ED (x:Str) (t:Tok):tw (.inr x) (.str x t)=true:=by simp[tw,Value.isStrOf]
theorem GX (a b:Int):decide ((Sum.inl a:Key)=Sum.inl b)=(a == b):=by
 by_cases e:a=b
 ·subst e;simp
 ·have h:¬(Sum.inl a:Key)=Sum.inl b:=fun q=>e (Sum.inl.inj q)
  rw[decide_eq_false h]
  exact(beq_eq_false_iff_ne.mpr e).symm
theorem GY (a b:Str):decide ((Sum.inr a:Key)=Sum.inr b)=decide (a=b):=by
 by_cases e:a=b
 ·subst e;simp
 ·have h:¬(Sum.inr a:Key)=Sum.inr b:=fun q=>e (Sum.inr.inj q)
  rw[decide_eq_false h,decide_eq_false e]
theorem GZ (a:Int) (b:Str):decide ((Sum.inl a:Key)=Sum.inr b)=false:=decide_eq_false (fun q=>nomatch q)
theorem G0 (a:Str) (b:Int):decide ((Sum.inr a:Key)=Sum.inl b)=false:=decide_eq_false (fun q=>nomatch q)
def ji (prog:Program) (w:World):PySem.KeyKind prog w Key where
 is:=tw
 hash:=PN w
 inj:=fun v a b ha hb=>by
  rcases cz ha with ⟨i,t,rfl,rfl⟩ | ⟨x,t,rfl,rfl⟩
  ·rcases cz hb with ⟨j,u,rfl,e⟩ | ⟨y,u,rfl,e⟩
   ·injection e with e1 _;rw[e1]
   ·exact nomatch e
  ·rcases cz hb with ⟨j,u,rfl,e⟩ | ⟨y,u,rfl,e⟩
   ·exact nomatch e
   ·injection e with e1 _;rw[e1]
 byValue:=fun k v h=>by
  rcases cz h with ⟨i,t,rfl,rfl⟩ | ⟨x,t,rfl,rfl⟩ <;> rfl
 pyHash:=fun hv h=>by
  rcases cz hv with ⟨i,t,rfl,rfl⟩ | ⟨x,t,rfl,rfl⟩
  ·exact wpAny_pyHash_int h
  ·exact wpAny_pyHash_str h
 eqBool:=fun hu hv h=>by
  rcases cz hu with ⟨i,t,rfl,rfl⟩ | ⟨x,t,rfl,rfl⟩
  ·rcases cz hv with ⟨j,u,rfl,rfl⟩ | ⟨y,u,rfl,rfl⟩
   ·rw[GX] at h;exact wpAny_eqBool_int h
   ·rw[GZ] at h;exact SeqAt.EqAt.int_str i t y u _ _ _ _ h
  ·rcases cz hv with ⟨j,u,rfl,rfl⟩ | ⟨y,u,rfl,rfl⟩
   ·rw[G0] at h;exact SeqAt.EqAt.str_int x t j u _ _ _ _ h
   ·rw[GY] at h;exact wpAny_eqBool_str h
 «strs» := fun k x t v h=>by
  rcases cz h with ⟨i,u,rfl,e⟩ | ⟨y,u,rfl,e⟩
  ·exact nomatch e
  ·injection e with e1 _
   subst e1
   cases v <;> rfl
theorem AX (prog:Program) (w:World) (i:Int) (t:Tok):(ji prog w).is (.inl i) (.int i t)=true:=EC i t
theorem AY (prog:Program) (w:World) (x:Str) (t:Tok):(ji prog w).is (.inr x) (.str x t)=true:=ED x t
inductive V where
 | non | bl (b:Bool) | int (i:Int) | str (x:Str) | GQ (b:Array UInt8) | AV (b:UInt64) | ref (a:Addr) | ty (n:String)
 deriving DecidableEq
def RelV:V→Value→Prop
 | .non,u=>u=Value.none
 | .bl b,u=>u=Value.bool b
 | .int i,u=>∃ t,u=Value.int i t
 | .str x,u=>∃ t,u=Value.str x t
 | .GQ b,u=>∃ t,u=Value.bytes b t
 | .AV b,u=>∃ t,u=Value.float b t
 | .ref a,u=>u=Value.ref a
 | .ty n,u=>u=Value.type n
abbrev Vals:List V→List Value→Prop:=Paired RelV
theorem Vals.length {xs:List V}{us:List Value} (r:Vals xs us):xs.length=us.length:=Paired.length r
theorem Vals.get:∀{xs:List V}{us:List Value}{i:Nat}{x:V},Vals xs us→xs[i]? = some x→∃ u,us[i]? = some u∧RelV x u
 | _,_,_,_,.nil,e=>by simp at e
 | _,_,0,_,.cons r _,e=>by simp at e;subst e;exact⟨_,rfl,r⟩
 | _,_,i+1,x,.cons _ t,e=>by
  obtain⟨u,h1,h2⟩:=Vals.get (i:=i) (x:=x) t (by simpa using e)
  exact⟨u,by simpa using h1,h2⟩
theorem Vals.append:∀{xs ys:List V}{us ws:List Value},Vals xs us→Vals ys ws→Vals (xs++ys) (us++ws)
 | _,_,_,_,.nil,s=>s
 | _,_,_,_,.cons r t,s=>.cons r (Vals.append t s)
theorem Vals.take:∀{xs:List V}{us:List Value} (n:Nat),Vals xs us→Vals (xs.take n) (us.take n)
 | _,_,0,_=>.nil
 | _,_,_+1,.nil=>.nil
 | _,_,n+1,.cons r t=>.cons r (Vals.take n t)
theorem Vals.drop:∀{xs:List V}{us:List Value} (n:Nat),Vals xs us→Vals (xs.drop n) (us.drop n)
 | _,_,0,r=>r
 | _,_,_+1,.nil=>.nil
 | _,_,n+1,.cons _ t=>Vals.drop n t
def mZ:Option V→Option Value→Prop
 | some v,some u=>RelV v u
 | none,none=>True
 | _,_=>False
def KV {κ:Type}:List (κ×V)→List (κ×Value)→Prop:=Paired fun (p:κ×V) (q:κ×Value)=>p.1=q.1∧RelV p.2 q.2
def kV:Key→V
 | .inl i=>.int i
 | .inr x=>.str x
inductive HO where
 | lst (xs:List V)
 | tup (xs:List V)
 | dK (kvs:List (Key×V)) | dT (kvs:List (List Key×V))
 | set (S:Int→Bool) (n:Nat)
 | ins (C dx:Addr) (fs:List (Str×V))
 | own (x:Addr)
 | xd (fs:List (Str×V))
 | met (f x:Addr)
 | VT (lo hi:Int)
 | Cj (o:Obj) (u:HO)
 | Lv (ps:Array Value)
 | ext (φ:Heap→Prop)
abbrev Hp:=Addr→Option HO
def upd (H:Hp) (a:Addr) (o:HO):Hp:=fun b=>if b=a then some o else H b
theorem ah {H:Hp}{a:Addr}{o:HO}:upd H a o a=some o:=by unfold upd;rw[if_pos rfl]
theorem aB {H:Hp}{a b:Addr}{o:HO} (h:b≠a):upd H a o b=H b:=by unfold upd;rw[if_neg h]
theorem kT {H:Hp}{a b:Addr}{o u:HO} (h:H a=some o) (h':H b=some u) (d:o≠u):a≠b:=by
 intro e;subst e;rw[h] at h';exact d (Option.some.inj h')
theorem aM {H:Hp}{a b:Addr}{o:HO} (h:H a=some o) (h':H b=none):a≠b:=by
 intro e;subst e;rw[h] at h';cases h'
section
variable (P:Program) (w:World)
def cA (H:Hp) (h:Heap) (a:Addr):HO→Prop
 | .lst xs=>xs.length≤sizeLine∧∃(its:List Value) (n:Nat),Vals xs its∧h.get? a=some { cls:=.type "list",data:=.seq its.toArray n }
 | .tup xs=>xs.length≤sizeLine∧∃ its:List Value,Vals xs its∧IsTup h a its.toArray
 | .dK kvs=>kvs.length≤sizeLine∧(a == sysModules)=false∧∃ vs,KV kvs vs∧h.DictOf (ji P w) a vs
 | .dT kvs=>kvs.length≤sizeLine∧(a == sysModules)=false∧∃ xs:List (List Key×Addr×Value),
   Paired (fun (p:List Key×V) (q:List Key×Addr×Value)=>p.1=q.1∧H q.2.1=some (.tup (p.1.map kV))∧RelV p.2 q.2.2) kvs xs ∧
   ∃ o es ep,h.get? a=some o∧o.ExactDict∧o.data=.dict es ep∧es.toList=xs.map (entryOfKey (tupleKind (ji P w)))∧(xs.map (·.1)).Nodup
 | .set S n=>h.SetOf (intKind P w) a S n
 | .ins C dx fs=>H dx=some (.own a)∧fs.length≤1000∧dx≠a∧h.get? a=some (W.instObj C dx) ∧
   ∃ mA,h.Ns1 dx mA∧(∀ f,mZ (fs.lookup f) (mA f))∧PySem.Within mA (fs.map (·.1))
 | .own _=>∃ o,h.get? a=some o
 | .xd fs=>∃ mA,h.Ns1 a mA∧∀ f,mZ (fs.lookup f) (mA f)
 | .VT lo hi=>∃ t u v,h.get? a=some { cls:=.type "range",data:=.fields #[.int lo t,.int hi u,.int 1 v] }
 | .Cj o u=>h.get? a=some o∧cA H h a u
 | .Lv ps=>h.get? a=some { cls:=.none,data:=.fields ps }
 | .met f x=>h.get? a=some (W.methodObj (.ref f) (.ref x))
 | .ext φ=>φ h∧(∃ o,h.get? a=some o)∧∀ h1 h2:Heap,φ h1→(∀ o,h1.get? a=some o→h2.get? a=some o)→φ h2
def pZ (H:Hp) (h:Heap):Prop:=∀ a o,H a=some o→cA P w H h a o
end
section
variable {P:Program}{w:World}{H H':Hp}{h h':Heap}{a:Addr}{o:HO}
theorem cA.lt (x:cA P w H h a o):a < h.objs.size:=by
 cases o with
 | lst xs=>obtain⟨_,_,_,_,e⟩:=x;exact Heap.lt_size e
 | tup xs=>obtain⟨_,_,_,p⟩:=x;exact p.lt
 | dK kvs=>obtain⟨_,_,_,_,o,_,_,e,_⟩:=x;exact Heap.lt_size e
 | dT kvs=>obtain⟨_,_,_,_,o,_,_,e,_⟩:=x;exact Heap.lt_size e
 | set S n=>obtain⟨o,_,_,_,e,_⟩:=x;exact Heap.lt_size e
 | ins C dx fs=>obtain⟨_,_,_,e,_⟩:=x;exact Heap.lt_size e
 | own y=>obtain⟨_,e⟩:=x;exact Heap.lt_size e
 | xd fs=>obtain⟨_,⟨_,_,_,e,_⟩,_⟩:=x;exact Heap.lt_size e
 | VT lo hi=>obtain⟨_,_,_,e⟩:=x;exact Heap.lt_size e
 | Cj ob u=>obtain⟨e,_⟩:=x;exact Heap.lt_size e
 | Lv ps=>exact Heap.lt_size (show h.get? a=some _ from x)
 | met f y=>exact Heap.lt_size (show h.get? a=some _ from x)
 | ext φ=>obtain⟨_,⟨_,e⟩,_⟩:=x;exact Heap.lt_size e
theorem Paired.EE {α β:Type}{F G:α→β→Prop}:∀{l₁:List α}{l₂:List β},Paired F l₁ l₂→(∀ a b,F a b→G a b)→Paired G l₁ l₂
 | _,_,.nil,_=>.nil
 | _,_,.cons r t,f=>.cons (f _ _ r) (Paired.EE t f)
theorem Paired.imp' {α β:Type}{F G:α→β→Prop} (f:∀ a b,F a b→G a b) {l₁:List α}{l₂:List β} (r:Paired F l₁ l₂):Paired G l₁ l₂:=Paired.EE r f
theorem cA.stay (x:cA P w H h a o) (k:∀ b u,(b=a∨H b=some (.own a))→h.get? b=some u→h'.get? b=some u)
  (ho:∀ b,H b=some (.own a)→H' b=some (.own a)) (ht:∀ b xs,H b=some (.tup xs)→H' b=some (.tup xs)):cA P w H' h' a o:=by
 induction o with
 | lst xs=>obtain⟨z,its,n,r,e⟩:=x;exact⟨z,its,n,r,k _ _ (.inl rfl) e⟩
 | tup xs=>obtain⟨z,its,r,ob,e,c⟩:=x;exact⟨z,its,r,ob,k _ _ (.inl rfl) e,c⟩
 | dK kvs=>obtain⟨z,y,vs,r,ob,es,ep,e,c⟩:=x;exact⟨z,y,vs,r,ob,es,ep,k _ _ (.inl rfl) e,c⟩
 | dT kvs =>
  obtain⟨z,y,xs,r,ob,es,ep,e,c⟩:=x
  exact⟨z,y,xs,Paired.EE r fun p q z=>⟨z.1,ht _ _ z.2.1,z.2.2⟩,ob,es,ep,k _ _ (.inl rfl) e,c⟩
 | set S n=>obtain⟨ob,es,ep,t,e,c⟩:=x;exact⟨ob,es,ep,t,k _ _ (.inl rfl) e,c⟩
 | ins C dx fs =>
  obtain⟨d,z,ne,e,mA,⟨od,es,ep,e2,c⟩,r⟩:=x
  exact⟨ho _ d,z,ne,k _ _ (.inl rfl) e,mA,⟨od,es,ep,k _ _ (.inr d) e2,c⟩,r⟩
 | own y=>obtain⟨ob,e⟩:=x;exact⟨ob,k _ _ (.inl rfl) e⟩
 | xd fs=>obtain⟨mA,⟨od,es,ep,e,c⟩,r⟩:=x;exact⟨mA,⟨od,es,ep,k _ _ (.inl rfl) e,c⟩,r⟩
 | VT lo hi=>obtain⟨t,u,v,e⟩:=x;exact⟨t,u,v,k _ _ (.inl rfl) e⟩
 | Cj ob u ih=>obtain⟨e,q⟩:=x;exact⟨k _ _ (.inl rfl) e,ih q⟩
 | Lv ps =>
  have e:h.get? a=some { cls:=.none,data:=.fields ps }:=x
  show h'.get? a=some { cls:=.none,data:=.fields ps }
  exact k a _ (.inl rfl) e
 | met f y =>
  have e:h.get? a=some (W.methodObj (.ref f) (.ref y)):=x
  show h'.get? a=some (W.methodObj (.ref f) (.ref y))
  exact k a _ (.inl rfl) e
 | ext φ=>obtain⟨p,⟨o,e⟩,st⟩:=x;exact⟨st _ _ p fun o q=>k _ _ (.inl rfl) q,⟨o,k _ _ (.inl rfl) e⟩,st⟩
theorem pZ.lt (x:pZ P w H h) (e:H a=some o):a < h.objs.size:=(x a o e).lt
theorem pZ.fresh (x:pZ P w H h) (e:h.objs.size≤a):H a=none:=by
 cases q:H a with
 | none=>rfl
 | some u=>exact absurd (Nat.lt_of_lt_of_le (x.lt q) e) (Nat.lt_irrefl _)
theorem pZ.kept (x:pZ P w H h) (k:∀ b u,h.get? b=some u→h'.get? b=some u):pZ P w H h':=fun a o e =>
 (x a o e).stay (fun b u _ q=>k b u q) (fun _ q=>q) fun _ _ q=>q
theorem pZ.laid (x:pZ P w H h) (k:∀ b u,h.get? b=some u→h'.get? b=some u) (hp:h.objs.size≤a) (new:cA P w (upd H a o) h' a o):pZ P w (upd H a o) h':=fun b u e=>by
 have hn:=x.fresh hp
 by_cases hb:b=a
 ·subst hb;rw[ah] at e;cases e;exact new
 ·rw[aB hb] at e
  exact(x b u e).stay (fun c v _ q=>k c v q) (fun c q=>by rw[aB (aM q hn)];exact q) fun c xs q=>by rw[aB (aM q hn)];exact q
end
def Rd (H:Hp) (a:Addr) (u:HO):Prop:=H a=some u∨∃ o,H a=some (.Cj o u)
theorem Rd.ok {P:Program}{w:World}{H:Hp}{h:Heap}{a:Addr}{u:HO} (r:Rd H a u) (x:pZ P w H h):cA P w H h a u:=by
 rcases r with r | ⟨o,r⟩
 ·exact x a u r
 ·obtain⟨_,q⟩:=x a _ r
  exact q
def VU:Option HO→Prop
 | some (.lst _)=>True
 | some (.dK _)=>True
 | some (.dT _)=>True
 | some (.set _ _)=>True
 | some (.ins _ _ _)=>True
 | some (.ext _)=>True
 | _=>False
section
variable {P:Program}{w:World}{H:Hp}{h h':Heap}{x e:Addr}{o':HO}
theorem pZ.write (ok:pZ P w H h) (mu:VU (H x)) (he:e=x∨H e=some (.own x)) (k:∀ b u,b≠e→h.get? b=some u→h'.get? b=some u) (Lw:∃ u,h'.get? e=some u)
  (new:cA P w (upd H x o') h' x o'):pZ P w (upd H x o') h':=fun b u q=>by
 have PR:∀ c y,H c=some (.own y)→c≠x:=fun c y r z=>by subst z;rw[r] at mu;exact mu
 have Wm:∀ c xs,H c=some (.tup xs)→c≠x:=fun c xs r z=>by subst z;rw[r] at mu;exact mu
 by_cases hb:b=x
 ·subst hb;rw[ah] at q;cases q;exact new
 ·rw[aB hb] at q
  by_cases Ml:b=e
  ·have q':H b=some (.own x):=by
    rcases he with z | z
    ·exact absurd (Ml.trans z) hb
    ·rw[Ml];exact z
   rw[q] at q';cases q'
   obtain⟨v,hv⟩:=Lw
   exact⟨v,by rw[Ml];exact hv⟩
  ·refine(ok b u q).stay (fun c v hc r=>k c v ?_ r) (fun c r=>by rw[aB (PR c b r)];exact r) fun c xs r=>by rw[aB (Wm c xs r)];exact r
   rcases hc with rfl | hc
   ·exact Ml
   ·rintro rfl
    rcases he with z | z
    ·exact PR c b hc z
    ·rw[hc] at z;cases z;exact hb rfl
end
structure Un (fs ex:List Addr) (H H':Hp) (h h':Heap):Prop where
 keep:∀ b o,h.get? b=some o→H b=none→b∉fs→b∉ex→h'.get? b=some o
 slot:∀ b o,h.get? b=some o→H b=none→b∈fs→b∉ex→∃ sl,h'.get? b=some { o with slots:=sl }
 free:∀ b o,h.get? b=some o→H b=none→b∉ex→H' b=none
 there:∀ b o,h.get? b=some o→b∉ex→∃ o',h'.get? b=some o'
 tups:∀ b xs,H b=some (.tup xs)→H' b=some (.tup xs)
 tV:∀ b o u,H b=some (.Cj o u)→H' b=some (.Cj o u)
 vp:∀ b ps,H b=some (.Lv ps)→∃ more,H' b=some (.Lv (ps++more))
section
variable {fs fs' ex ex':List Addr}{H H1 H2:Hp}{h h1 h2 h':Heap}{a x e:Addr}{o:HO}
theorem Un.any (u:Un fs ex H H1 h h1) {b:Addr}{ob:Obj} (q:h.get? b=some ob) (n:H b=none) (hx:b∉ex):∃ sl,h1.get? b=some { ob with slots:=sl }:=by
 by_cases hb:b∈fs
 ·exact u.slot b ob q n hb hx
 ·exact⟨ob.slots,u.keep b ob q n hb hx⟩
theorem Un.kept (k:∀ b u,h.get? b=some u→h'.get? b=some u):Un fs ex H H h h' :=
 ⟨fun b ob q _ _ _=>k b ob q,fun b ob q _ _ _=>⟨ob.slots,k b ob q⟩,fun _ _ _ n _=>n,fun b ob q _=>⟨ob,k b ob q⟩,fun _ _ q=>q,fun _ _ _ q=>q,fun _ ps q=>⟨#[],by rw[q];simp⟩⟩
theorem Un.refl:Un fs ex H H h h:=Un.kept fun _ _ q=>q
theorem Un.laid (k:∀ b u,h.get? b=some u→h'.get? b=some u) (hp:h.objs.size≤a) (hn:H a=none):Un fs ex H (upd H a o) h h' where
 keep:=fun b u q _ _ _=>k b u q
 slot:=fun b u q _ _ _=>⟨u.slots,k b u q⟩
 free:=fun b u q n _=>by rw[aB (Nat.ne_of_lt (Nat.lt_of_lt_of_le (Heap.lt_size q) hp))];exact n
 there:=fun b u q _=>⟨u,k b u q⟩
 tups:=fun b xs q=>by rw[aB (aM q hn)];exact q
 tV:=fun b u xs q=>by rw[aB (aM q hn)];exact q
 vp:=fun b ps q=>⟨#[],by rw[aB (aM q hn),q];simp⟩
theorem Un.write (mu:VU (H x)) (he:e=x∨H e=some (.own x)) (k:∀ b u,b≠e→h.get? b=some u→h'.get? b=some u) (Lw:∃ u,h'.get? e=some u):Un fs ex H (upd H x o) h h':=by
 have hx:∀ b,H b=none→b≠x:=fun b n z=>by subst z;rw[n] at mu;exact mu
 have hb:∀ b,H b=none→b≠e:=fun b n z=>by
  subst z
  rcases he with r | r
  ·exact hx b n r
  ·rw[n] at r;cases r
 have hm:∀ b u,H b=some u→¬VU (some u)→b≠x:=fun b u q nm z=>by subst z;rw[q] at mu;exact nm mu
 refine⟨fun b u q n _ _=>k b u (hb b n) q,fun b u q n _ _=>⟨u.slots,k b u (hb b n) q⟩,fun b u q n _=>by rw[aB (hx b n)];exact n,fun b u q _=>?_,
  fun b xs q=>by rw[aB (hm b _ q fun z=>z)];exact q,fun b u xs q=>by rw[aB (hm b _ q fun z=>z)];exact q,fun b ps q=>⟨#[],by rw[aB (hm b _ q fun z=>z),q];simp⟩⟩
 by_cases Ml:b=e
 ·subst Ml;exact Lw
 ·exact⟨u,k b u Ml q⟩
end
def VV (h:Heap) (H:Hp):List Addr:=(List.range h.objs.size).filter fun a=>(H a).isSome
def zk (h:Heap) (H:Hp):Heap:=W.hideAll h (VV h H)
theorem EF (h:Heap) (H:Hp):(zk h H).objs.size=h.objs.size:=W.hideAll_size _ _
theorem G6 {h:Heap}{H:Hp}{b:Addr}{o:Obj} (e:h.get? b=some o) (n:H b=none):(zk h H).get? b=some o :=
 W.hideAll_get _ e fun hm=>by
  have q:(H b).isSome=true:=(List.mem_filter.mp hm).2
  rw[n] at q;simp at q
theorem JF {h:Heap}{H:Hp}{b:Addr}{o:Obj} (e:(zk h H).get? b=some o):h.get? b=some o∧H b=none:=by
 have e':h.get? b=some o:=W.of_hideAll (VV h H) e
 refine⟨e',?_⟩
 cases q:H b with
 | none=>rfl
 | some x =>
  have hm:b∈VV h H:=List.mem_filter.mpr ⟨List.mem_range.mpr (Heap.lt_size e'),by simp[q]⟩
  have z:(zk h H).get? b=none:=W.hideAll_none (VV h H) hm
  rw[z] at e;cases e
def JG (g h:Heap) (L:Addr):List (Addr×Obj):=(List.range h.objs.size).filterMap fun a=>if a=L∨(g.get? a).isSome=true then none else (h.get? a).map fun o=>(a,o)
def rest (g h:Heap) (L d:Addr):List (Addr×Obj):=(JG g h L).filter fun p=>decide (p.1≠d)
structure Mod (K:W.Frag) (mg:Str→Option Value) (base:Heap):Prop where
 kU:K.In base
 glob:base.Ns mainGlobals mg
 blt:∃ mb,base.Ns builtinsNs mb∧∀ x:Str,x ≠ "__name__"→mb x=bootBuiltins x
 nolimit:base.NoLimit
structure Cx where
 prog:Program
 w:World
 K:W.Frag
 mg:Str→Option Value
 base:Heap
 A:Around
 N:List Str
 s₀:Shared
 H₀:Hp
 env:Env
 outer:List Env
 stack:List Env
 ex:List Addr
 fn:Str→Bool
 calm:Bool
 pn:List (Addr×Obj)
 xe:Value→Shared→Prop
def frs (l:List Env):List Addr:=l.filterMap (·.frame)
abbrev Cx.fs (X:Cx):List Addr:=frs X.outer
def Wn (sc:Scope) (x:Str):Prop:=sc.names.lookup x=some .local∨sc.names.lookup x=some .cell∨sc.names.lookup x=some .free
def Loc (sc:Scope) (x:Str):Prop:=sc.names.lookup x=some .local∨sc.names.lookup x=some .cell
def Look (env:Env) (h:Heap) (m:Str→Option Value) (x:Str) (u:Value):Prop :=
 (env.kindOf x=some .local∧m x=some u)∨((env.kindOf x=some .cell∨env.kindOf x=some .free)∧∃ c,env.cells.lookup x=some c∧h.IsCell c (some u))
structure Cx.Ok (X:Cx):Prop where
 mod:Mod X.K X.mg X.base
 kind:X.env.scope.kind=.function
 glob:X.env.globals=mainGlobals
 blt:X.env.builtins=builtinsNs
 above:X.s₀.heap.objs.size≤X.env.locals
 inj:∀ x y c,X.env.cells.lookup x=some c→X.env.cells.lookup y=some c→x=y
 has:∀ x,(X.env.kindOf x=some .cell∨X.env.kindOf x=some .free)→∃ c,X.env.cells.lookup x=some c
 Pa:∀ x c,X.fn x=true→X.env.cells.lookup x=some c→X.s₀.heap.objs.size≤c
 hd:X.calm=true→X.A.handled=none
 frames:X.A.frames=some X.stack
 stk:X.stack=X.outer∨(X.stack=X.env :: X.outer∧X.env.frame=some X.env.locals)
 Wo:∀ b∈X.ex,b≠X.env.locals∧∀ x c,X.env.cells.lookup x=some c→c≠b
 bs:∀ b o,X.base.get? b=some o→X.s₀.heap.get? b=some o∧X.H₀ b=none
 Jw:X.base.objs.size≤X.s₀.heap.objs.size
 EG:∀ b o,X.base.get? b=some o→b∉X.ex
 G7:∀ b∈X.ex,b∉X.fs
 rM:X.s₀.heap.FunFrames X.base X.outer
 Lx:∀ b∈X.fs,X.H₀ b=none
structure Inv (X:Cx) (pins:List (Addr×Obj)) (σ:List (Option V)) (H:Hp) (s:Shared):Prop where
 ok:X.Ok
 os:s.os=X.s₀.os
 bare:AllBare s.gens
 base:Un X.fs X.ex X.H₀ H X.s₀.heap s.heap
 loc:∃ m,s.heap.Ns X.env.locals m∧∀(i:Nat) (x:Str) (v:V),X.N[i]? = some x→σ[i]? = some (some v)→Wn X.env.scope x→∃ u,RelV v u∧Look X.env s.heap m x u
 cell:∀ x c,X.env.cells.lookup x=some c→∃ v,s.heap.IsCell c v
 free:H X.env.locals=none
 jE:∀ x c,X.env.cells.lookup x=some c→H c=none
 pin:∀ p∈X.pn++pins,s.heap.get? p.1=some p.2∧H p.1=none∧p.1≠X.env.locals∧p.1∉X.fs∧∀ v,p.2.data≠.cell v
 hok:pZ X.prog X.w H s.heap
 len:σ.length=X.N.length
section
variable {X:Cx}{pins:List (Addr×Obj)}{σ:List (Option V)}{H H':Hp}{s:Shared}{h':Heap}
theorem Cx.Ok.Wq (ok:X.Ok) {b:Addr}{o:Obj} (e:X.base.get? b=some o):b∉X.fs:=fun hb=>by
 have:=(ok.rM.mem hb).1
 rw[e] at this;cases this
theorem Inv.bs (I:Inv X pins σ H s):∀ b o,X.base.get? b=some o→s.heap.get? b=some o∧H b=none:=fun b o e =>
 ⟨I.base.keep b o (I.ok.bs b o e).1 (I.ok.bs b o e).2 (I.ok.Wq e) (I.ok.EG b o e),I.base.free b o (I.ok.bs b o e).1 (I.ok.bs b o e).2 (I.ok.EG b o e)⟩
theorem Inv.bk (I:Inv X pins σ H s):∀ b o,X.base.get? b=some o→s.heap.get? b=some o:=fun b o e=>(I.bs b o e).1
theorem Inv.mod (I:Inv X pins σ H s):Mod X.K X.mg X.base:=I.ok.mod
theorem Inv.lJ (I:Inv X pins σ H s):X.K.In s.heap:=I.ok.mod.kU.keeps I.bk
theorem Inv.lt (I:Inv X pins σ H s):X.env.locals < s.heap.objs.size:=let ⟨_,hn,_⟩:=I.loc;hn.lt
theorem Inv.sz (I:Inv X pins σ H s):X.s₀.heap.objs.size≤s.heap.objs.size:=Nat.le_trans I.ok.above (Nat.le_of_lt I.lt)
theorem Inv.Wr (I:Inv X pins σ H s) {a:Addr} (h:s.heap.objs.size≤a):a∉X.fs:=fun hb=>by
 obtain⟨_,o,ho,_⟩:=I.ok.rM.mem hb
 exact absurd (Nat.lt_of_lt_of_le (Heap.lt_size ho) (Nat.le_trans I.sz h)) (Nat.lt_irrefl _)
theorem Inv.JH (I:Inv X pins σ H s):∀ x c,X.env.cells.lookup x=some c→c≠X.env.locals:=fun x c e z=>by
 obtain⟨v,o,ho,hd⟩:=I.cell x c e
 obtain⟨m,⟨o',es,ep,ho',hd',_⟩,_⟩:=I.loc
 rw[z,ho'] at ho;cases ho;rw[hd'] at hd;cases hd
theorem Inv.rM (I:Inv X pins σ H s):s.heap.FunFrames X.base X.outer:=by
 have all:∀(l:List Env),(∀ b∈frs l,b∈X.fs)→X.s₀.heap.FunFrames X.base l→s.heap.FunFrames X.base l:=by
  intro l
  induction l with
  | nil=>intro _ _;trivial
  | cons env r ih =>
   intro hs hl
   obtain⟨hk,⟨L,o,hf,hn,ho,hd⟩,hr⟩:=hl
   have hL:L∈X.fs:=hs L (by unfold frs;rw[List.filterMap_cons,hf];exact List.mem_cons_self)
   obtain⟨sl,e⟩:=I.base.slot L o ho (I.ok.Lx L hL) hL fun z=>I.ok.G7 L z hL
   exact⟨hk,⟨L,_,hf,hn,e,hd⟩,ih (fun b hb=>hs b (by unfold frs;rw[List.filterMap_cons,hf];exact List.mem_cons_of_mem _ hb)) hr⟩
 exact all X.outer (fun _ hb=>hb) I.ok.rM
theorem Inv.stack (I:Inv X pins σ H s):s.heap.FunFrames X.base X.stack:=by
 rcases I.ok.stk with e | ⟨e,hf⟩
 ·rw[e];exact I.rM
 ·rw[e]
  obtain⟨m,hn,_⟩:=I.loc
  refine .cons (by rw[I.ok.kind];decide) hf hn ?_ I.rM
  exact Heap.get?_none_of_le (Nat.le_trans I.ok.Jw I.ok.above)
theorem Inv.vq (I:Inv X pins σ H s):∀ b∈frs X.stack,b∈X.env.locals :: X.fs:=fun b hb=>by
 rcases I.ok.stk with e | ⟨e,hf⟩
 ·rw[e] at hb;exact List.mem_cons_of_mem _ hb
 ·rw[e] at hb
  unfold frs at hb
  rw[List.filterMap_cons,hf] at hb
  exact hb
theorem Inv.zm (I:Inv X pins σ H s):∀ b∈frs X.stack,H b=none:=fun b hb=>by
 rcases List.mem_cons.mp (I.vq b hb) with e | hb
 ·rw[e];exact I.free
 ·obtain⟨_,o,ho,_⟩:=I.ok.rM.mem hb
  exact I.base.free b o ho (I.ok.Lx b hb) fun z=>I.ok.G7 b z hb
theorem Inv.step {g':Array GenState}{t':Nat}{d':Drawn}{ch:List Addr} (I:Inv X pins σ H s)
  (hch:∀ b∈ch,(b∈X.ex∨X.s₀.heap.objs.size≤b)∧b≠X.env.locals∧(∀ x c,X.env.cells.lookup x=some c→c≠b)∧∀ p∈X.pn++pins,p.1≠b)
  (keep:∀ b o,b≠X.env.locals→b∉X.fs→b∉ch→s.heap.get? b=some o→H b=none→h'.get? b=some o)
  (slot:∀ b o,b≠X.env.locals→b∈X.fs→b∉ch→s.heap.get? b=some o→H b=none→∃ sl,h'.get? b=some { o with slots:=sl }) (free:∀ b o,b∉ch→s.heap.get? b=some o→H b=none→H' b=none)
  (there:∀ b o,b∉ch→s.heap.get? b=some o→∃ o',h'.get? b=some o')
  (tups:∀ b xs,H b=some (.tup xs)→H' b=some (.tup xs)) (tV:∀ b o u,H b=some (.Cj o u)→H' b=some (.Cj o u)) (vp:∀ b ps,H b=some (.Lv ps)→∃ more,H' b=some (.Lv (ps++more)))
  (ns:∀ m,s.heap.Ns X.env.locals m→h'.Ns X.env.locals m) (hok:pZ X.prog X.w H' h') (hg:AllBare g') :
  Inv X pins σ H' { s with heap:=h',gens:=g',drawn:=d',toks:=t' }:=by
 have VW:∀ b o,X.s₀.heap.get? b=some o→b≠X.env.locals:=fun b o e=>Nat.ne_of_lt (Nat.lt_of_lt_of_le (Heap.lt_size e) I.ok.above)
 have VX:∀ b o,X.s₀.heap.get? b=some o→b∉X.ex→b∉ch:=fun b o e hx hb=>by
  rcases(hch b hb).1 with z | z
  ·exact hx z
  ·exact absurd (Nat.lt_of_lt_of_le (Heap.lt_size e) z) (Nat.lt_irrefl _)
 have cellK:∀ x c,X.env.cells.lookup x=some c→∀ v,s.heap.IsCell c v→h'.IsCell c v:=fun x c e v ⟨o,ho,hd⟩=>by
  have Jx:c∉ch:=fun z=>(hch c z).2.2.1 x c e rfl
  by_cases hc:c∈X.fs
  ·obtain⟨sl,q⟩:=slot c o (I.JH x c e) hc Jx ho (I.jE x c e)
   exact⟨_,q,hd⟩
  ·exact⟨o,keep c o (I.JH x c e) hc Jx ho (I.jE x c e),hd⟩
 refine⟨I.ok,I.os,hg,⟨fun b o e n hb hx=>?_,fun b o e n hb hx=>?_,fun b o e n hx=>?_,fun b o e hx=>?_,fun b xs e=>tups b xs (I.base.tups b xs e),fun b o xs e=>tV b o xs (I.base.tV b o xs e),fun b ps e=>?_⟩,?_,fun x c e=>?_,?_,fun x c e=>?_,fun p hp=>?_,hok,I.len⟩
 ·exact keep b o (VW b o e) hb (VX b o e hx) (I.base.keep b o e n hb hx) (I.base.free b o e n hx)
 ·obtain⟨sl,e1⟩:=I.base.slot b o e n hb hx
  obtain⟨sl',e2⟩:=slot b _ (VW b o e) hb (VX b o e hx) e1 (I.base.free b o e n hx)
  exact⟨sl',e2⟩
 ·obtain⟨o',e1⟩:=I.base.there b o e hx
  exact free b o' (VX b o e hx) e1 (I.base.free b o e n hx)
 ·obtain⟨o',e1⟩:=I.base.there b o e hx
  exact there b o' (VX b o e hx) e1
 ·obtain⟨m1,e1⟩:=I.base.vp b ps e
  obtain⟨m2,e2⟩:=vp b _ e1
  exact⟨m1++m2,by rw[e2,Array.append_assoc]⟩
 ·obtain⟨m,hn,hl⟩:=I.loc
  refine⟨m,ns m hn,fun i x v e1 e2 e3=>?_⟩
  obtain⟨u,r,l⟩:=hl i x v e1 e2 e3
  refine⟨u,r,?_⟩
  rcases l with l | ⟨k,c,e,z⟩
  ·exact .inl l
  ·exact .inr ⟨k,c,e,cellK x c e _ z⟩
 ·obtain⟨v,z⟩:=I.cell x c e
  exact⟨v,cellK x c e v z⟩
 ·obtain⟨m,⟨o,_,_,ho,_⟩,_⟩:=I.loc
  exact free _ o (fun z=>(hch _ z).2.1 rfl) ho I.free
 ·obtain⟨v,o,ho,hd⟩:=I.cell x c e
  exact free c o (fun z=>(hch c z).2.2.1 x c e rfl) ho (I.jE x c e)
 ·obtain⟨e,n,ne,nf,d⟩:=I.pin p hp
  have Jx:p.1∉ch:=fun z=>(hch p.1 z).2.2.2 p hp rfl
  exact⟨keep p.1 p.2 ne nf Jx e n,free p.1 p.2 Jx e n,ne,nf,d⟩
theorem Inv.un {t':Nat} (I:Inv X pins σ H s) (u:Un X.fs [] H H' s.heap h') (hok:pZ X.prog X.w H' h'):Inv X pins σ H' { s with heap:=h',toks:=t' }:=by
 obtain⟨m,⟨o,es,ep,ho,r⟩,_⟩:=id I.loc
 obtain⟨sl,hL⟩:=u.any ho I.free (by simp)
 exact I.step (g':=s.gens) (d':=s.drawn) (ch:=[]) (fun _ z=>nomatch z) (fun b o _ hb _ e n=>u.keep b o e n hb (by simp)) (fun b o _ hb _ e n=>u.slot b o e n hb (by simp)) (fun b o _ e n=>u.free b o e n (by simp)) (fun b o _ e=>u.there b o e (by simp)) u.tups u.tV u.vp (fun m' hm=>by
  obtain⟨o',es',Ws,ho',r'⟩:=hm
  rw[ho] at ho';cases ho'
  exact⟨_,es',Ws,hL,r'⟩) hok I.bare
theorem Inv.call {g':Array GenState}{t':Nat}{d':Drawn}{ch:List Addr} (I:Inv X pins σ H s) (u:Un (frs X.stack) ch H H' s.heap h') (hok:pZ X.prog X.w H' h') (hg:AllBare g')
  (hch:∀ b∈ch,(b∈X.ex∨X.s₀.heap.objs.size≤b)∧b≠X.env.locals∧(∀ x c,X.env.cells.lookup x=some c→c≠b)∧∀ p∈X.pn++pins,p.1≠b) :
  Inv X pins σ H' { s with heap:=h',gens:=g',drawn:=d',toks:=t' }:=by
 obtain⟨m,⟨o,es,ep,ho,r⟩,_⟩:=id I.loc
 obtain⟨sl,hL⟩:=u.any ho I.free fun z=>(hch _ z).2.1 rfl
 exact I.step (ch:=ch) hch (fun b o hL hb hc e n=>u.keep b o e n (fun z=>(List.mem_cons.mp (I.vq b z)).elim hL hb) hc) (fun b o _ _ hc e n=>u.any e n hc) (fun b o hc e n=>u.free b o e n hc) (fun b o hc e=>u.there b o e hc) u.tups u.tV u.vp (fun m' hm=>by
  obtain⟨o',es',Ws,ho',r'⟩:=hm
  rw[ho] at ho';cases ho'
  exact⟨_,es',Ws,hL,r'⟩) hok hg
theorem Inv.turned {t':Nat}{it:Addr} (I:Inv X pins σ H s) (k:∀ b o,b≠it→s.heap.get? b=some o→h'.get? b=some o) (hn:H it=none) (hL:it≠X.env.locals)
  (h1:it∈X.ex∨X.s₀.heap.objs.size≤it) (h2:∀ x c,X.env.cells.lookup x=some c→c≠it) (h3:∀ p∈X.pn++pins,p.1≠it):Inv X pins σ H { s with heap:=h',toks:=t' }:=by
 have PU:∀ b u,H b=some u→b≠it:=fun b u e z=>by rw[z,hn] at e;cases e
 refine I.step (g':=s.gens) (d':=s.drawn) (ch:=[it]) (fun b hb=>?_) (fun b o _ _ hc e _=>k b o (fun z=>hc (by simp[z])) e) (fun b o _ _ hc e _=>⟨o.slots,k b o (fun z=>hc (by simp[z])) e⟩) (fun _ _ _ _ n=>n)
  (fun b o hc e=>⟨o,k b o (fun z=>hc (by simp[z])) e⟩) (fun _ _ e=>e) (fun _ _ _ e=>e) (fun b ps e=>⟨#[],by rw[e];simp⟩) (fun m hm=>?_) (fun b u e=>?_) I.bare
 ·have e:b=it:=by simpa using hb
  subst e
  exact⟨h1,hL,h2,h3⟩
 ·obtain⟨o,es,ep,ho,r⟩:=hm
  exact⟨o,es,ep,k _ o (Ne.symm hL) ho,r⟩
 ·refine(I.hok b u e).stay (fun c v hc q=>k c v ?_ q) (fun _ q=>q) fun _ _ q=>q
  rcases hc with z | z
  ·rw[z];exact PU b u e
  ·exact PU c _ z
theorem Inv.tok (I:Inv X pins σ H s) (t:Nat):Inv X pins σ H { s with toks:=t }:=I.un (h':=s.heap) (t':=t) Un.refl I.hok
theorem Inv.kept {t':Nat} (I:Inv X pins σ H s) (k:∀ b u,s.heap.get? b=some u→h'.get? b=some u):Inv X pins σ H { s with heap:=h',toks:=t' }:=I.un (Un.kept k) (I.hok.kept k)
theorem Inv.laid {a:Addr}{o:HO}{t':Nat} (I:Inv X pins σ H s) (k:∀ b u,s.heap.get? b=some u→h'.get? b=some u) (hp:s.heap.objs.size≤a) (new:cA X.prog X.w (upd H a o) h' a o) :
 Inv X pins σ (upd H a o) { s with heap:=h',toks:=t' }:=I.un (Un.laid k hp (I.hok.fresh hp)) (I.hok.laid k hp new)
theorem Inv.write {x e:Addr}{o:HO}{t':Nat} (I:Inv X pins σ H s) (mu:VU (H x)) (he:e=x∨H e=some (.own x)) (k:∀ b u,b≠e→s.heap.get? b=some u→h'.get? b=some u) (Lw:∃ u,h'.get? e=some u)
 (new:cA X.prog X.w (upd H x o) h' x o):Inv X pins σ (upd H x o) { s with heap:=h',toks:=t' }:=I.un (Un.write mu he k Lw) (I.hok.write mu he k Lw new)
theorem Inv.DY {Ly:List (Addr×Obj)} (I:Inv X pins σ H s) (h:∀ p∈Ly,s.heap.get? p.1=some p.2∧H p.1=none∧p.1≠X.env.locals∧p.1∉X.fs∧∀ v,p.2.data≠.cell v):Inv X Ly σ H s :=
 ⟨I.ok,I.os,I.bare,I.base,I.loc,I.cell,I.free,I.jE,fun p hp=>(List.mem_append.mp hp).elim (fun z=>I.pin p (List.mem_append_left _ z)) (h p),I.hok,I.len⟩
theorem vt {N:List Str} (hN:N.Nodup) {i j:Nat}{x:Str} (a:N[i]? = some x) (b:N[j]? = some x):i=j:=by
 obtain⟨h1,e1⟩:=List.getElem?_eq_some_iff.mp a
 obtain⟨h2,e2⟩:=List.getElem?_eq_some_iff.mp b
 exact(List.getElem_inj hN).mp (e1.trans e2.symm)
theorem yy {M:Model}{A:Around}{E:Value→Shared→Prop}{i:Nat}{x:Str}{v:V}{u:Value}{Q:Unit→Shared→Prop} (I:Inv X pins σ H s) (hN:X.N.Nodup) (hi:X.N[i]? = some x) (hx:Loc X.env.scope x) (r:RelV v u)
  (h:∀ s',Inv X pins (σ.set i (some v)) H s'→(∃ a,Heap.SameBut a s.heap s'.heap∧(a=X.env.locals∨X.env.cells.lookup x=some a))→Q () s') (hf:X.fn x=true∨X.env.scope.names.lookup x=some .local:=by first | exact .inl rfl | exact .inr rfl | assumption):wpAny M A (storeName X.env x u) Q E s:=by
 obtain⟨m,hn,hl⟩:=id I.loc
 have hcls:(X.env.scope.kind == .class || (X.env.scope.kind == .module && X.env.locals != X.env.globals))=false:=by rw[I.ok.kind];rfl
 have PV:i < σ.length:=by rw[I.len];exact(List.getElem?_eq_some_iff.mp hi).1
 have JH:=I.JH
 have tracked:∀{a:Addr}{h':Heap},(∃ o,s.heap.get? a=some o∧H a=none)→Heap.SameBut a s.heap h'→pZ X.prog X.w H h':=fun {a h'} ha hs b ob e=>by
  obtain⟨_,_,hfree⟩:=ha
  refine(I.hok b ob e).stay (fun c w' hc q=>(hs.2 c ?_).trans q) (fun _ q=>q) fun _ _ q=>q
  rintro rfl
  rcases hc with rfl | hc
  ·rw[hfree] at e;cases e
  ·rw[hfree] at hc;cases hc
 rcases hx with hk | hk
 ·refine wpAny_storeName_local hk hn (fun h' hn' hs=>?_) hcls
  obtain⟨oL,_,_,hoL,_⟩:=id hn
  refine h _ ⟨I.ok,I.os,I.bare,⟨fun b o e n hb hx=>?_,fun b o e n hb hx=>?_,I.base.free,fun b o e hx=>?_,I.base.tups,I.base.tV,I.base.vp⟩,⟨_,hn',fun j y v' e1 e2 e3=>?_⟩,fun y c e=>?_,I.free,I.jE,fun p hp=>?_,tracked ⟨oL,hoL,I.free⟩ hs,by simpa using I.len⟩ ⟨_,hs,.inl rfl⟩
  ·exact(hs.2 b (Nat.ne_of_lt (Nat.lt_of_lt_of_le (Heap.lt_size e) I.ok.above))).trans (I.base.keep b o e n hb hx)
  ·obtain⟨sl,e1⟩:=I.base.slot b o e n hb hx
   exact⟨sl,(hs.2 b (Nat.ne_of_lt (Nat.lt_of_lt_of_le (Heap.lt_size e) I.ok.above))).trans e1⟩
  ·obtain⟨o',e1⟩:=I.base.there b o e hx
   exact⟨o',(hs.2 b (Nat.ne_of_lt (Nat.lt_of_lt_of_le (Heap.lt_size e) I.ok.above))).trans e1⟩
  ·by_cases hj:j=i
   ·subst hj
    rw[hi] at e1;cases e1
    rw[List.getElem?_set_self PV] at e2
    cases e2
    exact⟨u,r,.inl ⟨hk,by simp⟩⟩
   ·rw[List.getElem?_set_ne (Ne.symm hj)] at e2
    obtain⟨u',r',q⟩:=hl j y v' e1 e2 e3
    refine⟨u',r',?_⟩
    rcases q with ⟨k,e⟩ | ⟨k,c,e,z⟩
    ·refine .inl ⟨k,?_⟩
     have:y≠x:=fun e=>hj (vt hN e1 (e ▸ hi))
     simp[this,e]
    ·exact .inr ⟨k,c,e,z.sameBut hs (JH y c e)⟩
  ·obtain⟨w',z⟩:=I.cell y c e
   exact⟨w',z.sameBut hs (JH y c e)⟩
  ·obtain⟨e,n,ne,nf,d⟩:=I.pin p hp
   exact⟨(hs.2 p.1 ne).trans e,n,ne,nf,d⟩
 ·have hfn:X.fn x=true:=by
   rcases hf with z | z
   ·exact z
   ·rw[z] at hk;cases hk
  obtain⟨c,hc⟩:=I.ok.has x (.inl hk)
  obtain⟨w',z⟩:=I.cell x c hc
  refine wpAny_storeName_cell I.ok.kind hk hc z (fun h' hc' hs=>?_)
  obtain⟨oc,hoc,Wt⟩:=id z
  refine h { s with heap:=h' } ⟨I.ok,I.os,I.bare,⟨fun b o e n hb hx=>?_,fun b o e n hb hx=>?_,I.base.free,fun b o e hx=>?_,I.base.tups,I.base.tV,I.base.vp⟩,⟨m,hn.sameBut hs (Ne.symm (JH x c hc)),fun j y v' e1 e2 e3=>?_⟩,fun y c' e=>?_,I.free,I.jE,fun p hp=>?_,tracked ⟨oc,hoc,I.jE x c hc⟩ hs,by simpa using I.len⟩ ⟨c,hs,.inr hc⟩
  ·exact(hs.2 b (Nat.ne_of_lt (Nat.lt_of_lt_of_le (Heap.lt_size e) (I.ok.Pa x c hfn hc)))).trans (I.base.keep b o e n hb hx)
  ·obtain⟨sl,e1⟩:=I.base.slot b o e n hb hx
   exact⟨sl,(hs.2 b (Nat.ne_of_lt (Nat.lt_of_lt_of_le (Heap.lt_size e) (I.ok.Pa x c hfn hc)))).trans e1⟩
  ·obtain⟨o',e1⟩:=I.base.there b o e hx
   exact⟨o',(hs.2 b (Nat.ne_of_lt (Nat.lt_of_lt_of_le (Heap.lt_size e) (I.ok.Pa x c hfn hc)))).trans e1⟩
  ·by_cases hj:j=i
   ·subst hj
    rw[hi] at e1;cases e1
    rw[List.getElem?_set_self PV] at e2
    cases e2
    exact⟨u,r,.inr ⟨.inl hk,c,hc,hc'⟩⟩
   ·rw[List.getElem?_set_ne (Ne.symm hj)] at e2
    obtain⟨u',r',q⟩:=hl j y v' e1 e2 e3
    refine⟨u',r',?_⟩
    rcases q with q | ⟨k,c',e,z'⟩
    ·exact .inl q
    ·refine .inr ⟨k,c',e,z'.sameBut hs ?_⟩
     rintro rfl
     exact hj (vt hN e1 (I.ok.inj _ _ _ e hc ▸ hi))
  ·by_cases hcc:c'=c
   ·subst hcc;exact⟨_,hc'⟩
   ·obtain⟨w2,z2⟩:=I.cell y c' e
    exact⟨w2,z2.sameBut hs hcc⟩
  ·obtain⟨e,n,ne,nf,d⟩:=I.pin p hp
   refine⟨(hs.2 p.1 ?_).trans e,n,ne,nf,d⟩
   intro q
   rw[q,hoc] at e
   have q':oc=p.2:=Option.some.inj e
   exact d w' (by rw[←q'];exact Wt)
theorem vv {M:Model}{A:Around}{E:Value→Shared→Prop}{i:Nat}{x:Str}{v:V}{u:Value}{Q:Unit→Shared→Prop} (I:Inv X pins σ H s) (hN:X.N.Nodup) (hi:X.N[i]? = some x) (hx:Loc X.env.scope x) (r:RelV v u)
  (h:∀ s',Inv X pins (σ.set i (some v)) H s'→Q () s') (hf:X.fn x=true∨X.env.scope.names.lookup x=some .local:=by first | exact .inl rfl | exact .inr rfl | assumption):wpAny M A (storeName X.env x u) Q E s :=
 yy I hN hi hx r (fun s' I' _=>h s' I') hf
theorem Inv.G8 {s':Shared}{ch:List Addr} (I:Inv X pins σ H s) (ho:s'.os=s.os) (u:Un (frs X.stack) ch H H' s.heap s'.heap) (hok:pZ X.prog X.w H' s'.heap) (hg:AllBare s'.gens)
  (hch:∀ b∈ch,(b∈X.ex∨X.s₀.heap.objs.size≤b)∧b≠X.env.locals∧(∀ x c,X.env.cells.lookup x=some c→c≠b)∧∀ p∈X.pn++pins,p.1≠b):Inv X pins σ H' s':=by
 obtain⟨h',g',d',t',o'⟩:=s'
 have e:o'=s.os:=ho
 subst e
 exact I.call (g':=g') (t':=t') (d':=d') u hok hg hch
end
abbrev XK:=Value→Option Addr→Hp→Prop
abbrev St:=List (Option V)
abbrev VK:=V→Hp→Prop
abbrev TE:=St→Hp→VK→Prop
abbrev TT:=St→Hp→(Bool→Hp→Prop)→Prop
abbrev TA:=St→Hp→(List V→Hp→Prop)→Prop
structure Ends where
 nx:St→Hp→Prop
 rt:VK
 bk:St→Hp→Prop:=fun _ _=>False
 ct:St→Hp→Prop:=fun _ _=>False
abbrev TS:=Ends→St→Hp→Prop
def EP (X:Cx) (pins:List (Addr×Obj)) (σ:St) (Q:VK) (u:Value) (s':Shared):Prop:=∃ v H',Inv X pins σ H' s'∧RelV v u∧Q v H'
def TP (X:Cx) (pins:List (Addr×Obj)) (σ:St) (Q:Bool→Hp→Prop) (b:Bool) (s':Shared):Prop:=∃ H',Inv X pins σ H' s'∧Q b H'
def AP (X:Cx) (pins:List (Addr×Obj)) (σ:St) (Q:List V→Hp→Prop) (us:List Value) (s':Shared):Prop:=∃ vs H',Inv X pins σ H' s'∧Vals vs us∧Q vs H'
def SP (X:Cx) (pins:List (Addr×Obj)) (D:Ends) (f:Flow) (s':Shared):Prop :=
 match f with
 | .next=>∃ σ' H',Inv X pins σ' H' s'∧D.nx σ' H'
 | .brk=>∃ σ' H',Inv X pins σ' H' s'∧D.bk σ' H'
 | .cont=>∃ σ' H',Inv X pins σ' H' s'∧D.ct σ' H'
 | .ret u=>∃ v σ' H',Inv X pins σ' H' s'∧RelV v u∧D.rt v H'
def PE (X:Cx) (e:Expr) (t:TE):Prop :=
 ∀(pins:List (Addr×Obj)) (s:Shared) (σ:St) (H:Hp) (Q:VK),Inv X pins σ H s→t σ H Q→wpAny (model X.prog X.w) X.A (eval e X.env) (EP X pins σ Q) X.xe s
def PT (X:Cx) (e:Expr) (t:TT):Prop :=
 ∀(pins:List (Addr×Obj)) (s:Shared) (σ:St) (H:Hp) (Q:Bool→Hp→Prop),Inv X pins σ H s→t σ H Q→wpAny (model X.prog X.w) X.A (isTrue e X.env (eval e X.env)) (TP X pins σ Q) X.xe s
def PW (X:Cx) (e:Expr) (t:TT):Prop :=
 ∀(whole:Sem Value) (pins:List (Addr×Obj)) (s:Shared) (σ:St) (H:Hp) (Q:Bool→Hp→Prop),Inv X pins σ H s→t σ H Q→wpAny (model X.prog X.w) X.A (isTrue e X.env whole) (TP X pins σ Q) X.xe s
theorem PW.pt {X:Cx}{e:Expr}{t:TT} (h:PW X e t):PT X e t:=h _
def PA (X:Cx) (es:List Expr) (t:TA):Prop :=
 ∀(pos:Pos) (pins:List (Addr×Obj)) (s:Shared) (σ:St) (H:Hp) (Q:List V→Hp→Prop),Inv X pins σ H s→t σ H Q→wpAny (model X.prog X.w) X.A (spliced (backTo pos (starEach es X.env))) (AP X pins σ Q) X.xe s
def PS (X:Cx) (st:Stmt) (t:TS):Prop :=
 ∀(pins:List (Addr×Obj)) (s:Shared) (σ:St) (H:Hp) (D:Ends),Inv X pins σ H s→t D σ H→wpAny (model X.prog X.w) X.A (exec st X.env) (SP X pins D) X.xe s
def AZ (X:Cx) (st:List Stmt) (t:TS):Prop :=
 ∀(pins:List (Addr×Obj)) (s:Shared) (σ:St) (H:Hp) (D:Ends),Inv X pins σ H s→t D σ H→wpAny (model X.prog X.w) X.A (execs st X.env) (SP X pins D) X.xe s
theorem cH {α:Type}{t:Sem α}{Q Q':α→Shared→Prop}{M:Model}{A:Around}{E:Value→Shared→Prop}{s:Shared} (h:wpAny M A t Q E s) (hQ:∀ a s,Q a s→Q' a s):wpAny M A t Q' E s:=wpAny_mono h hQ fun _ _ x=>x
section
variable {X:Cx}
def PX (i:Nat):TE:=fun σ H Q=>∃ v,σ[i]? = some (some v)∧Q v H
def tC (v:V):TE:=fun _ H Q=>Q v H
theorem Mm {i:Nat}{x:Str}{pos:Pos} (hN:X.N[i]? = some x) (hv:Wn X.env.scope x) (hd:(x == ("__debug__" : Str))=false:=by decide) (hcd:(x == ("__classdict__" : Str))=false:=by decide):PE X (.Name x pos) (PX i):=by
 intro pins s σ H Q I h
 obtain⟨v,e,h⟩:=h
 obtain⟨m,hn,hl⟩:=I.loc
 obtain⟨u,r,l⟩:=hl i x v hN e hv
 have fin:EP X pins σ Q u s:=⟨v,H,I,r,h⟩
 rcases l with ⟨hk,hm⟩ | ⟨hk,c,hc,hcell⟩
 ·exact wpAny_Name (wpAny_loadName_local I.ok.kind hk hn hm fin) hd
 ·rcases hk with hk | hk
  ·exact wpAny_Name (wpAny_loadName_cell I.ok.kind hk hc hcell fin) hd
  ·exact wpAny_Name (wpAny_loadName_free I.ok.kind hk hc hcell fin hcd) hd
theorem ay {i j pos}:PE X (.Constant (.int i) j pos) (tC (.int i)):=fun _ _ _ H _ I h=>wpAny_Constant_int ⟨.int i,H,I.tok _,⟨_,rfl⟩,h⟩
theorem jF {b j pos}:PE X (.Constant (.bool b) j pos) (tC (.bl b)):=fun _ _ _ H _ I h=>Constant_bool ⟨.bl b,H,I,rfl,h⟩
theorem cX {j pos}:PE X (.Constant .none j pos) (tC .non):=fun _ _ _ H _ I h=>Constant_none ⟨.non,H,I,rfl,h⟩
theorem aA {x j pos}:PE X (.Constant (.str x) j pos) (tC (.str x)):=fun _ _ _ H _ I h=>Calls.Constant_str ⟨.str x,H,I.tok _,⟨_,rfl⟩,h⟩
def Gl (X:Cx) (x:Str):Prop:=X.env.kindOf x=some .globalImplicit
theorem lK {E:Value→Shared→Prop}{pins:List (Addr×Obj)}{s:Shared}{σ:St}{H:Hp}{x:Str}{u:Value}{pos:Pos}{Q:Value→Shared→Prop} (I:Inv X pins σ H s) (hg:Gl X x) (hm:X.mg x=some u) (h:Q u s)
  (hd:(x == ("__debug__" : Str))=false:=by decide):wpAny (model X.prog X.w) X.A (eval (.Name x pos) X.env) Q E s :=
 Calls.Name_function_global I.ok.kind hg (Calls.loadGlobal_global (by rw[I.ok.glob];exact I.mod.glob.keeps I.bk) hm h) hd
theorem rN {E:Value→Shared→Prop}{pins:List (Addr×Obj)}{s:Shared}{σ:St}{H:Hp}{x:Str}{u:Value}{pos:Pos}{Q:Value→Shared→Prop} (I:Inv X pins σ H s) (hg:Gl X x) (hm:X.mg x=none) (hv:bootBuiltins x=some u) (h:Q u s)
  (hn:x ≠ "__name__" := by decide) (hd:(x == ("__debug__" : Str))=false:=by decide):wpAny (model X.prog X.w) X.A (eval (.Name x pos) X.env) Q E s:=by
 obtain⟨mb,h1,h2⟩:=I.mod.blt
 exact Calls.Name_function_global I.ok.kind hg (Calls.loadGlobal_builtin (by rw[I.ok.glob];exact I.mod.glob.keeps I.bk) hm (by rw[I.ok.blt];exact h1.keeps I.bk) ((h2 x hn).trans hv) h) hd
theorem zo {x:Str}{v:V}{u:Value}{pos:Pos} (hg:Gl X x) (hm:X.mg x=some u) (r:RelV v u) (hd:(x == ("__debug__" : Str))=false:=by decide):PE X (.Name x pos) (tC v) :=
 fun _ _ _ H _ I h=>lK I hg hm ⟨v,H,I,r,h⟩ hd
theorem JI {x:Str}{v:V}{u:Value}{pos:Pos} (hg:Gl X x) (hm:X.mg x=none) (hv:bootBuiltins x=some u) (r:RelV v u) (hn:x ≠ "__name__" := by decide) (hd:(x == ("__debug__" : Str))=false:=by decide):PE X (.Name x pos) (tC v) :=
 fun _ _ _ H _ I h=>rN I hg hm hv ⟨v,H,I,r,h⟩ hn hd
variable {a b:Expr}{ta tb:TE}{pos:Pos}
def PC (X:Cx) (op:CmpOp) (a b:Expr) (t:TE):Prop :=
 ∀(pins:List (Addr×Obj)) (s:Shared) (σ:St) (H:Hp) (Q:VK),Inv X pins σ H s→t σ H Q →
  wpAny (model X.prog X.w) X.A (eval a X.env) (fun v s₁=>wpAny (model X.prog X.w) X.A (eval b X.env) (fun u s₂=>wpAny (model X.prog X.w) X.A (compareOp op v u) (EP X pins σ Q) X.xe s₂) X.xe s₁) X.xe s
theorem G9 (b:Expr) {op:CmpOp} (h:op≠.In) (h2:op≠.NotIn):behindInMarks op b=false:=by
 have e1:(op == CmpOp.In)=false:=by cases op <;> first | rfl | exact absurd rfl h
 have e2:(op == CmpOp.NotIn)=false:=by cases op <;> first | rfl | exact absurd rfl h2
 cases b <;> simp[behindInMarks,e1,e2]
def tB (t:TE):TT:=fun σ H Q=>t σ H fun x H1=>∃ c,x=.bl c∧Q c H1
theorem Mp {op:CmpOp}{t:TE} (h:PC X op a b t) (h1:behindInMarks op b=false:=by first | exact G9 _ (by decide) (by decide) | rfl):PT X (.Compare a [op] [b] pos) (tB t):=by
 intro pins s σ H Q I hw
 refine wpAny_isTrue_Compare1 (cH (h pins s σ H _ I hw) fun v s1 h1=>cH h1 fun u s2 h2=>cH h2 fun c s3 ⟨x,H1,I1,r1,q1⟩=>?_) h1
 obtain⟨d,rfl,q⟩:=q1
 cases r1
 exact wpAny_truthy_bool ⟨H1,I1,q⟩
theorem bZ {e:Expr}{t:TE} (h:PE X e t) (he:∀ whole,isTrue e X.env whole=(do let v ←whole;standAt e.pos;holding [v] (truthy v)):=by intro _;rfl):PT X e (tB t):=by
 intro pins s σ H Q I hw
 refine isTrue_plain (cH (h pins s σ H _ I hw) fun v s1 ⟨x,H1,I1,r1,q1⟩=>?_) (he _)
 obtain⟨d,rfl,q⟩:=q1
 cases r1
 exact wpAny_truthy_bool ⟨H1,I1,q⟩
variable {tA VY:TT}{rest:List Expr}
def Wu (t u:TT):TT:=fun σ H Q=>t σ H fun c H1=>if c=true then u σ H1 Q else Q false H1
def tOr (t u:TT):TT:=fun σ H Q=>t σ H fun c H1=>if c=true then Q true H1 else u σ H1 Q
def Wv (t:TT):TT:=fun σ H Q=>t σ H fun c H1=>Q (!c) H1
theorem j8 (ha:PT X a tA):PW X (.BoolOp .And [a] pos) tA:=by
 intro wh pins s σ H Q I h
 refine isTrue_and (cH (ha pins s σ H Q I h) fun c s1 e=>?_)
 cases c with
 | true=>exact isTrue_and_nil e
 | false=>exact e
theorem lM (ha:PT X a tA):PW X (.BoolOp .Or [a] pos) tA:=by
 intro wh pins s σ H Q I h
 refine isTrue_or (cH (ha pins s σ H Q I h) fun c s1 e=>?_)
 cases c with
 | false=>exact isTrue_or_nil e
 | true=>exact e
theorem nj (ha:PT X a tA) (hb:PW X (.BoolOp .And (b :: rest) pos) VY):PW X (.BoolOp .And (a :: b :: rest) pos) (Wu tA VY):=by
 intro wh pins s σ H Q I h
 refine isTrue_and (cH (ha pins s σ H _ I h) fun c s1 ⟨H1,I1,q1⟩=>?_)
 cases c with
 | true=>exact hb wh pins s1 σ H1 Q I1 q1
 | false=>exact⟨H1,I1,q1⟩
theorem nk (ha:PT X a tA) (hb:PW X (.BoolOp .Or (b :: rest) pos) VY):PW X (.BoolOp .Or (a :: b :: rest) pos) (tOr tA VY):=by
 intro wh pins s σ H Q I h
 refine isTrue_or (cH (ha pins s σ H _ I h) fun c s1 ⟨H1,I1,q1⟩=>?_)
 cases c with
 | true=>exact⟨H1,I1,q1⟩
 | false=>exact hb wh pins s1 σ H1 Q I1 q1
theorem fP (ha:PT X a tA):PT X (.UnaryOp .Not a pos) (Wv tA):=by
 intro pins s σ H Q I h
 exact isTrue_not (ha pins s σ H (fun c H1=>Q (!c) H1) I h)
def PY (ta tb:TE):TE:=fun σ H Q=>ta σ H fun x H1=>∃ c,x=.bl c∧if c=true then tb σ H1 Q else Q (.bl false) H1
def Ww (ta tb:TE):TE:=fun σ H Q=>ta σ H fun x H1=>∃ c,x=.bl c∧if c=true then Q (.bl true) H1 else tb σ H1 Q
theorem zp {op}{t:TE} (h:PE X a t):PE X (.BoolOp op [a] pos) t:=fun pins s σ H Q I hw=>BoolOp_one (h pins s σ H Q I hw)
theorem zq (ha:PE X a ta) (hb:PE X (.BoolOp .And (b :: rest) pos) tb):PE X (.BoolOp .And (a :: b :: rest) pos) (PY ta tb):=by
 intro pins s σ H Q I h
 refine BoolOp_and (cH (ha pins s σ H _ I h) fun v s1 ⟨x,H1,I1,r1,q1⟩=>?_)
 obtain⟨c,rfl,q1⟩:=q1
 cases r1
 refine wpAny_truthy_bool ?_
 cases c with
 | true=>exact hb pins s1 σ H1 Q I1 q1
 | false=>exact⟨.bl false,H1,I1,rfl,q1⟩
theorem PZ (ha:PE X a ta) (hb:PE X (.BoolOp .Or (b :: rest) pos) tb):PE X (.BoolOp .Or (a :: b :: rest) pos) (Ww ta tb):=by
 intro pins s σ H Q I h
 refine BoolOp_or (cH (ha pins s σ H _ I h) fun v s1 ⟨x,H1,I1,r1,q1⟩=>?_)
 obtain⟨c,rfl,q1⟩:=q1
 cases r1
 refine wpAny_truthy_bool ?_
 cases c with
 | false=>exact hb pins s1 σ H1 Q I1 q1
 | true=>exact⟨.bl true,H1,I1,rfl,q1⟩
def tIf (t:TT) (ta tb:TE):TE:=fun σ H Q=>t σ H fun c H1=>if c=true then ta σ H1 Q else tb σ H1 Q
theorem qx {c:Expr} (hc:PT X c tA) (ha:PE X a ta) (hb:PE X b tb):PE X (.IfExp c a b pos) (tIf tA ta tb):=by
 intro pins s σ H Q I h
 refine wpAny_IfExp (cH (hc pins s σ H _ I h) fun d s1 ⟨H1,I1,q1⟩=>?_)
 cases d with
 | true=>exact ha pins s1 σ H1 Q I1 q1
 | false=>exact hb pins s1 σ H1 Q I1 q1
end
def bE (K:W.Frag) (H:Hp) (a:Addr) (xs:List V):Prop :=
 Rd H a (.lst xs) ∨
  ∃(o:Obj) (its:Array Value) (n:Nat),K.lookup a=some o∧o.cls=.type "list"∧o.dict=none∧o.data=.seq its n∧its.size≤sizeLine∧Vals xs its.toList
def cB (K:W.Frag) (H:Hp) (a:Addr) (xs:List V):Prop :=
 Rd H a (.tup xs) ∨
  ∃(o:Obj) (its:Array Value) (n:Nat),K.lookup a=some o∧o.cls=.type "tuple"∧o.data=.seq its n∧its.size≤sizeLine∧Vals xs its.toList
def Wx:Value→Option V
 | .none=>some .non
 | .bool b=>some (.bl b)
 | .int i _=>some (.int i)
 | .str x _=>some (.str x)
 | .bytes b _=>some (.GQ b)
 | .float b _=>some (.AV b)
 | .ref a=>some (.ref a)
 | .type n=>some (.ty n)
 | _=>none
theorem RelV.abs {x:V}{u:Value} (r:RelV x u):Wx u=some x:=by
 cases x with
 | non=>cases r;rfl
 | bl _=>cases r;rfl
 | int _=>obtain⟨t,rfl⟩:=r;rfl
 | str _=>obtain⟨t,rfl⟩:=r;rfl
 | GQ _=>obtain⟨t,rfl⟩:=r;rfl
 | AV _=>obtain⟨t,rfl⟩:=r;rfl
 | ref _=>cases r;rfl
 | ty _=>cases r;rfl
theorem RelV.inj {x y:V}{u:Value} (r:RelV x u) (q:RelV y u):x=y:=Option.some.inj (r.abs.symm.trans q.abs)
theorem Vals.inj:∀{xs ys:List V}{us:List Value},Vals xs us→Vals ys us→xs=ys
 | _,_,_,.nil,.nil=>rfl
 | _,_,_,.cons r t,.cons r' t'=>by rw[r.inj r',Vals.inj t t']
section
variable {X:Cx}{pins:List (Addr×Obj)}{σ:St}{H:Hp}{s:Shared}{a:Addr}{xs ys:List V}
theorem bE.of {K:W.Frag} (h:H a=some (.lst xs)):bE K H a xs:=.inl (.inl h)
theorem cB.of {K:W.Frag} (h:H a=some (.tup xs)):cB K H a xs:=.inl (.inl h)
theorem Inv.list (I:Inv X pins σ H s) (h:bE X.K H a xs):∃ its:List Value,Vals xs its∧PlainL s.heap a its.toArray∧xs.length≤sizeLine:=by
 rcases h with h | ⟨o,its,n,hk,hc,hd,hs,hz,r⟩
 ·obtain⟨z,its,n,r,e⟩:=h.ok I.hok
  exact⟨its,r,⟨_,n,e,rfl,rfl,rfl⟩,z⟩
 ·refine⟨its.toList,r,⟨o,n,I.lJ a o hk,hc,hd,by simpa using hs⟩,?_⟩
  have e:=r.length
  simp only[Array.length_toList] at e
  omega
theorem Inv.tuple (I:Inv X pins σ H s) (h:cB X.K H a xs):∃ its:List Value,Vals xs its∧IsTup s.heap a its.toArray∧xs.length≤sizeLine:=by
 rcases h with h | ⟨o,its,n,hk,hc,hs,hz,r⟩
 ·obtain⟨z,its,r,p⟩:=h.ok I.hok
  exact⟨its,r,p,z⟩
 ·refine⟨its.toList,r,⟨o,I.lJ a o hk,hc,n,by simpa using hs⟩,?_⟩
  have e:=r.length
  simp only[Array.length_toList] at e
  omega
theorem Inv.A0 (I:Inv X pins σ H s) (h:bE X.K H a xs) (h':bE X.K H a ys):xs=ys:=by
 obtain⟨its,r,⟨o,n,e,_,_,d⟩,_⟩:=I.list h
 obtain⟨its',r',⟨o',n',e',_,_,d'⟩,_⟩:=I.list h'
 rw[e] at e';cases e'
 rw[d] at d'
 injection d' with d1 _
 have:its=its':=by simpa using congrArg Array.toList d1
 subst this
 exact r.inj r'
theorem Inv.EH (I:Inv X pins σ H s) (h:cB X.K H a xs) (h':cB X.K H a ys):xs=ys:=by
 obtain⟨its,r,⟨o,e,_,n,d⟩,_⟩:=I.tuple h
 obtain⟨its',r',⟨o',e',_,n',d'⟩,_⟩:=I.tuple h'
 rw[e] at e';cases e'
 rw[d] at d'
 injection d' with d1 _
 have:its=its':=by simpa using congrArg Array.toList d1
 subst this
 exact r.inj r'
end
abbrev Cx.tW (X:Cx) (E:Value→Shared→Prop):Cx:={ X with xe:=E }
abbrev Cx.Lz (X:Cx):Cx:=X.tW fun _ _=>False
theorem Cx.Ok.tW {X:Cx} (ok:X.Ok) (E:Value→Shared→Prop):(X.tW E).Ok :=
 ⟨ok.mod,ok.kind,ok.glob,ok.blt,ok.above,ok.inj,ok.has,ok.Pa,ok.hd,ok.frames,ok.stk,ok.Wo,ok.bs,ok.Jw,ok.EG,ok.G7,ok.rM,ok.Lx⟩
theorem Cx.Ok.iY {X:Cx}{E:Value→Shared→Prop} (ok:(X.tW E).Ok):X.Ok :=
 ⟨ok.mod,ok.kind,ok.glob,ok.blt,ok.above,ok.inj,ok.has,ok.Pa,ok.hd,ok.frames,ok.stk,ok.Wo,ok.bs,ok.Jw,ok.EG,ok.G7,ok.rM,ok.Lx⟩
section
variable {X:Cx}{pins:List (Addr×Obj)}{σ:St}{H:Hp}{s:Shared}{E:Value→Shared→Prop}
theorem Inv.tW (I:Inv X pins σ H s) (E:Value→Shared→Prop):Inv (X.tW E) pins σ H s:=⟨I.ok.tW E,I.os,I.bare,I.base,I.loc,I.cell,I.free,I.jE,I.pin,I.hok,I.len⟩
theorem Inv.iY (I:Inv (X.tW E) pins σ H s):Inv X pins σ H s:=⟨I.ok.iY,I.os,I.bare,I.base,I.loc,I.cell,I.free,I.jE,I.pin,I.hok,I.len⟩
theorem SP.iY {D:Ends}{f:Flow}{s':Shared} (h:SP (X.tW E) pins D f s'):SP X pins D f s':=by
 cases f with
 | next=>obtain⟨σ',H',I,q⟩:=h;exact⟨σ',H',I.iY,q⟩
 | brk=>obtain⟨σ',H',I,q⟩:=h;exact⟨σ',H',I.iY,q⟩
 | cont=>obtain⟨σ',H',I,q⟩:=h;exact⟨σ',H',I.iY,q⟩
 | ret u=>obtain⟨v,σ',H',I,r,q⟩:=h;exact⟨v,σ',H',I.iY,r,q⟩
theorem AZ.Lz {st:List Stmt}{t:TS} (h:AZ X.Lz st t):AZ X st t:=fun pins s σ H D I hw =>
 wpAny_mono (h pins s σ H D (I.tW _) hw) (fun _ _ q=>q.iY) fun _ _ z=>False.elim z
end
section
variable {X:Cx}{st:Stmt}{rest:List Stmt}{t u:TS}{e:Expr}{te:TE}{pos:Pos}
def P0:TS:=fun D σ H=>D.nx σ H
def P1 (t u:TS):TS:=fun D σ H=>t { D with nx:=u D } σ H
theorem aE:AZ X [] P0:=fun _ _ σ H _ I h=>wpAny_execs_nil ⟨σ,H,I,h⟩
theorem ao (h1:PS X st t) (h2:AZ X rest u):AZ X (st :: rest) (P1 t u):=by
 intro pins s σ H D I h
 refine wpAny_execs_cons (cH (h1 pins s σ H { D with nx:=u D } I h) fun f s1 q=>?_)
 cases f with
 | next =>
  obtain⟨σ',H',I',q⟩:=q
  exact h2 pins s1 σ' H' D I' q
 | ret v=>exact q
 | brk=>exact q
 | cont=>exact q
theorem aq (h1:PS X st t):AZ X [st] t:=by
 intro pins s σ H D I h
 refine wpAny_execs_cons (cH (h1 pins s σ H D I h) fun f s1 q=>?_)
 cases f with
 | next=>exact wpAny_execs_nil q
 | ret v=>exact q
 | brk=>exact q
 | cont=>exact q
theorem Inv.quiet {pins:List (Addr×Obj)}{σ:St}{H:Hp}{s:Shared} (I:Inv X pins σ H s):interactive X.env=false:=by simp[interactive,I.ok.kind]
def P4 (te:TE):TS:=fun D σ H=>te σ H fun _ H1=>D.nx σ H1
theorem jj (he:PE X e te) (hs:swapsWith e none pos.line X.env=pure false:=by rfl):PS X (.Expr e pos) (P4 te):=by
 intro pins s σ H D I h
 exact wpAny_Expr_any (cH (he pins s σ H _ I h) fun v s1 ⟨x,H1,I1,r1,q1⟩=>⟨σ,H1,I1,q1⟩) I.quiet hs
def Wy (te:TE):TS:=fun D σ H=>te σ H D.rt
theorem aC (he:PE X e te):PS X (.Return (some e) pos) (Wy te):=by
 intro pins s σ H D I h
 exact wpAny_Return_some (cH (he pins s σ H _ I h) fun v s1 ⟨x,H1,I1,r1,q1⟩=>⟨x,σ,H1,I1,r1,q1⟩)
def P5 (c:TT) (t u:TS):TS:=fun D σ H=>c σ H fun b H1=>if b=true then t D σ H1 else u D σ H1
theorem aR {c:Expr}{a b:List Stmt}{tc:TT} (hc:PT X c tc) (ha:AZ X a t) (hb:AZ X b u):PS X (.If c a b pos) (P5 tc t u):=by
 intro pins s σ H D I h
 refine wpAny_If (cH (hc pins s σ H _ I h) fun d s1 ⟨H1,I1,q1⟩=>?_)
 cases d with
 | true=>exact ha pins s1 σ H1 D I1 q1
 | false=>exact hb pins s1 σ H1 D I1 q1
def Mq:TS:=fun _ _ _=>False
theorem jG:PS X st Mq:=fun _ _ _ _ _ _ h=>h.elim
end
abbrev TG:=V→St→Hp→(St→Hp→Prop)→Prop
abbrev LA:=List V→St→Hp→(St→Hp→Prop)→Prop
def PG (X:Cx) (target:Expr) (t:TG):Prop :=
 ∀(pins:List (Addr×Obj)) (s:Shared) (σ:St) (H:Hp) (v:V) (u:Value) (Q:St→Hp→Prop),Inv X pins σ H s→RelV v u→t v σ H Q →
  wpAny (model X.prog X.w) X.A (assign target X.env u) (fun _ s'=>∃ σ' H',Inv X pins σ' H' s'∧Q σ' H') X.xe s
def P6 (X:Cx) (ts:List Expr) (t:LA):Prop :=
 ∀(pins:List (Addr×Obj)) (s:Shared) (σ:St) (H:Hp) (vs:List V) (us:List Value) (Q:St→Hp→Prop),Inv X pins σ H s→Vals vs us→t vs σ H Q →
  wpAny (model X.prog X.w) X.A (assignInOrder ((assignEach ts X.env).map (·.2)) us) (fun _ s'=>∃ σ' H',Inv X pins σ' H' s'∧Q σ' H') X.xe s
section
variable {X:Cx}{pos:Pos}
def d8 (i:Nat):TG:=fun v σ H Q=>Q (σ.set i (some v)) H
theorem JJ {i:Nat}{x:Str} (hN:X.N.Nodup) (hi:X.N[i]? = some x) (hx:Loc X.env.scope x) (hf:X.fn x=true∨X.env.scope.names.lookup x=some .local:=by first | exact .inl rfl | exact .inr rfl | assumption):PG X (.Name x pos) (d8 i):=by
 intro pins s σ H v u Q I r h
 exact wpAny_assign_Name (vv I hN hi hx r (fun s' I'=>⟨_,H,I',h⟩) hf)
def Wz:LA:=fun vs σ H Q=>vs=[]∧Q σ H
def P7 (t:TG) (u:LA):LA:=fun vs σ H Q=>∃ v r,vs=v :: r∧t v σ H fun σ' H'=>u r σ' H' Q
theorem u0:P6 X [] Wz:=by
 intro pins s σ H vs us Q I r h
 obtain⟨e,h⟩:=h
 subst e
 cases r
 exact assignInOrder_nil ⟨σ,H,I,h⟩
theorem iN {e:Expr}{es:List Expr}{t:TG}{u:LA} (h1:PG X e t) (h2:P6 X es u)
  (hs:(assignEach (e :: es) X.env).map (·.2)=assign e X.env :: (assignEach es X.env).map (·.2):=by rfl):P6 X (e :: es) (P7 t u):=by
 intro pins s σ H vs us Q I r h
 obtain⟨v,vr,e1,h⟩:=h
 subst e1
 cases r with
 | cons r rr =>
  rw[hs]
  refine assignInOrder_cons (cH (h1 pins s σ H _ _ _ I r h) fun _ s1 ⟨σ1,H1,I1,q1⟩=>?_)
  exact h2 pins s1 σ1 H1 _ _ Q I1 rr q1
def P8 (K:W.Frag) (n:Nat) (t:LA):TG:=fun v σ H Q=>∃ a xs,v=.ref a∧cB K H a xs∧xs.length=n∧t xs σ H Q
theorem Mr {es:List Expr}{k:Nat}{t:LA}{n:Nat} (hc:X.calm=true) (h:P6 X es t)
  (hn:(assignEach es X.env).length=n:=by rfl) (hst:(assignEach es X.env).findIdx? (·.1)=none:=by rfl):PG X (.Tuple es k pos) (P8 X.K n t):=by
 intro pins s σ H v u Q I r hw
 obtain⟨a,xs,e1,hq,hl,hw⟩:=hw
 subst e1
 cases r
 obtain⟨its,rv,ht,hz⟩:=I.tuple hq
 refine assign_Tuple_tuple (I.ok.hd hc) ht (by simp[hn,←hl,rv.length]) hst fun h' hx=>?_
 have I1:Inv X pins σ H { s with heap:=h' }:=I.kept (t':=s.toks) fun b o e=>hx b o (Nat.ne_of_lt (Heap.lt_size e)) e
 exact h pins _ σ H xs _ Q I1 (by simpa using rv) hw
def JK (te:TE) (g:TG):TS:=fun D σ H=>te σ H fun x H1=>g x σ H1 D.nx
theorem Ck {tg e:Expr}{te:TE}{g:TG} (he:PE X e te) (hg:PG X tg g) (hs:swapsWithSole [tg] e pos.line X.env=pure false:=by rfl) (hw:swappedStores [tg] e X.env=pure none:=by rfl)
  (h1:(assignEach [tg] X.env).map (·.2)=[assign tg X.env]:=by rfl):PS X (.Assign [tg] e pos) (JK te g):=by
 intro pins s σ H D I h
 refine wpAny_Assign_stores (cH (he pins s σ H _ I h) fun v s1 ⟨x,H1,I1,r1,q1⟩=>?_) hs hw
 rw[h1]
 exact cH (hg pins s1 σ H1 x v _ I1 r1 q1) fun _ s2 q=>q
theorem Cn {i:Nat}{x:Str}{e:Expr}{te:TE}{pos':Pos} (hN:X.N.Nodup) (hi:X.N[i]? = some x) (hx:Loc X.env.scope x) (he:PE X e te) (hs:swapsWith e (some (.Name x pos')) pos.line X.env=pure false:=by rfl) (hf:X.fn x=true∨X.env.scope.names.lookup x=some .local:=by first | exact .inl rfl | exact .inr rfl | assumption) :
  PS X (.Assign [.Name x pos'] e pos) (JK te (d8 i)):=by
 intro pins s σ H D I h
 refine wpAny_Assign_Name (cH (he pins s σ H _ I h) fun v s1 ⟨y,H1,I1,r1,q1⟩=>?_) hs
 exact vv I1 hN hi hx r1 (fun s2 I2=>⟨_,H1,I2,q1⟩) hf
end
section
variable {X:Cx}{pos:Pos}
def Ms (c:TT) (tb:TS):TS:=fun D σ H=>∃ W:Nat→St→Hp→Prop,(∃ m,W m σ H)∧∀ m σ H,W m σ H →
 c σ H fun b H1=>if b=true then ∃ N:St→Hp→Prop,(∀ σ' H',N σ' H'→∃ m',m' < m∧W m' σ' H')∧tb { D with nx:=N,ct:=N,bk:=D.nx } σ H1 else D.nx σ H1
theorem A4 {c:Expr}{body:List Stmt}{tc:TT}{tb:TS} (hp:PassesOwn (model X.prog X.w) X.A X.env X.xe) (hc:PT X c tc) (hb:AZ X body tb):PS X (.While c body [] pos) (Ms tc tb):=by
 intro pins s σ H D I h
 obtain⟨W,⟨m0,w0⟩,turn⟩:=h
 refine wpAny_While (codeAny_whileLoop (fun n s'=>∃ σ' H',Inv X pins σ' H' s'∧W n σ' H') ?_ m0 ⟨σ,H,I,w0⟩)
 rintro n s1 ⟨σ1,H1,I1,w1⟩
 refine wpAny_passesOwn hp (cH (hc pins s1 σ1 H1 _ I1 (turn n σ1 H1 w1)) fun b s2 ⟨H2,I2,q2⟩=>?_)
 cases b with
 | true =>
  obtain⟨N,hN,q2⟩:=q2
  rw[if_pos rfl]
  refine wpAny_passesOwn hp (cH (hb pins s2 σ1 H2 _ I2 q2) fun f s3 q3=>?_)
  cases f with
  | next =>
   obtain⟨σ3,H3,I3,n3⟩:=q3
   obtain⟨m',hm,w3⟩:=hN σ3 H3 n3
   exact⟨m',hm,σ3,H3,I3,w3⟩
  | cont =>
   obtain⟨σ3,H3,I3,n3⟩:=q3
   obtain⟨m',hm,w3⟩:=hN σ3 H3 n3
   exact⟨m',hm,σ3,H3,I3,w3⟩
  | brk=>exact q3
  | ret v=>exact q3
 | false =>
  rw[if_neg Bool.false_ne_true]
  exact wpAny_execs_nil ⟨σ1,H2,I2,q2⟩
end
structure It where
 go:Nat→Hp→Prop
 Jy:Nat→Hp→V→Hp→Prop
 stop:Nat→Hp→Prop
def qy (X:Cx) (pins:List (Addr×Obj)) (H:Hp) (b:Addr):Prop :=
 H b=none∧b≠X.env.locals∧b∉X.fs∧(b∈X.ex∨X.s₀.heap.objs.size≤b)∧(∀ x c,X.env.cells.lookup x=some c→c≠b)∧∀ p∈X.pn++pins,p.1≠b
theorem Inv.zu {X:Cx}{pins:List (Addr×Obj)}{σ:St}{H H':Hp}{s:Shared}{b:Addr} (I:Inv X pins σ H s) (hb:s.heap.objs.size≤b) (hn:H' b=none):qy X pins H' b:=by
 refine⟨hn,Nat.ne_of_gt (Nat.lt_of_lt_of_le I.lt hb),I.Wr hb,.inr (Nat.le_trans I.sz hb),fun x c e z=>?_,fun p hp z=>?_⟩
 ·obtain⟨v,q⟩:=I.cell x c e
  exact absurd (Nat.lt_of_lt_of_le q.lt (by rw[z];exact hb)) (Nat.lt_irrefl _)
 ·exact absurd (Nat.lt_of_lt_of_le (Heap.lt_size (I.pin p hp).1) (by rw[z];exact hb)) (Nat.lt_irrefl _)
structure Turn (P:Program) (w:World) (K:W.Frag) (tg:Expr) (J:It) (fp:List Addr) (it:Addr) (tn:Nat→Heap→Prop):Prop where
 mem:it∈fp
 obj:∀ i h,tn i h→∀ b∈fp,∃ o,h.get? b=some o∧∀ v,o.data≠.cell v
 keep:∀ i h h',tn i h→(∀ b∈fp,∀ o,h.get? b=some o→h'.get? b=some o)→tn i h'
 item:∀(X:Cx),X.prog=P→X.w=w→X.K=K→X.calm=true→∀(i:Nat) (pins:List (Addr×Obj)) (s:Shared) (σ:St) (H:Hp) (E:Value→Shared→Prop),Inv X pins σ H s→(∀ b∈fp,qy X pins H b)→tn i s.heap→J.go i H →
  wpAny (model P w) X.A (pyNext (.ref it)) (fun r s1=>∃ u,r=some u ∧
   wpAny (model P w) X.A (letOwnedTupleGo tg (.ref it) u) (fun _ s2=>∃ x H',Inv X pins σ H' s2∧RelV x u∧J.Jy i H x H'∧tn (i+1) s2.heap∧∀ b∈fp,H' b=none) E s1) E s
 done:∀(X:Cx),X.prog=P→X.w=w→X.K=K→X.calm=true→∀(i:Nat) (pins:List (Addr×Obj)) (s:Shared) (σ:St) (H:Hp) (E:Value→Shared→Prop),Inv X pins σ H s→(∀ b∈fp,qy X pins H b)→tn i s.heap→J.stop i H →
  wpAny (model P w) X.A (pyNext (.ref it)) (fun r s1=>r=none∧Inv X pins σ H s1) E s
 self:∀(A:Around) (i:Nat) (s:Shared) (Q:Value→Shared→Prop) (E:Value→Shared→Prop),tn i s.heap→Q (.ref it) s→wpAny (model P w) A (pyIter (.ref it)) Q E s
abbrev TI:=St→Hp→(It→Hp→Prop)→Prop
def PIE (X:Cx) (pins:List (Addr×Obj)) (σ:St) (tg:Expr) (R:It→Hp→Prop) (itv:Value) (s2:Shared):Prop :=
 ∃(it:Addr) (fp:List Addr) (tn:Nat→Heap→Prop) (J:It) (H':Hp),itv=.ref it∧Inv X pins σ H' s2∧Turn X.prog X.w X.K tg J fp it tn∧tn 0 s2.heap∧(∀ b∈fp,qy X pins H' b)∧R J H'
def PI (X:Cx) (tg iter:Expr) (wi:TI):Prop :=
 ∀(pins:List (Addr×Obj)) (s:Shared) (σ:St) (H:Hp) (R:It→Hp→Prop),Inv X pins σ H s→wi σ H R →
  wpAny (model X.prog X.w) X.A (eval iter X.env) (fun v s1=>wpAny (model X.prog X.w) X.A (pyIter v) (PIE X pins σ tg R) X.xe s1) X.xe s
theorem A5 {M:Model}{A:Around}{E:Value→Shared→Prop}{s:Shared}{tg:Expr}{it:Addr}{u:Value}{o:Obj}{n:String}{vs:Array Value}{Q:Unit→Shared→Prop} (ho:s.heap.get? it=some o) (hc:o.cls=.type n) (hd:o.data=.fields vs)
   (hn:["enumerate", "zip", "dict_itemiterator", "dict_reverseitemiterator", "odict_iterator", "itertools.zip_longest", "itertools.pairwise"].contains n=false) (hQ:Q () s):wpAny M A (letOwnedTupleGo tg (.ref it) u) Q E s:=by
 unfold letOwnedTupleGo
 cases tg <;> first
   | exact wpAny_pure hQ
   | (cases u <;> first
       | exact wpAny_pure hQ
       | (refine wpAny_bind (wpAny_load ho ?_)
          rw[hc,hd]
          show wpAny M A (if (["enumerate", "zip", "dict_itemiterator", "dict_reverseitemiterator", "odict_iterator", "itertools.zip_longest", "itertools.pairwise"].contains n && vs[0]? == some (rawInt _))=true then _ else _) Q E s
          rw[if_neg (by intro h;rw[hn,Bool.false_and] at h;cases h)]
          exact wpAny_pure hQ))
def Pb (K:W.Frag) (a:Addr):It :=
 ⟨fun i H=>∃ xs x,bE K H a xs∧xs[i]? = some x,fun i H x H'=>H'=H∧∀ xs,bE K H a xs→xs[i]? = some x,fun i H=>∃ xs,bE K H a xs∧xs.length≤i⟩
def P9 (K:W.Frag) (a:Addr):It :=
 ⟨fun i H=>∃ xs x,cB K H a xs∧xs[i]? = some x,fun i H x H'=>H'=H∧∀ xs,cB K H a xs→xs[i]? = some x,fun i H=>∃ xs,cB K H a xs∧xs.length≤i⟩
def Mt (lo:Int) (n:Nat):It:=⟨fun i _=>i < n,fun i H x H'=>H'=H∧x=.int (lo+i),fun i _=>n≤i⟩
theorem EI {P:Program}{w:World}{K:W.Frag}{tg:Expr} (a it:Addr):Turn P w K tg (Pb K a) [it] it (fun i h=>h.IsListIter it a i) where
 mem:=by simp
 obj:=fun i h st b hb=>by
  have e:b=it:=by simpa using hb
  subst e
  obtain⟨o,e,c,d⟩:=st
  exact⟨o,e,fun v z=>by rw[d] at z;cases z⟩
 keep:=fun i h h' st k=>st.at fun o e=>k it (by simp) o e
 item:=by
  intro X hP hw hK hc i pins s σ H E I hf st hg
  subst hP hw hK
  obtain⟨xs,x,hq,hx⟩:=hg
  obtain⟨its,rv,p,hz⟩:=I.list hq
  obtain⟨u,hu,ru⟩:=rv.get hx
  obtain⟨f0,f1,f2,f3,f4,f5⟩:=hf it (by simp)
  refine wpAny_pyNext_list_item st p.isList (x:=u) (by simpa using hu) fun h' st' sb=>?_
  have I1:Inv X pins σ H { s with heap:=h' }:=I.turned (t':=s.toks) (fun b o hb e=>(sb.2 b hb).trans e) f0 f1 f3 f4 f5
  obtain⟨o,e,c,d⟩:=id st'
  exact⟨u,rfl,A5 (s:={ s with heap:=h' }) e c d (by decide) ⟨x,H,I1,ru,⟨rfl,fun ys hy=>by rw[I.A0 hy hq];exact hx⟩,st',fun b hb=>(hf b hb).1⟩⟩
 done:=by
  intro X hP hw hK hc i pins s σ H E I hf st hg
  subst hP hw hK
  obtain⟨xs,hq,hx⟩:=hg
  obtain⟨its,rv,p,hz⟩:=I.list hq
  obtain⟨f0,f1,f2,f3,f4,f5⟩:=hf it (by simp)
  have hl:=rv.length
  exact wpAny_pyNext_list_end (I.ok.hd hc) st p.isList (by simp;omega) fun h' eb=>⟨rfl,I.turned (t':=s.toks) (fun b o hb e=>eb b o hb e) f0 f1 f3 f4 f5⟩
 self:=fun _ _ _ _ _ st h=>wpAny_pyIter_listiter st h
theorem Co {P:Program}{w:World}{K:W.Frag}{tg:Expr} (a it:Addr):Turn P w K tg (P9 K a) [it] it (fun i h=>h.IsTupleIter it a i) where
 mem:=by simp
 obj:=fun i h st b hb=>by
  have e:b=it:=by simpa using hb
  subst e
  obtain⟨o,e,c,d⟩:=st
  exact⟨o,e,fun v z=>by rw[d] at z;cases z⟩
 keep:=fun i h h' st k=>st.at fun o e=>k it (by simp) o e
 item:=by
  intro X hP hw hK hc i pins s σ H E I hf st hg
  subst hP hw hK
  obtain⟨xs,x,hq,hx⟩:=hg
  obtain⟨its,rv,p,hz⟩:=I.tuple hq
  obtain⟨u,hu,ru⟩:=rv.get hx
  obtain⟨f0,f1,f2,f3,f4,f5⟩:=hf it (by simp)
  refine wpAny_pyNext_tuple_item st (show s.heap.IsTuple a its.toArray from p) (x:=u) (by simpa using hu) fun h' st' sb=>?_
  have I1:Inv X pins σ H { s with heap:=h' }:=I.turned (t':=s.toks) (fun b o hb e=>(sb.2 b hb).trans e) f0 f1 f3 f4 f5
  obtain⟨o,e,c,d⟩:=id st'
  exact⟨u,rfl,A5 (s:={ s with heap:=h' }) e c d (by decide) ⟨x,H,I1,ru,⟨rfl,fun ys hy=>by rw[I.EH hy hq];exact hx⟩,st',fun b hb=>(hf b hb).1⟩⟩
 done:=by
  intro X hP hw hK hc i pins s σ H E I hf st hg
  subst hP hw hK
  obtain⟨xs,hq,hx⟩:=hg
  obtain⟨its,rv,p,hz⟩:=I.tuple hq
  obtain⟨f0,f1,f2,f3,f4,f5⟩:=hf it (by simp)
  have hl:=rv.length
  exact wpAny_pyNext_tuple_end (I.ok.hd hc) st (show s.heap.IsTuple a its.toArray from p) (by simp;omega) fun h' eb=>⟨rfl,I.turned (t':=s.toks) (fun b o hb e=>eb b o hb e) f0 f1 f3 f4 f5⟩
 self:=fun _ _ _ _ _ st h=>wpAny_pyIter_tupleiter st h
theorem Cp {P:Program}{w:World}{K:W.Frag}{tg:Expr} (it:Addr) (lo:Int) (n:Nat):Turn P w K tg (Mt lo n) [it] it (fun i h=>IsRangeIter h it (lo+(i:Nat) * 1) ((n:Int) - (i:Nat)) 1) where
 mem:=by simp
 obj:=fun i h st b hb=>by
  have e:b=it:=by simpa using hb
  subst e
  exact⟨_,st,fun v z=>by
   have z':Data.fields _=Data.cell v:=z
   cases z'⟩
 keep:=fun i h h' st k=>k it (by simp) _ st
 item:=by
  intro X hP hw hK hc i pins s σ H E I hf st hg
  subst hP hw hK
  obtain⟨f0,f1,f2,f3,f4,f5⟩:=hf it (by simp)
  have W:=Walks.range (prog:=X.prog) (w:=X.w) (I.ok.hd hc) it lo 1 n
  refine W.item i s _ _ hg st fun v h' tk hv st' kk=>?_
  obtain⟨t,rfl⟩:=hv
  have I1:Inv X pins σ H { s with heap:=h',toks:=tk }:=I.turned (fun b o hb e=>kk b o (by simpa using hb) e) f0 f1 f3 f4 f5
  refine⟨_,rfl,A5 (s:={ s with heap:=h',toks:=tk }) (n := "range_iterator") st' rfl rfl (by decide) ⟨.int (lo+i),H,I1,⟨t,?_⟩,⟨rfl,rfl⟩,st',fun b hb=>(hf b hb).1⟩⟩
  rw[Int.mul_one]
 done:=by
  intro X hP hw hK hc i pins s σ H E I hf st hg
  subst hP hw hK
  obtain⟨f0,f1,f2,f3,f4,f5⟩:=hf it (by simp)
  exact wpAny_pyNext_range_end (I.ok.hd hc) st (by have:n≤i:=hg;omega) fun h' eb=>⟨rfl,I.turned (t':=s.toks) (fun b o hb e=>eb b o hb e) f0 f1 f3 f4 f5⟩
 self:=fun _ _ _ _ _ st h=>wpAny_pyIter_rangeiter st h
section
variable {X:Cx}{tg:Expr}
def LB (K:W.Frag) (tl:TE):TI:=fun σ H R=>tl σ H fun x H1=>∃ a,x=.ref a∧(∃ xs,bE K H1 a xs)∧R (Pb K a) H1
def Qa (K:W.Frag) (tl:TE):TI:=fun σ H R=>tl σ H fun x H1=>∃ a,x=.ref a∧(∃ xs,cB K H1 a xs)∧R (P9 K a) H1
theorem JL {l:Expr}{tl:TE} (hl:PE X l tl):PI X tg l (LB X.K tl):=by
 intro pins s σ H R I h
 refine cH (hl pins s σ H _ I h) fun v s1 ⟨x,H1,I1,r1,q1⟩=>?_
 obtain⟨a,e,⟨xs,hq⟩,q⟩:=q1
 subst e
 cases r1
 obtain⟨its,rv,p,hz⟩:=I1.list hq
 refine wpAny_pyIter_list p.isList ?_
 refine⟨s1.heap.objs.size,[s1.heap.objs.size],_,_,H1,rfl,I1.kept (t':=s1.toks) fun b o e=>Heap.get?_push_of_some _ e,EI a _,⟨_,Heap.get?_push_size _ rfl,rfl,rfl⟩,fun b hb=>?_,q⟩
 have e:b=s1.heap.objs.size:=by simpa using hb
 subst e
 exact I1.zu (Nat.le_refl _) (I1.hok.fresh (Nat.le_refl _))
theorem Mu {l:Expr}{tl:TE} (hl:PE X l tl):PI X tg l (Qa X.K tl):=by
 intro pins s σ H R I h
 refine cH (hl pins s σ H _ I h) fun v s1 ⟨x,H1,I1,r1,q1⟩=>?_
 obtain⟨a,e,⟨xs,hq⟩,q⟩:=q1
 subst e
 cases r1
 obtain⟨its,rv,p,hz⟩:=I1.tuple hq
 refine wpAny_pyIter_tuple (show s1.heap.IsTuple a its.toArray from p) ?_
 refine⟨s1.heap.objs.size,[s1.heap.objs.size],_,_,H1,rfl,I1.kept (t':=s1.toks) fun b o e=>Heap.get?_push_of_some _ e,Co a _,⟨_,Heap.get?_push_size _ rfl,rfl,rfl⟩,fun b hb=>?_,q⟩
 have e:b=s1.heap.objs.size:=by simpa using hb
 subst e
 exact I1.zu (Nat.le_refl _) (I1.hok.fresh (Nat.le_refl _))
theorem Hf {pins:List (Addr×Obj)}{σ:St}{H:Hp}{s:Shared}{R:It→Hp→Prop}{E:Value→Shared→Prop}{lo hi:Int}{t u v:Tok}{tk:Nat} (I:Inv X pins σ H s) (h1 : -(2 ^ 62)≤lo) (h2:lo < 2 ^ 62) (h3 : -(2 ^ 62)≤hi) (h4:hi < 2 ^ 62)
  (q:R (Mt lo (hi - lo).toNat) H):wpAny (model X.prog X.w) X.A (pyIter (.ref s.heap.objs.size)) (PIE X pins σ tg R) E { s with heap:=s.heap.push { cls:=.type "range",data:=.fields #[.int lo t,.int hi u,.int 1 v] },toks:=tk }:=by
 refine wpAny_pyIter_range (IsRange.new ..) (small_one h1 h2 h3 h4) ?_
 have I1:Inv X pins σ H { s with heap:=s.heap.push { cls:=.type "range",data:=.fields #[.int lo t,.int hi u,.int 1 v] },toks:=tk }:=I.kept fun b o e=>Heap.get?_push_of_some _ e
 refine⟨(s.heap.push { cls:=.type "range",data:=.fields #[.int lo t,.int hi u,.int 1 v] }).objs.size,[(s.heap.push { cls:=.type "range",data:=.fields #[.int lo t,.int hi u,.int 1 v] }).objs.size],_,_,H,rfl,
  I1.kept (t':=tk) fun b o e=>Heap.get?_push_of_some _ e,Cp _ lo (hi - lo).toNat,?_,fun b hb=>?_,q⟩
 ·have e1:lo+((0:Nat):Int) * 1=lo:=by simp
  have e2:(((hi - lo).toNat:Nat):Int) - ((0:Nat):Int)=Builtin.Range.rangeSize lo hi 1:=by rw[rangeSize_one];split <;> omega
  show IsRangeIter _ _ (lo+((0:Nat):Int) * 1) ((((hi - lo).toNat:Nat):Int) - ((0:Nat):Int)) 1
  rw[e1,e2]
  exact Heap.get?_push_size _ rfl
 ·have e:b=(s.heap.push { cls:=.type "range",data:=.fields #[.int lo t,.int hi u,.int 1 v] }).objs.size:=by simpa using hb
  subst e
  exact I1.zu (Nat.le_refl _) (I1.hok.fresh (Nat.le_refl _))
def Qc (ta:TA):TI:=fun σ H R=>ta σ H fun vs H1=>∃ j:Int,vs=[.int j]∧-(2 ^ 62)≤j∧j < 2 ^ 62∧R (Mt 0 j.toNat) H1
theorem rO {a:Expr}{ta:TA}{p pos:Pos} (hg:Gl X "range") (hm:X.mg "range" = none) (ha:PA X [a] ta) (hs:starEach [a] X.env=[(false,eval a X.env)]:=by rfl):PI X tg (.Call (.Name "range" p) [a] [] pos) (Qc ta):=by
 intro pins s σ H R I h
 refine Call_ (rN I hg hm boot_range (PyProof.Rows.callWith_type1 (cH (ha pos pins s σ H _ I h) fun us s1 ⟨vs,H1,I1,r1,q1⟩=>?_) hs rfl))
 obtain⟨j,e,q1,q2,q⟩:=q1
 subst e
 cases r1 with
 | cons r rr =>
  cases rr
  obtain⟨t,rfl⟩:=r
  exact call_range_1 (Hf I1 (by omega) (by omega) q1 q2 (by simpa using q))
def WA (wi:TI) (g:TG) (tb:TS):TS:=fun D σ H=>wi σ H fun J H1=>∃ W:Nat→Nat→St→Hp→Prop,(∃ m,W 0 m σ H1)∧∀ i m σ H,W i m σ H →
 (J.stop i H∧D.nx σ H)∨(J.go i H∧∃ N:St→Hp→Prop,(∀ σ' H',N σ' H'→∃ m',m' < m∧W (i+1) m' σ' H')∧∀ x H',J.Jy i H x H'→g x σ H' fun σ2 H2=>tb { D with nx:=N,ct:=N,bk:=D.nx } σ2 H2)
def vz (fp:List Addr) (h:Heap):List (Addr×Obj):=fp.filterMap fun b=>(h.get? b).map fun o=>(b,o)
theorem lN {fp:List Addr}{h:Heap}{b:Addr}{o:Obj} (hb:b∈fp) (e:h.get? b=some o):(b,o)∈vz fp h:=List.mem_filterMap.mpr ⟨b,hb,by rw[e];rfl⟩
theorem EJ {fp:List Addr}{h:Heap}{p:Addr×Obj} (hp:p∈vz fp h):p.1∈fp∧h.get? p.1=some p.2:=by
 obtain⟨b,hb,e⟩:=List.mem_filterMap.mp hp
 cases q:h.get? b with
 | none=>rw[q] at e;cases e
 | some o =>
  rw[q] at e
  have e':(b,o)=p:=Option.some.inj e
  subst e'
  exact⟨hb,q⟩
theorem Inv.pinned {pins:List (Addr×Obj)}{σ:St}{H:Hp}{s:Shared}{fp:List Addr} (I:Inv X pins σ H s) (hf:∀ b∈fp,qy X pins H b) (ho:∀ b∈fp,∃ o,s.heap.get? b=some o∧∀ v,o.data≠.cell v):Inv X (pins++vz fp s.heap) σ H s :=
 I.DY fun p hp=>(List.mem_append.mp hp).elim (fun z=>I.pin p (List.mem_append_right _ z)) fun z=>by
  obtain⟨hb,e⟩:=EJ z
  obtain⟨f0,f1,f2,_⟩:=hf p.1 hb
  obtain⟨o,e',d⟩:=ho p.1 hb
  rw[e] at e';cases e'
  exact⟨e,f0,f1,f2,d⟩
theorem Inv.qz {pins pl:List (Addr×Obj)}{σ:St}{H:Hp}{s:Shared} (I:Inv X (pins++pl) σ H s):Inv X pins σ H s:=I.DY fun p hp=>I.pin p (List.mem_append_right _ (List.mem_append_left _ hp))
theorem kJ {iter:Expr}{body:List Stmt}{wi:TI}{g:TG}{tb:TS}{pos:Pos} (hp:PassesOwn (model X.prog X.w) X.A X.env X.xe) (hc:X.calm=true) (hi:PI X tg iter wi) (hg:PG X tg g) (hb:AZ X body tb)
  (hs:∀ x,foldedSetIterable iter X.env x=pure x:=by intro _;rfl):PS X (.For tg iter body [] pos) (WA wi g tb):=by
 intro pins s σ H D I h
 refine wpAny_For (cH (hi pins s σ H _ I h) fun v s1 h1=>cH h1 fun itv s2 h2=>?_) hs
 obtain⟨it,fp,tn,J,H2,e,I2,T,st2,f2,W,⟨m0,w0⟩,turn⟩:=h2
 subst e
 have Cq:∀{H':Hp},(∀ b∈fp,H' b=none)→∀ b∈fp,qy X pins H' b:=fun hn b hb=>⟨hn b hb,(f2 b hb).2⟩
 refine codeAny_forLoop_any (fun n s'=>∃ i σ' H',Inv X pins σ' H' s'∧tn i s'.heap∧(∀ b∈fp,H' b=none)∧W i n σ' H') ?_ m0 ⟨0,σ,H2,I2,st2,fun b hb=>(f2 b hb).1,w0⟩
 rintro n s3 ⟨i,σ3,H3,I3,st3,fr3,w3⟩
 rcases turn i n σ3 H3 w3 with ⟨stop,qn⟩ | ⟨go,N,hN,step⟩
 ·refine wpAny_passesOwn hp (cH (T.done X rfl rfl rfl hc i pins s3 σ3 H3 X.xe I3 (Cq fr3) st3 stop) fun r s4 ⟨hr,I4⟩=>?_)
  subst hr
  exact wpAny_execs_nil ⟨σ3,H3,I4,qn⟩
 ·refine wpAny_passesOwn hp (cH (T.item X rfl rfl rfl hc i pins s3 σ3 H3 X.xe I3 (Cq fr3) st3 go) fun r s4 ⟨u,hr,h4⟩=>?_)
  subst hr
  refine wpAny_passesOwn hp (cH h4 fun _ s5 ⟨x,H5,I5,r5,y5,WB,fr5⟩=>?_)
  have I5':=I5.pinned (Cq fr5) (T.obj _ _ WB)
  refine wpAny_passesOwn hp (cH (hg _ s5 σ3 H5 x u _ I5' r5 (step x H5 y5)) fun _ s6 ⟨σ6,H6,I6,q6⟩=>?_)
  refine wpAny_passesOwn hp (cH (hb _ s6 σ6 H6 _ I6 q6) fun f s7 q7=>?_)
  have again:∀{σ7:St}{H7:Hp},Inv X (pins++vz fp s5.heap) σ7 H7 s7→N σ7 H7→∃ m,m < n∧∃ i σ' H',Inv X pins σ' H' s7∧tn i s7.heap∧(∀ b∈fp,H' b=none)∧W i m σ' H':=fun {σ7 H7} I7 n7=>by
   obtain⟨m',hm,w7⟩:=hN σ7 H7 n7
   refine⟨m',hm,i+1,σ7,H7,I7.qz,T.keep _ _ _ WB fun b hb o e=>(I7.pin (b,o) (List.mem_append_right _ (List.mem_append_right _ (lN hb e)))).1,fun b hb=>?_,w7⟩
   obtain⟨o,e,d⟩:=T.obj _ _ WB b hb
   exact(I7.pin (b,o) (List.mem_append_right _ (List.mem_append_right _ (lN hb e)))).2.1
  cases f with
  | next=>obtain⟨σ7,H7,I7,n7⟩:=q7;exact again I7 n7
  | cont=>obtain⟨σ7,H7,I7,n7⟩:=q7;exact again I7 n7
  | brk=>obtain⟨σ7,H7,I7,q7⟩:=q7;exact⟨σ7,H7,I7.qz,q7⟩
  | ret v=>obtain⟨x7,σ7,H7,I7,r7,q7⟩:=q7;exact⟨x7,σ7,H7,I7.qz,r7,q7⟩
end
theorem kW {K:W.Frag}{a:Addr}{xs:List V}{g:TG}{tb:TS}{D:Ends}{σ:St}{H:Hp} (Pv:Nat→St→Hp→Prop) (h0:Pv 0 σ H) (hl:∀ i σ H,i≤xs.length→Pv i σ H→bE K H a xs)
  (hs:∀ i x σ H,xs[i]? = some x→Pv i σ H→g x σ H fun σ2 H2=>tb { D with nx:=Pv (i+1),ct:=Pv (i+1),bk:=D.nx } σ2 H2) (hd:∀ σ H,Pv xs.length σ H→D.nx σ H) :
  ∃ W:Nat→Nat→St→Hp→Prop,(∃ m,W 0 m σ H)∧∀ i m σ H,W i m σ H →
   ((Pb K a).stop i H∧D.nx σ H)∨((Pb K a).go i H∧∃ N:St→Hp→Prop,(∀ σ' H',N σ' H'→∃ m',m' < m∧W (i+1) m' σ' H')∧∀ x H',(Pb K a).Jy i H x H'→g x σ H' fun σ2 H2=>tb { D with nx:=N,ct:=N,bk:=D.nx } σ2 H2):=by
 refine⟨fun i m σ H=>m=xs.length - i∧i≤xs.length∧Pv i σ H,⟨xs.length,by simp,Nat.zero_le _,h0⟩,?_⟩
 rintro i m σ H ⟨rfl,hi,p⟩
 have q:=hl i σ H hi p
 by_cases hlt:i < xs.length
 ·refine .inr ⟨⟨xs,xs[i],q,by simp[hlt]⟩,Pv (i+1),fun σ' H' p'=>⟨xs.length - (i+1),by omega,rfl,hlt,p'⟩,fun x H' y=>?_⟩
  obtain⟨e,y⟩:=y
  subst e
  exact hs i x σ _ (y xs q) p
 ·have e:i=xs.length:=by omega
  subst e
  exact .inl ⟨⟨xs,q,Nat.le_refl _⟩,hd σ H p⟩
theorem JM {K:W.Frag}{a:Addr}{xs:List V}{g:TG}{tb:TS}{D:Ends}{σ:St}{H:Hp} (Pv:Nat→St→Hp→Prop) (h0:Pv 0 σ H) (hl:∀ i σ H,i≤xs.length→Pv i σ H→cB K H a xs)
  (hs:∀ i x σ H,xs[i]? = some x→Pv i σ H→g x σ H fun σ2 H2=>tb { D with nx:=Pv (i+1),ct:=Pv (i+1),bk:=D.nx } σ2 H2) (hd:∀ σ H,Pv xs.length σ H→D.nx σ H) :
  ∃ W:Nat→Nat→St→Hp→Prop,(∃ m,W 0 m σ H)∧∀ i m σ H,W i m σ H →
   ((P9 K a).stop i H∧D.nx σ H)∨((P9 K a).go i H∧∃ N:St→Hp→Prop,(∀ σ' H',N σ' H'→∃ m',m' < m∧W (i+1) m' σ' H')∧∀ x H',(P9 K a).Jy i H x H'→g x σ H' fun σ2 H2=>tb { D with nx:=N,ct:=N,bk:=D.nx } σ2 H2):=by
 refine⟨fun i m σ H=>m=xs.length - i∧i≤xs.length∧Pv i σ H,⟨xs.length,by simp,Nat.zero_le _,h0⟩,?_⟩
 rintro i m σ H ⟨rfl,hi,p⟩
 have q:=hl i σ H hi p
 by_cases hlt:i < xs.length
 ·refine .inr ⟨⟨xs,xs[i],q,by simp[hlt]⟩,Pv (i+1),fun σ' H' p'=>⟨xs.length - (i+1),by omega,rfl,hlt,p'⟩,fun x H' y=>?_⟩
  obtain⟨e,y⟩:=y
  subst e
  exact hs i x σ _ (y xs q) p
 ·have e:i=xs.length:=by omega
  subst e
  exact .inl ⟨⟨xs,q,Nat.le_refl _⟩,hd σ H p⟩
theorem EK {lo:Int}{n:Nat}{g:TG}{tb:TS}{D:Ends}{σ:St}{H:Hp} (Pv:Nat→St→Hp→Prop) (h0:Pv 0 σ H)
  (hs:∀ i σ H,i < n→Pv i σ H→g (.int (lo+i)) σ H fun σ2 H2=>tb { D with nx:=Pv (i+1),ct:=Pv (i+1),bk:=D.nx } σ2 H2) (hd:∀ σ H,Pv n σ H→D.nx σ H) :
  ∃ W:Nat→Nat→St→Hp→Prop,(∃ m,W 0 m σ H)∧∀ i m σ H,W i m σ H →
   ((Mt lo n).stop i H∧D.nx σ H)∨((Mt lo n).go i H∧∃ N:St→Hp→Prop,(∀ σ' H',N σ' H'→∃ m',m' < m∧W (i+1) m' σ' H')∧∀ x H',(Mt lo n).Jy i H x H'→g x σ H' fun σ2 H2=>tb { D with nx:=N,ct:=N,bk:=D.nx } σ2 H2):=by
 refine⟨fun i m σ H=>m=n - i∧i≤n∧Pv i σ H,⟨n,by simp,Nat.zero_le _,h0⟩,?_⟩
 rintro i m σ H ⟨rfl,hi,p⟩
 by_cases hlt:i < n
 ·refine .inr ⟨hlt,Pv (i+1),fun σ' H' p'=>⟨n - (i+1),by omega,rfl,hlt,p'⟩,fun x H' y=>?_⟩
  obtain⟨e,y⟩:=y
  subst e y
  exact hs i σ _ hlt p
 ·have e:i=n:=by omega
  subst e
  exact .inl ⟨Nat.le_refl _,hd σ H p⟩
abbrev R2:=V→V→Hp→VK→Prop
def lO (X:Cx) (f:Value→Value→Sem Value) (r:R2):Prop :=
 ∀(pins:List (Addr×Obj)) (s:Shared) (σ:St) (H:Hp) (x y:V) (v u:Value) (Q:VK),Inv X pins σ H s→RelV x v→RelV y u→r x y H Q →
  wpAny (model X.prog X.w) X.A (f v u) (EP X pins σ Q) X.xe s
def gP (X:Cx) (f:Value) (r:List V→Hp→VK→Prop):Prop :=
 ∀(pins:List (Addr×Obj)) (s:Shared) (σ:St) (H:Hp) (xs:List V) (us:List Value) (Q:VK),Inv X pins σ H s→Vals xs us→r xs H Q →
  wpAny (model X.prog X.w) X.A (call f us) (EP X pins σ Q) X.xe s
def LC (r:R2) (ta tb:TE):TE:=fun σ H Q=>ta σ H fun x H1=>tb σ H1 fun y H2=>r x y H2 Q
def rI (C:Int→Int→Prop) (g:Int→Int→V):R2:=fun x y H Q=>∃ i j,x=.int i∧y=.int j∧C i j∧Q (g i j) H
def LD (g:Int→Int→V):R2:=fun x y H Q=>∃ i j,x=.int i∧y=.int j∧Q (g i j) H
section
variable {X:Cx}{a b c:Expr}{ta tb tc:TE}{pos:Pos}
theorem Mw (ha:PE X a ta) (hb:PE X b tb) {pins:List (Addr×Obj)}{s:Shared}{σ:St}{H:Hp}{R:V→V→Hp→Prop} (I:Inv X pins σ H s)
  (h:ta σ H fun x H1=>tb σ H1 fun y H2=>R x y H2) {Q:Value→Shared→Prop}{f:Value→Value→Sem Value}
  (hf:∀ v u s2 x y H2,Inv X pins σ H2 s2→RelV x v→RelV y u→R x y H2→wpAny (model X.prog X.w) X.A (f v u) Q X.xe s2) :
  wpAny (model X.prog X.w) X.A (eval a X.env) (fun v s₁=>wpAny (model X.prog X.w) X.A (eval b X.env) (fun u s₂=>wpAny (model X.prog X.w) X.A (f v u) Q X.xe s₂) X.xe s₁) X.xe s:=by
 refine cH (ha pins s σ H _ I h) fun v s1 ⟨x,H1,I1,r1,q1⟩=>?_
 refine cH (hb pins s1 σ H1 _ I1 q1) fun u s2 ⟨y,H2,I2,r2,q2⟩=>?_
 exact hf v u s2 x y H2 I2 r1 r2 q2
theorem aK {op:Operator}{r:R2} (ho:lO X (binaryOp op) r) (ha:PE X a ta) (hb:PE X b tb):PE X (.BinOp a op b pos) (LC r ta tb):=by
 intro pins s σ H Q I h
 exact wpAny_BinOp (Mw ha hb I h fun v u s2 x y H2 I2 rx ry q=>ho pins s2 σ H2 x y v u Q I2 rx ry q)
theorem VZ {f:Value→Value→Sem Value}{C:Int→Int→Prop}{g:Int→Int→Int}
  (rule:∀(i j:Int) (t u:Tok) (s:Shared) (Q:Value→Shared→Prop) (E:Value→Shared→Prop),C i j→Q (.int (g i j) s.toks) { s with toks:=s.toks+1 }→wpAny (model X.prog X.w) X.A (f (.int i t) (.int j u)) Q E s) :
  lO X f (rI C fun i j=>.int (g i j)):=by
 intro pins s σ H x y v u Q I rx ry h
 obtain⟨i,j,rfl,rfl,hc,q⟩:=h
 obtain⟨t,rfl⟩:=rx
 obtain⟨t',rfl⟩:=ry
 exact rule i j t t' s _ _ hc ⟨.int (g i j),H,I.tok _,⟨_,rfl⟩,q⟩
theorem Qd {f:Value→Value→Sem Value}{g:Int→Int→Int}
  (rule:∀(i j:Int) (t u:Tok) (s:Shared) (Q:Value→Shared→Prop) (E:Value→Shared→Prop),Q (.int (g i j) s.toks) { s with toks:=s.toks+1 }→wpAny (model X.prog X.w) X.A (f (.int i t) (.int j u)) Q E s) :
  lO X f (LD fun i j=>.int (g i j)):=by
 intro pins s σ H x y v u Q I rx ry h
 obtain⟨i,j,rfl,rfl,q⟩:=h
 obtain⟨t,rfl⟩:=rx
 obtain⟨t',rfl⟩:=ry
 exact rule i j t t' s _ _ ⟨.int (g i j),H,I.tok _,⟨_,rfl⟩,q⟩
theorem JN {f:Value→Value→Sem Value}{g:Int→Int→Bool}
  (rule:∀(i j:Int) (t u:Tok) (s:Shared) (Q:Value→Shared→Prop) (E:Value→Shared→Prop),Q (.bool (g i j)) s→wpAny (model X.prog X.w) X.A (f (.int i t) (.int j u)) Q E s) :
  lO X f (LD fun i j=>.bl (g i j)):=by
 intro pins s σ H x y v u Q I rx ry h
 obtain⟨i,j,rfl,rfl,q⟩:=h
 obtain⟨t,rfl⟩:=rx
 obtain⟨t',rfl⟩:=ry
 exact rule i j t t' s _ _ ⟨.bl (g i j),H,I,rfl,q⟩
def WC (i j:Int):Prop:=0 < j∧j < 1073741824
def Qe (i j:Int):Prop:=0≤j∧j≤1000000∧i.natAbs < 2 ^ 64
def Mx (i j:Int):Prop:=(-(2 ^ 64) < i∧i < 2 ^ 64)∨(-(2 ^ 64) < j∧j < 2 ^ 64)
theorem Mx.ok {i j:Int} (h:Mx i j):IntMulOk i j:=by
 rcases h with ⟨h1,h2⟩ | ⟨h1,h2⟩
 ·exact .of_left (intBits_le_64 h1 h2)
 ·exact .of_right (intBits_le_64 h1 h2)
theorem jH:lO X (binaryOp .Add) (LD fun i j=>.int (i+j)):=Qd fun _ _ _ _ _ _ _ q=>add_int q
theorem Mz:lO X (binaryOp .Sub) (LD fun i j=>.int (i - j)):=Qd fun _ _ _ _ _ _ _ q=>sub_int q
theorem nt:lO X (binaryOp .Mult) (rI Mx fun i j=>.int (i * j)):=VZ fun _ _ _ _ _ _ _ hc q=>mul_int q hc.ok
theorem eS:lO X (binaryOp .FloorDiv) (rI WC fun i j=>.int (i / j)):=VZ fun i j _ _ _ _ _ hc q=>by
 have h1:(0:Int) < j:=hc.1
 have h2:j < 1073741824:=hc.2
 exact floordiv_int (by omega) (by rw[Int.fdiv_eq_ediv_of_nonneg i (by omega)];exact q) (.inl (PyProof.noPylong_small (by omega)))
theorem dB:lO X (binaryOp .Mod) (rI (fun _ j=>0 < j) fun i j=>.int (i % j)):=VZ fun i j _ _ _ _ _ hc q=>by
 have h1:(0:Int) < j:=hc
 exact mod_int' (by omega) (by rw[Int.fmod_eq_emod_of_nonneg i (by omega)];exact q)
theorem Hg:lO X (binaryOp .Pow) (rI Qe fun i j=>.int (i ^ j.toNat)):=VZ fun _ _ _ _ _ _ _ hc q=>pow_int_small hc.1 hc.2.1 hc.2.2 q
end
def Qf:V→V→Bool
 | .non,.non=>true | .non,.int _=>true | .int _,.non=>true | .non,.bl _=>true | .bl _,.non=>true | .non,.str _=>true | .str _,.non=>true
 | .int _,.int _=>true | .bl _,.bl _=>true | .str _,.str _=>true | .GQ _,.GQ _=>true
 | .int _,.str _=>true | .str _,.int _=>true | .bl _,.str _=>true | .str _,.bl _=>true
 | _,_=>false
def rEq:R2:=fun x y H Q=>Qf x y=true∧Q (.bl (decide (x=y))) H
def WD:R2:=fun x y H Q=>Qf x y=true∧Q (.bl (!decide (x=y))) H
theorem DZ {i j:Int}:decide (V.int i=V.int j)=(i == j):=by
 rw[Bool.eq_iff_iff]
 simp
theorem Hh {i j:Bool}:decide (V.bl i=V.bl j)=(i == j):=by
 rw[Bool.eq_iff_iff]
 simp
theorem D0 {i j:Str}:decide (V.str i=V.str j)=(i == j):=by
 rw[Bool.eq_iff_iff]
 simp
theorem D3 {i j:Array UInt8}:decide (V.GQ i=V.GQ j)=(i.toList == j.toList):=by
 rw[Bool.eq_iff_iff]
 cases i
 cases j
 simp
section
variable {X:Cx}{a b c:Expr}{ta tb tc:TE}{pos:Pos}
theorem bq {pins:List (Addr×Obj)}{σ:St}{H:Hp}{s:Shared}{Q:VK}{k k':Bool} (I:Inv X pins σ H s) (q:Q (.bl k) H) (e:k=k'):EP X pins σ Q (.bool k') s:=by
 subst e
 exact⟨.bl k,H,I,rfl,q⟩
theorem cI:lO X (compareOp .Eq) rEq:=by
 intro pins s σ H x y v u Q I rx ry h
 obtain⟨hs,q⟩:=h
 cases x with
 | non =>
  cases rx
  cases y with
  | non=>cases ry;exact PySem.EqNone.eq_none_none (bq I q (by simp))
  | bl j=>cases ry;exact PySem.EqNone.eq_none_bool (bq I q (by simp))
  | int j=>obtain⟨t',rfl⟩:=ry;exact PySem.EqNone.eq_none_int (bq I q (by simp))
  | str j=>obtain⟨t',rfl⟩:=ry;exact PySem.EqNone.eq_none_str (bq I q (by simp))
  | _=>exact absurd (show false=true from hs) Bool.false_ne_true
 | bl i =>
  cases rx
  cases y with
  | non=>cases ry;exact PySem.EqNone.eq_bool_none (bq I q (by simp))
  | bl j=>cases ry;exact eq_bool (bq I q Hh)
  | str j=>obtain⟨t',rfl⟩:=ry;exact PySem.EqMixed.eq_bool_str (bq I q (by simp))
  | _=>exact absurd (show false=true from hs) Bool.false_ne_true
 | int i =>
  obtain⟨t,rfl⟩:=rx
  cases y with
  | non=>cases ry;exact PySem.EqNone.eq_int_none (bq I q (by simp))
  | int j=>obtain⟨t',rfl⟩:=ry;exact eq_int (bq I q DZ)
  | str j=>obtain⟨t',rfl⟩:=ry;exact PySem.EqMixed.eq_int_str (bq I q (by simp))
  | _=>exact absurd (show false=true from hs) Bool.false_ne_true
 | str i =>
  obtain⟨t,rfl⟩:=rx
  cases y with
  | non=>cases ry;exact PySem.EqNone.eq_str_none (bq I q (by simp))
  | bl j=>cases ry;exact PySem.EqMixed.eq_str_bool (bq I q (by simp))
  | int j=>obtain⟨t',rfl⟩:=ry;exact PySem.EqMixed.eq_str_int (bq I q (by simp))
  | str j=>obtain⟨t',rfl⟩:=ry;exact eq_str (bq I q D0)
  | _=>exact absurd (show false=true from hs) Bool.false_ne_true
 | GQ i =>
  obtain⟨t,rfl⟩:=rx
  cases y with
  | GQ j=>obtain⟨t',rfl⟩:=ry;exact W.eq_bytes (bq I q D3)
  | _=>exact absurd (show false=true from hs) Bool.false_ne_true
 | _=>cases y <;> exact absurd (show false=true from hs) Bool.false_ne_true
theorem D4:lO X (compareOp .NotEq) WD:=by
 intro pins s σ H x y v u Q I rx ry h
 obtain⟨hs,q⟩:=h
 cases x with
 | non =>
  cases rx
  cases y with
  | non=>cases ry;exact PySem.EqNone.ne_none_none (bq I q (by simp))
  | bl j=>cases ry;exact PySem.EqNone.ne_none_bool (bq I q (by simp))
  | int j=>obtain⟨t',rfl⟩:=ry;exact PySem.EqNone.ne_none_int (bq I q (by simp))
  | str j=>obtain⟨t',rfl⟩:=ry;exact PySem.EqNone.ne_none_str (bq I q (by simp))
  | _=>exact absurd (show false=true from hs) Bool.false_ne_true
 | bl i =>
  cases rx
  cases y with
  | non=>cases ry;exact PySem.EqNone.ne_bool_none (bq I q (by simp))
  | bl j=>cases ry;exact ne_bool (bq I q (congrArg not Hh))
  | str j=>obtain⟨t',rfl⟩:=ry;exact PySem.EqMixed.ne_bool_str (bq I q (by simp))
  | _=>exact absurd (show false=true from hs) Bool.false_ne_true
 | int i =>
  obtain⟨t,rfl⟩:=rx
  cases y with
  | non=>cases ry;exact PySem.EqNone.ne_int_none (bq I q (by simp))
  | int j=>obtain⟨t',rfl⟩:=ry;exact ne_int (bq I q (congrArg not DZ))
  | str j=>obtain⟨t',rfl⟩:=ry;exact PySem.EqMixed.ne_int_str (bq I q (by simp))
  | _=>exact absurd (show false=true from hs) Bool.false_ne_true
 | str i =>
  obtain⟨t,rfl⟩:=rx
  cases y with
  | non=>cases ry;exact PySem.EqNone.ne_str_none (bq I q (by simp))
  | bl j=>cases ry;exact PySem.EqMixed.ne_str_bool (bq I q (by simp))
  | int j=>obtain⟨t',rfl⟩:=ry;exact PySem.EqMixed.ne_str_int (bq I q (by simp))
  | str j=>obtain⟨t',rfl⟩:=ry;exact ne_str (bq I q (congrArg not D0))
  | _=>exact absurd (show false=true from hs) Bool.false_ne_true
 | GQ i =>
  obtain⟨t,rfl⟩:=rx
  cases y with
  | GQ j=>obtain⟨t',rfl⟩:=ry;exact W.ne_bytes (bq I q (congrArg not D3))
  | _=>exact absurd (show false=true from hs) Bool.false_ne_true
 | _=>cases y <;> exact absurd (show false=true from hs) Bool.false_ne_true
theorem D5:lO X (compareOp .Lt) (LD fun i j=>.bl (decide (i < j))):=JN fun _ _ _ _ _ _ _ q=>lt_int q
theorem LF:lO X (compareOp .LtE) (LD fun i j=>.bl (decide (i≤j))):=JN fun _ _ _ _ _ _ _ q=>le_int q
theorem vA:lO X (compareOp .Gt) (LD fun i j=>.bl (decide (j < i))):=JN fun _ _ _ _ _ _ _ q=>gt_int q
theorem LG:lO X (compareOp .GtE) (LD fun i j=>.bl (decide (j≤i))):=JN fun _ _ _ _ _ _ _ q=>ge_int q
theorem gD:lO X (compareOp .In) (fun x y H Q=>∃ i j,x=.str i∧y=.str j∧Q (.bl (!(Builtin.Str.occurrences j i 0 j.length 1).isEmpty)) H):=by
 intro pins s σ H x y v u Q I rx ry h
 obtain⟨i,j,rfl,rfl,q⟩:=h
 obtain⟨t,rfl⟩:=rx
 obtain⟨t',rfl⟩:=ry
 exact in_str (bq I q rfl)
theorem vB:lO X (compareOp .Is) (fun x y H Q=>y=.non∧Q (.bl (decide (x=.non))) H):=by
 intro pins s σ H x y v u Q I rx ry h
 obtain⟨rfl,q⟩:=h
 cases ry
 refine is_none_gen (bq I q ?_)
 cases x <;> first
  | (cases rx;rfl)
  | (obtain⟨t,rfl⟩:=rx;rfl)
theorem zv:lO X (compareOp .IsNot) (fun x y H Q=>y=.non∧Q (.bl (!decide (x=.non))) H):=by
 intro pins s σ H x y v u Q I rx ry h
 obtain⟨rfl,q⟩:=h
 cases ry
 refine isnot_none_gen (bq I q ?_)
 cases x <;> first
  | (cases rx;rfl)
  | (obtain⟨t,rfl⟩:=rx;rfl)
theorem Hi (b:Expr) {op:CmpOp} (h:op≠.In:=by decide) (h2:op≠.NotIn:=by decide):behindInMarks op b=false:=by
 have e1:(op == CmpOp.In)=false:=by cases op <;> first | rfl | exact absurd rfl h
 have e2:(op == CmpOp.NotIn)=false:=by cases op <;> first | rfl | exact absurd rfl h2
 cases b <;> simp[behindInMarks,e1,e2]
theorem D6 {op:CmpOp}{r:R2} (ho:lO X (compareOp op) r) (ha:PE X a ta) (hb:PE X b tb) (hm:behindInMarks op b=false):PE X (.Compare a [op] [b] pos) (LC r ta tb):=by
 intro pins s σ H Q I h
 exact wpAny_Compare1 (Mw ha hb I h fun v u s2 x y H2 I2 rx ry q=>ho pins s2 σ H2 x y v u Q I2 rx ry q) hm
def LH (t:TE):TT:=fun σ H Q=>t σ H fun x H'=>∃ k,x=.bl k∧Q k H'
theorem gQ {op:CmpOp}{r:R2} (ho:lO X (compareOp op) r) (ha:PE X a ta) (hb:PE X b tb) (hm:behindInMarks op b=false):PT X (.Compare a [op] [b] pos) (LH (LC r ta tb)):=by
 intro pins s σ H Q I h
 refine wpAny_isTrue_Compare1 (cH (ha pins s σ H _ I h) fun v s1 ⟨x,H1,I1,r1,q1⟩=>cH (hb pins s1 σ H1 _ I1 q1) fun u s2 ⟨y,H2,I2,r2,q2⟩ =>
  cH (ho pins s2 σ H2 x y v u _ I2 r1 r2 q2) fun c s3 ⟨z,H3,I3,r3,k,e,q3⟩=>?_) hm
 subst e
 cases r3
 exact wpAny_truthy_bool ⟨H3,I3,q3⟩
theorem vC:(sizeLine:Nat) < 2 ^ 63:=by rw[sizeLine_eq];decide
theorem gn:lO X (binaryOp .Add) (fun x y H Q=>∃ i j,x=.str i∧y=.str j∧i.length+j.length≤sizeLine∧Q (.str (i++j)) H):=by
 intro pins s σ H x y v u Q I rx ry h
 obtain⟨i,j,rfl,rfl,hz,q⟩:=h
 obtain⟨t,rfl⟩:=rx
 obtain⟨t',rfl⟩:=ry
 exact add_str (fun t' tk=>⟨.str (i++j),H,I.tok _,⟨_,rfl⟩,q⟩) hz
theorem vals1 {x:V}{us:List Value} (r:Vals [x] us):∃ u,us=[u]∧RelV x u:=by
 cases r with
 | cons r1 r2=>cases r2;exact⟨_,rfl,r1⟩
theorem vals2 {x y:V}{us:List Value} (r:Vals [x,y] us):∃ u w',us=[u,w']∧RelV x u∧RelV y w':=by
 cases r with
 | cons r1 r2 =>
  cases r2 with
  | cons r3 r4=>cases r4;exact⟨_,_,rfl,r1,r3⟩
theorem Hj:gP X (.builtin "ord") (fun xs H Q=>∃ x,xs=[.str x]∧x.length=1∧Q (.int (x.cps.getD 0 0:Nat)) H):=by
 intro pins s σ H xs us Q I r h
 obtain⟨x,rfl,hz,q⟩:=h
 obtain⟨u,rfl,t,rfl⟩:=vals1 r
 exact ord_of_one hz ⟨.int _,H,I.tok _,⟨_,rfl⟩,q⟩
end
structure Cr (h:Heap) (x dx C:Addr) (mA:Str→Option Value):Prop where
 obj:h.get? x=some (W.instObj C dx)
 ns:h.Ns1 dx mA
 ne:dx≠x
theorem yz {h:Heap}{dx:Addr}{mA:Str→Option Value} (n:h.Ns1 dx mA):∃ od,h.get? dx=some od∧∀ name,W.lookIn name od=some (mA name):=by
 obtain⟨o,es,ep,ho,hd,hk,_,hm⟩:=n
 refine⟨o,ho,fun name=>?_⟩
 have e:=hm name
 unfold nsFind findBy at e
 rw[←Array.find?_toList] at e
 unfold W.lookIn
 rw[hd]
 dsimp only
 split
 ·rename_i y q
  rw[q] at e
  exact congrArg some e
 ·rename_i q
  rw[q] at e
  have a:es.toList.any (·.refKey)=false:=by
   rw[List.any_eq_false]
   intro y hy
   obtain⟨z,t,hkey⟩:=hk y (Array.mem_toList_iff.mp hy)
   simp[DictEntry.refKey,hkey]
  have a':¬es.toList.any (·.refKey)=true:=by rw[a];exact Bool.false_ne_true
  rw[if_neg a']
  exact congrArg some e
theorem Cr.look {h:Heap}{x dx C:Addr}{mA:Str→Option Value} (I:Cr h x dx C mA):∃ od,W.InstAt h x (W.instObj C dx) C (some od)∧∀ name,W.lookIn name od=some (mA name) :=
 let ⟨od,ho,hl⟩:=yz I.ns
 ⟨od,⟨I.obj,rfl,rfl,ho⟩,hl⟩
section
variable {prog:Program}{w:World}{A:Around}{E:Value→Shared→Prop}{s:Shared}{K:W.Frag}{x dx C f:Addr}{mA:Str→Option Value}{name:Str}{v:Value}
theorem get_map {expr:Bool}{Q:Value→Shared→Prop} (X:K.In s.heap) (I:Cr s.heap x dx C mA) (hg:W.plainGet K C name=true) (hh:W.hasDictIn K C=true)
  (ha:W.findIn K (.ref C) name=some none) (hv:mA name=some v) (hv':W.handedIn v=true) (h:Q v { s with toks:=s.toks+1 }) :
  wpAny (model prog w) A (getAttr (.ref x) name expr) Q E s:=by
 obtain⟨od,J,hl⟩:=I.look
 exact W.get_value X J (W.plainGet_of hg).1 (W.findObj_own hh ha rfl (by rw[hl,hv])) hv' h
theorem Hl {pl:Sem Bool}{Q:Value×List Value→Shared→Prop} (X:K.In s.heap) (I:Cr s.heap x dx C mA) (hg:W.plainGet K C name=true)
  (hf:W.findIn K (.ref C) name=some (some (.ref f))) (ht:W.isFn K (.ref f)=true) (hv:mA name=none) (h:Q (.ref f,[.ref x]) s) :
  wpAny (model prog w) A (getMethod (.ref x) name pl) Q E s:=by
 obtain⟨od,J,hl⟩:=I.look
 exact W.method_fn X J (W.plainGet_of hg).1 (W.plainGet_of hg).2 hf (beq_iff_eq.mp ht) (by show(W.lookIn name od).map (·.isSome)=some false;rw[hl,hv];rfl) h
theorem JO {ns:List Str}{Q:Unit→Shared→Prop} (X:K.In s.heap) (I:Cr s.heap x dx C mA)
  (hs:W.findIn K (.ref C) "__setattr__" = some (some (.builtin "object.__setattr__"))) (hp:W.plainOver K C=true) (ht:W.takerIn K C name=some none) (hh:W.hasDictIn K C=true)
  (hw:PySem.Within mA ns) (hsz:ns.length≤sizeLine)
  (h:∀ h',Cr h' x dx C (fun y=>if y=name then some v else mA y)→Heap.SameBut dx s.heap h'→Q () { s with heap:=h',toks:=s.toks+2 }) :
  wpAny (model prog w) A (setAttr (.ref x) name v) Q E s:=by
 obtain⟨od,J,hl⟩:=I.look
 refine W.set_plain X J hs (W.osa_open (s:={ s with toks:=s.toks+1 }) (r:=none) X J hp ht fun b=>?_)
 obtain⟨cd,hc,hd'⟩:=W.any_some hh
 have hx:s.heap.get? x=some ⟨.ref C,some dx,.plain,#[]⟩:=I.obj
 refine wpAny_bind (wpAny_pure (wpAny_bind (wpAny_bind (wpAny_loadPart hx (wpAny_bind (W.Looks.here (s:={ s with toks:=s.toks+1 }) (W.looks_clsIn X hc) ?_))))))
 rw[hd']
 refine wpAny_pure (a:=some dx) (wpAny_bind (wpAny_pure (wpAny_bind ?_)))
 refine wpAny_nsSet1 (s:={ s with toks:=s.toks+1 }) I.ns fun h' hn2 hs2=>?_
 obtain⟨oD,esD,epD,Qg,Qh,Qi⟩:=hn2.count (PySem.Within.cons name v hw)
 refine wpAny_bind (wpAny_lookBehind Qg (by rw[Qh];exact pastItsLine_dict (Nat.le_trans Qi (by rw[List.length_cons];omega))) ?_)
 exact wpAny_pure (h _ ⟨(hs2.2 _ (Ne.symm I.ne)).trans I.obj,hn2,I.ne⟩ hs2)
theorem Ho {R:Result→Shared→Prop}{vs:List Value}{kw:List (Str×Value)} (X:K.In s.heap) (hm:W.makesIn K C=true)
  (hi:W.findIn K (.ref C) "__init__" = some (some (.ref f))) (hf:W.typeIn K (.ref f)=some (.type "function"))
  (h:codeAny (model prog w) (A.under (.builtin "type.__call__" ⟨.ref C :: vs,kw⟩)) (.call (.ref f) ⟨.ref (s.heap.objs.size+1) :: vs,kw⟩) (W.InitBack (s.heap.objs.size+1) R)
   { s with heap:=(s.heap.push W.emptyDict).push (W.instObj C s.heap.objs.size) }) :
  codeAny (model prog w) A (.call (.ref C) ⟨vs,kw⟩) R s:=by
 obtain⟨hh,g,d,t,os⟩:=s
 exact W.make_core (W.makes_of X hm) (W.looks_findIn X hi) (fun self=>W.bind_fn X self hf) (.inl rfl) h
end
def kX (f:Str) (v:V):List (Str×V)→List (Str×V)
 | []=>[(f,v)]
 | (g,x) :: r=>if g=f then (g,v) :: r else (g,x) :: kX f v r
theorem nu (f g:Str) (v:V):∀ fs:List (Str×V),(kX f v fs).lookup g=if g=f then some v else fs.lookup g
 | []=>by
  show List.lookup g [(f,v)]=_
  by_cases h:g=f
  ·have hb:(g == f)=true:=beq_iff_eq.mpr h
   simp only[List.lookup,hb,if_pos h]
  ·have hb:(g == f)=false:=beq_eq_false_iff_ne.mpr h
   simp only[List.lookup,hb,if_neg h]
 | (k,x) :: r=>by
  have ih:=nu f g v r
  rw[show kX f v ((k,x) :: r)=(if k=f then (k,v) :: r else (k,x) :: kX f v r) from rfl]
  by_cases hk:k=f
  ·rw[if_pos hk]
   by_cases h:g=k
   ·have hb:(g == k)=true:=beq_iff_eq.mpr h
    simp only[List.lookup,hb,if_pos (h.trans hk)]
   ·have hb:(g == k)=false:=beq_eq_false_iff_ne.mpr h
    simp only[List.lookup,hb,if_neg (fun e:g=f=>h (e.trans hk.symm))]
  ·rw[if_neg hk]
   by_cases h:g=k
   ·have hb:(g == k)=true:=beq_iff_eq.mpr h
    simp only[List.lookup,hb,if_neg (fun e:g=f=>hk (h.symm.trans e))]
   ·have hb:(g == k)=false:=beq_eq_false_iff_ne.mpr h
    simp only[List.lookup,hb]
    exact ih
theorem kY (f:Str) (v:V):∀ fs:List (Str×V),f∈(kX f v fs).map (·.1)∧∀ g,g∈fs.map (·.1)→g∈(kX f v fs).map (·.1)
 | []=>⟨by simp[kX],fun g h=>by simp at h⟩
 | (k,x) :: r=>by
  obtain⟨i1,i2⟩:=kY f v r
  rw[show kX f v ((k,x) :: r)=(if k=f then (k,v) :: r else (k,x) :: kX f v r) from rfl]
  by_cases hk:k=f
  ·rw[if_pos hk]
   subst hk
   exact⟨by simp,fun g h=>by simpa using h⟩
  ·rw[if_neg hk]
   refine⟨?_,fun g h=>?_⟩
   ·rw[List.map_cons]
    exact List.mem_cons_of_mem _ i1
   ·rw[List.map_cons] at h ⊢
    rcases List.mem_cons.mp h with e | e
    ·exact List.mem_cons.mpr (.inl e)
    ·exact List.mem_cons_of_mem _ (i2 g e)
theorem tD (f:Str) (v:V):∀ fs:List (Str×V),(kX f v fs).length≤fs.length+1
 | []=>by simp[kX]
 | (k,x) :: r=>by
  have ih:=tD f v r
  rw[show kX f v ((k,x) :: r)=(if k=f then (k,v) :: r else (k,x) :: kX f v r) from rfl]
  by_cases hk:k=f
  ·rw[if_pos hk,List.length_cons,List.length_cons];omega
  ·rw[if_neg hk,List.length_cons,List.length_cons];omega
theorem mZ.some_of {v:V}{o:Option Value} (r:mZ (some v) o):∃ u,o=some u∧RelV v u:=by
 cases o with
 | none=>exact(show False from r).elim
 | some u=>exact⟨u,rfl,r⟩
theorem mZ.none_of {o:Option Value} (r:mZ none o):o=none:=by
 cases o with
 | none=>rfl
 | some u=>exact(show False from r).elim
theorem EL {v:V}{u:Value} (r:RelV v u):W.handedIn u=true:=by
 cases v with
 | non=>cases(show u=Value.none from r);rfl
 | bl b=>cases(show u=Value.bool b from r);rfl
 | int i=>obtain⟨t,e⟩:=(show ∃ t,u=Value.int i t from r);cases e;rfl
 | str x=>obtain⟨t,e⟩:=(show ∃ t,u=Value.str x t from r);cases e;rfl
 | GQ b=>obtain⟨t,e⟩:=(show ∃ t,u=Value.bytes b t from r);cases e;rfl
 | AV b=>obtain⟨t,e⟩:=(show ∃ t,u=Value.float b t from r);cases e;rfl
 | ref a=>cases(show u=Value.ref a from r);rfl
 | ty n=>cases(show u=Value.type n from r);rfl
section
variable {P:Program}{w:World}{H H':Hp}{h h':Heap}{a C dx:Addr}{fs fs':List (Str×V)}
theorem u9 (hok:pZ P w H h) (e:H a=some (.ins C dx fs)):∃ mA,Cr h a dx C mA∧(∀ f,mZ (fs.lookup f) (mA f))∧PySem.Within mA (fs.map (·.1))∧fs.length≤1000∧H dx=some (.own a):=by
 obtain⟨d,z,ne,ob,mA,n,r,q⟩:=(show cA P w H h a (.ins C dx fs) from hok a _ e)
 exact⟨mA,⟨ob,n,ne⟩,r,q,z,d⟩
end
structure D7 (K:W.Frag) (C:Addr):Prop where
 pg:W.plainGet K C Str.empty=true
 hd:W.hasDictIn K C=true
 po:W.plainOver K C=true
 sa:W.findIn K (.ref C) "__setattr__" = some (some (.builtin "object.__setattr__"))
theorem D7.get {K:W.Frag}{C:Addr} (c:D7 K C) (f:Str):W.plainGet K C f=true:=c.pg
def dS (K:W.Frag) (C:Addr) (f:Str):Prop:=W.findIn K (.ref C) f=some none
theorem dS.Qj {K:W.Frag}{C:Addr}{f:Str} (n:dS K C f):W.takerIn K C f=some none:=by
 unfold W.takerIn
 rw[show W.findIn K (.ref C) f=some none from n]
 rfl
structure Meth (K:W.Frag) (C:Addr) (m:Str) (f:Addr):Prop where
 at_:W.findIn K (.ref C) m=some (some (.ref f))
 fn:W.isFn K (.ref f)=true
 kp:W.keepIn K (.ref f)=true
section
variable {X:Cx}{pins:List (Addr×Obj)}{σ:St}{H:Hp}{s:Shared}{a C dx:Addr}{fs:List (Str×V)}{f:Str}{v:V}{A:Around}{E:Value→Shared→Prop}
theorem Ct {b:Bool}{Q:Value→Shared→Prop} (I:Inv X pins σ H s) (e:H a=some (.ins C dx fs)) (c:D7 X.K C) (n:dS X.K C f) (l:fs.lookup f=some v)
  (h:∀ u s',Inv X pins σ H s'→RelV v u→Q u s'):wpAny (model X.prog X.w) A (getAttr (.ref a) f b) Q E s:=by
 obtain⟨mA,O,r,_,_,_⟩:=u9 I.hok e
 obtain⟨u,hu,ru⟩:=mZ.some_of (v:=v) (o:=mA f) (by rw[←l];exact r f)
 exact get_map I.lJ O (c.get f) c.hd n hu (EL ru) (h u _ (I.tok _) ru)
theorem vD {m:Str}{g:Addr}{pl:Sem Bool}{Q:Value×List Value→Shared→Prop} (I:Inv X pins σ H s) (e:H a=some (.ins C dx fs)) (c:D7 X.K C) (k:Meth X.K C m g) (l:fs.lookup m=none)
  (h:Q (.ref g,[.ref a]) s):wpAny (model X.prog X.w) A (getMethod (.ref a) m pl) Q E s:=by
 obtain⟨mA,O,r,_,_,_⟩:=u9 I.hok e
 have hn:mA m=none:=mZ.none_of (by rw[←l];exact r m)
 exact Hl I.lJ O (c.get m) k.at_ k.fn hn h
theorem Cu {y:V}{u:Value}{Q:Unit→Shared→Prop} (I:Inv X pins σ H s) (e:H a=some (.ins C dx fs)) (c:D7 X.K C) (n:dS X.K C f) (hl:fs.length < 1000) (ry:RelV y u)
  (h:∀ s',Inv X pins σ (upd H a (.ins C dx (kX f y fs))) s'→Q () s'):wpAny (model X.prog X.w) A (setAttr (.ref a) f u) Q E s:=by
 obtain⟨mA,O,r,wi,_,ho⟩:=u9 I.hok e
 have hz:(fs.map (·.1)).length≤sizeLine:=by rw[List.length_map,sizeLine_eq];omega
 refine JO I.lJ O c.sa c.po n.Qj c.hd wi hz fun h' O' sb=>h _ ?_
 have hd:∃ o,h'.get? dx=some o:=let ⟨o,_,_,e',_⟩:=O'.ns;⟨o,e'⟩
 refine I.write (x:=a) (e:=dx) (by rw[e];exact True.intro) (.inr ho) (fun b q hb z=>(sb.2 b hb).trans z) hd ?_
 refine⟨by rw[aB O.ne];exact ho,?_,O.ne,O'.obj,_,O'.ns,fun g=>?_,fun g hg=>?_⟩
 ·have:=tD f y fs;omega
 ·show mZ ((kX f y fs).lookup g) (if g=f then some u else mA g)
  rw[nu]
  by_cases q:g=f
  ·rw[if_pos q,if_pos q];exact ry
  ·rw[if_neg q,if_neg q];exact r g
 ·by_cases q:g=f
  ·rw[q];exact(kY f y fs).1
  ·refine(kY f y fs).2 g (wi g fun z=>hg ?_)
   show(if g=f then some u else mA g)=none
   rw[if_neg q];exact z
theorem Inv.made (I:Inv X pins σ H s):Inv X pins σ (upd (upd H s.heap.objs.size (.own (s.heap.objs.size+1))) (s.heap.objs.size+1) (.ins C s.heap.objs.size []))
  { s with heap:=(s.heap.push W.emptyDict).push (W.instObj C s.heap.objs.size) }:=by
 have e1:(s.heap.push W.emptyDict).get? s.heap.objs.size=some W.emptyDict:=Heap.get?_push_size s.heap rfl
 have e2:((s.heap.push W.emptyDict).push (W.instObj C s.heap.objs.size)).get? (s.heap.objs.size+1)=some (W.instObj C s.heap.objs.size):=by
  have:=Heap.get?_push_size (s.heap.push W.emptyDict) (o:=W.instObj C s.heap.objs.size) rfl
  rwa [Heap.size_push] at this
 have e3:(s.heap.push W.emptyDict).Ns s.heap.objs.size (fun _=>none):=⟨W.emptyDict,#[],_,e1,rfl,(fun e he=>absurd he (by simp)),fun _=>rfl⟩
 have I1:=I.laid (a:=s.heap.objs.size) (o:=.own (s.heap.objs.size+1)) (h':=s.heap.push W.emptyDict) (t':=s.toks) (fun b u q=>Heap.get?_push_of_some _ q) (Nat.le_refl _) ⟨_,e1⟩
 refine I1.laid (a:=s.heap.objs.size+1) (o:=.ins C s.heap.objs.size []) (t':=s.toks) (fun b u q=>Heap.get?_push_of_some _ q) (Nat.le_of_eq (Heap.size_push _ _)) ?_
 have ne:s.heap.objs.size≠s.heap.objs.size+1:=Nat.ne_of_lt (Nat.lt_succ_self _)
 refine⟨by rw[aB ne,ah],Nat.zero_le _,ne,e2,fun _=>none,(Heap.Ns1.of_empty e3).at fun o q=>Heap.get?_push_of_some _ q,fun _=>True.intro,fun y hy=>absurd rfl hy⟩
theorem JP {prog:Program}{w:World}{env:Env}{e:Expr}{f:Str}{pos:Pos}{s:Shared}{Q:Value→Shared→Prop} (hb:attributeBase e f env (eval e env)=eval e env)
  (h:wpAny (model prog w) A (eval e env) (fun o s₁=>wpAny (model prog w) A (getAttr o f true) Q E s₁) E s):wpAny (model prog w) A (eval (.Attribute e f pos) env) Q E s :=
 Attribute_any_ h (by rw[arm_eval_Attribute,hb])
end
def Qk (K:W.Frag) (ta:TE) (f:Str):TE:=fun σ H Q=>ta σ H fun x H1=>∃ a C dx fs v,x=.ref a∧H1 a=some (.ins C dx fs)∧D7 K C∧dS K C f∧fs.lookup f=some v∧Q v H1
def WE (K:W.Frag) (ta tv:TE) (f:Str):TS:=fun D σ H=>tv σ H fun y H1=>ta σ H1 fun x H2=>∃ a C dx fs,x=.ref a∧H2 a=some (.ins C dx fs)∧D7 K C∧dS K C f∧fs.length < 1000 ∧
 D.nx σ (upd H2 a (.ins C dx (kX f y fs)))
section
variable {X:Cx}{o e value:Expr}{f:Str}{pos pos' tpos:Pos}{ta tv:TE}
theorem MA (he:PE X e ta) (hb:attributeBase e f X.env (eval e X.env)=eval e X.env):PE X (.Attribute e f pos) (Qk X.K ta f):=by
 intro pins s σ H Q I h
 refine JP hb (cH (he pins s σ H _ I h) fun u s1 ⟨x,H1,I1,rx,a,C,dx,fs,v,ex,ea,c,n,l,q⟩=>?_)
 subst ex
 obtain rfl:u=Value.ref a:=rx
 exact Ct I1 ea c n l fun u' s2 I2 ru=>⟨v,H1,I2,ru,q⟩
theorem iA (ha:PE X o ta) (hv:PE X value tv) (hs:swapsWith value (some (.Attribute o f pos')) pos.line X.env=pure false):PS X (.Assign [.Attribute o f pos'] value pos) (WE X.K ta tv f):=by
 intro pins s σ H D I h
 refine plainObj_wpAny_Assign_Attribute (cH (hv pins s σ H _ I h) fun u s1 ⟨y,H1,I1,ry,q⟩=>cH (ha pins s1 σ H1 _ I1 q) fun ov s2 ⟨x,H2,I2,rx,a,C,dx,fs,ex,ea,c,n,l,q2⟩=>?_) hs
 subst ex
 obtain rfl:ov=Value.ref a:=rx
 exact Cu I2 ea c n l ry fun s3 I3=>⟨σ,_,I3,q2⟩
end
section
variable {X:Cx}{pins:List (Addr×Obj)}{σ:St}{H:Hp}{s:Shared}{A:Around}{E:Value→Shared→Prop}{Q:Value→Shared→Prop}{c:Value}{b:Bool}
inductive ny (K:W.Frag) (H:Hp):V→Value→Prop where
 | non:ny K H .non (.type "NoneType")
 | bl (x:Bool):ny K H (.bl x) (.type "bool")
 | int (i:Int):ny K H (.int i) (.type "int")
 | str (x:Str):ny K H (.str x) (.type "str")
 | AV (x:UInt64):ny K H (.AV x) (.type "float")
 | lst {a:Addr}{xs:List V} (e:H a=some (.lst xs)):ny K H (.ref a) (.type "list")
 | Cj {a:Addr}{o:Obj}{xs:List V} (e:H a=some (.Cj o (.lst xs))):ny K H (.ref a) (.type "list")
 | tup {a:Addr}{xs:List V} (e:H a=some (.tup xs)):ny K H (.ref a) (.type "tuple")
 | dK {a:Addr}{kvs:List (Key×V)} (e:H a=some (.dK kvs)):ny K H (.ref a) (.type "dict")
 | dT {a:Addr}{kvs:List (List Key×V)} (e:H a=some (.dT kvs)):ny K H (.ref a) (.type "dict")
 | ins {a C dx:Addr}{fs:List (Str×V)} (e:H a=some (.ins C dx fs)) (cl:D7 K C) (ha:W.findIn K (.ref C) "__class__" = some (some (.builtin "object.__class__")))
   (hn:W.specialIn K (.builtin "object.__class__") "__get__" = some (some (.builtin "getset_descriptor.__get__"))) (htk:W.takesIn K (.builtin "object.__class__")=some true)
   (hm:W.mroIn K C (.type "object")=some true):ny K H (.ref a) (.ref C)
theorem yC {x:V}{u t:Value} (I:Inv X pins σ H s) (rx:RelV x u) (ty:ny X.K H x t) (e:W.kitOne X.K t c=some b) (h:∀ tk,Q (.bool b) { s with toks:=tk }) :
  wpAny (model X.prog X.w) A (call (.builtin "isinstance") [u,c]) Q E s:=by
 cases ty with
 | non=>cases(show u=Value.none from rx);exact W.kia_one W.kitx_none I.lJ True.intro e (fun z=>nomatch z) h
 | bl y=>cases(show u=Value.bool y from rx);exact W.kia_one W.kitx_bool I.lJ True.intro e (fun z=>nomatch z) h
 | int i=>obtain⟨t,q⟩:=(show ∃ t,u=Value.int i t from rx);cases q;exact W.kia_one W.kitx_int I.lJ True.intro e (fun z=>nomatch z) h
 | str y=>obtain⟨t,q⟩:=(show ∃ t,u=Value.str y t from rx);cases q;exact W.kia_one W.kitx_str I.lJ True.intro e (fun z=>nomatch z) h
 | AV y=>obtain⟨t,q⟩:=(show ∃ t,u=Value.float y t from rx);cases q;exact W.kia_one W.kitx_float I.lJ True.intro e (fun z=>nomatch z) h
 | @lst a xs ea =>
  cases(show u=Value.ref a from rx)
  obtain⟨_,_,n,_,h1⟩:=(show cA X.prog X.w H s.heap a (.lst xs) from I.hok a _ ea)
  exact W.kia_one W.kitx_list I.lJ ⟨_,h1,rfl⟩ e (fun z=>nomatch z) h
 | @Cj a ob xs ea =>
  cases(show u=Value.ref a from rx)
  obtain⟨_,_,_,n,_,h1⟩:=(show cA X.prog X.w H s.heap a (.Cj ob (.lst xs)) from I.hok a _ ea)
  exact W.kia_one W.kitx_list I.lJ ⟨_,h1,rfl⟩ e (fun z=>nomatch z) h
 | @tup a xs ea =>
  cases(show u=Value.ref a from rx)
  obtain⟨_,_,_,p⟩:=(show cA X.prog X.w H s.heap a (.tup xs) from I.hok a _ ea)
  obtain⟨o,h1,h2,_⟩:=p
  exact W.kia_one W.kitx_tuple I.lJ ⟨o,h1,h2⟩ e (fun z=>nomatch z) h
 | @dK a kvs ea =>
  cases(show u=Value.ref a from rx)
  obtain⟨_,_,vs,_,p⟩:=(show cA X.prog X.w H s.heap a (.dK kvs) from I.hok a _ ea)
  obtain⟨o,es,ep,h1,h2,_⟩:=p
  exact W.kia_one W.kitx_dict I.lJ ⟨o,h1,h2.1⟩ e (fun z=>nomatch z) h
 | @dT a kvs ea =>
  cases(show u=Value.ref a from rx)
  obtain⟨_,_,xs,_,o,es,ep,h1,h2,_⟩:=(show cA X.prog X.w H s.heap a (.dT kvs) from I.hok a _ ea)
  exact W.kia_one W.kitx_dict I.lJ ⟨o,h1,h2.1⟩ e (fun z=>nomatch z) h
 | @ins a C dx fs ea cl ha hn htk hm =>
  cases(show u=Value.ref a from rx)
  obtain⟨mA,O,_⟩:=u9 I.hok ea
  obtain⟨od,J,_⟩:=O.look
  exact W.kia_one (W.kitx_own (cl.get _) cl.hd ha hn htk hm) I.lJ J e (fun z=>nomatch z) h
end
structure fR (k:Nat) (A:Around):Prop where
 hd:A.handled=none
 dp:A.depth+3 * k+5 < recursionLimit
 un:A.units+16 * k+200 < cLine
theorem fR.mono {j k:Nat}{A:Around} (r:fR k A) (h:j≤k):fR j A:=⟨r.hd,by have:=r.dp;omega,by have:=r.un;omega⟩
theorem fR.deeper {k:Nat}{A:Around} (r:fR (k+1) A) (env:Env):fR k (A.deeper env) :=
 ⟨r.hd,by have:=r.dp;show A.depth+1+3 * k+5 < _;omega,by have:=r.un;show A.units+3+16 * k+200 < _;omega⟩
theorem Cv {A:Around}{C:Addr}{us:List Value}{kw:List (Str×Value)}:(A.under (.builtin "type.__call__" ⟨.ref C :: us,kw⟩)).depth=A.depth+1:=by
 first | rfl | simp[Around.under,Code.weight,Code.isCreation,Code.isGuard,Code.isCaller,Code.frames,Code.isFrame,guardIds]
theorem Cw {A:Around}{C:Addr}{us:List Value}{kw:List (Str×Value)}:(A.under (.builtin "type.__call__" ⟨.ref C :: us,kw⟩)).units=A.units+1:=by
 first | rfl | simp[Around.under,Code.cUnits,Code.frames,Code.isFrame]
theorem fR.make {k:Nat}{A:Around} (r:fR (k+1) A) (C:Addr) (us:List Value) (kw:List (Str×Value)):fR k (A.under (.builtin "type.__call__" ⟨.ref C :: us,kw⟩)) :=
 ⟨r.hd,by have:=r.dp;rw[Cv];omega,by have:=r.un;rw[Cw];omega⟩
theorem fR.depth {k:Nat}{A:Around} (r:fR k A):A.depth < recursionLimit:=by have:=r.dp;omega
theorem fR.units {k:Nat}{A:Around} (r:fR k A):A.units+64 < cLine:=by have:=r.un;omega
theorem fR.aN {k:Nat}{A:Around} (r:fR k A):A.units < cLine:=by have:=r.un;omega
def Ql:TA:=fun _ H Q=>Q [] H
def Qm (ta:TE) (tr:TA):TA:=fun σ H Q=>ta σ H fun x H1=>tr σ H1 fun xs H2=>Q (x :: xs) H2
section
variable {X:Cx}{e:Expr}{es:List Expr}{te:TE}{t:TA}{pos:Pos}
theorem aj:PA X [] Ql:=fun _ _ _ _ H Q I h=>Calls.spliced_nil ⟨[],H,I,.nil,h⟩
theorem af (ha:PE X e te) (hr:PA X es t) (hs:starEach (e :: es) X.env=(false,eval e X.env) :: starEach es X.env:=by rfl):PA X (e :: es) (Qm te t):=by
 intro pos pins s σ H Q I h
 rw[hs]
 show wpAny _ _ (spliced ((false,eval e X.env) :: backTo pos (starEach es X.env))) _ _ s
 refine Calls.spliced_cons (cH (ha pins s σ H _ I h) fun u s1 ⟨x,H1,I1,r1,q1⟩=>?_)
 exact cH (hr pos pins s1 σ H1 _ I1 q1) fun us s2 ⟨xs,H2,I2,r2,q2⟩=>⟨x :: xs,H2,I2,.cons r1 r2,q2⟩
def WG (t:TA):TE:=fun σ H Q=>t σ H fun xs H1=>xs.length≤sizeLine∧∀ p,H1 p=none→Q (.ref p) (upd H1 p (.tup xs))
def WH (t:TA):TE:=fun σ H Q=>t σ H fun xs H1=>xs.length≤sizeLine∧∀ p,H1 p=none→Q (.ref p) (upd H1 p (.lst xs))
theorem aJ {x1} (h:PA X es t):PE X (.Tuple es x1 pos) (WG t):=by
 intro pins s σ H Q I hq
 refine wpAny_Tuple_spliced (cH (h pos pins s σ H _ I hq) fun us s1 ⟨xs,H1,I1,r,z,q⟩=>⟨by rw[←r.length];exact z,?_⟩)
 have hf:H1 s1.heap.objs.size=none:=I1.hok.fresh (Nat.le_refl _)
 refine⟨.ref s1.heap.objs.size,upd H1 s1.heap.objs.size (.tup xs),I1.laid (t':=s1.toks) (fun b u e=>Heap.get?_push_of_some _ e) (Nat.le_refl _) ?_,rfl,q _ hf⟩
 exact⟨z,us,r,⟨_,Heap.get?_push_size _ rfl,rfl,_,rfl⟩⟩
theorem br (h:PA X es t):PE X (.List es pos) (WH t):=by
 intro pins s σ H Q I hq
 refine wpAny_List_spliced (cH (h pos pins s σ H _ I hq) fun us s1 ⟨xs,H1,I1,r,z,q⟩=>⟨by rw[←r.length];exact z,?_⟩)
 have hf:H1 s1.heap.objs.size=none:=I1.hok.fresh (Nat.le_refl _)
 refine⟨.ref s1.heap.objs.size,upd H1 s1.heap.objs.size (.lst xs),I1.laid (t':=s1.toks) (fun b u e=>Heap.get?_push_of_some _ e) (Nat.le_refl _) ?_,rfl,q _ hf⟩
 exact⟨z,us,0,r,Heap.get?_push_size _ rfl⟩
end
abbrev Sp:=List V→Hp→VK→XK→Prop
abbrev EM:=List Env→Hp→Shared→XK→Value→Shared→Prop
structure Cy (P:Program) (w:World) (K:W.Frag) (mg:Str→Option Value) (base:Heap) (A:Around) (outer:List Env) (s:Shared) (H:Hp):Prop where
 frames:A.frames=some outer
 mod:Mod K mg base
 bs:∀ b o,base.get? b=some o→s.heap.get? b=some o∧H b=none
 Jw:base.objs.size≤s.heap.objs.size
 rM:s.heap.FunFrames base outer
 Lx:∀ b∈frs outer,H b=none
 hok:pZ P w H s.heap
 bare:AllBare s.gens
def CE (outer:List Env) (P:Program) (w:World) (H:Hp) (s:Shared) (Q:VK) (u:Value) (s':Shared):Prop :=
 ∃ v H',s'.os=s.os∧AllBare s'.gens∧Un (frs outer) [] H H' s.heap s'.heap∧pZ P w H' s'.heap∧RelV v u∧Q v H'
def CR (CX:EM) (outer:List Env) (P:Program) (w:World) (H:Hp) (s:Shared) (Q:VK) (E:XK) (r:Result) (s':Shared):Prop :=
 match r with
 | .ok (.ret u)=>CE outer P w H s Q u s'
 | .ok _=>False
 | .error e=>CX outer H s E e s'
structure aI (P:Program) (w:World) (K:W.Frag) (mg:Str→Option Value) (base:Heap) (CX:EM) (k:Nat) (f:Addr) (fd:FuncData) (ps:List Str) (sp:Sp):Prop where
 len:∀ vs H Q E,sp vs H Q E→vs.length=ps.length
 run:∀(A:Around) (outer:List Env) (s:Shared) (H:Hp) (args:Args) (us:List Value) (vs:List V) (Q:VK) (E:XK),fR k A→Cy P w K mg base A outer s H→BindsTo s fd args (ps.zip us)→Vals vs us→sp vs H Q E →
  codeAny (model P w) A (.call (.ref f) args) (CR CX outer P w H s Q E) s
theorem Cy.make {P:Program}{w:World}{K:W.Frag}{mg:Str→Option Value}{base:Heap}{A:Around}{outer:List Env}{s:Shared}{H:Hp} (e:Cy P w K mg base A outer s H) (C:Addr) (us:List Value) (kw:List (Str×Value)) :
 Cy P w K mg base (A.under (.builtin "type.__call__" ⟨.ref C :: us,kw⟩)) outer s H:=⟨by first | exact e.frames | (simpa [Around.under,Code.envs,Code.isFrame,pushEnvs] using e.frames),e.mod,e.bs,e.Jw,e.rM,e.Lx,e.hok,e.bare⟩
section
variable {X:Cx}{pins:List (Addr×Obj)}{σ:St}{H:Hp}{s s':Shared}
theorem Inv.MB (I:Inv X pins σ H s):Cy X.prog X.w X.K X.mg X.base X.A X.stack s H :=
 ⟨I.ok.frames,I.ok.mod,I.bs,Nat.le_trans I.ok.Jw I.sz,I.stack,I.zm,I.hok,I.bare⟩
theorem Inv.after {Q:VK}{u:Value} (I:Inv X pins σ H s) (h:CE X.stack X.prog X.w H s Q u s'):EP X pins σ Q u s':=by
 obtain⟨v,H',os,bare,un,hok,r,q⟩:=h
 obtain⟨hh,g,d,t,os'⟩:=s'
 obtain rfl:os'=s.os:=os
 exact⟨v,H',I.call (h':=hh) (g':=g) (d':=d) (t':=t) (ch:=[]) un hok bare (fun b z=>absurd z (by simp)),r,q⟩
end
def LI (sp:Sp) (qw:List V) (E:XK) (t:TA):TE:=fun σ H Q=>t σ H fun vs H1=>sp (vs++qw) H1 Q E
def LJ (C:Addr) (m:Str) (sp:Sp) (qw:List V) (E:XK) (ta:TE) (t:TA):TE:=fun σ H Q=>ta σ H fun x H1=>∃ a dx fs,x=.ref a∧H1 a=some (.ins C dx fs)∧fs.lookup m=none ∧
 t σ H1 fun vs H2=>sp (x :: (vs++qw)) H2 Q E
def Qn (C:Addr) (sp:Sp) (qw:List V) (E:XK) (t:TA):TE:=fun σ H Q=>t σ H fun vs H1=>∀ x dx,H1 x=none→H1 dx=none→dx≠x →
 sp (.ref x :: (vs++qw)) (upd (upd H1 dx (.own x)) x (.ins C dx [])) (fun v H2=>v=.non∧Q (.ref x) H2) E
def Binds (K:W.Frag) (fd:FuncData) (ps:List Str) (ds:List Value):Prop :=
 ∀(s:Shared) (us:List Value),K.In s.heap→(us++ds).length=ps.length→BindsTo s fd ⟨us,[]⟩ (ps.zip (us++ds))
theorem Binds.all {K:W.Frag}{fd:FuncData}{ps:List Str} (h:∀ us:List Value,us.length=ps.length→bindArgs fd ⟨us,[]⟩=pure (ps.zip us)):Binds K fd ps []:=fun s us _ hl=>by
 rw[List.append_nil] at hl ⊢
 exact .of_eq (h us hl)
def Passes (CX:EM) (X:Cx) (E:XK):Prop:=∀(pins:List (Addr×Obj)) (σ:St) (H:Hp) (s:Shared) (e:Value) (s':Shared),Inv X pins σ H s→CX X.stack H s E e s'→X.xe e s'
section
variable {X:Cx}{CX:EM}{k:Nat}{f C:Addr}{fd:FuncData}{ps:List Str}{sp:Sp}{qw:List V}{ds:List Value}{E:XK}{x m:Str}{p pos apos:Pos}{e o:Expr}{es:List Expr}{ta:TE}{t:TA}
theorem Cz {pins:List (Addr×Obj)}{σ:St}{H:Hp}{s:Shared}{Q:VK}{us:List Value}{vs:List V} (F:aI X.prog X.w X.K X.mg X.base CX k f fd ps sp) (hr:fR k X.A) (hb:Binds X.K fd ps ds) (hd:Vals qw ds) (hx:Passes CX X E)
  (I:Inv X pins σ H s) (r:Vals vs us) (h:sp (vs++qw) H Q E):wpAny (model X.prog X.w) X.A (call (.ref f) us) (EP X pins σ Q) X.xe s:=by
 have r2:Vals (vs++qw) (us++ds):=r.append hd
 have hl:(us++ds).length=ps.length:=by rw[←r2.length];exact F.len _ _ _ _ h
 refine wpAny_call (codeAny_mono (F.run X.A X.stack s H ⟨us,[]⟩ (us++ds) (vs++qw) Q E hr I.MB (hb s us I.lJ hl) r2 h) fun r s' hq=>?_)
 cases r with
 | error e=>exact hx pins σ H s e s' I hq
 | ok fl =>
  cases fl with
  | ret u=>exact I.after hq
  | next=>exact False.elim hq
  | brk=>exact False.elim hq
  | cont=>exact False.elim hq
theorem oO (F:aI X.prog X.w X.K X.mg X.base CX k f fd ps sp) (hr:fR k X.A) (hg:Gl X x) (hm:X.mg x=some (.ref f)) (hk:W.keepIn X.K (.ref f)=true) (hb:Binds X.K fd ps ds) (hd:Vals qw ds) (hx:Passes CX X E)
  (ha:PA X (e :: es) t) (hdb:(x == ("__debug__" : Str))=false:=by decide) (he:starEach (e :: es) X.env=(false,eval e X.env) :: starEach es X.env:=by rfl) (hpl:(backTo pos (starEach es X.env)).any (·.1)=false:=by rfl) :
  PE X (.Call (.Name x p) (e :: es) [] pos) (LI sp qw E t):=by
 intro pins s σ H Q I h
 refine wpAny_Call_Name_kw (lK I hg hm ?_ hdb)
 refine W.callWith_K (h₀:=X.base) I.ok.mod.kU hk (cH (ha pos pins s σ H _ I h) fun us s1 ⟨vs,H1,I1,r,q⟩=>⟨I1.lJ,?_⟩) he hpl
 exact Cz F hr hb hd hx I1 r q
theorem oQ {pl:Sem Bool} (he:PE X o ta) (c:D7 X.K C) (hm:Meth X.K C m f) (F:aI X.prog X.w X.K X.mg X.base CX k f fd ps sp) (hr:fR k X.A) (hb:Binds X.K fd ps ds) (hd:Vals qw ds) (hx:Passes CX X E) (ha:PA X (e :: es) t)
  (hst:starEach (e :: es) X.env=(false,eval e X.env) :: starEach es X.env:=by rfl) (hpl:(backTo pos (starEach es X.env)).any (·.1)=false:=by rfl)
  (ht:eval (.Call (.Attribute o m apos) (e :: es) [] pos) X.env=(do
   let ov ←eval o X.env
   standAt apos.atName
   let (f,first) ←holding [ov] (getMethod ov m pl)
   callWith pos f first (backTo pos (starEach (e :: es) X.env)) (backToKw pos (keywordEach [] X.env))):=by rfl) :
  PE X (.Call (.Attribute o m apos) (e :: es) [] pos) (LJ C m sp qw E ta t):=by
 intro pins s σ H Q I h
 refine W.methodCall_KW (pl:=pl) (cH (he pins s σ H _ I h) fun u s1 ⟨x,H1,I1,rx,a,dx,fs,ex,ea,l,q⟩=>?_) ht
 subst ex
 obtain rfl:u=Value.ref a:=rx
 refine vD I1 ea c hm l ?_
 refine W.callWith_K (first:=[.ref a]) (h₀:=X.base) I.ok.mod.kU hm.kp (cH (ha pos pins s1 σ H1 _ I1 q) fun us s2 ⟨vs,H2,I2,r,q2⟩=>⟨I2.lJ,?_⟩) hst hpl
 exact Cz (us:=.ref a :: us) (vs:=.ref a :: vs) F hr hb hd hx I2 (.cons rfl r) q2
theorem A6 {pl:Sem Bool} (he:PE X o ta) (c:D7 X.K C) (hm:Meth X.K C m f) (F:aI X.prog X.w X.K X.mg X.base CX k f fd ps sp) (hr:fR k X.A) (hb:Binds X.K fd ps ds) (hd:Vals qw ds) (hx:Passes CX X E)
  (ht:eval (.Call (.Attribute o m apos) [] [] pos) X.env=(do
   let ov ←eval o X.env
   standAt apos.atName
   let (f,first) ←holding [ov] (getMethod ov m pl)
   callWith pos f first (backTo pos (starEach [] X.env)) (backToKw pos (keywordEach [] X.env))):=by rfl) :
  PE X (.Call (.Attribute o m apos) [] [] pos) (LJ C m sp qw E ta Ql):=by
 intro pins s σ H Q I h
 refine W.methodCall_KW (pl:=pl) (cH (he pins s σ H _ I h) fun u s1 ⟨x,H1,I1,rx,a,dx,fs,ex,ea,l,q⟩=>?_) ht
 subst ex
 obtain rfl:u=Value.ref a:=rx
 refine vD I1 ea c hm l ?_
 exact W.callWith_K0 (first:=[.ref a]) I1.lJ hm.kp (Cz (us:=[.ref a]) (vs:=[.ref a]) F hr hb hd hx I1 (.cons rfl .nil) q)
structure Mk (K:W.Frag) (C f:Addr):Prop where
 makes:W.makesIn K C=true
 init:W.findIn K (.ref C) "__init__" = some (some (.ref f))
 fn:W.isFn K (.ref f)=true
 kp:W.keepIn K (.ref C)=true
theorem Hq {pins:List (Addr×Obj)}{σ:St}{H:Hp}{s:Shared}{Q:VK}{us:List Value}{vs:List V} (M:Mk X.K C f) (F:aI X.prog X.w X.K X.mg X.base CX k f fd ps sp) (hr:fR (k+1) X.A) (hb:Binds X.K fd ps ds) (hd:Vals qw ds)
  (hx:Passes CX X E) (I:Inv X pins σ H s) (r:Vals vs us)
  (h:∀ x dx,H x=none→H dx=none→dx≠x→sp (.ref x :: (vs++qw)) (upd (upd H dx (.own x)) x (.ins C dx [])) (fun v H2=>v=.non∧Q (.ref x) H2) E) :
  wpAny (model X.prog X.w) X.A (call (.ref C) us) (EP X pins σ Q) X.xe s:=by
 have hq:=h (s.heap.objs.size+1) s.heap.objs.size (I.hok.fresh (Nat.le_succ _)) (I.hok.fresh (Nat.le_refl _)) (Nat.ne_of_lt (Nat.lt_succ_self _))
 have I2:=Inv.made (C:=C) I
 have r2:Vals (V.ref (s.heap.objs.size+1) :: (vs++qw)) (Value.ref (s.heap.objs.size+1) :: (us++ds)):=.cons rfl (r.append hd)
 have hl:(Value.ref (s.heap.objs.size+1) :: us++ds).length=ps.length:=by
  have e:=r2.length
  rw[F.len _ _ _ _ hq] at e
  exact e.symm
 refine wpAny_call (Ho (f:=f) I.lJ M.makes M.init (beq_iff_eq.mp M.fn) (codeAny_mono (F.run _ X.stack _ _ ⟨Value.ref (s.heap.objs.size+1) :: us,[]⟩ (Value.ref (s.heap.objs.size+1) :: (us++ds)) _ _ E (hr.make C us [])
  (I2.MB.make C us []) (hb _ (Value.ref (s.heap.objs.size+1) :: us) I2.lJ hl) r2 hq) fun r s' hq'=>?_))
 cases r with
 | error e=>exact hx pins σ _ _ e s' I2 hq'
 | ok fl =>
  cases fl with
  | ret u =>
   obtain⟨v,H',I3,rv,ev,q3⟩:=I2.after hq'
   subst ev
   exact⟨rv,⟨V.ref (s.heap.objs.size+1),H',I3,rfl,q3⟩⟩
  | next=>exact False.elim hq'
  | brk=>exact False.elim hq'
  | cont=>exact False.elim hq'
theorem qA (M:Mk X.K C f) (F:aI X.prog X.w X.K X.mg X.base CX k f fd ps sp) (hr:fR (k+1) X.A) (hg:Gl X x) (hm:X.mg x=some (.ref C)) (hb:Binds X.K fd ps ds) (hd:Vals qw ds) (hx:Passes CX X E)
  (ha:PA X (e :: es) t) (hdb:(x == ("__debug__" : Str))=false:=by decide) (he:starEach (e :: es) X.env=(false,eval e X.env) :: starEach es X.env:=by rfl) (hpl:(backTo pos (starEach es X.env)).any (·.1)=false:=by rfl) :
  PE X (.Call (.Name x p) (e :: es) [] pos) (Qn C sp qw E t):=by
 intro pins s σ H Q I h
 refine wpAny_Call_Name_kw (lK I hg hm ?_ hdb)
 refine W.callWith_K (h₀:=X.base) I.ok.mod.kU M.kp (cH (ha pos pins s σ H _ I h) fun us s1 ⟨vs,H1,I1,r,q⟩=>⟨I1.lJ,?_⟩) he hpl
 exact Hq M F hr hb hd hx I1 r q
end
section
variable {X:Cx}{CX:EM}{k:Nat}{f C:Addr}{fd:FuncData}{ps ks:List Str}{sp:Sp}{E:XK}{x m:Str}{p pos apos kpos:Pos}{e o:Expr}{es:List Expr}{kws:List Keyword}{te ta:TE}{t tk:TA}{nm:Option Str}
variable {g:List Value→List Value→List Value}{gV:List V→List V→List V}
end
structure aH (N P:List Str) (sc:Scope):Prop where
 kind:sc.kind=.function
 co:sc.isCoroutine=false
 gen:sc.isGenerator=false
 nd:N.Nodup
 pre:N.take P.length=P
 par:∀ x∈P,sc.names.lookup x=some .local∨sc.names.lookup x=some .cell
 MC:∀ y∈sc.names,y.2≠.free
theorem yD {kindOf:Str→Option NameKind}{x:Str}:∀{binds:List (Str×Value)}{m:Str→Option Value},(∀ v,(x,v)∉binds)→bindL kindOf binds m x=m x
 | [],_,_=>rfl
 | (n,v) :: r,m,h=>by
  unfold bindL
  rw[yD fun w hw=>h w (List.mem_cons_of_mem _ hw)]
  split
  ·have:x≠n:=by rintro rfl;exact h v List.mem_cons_self
   simp[this]
  ·rfl
theorem yE {kindOf:Str→Option NameKind}{x:Str}:∀{binds:List (Str×Value)}{m:Str→Option Value},(∀ v,(x,v)∉binds)→bindC kindOf binds m x=m x
 | [],_,_=>rfl
 | (n,v) :: r,m,h=>by
  unfold bindC
  rw[yE fun w hw=>h w (List.mem_cons_of_mem _ hw)]
  split
  ·rfl
  ·have:x≠n:=by rintro rfl;exact h v List.mem_cons_self
   simp[this]
theorem yF {kindOf:Str→Option NameKind}{x:Str}{v:Value}:∀{P:List Str}{vs:List Value}{i:Nat}{m:Str→Option Value},P.Nodup→P[i]? = some x→vs[i]? = some v→kindOf x=some .local →
  bindL kindOf (P.zip vs) m x=some v
 | [],_,_,_,_,h,_,_=>by simp at h
 | _ :: _,[],_,_,_,_,h,_=>by simp at h
 | p :: P,w :: vs,0,m,nd,h1,h2,hk=>by
  simp at h1 h2;subst h1;subst h2
  show bindL kindOf ((p,w) :: P.zip vs) m p=_
  unfold bindL
  rw[yD fun v hv=>(List.nodup_cons.mp nd).1 (List.of_mem_zip hv).1,if_pos hk]
  simp
 | p :: P,w :: vs,i+1,m,nd,h1,h2,hk=>by
  show bindL kindOf ((p,w) :: P.zip vs) m x=_
  unfold bindL
  exact yF (i:=i) (List.nodup_cons.mp nd).2 (by simpa using h1) (by simpa using h2) hk
theorem yG {kindOf:Str→Option NameKind}{x:Str}{v:Value}:∀{P:List Str}{vs:List Value}{i:Nat}{m:Str→Option Value},P.Nodup→P[i]? = some x→vs[i]? = some v→kindOf x≠some .local →
  bindC kindOf (P.zip vs) m x=some v
 | [],_,_,_,_,h,_,_=>by simp at h
 | _ :: _,[],_,_,_,_,h,_=>by simp at h
 | p :: P,w :: vs,0,m,nd,h1,h2,hk=>by
  simp at h1 h2;subst h1;subst h2
  show bindC kindOf ((p,w) :: P.zip vs) m p=_
  unfold bindC
  rw[yE fun v hv=>(List.nodup_cons.mp nd).1 (List.of_mem_zip hv).1,if_neg hk]
  simp
 | p :: P,w :: vs,i+1,m,nd,h1,h2,hk=>by
  show bindC kindOf ((p,w) :: P.zip vs) m x=_
  unfold bindC
  exact yG (i:=i) (List.nodup_cons.mp nd).2 (by simpa using h1) (by simpa using h2) hk
def start (N:List Str) (vs:List V):St:=vs.map some++List.replicate (N.length - vs.length) none
def vE (CX:EM) (P:Program) (w:World) (K:W.Frag) (mg:Str→Option Value) (base:Heap) (N:List Str) (qual:Str) (scope:Scope) (f:Addr) (cd:Value) (A:Around) (outer:List Env) (s:Shared) (H:Hp) (E:XK):Cx where
 prog:=P
 w:=w
 K:=K
 mg:=mg
 base:=base
 A:=A.deeper (envOfC qual scope s.heap.objs.size f cd)
 N:=N
 s₀:=s
 H₀:=H
 env:=envOfC qual scope s.heap.objs.size f cd
 outer:=outer
 stack:=envOfC qual scope s.heap.objs.size f cd :: outer
 ex:=[]
 calm:=true
 fn:=fun _=>true
 pn:=[]
 xe:=fun e s'=>wpAny (model P w) (A.deeper (envOfC qual scope s.heap.objs.size f cd)) (leaving (envOfC qual scope s.heap.objs.size f cd) e) (fun _ s''=>CX outer H s E e s'') (fun e' s''=>CX outer H s E e' s'') s'
theorem A7 {sc:Scope}{n:Nat}{x:Str} (h:sc.names.lookup x=some .cell):∃ c,(cellsFrom n sc.names []).lookup x=some c:=by
 have q:=W.cellsFrom_some sc.names n [] (.inl h)
 exact Option.isSome_iff_exists.mp q
theorem EN {CX:EM}{P:Program}{w:World}{K:W.Frag}{mg:Str→Option Value}{base:Heap}{N ps:List Str}{qual:Str}{scope:Scope}{f:Addr}{cd:Value}{A:Around}{outer:List Env}{s s1:Shared}{H:Hp}{E:XK}{us:List Value}{vs:List V}
  (S:aH N ps scope) (hd:A.handled=none) (e0:Cy P w K mg base A outer s H) (hl:vs.length=ps.length) (r:Vals vs us)
  (x:InCallC s s.heap.objs.size (bindL (envOfC qual scope s.heap.objs.size f cd).kindOf (ps.zip us) fun _=>none) (cellsFrom (s.heap.objs.size+1) scope.names []) (bindC (envOfC qual scope s.heap.objs.size f cd).kindOf (ps.zip us) fun _=>none) s1) :
  Inv (vE CX P w K mg base N qual scope f cd A outer s H E) [] (start N vs) H s1:=by
 have hpl:ps.length≤N.length:=by have:=congrArg List.length S.pre;rw[List.length_take] at this;omega
 obtain⟨h1,tk,rfl,hk⟩:=x.done
 have Qo:∀ b:Addr,b∉(vE CX P w K mg base N qual scope f cd A outer s H E).ex:=fun b z=>absurd (show b∈([]:List Addr) from z) (by simp)
 refine⟨⟨e0.mod,S.kind,rfl,rfl,Nat.le_refl _,fun y z c h1 h2=>?_,fun y hy=>?_,fun y c _ h=>?_,fun _=>hd,Around.frames_deeper e0.frames,.inr ⟨rfl,rfl⟩,fun b z=>absurd z (Qo b),e0.bs,e0.Jw,fun b _ _=>Qo b,fun b z=>absurd z (Qo b),e0.rM,e0.Lx⟩,
  rfl,e0.bare,Un.kept hk,⟨_,x.toInCall.ns,fun i y v h1 h2 h3=>?_⟩,fun y c h=>⟨_,x.cell y c h⟩,e0.hok.fresh (Nat.le_refl _),fun y c h=>?_,fun p hp=>absurd (show p∈([]:List (Addr×Obj)) from hp) (by simp),e0.hok.kept hk,?_⟩
 ·exact name_of_addr x.apart (PySem.mem_of_lookup h1) (PySem.mem_of_lookup h2)
 ·have hy:scope.names.lookup y=some .cell∨scope.names.lookup y=some .free:=hy
  rcases hy with hy | hy
  ·exact A7 hy
  ·exact absurd rfl (S.MC _ (PySem.mem_of_lookup hy))
 ·exact Nat.le_of_lt (x.above y c (PySem.mem_of_lookup h))
 ·have hi:i < vs.length:=by
   unfold start at h2
   by_cases hi:i < vs.length
   ·exact hi
   ·rw[List.getElem?_append_right (by simpa using hi)] at h2
    rw[List.getElem?_replicate] at h2
    split at h2 <;> cases h2
  have ha:vs[i]? = some v:=by
   unfold start at h2
   rw[List.getElem?_append_left (by simpa using hi),List.getElem?_map] at h2
   cases e:vs[i]? with
   | none=>rw[e] at h2;cases h2
   | some a=>rw[e] at h2;cases h2;rfl
  obtain⟨u,hu,rv⟩:=r.get ha
  have hp:ps[i]? = some y:=by
   rw[←S.pre,List.getElem?_take_of_lt (by omega)];exact h1
  have ndP:ps.Nodup:=by rw[←S.pre];exact S.nd.sublist (List.take_sublist _ _)
  refine⟨u,rv,?_⟩
  rcases S.par y (List.mem_of_getElem? hp) with k | k
  ·exact .inl ⟨k,yF ndP hp hu k⟩
  ·obtain⟨c,e⟩:=A7 (n:=s.heap.objs.size+1) k
   refine .inr ⟨.inl k,c,e,?_⟩
   have q:=x.cell y c e
   rw[yG ndP hp hu (by show scope.names.lookup y≠_;rw[k];decide)] at q
   exact q
 ·exact e0.hok.fresh (Nat.le_of_lt (x.above y c (PySem.mem_of_lookup h)))
 ·unfold start
  show _=N.length
  rw[List.length_append,List.length_map,List.length_replicate]
  omega
theorem Hr {CX:EM}{P:Program}{w:World}{K:W.Frag}{mg:Str→Option Value}{base:Heap}{k:Nat}{f:Addr}{name qual:Str}{params:Arguments}{body:List Stmt}{scope:Scope}{dV kV doc pm cdv ct oc:Value}{an od:Option Addr}
  {osl:Array (Option Value)}{N ps:List Str}{sp:Sp} (lk:K.lookup f=some ⟨oc,od,.func (W.fnOf name qual params body scope dV kV doc pm an cdv ct),osl⟩) (hcd:W.codeIn K cdv qual=true) (S:aH N ps scope)
  (len:∀ vs H Q E,sp vs H Q E→vs.length=ps.length)
  (hbody:∀(A:Around) (outer:List Env) (s:Shared) (H:Hp) (vs:List V) (Q:VK) (E:XK),fR k (A.deeper (envOfC qual scope s.heap.objs.size f cdv))→sp vs H Q E →
   ∃ t,AZ (vE CX P w K mg base N qual scope f cdv A outer s H E) body t∧t { nx:=fun _ H'=>Q .non H',rt:=Q } (start N vs) H) :
  aI P w K mg base CX (k+1) f (W.fnOf name qual params body scope dV kV doc pm an cdv ct) ps sp:=by
 refine⟨len,fun A outer s H args us vs Q E hr e0 hb r GR=>?_⟩
 have hl:=len _ _ _ _ GR
 have KX:K.In s.heap:=e0.mod.kU.keeps fun b o e=>(e0.bs b o e).1
 have lim:s.heap.NoLimit:=e0.mod.nolimit.keeps fun b o e=>(e0.bs b o e).1
 have hkind:∀ y∈ps.zip us,scope.names.lookup y.1=some .local∨(scope.names.lookup y.1=some .cell∧((cellsFrom (s.heap.objs.size+1) scope.names []).lookup y.1).isSome=true):=fun ⟨n,v⟩ hy=>by
  rcases S.par n (List.of_mem_zip hy).1 with q | q
  ·exact .inl q
  ·exact .inr ⟨q,W.cellsFrom_some _ _ _ (.inl q)⟩
 refine codeAny_call_function hr.depth (KX _ _ lk) rfl S.co S.gen rfl (W.codeRec_of KX hcd) (hb _ _ _ _ ?_)
 refine wpAny_newFunctionEnv_cells S.kind hkind fun env he s1 x=>?_
 subst he
 refine⟨lim.keeps x.toInCall.keep,codeAny_func ?_⟩
 obtain⟨t,ht,hq⟩:=hbody A outer s H vs Q E (hr.deeper _) GR
 have I:Inv (vE CX P w K mg base N qual scope f cdv A outer s H E) [] (start N vs) H s1:=EN S hr.hd e0 hl r x
 refine wpAny_mono (ht [] s1 (start N vs) H _ I hq) (fun fl s' hs=>?_) fun e s' hs=>hs
 have fin:∀{σ':St}{H':Hp}{v:V}{u:Value},Inv (vE CX P w K mg base N qual scope f cdv A outer s H E) [] σ' H' s'→RelV v u→Q v H'→CE outer P w H s Q u s' :=
  fun {σ' H' v u} J rv q=>⟨v,H',J.os,J.bare,J.base,J.hok,rv,q⟩
 cases fl with
 | ret u =>
  obtain⟨v,σ',H',J,rv,q⟩:=hs
  exact fin J rv q
 | next =>
  obtain⟨σ',H',J,q⟩:=hs
  exact fin (v:=V.non) (u:=Value.none) J rfl q
 | brk =>
  obtain⟨_,_,_,q⟩:=hs
  exact False.elim q
 | cont =>
  obtain⟨_,_,_,q⟩:=hs
  exact False.elim q
section
variable {X:Cx}{x:Str}{p pos:Pos}{e:Expr}{es:List Expr}{t:TA}{id T:String}{r:List V→Hp→VK→Prop}
def V0 (r:List V→Hp→VK→Prop) (t:TA):TE:=fun σ H Q=>t σ H fun vs H1=>r vs H1 Q
theorem Hs (hc:gP X (.builtin id) r) (hg:Gl X x) (hm:X.mg x=none) (hv:bootBuiltins x=some (.builtin id)) (ha:PA X (e :: es) t) (hn:x ≠ "__name__" := by decide) (hdb:(x == ("__debug__" : Str))=false:=by decide)
  (he:starEach (e :: es) X.env=(false,eval e X.env) :: starEach es X.env:=by rfl) (hpl:(backTo pos (starEach es X.env)).any (·.1)=false:=by rfl):PE X (.Call (.Name x p) (e :: es) [] pos) (V0 r t):=by
 intro pins s σ H Q I h
 refine wpAny_Call_Name_kw (rN I hg hm hv ?_ hn hdb)
 exact PyProof.Rows.callWith_builtin1 (cH (ha pos pins s σ H _ I h) fun us s1 ⟨vs,H1,I1,r1,q1⟩=>hc pins s1 σ H1 vs us Q I1 r1 q1) he hpl
theorem EO (hc:gP X (.type T) r) (hg:Gl X x) (hm:X.mg x=none) (hv:bootBuiltins x=some (.type T)) (ha:PA X (e :: es) t) (hn:x ≠ "__name__" := by decide) (hdb:(x == ("__debug__" : Str))=false:=by decide)
  (he:starEach (e :: es) X.env=(false,eval e X.env) :: starEach es X.env:=by rfl) (hpl:(backTo pos (starEach es X.env)).any (·.1)=false:=by rfl):PE X (.Call (.Name x p) (e :: es) [] pos) (V0 r t):=by
 intro pins s σ H Q I h
 refine wpAny_Call_Name_kw (rN I hg hm hv ?_ hn hdb)
 exact PyProof.Rows.callWith_type1 (cH (ha pos pins s σ H _ I h) fun us s1 ⟨vs,H1,I1,r1,q1⟩=>hc pins s1 σ H1 vs us Q I1 r1 q1) he hpl
end
end L2
namespace HT
open PySem PyProof.Rows
section
open PySem.SeqAt
open PySem.AutoSeq1 (wpAny_loadPart')
open PySem.MeetsSeq PySem.MeetsSeq2 PySem.MeetsSeq3
end
section
variable {prog:Program}{w:World}{A:Around}{E:Value→Shared→Prop}{s:Shared}
def AW (n d:Nat):Option Int→Nat
 | none=>d
 | some v=>if v < 0 then (v+(n:Int)).toNat else min v.toNat n
end
end HT
namespace L2
open PySem PySem.Spec PyProof.Rows
abbrev TO:=St→Hp→(Option Int→Hp→Prop)→Prop
def PO (X:Cx) (e:Option Expr) (t:TO):Prop :=
 ∀(pins:List (Addr×Obj)) (s:Shared) (σ:St) (H:Hp) (Q:Option Int→Hp→Prop),Inv X pins σ H s→t σ H Q →
  wpAny (model X.prog X.w) X.A (evalPart e X.env) (fun u s'=>∃ o H',Inv X pins σ H' s'∧IsPart u o∧Q o H') X.xe s
def JQ:TO:=fun _ H Q=>Q none H
def Qp (t:TE):TO:=fun σ H Q=>t σ H fun x H1=>∃ i,x=.int i∧Q (some i) H1
section
variable {X:Cx}{e:Expr}{te:TE}{lo hi:Option Expr}{tl th:TO}{pos p2:Pos}
theorem D8:PO X none JQ:=by
 intro pins s σ H Q I h
 rw[evalPart_none]
 exact wpAny_pure ⟨none,H,I,.none,h⟩
theorem vd (h:PE X e te):PO X (some e) (Qp te):=by
 intro pins s σ H Q I hw
 rw[evalPart_some]
 refine cH (h pins s σ H _ I hw) fun u s1 ⟨x,H1,I1,r1,q1⟩=>?_
 obtain⟨i,rfl,q⟩:=q1
 obtain⟨t,rfl⟩:=r1
 exact⟨some i,H1,I1,.int i t,q⟩
def WI (X:Cx) (r:V→Option Int→Option Int→Hp→VK→Prop):Prop :=
 ∀(pins:List (Addr×Obj)) (s:Shared) (σ:St) (H:Hp) (x:V) (v vl vu:Value) (lo hi:Option Int) (sl:Addr) (Q:VK),Inv X pins σ H s→RelV x v→s.heap.IsSliceOf sl vl vu .none→IsPart vl lo→IsPart vu hi→r x lo hi H Q →
  ∃ T id,typeLookup (.type T) "__getitem__" = pure (some (.builtin id))∧s.TypeIs v T∧wpAny (model X.prog X.w) X.A (getItem v (.ref sl)) (EP X pins σ Q) X.xe s
def tSl (r:V→Option Int→Option Int→Hp→VK→Prop) (te:TE) (tl th:TO):TE:=fun σ H Q=>te σ H fun x H1=>tl σ H1 fun l H2=>th σ H2 fun u H3=>r x l u H3 Q
theorem vF {r:V→Option Int→Option Int→Hp→VK→Prop} (hr:WI X r) (he:PE X e te) (hl:PO X lo tl) (hu:PO X hi th):PE X (.Subscript e (.Slice lo hi none p2) pos) (tSl r te tl th):=by
 intro pins s σ H Q I h
 refine Subscript_ (cH (he pins s σ H _ I h) fun v s1 ⟨x,H1,I1,r1,q1⟩=>?_)
 refine wpAny_Slice (cH (hl pins s1 σ H1 _ I1 q1) fun vl s2 ⟨l,H2,I2,pl,q2⟩=>cH (hu pins s2 σ H2 _ I2 q2) fun vu s3 ⟨u,H3,I3,pu,q3⟩=>?_)
 rw[evalPart_none]
 refine wpAny_pure ?_
 have I4:Inv X pins σ H3 { s3 with heap:=s3.heap.push { cls:=.type "slice",data:=.fields #[vl,vu,.none] } }:=I3.kept (t':=s3.toks) fun b ob q=>Heap.get?_push_of_some _ q
 obtain⟨T,id,hT,ht,hg⟩:=hr pins { s3 with heap:=s3.heap.push { cls:=.type "slice",data:=.fields #[vl,vu,.none] } } σ H3 x v vl vu l u s3.heap.objs.size Q I4 r1 (Heap.IsSliceOf.new ..) pl pu q3
 show wpAny (model X.prog X.w) X.A (subscriptTail e (.Slice lo hi none p2) v (.ref s3.heap.objs.size)) (EP X pins σ Q) X.xe { s3 with heap:=s3.heap.push { cls:=.type "slice",data:=.fields #[vl,vu,.none] } }
 exact tail_any (ops:=[.ref s3.heap.objs.size,v]) ht hT hg (by with_unfolding_all rfl)
def iB (xs:List V) (lo hi:Option Int):List V:=(xs.drop (HT.AW xs.length 0 lo)).take (HT.AW xs.length xs.length hi - HT.AW xs.length 0 lo)
theorem A8 (xs:List V) (lo hi:Option Int):(iB xs lo hi).length≤xs.length:=by
 unfold iB
 rw[List.length_take,List.length_drop]
 omega
end
def Pc (n:Nat) (i:Int):Option Nat:=if 0≤i then (if i < n then some i.toNat else none) else if -(n:Int)≤i then some (i+n).toNat else none
def Ht {α:Type} (xs:List α) (i:Int):Option α:=(Pc xs.length i).bind fun j=>xs[j]?
theorem JR {n:Nat}{i:Int}{j:Nat} (h:Pc n i=some j):seqIndex? i n=some j∧j < n∧-(n:Int)≤i∧i < n:=by
 unfold Pc at h
 by_cases h0:0≤i
 ·rw[if_pos h0] at h
  by_cases h1:i < n
  ·rw[if_pos h1] at h
   have e:i.toNat=j:=Option.some.inj h
   exact⟨by rw[seqIndex_of h0 h1,e],by omega,by omega,h1⟩
  ·rw[if_neg h1] at h;cases h
 ·rw[if_neg h0] at h
  by_cases h1 : -(n:Int)≤i
  ·rw[if_pos h1] at h
   have e:(i+n).toNat=j:=Option.some.inj h
   exact⟨by rw[seqIndex_neg (by omega) h1,e],by omega,h1,by omega⟩
  ·rw[if_neg h1] at h;cases h
theorem zw {α:Type}{xs:List α}{i:Int}{v:α} (h:Ht xs i=some v):∃ j,seqIndex? i xs.length=some j∧xs[j]? = some v∧j < xs.length∧-(xs.length:Int)≤i∧i < xs.length:=by
 unfold Ht at h
 cases e:Pc xs.length i with
 | none=>rw[e] at h;cases h
 | some j =>
  rw[e] at h
  obtain⟨h1,h2,h3,h4⟩:=JR e
  exact⟨j,h1,h,h2,h3,h4⟩
theorem ve {α:Type}{xs:List α}{j:Nat}{v:α} (h:xs[j]? = some v):Ht xs (j:Int)=some v:=by
 have hj:j < xs.length:=(List.getElem?_eq_some_iff.mp h).1
 have e:Pc xs.length (j:Int)=some j:=by
  unfold Pc
  rw[if_pos (by omega),if_pos (by omega)];simp
 unfold Ht;rw[e];exact h
def zx (b:Expr):Prop:=∀ o i,subscripted b false o i=operate [o,i] (getItem o i)
def Pd (X:Cx) (r:R2):Prop :=
 ∀(value slice:Expr) (pins:List (Addr×Obj)) (s:Shared) (σ:St) (H:Hp) (x y:V) (v u:Value) (Q:VK),Inv X pins σ H s→RelV x v→RelV y u→r x y H Q →
  subscripted slice false v u=operate [v,u] (getItem v u)→wpAny (model X.prog X.w) X.A (subscriptTail value slice v u) (EP X pins σ Q) X.xe s
def WJ (X:Cx) (id:String) (r:V→List V→Hp→VK→Prop):Prop :=
 ∀(pins:List (Addr×Obj)) (s:Shared) (σ:St) (H:Hp) (x:V) (xs:List V) (v:Value) (us:List Value) (Q:VK),Inv X pins σ H s→RelV x v→Vals xs us→r x xs H Q →
  wpAny (model X.prog X.w) X.A (call (.builtin id) (v :: us)) (EP X pins σ Q) X.xe s
section
variable {X:Cx}{a b:Expr}{ta tb:TE}{pos:Pos}
theorem Hu {r:R2} (hr:Pd X r) (ha:PE X a ta) (hb:PE X b tb) (hs:zx b):PE X (.Subscript a b pos) (LC r ta tb):=by
 intro pins s σ H Q I h
 exact Subscript_ (Mw ha hb I h fun v u s2 x y H2 I2 rx ry q=>hr a b pins s2 σ H2 x y v u Q I2 rx ry q (hs _ _))
def MD (K:W.Frag):R2:=fun x y H Q=>∃ p xs i v,x=.ref p∧y=.int i∧bE K H p xs∧Ht xs i=some v∧Q v H
def ME (K:W.Frag):R2:=fun x y H Q=>∃ p xs i v,x=.ref p∧y=.int i∧cB K H p xs∧Ht xs i=some v∧Q v H
def WK:R2:=fun x y H Q=>∃ z i c,x=.str z∧y=.int i∧z.length≤sizeLine∧Ht z.cps.toList i=some c∧Q (.str ⟨#[c]⟩) H
theorem JS:Pd X (MD X.K):=by
 intro value slice pins s σ H x y v u Q I rx ry h hs
 obtain⟨p,xs,i,z,rfl,rfl,hq,he,q⟩:=h
 cases rx
 obtain⟨t,rfl⟩:=ry
 obtain⟨its,r,pl,hz⟩:=I.list hq
 obtain⟨j,h1,h2,h3,h4,h5⟩:=zw he
 obtain⟨w,ew,rw'⟩:=r.get h2
 have hl:=r.length
 have hn:=vC
 have fin:EP X pins σ Q w s:=⟨z,H,I,rw',q⟩
 by_cases h0:0≤i
 ·have hj:i.toNat=j:=by
   rw[seqIndex_of h0 h5] at h1
   exact Option.some.inj h1
  exact item_listR pl.isList h0 (by omega) (by rw[hj];simpa using ew) fin hs
 ·have hj:(i+(its.toArray.size:Int)).toNat=j:=by
   rw[seqIndex_neg (by omega) h4] at h1
   rw[List.size_toArray,←hl]
   exact Option.some.inj h1
  exact subscriptTail_builtinR (x:=w) pl.isList.typeIs slot_list_getitem.lookup
   (wpAny_getItem_list_neg (Q:=fun r s'=>r=w∧EP X pins σ Q r s') pl.isList (by omega) (by rw[List.size_toArray] <;> omega) (by omega) (by rw[hj];simpa using ew) ⟨rfl,fin⟩) hs
theorem MF:Pd X (ME X.K):=by
 intro value slice pins s σ H x y v u Q I rx ry h hs
 obtain⟨p,xs,i,z,rfl,rfl,hq,he,q⟩:=h
 cases rx
 obtain⟨t,rfl⟩:=ry
 obtain⟨its,r,pl,hz⟩:=I.tuple hq
 obtain⟨j,h1,h2,h3,h4,h5⟩:=zw he
 obtain⟨w,ew,rw'⟩:=r.get h2
 have hl:=r.length
 have hn:=vC
 have fin:EP X pins σ Q w s:=⟨z,H,I,rw',q⟩
 exact subscriptTail_builtinR (x:=w) pl.typeIs slot_tuple_getitem.lookup
  (getItem_tuple (j:=j) (Q:=fun r s'=>r=w∧EP X pins σ Q r s') pl (by omega) (by omega) (by rw[List.size_toArray,←hl];exact h1) (by simpa using ew) ⟨rfl,fin⟩) hs
theorem MG:Pd X WK:=by
 intro value slice pins s σ H x y v u Q I rx ry h hs
 obtain⟨z,i,c,rfl,rfl,hz,he,q⟩:=h
 obtain⟨t,rfl⟩:=rx
 obtain⟨t',rfl⟩:=ry
 obtain⟨j,h1,h2,h3,h4,h5⟩:=zw he
 have hl:z.cps.toList.length=z.length:=by simp[Str.length]
 rw[hl] at h1 h4 h5
 have hn:=vC
 exact tail_any (typeIs_str s z t) slot_str_getitem.lookup (getItem_str (c:=c) (by
  have e1:decide (i < -(2 ^ 63:Int))=false:=decide_eq_false (by omega)
  have e2:decide (i≥2 ^ 63)=false:=decide_eq_false (by omega)
  rw[e1,e2,Bool.or_false]) (by rw[h1];simpa using h2) ⟨.str ⟨#[c]⟩,H,I.tok _,⟨_,rfl⟩,q⟩) hs
theorem zy (lo hi:Option Int) (n:Nat):(sliceBounds lo hi none n).1=((HT.AW n 0 lo:Nat):Int)∧(sliceBounds lo hi none n).2.1=((HT.AW n n hi:Nat):Int)∧(sliceBounds lo hi none n).2.2=1:=by
 refine⟨?_,?_,rfl⟩
 ·cases lo with
  | none=>simp[sliceBounds,HT.AW]
  | some i =>
   simp only[sliceBounds,HT.AW,Option.getD_none,show(1:Int) > 0 by decide,if_true]
   by_cases h:i < 0
   ·simp only[h,if_true] <;> omega
   ·simp only[h,if_false] <;> omega
 ·cases hi with
  | none=>simp[sliceBounds,HT.AW]
  | some i =>
   simp only[sliceBounds,HT.AW,Option.getD_none,show(1:Int) > 0 by decide,if_true]
   by_cases h:i < 0
   ·simp only[h,if_true] <;> omega
   ·simp only[h,if_false] <;> omega
theorem xH (its:List Value) (lo hi:Option Int):slicePick its.toArray lo hi none=((its.drop (HT.AW its.length 0 lo)).take (HT.AW its.length its.length hi - HT.AW its.length 0 lo)).toArray:=by
 obtain⟨h1,h2,h3⟩:=zy lo hi its.toArray.size
 unfold slicePick
 rw[h1,h2,h3]
 simp only[sliceRange_one,pick_run,List.size_toArray] <;> rfl
def Qq (K:W.Frag):V→Option Int→Option Int→Hp→VK→Prop:=fun x lo hi H Q=>∃ a xs,x=.ref a∧bE K H a xs∧∀ p,H p=none→Q (.ref p) (upd H p (.lst (iB xs lo hi)))
theorem JT:WI X (Qq X.K):=by
 intro pins s σ H x v vl vu lo hi sl Q I rx hs pl pu h
 obtain⟨a,xs,rfl,hx,q⟩:=h
 cases rx
 obtain⟨its,r,ht,hz⟩:=I.list hx
 have hlen:=r.length
 refine⟨"list",_,slot_list_getitem.lookup,ht.isList.typeIs,?_⟩
 refine wpAny_getItem_list_slice ht.isList hs pl pu .none (by simp) ?_ (by rw[List.size_toArray] <;> omega)
 rw[xH,←hlen]
 refine⟨.ref s.heap.objs.size,_,I.laid (t':=s.toks) (o:=.lst (iB xs lo hi)) (fun b ob q=>Heap.get?_push_of_some _ q) (Nat.le_refl _) ?_,rfl,q _ (I.hok.fresh (Nat.le_refl _))⟩
 exact⟨Nat.le_trans (A8 xs lo hi) hz,_,0,(r.drop (HT.AW xs.length 0 lo)).take (HT.AW xs.length xs.length hi - HT.AW xs.length 0 lo),Heap.get?_push_size _ rfl⟩
def tE:V→Bool
 | .non=>true
 | .bl _=>true
 | .int _=>true
 | .str _=>true
 | _=>false
def Qs:V→V→Bool
 | .non,.non=>true
 | .bl a,.bl b=>a == b
 | .bl a,.int b=>(if a then 1 else 0) == b
 | .int a,.bl b=>a == (if b then 1 else 0)
 | .int a,.int b=>a == b
 | .str a,.str b=>a == b
 | _,_=>false
theorem MH {A:Around}{s:Shared}{y x:V}{u v:Value} (ry:RelV y u) (rx:RelV x v) (fy:tE y=true) (fx:tE x=true):SeqAt.EqAt A s u v (Qs y x):=by
 cases y with
 | non =>
  cases ry
  cases x with
  | non=>cases rx;exact SeqAt.EqAt.same _
  | bl b=>cases rx;exact SeqAt.EqAt.none_bool b
  | int b=>obtain⟨t,rfl⟩:=rx;exact SeqAt.EqAt.none_int b t
  | str b=>obtain⟨t,rfl⟩:=rx;exact SeqAt.EqAt.none_str b t
  | _=>exact absurd (show false=true from fx) Bool.false_ne_true
 | bl a =>
  cases ry
  cases x with
  | non=>cases rx;exact SeqAt.EqAt.bool_none a
  | bl b=>cases rx;exact SeqAt.EqAt.bool_bool a b
  | int b=>obtain⟨t,rfl⟩:=rx;exact SeqAt.EqAt.bool_int a b t
  | str b=>obtain⟨t,rfl⟩:=rx;exact SeqAt.EqAt.bool_str a b t
  | _=>exact absurd (show false=true from fx) Bool.false_ne_true
 | int a =>
  obtain⟨t',rfl⟩:=ry
  cases x with
  | non=>cases rx;exact SeqAt.EqAt.int_none a t'
  | bl b=>cases rx;exact SeqAt.EqAt.int_bool a t' b
  | int b=>obtain⟨t,rfl⟩:=rx;exact SeqAt.EqAt.int_int a t' b t
  | str b=>obtain⟨t,rfl⟩:=rx;exact SeqAt.EqAt.int_str a t' b t
  | _=>exact absurd (show false=true from fx) Bool.false_ne_true
 | str a =>
  obtain⟨t',rfl⟩:=ry
  cases x with
  | non=>cases rx;exact SeqAt.EqAt.str_none a t'
  | bl b=>cases rx;exact SeqAt.EqAt.str_bool a t' b
  | int b=>obtain⟨t,rfl⟩:=rx;exact SeqAt.EqAt.str_int a t' b t
  | str b=>obtain⟨t,rfl⟩:=rx;exact SeqAt.EqAt.str_str a t' b t
  | _=>exact absurd (show false=true from fx) Bool.false_ne_true
 | _=>exact absurd (show false=true from fy) Bool.false_ne_true
theorem lP:lO X (compareOp .NotIn) (fun x y H Q=>∃ i j,x=.str i∧y=.str j∧Q (.bl (!(!(Builtin.Str.occurrences j i 0 j.length 1).isEmpty))) H):=by
 intro pins s σ H x y v u Q I rx ry h
 obtain⟨i,j,rfl,rfl,q⟩:=h
 obtain⟨t,rfl⟩:=rx
 obtain⟨t',rfl⟩:=ry
 exact notIn_str ⟨.bl _,H,I,rfl,q⟩
theorem zA:gP X (.builtin "len") (fun xs H Q=>∃ p ys,xs=[.ref p]∧(bE X.K H p ys∨cB X.K H p ys)∧Q (.int ys.length) H):=by
 intro pins s σ H xs us Q I r h
 obtain⟨p,ys,rfl,hq,q⟩:=h
 obtain⟨u,rfl,rx⟩:=vals1 r
 cases rx
 have hn:=vC
 rcases hq with hq | hq
 ·obtain⟨its,r',pl,hz⟩:=I.list hq
  have hlen:=r'.length
  exact Calls.call_len_list pl.isList (by simp only[List.size_toArray] <;> omega) ⟨.int ys.length,H,I.tok _,⟨s.toks+1,by rw[List.size_toArray,hlen]⟩,q⟩
 ·obtain⟨its,r',pl,hz⟩:=I.tuple hq
  have hlen:=r'.length
  exact len_tuple pl (by simp only[List.size_toArray] <;> omega) ⟨.int ys.length,H,I.tok _,⟨s.toks+1,by rw[List.size_toArray,hlen]⟩,q⟩
theorem fE:gP X (.builtin "len") (fun xs H Q=>∃ z,xs=[.str z]∧z.length≤sizeLine∧Q (.int z.length) H):=by
 intro pins s σ H xs us Q I r h
 obtain⟨z,rfl,hz,q⟩:=h
 obtain⟨u,rfl,t,rfl⟩:=vals1 r
 have hn:=vC
 exact len_str (by omega) ⟨.int z.length,H,I.tok _,⟨_,rfl⟩,q⟩
theorem xJ:gP X (.type "tuple") (fun xs H Q=>∃ p ys,xs=[.ref p]∧((bE X.K H p ys∧∀ l,H l=none→Q (.ref l) (upd H l (.tup ys)))∨(cB X.K H p ys∧Q (.ref p) H))):=by
 intro pins s σ H xs us Q I r h
 obtain⟨p,ys,rfl,h⟩:=h
 obtain⟨u,rfl,rx⟩:=vals1 r
 cases rx
 rcases h with ⟨hq,q⟩ | ⟨hq,q⟩
 ·obtain⟨its,r',pl,hz⟩:=I.list hq
  have hlen:=r'.length
  refine call_tuple_list pl.isList (fun h' kp=>?_) (by simp only[List.size_toArray] <;> omega)
  have I1:Inv X pins σ H { s with heap:=h' }:=I.kept (t':=s.toks) kp
  have I2:Inv X pins σ (upd H h'.objs.size (.tup ys)) { s with heap:=h'.push { cls:=.type "tuple",data:=.seq its.toArray } } :=
   I1.laid (t':=s.toks) (fun b o e=>Heap.get?_push_of_some _ e) (Nat.le_refl _) (show cA X.prog X.w _ _ _ (.tup ys) from ⟨hz,its,r',IsTup.new _ _⟩)
  exact⟨.ref h'.objs.size,_,I2,rfl,q _ (I1.hok.fresh (Nat.le_refl _))⟩
 ·obtain⟨its,r',pl,hz⟩:=I.tuple hq
  exact call_tuple_same pl ⟨.ref p,H,I,rfl,q⟩
def tyV (K:W.Frag) (T:String) (x:V) (H:Hp):Prop:=match x with
 | .str _=>T = "str"
 | .int _=>T = "int"
 | .ref p=>(T = "list"∧∃ xs,bE K H p xs)∨(T = "tuple"∧∃ o,K.lookup p=some o∧o.cls=.type "tuple"∧o.dict=none) ∨
   (T = "dict"∧((∃ kvs,H p=some (.dK kvs))∨∃ kvs,H p=some (.dT kvs)))∨(T = "set"∧∃ S n,H p=some (.set S n))
 | _=>False
theorem Hv {pins:List (Addr×Obj)}{σ:St}{H:Hp}{s:Shared}{T:String}{x:V}{v:Value} (I:Inv X pins σ H s) (r:RelV x v) (ty:tyV X.K T x H) :
  s.TypeIs v T∧∀ a,v=.ref a→∃ ob,s.heap.get? a=some ob∧ob.dict=none:=by
 cases x with
 | str z =>
  obtain⟨t,rfl⟩:=r
  cases(show T = "str" from ty)
  exact⟨typeIs_str s z t,fun _ e=>nomatch e⟩
 | int i =>
  obtain⟨t,rfl⟩:=r
  cases(show T = "int" from ty)
  exact⟨typeIs_int s i t,fun _ e=>nomatch e⟩
 | ref p =>
  cases r
  rcases ty with ⟨rfl,xs,hq⟩ | ⟨rfl,o,hk,hc,hd⟩ | ⟨rfl,hk⟩ | ⟨rfl,S,n,hk⟩
  ·obtain⟨its,_,pl,_⟩:=I.list hq
   refine⟨pl.isList.typeIs,fun a e=>?_⟩
   cases e
   obtain⟨o,n,e,c,hd,_⟩:=pl
   exact⟨o,e,hd⟩
  ·refine⟨⟨o,I.lJ p o hk,hc⟩,fun a e=>?_⟩
   cases e
   exact⟨o,I.lJ _ o hk,hd⟩
  ·have z:∃ o,s.heap.get? p=some o∧o.ExactDict:=by
    rcases hk with ⟨kvs,hk⟩ | ⟨kvs,hk⟩
    ·obtain⟨_,_,_,_,o,_,_,e,ex,_⟩:=I.hok p _ hk
     exact⟨o,e,ex⟩
    ·obtain⟨_,_,_,_,o,_,_,e,ex,_⟩:=I.hok p _ hk
     exact⟨o,e,ex⟩
   obtain⟨o,e,ex⟩:=z
   refine⟨⟨o,e,ex.1⟩,fun a e2=>?_⟩
   cases e2
   exact⟨o,e,ex.2.1⟩
  ·obtain⟨o,_,_,_,e,ex,_⟩:=I.hok p _ hk
   refine⟨⟨o,e,ex.1⟩,fun a e2=>?_⟩
   cases e2
   exact⟨o,e,ex.2.1⟩
 | _=>exact False.elim ty
def tBM (K:W.Frag) (T:String) (r:V→List V→Hp→VK→Prop) (to:TE) (t:TA):TE:=fun σ H Q=>to σ H fun x H1=>tyV K T x H1∧t σ H1 fun xs H2=>r x xs H2 Q
variable {o e:Expr}{es:List Expr}{to:TE}{t:TA}{name:Str}{apos cpos:Pos}{T id:String}{r:V→List V→Hp→VK→Prop}
theorem Qt (pa:PlainAttrs T) (slot:Slot T name id) (hty:typeOf (.builtin id)=pure (.type "method_descriptor")) (hm:WJ X id r) (ho:PE X o to) (ha:PA X (e :: es) t)
  (hbase:attributeBase o name X.env (eval o X.env)=eval o X.env:=by rfl)
  (hfew:((backTo cpos (starEach (e :: es) X.env)).all (fun x=>!x.1) && (backToKw cpos (keywordEach [] X.env)).all (fun x=>x.1.isSome)
   && decide ((e :: es).length+([]:List Keyword).length+(if ([]:List Keyword).isEmpty then 0 else 1) < 30))=true:=by rfl)
  (hline:(apos.endLine == cpos.line)=true:=by rfl) (hs:starEach (e :: es) X.env=(false,eval e X.env) :: starEach es X.env:=by rfl) (hplain:(backTo cpos (starEach es X.env)).any (·.1)=false:=by rfl) :
  PE X (.Call (.Attribute o name apos) (e :: es) [] cpos) (tBM X.K T r to t):=by
 intro pins s σ H Q I h
 refine wpAny_Call_method_late hbase hfew hline rfl (cH (ho pins s σ H _ I h) fun v s1 ⟨x,H1,I1,r1,ty,q1⟩=>?_)
 obtain⟨h1,h2⟩:=Hv I1 r1 ty
 refine⟨T,id,pa,slot,hty,h1,h2,?_⟩
 have hA:=ha cpos pins s1 σ H1 _ I1 q1
 rw[hs] at hA ⊢
 refine Calls.callWith_builtin (by show(false || (backTo cpos (starEach es X.env)).any (·.1))=false;rw[hplain] <;> rfl) (Calls.evalArgs_plain ?_)
 exact cH hA fun us s2 ⟨vs,H2,I2,r2,q2⟩=>hm pins s2 σ H2 x vs v us Q I2 r1 r2 q2
end
def MtM (X:Cx) (id:String) (r:V→List V→Hp→VK→Prop):Prop :=
 ∀(pins:List (Addr×Obj)) (s:Shared) (σ:St) (H:Hp) (x:V) (xs:List V) (v:Value) (us:List Value) (Q:VK),Inv X pins σ H s→RelV x v→Vals xs us→r x xs H Q →
  wpAny (model X.prog X.w) X.A (call (.builtin id) (v :: us)) (EP X pins σ Q) X.xe s
theorem Vals.one:∀{x:V}{us:List Value},Vals [x] us→∃ u,us=[u]∧RelV x u
 | _,_,.cons r .nil=>⟨_,rfl,r⟩
theorem Vals.reverse {xs:List V}{us:List Value} (h:Vals xs us):Vals xs.reverse us.reverse:=by
 induction h with
 | nil=>exact .nil
 | cons r t ih=>rw[List.reverse_cons,List.reverse_cons];exact Vals.append ih (.cons r .nil)
theorem Vals.rep {xs:List V}{us:List Value} (h:Vals xs us):∀ k:Nat,Vals (List.replicate k xs).flatten (List.replicate k us).flatten
 | 0=>.nil
 | k+1=>by
  rw[List.replicate_succ,List.replicate_succ,List.flatten_cons,List.flatten_cons]
  exact Vals.append h (Vals.rep h k)
theorem foldl_rep (its:List Value):∀(k:Nat) (acc:List Value),
  List.foldl (fun x1 x2=>x1++x2) acc.toArray (List.replicate k its.toArray)=(acc++(List.replicate k its).flatten).toArray
 | 0,acc=>by simp
 | k+1,acc=>by
  have e:acc.toArray++its.toArray=(acc++its).toArray:=by simp
  have e2:(acc++its)++(List.replicate k its).flatten=acc++(List.replicate (k+1) its).flatten:=by
   rw[List.replicate_succ,List.flatten_cons,List.append_assoc]
  rw[←e2,←foldl_rep its k (acc++its),←e,List.replicate_succ,List.foldl_cons]
section
variable {X:Cx}{pins:List (Addr×Obj)}{σ:St}{H:Hp}{s:Shared}{l b:Addr}{xs ys zs:List V}
theorem Inv.Qu {its its':List Value}{n:Nat}{f:Array Value→Array Value}{t':Nat} (I:Inv X pins σ H s) (hH:H l=some (.lst xs))
  (e:s.heap.get? l=some { cls:=.type "list",data:=.seq its.toArray n }) (hf:f its.toArray=its'.toArray) (hv:Vals ys its') (hz:ys.length≤sizeLine) :
  Inv X pins σ (upd H l (.lst ys)) { s with heap:=s.heap.update l (Obj.mapSeq f),toks:=t' }:=by
 have q:=PySem.IsL.update e f
 rw[hf] at q
 refine I.write (x:=l) (e:=l) (by rw[hH];exact trivial) (.inl rfl) (fun b' u hb hu=>(Heap.get?_update_other s.heap (Obj.mapSeq f) (Ne.symm hb)).trans hu) ⟨_,q⟩ ?_
 exact⟨hz,its',_,hv,q⟩
theorem Inv.MI {its:List Value}{t':Nat} (I:Inv X pins σ H s) (hv:Vals ys its) (hz:ys.length≤sizeLine) :
  Inv X pins σ (upd H s.heap.objs.size (.lst ys)) { s with heap:=s.heap.push { cls:=.type "list",data:=.seq its.toArray },toks:=t' } :=
 I.laid (fun _ _ q=>Heap.get?_push_of_some _ q) (Nat.le_refl _) ⟨hz,its,0,hv,Heap.get?_push_size _ rfl⟩
theorem Inv.fresh (I:Inv X pins σ H s):H s.heap.objs.size=none:=I.hok.fresh (Nat.le_refl _)
theorem Inv.ER (I:Inv X pins σ H s) (hH:H l=some (.lst xs)):xs.length≤sizeLine∧∃(its:List Value) (n:Nat),Vals xs its∧xs.length=its.length∧s.heap.get? l=some { cls:=.type "list",data:=.seq its.toArray n }:=by
 obtain⟨z,its,n,r,e⟩:=I.hok l _ hH
 exact⟨z,its,n,r,r.length,e⟩
theorem A9 {n:Nat} (h:n≤sizeLine):Builtin.List.listTooLong n=false:=by
 unfold Builtin.List.listTooLong
 exact decide_eq_false (by omega)
end
section
variable {X:Cx}
def JU:V→List V→Hp→VK→Prop:=fun x vs H Q=>∃ l xs y,x=.ref l∧vs=[y]∧H l=some (.lst xs)∧xs.length < sizeLine∧Q .non (upd H l (.lst (xs++[y])))
theorem jD:MtM X "list.append" JU:=by
 intro pins s σ H x vs v us Q I rx rv h
 obtain⟨l,xs,y,rfl,rfl,hH,hz,q⟩:=h
 cases rx
 obtain⟨u,rfl,ru⟩:=rv.one
 obtain⟨z,its,n,r,hl,e⟩:=I.ER hH
 refine call_meets F.slot_list_append ⟨_,e,rfl⟩ F.entry_list_append (F.args_list_append_2 _ _) (PySem.list_append l its.toArray n u (by rw[List.size_toArray];omega)) ⟨e,?_⟩
 refine⟨.non,_,I.Qu (its':=its++[u]) hH e (by simp) (r.append (.cons ru .nil)) ?_,rfl,q⟩
 rw[List.length_append,List.length_singleton]
 omega
def JV:V→List V→Hp→VK→Prop:=fun x vs H Q=>∃ l b xs zs,x=.ref l∧vs=[.ref b]∧H l=some (.lst xs)∧H b=some (.lst zs)∧xs.length+zs.length≤sizeLine∧Q .non (upd H l (.lst (xs++zs)))
theorem yH:MtM X "list.extend" JV:=by
 intro pins s σ H x vs v us Q I rx rv h
 obtain⟨l,b,xs,zs,rfl,rfl,hH,hB,hz,q⟩:=h
 cases rx
 obtain⟨u,rfl,ru⟩:=rv.one
 cases ru
 obtain⟨z,its,n,r,hl,e⟩:=I.ER hH
 obtain⟨z2,its2,n2,r2,hl2,e2⟩:=I.ER hB
 have hsz:its.toArray.size+its2.toArray.size≤sizeLine:=by rw[List.size_toArray,List.size_toArray];omega
 have Hw:¬(!its.toArray.isEmpty && Builtin.List.listTooLong (its.toArray.size+its2.toArray.size))=true:=by
  rw[A9 hsz,Bool.and_false]
  exact Bool.false_ne_true
 refine call_meets F.slot_list_extend ⟨_,e,rfl⟩ F.entry_list_extend (F.args_list_extend_2 _ _)
  (AutoSeq1.list_extend_list_list_0 l its.toArray n b its2.toArray n2 Hw (by rw[List.size_toArray];omega) (by omega)) ⟨e,e2,?_⟩
 refine⟨.non,_,I.Qu (its':=its++its2) hH e (by simp) (r.append r2) ?_,rfl,q⟩
 rw[List.length_append]
 omega
def WL:R2:=fun x y H Q=>∃ l b xs zs,x=.ref l∧y=.ref b∧H l=some (.lst xs)∧H b=some (.lst zs)∧xs.length+zs.length≤sizeLine∧∀ p,H p=none→Q (.ref p) (upd H p (.lst (xs++zs)))
theorem CA:lO X (binaryOp .Add) WL:=by
 intro pins s σ H x y v u Q I rx ry h
 obtain⟨l,b,xs,zs,rfl,rfl,hH,hB,hz,q⟩:=h
 cases rx
 cases ry
 obtain⟨z,its,n,r,hl,e⟩:=I.ER hH
 obtain⟨z2,its2,n2,r2,hl2,e2⟩:=I.ER hB
 refine PySem.P.add_list e e2 ?_ (by rw[List.size_toArray,List.size_toArray];omega)
 have ea:its.toArray++its2.toArray=(its++its2).toArray:=by simp
 rw[ea]
 exact⟨.ref _,_,I.MI (t':=s.toks) (r.append r2) (by rw[List.length_append];omega),rfl,q _ I.fresh⟩
def WM:R2:=fun x y H Q=>∃ l k xs,x=.ref l∧y=.int k∧H l=some (.lst xs)∧-(2 ^ 63)≤k∧k < 2 ^ 63∧xs.length * k.toNat≤sizeLine ∧
 ∀ p,H p=none→Q (.ref p) (upd H p (.lst (List.replicate k.toNat xs).flatten))
theorem len_rep {α:Type} (xs:List α) (k:Nat):(List.replicate k xs).flatten.length=k * xs.length:=by
 induction k with
 | zero=>simp
 | succ k ih=>rw[List.replicate_succ,List.flatten_cons,List.length_append,ih,Nat.succ_mul,Nat.add_comm]
theorem MJ:lO X (binaryOp .Mult) WM:=by
 intro pins s σ H x y v u Q I rx ry h
 obtain⟨l,k,xs,rfl,rfl,hH,h1,h2,hz,q⟩:=h
 cases rx
 obtain⟨t,rfl⟩:=ry
 obtain⟨z,its,n,r,hl,e⟩:=I.ER hH
 have hlen:its.toArray.size * k.toNat≤sizeLine:=by rw[List.size_toArray,←hl];exact hz
 have hcap:¬its.toArray.size * k.toNat > (2 ^ 63 - 1) / 8:=by
  have:(sizeLine:Nat)≤(2 ^ 63 - 1) / 8:=by decide
  omega
 have hfit:¬(!Builtin.List.listFitsIndex k)=true:=by
  rw[fitsIndex_both h1 h2]
  exact Bool.false_ne_true
 have Hw:¬Builtin.List.listTooLong (its.toArray.size * k.toNat)=true:=by
  rw[A9 hlen]
  exact Bool.false_ne_true
 have hnew:List.foldl (fun x1 x2=>x1++x2) #[] (List.replicate (if its.toArray.isEmpty=true then 0 else k.toNat) its.toArray)=(List.replicate k.toNat its).flatten.toArray:=by
  have f0:∀ m:Nat,List.foldl (fun x1 x2=>x1++x2) #[] (List.replicate m its.toArray)=(List.replicate m its).flatten.toArray:=fun m=>by
   have:=foldl_rep its m []
   rw[List.nil_append] at this
   exact this
  rw[f0]
  cases its with
  | nil=>simp
  | cons a r'=>rw[if_neg (by simp)]
 refine wpAny_binaryOp_repeat_ref (T := "list") (U := "int") (by decide) ⟨_,e,rfl⟩ (fun s'=>typeIs_int s' k t) noFill_list_mul F.fills_int_mul F.slot_int_rmul repeat_list F.slot_int_index.lookup
  (call_meets F.slot_int_rmul (typeIs_int s k t) F.entry_int_rmul (F.args_int_rmul_2 _ _) (int___rmul___int_list k t l its.toArray n)
   ⟨e,rfl,⟨_,e,rfl⟩,call_meets F.slot_list_mul ⟨_,e,rfl⟩ F.entry_list_mul (F.args_list_mul_2 _ _) (AutoListH.list___mul___list_int_3 l its.toArray n k t hfit hcap Hw) ⟨e,?_⟩⟩)
 rw[hnew]
 exact⟨.ref _,_,I.MI (t':=s.toks) (r.rep k.toNat) (by rw[len_rep,Nat.mul_comm];exact hz),rfl,q _ I.fresh⟩
end
section
variable {prog:Program}{w:World}{A:Around}{E:Value→Shared→Prop}{s:Shared}
set_option maxRecDepth 100000 in
end
section
variable {X:Cx}
end
end L2
namespace Att
open PySem PySem.W PySem.Calls PyProof.Rows
theorem tX {P:Params}{h:Heap}:∀(ns:List Int) (vs:List Value),WellAll P h vs (ns.map WData.int)→IntsAre vs ns:=by
 intro ns
 induction ns with
 | nil =>
  intro vs w
  rw[List.map_nil] at w
  cases w
  exact .nil
 | cons n ns ih =>
  intro vs w
  rw[List.map_cons] at w
  cases w with
  | cons a b =>
   cases a
   exact .cons _ _ (ih _ b)
theorem ES {l:OpenLaw}{n:Nat} (hn:l.most=some n) {P:Params}{h:Heap}{args:List WData}{vals:List Value}
  (hpre:l.row.toRowW.claim.pre args=true) (hwl:WellAll P h vals args) :
  ∃ a vs ns,vals=[Value.ref a]∧args=[WData.list (ns.map WData.int)]∧h.get? a=some { cls:=.type "list",data:=.seq vs.toArray }∧IntsAre vs ns∧ns.length≤n:=by
 have hsh:WShape.hasAll [] args [.list .int]=true:=(pre_splitW hpre).1
 have hc:l.pre.holds [] { args:=args }=true:=(pre_splitW hpre).2
 obtain⟨d,r,rfl,h1,h2⟩:=hasAllW_cons hsh
 obtain rfl:=hasAllW_nil h2
 obtain⟨xs,rfl,h3⟩:=hasW_list h1
 obtain⟨ns,rfl⟩:=items_int h3
 have hlen:ns.length≤n:=by
  unfold OpenLaw.pre at hc
  have h4:(WTm.not (.lt (.lit (.int (n:Int))) (.len (.arg 0)))).holds [] { args:=[.list (ns.map .int)] }=true:=by
   have h4:=(holds_andW hc).1
   rw[hn] at h4
   exact h4
  have h5:=condW_of h4 (w_not (w_lt w_lit (w_len_list (w_arg rfl))))
  rw[List.length_map] at h5
  refine Nat.le_of_not_lt fun q=>?_
  have q':(n:Int) < ((ns.length:Nat):Int):=by omega
  first
   | (rw[decide_eq_true q'] at h5;exact absurd h5 (by decide))
   | (simp at h5;omega)
 cases hwl with
 | cons w1 w2 =>
  cases w2
  cases w1 with
  | list ho hall=>exact⟨_,_,ns,rfl,rfl,ho,tX ns _ hall,hlen⟩
theorem ET (l:OpenLaw) (args:List WData):l.row.toRowW.claim.post args (.bool true) args=true :=
 postW_of (r:=l.row.toRowW) (X:=(true == true))
  (show WShape.has [] (.bool true) .bool=true by first | rfl | decide | simp[WShape.has,WShape.arms,WShape.armsAll])
  (show(WTm.eq .res (.lit (.bool true))).value [] { args:=args,res:=some (.bool true),after:=args }=some (.bool (true == true)) from w_eq_bool (w_res rfl) w_lit) rfl
theorem Ba {l:OpenLaw}{n:Nat}{q:Program}{loose:List Str}{XP:(Str→Option Value)→Heap→Prop}{YP:World→Heap→Prop}{d:DefRec}
  (hn:l.most=some n) (hdf:d.params.defaults=[])
  (call:∀(w:World) (s₀ s₁:Shared) (mg mb:Str→Option Value) (fa:Addr) (o:Obj) (pm cd doc:Value) (a:Addr) (vs:List Value) (ns:List Int),
   Ground q loose [] XP w s₀ mg mb s₁.heap→YP w s₁.heap →
   s₁.heap.get? fa=some o→o.data=.func (docDef d.name d.params d.body d.scope pm cd doc)→s₁.heap.CodeRec cd d.name→mg d.name=some (.ref fa) →
   s₁.heap.get? a=some { cls:=.type "list",data:=.seq vs.toArray }→IntsAre vs ns→ns.length≤n→s₁.gens = #[] →
   codeAny (model l.prog w) callerA (.call (.ref fa) ⟨[.ref a],[]⟩) (fun r s'=>r=.ok (.ret (.bool true))∧OldK s₁.heap s'.heap∧s'.os=s₁.os∧AllBare s'.gens) s₁) :
  WalkO q loose XP YP l.row.toRowW d [] (fun f vs=>PySem.call f vs):=by
 intro w s₀ s₁ mg mb G Y fa o pm cd doc dV kV ho hd hcd hD hmg hg args vals as hpre hlay hrd hwl hlo
 obtain rfl:dV=.none:=Dflts.none hD hdf
 obtain rfl:kV=.none:=Dflts.noKw hD
 obtain⟨a,vs,ns,rfl,rfl,hobj,hints,hlen⟩:=ES hn hpre hwl
 refine enter_call (codeAny_mono (call w s₀ s₁ mg mb fa o pm cd doc a vs ns G Y ho (fd_plain hd) hcd hmg hobj hints hlen hg) fun r s' hq=>?_)
 obtain⟨rfl,h2,h3,h4⟩:=hq
 exact⟨.inl ⟨.bool true,.bool true,[],rfl,fun _=>rfl,.bool true,ET l _,fun _=>⟨List.Pairwise.nil,fun _ hm=>(nomatch hm)⟩⟩,h2,h3,h4⟩
section
variable {prog:Program}{w:World}{A:Around}{E:Value→Shared→Prop}{s:Shared}{K:Frag}
end
end Att
namespace L2
open PySem PySem.Spec PyProof.Rows
theorem yI:∀{vs:List Value}{ns:List Int},IntsAre vs ns→Vals (ns.map V.int) vs
 | _,_,.nil=>.nil
 | _,_,.cons n t h=>.cons ⟨t,rfl⟩ (yI h)
def MK (H:Hp):Prop:=∀ b,H b=none∨∃ o xs,H b=some (.Cj o (.lst xs))
theorem Hx {P:Program}{w:World}{K:W.Frag}{mg mb:Str→Option Value}{CX:EM}{k:Nat}{fa a:Addr}{fd:FuncData}{x:Str}{sp:Sp}{s₁:Shared}{vs:List Value}{ns:List Int}
  (KX:K.In s₁.heap) (hns:s₁.heap.Ns mainGlobals mg) (hb:s₁.heap.Ns builtinsNs mb) (hbb:∀ x:Str,x ≠ "__name__"→mb x=bootBuiltins x) (hlim:s₁.heap.NoLimit) (hg:s₁.gens = #[])
  (ha:s₁.heap.get? a=some { cls:=.type "list",data:=.seq vs.toArray }) (hi:IntsAre vs ns) (hl:ns.length≤sizeLine) (hr:fR k callerA)
  (F:∀ base:Heap,K.In base→base.Ns mainGlobals mg→aI P w K mg base CX k fa fd [x] sp) (hbind:∀(s:Shared) (u:Value),BindsTo s fd ⟨[u],[]⟩ [(x,u)])
  (GR:∀ H:Hp,MK H→bE K H a (ns.map V.int)→sp [.ref a] H (fun v _=>v=.bl true) fun _ _ _=>False)
  (WN:∀ H e s',CX [] H s₁ (fun _ _ _=>False) e s'→False) :
  codeAny (model P w) callerA (.call (.ref fa) ⟨[.ref a],[]⟩) (fun r s'=>r=.ok (.ret (.bool true))∧OldK s₁.heap s'.heap∧s'.os=s₁.os∧AllBare s'.gens) s₁:=by
 have rv:=yI hi
 have WO:=hi.length
 have core:∀ H:Hp,MK H→bE K H a (ns.map V.int)→pZ P w H s₁.heap→(∀ b,H b≠none→b=a)→(H a≠none→K.lookup a=none) →
   codeAny (model P w) callerA (.call (.ref fa) ⟨[.ref a],[]⟩) (fun r s'=>r=.ok (.ret (.bool true))∧OldK s₁.heap s'.heap∧s'.os=s₁.os∧AllBare s'.gens) s₁:=by
  intro H hO hS hok hA hK
  have D9:∀{b:Addr}{o:Obj},s₁.heap.get? b=some o→H b=none→(zk s₁.heap H).get? b=some o:=fun e n=>G6 e n
  have Qo:∀{b:Addr}{o:Obj}{es:Array DictEntry}{ep:Nat},s₁.heap.get? b=some o→o.data=.dict es ep→H b=none:=fun {b o es ep} e d=>by
   cases q:H b with
   | none=>rfl
   | some u =>
    have e':b=a:=hA b (by rw[q];simp)
    subst e'
    rw[ha] at e;cases e
    have d':Data.seq vs.toArray _=Data.dict es ep:=d
    cases d'
  have V1:∀{b:Addr}{m:Str→Option Value},s₁.heap.Ns b m→(zk s₁.heap H).Ns b m:=fun {b m} ⟨o,es,ep,e,d,r⟩=>⟨o,es,ep,D9 e (Qo e d),d,r⟩
  have hKb:K.In (zk s₁.heap H):=fun b o e=>D9 (KX b o e) (by
   cases q:H b with
   | none=>rfl
   | some u =>
    have e':b=a:=hA b (by rw[q];simp)
    subst e'
    rw[hK (by rw[q];simp)] at e;cases e)
  have hM:Mod K mg (zk s₁.heap H):=⟨hKb,V1 hns,⟨mb,V1 hb,hbb⟩,let ⟨mc,h1,h2⟩:=hlim;⟨mc,V1 h1,h2⟩⟩
  have e0:Cy P w K mg (zk s₁.heap H) callerA [] s₁ H:=⟨rfl,hM,fun b o e=>JF e,Nat.le_of_eq (EF _ _),trivial,fun b hb=>absurd (show b∈([]:List Addr) from hb) (by simp),hok,.of_eq hg⟩
  refine codeAny_mono ((F _ hKb (V1 hns)).run callerA [] s₁ H ⟨[.ref a],[]⟩ [.ref a] [.ref a] _ _ hr e0 (hbind s₁ (.ref a)) (.cons rfl .nil) (GR H hO hS)) fun r s' h=>?_
  cases r with
  | error e=>exact(WN H e s' h).elim
  | ok fl =>
   cases fl with
   | next=>exact False.elim h
   | brk=>exact False.elim h
   | cont=>exact False.elim h
   | ret u =>
    obtain⟨v,H',os,bare,un,WQ,r',q⟩:=h
    have q':v=.bl true:=q
    subst q'
    obtain rfl:u=Value.bool true:=r'
    refine⟨rfl,OldK.of_keep fun b o e=>?_,os,bare⟩
    cases q:H b with
    | none=>exact un.keep b o e q (by intro z;exact absurd (show b∈([]:List Addr) from z) (by simp)) (by simp)
    | some u =>
     rcases hO b with z | ⟨ob,xs,z⟩
     ·rw[q] at z;cases z
     ·have z2:=un.tV b ob _ z
      obtain⟨e1,_⟩:=hok b _ z
      obtain⟨e2,_⟩:=WQ b _ z2
      rw[e] at e1;cases e1
      exact e2
 cases hk:K.lookup a with
 | some o =>
  have e:=KX a o hk
  rw[ha] at e
  cases e
  refine core (fun _=>none) (fun _=>.inl rfl) (.inr ⟨_,vs.toArray,_,hk,rfl,rfl,rfl,by rw[List.size_toArray,WO];exact hl,by simpa using rv⟩) (fun b u z=>by have z':(none:Option HO)=some u:=z;cases z') (fun b z=>absurd rfl z) fun z=>absurd rfl z
 | none =>
  refine core (fun b=>if b=a then some (.Cj { cls:=.type "list",data:=.seq vs.toArray } (.lst (ns.map V.int))) else none) (fun b=>?_) (.inl (.inr ⟨{ cls:=.type "list",data:=.seq vs.toArray },if_pos rfl⟩)) (fun b u z=>?_) (fun b z=>?_) fun _=>hk
  ·by_cases hb:b=a
   ·exact .inr ⟨_,_,if_pos hb⟩
   ·exact .inl (if_neg hb)
  ·by_cases hb:b=a
   ·have z':=(if_pos hb).symm.trans z
    cases z'
    subst hb
    exact⟨ha,by rw[List.length_map];exact hl,vs,_,rv,ha⟩
   ·have z':=(if_neg hb).symm.trans z
    cases z'
  ·by_cases hb:b=a
   ·exact hb
   ·exact absurd (if_neg hb) z
theorem JW {l:W.OpenLaw}{n k:Nat}{q:Program}{loose:List Str}{XP:(Str→Option Value)→Heap→Prop}{YP:World→Heap→Prop}{d:DefRec}{K:Params→W.Frag}{CX:World→EM}{sp:World→Sp}{x:Str}
  (hn:l.most=some n) (hn2:n≤sizeLine) (hdf:d.params.defaults=[]) (hr:fR k callerA)
  (hY:∀(w:World) (h:Heap),YP w h→(K w.params).In h)
  (F:∀(w:World) (mg:Str→Option Value) (fa:Addr) (h:Heap),(K w.params).In h→h.Ns mainGlobals mg→mg d.name=some (.ref fa) →
   ∃ fd:FuncData,(∀(s:Shared) (u:Value),BindsTo s fd ⟨[u],[]⟩ [(x,u)]) ∧
    ∀ base:Heap,(K w.params).In base→base.Ns mainGlobals mg→aI l.prog w (K w.params) mg base (CX w) k fa fd [x] (sp w))
  (GR:∀(w:World) (H:Hp) (a:Addr) (ns:List Int),ns.length≤n→MK H→bE (K w.params) H a (ns.map V.int)→sp w [.ref a] H (fun v _=>v=.bl true) fun _ _ _=>False)
  (WN:∀(w:World) (H:Hp) (s:Shared) (e:Value) (s':Shared),CX w [] H s (fun _ _ _=>False) e s'→False) :
  W.WalkO q loose XP YP l.row.toRowW d [] (fun f vs=>PySem.call f vs):=by
 refine Att.Ba hn hdf fun w s₀ s₁ mg mb fa o pm cd doc a vs ns G Y ho hd hcd hmg hobj hints hlen hg=>?_
 have KX:=hY w _ Y
 obtain⟨fd,hb,hF⟩:=F w mg fa _ KX G.T.g hmg
 exact Hx KX G.T.g G.T.b G.T.builtins G.T.nolimit hg hobj hints (Nat.le_trans hlen hn2) hr hF hb (fun H hO hS=>GR w H a ns hlen hO hS) fun H e s'=>WN w H s₁ e s'
def inClass (s:Stmt) (j:Nat):Stmt:=match s with
 | .ClassDef _ _ _ body _ _ _ _ _ _ _=>body.getD j (.Pass ⟨0,0,0,0⟩)
 | _=>.Pass ⟨0,0,0,0⟩
def cK (s:Stmt):Arguments:=match s with
 | .FunctionDef _ a _ _ _ _ _ _ _ _=>a
 | _=>{ posonlyargs:=[],args:=[],vararg:=none,kwonlyargs:=[],kw_defaults:=[],kwarg:=none,defaults:=[] }
def bX (s:Stmt):List Stmt:=match s with
 | .FunctionDef _ _ b _ _ _ _ _ _ _=>b
 | _=>[]
def av (s:Stmt):Scope:=match s with
 | .FunctionDef _ _ _ _ _ _ sc _ _ _=>sc
 | _=>{ kind:=.function,names:=[],isGenerator:=false,isCoroutine:=false }
abbrev bN:EM:=fun _ _ _ _ _ _=>False
abbrev E0:XK:=fun _ _ _=>False
theorem jI {X:Cx}:Passes bN X E0:=fun _ _ _ _ _ _ _ h=>h.elim
structure gE (K:W.Frag) (x qual:Str) (st:Stmt) (f:Addr) (fd:FuncData):Prop where
 ex:∃(oc:Value) (od:Option Addr) (kV doc pm:Value) (an:Option Addr) (cdv ct:Value) (osl:Array (Option Value)),
  fd=W.fnOf x qual (cK st) (bX st) (av st) .none kV doc pm an cdv ct∧K.lookup f=some ⟨oc,od,.func fd,osl⟩∧W.codeIn K cdv qual=true
 kp:W.keepIn K (.ref f)=true
section
variable {P:Program}{w:World}{K:W.Frag}{mg:Str→Option Value}{base:Heap}
theorem gE.ok {x qual:Str}{st:Stmt}{f:Addr}{fd:FuncData}{N ps:List Str}{k:Nat}{sp:Sp} (F:gE K x qual st f fd) (S:aH N ps (av st)) (len:∀ vs H Q E,sp vs H Q E→vs.length=ps.length)
  (hbody:∀(cdv:Value) (A:Around) (outer:List Env) (s:Shared) (H:Hp) (vs:List V) (Q:VK) (E:XK),fR k (A.deeper (envOfC qual (av st) s.heap.objs.size f cdv))→sp vs H Q E →
   ∃ t,AZ (vE bN P w K mg base N qual (av st) f cdv A outer s H E).Lz (bX st) t∧t { nx:=fun _ H'=>Q .non H',rt:=Q } (start N vs) H):aI P w K mg base bN (k+1) f fd ps sp:=by
 obtain⟨oc,od,kV,doc,pm,an,cdv,ct,osl,rfl,lk,hcd⟩:=F.ex
 refine Hr lk hcd S len fun A outer s H vs Q E hr GR=>?_
 obtain⟨t,h,q⟩:=hbody cdv A outer s H vs Q E hr GR
 exact⟨t,h.Lz,q⟩
theorem gE.binds {x qual:Str}{st:Stmt}{f:Addr}{fd:FuncData}{ps:List Str} (F:gE K x qual st f fd)
  (h:∀(kV doc pm:Value) (an:Option Addr) (cdv ct:Value) (us:List Value),us.length=ps.length→bindArgs (W.fnOf x qual (cK st) (bX st) (av st) .none kV doc pm an cdv ct) ⟨us,[]⟩=pure (ps.zip us)):Binds K fd ps []:=by
 obtain⟨oc,od,kV,doc,pm,an,cdv,ct,osl,rfl,lk,hcd⟩:=F.ex
 exact .all (h kV doc pm an cdv ct)
theorem aP {x qual:Str}{st:Stmt}{f:Addr}{oc:Value}{od an:Option Addr}{osl:Array (Option Value)}{kV doc pm cdv ct:Value} (l:K.lookup f=some ⟨oc,od,.func (W.fnOf x qual (cK st) (bX st) (av st) .none kV doc pm an cdv ct),osl⟩)
 (c:W.codeIn K cdv qual=true) (k:W.keepIn K (.ref f)=true):gE K x qual st f (W.fnOf x qual (cK st) (bX st) (av st) .none kV doc pm an cdv ct):=⟨⟨oc,od,kV,doc,pm,an,cdv,ct,osl,rfl,l,c⟩,k⟩
end
theorem aV {A:Around}{k:Nat} (hr:fR k A):A.units+1 < cLine:=Nat.lt_of_le_of_lt (Nat.add_le_add_left (by decide:1≤64) _) hr.units
section
variable {X:Cx}
theorem pv (i:Nat) {x:Str}{pos:Pos} (hN:X.N[i]? = some x:=by rfl) (hv:Wn X.env.scope x:=by first | exact Or.inl rfl | exact Or.inr (Or.inl rfl) | exact Or.inr (Or.inr rfl)) (hd:(x == ("__debug__" : Str))=false:=by decide)
 (hcd:(x == ("__classdict__" : Str))=false:=by decide):PE X (.Name x pos) (PX i):=Mm hN hv hd hcd
end
theorem gK {A B:Prop} (h:B):if false=true then A else B:=by
 rw[if_neg Bool.false_ne_true]
 exact h
theorem nA {A B:Prop} (h:A):if true=true then A else B:=by
 rw[if_pos rfl]
 exact h
theorem cu {c A B:Prop} [Decidable c] (h1:c→A) (h2:¬c→B):if c then A else B:=by
 by_cases h:c
 ·rw[if_pos h]
  exact h1 h
 ·rw[if_neg h]
  exact h2 h
theorem Qv {c A B:Prop} [Decidable c] (hc:c) (h:B):if (!decide c)=true then A else B:=by
 rw[decide_eq_true hc]
 exact gK h
def aG (H H':Hp):Prop:=∀ b o,H b=some o→H' b=some o
theorem aG.refl (H:Hp):aG H H:=fun _ _ h=>h
theorem aG.trans {H H1 H2:Hp} (a:aG H H1) (b:aG H1 H2):aG H H2:=fun c o h=>b c o (a c o h)
theorem aG.free {H H':Hp} (e:aG H H') {l:Addr} (h:H' l=Option.none):H l=Option.none:=by
 cases q:H l with
 | none=>rfl
 | some o =>
  rw[e l o q] at h
  cases h
theorem aG.seq {K:W.Frag}{H H':Hp}{a:Addr}{xs:List V} (e:aG H H') (h:bE K H a xs):bE K H' a xs:=by
 rcases h with (h | ⟨o,h⟩) | h
 ·exact .inl (.inl (e _ _ h))
 ·exact .inl (.inr ⟨o,e _ _ h⟩)
 ·exact .inr h
end L2
set_option maxHeartbeats 4000000
namespace L2
open PySem PySem.Spec PyProof.Rows
def iC (env:Env):List (Str×NameKind)→List (Str×Addr)→List (Str×Addr)
 | [],cs=>cs
 | (n,k) :: r,cs=>iC env r (if k == .free then (n,(env.cells.lookup n).getD 0) :: cs else cs)
theorem pD {scope:Scope}{env:Env} (h:∀ n,(n,NameKind.free)∈scope.names→∃ c,env.cells.lookup n=some c) :
  closureFor scope env=pure (iC env scope.names []):=by
 simp only[closureFor]
 have key:∀(l:List (Str×NameKind)) (cs:List (Str×Addr)),(∀ n,(n,NameKind.free)∈l→∃ c,env.cells.lookup n=some c) →
   (forIn l cs (fun x r=>if (x.2 == NameKind.free)=true then (cellOf env x.1 >>= fun a=>pure (ForInStep.yield ((x.1,a) :: r))) else pure (ForInStep.yield r)):Sem (List (Str×Addr)))=pure (iC env l cs):=by
  intro l
  induction l with
  | nil=>intro cs _;rfl
  | cons x l ih =>
   intro cs hl
   obtain⟨n,k⟩:=x
   have hl':∀ n,(n,NameKind.free)∈l→∃ c,env.cells.lookup n=some c:=fun n hn=>hl n (List.mem_cons_of_mem _ hn)
   rw[List.forIn_cons]
   by_cases hk:k=.free
   ·subst hk
    obtain⟨c,hc⟩:=hl n List.mem_cons_self
    have e1:cellOf env n=pure c:=by unfold cellOf;rw[hc]
    simp only[beq_self_eq_true,if_true,e1,pure_bind]
    rw[ih _ hl']
    simp only[iC,beq_self_eq_true,if_true,hc,Option.getD_some]
   ·have hb:(k == NameKind.free)=false:=by simpa using hk
    simp only[hb,Bool.false_eq_true,if_false,pure_bind]
    rw[ih _ hl']
    simp only[iC,hb,Bool.false_eq_true,if_false]
 exact(congrArg (fun z=>z >>= fun r=>pure r) (key scope.names [] h)).trans rfl
theorem p5 {env:Env}:∀(l:List (Str×NameKind)) (cs:List (Str×Addr)),(∀ n,(n,NameKind.free)∈l→∃ c,env.cells.lookup n=some c)→(∀ x c,cs.lookup x=some c→env.cells.lookup x=some c) →
  ∀ x c,(iC env l cs).lookup x=some c→env.cells.lookup x=some c
 | [],cs,_,h,x,c,e=>h x c e
 | (n,k) :: r,cs,hl,h,x,c,e=>by
  refine p5 r _ (fun n hn=>hl n (List.mem_cons_of_mem _ hn)) ?_ x c e
  intro y d hy
  by_cases hk:(k == NameKind.free)=true
  ·rw[if_pos hk] at hy
   have hk':k=.free:=by simpa using hk
   subst hk'
   obtain⟨c',hc'⟩:=hl n List.mem_cons_self
   rw[hc',Option.getD_some,List.lookup_cons] at hy
   cases WR:y == n with
   | true =>
    rw[WR] at hy
    have:y=n:=by simpa using WR
    subst this
    rw[hc'];exact hy
   | false=>rw[WR] at hy;exact h y d hy
  ·rw[if_neg hk] at hy;exact h y d hy
theorem nB {env:Env}:∀(l:List (Str×NameKind)) (cs:List (Str×Addr)) (x:Str),((x,NameKind.free)∈l∨∃ c,cs.lookup x=some c)→∃ c,(iC env l cs).lookup x=some c
 | [],cs,x,h=>by
  rcases h with h | h
  ·cases h
  ·exact h
 | (n,k) :: r,cs,x,h=>by
  refine nB r _ x ?_
  rcases h with h | ⟨c,h⟩
  ·rcases List.mem_cons.mp h with e | h
   ·cases e
    refine .inr ⟨(env.cells.lookup n).getD 0,?_⟩
    simp[List.lookup_cons]
   ·exact .inl h
  ·right
   by_cases hk:(k == NameKind.free)=true
   ·rw[if_pos hk,List.lookup_cons]
    cases x == n with
    | true=>exact⟨_,rfl⟩
    | false=>exact⟨c,h⟩
   ·rw[if_neg hk];exact⟨c,h⟩
theorem jJ {env:Env} (x:Str):∀(names:List (Str×NameKind)),
  (names.map fun (n,k)=>if (k == NameKind.free && env.scope.kind == .function && env.kindOf n == some .cell) then (n,NameKind.cell) else (n,k)).lookup x =
   (names.lookup x).map fun k=>if (k == NameKind.free && env.scope.kind == .function && env.kindOf x == some .cell) then NameKind.cell else k
 | []=>rfl
 | (n,k) :: r=>by
  have ih:=jJ (env:=env) x r
  show List.lookup x ((if (k == NameKind.free && env.scope.kind == .function && env.kindOf n == some .cell)=true then (n,NameKind.cell) else (n,k)) :: _)=_
  cases hx:x == n with
  | true =>
   have e:x=n:=by simpa using hx
   subst e
   by_cases hc:(k == NameKind.free && env.scope.kind == .function && env.kindOf x == some .cell)=true
   ·rw[if_pos hc];simp only[List.lookup_cons,beq_self_eq_true,Option.map_some,if_pos hc]
   ·rw[if_neg hc];simp only[List.lookup_cons,beq_self_eq_true,Option.map_some,if_neg hc]
  | false =>
   by_cases hc:(k == NameKind.free && env.scope.kind == .function && env.kindOf n == some .cell)=true
   ·rw[if_pos hc];simp only[List.lookup_cons,hx];exact ih
   ·rw[if_neg hc];simp only[List.lookup_cons,hx];exact ih
structure aX (XN:List Str) (Pe:Scope) (N:List Str) (nv:Nat) (js:List Nat) (scope:Scope):Prop where
 kind:scope.kind=.function
 cell:∀ y∈scope.names,y.2≠.cell
 loc:∀ y∈scope.names,y.2=.local→scope.names.lookup y.1=some .local
 free:∀ y∈scope.names,y.2=.free→(Pe.names.lookup y.1=some .cell∨Pe.names.lookup y.1=some .free)
 nd:N.Nodup
 len:N.length=nv+js.length
 pl:js.map (fun j=>XN[j]?)=(N.drop nv).map some
 fr:∀ x∈N.drop nv,scope.names.lookup x=some .free
abbrev jK (X:Cx) (N:List Str) (scope:Scope) (C:Addr) (s:Shared) (H:Hp) (fp:List Addr):Cx where
 prog:=X.prog
 w:=X.w
 K:=X.K
 mg:=X.mg
 base:=X.base
 A:=X.A
 N:=N
 s₀:=s
 H₀:=H
 env:=compEnvC scope (iC X.env scope.names []) C X.env
 outer:=X.stack
 stack:=X.stack
 ex:=fp
 fn:=fun _=>false
 calm:=X.calm
 pn:=[]
 xe:=fun _ _=>False
def rP (nv:Nat) (js:List Nat) (σ:St):St:=List.replicate nv none++js.map fun j=>(σ[j]?).getD none
section
variable {X:Cx}{pins:List (Addr×Obj)}{σ:St}{H:Hp}{s:Shared}
theorem CC {N:List Str}{nv:Nat}{js:List Nat}{scope:Scope}{fp:List Addr}{h1:Heap}{tk:Nat} (I:Inv X pins σ H s) (S:aX X.N X.env.scope N nv js scope) (hf:∀ b∈fp,qy X pins H b) (hfl:∀ b∈fp,b < s.heap.objs.size)
  (keep:∀ b o,s.heap.get? b=some o→h1.get? b=some o) (ns:h1.Ns s.heap.objs.size fun _=>none) :
  Inv (jK X N scope s.heap.objs.size s H fp) [] (rP nv js σ) H { s with heap:=h1,toks:=tk }:=by
 have hfr:∀ n,(n,NameKind.free)∈scope.names→∃ c,X.env.cells.lookup n=some c:=fun n hn=>I.ok.has n (S.free _ hn rfl)
 have sub:∀ x c,(iC X.env scope.names []).lookup x=some c→X.env.cells.lookup x=some c:=p5 scope.names [] hfr (fun x c z=>by cases z)
 have ML:∀ x,scope.names.lookup x≠some .cell:=fun x z=>S.cell _ (PySem.mem_of_lookup z) rfl
 have WS:∀ x,(relabel scope X.env).names.lookup x=some .cell∨(relabel scope X.env).names.lookup x=some .free→scope.names.lookup x=some .free:=by
  intro x hx
  have e:=jJ (env:=X.env) x scope.names
  have hx':(relabel scope X.env).names.lookup x=_:=e
  rw[hx'] at hx
  cases q:scope.names.lookup x with
  | none=>rw[q] at hx;rcases hx with hx | hx <;> cases hx
  | some k =>
   rw[q,Option.map_some] at hx
   cases k <;> first | rfl | (exact absurd q (ML x)) | (exfalso;rcases hx with hx | hx <;> simp at hx)
 refine⟨⟨I.ok.mod,S.kind,I.ok.glob,I.ok.blt,Nat.le_refl _,fun x y c h1 h2=>I.ok.inj x y c (sub _ _ h1) (sub _ _ h2),fun x hx=>?_,fun x c z=>(by cases z),I.ok.hd,I.ok.frames,.inl rfl,fun b hb=>?_,fun b o e=>?_,?_,fun b o e hb=>?_,fun b hb z=>?_,I.stack,I.zm⟩,
  rfl,I.bare,Un.kept keep,⟨_,ns,fun i x v e1 e2 e3=>?_⟩,fun x c e=>?_,I.hok.fresh (Nat.le_refl _),fun x c e=>I.jE x c (sub _ _ e),fun p hp=>absurd (show p∈([]:List (Addr×Obj)) from hp) (by simp),I.hok.kept keep,?_⟩
 ·exact nB _ _ _ (.inl (PySem.mem_of_lookup (WS x hx)))
 ·obtain⟨f0,f1,f2,f3,f4,f5⟩:=hf b hb
  exact⟨Nat.ne_of_lt (hfl b hb),fun x c e=>f4 x c (sub x c e)⟩
 ·exact I.bs b o e
 ·exact Nat.le_trans I.ok.Jw I.sz
 ·obtain⟨f0,f1,f2,f3,f4,f5⟩:=hf b hb
  rcases f3 with z | z
  ·exact I.ok.EG b o e z
  ·exact absurd (Nat.lt_of_lt_of_le (Heap.lt_size e) (Nat.le_trans I.ok.Jw z)) (Nat.lt_irrefl _)
 ·obtain⟨f0,f1,f2,f3,f4,f5⟩:=hf b hb
  rcases List.mem_cons.mp (I.vq b z) with q | q
  ·exact f1 q
  ·exact f2 q
 ·
  have hi:¬i < nv:=fun hlt=>by
   unfold rP at e2
   rw[List.getElem?_append_left (by simpa using hlt),List.getElem?_replicate,if_pos hlt] at e2
   cases e2
  obtain⟨k,rfl⟩:∃ k,i=nv+k:=⟨i - nv,by omega⟩
  unfold rP at e2
  rw[List.getElem?_append_right (by simp),List.length_replicate,Nat.add_sub_cancel_left,List.getElem?_map] at e2
  cases hj:js[k]? with
  | none=>rw[hj] at e2;cases e2
  | some j =>
   rw[hj,Option.map_some] at e2
   have LK:(σ[j]?).getD none=some v:=Option.some.inj e2
   have hσ:σ[j]? = some (some v):=by
    cases q:σ[j]? with
    | none=>rw[q] at LK;cases LK
    | some z=>rw[q] at LK;exact congrArg some LK
   have hd:(N.drop nv)[k]? = some x:=by rw[List.getElem?_drop];exact e1
   have hX:X.N[j]? = some x:=by
    have q:=congrArg (fun l=>l[k]?) S.pl
    simp only[List.getElem?_map,hj,hd,Option.map_some] at q
    exact Option.some.inj q
   have hfx:=S.fr x (List.mem_of_getElem? hd)
   have kx:=S.free _ (PySem.mem_of_lookup hfx) rfl
   obtain⟨m,_,hl⟩:=I.loc
   obtain⟨u,r,l⟩:=hl j x v hX hσ (.inr kx)
   refine⟨u,r,?_⟩
   rcases l with ⟨k1,_⟩ | ⟨_,c,hc,hcell⟩
   ·exfalso
    have k1':X.env.scope.names.lookup x=some .local:=k1
    rcases kx with z | z <;> (rw[k1'] at z;cases z)
   ·obtain⟨c',hc'⟩:=nB (env:=X.env) scope.names [] x (.inl (PySem.mem_of_lookup hfx))
    have e:=sub _ _ hc'
    rw[hc] at e;cases e
    refine .inr ⟨?_,c,hc',hcell.keeps keep⟩
    have e:=jJ (env:=X.env) x scope.names
    have e':(relabel scope X.env).names.lookup x=_:=e
    rw[hfx,Option.map_some] at e'
    show(relabel scope X.env).names.lookup x=some .cell∨(relabel scope X.env).names.lookup x=some .free
    rw[e']
    split
    ·exact .inl rfl
    ·exact .inr rfl
 ·obtain⟨v,q⟩:=I.cell x c (sub _ _ e)
  exact⟨v,q.keeps keep⟩
 ·unfold rP
  show _=N.length
  rw[List.length_append,List.length_replicate,List.length_map,S.len]
end
def EU (X:Cx) (ifs:List Expr) (t:TT):Prop :=
 ∀(pins:List (Addr×Obj)) (s:Shared) (σ:St) (H:Hp) (Q:Bool→Hp→Prop),Inv X pins σ H s→t σ H Q →
  wpAny (model X.prog X.w) X.A (forIn ifs true fun c r=>if r=true then do let ok ←isTrue c X.env (eval c X.env);pure (ForInStep.yield ok) else pure (ForInStep.yield r)) (TP X pins σ Q) X.xe s
def Qw:TT:=fun _ H Q=>Q true H
theorem eV {X:Cx}:EU X [] Qw:=fun _ _ _ H _ I h=>wpAny_tests_nil ⟨H,I,h⟩
theorem JX {X:Cx}{c:Expr}{t:TT} (h:PT X c t):EU X [c] t:=fun pins s σ H Q I q=>wpAny_tests_one (h pins s σ H Q I q)
def Bb (J:It) (g:TG) (tt:TT) (te:TE) (Q:VK) (D:Addr) (τ:St) (H:Hp):Prop :=
 ∃ W:Nat→Nat→List V→St→Hp→Prop,(∃ m,W 0 m [] τ (upd H D (.lst [])))∧∀ i m ys τ H,W i m ys τ H→H D=some (.lst ys) ∧
  ((J.stop i H∧Q (.ref D) H)∨(J.go i H∧∃ N:List V→St→Hp→Prop,(∀ zs σ' H',N zs σ' H'→∃ m',m' < m∧W (i+1) m' zs σ' H')∧∀ x H',J.Jy i H x H'→g x τ H' fun τ2 H2=>tt τ2 H2 fun b H3 =>
   if b=true then te τ2 H3 fun y H4=>H4 D=some (.lst ys)∧ys.length < sizeLine∧N (ys++[y]) τ2 (upd H4 D (.lst (ys++[y])))
   else N ys τ2 H3))
def LL (wi:TI) (g:TG) (tt:TT) (te:TE) (nv:Nat) (js:List Nat):TE:=fun σ H Q=>wi σ H fun J H1=>∀ D,H1 D=none→Bb J g tt te Q D (rP nv js σ) H1
theorem CD {prog:Program}{w:World}{A:Around}{R:Result→Shared→Prop}{s:Shared}{elt target iter:Expr}{ifs:List Expr}{scope:Scope}{pos:Pos}{it acc:Value}{env:Env} (I:Nat→Shared→Prop)
  (turn:∀ n s,I n s→wpAny (model prog w) A (pyNext it) (fun r s₁=>match r with
   | none=>R (.ok .next) s₁
   | some v=>wpAny (model prog w) A (letOwnedTupleGo target it v) (fun _ s₁'=>wpAny (model prog w) A (assign target env v) (fun _ s₂ =>
     wpAny (model prog w) A (forIn ifs true fun c r=>if r=true then do let ok ←isTrue c env (eval c env);pure (ForInStep.yield ok) else pure (ForInStep.yield r)) (fun ok s₃ =>
      if ok=true then wpAny (model prog w) A (eval elt env) (fun x s₄ =>
       wpAny (model prog w) A (call (.builtin "list.append") [acc,x]) (fun _ s₅=>∃ m,m < n∧I m s₅) (fun _ _=>False) s₄) (fun _ _=>False) s₃
      else ∃ m,m < n∧I m s₃) (fun _ _=>False) s₂) (fun _ _=>False) s₁') (fun _ _=>False) s₁) (fun _ _=>False) s)
  (n:Nat) (h:I n s) :
  codeAny (model prog w) A (.compLoop (.ListComp elt [⟨target,iter,ifs,0⟩] scope pos) 0 it acc env) R s:=by
 refine codeAny_loop rfl I (fun n s hI=>?_) n h
 show wpAny _ A ((compTurn (.ListComp elt [⟨target,iter,ifs,0⟩] scope pos) 0 it acc env).onRaise (fun x=>do noteFrame x env;theTreesLotGoes x)) _ _ s
 refine wpAny_noted (wpAny_mono (E:=fun _ _=>False) ?_ (fun _ _ q=>q) fun _ _ q=>q.elim)
 rw[compTurn_list]
 refine wpAny_bind (wpAny_standAt (wpAny_bind (wpAny_mono (turn n s hI) (fun r s₁ h₁=>?_) fun _ _ h'=>h')))
 cases r with
 | none=>exact wpAny_pure h₁
 | some v =>
  refine wpAny_bind (wpAny_mono h₁ (fun _ s₁' h₁'=>?_) fun _ _ h'=>h')
  refine wpAny_bind (wpAny_mono h₁' (fun _ s₂ h₂=>wpAny_bind (wpAny_mono h₂ (fun ok s₃ h₃=>?_) fun _ _ h'=>h')) fun _ _ h'=>h')
  cases ok with
  | false=>exact wpAny_pure ⟨rfl,h₃⟩
  | true =>
   exact wpAny_bind (wpAny_bind (wpAny_mono h₃ (fun x s₄ h₄=>wpAny_bind (wpAny_mono h₄ (fun _ s₅ h₅=>wpAny_pure (wpAny_pure ⟨rfl,h₅⟩)) fun _ _ h'=>h')) fun _ _ h'=>h'))
section
variable {X:Cx}{elt tg iter:Expr}{ifs:List Expr}{scope:Scope}{pos:Pos}{N:List Str}{nv:Nat}{js:List Nat}{wi:TI}{g:TG}{tt:TT}{te:TE}
theorem vG {pins:List (Addr×Obj)}{σ:St}{H:Hp}{s:Shared}{Q:VK}{it:Addr}{fp:List Addr}{tn:Nat→Heap→Prop}{J:It}{E:Value→Shared→Prop}{RR:Value→Addr→Result→Shared→Prop} (hc:X.calm=true)
  (S:aX X.N X.env.scope N nv js scope) (hg:∀ C s H fp,PG (jK X N scope C s H fp) tg g) (ht:∀ C s H fp,EU (jK X N scope C s H fp) ifs tt) (he:∀ C s H fp,PE (jK X N scope C s H fp) elt te)
  (I:Inv X pins σ H s) (T:Turn X.prog X.w X.K tg J fp it tn) (st:tn 0 s.heap) (hf:∀ b∈fp,qy X pins H b) (hR:∀ D,H D=none→Bb J g tt te Q D (rP nv js σ) H)
  (hRR:∀ D C H' s' m,Inv X pins σ H' s'→qy X pins H' C→s'.heap.Ns C m→Q (.ref D) H'→RR (.ref D) C (.ok .next) s') :
  wpAny (model X.prog X.w) X.A (newList []) (fun acc s₃=>wpAny (model X.prog X.w) X.A (newFunctionEnv scope X.env.globals (iC X.env scope.names []) [] X.env.qual none .none (some X.env)) (fun cenv s₄ =>
   codeAny (model X.prog X.w) X.A (.compStart (.ListComp elt [⟨tg,iter,ifs,0⟩] scope pos) 0 (.ref it) acc { cenv with scope:=relabel scope X.env }) (RR acc cenv.locals) s₄) E s₃) E s:=by
 refine wpAny_newObj_type (wpAny_newFunctionEnv S.cell (by intro y hy;simp at hy) (fun h₁ Hy Hz=>?_) S.kind)
 have I3:Inv X pins σ (upd H s.heap.objs.size (.lst [])) { s with heap:=s.heap.push { cls:=.type "list",data:=.seq ([]:List Value).toArray } }:=I.MI (t':=s.toks) (its:=[]) .nil (Nat.zero_le _)
 have hD:=I.fresh
 obtain⟨W,⟨m0,w0⟩,turn⟩:=hR s.heap.objs.size hD
 have ho:=T.obj 0 s.heap st
 have Qx:∀ b∈fp,b < s.heap.objs.size:=fun b hb=>let ⟨o,e,_⟩:=ho b hb;Heap.lt_size e
 have MN:∀ b∈fp,qy X pins (upd H s.heap.objs.size (.lst [])) b:=fun b hb=>⟨by rw[aB (Nat.ne_of_lt (Qx b hb))];exact(hf b hb).1,(hf b hb).2⟩
 generalize hs3:({ s with heap:=s.heap.push { cls:=.type "list",data:=.seq ([]:List Value).toArray } }:Shared)=s3 at I3 Hy Hz
 have e3:s3.heap=s.heap.push { cls:=.type "list",data:=.seq ([]:List Value).toArray }:=by rw[←hs3]
 have hfl:∀ b∈fp,b < s3.heap.objs.size:=fun b hb=>by rw[e3,Heap.size_push];exact Nat.lt_succ_of_lt (Qx b hb)
 have keep:∀ b o,s3.heap.get? b=some o→h₁.get? b=some o:=fun b o e=>Hz.extBut b o (Nat.ne_of_lt (Heap.lt_size e)) (Heap.get?_push_of_some _ e)
 have J0:=CC (tk:=s3.toks+([]:List (Str×Value)).length) I3 S MN hfl keep Hy
 have st1:tn 0 h₁:=T.keep 0 s.heap h₁ st fun b hb o e=>keep b o (by rw[e3];exact Heap.get?_push_of_some _ e)
 generalize hH3:upd H s.heap.objs.size (.lst [])=H3 at *
 generalize hY:jK X N scope s3.heap.objs.size s3 H3 fp=Y at *
 have sub:∀ x c,(iC X.env scope.names []).lookup x=some c→X.env.cells.lookup x=some c :=
  p5 scope.names [] (fun n hn=>I.ok.has n (S.free _ hn rfl)) (fun x c z=>by cases z)
 have Cq:∀{H':Hp},(∀ b∈fp,H' b=none)→∀ b∈fp,qy Y [] H' b:=fun {H'} hn b hb=>by
  subst hY
  obtain⟨f0,f1,f2,f3,f4,f5⟩:=MN b hb
  refine⟨hn b hb,Nat.ne_of_lt (hfl b hb),fun z=>?_,.inl hb,fun x c e=>f4 x c (sub x c e),fun p hp=>absurd (show p∈([]:List (Addr×Obj)) from hp) (by simp)⟩
  rcases List.mem_cons.mp (I3.vq b z) with q | q
  ·exact f1 q
  ·exact f2 q
 have eA:Y.A=X.A:=by subst hY;rfl
 have eP:Y.prog=X.prog:=by subst hY;rfl
 have eW:Y.w=X.w:=by subst hY;rfl
 have eK:Y.K=X.K:=by subst hY;rfl
 have eC:Y.calm=true:=by subst hY;exact hc
 have eE:Y.env=compEnvC scope (iC X.env scope.names []) s3.heap.objs.size X.env:=by subst hY;rfl
 have V2:Y.xe=fun _ _=>False:=by subst hY;rfl
 have hgY:PG Y tg g:=by subst hY;exact hg _ _ _ _
 have htY:EU Y ifs tt:=by subst hY;exact ht _ _ _ _
 have heY:PE Y elt te:=by subst hY;exact he _ _ _ _
 have loop:codeAny (model X.prog X.w) X.A (.compLoop (.ListComp elt [⟨tg,iter,ifs,0⟩] scope pos) 0 (.ref it) (.ref s.heap.objs.size) (compEnvC scope (iC X.env scope.names []) s3.heap.objs.size X.env))
   (RR (.ref s.heap.objs.size) s3.heap.objs.size) { s3 with heap:=h₁,toks:=s3.toks+([]:List (Str×Value)).length }:=by
  refine CD (fun n s'=>∃ i ys τ H',Inv Y [] τ H' s'∧tn i s'.heap∧(∀ b∈fp,H' b=none)∧W i n ys τ H') ?_ m0 ⟨0,[],_,H3,J0,st1,fun b hb=>(MN b hb).1,w0⟩
  rintro n s4 ⟨i,ys,τ,H4,I4,st4,fr4,w4⟩
  obtain⟨hDl,tr⟩:=turn i n ys τ H4 w4
  rcases tr with ⟨stop,qn⟩ | ⟨go,Nn,hNn,step⟩
  ·have d:=T.done Y eP eW eK eC i [] s4 τ H4 (fun _ _=>False) I4 (Cq fr4) st4 stop
   rw[eA] at d
   refine cH d fun r s5 ⟨hr,I5⟩=>?_
   subst hr
   have u:Inv X pins σ H4 s5:=by
    subst hY
    exact I3.G8 (ch:=fp) I5.os I5.base I5.hok I5.bare fun b hb=>⟨(MN b hb).2.2.2.1,(MN b hb).2.1,(MN b hb).2.2.2.2.1,(MN b hb).2.2.2.2.2⟩
   have hC:H4 s3.heap.objs.size=none:=by have z:=I5.free;rw[eE] at z;exact z
   obtain⟨m,hn,_⟩:=I5.loc
   rw[eE] at hn
   exact hRR _ _ H4 s5 m u (I3.zu (Nat.le_refl _) hC) hn qn
  ·have d:=T.item Y eP eW eK eC i [] s4 τ H4 (fun _ _=>False) I4 (Cq fr4) st4 go
   rw[eA] at d
   refine cH d fun r s5 ⟨u,hr,h5⟩=>?_
   subst hr
   refine cH h5 fun _ s6 ⟨x,H6,I6,r6,y6,WT,fr6⟩=>?_
   have I6':=I6.pinned (Cq fr6) (T.obj _ _ WT)
   have q6:=hgY _ s6 τ H6 x u _ I6' r6 (step x H6 y6)
   rw[eP,eW,eA,eE,V2] at q6
   refine cH q6 fun _ s7 ⟨σ7,H7,I7,q7⟩=>?_
   have q8:=htY _ s7 σ7 H7 _ I7 q7
   rw[eP,eW,eA,eE,V2] at q8
   refine cH q8 fun ok s8 ⟨H8,I8,q8⟩=>?_
   have again:∀{σ9:St}{H9:Hp}{s9:Shared}{zs:List V},Inv Y ([]++vz fp s6.heap) σ9 H9 s9→(∃ m',m' < n∧W (i+1) m' zs σ9 H9)→∃ m,m < n∧∃ i ys τ H',Inv Y [] τ H' s9∧tn i s9.heap∧(∀ b∈fp,H' b=none)∧W i m ys τ H':=fun {σ9 H9 s9 zs} I9 n9=>by
    obtain⟨m',hm,w9⟩:=n9
    refine⟨m',hm,i+1,zs,σ9,H9,I9.qz,T.keep _ _ _ WT fun b hb o e=>(I9.pin (b,o) (List.mem_append_right _ (List.mem_append_right _ (lN hb e)))).1,fun b hb=>?_,w9⟩
    obtain⟨o,e,d⟩:=T.obj _ _ WT b hb
    exact(I9.pin (b,o) (List.mem_append_right _ (List.mem_append_right _ (lN hb e)))).2.1
   cases ok with
   | false =>
    rw[if_neg Bool.false_ne_true]
    rw[if_neg Bool.false_ne_true] at q8
    exact again I8 (hNn _ _ _ q8)
   | true =>
    rw[if_pos rfl]
    rw[if_pos rfl] at q8
    have q9:=heY _ s8 σ7 H8 _ I8 q8
    rw[eP,eW,eA,eE,V2] at q9
    refine cH q9 fun y s9 ⟨yv,H9,I9,r9,hD9,hz9,q9⟩=>?_
    have ap:=jD (X:=Y) _ s9 σ7 H9 (.ref s.heap.objs.size) [yv] (.ref s.heap.objs.size) [y] (fun _ Qy=>Nn (ys++[yv]) σ7 Qy) I9 rfl (.cons r9 .nil) ⟨_,ys,yv,rfl,rfl,hD9,hz9,q9⟩
    rw[eP,eW,eA,V2] at ap
    exact cH ap fun _ GS ⟨_,Qy,I10,_,V3⟩=>again I10 (hNn _ _ _ V3)
 subst hs3
 exact codeAny_compStart_list loop (T.self _ 0 _ _ _ st1 loop)
theorem fF (hc:X.calm=true) (S:aX X.N X.env.scope N nv js scope) (hi:PI X tg iter wi) (hg:∀ C s H fp,PG (jK X N scope C s H fp) tg g) (ht:∀ C s H fp,EU (jK X N scope C s H fp) ifs tt)
  (he:∀ C s H fp,PE (jK X N scope C s H fp) elt te) (hs:∀ x,foldedSetIterable iter X.env x=pure x:=by intro _;rfl) :
  PE X (.ListComp elt [⟨tg,iter,ifs,0⟩] scope pos) (LL wi g tt te nv js):=by
 intro pins s σ H Q I h
 rw[eval_ListComp]
 refine wpAny_comprehension_free (use:=none) rfl hs (pD fun n hn=>I.ok.has n (S.free _ hn rfl)) S.kind S.loc (cH (hi pins s σ H _ I h) fun v s1 h1=>cH h1 fun itv s2 h2=>?_)
 obtain⟨it,fp,tn,J,H2,e,I2,T,st2,f2,hR⟩:=h2
 subst e
 refine vG (RR:=fun acc C=>compPost (model X.prog X.w) X.A X.xe none (EP X pins σ Q) acc C) hc S hg ht he I2 T st2 f2 hR ?_
 intro D C H' s' m I' fC hn q
 refine⟨m,hn,fun h' sb=>⟨.ref D,H',?_,rfl,q⟩⟩
 exact I'.turned (t':=s'.toks) (fun b o hb e=>(sb.2 b hb).trans e) fC.1 fC.2.1 fC.2.2.2.1 fC.2.2.2.2.1 fC.2.2.2.2.2
theorem Ea {i:Nat}{x:Str}{pos' spos:Pos} (hc:X.calm=true) (hN:X.N.Nodup) (hi':X.N[i]? = some x) (hx:X.env.scope.names.lookup x=some .local) (S:aX X.N X.env.scope N nv js scope) (hi:PI X tg iter wi) (hg:∀ C s H fp,PG (jK X N scope C s H fp) tg g) (ht:∀ C s H fp,EU (jK X N scope C s H fp) ifs tt)
  (he:∀ C s H fp,PE (jK X N scope C s H fp) elt te) (hsw:swapsWith (.ListComp elt [⟨tg,iter,ifs,0⟩] scope pos) (some (.Name x pos')) spos.line X.env=pure true:=by rfl) (hs:∀ x,foldedSetIterable iter X.env x=pure x:=by intro _;rfl) :
  PS X (.Assign [.Name x pos'] (.ListComp elt [⟨tg,iter,ifs,0⟩] scope pos) spos) (JK (LL wi g tt te nv js) (d8 i)):=by
 intro pins s σ H D I h
 rw[exec_Assign_Name_used _ _ _ _ hsw]
 refine wpAny_bind (wpAny_standAt (wpAny_bind ?_))
 show wpAny _ X.A (do let _ ←comprehension (.ListComp elt [⟨tg,iter,ifs,0⟩] scope pos) scope X.env _ (newList []) false (eval iter X.env) (some (assign (.Name x pos') X.env))) _ _ s
 refine wpAny_bind (wpAny_mono (wpAny_comprehension_free (use:=some (assign (.Name x pos') X.env)) (Q:=fun _ s'=>SP X pins D .next s') rfl hs (pD fun n hn=>I.ok.has n (S.free _ hn rfl)) S.kind S.loc
  (cH (hi pins s σ H _ I h) fun v s1 h1=>cH h1 fun itv s2 h2=>?_)) (fun _ s' hq=>wpAny_pure (wpAny_pure hq)) fun _ _ e=>e)
 obtain⟨it,fp,tn,J,H2,e,I2,T,st2,f2,hR⟩:=h2
 subst e
 refine vG (RR:=fun acc C=>compPost (model X.prog X.w) X.A X.xe (some (assign (.Name x pos') X.env)) (fun _ s'=>SP X pins D .next s') acc C) hc S hg ht he I2 T st2 f2 hR ?_
 intro Dl C H' s' m I' fC hn q
 show wpAny _ X.A (assign (.Name x pos') X.env (.ref Dl)) _ _ _
 refine wpAny_assign_Name (yy I' hN hi' (.inl hx) (v:=.ref Dl) rfl (fun s2 I3 ch=>?_) (.inr hx))
 obtain⟨a,sb,ha⟩:=ch
 have hCa:C≠a:=by
  rcases ha with rfl | ha
  ·exact fC.2.1
  ·exact(fC.2.2.2.2.1 x a ha).symm
 refine⟨m,hn.sameBut sb hCa,fun h' sb'=>⟨_,H',?_,q⟩⟩
 exact I3.turned (t':=s2.toks) (fun b o hb e=>(sb'.2 b hb).trans e) fC.1 fC.2.1 fC.2.2.2.1 fC.2.2.2.2.1 fC.2.2.2.2.2
end
theorem CF:typeLookup (.type "list_reverseiterator") "__len__" = pure none:=by rw[typeLookup_type,builtinLookup_eq_fast];kernel_rfl
theorem HA:typeLookup (.type "list_reverseiterator") "__length_hint__" = pure (some (.builtin "list_reverseiterator.__length_hint__")):=by rw[typeLookup_type,builtinLookup_eq_fast];kernel_rfl
section
variable {prog:Program}{w:World}{A:Around}{E:Value→Shared→Prop}{s:Shared}
theorem HB {I l:Addr}{i:Int}{Q:Bool→Shared→Prop} (hit:s.heap.IsRevIter I l i) (h:Q false s):wpAny (model prog w) A (Builtin.List.listLengthHint (.ref I)) Q E s:=by
 unfold Builtin.List.listLengthHint
 refine wpAny_bind (wpAny_specialOf hit.typeIs CF ?_)
 show wpAny _ _ (specialOf (Value.ref I) ("__length_hint__":Str) >>= _) _ _ _
 refine wpAny_bind (wpAny_specialOf hit.typeIs HA ?_)
 generalize hid:("list_reverseiterator.__length_hint__" : String)=id0
 wp_delta
 rw[show splitId id0=some ("list_reverseiterator", "__length_hint__") from by subst hid;decide +kernel]
 subst hid
 refine wpAny_bind (wpAny_isInstance (T := "list_reverseiterator") (b:=true) hit.typeIs (by rw[isSubtype_type];kernel_rfl) ?_)
 refine wpAny_ite_split (fun hab=>absurd hab (by decide)) (fun _=>?_)
 refine wpAny_ite_split (fun _=>?_) (fun hab=>absurd (by decide +kernel) hab)
 refine wpAny_ite_split (fun hab=>absurd hab (by decide +kernel)) (fun _=>?_)
 exact wpAny_pure h
theorem CG {R:Result→Shared→Prop} (hh:A.handled=none) {I l:Addr}{items:Array Value} (hne:l≠I) (hit:s.heap.IsRevIter I l ((items.size:Int) - 1)) (hl:s.heap.IsList l items) (S:Addr) (hSl:S≠l) (res:Value) (c₀:Nat) (hS:s.heap.get? S=some { cls:=.type "list",data:=.seq #[] c₀ })
  (hn:items.size≤sizeLine)
  (hR:∀ h' tk acc' c',(∀ b o,b≠S→b≠I→s.heap.get? b=some o→h'.get? b=some o)→h'.get? S=some { cls:=.type "list",dict:=none,data:=.seq acc' c',slots:=#[] } →
   ItemsOf (fun i v=>items[items.size - 1 - i]? = some v) acc' items.size→R (.ok (.ret res)) { s with heap:=h',toks:=tk }) :
  wpAny (model prog w) A.in1 (Builtin.List.listExtendWith (.ref S) (.ref I) res)
   (fun fin s'=>match fin with | .done f=>R (.ok f) s' | .again c'=>c'.quiet=true∧codeAny (model prog w) A c' R s') (fun e s'=>R (.error e) s') s:=by
 have hSI:S≠I:=fun e=>by
  subst e
  obtain⟨o,ho,hc,_⟩:=hit
  rw[hS] at ho;cases ho
  exact absurd (show Value.type "list" = Value.type "list_reverseiterator" from hc) (by decide)
 have hSf:S∉[I,l]:=fun hm=>by
  rcases List.mem_cons.mp hm with e | hm
  ·exact hSI e
  ·exact hSl (List.mem_singleton.mp hm)
 unfold Builtin.List.listExtendWith
 refine wpAny_bind (wpAny_typeOf hit.typeIs ?_)
 have h1:Builtin.List.listSameRef (.ref S) (.ref I)=false:=by simp[Builtin.List.listSameRef,hSI]
 have h2:(Value.type "list_reverseiterator" == Value.type "list")=false:=by decide
 have h3:(Value.type "list_reverseiterator" == Value.type "tuple")=false:=by decide
 simp only[h1,h2,h3,Bool.or_false,Bool.false_eq_true,if_false]
 refine wpAny_bind (wpAny_pyIter_revIter hit ?_)
 refine wpAny_bind (wpAny_holding (HB hit ?_))
 rw[if_neg (by decide)]
 refine wpAny_pure ⟨plainId_quiet F.plain_extend_loop _,codeAny_extend_loopS (Walks.listRev (prog:=prog) (w:=w) (A:=A.in1) hh I l hne items).toS hn _ hSf _ items.size 0 _ _ _ rfl (Nat.zero_le _) ⟨Nat.zero_le _,by simpa using hit,hl⟩ hS (ItemsOf.nil _) fun s' acc' c' hm hS' hacc=>?_⟩
 rw[Moved.eq_with hm]
 refine hR s'.heap s'.toks acc' c' (fun b ob hb hb2 e=>hm.heap b ob (fun hmem=>?_) e) hS' hacc
 rcases List.mem_cons.mp hmem with e' | hmem
 ·exact hb e'
 ·exact hb2 (List.mem_singleton.mp hmem)
end
theorem EV {items:List Value}{acc:Array Value} (h:ItemsOf (fun i v=>items.toArray[items.toArray.size - 1 - i]? = some v) acc items.toArray.size):acc.toList=items.reverse:=by
 have hz:=h.1
 refine List.ext_getElem? fun i=>?_
 by_cases hi:i < items.length
 ·have hi':i < acc.size:=by rw[hz];simpa using hi
  have q:=h.2 i acc[i] (by simp[hi'])
  rw[List.getElem?_reverse hi]
  simp only[List.size_toArray,List.getElem?_toArray] at q
  rw[q]
  simp[hi']
 ·rw[List.getElem?_eq_none (by rw[Array.length_toList,hz];simpa using hi),List.getElem?_eq_none (by simpa using hi)]
section
variable {X:Cx}{e:Expr}{te:TE}
end
def sg (c:Nat):Str:=⟨#[c]⟩
def Pf (z:Str):It:=⟨fun i _=>i < z.cps.size,fun i H x H'=>H'=H∧∃ c,z.cps[i]? = some c∧x=.str (sg c),fun i _=>z.cps.size≤i⟩
theorem HC {P:Program}{w:World}{K:W.Frag}{tg:Expr} (it:Addr) (z:Str) (t:Tok):Turn P w K tg (Pf z) [it] it (fun i h=>h.IsStrIter it (strIterType z) z t i) where
 mem:=by simp
 obj:=fun i h st b hb=>by
  have e:b=it:=by simpa using hb
  subst e
  obtain⟨o,e,c,d⟩:=st
  exact⟨o,e,fun v z=>by rw[d] at z;cases z⟩
 keep:=fun i h h' st k=>by
  obtain⟨o,e,r⟩:=st
  exact⟨o,k it (by simp) o e,r⟩
 item:=by
  intro X hP hw hK hc i pins s σ H E I hf st hg
  subst hP hw hK
  obtain⟨f0,f1,f2,f3,f4,f5⟩:=hf it (by simp)
  have hi:i < z.cps.size:=hg
  have hx:z.cps[i]? = some z.cps[i]:=by simp[hi]
  cases ha:z.cps.all (· < 128) with
  | true =>
   have et:strIterType z = "str_ascii_iterator" := by simp only[strIterType,ha,if_true]
   rw[et] at st ⊢
   refine wpAny_pyNext_ascii_item st hx fun h' st' sb=>?_
   have I1:Inv X pins σ H { s with heap:=h',toks:=s.toks+1 }:=I.turned (fun b o hb e=>(sb.2 b hb).trans e) f0 f1 f3 f4 f5
   obtain⟨o,e,c,d⟩:=id st'
   exact⟨_,rfl,A5 (s:={ s with heap:=h',toks:=s.toks+1 }) e c d (by decide) ⟨.str (sg z.cps[i]),H,I1,⟨_,rfl⟩,⟨rfl,_,hx,rfl⟩,st',fun b hb=>(hf b hb).1⟩⟩
  | false =>
   have et:strIterType z = "str_iterator" := by simp only[strIterType,ha,Bool.false_eq_true,if_false]
   rw[et] at st ⊢
   refine wpAny_pyNext_wide_item st hx fun h' st' sb=>?_
   have I1:Inv X pins σ H { s with heap:=h',toks:=s.toks+1 }:=I.turned (fun b o hb e=>(sb.2 b hb).trans e) f0 f1 f3 f4 f5
   obtain⟨o,e,c,d⟩:=id st'
   exact⟨_,rfl,A5 (s:={ s with heap:=h',toks:=s.toks+1 }) e c d (by decide) ⟨.str (sg z.cps[i]),H,I1,⟨_,rfl⟩,⟨rfl,_,hx,rfl⟩,st',fun b hb=>(hf b hb).1⟩⟩
 done:=by
  intro X hP hw hK hc i pins s σ H E I hf st hg
  subst hP hw hK
  obtain⟨f0,f1,f2,f3,f4,f5⟩:=hf it (by simp)
  have hi:z.cps.size≤i:=hg
  have hx:z.cps[i]? = none:=by simp[hi]
  cases ha:z.cps.all (· < 128) with
  | true =>
   have et:strIterType z = "str_ascii_iterator" := by simp only[strIterType,ha,if_true]
   rw[et] at st
   exact wpAny_pyNext_ascii_end (I.ok.hd hc) st hx fun h' eb=>⟨rfl,I.turned (t':=s.toks) (fun b o hb e=>eb b o hb e) f0 f1 f3 f4 f5⟩
  | false =>
   have et:strIterType z = "str_iterator" := by simp only[strIterType,ha,Bool.false_eq_true,if_false]
   rw[et] at st
   exact wpAny_pyNext_wide_end (I.ok.hd hc) st hx fun h' eb=>⟨rfl,I.turned (t':=s.toks) (fun b o hb e=>eb b o hb e) f0 f1 f3 f4 f5⟩
 self:=by
  intro A i s Q E st h
  cases ha:z.cps.all (· < 128) with
  | true =>
   have et:strIterType z = "str_ascii_iterator" := by simp only[strIterType,ha,if_true]
   rw[et] at st
   exact wpAny_pyIter_striter_ascii st h
  | false =>
   have et:strIterType z = "str_iterator" := by simp only[strIterType,ha,Bool.false_eq_true,if_false]
   rw[et] at st
   exact wpAny_pyIter_striter_wide st h
section
variable {X:Cx}{tg:Expr}
def WU (tl:TE):TI:=fun σ H R=>tl σ H fun x H1=>∃ z,x=.str z∧R (Pf z) H1
theorem vH {l:Expr}{tl:TE} (hl:PE X l tl):PI X tg l (WU tl):=by
 intro pins s σ H R I h
 refine cH (hl pins s σ H _ I h) fun v s1 ⟨x,H1,I1,r1,q1⟩=>?_
 obtain⟨z,e,q⟩:=q1
 subst e
 obtain⟨t,rfl⟩:=r1
 refine wpAny_pyIter_strU ?_
 refine⟨s1.heap.objs.size,[s1.heap.objs.size],_,_,H1,rfl,I1.kept (t':=s1.toks) fun b o e=>Heap.get?_push_of_some _ e,HC _ z t,⟨_,Heap.get?_push_size _ rfl,rfl,rfl⟩,fun b hb=>?_,q⟩
 have e:b=s1.heap.objs.size:=by simpa using hb
 subst e
 exact I1.zu (Nat.le_refl _) (I1.hok.fresh (Nat.le_refl _))
end
theorem JY {z:Str}{g:TG}{tb:TS}{D:Ends}{σ:St}{H:Hp} (Pv:Nat→St→Hp→Prop) (h0:Pv 0 σ H)
  (hs:∀ i c σ H,z.cps.toList[i]? = some c→Pv i σ H→g (.str (sg c)) σ H fun σ2 H2=>tb { D with nx:=Pv (i+1),ct:=Pv (i+1),bk:=D.nx } σ2 H2) (hd:∀ σ H,Pv z.cps.toList.length σ H→D.nx σ H) :
  ∃ W:Nat→Nat→St→Hp→Prop,(∃ m,W 0 m σ H)∧∀ i m σ H,W i m σ H →
   ((Pf z).stop i H∧D.nx σ H)∨((Pf z).go i H∧∃ N:St→Hp→Prop,(∀ σ' H',N σ' H'→∃ m',m' < m∧W (i+1) m' σ' H')∧∀ x H',(Pf z).Jy i H x H'→g x σ H' fun σ2 H2=>tb { D with nx:=N,ct:=N,bk:=D.nx } σ2 H2):=by
 refine⟨fun i m σ H=>m=z.cps.size - i∧i≤z.cps.size∧Pv i σ H,⟨z.cps.size,by simp,Nat.zero_le _,h0⟩,?_⟩
 rintro i m σ H ⟨rfl,hi,p⟩
 by_cases hlt:i < z.cps.size
 ·refine .inr ⟨hlt,Pv (i+1),fun σ' H' p'=>⟨z.cps.size - (i+1),by omega,rfl,hlt,p'⟩,fun x H' y=>?_⟩
  obtain⟨e,c,hc,ex⟩:=y
  subst e ex
  exact hs i c σ _ (by simpa using hc) p
 ·have e:i=z.cps.size:=by omega
  subst e
  exact .inl ⟨Nat.le_refl _,hd σ H (by simpa using p)⟩
theorem gF {K:W.Frag}{a:Addr}{xs:List V}{g:TG}{tt:TT}{te:TE}{Q:VK}{D:Addr}{τ:St}{H:Hp} (Pv:Nat→List V→St→Hp→Prop) (h0:Pv 0 [] τ (upd H D (.lst [])))
  (hl:∀ i ys τ H,i≤xs.length→Pv i ys τ H→bE K H a xs∧H D=some (.lst ys))
  (hs:∀ i x ys τ H,xs[i]? = some x→Pv i ys τ H→g x τ H fun τ2 H2=>tt τ2 H2 fun b H3=>if b=true then te τ2 H3 fun y H4=>H4 D=some (.lst ys)∧ys.length < sizeLine∧Pv (i+1) (ys++[y]) τ2 (upd H4 D (.lst (ys++[y]))) else Pv (i+1) ys τ2 H3)
  (hd:∀ ys τ H,Pv xs.length ys τ H→Q (.ref D) H) :
  Bb (Pb K a) g tt te Q D τ H:=by
 refine⟨fun i m ys τ H=>m=xs.length - i∧i≤xs.length∧Pv i ys τ H,⟨xs.length,by simp,Nat.zero_le _,h0⟩,?_⟩
 rintro i m ys τ H ⟨rfl,hi,p⟩
 obtain⟨q,hD⟩:=hl i ys τ H hi p
 refine⟨hD,?_⟩
 by_cases hlt:i < xs.length
 ·refine .inr ⟨⟨xs,xs[i],q,by simp[hlt]⟩,Pv (i+1),fun zs σ' H' p'=>⟨xs.length - (i+1),by omega,rfl,hlt,p'⟩,fun x H' y=>?_⟩
  obtain⟨e,y⟩:=y
  subst e
  exact hs i x ys τ _ (y xs q) p
 ·have e:i=xs.length:=by omega
  subst e
  exact .inl ⟨⟨xs,q,Nat.le_refl _⟩,hd ys τ H p⟩
theorem qB {z:Str}{g:TG}{tt:TT}{te:TE}{Q:VK}{D:Addr}{τ:St}{H:Hp} (Pv:Nat→List V→St→Hp→Prop) (h0:Pv 0 [] τ (upd H D (.lst [])))
  (hl:∀ i ys τ H,i≤z.cps.toList.length→Pv i ys τ H→H D=some (.lst ys))
  (hs:∀ i c ys τ H,z.cps.toList[i]? = some c→Pv i ys τ H→g (.str (sg c)) τ H fun τ2 H2=>tt τ2 H2 fun b H3=>if b=true then te τ2 H3 fun y H4=>H4 D=some (.lst ys)∧ys.length < sizeLine∧Pv (i+1) (ys++[y]) τ2 (upd H4 D (.lst (ys++[y]))) else Pv (i+1) ys τ2 H3)
  (hd:∀ ys τ H,Pv z.cps.toList.length ys τ H→Q (.ref D) H) :
  Bb (Pf z) g tt te Q D τ H:=by
 have hz:z.cps.toList.length=z.cps.size:=by simp
 refine⟨fun i m ys τ H=>m=z.cps.size - i∧i≤z.cps.size∧Pv i ys τ H,⟨z.cps.size,by simp,Nat.zero_le _,h0⟩,?_⟩
 rintro i m ys τ H ⟨rfl,hi,p⟩
 refine⟨hl i ys τ H (by omega) p,?_⟩
 by_cases hlt:i < z.cps.size
 ·refine .inr ⟨hlt,Pv (i+1),fun zs σ' H' p'=>⟨z.cps.size - (i+1),by omega,rfl,hlt,p'⟩,fun x H' y=>?_⟩
  obtain⟨e,c,hc,ex⟩:=y
  subst e ex
  exact hs i c ys τ _ (by simpa using hc) p
 ·have e:i=z.cps.size:=by omega
  subst e
  exact .inl ⟨Nat.le_refl _,hd ys τ H (by rw[hz];exact p)⟩
theorem vI {lo:Int}{n:Nat}{g:TG}{tt:TT}{te:TE}{Q:VK}{D:Addr}{τ:St}{H:Hp} (Pv:Nat→List V→St→Hp→Prop) (h0:Pv 0 [] τ (upd H D (.lst [])))
  (hl:∀ i ys τ H,i≤n→Pv i ys τ H→H D=some (.lst ys))
  (hs:∀ i ys τ H,i < n→Pv i ys τ H→g (.int (lo+i)) τ H fun τ2 H2=>tt τ2 H2 fun b H3=>if b=true then te τ2 H3 fun y H4=>H4 D=some (.lst ys)∧ys.length < sizeLine∧Pv (i+1) (ys++[y]) τ2 (upd H4 D (.lst (ys++[y]))) else Pv (i+1) ys τ2 H3)
  (hd:∀ ys τ H,Pv n ys τ H→Q (.ref D) H) :
  Bb (Mt lo n) g tt te Q D τ H:=by
 refine⟨fun i m ys τ H=>m=n - i∧i≤n∧Pv i ys τ H,⟨n,by simp,Nat.zero_le _,h0⟩,?_⟩
 rintro i m ys τ H ⟨rfl,hi,p⟩
 refine⟨hl i ys τ H hi p,?_⟩
 by_cases hlt:i < n
 ·refine .inr ⟨hlt,Pv (i+1),fun zs σ' H' p'=>⟨n - (i+1),by omega,rfl,hlt,p'⟩,fun x H' y=>?_⟩
  obtain⟨e,y⟩:=y
  subst e y
  exact hs i ys τ _ hlt p
 ·have e:i=n:=by omega
  subst e
  exact .inl ⟨Nat.le_refl _,hd ys τ H p⟩
section
variable {X:Cx}
theorem Bc:gP X (.builtin "isinstance") (fun xs H Q=>∃ x c t b,xs=[x,c]∧ny X.K H x t∧((∃ n,c=.ty n∧W.kitOne X.K t (.type n)=some b)∨(∃ a,c=.ref a∧W.kitOne X.K t (.ref a)=some b))∧Q (.bl b) H):=by
 intro pins s σ H xs us Q I r h
 obtain⟨x,c,t,b,rfl,ty,hc,q⟩:=h
 obtain⟨u,w',rfl,ru,rw'⟩:=vals2 r
 rcases hc with ⟨n,rfl,e⟩ | ⟨a,rfl,e⟩
 ·cases rw'
  exact yC I ru ty e fun tk=>⟨.bl b,H,I.tok tk,rfl,q⟩
 ·cases rw'
  exact yC I ru ty e fun tk=>⟨.bl b,H,I.tok tk,rfl,q⟩
end
theorem MO (c:Nat):(sg c).length=1:=rfl
theorem JZ (a b:List Nat):(⟨a.toArray⟩:Str)++(⟨b.toArray⟩:Str)=⟨(a++b).toArray⟩:=by
 show Str.mk (a.toArray++b.toArray)=_
 simp
section
variable {X:Cx}
def Qz (K:W.Frag):R2:=fun x y H Q=>∃ a b xs,x=.ref a∧y=.ref b∧bE K H a xs∧bE K H b []∧Q (.bl (!xs.isEmpty)) H
theorem MP (hu:X.A.units < cLine):lO X (compareOp .NotEq) (Qz X.K):=by
 intro pins s σ H x y v u Q I rx ry h
 obtain⟨a,b,xs,rfl,rfl,ha,hb,q⟩:=h
 cases rx
 cases ry
 obtain⟨its,r1,p1,_⟩:=I.list ha
 obtain⟨its2,r2,p2,_⟩:=I.list hb
 cases r2
 show wpAny _ _ (richCompare .NotEq (.ref a) (.ref b)) _ _ _
 cases xs with
 | nil =>
  cases r1
  refine SeqAt.RcNeAt.lists (e:=fun _=>true) p1.isList p2.isList rfl hu (fun j h1 _=>absurd h1 (by simp)) _ _ _ _ ⟨.bl false,H,I,?_,q⟩
  simp[RelV]
 | cons x xs =>
  cases r1 with
  | cons r rr =>
   exact SeqAt.RcNeAt.lists_lengths p1.isList p2.isList (by simp) hu _ _ _ _ ⟨.bl true,H,I,rfl,q⟩
end
section
variable {X:Cx} (K:W.Frag) (h:X.K=K)
include h
theorem HD:Pd X (MD K):=by subst h;exact JS
theorem J4:Pd X (ME K):=by subst h;exact MF
theorem vJ:WI X (Qq K):=by subst h;exact JT
theorem bO:gP X (.builtin "len") (fun xs H Q=>∃ p ys,xs=[.ref p]∧(bE K H p ys∨cB K H p ys)∧Q (.int ys.length) H):=by subst h;exact zA
theorem cy:gP X (.builtin "isinstance") (fun xs H Q=>∃ x c t b,xs=[x,c]∧ny K H x t∧((∃ n,c=.ty n∧W.kitOne K t (.type n)=some b)∨(∃ a,c=.ref a∧W.kitOne K t (.ref a)=some b))∧Q (.bl b) H):=by subst h;exact Bc
theorem vK:gP X (.type "tuple") (fun xs H Q=>∃ p ys,xs=[.ref p]∧((bE K H p ys∧∀ l,H l=none→Q (.ref l) (upd H l (.tup ys)))∨(cB K H p ys∧Q (.ref p) H))):=by subst h;exact xJ
theorem Eb (hu:X.A.units < cLine):lO X (compareOp .NotEq) (Qz K):=by subst h;exact MP hu
theorem cC {tg l:Expr}{tl:TE} (hl:PE X l tl):PI X tg l (LB K tl):=by subst h;exact JL hl
theorem J5 {tg l:Expr}{tl:TE} (hl:PE X l tl):PI X tg l (Qa K tl):=by subst h;exact Mu hl
theorem vf {es:List Expr}{k:Nat}{pos:Pos}{t:LA} (n:Nat) (hc:X.calm=true) (hh:P6 X es t)
 (hn:(assignEach es X.env).length=n:=by rfl) (hst:(assignEach es X.env).findIdx? (·.1)=none:=by rfl):PG X (.Tuple es k pos) (P8 K n t):=by subst h;exact Mr hc hh hn hst
theorem aO {e:Expr}{ta:TE}{f:Str}{pos:Pos} (he:PE X e ta) (hb:attributeBase e f X.env (eval e X.env)=eval e X.env):PE X (.Attribute e f pos) (Qk K ta f):=by subst h;exact MA he hb
theorem nC {o e:Expr}{es:List Expr}{to:TE}{t:TA}{name:Str}{apos cpos:Pos}{T id:String}{r:V→List V→Hp→VK→Prop} (pa:PlainAttrs T) (slot:Slot T name id) (hty:typeOf (.builtin id)=pure (.type "method_descriptor")) (hm:WJ X id r) (ho:PE X o to) (ha:PA X (e :: es) t)
 (hbase:attributeBase o name X.env (eval o X.env)=eval o X.env:=by rfl)
 (hfew:((backTo cpos (starEach (e :: es) X.env)).all (fun x=>!x.1) && (backToKw cpos (keywordEach [] X.env)).all (fun x=>x.1.isSome)
  && decide ((e :: es).length+([]:List Keyword).length+(if ([]:List Keyword).isEmpty then 0 else 1) < 30))=true:=by rfl)
 (hline:(apos.endLine == cpos.line)=true:=by rfl) (hs:starEach (e :: es) X.env=(false,eval e X.env) :: starEach es X.env:=by rfl) (hplain:(backTo cpos (starEach es X.env)).any (·.1)=false:=by rfl) :
 PE X (.Call (.Attribute o name apos) (e :: es) [] cpos) (tBM K T r to t):=by subst h;exact Qt pa slot hty hm ho ha hbase hfew hline hs hplain
end
section
variable {X:Cx}
theorem lQ {x:Str}{z:Str}{t:Tok}{pos:Pos} (hg:Gl X x) (hm:X.mg x=some (.str z t)) (hd:(x == ("__debug__" : Str))=false:=by decide):PE X (.Name x pos) (tC (.str z)):=zo hg hm ⟨t,rfl⟩ hd
theorem f9 {x:Str}{a:Addr}{pos:Pos} (hg:Gl X x) (hm:X.mg x=some (.ref a)) (hd:(x == ("__debug__" : Str))=false:=by decide):PE X (.Name x pos) (tC (.ref a)):=zo hg hm rfl hd
theorem MQ (n:String) {x:Str}{pos:Pos} (hg:Gl X x) (hm:X.mg x=none) (hv:bootBuiltins x=some (.type n)) (hn:x ≠ "__name__" := by decide) (hd:(x == ("__debug__" : Str))=false:=by decide):PE X (.Name x pos) (tC (.ty n)):=JI hg hm hv rfl hn hd
end
structure HE (K:W.Frag) (x qual:Str) (st:Stmt) (f:Addr) (fd:FuncData) (dV:Value):Prop where
 ex:∃(oc:Value) (od:Option Addr) (kV doc pm:Value) (an:Option Addr) (cdv ct:Value) (osl:Array (Option Value)),
  fd=W.fnOf x qual (cK st) (bX st) (av st) dV kV doc pm an cdv ct∧K.lookup f=some ⟨oc,od,.func fd,osl⟩∧W.codeIn K cdv qual=true
 kp:W.keepIn K (.ref f)=true
section
variable {P:Program}{w:World}{K:W.Frag}{mg:Str→Option Value}{base:Heap}
theorem HE.ok {x qual:Str}{st:Stmt}{f:Addr}{fd:FuncData}{dV:Value}{N ps:List Str}{k:Nat}{sp:Sp} (F:HE K x qual st f fd dV) (S:aH N ps (av st)) (len:∀ vs H Q E,sp vs H Q E→vs.length=ps.length)
  (hbody:∀(cdv:Value) (A:Around) (outer:List Env) (s:Shared) (H:Hp) (vs:List V) (Q:VK) (E:XK),fR k (A.deeper (envOfC qual (av st) s.heap.objs.size f cdv))→sp vs H Q E →
   ∃ t,AZ (vE bN P w K mg base N qual (av st) f cdv A outer s H E).Lz (bX st) t∧t { nx:=fun _ H'=>Q .non H',rt:=Q } (start N vs) H):aI P w K mg base bN (k+1) f fd ps sp:=by
 obtain⟨oc,od,kV,doc,pm,an,cdv,ct,osl,rfl,lk,hcd⟩:=F.ex
 refine Hr lk hcd S len fun A outer s H vs Q E hr GR=>?_
 obtain⟨t,h,q⟩:=hbody cdv A outer s H vs Q E hr GR
 exact⟨t,h.Lz,q⟩
theorem Ec {x qual:Str}{st:Stmt}{f:Addr}{oc dV:Value}{od an:Option Addr}{osl:Array (Option Value)}{kV doc pm cdv ct:Value} (l:K.lookup f=some ⟨oc,od,.func (W.fnOf x qual (cK st) (bX st) (av st) dV kV doc pm an cdv ct),osl⟩)
 (c:W.codeIn K cdv qual=true) (k:W.keepIn K (.ref f)=true):HE K x qual st f (W.fnOf x qual (cK st) (bX st) (av st) dV kV doc pm an cdv ct) dV:=⟨⟨oc,od,kV,doc,pm,an,cdv,ct,osl,rfl,l,c⟩,k⟩
end
section
variable {X:Cx}
theorem tF:∀{bs:List Bool}{us:List Value}{i:Nat}{u:Value},Vals (bs.map V.bl) us→us[i]? = some u→u=.bool (bs.getD i true)
 | [],_,_,_,r,e=>by cases r;simp at e
 | b :: bs,_,i,u,r,e=>by
  cases r with
  | cons r1 r2 =>
   cases i with
   | zero=>simp at e;subst e;exact r1
   | succ i=>simp at e;simpa using tF r2 e
theorem all_range (bs:List Bool):((List.range bs.length).all fun i=>bs.getD i true)=bs.all id:=by
 rw[Bool.eq_iff_iff,List.all_eq_true,List.all_eq_true]
 constructor
 ·intro h b hb
  obtain⟨i,hi,rfl⟩:=List.mem_iff_getElem.mp hb
  have:=h i (by simpa using hi)
  simpa [List.getD,hi] using this
 ·intro h i hi
  have hi':i < bs.length:=by simpa using hi
  have:=h bs[i] (List.getElem_mem hi')
  simpa [List.getD,hi'] using this
def QA (K:W.Frag):List V→Hp→VK→Prop:=fun xs H Q=>∃(p:Addr) (bs:List Bool),xs=[.ref p]∧bE K H p (bs.map V.bl)∧Q (.bl (bs.all id)) H
theorem HF (hc:X.calm=true):gP X (.builtin "all") (QA X.K):=by
 intro pins s σ H xs us Q I r h
 obtain⟨p,bs,rfl,hq,q⟩:=h
 obtain⟨u,rfl,ru⟩:=vals1 r
 cases ru
 obtain⟨its,rv,pl,hz⟩:=I.list hq
 have hlen:=rv.length
 rw[List.length_map] at hlen
 have hpl:p < s.heap.objs.size:=by obtain⟨o,ho,_⟩:=pl.isList;exact Heap.lt_size ho
 refine call_all_walk (wpAny_pyIter_list pl.isList ⟨s.heap.objs.size,_,_,_,_,_,fun i=>bs.getD i true,rfl,Walks.list (A:=X.A.in1) (show X.A.in1.handled=none from I.ok.hd hc) s.heap.objs.size p (Nat.ne_of_lt hpl) its.toArray,⟨⟨_,Heap.get?_push_size _ rfl,rfl,rfl⟩,pl.isList.at fun o e=>Heap.get?_push_of_some _ e⟩,?_,?_⟩)
 ·intro i v s' Q' E' hv hq'
  have e:its[i]? = some v:=by simpa using hv
  rw[tF rv e]
  exact wpAny_truthy_bool hq'
 ·intro h' tk hk
  have f0:=I.zu (Nat.le_refl s.heap.objs.size) (I.hok.fresh (Nat.le_refl _))
  have I2:Inv X pins σ H { s with heap:=s.heap.push { cls:=.type "list_iterator",data:=.fields #[.ref p,rawInt 0] } }:=I.kept (t':=s.toks) fun b o e=>Heap.get?_push_of_some _ e
  have I3:=I2.turned (h':=h') (t':=tk) (it:=s.heap.objs.size) (fun b o hb e=>hk b o (by simpa using hb) e) f0.1 f0.2.1 f0.2.2.2.1 f0.2.2.2.2.1 f0.2.2.2.2.2
  refine⟨.bl (bs.all id),H,I3,?_,q⟩
  show Value.bool _=Value.bool _
  rw[List.size_toArray,←hlen,all_range]
theorem oR (K:W.Frag) (h:X.K=K) (hc:X.calm=true):gP X (.builtin "all") (QA K):=by subst h;exact HF hc
def MR:V→List V→Hp→VK→Prop:=fun x vs H Q=>∃(z:Str) (c:Nat),x=.str z∧vs=[.str (sg c)]∧Q (.int (PyProof.Rows.cnt c z.cps.toList)) H
theorem HG:WJ X "str.count" MR:=by
 intro pins s σ H x vs v us Q I rx rv h
 obtain⟨z,c,rfl,rfl,q⟩:=h
 obtain⟨t,rfl⟩:=rx
 obtain⟨u,rfl,ru⟩:=rv.one
 obtain⟨t',rfl⟩:=ru
 exact SC.count ⟨.int _,H,I.tok _,⟨_,rfl⟩,by
  have e:Txt.count z (sg c)=PyProof.Rows.cnt c z.cps.toList:=PyProof.Rows.count_is z c
  rw[e];exact q⟩
theorem Ed:∀{l:List Nat}{c:Nat},l.Nodup→c∈l→PyProof.Rows.cnt c l=1
 | [],_,_,h=>by cases h
 | n :: r,c,nd,h=>by
  rw[PyProof.Rows.cnt_cons]
  obtain⟨n1,n2⟩:=List.nodup_cons.mp nd
  by_cases e:n=c
  ·subst e
   rw[if_pos rfl,PyProof.Rows.cnt_none _ _ n1];rfl
  ·rw[if_neg e,Ed n2 ((List.mem_cons.mp h).resolve_left (Ne.symm e))];rfl
theorem Bd:∀{x:V},tE x=true→Qs x x=true
 | .non,_=>rfl
 | .bl b,_=>by cases b <;> rfl
 | .int i,_=>by simp[Qs]
 | .str z,_=>by simp[Qs]
end
inductive pF (K:W.Frag) (H:Hp):Nat→V→V→Prop where
 | flat {n:Nat}{x y:V}:tE x=true→tE y=true→Qs x y=true→pF K H n x y
 | ref {n:Nat}{a:Addr}:pF K H n (.ref a) (.ref a)
 | tup {n:Nat}{a b:Addr}{xs ys:List V}:cB K H a xs→cB K H b ys→xs.length=ys.length→(∀(j:Nat) x y,xs[j]? = some x→ys[j]? = some y→pF K H n x y)→pF K H (n+1) (.ref a) (.ref b)
 | lst {n:Nat}{a b:Addr}{xs ys:List V}:bE K H a xs→bE K H b ys→xs.length=ys.length→(∀(j:Nat) x y,xs[j]? = some x→ys[j]? = some y→pF K H n x y)→pF K H (n+1) (.ref a) (.ref b)
theorem all_true (n:Nat):(List.range n).all (fun _=>true)=true:=by rw[List.all_eq_true];intro _ _;rfl
section
variable {X:Cx}{pins:List (Addr×Obj)}{σ:St}{H:Hp}{s:Shared}
theorem lR {A:Around}{R:V→V→Prop}{xs ys:List V}{us ws:List Value} (r1:Vals xs us) (r2:Vals ys ws) (h:∀(j:Nat) x y u w,xs[j]? = some x→ys[j]? = some y→RelV x u→RelV y w→SeqAt.EqAt A s u w true) (j:Nat) (h1:j < us.toArray.size) (h2:j < ws.toArray.size) :
  SeqAt.EqAt A s us.toArray[j] ws.toArray[j] true:=by
 have hl1:=r1.length
 have hl2:=r2.length
 have hj1:j < xs.length:=by rw[hl1];simpa using h1
 have hj2:j < ys.length:=by rw[hl2];simpa using h2
 obtain⟨u,eu,ru⟩:=r1.get (i:=j) (x:=xs[j]) (by simp[hj1])
 obtain⟨w,ew,rw'⟩:=r2.get (i:=j) (x:=ys[j]) (by simp[hj2])
 have e1:us.toArray[j]=u:=by
  obtain⟨_,q⟩:=List.getElem?_eq_some_iff.mp eu
  simpa using q
 have e2:ws.toArray[j]=w:=by
  obtain⟨_,q⟩:=List.getElem?_eq_some_iff.mp ew
  simpa using q
 rw[e1,e2]
 exact h j _ _ u w (by simp[hj1]) (by simp[hj2]) ru rw'
theorem yJ (I:Inv X pins σ H s) {n:Nat}{x y:V} (h:pF X.K H n x y):∀{A:Around}{u v:Value},A.units+n < cLine→RelV x u→RelV y v→SeqAt.EqAt A s u v true:=by
 induction h with
 | flat f1 f2 e=>intro A u v _ ru rv;rw[←e];exact MH ru rv f1 f2
 | ref=>intro A u v _ ru rv;cases ru;cases rv;exact SeqAt.EqAt.same _
 | @tup n a b xs ys ha hb hl _ ih =>
  intro A u v hu ru rv
  cases ru;cases rv
  by_cases e:a=b
  ·subst e;exact SeqAt.EqAt.same _
  ·obtain⟨its,r1,p1,_⟩:=I.tuple ha
   obtain⟨its2,r2,p2,_⟩:=I.tuple hb
   refine SeqAt.EqAt.of_refs e ?_
   have q:=SeqAt.RcAt.tuples (A:=A) (e:=fun _=>true) p1 p2 (by omega) fun j h1 h2=>lR (R:=fun _ _=>True) r1 r2 (fun j x y u w ex ey ru rw'=>ih j x y ex ey (by show A.units+1+n < cLine;omega) ru rw') j h1 h2
   have e2:((List.range (min its.toArray.size its2.toArray.size)).all (fun _=>true) && its.toArray.size == its2.toArray.size)=true:=by
    rw[all_true,List.size_toArray,List.size_toArray,←r1.length,←r2.length,hl];simp
   rw[e2] at q
   exact q
 | @lst n a b xs ys ha hb hl _ ih =>
  intro A u v hu ru rv
  cases ru;cases rv
  by_cases e:a=b
  ·subst e;exact SeqAt.EqAt.same _
  ·obtain⟨its,r1,p1,_⟩:=I.list ha
   obtain⟨its2,r2,p2,_⟩:=I.list hb
   refine SeqAt.EqAt.of_refs e ?_
   have q:=SeqAt.RcAt.lists (A:=A) (e:=fun _=>true) p1.isList p2.isList (by rw[List.size_toArray,List.size_toArray,←r1.length,←r2.length,hl]) (by omega) fun j h1 h2=>lR (R:=fun _ _=>True) r1 r2 (fun j x y u w ex ey ru rw'=>ih j x y ex ey (by show A.units+1+n < cLine;omega) ru rw') j h1 h2
   rw[all_true] at q
   exact q
end
section
variable {X:Cx}
def TopD (K:W.Frag) (H:Hp) (x y:V):Prop:=∃(n:Nat) (a b:Addr) (xs ys:List V),x=.ref a∧y=.ref b∧n≤50∧xs.length=ys.length∧((cB K H a xs∧cB K H b ys)∨(bE K H a xs∧bE K H b ys))∧∀(j:Nat) x y,xs[j]? = some x→ys[j]? = some y→pF K H n x y
def MS (K:W.Frag):R2:=fun x y H Q=>TopD K H x y∧Q (.bl false) H
theorem MT (K:W.Frag) (hK:X.K=K) (hu:X.A.units+64 < cLine):lO X (compareOp .NotEq) (MS K):=by
 subst hK
 intro pins s σ H x y v u Q I rx ry h
 obtain⟨⟨n,a,b,xs,ys,rfl,rfl,hn,hl,hk,hs⟩,q⟩:=h
 cases rx;cases ry
 show wpAny _ _ (richCompare .NotEq (.ref a) (.ref b)) _ _ _
 rcases hk with ⟨ha,hb⟩ | ⟨ha,hb⟩
 ·obtain⟨its,r1,p1,_⟩:=I.tuple ha
  obtain⟨its2,r2,p2,_⟩:=I.tuple hb
  refine SeqAt.RcNeAt.tuples (e:=fun _=>true) p1 p2 (by omega) (fun j h1 h2=>lR (R:=fun _ _=>True) r1 r2 (fun j x y u w ex ey ru rw'=>yJ I (hs j x y ex ey) (by show X.A.units+1+n < cLine;omega) ru rw') j h1 h2) _ _ _ _ ⟨.bl false,H,I,?_,q⟩
  show Value.bool _=Value.bool _
  rw[all_true,List.size_toArray,List.size_toArray,←r1.length,←r2.length,hl];simp
 ·obtain⟨its,r1,p1,_⟩:=I.list ha
  obtain⟨its2,r2,p2,_⟩:=I.list hb
  refine SeqAt.RcNeAt.lists (e:=fun _=>true) p1.isList p2.isList (by rw[List.size_toArray,List.size_toArray,←r1.length,←r2.length,hl]) (by omega) (fun j h1 h2=>lR (R:=fun _ _=>True) r1 r2 (fun j x y u w ex ey ru rw'=>yJ I (hs j x y ex ey) (by show X.A.units+1+n < cLine;omega) ru rw') j h1 h2) _ _ _ _ ⟨.bl false,H,I,?_,q⟩
  show Value.bool _=Value.bool _
  rw[all_true];rfl
def MU (K:W.Frag):List V→Hp→VK→Prop:=fun xs H Q=>∃(a:Addr) (c:String) (ys:List V) (b:Bool),xs=[.ref a,.ty c]∧((cB K H a ys∧W.kitOne K (.type "tuple") (.type c)=some b)∨(bE K H a ys∧W.kitOne K (.type "list") (.type c)=some b))∧Q (.bl b) H
theorem Be (K:W.Frag) (hK:X.K=K):gP X (.builtin "isinstance") (MU K):=by
 subst hK
 intro pins s σ H xs us Q I r h
 obtain⟨a,c,ys,b,rfl,hk,q⟩:=h
 obtain⟨u,w',rfl,ru,rw'⟩:=vals2 r
 cases ru;cases rw'
 have fin:∀ tk,EP X pins σ Q (.bool b) { s with toks:=tk }:=fun tk=>⟨.bl b,H,I.tok tk,rfl,q⟩
 rcases hk with ⟨ha,e⟩ | ⟨ha,e⟩
 ·obtain⟨its,r1,p1,_⟩:=I.tuple ha
  obtain⟨o,h1,h2,_⟩:=p1
  exact W.kia_one W.kitx_tuple I.lJ ⟨o,h1,h2⟩ e (fun z=>nomatch z) fin
 ·obtain⟨its,r1,p1,_⟩:=I.list ha
  obtain⟨o,h1,h2,_⟩:=p1.isList
  exact W.kia_one W.kitx_list I.lJ ⟨o,h1,h2⟩ e (fun z=>nomatch z) fin
end
section
variable {X:Cx}
theorem vg {x:Str}{z:Int}{t:Tok}{pos:Pos} (hg:Gl X x) (hm:X.mg x=some (.int z t)) (hd:(x == ("__debug__" : Str))=false:=by decide):PE X (.Name x pos) (tC (.int z)):=zo hg hm ⟨t,rfl⟩ hd
end
section
variable {X:Cx}{CX:EM}{k:Nat}{f C:Addr}{fd:FuncData}{ps ks:List Str}{sp:Sp}{E:XK}{x m:Str}{p pos apos kpos:Pos}{e o:Expr}{es:List Expr}{kws:List Keyword}{te ta:TE}{t tk:TA}{nm:Option Str}
 {g:List Value→List Value→List Value}{gV:List V→List V→List V}
end
section
variable {X:Cx}{pins:List (Addr×Obj)}{σ:St}{H:Hp}{s:Shared}
end
section
variable {X:Cx}
end
section
variable {X:Cx}{pins:List (Addr×Obj)}{σ:St}{H:Hp}{s:Shared}{h':Heap}
theorem Inv.Ef {t':Nat}{wr:List Addr} (I:Inv X pins σ H s) (k:∀ b o,b∉wr→s.heap.get? b=some o→h'.get? b=some o) (hf:∀ it∈wr,qy X pins H it):Inv X pins σ H { s with heap:=h',toks:=t' }:=by
 have PU:∀ b u,H b=some u→b∉wr:=fun b u e z=>by rw[(hf b z).1] at e;cases e
 have hL:X.env.locals∉wr:=fun z=>(hf _ z).2.1 rfl
 refine I.step (g':=s.gens) (d':=s.drawn) (ch:=wr) (fun b hb=>?_) (fun b o _ _ hc e _=>k b o hc e) (fun b o _ _ hc e _=>⟨o.slots,k b o hc e⟩) (fun _ _ _ _ n=>n)
  (fun b o hc e=>⟨o,k b o hc e⟩) (fun _ _ e=>e) (fun _ _ _ e=>e) (fun b ps e=>⟨#[],by rw[e];simp⟩) (fun m hm=>?_) (fun b u e=>?_) I.bare
 ·obtain⟨f0,f1,f2,f3,f4,f5⟩:=hf b hb
  exact⟨f3,f1,f4,f5⟩
 ·obtain⟨o,es,ep,ho,r⟩:=hm
  exact⟨o,es,ep,k _ o hL ho,r⟩
 ·refine(I.hok b u e).stay (fun c v hc q=>k c v ?_ q) (fun _ q=>q) fun _ _ q=>q
  rcases hc with z | z
  ·rw[z];exact PU b u e
  ·exact PU c _ z
end
def hmid (h h2:Heap):Heap:=⟨h.objs++(h2.objs.toList.drop h.objs.size).toArray,h2.life⟩
theorem HH {h h2:Heap}{a:Addr} (ha:a < h.objs.size):(hmid h h2).get? a=h.get? a:=by
 have e:(hmid h h2).objs[a]? = h.objs[a]? := Array.getElem?_append_left ha
 unfold Heap.get?
 rw[e]
theorem HJ {h h2:Heap}{a:Addr} (ha:h.objs.size≤a):(hmid h h2).get? a=h2.get? a:=by
 have e:(hmid h h2).objs[a]? = h2.objs[a]? := by
  show(h.objs++(h2.objs.toList.drop h.objs.size).toArray)[a]? = _
  rw[Array.getElem?_append_right ha,List.getElem?_toArray,List.getElem?_drop,Array.getElem?_toList]
  congr 1
  omega
 unfold Heap.get?
 rw[e]
theorem EW {X:Cx}{pins:List (Addr×Obj)}{σ:St}{H:Hp}{s:Shared}{E:Value→Shared→Prop}{it:Addr}{WV wr fp:List Addr}{n:Nat}{Pt:Nat→Array Value→Prop}{Pg:Nat→Heap→Prop}{Mid:Nat→Addr→Heap→Prop}{elts:List Expr}{k:Nat}{pos:Pos}{J:It}{tn:Nat→Heap→Prop}{i:Nat}
  (W:WalksT X.prog X.w X.A it WV wr n Pt Pg Mid) (I:Inv X pins σ H s) (hfp:∀ b∈fp,qy X pins H b) (hwr:∀ b∈wr,b∈fp) (hsz:∀ b∈fp,b < s.heap.objs.size) (hi:i < n) (hst:Pg i s.heap)
  (hv:∀ vals,Pt i vals→∃ vs:List V,vs.length≤sizeLine∧Vals vs vals.toList∧∀ T,H T=none→J.Jy i H (.ref T) (upd H T (.tup vs))) (htn:∀ h,Pg (i+1) h→tn (i+1) h) :
  wpAny (model X.prog X.w) X.A (pyNext (.ref it)) (fun r s1=>∃ u,r=some u ∧
   wpAny (model X.prog X.w) X.A (letOwnedTupleGo (.Tuple elts k pos) (.ref it) u) (fun _ s2=>∃ x H',Inv X pins σ H' s2∧RelV x u∧J.Jy i H x H'∧tn (i+1) s2.heap∧∀ b∈fp,H' b=none) E s1) E s:=by
 refine W.item i s _ E hi hst fun T vals h1 tk hPt hT WW QB hk=>⟨.ref T,rfl,?_⟩
 have hap:=W.apart i T h1 QB
 refine W.go elts k pos i T _ _ E QB fun h2 hSt hk2=>?_
 obtain⟨vs,hlen,QC,hy⟩:=hv vals hPt
 have hTn:H T=none:=I.hok.fresh hT
 obtain⟨o,ho,hoc,m,hod⟩:=WW
 have ho2:h2.get? T=some o:=hk2 T o hap ho
 have I1:Inv X pins σ (upd H T (.tup vs)) { s with heap:=hmid s.heap h2,toks:=tk }:=by
  refine I.laid (fun b u e=>(HH (Heap.lt_size e)).trans e) hT ?_
  refine⟨hlen,vals.toList,QC,⟨o,(HJ hT).trans ho2,hoc,m,?_⟩⟩
  rw[hod]
 have hne:∀ b∈fp,b≠T:=fun b hb e=>by
  have:=hsz b hb
  rw[e] at this
  exact absurd this (Nat.not_lt.mpr hT)
 have I2:=I1.Ef (h':=h2) (t':=tk) (wr:=wr) (fun b ob hb e=>?_) (fun b hb=>?_)
 ·exact⟨.ref T,_,I2,rfl,hy T hTn,htn _ hSt,fun b hb=>(aB (hne b hb)).trans (hfp b hb).1⟩
 ·by_cases hlt:b < s.heap.objs.size
  ·have e:s.heap.get? b=some ob:=(HH hlt).symm.trans e
   exact hk2 b ob hb (hk b ob hb e)
  ·exact(HJ (Nat.le_of_not_lt hlt)).symm.trans e
 ·have f:=hfp b (hwr b hb)
  exact⟨(aB (hne b (hwr b hb))).trans f.1,f.2⟩
theorem EX {X:Cx}{pins:List (Addr×Obj)}{σ:St}{H:Hp}{s:Shared}{E:Value→Shared→Prop}{it:Addr}{WV wr fp:List Addr}{n:Nat}{Pt:Nat→Array Value→Prop}{Pg:Nat→Heap→Prop}{Mid:Nat→Addr→Heap→Prop}
  (W:WalksT X.prog X.w X.A it WV wr n Pt Pg Mid) (I:Inv X pins σ H s) (hfp:∀ b∈fp,qy X pins H b) (hwr:∀ b∈wr,b∈fp) (hst:Pg n s.heap) :
  wpAny (model X.prog X.w) X.A (pyNext (.ref it)) (fun r s1=>r=none∧Inv X pins σ H s1) E s :=
 W.done s _ E hst fun h1 tk hk=>⟨rfl,I.Ef (h':=h1) (t':=tk) (wr:=wr) hk fun b hb=>hfp b (hwr b hb)⟩
def Ph (K:W.Frag) (a:Addr):It :=
 ⟨fun i H=>∃ xs x,bE K H a xs∧xs[i]? = some x,
  fun i H v H'=>∃ t x,H t=none∧v=.ref t∧H'=upd H t (.tup [.int i,x])∧∀ xs,bE K H a xs→xs[i]? = some x,
  fun i H=>∃ xs,bE K H a xs∧xs.length=i⟩
theorem EY {P:Program}{w:World}{K:W.Frag}{elts:List Expr}{k:Nat}{pos:Pos}{e it l:Addr} (hei:e≠it) (hle:l≠e) (hli:l≠it) :
  Turn P w K (.Tuple elts k pos) (Ph K l) [e,it] e (fun i h=>(∃ old,IsEnum h e it i old)∧h.IsListIter it l i) where
 mem:=by simp
 obj:=fun i h st b hb=>by
  obtain⟨⟨old,he⟩,⟨o1,e1,c1,d1⟩⟩:=st
  simp only[List.mem_cons,List.mem_nil_iff,or_false] at hb
  rcases hb with rfl | rfl
  ·exact⟨_,he,fun v q=>by cases q⟩
  ·exact⟨_,e1,fun v q=>by rw[d1] at q;cases q⟩
 keep:=fun i h h' st k=>by
  obtain⟨⟨old,he⟩,q1⟩:=st
  exact⟨⟨old,k e (by simp) _ he⟩,q1.at fun o x=>k it (by simp) o x⟩
 item:=by
  intro X hP hw hK hc i pins s σ H E I hf st hg
  subst hP hw hK
  obtain⟨xs,x,hx,ex⟩:=hg
  obtain⟨its,rv,p,hz⟩:=I.list hx
  obtain⟨u,hu,ru⟩:=rv.get ex
  obtain⟨s1,s2⟩:=id st
  have W:=WalksT.enumerate (prog:=X.prog) (w:=X.w) (A:=X.A) (I.ok.hd hc) e it l hei hle hli its.toArray
  refine EW (J:=Ph X.K l) (tn:=fun i h=>(∃ old,IsEnum h e it i old)∧h.IsListIter it l i) W I hf (fun b hb=>hb) ?_ ?_ ?_ ?_ ?_
  ·intro b hb
   simp only[List.mem_cons,List.mem_nil_iff,or_false] at hb
   obtain⟨old,s1⟩:=s1
   obtain⟨o1,e1,_⟩:=s2
   rcases hb with rfl | rfl
   ·exact Heap.lt_size s1
   ·exact Heap.lt_size e1
  ·have h1:=(List.getElem?_eq_some_iff.mp hu).1
   simpa using h1
  ·exact⟨s1,s2,p.isList⟩
  ·intro vals hp
   obtain⟨t,v1,e1,rfl⟩:=hp
   have e1:its[i]? = some v1:=by simpa using e1
   rw[hu] at e1;cases e1
   exact⟨[.int i,x],(by show 2≤sizeLine;decide),.cons ⟨_,rfl⟩ (.cons ru .nil),fun T hT=>⟨T,x,hT,rfl,rfl,fun zs hz=>by rw[I.A0 hz hx];exact ex⟩⟩
  ·exact fun h q=>⟨q.1,q.2.1⟩
 done:=by
  intro X hP hw hK hc i pins s σ H E I hf st hg
  subst hP hw hK
  obtain⟨xs,hx,hlen⟩:=hg
  obtain⟨its,rv,p,hz⟩:=I.list hx
  obtain⟨s1,s2⟩:=id st
  have e':i=its.toArray.size:=by rw[List.size_toArray,←rv.length,hlen]
  subst e'
  have W:=WalksT.enumerate (prog:=X.prog) (w:=X.w) (A:=X.A) (I.ok.hd hc) e it l hei hle hli its.toArray
  exact EX W I hf (fun b hb=>hb) ⟨s1,s2,p.isList⟩
 self:=fun _ _ _ _ _ st h=>by
  obtain⟨⟨old,he⟩,_⟩:=st
  exact wpAny_pyIter_enum he h
def QD (K:W.Frag) (ta:TA):TI:=fun σ H R=>ta σ H fun vs H1=>∃ a,vs=[.ref a]∧(∃ xs,bE K H1 a xs)∧R (Ph K a) H1
theorem HK {X:Cx}{elts:List Expr}{k:Nat}{tpos:Pos}{a:Expr}{ta:TA}{p pos:Pos} (K:W.Frag) (hK:X.K=K) (hg:Gl X "enumerate") (hm:X.mg "enumerate" = none) (ha:PA X [a] ta) (hs:starEach [a] X.env=[(false,eval a X.env)]:=by rfl) :
  PI X (.Tuple elts k tpos) (.Call (.Name "enumerate" p) [a] [] pos) (QD K ta):=by
 subst hK
 intro pins s σ H R I h
 refine Call_ (rN I hg hm (u:=.type "enumerate") (by decide +kernel) (PyProof.Rows.callWith_type1 (cH (ha pos pins s σ H _ I h) fun us s1 ⟨vs,H1,I1,r1,q1⟩=>?_) hs rfl))
 obtain⟨l,e,⟨xs,hx⟩,q⟩:=q1
 subst e
 cases r1 with
 | cons r rr =>
  cases rr
  cases r
  obtain⟨its,rv,pl,hz⟩:=I1.list hx
  have hlt:l < s1.heap.objs.size:=by obtain⟨o,ho,_⟩:=pl.isList;exact Heap.lt_size ho
  refine call_enumerate_list pl.isList fun h' hE hI hsz hk=>?_
  refine wpAny_pyIter_enum hE ?_
  have I2:Inv X pins σ H1 { s1 with heap:=h' }:=I1.kept (t':=s1.toks) fun b o e=>hk b o e
  refine⟨s1.heap.objs.size+1,_,_,_,H1,rfl,I2,EY (Nat.succ_ne_self _) (Nat.ne_of_lt (Nat.lt_succ_of_lt hlt)) (Nat.ne_of_lt hlt),⟨⟨_,hE⟩,hI⟩,fun b hb=>?_,q⟩
  have hb':s1.heap.objs.size≤b:=by
   simp only[List.mem_cons,List.mem_nil_iff,or_false] at hb
   rcases hb with rfl | rfl
   ·exact Nat.le_add_right _ _
   ·exact Nat.le_refl _
  exact I1.zu hb' (I1.hok.fresh hb')
theorem HL {K:W.Frag}{a:Addr}{xs:List V}{g:TG}{tb:TS}{D:Ends}{σ:St}{H:Hp} (Pv:Nat→St→Hp→Prop) (h0:Pv 0 σ H) (hl:∀ i σ H,i≤xs.length→Pv i σ H→bE K H a xs)
  (hs:∀ i x t σ H,xs[i]? = some x→H t=none→Pv i σ H→g (.ref t) σ (upd H t (.tup [.int i,x])) fun σ2 H2=>tb { D with nx:=Pv (i+1),ct:=Pv (i+1),bk:=D.nx } σ2 H2) (hd:∀ σ H,Pv xs.length σ H→D.nx σ H) :
  ∃ W:Nat→Nat→St→Hp→Prop,(∃ m,W 0 m σ H)∧∀ i m σ H,W i m σ H →
   ((Ph K a).stop i H∧D.nx σ H)∨((Ph K a).go i H∧∃ N:St→Hp→Prop,(∀ σ' H',N σ' H'→∃ m',m' < m∧W (i+1) m' σ' H')∧∀ x H',(Ph K a).Jy i H x H'→g x σ H' fun σ2 H2=>tb { D with nx:=N,ct:=N,bk:=D.nx } σ2 H2):=by
 refine⟨fun i m σ H=>m=xs.length - i∧i≤xs.length∧Pv i σ H,⟨xs.length,by simp,Nat.zero_le _,h0⟩,?_⟩
 rintro i m σ H ⟨rfl,hi,p⟩
 have q:=hl i σ H hi p
 by_cases hlt:i < xs.length
 ·refine .inr ⟨⟨xs,xs[i],q,by simp[hlt]⟩,Pv (i+1),fun σ' H' p'=>⟨xs.length - (i+1),by omega,rfl,hlt,p'⟩,fun v H' y=>?_⟩
  obtain⟨t,x,ht,e1,e2,ex⟩:=y
  subst e1 e2
  exact hs i x t σ _ (ex xs q) ht p
 ·have e:i=xs.length:=by omega
  subst e
  exact .inl ⟨⟨xs,q,rfl⟩,hd σ H p⟩
def QE (K:W.Frag):List V→Hp→VK→Prop:=fun xs H Q=>∃(p:Addr) (ns:List Nat),xs=[.ref p]∧bE K H p (ns.map fun n:Nat=>V.int n)∧ns.sum < 1000000∧Q (.int (ns.sum:Nat)) H
theorem pre_take (ns:List Nat):∀ k,k≤ns.length→preSum (fun i=>((ns.getD i 0:Nat):Int)) k=((ns.take k).sum:Nat)
 | 0,_=>rfl
 | k+1,h=>by
  show preSum _ k+((ns.getD k 0:Nat):Int)=_
  rw[pre_take ns k (by omega)]
  have hk:k < ns.length:=by omega
  rw[List.take_succ,List.getElem?_eq_getElem hk,List.sum_append]
  simp[List.getD,List.getElem?_eq_getElem hk]
theorem nD (ns:List Nat) (k:Nat):(ns.take k).sum≤ns.sum:=by
 have e:=congrArg List.sum (List.take_append_drop k ns)
 rw[List.sum_append] at e
 omega
theorem qC:∀{ns:List Nat}{us:List Value}{i:Nat}{v:Value},Vals (ns.map fun n:Nat=>V.int n) us→us[i]? = some v→∃ t,v=.int (ns.getD i 0:Nat) t
 | [],_,i,v,r,e=>by cases r;simp at e
 | n :: ns,_,0,v,r,e=>by
  cases r with
  | cons r1 r2 =>
   simp at e
   subst e
   obtain⟨t,e⟩:=r1
   exact⟨t,by simpa using e⟩
 | n :: ns,_,i+1,v,r,e=>by
  cases r with
  | cons r1 r2 =>
   obtain⟨t,e2⟩:=qC r2 (i:=i) (v:=v) (by simpa using e)
   exact⟨t,by simpa using e2⟩
theorem EZ {X:Cx} (hc:X.calm=true):gP X (.builtin "sum") (QE X.K):=by
 intro pins s σ H xs us Q I r h
 obtain⟨p,ns,rfl,hq,hs,q⟩:=h
 obtain⟨u,rfl,ru⟩:=vals1 r
 cases ru
 obtain⟨its,rv,pl,hz⟩:=I.list hq
 have hlen:=rv.length
 rw[List.length_map] at hlen
 have hpl:p < s.heap.objs.size:=by obtain⟨o,ho,_⟩:=pl.isList;exact Heap.lt_size ho
 refine call_sum_walk (wpAny_pyIter_list pl.isList ⟨s.heap.objs.size,_,_,_,_,_,fun i=>((ns.getD i 0:Nat):Int),rfl,Walks.list (A:=X.A.in1) (show X.A.in1.handled=none from I.ok.hd hc) s.heap.objs.size p (Nat.ne_of_lt hpl) its.toArray,⟨⟨_,Heap.get?_push_size _ rfl,rfl,rfl⟩,pl.isList.at fun o e=>Heap.get?_push_of_some _ e⟩,?_,?_,?_,?_⟩)
 ·intro b hb
  have e:b=s.heap.objs.size∨b=p:=by simpa using hb
  show b < (s.heap.push _).objs.size
  rw[Heap.size_push]
  rcases e with rfl | rfl
  ·exact Nat.lt_succ_self _
  ·exact Nat.lt_succ_of_lt hpl
 ·intro i v hv
  exact qC rv (by simpa using hv)
 ·intro j hj
  have hj':j < ns.length:=by rw[hlen];simpa using hj
  have h1:=nD ns (j+1)
  have h2:ns.getD j 0≤ns.sum:=by
   have:=nD ns (j+1)
   rw[List.take_succ,List.getElem?_eq_getElem hj',List.sum_append] at this
   simp[List.getD,List.getElem?_eq_getElem hj'] at this ⊢
   omega
  rw[pre_take ns (j+1) (by omega)]
  show InLong ((ns.getD j 0:Nat):Int)∧_
  constructor <;> (unfold InLong;constructor <;> omega)
 ·intro h' tk t' hk
  have f0:=I.zu (Nat.le_refl s.heap.objs.size) (I.hok.fresh (Nat.le_refl _))
  have I2:Inv X pins σ H { s with heap:=s.heap.push { cls:=.type "list_iterator",data:=.fields #[.ref p,rawInt 0] } }:=I.kept (t':=s.toks) fun b o e=>Heap.get?_push_of_some _ e
  have I3:=I2.turned (h':=h') (t':=tk) (it:=s.heap.objs.size) (fun b o hb e=>hk b o (by simpa using hb) e) f0.1 f0.2.1 f0.2.2.2.1 f0.2.2.2.2.1 f0.2.2.2.2.2
  refine⟨.int (ns.sum:Nat),H,I3,⟨t',?_⟩,q⟩
  rw[List.size_toArray,←hlen,pre_take ns _ (Nat.le_refl _),List.take_of_length_le (Nat.le_refl _)]
theorem yK {X:Cx} (K:W.Frag) (h:X.K=K) (hc:X.calm=true):gP X (.builtin "sum") (QE K):=by subst h;exact EZ hc
section
variable {X:Cx}
theorem lO.orR {f:Value→Value→Sem Value}{r r':R2} (h:lO X f r) (h':lO X f r'):lO X f (fun x y H Q=>r x y H Q∨r' x y H Q):=by
 intro pins s σ H x y v u Q I rx ry q
 rcases q with q | q
 ·exact h pins s σ H x y v u Q I rx ry q
 ·exact h' pins s σ H x y v u Q I rx ry q
def p6 (z:Str) (n:Nat):Str:=⟨(List.replicate n z.cps).foldl (· ++ ·) #[]⟩
end
section
variable {X:Cx}
end
section
variable {prog:Program}{w:World}{A:Around}{E:Value→Shared→Prop}{s:Shared}
end
section
variable {prog:Program}{w:World}{A:Around}{E:Value→Shared→Prop}{s:Shared}
end
section
variable {prog:Program}{w:World}{A:Around}{E:Value→Shared→Prop}{s:Shared}
end
section
variable {X:Cx}
end
section
variable {X:Cx}{pins:List (Addr×Obj)}{σ:St}{H:Hp}{s:Shared}
end
section
variable {X:Cx}
end
structure vh (prog:Program) (w:World) (K:Type) [DecidableEq K] where
 is:Heap→K→Value→Prop
 hash:K→Int
 draws:K→Nat
 jc:Nat
 inj:∀{h:Heap}{v:Value}{x y:K},is h x v→is h y v→x=y
 keeps:∀{h h':Heap}{k:K}{v:Value}{d:Addr}{o:Obj}{es ep},is h k v→h.get? d=some o→o.data=.dict es ep→Heap.SameBut d h h'→is h' k v
 pyHash:∀{A:Around}{E:Value→Shared→Prop}{s:Shared}{k:K}{v:Value}{Q:Int→Shared→Prop},A.units+jc < cLine→is s.heap k v→Q (hash k) { s with toks:=s.toks+draws k }→wpAny (model prog w) A (PySem.pyHash v) Q E s
 eq:∀{A:Around}{s:Shared}{x y:K}{u v:Value},A.units+jc < cLine→is s.heap x u→is s.heap y v→SeqAt.EqAt A s u v (decide (x=y))
 quiet:∀{A:Around}{E:Value→Shared→Prop}{s:Shared}{k:K}{v:Value}{Q:Bool→Shared→Prop}{n:Nat},jc≤n→is s.heap k v→Q true s→wpAny (model prog w) A (eqIsQuiet n v) Q E s
section
variable {prog:Program}{w:World}{K:Type} [DecidableEq K] (V:vh prog w K)
def TupIs (h:Heap) (ks:List K) (a:Addr):Prop:=∃ o items n,h.get? a=some o∧o.cls=.type "tuple"∧o.data=.seq items n∧Paired (fun k v=>V.is h k v) ks items.toList
def vj (ks:List K):Int:=reduceHash (Builtin.Tuple.tupleHashOf (ks.map V.hash))
variable {V}
theorem TupIs.ty {s:Shared}{ks:List K}{a:Addr} (x:TupIs V s.heap ks a):s.TypeIs (.ref a) "tuple" := by obtain⟨o,_,_,ho,hc,_⟩:=x;exact⟨o,ho,hc⟩
theorem vL {h:Heap}:∀{x y:List K}{vs:List Value},Paired (fun k v=>V.is h k v) x vs→Paired (fun k v=>V.is h k v) y vs→x=y
 | _,_,_,.nil,.nil=>rfl
 | _,_,_,.cons a r,.cons b q=>by rw[V.inj a b,vL r q]
theorem TupIs.inj {h:Heap}{a:Addr}{x y:List K} (hx:TupIs V h x a) (hy:TupIs V h y a):x=y:=by
 obtain⟨o,items,n,ho,_,hd,hi⟩:=hx
 obtain⟨o',items',n',ho',_,hd',hi'⟩:=hy
 rw[ho] at ho'
 cases ho'
 rw[hd] at hd'
 cases hd'
 exact vL hi hi'
theorem TupIs.keeps {h h':Heap}{ks:List K}{a d:Addr}{o:Obj}{es ep} (x:TupIs V h ks a) (ho:h.get? d=some o) (hd:o.data=.dict es ep) (hs:Heap.SameBut d h h'):TupIs V h' ks a:=by
 obtain⟨o',items,n,e1,e2,e3,e4⟩:=x
 have hne:a≠d:=fun e=>by
  subst e
  rw[e1] at ho
  cases ho
  rw[hd] at e3;cases e3
 exact⟨o',items,n,(hs.2 a hne).trans e1,e2,e3,Paired.EE e4 fun k v q=>V.keeps q ho hd hs⟩
variable {A:Around}{E:Value→Shared→Prop}{s:Shared}
theorem Bf {ks:List K}{a:Addr}{Q:Int→Shared→Prop} (hu:A.units+(V.jc+1) < cLine) (hk:TupIs V s.heap ks a) (h:Q (vj V ks) { s with toks:=s.toks+((ks.map V.draws).sum+1) }) :
  wpAny (model prog w) A (pyHash (.ref a)) Q E s:=by
 have hT:=hk.ty
 have iD:A.units < cLine:=by omega
 obtain⟨o,items,n,ho,_,hd,hi⟩:=hk
 unfold pyHash
 first | unfold pyHashByItsType | skip
 first | refine wpAny_bind (wpAny_cRoomFor_or (.inr iD) ?_) | skip
 refine wpAny_bind (wpAny_specialOf hT F.slot_tuple_hash.lookup ?_);show wpAny _ _ (if (some (Value.builtin "tuple.__hash__") == some Value.none)=true then _ else _) Q E s
 rw[if_neg (by rw[beq_builtin_none];exact Bool.false_ne_true)];refine wpAny_bind (wpAny_specialOf hT F.slot_tuple_hash.lookup ?_)
 show wpAny _ _ (callSpecialIfBoundUnlessNone? (.ref a) "__hash__" _ >>= _) Q E s;refine wpAny_bind (wpAny_callSpecialIfBoundUnlessNone?_slot hT F.slot_tuple_hash (wpAny_call_entry F.slot_tuple_hash hT F.entry_tuple_hash ?_ (F.args_tuple_hash_1 _)))
 have hu1:A.in1.units+V.jc < cLine:=by show A.units+1+V.jc < cLine;omega
 show wpAny _ _ (Builtin.Tuple.tupleItemsOf (.ref a) >>= _) _ _ s
 refine wpAny_bind (wpAny_tupleItemsOf ho hd (wpAny_bind ?_))
 rw[←Array.forIn_toList]
 refine wpAny_forIn_list _ (fun rest (b:Array Int) s'=>∃ done left,ks=done++left∧Paired (fun k v=>V.is s.heap k v) left rest∧b.toList=done.map V.hash∧s'={ s with toks:=s.toks+(done.map V.draws).sum }) _ ?_ ?_ _ _ ⟨[],ks,rfl,hi,rfl,rfl⟩
 ·rintro x rest b s' ⟨done,left,rfl,hl,hb,rfl⟩
  cases hl with
  | @cons k _ ks' _ h1 hl' =>
   have fin:∃ d l,done++k :: ks'=d++l∧Paired (fun k v=>V.is s.heap k v) l rest∧(b.push (V.hash k)).toList=d.map V.hash∧({ s with toks:=s.toks+(done.map V.draws).sum+V.draws k }:Shared)={ s with toks:=s.toks+(d.map V.draws).sum }:=⟨done++[k],ks',by simp,hl',by simp[hb],by simp[Nat.add_assoc]⟩
   refine wpAny_bind (V.pyHash hu1 h1 ?_)
   first
    | exact wpAny_pure fin
    | exact wpAny_bind (wpAny_pure (wpAny_pure fin))
 ·rintro b s' ⟨done,left,rfl,hl,hb,rfl⟩
  cases hl
  rw[List.append_nil] at h
  show wpAny _ _ (retInt (Builtin.Tuple.tupleHashOf b.toList)) _ _ _
  rw[hb]
  refine wpAny_ret_mkInt ?_
  generalize hz:Builtin.Tuple.tupleHashOf (done.map V.hash)=z
  unfold vj reduceHash at h
  rw[hz] at h
  show wpAny _ _ (if (decide (-(2:Int) ^ 63≤z) && decide (z < 2 ^ 63))=true then _ else _) Q E _
  by_cases hr:(decide (-(2:Int) ^ 63≤z) && decide (z < 2 ^ 63))=true
  ·rw[if_pos hr] at h ⊢
   exact wpAny_pure (by simpa [Nat.add_assoc] using h)
  ·rw[if_neg hr] at h ⊢
   exact wpAny_bind (wpAny_rule (wpAny_pure (by simpa [Nat.add_assoc] using h)))
theorem vM {x y:List K}:((List.range (min x.length y.length)).all (fun j=>decide (x[j]? = y[j]?)) && x.length == y.length)=decide (x=y):=by
 rw[Bool.eq_iff_iff,Bool.and_eq_true,List.all_eq_true,decide_eq_true_iff,beq_iff_eq]
 constructor
 ·rintro⟨q,hl⟩
  refine List.ext_getElem? fun i=>?_
  by_cases hi:i < x.length
  ·exact of_decide_eq_true (q i (List.mem_range.mpr (by omega)))
  ·rw[List.getElem?_eq_none (by omega),List.getElem?_eq_none (by omega)]
 ·rintro rfl
  exact⟨fun i _=>decide_eq_true rfl,rfl⟩
theorem jL {F:K→Value→Prop}:∀{ks:List K}{vs:List Value},Paired F ks vs→∀(j:Nat) v,vs[j]? = some v→∃ k,ks[j]? = some k∧F k v
 | _,_,.nil,j,v,h=>by simp at h
 | _,_,.cons a r,0,v,h=>by cases h;exact⟨_,rfl,a⟩
 | _,_,.cons a r,j+1,v,h=>by
  rw[List.getElem?_cons_succ] at h
  obtain⟨k,e,q⟩:=jL r j v h
  exact⟨k,by rw[List.getElem?_cons_succ];exact e,q⟩
theorem HM {x y:List K}{a b:Addr} (hu:A.units+(V.jc+1) < cLine) (hx:TupIs V s.heap x a) (hy:TupIs V s.heap y b):SeqAt.EqAt A s (.ref a) (.ref b) (decide (x=y)):=by
 by_cases e:a=b
 ·subst e
  rw[decide_eq_true (hx.inj hy)]
  exact SeqAt.EqAt.same _
 ·obtain⟨o,items,n,h1,h2,h3,h4⟩:=hx
  obtain⟨o',items',n',WX,h2',h3',QF⟩:=hy
  have l1:x.length=items.size:=by rw[Paired.length h4,Array.length_toList]
  have l2:y.length=items'.size:=by rw[Paired.length QF,Array.length_toList]
  refine SeqAt.EqAt.of_refs e ?_
  rw[←vM,l1,l2]
  refine SeqAt.RcAt.tuples ⟨o,h1,h2,n,h3⟩ ⟨o',WX,h2',n',h3'⟩ (by omega) fun j j1 j2=>?_
  obtain⟨k,ek,hk⟩:=jL h4 j items[j] (by simp[j1])
  obtain⟨k',WY,hk'⟩:=jL QF j items'[j] (by simp[j2])
  rw[ek,WY,show decide (some k=some k')=decide (k=k') by simp]
  exact V.eq (by show A.units+1+V.jc < cLine;omega) hk hk'
theorem yL {ks:List K}{a:Addr}{Q:Bool→Shared→Prop}{n:Nat} (hn:V.jc+1≤n) (hk:TupIs V s.heap ks a) (h:Q true s):wpAny (model prog w) A (eqIsQuiet n (.ref a)) Q E s:=by
 have hT:=hk.ty
 obtain⟨o,items,m,ho,_,hd,hi⟩:=hk
 obtain⟨n,rfl⟩:∃ n',n=n'+1:=⟨n - 1,by omega⟩
 unfold eqIsQuiet
 refine wpAny_bind (wpAny_specialOf hT F.slot_tuple_eq.lookup ?_);show wpAny _ _ (isInstance (.ref a) (.type "tuple") >>= _) _ _ s
 refine wpAny_bind (wpAny_isInstance hT isSubtype_tuple_tuple ?_)
 simp only[Bool.not_true,Bool.false_eq_true,if_false]
 refine wpAny_bind (wpAny_seqItems ho hd (wpAny_bind ?_))
 show wpAny _ _ (forIn items _ _) _ _ s
 rw[←Array.forIn_toList]
 refine wpAny_forIn_list _ (fun rest r s'=>r.1=none∧s'=s∧∃ l,Paired (fun k v=>V.is s.heap k v) l rest) _ ?_ ?_ _ _ ⟨rfl,rfl,ks,hi⟩
 ·rintro v rest r s' ⟨hr,rfl,l,hl⟩
  cases hl with
  | @cons k _ ks' _ h1 hl' =>
   refine wpAny_bind (V.quiet (by omega) h1 ?_)
   simp only[Bool.not_true,Bool.false_eq_true,if_false]
   exact wpAny_pure ⟨rfl,rfl,ks',hl'⟩
 ·rintro⟨r1,r2⟩ s' ⟨hr,rfl,_⟩
  simp only at hr
  subst hr
  exact wpAny_pure h
end
abbrev Lf:=Option Key
def Bg:Lf→Value→Prop
 | none,v=>v=.none
 | some k,v=>tw k v=true
section
variable {prog:Program}{w:World}{A:Around}{E:Value→Shared→Prop}{s:Shared}
theorem E1 {Q:Int→Shared→Prop} (hu:A.units < cLine) (h:Q 4238894112 { s with toks:=s.toks+1 }):wpAny (model prog w) A (pyHash .none) Q E s:=by
 have hT:s.TypeIs .none "NoneType" := rfl
 unfold pyHash
 first | unfold pyHashByItsType | skip
 first | refine wpAny_bind (wpAny_cRoomFor_or (.inr hu) ?_) | skip
 refine wpAny_bind (wpAny_specialOf hT F.slot_NoneType_hash.lookup ?_)
 show wpAny _ _ (if (some (Value.builtin "NoneType.__hash__") == some Value.none)=true then _ else _) Q E s
 rw[if_neg (by rw[beq_builtin_none];exact Bool.false_ne_true)];refine wpAny_bind (wpAny_specialOf hT F.slot_NoneType_hash.lookup ?_)
 show wpAny _ _ (callSpecialIfBoundUnlessNone? .none "__hash__" _ >>= _) Q E s
 refine wpAny_bind (wpAny_callSpecialIfBoundUnlessNone?_slot hT F.slot_NoneType_hash (wpAny_call_entry F.slot_NoneType_hash hT F.entry_NoneType_hash ?_ (F.args_NoneType_hash_1 _)))
 show wpAny _ _ (retInt 4238894112) _ _ _
 refine wpAny_ret_mkInt ?_
 show wpAny _ _ (if (decide (-(2:Int) ^ 63≤4238894112) && decide ((4238894112:Int) < 2 ^ 63))=true then _ else _) Q E _
 rw[if_pos (by decide)]
 exact wpAny_pure h
theorem kK {k:Key}{v:Value} (h:tw k v=true):(∃ i t,k=.inl i∧v=.int i t)∨∃ z t,k=.inr z∧v=.str z t:=cz h
theorem HN (prog:Program) (w:World) {v:Value}{x y:Lf} (hx:Bg x v) (hy:Bg y v):x=y:=by
 cases x with
 | none =>
  cases y with
  | none=>rfl
  | some k=>rcases kK hy with ⟨i,t,rfl,e⟩ | ⟨z,t,rfl,e⟩ <;> (rw[show v=.none from hx] at e;cases e)
 | some k =>
  cases y with
  | none=>rcases kK hx with ⟨i,t,rfl,e⟩ | ⟨z,t,rfl,e⟩ <;> (rw[show v=.none from hy] at e;cases e)
  | some k'=>rw[(ji prog w).inj v k k' hx hy]
theorem LM {x y:Lf}{u v:Value} (hx:Bg x u) (hy:Bg y v):SeqAt.EqAt A s u v (decide (x=y)):=by
 cases x with
 | none =>
  have hx:u=.none:=hx
  subst hx
  cases y with
  | none =>
   have hy:v=.none:=hy
   subst hy
   rw[decide_eq_true rfl];exact SeqAt.EqAt.same _
  | some k =>
   rw[decide_eq_false (by simp)]
   rcases kK hy with ⟨i,t,rfl,rfl⟩ | ⟨z,t,rfl,rfl⟩
   ·exact SeqAt.EqAt.none_int _ _
   ·exact SeqAt.EqAt.none_str _ _
 | some k =>
  cases y with
  | none =>
   have hy:v=.none:=hy
   subst hy
   rw[decide_eq_false (by simp)]
   rcases kK hx with ⟨i,t,rfl,rfl⟩ | ⟨z,t,rfl,rfl⟩
   ·exact SeqAt.EqAt.int_none _ _
   ·exact SeqAt.EqAt.str_none _ _
  | some k' =>
   rw[show decide (some k=some k')=decide (k=k') by simp]
   rcases kK hx with ⟨i,t,rfl,rfl⟩ | ⟨z,t,rfl,rfl⟩ <;> rcases kK hy with ⟨i',t',rfl,rfl⟩ | ⟨z',t',rfl,rfl⟩
   ·rw[GX];exact SeqAt.EqAt.int_int _ _ _ _
   ·rw[GZ];exact SeqAt.EqAt.int_str _ _ _ _
   ·rw[G0];exact SeqAt.EqAt.str_int _ _ _ _
   ·rw[GY,show decide (z=z')=(z == z') by rw[Bool.eq_iff_iff,decide_eq_true_iff,beq_iff_eq]];exact SeqAt.EqAt.str_str _ _ _ _
theorem CH {x:Lf}{v:Value} (h:Bg x v):carriedByValue v=true:=by
 cases x with
 | none=>rw[show v=.none from h];rfl
 | some k=>rcases kK h with ⟨i,t,rfl,rfl⟩ | ⟨z,t,rfl,rfl⟩ <;> rfl
end
def HP (w:World):Lf→Int
 | none=>4238894112
 | some k=>PN w k
def Bh (prog:Program) (w:World):vh prog w Lf where
 is:=fun _ k v=>Bg k v
 hash:=HP w
 draws:=fun _=>1
 jc:=0
 inj:=fun hx hy=>HN prog w hx hy
 keeps:=fun h _ _ _=>h
 pyHash:=fun {A E s k v Q} hu h q=>by
  cases k with
  | none =>
   have h:v=.none:=h
   subst h
   exact E1 hu q
  | some k=>exact(ji prog w).pyHash h q
 eq:=fun _ hx hy=>LM hx hy
 quiet:=fun {A E s k v Q n} _ h q=>by rw[eqIsQuiet_byValue n (CH h)];exact wpAny_pure q
section
variable {prog:Program}{w:World}{K:Type} [DecidableEq K] (V:vh prog w K)
def MV (h:Heap):Lf ⊕ List K→Value→Prop
 | .inl k,v=>Bg k v
 | .inr ks,v=>∃ a,v=.ref a∧TupIs V h ks a
def MW:Lf ⊕ List K→Int
 | .inl k=>HP w k
 | .inr ks=>vj V ks
def J6:Lf ⊕ List K→Nat
 | .inl _=>1
 | .inr ks=>(ks.map V.draws).sum+1
variable {V}
theorem HQ {k:Lf}{a:Addr} (h:Bg k (.ref a)):False:=by
 cases k with
 | none=>cases(show Value.ref a=.none from h)
 | some k=>rcases kK h with ⟨i,t,rfl,e⟩ | ⟨z,t,rfl,e⟩ <;> cases e
theorem QG {A:Around}{s:Shared}{x y:Lf ⊕ List K}{u v:Value} (hu:A.units+(V.jc+1) < cLine) (hx:MV V s.heap x u) (hy:MV V s.heap y v):SeqAt.EqAt A s u v (decide (x=y)):=by
 cases x with
 | inl k =>
  cases y with
  | inl k' =>
   rw[show decide ((Sum.inl k:Lf ⊕ List K)=.inl k')=decide (k=k') by simp]
   exact LM hx hy
  | inr ks =>
   obtain⟨a,rfl,o,items,n,h1,h2,h3,h4⟩:=hy
   rw[decide_eq_false (fun q=>nomatch q)]
   cases k with
   | none =>
    have hx:u=.none:=hx
    subst hx
    exact SeqAt.EqAt.none_tuple ⟨o,h1,h2,n,h3⟩ (by omega)
   | some k =>
    rcases kK hx with ⟨i,t,rfl,rfl⟩ | ⟨z,t,rfl,rfl⟩
    ·exact SeqAt.EqAt.int_tuple _ _ ⟨o,h1,h2,n,h3⟩ (by omega)
    ·exact SeqAt.EqAt.str_tuple _ _ ⟨o,h1,h2,n,h3⟩ (by omega)
 | inr ks =>
  obtain⟨a,rfl,hxa⟩:=hx
  cases y with
  | inl k' =>
   obtain⟨o,items,n,h1,h2,h3,h4⟩:=hxa
   rw[decide_eq_false (fun q=>nomatch q)]
   cases k' with
   | none =>
    have hy:v=.none:=hy
    subst hy
    exact SeqAt.EqAt.tuple_none ⟨o,h1,h2,n,h3⟩ (by omega)
   | some k =>
    rcases kK hy with ⟨i,t,rfl,rfl⟩ | ⟨z,t,rfl,rfl⟩
    ·exact SeqAt.EqAt.tuple_int _ _ ⟨o,h1,h2,n,h3⟩ (by omega)
    ·exact SeqAt.EqAt.tuple_str _ _ ⟨o,h1,h2,n,h3⟩ (by omega)
  | inr ks' =>
   obtain⟨b,rfl,WZ⟩:=hy
   rw[show decide ((Sum.inr ks:Lf ⊕ List K)=.inr ks')=decide (ks=ks') by simp]
   exact HM hu hxa WZ
def stepK (V:vh prog w K):vh prog w (Lf ⊕ List K) where
 is:=MV V
 hash:=MW V
 draws:=J6 V
 jc:=V.jc+1
 inj:=fun {h v x y} hx hy=>by
  cases x with
  | inl k =>
   cases y with
   | inl k'=>rw[HN prog w hx hy]
   | inr ks=>obtain⟨a,rfl,_⟩:=hy;exact(HQ hx).elim
  | inr ks =>
   obtain⟨a,rfl,hxa⟩:=hx
   cases y with
   | inl k'=>exact(HQ hy).elim
   | inr ks'=>obtain⟨b,e,WZ⟩:=hy;cases e;rw[hxa.inj WZ]
 keeps:=fun {h h' k v d o es ep} hx ho hd hs=>by
  cases k with
  | inl k=>exact hx
  | inr ks=>obtain⟨a,rfl,hxa⟩:=hx;exact⟨a,rfl,hxa.keeps ho hd hs⟩
 pyHash:=fun {A E s k v Q} hu hx q=>by
  cases k with
  | inl k=>exact(Bh prog w).pyHash (by show A.units+0 < cLine;omega) hx q
  | inr ks=>obtain⟨a,rfl,hxa⟩:=hx;exact Bf hu hxa q
 eq:=fun hu hx hy=>QG hu hx hy
 quiet:=fun {A E s k v Q n} hn hx q=>by
  cases k with
  | inl k=>exact(Bh prog w).quiet (Nat.zero_le _) hx q
  | inr ks=>obtain⟨a,rfl,hxa⟩:=hx;exact yL hn hxa q
def vN (V:vh prog w K) (hl:V.jc+1≤8):HeapKind prog w (List K) where
 is:=TupIs V
 hash:=vj V
 draws:=fun ks=>(ks.map V.draws).sum+1
 room:=fun A=>A.units+(V.jc+1) < cLine
 inj:=fun hx hy=>hx.inj hy
 keeps:=fun x ho hd hs=>x.keeps ho hd hs
 pyHash:=fun hu hk h=>Bf hu hk h
 eqBool:=fun hu hx hy h=>HM hu hx hy prog w _ _ h
 quiet:=fun hk h=>yL hl hk h
end
section
variable {κ:Type} [DecidableEq κ]
theorem mZ.yM {o:Option V}{u:Option Value} (r:mZ o u):o.isSome=u.isSome:=by
 cases o with
 | none=>cases u with
  | none=>rfl
  | some _=>exact(show False from r).elim
 | some _=>cases u with
  | none=>exact(show False from r).elim
  | some _=>rfl
end
theorem QH {P:Program}{w:World}{k:Key}{u:Value} (r:RelV (kV k) u):(ji P w).is k u=true:=by
 cases k with
 | inl i=>obtain⟨t,e⟩:=(show ∃ t,u=Value.int i t from r);subst e;exact AX P w i t
 | inr x=>obtain⟨t,e⟩:=(show ∃ t,u=Value.str x t from r);subst e;exact AY P w x t
section
variable {P:Program}{w:World}{H:Hp}{h:Heap}{a:Addr}
theorem QI {u:HO} (ok:pZ P w H h) (e:Rd H a u):cA P w H h a u:=e.ok ok
theorem QJ {kvs:List (Key×V)} (ok:pZ P w H h) (e:Rd H a (.dK kvs)):kvs.length≤sizeLine∧(a == sysModules)=false∧∃ vs,KV kvs vs∧h.DictOf (ji P w) a vs :=
 show cA P w H h a (.dK kvs) from QI ok e
theorem QK {kvs:List (Key×V)} (ok:pZ P w H h) (e:H a=some (.dK kvs)):kvs.length≤sizeLine∧(a == sysModules)=false∧∃ vs,KV kvs vs∧h.DictOf (ji P w) a vs:=QJ ok (.inl e)
end
section
variable {X:Cx}{pins:List (Addr×Obj)}{σ:St}{H:Hp}{s:Shared}{a:Addr}{y v:V}{u r:Value}{o:Option V}{A:Around}{E:Value→Shared→Prop}
theorem Inv.big (I:Inv X pins σ H s):sysModules < s.heap.objs.size:=by
 have h:mainGlobals < s.heap.objs.size:=(I.mod.glob.keeps I.bk).lt
 exact Nat.lt_trans (by decide) h
end
section
variable {X:Cx}{pins:List (Addr×Obj)}{σ:St}{H:Hp}{s:Shared}{a:Addr}{kvs:List (Key×V)}{k:Key}{u:Value}{A:Around}{E:Value→Shared→Prop}
end
def MX (i:Expr):Prop:=∀ ov iv,subscripted i false ov iv=operate [ov,iv] (getItem ov iv)
theorem J7 {prog:Program}{w:World}{A:Around}{E:Value→Shared→Prop}{s:Shared}{env:Env}{value slice:Expr}{pos:Pos}{T id:String}{Q:Value→Shared→Prop}
  (hl:typeLookup (.type T) "__getitem__" = pure (some (.builtin id))) (hs:MX slice)
  (h:wpAny (model prog w) A (eval value env) (fun o s₁=>wpAny (model prog w) A (eval slice env) (fun i s₂=>s₂.TypeIs o T∧wpAny (model prog w) A (getItem o i) Q E s₂) E s₁) E s) :
  wpAny (model prog w) A (eval (.Subscript value slice pos) env) Q E s:=by
 refine Subscript_ (wpAny_mono h (fun o s₁ h₁=>wpAny_mono h₁ (fun i s₂ h₂=>?_) fun _ _ x=>x) fun _ _ x=>x)
 obtain⟨hT,h₂⟩:=h₂
 unfold subscriptTail
 refine wpAny_bind ?_
 rw[getitemInPython_of_ne hT.not_modules]
 refine wpAny_bind (wpAny_specialOf hT hl ?_)
 have fin:wpAny (model prog w) A (subscripted slice false o i) (fun r s₃=>wpAny (model prog w) A (letTemporaryGo value o r >>= fun _=>pure r) Q E s₃) E s₂:=by
  rw[hs o i]
  exact wpAny_operating (wpAny_mono h₂ (fun r s₃ h₃=>wpAny_bind (wpAny_letTemporaryGo (wpAny_pure h₃))) fun _ _ x=>x)
 first
  | exact wpAny_pure (wpAny_bind fin)
  | exact wpAny_bind (wpAny_pure (wpAny_bind fin))
  | exact wpAny_bind fin
section
variable {X:Cx}{o i e value:Expr}{pos pos' tpos:Pos}{td ty tv:TE}
end
theorem HR {P:Program}{w:World}{H:Hp} (h:Heap) (hb:sysModules < h.objs.size):cA P w H (h.push { cls:=.type "dict",data:=.dict #[] }) h.objs.size (.dK []) :=
 ⟨Nat.zero_le _,beq_eq_false_iff_ne.mpr (Ne.symm (Nat.ne_of_lt hb)),[],.nil,Heap.DictOf.new h⟩
def MY:TE:=fun _ H Q=>∀ p,H p=none→Q (.ref p) (upd H p (.dK []))
section
variable {X:Cx}{pos:Pos}
theorem HU:PE X (.Dict [] [] pos) MY:=fun pins s σ H Q I h =>
 wpAny_Dict_empty ⟨.ref s.heap.objs.size,_,I.laid (a:=s.heap.objs.size) (o:=.dK []) (t':=s.toks) (fun _ _ q=>Heap.get?_push_of_some _ q) (Nat.le_refl _) (HR s.heap I.big),rfl,h _ (I.hok.fresh (Nat.le_refl _))⟩
end
section
variable {X:Cx}{pins:List (Addr×Obj)}{σ:St}{H:Hp}{s:Shared}{a:Addr}{y d:V}{u r:Value}{o:Option V}{A:Around}{E:Value→Shared→Prop}
end
section
variable {X:Cx}{o e f:Expr}{apos cpos:Pos}{td ty tx:TE}
end
section
variable {X:Cx}{pins:List (Addr×Obj)}{σ:St}{H:Hp}{s:Shared}{a:Addr}{kvs:List (Key×V)}{A:Around}{E:Value→Shared→Prop}
end
section
variable {X:Cx}{pins:List (Addr×Obj)}{σ:St}{H:Hp}{s:Shared}{a:Addr}{y:V}{u:Value}{A:Around}{E:Value→Shared→Prop}
end
def lfV:Lf→V
 | none=>.non
 | some k=>kV k
theorem tG {α β γ:Type}{F:α→β→Prop}{G:β→γ→Prop}:∀{xs:List α}{ys:List β}{zs:List γ},Paired F xs ys→Paired G ys zs→Paired (fun a c=>∃ b,F a b∧G b c) xs zs
 | _,_,_,.nil,.nil=>.nil
 | _,_,_,.cons a r,.cons b q=>.cons ⟨_,a,b⟩ (tG r q)
section
variable {P:Program}{w:World}{K:Type} [DecidableEq K]
structure tY (F:W.Frag) (Z:vh P w K) where
 on:Hp→K→V→Prop
 ok:∀{X:Cx}{pins:List (Addr×Obj)}{σ:St}{H:Hp}{s:Shared}{k:K}{v:V}{u:Value},X.K=F→Inv X pins σ H s→RelV v u→on H k v→Z.is s.heap k u
 keep:∀{H H':Hp}{k:K}{v:V},(∀ b xs,cB F H b xs→cB F H' b xs)→on H k v→on H' k v
def rQ {F:W.Frag}{Z:vh P w K} (Y:tY F Z) (H:Hp) (ks:List K) (b:Addr):Prop:=∃ vs,cB F H b vs∧Paired (fun k v=>Y.on H k v) ks vs
variable {F:W.Frag}{Z:vh P w K}{Y:tY F Z}{H H':Hp}{ks:List K}{b:Addr}
theorem rQ.is {X:Cx}{pins:List (Addr×Obj)}{σ:St}{s:Shared} (hF:X.K=F) (I:Inv X pins σ H s) (e:rQ Y H ks b):TupIs Z s.heap ks b:=by
 obtain⟨vs,e,r⟩:=e
 obtain⟨its,rv,⟨o,h1,h2,n,h3⟩,_⟩:=I.tuple (by rw[hF];exact e)
 exact⟨o,its.toArray,n,h1,h2,h3,by simpa using Paired.EE (tG r rv) (fun k u ⟨v,a,c⟩=>Y.ok hF I c a)⟩
theorem rQ.keep (t:∀ b xs,cB F H b xs→cB F H' b xs) (e:rQ Y H ks b):rQ Y H' ks b:=by
 obtain⟨vs,e,r⟩:=e
 exact⟨vs,t _ _ e,Paired.EE r fun k v q=>Y.keep t q⟩
theorem rQ.mono (s:∀ a o,H a=some o→H' a=some o) (e:rQ Y H ks b):rQ Y H' ks b:=e.keep fun b xs q=>by
 rcases q with (q | ⟨o,q⟩) | q
 ·exact .inl (.inl (s _ _ q))
 ·exact .inl (.inr ⟨o,s _ _ q⟩)
 ·exact .inr q
end
def HV (P:Program) (w:World) (F:W.Frag):tY F (Bh P w) where
 on:=fun _ k v=>v=lfV k
 ok:=fun {X pins σ H s k v u} _ _ r e=>by
  subst e
  cases k with
  | none=>cases r;rfl
  | some k=>exact QH (P:=P) (w:=w) r
 keep:=fun _ e=>e
section
variable {P:Program}{w:World}{K:Type} [DecidableEq K]
def W0 {F:W.Frag}{Z:vh P w K} (Y:tY F Z) (H:Hp):Lf ⊕ List K→V→Prop
 | .inl k,v=>v=lfV k
 | .inr ks,v=>∃ b,v=.ref b∧rQ Y H ks b
def QL {F:W.Frag}{Z:vh P w K} (Y:tY F Z):tY F (stepK Z) where
 on:=W0 Y
 ok:=fun {X pins σ H s k v u} hF I r e=>by
  cases k with
  | inl k=>exact(HV P w F).ok hF I r e
  | inr ks =>
   obtain⟨b,rfl,e⟩:=e
   cases r
   exact⟨b,rfl,e.is hF I⟩
 keep:=fun {H H' k v} t e=>by
  cases k with
  | inl k=>exact e
  | inr ks=>obtain⟨b,rfl,e⟩:=e;exact⟨b,rfl,e.keep t⟩
abbrev N3 (K:Type):=List K×Addr×V
abbrev tZ:List (N3 K)→List (List K×Addr×Value)→Prop:=Paired fun p q=>p.1=q.1∧p.2.1=q.2.1∧RelV p.2.2 q.2.2
def QM (Z:vh P w K) (hl:Z.jc+1≤8) (a:Addr) (kvs:List (N3 K)) (h:Heap):Prop :=
 kvs.length≤sizeLine∧(a == sysModules)=false∧∃ xs,tZ kvs xs∧∃ o es ep,h.get? a=some o∧o.ExactDict∧o.data=.dict es ep∧es.toList=xs.map (entryOfKey (vN Z hl))∧(xs.map (·.1)).Nodup
def dN (Z:vh P w K) (hl:Z.jc+1≤8) (a:Addr) (kvs:List (N3 K)):HO:=.ext (QM Z hl a kvs)
structure Nd {F:W.Frag}{Z:vh P w K} (Y:tY F Z) (hl:Z.jc+1≤8) (H:Hp) (a:Addr) (kvs:List (N3 K)):Prop where
 ob:H a=some (dN Z hl a kvs)
 keys:∀ e∈kvs,rQ Y H e.1 e.2.1
variable {F:W.Frag}{Z:vh P w K}{Y:tY F Z}{hl:Z.jc+1≤8}{H H':Hp}{h:Heap}{a b:Addr}{kvs:List (N3 K)}
theorem Nd.mono (s:∀ a o,H a=some o→H' a=some o) (d:Nd Y hl H a kvs):Nd Y hl H' a kvs:=⟨s _ _ d.ob,fun e he=>(d.keys e he).mono s⟩
theorem HW {xs:List (List K×Addr×Value)}:∀{kvs:List (N3 K)},tZ kvs xs→∀ q∈xs,∃ p∈kvs,p.1=q.1∧p.2.1=q.2.1:=by
 intro kvs r
 induction r with
 | nil=>intro q hq;cases hq
 | cons a r ih =>
  intro q hq
  rcases List.mem_cons.mp hq with rfl | hq
  ·exact⟨_,List.mem_cons_self ..,a.1,a.2.1⟩
  ·obtain⟨p,hp,e⟩:=ih q hq
   exact⟨p,List.mem_cons_of_mem _ hp,e⟩
theorem Nd.of {X:Cx}{K:Type} [DecidableEq K] {F:W.Frag}{Z:vh X.prog X.w K}{Y:tY F Z}{hl:Z.jc+1≤8}{H:Hp}{a:Addr}{kvs:List (N3 K)}{pins:List (Addr×Obj)}{σ:St}{s:Shared} (hF:X.K=F) (I:Inv X pins σ H s) (d:Nd Y hl H a kvs):kvs.length≤sizeLine∧(a == sysModules)=false∧∃ xs,tZ kvs xs∧s.heap.DictOfH (vN Z hl) a xs:=by
 obtain⟨⟨z,y,xs,r,o,es,ep,h1,h2,h3,h4,h5⟩,_⟩:=(show cA X.prog X.w H s.heap a (dN Z hl a kvs) from I.hok a _ d.ob)
 refine⟨z,y,xs,r,o,es,ep,h1,h2,h3,h4,fun x hx=>?_,h5⟩
 obtain⟨p,hp,e1,e2⟩:=HW r x hx
 have:=(d.keys p hp).is hF I
 rw[e1,e2] at this
 exact this
theorem HX {h':Heap}{xs:List (List K×Addr×Value)} (z:kvs.length≤sizeLine) (y:(a == sysModules)=false) (r:tZ kvs xs) (dd:h'.DictOfH (vN Z hl) a xs):cA P w H h' a (dN Z hl a kvs):=by
 obtain⟨o,es,ep,h1,h2,h3,h4,_,h5⟩:=dd
 refine⟨⟨z,y,xs,r,o,es,ep,h1,h2,h3,h4,h5⟩,⟨o,h1⟩,fun g1 g2 q k=>?_⟩
 obtain⟨z,y,xs,r,o,es,ep,h1,h2,h3,h4,h5⟩:=q
 exact⟨z,y,xs,r,o,es,ep,k _ h1,h2,h3,h4,h5⟩
def valN (kvs:List (N3 K)) (k:List K):Option V:=(kvs.find? fun x=>decide (x.1=k)).map (·.2.2)
theorem qD {k:List K}:∀{kvs:List (N3 K)}{xs:List (List K×Addr×Value)},tZ kvs xs→mZ (valN kvs k) ((atKey xs k).map (·.2))
 | _,_,.nil=>trivial
 | p :: kvs,q :: xs,.cons a r=>by
  have ih:=qD (k:=k) r
  unfold valN atKey at ih ⊢
  rw[List.find?_cons,List.find?_cons,a.1]
  by_cases e:q.1=k
  ·rw[decide_eq_true e];exact a.2.2
  ·rw[decide_eq_false e];exact ih
def putN (kvs:List (N3 K)) (k:List K) (b:Addr) (v:V):List (N3 K):=if (valN kvs k).isSome=true then kvs.map (fun x=>if x.1=k then (x.1,x.2.1,v) else x) else kvs++[(k,b,v)]
theorem Bj {k:List K}{v:V} (h:valN kvs k=none):putN kvs k b v=kvs++[(k,b,v)]:=by unfold putN;rw[h];rfl
theorem Bk {k:List K}{v:V}{u:Value} (rv:RelV v u):∀{kvs:List (N3 K)}{xs:List (List K×Addr×Value)},tZ kvs xs→tZ (kvs.map (fun x=>if x.1=k then (x.1,x.2.1,v) else x)) (xs.map (putAt k u))
 | _,_,.nil=>.nil
 | p :: kvs,q :: xs,.cons a r=>by
  refine .cons ?_ (Bk rv r)
  unfold putAt
  by_cases e:q.1=k
  ·rw[if_pos e,show(fun x:N3 K=>if x.1=k then (x.1,x.2.1,v) else x) p=(p.1,p.2.1,v) from if_pos (a.1.trans e)];exact⟨a.1,a.2.1,rv⟩
  ·rw[if_neg e,show(fun x:N3 K=>if x.1=k then (x.1,x.2.1,v) else x) p=p from if_neg (fun q=>e (a.1.symm.trans q))];exact a
theorem Bl {kvs':List (N3 K)}{xs':List (List K×Addr×Value)}:∀{kvs:List (N3 K)}{xs:List (List K×Addr×Value)},tZ kvs xs→tZ kvs' xs'→tZ (kvs++kvs') (xs++xs')
 | _,_,.nil,q=>q
 | _,_,.cons a r,q=>.cons a (Bl r q)
theorem HY {k:List K}{v:V}{u:Value}{xs:List (List K×Addr×Value)} (r:tZ kvs xs) (rv:RelV v u):tZ (putN kvs k b v) (storedH xs k b u):=by
 have q:=(qD (k:=k) r).yM
 rw[Option.isSome_map] at q
 unfold putN storedH
 by_cases e:(valN kvs k).isSome=true
 ·rw[if_pos e,if_pos (by rw[←q];exact e)];exact Bk rv r
 ·rw[if_neg e,if_neg (by rw[←q];exact e)];exact Bl r (.cons ⟨rfl,rfl,rv⟩ .nil)
theorem HZ {k:List K}{v:V}:(putN kvs k b v).length≤kvs.length+1:=by
 unfold putN
 split
 ·rw[List.length_map];omega
 ·rw[List.length_append];exact Nat.le_refl _
theorem vO (d:H a=some (dN Z hl a kvs)) {o:HO}:∀ c xs,cB F H c xs→cB F (upd H a o) c xs:=fun c xs e=>by
 rcases e with (e | ⟨ob,e⟩) | e
 ·exact .inl (.inl ((aB (kT e d (fun q=>nomatch q))).trans e))
 ·exact .inl (.inr ⟨ob,(aB (kT e d (fun q=>nomatch q))).trans e⟩)
 ·exact .inr e
theorem Nd.put {k:List K}{v:V} (d:Nd Y hl H a kvs) (e:rQ Y H k b):Nd Y hl (upd H a (dN Z hl a (putN kvs k b v))) a (putN kvs k b v):=by
 refine⟨ah,fun p hp=>?_⟩
 have t:=vO (F:=F) d.ob (o:=dN Z hl a (putN kvs k b v))
 unfold putN at hp
 split at hp
 ·obtain⟨x,hx,rfl⟩:=List.mem_map.mp hp
  have:=(d.keys x hx).keep t
  split <;> exact this
 ·rcases List.mem_append.mp hp with q | q
  ·exact(d.keys p q).keep t
  ·rw[List.mem_singleton.mp q];exact e.keep t
end
section
variable {X:Cx}{K:Type} [DecidableEq K] {F:W.Frag}{Z:vh X.prog X.w K}{Y:tY F Z}{hl:Z.jc+1≤8}{pins:List (Addr×Obj)}{σ:St}{H:Hp}{s:Shared}{a b:Addr}{kvs:List (N3 K)}{k:List K}{v:V}{r:Value}{A:Around}{E:Value→Shared→Prop}
theorem E2 {Q:Value→Shared→Prop} (hu:A.units+1+(Z.jc+1) < cLine) (hF:X.K=F) (I:Inv X pins σ H s) (d:Nd Y hl H a kvs) (e:rQ Y H k b) (g:valN kvs k=some v) (h:∀ w' s',Inv X pins σ H s'→RelV v w'→Q w' s'):wpAny (model X.prog X.w) A (getItem (.ref a) (.ref b)) Q E s:=by
 obtain⟨z,y,xs,rel,dd⟩:=d.of hF I
 obtain⟨w',hw,rw'⟩:=mZ.some_of (v:=v) (o:=(atKey xs k).map (·.2)) (by rw[←g];exact qD rel)
 obtain⟨p,hp,hp2⟩:=Option.map_eq_some_iff.mp hw
 refine wpAny_getItem_heap (knd:=vN Z hl) hu (e.is hF I) dd hp ?_
 rw[hp2]
 exact h w' _ (I.tok _) rw'
theorem J8 {Q:Value→Shared→Prop} (hu:A.units+1+(Z.jc+1) < cLine) (hF:X.K=F) (I:Inv X pins σ H s) (d:Nd Y hl H a kvs) (e:rQ Y H k b) (h:∀ s',Inv X pins σ H s'→Q (.bool (!(valN kvs k).isSome)) s'):wpAny (model X.prog X.w) A (compareOp .NotIn (.ref b) (.ref a)) Q E s:=by
 obtain⟨z,y,xs,rel,dd⟩:=d.of hF I
 refine wpAny_notIn_heap (knd:=vN Z hl) hu (e.is hF I) y dd ?_
 have q:=(qD (k:=k) rel).yM
 rw[Option.isSome_map] at q
 rw[←q]
 exact h _ (I.tok _)
theorem E3 {Q:Unit→Shared→Prop} (hu:A.units+1+(Z.jc+1) < cLine) (hF:X.K=F) (I:Inv X pins σ H s) (d:Nd Y hl H a kvs) (e:rQ Y H k b) (hz:kvs.length < sizeLine) (rv:RelV v r) (h:∀ s',Inv X pins σ (upd H a (dN Z hl a (putN kvs k b v))) s'→Q () s'):wpAny (model X.prog X.w) A (setItem (.ref a) (.ref b) r) Q E s:=by
 obtain⟨z,y,xs,rel,dd⟩:=d.of hF I
 have hxz:xs.length≤sizeLine:=by rw[←Paired.length rel];exact z
 refine wpAny_setItem_heap (knd:=vN Z hl) (hsz:=hxz) hu (e.is hF I) dd fun h' Pj hs=>h _ ?_
 have he:∃ q,h'.get? a=some q:=let ⟨q,_,_,hq,_⟩:=Pj;⟨q,hq⟩
 have:=HZ (kvs:=kvs) (k:=k) (b:=b) (v:=v)
 exact I.write (x:=a) (e:=a) (by rw[d.ob];exact True.intro) (.inl rfl) (fun c q hc z=>(hs.2 c hc).trans z) he (HX (by omega) y (HY rel rv) Pj)
variable {o i value kx:Expr}{pos pos':Pos}{td ty tv:TE}
def LN {P:Program}{w:World}{K:Type} [DecidableEq K] {F:W.Frag}{Z:vh P w K} (Y:tY F Z) (hl:Z.jc+1≤8) (td ty:TE):TE:=fun σ H Q=>td σ H fun x H1=>ty σ H1 fun y H2=>∃ a kvs k b v,x=.ref a∧y=.ref b∧Nd Y hl H2 a kvs∧rQ Y H2 k b∧valN kvs k=some v∧Q v H2
def Eg {P:Program}{w:World}{K:Type} [DecidableEq K] {F:W.Frag}{Z:vh P w K} (Y:tY F Z) (hl:Z.jc+1≤8) (ty td:TE):TE:=fun σ H Q=>ty σ H fun y H1=>td σ H1 fun x H2=>∃ a kvs k b,x=.ref a∧y=.ref b∧Nd Y hl H2 a kvs∧rQ Y H2 k b∧Q (.bl (!(valN kvs k).isSome)) H2
def LO {P:Program}{w:World}{K:Type} [DecidableEq K] {F:W.Frag}{Z:vh P w K} (Y:tY F Z) (hl:Z.jc+1≤8) (td ty tv:TE):TS:=fun D σ H=>tv σ H fun v H1=>td σ H1 fun x H2=>ty σ H2 fun y H3=>∃ a kvs k b,x=.ref a∧y=.ref b∧Nd Y hl H3 a kvs∧rQ Y H3 k b∧kvs.length < sizeLine∧D.nx σ (upd H3 a (dN Z hl a (putN kvs k b v)))
def LP {P:Program}{w:World}{K:Type} [DecidableEq K] {F:W.Frag}{Z:vh P w K} (Y:tY F Z) (hl:Z.jc+1≤8) (tk tv:TE):TE:=fun σ H Q=>∀ p,H p=none→tk σ (upd H p (dN Z hl p [])) fun y H1=>tv σ H1 fun v H2=>∃ k b,y=.ref b∧H2 p=some (dN Z hl p [])∧rQ Y H2 k b∧Q (.ref p) (upd H2 p (dN Z hl p [(k,b,v)]))
theorem J9 (Y:tY F Z) (hl:Z.jc+1≤8) (hF:X.K=F) (hu:X.A.units+1+(Z.jc+1) < cLine) (ho:PE X o td) (hi:PE X i ty) (hs:MX i):PE X (.Subscript o i pos) (LN Y hl td ty):=by
 intro pins s σ H Q I h
 refine J7 PySem.F.slot_dict_getitem.lookup hs (cH (ho pins s σ H _ I h) fun u s1 ⟨x,H1,I1,rx,q1⟩=>cH (hi pins s1 σ H1 _ I1 q1) fun iv s2 ⟨y,H2,I2,ry,a,kvs,k,b,v,ex,ey,d,e,g,q2⟩=>?_)
 subst ex ey
 obtain rfl:u=Value.ref a:=rx
 obtain rfl:iv=Value.ref b:=ry
 obtain⟨_,_,xs,_,dd⟩:=d.of hF I2
 exact⟨dd.typeIs,E2 hu hF I2 d e g fun w' s3 I3 rw'=>⟨v,H2,I3,rw',q2⟩⟩
theorem E4 (Y:tY F Z) (hl:Z.jc+1≤8) (hF:X.K=F) (hu:X.A.units+1+(Z.jc+1) < cLine) (hi:PE X i ty) (ho:PE X o td):PC X .NotIn i o (Eg Y hl ty td):=by
 intro pins s σ H Q I h
 refine cH (hi pins s σ H _ I h) fun iv s1 ⟨y,H1,I1,ry,q1⟩=>cH (ho pins s1 σ H1 _ I1 q1) fun u s2 ⟨x,H2,I2,rx,a,kvs,k,b,ex,ey,d,e,q2⟩=>?_
 subst ex ey
 obtain rfl:u=Value.ref a:=rx
 obtain rfl:iv=Value.ref b:=ry
 exact J8 hu hF I2 d e fun s3 I3=>⟨.bl (!(valN kvs k).isSome),H2,I3,rfl,q2⟩
theorem Ka (Y:tY F Z) (hl:Z.jc+1≤8) (hF:X.K=F) (hu:X.A.units+1+(Z.jc+1) < cLine) (ho:PE X o td) (hi:PE X i ty) (hv:PE X value tv) (hs:swapsWith value (some (.Subscript o i pos')) pos.line X.env=pure false) :
  PS X (.Assign [.Subscript o i pos'] value pos) (LO Y hl td ty tv):=by
 intro pins s σ H D I h
 refine wpAny_Assign_Subscript (cH (hv pins s σ H _ I h) fun r s1 ⟨v,H1,I1,rv,q1⟩=>cH (ho pins s1 σ H1 _ I1 q1) fun u s2 ⟨x,H2,I2,rx,q2⟩=>cH (hi pins s2 σ H2 _ I2 q2) fun iv s3 ⟨y,H3,I3,ry,a,kvs,k,b,ex,ey,d,e,hz,q3⟩=>?_) hs
 subst ex ey
 obtain rfl:u=Value.ref a:=rx
 obtain rfl:iv=Value.ref b:=ry
 exact E3 hu hF I3 d e hz rv fun s4 I4=>⟨σ,_,I4,q3⟩
theorem Ia (Y:tY F Z) (hl:Z.jc+1≤8) (hF:X.K=F) (hu:X.A.units+(Z.jc+1) < cLine) {tk:TE} (hk:PE X kx tk) (hv:PE X value tv):PE X (.Dict [some kx] [value] pos) (LP Y hl tk tv):=by
 intro pins s σ H Q I q
 have hn:=I.hok.fresh (Nat.le_refl s.heap.objs.size)
 have y0:(s.heap.objs.size == sysModules)=false:=beq_eq_false_iff_ne.mpr (Ne.symm (Nat.ne_of_lt I.big))
 have I1:=I.laid (a:=s.heap.objs.size) (o:=dN Z hl s.heap.objs.size []) (h':=s.heap.push { cls:=.type "dict",data:=.dict #[] }) (t':=s.toks) (fun _ _ q=>Heap.get?_push_of_some _ q) (Nat.le_refl _) (HX (xs:=[]) (Nat.zero_le _) y0 .nil (Heap.DictOfH.new s.heap))
 refine wpAny_Dict_any rfl rfl (fun z=>nomatch z) (by show 1≤15;decide) (pairTrees_cons_walk (cH (hk pins _ σ _ _ I1 (q _ hn)) fun u s1 ⟨x,H1,I1',rx,q1⟩=>cH (hv pins s1 σ H1 _ I1' q1) fun vu s2 ⟨v,H2,I2,rv,k,b,ex,e,ek,q2⟩=>pairTrees_nil_walk ?_))
 subst ex
 obtain rfl:u=Value.ref b:=rx
 have d0:Nd Y hl H2 s.heap.objs.size []:=⟨e,fun x hx=>nomatch hx⟩
 obtain⟨z,y,xs,rel,dd⟩:=d0.of hF I2
 cases rel
 unfold storeAll
 refine wpAny_forIn_list _ (fun rest _ s'=>(rest=[(Value.ref b,vu)]∧s'=s2)∨(rest=[]∧EP X pins σ Q (Value.ref s.heap.objs.size) s')) _ ?_ ?_ _ _ (.inl ⟨rfl,rfl⟩)
 ·rintro x rest u s' (⟨e1,rfl⟩ | ⟨e1,_⟩)
  ·cases e1
   refine wpAny_bind (wpAny_dictSet_heap (knd:=vN Z hl) (hsz:=Nat.zero_le _) hu (ek.is hF I2) dd fun h' Pj hs=>wpAny_pure (.inr ⟨rfl,.ref s.heap.objs.size,_,?_,rfl,q2⟩))
   have he:∃ q,h'.get? s.heap.objs.size=some q:=let ⟨q,_,_,hq,_⟩:=Pj;⟨q,hq⟩
   exact I2.write (x:=s.heap.objs.size) (e:=s.heap.objs.size) (by rw[e];exact True.intro) (.inl rfl) (fun c q hc z=>(hs.2 c hc).trans z) he (HX (by show 1≤sizeLine;decide) y (.cons ⟨rfl,rfl,rv⟩ .nil) Pj)
  ·cases e1
 ·rintro u s' (⟨e1,_⟩ | ⟨_,q⟩)
  ·cases e1
  ·exact q
end
section
variable {X:Cx}{K:Type} [DecidableEq K] {F:W.Frag}{Z:vh X.prog X.w K}
def W2 {P:Program}{w:World}{K:Type} [DecidableEq K] {F:W.Frag}{Z:vh P w K} (Y:tY F Z):R2:=fun x y H Q=>∃ b b' ks ks',x=.ref b∧y=.ref b'∧rQ Y H ks b∧rQ Y H ks' b'∧Q (.bl (decide (ks=ks'))) H
theorem Ib (Y:tY F Z) (hF:X.K=F) (hu:X.A.units+(Z.jc+1) < cLine):lO X (compareOp .Eq) (W2 Y):=by
 intro pins s σ H x y v u Q I rx ry h
 obtain⟨b,b',ks,ks',rfl,rfl,e1,e2,q⟩:=h
 cases rx;cases ry
 obtain⟨o,items,n,h1,h2,h3,h4⟩:=e1.is hF I
 obtain⟨o',items',n',WX,h2',h3',QF⟩:=e2.is hF I
 have l1:ks.length=items.size:=by rw[Paired.length h4,Array.length_toList]
 have l2:ks'.length=items'.size:=by rw[Paired.length QF,Array.length_toList]
 refine SeqAt.eq_tupleAt (e:=fun j=>decide (ks[j]? = ks'[j]?)) ⟨o,h1,h2,n,h3⟩ ⟨o',WX,h2',n',h3'⟩ (by omega) (fun j j1 j2=>?_) ⟨.bl (decide (ks=ks')),H,I,?_,q⟩
 ·obtain⟨k,ek,hk⟩:=jL h4 j items[j] (by simp[j1])
  obtain⟨k',WY,hk'⟩:=jL QF j items'[j] (by simp[j2])
  rw[ek,WY,show decide (some k=some k')=decide (k=k') by simp]
  exact Z.eq (by show X.A.units+1+Z.jc < cLine;omega) hk hk'
 ·show Value.bool _=Value.bool _
  rw[←l1,←l2,vM]
end
abbrev ZM (P:Program) (w:World):=stepK (Bh P w)
abbrev YL (P:Program) (w:World) (F:W.Frag):=HV P w F
abbrev YM (P:Program) (w:World) (F:W.Frag):tY F (ZM P w):=QL (HV P w F)
theorem bK (P:Program) (w:World):(ZM P w).jc+1≤8:=by show 2≤8;decide
theorem hn0 {A:Around}{P:Program}{w:World} (h:A.units+64 < cLine):A.units+((Bh P w).jc+1) < cLine:=by show A.units+1 < cLine;omega
theorem hn1 {A:Around}{P:Program}{w:World} (h:A.units+64 < cLine):A.units+((ZM P w).jc+1) < cLine:=by show A.units+2 < cLine;omega
theorem hn2 {A:Around}{P:Program}{w:World} (h:A.units+64 < cLine):A.units+1+((ZM P w).jc+1) < cLine:=by show A.units+1+2 < cLine;omega
def Bm (k s:Str):List Lf:=[some (.inr k),some (.inr s)]
def cD (m:(Str×Str)×Nat):List (Lf ⊕ List Lf):=[.inr (Bm m.1.1 m.1.2),.inl (some (.inl m.2))]
theorem kZ {k s k' s':Str}:Bm k s=Bm k' s'↔(k,s)=(k',s'):=by
 unfold Bm
 constructor
 ·intro h;injection h with h1 h2;injection h2 with h2 _;injection h1 with h1;injection h2 with h2;injection h1 with h1;injection h2 with h2;rw[h1,h2]
 ·intro h;injection h with h1 h2;rw[h1,h2]
theorem rR {m m':(Str×Str)×Nat}:cD m=cD m'↔m=m':=by
 unfold cD
 constructor
 ·intro h
  injection h with h1 h2
  injection h2 with h2 _
  injection h1 with h1
  injection h2 with h2;injection h2 with h2;injection h2 with h2
  have e:=kZ.mp h1
  obtain⟨⟨a,b⟩,n⟩:=m
  obtain⟨⟨a',b'⟩,n'⟩:=m'
  injection e with e1 e2
  have h2:n=n':=Int.ofNat.inj h2
  simp only at e1 e2
  rw[e1,e2,h2]
 ·rintro rfl;rfl
section
variable {P:Program}{w:World}{F:W.Frag}{H:Hp}
theorem qE {a:Addr}{k s:Str} (h:cB F H a [.str k,.str s]):rQ (YL P w F) H (Bm k s) a:=⟨_,h,.cons rfl (.cons rfl .nil)⟩
theorem j9 {b s:Addr}{m:(Str×Str)×Nat} (h:cB F H b [.ref s,.int m.2]) (h2:cB F H s [.str m.1.1,.str m.1.2]):rQ (YM P w F) H (cD m) b:=⟨_,h,.cons ⟨s,rfl,qE h2⟩ (.cons rfl .nil)⟩
end
section
variable {X:Cx}{P:Program}{w:World}{K:Type} [DecidableEq K] {F:W.Frag}{Z:vh P w K}{o i value kx:Expr}{pos pos':Pos}{td ty tv tk:TE}
theorem Bo (Y:tY F Z) (hl:Z.jc+1≤8) (hP:X.prog=P) (hw:X.w=w) (hF:X.K=F) (hu:X.A.units+1+(Z.jc+1) < cLine) (ho:PE X o td) (hi:PE X i ty) (hs:MX i):PE X (.Subscript o i pos) (LN Y hl td ty):=by
 subst hP hw;exact J9 Y hl hF hu ho hi hs
theorem CI (Y:tY F Z) (hl:Z.jc+1≤8) (hP:X.prog=P) (hw:X.w=w) (hF:X.K=F) (hu:X.A.units+1+(Z.jc+1) < cLine) (hi:PE X i ty) (ho:PE X o td):PC X .NotIn i o (Eg Y hl ty td):=by
 subst hP hw;exact E4 Y hl hF hu hi ho
theorem Ic (Y:tY F Z) (hl:Z.jc+1≤8) (hP:X.prog=P) (hw:X.w=w) (hF:X.K=F) (hu:X.A.units+1+(Z.jc+1) < cLine) (ho:PE X o td) (hi:PE X i ty) (hv:PE X value tv) (hs:swapsWith value (some (.Subscript o i pos')) pos.line X.env=pure false) :
  PS X (.Assign [.Subscript o i pos'] value pos) (LO Y hl td ty tv):=by
 subst hP hw;exact Ka Y hl hF hu ho hi hv hs
theorem E5 (Y:tY F Z) (hl:Z.jc+1≤8) (hP:X.prog=P) (hw:X.w=w) (hF:X.K=F) (hu:X.A.units+(Z.jc+1) < cLine) (hk:PE X kx tk) (hv:PE X value tv):PE X (.Dict [some kx] [value] pos) (LP Y hl tk tv):=by
 subst hP hw;exact Ia Y hl hF hu hk hv
end
section
variable {prog:Program}{w:World}{A:Around}{E:Value→Shared→Prop}{s:Shared}
theorem t9 {R:Result→Shared→Prop} (hh:A.handled=none) {I l:Addr}{items:List Value} (hne:l≠I) (hit:s.heap.IsRevIter I l ((items.toArray.size:Int) - 1)) (hl:s.heap.IsList l items.toArray) (hn:items.toArray.size≤sizeLine)
  (hR:∀ h' tk acc' c',(∀ b o,b≠I→s.heap.get? b=some o→h'.get? b=some o)→h'.get? s.heap.objs.size=some { cls:=.type "list",dict:=none,data:=.seq acc' c',slots:=#[] }→acc'.toList=items.reverse→R (.ok (.ret (.ref s.heap.objs.size))) { s with heap:=h',toks:=tk }) :
  codeAny (model prog w) A (.builtin "proto.collect" ⟨[.ref I],[]⟩) R s:=by
 refine codeAny_builtin F.entry_proto_collect ?_;rw[Around.under_plainId F.plain_proto_collect _]
 show wpAny _ A.in1 (newList [] >>= fun l=>again (.builtin "list.__iadd__" ⟨[l,.ref I],[]⟩)) _ _ s;refine wpAny_bind (wpAny_newObj_type ?_)
 refine wpAny_pure ⟨plainId_quiet F.plain_list_iadd _,codeAny_builtin F.entry_list_iadd ?_⟩
 rw[Around.under_plainId F.plain_list_iadd _]
 have hS:(s.heap.push { cls:=.type "list",data:=.seq #[] }).get? s.heap.objs.size=some { cls:=.type "list",data:=.seq #[] }:=Heap.get?_push_size _ rfl
 have hlt:l < s.heap.objs.size:=by obtain⟨o,ho,_⟩:=hl;exact Heap.lt_size ho
 show wpAny _ A.in1 (Builtin.List.listExtendWith (.ref s.heap.objs.size) (.ref I) (.ref s.heap.objs.size)) _ _ _
 exact CG (R:=R) (s:={ s with heap:=s.heap.push { cls:=.type "list",data:=.seq #[] } }) hh hne (hit.at fun o e=>Heap.get?_push_of_some _ e) (hl.at fun o e=>Heap.get?_push_of_some _ e) _ (Nat.ne_of_gt hlt) _ _ hS hn fun h' tk acc' c' hk hS' hacc =>
  hR h' tk acc' c' (fun b o hb e=>hk b o (Nat.ne_of_lt (Heap.lt_size e)) hb (Heap.get?_push_of_some _ e)) hS' (EV hacc)
theorem Bp {Q:List Value→Shared→Prop} (hh:A.handled=none) {I l:Addr}{items:List Value} (hne:l≠I) (hit:s.heap.IsRevIter I l ((items.toArray.size:Int) - 1)) (hl:s.heap.IsList l items.toArray) (hn:items.toArray.size≤sizeLine)
  (hQ:∀ h' tk,(∀ b o,b≠I→s.heap.get? b=some o→h'.get? b=some o)→Q items.reverse { s with heap:=h',toks:=tk }):wpAny (model prog w) A (collect (.ref I)) Q E s:=by
 unfold collect
 refine wpAny_bind (wpAny_runValue (t9 hh hne hit hl hn fun h' tk acc' c' hk hS' hacc=>?_))
 show wpAny _ A (load s.heap.objs.size >>= _) _ _ _
 refine wpAny_bind (wpAny_load hS' (wpAny_pure ?_))
 show Q acc'.toList _
 rw[hacc]
 exact hQ h' tk hk
theorem Ie {x:Str}{t:Tok}{Q:Value→Shared→Prop} (hh:A.handled=none) {I l:Addr}{items:List Value}{ys:List Str} (hne:l≠I) (hit:s.heap.IsRevIter I l ((items.toArray.size:Int) - 1)) (hl:s.heap.IsList l items.toArray) (hn:items.toArray.size≤sizeLine) (hi:StrsAre items.reverse ys) (hok:(ys.map (·.length)).sum+ys.length * x.length≤16777216)
  (hQ:∀ h' t' k,(∀ b o,b≠I→s.heap.get? b=some o→h'.get? b=some o)→Q (.str (Txt.join x ys) t') { s with heap:=h',toks:=k }):wpAny (model prog w) A (call (.builtin "str.join") [.str x t,.ref I]) Q E s:=by
 refine wpAny_call (codeAny_call_builtin F.slot_str_join.plain F.entry_str_join (F.slot_str_join.check _ _ _ _ _ _ _ _ (typeIs_str _ _ _) (F.args_str_join_2 _ _) ?_))
 rw[join_tree_other]
 refine wpAny_bind (wpAny_typeOf hit.typeIs ?_)
 show wpAny _ A.in1 ((pyIter (.ref I)).tryCatch _ >>= fun it=>collect it >>= fun items=>joinTail x items) _ _ s
 refine wpAny_bind (wpAny_tryCatch (wpAny_pyIter_revIter hit ?_))
 refine wpAny_bind (Bp (A:=A.in1) hh hne hit hl hn fun h' tk hk=>?_)
 obtain⟨lt,hv,ht⟩:=strsAre_values hi
 rw[hv]
 have ok:=joinOk_of hok
 subst ht
 unfold JoinOk at ok
 rw[Bool.not_eq_true'] at ok
 have g:Gives (joinTail x (strValues lt)) (joinMade x lt):=by
  have g0:=gives_joinTail x lt ok
  cases lt with
  | nil=>exact g0
  | cons p r=>cases r with
   | nil=>exact g0
   | cons q r'=>exact g0
 exact g prog w A (wants Q E) _ (post_join lt ⟨joinFit_length ok,fun t' k=>hQ h' t' k hk⟩)
end
section
variable {X:Cx}{e:Expr}
def Bq (K:W.Frag) (tx:TE) (ta:TA):TE:=fun σ H Q=>tx σ H fun x H0=>∃ z,x=.str z∧ta σ H0 fun vs H1=>∃ p,∃ ys:List Str,vs=[.ref p]∧bE K H1 p (ys.map V.str)∧(ys.map (·.length)).sum+ys.length * z.length≤16777216∧Q (.str (Txt.join z ys.reverse)) H1
theorem vP:∀{its:List Value}{ys:List Str},Vals (ys.map V.str) its→StrsAre its ys
 | _,[],h=>by cases h;exact .nil
 | _,y :: ys,h=>by cases h with | cons a b=>obtain⟨t,rfl⟩:=a;exact .cons _ _ (vP b)
theorem CJ {o:Expr}{apos p2 pos2 cpos:Pos}{tx:TE}{ta:TA} (hc:X.calm=true) (W3:Gl X "reversed") (hm2:X.mg "reversed" = none) (hx:PE X o tx) (ha:PA X [e] ta)
  (hbase:attributeBase o "join" X.env (eval o X.env)=eval o X.env:=by rfl)
  (hfew:((backTo cpos (starEach [.Call (.Name "reversed" p2) [e] [] pos2] X.env)).all (fun x=>!x.1) && (backToKw cpos (keywordEach [] X.env)).all (fun x=>x.1.isSome)
   && decide (([.Call (.Name "reversed" p2) [e] [] pos2]:List Expr).length+([]:List Keyword).length+(if ([]:List Keyword).isEmpty then 0 else 1) < 30))=true:=by rfl)
  (hline:(apos.endLine == cpos.line)=true:=by rfl)
  (h1:starEach [.Call (.Name "reversed" p2) [e] [] pos2] X.env=[(false,eval (.Call (.Name "reversed" p2) [e] [] pos2) X.env)]:=by rfl) (h2:starEach [e] X.env=[(false,eval e X.env)]:=by rfl) :
  PE X (.Call (.Attribute o "join" apos) [.Call (.Name "reversed" p2) [e] [] pos2] [] cpos) (Bq X.K tx ta):=by
 intro pins s σ H Q I h
 refine wpAny_Call_method_late hbase hfew hline rfl (cH (hx pins s σ H _ I h) fun v s1 ⟨x,H0,I0,r0,z,hz,q0⟩=>?_)
 subst hz
 obtain⟨t1,t2⟩:=Hv I0 r0 (T := "str") rfl
 refine⟨"str", "str.join",F.plainAttrs_str,F.slot_str_join,rfl,t1,t2,?_⟩
 rw[h1]
 refine Calls.callWith_builtin rfl (Calls.evalArgs_plain ?_)
 refine Calls.spliced_cons ?_
 refine wpAny_Call_Name_kw (rN I0 W3 hm2 boot_reversed ?_ (by decide) (by decide))
 refine PyProof.Rows.callWith_type1 (cH (ha pos2 pins s1 σ H0 _ I0 q0) fun us s2 ⟨vs,H1,I1,r1,q1⟩=>?_) h2 rfl
 obtain⟨p,ys,rfl,hq,hok,q⟩:=q1
 obtain⟨u,rfl,ru⟩:=vals1 r1
 cases ru
 obtain⟨its,rv,pl,hz⟩:=I1.list hq
 have hlen:=rv.length
 refine call_reversed_list pl.isList ?_
 refine Calls.spliced_nil ?_
 have hnew:s2.heap.objs.size≤s2.heap.objs.size:=Nat.le_refl _
 have I2:Inv X pins σ H1 { s2 with heap:=s2.heap.push (revObj p ((its.toArray.size:Int) - 1)) }:=I1.kept (t':=s2.toks) fun b o e=>Heap.get?_push_of_some _ e
 have hpl:p < s2.heap.objs.size:=by obtain⟨o,ho,_⟩:=pl.isList;exact Heap.lt_size ho
 have f0:=I1.zu hnew (I1.hok.fresh hnew)
 obtain⟨t0,rfl⟩:=r0
 refine Ie (s:={ s2 with heap:=s2.heap.push (revObj p ((its.toArray.size:Int) - 1)) }) (items:=its) (I.ok.hd hc) (Nat.ne_of_lt hpl) ⟨_,Heap.get?_push_size _ rfl,rfl,rfl⟩ (pl.isList.at fun o e=>Heap.get?_push_of_some _ e) (by rw[List.size_toArray];omega) (ys:=ys.reverse) (vP (by rw[List.map_reverse];exact rv.reverse)) (by rw[List.map_reverse,List.sum_reverse,List.length_reverse];exact hok) fun h' t' tk hk=>?_
 have I4:=I2.turned (t':=tk) (h':=h') (it:=s2.heap.objs.size) hk f0.1 f0.2.1 f0.2.2.2.1 f0.2.2.2.2.1 f0.2.2.2.2.2
 exact⟨.str _,_,I4,⟨t',rfl⟩,q⟩
theorem Br (K:W.Frag) (h:X.K=K) {o:Expr}{apos p2 pos2 cpos:Pos}{tx:TE}{ta:TA} (hc:X.calm=true) (W3:Gl X "reversed") (hm2:X.mg "reversed" = none) (hx:PE X o tx) (ha:PA X [e] ta)
 (hbase:attributeBase o "join" X.env (eval o X.env)=eval o X.env:=by rfl)
 (hfew:((backTo cpos (starEach [.Call (.Name "reversed" p2) [e] [] pos2] X.env)).all (fun x=>!x.1) && (backToKw cpos (keywordEach [] X.env)).all (fun x=>x.1.isSome)
  && decide (([.Call (.Name "reversed" p2) [e] [] pos2]:List Expr).length+([]:List Keyword).length+(if ([]:List Keyword).isEmpty then 0 else 1) < 30))=true:=by rfl)
 (hline:(apos.endLine == cpos.line)=true:=by rfl)
 (h1:starEach [.Call (.Name "reversed" p2) [e] [] pos2] X.env=[(false,eval (.Call (.Name "reversed" p2) [e] [] pos2) X.env)]:=by rfl) (h2:starEach [e] X.env=[(false,eval e X.env)]:=by rfl) :
 PE X (.Call (.Attribute o "join" apos) [.Call (.Name "reversed" p2) [e] [] pos2] [] cpos) (Bq K tx ta):=by subst h;exact CJ hc W3 hm2 hx ha hbase hfew hline h1 h2
end
section
variable {X:Cx}
end
section
variable {X:Cx}
def QN:R2:=fun x y H Q=>∃(z:Str) (k:Int),x=.str z∧y=.int k∧0≤k∧k < 1000000∧z.length * k.toNat≤10000000∧z.length≤10000000∧Q (.str (p6 z k.toNat)) H
theorem Ig (z:Str):p6 z 1=z:=by
 unfold p6
 show(⟨#[]++z.cps⟩:Str)=z
 rw[Array.empty_append]
theorem MZ {z:Str} (h:z.length=0) (n:Nat):p6 z n=z:=by
 have e:z.cps = #[]:=Array.eq_empty_of_size_eq_zero h
 have key:∀ n:Nat,(List.replicate n (#[]:Array Nat)).foldl (· ++ ·) (#[]:Array Nat) = #[]:=fun n=>by
  induction n with
  | zero=>rfl
  | succ n ih=>rw[List.replicate_succ,List.foldl_cons,Array.append_empty];exact ih
 obtain⟨c⟩:=z
 have e:c = #[]:=e
 unfold p6
 show(⟨(List.replicate n c).foldl (· ++ ·) #[]⟩:Str)=⟨c⟩
 rw[e,key n]
theorem zB:lO X (binaryOp .Mult) QN:=by
 intro pins s σ H x y v u Q I rx ry h
 obtain⟨z,k,rfl,rfl,hk,hk2,hl,hz,q⟩:=h
 obtain⟨t,rfl⟩:=rx
 obtain⟨t',rfl⟩:=ry
 have tl:Builtin.Str.tooLong (z.length * k.toNat)=false:=by
  unfold Builtin.Str.tooLong
  have hsl:10000000≤sizeLine:=by decide
  simp
  omega
 refine P.mul_str (by simp;omega) (fun _ _=>?_) (fun _ _=>tl) ?_
 ·intro h
  have h3:(10000000:Int)≤(2 ^ 63 - 1) / k:=by
   rw[Int.le_ediv_iff_mul_le (by omega)]
   omega
  omega
 ·by_cases e1:k < 1
  ·rw[if_pos e1]
   have:k=0:=by omega
   subst this
   exact⟨by decide,.str _,H,I.tok _,⟨_,rfl⟩,q⟩
  ·rw[if_neg e1]
   cases e2:(k == 1 || z.length == 0) with
   | true =>
    rw[if_pos rfl]
    have er:p6 z k.toNat=z:=by
     rw[Bool.or_eq_true] at e2
     rcases e2 with e | e
     ·have:k=1:=by simpa using e
      subst this;exact Ig z
     ·exact MZ (by simpa using e) _
    rw[er] at q
    exact⟨.str _,H,I,⟨_,rfl⟩,q⟩
   | false =>
    rw[if_neg (by decide)]
    exact⟨fits_reps tl,⟨.str _,H,I.tok _,⟨_,rfl⟩,q⟩⟩
end
open PySem
theorem rdT {A B:Prop}{b:Bool} (hb:b=true) (h:A):if b=true then A else B:=by rw[if_pos hb];exact h
theorem W4 {A B:Prop}{b:Bool} (hb:b=false) (h:B):if b=true then A else B:=by rw[if_neg (by rw[hb];decide)];exact h
theorem V4 {p A B:Prop} [Decidable p] (hp:p) (h:A):if decide p=true then A else B:=rdT (decide_eq_true hp) h
theorem E6 {p A B:Prop} [Decidable p] (hp:¬p) (h:B):if decide p=true then A else B:=W4 (decide_eq_false hp) h
theorem W5 {p A B:Prop} [Decidable p] (hp:p) (h:B):if (!decide p)=true then A else B:=W4 (by rw[decide_eq_true hp];rfl) h
theorem W6 {p A B:Prop} [Decidable p] (hp:¬p) (h:A):if (!decide p)=true then A else B:=rdT (by rw[decide_eq_false hp];rfl) h
theorem rdI {A B:Prop}{a b:Int} (hp:a=b) (h:A):if decide (V.int a=V.int b)=true then A else B:=V4 (by rw[hp]) h
theorem W7 {A B:Prop}{a b:Int} (hp:¬a=b) (h:B):if decide (V.int a=V.int b)=true then A else B:=E6 (fun e=>hp (V.int.inj e)) h
theorem QO {p A B:Prop} [Decidable p] (h1:p→A) (h2:¬p→B):if decide p=true then A else B:=by
 by_cases h:p
 ·exact V4 h (h1 h)
 ·exact E6 h (h2 h)
theorem W8 {A B:Prop}{a b:Int} (h1:a=b→A) (h2:¬a=b→B):if decide (V.int a=V.int b)=true then A else B:=by
 by_cases h:a=b
 ·exact rdI h (h1 h)
 ·exact W7 h (h2 h)
section
variable {prog:Program}{w:World}{A:Around}{E:Value→Shared→Prop}{s:Shared}
end
section
variable {X:Cx}{e:Expr}{te:TE}
end
section
variable {prog:Program}{w:World}{A:Around}{E:Value→Shared→Prop}{s:Shared}
end
def M0 (h₀:Heap) (H:Hp) (h:Heap) (e:Addr) (vs:Array Value):Option Value→Prop
 | none=>vs[1]? = some .none∧vs[2]? = some .none
 | some v=>∃ T oT ts,vs[1]? = some (.ref T)∧H T=none∧h₀.get? T=none∧T≠e∧h.get? T=some oT∧oT.data=.fields ts∧ts[3]? = some v∧vs[2]? = some .none
theorem M0.cx {h₀:Heap}{H:Hp}{h:Heap}{e:Addr}{vs:Array Value}{fl:Option Value} (x:M0 h₀ H h e vs fl):vs[2]? = some .none:=by
 cases fl with
 | none=>exact x.2
 | some v=>obtain⟨_,_,_,_,_,_,_,_,_,_,z⟩:=x;exact z
structure Exc (h₀:Heap) (H:Hp) (h:Heap) (e:Addr) (C:Value) (od:Option Addr) (fl:Option Value):Prop where
 fr:H e=none
 nw:h₀.get? e=none
 tr:∃ oe vs,h.get? e=some oe∧oe.cls=C∧oe.dict=od∧oe.data=.fields vs∧M0 h₀ H h e vs fl
structure Mv (fs ch:List Addr) (h h':Heap):Prop where
 keep:∀ b o,b∉ch→b∉fs→h.get? b=some o→h'.get? b=some o
 slot:∀ b o,b∉ch→h.get? b=some o→∃ sl,h'.get? b=some { o with slots:=sl }
 there:∀ b o,h.get? b=some o→∃ o',h'.get? b=some o'
theorem Mv.trans {fs ch:List Addr}{h h1 h2:Heap} (a:Mv fs ch h h1) (b:Mv fs ch h1 h2):Mv fs ch h h2 :=
 ⟨fun c o n1 n2 q=>b.keep c o n1 n2 (a.keep c o n1 n2 q),fun c o n q=>let ⟨sl,q1⟩:=a.slot c o n q;let ⟨sl2,q2⟩:=b.slot c _ n q1;⟨sl2,q2⟩,fun c o q=>let ⟨o1,q1⟩:=a.there c o q;b.there c o1 q1⟩
theorem Mv.mono {fs fs' ch ch':List Addr}{h h':Heap} (a:Mv fs ch h h') (hf:∀ b∈fs,b∈fs') (hc:∀ b∈ch,b∈ch'):Mv fs' ch' h h' :=
 ⟨fun c o n1 n2 q=>a.keep c o (fun z=>n1 (hc c z)) (fun z=>n2 (hf c z)) q,fun c o n q=>a.slot c o (fun z=>n (hc c z)) q,a.there⟩
theorem Mv.refl {fs ch:List Addr}{h:Heap}:Mv fs ch h h:=⟨fun _ _ _ _ q=>q,fun _ o _ q=>⟨o.slots,q⟩,fun _ o q=>⟨o,q⟩⟩
theorem Mv.of_slots {fs ch:List Addr}{h h':Heap} (x:Heap.SlotsOnly fs h h'):Mv fs ch h h' :=
 ⟨fun b o _ n q=>(x.2.1 b n).trans q,fun b o _ q=>x.2.2 b o q,fun b o q=>let ⟨sl,e⟩:=x.2.2 b o q;⟨_,e⟩⟩
theorem Mv.push {fs ch:List Addr}{h:Heap} (o:Obj):Mv fs ch h (h.push o) :=
 ⟨fun b u _ _ q=>Heap.get?_push_of_some _ q,fun b u _ q=>⟨u.slots,Heap.get?_push_of_some _ q⟩,fun b u q=>⟨u,Heap.get?_push_of_some _ q⟩⟩
theorem Mv.upd {fs ch:List Addr}{h:Heap}{a:Addr}{f:Obj→Obj}{o:Obj} (ha:a∈ch) (q:h.get? a=some o) (hf:(f o).isFreed=false):Mv fs ch h (h.update a f):=by
 have ne:∀ b,b∉ch→a≠b:=fun b n z=>n (z ▸ ha)
 refine⟨fun b u n _ e=>(Heap.get?_update_other _ _ (ne b n)).trans e,fun b u n e=>⟨u.slots,(Heap.get?_update_other _ _ (ne b n)).trans e⟩,fun b u e=>?_⟩
 by_cases hb:a=b
 ·subst hb;exact⟨_,Heap.get?_update_self _ q hf⟩
 ·exact⟨u,(Heap.get?_update_other _ _ hb).trans e⟩
theorem Mv.frames {fs ch:List Addr}{h h' base:Heap} (x:Mv fs ch h h') {l:List Env} (hl:h.FunFrames base l) (hc:∀ b∈ch,∀ o,h.get? b=some o→∃ vs,o.data=.fields vs):h'.FunFrames base l :=
 hl.of_keeps fun b o q nf=>by
  have n:b∉ch:=fun z=>let ⟨vs,e⟩:=hc b z o q;nf vs e
  obtain⟨sl,e⟩:=x.slot b o n q
  exact⟨_,e,rfl⟩
section
variable {M:Model}{A:Around}{E:Value→Shared→Prop}{s:Shared}{base:Heap}{env:Env}{outer:List Env}{L e:Addr}{Q:Unit→Shared→Prop}
theorem yN {oe:Obj}{vs:Array Value}{head:Value}{hn:Bool} (hfr:A.frames=some (env :: outer)) (hl:s.heap.FunFrames base (env :: outer)) (hf:env.frame=some L)
  (he:s.heap.get? e=some oe) (hd:oe.data=.fields vs) (hsz:1 < vs.size)
  (k:∀ h' T oT ts,Mv (frs (env :: outer)) [e] s.heap h'→s.heap.objs.size≤T→T≠e→h'.get? e=some (oe.mapFields (·.setIfInBounds 1 (.ref T)))→h'.get? T=some oT→oT.data=.fields ts→ts[3]? = some (rawInt L)→Q () { s with heap:=h' }) :
  wpAny M A (do let a ←frameOf env;let pl ←entryPlaceOf L hn;let b ←EntryCells.newEntry head a .none (rawInt L) .none pl;setField (.ref e) 1 b) Q E s:=by
 have hnf:e∉(env :: outer).filterMap (·.frame):=fun z=>by
  obtain⟨_,o,ho,nf⟩:=hl.mem z
  rw[he] at ho
  cases ho
  exact nf vs hd
 refine wpAny_bind (wpAny_frameOf_fun hfr hl hf fun h1 s1=>wpAny_bind (wpAny_entryPlaceOf fun pl hpl=>?_))
 unfold EntryCells.newEntry newFields
 refine wpAny_bind (wpAny_newObj_type ?_ (hpl.sizeOk5 _ _ _ _ _))
 have e1:h1.get? e=some oe:=(s1.2.1 e hnf).trans he
 have e2:=fun o=>Heap.get?_push_of_some (h:=h1) o e1
 refine wpAny_setField (e2 _) hd hsz ?_
 have hne:h1.objs.size≠e:=Nat.ne_of_gt (Heap.lt_size e1)
 have fd:=Obj.data_mapFields hd (·.setIfInBounds 1 (Value.ref h1.objs.size))
 have m1:Mv (frs (env :: outer)) [e] s.heap h1:=Mv.of_slots s1
 refine k _ h1.objs.size _ _ ((m1.trans (Mv.push _)).trans (Mv.upd (List.mem_singleton.mpr rfl) (e2 _) (Obj.isFreed_of_fields fd))) ?_ hne (Heap.get?_update_self _ (e2 _) (Obj.isFreed_of_fields fd)) ((Heap.get?_update_other _ _ (Ne.symm hne)).trans (Heap.get?_push_size h1 rfl)) rfl ?_
 ·rw[s1.1];exact Nat.le_refl _
 ·first | (simp;done) | (rcases hpl with rfl | ⟨_,_,_,_,_,_,_,rfl⟩ <;> simp)
end
section
variable {M:Model}{A:Around}{E:Value→Shared→Prop}{s:Shared}{base h₀:Heap}{H:Hp}{env:Env}{outer:List Env}{L e:Addr}{C:Value}{od:Option Addr}{Q:Unit→Shared→Prop}
def M1 (h₀:Heap) (H:Hp) (ch:List Addr):Prop:=∀ b∈ch,H b=none∧h₀.get? b=none
theorem vQ (oe:Obj) (f:Array Value→Array Value):(oe.mapFields f).cls=oe.cls:=Obj.cls_mapFields _ _
theorem rS (oe:Obj) (f:Array Value→Array Value):(oe.mapFields f).dict=oe.dict:=by
 obtain⟨c,d,dt,sl⟩:=oe
 cases dt <;> rfl
theorem Bs {fl:Option Value} (hfr:A.frames=some (env :: outer)) (hl:s.heap.FunFrames base (env :: outer)) (hf:env.frame=some L)
  (x:Exc h₀ H s.heap e C od fl) (hfl:fl=none∨fl=some .none∨fl=some (rawInt L))
  (ht:∀ b o,h₀.get? b=some o→∃ o',s.heap.get? b=some o') (hH:∀ b,s.heap.objs.size≤b→H b=none)
  (k:∀ h' ch,M1 h₀ H ch→Mv (frs (env :: outer)) ch s.heap h'→Exc h₀ H h' e C od (some (rawInt L))→Q () { s with heap:=h' }) :
  wpAny M A (noteFrame (.ref e) env) Q E s:=by
 obtain⟨fr,nw,oe,vs,he,hc,hdi,hd,fa⟩:=x
 have QS:∀ T,s.heap.get? T=none→h₀.get? T=none:=fun T hT=>by
  cases q:h₀.get? T with
  | none=>rfl
  | some o=>obtain⟨o',z⟩:=ht T o q;rw[hT] at z;cases z
 unfold noteFrame
 simp only[hf]
 rcases hfl with rfl | rfl | rfl
 ·obtain⟨h1,M3⟩:=fa
  refine wpAny_bind (wpAny_field he hd h1 ?_)
  rw[if_neg (by decide)]
  have hsz:=(Array.getElem?_eq_some_iff.mp h1).1
  refine yN hfr hl hf he hd hsz fun h' T oT ts m zT hne e1 eT dT t3=>?_
  have nT:s.heap.get? T=none:=Heap.get?_none_of_le zT
  have hT:H T=none:=hH T zT
  refine k h' [e] (fun b hb=>?_) m ⟨fr,nw,_,_,e1,(vQ _ _).trans hc,(rS _ _).trans hdi,Obj.data_mapFields hd _,T,oT,ts,by simp[hsz],hT,QS T nT,hne,eT,dT,t3,by rw[Array.getElem?_setIfInBounds_ne (by decide)];exact M3⟩
  rw[List.mem_singleton.mp hb]
  exact⟨fr,nw⟩
 ·obtain⟨T0,o0,t0,h1,n0,w0,LQ,q0,d0,z3,M3⟩:=fa
  refine wpAny_bind (wpAny_field he hd h1 ?_)
  rw[if_pos (show(Value.ref T0 != Value.none)=true from by simp)]
  refine wpAny_bind (wpAny_field q0 d0 z3 ?_)
  rw[if_neg (show ¬((Value.none == rawInt L)=true) from by simp[rawInt])]
  have z3s:=(Array.getElem?_eq_some_iff.mp z3).1
  refine wpAny_bind (wpAny_setField q0 d0 z3s ?_)
  have hsz:=(Array.getElem?_eq_some_iff.mp h1).1
  have m0:Mv (frs (env :: outer)) [e,T0] s.heap (s.heap.update T0 (Obj.mapFields (·.setIfInBounds 3 Value.none))) :=
   Mv.upd (List.mem_cons_of_mem _ (List.mem_singleton.mpr rfl)) q0 (Obj.isFreed_of_fields (Obj.data_mapFields d0 _))
  have Pk:(s.heap.update T0 (Obj.mapFields (·.setIfInBounds 3 Value.none))).get? e=some oe:=(Heap.get?_update_other _ _ LQ).trans he
  have hl1:(s.heap.update T0 (Obj.mapFields (·.setIfInBounds 3 Value.none))).FunFrames base (env :: outer):=m0.frames hl fun b hb o q=>by
   rcases List.mem_cons.mp hb with rfl | hb
   ·rw[he] at q;cases q;exact⟨vs,hd⟩
   ·rw[List.mem_singleton.mp hb,q0] at q;cases q;exact⟨t0,d0⟩
  have zs:(s.heap.update T0 (Obj.mapFields (·.setIfInBounds 3 Value.none))).objs.size=s.heap.objs.size:=Heap.size_after_update ..
  refine yN (s:={ s with heap:=s.heap.update T0 (Obj.mapFields (·.setIfInBounds 3 Value.none)) }) hfr hl1 hf Pk hd hsz fun h' T oT ts m zT hne e1 eT dT t3=>?_
  have zT:s.heap.objs.size≤T:=by rw[←zs];exact zT
  have nT:s.heap.get? T=none:=Heap.get?_none_of_le zT
  refine k h' [e,T0] (fun b hb=>?_) (m0.trans (m.mono (fun _ z=>z) fun b z=>by rw[List.mem_singleton.mp z];exact List.mem_cons_self)) ⟨fr,nw,_,_,e1,(vQ _ _).trans hc,(rS _ _).trans hdi,Obj.data_mapFields hd _,T,oT,ts,by simp[hsz],hH T zT,QS T nT,hne,eT,dT,t3,by rw[Array.getElem?_setIfInBounds_ne (by decide)];exact M3⟩
  rcases List.mem_cons.mp hb with rfl | hb
  ·exact⟨fr,nw⟩
  ·rw[List.mem_singleton.mp hb];exact⟨n0,w0⟩
 ·obtain⟨T0,o0,t0,h1,n0,w0,LQ,q0,d0,z3,M3⟩:=fa
  refine wpAny_bind (wpAny_field he hd h1 ?_)
  rw[if_pos (show(Value.ref T0 != Value.none)=true from by simp)]
  refine wpAny_bind (wpAny_field q0 d0 z3 ?_)
  rw[if_pos (show(rawInt L == rawInt L)=true from by simp)]
  refine wpAny_pure ?_
  exact k s.heap [] (fun b hb=>nomatch hb) Mv.refl ⟨fr,nw,oe,vs,he,hc,hdi,hd,T0,o0,t0,h1,n0,w0,LQ,q0,d0,z3,M3⟩
theorem vR {v:Value} (x:Exc h₀ H s.heap e C od (some v)) (k:∀ h' ch,M1 h₀ H ch→Mv [] ch s.heap h'→Exc h₀ H h' e C od (some .none)→Q () { s with heap:=h' }) :
  wpAny M A (setFlight (.ref e) none) Q E s:=by
 obtain⟨fr,nw,oe,vs,he,hc,hdi,hd,T,oT,ts,h1,n0,w0,LQ,q0,d0,z3,M3⟩:=x
 have hsz:=(Array.getElem?_eq_some_iff.mp z3).1
 refine wpAny_setFlight_none he hd h1 q0 d0 hsz (k _ [T] (fun b hb=>?_) (Mv.upd (List.mem_singleton.mpr rfl) q0 (Obj.isFreed_of_fields (Obj.data_mapFields d0 _))) ⟨fr,nw,oe,vs,(Heap.get?_update_other _ _ LQ).trans he,hc,hdi,hd,T,_,_,h1,n0,w0,LQ,Heap.get?_update_self _ q0 (Obj.isFreed_of_fields (Obj.data_mapFields d0 _)),Obj.data_mapFields d0 _,by simp[hsz],M3⟩)
 rw[List.mem_singleton.mp hb]
 exact⟨n0,w0⟩
theorem E7 {fl:Option Value} (hfr:A.frames=some (env :: outer)) (hl:s.heap.FunFrames base (env :: outer)) (hf:env.frame=some L)
  (x:Exc h₀ H s.heap e C od fl) (hfl:fl=none∨fl=some .none∨fl=some (rawInt L))
  (ht:∀ b o,h₀.get? b=some o→∃ o',s.heap.get? b=some o') (hH:∀ b,s.heap.objs.size≤b→H b=none)
  (k:∀ h' ch,M1 h₀ H ch→Mv (frs (env :: outer)) ch s.heap h'→Exc h₀ H h' e C od (some .none)→Q () { s with heap:=h' }) :
  wpAny M A (leaving env (.ref e)) Q E s:=by
 unfold leaving
 refine wpAny_bind (Bs hfr hl hf x hfl ht hH fun h1 c1 k1 m1 x1=>?_)
 refine vR x1 fun h2 c2 k2 m2 x2=>?_
 refine k h2 (c1++c2) (fun b hb=>(List.mem_append.mp hb).elim (k1 b) (k2 b)) ((m1.mono (fun _ z=>z) fun b z=>List.mem_append_left _ z).trans (m2.mono (fun b z=>nomatch z) fun b z=>List.mem_append_right _ z)) x2
end
section
variable {X:Cx}{pins:List (Addr×Obj)}{σ σ':St}{H H':Hp}{s s1:Shared}
theorem Inv.mv {h':Heap}{ch:List Addr} (I:Inv X pins σ H s) (J:Inv X pins σ' H' s1) (m:Mv (frs X.stack) ch s1.heap h') (hc:∀ b∈ch,H' b=none∧s.heap.get? b=none):Inv X pins σ' H' { s1 with heap:=h' }:=by
 have Jx:∀ b o,s.heap.get? b=some o→b∉ch:=fun b o e z=>by rw[(hc b z).2] at e;cases e
 have n0:∀ b o,X.s₀.heap.get? b=some o→b∉X.ex→b∉ch:=fun b o e hx=>let ⟨o',e'⟩:=I.base.there b o e hx;Jx b o' e'
 have VW:∀ b o,X.s₀.heap.get? b=some o→b≠X.env.locals:=fun b o e=>Nat.ne_of_lt (Nat.lt_of_lt_of_le (Heap.lt_size e) I.ok.above)
 have nst:∀ b,b≠X.env.locals→b∉X.fs→b∉frs X.stack:=fun b h1 h2 z=>(List.mem_cons.mp (I.vq b z)).elim h1 h2
 have cellK:∀ x c,X.env.cells.lookup x=some c→∀ v,s1.heap.IsCell c v→Heap.IsCell h' c v:=fun x c e v ⟨o,ho,hd⟩=>by
  obtain⟨v0,o0,e0,_⟩:=I.cell x c e
  obtain⟨sl,q⟩:=m.slot c o (Jx c o0 e0) ho
  exact⟨_,q,hd⟩
 have W9:∃ o,s.heap.get? X.env.locals=some o:=let ⟨m',⟨o,_,_,ho,_⟩,_⟩:=I.loc;⟨o,ho⟩
 obtain⟨oL,eL⟩:=W9
 refine⟨J.ok,J.os,J.bare,⟨fun b o e n hb hx=>m.keep b o (n0 b o e hx) (nst b (VW b o e) hb) (J.base.keep b o e n hb hx),fun b o e n hb hx=>?_,J.base.free,fun b o e hx=>?_,J.base.tups,J.base.tV,J.base.vp⟩,?_,fun x c e=>?_,J.free,J.jE,fun p hp=>?_,fun a o e=>?_,J.len⟩
 ·obtain⟨sl,e1⟩:=J.base.slot b o e n hb hx
  obtain⟨sl2,e2⟩:=m.slot b _ (n0 b o e hx) e1
  exact⟨sl2,e2⟩
 ·obtain⟨o',e1⟩:=J.base.there b o e hx
  exact m.there b o' e1
 ·obtain⟨mm,⟨o,es,ep,ho,r⟩,hl⟩:=J.loc
  obtain⟨sl,q⟩:=m.slot _ o (Jx _ oL eL) ho
  refine⟨mm,⟨_,es,ep,q,r⟩,fun i x v e1 e2 e3=>?_⟩
  obtain⟨u,r1,l⟩:=hl i x v e1 e2 e3
  refine⟨u,r1,?_⟩
  rcases l with l | ⟨k,c,e,z⟩
  ·exact .inl l
  ·exact .inr ⟨k,c,e,cellK x c e _ z⟩
 ·obtain⟨v,z⟩:=J.cell x c e
  exact⟨v,cellK x c e v z⟩
 ·obtain⟨e0,_,_,_,_⟩:=I.pin p hp
  obtain⟨e,n,ne,nf,d⟩:=J.pin p hp
  exact⟨m.keep p.1 p.2 (Jx _ _ e0) (nst _ ne nf) e,n,ne,nf,d⟩
 ·refine(J.hok a o e).stay (fun b u hb q=>m.keep b u (fun z=>?_) (fun z=>?_) q) (fun _ q=>q) fun _ _ q=>q
  ·have:=(hc b z).1
   rcases hb with rfl | hb
   ·rw[this] at e;cases e
   ·rw[this] at hb;cases hb
  ·have:=J.zm b z
   rcases hb with rfl | hb
   ·rw[this] at e;cases e
   ·rw[this] at hb;cases hb
def xK (P:Program) (w:World):EM:=fun outer H s E e s'=>∃ ea C od H',e=.ref ea∧s'.os=s.os∧AllBare s'.gens∧Un (frs outer) [] H H' s.heap s'.heap∧pZ P w H' s'.heap∧Exc s.heap H' s'.heap ea C od (some .none)∧E C od H'
theorem Exc.older {h₀ h1 h:Heap}{H:Hp}{e:Addr}{C:Value}{od:Option Addr}{fl:Option Value} (x:Exc h1 H h e C od fl) (ht:∀ b,h1.get? b=none→h₀.get? b=none):Exc h₀ H h e C od fl:=by
 obtain⟨fr,nw,oe,vs,he,hc,hdi,hd,fa⟩:=x
 refine⟨fr,ht _ nw,oe,vs,he,hc,hdi,hd,?_⟩
 cases fl with
 | none=>exact fa
 | some v=>obtain⟨T,oT,ts,h1,n0,w0,r⟩:=fa;exact⟨T,oT,ts,h1,n0,ht _ w0,r⟩
theorem leaveX {E:XK}{E':Value→Shared→Prop}{ea:Addr}{C:Value}{od:Option Addr}{fl:Option Value} (hst:X.stack=X.env :: X.outer) (hfm:X.env.frame=some X.env.locals) (hex:X.ex=[])
  (I:Inv X pins σ H s) (J:Inv X pins σ' H' s1) (ht:∀ b o,s.heap.get? b=some o→∃ o',s1.heap.get? b=some o') (x:Exc s.heap H' s1.heap ea C od fl) (hfl:fl=none∨fl=some .none∨fl=some (rawInt X.env.locals)) (hE:E C od H') :
  wpAny (model X.prog X.w) X.A (leaving X.env (.ref ea)) (fun _ s''=>xK X.prog X.w X.outer X.H₀ X.s₀ E (.ref ea) s'') E' s1:=by
 have hl:=J.stack
 rw[hst] at hl
 refine E7 (J.ok.frames.trans (by rw[hst])) hl hfm x hfl ht (fun b hb=>J.hok.fresh hb) fun h' ch hc m x'=>?_
 have K:=I.mv J (h':=h') (by rw[hst];exact m) hc
 have old:∀ b,s.heap.get? b=none→X.s₀.heap.get? b=none:=fun b hb=>by
  cases q:X.s₀.heap.get? b with
  | none=>rfl
  | some o=>obtain⟨o',z⟩:=I.base.there b o q (by rw[hex];simp);rw[hb] at z;cases z
 have U:=K.base
 rw[hex] at U
 exact⟨ea,C,od,H',rfl,J.os,J.bare,U,K.hok,x'.older old,hE⟩
end
section
variable {P:Program}{w:World}{K:W.Frag}{mg:Str→Option Value}{base:Heap}{N:List Str}{qual:Str}{scope:Scope}{f:Addr}{cd:Value}{A:Around}{outer:List Env}{s:Shared}{H:Hp}{E:XK}
theorem LR:Passes (xK P w) (vE (xK P w) P w K mg base N qual scope f cd A outer s H E) E:=by
 rintro pins σ H1 s1 e s' I ⟨ea,C,od,H',rfl,os,bare,un,hok,x,hE⟩
 have J:=I.G8 os un hok bare (fun b z=>nomatch z)
 exact leaveX (X:=vE (xK P w) P w K mg base N qual scope f cd A outer s H E) rfl rfl rfl I J (fun b o q=>un.there b o q (by simp)) x (.inr (.inl rfl)) hE
theorem gE.Xa {x:Str}{st:Stmt}{fd:FuncData}{ps:List Str}{k:Nat}{sp:Sp} (F:gE K x qual st f fd) (S:aH N ps (av st)) (len:∀ vs H Q E,sp vs H Q E→vs.length=ps.length)
  (hbody:∀(cdv:Value) (A:Around) (outer:List Env) (s:Shared) (H:Hp) (vs:List V) (Q:VK) (E:XK),fR k (A.deeper (envOfC qual (av st) s.heap.objs.size f cdv))→sp vs H Q E →
   ∃ t,AZ (vE (xK P w) P w K mg base N qual (av st) f cdv A outer s H E) (bX st) t∧t { nx:=fun _ H'=>Q .non H',rt:=Q } (start N vs) H):aI P w K mg base (xK P w) (k+1) f fd ps sp:=by
 obtain⟨oc,od,kV,doc,pm,an,cdv,ct,osl,rfl,lk,hcd⟩:=F.ex
 exact Hr lk hcd S len fun A outer s H vs Q E hr GR=>hbody cdv A outer s H vs Q E hr GR
end
theorem cA.ex {P:Program}{w:World}{H:Hp}{h:Heap}{a:Addr}{o:HO} (x:cA P w H h a o):∃ u,h.get? a=some u:=by
 cases o with
 | lst xs=>obtain⟨_,_,_,_,e⟩:=x;exact⟨_,e⟩
 | tup xs=>obtain⟨_,_,_,ob,e,_⟩:=x;exact⟨_,e⟩
 | dK kvs=>obtain⟨_,_,_,_,o,_,_,e,_⟩:=x;exact⟨_,e⟩
 | dT kvs=>obtain⟨_,_,_,_,o,_,_,e,_⟩:=x;exact⟨_,e⟩
 | set S n=>obtain⟨o,_,_,_,e,_⟩:=x;exact⟨_,e⟩
 | ins C dx fs=>obtain⟨_,_,_,e,_⟩:=x;exact⟨_,e⟩
 | own y=>exact x
 | xd fs=>obtain⟨_,⟨_,_,_,e,_⟩,_⟩:=x;exact⟨_,e⟩
 | VT lo hi=>obtain⟨_,_,_,e⟩:=x;exact⟨_,e⟩
 | Cj ob u=>obtain⟨e,_⟩:=x;exact⟨_,e⟩
 | Lv ps=>exact⟨_,x⟩
 | met f y=>exact⟨_,x⟩
 | ext φ=>exact x.2.1
theorem pZ.none {P:Program}{w:World}{H:Hp}{h:Heap}{a:Addr} (x:pZ P w H h) (e:h.get? a=Option.none):H a=Option.none:=by
 cases q:H a with
 | none=>rfl
 | some u=>obtain⟨o,z⟩:=(x a u q).ex;rw[e] at z;cases z
abbrev nF:List Value:=[.type "ValueError",.type "Exception",.type "BaseException",.type "object"]
structure jM (K:W.Frag) (C N:Addr) (bm:List Value) (ini:Option Value):Prop where
 ob:∃ nm q bs hdct sn sub ab col dd k0 k1 k2 k3 k5,K.lookup C=some (excClassObj nm q C N bs bm hdct sn sub ab col dd k0 k1 k2 k3 k5 "ValueError.__new__")
 ns:∃ oc od es n sl,K.lookup N=some ⟨oc,od,.dict es n,sl⟩∧(es.toList.all fun e=>match e.key with | .str _ _=>true | _=>false)=true
 ini:W.nsIn K N "__init__" = some ini
def zC (K:W.Frag) (bm:List Value):Prop:=bm=nF∨∃ D ND,bm=.ref D :: nF∧jM K D ND nF none
section
variable {K:W.Frag}{h:Heap}{C N:Addr}{bm:List Value}{ini:Option Value}
theorem jM.names (x:jM K C N bm ini):∃ m:Str→Option Value,m "__init__" = ini∧∀ h,K.In h→h.Ns N m:=by
 obtain⟨oc,od,es,n,sl,lk,al⟩:=x.ns
 have sk:StrKeys es:=fun e he=>by
  have z:=List.all_eq_true.mp al e (by simpa using he)
  revert z
  cases e.key <;> intro z <;> first | exact⟨_,_,rfl⟩ | cases z
 refine⟨nsFind es,?_,fun h kU=>⟨_,es,n,kU _ _ lk,rfl,sk,fun _=>rfl⟩⟩
 have e:=x.ini
 unfold W.nsIn at e
 rw[lk] at e
 dsimp only at e
 unfold nsFind findBy
 rw[←Array.find?_toList]
 cases q:es.toList.find? (·.key.isStr "__init__") with
 | some en =>
  rw[q] at e
  exact Option.some.inj e
 | none =>
  rw[q] at e
  dsimp only at e
  split at e
  ·cases e
  ·exact Option.some.inj e
theorem jM.obj (x:jM K C N bm ini) (kU:K.In h):∃ nm q bs hdct sn sub ab col dd k0 k1 k2 k3 k5,h.get? C=some (excClassObj nm q C N bs bm hdct sn sub ab col dd k0 k1 k2 k3 k5 "ValueError.__new__"):=by
 obtain⟨nm,q,bs,hdct,sn,sub,ab,col,dd,k0,k1,k2,k3,k5,e⟩:=x.ob
 exact⟨nm,q,bs,hdct,sn,sub,ab,col,dd,k0,k1,k2,k3,k5,kU _ _ e⟩
theorem zC.tail (x:zC K bm) (kU:K.In h):OwnTail h nF bm:=by
 rcases x with rfl | ⟨D,ND,rfl,d⟩
 ·exact .base
 ·obtain⟨nm,q,bs,hdct,sn,sub,ab,col,dd,k0,k1,k2,k3,k5,e⟩:=d.obj kU
  obtain⟨m,mi,mn⟩:=d.names
  exact .own e (mn h kU) mi .base
theorem zC.base (x:zC K bm):bm.contains (.type "BaseException")=true:=by
 rcases x with rfl | ⟨D,ND,rfl,d⟩
 ·decide
 ·rw[List.contains_cons];rfl
end
section
variable {P:Program}{w:World}{K:W.Frag}{mg:Str→Option Value}{base:Heap}{N0:List Str}{qual:Str}{scope:Scope}{f:Addr}{cd:Value}{A:Around}{outer:List Env}{s0:Shared}{H0:Hp}{E:XK}
def M4 (E:XK) (C:Addr) (t:TA):TS:=fun _ σ H=>t σ H fun vs H1=>vs.length≤sizeLine∧E (.ref C) none H1
theorem Ih {X:Cx} (hX:X=vE (xK P w) P w K mg base N0 qual scope f cd A outer s0 H0 E) {C N:Addr}{bm:List Value}{x:Str}{np cpos pos:Pos}{e:Expr}{es:List Expr}{t:TA} (c:jM K C N bm none) (tl:zC K bm)
  (hg:Gl X x) (hm:mg x=some (.ref C)) (ha:PA X (e :: es) t) (hdb:(x == ("__debug__" : Str))=false:=by decide) (he:starEach (e :: es) X.env=(false,eval e X.env) :: starEach es X.env:=by rfl)
  (hpl:(backTo cpos (starEach es X.env)).any (·.1)=false:=by rfl):PS X (.Raise (some (.Call (.Name x np) (e :: es) [] cpos)) none pos) (M4 E C t):=by
 intro pins s σ H D I h
 obtain⟨nm,q,bs,hdct,sn,sub,ab,col,dd,k0,k1,k2,k3,k5,lk⟩:=c.ob
 obtain⟨m,mi,mn⟩:=c.names
 have hx:X.xe=fun (e:Value) (s':Shared)=>wpAny (model X.prog X.w) X.A (leaving X.env e) (fun _ s''=>xK X.prog X.w X.outer X.H₀ X.s₀ E e s'') (fun e' s''=>xK X.prog X.w X.outer X.H₀ X.s₀ E e' s'') s':=by subst hX;rfl
 have Xb:(backTo cpos (starEach (e :: es) X.env)).any (·.1)=false:=by rw[he];exact hpl
 have hst:X.stack=X.env :: X.outer:=by subst hX;rfl
 have hfm:X.env.frame=some X.env.locals:=by subst hX;rfl
 have hex:X.ex=[]:=by subst hX;rfl
 have hmg:X.mg x=some (.ref C):=by subst hX;exact hm
 have LS:X.calm=true:=by subst hX;rfl
 have hK:X.K=K:=by subst hX;rfl
 refine wpAny_Raise_call_subU (C:=C) (nm:=nm) (q:=q) (N:=N) (bs:=bs) (bm:=bm) (hdct:=hdct) (sn:=sn) (sub:=sub) (ab:=ab) (col:=col) (dd:=dd) (k0:=k0) (k1:=k1) (k2:=k2) (k3:=k3) (k5:=k5) (newId := "ValueError.__new__")
  PySem.F.excBase_ValueError (by decide) PySem.F.excBase_ValueError (mN:=m) tl.base (I.ok.hd LS) Xb mi (lK I hg hmg ⟨rfl,?_⟩ hdb)
 have z:=ha cpos pins s σ H _ I h
 rw[he] at z ⊢
 refine Calls.evalArgs_plain (cH z fun us s1 ⟨vs,H1,I1,r,hl,hE⟩=>?_)
 have kU:K.In s1.heap:=by rw[←hK];exact I1.lJ
 refine⟨rfl,by show us.length≤sizeLine;rw[←r.length];exact hl,kU _ _ lk,mn _ kU,tl.tail kU,fun h' ea md=>?_⟩
 obtain⟨ta,q1,_,_⟩:=md.there
 rw[hx]
 exact leaveX (fl:=none) hst hfm hex I1 (I1.kept (t':=s1.toks) md.keeps) (fun b o q=>⟨o,md.keeps b o q⟩) ⟨I1.hok.none md.new,md.new,_,_,q1,rfl,rfl,rfl,rfl,rfl⟩ (.inl rfl) hE
end
section
abbrev Xc:=St→Hp→VK→XK→Prop
abbrev Po:=Ends→XK→St→Hp→Prop
def XP (X:Cx) (pins:List (Addr×Obj)) (σ:St) (Ex:XK) (e:Value) (s':Shared):Prop :=
 ∃ ea C od H' s2 H2,e=.ref ea∧Inv X pins σ H2 s2∧Inv X pins σ H' s'∧(∀ b o,s2.heap.get? b=some o→∃ o',s'.heap.get? b=some o')∧Exc s2.heap H' s'.heap ea C od (some .none)∧Ex C od H'
def PEx (X:Cx) (e:Expr) (t:Xc):Prop :=
 ∀(pins:List (Addr×Obj)) (s:Shared) (σ:St) (H:Hp) (Q:VK) (Ex:XK),Inv X pins σ H s→t σ H Q Ex→wpAny (model X.prog X.w) X.A (eval e X.env) (EP X pins σ Q) (XP X pins σ Ex) s
def Xd (X:Cx) (st:Stmt) (t:Po):Prop :=
 ∀(pins:List (Addr×Obj)) (s:Shared) (σ:St) (H:Hp) (D:Ends) (Ex:XK),Inv X pins σ H s→t D Ex σ H→wpAny (model X.prog X.w) X.A (exec st X.env) (SP X pins D) (XP X pins σ Ex) s
def Kc (X:Cx) (st:List Stmt) (t:Po):Prop :=
 ∀(pins:List (Addr×Obj)) (s:Shared) (σ:St) (H:Hp) (D:Ends) (Ex:XK),Inv X pins σ H s→t D Ex σ H→wpAny (model X.prog X.w) X.A (execs st X.env) (SP X pins D) (XP X pins σ Ex) s
variable {X:Cx}{k:Nat}{f C:Addr}{fd:FuncData}{ps:List Str}{sp:Sp}{qw:List V}{ds:List Value}{x m:Str}{p pos apos:Pos}{e o:Expr}{es:List Expr}{ta:TE}{t:TA}{te:Xc}
theorem QT {α:Type}{u:Sem α}{Q Q':α→Shared→Prop}{M:Model}{A:Around}{E:Value→Shared→Prop}{s:Shared} (h:wpAny M A u Q (fun _ _=>False) s) (hQ:∀ a s,Q a s→Q' a s):wpAny M A u Q' E s:=wpAny_mono h hQ fun _ _ z=>z.elim
theorem Kd {pins:List (Addr×Obj)}{σ:St}{H:Hp}{s:Shared}{Q:VK}{Ex:XK}{us:List Value}{vs:List V} (F:aI X.prog X.w X.K X.mg X.base (xK X.prog X.w) k f fd ps sp) (hr:fR k X.A) (hb:Binds X.K fd ps ds) (hd:Vals qw ds)
  (I:Inv X pins σ H s) (r:Vals vs us) (h:sp (vs++qw) H Q Ex):wpAny (model X.prog X.w) X.A (call (.ref f) us) (EP X pins σ Q) (XP X pins σ Ex) s:=by
 have r2:Vals (vs++qw) (us++ds):=r.append hd
 have hl:(us++ds).length=ps.length:=by rw[←r2.length];exact F.len _ _ _ _ h
 refine wpAny_call (codeAny_mono (F.run X.A X.stack s H ⟨us,[]⟩ (us++ds) (vs++qw) Q Ex hr I.MB (hb s us I.lJ hl) r2 h) fun r s' hq=>?_)
 cases r with
 | error e =>
  obtain⟨ea,C,od,H',rfl,os,bare,un,hok,y,hE⟩:=hq
  exact⟨ea,C,od,H',s,H,rfl,I,I.G8 os un hok bare (fun b z=>nomatch z),fun b o q=>un.there b o q (by simp),y,hE⟩
 | ok fl =>
  cases fl with
  | ret u=>exact I.after hq
  | next=>exact False.elim hq
  | brk=>exact False.elim hq
  | cont=>exact False.elim hq
def M5 (sp:Sp) (qw:List V) (t:TA):Xc:=fun σ H Q Ex=>t σ H fun vs H1=>sp (vs++qw) H1 Q Ex
theorem Bt (F:aI X.prog X.w X.K X.mg X.base (xK X.prog X.w) k f fd ps sp) (hr:fR k X.A) (hg:Gl X x) (hm:X.mg x=some (.ref f)) (hk:W.keepIn X.K (.ref f)=true) (hb:Binds X.K fd ps ds) (hd:Vals qw ds)
  (ha:PA X.Lz (e :: es) t) (hdb:(x == ("__debug__" : Str))=false:=by decide) (he:starEach (e :: es) X.env=(false,eval e X.env) :: starEach es X.env:=by rfl) (hpl:(backTo pos (starEach es X.env)).any (·.1)=false:=by rfl) :
  PEx X (.Call (.Name x p) (e :: es) [] pos) (M5 sp qw t):=by
 intro pins s σ H Q Ex I h
 refine wpAny_Call_Name_kw (lK I hg hm ?_ hdb)
 refine W.callWith_K (h₀:=X.base) I.ok.mod.kU hk (QT (ha pos pins s σ H _ (I.tW _) h) fun us s1 ⟨vs,H1,I1,r,q⟩=>⟨I1.iY.lJ,?_⟩) he hpl
 exact Kd F hr hb hd I1.iY r q
theorem Bu (he:PEx X e te) (hs:swapsWith e none pos.line X.env=pure false:=by rfl):Xd X (.Expr e pos) (fun D Ex σ H=>te σ H (fun _ H1=>D.nx σ H1) Ex):=by
 intro pins s σ H D Ex I h
 exact wpAny_Expr_any (cH (he pins s σ H _ _ I h) fun v s1 ⟨x,H1,I1,r1,q1⟩=>⟨σ,H1,I1,q1⟩) I.quiet hs
theorem vS {st:Stmt}{ts:Po} (h1:Xd X st ts):Kc X [st] ts:=by
 intro pins s σ H D Ex I h
 refine wpAny_execs_cons (cH (h1 pins s σ H D Ex I h) fun f s1 q=>?_)
 cases f with
 | next=>exact wpAny_execs_nil q
 | ret v=>exact q
 | brk=>exact q
 | cont=>exact q
theorem M6 {c:Expr}{a b:List Stmt}{tc:TT}{t u:Po} (hc:PT X.Lz c tc) (ha:Kc X a t) (hb:Kc X b u):Xd X (.If c a b pos) (fun D Ex σ H=>tc σ H fun d H1=>if d=true then t D Ex σ H1 else u D Ex σ H1):=by
 intro pins s σ H D Ex I h
 refine wpAny_If (QT (hc pins s σ H _ (I.tW _) h) fun d s1 ⟨H1,I1,q1⟩=>?_)
 cases d with
 | true=>exact ha pins s1 σ H1 D Ex I1.iY q1
 | false=>exact hb pins s1 σ H1 D Ex I1.iY q1
end
def GU (e:Addr) (C:Value) (od:Option Addr):HO:=.ext fun h=>∃ o vs,h.get? e=some o∧o.cls=C∧o.dict=od∧o.data=.fields vs∧vs[2]? = some .none
theorem E8 {e:Addr}{C:Value}{od:Option Addr}:∀ h1 h2:Heap,(∃ o vs,h1.get? e=some o∧o.cls=C∧o.dict=od∧o.data=.fields vs∧vs[2]? = some .none)→(∀ o,h1.get? e=some o→h2.get? e=some o)→∃ o vs,h2.get? e=some o∧o.cls=C∧o.dict=od∧o.data=.fields vs∧vs[2]? = some .none :=
 fun _ _ ⟨o,vs,q,r⟩ k=>⟨o,vs,k o q,r⟩
theorem QU {P:Program}{w:World}{H:Hp}{h:Heap}{e:Addr}{C:Value}{od:Option Addr} (x:∃ o vs,h.get? e=some o∧o.cls=C∧o.dict=od∧o.data=.fields vs∧vs[2]? = some .none):cA P w H h e (GU e C od) :=
 ⟨x,(let ⟨o,_,q,_⟩:=x;⟨o,q⟩),E8⟩
section
variable {X:Cx}{pins:List (Addr×Obj)}{σ σ':St}{H H':Hp}{s s1:Shared}
theorem Inv.LU {a:Addr}{o:HO} (I:Inv X pins σ H s) (J:Inv X pins σ' H' s1) (hex:X.ex=[]) (hn:H' a=none) (hw:s.heap.get? a=none) (new:cA X.prog X.w (upd H' a o) s1.heap a o):Inv X pins σ' (upd H' a o) s1:=by
 have ne:∀ b u,s.heap.get? b=some u→b≠a:=fun b u e z=>by rw[z,hw] at e;cases e
 have LQ:∀ b u,X.s₀.heap.get? b=some u→b≠a:=fun b u e=>let ⟨o',e'⟩:=I.base.there b u e (by rw[hex];simp);ne b o' e'
 refine⟨J.ok,J.os,J.bare,⟨J.base.keep,J.base.slot,fun b u e n hx=>?_,J.base.there,fun b xs e=>?_,fun b u v e=>?_,fun b ps e=>?_⟩,J.loc,J.cell,?_,fun x c e=>?_,fun p hp=>?_,fun b u e=>?_,J.len⟩
 ·rw[aB (LQ b u e)];exact J.base.free b u e n hx
 ·have z:=J.base.tups b xs e
  rw[aB (aM z hn)];exact z
 ·have z:=J.base.tV b u v e
  rw[aB (aM z hn)];exact z
 ·obtain⟨more,z⟩:=J.base.vp b ps e
  exact⟨more,by rw[aB (aM z hn)];exact z⟩
 ·obtain⟨m,⟨oL,_,_,eL,_⟩,_⟩:=I.loc
  rw[aB (ne _ _ eL)];exact J.free
 ·obtain⟨v,oc,ec,_⟩:=I.cell x c e
  rw[aB (ne _ _ ec)];exact J.jE x c e
 ·obtain⟨e0,_⟩:=I.pin p hp
  obtain⟨e1,n1,r⟩:=J.pin p hp
  exact⟨e1,by rw[aB (ne _ _ e0)];exact n1,r⟩
 ·by_cases hb:b=a
  ·subst hb;rw[ah] at e;cases e;exact new
  ·rw[aB hb] at e
   exact(J.hok b u e).stay (fun c v _ q=>q) (fun c q=>by rw[aB (aM q hn)];exact q) fun c xs q=>by rw[aB (aM q hn)];exact q
theorem Inv.gone {i:Nat}{n:Str}{h':Heap}{v:Option Value}{tk:Nat}{m:Str→Option Value} (I:Inv X pins σ H s) (hN:X.N.Nodup) (hi:X.N[i]? = some n)
  (hm:s.heap.Ns X.env.locals m) (hn:h'.Ns X.env.locals (fun x=>if x=n then v else m x)) (hs:Heap.SameBut X.env.locals s.heap h'):Inv X pins (σ.set i none) H { s with heap:=h',toks:=tk }:=by
 obtain⟨m0,hn0,hl⟩:=I.loc
 have em:m0=m:=by
  obtain⟨o1,es1,ep1,q1,d1,_,f1⟩:=hn0
  obtain⟨o2,es2,ep2,q2,d2,_,f2⟩:=hm
  rw[q1] at q2
  cases q2
  rw[d1] at d2
  cases d2
  funext x
  rw[←f1,←f2]
 subst em
 have hil:i < σ.length:=by rw[I.len];exact(List.getElem?_eq_some_iff.mp hi).1
 have ab:∀ b o,X.s₀.heap.get? b=some o→b≠X.env.locals:=fun b o e=>Nat.ne_of_lt (Nat.lt_of_lt_of_le (Heap.lt_size e) I.ok.above)
 have hk:pZ X.prog X.w H h':=fun b ob e=>by
  refine(I.hok b ob e).stay (fun c w' hc q=>(hs.2 c ?_).trans q) (fun _ q=>q) fun _ _ q=>q
  rintro rfl
  rcases hc with rfl | hc
  ·rw[I.free] at e;cases e
  ·rw[I.free] at hc;cases hc
 refine⟨I.ok,I.os,I.bare,⟨fun b o e n hb hx=>(hs.2 b (ab b o e)).trans (I.base.keep b o e n hb hx),fun b o e n hb hx=>?_,I.base.free,fun b o e hx=>?_,I.base.tups,I.base.tV,I.base.vp⟩,⟨_,hn,fun j y u e1 e2 e3=>?_⟩,fun y c e=>?_,I.free,I.jE,fun p hp=>?_,hk,by simpa using I.len⟩
 ·obtain⟨sl,e1⟩:=I.base.slot b o e n hb hx
  exact⟨sl,(hs.2 b (ab b o e)).trans e1⟩
 ·obtain⟨o',e1⟩:=I.base.there b o e hx
  exact⟨o',(hs.2 b (ab b o e)).trans e1⟩
 ·by_cases hj:j=i
  ·subst hj
   rw[List.getElem?_set_self hil] at e2
   cases e2
  ·rw[List.getElem?_set_ne (Ne.symm hj)] at e2
   obtain⟨u',r',q⟩:=hl j y u e1 e2 e3
   refine⟨u',r',?_⟩
   have hne:y≠n:=fun z=>hj (vt hN e1 (z ▸ hi))
   rcases q with ⟨k,e⟩ | ⟨k,c,e,z⟩
   ·exact .inl ⟨k,by simp[hne,e]⟩
   ·exact .inr ⟨k,c,e,z.sameBut hs (I.JH y c e)⟩
 ·obtain⟨w',z⟩:=I.cell y c e
  exact⟨w',z.sameBut hs (I.JH y c e)⟩
 ·obtain⟨e,n,ne,nf,d⟩:=I.pin p hp
  exact⟨(hs.2 p.1 ne).trans e,n,ne,nf,d⟩
end
section
variable {M:Model}{A:Around}{E:Value→Shared→Prop}{K:W.Frag}{s:Shared}{C D N N' ea:Addr}{bm bm':List Value}{ini M7:Option Value}{Q:Bool→Shared→Prop}
theorem Bv {oe:Obj} (kU:K.In s.heap) (c:jM K C N bm ini) (d:jM K D N' bm' M7) (td:zC K bm') (he:s.heap.get? ea=some oe) (hc:oe.cls=.ref C) (h:Q ((Value.ref C :: bm).contains (.ref D)) s) :
  wpAny M A (excMatches (.ref ea) (.ref D)) Q E s:=by
 obtain⟨nm,q,bs,hdct,sn,sub,ab,col,dd,k0,k1,k2,k3,k5,lc⟩:=c.obj kU
 obtain⟨nm',q',bs',aaT,sn',sub',ab',col',Pj,k0',k1',k2',k3',k5',ld⟩:=d.obj kU
 have hB:(Value.ref D :: bm').contains (.type "BaseException")=true:=by rw[List.contains_cons,td.base];rfl
 have f:=tc_notTuple
 obtain⟨hp,g,dr,tk,os⟩:=s
 unfold excMatches
 repeat (first | (with_reducible refine wpAny_loadPart_at he ?_;rw[hc]) | with_reducible refine wpAny_loadPart_at ld ?_ | (with_reducible refine wpAny_isSubtype_exc ld ?_;rw[hB]) | with_reducible refine wpAny_isSubtype_exc lc ?_ | wp_step)
 cases hb:(Value.ref C :: bm).contains (.ref D) <;> (rw[hb] at h;wp_walk;exact h)
end
abbrev Cx.han (X:Cx) (ea:Addr):Cx:={ X with A:=X.A.mark (some (.ref ea)),calm:=false,xe:=fun _ _=>False }
section
variable {X:Cx}{pins:List (Addr×Obj)}{σ:St}{H:Hp}{s:Shared}{ea:Addr}
theorem Cx.Ok.han (ok:X.Ok) (ea:Addr):(X.han ea).Ok :=
 ⟨ok.mod,ok.kind,ok.glob,ok.blt,ok.above,ok.inj,ok.has,ok.Pa,(fun z=>nomatch (show false=true from z)),ok.frames,ok.stk,ok.Wo,ok.bs,ok.Jw,ok.EG,ok.G7,ok.rM,ok.Lx⟩
theorem Inv.han (I:Inv X pins σ H s) (ea:Addr):Inv (X.han ea) pins σ H s:=⟨I.ok.han ea,I.os,I.bare,I.base,I.loc,I.cell,I.free,I.jE,I.pin,I.hok,I.len⟩
theorem Inv.QV (ok:X.Ok) (I:Inv (X.han ea) pins σ H s):Inv X pins σ H s:=⟨ok,I.os,I.bare,I.base,I.loc,I.cell,I.free,I.jE,I.pin,I.hok,I.len⟩
abbrev TH:=Addr→Value→Option Addr→TS
def V5 (X:Cx) (hs:List ExceptHandler) (t:TH):Prop :=
 ∀(pins:List (Addr×Obj)) (s:Shared) (σ:St) (H:Hp) (D:Ends) (ea:Addr) (C:Value) (od:Option Addr) (s2:Shared) (H2:Hp),Inv X pins σ H2 s2→Inv X pins σ H s→(∀ b o,s2.heap.get? b=some o→∃ o',s.heap.get? b=some o') →
  Exc s2.heap H s.heap ea C od (some .none)→t ea C od D σ H→wpAny (model X.prog X.w) X.A (handleBy (.ref ea) X.env hs) (SP X pins D) X.xe s
theorem M8:V5 X [] (fun _ _ _ _ _ _=>False):=fun _ _ _ _ _ _ _ _ _ _ _ _ _ _ h=>h.elim
def QW (K:W.Frag) (Dc:Addr) (i:Nat) (tb:Addr→TS) (tr:TH):TH:=fun ea C od D σ H=>∃ Cc N bm ini,C=.ref Cc∧jM K Cc N bm ini ∧
 if (Value.ref Cc :: bm).contains (.ref Dc)=true then tb ea { nx:=fun σ' H'=>D.nx (σ'.set i none) H',rt:=D.rt,bk:=fun σ' H'=>D.bk (σ'.set i none) H',ct:=fun σ' H'=>D.ct (σ'.set i none) H' } (σ.set i (some (.ref ea))) (upd H ea (GU ea C od)) else tr ea C od D σ H
theorem QX {i:Nat}{x n:Str}{np hpos:Pos}{b₀:Stmt}{suite:List Stmt}{rest:List ExceptHandler}{Dc ND:Addr}{bmD:List Value}{Xe:Option Value}{tb:Addr→TS}{tr:TH} (hex:X.ex=[]) (hg:Gl X x) (hm:X.mg x=some (.ref Dc))
  (d:jM X.K Dc ND bmD Xe) (td:zC X.K bmD) (hN:X.N.Nodup) (hi:X.N[i]? = some n) (hl:X.env.scope.names.lookup n=some .local) (hb:∀ ea,AZ (X.han ea) (b₀ :: suite) (tb ea)) (hr:V5 X rest tr)
  (hdb:(x == ("__debug__" : Str))=false:=by decide):V5 X (.ExceptHandler (some (.Name x np)) (some n) (b₀ :: suite) hpos :: rest) (QW X.K Dc i tb tr):=by
 rintro pins s σ H D ea C od s2 H2 I2 J ht y ⟨Cc,N,bm,ini,rfl,c,q⟩
 obtain⟨fr,nw,oe,vs,he,hc,hdi,hd,fa⟩:=id y
 refine wpAny_handleBy_cons (codeAny_handlers_test (lK (X:=X.han ea) (J.han ea) hg hm ?_ hdb)) (by intro z;cases z)
 refine Bv J.lJ c d td he hc ?_
 cases hb2:(Value.ref Cc :: bm).contains (.ref Dc) with
 | false =>
  rw[hb2,if_neg Bool.false_ne_true] at q
  exact hr pins s σ H D ea _ od s2 H2 I2 J ht y q
 | true =>
  rw[hb2,if_pos rfl] at q
  refine codeAny_handlers_suite_as ?_
  refine vR y fun h1 ch hch mv y1=>?_
  have J1:=I2.mv J (mv.mono (fun b z=>nomatch z) fun b z=>z) hch
  obtain⟨fr1,nw1,oe1,vs1,Pk,hc1,Xf,hd1,fa1⟩:=id y1
  have J2:=I2.LU J1 (o:=GU ea (.ref Cc) od) hex fr1 nw1 (QU ⟨oe1,vs1,Pk,hc1,Xf,hd1,fa1.cx⟩)
  refine vv J2 hN hi (.inl hl) (show RelV (.ref ea) (.ref ea) from rfl) (fun s3 J3=>?_) (.inr hl)
  refine wpAny_mono (hb ea pins s3 _ _ _ (J3.han ea) q) (fun f s4 r=>?_) fun _ _ z=>z.elim
  have hp:(X.env.scope.kind == .class || (X.env.scope.kind == .module && X.env.locals != X.env.globals))=false:=by rw[J.ok.kind];rfl
  have go:∀{σ':St}{H':Hp}{Q:Unit→Shared→Prop},Inv (X.han ea) pins σ' H' s4→(∀ s5,Inv X pins (σ'.set i none) H' s5→Q () s5)→wpAny (model X.prog X.w) X.A (do bindName X.env n .none;unbindBehindTheSuite X.env n hpos) Q X.xe s4:=fun {σ' H' Q} I4 k=>by
   have I5:=I4.QV J.ok
   obtain⟨m,hn,_⟩:=id I5.loc
   exact wpAny_nameGoes_keeps hl hn hp fun h' v hn' hs=>k _ (I5.gone hN hi hn hn' hs)
  cases f with
  | next=>obtain⟨σ',H',I4,q4⟩:=r;exact go I4 fun s5 I5=>⟨_,H',I5,q4⟩
  | brk=>obtain⟨σ',H',I4,q4⟩:=r;exact go I4 fun s5 I5=>⟨_,H',I5,q4⟩
  | cont=>obtain⟨σ',H',I4,q4⟩:=r;exact go I4 fun s5 I5=>⟨_,H',I5,q4⟩
  | ret u=>obtain⟨v,σ',H',I4,rv,q4⟩:=r;exact go I4 fun s5 I5=>⟨v,_,H',I5,rv,q4⟩
def QY (tb:Po) (th:TH) (to:TS):TS:=fun D σ H=>tb { D with nx:=fun σ1 H1=>to D σ1 H1 } (fun C od H'=>∀ ea,H' ea=none→th ea C od D σ H') σ H
theorem Ke {body orelse:List Stmt}{h₀:ExceptHandler}{hs:List ExceptHandler}{pos:Pos}{tb:Po}{th:TH}{to:TS} (hst:X.stack=X.env :: X.outer) (hfm:X.env.frame=some X.env.locals) (hb:Kc X body tb) (hh:V5 X (h₀ :: hs) th) (ho:AZ X orelse to) :
  PS X (.Try body (h₀ :: hs) orelse [] pos) (QY tb th to):=by
 intro pins s σ H D I h
 refine wpAny_Try_except (wpAny_mono (hb pins s σ H _ _ I h) (fun f s1 q=>?_) fun e s1 q=>?_)
 ·cases f with
  | next=>obtain⟨σ1,H1,I1,q1⟩:=q;exact ho pins s1 σ1 H1 D I1 q1
  | ret u=>exact q
  | brk=>exact q
  | cont=>exact q
 ·obtain⟨ea,C,od,H',s2,H2,rfl,I2,J,ht,y,hE⟩:=q
  have hl:=J.stack
  rw[hst] at hl
  refine Bs (J.ok.frames.trans (by rw[hst])) hl hfm y (.inr (.inl rfl)) ht (fun b hb=>J.hok.fresh hb) fun h1 ch hc m y1=>?_
  have J1:=I2.mv J (h':=h1) (by rw[hst];exact m) hc
  have ht1:∀ b o,s2.heap.get? b=some o→∃ o',h1.get? b=some o':=fun b o q=>let ⟨o',q'⟩:=ht b o q;m.there b o' q'
  refine vR y1 fun h2 ch2 hc2 m2 y2=>?_
  have J2:=I2.mv J1 (h':=h2) (m2.mono (fun b z=>nomatch z) fun b z=>z) hc2
  exact hh pins _ σ H' D ea C od s2 H2 I2 J2 (fun b o q=>let ⟨o',q'⟩:=ht1 b o q;m2.there b o' q') y2 (hE ea y2.fr)
end
end L2
set_option maxHeartbeats 1000000
namespace L2
open PySem PySem.Spec PyProof.Rows PySem.Builtin PySem.Builtin.ObjectAttr
theorem yO (self:Value):refuseLoop self "__setattr__" nF=pure ():=by kernel_rfl
theorem Bw {K:W.Frag}{bm:List Value} (tl:zC K bm) (self:Value):refuseLoop self "__setattr__" bm=pure ():=by
 rcases tl with rfl | ⟨D,ND,rfl,d⟩
 ·exact yO self
 ·rw[refuseLoop_ref];exact yO self
structure Jz (K:W.Frag) (C:Addr) (f:Str):Prop where
 no:W.findIn K (.ref C) f=some none
 sa:W.findIn K (.ref C) "__setattr__" = some (some (.builtin "object.__setattr__"))
 ga:W.findIn K (.ref C) "__getattribute__" = some (some (.builtin "BaseException.__getattribute__"))
 gx:W.findIn K (.ref C) "__getattr__" = some none
 hd:W.hasDictIn K C=true
section
variable {P:Program}{w:World}{A:Around}{E:Value→Shared→Prop}{s:Shared}{K:W.Frag}{C N x:Addr}{bm:List Value}{ini:Option Value}{f:Str}{v:Value}{ox:Obj}{vs:Array Value}
theorem jM.cls (c:jM K C N bm ini) (h:W.hasDictIn K C=true):∃ cd,W.clsIn K C=some cd∧cd.mro=.ref C :: bm∧cd.hasDict=true:=by
 obtain⟨nm,q,bs,hdct,sn,sub,ab,col,dd,k0,k1,k2,k3,k5,lk⟩:=c.ob
 obtain⟨cd,hc,hd⟩:=W.any_some h
 refine⟨cd,hc,?_,hd⟩
 unfold W.clsIn at hc
 rw[lk] at hc
 cases hc
 rfl
theorem Eh {od:Option Obj}{tk:Tok}{R:Result→Shared→Prop} (kU:K.In s.heap) (c:jM K C N bm ini) (tl:zC K bm) (a:Jz K C f) (J:W.InstAt s.heap x ox C od)
  (h:∀ b,wpAny (model P w) A.in1 (storeInOwnDict (.ref x) (.ref C) (.str f tk) f v b) (fun fin s'=>match fin with | .done g=>R (.ok g) s' | .again c'=>c'.quiet=true∧codeAny (model P w) A c' R s') (fun e s'=>R (.error e) s') s) :
  codeAny (model P w) A (.call (.builtin "object.__setattr__") ⟨[.ref x,.str f tk,v],[]⟩) R s:=by
 obtain⟨cd,hc,hm,hd⟩:=c.cls a.hd
 have SF:=PySem.F.store_object
 have Xg:W.Looks (model P w) s.heap (mroOf (.ref C)) cd.mro:=(W.looks_clsIn kU hc).andThen .now
 have hob:(cd.mro.contains (.type "object"))=true:=by
  rw[hm,List.contains_cons]
  rcases tl with rfl | ⟨D,ND,rfl,d⟩
  ·rfl
  ·rw[List.contains_cons];rfl
 have ne:cd.mro.isEmpty=false:=by rw[hm];rfl
 have sub:W.Looks (model P w) s.heap (isInstance (.ref x) (.type "object")) true :=
  J.type.andThen (W.looks_mroIn kU (by unfold W.mroIn;rw[hc,Option.bind_some,if_neg (by rw[ne];decide),hob]))
 refine codeAny_call_builtin SF.slot.plain SF.entry (W.check_slot (M:=model P w) (s:=s) (i := "object.__setattr__") (owner := "object") (n := "__setattr__") (self:=.ref x) (rest:=[.str f tk,v]) (kw:=[]) SF.kind SF.split sub (SF.args (.ref x) (.str f tk) v) ?_)
 rw[W.osa_eq,refuse_eq]
 refine wpAny_bind (wpAny_bind (J.type.here (wpAny_bind (Xg.here ?_))))
 rw[hm,refuseLoop_ref,Bw tl]
 have L3:W.Looks (model P w) s.heap (storeTaker? none) none:=.now
 refine wpAny_pure (wpAny_bind (J.type.here (wpAny_bind ((W.looks_findIn kU a.no).here (wpAny_bind (L3.here ?_))))))
 exact h _
theorem Kf {h:Heap}{d:Addr}{o:Obj} (e:h.get? d=some o) (hd:o.data=.dict #[] 0):h.Ns1 d (fun _=>none) :=
 ⟨o,#[],0,e,hd,fun e he=>absurd he (by simp),(by first | exact fun i j e e' h1=>absurd h1 (by simp) | simp[UniqKeys]),fun _=>rfl⟩
theorem Ii {Q:Unit→Shared→Prop} (kU:K.In s.heap) (c:jM K C N bm ini) (tl:zC K bm) (a:Jz K C f) (hx:s.heap.get? x=some ox) (hc:ox.cls=.ref C) (hdi:ox.dict=none) (hd:ox.data=.fields vs)
  (h:∀ h' tk,h'.get? x=some { ox with dict:=some s.heap.objs.size }→h'.Ns1 s.heap.objs.size (fun y=>if y=f then some v else none)→(∀ b o,b≠x→s.heap.get? b=some o→h'.get? b=some o)→Q () { s with heap:=h',toks:=tk }) :
  wpAny (model P w) A (setAttr (.ref x) f v) Q E s:=by
 have J:W.InstAt s.heap x ox C none:=⟨hx,hc,by obtain⟨oc,QZ,Q0,osl⟩:=ox;cases hd;rfl,by rw[hdi];exact True.intro⟩
 refine W.set_plain kU J a.sa (Eh (s:={ s with toks:=s.toks+1 }) kU c tl a J fun b=>?_)
 obtain⟨cd,hcd,hm,V6⟩:=c.cls a.hd
 obtain⟨oc,QZ,Q0,osl⟩:=ox
 dsimp only at hc hdi hd
 subst hc hdi hd
 refine wpAny_bind (wpAny_pure (wpAny_bind (wpAny_bind (wpAny_loadPart hx (wpAny_bind (W.Looks.here (s:={ s with toks:=s.toks+1 }) (W.looks_clsIn kU hcd) ?_))))))
 rw[V6]
 refine wpAny_bind (wpAny_alloc ?_)
 have x1:(s.heap.push { cls:=.type "dict",data:=.dict #[] }).get? x=some ⟨.ref C,none,.fields vs,osl⟩:=Heap.get?_push_of_some _ hx
 refine wpAny_bind (wpAny_update x1 ?_)
 refine wpAny_pure (a:=some s.heap.objs.size) ?_
 show wpAny _ _ (storeInDict s.heap.objs.size (Value.str f s.toks) f v) _ _ _
 unfold storeInDict
 refine wpAny_bind (m:=newKeyGuard _ _ _) ?_
 refine wpAny_pure (wpAny_bind ?_)
 have ne:s.heap.objs.size≠x:=Nat.ne_of_gt (Heap.lt_size hx)
 have d1:((s.heap.push { cls:=.type "dict",data:=.dict #[] }).update x fun o=>{ o with dict:=some s.heap.objs.size }).get? s.heap.objs.size=some { cls:=.type "dict",data:=.dict #[] } :=
  (Heap.get?_update_other _ _ (Ne.symm ne)).trans (Heap.get?_push_size s.heap rfl)
 have x2:((s.heap.push { cls:=.type "dict",data:=.dict #[] }).update x fun o=>{ o with dict:=some s.heap.objs.size }).get? x=some ⟨.ref C,some s.heap.objs.size,.fields vs,osl⟩:=Heap.get?_update_self _ x1 rfl
 refine wpAny_nsSet1 (Kf d1 rfl) fun h' hn2 hs2=>?_
 obtain⟨oD,esD,epD,Qg,Qh,Qi⟩:=hn2.count (ns:=[f]) (PySem.Within.cons f v (ns:=[]) (fun y hy=>absurd rfl hy))
 refine wpAny_bind (wpAny_lookBehind Qg (by rw[Qh];exact pastItsLine_dict (Nat.le_trans Qi (Nat.le_add_left 1 sizeLine))) ?_)
 refine wpAny_pure (h _ _ ((hs2.2 _ (Ne.symm ne)).trans x2) hn2 fun b o hb q=>?_)
 have nb:b≠s.heap.objs.size:=Nat.ne_of_lt (Heap.lt_size q)
 exact(hs2.2 b nb).trans ((Heap.get?_update_other _ _ (Ne.symm hb)).trans (Heap.get?_push_of_some _ q))
theorem Ij {d:Addr}{mA:Str→Option Value}{ns:List Str}{Q:Unit→Shared→Prop} (kU:K.In s.heap) (c:jM K C N bm ini) (tl:zC K bm) (a:Jz K C f) (hx:s.heap.get? x=some ox) (hc:ox.cls=.ref C) (hdi:ox.dict=some d) (hd:ox.data=.fields vs)
  (hn:s.heap.Ns1 d mA) (hw:PySem.Within mA ns) (hsz:ns.length≤sizeLine)
  (h:∀ h' tk,h'.Ns1 d (fun y=>if y=f then some v else mA y)→Heap.SameBut d s.heap h'→Q () { s with heap:=h',toks:=tk }) :
  wpAny (model P w) A (setAttr (.ref x) f v) Q E s:=by
 obtain⟨od,ho,hl⟩:=yz hn
 have J:W.InstAt s.heap x ox C (some od):=⟨hx,hc,by obtain⟨oc,QZ,Q0,osl⟩:=ox;cases hd;rfl,by rw[hdi];exact ho⟩
 refine W.set_plain kU J a.sa (Eh (s:={ s with toks:=s.toks+1 }) kU c tl a J fun b=>?_)
 obtain⟨cd,hcd,hm,V6⟩:=c.cls a.hd
 obtain⟨oc,QZ,Q0,osl⟩:=ox
 dsimp only at hc hdi hd
 subst hc hdi hd
 refine wpAny_bind (wpAny_pure (wpAny_bind (wpAny_bind (wpAny_loadPart hx (wpAny_bind (W.Looks.here (s:={ s with toks:=s.toks+1 }) (W.looks_clsIn kU hcd) ?_))))))
 rw[V6]
 refine wpAny_pure (a:=some d) ?_
 show wpAny _ _ (storeInDict d (Value.str f s.toks) f v) _ _ _
 unfold storeInDict
 refine wpAny_bind (m:=newKeyGuard _ _ _) ?_
 refine wpAny_pure (wpAny_bind ?_)
 refine wpAny_nsSet1 (s:={ s with toks:=s.toks+1 }) hn fun h' hn2 hs2=>?_
 obtain⟨oD,esD,epD,Qg,Qh,Qi⟩:=hn2.count (PySem.Within.cons f v hw)
 refine wpAny_bind (wpAny_lookBehind Qg (by rw[Qh];exact pastItsLine_dict (Nat.le_trans Qi (by rw[List.length_cons];omega))) ?_)
 exact wpAny_pure (h _ _ hn2 hs2)
end
section
variable {P:Program}{w:World}{A:Around}{E:Value→Shared→Prop}{K:W.Frag}{C N fI:Addr}{bm:List Value}{us:List Value}
theorem Ik {s:Shared}{ea:Addr}{oe:Obj}{vs:Array Value}{v:Value}{ini:Option Value}{Q:Value→Shared→Prop} (kU:K.In s.heap) (c:jM K C N bm ini) (tl:zC K bm) (he:s.heap.get? ea=some oe) (hc:oe.cls=.ref C) (hd:oe.data=.fields vs) (hz:0 < vs.size)
  (k:∀ h' t,(∀ b o,b≠ea→s.heap.get? b=some o→h'.get? b=some o)→h'.get? ea=some (oe.mapFields (·.setIfInBounds 0 (.ref t)))→Q .none { s with heap:=h' }) :
  wpAny (model P w) A (call (.builtin "ValueError.__init__") [.ref ea,v]) Q E s:=by
 obtain⟨nm,q,bs,hdct,sn,sub,ab,col,dd,k0,k1,k2,k3,k5,lc⟩:=c.obj kU
 have VE:=PySem.F.excBase_ValueError
 obtain⟨h,g,dr,tk,os⟩:=s
 refine wpAny_call (codeAny_call_builtin VE.init.plain VE.initEntry (wpAny_check_init_subU VE (tl.tail kU) lc he hc ?_))
 wp_walk
 obtain⟨x0,hx0⟩:∃ x0,vs[0]? = some x0:=⟨vs[0],Array.getElem?_eq_getElem hz⟩
 have Pk:(h.push { cls:=.type "tuple",data:=.seq #[v] }).get? ea=some oe:=Heap.get?_push_of_some _ he
 have fin:=k ((h.push { cls:=.type "tuple",data:=.seq #[v] }).update ea (Obj.mapFields (·.setIfInBounds 0 (.ref h.objs.size)))) h.objs.size (fun b o hb q=>(Heap.get?_update_other _ _ (Ne.symm hb)).trans (Heap.get?_push_of_some _ q))
  (Heap.get?_update_self _ Pk (Obj.isFreed_of_fields (Obj.data_mapFields hd _)))
 rw[hd]
 refine wpAny_pure ?_
 rw[hx0]
 refine wpAny_pure (wpAny_bind (wpAny_setField Pk hd hz ?_))
 cases x0 <;> (wp_walk;exact fin)
end
def JA (e:Addr) (C:Value) (od:Option Addr):HO:=.ext fun h=>∃ o vs,h.get? e=some o∧o.cls=C∧o.dict=od∧o.data=.fields vs∧vs[1]? = some .none∧vs[2]? = some .none
theorem LV {P:Program}{w:World}{H:Hp}{h:Heap}{e:Addr}{C:Value}{od:Option Addr} (x:∃ o vs,h.get? e=some o∧o.cls=C∧o.dict=od∧o.data=.fields vs∧vs[1]? = some .none∧vs[2]? = some .none):cA P w H h e (JA e C od) :=
 ⟨x,(let ⟨o,_,q,_⟩:=x;⟨o,q⟩),fun _ _ ⟨o,vs,q,r⟩ k=>⟨o,vs,k o q,r⟩⟩
def LW (d:Addr) (fs:List (Str×V)):HO:=.ext fun h=>∃ mA,h.Ns1 d mA∧(∀ g,mZ (fs.lookup g) (mA g))∧PySem.Within mA (fs.map (·.1))
theorem LX {P:Program}{w:World}{H:Hp}{h:Heap}{d:Addr}{fs:List (Str×V)} (x:∃ mA,h.Ns1 d mA∧(∀ g,mZ (fs.lookup g) (mA g))∧PySem.Within mA (fs.map (·.1))):cA P w H h d (LW d fs) :=
 ⟨x,(let ⟨_,⟨o,_,_,q,_⟩,_⟩:=x;⟨o,q⟩),fun _ _ ⟨m,n,r⟩ k=>⟨m,n.at k,r⟩⟩
theorem M9 {H:Hp}{a:Addr}{o:HO} (h:H a=some o):upd H a o=H:=by
 funext b
 unfold upd
 split
 ·rename_i z;rw[z,h]
 ·rfl
section
variable {X:Cx}{pins:List (Addr×Obj)}{σ:St}{H:Hp}{s:Shared}{a:Addr}{φ:Heap→Prop}
end
def Xh (v:V):Prop:=(∃ a:Int,v=.int a∧a.natAbs.log2 < 1920)∨∃ x:Str,v=.str x∧x.length≤2000
section
variable {X:Cx}{e:Expr}{te:TE}{pos:Pos}
def Xi (te:TE):TE:=fun σ H Q=>te σ H fun v H1=>Xh v∧∀ z:Str,z.length≤2000→Q (.str z) H1
theorem Il (he:PE X e te):PE X (.FormattedValue e (-1) none pos) (Xi te):=by
 intro pins s σ H Q I h
 refine wpAny_FormattedValue_plain (cH (he pins s σ H _ I h) fun u s1 ⟨v,H1,I1,r,f,q⟩=>?_)
 rcases f with ⟨a,rfl,ha⟩ | ⟨x,rfl,hx⟩
 ·obtain⟨t,rfl⟩:=(show ∃ t,u=Value.int a t from r)
  exact wpAny_formatField_int ha ⟨.str (Str.ofString (toString a)),H1,I1.tok _,⟨_,rfl⟩,q _ (Nat.le_trans (int_text_len_1921 ha) (by decide))⟩
 ·obtain⟨t,rfl⟩:=(show ∃ t,u=Value.str x t from r)
  exact wpAny_formatField_str ⟨.str x,H1,I1,⟨_,rfl⟩,q _ hx⟩ ⟨.str x,H1,I1.tok _,⟨_,rfl⟩,q _ hx⟩ (Nat.le_trans hx (by decide))
abbrev TJ:=St→Hp→(Hp→Prop)→Prop
def PJ (X:Cx) (parts:List Expr) (t:TJ):Prop:=∀(pins:List (Addr×Obj)) (s:Shared) (σ:St) (H:Hp) (out:Str) (Q:Hp→Prop),Inv X pins σ H s→t σ H Q→out.length+2000 * parts.length≤100000 →
 wpAny (model X.prog X.w) X.A (joinParts out (evalEach parts X.env)) (fun u s'=>∃ z H',RelV (.str z) u∧Inv X pins σ H' s'∧Q H') X.xe s
theorem Na:PJ X [] (fun _ H Q=>Q H):=fun pins s σ H out Q I h hl=>joinParts_nil ⟨out,H,⟨_,rfl⟩,I.tok _,h⟩ (Nat.le_trans (show out.length≤100000 by simp at hl;exact hl) (by decide))
theorem vm {rest:List Expr}{t:TJ} (he:PE X e te) (hr:PJ X rest t) (hs:evalEach (e :: rest) X.env=eval e X.env :: evalEach rest X.env:=by rfl):PJ X (e :: rest) (fun σ H Q=>te σ H fun v H1=>∃ y:Str,v=.str y∧y.length≤2000∧t σ H1 Q):=by
 intro pins s σ H out Q I h hl
 rw[hs]
 refine joinParts_cons (cH (he pins s σ H _ I h) fun u s1 ⟨v,H1,I1,r,y,ev,hy,q⟩=>?_)
 subst ev
 obtain⟨t,rfl⟩:=(show ∃ t,u=Value.str y t from r)
 have el:(out++y).length=out.length+y.length:=Str.length_append ..
 rw[List.length_cons] at hl
 exact⟨Nat.le_trans (show(out++y).length≤100000 by omega) (by decide),hr pins s1 σ H1 (out++y) Q I1 q (by omega)⟩
theorem E9 {v1 v2:Expr}{rest:List Expr}{t:TJ} (h:PJ X (v1 :: v2 :: rest) t) (hn:2000 * (v1 :: v2 :: rest).length≤100000:=by decide):PE X (.JoinedStr (v1 :: v2 :: rest) pos) (fun σ H Q=>t σ H fun H'=>∀ z:Str,Q (.str z) H'):=by
 intro pins s σ H Q I hq
 refine JoinedStr_many ?_
 exact cH (h pins s σ H Str.empty _ I hq (by show 0+_≤_;omega)) fun u s1 ⟨z,H1,r,I1,q⟩=>⟨.str z,H1,I1,r,q z⟩
end
section
variable {X:Cx}{C N D fI:Addr}{bm:List Value}{ini:Option Value}{x f:Str}{np ap pos cpos pos':Pos}{e o value a1 a2:Expr}{es:List Expr}{t:TA}{ta tv te:TE}
structure XIn (K:W.Frag) (D:Addr):Prop where
 sp:W.specialIn K (.ref D) "__getattribute__" = some (some (.builtin "type.__getattribute__"))
 rd:W.readsIn K D (.type "type")=true
 fc:W.findCls K (.ref D) (.type "type") "__init__" = some (.val (.builtin "ValueError.__init__"))
def Nb (C:Addr) (t:TA):TE:=fun σ H Q=>t σ H fun vs H1=>∃ ea od z,vs=[.ref ea,z]∧H1 ea=some (JA ea (.ref C) od)∧Q .non H1
theorem Im {pl:Sem Bool} (hg:Gl X x) (hm:X.mg x=some (.ref D)) (i:XIn X.K D) (c:jM X.K C N bm ini) (tl:zC X.K bm) (ha:PA X [a1,a2] t) (hdb:(x == ("__debug__" : Str))=false:=by decide)
  (hst:starEach [a1,a2] X.env=(false,eval a1 X.env) :: starEach [a2] X.env:=by rfl) (hpl:(backTo pos (starEach [a2] X.env)).any (·.1)=false:=by rfl)
  (ht:eval (.Call (.Attribute (.Name x np) "__init__" ap) [a1,a2] [] pos) X.env=(do
   let ov ←eval (.Name x np) X.env
   standAt ap.atName
   let (f,first) ←holding [ov] (getMethod ov "__init__" pl)
   callWith pos f first (backTo pos (starEach [a1,a2] X.env)) (backToKw pos (keywordEach [] X.env))):=by rfl) :
  PE X (.Call (.Attribute (.Name x np) "__init__" ap) [a1,a2] [] pos) (Nb C t):=by
 intro pins s σ H Q I h
 refine W.methodCall_KW (pl:=pl) (lK I hg hm ?_ hdb) ht
 refine W.method_cls I.lJ i.sp (W.cls_value I.lJ i.rd i.fc (by decide +kernel) ?_)
 have I0:=I.tok (s.toks+1)
 refine PyProof.Rows.callWith_builtin1 (cH (ha pos pins _ σ H _ I0 h) fun us s1 ⟨vs,H1,I1,r,ea,od,z,ev,Bx,q⟩=>?_) hst hpl
 subst ev
 obtain⟨⟨oe,ws,he,hc,hdi,hd,h1⟩,_⟩:=I1.hok ea _ Bx
 cases r with
 | cons r1 r' =>
  cases r' with
  | cons r2 r'' =>
   cases r''
   obtain rfl:=(show _=Value.ref ea from r1)
   have hz:=(Array.getElem?_eq_some_iff.mp h1.1).1
   refine Ik I1.lJ c tl he hc hd (by omega) fun h' ta kp he'=>?_
   have W:=I1.write (x:=ea) (e:=ea) (o:=JA ea (.ref C) od) (h':=h') (t':=s1.toks) (by rw[Bx];exact True.intro) (.inl rfl) kp ⟨_,he'⟩ (LV ⟨_,_,he',(vQ _ _).trans hc,(rS _ _).trans hdi,Obj.data_mapFields hd _,by rw[Array.getElem?_setIfInBounds_ne (by decide)];exact h1.1,by rw[Array.getElem?_setIfInBounds_ne (by decide)];exact h1.2⟩)
   rw[M9 Bx] at W
   exact⟨.non,H1,W,rfl,q⟩
def Nc (C:Addr) (ta tv:TE) (f:Str):TS:=fun D σ H=>tv σ H fun y H1=>ta σ H1 fun x H2=>∃ ea,x=.ref ea∧H2 ea=some (JA ea (.ref C) none)∧∀ d,H2 d=none→D.nx σ (upd (upd H2 ea (JA ea (.ref C) (some d))) d (LW d [(f,y)]))
theorem Io (hex:X.ex=[]) (c:jM X.K C N bm ini) (tl:zC X.K bm) (a:Jz X.K C f) (ha:PE X o ta) (hv:PE X value tv) (hs:swapsWith value (some (.Attribute o f pos')) pos.line X.env=pure false):PS X (.Assign [.Attribute o f pos'] value pos) (Nc C ta tv f):=by
 intro pins s σ H D I h
 refine plainObj_wpAny_Assign_Attribute (cH (hv pins s σ H _ I h) fun u s1 ⟨y,H1,I1,ry,q⟩=>cH (ha pins s1 σ H1 _ I1 q) fun ov s2 ⟨x,H2,I2,rx,ea,ex,Bx,q2⟩=>?_) hs
 subst ex
 obtain rfl:ov=Value.ref ea:=rx
 obtain⟨⟨oe,ws,he,hc,hdi,hd,h1⟩,_⟩:=I2.hok ea _ Bx
 refine Ii I2.lJ c tl a he hc hdi hd fun h' tk x1 n1 kp=>?_
 have nd:H2 s2.heap.objs.size=none:=I2.hok.fresh (Nat.le_refl _)
 have W:=I2.write (x:=ea) (e:=ea) (o:=JA ea (.ref C) (some s2.heap.objs.size)) (h':=h') (t':=tk) (by rw[Bx];exact True.intro) (.inl rfl) kp ⟨_,x1⟩ (LV ⟨_,_,x1,hc,rfl,hd,h1⟩)
 have ne:s2.heap.objs.size≠ea:=fun z=>by rw[z,Bx] at nd;cases nd
 have T:=I2.LU W (a:=s2.heap.objs.size) (o:=LW s2.heap.objs.size [(f,y)]) hex (by rw[aB ne];exact nd) (Heap.get?_none_of_le (Nat.le_refl _)) (LX ⟨_,n1,fun g=>?_,fun g hg=>?_⟩)
 ·exact⟨σ,_,T,q2 _ nd⟩
 ·show mZ (List.lookup g [(f,y)]) (if g=f then some u else none)
  by_cases z:g=f
  ·subst z;simp[List.lookup];exact ry
  ·rw[if_neg z];simp[List.lookup,beq_false_of_ne z];exact True.intro
 ·by_cases z:g=f
  ·rw[z];exact List.mem_singleton.mpr rfl
  ·exact absurd (if_neg z) hg
def Nf (C:Addr) (ta tv:TE) (f:Str):TS:=fun D σ H=>tv σ H fun y H1=>ta σ H1 fun x H2=>∃ ea d fs,x=.ref ea∧H2 ea=some (JA ea (.ref C) (some d))∧H2 d=some (LW d fs)∧fs.length < 1000∧D.nx σ (upd H2 d (LW d (kX f y fs)))
theorem Ip (c:jM X.K C N bm ini) (tl:zC X.K bm) (a:Jz X.K C f) (ha:PE X o ta) (hv:PE X value tv) (hs:swapsWith value (some (.Attribute o f pos')) pos.line X.env=pure false):PS X (.Assign [.Attribute o f pos'] value pos) (Nf C ta tv f):=by
 intro pins s σ H D I h
 refine plainObj_wpAny_Assign_Attribute (cH (hv pins s σ H _ I h) fun u s1 ⟨y,H1,I1,ry,q⟩=>cH (ha pins s1 σ H1 _ I1 q) fun ov s2 ⟨x,H2,I2,rx,ea,d,fs,ex,Bx,hed,hl,q2⟩=>?_) hs
 subst ex
 obtain rfl:ov=Value.ref ea:=rx
 obtain⟨⟨oe,ws,he,hc,hdi,hd,h1⟩,_⟩:=I2.hok ea _ Bx
 obtain⟨⟨mA,hn,r,wi⟩,_⟩:=I2.hok d _ hed
 have hz:(fs.map (·.1)).length≤sizeLine:=by rw[List.length_map,sizeLine_eq];omega
 refine Ij I2.lJ c tl a he hc hdi hd hn wi hz fun h' tk n1 sb=>?_
 have Lw:∃ o,h'.get? d=some o:=let ⟨o,_,_,e',_⟩:=n1;⟨o,e'⟩
 have W:=I2.write (x:=d) (e:=d) (o:=LW d (kX f y fs)) (h':=h') (t':=tk) (by rw[hed];exact True.intro) (.inl rfl) (fun b q hb z=>(sb.2 b hb).trans z) Lw (LX ⟨_,n1,fun g=>?_,fun g hg=>?_⟩)
 ·exact⟨σ,_,W,q2⟩
 ·show mZ ((kX f y fs).lookup g) (if g=f then some u else mA g)
  rw[nu]
  by_cases q:g=f
  ·rw[if_pos q,if_pos q];exact ry
  ·rw[if_neg q,if_neg q];exact r g
 ·by_cases q:g=f
  ·rw[q];exact(kY f y fs).1
  ·refine(kY f y fs).2 g (wi g fun z=>hg ?_)
   show(if g=f then some u else mA g)=none
   rw[if_neg q];exact z
end
section
variable {P:Program}{w:World}{K:W.Frag}{mg:Str→Option Value}{base:Heap}{N0:List Str}{qual:Str}{scope:Scope}{f:Addr}{cd:Value}{A:Around}{outer:List Env}{s0:Shared}{H0:Hp}{E:XK}
end
structure Q2 (K:W.Frag) (C:Addr):Prop where
 ga:W.findIn K (.ref C) "__getattribute__" = some (some (.builtin "BaseException.__getattribute__"))
 gx:W.findIn K (.ref C) "__getattr__" = some none
 hd:W.hasDictIn K C=true
 ha:W.findIn K (.ref C) "__class__" = some (some (.builtin "object.__class__"))
 hn:W.specialIn K (.builtin "object.__class__") "__get__" = some (some (.builtin "getset_descriptor.__get__"))
 tk:W.takesIn K (.builtin "object.__class__")=some true
 hm:W.mroIn K C (.type "object")=some true
section
variable {P:Program}{w:World}{A:Around}{E:Value→Shared→Prop}{s:Shared}{K:W.Frag}{C N x:Addr}{bm:List Value}{ini:Option Value}{f:Str}{v:Value}{ox:Obj}{vs:Array Value}
theorem Fb {a g:Value}{odo:Option Obj} (hc:(W.clsIn K C).isSome=true) (ha:W.findIn K (.ref C) f=some (some a)) (hg:W.specialIn K a "__get__" = some (some g)) (ht:W.takesIn K a=some true):W.findObj K C odo f=some (.bind g a):=by
 obtain⟨cd,hc⟩:=Option.isSome_iff_exists.mp hc
 unfold W.findObj
 rw[hc,Option.bind_some,ha,Option.bind_some]
 simp[hg,ht]
theorem Iq {tk:Tok}{Q:Fin→Shared→Prop}{tp g a:Value} (L0:W.Looks (model P w) s.heap (typeOf (.ref x)) tp) (L1:W.Looks (model P w) s.heap (find (.ref x) tp f) (.bind g a))
  (h:wpAny (model P w) A (call g [a,.ref x,tp]) (fun v s'=>Q (.done (.ret v)) s') E s) :
  wpAny (model P w) A (Builtin.«object.__getattribute__» ⟨[.ref x,.str f tk],[]⟩) Q E s:=by
 unfold Builtin.«object.__getattribute__»
 refine wpAny_bind (m:=slotArgs _ _ _) ?_
 refine wpAny_pure (a:=(Value.ref x,[Value.str f tk])) ?_
 refine wpAny_bind (m:=attrName _) ?_
 refine wpAny_pure (a:=f) ?_
 refine wpAny_bind (L0.here ?_)
 refine wpAny_bind (L1.here ?_)
 first
  | exact wpAny_bind (wpAny_holding (wpAny_mono h (fun v s' z=>wpAny_pure z) fun _ _ z=>z))
  | exact wpAny_bind (wpAny_mono h (fun v s' z=>wpAny_pure z) fun _ _ z=>z)
theorem Fc {od:Option Obj}{Q:Option Value→Shared→Prop} (kU:K.In s.heap) (c:jM K C N bm ini) (tl:zC K bm) (k:Q2 K C) (J:W.InstAt s.heap x ox C od)
  (h:Q (some (.ref C)) { s with toks:=s.toks+1 }):wpAny (model P w) A (getAttr? (.ref x) "__class__") Q E s:=by
 obtain⟨cd,hcd,hm,V6⟩:=c.cls k.hd
 have FO:W.findObj K C od "__class__" = some (.bind (.builtin "getset_descriptor.__get__") (.builtin "object.__class__")):=Fb (by rw[hcd];rfl) k.ha k.hn k.tk
 have hob:(cd.mro.contains (.type "BaseException"))=true:=by rw[hm,List.contains_cons,tl.base];rfl
 have ne:cd.mro.isEmpty=false:=by rw[hm];rfl
 have sub:W.Looks (model P w) s.heap (isInstance (.ref x) (.type "BaseException")) true :=
  J.type.andThen (W.looks_mroIn kU (by unfold W.mroIn;rw[hcd,Option.bind_some,if_neg (by rw[ne];decide),hob]))
 have hk:W.Looks (model P w) s.heap (hookBefore (.ref C)) none:=W.looks_hook kU (by show(if onTheHeap (.ref C) then _ else _)=_;exact k.gx)
 have L1:=W.looks_find (M:=model P w) kU J FO
 unfold getAttr? getAttrBy? getAttrBy
 refine wpAny_bind (wpAny_mkText (wpAny_bind (wpAny_attempt (wpAny_holding (wpAny_bind (J.type _ _ _ _ (fun _ _ e=>e) (wpAny_bind (W.looks_findIn kU k.ga _ _ _ _ (fun _ _ e=>e) ?_))))))))
 dsimp only
 rw[show(onTheHeap (Value.ref C) && Value.builtin "BaseException.__getattribute__" == Value.builtin "object.__getattribute__")=false from by rw[show(Value.builtin "BaseException.__getattribute__" == Value.builtin "object.__getattribute__")=false from by decide +kernel];exact Bool.and_false _,if_neg (by decide)]
 refine wpAny_bind (hk _ _ _ _ (fun _ _ e=>e) (wpAny_bind (wpAny_attempt (wpAny_holding ?_))))
 unfold callGetattribute
 rw[show(false && onTheHeap (Value.builtin "BaseException.__getattribute__"))=false from Bool.false_and _,if_neg (by decide)]
 unfold boundAndCalled
 rw[PySem.F.attr_ValueError.ga.bind]
 refine wpAny_bind (wpAny_pure ?_)
 show wpAny _ _ (call (.builtin "BaseException.__getattribute__") [.ref x,.str "__class__" s.toks]) _ _ _
 refine wpAny_call (codeAny_call_builtin PySem.F.attr_ValueError.ga.plain PySem.F.entry_bexc_ga (W.check_slot (M:=model P w) (s:={ s with toks:=s.toks+1 }) (i := "BaseException.__getattribute__") (owner := "BaseException") (n := "__getattribute__") (self:=.ref x) (rest:=[.str "__class__" s.toks]) (kw:=[]) (by decide +kernel) (by decide +kernel) sub (PySem.F.args_bexc_ga (.ref x) (.str "__class__" s.toks)) ?_))
 refine Iq (s:={ s with toks:=s.toks+1 }) J.type L1 (wpAny_call (W.class_get (s:={ s with toks:=s.toks+1 }) (ox:=ox) (od:=od) kU J k.hm ?_))
 show wpAny _ _ (handedOut (.ref C)) _ _ _
 rw[W.handedOut_of rfl]
 exact wpAny_pure (wpAny_pure h)
theorem vU {x:Addr}{ox:Obj}{od:Option Obj} (c:jM K C N bm ini) (tl:zC K bm) (k:Q2 K C):W.KitX K (.ref x) (.ref C) (fun h=>W.InstAt h x ox C od) where
 ty:=fun _ _ _ I=>I.type
 it:=fun _ _ X _=>by
  obtain⟨nm,q,bs,hdct,sn,sub,ab,col,dd,k0,k1,k2,k3,k5,lc⟩:=c.ob
  intro A' Q' E' s' k q
  unfold isType loadHead
  exact wpAny_bind (wpAny_loadPart (k _ _ (X _ _ lc)) (wpAny_pure q))
 ne:=fun h tp dd its n sl X htp=>by
  obtain⟨nm,q,bs,hdct,sn,sub,ab,col,dd,k0,k1,k2,k3,k5,lc⟩:=c.ob
  refine Bool.eq_false_iff.mpr fun q=>?_
  have e:C=tp:=Value.ref.inj (beq_iff_eq.mp q)
  subst e
  have z:=congrArg Obj.cls (Option.some.inj ((X _ _ lc).symm.trans htp))
  have z:Value.type "type" = Value.type "tuple" := z
  injection z with z
  exact absurd z (by decide)
 ca:=fun X I q=>Fc X c tl k I q
end
section
variable {X:Cx}{K:W.Frag}
def Kg (H:Hp) (ea C:Addr):Prop:=∃ od,(H ea=some (JA ea (.ref C) od)∨H ea=some (GU ea (.ref C) od))∧(od=none∨∃ d fs,od=some d∧H d=some (LW d fs))
theorem Kg.at {pins:List (Addr×Obj)}{σ:St}{H:Hp}{s:Shared}{ea C:Addr} (I:Inv X pins σ H s) (h:Kg H ea C):∃ o od,W.InstAt s.heap ea o C od:=by
 obtain⟨od,e,d⟩:=h
 obtain⟨o,vs,q1,q2,q3,q4⟩:∃ o vs,s.heap.get? ea=some o∧o.cls=.ref C∧o.dict=od∧o.data=.fields vs:=by
  rcases e with e | e
  ·obtain⟨⟨o,vs,q1,q2,q3,q4,_⟩,_⟩:=I.hok ea _ e
   exact⟨o,vs,q1,q2,q3,q4⟩
  ·obtain⟨⟨o,vs,q1,q2,q3,q4,_⟩,_⟩:=I.hok ea _ e
   exact⟨o,vs,q1,q2,q3,q4⟩
 have no:∀{P:Prop},P→P:=id
 rcases d with rfl | ⟨d,fs,rfl,e2⟩
 ·exact⟨o,none,q1,q2,by obtain⟨oc,QZ,Q0,osl⟩:=o;cases q4;rfl,by rw[q3];exact True.intro⟩
 ·obtain⟨⟨mA,⟨od,es,n,ho,_⟩,_⟩,_⟩:=I.hok d _ e2
  exact⟨o,some od,q1,q2,by obtain⟨oc,QZ,Q0,osl⟩:=o;cases q4;rfl,by rw[q3];exact ho⟩
theorem Kg.mono {H H':Hp}{ea C:Addr} (s:aG H H') (h:Kg H ea C):Kg H' ea C:=by
 obtain⟨od,e,d⟩:=h
 refine⟨od,e.imp (s _ _) (s _ _),d.imp id fun ⟨d,fs,e1,e2⟩=>⟨d,fs,e1,s _ _ e2⟩⟩
def Xj (K:W.Frag):List V→Hp→VK→Prop:=fun xs H Q=>∃ ea C N bm ini c b,xs=[.ref ea,c]∧Kg H ea C∧jM K C N bm ini∧zC K bm∧Q2 K C∧((∃ n,c=.ty n∧W.kitOne K (.ref C) (.type n)=some b)∨(∃ a,c=.ref a∧W.kitOne K (.ref C) (.ref a)=some b))∧Q (.bl b) H
theorem By (h:X.K=K):gP X (.builtin "isinstance") (Xj K):=by
 subst h
 intro pins s σ H xs us Q I r h
 obtain⟨ea,C,N,bm,ini,c,b,rfl,xo,xc,tl,k,hc,q⟩:=h
 obtain⟨u,w',rfl,ru,rw'⟩:=vals2 r
 obtain⟨o,od,J⟩:=xo.at I
 cases(show u=Value.ref ea from ru)
 rcases hc with ⟨n,rfl,e⟩ | ⟨a,rfl,e⟩
 ·cases rw'
  exact W.kia_one (vU xc tl k) I.lJ J e (fun z=>nomatch z) fun tk=>⟨.bl b,H,I.tok tk,rfl,q⟩
 ·cases rw'
  exact W.kia_one (vU xc tl k) I.lJ J e (fun z=>nomatch z) fun tk=>⟨.bl b,H,I.tok tk,rfl,q⟩
end
section
variable {X:Cx}{C N fI:Addr}{bm:List Value}{x:Str}{np cpos:Pos}{e:Expr}{es:List Expr}{t:TA}
end
section
variable {K:W.Frag}{C D N N':Addr}{bm bm':List Value}{ini M7:Option Value}{b:Bool}
theorem jM.kind (c:jM K C N bm ini):(W.clsIn K C).isSome=true∧W.typeIn K (.ref C)=some (.type "type"):=by
 obtain⟨nm,q,bs,hdct,sn,sub,ab,col,dd,k0,k1,k2,k3,k5,lc⟩:=c.ob
 constructor
 ·unfold W.clsIn;rw[lc];rfl
 ·show(K.lookup C).map (·.cls)=_;rw[lc];rfl
theorem jM.self (c:jM K C N bm ini):W.mroIn K C (.ref C)=some true:=by
 obtain⟨nm,q,bs,hdct,sn,sub,ab,col,dd,k0,k1,k2,k3,k5,lc⟩:=c.ob
 unfold W.mroIn W.clsIn
 rw[lc]
 show(if (Value.ref C :: bm).isEmpty=true then none else some ((Value.ref C :: bm).contains (.ref C)))=some true
 simp
theorem yP (c:jM K C N bm ini) (d:jM K D N' bm' M7) (m:W.mroIn K C (.ref D)=some b):W.kitOne K (.ref C) (.ref D)=some b:=by
 unfold W.kitOne
 by_cases e:C=D
 ·subst e
  rw[c.self] at m
  rw[if_pos (by simp)];exact m
 ·rw[if_neg (by simp;exact e)]
  unfold W.kitCls
  dsimp only
  rw[d.kind.1,d.kind.2,if_pos (by decide)]
  exact m
theorem Q3 (m:W.mroIn K C (.type "ValueError")=some b):W.kitOne K (.ref C) (.type "ValueError")=some b:=by
 unfold W.kitOne
 rw[if_neg (by simp)]
 unfold W.kitCls
 dsimp only
 rw[if_pos (by decide +kernel)]
 exact m
end
open PySem PySem.Spec PyProof.Rows PySem.Builtin
section
variable {prog:Program}{w:World}{A:Around}{E:Value→Shared→Prop}{s:Shared}{α:Type}
end
end L2
set_option maxHeartbeats 4000000
namespace L2
open PySem PySem.Spec PyProof.Rows
section
variable {X:Cx}{tg:Expr}{ea:Addr}
end
section
variable {X:Cx}{elt tg iter:Expr}{ifs:List Expr}{scope:Scope}{pos:Pos}{N:List Str}{nv:Nat}{js:List Nat}{wi:TI}{g:TG}{tt:TT}{te:TE}
end
theorem LY {P:Program}{w:World}{X:Cx}:Passes (xK P w) X E0:=fun _ _ _ _ _ _ _ h=>by
 obtain⟨_,_,_,_,_,_,_,_,_,_,h⟩:=h
 exact h.elim
end L2
set_option maxHeartbeats 1000000
namespace L2
open PySem PySem.Spec PyProof.Rows
section
variable {P:Program}{w:World}{K:W.Frag}{mg:Str→Option Value}{base:Heap}
end
section
variable {X:Cx}{k:Nat}{f:Addr}{fd:FuncData}{ps:List Str}{sp:Sp}{x:Str}{p pos:Pos}{e:Expr}{es:List Expr}{t:TA}
end
end L2
set_option maxHeartbeats 4000000
namespace L2
open PySem PySem.Spec PyProof.Rows
section
variable {X:Cx}{K:W.Frag}
def Q4 (K:W.Frag):List V→Hp→VK→Prop:=fun xs H Q=>∃(ea C N:Addr) (bm:List Value) (ini:Option Value) (tp:Addr) (Ds:List Addr),xs=[.ref ea,.ref tp]∧Kg H ea C∧jM K C N bm ini∧zC K bm∧Q2 K C∧H tp=some (.tup (Ds.map V.ref))∧(∀ D∈Ds,W.kitOne K (.ref C) (.ref D)=some false)∧Q (.bl false) H
theorem yQ:∀{Ds:List Addr}{us:List Value},Vals (Ds.map V.ref) us→us=Ds.map Value.ref
 | [],_,.nil=>rfl
 | D :: Ds,_,.cons r t=>by cases(show _=Value.ref D from r);rw[yQ t];rfl
theorem BA {C:Addr}:∀{Ds:List Addr},(∀ D∈Ds,W.kitOne K (.ref C) (.ref D)=some false)→W.kitAny K (.ref C) (Ds.map Value.ref)=some false
 | [],_=>rfl
 | D :: Ds,h=>by
  show(match W.kitOne K (.ref C) (.ref D) with | some true=>some true | some false=>W.kitAny K (.ref C) (Ds.map Value.ref) | none=>none)=_
  rw[h D (List.mem_cons_self ..)]
  exact BA fun D' h'=>h D' (List.mem_cons_of_mem _ h')
theorem Fd (h:X.K=K):gP X (.builtin "isinstance") (Q4 K):=by
 subst h
 intro pins s σ H xs us Q I r h
 obtain⟨ea,C,N,bm,ini,tp,Ds,rfl,xo,xc,tl,k,ht,hD,q⟩:=h
 obtain⟨u,w',rfl,ru,rw'⟩:=vals2 r
 obtain⟨o,od,J⟩:=xo.at I
 cases(show u=Value.ref ea from ru)
 cases(show w'=Value.ref tp from rw')
 obtain⟨_,its,rv,ob,hob,hc,n,hd⟩:=(show cA X.prog X.w H s.heap tp (.tup (Ds.map V.ref)) from I.hok tp _ ht)
 obtain⟨cls,dd,data,sl⟩:=ob
 simp only at hc hd
 subst hc hd
 rw[yQ rv] at hob
 exact W.kia_tup (vU xc tl k) I.lJ J hob (BA hD) (fun z=>nomatch z) fun tk=>⟨.bl false,H,I.tok tk,rfl,q⟩
end
section
variable {X:Cx}
def Q5:Expr→Option V
 | .Constant (.str z) _ _=>some (.str z)
 | .Constant (.int i) _ _=>some (.int i)
 | .Constant (.bool b) _ _=>some (.bl b)
 | .Constant .none _ _=>some .non
 | _=>none
inductive Cs:List Expr→List V→Prop where
 | nil:Cs [] []
 | cons {e:Expr}{v:V}{es:List Expr}{vs:List V}:Q5 e=some v→Cs es vs→Cs (e :: es) (v :: vs)
def tCs (vs:List V):TA:=fun _ H Q=>Q vs H
theorem Ng {e:Expr}{v:V} (h:Q5 e=some v):PE X e (tC v):=by
 unfold Q5 at h
 split at h
 ·cases h;exact aA
 ·cases h;exact ay
 ·cases h;exact jF
 ·cases h;exact cX
 ·cases h
theorem Kh {e:Expr}{v:V} (h:Q5 e=some v) (es:List Expr):starEach (e :: es) X.env=(false,eval e X.env) :: starEach es X.env:=by
 unfold Q5 at h
 split at h
 ·rfl
 ·rfl
 ·rfl
 ·rfl
 ·cases h
theorem Q6 {es:List Expr}{vs:List V} (h:Cs es vs):PA X es (tCs vs):=by
 induction h with
 | nil=>exact aj
 | cons h1 _ ih=>exact af (Ng h1) ih (Kh h1 _)
theorem gR {a o b p}{tt:Option Expr}{ll:Nat}{env:Env}:swapsWith (.BinOp a o b p) tt ll env=pure false:=rfl
theorem Kl {k v p}{tt:Option Expr}{ll:Nat}{env:Env}:swapsWith (.Dict k v p) tt ll env=pure false:=rfl
theorem fG {f a k p}{tt:Option Expr}{ll:Nat}{env:Env}:swapsWith (.Call f a k p) tt ll env=pure false:=rfl
theorem nG {v k p}{tt:Option Expr}{ll:Nat}{env:Env}:swapsWith (.Constant v k p) tt ll env=pure false:=rfl
theorem fH {v s p}{tt:Option Expr}{ll:Nat}{env:Env}:swapsWith (.Subscript v s p) tt ll env=pure false:=rfl
theorem Km {i p}{tt:Option Expr}{ll:Nat}{env:Env}:swapsWith (.Name i p) tt ll env=pure false:=rfl
theorem jk {e p}{tt:Option Expr}{ll:Nat}{env:Env}:swapsWith (.List e p) tt ll env=pure false:=rfl
theorem Ir {e k p}{tt:Option Expr}{ll:Nat}{env:Env}:swapsWith (.Tuple e k p) tt ll env=pure false:=rfl
theorem cL {a o b p es}{env:Env}:starEach (.BinOp a o b p :: es) env=(false,eval (.BinOp a o b p) env) :: starEach es env:=rfl
theorem vV {t a b p es}{env:Env}:starEach (.IfExp t a b p :: es) env=(false,eval (.IfExp t a b p) env) :: starEach es env:=rfl
theorem Kn {k v p es}{env:Env}:starEach (.Dict k v p :: es) env=(false,eval (.Dict k v p) env) :: starEach es env:=rfl
theorem lS {l o c p es}{env:Env}:starEach (.Compare l o c p :: es) env=(false,eval (.Compare l o c p) env) :: starEach es env:=rfl
theorem jl {f a k p es}{env:Env}:starEach (.Call f a k p :: es) env=(false,eval (.Call f a k p) env) :: starEach es env:=rfl
theorem zD {v p es}{env:Env}:starEach (.JoinedStr v p :: es) env=(false,eval (.JoinedStr v p) env) :: starEach es env:=rfl
theorem ai {v k p es}{env:Env}:starEach (.Constant v k p :: es) env=(false,eval (.Constant v k p) env) :: starEach es env:=rfl
theorem aS {v a p es}{env:Env}:starEach (.Attribute v a p :: es) env=(false,eval (.Attribute v a p) env) :: starEach es env:=rfl
theorem aD {v s p es}{env:Env}:starEach (.Subscript v s p :: es) env=(false,eval (.Subscript v s p) env) :: starEach es env:=rfl
theorem ak {i p es}{env:Env}:starEach (.Name i p :: es) env=(false,eval (.Name i p) env) :: starEach es env:=rfl
theorem fJ {e p es}{env:Env}:starEach (.List e p :: es) env=(false,eval (.List e p) env) :: starEach es env:=rfl
theorem cg {e k p es}{env:Env}:starEach (.Tuple e k p :: es) env=(false,eval (.Tuple e k p) env) :: starEach es env:=rfl
theorem dR {e g s p es}{env:Env}:starEach (.ListComp e g s p :: es) env=(false,eval (.ListComp e g s p) env) :: starEach es env:=rfl
end
end L2
set_option maxHeartbeats 1000000
namespace L2
open PySem PySem.Spec PyProof.Rows
section
variable {X:Cx}
end
section
variable {X:Cx}
def Iu:R2:=fun x y H Q=>∃ a,x=.ref a∧y=.ref a∧H a=some (.dK [])∧Q (.bl false) H
theorem Ko (hu:X.A.units < cLine):lO X (compareOp .NotEq) Iu:=by
 intro pins s σ H x y v u Q I rx ry h
 obtain⟨a,rfl,rfl,ha,q⟩:=h
 cases rx;cases ry
 obtain⟨z,hd,vs,rel,dd⟩:=QK I.hok ha
 cases rel with
 | nil=>exact W.keq_ne hd hd dd dd hu (r:=true) (fun _=>.nil) (bq I q rfl)
end
end L2
set_option maxHeartbeats 4000000
namespace L2
open PySem PySem.Spec PyProof.Rows
theorem Fe {x:Str}:[x].Nodup:=.cons (fun y hy=>nomatch hy) .nil
section
variable {X:Cx}
theorem pG (i:Nat) {x:Str}{pos:Pos} (hN:X.N.Nodup) (hi:X.N[i]? = some x:=by rfl) (hx:Loc X.env.scope x:=by first | exact .inl rfl | exact .inr rfl) (hf:X.fn x=true∨X.env.scope.names.lookup x=some .local:=by first | exact .inl rfl | exact .inr rfl | assumption):PG X (.Name x pos) (d8 i):=JJ hN hi hx hf
theorem lg (i:Nat) {x:Str}{e:Expr}{te:TE}{pos pos':Pos} (hN:X.N.Nodup) (he:PE X e te) (hi:X.N[i]? = some x:=by rfl) (hx:Loc X.env.scope x:=by first | exact .inl rfl | exact .inr rfl) (hs:swapsWith e (some (.Name x pos')) pos.line X.env=pure false:=by rfl) (hf:X.fn x=true∨X.env.scope.names.lookup x=some .local:=by first | exact .inl rfl | exact .inr rfl | assumption) :
 PS X (.Assign [.Name x pos'] e pos) (JK te (d8 i)):=Cn hN hi hx he hs hf
theorem CK {XN:List Str}{Pe:Scope}{N:List Str}{nv:Nat}{js:List Nat}{scope:Scope} (kind:scope.kind=.function:=by rfl) (cell:∀ y∈scope.names,y.2≠.cell:=by decide +kernel) (loc:∀ y∈scope.names,y.2=.local→scope.names.lookup y.1=some .local:=by decide +kernel)
 (free:∀ y∈scope.names,y.2=.free→(Pe.names.lookup y.1=some .cell∨Pe.names.lookup y.1=some .free):=by decide +kernel) (nd:N.Nodup:=by decide +kernel) (len:N.length=nv+js.length:=by rfl) (pl:js.map (fun j=>XN[j]?)=(N.drop nv).map some:=by rfl)
 (fr:∀ x∈N.drop nv,scope.names.lookup x=some .free:=by decide +kernel):aX XN Pe N nv js scope:=⟨kind,cell,loc,free,nd,len,pl,fr⟩
theorem nH {id:String}{r:List V→Hp→VK→Prop}{x:Str}{e:Expr}{es:List Expr}{t:TA}{p pos:Pos} (hc:gP X (.builtin id) r) (hm:X.mg x=none) (ha:PA X (e :: es) t) (hg:Gl X x:=by rfl) (hv:bootBuiltins x=some (.builtin id):=by decide +kernel) (hn:x ≠ "__name__" := by decide) (hdb:(x == ("__debug__" : Str))=false:=by decide)
 (he:starEach (e :: es) X.env=(false,eval e X.env) :: starEach es X.env:=by rfl) (hpl:(backTo pos (starEach es X.env)).any (·.1)=false:=by rfl):PE X (.Call (.Name x p) (e :: es) [] pos) (V0 r t):=Hs hc hg hm hv ha hn hdb he hpl
theorem pcy {T:String}{r:List V→Hp→VK→Prop}{x:Str}{e:Expr}{es:List Expr}{t:TA}{p pos:Pos} (hc:gP X (.type T) r) (hm:X.mg x=none) (ha:PA X (e :: es) t) (hg:Gl X x:=by rfl) (hv:bootBuiltins x=some (.type T):=by decide +kernel) (hn:x ≠ "__name__" := by decide) (hdb:(x == ("__debug__" : Str))=false:=by decide)
 (he:starEach (e :: es) X.env=(false,eval e X.env) :: starEach es X.env:=by rfl) (hpl:(backTo pos (starEach es X.env)).any (·.1)=false:=by rfl):PE X (.Call (.Name x p) (e :: es) [] pos) (V0 r t):=EO hc hg hm hv ha hn hdb he hpl
theorem Iv (n:String) {x:Str}{pos:Pos} (hm:X.mg x=none) (hg:Gl X x:=by rfl) (hv:bootBuiltins x=some (.type n):=by decide +kernel) (hn:x ≠ "__name__" := by decide) (hd:(x == ("__debug__" : Str))=false:=by decide):PE X (.Name x pos) (tC (.ty n)):=MQ n hg hm hv hn hd
theorem kc {k kk:Nat}{f:Addr}{fd:FuncData}{ps:List Str}{sp:Sp}{x:Str}{e:Expr}{es:List Expr}{t:TA}{p pos:Pos} (F:aI X.prog X.w X.K X.mg X.base bN k f fd ps sp) (hr:fR kk X.A) (hm:X.mg x=some (.ref f)) (hk:W.keepIn X.K (.ref f)=true) (hb:Binds X.K fd ps []) (ha:PA X (e :: es) t) (hkk:k≤kk:=by decide) (hg:Gl X x:=by rfl)
 (hdb:(x == ("__debug__" : Str))=false:=by decide) (he:starEach (e :: es) X.env=(false,eval e X.env) :: starEach es X.env:=by rfl) (hpl:(backTo pos (starEach es X.env)).any (·.1)=false:=by rfl):PE X (.Call (.Name x p) (e :: es) [] pos) (LI sp [] E0 t):=oO F (hr.mono hkk) hg hm hk hb .nil jI ha hdb he hpl
theorem m5 (K:W.Frag) {a b:Expr}{ta tb:TE}{pos:Pos} (ha:PE X a ta) (hb:PE X b tb) (hs:zx b:=by exact fun _ _=>rfl) (h:X.K=K:=by rfl):PE X (.Subscript a b pos) (LC (ME K) ta tb):=Hu (J4 K h) ha hb hs
theorem CL (K:W.Frag) {a b:Expr}{ta tb:TE}{pos:Pos} (ha:PE X a ta) (hb:PE X b tb) (hs:zx b:=by exact fun _ _=>rfl) (h:X.K=K:=by rfl):PE X (.Subscript a b pos) (LC (MD K) ta tb):=Hu (HD K h) ha hb hs
theorem jd {op:CmpOp}{r:R2}{a b:Expr}{ta tb:TE}{pos:Pos} (ho:lO X (compareOp op) r) (ha:PE X a ta) (hb:PE X b tb) (h:op≠.In:=by decide) (h2:op≠.NotIn:=by decide):PT X (.Compare a [op] [b] pos) (LH (LC r ta tb)):=gQ ho ha hb (Hi b h h2)
theorem Iw {op:CmpOp}{r:R2}{a b:Expr}{ta tb:TE}{pos:Pos} (ho:lO X (compareOp op) r) (ha:PE X a ta) (hb:PE X b tb) (h:op≠.In:=by decide) (h2:op≠.NotIn:=by decide):PE X (.Compare a [op] [b] pos) (LC r ta tb):=D6 ho ha hb (Hi b h h2)
end
abbrev FO (n q:Str) (s:Stmt) (d oc:Value) (od:Option Addr) (kV dc pm:Value) (an:Option Addr) (cd ct:Value) (sl:Array (Option Value)):Option Obj:=some ⟨oc,od,.func (W.fnOf n q (cK s) (bX s) (av s) d kV dc pm an cd ct),sl⟩
abbrev FN (n q:Str) (s:Stmt) (d kV dc pm:Value) (an:Option Addr) (cd ct:Value):FuncData:=W.fnOf n q (cK s) (bX s) (av s) d kV dc pm an cd ct
abbrev RF (a:Addr):Option (Option Value):=some (some (.ref a))
theorem gE.lT {K:W.Frag}{x qual:Str}{st:Stmt}{f:Addr}{fd:FuncData}{ps:List Str} (F:gE K x qual st f fd) (hp:ps.length=1:=by rfl)
  (h:∀(kV doc pm:Value) (an:Option Addr) (cdv ct a0:Value),bindArgs (W.fnOf x qual (cK st) (bX st) (av st) .none kV doc pm an cdv ct) ⟨[a0],[]⟩=pure (ps.zip [a0]):=by intros;rfl):Binds K fd ps [] :=
 F.binds fun kV doc pm an cdv ct us hl=>by
  rw[hp] at hl
  match us,hl with
  | [a0],_=>exact h kV doc pm an cdv ct a0
theorem gE.rT {K:W.Frag}{x qual:Str}{st:Stmt}{f:Addr}{fd:FuncData}{ps:List Str} (F:gE K x qual st f fd) (hp:ps.length=2:=by rfl)
  (h:∀(kV doc pm:Value) (an:Option Addr) (cdv ct a0 a1:Value),bindArgs (W.fnOf x qual (cK st) (bX st) (av st) .none kV doc pm an cdv ct) ⟨[a0,a1],[]⟩=pure (ps.zip [a0,a1]):=by intros;rfl):Binds K fd ps [] :=
 F.binds fun kV doc pm an cdv ct us hl=>by
  rw[hp] at hl
  match us,hl with
  | [a0,a1],_=>exact h kV doc pm an cdv ct a0 a1
theorem gE.rU {K:W.Frag}{x qual:Str}{st:Stmt}{f:Addr}{fd:FuncData}{ps:List Str} (F:gE K x qual st f fd) (hp:ps.length=3:=by rfl)
  (h:∀(kV doc pm:Value) (an:Option Addr) (cdv ct a0 a1 a2:Value),bindArgs (W.fnOf x qual (cK st) (bX st) (av st) .none kV doc pm an cdv ct) ⟨[a0,a1,a2],[]⟩=pure (ps.zip [a0,a1,a2]):=by intros;rfl):Binds K fd ps [] :=
 F.binds fun kV doc pm an cdv ct us hl=>by
  rw[hp] at hl
  match us,hl with
  | [a0,a1,a2],_=>exact h kV doc pm an cdv ct a0 a1 a2
theorem gE.Q7 {K:W.Frag}{x qual:Str}{st:Stmt}{f:Addr}{fd:FuncData}{ps:List Str} (F:gE K x qual st f fd) (hp:ps.length=4:=by rfl)
  (h:∀(kV doc pm:Value) (an:Option Addr) (cdv ct a0 a1 a2 a3:Value),bindArgs (W.fnOf x qual (cK st) (bX st) (av st) .none kV doc pm an cdv ct) ⟨[a0,a1,a2,a3],[]⟩=pure (ps.zip [a0,a1,a2,a3]):=by intros;rfl):Binds K fd ps [] :=
 F.binds fun kV doc pm an cdv ct us hl=>by
  rw[hp] at hl
  match us,hl with
  | [a0,a1,a2,a3],_=>exact h kV doc pm an cdv ct a0 a1 a2 a3
end L2
namespace My
open PySem L2
def top (i:Nat):Stmt:=PySem.Challenge.pw_dialecthall_k42_no_tables.main.body.getD i (.Pass ⟨0,0,0,0⟩)
abbrev dD:Stmt:=top 12
abbrev bL:Stmt:=top 27
abbrev aY:Stmt:=inClass (top 28) 0
abbrev fh:Stmt:=inClass (top 28) 1
abbrev gS:Stmt:=top 29
abbrev d9:Stmt:=inClass (top 40) 0
abbrev cM:Stmt:=inClass (top 42) 0
abbrev vW:Stmt:=top 18
abbrev cN:Stmt:=inClass (top 28) 2
abbrev cO:Stmt:=inClass (top 47) 0
abbrev bS:Stmt:=inClass (top 6) 0
abbrev eX:Stmt:=inClass (top 5) 0
abbrev bY:Stmt:=top 13
abbrev lu:Stmt:=top 14
abbrev ly:Stmt:=top 15
abbrev dF:Stmt:=top 16
abbrev gu:Stmt:=top 17
abbrev cJ:Stmt:=top 22
abbrev fS:Stmt:=top 23
abbrev iO:Stmt:=top 24
abbrev fj:Stmt:=top 25
abbrev lz:Stmt:=top 32
abbrev cj:Stmt:=top 34
abbrev eg:Stmt:=top 35
abbrev fT:Stmt:=top 36
abbrev fV:Stmt:=top 37
abbrev eo:Stmt:=top 38
abbrev gT:Stmt:=top 39
abbrev iP:Stmt:=inClass (top 40) 1
abbrev dG:Stmt:=inClass (top 40) 2
abbrev bT:Stmt:=inClass (top 42) 1
abbrev bI:Stmt:=inClass (top 42) 2
abbrev cE:Stmt:=inClass (top 47) 1
abbrev dH:Stmt:=inClass (top 47) 2
abbrev fk:Stmt:=top 44
abbrev lA:Stmt:=top 45
abbrev lB:Stmt:=top 48
abbrev jN:Stmt:=top 49
abbrev fm:Stmt:=top 51
abbrev gU:Stmt:=top 52
abbrev fW:Stmt:=top 53
abbrev iQ:Stmt:=top 54
abbrev gW:Stmt:=top 55
abbrev iR:Stmt:=top 56
abbrev iS:Stmt:=top 57
abbrev dU:Stmt:=top 58
abbrev bP:Stmt:=top 59
abbrev fq:Stmt:=top 60
abbrev tH:Stmt:=top 61
theorem au {H:Hp}{l:Addr}{o:HO} (h:H l=none):aG H (upd H l o):=fun b u e=>by rw[aB (aM e h)];exact e
theorem aZ {H H2:Hp}{l:Addr}{o:HO} (h:H l=none) (s:aG H H2):aG H (upd H2 l o):=fun b u e=>by rw[aB (aM e h)];exact s b u e
theorem rV {i:Nat}{x:V}{σ:St}{H:Hp}{A B:St→Hp→Prop} (h:A (σ.set i (some x)) H):d8 i x σ H (fun τ2 H2=>Qw τ2 H2 fun b H3=>if b=true then A τ2 H3 else B τ2 H3):=by
 show(if true=true then A (σ.set i (some x)) H else B (σ.set i (some x)) H)
 exact nA h
theorem LZ {p A B:Prop} [Decidable p] (hp:¬p) (h:B):if decide p=true then A else B:=by rw[if_neg (by simpa using hp)];exact h
theorem L4 {A B:Prop}{b:Bool} (hb:b=true) (h:B):if (!b)=true then A else B:=by rw[hb];exact gK h
theorem zE {α:Type}{xs:List α}{i:Int} (h0:0≤i) (h:i < xs.length):∃ c,Ht xs i=some c∧c∈xs:=by
 obtain⟨j,rfl⟩:∃ j:Nat,i=j:=⟨i.toNat,by omega⟩
 have hj:j < xs.length:=by omega
 exact⟨xs[j],ve (by simp[hj]),List.getElem_mem hj⟩
theorem Kp {α:Type} (f:α→V) (cs:List α) (lo hi:Option Int):∃ cs2:List α,iB (cs.map f) lo hi=cs2.map f∧cs2.length≤cs.length:=by
 unfold iB
 refine⟨(cs.drop (HT.AW (cs.map f).length 0 lo)).take (HT.AW (cs.map f).length (cs.map f).length hi - HT.AW (cs.map f).length 0 lo),?_,?_⟩
 ·rw[List.map_take,List.map_drop]
 ·rw[List.length_take,List.length_drop];omega
theorem take_snoc {l:List Nat}{i c:Nat} (h:l[i]? = some c):l.take (i+1)=l.take i++[c]:=by
 rw[List.take_succ,h];rfl
def Pn (c:Nat):Prop:=32≤c∧c≤126∧c≠37
instance (c:Nat):Decidable (Pn c):=by unfold Pn;exact inferInstance
structure Sg (z:Str):Prop where
 nd:z.cps.toList.Nodup
 pr:∀ c∈z.cps.toList,Pn c
def Mn (z:Str):Prop:=0 < z.length∧z.length≤100∧∀ c∈z.cps.toList,Pn c
instance (z:Str):Decidable (Mn z):=by unfold Mn;exact inferInstance
structure Gd (p q f:Str):Prop where
 gp:Sg p
 gq:Sg q
 gf:Sg f
 p1:1≤p.length
 p3:p.length≤3
 q2:q.length≤2
 f2:f.length≤2
def tK (p q f:Str) (b1 b2 b3 b4:Bool):List V:=[.str p,.str q,.str f,.bl b1,.bl b2,.bl b3,.bl b4]
def zF (p q f:Str) (b1 b2 b3 b4:Bool):List (Str×V):=[("parts",.str p),("quotes",.str q),("frees",.str f),("twin",.bl b1),("wide",.bl b2),("thin",.bl b3),("stray",.bl b4)]
def away (t:Str) (c:Nat):Bool:=!(!(Builtin.Str.occurrences t (sg c) 0 t.length 1).isEmpty)
theorem BB (t:Str) (c:Nat):away t c=true↔c∉t.cps.toList:=by
 unfold away
 have e:(!(Builtin.Str.occurrences t (sg c) 0 t.length 1).isEmpty)=decide (c∈t.cps.toList):=StrLaws.found_one t c
 rw[e]
 simp
theorem Nh {z:Str}{c:Nat} (h:Sg z) (hc:Pn c) (ha:away z c=true):Sg (z++sg c):=by
 have e:(z++sg c).cps.toList=z.cps.toList++[c]:=by
  show(z.cps ++ #[c]).toList=_
  simp
 have hn:=(BB z c).mp ha
 refine⟨?_,?_⟩
 ·rw[e,List.nodup_append]
  refine⟨h.nd,by simp,fun a ha b hb=>?_⟩
  rw[List.mem_singleton.mp hb]
  intro q;exact hn (q ▸ ha)
 ·rw[e]
  intro d hd
  rcases List.mem_append.mp hd with z' | z'
  ·exact h.pr d z'
  ·rw[List.mem_singleton.mp z'];exact hc
theorem Ni:Sg ("":Str):=by
 have e:("":Str).cps.toList=[]:=by decide +kernel
 refine⟨?_,?_⟩
 ·rw[e];exact List.nodup_nil
 ·rw[e];intro c hc;cases hc
theorem gb (a b:Str):(a++b).length=a.length+b.length:=by
 show(a.cps++b.cps).size=_
 rw[Array.size_append];rfl
theorem aQ {K:W.Frag}{H H':Hp}{a:Addr}{xs:List V} (e:aG H H') (h:cB K H a xs):cB K H' a xs:=by
 rcases h with (h | ⟨o,h⟩) | h
 ·exact .inl (.inl (e _ _ h))
 ·exact .inl (.inr ⟨o,e _ _ h⟩)
 ·exact .inr h
theorem L5 {A B:Prop}{b:Bool} (hb:b=false) (h:A):if (!b)=true then A else B:=by rw[hb];exact nA h
theorem yR {A B:Prop}{b:Bool} (hb:b=true) (h:A):if b=true then A else B:=by rw[hb];exact nA h
theorem Ei {A B:Prop}{b:Bool} (hb:b=false) (h:B):if b=true then A else B:=by rw[hb];exact gK h
def p7 (c:Nat) (z:Str):Bool:=!(Builtin.Str.occurrences z (sg c) 0 z.length 1).isEmpty
def ck (a b:Str):Bool:=decide (V.str a=V.str b)
theorem vX {a b:Str} (h:ck a b=true):a=b:=by have:=of_decide_eq_true h;cases this;rfl
theorem ez (a:Str):ck a a=true:=decide_eq_true rfl
inductive Res where
 | go (k w u:Str)
 | AV (w:Str)
def xM (K:W.Frag) (H:Hp) (v:V):Res→Prop
 | .go k w u=>ck k ("fault":Str)=false∧∃ a b,v=.ref a∧cB K H a [.str k,.ref b]∧cB K H b [.str w,.str u]
 | .AV w=>∃ a,v=.ref a∧cB K H a [.str ("fault":Str),.str w]
theorem fX {K:W.Frag}{H:Hp}{Q:VK}{k w u:Str}{r:Res} (e:r=.go k w u) (hk:ck k ("fault":Str)=false) (h:∀ v H',aG H H'→xM K H' v r→Q v H') :
  [V.str w,V.str u].length≤sizeLine∧∀ b,H b=none→([V.str k,V.ref b].length≤sizeLine∧∀ a,(upd H b (.tup [.str w,.str u])) a=none→Q (.ref a) (upd (upd H b (.tup [.str w,.str u])) a (.tup [.str k,.ref b]))):=by
 refine⟨(by show 2≤sizeLine;decide),fun b hb=>⟨(by show 2≤sizeLine;decide),fun a ha=>?_⟩⟩
 have s1:=au (o:=HO.tup [.str w,.str u]) hb
 have s2:=au (o:=HO.tup [.str k,.ref b]) ha
 refine h _ _ (s1.trans s2) ?_
 rw[e]
 exact⟨hk,a,b,rfl,cB.of ah,aQ s2 (cB.of ah)⟩
theorem zG {K:W.Frag}{H H0:Hp}{Q:VK}{k w u:Str}{r:Res}{b:Addr} (e:r=.go k w u) (hk:ck k ("fault":Str)=false) (s0:aG H0 H) (hb:cB K H b [.str w,.str u]) (h:∀ v H',aG H0 H'→xM K H' v r→Q v H') :
  [V.str k,V.ref b].length≤sizeLine∧∀ a,H a=none→Q (.ref a) (upd H a (.tup [.str k,.ref b])):=by
 refine⟨(by show 2≤sizeLine;decide),fun a ha=>?_⟩
 have s2:=au (o:=HO.tup [.str k,.ref b]) ha
 refine h _ _ (s0.trans s2) ?_
 rw[e]
 exact⟨hk,a,b,rfl,cB.of ah,aQ s2 hb⟩
theorem vY {K:W.Frag}{H:Hp}{Q:VK}{w:Str}{r:Res} (e:r=.AV w) (h:∀ v H',aG H H'→xM K H' v r→Q v H') :
  [V.str ("fault":Str),V.str w].length≤sizeLine∧∀ a,H a=none→Q (.ref a) (upd H a (.tup [.str ("fault":Str),.str w])):=by
 refine⟨(by show 2≤sizeLine;decide),fun a ha=>?_⟩
 have s2:=au (o:=HO.tup [.str ("fault":Str),.str w]) ha
 refine h _ _ s2 ?_
 rw[e]
 exact⟨a,rfl,cB.of ah⟩
theorem kg:ck ("skip":Str) ("fault":Str)=false:=by decide +kernel
theorem CO:ck ("end":Str) ("fault":Str)=false:=by decide +kernel
theorem zH:ck ("part":Str) ("fault":Str)=false:=by decide +kernel
theorem jO:ck ("put":Str) ("fault":Str)=false:=by decide +kernel
def jP (p q f:Str) (b3:Bool) (w u:Str) (c:Nat):Res :=
 if p7 c f=true then .go ("skip":Str) ("freed":Str) ("":Str) else
 if ck (sg c) (Str.ofString "\n")=true then .go ("end":Str) ("row":Str) ("":Str) else
 if p7 c q=true then .go ("skip":Str) ("within":Str) (sg c) else
 if p7 c p=true then .go ("part":Str) ("cell":Str) ("":Str) else
 if ck (sg c) (" ":Str)=true then (if b3=true then .go ("skip":Str) w u else .go ("put":Str) ("plain":Str) ("":Str)) else
 .go ("put":Str) ("plain":Str) ("":Str)
def jQ (p q f:Str) (b4:Bool) (c:Nat):Res :=
 if p7 c f=true then .go ("skip":Str) ("freed":Str) ("":Str) else
 if ck (sg c) (Str.ofString "\n")=true then .go ("end":Str) ("row":Str) ("":Str) else
 if p7 c p=true then .go ("part":Str) ("cell":Str) ("":Str) else
 if p7 c q=true then (if (!b4)=true then .AV ("quote":Str) else .go ("put":Str) ("plain":Str) ("":Str)) else
 .go ("put":Str) ("plain":Str) ("":Str)
def gX (f:Str) (b1 b2:Bool) (u:Str) (c:Nat):Res :=
 if p7 c f=true then .go ("skip":Str) ("freed":Str) u else
 if ck (sg c) u=true then (if b1=true then .go ("skip":Str) ("doubt":Str) u else .go ("skip":Str) ("behind":Str) ("":Str)) else
 if ck (sg c) (Str.ofString "\n")=true then (if (!b2)=true then .AV ("line":Str) else .go ("put":Str) ("within":Str) u) else
 .go ("put":Str) ("within":Str) u
def fK (p:Str) (b3:Bool) (c:Nat):Res :=
 if ck (sg c) (Str.ofString "\n")=true then .go ("end":Str) ("row":Str) ("":Str) else
 if p7 c p=true then .go ("part":Str) ("cell":Str) ("":Str) else
 if ck (sg c) (" ":Str)=true then (if b3=true then .go ("skip":Str) ("behind":Str) ("":Str) else .AV ("behind":Str)) else
 .AV ("behind":Str)
def p8 (p:Str) (b3:Bool) (u:Str) (c:Nat):Res:=if ck (sg c) u=true then .go ("put":Str) ("within":Str) u else fK p b3 c
def jm (u:Str):Res:=if ck u ("":Str)=true then .go ("put":Str) ("plain":Str) ("":Str) else .go ("put":Str) ("within":Str) u
def jR (b2:Bool) (u:Str) (c:Nat):Res :=
 if ck (sg c) (Str.ofString "\n")=true then (if (!b2)=true then .AV ("line":Str) else jm u) else jm u
def tL (p q f:Str) (b3 b4:Bool) (w u:Str) (c:Nat):Res:=if ck w ("plain":Str)=true then jQ p q f b4 c else jP p q f b3 w u c
def fY (p q f:Str) (b1 b2 b3 b4:Bool) (w u:Str) (c:Nat):Res :=
 if ck w ("within":Str)=true then gX f b1 b2 u c else
 if ck w ("freed":Str)=true then jR b2 u c else
 if ck w ("doubt":Str)=true then p8 p b3 u c else
 if ck w ("behind":Str)=true then fK p b3 c else
 tL p q f b3 b4 w u c
theorem ns {a b:String} (h:ck (Str.ofString a) (Str.ofString b)=false):¬ck (Str.ofString a) (Str.ofString b)=true:=by rw[h];decide
theorem Iz {p q f:Str}{b1 b2 b3 b4:Bool}{w u:Str}{c:Nat} (h:ck w ("plain":Str)=true):fY p q f b1 b2 b3 b4 w u c=jQ p q f b4 c:=by
 cases vX h
 unfold fY tL
 rw[if_neg (ns (by decide +kernel)),if_neg (ns (by decide +kernel)),if_neg (ns (by decide +kernel)),if_neg (ns (by decide +kernel)),if_pos (ez _)]
theorem yS {p q f:Str}{b1 b2 b3 b4:Bool}{w u:Str}{c:Nat} (h:ck w ("within":Str)=true):fY p q f b1 b2 b3 b4 w u c=gX f b1 b2 u c:=by
 unfold fY
 rw[if_pos h]
theorem BC {p q f:Str}{b1 b2 b3 b4:Bool}{w u:Str}{c:Nat} (h:ck w ("doubt":Str)=true):fY p q f b1 b2 b3 b4 w u c=p8 p b3 u c:=by
 cases vX h
 unfold fY
 rw[if_neg (ns (by decide +kernel)),if_neg (ns (by decide +kernel)),if_pos (ez _)]
theorem yT {p q f:Str}{b1 b2 b3 b4:Bool}{w u:Str}{c:Nat} (h:ck w ("behind":Str)=true):fY p q f b1 b2 b3 b4 w u c=fK p b3 c:=by
 cases vX h
 unfold fY
 rw[if_neg (ns (by decide +kernel)),if_neg (ns (by decide +kernel)),if_neg (ns (by decide +kernel)),if_pos (ez _)]
theorem vZ {p q f:Str}{b1 b2 b3 b4:Bool}{w u:Str}{c:Nat} (h:ck w ("freed":Str)=true):fY p q f b1 b2 b3 b4 w u c=jR b2 u c:=by
 cases vX h
 unfold fY
 rw[if_neg (ns (by decide +kernel)),if_pos (ez _)]
theorem Ej {p q f:Str}{b1 b2 b3 b4:Bool}{w u:Str}{c:Nat} (h1:ck w ("within":Str)=false) (h2:ck w ("freed":Str)=false) (h3:ck w ("doubt":Str)=false) (h4:ck w ("behind":Str)=false):fY p q f b1 b2 b3 b4 w u c=tL p q f b3 b4 w u c:=by
 unfold fY
 rw[h1,h2,h3,h4]
 rfl
theorem qF {b:Bool} (h:¬b=true):b=false:=by cases b <;> simp_all
def Xk (d:Addr):List (Str×V):=[("dialect",.ref d)]
structure Tn (C CT:Addr) (H:Hp) (y:Addr) (p q f:Str) (b1 b2 b3 b4:Bool):Prop where
 ok:∃ dy d dd,H y=some (.ins CT dy (Xk d))∧H d=some (.ins C dd (zF p q f b1 b2 b3 b4))
theorem Tn.mono {C CT:Addr}{H H':Hp}{y:Addr}{p q f:Str}{b1 b2 b3 b4:Bool} (s:aG H H') (h:Tn C CT H y p q f b1 b2 b3 b4):Tn C CT H' y p q f b1 b2 b3 b4:=by
 obtain⟨dy,d,dd,e1,e2⟩:=h.ok
 exact⟨dy,d,dd,s _ _ e1,s _ _ e2⟩
theorem rW {H H':Hp}{y dy:Addr}{o:HO} (hy:H y=none) (Pp:H dy=none) (kp:∀ b o',upd (upd H dy (.own y)) y o b=some o'→b≠y→H' b=some o'):aG H H':=fun b o' e=>kp b o' (by rw[aB (aM e hy),aB (aM e Pp)];exact e) (aM e hy)
theorem nI {H:Hp}{y dy b:Addr}{o o':HO} (hy:H y=none) (Pp:H dy=none) (e:H b=some o'):upd (upd H dy (.own y)) y o b=some o':=by rw[aB (aM e hy),aB (aM e Pp)];exact e
def gM (K:W.Frag) (H:Hp) (x:V) (w:Str×Str):Prop:=∃ a,x=.ref a∧cB K H a [.str w.1,.str w.2]
theorem gM.mono {K:W.Frag}{H H':Hp}{x:V}{w:Str×Str} (e:aG H H') (h:gM K H x w):gM K H' x w:=let ⟨a,e1,e2⟩:=h;⟨a,e1,aQ e e2⟩
theorem gM.but {K:W.Frag}{H:Hp}{x:V}{w:Str×Str}{l:Addr}{ys:List V}{o:HO} (hl:H l=some (.lst ys)) (h:gM K H x w):gM K (upd H l o) x w:=by
 obtain⟨a,e1,e2⟩:=h
 refine⟨a,e1,?_⟩
 rcases e2 with (h | ⟨ob,h⟩) | h
 ·exact .inl (.inl ((aB (kT h hl (by intro z;cases z))).trans h))
 ·exact .inl (.inr ⟨ob,(aB (kT h hl (by intro z;cases z))).trans h⟩)
 ·exact .inr h
theorem cY {α β:Type}{F G:α→β→Prop} (h:∀ a b,F a b→G a b):∀{xs:List α}{ys:List β},Paired F xs ys→Paired G xs ys
 | _,_,.nil=>.nil
 | _,_,.cons q r=>.cons (h _ _ q) (cY h r)
theorem dW {α β:Type}{F:α→β→Prop}:∀{xs xs':List α}{ys ys':List β},Paired F xs ys→Paired F xs' ys'→Paired F (xs++xs') (ys++ys')
 | _,_,_,_,.nil,r=>r
 | _,_,_,_,.cons q t,r=>.cons q (dW t r)
theorem aU {α β:Type}{F:α→β→Prop}:∀{xs:List α}{ys:List β},Paired F xs ys→∀(j:Nat) x,xs[j]? = some x→∃ y,ys[j]? = some y∧F x y
 | _,_,.nil,j,x,h=>by simp at h
 | _,_,.cons q t,0,x,h=>by simp at h;subst h;exact⟨_,rfl,q⟩
 | _,_,.cons q t,j+1,x,h=>by
  obtain⟨y,h1,h2⟩:=aU t j x (by simpa using h)
  exact⟨y,by simpa using h1,h2⟩
def c5:List (Str×Str):=[(Str.ofString "row",Str.ofString ""),(Str.ofString "cell",Str.ofString ""),(Str.ofString "plain",Str.ofString ""),(Str.ofString "behind",Str.ofString ""),(Str.ofString "freed",Str.ofString "")]
def c3 (c:Nat):List (Str×Str):=[(Str.ofString "within",sg c),(Str.ofString "doubt",sg c),(Str.ofString "freed",sg c)]
def cont (l:List Nat):List (Str×Str):=c5++l.flatMap c3
def nin (u f:Str):Bool:=!(!(Builtin.Str.occurrences f u 0 f.length 1).isEmpty)
def yU (f w u:Str):Bool:=if ck u ("":Str)=true then true else if ck w ("doubt":Str)=true then true else nin u f
theorem Ek (c:Nat) (z:Str):p7 c z=decide (c∈z.cps.toList):=StrLaws.found_one z c
theorem Nj {c:Nat}{z:Str} (h:c∉z.cps.toList):¬p7 c z=true:=by rw[Ek];simpa using h
theorem l10 {z:Str} (g:Sg z):¬p7 10 z=true:=Nj fun h=>by have:=(g.pr 10 h).1;omega
theorem Q8:∀ c:Nat,¬ck (sg c) ("":Str)=true:=fun c e=>by
 have:=congrArg Str.length (vX e)
 have e0:("":Str).length=0:=by decide +kernel
 rw[e0] at this
 exact absurd this (by show ¬(1=0);decide)
def xN (q w u:Str):Prop:=(u=Str.ofString ""∧(w=Str.ofString "row"∨w=Str.ofString "cell"∨w=Str.ofString "plain"∨w=Str.ofString "behind"∨w=Str.ofString "freed"))∨∃ c,c∈q.cps.toList∧u=sg c∧(w=Str.ofString "within"∨w=Str.ofString "doubt"∨w=Str.ofString "freed")
theorem rX {p q f:Str}{b1 b2 b3 b4:Bool}{u:Str}{c:Nat} (a:String) (h1:ck (Str.ofString a) ("within":Str)=false) (h2:ck (Str.ofString a) ("freed":Str)=false) (h3:ck (Str.ofString a) ("doubt":Str)=false) (h4:ck (Str.ofString a) ("behind":Str)=false):fY p q f b1 b2 b3 b4 (Str.ofString a) u c=tL p q f b3 b4 (Str.ofString a) u c:=Ej h1 h2 h3 h4
theorem lU {K:W.Frag}{H:Hp}{a l:Addr}{xs ys:List V}{o:HO} (hl:H l=some (.lst ys)) (e2:cB K H a xs):cB K (upd H l o) a xs:=by
 rcases e2 with (h | ⟨ob,h⟩) | h
 ·exact .inl (.inl ((aB (kT h hl (by intro z;cases z))).trans h))
 ·exact .inl (.inr ⟨ob,(aB (kT h hl (by intro z;cases z))).trans h⟩)
 ·exact .inr h
theorem bf {α:Type}{l:List α}{i:Nat}{c:α} (h:l[i]? = some c):l.take (i+1)=l.take i++[c]:=by
 rw[List.take_succ,h];rfl
def zI (z:Str):Prop:=∀ k∈z.cps.toList,k=10∨Pn k
theorem sgL {c:Nat}{z:Str} (e:z=Str.ofString "\n") (h:¬decide (V.str (sg c)=V.str z)=true):c≠10:=fun e2=>h (by
 have:Str.ofString "\n" = sg 10:=by decide +kernel
 rw[e,e2,this];exact decide_eq_true rfl)
theorem Ff {t u:TS}{D:Ends}{σ:St}{H:Hp} (N:St→Hp→Prop) (hu:∀ σ' H',N σ' H'→u D σ' H') (ht:(∀ σ' H',N σ' H'→u D σ' H')→t { D with nx:=u D } σ H):P1 t u D σ H:=ht hu
theorem Q9 {q:Str}{c:Nat} (h:p7 c q=true):c∈q.cps.toList:=by rw[Ek] at h;exact of_decide_eq_true h
theorem Kq {p q f:Str}{b1 b2 b3 b4:Bool}{w u k w' u':Str}{c:Nat} (h:xN q w u) (hs:fY p q f b1 b2 b3 b4 w u c=.go k w' u'):xN q w' u':=by
 have IA:∀{w u:Str},xN q w u→tL p q f b3 b4 w u c=.go k w' u'→xN q w' u':=by
  intro w u h hs
  unfold tL jQ jP at hs
  repeat' split at hs
  all_goals first
   | (cases hs;exact .inl ⟨rfl,.inl rfl⟩)
   | (cases hs;exact .inl ⟨rfl,.inr (.inl rfl)⟩)
   | (cases hs;exact .inl ⟨rfl,.inr (.inr (.inl rfl))⟩)
   | (cases hs;exact .inl ⟨rfl,.inr (.inr (.inr (.inr rfl)))⟩)
   | (cases hs;rename_i hq _ _;exact .inr ⟨c,Q9 (by assumption),rfl,.inl rfl⟩)
   | (cases hs;exact .inr ⟨c,Q9 (by assumption),rfl,.inl rfl⟩)
   | (cases hs;exact h)
   | cases hs
 have Ra:fK p b3 c=.go k w' u'→xN q w' u':=by
  intro hs
  unfold fK at hs
  repeat' split at hs
  all_goals first
   | (cases hs;exact .inl ⟨rfl,.inl rfl⟩)
   | (cases hs;exact .inl ⟨rfl,.inr (.inl rfl)⟩)
   | (cases hs;exact .inl ⟨rfl,.inr (.inr (.inr (.inl rfl)))⟩)
   | cases hs
 rcases h with ⟨rfl,rfl | rfl | rfl | rfl | rfl⟩ | ⟨d,hd,rfl,rfl | rfl | rfl⟩
 ·rw[rX "row" (by decide +kernel) (by decide +kernel) (by decide +kernel) (by decide +kernel)] at hs
  exact IA (.inl ⟨rfl,.inl rfl⟩) hs
 ·rw[rX "cell" (by decide +kernel) (by decide +kernel) (by decide +kernel) (by decide +kernel)] at hs
  exact IA (.inl ⟨rfl,.inr (.inl rfl)⟩) hs
 ·rw[rX "plain" (by decide +kernel) (by decide +kernel) (by decide +kernel) (by decide +kernel)] at hs
  exact IA (.inl ⟨rfl,.inr (.inr (.inl rfl))⟩) hs
 ·rw[yT (ez _)] at hs
  exact Ra hs
 ·rw[vZ (ez _)] at hs
  unfold jR jm at hs
  rw[if_pos (ez _)] at hs
  repeat' split at hs
  all_goals first
   | (cases hs;exact .inl ⟨rfl,.inr (.inr (.inl rfl))⟩)
   | cases hs
 ·rw[yS (ez _)] at hs
  unfold gX at hs
  repeat' split at hs
  all_goals first
   | (cases hs;exact .inr ⟨d,hd,rfl,.inr (.inr rfl)⟩)
   | (cases hs;exact .inr ⟨d,hd,rfl,.inr (.inl rfl)⟩)
   | (cases hs;exact .inr ⟨d,hd,rfl,.inl rfl⟩)
   | (cases hs;exact .inl ⟨rfl,.inr (.inr (.inr (.inl rfl)))⟩)
   | cases hs
 ·rw[BC (ez _)] at hs
  unfold p8 at hs
  split at hs
  ·cases hs;exact .inr ⟨d,hd,rfl,.inl rfl⟩
  ·exact Ra hs
 ·rw[vZ (ez _)] at hs
  unfold jR jm at hs
  rw[if_neg (Q8 d)] at hs
  repeat' split at hs
  all_goals first
   | (cases hs;exact .inr ⟨d,hd,rfl,.inl rfl⟩)
   | cases hs
theorem CP {a b:String} (h:ck (Str.ofString a) (Str.ofString b)=false):Str.ofString a≠Str.ofString b:=fun e=>by rw[e,ez] at h;cases h
def lens (r:List Str):List Nat:=r.map fun z=>z.length
def total (t:List (List Str)):Nat:=(t.map fun r=>(lens r).sum).sum
structure El (r:List Str):Prop where
 lo:1≤r.length
 hi:r.length≤20
 ok:∀ c∈r,zI c
structure TabOk (t:List (List Str)):Prop where
 n:t.length≤60
 rows:∀ r∈t,El r
 sum:total t≤400
theorem Em {ns:List Nat}{n:Nat} (h:n∈ns):n≤ns.sum:=by
 induction ns with
 | nil=>cases h
 | cons m ns ih =>
  rw[List.sum_cons]
  rcases List.mem_cons.mp h with rfl | h
  ·omega
  ·have:=ih h;omega
theorem En {t:List (List Str)}{r:List Str} (h:r∈t):(lens r).sum≤total t:=Em (List.mem_map_of_mem h)
theorem BD {r:List Str}{c:Str} (h:c∈r):c.length≤(lens r).sum:=Em (List.mem_map_of_mem (f:=fun z:Str=>z.length) h)
def p9 (H:Hp) (v:V) (r:List Str):Prop:=∃ a,v=.ref a∧H a=some (.lst (r.map V.str))
theorem p9.mono {H H':Hp}{v:V}{r:List Str} (s:aG H H') (h:p9 H v r):p9 H' v r:=let ⟨a,e1,e2⟩:=h;⟨a,e1,s _ _ e2⟩
def Fg (z:Str):List (Str×Str):=z.cps.toList.map fun k=>(Str.ofString "put",sg k)
def Eo:Str×Str:=(Str.ofString "part",Str.ofString "")
def Rb:Str×Str:=(Str.ofString "end",Str.ofString "")
def rY:List Str→Nat→List (Str×Str)
 | _,0=>[]
 | r,n+1=>rY r n++((if n=0 then [] else [Eo])++Fg (r.getD n ("":Str)))
def rZ (r:List Str):List (Str×Str):=rY r r.length++[Rb]
def cF (t:List (List Str)):List (Str×Str):=t.flatMap rZ
theorem yV {r:List Str}{n:Nat}{z:Str} (h:r[n]? = some z):rY r (n+1)=rY r n++((if n=0 then [] else [Eo])++Fg z):=by
 show rY r n++((if n=0 then [] else [Eo])++Fg (r.getD n ("":Str)))=_
 rw[List.getD_eq_getElem?_getD,h];rfl
theorem IB (z:Str):(Fg z).length=z.length:=by unfold Fg;rw[List.length_map,Array.length_toList];rfl
theorem v9 (r:List Str):∀ n,n≤r.length→(rY r n).length+(if n=0 then 0 else 1)=n+(lens (r.take n)).sum
 | 0,_=>by simp[rY,lens]
 | n+1,h=>by
  have hn:n < r.length:=by omega
  rw[yV (z:=r[n]) (by simp[hn]),List.length_append,List.length_append,IB,bf (c:=r[n]) (by simp[hn])]
  have ih:=v9 r n (by omega)
  unfold lens at ih ⊢
  rw[List.map_append,List.sum_append]
  simp only[List.map_cons,List.map_nil,List.sum_cons,List.sum_nil]
  by_cases h0:n=0
  ·subst h0;simp[rY];omega
  ·simp[h0] at ih ⊢;omega
theorem CQ {r:List Str} (h:1≤r.length):(rZ r).length=r.length+(lens r).sum:=by
 unfold rZ
 have:=v9 r r.length (Nat.le_refl _)
 rw[List.take_of_length_le (Nat.le_refl _),if_neg (by omega)] at this
 rw[List.length_append];show _+1=_;omega
theorem CS {t:List (List Str)} (h:∀ r∈t,El r):(cF t).length=(t.map fun r=>r.length+(lens r).sum).sum:=by
 unfold cF
 induction t with
 | nil=>rfl
 | cons r t ih =>
  rw[List.flatMap_cons,List.length_append,ih (fun r' h'=>h r' (List.mem_cons_of_mem _ h')),CQ (h r (List.mem_cons_self ..)).lo,List.map_cons,List.sum_cons]
theorem Fi {t:List (List Str)} (h:∀ r∈t,El r):(t.map fun r=>r.length+(lens r).sum).sum≤20 * t.length+total t:=by
 unfold total
 induction t with
 | nil=>exact Nat.le_refl _
 | cons r t ih =>
  have h1:=(h r (List.mem_cons_self ..)).hi
  have h2:=ih fun r' h'=>h r' (List.mem_cons_of_mem _ h')
  rw[List.map_cons,List.sum_cons,List.map_cons,List.sum_cons,List.length_cons]
  omega
theorem wc {t:List (List Str)} (h:TabOk t) (i:Nat):(cF (t.take i)).length≤1600:=by
 have hr:∀ r∈t.take i,El r:=fun r hr=>h.rows r (List.mem_of_mem_take hr)
 rw[CS hr]
 have h1:=Fi hr
 have h2:(t.take i).length≤60:=by rw[List.length_take];have:=h.n;omega
 have h3:total (t.take i)≤total t:=by
  unfold total
  have e:=congrArg (fun l=>(l.map fun r=>(lens r).sum).sum) (List.take_append_drop i t)
  simp only[List.map_append,List.sum_append] at e
  omega
 have:=h.sum
 omega
theorem nJ (t:List (List Str)) (r:List Str):cF (t++[r])=cF t++rZ r:=by unfold cF;rw[List.flatMap_append];simp
theorem fu {α β:Type}{F:α→β→Prop}{xs:List α}{ys:List β}{x:α}{y:β} (h:Paired F xs ys) (q:F x y):Paired F (xs++[x]) (ys++[y]):=dW h (.cons q .nil)
def tM (acc:List Nat) (c:Nat):List Nat:=if away ⟨acc.toArray⟩ c=true then acc++[c] else acc
def lC (l:List Nat):List Nat:=l.foldl tM []
theorem wg (l:List Nat) (c:Nat):lC (l++[c])=tM (lC l) c:=by unfold lC;rw[List.foldl_append];rfl
theorem yW (l:List Nat):(lC l).length≤l.length:=by
 have key:∀(l acc:List Nat),(l.foldl tM acc).length≤acc.length+l.length:=by
  intro l
  induction l with
  | nil=>intro acc;exact Nat.le_refl _
  | cons c l ih =>
   intro acc
   rw[List.foldl_cons,List.length_cons]
   have h1:=ih (tM acc c)
   have h2:(tM acc c).length≤acc.length+1:=by
    unfold tM
    split
    ·rw[List.length_append];exact Nat.le_refl _
    ·omega
   omega
 have:=key l []
 simpa [lC] using this
def lD (z:Str):Str:=⟨(lC z.cps.toList).toArray⟩
theorem sd (z:Str):(lD z).length≤z.length:=by
 show(lC z.cps.toList).toArray.size≤_
 rw[List.size_toArray]
 refine Nat.le_trans (yW _) ?_
 rw[Array.length_toList];exact Nat.le_refl _
def nK (p q f:Str) (b1 b2 b3 b4:Bool) (w u:Str) (c:Nat):Option (Str×Str×Str):=match fY p q f b1 b2 b3 b4 w u c with
 | .go k w' u'=>if yU f w' u'=true then some (k,w',u') else none
 | .AV _=>none
def Xl (K:W.Frag) (x:Option (Str×Str×Str)) (H:Hp) (v:V):Prop:=match x with
 | none=>v=.non
 | some (k,w,u)=>∃ a b,v=.ref a∧cB K H a [.str k,.ref b]∧cB K H b [.str w,.str u]
def CU (ts:List (Str×Str)) (n:Nat) (k s:Str):Option Nat:=if ck k ("skip":Str)=true then some n else if ts[n]? = some (k,if ck k ("put":Str)=true then s else Str.ofString "") then some (n+1) else none
def Xm (x:Option Nat):V:=match x with
 | none=>.non
 | some n=>.int n
abbrev bg:=(Str×Str)×Nat
def dj (K:W.Frag) (H:Hp) (m:bg) (v:V):Prop:=∃ b s,v=.ref b∧cB K H b [.ref s,.int m.2]∧cB K H s [.str m.1.1,.str m.1.2]
theorem dj.mono {K:W.Frag}{H H':Hp}{m:bg}{v:V} (e:aG H H') (h:dj K H m v):dj K H' m v:=by
 obtain⟨b,s,e1,e2,e3⟩:=h
 exact⟨b,s,e1,aQ e e2,aQ e e3⟩
def wj (p q f:Str) (b1 b2 b3 b4:Bool) (ts:List (Str×Str)) (m:bg) (c:Nat):Option bg:=match nK p q f b1 b2 b3 b4 m.1.1 m.1.2 c with
 | none=>none
 | some (k,w,u)=>(match CU ts m.2 k (sg c) with
  | none=>none
  | some n=>some ((w,u),n))
def qc (K:W.Frag) (x:Option bg) (H:Hp) (v:V):Prop:=match x with
 | none=>v=.non
 | some m=>dj K H m v
def mfl (y l:Addr):List (Str×V):=[("turn",.ref y),("tokens",.ref l)]
structure Fj (K:W.Frag) (C CT CM:Addr) (H:Hp) (m:Addr) (p q f:Str) (b1 b2 b3 b4:Bool) (ts:List (Str×Str)):Prop where
 ok:∃ dm y l ys,H m=some (.ins CM dm (mfl y l))∧Tn C CT H y p q f b1 b2 b3 b4∧H l=some (.lst ys)∧Paired (gM K H) ys ts
theorem gG {K:W.Frag}{H H':Hp} (s:aG H H'):∀{ys:List V}{ts:List (Str×Str)},Paired (gM K H) ys ts→Paired (gM K H') ys ts
 | _,_,.nil=>.nil
 | _,_,.cons a r=>.cons (a.mono s) (gG s r)
theorem Fj.mono {K:W.Frag}{C CT CM:Addr}{H H':Hp}{m:Addr}{p q f:Str}{b1 b2 b3 b4:Bool}{ts:List (Str×Str)} (s:aG H H') (h:Fj K C CT CM H m p q f b1 b2 b3 b4 ts):Fj K C CT CM H' m p q f b1 b2 b3 b4 ts:=by
 obtain⟨dm,y,l,ys,e1,e2,e3,e4⟩:=h.ok
 exact⟨dm,y,l,ys,s _ _ e1,e2.mono s,s _ _ e3,gG s e4⟩
theorem Kr {K:W.Frag}{H:Hp}{m a C dm:Addr}{fs:List (Str×V)}{xs:List V}{o:HO} (hm:H m=some (.ins C dm fs)) (h:cB K H a xs):cB K (upd H m o) a xs:=by
 rcases h with (h | ⟨ob,h⟩) | h
 ·exact .inl (.inl ((aB (kT h hm (by intro z;cases z))).trans h))
 ·exact .inl (.inr ⟨ob,(aB (kT h hm (by intro z;cases z))).trans h⟩)
 ·exact .inr h
theorem jS {K:W.Frag}{H:Hp}{m C dm:Addr}{fs:List (Str×V)}{o:HO} (hm:H m=some (.ins C dm fs)):∀{ys:List V}{ts:List (Str×Str)},Paired (gM K H) ys ts→Paired (gM K (upd H m o)) ys ts
 | _,_,.nil=>.nil
 | _,_,.cons ⟨a,e1,e2⟩ r=>.cons ⟨a,e1,Kr hm e2⟩ (jS hm r)
theorem Tn.off {C CT:Addr}{H:Hp}{y m:Addr}{p q f:Str}{b1 b2 b3 b4:Bool}{o o':HO} (hm:H m=some o') (n1:∀ d fs,o'≠.ins CT d (Xk fs)) (n2:∀ d,o'≠.ins C d (zF p q f b1 b2 b3 b4)) (h:Tn C CT H y p q f b1 b2 b3 b4):Tn C CT (upd H m o) y p q f b1 b2 b3 b4:=by
 obtain⟨dy,d,dd,e1,e2⟩:=h.ok
 exact⟨dy,d,dd,(aB (fun q=>by rw[q,hm] at e1;exact n1 _ _ (Option.some.inj e1))).trans e1,(aB (fun q=>by rw[q,hm] at e2;exact n2 _ (Option.some.inj e2))).trans e2⟩
theorem Fj.off {K:W.Frag}{C CT CM CW:Addr}{H:Hp}{m z dz:Addr}{fs:List (Str×V)}{p q f:Str}{b1 b2 b3 b4:Bool}{ts:List (Str×Str)}{o:HO} (hz:H z=some (.ins CW dz fs)) (n0:∀ y l,fs≠mfl y l) (n1:∀ d,fs≠Xk d) (n2:fs≠zF p q f b1 b2 b3 b4) (h:Fj K C CT CM H m p q f b1 b2 b3 b4 ts):Fj K C CT CM (upd H z o) m p q f b1 b2 b3 b4 ts:=by
 obtain⟨dm,y,l,ys,e1,e2,e3,e4⟩:=h.ok
 refine⟨dm,y,l,ys,(aB (fun q=>?_)).trans e1,Tn.off hz (fun d fs q=>?_) (fun d q=>?_) e2,(aB (fun q=>by rw[q,hz] at e3;cases e3)).trans e3,jS hz e4⟩
 ·rw[q,hz] at e1;injection e1 with e1;injection e1 with a b c;exact n0 _ _ c
 ·injection q with a b c;exact n1 _ c
 ·injection q with a b c;exact n2 c
theorem yX {H:Hp}{x dx:Addr}{o:HO} (hx:H x=none) (hdx:H dx=none):aG H (upd (upd H dx (.own x)) x o):=fun b o' e=>by
 rw[aB (aM e hx),aB (aM e hdx)];exact e
def wfl (m l:Addr) (z:Str):List (Str×V):=[("marker",.ref m),("tokens",.ref l),("usual",.str z)]
def JB (p q f:Str):Str:=lD ((p++q)++f)++Str.ofString "\n" ++ Str.ofString " "
structure Nk (K:W.Frag) (C CT CM CW:Addr) (H:Hp) (x:Addr) (p q f:Str) (b1 b2 b3 b4:Bool) (ts:List (Str×Str)):Prop where
 ok:∃ dx m l ys,H x=some (.ins CW dx (wfl m l (JB p q f)))∧Fj K C CT CM H m p q f b1 b2 b3 b4 ts∧H l=some (.lst ys)∧Paired (gM K H) ys ts
theorem Nk.mono {K:W.Frag}{C CT CM CW:Addr}{H H':Hp}{x:Addr}{p q f:Str}{b1 b2 b3 b4:Bool}{ts:List (Str×Str)} (s:aG H H') (h:Nk K C CT CM CW H x p q f b1 b2 b3 b4 ts):Nk K C CT CM CW H' x p q f b1 b2 b3 b4 ts:=by
 obtain⟨dx,m,l,ys,e1,e2,e3,e4⟩:=h.ok
 exact⟨dx,m,l,ys,s _ _ e1,e2.mono s,s _ _ e3,gG s e4⟩
def gv (p q f:Str) (b1 b2 b3 b4:Bool) (ts:List (Str×Str)) (m:bg):List (Nat×bg):=match ts[m.2]? with
 | none=>[]
 | some t=>(lD (JB p q f++t.2)).cps.toList.filterMap fun c=>(wj p q f b1 b2 b3 b4 ts m c).map fun m'=>(c,m')
theorem dj.but {K:W.Frag}{H:Hp}{m:bg}{v:V}{l:Addr}{ws:List V}{o:HO} (hl:H l=some (.lst ws)) (h:dj K H m v):dj K (upd H l o) m v:=by
 obtain⟨b,s,e1,e2,e3⟩:=h
 exact⟨b,s,e1,lU hl e2,lU hl e3⟩
theorem qc.mono {K:W.Frag}{x:Option bg}{H H':Hp}{v:V} (s:aG H H') (h:qc K x H v):qc K x H' v:=by
 cases x with
 | none=>exact h
 | some m=>exact dj.mono s h
theorem qc.but {K:W.Frag}{x:Option bg}{H:Hp}{v:V}{l:Addr}{ws:List V}{o:HO} (hl:H l=some (.lst ws)) (h:qc K x H v):qc K x (upd H l o) v:=by
 cases x with
 | none=>exact h
 | some m=>exact dj.but hl h
abbrev ua (K:W.Frag) (F:Nat→Option bg) (H:Hp):List V→List Nat→Prop:=Paired fun v c=>∃ t w,v=.ref t∧H t=some (.tup [.str (sg c),w])∧qc K (F c) H w
theorem ua.mono {K:W.Frag}{F:Nat→Option bg}{H H':Hp} (s:aG H H'):∀{vs:List V}{cs:List Nat},ua K F H vs cs→ua K F H' vs cs
 | _,_,.nil=>.nil
 | _,_,.cons ⟨t,w,e,h,q⟩ r=>.cons ⟨t,w,e,s _ _ h,qc.mono s q⟩ (ua.mono s r)
theorem ua.but {K:W.Frag}{F:Nat→Option bg}{H:Hp}{l:Addr}{ws:List V}{o:HO} (hl:H l=some (.lst ws)):∀{vs:List V}{cs:List Nat},ua K F H vs cs→ua K F (upd H l o) vs cs
 | _,_,.nil=>.nil
 | _,_,.cons ⟨t,w,e,h,q⟩ r=>.cons ⟨t,w,e,(aB (kT h hl (by intro z;cases z))).trans h,qc.but hl q⟩ (ua.but hl r)
abbrev nL (K:W.Frag) (H:Hp):List V→List (Nat×bg)→Prop:=Paired fun v e=>∃ t w,v=.ref t∧H t=some (.tup [.str (sg e.1),w])∧dj K H e.2 w
theorem nL.mono {K:W.Frag}{H H':Hp} (s:aG H H'):∀{vs:List V}{es:List (Nat×bg)},nL K H vs es→nL K H' vs es
 | _,_,.nil=>.nil
 | _,_,.cons ⟨t,w,e,h,q⟩ r=>.cons ⟨t,w,e,s _ _ h,q.mono s⟩ (nL.mono s r)
theorem nL.but {K:W.Frag}{H:Hp}{l:Addr}{ws:List V}{o:HO} (hl:H l=some (.lst ws)):∀{vs:List V}{es:List (Nat×bg)},nL K H vs es→nL K (upd H l o) vs es
 | _,_,.nil=>.nil
 | _,_,.cons ⟨t,w,e,h,q⟩ r=>.cons ⟨t,w,e,(aB (kT h hl (by intro z;cases z))).trans h,q.but hl⟩ (nL.but hl r)
abbrev Cm:=List (bg×Option (bg×Nat))
def cZ (cm:Cm) (m:bg):Bool:=cm.any fun e=>decide (e.1=m)
def gO (p:bg) (acc:Cm×List bg) (e:Nat×bg):Cm×List bg:=if cZ acc.1 e.2=true then acc else (acc.1++[(e.2,some (p,e.1))],acc.2++[e.2])
def kL (led:bg→List (Nat×bg)) (acc:Cm×List bg) (p:bg):Cm×List bg:=(led p).foldl (gO p) acc
def expand (led:bg→List (Nat×bg)) (cm:Cm) (bF:List bg):Cm×List bg:=bF.foldl (kL led) (cm,[])
inductive zJ (good:bg→Bool) (led:bg→List (Nat×bg)):Cm→List bg→Option bg→Cm→Prop where
 | stop {cm:Cm}:zJ good led cm [] none cm
 | found {cm:Cm}{bF:List bg}{m:bg}:bF.find? good=some m→zJ good led cm bF (some m) cm
 | go {cm Ci:Cm}{bF:List bg}{r:Option bg}:bF≠[]→bF.find? good=none→zJ good led (expand led cm bF).1 (expand led cm bF).2 r Ci→zJ good led cm bF r Ci
def qG (K:W.Frag) (x:Option (bg×Nat)) (H:Hp) (v:V):Prop:=match x with
 | none=>v=.non
 | some (m,c)=>∃ t w,v=.ref t∧cB K H t [w,.str (sg c)]∧dj K H m w
abbrev zK (K:W.Frag) (H:Hp):List (N3 (Lf ⊕ List Lf))→Cm→Prop:=Paired fun e p=>e.1=cD p.1∧dj K H p.1 (.ref e.2.1)∧qG K p.2 H e.2.2
structure dX (P:Program) (w:World) (K:W.Frag) (H:Hp) (a:Addr) (cm:Cm):Prop where
 ok:∃ kvs,Nd (YM P w K) (bK P w) H a kvs∧zK K H kvs cm
theorem dj.keep {K:W.Frag}{H H':Hp}{m:bg}{v:V} (t:∀ b xs,cB K H b xs→cB K H' b xs) (h:dj K H m v):dj K H' m v:=by
 obtain⟨b,s,e1,e2,e3⟩:=h
 exact⟨b,s,e1,t _ _ e2,t _ _ e3⟩
theorem qG.keep {K:W.Frag}{H H':Hp}{x:Option (bg×Nat)}{v:V} (t:∀ b xs,cB K H b xs→cB K H' b xs) (h:qG K x H v):qG K x H' v:=by
 cases x with
 | none=>exact h
 | some mc=>obtain⟨t1,w1,e1,e2,e3⟩:=h;exact⟨t1,w1,e1,t _ _ e2,e3.keep t⟩
theorem zK.keep {K:W.Frag}{H H':Hp} (t:∀ b xs,cB K H b xs→cB K H' b xs):∀{kvs:List (N3 (Lf ⊕ List Lf))}{cm:Cm},zK K H kvs cm→zK K H' kvs cm
 | _,_,.nil=>.nil
 | _,_,.cons a r=>.cons ⟨a.1,a.2.1.keep t,a.2.2.keep t⟩ (zK.keep t r)
theorem dX.mono {P:Program}{w:World}{K:W.Frag}{H H':Hp}{a:Addr}{cm:Cm} (s:aG H H') (h:dX P w K H a cm):dX P w K H' a cm:=by
 obtain⟨kvs,d,r⟩:=h.ok
 exact⟨kvs,d.mono s,r.keep fun b xs q=>aQ s q⟩
theorem dX.but {P:Program}{w:World}{K:W.Frag}{H:Hp}{a l:Addr}{cm:Cm}{ws:List V}{o:HO} (hl:H l=some (.lst ws)) (h:dX P w K H a cm):dX P w K (upd H l o) a cm:=by
 obtain⟨kvs,d,r⟩:=h.ok
 have t:∀ b xs,cB K H b xs→cB K (upd H l o) b xs:=fun b xs q=>lU hl q
 exact⟨kvs,⟨(aB (kT d.ob hl (fun q=>nomatch q))).trans d.ob,fun e he=>(d.keys e he).keep t⟩,r.keep t⟩
theorem wk {K:W.Frag}{H:Hp}{m:bg}:∀{kvs:List (N3 (Lf ⊕ List Lf))}{cm:Cm},zK K H kvs cm→(valN kvs (cD m)).isSome=cZ cm m
 | _,_,.nil=>rfl
 | e :: kvs,p :: cm,.cons a r=>by
  have ih:=wk (m:=m) r
  unfold valN cZ at ih ⊢
  rw[List.find?_cons,List.any_cons,a.1]
  by_cases q:p.1=m
  ·rw[decide_eq_true q,decide_eq_true (by rw[q])];rfl
  ·rw[decide_eq_false q,decide_eq_false (fun z=>q (rR.mp z)),Bool.false_or];exact ih
theorem IC {K:W.Frag}{H:Hp}{kvs:List (N3 (Lf ⊕ List Lf))}{cm:Cm} (h:zK K H kvs cm):kvs.length=cm.length:=Paired.length h
theorem ID {cm:Cm}{m:bg}:cZ cm m=true↔m∈cm.map (·.1):=by
 unfold cZ
 rw[List.any_eq_true,List.mem_map]
 constructor
 ·rintro⟨e,he,q⟩;exact⟨e,he,of_decide_eq_true q⟩
 ·rintro⟨e,he,q⟩;exact⟨e,he,decide_eq_true q⟩
structure L6 (U:List bg) (cm:Cm):Prop where
 nd:(cm.map (·.1)).Nodup
 sub:∀ m∈cm.map (·.1),m∈U
theorem L6.len {U:List bg}{cm:Cm} (h:L6 U cm):cm.length≤U.length:=by
 have:=List.Nodup.length_le_of_subset h.nd (fun m hm=>h.sub m hm)
 rw[List.length_map] at this
 exact this
theorem Ks {U:List bg}{p:bg}{acc:Cm×List bg}{e:Nat×bg} (h:L6 U acc.1) (he:e.2∈U):L6 U (gO p acc e).1:=by
 unfold gO
 by_cases q:cZ acc.1 e.2=true
 ·rw[if_pos q];exact h
 ·rw[if_neg q]
  refine⟨?_,fun m hm=>?_⟩
  ·rw[List.map_append,List.nodup_append]
   refine⟨h.nd,by simp,fun a ha b hb z=>q (ID.mpr ?_)⟩
   rw[List.mem_singleton.mp hb] at z
   have z:a=e.2:=z
   rw[z] at ha;exact ha
  ·rw[List.map_append] at hm
   rcases List.mem_append.mp hm with hm | hm
   ·exact h.sub m hm
   ·rw[List.mem_singleton.mp hm];exact he
theorem IE (p:bg) (acc:Cm×List bg) (e:Nat×bg):(gO p acc e).1.length+acc.2.length=acc.1.length+(gO p acc e).2.length:=by
 unfold gO
 split
 ·rfl
 ·rw[List.length_append,List.length_append];show acc.1.length+1+_=_+(_+1);omega
theorem Nd.one {P:Program}{w:World}{K:W.Frag}{H:Hp}{a b:Addr}{k:List (Lf ⊕ List Lf)}{v:V} (h:H a=some (dN (ZM P w) (bK P w) a [])) (e:rQ (YM P w K) H k b):Nd (YM P w K) (bK P w) (upd H a (dN (ZM P w) (bK P w) a [(k,b,v)])) a [(k,b,v)]:=by
 refine⟨ah,fun p hp=>?_⟩
 rw[List.mem_singleton.mp hp]
 exact e.keep (vO h)
theorem dX.one {P:Program}{w:World}{K:W.Frag}{H:Hp}{a b:Addr}{m:bg} (h:H a=some (dN (ZM P w) (bK P w) a [])) (hm:dj K H m (.ref b)):dX P w K (upd H a (dN (ZM P w) (bK P w) a [(cD m,b,.non)])) a [(m,none)]:=by
 obtain⟨b',s,e1,e2,e3⟩:=hm
 cases e1
 have t:=vO (F:=K) h (o:=dN (ZM P w) (bK P w) a [(cD m,b,.non)])
 exact⟨_,Nd.one h (j9 e2 e3),.cons ⟨rfl,⟨b,s,rfl,t _ _ e2,t _ _ e3⟩,rfl⟩ .nil⟩
theorem dX.put {P:Program}{w:World}{K:W.Frag}{H:Hp}{a b:Addr}{m:bg}{cm:Cm}{kvs:List (N3 (Lf ⊕ List Lf))}{x:Option (bg×Nat)}{v:V} (d:Nd (YM P w K) (bK P w) H a kvs) (r:zK K H kvs cm) (hm:dj K H m (.ref b)) (hn:cZ cm m=false) (hv:qG K x H v) :
  dX P w K (upd H a (dN (ZM P w) (bK P w) a (putN kvs (cD m) b v))) a (cm++[(m,x)]):=by
 obtain⟨b',s,e1,e2,e3⟩:=id hm
 cases e1
 have t:=vO (F:=K) d.ob (o:=dN (ZM P w) (bK P w) a (putN kvs (cD m) b v))
 refine⟨_,d.put (j9 e2 e3),?_⟩
 have q:=wk (m:=m) r
 rw[hn] at q
 have hv0:valN kvs (cD m)=none:=by
  cases z:valN kvs (cD m) with
  | none=>rfl
  | some y=>rw[z] at q;cases q
 rw[Bj hv0]
 rw[Bj hv0] at t
 exact dW (r.keep t) (.cons ⟨rfl,hm.keep t,hv.keep t⟩ .nil)
theorem nL.keep {K:W.Frag}{H H':Hp} (t1:∀ b xs,H b=some (.tup xs)→H' b=some (.tup xs)) (t:∀ b xs,cB K H b xs→cB K H' b xs):∀{vs:List V}{es:List (Nat×bg)},nL K H vs es→nL K H' vs es
 | _,_,.nil=>.nil
 | _,_,.cons ⟨x,w,e,h,q⟩ r=>.cons ⟨x,w,e,t1 _ _ h,q.keep t⟩ (nL.keep t1 t r)
abbrev wm (K:W.Frag) (H:Hp):List V→List bg→Prop:=Paired fun v m=>dj K H m v
theorem wm.keep {K:W.Frag}{H H':Hp} (t:∀ b xs,cB K H b xs→cB K H' b xs):∀{vs:List V}{ms:List bg},wm K H vs ms→wm K H' vs ms
 | _,_,.nil=>.nil
 | _,_,.cons a r=>.cons (a.keep t) (wm.keep t r)
theorem Ku {α:Type}{f:α→Bool}{l:List α}{i:Nat}{m:α} (hi:l[i]? = some m) (hg:f m=true) (hb:∀ m'∈l.take i,f m'=false):l.find? f=some m:=by
 have e:l=l.take i++m :: l.drop (i+1):=by
  obtain⟨h1,h2⟩:=List.getElem?_eq_some_iff.mp hi
  rw[←h2,←List.drop_eq_getElem_cons h1,List.take_append_drop]
 rw[e,List.find?_append,List.find?_eq_none.mpr (fun x hx=>by rw[hb x hx];decide),List.find?_cons,hg]
 rfl
theorem Kv {α:Type}{f:α→Bool}{l:List α} (hb:∀ m'∈l,f m'=false):l.find? f=none:=List.find?_eq_none.mpr fun x hx=>by rw[hb x hx];decide
theorem wo {p:bg}:∀(es:List (Nat×bg)) (acc:Cm×List bg),(es.foldl (gO p) acc).1.length+acc.2.length=acc.1.length+(es.foldl (gO p) acc).2.length
 | [],_=>rfl
 | e :: es,acc=>by
  have h1:=IE p acc e
  have h2:=wo (p:=p) es (gO p acc e)
  rw[List.foldl_cons];omega
theorem wu {led:bg→List (Nat×bg)}:∀(ms:List bg) (acc:Cm×List bg),(ms.foldl (kL led) acc).1.length+acc.2.length=acc.1.length+(ms.foldl (kL led) acc).2.length
 | [],_=>rfl
 | m :: ms,acc=>by
  have h1:=wo (p:=m) (led m) acc
  have h2:=wu (led:=led) ms (kL led acc m)
  rw[List.foldl_cons]
  unfold kL at h2 ⊢
  omega
def m0:bg:=((Str.ofString "row",Str.ofString ""),0)
def IF (ts:List (Str×Str)) (m:bg):Bool:=decide (m=((Str.ofString "row",Str.ofString ""),ts.length))
def wz (cm:Cm) (m:bg):Option (Option (bg×Nat)):=(cm.find? fun e=>decide (e.1=m)).map (·.2)
inductive qH (cm:Cm):Option (bg×Nat)→List Nat→Prop where
 | nil:qH cm none []
 | cons {m:bg}{c:Nat}{x:Option (bg×Nat)}{r:List Nat}:wz cm m=some x→qH cm x r→qH cm (some (m,c)) (c :: r)
theorem wA {K:W.Frag}{H:Hp}{m:bg}{x:Option (bg×Nat)}:∀{kvs:List (N3 (Lf ⊕ List Lf))}{cm:Cm},zK K H kvs cm→wz cm m=some x→∃ v,valN kvs (cD m)=some v∧qG K x H v
 | _,_,.nil,h=>by cases h
 | e :: kvs,p :: cm,.cons a r,h=>by
  unfold wz at h
  unfold valN
  rw[List.find?_cons] at h ⊢
  rw[a.1]
  by_cases q:p.1=m
  ·rw[decide_eq_true q] at h
   rw[decide_eq_true (by rw[q])]
   cases h
   exact⟨_,rfl,a.2.2⟩
  ·rw[decide_eq_false q] at h
   rw[decide_eq_false (fun z=>q (rR.mp z))]
   exact wA r h
theorem Ep:∀(xs:List Nat),((xs.map sg).map (·.length)).sum=xs.length
 | []=>rfl
 | x :: xs=>by rw[List.map_cons,List.map_cons,List.sum_cons,Ep xs,MO,List.length_cons];omega
inductive mK (led:bg→List (Nat×bg)) (a:bg):List Nat→bg→Prop where
 | nil:mK led a [] a
 | snoc {xs:List Nat}{p q:bg}{c:Nat}:mK led a xs p→(c,q)∈led p→mK led a (xs++[c]) q
theorem wB {cm l:Cm}{m:bg}{x:Option (bg×Nat)} (h:wz cm m=some x):wz (cm++l) m=some x:=by
 unfold wz at h ⊢
 rw[List.find?_append]
 cases e:cm.find? fun e=>decide (e.1=m) with
 | none=>rw[e] at h;cases h
 | some y=>rw[e] at h;exact h
theorem IG {cm:Cm}{m:bg}{x:Option (bg×Nat)} (h:cZ cm m=false):wz (cm++[(m,x)]) m=some x:=by
 unfold wz
 rw[List.find?_append,List.find?_eq_none.mpr,List.find?_cons,decide_eq_true rfl]
 ·rfl
 ·intro e he q
  have z:cZ cm m=true:=List.any_eq_true.mpr ⟨e,he,q⟩
  rw[h] at z;cases z
theorem qH.app {cm l:Cm}{x:Option (bg×Nat)}{xs:List Nat} (h:qH cm x xs):qH (cm++l) x xs:=by
 induction h with
 | nil=>exact .nil
 | cons e _ ih=>exact .cons (wB e) ih
theorem nM {cm l:Cm}{m:bg}:cZ (cm++l) m=(cZ cm m || cZ l m):=List.any_append ..
theorem jT {m q:bg}{x:Option (bg×Nat)}:cZ [(q,x)] m=true↔m=q:=by
 unfold cZ
 rw[List.any_cons,List.any_nil,Bool.or_false]
 exact⟨fun h=>(of_decide_eq_true h).symm,fun h=>decide_eq_true h.symm⟩
def jU (led:bg→List (Nat×bg)) (a:bg) (cm:Cm) (m:bg) (n:Nat):Prop:=∃ x xs,wz cm m=some x∧qH cm x xs∧mK led a xs.reverse m∧xs.length=n
theorem jU.app {led:bg→List (Nat×bg)}{a m:bg}{cm l:Cm}{n:Nat} (h:jU led a cm m n):jU led a (cm++l) m n:=by
 obtain⟨x,xs,h1,h2,h3,h4⟩:=h
 exact⟨x,xs,wB h1,h2.app,h3,h4⟩
section
variable {good:bg→Bool}{led:bg→List (Nat×bg)}{a:bg}
structure Mid (led:bg→List (Nat×bg)) (a:bg) (cm:Cm) (k:Nat) (acc:Cm×List bg):Prop where
 pre:∃ l,acc.1=cm++l
 told:∀ m,cZ acc.1 m=true→∃ n,n≤k+1∧jU led a acc.1 m n
 new:∀ m∈acc.2,jU led a acc.1 m (k+1)∧cZ acc.1 m=true
 old:∀ m,cZ acc.1 m=true→cZ cm m=true∨m∈acc.2
theorem Mid.vis {cm:Cm}{k:Nat}{acc:Cm×List bg}{p:bg}{e:Nat×bg} (h:Mid led a cm k acc) (hp:jU led a acc.1 p k) (he:e∈led p):Mid led a cm k (gO p acc e)∧cZ (gO p acc e).1 e.2=true∧(∃ l,(gO p acc e).1=acc.1++l):=by
 unfold gO
 cases hh:cZ acc.1 e.2 with
 | true=>rw[if_pos rfl];exact⟨h,hh,[],(List.append_nil _).symm⟩
 | false =>
  rw[if_neg (by decide)]
  obtain⟨x,xs,h1,h2,h3,h4⟩:=hp
  have hnew:jU led a (acc.1++[(e.2,some (p,e.1))]) e.2 (k+1):=by
   refine⟨some (p,e.1),e.1 :: xs,IG hh,.cons (wB h1) h2.app,?_,by rw[List.length_cons,h4]⟩
   rw[List.reverse_cons]
   exact .snoc h3 he
  have hhas:cZ (acc.1++[(e.2,some (p,e.1))]) e.2=true:=by rw[nM,jT.mpr rfl,Bool.or_true]
  refine⟨⟨?_,fun m hm=>?_,fun m hm=>?_,fun m hm=>?_⟩,hhas,_,rfl⟩
  ·obtain⟨l,q⟩:=h.pre
   exact⟨l++[(e.2,some (p,e.1))],by show acc.1++_=_;rw[q,List.append_assoc]⟩
  ·have hm:cZ (acc.1++[(e.2,some (p,e.1))]) m=true:=hm
   rw[nM,Bool.or_eq_true] at hm
   rcases hm with z | z
   ·obtain⟨n,hn,t⟩:=h.told m z
    exact⟨n,hn,t.app⟩
   ·rw[jT] at z;subst z
    exact⟨_,Nat.le_refl _,hnew⟩
  ·rcases List.mem_append.mp hm with z | z
   ·obtain⟨t,u⟩:=h.new m z
    exact⟨t.app,by show cZ (acc.1++_) m=true;rw[nM,u];rfl⟩
   ·rw[List.mem_singleton.mp z];exact⟨hnew,hhas⟩
  ·have hm:cZ (acc.1++[(e.2,some (p,e.1))]) m=true:=hm
   rw[nM,Bool.or_eq_true] at hm
   rcases hm with z | z
   ·rcases h.old m z with y | y
    ·exact .inl y
    ·exact .inr (List.mem_append_left _ y)
   ·rw[jT] at z;subst z
    exact .inr (List.mem_append_right _ (List.mem_singleton.mpr rfl))
theorem qI {cm l:Cm}{m:bg} (h:cZ cm m=true):cZ (cm++l) m=true:=by rw[nM,h];rfl
theorem Mid.Rc {cm:Cm}{k:Nat}{p:bg}:∀{es:List (Nat×bg)}{acc:Cm×List bg},Mid led a cm k acc→jU led a acc.1 p k→(∀ e∈es,e∈led p) →
  Mid led a cm k (es.foldl (gO p) acc)∧(∀ e∈es,cZ (es.foldl (gO p) acc).1 e.2=true)∧∃ l,(es.foldl (gO p) acc).1=acc.1++l
 | [],acc,h,_,_=>⟨h,(fun _ z=>nomatch z),[],(List.append_nil _).symm⟩
 | e :: es,acc,h,hp,he=>by
  obtain⟨h1,h2,l,h3⟩:=h.vis hp (he e (List.mem_cons_self ..))
  have hp1:jU led a (gO p acc e).1 p k:=by rw[h3];exact hp.app
  obtain⟨g1,g2,l',g3⟩:=Mid.Rc h1 hp1 fun e' z=>he e' (List.mem_cons_of_mem _ z)
  rw[List.foldl_cons]
  refine⟨g1,fun e' z=>?_,l++l',by rw[g3,h3,List.append_assoc]⟩
  rcases List.mem_cons.mp z with y | y
  ·subst y;rw[g3];exact qI h2
  ·exact g2 e' y
theorem Mid.Rf {cm:Cm}{k:Nat}:∀{ms:List bg}{acc:Cm×List bg},Mid led a cm k acc→(∀ p∈ms,jU led a acc.1 p k) →
  Mid led a cm k (ms.foldl (kL led) acc)∧(∀ p∈ms,∀ e∈led p,cZ (ms.foldl (kL led) acc).1 e.2=true)∧∃ l,(ms.foldl (kL led) acc).1=acc.1++l
 | [],acc,h,_=>⟨h,(fun _ z=>nomatch z),[],(List.append_nil _).symm⟩
 | p :: ms,acc,h,hp=>by
  obtain⟨h1,h2,l,h3⟩:=h.Rc (p:=p) (es:=led p) (hp p (List.mem_cons_self ..)) fun e z=>z
  have h1:Mid led a cm k (kL led acc p):=h1
  have h3:(kL led acc p).1=acc.1++l:=h3
  have h2:∀ e∈led p,cZ (kL led acc p).1 e.2=true:=h2
  obtain⟨g1,g2,l',g3⟩:=Mid.Rf h1 fun p' z=>by rw[h3];exact(hp p' (List.mem_cons_of_mem _ z)).app
  rw[List.foldl_cons]
  refine⟨g1,fun p' z e' ze=>?_,l++l',by rw[g3,h3,List.append_assoc]⟩
  rcases List.mem_cons.mp z with y | y
  ·subst y;rw[g3];exact qI (h2 e' ze)
  ·exact g2 p' y e' ze
structure Kw (good:bg→Bool) (led:bg→List (Nat×bg)) (a:bg) (cm:Cm) (bF:List bg) (k:Nat):Prop where
 told:∀ m,cZ cm m=true→∃ n,n≤k∧jU led a cm m n
 edg:∀ m∈bF,jU led a cm m k∧cZ cm m=true
 all:∀ ys m,mK led a ys m→ys.length≤k→cZ cm m=true
 shut:∀ p,cZ cm p=true→p∉bF→∀ e∈led p,cZ cm e.2=true
 bad:∀ p,cZ cm p=true→p∉bF→good p=false
 less:∀ ys m,mK led a ys m→ys.length < k→good m=false
theorem Kw.go {cm:Cm}{bF:List bg}{k:Nat} (h:Kw good led a cm bF k) (hf:bF.find? good=none):Kw good led a (expand led cm bF).1 (expand led cm bF).2 (k+1):=by
 have hm:Mid led a cm k (cm,[]):=⟨⟨[],(List.append_nil _).symm⟩,fun m hm=>by obtain⟨n,hn,t⟩:=h.told m hm;exact⟨n,by omega,t⟩,(fun _ z=>nomatch z),fun m hm=>.inl hm⟩
 obtain⟨g1,g2,l,g3⟩:=hm.Rf (ms:=bF) fun p hp=>(h.edg p hp).1
 have hno:∀ m∈bF,good m=false:=fun m hm=>by
  have:=List.find?_eq_none.mp hf m hm
  cases e:good m with
  | true=>exact absurd e this
  | false=>rfl
 have hbad:∀ p,cZ cm p=true→good p=false:=fun p hp=>by
  by_cases q:p∈bF
  ·exact hno p q
  ·exact h.bad p hp q
 have L7:∀ p,cZ cm p=true→∀ e∈led p,cZ (expand led cm bF).1 e.2=true:=fun p hp e he=>by
  by_cases q:p∈bF
  ·exact g2 p q e he
  ·unfold expand;rw[g3];exact qI (h.shut p hp q e he)
 refine⟨g1.told,g1.new,fun ys m hw hl=>?_,fun p hp hq e he=>?_,fun p hp hq=>?_,fun ys m hw hl=>?_⟩
 ·cases hw with
  | nil=>unfold expand;rw[g3];exact qI (h.all [] a .nil (Nat.zero_le _))
  | @snoc xs p q c hw1 he =>
   rw[List.length_append] at hl
   exact L7 p (h.all xs p hw1 (by simpa using hl)) _ he
 ·rcases g1.old p hp with z | z
  ·exact L7 p z e he
  ·exact absurd z hq
 ·rcases g1.old p hp with z | z
  ·exact hbad p z
  ·exact absurd z hq
 ·exact hbad m (h.all ys m hw (by omega))
theorem Kw.zero:Kw good led a [(a,none)] [a] 0:=by
 have hv:jU led a [(a,none)] a 0:=⟨none,[],by unfold wz;rw[List.find?_cons,decide_eq_true rfl];rfl,.nil,.nil,rfl⟩
 have ha:cZ [(a,none)] a=true:=jT.mpr rfl
 refine⟨fun m hm=>?_,fun m hm=>?_,fun ys m hw hl=>?_,fun p hp hq=>?_,fun p hp hq=>?_,fun ys m hw hl=>absurd hl (Nat.not_lt_zero _)⟩
 ·rw[jT.mp hm];exact⟨0,Nat.le_refl _,hv⟩
 ·rw[List.mem_singleton.mp hm];exact⟨hv,ha⟩
 ·cases hw with
  | nil=>exact ha
  | snoc _ _=>rw[List.length_append] at hl;simp at hl
 ·exact absurd (List.mem_singleton.mpr (jT.mp hp)) hq
 ·exact absurd (List.mem_singleton.mpr (jT.mp hp)) hq
def Rg (good:bg→Bool) (led:bg→List (Nat×bg)) (a:bg) (Ci:Cm) (r:Option bg):Prop :=
 match r with
 | some m=>good m=true∧∃ n,jU led a Ci m n∧∀ ys m',mK led a ys m'→good m'=true→n≤ys.length
 | none=>(∀ m,cZ Ci m=true→∃ n,jU led a Ci m n)∧∀ ys m',mK led a ys m'→cZ Ci m'=true∧good m'=false
theorem Kw.run {cm Ci:Cm}{bF:List bg}{r:Option bg} (h:zJ good led cm bF r Ci):∀{k:Nat},Kw good led a cm bF k →
  Rg good led a Ci r:=by
 induction h with
 | stop =>
  rename_i cm
  intro k L
  have hw:∀ ys m',mK led a ys m'→cZ cm m'=true:=fun ys m' hw=>by
   induction hw with
   | nil=>exact L.all [] a .nil (Nat.zero_le _)
   | snoc _ he ih=>exact L.shut _ ih (fun z=>nomatch z) _ he
  exact⟨fun m hm=>by obtain⟨n,_,t⟩:=L.told m hm;exact⟨n,t⟩,fun ys m' q=>⟨hw ys m' q,L.bad m' (hw ys m' q) fun z=>nomatch z⟩⟩
 | found hf =>
  intro k L
  have hm:=List.mem_of_find?_eq_some hf
  refine⟨List.find?_some hf,k,(L.edg _ hm).1,fun ys m' hw hg=>?_⟩
  cases Nat.lt_or_ge ys.length k with
  | inl z=>rw[L.less ys m' hw z] at hg;cases hg
  | inr z=>exact z
 | go _ hf _ ih=>intro k L;exact ih (L.go hf)
theorem Ky {cm:Cm}{r:Option bg} (h:zJ good led [(a,none)] [a] r cm):Rg good led a cm r:=Kw.run h Kw.zero
end
structure UOk (p q f:Str) (b1 b2 b3 b4:Bool) (ts:List (Str×Str)) (U:List bg):Prop where
 len:U.length≤100000
 one:m0∈U
 shut:∀ m∈U,m.2 < ts.length→∀ e∈gv p q f b1 b2 b3 b4 ts m,e.2∈U
 good:∀ m∈U,m.2 < ts.length∨IF ts m=true
theorem Fl {z:Str}:∀ t∈Fg z,t.2.length≤1:=fun t ht=>by
 obtain⟨k,_,rfl⟩:=List.mem_map.mp ht
 exact Nat.le_refl _
theorem II {r:List Str}:∀{n:Nat},∀ t∈rY r n,t.2.length≤1
 | 0,t,ht=>nomatch ht
 | n+1,t,ht=>by
  rcases List.mem_append.mp ht with z | z
  ·exact II t z
  ·rcases List.mem_append.mp z with y | y
   ·split at y
    ·cases y
    ·rw[List.mem_singleton.mp y];exact Nat.zero_le _
   ·exact Fl t y
theorem IJ {t:List (List Str)}:∀ x∈cF t,x.2.length≤1:=fun x hx=>by
 obtain⟨r,_,h⟩:=List.mem_flatMap.mp hx
 rcases List.mem_append.mp h with z | z
 ·exact II x z
 ·rw[List.mem_singleton.mp z];exact Nat.zero_le _
def Shp (p q f u:Str) (c:Nat) (k w' u':Str):Prop :=
 (k=Str.ofString "skip"∧(p7 c f=true∨p7 c q=true∨ck (sg c) u=true∨ck (sg c) (" ":Str)=true))∨(k=Str.ofString "end"∧ck (sg c) (Str.ofString "\n")=true∧w'=Str.ofString "row"∧u'=Str.ofString "")∨(k=Str.ofString "part"∧p7 c p=true)∨k=Str.ofString "put"
theorem IK {p q f:Str}{b1 b2 b3 b4:Bool}{w u k w' u':Str}{c:Nat} (h:fY p q f b1 b2 b3 b4 w u c=.go k w' u'):Shp p q f u c k w' u':=by
 have hB:fK p b3 c=.go k w' u'→Shp p q f u c k w' u':=by
  intro h
  unfold fK at h
  repeat' split at h
  all_goals first
   | (cases h;done)
   | (cases h;exact .inr (.inl ⟨rfl,by assumption,rfl,rfl⟩))
   | (cases h;exact .inr (.inr (.inl ⟨rfl,by assumption⟩)))
   | (cases h;exact .inl ⟨rfl,.inr (.inr (.inr (by assumption)))⟩)
 unfold fY at h
 split at h
 ·unfold gX at h
  repeat' split at h
  all_goals first
   | (cases h;done)
   | (cases h;exact .inr (.inr (.inr rfl)))
   | (cases h;exact .inl ⟨rfl,.inl (by assumption)⟩)
   | (cases h;exact .inl ⟨rfl,.inr (.inr (.inl (by assumption)))⟩)
 split at h
 ·unfold jR jm at h
  repeat' split at h
  all_goals first
   | (cases h;done)
   | (cases h;exact .inr (.inr (.inr rfl)))
 split at h
 ·unfold p8 at h
  split at h
  ·cases h;exact .inr (.inr (.inr rfl))
  ·exact hB h
 split at h
 ·exact hB h
 unfold tL at h
 split at h
 ·unfold jQ at h
  repeat' split at h
  all_goals first
   | (cases h;done)
   | (cases h;exact .inr (.inr (.inr rfl)))
   | (cases h;exact .inr (.inl ⟨rfl,by assumption,rfl,rfl⟩))
   | (cases h;exact .inr (.inr (.inl ⟨rfl,by assumption⟩)))
   | (cases h;exact .inl ⟨rfl,.inl (by assumption)⟩)
 ·unfold jP at h
  repeat' split at h
  all_goals first
   | (cases h;done)
   | (cases h;exact .inr (.inr (.inr rfl)))
   | (cases h;exact .inr (.inl ⟨rfl,by assumption,rfl,rfl⟩))
   | (cases h;exact .inr (.inr (.inl ⟨rfl,by assumption⟩)))
   | (cases h;exact .inl ⟨rfl,.inl (by assumption)⟩)
   | (cases h;exact .inl ⟨rfl,.inr (.inl (by assumption))⟩)
   | (cases h;exact .inl ⟨rfl,.inr (.inr (.inr (by assumption)))⟩)
theorem Fo:¬Str.ofString "skip" = Str.ofString "end" := CP (by decide +kernel)
theorem IL:¬Str.ofString "put" = Str.ofString "end" := CP (by decide +kernel)
theorem Fp:¬Str.ofString "part" = Str.ofString "end" := CP (by decide +kernel)
theorem Fq {p q f:Str}{b1 b2 b3 b4:Bool}{w u w' u':Str}{c:Nat} (h:fY p q f b1 b2 b3 b4 w u c=.go ("end":Str) w' u'):(w',u')=(Str.ofString "row",Str.ofString ""):=by
 rcases IK h with ⟨z,_⟩ | ⟨_,_,e1,e2⟩ | ⟨z,_⟩ | z
 ·exact absurd z.symm Fo
 ·rw[e1,e2]
 ·exact absurd z.symm Fp
 ·exact absurd z.symm IL
def L8 (q:Str):List (Str×Str):=[(Str.ofString "row",Str.ofString ""),(Str.ofString "cell",Str.ofString ""),(Str.ofString "plain",Str.ofString ""),(Str.ofString "behind",Str.ofString ""),(Str.ofString "freed",Str.ofString "")]++q.cps.toList.flatMap fun c=>[(Str.ofString "within",sg c),(Str.ofString "doubt",sg c),(Str.ofString "freed",sg c)]
theorem IM {q w u:Str} (h:xN q w u):(w,u)∈L8 q:=by
 unfold L8
 rcases h with ⟨rfl,rfl | rfl | rfl | rfl | rfl⟩ | ⟨d,hd,rfl,rfl | rfl | rfl⟩
 ·exact List.mem_append_left _ (by simp)
 ·exact List.mem_append_left _ (by simp)
 ·exact List.mem_append_left _ (by simp)
 ·exact List.mem_append_left _ (by simp)
 ·exact List.mem_append_left _ (by simp)
 ·exact List.mem_append_right _ (List.mem_flatMap.mpr ⟨d,hd,by simp⟩)
 ·exact List.mem_append_right _ (List.mem_flatMap.mpr ⟨d,hd,by simp⟩)
 ·exact List.mem_append_right _ (List.mem_flatMap.mpr ⟨d,hd,by simp⟩)
theorem Nl {q:Str}{s:Str×Str} (h:s∈L8 q):xN q s.1 s.2:=by
 unfold L8 at h
 rcases List.mem_append.mp h with z | z
 ·simp only[List.mem_cons,List.not_mem_nil,or_false] at z
  rcases z with rfl | rfl | rfl | rfl | rfl
  ·exact .inl ⟨rfl,.inl rfl⟩
  ·exact .inl ⟨rfl,.inr (.inl rfl)⟩
  ·exact .inl ⟨rfl,.inr (.inr (.inl rfl))⟩
  ·exact .inl ⟨rfl,.inr (.inr (.inr (.inl rfl)))⟩
  ·exact .inl ⟨rfl,.inr (.inr (.inr (.inr rfl)))⟩
 ·obtain⟨d,hd,y⟩:=List.mem_flatMap.mp z
  simp only[List.mem_cons,List.not_mem_nil,or_false] at y
  rcases y with rfl | rfl | rfl
  ·exact .inr ⟨d,hd,rfl,.inl rfl⟩
  ·exact .inr ⟨d,hd,rfl,.inr (.inl rfl)⟩
  ·exact .inr ⟨d,hd,rfl,.inr (.inr rfl)⟩
theorem Kz {p q f:Str} (g:Gd p q f):(L8 q).length≤11:=by
 have e:∀ l:List Nat,(l.flatMap fun c=>[(Str.ofString "within",sg c),(Str.ofString "doubt",sg c),(Str.ofString "freed",sg c)]).length=3 * l.length:=by
  intro l
  induction l with
  | nil=>rfl
  | cons a l ih=>rw[List.flatMap_cons,List.length_append,ih];show 3+3 * l.length=3 * (l.length+1);omega
 unfold L8
 rw[List.length_append,e]
 have:q.cps.toList.length≤2:=by rw[Array.length_toList];exact g.q2
 show 5+_≤11
 omega
def IP (ts:List (Str×Str)):Prop:=∀ n,n+1=ts.length→ts[n]? = some Rb
theorem IQ {p q f:Str}{b1 b2 b3 b4:Bool}{ts:List (Str×Str)}{m m':bg}{c:Nat} (he:IP ts) (hm:m.2 < ts.length) (h:wj p q f b1 b2 b3 b4 ts m c=some m') (hq:xN q m.1.1 m.1.2):xN q m'.1.1 m'.1.2∧(m'.2 < ts.length∨m'=((Str.ofString "row",Str.ofString ""),ts.length)):=by
 unfold wj nK at h
 cases hs:fY p q f b1 b2 b3 b4 m.1.1 m.1.2 c with
 | AV e=>rw[hs] at h;cases h
 | go k w u =>
  rw[hs] at h
  dsimp only at h
  by_cases hl:yU f w u=true
  ·rw[if_pos hl] at h
   dsimp only at h
   cases hc:CU ts m.2 k (sg c) with
   | none=>rw[hc] at h;cases h
   | some n =>
    rw[hc] at h
    cases h
    refine⟨Kq hq hs,?_⟩
    unfold CU at hc
    by_cases hsk:ck k ("skip":Str)=true
    ·rw[if_pos hsk] at hc;cases hc;exact .inl hm
    ·rw[if_neg hsk] at hc
     by_cases ht:ts[m.2]? = some (k,if ck k ("put":Str)=true then sg c else Str.ofString "")
     ·rw[if_pos ht] at hc
      cases hc
      by_cases hz:m.2+1=ts.length
      ·have e:=he _ hz
       rw[e] at ht
       have hk:k=Str.ofString "end" := by injection ht with ht;exact(congrArg Prod.fst ht).symm
       rw[hk] at hs
       have:=Fq hs
       exact .inr (by show((w,u),m.2+1)=_;rw[this,hz])
      ·exact .inl (by show m.2+1 < _;omega)
     ·rw[if_neg ht] at hc;cases hc
  ·rw[if_neg hl] at h;cases h
def uL (q:Str) (ts:List (Str×Str)):List bg:=((Str.ofString "row",Str.ofString ""),ts.length) :: (L8 q).flatMap fun s=>(List.range ts.length).map fun n=>(s,n)
theorem zL {q:Str}{ts:List (Str×Str)}{m:bg}:m∈uL q ts↔m=((Str.ofString "row",Str.ofString ""),ts.length)∨(m.1∈L8 q∧m.2 < ts.length):=by
 unfold uL
 rw[List.mem_cons,List.mem_flatMap]
 constructor
 ·rintro(e | ⟨s,hs,h⟩)
  ·exact .inl e
  ·obtain⟨n,hn,rfl⟩:=List.mem_map.mp h
   exact .inr ⟨hs,List.mem_range.mp hn⟩
 ·rintro(e | ⟨h1,h2⟩)
  ·exact .inl e
  ·exact .inr ⟨m.1,h1,List.mem_map.mpr ⟨m.2,List.mem_range.mpr h2,rfl⟩⟩
theorem Nm {p q f:Str} (g:Gd p q f) (ts:List (Str×Str)):(uL q ts).length≤1+11 * ts.length:=by
 have e:∀ l:List (Str×Str),(l.flatMap fun s=>(List.range ts.length).map fun n=>(s,n)).length=l.length * ts.length:=by
  intro l
  induction l with
  | nil=>simp
  | cons a l ih=>rw[List.flatMap_cons,List.length_append,ih,List.length_cons,List.length_map,List.length_range,Nat.succ_mul];omega
 unfold uL
 rw[List.length_cons,e]
 have:=Nat.mul_le_mul_right ts.length (Kz g)
 omega
theorem KA {p q f:Str}{b1 b2 b3 b4:Bool}{ts:List (Str×Str)}{m:bg}{e:Nat×bg} (h:e∈gv p q f b1 b2 b3 b4 ts m):wj p q f b1 b2 b3 b4 ts m e.1=some e.2:=by
 unfold gv at h
 split at h
 ·cases h
 ·obtain⟨c,_,hc⟩:=List.mem_filterMap.mp h
  cases hm:wj p q f b1 b2 b3 b4 ts m c with
  | none=>rw[hm] at hc;cases hc
  | some m'=>rw[hm] at hc;cases hc;exact hm
theorem uok {p q f:Str}{b1 b2 b3 b4:Bool}{ts:List (Str×Str)} (g:Gd p q f) (he:IP ts) (hl:ts.length≤9000):UOk p q f b1 b2 b3 b4 ts (uL q ts):=by
 refine⟨Nat.le_trans (Nm g ts) (by omega),?_,fun m hm hlt e hE=>?_,fun m hm=>?_⟩
 ·rw[zL]
  cases ts with
  | nil=>exact .inl rfl
  | cons a l=>exact .inr ⟨IM (.inl ⟨rfl,.inl rfl⟩),Nat.zero_lt_succ _⟩
 ·have hs:xN q m.1.1 m.1.2:=by
   rcases zL.mp hm with z | z
   ·rw[z] at hlt;exact absurd hlt (Nat.lt_irrefl _)
   ·exact Nl z.1
  obtain⟨h1,h2⟩:=IQ he hlt (KA hE) hs
  rw[zL]
  rcases h2 with z | z
  ·exact .inr ⟨IM h1,z⟩
  ·exact .inl z
 ·rcases zL.mp hm with z | z
  ·exact .inr (decide_eq_true z)
  ·exact .inl z.2
section
variable {p q f:Str}{b1 b2 b3 b4:Bool}
end
theorem Ft {t:List (List Str)}:IP (cF t):=by
 intro n hn
 rcases List.eq_nil_or_concat t with e | ⟨l,r,e⟩
 ·rw[e] at hn;exact absurd hn (Nat.succ_ne_zero _)
 ·rw[List.concat_eq_append] at e
  subst e
  rw[nJ] at hn ⊢
  unfold rZ at hn ⊢
  rw[←List.append_assoc] at hn ⊢
  rw[List.length_append] at hn
  have e:n=(cF l++rY r r.length).length:=by simpa using hn
  rw[e,List.getElem?_append_right (Nat.le_refl _),Nat.sub_self]
  rfl
theorem Np {t:List (List Str)} (h:TabOk t):(cF t).length≤9000:=by
 have:=wc h t.length
 rw[List.take_length] at this
 omega
def Er (c:Nat):Bool:=decide (c=10∨Pn c)
def textOk (z:Str):Bool:=z.cps.toList.all Er
theorem KC {z:Str} (h:zI z):textOk z=true:=by
 unfold textOk
 rw[List.all_eq_true]
 exact fun c hc=>decide_eq_true (h c hc)
theorem none_of {H H':Hp}{a:Addr} (s:aG H H') (h:H' a=none):H a=none:=by
 cases e:H a with
 | none=>rfl
 | some u=>rw[s _ _ e] at h;cases h
inductive Tr where
 | leaf (v:V)
 | list (ts:List Tr)
inductive Lf (H:Hp):V→Prop where
 | flat {v:V}:tE v=true→(∀ z,v=.str z→z.length≤10000)→Lf H v
 | tup {a:Addr}{xs:List V}:H a=some (.tup xs)→(∀ x∈xs,tE x=true∨∃ b,x=.ref b)→Lf H (.ref a)
 | KD {a:Addr}:H a=some (.dK [])→Lf H (.ref a)
def Rp (N:Addr→Prop):Nat→Hp→V→Tr→Prop
 | 0,H,v,t=>t=.leaf v∧Lf H v
 | n+1,H,v,t=>(t=.leaf v∧Lf H v)∨∃(a:Addr) (xs:List V) (ts:List Tr),v=.ref a∧t=.list ts∧H a=some (.lst xs)∧N a∧xs.length≤1000∧Paired (Rp N n H) xs ts
theorem Lf.mono {H H':Hp}{v:V} (s:aG H H') (h:Lf H v):Lf H' v:=by
 cases h with
 | flat e f=>exact .flat e f
 | tup e f=>exact .tup (s _ _ e) f
 | KD e=>exact .KD (s _ _ e)
theorem Lf.set {H:Hp}{v:V}{D:Addr}{ys:List V}{o:HO} (hD:H D=some (.lst ys)) (h:Lf H v):Lf (upd H D o) v:=by
 cases h with
 | flat e f=>exact .flat e f
 | @tup a xs e f=>exact .tup (by rw[aB (fun z=>by subst z;rw[e] at hD;cases hD)];exact e) f
 | @KD a e=>exact .KD (by rw[aB (fun z=>by subst z;rw[e] at hD;cases hD)];exact e)
theorem Rp.leaf {N:Addr→Prop}{n:Nat}{H:Hp}{v:V} (h:Lf H v):Rp N n H v (.leaf v):=by
 cases n with
 | zero=>exact⟨rfl,h⟩
 | succ n=>exact .inl ⟨rfl,h⟩
theorem Rp.lst {N:Addr→Prop}{n:Nat}{H:Hp}{a:Addr}{xs:List V}{ts:List Tr} (e:H a=some (.lst xs)) (hN:N a) (hl:xs.length≤1000) (h:Paired (Rp N n H) xs ts):Rp N (n+1) H (.ref a) (.list ts):=.inr ⟨a,xs,ts,rfl,rfl,e,hN,hl,h⟩
theorem Rp.mono {N N':Addr→Prop}{H H':Hp} (s:aG H H') (f:∀ a,N a→N' a):∀{n:Nat}{v:V}{t:Tr},Rp N n H v t→Rp N' n H' v t
 | 0,_,_,h=>⟨h.1,h.2.mono s⟩
 | n+1,_,_,.inl h=>.inl ⟨h.1,h.2.mono s⟩
 | n+1,_,_,.inr ⟨a,xs,ts,e1,e2,e3,e4,e5,e6⟩=>.inr ⟨a,xs,ts,e1,e2,s _ _ e3,f _ e4,e5,Paired.imp' (fun _ _ q=>Rp.mono s f q) e6⟩
theorem Rp.set {N:Addr→Prop}{H:Hp}{D:Addr}{ys:List V}{o:HO} (hD:H D=some (.lst ys)) (f:∀ a,N a→a≠D):∀{n:Nat}{v:V}{t:Tr},Rp N n H v t→Rp N n (upd H D o) v t
 | 0,_,_,h=>⟨h.1,h.2.set hD⟩
 | n+1,_,_,.inl h=>.inl ⟨h.1,h.2.set hD⟩
 | n+1,_,_,.inr ⟨a,xs,ts,e1,e2,e3,e4,e5,e6⟩=>.inr ⟨a,xs,ts,e1,e2,by rw[aB (f _ e4)];exact e3,e4,e5,Paired.imp' (fun _ _ q=>Rp.set hD f q) e6⟩
def iT:Tr→Bool
 | .leaf (.str z)=>decide (z.length≤400) && textOk z
 | _=>false
def Ma:Tr→Nat
 | .leaf (.str z)=>z.length
 | _=>0
def kM:Tr→Bool
 | .list cs=>decide (1≤cs.length∧cs.length≤20) && cs.all iT
 | _=>false
def IS:Tr→Nat
 | .list cs=>(cs.map Ma).sum
 | _=>0
def uc:Tr→Bool
 | .list rs=>decide (rs.length≤60) && rs.all kM && decide ((rs.map IS).sum≤400)
 | _=>false
theorem Rp.gY (K:W.Frag) {N:Addr→Prop}{n:Nat}{H:Hp}{v:V}{t:Tr} (h:Rp N n H v t):(∃(m:Nat) (a:Addr) (xs:List V) (ts:List Tr),n=m+1∧v=.ref a∧t=.list ts∧H a=some (.lst xs)∧N a∧xs.length≤1000∧Paired (Rp N m H) xs ts)∨∃ ty,ny K H v ty∧W.kitOne K ty (.type "list")=some false∧t=.leaf v∧Lf H v:=by
 have Mb:∀{v:V},Lf H v→∃ ty,ny K H v ty∧W.kitOne K ty (.type "list")=some false:=fun {v} h=>by
  cases h with
  | flat e f =>
   cases v with
   | non=>exact⟨_,.non,rfl⟩
   | bl b=>exact⟨_,.bl b,rfl⟩
   | int i=>exact⟨_,.int i,rfl⟩
   | str z=>exact⟨_,.str z,rfl⟩
   | _=>cases e
  | tup e f=>exact⟨_,.tup e,rfl⟩
  | KD e=>exact⟨_,.dK e,rfl⟩
 cases n with
 | zero =>
  obtain⟨ty,h1,h2⟩:=Mb h.2
  exact .inr ⟨ty,h1,h2,h.1,h.2⟩
 | succ n =>
  rcases h with h | ⟨a,xs,ts,e1,e2,e3,e4,e5,e6⟩
  ·obtain⟨ty,h1,h2⟩:=Mb h.2
   exact .inr ⟨ty,h1,h2,h.1,h.2⟩
  ·exact .inl ⟨n,a,xs,ts,rfl,e1,e2,e3,e4,e5,e6⟩
theorem Rp.IT (K:W.Frag) {N:Addr→Prop}{n:Nat}{H:Hp}{v:V}{t:Tr} (h:Rp N n H v t):(∃ z:Str,v=.str z∧t=.leaf (.str z)∧z.length≤10000)∨∃ ty,ny K H v ty∧W.kitOne K ty (.type "str")=some false∧iT t=false:=by
 rcases h.gY K with ⟨m,a,xs,ts,_,rfl,rfl,e,_⟩ | ⟨_,_,_,rfl,hl⟩
 ·exact .inr ⟨_,.lst e,rfl,rfl⟩
 ·cases hl with
  | flat e f =>
   cases v with
   | non=>exact .inr ⟨_,.non,rfl,rfl⟩
   | bl b=>exact .inr ⟨_,.bl b,rfl,rfl⟩
   | int i=>exact .inr ⟨_,.int i,rfl,rfl⟩
   | str z=>exact .inl ⟨z,rfl,rfl,f z rfl⟩
   | _=>cases e
  | tup e f=>exact .inr ⟨_,.tup e,rfl,rfl⟩
  | KD e=>exact .inr ⟨_,.dK e,rfl,rfl⟩
def leaves (r:List Str):List Tr:=r.map fun z=>.leaf (.str z)
def xO (r:List Str):Tr:=.list (leaves r)
def Nq (t:List (List Str)):Tr:=.list (t.map xO)
theorem yY (K:W.Frag) {N:Addr→Prop}{n:Nat}{H:Hp}:∀{xs:List V}{cs:List Tr},Paired (Rp N n H) xs cs→cs.all iT=true→∃ r:List Str,cs=leaves r∧xs=r.map V.str∧∀ c∈r,c.length≤400
 | _,_,.nil,_=>⟨[],rfl,rfl,fun _ z=>nomatch z⟩
 | x :: xs,c :: cs,.cons a r,h=>by
  rw[List.all_cons,Bool.and_eq_true] at h
  obtain⟨rs,rfl,rfl,hl⟩:=yY K r h.2
  rcases a.IT K with ⟨z,rfl,rfl,_⟩ | ⟨_,_,_,e⟩
  ·refine⟨z :: rs,rfl,rfl,fun c hc=>?_⟩
   rcases List.mem_cons.mp hc with rfl | hc
   ·have h1:=h.1
    have h1:(decide (c.length≤400) && textOk c)=true:=h1
    rw[Bool.and_eq_true] at h1
    exact of_decide_eq_true h1.1
   ·exact hl c hc
  ·rw[e] at h;cases h.1
theorem Nr (r:List Str):IS (xO r)=(lens r).sum:=by
 show((leaves r).map Ma).sum=_
 unfold leaves lens
 rw[List.map_map];rfl
theorem Rp.same {K:W.Frag}{N N':Addr→Prop}{H:Hp}:∀{n:Nat}{v w:V}{t:Tr},Rp N n H v t→Rp N' n H w t→pF K H n v w:=by
 have lf:∀{n:Nat}{v:V},Lf H v→pF K H n v v:=fun {n v} h=>by
  cases h with
  | flat e f=>exact .flat e e (Bd e)
  | tup e f=>exact .ref
  | KD e=>exact .ref
 intro n
 induction n with
 | zero =>
  intro v w t h1 h2
  obtain⟨rfl,h1⟩:=h1
  obtain⟨e,h2⟩:=h2
  cases e
  exact lf h1
 | succ n ih =>
  intro v w t h1 h2
  rcases h1 with ⟨rfl,h1⟩ | ⟨a,xs,ts,rfl,rfl,e3,_,_,e6⟩
  ·rcases h2 with ⟨e,h2⟩ | ⟨_,_,_,_,e,_⟩
   ·cases e;exact lf h1
   ·cases e
  ·rcases h2 with ⟨e,h2⟩ | ⟨b,ys,us,rfl,e,f3,_,_,f6⟩
   ·cases e
   ·cases e
    refine .lst (bE.of e3) (bE.of f3) (e6.length.trans f6.length.symm) fun j x y hx hy=>?_
    obtain⟨t1,ht1,q1⟩:=aU e6 j x hx
    obtain⟨t2,Fv,q2⟩:=aU f6 j y hy
    rw[ht1] at Fv
    cases Fv
    exact ih q1 q2
theorem Rp.ne {K:W.Frag}{N N':Addr→Prop}{H:Hp}{n:Nat}{v w:V}{t:Tr}{Q:VK} (h1:Rp N n H v t) (h2:Rp N' n H w t) (hn:n≤50) (q:Q (.bl false) H):WD v w H Q∨(MS K v w H Q∨Iu v w H Q):=by
 have lf:∀{v:V},Lf H v→WD v v H Q∨(MS K v v H Q∨Iu v v H Q):=fun {v} h=>by
  have q2:∀ x:V,Q (.bl (!decide (x=x))) H:=fun x=>by rw[decide_eq_true rfl];exact q
  cases h with
  | flat e f =>
   cases v with
   | non=>exact .inl ⟨rfl,q2 _⟩
   | bl b=>exact .inl ⟨rfl,q2 _⟩
   | int i=>exact .inl ⟨rfl,q2 _⟩
   | str z=>exact .inl ⟨rfl,q2 _⟩
   | _=>cases e
  | @tup a xs e f =>
   refine .inr (.inl ⟨⟨0,a,a,xs,xs,rfl,rfl,by decide,rfl,.inl ⟨cB.of e,cB.of e⟩,fun j x y hx hy=>?_⟩,q⟩)
   rw[hx] at hy
   cases hy
   rcases f x (List.mem_of_getElem? hx) with g | ⟨b,rfl⟩
   ·exact .flat g g (Bd g)
   ·exact .ref
  | @KD a e=>exact .inr (.inr ⟨a,rfl,rfl,e,q⟩)
 rcases h1.gY K with ⟨m,a,xs,ts,rfl,rfl,rfl,e3,_,_,e6⟩ | ⟨_,_,_,rfl,l1⟩
 ·rcases h2.gY K with ⟨m',b,ys,us,em,rfl,e,f3,_,_,f6⟩ | ⟨_,_,_,e,_⟩
  ·cases e
   cases em
   refine .inr (.inl ⟨⟨m,a,b,xs,ys,rfl,rfl,by omega,e6.length.trans f6.length.symm,.inr ⟨bE.of e3,bE.of f3⟩,fun j x y hx hy=>?_⟩,q⟩)
   obtain⟨t1,ht1,q1⟩:=aU e6 j x hx
   obtain⟨t2,Fv,q2⟩:=aU f6 j y hy
   rw[ht1] at Fv
   cases Fv
   exact Rp.same q1 q2
  ·cases e
 ·rcases h2.gY K with ⟨m',b,ys,us,em,rfl,e,f3,_,_,f6⟩ | ⟨_,_,_,e,_⟩
  ·cases e
  ·cases e;exact lf l1
theorem zM {m:Nat}:∀{r:List Str},(∀ c∈r,c.length≤m)→(lens r).sum≤r.length * m
 | [],_=>by show 0≤0 * m;omega
 | c :: r,h=>by
  have h1:=zM (r:=r) fun c hc=>h c (List.mem_cons_of_mem _ hc)
  have h2:=h c (List.mem_cons_self ..)
  show c.length+(lens r).sum≤(r.length+1) * m
  rw[Nat.add_mul];omega
theorem Es (K:W.Frag) {N:Addr→Prop}{n:Nat}{H:Hp}:∀{xs:List V}{ts:List Tr},Paired (Rp N n H) xs ts→ts.all kM=true→∃ t:List (List Str),ts=t.map xO∧Paired (fun x r=>∃ b,x=V.ref b∧H b=some (.lst (r.map V.str))∧r.length≤20∧∀ c∈r,c.length≤400) xs t
 | _,_,.nil,_=>⟨[],rfl,.nil⟩
 | x :: xs,u :: ts,.cons a r,h=>by
  rw[List.all_cons,Bool.and_eq_true] at h
  obtain⟨t,rfl,q⟩:=Es K r h.2
  rcases a.gY K with ⟨m,b,ys,cs,_,rfl,rfl,hb,_,_,ps⟩ | ⟨_,_,_,rfl,_⟩
  ·have h1:(decide (1≤cs.length∧cs.length≤20) && cs.all iT)=true:=h.1
   rw[Bool.and_eq_true] at h1
   have h2:=of_decide_eq_true h1.1
   obtain⟨r,rfl,rfl,hl⟩:=yY K ps h1.2
   have e:(leaves r).length=r.length:=List.length_map ..
   exact⟨r :: t,rfl,.cons ⟨b,rfl,hb,by omega,hl⟩ q⟩
  ·cases h.1
theorem Mc (t:List (List Str)):((t.map xO).map IS)=t.map fun r=>(lens r).sum:=by
 rw[List.map_map]
 refine List.map_congr_left fun r _=>Nr r
theorem IU:∀{t:List (List Str)},(∀ r∈t,r.length≤20∧∀ c∈r,c.length≤400)→(t.map fun r=>(lens r).sum).sum≤t.length * 8000
 | [],_=>by show 0≤0 * 8000;omega
 | r :: t,h=>by
  have h1:=IU (t:=t) fun c hc=>h c (List.mem_cons_of_mem _ hc)
  have h2:=h r (List.mem_cons_self ..)
  have h3:=zM h2.2
  show(lens r).sum+(t.map fun r=>(lens r).sum).sum≤(t.length+1) * 8000
  rw[Nat.add_mul];omega
theorem BE {α β:Type}{F:α→β→Prop}{G:β→Prop} (f:∀ a b,F a b→G b):∀{xs:List α}{ys:List β},Paired F xs ys→∀ y∈ys,G y
 | _,_,.nil,_,h=>nomatch h
 | _,_,.cons a r,y,h=>by
  rcases List.mem_cons.mp h with rfl | h
  ·exact f _ _ a
  ·exact BE f r y h
def nN (N:Addr→Prop) (H:Hp) (x:V) (r:List Str):Prop:=∃ b,x=V.ref b∧N b∧H b=some (.lst (r.map V.str))
def RowW (r:List Str):Prop:=r.length≤21∧∀ c∈r,zI c∧c.length≤401
theorem nN.mono {N N':Addr→Prop}{H H':Hp} (s:aG H H') (f:∀ a,N a→N' a) {x:V}{r:List Str} (h:nN N H x r):nN N' H' x r:=let ⟨b,e1,e2,e3⟩:=h;⟨b,e1,f _ e2,s _ _ e3⟩
theorem nN.set {N:Addr→Prop}{H:Hp}{D:Addr}{o:HO} (f:∀ a,N a→a≠D) {x:V}{r:List Str} (h:nN N H x r):nN N (upd H D o) x r:=let ⟨b,e1,e2,e3⟩:=h;⟨b,e1,e2,by rw[aB (f _ e2)];exact e3⟩
theorem CV {a b:Int} (h:0 < b):0≤a % b:=Int.emod_nonneg a (by omega)
theorem CY {a b:Int} (h:0 < b):a % b < b:=Int.emod_lt_of_pos a h
theorem all_congr {α:Type}{f g:α→Bool}:∀{xs:List α},(∀ x∈xs,f x=g x)→xs.all f=xs.all g
 | [],_=>rfl
 | x :: xs,h=>by rw[List.all_cons,List.all_cons,h x (List.mem_cons_self ..),all_congr fun y hy=>h y (List.mem_cons_of_mem _ hy)]
def wC (r:List Str):Bool:=decide (1≤r.length∧r.length≤20)
def CZ (t:List (List Str)):Nat:=(t.map fun r=>(lens r).sum).sum
def Rh (t:List (List Str)):Bool:=decide (t.length≤60) && t.all wC && decide (CZ t≤400)
theorem IV {ns:List Nat}{n:Nat} (h:n∈ns):n≤ns.sum:=by
 induction ns with
 | nil=>cases h
 | cons m ns ih =>
  rw[List.sum_cons]
  rcases List.mem_cons.mp h with rfl | h
  ·omega
  ·have:=ih h;omega
theorem Nt {t:List (List Str)} (hW:∀ r∈t,RowW r):uc (Nq t)=Rh t:=by
 show(decide ((t.map xO).length≤60) && (t.map xO).all kM && decide (((t.map xO).map IS).sum≤400))=_
 rw[Mc,List.length_map]
 show _=(decide (t.length≤60) && t.all wC && decide (CZ t≤400))
 by_cases h:CZ t≤400
 ·have e:(t.map xO).all kM=t.all wC:=by
   rw[List.all_map]
   refine all_congr fun r hr=>?_
   show(decide (1≤(leaves r).length∧(leaves r).length≤20) && (leaves r).all iT)=wC r
   have e2:(leaves r).all iT=true:=by
    rw[List.all_eq_true]
    intro u hu
    obtain⟨z,hz,rfl⟩:=List.mem_map.mp hu
    show(decide (z.length≤400) && textOk z)=true
    have h1:z.length≤(lens r).sum:=IV (List.mem_map.mpr ⟨z,hz,rfl⟩)
    have h2:(lens r).sum≤CZ t:=IV (List.mem_map.mpr ⟨r,hr,rfl⟩)
    rw[decide_eq_true (by omega),KC ((hW r hr).2 z hz).1];rfl
   rw[e2,Bool.and_true]
   unfold leaves wC
   rw[List.length_map]
  rw[e];rfl
 ·have e:decide (CZ t≤400)=false:=decide_eq_false h
  have e':decide ((t.map fun r=>(lens r).sum).sum≤400)=false:=e
  rw[e,e',Bool.and_false,Bool.and_false]
theorem C0 {N:Addr→Prop}{n:Nat}{H:Hp}:∀{r:List Str},(∀ c∈r,c.length≤401)→Paired (Rp N n H) (r.map V.str) (leaves r)
 | [],_=>.nil
 | z :: r,h=>.cons (Rp.leaf (.flat rfl fun z' e=>by cases e;have:=h z (List.mem_cons_self ..);omega)) (C0 fun c hc=>h c (List.mem_cons_of_mem _ hc))
theorem C1 {N:Addr→Prop}{n:Nat}{H:Hp}{x:V}{r:List Str} (w:RowW r) (h:nN N H x r):Rp N (n+1) H x (xO r):=by
 obtain⟨b,rfl,hN,hb⟩:=h
 exact Rp.lst hb hN (by rw[List.length_map];have:=w.1;omega) (C0 fun c hc=>(w.2 c hc).2)
theorem Et {N:Addr→Prop}{n:Nat}{H:Hp}:∀{es:List V}{t:List (List Str)},Paired (nN N H) es t→(∀ r∈t,RowW r)→Paired (Rp N (n+1) H) es (t.map xO)
 | _,_,.nil,_=>.nil
 | x :: es,r :: t,.cons a p,h=>.cons (C1 (h r (List.mem_cons_self ..)) a) (Et p fun r hr=>h r (List.mem_cons_of_mem _ hr))
theorem Eu {x:V}{xs:List V}{lo hi:Option Int} (h:x∈iB xs lo hi):x∈xs:=by
 unfold iB at h
 exact List.mem_of_mem_drop (List.mem_of_mem_take h)
theorem Ew {xs:List V}{lo hi:Option Int}:(iB xs lo hi).length≤xs.length:=by
 unfold iB
 rw[List.length_take,List.length_drop];omega
theorem vn {N:Addr→Prop}{n:Nat}{H:Hp}:∀{xs:List V},(∀ x∈xs,∃ t,Rp N n H x t)→∃ ts,Paired (Rp N n H) xs ts
 | [],_=>⟨[],.nil⟩
 | x :: xs,h=>by
  obtain⟨t,ht⟩:=h x (List.mem_cons_self ..)
  obtain⟨ts,hts⟩:=vn fun y hy=>h y (List.mem_cons_of_mem _ hy)
  exact⟨t :: ts,.cons ht hts⟩
theorem Fw {N:Addr→Prop}{n:Nat}{H:Hp}{as bs:List V}{x:V}{u:Tr} (ha:∀ y∈as,∃ t,Rp N n H y t) (hb:∀ y∈bs,∃ t,Rp N n H y t) (hx:Rp N n H x u) (hu:kM u=false):∃ ts,Paired (Rp N n H) (as++[x]++bs) ts∧uc (.list ts)=false:=by
 obtain⟨ta,qa⟩:=vn ha
 obtain⟨tb,qb⟩:=vn hb
 refine⟨ta++[u]++tb,dW (fu qa hx) qb,?_⟩
 show(decide (_≤60) && (ta++[u]++tb).all kM && _)=false
 have e:(ta++[u]++tb).all kM=false:=by
  rw[List.all_append,List.all_append]
  show((ta.all kM && (kM u && true)) && tb.all kM)=false
  rw[hu,Bool.false_and,Bool.and_false,Bool.false_and]
 rw[e,Bool.and_false,Bool.false_and]
theorem yZ {N:Addr→Prop}{n:Nat}{H:Hp}{v:V} (h:tE v=true) (hs:∀ z,v=.str z→z.length≤10000):Rp N n H v (.leaf v):=Rp.leaf (.flat h hs)
def wrF (r c:Int):List (Str×V):=kX ("cell":Str) (.int c) [(Str.ofString "row",.int r)]
theorem IW {H:Hp}{x:V}{r:List Str} (h:p9 H x r):nN (fun _=>True) H x r:=let ⟨a,e,f⟩:=h;⟨a,e,trivial,f⟩
theorem TabOk.w {t:List (List Str)} (g:TabOk t):∀ r∈t,RowW r:=fun r hr=>⟨by have:=(g.rows r hr).hi;omega,fun c hc=>⟨(g.rows r hr).ok c hc,by have h1:=BD hc;have h2:=En hr;have h3:=g.sum;omega⟩⟩
theorem TabOk.q {t:List (List Str)} (g:TabOk t):uc (Nq t)=true:=by
 rw[Nt g.w]
 show(decide (t.length≤60) && t.all wC && decide (CZ t≤400))=true
 have h1:t.all wC=true:=by
  rw[List.all_eq_true]
  exact fun r hr=>decide_eq_true ⟨(g.rows r hr).lo,(g.rows r hr).hi⟩
 rw[h1,decide_eq_true g.n,decide_eq_true (show CZ t≤400 from g.sum)];rfl
theorem Nu {H:Hp}{a:Addr}{xs:List V}{t:List (List Str)} (ha:H a=some (.lst xs)) (p:Paired (p9 H) xs t) (g:TabOk t):Rp (fun _=>True) 2 H (.ref a) (Nq t) :=
 Rp.lst ha trivial (by have:=p.length;have:=g.n;omega) (Et (n:=0) (Paired.imp' (fun _ _ q=>IW q) p) g.w)
theorem Me:∀ c∈[Str.ofString "a",Str.ofString "b"],zI c∧c.length≤401:=by
 intro c hc
 simp only[List.mem_cons,List.not_mem_nil,or_false] at hc
 rcases hc with rfl | rfl
 ·refine⟨?_,by decide⟩
  show ∀ c∈_,c=10∨Pn c
  decide +kernel
 ·refine⟨?_,by decide⟩
  show ∀ c∈_,c=10∨Pn c
  decide +kernel
theorem mL:aH ["sign", "number"] ["sign"] (av dD):=⟨rfl,rfl,rfl,by decide +kernel,rfl,by decide +kernel,by decide +kernel⟩
theorem o9:aH ["thing", "least", "most"] ["thing", "least", "most"] (av bL):=⟨rfl,rfl,rfl,by decide +kernel,rfl,by decide +kernel,by decide +kernel⟩
theorem je:aH ["self", "parts", "quotes", "frees", "twin", "wide", "thin", "stray", "truth"] ["self", "parts", "quotes", "frees", "twin", "wide", "thin", "stray"] (av aY):=⟨rfl,rfl,rfl,by decide +kernel,rfl,by decide +kernel,by decide +kernel⟩
theorem ud:aH ["self"] ["self"] (av fh):=⟨rfl,rfl,rfl,by decide +kernel,rfl,by decide +kernel,by decide +kernel⟩
theorem xP:aH ["told"] ["told"] (av gS):=⟨rfl,rfl,rfl,by decide +kernel,rfl,by decide +kernel,by decide +kernel⟩
theorem sj:aH ["self", "dialect"] ["self", "dialect"] (av d9):=⟨rfl,rfl,rfl,by decide +kernel,rfl,by decide +kernel,by decide +kernel⟩
theorem qd:aH ["self", "dialect", "tokens"] ["self", "dialect", "tokens"] (av cM):=⟨rfl,rfl,rfl,by decide +kernel,rfl,by decide +kernel,by decide +kernel⟩
theorem vo:aH ["text", "found", "sign"] ["text"] (av vW):=⟨rfl,rfl,rfl,by decide +kernel,rfl,by decide +kernel,by decide +kernel⟩
theorem qe:aH ["self"] ["self"] (av cN):=⟨rfl,rfl,rfl,by decide +kernel,rfl,by decide +kernel,by decide +kernel⟩
theorem qf:aH ["self", "dialect", "tokens"] ["self", "dialect", "tokens"] (av cO):=⟨rfl,rfl,rfl,by decide +kernel,rfl,by decide +kernel,by decide +kernel⟩
theorem m6:aH ["self", "row", "cell"] ["self", "row", "cell"] (av bS):=⟨rfl,rfl,rfl,by decide +kernel,rfl,by decide +kernel,by decide +kernel⟩
theorem qg:aH ["text"] ["text"] (av bY):=⟨rfl,rfl,rfl,by decide +kernel,rfl,by decide +kernel,by decide +kernel⟩
theorem C2:aH ["thing"] ["thing"] (av lu):=⟨rfl,rfl,rfl,by decide +kernel,rfl,by decide +kernel,by decide +kernel⟩
theorem Fx:aH ["thing"] ["thing"] (av ly):=⟨rfl,rfl,rfl,by decide +kernel,rfl,by decide +kernel,by decide +kernel⟩
theorem uf:aH ["row"] ["row"] (av dF):=⟨rfl,rfl,rfl,by decide +kernel,rfl,by decide +kernel,by decide +kernel⟩
theorem BF:aH ["thing"] ["thing"] (av gu):=⟨rfl,rfl,rfl,by decide +kernel,rfl,by decide +kernel,by decide +kernel⟩
theorem fL:aH ["row", "tokens", "place", "cell"] ["row"] (av cJ):=⟨rfl,rfl,rfl,by decide +kernel,rfl,by decide +kernel,by decide +kernel⟩
theorem wD:aH ["thing"] ["thing"] (av fS):=⟨rfl,rfl,rfl,by decide +kernel,rfl,by decide +kernel,by decide +kernel⟩
theorem lV:aH ["table", "tokens", "row"] ["table"] (av iO):=⟨rfl,rfl,rfl,by decide +kernel,rfl,by decide +kernel,by decide +kernel⟩
theorem mO:aH ["tokens", "count", "kind", "sign", "token"] ["tokens", "count", "kind", "sign"] (av fj):=⟨rfl,rfl,rfl,by decide +kernel,rfl,by decide +kernel,by decide +kernel⟩
theorem C3:aH ["dialect", "state"] ["dialect", "state"] (av lz):=⟨rfl,rfl,rfl,by decide +kernel,rfl,by decide +kernel,by decide +kernel⟩
theorem nO:aH ["dialect", "state", "sign"] ["dialect", "state", "sign"] (av cj):=⟨rfl,rfl,rfl,by decide +kernel,rfl,by decide +kernel,by decide +kernel⟩
theorem sq:aH ["dialect", "sign"] ["dialect", "sign"] (av eg):=⟨rfl,rfl,rfl,by decide +kernel,rfl,by decide +kernel,by decide +kernel⟩
theorem wF:aH ["dialect", "quote", "sign"] ["dialect", "quote", "sign"] (av fT):=⟨rfl,rfl,rfl,by decide +kernel,rfl,by decide +kernel,by decide +kernel⟩
theorem wG:aH ["dialect", "sign"] ["dialect", "sign"] (av fV):=⟨rfl,rfl,rfl,by decide +kernel,rfl,by decide +kernel,by decide +kernel⟩
theorem sr:aH ["dialect", "quote", "sign"] ["dialect", "quote", "sign"] (av eo):=⟨rfl,rfl,rfl,by decide +kernel,rfl,by decide +kernel,by decide +kernel⟩
theorem xQ:aH ["dialect", "quote", "sign"] ["dialect", "quote", "sign"] (av gT):=⟨rfl,rfl,rfl,by decide +kernel,rfl,by decide +kernel,by decide +kernel⟩
theorem lW:aH ["self", "state", "sign", "word", "quote"] ["self", "state", "sign"] (av iP):=⟨rfl,rfl,rfl,by decide +kernel,rfl,by decide +kernel,by decide +kernel⟩
theorem kh:aH ["self", "state", "sign", "step"] ["self", "state", "sign"] (av dG):=⟨rfl,rfl,rfl,by decide +kernel,rfl,by decide +kernel,by decide +kernel⟩
theorem eO:aH ["self", "mark", "sign", "step", "count"] ["self", "mark", "sign"] (av bT):=⟨rfl,rfl,rfl,by decide +kernel,rfl,by decide +kernel,by decide +kernel⟩
theorem lX:aH ["self", "mark"] ["self", "mark"] (av bI):=⟨rfl,rfl,rfl,by decide +kernel,rfl,by decide +kernel,by decide +kernel⟩
theorem iZ:aH ["self", "place", "signs", "found"] ["self", "place"] (av cE):=⟨rfl,rfl,rfl,by decide +kernel,rfl,by decide +kernel,by decide +kernel⟩
theorem qJ:aH ["self", "place"] ["self", "place"] (av dH):=⟨rfl,rfl,rfl,by decide +kernel,rfl,by decide +kernel,by decide +kernel⟩
theorem gH:aH ["first", "searched", "most", "came", "edge", "place", "farther", "lead"] ["first", "searched", "most"] (av fk):=⟨rfl,rfl,rfl,by decide +kernel,rfl,by decide +kernel,by decide +kernel⟩
theorem lY:aH ["came", "place", "signs", "link"] ["came", "place"] (av lA):=⟨rfl,rfl,rfl,by decide +kernel,rfl,by decide +kernel,by decide +kernel⟩
theorem C4:aH ["tokens", "count", "row", "cell", "token"] ["tokens", "count"] (av lB):=⟨rfl,rfl,rfl,by decide +kernel,rfl,by decide +kernel,by decide +kernel⟩
theorem ki:aH ["dialect", "table", "tokens", "found", "came", "lacking"] ["dialect", "table"] (av jN):=⟨rfl,rfl,rfl,by decide +kernel,rfl,by decide +kernel,by decide +kernel⟩
theorem ug:aH ["_law_script", "_law_k"] ["_law_script", "_law_k"] (av fm):=⟨rfl,rfl,rfl,by decide +kernel,rfl,by decide +kernel,by decide +kernel⟩
theorem kN:aH ["_law_number_here", "_law_salt", "_law_one", "_law_two"] ["_law_number_here", "_law_salt"] (av gU):=⟨rfl,rfl,rfl,by decide +kernel,rfl,by decide +kernel,by decide +kernel⟩
theorem jV:aH ["_law_cell", "_law_salt", "_law_number_here", "_law_high"] ["_law_cell", "_law_salt"] (av fW):=⟨rfl,rfl,rfl,by decide +kernel,rfl,by decide +kernel,by decide +kernel⟩
theorem fM:aH ["_law_number_here", "_law_many", "_law_menu", "_law_found", "_law_k", "_law_sign"] ["_law_number_here", "_law_many", "_law_menu"] (av iQ):=⟨rfl,rfl,rfl,by decide +kernel,rfl,by decide +kernel,by decide +kernel⟩
theorem pH:aH ["_law_way", "_law_every"] ["_law_way"] (av gW):=⟨rfl,rfl,rfl,by decide +kernel,rfl,by decide +kernel,by decide +kernel⟩
theorem bB:aH ["_law_cell", "_law_number_here", "_law_flags", "_law_sizes", "_law_menus_here", "_law_parts", "_law_quotes", "_law_frees", "_law_truths"] ["_law_cell"] (av iR):=⟨rfl,rfl,rfl,by decide +kernel,rfl,by decide +kernel,by decide +kernel⟩
theorem zN:aH ["_law_told_here"] ["_law_told_here"] (av iS):=⟨rfl,rfl,rfl,by decide +kernel,rfl,by decide +kernel,by decide +kernel⟩
theorem eN:aH ["_law_cell", "_law_number_here", "_law_rows", "_law_some_here", "_law_at", "_law_more"] ["_law_cell"] (av dU):=⟨rfl,rfl,rfl,by decide +kernel,rfl,by decide +kernel,by decide +kernel⟩
theorem gZ:aH ["_law_thing"] ["_law_thing"] (av bP):=⟨rfl,rfl,rfl,by decide +kernel,rfl,by decide +kernel,by decide +kernel⟩
theorem i0:aH ["_law_made_here", "_law_thing", "_law_way", "_law_kept", "e"] ["_law_made_here", "_law_thing", "_law_way"] (av fq):=⟨rfl,rfl,rfl,by decide +kernel,rfl,by decide +kernel,by decide +kernel⟩
theorem wH:aH ["_law_script", "_law_made_here", "_law_cell", "_law_thing", "_law_way"] ["_law_script"] (av tH):=⟨rfl,rfl,rfl,by decide +kernel,rfl,by decide +kernel,by decide +kernel⟩
structure Txt (K:W.Frag) (mg:Str→Option Value) (az:Nat→Addr) (aL:Nat→FuncData) (wI:Nat→Str):Prop where
 jW:gE K "is_printable" "is_printable" dD (az 0) (aL 0)
 nP:Binds K (aL 0) ["sign"] []
 nQ:mg "is_printable" = some (.ref (az 0))
 dY:gE K "are_unlike_signs" "are_unlike_signs" bL (az 1) (aL 1)
 gw:Binds K (aL 1) ["thing", "least", "most"] []
 gy:mg "are_unlike_signs" = some (.ref (az 1))
 qh:HE K "__init__" "Dialect.__init__" aY (az 2) (aL 2) (.ref (az 68))
 jX:Binds K (aL 2) ["self", "parts", "quotes", "frees", "twin", "wide", "thin", "stray"] []
 wJ:gE K "told" "Dialect.told" fh (az 3) (aL 3)
 wK:Binds K (aL 3) ["self"] []
 wL:Meth K (az 49) "told" (az 3)
 qK:gE K "dialect_of" "dialect_of" gS (az 4) (aL 4)
 zO:Binds K (aL 4) ["told"] []
 zP:mg "dialect_of" = some (.ref (az 4))
 uh:gE K "__init__" "Turn.__init__" d9 (az 5) (aL 5)
 um:Binds K (aL 5) ["self", "dialect"] []
 qL:gE K "__init__" "Marker.__init__" cM (az 6) (aL 6)
 qM:Binds K (aL 6) ["self", "dialect", "tokens"] []
 C5:gE K "once" "once" vW (az 7) (aL 7)
 IX:Binds K (aL 7) ["text"] []
 IY:mg "once" = some (.ref (az 7))
 qN:gE K "special" "Dialect.special" cN (az 8) (aL 8)
 qO:Binds K (aL 8) ["self"] []
 qP:Meth K (az 49) "special" (az 8)
 qQ:gE K "__init__" "Writer.__init__" cO (az 9) (aL 9)
 qR:Binds K (aL 9) ["self", "dialect", "tokens"] []
 nR:gE K "__init__" "NoWriting.__init__" bS (az 10) (aL 10)
 BG:Binds K (aL 10) ["self", "row", "cell"] []
 Ey:gE K "__init__" "Broken.__init__" eX (az 11) (aL 11)
 Ez:Binds K (aL 11) ["self", "row", "place", "word"] []
 kj:gE K "has_signs_alone" "has_signs_alone" bY (az 12) (aL 12)
 qS:Binds K (aL 12) ["text"] []
 qT:mg "has_signs_alone" = some (.ref (az 12))
 za:gE K "is_cell" "is_cell" lu (az 13) (aL 13)
 Fy:Binds K (aL 13) ["thing"] []
 Fz:mg "is_cell" = some (.ref (az 13))
 BH:gE K "is_row" "is_row" ly (az 14) (aL 14)
 IZ:Binds K (aL 14) ["thing"] []
 Ja:mg "is_row" = some (.ref (az 14))
 nS:gE K "signs_in_row" "signs_in_row" dF (az 15) (aL 15)
 wM:Binds K (aL 15) ["row"] []
 wN:mg "signs_in_row" = some (.ref (az 15))
 wO:gE K "is_table" "is_table" gu (az 16) (aL 16)
 C6:Binds K (aL 16) ["thing"] []
 C7:mg "is_table" = some (.ref (az 16))
 mP:gE K "tokens_of_row" "tokens_of_row" cJ (az 17) (aL 17)
 uq:Binds K (aL 17) ["row"] []
 ur:mg "tokens_of_row" = some (.ref (az 17))
 pI:gE K "check_table" "check_table" fS (az 18) (aL 18)
 xR:Binds K (aL 18) ["thing"] []
 xS:mg "check_table" = some (.ref (az 18))
 ko:gE K "tokens_of" "tokens_of" iO (az 19) (aL 19)
 nU:Binds K (aL 19) ["table"] []
 nV:mg "tokens_of" = some (.ref (az 19))
 nW:gE K "count_behind" "count_behind" fj (az 20) (aL 20)
 wQ:Binds K (aL 20) ["tokens", "count", "kind", "sign"] []
 wR:mg "count_behind" = some (.ref (az 20))
 zb:gE K "is_live" "is_live" lz (az 21) (aL 21)
 FA:Binds K (aL 21) ["dialect", "state"] []
 FD:mg "is_live" = some (.ref (az 21))
 jf:gE K "step_at_beginning" "step_at_beginning" cj (az 22) (aL 22)
 pe:Binds K (aL 22) ["dialect", "state", "sign"] []
 pA:mg "step_at_beginning" = some (.ref (az 22))
 mQ:gE K "step_in_plain" "step_in_plain" eg (az 23) (aL 23)
 uu:Binds K (aL 23) ["dialect", "sign"] []
 uv:mg "step_in_plain" = some (.ref (az 23))
 pJ:gE K "step_within" "step_within" fT (az 24) (aL 24)
 xT:Binds K (aL 24) ["dialect", "quote", "sign"] []
 xU:mg "step_within" = some (.ref (az 24))
 kO:gE K "step_behind" "step_behind" fV (az 25) (aL 25)
 pK:Binds K (aL 25) ["dialect", "sign"] []
 pL:mg "step_behind" = some (.ref (az 25))
 mR:gE K "step_in_doubt" "step_in_doubt" eo (az 26) (aL 26)
 uw:Binds K (aL 26) ["dialect", "quote", "sign"] []
 ux:mg "step_in_doubt" = some (.ref (az 26))
 qU:gE K "step_freed" "step_freed" gT (az 27) (aL 27)
 zQ:Binds K (aL 27) ["dialect", "quote", "sign"] []
 zR:mg "step_freed" = some (.ref (az 27))
 BI:gE K "step" "Turn.step" iP (az 28) (aL 28)
 BJ:Binds K (aL 28) ["self", "state", "sign"] []
 BK:Meth K (az 50) "step" (az 28)
 su:gE K "live_step" "Turn.live_step" dG (az 29) (aL 29)
 sy:Binds K (aL 29) ["self", "state", "sign"] []
 sC:Meth K (az 50) "live_step" (az 29)
 nX:gE K "mark_behind" "Marker.mark_behind" bT (az 30) (aL 30)
 nY:Binds K (aL 30) ["self", "mark", "sign"] []
 nZ:Meth K (az 51) "mark_behind" (az 30)
 m7:gE K "has_read_all" "Marker.has_read_all" bI (az 31) (aL 31)
 m8:Binds K (aL 31) ["self", "mark"] []
 m9:Meth K (az 51) "has_read_all" (az 31)
 wU:gE K "leads" "Writer.leads" cE (az 32) (aL 32)
 wV:Binds K (aL 32) ["self", "place"] []
 wW:Meth K (az 52) "leads" (az 32)
 sD:gE K "is_good" "Writer.is_good" dH (az 33) (aL 33)
 sE:Binds K (aL 33) ["self", "place"] []
 sF:Meth K (az 52) "is_good" (az 33)
 BL:HE K "search" "search" fk (az 34) (aL 34) (.ref (az 69))
 Ri:Binds K (aL 34) ["first", "searched", "most"] []
 Jb:mg "search" = some (.ref (az 34))
 zc:gE K "text_to" "text_to" lA (az 35) (aL 35)
 FE:Binds K (aL 35) ["came", "place"] []
 FF:mg "text_to" = some (.ref (az 35))
 FG:gE K "cell_at" "cell_at" lB (az 36) (aL 36)
 Pq:Binds K (aL 36) ["tokens", "count"] []
 Pr:mg "cell_at" = some (.ref (az 36))
 qi:gE K "shortest" "shortest" jN (az 37) (aL 37)
 wX:Binds K (aL 37) ["dialect", "table"] []
 wY:mg "shortest" = some (.ref (az 37))
 jY:gE K "_law_cell_at" "_law_cell_at" fm (az 38) (aL 38)
 n5:Binds K (aL 38) ["_law_script", "_law_k"] []
 n6:mg "_law_cell_at" = some (.ref (az 38))
 jn:gE K "_law_mixed" "_law_mixed" gU (az 39) (aL 39)
 lZ:Binds K (aL 39) ["_law_number_here", "_law_salt"] []
 mh:mg "_law_mixed" = some (.ref (az 39))
 kP:gE K "_law_number" "_law_number" fW (az 40) (aL 40)
 pM:Binds K (aL 40) ["_law_cell", "_law_salt"] []
 pN:mg "_law_number" = some (.ref (az 40))
 kq:gE K "_law_some" "_law_some" iQ (az 41) (aL 41)
 n8:Binds K (aL 41) ["_law_number_here", "_law_many", "_law_menu"] []
 oh:mg "_law_some" = some (.ref (az 41))
 qV:gE K "_law_menus" "_law_menus" gW (az 42) (aL 42)
 zS:Binds K (aL 42) ["_law_way"] []
 zU:mg "_law_menus" = some (.ref (az 42))
 tN:gE K "_law_told" "_law_told" iR (az 43) (aL 43)
 BN:Binds K (aL 43) ["_law_cell"] []
 BO:mg "_law_told" = some (.ref (az 43))
 tO:gE K "_law_made" "_law_made" iS (az 44) (aL 44)
 BP:Binds K (aL 44) ["_law_told_here"] []
 BQ:mg "_law_made" = some (.ref (az 44))
 qW:gE K "_law_wrong" "_law_wrong" dU (az 45) (aL 45)
 zV:Binds K (aL 45) ["_law_cell"] []
 zW:mg "_law_wrong" = some (.ref (az 45))
 bQ:gE K "_law_copied" "_law_copied" bP (az 46) (aL 46)
 fZ:Binds K (aL 46) ["_law_thing"] []
 f7:mg "_law_copied" = some (.ref (az 46))
 oi:gE K "_law_refused" "_law_refused" fq (az 47) (aL 47)
 wZ:Binds K (aL 47) ["_law_made_here", "_law_thing", "_law_way"] []
 xg:mg "_law_refused" = some (.ref (az 47))
 Rj:gE K "law" "law" tH (az 48) (aL 48)
 aaU:Binds K (aL 48) ["_law_script"] []
 aaV:mg "law" = some (.ref (az 48))
 aF:D7 K (az 49)
 zd:mg "Dialect" = some (.ref (az 49))
 zf:Mk K (az 49) (az 2)
 bG:dS K (az 49) "parts"
 bM:dS K (az 49) "quotes"
 bC:dS K (az 49) "frees"
 fz:dS K (az 49) "twin"
 dI:dS K (az 49) "wide"
 dJ:dS K (az 49) "thin"
 eB:dS K (az 49) "stray"
 iG:D7 K (az 50)
 Nv:mg "Turn" = some (.ref (az 50))
 Nx:Mk K (az 50) (az 5)
 bA:dS K (az 50) "dialect"
 iE:D7 K (az 51)
 Jc:mg "Marker" = some (.ref (az 51))
 Jd:Mk K (az 51) (az 6)
 iH:dS K (az 51) "turn"
 eF:dS K (az 51) "tokens"
 fN:D7 K (az 52)
 Je:mg "Writer" = some (.ref (az 52))
 Jf:Mk K (az 52) (az 9)
 eG:dS K (az 52) "marker"
 gc:dS K (az 52) "tokens"
 g5:dS K (az 52) "usual"
 tP:∃ ds,Vals [V.non] ds∧Binds K (aL 34) ["first", "searched", "most"] ds
 oj:mg "DialectError" = some (.ref (az 53))
 bh:jM K (az 53) (az 54) nF none
 uy:XIn K (az 53)
 Jg:mg "NoText" = some (.ref (az 55))
 Rk:jM K (az 55) (az 56) (.ref (az 53) :: nF) none
 zg:mg "NoTable" = some (.ref (az 57))
 fO:jM K (az 57) (az 58) (.ref (az 53) :: nF) none
 BR:mg "NoDialect" = some (.ref (az 59))
 Mf:jM K (az 59) (az 60) (.ref (az 53) :: nF) none
 Jh:mg "Broken" = some (.ref (az 61))
 Rl:jM K (az 61) (az 62) (.ref (az 53) :: nF) (some (.ref (az 11)))
 Ny:W.keepIn K (.ref (az 61))=true
 Pu:∃ oI:Obj,K.lookup (az 11)=some oI∧oI.cls=.type "function"
 JC:Jz K (az 61) "row"
 GV:Jz K (az 61) "place"
 Ji:Jz K (az 61) "word"
 BS:mg "NoWriting" = some (.ref (az 63))
 om:jM K (az 63) (az 64) (.ref (az 53) :: nF) (some (.ref (az 10)))
 JD:W.keepIn K (.ref (az 63))=true
 KG:∃ oI:Obj,K.lookup (az 10)=some oI∧oI.cls=.type "function"
 sH:Jz K (az 63) "row"
 qX:Jz K (az 63) "cell"
 iF:Q2 K (az 57)
 Mg:W.keepIn K (.ref (az 57))=true
 mj:W.kitOne K (.ref (az 57)) (.type "ValueError")=some true
 gI:W.kitOne K (.ref (az 57)) (.ref (az 53))=some true
 eY:W.kitOne K (.ref (az 57)) (.ref (az 55))=some false
 dZ:W.kitOne K (.ref (az 57)) (.ref (az 57))=some true
 cP:W.kitOne K (.ref (az 57)) (.ref (az 59))=some false
 eZ:W.kitOne K (.ref (az 57)) (.ref (az 61))=some false
 cQ:W.kitOne K (.ref (az 57)) (.ref (az 63))=some false
 xV:mg "ValueError" = none
 zX:mg "all" = none
 KH:mg "bool" = none
 zY:mg "enumerate" = none
 aW:mg "isinstance" = none
 gA:mg "len" = none
 oS:mg "list" = none
 Nz:mg "ord" = none
 xh:mg "range" = none
 BU:mg "reversed" = none
 Jj:mg "str" = none
 Jk:mg "sum" = none
 BV:mg "tuple" = none
 mq:∃ t,mg "LINE" = some (.str (wI 0) t)
 jo:(wI 0)=Str.ofString "\n"
 zZ:∃ t,mg "MOST_ROWS" = some (.int 60 t)
 xW:∃ t,mg "MOST_CELLS" = some (.int 20 t)
 g6:∃ t,mg "MOST_SIGNS_IN_CELLS" = some (.int 400 t)
 KI:mg "PART" = some (.ref (az 65))
 KJ:∃(o:Obj) (its:Array Value) (n:Nat),K.lookup (az 65)=some o∧o.cls=.type "tuple"∧o.data=.seq its n∧its.size≤sizeLine∧Vals [.str ("part":Str),.str ("":Str)] its.toList
 NB:mg "END" = some (.ref (az 66))
 NC:∃(o:Obj) (its:Array Value) (n:Nat),K.lookup (az 66)=some o∧o.cls=.type "tuple"∧o.data=.seq its n∧its.size≤sizeLine∧Vals [.str ("end":Str),.str ("":Str)] its.toList
 oq:mg "START" = some (.ref (az 67))
 ou:∃(o:Obj) (its:Array Value) (n:Nat),K.lookup (az 67)=some o∧o.cls=.type "tuple"∧o.data=.seq its n∧its.size≤sizeLine∧Vals [.str ("row":Str),.str ("":Str)] its.toList
section
variable {P:Program}{w:World}{K:W.Frag}{mg:Str→Option Value}{base:Heap}{az:Nat→Addr}{aL:Nat→FuncData}{wI:Nat→Str}
def i7:Sp:=fun vs H Q _=>∃ c:Nat,vs=[.str (sg c)]∧Q (.bl (decide (Pn c))) H
section
variable (T:Txt K mg az aL wI)
include T
theorem mS:aI P w K mg base bN 1 (az 0) (aL 0) ["sign"] i7:=by
 refine T.jW.ok mL (fun vs H Q E h=>?_) (fun cdv A outer s H vs Q E hr h=>?_)
 ·obtain⟨c,rfl,_⟩:=h;rfl
 ·have hu:=aV hr
  have iD:=hr.aN
  obtain⟨c,rfl,k⟩:=h
  refine⟨_,(ao (lg 1 mL.nd (nH Hj T.Nz (af (pv 0) aj ak)) (hs:=fG))
   (aq (aC (zq (Iw LG (pv 1) ay) (zq (Iw LF (pv 1) ay) (zp (Iw D4 (pv 1) ay))))))),?_⟩
  refine⟨_,rfl,_,rfl,rfl,?_⟩
  refine⟨_,rfl,_,_,rfl,rfl,_,rfl,cu (fun h1=>?_) (fun h1=>?_)⟩
  ·have h1:(32:Int)≤((c:Nat):Int):=of_decide_eq_true h1
   refine⟨_,rfl,_,_,rfl,rfl,_,rfl,cu (fun h2=>?_) (fun h2=>?_)⟩
   ·have h2:((c:Nat):Int)≤126:=of_decide_eq_true h2
    refine⟨_,rfl,rfl,?_⟩
    have e:(!decide (V.int ((c:Nat):Int)=V.int 37))=decide (Pn c):=by
     by_cases h3:c=37
     ·subst h3;decide
     ·have n1:¬(V.int ((c:Nat):Int)=V.int 37):=fun z=>h3 (by injection z with z;omega)
      rw[decide_eq_false n1,decide_eq_true (show Pn c from ⟨by omega,by omega,h3⟩)];rfl
    show Q (.bl (!decide (V.int ((c:Nat):Int)=V.int 37))) H
    rw[e];exact k
   ·have e:decide (((c:Nat):Int)≤126)=decide (Pn c):=by
     have n1:¬((c:Nat):Int)≤126:=fun z=>h2 (decide_eq_true z)
     rw[decide_eq_false n1,decide_eq_false (fun z:Pn c=>n1 (by have:=z.2.1;omega))]
    rw[←e,show decide (((c:Nat):Int)≤126)=false from Bool.eq_false_iff.mpr h2] at k
    exact k
  ·have e:decide ((32:Int)≤((c:Nat):Int))=decide (Pn c):=by
    have n1:¬(32:Int)≤((c:Nat):Int):=fun z=>h1 (decide_eq_true z)
    rw[decide_eq_false n1,decide_eq_false (fun z:Pn c=>n1 (by have:=z.1;omega))]
   rw[←e,show decide ((32:Int)≤((c:Nat):Int))=false from Bool.eq_false_iff.mpr h1] at k
   exact k
def jg:Sp:=fun vs H Q _=>∃(z:Str) (lo hi:Int),vs=[.str z,.int lo,.int hi]∧Sg z∧lo≤z.length∧(z.length:Int)≤hi∧z.length≤1000∧∀ H',aG H H'→Q (.bl true) H'
theorem pB:aI P w K mg base bN 2 (az 1) (aL 1) ["thing", "least", "most"] jg:=by
 have jZ:aI P w K mg base bN 1 (az 0) (aL 0) ["sign"] i7:=mS T
 refine T.dY.ok o9 (fun vs H Q E h=>?_) (fun cdv A outer s H vs Q E hr h=>?_)
 ·obtain⟨z,lo,hi,rfl,_⟩:=h;rfl
 ·have hu:=aV hr
  have iD:=hr.aN
  obtain⟨z,lo,hi,rfl,g,hlo,hhi,hz,k⟩:=h
  have KL:z.length≤sizeLine:=Nat.le_trans hz (by decide)
  refine⟨_,(ao (aR (PW.pt (nk (fP (bZ (nH (cy K rfl) T.aW (af (pv 0) (af (Iv "str" T.Jj) aj ak) ak)))) (nk (jd D5 (nH fE T.gA (af (pv 0) aj ak)) (pv 1)) (lM (jd vA (nH fE T.gA (af (pv 0) aj ak)) (pv 2)))))) (aq (aC jF)) aE)
   (aq (aC (nH (oR K rfl rfl) T.zX (af (fF rfl (show aX ["thing", "least", "most"] (av bL) ["sign", "thing"] 1 [0] _ from CK) (vH (pv 0)) (fun _ _ _ _=>(pG 0 (show(["sign", "thing"]:List Str).Nodup by decide +kernel))) (fun _ _ _ _=>eV) (fun _ _ _ _=>(zq (kc jZ hr T.nQ T.jW.kp T.nP (af (pv 0) aj ak)) (zp (Iw cI (nC K rfl PySem.F.plainAttrs_str PySem.F.slot_str_count PySem.F.type_str_count HG (pv 1) (af (pv 0) aj ak)) ay))))) aj dR))))),?_⟩
  refine⟨_,rfl,_,_,_,true,rfl,.str _,.inl ⟨_,rfl,rfl⟩,true,rfl,gK ?_⟩
  refine⟨_,rfl,z,rfl,KL,_,rfl,_,_,rfl,rfl,_,rfl,LZ (by omega) ?_⟩
  refine⟨_,rfl,z,rfl,KL,_,rfl,_,_,rfl,rfl,_,rfl,LZ (by omega) ?_⟩
  refine⟨_,rfl,z,rfl,fun D hD=>?_⟩
  have hsz:z.cps.toList.length=z.length:=by rw[Array.length_toList];rfl
  refine qB (fun i ys τ H2=>(∃ v,τ=[v,some (.str z)])∧aG H H2∧H2 D=some (.lst ys)∧ys=(List.replicate i true).map V.bl) ⟨⟨_,rfl⟩,au hD,ah,rfl⟩ (fun i ys τ H2 _ p=>p.2.2.1) ?_ ?_
  ·rintro i c ys τ H2 hi ⟨⟨v,rfl⟩,s2,hl,rfl⟩
   have hc:c∈z.cps.toList:=List.mem_of_getElem? hi
   have hil:i < z.cps.toList.length:=(List.getElem?_eq_some_iff.mp hi).1
   refine rV ?_
   refine⟨_,rfl,c,rfl,_,rfl,yR (decide_eq_true (g.pr c hc)) ?_⟩
   refine⟨_,rfl,rfl,_,rfl,z,c,rfl,rfl,rfl,?_⟩
   have e:decide (V.int (PyProof.Rows.cnt c z.cps.toList)=V.int 1)=true:=by rw[Ed g.nd hc];exact decide_eq_true rfl
   rw[e]
   refine⟨hl,?_,⟨_,rfl⟩,aZ hD s2,ah,?_⟩
   ·rw[List.length_map,List.length_replicate]
    exact Nat.lt_of_lt_of_le (show i < 1001 by omega) (by decide)
   ·rw[List.replicate_succ',List.map_append];rfl
  ·rintro ys τ H2 ⟨⟨v,rfl⟩,s2,hl,rfl⟩
   refine⟨D,List.replicate _ true,rfl,bE.of hl,?_⟩
   have e:(List.replicate z.cps.toList.length true).all id=true:=by
    rw[List.all_eq_true]
    intro b hb
    exact(List.mem_replicate.mp hb).2
   rw[e]
   exact k H2 s2
def fQ (C:Addr):Sp:=fun vs H Q _=>∃(x dx:Addr) (p q f:Str) (b1 b2 b3 b4:Bool),vs=.ref x :: tK p q f b1 b2 b3 b4∧H x=some (.ins C dx [])∧Gd p q f∧∀ H',H' x=some (.ins C dx (zF p q f b1 b2 b3 b4))→(∀ b o,H b=some o→b≠x→H' b=some o)→Q .non H'
theorem jh:aI P w K mg base bN 3 (az 2) (aL 2) ["self", "parts", "quotes", "frees", "twin", "wide", "thin", "stray"] (fQ (az 49)):=by
 have gB:aI P w K mg base bN 2 (az 1) (aL 1) ["thing", "least", "most"] jg:=pB T
 refine T.qh.ok je (fun vs H Q E h=>?_) (fun cdv A outer s H vs Q E hr h=>?_)
 ·obtain⟨x,dx,p,q,f,b1,b2,b3,b4,rfl,_⟩:=h;rfl
 ·have hu:=aV hr
  have iD:=hr.aN
  obtain⟨x,dx,p,q,f,b1,b2,b3,b4,rfl,hx,g,k⟩:=h
  have hp1:=g.p1;have hp3:=g.p3;have hq2:=g.q2;have hf2:=g.f2
  refine⟨_,(ao (aR (fP (bZ (kc gB hr T.gy T.dY.kp T.gw (af (pv 1) (af ay (af ay aj ai) ai) ak)))) (aq jG) aE)
   (ao (aR (fP (bZ (kc gB hr T.gy T.dY.kp T.gw (af (pv 2) (af ay (af ay aj ai) ai) ak)))) (aq jG) aE)
   (ao (aR (fP (bZ (kc gB hr T.gy T.dY.kp T.gw (af (pv 3) (af ay (af ay aj ai) ai) ak)))) (aq jG) aE)
   (ao (kJ PassesOwn.never rfl (J5 K rfl (aJ (af (pv 4) (af (pv 5) (af (pv 6) (af (pv 7) aj ak) ak) ak) ak))) (pG 8 je.nd)
   (aq (aR (fP (bZ (nH (cy K rfl) T.aW (af (pv 8) (af (Iv "bool" T.KH) aj ak) ak)))) (aq jG) aE)))
   (ao (iA (pv 0) (pv 1) rfl)
   (ao (iA (pv 0) (pv 2) rfl)
   (ao (iA (pv 0) (pv 3) rfl)
   (ao (iA (pv 0) (pv 4) rfl)
   (ao (iA (pv 0) (pv 5) rfl)
   (ao (iA (pv 0) (pv 6) rfl)
   (aq (iA (pv 0) (pv 7) rfl)))))))))))),?_⟩
  refine⟨_,rfl,p,1,3,rfl,g.gp,by omega,by omega,by omega,fun H1 s1=>⟨true,rfl,gK ?_⟩⟩
  refine⟨_,rfl,q,0,2,rfl,g.gq,by omega,by omega,by omega,fun H2 s2=>⟨true,rfl,gK ?_⟩⟩
  refine⟨_,rfl,f,0,2,rfl,g.gf,by omega,by omega,by omega,fun H3 s3=>⟨true,rfl,gK ?_⟩⟩
  refine⟨_,rfl,_,rfl,_,rfl,_,rfl,(by show 4≤sizeLine;decide),fun t ht=>⟨t,rfl,⟨_,cB.of ah⟩,?_⟩⟩
  have Xn:aG H (upd H3 t (.tup [.bl b1,.bl b2,.bl b3,.bl b4])):=((s1.trans s2).trans s3).trans (au ht)
  have htt:(upd H3 t (.tup [.bl b1,.bl b2,.bl b3,.bl b4])) t=some (.tup [.bl b1,.bl b2,.bl b3,.bl b4]):=ah
  generalize upd H3 t (.tup [.bl b1,.bl b2,.bl b3,.bl b4])=H4 at Xn htt ⊢
  refine JM (K:=K) (a:=t) (xs:=[.bl b1,.bl b2,.bl b3,.bl b4]) (fun i σ H5=>H5=H4∧∃ v,σ=[some (.ref x),some (.str p),some (.str q),some (.str f),some (.bl b1),some (.bl b2),some (.bl b3),some (.bl b4),v]) ⟨rfl,_,rfl⟩ (fun i σ H5 _ q=>by rw[q.1];exact cB.of htt) ?_ ?_
  ·rintro i y σ H5 hi ⟨rfl,v,rfl⟩
   obtain⟨b,rfl⟩:∃ b,y=V.bl b:=by
    have hi4:i < 4:=(List.getElem?_eq_some_iff.mp hi).1
    match i,hi4,hi with
    | 0,_,hi=>exact⟨_,(Option.some.inj hi).symm⟩
    | 1,_,hi=>exact⟨_,(Option.some.inj hi).symm⟩
    | 2,_,hi=>exact⟨_,(Option.some.inj hi).symm⟩
    | 3,_,hi=>exact⟨_,(Option.some.inj hi).symm⟩
   refine⟨_,rfl,_,_,_,true,rfl,.bl _,.inl ⟨_,rfl,rfl⟩,true,rfl,gK ?_⟩
   exact⟨rfl,_,rfl⟩
  ·rintro σ H5 ⟨rfl,v,rfl⟩
   have Xo:=Xn _ _ hx
   refine⟨_,rfl,_,rfl,x,(az 49),dx,_,rfl,Xo,T.aF,T.bG,(by show 0 < 1000;decide),_,rfl,_,rfl,x,(az 49),dx,_,rfl,ah,T.aF,T.bM,(by show 1 < 1000;decide),_,rfl,_,rfl,x,(az 49),dx,_,rfl,ah,T.aF,T.bC,(by show 2 < 1000;decide),_,rfl,_,rfl,x,(az 49),dx,_,rfl,ah,T.aF,T.fz,(by show 3 < 1000;decide),
    _,rfl,_,rfl,x,(az 49),dx,_,rfl,ah,T.aF,T.dI,(by show 4 < 1000;decide),_,rfl,_,rfl,x,(az 49),dx,_,rfl,ah,T.aF,T.dJ,(by show 5 < 1000;decide),_,rfl,_,rfl,x,(az 49),dx,_,rfl,ah,T.aF,T.eB,(by show 6 < 1000;decide),?_⟩
   refine k _ ah fun b o e hb=>?_
   rw[aB hb,aB hb,aB hb,aB hb,aB hb,aB hb,aB hb]
   exact Xn _ _ e
def mT (C:Addr):Sp:=fun vs H Q _=>∃(x dx:Addr) (p q f:Str) (b1 b2 b3 b4:Bool),vs=[.ref x]∧H x=some (.ins C dx (zF p q f b1 b2 b3 b4))∧∀ t,H t=none→Q (.ref t) (upd H t (.tup (tK p q f b1 b2 b3 b4)))
theorem uz:aI P w K mg base bN 1 (az 3) (aL 3) ["self"] (mT (az 49)):=by
 refine T.wJ.ok ud (fun vs H Q E h=>?_) (fun cdv A outer s H vs Q E hr h=>?_)
 ·obtain⟨x,dx,p,q,f,b1,b2,b3,b4,rfl,_⟩:=h;rfl
 ·have hu:=aV hr
  have iD:=hr.aN
  obtain⟨x,dx,p,q,f,b1,b2,b3,b4,rfl,hx,k⟩:=h
  refine⟨_,(aq (aC (aJ (af (aO K rfl (pv 0) rfl) (af (aO K rfl (pv 0) rfl) (af (aO K rfl (pv 0) rfl) (af (aO K rfl (pv 0) rfl) (af (aO K rfl (pv 0) rfl) (af (aO K rfl (pv 0) rfl) (af (aO K rfl (pv 0) rfl) aj aS) aS) aS) aS) aS) aS) aS)))),?_⟩
  refine⟨_,rfl,x,(az 49),dx,_,_,rfl,hx,T.aF,T.bG,rfl,_,rfl,x,(az 49),dx,_,_,rfl,hx,T.aF,T.bM,rfl,_,rfl,x,(az 49),dx,_,_,rfl,hx,T.aF,T.bC,rfl,_,rfl,x,(az 49),dx,_,_,rfl,hx,T.aF,T.fz,rfl,_,rfl,x,(az 49),dx,_,_,rfl,hx,T.aF,T.dI,rfl,_,rfl,x,(az 49),dx,_,_,rfl,hx,T.aF,T.dJ,rfl,_,rfl,x,(az 49),dx,_,_,rfl,hx,T.aF,T.eB,rfl,(by show 7≤sizeLine;decide),fun t ht=>?_⟩
  exact k t ht
def pO (C:Addr):Sp:=fun vs H Q _=>∃(t:Addr) (p q f:Str) (b1 b2 b3 b4:Bool),vs=[.ref t]∧H t=some (.tup (tK p q f b1 b2 b3 b4))∧Gd p q f∧∀(x dx:Addr) (H':Hp),H x=none→H' x=some (.ins C dx (zF p q f b1 b2 b3 b4))→aG H H'→Q (.ref x) H'
theorem xX:aI P w K mg base bN 5 (az 4) (aL 4) ["told"] (pO (az 49)):=by
 have gC:aI P w K mg base bN 3 (az 2) (aL 2) ["self", "parts", "quotes", "frees", "twin", "wide", "thin", "stray"] (fQ (az 49)):=jh T
 refine T.qK.ok xP (fun vs H Q E h=>?_) (fun cdv A outer s H vs Q E hr h=>?_)
 ·obtain⟨t,p,q,f,b1,b2,b3,b4,rfl,_⟩:=h;rfl
 ·have hu:=aV hr
  have iD:=hr.aN
  obtain⟨t,p,q,f,b1,b2,b3,b4,rfl,ht,g,k⟩:=h
  have hS:cB K H t (tK p q f b1 b2 b3 b4):=cB.of ht
  refine⟨_,(ao (aR (PW.pt (nk (fP (bZ (nH (Be K rfl) T.aW (af (pv 0) (af (Iv "tuple" T.BV) aj ak) ak)))) (lM (jd D4 (nH (bO K rfl) T.gA (af (pv 0) aj ak)) ay)))) (aq jG) aE)
   (aq (aC (qA (k:=3) T.zf gC (hr.mono (by decide)) rfl T.zd T.jX .nil jI (af (m5 K (pv 0) ay) (af (m5 K (pv 0) ay) (af (m5 K (pv 0) ay) (af (m5 K (pv 0) ay) (af (m5 K (pv 0) ay) (af (m5 K (pv 0) ay) (af (m5 K (pv 0) ay) aj aD) aD) aD) aD) aD) aD) aD))))),?_⟩
  refine⟨_,rfl,t,_,_,true,rfl,.inl ⟨hS,rfl⟩,true,rfl,gK ?_⟩
  refine⟨_,rfl,t,_,rfl,.inr hS,rfl,_,rfl,Qv rfl ?_⟩
  refine⟨_,rfl,t,_,_,_,rfl,rfl,hS,rfl,_,rfl,t,_,_,_,rfl,rfl,hS,rfl,_,rfl,t,_,_,_,rfl,rfl,hS,rfl,_,rfl,t,_,_,_,rfl,rfl,hS,rfl,_,rfl,t,_,_,_,rfl,rfl,hS,rfl,_,rfl,t,_,_,_,rfl,rfl,hS,rfl,_,rfl,t,_,_,_,rfl,rfl,hS,rfl,fun x dx hx hdx ne=>?_⟩
  refine⟨x,dx,p,q,f,b1,b2,b3,b4,rfl,ah,g,fun H2 h2 kp=>⟨rfl,k x dx H2 hx h2 fun b o e=>kp b o ?_ (aM e hx)⟩⟩
  rw[aB (aM e hx),aB (aM e hdx)]
  exact e
def lE (C CT:Addr):Sp:=fun vs H Q _=>∃(y dy x dx:Addr) (p q f:Str) (b1 b2 b3 b4:Bool),vs=[.ref y,.ref x]∧H y=some (.ins CT dy [])∧H x=some (.ins C dx (zF p q f b1 b2 b3 b4))∧Gd p q f∧∀ H',Tn C CT H' y p q f b1 b2 b3 b4→(∀ b o,H b=some o→b≠y→H' b=some o)→Q .non H'
theorem sI:aI P w K mg base bN 6 (az 5) (aL 5) ["self", "dialect"] (lE (az 49) (az 50)):=by
 have xj:aI P w K mg base bN 1 (az 3) (aL 3) ["self"] (mT (az 49)):=uz T
 have z0:aI P w K mg base bN 5 (az 4) (aL 4) ["told"] (pO (az 49)):=xX T
 refine T.uh.ok sj (fun vs H Q E h=>?_) (fun cdv A outer s H vs Q E hr h=>?_)
 ·obtain⟨y,dy,x,dx,p,q,f,b1,b2,b3,b4,rfl,_⟩:=h;rfl
 ·have hu:=aV hr
  have iD:=hr.aN
  obtain⟨y,dy,x,dx,p,q,f,b1,b2,b3,b4,rfl,hy,hx,g,k⟩:=h
  refine⟨_,(aq (iA (pv 0) (kc z0 hr T.zP T.qK.kp T.zO (af (A6 (k:=1) (pv 1) T.aF T.wL xj (hr.mono (by decide)) T.wK .nil jI) aj jl)) rfl)),?_⟩
  refine⟨_,rfl,x,dx,_,rfl,hx,rfl,x,dx,p,q,f,b1,b2,b3,b4,rfl,hx,fun t ht=>?_⟩
  have s1:=au (o:=HO.tup (tK p q f b1 b2 b3 b4)) ht
  refine⟨t,p,q,f,b1,b2,b3,b4,rfl,ah,g,fun d dd H2 hd h2 s2=>?_⟩
  have s12:=s1.trans s2
  have nyd:d≠y:=fun e=>by subst e;rw[s1 _ _ hy] at hd;cases hd
  refine⟨_,rfl,y,(az 50),dy,_,rfl,s12 _ _ hy,T.iG,T.bA,(by show 0 < 1000;decide),?_⟩
  refine k _ ⟨⟨dy,d,dd,ah,(aB nyd).trans h2⟩⟩ fun b o e hb=>(aB hb).trans (s12 _ _ e)
def j0 (K:W.Frag) (C CT CM:Addr):Sp:=fun vs H Q _=>∃(m dm x dx l:Addr) (ys:List V) (ts:List (Str×Str)) (p q f:Str) (b1 b2 b3 b4:Bool),vs=[.ref m,.ref x,.ref l]∧H m=some (.ins CM dm [])∧H x=some (.ins C dx (zF p q f b1 b2 b3 b4))∧Gd p q f∧H l=some (.lst ys)∧Paired (gM K H) ys ts∧∀ H',Fj K C CT CM H' m p q f b1 b2 b3 b4 ts→(∀ b o,H b=some o→b≠m→H' b=some o)→Q .non H'
theorem qj:aI P w K mg base bN 8 (az 6) (aL 6) ["self", "dialect", "tokens"] (j0 K (az 49) (az 50) (az 51)):=by
 have uA:aI P w K mg base bN 6 (az 5) (aL 5) ["self", "dialect"] (lE (az 49) (az 50)):=sI T
 refine T.qL.ok qd (fun vs H Q E h=>?_) (fun cdv A outer s H vs Q E hr h=>?_)
 ·obtain⟨m,dm,x,dx,l,ys,ts,p,q,f,b1,b2,b3,b4,rfl,_⟩:=h;rfl
 ·have hu:=aV hr
  have iD:=hr.aN
  obtain⟨m,dm,x,dx,l,ys,ts,p,q,f,b1,b2,b3,b4,rfl,hm,hx,g,hl,tp,k⟩:=h
  refine⟨_,(ao (iA (pv 0) (qA (k:=6) T.Nx uA (hr.mono (by decide)) rfl T.Nv T.um .nil jI (af (pv 1) aj ak)) rfl)
   (aq (iA (pv 0) (pv 2) rfl))),?_⟩
  refine⟨_,rfl,fun y dy hy Pp ne=>⟨y,dy,x,dx,p,q,f,b1,b2,b3,b4,rfl,ah,nI hy Pp hx,g,fun H2 hT kp=>⟨rfl,?_⟩⟩⟩
  have s2:=rW hy Pp kp
  have hm2:=s2 _ _ hm
  refine⟨_,rfl,m,(az 51),dm,_,rfl,hm2,T.iE,T.iH,(by show 0 < 1000;decide),?_⟩
  refine⟨_,rfl,_,rfl,m,(az 51),dm,_,rfl,ah,T.iE,T.eF,(by show 1 < 1000;decide),?_⟩
  have nlm:l≠m:=fun q=>by rw[q,hm] at hl;cases hl
  refine k _ ⟨dm,y,l,ys,ah,?_,(aB nlm).trans ((aB nlm).trans (s2 _ _ hl)),jS ah (jS hm2 (gG s2 tp))⟩ fun b o e hb=>(aB hb).trans ((aB hb).trans (s2 _ _ e))
  refine Tn.off ah ?_ ?_ (Tn.off hm2 ?_ ?_ hT)
  ·intro d fs q;injection q with q1 q2 q3;injection q3 with q4 q5;injection q4 with q6 q7;exact absurd q6 (by decide +kernel)
  ·intro d q;injection q with q1 q2 q3;injection q3 with q4 q5;injection q4 with q6 q7;exact absurd q6 (by decide +kernel)
  ·intro d fs q;injection q with q1 q2 q3;cases q3
  ·intro d q;injection q with q1 q2 q3;cases q3
def Aa:Sp:=fun vs H Q _=>∃ z:Str,vs=[.str z]∧z.length≤4000∧Q (.str (lD z)) H
theorem EA:aI P w K mg base bN 1 (az 7) (aL 7) ["text"] Aa:=by
 refine T.C5.ok vo (fun vs H Q E h=>?_) (fun cdv A outer s H vs Q E hr h=>?_)
 ·obtain⟨z,rfl,_⟩:=h;rfl
 ·have hu:=aV hr
  have iD:=hr.aN
  obtain⟨z,rfl,V7,k⟩:=h
  have e0:Str.ofString "" = ⟨(lC []).toArray⟩:=by decide +kernel
  have e0:([some (V.str z),some (V.str ("":Str)),none]:St)=[some (.str z),some (.str ⟨(lC []).toArray⟩),none]:=by rw[e0]
  refine⟨_,(ao (lg 1 vo.nd aA (hs:=nG))
   (ao (kJ PassesOwn.never rfl (vH (pv 0)) (pG 2 vo.nd)
   (aq (aR (gQ lP (pv 2) (pv 1) rfl) (aq (lg 1 vo.nd (aK gn (pv 1) (pv 2)) (hs:=gR))) aE)))
   (aq (aC (pv 1))))),?_⟩
  refine⟨_,rfl,_,rfl,?_⟩
  unfold lD at k
  refine JY (fun i σ H2=>H2=H∧∃ v,σ=[some (.str z),some (.str ⟨(lC (z.cps.toList.take i)).toArray⟩),v]) ⟨rfl,none,by rw[List.take_zero];exact e0⟩ ?_ ?_
  ·rintro i c σ H2 hi ⟨rfl,v,rfl⟩
   have hl:(lC (z.cps.toList.take i)).length≤4000:=by
    refine Nat.le_trans (yW _) ?_
    rw[List.length_take,Array.length_toList]
    have:z.cps.size≤4000:=V7
    omega
   refine⟨_,rfl,_,rfl,_,_,rfl,rfl,_,rfl,?_⟩
   refine cu (fun ha=>?_) (fun ha=>?_)
   ·have ha':away ⟨(lC (z.cps.toList.take i)).toArray⟩ c=true:=ha
    refine⟨_,rfl,_,rfl,_,_,rfl,rfl,?_,rfl,some (.str (sg c)),?_⟩
    ·refine Nat.le_trans (show _≤4001 from ?_) (by decide)
     show Array.size _+1≤4001
     rw[List.size_toArray];omega
    ·rw[take_snoc hi,wg]
     unfold tM
     rw[if_pos ha',←JZ]
     rfl
   ·have ha':¬away ⟨(lC (z.cps.toList.take i)).toArray⟩ c=true:=ha
    refine⟨rfl,some (.str (sg c)),?_⟩
    rw[take_snoc hi,wg]
    unfold tM
    rw[if_neg ha']
    rfl
  ·rintro σ H2 ⟨rfl,v,rfl⟩
   refine⟨_,rfl,?_⟩
   rw[List.take_of_length_le (Nat.le_refl _)]
   exact k
def j3 (C:Addr):Sp:=fun vs H Q _=>∃(x dx:Addr) (p q f:Str) (b1 b2 b3 b4:Bool),vs=[.ref x]∧H x=some (.ins C dx (zF p q f b1 b2 b3 b4))∧Gd p q f∧Q (.str (lD ((p++q)++f))) H
theorem qk:aI P w K mg base bN 2 (az 8) (aL 8) ["self"] (j3 (az 49)):=by
 have C8:aI P w K mg base bN 1 (az 7) (aL 7) ["text"] Aa:=EA T
 refine T.qN.ok qe (fun vs H Q E h=>?_) (fun cdv A outer s H vs Q E hr h=>?_)
 ·obtain⟨x,dx,p,q,f,b1,b2,b3,b4,rfl,_⟩:=h;rfl
 ·have hu:=aV hr
  have iD:=hr.aN
  obtain⟨x,dx,p,q,f,b1,b2,b3,b4,rfl,hx,g,k⟩:=h
  have hp3:=g.p3;have hq2:=g.q2;have hf2:=g.f2
  refine⟨_,(aq (aC (kc C8 hr T.IY T.C5.kp T.IX (af (aK gn (aK gn (aO K rfl (pv 0) rfl) (aO K rfl (pv 0) rfl)) (aO K rfl (pv 0) rfl)) aj cL)))),?_⟩
  refine⟨_,rfl,x,(az 49),dx,_,_,rfl,hx,T.aF,T.bG,rfl,_,rfl,x,(az 49),dx,_,_,rfl,hx,T.aF,T.bM,rfl,_,_,rfl,rfl,Nat.le_trans (show p.length+q.length≤5 by omega) (by decide),_,rfl,x,(az 49),dx,_,_,rfl,hx,T.aF,T.bC,rfl,_,_,rfl,rfl,?_,_,rfl,?_,k⟩
  ·rw[gb];exact Nat.le_trans (show p.length+q.length+f.length≤7 by omega) (by decide)
  ·rw[gb,gb];omega
def j4 (K:W.Frag) (C CT CM CW:Addr):Sp:=fun vs H Q _=>∃(z dz x dx l:Addr) (ys:List V) (ts:List (Str×Str)) (p q f:Str) (b1 b2 b3 b4:Bool),vs=[.ref z,.ref x,.ref l]∧H z=some (.ins CW dz [])∧H x=some (.ins C dx (zF p q f b1 b2 b3 b4))∧Gd p q f∧H l=some (.lst ys)∧Paired (gM K H) ys ts∧∀ H',Nk K C CT CM CW H' z p q f b1 b2 b3 b4 ts→(∀ b o,H b=some o→b≠z→H' b=some o)→Q .non H'
theorem ql:aI P w K mg base bN 10 (az 9) (aL 9) ["self", "dialect", "tokens"] (j4 K (az 49) (az 50) (az 51) (az 52)):=by
 have qY:aI P w K mg base bN 2 (az 8) (aL 8) ["self"] (j3 (az 49)):=qk T
 have qZ:aI P w K mg base bN 8 (az 6) (aL 6) ["self", "dialect", "tokens"] (j0 K (az 49) (az 50) (az 51)):=qj T
 refine T.qQ.ok qf (fun vs H Q E h=>?_) (fun cdv A outer s H vs Q E hr h=>?_)
 ·obtain⟨z,dz,x,dx,l,ys,ts,p,q,f,b1,b2,b3,b4,rfl,_⟩:=h;rfl
 ·have hu:=aV hr
  have iD:=hr.aN
  obtain⟨z,dz,x,dx,l,ys,ts,p,q,f,b1,b2,b3,b4,rfl,hz,hx,g,hl,tp,k⟩:=h
  refine⟨_,(ao (iA (pv 0) (qA (k:=8) T.Jd qZ (hr.mono (by decide)) rfl T.Jc T.qM .nil jI (af (pv 1) (af (pv 2) aj ak) ak)) rfl)
   (ao (iA (pv 0) (pv 2) rfl)
   (aq (iA (pv 0) (aK gn (aK gn (A6 (k:=2) (pv 1) T.aF T.qP qY (hr.mono (by decide)) T.qO .nil jI) (lQ rfl T.mq.choose_spec)) aA) rfl)))),?_⟩
  refine⟨_,rfl,_,rfl,fun m dm hm V8 ne=>⟨m,dm,x,dx,l,ys,ts,p,q,f,b1,b2,b3,b4,rfl,ah,nI hm V8 hx,g,nI hm V8 hl,gG (yX hm V8) tp,fun H2 hM kp=>⟨rfl,?_⟩⟩⟩
  have s2:=rW hm V8 kp
  have hz2:=s2 _ _ hz
  refine⟨_,rfl,z,(az 52),dz,_,rfl,hz2,T.fN,T.eG,(by show 0 < 1000;decide),?_⟩
  refine⟨_,rfl,_,rfl,z,(az 52),dz,_,rfl,ah,T.fN,T.gc,(by show 1 < 1000;decide),?_⟩
  have nx:x≠z:=fun q=>by rw[q,hz] at hx;injection hx with hx;injection hx with h1 h2 h3;cases h3
  have nl:l≠z:=fun q=>by rw[q,hz] at hl;cases hl
  have hx4:=(aB (o:=HO.ins (az 52) dz [("marker",V.ref m),("tokens",V.ref l)]) nx).trans ((aB (o:=HO.ins (az 52) dz [("marker",V.ref m)]) nx).trans (s2 _ _ hx))
  have sl:=sd ((p++q)++f)
  have a1:=gb p q
  have a2:=gb (p++q) f
  have hp3:=g.p3;have hq2:=g.q2;have hf2:=g.f2
  have zl:(wI 0).length=1:=by rw[T.jo];decide +kernel
  have sp1:(" ":Str).length=1:=by decide +kernel
  have a3:=gb (lD ((p++q)++f)) (wI 0)
  have szb:1000≤sizeLine:=by decide
  refine⟨_,rfl,_,_,_,rfl,hx4,rfl,_,_,_,_,_,_,_,_,_,rfl,hx4,g,_,_,rfl,rfl,by omega,_,_,rfl,rfl,by omega,_,rfl,_,_,_,_,rfl,ah,T.fN,T.g5,(by show 2 < 1000;decide),k _ ?_ fun b o e hb=>(aB hb).trans ((aB hb).trans ((aB hb).trans (s2 _ _ e)))⟩
  have h3:(upd H2 z (HO.ins (az 52) dz [("marker",V.ref m)])) z=some (HO.ins (az 52) dz [("marker",V.ref m)]):=ah
  have h4:(upd (upd H2 z (HO.ins (az 52) dz [("marker",V.ref m)])) z (HO.ins (az 52) dz [("marker",V.ref m),("tokens",V.ref l)])) z=some (HO.ins (az 52) dz [("marker",V.ref m),("tokens",V.ref l)]):=ah
  refine⟨dz,m,l,ys,?_,Fj.off h4 ?_ ?_ ?_ (Fj.off h3 ?_ ?_ ?_ (Fj.off hz2 ?_ ?_ ?_ hM)),(aB nl).trans ((aB nl).trans ((aB nl).trans (s2 _ _ hl))),jS h4 (jS h3 (jS hz2 (gG s2 tp)))⟩
  ·rw[T.jo];exact ah
  ·intro y l q;injection q with q1 q2;injection q1 with q3 q4;exact absurd q3 (by decide +kernel)
  ·intro d q;injection q with q1 q2;injection q1 with q3 q4;exact absurd q3 (by decide +kernel)
  ·intro q;injection q with q1 q2;injection q1 with q3 q4;exact absurd q3 (by decide +kernel)
  ·intro y l q;injection q with q1 q2;injection q1 with q3 q4;exact absurd q3 (by decide +kernel)
  ·intro d q;injection q with q1 q2;injection q1 with q3 q4;exact absurd q3 (by decide +kernel)
  ·intro q;injection q with q1 q2;injection q1 with q3 q4;exact absurd q3 (by decide +kernel)
  ·intro y l q;cases q
  ·intro d q;cases q
  ·intro q;cases q
def iy (CB:Addr):Sp:=fun vs H Q _=>∃(ea:Addr) (r c:Int),vs=[.ref ea,.int r,.int c]∧H ea=some (JA ea (.ref CB) none)∧r.natAbs.log2 < 1920∧c.natAbs.log2 < 1920∧∀ d H',H d=none→d≠ea→H' ea=some (JA ea (.ref CB) (some d))→H' d=some (LW d (wrF r c))→(∀ b,b≠ea→b≠d→H' b=H b)→Q .non H'
theorem nc:aI P w K mg base bN 1 (az 10) (aL 10) ["self", "row", "cell"] (iy (az 63)):=by
 refine T.nR.ok m6 (fun vs H Q E h=>?_) (fun cdv A outer s H vs Q E hr h=>?_)
 ·obtain⟨ea,r,c,rfl,_⟩:=h;rfl
 ·have hu:=aV hr
  have iD:=hr.aN
  obtain⟨ea,r,c,rfl,Bx,hr0,hp0,k⟩:=h
  refine⟨_,(ao (jj (Im rfl T.oj T.uy T.om (.inr ⟨_,_,rfl,T.bh⟩) (af (pv 0) (af (E9 (vm aA (vm (Il (pv 2)) (vm aA (vm (Il (pv 1)) Na))))) aj zD) ak)))
   (ao (Io rfl T.om (.inr ⟨_,_,rfl,T.bh⟩) T.sH (pv 0) (pv 1) rfl)
   (aq (Ip T.om (.inr ⟨_,_,rfl,T.bh⟩) T.qX (pv 0) (pv 2) rfl)))),?_⟩
  refine⟨_,rfl,_,rfl,by decide +kernel,_,rfl,.inl ⟨c,rfl,hp0⟩,fun z1 l1=>⟨_,rfl,l1,_,rfl,by decide +kernel,_,rfl,.inl ⟨r,rfl,hr0⟩,fun z2 l2=>⟨_,rfl,l2,fun zz=>?_⟩⟩⟩
  refine⟨ea,none,_,rfl,Bx,?_⟩
  refine⟨_,rfl,_,rfl,ea,rfl,Bx,fun d hd=>?_⟩
  have nd:d≠ea:=fun z=>by rw[z,Bx] at hd;cases hd
  refine⟨_,rfl,_,rfl,ea,d,_,rfl,(aB (Ne.symm nd)).trans ah,ah,(by show 1 < 1000;decide),?_⟩
  refine k d _ hd nd ((aB (Ne.symm nd)).trans ((aB (Ne.symm nd)).trans ah)) ah fun b h1 h2=>?_
  rw[aB h2,aB h2,aB h1]
def j5:Sp:=fun vs H Q _=>∃ z:Str,vs=[.str z]∧z.length≤2000∧∀ H',aG H H'→Q (.bl (textOk z)) H'
theorem qm:aI P w K mg base bN 2 (az 12) (aL 12) ["text"] j5:=by
 have jZ:aI P w K mg base bN 1 (az 0) (aL 0) ["sign"] i7:=mS T
 refine T.kj.ok qg (fun vs H Q E h=>?_) (fun cdv A outer s H vs Q E hr h=>?_)
 ·obtain⟨z,rfl,_⟩:=h;rfl
 ·have hu:=aV hr
  have iD:=hr.aN
  obtain⟨z,rfl,hz,k⟩:=h
  refine⟨_,(aq (aC (nH (oR K rfl rfl) T.zX (af (fF rfl (show aX ["text"] (av bY) ["sign"] 1 [] _ from CK) (vH (pv 0)) (fun _ _ _ _=>(pG 0 Fe)) (fun _ _ _ _=>eV) (fun _ _ _ _=>(PZ (Iw cI (pv 0) (lQ rfl T.mq.choose_spec)) (zp (kc jZ hr T.nQ T.jW.kp T.nP (af (pv 0) aj ak)))))) aj dR)))),?_⟩
  refine⟨_,rfl,z,rfl,fun D hD=>?_⟩
  have hsz:z.cps.toList.length=z.length:=by rw[Array.length_toList];rfl
  refine qB (fun i ys τ H2=>(∃ v,τ=[v])∧aG H H2∧H2 D=some (.lst ys)∧ys=((z.cps.toList.take i).map Er).map V.bl) ⟨⟨_,rfl⟩,au hD,ah,rfl⟩ (fun i ys τ H2 _ p=>p.2.2.1) ?_ ?_
  ·rintro i c ys τ H2 hi ⟨⟨v,rfl⟩,s2,hl,rfl⟩
   have hil:i < z.cps.toList.length:=(List.getElem?_eq_some_iff.mp hi).1
   have hlen:(((z.cps.toList.take i).map Er).map V.bl).length < sizeLine:=by
    rw[List.length_map,List.length_map,List.length_take]
    exact Nat.lt_of_le_of_lt (show min i z.cps.toList.length≤2000 by omega) (by decide)
   have fin:∀ b,b=Er c→H2 D=some (.lst (((z.cps.toList.take i).map Er).map V.bl))∧(((z.cps.toList.take i).map Er).map V.bl).length < sizeLine∧(∃ v,[some (V.str (sg c))]=[v])∧aG H (upd H2 D (.lst (((z.cps.toList.take i).map Er).map V.bl++[.bl b])))∧(upd H2 D (.lst (((z.cps.toList.take i).map Er).map V.bl++[.bl b]))) D=some (.lst (((z.cps.toList.take i).map Er).map V.bl++[.bl b]))∧((z.cps.toList.take i).map Er).map V.bl++[.bl b]=((z.cps.toList.take (i+1)).map Er).map V.bl:=fun b hb=>by
    refine⟨hl,hlen,⟨_,rfl⟩,aZ hD s2,ah,?_⟩
    rw[bf hi,List.map_append,List.map_append,hb];rfl
   refine rV ?_
   refine⟨_,rfl,rfl,_,rfl,cu (fun h=>?_) (fun h=>?_)⟩
   ·have h:decide (V.str (sg c)=V.str (wI 0))=true:=h
    have hc:c=10:=by
     have e:=of_decide_eq_true h
     rw[T.jo] at e
     have e2:sg c=sg 10:=(V.str.inj e).trans (by decide +kernel)
     have:=congrArg (fun z:Str=>z.cps.toList) e2
     exact(List.cons.inj (show [c]=[10] from this)).1
    exact fin true (by rw[hc];exact(decide_eq_true (.inl rfl)).symm)
   ·have hc:c≠10:=sgL T.jo h
    refine⟨_,rfl,c,rfl,fin _ ?_⟩
    unfold Er
    by_cases hp:Pn c
    ·rw[decide_eq_true hp,decide_eq_true (.inr hp)]
    ·rw[decide_eq_false hp,decide_eq_false (fun z=>z.elim hc hp)]
  ·rintro ys τ H2 ⟨⟨v,rfl⟩,s2,hl,rfl⟩
   refine⟨D,(z.cps.toList.take z.cps.toList.length).map Er,rfl,bE.of hl,?_⟩
   have e:((z.cps.toList.take z.cps.toList.length).map Er).all id=textOk z:=by
    rw[List.take_of_length_le (Nat.le_refl _),List.all_map];rfl
   rw[e]
   exact k H2 s2
def xm (K:W.Frag):Sp:=fun vs H Q _=>∃(N:Addr→Prop) (n:Nat) (v:V) (t:Tr),vs=[v]∧Rp N n H v t∧∀ H',aG H H'→Q (.bl (iT t)) H'
theorem C9:aI P w K mg base bN 3 (az 13) (aL 13) ["thing"] (xm K):=by
 have ri:aI P w K mg base bN 2 (az 12) (aL 12) ["text"] j5:=qm T
 refine T.za.ok C2 (fun vs H Q E h=>?_) (fun cdv A outer s H vs Q E hr h=>?_)
 ·obtain⟨N,n,v,t,rfl,_⟩:=h;rfl
 ·have hu:=aV hr
  have iD:=hr.aN
  obtain⟨N,n,v,t,rfl,hv,k⟩:=h
  refine⟨_,(ao (aR (PW.pt (nk (fP (bZ (nH (cy K rfl) T.aW (af (pv 0) (af (Iv "str" T.Jj) aj ak) ak)))) (lM (jd vA (nH fE T.gA (af (pv 0) aj ak)) (vg rfl T.g6.choose_spec))))) (aq (aC jF)) aE)
   (aq (aC (kc ri hr T.qT T.kj.kp T.qS (af (pv 0) aj ak))))),?_⟩
  rcases hv.IT K with ⟨z,rfl,rfl,hz⟩ | ⟨ty,hty,ht,e⟩
  ·refine⟨_,rfl,_,_,_,true,rfl,.str _,.inl ⟨_,rfl,rfl⟩,true,rfl,gK ⟨_,rfl,z,rfl,Nat.le_trans hz (by decide),_,_,rfl,rfl,_,rfl,QO (fun h1=>?_) (fun h1=>?_)⟩⟩
   ·have e:iT (.leaf (.str z))=false:=by
     show(decide (z.length≤400) && textOk z)=false
     rw[decide_eq_false (by omega)];rfl
    rw[e] at k
    exact k H (aG.refl H)
   ·have e:iT (.leaf (.str z))=textOk z:=by
     show(decide (z.length≤400) && textOk z)=_
     rw[decide_eq_true (by omega)];rfl
    rw[e] at k
    exact⟨_,rfl,z,rfl,by omega,k⟩
  ·rw[e] at k
   exact⟨_,rfl,_,_,_,false,rfl,hty,.inl ⟨_,rfl,ht⟩,false,rfl,nA (k H (aG.refl H))⟩
def zh (K:W.Frag):Sp:=fun vs H Q _=>∃(N:Addr→Prop) (n:Nat) (v:V) (t:Tr),vs=[v]∧Rp N n H v t∧∀ H',aG H H'→Q (.bl (kM t)) H'
theorem FH:aI P w K mg base bN 4 (az 14) (aL 14) ["thing"] (zh K):=by
 have FI:aI P w K mg base bN 3 (az 13) (aL 13) ["thing"] (xm K):=C9 T
 refine T.BH.ok Fx (fun vs H Q E h=>?_) (fun cdv A outer s H vs Q E hr h=>?_)
 ·obtain⟨N,n,v,t,rfl,_⟩:=h;rfl
 ·have hu:=aV hr
  have iD:=hr.aN
  obtain⟨N,n,v,t,rfl,hv,k⟩:=h
  refine⟨_,(ao (aR (PW.pt (nk (fP (bZ (nH (cy K rfl) T.aW (af (pv 0) (af (Iv "list" T.oS) aj ak) ak)))) (nk (jd D5 (nH (bO K rfl) T.gA (af (pv 0) aj ak)) ay) (lM (jd vA (nH (bO K rfl) T.gA (af (pv 0) aj ak)) (vg rfl T.xW.choose_spec)))))) (aq (aC jF)) aE)
   (aq (aC (nH (oR K rfl rfl) T.zX (af (fF rfl (show aX ["thing"] (av ly) ["cell"] 1 [] _ from CK) (cC K rfl (pv 0)) (fun _ _ _ _=>(pG 0 Fe)) (fun _ _ _ _=>eV) (fun _ _ _ _=>(kc FI hr T.Fz T.za.kp T.Fy (af (pv 0) aj ak)))) aj dR))))),?_⟩
  rcases hv.gY K with ⟨m,a,xs,ts,rfl,rfl,rfl,ha,hN,EB,ps⟩ | ⟨ty,hty,ht,rfl,_⟩
  rotate_left
  ·exact⟨_,rfl,_,_,_,false,rfl,hty,.inl ⟨_,rfl,ht⟩,false,rfl,nA (k H (aG.refl H))⟩
  have hlx:=ps.length
  refine⟨_,rfl,_,_,_,true,rfl,.lst ha,.inl ⟨_,rfl,rfl⟩,true,rfl,gK ?_⟩
  refine⟨_,rfl,a,_,rfl,.inl (bE.of ha),_,_,rfl,rfl,_,rfl,QO (fun h1=>?_) (fun h1=>?_)⟩
  ·have e:kM (.list ts)=false:=by
    show(decide (1≤ts.length∧ts.length≤20) && ts.all iT)=false
    rw[decide_eq_false (by omega)];rfl
   rw[e] at k
   exact nA (k H (aG.refl _))
  refine⟨_,rfl,a,_,rfl,.inl (bE.of ha),_,_,rfl,rfl,_,rfl,QO (fun h2=>?_) (fun h2=>?_)⟩
  ·have e:kM (.list ts)=false:=by
    show(decide (1≤ts.length∧ts.length≤20) && ts.all iT)=false
    rw[decide_eq_false (by omega)];rfl
   rw[e] at k
   exact k H (aG.refl _)
  have e:kM (.list ts)=ts.all iT:=by
   show(decide (1≤ts.length∧ts.length≤20) && ts.all iT)=_
   rw[decide_eq_true (by omega)];rfl
  rw[e] at k
  clear e
  refine⟨_,rfl,a,rfl,⟨_,bE.of ha⟩,fun D hD=>?_⟩
  refine gF (K:=K) (a:=a) (xs:=xs) (fun i ys τ H2=>(∃ v,τ=[v])∧aG H H2∧H2 D=some (.lst ys)∧ys=((ts.take i).map iT).map V.bl) ⟨⟨_,rfl⟩,au hD,ah,rfl⟩ (fun i ys τ H2 _ p=>⟨bE.of (p.2.1 _ _ ha),p.2.2.1⟩) ?_ ?_
  ·rintro i e ys τ H2 hi ⟨⟨v,rfl⟩,s2,hl,rfl⟩
   have hil:i < xs.length:=(List.getElem?_eq_some_iff.mp hi).1
   obtain⟨r,hr,hb⟩:=aU ps i e hi
   refine rV ?_
   refine⟨_,rfl,N,m,e,r,rfl,hb.mono s2 (fun _ z=>z),fun H3 s3=>⟨s3 _ _ hl,?_,⟨_,rfl⟩,aZ hD (s2.trans s3),ah,?_⟩⟩
   ·rw[List.length_map,List.length_map,List.length_take]
    exact Nat.lt_of_le_of_lt (show _≤1000 by omega) (by decide)
   ·rw[bf hr,List.map_append,List.map_append];rfl
  ·rintro ys τ H2 ⟨⟨v,rfl⟩,s2,hl,rfl⟩
   rw[hlx,List.take_of_length_le (Nat.le_refl _)] at hl
   refine⟨D,ts.map iT,rfl,bE.of hl,?_⟩
   have ea:(ts.map iT).all id=ts.all iT:=by rw[List.all_map];rfl
   rw[ea]
   exact k H2 s2
def mU (K:W.Frag):Sp:=fun vs H Q _=>∃(a:Addr) (r:List Str),vs=[.ref a]∧H a=some (.lst (r.map V.str))∧r.length≤20∧(∀ c∈r,c.length≤400)∧∀ H',aG H H'→Q (.int ((lens r).sum:Nat)) H'
theorem uB:aI P w K mg base bN 1 (az 15) (aL 15) ["row"] (mU K):=by
 refine T.nS.ok uf (fun vs H Q E h=>?_) (fun cdv A outer s H vs Q E hr h=>?_)
 ·obtain⟨a,r,rfl,_⟩:=h;rfl
 ·have hu:=aV hr
  have iD:=hr.aN
  obtain⟨a,r,rfl,ha,hr,hs,k⟩:=h
  have hsum:(lens r).sum≤8000:=by
   have h1:=zM hs
   omega
  refine⟨_,(aq (aC (nH (yK K rfl rfl) T.Jk (af (fF rfl (show aX ["row"] (av dF) ["cell"] 1 [] _ from CK) (cC K rfl (pv 0)) (fun _ _ _ _=>(pG 0 Fe)) (fun _ _ _ _=>eV) (fun _ _ _ _=>(nH fE T.gA (af (pv 0) aj ak)))) aj dR)))),?_⟩
  refine⟨_,rfl,a,rfl,⟨_,bE.of ha⟩,fun D hD=>?_⟩
  refine gF (K:=K) (a:=a) (xs:=r.map V.str) (fun i ys τ H2=>(∃ v,τ=[v])∧aG H H2∧H2 D=some (.lst ys)∧ys=((lens r).take i).map fun n:Nat=>V.int n) ⟨⟨_,rfl⟩,au hD,ah,rfl⟩ (fun i ys τ H2 _ p=>⟨bE.of (p.2.1 _ _ ha),p.2.2.1⟩) ?_ ?_
  ·rintro i e ys τ H2 hi ⟨⟨v,rfl⟩,s2,hl,rfl⟩
   rw[List.getElem?_map] at hi
   cases hz:r[i]? with
   | none=>rw[hz] at hi;cases hi
   | some z =>
    rw[hz] at hi
    cases hi
    have hzr:=List.mem_of_getElem? hz
    have V7:=hs z hzr
    refine rV ?_
    refine⟨_,rfl,z,rfl,Nat.le_trans V7 (by decide),hl,?_,⟨_,rfl⟩,aZ hD s2,ah,?_⟩
    ·rw[List.length_map,List.length_take]
     unfold lens;rw[List.length_map]
     exact Nat.lt_of_le_of_lt (show _≤20 by omega) (by decide)
    ·rw[bf (l:=lens r) (c:=z.length) (by unfold lens;rw[List.getElem?_map,hz];rfl),List.map_append];rfl
  ·rintro ys τ H2 ⟨⟨v,rfl⟩,s2,hl,rfl⟩
   refine⟨D,lens r,rfl,?_,by omega,k H2 s2⟩
   have e:(lens r).take (r.map V.str).length=lens r:=List.take_of_length_le (by unfold lens;rw[List.length_map,List.length_map];exact Nat.le_refl _)
   rw[e] at hl
   exact bE.of hl
def tQ (K:W.Frag):Sp:=fun vs H Q _=>∃(N:Addr→Prop) (n:Nat) (v:V) (t:Tr),vs=[v]∧Rp N n H v t∧∀ H',aG H H'→Q (.bl (uc t)) H'
theorem BW:aI P w K mg base bN 5 (az 16) (aL 16) ["thing"] (tQ K):=by
 have Jl:aI P w K mg base bN 4 (az 14) (aL 14) ["thing"] (zh K):=FH T
 have xq:aI P w K mg base bN 1 (az 15) (aL 15) ["row"] (mU K):=uB T
 refine T.wO.ok BF (fun vs H Q E h=>?_) (fun cdv A outer s H vs Q E hr h=>?_)
 ·obtain⟨N,n,v,t,rfl,_⟩:=h;rfl
 ·have hu:=aV hr
  have iD:=hr.aN
  obtain⟨N,n,v,t,rfl,hv,k⟩:=h
  refine⟨_,(ao (aR (PW.pt (nk (fP (bZ (nH (cy K rfl) T.aW (af (pv 0) (af (Iv "list" T.oS) aj ak) ak)))) (lM (jd vA (nH (bO K rfl) T.gA (af (pv 0) aj ak)) (vg rfl T.zZ.choose_spec))))) (aq (aC jF)) aE)
   (ao (aR (fP (bZ (nH (oR K rfl rfl) T.zX (af (fF rfl (show aX ["thing"] (av gu) ["row"] 1 [] _ from CK) (cC K rfl (pv 0)) (fun _ _ _ _=>(pG 0 Fe)) (fun _ _ _ _=>eV) (fun _ _ _ _=>(kc Jl hr T.Ja T.BH.kp T.IZ (af (pv 0) aj ak)))) aj dR)))) (aq (aC jF)) aE)
   (aq (aC (Iw LF (nH (yK K rfl rfl) T.Jk (af (fF rfl (show aX ["thing"] (av gu) ["row"] 1 [] _ from CK) (cC K rfl (pv 0)) (fun _ _ _ _=>(pG 0 Fe)) (fun _ _ _ _=>eV) (fun _ _ _ _=>(kc xq hr T.wN T.nS.kp T.wM (af (pv 0) aj ak)))) aj dR)) (vg rfl T.g6.choose_spec)))))),?_⟩
  rcases hv.gY K with ⟨m,a,xs,ts,rfl,rfl,rfl,ha,hN,EB,ps⟩ | ⟨ty,hty,ht,rfl,_⟩
  rotate_left
  ·exact⟨_,rfl,_,_,_,false,rfl,hty,.inl ⟨_,rfl,ht⟩,false,rfl,nA (k H (aG.refl H))⟩
  have hlx:=ps.length
  refine⟨_,rfl,_,_,_,true,rfl,.lst ha,.inl ⟨_,rfl,rfl⟩,true,rfl,gK ?_⟩
  have ek:uc (.list ts)=(decide (ts.length≤60) && ts.all kM && decide ((ts.map IS).sum≤400)):=rfl
  refine⟨_,rfl,a,_,rfl,.inl (bE.of ha),_,_,rfl,rfl,_,rfl,QO (fun h1=>?_) (fun h1=>?_)⟩
  ·rw[ek,decide_eq_false (by omega)] at k
   exact k H (aG.refl _)
  refine⟨_,rfl,a,rfl,⟨_,bE.of ha⟩,fun D hD=>?_⟩
  refine gF (K:=K) (a:=a) (xs:=xs) (fun i ys τ H2=>(∃ v,τ=[v])∧aG H H2∧H2 D=some (.lst ys)∧ys=((ts.take i).map kM).map V.bl) ⟨⟨_,rfl⟩,au hD,ah,rfl⟩ (fun i ys τ H2 _ p=>⟨bE.of (p.2.1 _ _ ha),p.2.2.1⟩) ?_ ?_
  ·rintro i e ys τ H2 hi ⟨⟨v,rfl⟩,s2,hl,rfl⟩
   have hil:i < xs.length:=(List.getElem?_eq_some_iff.mp hi).1
   obtain⟨r,hr,hb⟩:=aU ps i e hi
   refine rV ?_
   refine⟨_,rfl,N,m,e,r,rfl,hb.mono s2 (fun _ z=>z),fun H3 s3=>⟨s3 _ _ hl,?_,⟨_,rfl⟩,aZ hD (s2.trans s3),ah,?_⟩⟩
   ·rw[List.length_map,List.length_map,List.length_take]
    exact Nat.lt_of_le_of_lt (show _≤1000 by omega) (by decide)
   ·rw[bf hr,List.map_append,List.map_append];rfl
  ·rintro ys τ H2 ⟨⟨v,rfl⟩,s2,hl,rfl⟩
   rw[hlx,List.take_of_length_le (Nat.le_refl _)] at hl
   refine⟨D,ts.map kM,rfl,bE.of hl,?_⟩
   have ea:(ts.map kM).all id=ts.all kM:=by rw[List.all_map];rfl
   rw[ea]
   cases hA:ts.all kM with
   | false =>
    rw[ek,hA,Bool.and_false] at k
    exact⟨_,rfl,nA (k H2 s2)⟩
   | true =>
    rw[ek,hA,decide_eq_true (by omega)] at k
    obtain⟨t,rfl,tr⟩:=Es K ps hA
    rw[Mc] at k
    have tl:=IU (t:=t) (BE (fun a b ⟨_,_,_,q⟩=>q) tr)
    have htl:t.length≤60:=by rw[List.length_map] at hlx;omega
    refine⟨true,rfl,gK ?_⟩
    clear hl
    have ha2:=s2 _ _ ha
    refine⟨_,rfl,a,rfl,⟨_,bE.of ha2⟩,fun E hE=>?_⟩
    refine gF (K:=K) (a:=a) (xs:=xs) (fun i ys τ H3=>(∃ v,τ=[v])∧aG H2 H3∧H3 E=some (.lst ys)∧ys=((t.map fun r=>(lens r).sum).take i).map fun n:Nat=>V.int n) ⟨⟨_,rfl⟩,au hE,ah,rfl⟩ (fun i ys τ H3 _ p=>⟨bE.of (p.2.1 _ _ ha2),p.2.2.1⟩) ?_ ?_
    ·rintro i e ys τ H3 hi ⟨⟨v,rfl⟩,s3,hl,rfl⟩
     obtain⟨r,hr,b,rfl,hb,Xp,hr4⟩:=aU tr i e hi
     have hil:i < xs.length:=(List.getElem?_eq_some_iff.mp hi).1
     refine rV ?_
     refine⟨_,rfl,b,r,rfl,s3 _ _ (s2 _ _ hb),Xp,hr4,fun H4 s4=>⟨s4 _ _ hl,?_,⟨_,rfl⟩,aZ hE (s3.trans s4),ah,?_⟩⟩
     ·rw[List.length_map,List.length_take,List.length_map]
      exact Nat.lt_of_le_of_lt (show _≤60 by omega) (by decide)
     ·rw[bf (l:=t.map fun r=>(lens r).sum) (c:=(lens r).sum) (by rw[List.getElem?_map,hr];rfl),List.map_append];rfl
    ·rintro ys τ H3 ⟨⟨v,rfl⟩,s3,hl,rfl⟩
     have e:(t.map fun r=>(lens r).sum).take xs.length=t.map fun r=>(lens r).sum:=List.take_of_length_le (by rw[List.length_map,hlx,List.length_map];exact Nat.le_refl _)
     rw[e] at hl
     refine⟨E,t.map fun r=>(lens r).sum,rfl,bE.of hl,by omega,_,_,rfl,rfl,?_⟩
     have e2:decide ((((t.map fun r=>(lens r).sum).sum:Nat):Int)≤400)=decide ((t.map fun r=>(lens r).sum).sum≤400):=decide_eq_decide.mpr (by omega)
     have q:=k H3 (s2.trans s3)
     rw[show((true && true) && decide ((t.map fun r=>(lens r).sum).sum≤400))=decide ((t.map fun r=>(lens r).sum).sum≤400) from rfl,←e2] at q
     exact q
def lF (K:W.Frag):Sp:=fun vs H Q _=>∃(a:Addr) (r:List Str),vs=[.ref a]∧H a=some (.lst (r.map V.str))∧r.length≤20∧(lens r).sum≤400∧∀(l:Addr) (ys:List V) H',H l=none→H' l=some (.lst ys)→Paired (gM K H') ys (rZ r)→aG H H'→Q (.ref l) H'
theorem sL:aI P w K mg base bN 1 (az 17) (aL 17) ["row"] (lF K):=by
 refine T.mP.ok fL (fun vs H Q E h=>?_) (fun cdv A outer s H vs Q E hr h=>?_)
 ·obtain⟨a,r,rfl,_⟩:=h;rfl
 ·have hu:=aV hr
  have iD:=hr.aN
  obtain⟨a,r,rfl,ha,hr,hs,k⟩:=h
  refine⟨_,(ao (lg 1 fL.nd (br aj) (hs:=jk))
   (ao (kJ PassesOwn.never rfl (HK K rfl rfl T.zY (af (pv 0) aj ak)) (vf K rfl 2 rfl (iN (pG 2 fL.nd) (iN (pG 3 fL.nd) u0)))
   (ao (aR (jd vA (pv 2) ay) (aq (jj (nC K rfl PySem.F.plainAttrs_list PySem.F.slot_list_append PySem.F.type_list_append jD (pv 1) (af (f9 rfl T.KI) aj ak)))) aE)
   (aq (jj (nC K rfl PySem.F.plainAttrs_list PySem.F.slot_list_extend PySem.F.type_list_extend yH (pv 1) (af (fF rfl (show aX ["row", "tokens", "place", "cell"] (av cJ) ["sign"] 1 [] _ from CK) (vH (pv 3)) (fun _ _ _ _=>(pG 0 Fe)) (fun _ _ _ _=>eV) (fun _ _ _ _=>(aJ (af aA (af (pv 0) aj ak) ai)))) aj dR))))))
   (ao (jj (nC K rfl PySem.F.plainAttrs_list PySem.F.slot_list_append PySem.F.type_list_append jD (pv 1) (af (f9 rfl T.NB) aj ak)))
   (aq (aC (pv 1)))))),?_⟩
  refine⟨by decide,fun l hl=>?_⟩
  have s0:=au (o:=HO.lst []) hl
  have Rm:∀ n,n≤r.length→(rY r n).length≤420:=fun n hn=>by
   have:=v9 r n hn
   have h2:(lens (r.take n)).sum≤(lens r).sum:=by
    unfold lens;rw[List.map_take];exact nD _ _
   omega
  refine⟨_,rfl,a,rfl,⟨_,bE.of (s0 _ _ ha)⟩,?_⟩
  refine HL (K:=K) (a:=a) (xs:=r.map V.str) (fun i σ H2=>(∃ v1 v2,σ=[some (.ref a),some (.ref l),v1,v2])∧aG H H2∧∃ ys,H2 l=some (.lst ys)∧Paired (gM K H2) ys (rY r i)) ⟨⟨_,_,rfl⟩,s0,[],ah,.nil⟩ (fun i σ H2 _ q=>bE.of (q.2.1 _ _ ha)) ?_ ?_
  ·rintro i e t σ H2 hi ht ⟨⟨v1,v2,rfl⟩,s2,ys,hy,hp⟩
   have hil:i < r.length:=by
    have:=(List.getElem?_eq_some_iff.mp hi).1
    rwa [List.length_map] at this
   rw[List.getElem?_map] at hi
   cases hz:r[i]? with
   | none=>rw[hz] at hi;cases hi
   | some z =>
    rw[hz] at hi
    cases hi
    have V7:z.length≤400:=Nat.le_trans (BD (List.mem_of_getElem? hz)) hs
    have st:=au (o:=HO.tup [.int (i:Int),.str z]) ht
    have hb:=Rm i (by omega)
    have hyl:=hp.length
    refine⟨t,_,rfl,cB.of ah,rfl,_,_,rfl,_,_,rfl,rfl,?_⟩
    have hy1:=st _ _ hy
    have hp1:=cY (fun a b h=>gM.mono st h) hp
    have V9:=s2.trans st
    generalize upd H2 t (HO.tup [.int (i:Int),.str z])=H3 at st hy1 hp1 V9 ⊢
    clear hp hy s2 st
    refine Ff (t:=P5 _ _ _) (fun σ' H'=>σ'=[some (.ref a),some (.ref l),some (.int (i:Int)),some (.str z)]∧aG H H'∧∃ ws,H' l=some (.lst ws)∧Paired (gM K H') ws (rY r i++(if i=0 then [] else [Eo]))) ?_ (fun go=>?_)
    rotate_left
    ·refine⟨_,rfl,_,_,rfl,rfl,_,rfl,cu (fun h=>?_) (fun h=>?_)⟩
     ·have h0:(0:Int) < i:=of_decide_eq_true h
      refine⟨_,rfl,.inl ⟨rfl,_,bE.of hy1⟩,l,ys,_,rfl,rfl,hy1,Nat.lt_of_le_of_lt (show ys.length≤420 by omega) (by decide),go _ _ ⟨rfl,aZ hl V9,_,ah,?_⟩⟩
      rw[if_neg (by omega)]
      exact cY (fun a b h=>gM.but hy1 h) (fu hp1 ⟨(az 65),rfl,.inr T.KJ⟩)
     ·have h0:i=0:=by
       have:¬(0:Int) < i:=fun q=>h (decide_eq_true q)
       omega
      refine go _ _ ⟨rfl,V9,ys,hy1,?_⟩
      rw[if_pos h0,List.append_nil]
      exact hp1
    clear hy1 hp1 V9 hyl
    rintro σ' H4 ⟨rfl,s4,ws,hw,hpw⟩
    have hwl:=hpw.length
    have aaW:ws.length≤421:=by
     rw[hwl,List.length_append]
     split
     ·simp;omega
     ·show _+1≤421;omega
    refine⟨_,rfl,.inl ⟨rfl,_,bE.of hw⟩,_,rfl,z,rfl,fun D hD=>?_⟩
    refine qB (fun j zs τ H5=>(∃ v,τ=[v])∧aG H4 H5∧H5 D=some (.lst zs)∧Paired (gM K H5) zs ((z.cps.toList.take j).map fun c=>(Str.ofString "put",sg c))) ⟨⟨_,rfl⟩,au hD,ah,.nil⟩ (fun j zs τ H5 _ p=>p.2.2.1) ?_ ?_
    ·rintro j c zs τ H5 hj ⟨⟨v,rfl⟩,s5,h5,Pw⟩
     have hjl:j < z.cps.toList.length:=(List.getElem?_eq_some_iff.mp hj).1
     rw[Array.length_toList] at hjl
     have hjl:j < z.length:=hjl
     have KL:=Pw.length
     rw[List.length_map,List.length_take] at KL
     refine rV ?_
     refine⟨_,rfl,(by show 2≤sizeLine;decide),fun u hu5=>?_⟩
     have s6:=au (o:=HO.tup [.str ("put":Str),.str (sg c)]) hu5
     refine⟨s6 _ _ h5,Nat.lt_of_le_of_lt (show zs.length≤400 by omega) (by decide),⟨_,rfl⟩,aZ hD (s5.trans s6),ah,?_⟩
     rw[bf hj,List.map_append]
     exact cY (fun a b h=>gM.but (s6 _ _ h5) h) (fu (cY (fun a b h=>gM.mono s6 h) Pw) ⟨u,rfl,cB.of ah⟩)
    ·rintro zs τ H5 ⟨⟨v,rfl⟩,s5,h5,Pw⟩
     rw[List.take_of_length_le (Nat.le_refl _)] at Pw
     have KL:=Pw.length
     rw[List.length_map,Array.length_toList] at KL
     have KL:zs.length=z.length:=KL
     have hw5:=s5 _ _ hw
     refine⟨l,D,ws,zs,rfl,rfl,hw5,h5,Nat.le_trans (show ws.length+zs.length≤1000 by omega) (by decide),⟨_,_,rfl⟩,aZ hl (s4.trans s5),_,ah,?_⟩
     rw[yV hz,←List.append_assoc]
     exact cY (fun a b h=>gM.but hw5 h) (dW (cY (fun a b h=>gM.mono s5 h) hpw) Pw)
  ·rintro σ H2 ⟨⟨v1,v2,rfl⟩,s2,ys,hy,hp⟩
   rw[List.length_map] at hp
   have hb:=Rm r.length (Nat.le_refl _)
   have hyl:=hp.length
   refine⟨_,rfl,.inl ⟨rfl,_,bE.of hy⟩,l,ys,_,rfl,rfl,hy,Nat.lt_of_le_of_lt (show ys.length≤420 by omega) (by decide),?_⟩
   refine⟨_,rfl,k l _ _ hl ah ?_ (aZ hl s2)⟩
   exact cY (fun a b h=>gM.but hy h) (fu hp ⟨(az 66),rfl,.inr T.NC⟩)
def ow (K:W.Frag) (CN:Addr):Sp:=fun vs H Q E=>∃(N:Addr→Prop) (n:Nat) (v:V) (u:Tr),vs=[v]∧Rp N n H v u∧(uc u=true→∀ H',aG H H'→Q .non H')∧(uc u=false→∀ H',aG H H'→E (.ref CN) none H')
theorem xr:aI P w K mg base (xK P w) 6 (az 18) (aL 18) ["thing"] (ow K (az 57)):=by
 have Dd:aI P w K mg base bN 5 (az 16) (aL 16) ["thing"] (tQ K):=BW T
 refine T.pI.Xa wD (fun vs H Q E h=>?_) (fun cdv A outer s H vs Q E hr h=>?_)
 ·obtain⟨N,n,v,u,rfl,_⟩:=h;rfl
 ·have hu:=aV hr
  have iD:=hr.aN
  obtain⟨N,n,v,u,rfl,hv,k,kE⟩:=h
  refine⟨_,(aq (aR (fP (bZ (kc Dd hr T.C7 T.wO.kp T.C6 (af (pv 0) aj ak)))) (aq (Ih rfl T.fO (.inr ⟨_,_,rfl,T.bh⟩) rfl T.zg (af aA aj ai))) aE)),?_⟩
  refine⟨_,rfl,N,n,v,u,rfl,hv,fun H1 s1=>⟨_,rfl,?_⟩⟩
  by_cases hT:uc u=true
  ·exact L4 hT (k hT H1 s1)
  ·exact L5 (qF hT) ⟨by decide,kE (qF hT) H1 s1⟩
def jq (K:W.Frag) (CN:Addr):Sp:=fun vs H Q E=>(∃(a:Addr) (xs:List V) (t:List (List Str)),vs=[.ref a]∧H a=some (.lst xs)∧Paired (p9 H) xs t∧TabOk t∧∀(l:Addr) (ys:List V) H',H l=none→H' l=some (.lst ys)→Paired (gM K H') ys (cF t)→aG H H'→Q (.ref l) H')∨(∃(N:Addr→Prop) (n:Nat) (v:V) (u:Tr),vs=[v]∧Rp N n H v u∧uc u=false∧∀ H',aG H H'→E (.ref CN) none H')
theorem mw:aI P w K mg base (xK P w) 7 (az 19) (aL 19) ["table"] (jq K (az 57)):=by
 have xY:aI P w K mg base (xK P w) 6 (az 18) (aL 18) ["thing"] (ow K (az 57)):=xr T
 have uC:aI P w K mg base bN 1 (az 17) (aL 17) ["row"] (lF K):=sL T
 refine T.ko.Xa lV (fun vs H Q E h=>?_) (fun cdv A outer s H vs Q E hr h=>?_)
 ·rcases h with ⟨a,xs,t,rfl,_⟩ | ⟨N,n,v,u,rfl,_⟩ <;> rfl
 ·have hu:=aV hr
  have iD:=hr.aN
  refine⟨_,(ao (jj (oO (k:=6) xY (hr.mono (by decide)) rfl T.xS T.pI.kp T.xR .nil LR (af (pv 0) aj ak)))
   (ao (lg 1 lV.nd (br aj) (hs:=jk))
   (ao (kJ PassesOwn.leaving rfl (cC K rfl (pv 0)) (pG 2 lV.nd)
   (aq (jj (nC K rfl PySem.F.plainAttrs_list PySem.F.slot_list_extend PySem.F.type_list_extend yH (pv 1) (af (kc uC hr T.ur T.mP.kp T.uq (af (pv 2) aj ak)) aj jl)))))
   (aq (aC (pv 1)))))),?_⟩
  rcases h with ⟨a,xs,t,rfl,ha,tr,g,k⟩ | ⟨N,n,v,u,rfl,hv,hT,kE⟩
  rotate_left
  ·exact⟨_,rfl,N,n,v,u,rfl,hv,(fun e=>by rw[hT] at e;cases e),fun _ H1 s1=>kE H1 s1⟩
  have hlx:=tr.length
  refine⟨_,rfl,_,2,_,_,rfl,Nu ha tr g,(fun _ H1 s1=>?_),(fun e=>by rw[g.q] at e;cases e)⟩
  refine⟨by decide,fun l hl=>?_⟩
  have s0:=s1.trans (au (o:=HO.lst []) hl)
  have EB:H l=none:=s1.free hl
  refine⟨_,rfl,a,rfl,⟨_,bE.of (s0 _ _ ha)⟩,?_⟩
  refine kW (K:=K) (a:=a) (xs:=xs) (fun i σ H2=>(∃ v,σ=[some (.ref a),some (.ref l),v])∧aG H H2∧∃ ys,H2 l=some (.lst ys)∧Paired (gM K H2) ys (cF (t.take i))) ⟨⟨_,rfl⟩,s0,[],ah,.nil⟩ (fun i σ H2 _ q=>bE.of (q.2.1 _ _ ha)) ?_ ?_
  ·rintro i e σ H2 hi ⟨⟨v,rfl⟩,s2,ys,hy,hp⟩
   obtain⟨r,hr,b,rfl,hb⟩:=aU tr i e hi
   have hrt:=List.mem_of_getElem? hr
   have b1:=wc g i
   have b2:=wc g (i+1)
   rw[bf hr,nJ,List.length_append] at b2
   have hyl:=hp.length
   refine⟨_,rfl,.inl ⟨rfl,_,bE.of hy⟩,_,rfl,b,r,rfl,s2 _ _ hb,(g.rows r hrt).hi,Nat.le_trans (En hrt) g.sum,fun m zs H3 hm h3 hp3 s3=>?_⟩
   have KL:=hp3.length
   have hy3:=s3 _ _ hy
   refine⟨l,m,ys,zs,rfl,rfl,hy3,h3,Nat.le_trans (show ys.length+zs.length≤1600 by omega) (by decide),⟨_,rfl⟩,aZ EB (s2.trans s3),_,ah,?_⟩
   rw[bf hr,nJ]
   exact cY (fun a b h=>gM.but hy3 h) (dW (cY (fun a b h=>gM.mono s3 h) hp) hp3)
  ·rintro σ H2 ⟨⟨v,rfl⟩,s2,ys,hy,hp⟩
   rw[hlx,List.take_of_length_le (Nat.le_refl _)] at hp
   exact⟨_,rfl,k l ys H2 EB hy hp s2⟩
def mV (K:W.Frag):Sp:=fun vs H Q _=>∃(l:Addr) (ys:List V) (ts:List (Str×Str)) (n:Nat) (kd s:Str),vs=[.ref l,.int n,.str kd,.str s]∧H l=some (.lst ys)∧Paired (gM K H) ys ts∧∀ H',aG H H'→Q (Xm (CU ts n kd s)) H'
theorem uD:aI P w K mg base bN 1 (az 20) (aL 20) ["tokens", "count", "kind", "sign"] (mV K):=by
 refine T.nW.ok mO (fun vs H Q E h=>?_) (fun cdv A outer s H vs Q E hr h=>?_)
 ·obtain⟨l,ys,ts,n,kd,s,rfl,_⟩:=h;rfl
 ·have hu:=aV hr
  have iD:=hr.aN
  obtain⟨l,ys,ts,n,kd,s,rfl,hl,tp,k⟩:=h
  have qo:=hr.units
  refine⟨_,(ao (aR (jd cI (pv 2) aA) (aq (aC (pv 1))) aE)
   (ao (lg 4 mO.nd (aJ (af (pv 2) (af (qx (jd cI (pv 2) aA) (pv 3) aA) aj vV) ak)) (hs:=Ir))
   (ao (aR (PW.pt (nj (jd D5 (pv 1) (nH (bO K rfl) T.gA (af (pv 0) aj ak))) (j8 (jd (Ib (YL _ _ K) rfl (hn0 qo)) (CL K (pv 0) (pv 1)) (pv 4))))) (aq (aC (aK jH (pv 1) ay))) aE)
   (aq (aC cX))))),?_⟩
  unfold CU at k
  have tl:=tp.length
  refine⟨_,rfl,rfl,_,rfl,cu (fun (h1:ck kd ("skip":Str)=true)=>?_) (fun (h1:¬ck kd ("skip":Str)=true)=>?_)⟩
  ·rw[if_pos h1] at k
   exact⟨_,rfl,k H (aG.refl _)⟩
  rw[if_neg h1] at k
  refine⟨_,rfl,_,rfl,rfl,_,rfl,cu (fun (h2:ck kd ("put":Str)=true)=>?_) (fun (h2:¬ck kd ("put":Str)=true)=>?_)⟩
  ·rw[if_pos h2] at k
   refine⟨_,rfl,(by show 2≤sizeLine;decide),fun t ht=>?_⟩
   (have s1:=au (o:=HO.tup [V.str kd,V.str s]) ht;have g1:=ah (H:=H) (a:=t) (o:=HO.tup [V.str kd,V.str s]);generalize upd H t (HO.tup [V.str kd,V.str s])=H1 at s1 g1 ⊢)
   have hl1:=s1 _ _ hl
   dsimp only[d8]
   refine⟨_,rfl,_,rfl,l,_,rfl,.inl (bE.of hl1),_,_,rfl,rfl,_,rfl,cu (fun h3=>?_) (fun h3=>?_)⟩
   ·have h3:=of_decide_eq_true h3
    have hn:n < ys.length:=by omega
    obtain⟨y,hy⟩:∃ y,ys[n]? = some y:=⟨_,List.getElem?_eq_getElem hn⟩
    obtain⟨⟨k1,s2⟩,ht1,a,rfl,ha⟩:=aU tp n y hy
    have hat:Ht ys (n:Int)=some (.ref a):=ve hy
    refine⟨_,rfl,_,rfl,l,_,_,.ref a,rfl,rfl,bE.of hl1,hat,_,rfl,a,t,_,_,rfl,rfl,qE (aQ s1 ha),qE (cB.of g1),_,rfl,cu (fun h4=>?_) (fun h4=>?_)⟩
    ·have h4:=kZ.mp (of_decide_eq_true h4)
     rw[ht1,if_pos (by rw[h4])] at k
     have kk:=k H1 s1
     exact⟨_,rfl,_,_,rfl,rfl,kk⟩
    ·have h4:¬(k1,s2)=(kd,s):=fun q=>h4 (decide_eq_true (kZ.mpr q))
     rw[ht1,if_neg (fun q=>h4 (Option.some.inj q))] at k
     exact k H1 s1
   ·have h3:=of_decide_eq_false (Bool.eq_false_iff.mpr h3)
    have hn:ts[n]? = none:=List.getElem?_eq_none (by omega)
    rw[hn,if_neg (fun q=>nomatch q)] at k
    exact k H1 s1
  ·rw[if_neg h2] at k
   refine⟨(by show 2≤sizeLine;decide),fun t ht=>?_⟩
   (have s1:=au (o:=HO.tup [V.str kd,V.str ("":Str)]) ht;have g1:=ah (H:=H) (a:=t) (o:=HO.tup [V.str kd,V.str ("":Str)]);generalize upd H t (HO.tup [V.str kd,V.str ("":Str)])=H1 at s1 g1 ⊢)
   have hl1:=s1 _ _ hl
   dsimp only[d8]
   refine⟨_,rfl,_,rfl,l,_,rfl,.inl (bE.of hl1),_,_,rfl,rfl,_,rfl,cu (fun h3=>?_) (fun h3=>?_)⟩
   ·have h3:=of_decide_eq_true h3
    have hn:n < ys.length:=by omega
    obtain⟨y,hy⟩:∃ y,ys[n]? = some y:=⟨_,List.getElem?_eq_getElem hn⟩
    obtain⟨⟨k1,s2⟩,ht1,a,rfl,ha⟩:=aU tp n y hy
    have hat:Ht ys (n:Int)=some (.ref a):=ve hy
    refine⟨_,rfl,_,rfl,l,_,_,.ref a,rfl,rfl,bE.of hl1,hat,_,rfl,a,t,_,_,rfl,rfl,qE (aQ s1 ha),qE (cB.of g1),_,rfl,cu (fun h4=>?_) (fun h4=>?_)⟩
    ·have h4:=kZ.mp (of_decide_eq_true h4)
     rw[ht1,if_pos (by rw[h4])] at k
     have kk:=k H1 s1
     exact⟨_,rfl,_,_,rfl,rfl,kk⟩
    ·have h4:¬(k1,s2)=(kd,Str.ofString ""):=fun q=>h4 (decide_eq_true (kZ.mpr q))
     rw[ht1,if_neg (fun q=>h4 (Option.some.inj q))] at k
     exact k H1 s1
   ·have h3:=of_decide_eq_false (Bool.eq_false_iff.mpr h3)
    have hn:ts[n]? = none:=List.getElem?_eq_none (by omega)
    rw[hn,if_neg (fun q=>nomatch q)] at k
    exact k H1 s1
def xu (K:W.Frag) (C:Addr):Sp:=fun vs H Q _=>∃(x dx s:Addr) (w u:Str) (p q f:Str) (b1 b2 b3 b4:Bool),vs=[.ref x,.ref s]∧H x=some (.ins C dx (zF p q f b1 b2 b3 b4))∧cB K H s [.str w,.str u]∧Q (.bl (yU f w u)) H
theorem De:aI P w K mg base bN 1 (az 21) (aL 21) ["dialect", "state"] (xu K (az 49)):=by
 refine T.zb.ok C3 (fun vs H Q E h=>?_) (fun cdv A outer s H vs Q E hr h=>?_)
 ·obtain⟨x,dx,s,w,u,p,q,f,b1,b2,b3,b4,rfl,_⟩:=h;rfl
 ·have hu:=aV hr
  have iD:=hr.aN
  obtain⟨x,dx,s,w,u,p,q,f,b1,b2,b3,b4,rfl,hx,hs,k⟩:=h
  unfold yU at k
  refine⟨_,(ao (aR (PW.pt (nk (jd cI (m5 K (pv 1) ay) aA) (lM (jd cI (m5 K (pv 1) ay) aA)))) (aq (aC jF)) aE)
   (aq (aC (D6 lP (m5 K (pv 1) ay) (aO K rfl (pv 0) rfl) rfl)))),?_⟩
  refine⟨_,rfl,s,_,_,_,rfl,rfl,hs,rfl,rfl,_,rfl,cu (fun (h1:ck u ("":Str)=true)=>nA ?_) (fun (h1:¬ck u ("":Str)=true)=>?_)⟩
  ·rw[if_pos h1] at k
   exact k
  rw[if_neg h1] at k
  refine⟨_,rfl,s,_,_,_,rfl,rfl,hs,rfl,rfl,_,rfl,cu (fun (h2:ck w ("doubt":Str)=true)=>?_) (fun (h2:¬ck w ("doubt":Str)=true)=>?_)⟩
  ·rw[if_pos h2] at k
   exact k
  rw[if_neg h2] at k
  exact⟨_,rfl,s,_,_,_,rfl,rfl,hs,rfl,_,rfl,x,(az 49),dx,_,_,rfl,hx,T.aF,T.bC,rfl,_,_,rfl,rfl,k⟩
def iU (K:W.Frag) (C:Addr):Sp:=fun vs H Q _=>∃(x dx:Addr) (p q f:Str) (b1 b2 b3 b4:Bool) (s:Addr) (w u:Str) (c:Nat),vs=[.ref x,.ref s,.str (sg c)]∧H x=some (.ins C dx (zF p q f b1 b2 b3 b4))∧cB K H s [.str w,.str u]∧∀ v H',aG H H'→xM K H' v (jP p q f b3 w u c)→Q v H'
theorem oz:aI P w K mg base bN 1 (az 22) (aL 22) ["dialect", "state", "sign"] (iU K (az 49)):=by
 refine T.jf.ok nO (fun vs H Q E h=>?_) (fun cdv A outer s H vs Q E hr h=>?_)
 ·obtain⟨x,dx,p,q,f,b1,b2,b3,b4,s,w,u,c,rfl,_⟩:=h;rfl
 ·have hu:=aV hr
  have iD:=hr.aN
  obtain⟨x,dx,p,q,f,b1,b2,b3,b4,s,w,u,c,rfl,hx,hs,k⟩:=h
  refine'⟨_,?aa,?bb⟩
  case aa =>
   refine' ao ?s0 ?r0
   case s0 =>
    refine' aR ?c1 ?b1 ?e1
    case c1=>exact(gQ gD (pv 2) (aO K rfl (pv 0) rfl) rfl)
    case b1 =>
     refine' aq ?s2
     case s2 =>
      refine' aC ?v3
      case v3 =>
       refine' aJ ?a4
       case a4 =>
        refine' af ?x5 ?y5 ?z5
        case z5=>exact ai
        case x5 =>
         exact aA
        case y5 =>
         refine' af ?x6 ?y6 ?z6
         case z6=>exact cg
         case x6 =>
          refine' aJ ?a7
          case a7 =>
           refine' af ?x8 ?y8 ?z8
           case z8=>exact ai
           case x8 =>
            exact aA
           case y8 =>
            refine' af ?x9 ?y9 ?z9
            case z9=>exact ai
            case x9 =>
             exact aA
            case y9 =>
             exact aj
         case y6 =>
          exact aj
    case e1 =>
     exact aE
   case r0 =>
    refine' ao ?GS ?FJ
    case GS =>
     refine' aR ?NF ?JE ?Mh
     case NF=>exact(jd cI (pv 2) (lQ rfl T.mq.choose_spec))
     case JE =>
      refine' aq ?s12
      case s12 =>
       refine' aC ?Rn
       case Rn =>
        refine' aJ ?KN
        case KN =>
         refine' af ?KO ?KP ?KQ
         case KQ=>exact ai
         case KO =>
          exact aA
         case KP =>
          refine' af ?KR ?KS ?KU
          case KU=>exact ak
          case KR =>
           exact(f9 rfl T.oq)
          case KS =>
           exact aj
     case Mh =>
      exact aE
    case FJ =>
     refine' ao ?NG ?NH
     case NG =>
      refine' aR ?KW ?KY ?NI
      case KW=>exact(gQ gD (pv 2) (aO K rfl (pv 0) rfl) rfl)
      case KY =>
       refine' aq ?NJ
       case NJ =>
        refine' aC ?v20
        case v20 =>
         refine' aJ ?KZ
         case KZ =>
          refine' af ?K0 ?K1 ?K2
          case K2=>exact ai
          case K0 =>
           exact aA
          case K1 =>
           refine' af ?NK ?NL ?NN
           case NN=>exact cg
           case NK =>
            refine' aJ ?NO
            case NO =>
             refine' af ?Ro ?Rq ?Rr
             case Rr=>exact ai
             case Ro =>
              exact aA
             case Rq =>
              refine' af ?NP ?NQ ?NR
              case NR=>exact ak
              case NP =>
               exact(pv 2)
              case NQ =>
               exact aj
           case NL =>
            exact aj
      case NI =>
       exact aE
     case NH =>
      refine' ao ?Rt ?Xq
      case Rt =>
       refine' aR ?Ru ?Rv ?Xr
       case Ru=>exact(gQ gD (pv 2) (aO K rfl (pv 0) rfl) rfl)
       case Rv =>
        refine' aq ?Xs
        case Xs =>
         refine' aC ?v30
         case v30 =>
          refine' aJ ?Rw
          case Rw =>
           refine' af ?Xu ?Xv ?Xw
           case Xw=>exact ai
           case Xu =>
            exact aA
           case Xv =>
            refine' af ?Rx ?Ry ?Rz
            case Rz=>exact cg
            case Rx =>
             refine' aJ ?Xx
             case Xx =>
              refine' af ?Xy ?Xz ?XA
              case XA=>exact ai
              case Xy =>
               exact aA
              case Xz =>
               refine' af ?x36 ?y36 ?z36
               case z36=>exact ai
               case x36 =>
                exact aA
               case y36 =>
                exact aj
            case Ry =>
             exact aj
       case Xr =>
        exact aE
      case Xq =>
       refine' ao ?XC ?XD
       case XC =>
        refine' aR ?RA ?RB ?XE
        case RA=>exact(PW.pt (nj (jd cI (pv 2) aA) (j8 (bZ (aO K rfl (pv 0) rfl)))))
        case RB =>
         refine' aq ?XF
         case XF =>
          refine' aC ?v40
          case v40 =>
           refine' aJ ?XG
           case XG =>
            refine' af ?x42 ?y42 ?z42
            case z42=>exact ai
            case x42 =>
             exact aA
            case y42 =>
             refine' af ?XH ?XI ?XJ
             case XJ=>exact ak
             case XH =>
              exact(pv 1)
             case XI =>
              exact aj
        case XE =>
         exact aE
       case XD =>
        refine' aq ?s44
        case s44 =>
         refine' aC ?v45
         case v45 =>
          refine' aJ ?XM
          case XM =>
           refine' af ?XO ?XQ ?XR
           case XR=>exact ai
           case XO =>
            exact aA
           case XQ =>
            refine' af ?XS ?XT ?XU
            case XU=>exact cg
            case XS =>
             refine' aJ ?a49
             case a49 =>
              refine' af ?XW ?XX ?XY
              case XY=>exact ai
              case XW =>
               exact aA
              case XX =>
               refine' af ?XZ ?X0 ?X3
               case X3=>exact ai
               case XZ =>
                exact aA
               case X0 =>
                exact aj
            case XT =>
             exact aj
  have e2:ck (sg c) (wI 0)=ck (sg c) (Str.ofString "\n"):=by rw[T.jo]
  refine⟨_,rfl,_,rfl,x,(az 49),dx,_,_,rfl,hx,T.aF,T.bC,rfl,_,_,rfl,rfl,_,rfl,cu (fun (h1:p7 c f=true)=>?_) (fun (h1:¬p7 c f=true)=>?_)⟩
  ·exact fX (by unfold jP;rw[if_pos h1]) kg k
  refine⟨_,rfl,rfl,_,rfl,cu (fun (h2:ck (sg c) (wI 0)=true)=>?_) (fun (h2:¬ck (sg c) (wI 0)=true)=>?_)⟩
  ·rw[e2] at h2
   exact zG (by unfold jP;rw[if_neg h1,if_pos h2]) CO (aG.refl _) (.inr T.ou) k
  rw[e2] at h2
  refine⟨_,rfl,_,rfl,x,(az 49),dx,_,_,rfl,hx,T.aF,T.bM,rfl,_,_,rfl,rfl,_,rfl,cu (fun (h3:p7 c q=true)=>?_) (fun (h3:¬p7 c q=true)=>?_)⟩
  ·exact⟨_,rfl,fX (by unfold jP;rw[if_neg h1,if_neg h2,if_pos h3]) kg k⟩
  refine⟨_,rfl,_,rfl,x,(az 49),dx,_,_,rfl,hx,T.aF,T.bG,rfl,_,_,rfl,rfl,_,rfl,cu (fun (h4:p7 c p=true)=>?_) (fun (h4:¬p7 c p=true)=>?_)⟩
  ·exact fX (by unfold jP;rw[if_neg h1,if_neg h2,if_neg h3,if_pos h4]) zH k
  refine⟨_,rfl,rfl,_,rfl,cu (fun (h5:ck (sg c) (" ":Str)=true)=>?_) (fun (h5:¬ck (sg c) (" ":Str)=true)=>?_)⟩
  ·refine⟨_,rfl,x,(az 49),dx,_,_,rfl,hx,T.aF,T.dJ,rfl,_,rfl,cu (fun (h6:b3=true)=>?_) (fun (h6:¬b3=true)=>?_)⟩
   ·exact⟨_,rfl,zG (by unfold jP;rw[if_neg h1,if_neg h2,if_neg h3,if_neg h4,if_pos h5,if_pos h6]) kg (aG.refl _) hs k⟩
   exact fX (by unfold jP;rw[if_neg h1,if_neg h2,if_neg h3,if_neg h4,if_pos h5,if_neg h6]) jO k
  refine gK ?_
  exact fX (by unfold jP;rw[if_neg h1,if_neg h2,if_neg h3,if_neg h4,if_neg h5]) jO k
def lG (K:W.Frag) (C:Addr):Sp:=fun vs H Q _=>∃(x dx:Addr) (p q f:Str) (b1 b2 b3 b4:Bool) (c:Nat),vs=[.ref x,.str (sg c)]∧H x=some (.ins C dx (zF p q f b1 b2 b3 b4))∧∀ v H',aG H H'→xM K H' v (jQ p q f b4 c)→Q v H'
theorem sM:aI P w K mg base bN 1 (az 23) (aL 23) ["dialect", "sign"] (lG K (az 49)):=by
 refine T.mQ.ok sq (fun vs H Q E h=>?_) (fun cdv A outer s H vs Q E hr h=>?_)
 ·obtain⟨x,dx,p,q,f,b1,b2,b3,b4,c,rfl,_⟩:=h;rfl
 ·have hu:=aV hr
  have iD:=hr.aN
  obtain⟨x,dx,p,q,f,b1,b2,b3,b4,c,rfl,hx,k⟩:=h
  refine'⟨_,?aa,?bb⟩
  case aa =>
   refine' ao ?s0 ?r0
   case s0 =>
    refine' aR ?c1 ?b1 ?e1
    case c1=>exact(gQ gD (pv 1) (aO K rfl (pv 0) rfl) rfl)
    case b1 =>
     refine' aq ?s2
     case s2 =>
      refine' aC ?v3
      case v3 =>
       refine' aJ ?a4
       case a4 =>
        refine' af ?x5 ?y5 ?z5
        case z5=>exact ai
        case x5 =>
         exact aA
        case y5 =>
         refine' af ?x6 ?y6 ?z6
         case z6=>exact cg
         case x6 =>
          refine' aJ ?a7
          case a7 =>
           refine' af ?x8 ?y8 ?z8
           case z8=>exact ai
           case x8 =>
            exact aA
           case y8 =>
            refine' af ?x9 ?y9 ?z9
            case z9=>exact ai
            case x9 =>
             exact aA
            case y9 =>
             exact aj
         case y6 =>
          exact aj
    case e1 =>
     exact aE
   case r0 =>
    refine' ao ?GS ?FJ
    case GS =>
     refine' aR ?NF ?JE ?Mh
     case NF=>exact(jd cI (pv 1) (lQ rfl T.mq.choose_spec))
     case JE =>
      refine' aq ?s12
      case s12 =>
       refine' aC ?Rn
       case Rn =>
        refine' aJ ?KN
        case KN =>
         refine' af ?KO ?KP ?KQ
         case KQ=>exact ai
         case KO =>
          exact aA
         case KP =>
          refine' af ?KR ?KS ?KU
          case KU=>exact ak
          case KR =>
           exact(f9 rfl T.oq)
          case KS =>
           exact aj
     case Mh =>
      exact aE
    case FJ =>
     refine' ao ?NG ?NH
     case NG =>
      refine' aR ?KW ?KY ?NI
      case KW=>exact(gQ gD (pv 1) (aO K rfl (pv 0) rfl) rfl)
      case KY =>
       refine' aq ?NJ
       case NJ =>
        refine' aC ?v20
        case v20 =>
         refine' aJ ?KZ
         case KZ =>
          refine' af ?K0 ?K1 ?K2
          case K2=>exact ai
          case K0 =>
           exact aA
          case K1 =>
           refine' af ?NK ?NL ?NN
           case NN=>exact cg
           case NK =>
            refine' aJ ?NO
            case NO =>
             refine' af ?Ro ?Rq ?Rr
             case Rr=>exact ai
             case Ro =>
              exact aA
             case Rq =>
              refine' af ?NP ?NQ ?NR
              case NR=>exact ai
              case NP =>
               exact aA
              case NQ =>
               exact aj
           case NL =>
            exact aj
      case NI =>
       exact aE
     case NH =>
      refine' ao ?Rt ?Xq
      case Rt =>
       refine' aR ?Ru ?Rv ?Xr
       case Ru=>exact(PW.pt (nj (gQ gD (pv 1) (aO K rfl (pv 0) rfl) rfl) (j8 (fP (bZ (aO K rfl (pv 0) rfl))))))
       case Rv =>
        refine' aq ?Xs
        case Xs =>
         refine' aC ?v30
         case v30 =>
          refine' aJ ?Rw
          case Rw =>
           refine' af ?Xu ?Xv ?Xw
           case Xw=>exact ai
           case Xu =>
            exact aA
           case Xv =>
            refine' af ?Rx ?Ry ?Rz
            case Rz=>exact ai
            case Rx =>
             exact aA
            case Ry =>
             exact aj
       case Xr =>
        exact aE
      case Xq =>
       refine' aq ?s34
       case s34 =>
        refine' aC ?v35
        case v35 =>
         refine' aJ ?X4
         case X4 =>
          refine' af ?x37 ?y37 ?z37
          case z37=>exact ai
          case x37 =>
           exact aA
          case y37 =>
           refine' af ?x38 ?y38 ?z38
           case z38=>exact cg
           case x38 =>
            refine' aJ ?X5
            case X5 =>
             refine' af ?x40 ?y40 ?z40
             case z40=>exact ai
             case x40 =>
              exact aA
             case y40 =>
              refine' af ?x41 ?y41 ?z41
              case z41=>exact ai
              case x41 =>
               exact aA
              case y41 =>
               exact aj
           case y38 =>
            exact aj
  have e2:ck (sg c) (wI 0)=ck (sg c) (Str.ofString "\n"):=by rw[T.jo]
  refine⟨_,rfl,_,rfl,x,(az 49),dx,_,_,rfl,hx,T.aF,T.bC,rfl,_,_,rfl,rfl,_,rfl,cu (fun (h1:p7 c f=true)=>?_) (fun (h1:¬p7 c f=true)=>?_)⟩
  ·exact fX (by unfold jQ;rw[if_pos h1]) kg k
  refine⟨_,rfl,rfl,_,rfl,cu (fun (h2:ck (sg c) (wI 0)=true)=>?_) (fun (h2:¬ck (sg c) (wI 0)=true)=>?_)⟩
  ·rw[e2] at h2
   exact zG (by unfold jQ;rw[if_neg h1,if_pos h2]) CO (aG.refl _) (.inr T.ou) k
  rw[e2] at h2
  refine⟨_,rfl,_,rfl,x,(az 49),dx,_,_,rfl,hx,T.aF,T.bG,rfl,_,_,rfl,rfl,_,rfl,cu (fun (h3:p7 c p=true)=>?_) (fun (h3:¬p7 c p=true)=>?_)⟩
  ·exact fX (by unfold jQ;rw[if_neg h1,if_neg h2,if_pos h3]) zH k
  refine⟨_,rfl,_,rfl,x,(az 49),dx,_,_,rfl,hx,T.aF,T.bM,rfl,_,_,rfl,rfl,_,rfl,cu (fun (h4:p7 c q=true)=>?_) (fun (h4:¬p7 c q=true)=>?_)⟩
  ·refine⟨_,rfl,x,(az 49),dx,_,_,rfl,hx,T.aF,T.eB,rfl,_,rfl,cu (fun (h5:(!b4)=true)=>?_) (fun (h5:¬(!b4)=true)=>?_)⟩
   ·exact vY (by unfold jQ;rw[if_neg h1,if_neg h2,if_neg h3,if_pos h4,if_pos h5]) k
   exact fX (by unfold jQ;rw[if_neg h1,if_neg h2,if_neg h3,if_pos h4,if_neg h5]) jO k
  refine gK ?_
  exact fX (by unfold jQ;rw[if_neg h1,if_neg h2,if_neg h3,if_neg h4]) jO k
def oA (K:W.Frag) (C:Addr):Sp:=fun vs H Q _=>∃(x dx:Addr) (p q f:Str) (b1 b2 b3 b4:Bool) (u:Str) (c:Nat),vs=[.ref x,.str u,.str (sg c)]∧H x=some (.ins C dx (zF p q f b1 b2 b3 b4))∧∀ v H',aG H H'→xM K H' v (gX f b1 b2 u c)→Q v H'
theorem xw:aI P w K mg base bN 1 (az 24) (aL 24) ["dialect", "quote", "sign"] (oA K (az 49)):=by
 refine T.pJ.ok wF (fun vs H Q E h=>?_) (fun cdv A outer s H vs Q E hr h=>?_)
 ·obtain⟨x,dx,p,q,f,b1,b2,b3,b4,u,c,rfl,_⟩:=h;rfl
 ·have hu:=aV hr
  have iD:=hr.aN
  obtain⟨x,dx,p,q,f,b1,b2,b3,b4,u,c,rfl,hx,k⟩:=h
  refine'⟨_,?aa,?bb⟩
  case aa =>
   refine' ao ?s0 ?r0
   case s0 =>
    refine' aR ?c1 ?b1 ?e1
    case c1=>exact(gQ gD (pv 2) (aO K rfl (pv 0) rfl) rfl)
    case b1 =>
     refine' aq ?s2
     case s2 =>
      refine' aC ?v3
      case v3 =>
       refine' aJ ?a4
       case a4 =>
        refine' af ?x5 ?y5 ?z5
        case z5=>exact ai
        case x5 =>
         exact aA
        case y5 =>
         refine' af ?x6 ?y6 ?z6
         case z6=>exact cg
         case x6 =>
          refine' aJ ?a7
          case a7 =>
           refine' af ?x8 ?y8 ?z8
           case z8=>exact ai
           case x8 =>
            exact aA
           case y8 =>
            refine' af ?x9 ?y9 ?z9
            case z9=>exact ak
            case x9 =>
             exact(pv 1)
            case y9 =>
             exact aj
         case y6 =>
          exact aj
    case e1 =>
     exact aE
   case r0 =>
    refine' ao ?GS ?FJ
    case GS =>
     refine' aR ?NF ?JE ?Mh
     case NF=>exact(jd cI (pv 2) (pv 1))
     case JE =>
      refine' aq ?s12
      case s12 =>
       refine' aC ?Rn
       case Rn =>
        refine' aJ ?KN
        case KN =>
         refine' af ?KO ?KP ?KQ
         case KQ=>exact ai
         case KO =>
          exact aA
         case KP =>
          refine' af ?KR ?KS ?KU
          case KU=>exact vV
          case KR =>
           exact(qx (bZ (aO K rfl (pv 0) rfl)) (aJ (af aA (af (pv 1) aj ak) ai)) (aJ (af aA (af aA aj ai) ai)))
          case KS =>
           exact aj
     case Mh =>
      exact aE
    case FJ =>
     refine' ao ?NG ?NH
     case NG =>
      refine' aR ?KW ?KY ?NI
      case KW=>exact(PW.pt (nj (jd cI (pv 2) (lQ rfl T.mq.choose_spec)) (j8 (fP (bZ (aO K rfl (pv 0) rfl))))))
      case KY =>
       refine' aq ?NJ
       case NJ =>
        refine' aC ?v20
        case v20 =>
         refine' aJ ?KZ
         case KZ =>
          refine' af ?K0 ?K1 ?K2
          case K2=>exact ai
          case K0 =>
           exact aA
          case K1 =>
           refine' af ?NK ?NL ?NN
           case NN=>exact ai
           case NK =>
            exact aA
           case NL =>
            exact aj
      case NI =>
       exact aE
     case NH =>
      refine' aq ?s24
      case s24 =>
       refine' aC ?v25
       case v25 =>
        refine' aJ ?X6
        case X6 =>
         refine' af ?X7 ?X8 ?Yb
         case Yb=>exact ai
         case X7 =>
          exact aA
         case X8 =>
          refine' af ?x28 ?y28 ?z28
          case z28=>exact cg
          case x28 =>
           refine' aJ ?RC
           case RC =>
            refine' af ?RD ?RE ?RG
            case RG=>exact ai
            case RD =>
             exact aA
            case RE =>
             refine' af ?RH ?RI ?RJ
             case RJ=>exact ak
             case RH =>
              exact(pv 1)
             case RI =>
              exact aj
          case y28 =>
           exact aj
  have e2:ck (sg c) (wI 0)=ck (sg c) (Str.ofString "\n"):=by rw[T.jo]
  refine⟨_,rfl,_,rfl,x,(az 49),dx,_,_,rfl,hx,T.aF,T.bC,rfl,_,_,rfl,rfl,_,rfl,cu (fun (h1:p7 c f=true)=>?_) (fun (h1:¬p7 c f=true)=>?_)⟩
  ·exact⟨_,rfl,fX (by unfold gX;rw[if_pos h1]) kg k⟩
  refine⟨_,rfl,_,rfl,rfl,_,rfl,cu (fun (h2:ck (sg c) u=true)=>?_) (fun (h2:¬ck (sg c) u=true)=>?_)⟩
  ·refine⟨_,rfl,x,(az 49),dx,_,_,rfl,hx,T.aF,T.fz,rfl,_,rfl,cu (fun (h3:b1=true)=>?_) (fun (h3:¬b1=true)=>?_)⟩
   ·exact⟨_,rfl,fX (by unfold gX;rw[if_neg h1,if_pos h2,if_pos h3]) kg k⟩
   exact fX (by unfold gX;rw[if_neg h1,if_pos h2,if_neg h3]) kg k
  refine⟨_,rfl,rfl,_,rfl,cu (fun (h3:ck (sg c) (wI 0)=true)=>?_) (fun (h3:¬ck (sg c) (wI 0)=true)=>?_)⟩
  ·rw[e2] at h3
   refine⟨_,rfl,x,(az 49),dx,_,_,rfl,hx,T.aF,T.dI,rfl,_,rfl,cu (fun (h4:(!b2)=true)=>?_) (fun (h4:¬(!b2)=true)=>?_)⟩
   ·exact vY (by unfold gX;rw[if_neg h1,if_neg h2,if_pos h3,if_pos h4]) k
   exact⟨_,rfl,fX (by unfold gX;rw[if_neg h1,if_neg h2,if_pos h3,if_neg h4]) jO k⟩
  rw[e2] at h3
  refine gK ?_
  exact⟨_,rfl,fX (by unfold gX;rw[if_neg h1,if_neg h2,if_neg h3]) jO k⟩
def j6 (K:W.Frag) (C:Addr):Sp:=fun vs H Q _=>∃(x dx:Addr) (p q f:Str) (b1 b2 b3 b4:Bool) (c:Nat),vs=[.ref x,.str (sg c)]∧H x=some (.ins C dx (zF p q f b1 b2 b3 b4))∧∀ v H',aG H H'→xM K H' v (fK p b3 c)→Q v H'
theorem oB:aI P w K mg base bN 1 (az 25) (aL 25) ["dialect", "sign"] (j6 K (az 49)):=by
 refine T.kO.ok wG (fun vs H Q E h=>?_) (fun cdv A outer s H vs Q E hr h=>?_)
 ·obtain⟨x,dx,p,q,f,b1,b2,b3,b4,c,rfl,_⟩:=h;rfl
 ·have hu:=aV hr
  have iD:=hr.aN
  obtain⟨x,dx,p,q,f,b1,b2,b3,b4,c,rfl,hx,k⟩:=h
  refine'⟨_,?aa,?bb⟩
  case aa =>
   refine' ao ?s0 ?r0
   case s0 =>
    refine' aR ?c1 ?b1 ?e1
    case c1=>exact(jd cI (pv 1) (lQ rfl T.mq.choose_spec))
    case b1 =>
     refine' aq ?s2
     case s2 =>
      refine' aC ?v3
      case v3 =>
       refine' aJ ?a4
       case a4 =>
        refine' af ?x5 ?y5 ?z5
        case z5=>exact ai
        case x5 =>
         exact aA
        case y5 =>
         refine' af ?x6 ?y6 ?z6
         case z6=>exact ak
         case x6 =>
          exact(f9 rfl T.oq)
         case y6 =>
          exact aj
    case e1 =>
     exact aE
   case r0 =>
    refine' ao ?s7 ?r7
    case s7 =>
     refine' aR ?c8 ?b8 ?e8
     case c8=>exact(gQ gD (pv 1) (aO K rfl (pv 0) rfl) rfl)
     case b8 =>
      refine' aq ?s9
      case s9 =>
       refine' aC ?v10
       case v10 =>
        refine' aJ ?Yc
        case Yc =>
         refine' af ?Yd ?Ye ?Yg
         case Yg=>exact ai
         case Yd =>
          exact aA
         case Ye =>
          refine' af ?x13 ?y13 ?z13
          case z13=>exact cg
          case x13 =>
           refine' aJ ?KN
           case KN =>
            refine' af ?KO ?KP ?KQ
            case KQ=>exact ai
            case KO =>
             exact aA
            case KP =>
             refine' af ?KR ?KS ?KU
             case KU=>exact ai
             case KR =>
              exact aA
             case KS =>
              exact aj
          case y13 =>
           exact aj
     case e8 =>
      exact aE
    case r7 =>
     refine' ao ?NG ?NH
     case NG =>
      refine' aR ?KW ?KY ?NI
      case KW=>exact(PW.pt (nj (jd cI (pv 1) aA) (j8 (bZ (aO K rfl (pv 0) rfl)))))
      case KY =>
       refine' aq ?NJ
       case NJ =>
        refine' aC ?v20
        case v20 =>
         refine' aJ ?KZ
         case KZ =>
          refine' af ?K0 ?K1 ?K2
          case K2=>exact ai
          case K0 =>
           exact aA
          case K1 =>
           refine' af ?NK ?NL ?NN
           case NN=>exact cg
           case NK =>
            refine' aJ ?NO
            case NO =>
             refine' af ?Ro ?Rq ?Rr
             case Rr=>exact ai
             case Ro =>
              exact aA
             case Rq =>
              refine' af ?NP ?NQ ?NR
              case NR=>exact ai
              case NP =>
               exact aA
              case NQ =>
               exact aj
           case NL =>
            exact aj
      case NI =>
       exact aE
     case NH =>
      refine' aq ?Rt
      case Rt =>
       refine' aC ?v28
       case v28 =>
        refine' aJ ?RC
        case RC =>
         refine' af ?RD ?RE ?RG
         case RG=>exact ai
         case RD =>
          exact aA
         case RE =>
          refine' af ?RH ?RI ?RJ
          case RJ=>exact ai
          case RH =>
           exact aA
          case RI =>
           exact aj
  have e2:ck (sg c) (wI 0)=ck (sg c) (Str.ofString "\n"):=by rw[T.jo]
  refine⟨_,rfl,rfl,_,rfl,cu (fun (h1:ck (sg c) (wI 0)=true)=>?_) (fun (h1:¬ck (sg c) (wI 0)=true)=>?_)⟩
  ·rw[e2] at h1
   exact zG (by unfold fK;rw[if_pos h1]) CO (aG.refl _) (.inr T.ou) k
  rw[e2] at h1
  refine⟨_,rfl,_,rfl,x,(az 49),dx,_,_,rfl,hx,T.aF,T.bG,rfl,_,_,rfl,rfl,_,rfl,cu (fun (h2:p7 c p=true)=>?_) (fun (h2:¬p7 c p=true)=>?_)⟩
  ·exact fX (by unfold fK;rw[if_neg h1,if_pos h2]) zH k
  refine⟨_,rfl,rfl,_,rfl,cu (fun (h3:ck (sg c) (" ":Str)=true)=>?_) (fun (h3:¬ck (sg c) (" ":Str)=true)=>?_)⟩
  ·refine⟨_,rfl,x,(az 49),dx,_,_,rfl,hx,T.aF,T.dJ,rfl,_,rfl,cu (fun (h4:b3=true)=>?_) (fun (h4:¬b3=true)=>?_)⟩
   ·exact fX (by unfold fK;rw[if_neg h1,if_neg h2,if_pos h3,if_pos h4]) kg k
   exact vY (by unfold fK;rw[if_neg h1,if_neg h2,if_pos h3,if_neg h4]) k
  refine gK ?_
  exact vY (by unfold fK;rw[if_neg h1,if_neg h2,if_neg h3]) k
def lH (K:W.Frag) (C:Addr):Sp:=fun vs H Q _=>∃(x dx:Addr) (p q f:Str) (b1 b2 b3 b4:Bool) (u:Str) (c:Nat),vs=[.ref x,.str u,.str (sg c)]∧H x=some (.ins C dx (zF p q f b1 b2 b3 b4))∧∀ v H',aG H H'→xM K H' v (p8 p b3 u c)→Q v H'
theorem sN:aI P w K mg base bN 2 (az 26) (aL 26) ["dialect", "quote", "sign"] (lH K (az 49)):=by
 have kQ:aI P w K mg base bN 1 (az 25) (aL 25) ["dialect", "sign"] (j6 K (az 49)):=oB T
 refine T.mR.ok sr (fun vs H Q E h=>?_) (fun cdv A outer s H vs Q E hr h=>?_)
 ·obtain⟨x,dx,p,q,f,b1,b2,b3,b4,u,c,rfl,_⟩:=h;rfl
 ·have hu:=aV hr
  have iD:=hr.aN
  obtain⟨x,dx,p,q,f,b1,b2,b3,b4,u,c,rfl,hx,k⟩:=h
  refine⟨_,(ao (aR (jd cI (pv 2) (pv 1)) (aq (aC (aJ (af aA (af (aJ (af aA (af (pv 1) aj ak) ai)) aj cg) ai)))) aE)
   (aq (aC (kc kQ hr T.pL T.kO.kp T.pK (af (pv 0) (af (pv 2) aj ak) ak))))),?_⟩
  refine⟨_,rfl,_,rfl,rfl,_,rfl,cu (fun (h1:ck (sg c) u=true)=>?_) (fun (h1:¬ck (sg c) u=true)=>?_)⟩
  ·exact⟨_,rfl,fX (by unfold p8;rw[if_pos h1]) jO k⟩
  refine⟨_,rfl,_,rfl,x,dx,p,q,f,b1,b2,b3,b4,c,rfl,hx,fun v H2 s2 r=>k v H2 s2 ?_⟩
  unfold p8
  rw[if_neg h1]
  exact r
def pP (K:W.Frag) (C:Addr):Sp:=fun vs H Q _=>∃(x dx:Addr) (p q f:Str) (b1 b2 b3 b4:Bool) (u:Str) (c:Nat),vs=[.ref x,.str u,.str (sg c)]∧H x=some (.ins C dx (zF p q f b1 b2 b3 b4))∧∀ v H',aG H H'→xM K H' v (jR b2 u c)→Q v H'
theorem xZ:aI P w K mg base bN 1 (az 27) (aL 27) ["dialect", "quote", "sign"] (pP K (az 49)):=by
 refine T.qU.ok xQ (fun vs H Q E h=>?_) (fun cdv A outer s H vs Q E hr h=>?_)
 ·obtain⟨x,dx,p,q,f,b1,b2,b3,b4,u,c,rfl,_⟩:=h;rfl
 ·have hu:=aV hr
  have iD:=hr.aN
  obtain⟨x,dx,p,q,f,b1,b2,b3,b4,u,c,rfl,hx,k⟩:=h
  refine'⟨_,?aa,?bb⟩
  case aa =>
   refine' ao ?s0 ?r0
   case s0 =>
    refine' aR ?c1 ?b1 ?e1
    case c1=>exact(PW.pt (nj (jd cI (pv 2) (lQ rfl T.mq.choose_spec)) (j8 (fP (bZ (aO K rfl (pv 0) rfl))))))
    case b1 =>
     refine' aq ?s2
     case s2 =>
      refine' aC ?v3
      case v3 =>
       refine' aJ ?a4
       case a4 =>
        refine' af ?x5 ?y5 ?z5
        case z5=>exact ai
        case x5 =>
         exact aA
        case y5 =>
         refine' af ?x6 ?y6 ?z6
         case z6=>exact ai
         case x6 =>
          exact aA
         case y6 =>
          exact aj
    case e1 =>
     exact aE
   case r0 =>
    refine' aq ?s7
    case s7 =>
     refine' aC ?v8
     case v8 =>
      refine' aJ ?a9
      case a9 =>
       refine' af ?Yh ?Yi ?Yj
       case Yj=>exact ai
       case Yh =>
        exact aA
       case Yi =>
        refine' af ?x11 ?y11 ?z11
        case z11=>exact vV
        case x11 =>
         exact(qx (jd cI (pv 1) aA) (aJ (af aA (af aA aj ai) ai)) (aJ (af aA (af (pv 1) aj ak) ai)))
        case y11 =>
         exact aj
  have e2:ck (sg c) (wI 0)=ck (sg c) (Str.ofString "\n"):=by rw[T.jo]
  refine⟨_,rfl,rfl,_,rfl,cu (fun (h1:ck (sg c) (wI 0)=true)=>?_) (fun (h1:¬ck (sg c) (wI 0)=true)=>?_)⟩
  ·rw[e2] at h1
   refine⟨_,rfl,x,(az 49),dx,_,_,rfl,hx,T.aF,T.dI,rfl,_,rfl,cu (fun (h2:(!b2)=true)=>?_) (fun (h2:¬(!b2)=true)=>?_)⟩
   ·exact vY (by unfold jR;rw[if_pos h1,if_pos h2]) k
   refine⟨_,rfl,rfl,_,rfl,cu (fun (h9:ck u ("":Str)=true)=>?_) (fun (h9:¬ck u ("":Str)=true)=>?_)⟩
   ·exact fX (by unfold jR jm;rw[if_pos h1,if_neg h2,if_pos h9]) jO k
   exact⟨_,rfl,fX (by unfold jR jm;rw[if_pos h1,if_neg h2,if_neg h9]) jO k⟩
  rw[e2] at h1
  refine gK ?_
  refine⟨_,rfl,rfl,_,rfl,cu (fun (h9:ck u ("":Str)=true)=>?_) (fun (h9:¬ck u ("":Str)=true)=>?_)⟩
  ·exact fX (by unfold jR jm;rw[if_neg h1,if_pos h9]) jO k
  exact⟨_,rfl,fX (by unfold jR jm;rw[if_neg h1,if_neg h9]) jO k⟩
def rj (K:W.Frag) (C CT:Addr):Sp:=fun vs H Q _=>∃(y s:Addr) (w u:Str) (c:Nat) (p q f:Str) (b1 b2 b3 b4:Bool),vs=[.ref y,.ref s,.str (sg c)]∧Tn C CT H y p q f b1 b2 b3 b4∧cB K H s [.str w,.str u]∧∀ v H',aG H H'→xM K H' v (fY p q f b1 b2 b3 b4 w u c)→Q v H'
theorem Ab:aI P w K mg base bN 3 (az 28) (aL 28) ["self", "state", "sign"] (rj K (az 49) (az 50)):=by
 have pC:aI P w K mg base bN 1 (az 22) (aL 22) ["dialect", "state", "sign"] (iU K (az 49)):=oz T
 have kQ:aI P w K mg base bN 1 (az 25) (aL 25) ["dialect", "sign"] (j6 K (az 49)):=oB T
 have Ac:aI P w K mg base bN 1 (az 27) (aL 27) ["dialect", "quote", "sign"] (pP K (az 49)):=xZ T
 have uE:aI P w K mg base bN 2 (az 26) (aL 26) ["dialect", "quote", "sign"] (lH K (az 49)):=sN T
 have uF:aI P w K mg base bN 1 (az 23) (aL 23) ["dialect", "sign"] (lG K (az 49)):=sM T
 have ya:aI P w K mg base bN 1 (az 24) (aL 24) ["dialect", "quote", "sign"] (oA K (az 49)):=xw T
 refine T.BI.ok lW (fun vs H Q E h=>?_) (fun cdv A outer s H vs Q E hr h=>?_)
 ·obtain⟨y,s,w,u,c,p,q,f,b1,b2,b3,b4,rfl,_⟩:=h;rfl
 ·have hu:=aV hr
  have iD:=hr.aN
  obtain⟨y,s,w,u,c,p,q,f,b1,b2,b3,b4,rfl,hT,hs,k⟩:=h
  obtain⟨dy,d,dd,hy,hd⟩:=hT.ok
  refine⟨_,(ao (lg 3 lW.nd (m5 K (pv 1) ay) (hs:=fH))
   (ao (lg 4 lW.nd (m5 K (pv 1) ay) (hs:=fH))
   (ao (aR (jd cI (pv 3) aA) (aq (aC (kc uF hr T.uv T.mQ.kp T.uu (af (aO K rfl (pv 0) rfl) (af (pv 2) aj ak) aS)))) aE)
   (ao (aR (jd cI (pv 3) aA) (aq (aC (kc ya hr T.xU T.pJ.kp T.xT (af (aO K rfl (pv 0) rfl) (af (pv 4) (af (pv 2) aj ak) ak) aS)))) aE)
   (ao (aR (jd cI (pv 3) aA) (aq (aC (kc uE hr T.ux T.mR.kp T.uw (af (aO K rfl (pv 0) rfl) (af (pv 4) (af (pv 2) aj ak) ak) aS)))) aE)
   (ao (aR (jd cI (pv 3) aA) (aq (aC (kc kQ hr T.pL T.kO.kp T.pK (af (aO K rfl (pv 0) rfl) (af (pv 2) aj ak) aS)))) aE)
   (ao (aR (jd cI (pv 3) aA) (aq (aC (kc Ac hr T.zR T.qU.kp T.zQ (af (aO K rfl (pv 0) rfl) (af (pv 4) (af (pv 2) aj ak) ak) aS)))) aE)
   (aq (aC (kc pC hr T.pA T.jf.kp T.pe (af (aO K rfl (pv 0) rfl) (af (pv 1) (af (pv 2) aj ak) ak) aS))))))))))),?_⟩
  refine⟨_,rfl,s,_,_,_,rfl,rfl,hs,rfl,_,rfl,s,_,_,_,rfl,rfl,hs,rfl,?_⟩
  refine⟨_,rfl,rfl,_,rfl,cu (fun (h1:ck w ("plain":Str)=true)=>?_) (fun (h1:¬ck w ("plain":Str)=true)=>?_)⟩
  ·refine⟨_,rfl,y,(az 50),dy,_,_,rfl,hy,T.iG,T.bA,rfl,_,rfl,d,dd,p,q,f,b1,b2,b3,b4,c,rfl,hd,fun v H2 s2 r=>k v H2 s2 ?_⟩
   rw[Iz h1]
   exact r
  refine⟨_,rfl,rfl,_,rfl,cu (fun (h2:ck w ("within":Str)=true)=>?_) (fun (h2:¬ck w ("within":Str)=true)=>?_)⟩
  ·refine⟨_,rfl,y,(az 50),dy,_,_,rfl,hy,T.iG,T.bA,rfl,_,rfl,_,rfl,d,dd,p,q,f,b1,b2,b3,b4,u,c,rfl,hd,fun v H2 s2 r=>k v H2 s2 ?_⟩
   rw[yS h2]
   exact r
  refine⟨_,rfl,rfl,_,rfl,cu (fun (h3:ck w ("doubt":Str)=true)=>?_) (fun (h3:¬ck w ("doubt":Str)=true)=>?_)⟩
  ·refine⟨_,rfl,y,(az 50),dy,_,_,rfl,hy,T.iG,T.bA,rfl,_,rfl,_,rfl,d,dd,p,q,f,b1,b2,b3,b4,u,c,rfl,hd,fun v H2 s2 r=>k v H2 s2 ?_⟩
   rw[BC h3]
   exact r
  refine⟨_,rfl,rfl,_,rfl,cu (fun (h4:ck w ("behind":Str)=true)=>?_) (fun (h4:¬ck w ("behind":Str)=true)=>?_)⟩
  ·refine⟨_,rfl,y,(az 50),dy,_,_,rfl,hy,T.iG,T.bA,rfl,_,rfl,d,dd,p,q,f,b1,b2,b3,b4,c,rfl,hd,fun v H2 s2 r=>k v H2 s2 ?_⟩
   rw[yT h4]
   exact r
  refine⟨_,rfl,rfl,_,rfl,cu (fun (h5:ck w ("freed":Str)=true)=>?_) (fun (h5:¬ck w ("freed":Str)=true)=>?_)⟩
  ·refine⟨_,rfl,y,(az 50),dy,_,_,rfl,hy,T.iG,T.bA,rfl,_,rfl,_,rfl,d,dd,p,q,f,b1,b2,b3,b4,u,c,rfl,hd,fun v H2 s2 r=>k v H2 s2 ?_⟩
   rw[vZ h5]
   exact r
  refine⟨_,rfl,y,(az 50),dy,_,_,rfl,hy,T.iG,T.bA,rfl,_,rfl,_,rfl,d,dd,p,q,f,b1,b2,b3,b4,s,w,u,c,rfl,hd,hs,fun v H2 s2 r=>k v H2 s2 ?_⟩
  rw[Ej (qF h2) (qF h5) (qF h3) (qF h4)]
  unfold tL
  rw[if_neg h1]
  exact r
def kr (K:W.Frag) (C CT:Addr):Sp:=fun vs H Q _=>∃(y s:Addr) (w u:Str) (c:Nat) (p q f:Str) (b1 b2 b3 b4:Bool),vs=[.ref y,.ref s,.str (sg c)]∧Tn C CT H y p q f b1 b2 b3 b4∧cB K H s [.str w,.str u]∧∀ v H',aG H H'→Xl K (nK p q f b1 b2 b3 b4 w u c) H' v→Q v H'
theorem rm:aI P w K mg base bN 4 (az 29) (aL 29) ["self", "state", "sign"] (kr K (az 49) (az 50)):=by
 have BX:aI P w K mg base bN 3 (az 28) (aL 28) ["self", "state", "sign"] (rj K (az 49) (az 50)):=Ab T
 have FL:aI P w K mg base bN 1 (az 21) (aL 21) ["dialect", "state"] (xu K (az 49)):=De T
 refine T.su.ok kh (fun vs H Q E h=>?_) (fun cdv A outer s H vs Q E hr h=>?_)
 ·obtain⟨y,s,w,u,c,p,q,f,b1,b2,b3,b4,rfl,_⟩:=h;rfl
 ·have hu:=aV hr
  have iD:=hr.aN
  obtain⟨y,s,w,u,c,p,q,f,b1,b2,b3,b4,rfl,hT,hs,k⟩:=h
  unfold nK at k
  refine⟨_,(ao (aR (jd vB (pv 1) cX) (aq (aC cX)) aE)
   (ao (lg 3 kh.nd (oQ (k:=3) (pv 0) T.iG T.BK BX (hr.mono (by decide)) T.BJ .nil jI (af (pv 1) (af (pv 2) aj ak) ak)) (hs:=fG))
   (ao (aR (PW.pt (nk (jd cI (m5 K (pv 3) ay) aA) (lM (fP (bZ (kc FL hr T.FD T.zb.kp T.FA (af (aO K rfl (pv 0) rfl) (af (m5 K (pv 3) ay) aj aD) aS))))))) (aq (aC cX)) aE)
   (aq (aC (pv 3)))))),?_⟩
  obtain⟨dy,d,dd,ey,ed⟩:=hT.ok
  refine⟨_,rfl,rfl,_,rfl,E6 (fun z=>nomatch z) ⟨_,rfl,y,dy,_,rfl,ey,rfl,_,rfl,_,rfl,y,s,w,u,c,p,q,f,b1,b2,b3,b4,rfl,hT,hs,fun v H5 s5 r=>?_⟩⟩
  cases hr5:fY p q f b1 b2 b3 b4 w u c with
  | go kd w3 u3 =>
   rw[hr5] at r k
   obtain⟨hk,a,b,rfl,ha,hb⟩:=r
   have ey5:=s5 _ _ ey
   have ed5:=s5 _ _ ed
   have k:∀ v H',aG H H'→Xl K (if yU f w3 u3=true then some (kd,w3,u3) else none) H' v→Q v H':=k
   refine⟨_,rfl,a,_,_,_,rfl,rfl,ha,rfl,rfl,_,rfl,Ei hk ?_⟩
   refine⟨_,rfl,y,_,_,_,_,rfl,ey5,T.iG,T.bA,rfl,_,rfl,a,_,_,_,rfl,rfl,ha,rfl,d,dd,b,w3,u3,p,q,f,b1,b2,b3,b4,rfl,ed5,hb,_,rfl,?_⟩
   by_cases hL:yU f w3 u3=true
   ·rw[if_pos hL] at k
    exact L4 hL ⟨_,rfl,k _ _ s5 ⟨a,b,rfl,ha,hb⟩⟩
   ·rw[if_neg hL] at k
    exact L5 (qF hL) (k _ _ s5 rfl)
  | AV e =>
   rw[hr5] at r k
   obtain⟨a,rfl,ha⟩:=r
   have k:∀ v H',aG H H'→Xl K none H' v→Q v H':=k
   exact⟨_,rfl,a,_,_,_,rfl,rfl,ha,rfl,rfl,_,rfl,yR (ez _) (nA (k _ _ s5 rfl))⟩
def iz (K:W.Frag) (C CT CM:Addr):Sp:=fun vs H Q _=>∃(m:Addr) (v:V) (mk:bg) (c:Nat) (ts:List (Str×Str)) (p q f:Str) (b1 b2 b3 b4:Bool),vs=[.ref m,v,.str (sg c)]∧Fj K C CT CM H m p q f b1 b2 b3 b4 ts∧dj K H mk v∧∀ v' H',aG H H'→qc K (wj p q f b1 b2 b3 b4 ts mk c) H' v'→Q v' H'
theorem ng:aI P w K mg base bN 5 (az 30) (aL 30) ["self", "mark", "sign"] (iz K (az 49) (az 50) (az 51)):=by
 have sO:aI P w K mg base bN 4 (az 29) (aL 29) ["self", "state", "sign"] (kr K (az 49) (az 50)):=rm T
 have xx:aI P w K mg base bN 1 (az 20) (aL 20) ["tokens", "count", "kind", "sign"] (mV K):=uD T
 refine T.nX.ok eO (fun vs H Q E h=>?_) (fun cdv A outer s H vs Q E hr h=>?_)
 ·obtain⟨m,v,mk,c,ts,p,q,f,b1,b2,b3,b4,rfl,_⟩:=h;rfl
 ·have hu:=aV hr
  have iD:=hr.aN
  obtain⟨m,v,mk,c,ts,p,q,f,b1,b2,b3,b4,rfl,hM,hv,k⟩:=h
  obtain⟨dm,y,l,ys,em,eT,el,tp⟩:=hM.ok
  obtain⟨b,s,rfl,hb,hs⟩:=hv
  obtain⟨dy,d,dd,ey,ed⟩:=eT.ok
  refine⟨_,(ao (aR (jd vB (pv 1) cX) (aq (aC cX)) aE)
   (ao (lg 3 eO.nd (oQ (k:=4) (aO K rfl (pv 0) rfl) T.iG T.sC sO (hr.mono (by decide)) T.sy .nil jI (af (m5 K (pv 1) ay) (af (pv 2) aj ak) aD)) (hs:=fG))
   (ao (aR (jd vB (pv 3) cX) (aq (aC cX)) aE)
   (ao (lg 4 eO.nd (kc xx hr T.wR T.nW.kp T.wQ (af (aO K rfl (pv 0) rfl) (af (m5 K (pv 1) ay) (af (m5 K (pv 3) ay) (af (pv 2) aj ak) aD) aD) aS)) (hs:=fG))
   (aq (aC (qx (jd vB (pv 4) cX) cX (aJ (af (m5 K (pv 3) ay) (af (pv 4) aj ak) aD))))))))),?_⟩
  unfold wj at k
  refine⟨_,rfl,rfl,_,rfl,E6 (fun z=>nomatch z) (⟨_,rfl,_,_,_,_,_,rfl,em,T.iE,T.iH,rfl,_,_,_,rfl,ey,rfl,_,rfl,_,_,_,_,rfl,rfl,hb,rfl,_,rfl,_,_,_,_,_,_,_,_,_,_,_,_,rfl,eT,hs,fun v5 H5 s5 r=>?_⟩)⟩
  cases hL:nK p q f b1 b2 b3 b4 mk.1.1 mk.1.2 c with
  | none =>
   rw[hL] at r k
   have r:v5=.non:=r
   subst r
   have k:∀ v' H',aG H H'→qc K none H' v'→Q v' H':=k
   exact⟨_,rfl,rfl,_,rfl,V4 rfl (k _ _ s5 rfl)⟩
  | some kwu =>
   obtain⟨kd,w3,u3⟩:=kwu
   rw[hL] at r k
   obtain⟨a,b2,rfl,ha,hb2⟩:=r
   have k:∀ v' H',aG H H'→qc K (match CU ts mk.2 kd (sg c) with | none=>none | some n=>some ((w3,u3),n)) H' v'→Q v' H':=k
   have Wa:=s5 _ _ em
   have el5:=s5 _ _ el
   have tp5:=gG s5 tp
   have hb5:=aQ s5 hb
   refine⟨_,rfl,rfl,_,rfl,E6 (fun z=>nomatch z) ?_⟩
   refine⟨_,rfl,_,_,_,_,_,rfl,Wa,T.iE,T.eF,rfl,_,rfl,_,_,_,_,rfl,rfl,hb5,rfl,_,rfl,_,_,_,_,rfl,rfl,ha,rfl,_,rfl,l,ys,ts,mk.2,kd,sg c,rfl,el5,tp5,fun H6 s6=>?_⟩
   have s56:=s5.trans s6
   cases hC:CU ts mk.2 kd (sg c) with
   | none =>
    rw[hC] at k
    exact⟨_,rfl,rfl,_,rfl,V4 rfl (k _ _ s56 rfl)⟩
   | some n =>
    rw[hC] at k
    refine⟨_,rfl,rfl,_,rfl,E6 (fun z=>nomatch z) ⟨_,rfl,_,_,_,_,rfl,rfl,aQ s6 ha,rfl,_,rfl,(by show 2≤sizeLine;decide),fun t ht=>?_⟩⟩
    exact k _ _ (s56.trans (au ht)) ⟨t,b2,rfl,cB.of ah,aQ (s6.trans (au ht)) hb2⟩
def g7 (K:W.Frag) (C CT CM:Addr):Sp:=fun vs H Q _=>∃(m:Addr) (v:V) (mk:bg) (ts:List (Str×Str)) (p q f:Str) (b1 b2 b3 b4:Bool),vs=[.ref m,v]∧Fj K C CT CM H m p q f b1 b2 b3 b4 ts∧dj K H mk v∧∀ H',aG H H'→Q (.bl (decide (mk=((Str.ofString "row",Str.ofString ""),ts.length)))) H'
theorem mC:aI P w K mg base bN 1 (az 31) (aL 31) ["self", "mark"] (g7 K (az 49) (az 50) (az 51)):=by
 refine T.m7.ok lX (fun vs H Q E h=>?_) (fun cdv A outer s H vs Q E hr h=>?_)
 ·obtain⟨m,v,mk,ts,p,q,f,b1,b2,b3,b4,rfl,_⟩:=h;rfl
 ·have hu:=aV hr
  have iD:=hr.aN
  obtain⟨m,v,mk,ts,p,q,f,b1,b2,b3,b4,rfl,hM,hv,k⟩:=h
  have qo:=hr.units
  obtain⟨dm,y,l,ys,em,eT,el,tp⟩:=hM.ok
  obtain⟨b,s,rfl,hb,hs⟩:=hv
  have tl:=tp.length
  refine⟨_,(aq (aC (Iw (Ib (YM _ _ K) rfl (hn1 qo)) (pv 1) (aJ (af (f9 rfl T.oq) (af (nH (bO K rfl) T.gA (af (aO K rfl (pv 0) rfl) aj aS)) aj jl) ak))))),?_⟩
  refine⟨_,rfl,_,rfl,_,_,_,_,_,rfl,em,T.iE,T.eF,rfl,_,_,rfl,.inl (bE.of el),(by show(2:Nat)≤sizeLine;decide),fun t ht=>?_⟩
  (have st:=au (o:=HO.tup [V.ref (az 67),V.int ↑ys.length]) ht;have g1:=ah (H:=H) (a:=t) (o:=HO.tup [V.ref (az 67),V.int ↑ys.length]);generalize upd H t (HO.tup [V.ref (az 67),V.int ↑ys.length])=H1 at st g1 ⊢)
  have e1:rQ (YM _ _ K) H1 (cD mk) b:=j9 (P:=P) (w:=w) (aQ st hb) (aQ st hs)
  have e2:rQ (YM _ _ K) H1 (cD ((Str.ofString "row",Str.ofString ""),ts.length)) t:=j9 (P:=P) (w:=w) (m:=((Str.ofString "row",Str.ofString ""),ts.length)) (by rw[←tl];exact cB.of g1) (.inr T.ou)
  refine⟨b,t,_,_,rfl,rfl,e1,e2,?_⟩
  have ed:decide (cD mk=cD ((Str.ofString "row",Str.ofString ""),ts.length))=decide (mk=((Str.ofString "row",Str.ofString ""),ts.length)):=by rw[Bool.eq_iff_iff,decide_eq_true_iff,decide_eq_true_iff];exact rR
  rw[ed]
  exact k _ st
def mW (K:W.Frag) (C CT CM CW:Addr):Sp:=fun vs H Q _=>∃(x:Addr) (v:V) (mk:bg) (ts:List (Str×Str)) (p q f:Str) (b1 b2 b3 b4:Bool),vs=[.ref x,v]∧Nk K C CT CM CW H x p q f b1 b2 b3 b4 ts∧dj K H mk v∧Gd p q f∧mk.2 < ts.length∧(∀ t∈ts,t.2.length≤1)∧∀ l vs H',H l=none→H' l=some (.lst vs)→nL K H' vs (gv p q f b1 b2 b3 b4 ts mk)→aG H H'→Q (.ref l) H'
theorem uG:aI P w K mg base bN 6 (az 32) (aL 32) ["self", "place"] (mW K (az 49) (az 50) (az 51) (az 52)):=by
 have oE:aI P w K mg base bN 5 (az 30) (aL 30) ["self", "mark", "sign"] (iz K (az 49) (az 50) (az 51)):=ng T
 have C8:aI P w K mg base bN 1 (az 7) (aL 7) ["text"] Aa:=EA T
 refine T.wU.ok iZ (fun vs H Q E h=>?_) (fun cdv A outer s H vs Q E hr h=>?_)
 ·obtain⟨x,v,mk,ts,p,q,f,b1,b2,b3,b4,rfl,_⟩:=h;rfl
 ·have hu:=aV hr
  have iD:=hr.aN
  obtain⟨x,v,mk,ts,p,q,f,b1,b2,b3,b4,rfl,hW,hv,g,hn,ht1,k⟩:=h
  obtain⟨dx,m,l,ys,ex,eM,el,tp⟩:=hW.ok
  obtain⟨b,s,rfl,hb,hs⟩:=hv
  refine⟨_,(ao (lg 2 iZ.nd (kc C8 hr T.IY T.C5.kp T.IX (af (aK gn (aO K rfl (pv 0) rfl) (m5 K (CL K (aO K rfl (pv 0) rfl) (m5 K (pv 1) ay)) ay)) aj cL)) (hs:=fG))
   (ao (Ea (i:=3) rfl iZ.nd rfl rfl (show aX ["self", "place", "signs", "found"] (av cE) ["sign", "place", "self"] 1 [1,0] _ from CK) (vH (pv 2)) (fun _ _ _ _=>(pG 0 (show(["sign", "place", "self"]:List Str).Nodup by decide +kernel))) (fun _ _ _ _=>eV) (fun _ _ _ _=>(aJ (af (pv 0) (af (oQ (k:=5) (aO K rfl (pv 2) rfl) T.iE T.nZ oE (hr.mono (by decide)) T.nY .nil jI (af (pv 1) (af (pv 0) aj ak) ak)) aj jl) ak))))
   (aq (aC (fF rfl (show aX ["self", "place", "signs", "found"] (av cE) ["lead"] 1 [] _ from CK) (cC K rfl (pv 3)) (fun _ _ _ _=>(pG 0 Fe)) (fun _ _ _ _=>(JX (jd zv (m5 K (pv 0) ay) cX))) (fun _ _ _ _=>(pv 0))))))),?_⟩
  have tl:=tp.length
  obtain⟨t,ht⟩:∃ t,ts[mk.2]? = some t:=⟨_,List.getElem?_eq_getElem hn⟩
  obtain⟨y,hy⟩:∃ y,ys[mk.2]? = some y:=⟨_,List.getElem?_eq_getElem (by omega)⟩
  obtain⟨t',ht',a,rfl,ha⟩:=aU tp mk.2 y hy
  rw[ht] at ht';cases ht'
  have hat:Ht ys (mk.2:Int)=some (.ref a):=ve hy
  have hl1:=ht1 t (List.mem_of_getElem? ht)
  have sl:=sd ((p++q)++f)
  have a1:=gb p q
  have a2:=gb (p++q) f
  have hp3:=g.p3;have hq2:=g.q2;have hf2:=g.f2
  have ul:(JB p q f).length≤9:=by
   unfold JB
   have n1:(Str.ofString "\n").length=1:=by decide +kernel
   have n2:(" ":Str).length=1:=by decide +kernel
   have a3:=gb (lD ((p++q)++f)) (Str.ofString "\n")
   have a4:=gb (lD ((p++q)++f)++Str.ofString "\n") (" ":Str)
   omega
  have a5:=gb (JB p q f) t.2
  have szb:1000≤sizeLine:=by decide
  have sl2:=sd (JB p q f++t.2)
  refine⟨_,rfl,_,_,_,_,_,rfl,ex,T.fN,T.g5,rfl,_,rfl,_,_,_,_,_,rfl,ex,T.fN,T.gc,rfl,_,rfl,_,_,_,_,rfl,rfl,hb,rfl,_,_,_,_,rfl,rfl,bE.of el,hat,_,_,_,_,rfl,rfl,ha,rfl,_,_,rfl,rfl,(by omega),_,rfl,(by omega),_,rfl,_,rfl,fun D hD=>?_⟩
  have Yk:(lD (JB p q f++t.2)).cps.toList.length≤20:=by rw[Array.length_toList];show(lD (JB p q f++t.2)).length≤20;omega
  have Yl:gv p q f b1 b2 b3 b4 ts mk=(lD (JB p q f++t.2)).cps.toList.filterMap fun c=>(wj p q f b1 b2 b3 b4 ts mk c).map fun m'=>(c,m'):=by unfold gv;rw[ht]
  rw[Yl] at k
  generalize lD (JB p q f++t.2)=zs at Yk k ⊢
  refine qB (z:=zs) (fun i vs τ J=>(∃ v,τ=[v,some (.ref b),some (.ref x)])∧aG H J∧J D=some (.lst vs)∧ua K (wj p q f b1 b2 b3 b4 ts mk) J vs (zs.cps.toList.take i)) ⟨⟨_,rfl⟩,au hD,ah,.nil⟩ (fun i vs τ J _ p=>p.2.2.1) ?_ ?_
  ·rintro i c vs τ J hi ⟨⟨v,rfl⟩,sJ,hJ,fd⟩
   have hil:i < zs.cps.toList.length:=(List.getElem?_eq_some_iff.mp hi).1
   have hvl:=fd.length
   rw[List.length_take] at hvl
   have eMJ:=eM.mono sJ
   obtain⟨dm,y,l',ys',em,eT,el',tp'⟩:=eMJ.ok
   refine rV ?_
   refine⟨_,rfl,_,rfl,_,_,_,_,_,rfl,sJ _ _ ex,T.fN,T.eG,rfl,_,_,_,rfl,em,rfl,_,rfl,_,rfl,m,.ref b,mk,c,ts,p,q,f,b1,b2,b3,b4,rfl,eMJ,⟨b,s,rfl,aQ sJ hb,aQ sJ hs⟩,fun v' J2 s2 hv'=>?_⟩
   refine⟨(by show 2≤sizeLine;decide),fun t2 Fv=>?_⟩
   have st:=au (o:=HO.tup [.str (sg c),v']) Fv
   have Ym:=st _ _ (s2 _ _ hJ)
   refine⟨Ym,Nat.lt_of_le_of_lt (show vs.length≤100 by omega) (by decide),⟨_,rfl⟩,aZ hD (sJ.trans (s2.trans st)),ah,?_⟩
   rw[bf hi]
   exact dW (ua.but Ym (ua.mono (s2.trans st) fd)) (ua.but Ym (.cons ⟨t2,v',rfl,ah,qc.mono st hv'⟩ .nil))
  rintro vs τ J ⟨⟨v,rfl⟩,sJ,hJ,fd⟩
  rw[List.take_of_length_le (Nat.le_refl _)] at fd
  have hvl:=fd.length
  dsimp only[d8]
  refine⟨_,rfl,D,rfl,⟨_,bE.of hJ⟩,fun L hL=>?_⟩
  refine gF (K:=K) (a:=D) (xs:=vs) (fun i us τ G=>(∃ v,τ=[v])∧aG J G∧G L=some (.lst us)∧us.length≤i∧nL K G us ((zs.cps.toList.take i).filterMap fun c=>(wj p q f b1 b2 b3 b4 ts mk c).map fun m'=>(c,m'))) ⟨⟨_,rfl⟩,au hL,ah,Nat.le_refl _,.nil⟩ (fun i us τ G _ p=>⟨bE.of (p.2.1 _ _ hJ),p.2.2.1⟩) ?_ ?_
  ·rintro i e us τ G hi ⟨⟨v,rfl⟩,sG,hG,hul,ld⟩
   have hil:i < vs.length:=(List.getElem?_eq_some_iff.mp hi).1
   obtain⟨c,hc,t2,w2,rfl,h2,hm⟩:=aU fd i e hi
   have Yn:=sG _ _ h2
   have Px:=qc.mono sG hm
   rw[bf hc,List.filterMap_append]
   cases hM:wj p q f b1 b2 b3 b4 ts mk c with
   | none =>
    rw[hM] at Px
    have Px:w2=.non:=Px
    subst Px
    refine⟨_,rfl,t2,_,_,_,rfl,rfl,cB.of Yn,rfl,rfl,_,rfl,W5 rfl ⟨⟨_,rfl⟩,sG,hG,by omega,?_⟩⟩
    rw[List.filterMap_cons,hM]
    simpa using ld
   | some m' =>
    rw[hM] at Px
    obtain⟨b3,s3,rfl,q1,q2⟩:=(show dj K G m' w2 from Px)
    refine⟨_,rfl,t2,_,_,_,rfl,rfl,cB.of Yn,rfl,rfl,_,rfl,W6 (fun z=>nomatch z) ⟨_,rfl,hG,Nat.lt_of_le_of_lt (show us.length≤100 by omega) (by decide),⟨_,rfl⟩,aZ hL sG,ah,by rw[List.length_append];show us.length+1≤_;omega,?_⟩⟩
    rw[List.filterMap_cons,hM]
    exact dW (nL.but hG ld) (nL.but hG (.cons ⟨t2,_,rfl,Yn,⟨b3,s3,rfl,q1,q2⟩⟩ .nil))
  ·rintro us τ G ⟨⟨v,rfl⟩,sG,hG,hul,ld⟩
   rw[hvl,List.take_of_length_le (Nat.le_refl _)] at ld
   exact k L us G (sJ.free hL) hG ld (sJ.trans sG)
def ku (K:W.Frag) (C CT CM CW:Addr):Sp:=fun vs H Q _=>∃(x:Addr) (v:V) (mk:bg) (ts:List (Str×Str)) (p q f:Str) (b1 b2 b3 b4:Bool),vs=[.ref x,v]∧Nk K C CT CM CW H x p q f b1 b2 b3 b4 ts∧dj K H mk v∧∀ H',aG H H'→Q (.bl (decide (mk=((Str.ofString "row",Str.ofString ""),ts.length)))) H'
theorem rq:aI P w K mg base bN 2 (az 33) (aL 33) ["self", "place"] (ku K (az 49) (az 50) (az 51) (az 52)):=by
 have nh:aI P w K mg base bN 1 (az 31) (aL 31) ["self", "mark"] (g7 K (az 49) (az 50) (az 51)):=mC T
 refine T.sD.ok qJ (fun vs H Q E h=>?_) (fun cdv A outer s H vs Q E hr h=>?_)
 ·obtain⟨x,v,mk,ts,p,q,f,b1,b2,b3,b4,rfl,_⟩:=h;rfl
 ·have hu:=aV hr
  have iD:=hr.aN
  obtain⟨x,v,mk,ts,p,q,f,b1,b2,b3,b4,rfl,hW,hv,k⟩:=h
  obtain⟨dx,m,l,ys,ex,eM,el,tp⟩:=hW.ok
  obtain⟨dm,y,l',ys',em,eT,el',tp'⟩:=eM.ok
  refine⟨_,(aq (aC (oQ (k:=1) (aO K rfl (pv 0) rfl) T.iE T.m9 nh (hr.mono (by decide)) T.m8 .nil jI (af (pv 1) aj ak)))),?_⟩
  exact⟨_,rfl,_,_,_,_,_,rfl,ex,T.fN,T.eG,rfl,_,_,_,rfl,em,rfl,_,rfl,m,v,mk,ts,p,q,f,b1,b2,b3,b4,rfl,eM,hv,k⟩
def zj (P:Program) (w:World) (K:W.Frag) (C CT CM CW:Addr):Sp:=fun vs H Q _=>∃(x:Addr) (v:V) (U:List bg) (ts:List (Str×Str)) (p q f:Str) (b1 b2 b3 b4:Bool),vs=[v,.ref x,.non]∧Nk K C CT CM CW H x p q f b1 b2 b3 b4 ts∧Gd p q f∧dj K H m0 v∧(∀ t∈ts,t.2.length≤1)∧U.length≤100000∧m0∈U∧(∀ m∈U,m.2 < ts.length→∀ e∈gv p q f b1 b2 b3 b4 ts m,e.2∈U)∧(∀ m∈U,m.2 < ts.length∨IF ts m=true)∧∀ t rv r a cm H',H a=none→cm.length≤U.length→H' t=some (.tup [rv,.ref a])→qc K r H' rv→dX P w K H' a cm→zJ (IF ts) (gv p q f b1 b2 b3 b4 ts) [(m0,none)] [m0] r cm→aG H H'→Q (.ref t) H'
theorem FP:aI P w K mg base bN 7 (az 34) (aL 34) ["first", "searched", "most"] (zj P w K (az 49) (az 50) (az 51) (az 52)):=by
 have sP:aI P w K mg base bN 2 (az 33) (aL 33) ["self", "place"] (ku K (az 49) (az 50) (az 51) (az 52)):=rq T
 have xy:aI P w K mg base bN 6 (az 32) (aL 32) ["self", "place"] (mW K (az 49) (az 50) (az 51) (az 52)):=uG T
 refine T.BL.ok gH (fun vs H Q E h=>?_) (fun cdv A outer s H vs Q E hr h=>?_)
 ·obtain⟨x,v,U,ts,p,q,f,b1,b2,b3,b4,rfl,_⟩:=h;rfl
 ·have hu:=aV hr
  have iD:=hr.aN
  obtain⟨x,v,U,ts,p,q,f,b1,b2,b3,b4,rfl,hW,g,hv,ht1,hUl,hU0,hU,hUg,k⟩:=h
  have qo:=hr.units
  obtain⟨b,s,rfl,hb,hs⟩:=hv
  refine⟨_,(ao (lg 3 gH.nd (E5 (YM P w K) (bK P w) rfl rfl rfl (hn1 qo) (pv 0) cX) (hs:=Kl))
   (ao (lg 4 gH.nd (br (af (pv 0) aj ak)) (hs:=jk))
   (ao (A4 PassesOwn.never (jd (Eb K rfl iD) (pv 4) (br aj))
   (ao (kJ PassesOwn.never rfl (cC K rfl (pv 4)) (pG 5 gH.nd)
   (aq (aR (bZ (oQ (k:=2) (pv 1) T.fN T.sF sP (hr.mono (by decide)) T.sE .nil jI (af (pv 5) aj ak))) (aq (aC (aJ (af (pv 5) (af (pv 3) aj ak) ak)))) aE)))
   (ao (aR (PW.pt (nj (jd zv (pv 2) cX) (j8 (jd vA (nH (bO K rfl) T.gA (af (pv 3) aj ak)) (pv 2))))) (aq (aC (aJ (af cX (af (pv 3) aj ak) ai)))) aE)
   (ao (lg 6 gH.nd (br aj) (hs:=jk))
   (ao (kJ PassesOwn.never rfl (cC K rfl (pv 4)) (pG 5 gH.nd)
   (aq (kJ PassesOwn.never rfl (cC K rfl (oQ (k:=6) (pv 1) T.fN T.wW xy (hr.mono (by decide)) T.wV .nil jI (af (pv 5) aj ak))) (pG 7 gH.nd)
   (aq (aR (Mp (CI (YM P w K) (bK P w) rfl rfl rfl (hn2 qo) (m5 K (pv 7) ay) (pv 3))) (ao (Ic (YM P w K) (bK P w) rfl rfl rfl (hn2 qo) (pv 3) (m5 K (pv 7) ay) (aJ (af (pv 5) (af (m5 K (pv 7) ay) aj aD) ak)) rfl)
   (aq (jj (nC K rfl PySem.F.plainAttrs_list PySem.F.slot_list_append PySem.F.type_list_append jD (pv 6) (af (m5 K (pv 7) ay) aj aD))))) aE)))))
   (aq (lg 4 gH.nd (pv 6) (hs:=Km))))))))
   (aq (aC (aJ (af cX (af (pv 3) aj ak) ai))))))),?_⟩
  refine fun a ha=>?_
  have sA:=au (o:=dN (ZM P w) (bK P w) a []) ha
  refine⟨_,rfl,cD m0,b,rfl,ah,j9 (P:=P) (w:=w) (m:=m0) (aQ sA hb) (aQ sA hs),?_⟩
  have c1:dX P w K (upd (upd H a (dN (ZM P w) (bK P w) a [])) a (dN (ZM P w) (bK P w) a [(cD m0,b,.non)])) a [(m0,none)]:=dX.one ah ⟨b,s,rfl,aQ sA hb,aQ sA hs⟩
  have s1:aG H (upd (upd H a (dN (ZM P w) (bK P w) a [])) a (dN (ZM P w) (bK P w) a [(cD m0,b,.non)])):=aZ ha sA
  generalize upd (upd H a (dN (ZM P w) (bK P w) a [])) a (dN (ZM P w) (bK P w) a [(cD m0,b,.non)])=H1 at c1 s1 ⊢
  refine⟨_,rfl,(by show 1≤sizeLine;decide),fun l0 EB=>?_⟩
  have s2:=au (o:=HO.lst [.ref b]) EB
  have g2:=ah (H:=H1) (a:=l0) (o:=HO.lst [.ref b])
  generalize upd H1 l0 (.lst [.ref b])=H2 at s2 g2 ⊢
  have s12:=s1.trans s2
  dsimp only[d8]
  refine⟨fun n σ J=>∃ l vs bF cm v5 v6 v7,σ=[some (.ref b),some (.ref x),some .non,some (.ref a),some (.ref l),v5,v6,v7]∧aG H J∧J l=some (.lst vs)∧wm K J vs bF∧dX P w K J a cm∧L6 U cm∧(∀ m∈bF,m∈U)∧(∀ r Ci,zJ (IF ts) (gv p q f b1 b2 b3 b4 ts) cm bF r Ci→zJ (IF ts) (gv p q f b1 b2 b3 b4 ts) [(m0,none)] [m0] r Ci)∧n=2 * (U.length - cm.length)+(if bF=[] then 0 else 1),⟨_,l0,_,[m0],_,_,_,_,rfl,s12,g2,.cons ⟨b,s,rfl,aQ s12 hb,aQ s12 hs⟩ .nil,c1.mono s2,⟨by simp,fun m hm=>?_⟩,fun m hm=>?_,fun r Ci q=>q,rfl⟩,?_⟩
  ·rw[List.mem_singleton.mp hm];exact hU0
  ·rw[List.mem_singleton.mp hm];exact hU0
  rintro n σ J ⟨l,vs,bF,cm,v5,v6,v7,rfl,sJ,hl,em,ca,iu,eU,hR,hn⟩
  refine⟨_,rfl,(by decide),fun e he=>⟨_,_,_,rfl,rfl,bE.of (au he _ _ hl),bE.of ah,_,rfl,?_⟩⟩
  have se:=au (o:=HO.lst []) he
  replace sJ:=sJ.trans se
  replace hl:=se _ _ hl
  replace em:=em.keep fun b xs q=>aQ se q
  replace ca:=ca.mono se
  generalize upd J e (.lst [])=J1 at sJ hl em ca ⊢
  clear se he
  cases em with
  | nil =>
   refine gK ⟨_,rfl,(by show 2≤sizeLine;decide),fun t ht=>?_⟩
   exact k t .non none a cm _ ha iu.len ah rfl (ca.mono (au ht)) (hR _ _ .stop) (sJ.trans (au ht))
  | @cons v1 e1 vs bF h1 em =>
  have em:wm K J1 (v1 :: vs) (e1 :: bF):=.cons h1 em
  have hne:e1 :: bF≠[]:=fun q=>nomatch q
  refine nA ?_
  generalize e1 :: bF=bF at em hne hn hR eU
  generalize v1 :: vs=vs at em hl
  rw[if_neg hne] at hn
  refine⟨fun σ G=>∃ l vs v5 v6 v7,σ=[some (.ref b),some (.ref x),some .non,some (.ref a),some (.ref l),v5,v6,v7]∧bF.find? (IF ts)=none∧aG H G∧G l=some (.lst vs)∧wm K G vs (expand (gv p q f b1 b2 b3 b4 ts) cm bF).2∧dX P w K G a (expand (gv p q f b1 b2 b3 b4 ts) cm bF).1∧L6 U (expand (gv p q f b1 b2 b3 b4 ts) cm bF).1∧∀ m∈(expand (gv p q f b1 b2 b3 b4 ts) cm bF).2,m∈U,?_,?_⟩
  ·rintro σ G ⟨l,vs,v5,v6,v7,rfl,hf,sG,hl,em,ca,Mi,eU'⟩
   refine⟨_,?_,l,vs,_,_,v5,v6,v7,rfl,sG,hl,em,ca,Mi,eU',fun r Ci q=>hR r Ci (.go hne hf q),rfl⟩
   have e1:=wu (led:=gv p q f b1 b2 b3 b4 ts) bF (cm,[])
   have e2:=Mi.len
   have e3:=iu.len
   unfold expand at e2 ⊢
   rw[hn]
   simp only[List.length_nil,Nat.add_zero] at e1
   by_cases q:(bF.foldl (kL (gv p q f b1 b2 b3 b4 ts)) (cm,[])).2=[]
   ·rw[if_pos q];rw[q,List.length_nil] at e1;omega
   ·rw[if_neg q]
    have:=List.length_pos_iff.mpr q
    omega
  refine⟨_,rfl,l,rfl,⟨_,bE.of hl⟩,?_⟩
  refine kW (K:=K) (a:=l) (xs:=vs) (fun i σ G=>aG J1 G∧(∀ m∈bF.take i,IF ts m=false)∧∃ v5,σ=[some (.ref b),some (.ref x),some .non,some (.ref a),some (.ref l),v5,v6,v7]) ⟨aG.refl _,(fun m hm=>nomatch hm),_,rfl⟩ (fun i σ G _ q=>bE.of (q.1 _ _ hl)) ?_ ?_
  ·rintro i e2 σ G hi ⟨sG,hno,Yo,rfl⟩
   obtain⟨m,hm,hv⟩:=aU em i e2 hi
   have NS:=hv.mono sG
   have RK:=hW.mono (sJ.trans sG)
   obtain⟨dx,mm,ll,ys,ex,eM,el,tp⟩:=RK.ok
   obtain⟨bx,sx,rfl,q1,q2⟩:=id NS
   dsimp only[d8]
   refine⟨_,rfl,_,_,_,rfl,ex,rfl,_,rfl,x,.ref bx,m,ts,p,q,f,b1,b2,b3,b4,rfl,RK,NS,fun G2 s2=>⟨_,rfl,?_⟩⟩
   by_cases hg:IF ts m=true
   ·refine yR hg ⟨_,rfl,_,rfl,(by show 2≤sizeLine;decide),fun t ht=>?_⟩
    have st:=(sG.trans s2).trans (au (o:=HO.tup [.ref bx,.ref a]) ht)
    exact k t _ (some m) a cm _ ha iu.len ah (hv.mono st) (ca.mono st) (hR _ _ (.found (Ku hm hg hno))) (sJ.trans st)
   ·refine Ei (qF hg) ⟨sG.trans s2,fun m' hm'=>?_,_,rfl⟩
    rw[bf hm] at hm'
    rcases List.mem_append.mp hm' with z | z
    ·exact hno m' z
    ·rw[List.mem_singleton.mp z];exact qF hg
  rintro σ G ⟨sG,hno,Yo,rfl⟩
  rw[em.length,List.take_of_length_le (Nat.le_refl _)] at hno
  have hf:=Kv hno
  replace sJ:=sJ.trans sG
  replace hl:=sG _ _ hl
  replace em:=em.keep fun b xs q=>aQ sG q
  replace ca:=ca.mono sG
  clear sG
  dsimp only[d8]
  refine⟨_,rfl,rfl,_,rfl,W5 rfl (gK (⟨(by decide),fun lf Py=>⟨_,rfl,_,rfl,⟨_,bE.of (au Py _ _ hl)⟩,?_⟩⟩))⟩
  have sf:=au (o:=HO.lst []) Py
  have RL:=ah (H:=G) (a:=lf) (o:=HO.lst [])
  have nlf:lf≠l:=fun q=>by rw[q,hl] at Py;cases Py
  have flf:H lf=none:=sJ.free Py
  replace sJ:=sJ.trans sf
  replace hl:=sf _ _ hl
  replace em:=em.keep fun b xs q=>aQ sf q
  replace ca:=ca.mono sf
  generalize upd G lf (.lst [])=G1 at sJ hl em ca RL ⊢
  clear sf Py
  refine kW (K:=K) (a:=l) (xs:=vs) (fun i σ J=>aG H J∧J l=some (.lst vs)∧wm K J vs bF∧∃ fv v5 v7,σ=[some (.ref b),some (.ref x),some .non,some (.ref a),some (.ref l),v5,some (.ref lf),v7]∧J lf=some (.lst fv)∧wm K J fv ((bF.take i).foldl (kL (gv p q f b1 b2 b3 b4 ts)) (cm,[])).2∧dX P w K J a ((bF.take i).foldl (kL (gv p q f b1 b2 b3 b4 ts)) (cm,[])).1∧L6 U ((bF.take i).foldl (kL (gv p q f b1 b2 b3 b4 ts)) (cm,[])).1∧∀ m∈((bF.take i).foldl (kL (gv p q f b1 b2 b3 b4 ts)) (cm,[])).2,m∈U) ⟨sJ,hl,em,[],_,_,rfl,RL,.nil,ca,iu,fun m hm=>nomatch hm⟩ (fun i σ J _ q=>bE.of q.2.1) ?_ ?_
  ·rintro i e2 σ J hi ⟨Pz,hl',Yp,fv,Yo,Yq,rfl,Wb,mf,RM,Mi,fU⟩
   obtain⟨m,hm,hv⟩:=aU Yp i e2 hi
   have hmU:=eU m (List.mem_of_getElem? hm)
   have hmt:m.2 < ts.length:=by
    rcases hUg m hmU with z | z
    ·exact z
    ·rw[hno m (List.mem_of_getElem? hm)] at z;cases z
   have Mj:=hU m hmU hmt
   have ef:(bF.take (i+1)).foldl (kL (gv p q f b1 b2 b3 b4 ts)) (cm,[])=(gv p q f b1 b2 b3 b4 ts m).foldl (gO m) ((bF.take i).foldl (kL (gv p q f b1 b2 b3 b4 ts)) (cm,[])):=by rw[bf hm,List.foldl_append];rfl
   rw[ef]
   have hal:((bF.take i).foldl (kL (gv p q f b1 b2 b3 b4 ts)) (cm,[])).2.length≤((bF.take i).foldl (kL (gv p q f b1 b2 b3 b4 ts)) (cm,[])).1.length:=by
    have q:=wu (led:=gv p q f b1 b2 b3 b4 ts) (bF.take i) (cm,[])
    simp only[List.length_nil,Nat.add_zero] at q
    omega
   generalize (bF.take i).foldl (kL (gv p q f b1 b2 b3 b4 ts)) (cm,[])=acc at mf RM Mi fU hal ⊢
   have RK:=hW.mono Pz
   obtain⟨dx,mm,ll0,ys,ex,eM,el,tp⟩:=RK.ok
   obtain⟨bx,sx,rfl,q1,q2⟩:=id hv
   dsimp only[d8]
   refine⟨_,rfl,_,_,_,rfl,ex,rfl,_,rfl,x,.ref bx,m,ts,p,q,f,b1,b2,b3,b4,rfl,RK,hv,g,hmt,ht1,fun ll us J2 RN hll ld s2=>?_⟩
   have nll:ll≠lf:=fun q=>by rw[q,Wb] at RN;cases RN
   have ca2:=RM.mono s2
   refine⟨ll,rfl,⟨_,bE.of hll⟩,?_⟩
   generalize hes:gv p q f b1 b2 b3 b4 ts m=es at ld Mj ⊢
   refine kW (K:=K) (a:=ll) (xs:=us) (fun j σ G=>aG H G∧G ll=some (.lst us)∧nL K G us es∧G l=some (.lst vs)∧wm K G vs bF∧dj K G m (.ref bx)∧∃ fv v7,σ=[some (.ref b),some (.ref x),some .non,some (.ref a),some (.ref l),some (.ref bx),some (.ref lf),v7]∧G lf=some (.lst fv)∧wm K G fv ((es.take j).foldl (gO m) acc).2∧dX P w K G a ((es.take j).foldl (gO m) acc).1∧L6 U ((es.take j).foldl (gO m) acc).1∧∀ m'∈((es.take j).foldl (gO m) acc).2,m'∈U) ⟨Pz.trans s2,hll,ld,s2 _ _ hl',Yp.keep (fun b xs q=>aQ s2 q),hv.mono s2,fv,_,rfl,s2 _ _ Wb,mf.keep (fun b xs q=>aQ s2 q),ca2,Mi,fU⟩ (fun j σ G _ q=>bE.of q.2.1) ?_ ?_
   ·rintro j e3 σ G hj ⟨sG,NT,ldG,Wc,Wd,NS,fv,Yq,rfl,We,PB,PD,NU,PF⟩
    obtain⟨⟨c,m'⟩,LS,t3,w3,rfl,h3,Wf⟩:=aU ldG j e3 hj
    have RO:=Mj _ (List.mem_of_getElem? LS)
    have ev:(es.take (j+1)).foldl (gO m) acc=gO m ((es.take j).foldl (gO m) acc) (c,m'):=by rw[bf LS,List.foldl_append];rfl
    rw[ev]
    have Yr:((es.take j).foldl (gO m) acc).2.length≤((es.take j).foldl (gO m) acc).1.length:=by
     have q:=wo (p:=m) (es.take j) acc
     omega
    generalize (es.take j).foldl (gO m) acc=ac at PB PD NU PF Yr ⊢
    have iu1:=Ks (p:=m) (e:=(c,m')) NU RO
    have hlen:=NU.len
    obtain⟨kvs,d,cr⟩:=PD.ok
    have kl:=IC cr
    obtain⟨b3,s3,rfl,z1,z2⟩:=id Wf
    have ka:rQ (YM P w K) G (cD m') b3:=j9 z1 z2
    dsimp only[d8]
    refine⟨_,rfl,t3,_,_,_,rfl,rfl,cB.of h3,rfl,_,rfl,a,kvs,cD m',b3,rfl,rfl,d,ka,_,rfl,?_⟩
    rw[wk cr]
    cases hh:cZ ac.1 m' with
    | true =>
     have e4:gO m ac (c,m')=ac:=if_pos hh
     rw[e4]
     exact gK ⟨sG,NT,ldG,Wc,Wd,NS,fv,_,rfl,We,PB,PD,NU,PF⟩
    | false =>
     have e4:gO m ac (c,m')=(ac.1++[(m',some (m,c))],ac.2++[m']):=if_neg (by rw[hh];decide)
     rw[e4] at iu1 ⊢
     refine nA ?_
     refine⟨_,rfl,_,rfl,t3,_,_,_,rfl,rfl,cB.of h3,rfl,(by show 2≤sizeLine;decide),fun t4 ht4=>?_⟩
     have s4:=au (o:=HO.tup [.ref bx,.str (sg c)]) ht4
     have g4:=ah (H:=G) (a:=t4) (o:=HO.tup [.ref bx,.str (sg c)])
     generalize upd G t4 (.tup [.ref bx,.str (sg c)])=G4 at s4 g4 ⊢
     have d4:=d.mono s4
     have cr4:=cr.keep fun b xs q=>aQ s4 q
     have hm4:=Wf.mono s4
     have lk4:qG K (some (m,c)) G4 (.ref t4):=⟨t4,.ref bx,rfl,cB.of g4,NS.mono s4⟩
     have c5:=dX.put d4 cr4 hm4 hh lk4
     have hkl:kvs.length < sizeLine:=Nat.lt_of_le_of_lt (show kvs.length≤100000 by omega) (by decide)
     refine⟨_,rfl,_,rfl,t3,_,_,_,rfl,rfl,cB.of (s4 _ _ h3),rfl,a,kvs,cD m',b3,rfl,rfl,d4,rQ.mono s4 ka,hkl,?_⟩
     have tq:=vO (F:=K) d4.ob (o:=dN (ZM P w) (bK P w) a (putN kvs (cD m') b3 (.ref t4)))
     have t1:∀ b' xs,G4 b'=some (.tup xs)→(upd G4 a (dN (ZM P w) (bK P w) a (putN kvs (cD m') b3 (.ref t4)))) b'=some (.tup xs):=fun b' xs e=>(aB (kT e d4.ob (fun q=>nomatch q))).trans e
     have tl:∀ b' xs,G4 b'=some (.lst xs)→(upd G4 a (dN (ZM P w) (bK P w) a (putN kvs (cD m') b3 (.ref t4)))) b'=some (.lst xs):=fun b' xs e=>(aB (kT e d4.ob (fun q=>nomatch q))).trans e
     have s5:aG H (upd G4 a (dN (ZM P w) (bK P w) a (putN kvs (cD m') b3 (.ref t4)))):=aZ ha (sG.trans s4)
     have ll5:=tl _ _ (s4 _ _ NT)
     have l5:=tl _ _ (s4 _ _ Wc)
     have K3:=tl _ _ (s4 _ _ We)
     have ld5:=(ldG.mono s4).keep t1 tq
     have Wa:=(Wd.keep fun b xs q=>aQ s4 q).keep tq
     have Ys:=(PB.keep fun b xs q=>aQ s4 q).keep tq
     have hv5:=(NS.mono s4).keep tq
     have hm5:=hm4.keep tq
     have h35:=t1 _ _ (s4 _ _ h3)
     generalize upd G4 a (dN (ZM P w) (bK P w) a (putN kvs (cD m') b3 (.ref t4)))=G5 at c5 s5 ll5 l5 K3 ld5 Wa Ys hv5 hm5 h35 ⊢
     have fvl:=Ys.length
     refine⟨_,rfl,.inl ⟨rfl,_,bE.of K3⟩,_,rfl,t3,_,_,_,rfl,rfl,cB.of h35,rfl,lf,_,_,rfl,rfl,K3,?_,?_⟩
     ·exact Nat.lt_of_le_of_lt (show fv.length≤200000 by rw[fvl];omega) (by decide)
     refine⟨aZ flf s5,(aB nll).trans ll5,ld5.but K3,(aB (Ne.symm nlf)).trans l5,Wa.keep (fun b xs q=>lU K3 q),hv5.but K3,fv++[.ref b3],_,rfl,ah,dW (Ys.keep fun b xs q=>lU K3 q) (.cons (hm5.but K3) .nil),c5.but K3,iu1,fun m1 hm1=>?_⟩
     rcases List.mem_append.mp hm1 with z | z
     ·exact PF m1 z
     ·rw[List.mem_singleton.mp z];exact RO
   ·rintro σ G ⟨sG,NT,ldG,Wc,Wd,NS,fv,Yq,rfl,We,PB,PD,NU,PF⟩
    rw[ld.length,List.take_of_length_le (Nat.le_refl _)] at PB PD NU PF
    exact⟨sG,Wc,Wd,fv,_,_,rfl,We,PB,PD,NU,PF⟩
  ·rintro σ J ⟨Pz,hl',Yp,fv,Yo,Yq,rfl,Wb,mf,RM,Mi,fU⟩
   rw[em.length,List.take_of_length_le (Nat.le_refl _)] at mf RM Mi fU
   exact⟨_,rfl,lf,fv,_,_,_,rfl,hf,Pz,Wb,mf,RM,Mi,fU⟩
def xA (P:Program) (w:World) (K:W.Frag):Sp:=fun vs H Q _=>∃(a:Addr) (v:V) (cm:Cm) (m:bg) (x:Option (bg×Nat)) (xs:List Nat),vs=[.ref a,v]∧dX P w K H a cm∧dj K H m v∧wz cm m=some x∧qH cm x xs∧xs.length≤100000∧∀ H',aG H H'→Q (.str (Txt.join ("":Str) (xs.map sg).reverse)) H'
theorem Df:aI P w K mg base bN 1 (az 35) (aL 35) ["came", "place"] (xA P w K):=by
 refine T.zc.ok lY (fun vs H Q E h=>?_) (fun cdv A outer s H vs Q E hr h=>?_)
 ·obtain⟨a,v,cm,m,x,xs,rfl,_⟩:=h;rfl
 ·have hu:=aV hr
  have iD:=hr.aN
  obtain⟨a,v,cm,m,x,xs,rfl,hC,hm,hx,hp,hxl,k⟩:=h
  have qo:=hr.units
  obtain⟨b,s,rfl,hb,hs⟩:=hm
  refine⟨_,(ao (lg 2 lY.nd (br aj) (hs:=jk))
   (ao (lg 3 lY.nd (Bo (YM P w K) (bK P w) rfl rfl rfl (hn2 qo) (pv 0) (pv 1) (fun _ _=>rfl)) (hs:=fH))
   (ao (A4 PassesOwn.never (jd zv (pv 3) cX)
   (ao (jj (nC K rfl PySem.F.plainAttrs_list PySem.F.slot_list_append PySem.F.type_list_append jD (pv 2) (af (m5 K (pv 3) ay) aj aD)))
   (aq (lg 3 lY.nd (Bo (YM P w K) (bK P w) rfl rfl rfl (hn2 qo) (pv 0) (m5 K (pv 3) ay) (fun _ _=>rfl)) (hs:=fH)))))
   (aq (aC (Br K rfl rfl rfl T.BU aA (af (pv 2) aj ak))))))),?_⟩
  refine⟨(by decide),fun l hl=>⟨_,rfl,_,rfl,?_⟩⟩
  have s1:=au (o:=HO.lst []) hl
  have hl1:=ah (H:=H) (a:=l) (o:=HO.lst [])
  generalize upd H l (.lst [])=H1 at s1 hl1 ⊢
  obtain⟨kvs,d,cr⟩:=(hC.mono s1).ok
  obtain⟨v,hv,lv⟩:=wA cr hx
  refine⟨a,kvs,cD m,b,v,rfl,rfl,d,j9 (aQ s1 hb) (aQ s1 hs),hv,?_⟩
  dsimp only[d8]
  refine⟨fun n σ J=>∃ done rest x v,σ=[some (.ref a),some (.ref b),some (.ref l),some v]∧aG H J∧J l=some (.lst ((done.map sg).map V.str))∧qG K x J v∧qH cm x rest∧xs=done++rest∧n=rest.length,⟨_,[],xs,x,v,rfl,s1,hl1,lv,hp,rfl,rfl⟩,?_⟩
  rintro n σ J ⟨done,rest,x,v,rfl,sJ,PK,lv,hp,hxs,hn⟩
  cases hp with
  | nil =>
   have lv:v=.non:=lv
   subst lv
   rw[List.append_nil] at hxs
   subst hxs
   refine⟨_,rfl,rfl,_,rfl,Ei rfl ?_⟩
   refine⟨_,rfl,_,rfl,l,xs.map sg,rfl,bE.of PK,?_,k J sJ⟩
   rw[Ep,List.length_map]
   show xs.length+xs.length * 0≤_
   omega
  | @cons m1 c1 x1 r1 hx1 hp1 =>
   obtain⟨t,w1,rfl,ht,hw⟩:=lv
   refine⟨_,rfl,rfl,_,rfl,yR rfl ?_⟩
   refine⟨fun σ J=>∃ v,σ=[some (.ref a),some (.ref b),some (.ref l),some v]∧aG H J∧J l=some (.lst (((done++[c1]).map sg).map V.str))∧qG K x1 J v,?_,?_⟩
   ·rintro σ J' ⟨v,rfl,Pz,hl',lv'⟩
    exact⟨_,by rw[hn];exact Nat.lt_succ_self _,_,_,_,_,rfl,Pz,hl',lv',hp1,by rw[hxs,List.append_assoc];rfl,rfl⟩
   have hdl:done.length≤100000:=by rw[hxs,List.length_append] at hxl;omega
   refine⟨_,rfl,.inl ⟨rfl,_,bE.of PK⟩,_,rfl,t,_,_,_,rfl,rfl,ht,rfl,l,_,_,rfl,rfl,PK,?_,?_⟩
   ·exact Nat.lt_of_le_of_lt (show((done.map sg).map V.str).length≤100000 by rw[List.length_map,List.length_map];exact hdl) (by decide)
   have Fv:=lU (o:=HO.lst ((done.map sg).map V.str++[.str (sg c1)])) PK ht
   obtain⟨kvs,d,cr⟩:=((hC.mono sJ).but (o:=HO.lst ((done.map sg).map V.str++[.str (sg c1)])) PK).ok
   obtain⟨v,hv,lv⟩:=wA cr hx1
   obtain⟨b1,s1,rfl,q1,q2⟩:=hw.keep (fun b xs q=>lU (o:=HO.lst ((done.map sg).map V.str++[.str (sg c1)])) PK q)
   refine⟨_,rfl,_,rfl,t,_,_,_,rfl,rfl,Fv,rfl,a,kvs,cD m1,b1,v,rfl,rfl,d,j9 q1 q2,hv,?_⟩
   exact⟨v,rfl,aZ hl sJ,by rw[List.map_append,List.map_append];exact ah,lv⟩
def xB:Sp:=fun vs H Q _=>False
theorem Dg:aI P w K mg base bN 1 (az 36) (aL 36) ["tokens", "count"] xB:=by
 refine T.FG.ok C4 (fun vs H Q E h=>?_) (fun cdv A outer s H vs Q E hr h=>?_)
 ·exact h.elim
 ·have hu:=aV hr
  have iD:=hr.aN
  exact h.elim
def oF (P:Program) (w:World) (K:W.Frag) (C CT CM CW:Addr) (CN:Addr):Sp:=fun vs H Q E=>(∃(x dx a:Addr) (xs:List V) (t:List (List Str)) (U:List bg) (ys:List Nat) (m:bg) (p q f:Str) (b1 b2 b3 b4:Bool),vs=[.ref x,.ref a]∧H x=some (.ins C dx (zF p q f b1 b2 b3 b4))∧Gd p q f∧H a=some (.lst xs)∧Paired (p9 H) xs t∧TabOk t∧UOk p q f b1 b2 b3 b4 (cF t) U∧mK (gv p q f b1 b2 b3 b4 (cF t)) m0 ys m∧IF (cF t) m=true∧ys.length≤100000∧∀ cs m' H',mK (gv p q f b1 b2 b3 b4 (cF t)) m0 cs m'→IF (cF t) m'=true→(∀ ys m,mK (gv p q f b1 b2 b3 b4 (cF t)) m0 ys m→IF (cF t) m=true→cs.length≤ys.length)→aG H H'→Q (.str (Txt.join ("":Str) (cs.map sg))) H')∨(∃(N:Addr→Prop) (n:Nat) (x:Addr) (v:V) (u:Tr),vs=[.ref x,v]∧Rp N n H v u∧uc u=false∧∀ H',aG H H'→E (.ref CN) none H')
theorem tR:aI P w K mg base (xK P w) 12 (az 37) (aL 37) ["dialect", "table"] (oF P w K (az 49) (az 50) (az 51) (az 52) (az 57)):=by
 have BY:aI P w K mg base bN 1 (az 10) (aL 10) ["self", "row", "cell"] (iy (az 63)):=nc T
 have rz:aI P w K mg base bN 10 (az 9) (aL 9) ["self", "dialect", "tokens"] (j4 K (az 49) (az 50) (az 51) (az 52)):=ql T
 have PL:aI P w K mg base bN 1 (az 36) (aL 36) ["tokens", "count"] xB:=Dg T
 have Jm:aI P w K mg base bN 7 (az 34) (aL 34) ["first", "searched", "most"] (zj P w K (az 49) (az 50) (az 51) (az 52)):=FP T
 have FQ:aI P w K mg base bN 1 (az 35) (aL 35) ["came", "place"] (xA P w K):=Df T
 have iV:aI P w K mg base (xK P w) 7 (az 19) (aL 19) ["table"] (jq K (az 57)):=mw T
 refine T.qi.Xa ki (fun vs H Q E h=>?_) (fun cdv A outer s H vs Q E hr h=>?_)
 ·rcases h with ⟨x,dx,a,xs,t,U,ys,m,p,q,f,b1,b2,b3,b4,rfl,_⟩ | ⟨N,n,x,v,u,rfl,_⟩ <;> rfl
 ·have hu:=aV hr
  have iD:=hr.aN
  have qo:=hr.units
  refine⟨_,(ao (lg 2 ki.nd (oO (k:=7) iV (hr.mono (by decide)) rfl T.nV T.ko.kp T.nU .nil LR (af (pv 1) aj ak)) (hs:=fG))
   (ao (lg 3 ki.nd (oO (k:=7) Jm (hr.mono (by decide)) rfl T.Jb T.BL.kp T.tP.choose_spec.2 T.tP.choose_spec.1 jI (af (aJ (af (f9 rfl T.oq) (af ay aj ai) ak)) (af (qA (k:=10) T.Jf rz (hr.mono (by decide)) rfl T.Je T.qR .nil jI (af (pv 0) (af (pv 2) aj ak) ak)) aj jl) cg)) (hs:=fG))
   (ao (lg 4 ki.nd (m5 K (pv 3) ay) (hs:=fH))
   (ao (aR (jd vB (m5 K (pv 3) ay) cX) (ao jG
   (aq jG)) aE)
   (aq (aC (kc FQ hr T.FF T.zc.kp T.FE (af (pv 4) (af (m5 K (pv 3) ay) aj aD) ak)))))))),?_⟩
  rcases h with ⟨x,dx,a,xs,t,U,ys,m,p,q,f,b1,b2,b3,b4,rfl,hx,g,ha,pr,tok,uo,hw,hg,hyl,k⟩ | ⟨N,n,x,v,u,rfl,hv,hT,kE⟩
  rotate_left
  ·exact⟨_,rfl,.inr ⟨N,n,v,u,rfl,hv,hT,kE⟩⟩
  have qo:=hr.units
  refine⟨_,rfl,.inl ⟨a,xs,t,rfl,ha,pr,tok,fun l ts H1 EB hl1 rt s1=>?_⟩⟩
  dsimp only[d8]
  refine⟨(by show 2≤sizeLine;decide),fun t2 Fv=>?_⟩
  have s2:=au (o:=HO.tup [.ref (az 67),.int 0]) Fv
  have h2:=ah (H:=H1) (a:=t2) (o:=HO.tup [.ref (az 67),.int 0])
  generalize upd H1 t2 (HO.tup [.ref (az 67),.int 0])=H2 at s2 h2 ⊢
  have s12:=s1.trans s2
  refine⟨_,rfl,_,rfl,fun z dz hz Wg ne=>⟨z,dz,x,dx,l,ts,cF t,p,q,f,b1,b2,b3,b4,rfl,ah,nI hz Wg (s12 _ _ hx),g,nI hz Wg (s2 _ _ hl1),gG (s2.trans (yX hz Wg)) rt,fun H3 hW kp=>⟨rfl,?_⟩⟩⟩
  have s3:=rW hz Wg kp
  have s13:=s12.trans s3
  have hm0:dj K H3 m0 (.ref t2):=⟨t2,(az 67),rfl,cB.of (s3 _ _ h2),.inr T.ou⟩
  refine⟨z,.ref t2,U,cF t,p,q,f,b1,b2,b3,b4,rfl,hW,g,hm0,IJ,uo.len,uo.one,uo.shut,uo.good,fun tf rv r a2 cm H4 _ _ htf hrv LS Yt s4=>?_⟩
  have out:=Ky Yt
  dsimp only[d8]
  have K4:=s13.trans s4
  refine⟨_,rfl,tf,_,_,_,rfl,rfl,cB.of htf,rfl,?_⟩
  dsimp only[d8]
  cases r with
  | none =>
   have q:=(out.2 ys m hw).2
   rw[hg] at q
   cases q
  | some m1 =>
   obtain⟨hg1,n,⟨x1,xs1,v1,l1,w1,e1⟩,hmin⟩:=out
   obtain⟨b1',s1',rfl,q1,q2⟩:=(show dj K H4 m1 rv from hrv)
   refine⟨_,rfl,tf,_,_,_,rfl,rfl,cB.of htf,rfl,rfl,_,rfl,Ei rfl ?_⟩
   refine⟨_,rfl,_,rfl,tf,_,_,_,rfl,rfl,cB.of htf,rfl,a2,.ref b1',cm,m1,x1,xs1,rfl,LS,hrv,v1,l1,?_,fun H5 s5=>?_⟩
   ·have:=hmin ys m hw hg
    omega
   rw[←List.map_reverse]
   refine k xs1.reverse m1 H5 w1 hg1 (fun ys m a b=>?_) (K4.trans s5)
   rw[List.length_reverse,e1]
   exact hmin ys m a b
def mX (K:W.Frag):Sp:=fun vs H Q _=>∃(a:Addr) (ns:List Int) (i:Int),vs=[.ref a,.int i]∧bE K H a (ns.map V.int)∧0≤i∧∀ r:Int,Q (.int r) H
theorem uH:aI P w K mg base bN 1 (az 38) (aL 38) ["_law_script", "_law_k"] (mX K):=by
 refine T.jY.ok ug (fun vs H Q E h=>?_) (fun cdv A outer s H vs Q E hr h=>?_)
 ·obtain⟨a,ns,i,rfl,_⟩:=h;rfl
 ·have hu:=aV hr
  have iD:=hr.aN
  obtain⟨a,ns,i,rfl,hS,hi,k⟩:=h
  refine⟨_,(ao (aR (jd D5 (pv 1) (nH (bO K rfl) T.gA (af (pv 0) aj ak))) (aq (aC (CL K (pv 0) (pv 1)))) aE)
   (aq (aC ay))),?_⟩
  refine⟨_,rfl,_,rfl,a,_,rfl,.inl hS,_,_,rfl,rfl,_,rfl,?_⟩
  refine cu (fun hc=>?_) (fun _=>?_)
  ·have hlt:=of_decide_eq_true hc
   obtain⟨v,ev,hv⟩:=zE hi hlt
   obtain⟨r,_,rfl⟩:=List.mem_map.mp hv
   exact⟨_,rfl,_,rfl,a,_,_,_,rfl,rfl,hS,ev,k r⟩
  ·exact k 0
def pQ:Sp:=fun vs H Q _=>∃ a b:Int,vs=[.int a,.int b]∧0≤a∧a < 4294967296∧0≤b∧b < 65536∧∀ r:Int,0≤r→r < 49979687→Q (.int r) H
theorem yb:aI P w K mg base bN 1 (az 39) (aL 39) ["_law_number_here", "_law_salt"] pQ:=by
 refine T.jn.ok kN (fun vs H Q E h=>?_) (fun cdv A outer s H vs Q E hr h=>?_)
 ·obtain⟨a,b,rfl,_⟩:=h;rfl
 ·have hu:=aV hr
  have iD:=hr.aN
  obtain⟨a,b,rfl,ha,ha',hb,hb',k⟩:=h
  refine⟨_,(ao (lg 2 kN.nd (aK dB (aK jH (aK nt (pv 0) (aK jH ay (aK nt ay (pv 1)))) (aK nt ay (pv 1))) ay) (hs:=gR))
   (ao (lg 3 kN.nd (aK dB (aK jH (aK nt (pv 2) (pv 2)) (pv 1)) ay) (hs:=gR))
   (aq (aC (aK dB (aK jH (aK nt (pv 3) (pv 3)) (pv 2)) ay))))),?_⟩
  refine⟨_,rfl,_,rfl,_,_,rfl,rfl,.inl ⟨by decide,by decide⟩,_,_,rfl,rfl,_,_,rfl,rfl,.inl ⟨by omega,by omega⟩,_,rfl,_,_,rfl,rfl,.inl ⟨by decide,by decide⟩,_,_,rfl,rfl,_,_,rfl,rfl,(by show(0:Int) < 15485863;decide),?_⟩
  have h1:=Int.emod_nonneg (a * (1299709+210 * b)+7919 * b) (show(15485863:Int)≠0 by decide)
  have h2:=Int.emod_lt_of_pos (a * (1299709+210 * b)+7919 * b) (show(0:Int) < 15485863 by decide)
  refine⟨_,rfl,_,rfl,_,_,rfl,rfl,.inl ⟨by omega,by omega⟩,_,rfl,_,_,rfl,rfl,_,_,rfl,rfl,(by show(0:Int) < 32452843;decide),?_⟩
  refine⟨_,rfl,_,rfl,_,_,rfl,rfl,.inl ⟨?_,?_⟩,_,rfl,_,_,rfl,rfl,_,_,rfl,rfl,(by show(0:Int) < 49979687;decide),?_⟩
  ·exact Int.lt_of_lt_of_le (by decide) (Int.emod_nonneg _ (by decide))
  ·exact Int.lt_trans (Int.emod_lt_of_pos _ (by decide)) (by decide)
  ·exact k _ (Int.emod_nonneg _ (by decide)) (Int.emod_lt_of_pos _ (by decide))
def j7:Sp:=fun vs H Q _=>∃ c s:Int,vs=[.int c,.int s]∧0≤s∧s < 60000∧∀ r:Int,Q (.int r) H
theorem oG:aI P w K mg base bN 2 (az 40) (aL 40) ["_law_cell", "_law_salt"] j7:=by
 have mD:aI P w K mg base bN 1 (az 39) (aL 39) ["_law_number_here", "_law_salt"] pQ:=yb T
 refine T.kP.ok jV (fun vs H Q E h=>?_) (fun cdv A outer s H vs Q E hr h=>?_)
 ·obtain⟨c,s,rfl,_⟩:=h;rfl
 ·have hu:=aV hr
  have iD:=hr.aN
  obtain⟨c,sa,rfl,hs,hs',k⟩:=h
  refine⟨_,(ao (aR (PW.pt (nj (jd cI (aK dB (pv 0) ay) ay) (j8 (jd LG (pv 0) (aK nt ay (aK Hg ay ay)))))) (aq (aC (aK Mz (aK eS (pv 0) ay) (aK Hg ay ay)))) aE)
   (ao (lg 2 jV.nd (aK dB (pv 0) ay) (hs:=gR))
   (ao (lg 3 jV.nd (aK jH (aK nt (kc mD hr T.mh T.jn.kp T.lZ (af (pv 2) (af (pv 1) aj ak) ak)) ay) (kc mD hr T.mh T.jn.kp T.lZ (af (pv 2) (af (aK jH (pv 1) ay) aj cL) ak))) (hs:=gR))
   (aq (aC (aK jH (aK nt (pv 3) ay) (kc mD hr T.mh T.jn.kp T.lZ (af (pv 2) (af (aK jH (pv 1) ay) aj cL) ak)))))))),?_⟩
  have p18:Qe 10 18:=⟨by decide,by decide,by decide⟩
  have n0:0≤c % 1000000007:=Int.emod_nonneg _ (by decide)
  have n1:c % 1000000007 < 4294967296:=Int.lt_trans (Int.emod_lt_of_pos _ (by decide)) (by decide)
  refine⟨_,rfl,_,_,rfl,rfl,(by show(0:Int) < 2;decide),rfl,_,rfl,?_⟩
  refine cu (fun _=>?_) (fun _=>?_)
  ·refine⟨_,rfl,_,_,rfl,rfl,p18,_,_,rfl,rfl,.inl ⟨by decide,by decide⟩,_,_,rfl,rfl,_,rfl,?_⟩
   refine cu (fun _=>?_) (fun _=>?_)
   ·exact⟨_,rfl,_,_,rfl,rfl,⟨by decide,by decide⟩,_,_,rfl,rfl,p18,_,_,rfl,rfl,k _⟩
   ·refine⟨_,rfl,_,_,rfl,rfl,(by show(0:Int) < 1000000007;decide),?_⟩
    refine⟨_,rfl,_,rfl,_,_,rfl,n0,n1,by omega,by omega,fun r1 _ _=>?_⟩
    refine⟨_,_,rfl,rfl,.inr ⟨by decide,by decide⟩,_,rfl,_,rfl,_,_,rfl,rfl,_,_,rfl,n0,n1,by omega,by omega,fun r2 _ _=>⟨_,_,rfl,rfl,?_⟩⟩
    refine⟨_,rfl,_,_,rfl,rfl,.inr ⟨by decide,by decide⟩,_,rfl,_,rfl,_,_,rfl,rfl,_,_,rfl,n0,n1,by omega,by omega,fun r3 _ _=>⟨_,_,rfl,rfl,k _⟩⟩
  ·refine⟨_,rfl,_,_,rfl,rfl,(by show(0:Int) < 1000000007;decide),?_⟩
   refine⟨_,rfl,_,rfl,_,_,rfl,n0,n1,by omega,by omega,fun r1 _ _=>?_⟩
   refine⟨_,_,rfl,rfl,.inr ⟨by decide,by decide⟩,_,rfl,_,rfl,_,_,rfl,rfl,_,_,rfl,n0,n1,by omega,by omega,fun r2 _ _=>⟨_,_,rfl,rfl,?_⟩⟩
   refine⟨_,rfl,_,_,rfl,rfl,.inr ⟨by decide,by decide⟩,_,rfl,_,rfl,_,_,rfl,rfl,_,_,rfl,n0,n1,by omega,by omega,fun r3 _ _=>⟨_,_,rfl,rfl,k _⟩⟩
def rA:Sp:=fun vs H Q _=>∃(n m:Int) (me:Str),vs=[.int n,.int m,.str me]∧Mn me∧0≤m∧m≤3∧∀(t:Addr) (z:Str) (r:Int),Sg z→(z.length:Int)≤m→(1≤m→1≤z.length)→H t=none→Q (.ref t) (upd H t (.tup [.str z,.int r]))
theorem Ad:aI P w K mg base bN 1 (az 41) (aL 41) ["_law_number_here", "_law_many", "_law_menu"] rA:=by
 refine T.kq.ok fM (fun vs H Q E h=>?_) (fun cdv A outer s H vs Q E hr h=>?_)
 ·obtain⟨n,m,me,rfl,_⟩:=h;rfl
 ·have hu:=aV hr
  have iD:=hr.aN
  obtain⟨n,m,me,rfl,⟨hm1,hm2,Wf⟩,h0,h3,k⟩:=h
  have hml:me.length≤sizeLine:=Nat.le_trans hm2 (by decide)
  refine⟨_,(ao (lg 3 fM.nd aA (hs:=nG))
   (ao (kJ PassesOwn.never rfl (rO rfl T.xh (af (pv 1) aj ak)) (pG 4 fM.nd)
   (ao (lg 5 fM.nd (Hu MG (pv 2) (aK dB (pv 0) (nH fE T.gA (af (pv 2) aj ak))) (fun _ _=>rfl)) (hs:=fH))
   (ao (lg 0 fM.nd (aK eS (pv 0) (nH fE T.gA (af (pv 2) aj ak))) (hs:=gR))
   (aq (aR (gQ lP (pv 5) (pv 3) rfl) (aq (lg 3 fM.nd (aK gn (pv 3) (pv 5)) (hs:=gR))) aE)))))
   (aq (aC (aJ (af (pv 3) (af (pv 0) aj ak) ak)))))),?_⟩
  refine⟨_,rfl,m,rfl,by omega,by omega,?_⟩
  refine EK (fun i σ H2=>H2=H∧∃(r:Int) (z:Str) (v1 v2:Option V),σ=[some (.int r),some (.int m),some (.str me),some (.str z),v1,v2]∧Sg z∧z.length≤i∧(1≤i→1≤z.length)) ⟨rfl,n,_,_,_,rfl,Ni,by decide,fun z=>absurd z (by decide)⟩ ?_ ?_
  ·rintro i σ H2 hi ⟨rfl,r,z,v1,v2,rfl,g,hz,hz1⟩
   have hlen:me.cps.toList.length=me.length:=by rw[Array.length_toList];rfl
   obtain⟨c,ec,hc⟩:=zE (xs:=me.cps.toList) (Int.emod_nonneg r (show(me.length:Int)≠0 by omega)) (by rw[hlen];exact Int.emod_lt_of_pos r (by omega))
   refine⟨_,rfl,_,rfl,_,rfl,me,rfl,hml,_,_,rfl,rfl,(by show(0:Int) < me.length;omega),me,_,c,rfl,rfl,hml,ec,?_⟩
   refine⟨_,rfl,_,rfl,me,rfl,hml,_,_,rfl,rfl,⟨by show(0:Int) < me.length;omega,by show(me.length:Int) < 1073741824;omega⟩,?_⟩
   refine⟨_,rfl,_,rfl,_,_,rfl,rfl,_,rfl,?_⟩
   refine cu (fun ha=>?_) (fun ha=>?_)
   ·have e1:(z++(⟨#[c]⟩:Str)).length=z.length+1:=gb _ _
    refine⟨_,rfl,_,rfl,_,_,rfl,rfl,?_,rfl,_,_,_,_,rfl,Nh g (Wf c hc) ha,by rw[e1];omega,fun _=>by rw[e1];omega⟩
    exact Nat.le_trans (show z.length+1≤5 by omega) (by decide)
   ·refine⟨rfl,_,_,_,_,rfl,g,by omega,fun _=>?_⟩
    have hin:c∈z.cps.toList:=Classical.byContradiction fun q=>ha ((BB z c).mpr q)
    have:=List.length_pos_of_mem hin
    rw[Array.length_toList] at this
    exact this
  ·rintro σ H2 ⟨rfl,r,z,v1,v2,rfl,g,hz,hz1⟩
   exact⟨_,rfl,_,rfl,(by show 2≤sizeLine;decide),fun t ht=>k t z r g (by omega) (fun q=>hz1 (by omega)) ht⟩
def pR:Sp:=fun vs H Q _=>∃ n:Int,vs=[.int n]∧∀(l:Addr) (m1 m2 m3:Str),Mn m1→Mn m2→Mn m3→H l=none→Q (.ref l) (upd H l (.lst [.str m1,.str m2,.str m3]))
theorem yc:aI P w K mg base bN 1 (az 42) (aL 42) ["_law_way"] pR:=by
 refine T.qV.ok pH (fun vs H Q E h=>?_) (fun cdv A outer s H vs Q E hr h=>?_)
 ·obtain⟨n,rfl,_⟩:=h;rfl
 ·have hu:=aV hr
  have iD:=hr.aN
  obtain⟨n,rfl,k⟩:=h
  refine⟨_,(ao (lg 1 pH.nd aA (hs:=nG))
   (ao (aR (jd cI (pv 0) ay) (aq (aC (br (af aA (af aA (af aA aj ai) ai) ai)))) aE)
   (ao (aR (jd cI (pv 0) ay) (aq (aC (br (af aA (af aA (af aA aj ai) ai) ai)))) aE)
   (aq (aC (br (af (pv 1) (af (pv 1) (af (pv 1) aj ak) ak) ak))))))),?_⟩
  refine⟨_,rfl,rfl,_,rfl,?_⟩
  refine cu (fun _=>?_) (fun _=>?_)
  ·exact⟨by decide,fun l hl=>k l _ _ _ (by decide +kernel) (by decide +kernel) (by decide +kernel) hl⟩
  ·refine⟨_,rfl,rfl,_,rfl,?_⟩
   refine cu (fun _=>?_) (fun _=>?_)
   ·exact⟨by decide,fun l hl=>k l _ _ _ (by decide +kernel) (by decide +kernel) (by decide +kernel) hl⟩
   ·exact⟨_,rfl,_,rfl,_,rfl,by decide,fun l hl=>k l _ _ _ (by decide +kernel) (by decide +kernel) (by decide +kernel) hl⟩
def rB:Sp:=fun vs H Q _=>∃ c:Int,vs=[.int c]∧∀(t:Addr) (p q f:Str) (b1 b2 b3 b4:Bool) (H':Hp),Gd p q f→H t=none→H' t=some (.tup (tK p q f b1 b2 b3 b4))→aG H H'→Q (.ref t) H'
theorem Ae:aI P w K mg base bN 3 (az 43) (aL 43) ["_law_cell"] rB:=by
 have Af:aI P w K mg base bN 1 (az 42) (aL 42) ["_law_way"] pR:=yc T
 have kR:aI P w K mg base bN 2 (az 40) (aL 40) ["_law_cell", "_law_salt"] j7:=oG T
 have oH:aI P w K mg base bN 1 (az 41) (aL 41) ["_law_number_here", "_law_many", "_law_menu"] rA:=Ad T
 refine T.tN.ok bB (fun vs H Q E h=>?_) (fun cdv A outer s H vs Q E hr h=>?_)
 ·obtain⟨c,rfl,_⟩:=h;rfl
 ·have hu:=aV hr
  have iD:=hr.aN
  obtain⟨c,rfl,k⟩:=h
  refine⟨_,(ao (lg 1 bB.nd (kc kR hr T.pN T.kP.kp T.pM (af (pv 0) (af ay aj ai) ak)) (hs:=fG))
   (ao (lg 2 bB.nd (aK dB (pv 1) ay) (hs:=gR))
   (ao (lg 3 bB.nd (br (af (aK jH ay (aK dB (aK eS (pv 1) ay) ay)) (af (aK dB (aK eS (pv 1) ay) ay) (af (aK dB (aK eS (pv 1) ay) ay) aj cL) cL) cL)) (hs:=jk))
   (ao (lg 4 bB.nd (kc Af hr T.zU T.qV.kp T.zS (af (aK dB (aK eS (pv 1) ay) ay) aj cL)) (hs:=fG))
   (ao (Ck (kc oH hr T.oh T.kq.kp T.n8 (af (aK eS (pv 1) ay) (af (CL K (pv 3) ay) (af (CL K (pv 4) ay) aj aD) aD) cL)) (vf K rfl 2 rfl (iN (pG 5 bB.nd) (iN (pG 1 bB.nd) u0))))
   (ao (Ck (kc oH hr T.oh T.kq.kp T.n8 (af (pv 1) (af (CL K (pv 3) ay) (af (CL K (pv 4) ay) aj aD) aD) ak)) (vf K rfl 2 rfl (iN (pG 6 bB.nd) (iN (pG 1 bB.nd) u0))))
   (ao (Ck (kc oH hr T.oh T.kq.kp T.n8 (af (pv 1) (af (CL K (pv 3) ay) (af (CL K (pv 4) ay) aj aD) aD) ak)) (vf K rfl 2 rfl (iN (pG 7 bB.nd) (iN (pG 1 bB.nd) u0))))
   (ao (lg 8 bB.nd (br (af (Iw cI (aK dB (pv 2) ay) ay) (af (Iw cI (aK dB (aK eS (pv 2) ay) ay) ay) (af (Iw cI (aK dB (aK eS (pv 2) ay) ay) ay) (af (Iw cI (aK dB (aK eS (pv 2) ay) ay) ay) aj lS) lS) lS) lS)) (hs:=jk))
   (aq (aC (aJ (af (pv 5) (af (pv 6) (af (pv 7) (af (CL K (pv 8) ay) (af (CL K (pv 8) ay) (af (CL K (pv 8) ay) (af (CL K (pv 8) ay) aj aD) aD) aD) aD) ak) ak) ak)))))))))))),?_⟩
  refine⟨_,rfl,_,_,rfl,by decide,by decide,fun n=>?_⟩
  refine⟨_,rfl,_,_,rfl,rfl,(by show(0:Int) < 16;decide),?_⟩
  refine⟨_,rfl,_,_,rfl,rfl,⟨by decide,by decide⟩,_,_,rfl,rfl,(by show(0:Int) < 3;decide),_,_,rfl,rfl,_,rfl,_,_,rfl,rfl,⟨by decide,by decide⟩,_,_,rfl,rfl,(by show(0:Int) < 3;decide),_,rfl,_,_,rfl,rfl,⟨by decide,by decide⟩,_,_,rfl,rfl,(by show(0:Int) < 3;decide),(by show 3≤sizeLine;decide),fun l hl=>?_⟩
  have m1:=Int.emod_nonneg (n / 16) (show(3:Int)≠0 by decide)
  have m1':=Int.emod_lt_of_pos (n / 16) (show(0:Int) < 3 by decide)
  have m2:=Int.emod_nonneg (n / 48) (show(3:Int)≠0 by decide)
  have m2':=Int.emod_lt_of_pos (n / 48) (show(0:Int) < 3 by decide)
  have m3:=Int.emod_nonneg (n / 144) (show(3:Int)≠0 by decide)
  have m3':=Int.emod_lt_of_pos (n / 144) (show(0:Int) < 3 by decide)
  have h1:(upd H l (.lst [.int (1+n / 16 % 3),.int (n / 48 % 3),.int (n / 144 % 3)])) l=some (.lst [.int (1+n / 16 % 3),.int (n / 48 % 3),.int (n / 144 % 3)]):=ah
  have s1:aG H (upd H l (.lst [.int (1+n / 16 % 3),.int (n / 48 % 3),.int (n / 144 % 3)])):=au hl
  generalize upd H l (.lst [.int (1+n / 16 % 3),.int (n / 48 % 3),.int (n / 144 % 3)])=H1 at h1 s1 ⊢
  refine⟨_,rfl,_,_,rfl,rfl,⟨by decide,by decide⟩,_,_,rfl,rfl,(by show(0:Int) < 3;decide),_,rfl,fun l2 e1 e2 e3 g1 g2 g3 hl2=>?_⟩
  have h2:(upd H1 l2 (.lst [.str e1,.str e2,.str e3])) l2=some (.lst [.str e1,.str e2,.str e3]):=ah
  have s2:aG H1 (upd H1 l2 (.lst [.str e1,.str e2,.str e3])):=au hl2
  generalize upd H1 l2 (.lst [.str e1,.str e2,.str e3])=H2 at h2 s2 ⊢
  have h12:=s2 _ _ h1
  refine⟨_,rfl,_,_,rfl,rfl,⟨by decide,by decide⟩,_,rfl,l,_,_,_,rfl,rfl,bE.of h12,rfl,_,rfl,l2,_,_,_,rfl,rfl,bE.of h2,rfl,_,_,_,rfl,g1,by omega,by omega,fun t1 p r1 gp lp lp1 ht1=>?_⟩
  refine⟨t1,_,rfl,cB.of ah,rfl,_,_,rfl,_,_,rfl,rfl,?_⟩
  have s3:aG H2 (upd H2 t1 (.tup [.str p,.int r1])):=au ht1
  generalize upd H2 t1 (.tup [.str p,.int r1])=H3 at s3 ⊢
  refine⟨_,rfl,_,rfl,l,_,_,_,rfl,rfl,bE.of (s3 _ _ h12),rfl,_,rfl,l2,_,_,_,rfl,rfl,bE.of (s3 _ _ h2),rfl,_,_,_,rfl,g2,by omega,by omega,fun t2 q r2 gq lq lq1 Fv=>?_⟩
  refine⟨t2,_,rfl,cB.of ah,rfl,_,_,rfl,_,_,rfl,rfl,?_⟩
  have s4:aG H3 (upd H3 t2 (.tup [.str q,.int r2])):=au Fv
  generalize upd H3 t2 (.tup [.str q,.int r2])=H4 at s4 ⊢
  refine⟨_,rfl,_,rfl,l,_,_,_,rfl,rfl,bE.of (s4 _ _ (s3 _ _ h12)),rfl,_,rfl,l2,_,_,_,rfl,rfl,bE.of (s4 _ _ (s3 _ _ h2)),rfl,_,_,_,rfl,g3,by omega,by omega,fun t3 f r3 gf lf lf1 ht3=>?_⟩
  refine⟨t3,_,rfl,cB.of ah,rfl,_,_,rfl,_,_,rfl,rfl,?_⟩
  have s5:aG H4 (upd H4 t3 (.tup [.str f,.int r3])):=au ht3
  generalize upd H4 t3 (.tup [.str f,.int r3])=H5 at s5 ⊢
  refine⟨_,rfl,_,_,rfl,rfl,(by show(0:Int) < 2;decide),rfl,_,rfl,_,_,rfl,rfl,⟨by decide,by decide⟩,_,_,rfl,rfl,(by show(0:Int) < 2;decide),rfl,_,rfl,_,_,rfl,rfl,⟨by decide,by decide⟩,_,_,rfl,rfl,(by show(0:Int) < 2;decide),rfl,_,rfl,_,_,rfl,rfl,⟨by decide,by decide⟩,_,_,rfl,rfl,(by show(0:Int) < 2;decide),rfl,(by show 4≤sizeLine;decide),fun l6 Yu=>?_⟩
  have s6:=au (o:=HO.lst [.bl (decide (V.int (n % 16 % 2)=V.int 1)),.bl (decide (V.int (n % 16 / 2 % 2)=V.int 1)),.bl (decide (V.int (n % 16 / 4 % 2)=V.int 1)),.bl (decide (V.int (n % 16 / 8 % 2)=V.int 1))]) Yu
  refine⟨_,rfl,_,rfl,_,rfl,_,rfl,l6,_,_,_,rfl,rfl,bE.of ah,rfl,_,rfl,l6,_,_,_,rfl,rfl,bE.of ah,rfl,_,rfl,l6,_,_,_,rfl,rfl,bE.of ah,rfl,_,rfl,l6,_,_,_,rfl,rfl,bE.of ah,rfl,(by show 7≤sizeLine;decide),fun t ht=>?_⟩
  have RP:=((((s1.trans s2).trans s3).trans s4).trans s5).trans s6
  exact k t p q f _ _ _ _ _ ⟨gp,gq,gf,lp1 (by omega),by omega,by omega,by omega⟩ (RP.free ht) ah (RP.trans (au ht))
def rC (C:Addr):Sp:=fun vs H Q _=>∃(t:Addr) (p q f:Str) (b1 b2 b3 b4:Bool),vs=[.ref t]∧H t=some (.tup (tK p q f b1 b2 b3 b4))∧Gd p q f∧∀(x dx:Addr) (H':Hp),H x=none→H' x=some (.ins C dx (zF p q f b1 b2 b3 b4))→aG H H'→Q (.ref x) H'
theorem Ag:aI P w K mg base bN 5 (az 44) (aL 44) ["_law_told_here"] (rC (az 49)):=by
 have gC:aI P w K mg base bN 3 (az 2) (aL 2) ["self", "parts", "quotes", "frees", "twin", "wide", "thin", "stray"] (fQ (az 49)):=jh T
 refine T.tO.ok zN (fun vs H Q E h=>?_) (fun cdv A outer s H vs Q E hr h=>?_)
 ·obtain⟨t,p,q,f,b1,b2,b3,b4,rfl,_⟩:=h;rfl
 ·have hu:=aV hr
  have iD:=hr.aN
  obtain⟨t,p,q,f,b1,b2,b3,b4,rfl,ht,g,k⟩:=h
  have hS:cB K H t (tK p q f b1 b2 b3 b4):=cB.of ht
  refine⟨_,(aq (aC (qA (k:=3) T.zf gC (hr.mono (by decide)) rfl T.zd T.jX .nil jI (af (m5 K (pv 0) ay) (af (m5 K (pv 0) ay) (af (m5 K (pv 0) ay) (af (m5 K (pv 0) ay) (af (m5 K (pv 0) ay) (af (m5 K (pv 0) ay) (af (m5 K (pv 0) ay) aj aD) aD) aD) aD) aD) aD) aD)))),?_⟩
  refine⟨_,rfl,t,_,_,_,rfl,rfl,hS,rfl,_,rfl,t,_,_,_,rfl,rfl,hS,rfl,_,rfl,t,_,_,_,rfl,rfl,hS,rfl,_,rfl,t,_,_,_,rfl,rfl,hS,rfl,_,rfl,t,_,_,_,rfl,rfl,hS,rfl,_,rfl,t,_,_,_,rfl,rfl,hS,rfl,_,rfl,t,_,_,_,rfl,rfl,hS,rfl,fun x dx hx hdx ne=>?_⟩
  refine⟨x,dx,p,q,f,b1,b2,b3,b4,rfl,ah,g,fun H2 h2 kp=>⟨rfl,k x dx H2 hx h2 fun b o e=>kp b o ?_ (aM e hx)⟩⟩
  rw[aB (aM e hx),aB (aM e hdx)]
  exact e
def pS (K:W.Frag):Sp:=fun vs H Q _=>∃(c:Int),vs=[.int c]∧∀(v:V) (u:Tr) (H':Hp),aG H H'→Rp (fun b=>H b=none) 3 H' v u→uc u=false→Q v H'
theorem yd:aI P w K mg base bN 3 (az 45) (aL 45) ["_law_cell"] (pS K):=by
 have kR:aI P w K mg base bN 2 (az 40) (aL 40) ["_law_cell", "_law_salt"] j7:=oG T
 refine T.qW.ok eN (fun vs H Q E h=>?_) (fun cdv A outer s H vs Q E hr h=>?_)
 ·obtain⟨c,rfl,_⟩:=h;rfl
 ·have hu:=aV hr
  have iD:=hr.aN
  obtain⟨c,rfl,k⟩:=h
  refine'⟨_,?aa,?bb⟩
  case aa =>
   refine' ao ?s0 ?r0
   case s0 =>
    exact(lg 1 eN.nd (kc kR hr T.pN T.kP.kp T.pM (af (pv 0) (af ay aj ai) ak)) (hs:=fG))
   case r0 =>
    refine' ao ?s1 ?r1
    case s1 =>
     exact(Ea (i:=2) rfl eN.nd rfl rfl (show aX ["_law_cell", "_law_number_here", "_law_rows", "_law_some_here", "_law_at", "_law_more"] (av dU) ["_law_k"] 1 [] _ from CK) (rO rfl T.xh (af (aK dB (pv 1) ay) aj cL)) (fun _ _ _ _=>(pG 0 Fe)) (fun _ _ _ _=>eV) (fun _ _ _ _=>(br (af aA (af aA aj ai) ai))))
    case r1 =>
     refine' ao ?s2 ?r2
     case s2 =>
      refine' Cn (i:=3) ?GW ?hb3 ?hc3 ?v3 ?hd3 ?he3
      case GW=>exact eN.nd
      case hb3=>rfl
      case hc3=>exact(by first | exact Or.inl rfl | exact Or.inr rfl)
      case hd3=>exact jk
      case he3=>first | exact .inl rfl | exact .inr rfl | assumption
      case v3 =>
       refine' br ?a4
       case a4 =>
        refine' af ?x5 ?y5 ?z5
        case z5=>exact cg
        case x5 =>
         refine' aJ ?a6
         case a6 =>
          refine' af ?x7 ?y7 ?z7
          case z7=>exact ai
          case x7 =>
           exact aA
          case y7 =>
           refine' af ?x8 ?y8 ?z8
           case z8=>exact ai
           case x8 =>
            exact aA
           case y8 =>
            exact aj
        case y5 =>
         refine' af ?x9 ?y9 ?z9
         case z9=>exact ai
         case x9 =>
          exact aA
         case y9 =>
          refine' af ?Yh ?Yi ?Yj
          case Yj=>exact fJ
          case Yh =>
           refine' br ?Yc
           case Yc =>
            exact aj
          case Yi =>
           refine' af ?Yd ?Ye ?Yg
           case Yg=>exact fJ
           case Yd =>
            refine' br ?Yv
            case Yv =>
             refine' af ?x14 ?y14 ?z14
             case z14=>exact ai
             case x14 =>
              exact aA
             case y14 =>
              refine' af ?KO ?KP ?KQ
              case KQ=>exact ai
              case KO =>
               exact cX
              case KP =>
               exact aj
           case Ye =>
            refine' af ?KR ?KS ?KU
            case KU=>exact fJ
            case KR =>
             refine' br ?Yw
             case Yw =>
              refine' af ?x18 ?y18 ?z18
              case z18=>exact ai
              case x18 =>
               exact ay
              case y18 =>
               exact aj
            case KS =>
             refine' af ?x19 ?y19 ?z19
             case z19=>exact fJ
             case x19 =>
              refine' br ?Yx
              case Yx =>
               refine' af ?x21 ?y21 ?z21
               case z21=>exact ai
               case x21 =>
                exact aA
               case y21 =>
                exact aj
             case y19 =>
              refine' af ?K0 ?K1 ?K2
              case K2=>exact fJ
              case K0 =>
               refine' br ?Yy
               case Yy =>
                refine' af ?x24 ?y24 ?z24
                case z24=>exact fJ
                case x24 =>
                 refine' br ?Yz
                 case Yz =>
                  refine' af ?NP ?NQ ?NR
                  case NR=>exact ai
                  case NP =>
                   exact aA
                  case NQ =>
                   exact aj
                case y24 =>
                 exact aj
              case K1 =>
               refine' af ?X7 ?X8 ?Yb
               case Yb=>exact fJ
               case X7 =>
                refine' br ?YA
                case YA =>
                 refine' af ?x29 ?y29 ?z29
                 case z29=>exact ai
                 case x29 =>
                  exact jF
                 case y29 =>
                  exact aj
               case X8 =>
                refine' af ?RD ?RE ?RG
                case RG=>exact cL
                case RD =>
                 exact(aK MJ (br (af aA aj ai)) ay)
                case RE =>
                 refine' af ?RH ?RI ?RJ
                 case RJ=>exact fJ
                 case RH =>
                  refine' br ?a32
                  case a32 =>
                   refine' af ?Rx ?Ry ?Rz
                   case Rz=>exact cL
                   case Rx =>
                    exact(aK zB aA ay)
                   case Ry =>
                    exact aj
                 case RI =>
                  refine' af ?x34 ?y34 ?z34
                  case z34=>exact ai
                  case x34 =>
                   exact cX
                  case y34 =>
                   refine' af ?Xy ?Xz ?XA
                   case XA=>exact ai
                   case Xy =>
                    exact ay
                   case Xz =>
                    exact aj
     case r2 =>
      refine' ao ?s36 ?r36
      case s36 =>
       exact(lg 4 eN.nd (aK dB (aK eS (pv 1) ay) (aK jH (nH (bO K rfl) T.gA (af (pv 2) aj ak)) ay)) (hs:=gR))
      case r36 =>
       refine' ao ?XC ?XD
       case XC =>
        refine' aR ?RA ?RB ?XE
        case RA=>exact(jd vA (aK dB (aK eS (pv 1) ay) ay) ay)
        case RB =>
         refine' aq ?XF
         case XF =>
          exact(aC (aK CA (aK CA (vF (vJ K rfl) (pv 2) D8 (vd (pv 4))) (br (af (CL K (pv 3) (aK dB (aK eS (pv 1) ay) ay)) aj aD))) (vF (vJ K rfl) (pv 2) (vd (pv 4)) D8)))
        case XE =>
         exact aE
       case XD =>
        refine' ao ?s40 ?r40
        case s40 =>
         refine' Cn (i:=5) ?YB ?YC ?YD ?v41 ?YE ?YF
         case YB=>exact eN.nd
         case YC=>rfl
         case YD=>exact(by first | exact Or.inl rfl | exact Or.inr rfl)
         case YE=>exact jk
         case YF=>first | exact .inl rfl | exact .inr rfl | assumption
         case v41 =>
          refine' br ?YG
          case YG =>
           refine' af ?XH ?XI ?XJ
           case XJ=>exact jl
           case XH =>
            exact(pcy (vK K rfl) T.BV (af (pv 2) aj ak))
           case XI =>
            refine' af ?x44 ?y44 ?z44
            case z44=>exact dR
            case x44 =>
             exact(fF rfl (show aX ["_law_cell", "_law_number_here", "_law_rows", "_law_some_here", "_law_at", "_law_more"] (av dU) ["_law_k"] 1 [] _ from CK) (rO rfl T.xh (af ay aj ai)) (fun _ _ _ _=>(pG 0 Fe)) (fun _ _ _ _=>eV) (fun _ _ _ _=>(br (af aA aj ai))))
            case y44 =>
             refine' af ?x45 ?y45 ?z45
             case z45=>exact ai
             case x45 =>
              exact cX
             case y45 =>
              refine' af ?x46 ?y46 ?z46
              case z46=>exact ai
              case x46 =>
               exact jF
              case y46 =>
               refine' af ?XO ?XQ ?XR
               case XR=>exact ai
               case XO =>
                exact jF
               case XQ =>
                refine' af ?XS ?XT ?XU
                case XU=>exact ak
                case XS =>
                 exact(pv 1)
                case XT =>
                 refine' af ?x49 ?y49 ?z49
                 case z49=>exact ai
                 case x49 =>
                  exact aA
                 case y49 =>
                  refine' af ?XW ?XX ?XY
                  case XY=>exact Kn
                  case XW =>
                   exact HU
                  case XX =>
                   refine' af ?XZ ?X0 ?X3
                   case X3=>exact cg
                   case XZ =>
                    refine' aJ ?a52
                    case a52 =>
                     exact aj
                   case X0 =>
                    exact aj
        case r40 =>
         refine' ao ?s53 ?r53
         case s53 =>
          exact(jj (nC K rfl PySem.F.plainAttrs_list PySem.F.slot_list_append PySem.F.type_list_append jD (pv 5) (af (br (af (br (af (aK zB aA ay) aj cL)) (af (br (af (aK zB aA ay) aj cL)) aj fJ) fJ)) aj fJ)))
         case r53 =>
          refine' aq ?s54
          case s54 =>
           exact(aC (CL K (pv 5) (aK dB (aK eS (pv 1) ay) ay)))
  refine⟨_,rfl,c,71,rfl,by decide,by decide,fun n=>?_⟩
  dsimp only[d8]
  have m0:=CV (a:=n) (b:=3) (by decide)
  have m1:=CY (a:=n) (b:=3) (by decide)
  refine⟨_,rfl,_,_,rfl,rfl,(by omega),_,rfl,by omega,by omega,fun D hD=>?_⟩
  refine vI (fun i ys τ J=>(∃ v,τ=[v])∧aG H J∧J D=some (.lst ys)∧ys.length=i∧∀ y∈ys,nN (fun b=>H b=none∧b≠D) J y [Str.ofString "a",Str.ofString "b"]) ⟨⟨_,rfl⟩,au hD,ah,rfl,(fun _ z=>nomatch z)⟩ (fun i ys τ J _ p=>p.2.2.1) ?_ ?_
  ·rintro i ys τ J hi ⟨⟨v,rfl⟩,sJ,RQ,hyl,hys⟩
   have hi:i < 3:=by omega
   refine rV ?_
   refine⟨(by decide),fun b hb=>?_⟩
   (have t1:=au (o:=HO.lst [V.str ("a":Str),V.str ("b":Str)]) hb;have u1:=ah (H:=J) (a:=b) (o:=HO.lst [V.str ("a":Str),V.str ("b":Str)]);generalize upd J b (HO.lst [V.str ("a":Str),V.str ("b":Str)])=J1 at t1 u1 ⊢)
   have YH:=t1 _ _ RQ
   have hb0:H b=none:=sJ.free hb
   have nb:b≠D:=fun q=>by rw[q,RQ] at hb;cases hb
   refine⟨YH,?_,⟨_,rfl⟩,aZ hD (sJ.trans t1),ah,?_,fun y hy=>?_⟩
   ·rw[hyl];exact Nat.lt_of_le_of_lt (show i≤3 by omega) (by decide)
   ·rw[List.length_append,hyl];rfl
   ·rcases List.mem_append.mp hy with q | q
    ·exact nN.set (fun _ z=>z.2) (nN.mono t1 (fun _ z=>z) (hys y q))
    ·rw[List.mem_singleton.mp q];exact nN.set (fun _ z=>z.2) ⟨b,rfl,⟨hb0,nb⟩,u1⟩
  rintro es τ H0 ⟨⟨v,rfl⟩,s0,hl,hel,hes⟩
  have aaX:es.length≤3:=by omega
  dsimp only[d8]
  refine⟨(by decide),fun r1 h1=>⟨(by decide),fun r2 h2=>⟨(by decide),fun r3 h3=>⟨(by decide),fun r4 h4=>⟨(by decide),fun r5 h5=>⟨(by decide),fun r6 h6=>⟨(by show(1:Nat)≤sizeLine;decide),fun r7 h7=>⟨(by decide),fun r8 h8=>⟨(by decide),fun r9 h9=>⟨_,_,_,rfl,rfl,ah,(by omega),(by omega),(by decide),fun FJ Jo=>⟨_,_,rfl,rfl,(by omega),(by omega),(by decide),(by decide),(by decide),fun NV h11=>⟨(by show(12:Nat)≤sizeLine;decide),fun YI h12=>⟨_,rfl,_,_,rfl,rfl,⟨(by omega),(by omega)⟩,_,rfl,?_⟩⟩⟩⟩⟩⟩⟩⟩⟩⟩⟩⟩⟩
  (have s1:=au (o:=HO.tup [V.str ("a":Str),V.str ("b":Str)]) h1;have q1:=ah (H:=H0) (a:=r1) (o:=HO.tup [V.str ("a":Str),V.str ("b":Str)]);generalize upd H0 r1 (HO.tup [V.str ("a":Str),V.str ("b":Str)])=H1 at s1 q1 h2 h3 h4 h5 h6 h7 h8 h9 Jo h11 h12 ⊢;have s2:=au (o:=HO.lst []) h2;have q2:=ah (H:=H1) (a:=r2) (o:=HO.lst []);generalize upd H1 r2 (HO.lst [])=H2 at s2 q2 h3 h4 h5 h6 h7 h8 h9 Jo h11 h12 ⊢;have s3:=au (o:=HO.lst [V.str ("a":Str),V.non]) h3;have q3:=ah (H:=H2) (a:=r3) (o:=HO.lst [V.str ("a":Str),V.non]);generalize upd H2 r3 (HO.lst [V.str ("a":Str),V.non])=H3 at s3 q3 h4 h5 h6 h7 h8 h9 Jo h11 h12 ⊢;have s4:=au (o:=HO.lst [V.int 7]) h4;have q4:=ah (H:=H3) (a:=r4) (o:=HO.lst [V.int 7]);generalize upd H3 r4 (HO.lst [V.int 7])=H4 at s4 q4 h5 h6 h7 h8 h9 Jo h11 h12 ⊢;have s5:=au (o:=HO.lst [V.str (Str.ofString "a\tb")]) h5;have q5:=ah (H:=H4) (a:=r5) (o:=HO.lst [V.str (Str.ofString "a\tb")]);generalize upd H4 r5 (HO.lst [V.str (Str.ofString "a\tb")])=H5 at s5 q5 h6 h7 h8 h9 Jo h11 h12 ⊢;have s6:=au (o:=HO.lst [V.str ("a":Str)]) h6;have q6:=ah (H:=H5) (a:=r6) (o:=HO.lst [V.str ("a":Str)]);generalize upd H5 r6 (HO.lst [V.str ("a":Str)])=H6 at s6 q6 h7 h8 h9 Jo h11 h12 ⊢;have s7:=au (o:=HO.lst [V.ref r6]) h7;have q7:=ah (H:=H6) (a:=r7) (o:=HO.lst [V.ref r6]);generalize upd H6 r7 (HO.lst [V.ref r6])=H7 at s7 q7 h8 h9 Jo h11 h12 ⊢;have s8:=au (o:=HO.lst [V.bl true]) h8;have q8:=ah (H:=H7) (a:=r8) (o:=HO.lst [V.bl true]);generalize upd H7 r8 (HO.lst [V.bl true])=H8 at s8 q8 h9 Jo h11 h12 ⊢;have s9:=au (o:=HO.lst [V.str ("a":Str)]) h9;have q9:=ah (H:=H8) (a:=r9) (o:=HO.lst [V.str ("a":Str)]);generalize upd H8 r9 (HO.lst [V.str ("a":Str)])=H9 at s9 q9 Jo h11 h12 ⊢;have GS:=au (o:=HO.lst (List.replicate (Int.toNat 21) [V.str ("a":Str)]).flatten) Jo;have V3:=ah (H:=H9) (a:=FJ) (o:=HO.lst (List.replicate (Int.toNat 21) [V.str ("a":Str)]).flatten);generalize upd H9 FJ (HO.lst (List.replicate (Int.toNat 21) [V.str ("a":Str)]).flatten)=Qy at GS V3 h11 h12 ⊢;have YJ:=au (o:=HO.lst [V.str (p6 ("a":Str) (Int.toNat 401))]) h11;have q11:=ah (H:=Qy) (a:=NV) (o:=HO.lst [V.str (p6 ("a":Str) (Int.toNat 401))]);generalize upd Qy NV (HO.lst [V.str (p6 ("a":Str) (Int.toNat 401))])=H11 at YJ q11 h12 ⊢;have s12:=au (o:=HO.lst [V.ref r1,V.str ("ab":Str),V.ref r2,V.ref r3,V.ref r4,V.ref r5,V.ref r7,V.ref r8,V.ref FJ,V.ref NV,V.non,V.int 5]) h12;have q12:=ah (H:=H11) (a:=YI) (o:=HO.lst [V.ref r1,V.str ("ab":Str),V.ref r2,V.ref r3,V.ref r4,V.ref r5,V.ref r7,V.ref r8,V.ref FJ,V.ref NV,V.non,V.int 5]);generalize upd H11 YI (HO.lst [V.ref r1,V.str ("ab":Str),V.ref r2,V.ref r3,V.ref r4,V.ref r5,V.ref r7,V.ref r8,V.ref FJ,V.ref NV,V.non,V.int 5])=PM at s12 q12 ⊢)
  have b1:=s0.trans s1
  have b2:=b1.trans s2
  have b3:=b2.trans s3
  have b4:=b3.trans s4
  have b5:=b4.trans s5
  have b6:=b5.trans s6
  have b7:=b6.trans s7
  have b8:=b7.trans s8
  have b9:=b8.trans s9
  have Wh:=b9.trans GS
  have JE:=Wh.trans YJ
  have Wi:=JE.trans s12
  have Mh:=s12
  have e10:=YJ.trans Mh
  have e9:=GS.trans e10
  have e8:=s9.trans e9
  have e7:=s8.trans e8
  have e6:=s7.trans e7
  have e5:=s6.trans e6
  have e4:=s5.trans e5
  have e3:=s4.trans e4
  have e2:=s3.trans e3
  have e1:=s2.trans e2
  have e0:=s1.trans e1
  have N1:H r1=none:=s0.free h1
  have N2:H r2=none:=b1.free h2
  have N3:H r3=none:=b2.free h3
  have N4:H r4=none:=b3.free h4
  have N5:H r5=none:=b4.free h5
  have N6:H r6=none:=b5.free h6
  have N7:H r7=none:=b6.free h7
  have N8:H r8=none:=b7.free h8
  have N9:H r9=none:=b8.free h9
  have N10:H FJ=none:=b9.free Jo
  have N11:H NV=none:=Wh.free h11
  have N12:H YI=none:=JE.free h12
  have K5:=e0 _ _ hl
  have NW:∀{n:Nat}{G:Hp}{z:Str},z.length≤10000→Rp (fun b=>H b=none) n G (.str z) (.leaf (.str z)):=fun h=>yZ rfl fun z e=>by cases e;exact h
  have RS:∀ y∈es,∃ u,Rp (fun b=>H b=none) 2 PM y u:=fun y hy=>by
   obtain⟨b,RT,⟨LK,_⟩,Wj⟩:=hes y hy
   exact⟨_,C1 (n:=1) (r:=[Str.ofString "a",Str.ofString "b"]) ⟨by decide,Me⟩ ⟨b,RT,LK,e0 _ _ Wj⟩⟩
  refine⟨D,_,rfl,.inl (bE.of K5),_,_,rfl,rfl,_,_,rfl,rfl,(by omega),?_⟩
  refine⟨_,rfl,_,_,rfl,rfl,⟨(by omega),(by omega)⟩,_,_,rfl,rfl,(by omega),_,_,rfl,rfl,_,rfl,?_⟩
  refine QO (fun c1=>?_) (fun c1=>?_)
  ·obtain⟨x,ex,hx⟩:=zE (xs:=[V.ref r1,.str ("ab":Str),.ref r2,.ref r3,.ref r4,.ref r5,.ref r7,.ref r8,.ref FJ,.ref NV,.non,.int 5]) (i:=n / 9 % 12) (CV (by decide)) (CY (by decide))
   have rok:∃ u,Rp (fun b=>H b=none) 2 PM x u∧kM u=false:=by
    simp only[List.mem_cons,List.not_mem_nil,or_false] at hx
    rcases hx with rfl | rfl | rfl | rfl | rfl | rfl | rfl | rfl | rfl | rfl | rfl | rfl
    ·exact⟨_,Rp.leaf (.tup (e1 _ _ q1) fun x hx=>by simp only[List.mem_cons,List.not_mem_nil,or_false] at hx;rcases hx with rfl | rfl <;> exact .inl rfl),rfl⟩
    ·exact⟨_,NW (by decide),rfl⟩
    ·exact⟨_,Rp.lst (e2 _ _ q2) N2 (by decide) .nil,rfl⟩
    ·exact⟨_,Rp.lst (e3 _ _ q3) N3 (by decide) (.cons (NW (by decide)) (.cons (yZ rfl (fun z e=>by cases e)) .nil)),by decide +kernel⟩
    ·exact⟨_,Rp.lst (e4 _ _ q4) N4 (by decide) (.cons (yZ rfl (fun z e=>by cases e)) .nil),rfl⟩
    ·exact⟨_,Rp.lst (e5 _ _ q5) N5 (by decide) (.cons (NW (by decide)) .nil),by decide +kernel⟩
    ·exact⟨_,Rp.lst (e7 _ _ q7) N7 (by show(1:Nat)≤1000;decide) (.cons (Rp.lst (e6 _ _ q6) N6 (by decide) (.cons (NW (by decide)) .nil)) .nil),rfl⟩
    ·exact⟨_,Rp.lst (e8 _ _ q8) N8 (by decide) (.cons (yZ rfl (fun z e=>by cases e)) .nil),rfl⟩
    ·exact⟨_,Rp.lst (e10 _ _ V3) N10 (by decide) (C0 (r:=List.replicate 21 ("a":Str)) (by decide +kernel)),by decide +kernel⟩
    ·exact⟨_,Rp.lst (Mh _ _ q11) N11 (by decide) (.cons (NW (by decide +kernel)) .nil),by decide +kernel⟩
    ·exact⟨_,yZ rfl (fun z e=>by cases e),rfl⟩
    ·exact⟨_,yZ rfl (fun z e=>by cases e),rfl⟩
   obtain⟨u,hu,hub⟩:=rok
   have l1:=Ew (xs:=es) (lo:=none) (hi:=some (n / 108 % ((es.length:Int)+1)))
   have l2:=Ew (xs:=es) (lo:=some (n / 108 % ((es.length:Int)+1))) (hi:=none)
   refine⟨_,rfl,_,rfl,_,rfl,_,_,rfl,bE.of K5,fun y1 k1=>⟨_,rfl,_,rfl,_,_,rfl,rfl,⟨(by omega),(by omega)⟩,_,_,rfl,rfl,(by omega),_,_,_,_,rfl,rfl,bE.of (au k1 _ _ q12),ex,(by show(1:Nat)≤sizeLine;decide),fun y2 k2=>⟨_,_,_,_,rfl,rfl,(au k2 _ _ ah),ah,?_,fun y3 k3=>⟨_,rfl,_,rfl,_,rfl,_,_,rfl,bE.of (au k3 _ _ (au k2 _ _ (au k1 _ _ K5))),fun y4 k4=>⟨_,_,_,_,rfl,rfl,(au k4 _ _ ah),ah,?_,fun y5 k5=>?_⟩⟩⟩⟩⟩
   ·exact Nat.le_trans (m:=200) (by simp only[List.length_append,List.length_cons,List.length_nil];omega) (by decide)
   ·exact Nat.le_trans (m:=200) (by simp only[List.length_append,List.length_cons,List.length_nil];omega) (by decide)
   (have z1:=au (o:=HO.lst (iB es none (some (n / 108 % (↑es.length+1))))) k1;have w1:=ah (H:=PM) (a:=y1) (o:=HO.lst (iB es none (some (n / 108 % (↑es.length+1)))));generalize upd PM y1 (HO.lst (iB es none (some (n / 108 % (↑es.length+1)))))=G1 at z1 w1 k2 k3 k4 k5 ⊢;have z2:=au (o:=HO.lst [x]) k2;have w2:=ah (H:=G1) (a:=y2) (o:=HO.lst [x]);generalize upd G1 y2 (HO.lst [x])=G2 at z2 w2 k3 k4 k5 ⊢;have z3:=au (o:=HO.lst (iB es none (some (n / 108 % (↑es.length+1)))++[x])) k3;have w3:=ah (H:=G2) (a:=y3) (o:=HO.lst (iB es none (some (n / 108 % (↑es.length+1)))++[x]));generalize upd G2 y3 (HO.lst (iB es none (some (n / 108 % (↑es.length+1)))++[x]))=G3 at z3 w3 k4 k5 ⊢;have z4:=au (o:=HO.lst (iB es (some (n / 108 % (↑es.length+1))) none)) k4;have w4:=ah (H:=G3) (a:=y4) (o:=HO.lst (iB es (some (n / 108 % (↑es.length+1))) none));generalize upd G3 y4 (HO.lst (iB es (some (n / 108 % (↑es.length+1))) none))=G4 at z4 w4 k5 ⊢;have z5:=au (o:=HO.lst (iB es none (some (n / 108 % (↑es.length+1)))++[x]++iB es (some (n / 108 % (↑es.length+1))) none)) k5;have w5:=ah (H:=G4) (a:=y5) (o:=HO.lst (iB es none (some (n / 108 % (↑es.length+1)))++[x]++iB es (some (n / 108 % (↑es.length+1))) none));generalize upd G4 y5 (HO.lst (iB es none (some (n / 108 % (↑es.length+1)))++[x]++iB es (some (n / 108 % (↑es.length+1))) none))=G5 at z5 w5 ⊢)
   have bz:=Wi.trans (z1.trans (z2.trans (z3.trans z4)))
   have zz:=z1.trans (z2.trans (z3.trans (z4.trans z5)))
   obtain⟨ts,pq,hq⟩:=Fw (as:=iB es none (some (n / 108 % ((es.length:Int)+1)))) (bs:=iB es (some (n / 108 % ((es.length:Int)+1))) none) (N:=fun b=>H b=none) (n:=2) (H:=G5) (fun y hy=>let ⟨u,h⟩:=RS y (Eu hy);⟨u,h.mono zz fun _ z=>z⟩) (fun y hy=>let ⟨u,h⟩:=RS y (Eu hy);⟨u,h.mono zz fun _ z=>z⟩) (hu.mono zz fun _ z=>z) hub
   exact k _ _ G5 (bz.trans z5) (Rp.lst w5 (bz.free k5) (by simp only[List.length_append,List.length_cons,List.length_nil];omega) pq) hq
  refine⟨_,rfl,D,_,rfl,.inl ⟨bE.of K5,fun p1 hp1=>?_⟩⟩
  (have t1:=au (o:=HO.tup es) hp1;have u1:=ah (H:=PM) (a:=p1) (o:=HO.tup es);generalize upd PM p1 (HO.tup es)=I1 at t1 u1 ⊢)
  have c12:=Wi.trans t1
  refine⟨61,rfl,by decide,by decide,fun E hE=>?_⟩
  refine vI (fun i ys τ J=>(∃ v,τ=[v])∧aG I1 J∧J E=some (.lst ys)∧ys.length=i∧∀ y∈ys,nN (fun b=>H b=none∧b≠E) J y [Str.ofString "a"]) ⟨⟨_,rfl⟩,au hE,ah,rfl,(fun _ z=>nomatch z)⟩ (fun i ys τ J _ p=>p.2.2.1) ?_ ?_
  ·rintro i ys τ J hi ⟨⟨v,rfl⟩,sJ,RQ,hyl,hys⟩
   have hi:i < 61:=by simpa using hi
   refine rV ?_
   refine⟨(by decide),fun b hb=>?_⟩
   (have t1':=au (o:=HO.lst [V.str ("a":Str)]) hb;have u1':=ah (H:=J) (a:=b) (o:=HO.lst [V.str ("a":Str)]);generalize upd J b (HO.lst [V.str ("a":Str)])=J1 at t1' u1' ⊢)
   have YH:=t1' _ _ RQ
   have hb0:H b=none:=(c12.trans sJ).free hb
   have nb:b≠E:=fun q=>by rw[q,RQ] at hb;cases hb
   refine⟨YH,?_,⟨_,rfl⟩,aZ hE (sJ.trans t1'),ah,?_,fun y hy=>?_⟩
   ·rw[hyl];exact Nat.lt_of_le_of_lt (show i≤61 by omega) (by decide)
   ·rw[List.length_append,hyl];rfl
   ·rcases List.mem_append.mp hy with q | q
    ·exact nN.set (fun _ z=>z.2) (nN.mono t1' (fun _ z=>z) (hys y q))
    ·rw[List.mem_singleton.mp q];exact nN.set (fun _ z=>z.2) ⟨b,rfl,⟨hb0,nb⟩,u1'⟩
  rintro fs τ I2 ⟨⟨v,rfl⟩,t2,u2,hfl,hfs⟩
  have hE0:H E=none:=c12.free hE
  have c2:=c12.trans t2
  refine⟨_,rfl,fun d hd=>⟨(by decide),fun q hq=>⟨(by show(9:Nat)≤sizeLine;decide),fun m hm=>⟨_,rfl,.inl ⟨rfl,⟨_,bE.of ah⟩⟩,_,_,rfl,rfl,(by omega),(by omega),(by decide),(by decide),(by decide),fun a1 ha1=>⟨_,_,rfl,rfl,(by omega),(by omega),(by decide),(by decide),(by decide),fun a2 ha2=>⟨(by show(2:Nat)≤sizeLine;decide),fun a3 GW=>⟨_,_,_,rfl,rfl,(au GW _ _ (au ha2 _ _ (au ha1 _ _ ah))),?_,_,rfl,_,rfl,_,_,rfl,rfl,⟨(by omega),(by omega)⟩,_,_,rfl,rfl,(by omega),?_⟩⟩⟩⟩⟩⟩⟩
  ·show(9:Nat) < sizeLine;decide
  (have t3:=au (o:=HO.dK []) hd;have u3:=ah (H:=I2) (a:=d) (o:=HO.dK []);generalize upd I2 d (HO.dK [])=I3 at t3 u3 hq hm ha1 ha2 GW ⊢;have t4:=au (o:=HO.tup []) hq;have u4:=ah (H:=I3) (a:=q) (o:=HO.tup []);generalize upd I3 q (HO.tup [])=I4 at t4 u4 hm ha1 ha2 GW ⊢;have t5:=au (o:=HO.lst [V.ref p1,V.ref E,V.non,V.bl true,V.bl false,V.int n,V.str ("a":Str),V.ref d,V.ref q]) hm;have u5:=ah (H:=I4) (a:=m) (o:=HO.lst [V.ref p1,V.ref E,V.non,V.bl true,V.bl false,V.int n,V.str ("a":Str),V.ref d,V.ref q]);generalize upd I4 m (HO.lst [V.ref p1,V.ref E,V.non,V.bl true,V.bl false,V.int n,V.str ("a":Str),V.ref d,V.ref q])=I5 at t5 u5 ha1 ha2 GW ⊢;have t6:=au (o:=HO.lst [V.str (p6 ("a":Str) (Int.toNat 201))]) ha1;have u6:=ah (H:=I5) (a:=a1) (o:=HO.lst [V.str (p6 ("a":Str) (Int.toNat 201))]);generalize upd I5 a1 (HO.lst [V.str (p6 ("a":Str) (Int.toNat 201))])=I6 at t6 u6 ha2 GW ⊢;have t7:=au (o:=HO.lst [V.str (p6 ("b":Str) (Int.toNat 200))]) ha2;have u7:=ah (H:=I6) (a:=a2) (o:=HO.lst [V.str (p6 ("b":Str) (Int.toNat 200))]);generalize upd I6 a2 (HO.lst [V.str (p6 ("b":Str) (Int.toNat 200))])=I7 at t7 u7 GW ⊢;have t8:=au (o:=HO.lst [V.ref a1,V.ref a2]) GW;have u8:=ah (H:=I7) (a:=a3) (o:=HO.lst [V.ref a1,V.ref a2]);generalize upd I7 a3 (HO.lst [V.ref a1,V.ref a2])=I8 at t8 u8 ⊢)
  have nE:E≠m:=fun z=>by rw[←z,t4 _ _ (t3 _ _ u2)] at hm;cases hm
  have np:p1≠m:=fun z=>by rw[←z,t4 _ _ (t3 _ _ (t2 _ _ u1))] at hm;cases hm
  have nd:d≠m:=fun z=>by rw[←z,t4 _ _ u3] at hm;cases hm
  have nq:q≠m:=fun z=>by rw[←z,u4] at hm;cases hm
  have n1:a1≠m:=fun z=>by rw[z,u5] at ha1;cases ha1
  have n2:a2≠m:=fun z=>by rw[z,t6 _ _ u5] at ha2;cases ha2
  have n3:a3≠m:=fun z=>by rw[z,t7 _ _ (t6 _ _ u5)] at GW;cases GW
  have c4:=(c2.trans t3).trans t4
  have hm0:H m=none:=c4.free hm
  have c5:=c4.trans t5
  have A1:H a1=none:=c5.free ha1
  have A2:H a2=none:=(c5.trans t6).free ha2
  have A3:H a3=none:=((c5.trans t6).trans t7).free GW
  have c8:=((c5.trans t6).trans t7).trans t8
  have YK:=t5.trans (t6.trans (t7.trans t8))
  have YN:=t3.trans (t4.trans YK)
  have g9:∀{a:Addr}{o o':HO},a≠m→I8 a=some o→(upd I8 m o') a=some o:=fun h1 h2=>(aB h1).trans h2
  have YO:∀ o,aG H (upd I8 m o):=fun o=>aZ hm0 c8
  obtain⟨v,ev,hv⟩:=zE (xs:=[V.ref p1,V.ref E,V.non,V.bl true,V.bl false,V.int n,V.str ("a":Str),V.ref d,V.ref q]++[V.ref a3]) (i:=n / 9 % 10) (CV (by decide)) (CY (by decide))
  refine⟨m,_,_,v,rfl,rfl,bE.of ah,ev,?_⟩
  have w1:=fun o'=>g9 (o':=o') np (YN _ _ (t2 _ _ u1))
  have w2:=fun o'=>g9 (o':=o') nE (YN _ _ u2)
  have w3:=fun o'=>g9 (o':=o') nd ((t4.trans YK) _ _ u3)
  have w4:=fun o'=>g9 (o':=o') nq (YK _ _ u4)
  have w5:=fun o'=>g9 (o':=o') n1 ((t7.trans t8) _ _ u6)
  have w6:=fun o'=>g9 (o':=o') n2 (t8 _ _ u7)
  have w7:=fun o'=>g9 (o':=o') n3 u8
  have rw9:∀ o,∀ y∈fs,∃ u,Rp (fun b=>H b=none) 2 (upd I8 m o) y u:=fun o y hy=>by
   obtain⟨b,RT,⟨LK,_⟩,Wj⟩:=hfs y hy
   have nb:b≠m:=fun z=>by rw[←z,t4 _ _ (t3 _ _ Wj)] at hm;cases hm
   exact⟨_,C1 (n:=1) (r:=[Str.ofString "a"]) ⟨by decide,fun c hc=>Me c (by rw[List.mem_singleton.mp hc];simp)⟩ ⟨b,RT,LK,g9 nb (YN _ _ Wj)⟩⟩
  have lf:∀ o,Lf (upd I8 m o) v→Q v (upd I8 m o):=fun o h=>k v (.leaf v) _ (YO o) (Rp.leaf h) (by cases h <;> rfl)
  rw[List.mem_append,List.mem_singleton] at hv
  simp only[List.mem_cons,List.not_mem_nil,or_false] at hv
  rcases hv with (rfl | rfl | rfl | rfl | rfl | rfl | rfl | rfl | rfl) | rfl
  ·refine lf _ (.tup (w1 _) fun x hx=>?_)
   obtain⟨b,RT,_⟩:=hes x hx
   exact .inr ⟨b,RT⟩
  ·obtain⟨ts,pq⟩:=vn (rw9 _)
   refine k _ _ _ (YO _) (Rp.lst (w2 _) hE0 (by omega) pq) ?_
   have:=pq.length
   show(decide (ts.length≤60) && _ && _)=false
   rw[decide_eq_false (by omega)];rfl
  ·exact lf _ (.flat rfl fun z e=>by cases e)
  ·exact lf _ (.flat rfl fun z e=>by cases e)
  ·exact lf _ (.flat rfl fun z e=>by cases e)
  ·exact lf _ (.flat rfl fun z e=>by cases e)
  ·exact lf _ (.flat rfl fun z e=>by cases e;decide)
  ·exact lf _ (.KD (w3 _))
  ·exact lf _ (.tup (w4 _) fun _ z=>nomatch z)
  ·refine k _ _ _ (YO _) (Rp.lst (w7 _) A3 (by show(2:Nat)≤1000;decide) (.cons (Rp.lst (w5 _) A1 (by decide) (.cons (NW (by decide +kernel)) .nil)) (.cons (Rp.lst (w6 _) A2 (by decide) (.cons (NW (by decide +kernel)) .nil)) .nil))) (by decide +kernel)
def bU (K:W.Frag) (d:Nat):Sp:=fun vs H Q _=>∃(N:Addr→Prop) (v:V) (t:Tr),vs=[v]∧Rp N d H v t∧∀ w H',aG H H'→Rp (fun a=>H a=none) d H' w t→Q w H'
theorem rD:aI P w K mg base bN 1 (az 46) (aL 46) ["_law_thing"] (bU K 0):=by
 have bR:aI P w K mg base bN 0 (az 46) (aL 46) ["_law_thing"] (fun _ _ _ _=>False):=⟨fun _ _ _ _ h=>h.elim,fun _ _ _ _ _ _ _ _ _ _ _ _ _ h=>h.elim⟩
 refine T.bQ.ok gZ (fun vs H Q E h=>?_) (fun cdv A outer s H vs Q E hr h=>?_)
 ·obtain⟨N,v,t,rfl,_⟩:=h;rfl
 ·have hu:=aV hr
  have iD:=hr.aN
  obtain⟨N,v,t,rfl,⟨rfl,hv⟩,k⟩:=h
  refine⟨_,(ao (aR (bZ (nH (cy K rfl) T.aW (af (pv 0) (af (Iv "list" T.oS) aj ak) ak))) (aq (aC (fF rfl (show aX ["_law_thing"] (av bP) ["_law_one"] 1 [] _ from CK) (cC K rfl (pv 0)) (fun _ _ _ _=>(pG 0 Fe)) (fun _ _ _ _=>eV) (fun _ _ _ _=>(kc bR hr T.f7 T.bQ.kp T.fZ (af (pv 0) aj ak)))))) aE)
   (aq (aC (pv 0)))),?_⟩
  rcases Rp.gY K (N:=N) (n:=0) ⟨rfl,hv⟩ with ⟨_,_,_,_,e,_⟩ | ⟨ty,hty,ht,_,_⟩
  ·cases e
  exact⟨_,rfl,_,_,_,false,rfl,hty,.inl ⟨_,rfl,ht⟩,false,rfl,gK ⟨_,rfl,k _ _ (aG.refl _) (Rp.leaf hv)⟩⟩
theorem rE:aI P w K mg base bN 2 (az 46) (aL 46) ["_law_thing"] (bU K 1):=by
 have bR:aI P w K mg base bN 1 (az 46) (aL 46) ["_law_thing"] (bU K 0):=rD T
 refine T.bQ.ok gZ (fun vs H Q E h=>?_) (fun cdv A outer s H vs Q E hr h=>?_)
 ·obtain⟨N,v,t,rfl,_⟩:=h;rfl
 ·have hu:=aV hr
  have iD:=hr.aN
  obtain⟨N,v,t,rfl,hv,k⟩:=h
  refine⟨_,(ao (aR (bZ (nH (cy K rfl) T.aW (af (pv 0) (af (Iv "list" T.oS) aj ak) ak))) (aq (aC (fF rfl (show aX ["_law_thing"] (av bP) ["_law_one"] 1 [] _ from CK) (cC K rfl (pv 0)) (fun _ _ _ _=>(pG 0 Fe)) (fun _ _ _ _=>eV) (fun _ _ _ _=>(kc bR hr T.f7 T.bQ.kp T.fZ (af (pv 0) aj ak)))))) aE)
   (aq (aC (pv 0)))),?_⟩
  rcases hv.gY K with ⟨m,a,xs,ts,em,rfl,rfl,ha,hN,EB,ps⟩ | ⟨ty,hty,ht,rfl,hw⟩
  rotate_left
  ·exact⟨_,rfl,_,_,_,false,rfl,hty,.inl ⟨_,rfl,ht⟩,false,rfl,gK ⟨_,rfl,k _ _ (aG.refl _) (Rp.leaf hw)⟩⟩
  cases em
  have hlx:=ps.length
  refine⟨_,rfl,_,_,_,true,rfl,.lst ha,.inl ⟨_,rfl,rfl⟩,true,rfl,nA ?_⟩
  refine⟨_,rfl,a,rfl,⟨_,bE.of ha⟩,fun D hD=>?_⟩
  refine gF (K:=K) (a:=a) (xs:=xs) (fun i ys τ H2=>(∃ v,τ=[v])∧aG H H2∧H2 D=some (.lst ys)∧Paired (Rp (fun b=>H b=none∧b≠D) (1 - 1) H2) ys (ts.take i)) ⟨⟨_,rfl⟩,au hD,ah,.nil⟩ (fun i ys τ H2 _ p=>⟨bE.of (p.2.1 _ _ ha),p.2.2.1⟩) ?_ ?_
  ·rintro i e ys τ H2 hi ⟨⟨v,rfl⟩,s2,hl,hy⟩
   have hil:i < xs.length:=(List.getElem?_eq_some_iff.mp hi).1
   have hyl:=hy.length
   rw[List.length_take] at hyl
   obtain⟨r,hr,hb⟩:=aU ps i e hi
   refine rV ?_
   refine⟨_,rfl,N,e,r,rfl,hb.mono s2 (fun _ z=>z),fun w H3 s3 hw=>⟨s3 _ _ hl,?_,⟨_,rfl⟩,aZ hD (s2.trans s3),ah,?_⟩⟩
   ·exact Nat.lt_of_le_of_lt (show _≤1000 by omega) (by decide)
   ·rw[bf hr]
    refine fu (Paired.imp' (fun _ _ q=>?_) hy) ?_
    ·exact Rp.set (s3 _ _ hl) (fun _ z=>z.2) (q.mono s3 fun _ z=>z)
    ·exact Rp.set (s3 _ _ hl) (fun _ z=>z.2) (hw.mono (aG.refl _) fun b z=>⟨none_of s2 z,fun z2=>by subst z2;rw[hl] at z;cases z⟩)
  ·rintro ys τ H2 ⟨⟨v,rfl⟩,s2,hl,hy⟩
   rw[hlx,List.take_of_length_le (Nat.le_refl _)] at hy
   exact k _ _ s2 (Rp.lst hl hD (by rw[hy.length,←hlx];exact EB) (Paired.imp' (fun _ _ q=>q.mono (aG.refl _) fun _ z=>z.1) hy))
theorem rF:aI P w K mg base bN 3 (az 46) (aL 46) ["_law_thing"] (bU K 2):=by
 have bR:aI P w K mg base bN 2 (az 46) (aL 46) ["_law_thing"] (bU K 1):=rE T
 refine T.bQ.ok gZ (fun vs H Q E h=>?_) (fun cdv A outer s H vs Q E hr h=>?_)
 ·obtain⟨N,v,t,rfl,_⟩:=h;rfl
 ·have hu:=aV hr
  have iD:=hr.aN
  obtain⟨N,v,t,rfl,hv,k⟩:=h
  refine⟨_,(ao (aR (bZ (nH (cy K rfl) T.aW (af (pv 0) (af (Iv "list" T.oS) aj ak) ak))) (aq (aC (fF rfl (show aX ["_law_thing"] (av bP) ["_law_one"] 1 [] _ from CK) (cC K rfl (pv 0)) (fun _ _ _ _=>(pG 0 Fe)) (fun _ _ _ _=>eV) (fun _ _ _ _=>(kc bR hr T.f7 T.bQ.kp T.fZ (af (pv 0) aj ak)))))) aE)
   (aq (aC (pv 0)))),?_⟩
  rcases hv.gY K with ⟨m,a,xs,ts,em,rfl,rfl,ha,hN,EB,ps⟩ | ⟨ty,hty,ht,rfl,hw⟩
  rotate_left
  ·exact⟨_,rfl,_,_,_,false,rfl,hty,.inl ⟨_,rfl,ht⟩,false,rfl,gK ⟨_,rfl,k _ _ (aG.refl _) (Rp.leaf hw)⟩⟩
  cases em
  have hlx:=ps.length
  refine⟨_,rfl,_,_,_,true,rfl,.lst ha,.inl ⟨_,rfl,rfl⟩,true,rfl,nA ?_⟩
  refine⟨_,rfl,a,rfl,⟨_,bE.of ha⟩,fun D hD=>?_⟩
  refine gF (K:=K) (a:=a) (xs:=xs) (fun i ys τ H2=>(∃ v,τ=[v])∧aG H H2∧H2 D=some (.lst ys)∧Paired (Rp (fun b=>H b=none∧b≠D) (2 - 1) H2) ys (ts.take i)) ⟨⟨_,rfl⟩,au hD,ah,.nil⟩ (fun i ys τ H2 _ p=>⟨bE.of (p.2.1 _ _ ha),p.2.2.1⟩) ?_ ?_
  ·rintro i e ys τ H2 hi ⟨⟨v,rfl⟩,s2,hl,hy⟩
   have hil:i < xs.length:=(List.getElem?_eq_some_iff.mp hi).1
   have hyl:=hy.length
   rw[List.length_take] at hyl
   obtain⟨r,hr,hb⟩:=aU ps i e hi
   refine rV ?_
   refine⟨_,rfl,N,e,r,rfl,hb.mono s2 (fun _ z=>z),fun w H3 s3 hw=>⟨s3 _ _ hl,?_,⟨_,rfl⟩,aZ hD (s2.trans s3),ah,?_⟩⟩
   ·exact Nat.lt_of_le_of_lt (show _≤1000 by omega) (by decide)
   ·rw[bf hr]
    refine fu (Paired.imp' (fun _ _ q=>?_) hy) ?_
    ·exact Rp.set (s3 _ _ hl) (fun _ z=>z.2) (q.mono s3 fun _ z=>z)
    ·exact Rp.set (s3 _ _ hl) (fun _ z=>z.2) (hw.mono (aG.refl _) fun b z=>⟨none_of s2 z,fun z2=>by subst z2;rw[hl] at z;cases z⟩)
  ·rintro ys τ H2 ⟨⟨v,rfl⟩,s2,hl,hy⟩
   rw[hlx,List.take_of_length_le (Nat.le_refl _)] at hy
   exact k _ _ s2 (Rp.lst hl hD (by rw[hy.length,←hlx];exact EB) (Paired.imp' (fun _ _ q=>q.mono (aG.refl _) fun _ z=>z.1) hy))
theorem xC:aI P w K mg base bN 4 (az 46) (aL 46) ["_law_thing"] (bU K 3):=by
 have bR:aI P w K mg base bN 3 (az 46) (aL 46) ["_law_thing"] (bU K 2):=rF T
 refine T.bQ.ok gZ (fun vs H Q E h=>?_) (fun cdv A outer s H vs Q E hr h=>?_)
 ·obtain⟨N,v,t,rfl,_⟩:=h;rfl
 ·have hu:=aV hr
  have iD:=hr.aN
  obtain⟨N,v,t,rfl,hv,k⟩:=h
  refine⟨_,(ao (aR (bZ (nH (cy K rfl) T.aW (af (pv 0) (af (Iv "list" T.oS) aj ak) ak))) (aq (aC (fF rfl (show aX ["_law_thing"] (av bP) ["_law_one"] 1 [] _ from CK) (cC K rfl (pv 0)) (fun _ _ _ _=>(pG 0 Fe)) (fun _ _ _ _=>eV) (fun _ _ _ _=>(kc bR hr T.f7 T.bQ.kp T.fZ (af (pv 0) aj ak)))))) aE)
   (aq (aC (pv 0)))),?_⟩
  rcases hv.gY K with ⟨m,a,xs,ts,em,rfl,rfl,ha,hN,EB,ps⟩ | ⟨ty,hty,ht,rfl,hw⟩
  rotate_left
  ·exact⟨_,rfl,_,_,_,false,rfl,hty,.inl ⟨_,rfl,ht⟩,false,rfl,gK ⟨_,rfl,k _ _ (aG.refl _) (Rp.leaf hw)⟩⟩
  cases em
  have hlx:=ps.length
  refine⟨_,rfl,_,_,_,true,rfl,.lst ha,.inl ⟨_,rfl,rfl⟩,true,rfl,nA ?_⟩
  refine⟨_,rfl,a,rfl,⟨_,bE.of ha⟩,fun D hD=>?_⟩
  refine gF (K:=K) (a:=a) (xs:=xs) (fun i ys τ H2=>(∃ v,τ=[v])∧aG H H2∧H2 D=some (.lst ys)∧Paired (Rp (fun b=>H b=none∧b≠D) (3 - 1) H2) ys (ts.take i)) ⟨⟨_,rfl⟩,au hD,ah,.nil⟩ (fun i ys τ H2 _ p=>⟨bE.of (p.2.1 _ _ ha),p.2.2.1⟩) ?_ ?_
  ·rintro i e ys τ H2 hi ⟨⟨v,rfl⟩,s2,hl,hy⟩
   have hil:i < xs.length:=(List.getElem?_eq_some_iff.mp hi).1
   have hyl:=hy.length
   rw[List.length_take] at hyl
   obtain⟨r,hr,hb⟩:=aU ps i e hi
   refine rV ?_
   refine⟨_,rfl,N,e,r,rfl,hb.mono s2 (fun _ z=>z),fun w H3 s3 hw=>⟨s3 _ _ hl,?_,⟨_,rfl⟩,aZ hD (s2.trans s3),ah,?_⟩⟩
   ·exact Nat.lt_of_le_of_lt (show _≤1000 by omega) (by decide)
   ·rw[bf hr]
    refine fu (Paired.imp' (fun _ _ q=>?_) hy) ?_
    ·exact Rp.set (s3 _ _ hl) (fun _ z=>z.2) (q.mono s3 fun _ z=>z)
    ·exact Rp.set (s3 _ _ hl) (fun _ z=>z.2) (hw.mono (aG.refl _) fun b z=>⟨none_of s2 z,fun z2=>by subst z2;rw[hl] at z;cases z⟩)
  ·rintro ys τ H2 ⟨⟨v,rfl⟩,s2,hl,hy⟩
   rw[hlx,List.take_of_length_le (Nat.le_refl _)] at hy
   exact k _ _ s2 (Rp.lst hl hD (by rw[hy.length,←hlx];exact EB) (Paired.imp' (fun _ _ q=>q.mono (aG.refl _) fun _ z=>z.1) hy))
def mY (K:W.Frag):Sp:=fun vs H Q _=>∃(N:Addr→Prop) (x:Addr) (v:V) (u:Tr) (n:Int),vs=[.ref x,v,.int n]∧Rp N 3 H v u∧uc u=false∧∀ H',aG H H'→Q (.bl true) H'
theorem uI:aI P w K mg base bN 13 (az 47) (aL 47) ["_law_made_here", "_law_thing", "_law_way"] (mY K):=by
 have bR:aI P w K mg base bN 4 (az 46) (aL 46) ["_law_thing"] (bU K 3):=xC T
 have qp:aI P w K mg base (xK P w) 12 (az 37) (aL 37) ["dialect", "table"] (oF P w K (az 49) (az 50) (az 51) (az 52) (az 57)):=tR T
 have iV:aI P w K mg base (xK P w) 7 (az 19) (aL 19) ["table"] (jq K (az 57)):=mw T
 refine T.oi.ok i0 (fun vs H Q E h=>?_) (fun cdv A outer s H vs Q E hr h=>?_)
 ·obtain⟨N,x,v,u,n,rfl,_⟩:=h;rfl
 ·have hu:=aV hr
  have iD:=hr.aN
  obtain⟨N,x,v,u,n,rfl,hv,hT,k⟩:=h
  have qo:=hr.units
  refine⟨_,(ao (lg 3 i0.nd (kc bR hr T.f7 T.bQ.kp T.fZ (af (pv 1) aj ak)) (hs:=fG))
   (ao (Ke rfl rfl (vS (M6 (jd cI (pv 2) ay) (vS (Bu (Bt (k:=7) iV (hr.mono (by decide)) rfl T.nV T.ko.kp T.nU .nil (af (pv 1) aj ak)))) (vS (Bu (Bt (k:=12) qp (hr.mono (by decide)) rfl T.wY T.qi.kp T.wX .nil (af (pv 0) (af (pv 1) aj ak) ak)))))) (QX (i:=4) rfl rfl T.oj T.bh (.inl rfl) i0.nd rfl rfl (fun ea=>(ao (aR (PW.pt (nk (bZ (nH (Fd rfl) T.aW (af (pv 4) (af (aJ (af (f9 rfl T.Jh) (af (f9 rfl T.BR) (af (f9 rfl T.Jg) (af (f9 rfl T.BS) aj ak) ak) ak) ak)) aj cg) ak))) (lM (jd (lO.orR D4 (lO.orR (MT K rfl qo) (Ko iD))) (pv 1) (pv 3))))) (aq (aC jF)) aE)
   (aq (aC (zq (nH (By rfl) T.aW (af (pv 4) (af (f9 rfl T.zg) aj ak) ak)) (zp (nH (By rfl) T.aW (af (pv 4) (af (Iv "ValueError" T.xV) aj ak) ak)))))))) M8) aE)
   (aq (aC jF)))),?_⟩
  refine⟨_,rfl,N,v,u,rfl,hv,fun w H1 s1 hw=>?_⟩
  dsimp only[d8]
  have hv1:=hv.mono s1 fun _ z=>z
  refine⟨_,rfl,rfl,_,rfl,W8 (fun _=>?_) (fun _=>?_)⟩
  ·refine⟨_,rfl,.inr ⟨N,3,v,u,rfl,hv1,hT,fun H2 s2 ea Bx=>?_⟩⟩
   refine⟨(az 57),(az 58),_,_,rfl,T.fO,yR (by simp) ?_⟩
   have he:(upd H2 ea (GU ea (.ref (az 57)) none)) ea=some (GU ea (.ref (az 57)) none):=ah
   have s3:=au (o:=GU ea (.ref (az 57)) none) Bx
   generalize upd H2 ea (GU ea (.ref (az 57)) none)=H3 at he s3 ⊢
   have xo:Kg H3 ea (az 57):=⟨none,.inr he,.inl rfl⟩
   refine⟨_,rfl,(by show 4≤sizeLine;decide),fun tp htp=>?_⟩
   have s4:=au (o:=HO.tup [.ref (az 61),.ref (az 59),.ref (az 55),.ref (az 63)]) htp
   have K4:=s2.trans (s3.trans s4)
   refine⟨ea,(az 57),(az 58),_,_,tp,[(az 61),(az 59),(az 55),(az 63)],rfl,xo.mono s4,T.fO,(.inr ⟨_,_,rfl,T.bh⟩),T.iF,ah,?_,_,rfl,gK ?_⟩
   ·intro D hD
    simp only[List.mem_cons,List.not_mem_nil,or_false] at hD
    rcases hD with rfl | rfl | rfl | rfl
    ·exact T.eZ
    ·exact T.cP
    ·exact T.eY
    ·exact T.cQ
   have RU:=xo.mono s4
   refine⟨_,rfl,_,rfl,Rp.ne (hv1.mono K4 fun _ z=>z) (hw.mono K4 fun _ z=>z) (by decide) ⟨_,rfl,gK ?_⟩⟩
   refine⟨_,rfl,ea,(az 57),_,_,_,_,true,rfl,RU,T.fO,(.inr ⟨_,_,rfl,T.bh⟩),T.iF,.inr ⟨_,rfl,T.dZ⟩,true,rfl,nA ?_⟩
   exact⟨_,rfl,ea,(az 57),_,_,_,_,true,rfl,RU,T.fO,(.inr ⟨_,_,rfl,T.bh⟩),T.iF,.inl ⟨_,rfl,T.mj⟩,k _ (s1.trans K4)⟩
  ·refine⟨_,rfl,_,rfl,.inr ⟨N,3,x,v,u,rfl,hv1,hT,fun H2 s2 ea Bx=>?_⟩⟩
   refine⟨(az 57),(az 58),_,_,rfl,T.fO,yR (by simp) ?_⟩
   have he:(upd H2 ea (GU ea (.ref (az 57)) none)) ea=some (GU ea (.ref (az 57)) none):=ah
   have s3:=au (o:=GU ea (.ref (az 57)) none) Bx
   generalize upd H2 ea (GU ea (.ref (az 57)) none)=H3 at he s3 ⊢
   have xo:Kg H3 ea (az 57):=⟨none,.inr he,.inl rfl⟩
   refine⟨_,rfl,(by show 4≤sizeLine;decide),fun tp htp=>?_⟩
   have s4:=au (o:=HO.tup [.ref (az 61),.ref (az 59),.ref (az 55),.ref (az 63)]) htp
   have K4:=s2.trans (s3.trans s4)
   refine⟨ea,(az 57),(az 58),_,_,tp,[(az 61),(az 59),(az 55),(az 63)],rfl,xo.mono s4,T.fO,(.inr ⟨_,_,rfl,T.bh⟩),T.iF,ah,?_,_,rfl,gK ?_⟩
   ·intro D hD
    simp only[List.mem_cons,List.not_mem_nil,or_false] at hD
    rcases hD with rfl | rfl | rfl | rfl
    ·exact T.eZ
    ·exact T.cP
    ·exact T.eY
    ·exact T.cQ
   have RU:=xo.mono s4
   refine⟨_,rfl,_,rfl,Rp.ne (hv1.mono K4 fun _ z=>z) (hw.mono K4 fun _ z=>z) (by decide) ⟨_,rfl,gK ?_⟩⟩
   refine⟨_,rfl,ea,(az 57),_,_,_,_,true,rfl,RU,T.fO,(.inr ⟨_,_,rfl,T.bh⟩),T.iF,.inr ⟨_,rfl,T.dZ⟩,true,rfl,nA ?_⟩
   exact⟨_,rfl,ea,(az 57),_,_,_,_,true,rfl,RU,T.fO,(.inr ⟨_,_,rfl,T.bh⟩),T.iF,.inl ⟨_,rfl,T.mj⟩,k _ (s1.trans K4)⟩
def Ah (K:W.Frag):Sp:=fun vs H Q _=>∃(a:Addr) (ns:List Int),vs=[.ref a]∧bE K H a (ns.map V.int)∧ns.length≤63∧∀ H',Q (.bl true) H'
theorem NX:aI P w K mg base bN 14 (az 48) (aL 48) ["_law_script"] (Ah K):=by
 have oJ:aI P w K mg base bN 1 (az 38) (aL 38) ["_law_script", "_law_k"] (mX K):=uH T
 have BZ:aI P w K mg base bN 5 (az 44) (aL 44) ["_law_told_here"] (rC (az 49)):=Ag T
 have xD:aI P w K mg base bN 13 (az 47) (aL 47) ["_law_made_here", "_law_thing", "_law_way"] (mY K):=uI T
 have B0:aI P w K mg base bN 3 (az 43) (aL 43) ["_law_cell"] rB:=Ae T
 have Ai:aI P w K mg base bN 3 (az 45) (aL 45) ["_law_cell"] (pS K):=yd T
 have qp:aI P w K mg base (xK P w) 12 (az 37) (aL 37) ["dialect", "table"] (oF P w K (az 49) (az 50) (az 51) (az 52) (az 57)):=tR T
 have iV:aI P w K mg base (xK P w) 7 (az 19) (aL 19) ["table"] (jq K (az 57)):=mw T
 refine T.Rj.ok wH (fun vs H Q E h=>?_) (fun cdv A outer s H vs Q E hr h=>?_)
 ·obtain⟨a,ns,rfl,_⟩:=h;rfl
 ·have hu:=aV hr
  have iD:=hr.aN
  obtain⟨a,ns,rfl,hS,hlen,k⟩:=h
  have qo:=hr.units
  refine'⟨_,?aa,?bb⟩
  case aa =>
   refine' ao ?s0 ?r0
   case s0 =>
    exact(lg 1 wH.nd (kc BZ hr T.BQ T.tO.kp T.BP (af (kc B0 hr T.BO T.tN.kp T.BN (af (kc oJ hr T.n6 T.jY.kp T.n5 (af (pv 0) (af ay aj ai) ak)) aj jl)) aj jl)) (hs:=fG))
   case r0 =>
    refine' ao ?s1 ?r1
    case s1 =>
     exact(kJ PassesOwn.never rfl (cC K rfl (aK CA (br (af (kc oJ hr T.n6 T.jY.kp T.n5 (af (pv 0) (af ay aj ai) ak)) aj jl)) (vF (vJ K rfl) (pv 0) (vd ay) (vd ay)))) (pG 2 wH.nd)
     (ao (lg 3 wH.nd (kc Ai hr T.zW T.qW.kp T.zV (af (pv 2) aj ak)) (hs:=fG))
     (ao (kJ PassesOwn.never rfl (cC K rfl (br (Q6 (.cons rfl (.cons rfl (.cons rfl (.cons rfl .nil))))))) (pG 4 wH.nd)
     (aq (aR (fP (bZ (kc xD hr T.xg T.oi.kp T.wZ (af (pv 1) (af (pv 3) (af (pv 4) aj ak) ak) ak)))) (aq (aC jF)) aE)))
     (aq (aR (PW.pt (nk (jd D4 (oO (k:=12) qp (hr.mono (by decide)) rfl T.wY T.qi.kp T.wX .nil LY (af (pv 1) (af (br aj) aj fJ) ak)) aA) (lM (jd (Eb K rfl iD) (oO (k:=7) iV (hr.mono (by decide)) rfl T.nV T.ko.kp T.nU .nil LY (af (br aj) aj fJ)) (br aj))))) (aq (aC jF)) aE)))))
    case r1 =>
     refine' aq ?s2
     case s2 =>
      exact(aC jF)
  refine⟨_,rfl,a,_,_,rfl,hS,by decide,fun c0=>⟨c0,rfl,fun t p q f b1 b2 b3 b4 H1 g ht h1 s1=>?_⟩⟩
  refine⟨t,p,q,f,b1,b2,b3,b4,rfl,h1,g,fun x dx H2 hx0 hx s2=>?_⟩
  have s12:=s1.trans s2
  dsimp only[d8]
  refine⟨_,rfl,a,_,_,rfl,s12.seq hS,by decide,fun c1=>⟨(by show(1:Nat)≤sizeLine;decide),fun l1 hl1=>?_⟩⟩
  (have s3:=au (o:=HO.lst [V.int c1]) hl1;have q3:=ah (H:=H2) (a:=l1) (o:=HO.lst [V.int c1]);generalize upd H2 l1 (HO.lst [V.int c1])=H3 at s3 q3 ⊢)
  refine⟨_,rfl,_,rfl,_,rfl,a,_,rfl,(s12.trans s3).seq hS,fun l2 hl2=>?_⟩
  obtain⟨ms,em,lm⟩:=Kp V.int ns (some 1) (some 11)
  rw[em] at *
  (have s4:=au (o:=HO.lst (List.map V.int ms)) hl2;have q4:=ah (H:=H3) (a:=l2) (o:=HO.lst (List.map V.int ms));generalize upd H3 l2 (HO.lst (List.map V.int ms))=H4 at s4 q4 ⊢)
  refine⟨l1,l2,_,_,rfl,rfl,s4 _ _ q3,q4,?_,fun l3 hl3=>?_⟩
  ·rw[List.length_map];exact Nat.le_trans (show 1+ms.length≤100 by omega) (by decide)
  (have s5:=au (o:=HO.lst ([V.int c1]++List.map V.int ms)) hl3;have q5:=ah (H:=H4) (a:=l3) (o:=HO.lst ([V.int c1]++List.map V.int ms));generalize upd H4 l3 (HO.lst ([V.int c1]++List.map V.int ms))=H5 at s5 q5 ⊢)
  have s15:=s12.trans (s3.trans (s4.trans s5))
  have Xo:=s5 _ _ (s4 _ _ (s3 _ _ hx))
  clear q3 q4
  refine⟨l3,rfl,⟨_,bE.of q5⟩,?_⟩
  refine kW (K:=K) (a:=l3) (xs:=[V.int c1]++ms.map V.int) (fun i σ J=>aG H5 J∧∃ v2 v3 v4,σ=[some (.ref a),some (.ref x),v2,v3,v4]) ⟨aG.refl _,_,_,_,rfl⟩ (fun i σ J _ q=>bE.of (q.1 _ _ q5)) ?_ ?_
  rotate_left
  ·rintro σ J ⟨sJ,v2,v3,v4,rfl⟩
   exact k J
  rintro i y σ J hi ⟨sJ,v2,v3,v4,rfl⟩
  obtain⟨c,rfl⟩:∃ c:Int,y=.int c:=by
   rcases List.mem_append.mp (List.mem_of_getElem? hi) with z | z
   ·rw[List.mem_singleton.mp z];exact⟨_,rfl⟩
   ·obtain⟨c,_,rfl⟩:=List.mem_map.mp z;exact⟨c,rfl⟩
  dsimp only[d8]
  refine⟨_,rfl,c,rfl,fun v u J1 s6 hv hT=>?_⟩
  dsimp only[d8]
  refine⟨(by decide),fun l4 hl4=>⟨_,rfl,⟨_,bE.of ah⟩,?_⟩⟩
  (have s7:=au (o:=HO.lst [V.int 0,V.int 1,V.int 0,V.int 1]) hl4;have q7:=ah (H:=J1) (a:=l4) (o:=HO.lst [V.int 0,V.int 1,V.int 0,V.int 1]);generalize upd J1 l4 (HO.lst [V.int 0,V.int 1,V.int 0,V.int 1])=J2 at s7 q7 ⊢)
  have sJ2:=sJ.trans (s6.trans s7)
  have hv2:=hv.mono s7 fun _ z=>z
  refine kW (K:=K) (a:=l4) (xs:=[V.int 0,V.int 1,V.int 0,V.int 1]) (fun i σ G=>aG J2 G∧∃ v4,σ=[some (.ref a),some (.ref x),some (.int c),some v,v4]) ⟨aG.refl _,_,rfl⟩ (fun i σ G _ q=>bE.of (q.1 _ _ q7)) ?_ ?_
  ·rintro j y σ G hj ⟨sG,w4,rfl⟩
   obtain⟨wy,rfl⟩:∃ wy:Int,y=.int wy:=by
    have:=List.mem_of_getElem? hj
    simp only[List.mem_cons,List.not_mem_nil,or_false] at this
    rcases this with rfl | rfl | rfl | rfl <;> exact⟨_,rfl⟩
   dsimp only[d8]
   refine⟨_,rfl,_,rfl,_,rfl,_,x,v,u,wy,rfl,hv2.mono sG (fun _ z=>z),hT,fun G1 s8=>?_⟩
   exact⟨_,rfl,gK ⟨sG.trans s8,_,rfl⟩⟩
  rintro σ G ⟨sG,w4,rfl⟩
  have sHG:=sJ2.trans sG
  have hxG:=sHG _ _ Xo
  have YQ:TabOk []:=⟨by decide,(fun _ z=>nomatch z),by decide⟩
  refine⟨_,rfl,(by decide),fun l5 hl5=>?_⟩
  (have s8:=au (o:=HO.lst []) hl5;have q8:=ah (H:=G) (a:=l5) (o:=HO.lst []);generalize upd G l5 (HO.lst [])=G2 at s8 q8 ⊢)
  refine .inl ⟨x,dx,l5,[],[],uL q (cF []),[],m0,p,q,f,b1,b2,b3,b4,rfl,s8 _ _ hxG,g,q8,.nil,YQ,uok g Ft (Np YQ),.nil,by decide +kernel,by decide,fun cs m HS _ _ LS sS=>?_⟩
  have hcl:cs.length≤0:=LS [] m0 .nil (by decide +kernel)
  cases cs with
  | cons c cs=>exact absurd hcl (by simp)
  | nil =>
  refine⟨rfl,_,rfl,W5 rfl ?_⟩
  refine⟨(by decide),fun l6 Yu=>?_⟩
  (have s9:=au (o:=HO.lst []) Yu;have q9:=ah (H:=HS) (a:=l6) (o:=HO.lst []);generalize upd HS l6 (HO.lst [])=G3 at s9 q9 ⊢)
  refine .inl ⟨l6,[],[],rfl,q9,.nil,YQ,fun l7 ys G4 EB hl7 pr7 GS=>?_⟩
  have e7:ys=[]:=by
   have:=pr7.length
   have e:(cF ([]:List (List Str))).length=0:=by decide
   rw[e] at this
   exact List.length_eq_zero_iff.mp this
  subst e7
  refine⟨(by decide),fun l8 hl8=>⟨l7,l8,[],rfl,rfl,bE.of (au hl8 _ _ hl7),bE.of ah,_,rfl,W4 rfl ?_⟩⟩
  exact⟨sHG.trans (s8.trans (sS.trans (s9.trans (GS.trans (au hl8))))),_,_,_,rfl⟩
end
end
theorem all_mk {l:W.OpenLaw}{w:World}{K:W.Frag}{h:Heap}{mg:Str→Option Value}{fa g8 d7 cG fB jr eH cR Aj cS cT bV cU ff oU rG ia mE gg iI kB ic oV dw gh iJ iK gi jt iW dM bW bJ fD dO rH oW oX mF ie ju iL kC jv kD kF jw iM ig Jp bu ja dP cV aT iw oK rJ bw oY iX kG dQ rK bH kH Dh Jq Ak:Addr}{od0 YR od1 an1 od2 YS od3 an3 od4 an4 od5 an5 od6 an6 od7 an7 od8 an8 od9 an9 YT RV YU RW YV RX YW RY YX RZ YY R0 YZ R1 Y0 R3 Y3 R4 Y4 R5 Y5 R6 Y6 R7 Y7 R8 Y8 R9 Y9 Sa Za Sb Zb Sd Zc Se Zd Sf Ze Sh Zf Si Zg Sj Zh Sk Zi Sl Zj K6 Zk Sm Zl Sn Zm So Zn Sq Zo Ss Zp Su Zq Sv Zr Sw Zs Sx Zt Sy Zu Sz Zv SA Zw SD Zx NY:Option Addr}{sl0 sl1 sl2 sl3 sl4 sl5 sl6 sl7 sl8 sl9 Zy Zz ZA ZC ZD ZE ZF ZG ZH ZI ZJ ZK ZL ZN ZO ZP ZQ ZR ZS ZT ZU ZV ZW ZX ZY ZZ Z0 Z1 Z2 Z3 Z4 Z5 Z6 Z7 Z8 Z9 aac aad aae:Array (Option Value)}{oc0 kV0 dc0 pm0 Wk ct0 oc1 kV1 dc1 pm1 cd1 ct1 oc2 kV2 dc2 pm2 Wl ct2 oc3 kV3 dc3 pm3 cd3 ct3 oc4 kV4 dc4 pm4 cd4 ct4 oc5 kV5 dc5 pm5 cd5 ct5 oc6 kV6 dc6 pm6 cd6 ct6 oc7 kV7 dc7 pm7 cd7 ct7 oc8 kV8 dc8 pm8 cd8 ct8 oc9 kV9 dc9 pm9 cd9 ct9 aaf SE SG SH NZ SI aag SJ SK SM Oa SN aah SO SQ SR Ob SS aai SV SW SX Oc SY aaj S0 S1 S2 Od S3 aak S4 S5 S6 Oe S7 aal S8 S9 Tc Og Td aam Te Tf Tg Oh Th aan Ti Tj To Oi Tp aao Tq Tt Tu Oj Tv aap Tw Tz TF Ol TL aaq TM TN TQ Om TR aar TU TV TX Oo TY aas TZ T3 T4 Oq T5 aat T6 T7 T8 Ot T9 aau Ua Ub Uc Ou Ud aav Ue Ug Uh Ov Ui aaw Uj Uk Ul Ow Um aax Uo Up Uq Ox Ur aay Us Ut Uu Oz Uv aaz Uw Ux Uy OA Uz aaA UA UB UC OB UD aaB UE UG UH OC UI aaC UJ UK UL OD UM aaD K7 K8 K9 Jr La aaE UN UO UP OE UQ aaF UR US UT OG UU aaG UW UX UY OH UZ aaH U0 U1 U3 OI U4 aaI U5 U6 U7 OJ U8 aaJ U9 Va Vb OL Vc aaK Vd Ve Vf OM Vg aaL Vh Vi Vj ON Vk aaM Vl Vm Vn OO Vo aaN Vp Vq Vr OP Vs aaO Vt Vu Vv OQ Vw aaP Vx Vy Vz OR VA aaQ VB VC VD OS VF aaR OT OU OV Lb OW:Value}{Di:Str}{bD gJ:Addr} (X:K.In h) (G:h.Ns mainGlobals mg) (hfa:mg "law" = some (.ref fa))
  (Dj:W.nsIn K mainGlobals "Dialect" = some (some (.ref bu)))
  (Lc:W.nsIn K mainGlobals "Turn" = some (some (.ref ja)))
  (FT:W.nsIn K mainGlobals "Marker" = some (some (.ref dP)))
  (FU:W.nsIn K mainGlobals "Writer" = some (some (.ref cV)))
  (jb:W.nsIn K mainGlobals "DialectError" = some (some (.ref aT)))
  (sQ:W.nsIn K mainGlobals "NoText" = some (some (.ref oK)))
  (qq:W.nsIn K mainGlobals "NoTable" = some (some (.ref bw)))
  (mG:W.nsIn K mainGlobals "NoDialect" = some (some (.ref iX)))
  (sR:W.nsIn K mainGlobals "Broken" = some (some (.ref dQ)))
  (mH:W.nsIn K mainGlobals "NoWriting" = some (some (.ref bH)))
  (a0:W.nsIn K mainGlobals "is_printable" = RF g8)
  (l0:K.lookup g8=FO "is_printable" "is_printable" dD .none oc0 od0 kV0 dc0 pm0 YR Wk ct0 sl0) (c0:W.codeIn K Wk "is_printable" = true) (k0:W.keepIn K (.ref g8)=true)
  (a1:W.nsIn K mainGlobals "are_unlike_signs" = RF d7)
  (l1:K.lookup d7=FO "are_unlike_signs" "are_unlike_signs" bL .none oc1 od1 kV1 dc1 pm1 an1 cd1 ct1 sl1) (c1:W.codeIn K cd1 "are_unlike_signs" = true) (k1:W.keepIn K (.ref d7)=true)
  (a2:W.findIn K (.ref bu) "__init__" = some (some (.ref cG))) (i2:W.isFn K (.ref cG)=true)
  (l2:K.lookup cG=FO "__init__" "Dialect.__init__" aY (.ref bD) oc2 od2 kV2 dc2 pm2 YS Wl ct2 sl2) (c2:W.codeIn K Wl "Dialect.__init__" = true) (k2:W.keepIn K (.ref cG)=true)
  {VG:Option Addr}{aaS:Nat}{VH:Array (Option Value)}{VI VJ:Tok} (d2:K.lookup bD=some ⟨.type "tuple",VG,.seq #[.str ("":Str) VI,.str ("":Str) VJ,.bool false,.bool false,.bool false,.bool false] aaS,VH⟩)
  (a3:W.findIn K (.ref bu) "told" = some (some (.ref fB))) (i3:W.isFn K (.ref fB)=true)
  (l3:K.lookup fB=FO "told" "Dialect.told" fh .none oc3 od3 kV3 dc3 pm3 an3 cd3 ct3 sl3) (c3:W.codeIn K cd3 "Dialect.told" = true) (k3:W.keepIn K (.ref fB)=true)
  (a4:W.nsIn K mainGlobals "dialect_of" = RF jr)
  (l4:K.lookup jr=FO "dialect_of" "dialect_of" gS .none oc4 od4 kV4 dc4 pm4 an4 cd4 ct4 sl4) (c4:W.codeIn K cd4 "dialect_of" = true) (k4:W.keepIn K (.ref jr)=true)
  (a5:W.findIn K (.ref ja) "__init__" = some (some (.ref eH))) (i5:W.isFn K (.ref eH)=true)
  (l5:K.lookup eH=FO "__init__" "Turn.__init__" d9 .none oc5 od5 kV5 dc5 pm5 an5 cd5 ct5 sl5) (c5:W.codeIn K cd5 "Turn.__init__" = true) (k5:W.keepIn K (.ref eH)=true)
  (a6:W.findIn K (.ref dP) "__init__" = some (some (.ref cR))) (i6:W.isFn K (.ref cR)=true)
  (l6:K.lookup cR=FO "__init__" "Marker.__init__" cM .none oc6 od6 kV6 dc6 pm6 an6 cd6 ct6 sl6) (c6:W.codeIn K cd6 "Marker.__init__" = true) (k6:W.keepIn K (.ref cR)=true)
  (a7:W.nsIn K mainGlobals "once" = RF Aj)
  (l7:K.lookup Aj=FO "once" "once" vW .none oc7 od7 kV7 dc7 pm7 an7 cd7 ct7 sl7) (c7:W.codeIn K cd7 "once" = true) (k7:W.keepIn K (.ref Aj)=true)
  (a8:W.findIn K (.ref bu) "special" = some (some (.ref cS))) (i8:W.isFn K (.ref cS)=true)
  (l8:K.lookup cS=FO "special" "Dialect.special" cN .none oc8 od8 kV8 dc8 pm8 an8 cd8 ct8 sl8) (c8:W.codeIn K cd8 "Dialect.special" = true) (k8:W.keepIn K (.ref cS)=true)
  (a9:W.findIn K (.ref cV) "__init__" = some (some (.ref cT))) (i9:W.isFn K (.ref cT)=true)
  (l9:K.lookup cT=FO "__init__" "Writer.__init__" cO .none oc9 od9 kV9 dc9 pm9 an9 cd9 ct9 sl9) (c9:W.codeIn K cd9 "Writer.__init__" = true) (k9:W.keepIn K (.ref cT)=true)
  (l10:K.lookup bV=FO "__init__" "NoWriting.__init__" bS .none aaf YT SE SG SH RV NZ SI Zy) (c10:W.codeIn K NZ "NoWriting.__init__" = true) (k10:W.keepIn K (.ref bV)=true)
  (l11:K.lookup cU=FO "__init__" "Broken.__init__" eX .none aag YU SJ SK SM RW Oa SN Zz) (NF:W.codeIn K Oa "Broken.__init__" = true) (k11:W.keepIn K (.ref cU)=true)
  (a12:W.nsIn K mainGlobals "has_signs_alone" = RF ff)
  (l12:K.lookup ff=FO "has_signs_alone" "has_signs_alone" bY .none aah YV SO SQ SR RX Ob SS ZA) (c12:W.codeIn K Ob "has_signs_alone" = true) (k12:W.keepIn K (.ref ff)=true)
  (Yv:W.nsIn K mainGlobals "is_cell" = RF oU)
  (l13:K.lookup oU=FO "is_cell" "is_cell" lu .none aai YW SV SW SX RY Oc SY ZC) (c13:W.codeIn K Oc "is_cell" = true) (k13:W.keepIn K (.ref oU)=true)
  (KN:W.nsIn K mainGlobals "is_row" = RF rG)
  (l14:K.lookup rG=FO "is_row" "is_row" ly .none aaj YX S0 S1 S2 RZ Od S3 ZD) (c14:W.codeIn K Od "is_row" = true) (k14:W.keepIn K (.ref rG)=true)
  (a15:W.nsIn K mainGlobals "signs_in_row" = RF ia)
  (l15:K.lookup ia=FO "signs_in_row" "signs_in_row" dF .none aak YY S4 S5 S6 R0 Oe S7 ZE) (c15:W.codeIn K Oe "signs_in_row" = true) (k15:W.keepIn K (.ref ia)=true)
  (a16:W.nsIn K mainGlobals "is_table" = RF mE)
  (l16:K.lookup mE=FO "is_table" "is_table" gu .none aal YZ S8 S9 Tc R1 Og Td ZF) (c16:W.codeIn K Og "is_table" = true) (k16:W.keepIn K (.ref mE)=true)
  (Yw:W.nsIn K mainGlobals "tokens_of_row" = RF gg)
  (l17:K.lookup gg=FO "tokens_of_row" "tokens_of_row" cJ .none aam Y0 Te Tf Tg R3 Oh Th ZG) (c17:W.codeIn K Oh "tokens_of_row" = true) (k17:W.keepIn K (.ref gg)=true)
  (a18:W.nsIn K mainGlobals "check_table" = RF iI)
  (l18:K.lookup iI=FO "check_table" "check_table" fS .none aan Y3 Ti Tj To R4 Oi Tp ZH) (KW:W.codeIn K Oi "check_table" = true) (k18:W.keepIn K (.ref iI)=true)
  (a19:W.nsIn K mainGlobals "tokens_of" = RF kB)
  (l19:K.lookup kB=FO "tokens_of" "tokens_of" iO .none aao Y4 Tq Tt Tu R5 Oj Tv ZI) (c19:W.codeIn K Oj "tokens_of" = true) (k19:W.keepIn K (.ref kB)=true)
  (Yx:W.nsIn K mainGlobals "count_behind" = RF ic)
  (l20:K.lookup ic=FO "count_behind" "count_behind" fj .none aap Y5 Tw Tz TF R6 Ol TL ZJ) (c20:W.codeIn K Ol "count_behind" = true) (k20:W.keepIn K (.ref ic)=true)
  (KZ:W.nsIn K mainGlobals "is_live" = RF oV)
  (l21:K.lookup oV=FO "is_live" "is_live" lz .none aaq Y6 TM TN TQ R7 Om TR ZK) (c21:W.codeIn K Om "is_live" = true) (k21:W.keepIn K (.ref oV)=true)
  (a22:W.nsIn K mainGlobals "step_at_beginning" = RF dw)
  (l22:K.lookup dw=FO "step_at_beginning" "step_at_beginning" cj .none aar Y7 TU TV TX R8 Oo TY ZL) (c22:W.codeIn K Oo "step_at_beginning" = true) (k22:W.keepIn K (.ref dw)=true)
  (Yy:W.nsIn K mainGlobals "step_in_plain" = RF gh)
  (l23:K.lookup gh=FO "step_in_plain" "step_in_plain" eg .none aas Y8 TZ T3 T4 R9 Oq T5 ZN) (c23:W.codeIn K Oq "step_in_plain" = true) (k23:W.keepIn K (.ref gh)=true)
  (NO:W.nsIn K mainGlobals "step_within" = RF iJ)
  (l24:K.lookup iJ=FO "step_within" "step_within" fT .none aat Y9 T6 T7 T8 Sa Ot T9 ZO) (c24:W.codeIn K Ot "step_within" = true) (k24:W.keepIn K (.ref iJ)=true)
  (Yz:W.nsIn K mainGlobals "step_behind" = RF iK)
  (l25:K.lookup iK=FO "step_behind" "step_behind" fV .none aau Za Ua Ub Uc Sb Ou Ud ZP) (c25:W.codeIn K Ou "step_behind" = true) (k25:W.keepIn K (.ref iK)=true)
  (X6:W.nsIn K mainGlobals "step_in_doubt" = RF gi)
  (l26:K.lookup gi=FO "step_in_doubt" "step_in_doubt" eo .none aav Zb Ue Ug Uh Sd Ov Ui ZQ) (c26:W.codeIn K Ov "step_in_doubt" = true) (k26:W.keepIn K (.ref gi)=true)
  (a27:W.nsIn K mainGlobals "step_freed" = RF jt)
  (l27:K.lookup jt=FO "step_freed" "step_freed" gT .none aaw Zc Uj Uk Ul Se Ow Um ZR) (c27:W.codeIn K Ow "step_freed" = true) (k27:W.keepIn K (.ref jt)=true)
  (YA:W.findIn K (.ref ja) "step" = some (some (.ref iW))) (i28:W.isFn K (.ref iW)=true)
  (l28:K.lookup iW=FO "step" "Turn.step" iP .none aax Zd Uo Up Uq Sf Ox Ur ZS) (Ru:W.codeIn K Ox "Turn.step" = true) (k28:W.keepIn K (.ref iW)=true)
  (RC:W.findIn K (.ref ja) "live_step" = some (some (.ref dM))) (i29:W.isFn K (.ref dM)=true)
  (l29:K.lookup dM=FO "live_step" "Turn.live_step" dG .none aay Ze Us Ut Uu Sh Oz Uv ZT) (c29:W.codeIn K Oz "Turn.live_step" = true) (k29:W.keepIn K (.ref dM)=true)
  (a30:W.findIn K (.ref dP) "mark_behind" = some (some (.ref bW))) (i30:W.isFn K (.ref bW)=true)
  (l30:K.lookup bW=FO "mark_behind" "Marker.mark_behind" bT .none aaz Zf Uw Ux Uy Si OA Uz ZU) (c30:W.codeIn K OA "Marker.mark_behind" = true) (k30:W.keepIn K (.ref bW)=true)
  (Rw:W.findIn K (.ref dP) "has_read_all" = some (some (.ref bJ))) (i31:W.isFn K (.ref bJ)=true)
  (l31:K.lookup bJ=FO "has_read_all" "Marker.has_read_all" bI .none aaA Zg UA UB UC Sj OB UD ZV) (c31:W.codeIn K OB "Marker.has_read_all" = true) (k31:W.keepIn K (.ref bJ)=true)
  (a32:W.findIn K (.ref cV) "leads" = some (some (.ref fD))) (i32:W.isFn K (.ref fD)=true)
  (l32:K.lookup fD=FO "leads" "Writer.leads" cE .none aaB Zh UE UG UH Sk OC UI ZW) (c32:W.codeIn K OC "Writer.leads" = true) (k32:W.keepIn K (.ref fD)=true)
  (a33:W.findIn K (.ref cV) "is_good" = some (some (.ref dO))) (i33:W.isFn K (.ref dO)=true)
  (l33:K.lookup dO=FO "is_good" "Writer.is_good" dH .none aaC Zi UJ UK UL Sl OD UM ZX) (c33:W.codeIn K OD "Writer.is_good" = true) (k33:W.keepIn K (.ref dO)=true)
  (Xx:W.nsIn K mainGlobals "search" = RF rH)
  (l34:K.lookup rH=FO "search" "search" fk (.ref gJ) aaD Zj K7 K8 K9 K6 Jr La ZY) (c34:W.codeIn K Jr "search" = true) (k34:W.keepIn K (.ref rH)=true)
  {OX:Option Addr}{VL:Nat}{OY:Array (Option Value)} (d34:K.lookup gJ=some ⟨.type "tuple",OX,.seq #[.none] VL,OY⟩)
  (a35:W.nsIn K mainGlobals "text_to" = RF oW)
  (l35:K.lookup oW=FO "text_to" "text_to" lA .none aaE Zk UN UO UP Sm OE UQ ZZ) (c35:W.codeIn K OE "text_to" = true) (k35:W.keepIn K (.ref oW)=true)
  (X4:W.nsIn K mainGlobals "cell_at" = RF oX)
  (l36:K.lookup oX=FO "cell_at" "cell_at" lB .none aaF Zl UR US UT Sn OG UU Z0) (c36:W.codeIn K OG "cell_at" = true) (k36:W.keepIn K (.ref oX)=true)
  (a37:W.nsIn K mainGlobals "shortest" = RF mF)
  (l37:K.lookup mF=FO "shortest" "shortest" jN .none aaG Zm UW UX UY So OH UZ Z1) (c37:W.codeIn K OH "shortest" = true) (k37:W.keepIn K (.ref mF)=true)
  (a38:W.nsIn K mainGlobals "_law_cell_at" = RF ie)
  (l38:K.lookup ie=FO "_law_cell_at" "_law_cell_at" fm .none aaH Zn U0 U1 U3 Sq OI U4 Z2) (RA:W.codeIn K OI "_law_cell_at" = true) (k38:W.keepIn K (.ref ie)=true)
  (X5:W.nsIn K mainGlobals "_law_mixed" = RF ju)
  (l39:K.lookup ju=FO "_law_mixed" "_law_mixed" gU .none aaI Zo U5 U6 U7 Ss OJ U8 Z3) (c39:W.codeIn K OJ "_law_mixed" = true) (k39:W.keepIn K (.ref ju)=true)
  (a40:W.nsIn K mainGlobals "_law_number" = RF iL)
  (l40:K.lookup iL=FO "_law_number" "_law_number" fW .none aaJ Zp U9 Va Vb Su OL Vc Z4) (c40:W.codeIn K OL "_law_number" = true) (k40:W.keepIn K (.ref iL)=true)
  (XG:W.nsIn K mainGlobals "_law_some" = RF kC)
  (l41:K.lookup kC=FO "_law_some" "_law_some" iQ .none aaK Zq Vd Ve Vf Sv OM Vg Z5) (c41:W.codeIn K OM "_law_some" = true) (k41:W.keepIn K (.ref kC)=true)
  (YG:W.nsIn K mainGlobals "_law_menus" = RF jv)
  (l42:K.lookup jv=FO "_law_menus" "_law_menus" gW .none aaL Zr Vh Vi Vj Sw ON Vk Z6) (c42:W.codeIn K ON "_law_menus" = true) (k42:W.keepIn K (.ref jv)=true)
  (a43:W.nsIn K mainGlobals "_law_told" = RF kD)
  (l43:K.lookup kD=FO "_law_told" "_law_told" iR .none aaM Zs Vl Vm Vn Sx OO Vo Z7) (c43:W.codeIn K OO "_law_told" = true) (k43:W.keepIn K (.ref kD)=true)
  (a44:W.nsIn K mainGlobals "_law_made" = RF kF)
  (l44:K.lookup kF=FO "_law_made" "_law_made" iS .none aaN Zt Vp Vq Vr Sy OP Vs Z8) (c44:W.codeIn K OP "_law_made" = true) (k44:W.keepIn K (.ref kF)=true)
  (a45:W.nsIn K mainGlobals "_law_wrong" = RF jw)
  (l45:K.lookup jw=FO "_law_wrong" "_law_wrong" dU .none aaO Zu Vt Vu Vv Sz OQ Vw Z9) (c45:W.codeIn K OQ "_law_wrong" = true) (k45:W.keepIn K (.ref jw)=true)
  (XM:W.nsIn K mainGlobals "_law_copied" = RF iM)
  (l46:K.lookup iM=FO "_law_copied" "_law_copied" bP .none aaP Zv Vx Vy Vz SA OR VA aac) (c46:W.codeIn K OR "_law_copied" = true) (k46:W.keepIn K (.ref iM)=true)
  (a47:W.nsIn K mainGlobals "_law_refused" = RF ig)
  (l47:K.lookup ig=FO "_law_refused" "_law_refused" fq .none aaQ Zw VB VC VD SD OS VF aad) (c47:W.codeIn K OS "_law_refused" = true) (k47:W.keepIn K (.ref ig)=true)
  (a48:W.nsIn K mainGlobals "law" = RF Jp)
  (l48:K.lookup Jp=FO "law" "law" tH .none aaR Zx OT OU OV NY Lb OW aae) (c48:W.codeIn K Lb "law" = true) (k48:W.keepIn K (.ref Jp)=true)
  (Dk:W.plainGet K bu Str.empty=true) (Dm:W.hasDictIn K bu=true) (Dn:W.plainOver K bu=true) (Dp:W.findIn K (.ref bu) "__setattr__" = some (some (.builtin "object.__setattr__"))) (Dq:W.makesIn K bu=true) (Dr:W.keepIn K (.ref bu)=true)
  (bG:W.findIn K (.ref bu) "parts" = some none)
  (bM:W.findIn K (.ref bu) "quotes" = some none)
  (bC:W.findIn K (.ref bu) "frees" = some none)
  (fz:W.findIn K (.ref bu) "twin" = some none)
  (dI:W.findIn K (.ref bu) "wide" = some none)
  (dJ:W.findIn K (.ref bu) "thin" = some none)
  (eB:W.findIn K (.ref bu) "stray" = some none)
  (Ld:W.plainGet K ja Str.empty=true) (Le:W.hasDictIn K ja=true) (Lg:W.plainOver K ja=true) (Lh:W.findIn K (.ref ja) "__setattr__" = some (some (.builtin "object.__setattr__"))) (Li:W.makesIn K ja=true) (Lj:W.keepIn K (.ref ja)=true)
  (bA:W.findIn K (.ref ja) "dialect" = some none)
  (FW:W.plainGet K dP Str.empty=true) (FY:W.hasDictIn K dP=true) (FZ:W.plainOver K dP=true) (Ga:W.findIn K (.ref dP) "__setattr__" = some (some (.builtin "object.__setattr__"))) (Gb:W.makesIn K dP=true) (Ge:W.keepIn K (.ref dP)=true)
  (iH:W.findIn K (.ref dP) "turn" = some none)
  (eF:W.findIn K (.ref dP) "tokens" = some none)
  (Gf:W.plainGet K cV Str.empty=true) (Gg:W.hasDictIn K cV=true) (Gh:W.plainOver K cV=true) (Gi:W.findIn K (.ref cV) "__setattr__" = some (some (.builtin "object.__setattr__"))) (Gj:W.makesIn K cV=true) (Gk:W.keepIn K (.ref cV)=true)
  (eG:W.findIn K (.ref cV) "marker" = some none)
  (gc:W.findIn K (.ref cV) "tokens" = some none)
  (g5:W.findIn K (.ref cV) "usual" = some none)
  {uJ uK:Str}{uM sU:List Value}{sV uN:Bool}{uO:List Str}{sW:Option Bool}{uP sX:Option Addr}{uQ uR uS uT uU:Option Value}{sY:Value}{lI:Array DictEntry}{uV:Nat}{sZ:Array (Option Value)}
  (gj:K.lookup aT=some (excClassObj uJ uK aT iw uM nF sV uO sU uN sW uP uQ uR uS uT uU "ValueError.__new__"))
  (gk:K.lookup iw=some ⟨sY,sX,.dict lI uV,sZ⟩) (kI:(lI.toList.all fun e=>match e.key with | .str _ _=>true | _=>false)=true) (gm:W.nsIn K iw "__init__" = some none)
  (uW:W.specialIn K (.ref aT) "__getattribute__" = some (some (.builtin "type.__getattribute__"))) (uX:W.readsIn K aT (.type "type")=true) (uY:W.findCls K (.ref aT) (.type "type") "__init__" = some (.val (.builtin "ValueError.__init__")))
  {Gm Gn:Str}{Gp Dt:List Value}{Du Gq:Bool}{Gr:List Str}{Dv:Option Bool}{Gs Dw:Option Addr}{Gu Gv Gw Gx Gy:Option Value}{Dy:Value}{xE:Array DictEntry}{Gz:Nat}{Dz:Array (Option Value)}
  (oZ:K.lookup oK=some (excClassObj Gm Gn oK rJ Gp (.ref aT :: nF) Du Gr Dt Gq Dv Gs Gu Gv Gw Gx Gy "ValueError.__new__"))
  (o4:K.lookup rJ=some ⟨Dy,Dw,.dict xE Gz,Dz⟩) (tS:(xE.toList.all fun e=>match e.key with | .str _ _=>true | _=>false)=true) (o5:W.nsIn K rJ "__init__" = some none)
  {DA DB:Str}{DC B3:List Value}{B4 DE:Bool}{DF:List Str}{B5:Option Bool}{DG B6:Option Addr}{DH DI DJ DK DL:Option Value}{B7:Value}{tT:Array DictEntry}{DM:Nat}{B8:Array (Option Value)}
  (dg:K.lookup bw=some (excClassObj DA DB bw oY DC (.ref aT :: nF) B4 DF B3 DE B5 DG DH DI DJ DK DL "ValueError.__new__"))
  (dh:K.lookup oY=some ⟨B7,B6,.dict tT DM,B8⟩) (cW:(tT.toList.all fun e=>match e.key with | .str _ _=>true | _=>false)=true) (di:W.nsIn K oY "__init__" = some none)
  {Al Am:Str}{An ye:List Value}{yf Ao:Bool}{Aq:List Str}{yg:Option Bool}{Ar yh:Option Addr}{As Au Av Aw Ax:Option Value}{yi:Value}{pT:Array DictEntry}{Ay:Nat}{yj:Array (Option Value)}
  (jx:K.lookup iX=some (excClassObj Al Am iX kG An (.ref aT :: nF) yf Aq ye Ao yg Ar As Au Av Aw Ax "ValueError.__new__"))
  (jy:K.lookup kG=some ⟨yi,yh,.dict pT Ay,yj⟩) (oM:(pT.toList.all fun e=>match e.key with | .str _ _=>true | _=>false)=true) (jz:W.nsIn K kG "__init__" = some none)
  {GA GB:Str}{GC DN:List Value}{DO GD:Bool}{GF:List Str}{DP:Option Bool}{GG DQ:Option Addr}{GH GI GJ GK GL:Option Value}{DR:Value}{xF:Array DictEntry}{GN:Nat}{DS:Array (Option Value)}
  (o6:K.lookup dQ=some (excClassObj GA GB dQ rK GC (.ref aT :: nF) DO GF DN GD DP GG GH GI GJ GK GL "ValueError.__new__"))
  (o7:K.lookup rK=some ⟨DR,DQ,.dict xF GN,DS⟩) (tU:(xF.toList.all fun e=>match e.key with | .str _ _=>true | _=>false)=true) (o8:W.nsIn K rK "__init__" = some (some (.ref cU)))
  {DT:Option Addr}{DU:Data}{DV:Array (Option Value)} (GO:W.keepIn K (.ref dQ)=true) (GP:K.lookup cU=some ⟨.type "function",DT,DU,DV⟩) (qs:W.findIn K (.ref dQ) "__setattr__" = some (some (.builtin "object.__setattr__"))) (qt:W.findIn K (.ref dQ) "__getattribute__" = some (some (.builtin "BaseException.__getattribute__"))) (qu:W.findIn K (.ref dQ) "__getattr__" = some none) (qv:W.hasDictIn K dQ=true)
  (yk:W.findIn K (.ref dQ) "row" = some none)
  (uZ:W.findIn K (.ref dQ) "place" = some none)
  (xG:W.findIn K (.ref dQ) "word" = some none)
  {Az AA:Str}{AB yl:List Value}{ym AD:Bool}{AE:List Str}{yo:Option Bool}{AF yp:Option Addr}{AG AH AI AJ AK:Option Value}{yq:Value}{pU:Array DictEntry}{AL:Nat}{yr:Array (Option Value)}
  (jA:K.lookup bH=some (excClassObj Az AA bH kH AB (.ref aT :: nF) ym AE yl AD yo AF AG AH AI AJ AK "ValueError.__new__"))
  (jB:K.lookup kH=some ⟨yq,yp,.dict pU AL,yr⟩) (oN:(pU.toList.all fun e=>match e.key with | .str _ _=>true | _=>false)=true) (jC:W.nsIn K kH "__init__" = some (some (.ref bV)))
  {yt:Option Addr}{yu:Data}{yw:Array (Option Value)} (AM:W.keepIn K (.ref bH)=true) (AO:K.lookup bV=some ⟨.type "function",yt,yu,yw⟩) (pV:W.findIn K (.ref bH) "__setattr__" = some (some (.builtin "object.__setattr__"))) (pW:W.findIn K (.ref bH) "__getattribute__" = some (some (.builtin "BaseException.__getattribute__"))) (pX:W.findIn K (.ref bH) "__getattr__" = some none) (pY:W.hasDictIn K bH=true)
  (tu:W.findIn K (.ref bH) "row" = some none)
  (rL:W.findIn K (.ref bH) "cell" = some none)
  (xkn:W.specialIn K (.builtin "object.__class__") "__get__" = some (some (.builtin "getset_descriptor.__get__"))) (xkt:W.takesIn K (.builtin "object.__class__")=some true)
  (B9:W.findIn K (.ref bw) "__getattribute__" = some (some (.builtin "BaseException.__getattribute__"))) (Ca:W.findIn K (.ref bw) "__getattr__" = some none) (Cb:W.hasDictIn K bw=true) (DW:W.keepIn K (.ref bw)=true)
  (Cd:W.findIn K (.ref bw) "__class__" = some (some (.builtin "object.__class__"))) (Ce:W.mroIn K bw (.type "object")=some true) (mj:W.mroIn K bw (.type "ValueError")=some true)
  (gI:W.mroIn K bw (.ref aT)=some true)
  (eY:W.mroIn K bw (.ref oK)=some false)
  (dZ:W.mroIn K bw (.ref bw)=some true)
  (cP:W.mroIn K bw (.ref iX)=some false)
  (eZ:W.mroIn K bw (.ref dQ)=some false)
  (cQ:W.mroIn K bw (.ref bH)=some false)
  (AQ:W.nsIn K mainGlobals "ValueError" = some none)
  (VM:W.nsIn K mainGlobals "all" = some none)
  (OZ:W.nsIn K mainGlobals "bool" = some none)
  (Cf:W.nsIn K mainGlobals "enumerate" = some none)
  (AR:W.nsIn K mainGlobals "isinstance" = some none)
  (VN:W.nsIn K mainGlobals "len" = some none)
  (O0:W.nsIn K mainGlobals "list" = some none)
  (z_ord:W.nsIn K mainGlobals "ord" = some none)
  (Lk:W.nsIn K mainGlobals "range" = some none)
  (DX:W.nsIn K mainGlobals "reversed" = some none)
  (VO:W.nsIn K mainGlobals "str" = some none)
  (VP:W.nsIn K mainGlobals "sum" = some none)
  (Ll:W.nsIn K mainGlobals "tuple" = some none)
  {Lm:Tok} (O1:W.nsIn K mainGlobals "LINE" = some (some (.str Di Lm))) (O2:Di=Str.ofString "\n")
  {AS:Tok} (Cg:W.nsIn K mainGlobals "MOST_ROWS" = some (some (.int 60 AS)))
  {yx:Tok} (AU:W.nsIn K mainGlobals "MOST_CELLS" = some (some (.int 20 yx)))
  {mJ:Tok} (ni:W.nsIn K mainGlobals "MOST_SIGNS_IN_CELLS" = some (some (.int 400 mJ)))
  (O3:W.nsIn K mainGlobals "PART" = some (some (.ref Dh)))
  {Ln:Option Addr}{O4:Nat}{Lo:Array (Option Value)}{Lp Lq:Tok} (O5:K.lookup Dh=some ⟨.type "tuple",Ln,.seq #[.str ("part":Str) Lp,.str ("":Str) Lq] O4,Lo⟩)
  (VQ:W.nsIn K mainGlobals "END" = some (some (.ref Jq)))
  {O6:Option Addr}{VR:Nat}{O7:Array (Option Value)}{O8 O9:Tok} (VS:K.lookup Jq=some ⟨.type "tuple",O6,.seq #[.str ("end":Str) O8,.str ("":Str) O9] VR,O7⟩)
  (Lr:W.nsIn K mainGlobals "START" = some (some (.ref Ak)))
  {Js:Option Addr}{Ls:Nat}{Jt:Array (Option Value)}{Ju Jv:Tok} (Lu:K.lookup Ak=some ⟨.type "tuple",Js,.seq #[.str ("row":Str) Ju,.str ("":Str) Jv] Ls,Jt⟩) :
  ∃ fd:FuncData,(∀(s:Shared) (v:Value),BindsTo s fd ⟨[v],[]⟩ [("_law_script",v)])∧∀ base:Heap,K.In base→base.Ns mainGlobals mg→aI l.prog w K mg base bN 14 fa fd ["_law_script"] (Ah K):=by
 have e:=hfa.symm.trans (W.mg_of X G a48)
 cases e
 have mo:∀{n:Str}{v:Value},W.nsIn K mainGlobals n=some (some v)→mg n=some v:=fun e=>W.mg_of X G e
 have mz:∀{n:Str},W.nsIn K mainGlobals n=some none→mg n=none:=fun e=>W.mg_none_of X G e
 have F0:=aP (st:=dD) l0 c0 k0
 have b0:=F0.lT (ps:=["sign"])
 have F1:=aP (st:=bL) l1 c1 k1
 have b1:=F1.rU (ps:=["thing", "least", "most"])
 have F2:=Ec (st:=aY) l2 c2 k2
 have b2:Binds K (W.fnOf "__init__" "Dialect.__init__" (cK aY) (bX aY) (av aY) (.ref bD) kV2 dc2 pm2 YS Wl ct2) ["self", "parts", "quotes", "frees", "twin", "wide", "thin", "stray"] []:=fun s us hK hl=>match us,hl with | [_,_,_,_,_,_,_,_],_=>BindsTo.of_defaults (T:=bD) rfl (hK _ _ d2) rfl rfl rfl
 have F3:=aP (st:=fh) l3 c3 k3
 have b3:=F3.lT (ps:=["self"])
 have F4:=aP (st:=gS) l4 c4 k4
 have b4:=F4.lT (ps:=["told"])
 have F5:=aP (st:=d9) l5 c5 k5
 have b5:=F5.rT (ps:=["self", "dialect"])
 have F6:=aP (st:=cM) l6 c6 k6
 have b6:=F6.rU (ps:=["self", "dialect", "tokens"])
 have F7:=aP (st:=vW) l7 c7 k7
 have b7:=F7.lT (ps:=["text"])
 have F8:=aP (st:=cN) l8 c8 k8
 have b8:=F8.lT (ps:=["self"])
 have F9:=aP (st:=cO) l9 c9 k9
 have b9:=F9.rU (ps:=["self", "dialect", "tokens"])
 have F10:=aP (st:=bS) l10 c10 k10
 have Wh:=F10.rU (ps:=["self", "row", "cell"])
 have F11:=aP (st:=eX) l11 NF k11
 have JE:=F11.Q7 (ps:=["self", "row", "place", "word"])
 have F12:=aP (st:=bY) l12 c12 k12
 have Wi:=F12.lT (ps:=["text"])
 have F13:=aP (st:=lu) l13 c13 k13
 have b13:=F13.lT (ps:=["thing"])
 have F14:=aP (st:=ly) l14 c14 k14
 have b14:=F14.lT (ps:=["thing"])
 have F15:=aP (st:=dF) l15 c15 k15
 have b15:=F15.lT (ps:=["row"])
 have F16:=aP (st:=gu) l16 c16 k16
 have b16:=F16.lT (ps:=["thing"])
 have F17:=aP (st:=cJ) l17 c17 k17
 have b17:=F17.lT (ps:=["row"])
 have F18:=aP (st:=fS) l18 KW k18
 have KY:=F18.lT (ps:=["thing"])
 have F19:=aP (st:=iO) l19 c19 k19
 have b19:=F19.lT (ps:=["table"])
 have F20:=aP (st:=fj) l20 c20 k20
 have b20:=F20.Q7 (ps:=["tokens", "count", "kind", "sign"])
 have F21:=aP (st:=lz) l21 c21 k21
 have b21:=F21.rT (ps:=["dialect", "state"])
 have F22:=aP (st:=cj) l22 c22 k22
 have b22:=F22.rU (ps:=["dialect", "state", "sign"])
 have F23:=aP (st:=eg) l23 c23 k23
 have b23:=F23.rT (ps:=["dialect", "sign"])
 have F24:=aP (st:=fT) l24 c24 k24
 have b24:=F24.rU (ps:=["dialect", "quote", "sign"])
 have F25:=aP (st:=fV) l25 c25 k25
 have b25:=F25.rT (ps:=["dialect", "sign"])
 have F26:=aP (st:=eo) l26 c26 k26
 have b26:=F26.rU (ps:=["dialect", "quote", "sign"])
 have F27:=aP (st:=gT) l27 c27 k27
 have b27:=F27.rU (ps:=["dialect", "quote", "sign"])
 have F28:=aP (st:=iP) l28 Ru k28
 have Rv:=F28.rU (ps:=["self", "state", "sign"])
 have F29:=aP (st:=dG) l29 c29 k29
 have b29:=F29.rU (ps:=["self", "state", "sign"])
 have F30:=aP (st:=bT) l30 c30 k30
 have b30:=F30.rU (ps:=["self", "mark", "sign"])
 have F31:=aP (st:=bI) l31 c31 k31
 have b31:=F31.rT (ps:=["self", "mark"])
 have F32:=aP (st:=cE) l32 c32 k32
 have b32:=F32.rT (ps:=["self", "place"])
 have F33:=aP (st:=dH) l33 c33 k33
 have b33:=F33.rT (ps:=["self", "place"])
 have F34:=Ec (st:=fk) l34 c34 k34
 have b34:Binds K (W.fnOf "search" "search" (cK fk) (bX fk) (av fk) (.ref gJ) K7 K8 K9 K6 Jr La) ["first", "searched", "most"] []:=fun s us hK hl=>match us,hl with | [_,_,_],_=>BindsTo.of_defaults (T:=gJ) rfl (hK _ _ d34) rfl rfl rfl
 have F35:=aP (st:=lA) l35 c35 k35
 have b35:=F35.rT (ps:=["came", "place"])
 have F36:=aP (st:=lB) l36 c36 k36
 have b36:=F36.rT (ps:=["tokens", "count"])
 have F37:=aP (st:=jN) l37 c37 k37
 have b37:=F37.rT (ps:=["dialect", "table"])
 have F38:=aP (st:=fm) l38 RA k38
 have RB:=F38.rT (ps:=["_law_script", "_law_k"])
 have F39:=aP (st:=gU) l39 c39 k39
 have b39:=F39.rT (ps:=["_law_number_here", "_law_salt"])
 have F40:=aP (st:=fW) l40 c40 k40
 have b40:=F40.rT (ps:=["_law_cell", "_law_salt"])
 have F41:=aP (st:=iQ) l41 c41 k41
 have b41:=F41.rU (ps:=["_law_number_here", "_law_many", "_law_menu"])
 have F42:=aP (st:=gW) l42 c42 k42
 have b42:=F42.lT (ps:=["_law_way"])
 have F43:=aP (st:=iR) l43 c43 k43
 have b43:=F43.lT (ps:=["_law_cell"])
 have F44:=aP (st:=iS) l44 c44 k44
 have b44:=F44.lT (ps:=["_law_told_here"])
 have F45:=aP (st:=dU) l45 c45 k45
 have b45:=F45.lT (ps:=["_law_cell"])
 have F46:=aP (st:=bP) l46 c46 k46
 have b46:=F46.lT (ps:=["_law_thing"])
 have F47:=aP (st:=fq) l47 c47 k47
 have b47:=F47.rU (ps:=["_law_made_here", "_law_thing", "_law_way"])
 have F48:=aP (st:=tH) l48 c48 k48
 have b48:=F48.lT (ps:=["_law_script"])
 have bf0:∃ ds,Vals [V.non] ds∧Binds K (W.fnOf "search" "search" (cK fk) (bX fk) (av fk) (.ref gJ) K7 K8 K9 K6 Jr La) ["first", "searched", "most"] ds:=⟨[.none],(.cons rfl .nil),fun s us hK hl=>by
  have hn:us.length=2:=by rw[List.length_append] at hl;simp only[List.length_cons,List.length_nil] at hl;omega
  exact match us,hn with | [_,_],_=>BindsTo.of_defaults (T:=gJ) rfl (hK _ _ d34) rfl rfl rfl⟩
 exact⟨W.fnOf "law" "law" (cK tH) (bX tH) (av tH) .none OT OU OV NY Lb OW,fun s v=>.of_eq rfl,fun base _ _=>NX (az:=fun i=>[g8,d7,cG,fB,jr,eH,cR,Aj,cS,cT,bV,cU,ff,oU,rG,ia,mE,gg,iI,kB,ic,oV,dw,gh,iJ,iK,gi,jt,iW,dM,bW,bJ,fD,dO,rH,oW,oX,mF,ie,ju,iL,kC,jv,kD,kF,jw,iM,ig,fa,bu,ja,dP,cV,aT,iw,oK,rJ,bw,oY,iX,kG,dQ,rK,bH,kH,Dh,Jq,Ak,bD,gJ].getD i fa) (aL:=fun i=>[FN "is_printable" "is_printable" dD .none kV0 dc0 pm0 YR Wk ct0,FN "are_unlike_signs" "are_unlike_signs" bL .none kV1 dc1 pm1 an1 cd1 ct1,FN "__init__" "Dialect.__init__" aY (.ref bD) kV2 dc2 pm2 YS Wl ct2,FN "told" "Dialect.told" fh .none kV3 dc3 pm3 an3 cd3 ct3,FN "dialect_of" "dialect_of" gS .none kV4 dc4 pm4 an4 cd4 ct4,FN "__init__" "Turn.__init__" d9 .none kV5 dc5 pm5 an5 cd5 ct5,FN "__init__" "Marker.__init__" cM .none kV6 dc6 pm6 an6 cd6 ct6,FN "once" "once" vW .none kV7 dc7 pm7 an7 cd7 ct7,FN "special" "Dialect.special" cN .none kV8 dc8 pm8 an8 cd8 ct8,FN "__init__" "Writer.__init__" cO .none kV9 dc9 pm9 an9 cd9 ct9,FN "__init__" "NoWriting.__init__" bS .none SE SG SH RV NZ SI,FN "__init__" "Broken.__init__" eX .none SJ SK SM RW Oa SN,FN "has_signs_alone" "has_signs_alone" bY .none SO SQ SR RX Ob SS,FN "is_cell" "is_cell" lu .none SV SW SX RY Oc SY,FN "is_row" "is_row" ly .none S0 S1 S2 RZ Od S3,FN "signs_in_row" "signs_in_row" dF .none S4 S5 S6 R0 Oe S7,FN "is_table" "is_table" gu .none S8 S9 Tc R1 Og Td,FN "tokens_of_row" "tokens_of_row" cJ .none Te Tf Tg R3 Oh Th,FN "check_table" "check_table" fS .none Ti Tj To R4 Oi Tp,FN "tokens_of" "tokens_of" iO .none Tq Tt Tu R5 Oj Tv,FN "count_behind" "count_behind" fj .none Tw Tz TF R6 Ol TL,FN "is_live" "is_live" lz .none TM TN TQ R7 Om TR,FN "step_at_beginning" "step_at_beginning" cj .none TU TV TX R8 Oo TY,FN "step_in_plain" "step_in_plain" eg .none TZ T3 T4 R9 Oq T5,FN "step_within" "step_within" fT .none T6 T7 T8 Sa Ot T9,FN "step_behind" "step_behind" fV .none Ua Ub Uc Sb Ou Ud,FN "step_in_doubt" "step_in_doubt" eo .none Ue Ug Uh Sd Ov Ui,FN "step_freed" "step_freed" gT .none Uj Uk Ul Se Ow Um,FN "step" "Turn.step" iP .none Uo Up Uq Sf Ox Ur,FN "live_step" "Turn.live_step" dG .none Us Ut Uu Sh Oz Uv,FN "mark_behind" "Marker.mark_behind" bT .none Uw Ux Uy Si OA Uz,FN "has_read_all" "Marker.has_read_all" bI .none UA UB UC Sj OB UD,FN "leads" "Writer.leads" cE .none UE UG UH Sk OC UI,FN "is_good" "Writer.is_good" dH .none UJ UK UL Sl OD UM,FN "search" "search" fk (.ref gJ) K7 K8 K9 K6 Jr La,FN "text_to" "text_to" lA .none UN UO UP Sm OE UQ,FN "cell_at" "cell_at" lB .none UR US UT Sn OG UU,FN "shortest" "shortest" jN .none UW UX UY So OH UZ,FN "_law_cell_at" "_law_cell_at" fm .none U0 U1 U3 Sq OI U4,FN "_law_mixed" "_law_mixed" gU .none U5 U6 U7 Ss OJ U8,FN "_law_number" "_law_number" fW .none U9 Va Vb Su OL Vc,FN "_law_some" "_law_some" iQ .none Vd Ve Vf Sv OM Vg,FN "_law_menus" "_law_menus" gW .none Vh Vi Vj Sw ON Vk,FN "_law_told" "_law_told" iR .none Vl Vm Vn Sx OO Vo,FN "_law_made" "_law_made" iS .none Vp Vq Vr Sy OP Vs,FN "_law_wrong" "_law_wrong" dU .none Vt Vu Vv Sz OQ Vw,FN "_law_copied" "_law_copied" bP .none Vx Vy Vz SA OR VA,FN "_law_refused" "_law_refused" fq .none VB VC VD SD OS VF,FN "law" "law" tH .none OT OU OV NY Lb OW].getD i (FN "is_printable" "is_printable" dD .none kV0 dc0 pm0 YR Wk ct0)) (wI:=fun i=>[Di].getD i "") ⟨F0,b0,mo a0,
  F1,b1,mo a1,
  F2,b2,
  F3,b3,⟨a3,i3,k3⟩,
  F4,b4,mo a4,
  F5,b5,
  F6,b6,
  F7,b7,mo a7,
  F8,b8,⟨a8,i8,k8⟩,
  F9,b9,
  F10,Wh,
  F11,JE,
  F12,Wi,mo a12,
  F13,b13,mo Yv,
  F14,b14,mo KN,
  F15,b15,mo a15,
  F16,b16,mo a16,
  F17,b17,mo Yw,
  F18,KY,mo a18,
  F19,b19,mo a19,
  F20,b20,mo Yx,
  F21,b21,mo KZ,
  F22,b22,mo a22,
  F23,b23,mo Yy,
  F24,b24,mo NO,
  F25,b25,mo Yz,
  F26,b26,mo X6,
  F27,b27,mo a27,
  F28,Rv,⟨YA,i28,k28⟩,
  F29,b29,⟨RC,i29,k29⟩,
  F30,b30,⟨a30,i30,k30⟩,
  F31,b31,⟨Rw,i31,k31⟩,
  F32,b32,⟨a32,i32,k32⟩,
  F33,b33,⟨a33,i33,k33⟩,
  F34,b34,mo Xx,
  F35,b35,mo a35,
  F36,b36,mo X4,
  F37,b37,mo a37,
  F38,RB,mo a38,
  F39,b39,mo X5,
  F40,b40,mo a40,
  F41,b41,mo XG,
  F42,b42,mo YG,
  F43,b43,mo a43,
  F44,b44,mo a44,
  F45,b45,mo a45,
  F46,b46,mo XM,
  F47,b47,mo a47,
  F48,b48,mo a48,
  ⟨Dk,Dm,Dn,Dp⟩,mo Dj,⟨Dq,a2,i2,Dr⟩,
  bG,
  bM,
  bC,
  fz,
  dI,
  dJ,
  eB,
  ⟨Ld,Le,Lg,Lh⟩,mo Lc,⟨Li,a5,i5,Lj⟩,
  bA,
  ⟨FW,FY,FZ,Ga⟩,mo FT,⟨Gb,a6,i6,Ge⟩,
  iH,
  eF,
  ⟨Gf,Gg,Gh,Gi⟩,mo FU,⟨Gj,a9,i9,Gk⟩,
  eG,
  gc,
  g5,
  bf0,
  mo jb,⟨⟨_,_,_,_,_,_,_,_,_,_,_,_,_,_,gj⟩,⟨_,_,_,_,_,gk,kI⟩,gm⟩,
  ⟨uW,uX,uY⟩,
  mo sQ,⟨⟨_,_,_,_,_,_,_,_,_,_,_,_,_,_,oZ⟩,⟨_,_,_,_,_,o4,tS⟩,o5⟩,
  mo qq,⟨⟨_,_,_,_,_,_,_,_,_,_,_,_,_,_,dg⟩,⟨_,_,_,_,_,dh,cW⟩,di⟩,
  mo mG,⟨⟨_,_,_,_,_,_,_,_,_,_,_,_,_,_,jx⟩,⟨_,_,_,_,_,jy,oM⟩,jz⟩,
  mo sR,⟨⟨_,_,_,_,_,_,_,_,_,_,_,_,_,_,o6⟩,⟨_,_,_,_,_,o7,tU⟩,o8⟩,
  GO,⟨_,GP,rfl⟩,
  ⟨yk,qs,qt,qu,qv⟩,
  ⟨uZ,qs,qt,qu,qv⟩,
  ⟨xG,qs,qt,qu,qv⟩,
  mo mH,⟨⟨_,_,_,_,_,_,_,_,_,_,_,_,_,_,jA⟩,⟨_,_,_,_,_,jB,oN⟩,jC⟩,
  AM,⟨_,AO,rfl⟩,
  ⟨tu,pV,pW,pX,pY⟩,
  ⟨rL,pV,pW,pX,pY⟩,
  ⟨B9,Ca,Cb,Cd,xkn,xkt,Ce⟩,
  DW,
  Q3 mj,
  yP (jM.mk ⟨_,_,_,_,_,_,_,_,_,_,_,_,_,_,dg⟩ ⟨_,_,_,_,_,dh,cW⟩ di) (jM.mk ⟨_,_,_,_,_,_,_,_,_,_,_,_,_,_,gj⟩ ⟨_,_,_,_,_,gk,kI⟩ gm) gI,
  yP (jM.mk ⟨_,_,_,_,_,_,_,_,_,_,_,_,_,_,dg⟩ ⟨_,_,_,_,_,dh,cW⟩ di) (jM.mk ⟨_,_,_,_,_,_,_,_,_,_,_,_,_,_,oZ⟩ ⟨_,_,_,_,_,o4,tS⟩ o5) eY,
  yP (jM.mk ⟨_,_,_,_,_,_,_,_,_,_,_,_,_,_,dg⟩ ⟨_,_,_,_,_,dh,cW⟩ di) (jM.mk ⟨_,_,_,_,_,_,_,_,_,_,_,_,_,_,dg⟩ ⟨_,_,_,_,_,dh,cW⟩ di) dZ,
  yP (jM.mk ⟨_,_,_,_,_,_,_,_,_,_,_,_,_,_,dg⟩ ⟨_,_,_,_,_,dh,cW⟩ di) (jM.mk ⟨_,_,_,_,_,_,_,_,_,_,_,_,_,_,jx⟩ ⟨_,_,_,_,_,jy,oM⟩ jz) cP,
  yP (jM.mk ⟨_,_,_,_,_,_,_,_,_,_,_,_,_,_,dg⟩ ⟨_,_,_,_,_,dh,cW⟩ di) (jM.mk ⟨_,_,_,_,_,_,_,_,_,_,_,_,_,_,o6⟩ ⟨_,_,_,_,_,o7,tU⟩ o8) eZ,
  yP (jM.mk ⟨_,_,_,_,_,_,_,_,_,_,_,_,_,_,dg⟩ ⟨_,_,_,_,_,dh,cW⟩ di) (jM.mk ⟨_,_,_,_,_,_,_,_,_,_,_,_,_,_,jA⟩ ⟨_,_,_,_,_,jB,oN⟩ jC) cQ,
  mz AQ,
  mz VM,
  mz OZ,
  mz Cf,
  mz AR,
  mz VN,
  mz O0,
  mz z_ord,
  mz Lk,
  mz DX,
  mz VO,
  mz VP,
  mz Ll,
  ⟨_,mo O1⟩,O2,
  ⟨_,mo Cg⟩,
  ⟨_,mo AU⟩,
  ⟨_,mo ni⟩,
  mo O3,⟨_,_,_,O5,rfl,rfl,(by show 2≤sizeLine;decide),(.cons ⟨_,rfl⟩ (.cons ⟨_,rfl⟩ .nil))⟩,
  mo VQ,⟨_,_,_,VS,rfl,rfl,(by show 2≤sizeLine;decide),(.cons ⟨_,rfl⟩ (.cons ⟨_,rfl⟩ .nil))⟩,
  mo Lr,⟨_,_,_,Lu,rfl,rfl,(by show 2≤sizeLine;decide),(.cons ⟨_,rfl⟩ (.cons ⟨_,rfl⟩ .nil))⟩⟩⟩
theorem walk {l:W.OpenLaw}{q:Program}{loose:List Str}{XP:(Str→Option Value)→Heap→Prop}{YP:World→Heap→Prop}{d:DefRec}{K:Params→W.Frag} (hn:l.most=some 63) (hdf:d.params.defaults=[])
  (hY:∀(w:World) (h:Heap),YP w h→(K w.params).In h)
  (F:∀(w:World) (mg:Str→Option Value) (fa:Addr) (h:Heap),(K w.params).In h→h.Ns mainGlobals mg→mg d.name=some (.ref fa) →
   ∃ fd:FuncData,(∀(s:Shared) (u:Value),BindsTo s fd ⟨[u],[]⟩ [("_law_script",u)])∧∀ base:Heap,(K w.params).In base→base.Ns mainGlobals mg→aI l.prog w (K w.params) mg base bN 14 fa fd ["_law_script"] (Ah (K w.params))) :
  W.WalkO q loose XP YP l.row.toRowW d [] (fun f vs=>PySem.call f vs) :=
 L2.JW (n:=63) (k:=14) (x := "_law_script") (CX:=fun _=>bN) (sp:=fun w=>Ah (K w.params)) hn (by decide) hdf ⟨rfl,by decide,by decide⟩ hY F (fun _ _ a ns hl _ hS=>⟨a,ns,rfl,hS,hl,fun _=>rfl⟩) fun _ _ _ _ _ z=>z
end My
def PySem.W.Fast.tw8964633465877923103:Unit:=()
def PySem.W.Fast.tw11778004264550141982:Unit:=()
def PySem.W.Fast.tw8945938249634965055:Unit:=()
def PySem.W.Fast.tw14742001713285286431:Unit:=()
def PySem.W.Fast.tw16988988064072540063:Unit:=()
def PySem.W.Fast.tw15812391618201204225:Unit:=()
def PySem.W.Fast.tw15432079872740097046:Unit:=()
def PySem.W.Fast.tw16623116013898832652:Unit:=()
def PySem.W.Fast.tw11815806995719637098:Unit:=()
def PySem.W.Fast.tw15141922336776657371:Unit:=()
def PySem.W.Fast.tw190272232760485347:Unit:=()
def PySem.W.Fast.tw5228854337405630283:Unit:=()
def PySem.W.Fast.tw12158339066949427521:Unit:=()
def PySem.W.Fast.tw3032811375052027535:Unit:=()
def PySem.W.Fast.tw11163596083300842741:Unit:=()
def PySem.W.Fast.tw353934978578360373:Unit:=()
def PySem.W.Fast.tw10208079993891514109:Unit:=()
def PySem.W.Fast.tw15514282137227199621:Unit:=()
def PySem.W.Fast.tw13948522608447158427:Unit:=()
def PySem.W.Fast.tw9466721285404023361:Unit:=()
def PySem.W.Fast.tw10664659728391906155:Unit:=()
def PySem.W.Fast.tw12353326644192503225:Unit:=()
def PySem.W.Fast.tw16340381324099160375:Unit:=()
def PySem.W.Fast.tw15342751295847449218:Unit:=()
def PySem.W.Fast.tw12224122492128779545:Unit:=()
def PySem.W.Fast.tw6599215181487484913:Unit:=()
def PySem.W.Fast.tw17092110898379197868:Unit:=()
def PySem.W.Fast.tw14887011102855485028:Unit:=()
def PySem.W.Fast.tw8952830238936893239:Unit:=()
def PySem.W.Fast.tw11762559019313143146:Unit:=()
def PySem.W.Fast.tw12157434555534230533:Unit:=()
def PySem.W.Fast.tw11554767067212351186:Unit:=()
def PySem.W.Fast.tw13409021760240013167:Unit:=()
def PySem.W.Fast.tw16471282087461177626:Unit:=()
def PySem.W.Fast.tw8408615365573584269:Unit:=()
def PySem.W.Fast.tw16702027861603232536:Unit:=()
def PySem.W.Fast.tw14264332418006728703:Unit:=()
def PySem.W.Fast.tw5468315393302464878:Unit:=()
def PySem.W.Fast.tw5532811956755142597:Unit:=()
def PySem.W.Fast.tw13060851440359720601:Unit:=()
def PySem.W.Fast.tw5605156931818624826:Unit:=()
def PySem.W.Fast.tw16854504481615103722:Unit:=()
def PySem.W.Fast.tw572181171717215019:Unit:=()
def PySem.W.Fast.tw13501585757298474405:Unit:=()
def PySem.W.Fast.tw13420308787777339705:Unit:=()
def PySem.W.Fast.tw7509384880598127665:Unit:=()
def PySem.W.Fast.tw12941570039263822643:Unit:=()
def PySem.W.Fast.tw16940838867310220113:Unit:=()
def PySem.W.Fast.tw10273987909114310306:Unit:=()
def PySem.W.Fast.tw14708147901841772011:Unit:=()
def PySem.W.Fast.tw5794887305381157622:Unit:=()
def PySem.W.Fast.tw9595592076034426526:Unit:=()
def PySem.W.Fast.tw6465676507218777401:Unit:=()
def PySem.W.Fast.tw4976126194954634350:Unit:=()
def PySem.W.Fast.tw11518268274579160853:Unit:=()
def PySem.W.Fast.tw12761058442251491967:Unit:=()
def PySem.W.Fast.tw2184665162308876587:Unit:=()
def PySem.W.Fast.tw12456423547223066944:Unit:=()
def PySem.W.Fast.tw14308502460192615032:Unit:=()
def PySem.W.Fast.tw10950612403773667078:Unit:=()
def PySem.W.Fast.tw15312952252624972160:Unit:=()
def PySem.W.Fast.tw7821041725209054435:Unit:=()
def PySem.W.Fast.tw9206772359017898660:Unit:=()
def PySem.W.Fast.tw14886787871538511452:Unit:=()
def PySem.W.Fast.tw13329376637679499994:Unit:=()
def PySem.W.Fast.tw14759632465465573119:Unit:=()
def PySem.W.Fast.tw1400099921782215287:Unit:=()
def PySem.W.Fast.tw8100266529044620996:Unit:=()
def PySem.W.Fast.tw17915210062184205434:Unit:=()
def PySem.W.Fast.tw13862294847753037772:Unit:=()
def PySem.W.Fast.tw2247911232584495398:Unit:=()
def PySem.W.Fast.tw5008887439107254875:Unit:=()
def PySem.W.Fast.tw13663585399124214335:Unit:=()
def PySem.W.Fast.tw10286576155122435152:Unit:=()
def PySem.W.Fast.tw5616301875015208557:Unit:=()
def PySem.W.Fast.tw1951209356139020601:Unit:=()
def PySem.W.Fast.tw7463288464742857449:Unit:=()
def PySem.W.Fast.tw9744444388943576028:Unit:=()
def PySem.W.Fast.tw14717432527970134390:Unit:=()
def PySem.W.Fast.tw9712722421533549614:Unit:=()
def PySem.W.Fast.tw10408452856093259026:Unit:=()
def PySem.W.Fast.tw13871637869849311166:Unit:=()
def PySem.W.Fast.tw8153312172591203163:Unit:=()
def PySem.W.Fast.tw9776460142847126707:Unit:=()
def PySem.W.Fast.tw2061406499446124261:Unit:=()
def PySem.W.Fast.tw14099264298369015892:Unit:=()
def PySem.W.Fast.tw10680844279021368372:Unit:=()
def PySem.W.Fast.tw3790821333430738791:Unit:=()
def PySem.W.Fast.tw5770505497028457356:Unit:=()
def PySem.W.Fast.tw14927647943838022974:Unit:=()
def PySem.W.Fast.tw6557923479602857470:Unit:=()
def PySem.W.Fast.tw8837528971889188777:Unit:=()
def PySem.W.Fast.tw10723964226008102857:Unit:=()
def PySem.W.Fast.tw2139349890686797850:Unit:=()
def PySem.W.Fast.tw11189217685563596681:Unit:=()
def PySem.W.Fast.tw15051268344099333194:Unit:=()
def PySem.W.Fast.tw8167896686674201177:Unit:=()
def PySem.W.Fast.tw13956185209888356167:Unit:=()
def PySem.W.Fast.tw6811841001347202252:Unit:=()
def PySem.W.Fast.tw6598865622867217182:Unit:=()
def PySem.W.Fast.tw16110274598190978901:Unit:=()
def PySem.W.Fast.tw14530192467380515492:Unit:=()
def PySem.W.Fast.tw6634589173679737582:Unit:=()
def PySem.W.Fast.tw16569389910903235006:Unit:=()
def PySem.W.Fast.tw11834651853415034425:Unit:=()
def PySem.W.Fast.tw13787342314893128647:Unit:=()
def PySem.W.Fast.tw15806998100905043618:Unit:=()
def PySem.W.Fast.tw8357057505608383251:Unit:=()
def PySem.W.Fast.tw12951135473467842876:Unit:=()
def PySem.W.Fast.tw11717457130296564334:Unit:=()
def PySem.W.Fast.tw16310420355417495169:Unit:=()
def PySem.W.Fast.tw14597637332029587538:Unit:=()
def PySem.W.Fast.tw7008651454778201426:Unit:=()
def PySem.W.Fast.tw4788697679206079864:Unit:=()
def PySem.W.Fast.tw1791847318026742792:Unit:=()
def PySem.W.Fast.tw8841842984978589005:Unit:=()
def PySem.W.Fast.tw18054369834086418245:Unit:=()
def PySem.W.Fast.tw5572403517317991214:Unit:=()
def PySem.W.Fast.tw1956815057899603662:Unit:=()
def PySem.W.Fast.tw10653628727810503244:Unit:=()
def PySem.W.Fast.tw14368591531593113285:Unit:=()
def PySem.W.Fast.tw14656292545387776483:Unit:=()
def PySem.W.Fast.tw2343716199173759246:Unit:=()
def PySem.W.Fast.tw16736991331643062440:Unit:=()
def PySem.W.Fast.tw12566721214526205688:Unit:=()
def PySem.W.Fast.tw10647925331960579190:Unit:=()
def PySem.W.Fast.tw3737546012363183189:Unit:=()
def PySem.W.Fast.tw13464844780901306750:Unit:=()
def PySem.W.Fast.tw2761538083585225373:Unit:=()
def PySem.W.Fast.tw16242973399472573128:Unit:=()
def PySem.W.Fast.tw491302032047682354:Unit:=()
def PySem.W.Fast.tw14462334797588929220:Unit:=()
def PySem.W.Fast.tw3399923262206362420:Unit:=()
open PySem PySem.W PyProof.Rows
set_option maxRecDepth 100000 in
set_option maxHeartbeats 0 in
theorem PySem.Challenge.cw_dialecthall_k42_no_tables_holds : PySem.Challenge.rw_dialecthall_k42_no_tables.Holds := by
 w_on;o_law;k_head;(case hw=>w_witness2)
 k_fill
 refine My.walk (l:=PySem.Challenge.rw_dialecthall_k42_no_tables) rfl rfl (fun w h Y=>W.kIn_of Y) ?F
 case F =>
  intro w mg fa h KX G hmg
  refine' My.all_mk KX G hmg ?_ ?_ ?_ ?_ ?jb ?sQ ?qq ?mG ?sR ?mH ?_ ?_ ?_ ?_ ?_ ?_ ?_ ?_ ?_ ?_ ?_ ?_ ?_ ?_ ?_ ?_ ?_ ?_ ?_ ?_ ?_ ?_ ?_ ?_ ?_ ?_ ?_ ?_ ?_ ?_ ?_ ?_ ?_ ?_ ?_ ?_ ?_ ?_ ?_ ?_ ?_ ?_ ?_ ?_ ?_ ?_ ?_ ?_ ?_ ?_ ?_ ?_ ?_ ?_ ?_ ?_ ?_ ?_ ?_ ?_ ?_ ?_ ?_ ?_ ?_ ?_ ?_ ?_ ?_ ?_ ?_ ?_ ?_ ?_ ?_ ?_ ?_ ?_ ?_ ?_ ?_ ?_ ?_ ?_ ?_ ?_ ?_ ?_ ?_ ?_ ?_ ?_ ?_ ?_ ?_ ?_ ?_ ?_ ?_ ?_ ?_ ?_ ?_ ?_ ?_ ?_ ?_ ?_ ?_ ?_ ?_ ?_ ?_ ?_ ?_ ?_ ?_ ?_ ?_ ?_ ?_ ?_ ?_ ?_ ?_ ?_ ?_ ?_ ?_ ?_ ?_ ?_ ?_ ?_ ?_ ?_ ?_ ?_ ?_ ?_ ?_ ?_ ?_ ?_ ?_ ?_ ?_ ?_ ?_ ?_ ?_ ?_ ?_ ?_ ?_ ?_ ?_ ?_ ?_ ?_ ?_ ?_ ?_ ?_ ?_ ?_ ?_ ?_ ?_ ?_ ?_ ?_ ?_ ?_ ?_ ?_ ?_ ?_ ?_ ?_ ?_ ?_ ?_ ?_ ?_ ?_ ?_ ?_ ?_ ?_ ?_ ?_ ?_ ?_ ?_ ?_ ?_ ?_ ?_ ?_ ?_ ?_ ?_ ?_ ?_ ?_ ?_ ?_ ?_ ?_ ?_ ?_ ?_ ?_ ?_ ?_ ?_ ?_ ?_ ?_ ?_ ?_ ?_ ?_ ?_ ?_ ?_ ?_ ?_ ?_ ?_ ?_ ?_ ?_ ?_ ?_ ?_ ?_ ?_ ?_ ?_ ?_ ?_ ?_ ?_ ?gj ?gk ?_ ?gm ?_ ?_ ?_ ?oZ ?o4 ?_ ?o5 ?dg ?dh ?_ ?di ?jx ?jy ?_ ?jz ?o6 ?o7 ?_ ?o8 ?_ ?_ ?_ ?_ ?_ ?_ ?_ ?_ ?_ ?jA ?jB ?_ ?jC ?_ ?_ ?_ ?_ ?_ ?_ ?_ ?_ ?_ ?_ ?_ ?_ ?_ ?_ ?_ ?_ ?_ ?_ ?_ ?_ ?_ ?_ ?_ ?_ ?_ ?_ ?_ ?_ ?_ ?_ ?_ ?_ ?_ ?_ ?_ ?_ ?_ ?_ ?_ ?_ ?_ ?_ ?_ ?_ ?_ ?_ ?_
  (case jb=>k_is)
  (case sQ=>k_is)
  (case qq=>k_is)
  (case mG=>k_is)
  (case sR=>k_is)
  (case mH=>k_is)
  (case gj=>k_is)
  (case gk=>k_is)
  (case gm=>k_is)
  (case oZ=>k_is)
  (case o4=>k_is)
  (case o5=>k_is)
  (case dg=>k_is)
  (case dh=>k_is)
  (case di=>k_is)
  (case jx=>k_is)
  (case jy=>k_is)
  (case jz=>k_is)
  (case o6=>k_is)
  (case o7=>k_is)
  (case o8=>k_is)
  (case jA=>k_is)
  (case jB=>k_is)
  (case jC=>k_is)
  all_goals try first | k_is | rfl
