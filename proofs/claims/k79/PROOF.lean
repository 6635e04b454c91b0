import PyProof.Rows.All
import Wide.All
import OpenK.AllK
import Wide.FinOn
import Lean
import PyProof.EqAt
import PyProof.EqKinds
import PyProof.TupleCall
import PyProof.JoinWalk
import PyProof.DictIter
import PyProof.SeqI3
import PyProof.WalkInts
import PyProof.DictTruth
import PyProof.ListRange
import PyProof.DictWalks
import PyProof.DictRoadsH
import PySem.Challenge.RW_dialecthall_k79_whole_more_others
set_option Elab.async false
set_option linter.all false
set_option maxRecDepth 100000
namespace L2
open PySem PySem.Spec PyProof.Rows
abbrev Key:=Sum Int Str
def yF:Key→Value→Bool
 | .inl k,v=>Value.isInt k v
 | .inr x,v=>Value.isStrOf x v
def YI (w:World):Key→Int
 | .inl k=>hashInt k
 | .inr x=>hashStr w x
theorem cU:∀{k:Key}{v:Value},yF k v=true→(∃ i t,k=Sum.inl i∧v=Value.int i t)∨(∃ x t,k=Sum.inr x∧v=Value.str x t)
 | .inl i,v,h=>by
  obtain⟨t,e⟩:=Value.isInt_shape (k:=i) (v:=v) h
  exact .inl ⟨i,t,rfl,e⟩
 | .inr x,v,h=>by
  obtain⟨t,e⟩:=Value.isStrOf_shape (x:=x) (v:=v) h
  exact .inr ⟨x,t,rfl,e⟩
theorem LM (i:Int) (t:Tok):yF (.inl i) (.int i t)=true:=by simp[yF,Value.isInt]
theorem LN (x:Str) (t:Tok):yF (.inr x) (.str x t)=true:=by simp[yF,Value.isStrOf]
theorem NY (a b:Int):decide ((Sum.inl a:Key)=Sum.inl b)=(a == b):=by
 by_cases e:a=b
 ·subst e;simp
 ·have h:¬(Sum.inl a:Key)=Sum.inl b:=fun q=>e (Sum.inl.inj q)
  rw[decide_eq_false h]
  exact(beq_eq_false_iff_ne.mpr e).symm
theorem NZ (a b:Str):decide ((Sum.inr a:Key)=Sum.inr b)=decide (a=b):=by
 by_cases e:a=b
 ·subst e;simp
 ·have h:¬(Sum.inr a:Key)=Sum.inr b:=fun q=>e (Sum.inr.inj q)
  rw[decide_eq_false h,decide_eq_false e]
theorem N1 (a:Int) (b:Str):decide ((Sum.inl a:Key)=Sum.inr b)=false:=decide_eq_false (fun q=>nomatch q)
theorem N2 (a:Str) (b:Int):decide ((Sum.inr a:Key)=Sum.inl b)=false:=decide_eq_false (fun q=>nomatch q)
def pK (prog:Program) (w:World):PySem.KeyKind prog w Key where
 is:=yF
 hash:=YI w
 inj:=fun v a b ha hb=>by
  rcases cU ha with ⟨i,t,rfl,rfl⟩ | ⟨x,t,rfl,rfl⟩
  ·rcases cU hb with ⟨j,u,rfl,e⟩ | ⟨y,u,rfl,e⟩
   ·injection e with e1 _;rw[e1]
   ·exact nomatch e
  ·rcases cU hb with ⟨j,u,rfl,e⟩ | ⟨y,u,rfl,e⟩
   ·exact nomatch e
   ·injection e with e1 _;rw[e1]
 byValue:=fun k v h=>by
  rcases cU h with ⟨i,t,rfl,rfl⟩ | ⟨x,t,rfl,rfl⟩ <;> rfl
 pyHash:=fun hv h=>by
  rcases cU hv with ⟨i,t,rfl,rfl⟩ | ⟨x,t,rfl,rfl⟩
  ·exact wpAny_pyHash_int h
  ·exact wpAny_pyHash_str h
 eqBool:=fun hu hv h=>by
  rcases cU hu with ⟨i,t,rfl,rfl⟩ | ⟨x,t,rfl,rfl⟩
  ·rcases cU hv with ⟨j,u,rfl,rfl⟩ | ⟨y,u,rfl,rfl⟩
   ·rw[NY] at h;exact wpAny_eqBool_int h
   ·rw[N1] at h;exact SeqAt.EqAt.int_str i t y u _ _ _ _ h
  ·rcases cU hv with ⟨j,u,rfl,rfl⟩ | ⟨y,u,rfl,rfl⟩
   ·rw[N2] at h;exact SeqAt.EqAt.str_int x t j u _ _ _ _ h
   ·rw[NZ] at h;exact wpAny_eqBool_str h
 «strs» := fun k x t v h=>by
  rcases cU h with ⟨i,u,rfl,e⟩ | ⟨y,u,rfl,e⟩
  ·exact nomatch e
  ·injection e with e1 _
   subst e1
   cases v <;> rfl
theorem Fx (prog:Program) (w:World) (i:Int) (t:Tok):(pK prog w).is (.inl i) (.int i t)=true:=LM i t
theorem Fy (prog:Program) (w:World) (x:Str) (t:Tok):(pK prog w).is (.inr x) (.str x t)=true:=LN x t
inductive V where
 | non | bl (b:Bool) | int (i:Int) | str (x:Str) | NP (b:Array UInt8) | pL (b:UInt64) | ref (a:Addr) | ty (n:String)
 deriving DecidableEq
def RelV:V→Value→Prop
 | .non,u=>u=Value.none
 | .bl b,u=>u=Value.bool b
 | .int i,u=>∃ t,u=Value.int i t
 | .str x,u=>∃ t,u=Value.str x t
 | .NP b,u=>∃ t,u=Value.bytes b t
 | .pL b,u=>∃ t,u=Value.float b t
 | .ref a,u=>u=Value.ref a
 | .ty n,u=>u=Value.type n
abbrev Vals:List V→List Value→Prop:=Paired RelV
theorem Vals.length {xs:List V}{us:List Value} (r:Vals xs us):xs.length=us.length:=Paired.length r
theorem Vals.get:∀{xs:List V}{us:List Value}{i:Nat}{x:V},Vals xs us→xs[i]? = some x→∃ u,us[i]? = some u∧RelV x u
 | _,_,_,_,.nil,e=>by simp at e
 | _,_,0,_,.cons r _,e=>by simp at e;subst e;exact⟨_,rfl,r⟩
 | _,_,i+1,x,.cons _ t,e=>by
  obtain⟨u,h1,h2⟩:=Vals.get (i:=i) (x:=x) t (by simpa using e)
  exact⟨u,by simpa using h1,h2⟩
theorem Vals.set {x:V}{u:Value} (r:RelV x u):∀{xs:List V}{us:List Value} (i:Nat),Vals xs us→Vals (xs.set i x) (us.set i u)
 | _,_,_,.nil=>.nil
 | _,_,0,.cons _ t=>.cons r t
 | _,_,i+1,.cons q t=>.cons q (Vals.set r i t)
theorem Vals.append:∀{xs ys:List V}{us ws:List Value},Vals xs us→Vals ys ws→Vals (xs++ys) (us++ws)
 | _,_,_,_,.nil,s=>s
 | _,_,_,_,.cons r t,s=>.cons r (Vals.append t s)
theorem Vals.take:∀{xs:List V}{us:List Value} (n:Nat),Vals xs us→Vals (xs.take n) (us.take n)
 | _,_,0,_=>.nil
 | _,_,_+1,.nil=>.nil
 | _,_,n+1,.cons r t=>.cons r (Vals.take n t)
theorem Vals.drop:∀{xs:List V}{us:List Value} (n:Nat),Vals xs us→Vals (xs.drop n) (us.drop n)
 | _,_,0,r=>r
 | _,_,_+1,.nil=>.nil
 | _,_,n+1,.cons _ t=>Vals.drop n t
def vh:Option V→Option Value→Prop
 | some v,some u=>RelV v u
 | none,none=>True
 | _,_=>False
def KV {κ:Type}:List (κ×V)→List (κ×Value)→Prop:=Paired fun (p:κ×V) (q:κ×Value)=>p.1=q.1∧RelV p.2 q.2
def kV:Key→V
 | .inl i=>.int i
 | .inr x=>.str x
inductive HO where
 | lst (xs:List V)
 | tup (xs:List V)
 | dK (kvs:List (Key×V)) | dT (kvs:List (List Key×V))
 | set (S:Int→Bool) (n:Nat)
 | ins (C dx:Addr) (fs:List (Str×V))
 | own (x:Addr)
 | xd (fs:List (Str×V))
 | met (f x:Addr)
 | rng (lo hi:Int)
 | KZ (o:Obj) (u:HO)
 | UD (ps:Array Value)
 | ext (φ:Heap→Prop)
abbrev Hp:=Addr→Option HO
def upd (H:Hp) (a:Addr) (o:HO):Hp:=fun b=>if b=a then some o else H b
theorem aj {H:Hp}{a:Addr}{o:HO}:upd H a o a=some o:=by unfold upd;rw[if_pos rfl]
theorem aC {H:Hp}{a b:Addr}{o:HO} (h:b≠a):upd H a o b=H b:=by unfold upd;rw[if_neg h]
theorem f6 {H:Hp}{a b:Addr}{o u:HO} (h:H a=some o) (h':H b=some u) (d:o≠u):a≠b:=by
 intro e;subst e;rw[h] at h';exact d (Option.some.inj h')
theorem bq {H:Hp}{a b:Addr}{o:HO} (h:H a=some o) (h':H b=none):a≠b:=by
 intro e;subst e;rw[h] at h';cases h'
section
variable (P:Program) (w:World)
def dS (H:Hp) (h:Heap) (a:Addr):HO→Prop
 | .lst xs=>xs.length≤sizeLine∧∃(its:List Value) (n:Nat),Vals xs its∧h.get? a=some { cls:=.type "list",data:=.seq its.toArray n }
 | .tup xs=>xs.length≤sizeLine∧∃ its:List Value,Vals xs its∧IsTup h a its.toArray
 | .dK kvs=>kvs.length≤sizeLine∧(a == sysModules)=false∧∃ vs,KV kvs vs∧h.DictOf (pK P w) a vs
 | .dT kvs=>kvs.length≤sizeLine∧(a == sysModules)=false∧∃ xs:List (List Key×Addr×Value),
   Paired (fun (p:List Key×V) (q:List Key×Addr×Value)=>p.1=q.1∧H q.2.1=some (.tup (p.1.map kV))∧RelV p.2 q.2.2) kvs xs ∧
   ∃ o es ep,h.get? a=some o∧o.ExactDict∧o.data=.dict es ep∧es.toList=xs.map (entryOfKey (tupleKind (pK P w)))∧(xs.map (·.1)).Nodup
 | .set S n=>h.SetOf (intKind P w) a S n
 | .ins C dx fs=>H dx=some (.own a)∧fs.length≤1000∧dx≠a∧h.get? a=some (W.instObj C dx) ∧
   ∃ mA,h.Ns1 dx mA∧(∀ f,vh (fs.lookup f) (mA f))∧PySem.Within mA (fs.map (·.1))
 | .own _=>∃ o,h.get? a=some o
 | .xd fs=>∃ mA,h.Ns1 a mA∧∀ f,vh (fs.lookup f) (mA f)
 | .rng lo hi=>∃ t u v,h.get? a=some { cls:=.type "range",data:=.fields #[.int lo t,.int hi u,.int 1 v] }
 | .KZ o u=>h.get? a=some o∧dS H h a u
 | .UD ps=>h.get? a=some { cls:=.none,data:=.fields ps }
 | .met f x=>h.get? a=some (W.methodObj (.ref f) (.ref x))
 | .ext φ=>φ h∧(∃ o,h.get? a=some o)∧∀ h1 h2:Heap,φ h1→(∀ o,h1.get? a=some o→h2.get? a=some o)→φ h2
def z0 (H:Hp) (h:Heap):Prop:=∀ a o,H a=some o→dS P w H h a o
end
section
variable {P:Program}{w:World}{H H':Hp}{h h':Heap}{a:Addr}{o:HO}
theorem dS.lt (x:dS P w H h a o):a < h.objs.size:=by
 cases o with
 | lst xs=>obtain⟨_,_,_,_,e⟩:=x;exact Heap.lt_size e
 | tup xs=>obtain⟨_,_,_,p⟩:=x;exact p.lt
 | dK kvs=>obtain⟨_,_,_,_,o,_,_,e,_⟩:=x;exact Heap.lt_size e
 | dT kvs=>obtain⟨_,_,_,_,o,_,_,e,_⟩:=x;exact Heap.lt_size e
 | set S n=>obtain⟨o,_,_,_,e,_⟩:=x;exact Heap.lt_size e
 | ins C dx fs=>obtain⟨_,_,_,e,_⟩:=x;exact Heap.lt_size e
 | own y=>obtain⟨_,e⟩:=x;exact Heap.lt_size e
 | xd fs=>obtain⟨_,⟨_,_,_,e,_⟩,_⟩:=x;exact Heap.lt_size e
 | rng lo hi=>obtain⟨_,_,_,e⟩:=x;exact Heap.lt_size e
 | KZ ob u=>obtain⟨e,_⟩:=x;exact Heap.lt_size e
 | UD ps=>exact Heap.lt_size (show h.get? a=some _ from x)
 | met f y=>exact Heap.lt_size (show h.get? a=some _ from x)
 | ext φ=>obtain⟨_,⟨_,e⟩,_⟩:=x;exact Heap.lt_size e
theorem Paired.N4 {α β:Type}{F G:α→β→Prop}:∀{l₁:List α}{l₂:List β},Paired F l₁ l₂→(∀ a b,F a b→G a b)→Paired G l₁ l₂
 | _,_,.nil,_=>.nil
 | _,_,.cons r t,f=>.cons (f _ _ r) (Paired.N4 t f)
theorem dS.stay (x:dS P w H h a o) (k:∀ b u,(b=a∨H b=some (.own a))→h.get? b=some u→h'.get? b=some u)
  (ho:∀ b,H b=some (.own a)→H' b=some (.own a)) (ht:∀ b xs,H b=some (.tup xs)→H' b=some (.tup xs)):dS P w H' h' a o:=by
 induction o with
 | lst xs=>obtain⟨z,its,n,r,e⟩:=x;exact⟨z,its,n,r,k _ _ (.inl rfl) e⟩
 | tup xs=>obtain⟨z,its,r,ob,e,c⟩:=x;exact⟨z,its,r,ob,k _ _ (.inl rfl) e,c⟩
 | dK kvs=>obtain⟨z,y,vs,r,ob,es,ep,e,c⟩:=x;exact⟨z,y,vs,r,ob,es,ep,k _ _ (.inl rfl) e,c⟩
 | dT kvs =>
  obtain⟨z,y,xs,r,ob,es,ep,e,c⟩:=x
  exact⟨z,y,xs,Paired.N4 r fun p q z=>⟨z.1,ht _ _ z.2.1,z.2.2⟩,ob,es,ep,k _ _ (.inl rfl) e,c⟩
 | set S n=>obtain⟨ob,es,ep,t,e,c⟩:=x;exact⟨ob,es,ep,t,k _ _ (.inl rfl) e,c⟩
 | ins C dx fs =>
  obtain⟨d,z,ne,e,mA,⟨od,es,ep,e2,c⟩,r⟩:=x
  exact⟨ho _ d,z,ne,k _ _ (.inl rfl) e,mA,⟨od,es,ep,k _ _ (.inr d) e2,c⟩,r⟩
 | own y=>obtain⟨ob,e⟩:=x;exact⟨ob,k _ _ (.inl rfl) e⟩
 | xd fs=>obtain⟨mA,⟨od,es,ep,e,c⟩,r⟩:=x;exact⟨mA,⟨od,es,ep,k _ _ (.inl rfl) e,c⟩,r⟩
 | rng lo hi=>obtain⟨t,u,v,e⟩:=x;exact⟨t,u,v,k _ _ (.inl rfl) e⟩
 | KZ ob u ih=>obtain⟨e,q⟩:=x;exact⟨k _ _ (.inl rfl) e,ih q⟩
 | UD ps =>
  have e:h.get? a=some { cls:=.none,data:=.fields ps }:=x
  show h'.get? a=some { cls:=.none,data:=.fields ps }
  exact k a _ (.inl rfl) e
 | met f y =>
  have e:h.get? a=some (W.methodObj (.ref f) (.ref y)):=x
  show h'.get? a=some (W.methodObj (.ref f) (.ref y))
  exact k a _ (.inl rfl) e
 | ext φ=>obtain⟨p,⟨o,e⟩,st⟩:=x;exact⟨st _ _ p fun o q=>k _ _ (.inl rfl) q,⟨o,k _ _ (.inl rfl) e⟩,st⟩
theorem z0.lt (x:z0 P w H h) (e:H a=some o):a < h.objs.size:=(x a o e).lt
theorem z0.fresh (x:z0 P w H h) (e:h.objs.size≤a):H a=none:=by
 cases q:H a with
 | none=>rfl
 | some u=>exact absurd (Nat.lt_of_lt_of_le (x.lt q) e) (Nat.lt_irrefl _)
theorem z0.kept (x:z0 P w H h) (k:∀ b u,h.get? b=some u→h'.get? b=some u):z0 P w H h':=fun a o e =>
 (x a o e).stay (fun b u _ q=>k b u q) (fun _ q=>q) fun _ _ q=>q
theorem z0.laid (x:z0 P w H h) (k:∀ b u,h.get? b=some u→h'.get? b=some u) (hp:h.objs.size≤a) (new:dS P w (upd H a o) h' a o):z0 P w (upd H a o) h':=fun b u e=>by
 have hn:=x.fresh hp
 by_cases hb:b=a
 ·subst hb;rw[aj] at e;cases e;exact new
 ·rw[aC hb] at e
  exact(x b u e).stay (fun c v _ q=>k c v q) (fun c q=>by rw[aC (bq q hn)];exact q) fun c xs q=>by rw[aC (bq q hn)];exact q
end
def Rd (H:Hp) (a:Addr) (u:HO):Prop:=H a=some u∨∃ o,H a=some (.KZ o u)
theorem Rd.ok {P:Program}{w:World}{H:Hp}{h:Heap}{a:Addr}{u:HO} (r:Rd H a u) (x:z0 P w H h):dS P w H h a u:=by
 rcases r with r | ⟨o,r⟩
 ·exact x a u r
 ·obtain⟨_,q⟩:=x a _ r
  exact q
def Mut:Option HO→Prop
 | some (.lst _)=>True
 | some (.dK _)=>True
 | some (.dT _)=>True
 | some (.set _ _)=>True
 | some (.ins _ _ _)=>True
 | some (.ext _)=>True
 | _=>False
section
variable {P:Program}{w:World}{H:Hp}{h h':Heap}{x e:Addr}{o':HO}
theorem z0.write (ok:z0 P w H h) (mu:Mut (H x)) (he:e=x∨H e=some (.own x)) (k:∀ b u,b≠e→h.get? b=some u→h'.get? b=some u) (X4:∃ u,h'.get? e=some u)
  (new:dS P w (upd H x o') h' x o'):z0 P w (upd H x o') h':=fun b u q=>by
 have YJ:∀ c y,H c=some (.own y)→c≠x:=fun c y r z=>by subst z;rw[r] at mu;exact mu
 have afD:∀ c xs,H c=some (.tup xs)→c≠x:=fun c xs r z=>by subst z;rw[r] at mu;exact mu
 by_cases hb:b=x
 ·subst hb;rw[aj] at q;cases q;exact new
 ·rw[aC hb] at q
  by_cases UE:b=e
  ·have q':H b=some (.own x):=by
    rcases he with z | z
    ·exact absurd (UE.trans z) hb
    ·rw[UE];exact z
   rw[q] at q';cases q'
   obtain⟨v,hv⟩:=X4
   exact⟨v,by rw[UE];exact hv⟩
  ·refine(ok b u q).stay (fun c v hc r=>k c v ?_ r) (fun c r=>by rw[aC (YJ c b r)];exact r) fun c xs r=>by rw[aC (afD c xs r)];exact r
   rcases hc with rfl | hc
   ·exact UE
   ·rintro rfl
    rcases he with z | z
    ·exact YJ c b hc z
    ·rw[hc] at z;cases z;exact hb rfl
end
structure Un (fs ex:List Addr) (H H':Hp) (h h':Heap):Prop where
 keep:∀ b o,h.get? b=some o→H b=none→b∉fs→b∉ex→h'.get? b=some o
 slot:∀ b o,h.get? b=some o→H b=none→b∈fs→b∉ex→∃ sl,h'.get? b=some { o with slots:=sl }
 free:∀ b o,h.get? b=some o→H b=none→b∉ex→H' b=none
 there:∀ b o,h.get? b=some o→b∉ex→∃ o',h'.get? b=some o'
 tups:∀ b xs,H b=some (.tup xs)→H' b=some (.tup xs)
 DU:∀ b o u,H b=some (.KZ o u)→H' b=some (.KZ o u)
 Fz:∀ b ps,H b=some (.UD ps)→∃ more,H' b=some (.UD (ps++more))
section
variable {fs fs' ex ex':List Addr}{H H1 H2:Hp}{h h1 h2 h':Heap}{a x e:Addr}{o:HO}
theorem Un.any (u:Un fs ex H H1 h h1) {b:Addr}{ob:Obj} (q:h.get? b=some ob) (n:H b=none) (hx:b∉ex):∃ sl,h1.get? b=some { ob with slots:=sl }:=by
 by_cases hb:b∈fs
 ·exact u.slot b ob q n hb hx
 ·exact⟨ob.slots,u.keep b ob q n hb hx⟩
theorem Un.kept (k:∀ b u,h.get? b=some u→h'.get? b=some u):Un fs ex H H h h' :=
 ⟨fun b ob q _ _ _=>k b ob q,fun b ob q _ _ _=>⟨ob.slots,k b ob q⟩,fun _ _ _ n _=>n,fun b ob q _=>⟨ob,k b ob q⟩,fun _ _ q=>q,fun _ _ _ q=>q,fun _ ps q=>⟨#[],by rw[q];simp⟩⟩
theorem Un.refl:Un fs ex H H h h:=Un.kept fun _ _ q=>q
theorem Un.laid (k:∀ b u,h.get? b=some u→h'.get? b=some u) (hp:h.objs.size≤a) (hn:H a=none):Un fs ex H (upd H a o) h h' where
 keep:=fun b u q _ _ _=>k b u q
 slot:=fun b u q _ _ _=>⟨u.slots,k b u q⟩
 free:=fun b u q n _=>by rw[aC (Nat.ne_of_lt (Nat.lt_of_lt_of_le (Heap.lt_size q) hp))];exact n
 there:=fun b u q _=>⟨u,k b u q⟩
 tups:=fun b xs q=>by rw[aC (bq q hn)];exact q
 DU:=fun b u xs q=>by rw[aC (bq q hn)];exact q
 Fz:=fun b ps q=>⟨#[],by rw[aC (bq q hn),q];simp⟩
theorem Un.write (mu:Mut (H x)) (he:e=x∨H e=some (.own x)) (k:∀ b u,b≠e→h.get? b=some u→h'.get? b=some u) (X4:∃ u,h'.get? e=some u):Un fs ex H (upd H x o) h h':=by
 have hx:∀ b,H b=none→b≠x:=fun b n z=>by subst z;rw[n] at mu;exact mu
 have hb:∀ b,H b=none→b≠e:=fun b n z=>by
  subst z
  rcases he with r | r
  ·exact hx b n r
  ·rw[n] at r;cases r
 have hm:∀ b u,H b=some u→¬Mut (some u)→b≠x:=fun b u q nm z=>by subst z;rw[q] at mu;exact nm mu
 refine⟨fun b u q n _ _=>k b u (hb b n) q,fun b u q n _ _=>⟨u.slots,k b u (hb b n) q⟩,fun b u q n _=>by rw[aC (hx b n)];exact n,fun b u q _=>?_,
  fun b xs q=>by rw[aC (hm b _ q fun z=>z)];exact q,fun b u xs q=>by rw[aC (hm b _ q fun z=>z)];exact q,fun b ps q=>⟨#[],by rw[aC (hm b _ q fun z=>z),q];simp⟩⟩
 by_cases UE:b=e
 ·subst UE;exact X4
 ·exact⟨u,k b u UE q⟩
end
def trk (h:Heap) (H:Hp):List Addr:=(List.range h.objs.size).filter fun a=>(H a).isSome
def DV (h:Heap) (H:Hp):Heap:=W.hideAll h (trk h H)
theorem LO (h:Heap) (H:Hp):(DV h H).objs.size=h.objs.size:=W.hideAll_size _ _
theorem N5 {h:Heap}{H:Hp}{b:Addr}{o:Obj} (e:h.get? b=some o) (n:H b=none):(DV h H).get? b=some o :=
 W.hideAll_get _ e fun hm=>by
  have q:(H b).isSome=true:=(List.mem_filter.mp hm).2
  rw[n] at q;simp at q
theorem Rf {h:Heap}{H:Hp}{b:Addr}{o:Obj} (e:(DV h H).get? b=some o):h.get? b=some o∧H b=none:=by
 have e':h.get? b=some o:=W.of_hideAll (trk h H) e
 refine⟨e',?_⟩
 cases q:H b with
 | none=>rfl
 | some x =>
  have hm:b∈trk h H:=List.mem_filter.mpr ⟨List.mem_range.mpr (Heap.lt_size e'),by simp[q]⟩
  have z:(DV h H).get? b=none:=W.hideAll_none (trk h H) hm
  rw[z] at e;cases e
def Rg (g h:Heap) (L:Addr):List (Addr×Obj):=(List.range h.objs.size).filterMap fun a=>if a=L∨(g.get? a).isSome=true then none else (h.get? a).map fun o=>(a,o)
def rest (g h:Heap) (L d:Addr):List (Addr×Obj):=(Rg g h L).filter fun p=>decide (p.1≠d)
structure Mod (K:W.Frag) (mg:Str→Option Value) (base:Heap):Prop where
 YK:K.In base
 glob:base.Ns mainGlobals mg
 blt:∃ mb,base.Ns builtinsNs mb∧∀ x:Str,x ≠ "__name__"→mb x=bootBuiltins x
 nolimit:base.NoLimit
structure Cx where
 prog:Program
 w:World
 K:W.Frag
 mg:Str→Option Value
 base:Heap
 A:Around
 N:List Str
 s₀:Shared
 H₀:Hp
 env:Env
 outer:List Env
 stack:List Env
 ex:List Addr
 fn:Str→Bool
 calm:Bool
 pn:List (Addr×Obj)
 xe:Value→Shared→Prop
def frs (l:List Env):List Addr:=l.filterMap (·.frame)
abbrev Cx.fs (X:Cx):List Addr:=frs X.outer
def Vis (sc:Scope) (x:Str):Prop:=sc.names.lookup x=some .local∨sc.names.lookup x=some .cell∨sc.names.lookup x=some .free
def Loc (sc:Scope) (x:Str):Prop:=sc.names.lookup x=some .local∨sc.names.lookup x=some .cell
def Look (env:Env) (h:Heap) (m:Str→Option Value) (x:Str) (u:Value):Prop :=
 (env.kindOf x=some .local∧m x=some u)∨((env.kindOf x=some .cell∨env.kindOf x=some .free)∧∃ c,env.cells.lookup x=some c∧h.IsCell c (some u))
structure Cx.Ok (X:Cx):Prop where
 mod:Mod X.K X.mg X.base
 kind:X.env.scope.kind=.function
 glob:X.env.globals=mainGlobals
 blt:X.env.builtins=builtinsNs
 above:X.s₀.heap.objs.size≤X.env.locals
 inj:∀ x y c,X.env.cells.lookup x=some c→X.env.cells.lookup y=some c→x=y
 has:∀ x,(X.env.kindOf x=some .cell∨X.env.kindOf x=some .free)→∃ c,X.env.cells.lookup x=some c
 YN:∀ x c,X.fn x=true→X.env.cells.lookup x=some c→X.s₀.heap.objs.size≤c
 hd:X.calm=true→X.A.handled=none
 frames:X.A.frames=some X.stack
 stk:X.stack=X.outer∨(X.stack=X.env :: X.outer∧X.env.frame=some X.env.locals)
 exf:∀ b∈X.ex,b≠X.env.locals∧∀ x c,X.env.cells.lookup x=some c→c≠b
 bs:∀ b o,X.base.get? b=some o→X.s₀.heap.get? b=some o∧X.H₀ b=none
 Rh:X.base.objs.size≤X.s₀.heap.objs.size
 N6:∀ b o,X.base.get? b=some o→b∉X.ex
 Ri:∀ b∈X.ex,b∉X.fs
 zc:X.s₀.heap.FunFrames X.base X.outer
 UG:∀ b∈X.fs,X.H₀ b=none
structure Inv (X:Cx) (pins:List (Addr×Obj)) (σ:List (Option V)) (H:Hp) (s:Shared):Prop where
 ok:X.Ok
 os:s.os=X.s₀.os
 bare:AllBare s.gens
 base:Un X.fs X.ex X.H₀ H X.s₀.heap s.heap
 loc:∃ m,s.heap.Ns X.env.locals m∧∀(i:Nat) (x:Str) (v:V),X.N[i]? = some x→σ[i]? = some (some v)→Vis X.env.scope x→∃ u,RelV v u∧Look X.env s.heap m x u
 cell:∀ x c,X.env.cells.lookup x=some c→∃ v,s.heap.IsCell c v
 free:H X.env.locals=none
 tQ:∀ x c,X.env.cells.lookup x=some c→H c=none
 pin:∀ p∈X.pn++pins,s.heap.get? p.1=some p.2∧H p.1=none∧p.1≠X.env.locals∧p.1∉X.fs∧∀ v,p.2.data≠.cell v
 hok:z0 X.prog X.w H s.heap
 len:σ.length=X.N.length
section
variable {X:Cx}{pins:List (Addr×Obj)}{σ:List (Option V)}{H H':Hp}{s:Shared}{h':Heap}
theorem Cx.Ok.afE (ok:X.Ok) {b:Addr}{o:Obj} (e:X.base.get? b=some o):b∉X.fs:=fun hb=>by
 have:=(ok.zc.mem hb).1
 rw[e] at this;cases this
theorem Inv.bs (I:Inv X pins σ H s):∀ b o,X.base.get? b=some o→s.heap.get? b=some o∧H b=none:=fun b o e =>
 ⟨I.base.keep b o (I.ok.bs b o e).1 (I.ok.bs b o e).2 (I.ok.afE e) (I.ok.N6 b o e),I.base.free b o (I.ok.bs b o e).1 (I.ok.bs b o e).2 (I.ok.N6 b o e)⟩
theorem Inv.bk (I:Inv X pins σ H s):∀ b o,X.base.get? b=some o→s.heap.get? b=some o:=fun b o e=>(I.bs b o e).1
theorem Inv.mod (I:Inv X pins σ H s):Mod X.K X.mg X.base:=I.ok.mod
theorem Inv.vj (I:Inv X pins σ H s):X.K.In s.heap:=I.ok.mod.YK.keeps I.bk
theorem Inv.lt (I:Inv X pins σ H s):X.env.locals < s.heap.objs.size:=let ⟨_,hn,_⟩:=I.loc;hn.lt
theorem Inv.sz (I:Inv X pins σ H s):X.s₀.heap.objs.size≤s.heap.objs.size:=Nat.le_trans I.ok.above (Nat.le_of_lt I.lt)
theorem Inv.afF (I:Inv X pins σ H s) {a:Addr} (h:s.heap.objs.size≤a):a∉X.fs:=fun hb=>by
 obtain⟨_,o,ho,_⟩:=I.ok.zc.mem hb
 exact absurd (Nat.lt_of_lt_of_le (Heap.lt_size ho) (Nat.le_trans I.sz h)) (Nat.lt_irrefl _)
theorem Inv.UH (I:Inv X pins σ H s):∀ x c,X.env.cells.lookup x=some c→c≠X.env.locals:=fun x c e z=>by
 obtain⟨v,o,ho,hd⟩:=I.cell x c e
 obtain⟨m,⟨o',es,ep,ho',hd',_⟩,_⟩:=I.loc
 rw[z,ho'] at ho;cases ho;rw[hd'] at hd;cases hd
theorem Inv.zc (I:Inv X pins σ H s):s.heap.FunFrames X.base X.outer:=by
 have all:∀(l:List Env),(∀ b∈frs l,b∈X.fs)→X.s₀.heap.FunFrames X.base l→s.heap.FunFrames X.base l:=by
  intro l
  induction l with
  | nil=>intro _ _;trivial
  | cons env r ih =>
   intro hs hl
   obtain⟨hk,⟨L,o,hf,hn,ho,hd⟩,hr⟩:=hl
   have hL:L∈X.fs:=hs L (by unfold frs;rw[List.filterMap_cons,hf];exact List.mem_cons_self)
   obtain⟨sl,e⟩:=I.base.slot L o ho (I.ok.UG L hL) hL fun z=>I.ok.Ri L z hL
   exact⟨hk,⟨L,_,hf,hn,e,hd⟩,ih (fun b hb=>hs b (by unfold frs;rw[List.filterMap_cons,hf];exact List.mem_cons_of_mem _ hb)) hr⟩
 exact all X.outer (fun _ hb=>hb) I.ok.zc
theorem Inv.stack (I:Inv X pins σ H s):s.heap.FunFrames X.base X.stack:=by
 rcases I.ok.stk with e | ⟨e,hf⟩
 ·rw[e];exact I.zc
 ·rw[e]
  obtain⟨m,hn,_⟩:=I.loc
  refine .cons (by rw[I.ok.kind];decide) hf hn ?_ I.zc
  exact Heap.get?_none_of_le (Nat.le_trans I.ok.Rh I.ok.above)
theorem Inv.DW (I:Inv X pins σ H s):∀ b∈frs X.stack,b∈X.env.locals :: X.fs:=fun b hb=>by
 rcases I.ok.stk with e | ⟨e,hf⟩
 ·rw[e] at hb;exact List.mem_cons_of_mem _ hb
 ·rw[e] at hb
  unfold frs at hb
  rw[List.filterMap_cons,hf] at hb
  exact hb
theorem Inv.K0 (I:Inv X pins σ H s):∀ b∈frs X.stack,H b=none:=fun b hb=>by
 rcases List.mem_cons.mp (I.DW b hb) with e | hb
 ·rw[e];exact I.free
 ·obtain⟨_,o,ho,_⟩:=I.ok.zc.mem hb
  exact I.base.free b o ho (I.ok.UG b hb) fun z=>I.ok.Ri b z hb
theorem Inv.step {g':Array GenState}{t':Nat}{d':Drawn}{ch:List Addr} (I:Inv X pins σ H s)
  (hch:∀ b∈ch,(b∈X.ex∨X.s₀.heap.objs.size≤b)∧b≠X.env.locals∧(∀ x c,X.env.cells.lookup x=some c→c≠b)∧∀ p∈X.pn++pins,p.1≠b)
  (keep:∀ b o,b≠X.env.locals→b∉X.fs→b∉ch→s.heap.get? b=some o→H b=none→h'.get? b=some o)
  (slot:∀ b o,b≠X.env.locals→b∈X.fs→b∉ch→s.heap.get? b=some o→H b=none→∃ sl,h'.get? b=some { o with slots:=sl }) (free:∀ b o,b∉ch→s.heap.get? b=some o→H b=none→H' b=none)
  (there:∀ b o,b∉ch→s.heap.get? b=some o→∃ o',h'.get? b=some o')
  (tups:∀ b xs,H b=some (.tup xs)→H' b=some (.tup xs)) (DU:∀ b o u,H b=some (.KZ o u)→H' b=some (.KZ o u)) (Fz:∀ b ps,H b=some (.UD ps)→∃ more,H' b=some (.UD (ps++more)))
  (ns:∀ m,s.heap.Ns X.env.locals m→h'.Ns X.env.locals m) (hok:z0 X.prog X.w H' h') (hg:AllBare g') :
  Inv X pins σ H' { s with heap:=h',gens:=g',drawn:=d',toks:=t' }:=by
 have neL:∀ b o,X.s₀.heap.get? b=some o→b≠X.env.locals:=fun b o e=>Nat.ne_of_lt (Nat.lt_of_lt_of_le (Heap.lt_size e) I.ok.above)
 have neC:∀ b o,X.s₀.heap.get? b=some o→b∉X.ex→b∉ch:=fun b o e hx hb=>by
  rcases(hch b hb).1 with z | z
  ·exact hx z
  ·exact absurd (Nat.lt_of_lt_of_le (Heap.lt_size e) z) (Nat.lt_irrefl _)
 have cellK:∀ x c,X.env.cells.lookup x=some c→∀ v,s.heap.IsCell c v→h'.IsCell c v:=fun x c e v ⟨o,ho,hd⟩=>by
  have YO:c∉ch:=fun z=>(hch c z).2.2.1 x c e rfl
  by_cases hc:c∈X.fs
  ·obtain⟨sl,q⟩:=slot c o (I.UH x c e) hc YO ho (I.tQ x c e)
   exact⟨_,q,hd⟩
  ·exact⟨o,keep c o (I.UH x c e) hc YO ho (I.tQ x c e),hd⟩
 refine⟨I.ok,I.os,hg,⟨fun b o e n hb hx=>?_,fun b o e n hb hx=>?_,fun b o e n hx=>?_,fun b o e hx=>?_,fun b xs e=>tups b xs (I.base.tups b xs e),fun b o xs e=>DU b o xs (I.base.DU b o xs e),fun b ps e=>?_⟩,?_,fun x c e=>?_,?_,fun x c e=>?_,fun p hp=>?_,hok,I.len⟩
 ·exact keep b o (neL b o e) hb (neC b o e hx) (I.base.keep b o e n hb hx) (I.base.free b o e n hx)
 ·obtain⟨sl,e1⟩:=I.base.slot b o e n hb hx
  obtain⟨sl',e2⟩:=slot b _ (neL b o e) hb (neC b o e hx) e1 (I.base.free b o e n hx)
  exact⟨sl',e2⟩
 ·obtain⟨o',e1⟩:=I.base.there b o e hx
  exact free b o' (neC b o e hx) e1 (I.base.free b o e n hx)
 ·obtain⟨o',e1⟩:=I.base.there b o e hx
  exact there b o' (neC b o e hx) e1
 ·obtain⟨m1,e1⟩:=I.base.Fz b ps e
  obtain⟨m2,e2⟩:=Fz b _ e1
  exact⟨m1++m2,by rw[e2,Array.append_assoc]⟩
 ·obtain⟨m,hn,hl⟩:=I.loc
  refine⟨m,ns m hn,fun i x v e1 e2 e3=>?_⟩
  obtain⟨u,r,l⟩:=hl i x v e1 e2 e3
  refine⟨u,r,?_⟩
  rcases l with l | ⟨k,c,e,z⟩
  ·exact .inl l
  ·exact .inr ⟨k,c,e,cellK x c e _ z⟩
 ·obtain⟨v,z⟩:=I.cell x c e
  exact⟨v,cellK x c e v z⟩
 ·obtain⟨m,⟨o,_,_,ho,_⟩,_⟩:=I.loc
  exact free _ o (fun z=>(hch _ z).2.1 rfl) ho I.free
 ·obtain⟨v,o,ho,hd⟩:=I.cell x c e
  exact free c o (fun z=>(hch c z).2.2.1 x c e rfl) ho (I.tQ x c e)
 ·obtain⟨e,n,ne,nf,d⟩:=I.pin p hp
  have YO:p.1∉ch:=fun z=>(hch p.1 z).2.2.2 p hp rfl
  exact⟨keep p.1 p.2 ne nf YO e n,free p.1 p.2 YO e n,ne,nf,d⟩
theorem Inv.un {t':Nat} (I:Inv X pins σ H s) (u:Un X.fs [] H H' s.heap h') (hok:z0 X.prog X.w H' h'):Inv X pins σ H' { s with heap:=h',toks:=t' }:=by
 obtain⟨m,⟨o,es,ep,ho,r⟩,_⟩:=id I.loc
 obtain⟨sl,hL⟩:=u.any ho I.free (by simp)
 exact I.step (g':=s.gens) (d':=s.drawn) (ch:=[]) (fun _ z=>nomatch z) (fun b o _ hb _ e n=>u.keep b o e n hb (by simp)) (fun b o _ hb _ e n=>u.slot b o e n hb (by simp)) (fun b o _ e n=>u.free b o e n (by simp)) (fun b o _ e=>u.there b o e (by simp)) u.tups u.DU u.Fz (fun m' hm=>by
  obtain⟨o',es',ep',ho',r'⟩:=hm
  rw[ho] at ho';cases ho'
  exact⟨_,es',ep',hL,r'⟩) hok I.bare
theorem Inv.call {g':Array GenState}{t':Nat}{d':Drawn}{ch:List Addr} (I:Inv X pins σ H s) (u:Un (frs X.stack) ch H H' s.heap h') (hok:z0 X.prog X.w H' h') (hg:AllBare g')
  (hch:∀ b∈ch,(b∈X.ex∨X.s₀.heap.objs.size≤b)∧b≠X.env.locals∧(∀ x c,X.env.cells.lookup x=some c→c≠b)∧∀ p∈X.pn++pins,p.1≠b) :
  Inv X pins σ H' { s with heap:=h',gens:=g',drawn:=d',toks:=t' }:=by
 obtain⟨m,⟨o,es,ep,ho,r⟩,_⟩:=id I.loc
 obtain⟨sl,hL⟩:=u.any ho I.free fun z=>(hch _ z).2.1 rfl
 exact I.step (ch:=ch) hch (fun b o hL hb hc e n=>u.keep b o e n (fun z=>(List.mem_cons.mp (I.DW b z)).elim hL hb) hc) (fun b o _ _ hc e n=>u.any e n hc) (fun b o hc e n=>u.free b o e n hc) (fun b o hc e=>u.there b o e hc) u.tups u.DU u.Fz (fun m' hm=>by
  obtain⟨o',es',ep',ho',r'⟩:=hm
  rw[ho] at ho';cases ho'
  exact⟨_,es',ep',hL,r'⟩) hok hg
theorem Inv.turned {t':Nat}{it:Addr} (I:Inv X pins σ H s) (k:∀ b o,b≠it→s.heap.get? b=some o→h'.get? b=some o) (hn:H it=none) (hL:it≠X.env.locals)
  (h1:it∈X.ex∨X.s₀.heap.objs.size≤it) (h2:∀ x c,X.env.cells.lookup x=some c→c≠it) (h3:∀ p∈X.pn++pins,p.1≠it):Inv X pins σ H { s with heap:=h',toks:=t' }:=by
 have YQ:∀ b u,H b=some u→b≠it:=fun b u e z=>by rw[z,hn] at e;cases e
 refine I.step (g':=s.gens) (d':=s.drawn) (ch:=[it]) (fun b hb=>?_) (fun b o _ _ hc e _=>k b o (fun z=>hc (by simp[z])) e) (fun b o _ _ hc e _=>⟨o.slots,k b o (fun z=>hc (by simp[z])) e⟩) (fun _ _ _ _ n=>n)
  (fun b o hc e=>⟨o,k b o (fun z=>hc (by simp[z])) e⟩) (fun _ _ e=>e) (fun _ _ _ e=>e) (fun b ps e=>⟨#[],by rw[e];simp⟩) (fun m hm=>?_) (fun b u e=>?_) I.bare
 ·have e:b=it:=by simpa using hb
  subst e
  exact⟨h1,hL,h2,h3⟩
 ·obtain⟨o,es,ep,ho,r⟩:=hm
  exact⟨o,es,ep,k _ o (Ne.symm hL) ho,r⟩
 ·refine(I.hok b u e).stay (fun c v hc q=>k c v ?_ q) (fun _ q=>q) fun _ _ q=>q
  rcases hc with z | z
  ·rw[z];exact YQ b u e
  ·exact YQ c _ z
theorem Inv.tok (I:Inv X pins σ H s) (t:Nat):Inv X pins σ H { s with toks:=t }:=I.un (h':=s.heap) (t':=t) Un.refl I.hok
theorem Inv.kept {t':Nat} (I:Inv X pins σ H s) (k:∀ b u,s.heap.get? b=some u→h'.get? b=some u):Inv X pins σ H { s with heap:=h',toks:=t' }:=I.un (Un.kept k) (I.hok.kept k)
theorem Inv.laid {a:Addr}{o:HO}{t':Nat} (I:Inv X pins σ H s) (k:∀ b u,s.heap.get? b=some u→h'.get? b=some u) (hp:s.heap.objs.size≤a) (new:dS X.prog X.w (upd H a o) h' a o) :
 Inv X pins σ (upd H a o) { s with heap:=h',toks:=t' }:=I.un (Un.laid k hp (I.hok.fresh hp)) (I.hok.laid k hp new)
theorem Inv.write {x e:Addr}{o:HO}{t':Nat} (I:Inv X pins σ H s) (mu:Mut (H x)) (he:e=x∨H e=some (.own x)) (k:∀ b u,b≠e→s.heap.get? b=some u→h'.get? b=some u) (X4:∃ u,h'.get? e=some u)
 (new:dS X.prog X.w (upd H x o) h' x o):Inv X pins σ (upd H x o) { s with heap:=h',toks:=t' }:=I.un (Un.write mu he k X4) (I.hok.write mu he k X4 new)
theorem Inv.K1 {TL:List (Addr×Obj)} (I:Inv X pins σ H s) (h:∀ p∈TL,s.heap.get? p.1=some p.2∧H p.1=none∧p.1≠X.env.locals∧p.1∉X.fs∧∀ v,p.2.data≠.cell v):Inv X TL σ H s :=
 ⟨I.ok,I.os,I.bare,I.base,I.loc,I.cell,I.free,I.tQ,fun p hp=>(List.mem_append.mp hp).elim (fun z=>I.pin p (List.mem_append_left _ z)) (h p),I.hok,I.len⟩
theorem FA {N:List Str} (hN:N.Nodup) {i j:Nat}{x:Str} (a:N[i]? = some x) (b:N[j]? = some x):i=j:=by
 obtain⟨h1,e1⟩:=List.getElem?_eq_some_iff.mp a
 obtain⟨h2,e2⟩:=List.getElem?_eq_some_iff.mp b
 exact(List.getElem_inj hN).mp (e1.trans e2.symm)
theorem CU {M:Model}{A:Around}{E:Value→Shared→Prop}{i:Nat}{x:Str}{v:V}{u:Value}{Q:Unit→Shared→Prop} (I:Inv X pins σ H s) (hN:X.N.Nodup) (hi:X.N[i]? = some x) (hx:Loc X.env.scope x) (r:RelV v u)
  (h:∀ s',Inv X pins (σ.set i (some v)) H s'→(∃ a,Heap.SameBut a s.heap s'.heap∧(a=X.env.locals∨X.env.cells.lookup x=some a))→Q () s') (hf:X.fn x=true∨X.env.scope.names.lookup x=some .local:=by first | exact .inl rfl | exact .inr rfl | assumption):wpAny M A (storeName X.env x u) Q E s:=by
 obtain⟨m,hn,hl⟩:=id I.loc
 have hcls:(X.env.scope.kind == .class || (X.env.scope.kind == .module && X.env.locals != X.env.globals))=false:=by rw[I.ok.kind];rfl
 have YR:i < σ.length:=by rw[I.len];exact(List.getElem?_eq_some_iff.mp hi).1
 have UH:=I.UH
 have tracked:∀{a:Addr}{h':Heap},(∃ o,s.heap.get? a=some o∧H a=none)→Heap.SameBut a s.heap h'→z0 X.prog X.w H h':=fun {a h'} ha hs b ob e=>by
  obtain⟨_,_,hfree⟩:=ha
  refine(I.hok b ob e).stay (fun c w' hc q=>(hs.2 c ?_).trans q) (fun _ q=>q) fun _ _ q=>q
  rintro rfl
  rcases hc with rfl | hc
  ·rw[hfree] at e;cases e
  ·rw[hfree] at hc;cases hc
 rcases hx with hk | hk
 ·refine wpAny_storeName_local hk hn (fun h' hn' hs=>?_) hcls
  obtain⟨oL,_,_,hoL,_⟩:=id hn
  refine h _ ⟨I.ok,I.os,I.bare,⟨fun b o e n hb hx=>?_,fun b o e n hb hx=>?_,I.base.free,fun b o e hx=>?_,I.base.tups,I.base.DU,I.base.Fz⟩,⟨_,hn',fun j y v' e1 e2 e3=>?_⟩,fun y c e=>?_,I.free,I.tQ,fun p hp=>?_,tracked ⟨oL,hoL,I.free⟩ hs,by simpa using I.len⟩ ⟨_,hs,.inl rfl⟩
  ·exact(hs.2 b (Nat.ne_of_lt (Nat.lt_of_lt_of_le (Heap.lt_size e) I.ok.above))).trans (I.base.keep b o e n hb hx)
  ·obtain⟨sl,e1⟩:=I.base.slot b o e n hb hx
   exact⟨sl,(hs.2 b (Nat.ne_of_lt (Nat.lt_of_lt_of_le (Heap.lt_size e) I.ok.above))).trans e1⟩
  ·obtain⟨o',e1⟩:=I.base.there b o e hx
   exact⟨o',(hs.2 b (Nat.ne_of_lt (Nat.lt_of_lt_of_le (Heap.lt_size e) I.ok.above))).trans e1⟩
  ·by_cases hj:j=i
   ·subst hj
    rw[hi] at e1;cases e1
    rw[List.getElem?_set_self YR] at e2
    cases e2
    exact⟨u,r,.inl ⟨hk,by simp⟩⟩
   ·rw[List.getElem?_set_ne (Ne.symm hj)] at e2
    obtain⟨u',r',q⟩:=hl j y v' e1 e2 e3
    refine⟨u',r',?_⟩
    rcases q with ⟨k,e⟩ | ⟨k,c,e,z⟩
    ·refine .inl ⟨k,?_⟩
     have:y≠x:=fun e=>hj (FA hN e1 (e ▸ hi))
     simp[this,e]
    ·exact .inr ⟨k,c,e,z.sameBut hs (UH y c e)⟩
  ·obtain⟨w',z⟩:=I.cell y c e
   exact⟨w',z.sameBut hs (UH y c e)⟩
  ·obtain⟨e,n,ne,nf,d⟩:=I.pin p hp
   exact⟨(hs.2 p.1 ne).trans e,n,ne,nf,d⟩
 ·have hfn:X.fn x=true:=by
   rcases hf with z | z
   ·exact z
   ·rw[z] at hk;cases hk
  obtain⟨c,hc⟩:=I.ok.has x (.inl hk)
  obtain⟨w',z⟩:=I.cell x c hc
  refine wpAny_storeName_cell I.ok.kind hk hc z (fun h' hc' hs=>?_)
  obtain⟨oc,hoc,afG⟩:=id z
  refine h { s with heap:=h' } ⟨I.ok,I.os,I.bare,⟨fun b o e n hb hx=>?_,fun b o e n hb hx=>?_,I.base.free,fun b o e hx=>?_,I.base.tups,I.base.DU,I.base.Fz⟩,⟨m,hn.sameBut hs (Ne.symm (UH x c hc)),fun j y v' e1 e2 e3=>?_⟩,fun y c' e=>?_,I.free,I.tQ,fun p hp=>?_,tracked ⟨oc,hoc,I.tQ x c hc⟩ hs,by simpa using I.len⟩ ⟨c,hs,.inr hc⟩
  ·exact(hs.2 b (Nat.ne_of_lt (Nat.lt_of_lt_of_le (Heap.lt_size e) (I.ok.YN x c hfn hc)))).trans (I.base.keep b o e n hb hx)
  ·obtain⟨sl,e1⟩:=I.base.slot b o e n hb hx
   exact⟨sl,(hs.2 b (Nat.ne_of_lt (Nat.lt_of_lt_of_le (Heap.lt_size e) (I.ok.YN x c hfn hc)))).trans e1⟩
  ·obtain⟨o',e1⟩:=I.base.there b o e hx
   exact⟨o',(hs.2 b (Nat.ne_of_lt (Nat.lt_of_lt_of_le (Heap.lt_size e) (I.ok.YN x c hfn hc)))).trans e1⟩
  ·by_cases hj:j=i
   ·subst hj
    rw[hi] at e1;cases e1
    rw[List.getElem?_set_self YR] at e2
    cases e2
    exact⟨u,r,.inr ⟨.inl hk,c,hc,hc'⟩⟩
   ·rw[List.getElem?_set_ne (Ne.symm hj)] at e2
    obtain⟨u',r',q⟩:=hl j y v' e1 e2 e3
    refine⟨u',r',?_⟩
    rcases q with q | ⟨k,c',e,z'⟩
    ·exact .inl q
    ·refine .inr ⟨k,c',e,z'.sameBut hs ?_⟩
     rintro rfl
     exact hj (FA hN e1 (I.ok.inj _ _ _ e hc ▸ hi))
  ·by_cases hcc:c'=c
   ·subst hcc;exact⟨_,hc'⟩
   ·obtain⟨w2,z2⟩:=I.cell y c' e
    exact⟨w2,z2.sameBut hs hcc⟩
  ·obtain⟨e,n,ne,nf,d⟩:=I.pin p hp
   refine⟨(hs.2 p.1 ?_).trans e,n,ne,nf,d⟩
   intro q
   rw[q,hoc] at e
   have q':oc=p.2:=Option.some.inj e
   exact d w' (by rw[←q'];exact afG)
theorem FD {M:Model}{A:Around}{E:Value→Shared→Prop}{i:Nat}{x:Str}{v:V}{u:Value}{Q:Unit→Shared→Prop} (I:Inv X pins σ H s) (hN:X.N.Nodup) (hi:X.N[i]? = some x) (hx:Loc X.env.scope x) (r:RelV v u)
  (h:∀ s',Inv X pins (σ.set i (some v)) H s'→Q () s') (hf:X.fn x=true∨X.env.scope.names.lookup x=some .local:=by first | exact .inl rfl | exact .inr rfl | assumption):wpAny M A (storeName X.env x u) Q E s :=
 CU I hN hi hx r (fun s' I' _=>h s' I') hf
theorem Inv.YS {s':Shared}{ch:List Addr} (I:Inv X pins σ H s) (ho:s'.os=s.os) (u:Un (frs X.stack) ch H H' s.heap s'.heap) (hok:z0 X.prog X.w H' s'.heap) (hg:AllBare s'.gens)
  (hch:∀ b∈ch,(b∈X.ex∨X.s₀.heap.objs.size≤b)∧b≠X.env.locals∧(∀ x c,X.env.cells.lookup x=some c→c≠b)∧∀ p∈X.pn++pins,p.1≠b):Inv X pins σ H' s':=by
 obtain⟨h',g',d',t',o'⟩:=s'
 have e:o'=s.os:=ho
 subst e
 exact I.call (g':=g') (t':=t') (d':=d') u hok hg hch
end
abbrev XK:=Value→Option Addr→Hp→Prop
abbrev St:=List (Option V)
abbrev VK:=V→Hp→Prop
abbrev TE:=St→Hp→VK→Prop
abbrev TT:=St→Hp→(Bool→Hp→Prop)→Prop
abbrev TA:=St→Hp→(List V→Hp→Prop)→Prop
structure Ends where
 nx:St→Hp→Prop
 rt:VK
 bk:St→Hp→Prop:=fun _ _=>False
 ct:St→Hp→Prop:=fun _ _=>False
abbrev TS:=Ends→St→Hp→Prop
def EP (X:Cx) (pins:List (Addr×Obj)) (σ:St) (Q:VK) (u:Value) (s':Shared):Prop:=∃ v H',Inv X pins σ H' s'∧RelV v u∧Q v H'
def TP (X:Cx) (pins:List (Addr×Obj)) (σ:St) (Q:Bool→Hp→Prop) (b:Bool) (s':Shared):Prop:=∃ H',Inv X pins σ H' s'∧Q b H'
def AP (X:Cx) (pins:List (Addr×Obj)) (σ:St) (Q:List V→Hp→Prop) (us:List Value) (s':Shared):Prop:=∃ vs H',Inv X pins σ H' s'∧Vals vs us∧Q vs H'
def SP (X:Cx) (pins:List (Addr×Obj)) (D:Ends) (f:Flow) (s':Shared):Prop :=
 match f with
 | .next=>∃ σ' H',Inv X pins σ' H' s'∧D.nx σ' H'
 | .brk=>∃ σ' H',Inv X pins σ' H' s'∧D.bk σ' H'
 | .cont=>∃ σ' H',Inv X pins σ' H' s'∧D.ct σ' H'
 | .ret u=>∃ v σ' H',Inv X pins σ' H' s'∧RelV v u∧D.rt v H'
def PE (X:Cx) (e:Expr) (t:TE):Prop :=
 ∀(pins:List (Addr×Obj)) (s:Shared) (σ:St) (H:Hp) (Q:VK),Inv X pins σ H s→t σ H Q→wpAny (model X.prog X.w) X.A (eval e X.env) (EP X pins σ Q) X.xe s
def PT (X:Cx) (e:Expr) (t:TT):Prop :=
 ∀(pins:List (Addr×Obj)) (s:Shared) (σ:St) (H:Hp) (Q:Bool→Hp→Prop),Inv X pins σ H s→t σ H Q→wpAny (model X.prog X.w) X.A (isTrue e X.env (eval e X.env)) (TP X pins σ Q) X.xe s
def PW (X:Cx) (e:Expr) (t:TT):Prop :=
 ∀(whole:Sem Value) (pins:List (Addr×Obj)) (s:Shared) (σ:St) (H:Hp) (Q:Bool→Hp→Prop),Inv X pins σ H s→t σ H Q→wpAny (model X.prog X.w) X.A (isTrue e X.env whole) (TP X pins σ Q) X.xe s
theorem PW.pt {X:Cx}{e:Expr}{t:TT} (h:PW X e t):PT X e t:=h _
def PA (X:Cx) (es:List Expr) (t:TA):Prop :=
 ∀(pos:Pos) (pins:List (Addr×Obj)) (s:Shared) (σ:St) (H:Hp) (Q:List V→Hp→Prop),Inv X pins σ H s→t σ H Q→wpAny (model X.prog X.w) X.A (spliced (backTo pos (starEach es X.env))) (AP X pins σ Q) X.xe s
def PS (X:Cx) (st:Stmt) (t:TS):Prop :=
 ∀(pins:List (Addr×Obj)) (s:Shared) (σ:St) (H:Hp) (D:Ends),Inv X pins σ H s→t D σ H→wpAny (model X.prog X.w) X.A (exec st X.env) (SP X pins D) X.xe s
def K2 (X:Cx) (st:List Stmt) (t:TS):Prop :=
 ∀(pins:List (Addr×Obj)) (s:Shared) (σ:St) (H:Hp) (D:Ends),Inv X pins σ H s→t D σ H→wpAny (model X.prog X.w) X.A (execs st X.env) (SP X pins D) X.xe s
theorem dj {α:Type}{t:Sem α}{Q Q':α→Shared→Prop}{M:Model}{A:Around}{E:Value→Shared→Prop}{s:Shared} (h:wpAny M A t Q E s) (hQ:∀ a s,Q a s→Q' a s):wpAny M A t Q' E s:=wpAny_mono h hQ fun _ _ x=>x
section
variable {X:Cx}
def YT (i:Nat):TE:=fun σ H Q=>∃ v,σ[i]? = some (some v)∧Q v H
def tC (v:V):TE:=fun _ H Q=>Q v H
theorem UI {i:Nat}{x:Str}{pos:Pos} (hN:X.N[i]? = some x) (hv:Vis X.env.scope x) (hd:(x == ("__debug__" : Str))=false:=by decide) (hcd:(x == ("__classdict__" : Str))=false:=by decide):PE X (.Name x pos) (YT i):=by
 intro pins s σ H Q I h
 obtain⟨v,e,h⟩:=h
 obtain⟨m,hn,hl⟩:=I.loc
 obtain⟨u,r,l⟩:=hl i x v hN e hv
 have fin:EP X pins σ Q u s:=⟨v,H,I,r,h⟩
 rcases l with ⟨hk,hm⟩ | ⟨hk,c,hc,hcell⟩
 ·exact wpAny_Name (wpAny_loadName_local I.ok.kind hk hn hm fin) hd
 ·rcases hk with hk | hk
  ·exact wpAny_Name (wpAny_loadName_cell I.ok.kind hk hc hcell fin) hd
  ·exact wpAny_Name (wpAny_loadName_free I.ok.kind hk hc hcell fin hcd) hd
theorem ao {i j pos}:PE X (.Constant (.int i) j pos) (tC (.int i)):=fun _ _ _ H _ I h=>wpAny_Constant_int ⟨.int i,H,I.tok _,⟨_,rfl⟩,h⟩
theorem dU {b j pos}:PE X (.Constant (.bool b) j pos) (tC (.bl b)):=fun _ _ _ H _ I h=>Constant_bool ⟨.bl b,H,I,rfl,h⟩
theorem bT {j pos}:PE X (.Constant .none j pos) (tC .non):=fun _ _ _ H _ I h=>Constant_none ⟨.non,H,I,rfl,h⟩
theorem az {x j pos}:PE X (.Constant (.str x) j pos) (tC (.str x)):=fun _ _ _ H _ I h=>Calls.Constant_str ⟨.str x,H,I.tok _,⟨_,rfl⟩,h⟩
def Gl (X:Cx) (x:Str):Prop:=X.env.kindOf x=some .globalImplicit
theorem DX {E:Value→Shared→Prop}{pins:List (Addr×Obj)}{s:Shared}{σ:St}{H:Hp}{x:Str}{u:Value}{pos:Pos}{Q:Value→Shared→Prop} (I:Inv X pins σ H s) (hg:Gl X x) (hm:X.mg x=some u) (h:Q u s)
  (hd:(x == ("__debug__" : Str))=false:=by decide):wpAny (model X.prog X.w) X.A (eval (.Name x pos) X.env) Q E s :=
 Calls.Name_function_global I.ok.kind hg (Calls.loadGlobal_global (by rw[I.ok.glob];exact I.mod.glob.keeps I.bk) hm h) hd
theorem nT {E:Value→Shared→Prop}{pins:List (Addr×Obj)}{s:Shared}{σ:St}{H:Hp}{x:Str}{u:Value}{pos:Pos}{Q:Value→Shared→Prop} (I:Inv X pins σ H s) (hg:Gl X x) (hm:X.mg x=none) (hv:bootBuiltins x=some u) (h:Q u s)
  (hn:x ≠ "__name__" := by decide) (hd:(x == ("__debug__" : Str))=false:=by decide):wpAny (model X.prog X.w) X.A (eval (.Name x pos) X.env) Q E s:=by
 obtain⟨mb,h1,h2⟩:=I.mod.blt
 exact Calls.Name_function_global I.ok.kind hg (Calls.loadGlobal_builtin (by rw[I.ok.glob];exact I.mod.glob.keeps I.bk) hm (by rw[I.ok.blt];exact h1.keeps I.bk) ((h2 x hn).trans hv) h) hd
theorem DY {x:Str}{v:V}{u:Value}{pos:Pos} (hg:Gl X x) (hm:X.mg x=some u) (r:RelV v u) (hd:(x == ("__debug__" : Str))=false:=by decide):PE X (.Name x pos) (tC v) :=
 fun _ _ _ H _ I h=>DX I hg hm ⟨v,H,I,r,h⟩ hd
theorem Rj {x:Str}{v:V}{u:Value}{pos:Pos} (hg:Gl X x) (hm:X.mg x=none) (hv:bootBuiltins x=some u) (r:RelV v u) (hn:x ≠ "__name__" := by decide) (hd:(x == ("__debug__" : Str))=false:=by decide):PE X (.Name x pos) (tC v) :=
 fun _ _ _ H _ I h=>nT I hg hm hv ⟨v,H,I,r,h⟩ hn hd
variable {a b:Expr}{ta tb:TE}{pos:Pos}
def PC (X:Cx) (op:CmpOp) (a b:Expr) (t:TE):Prop :=
 ∀(pins:List (Addr×Obj)) (s:Shared) (σ:St) (H:Hp) (Q:VK),Inv X pins σ H s→t σ H Q →
  wpAny (model X.prog X.w) X.A (eval a X.env) (fun v s₁=>wpAny (model X.prog X.w) X.A (eval b X.env) (fun u s₂=>wpAny (model X.prog X.w) X.A (compareOp op v u) (EP X pins σ Q) X.xe s₂) X.xe s₁) X.xe s
theorem FE (b:Expr) {op:CmpOp} (h:op≠.In) (h2:op≠.NotIn):behindInMarks op b=false:=by
 have e1:(op == CmpOp.In)=false:=by cases op <;> first | rfl | exact absurd rfl h
 have e2:(op == CmpOp.NotIn)=false:=by cases op <;> first | rfl | exact absurd rfl h2
 cases b <;> simp[behindInMarks,e1,e2]
def tB (t:TE):TT:=fun σ H Q=>t σ H fun x H1=>∃ c,x=.bl c∧Q c H1
theorem UJ {op:CmpOp}{t:TE} (h:PC X op a b t) (h1:behindInMarks op b=false:=by first | exact FE _ (by decide) (by decide) | rfl):PE X (.Compare a [op] [b] pos) t:=fun pins s σ H Q I hw=>wpAny_Compare1 (h pins s σ H Q I hw) h1
theorem N7 {op:CmpOp}{t:TE} (h:PC X op a b t) (h1:behindInMarks op b=false:=by first | exact FE _ (by decide) (by decide) | rfl):PT X (.Compare a [op] [b] pos) (tB t):=by
 intro pins s σ H Q I hw
 refine wpAny_isTrue_Compare1 (dj (h pins s σ H _ I hw) fun v s1 h1=>dj h1 fun u s2 h2=>dj h2 fun c s3 ⟨x,H1,I1,r1,q1⟩=>?_) h1
 obtain⟨d,rfl,q⟩:=q1
 cases r1
 exact wpAny_truthy_bool ⟨H1,I1,q⟩
theorem br {e:Expr}{t:TE} (h:PE X e t) (he:∀ whole,isTrue e X.env whole=(do let v ←whole;standAt e.pos;holding [v] (truthy v)):=by intro _;rfl):PT X e (tB t):=by
 intro pins s σ H Q I hw
 refine isTrue_plain (dj (h pins s σ H _ I hw) fun v s1 ⟨x,H1,I1,r1,q1⟩=>?_) (he _)
 obtain⟨d,rfl,q⟩:=q1
 cases r1
 exact wpAny_truthy_bool ⟨H1,I1,q⟩
variable {tA tB':TT}{rest:List Expr}
def afH (t u:TT):TT:=fun σ H Q=>t σ H fun c H1=>if c=true then u σ H1 Q else Q false H1
def tOr (t u:TT):TT:=fun σ H Q=>t σ H fun c H1=>if c=true then Q true H1 else u σ H1 Q
def afI (t:TT):TT:=fun σ H Q=>t σ H fun c H1=>Q (!c) H1
theorem iN (ha:PT X a tA):PW X (.BoolOp .And [a] pos) tA:=by
 intro wh pins s σ H Q I h
 refine isTrue_and (dj (ha pins s σ H Q I h) fun c s1 e=>?_)
 cases c with
 | true=>exact isTrue_and_nil e
 | false=>exact e
theorem fm (ha:PT X a tA):PW X (.BoolOp .Or [a] pos) tA:=by
 intro wh pins s σ H Q I h
 refine isTrue_or (dj (ha pins s σ H Q I h) fun c s1 e=>?_)
 cases c with
 | false=>exact isTrue_or_nil e
 | true=>exact e
theorem kE (ha:PT X a tA) (hb:PW X (.BoolOp .And (b :: rest) pos) tB'):PW X (.BoolOp .And (a :: b :: rest) pos) (afH tA tB'):=by
 intro wh pins s σ H Q I h
 refine isTrue_and (dj (ha pins s σ H _ I h) fun c s1 ⟨H1,I1,q1⟩=>?_)
 cases c with
 | true=>exact hb wh pins s1 σ H1 Q I1 q1
 | false=>exact⟨H1,I1,q1⟩
theorem gP (ha:PT X a tA) (hb:PW X (.BoolOp .Or (b :: rest) pos) tB'):PW X (.BoolOp .Or (a :: b :: rest) pos) (tOr tA tB'):=by
 intro wh pins s σ H Q I h
 refine isTrue_or (dj (ha pins s σ H _ I h) fun c s1 ⟨H1,I1,q1⟩=>?_)
 cases c with
 | true=>exact⟨H1,I1,q1⟩
 | false=>exact hb wh pins s1 σ H1 Q I1 q1
theorem bF (ha:PT X a tA):PT X (.UnaryOp .Not a pos) (afI tA):=by
 intro pins s σ H Q I h
 exact isTrue_not (ha pins s σ H (fun c H1=>Q (!c) H1) I h)
def YU (ta tb:TE):TE:=fun σ H Q=>ta σ H fun x H1=>∃ c,x=.bl c∧if c=true then tb σ H1 Q else Q (.bl false) H1
def afJ (ta tb:TE):TE:=fun σ H Q=>ta σ H fun x H1=>∃ c,x=.bl c∧if c=true then Q (.bl true) H1 else tb σ H1 Q
def YV (ta:TE):TE:=fun σ H Q=>ta σ H fun x H1=>∃ c,x=.bl c∧Q (.bl (!c)) H1
theorem nU {op}{t:TE} (h:PE X a t):PE X (.BoolOp op [a] pos) t:=fun pins s σ H Q I hw=>BoolOp_one (h pins s σ H Q I hw)
theorem uy (ha:PE X a ta) (hb:PE X (.BoolOp .And (b :: rest) pos) tb):PE X (.BoolOp .And (a :: b :: rest) pos) (YU ta tb):=by
 intro pins s σ H Q I h
 refine BoolOp_and (dj (ha pins s σ H _ I h) fun v s1 ⟨x,H1,I1,r1,q1⟩=>?_)
 obtain⟨c,rfl,q1⟩:=q1
 cases r1
 refine wpAny_truthy_bool ?_
 cases c with
 | true=>exact hb pins s1 σ H1 Q I1 q1
 | false=>exact⟨.bl false,H1,I1,rfl,q1⟩
theorem K3 (ha:PE X a ta) (hb:PE X (.BoolOp .Or (b :: rest) pos) tb):PE X (.BoolOp .Or (a :: b :: rest) pos) (afJ ta tb):=by
 intro pins s σ H Q I h
 refine BoolOp_or (dj (ha pins s σ H _ I h) fun v s1 ⟨x,H1,I1,r1,q1⟩=>?_)
 obtain⟨c,rfl,q1⟩:=q1
 cases r1
 refine wpAny_truthy_bool ?_
 cases c with
 | false=>exact hb pins s1 σ H1 Q I1 q1
 | true=>exact⟨.bl true,H1,I1,rfl,q1⟩
theorem Ir (ha:PE X a ta):PE X (.UnaryOp .Not a pos) (YV ta):=by
 intro pins s σ H Q I h
 refine UnaryOp_ (dj (ha pins s σ H _ I h) fun v s1 ⟨x,H1,I1,r1,q1⟩=>?_)
 obtain⟨c,rfl,q1⟩:=q1
 cases r1
 exact not_of (wpAny_truthy_bool ⟨.bl (!c),H1,I1,rfl,q1⟩)
def tIf (t:TT) (ta tb:TE):TE:=fun σ H Q=>t σ H fun c H1=>if c=true then ta σ H1 Q else tb σ H1 Q
theorem oA {c:Expr} (hc:PT X c tA) (ha:PE X a ta) (hb:PE X b tb):PE X (.IfExp c a b pos) (tIf tA ta tb):=by
 intro pins s σ H Q I h
 refine wpAny_IfExp (dj (hc pins s σ H _ I h) fun d s1 ⟨H1,I1,q1⟩=>?_)
 cases d with
 | true=>exact ha pins s1 σ H1 Q I1 q1
 | false=>exact hb pins s1 σ H1 Q I1 q1
end
def aU (K:W.Frag) (H:Hp) (a:Addr) (xs:List V):Prop :=
 Rd H a (.lst xs) ∨
  ∃(o:Obj) (its:Array Value) (n:Nat),K.lookup a=some o∧o.cls=.type "list"∧o.dict=none∧o.data=.seq its n∧its.size≤sizeLine∧Vals xs its.toList
def aV (K:W.Frag) (H:Hp) (a:Addr) (xs:List V):Prop :=
 Rd H a (.tup xs) ∨
  ∃(o:Obj) (its:Array Value) (n:Nat),K.lookup a=some o∧o.cls=.type "tuple"∧o.data=.seq its n∧its.size≤sizeLine∧Vals xs its.toList
def afK:Value→Option V
 | .none=>some .non
 | .bool b=>some (.bl b)
 | .int i _=>some (.int i)
 | .str x _=>some (.str x)
 | .bytes b _=>some (.NP b)
 | .float b _=>some (.pL b)
 | .ref a=>some (.ref a)
 | .type n=>some (.ty n)
 | _=>none
theorem RelV.abs {x:V}{u:Value} (r:RelV x u):afK u=some x:=by
 cases x with
 | non=>cases r;rfl
 | bl _=>cases r;rfl
 | int _=>obtain⟨t,rfl⟩:=r;rfl
 | str _=>obtain⟨t,rfl⟩:=r;rfl
 | NP _=>obtain⟨t,rfl⟩:=r;rfl
 | pL _=>obtain⟨t,rfl⟩:=r;rfl
 | ref _=>cases r;rfl
 | ty _=>cases r;rfl
theorem RelV.inj {x y:V}{u:Value} (r:RelV x u) (q:RelV y u):x=y:=Option.some.inj (r.abs.symm.trans q.abs)
theorem Vals.inj:∀{xs ys:List V}{us:List Value},Vals xs us→Vals ys us→xs=ys
 | _,_,_,.nil,.nil=>rfl
 | _,_,_,.cons r t,.cons r' t'=>by rw[r.inj r',Vals.inj t t']
section
variable {X:Cx}{pins:List (Addr×Obj)}{σ:St}{H:Hp}{s:Shared}{a:Addr}{xs ys:List V}
theorem aU.of {K:W.Frag} (h:H a=some (.lst xs)):aU K H a xs:=.inl (.inl h)
theorem aV.of {K:W.Frag} (h:H a=some (.tup xs)):aV K H a xs:=.inl (.inl h)
theorem Inv.list (I:Inv X pins σ H s) (h:aU X.K H a xs):∃ its:List Value,Vals xs its∧PlainL s.heap a its.toArray∧xs.length≤sizeLine:=by
 rcases h with h | ⟨o,its,n,hk,hc,hd,hs,hz,r⟩
 ·obtain⟨z,its,n,r,e⟩:=h.ok I.hok
  exact⟨its,r,⟨_,n,e,rfl,rfl,rfl⟩,z⟩
 ·refine⟨its.toList,r,⟨o,n,I.vj a o hk,hc,hd,by simpa using hs⟩,?_⟩
  have e:=r.length
  simp only[Array.length_toList] at e
  omega
theorem Inv.tuple (I:Inv X pins σ H s) (h:aV X.K H a xs):∃ its:List Value,Vals xs its∧IsTup s.heap a its.toArray∧xs.length≤sizeLine:=by
 rcases h with h | ⟨o,its,n,hk,hc,hs,hz,r⟩
 ·obtain⟨z,its,r,p⟩:=h.ok I.hok
  exact⟨its,r,p,z⟩
 ·refine⟨its.toList,r,⟨o,I.vj a o hk,hc,n,by simpa using hs⟩,?_⟩
  have e:=r.length
  simp only[Array.length_toList] at e
  omega
theorem Inv.vm (I:Inv X pins σ H s) (h:aU X.K H a xs) (h':aU X.K H a ys):xs=ys:=by
 obtain⟨its,r,⟨o,n,e,_,_,d⟩,_⟩:=I.list h
 obtain⟨its',r',⟨o',n',e',_,_,d'⟩,_⟩:=I.list h'
 rw[e] at e';cases e'
 rw[d] at d'
 injection d' with d1 _
 have:its=its':=by simpa using congrArg Array.toList d1
 subst this
 exact r.inj r'
theorem Inv.xo (I:Inv X pins σ H s) (h:aV X.K H a xs) (h':aV X.K H a ys):xs=ys:=by
 obtain⟨its,r,⟨o,e,_,n,d⟩,_⟩:=I.tuple h
 obtain⟨its',r',⟨o',e',_,n',d'⟩,_⟩:=I.tuple h'
 rw[e] at e';cases e'
 rw[d] at d'
 injection d' with d1 _
 have:its=its':=by simpa using congrArg Array.toList d1
 subst this
 exact r.inj r'
end
abbrev Cx.BV (X:Cx) (E:Value→Shared→Prop):Cx:={ X with xe:=E }
abbrev Cx.X5 (X:Cx):Cx:=X.BV fun _ _=>False
theorem Cx.Ok.BV {X:Cx} (ok:X.Ok) (E:Value→Shared→Prop):(X.BV E).Ok :=
 ⟨ok.mod,ok.kind,ok.glob,ok.blt,ok.above,ok.inj,ok.has,ok.YN,ok.hd,ok.frames,ok.stk,ok.exf,ok.bs,ok.Rh,ok.N6,ok.Ri,ok.zc,ok.UG⟩
theorem Cx.Ok.qO {X:Cx}{E:Value→Shared→Prop} (ok:(X.BV E).Ok):X.Ok :=
 ⟨ok.mod,ok.kind,ok.glob,ok.blt,ok.above,ok.inj,ok.has,ok.YN,ok.hd,ok.frames,ok.stk,ok.exf,ok.bs,ok.Rh,ok.N6,ok.Ri,ok.zc,ok.UG⟩
section
variable {X:Cx}{pins:List (Addr×Obj)}{σ:St}{H:Hp}{s:Shared}{E:Value→Shared→Prop}
theorem Inv.BV (I:Inv X pins σ H s) (E:Value→Shared→Prop):Inv (X.BV E) pins σ H s:=⟨I.ok.BV E,I.os,I.bare,I.base,I.loc,I.cell,I.free,I.tQ,I.pin,I.hok,I.len⟩
theorem Inv.qO (I:Inv (X.BV E) pins σ H s):Inv X pins σ H s:=⟨I.ok.qO,I.os,I.bare,I.base,I.loc,I.cell,I.free,I.tQ,I.pin,I.hok,I.len⟩
theorem SP.qO {D:Ends}{f:Flow}{s':Shared} (h:SP (X.BV E) pins D f s'):SP X pins D f s':=by
 cases f with
 | next=>obtain⟨σ',H',I,q⟩:=h;exact⟨σ',H',I.qO,q⟩
 | brk=>obtain⟨σ',H',I,q⟩:=h;exact⟨σ',H',I.qO,q⟩
 | cont=>obtain⟨σ',H',I,q⟩:=h;exact⟨σ',H',I.qO,q⟩
 | ret u=>obtain⟨v,σ',H',I,r,q⟩:=h;exact⟨v,σ',H',I.qO,r,q⟩
theorem K2.X5 {st:List Stmt}{t:TS} (h:K2 X.X5 st t):K2 X st t:=fun pins s σ H D I hw =>
 wpAny_mono (h pins s σ H D (I.BV _) hw) (fun _ _ q=>q.qO) fun _ _ z=>False.elim z
end
section
variable {X:Cx}{st:Stmt}{rest:List Stmt}{t u:TS}{e:Expr}{te:TE}{pos:Pos}
def vn:TS:=fun D σ H=>D.nx σ H
def Rl (t u:TS):TS:=fun D σ H=>t { D with nx:=u D } σ H
theorem aA:K2 X [] vn:=fun _ _ σ H _ I h=>wpAny_execs_nil ⟨σ,H,I,h⟩
theorem ai (h1:PS X st t) (h2:K2 X rest u):K2 X (st :: rest) (Rl t u):=by
 intro pins s σ H D I h
 refine wpAny_execs_cons (dj (h1 pins s σ H { D with nx:=u D } I h) fun f s1 q=>?_)
 cases f with
 | next =>
  obtain⟨σ',H',I',q⟩:=q
  exact h2 pins s1 σ' H' D I' q
 | ret v=>exact q
 | brk=>exact q
 | cont=>exact q
theorem ak (h1:PS X st t):K2 X [st] t:=by
 intro pins s σ H D I h
 refine wpAny_execs_cons (dj (h1 pins s σ H D I h) fun f s1 q=>?_)
 cases f with
 | next=>exact wpAny_execs_nil q
 | ret v=>exact q
 | brk=>exact q
 | cont=>exact q
theorem Inv.quiet {pins:List (Addr×Obj)}{σ:St}{H:Hp}{s:Shared} (I:Inv X pins σ H s):interactive X.env=false:=by simp[interactive,I.ok.kind]
def YW (te:TE):TS:=fun D σ H=>te σ H fun _ H1=>D.nx σ H1
theorem cR (he:PE X e te) (hs:swapsWith e none pos.line X.env=pure false:=by rfl):PS X (.Expr e pos) (YW te):=by
 intro pins s σ H D I h
 exact wpAny_Expr_any (dj (he pins s σ H _ I h) fun v s1 ⟨x,H1,I1,r1,q1⟩=>⟨σ,H1,I1,q1⟩) I.quiet hs
def afL (te:TE):TS:=fun D σ H=>te σ H D.rt
theorem ay (he:PE X e te):PS X (.Return (some e) pos) (afL te):=by
 intro pins s σ H D I h
 exact wpAny_Return_some (dj (he pins s σ H _ I h) fun v s1 ⟨x,H1,I1,r1,q1⟩=>⟨x,σ,H1,I1,r1,q1⟩)
def FF (c:TT) (t u:TS):TS:=fun D σ H=>c σ H fun b H1=>if b=true then t D σ H1 else u D σ H1
theorem aM {c:Expr}{a b:List Stmt}{tc:TT} (hc:PT X c tc) (ha:K2 X a t) (hb:K2 X b u):PS X (.If c a b pos) (FF tc t u):=by
 intro pins s σ H D I h
 refine wpAny_If (dj (hc pins s σ H _ I h) fun d s1 ⟨H1,I1,q1⟩=>?_)
 cases d with
 | true=>exact ha pins s1 σ H1 D I1 q1
 | false=>exact hb pins s1 σ H1 D I1 q1
def UK:TS:=fun _ _ _=>False
theorem gQ:PS X st UK:=fun _ _ _ _ _ _ h=>h.elim
end
abbrev TG:=V→St→Hp→(St→Hp→Prop)→Prop
abbrev Ra:=List V→St→Hp→(St→Hp→Prop)→Prop
def PG (X:Cx) (target:Expr) (t:TG):Prop :=
 ∀(pins:List (Addr×Obj)) (s:Shared) (σ:St) (H:Hp) (v:V) (u:Value) (Q:St→Hp→Prop),Inv X pins σ H s→RelV v u→t v σ H Q →
  wpAny (model X.prog X.w) X.A (assign target X.env u) (fun _ s'=>∃ σ' H',Inv X pins σ' H' s'∧Q σ' H') X.xe s
def X6 (X:Cx) (ts:List Expr) (t:Ra):Prop :=
 ∀(pins:List (Addr×Obj)) (s:Shared) (σ:St) (H:Hp) (vs:List V) (us:List Value) (Q:St→Hp→Prop),Inv X pins σ H s→Vals vs us→t vs σ H Q →
  wpAny (model X.prog X.w) X.A (assignInOrder ((assignEach ts X.env).map (·.2)) us) (fun _ s'=>∃ σ' H',Inv X pins σ' H' s'∧Q σ' H') X.xe s
abbrev UL:=V→V→V→Hp→(Hp→Prop)→Prop
def YX (X:Cx) (t:UL):Prop :=
 ∀(pins:List (Addr×Obj)) (s:Shared) (σ:St) (H:Hp) (o i v:V) (ov iv u:Value) (Q:Hp→Prop),Inv X pins σ H s→RelV o ov→RelV i iv→RelV v u→t o i v H Q →
  wpAny (model X.prog X.w) X.A (setItem ov iv u) (fun _ s'=>∃ H',Inv X pins σ H' s'∧Q H') X.xe s
section
variable {X:Cx}{pos:Pos}
def bK (i:Nat):TG:=fun v σ H Q=>Q (σ.set i (some v)) H
theorem Rm {i:Nat}{x:Str} (hN:X.N.Nodup) (hi:X.N[i]? = some x) (hx:Loc X.env.scope x) (hf:X.fn x=true∨X.env.scope.names.lookup x=some .local:=by first | exact .inl rfl | exact .inr rfl | assumption):PG X (.Name x pos) (bK i):=by
 intro pins s σ H v u Q I r h
 exact wpAny_assign_Name (FD I hN hi hx r (fun s' I'=>⟨_,H,I',h⟩) hf)
def afM:Ra:=fun vs σ H Q=>vs=[]∧Q σ H
def YY (t:TG) (u:Ra):Ra:=fun vs σ H Q=>∃ v r,vs=v :: r∧t v σ H fun σ' H'=>u r σ' H' Q
theorem kX:X6 X [] afM:=by
 intro pins s σ H vs us Q I r h
 obtain⟨e,h⟩:=h
 subst e
 cases r
 exact assignInOrder_nil ⟨σ,H,I,h⟩
theorem bX {e:Expr}{es:List Expr}{t:TG}{u:Ra} (h1:PG X e t) (h2:X6 X es u)
  (hs:(assignEach (e :: es) X.env).map (·.2)=assign e X.env :: (assignEach es X.env).map (·.2):=by rfl):X6 X (e :: es) (YY t u):=by
 intro pins s σ H vs us Q I r h
 obtain⟨v,vr,e1,h⟩:=h
 subst e1
 cases r with
 | cons r rr =>
  rw[hs]
  refine assignInOrder_cons (dj (h1 pins s σ H _ _ _ I r h) fun _ s1 ⟨σ1,H1,I1,q1⟩=>?_)
  exact h2 pins s1 σ1 H1 _ _ Q I1 rr q1
def YZ (K:W.Frag) (n:Nat) (t:Ra):TG:=fun v σ H Q=>∃ a xs,v=.ref a∧aV K H a xs∧xs.length=n∧t xs σ H Q
theorem UM {es:List Expr}{k:Nat}{t:Ra}{n:Nat} (hc:X.calm=true) (h:X6 X es t)
  (hn:(assignEach es X.env).length=n:=by rfl) (hst:(assignEach es X.env).findIdx? (·.1)=none:=by rfl):PG X (.Tuple es k pos) (YZ X.K n t):=by
 intro pins s σ H v u Q I r hw
 obtain⟨a,xs,e1,hq,hl,hw⟩:=hw
 subst e1
 cases r
 obtain⟨its,rv,ht,hz⟩:=I.tuple hq
 refine assign_Tuple_tuple (I.ok.hd hc) ht (by simp[hn,←hl,rv.length]) hst fun h' hx=>?_
 have I1:Inv X pins σ H { s with heap:=h' }:=I.kept (t':=s.toks) fun b o e=>hx b o (Nat.ne_of_lt (Heap.lt_size e)) e
 exact h pins _ σ H xs _ Q I1 (by simpa using rv) hw
def afN (to ti:TE) (t:UL):TG:=fun v σ H Q=>to σ H fun o H1=>ti σ H1 fun i H2=>t o i v H2 fun H3=>Q σ H3
theorem DZ {o i:Expr}{to ti:TE}{t:UL} (ho:PE X o to) (hi:PE X i ti) (hs:YX X t)
  (ha:∀ v,assign (.Subscript o i pos) X.env v=(do
   let ov ←holding [v] (eval o X.env)
   let iv ←holding [v,ov] (eval i X.env)
   standAt pos
   holding [v,ov,iv] (setItem ov iv v)
   release [v,ov,iv] []):=by intro _;rfl):PG X (.Subscript o i pos) (afN to ti t):=by
 intro pins s σ H v u Q I r h
 rw[ha]
 refine wpAny_bind (wpAny_holding (dj (ho pins s σ H _ I h) fun ov s1 ⟨x,H1,I1,r1,q1⟩=>?_))
 refine wpAny_bind (wpAny_holding (dj (hi pins s1 σ H1 _ I1 q1) fun iv s2 ⟨y,H2,I2,r2,q2⟩=>?_))
 refine wpAny_bind (wpAny_standAt (wpAny_bind (wpAny_holding (dj (hs pins s2 σ H2 x y v ov iv u _ I2 r1 r2 r q2) fun _ s3 ⟨H3,I3,q3⟩=>?_))))
 exact wpAny_release ⟨σ,H3,I3,q3⟩
def Rn (te:TE) (g:TG):TS:=fun D σ H=>te σ H fun x H1=>g x σ H1 D.nx
theorem qP {tg e:Expr}{te:TE}{g:TG} (he:PE X e te) (hg:PG X tg g) (hs:swapsWithSole [tg] e pos.line X.env=pure false:=by rfl) (hw:swappedStores [tg] e X.env=pure none:=by rfl)
  (h1:(assignEach [tg] X.env).map (·.2)=[assign tg X.env]:=by rfl):PS X (.Assign [tg] e pos) (Rn te g):=by
 intro pins s σ H D I h
 refine wpAny_Assign_stores (dj (he pins s σ H _ I h) fun v s1 ⟨x,H1,I1,r1,q1⟩=>?_) hs hw
 rw[h1]
 exact dj (hg pins s1 σ H1 x v _ I1 r1 q1) fun _ s2 q=>q
theorem UN {i:Nat}{x:Str}{e:Expr}{te:TE}{pos':Pos} (hN:X.N.Nodup) (hi:X.N[i]? = some x) (hx:Loc X.env.scope x) (he:PE X e te) (hs:swapsWith e (some (.Name x pos')) pos.line X.env=pure false:=by rfl) (hf:X.fn x=true∨X.env.scope.names.lookup x=some .local:=by first | exact .inl rfl | exact .inr rfl | assumption) :
  PS X (.Assign [.Name x pos'] e pos) (Rn te (bK i)):=by
 intro pins s σ H D I h
 refine wpAny_Assign_Name (dj (he pins s σ H _ I h) fun v s1 ⟨y,H1,I1,r1,q1⟩=>?_) hs
 exact FD I1 hN hi hx r1 (fun s2 I2=>⟨_,H1,I2,q1⟩) hf
end
section
variable {X:Cx}{pos:Pos}
def UO (c:TT) (tb:TS):TS:=fun D σ H=>∃ W:Nat→St→Hp→Prop,(∃ m,W m σ H)∧∀ m σ H,W m σ H →
 c σ H fun b H1=>if b=true then ∃ N:St→Hp→Prop,(∀ σ' H',N σ' H'→∃ m',m' < m∧W m' σ' H')∧tb { D with nx:=N,ct:=N,bk:=D.nx } σ H1 else D.nx σ H1
theorem FG {c:Expr}{body:List Stmt}{tc:TT}{tb:TS} (hp:PassesOwn (model X.prog X.w) X.A X.env X.xe) (hc:PT X c tc) (hb:K2 X body tb):PS X (.While c body [] pos) (UO tc tb):=by
 intro pins s σ H D I h
 obtain⟨W,⟨m0,w0⟩,turn⟩:=h
 refine wpAny_While (codeAny_whileLoop (fun n s'=>∃ σ' H',Inv X pins σ' H' s'∧W n σ' H') ?_ m0 ⟨σ,H,I,w0⟩)
 rintro n s1 ⟨σ1,H1,I1,w1⟩
 refine wpAny_passesOwn hp (dj (hc pins s1 σ1 H1 _ I1 (turn n σ1 H1 w1)) fun b s2 ⟨H2,I2,q2⟩=>?_)
 cases b with
 | true =>
  obtain⟨N,hN,q2⟩:=q2
  rw[if_pos rfl]
  refine wpAny_passesOwn hp (dj (hb pins s2 σ1 H2 _ I2 q2) fun f s3 q3=>?_)
  cases f with
  | next =>
   obtain⟨σ3,H3,I3,n3⟩:=q3
   obtain⟨m',hm,w3⟩:=hN σ3 H3 n3
   exact⟨m',hm,σ3,H3,I3,w3⟩
  | cont =>
   obtain⟨σ3,H3,I3,n3⟩:=q3
   obtain⟨m',hm,w3⟩:=hN σ3 H3 n3
   exact⟨m',hm,σ3,H3,I3,w3⟩
  | brk=>exact q3
  | ret v=>exact q3
 | false =>
  rw[if_neg Bool.false_ne_true]
  exact wpAny_execs_nil ⟨σ1,H2,I2,q2⟩
end
structure It where
 go:Nat→Hp→Prop
 NQ:Nat→Hp→V→Hp→Prop
 stop:Nat→Hp→Prop
def uz (X:Cx) (pins:List (Addr×Obj)) (H:Hp) (b:Addr):Prop :=
 H b=none∧b≠X.env.locals∧b∉X.fs∧(b∈X.ex∨X.s₀.heap.objs.size≤b)∧(∀ x c,X.env.cells.lookup x=some c→c≠b)∧∀ p∈X.pn++pins,p.1≠b
theorem Inv.uA {X:Cx}{pins:List (Addr×Obj)}{σ:St}{H H':Hp}{s:Shared}{b:Addr} (I:Inv X pins σ H s) (hb:s.heap.objs.size≤b) (hn:H' b=none):uz X pins H' b:=by
 refine⟨hn,Nat.ne_of_gt (Nat.lt_of_lt_of_le I.lt hb),I.afF hb,.inr (Nat.le_trans I.sz hb),fun x c e z=>?_,fun p hp z=>?_⟩
 ·obtain⟨v,q⟩:=I.cell x c e
  exact absurd (Nat.lt_of_lt_of_le q.lt (by rw[z];exact hb)) (Nat.lt_irrefl _)
 ·exact absurd (Nat.lt_of_lt_of_le (Heap.lt_size (I.pin p hp).1) (by rw[z];exact hb)) (Nat.lt_irrefl _)
structure Turn (P:Program) (w:World) (K:W.Frag) (tg:Expr) (J:It) (fp:List Addr) (it:Addr) (tn:Nat→Heap→Prop):Prop where
 mem:it∈fp
 obj:∀ i h,tn i h→∀ b∈fp,∃ o,h.get? b=some o∧∀ v,o.data≠.cell v
 keep:∀ i h h',tn i h→(∀ b∈fp,∀ o,h.get? b=some o→h'.get? b=some o)→tn i h'
 item:∀(X:Cx),X.prog=P→X.w=w→X.K=K→X.calm=true→∀(i:Nat) (pins:List (Addr×Obj)) (s:Shared) (σ:St) (H:Hp) (E:Value→Shared→Prop),Inv X pins σ H s→(∀ b∈fp,uz X pins H b)→tn i s.heap→J.go i H →
  wpAny (model P w) X.A (pyNext (.ref it)) (fun r s1=>∃ u,r=some u ∧
   wpAny (model P w) X.A (letOwnedTupleGo tg (.ref it) u) (fun _ s2=>∃ x H',Inv X pins σ H' s2∧RelV x u∧J.NQ i H x H'∧tn (i+1) s2.heap∧∀ b∈fp,H' b=none) E s1) E s
 done:∀(X:Cx),X.prog=P→X.w=w→X.K=K→X.calm=true→∀(i:Nat) (pins:List (Addr×Obj)) (s:Shared) (σ:St) (H:Hp) (E:Value→Shared→Prop),Inv X pins σ H s→(∀ b∈fp,uz X pins H b)→tn i s.heap→J.stop i H →
  wpAny (model P w) X.A (pyNext (.ref it)) (fun r s1=>r=none∧Inv X pins σ H s1) E s
 self:∀(A:Around) (i:Nat) (s:Shared) (Q:Value→Shared→Prop) (E:Value→Shared→Prop),tn i s.heap→Q (.ref it) s→wpAny (model P w) A (pyIter (.ref it)) Q E s
abbrev TI:=St→Hp→(It→Hp→Prop)→Prop
def PIE (X:Cx) (pins:List (Addr×Obj)) (σ:St) (tg:Expr) (R:It→Hp→Prop) (itv:Value) (s2:Shared):Prop :=
 ∃(it:Addr) (fp:List Addr) (tn:Nat→Heap→Prop) (J:It) (H':Hp),itv=.ref it∧Inv X pins σ H' s2∧Turn X.prog X.w X.K tg J fp it tn∧tn 0 s2.heap∧(∀ b∈fp,uz X pins H' b)∧R J H'
def PI (X:Cx) (tg iter:Expr) (wi:TI):Prop :=
 ∀(pins:List (Addr×Obj)) (s:Shared) (σ:St) (H:Hp) (R:It→Hp→Prop),Inv X pins σ H s→wi σ H R →
  wpAny (model X.prog X.w) X.A (eval iter X.env) (fun v s1=>wpAny (model X.prog X.w) X.A (pyIter v) (PIE X pins σ tg R) X.xe s1) X.xe s
theorem CV {M:Model}{A:Around}{E:Value→Shared→Prop}{s:Shared}{tg:Expr}{it:Addr}{u:Value}{o:Obj}{n:String}{vs:Array Value}{Q:Unit→Shared→Prop} (ho:s.heap.get? it=some o) (hc:o.cls=.type n) (hd:o.data=.fields vs)
   (hn:["enumerate", "zip", "dict_itemiterator", "dict_reverseitemiterator", "odict_iterator", "itertools.zip_longest", "itertools.pairwise"].contains n=false) (hQ:Q () s):wpAny M A (letOwnedTupleGo tg (.ref it) u) Q E s:=by
 unfold letOwnedTupleGo
 cases tg <;> first
   | exact wpAny_pure hQ
   | (cases u <;> first
       | exact wpAny_pure hQ
       | (refine wpAny_bind (wpAny_load ho ?_)
          rw[hc,hd]
          show wpAny M A (if (["enumerate", "zip", "dict_itemiterator", "dict_reverseitemiterator", "odict_iterator", "itertools.zip_longest", "itertools.pairwise"].contains n && vs[0]? == some (rawInt _))=true then _ else _) Q E s
          rw[if_neg (by intro h;rw[hn,Bool.false_and] at h;cases h)]
          exact wpAny_pure hQ))
def X7 (K:W.Frag) (a:Addr):It :=
 ⟨fun i H=>∃ xs x,aU K H a xs∧xs[i]? = some x,fun i H x H'=>H'=H∧∀ xs,aU K H a xs→xs[i]? = some x,fun i H=>∃ xs,aU K H a xs∧xs.length≤i⟩
def Y0 (K:W.Frag) (a:Addr):It :=
 ⟨fun i H=>∃ xs x,aV K H a xs∧xs[i]? = some x,fun i H x H'=>H'=H∧∀ xs,aV K H a xs→xs[i]? = some x,fun i H=>∃ xs,aV K H a xs∧xs.length≤i⟩
def X8 (lo:Int) (n:Nat):It:=⟨fun i _=>i < n,fun i H x H'=>H'=H∧x=.int (lo+i),fun i _=>n≤i⟩
theorem LP {P:Program}{w:World}{K:W.Frag}{tg:Expr} (a it:Addr):Turn P w K tg (X7 K a) [it] it (fun i h=>h.IsListIter it a i) where
 mem:=by simp
 obj:=fun i h st b hb=>by
  have e:b=it:=by simpa using hb
  subst e
  obtain⟨o,e,c,d⟩:=st
  exact⟨o,e,fun v z=>by rw[d] at z;cases z⟩
 keep:=fun i h h' st k=>st.at fun o e=>k it (by simp) o e
 item:=by
  intro X hP hw hK hc i pins s σ H E I hf st hg
  subst hP hw hK
  obtain⟨xs,x,hq,hx⟩:=hg
  obtain⟨its,rv,p,hz⟩:=I.list hq
  obtain⟨u,hu,ru⟩:=rv.get hx
  obtain⟨f0,f1,f2,f3,f4,f5⟩:=hf it (by simp)
  refine wpAny_pyNext_list_item st p.isList (x:=u) (by simpa using hu) fun h' st' sb=>?_
  have I1:Inv X pins σ H { s with heap:=h' }:=I.turned (t':=s.toks) (fun b o hb e=>(sb.2 b hb).trans e) f0 f1 f3 f4 f5
  obtain⟨o,e,c,d⟩:=id st'
  exact⟨u,rfl,CV (s:={ s with heap:=h' }) e c d (by decide) ⟨x,H,I1,ru,⟨rfl,fun ys hy=>by rw[I.vm hy hq];exact hx⟩,st',fun b hb=>(hf b hb).1⟩⟩
 done:=by
  intro X hP hw hK hc i pins s σ H E I hf st hg
  subst hP hw hK
  obtain⟨xs,hq,hx⟩:=hg
  obtain⟨its,rv,p,hz⟩:=I.list hq
  obtain⟨f0,f1,f2,f3,f4,f5⟩:=hf it (by simp)
  have hl:=rv.length
  exact wpAny_pyNext_list_end (I.ok.hd hc) st p.isList (by simp;omega) fun h' eb=>⟨rfl,I.turned (t':=s.toks) (fun b o hb e=>eb b o hb e) f0 f1 f3 f4 f5⟩
 self:=fun _ _ _ _ _ st h=>wpAny_pyIter_listiter st h
theorem Iu {P:Program}{w:World}{K:W.Frag}{tg:Expr} (a it:Addr):Turn P w K tg (Y0 K a) [it] it (fun i h=>h.IsTupleIter it a i) where
 mem:=by simp
 obj:=fun i h st b hb=>by
  have e:b=it:=by simpa using hb
  subst e
  obtain⟨o,e,c,d⟩:=st
  exact⟨o,e,fun v z=>by rw[d] at z;cases z⟩
 keep:=fun i h h' st k=>st.at fun o e=>k it (by simp) o e
 item:=by
  intro X hP hw hK hc i pins s σ H E I hf st hg
  subst hP hw hK
  obtain⟨xs,x,hq,hx⟩:=hg
  obtain⟨its,rv,p,hz⟩:=I.tuple hq
  obtain⟨u,hu,ru⟩:=rv.get hx
  obtain⟨f0,f1,f2,f3,f4,f5⟩:=hf it (by simp)
  refine wpAny_pyNext_tuple_item st (show s.heap.IsTuple a its.toArray from p) (x:=u) (by simpa using hu) fun h' st' sb=>?_
  have I1:Inv X pins σ H { s with heap:=h' }:=I.turned (t':=s.toks) (fun b o hb e=>(sb.2 b hb).trans e) f0 f1 f3 f4 f5
  obtain⟨o,e,c,d⟩:=id st'
  exact⟨u,rfl,CV (s:={ s with heap:=h' }) e c d (by decide) ⟨x,H,I1,ru,⟨rfl,fun ys hy=>by rw[I.xo hy hq];exact hx⟩,st',fun b hb=>(hf b hb).1⟩⟩
 done:=by
  intro X hP hw hK hc i pins s σ H E I hf st hg
  subst hP hw hK
  obtain⟨xs,hq,hx⟩:=hg
  obtain⟨its,rv,p,hz⟩:=I.tuple hq
  obtain⟨f0,f1,f2,f3,f4,f5⟩:=hf it (by simp)
  have hl:=rv.length
  exact wpAny_pyNext_tuple_end (I.ok.hd hc) st (show s.heap.IsTuple a its.toArray from p) (by simp;omega) fun h' eb=>⟨rfl,I.turned (t':=s.toks) (fun b o hb e=>eb b o hb e) f0 f1 f3 f4 f5⟩
 self:=fun _ _ _ _ _ st h=>wpAny_pyIter_tupleiter st h
theorem Iv {P:Program}{w:World}{K:W.Frag}{tg:Expr} (it:Addr) (lo:Int) (n:Nat):Turn P w K tg (X8 lo n) [it] it (fun i h=>IsRangeIter h it (lo+(i:Nat) * 1) ((n:Int) - (i:Nat)) 1) where
 mem:=by simp
 obj:=fun i h st b hb=>by
  have e:b=it:=by simpa using hb
  subst e
  exact⟨_,st,fun v z=>by
   have z':Data.fields _=Data.cell v:=z
   cases z'⟩
 keep:=fun i h h' st k=>k it (by simp) _ st
 item:=by
  intro X hP hw hK hc i pins s σ H E I hf st hg
  subst hP hw hK
  obtain⟨f0,f1,f2,f3,f4,f5⟩:=hf it (by simp)
  have W:=Walks.range (prog:=X.prog) (w:=X.w) (I.ok.hd hc) it lo 1 n
  refine W.item i s _ _ hg st fun v h' tk hv st' kk=>?_
  obtain⟨t,rfl⟩:=hv
  have I1:Inv X pins σ H { s with heap:=h',toks:=tk }:=I.turned (fun b o hb e=>kk b o (by simpa using hb) e) f0 f1 f3 f4 f5
  refine⟨_,rfl,CV (s:={ s with heap:=h',toks:=tk }) (n := "range_iterator") st' rfl rfl (by decide) ⟨.int (lo+i),H,I1,⟨t,?_⟩,⟨rfl,rfl⟩,st',fun b hb=>(hf b hb).1⟩⟩
  rw[Int.mul_one]
 done:=by
  intro X hP hw hK hc i pins s σ H E I hf st hg
  subst hP hw hK
  obtain⟨f0,f1,f2,f3,f4,f5⟩:=hf it (by simp)
  exact wpAny_pyNext_range_end (I.ok.hd hc) st (by have:n≤i:=hg;omega) fun h' eb=>⟨rfl,I.turned (t':=s.toks) (fun b o hb e=>eb b o hb e) f0 f1 f3 f4 f5⟩
 self:=fun _ _ _ _ _ st h=>wpAny_pyIter_rangeiter st h
section
variable {X:Cx}{tg:Expr}
def TM (K:W.Frag) (tl:TE):TI:=fun σ H R=>tl σ H fun x H1=>∃ a,x=.ref a∧(∃ xs,aU K H1 a xs)∧R (X7 K a) H1
def Y3 (K:W.Frag) (tl:TE):TI:=fun σ H R=>tl σ H fun x H1=>∃ a,x=.ref a∧(∃ xs,aV K H1 a xs)∧R (Y0 K a) H1
theorem Ro {l:Expr}{tl:TE} (hl:PE X l tl):PI X tg l (TM X.K tl):=by
 intro pins s σ H R I h
 refine dj (hl pins s σ H _ I h) fun v s1 ⟨x,H1,I1,r1,q1⟩=>?_
 obtain⟨a,e,⟨xs,hq⟩,q⟩:=q1
 subst e
 cases r1
 obtain⟨its,rv,p,hz⟩:=I1.list hq
 refine wpAny_pyIter_list p.isList ?_
 refine⟨s1.heap.objs.size,[s1.heap.objs.size],_,_,H1,rfl,I1.kept (t':=s1.toks) fun b o e=>Heap.get?_push_of_some _ e,LP a _,⟨_,Heap.get?_push_size _ rfl,rfl,rfl⟩,fun b hb=>?_,q⟩
 have e:b=s1.heap.objs.size:=by simpa using hb
 subst e
 exact I1.uA (Nat.le_refl _) (I1.hok.fresh (Nat.le_refl _))
theorem UP {l:Expr}{tl:TE} (hl:PE X l tl):PI X tg l (Y3 X.K tl):=by
 intro pins s σ H R I h
 refine dj (hl pins s σ H _ I h) fun v s1 ⟨x,H1,I1,r1,q1⟩=>?_
 obtain⟨a,e,⟨xs,hq⟩,q⟩:=q1
 subst e
 cases r1
 obtain⟨its,rv,p,hz⟩:=I1.tuple hq
 refine wpAny_pyIter_tuple (show s1.heap.IsTuple a its.toArray from p) ?_
 refine⟨s1.heap.objs.size,[s1.heap.objs.size],_,_,H1,rfl,I1.kept (t':=s1.toks) fun b o e=>Heap.get?_push_of_some _ e,Iu a _,⟨_,Heap.get?_push_size _ rfl,rfl,rfl⟩,fun b hb=>?_,q⟩
 have e:b=s1.heap.objs.size:=by simpa using hb
 subst e
 exact I1.uA (Nat.le_refl _) (I1.hok.fresh (Nat.le_refl _))
theorem N8 {pins:List (Addr×Obj)}{σ:St}{H:Hp}{s:Shared}{R:It→Hp→Prop}{E:Value→Shared→Prop}{lo hi:Int}{t u v:Tok}{tk:Nat} (I:Inv X pins σ H s) (h1 : -(2 ^ 62)≤lo) (h2:lo < 2 ^ 62) (h3 : -(2 ^ 62)≤hi) (h4:hi < 2 ^ 62)
  (q:R (X8 lo (hi - lo).toNat) H):wpAny (model X.prog X.w) X.A (pyIter (.ref s.heap.objs.size)) (PIE X pins σ tg R) E { s with heap:=s.heap.push { cls:=.type "range",data:=.fields #[.int lo t,.int hi u,.int 1 v] },toks:=tk }:=by
 refine wpAny_pyIter_range (IsRange.new ..) (small_one h1 h2 h3 h4) ?_
 have I1:Inv X pins σ H { s with heap:=s.heap.push { cls:=.type "range",data:=.fields #[.int lo t,.int hi u,.int 1 v] },toks:=tk }:=I.kept fun b o e=>Heap.get?_push_of_some _ e
 refine⟨(s.heap.push { cls:=.type "range",data:=.fields #[.int lo t,.int hi u,.int 1 v] }).objs.size,[(s.heap.push { cls:=.type "range",data:=.fields #[.int lo t,.int hi u,.int 1 v] }).objs.size],_,_,H,rfl,
  I1.kept (t':=tk) fun b o e=>Heap.get?_push_of_some _ e,Iv _ lo (hi - lo).toNat,?_,fun b hb=>?_,q⟩
 ·have e1:lo+((0:Nat):Int) * 1=lo:=by simp
  have e2:(((hi - lo).toNat:Nat):Int) - ((0:Nat):Int)=Builtin.Range.rangeSize lo hi 1:=by rw[rangeSize_one];split <;> omega
  show IsRangeIter _ _ (lo+((0:Nat):Int) * 1) ((((hi - lo).toNat:Nat):Int) - ((0:Nat):Int)) 1
  rw[e1,e2]
  exact Heap.get?_push_size _ rfl
 ·have e:b=(s.heap.push { cls:=.type "range",data:=.fields #[.int lo t,.int hi u,.int 1 v] }).objs.size:=by simpa using hb
  subst e
  exact I1.uA (Nat.le_refl _) (I1.hok.fresh (Nat.le_refl _))
def Y4 (ta:TA):TI:=fun σ H R=>ta σ H fun vs H1=>∃ j:Int,vs=[.int j]∧-(2 ^ 62)≤j∧j < 2 ^ 62∧R (X8 0 j.toNat) H1
theorem oB {a:Expr}{ta:TA}{p pos:Pos} (hg:Gl X "range") (hm:X.mg "range" = none) (ha:PA X [a] ta) (hs:starEach [a] X.env=[(false,eval a X.env)]:=by rfl):PI X tg (.Call (.Name "range" p) [a] [] pos) (Y4 ta):=by
 intro pins s σ H R I h
 refine Call_ (nT I hg hm boot_range (PyProof.Rows.callWith_type1 (dj (ha pos pins s σ H _ I h) fun us s1 ⟨vs,H1,I1,r1,q1⟩=>?_) hs rfl))
 obtain⟨j,e,q1,q2,q⟩:=q1
 subst e
 cases r1 with
 | cons r rr =>
  cases rr
  obtain⟨t,rfl⟩:=r
  exact call_range_1 (N8 I1 (by omega) (by omega) q1 q2 (by simpa using q))
def afO (wi:TI) (g:TG) (tb:TS):TS:=fun D σ H=>wi σ H fun J H1=>∃ W:Nat→Nat→St→Hp→Prop,(∃ m,W 0 m σ H1)∧∀ i m σ H,W i m σ H →
 (J.stop i H∧D.nx σ H)∨(J.go i H∧∃ N:St→Hp→Prop,(∀ σ' H',N σ' H'→∃ m',m' < m∧W (i+1) m' σ' H')∧∀ x H',J.NQ i H x H'→g x σ H' fun σ2 H2=>tb { D with nx:=N,ct:=N,bk:=D.nx } σ2 H2)
def Ai (fp:List Addr) (h:Heap):List (Addr×Obj):=fp.filterMap fun b=>(h.get? b).map fun o=>(b,o)
theorem pM {fp:List Addr}{h:Heap}{b:Addr}{o:Obj} (hb:b∈fp) (e:h.get? b=some o):(b,o)∈Ai fp h:=List.mem_filterMap.mpr ⟨b,hb,by rw[e];rfl⟩
theorem LQ {fp:List Addr}{h:Heap}{p:Addr×Obj} (hp:p∈Ai fp h):p.1∈fp∧h.get? p.1=some p.2:=by
 obtain⟨b,hb,e⟩:=List.mem_filterMap.mp hp
 cases q:h.get? b with
 | none=>rw[q] at e;cases e
 | some o =>
  rw[q] at e
  have e':(b,o)=p:=Option.some.inj e
  subst e'
  exact⟨hb,q⟩
theorem Inv.pinned {pins:List (Addr×Obj)}{σ:St}{H:Hp}{s:Shared}{fp:List Addr} (I:Inv X pins σ H s) (hf:∀ b∈fp,uz X pins H b) (ho:∀ b∈fp,∃ o,s.heap.get? b=some o∧∀ v,o.data≠.cell v):Inv X (pins++Ai fp s.heap) σ H s :=
 I.K1 fun p hp=>(List.mem_append.mp hp).elim (fun z=>I.pin p (List.mem_append_right _ z)) fun z=>by
  obtain⟨hb,e⟩:=LQ z
  obtain⟨f0,f1,f2,_⟩:=hf p.1 hb
  obtain⟨o,e',d⟩:=ho p.1 hb
  rw[e] at e';cases e'
  exact⟨e,f0,f1,f2,d⟩
theorem Inv.vo {pins pl:List (Addr×Obj)}{σ:St}{H:Hp}{s:Shared} (I:Inv X (pins++pl) σ H s):Inv X pins σ H s:=I.K1 fun p hp=>I.pin p (List.mem_append_right _ (List.mem_append_left _ hp))
theorem fq {iter:Expr}{body:List Stmt}{wi:TI}{g:TG}{tb:TS}{pos:Pos} (hp:PassesOwn (model X.prog X.w) X.A X.env X.xe) (hc:X.calm=true) (hi:PI X tg iter wi) (hg:PG X tg g) (hb:K2 X body tb)
  (hs:∀ x,foldedSetIterable iter X.env x=pure x:=by intro _;rfl):PS X (.For tg iter body [] pos) (afO wi g tb):=by
 intro pins s σ H D I h
 refine wpAny_For (dj (hi pins s σ H _ I h) fun v s1 h1=>dj h1 fun itv s2 h2=>?_) hs
 obtain⟨it,fp,tn,J,H2,e,I2,T,st2,f2,W,⟨m0,w0⟩,turn⟩:=h2
 subst e
 have Iw:∀{H':Hp},(∀ b∈fp,H' b=none)→∀ b∈fp,uz X pins H' b:=fun hn b hb=>⟨hn b hb,(f2 b hb).2⟩
 refine codeAny_forLoop_any (fun n s'=>∃ i σ' H',Inv X pins σ' H' s'∧tn i s'.heap∧(∀ b∈fp,H' b=none)∧W i n σ' H') ?_ m0 ⟨0,σ,H2,I2,st2,fun b hb=>(f2 b hb).1,w0⟩
 rintro n s3 ⟨i,σ3,H3,I3,st3,fr3,w3⟩
 rcases turn i n σ3 H3 w3 with ⟨stop,qn⟩ | ⟨go,N,hN,step⟩
 ·refine wpAny_passesOwn hp (dj (T.done X rfl rfl rfl hc i pins s3 σ3 H3 X.xe I3 (Iw fr3) st3 stop) fun r s4 ⟨hr,I4⟩=>?_)
  subst hr
  exact wpAny_execs_nil ⟨σ3,H3,I4,qn⟩
 ·refine wpAny_passesOwn hp (dj (T.item X rfl rfl rfl hc i pins s3 σ3 H3 X.xe I3 (Iw fr3) st3 go) fun r s4 ⟨u,hr,h4⟩=>?_)
  subst hr
  refine wpAny_passesOwn hp (dj h4 fun _ s5 ⟨x,H5,I5,r5,y5,st5,fr5⟩=>?_)
  have I5':=I5.pinned (Iw fr5) (T.obj _ _ st5)
  refine wpAny_passesOwn hp (dj (hg _ s5 σ3 H5 x u _ I5' r5 (step x H5 y5)) fun _ s6 ⟨σ6,H6,I6,q6⟩=>?_)
  refine wpAny_passesOwn hp (dj (hb _ s6 σ6 H6 _ I6 q6) fun f s7 q7=>?_)
  have again:∀{σ7:St}{H7:Hp},Inv X (pins++Ai fp s5.heap) σ7 H7 s7→N σ7 H7→∃ m,m < n∧∃ i σ' H',Inv X pins σ' H' s7∧tn i s7.heap∧(∀ b∈fp,H' b=none)∧W i m σ' H':=fun {σ7 H7} I7 n7=>by
   obtain⟨m',hm,w7⟩:=hN σ7 H7 n7
   refine⟨m',hm,i+1,σ7,H7,I7.vo,T.keep _ _ _ st5 fun b hb o e=>(I7.pin (b,o) (List.mem_append_right _ (List.mem_append_right _ (pM hb e)))).1,fun b hb=>?_,w7⟩
   obtain⟨o,e,d⟩:=T.obj _ _ st5 b hb
   exact(I7.pin (b,o) (List.mem_append_right _ (List.mem_append_right _ (pM hb e)))).2.1
  cases f with
  | next=>obtain⟨σ7,H7,I7,n7⟩:=q7;exact again I7 n7
  | cont=>obtain⟨σ7,H7,I7,n7⟩:=q7;exact again I7 n7
  | brk=>obtain⟨σ7,H7,I7,q7⟩:=q7;exact⟨σ7,H7,I7.vo,q7⟩
  | ret v=>obtain⟨x7,σ7,H7,I7,r7,q7⟩:=q7;exact⟨x7,σ7,H7,I7.vo,r7,q7⟩
end
theorem qQ {K:W.Frag}{a:Addr}{xs:List V}{g:TG}{tb:TS}{D:Ends}{σ:St}{H:Hp} (Pv:Nat→St→Hp→Prop) (h0:Pv 0 σ H) (hl:∀ i σ H,i≤xs.length→Pv i σ H→aU K H a xs)
  (hs:∀ i x σ H,xs[i]? = some x→Pv i σ H→g x σ H fun σ2 H2=>tb { D with nx:=Pv (i+1),ct:=Pv (i+1),bk:=D.nx } σ2 H2) (hd:∀ σ H,Pv xs.length σ H→D.nx σ H) :
  ∃ W:Nat→Nat→St→Hp→Prop,(∃ m,W 0 m σ H)∧∀ i m σ H,W i m σ H →
   ((X7 K a).stop i H∧D.nx σ H)∨((X7 K a).go i H∧∃ N:St→Hp→Prop,(∀ σ' H',N σ' H'→∃ m',m' < m∧W (i+1) m' σ' H')∧∀ x H',(X7 K a).NQ i H x H'→g x σ H' fun σ2 H2=>tb { D with nx:=N,ct:=N,bk:=D.nx } σ2 H2):=by
 refine⟨fun i m σ H=>m=xs.length - i∧i≤xs.length∧Pv i σ H,⟨xs.length,by simp,Nat.zero_le _,h0⟩,?_⟩
 rintro i m σ H ⟨rfl,hi,p⟩
 have q:=hl i σ H hi p
 by_cases hlt:i < xs.length
 ·refine .inr ⟨⟨xs,xs[i],q,by simp[hlt]⟩,Pv (i+1),fun σ' H' p'=>⟨xs.length - (i+1),by omega,rfl,hlt,p'⟩,fun x H' y=>?_⟩
  obtain⟨e,y⟩:=y
  subst e
  exact hs i x σ _ (y xs q) p
 ·have e:i=xs.length:=by omega
  subst e
  exact .inl ⟨⟨xs,q,Nat.le_refl _⟩,hd σ H p⟩
theorem Rp {K:W.Frag}{a:Addr}{xs:List V}{g:TG}{tb:TS}{D:Ends}{σ:St}{H:Hp} (Pv:Nat→St→Hp→Prop) (h0:Pv 0 σ H) (hl:∀ i σ H,i≤xs.length→Pv i σ H→aV K H a xs)
  (hs:∀ i x σ H,xs[i]? = some x→Pv i σ H→g x σ H fun σ2 H2=>tb { D with nx:=Pv (i+1),ct:=Pv (i+1),bk:=D.nx } σ2 H2) (hd:∀ σ H,Pv xs.length σ H→D.nx σ H) :
  ∃ W:Nat→Nat→St→Hp→Prop,(∃ m,W 0 m σ H)∧∀ i m σ H,W i m σ H →
   ((Y0 K a).stop i H∧D.nx σ H)∨((Y0 K a).go i H∧∃ N:St→Hp→Prop,(∀ σ' H',N σ' H'→∃ m',m' < m∧W (i+1) m' σ' H')∧∀ x H',(Y0 K a).NQ i H x H'→g x σ H' fun σ2 H2=>tb { D with nx:=N,ct:=N,bk:=D.nx } σ2 H2):=by
 refine⟨fun i m σ H=>m=xs.length - i∧i≤xs.length∧Pv i σ H,⟨xs.length,by simp,Nat.zero_le _,h0⟩,?_⟩
 rintro i m σ H ⟨rfl,hi,p⟩
 have q:=hl i σ H hi p
 by_cases hlt:i < xs.length
 ·refine .inr ⟨⟨xs,xs[i],q,by simp[hlt]⟩,Pv (i+1),fun σ' H' p'=>⟨xs.length - (i+1),by omega,rfl,hlt,p'⟩,fun x H' y=>?_⟩
  obtain⟨e,y⟩:=y
  subst e
  exact hs i x σ _ (y xs q) p
 ·have e:i=xs.length:=by omega
  subst e
  exact .inl ⟨⟨xs,q,Nat.le_refl _⟩,hd σ H p⟩
theorem oE {lo:Int}{n:Nat}{g:TG}{tb:TS}{D:Ends}{σ:St}{H:Hp} (Pv:Nat→St→Hp→Prop) (h0:Pv 0 σ H)
  (hs:∀ i σ H,i < n→Pv i σ H→g (.int (lo+i)) σ H fun σ2 H2=>tb { D with nx:=Pv (i+1),ct:=Pv (i+1),bk:=D.nx } σ2 H2) (hd:∀ σ H,Pv n σ H→D.nx σ H) :
  ∃ W:Nat→Nat→St→Hp→Prop,(∃ m,W 0 m σ H)∧∀ i m σ H,W i m σ H →
   ((X8 lo n).stop i H∧D.nx σ H)∨((X8 lo n).go i H∧∃ N:St→Hp→Prop,(∀ σ' H',N σ' H'→∃ m',m' < m∧W (i+1) m' σ' H')∧∀ x H',(X8 lo n).NQ i H x H'→g x σ H' fun σ2 H2=>tb { D with nx:=N,ct:=N,bk:=D.nx } σ2 H2):=by
 refine⟨fun i m σ H=>m=n - i∧i≤n∧Pv i σ H,⟨n,by simp,Nat.zero_le _,h0⟩,?_⟩
 rintro i m σ H ⟨rfl,hi,p⟩
 by_cases hlt:i < n
 ·refine .inr ⟨hlt,Pv (i+1),fun σ' H' p'=>⟨n - (i+1),by omega,rfl,hlt,p'⟩,fun x H' y=>?_⟩
  obtain⟨e,y⟩:=y
  subst e y
  exact hs i σ _ hlt p
 ·have e:i=n:=by omega
  subst e
  exact .inl ⟨Nat.le_refl _,hd σ H p⟩
abbrev R2:=V→V→Hp→VK→Prop
def lT (X:Cx) (f:Value→Value→Sem Value) (r:R2):Prop :=
 ∀(pins:List (Addr×Obj)) (s:Shared) (σ:St) (H:Hp) (x y:V) (v u:Value) (Q:VK),Inv X pins σ H s→RelV x v→RelV y u→r x y H Q →
  wpAny (model X.prog X.w) X.A (f v u) (EP X pins σ Q) X.xe s
def cY (X:Cx) (f:Value) (r:List V→Hp→VK→Prop):Prop :=
 ∀(pins:List (Addr×Obj)) (s:Shared) (σ:St) (H:Hp) (xs:List V) (us:List Value) (Q:VK),Inv X pins σ H s→Vals xs us→r xs H Q →
  wpAny (model X.prog X.w) X.A (call f us) (EP X pins σ Q) X.xe s
def TN (r:R2) (ta tb:TE):TE:=fun σ H Q=>ta σ H fun x H1=>tb σ H1 fun y H2=>r x y H2 Q
def rI (C:Int→Int→Prop) (g:Int→Int→V):R2:=fun x y H Q=>∃ i j,x=.int i∧y=.int j∧C i j∧Q (g i j) H
def TQ (g:Int→Int→V):R2:=fun x y H Q=>∃ i j,x=.int i∧y=.int j∧Q (g i j) H
section
variable {X:Cx}{a b c:Expr}{ta tb tc:TE}{pos:Pos}
theorem UQ (ha:PE X a ta) (hb:PE X b tb) {pins:List (Addr×Obj)}{s:Shared}{σ:St}{H:Hp}{R:V→V→Hp→Prop} (I:Inv X pins σ H s)
  (h:ta σ H fun x H1=>tb σ H1 fun y H2=>R x y H2) {Q:Value→Shared→Prop}{f:Value→Value→Sem Value}
  (hf:∀ v u s2 x y H2,Inv X pins σ H2 s2→RelV x v→RelV y u→R x y H2→wpAny (model X.prog X.w) X.A (f v u) Q X.xe s2) :
  wpAny (model X.prog X.w) X.A (eval a X.env) (fun v s₁=>wpAny (model X.prog X.w) X.A (eval b X.env) (fun u s₂=>wpAny (model X.prog X.w) X.A (f v u) Q X.xe s₂) X.xe s₁) X.xe s:=by
 refine dj (ha pins s σ H _ I h) fun v s1 ⟨x,H1,I1,r1,q1⟩=>?_
 refine dj (hb pins s1 σ H1 _ I1 q1) fun u s2 ⟨y,H2,I2,r2,q2⟩=>?_
 exact hf v u s2 x y H2 I2 r1 r2 q2
theorem aO {op:Operator}{r:R2} (ho:lT X (binaryOp op) r) (ha:PE X a ta) (hb:PE X b tb):PE X (.BinOp a op b pos) (TN r ta tb):=by
 intro pins s σ H Q I h
 exact wpAny_BinOp (UQ ha hb I h fun v u s2 x y H2 I2 rx ry q=>ho pins s2 σ H2 x y v u Q I2 rx ry q)
theorem opI {f:Value→Value→Sem Value}{C:Int→Int→Prop}{g:Int→Int→Int}
  (rule:∀(i j:Int) (t u:Tok) (s:Shared) (Q:Value→Shared→Prop) (E:Value→Shared→Prop),C i j→Q (.int (g i j) s.toks) { s with toks:=s.toks+1 }→wpAny (model X.prog X.w) X.A (f (.int i t) (.int j u)) Q E s) :
  lT X f (rI C fun i j=>.int (g i j)):=by
 intro pins s σ H x y v u Q I rx ry h
 obtain⟨i,j,rfl,rfl,hc,q⟩:=h
 obtain⟨t,rfl⟩:=rx
 obtain⟨t',rfl⟩:=ry
 exact rule i j t t' s _ _ hc ⟨.int (g i j),H,I.tok _,⟨_,rfl⟩,q⟩
theorem Y5 {f:Value→Value→Sem Value}{g:Int→Int→Int}
  (rule:∀(i j:Int) (t u:Tok) (s:Shared) (Q:Value→Shared→Prop) (E:Value→Shared→Prop),Q (.int (g i j) s.toks) { s with toks:=s.toks+1 }→wpAny (model X.prog X.w) X.A (f (.int i t) (.int j u)) Q E s) :
  lT X f (TQ fun i j=>.int (g i j)):=by
 intro pins s σ H x y v u Q I rx ry h
 obtain⟨i,j,rfl,rfl,q⟩:=h
 obtain⟨t,rfl⟩:=rx
 obtain⟨t',rfl⟩:=ry
 exact rule i j t t' s _ _ ⟨.int (g i j),H,I.tok _,⟨_,rfl⟩,q⟩
theorem Rq {f:Value→Value→Sem Value}{g:Int→Int→Bool}
  (rule:∀(i j:Int) (t u:Tok) (s:Shared) (Q:Value→Shared→Prop) (E:Value→Shared→Prop),Q (.bool (g i j)) s→wpAny (model X.prog X.w) X.A (f (.int i t) (.int j u)) Q E s) :
  lT X f (TQ fun i j=>.bl (g i j)):=by
 intro pins s σ H x y v u Q I rx ry h
 obtain⟨i,j,rfl,rfl,q⟩:=h
 obtain⟨t,rfl⟩:=rx
 obtain⟨t',rfl⟩:=ry
 exact rule i j t t' s _ _ ⟨.bl (g i j),H,I,rfl,q⟩
def afP (i j:Int):Prop:=0 < j∧j < 1073741824
def Y6 (i j:Int):Prop:=0≤j∧j≤1000000∧i.natAbs < 2 ^ 64
def UR (i j:Int):Prop:=(-(2 ^ 64) < i∧i < 2 ^ 64)∨(-(2 ^ 64) < j∧j < 2 ^ 64)
theorem UR.ok {i j:Int} (h:UR i j):IntMulOk i j:=by
 rcases h with ⟨h1,h2⟩ | ⟨h1,h2⟩
 ·exact .of_left (intBits_le_64 h1 h2)
 ·exact .of_right (intBits_le_64 h1 h2)
theorem gg:lT X (binaryOp .Add) (TQ fun i j=>.int (i+j)):=Y5 fun _ _ _ _ _ _ _ q=>add_int q
theorem US:lT X (binaryOp .Sub) (TQ fun i j=>.int (i - j)):=Y5 fun _ _ _ _ _ _ _ q=>sub_int q
theorem kF:lT X (binaryOp .Mult) (rI UR fun i j=>.int (i * j)):=opI fun _ _ _ _ _ _ _ hc q=>mul_int q hc.ok
theorem dZ:lT X (binaryOp .FloorDiv) (rI afP fun i j=>.int (i / j)):=opI fun i j _ _ _ _ _ hc q=>by
 have h1:(0:Int) < j:=hc.1
 have h2:j < 1073741824:=hc.2
 exact floordiv_int (by omega) (by rw[Int.fdiv_eq_ediv_of_nonneg i (by omega)];exact q) (.inl (PyProof.noPylong_small (by omega)))
theorem dw:lT X (binaryOp .Mod) (rI (fun _ j=>0 < j) fun i j=>.int (i % j)):=opI fun i j _ _ _ _ _ hc q=>by
 have h1:(0:Int) < j:=hc
 exact mod_int' (by omega) (by rw[Int.fmod_eq_emod_of_nonneg i (by omega)];exact q)
theorem Iz:lT X (binaryOp .Pow) (rI Y6 fun i j=>.int (i ^ j.toNat)):=opI fun _ _ _ _ _ _ _ hc q=>pow_int_small hc.1 hc.2.1 hc.2.2 q
end
def Y7:V→V→Bool
 | .non,.non=>true | .non,.int _=>true | .int _,.non=>true | .non,.bl _=>true | .bl _,.non=>true | .non,.str _=>true | .str _,.non=>true
 | .int _,.int _=>true | .bl _,.bl _=>true | .str _,.str _=>true | .NP _,.NP _=>true
 | .int _,.str _=>true | .str _,.int _=>true | .bl _,.str _=>true | .str _,.bl _=>true
 | _,_=>false
def rEq:R2:=fun x y H Q=>Y7 x y=true∧Q (.bl (decide (x=y))) H
def rNe:R2:=fun x y H Q=>Y7 x y=true∧Q (.bl (!decide (x=y))) H
theorem K4 {i j:Int}:decide (V.int i=V.int j)=(i == j):=by
 rw[Bool.eq_iff_iff]
 simp
theorem N9 {i j:Bool}:decide (V.bl i=V.bl j)=(i == j):=by
 rw[Bool.eq_iff_iff]
 simp
theorem K5 {i j:Str}:decide (V.str i=V.str j)=(i == j):=by
 rw[Bool.eq_iff_iff]
 simp
theorem K6 {i j:Array UInt8}:decide (V.NP i=V.NP j)=(i.toList == j.toList):=by
 rw[Bool.eq_iff_iff]
 cases i
 cases j
 simp
section
variable {X:Cx}{a b c:Expr}{ta tb tc:TE}{pos:Pos}
theorem bG {pins:List (Addr×Obj)}{σ:St}{H:Hp}{s:Shared}{Q:VK}{k k':Bool} (I:Inv X pins σ H s) (q:Q (.bl k) H) (e:k=k'):EP X pins σ Q (.bool k') s:=by
 subst e
 exact⟨.bl k,H,I,rfl,q⟩
theorem bA:lT X (compareOp .Eq) rEq:=by
 intro pins s σ H x y v u Q I rx ry h
 obtain⟨hs,q⟩:=h
 cases x with
 | non =>
  cases rx
  cases y with
  | non=>cases ry;exact PySem.EqNone.eq_none_none (bG I q (by simp))
  | bl j=>cases ry;exact PySem.EqNone.eq_none_bool (bG I q (by simp))
  | int j=>obtain⟨t',rfl⟩:=ry;exact PySem.EqNone.eq_none_int (bG I q (by simp))
  | str j=>obtain⟨t',rfl⟩:=ry;exact PySem.EqNone.eq_none_str (bG I q (by simp))
  | _=>exact absurd (show false=true from hs) Bool.false_ne_true
 | bl i =>
  cases rx
  cases y with
  | non=>cases ry;exact PySem.EqNone.eq_bool_none (bG I q (by simp))
  | bl j=>cases ry;exact eq_bool (bG I q N9)
  | str j=>obtain⟨t',rfl⟩:=ry;exact PySem.EqMixed.eq_bool_str (bG I q (by simp))
  | _=>exact absurd (show false=true from hs) Bool.false_ne_true
 | int i =>
  obtain⟨t,rfl⟩:=rx
  cases y with
  | non=>cases ry;exact PySem.EqNone.eq_int_none (bG I q (by simp))
  | int j=>obtain⟨t',rfl⟩:=ry;exact eq_int (bG I q K4)
  | str j=>obtain⟨t',rfl⟩:=ry;exact PySem.EqMixed.eq_int_str (bG I q (by simp))
  | _=>exact absurd (show false=true from hs) Bool.false_ne_true
 | str i =>
  obtain⟨t,rfl⟩:=rx
  cases y with
  | non=>cases ry;exact PySem.EqNone.eq_str_none (bG I q (by simp))
  | bl j=>cases ry;exact PySem.EqMixed.eq_str_bool (bG I q (by simp))
  | int j=>obtain⟨t',rfl⟩:=ry;exact PySem.EqMixed.eq_str_int (bG I q (by simp))
  | str j=>obtain⟨t',rfl⟩:=ry;exact eq_str (bG I q K5)
  | _=>exact absurd (show false=true from hs) Bool.false_ne_true
 | NP i =>
  obtain⟨t,rfl⟩:=rx
  cases y with
  | NP j=>obtain⟨t',rfl⟩:=ry;exact W.eq_bytes (bG I q K6)
  | _=>exact absurd (show false=true from hs) Bool.false_ne_true
 | _=>cases y <;> exact absurd (show false=true from hs) Bool.false_ne_true
theorem yG:lT X (compareOp .NotEq) rNe:=by
 intro pins s σ H x y v u Q I rx ry h
 obtain⟨hs,q⟩:=h
 cases x with
 | non =>
  cases rx
  cases y with
  | non=>cases ry;exact PySem.EqNone.ne_none_none (bG I q (by simp))
  | bl j=>cases ry;exact PySem.EqNone.ne_none_bool (bG I q (by simp))
  | int j=>obtain⟨t',rfl⟩:=ry;exact PySem.EqNone.ne_none_int (bG I q (by simp))
  | str j=>obtain⟨t',rfl⟩:=ry;exact PySem.EqNone.ne_none_str (bG I q (by simp))
  | _=>exact absurd (show false=true from hs) Bool.false_ne_true
 | bl i =>
  cases rx
  cases y with
  | non=>cases ry;exact PySem.EqNone.ne_bool_none (bG I q (by simp))
  | bl j=>cases ry;exact ne_bool (bG I q (congrArg not N9))
  | str j=>obtain⟨t',rfl⟩:=ry;exact PySem.EqMixed.ne_bool_str (bG I q (by simp))
  | _=>exact absurd (show false=true from hs) Bool.false_ne_true
 | int i =>
  obtain⟨t,rfl⟩:=rx
  cases y with
  | non=>cases ry;exact PySem.EqNone.ne_int_none (bG I q (by simp))
  | int j=>obtain⟨t',rfl⟩:=ry;exact ne_int (bG I q (congrArg not K4))
  | str j=>obtain⟨t',rfl⟩:=ry;exact PySem.EqMixed.ne_int_str (bG I q (by simp))
  | _=>exact absurd (show false=true from hs) Bool.false_ne_true
 | str i =>
  obtain⟨t,rfl⟩:=rx
  cases y with
  | non=>cases ry;exact PySem.EqNone.ne_str_none (bG I q (by simp))
  | bl j=>cases ry;exact PySem.EqMixed.ne_str_bool (bG I q (by simp))
  | int j=>obtain⟨t',rfl⟩:=ry;exact PySem.EqMixed.ne_str_int (bG I q (by simp))
  | str j=>obtain⟨t',rfl⟩:=ry;exact ne_str (bG I q (congrArg not K5))
  | _=>exact absurd (show false=true from hs) Bool.false_ne_true
 | NP i =>
  obtain⟨t,rfl⟩:=rx
  cases y with
  | NP j=>obtain⟨t',rfl⟩:=ry;exact W.ne_bytes (bG I q (congrArg not K6))
  | _=>exact absurd (show false=true from hs) Bool.false_ne_true
 | _=>cases y <;> exact absurd (show false=true from hs) Bool.false_ne_true
theorem Aj:lT X (compareOp .Lt) (TQ fun i j=>.bl (decide (i < j))):=Rq fun _ _ _ _ _ _ _ q=>lt_int q
theorem Oa:lT X (compareOp .LtE) (TQ fun i j=>.bl (decide (i≤j))):=Rq fun _ _ _ _ _ _ _ q=>le_int q
theorem tR:lT X (compareOp .Gt) (TQ fun i j=>.bl (decide (j < i))):=Rq fun _ _ _ _ _ _ _ q=>gt_int q
theorem Ob:lT X (compareOp .GtE) (TQ fun i j=>.bl (decide (j≤i))):=Rq fun _ _ _ _ _ _ _ q=>ge_int q
theorem iK:lT X (compareOp .In) (fun x y H Q=>∃ i j,x=.str i∧y=.str j∧Q (.bl (!(Builtin.Str.occurrences j i 0 j.length 1).isEmpty)) H):=by
 intro pins s σ H x y v u Q I rx ry h
 obtain⟨i,j,rfl,rfl,q⟩:=h
 obtain⟨t,rfl⟩:=rx
 obtain⟨t',rfl⟩:=ry
 exact in_str (bG I q rfl)
theorem nV:lT X (compareOp .Is) (fun x y H Q=>y=.non∧Q (.bl (decide (x=.non))) H):=by
 intro pins s σ H x y v u Q I rx ry h
 obtain⟨rfl,q⟩:=h
 cases ry
 refine is_none_gen (bG I q ?_)
 cases x <;> first
  | (cases rx;rfl)
  | (obtain⟨t,rfl⟩:=rx;rfl)
theorem vp:lT X (compareOp .IsNot) (fun x y H Q=>y=.non∧Q (.bl (!decide (x=.non))) H):=by
 intro pins s σ H x y v u Q I rx ry h
 obtain⟨rfl,q⟩:=h
 cases ry
 refine isnot_none_gen (bG I q ?_)
 cases x <;> first
  | (cases rx;rfl)
  | (obtain⟨t,rfl⟩:=rx;rfl)
theorem Oc (b:Expr) {op:CmpOp} (h:op≠.In:=by decide) (h2:op≠.NotIn:=by decide):behindInMarks op b=false:=by
 have e1:(op == CmpOp.In)=false:=by cases op <;> first | rfl | exact absurd rfl h
 have e2:(op == CmpOp.NotIn)=false:=by cases op <;> first | rfl | exact absurd rfl h2
 cases b <;> simp[behindInMarks,e1,e2]
theorem D0 {op:CmpOp}{r:R2} (ho:lT X (compareOp op) r) (ha:PE X a ta) (hb:PE X b tb) (hm:behindInMarks op b=false):PE X (.Compare a [op] [b] pos) (TN r ta tb):=by
 intro pins s σ H Q I h
 exact wpAny_Compare1 (UQ ha hb I h fun v u s2 x y H2 I2 rx ry q=>ho pins s2 σ H2 x y v u Q I2 rx ry q) hm
def TR (t:TE):TT:=fun σ H Q=>t σ H fun x H'=>∃ k,x=.bl k∧Q k H'
theorem ic {op:CmpOp}{r:R2} (ho:lT X (compareOp op) r) (ha:PE X a ta) (hb:PE X b tb) (hm:behindInMarks op b=false):PT X (.Compare a [op] [b] pos) (TR (TN r ta tb)):=by
 intro pins s σ H Q I h
 refine wpAny_isTrue_Compare1 (dj (ha pins s σ H _ I h) fun v s1 ⟨x,H1,I1,r1,q1⟩=>dj (hb pins s1 σ H1 _ I1 q1) fun u s2 ⟨y,H2,I2,r2,q2⟩ =>
  dj (ho pins s2 σ H2 x y v u _ I2 r1 r2 q2) fun c s3 ⟨z,H3,I3,r3,k,e,q3⟩=>?_) hm
 subst e
 cases r3
 exact wpAny_truthy_bool ⟨H3,I3,q3⟩
theorem xq:(sizeLine:Nat) < 2 ^ 63:=by rw[sizeLine_eq];decide
theorem bY:lT X (binaryOp .Add) (fun x y H Q=>∃ i j,x=.str i∧y=.str j∧i.length+j.length≤sizeLine∧Q (.str (i++j)) H):=by
 intro pins s σ H x y v u Q I rx ry h
 obtain⟨i,j,rfl,rfl,hz,q⟩:=h
 obtain⟨t,rfl⟩:=rx
 obtain⟨t',rfl⟩:=ry
 exact add_str (fun t' tk=>⟨.str (i++j),H,I.tok _,⟨_,rfl⟩,q⟩) hz
theorem vals1 {x:V}{us:List Value} (r:Vals [x] us):∃ u,us=[u]∧RelV x u:=by
 cases r with
 | cons r1 r2=>cases r2;exact⟨_,rfl,r1⟩
theorem vals2 {x y:V}{us:List Value} (r:Vals [x,y] us):∃ u w',us=[u,w']∧RelV x u∧RelV y w':=by
 cases r with
 | cons r1 r2 =>
  cases r2 with
  | cons r3 r4=>cases r4;exact⟨_,_,rfl,r1,r3⟩
theorem LR:cY X (.type "int") (fun xs H Q=>(∃ i,xs=[.int i]∧Q (.int i) H)∨∃ k,xs=[.bl k]∧Q (.int (if k then 1 else 0)) H):=by
 intro pins s σ H xs us Q I r h
 rcases h with ⟨i,rfl,q⟩ | ⟨k,rfl,q⟩
 ·obtain⟨u,rfl,t,rfl⟩:=vals1 r
  exact call_int_int ⟨.int i,H,I,⟨_,rfl⟩,q⟩
 ·obtain⟨u,rfl,r1⟩:=vals1 r
  cases r1
  exact call_int_bool ⟨.int (if k then 1 else 0),H,I.tok _,⟨_,rfl⟩,q⟩
theorem Od:cY X (.builtin "ord") (fun xs H Q=>∃ x,xs=[.str x]∧x.length=1∧Q (.int (x.cps.getD 0 0:Nat)) H):=by
 intro pins s σ H xs us Q I r h
 obtain⟨x,rfl,hz,q⟩:=h
 obtain⟨u,rfl,t,rfl⟩:=vals1 r
 exact ord_of_one hz ⟨.int _,H,I.tok _,⟨_,rfl⟩,q⟩
end
structure IA (h:Heap) (x dx C:Addr) (mA:Str→Option Value):Prop where
 obj:h.get? x=some (W.instObj C dx)
 ns:h.Ns1 dx mA
 ne:dx≠x
theorem LS {h:Heap}{dx:Addr}{mA:Str→Option Value} (n:h.Ns1 dx mA):∃ od,h.get? dx=some od∧∀ name,W.lookIn name od=some (mA name):=by
 obtain⟨o,es,ep,ho,hd,hk,_,hm⟩:=n
 refine⟨o,ho,fun name=>?_⟩
 have e:=hm name
 unfold nsFind findBy at e
 rw[←Array.find?_toList] at e
 unfold W.lookIn
 rw[hd]
 dsimp only
 split
 ·rename_i y q
  rw[q] at e
  exact congrArg some e
 ·rename_i q
  rw[q] at e
  have a:es.toList.any (·.refKey)=false:=by
   rw[List.any_eq_false]
   intro y hy
   obtain⟨z,t,hkey⟩:=hk y (Array.mem_toList_iff.mp hy)
   simp[DictEntry.refKey,hkey]
  have a':¬es.toList.any (·.refKey)=true:=by rw[a];exact Bool.false_ne_true
  rw[if_neg a']
  exact congrArg some e
theorem IA.look {h:Heap}{x dx C:Addr}{mA:Str→Option Value} (I:IA h x dx C mA):∃ od,W.InstAt h x (W.instObj C dx) C (some od)∧∀ name,W.lookIn name od=some (mA name) :=
 let ⟨od,ho,hl⟩:=LS I.ns
 ⟨od,⟨I.obj,rfl,rfl,ho⟩,hl⟩
section
variable {prog:Program}{w:World}{A:Around}{E:Value→Shared→Prop}{s:Shared}{K:W.Frag}{x dx C f:Addr}{mA:Str→Option Value}{name:Str}{v:Value}
theorem get_map {expr:Bool}{Q:Value→Shared→Prop} (X:K.In s.heap) (I:IA s.heap x dx C mA) (hg:W.plainGet K C name=true) (hh:W.hasDictIn K C=true)
  (ha:W.findIn K (.ref C) name=some none) (hv:mA name=some v) (hv':W.handedIn v=true) (h:Q v { s with toks:=s.toks+1 }) :
  wpAny (model prog w) A (getAttr (.ref x) name expr) Q E s:=by
 obtain⟨od,J,hl⟩:=I.look
 exact W.get_value X J (W.plainGet_of hg).1 (W.findObj_own hh ha rfl (by rw[hl,hv])) hv' h
theorem Oe {pl:Sem Bool}{Q:Value×List Value→Shared→Prop} (X:K.In s.heap) (I:IA s.heap x dx C mA) (hg:W.plainGet K C name=true)
  (hf:W.findIn K (.ref C) name=some (some (.ref f))) (ht:W.isFn K (.ref f)=true) (hv:mA name=none) (h:Q (.ref f,[.ref x]) s) :
  wpAny (model prog w) A (getMethod (.ref x) name pl) Q E s:=by
 obtain⟨od,J,hl⟩:=I.look
 exact W.method_fn X J (W.plainGet_of hg).1 (W.plainGet_of hg).2 hf (beq_iff_eq.mp ht) (by show(W.lookIn name od).map (·.isSome)=some false;rw[hl,hv];rfl) h
theorem Rr {ns:List Str}{Q:Unit→Shared→Prop} (X:K.In s.heap) (I:IA s.heap x dx C mA)
  (hs:W.findIn K (.ref C) "__setattr__" = some (some (.builtin "object.__setattr__"))) (hp:W.plainOver K C=true) (ht:W.takerIn K C name=some none) (hh:W.hasDictIn K C=true)
  (hw:PySem.Within mA ns) (hsz:ns.length≤sizeLine)
  (h:∀ h',IA h' x dx C (fun y=>if y=name then some v else mA y)→Heap.SameBut dx s.heap h'→Q () { s with heap:=h',toks:=s.toks+2 }) :
  wpAny (model prog w) A (setAttr (.ref x) name v) Q E s:=by
 obtain⟨od,J,hl⟩:=I.look
 refine W.set_plain X J hs (W.osa_open (s:={ s with toks:=s.toks+1 }) (r:=none) X J hp ht fun b=>?_)
 obtain⟨cd,hc,hd'⟩:=W.any_some hh
 have hx:s.heap.get? x=some ⟨.ref C,some dx,.plain,#[]⟩:=I.obj
 refine wpAny_bind (wpAny_pure (wpAny_bind (wpAny_bind (wpAny_loadPart hx (wpAny_bind (W.Looks.here (s:={ s with toks:=s.toks+1 }) (W.looks_clsIn X hc) ?_))))))
 rw[hd']
 refine wpAny_pure (a:=some dx) (wpAny_bind (wpAny_pure (wpAny_bind ?_)))
 refine wpAny_nsSet1 (s:={ s with toks:=s.toks+1 }) I.ns fun h' hn2 hs2=>?_
 obtain⟨oD,esD,epD,hoD,hdD,hcD⟩:=hn2.count (PySem.Within.cons name v hw)
 refine wpAny_bind (wpAny_lookBehind hoD (by rw[hdD];exact pastItsLine_dict (Nat.le_trans hcD (by rw[List.length_cons];omega))) ?_)
 exact wpAny_pure (h _ ⟨(hs2.2 _ (Ne.symm I.ne)).trans I.obj,hn2,I.ne⟩ hs2)
theorem Og {R:Result→Shared→Prop}{vs:List Value}{kw:List (Str×Value)} (X:K.In s.heap) (hm:W.makesIn K C=true)
  (hi:W.findIn K (.ref C) "__init__" = some (some (.ref f))) (hf:W.typeIn K (.ref f)=some (.type "function"))
  (h:codeAny (model prog w) (A.under (.builtin "type.__call__" ⟨.ref C :: vs,kw⟩)) (.call (.ref f) ⟨.ref (s.heap.objs.size+1) :: vs,kw⟩) (W.InitBack (s.heap.objs.size+1) R)
   { s with heap:=(s.heap.push W.emptyDict).push (W.instObj C s.heap.objs.size) }) :
  codeAny (model prog w) A (.call (.ref C) ⟨vs,kw⟩) R s:=by
 obtain⟨hh,g,d,t,os⟩:=s
 exact W.make_core (W.makes_of X hm) (W.looks_findIn X hi) (fun self=>W.bind_fn X self hf) (.inl rfl) h
end
def pN (f:Str) (v:V):List (Str×V)→List (Str×V)
 | []=>[(f,v)]
 | (g,x) :: r=>if g=f then (g,v) :: r else (g,x) :: pN f v r
theorem yH (f g:Str) (v:V):∀ fs:List (Str×V),(pN f v fs).lookup g=if g=f then some v else fs.lookup g
 | []=>by
  show List.lookup g [(f,v)]=_
  by_cases h:g=f
  ·have hb:(g == f)=true:=beq_iff_eq.mpr h
   simp only[List.lookup,hb,if_pos h]
  ·have hb:(g == f)=false:=beq_eq_false_iff_ne.mpr h
   simp only[List.lookup,hb,if_neg h]
 | (k,x) :: r=>by
  have ih:=yH f g v r
  rw[show pN f v ((k,x) :: r)=(if k=f then (k,v) :: r else (k,x) :: pN f v r) from rfl]
  by_cases hk:k=f
  ·rw[if_pos hk]
   by_cases h:g=k
   ·have hb:(g == k)=true:=beq_iff_eq.mpr h
    simp only[List.lookup,hb,if_pos (h.trans hk)]
   ·have hb:(g == k)=false:=beq_eq_false_iff_ne.mpr h
    simp only[List.lookup,hb,if_neg (fun e:g=f=>h (e.trans hk.symm))]
  ·rw[if_neg hk]
   by_cases h:g=k
   ·have hb:(g == k)=true:=beq_iff_eq.mpr h
    simp only[List.lookup,hb,if_neg (fun e:g=f=>hk (h.symm.trans e))]
   ·have hb:(g == k)=false:=beq_eq_false_iff_ne.mpr h
    simp only[List.lookup,hb]
    exact ih
theorem xr (f:Str) (v:V):∀ fs:List (Str×V),f∈(pN f v fs).map (·.1)∧∀ g,g∈fs.map (·.1)→g∈(pN f v fs).map (·.1)
 | []=>⟨by simp[pN],fun g h=>by simp at h⟩
 | (k,x) :: r=>by
  obtain⟨i1,i2⟩:=xr f v r
  rw[show pN f v ((k,x) :: r)=(if k=f then (k,v) :: r else (k,x) :: pN f v r) from rfl]
  by_cases hk:k=f
  ·rw[if_pos hk]
   subst hk
   exact⟨by simp,fun g h=>by simpa using h⟩
  ·rw[if_neg hk]
   refine⟨?_,fun g h=>?_⟩
   ·rw[List.map_cons]
    exact List.mem_cons_of_mem _ i1
   ·rw[List.map_cons] at h ⊢
    rcases List.mem_cons.mp h with e | e
    ·exact List.mem_cons.mpr (.inl e)
    ·exact List.mem_cons_of_mem _ (i2 g e)
theorem yI (f:Str) (v:V):∀ fs:List (Str×V),(pN f v fs).length≤fs.length+1
 | []=>by simp[pN]
 | (k,x) :: r=>by
  have ih:=yI f v r
  rw[show pN f v ((k,x) :: r)=(if k=f then (k,v) :: r else (k,x) :: pN f v r) from rfl]
  by_cases hk:k=f
  ·rw[if_pos hk,List.length_cons,List.length_cons];omega
  ·rw[if_neg hk,List.length_cons,List.length_cons];omega
theorem vh.some_of {v:V}{o:Option Value} (r:vh (some v) o):∃ u,o=some u∧RelV v u:=by
 cases o with
 | none=>exact(show False from r).elim
 | some u=>exact⟨u,rfl,r⟩
theorem vh.none_of {o:Option Value} (r:vh none o):o=none:=by
 cases o with
 | none=>rfl
 | some u=>exact(show False from r).elim
theorem LU {v:V}{u:Value} (r:RelV v u):W.handedIn u=true:=by
 cases v with
 | non=>cases(show u=Value.none from r);rfl
 | bl b=>cases(show u=Value.bool b from r);rfl
 | int i=>obtain⟨t,e⟩:=(show ∃ t,u=Value.int i t from r);cases e;rfl
 | str x=>obtain⟨t,e⟩:=(show ∃ t,u=Value.str x t from r);cases e;rfl
 | NP b=>obtain⟨t,e⟩:=(show ∃ t,u=Value.bytes b t from r);cases e;rfl
 | pL b=>obtain⟨t,e⟩:=(show ∃ t,u=Value.float b t from r);cases e;rfl
 | ref a=>cases(show u=Value.ref a from r);rfl
 | ty n=>cases(show u=Value.type n from r);rfl
section
variable {P:Program}{w:World}{H H':Hp}{h h':Heap}{a C dx:Addr}{fs fs':List (Str×V)}
theorem Aa (hok:z0 P w H h) (e:H a=some (.ins C dx fs)):∃ mA,IA h a dx C mA∧(∀ f,vh (fs.lookup f) (mA f))∧PySem.Within mA (fs.map (·.1))∧fs.length≤1000∧H dx=some (.own a):=by
 obtain⟨d,z,ne,ob,mA,n,r,q⟩:=(show dS P w H h a (.ins C dx fs) from hok a _ e)
 exact⟨mA,⟨ob,n,ne⟩,r,q,z,d⟩
end
structure K7 (K:W.Frag) (C:Addr):Prop where
 pg:W.plainGet K C Str.empty=true
 hd:W.hasDictIn K C=true
 po:W.plainOver K C=true
 sa:W.findIn K (.ref C) "__setattr__" = some (some (.builtin "object.__setattr__"))
theorem K7.get {K:W.Frag}{C:Addr} (c:K7 K C) (f:Str):W.plainGet K C f=true:=c.pg
def fu (K:W.Frag) (C:Addr) (f:Str):Prop:=W.findIn K (.ref C) f=some none
theorem fu.Y8 {K:W.Frag}{C:Addr}{f:Str} (n:fu K C f):W.takerIn K C f=some none:=by
 unfold W.takerIn
 rw[show W.findIn K (.ref C) f=some none from n]
 rfl
structure Meth (K:W.Frag) (C:Addr) (m:Str) (f:Addr):Prop where
 at_:W.findIn K (.ref C) m=some (some (.ref f))
 fn:W.isFn K (.ref f)=true
 kp:W.keepIn K (.ref f)=true
section
variable {X:Cx}{pins:List (Addr×Obj)}{σ:St}{H:Hp}{s:Shared}{a C dx:Addr}{fs:List (Str×V)}{f:Str}{v:V}{A:Around}{E:Value→Shared→Prop}
theorem IB {b:Bool}{Q:Value→Shared→Prop} (I:Inv X pins σ H s) (e:H a=some (.ins C dx fs)) (c:K7 X.K C) (n:fu X.K C f) (l:fs.lookup f=some v)
  (h:∀ u s',Inv X pins σ H s'→RelV v u→Q u s'):wpAny (model X.prog X.w) A (getAttr (.ref a) f b) Q E s:=by
 obtain⟨mA,O,r,_,_,_⟩:=Aa I.hok e
 obtain⟨u,hu,ru⟩:=vh.some_of (v:=v) (o:=mA f) (by rw[←l];exact r f)
 exact get_map I.vj O (c.get f) c.hd n hu (LU ru) (h u _ (I.tok _) ru)
theorem Ak {m:Str}{g:Addr}{pl:Sem Bool}{Q:Value×List Value→Shared→Prop} (I:Inv X pins σ H s) (e:H a=some (.ins C dx fs)) (c:K7 X.K C) (k:Meth X.K C m g) (l:fs.lookup m=none)
  (h:Q (.ref g,[.ref a]) s):wpAny (model X.prog X.w) A (getMethod (.ref a) m pl) Q E s:=by
 obtain⟨mA,O,r,_,_,_⟩:=Aa I.hok e
 have hn:mA m=none:=vh.none_of (by rw[←l];exact r m)
 exact Oe I.vj O (c.get m) k.at_ k.fn hn h
theorem IC {y:V}{u:Value}{Q:Unit→Shared→Prop} (I:Inv X pins σ H s) (e:H a=some (.ins C dx fs)) (c:K7 X.K C) (n:fu X.K C f) (hl:fs.length < 1000) (ry:RelV y u)
  (h:∀ s',Inv X pins σ (upd H a (.ins C dx (pN f y fs))) s'→Q () s'):wpAny (model X.prog X.w) A (setAttr (.ref a) f u) Q E s:=by
 obtain⟨mA,O,r,wi,_,ho⟩:=Aa I.hok e
 have hz:(fs.map (·.1)).length≤sizeLine:=by rw[List.length_map,sizeLine_eq];omega
 refine Rr I.vj O c.sa c.po n.Y8 c.hd wi hz fun h' O' sb=>h _ ?_
 have hd:∃ o,h'.get? dx=some o:=let ⟨o,_,_,e',_⟩:=O'.ns;⟨o,e'⟩
 refine I.write (x:=a) (e:=dx) (by rw[e];exact True.intro) (.inr ho) (fun b q hb z=>(sb.2 b hb).trans z) hd ?_
 refine⟨by rw[aC O.ne];exact ho,?_,O.ne,O'.obj,_,O'.ns,fun g=>?_,fun g hg=>?_⟩
 ·have:=yI f y fs;omega
 ·show vh ((pN f y fs).lookup g) (if g=f then some u else mA g)
  rw[yH]
  by_cases q:g=f
  ·rw[if_pos q,if_pos q];exact ry
  ·rw[if_neg q,if_neg q];exact r g
 ·by_cases q:g=f
  ·rw[q];exact(xr f y fs).1
  ·refine(xr f y fs).2 g (wi g fun z=>hg ?_)
   show(if g=f then some u else mA g)=none
   rw[if_neg q];exact z
theorem Inv.made (I:Inv X pins σ H s):Inv X pins σ (upd (upd H s.heap.objs.size (.own (s.heap.objs.size+1))) (s.heap.objs.size+1) (.ins C s.heap.objs.size []))
  { s with heap:=(s.heap.push W.emptyDict).push (W.instObj C s.heap.objs.size) }:=by
 have e1:(s.heap.push W.emptyDict).get? s.heap.objs.size=some W.emptyDict:=Heap.get?_push_size s.heap rfl
 have e2:((s.heap.push W.emptyDict).push (W.instObj C s.heap.objs.size)).get? (s.heap.objs.size+1)=some (W.instObj C s.heap.objs.size):=by
  have:=Heap.get?_push_size (s.heap.push W.emptyDict) (o:=W.instObj C s.heap.objs.size) rfl
  rwa [Heap.size_push] at this
 have e3:(s.heap.push W.emptyDict).Ns s.heap.objs.size (fun _=>none):=⟨W.emptyDict,#[],_,e1,rfl,(fun e he=>absurd he (by simp)),fun _=>rfl⟩
 have I1:=I.laid (a:=s.heap.objs.size) (o:=.own (s.heap.objs.size+1)) (h':=s.heap.push W.emptyDict) (t':=s.toks) (fun b u q=>Heap.get?_push_of_some _ q) (Nat.le_refl _) ⟨_,e1⟩
 refine I1.laid (a:=s.heap.objs.size+1) (o:=.ins C s.heap.objs.size []) (t':=s.toks) (fun b u q=>Heap.get?_push_of_some _ q) (Nat.le_of_eq (Heap.size_push _ _)) ?_
 have ne:s.heap.objs.size≠s.heap.objs.size+1:=Nat.ne_of_lt (Nat.lt_succ_self _)
 refine⟨by rw[aC ne,aj],Nat.zero_le _,ne,e2,fun _=>none,(Heap.Ns1.of_empty e3).at fun o q=>Heap.get?_push_of_some _ q,fun _=>True.intro,fun y hy=>absurd rfl hy⟩
theorem Rt {prog:Program}{w:World}{env:Env}{e:Expr}{f:Str}{pos:Pos}{s:Shared}{Q:Value→Shared→Prop} (hb:attributeBase e f env (eval e env)=eval e env)
  (h:wpAny (model prog w) A (eval e env) (fun o s₁=>wpAny (model prog w) A (getAttr o f true) Q E s₁) E s):wpAny (model prog w) A (eval (.Attribute e f pos) env) Q E s :=
 Attribute_any_ h (by rw[arm_eval_Attribute,hb])
end
def Y9 (K:W.Frag) (ta:TE) (f:Str):TE:=fun σ H Q=>ta σ H fun x H1=>∃ a C dx fs v,x=.ref a∧H1 a=some (.ins C dx fs)∧K7 K C∧fu K C f∧fs.lookup f=some v∧Q v H1
def afQ (K:W.Frag) (ta tv:TE) (f:Str):TS:=fun D σ H=>tv σ H fun y H1=>ta σ H1 fun x H2=>∃ a C dx fs,x=.ref a∧H2 a=some (.ins C dx fs)∧K7 K C∧fu K C f∧fs.length < 1000 ∧
 D.nx σ (upd H2 a (.ins C dx (pN f y fs)))
section
variable {X:Cx}{o e value:Expr}{f:Str}{pos pos' tpos:Pos}{ta tv:TE}
theorem UT (he:PE X e ta) (hb:attributeBase e f X.env (eval e X.env)=eval e X.env):PE X (.Attribute e f pos) (Y9 X.K ta f):=by
 intro pins s σ H Q I h
 refine Rt hb (dj (he pins s σ H _ I h) fun u s1 ⟨x,H1,I1,rx,a,C,dx,fs,v,ex,ea,c,n,l,q⟩=>?_)
 subst ex
 obtain rfl:u=Value.ref a:=rx
 exact IB I1 ea c n l fun u' s2 I2 ru=>⟨v,H1,I2,ru,q⟩
theorem jz (ha:PE X o ta) (hv:PE X value tv) (hs:swapsWith value (some (.Attribute o f pos')) pos.line X.env=pure false):PS X (.Assign [.Attribute o f pos'] value pos) (afQ X.K ta tv f):=by
 intro pins s σ H D I h
 refine plainObj_wpAny_Assign_Attribute (dj (hv pins s σ H _ I h) fun u s1 ⟨y,H1,I1,ry,q⟩=>dj (ha pins s1 σ H1 _ I1 q) fun ov s2 ⟨x,H2,I2,rx,a,C,dx,fs,ex,ea,c,n,l,q2⟩=>?_) hs
 subst ex
 obtain rfl:ov=Value.ref a:=rx
 exact IC I2 ea c n l ry fun s3 I3=>⟨σ,_,I3,q2⟩
end
section
variable {X:Cx}{pins:List (Addr×Obj)}{σ:St}{H:Hp}{s:Shared}{A:Around}{E:Value→Shared→Prop}{Q:Value→Shared→Prop}{c:Value}{b:Bool}
inductive uB (K:W.Frag) (H:Hp):V→Value→Prop where
 | non:uB K H .non (.type "NoneType")
 | bl (x:Bool):uB K H (.bl x) (.type "bool")
 | int (i:Int):uB K H (.int i) (.type "int")
 | str (x:Str):uB K H (.str x) (.type "str")
 | pL (x:UInt64):uB K H (.pL x) (.type "float")
 | lst {a:Addr}{xs:List V} (e:H a=some (.lst xs)):uB K H (.ref a) (.type "list")
 | KZ {a:Addr}{o:Obj}{xs:List V} (e:H a=some (.KZ o (.lst xs))):uB K H (.ref a) (.type "list")
 | tup {a:Addr}{xs:List V} (e:H a=some (.tup xs)):uB K H (.ref a) (.type "tuple")
 | dK {a:Addr}{kvs:List (Key×V)} (e:H a=some (.dK kvs)):uB K H (.ref a) (.type "dict")
 | dT {a:Addr}{kvs:List (List Key×V)} (e:H a=some (.dT kvs)):uB K H (.ref a) (.type "dict")
 | ins {a C dx:Addr}{fs:List (Str×V)} (e:H a=some (.ins C dx fs)) (cl:K7 K C) (ha:W.findIn K (.ref C) "__class__" = some (some (.builtin "object.__class__")))
   (hn:W.specialIn K (.builtin "object.__class__") "__get__" = some (some (.builtin "getset_descriptor.__get__"))) (htk:W.takesIn K (.builtin "object.__class__")=some true)
   (hm:W.mroIn K C (.type "object")=some true):uB K H (.ref a) (.ref C)
theorem CY {x:V}{u t:Value} (I:Inv X pins σ H s) (rx:RelV x u) (ty:uB X.K H x t) (e:W.kitOne X.K t c=some b) (h:∀ tk,Q (.bool b) { s with toks:=tk }) :
  wpAny (model X.prog X.w) A (call (.builtin "isinstance") [u,c]) Q E s:=by
 cases ty with
 | non=>cases(show u=Value.none from rx);exact W.kia_one W.kitx_none I.vj True.intro e (fun z=>nomatch z) h
 | bl y=>cases(show u=Value.bool y from rx);exact W.kia_one W.kitx_bool I.vj True.intro e (fun z=>nomatch z) h
 | int i=>obtain⟨t,q⟩:=(show ∃ t,u=Value.int i t from rx);cases q;exact W.kia_one W.kitx_int I.vj True.intro e (fun z=>nomatch z) h
 | str y=>obtain⟨t,q⟩:=(show ∃ t,u=Value.str y t from rx);cases q;exact W.kia_one W.kitx_str I.vj True.intro e (fun z=>nomatch z) h
 | pL y=>obtain⟨t,q⟩:=(show ∃ t,u=Value.float y t from rx);cases q;exact W.kia_one W.kitx_float I.vj True.intro e (fun z=>nomatch z) h
 | @lst a xs ea =>
  cases(show u=Value.ref a from rx)
  obtain⟨_,_,n,_,h1⟩:=(show dS X.prog X.w H s.heap a (.lst xs) from I.hok a _ ea)
  exact W.kia_one W.kitx_list I.vj ⟨_,h1,rfl⟩ e (fun z=>nomatch z) h
 | @KZ a ob xs ea =>
  cases(show u=Value.ref a from rx)
  obtain⟨_,_,_,n,_,h1⟩:=(show dS X.prog X.w H s.heap a (.KZ ob (.lst xs)) from I.hok a _ ea)
  exact W.kia_one W.kitx_list I.vj ⟨_,h1,rfl⟩ e (fun z=>nomatch z) h
 | @tup a xs ea =>
  cases(show u=Value.ref a from rx)
  obtain⟨_,_,_,p⟩:=(show dS X.prog X.w H s.heap a (.tup xs) from I.hok a _ ea)
  obtain⟨o,h1,h2,_⟩:=p
  exact W.kia_one W.kitx_tuple I.vj ⟨o,h1,h2⟩ e (fun z=>nomatch z) h
 | @dK a kvs ea =>
  cases(show u=Value.ref a from rx)
  obtain⟨_,_,vs,_,p⟩:=(show dS X.prog X.w H s.heap a (.dK kvs) from I.hok a _ ea)
  obtain⟨o,es,ep,h1,h2,_⟩:=p
  exact W.kia_one W.kitx_dict I.vj ⟨o,h1,h2.1⟩ e (fun z=>nomatch z) h
 | @dT a kvs ea =>
  cases(show u=Value.ref a from rx)
  obtain⟨_,_,xs,_,o,es,ep,h1,h2,_⟩:=(show dS X.prog X.w H s.heap a (.dT kvs) from I.hok a _ ea)
  exact W.kia_one W.kitx_dict I.vj ⟨o,h1,h2.1⟩ e (fun z=>nomatch z) h
 | @ins a C dx fs ea cl ha hn htk hm =>
  cases(show u=Value.ref a from rx)
  obtain⟨mA,O,_⟩:=Aa I.hok ea
  obtain⟨od,J,_⟩:=O.look
  exact W.kia_one (W.kitx_own (cl.get _) cl.hd ha hn htk hm) I.vj J e (fun z=>nomatch z) h
end
structure iO (k:Nat) (A:Around):Prop where
 hd:A.handled=none
 dp:A.depth+3 * k+5 < recursionLimit
 un:A.units+16 * k+200 < cLine
theorem iO.mono {j k:Nat}{A:Around} (r:iO k A) (h:j≤k):iO j A:=⟨r.hd,by have:=r.dp;omega,by have:=r.un;omega⟩
theorem iO.deeper {k:Nat}{A:Around} (r:iO (k+1) A) (env:Env):iO k (A.deeper env) :=
 ⟨r.hd,by have:=r.dp;show A.depth+1+3 * k+5 < _;omega,by have:=r.un;show A.units+3+16 * k+200 < _;omega⟩
theorem ID {A:Around}{C:Addr}{us:List Value}{kw:List (Str×Value)}:(A.under (.builtin "type.__call__" ⟨.ref C :: us,kw⟩)).depth=A.depth+1:=by
 first | rfl | simp[Around.under,Code.weight,Code.isCreation,Code.isGuard,Code.isCaller,Code.frames,Code.isFrame,guardIds]
theorem IE {A:Around}{C:Addr}{us:List Value}{kw:List (Str×Value)}:(A.under (.builtin "type.__call__" ⟨.ref C :: us,kw⟩)).units=A.units+1:=by
 first | rfl | simp[Around.under,Code.cUnits,Code.frames,Code.isFrame]
theorem iO.make {k:Nat}{A:Around} (r:iO (k+1) A) (C:Addr) (us:List Value) (kw:List (Str×Value)):iO k (A.under (.builtin "type.__call__" ⟨.ref C :: us,kw⟩)) :=
 ⟨r.hd,by have:=r.dp;rw[ID];omega,by have:=r.un;rw[IE];omega⟩
theorem iO.depth {k:Nat}{A:Around} (r:iO k A):A.depth < recursionLimit:=by have:=r.dp;omega
theorem iO.units {k:Nat}{A:Around} (r:iO k A):A.units+64 < cLine:=by have:=r.un;omega
theorem iO.aN {k:Nat}{A:Around} (r:iO k A):A.units < cLine:=by have:=r.un;omega
def Za:TA:=fun _ H Q=>Q [] H
def Zb (ta:TE) (tr:TA):TA:=fun σ H Q=>ta σ H fun x H1=>tr σ H1 fun xs H2=>Q (x :: xs) H2
section
variable {X:Cx}{e:Expr}{es:List Expr}{te:TE}{t:TA}{pos:Pos}
theorem ah:PA X [] Za:=fun _ _ _ _ H Q I h=>Calls.spliced_nil ⟨[],H,I,.nil,h⟩
theorem af (ha:PE X e te) (hr:PA X es t) (hs:starEach (e :: es) X.env=(false,eval e X.env) :: starEach es X.env:=by rfl):PA X (e :: es) (Zb te t):=by
 intro pos pins s σ H Q I h
 rw[hs]
 show wpAny _ _ (spliced ((false,eval e X.env) :: backTo pos (starEach es X.env))) _ _ s
 refine Calls.spliced_cons (dj (ha pins s σ H _ I h) fun u s1 ⟨x,H1,I1,r1,q1⟩=>?_)
 exact dj (hr pos pins s1 σ H1 _ I1 q1) fun us s2 ⟨xs,H2,I2,r2,q2⟩=>⟨x :: xs,H2,I2,.cons r1 r2,q2⟩
def afR (t:TA):TE:=fun σ H Q=>t σ H fun xs H1=>xs.length≤sizeLine∧∀ p,H1 p=none→Q (.ref p) (upd H1 p (.tup xs))
def afS (t:TA):TE:=fun σ H Q=>t σ H fun xs H1=>xs.length≤sizeLine∧∀ p,H1 p=none→Q (.ref p) (upd H1 p (.lst xs))
theorem aL {x1} (h:PA X es t):PE X (.Tuple es x1 pos) (afR t):=by
 intro pins s σ H Q I hq
 refine wpAny_Tuple_spliced (dj (h pos pins s σ H _ I hq) fun us s1 ⟨xs,H1,I1,r,z,q⟩=>⟨by rw[←r.length];exact z,?_⟩)
 have hf:H1 s1.heap.objs.size=none:=I1.hok.fresh (Nat.le_refl _)
 refine⟨.ref s1.heap.objs.size,upd H1 s1.heap.objs.size (.tup xs),I1.laid (t':=s1.toks) (fun b u e=>Heap.get?_push_of_some _ e) (Nat.le_refl _) ?_,rfl,q _ hf⟩
 exact⟨z,us,r,⟨_,Heap.get?_push_size _ rfl,rfl,_,rfl⟩⟩
theorem bB (h:PA X es t):PE X (.List es pos) (afS t):=by
 intro pins s σ H Q I hq
 refine wpAny_List_spliced (dj (h pos pins s σ H _ I hq) fun us s1 ⟨xs,H1,I1,r,z,q⟩=>⟨by rw[←r.length];exact z,?_⟩)
 have hf:H1 s1.heap.objs.size=none:=I1.hok.fresh (Nat.le_refl _)
 refine⟨.ref s1.heap.objs.size,upd H1 s1.heap.objs.size (.lst xs),I1.laid (t':=s1.toks) (fun b u e=>Heap.get?_push_of_some _ e) (Nat.le_refl _) ?_,rfl,q _ hf⟩
 exact⟨z,us,0,r,Heap.get?_push_size _ rfl⟩
end
abbrev Sp:=List V→Hp→VK→XK→Prop
abbrev NR:=List Env→Hp→Shared→XK→Value→Shared→Prop
structure IF (P:Program) (w:World) (K:W.Frag) (mg:Str→Option Value) (base:Heap) (A:Around) (outer:List Env) (s:Shared) (H:Hp):Prop where
 frames:A.frames=some outer
 mod:Mod K mg base
 bs:∀ b o,base.get? b=some o→s.heap.get? b=some o∧H b=none
 Rh:base.objs.size≤s.heap.objs.size
 zc:s.heap.FunFrames base outer
 UG:∀ b∈frs outer,H b=none
 hok:z0 P w H s.heap
 bare:AllBare s.gens
def CE (outer:List Env) (P:Program) (w:World) (H:Hp) (s:Shared) (Q:VK) (u:Value) (s':Shared):Prop :=
 ∃ v H',s'.os=s.os∧AllBare s'.gens∧Un (frs outer) [] H H' s.heap s'.heap∧z0 P w H' s'.heap∧RelV v u∧Q v H'
def CR (CX:NR) (outer:List Env) (P:Program) (w:World) (H:Hp) (s:Shared) (Q:VK) (E:XK) (r:Result) (s':Shared):Prop :=
 match r with
 | .ok (.ret u)=>CE outer P w H s Q u s'
 | .ok _=>False
 | .error e=>CX outer H s E e s'
structure aG (P:Program) (w:World) (K:W.Frag) (mg:Str→Option Value) (base:Heap) (CX:NR) (k:Nat) (f:Addr) (fd:FuncData) (ps:List Str) (sp:Sp):Prop where
 len:∀ vs H Q E,sp vs H Q E→vs.length=ps.length
 run:∀(A:Around) (outer:List Env) (s:Shared) (H:Hp) (args:Args) (us:List Value) (vs:List V) (Q:VK) (E:XK),iO k A→IF P w K mg base A outer s H→BindsTo s fd args (ps.zip us)→Vals vs us→sp vs H Q E →
  codeAny (model P w) A (.call (.ref f) args) (CR CX outer P w H s Q E) s
theorem IF.make {P:Program}{w:World}{K:W.Frag}{mg:Str→Option Value}{base:Heap}{A:Around}{outer:List Env}{s:Shared}{H:Hp} (e:IF P w K mg base A outer s H) (C:Addr) (us:List Value) (kw:List (Str×Value)) :
 IF P w K mg base (A.under (.builtin "type.__call__" ⟨.ref C :: us,kw⟩)) outer s H:=⟨by first | exact e.frames | (simpa [Around.under,Code.envs,Code.isFrame,pushEnvs] using e.frames),e.mod,e.bs,e.Rh,e.zc,e.UG,e.hok,e.bare⟩
section
variable {X:Cx}{pins:List (Addr×Obj)}{σ:St}{H:Hp}{s s':Shared}
theorem Inv.Zc (I:Inv X pins σ H s):IF X.prog X.w X.K X.mg X.base X.A X.stack s H :=
 ⟨I.ok.frames,I.ok.mod,I.bs,Nat.le_trans I.ok.Rh I.sz,I.stack,I.K0,I.hok,I.bare⟩
theorem Inv.after {Q:VK}{u:Value} (I:Inv X pins σ H s) (h:CE X.stack X.prog X.w H s Q u s'):EP X pins σ Q u s':=by
 obtain⟨v,H',os,bare,un,hok,r,q⟩:=h
 obtain⟨hh,g,d,t,os'⟩:=s'
 obtain rfl:os'=s.os:=os
 exact⟨v,H',I.call (h':=hh) (g':=g) (d':=d) (t':=t) (ch:=[]) un hok bare (fun b z=>absurd z (by simp)),r,q⟩
end
def TU (sp:Sp) (BS:List V) (E:XK) (t:TA):TE:=fun σ H Q=>t σ H fun vs H1=>sp (vs++BS) H1 Q E
def TV (C:Addr) (m:Str) (sp:Sp) (BS:List V) (E:XK) (ta:TE) (t:TA):TE:=fun σ H Q=>ta σ H fun x H1=>∃ a dx fs,x=.ref a∧H1 a=some (.ins C dx fs)∧fs.lookup m=none ∧
 t σ H1 fun vs H2=>sp (x :: (vs++BS)) H2 Q E
def Zd (C:Addr) (sp:Sp) (BS:List V) (E:XK) (t:TA):TE:=fun σ H Q=>t σ H fun vs H1=>∀ x dx,H1 x=none→H1 dx=none→dx≠x →
 sp (.ref x :: (vs++BS)) (upd (upd H1 dx (.own x)) x (.ins C dx [])) (fun v H2=>v=.non∧Q (.ref x) H2) E
def Binds (K:W.Frag) (fd:FuncData) (ps:List Str) (ds:List Value):Prop :=
 ∀(s:Shared) (us:List Value),K.In s.heap→(us++ds).length=ps.length→BindsTo s fd ⟨us,[]⟩ (ps.zip (us++ds))
theorem Binds.all {K:W.Frag}{fd:FuncData}{ps:List Str} (h:∀ us:List Value,us.length=ps.length→bindArgs fd ⟨us,[]⟩=pure (ps.zip us)):Binds K fd ps []:=fun s us _ hl=>by
 rw[List.append_nil] at hl ⊢
 exact .of_eq (h us hl)
def Passes (CX:NR) (X:Cx) (E:XK):Prop:=∀(pins:List (Addr×Obj)) (σ:St) (H:Hp) (s:Shared) (e:Value) (s':Shared),Inv X pins σ H s→CX X.stack H s E e s'→X.xe e s'
section
variable {X:Cx}{CX:NR}{k:Nat}{f C:Addr}{fd:FuncData}{ps:List Str}{sp:Sp}{BS:List V}{ds:List Value}{E:XK}{x m:Str}{p pos apos:Pos}{e o:Expr}{es:List Expr}{ta:TE}{t:TA}
theorem IG {pins:List (Addr×Obj)}{σ:St}{H:Hp}{s:Shared}{Q:VK}{us:List Value}{vs:List V} (F:aG X.prog X.w X.K X.mg X.base CX k f fd ps sp) (hr:iO k X.A) (hb:Binds X.K fd ps ds) (hd:Vals BS ds) (hx:Passes CX X E)
  (I:Inv X pins σ H s) (r:Vals vs us) (h:sp (vs++BS) H Q E):wpAny (model X.prog X.w) X.A (call (.ref f) us) (EP X pins σ Q) X.xe s:=by
 have r2:Vals (vs++BS) (us++ds):=r.append hd
 have hl:(us++ds).length=ps.length:=by rw[←r2.length];exact F.len _ _ _ _ h
 refine wpAny_call (codeAny_mono (F.run X.A X.stack s H ⟨us,[]⟩ (us++ds) (vs++BS) Q E hr I.Zc (hb s us I.vj hl) r2 h) fun r s' hq=>?_)
 cases r with
 | error e=>exact hx pins σ H s e s' I hq
 | ok fl =>
  cases fl with
  | ret u=>exact I.after hq
  | next=>exact False.elim hq
  | brk=>exact False.elim hq
  | cont=>exact False.elim hq
theorem Ru (F:aG X.prog X.w X.K X.mg X.base CX k f fd ps sp) (hr:iO k X.A) (hg:Gl X x) (hm:X.mg x=some (.ref f)) (hk:W.keepIn X.K (.ref f)=true) (hb:Binds X.K fd ps ds) (hd:Vals BS ds) (hx:Passes CX X E)
  (ha:PA X (e :: es) t) (hdb:(x == ("__debug__" : Str))=false:=by decide) (he:starEach (e :: es) X.env=(false,eval e X.env) :: starEach es X.env:=by rfl) (hpl:(backTo pos (starEach es X.env)).any (·.1)=false:=by rfl) :
  PE X (.Call (.Name x p) (e :: es) [] pos) (TU sp BS E t):=by
 intro pins s σ H Q I h
 refine wpAny_Call_Name_kw (DX I hg hm ?_ hdb)
 refine W.callWith_K (h₀:=X.base) I.ok.mod.YK hk (dj (ha pos pins s σ H _ I h) fun us s1 ⟨vs,H1,I1,r,q⟩=>⟨I1.vj,?_⟩) he hpl
 exact IG F hr hb hd hx I1 r q
theorem ie {pl:Sem Bool} (he:PE X o ta) (c:K7 X.K C) (hm:Meth X.K C m f) (F:aG X.prog X.w X.K X.mg X.base CX k f fd ps sp) (hr:iO k X.A) (hb:Binds X.K fd ps ds) (hd:Vals BS ds) (hx:Passes CX X E) (ha:PA X (e :: es) t)
  (hst:starEach (e :: es) X.env=(false,eval e X.env) :: starEach es X.env:=by rfl) (hpl:(backTo pos (starEach es X.env)).any (·.1)=false:=by rfl)
  (ht:eval (.Call (.Attribute o m apos) (e :: es) [] pos) X.env=(do
   let ov ←eval o X.env
   standAt apos.atName
   let (f,first) ←holding [ov] (getMethod ov m pl)
   callWith pos f first (backTo pos (starEach (e :: es) X.env)) (backToKw pos (keywordEach [] X.env))):=by rfl) :
  PE X (.Call (.Attribute o m apos) (e :: es) [] pos) (TV C m sp BS E ta t):=by
 intro pins s σ H Q I h
 refine W.methodCall_KW (pl:=pl) (dj (he pins s σ H _ I h) fun u s1 ⟨x,H1,I1,rx,a,dx,fs,ex,ea,l,q⟩=>?_) ht
 subst ex
 obtain rfl:u=Value.ref a:=rx
 refine Ak I1 ea c hm l ?_
 refine W.callWith_K (first:=[.ref a]) (h₀:=X.base) I.ok.mod.YK hm.kp (dj (ha pos pins s1 σ H1 _ I1 q) fun us s2 ⟨vs,H2,I2,r,q2⟩=>⟨I2.vj,?_⟩) hst hpl
 exact IG (us:=.ref a :: us) (vs:=.ref a :: vs) F hr hb hd hx I2 (.cons rfl r) q2
theorem FH {pl:Sem Bool} (he:PE X o ta) (c:K7 X.K C) (hm:Meth X.K C m f) (F:aG X.prog X.w X.K X.mg X.base CX k f fd ps sp) (hr:iO k X.A) (hb:Binds X.K fd ps ds) (hd:Vals BS ds) (hx:Passes CX X E)
  (ht:eval (.Call (.Attribute o m apos) [] [] pos) X.env=(do
   let ov ←eval o X.env
   standAt apos.atName
   let (f,first) ←holding [ov] (getMethod ov m pl)
   callWith pos f first (backTo pos (starEach [] X.env)) (backToKw pos (keywordEach [] X.env))):=by rfl) :
  PE X (.Call (.Attribute o m apos) [] [] pos) (TV C m sp BS E ta Za):=by
 intro pins s σ H Q I h
 refine W.methodCall_KW (pl:=pl) (dj (he pins s σ H _ I h) fun u s1 ⟨x,H1,I1,rx,a,dx,fs,ex,ea,l,q⟩=>?_) ht
 subst ex
 obtain rfl:u=Value.ref a:=rx
 refine Ak I1 ea c hm l ?_
 exact W.callWith_K0 (first:=[.ref a]) I1.vj hm.kp (IG (us:=[.ref a]) (vs:=[.ref a]) F hr hb hd hx I1 (.cons rfl .nil) q)
structure Mk (K:W.Frag) (C f:Addr):Prop where
 makes:W.makesIn K C=true
 init:W.findIn K (.ref C) "__init__" = some (some (.ref f))
 fn:W.isFn K (.ref f)=true
 kp:W.keepIn K (.ref C)=true
theorem Oh {pins:List (Addr×Obj)}{σ:St}{H:Hp}{s:Shared}{Q:VK}{us:List Value}{vs:List V} (M:Mk X.K C f) (F:aG X.prog X.w X.K X.mg X.base CX k f fd ps sp) (hr:iO (k+1) X.A) (hb:Binds X.K fd ps ds) (hd:Vals BS ds)
  (hx:Passes CX X E) (I:Inv X pins σ H s) (r:Vals vs us)
  (h:∀ x dx,H x=none→H dx=none→dx≠x→sp (.ref x :: (vs++BS)) (upd (upd H dx (.own x)) x (.ins C dx [])) (fun v H2=>v=.non∧Q (.ref x) H2) E) :
  wpAny (model X.prog X.w) X.A (call (.ref C) us) (EP X pins σ Q) X.xe s:=by
 have hq:=h (s.heap.objs.size+1) s.heap.objs.size (I.hok.fresh (Nat.le_succ _)) (I.hok.fresh (Nat.le_refl _)) (Nat.ne_of_lt (Nat.lt_succ_self _))
 have I2:=Inv.made (C:=C) I
 have r2:Vals (V.ref (s.heap.objs.size+1) :: (vs++BS)) (Value.ref (s.heap.objs.size+1) :: (us++ds)):=.cons rfl (r.append hd)
 have hl:(Value.ref (s.heap.objs.size+1) :: us++ds).length=ps.length:=by
  have e:=r2.length
  rw[F.len _ _ _ _ hq] at e
  exact e.symm
 refine wpAny_call (Og (f:=f) I.vj M.makes M.init (beq_iff_eq.mp M.fn) (codeAny_mono (F.run _ X.stack _ _ ⟨Value.ref (s.heap.objs.size+1) :: us,[]⟩ (Value.ref (s.heap.objs.size+1) :: (us++ds)) _ _ E (hr.make C us [])
  (I2.Zc.make C us []) (hb _ (Value.ref (s.heap.objs.size+1) :: us) I2.vj hl) r2 hq) fun r s' hq'=>?_))
 cases r with
 | error e=>exact hx pins σ _ _ e s' I2 hq'
 | ok fl =>
  cases fl with
  | ret u =>
   obtain⟨v,H',I3,rv,ev,q3⟩:=I2.after hq'
   subst ev
   exact⟨rv,⟨V.ref (s.heap.objs.size+1),H',I3,rfl,q3⟩⟩
  | next=>exact False.elim hq'
  | brk=>exact False.elim hq'
  | cont=>exact False.elim hq'
theorem nc (M:Mk X.K C f) (F:aG X.prog X.w X.K X.mg X.base CX k f fd ps sp) (hr:iO (k+1) X.A) (hg:Gl X x) (hm:X.mg x=some (.ref C)) (hb:Binds X.K fd ps ds) (hd:Vals BS ds) (hx:Passes CX X E)
  (ha:PA X (e :: es) t) (hdb:(x == ("__debug__" : Str))=false:=by decide) (he:starEach (e :: es) X.env=(false,eval e X.env) :: starEach es X.env:=by rfl) (hpl:(backTo pos (starEach es X.env)).any (·.1)=false:=by rfl) :
  PE X (.Call (.Name x p) (e :: es) [] pos) (Zd C sp BS E t):=by
 intro pins s σ H Q I h
 refine wpAny_Call_Name_kw (DX I hg hm ?_ hdb)
 refine W.callWith_K (h₀:=X.base) I.ok.mod.YK M.kp (dj (ha pos pins s σ H _ I h) fun us s1 ⟨vs,H1,I1,r,q⟩=>⟨I1.vj,?_⟩) he hpl
 exact Oh M F hr hb hd hx I1 r q
end
section
variable {X:Cx}{CX:NR}{k:Nat}{f C:Addr}{fd:FuncData}{ps ks:List Str}{sp:Sp}{E:XK}{x m:Str}{p pos apos kpos:Pos}{e o:Expr}{es:List Expr}{kws:List Keyword}{te ta:TE}{t tk:TA}{nm:Option Str}
variable {g:List Value→List Value→List Value}{gV:List V→List V→List V}
end
structure aD (N P:List Str) (sc:Scope):Prop where
 kind:sc.kind=.function
 co:sc.isCoroutine=false
 gen:sc.isGenerator=false
 nd:N.Nodup
 pre:N.take P.length=P
 par:∀ x∈P,sc.names.lookup x=some .local∨sc.names.lookup x=some .cell
 UU:∀ y∈sc.names,y.2≠.free
theorem CZ {kindOf:Str→Option NameKind}{x:Str}:∀{binds:List (Str×Value)}{m:Str→Option Value},(∀ v,(x,v)∉binds)→bindL kindOf binds m x=m x
 | [],_,_=>rfl
 | (n,v) :: r,m,h=>by
  unfold bindL
  rw[CZ fun w hw=>h w (List.mem_cons_of_mem _ hw)]
  split
  ·have:x≠n:=by rintro rfl;exact h v List.mem_cons_self
   simp[this]
  ·rfl
theorem C0 {kindOf:Str→Option NameKind}{x:Str}:∀{binds:List (Str×Value)}{m:Str→Option Value},(∀ v,(x,v)∉binds)→bindC kindOf binds m x=m x
 | [],_,_=>rfl
 | (n,v) :: r,m,h=>by
  unfold bindC
  rw[C0 fun w hw=>h w (List.mem_cons_of_mem _ hw)]
  split
  ·rfl
  ·have:x≠n:=by rintro rfl;exact h v List.mem_cons_self
   simp[this]
theorem C3 {kindOf:Str→Option NameKind}{x:Str}{v:Value}:∀{P:List Str}{vs:List Value}{i:Nat}{m:Str→Option Value},P.Nodup→P[i]? = some x→vs[i]? = some v→kindOf x=some .local →
  bindL kindOf (P.zip vs) m x=some v
 | [],_,_,_,_,h,_,_=>by simp at h
 | _ :: _,[],_,_,_,_,h,_=>by simp at h
 | p :: P,w :: vs,0,m,nd,h1,h2,hk=>by
  simp at h1 h2;subst h1;subst h2
  show bindL kindOf ((p,w) :: P.zip vs) m p=_
  unfold bindL
  rw[CZ fun v hv=>(List.nodup_cons.mp nd).1 (List.of_mem_zip hv).1,if_pos hk]
  simp
 | p :: P,w :: vs,i+1,m,nd,h1,h2,hk=>by
  show bindL kindOf ((p,w) :: P.zip vs) m x=_
  unfold bindL
  exact C3 (i:=i) (List.nodup_cons.mp nd).2 (by simpa using h1) (by simpa using h2) hk
theorem C4 {kindOf:Str→Option NameKind}{x:Str}{v:Value}:∀{P:List Str}{vs:List Value}{i:Nat}{m:Str→Option Value},P.Nodup→P[i]? = some x→vs[i]? = some v→kindOf x≠some .local →
  bindC kindOf (P.zip vs) m x=some v
 | [],_,_,_,_,h,_,_=>by simp at h
 | _ :: _,[],_,_,_,_,h,_=>by simp at h
 | p :: P,w :: vs,0,m,nd,h1,h2,hk=>by
  simp at h1 h2;subst h1;subst h2
  show bindC kindOf ((p,w) :: P.zip vs) m p=_
  unfold bindC
  rw[C0 fun v hv=>(List.nodup_cons.mp nd).1 (List.of_mem_zip hv).1,if_neg hk]
  simp
 | p :: P,w :: vs,i+1,m,nd,h1,h2,hk=>by
  show bindC kindOf ((p,w) :: P.zip vs) m x=_
  unfold bindC
  exact C4 (i:=i) (List.nodup_cons.mp nd).2 (by simpa using h1) (by simpa using h2) hk
def start (N:List Str) (vs:List V):St:=vs.map some++List.replicate (N.length - vs.length) none
def II (CX:NR) (P:Program) (w:World) (K:W.Frag) (mg:Str→Option Value) (base:Heap) (N:List Str) (qual:Str) (scope:Scope) (f:Addr) (cd:Value) (A:Around) (outer:List Env) (s:Shared) (H:Hp) (E:XK):Cx where
 prog:=P
 w:=w
 K:=K
 mg:=mg
 base:=base
 A:=A.deeper (envOfC qual scope s.heap.objs.size f cd)
 N:=N
 s₀:=s
 H₀:=H
 env:=envOfC qual scope s.heap.objs.size f cd
 outer:=outer
 stack:=envOfC qual scope s.heap.objs.size f cd :: outer
 ex:=[]
 calm:=true
 fn:=fun _=>true
 pn:=[]
 xe:=fun e s'=>wpAny (model P w) (A.deeper (envOfC qual scope s.heap.objs.size f cd)) (leaving (envOfC qual scope s.heap.objs.size f cd) e) (fun _ s''=>CX outer H s E e s'') (fun e' s''=>CX outer H s E e' s'') s'
theorem FI {sc:Scope}{n:Nat}{x:Str} (h:sc.names.lookup x=some .cell):∃ c,(cellsFrom n sc.names []).lookup x=some c:=by
 have q:=W.cellsFrom_some sc.names n [] (.inl h)
 exact Option.isSome_iff_exists.mp q
theorem LV {CX:NR}{P:Program}{w:World}{K:W.Frag}{mg:Str→Option Value}{base:Heap}{N ps:List Str}{qual:Str}{scope:Scope}{f:Addr}{cd:Value}{A:Around}{outer:List Env}{s s1:Shared}{H:Hp}{E:XK}{us:List Value}{vs:List V}
  (S:aD N ps scope) (hd:A.handled=none) (e0:IF P w K mg base A outer s H) (hl:vs.length=ps.length) (r:Vals vs us)
  (x:InCallC s s.heap.objs.size (bindL (envOfC qual scope s.heap.objs.size f cd).kindOf (ps.zip us) fun _=>none) (cellsFrom (s.heap.objs.size+1) scope.names []) (bindC (envOfC qual scope s.heap.objs.size f cd).kindOf (ps.zip us) fun _=>none) s1) :
  Inv (II CX P w K mg base N qual scope f cd A outer s H E) [] (start N vs) H s1:=by
 have hpl:ps.length≤N.length:=by have:=congrArg List.length S.pre;rw[List.length_take] at this;omega
 obtain⟨h1,tk,rfl,hk⟩:=x.done
 have Ze:∀ b:Addr,b∉(II CX P w K mg base N qual scope f cd A outer s H E).ex:=fun b z=>absurd (show b∈([]:List Addr) from z) (by simp)
 refine⟨⟨e0.mod,S.kind,rfl,rfl,Nat.le_refl _,fun y z c h1 h2=>?_,fun y hy=>?_,fun y c _ h=>?_,fun _=>hd,Around.frames_deeper e0.frames,.inr ⟨rfl,rfl⟩,fun b z=>absurd z (Ze b),e0.bs,e0.Rh,fun b _ _=>Ze b,fun b z=>absurd z (Ze b),e0.zc,e0.UG⟩,
  rfl,e0.bare,Un.kept hk,⟨_,x.toInCall.ns,fun i y v h1 h2 h3=>?_⟩,fun y c h=>⟨_,x.cell y c h⟩,e0.hok.fresh (Nat.le_refl _),fun y c h=>?_,fun p hp=>absurd (show p∈([]:List (Addr×Obj)) from hp) (by simp),e0.hok.kept hk,?_⟩
 ·exact name_of_addr x.apart (PySem.mem_of_lookup h1) (PySem.mem_of_lookup h2)
 ·have hy:scope.names.lookup y=some .cell∨scope.names.lookup y=some .free:=hy
  rcases hy with hy | hy
  ·exact FI hy
  ·exact absurd rfl (S.UU _ (PySem.mem_of_lookup hy))
 ·exact Nat.le_of_lt (x.above y c (PySem.mem_of_lookup h))
 ·have hi:i < vs.length:=by
   unfold start at h2
   by_cases hi:i < vs.length
   ·exact hi
   ·rw[List.getElem?_append_right (by simpa using hi)] at h2
    rw[List.getElem?_replicate] at h2
    split at h2 <;> cases h2
  have ha:vs[i]? = some v:=by
   unfold start at h2
   rw[List.getElem?_append_left (by simpa using hi),List.getElem?_map] at h2
   cases e:vs[i]? with
   | none=>rw[e] at h2;cases h2
   | some a=>rw[e] at h2;cases h2;rfl
  obtain⟨u,hu,rv⟩:=r.get ha
  have hp:ps[i]? = some y:=by
   rw[←S.pre,List.getElem?_take_of_lt (by omega)];exact h1
  have ndP:ps.Nodup:=by rw[←S.pre];exact S.nd.sublist (List.take_sublist _ _)
  refine⟨u,rv,?_⟩
  rcases S.par y (List.mem_of_getElem? hp) with k | k
  ·exact .inl ⟨k,C3 ndP hp hu k⟩
  ·obtain⟨c,e⟩:=FI (n:=s.heap.objs.size+1) k
   refine .inr ⟨.inl k,c,e,?_⟩
   have q:=x.cell y c e
   rw[C4 ndP hp hu (by show scope.names.lookup y≠_;rw[k];decide)] at q
   exact q
 ·exact e0.hok.fresh (Nat.le_of_lt (x.above y c (PySem.mem_of_lookup h)))
 ·unfold start
  show _=N.length
  rw[List.length_append,List.length_map,List.length_replicate]
  omega
theorem TX {CX:NR}{P:Program}{w:World}{K:W.Frag}{mg:Str→Option Value}{base:Heap}{k:Nat}{f:Addr}{name qual:Str}{params:Arguments}{body:List Stmt}{scope:Scope}{dV kV doc pm cdv ct oc:Value}{an od:Option Addr}
  {osl:Array (Option Value)}{N ps:List Str}{sp:Sp} (lk:K.lookup f=some ⟨oc,od,.func (W.fnOf name qual params body scope dV kV doc pm an cdv ct),osl⟩) (hcd:W.codeIn K cdv qual=true) (S:aD N ps scope)
  (len:∀ vs H Q E,sp vs H Q E→vs.length=ps.length)
  (hbody:∀(A:Around) (outer:List Env) (s:Shared) (H:Hp) (vs:List V) (Q:VK) (E:XK),iO k (A.deeper (envOfC qual scope s.heap.objs.size f cdv))→sp vs H Q E →
   ∃ t,K2 (II CX P w K mg base N qual scope f cdv A outer s H E) body t∧t { nx:=fun _ H'=>Q .non H',rt:=Q } (start N vs) H) :
  aG P w K mg base CX (k+1) f (W.fnOf name qual params body scope dV kV doc pm an cdv ct) ps sp:=by
 refine⟨len,fun A outer s H args us vs Q E hr e0 hb r Rb=>?_⟩
 have hl:=len _ _ _ _ Rb
 have KX:K.In s.heap:=e0.mod.YK.keeps fun b o e=>(e0.bs b o e).1
 have lim:s.heap.NoLimit:=e0.mod.nolimit.keeps fun b o e=>(e0.bs b o e).1
 have hkind:∀ y∈ps.zip us,scope.names.lookup y.1=some .local∨(scope.names.lookup y.1=some .cell∧((cellsFrom (s.heap.objs.size+1) scope.names []).lookup y.1).isSome=true):=fun ⟨n,v⟩ hy=>by
  rcases S.par n (List.of_mem_zip hy).1 with q | q
  ·exact .inl q
  ·exact .inr ⟨q,W.cellsFrom_some _ _ _ (.inl q)⟩
 refine codeAny_call_function hr.depth (KX _ _ lk) rfl S.co S.gen rfl (W.codeRec_of KX hcd) (hb _ _ _ _ ?_)
 refine wpAny_newFunctionEnv_cells S.kind hkind fun env he s1 x=>?_
 subst he
 refine⟨lim.keeps x.toInCall.keep,codeAny_func ?_⟩
 obtain⟨t,ht,hq⟩:=hbody A outer s H vs Q E (hr.deeper _) Rb
 have I:Inv (II CX P w K mg base N qual scope f cdv A outer s H E) [] (start N vs) H s1:=LV S hr.hd e0 hl r x
 refine wpAny_mono (ht [] s1 (start N vs) H _ I hq) (fun fl s' hs=>?_) fun e s' hs=>hs
 have fin:∀{σ':St}{H':Hp}{v:V}{u:Value},Inv (II CX P w K mg base N qual scope f cdv A outer s H E) [] σ' H' s'→RelV v u→Q v H'→CE outer P w H s Q u s' :=
  fun {σ' H' v u} J rv q=>⟨v,H',J.os,J.bare,J.base,J.hok,rv,q⟩
 cases fl with
 | ret u =>
  obtain⟨v,σ',H',J,rv,q⟩:=hs
  exact fin J rv q
 | next =>
  obtain⟨σ',H',J,q⟩:=hs
  exact fin (v:=V.non) (u:=Value.none) J rfl q
 | brk =>
  obtain⟨_,_,_,q⟩:=hs
  exact False.elim q
 | cont =>
  obtain⟨_,_,_,q⟩:=hs
  exact False.elim q
section
variable {X:Cx}{x:Str}{p pos:Pos}{e:Expr}{es:List Expr}{t:TA}{id T:String}{r:List V→Hp→VK→Prop}
def tCB (r:List V→Hp→VK→Prop) (t:TA):TE:=fun σ H Q=>t σ H fun vs H1=>r vs H1 Q
theorem Oi (hc:cY X (.builtin id) r) (hg:Gl X x) (hm:X.mg x=none) (hv:bootBuiltins x=some (.builtin id)) (ha:PA X (e :: es) t) (hn:x ≠ "__name__" := by decide) (hdb:(x == ("__debug__" : Str))=false:=by decide)
  (he:starEach (e :: es) X.env=(false,eval e X.env) :: starEach es X.env:=by rfl) (hpl:(backTo pos (starEach es X.env)).any (·.1)=false:=by rfl):PE X (.Call (.Name x p) (e :: es) [] pos) (tCB r t):=by
 intro pins s σ H Q I h
 refine wpAny_Call_Name_kw (nT I hg hm hv ?_ hn hdb)
 exact PyProof.Rows.callWith_builtin1 (dj (ha pos pins s σ H _ I h) fun us s1 ⟨vs,H1,I1,r1,q1⟩=>hc pins s1 σ H1 vs us Q I1 r1 q1) he hpl
theorem LW (hc:cY X (.type T) r) (hg:Gl X x) (hm:X.mg x=none) (hv:bootBuiltins x=some (.type T)) (ha:PA X (e :: es) t) (hn:x ≠ "__name__" := by decide) (hdb:(x == ("__debug__" : Str))=false:=by decide)
  (he:starEach (e :: es) X.env=(false,eval e X.env) :: starEach es X.env:=by rfl) (hpl:(backTo pos (starEach es X.env)).any (·.1)=false:=by rfl):PE X (.Call (.Name x p) (e :: es) [] pos) (tCB r t):=by
 intro pins s σ H Q I h
 refine wpAny_Call_Name_kw (nT I hg hm hv ?_ hn hdb)
 exact PyProof.Rows.callWith_type1 (dj (ha pos pins s σ H _ I h) fun us s1 ⟨vs,H1,I1,r1,q1⟩=>hc pins s1 σ H1 vs us Q I1 r1 q1) he hpl
end
end L2
namespace HT
open PySem PyProof.Rows
section
open PySem.SeqAt
open PySem.AutoSeq1 (wpAny_loadPart')
open PySem.MeetsSeq PySem.MeetsSeq2 PySem.MeetsSeq3
end
section
variable {prog:Program}{w:World}{A:Around}{E:Value→Shared→Prop}{s:Shared}
theorem Rv {t b:Addr}{vs ws:List Value}{Q:Value→Shared→Prop} (ht:IsTup s.heap t vs.toArray) (hb:IsTup s.heap b ws.toArray) (hv:vs≠[])
  (h1:ws=[]→Q (.ref t) s) (h2:ws≠[]→Q (.ref s.heap.objs.size) { s with heap:=s.heap.push { cls:=.type "tuple",data:=.seq (vs++ws).toArray } })
  (hsz:vs.length+ws.length≤sizeLine):wpAny (model prog w) A (binaryOp .Add (.ref t) (.ref b)) Q E s:=by
 obtain⟨⟨cls,dd,data,sl⟩,ho,hc,n,hd⟩:=id ht
 obtain⟨⟨ajx,dd2,data2,sl2⟩,ho2,hc2,n2,hd2⟩:=id hb
 simp only at hc hd hc2 hd2
 subst hc hd hc2 hd2
 have e:vs.toArray++ws.toArray=(vs++ws).toArray:=by simp
 by_cases hw:ws=[]
 ·exact concat_meets ⟨_,ho,rfl⟩ ⟨_,ho2,rfl⟩ noFill_tuple_add seq_tuple_add PySem.F.slot_tuple_add PySem.F.entry_tuple_add (PySem.F.args_tuple_add_2 _ _)
   (tuple_addW1 t b vs.toArray ws.toArray n n2 dd dd2 sl sl2 (by simpa using hv) (by simp[hw])) ⟨ho,ho2,h1 hw⟩
 ·refine concat_meets ⟨_,ho,rfl⟩ ⟨_,ho2,rfl⟩ noFill_tuple_add seq_tuple_add PySem.F.slot_tuple_add PySem.F.entry_tuple_add (PySem.F.args_tuple_add_2 _ _)
   (tuple_addW2 t b vs.toArray ws.toArray n n2 dd dd2 sl sl2 (by simpa using hv) (by simpa using hw) (by rw[List.size_toArray,List.size_toArray];exact hsz)) ⟨ho,ho2,?_⟩
  rw[e]
  exact h2 hw
def pO (n d:Nat):Option Int→Nat
 | none=>d
 | some v=>if v < 0 then (v+(n:Int)).toNat else min v.toNat n
theorem UW (n d:Nat) (hd:d≤n) (o:Option Int):pO n d o≤n:=by
 cases o with
 | none=>exact hd
 | some v =>
  show(if v < 0 then (v+(n:Int)).toNat else min v.toNat n)≤n
  by_cases hv:v < 0
  ·rw[if_pos hv];omega
  ·rw[if_neg hv];exact Nat.min_le_right _ _
theorem K8 (v:Int) (n d:Nat):(if v < 0 then max (v+(n:Int)) 0 else min v (n:Int))=((pO n d (some v):Nat):Int):=by
 show(if v < 0 then max (v+(n:Int)) 0 else min v (n:Int))=(((if v < 0 then (v+(n:Int)).toNat else min v.toNat n):Nat):Int)
 by_cases hv:v < 0
 ·simp only[if_pos hv];omega
 ·simp only[if_neg hv];omega
theorem IJ (lo hi:Option Int) (n:Nat):Builtin.Slice.sliceAdjust lo hi 1 (n:Int)=(((pO n 0 lo:Nat):Int),((pO n n hi:Nat):Int)):=by
 have h1:¬((1:Int) < 0):=by omega
 unfold Builtin.Slice.sliceAdjust
 simp only[h1,if_false]
 refine Prod.ext ?_ ?_
 ·cases lo with
  | none=>rfl
  | some v=>exact K8 v n 0
 ·cases hi with
  | none=>rfl
  | some v=>exact K8 v n n
theorem IK (i j:Nat):Builtin.Slice.slicePlaces (i:Int) (j:Int) 1=j - i:=by
 unfold Builtin.Slice.slicePlaces
 have h1:(1:Int) > 0:=by omega
 simp only[h1,if_true,Int.ediv_one]
 split <;> omega
theorem Al {v:Value}{o:Option Int}{Q:Option Int→Shared→Prop} (p:IsPart v o) (h:Q o s):wpAny (model prog w) A (Builtin.Slice.slicePartIndex v) Q E s:=by
 cases p with
 | none=>exact slicePart_none h
 | int i t=>exact slicePart_int h
theorem xu {sl:Addr}{vl vu:Value}{lo hi:Option Int}{n:Nat}{Q:Int×Int×Nat→Shared→Prop} (hs:s.heap.IsSliceOf sl vl vu .none) (pl:IsPart vl lo) (pu:IsPart vu hi)
  (h:Q (((pO n 0 lo:Nat):Int),1,pO n n hi - pO n 0 lo) s):wpAny (model prog w) A (Builtin.Slice.sliceApplied (.ref sl) (pure (n:Int))) Q E s:=by
 obtain⟨os,hos,hcs,hds⟩:=id hs
 unfold Builtin.Slice.sliceApplied Builtin.Slice.sliceFields
 refine wpAny_bind (wpAny_bind (wpAny_field hos hds (x:=vl) rfl (wpAny_bind (wpAny_field hos hds (x:=vu) rfl (wpAny_bind (wpAny_field hos hds (x:=.none) rfl (wpAny_pure ?_)))))))
 refine wpAny_bind (slicePart_none ?_)
 show wpAny _ _ (if ((1:Int) == 0)=true then _ else _) _ _ s
 rw[if_neg (by decide)]
 refine wpAny_bind (Al pl (wpAny_bind (Al pu (wpAny_bind (wpAny_pure ?_)))))
 show wpAny _ _ (match Builtin.Slice.sliceAdjust lo hi 1 (n:Int) with | (lo,hi)=>pure (lo,(1:Int),Builtin.Slice.slicePlaces lo hi 1)) _ _ s
 rw[IJ lo hi n]
 show wpAny _ _ (pure (((pO n 0 lo:Nat):Int),(1:Int),Builtin.Slice.slicePlaces ((pO n 0 lo:Nat):Int) ((pO n n hi:Nat):Int) 1)) _ _ s
 rw[IK]
 exact wpAny_pure h
theorem Oj (xs:Array Value) (i k:Nat):((List.range k).filterMap fun (m:Nat)=>xs[((i:Int)+(m:Int) * 1).toNat]?).toArray=((xs.toList.drop i).take k).toArray:=by
 have e:(fun (m:Nat)=>xs[((i:Int)+(m:Int) * 1).toNat]?)=fun m=>xs[i+m]? := by
  funext m
  have:((i:Int)+(m:Int) * 1).toNat=i+m:=by omega
  rw[this]
 rw[e]
 have:=pick_run xs i k
 rw[List.filterMap_map] at this
 have e2:((fun x=>xs[x]?) ∘ fun x=>i+x)=fun m=>xs[i+m]? := rfl
 rw[e2] at this
 rw[this]
theorem vq {t sl:Addr}{items:Array Value}{vl vu:Value}{lo hi:Option Int}{Q:Value→Shared→Prop} (ht:IsTup s.heap t items) (hs:s.heap.IsSliceOf sl vl vu .none) (pl:IsPart vl lo) (pu:IsPart vu hi)
  (hw:¬(pO items.size 0 lo=0∧pO items.size items.size hi=items.size))
  (h:Q (.ref s.heap.objs.size) { s with heap:=s.heap.push { cls:=.type "tuple",data:=.seq ((items.toList.drop (pO items.size 0 lo)).take (pO items.size items.size hi - pO items.size 0 lo)).toArray } })
  (hsz:items.size≤sizeLine):wpAny (model prog w) A (getItem (.ref t) (.ref sl)) Q E s:=by
 have K9:sizeOk (.seq ((items.toList.drop (pO items.size 0 lo)).take (pO items.size items.size hi - pO items.size 0 lo)).toArray):=by
  show((items.toList.drop (pO items.size 0 lo)).take (pO items.size items.size hi - pO items.size 0 lo)).toArray.size≤sizeLine
  rw[List.size_toArray,List.length_take,List.length_drop,Array.length_toList]
  omega
 have hj:pO items.size items.size hi≤items.size:=UW _ _ (Nat.le_refl _) hi
 obtain⟨os,hos,hcs,hds⟩:=id hs
 have hTs:s.TypeIs (.ref sl) "slice" := ⟨os,hos,hcs⟩
 unfold getItem
 try with_reducible refine wpAny_holding ?_
 first | refine wpAny_bind (wpAny_pure ?_) | skip
 refine wpAny_bind (wpAny_sequenceKey ht.typeIs (by decide) ?_)
 refine wpAny_bind (wpAny_callSpecial?_slot (name:=Str.ofString "__getitem__") ht.typeIs PyProof.Rows.slot_tuple_getitem
  (wpAny_call_entry PyProof.Rows.slot_tuple_getitem ht.typeIs entry_tuple_getitem ?_ (args_tuple_getitem _ _)))
 show wpAny _ _ (Builtin.Tuple.tupleItemsOf (.ref t) >>= _) _ _ s
 refine wpAny_bind (tupleItemsOf_ ht ?_)
 refine wpAny_bind (wpAny_typeOf hTs ?_)
 rw[if_pos (by decide)]
 refine wpAny_bind (xu hs pl pu ?_)
 have hno:¬((((pO items.size 0 lo:Nat):Int) == 0 && (1:Int) == 1 && (pO items.size items.size hi - pO items.size 0 lo) == items.size)=true):=by
  intro q
  rw[Bool.and_eq_true,Bool.and_eq_true] at q
  have q1:((pO items.size 0 lo:Nat):Int)=0:=eq_of_beq q.1.1
  have q2:pO items.size items.size hi - pO items.size 0 lo=items.size:=eq_of_beq q.2
  exact hw ⟨by omega,by omega⟩
 show wpAny _ _ (if (((pO items.size 0 lo:Nat):Int) == 0 && (1:Int) == 1 && (pO items.size items.size hi - pO items.size 0 lo) == items.size)=true then _ else _) _ _ s
 rw[if_neg hno,Oj]
 first
  | exact wpAny_bind (m:=Builtin.Tuple.tupleExact _) (wpAny_newObj_type (wpAny_pure ⟨_,rfl,wpAny_pure h⟩) K9)
  | exact wpAny_bind (m:=Builtin.Tuple.tupleExact _) (wpAny_newObj_type (wpAny_bind (wpAny_pure (wpAny_pure ⟨_,rfl,wpAny_pure h⟩))) K9)
  | exact wpAny_bind (wpAny_bind (m:=Builtin.Tuple.tupleExact _) (wpAny_newObj_type (wpAny_pure (wpAny_pure ⟨_,rfl,wpAny_pure h⟩)) K9))
  | exact wpAny_bind (wpAny_bind (m:=Builtin.Tuple.tupleExact _) (wpAny_newObj_type (wpAny_pure ⟨_,rfl,wpAny_pure h⟩) K9))
end
end HT
namespace L2
open PySem PySem.Spec PyProof.Rows
abbrev TO:=St→Hp→(Option Int→Hp→Prop)→Prop
def PO (X:Cx) (e:Option Expr) (t:TO):Prop :=
 ∀(pins:List (Addr×Obj)) (s:Shared) (σ:St) (H:Hp) (Q:Option Int→Hp→Prop),Inv X pins σ H s→t σ H Q →
  wpAny (model X.prog X.w) X.A (evalPart e X.env) (fun u s'=>∃ o H',Inv X pins σ H' s'∧IsPart u o∧Q o H') X.xe s
def Rx:TO:=fun _ H Q=>Q none H
def Zf (t:TE):TO:=fun σ H Q=>t σ H fun x H1=>∃ i,x=.int i∧Q (some i) H1
section
variable {X:Cx}{e:Expr}{te:TE}{lo hi:Option Expr}{tl th:TO}{pos p2:Pos}
theorem D3:PO X none Rx:=by
 intro pins s σ H Q I h
 rw[evalPart_none]
 exact wpAny_pure ⟨none,H,I,.none,h⟩
theorem D4 (h:PE X e te):PO X (some e) (Zf te):=by
 intro pins s σ H Q I hw
 rw[evalPart_some]
 refine dj (h pins s σ H _ I hw) fun u s1 ⟨x,H1,I1,r1,q1⟩=>?_
 obtain⟨i,rfl,q⟩:=q1
 obtain⟨t,rfl⟩:=r1
 exact⟨some i,H1,I1,.int i t,q⟩
def SlR (X:Cx) (r:V→Option Int→Option Int→Hp→VK→Prop):Prop :=
 ∀(pins:List (Addr×Obj)) (s:Shared) (σ:St) (H:Hp) (x:V) (v vl vu:Value) (lo hi:Option Int) (sl:Addr) (Q:VK),Inv X pins σ H s→RelV x v→s.heap.IsSliceOf sl vl vu .none→IsPart vl lo→IsPart vu hi→r x lo hi H Q →
  ∃ T id,typeLookup (.type T) "__getitem__" = pure (some (.builtin id))∧s.TypeIs v T∧wpAny (model X.prog X.w) X.A (getItem v (.ref sl)) (EP X pins σ Q) X.xe s
def tSl (r:V→Option Int→Option Int→Hp→VK→Prop) (te:TE) (tl th:TO):TE:=fun σ H Q=>te σ H fun x H1=>tl σ H1 fun l H2=>th σ H2 fun u H3=>r x l u H3 Q
theorem Am {r:V→Option Int→Option Int→Hp→VK→Prop} (hr:SlR X r) (he:PE X e te) (hl:PO X lo tl) (hu:PO X hi th):PE X (.Subscript e (.Slice lo hi none p2) pos) (tSl r te tl th):=by
 intro pins s σ H Q I h
 refine Subscript_ (dj (he pins s σ H _ I h) fun v s1 ⟨x,H1,I1,r1,q1⟩=>?_)
 refine wpAny_Slice (dj (hl pins s1 σ H1 _ I1 q1) fun vl s2 ⟨l,H2,I2,pl,q2⟩=>dj (hu pins s2 σ H2 _ I2 q2) fun vu s3 ⟨u,H3,I3,pu,q3⟩=>?_)
 rw[evalPart_none]
 refine wpAny_pure ?_
 have I4:Inv X pins σ H3 { s3 with heap:=s3.heap.push { cls:=.type "slice",data:=.fields #[vl,vu,.none] } }:=I3.kept (t':=s3.toks) fun b ob q=>Heap.get?_push_of_some _ q
 obtain⟨T,id,hT,ht,hg⟩:=hr pins { s3 with heap:=s3.heap.push { cls:=.type "slice",data:=.fields #[vl,vu,.none] } } σ H3 x v vl vu l u s3.heap.objs.size Q I4 r1 (Heap.IsSliceOf.new ..) pl pu q3
 show wpAny (model X.prog X.w) X.A (subscriptTail e (.Slice lo hi none p2) v (.ref s3.heap.objs.size)) (EP X pins σ Q) X.xe { s3 with heap:=s3.heap.push { cls:=.type "slice",data:=.fields #[vl,vu,.none] } }
 exact tail_any (ops:=[.ref s3.heap.objs.size,v]) ht hT hg (by with_unfolding_all rfl)
def IL (xs:List V) (lo hi:Option Int):List V:=(xs.drop (HT.pO xs.length 0 lo)).take (HT.pO xs.length xs.length hi - HT.pO xs.length 0 lo)
theorem FJ (xs:List V) (lo hi:Option Int):(IL xs lo hi).length≤xs.length:=by
 unfold IL
 rw[List.length_take,List.length_drop]
 omega
def Zg (K:W.Frag):V→Option Int→Option Int→Hp→VK→Prop:=fun x lo hi H Q=>∃ a xs,x=.ref a∧aV K H a xs ∧
 ¬(HT.pO xs.length 0 lo=0∧HT.pO xs.length xs.length hi=xs.length)∧∀ p,H p=none→Q (.ref p) (upd H p (.tup (IL xs lo hi)))
theorem UX:SlR X (Zg X.K):=by
 intro pins s σ H x v vl vu lo hi sl Q I rx hs pl pu h
 obtain⟨a,xs,rfl,hx,hw,q⟩:=h
 cases rx
 obtain⟨its,r,ht,hz⟩:=I.tuple hx
 have hlen:its.toArray.size=xs.length:=by rw[List.size_toArray];exact r.length.symm
 refine⟨"tuple",_,PyProof.Rows.slot_tuple_getitem.lookup,ht.typeIs,?_⟩
 refine HT.vq ht hs pl pu (by rw[hlen];exact hw) ?_ (by rw[hlen];exact hz)
 rw[hlen]
 refine⟨.ref s.heap.objs.size,_,I.laid (t':=s.toks) (o:=.tup (IL xs lo hi)) (fun b ob q=>Heap.get?_push_of_some _ q) (Nat.le_refl _) ?_,rfl,q _ (I.hok.fresh (Nat.le_refl _))⟩
 exact⟨Nat.le_trans (FJ xs lo hi) hz,_,(r.drop (HT.pO xs.length 0 lo)).take (HT.pO xs.length xs.length hi - HT.pO xs.length 0 lo),IsTup.new _ _⟩
def TY (K:W.Frag):R2:=fun x y H Q=>∃ a b xs ys,x=.ref a∧y=.ref b∧aV K H a xs∧aV K H b ys∧xs≠[]∧xs.length+ys.length≤sizeLine ∧
 (ys=[]→Q (.ref a) H)∧(ys≠[]→∀ p,H p=none→Q (.ref p) (upd H p (.tup (xs++ys))))
theorem Vals.D5 {xs:List V}{us:List Value} (r:Vals xs us):us=[]↔xs=[]:=by
 cases r with
 | nil=>simp
 | cons _ _=>simp
theorem Ry:lT X (binaryOp .Add) (TY X.K):=by
 intro pins s σ H x y v u Q I rx ry h
 obtain⟨a,b,xs,ys,rfl,rfl,ha,hb,hx,hz,q1,q2⟩:=h
 cases rx
 cases ry
 obtain⟨its,r1,p1,_⟩:=I.tuple ha
 obtain⟨its2,r2,p2,_⟩:=I.tuple hb
 refine HT.Rv p1 p2 (fun z=>hx (r1.D5.mp z)) (fun z=>⟨.ref a,H,I,rfl,q1 (r2.D5.mp z)⟩) (fun z=>?_) (by rw[←r1.length,←r2.length];exact hz)
 refine⟨.ref s.heap.objs.size,_,I.laid (t':=s.toks) (o:=.tup (xs++ys)) (fun b ob q=>Heap.get?_push_of_some _ q) (Nat.le_refl _) ?_,rfl,q2 (fun w=>z (r2.D5.mpr w)) _ (I.hok.fresh (Nat.le_refl _))⟩
 exact⟨by rw[List.length_append];exact hz,_,r1.append r2,IsTup.new _ _⟩
end
def UY (n:Nat) (i:Int):Option Nat:=if 0≤i then (if i < n then some i.toNat else none) else if -(n:Int)≤i then some (i+n).toNat else none
def LX {α:Type} (xs:List α) (i:Int):Option α:=(UY xs.length i).bind fun j=>xs[j]?
theorem La {n:Nat}{i:Int}{j:Nat} (h:UY n i=some j):seqIndex? i n=some j∧j < n∧-(n:Int)≤i∧i < n:=by
 unfold UY at h
 by_cases h0:0≤i
 ·rw[if_pos h0] at h
  by_cases h1:i < n
  ·rw[if_pos h1] at h
   have e:i.toNat=j:=Option.some.inj h
   exact⟨by rw[seqIndex_of h0 h1,e],by omega,by omega,h1⟩
  ·rw[if_neg h1] at h;cases h
 ·rw[if_neg h0] at h
  by_cases h1 : -(n:Int)≤i
  ·rw[if_pos h1] at h
   have e:(i+n).toNat=j:=Option.some.inj h
   exact⟨by rw[seqIndex_neg (by omega) h1,e],by omega,h1,by omega⟩
  ·rw[if_neg h1] at h;cases h
theorem D6 {α:Type}{xs:List α}{i:Int}{v:α} (h:LX xs i=some v):∃ j,seqIndex? i xs.length=some j∧xs[j]? = some v∧j < xs.length∧-(xs.length:Int)≤i∧i < xs.length:=by
 unfold LX at h
 cases e:UY xs.length i with
 | none=>rw[e] at h;cases h
 | some j =>
  rw[e] at h
  obtain⟨h1,h2,h3,h4⟩:=La e
  exact⟨j,h1,h,h2,h3,h4⟩
theorem Ab {α:Type}{xs:List α}{j:Nat}{v:α} (h:xs[j]? = some v):LX xs (j:Int)=some v:=by
 have hj:j < xs.length:=(List.getElem?_eq_some_iff.mp h).1
 have e:UY xs.length (j:Int)=some j:=by
  unfold UY
  rw[if_pos (by omega),if_pos (by omega)];simp
 unfold LX;rw[e];exact h
def D7 (b:Expr):Prop:=∀ o i,subscripted b false o i=operate [o,i] (getItem o i)
def Yb (X:Cx) (r:R2):Prop :=
 ∀(value slice:Expr) (pins:List (Addr×Obj)) (s:Shared) (σ:St) (H:Hp) (x y:V) (v u:Value) (Q:VK),Inv X pins σ H s→RelV x v→RelV y u→r x y H Q →
  subscripted slice false v u=operate [v,u] (getItem v u)→wpAny (model X.prog X.w) X.A (subscriptTail value slice v u) (EP X pins σ Q) X.xe s
def UZ (X:Cx) (id:String) (r:V→List V→Hp→VK→Prop):Prop :=
 ∀(pins:List (Addr×Obj)) (s:Shared) (σ:St) (H:Hp) (x:V) (xs:List V) (v:Value) (us:List Value) (Q:VK),Inv X pins σ H s→RelV x v→Vals xs us→r x xs H Q →
  wpAny (model X.prog X.w) X.A (call (.builtin id) (v :: us)) (EP X pins σ Q) X.xe s
section
variable {X:Cx}{a b:Expr}{ta tb:TE}{pos:Pos}
theorem Lb {r:R2} (hr:Yb X r) (ha:PE X a ta) (hb:PE X b tb) (hs:D7 b):PE X (.Subscript a b pos) (TN r ta tb):=by
 intro pins s σ H Q I h
 exact Subscript_ (UQ ha hb I h fun v u s2 x y H2 I2 rx ry q=>hr a b pins s2 σ H2 x y v u Q I2 rx ry q (hs _ _))
def U0 (K:W.Frag):R2:=fun x y H Q=>∃ p xs i v,x=.ref p∧y=.int i∧aU K H p xs∧LX xs i=some v∧Q v H
def U1 (K:W.Frag):R2:=fun x y H Q=>∃ p xs i v,x=.ref p∧y=.int i∧aV K H p xs∧LX xs i=some v∧Q v H
def afT:R2:=fun x y H Q=>∃ z i c,x=.str z∧y=.int i∧z.length≤sizeLine∧LX z.cps.toList i=some c∧Q (.str ⟨#[c]⟩) H
theorem Rz:Yb X (U0 X.K):=by
 intro value slice pins s σ H x y v u Q I rx ry h hs
 obtain⟨p,xs,i,z,rfl,rfl,hq,he,q⟩:=h
 cases rx
 obtain⟨t,rfl⟩:=ry
 obtain⟨its,r,pl,hz⟩:=I.list hq
 obtain⟨j,h1,h2,h3,h4,h5⟩:=D6 he
 obtain⟨w,ew,rw'⟩:=r.get h2
 have hl:=r.length
 have hn:=xq
 have fin:EP X pins σ Q w s:=⟨z,H,I,rw',q⟩
 by_cases h0:0≤i
 ·have hj:i.toNat=j:=by
   rw[seqIndex_of h0 h5] at h1
   exact Option.some.inj h1
  exact item_listR pl.isList h0 (by omega) (by rw[hj];simpa using ew) fin hs
 ·have hj:(i+(its.toArray.size:Int)).toNat=j:=by
   rw[seqIndex_neg (by omega) h4] at h1
   rw[List.size_toArray,←hl]
   exact Option.some.inj h1
  exact subscriptTail_builtinR (x:=w) pl.isList.typeIs slot_list_getitem.lookup
   (wpAny_getItem_list_neg (Q:=fun r s'=>r=w∧EP X pins σ Q r s') pl.isList (by omega) (by rw[List.size_toArray] <;> omega) (by omega) (by rw[hj];simpa using ew) ⟨rfl,fin⟩) hs
theorem U3:Yb X (U1 X.K):=by
 intro value slice pins s σ H x y v u Q I rx ry h hs
 obtain⟨p,xs,i,z,rfl,rfl,hq,he,q⟩:=h
 cases rx
 obtain⟨t,rfl⟩:=ry
 obtain⟨its,r,pl,hz⟩:=I.tuple hq
 obtain⟨j,h1,h2,h3,h4,h5⟩:=D6 he
 obtain⟨w,ew,rw'⟩:=r.get h2
 have hl:=r.length
 have hn:=xq
 have fin:EP X pins σ Q w s:=⟨z,H,I,rw',q⟩
 exact subscriptTail_builtinR (x:=w) pl.typeIs slot_tuple_getitem.lookup
  (getItem_tuple (j:=j) (Q:=fun r s'=>r=w∧EP X pins σ Q r s') pl (by omega) (by omega) (by rw[List.size_toArray,←hl];exact h1) (by simpa using ew) ⟨rfl,fin⟩) hs
theorem Ol:Yb X afT:=by
 intro value slice pins s σ H x y v u Q I rx ry h hs
 obtain⟨z,i,c,rfl,rfl,hz,he,q⟩:=h
 obtain⟨t,rfl⟩:=rx
 obtain⟨t',rfl⟩:=ry
 obtain⟨j,h1,h2,h3,h4,h5⟩:=D6 he
 have hl:z.cps.toList.length=z.length:=by simp[Str.length]
 rw[hl] at h1 h4 h5
 have hn:=xq
 exact tail_any (typeIs_str s z t) slot_str_getitem.lookup (getItem_str (c:=c) (by
  have e1:decide (i < -(2 ^ 63:Int))=false:=decide_eq_false (by omega)
  have e2:decide (i≥2 ^ 63)=false:=decide_eq_false (by omega)
  rw[e1,e2,Bool.or_false]) (by rw[h1];simpa using h2) ⟨.str ⟨#[c]⟩,H,I.tok _,⟨_,rfl⟩,q⟩) hs
theorem IM (its:List Value) (n j:Nat) (u:Value):Obj.mapSeq (·.setIfInBounds j u) { cls:=.type "list",data:=.seq its.toArray n }={ cls:=.type "list",data:=.seq (its.set j u).toArray n }:=by
 simp[Obj.mapSeq]
theorem Inv.lst {pins:List (Addr×Obj)}{σ:St}{H:Hp}{s:Shared}{p:Addr}{xs:List V} (I:Inv X pins σ H s) (h:H p=some (.lst xs)) :
  ∃(its:List Value) (n:Nat),Vals xs its∧s.heap.get? p=some { cls:=.type "list",data:=.seq its.toArray n }∧xs.length≤sizeLine:=by
 obtain⟨z,its,n,r,e⟩:=I.hok p _ h
 exact⟨its,n,r,e,z⟩
theorem Inv.U4 {pins:List (Addr×Obj)}{σ:St}{H:Hp}{s:Shared}{p:Addr}{xs ys:List V}{its its':List Value}{n n':Nat}{f:Obj→Obj} (I:Inv X pins σ H s) (h:H p=some (.lst xs))
  (ho:s.heap.get? p=some { cls:=.type "list",data:=.seq its.toArray n }) (hf:f { cls:=.type "list",data:=.seq its.toArray n }={ cls:=.type "list",data:=.seq its'.toArray n' }) (r:Vals ys its') (hz:ys.length≤sizeLine) (t:Nat) :
  Inv X pins σ (upd H p (.lst ys)) { s with heap:=s.heap.update p f,toks:=t }:=by
 have e:(s.heap.update p f).get? p=some { cls:=.type "list",data:=.seq its'.toArray n' }:=by
  rw[Heap.get?_update_self f ho (by rw[hf] <;> rfl),hf]
 refine I.write (x:=p) (e:=p) (by rw[h];trivial) (.inl rfl) (fun b u hb q=>(Heap.get?_update_other _ _ (Ne.symm hb)).trans q) ⟨_,e⟩ ?_
 exact⟨hz,its',n',r,e⟩
def Zh:V→V→V→Hp→(Hp→Prop)→Prop:=fun o i v H Q=>∃ p xs k j,o=.ref p∧i=.int k∧H p=some (.lst xs)∧UY xs.length k=some j∧Q (upd H p (.lst (xs.set j v)))
theorem set_list:YX X Zh:=by
 intro pins s σ H o i v ov iv u Q I ro ri rv h
 obtain⟨p,xs,k,j,rfl,rfl,hp,hj,q⟩:=h
 cases ro
 obtain⟨t,rfl⟩:=ri
 obtain⟨its,n,r,ho,hz⟩:=I.lst hp
 obtain⟨h1,h2,h3,h4⟩:=La hj
 have hl:=r.length
 have hn:=xq
 have I':Inv X pins σ (upd H p (.lst (xs.set j v))) { s with heap:=s.heap.update p (Obj.mapSeq (·.setIfInBounds j u)) } :=
  I.U4 hp ho (IM its n j u) (r.set rv j) (by rw[List.length_set];exact hz) s.toks
 by_cases h0:0≤k
 ·have hk:k.toNat=j:=by
   rw[seqIndex_of h0 h4] at h1
   exact Option.some.inj h1
  exact W.ki_setAt ho h0 (by omega) (by rw[List.size_toArray,←hl];exact h4) (by rw[hk];exact⟨_,I',q⟩)
 ·have hk:(k+(its.toArray.size:Int)).toNat=j:=by
   rw[seqIndex_neg (by omega) h3] at h1
   rw[List.size_toArray,←hl]
   exact Option.some.inj h1
  exact W.ki_setBack ho (by omega) (by rw[List.size_toArray,←hl];exact h3) (by omega) (by rw[hk];exact⟨_,I',q⟩)
def fk:V→Bool
 | .non=>true
 | .bl _=>true
 | .int _=>true
 | .str _=>true
 | _=>false
def Ac:V→V→Bool
 | .non,.non=>true
 | .bl a,.bl b=>a == b
 | .bl a,.int b=>(if a then 1 else 0) == b
 | .int a,.bl b=>a == (if b then 1 else 0)
 | .int a,.int b=>a == b
 | .str a,.str b=>a == b
 | _,_=>false
theorem IP {A:Around}{s:Shared}{y x:V}{u v:Value} (ry:RelV y u) (rx:RelV x v) (fy:fk y=true) (fx:fk x=true):SeqAt.EqAt A s u v (Ac y x):=by
 cases y with
 | non =>
  cases ry
  cases x with
  | non=>cases rx;exact SeqAt.EqAt.same _
  | bl b=>cases rx;exact SeqAt.EqAt.none_bool b
  | int b=>obtain⟨t,rfl⟩:=rx;exact SeqAt.EqAt.none_int b t
  | str b=>obtain⟨t,rfl⟩:=rx;exact SeqAt.EqAt.none_str b t
  | _=>exact absurd (show false=true from fx) Bool.false_ne_true
 | bl a =>
  cases ry
  cases x with
  | non=>cases rx;exact SeqAt.EqAt.bool_none a
  | bl b=>cases rx;exact SeqAt.EqAt.bool_bool a b
  | int b=>obtain⟨t,rfl⟩:=rx;exact SeqAt.EqAt.bool_int a b t
  | str b=>obtain⟨t,rfl⟩:=rx;exact SeqAt.EqAt.bool_str a b t
  | _=>exact absurd (show false=true from fx) Bool.false_ne_true
 | int a =>
  obtain⟨t',rfl⟩:=ry
  cases x with
  | non=>cases rx;exact SeqAt.EqAt.int_none a t'
  | bl b=>cases rx;exact SeqAt.EqAt.int_bool a t' b
  | int b=>obtain⟨t,rfl⟩:=rx;exact SeqAt.EqAt.int_int a t' b t
  | str b=>obtain⟨t,rfl⟩:=rx;exact SeqAt.EqAt.int_str a t' b t
  | _=>exact absurd (show false=true from fx) Bool.false_ne_true
 | str a =>
  obtain⟨t',rfl⟩:=ry
  cases x with
  | non=>cases rx;exact SeqAt.EqAt.str_none a t'
  | bl b=>cases rx;exact SeqAt.EqAt.str_bool a t' b
  | int b=>obtain⟨t,rfl⟩:=rx;exact SeqAt.EqAt.str_int a t' b t
  | str b=>obtain⟨t,rfl⟩:=rx;exact SeqAt.EqAt.str_str a t' b t
  | _=>exact absurd (show false=true from fx) Bool.false_ne_true
 | _=>exact absurd (show false=true from fy) Bool.false_ne_true
def Yc (x:V) (u:Value):Bool:=match u with
 | .none=>Ac .non x
 | .bool b=>Ac (.bl b) x
 | .int i _=>Ac (.int i) x
 | .str z _=>Ac (.str z) x
 | _=>false
theorem D8 {x y:V}{u:Value} (r:RelV y u) (f:fk y=true):Yc x u=Ac y x:=by
 cases y with
 | non=>cases r;rfl
 | bl b=>cases r;rfl
 | int i=>obtain⟨t,rfl⟩:=r;rfl
 | str z=>obtain⟨t,rfl⟩:=r;rfl
 | _=>exact absurd (show false=true from f) Bool.false_ne_true
theorem FL {A:Around}{s:Shared}{x:V}{v:Value} (rx:RelV x v) (fx:fk x=true):∀{xs:List V}{us:List Value},Vals xs us→xs.all fk=true→∀ u∈us,SeqAt.EqAt A s u v (Yc x u)
 | _,_,.nil,_=>fun u hu=>by cases hu
 | y :: xs,u :: us,.cons r t,f=>fun u' hu=>by
  rw[List.all_cons,Bool.and_eq_true] at f
  rcases List.mem_cons.mp hu with rfl | hu
  ·rw[D8 r f.1];exact IP r rx f.1 fx
  ·exact FL rx fx t f.2 u' hu
theorem kY:lT X (compareOp .NotIn) (fun x y H Q=>∃ i j,x=.str i∧y=.str j∧Q (.bl (!(!(Builtin.Str.occurrences j i 0 j.length 1).isEmpty))) H):=by
 intro pins s σ H x y v u Q I rx ry h
 obtain⟨i,j,rfl,rfl,q⟩:=h
 obtain⟨t,rfl⟩:=rx
 obtain⟨t',rfl⟩:=ry
 exact notIn_str ⟨.bl _,H,I,rfl,q⟩
theorem D9:cY X (.builtin "len") (fun xs H Q=>∃ p ys,xs=[.ref p]∧(aU X.K H p ys∨aV X.K H p ys)∧Q (.int ys.length) H):=by
 intro pins s σ H xs us Q I r h
 obtain⟨p,ys,rfl,hq,q⟩:=h
 obtain⟨u,rfl,rx⟩:=vals1 r
 cases rx
 have hn:=xq
 rcases hq with hq | hq
 ·obtain⟨its,r',pl,hz⟩:=I.list hq
  have hlen:=r'.length
  exact Calls.call_len_list pl.isList (by simp only[List.size_toArray] <;> omega) ⟨.int ys.length,H,I.tok _,⟨s.toks+1,by rw[List.size_toArray,hlen]⟩,q⟩
 ·obtain⟨its,r',pl,hz⟩:=I.tuple hq
  have hlen:=r'.length
  exact len_tuple pl (by simp only[List.size_toArray] <;> omega) ⟨.int ys.length,H,I.tok _,⟨s.toks+1,by rw[List.size_toArray,hlen]⟩,q⟩
theorem bH:cY X (.builtin "len") (fun xs H Q=>∃ z,xs=[.str z]∧z.length≤sizeLine∧Q (.int z.length) H):=by
 intro pins s σ H xs us Q I r h
 obtain⟨z,rfl,hz,q⟩:=h
 obtain⟨u,rfl,t,rfl⟩:=vals1 r
 have hn:=xq
 exact len_str (by omega) ⟨.int z.length,H,I.tok _,⟨_,rfl⟩,q⟩
theorem cY.or {f:Value}{r r':List V→Hp→VK→Prop} (h:cY X f r) (h':cY X f r'):cY X f (fun xs H Q=>r xs H Q∨r' xs H Q):=by
 intro pins s σ H xs us Q I rs q
 rcases q with q | q
 ·exact h pins s σ H xs us Q I rs q
 ·exact h' pins s σ H xs us Q I rs q
theorem Ea:cY X (.type "list") (fun xs H Q=>∃ p ys,xs=[.ref p]∧(aU X.K H p ys∨aV X.K H p ys)∧∀ l,H l=none→Q (.ref l) (upd H l (.lst ys))):=by
 intro pins s σ H xs us Q I r h
 obtain⟨p,ys,rfl,hq,q⟩:=h
 obtain⟨u,rfl,rx⟩:=vals1 r
 cases rx
 have fin:∀(its:List Value),Vals ys its→ys.length≤sizeLine→∀(h':Heap) (c':Nat),(∀ b o',s.heap.get? b=some o'→h'.get? b=some o') →
   h'.get? s.heap.objs.size=some { cls:=.type "list",dict:=none,data:=.seq its.toArray c',slots:=#[] }→EP X pins σ Q (.ref s.heap.objs.size) { s with heap:=h' }:=fun its r' hz h' c' kp e =>
  ⟨.ref s.heap.objs.size,_,I.laid (t':=s.toks) kp (Nat.le_refl _) (show dS X.prog X.w _ h' _ (.lst ys) from ⟨hz,its,c',r',e⟩),rfl,q _ (I.hok.fresh (Nat.le_refl _))⟩
 rcases hq with hq | hq
 ·obtain⟨its,r',pl,hz⟩:=I.list hq
  have hlen:=r'.length
  obtain⟨o,ho,hc,n,hd⟩:=pl.isList
  exact call_list_seq p (.inl rfl) ho hc hd (fun h' c' kp e=>fin its r' hz h' c' kp e) (by simp only[List.size_toArray] <;> omega)
 ·obtain⟨its,r',pl,hz⟩:=I.tuple hq
  have hlen:=r'.length
  obtain⟨o,ho,hc,n,hd⟩:=pl
  exact call_list_seq p (.inr rfl) ho hc hd (fun h' c' kp e=>fin its r' hz h' c' kp e) (by simp only[List.size_toArray] <;> omega)
theorem BW:cY X (.type "tuple") (fun xs H Q=>∃ p ys,xs=[.ref p]∧((aU X.K H p ys∧∀ l,H l=none→Q (.ref l) (upd H l (.tup ys)))∨(aV X.K H p ys∧Q (.ref p) H))):=by
 intro pins s σ H xs us Q I r h
 obtain⟨p,ys,rfl,h⟩:=h
 obtain⟨u,rfl,rx⟩:=vals1 r
 cases rx
 rcases h with ⟨hq,q⟩ | ⟨hq,q⟩
 ·obtain⟨its,r',pl,hz⟩:=I.list hq
  have hlen:=r'.length
  refine call_tuple_list pl.isList (fun h' kp=>?_) (by simp only[List.size_toArray] <;> omega)
  have I1:Inv X pins σ H { s with heap:=h' }:=I.kept (t':=s.toks) kp
  have I2:Inv X pins σ (upd H h'.objs.size (.tup ys)) { s with heap:=h'.push { cls:=.type "tuple",data:=.seq its.toArray } } :=
   I1.laid (t':=s.toks) (fun b o e=>Heap.get?_push_of_some _ e) (Nat.le_refl _) (show dS X.prog X.w _ _ _ (.tup ys) from ⟨hz,its,r',IsTup.new _ _⟩)
  exact⟨.ref h'.objs.size,_,I2,rfl,q _ (I1.hok.fresh (Nat.le_refl _))⟩
 ·obtain⟨its,r',pl,hz⟩:=I.tuple hq
  exact call_tuple_same pl ⟨.ref p,H,I,rfl,q⟩
def tyV (K:W.Frag) (T:String) (x:V) (H:Hp):Prop:=match x with
 | .str _=>T = "str"
 | .int _=>T = "int"
 | .ref p=>(T = "list"∧∃ xs,aU K H p xs)∨(T = "tuple"∧∃ o,K.lookup p=some o∧o.cls=.type "tuple"∧o.dict=none) ∨
   (T = "dict"∧((∃ kvs,H p=some (.dK kvs))∨∃ kvs,H p=some (.dT kvs)))∨(T = "set"∧∃ S n,H p=some (.set S n))
 | _=>False
theorem Om {pins:List (Addr×Obj)}{σ:St}{H:Hp}{s:Shared}{T:String}{x:V}{v:Value} (I:Inv X pins σ H s) (r:RelV x v) (ty:tyV X.K T x H) :
  s.TypeIs v T∧∀ a,v=.ref a→∃ ob,s.heap.get? a=some ob∧ob.dict=none:=by
 cases x with
 | str z =>
  obtain⟨t,rfl⟩:=r
  cases(show T = "str" from ty)
  exact⟨typeIs_str s z t,fun _ e=>nomatch e⟩
 | int i =>
  obtain⟨t,rfl⟩:=r
  cases(show T = "int" from ty)
  exact⟨typeIs_int s i t,fun _ e=>nomatch e⟩
 | ref p =>
  cases r
  rcases ty with ⟨rfl,xs,hq⟩ | ⟨rfl,o,hk,hc,hd⟩ | ⟨rfl,hk⟩ | ⟨rfl,S,n,hk⟩
  ·obtain⟨its,_,pl,_⟩:=I.list hq
   refine⟨pl.isList.typeIs,fun a e=>?_⟩
   cases e
   obtain⟨o,n,e,c,hd,_⟩:=pl
   exact⟨o,e,hd⟩
  ·refine⟨⟨o,I.vj p o hk,hc⟩,fun a e=>?_⟩
   cases e
   exact⟨o,I.vj _ o hk,hd⟩
  ·have z:∃ o,s.heap.get? p=some o∧o.ExactDict:=by
    rcases hk with ⟨kvs,hk⟩ | ⟨kvs,hk⟩
    ·obtain⟨_,_,_,_,o,_,_,e,ex,_⟩:=I.hok p _ hk
     exact⟨o,e,ex⟩
    ·obtain⟨_,_,_,_,o,_,_,e,ex,_⟩:=I.hok p _ hk
     exact⟨o,e,ex⟩
   obtain⟨o,e,ex⟩:=z
   refine⟨⟨o,e,ex.1⟩,fun a e2=>?_⟩
   cases e2
   exact⟨o,e,ex.2.1⟩
  ·obtain⟨o,_,_,_,e,ex,_⟩:=I.hok p _ hk
   refine⟨⟨o,e,ex.1⟩,fun a e2=>?_⟩
   cases e2
   exact⟨o,e,ex.2.1⟩
 | _=>exact False.elim ty
def tBM (K:W.Frag) (T:String) (r:V→List V→Hp→VK→Prop) (to:TE) (t:TA):TE:=fun σ H Q=>to σ H fun x H1=>tyV K T x H1∧t σ H1 fun xs H2=>r x xs H2 Q
variable {o e:Expr}{es:List Expr}{to:TE}{t:TA}{name:Str}{apos cpos:Pos}{T id:String}{r:V→List V→Hp→VK→Prop}
theorem Zi (pa:PlainAttrs T) (slot:Slot T name id) (hty:typeOf (.builtin id)=pure (.type "method_descriptor")) (hm:UZ X id r) (ho:PE X o to) (ha:PA X (e :: es) t)
  (hbase:attributeBase o name X.env (eval o X.env)=eval o X.env:=by rfl)
  (hfew:((backTo cpos (starEach (e :: es) X.env)).all (fun x=>!x.1) && (backToKw cpos (keywordEach [] X.env)).all (fun x=>x.1.isSome)
   && decide ((e :: es).length+([]:List Keyword).length+(if ([]:List Keyword).isEmpty then 0 else 1) < 30))=true:=by rfl)
  (hline:(apos.endLine == cpos.line)=true:=by rfl) (hs:starEach (e :: es) X.env=(false,eval e X.env) :: starEach es X.env:=by rfl) (hplain:(backTo cpos (starEach es X.env)).any (·.1)=false:=by rfl) :
  PE X (.Call (.Attribute o name apos) (e :: es) [] cpos) (tBM X.K T r to t):=by
 intro pins s σ H Q I h
 refine wpAny_Call_method_late hbase hfew hline rfl (dj (ho pins s σ H _ I h) fun v s1 ⟨x,H1,I1,r1,ty,q1⟩=>?_)
 obtain⟨h1,h2⟩:=Om I1 r1 ty
 refine⟨T,id,pa,slot,hty,h1,h2,?_⟩
 have hA:=ha cpos pins s1 σ H1 _ I1 q1
 rw[hs] at hA ⊢
 refine Calls.callWith_builtin (by show(false || (backTo cpos (starEach es X.env)).any (·.1))=false;rw[hplain] <;> rfl) (Calls.evalArgs_plain ?_)
 exact dj hA fun us s2 ⟨vs,H2,I2,r2,q2⟩=>hm pins s2 σ H2 x vs v us Q I2 r1 r2 q2
end
def MtM (X:Cx) (id:String) (r:V→List V→Hp→VK→Prop):Prop :=
 ∀(pins:List (Addr×Obj)) (s:Shared) (σ:St) (H:Hp) (x:V) (xs:List V) (v:Value) (us:List Value) (Q:VK),Inv X pins σ H s→RelV x v→Vals xs us→r x xs H Q →
  wpAny (model X.prog X.w) X.A (call (.builtin id) (v :: us)) (EP X pins σ Q) X.xe s
theorem Vals.one:∀{x:V}{us:List Value},Vals [x] us→∃ u,us=[u]∧RelV x u
 | _,_,.cons r .nil=>⟨_,rfl,r⟩
theorem Vals.reverse {xs:List V}{us:List Value} (h:Vals xs us):Vals xs.reverse us.reverse:=by
 induction h with
 | nil=>exact .nil
 | cons r t ih=>rw[List.reverse_cons,List.reverse_cons];exact Vals.append ih (.cons r .nil)
section
variable {X:Cx}{pins:List (Addr×Obj)}{σ:St}{H:Hp}{s:Shared}{l b:Addr}{xs ys zs:List V}
theorem Inv.Zj {its its':List Value}{n:Nat}{f:Array Value→Array Value}{t':Nat} (I:Inv X pins σ H s) (hH:H l=some (.lst xs))
  (e:s.heap.get? l=some { cls:=.type "list",data:=.seq its.toArray n }) (hf:f its.toArray=its'.toArray) (hv:Vals ys its') (hz:ys.length≤sizeLine) :
  Inv X pins σ (upd H l (.lst ys)) { s with heap:=s.heap.update l (Obj.mapSeq f),toks:=t' }:=by
 have q:=PySem.IsL.update e f
 rw[hf] at q
 refine I.write (x:=l) (e:=l) (by rw[hH];exact trivial) (.inl rfl) (fun b' u hb hu=>(Heap.get?_update_other s.heap (Obj.mapSeq f) (Ne.symm hb)).trans hu) ⟨_,q⟩ ?_
 exact⟨hz,its',_,hv,q⟩
theorem Inv.Zk {its:List Value}{t':Nat} (I:Inv X pins σ H s) (hv:Vals ys its) (hz:ys.length≤sizeLine) :
  Inv X pins σ (upd H s.heap.objs.size (.lst ys)) { s with heap:=s.heap.push { cls:=.type "list",data:=.seq its.toArray },toks:=t' } :=
 I.laid (fun _ _ q=>Heap.get?_push_of_some _ q) (Nat.le_refl _) ⟨hz,its,0,hv,Heap.get?_push_size _ rfl⟩
theorem Inv.fresh (I:Inv X pins σ H s):H s.heap.objs.size=none:=I.hok.fresh (Nat.le_refl _)
theorem Inv.Oo (I:Inv X pins σ H s) (hH:H l=some (.lst xs)):xs.length≤sizeLine∧∃(its:List Value) (n:Nat),Vals xs its∧xs.length=its.length∧s.heap.get? l=some { cls:=.type "list",data:=.seq its.toArray n }:=by
 obtain⟨z,its,n,r,e⟩:=I.hok l _ hH
 exact⟨z,its,n,r,r.length,e⟩
theorem Oq {n:Nat} (h:n≤sizeLine):Builtin.List.listTooLong n=false:=by
 unfold Builtin.List.listTooLong
 exact decide_eq_false (by omega)
end
section
variable {X:Cx}
def RA:V→List V→Hp→VK→Prop:=fun x vs H Q=>∃ l xs y,x=.ref l∧vs=[y]∧H l=some (.lst xs)∧xs.length < sizeLine∧Q .non (upd H l (.lst (xs++[y])))
theorem cJ:MtM X "list.append" RA:=by
 intro pins s σ H x vs v us Q I rx rv h
 obtain⟨l,xs,y,rfl,rfl,hH,hz,q⟩:=h
 cases rx
 obtain⟨u,rfl,ru⟩:=rv.one
 obtain⟨z,its,n,r,hl,e⟩:=I.Oo hH
 refine call_meets F.slot_list_append ⟨_,e,rfl⟩ F.entry_list_append (F.args_list_append_2 _ _) (PySem.list_append l its.toArray n u (by rw[List.size_toArray];omega)) ⟨e,?_⟩
 refine⟨.non,_,I.Zj (its':=its++[u]) hH e (by simp) (r.append (.cons ru .nil)) ?_,rfl,q⟩
 rw[List.length_append,List.length_singleton]
 omega
def RB:V→List V→Hp→VK→Prop:=fun x vs H Q=>∃ l b xs zs,x=.ref l∧vs=[.ref b]∧H l=some (.lst xs)∧H b=some (.lst zs)∧xs.length+zs.length≤sizeLine∧Q .non (upd H l (.lst (xs++zs)))
theorem xw:MtM X "list.extend" RB:=by
 intro pins s σ H x vs v us Q I rx rv h
 obtain⟨l,b,xs,zs,rfl,rfl,hH,hB,hz,q⟩:=h
 cases rx
 obtain⟨u,rfl,ru⟩:=rv.one
 cases ru
 obtain⟨z,its,n,r,hl,e⟩:=I.Oo hH
 obtain⟨z2,its2,n2,r2,hl2,e2⟩:=I.Oo hB
 have hsz:its.toArray.size+its2.toArray.size≤sizeLine:=by rw[List.size_toArray,List.size_toArray];omega
 have Zl:¬(!its.toArray.isEmpty && Builtin.List.listTooLong (its.toArray.size+its2.toArray.size))=true:=by
  rw[Oq hsz,Bool.and_false]
  exact Bool.false_ne_true
 refine call_meets F.slot_list_extend ⟨_,e,rfl⟩ F.entry_list_extend (F.args_list_extend_2 _ _)
  (AutoSeq1.list_extend_list_list_0 l its.toArray n b its2.toArray n2 Zl (by rw[List.size_toArray];omega) (by omega)) ⟨e,e2,?_⟩
 refine⟨.non,_,I.Zj (its':=its++its2) hH e (by simp) (r.append r2) ?_,rfl,q⟩
 rw[List.length_append]
 omega
def afU:R2:=fun x y H Q=>∃ l b xs zs,x=.ref l∧y=.ref b∧H l=some (.lst xs)∧H b=some (.lst zs)∧xs.length+zs.length≤sizeLine∧∀ p,H p=none→Q (.ref p) (upd H p (.lst (xs++zs)))
theorem Ot:lT X (binaryOp .Add) afU:=by
 intro pins s σ H x y v u Q I rx ry h
 obtain⟨l,b,xs,zs,rfl,rfl,hH,hB,hz,q⟩:=h
 cases rx
 cases ry
 obtain⟨z,its,n,r,hl,e⟩:=I.Oo hH
 obtain⟨z2,its2,n2,r2,hl2,e2⟩:=I.Oo hB
 refine PySem.P.add_list e e2 ?_ (by rw[List.size_toArray,List.size_toArray];omega)
 have ea:its.toArray++its2.toArray=(its++its2).toArray:=by simp
 rw[ea]
 exact⟨.ref _,_,I.Zk (t':=s.toks) (r.append r2) (by rw[List.length_append];omega),rfl,q _ I.fresh⟩
end
section
variable {prog:Program}{w:World}{A:Around}{E:Value→Shared→Prop}{s:Shared}
set_option maxRecDepth 100000 in
end
section
variable {X:Cx}
end
end L2
namespace Att
open PySem PySem.W PySem.Calls PyProof.Rows
theorem zd {P:Params}{h:Heap}:∀(ns:List Int) (vs:List Value),WellAll P h vs (ns.map WData.int)→IntsAre vs ns:=by
 intro ns
 induction ns with
 | nil =>
  intro vs w
  rw[List.map_nil] at w
  cases w
  exact .nil
 | cons n ns ih =>
  intro vs w
  rw[List.map_cons] at w
  cases w with
  | cons a b =>
   cases a
   exact .cons _ _ (ih _ b)
theorem LY {l:OpenLaw}{n:Nat} (hn:l.most=some n) {P:Params}{h:Heap}{args:List WData}{vals:List Value}
  (hpre:l.row.toRowW.claim.pre args=true) (hwl:WellAll P h vals args) :
  ∃ a vs ns,vals=[Value.ref a]∧args=[WData.list (ns.map WData.int)]∧h.get? a=some { cls:=.type "list",data:=.seq vs.toArray }∧IntsAre vs ns∧ns.length≤n:=by
 have hsh:WShape.hasAll [] args [.list .int]=true:=(pre_splitW hpre).1
 have hc:l.pre.holds [] { args:=args }=true:=(pre_splitW hpre).2
 obtain⟨d,r,rfl,h1,h2⟩:=hasAllW_cons hsh
 obtain rfl:=hasAllW_nil h2
 obtain⟨xs,rfl,h3⟩:=hasW_list h1
 obtain⟨ns,rfl⟩:=items_int h3
 have hlen:ns.length≤n:=by
  unfold OpenLaw.pre at hc
  have h4:(WTm.not (.lt (.lit (.int (n:Int))) (.len (.arg 0)))).holds [] { args:=[.list (ns.map .int)] }=true:=by
   have h4:=(holds_andW hc).1
   rw[hn] at h4
   exact h4
  have h5:=condW_of h4 (w_not (w_lt w_lit (w_len_list (w_arg rfl))))
  rw[List.length_map] at h5
  refine Nat.le_of_not_lt fun q=>?_
  have q':(n:Int) < ((ns.length:Nat):Int):=by omega
  first
   | (rw[decide_eq_true q'] at h5;exact absurd h5 (by decide))
   | (simp at h5;omega)
 cases hwl with
 | cons w1 w2 =>
  cases w2
  cases w1 with
  | list ho hall=>exact⟨_,_,ns,rfl,rfl,ho,zd ns _ hall,hlen⟩
theorem LZ (l:OpenLaw) (args:List WData):l.row.toRowW.claim.post args (.bool true) args=true :=
 postW_of (r:=l.row.toRowW) (X:=(true == true))
  (show WShape.has [] (.bool true) .bool=true by first | rfl | decide | simp[WShape.has,WShape.arms,WShape.armsAll])
  (show(WTm.eq .res (.lit (.bool true))).value [] { args:=args,res:=some (.bool true),after:=args }=some (.bool (true == true)) from w_eq_bool (w_res rfl) w_lit) rfl
theorem FP {l:OpenLaw}{n:Nat}{q:Program}{loose:List Str}{XP:(Str→Option Value)→Heap→Prop}{YP:World→Heap→Prop}{d:DefRec}
  (hn:l.most=some n) (hdf:d.params.defaults=[])
  (call:∀(w:World) (s₀ s₁:Shared) (mg mb:Str→Option Value) (fa:Addr) (o:Obj) (pm cd doc:Value) (a:Addr) (vs:List Value) (ns:List Int),
   Ground q loose [] XP w s₀ mg mb s₁.heap→YP w s₁.heap →
   s₁.heap.get? fa=some o→o.data=.func (docDef d.name d.params d.body d.scope pm cd doc)→s₁.heap.CodeRec cd d.name→mg d.name=some (.ref fa) →
   s₁.heap.get? a=some { cls:=.type "list",data:=.seq vs.toArray }→IntsAre vs ns→ns.length≤n→s₁.gens = #[] →
   codeAny (model l.prog w) callerA (.call (.ref fa) ⟨[.ref a],[]⟩) (fun r s'=>r=.ok (.ret (.bool true))∧OldK s₁.heap s'.heap∧s'.os=s₁.os∧AllBare s'.gens) s₁) :
  WalkO q loose XP YP l.row.toRowW d [] (fun f vs=>PySem.call f vs):=by
 intro w s₀ s₁ mg mb G Y fa o pm cd doc dV kV ho hd hcd hD hmg hg args vals as hpre hlay hrd hwl hlo
 obtain rfl:dV=.none:=Dflts.none hD hdf
 obtain rfl:kV=.none:=Dflts.noKw hD
 obtain⟨a,vs,ns,rfl,rfl,hobj,hints,hlen⟩:=LY hn hpre hwl
 refine enter_call (codeAny_mono (call w s₀ s₁ mg mb fa o pm cd doc a vs ns G Y ho (fd_plain hd) hcd hmg hobj hints hlen hg) fun r s' hq=>?_)
 obtain⟨rfl,h2,h3,h4⟩:=hq
 exact⟨.inl ⟨.bool true,.bool true,[],rfl,fun _=>rfl,.bool true,LZ l _,fun _=>⟨List.Pairwise.nil,fun _ hm=>(nomatch hm)⟩⟩,h2,h3,h4⟩
section
variable {prog:Program}{w:World}{A:Around}{E:Value→Shared→Prop}{s:Shared}{K:Frag}
end
end Att
namespace L2
open PySem PySem.Spec PyProof.Rows
theorem C5:∀{vs:List Value}{ns:List Int},IntsAre vs ns→Vals (ns.map V.int) vs
 | _,_,.nil=>.nil
 | _,_,.cons n t h=>.cons ⟨t,rfl⟩ (C5 h)
def U5 (H:Hp):Prop:=∀ b,H b=none∨∃ o xs,H b=some (.KZ o (.lst xs))
theorem Ou {P:Program}{w:World}{K:W.Frag}{mg mb:Str→Option Value}{CX:NR}{k:Nat}{fa a:Addr}{fd:FuncData}{x:Str}{sp:Sp}{s₁:Shared}{vs:List Value}{ns:List Int}
  (KX:K.In s₁.heap) (hns:s₁.heap.Ns mainGlobals mg) (hb:s₁.heap.Ns builtinsNs mb) (hbb:∀ x:Str,x ≠ "__name__"→mb x=bootBuiltins x) (hlim:s₁.heap.NoLimit) (hg:s₁.gens = #[])
  (ha:s₁.heap.get? a=some { cls:=.type "list",data:=.seq vs.toArray }) (hi:IntsAre vs ns) (hl:ns.length≤sizeLine) (hr:iO k callerA)
  (F:∀ base:Heap,K.In base→base.Ns mainGlobals mg→aG P w K mg base CX k fa fd [x] sp) (hbind:∀(s:Shared) (u:Value),BindsTo s fd ⟨[u],[]⟩ [(x,u)])
  (Rb:∀ H:Hp,U5 H→aU K H a (ns.map V.int)→sp [.ref a] H (fun v _=>v=.bl true) fun _ _ _=>False)
  (hCX:∀ H e s',CX [] H s₁ (fun _ _ _=>False) e s'→False) :
  codeAny (model P w) callerA (.call (.ref fa) ⟨[.ref a],[]⟩) (fun r s'=>r=.ok (.ret (.bool true))∧OldK s₁.heap s'.heap∧s'.os=s₁.os∧AllBare s'.gens) s₁:=by
 have rv:=C5 hi
 have afV:=hi.length
 have core:∀ H:Hp,U5 H→aU K H a (ns.map V.int)→z0 P w H s₁.heap→(∀ b,H b≠none→b=a)→(H a≠none→K.lookup a=none) →
   codeAny (model P w) callerA (.call (.ref fa) ⟨[.ref a],[]⟩) (fun r s'=>r=.ok (.ret (.bool true))∧OldK s₁.heap s'.heap∧s'.os=s₁.os∧AllBare s'.gens) s₁:=by
  intro H hO hS hok hA hK
  have Lc:∀{b:Addr}{o:Obj},s₁.heap.get? b=some o→H b=none→(DV s₁.heap H).get? b=some o:=fun e n=>N5 e n
  have Ze:∀{b:Addr}{o:Obj}{es:Array DictEntry}{ep:Nat},s₁.heap.get? b=some o→o.data=.dict es ep→H b=none:=fun {b o es ep} e d=>by
   cases q:H b with
   | none=>rfl
   | some u =>
    have e':b=a:=hA b (by rw[q];simp)
    subst e'
    rw[ha] at e;cases e
    have d':Data.seq vs.toArray _=Data.dict es ep:=d
    cases d'
  have nsK:∀{b:Addr}{m:Str→Option Value},s₁.heap.Ns b m→(DV s₁.heap H).Ns b m:=fun {b m} ⟨o,es,ep,e,d,r⟩=>⟨o,es,ep,Lc e (Ze e d),d,r⟩
  have hKb:K.In (DV s₁.heap H):=fun b o e=>Lc (KX b o e) (by
   cases q:H b with
   | none=>rfl
   | some u =>
    have e':b=a:=hA b (by rw[q];simp)
    subst e'
    rw[hK (by rw[q];simp)] at e;cases e)
  have hM:Mod K mg (DV s₁.heap H):=⟨hKb,nsK hns,⟨mb,nsK hb,hbb⟩,let ⟨mc,h1,h2⟩:=hlim;⟨mc,nsK h1,h2⟩⟩
  have e0:IF P w K mg (DV s₁.heap H) callerA [] s₁ H:=⟨rfl,hM,fun b o e=>Rf e,Nat.le_of_eq (LO _ _),trivial,fun b hb=>absurd (show b∈([]:List Addr) from hb) (by simp),hok,.of_eq hg⟩
  refine codeAny_mono ((F _ hKb (nsK hns)).run callerA [] s₁ H ⟨[.ref a],[]⟩ [.ref a] [.ref a] _ _ hr e0 (hbind s₁ (.ref a)) (.cons rfl .nil) (Rb H hO hS)) fun r s' h=>?_
  cases r with
  | error e=>exact(hCX H e s' h).elim
  | ok fl =>
   cases fl with
   | next=>exact False.elim h
   | brk=>exact False.elim h
   | cont=>exact False.elim h
   | ret u =>
    obtain⟨v,H',os,bare,un,afW,r',q⟩:=h
    have q':v=.bl true:=q
    subst q'
    obtain rfl:u=Value.bool true:=r'
    refine⟨rfl,OldK.of_keep fun b o e=>?_,os,bare⟩
    cases q:H b with
    | none=>exact un.keep b o e q (by intro z;exact absurd (show b∈([]:List Addr) from z) (by simp)) (by simp)
    | some u =>
     rcases hO b with z | ⟨ob,xs,z⟩
     ·rw[q] at z;cases z
     ·have z2:=un.DU b ob _ z
      obtain⟨e1,_⟩:=hok b _ z
      obtain⟨e2,_⟩:=afW b _ z2
      rw[e] at e1;cases e1
      exact e2
 cases hk:K.lookup a with
 | some o =>
  have e:=KX a o hk
  rw[ha] at e
  cases e
  refine core (fun _=>none) (fun _=>.inl rfl) (.inr ⟨_,vs.toArray,_,hk,rfl,rfl,rfl,by rw[List.size_toArray,afV];exact hl,by simpa using rv⟩) (fun b u z=>by have z':(none:Option HO)=some u:=z;cases z') (fun b z=>absurd rfl z) fun z=>absurd rfl z
 | none =>
  refine core (fun b=>if b=a then some (.KZ { cls:=.type "list",data:=.seq vs.toArray } (.lst (ns.map V.int))) else none) (fun b=>?_) (.inl (.inr ⟨{ cls:=.type "list",data:=.seq vs.toArray },if_pos rfl⟩)) (fun b u z=>?_) (fun b z=>?_) fun _=>hk
  ·by_cases hb:b=a
   ·exact .inr ⟨_,_,if_pos hb⟩
   ·exact .inl (if_neg hb)
  ·by_cases hb:b=a
   ·have z':=(if_pos hb).symm.trans z
    cases z'
    subst hb
    exact⟨ha,by rw[List.length_map];exact hl,vs,_,rv,ha⟩
   ·have z':=(if_neg hb).symm.trans z
    cases z'
  ·by_cases hb:b=a
   ·exact hb
   ·exact absurd (if_neg hb) z
theorem RC {l:W.OpenLaw}{n k:Nat}{q:Program}{loose:List Str}{XP:(Str→Option Value)→Heap→Prop}{YP:World→Heap→Prop}{d:DefRec}{K:Params→W.Frag}{CX:World→NR}{sp:World→Sp}{x:Str}
  (hn:l.most=some n) (hn2:n≤sizeLine) (hdf:d.params.defaults=[]) (hr:iO k callerA)
  (hY:∀(w:World) (h:Heap),YP w h→(K w.params).In h)
  (F:∀(w:World) (mg:Str→Option Value) (fa:Addr) (h:Heap),(K w.params).In h→h.Ns mainGlobals mg→mg d.name=some (.ref fa) →
   ∃ fd:FuncData,(∀(s:Shared) (u:Value),BindsTo s fd ⟨[u],[]⟩ [(x,u)]) ∧
    ∀ base:Heap,(K w.params).In base→base.Ns mainGlobals mg→aG l.prog w (K w.params) mg base (CX w) k fa fd [x] (sp w))
  (Rb:∀(w:World) (H:Hp) (a:Addr) (ns:List Int),ns.length≤n→U5 H→aU (K w.params) H a (ns.map V.int)→sp w [.ref a] H (fun v _=>v=.bl true) fun _ _ _=>False)
  (hCX:∀(w:World) (H:Hp) (s:Shared) (e:Value) (s':Shared),CX w [] H s (fun _ _ _=>False) e s'→False) :
  W.WalkO q loose XP YP l.row.toRowW d [] (fun f vs=>PySem.call f vs):=by
 refine Att.FP hn hdf fun w s₀ s₁ mg mb fa o pm cd doc a vs ns G Y ho hd hcd hmg hobj hints hlen hg=>?_
 have KX:=hY w _ Y
 obtain⟨fd,hb,hF⟩:=F w mg fa _ KX G.T.g hmg
 exact Ou KX G.T.g G.T.b G.T.builtins G.T.nolimit hg hobj hints (Nat.le_trans hlen hn2) hr hF hb (fun H hO hS=>Rb w H a ns hlen hO hS) fun H e s'=>hCX w H s₁ e s'
def inClass (s:Stmt) (j:Nat):Stmt:=match s with
 | .ClassDef _ _ _ body _ _ _ _ _ _ _=>body.getD j (.Pass ⟨0,0,0,0⟩)
 | _=>.Pass ⟨0,0,0,0⟩
def d7 (s:Stmt):Arguments:=match s with
 | .FunctionDef _ a _ _ _ _ _ _ _ _=>a
 | _=>{ posonlyargs:=[],args:=[],vararg:=none,kwonlyargs:=[],kw_defaults:=[],kwarg:=none,defaults:=[] }
def di (s:Stmt):List Stmt:=match s with
 | .FunctionDef _ _ b _ _ _ _ _ _ _=>b
 | _=>[]
def au (s:Stmt):Scope:=match s with
 | .FunctionDef _ _ _ _ _ _ sc _ _ _=>sc
 | _=>{ kind:=.function,names:=[],isGenerator:=false,isCoroutine:=false }
abbrev bu:NR:=fun _ _ _ _ _ _=>False
abbrev E0:XK:=fun _ _ _=>False
theorem gh {X:Cx}:Passes bu X E0:=fun _ _ _ _ _ _ _ h=>h.elim
structure fH (K:W.Frag) (x qual:Str) (st:Stmt) (f:Addr) (fd:FuncData):Prop where
 ex:∃(oc:Value) (od:Option Addr) (kV doc pm:Value) (an:Option Addr) (cdv ct:Value) (osl:Array (Option Value)),
  fd=W.fnOf x qual (d7 st) (di st) (au st) .none kV doc pm an cdv ct∧K.lookup f=some ⟨oc,od,.func fd,osl⟩∧W.codeIn K cdv qual=true
 kp:W.keepIn K (.ref f)=true
section
variable {P:Program}{w:World}{K:W.Frag}{mg:Str→Option Value}{base:Heap}
theorem fH.ok {x qual:Str}{st:Stmt}{f:Addr}{fd:FuncData}{N ps:List Str}{k:Nat}{sp:Sp} (F:fH K x qual st f fd) (S:aD N ps (au st)) (len:∀ vs H Q E,sp vs H Q E→vs.length=ps.length)
  (hbody:∀(cdv:Value) (A:Around) (outer:List Env) (s:Shared) (H:Hp) (vs:List V) (Q:VK) (E:XK),iO k (A.deeper (envOfC qual (au st) s.heap.objs.size f cdv))→sp vs H Q E →
   ∃ t,K2 (II bu P w K mg base N qual (au st) f cdv A outer s H E).X5 (di st) t∧t { nx:=fun _ H'=>Q .non H',rt:=Q } (start N vs) H):aG P w K mg base bu (k+1) f fd ps sp:=by
 obtain⟨oc,od,kV,doc,pm,an,cdv,ct,osl,rfl,lk,hcd⟩:=F.ex
 refine TX lk hcd S len fun A outer s H vs Q E hr Rb=>?_
 obtain⟨t,h,q⟩:=hbody cdv A outer s H vs Q E hr Rb
 exact⟨t,h.X5,q⟩
theorem fH.binds {x qual:Str}{st:Stmt}{f:Addr}{fd:FuncData}{ps:List Str} (F:fH K x qual st f fd)
  (h:∀(kV doc pm:Value) (an:Option Addr) (cdv ct:Value) (us:List Value),us.length=ps.length→bindArgs (W.fnOf x qual (d7 st) (di st) (au st) .none kV doc pm an cdv ct) ⟨us,[]⟩=pure (ps.zip us)):Binds K fd ps []:=by
 obtain⟨oc,od,kV,doc,pm,an,cdv,ct,osl,rfl,lk,hcd⟩:=F.ex
 exact .all (h kV doc pm an cdv ct)
theorem aP {x qual:Str}{st:Stmt}{f:Addr}{oc:Value}{od an:Option Addr}{osl:Array (Option Value)}{kV doc pm cdv ct:Value} (l:K.lookup f=some ⟨oc,od,.func (W.fnOf x qual (d7 st) (di st) (au st) .none kV doc pm an cdv ct),osl⟩)
 (c:W.codeIn K cdv qual=true) (k:W.keepIn K (.ref f)=true):fH K x qual st f (W.fnOf x qual (d7 st) (di st) (au st) .none kV doc pm an cdv ct):=⟨⟨oc,od,kV,doc,pm,an,cdv,ct,osl,rfl,l,c⟩,k⟩
end
theorem aX {A:Around}{k:Nat} (hr:iO k A):A.units+1 < cLine:=Nat.lt_of_le_of_lt (Nat.add_le_add_left (by decide:1≤64) _) hr.units
section
variable {X:Cx}
theorem pv (i:Nat) {x:Str}{pos:Pos} (hN:X.N[i]? = some x:=by rfl) (hv:Vis X.env.scope x:=by first | exact Or.inl rfl | exact Or.inr (Or.inl rfl) | exact Or.inr (Or.inr rfl)) (hd:(x == ("__debug__" : Str))=false:=by decide)
 (hcd:(x == ("__classdict__" : Str))=false:=by decide):PE X (.Name x pos) (YT i):=UI hN hv hd hcd
end
theorem dF {A B:Prop} (h:B):if false=true then A else B:=by
 rw[if_neg Bool.false_ne_true]
 exact h
theorem lU {A B:Prop} (h:A):if true=true then A else B:=by
 rw[if_pos rfl]
 exact h
theorem bW {c A B:Prop} [Decidable c] (h1:c→A) (h2:¬c→B):if c then A else B:=by
 by_cases h:c
 ·rw[if_pos h]
  exact h1 h
 ·rw[if_neg h]
  exact h2 h
theorem Zm {c A B:Prop} [Decidable c] (hc:c) (h:B):if (!decide c)=true then A else B:=by
 rw[decide_eq_true hc]
 exact dF h
def aE (H H':Hp):Prop:=∀ b o,H b=some o→H' b=some o
theorem aE.refl (H:Hp):aE H H:=fun _ _ h=>h
theorem aE.trans {H H1 H2:Hp} (a:aE H H1) (b:aE H1 H2):aE H H2:=fun c o h=>b c o (a c o h)
theorem aE.free {H H':Hp} (e:aE H H') {l:Addr} (h:H' l=Option.none):H l=Option.none:=by
 cases q:H l with
 | none=>rfl
 | some o =>
  rw[e l o q] at h
  cases h
theorem aE.seq {K:W.Frag}{H H':Hp}{a:Addr}{xs:List V} (e:aE H H') (h:aU K H a xs):aU K H' a xs:=by
 rcases h with (h | ⟨o,h⟩) | h
 ·exact .inl (.inl (e _ _ h))
 ·exact .inl (.inr ⟨o,e _ _ h⟩)
 ·exact .inr h
end L2
set_option maxHeartbeats 4000000
namespace L2
open PySem PySem.Spec PyProof.Rows
def jA (env:Env):List (Str×NameKind)→List (Str×Addr)→List (Str×Addr)
 | [],cs=>cs
 | (n,k) :: r,cs=>jA env r (if k == .free then (n,(env.cells.lookup n).getD 0) :: cs else cs)
theorem tS {scope:Scope}{env:Env} (h:∀ n,(n,NameKind.free)∈scope.names→∃ c,env.cells.lookup n=some c) :
  closureFor scope env=pure (jA env scope.names []):=by
 simp only[closureFor]
 have key:∀(l:List (Str×NameKind)) (cs:List (Str×Addr)),(∀ n,(n,NameKind.free)∈l→∃ c,env.cells.lookup n=some c) →
   (forIn l cs (fun x r=>if (x.2 == NameKind.free)=true then (cellOf env x.1 >>= fun a=>pure (ForInStep.yield ((x.1,a) :: r))) else pure (ForInStep.yield r)):Sem (List (Str×Addr)))=pure (jA env l cs):=by
  intro l
  induction l with
  | nil=>intro cs _;rfl
  | cons x l ih =>
   intro cs hl
   obtain⟨n,k⟩:=x
   have hl':∀ n,(n,NameKind.free)∈l→∃ c,env.cells.lookup n=some c:=fun n hn=>hl n (List.mem_cons_of_mem _ hn)
   rw[List.forIn_cons]
   by_cases hk:k=.free
   ·subst hk
    obtain⟨c,hc⟩:=hl n List.mem_cons_self
    have e1:cellOf env n=pure c:=by unfold cellOf;rw[hc]
    simp only[beq_self_eq_true,if_true,e1,pure_bind]
    rw[ih _ hl']
    simp only[jA,beq_self_eq_true,if_true,hc,Option.getD_some]
   ·have hb:(k == NameKind.free)=false:=by simpa using hk
    simp only[hb,Bool.false_eq_true,if_false,pure_bind]
    rw[ih _ hl']
    simp only[jA,hb,Bool.false_eq_true,if_false]
 exact(congrArg (fun z=>z >>= fun r=>pure r) (key scope.names [] h)).trans rfl
theorem uC {env:Env}:∀(l:List (Str×NameKind)) (cs:List (Str×Addr)),(∀ n,(n,NameKind.free)∈l→∃ c,env.cells.lookup n=some c)→(∀ x c,cs.lookup x=some c→env.cells.lookup x=some c) →
  ∀ x c,(jA env l cs).lookup x=some c→env.cells.lookup x=some c
 | [],cs,_,h,x,c,e=>h x c e
 | (n,k) :: r,cs,hl,h,x,c,e=>by
  refine uC r _ (fun n hn=>hl n (List.mem_cons_of_mem _ hn)) ?_ x c e
  intro y d hy
  by_cases hk:(k == NameKind.free)=true
  ·rw[if_pos hk] at hy
   have hk':k=.free:=by simpa using hk
   subst hk'
   obtain⟨c',hc'⟩:=hl n List.mem_cons_self
   rw[hc',Option.getD_some,List.lookup_cons] at hy
   cases hyn:y == n with
   | true =>
    rw[hyn] at hy
    have:y=n:=by simpa using hyn
    subst this
    rw[hc'];exact hy
   | false=>rw[hyn] at hy;exact h y d hy
  ·rw[if_neg hk] at hy;exact h y d hy
theorem qS {env:Env}:∀(l:List (Str×NameKind)) (cs:List (Str×Addr)) (x:Str),((x,NameKind.free)∈l∨∃ c,cs.lookup x=some c)→∃ c,(jA env l cs).lookup x=some c
 | [],cs,x,h=>by
  rcases h with h | h
  ·cases h
  ·exact h
 | (n,k) :: r,cs,x,h=>by
  refine qS r _ x ?_
  rcases h with h | ⟨c,h⟩
  ·rcases List.mem_cons.mp h with e | h
   ·cases e
    refine .inr ⟨(env.cells.lookup n).getD 0,?_⟩
    simp[List.lookup_cons]
   ·exact .inl h
  ·right
   by_cases hk:(k == NameKind.free)=true
   ·rw[if_pos hk,List.lookup_cons]
    cases x == n with
    | true=>exact⟨_,rfl⟩
    | false=>exact⟨c,h⟩
   ·rw[if_neg hk];exact⟨c,h⟩
theorem lV {env:Env} (x:Str):∀(names:List (Str×NameKind)),
  (names.map fun (n,k)=>if (k == NameKind.free && env.scope.kind == .function && env.kindOf n == some .cell) then (n,NameKind.cell) else (n,k)).lookup x =
   (names.lookup x).map fun k=>if (k == NameKind.free && env.scope.kind == .function && env.kindOf x == some .cell) then NameKind.cell else k
 | []=>rfl
 | (n,k) :: r=>by
  have ih:=lV (env:=env) x r
  show List.lookup x ((if (k == NameKind.free && env.scope.kind == .function && env.kindOf n == some .cell)=true then (n,NameKind.cell) else (n,k)) :: _)=_
  cases hx:x == n with
  | true =>
   have e:x=n:=by simpa using hx
   subst e
   by_cases hc:(k == NameKind.free && env.scope.kind == .function && env.kindOf x == some .cell)=true
   ·rw[if_pos hc];simp only[List.lookup_cons,beq_self_eq_true,Option.map_some,if_pos hc]
   ·rw[if_neg hc];simp only[List.lookup_cons,beq_self_eq_true,Option.map_some,if_neg hc]
  | false =>
   by_cases hc:(k == NameKind.free && env.scope.kind == .function && env.kindOf n == some .cell)=true
   ·rw[if_pos hc];simp only[List.lookup_cons,hx];exact ih
   ·rw[if_neg hc];simp only[List.lookup_cons,hx];exact ih
structure bg (XN:List Str) (Yd:Scope) (N:List Str) (nv:Nat) (js:List Nat) (scope:Scope):Prop where
 kind:scope.kind=.function
 cell:∀ y∈scope.names,y.2≠.cell
 loc:∀ y∈scope.names,y.2=.local→scope.names.lookup y.1=some .local
 free:∀ y∈scope.names,y.2=.free→(Yd.names.lookup y.1=some .cell∨Yd.names.lookup y.1=some .free)
 nd:N.Nodup
 len:N.length=nv+js.length
 pl:js.map (fun j=>XN[j]?)=(N.drop nv).map some
 fr:∀ x∈N.drop nv,scope.names.lookup x=some .free
abbrev lW (X:Cx) (N:List Str) (scope:Scope) (C:Addr) (s:Shared) (H:Hp) (fp:List Addr):Cx where
 prog:=X.prog
 w:=X.w
 K:=X.K
 mg:=X.mg
 base:=X.base
 A:=X.A
 N:=N
 s₀:=s
 H₀:=H
 env:=compEnvC scope (jA X.env scope.names []) C X.env
 outer:=X.stack
 stack:=X.stack
 ex:=fp
 fn:=fun _=>false
 calm:=X.calm
 pn:=[]
 xe:=fun _ _=>False
def xx (nv:Nat) (js:List Nat) (σ:St):St:=List.replicate nv none++js.map fun j=>(σ[j]?).getD none
section
variable {X:Cx}{pins:List (Addr×Obj)}{σ:St}{H:Hp}{s:Shared}
theorem IQ {N:List Str}{nv:Nat}{js:List Nat}{scope:Scope}{fp:List Addr}{h1:Heap}{tk:Nat} (I:Inv X pins σ H s) (S:bg X.N X.env.scope N nv js scope) (hf:∀ b∈fp,uz X pins H b) (hfl:∀ b∈fp,b < s.heap.objs.size)
  (keep:∀ b o,s.heap.get? b=some o→h1.get? b=some o) (ns:h1.Ns s.heap.objs.size fun _=>none) :
  Inv (lW X N scope s.heap.objs.size s H fp) [] (xx nv js σ) H { s with heap:=h1,toks:=tk }:=by
 have hfr:∀ n,(n,NameKind.free)∈scope.names→∃ c,X.env.cells.lookup n=some c:=fun n hn=>I.ok.has n (S.free _ hn rfl)
 have sub:∀ x c,(jA X.env scope.names []).lookup x=some c→X.env.cells.lookup x=some c:=uC scope.names [] hfr (fun x c z=>by cases z)
 have U6:∀ x,scope.names.lookup x≠some .cell:=fun x z=>S.cell _ (PySem.mem_of_lookup z) rfl
 have afX:∀ x,(relabel scope X.env).names.lookup x=some .cell∨(relabel scope X.env).names.lookup x=some .free→scope.names.lookup x=some .free:=by
  intro x hx
  have e:=lV (env:=X.env) x scope.names
  have hx':(relabel scope X.env).names.lookup x=_:=e
  rw[hx'] at hx
  cases q:scope.names.lookup x with
  | none=>rw[q] at hx;rcases hx with hx | hx <;> cases hx
  | some k =>
   rw[q,Option.map_some] at hx
   cases k <;> first | rfl | (exact absurd q (U6 x)) | (exfalso;rcases hx with hx | hx <;> simp at hx)
 refine⟨⟨I.ok.mod,S.kind,I.ok.glob,I.ok.blt,Nat.le_refl _,fun x y c h1 h2=>I.ok.inj x y c (sub _ _ h1) (sub _ _ h2),fun x hx=>?_,fun x c z=>(by cases z),I.ok.hd,I.ok.frames,.inl rfl,fun b hb=>?_,fun b o e=>?_,?_,fun b o e hb=>?_,fun b hb z=>?_,I.stack,I.K0⟩,
  rfl,I.bare,Un.kept keep,⟨_,ns,fun i x v e1 e2 e3=>?_⟩,fun x c e=>?_,I.hok.fresh (Nat.le_refl _),fun x c e=>I.tQ x c (sub _ _ e),fun p hp=>absurd (show p∈([]:List (Addr×Obj)) from hp) (by simp),I.hok.kept keep,?_⟩
 ·exact qS _ _ _ (.inl (PySem.mem_of_lookup (afX x hx)))
 ·obtain⟨f0,f1,f2,f3,f4,f5⟩:=hf b hb
  exact⟨Nat.ne_of_lt (hfl b hb),fun x c e=>f4 x c (sub x c e)⟩
 ·exact I.bs b o e
 ·exact Nat.le_trans I.ok.Rh I.sz
 ·obtain⟨f0,f1,f2,f3,f4,f5⟩:=hf b hb
  rcases f3 with z | z
  ·exact I.ok.N6 b o e z
  ·exact absurd (Nat.lt_of_lt_of_le (Heap.lt_size e) (Nat.le_trans I.ok.Rh z)) (Nat.lt_irrefl _)
 ·obtain⟨f0,f1,f2,f3,f4,f5⟩:=hf b hb
  rcases List.mem_cons.mp (I.DW b z) with q | q
  ·exact f1 q
  ·exact f2 q
 ·
  have hi:¬i < nv:=fun hlt=>by
   unfold xx at e2
   rw[List.getElem?_append_left (by simpa using hlt),List.getElem?_replicate,if_pos hlt] at e2
   cases e2
  obtain⟨k,rfl⟩:∃ k,i=nv+k:=⟨i - nv,by omega⟩
  unfold xx at e2
  rw[List.getElem?_append_right (by simp),List.length_replicate,Nat.add_sub_cancel_left,List.getElem?_map] at e2
  cases hj:js[k]? with
  | none=>rw[hj] at e2;cases e2
  | some j =>
   rw[hj,Option.map_some] at e2
   have e2':(σ[j]?).getD none=some v:=Option.some.inj e2
   have hσ:σ[j]? = some (some v):=by
    cases q:σ[j]? with
    | none=>rw[q] at e2';cases e2'
    | some z=>rw[q] at e2';exact congrArg some e2'
   have hd:(N.drop nv)[k]? = some x:=by rw[List.getElem?_drop];exact e1
   have hX:X.N[j]? = some x:=by
    have q:=congrArg (fun l=>l[k]?) S.pl
    simp only[List.getElem?_map,hj,hd,Option.map_some] at q
    exact Option.some.inj q
   have hfx:=S.fr x (List.mem_of_getElem? hd)
   have kx:=S.free _ (PySem.mem_of_lookup hfx) rfl
   obtain⟨m,_,hl⟩:=I.loc
   obtain⟨u,r,l⟩:=hl j x v hX hσ (.inr kx)
   refine⟨u,r,?_⟩
   rcases l with ⟨k1,_⟩ | ⟨_,c,hc,hcell⟩
   ·exfalso
    have k1':X.env.scope.names.lookup x=some .local:=k1
    rcases kx with z | z <;> (rw[k1'] at z;cases z)
   ·obtain⟨c',hc'⟩:=qS (env:=X.env) scope.names [] x (.inl (PySem.mem_of_lookup hfx))
    have e:=sub _ _ hc'
    rw[hc] at e;cases e
    refine .inr ⟨?_,c,hc',hcell.keeps keep⟩
    have e:=lV (env:=X.env) x scope.names
    have e':(relabel scope X.env).names.lookup x=_:=e
    rw[hfx,Option.map_some] at e'
    show(relabel scope X.env).names.lookup x=some .cell∨(relabel scope X.env).names.lookup x=some .free
    rw[e']
    split
    ·exact .inl rfl
    ·exact .inr rfl
 ·obtain⟨v,q⟩:=I.cell x c (sub _ _ e)
  exact⟨v,q.keeps keep⟩
 ·unfold xx
  show _=N.length
  rw[List.length_append,List.length_replicate,List.length_map,S.len]
end
def Ov (X:Cx) (ifs:List Expr) (t:TT):Prop :=
 ∀(pins:List (Addr×Obj)) (s:Shared) (σ:St) (H:Hp) (Q:Bool→Hp→Prop),Inv X pins σ H s→t σ H Q →
  wpAny (model X.prog X.w) X.A (forIn ifs true fun c r=>if r=true then do let ok ←isTrue c X.env (eval c X.env);pure (ForInStep.yield ok) else pure (ForInStep.yield r)) (TP X pins σ Q) X.xe s
def Ow:TT:=fun _ H Q=>Q true H
theorem cK {X:Cx}:Ov X [] Ow:=fun _ _ _ H _ I h=>wpAny_tests_nil ⟨H,I,h⟩
def FQ (J:It) (g:TG) (tt:TT) (te:TE) (Q:VK) (D:Addr) (τ:St) (H:Hp):Prop :=
 ∃ W:Nat→Nat→List V→St→Hp→Prop,(∃ m,W 0 m [] τ (upd H D (.lst [])))∧∀ i m ys τ H,W i m ys τ H→H D=some (.lst ys) ∧
  ((J.stop i H∧Q (.ref D) H)∨(J.go i H∧∃ N:List V→St→Hp→Prop,(∀ zs σ' H',N zs σ' H'→∃ m',m' < m∧W (i+1) m' zs σ' H')∧∀ x H',J.NQ i H x H'→g x τ H' fun τ2 H2=>tt τ2 H2 fun b H3 =>
   if b=true then te τ2 H3 fun y H4=>H4 D=some (.lst ys)∧ys.length < sizeLine∧N (ys++[y]) τ2 (upd H4 D (.lst (ys++[y])))
   else N ys τ2 H3))
def TZ (wi:TI) (g:TG) (tt:TT) (te:TE) (nv:Nat) (js:List Nat):TE:=fun σ H Q=>wi σ H fun J H1=>∀ D,H1 D=none→FQ J g tt te Q D (xx nv js σ) H1
theorem IS {prog:Program}{w:World}{A:Around}{R:Result→Shared→Prop}{s:Shared}{elt target iter:Expr}{ifs:List Expr}{scope:Scope}{pos:Pos}{it acc:Value}{env:Env} (I:Nat→Shared→Prop)
  (turn:∀ n s,I n s→wpAny (model prog w) A (pyNext it) (fun r s₁=>match r with
   | none=>R (.ok .next) s₁
   | some v=>wpAny (model prog w) A (letOwnedTupleGo target it v) (fun _ s₁'=>wpAny (model prog w) A (assign target env v) (fun _ s₂ =>
     wpAny (model prog w) A (forIn ifs true fun c r=>if r=true then do let ok ←isTrue c env (eval c env);pure (ForInStep.yield ok) else pure (ForInStep.yield r)) (fun ok s₃ =>
      if ok=true then wpAny (model prog w) A (eval elt env) (fun x s₄ =>
       wpAny (model prog w) A (call (.builtin "list.append") [acc,x]) (fun _ s₅=>∃ m,m < n∧I m s₅) (fun _ _=>False) s₄) (fun _ _=>False) s₃
      else ∃ m,m < n∧I m s₃) (fun _ _=>False) s₂) (fun _ _=>False) s₁') (fun _ _=>False) s₁) (fun _ _=>False) s)
  (n:Nat) (h:I n s) :
  codeAny (model prog w) A (.compLoop (.ListComp elt [⟨target,iter,ifs,0⟩] scope pos) 0 it acc env) R s:=by
 refine codeAny_loop rfl I (fun n s hI=>?_) n h
 show wpAny _ A ((compTurn (.ListComp elt [⟨target,iter,ifs,0⟩] scope pos) 0 it acc env).onRaise (fun x=>do noteFrame x env;theTreesLotGoes x)) _ _ s
 refine wpAny_noted (wpAny_mono (E:=fun _ _=>False) ?_ (fun _ _ q=>q) fun _ _ q=>q.elim)
 rw[compTurn_list]
 refine wpAny_bind (wpAny_standAt (wpAny_bind (wpAny_mono (turn n s hI) (fun r s₁ h₁=>?_) fun _ _ h'=>h')))
 cases r with
 | none=>exact wpAny_pure h₁
 | some v =>
  refine wpAny_bind (wpAny_mono h₁ (fun _ s₁' h₁'=>?_) fun _ _ h'=>h')
  refine wpAny_bind (wpAny_mono h₁' (fun _ s₂ h₂=>wpAny_bind (wpAny_mono h₂ (fun ok s₃ h₃=>?_) fun _ _ h'=>h')) fun _ _ h'=>h')
  cases ok with
  | false=>exact wpAny_pure ⟨rfl,h₃⟩
  | true =>
   exact wpAny_bind (wpAny_bind (wpAny_mono h₃ (fun x s₄ h₄=>wpAny_bind (wpAny_mono h₄ (fun _ s₅ h₅=>wpAny_pure (wpAny_pure ⟨rfl,h₅⟩)) fun _ _ h'=>h')) fun _ _ h'=>h'))
section
variable {X:Cx}{elt tg iter:Expr}{ifs:List Expr}{scope:Scope}{pos:Pos}{N:List Str}{nv:Nat}{js:List Nat}{wi:TI}{g:TG}{tt:TT}{te:TE}
theorem An {pins:List (Addr×Obj)}{σ:St}{H:Hp}{s:Shared}{Q:VK}{it:Addr}{fp:List Addr}{tn:Nat→Heap→Prop}{J:It}{E:Value→Shared→Prop}{RR:Value→Addr→Result→Shared→Prop} (hc:X.calm=true)
  (S:bg X.N X.env.scope N nv js scope) (hg:∀ C s H fp,PG (lW X N scope C s H fp) tg g) (ht:∀ C s H fp,Ov (lW X N scope C s H fp) ifs tt) (he:∀ C s H fp,PE (lW X N scope C s H fp) elt te)
  (I:Inv X pins σ H s) (T:Turn X.prog X.w X.K tg J fp it tn) (st:tn 0 s.heap) (hf:∀ b∈fp,uz X pins H b) (hR:∀ D,H D=none→FQ J g tt te Q D (xx nv js σ) H)
  (hRR:∀ D C H' s' m,Inv X pins σ H' s'→uz X pins H' C→s'.heap.Ns C m→Q (.ref D) H'→RR (.ref D) C (.ok .next) s') :
  wpAny (model X.prog X.w) X.A (newList []) (fun acc s₃=>wpAny (model X.prog X.w) X.A (newFunctionEnv scope X.env.globals (jA X.env scope.names []) [] X.env.qual none .none (some X.env)) (fun cenv s₄ =>
   codeAny (model X.prog X.w) X.A (.compStart (.ListComp elt [⟨tg,iter,ifs,0⟩] scope pos) 0 (.ref it) acc { cenv with scope:=relabel scope X.env }) (RR acc cenv.locals) s₄) E s₃) E s:=by
 refine wpAny_newObj_type (wpAny_newFunctionEnv S.cell (by intro y hy;simp at hy) (fun h₁ Ox Oz=>?_) S.kind)
 have I3:Inv X pins σ (upd H s.heap.objs.size (.lst [])) { s with heap:=s.heap.push { cls:=.type "list",data:=.seq ([]:List Value).toArray } }:=I.Zk (t':=s.toks) (its:=[]) .nil (Nat.zero_le _)
 have hD:=I.fresh
 obtain⟨W,⟨m0,w0⟩,turn⟩:=hR s.heap.objs.size hD
 have ho:=T.obj 0 s.heap st
 have Zn:∀ b∈fp,b < s.heap.objs.size:=fun b hb=>let ⟨o,e,_⟩:=ho b hb;Heap.lt_size e
 have U7:∀ b∈fp,uz X pins (upd H s.heap.objs.size (.lst [])) b:=fun b hb=>⟨by rw[aC (Nat.ne_of_lt (Zn b hb))];exact(hf b hb).1,(hf b hb).2⟩
 generalize hs3:({ s with heap:=s.heap.push { cls:=.type "list",data:=.seq ([]:List Value).toArray } }:Shared)=s3 at I3 Ox Oz
 have e3:s3.heap=s.heap.push { cls:=.type "list",data:=.seq ([]:List Value).toArray }:=by rw[←hs3]
 have hfl:∀ b∈fp,b < s3.heap.objs.size:=fun b hb=>by rw[e3,Heap.size_push];exact Nat.lt_succ_of_lt (Zn b hb)
 have keep:∀ b o,s3.heap.get? b=some o→h₁.get? b=some o:=fun b o e=>Oz.extBut b o (Nat.ne_of_lt (Heap.lt_size e)) (Heap.get?_push_of_some _ e)
 have J0:=IQ (tk:=s3.toks+([]:List (Str×Value)).length) I3 S U7 hfl keep Ox
 have st1:tn 0 h₁:=T.keep 0 s.heap h₁ st fun b hb o e=>keep b o (by rw[e3];exact Heap.get?_push_of_some _ e)
 generalize hH3:upd H s.heap.objs.size (.lst [])=H3 at *
 generalize hY:lW X N scope s3.heap.objs.size s3 H3 fp=Y at *
 have sub:∀ x c,(jA X.env scope.names []).lookup x=some c→X.env.cells.lookup x=some c :=
  uC scope.names [] (fun n hn=>I.ok.has n (S.free _ hn rfl)) (fun x c z=>by cases z)
 have Iw:∀{H':Hp},(∀ b∈fp,H' b=none)→∀ b∈fp,uz Y [] H' b:=fun {H'} hn b hb=>by
  subst hY
  obtain⟨f0,f1,f2,f3,f4,f5⟩:=U7 b hb
  refine⟨hn b hb,Nat.ne_of_lt (hfl b hb),fun z=>?_,.inl hb,fun x c e=>f4 x c (sub x c e),fun p hp=>absurd (show p∈([]:List (Addr×Obj)) from hp) (by simp)⟩
  rcases List.mem_cons.mp (I3.DW b z) with q | q
  ·exact f1 q
  ·exact f2 q
 have eA:Y.A=X.A:=by subst hY;rfl
 have eP:Y.prog=X.prog:=by subst hY;rfl
 have eW:Y.w=X.w:=by subst hY;rfl
 have eK:Y.K=X.K:=by subst hY;rfl
 have eC:Y.calm=true:=by subst hY;exact hc
 have eE:Y.env=compEnvC scope (jA X.env scope.names []) s3.heap.objs.size X.env:=by subst hY;rfl
 have eXe:Y.xe=fun _ _=>False:=by subst hY;rfl
 have hgY:PG Y tg g:=by subst hY;exact hg _ _ _ _
 have htY:Ov Y ifs tt:=by subst hY;exact ht _ _ _ _
 have heY:PE Y elt te:=by subst hY;exact he _ _ _ _
 have loop:codeAny (model X.prog X.w) X.A (.compLoop (.ListComp elt [⟨tg,iter,ifs,0⟩] scope pos) 0 (.ref it) (.ref s.heap.objs.size) (compEnvC scope (jA X.env scope.names []) s3.heap.objs.size X.env))
   (RR (.ref s.heap.objs.size) s3.heap.objs.size) { s3 with heap:=h₁,toks:=s3.toks+([]:List (Str×Value)).length }:=by
  refine IS (fun n s'=>∃ i ys τ H',Inv Y [] τ H' s'∧tn i s'.heap∧(∀ b∈fp,H' b=none)∧W i n ys τ H') ?_ m0 ⟨0,[],_,H3,J0,st1,fun b hb=>(U7 b hb).1,w0⟩
  rintro n s4 ⟨i,ys,τ,H4,I4,st4,fr4,w4⟩
  obtain⟨hDl,tr⟩:=turn i n ys τ H4 w4
  rcases tr with ⟨stop,qn⟩ | ⟨go,Nn,hNn,step⟩
  ·have d:=T.done Y eP eW eK eC i [] s4 τ H4 (fun _ _=>False) I4 (Iw fr4) st4 stop
   rw[eA] at d
   refine dj d fun r s5 ⟨hr,I5⟩=>?_
   subst hr
   have u:Inv X pins σ H4 s5:=by
    subst hY
    exact I3.YS (ch:=fp) I5.os I5.base I5.hok I5.bare fun b hb=>⟨(U7 b hb).2.2.2.1,(U7 b hb).2.1,(U7 b hb).2.2.2.2.1,(U7 b hb).2.2.2.2.2⟩
   have hC:H4 s3.heap.objs.size=none:=by have z:=I5.free;rw[eE] at z;exact z
   obtain⟨m,hn,_⟩:=I5.loc
   rw[eE] at hn
   exact hRR _ _ H4 s5 m u (I3.uA (Nat.le_refl _) hC) hn qn
  ·have d:=T.item Y eP eW eK eC i [] s4 τ H4 (fun _ _=>False) I4 (Iw fr4) st4 go
   rw[eA] at d
   refine dj d fun r s5 ⟨u,hr,h5⟩=>?_
   subst hr
   refine dj h5 fun _ s6 ⟨x,H6,I6,r6,y6,st6,fr6⟩=>?_
   have I6':=I6.pinned (Iw fr6) (T.obj _ _ st6)
   have q6:=hgY _ s6 τ H6 x u _ I6' r6 (step x H6 y6)
   rw[eP,eW,eA,eE,eXe] at q6
   refine dj q6 fun _ s7 ⟨σ7,H7,I7,q7⟩=>?_
   have q8:=htY _ s7 σ7 H7 _ I7 q7
   rw[eP,eW,eA,eE,eXe] at q8
   refine dj q8 fun ok s8 ⟨H8,I8,q8⟩=>?_
   have again:∀{σ9:St}{H9:Hp}{s9:Shared}{zs:List V},Inv Y ([]++Ai fp s6.heap) σ9 H9 s9→(∃ m',m' < n∧W (i+1) m' zs σ9 H9)→∃ m,m < n∧∃ i ys τ H',Inv Y [] τ H' s9∧tn i s9.heap∧(∀ b∈fp,H' b=none)∧W i m ys τ H':=fun {σ9 H9 s9 zs} I9 n9=>by
    obtain⟨m',hm,w9⟩:=n9
    refine⟨m',hm,i+1,zs,σ9,H9,I9.vo,T.keep _ _ _ st6 fun b hb o e=>(I9.pin (b,o) (List.mem_append_right _ (List.mem_append_right _ (pM hb e)))).1,fun b hb=>?_,w9⟩
    obtain⟨o,e,d⟩:=T.obj _ _ st6 b hb
    exact(I9.pin (b,o) (List.mem_append_right _ (List.mem_append_right _ (pM hb e)))).2.1
   cases ok with
   | false =>
    rw[if_neg Bool.false_ne_true]
    rw[if_neg Bool.false_ne_true] at q8
    exact again I8 (hNn _ _ _ q8)
   | true =>
    rw[if_pos rfl]
    rw[if_pos rfl] at q8
    have q9:=heY _ s8 σ7 H8 _ I8 q8
    rw[eP,eW,eA,eE,eXe] at q9
    refine dj q9 fun y s9 ⟨yv,H9,I9,r9,hD9,hz9,q9⟩=>?_
    have ap:=cJ (X:=Y) _ s9 σ7 H9 (.ref s.heap.objs.size) [yv] (.ref s.heap.objs.size) [y] (fun _ H10=>Nn (ys++[yv]) σ7 H10) I9 rfl (.cons r9 .nil) ⟨_,ys,yv,rfl,rfl,hD9,hz9,q9⟩
    rw[eP,eW,eA,eXe] at ap
    exact dj ap fun _ Ye ⟨_,H10,I10,_,q10⟩=>again I10 (hNn _ _ _ q10)
 subst hs3
 exact codeAny_compStart_list loop (T.self _ 0 _ _ _ st1 loop)
theorem cS (hc:X.calm=true) (S:bg X.N X.env.scope N nv js scope) (hi:PI X tg iter wi) (hg:∀ C s H fp,PG (lW X N scope C s H fp) tg g) (ht:∀ C s H fp,Ov (lW X N scope C s H fp) ifs tt)
  (he:∀ C s H fp,PE (lW X N scope C s H fp) elt te) (hs:∀ x,foldedSetIterable iter X.env x=pure x:=by intro _;rfl) :
  PE X (.ListComp elt [⟨tg,iter,ifs,0⟩] scope pos) (TZ wi g tt te nv js):=by
 intro pins s σ H Q I h
 rw[eval_ListComp]
 refine wpAny_comprehension_free (use:=none) rfl hs (tS fun n hn=>I.ok.has n (S.free _ hn rfl)) S.kind S.loc (dj (hi pins s σ H _ I h) fun v s1 h1=>dj h1 fun itv s2 h2=>?_)
 obtain⟨it,fp,tn,J,H2,e,I2,T,st2,f2,hR⟩:=h2
 subst e
 refine An (RR:=fun acc C=>compPost (model X.prog X.w) X.A X.xe none (EP X pins σ Q) acc C) hc S hg ht he I2 T st2 f2 hR ?_
 intro D C H' s' m I' fC hn q
 refine⟨m,hn,fun h' sb=>⟨.ref D,H',?_,rfl,q⟩⟩
 exact I'.turned (t':=s'.toks) (fun b o hb e=>(sb.2 b hb).trans e) fC.1 fC.2.1 fC.2.2.2.1 fC.2.2.2.2.1 fC.2.2.2.2.2
theorem RD {i:Nat}{x:Str}{pos' spos:Pos} (hc:X.calm=true) (hN:X.N.Nodup) (hi':X.N[i]? = some x) (hx:X.env.scope.names.lookup x=some .local) (S:bg X.N X.env.scope N nv js scope) (hi:PI X tg iter wi) (hg:∀ C s H fp,PG (lW X N scope C s H fp) tg g) (ht:∀ C s H fp,Ov (lW X N scope C s H fp) ifs tt)
  (he:∀ C s H fp,PE (lW X N scope C s H fp) elt te) (hsw:swapsWith (.ListComp elt [⟨tg,iter,ifs,0⟩] scope pos) (some (.Name x pos')) spos.line X.env=pure true:=by rfl) (hs:∀ x,foldedSetIterable iter X.env x=pure x:=by intro _;rfl) :
  PS X (.Assign [.Name x pos'] (.ListComp elt [⟨tg,iter,ifs,0⟩] scope pos) spos) (Rn (TZ wi g tt te nv js) (bK i)):=by
 intro pins s σ H D I h
 rw[exec_Assign_Name_used _ _ _ _ hsw]
 refine wpAny_bind (wpAny_standAt (wpAny_bind ?_))
 show wpAny _ X.A (do let _ ←comprehension (.ListComp elt [⟨tg,iter,ifs,0⟩] scope pos) scope X.env _ (newList []) false (eval iter X.env) (some (assign (.Name x pos') X.env))) _ _ s
 refine wpAny_bind (wpAny_mono (wpAny_comprehension_free (use:=some (assign (.Name x pos') X.env)) (Q:=fun _ s'=>SP X pins D .next s') rfl hs (tS fun n hn=>I.ok.has n (S.free _ hn rfl)) S.kind S.loc
  (dj (hi pins s σ H _ I h) fun v s1 h1=>dj h1 fun itv s2 h2=>?_)) (fun _ s' hq=>wpAny_pure (wpAny_pure hq)) fun _ _ e=>e)
 obtain⟨it,fp,tn,J,H2,e,I2,T,st2,f2,hR⟩:=h2
 subst e
 refine An (RR:=fun acc C=>compPost (model X.prog X.w) X.A X.xe (some (assign (.Name x pos') X.env)) (fun _ s'=>SP X pins D .next s') acc C) hc S hg ht he I2 T st2 f2 hR ?_
 intro Dl C H' s' m I' fC hn q
 show wpAny _ X.A (assign (.Name x pos') X.env (.ref Dl)) _ _ _
 refine wpAny_assign_Name (CU I' hN hi' (.inl hx) (v:=.ref Dl) rfl (fun s2 I3 ch=>?_) (.inr hx))
 obtain⟨a,sb,ha⟩:=ch
 have hCa:C≠a:=by
  rcases ha with rfl | ha
  ·exact fC.2.1
  ·exact(fC.2.2.2.2.1 x a ha).symm
 refine⟨m,hn.sameBut sb hCa,fun h' sb'=>⟨_,H',?_,q⟩⟩
 exact I3.turned (t':=s2.toks) (fun b o hb e=>(sb'.2 b hb).trans e) fC.1 fC.2.1 fC.2.2.2.1 fC.2.2.2.2.1 fC.2.2.2.2.2
end
theorem IT:typeLookup (.type "list_reverseiterator") "__len__" = pure none:=by rw[typeLookup_type,builtinLookup_eq_fast];kernel_rfl
theorem OA:typeLookup (.type "list_reverseiterator") "__length_hint__" = pure (some (.builtin "list_reverseiterator.__length_hint__")):=by rw[typeLookup_type,builtinLookup_eq_fast];kernel_rfl
section
variable {prog:Program}{w:World}{A:Around}{E:Value→Shared→Prop}{s:Shared}
theorem OB {I l:Addr}{i:Int}{Q:Bool→Shared→Prop} (hit:s.heap.IsRevIter I l i) (h:Q false s):wpAny (model prog w) A (Builtin.List.listLengthHint (.ref I)) Q E s:=by
 unfold Builtin.List.listLengthHint
 refine wpAny_bind (wpAny_specialOf hit.typeIs IT ?_)
 show wpAny _ _ (specialOf (Value.ref I) ("__length_hint__":Str) >>= _) _ _ _
 refine wpAny_bind (wpAny_specialOf hit.typeIs OA ?_)
 generalize hid:("list_reverseiterator.__length_hint__" : String)=Zo
 wp_delta
 rw[show splitId Zo=some ("list_reverseiterator", "__length_hint__") from by subst hid;decide +kernel]
 subst hid
 refine wpAny_bind (wpAny_isInstance (T := "list_reverseiterator") (b:=true) hit.typeIs (by rw[isSubtype_type];kernel_rfl) ?_)
 refine wpAny_ite_split (fun hab=>absurd hab (by decide)) (fun _=>?_)
 refine wpAny_ite_split (fun _=>?_) (fun hab=>absurd (by decide +kernel) hab)
 refine wpAny_ite_split (fun hab=>absurd hab (by decide +kernel)) (fun _=>?_)
 exact wpAny_pure h
theorem IU {R:Result→Shared→Prop} (hh:A.handled=none) {I l:Addr}{items:Array Value} (hne:l≠I) (hit:s.heap.IsRevIter I l ((items.size:Int) - 1)) (hl:s.heap.IsList l items) (S:Addr) (hSl:S≠l) (res:Value) (c₀:Nat) (hS:s.heap.get? S=some { cls:=.type "list",data:=.seq #[] c₀ })
  (hn:items.size≤sizeLine)
  (hR:∀ h' tk acc' c',(∀ b o,b≠S→b≠I→s.heap.get? b=some o→h'.get? b=some o)→h'.get? S=some { cls:=.type "list",dict:=none,data:=.seq acc' c',slots:=#[] } →
   ItemsOf (fun i v=>items[items.size - 1 - i]? = some v) acc' items.size→R (.ok (.ret res)) { s with heap:=h',toks:=tk }) :
  wpAny (model prog w) A.in1 (Builtin.List.listExtendWith (.ref S) (.ref I) res)
   (fun fin s'=>match fin with | .done f=>R (.ok f) s' | .again c'=>c'.quiet=true∧codeAny (model prog w) A c' R s') (fun e s'=>R (.error e) s') s:=by
 have hSI:S≠I:=fun e=>by
  subst e
  obtain⟨o,ho,hc,_⟩:=hit
  rw[hS] at ho;cases ho
  exact absurd (show Value.type "list" = Value.type "list_reverseiterator" from hc) (by decide)
 have hSf:S∉[I,l]:=fun hm=>by
  rcases List.mem_cons.mp hm with e | hm
  ·exact hSI e
  ·exact hSl (List.mem_singleton.mp hm)
 unfold Builtin.List.listExtendWith
 refine wpAny_bind (wpAny_typeOf hit.typeIs ?_)
 have h1:Builtin.List.listSameRef (.ref S) (.ref I)=false:=by simp[Builtin.List.listSameRef,hSI]
 have h2:(Value.type "list_reverseiterator" == Value.type "list")=false:=by decide
 have h3:(Value.type "list_reverseiterator" == Value.type "tuple")=false:=by decide
 simp only[h1,h2,h3,Bool.or_false,Bool.false_eq_true,if_false]
 refine wpAny_bind (wpAny_pyIter_revIter hit ?_)
 refine wpAny_bind (wpAny_holding (OB hit ?_))
 rw[if_neg (by decide)]
 refine wpAny_pure ⟨plainId_quiet F.plain_extend_loop _,codeAny_extend_loopS (Walks.listRev (prog:=prog) (w:=w) (A:=A.in1) hh I l hne items).toS hn _ hSf _ items.size 0 _ _ _ rfl (Nat.zero_le _) ⟨Nat.zero_le _,by simpa using hit,hl⟩ hS (ItemsOf.nil _) fun s' acc' c' hm hS' hacc=>?_⟩
 rw[Moved.eq_with hm]
 refine hR s'.heap s'.toks acc' c' (fun b ob hb hb2 e=>hm.heap b ob (fun hmem=>?_) e) hS' hacc
 rcases List.mem_cons.mp hmem with e' | hmem
 ·exact hb e'
 ·exact hb2 (List.mem_singleton.mp hmem)
end
theorem L0 {items:List Value}{acc:Array Value} (h:ItemsOf (fun i v=>items.toArray[items.toArray.size - 1 - i]? = some v) acc items.toArray.size):acc.toList=items.reverse:=by
 have hz:=h.1
 refine List.ext_getElem? fun i=>?_
 by_cases hi:i < items.length
 ·have hi':i < acc.size:=by rw[hz];simpa using hi
  have q:=h.2 i acc[i] (by simp[hi'])
  rw[List.getElem?_reverse hi]
  simp only[List.size_toArray,List.getElem?_toArray] at q
  rw[q]
  simp[hi']
 ·rw[List.getElem?_eq_none (by rw[Array.length_toList,hz];simpa using hi),List.getElem?_eq_none (by simpa using hi)]
section
variable {X:Cx}{e:Expr}{te:TE}
end
def sg (c:Nat):Str:=⟨#[c]⟩
def Yg (z:Str):It:=⟨fun i _=>i < z.cps.size,fun i H x H'=>H'=H∧∃ c,z.cps[i]? = some c∧x=.str (sg c),fun i _=>z.cps.size≤i⟩
theorem OC {P:Program}{w:World}{K:W.Frag}{tg:Expr} (it:Addr) (z:Str) (t:Tok):Turn P w K tg (Yg z) [it] it (fun i h=>h.IsStrIter it (strIterType z) z t i) where
 mem:=by simp
 obj:=fun i h st b hb=>by
  have e:b=it:=by simpa using hb
  subst e
  obtain⟨o,e,c,d⟩:=st
  exact⟨o,e,fun v z=>by rw[d] at z;cases z⟩
 keep:=fun i h h' st k=>by
  obtain⟨o,e,r⟩:=st
  exact⟨o,k it (by simp) o e,r⟩
 item:=by
  intro X hP hw hK hc i pins s σ H E I hf st hg
  subst hP hw hK
  obtain⟨f0,f1,f2,f3,f4,f5⟩:=hf it (by simp)
  have hi:i < z.cps.size:=hg
  have hx:z.cps[i]? = some z.cps[i]:=by simp[hi]
  cases ha:z.cps.all (· < 128) with
  | true =>
   have et:strIterType z = "str_ascii_iterator" := by simp only[strIterType,ha,if_true]
   rw[et] at st ⊢
   refine wpAny_pyNext_ascii_item st hx fun h' st' sb=>?_
   have I1:Inv X pins σ H { s with heap:=h',toks:=s.toks+1 }:=I.turned (fun b o hb e=>(sb.2 b hb).trans e) f0 f1 f3 f4 f5
   obtain⟨o,e,c,d⟩:=id st'
   exact⟨_,rfl,CV (s:={ s with heap:=h',toks:=s.toks+1 }) e c d (by decide) ⟨.str (sg z.cps[i]),H,I1,⟨_,rfl⟩,⟨rfl,_,hx,rfl⟩,st',fun b hb=>(hf b hb).1⟩⟩
  | false =>
   have et:strIterType z = "str_iterator" := by simp only[strIterType,ha,Bool.false_eq_true,if_false]
   rw[et] at st ⊢
   refine wpAny_pyNext_wide_item st hx fun h' st' sb=>?_
   have I1:Inv X pins σ H { s with heap:=h',toks:=s.toks+1 }:=I.turned (fun b o hb e=>(sb.2 b hb).trans e) f0 f1 f3 f4 f5
   obtain⟨o,e,c,d⟩:=id st'
   exact⟨_,rfl,CV (s:={ s with heap:=h',toks:=s.toks+1 }) e c d (by decide) ⟨.str (sg z.cps[i]),H,I1,⟨_,rfl⟩,⟨rfl,_,hx,rfl⟩,st',fun b hb=>(hf b hb).1⟩⟩
 done:=by
  intro X hP hw hK hc i pins s σ H E I hf st hg
  subst hP hw hK
  obtain⟨f0,f1,f2,f3,f4,f5⟩:=hf it (by simp)
  have hi:z.cps.size≤i:=hg
  have hx:z.cps[i]? = none:=by simp[hi]
  cases ha:z.cps.all (· < 128) with
  | true =>
   have et:strIterType z = "str_ascii_iterator" := by simp only[strIterType,ha,if_true]
   rw[et] at st
   exact wpAny_pyNext_ascii_end (I.ok.hd hc) st hx fun h' eb=>⟨rfl,I.turned (t':=s.toks) (fun b o hb e=>eb b o hb e) f0 f1 f3 f4 f5⟩
  | false =>
   have et:strIterType z = "str_iterator" := by simp only[strIterType,ha,Bool.false_eq_true,if_false]
   rw[et] at st
   exact wpAny_pyNext_wide_end (I.ok.hd hc) st hx fun h' eb=>⟨rfl,I.turned (t':=s.toks) (fun b o hb e=>eb b o hb e) f0 f1 f3 f4 f5⟩
 self:=by
  intro A i s Q E st h
  cases ha:z.cps.all (· < 128) with
  | true =>
   have et:strIterType z = "str_ascii_iterator" := by simp only[strIterType,ha,if_true]
   rw[et] at st
   exact wpAny_pyIter_striter_ascii st h
  | false =>
   have et:strIterType z = "str_iterator" := by simp only[strIterType,ha,Bool.false_eq_true,if_false]
   rw[et] at st
   exact wpAny_pyIter_striter_wide st h
section
variable {X:Cx}{tg:Expr}
def afY (tl:TE):TI:=fun σ H R=>tl σ H fun x H1=>∃ z,x=.str z∧R (Yg z) H1
theorem qT {l:Expr}{tl:TE} (hl:PE X l tl):PI X tg l (afY tl):=by
 intro pins s σ H R I h
 refine dj (hl pins s σ H _ I h) fun v s1 ⟨x,H1,I1,r1,q1⟩=>?_
 obtain⟨z,e,q⟩:=q1
 subst e
 obtain⟨t,rfl⟩:=r1
 refine wpAny_pyIter_strU ?_
 refine⟨s1.heap.objs.size,[s1.heap.objs.size],_,_,H1,rfl,I1.kept (t':=s1.toks) fun b o e=>Heap.get?_push_of_some _ e,OC _ z t,⟨_,Heap.get?_push_size _ rfl,rfl,rfl⟩,fun b hb=>?_,q⟩
 have e:b=s1.heap.objs.size:=by simpa using hb
 subst e
 exact I1.uA (Nat.le_refl _) (I1.hok.fresh (Nat.le_refl _))
end
theorem vt {z:Str}{g:TG}{tb:TS}{D:Ends}{σ:St}{H:Hp} (Pv:Nat→St→Hp→Prop) (h0:Pv 0 σ H)
  (hs:∀ i c σ H,z.cps.toList[i]? = some c→Pv i σ H→g (.str (sg c)) σ H fun σ2 H2=>tb { D with nx:=Pv (i+1),ct:=Pv (i+1),bk:=D.nx } σ2 H2) (hd:∀ σ H,Pv z.cps.toList.length σ H→D.nx σ H) :
  ∃ W:Nat→Nat→St→Hp→Prop,(∃ m,W 0 m σ H)∧∀ i m σ H,W i m σ H →
   ((Yg z).stop i H∧D.nx σ H)∨((Yg z).go i H∧∃ N:St→Hp→Prop,(∀ σ' H',N σ' H'→∃ m',m' < m∧W (i+1) m' σ' H')∧∀ x H',(Yg z).NQ i H x H'→g x σ H' fun σ2 H2=>tb { D with nx:=N,ct:=N,bk:=D.nx } σ2 H2):=by
 refine⟨fun i m σ H=>m=z.cps.size - i∧i≤z.cps.size∧Pv i σ H,⟨z.cps.size,by simp,Nat.zero_le _,h0⟩,?_⟩
 rintro i m σ H ⟨rfl,hi,p⟩
 by_cases hlt:i < z.cps.size
 ·refine .inr ⟨hlt,Pv (i+1),fun σ' H' p'=>⟨z.cps.size - (i+1),by omega,rfl,hlt,p'⟩,fun x H' y=>?_⟩
  obtain⟨e,c,hc,ex⟩:=y
  subst e ex
  exact hs i c σ _ (by simpa using hc) p
 ·have e:i=z.cps.size:=by omega
  subst e
  exact .inl ⟨Nat.le_refl _,hd σ H (by simpa using p)⟩
theorem cL {K:W.Frag}{a:Addr}{xs:List V}{g:TG}{tt:TT}{te:TE}{Q:VK}{D:Addr}{τ:St}{H:Hp} (Pv:Nat→List V→St→Hp→Prop) (h0:Pv 0 [] τ (upd H D (.lst [])))
  (hl:∀ i ys τ H,i≤xs.length→Pv i ys τ H→aU K H a xs∧H D=some (.lst ys))
  (hs:∀ i x ys τ H,xs[i]? = some x→Pv i ys τ H→g x τ H fun τ2 H2=>tt τ2 H2 fun b H3=>if b=true then te τ2 H3 fun y H4=>H4 D=some (.lst ys)∧ys.length < sizeLine∧Pv (i+1) (ys++[y]) τ2 (upd H4 D (.lst (ys++[y]))) else Pv (i+1) ys τ2 H3)
  (hd:∀ ys τ H,Pv xs.length ys τ H→Q (.ref D) H) :
  FQ (X7 K a) g tt te Q D τ H:=by
 refine⟨fun i m ys τ H=>m=xs.length - i∧i≤xs.length∧Pv i ys τ H,⟨xs.length,by simp,Nat.zero_le _,h0⟩,?_⟩
 rintro i m ys τ H ⟨rfl,hi,p⟩
 obtain⟨q,hD⟩:=hl i ys τ H hi p
 refine⟨hD,?_⟩
 by_cases hlt:i < xs.length
 ·refine .inr ⟨⟨xs,xs[i],q,by simp[hlt]⟩,Pv (i+1),fun zs σ' H' p'=>⟨xs.length - (i+1),by omega,rfl,hlt,p'⟩,fun x H' y=>?_⟩
  obtain⟨e,y⟩:=y
  subst e
  exact hs i x ys τ _ (y xs q) p
 ·have e:i=xs.length:=by omega
  subst e
  exact .inl ⟨⟨xs,q,Nat.le_refl _⟩,hd ys τ H p⟩
theorem Ao {z:Str}{g:TG}{tt:TT}{te:TE}{Q:VK}{D:Addr}{τ:St}{H:Hp} (Pv:Nat→List V→St→Hp→Prop) (h0:Pv 0 [] τ (upd H D (.lst [])))
  (hl:∀ i ys τ H,i≤z.cps.toList.length→Pv i ys τ H→H D=some (.lst ys))
  (hs:∀ i c ys τ H,z.cps.toList[i]? = some c→Pv i ys τ H→g (.str (sg c)) τ H fun τ2 H2=>tt τ2 H2 fun b H3=>if b=true then te τ2 H3 fun y H4=>H4 D=some (.lst ys)∧ys.length < sizeLine∧Pv (i+1) (ys++[y]) τ2 (upd H4 D (.lst (ys++[y]))) else Pv (i+1) ys τ2 H3)
  (hd:∀ ys τ H,Pv z.cps.toList.length ys τ H→Q (.ref D) H) :
  FQ (Yg z) g tt te Q D τ H:=by
 have hz:z.cps.toList.length=z.cps.size:=by simp
 refine⟨fun i m ys τ H=>m=z.cps.size - i∧i≤z.cps.size∧Pv i ys τ H,⟨z.cps.size,by simp,Nat.zero_le _,h0⟩,?_⟩
 rintro i m ys τ H ⟨rfl,hi,p⟩
 refine⟨hl i ys τ H (by omega) p,?_⟩
 by_cases hlt:i < z.cps.size
 ·refine .inr ⟨hlt,Pv (i+1),fun zs σ' H' p'=>⟨z.cps.size - (i+1),by omega,rfl,hlt,p'⟩,fun x H' y=>?_⟩
  obtain⟨e,c,hc,ex⟩:=y
  subst e ex
  exact hs i c ys τ _ (by simpa using hc) p
 ·have e:i=z.cps.size:=by omega
  subst e
  exact .inl ⟨Nat.le_refl _,hd ys τ H (by rw[hz];exact p)⟩
theorem Ld:∀{zs:List Str}{us:List Value},Vals (zs.map V.str) us→StrsAre us zs
 | [],_,r=>by cases r;exact .nil
 | z :: zs,_,r=>by
  cases r with
  | cons r1 r2 =>
   obtain⟨t,e⟩:=r1
   subst e
   exact .cons z t (Ld r2)
section
variable {X:Cx}
def rJoin (K:W.Frag):V→List V→Hp→VK→Prop:=fun x vs H Q=>∃ z p zs,x=.str z∧vs=[.ref p]∧aU K H p (zs.map V.str)∧(zs.map (·.length)).sum+zs.length * z.length≤16777216∧Q (.str (Txt.join z zs)) H
theorem RE:UZ X "str.join" (rJoin X.K):=by
 intro pins s σ H x vs v us Q I rx rv h
 obtain⟨z,p,zs,rfl,rfl,hq,hz,q⟩:=h
 obtain⟨t,rfl⟩:=rx
 obtain⟨u,rfl,ru⟩:=rv.one
 cases ru
 obtain⟨its,r,pl,_⟩:=I.list hq
 exact join_list pl.isList (by simpa using Ld r) hz fun t' k=>⟨.str _,H,I.tok k,⟨t',rfl⟩,q⟩
theorem FT:cY X (.builtin "isinstance") (fun xs H Q=>∃ x c t b,xs=[x,c]∧uB X.K H x t∧((∃ n,c=.ty n∧W.kitOne X.K t (.type n)=some b)∨(∃ a,c=.ref a∧W.kitOne X.K t (.ref a)=some b))∧Q (.bl b) H):=by
 intro pins s σ H xs us Q I r h
 obtain⟨x,c,t,b,rfl,ty,hc,q⟩:=h
 obtain⟨u,w',rfl,ru,rw'⟩:=vals2 r
 rcases hc with ⟨n,rfl,e⟩ | ⟨a,rfl,e⟩
 ·cases rw'
  exact CY I ru ty e fun tk=>⟨.bl b,H,I.tok tk,rfl,q⟩
 ·cases rw'
  exact CY I ru ty e fun tk=>⟨.bl b,H,I.tok tk,rfl,q⟩
end
theorem U8 (c:Nat):(sg c).length=1:=rfl
theorem IV (cs:List Nat):Txt.join ("":Str) (cs.map sg)=⟨cs.toArray⟩:=by
 show Builtin.Str.glued ("":Str) (cs.map sg)=_
 rw[StrLaws.glued_eq_join]
 induction cs with
 | nil=>rfl
 | cons c cs ih =>
  cases cs with
  | nil=>rfl
  | cons d cs =>
   rw[List.map_cons,List.map_cons] at *
   show sg c++("":Str)++Str.join ("":Str) (sg d :: cs.map sg)=_
   rw[ih]
   show Str.mk ((#[c]++("":Str).cps)++(d :: cs).toArray)=_
   have e:("":Str).cps = #[]:=by decide +kernel
   rw[e]
   simp
theorem Le (a b:List Nat):(⟨a.toArray⟩:Str)++(⟨b.toArray⟩:Str)=⟨(a++b).toArray⟩:=by
 show Str.mk (a.toArray++b.toArray)=_
 simp
section
variable {X:Cx}
def Zp (K:W.Frag):R2:=fun x y H Q=>∃ a b xs,x=.ref a∧y=.ref b∧aU K H a xs∧aU K H b []∧Q (.bl (!xs.isEmpty)) H
theorem U9 (hu:X.A.units < cLine):lT X (compareOp .NotEq) (Zp X.K):=by
 intro pins s σ H x y v u Q I rx ry h
 obtain⟨a,b,xs,rfl,rfl,ha,hb,q⟩:=h
 cases rx
 cases ry
 obtain⟨its,r1,p1,_⟩:=I.list ha
 obtain⟨its2,r2,p2,_⟩:=I.list hb
 cases r2
 show wpAny _ _ (richCompare .NotEq (.ref a) (.ref b)) _ _ _
 cases xs with
 | nil =>
  cases r1
  refine SeqAt.RcNeAt.lists (e:=fun _=>true) p1.isList p2.isList rfl hu (fun j h1 _=>absurd h1 (by simp)) _ _ _ _ ⟨.bl false,H,I,?_,q⟩
  simp[RelV]
 | cons x xs =>
  cases r1 with
  | cons r rr =>
   exact SeqAt.RcNeAt.lists_lengths p1.isList p2.isList (by simp) hu _ _ _ _ ⟨.bl true,H,I,rfl,q⟩
end
section
variable {X:Cx} (K:W.Frag) (h:X.K=K)
include h
theorem OD:Yb X (U0 K):=by subst h;exact Rz
theorem RG:Yb X (U1 K):=by subst h;exact U3
theorem Eb:SlR X (Zg K):=by subst h;exact UX
theorem lX:UZ X "str.join" (rJoin K):=by subst h;exact RE
theorem aT:cY X (.builtin "len") (fun xs H Q=>∃ p ys,xs=[.ref p]∧(aU K H p ys∨aV K H p ys)∧Q (.int ys.length) H):=by subst h;exact D9
theorem cE:cY X (.builtin "isinstance") (fun xs H Q=>∃ x c t b,xs=[x,c]∧uB K H x t∧((∃ n,c=.ty n∧W.kitOne K t (.type n)=some b)∨(∃ a,c=.ref a∧W.kitOne K t (.ref a)=some b))∧Q (.bl b) H):=by subst h;exact FT
theorem BX:cY X (.type "list") (fun xs H Q=>∃ p ys,xs=[.ref p]∧(aU K H p ys∨aV K H p ys)∧∀ l,H l=none→Q (.ref l) (upd H l (.lst ys))):=by subst h;exact Ea
theorem lY:cY X (.type "tuple") (fun xs H Q=>∃ p ys,xs=[.ref p]∧((aU K H p ys∧∀ l,H l=none→Q (.ref l) (upd H l (.tup ys)))∨(aV K H p ys∧Q (.ref p) H))):=by subst h;exact BW
theorem OE:lT X (binaryOp .Add) (TY K):=by subst h;exact Ry
theorem RH (hu:X.A.units < cLine):lT X (compareOp .NotEq) (Zp K):=by subst h;exact U9 hu
theorem bZ {tg l:Expr}{tl:TE} (hl:PE X l tl):PI X tg l (TM K tl):=by subst h;exact Ro hl
theorem RI {tg l:Expr}{tl:TE} (hl:PE X l tl):PI X tg l (Y3 K tl):=by subst h;exact UP hl
theorem ng {es:List Expr}{k:Nat}{pos:Pos}{t:Ra} (n:Nat) (hc:X.calm=true) (hh:X6 X es t)
 (hn:(assignEach es X.env).length=n:=by rfl) (hst:(assignEach es X.env).findIdx? (·.1)=none:=by rfl):PG X (.Tuple es k pos) (YZ K n t):=by subst h;exact UM hc hh hn hst
theorem aR {e:Expr}{ta:TE}{f:Str}{pos:Pos} (he:PE X e ta) (hb:attributeBase e f X.env (eval e X.env)=eval e X.env):PE X (.Attribute e f pos) (Y9 K ta f):=by subst h;exact UT he hb
theorem cO {o e:Expr}{es:List Expr}{to:TE}{t:TA}{name:Str}{apos cpos:Pos}{T id:String}{r:V→List V→Hp→VK→Prop} (pa:PlainAttrs T) (slot:Slot T name id) (hty:typeOf (.builtin id)=pure (.type "method_descriptor")) (hm:UZ X id r) (ho:PE X o to) (ha:PA X (e :: es) t)
 (hbase:attributeBase o name X.env (eval o X.env)=eval o X.env:=by rfl)
 (hfew:((backTo cpos (starEach (e :: es) X.env)).all (fun x=>!x.1) && (backToKw cpos (keywordEach [] X.env)).all (fun x=>x.1.isSome)
  && decide ((e :: es).length+([]:List Keyword).length+(if ([]:List Keyword).isEmpty then 0 else 1) < 30))=true:=by rfl)
 (hline:(apos.endLine == cpos.line)=true:=by rfl) (hs:starEach (e :: es) X.env=(false,eval e X.env) :: starEach es X.env:=by rfl) (hplain:(backTo cpos (starEach es X.env)).any (·.1)=false:=by rfl) :
 PE X (.Call (.Attribute o name apos) (e :: es) [] cpos) (tBM K T r to t):=by subst h;exact Zi pa slot hty hm ho ha hbase hfew hline hs hplain
end
section
variable {X:Cx}
theorem pP {x:Str}{z:Str}{t:Tok}{pos:Pos} (hg:Gl X x) (hm:X.mg x=some (.str z t)) (hd:(x == ("__debug__" : Str))=false:=by decide):PE X (.Name x pos) (tC (.str z)):=DY hg hm ⟨t,rfl⟩ hd
theorem iP {x:Str}{a:Addr}{pos:Pos} (hg:Gl X x) (hm:X.mg x=some (.ref a)) (hd:(x == ("__debug__" : Str))=false:=by decide):PE X (.Name x pos) (tC (.ref a)):=DY hg hm rfl hd
theorem Va (n:String) {x:Str}{pos:Pos} (hg:Gl X x) (hm:X.mg x=none) (hv:bootBuiltins x=some (.type n)) (hn:x ≠ "__name__" := by decide) (hd:(x == ("__debug__" : Str))=false:=by decide):PE X (.Name x pos) (tC (.ty n)):=Rj hg hm hv rfl hn hd
end
structure OG (K:W.Frag) (x qual:Str) (st:Stmt) (f:Addr) (fd:FuncData) (dV:Value):Prop where
 ex:∃(oc:Value) (od:Option Addr) (kV doc pm:Value) (an:Option Addr) (cdv ct:Value) (osl:Array (Option Value)),
  fd=W.fnOf x qual (d7 st) (di st) (au st) dV kV doc pm an cdv ct∧K.lookup f=some ⟨oc,od,.func fd,osl⟩∧W.codeIn K cdv qual=true
 kp:W.keepIn K (.ref f)=true
section
variable {P:Program}{w:World}{K:W.Frag}{mg:Str→Option Value}{base:Heap}
theorem OG.ok {x qual:Str}{st:Stmt}{f:Addr}{fd:FuncData}{dV:Value}{N ps:List Str}{k:Nat}{sp:Sp} (F:OG K x qual st f fd dV) (S:aD N ps (au st)) (len:∀ vs H Q E,sp vs H Q E→vs.length=ps.length)
  (hbody:∀(cdv:Value) (A:Around) (outer:List Env) (s:Shared) (H:Hp) (vs:List V) (Q:VK) (E:XK),iO k (A.deeper (envOfC qual (au st) s.heap.objs.size f cdv))→sp vs H Q E →
   ∃ t,K2 (II bu P w K mg base N qual (au st) f cdv A outer s H E).X5 (di st) t∧t { nx:=fun _ H'=>Q .non H',rt:=Q } (start N vs) H):aG P w K mg base bu (k+1) f fd ps sp:=by
 obtain⟨oc,od,kV,doc,pm,an,cdv,ct,osl,rfl,lk,hcd⟩:=F.ex
 refine TX lk hcd S len fun A outer s H vs Q E hr Rb=>?_
 obtain⟨t,h,q⟩:=hbody cdv A outer s H vs Q E hr Rb
 exact⟨t,h.X5,q⟩
theorem Lg {x qual:Str}{st:Stmt}{f:Addr}{oc dV:Value}{od an:Option Addr}{osl:Array (Option Value)}{kV doc pm cdv ct:Value} (l:K.lookup f=some ⟨oc,od,.func (W.fnOf x qual (d7 st) (di st) (au st) dV kV doc pm an cdv ct),osl⟩)
 (c:W.codeIn K cdv qual=true) (k:W.keepIn K (.ref f)=true):OG K x qual st f (W.fnOf x qual (d7 st) (di st) (au st) dV kV doc pm an cdv ct) dV:=⟨⟨oc,od,kV,doc,pm,an,cdv,ct,osl,rfl,l,c⟩,k⟩
end
section
variable {X:Cx}
theorem qU:∀{bs:List Bool}{us:List Value}{i:Nat}{u:Value},Vals (bs.map V.bl) us→us[i]? = some u→u=.bool (bs.getD i true)
 | [],_,_,_,r,e=>by cases r;simp at e
 | b :: bs,_,i,u,r,e=>by
  cases r with
  | cons r1 r2 =>
   cases i with
   | zero=>simp at e;subst e;exact r1
   | succ i=>simp at e;simpa using qU r2 e
theorem all_range (bs:List Bool):((List.range bs.length).all fun i=>bs.getD i true)=bs.all id:=by
 rw[Bool.eq_iff_iff,List.all_eq_true,List.all_eq_true]
 constructor
 ·intro h b hb
  obtain⟨i,hi,rfl⟩:=List.mem_iff_getElem.mp hb
  have:=h i (by simpa using hi)
  simpa [List.getD,hi] using this
 ·intro h i hi
  have hi':i < bs.length:=by simpa using hi
  have:=h bs[i] (List.getElem_mem hi')
  simpa [List.getD,hi'] using this
def Zq (K:W.Frag):List V→Hp→VK→Prop:=fun xs H Q=>∃(p:Addr) (bs:List Bool),xs=[.ref p]∧aU K H p (bs.map V.bl)∧Q (.bl (bs.all id)) H
theorem OH (hc:X.calm=true):cY X (.builtin "all") (Zq X.K):=by
 intro pins s σ H xs us Q I r h
 obtain⟨p,bs,rfl,hq,q⟩:=h
 obtain⟨u,rfl,ru⟩:=vals1 r
 cases ru
 obtain⟨its,rv,pl,hz⟩:=I.list hq
 have hlen:=rv.length
 rw[List.length_map] at hlen
 have hpl:p < s.heap.objs.size:=by obtain⟨o,ho,_⟩:=pl.isList;exact Heap.lt_size ho
 refine call_all_walk (wpAny_pyIter_list pl.isList ⟨s.heap.objs.size,_,_,_,_,_,fun i=>bs.getD i true,rfl,Walks.list (A:=X.A.in1) (show X.A.in1.handled=none from I.ok.hd hc) s.heap.objs.size p (Nat.ne_of_lt hpl) its.toArray,⟨⟨_,Heap.get?_push_size _ rfl,rfl,rfl⟩,pl.isList.at fun o e=>Heap.get?_push_of_some _ e⟩,?_,?_⟩)
 ·intro i v s' Q' E' hv hq'
  have e:its[i]? = some v:=by simpa using hv
  rw[qU rv e]
  exact wpAny_truthy_bool hq'
 ·intro h' tk hk
  have f0:=I.uA (Nat.le_refl s.heap.objs.size) (I.hok.fresh (Nat.le_refl _))
  have I2:Inv X pins σ H { s with heap:=s.heap.push { cls:=.type "list_iterator",data:=.fields #[.ref p,rawInt 0] } }:=I.kept (t':=s.toks) fun b o e=>Heap.get?_push_of_some _ e
  have I3:=I2.turned (h':=h') (t':=tk) (it:=s.heap.objs.size) (fun b o hb e=>hk b o (by simpa using hb) e) f0.1 f0.2.1 f0.2.2.2.1 f0.2.2.2.2.1 f0.2.2.2.2.2
  refine⟨.bl (bs.all id),H,I3,?_,q⟩
  show Value.bool _=Value.bool _
  rw[List.size_toArray,←hlen,all_range]
theorem jB (K:W.Frag) (h:X.K=K) (hc:X.calm=true):cY X (.builtin "all") (Zq K):=by subst h;exact OH hc
def Vb:V→List V→Hp→VK→Prop:=fun x vs H Q=>∃(z:Str) (c:Nat),x=.str z∧vs=[.str (sg c)]∧Q (.int (PyProof.Rows.cnt c z.cps.toList)) H
theorem OI:UZ X "str.count" Vb:=by
 intro pins s σ H x vs v us Q I rx rv h
 obtain⟨z,c,rfl,rfl,q⟩:=h
 obtain⟨t,rfl⟩:=rx
 obtain⟨u,rfl,ru⟩:=rv.one
 obtain⟨t',rfl⟩:=ru
 exact SC.count ⟨.int _,H,I.tok _,⟨_,rfl⟩,by
  have e:Txt.count z (sg c)=PyProof.Rows.cnt c z.cps.toList:=PyProof.Rows.count_is z c
  rw[e];exact q⟩
theorem Lh:∀{l:List Nat}{c:Nat},l.Nodup→c∈l→PyProof.Rows.cnt c l=1
 | [],_,_,h=>by cases h
 | n :: r,c,nd,h=>by
  rw[PyProof.Rows.cnt_cons]
  obtain⟨n1,n2⟩:=List.nodup_cons.mp nd
  by_cases e:n=c
  ·subst e
   rw[if_pos rfl,PyProof.Rows.cnt_none _ _ n1];rfl
  ·rw[if_neg e,Lh n2 ((List.mem_cons.mp h).resolve_left (Ne.symm e))];rfl
def qJ:List V→List V→Bool
 | [],[]=>true
 | x :: xs,y :: ys=>Ac x y && qJ xs ys
 | _,_=>false
theorem Aq:∀{x:V},fk x=true→Ac x x=true
 | .non,_=>rfl
 | .bl b,_=>by cases b <;> rfl
 | .int i,_=>by simp[Ac]
 | .str z,_=>by simp[Ac]
def RJ (xs ys:List V) (j:Nat):Bool:=match xs[j]?,ys[j]? with
 | some x,some y=>Ac x y
 | _,_=>true
theorem uD:∀(xs ys:List V),((List.range (min xs.length ys.length)).all (RJ xs ys) && xs.length == ys.length)=qJ xs ys
 | [],[]=>rfl
 | [],_ :: _=>by simp[qJ]
 | _ :: _,[]=>by simp[qJ]
 | x :: xs,y :: ys=>by
  have ih:=uD xs ys
  have e:min (x :: xs).length (y :: ys).length=min xs.length ys.length+1:=by rw[List.length_cons,List.length_cons];omega
  rw[e,List.range_succ_eq_map,List.all_cons,List.all_map]
  have e2:(RJ (x :: xs) (y :: ys) ∘ Nat.succ)=RJ xs ys:=by funext j;simp[RJ]
  rw[e2]
  unfold qJ
  rw[←ih]
  have e3:((x :: xs).length == (y :: ys).length)=(xs.length == ys.length):=by simp
  rw[e3]
  show(Ac x y && _ && _)=_
  rw[Bool.and_assoc]
def afZ (K:W.Frag):R2:=fun x y H Q=>∃ a b xs ys,x=.ref a∧y=.ref b∧aV K H a xs∧aV K H b ys∧xs.all fk=true∧ys.all fk=true∧Q (.bl (qJ xs ys)) H
theorem items_eqAt {A:Around}{s:Shared}{xs ys:List V}{us ws:List Value} (r1:Vals xs us) (r2:Vals ys ws) (f1:xs.all fk=true) (f2:ys.all fk=true) (j:Nat) (h1:j < us.toArray.size) (h2:j < ws.toArray.size) :
  SeqAt.EqAt A s us.toArray[j] ws.toArray[j] (RJ xs ys j):=by
 have hl1:=r1.length
 have hl2:=r2.length
 have hj1:j < xs.length:=by rw[hl1];simpa using h1
 have hj2:j < ys.length:=by rw[hl2];simpa using h2
 obtain⟨u,eu,ru⟩:=r1.get (i:=j) (x:=xs[j]) (by simp[hj1])
 obtain⟨w,ew,rw'⟩:=r2.get (i:=j) (x:=ys[j]) (by simp[hj2])
 have e1:us.toArray[j]=u:=by
  have:=List.getElem?_eq_some_iff.mp eu
  obtain⟨_,q⟩:=this
  simpa using q
 have e2:ws.toArray[j]=w:=by
  have:=List.getElem?_eq_some_iff.mp ew
  obtain⟨_,q⟩:=this
  simpa using q
 rw[e1,e2]
 have e3:RJ xs ys j=Ac xs[j] ys[j]:=by simp[RJ,hj1,hj2]
 rw[e3]
 exact IP ru rw' (List.all_eq_true.mp f1 _ (List.getElem_mem hj1)) (List.all_eq_true.mp f2 _ (List.getElem_mem hj2))
theorem Vc (K:W.Frag) (hK:X.K=K) (hu:X.A.units < cLine):lT X (compareOp .Eq) (afZ K):=by
 subst hK
 intro pins s σ H x y v u Q I rx ry h
 obtain⟨a,b,xs,ys,rfl,rfl,ha,hb,f1,f2,q⟩:=h
 cases rx
 cases ry
 obtain⟨its,r1,p1,_⟩:=I.tuple ha
 obtain⟨its2,r2,p2,_⟩:=I.tuple hb
 refine SeqAt.eq_tupleAt (e:=RJ xs ys) p1 p2 hu (fun j h1 h2=>items_eqAt r1 r2 f1 f2 j h1 h2) ⟨.bl _,H,I,?_,q⟩
 show Value.bool _=Value.bool _
 rw[List.size_toArray,List.size_toArray,←r1.length,←r2.length,uD]
end
section
variable {X:Cx}{pins:List (Addr×Obj)}{σ:St}{H:Hp}{s:Shared}
end
section
variable {X:Cx}
def Vd (K:W.Frag):List V→Hp→VK→Prop:=fun xs H Q=>∃(a:Addr) (c:String) (ys:List V) (b:Bool),xs=[.ref a,.ty c]∧((aV K H a ys∧W.kitOne K (.type "tuple") (.type c)=some b)∨(aU K H a ys∧W.kitOne K (.type "list") (.type c)=some b))∧Q (.bl b) H
theorem qV (K:W.Frag) (hK:X.K=K):cY X (.builtin "isinstance") (Vd K):=by
 subst hK
 intro pins s σ H xs us Q I r h
 obtain⟨a,c,ys,b,rfl,hk,q⟩:=h
 obtain⟨u,w',rfl,ru,rw'⟩:=vals2 r
 cases ru;cases rw'
 have fin:∀ tk,EP X pins σ Q (.bool b) { s with toks:=tk }:=fun tk=>⟨.bl b,H,I.tok tk,rfl,q⟩
 rcases hk with ⟨ha,e⟩ | ⟨ha,e⟩
 ·obtain⟨its,r1,p1,_⟩:=I.tuple ha
  obtain⟨o,h1,h2,_⟩:=p1
  exact W.kia_one W.kitx_tuple I.vj ⟨o,h1,h2⟩ e (fun z=>nomatch z) fin
 ·obtain⟨its,r1,p1,_⟩:=I.list ha
  obtain⟨o,h1,h2,_⟩:=p1.isList
  exact W.kia_one W.kitx_list I.vj ⟨o,h1,h2⟩ e (fun z=>nomatch z) fin
end
section
variable {X:Cx}
theorem nh {x:Str}{z:Int}{t:Tok}{pos:Pos} (hg:Gl X x) (hm:X.mg x=some (.int z t)) (hd:(x == ("__debug__" : Str))=false:=by decide):PE X (.Name x pos) (tC (.int z)):=DY hg hm ⟨t,rfl⟩ hd
end
section
variable {X:Cx}{CX:NR}{k:Nat}{f C:Addr}{fd:FuncData}{ps ks:List Str}{sp:Sp}{E:XK}{x m:Str}{p pos apos kpos:Pos}{e o:Expr}{es:List Expr}{kws:List Keyword}{te ta:TE}{t tk:TA}{nm:Option Str}
 {g:List Value→List Value→List Value}{gV:List V→List V→List V}
end
theorem C6:∀{xs ys:List V}{us:List Value},Vals xs us→Vals ys us→xs.all fk=true→ys.all fk=true→qJ ys xs=true
 | _,_,_,.nil,.nil,_,_=>rfl
 | x :: xs,y :: ys,u :: us,.cons r1 t1,.cons r2 t2,f1,f2=>by
  rw[List.all_cons,Bool.and_eq_true] at f1 f2
  unfold qJ
  have e1:Yc x u=Ac y x:=D8 r2 f2.1
  have e2:Yc x u=Ac x x:=D8 r1 f1.1
  rw[←e1,e2,Aq f1.1,C6 t1 t2 f1.2 f2.2]
  rfl
section
variable {X:Cx}{pins:List (Addr×Obj)}{σ:St}{H:Hp}{s:Shared}
theorem OJ (I:Inv X pins σ H s) {a b:Addr}{xs ys:List V} (ha:aV X.K H a xs) (hb:aV X.K H b ys) (f1:xs.all fk=true) (f2:ys.all fk=true) {A:Around} (hu:A.units < cLine):SeqAt.EqAt A s (.ref b) (.ref a) (qJ ys xs):=by
 obtain⟨its,r1,p1,_⟩:=I.tuple ha
 obtain⟨its2,r2,p2,_⟩:=I.tuple hb
 by_cases e:b=a
 ·subst e
  have ei:its2=its:=by
   obtain⟨o,ho,_,n,hd⟩:=id p1
   obtain⟨o2,ho2,_,n2,hd2⟩:=id p2
   rw[ho] at ho2;cases ho2
   rw[hd] at hd2
   injection hd2 with h1 h2
   have:=congrArg Array.toList h1
   simpa using this.symm
  subst ei
  rw[C6 r1 r2 f1 f2]
  exact SeqAt.EqAt.same _
 ·refine SeqAt.EqAt.of_refs e ?_
  have q:=SeqAt.RcAt.tuples (A:=A) (e:=RJ ys xs) p2 p1 hu fun j h1 h2=>items_eqAt r2 r1 f2 f1 j h1 h2
  rw[List.size_toArray,List.size_toArray,←r1.length,←r2.length,uD] at q
  exact q
end
theorem xy:∀{xs:List V}{us:List Value},Vals xs us→∀ u∈us,∃ x∈xs,RelV x u
 | _,_,.nil=>fun u hu=>by cases hu
 | x :: xs,v :: us,.cons r t=>fun u hu=>by
  rcases List.mem_cons.mp hu with rfl | hu
  ·exact⟨x,List.mem_cons_self ..,r⟩
  ·obtain⟨y,h1,h2⟩:=xy t u hu
   exact⟨y,List.mem_cons_of_mem _ h1,h2⟩
section
variable {X:Cx}
end
section
variable {X:Cx}{pins:List (Addr×Obj)}{σ:St}{H:Hp}{s:Shared}{h':Heap}
theorem Inv.Li {t':Nat}{wr:List Addr} (I:Inv X pins σ H s) (k:∀ b o,b∉wr→s.heap.get? b=some o→h'.get? b=some o) (hf:∀ it∈wr,uz X pins H it):Inv X pins σ H { s with heap:=h',toks:=t' }:=by
 have YQ:∀ b u,H b=some u→b∉wr:=fun b u e z=>by rw[(hf b z).1] at e;cases e
 have hL:X.env.locals∉wr:=fun z=>(hf _ z).2.1 rfl
 refine I.step (g':=s.gens) (d':=s.drawn) (ch:=wr) (fun b hb=>?_) (fun b o _ _ hc e _=>k b o hc e) (fun b o _ _ hc e _=>⟨o.slots,k b o hc e⟩) (fun _ _ _ _ n=>n)
  (fun b o hc e=>⟨o,k b o hc e⟩) (fun _ _ e=>e) (fun _ _ _ e=>e) (fun b ps e=>⟨#[],by rw[e];simp⟩) (fun m hm=>?_) (fun b u e=>?_) I.bare
 ·obtain⟨f0,f1,f2,f3,f4,f5⟩:=hf b hb
  exact⟨f3,f1,f4,f5⟩
 ·obtain⟨o,es,ep,ho,r⟩:=hm
  exact⟨o,es,ep,k _ o hL ho,r⟩
 ·refine(I.hok b u e).stay (fun c v hc q=>k c v ?_ q) (fun _ q=>q) fun _ _ q=>q
  rcases hc with z | z
  ·rw[z];exact YQ b u e
  ·exact YQ c _ z
end
def hmid (h h2:Heap):Heap:=⟨h.objs++(h2.objs.toList.drop h.objs.size).toArray,h2.life⟩
theorem OL {h h2:Heap}{a:Addr} (ha:a < h.objs.size):(hmid h h2).get? a=h.get? a:=by
 have e:(hmid h h2).objs[a]? = h.objs[a]? := Array.getElem?_append_left ha
 unfold Heap.get?
 rw[e]
theorem OM {h h2:Heap}{a:Addr} (ha:h.objs.size≤a):(hmid h h2).get? a=h2.get? a:=by
 have e:(hmid h h2).objs[a]? = h2.objs[a]? := by
  show(h.objs++(h2.objs.toList.drop h.objs.size).toArray)[a]? = _
  rw[Array.getElem?_append_right ha,List.getElem?_toArray,List.getElem?_drop,Array.getElem?_toList]
  congr 1
  omega
 unfold Heap.get?
 rw[e]
theorem xA {X:Cx}{pins:List (Addr×Obj)}{σ:St}{H:Hp}{s:Shared}{E:Value→Shared→Prop}{it:Addr}{fpW wr fp:List Addr}{n:Nat}{Pt:Nat→Array Value→Prop}{Yh:Nat→Heap→Prop}{Mid:Nat→Addr→Heap→Prop}{elts:List Expr}{k:Nat}{pos:Pos}{J:It}{tn:Nat→Heap→Prop}{i:Nat}
  (W:WalksT X.prog X.w X.A it fpW wr n Pt Yh Mid) (I:Inv X pins σ H s) (hfp:∀ b∈fp,uz X pins H b) (hwr:∀ b∈wr,b∈fp) (hsz:∀ b∈fp,b < s.heap.objs.size) (hi:i < n) (hst:Yh i s.heap)
  (hv:∀ vals,Pt i vals→∃ vs:List V,vs.length≤sizeLine∧Vals vs vals.toList∧∀ T,H T=none→J.NQ i H (.ref T) (upd H T (.tup vs))) (htn:∀ h,Yh (i+1) h→tn (i+1) h) :
  wpAny (model X.prog X.w) X.A (pyNext (.ref it)) (fun r s1=>∃ u,r=some u ∧
   wpAny (model X.prog X.w) X.A (letOwnedTupleGo (.Tuple elts k pos) (.ref it) u) (fun _ s2=>∃ x H',Inv X pins σ H' s2∧RelV x u∧J.NQ i H x H'∧tn (i+1) s2.heap∧∀ b∈fp,H' b=none) E s1) E s:=by
 refine W.item i s _ E hi hst fun T vals h1 tk hPt hT af0 Zr hk=>⟨.ref T,rfl,?_⟩
 have hap:=W.apart i T h1 Zr
 refine W.go elts k pos i T _ _ E Zr fun h2 hSt hk2=>?_
 obtain⟨vs,hlen,Zs,hy⟩:=hv vals hPt
 have hTn:H T=none:=I.hok.fresh hT
 obtain⟨o,ho,hoc,m,hod⟩:=af0
 have ho2:h2.get? T=some o:=hk2 T o hap ho
 have I1:Inv X pins σ (upd H T (.tup vs)) { s with heap:=hmid s.heap h2,toks:=tk }:=by
  refine I.laid (fun b u e=>(OL (Heap.lt_size e)).trans e) hT ?_
  refine⟨hlen,vals.toList,Zs,⟨o,(OM hT).trans ho2,hoc,m,?_⟩⟩
  rw[hod]
 have hne:∀ b∈fp,b≠T:=fun b hb e=>by
  have:=hsz b hb
  rw[e] at this
  exact absurd this (Nat.not_lt.mpr hT)
 have I2:=I1.Li (h':=h2) (t':=tk) (wr:=wr) (fun b ob hb e=>?_) (fun b hb=>?_)
 ·exact⟨.ref T,_,I2,rfl,hy T hTn,htn _ hSt,fun b hb=>(aC (hne b hb)).trans (hfp b hb).1⟩
 ·by_cases hlt:b < s.heap.objs.size
  ·have e:s.heap.get? b=some ob:=(OL hlt).symm.trans e
   exact hk2 b ob hb (hk b ob hb e)
  ·exact(OM (Nat.le_of_not_lt hlt)).symm.trans e
 ·have f:=hfp b (hwr b hb)
  exact⟨(aC (hne b (hwr b hb))).trans f.1,f.2⟩
theorem xB {X:Cx}{pins:List (Addr×Obj)}{σ:St}{H:Hp}{s:Shared}{E:Value→Shared→Prop}{it:Addr}{fpW wr fp:List Addr}{n:Nat}{Pt:Nat→Array Value→Prop}{Yh:Nat→Heap→Prop}{Mid:Nat→Addr→Heap→Prop}
  (W:WalksT X.prog X.w X.A it fpW wr n Pt Yh Mid) (I:Inv X pins σ H s) (hfp:∀ b∈fp,uz X pins H b) (hwr:∀ b∈wr,b∈fp) (hst:Yh n s.heap) :
  wpAny (model X.prog X.w) X.A (pyNext (.ref it)) (fun r s1=>r=none∧Inv X pins σ H s1) E s :=
 W.done s _ E hst fun h1 tk hk=>⟨rfl,I.Li (h':=h1) (t':=tk) (wr:=wr) hk fun b hb=>hfp b (hwr b hb)⟩
theorem ON (I l1 l2:Nat) (h1:@LT.lt Nat _ l1 I) (h2:@LT.lt Nat _ l2 I):ZipApart (I+4) (I+2) (I+3) I (I+1) l1 l2:=by
 constructor <;> (intro e;have e':=@id (@Eq Nat _ _) e;omega)
def Yi (K:W.Frag) (a:Addr):It :=
 ⟨fun i H=>∃ xs x,aU K H a xs∧xs[i]? = some x,
  fun i H v H'=>∃ t x,H t=none∧v=.ref t∧H'=upd H t (.tup [.int i,x])∧∀ xs,aU K H a xs→xs[i]? = some x,
  fun i H=>∃ xs,aU K H a xs∧xs.length=i⟩
theorem L1 {P:Program}{w:World}{K:W.Frag}{elts:List Expr}{k:Nat}{pos:Pos}{e it l:Addr} (hei:e≠it) (hle:l≠e) (hli:l≠it) :
  Turn P w K (.Tuple elts k pos) (Yi K l) [e,it] e (fun i h=>(∃ old,IsEnum h e it i old)∧h.IsListIter it l i) where
 mem:=by simp
 obj:=fun i h st b hb=>by
  obtain⟨⟨old,he⟩,⟨o1,e1,c1,d1⟩⟩:=st
  simp only[List.mem_cons,List.mem_nil_iff,or_false] at hb
  rcases hb with rfl | rfl
  ·exact⟨_,he,fun v q=>by cases q⟩
  ·exact⟨_,e1,fun v q=>by rw[d1] at q;cases q⟩
 keep:=fun i h h' st k=>by
  obtain⟨⟨old,he⟩,q1⟩:=st
  exact⟨⟨old,k e (by simp) _ he⟩,q1.at fun o x=>k it (by simp) o x⟩
 item:=by
  intro X hP hw hK hc i pins s σ H E I hf st hg
  subst hP hw hK
  obtain⟨xs,x,hx,ex⟩:=hg
  obtain⟨its,rv,p,hz⟩:=I.list hx
  obtain⟨u,hu,ru⟩:=rv.get ex
  obtain⟨s1,s2⟩:=id st
  have W:=WalksT.enumerate (prog:=X.prog) (w:=X.w) (A:=X.A) (I.ok.hd hc) e it l hei hle hli its.toArray
  refine xA (J:=Yi X.K l) (tn:=fun i h=>(∃ old,IsEnum h e it i old)∧h.IsListIter it l i) W I hf (fun b hb=>hb) ?_ ?_ ?_ ?_ ?_
  ·intro b hb
   simp only[List.mem_cons,List.mem_nil_iff,or_false] at hb
   obtain⟨old,s1⟩:=s1
   obtain⟨o1,e1,_⟩:=s2
   rcases hb with rfl | rfl
   ·exact Heap.lt_size s1
   ·exact Heap.lt_size e1
  ·have h1:=(List.getElem?_eq_some_iff.mp hu).1
   simpa using h1
  ·exact⟨s1,s2,p.isList⟩
  ·intro vals hp
   obtain⟨t,v1,e1,rfl⟩:=hp
   have e1:its[i]? = some v1:=by simpa using e1
   rw[hu] at e1;cases e1
   exact⟨[.int i,x],(by show 2≤sizeLine;decide),.cons ⟨_,rfl⟩ (.cons ru .nil),fun T hT=>⟨T,x,hT,rfl,rfl,fun zs hz=>by rw[I.vm hz hx];exact ex⟩⟩
  ·exact fun h q=>⟨q.1,q.2.1⟩
 done:=by
  intro X hP hw hK hc i pins s σ H E I hf st hg
  subst hP hw hK
  obtain⟨xs,hx,hlen⟩:=hg
  obtain⟨its,rv,p,hz⟩:=I.list hx
  obtain⟨s1,s2⟩:=id st
  have e':i=its.toArray.size:=by rw[List.size_toArray,←rv.length,hlen]
  subst e'
  have W:=WalksT.enumerate (prog:=X.prog) (w:=X.w) (A:=X.A) (I.ok.hd hc) e it l hei hle hli its.toArray
  exact xB W I hf (fun b hb=>hb) ⟨s1,s2,p.isList⟩
 self:=fun _ _ _ _ _ st h=>by
  obtain⟨⟨old,he⟩,_⟩:=st
  exact wpAny_pyIter_enum he h
def Zt (K:W.Frag) (ta:TA):TI:=fun σ H R=>ta σ H fun vs H1=>∃ a,vs=[.ref a]∧(∃ xs,aU K H1 a xs)∧R (Yi K a) H1
theorem OO {X:Cx}{elts:List Expr}{k:Nat}{tpos:Pos}{a:Expr}{ta:TA}{p pos:Pos} (K:W.Frag) (hK:X.K=K) (hg:Gl X "enumerate") (hm:X.mg "enumerate" = none) (ha:PA X [a] ta) (hs:starEach [a] X.env=[(false,eval a X.env)]:=by rfl) :
  PI X (.Tuple elts k tpos) (.Call (.Name "enumerate" p) [a] [] pos) (Zt K ta):=by
 subst hK
 intro pins s σ H R I h
 refine Call_ (nT I hg hm (u:=.type "enumerate") (by decide +kernel) (PyProof.Rows.callWith_type1 (dj (ha pos pins s σ H _ I h) fun us s1 ⟨vs,H1,I1,r1,q1⟩=>?_) hs rfl))
 obtain⟨l,e,⟨xs,hx⟩,q⟩:=q1
 subst e
 cases r1 with
 | cons r rr =>
  cases rr
  cases r
  obtain⟨its,rv,pl,hz⟩:=I1.list hx
  have hlt:l < s1.heap.objs.size:=by obtain⟨o,ho,_⟩:=pl.isList;exact Heap.lt_size ho
  refine call_enumerate_list pl.isList fun h' hE hI hsz hk=>?_
  refine wpAny_pyIter_enum hE ?_
  have I2:Inv X pins σ H1 { s1 with heap:=h' }:=I1.kept (t':=s1.toks) fun b o e=>hk b o e
  refine⟨s1.heap.objs.size+1,_,_,_,H1,rfl,I2,L1 (Nat.succ_ne_self _) (Nat.ne_of_lt (Nat.lt_succ_of_lt hlt)) (Nat.ne_of_lt hlt),⟨⟨_,hE⟩,hI⟩,fun b hb=>?_,q⟩
  have hb':s1.heap.objs.size≤b:=by
   simp only[List.mem_cons,List.mem_nil_iff,or_false] at hb
   rcases hb with rfl | rfl
   ·exact Nat.le_add_right _ _
   ·exact Nat.le_refl _
  exact I1.uA hb' (I1.hok.fresh hb')
theorem OP {K:W.Frag}{a:Addr}{xs:List V}{g:TG}{tb:TS}{D:Ends}{σ:St}{H:Hp} (Pv:Nat→St→Hp→Prop) (h0:Pv 0 σ H) (hl:∀ i σ H,i≤xs.length→Pv i σ H→aU K H a xs)
  (hs:∀ i x t σ H,xs[i]? = some x→H t=none→Pv i σ H→g (.ref t) σ (upd H t (.tup [.int i,x])) fun σ2 H2=>tb { D with nx:=Pv (i+1),ct:=Pv (i+1),bk:=D.nx } σ2 H2) (hd:∀ σ H,Pv xs.length σ H→D.nx σ H) :
  ∃ W:Nat→Nat→St→Hp→Prop,(∃ m,W 0 m σ H)∧∀ i m σ H,W i m σ H →
   ((Yi K a).stop i H∧D.nx σ H)∨((Yi K a).go i H∧∃ N:St→Hp→Prop,(∀ σ' H',N σ' H'→∃ m',m' < m∧W (i+1) m' σ' H')∧∀ x H',(Yi K a).NQ i H x H'→g x σ H' fun σ2 H2=>tb { D with nx:=N,ct:=N,bk:=D.nx } σ2 H2):=by
 refine⟨fun i m σ H=>m=xs.length - i∧i≤xs.length∧Pv i σ H,⟨xs.length,by simp,Nat.zero_le _,h0⟩,?_⟩
 rintro i m σ H ⟨rfl,hi,p⟩
 have q:=hl i σ H hi p
 by_cases hlt:i < xs.length
 ·refine .inr ⟨⟨xs,xs[i],q,by simp[hlt]⟩,Pv (i+1),fun σ' H' p'=>⟨xs.length - (i+1),by omega,rfl,hlt,p'⟩,fun v H' y=>?_⟩
  obtain⟨t,x,ht,e1,e2,ex⟩:=y
  subst e1 e2
  exact hs i x t σ _ (ex xs q) ht p
 ·have e:i=xs.length:=by omega
  subst e
  exact .inl ⟨⟨xs,q,rfl⟩,hd σ H p⟩
def Zu (K:W.Frag):List V→Hp→VK→Prop:=fun xs H Q=>∃(p:Addr) (ns:List Nat),xs=[.ref p]∧aU K H p (ns.map fun n:Nat=>V.int n)∧ns.sum < 1000000∧Q (.int (ns.sum:Nat)) H
theorem pre_take (ns:List Nat):∀ k,k≤ns.length→preSum (fun i=>((ns.getD i 0:Nat):Int)) k=((ns.take k).sum:Nat)
 | 0,_=>rfl
 | k+1,h=>by
  show preSum _ k+((ns.getD k 0:Nat):Int)=_
  rw[pre_take ns k (by omega)]
  have hk:k < ns.length:=by omega
  rw[List.take_succ,List.getElem?_eq_getElem hk,List.sum_append]
  simp[List.getD,List.getElem?_eq_getElem hk]
theorem qW (ns:List Nat) (k:Nat):(ns.take k).sum≤ns.sum:=by
 have e:=congrArg List.sum (List.take_append_drop k ns)
 rw[List.sum_append] at e
 omega
theorem vv:∀{ns:List Nat}{us:List Value}{i:Nat}{v:Value},Vals (ns.map fun n:Nat=>V.int n) us→us[i]? = some v→∃ t,v=.int (ns.getD i 0:Nat) t
 | [],_,i,v,r,e=>by cases r;simp at e
 | n :: ns,_,0,v,r,e=>by
  cases r with
  | cons r1 r2 =>
   simp at e
   subst e
   obtain⟨t,e⟩:=r1
   exact⟨t,by simpa using e⟩
 | n :: ns,_,i+1,v,r,e=>by
  cases r with
  | cons r1 r2 =>
   obtain⟨t,e2⟩:=vv r2 (i:=i) (v:=v) (by simpa using e)
   exact⟨t,by simpa using e2⟩
theorem L3 {X:Cx} (hc:X.calm=true):cY X (.builtin "sum") (Zu X.K):=by
 intro pins s σ H xs us Q I r h
 obtain⟨p,ns,rfl,hq,hs,q⟩:=h
 obtain⟨u,rfl,ru⟩:=vals1 r
 cases ru
 obtain⟨its,rv,pl,hz⟩:=I.list hq
 have hlen:=rv.length
 rw[List.length_map] at hlen
 have hpl:p < s.heap.objs.size:=by obtain⟨o,ho,_⟩:=pl.isList;exact Heap.lt_size ho
 refine call_sum_walk (wpAny_pyIter_list pl.isList ⟨s.heap.objs.size,_,_,_,_,_,fun i=>((ns.getD i 0:Nat):Int),rfl,Walks.list (A:=X.A.in1) (show X.A.in1.handled=none from I.ok.hd hc) s.heap.objs.size p (Nat.ne_of_lt hpl) its.toArray,⟨⟨_,Heap.get?_push_size _ rfl,rfl,rfl⟩,pl.isList.at fun o e=>Heap.get?_push_of_some _ e⟩,?_,?_,?_,?_⟩)
 ·intro b hb
  have e:b=s.heap.objs.size∨b=p:=by simpa using hb
  show b < (s.heap.push _).objs.size
  rw[Heap.size_push]
  rcases e with rfl | rfl
  ·exact Nat.lt_succ_self _
  ·exact Nat.lt_succ_of_lt hpl
 ·intro i v hv
  exact vv rv (by simpa using hv)
 ·intro j hj
  have hj':j < ns.length:=by rw[hlen];simpa using hj
  have h1:=qW ns (j+1)
  have h2:ns.getD j 0≤ns.sum:=by
   have:=qW ns (j+1)
   rw[List.take_succ,List.getElem?_eq_getElem hj',List.sum_append] at this
   simp[List.getD,List.getElem?_eq_getElem hj'] at this ⊢
   omega
  rw[pre_take ns (j+1) (by omega)]
  show InLong ((ns.getD j 0:Nat):Int)∧_
  constructor <;> (unfold InLong;constructor <;> omega)
 ·intro h' tk t' hk
  have f0:=I.uA (Nat.le_refl s.heap.objs.size) (I.hok.fresh (Nat.le_refl _))
  have I2:Inv X pins σ H { s with heap:=s.heap.push { cls:=.type "list_iterator",data:=.fields #[.ref p,rawInt 0] } }:=I.kept (t':=s.toks) fun b o e=>Heap.get?_push_of_some _ e
  have I3:=I2.turned (h':=h') (t':=tk) (it:=s.heap.objs.size) (fun b o hb e=>hk b o (by simpa using hb) e) f0.1 f0.2.1 f0.2.2.2.1 f0.2.2.2.2.1 f0.2.2.2.2.2
  refine⟨.int (ns.sum:Nat),H,I3,⟨t',?_⟩,q⟩
  rw[List.size_toArray,←hlen,pre_take ns _ (Nat.le_refl _),List.take_of_length_le (Nat.le_refl _)]
theorem C7 {X:Cx} (K:W.Frag) (h:X.K=K) (hc:X.calm=true):cY X (.builtin "sum") (Zu K):=by subst h;exact L3 hc
theorem Ar {y:V}:∀{xs:List V}{us:List Value},Vals xs us→xs.all fk=true→us.countP (Yc y)=xs.countP (fun z=>Ac z y)
 | _,_,.nil,_=>rfl
 | x :: xs,u :: us,.cons r t,f=>by
  rw[List.all_cons,Bool.and_eq_true] at f
  rw[List.countP_cons,List.countP_cons,Ar t f.2,D8 r f.1]
section
variable {X:Cx}
def Lj (K:W.Frag):V→List V→Hp→VK→Prop:=fun x vs H Q=>∃(p:Addr) (xs:List V) (y:V),x=.ref p∧vs=[y]∧aU K H p xs∧fk y=true∧xs.all fk=true∧Q (.int (xs.countP fun z=>Ac z y:Nat)) H
theorem L4:UZ X "list.count" (Lj X.K):=by
 intro pins s σ H x vs v us Q I rx rv h
 obtain⟨p,xs,y,rfl,rfl,hq,fy,fs,q⟩:=h
 cases rx
 obtain⟨u,rfl,ru⟩:=rv.one
 obtain⟨its,r,pl,_⟩:=I.list hq
 obtain⟨⟨cls,dd,data,sl⟩,ho,hc,n,hd⟩:=pl.isList
 simp only at hc hd
 subst hc hd
 refine call_meets F.slot_list_count ⟨_,ho,rfl⟩ F.entry_list_count (F.args_list_count_2 _ _) (SeqAt.list_countAt p its.toArray n dd sl u (Yc y)) ⟨ho,fun w hw=>FL ru fy r fs w (by simpa using hw),?_⟩
 refine⟨.int _,H,I.tok _,⟨_,rfl⟩,?_⟩
 rw[show its.toArray.toList=its from rfl,Ar r fs]
 exact q
theorem IW (K:W.Frag) (h:X.K=K):UZ X "list.count" (Lj K):=by subst h;exact L4
theorem lT.orR {f:Value→Value→Sem Value}{r r':R2} (h:lT X f r) (h':lT X f r'):lT X f (fun x y H Q=>r x y H Q∨r' x y H Q):=by
 intro pins s σ H x y v u Q I rx ry q
 rcases q with q | q
 ·exact h pins s σ H x y v u Q I rx ry q
 ·exact h' pins s σ H x y v u Q I rx ry q
end
def isIn (K:W.Frag) (H:Hp) (ws xs:List V):Prop:=∃ w∈ws,∃ b ys,w=V.ref b∧aV K H b ys∧qJ ys xs=true
def af1 (K:W.Frag) (neg:Bool):R2:=fun x y H Q=>∃ a p xs ws,x=.ref a∧y=.ref p∧aV K H a xs∧xs.all fk=true∧aU K H p ws∧(∀ w∈ws,∃ b ys,w=V.ref b∧aV K H b ys∧ys.all fk=true)∧∀ r:Bool,(r=true↔isIn K H ws xs)→Q (.bl (if neg then !r else r)) H
theorem FU:∀{xs:List V}{us:List Value},Vals xs us→∀ x∈xs,∃ u∈us,RelV x u
 | _,_,.nil=>fun x hx=>by cases hx
 | y :: xs,v :: us,.cons r t=>fun x hx=>by
  rcases List.mem_cons.mp hx with rfl | hx
  ·exact⟨v,List.mem_cons_self ..,r⟩
  ·obtain⟨u,h1,h2⟩:=FU t x hx
   exact⟨u,List.mem_cons_of_mem _ h1,h2⟩
section
variable {X:Cx}
theorem RK {pins:List (Addr×Obj)}{σ:St}{H:Hp}{s:Shared} (I:Inv X pins σ H s) {a p:Addr}{xs ws:List V}{its:List Value} (ha:aV X.K H a xs) (fa:xs.all fk=true) (r:Vals ws its)
  (hw:∀ w∈ws,∃ b ys,w=V.ref b∧aV X.K H b ys∧ys.all fk=true) (hu:X.A.units+64 < cLine) :
  ∃ e:Value→Bool,(∀ v∈its,SeqAt.EqAt X.A.in1 s v (.ref a) (e v))∧(its.any e=true↔isIn X.K H ws xs):=by
 refine⟨fun v=>@decide (∃ b ys,v=Value.ref b∧aV X.K H b ys∧qJ ys xs=true) (Classical.propDecidable _),fun v hv=>?_,?_⟩
 ·obtain⟨y,hy,ry⟩:=xy r v hv
  obtain⟨b,ys,rfl,hb,fb⟩:=hw y hy
  cases ry
  have q:=OJ (A:=X.A.in1) I ha hb fa fb (show X.A.units+1 < cLine by omega)
  cases he:qJ ys xs with
  | true =>
   rw[he] at q
   have e:@decide (∃ b' ys',Value.ref b=Value.ref b'∧aV X.K H b' ys'∧qJ ys' xs=true) (Classical.propDecidable _)=true:=@decide_eq_true _ (Classical.propDecidable _) ⟨b,ys,rfl,hb,he⟩
   dsimp only
   rw[e];exact q
  | false =>
   rw[he] at q
   have e:@decide (∃ b' ys',Value.ref b=Value.ref b'∧aV X.K H b' ys'∧qJ ys' xs=true) (Classical.propDecidable _)=false:=@decide_eq_false _ (Classical.propDecidable _) (by
    rintro⟨b',ys',e1,e2,e3⟩
    cases e1
    rw[I.xo hb e2] at he
    rw[he] at e3;cases e3)
   dsimp only
   rw[e];exact q
 ·rw[List.any_eq_true]
  constructor
  ·rintro⟨v,hv,e⟩
   obtain⟨b,ys,rfl,hb,he⟩:=@of_decide_eq_true _ (Classical.propDecidable _) e
   obtain⟨y,hy,ry⟩:=xy r _ hv
   obtain⟨b',ys',rfl,hb',_⟩:=hw y hy
   cases ry
   exact⟨_,hy,_,ys,rfl,hb,he⟩
  ·rintro⟨w,hwm,b,ys,rfl,hb,he⟩
   obtain⟨u,hu2,ru⟩:=FU r _ hwm
   cases ru
   exact⟨_,hu2,@decide_eq_true _ (Classical.propDecidable _) ⟨b,ys,rfl,hb,he⟩⟩
theorem Ve (K:W.Frag) (hK:X.K=K) (hu:X.A.units+64 < cLine):lT X (compareOp .In) (af1 K false):=by
 subst hK
 intro pins s σ H x y v u Q I rx ry h
 obtain⟨a,p,xs,ws,rfl,rfl,ha,fa,hp,hw,q⟩:=h
 cases rx;cases ry
 obtain⟨its,r,pl,hz⟩:=I.list hp
 obtain⟨e,h1,h2⟩:=RK (p:=p) I ha fa r hw hu
 refine SeqAt.in_listAt e pl.isList (fun w hwm=>h1 w (by simpa using hwm)) ⟨.bl _,H,I,rfl,?_⟩
 exact q (its.toArray.any e) (by rw[show its.toArray.any e=its.any e by simp];exact h2)
end
section
variable {prog:Program}{w:World}{A:Around}{E:Value→Shared→Prop}{s:Shared}
theorem RL {z TI TO i1 i2 l:Addr}{n1 n2 k:Nat}{P1 P2:Nat→Value→Prop}{S1 S2:Nat→Heap→Prop}{a b:Value}{Q:Value→Shared→Prop} (D:ZipApart z TI TO i1 i2 l l)
  (G1:Draws prog w A i1 [i1] n1 P1 S1) (G2:Draws prog w A i2 [i2,l] n2 P2 S2) (hz:IsZip s.heap z TI TO .none) (hTI:IsPair s.heap TI (.ref i1) (.ref i2)) (hTO:IsPair s.heap TO a b)
  (g1:S1 k s.heap) (g2:S2 k s.heap) (k1:k < n1) (k2:k < n2)
  (hQ:∀ h' tk x y,P1 k x→P2 k y→IsZip h' z TI TO (rawInt s.heap.objs.size)→IsPair h' TO x y→S1 (k+1) h'→S2 (k+1) h'→IsPair h' s.heap.objs.size x y →
   (∀ c o,c≠z→c≠TO→c≠i1→c≠i2→s.heap.get? c=some o→h'.get? c=some o)→Q (.ref s.heap.objs.size) { s with heap:=h',toks:=tk }) :
  wpAny (model prog w) A (Builtin.«zip.__next__» ⟨[.ref z],[]⟩) (fun fin s'=>∃ v,fin=.done (.ret v)∧Q v s') E s:=by
 have e1:∀{i:Nat}{h h':Heap}{c:Addr},Heap.SameBut c h h'→i1≠c→S1 i h→S1 i h':=fun hs hn g=>G1.frame _ _ _ g fun b hb o e=>by
  rw[List.mem_singleton.mp hb] at e ⊢;exact hs.extBut _ _ hn e
 have e2:∀{i:Nat}{h h':Heap}{c:Addr},Heap.SameBut c h h'→i2≠c→l≠c→S2 i h→S2 i h':=fun hs hn hl g=>G2.frame _ _ _ g fun b hb o e=>by
  rcases List.mem_cons.mp hb with q | q
  ·rw[q] at e ⊢;exact hs.extBut _ _ hn e
  ·rw[List.mem_singleton.mp q] at e ⊢;exact hs.extBut _ _ hl e
 show wpAny _ _ (field (.ref z) 2 >>= _) _ _ _
 refine wpAny_bind (wpAny_field hz rfl (x:=.bool false) rfl ?_)
 show wpAny _ _ (field (.ref z) 3 >>= _) _ _ _
 refine wpAny_bind (wpAny_field hz rfl (x:=.ref TI) rfl (wpAny_bind (wpAny_seqItems hTI rfl ?_)))
 show wpAny _ _ (Builtin.SmallTypes.ownedTupleIsFree (.ref z) >>= _) _ _ _
 refine wpAny_bind ?_
 unfold Builtin.SmallTypes.ownedTupleIsFree
 refine wpAny_bind (wpAny_field hz rfl (x:=.none) rfl (wpAny_pure ?_))
 simp only[if_true]
 refine wpAny_bind (wpAny_rule (wpAny_bind (wpAny_field hz rfl (x:=.ref TO) rfl (wpAny_bind (wpAny_setField_rec hz (by simp) fun A1 z1 q1=>?_)))))
 replace z1:IsZip A1 z TI TO .ellipsis:=z1
 refine wpAny_bind ?_
 simp only[List.zipIdx_cons,List.zipIdx_nil,List.forIn_cons,List.forIn_nil]
 refine wpAny_bind (wpAny_bind (wpAny_onRaise ?_))
 show wpAny _ _ (Builtin.SmallTypes.nextOf (.ref i1) >>= _) _ _ _
 refine wpAny_bind (G1.item k _ _ _ k1 (e1 q1 D.i1z g1) fun x A2 tk px Zv q2=>wpAny_pure ?_)
 have o2:IsPair A2 TO a b:=q2.extBut _ _ D.TOi1 (q1.extBut _ _ D.TOz hTO)
 refine wpAny_bind (wpAny_seqItems o2 rfl (wpAny_bind (wpAny_updateSeq_pair o2 fun A3 o3 q3=>?_)))
 replace o3:IsPair A3 TO x b:=o3
 refine wpAny_bind (wpAny_letGo (wpAny_pure (wpAny_bind (wpAny_bind (wpAny_onRaise ?_)))))
 show wpAny _ _ (Builtin.SmallTypes.nextOf (.ref i2) >>= _) _ _ _
 refine wpAny_bind (G2.item k _ _ _ k2 (e2 q3 D.TOi2.symm D.l2TO (e2 q2 D.i12.symm D.l2i1 (e2 q1 D.i2z D.l2z g2))) fun y A4 tk2 py g2' q4=>wpAny_pure ?_)
 have o4:IsPair A4 TO x b:=q4.extBut _ _ D.TOi2 o3
 refine wpAny_bind (wpAny_seqItems o4 rfl (wpAny_bind (wpAny_updateSeq_pair o4 fun A5 o5 q5=>?_)))
 replace o5:IsPair A5 TO x y:=o5
 refine wpAny_bind (wpAny_letGo (wpAny_pure (wpAny_pure (wpAny_bind (wpAny_seqItems o5 rfl (wpAny_bind (wpAny_newTuple ?_)))))))
 have sz:A5.objs.size=s.heap.objs.size:=by rw[q5.1,q4.1,q3.1,q2.1,q1.1]
 have z5:IsZip A5 z TI TO .ellipsis:=q5.extBut _ _ D.TOz.symm (q4.extBut _ _ D.i2z.symm (q3.extBut _ _ D.TOz.symm (q2.extBut _ _ D.i1z.symm z1)))
 have w1:S1 (k+1) A5:=e1 q5 D.TOi1.symm (e1 q4 D.i12 (e1 q3 D.TOi1.symm Zv))
 have w2:S2 (k+1) A5:=e2 q5 D.TOi2.symm D.l2TO g2'
 have kp:∀ c o,c≠z→c≠TO→c≠i1→c≠i2→s.heap.get? c=some o→A5.get? c=some o:=fun c o c1 c2 c3 c4 e=>q5.extBut _ _ c2 (q4.extBut _ _ c4 (q3.extBut _ _ c2 (q2.extBut _ _ c3 (q1.extBut _ _ c1 e))))
 have lz:z < A5.objs.size:=Heap.lt_size z5
 have z6:IsZip (A5.push { cls:=.type "tuple",data:=.seq #[x,y] }) z TI TO .ellipsis:=Heap.get?_push_of_some _ z5
 show wpAny _ _ (Builtin.SmallTypes.ownedTupleHandOut (.ref z) (.ref A5.objs.size) >>= _) _ _ _
 refine wpAny_bind ?_
 unfold Builtin.SmallTypes.ownedTupleHandOut
 refine wpAny_bind (wpAny_setField_rec z6 (by simp) fun A7 z7 q7=>?_)
 replace z7:IsZip A7 z TI TO (rawInt A5.objs.size):=z7
 refine wpAny_setField_rec z7 (by simp) fun A8 z8 q8=>?_
 replace z8:IsZip A8 z TI TO (rawInt A5.objs.size):=z8
 have up:∀ c o,c≠z→A5.get? c=some o→A8.get? c=some o:=fun c o c1 e=>q8.extBut _ _ c1 (q7.extBut _ _ c1 (Heap.get?_push_of_some _ e))
 have t8:IsPair A8 A5.objs.size x y:=q8.extBut _ _ (Nat.ne_of_gt lz) (q7.extBut _ _ (Nat.ne_of_gt lz) (Heap.get?_push_size _ rfl))
 have v1:S1 (k+1) A8:=G1.frame _ _ _ w1 fun b hb o e=>by
  rw[List.mem_singleton.mp hb] at e ⊢;exact up _ o D.i1z e
 have v2:S2 (k+1) A8:=G2.frame _ _ _ w2 fun b hb o e=>by
  rcases List.mem_cons.mp hb with q | q
  ·rw[q] at e ⊢;exact up _ o D.i2z e
  ·rw[List.mem_singleton.mp q] at e ⊢;exact up _ o D.l2z e
 rw[sz] at z8 t8
 refine wpAny_pure ⟨_,rfl,?_⟩
 show Q (.ref A5.objs.size) _
 rw[sz]
 exact hQ A8 _ x y px py z8 (up _ _ D.TOz o5) v1 v2 t8 fun c o c1 c2 c3 c4 e=>up c o c1 (kp c o c1 c2 c3 c4 e)
theorem Vf {z TI TO i1 i2 l:Addr}{n1 n2 k:Nat}{P1 P2:Nat→Value→Prop}{S1 S2:Nat→Heap→Prop}{a b:Value}{Q:Fin→Shared→Prop} (D:ZipApart z TI TO i1 i2 l l)
  (G1:Draws prog w A i1 [i1] n1 P1 S1) (G2:Draws prog w A i2 [i2,l] n2 P2 S2) (hz:IsZip s.heap z TI TO .none) (hTI:IsPair s.heap TI (.ref i1) (.ref i2)) (hTO:IsPair s.heap TO a b)
  (g1:S1 k s.heap) (g2:S2 k s.heap) (hk:k=n1∨(k < n1∧k=n2))
  (hE:∀ h' tk e,(∀ c o,c≠z→c≠TO→c≠i1→c≠i2→s.heap.get? c=some o→h'.get? c=some o)→(∃ o,h'.get? e=some o∧o.cls=.type "StopIteration")→E (.ref e) { s with heap:=h',toks:=tk }) :
  wpAny (model prog w) A (Builtin.«zip.__next__» ⟨[.ref z],[]⟩) Q E s:=by
 have e1:∀{i:Nat}{h h':Heap}{c:Addr},Heap.SameBut c h h'→i1≠c→S1 i h→S1 i h':=fun hs hn g=>G1.frame _ _ _ g fun b hb o e=>by
  rw[List.mem_singleton.mp hb] at e ⊢;exact hs.extBut _ _ hn e
 have e2:∀{i:Nat}{h h':Heap}{c:Addr},Heap.SameBut c h h'→i2≠c→l≠c→S2 i h→S2 i h':=fun hs hn hl g=>G2.frame _ _ _ g fun b hb o e=>by
  rcases List.mem_cons.mp hb with q | q
  ·rw[q] at e ⊢;exact hs.extBut _ _ hn e
  ·rw[List.mem_singleton.mp q] at e ⊢;exact hs.extBut _ _ hl e
 show wpAny _ _ (field (.ref z) 2 >>= _) _ _ _
 refine wpAny_bind (wpAny_field hz rfl (x:=.bool false) rfl ?_)
 show wpAny _ _ (field (.ref z) 3 >>= _) _ _ _
 refine wpAny_bind (wpAny_field hz rfl (x:=.ref TI) rfl (wpAny_bind (wpAny_seqItems hTI rfl ?_)))
 show wpAny _ _ (Builtin.SmallTypes.ownedTupleIsFree (.ref z) >>= _) _ _ _
 refine wpAny_bind ?_
 unfold Builtin.SmallTypes.ownedTupleIsFree
 refine wpAny_bind (wpAny_field hz rfl (x:=.none) rfl (wpAny_pure ?_))
 simp only[if_true]
 refine wpAny_bind (wpAny_rule (wpAny_bind (wpAny_field hz rfl (x:=.ref TO) rfl (wpAny_bind (wpAny_setField_rec hz (by simp) fun A1 z1 q1=>?_)))))
 replace z1:IsZip A1 z TI TO .ellipsis:=z1
 refine wpAny_bind ?_
 simp only[List.zipIdx_cons,List.zipIdx_nil,List.forIn_cons,List.forIn_nil]
 refine wpAny_bind (wpAny_bind (wpAny_onRaise ?_))
 show wpAny _ _ (Builtin.SmallTypes.nextOf (.ref i1) >>= _) _ _ _
 rcases hk with rfl | ⟨k1,rfl⟩
 ·refine wpAny_bind (G1.done _ _ _ (e1 q1 D.i1z g1) fun A2 e q2 he=>?_)
  obtain⟨oe,IX,hce⟩:=he
  have z2:IsZip A2 z TI TO .ellipsis:=q2 _ _ D.i1z.symm z1
  have ez:e≠z:=fun q=>by rw[q,z2] at IX;cases IX;exact absurd (show Value.type "zip" = Value.type "StopIteration" from hce) (by decide)
  exact wpAny_setField_rec z2 (by simp) fun A3 _ q3=>hE A3 _ e (fun c o c1 _ c3 _ p=>q3.extBut _ _ c1 (q2 _ _ c3 (q1.extBut _ _ c1 p))) ⟨oe,q3.extBut _ _ ez IX,hce⟩
 ·refine wpAny_bind (G1.item k _ _ _ k1 (e1 q1 D.i1z g1) fun x A2 tk px Zv q2=>wpAny_pure ?_)
  have o2:IsPair A2 TO a b:=q2.extBut _ _ D.TOi1 (q1.extBut _ _ D.TOz hTO)
  refine wpAny_bind (wpAny_seqItems o2 rfl (wpAny_bind (wpAny_updateSeq_pair o2 fun A3 o3 q3=>?_)))
  refine wpAny_bind (wpAny_letGo (wpAny_pure (wpAny_bind (wpAny_bind (wpAny_onRaise ?_)))))
  show wpAny _ _ (Builtin.SmallTypes.nextOf (.ref i2) >>= _) _ _ _
  refine wpAny_bind (G2.done _ _ _ (e2 q3 D.TOi2.symm D.l2TO (e2 q2 D.i12.symm D.l2i1 (e2 q1 D.i2z D.l2z g2))) fun A4 e q4 he=>?_)
  obtain⟨oe,IX,hce⟩:=he
  have z4:IsZip A4 z TI TO .ellipsis:=q4 _ _ D.i2z.symm (q3.extBut _ _ D.TOz.symm (q2.extBut _ _ D.i1z.symm z1))
  have ez:e≠z:=fun q=>by rw[q,z4] at IX;cases IX;exact absurd (show Value.type "zip" = Value.type "StopIteration" from hce) (by decide)
  exact wpAny_setField_rec z4 (by simp) fun A5 _ q5=>hE A5 _ e (fun c o c1 c2 c3 c4 p=>q5.extBut _ _ c1 (q4 _ _ c4 (q3.extBut _ _ c2 (q2.extBut _ _ c3 (q1.extBut _ _ c1 p))))) ⟨oe,q5.extBut _ _ ez IX,hce⟩
def zf (h:Heap) (it:Addr) (x:Str) (t:Tok) (i:Nat):Prop:=h.IsStrIter it "str_ascii_iterator" x t i∨h.IsStrIter it "str_iterator" x t i
theorem FW (hh:A.handled=none) (it:Addr) (x:Str) (t:Tok):Draws prog w A it [it] x.cps.size (fun i v=>∃ c u,x.cps[i]? = some c∧v=.str ⟨#[c]⟩ u) (fun i h=>zf h it x t i) where
 live:=fun i h st=>by
  rcases st with st | st
  ·exact(Draws.strAscii (prog:=prog) (w:=w) hh it x t).live i h st
  ·exact(Draws.strWide (prog:=prog) (w:=w) hh it x t).live i h st
 frame:=fun i h h' st hk=>by
  rcases st with st | st
  ·exact .inl ((Draws.strAscii (prog:=prog) (w:=w) hh it x t).frame i h h' st hk)
  ·exact .inr ((Draws.strWide (prog:=prog) (w:=w) hh it x t).frame i h h' st hk)
 item:=fun i s Q E hi st hQ=>by
  rcases st with st | st
  ·exact(Draws.strAscii (prog:=prog) (w:=w) hh it x t).item i s Q E hi st fun v h' tk p q r=>hQ v h' tk p (.inl q) r
  ·exact(Draws.strWide (prog:=prog) (w:=w) hh it x t).item i s Q E hi st fun v h' tk p q r=>hQ v h' tk p (.inr q) r
 done:=fun s Q E st hE=>by
  rcases st with st | st
  ·exact(Draws.strAscii (prog:=prog) (w:=w) hh it x t).done s Q E st hE
  ·exact(Draws.strWide (prog:=prog) (w:=w) hh it x t).done s Q E st hE
theorem OQ {h h':Heap}{it:Addr}{x:Str}{t:Tok}{i:Nat} (q:zf h it x t i) (e:∀ o,h.get? it=some o→h'.get? it=some o):zf h' it x t i:=by
 rcases q with ⟨o,ho,r⟩ | ⟨o,ho,r⟩
 ·exact .inl ⟨o,e _ ho,r⟩
 ·exact .inr ⟨o,e _ ho,r⟩
theorem IY {h:Heap}{it:Addr}{x:Str}{t:Tok}{i:Nat} (q:zf h it x t i):∃ o,h.get? it=some o∧∃ vs,o.data=.fields vs:=by
 rcases q with ⟨o,ho,_,r⟩ | ⟨o,ho,_,r⟩
 ·exact⟨o,ho,_,r⟩
 ·exact⟨o,ho,_,r⟩
theorem FY (hh:A.handled=none) (z TI TO i1 i2 l:Addr) (D:ZipApart z TI TO i1 i2 l l) (x:Str) (t:Tok) (ys:Array Value) :
  WalksT prog w A z [z,TI,TO,i1,i2,l] [z,TO,i1,i2] (min x.cps.size ys.size)
   (fun i vals=>∃ c u y,x.cps[i]? = some c∧ys[i]? = some y∧vals = #[.str ⟨#[c]⟩ u,y])
   (fun i h=>IsZip h z TI TO .none∧IsPair h TI (.ref i1) (.ref i2)∧(∃ a b,IsPair h TO a b)∧zf h i1 x t i∧h.IsListIter i2 l i∧h.IsList l ys)
   (fun i T h=>IsZip h z TI TO (rawInt T)∧IsPair h TI (.ref i1) (.ref i2)∧(∃ a b,IsPair h TO a b)∧zf h i1 x t (i+1)∧h.IsListIter i2 l (i+1)∧h.IsList l ys∧T≠z∧T≠TO∧T≠i1∧T≠i2) where
 sub:=fun c hc=>by
  simp only[List.mem_cons,List.mem_nil_iff,or_false] at hc ⊢
  rcases hc with q | q | q | q <;> simp[q]
 frame:=fun i h h' st hk=>by
  obtain⟨p1,p2,⟨a,b,p3⟩,p4,p5,p6⟩:=st
  exact⟨hk z (by simp) _ p1,hk TI (by simp) _ p2,⟨a,b,hk TO (by simp) _ p3⟩,OQ p4 fun o e=>hk i1 (by simp) o e,p5.at fun o e=>hk i2 (by simp) o e,p6.at fun o e=>hk l (by simp) o e⟩
 item:=fun i s Q E hi st hQ=>by
  obtain⟨p1,p2,⟨a,b,p3⟩,p4,p5,p6⟩:=st
  have hT:s.TypeIs (.ref z) "zip" := ⟨_,p1,rfl⟩
  unfold pyNext
  refine wpAny_bind (wpAny_attempt (wpAny_callSpecial?_slot (name:=Str.ofString "__next__") hT F.slot_zip_next (wpAny_call_entry F.slot_zip_next hT F.entry_zip_next ?_ (F.args_zip_next_1 _))))
  refine RL (S1:=fun i h=>zf h i1 x t i) (S2:=fun i h=>h.IsListIter i2 l i∧h.IsList l ys) D (FW (A:=A.in1) hh i1 x t) (Draws.list (A:=A.in1) hh i2 l D.l2i2 ys) p1 p2 p3 p4 ⟨p5,p6⟩ (Nat.lt_of_lt_of_le hi (Nat.min_le_left ..)) (Nat.lt_of_lt_of_le hi (Nat.min_le_right ..)) fun h' tk u y pu py r1 r2 r3 r4 r5 kp=>?_
  obtain⟨c,tu,hc,rfl⟩:=pu
  have lt:∀{c o},s.heap.get? c=some o→s.heap.objs.size≠c:=fun e=>Nat.ne_of_gt (Heap.lt_size e)
  refine wpAny_pure (hQ s.heap.objs.size #[.str ⟨#[c]⟩ tu,y] h' tk ⟨c,tu,y,hc,py,rfl⟩ (Nat.le_refl _) ⟨_,r5,rfl,_,rfl⟩ ⟨r1,kp _ _ D.TIz D.TITO D.TIi1 D.TIi2 p2,⟨_,_,r2⟩,r3,r4.1,r4.2,lt p1,lt p3,?_,?_⟩ fun c o hc e=>kp c o (fun q=>hc (by simp[q])) (fun q=>hc (by simp[q])) (fun q=>hc (by simp[q])) (fun q=>hc (by simp[q])) e)
  ·obtain⟨o,ho,_⟩:=IY p4;exact lt ho
  ·obtain⟨o,ho,_⟩:=p5;exact lt ho
 go:=fun elts k pos i T s Q E hm hQ=>by
  obtain⟨p1,p2,⟨a,b,p3⟩,p4,p5,p6,_⟩:=hm
  refine wpAny_letOwnedTupleGo_zip p1 fun h' z' q=>hQ h' ⟨z',q.extBut _ _ D.TIz p2,⟨a,b,q.extBut _ _ D.TOz p3⟩,OQ p4 fun o e=>q.extBut _ _ D.i1z e,p5.extBut q.extBut D.i2z,p6.extBut q.extBut D.l2z⟩ fun c o hc e=>q.extBut _ _ (fun y=>hc (by simp[y])) e
 apart:=fun i T h hm hT=>by
  obtain⟨_,_,_,_,_,_,t1,t2,t3,t4⟩:=hm
  simp only[List.mem_cons,List.mem_nil_iff,or_false] at hT
  rcases hT with q | q | q | q
  ·exact t1 q
  ·exact t2 q
  ·exact t3 q
  ·exact t4 q
 done:=fun s Q E st hQ=>by
  obtain⟨p1,p2,⟨a,b,p3⟩,p4,p5,p6⟩:=st
  have hT:s.TypeIs (.ref z) "zip" := ⟨_,p1,rfl⟩
  unfold pyNext
  refine wpAny_bind (wpAny_attempt (wpAny_callSpecial?_slot (name:=Str.ofString "__next__") hT F.slot_zip_next (wpAny_call_entry F.slot_zip_next hT F.entry_zip_next ?_ (F.args_zip_next_1 _))))
  refine Vf (S1:=fun i h=>zf h i1 x t i) (S2:=fun i h=>h.IsListIter i2 l i∧h.IsList l ys) D (FW (A:=A.in1) hh i1 x t) (Draws.list (A:=A.in1) hh i2 l D.l2i2 ys) p1 p2 p3 p4 ⟨p5,p6⟩ ?_ fun h' tk e kp he=>?_
  ·by_cases q:x.cps.size≤ys.size
   ·exact .inl (Nat.min_eq_left q)
   ·exact .inr ⟨by omega,Nat.min_eq_right (by omega)⟩
  ·obtain⟨o,ho,hc⟩:=he
   refine wpAny_bind (wpAny_isInstance (T := "StopIteration") (b:=true) ⟨o,ho,hc⟩ isSubtype_stop (wpAny_pure (hQ _ _ fun c o hc e=>kp c o (fun q=>hc (by simp[q])) (fun q=>hc (by simp[q])) (fun q=>hc (by simp[q])) (fun q=>hc (by simp[q])) e)))
 self:=fun i s Q E st hQ=>wpAny_pyIter_zip st.1 hQ
end
def L5 (K:W.Frag) (z:Str) (b:Addr):It :=
 ⟨fun i H=>∃ ys c y,aU K H b ys∧z.cps[i]? = some c∧ys[i]? = some y,
  fun i H v H'=>∃ t c y,H t=none∧v=.ref t∧H'=upd H t (.tup [.str (sg c),y])∧z.cps[i]? = some c∧(∀ ys,aU K H b ys→ys[i]? = some y),
  fun i H=>∃ ys,aU K H b ys∧min z.cps.size ys.length=i⟩
theorem L6 {P:Program}{w:World}{K:W.Frag}{elts:List Expr}{k:Nat}{pos:Pos}{z TI TO i1 i2 l:Addr}{x:Str}{t:Tok} (D:ZipApart z TI TO i1 i2 l l) :
  Turn P w K (.Tuple elts k pos) (L5 K x l) [z,TI,TO,i1,i2] z (fun i h=>IsZip h z TI TO .none∧IsPair h TI (.ref i1) (.ref i2)∧(∃ a b,IsPair h TO a b)∧zf h i1 x t i∧h.IsListIter i2 l i) where
 mem:=by simp
 obj:=fun i h st b hb=>by
  obtain⟨p1,p2,⟨a,c,p3⟩,p4,⟨o2,e2,c2,d2⟩⟩:=st
  simp only[List.mem_cons,List.mem_nil_iff,or_false] at hb
  rcases hb with rfl | rfl | rfl | rfl | rfl
  ·exact⟨_,p1,fun v q=>by cases q⟩
  ·exact⟨_,p2,fun v q=>by cases q⟩
  ·exact⟨_,p3,fun v q=>by cases q⟩
  ·obtain⟨o,ho,vs,hv⟩:=IY p4;exact⟨o,ho,fun v q=>by rw[hv] at q;cases q⟩
  ·exact⟨_,e2,fun v q=>by rw[d2] at q;cases q⟩
 keep:=fun i h h' st k=>by
  obtain⟨p1,p2,⟨a,c,p3⟩,p4,p5⟩:=st
  exact⟨k z (by simp) _ p1,k TI (by simp) _ p2,⟨a,c,k TO (by simp) _ p3⟩,OQ p4 fun o e=>k i1 (by simp) o e,p5.at fun o e=>k i2 (by simp) o e⟩
 item:=by
  intro X hP hw hK hc i pins s σ H E I hf st hg
  subst hP hw hK
  obtain⟨ys,c,y,hy,ec,ey⟩:=hg
  obtain⟨its,rv,p,hz⟩:=I.list hy
  obtain⟨u,hu,ru⟩:=rv.get ey
  obtain⟨p1,p2,p3,p4,p5⟩:=id st
  have W:=FY (prog:=X.prog) (w:=X.w) (A:=X.A) (I.ok.hd hc) z TI TO i1 i2 l D x t its.toArray
  have hsub:∀ b∈[z,TO,i1,i2],b∈[z,TI,TO,i1,i2]:=by
   intro b hb
   simp only[List.mem_cons,List.mem_nil_iff,or_false] at hb ⊢
   rcases hb with q | q | q | q <;> simp[q]
  refine xA (J:=L5 X.K x l) (tn:=fun i h=>IsZip h z TI TO .none∧IsPair h TI (.ref i1) (.ref i2)∧(∃ a b,IsPair h TO a b)∧zf h i1 x t i∧h.IsListIter i2 l i) W I hf hsub ?_ ?_ ?_ ?_ ?_
  ·intro b hb
   obtain⟨a',b',p3⟩:=p3
   obtain⟨o1,e1,_⟩:=IY p4
   obtain⟨o2,e2,_⟩:=p5
   simp only[List.mem_cons,List.mem_nil_iff,or_false] at hb
   rcases hb with rfl | rfl | rfl | rfl | rfl
   ·exact Heap.lt_size p1
   ·exact Heap.lt_size p2
   ·exact Heap.lt_size p3
   ·exact Heap.lt_size e1
   ·exact Heap.lt_size e2
  ·have h1:=(Array.getElem?_eq_some_iff.mp ec).1
   have h2:=(List.getElem?_eq_some_iff.mp hu).1
   simp only[List.size_toArray]
   omega
  ·exact⟨p1,p2,p3,p4,p5,p.isList⟩
  ·rintro vals ⟨c',tu,v2,q1,q2,rfl⟩
   rw[ec] at q1;cases q1
   have q2:its[i]? = some v2:=by simpa using q2
   rw[hu] at q2;cases q2
   exact⟨[.str (sg c),y],(by show 2≤sizeLine;decide),.cons ⟨tu,rfl⟩ (.cons ru .nil),fun T hT=>⟨T,c,y,hT,rfl,rfl,ec,fun zs hz=>by rw[I.vm hz hy];exact ey⟩⟩
  ·exact fun h q=>⟨q.1,q.2.1,q.2.2.1,q.2.2.2.1,q.2.2.2.2.1⟩
 done:=by
  intro X hP hw hK hc i pins s σ H E I hf st hg
  subst hP hw hK
  obtain⟨ys,hy,hmin⟩:=hg
  obtain⟨its,rv,p,hz⟩:=I.list hy
  obtain⟨p1,p2,p3,p4,p5⟩:=id st
  have e2:its.toArray.size=ys.length:=by rw[rv.length];exact List.size_toArray ..
  have e:i=min x.cps.size its.toArray.size:=by rw[e2,hmin]
  subst e
  have W:=FY (prog:=X.prog) (w:=X.w) (A:=X.A) (I.ok.hd hc) z TI TO i1 i2 l D x t its.toArray
  have hsub:∀ b∈[z,TO,i1,i2],b∈[z,TI,TO,i1,i2]:=by
   intro b hb
   simp only[List.mem_cons,List.mem_nil_iff,or_false] at hb ⊢
   rcases hb with q | q | q | q <;> simp[q]
  exact xB W I hf hsub ⟨p1,p2,p3,p4,p5,p.isList⟩
 self:=fun _ _ _ _ _ st h=>wpAny_pyIter_zip st.1 h
def gR (x:Str) (t:Tok):Obj:={ cls:=.type (if x.cps.all (· < 128)=true then "str_ascii_iterator" else "str_iterator"),data:=.fields #[.str x t,.int 0 0] }
theorem Vg {h:Heap}{it:Addr}{x:Str}{t:Tok} (e:h.get? it=some (gR x t)):zf h it x t 0:=by
 unfold gR at e
 cases ha:x.cps.all (· < 128)
 ·rw[ha,if_neg (by decide)] at e;exact .inr ⟨_,e,rfl,rfl⟩
 ·rw[ha,if_pos rfl] at e;exact .inl ⟨_,e,rfl,rfl⟩
section
variable {prog:Program}{w:World}{A:Around}{E:Value→Shared→Prop}{s:Shared}
theorem RM {x:Str}{t:Tok}{Q:Value→Shared→Prop} (hQ:Q (.ref s.heap.objs.size) { s with heap:=s.heap.push (gR x t) }):wpAny (model prog w) A (pyIter (.str x t)) Q E s:=by
 unfold gR at hQ
 cases ha:x.cps.all (· < 128)
 ·rw[ha,if_neg (by decide)] at hQ;exact wpAny_pyIter_wide ha hQ
 ·rw[ha,if_pos rfl] at hQ;exact wpAny_pyIter_ascii ha hQ
end
abbrev zs1 (h:Heap) (o:Obj):Heap:=h.push o
abbrev zs2 (h:Heap) (o:Obj) (l:Addr):Heap:=(zs1 h o).push { cls:=.type "list_iterator",data:=.fields #[.ref l,.int 0 0] }
abbrev zs3 (h:Heap) (o:Obj) (l:Addr):Heap:=(zs2 h o l).push { cls:=.type "tuple",data:=.seq #[.ref h.objs.size,.ref (zs1 h o).objs.size] }
abbrev zs4 (h:Heap) (o:Obj) (l:Addr):Heap:=(zs3 h o l).push { cls:=.type "tuple",data:=.seq #[.none,.none] }
abbrev Yj (h:Heap) (o:Obj) (l:Addr):Heap:=(zs4 h o l).push { cls:=.type "zip",data:=.fields #[.none,.bool false,.bool false,.ref (zs2 h o l).objs.size,.ref (zs3 h o l).objs.size] }
theorem OR (x:Str) (t:Tok) (l:Addr) (ys:Array Value):Meets (Builtin.«zip.__new__» ⟨[.type "zip",.str x t,.ref l],[]⟩) (fun _ R s=>s.heap.IsList l ys∧R (.ok (.ret (.ref (zs4 s.heap (gR x t) l).objs.size))) { s with heap:=Yj s.heap (gR x t) l }) :=
 .of_wp fun prog w A R s h=>by
  obtain⟨hp,g,d,tk,os⟩:=s
  obtain⟨hl,h⟩:=h
  have hsub:=sub_zip
  have hL:Heap.IsList (Shared.heap ⟨hp.push (gR x t),g,d,tk,os⟩) l ys:=Heap.IsList.push hl _
  wp_walk using RM,wpAny_pyIter_list hL
  exact⟨_,rfl,h⟩
section
variable {prog:Program}{w:World}{A:Around}{E:Value→Shared→Prop}{s:Shared}
theorem L7 {x:Str}{t:Tok}{l:Addr}{ys:Array Value}{Q:Value→Shared→Prop} (hl:s.heap.IsList l ys)
  (h:∀ h',IsZip h' (s.heap.objs.size+4) (s.heap.objs.size+2) (s.heap.objs.size+3) .none→IsPair h' (s.heap.objs.size+2) (.ref s.heap.objs.size) (.ref (s.heap.objs.size+1))→IsPair h' (s.heap.objs.size+3) .none .none →
   zf h' s.heap.objs.size x t 0→h'.IsListIter (s.heap.objs.size+1) l 0→(∀ c o,s.heap.get? c=some o→h'.get? c=some o)→Q (.ref (s.heap.objs.size+4)) { s with heap:=h' }) :
  wpAny (model prog w) A (call (.type "zip") [.str x t,.ref l]) Q E s:=by
 refine callType_new F.called_zip (by decide) (F.typeCall_zip_2 _ _) (F.newCall_zip_2 _ _) (fun obj=>F.args_object_init_3 obj _ _) F.entry_zip_new (OR x t l ys) ⟨hl,?_⟩
 have n1:(zs1 s.heap (gR x t)).objs.size=s.heap.objs.size+1:=Heap.size_push ..
 have n2:(zs2 s.heap (gR x t) l).objs.size=s.heap.objs.size+2:=by rw[Heap.size_push,n1]
 have n3:(zs3 s.heap (gR x t) l).objs.size=s.heap.objs.size+3:=by rw[Heap.size_push,n2]
 have n4:(zs4 s.heap (gR x t) l).objs.size=s.heap.objs.size+4:=by rw[Heap.size_push,n3]
 have up:∀{h:Heap}{c:Addr}{u o:Obj},h.get? c=some o→(h.push u).get? c=some o:=fun e=>Heap.get?_push_of_some _ e
 have r5:(Yj s.heap (gR x t) l).get? (zs4 s.heap (gR x t) l).objs.size=some _:=Heap.get?_push_size _ rfl
 have r4:(Yj s.heap (gR x t) l).get? (zs3 s.heap (gR x t) l).objs.size=some _:=up (Heap.get?_push_size _ rfl)
 have r3:(Yj s.heap (gR x t) l).get? (zs2 s.heap (gR x t) l).objs.size=some _:=up (up (Heap.get?_push_size _ rfl))
 have r2:(Yj s.heap (gR x t) l).get? (zs1 s.heap (gR x t)).objs.size=some _:=up (up (up (Heap.get?_push_size _ rfl)))
 have r1:(Yj s.heap (gR x t) l).get? s.heap.objs.size=some (gR x t):=up (up (up (up (Heap.get?_push_size _ rfl))))
 show _∧_
 rw[n2,n3,n4] at r5
 rw[n1,n2] at r3
 rw[n3] at r4
 rw[n1] at r2
 rw[n4]
 exact⟨⟨_,r5,rfl⟩,h _ r5 r3 r4 (Vg r1) ⟨_,r2,rfl,rfl⟩ fun c o q=>up (up (up (up (up q))))⟩
end
def Zw (K:W.Frag) (ta:TA):TI:=fun σ H R=>ta σ H fun vs H1=>∃ z b,vs=[.str z,.ref b]∧(∃ ys,aU K H1 b ys)∧R (L5 K z b) H1
theorem OS {X:Cx}{elts:List Expr}{k:Nat}{tpos:Pos}{a b:Expr}{ta:TA}{p pos:Pos} (K:W.Frag) (hK:X.K=K) (hg:Gl X "zip") (hm:X.mg "zip" = none) (ha:PA X [a,b] ta) (hs:starEach [a,b] X.env=[(false,eval a X.env),(false,eval b X.env)]:=by rfl) (hs2:starEach [b] X.env=[(false,eval b X.env)]:=by rfl) :
  PI X (.Tuple elts k tpos) (.Call (.Name "zip" p) [a,b] [] pos) (Zw K ta):=by
 subst hK
 intro pins s σ H R I h
 refine Call_ (nT I hg hm (u:=.type "zip") (by decide +kernel) (PyProof.Rows.callWith_type1 (dj (ha pos pins s σ H _ I h) fun us s1 ⟨vs,H1,I1,r1,q1⟩=>?_) (by rw[hs,hs2]) (by rw[hs2];rfl)))
 obtain⟨z,l,e,⟨ys,hy⟩,q⟩:=q1
 subst e
 cases r1 with
 | cons r rr =>
  cases rr with
  | cons r' rr =>
   cases rr
   obtain⟨t,rfl⟩:=r
   cases r'
   obtain⟨its,rv,pl,hz⟩:=I1.list hy
   have hlt:l < s1.heap.objs.size:=by obtain⟨o,ho,_⟩:=pl.isList;exact Heap.lt_size ho
   refine L7 pl.isList fun h' hz' hTI hTO hi1 hi2 hk=>?_
   refine wpAny_pyIter_zip hz' ?_
   have I2:Inv X pins σ H1 { s1 with heap:=h' }:=I1.kept (t':=s1.toks) fun b o e=>hk b o e
   refine⟨s1.heap.objs.size+4,_,_,_,H1,rfl,I2,L6 (x:=z) (t:=t) (ON s1.heap.objs.size l l hlt hlt),⟨hz',hTI,⟨_,_,hTO⟩,hi1,hi2⟩,fun b hb=>?_,q⟩
   have hb':s1.heap.objs.size≤b:=by
    simp only[List.mem_cons,List.mem_nil_iff,or_false] at hb
    rcases hb with rfl | rfl | rfl | rfl | rfl
    ·exact Nat.le_add_right _ _
    ·exact Nat.le_add_right _ _
    ·exact Nat.le_add_right _ _
    ·exact Nat.le_refl _
    ·exact Nat.le_add_right _ _
   exact I1.uA hb' (I1.hok.fresh hb')
theorem OT {K:W.Frag}{z:Str}{b:Addr}{ys:List V}{g:TG}{tb:TS}{D:Ends}{σ:St}{H:Hp} (Pv:Nat→St→Hp→Prop) (h0:Pv 0 σ H) (hl:∀ i σ H,i≤min z.cps.size ys.length→Pv i σ H→aU K H b ys)
  (hs:∀ i c y t σ H,z.cps[i]? = some c→ys[i]? = some y→H t=none→Pv i σ H→g (.ref t) σ (upd H t (.tup [.str (sg c),y])) fun σ2 H2=>tb { D with nx:=Pv (i+1),ct:=Pv (i+1),bk:=D.nx } σ2 H2) (hd:∀ σ H,Pv (min z.cps.size ys.length) σ H→D.nx σ H) :
  ∃ W:Nat→Nat→St→Hp→Prop,(∃ m,W 0 m σ H)∧∀ i m σ H,W i m σ H →
   ((L5 K z b).stop i H∧D.nx σ H)∨((L5 K z b).go i H∧∃ N:St→Hp→Prop,(∀ σ' H',N σ' H'→∃ m',m' < m∧W (i+1) m' σ' H')∧∀ x H',(L5 K z b).NQ i H x H'→g x σ H' fun σ2 H2=>tb { D with nx:=N,ct:=N,bk:=D.nx } σ2 H2):=by
 refine⟨fun i m σ H=>m=min z.cps.size ys.length - i∧i≤min z.cps.size ys.length∧Pv i σ H,⟨_,rfl,Nat.zero_le _,h0⟩,?_⟩
 rintro i m σ H ⟨rfl,hi,p⟩
 have q:=hl i σ H hi p
 by_cases hlt:i < min z.cps.size ys.length
 ·have h1:i < z.cps.size:=by omega
  have h2:i < ys.length:=by omega
  refine .inr ⟨⟨ys,z.cps[i],ys[i],q,by simp[h1],by simp[h2]⟩,Pv (i+1),fun σ' H' p'=>⟨_,(by omega:min z.cps.size ys.length - (i+1) < _),rfl,hlt,p'⟩,fun v H' y=>?_⟩
  obtain⟨t,c,y,ht,e1,e2,ec,ey⟩:=y
  subst e1 e2
  exact hs i c y t σ _ ec (ey ys q) ht p
 ·have e:i=min z.cps.size ys.length:=by omega
  subst e
  exact .inl ⟨⟨ys,q,rfl⟩,hd σ H p⟩
section
variable {X:Cx}
theorem any_range (bs:List Bool):((List.range bs.length).any fun i=>bs.getD i true)=bs.any id:=by
 rw[Bool.eq_iff_iff,List.any_eq_true,List.any_eq_true]
 constructor
 ·rintro⟨i,hi,h⟩
  have hi':i < bs.length:=by simpa using hi
  exact⟨bs[i],List.getElem_mem hi',by simpa [List.getD,hi'] using h⟩
 ·rintro⟨b,hb,h⟩
  obtain⟨i,hi,rfl⟩:=List.mem_iff_getElem.mp hb
  exact⟨i,by simpa using hi,by simpa [List.getD,hi] using h⟩
def Zx (K:W.Frag):List V→Hp→VK→Prop:=fun xs H Q=>∃(p:Addr) (bs:List Bool),xs=[.ref p]∧aU K H p (bs.map V.bl)∧Q (.bl (bs.any id)) H
theorem OU (hc:X.calm=true):cY X (.builtin "any") (Zx X.K):=by
 intro pins s σ H xs us Q I r h
 obtain⟨p,bs,rfl,hq,q⟩:=h
 obtain⟨u,rfl,ru⟩:=vals1 r
 cases ru
 obtain⟨its,rv,pl,hz⟩:=I.list hq
 have hlen:=rv.length
 rw[List.length_map] at hlen
 have hpl:p < s.heap.objs.size:=by obtain⟨o,ho,_⟩:=pl.isList;exact Heap.lt_size ho
 refine call_any_walk (wpAny_pyIter_list pl.isList ⟨s.heap.objs.size,_,_,_,_,_,fun i=>bs.getD i true,rfl,Walks.list (A:=X.A.in1) (show X.A.in1.handled=none from I.ok.hd hc) s.heap.objs.size p (Nat.ne_of_lt hpl) its.toArray,⟨⟨_,Heap.get?_push_size _ rfl,rfl,rfl⟩,pl.isList.at fun o e=>Heap.get?_push_of_some _ e⟩,?_,?_⟩)
 ·intro i v s' Q' E' hv hq'
  have e:its[i]? = some v:=by simpa using hv
  rw[qU rv e]
  exact wpAny_truthy_bool hq'
 ·intro h' tk hk
  have f0:=I.uA (Nat.le_refl s.heap.objs.size) (I.hok.fresh (Nat.le_refl _))
  have I2:Inv X pins σ H { s with heap:=s.heap.push { cls:=.type "list_iterator",data:=.fields #[.ref p,rawInt 0] } }:=I.kept (t':=s.toks) fun b o e=>Heap.get?_push_of_some _ e
  have I3:=I2.turned (h':=h') (t':=tk) (it:=s.heap.objs.size) (fun b o hb e=>hk b o (by simpa using hb) e) f0.1 f0.2.1 f0.2.2.2.1 f0.2.2.2.2.1 f0.2.2.2.2.2
  refine⟨.bl (bs.any id),H,I3,?_,q⟩
  show Value.bool _=Value.bool _
  rw[List.size_toArray,←hlen,any_range]
theorem C8 (K:W.Frag) (h:X.K=K) (hc:X.calm=true):cY X (.builtin "any") (Zx K):=by subst h;exact OU hc
end
inductive xC (K:W.Frag) (H:Hp):Nat→V→V→Bool→Prop where
 | flat {n:Nat}{x y:V}:fk x=true→fk y=true→xC K H n x y (Ac x y)
 | same {n:Nat}{a:Addr}:xC K H n (.ref a) (.ref a) true
 | tup {n:Nat}{a b:Addr}{xs ys:List V}{e:Nat→Bool}:a≠b→aV K H a xs→aV K H b ys→(∀(j:Nat) x y,xs[j]? = some x→ys[j]? = some y→xC K H n x y (e j))→xC K H (n+1) (.ref a) (.ref b) ((List.range (min xs.length ys.length)).all e && xs.length == ys.length)
 | lst {n:Nat}{a b:Addr}{xs ys:List V}{e:Nat→Bool}:a≠b→aU K H a xs→aU K H b ys→xs.length=ys.length→(∀(j:Nat) x y,xs[j]? = some x→ys[j]? = some y→xC K H n x y (e j))→xC K H (n+1) (.ref a) (.ref b) ((List.range xs.length).all e)
 | len {n:Nat}{a b:Addr}{xs ys:List V}:a≠b→aU K H a xs→aU K H b ys→xs.length≠ys.length→xC K H (n+1) (.ref a) (.ref b) false
section
variable {X:Cx}{pins:List (Addr×Obj)}{σ:St}{H:Hp}{s:Shared}
theorem lN {A:Around}{e:Nat→Bool}{xs ys:List V}{us ws:List Value} (r1:Vals xs us) (r2:Vals ys ws) (h:∀(j:Nat) x y u w,xs[j]? = some x→ys[j]? = some y→RelV x u→RelV y w→SeqAt.EqAt A s u w (e j)) (j:Nat) (h1:j < us.toArray.size) (h2:j < ws.toArray.size) :
  SeqAt.EqAt A s us.toArray[j] ws.toArray[j] (e j):=by
 have hl1:=r1.length
 have hl2:=r2.length
 have hj1:j < xs.length:=by rw[hl1];simpa using h1
 have hj2:j < ys.length:=by rw[hl2];simpa using h2
 obtain⟨u,eu,ru⟩:=r1.get (i:=j) (x:=xs[j]) (by simp[hj1])
 obtain⟨w,ew,rw'⟩:=r2.get (i:=j) (x:=ys[j]) (by simp[hj2])
 have e1:us.toArray[j]=u:=by
  obtain⟨_,q⟩:=List.getElem?_eq_some_iff.mp eu
  simpa using q
 have e2:ws.toArray[j]=w:=by
  obtain⟨_,q⟩:=List.getElem?_eq_some_iff.mp ew
  simpa using q
 rw[e1,e2]
 exact h j _ _ u w (by simp[hj1]) (by simp[hj2]) ru rw'
theorem vz (I:Inv X pins σ H s) {n:Nat}{x y:V}{b:Bool} (h:xC X.K H n x y b):∀{A:Around}{u v:Value},A.units+n < cLine→RelV x u→RelV y v→SeqAt.EqAt A s u v b:=by
 induction h with
 | flat f1 f2=>intro A u v _ ru rv;exact IP ru rv f1 f2
 | same=>intro A u v _ ru rv;cases ru;cases rv;exact SeqAt.EqAt.same _
 | @tup n a b xs ys e ne ha hb _ ih =>
  intro A u v hu ru rv
  cases ru;cases rv
  obtain⟨its,r1,p1,_⟩:=I.tuple ha
  obtain⟨its2,r2,p2,_⟩:=I.tuple hb
  refine SeqAt.EqAt.of_refs ne ?_
  have q:=SeqAt.RcAt.tuples (A:=A) (e:=e) p1 p2 (by omega) fun j h1 h2=>lN r1 r2 (fun j x y u w ex ey ru rw'=>ih j x y ex ey (by show A.units+1+n < cLine;omega) ru rw') j h1 h2
  rw[List.size_toArray,List.size_toArray,←r1.length,←r2.length] at q
  exact q
 | @lst n a b xs ys e ne ha hb hl _ ih =>
  intro A u v hu ru rv
  cases ru;cases rv
  obtain⟨its,r1,p1,_⟩:=I.list ha
  obtain⟨its2,r2,p2,_⟩:=I.list hb
  refine SeqAt.EqAt.of_refs ne ?_
  have q:=SeqAt.RcAt.lists (A:=A) (e:=e) p1.isList p2.isList (by rw[List.size_toArray,List.size_toArray,←r1.length,←r2.length,hl]) (by omega) fun j h1 h2=>lN r1 r2 (fun j x y u w ex ey ru rw'=>ih j x y ex ey (by show A.units+1+n < cLine;omega) ru rw') j h1 h2
  rw[List.size_toArray,←r1.length] at q
  exact q
 | @len n a b xs ys ne ha hb hl =>
  intro A u v hu ru rv
  cases ru;cases rv
  obtain⟨its,r1,p1,_⟩:=I.list ha
  obtain⟨its2,r2,p2,_⟩:=I.list hb
  refine SeqAt.EqAt.of_refs ne ?_
  exact SeqAt.RcAt.lists_lengths (A:=A) p1.isList p2.isList (by rw[List.size_toArray,List.size_toArray,←r1.length,←r2.length];simpa using hl) (by omega)
end
section
variable {X:Cx}
inductive TopC (K:W.Frag) (H:Hp):V→V→Bool→Prop where
 | tup {n:Nat}{a b:Addr}{xs ys:List V}{e:Nat→Bool}:n≤50→aV K H a xs→aV K H b ys→(∀(j:Nat) x y,xs[j]? = some x→ys[j]? = some y→xC K H n x y (e j))→TopC K H (.ref a) (.ref b) ((List.range (min xs.length ys.length)).all e && xs.length == ys.length)
 | lst {n:Nat}{a b:Addr}{xs ys:List V}{e:Nat→Bool}:n≤50→aU K H a xs→aU K H b ys→xs.length=ys.length→(∀(j:Nat) x y,xs[j]? = some x→ys[j]? = some y→xC K H n x y (e j))→TopC K H (.ref a) (.ref b) ((List.range xs.length).all e)
 | len {a b:Addr}{xs ys:List V}:aU K H a xs→aU K H b ys→xs.length≠ys.length→TopC K H (.ref a) (.ref b) false
def Zy (K:W.Frag):R2:=fun x y H Q=>∃ b,TopC K H x y b∧Q (.bl b) H
def Zz (K:W.Frag):R2:=fun x y H Q=>∃ b,TopC K H x y b∧Q (.bl (!b)) H
theorem Vh (K:W.Frag) (hK:X.K=K) (hu:X.A.units+64 < cLine):lT X (compareOp .Eq) (Zy K):=by
 subst hK
 intro pins s σ H x y v u Q I rx ry h
 obtain⟨b,hk,q⟩:=h
 cases hk with
 | @tup n a b xs ys e hn ha hb hs =>
  cases rx;cases ry
  obtain⟨its,r1,p1,_⟩:=I.tuple ha
  obtain⟨its2,r2,p2,_⟩:=I.tuple hb
  refine SeqAt.eq_tupleAt (e:=e) p1 p2 (by omega) (fun j h1 h2=>lN r1 r2 (fun j x y u w ex ey ru rw'=>vz I (hs j x y ex ey) (by show X.A.units+1+n < cLine;omega) ru rw') j h1 h2) ⟨.bl _,H,I,?_,q⟩
  show Value.bool _=Value.bool _
  rw[List.size_toArray,List.size_toArray,←r1.length,←r2.length]
 | @lst n a b xs ys e hn ha hb hl hs =>
  cases rx;cases ry
  obtain⟨its,r1,p1,_⟩:=I.list ha
  obtain⟨its2,r2,p2,_⟩:=I.list hb
  refine SeqAt.eq_listAt (e:=e) p1.isList p2.isList (by rw[List.size_toArray,List.size_toArray,←r1.length,←r2.length,hl]) (by omega) (fun j h1 h2=>lN r1 r2 (fun j x y u w ex ey ru rw'=>vz I (hs j x y ex ey) (by show X.A.units+1+n < cLine;omega) ru rw') j h1 h2) ⟨.bl _,H,I,?_,q⟩
  show Value.bool _=Value.bool _
  rw[List.size_toArray,←r1.length]
 | @len a b xs ys ha hb hl =>
  cases rx;cases ry
  obtain⟨its,r1,p1,_⟩:=I.list ha
  obtain⟨its2,r2,p2,_⟩:=I.list hb
  show wpAny _ _ (richCompare .Eq (.ref a) (.ref b)) _ _ _
  exact SeqAt.RcAt.lists_lengths p1.isList p2.isList (by rw[List.size_toArray,List.size_toArray,←r1.length,←r2.length];simpa using hl) (by omega) _ _ _ _ ⟨.bl false,H,I,rfl,q⟩
theorem Vi (K:W.Frag) (hK:X.K=K) (hu:X.A.units+64 < cLine):lT X (compareOp .NotEq) (Zz K):=by
 subst hK
 intro pins s σ H x y v u Q I rx ry h
 obtain⟨b,hk,q⟩:=h
 cases hk with
 | @tup n a b xs ys e hn ha hb hs =>
  cases rx;cases ry
  show wpAny _ _ (richCompare .NotEq (.ref a) (.ref b)) _ _ _
  obtain⟨its,r1,p1,_⟩:=I.tuple ha
  obtain⟨its2,r2,p2,_⟩:=I.tuple hb
  refine SeqAt.RcNeAt.tuples (e:=e) p1 p2 (by omega) (fun j h1 h2=>lN r1 r2 (fun j x y u w ex ey ru rw'=>vz I (hs j x y ex ey) (by show X.A.units+1+n < cLine;omega) ru rw') j h1 h2) _ _ _ _ ⟨.bl _,H,I,?_,q⟩
  show Value.bool _=Value.bool _
  rw[List.size_toArray,List.size_toArray,←r1.length,←r2.length]
 | @lst n a b xs ys e hn ha hb hl hs =>
  cases rx;cases ry
  show wpAny _ _ (richCompare .NotEq (.ref a) (.ref b)) _ _ _
  obtain⟨its,r1,p1,_⟩:=I.list ha
  obtain⟨its2,r2,p2,_⟩:=I.list hb
  refine SeqAt.RcNeAt.lists (e:=e) p1.isList p2.isList (by rw[List.size_toArray,List.size_toArray,←r1.length,←r2.length,hl]) (by omega) (fun j h1 h2=>lN r1 r2 (fun j x y u w ex ey ru rw'=>vz I (hs j x y ex ey) (by show X.A.units+1+n < cLine;omega) ru rw') j h1 h2) _ _ _ _ ⟨.bl _,H,I,?_,q⟩
  show Value.bool _=Value.bool _
  rw[List.size_toArray,←r1.length]
 | @len a b xs ys ha hb hl =>
  cases rx;cases ry
  obtain⟨its,r1,p1,_⟩:=I.list ha
  obtain⟨its2,r2,p2,_⟩:=I.list hb
  show wpAny _ _ (richCompare .NotEq (.ref a) (.ref b)) _ _ _
  exact SeqAt.RcNeAt.lists_lengths p1.isList p2.isList (by rw[List.size_toArray,List.size_toArray,←r1.length,←r2.length];simpa using hl) (by omega) _ _ _ _ ⟨.bl true,H,I,rfl,q⟩
end
structure kP (prog:Program) (w:World) (K:Type) [DecidableEq K] where
 is:Heap→K→Value→Prop
 hash:K→Int
 draws:K→Nat
 dG:Nat
 inj:∀{h:Heap}{v:Value}{x y:K},is h x v→is h y v→x=y
 keeps:∀{h h':Heap}{k:K}{v:Value}{d:Addr}{o:Obj}{es ep},is h k v→h.get? d=some o→o.data=.dict es ep→Heap.SameBut d h h'→is h' k v
 pyHash:∀{A:Around}{E:Value→Shared→Prop}{s:Shared}{k:K}{v:Value}{Q:Int→Shared→Prop},A.units+dG < cLine→is s.heap k v→Q (hash k) { s with toks:=s.toks+draws k }→wpAny (model prog w) A (PySem.pyHash v) Q E s
 eq:∀{A:Around}{s:Shared}{x y:K}{u v:Value},A.units+dG < cLine→is s.heap x u→is s.heap y v→SeqAt.EqAt A s u v (decide (x=y))
 quiet:∀{A:Around}{E:Value→Shared→Prop}{s:Shared}{k:K}{v:Value}{Q:Bool→Shared→Prop}{n:Nat},dG≤n→is s.heap k v→Q true s→wpAny (model prog w) A (eqIsQuiet n v) Q E s
section
variable {prog:Program}{w:World}{K:Type} [DecidableEq K] (V:kP prog w K)
def TupIs (h:Heap) (ks:List K) (a:Addr):Prop:=∃ o items n,h.get? a=some o∧o.cls=.type "tuple"∧o.data=.seq items n∧Paired (fun k v=>V.is h k v) ks items.toList
def Ad (ks:List K):Int:=reduceHash (Builtin.Tuple.tupleHashOf (ks.map V.hash))
variable {V}
theorem TupIs.ty {s:Shared}{ks:List K}{a:Addr} (x:TupIs V s.heap ks a):s.TypeIs (.ref a) "tuple" := by obtain⟨o,_,_,ho,hc,_⟩:=x;exact⟨o,ho,hc⟩
theorem As {h:Heap}:∀{x y:List K}{vs:List Value},Paired (fun k v=>V.is h k v) x vs→Paired (fun k v=>V.is h k v) y vs→x=y
 | _,_,_,.nil,.nil=>rfl
 | _,_,_,.cons a r,.cons b q=>by rw[V.inj a b,As r q]
theorem TupIs.inj {h:Heap}{a:Addr}{x y:List K} (hx:TupIs V h x a) (hy:TupIs V h y a):x=y:=by
 obtain⟨o,items,n,ho,_,hd,hi⟩:=hx
 obtain⟨o',items',n',ho',_,hd',hi'⟩:=hy
 rw[ho] at ho'
 cases ho'
 rw[hd] at hd'
 cases hd'
 exact As hi hi'
theorem TupIs.keeps {h h':Heap}{ks:List K}{a d:Addr}{o:Obj}{es ep} (x:TupIs V h ks a) (ho:h.get? d=some o) (hd:o.data=.dict es ep) (hs:Heap.SameBut d h h'):TupIs V h' ks a:=by
 obtain⟨o',items,n,e1,e2,e3,e4⟩:=x
 have hne:a≠d:=fun e=>by
  subst e
  rw[e1] at ho
  cases ho
  rw[hd] at e3;cases e3
 exact⟨o',items,n,(hs.2 a hne).trans e1,e2,e3,Paired.N4 e4 fun k v q=>V.keeps q ho hd hs⟩
variable {A:Around}{E:Value→Shared→Prop}{s:Shared}
theorem FZ {ks:List K}{a:Addr}{Q:Int→Shared→Prop} (hu:A.units+(V.dG+1) < cLine) (hk:TupIs V s.heap ks a) (h:Q (Ad V ks) { s with toks:=s.toks+((ks.map V.draws).sum+1) }) :
  wpAny (model prog w) A (pyHash (.ref a)) Q E s:=by
 have hT:=hk.ty
 have gi:A.units < cLine:=by omega
 obtain⟨o,items,n,ho,_,hd,hi⟩:=hk
 unfold pyHash
 first | unfold pyHashByItsType | skip
 first | refine wpAny_bind (wpAny_cRoomFor_or (.inr gi) ?_) | skip
 refine wpAny_bind (wpAny_specialOf hT F.slot_tuple_hash.lookup ?_);show wpAny _ _ (if (some (Value.builtin "tuple.__hash__") == some Value.none)=true then _ else _) Q E s
 rw[if_neg (by rw[beq_builtin_none];exact Bool.false_ne_true)];refine wpAny_bind (wpAny_specialOf hT F.slot_tuple_hash.lookup ?_)
 show wpAny _ _ (callSpecialIfBoundUnlessNone? (.ref a) "__hash__" _ >>= _) Q E s;refine wpAny_bind (wpAny_callSpecialIfBoundUnlessNone?_slot hT F.slot_tuple_hash (wpAny_call_entry F.slot_tuple_hash hT F.entry_tuple_hash ?_ (F.args_tuple_hash_1 _)))
 have hu1:A.in1.units+V.dG < cLine:=by show A.units+1+V.dG < cLine;omega
 show wpAny _ _ (Builtin.Tuple.tupleItemsOf (.ref a) >>= _) _ _ s
 refine wpAny_bind (wpAny_tupleItemsOf ho hd (wpAny_bind ?_))
 rw[←Array.forIn_toList]
 refine wpAny_forIn_list _ (fun rest (b:Array Int) s'=>∃ done left,ks=done++left∧Paired (fun k v=>V.is s.heap k v) left rest∧b.toList=done.map V.hash∧s'={ s with toks:=s.toks+(done.map V.draws).sum }) _ ?_ ?_ _ _ ⟨[],ks,rfl,hi,rfl,rfl⟩
 ·rintro x rest b s' ⟨done,left,rfl,hl,hb,rfl⟩
  cases hl with
  | @cons k _ ks' _ h1 hl' =>
   have fin:∃ d l,done++k :: ks'=d++l∧Paired (fun k v=>V.is s.heap k v) l rest∧(b.push (V.hash k)).toList=d.map V.hash∧({ s with toks:=s.toks+(done.map V.draws).sum+V.draws k }:Shared)={ s with toks:=s.toks+(d.map V.draws).sum }:=⟨done++[k],ks',by simp,hl',by simp[hb],by simp[Nat.add_assoc]⟩
   refine wpAny_bind (V.pyHash hu1 h1 ?_)
   first
    | exact wpAny_pure fin
    | exact wpAny_bind (wpAny_pure (wpAny_pure fin))
 ·rintro b s' ⟨done,left,rfl,hl,hb,rfl⟩
  cases hl
  rw[List.append_nil] at h
  show wpAny _ _ (retInt (Builtin.Tuple.tupleHashOf b.toList)) _ _ _
  rw[hb]
  refine wpAny_ret_mkInt ?_
  generalize hz:Builtin.Tuple.tupleHashOf (done.map V.hash)=z
  unfold Ad reduceHash at h
  rw[hz] at h
  show wpAny _ _ (if (decide (-(2:Int) ^ 63≤z) && decide (z < 2 ^ 63))=true then _ else _) Q E _
  by_cases hr:(decide (-(2:Int) ^ 63≤z) && decide (z < 2 ^ 63))=true
  ·rw[if_pos hr] at h ⊢
   exact wpAny_pure (by simpa [Nat.add_assoc] using h)
  ·rw[if_neg hr] at h ⊢
   exact wpAny_bind (wpAny_rule (wpAny_pure (by simpa [Nat.add_assoc] using h)))
theorem Au {x y:List K}:((List.range (min x.length y.length)).all (fun j=>decide (x[j]? = y[j]?)) && x.length == y.length)=decide (x=y):=by
 rw[Bool.eq_iff_iff,Bool.and_eq_true,List.all_eq_true,decide_eq_true_iff,beq_iff_eq]
 constructor
 ·rintro⟨q,hl⟩
  refine List.ext_getElem? fun i=>?_
  by_cases hi:i < x.length
  ·exact of_decide_eq_true (q i (List.mem_range.mpr (by omega)))
  ·rw[List.getElem?_eq_none (by omega),List.getElem?_eq_none (by omega)]
 ·rintro rfl
  exact⟨fun i _=>decide_eq_true rfl,rfl⟩
theorem lZ {F:K→Value→Prop}:∀{ks:List K}{vs:List Value},Paired F ks vs→∀(j:Nat) v,vs[j]? = some v→∃ k,ks[j]? = some k∧F k v
 | _,_,.nil,j,v,h=>by simp at h
 | _,_,.cons a r,0,v,h=>by cases h;exact⟨_,rfl,a⟩
 | _,_,.cons a r,j+1,v,h=>by
  rw[List.getElem?_cons_succ] at h
  obtain⟨k,e,q⟩:=lZ r j v h
  exact⟨k,by rw[List.getElem?_cons_succ];exact e,q⟩
theorem OV {x y:List K}{a b:Addr} (hu:A.units+(V.dG+1) < cLine) (hx:TupIs V s.heap x a) (hy:TupIs V s.heap y b):SeqAt.EqAt A s (.ref a) (.ref b) (decide (x=y)):=by
 by_cases e:a=b
 ·subst e
  rw[decide_eq_true (hx.inj hy)]
  exact SeqAt.EqAt.same _
 ·obtain⟨o,items,n,h1,h2,h3,h4⟩:=hx
  obtain⟨o',items',n',OW,h2',h3',Yk⟩:=hy
  have l1:x.length=items.size:=by rw[Paired.length h4,Array.length_toList]
  have l2:y.length=items'.size:=by rw[Paired.length Yk,Array.length_toList]
  refine SeqAt.EqAt.of_refs e ?_
  rw[←Au,l1,l2]
  refine SeqAt.RcAt.tuples ⟨o,h1,h2,n,h3⟩ ⟨o',OW,h2',n',h3'⟩ (by omega) fun j j1 j2=>?_
  obtain⟨k,ek,hk⟩:=lZ h4 j items[j] (by simp[j1])
  obtain⟨k',ek',hk'⟩:=lZ Yk j items'[j] (by simp[j2])
  rw[ek,ek',show decide (some k=some k')=decide (k=k') by simp]
  exact V.eq (by show A.units+1+V.dG < cLine;omega) hk hk'
theorem C9 {ks:List K}{a:Addr}{Q:Bool→Shared→Prop}{n:Nat} (hn:V.dG+1≤n) (hk:TupIs V s.heap ks a) (h:Q true s):wpAny (model prog w) A (eqIsQuiet n (.ref a)) Q E s:=by
 have hT:=hk.ty
 obtain⟨o,items,m,ho,_,hd,hi⟩:=hk
 obtain⟨n,rfl⟩:∃ n',n=n'+1:=⟨n - 1,by omega⟩
 unfold eqIsQuiet
 refine wpAny_bind (wpAny_specialOf hT F.slot_tuple_eq.lookup ?_);show wpAny _ _ (isInstance (.ref a) (.type "tuple") >>= _) _ _ s
 refine wpAny_bind (wpAny_isInstance hT isSubtype_tuple_tuple ?_)
 simp only[Bool.not_true,Bool.false_eq_true,if_false]
 refine wpAny_bind (wpAny_seqItems ho hd (wpAny_bind ?_))
 show wpAny _ _ (forIn items _ _) _ _ s
 rw[←Array.forIn_toList]
 refine wpAny_forIn_list _ (fun rest r s'=>r.1=none∧s'=s∧∃ l,Paired (fun k v=>V.is s.heap k v) l rest) _ ?_ ?_ _ _ ⟨rfl,rfl,ks,hi⟩
 ·rintro v rest r s' ⟨hr,rfl,l,hl⟩
  cases hl with
  | @cons k _ ks' _ h1 hl' =>
   refine wpAny_bind (V.quiet (by omega) h1 ?_)
   simp only[Bool.not_true,Bool.false_eq_true,if_false]
   exact wpAny_pure ⟨rfl,rfl,ks',hl'⟩
 ·rintro⟨r1,r2⟩ s' ⟨hr,rfl,_⟩
  simp only at hr
  subst hr
  exact wpAny_pure h
end
abbrev Lf:=Option Key
def Ga:Lf→Value→Prop
 | none,v=>v=.none
 | some k,v=>yF k v=true
section
variable {prog:Program}{w:World}{A:Around}{E:Value→Shared→Prop}{s:Shared}
theorem L8 {Q:Int→Shared→Prop} (hu:A.units < cLine) (h:Q 4238894112 { s with toks:=s.toks+1 }):wpAny (model prog w) A (pyHash .none) Q E s:=by
 have hT:s.TypeIs .none "NoneType" := rfl
 unfold pyHash
 first | unfold pyHashByItsType | skip
 first | refine wpAny_bind (wpAny_cRoomFor_or (.inr hu) ?_) | skip
 refine wpAny_bind (wpAny_specialOf hT F.slot_NoneType_hash.lookup ?_)
 show wpAny _ _ (if (some (Value.builtin "NoneType.__hash__") == some Value.none)=true then _ else _) Q E s
 rw[if_neg (by rw[beq_builtin_none];exact Bool.false_ne_true)];refine wpAny_bind (wpAny_specialOf hT F.slot_NoneType_hash.lookup ?_)
 show wpAny _ _ (callSpecialIfBoundUnlessNone? .none "__hash__" _ >>= _) Q E s
 refine wpAny_bind (wpAny_callSpecialIfBoundUnlessNone?_slot hT F.slot_NoneType_hash (wpAny_call_entry F.slot_NoneType_hash hT F.entry_NoneType_hash ?_ (F.args_NoneType_hash_1 _)))
 show wpAny _ _ (retInt 4238894112) _ _ _
 refine wpAny_ret_mkInt ?_
 show wpAny _ _ (if (decide (-(2:Int) ^ 63≤4238894112) && decide ((4238894112:Int) < 2 ^ 63))=true then _ else _) Q E _
 rw[if_pos (by decide)]
 exact wpAny_pure h
theorem nW {k:Key}{v:Value} (h:yF k v=true):(∃ i t,k=.inl i∧v=.int i t)∨∃ z t,k=.inr z∧v=.str z t:=cU h
theorem OX (prog:Program) (w:World) {v:Value}{x y:Lf} (hx:Ga x v) (hy:Ga y v):x=y:=by
 cases x with
 | none =>
  cases y with
  | none=>rfl
  | some k=>rcases nW hy with ⟨i,t,rfl,e⟩ | ⟨z,t,rfl,e⟩ <;> (rw[show v=.none from hx] at e;cases e)
 | some k =>
  cases y with
  | none=>rcases nW hx with ⟨i,t,rfl,e⟩ | ⟨z,t,rfl,e⟩ <;> (rw[show v=.none from hy] at e;cases e)
  | some k'=>rw[(pK prog w).inj v k k' hx hy]
theorem T3 {x y:Lf}{u v:Value} (hx:Ga x u) (hy:Ga y v):SeqAt.EqAt A s u v (decide (x=y)):=by
 cases x with
 | none =>
  have hx:u=.none:=hx
  subst hx
  cases y with
  | none =>
   have hy:v=.none:=hy
   subst hy
   rw[decide_eq_true rfl];exact SeqAt.EqAt.same _
  | some k =>
   rw[decide_eq_false (by simp)]
   rcases nW hy with ⟨i,t,rfl,rfl⟩ | ⟨z,t,rfl,rfl⟩
   ·exact SeqAt.EqAt.none_int _ _
   ·exact SeqAt.EqAt.none_str _ _
 | some k =>
  cases y with
  | none =>
   have hy:v=.none:=hy
   subst hy
   rw[decide_eq_false (by simp)]
   rcases nW hx with ⟨i,t,rfl,rfl⟩ | ⟨z,t,rfl,rfl⟩
   ·exact SeqAt.EqAt.int_none _ _
   ·exact SeqAt.EqAt.str_none _ _
  | some k' =>
   rw[show decide (some k=some k')=decide (k=k') by simp]
   rcases nW hx with ⟨i,t,rfl,rfl⟩ | ⟨z,t,rfl,rfl⟩ <;> rcases nW hy with ⟨i',t',rfl,rfl⟩ | ⟨z',t',rfl,rfl⟩
   ·rw[NY];exact SeqAt.EqAt.int_int _ _ _ _
   ·rw[N1];exact SeqAt.EqAt.int_str _ _ _ _
   ·rw[N2];exact SeqAt.EqAt.str_int _ _ _ _
   ·rw[NZ,show decide (z=z')=(z == z') by rw[Bool.eq_iff_iff,decide_eq_true_iff,beq_iff_eq]];exact SeqAt.EqAt.str_str _ _ _ _
theorem IZ {x:Lf}{v:Value} (h:Ga x v):carriedByValue v=true:=by
 cases x with
 | none=>rw[show v=.none from h];rfl
 | some k=>rcases nW h with ⟨i,t,rfl,rfl⟩ | ⟨z,t,rfl,rfl⟩ <;> rfl
end
def OY (w:World):Lf→Int
 | none=>4238894112
 | some k=>YI w k
def Gb (prog:Program) (w:World):kP prog w Lf where
 is:=fun _ k v=>Ga k v
 hash:=OY w
 draws:=fun _=>1
 dG:=0
 inj:=fun hx hy=>OX prog w hx hy
 keeps:=fun h _ _ _=>h
 pyHash:=fun {A E s k v Q} hu h q=>by
  cases k with
  | none =>
   have h:v=.none:=h
   subst h
   exact L8 hu q
  | some k=>exact(pK prog w).pyHash h q
 eq:=fun _ hx hy=>T3 hx hy
 quiet:=fun {A E s k v Q n} _ h q=>by rw[eqIsQuiet_byValue n (IZ h)];exact wpAny_pure q
section
variable {prog:Program}{w:World}{K:Type} [DecidableEq K] (V:kP prog w K)
def Vj (h:Heap):Lf ⊕ List K→Value→Prop
 | .inl k,v=>Ga k v
 | .inr ks,v=>∃ a,v=.ref a∧TupIs V h ks a
def Vk:Lf ⊕ List K→Int
 | .inl k=>OY w k
 | .inr ks=>Ad V ks
def RN:Lf ⊕ List K→Nat
 | .inl _=>1
 | .inr ks=>(ks.map V.draws).sum+1
variable {V}
theorem OZ {k:Lf}{a:Addr} (h:Ga k (.ref a)):False:=by
 cases k with
 | none=>cases(show Value.ref a=.none from h)
 | some k=>rcases nW h with ⟨i,t,rfl,e⟩ | ⟨z,t,rfl,e⟩ <;> cases e
theorem ZA {A:Around}{s:Shared}{x y:Lf ⊕ List K}{u v:Value} (hu:A.units+(V.dG+1) < cLine) (hx:Vj V s.heap x u) (hy:Vj V s.heap y v):SeqAt.EqAt A s u v (decide (x=y)):=by
 cases x with
 | inl k =>
  cases y with
  | inl k' =>
   rw[show decide ((Sum.inl k:Lf ⊕ List K)=.inl k')=decide (k=k') by simp]
   exact T3 hx hy
  | inr ks =>
   obtain⟨a,rfl,o,items,n,h1,h2,h3,h4⟩:=hy
   rw[decide_eq_false (fun q=>nomatch q)]
   cases k with
   | none =>
    have hx:u=.none:=hx
    subst hx
    exact SeqAt.EqAt.none_tuple ⟨o,h1,h2,n,h3⟩ (by omega)
   | some k =>
    rcases nW hx with ⟨i,t,rfl,rfl⟩ | ⟨z,t,rfl,rfl⟩
    ·exact SeqAt.EqAt.int_tuple _ _ ⟨o,h1,h2,n,h3⟩ (by omega)
    ·exact SeqAt.EqAt.str_tuple _ _ ⟨o,h1,h2,n,h3⟩ (by omega)
 | inr ks =>
  obtain⟨a,rfl,hxa⟩:=hx
  cases y with
  | inl k' =>
   obtain⟨o,items,n,h1,h2,h3,h4⟩:=hxa
   rw[decide_eq_false (fun q=>nomatch q)]
   cases k' with
   | none =>
    have hy:v=.none:=hy
    subst hy
    exact SeqAt.EqAt.tuple_none ⟨o,h1,h2,n,h3⟩ (by omega)
   | some k =>
    rcases nW hy with ⟨i,t,rfl,rfl⟩ | ⟨z,t,rfl,rfl⟩
    ·exact SeqAt.EqAt.tuple_int _ _ ⟨o,h1,h2,n,h3⟩ (by omega)
    ·exact SeqAt.EqAt.tuple_str _ _ ⟨o,h1,h2,n,h3⟩ (by omega)
  | inr ks' =>
   obtain⟨b,rfl,hyb⟩:=hy
   rw[show decide ((Sum.inr ks:Lf ⊕ List K)=.inr ks')=decide (ks=ks') by simp]
   exact OV hu hxa hyb
def stepK (V:kP prog w K):kP prog w (Lf ⊕ List K) where
 is:=Vj V
 hash:=Vk V
 draws:=RN V
 dG:=V.dG+1
 inj:=fun {h v x y} hx hy=>by
  cases x with
  | inl k =>
   cases y with
   | inl k'=>rw[OX prog w hx hy]
   | inr ks=>obtain⟨a,rfl,_⟩:=hy;exact(OZ hx).elim
  | inr ks =>
   obtain⟨a,rfl,hxa⟩:=hx
   cases y with
   | inl k'=>exact(OZ hy).elim
   | inr ks'=>obtain⟨b,e,hyb⟩:=hy;cases e;rw[hxa.inj hyb]
 keeps:=fun {h h' k v d o es ep} hx ho hd hs=>by
  cases k with
  | inl k=>exact hx
  | inr ks=>obtain⟨a,rfl,hxa⟩:=hx;exact⟨a,rfl,hxa.keeps ho hd hs⟩
 pyHash:=fun {A E s k v Q} hu hx q=>by
  cases k with
  | inl k=>exact(Gb prog w).pyHash (by show A.units+0 < cLine;omega) hx q
  | inr ks=>obtain⟨a,rfl,hxa⟩:=hx;exact FZ hu hxa q
 eq:=fun hu hx hy=>ZA hu hx hy
 quiet:=fun {A E s k v Q n} hn hx q=>by
  cases k with
  | inl k=>exact(Gb prog w).quiet (Nat.zero_le _) hx q
  | inr ks=>obtain⟨a,rfl,hxa⟩:=hx;exact C9 hn hxa q
def tT (V:kP prog w K) (hl:V.dG+1≤8):HeapKind prog w (List K) where
 is:=TupIs V
 hash:=Ad V
 draws:=fun ks=>(ks.map V.draws).sum+1
 room:=fun A=>A.units+(V.dG+1) < cLine
 inj:=fun hx hy=>hx.inj hy
 keeps:=fun x ho hd hs=>x.keeps ho hd hs
 pyHash:=fun hu hk h=>FZ hu hk h
 eqBool:=fun hu hx hy h=>OV hu hx hy prog w _ _ h
 quiet:=fun hk h=>C9 hl hk h
end
section
variable {κ:Type} [DecidableEq κ]
theorem vh.xD {o:Option V}{u:Option Value} (r:vh o u):o.isSome=u.isSome:=by
 cases o with
 | none=>cases u with
  | none=>rfl
  | some _=>exact(show False from r).elim
 | some _=>cases u with
  | none=>exact(show False from r).elim
  | some _=>rfl
end
theorem ZC {P:Program}{w:World}{k:Key}{u:Value} (r:RelV (kV k) u):(pK P w).is k u=true:=by
 cases k with
 | inl i=>obtain⟨t,e⟩:=(show ∃ t,u=Value.int i t from r);subst e;exact Fx P w i t
 | inr x=>obtain⟨t,e⟩:=(show ∃ t,u=Value.str x t from r);subst e;exact Fy P w x t
section
variable {P:Program}{w:World}{H:Hp}{h:Heap}{a:Addr}
end
section
variable {X:Cx}{pins:List (Addr×Obj)}{σ:St}{H:Hp}{s:Shared}{a:Addr}{y v:V}{u r:Value}{o:Option V}{A:Around}{E:Value→Shared→Prop}
theorem Inv.big (I:Inv X pins σ H s):sysModules < s.heap.objs.size:=by
 have h:mainGlobals < s.heap.objs.size:=(I.mod.glob.keeps I.bk).lt
 exact Nat.lt_trans (by decide) h
end
section
variable {X:Cx}{pins:List (Addr×Obj)}{σ:St}{H:Hp}{s:Shared}{a:Addr}{kvs:List (Key×V)}{k:Key}{u:Value}{A:Around}{E:Value→Shared→Prop}
end
def Vl (i:Expr):Prop:=∀ ov iv,subscripted i false ov iv=operate [ov,iv] (getItem ov iv)
theorem RO {prog:Program}{w:World}{A:Around}{E:Value→Shared→Prop}{s:Shared}{env:Env}{value slice:Expr}{pos:Pos}{T id:String}{Q:Value→Shared→Prop}
  (hl:typeLookup (.type T) "__getitem__" = pure (some (.builtin id))) (hs:Vl slice)
  (h:wpAny (model prog w) A (eval value env) (fun o s₁=>wpAny (model prog w) A (eval slice env) (fun i s₂=>s₂.TypeIs o T∧wpAny (model prog w) A (getItem o i) Q E s₂) E s₁) E s) :
  wpAny (model prog w) A (eval (.Subscript value slice pos) env) Q E s:=by
 refine Subscript_ (wpAny_mono h (fun o s₁ h₁=>wpAny_mono h₁ (fun i s₂ h₂=>?_) fun _ _ x=>x) fun _ _ x=>x)
 obtain⟨hT,h₂⟩:=h₂
 unfold subscriptTail
 refine wpAny_bind ?_
 rw[getitemInPython_of_ne hT.not_modules]
 refine wpAny_bind (wpAny_specialOf hT hl ?_)
 have fin:wpAny (model prog w) A (subscripted slice false o i) (fun r s₃=>wpAny (model prog w) A (letTemporaryGo value o r >>= fun _=>pure r) Q E s₃) E s₂:=by
  rw[hs o i]
  exact wpAny_operating (wpAny_mono h₂ (fun r s₃ h₃=>wpAny_bind (wpAny_letTemporaryGo (wpAny_pure h₃))) fun _ _ x=>x)
 first
  | exact wpAny_pure (wpAny_bind fin)
  | exact wpAny_bind (wpAny_pure (wpAny_bind fin))
  | exact wpAny_bind fin
section
variable {X:Cx}{o i e value:Expr}{pos pos' tpos:Pos}{td ty tv:TE}
end
section
variable {X:Cx}{pos:Pos}
end
section
variable {X:Cx}{pins:List (Addr×Obj)}{σ:St}{H:Hp}{s:Shared}{a:Addr}{y d:V}{u r:Value}{o:Option V}{A:Around}{E:Value→Shared→Prop}
end
section
variable {X:Cx}{o e f:Expr}{apos cpos:Pos}{td ty tx:TE}
end
section
variable {X:Cx}{pins:List (Addr×Obj)}{σ:St}{H:Hp}{s:Shared}{a:Addr}{kvs:List (Key×V)}{A:Around}{E:Value→Shared→Prop}
end
section
variable {X:Cx}{pins:List (Addr×Obj)}{σ:St}{H:Hp}{s:Shared}{a:Addr}{y:V}{u:Value}{A:Around}{E:Value→Shared→Prop}
end
def lfV:Lf→V
 | none=>.non
 | some k=>kV k
theorem yJ {α β γ:Type}{F:α→β→Prop}{G:β→γ→Prop}:∀{xs:List α}{ys:List β}{zs:List γ},Paired F xs ys→Paired G ys zs→Paired (fun a c=>∃ b,F a b∧G b c) xs zs
 | _,_,_,.nil,.nil=>.nil
 | _,_,_,.cons a r,.cons b q=>.cons ⟨_,a,b⟩ (yJ r q)
section
variable {P:Program}{w:World}{K:Type} [DecidableEq K]
structure pI (F:W.Frag) (Z:kP P w K) where
 on:Hp→K→V→Prop
 ok:∀{X:Cx}{pins:List (Addr×Obj)}{σ:St}{H:Hp}{s:Shared}{k:K}{v:V}{u:Value},X.K=F→Inv X pins σ H s→RelV v u→on H k v→Z.is s.heap k u
 keep:∀{H H':Hp}{k:K}{v:V},(∀ b xs,aV F H b xs→aV F H' b xs)→on H k v→on H' k v
def sI {F:W.Frag}{Z:kP P w K} (Y:pI F Z) (H:Hp) (ks:List K) (b:Addr):Prop:=∃ vs,aV F H b vs∧Paired (fun k v=>Y.on H k v) ks vs
variable {F:W.Frag}{Z:kP P w K}{Y:pI F Z}{H H':Hp}{ks:List K}{b:Addr}
theorem sI.is {X:Cx}{pins:List (Addr×Obj)}{σ:St}{s:Shared} (hF:X.K=F) (I:Inv X pins σ H s) (e:sI Y H ks b):TupIs Z s.heap ks b:=by
 obtain⟨vs,e,r⟩:=e
 obtain⟨its,rv,⟨o,h1,h2,n,h3⟩,_⟩:=I.tuple (by rw[hF];exact e)
 exact⟨o,its.toArray,n,h1,h2,h3,by simpa using Paired.N4 (yJ r rv) (fun k u ⟨v,a,c⟩=>Y.ok hF I c a)⟩
theorem sI.keep (t:∀ b xs,aV F H b xs→aV F H' b xs) (e:sI Y H ks b):sI Y H' ks b:=by
 obtain⟨vs,e,r⟩:=e
 exact⟨vs,t _ _ e,Paired.N4 r fun k v q=>Y.keep t q⟩
theorem sI.mono (s:∀ a o,H a=some o→H' a=some o) (e:sI Y H ks b):sI Y H' ks b:=e.keep fun b xs q=>by
 rcases q with (q | ⟨o,q⟩) | q
 ·exact .inl (.inl (s _ _ q))
 ·exact .inl (.inr ⟨o,s _ _ q⟩)
 ·exact .inr q
end
def O0 (P:Program) (w:World) (F:W.Frag):pI F (Gb P w) where
 on:=fun _ k v=>v=lfV k
 ok:=fun {X pins σ H s k v u} _ _ r e=>by
  subst e
  cases k with
  | none=>cases r;rfl
  | some k=>exact ZC (P:=P) (w:=w) r
 keep:=fun _ e=>e
section
variable {P:Program}{w:World}{K:Type} [DecidableEq K]
def af2 {F:W.Frag}{Z:kP P w K} (Y:pI F Z) (H:Hp):Lf ⊕ List K→V→Prop
 | .inl k,v=>v=lfV k
 | .inr ks,v=>∃ b,v=.ref b∧sI Y H ks b
def Ge {F:W.Frag}{Z:kP P w K} (Y:pI F Z):pI F (stepK Z) where
 on:=af2 Y
 ok:=fun {X pins σ H s k v u} hF I r e=>by
  cases k with
  | inl k=>exact(O0 P w F).ok hF I r e
  | inr ks =>
   obtain⟨b,rfl,e⟩:=e
   cases r
   exact⟨b,rfl,e.is hF I⟩
 keep:=fun {H H' k v} t e=>by
  cases k with
  | inl k=>exact e
  | inr ks=>obtain⟨b,rfl,e⟩:=e;exact⟨b,rfl,e.keep t⟩
abbrev N3 (K:Type):=List K×Addr×V
abbrev xE:List (N3 K)→List (List K×Addr×Value)→Prop:=Paired fun p q=>p.1=q.1∧p.2.1=q.2.1∧RelV p.2.2 q.2.2
def yK (Z:kP P w K) (hl:Z.dG+1≤8) (a:Addr) (kvs:List (N3 K)) (h:Heap):Prop :=
 kvs.length≤sizeLine∧(a == sysModules)=false∧∃ xs,xE kvs xs∧∃ o es ep,h.get? a=some o∧o.ExactDict∧o.data=.dict es ep∧es.toList=xs.map (entryOfKey (tT Z hl))∧(xs.map (·.1)).Nodup
def dN (Z:kP P w K) (hl:Z.dG+1≤8) (a:Addr) (kvs:List (N3 K)):HO:=.ext (yK Z hl a kvs)
structure Nd {F:W.Frag}{Z:kP P w K} (Y:pI F Z) (hl:Z.dG+1≤8) (H:Hp) (a:Addr) (kvs:List (N3 K)):Prop where
 ob:H a=some (dN Z hl a kvs)
 keys:∀ e∈kvs,sI Y H e.1 e.2.1
variable {F:W.Frag}{Z:kP P w K}{Y:pI F Z}{hl:Z.dG+1≤8}{H H':Hp}{h:Heap}{a b:Addr}{kvs:List (N3 K)}
theorem Nd.mono (s:∀ a o,H a=some o→H' a=some o) (d:Nd Y hl H a kvs):Nd Y hl H' a kvs:=⟨s _ _ d.ob,fun e he=>(d.keys e he).mono s⟩
theorem Gf {xs:List (List K×Addr×Value)}:∀{kvs:List (N3 K)},xE kvs xs→∀ q∈xs,∃ p∈kvs,p.1=q.1∧p.2.1=q.2.1:=by
 intro kvs r
 induction r with
 | nil=>intro q hq;cases hq
 | cons a r ih =>
  intro q hq
  rcases List.mem_cons.mp hq with rfl | hq
  ·exact⟨_,List.mem_cons_self ..,a.1,a.2.1⟩
  ·obtain⟨p,hp,e⟩:=ih q hq
   exact⟨p,List.mem_cons_of_mem _ hp,e⟩
theorem Nd.of {X:Cx}{K:Type} [DecidableEq K] {F:W.Frag}{Z:kP X.prog X.w K}{Y:pI F Z}{hl:Z.dG+1≤8}{H:Hp}{a:Addr}{kvs:List (N3 K)}{pins:List (Addr×Obj)}{σ:St}{s:Shared} (hF:X.K=F) (I:Inv X pins σ H s) (d:Nd Y hl H a kvs):kvs.length≤sizeLine∧(a == sysModules)=false∧∃ xs,xE kvs xs∧s.heap.DictOfH (tT Z hl) a xs:=by
 obtain⟨⟨z,y,xs,r,o,es,ep,h1,h2,h3,h4,h5⟩,_⟩:=(show dS X.prog X.w H s.heap a (dN Z hl a kvs) from I.hok a _ d.ob)
 refine⟨z,y,xs,r,o,es,ep,h1,h2,h3,h4,fun x hx=>?_,h5⟩
 obtain⟨p,hp,e1,e2⟩:=Gf r x hx
 have:=(d.keys p hp).is hF I
 rw[e1,e2] at this
 exact this
theorem Lk {h':Heap}{xs:List (List K×Addr×Value)} (z:kvs.length≤sizeLine) (y:(a == sysModules)=false) (r:xE kvs xs) (dd:h'.DictOfH (tT Z hl) a xs):dS P w H h' a (dN Z hl a kvs):=by
 obtain⟨o,es,ep,h1,h2,h3,h4,_,h5⟩:=dd
 refine⟨⟨z,y,xs,r,o,es,ep,h1,h2,h3,h4,h5⟩,⟨o,h1⟩,fun g1 g2 q k=>?_⟩
 obtain⟨z,y,xs,r,o,es,ep,h1,h2,h3,h4,h5⟩:=q
 exact⟨z,y,xs,r,o,es,ep,k _ h1,h2,h3,h4,h5⟩
def valN (kvs:List (N3 K)) (k:List K):Option V:=(kvs.find? fun x=>decide (x.1=k)).map (·.2.2)
theorem qX {k:List K}:∀{kvs:List (N3 K)}{xs:List (List K×Addr×Value)},xE kvs xs→vh (valN kvs k) ((atKey xs k).map (·.2))
 | _,_,.nil=>trivial
 | p :: kvs,q :: xs,.cons a r=>by
  have ih:=qX (k:=k) r
  unfold valN atKey at ih ⊢
  rw[List.find?_cons,List.find?_cons,a.1]
  by_cases e:q.1=k
  ·rw[decide_eq_true e];exact a.2.2
  ·rw[decide_eq_false e];exact ih
def putN (kvs:List (N3 K)) (k:List K) (b:Addr) (v:V):List (N3 K):=if (valN kvs k).isSome=true then kvs.map (fun x=>if x.1=k then (x.1,x.2.1,v) else x) else kvs++[(k,b,v)]
theorem vA {k:List K}{v:V} (h:valN kvs k=none):putN kvs k b v=kvs++[(k,b,v)]:=by unfold putN;rw[h];rfl
theorem Gg {k:List K}{v:V}{u:Value} (rv:RelV v u):∀{kvs:List (N3 K)}{xs:List (List K×Addr×Value)},xE kvs xs→xE (kvs.map (fun x=>if x.1=k then (x.1,x.2.1,v) else x)) (xs.map (putAt k u))
 | _,_,.nil=>.nil
 | p :: kvs,q :: xs,.cons a r=>by
  refine .cons ?_ (Gg rv r)
  unfold putAt
  by_cases e:q.1=k
  ·rw[if_pos e,show(fun x:N3 K=>if x.1=k then (x.1,x.2.1,v) else x) p=(p.1,p.2.1,v) from if_pos (a.1.trans e)];exact⟨a.1,a.2.1,rv⟩
  ·rw[if_neg e,show(fun x:N3 K=>if x.1=k then (x.1,x.2.1,v) else x) p=p from if_neg (fun q=>e (a.1.symm.trans q))];exact a
theorem Gh {kvs':List (N3 K)}{xs':List (List K×Addr×Value)}:∀{kvs:List (N3 K)}{xs:List (List K×Addr×Value)},xE kvs xs→xE kvs' xs'→xE (kvs++kvs') (xs++xs')
 | _,_,.nil,q=>q
 | _,_,.cons a r,q=>.cons a (Gh r q)
theorem O1 {k:List K}{v:V}{u:Value}{xs:List (List K×Addr×Value)} (r:xE kvs xs) (rv:RelV v u):xE (putN kvs k b v) (storedH xs k b u):=by
 have q:=(qX (k:=k) r).xD
 rw[Option.isSome_map] at q
 unfold putN storedH
 by_cases e:(valN kvs k).isSome=true
 ·rw[if_pos e,if_pos (by rw[←q];exact e)];exact Gg rv r
 ·rw[if_neg e,if_neg (by rw[←q];exact e)];exact Gh r (.cons ⟨rfl,rfl,rv⟩ .nil)
theorem O2 {k:List K}{v:V}:(putN kvs k b v).length≤kvs.length+1:=by
 unfold putN
 split
 ·rw[List.length_map];omega
 ·rw[List.length_append];exact Nat.le_refl _
theorem uF (d:H a=some (dN Z hl a kvs)) {o:HO}:∀ c xs,aV F H c xs→aV F (upd H a o) c xs:=fun c xs e=>by
 rcases e with (e | ⟨ob,e⟩) | e
 ·exact .inl (.inl ((aC (f6 e d (fun q=>nomatch q))).trans e))
 ·exact .inl (.inr ⟨ob,(aC (f6 e d (fun q=>nomatch q))).trans e⟩)
 ·exact .inr e
theorem Nd.put {k:List K}{v:V} (d:Nd Y hl H a kvs) (e:sI Y H k b):Nd Y hl (upd H a (dN Z hl a (putN kvs k b v))) a (putN kvs k b v):=by
 refine⟨aj,fun p hp=>?_⟩
 have t:=uF (F:=F) d.ob (o:=dN Z hl a (putN kvs k b v))
 unfold putN at hp
 split at hp
 ·obtain⟨x,hx,rfl⟩:=List.mem_map.mp hp
  have:=(d.keys x hx).keep t
  split <;> exact this
 ·rcases List.mem_append.mp hp with q | q
  ·exact(d.keys p q).keep t
  ·rw[List.mem_singleton.mp q];exact e.keep t
end
section
variable {X:Cx}{K:Type} [DecidableEq K] {F:W.Frag}{Z:kP X.prog X.w K}{Y:pI F Z}{hl:Z.dG+1≤8}{pins:List (Addr×Obj)}{σ:St}{H:Hp}{s:Shared}{a b:Addr}{kvs:List (N3 K)}{k:List K}{v:V}{r:Value}{A:Around}{E:Value→Shared→Prop}
theorem Ma {Q:Value→Shared→Prop} (hu:A.units+1+(Z.dG+1) < cLine) (hF:X.K=F) (I:Inv X pins σ H s) (d:Nd Y hl H a kvs) (e:sI Y H k b) (g:valN kvs k=some v) (h:∀ w' s',Inv X pins σ H s'→RelV v w'→Q w' s'):wpAny (model X.prog X.w) A (getItem (.ref a) (.ref b)) Q E s:=by
 obtain⟨z,y,xs,rel,dd⟩:=d.of hF I
 obtain⟨w',hw,rw'⟩:=vh.some_of (v:=v) (o:=(atKey xs k).map (·.2)) (by rw[←g];exact qX rel)
 obtain⟨p,hp,hp2⟩:=Option.map_eq_some_iff.mp hw
 refine wpAny_getItem_heap (knd:=tT Z hl) hu (e.is hF I) dd hp ?_
 rw[hp2]
 exact h w' _ (I.tok _) rw'
theorem RP {Q:Value→Shared→Prop} (hu:A.units+1+(Z.dG+1) < cLine) (hF:X.K=F) (I:Inv X pins σ H s) (d:Nd Y hl H a kvs) (e:sI Y H k b) (h:∀ s',Inv X pins σ H s'→Q (.bool (!(valN kvs k).isSome)) s'):wpAny (model X.prog X.w) A (compareOp .NotIn (.ref b) (.ref a)) Q E s:=by
 obtain⟨z,y,xs,rel,dd⟩:=d.of hF I
 refine wpAny_notIn_heap (knd:=tT Z hl) hu (e.is hF I) y dd ?_
 have q:=(qX (k:=k) rel).xD
 rw[Option.isSome_map] at q
 rw[←q]
 exact h _ (I.tok _)
theorem Mb {Q:Unit→Shared→Prop} (hu:A.units+1+(Z.dG+1) < cLine) (hF:X.K=F) (I:Inv X pins σ H s) (d:Nd Y hl H a kvs) (e:sI Y H k b) (hz:kvs.length < sizeLine) (rv:RelV v r) (h:∀ s',Inv X pins σ (upd H a (dN Z hl a (putN kvs k b v))) s'→Q () s'):wpAny (model X.prog X.w) A (setItem (.ref a) (.ref b) r) Q E s:=by
 obtain⟨z,y,xs,rel,dd⟩:=d.of hF I
 have hxz:xs.length≤sizeLine:=by rw[←Paired.length rel];exact z
 refine wpAny_setItem_heap (knd:=tT Z hl) (hsz:=hxz) hu (e.is hF I) dd fun h' ZD hs=>h _ ?_
 have he:∃ q,h'.get? a=some q:=let ⟨q,_,_,hq,_⟩:=ZD;⟨q,hq⟩
 have:=O2 (kvs:=kvs) (k:=k) (b:=b) (v:=v)
 exact I.write (x:=a) (e:=a) (by rw[d.ob];exact True.intro) (.inl rfl) (fun c q hc z=>(hs.2 c hc).trans z) he (Lk (by omega) y (O1 rel rv) ZD)
variable {o i value kx:Expr}{pos pos':Pos}{td ty tv:TE}
def T4 {P:Program}{w:World}{K:Type} [DecidableEq K] {F:W.Frag}{Z:kP P w K} (Y:pI F Z) (hl:Z.dG+1≤8) (td ty:TE):TE:=fun σ H Q=>td σ H fun x H1=>ty σ H1 fun y H2=>∃ a kvs k b v,x=.ref a∧y=.ref b∧Nd Y hl H2 a kvs∧sI Y H2 k b∧valN kvs k=some v∧Q v H2
def Ll {P:Program}{w:World}{K:Type} [DecidableEq K] {F:W.Frag}{Z:kP P w K} (Y:pI F Z) (hl:Z.dG+1≤8) (ty td:TE):TE:=fun σ H Q=>ty σ H fun y H1=>td σ H1 fun x H2=>∃ a kvs k b,x=.ref a∧y=.ref b∧Nd Y hl H2 a kvs∧sI Y H2 k b∧Q (.bl (!(valN kvs k).isSome)) H2
def T5 {P:Program}{w:World}{K:Type} [DecidableEq K] {F:W.Frag}{Z:kP P w K} (Y:pI F Z) (hl:Z.dG+1≤8) (td ty tv:TE):TS:=fun D σ H=>tv σ H fun v H1=>td σ H1 fun x H2=>ty σ H2 fun y H3=>∃ a kvs k b,x=.ref a∧y=.ref b∧Nd Y hl H3 a kvs∧sI Y H3 k b∧kvs.length < sizeLine∧D.nx σ (upd H3 a (dN Z hl a (putN kvs k b v)))
def T6 {P:Program}{w:World}{K:Type} [DecidableEq K] {F:W.Frag}{Z:kP P w K} (Y:pI F Z) (hl:Z.dG+1≤8) (tk tv:TE):TE:=fun σ H Q=>∀ p,H p=none→tk σ (upd H p (dN Z hl p [])) fun y H1=>tv σ H1 fun v H2=>∃ k b,y=.ref b∧H2 p=some (dN Z hl p [])∧sI Y H2 k b∧Q (.ref p) (upd H2 p (dN Z hl p [(k,b,v)]))
theorem RQ (Y:pI F Z) (hl:Z.dG+1≤8) (hF:X.K=F) (hu:X.A.units+1+(Z.dG+1) < cLine) (ho:PE X o td) (hi:PE X i ty) (hs:Vl i):PE X (.Subscript o i pos) (T4 Y hl td ty):=by
 intro pins s σ H Q I h
 refine RO PySem.F.slot_dict_getitem.lookup hs (dj (ho pins s σ H _ I h) fun u s1 ⟨x,H1,I1,rx,q1⟩=>dj (hi pins s1 σ H1 _ I1 q1) fun iv s2 ⟨y,H2,I2,ry,a,kvs,k,b,v,ex,ey,d,e,g,q2⟩=>?_)
 subst ex ey
 obtain rfl:u=Value.ref a:=rx
 obtain rfl:iv=Value.ref b:=ry
 obtain⟨_,_,xs,_,dd⟩:=d.of hF I2
 exact⟨dd.typeIs,Ma hu hF I2 d e g fun w' s3 I3 rw'=>⟨v,H2,I3,rw',q2⟩⟩
theorem Mc (Y:pI F Z) (hl:Z.dG+1≤8) (hF:X.K=F) (hu:X.A.units+1+(Z.dG+1) < cLine) (hi:PE X i ty) (ho:PE X o td):PC X .NotIn i o (Ll Y hl ty td):=by
 intro pins s σ H Q I h
 refine dj (hi pins s σ H _ I h) fun iv s1 ⟨y,H1,I1,ry,q1⟩=>dj (ho pins s1 σ H1 _ I1 q1) fun u s2 ⟨x,H2,I2,rx,a,kvs,k,b,ex,ey,d,e,q2⟩=>?_
 subst ex ey
 obtain rfl:u=Value.ref a:=rx
 obtain rfl:iv=Value.ref b:=ry
 exact RP hu hF I2 d e fun s3 I3=>⟨.bl (!(valN kvs k).isSome),H2,I3,rfl,q2⟩
theorem RS (Y:pI F Z) (hl:Z.dG+1≤8) (hF:X.K=F) (hu:X.A.units+1+(Z.dG+1) < cLine) (ho:PE X o td) (hi:PE X i ty) (hv:PE X value tv) (hs:swapsWith value (some (.Subscript o i pos')) pos.line X.env=pure false) :
  PS X (.Assign [.Subscript o i pos'] value pos) (T5 Y hl td ty tv):=by
 intro pins s σ H D I h
 refine wpAny_Assign_Subscript (dj (hv pins s σ H _ I h) fun r s1 ⟨v,H1,I1,rv,q1⟩=>dj (ho pins s1 σ H1 _ I1 q1) fun u s2 ⟨x,H2,I2,rx,q2⟩=>dj (hi pins s2 σ H2 _ I2 q2) fun iv s3 ⟨y,H3,I3,ry,a,kvs,k,b,ex,ey,d,e,hz,q3⟩=>?_) hs
 subst ex ey
 obtain rfl:u=Value.ref a:=rx
 obtain rfl:iv=Value.ref b:=ry
 exact Mb hu hF I3 d e hz rv fun s4 I4=>⟨σ,_,I4,q3⟩
theorem O3 (Y:pI F Z) (hl:Z.dG+1≤8) (hF:X.K=F) (hu:X.A.units+(Z.dG+1) < cLine) {tk:TE} (hk:PE X kx tk) (hv:PE X value tv):PE X (.Dict [some kx] [value] pos) (T6 Y hl tk tv):=by
 intro pins s σ H Q I q
 have hn:=I.hok.fresh (Nat.le_refl s.heap.objs.size)
 have y0:(s.heap.objs.size == sysModules)=false:=beq_eq_false_iff_ne.mpr (Ne.symm (Nat.ne_of_lt I.big))
 have I1:=I.laid (a:=s.heap.objs.size) (o:=dN Z hl s.heap.objs.size []) (h':=s.heap.push { cls:=.type "dict",data:=.dict #[] }) (t':=s.toks) (fun _ _ q=>Heap.get?_push_of_some _ q) (Nat.le_refl _) (Lk (xs:=[]) (Nat.zero_le _) y0 .nil (Heap.DictOfH.new s.heap))
 refine wpAny_Dict_any rfl rfl (fun z=>nomatch z) (by show 1≤15;decide) (pairTrees_cons_walk (dj (hk pins _ σ _ _ I1 (q _ hn)) fun u s1 ⟨x,H1,I1',rx,q1⟩=>dj (hv pins s1 σ H1 _ I1' q1) fun vu s2 ⟨v,H2,I2,rv,k,b,ex,e,ek,q2⟩=>pairTrees_nil_walk ?_))
 subst ex
 obtain rfl:u=Value.ref b:=rx
 have d0:Nd Y hl H2 s.heap.objs.size []:=⟨e,fun x hx=>nomatch hx⟩
 obtain⟨z,y,xs,rel,dd⟩:=d0.of hF I2
 cases rel
 unfold storeAll
 refine wpAny_forIn_list _ (fun rest _ s'=>(rest=[(Value.ref b,vu)]∧s'=s2)∨(rest=[]∧EP X pins σ Q (Value.ref s.heap.objs.size) s')) _ ?_ ?_ _ _ (.inl ⟨rfl,rfl⟩)
 ·rintro x rest u s' (⟨e1,rfl⟩ | ⟨e1,_⟩)
  ·cases e1
   refine wpAny_bind (wpAny_dictSet_heap (knd:=tT Z hl) (hsz:=Nat.zero_le _) hu (ek.is hF I2) dd fun h' ZD hs=>wpAny_pure (.inr ⟨rfl,.ref s.heap.objs.size,_,?_,rfl,q2⟩))
   have he:∃ q,h'.get? s.heap.objs.size=some q:=let ⟨q,_,_,hq,_⟩:=ZD;⟨q,hq⟩
   exact I2.write (x:=s.heap.objs.size) (e:=s.heap.objs.size) (by rw[e];exact True.intro) (.inl rfl) (fun c q hc z=>(hs.2 c hc).trans z) he (Lk (by show 1≤sizeLine;decide) y (.cons ⟨rfl,rfl,rv⟩ .nil) ZD)
  ·cases e1
 ·rintro u s' (⟨e1,_⟩ | ⟨_,q⟩)
  ·cases e1
  ·exact q
end
section
variable {X:Cx}{K:Type} [DecidableEq K] {F:W.Frag}{Z:kP X.prog X.w K}
def af3 {P:Program}{w:World}{K:Type} [DecidableEq K] {F:W.Frag}{Z:kP P w K} (Y:pI F Z):R2:=fun x y H Q=>∃ b b' ks ks',x=.ref b∧y=.ref b'∧sI Y H ks b∧sI Y H ks' b'∧Q (.bl (decide (ks=ks'))) H
theorem O4 (Y:pI F Z) (hF:X.K=F) (hu:X.A.units+(Z.dG+1) < cLine):lT X (compareOp .Eq) (af3 Y):=by
 intro pins s σ H x y v u Q I rx ry h
 obtain⟨b,b',ks,ks',rfl,rfl,e1,e2,q⟩:=h
 cases rx;cases ry
 obtain⟨o,items,n,h1,h2,h3,h4⟩:=e1.is hF I
 obtain⟨o',items',n',OW,h2',h3',Yk⟩:=e2.is hF I
 have l1:ks.length=items.size:=by rw[Paired.length h4,Array.length_toList]
 have l2:ks'.length=items'.size:=by rw[Paired.length Yk,Array.length_toList]
 refine SeqAt.eq_tupleAt (e:=fun j=>decide (ks[j]? = ks'[j]?)) ⟨o,h1,h2,n,h3⟩ ⟨o',OW,h2',n',h3'⟩ (by omega) (fun j j1 j2=>?_) ⟨.bl (decide (ks=ks')),H,I,?_,q⟩
 ·obtain⟨k,ek,hk⟩:=lZ h4 j items[j] (by simp[j1])
  obtain⟨k',ek',hk'⟩:=lZ Yk j items'[j] (by simp[j2])
  rw[ek,ek',show decide (some k=some k')=decide (k=k') by simp]
  exact Z.eq (by show X.A.units+1+Z.dG < cLine;omega) hk hk'
 ·show Value.bool _=Value.bool _
  rw[←l1,←l2,Au]
end
abbrev ZM (P:Program) (w:World):=stepK (Gb P w)
abbrev YL (P:Program) (w:World) (F:W.Frag):=O0 P w F
abbrev YM (P:Program) (w:World) (F:W.Frag):pI F (ZM P w):=Ge (O0 P w F)
theorem hn0 {A:Around}{P:Program}{w:World} (h:A.units+64 < cLine):A.units+((Gb P w).dG+1) < cLine:=by show A.units+1 < cLine;omega
theorem hn1 {A:Around}{P:Program}{w:World} (h:A.units+64 < cLine):A.units+((ZM P w).dG+1) < cLine:=by show A.units+2 < cLine;omega
theorem hn2 {A:Around}{P:Program}{w:World} (h:A.units+64 < cLine):A.units+1+((ZM P w).dG+1) < cLine:=by show A.units+1+2 < cLine;omega
def Gi (k s:Str):List Lf:=[some (.inr k),some (.inr s)]
def vB (m:(Str×Str)×Nat):List (Lf ⊕ List Lf):=[.inr (Gi m.1.1 m.1.2),.inl (some (.inl m.2))]
theorem oG {k s k' s':Str}:Gi k s=Gi k' s'↔(k,s)=(k',s'):=by
 unfold Gi
 constructor
 ·intro h;injection h with h1 h2;injection h2 with h2 _;injection h1 with h1;injection h2 with h2;injection h1 with h1;injection h2 with h2;rw[h1,h2]
 ·intro h;injection h with h1 h2;rw[h1,h2]
theorem Dc {m m':(Str×Str)×Nat}:vB m=vB m'↔m=m':=by
 unfold vB
 constructor
 ·intro h
  injection h with h1 h2
  injection h2 with h2 _
  injection h1 with h1
  injection h2 with h2;injection h2 with h2;injection h2 with h2
  have e:=oG.mp h1
  obtain⟨⟨a,b⟩,n⟩:=m
  obtain⟨⟨a',b'⟩,n'⟩:=m'
  injection e with e1 e2
  have h2:n=n':=Int.ofNat.inj h2
  simp only at e1 e2
  rw[e1,e2,h2]
 ·rintro rfl;rfl
section
variable {P:Program}{w:World}{F:W.Frag}{H:Hp}
theorem vC {a:Addr}{k s:Str} (h:aV F H a [.str k,.str s]):sI (YL P w F) H (Gi k s) a:=⟨_,h,.cons rfl (.cons rfl .nil)⟩
theorem Ec {b s:Addr}{m:(Str×Str)×Nat} (h:aV F H b [.ref s,.int m.2]) (h2:aV F H s [.str m.1.1,.str m.1.2]):sI (YM P w F) H (vB m) b:=⟨_,h,.cons ⟨s,rfl,vC h2⟩ (.cons rfl .nil)⟩
end
section
variable {X:Cx}{P:Program}{w:World}{K:Type} [DecidableEq K] {F:W.Frag}{Z:kP P w K}{o i value kx:Expr}{pos pos':Pos}{td ty tv tk:TE}
theorem Gj (Y:pI F Z) (hl:Z.dG+1≤8) (hP:X.prog=P) (hw:X.w=w) (hF:X.K=F) (hu:X.A.units+1+(Z.dG+1) < cLine) (ho:PE X o td) (hi:PE X i ty) (hs:Vl i):PE X (.Subscript o i pos) (T4 Y hl td ty):=by
 subst hP hw;exact RQ Y hl hF hu ho hi hs
theorem Av (Y:pI F Z) (hl:Z.dG+1≤8) (hP:X.prog=P) (hw:X.w=w) (hF:X.K=F) (hu:X.A.units+1+(Z.dG+1) < cLine) (hi:PE X i ty) (ho:PE X o td):PC X .NotIn i o (Ll Y hl ty td):=by
 subst hP hw;exact Mc Y hl hF hu hi ho
theorem Gk (Y:pI F Z) (hl:Z.dG+1≤8) (hP:X.prog=P) (hw:X.w=w) (hF:X.K=F) (hu:X.A.units+1+(Z.dG+1) < cLine) (ho:PE X o td) (hi:PE X i ty) (hv:PE X value tv) (hs:swapsWith value (some (.Subscript o i pos')) pos.line X.env=pure false) :
  PS X (.Assign [.Subscript o i pos'] value pos) (T5 Y hl td ty tv):=by
 subst hP hw;exact RS Y hl hF hu ho hi hv hs
theorem Me (Y:pI F Z) (hl:Z.dG+1≤8) (hP:X.prog=P) (hw:X.w=w) (hF:X.K=F) (hu:X.A.units+(Z.dG+1) < cLine) (hk:PE X kx tk) (hv:PE X value tv):PE X (.Dict [some kx] [value] pos) (T6 Y hl tk tv):=by
 subst hP hw;exact O3 Y hl hF hu hk hv
end
section
variable {X:Cx}
def ZE (K:W.Frag):R2:=fun x y H Q=>((x=.non∧∃ a xs,y=.ref a∧aU K H a xs)∨(y=.non∧∃ a xs,x=.ref a∧aU K H a xs))∧Q (.bl true) H
theorem Vm (K:W.Frag) (hK:X.K=K) (hu:X.A.units < cLine):lT X (compareOp .NotEq) (ZE K):=by
 subst hK
 intro pins s σ H x y v u Q I rx ry h
 obtain⟨h,q⟩:=h
 rcases h with ⟨rfl,a,xs,rfl,ha⟩ | ⟨rfl,a,xs,rfl,ha⟩
 ·cases rx;cases ry
  obtain⟨its,r1,p1,_⟩:=I.list ha
  show wpAny _ _ (richCompare .NotEq .none (.ref a)) _ _ _
  exact SeqAt.RcNeAt.none_list p1.isList hu _ _ _ _ ⟨.bl true,H,I,rfl,q⟩
 ·cases rx;cases ry
  obtain⟨its,r1,p1,_⟩:=I.list ha
  show wpAny _ _ (richCompare .NotEq (.ref a) .none) _ _ _
  exact SeqAt.RcNeAt.list_none p1.isList hu _ _ _ _ ⟨.bl true,H,I,rfl,q⟩
theorem O5:lT X (compareOp .Is) (fun x y H Q=>∃ a b,x=.bl a∧y=.bl b∧Q (.bl (a == b)) H):=by
 intro pins s σ H x y v u Q I rx ry h
 obtain⟨a,b,rfl,rfl,q⟩:=h
 cases rx
 cases ry
 refine wpAny_is_plain (by cases a <;> cases b <;> rfl) (bG I q ?_)
 cases a <;> cases b <;> rfl
end
section
variable {X:Cx}
def ZF (K:W.Frag):R2:=fun x y H Q=>((x=.non∧∃ a xs,y=.ref a∧aU K H a xs)∨(y=.non∧∃ a xs,x=.ref a∧aU K H a xs))∧Q (.bl false) H
theorem Vn (K:W.Frag) (hK:X.K=K) (hu:X.A.units < cLine):lT X (compareOp .Eq) (ZF K):=by
 subst hK
 intro pins s σ H x y v u Q I rx ry h
 obtain⟨h,q⟩:=h
 rcases h with ⟨rfl,a,xs,rfl,ha⟩ | ⟨rfl,a,xs,rfl,ha⟩
 ·cases rx;cases ry
  obtain⟨its,r1,p1,_⟩:=I.list ha
  show wpAny _ _ (richCompare .Eq .none (.ref a)) _ _ _
  exact SeqAt.RcAt.none_list p1.isList hu _ _ _ _ ⟨.bl false,H,I,rfl,q⟩
 ·cases rx;cases ry
  obtain⟨its,r1,p1,_⟩:=I.list ha
  show wpAny _ _ (richCompare .Eq (.ref a) .none) _ _ _
  exact SeqAt.RcAt.list_none p1.isList hu _ _ _ _ ⟨.bl false,H,I,rfl,q⟩
end
section
variable {X:Cx}{K:Type} [DecidableEq K] {F:W.Frag}{Z:kP X.prog X.w K}
end
section
variable {prog:Program}{w:World}{A:Around}{E:Value→Shared→Prop}{s:Shared}
theorem zg {R:Result→Shared→Prop} (hh:A.handled=none) {I l:Addr}{items:List Value} (hne:l≠I) (hit:s.heap.IsRevIter I l ((items.toArray.size:Int) - 1)) (hl:s.heap.IsList l items.toArray) (hn:items.toArray.size≤sizeLine)
  (hR:∀ h' tk acc' c',(∀ b o,b≠I→s.heap.get? b=some o→h'.get? b=some o)→h'.get? s.heap.objs.size=some { cls:=.type "list",dict:=none,data:=.seq acc' c',slots:=#[] }→acc'.toList=items.reverse→R (.ok (.ret (.ref s.heap.objs.size))) { s with heap:=h',toks:=tk }) :
  codeAny (model prog w) A (.builtin "proto.collect" ⟨[.ref I],[]⟩) R s:=by
 refine codeAny_builtin F.entry_proto_collect ?_;rw[Around.under_plainId F.plain_proto_collect _]
 show wpAny _ A.in1 (newList [] >>= fun l=>again (.builtin "list.__iadd__" ⟨[l,.ref I],[]⟩)) _ _ s;refine wpAny_bind (wpAny_newObj_type ?_)
 refine wpAny_pure ⟨plainId_quiet F.plain_list_iadd _,codeAny_builtin F.entry_list_iadd ?_⟩
 rw[Around.under_plainId F.plain_list_iadd _]
 have hS:(s.heap.push { cls:=.type "list",data:=.seq #[] }).get? s.heap.objs.size=some { cls:=.type "list",data:=.seq #[] }:=Heap.get?_push_size _ rfl
 have hlt:l < s.heap.objs.size:=by obtain⟨o,ho,_⟩:=hl;exact Heap.lt_size ho
 show wpAny _ A.in1 (Builtin.List.listExtendWith (.ref s.heap.objs.size) (.ref I) (.ref s.heap.objs.size)) _ _ _
 exact IU (R:=R) (s:={ s with heap:=s.heap.push { cls:=.type "list",data:=.seq #[] } }) hh hne (hit.at fun o e=>Heap.get?_push_of_some _ e) (hl.at fun o e=>Heap.get?_push_of_some _ e) _ (Nat.ne_of_gt hlt) _ _ hS hn fun h' tk acc' c' hk hS' hacc =>
  hR h' tk acc' c' (fun b o hb e=>hk b o (Nat.ne_of_lt (Heap.lt_size e)) hb (Heap.get?_push_of_some _ e)) hS' (L0 hacc)
theorem Gm {Q:List Value→Shared→Prop} (hh:A.handled=none) {I l:Addr}{items:List Value} (hne:l≠I) (hit:s.heap.IsRevIter I l ((items.toArray.size:Int) - 1)) (hl:s.heap.IsList l items.toArray) (hn:items.toArray.size≤sizeLine)
  (hQ:∀ h' tk,(∀ b o,b≠I→s.heap.get? b=some o→h'.get? b=some o)→Q items.reverse { s with heap:=h',toks:=tk }):wpAny (model prog w) A (collect (.ref I)) Q E s:=by
 unfold collect
 refine wpAny_bind (wpAny_runValue (zg hh hne hit hl hn fun h' tk acc' c' hk hS' hacc=>?_))
 show wpAny _ A (load s.heap.objs.size >>= _) _ _ _
 refine wpAny_bind (wpAny_load hS' (wpAny_pure ?_))
 show Q acc'.toList _
 rw[hacc]
 exact hQ h' tk hk
theorem O6 {x:Str}{t:Tok}{Q:Value→Shared→Prop} (hh:A.handled=none) {I l:Addr}{items:List Value}{ys:List Str} (hne:l≠I) (hit:s.heap.IsRevIter I l ((items.toArray.size:Int) - 1)) (hl:s.heap.IsList l items.toArray) (hn:items.toArray.size≤sizeLine) (hi:StrsAre items.reverse ys) (hok:(ys.map (·.length)).sum+ys.length * x.length≤16777216)
  (hQ:∀ h' t' k,(∀ b o,b≠I→s.heap.get? b=some o→h'.get? b=some o)→Q (.str (Txt.join x ys) t') { s with heap:=h',toks:=k }):wpAny (model prog w) A (call (.builtin "str.join") [.str x t,.ref I]) Q E s:=by
 refine wpAny_call (codeAny_call_builtin F.slot_str_join.plain F.entry_str_join (F.slot_str_join.check _ _ _ _ _ _ _ _ (typeIs_str _ _ _) (F.args_str_join_2 _ _) ?_))
 rw[join_tree_other]
 refine wpAny_bind (wpAny_typeOf hit.typeIs ?_)
 show wpAny _ A.in1 ((pyIter (.ref I)).tryCatch _ >>= fun it=>collect it >>= fun items=>joinTail x items) _ _ s
 refine wpAny_bind (wpAny_tryCatch (wpAny_pyIter_revIter hit ?_))
 refine wpAny_bind (Gm (A:=A.in1) hh hne hit hl hn fun h' tk hk=>?_)
 obtain⟨lt,hv,ht⟩:=strsAre_values hi
 rw[hv]
 have ok:=joinOk_of hok
 subst ht
 unfold JoinOk at ok
 rw[Bool.not_eq_true'] at ok
 have g:Gives (joinTail x (strValues lt)) (joinMade x lt):=by
  have g0:=gives_joinTail x lt ok
  cases lt with
  | nil=>exact g0
  | cons p r=>cases r with
   | nil=>exact g0
   | cons q r'=>exact g0
 exact g prog w A (wants Q E) _ (post_join lt ⟨joinFit_length ok,fun t' k=>hQ h' t' k hk⟩)
end
section
variable {X:Cx}{e:Expr}
def Gn (K:W.Frag) (tx:TE) (ta:TA):TE:=fun σ H Q=>tx σ H fun x H0=>∃ z,x=.str z∧ta σ H0 fun vs H1=>∃ p,∃ ys:List Str,vs=[.ref p]∧aU K H1 p (ys.map V.str)∧(ys.map (·.length)).sum+ys.length * z.length≤16777216∧Q (.str (Txt.join z ys.reverse)) H1
theorem Aw:∀{its:List Value}{ys:List Str},Vals (ys.map V.str) its→StrsAre its ys
 | _,[],h=>by cases h;exact .nil
 | _,y :: ys,h=>by cases h with | cons a b=>obtain⟨t,rfl⟩:=a;exact .cons _ _ (Aw b)
theorem Ja {o:Expr}{apos p2 pos2 cpos:Pos}{tx:TE}{ta:TA} (hc:X.calm=true) (ZG:Gl X "reversed") (hm2:X.mg "reversed" = none) (hx:PE X o tx) (ha:PA X [e] ta)
  (hbase:attributeBase o "join" X.env (eval o X.env)=eval o X.env:=by rfl)
  (hfew:((backTo cpos (starEach [.Call (.Name "reversed" p2) [e] [] pos2] X.env)).all (fun x=>!x.1) && (backToKw cpos (keywordEach [] X.env)).all (fun x=>x.1.isSome)
   && decide (([.Call (.Name "reversed" p2) [e] [] pos2]:List Expr).length+([]:List Keyword).length+(if ([]:List Keyword).isEmpty then 0 else 1) < 30))=true:=by rfl)
  (hline:(apos.endLine == cpos.line)=true:=by rfl)
  (h1:starEach [.Call (.Name "reversed" p2) [e] [] pos2] X.env=[(false,eval (.Call (.Name "reversed" p2) [e] [] pos2) X.env)]:=by rfl) (h2:starEach [e] X.env=[(false,eval e X.env)]:=by rfl) :
  PE X (.Call (.Attribute o "join" apos) [.Call (.Name "reversed" p2) [e] [] pos2] [] cpos) (Gn X.K tx ta):=by
 intro pins s σ H Q I h
 refine wpAny_Call_method_late hbase hfew hline rfl (dj (hx pins s σ H _ I h) fun v s1 ⟨x,H0,I0,r0,z,hz,q0⟩=>?_)
 subst hz
 obtain⟨t1,t2⟩:=Om I0 r0 (T := "str") rfl
 refine⟨"str", "str.join",F.plainAttrs_str,F.slot_str_join,rfl,t1,t2,?_⟩
 rw[h1]
 refine Calls.callWith_builtin rfl (Calls.evalArgs_plain ?_)
 refine Calls.spliced_cons ?_
 refine wpAny_Call_Name_kw (nT I0 ZG hm2 boot_reversed ?_ (by decide) (by decide))
 refine PyProof.Rows.callWith_type1 (dj (ha pos2 pins s1 σ H0 _ I0 q0) fun us s2 ⟨vs,H1,I1,r1,q1⟩=>?_) h2 rfl
 obtain⟨p,ys,rfl,hq,hok,q⟩:=q1
 obtain⟨u,rfl,ru⟩:=vals1 r1
 cases ru
 obtain⟨its,rv,pl,hz⟩:=I1.list hq
 have hlen:=rv.length
 refine call_reversed_list pl.isList ?_
 refine Calls.spliced_nil ?_
 have hnew:s2.heap.objs.size≤s2.heap.objs.size:=Nat.le_refl _
 have I2:Inv X pins σ H1 { s2 with heap:=s2.heap.push (revObj p ((its.toArray.size:Int) - 1)) }:=I1.kept (t':=s2.toks) fun b o e=>Heap.get?_push_of_some _ e
 have hpl:p < s2.heap.objs.size:=by obtain⟨o,ho,_⟩:=pl.isList;exact Heap.lt_size ho
 have f0:=I1.uA hnew (I1.hok.fresh hnew)
 obtain⟨t0,rfl⟩:=r0
 refine O6 (s:={ s2 with heap:=s2.heap.push (revObj p ((its.toArray.size:Int) - 1)) }) (items:=its) (I.ok.hd hc) (Nat.ne_of_lt hpl) ⟨_,Heap.get?_push_size _ rfl,rfl,rfl⟩ (pl.isList.at fun o e=>Heap.get?_push_of_some _ e) (by rw[List.size_toArray];omega) (ys:=ys.reverse) (Aw (by rw[List.map_reverse];exact rv.reverse)) (by rw[List.map_reverse,List.sum_reverse,List.length_reverse];exact hok) fun h' t' tk hk=>?_
 have I4:=I2.turned (t':=tk) (h':=h') (it:=s2.heap.objs.size) hk f0.1 f0.2.1 f0.2.2.2.1 f0.2.2.2.2.1 f0.2.2.2.2.2
 exact⟨.str _,_,I4,⟨t',rfl⟩,q⟩
theorem Gp (K:W.Frag) (h:X.K=K) {o:Expr}{apos p2 pos2 cpos:Pos}{tx:TE}{ta:TA} (hc:X.calm=true) (ZG:Gl X "reversed") (hm2:X.mg "reversed" = none) (hx:PE X o tx) (ha:PA X [e] ta)
 (hbase:attributeBase o "join" X.env (eval o X.env)=eval o X.env:=by rfl)
 (hfew:((backTo cpos (starEach [.Call (.Name "reversed" p2) [e] [] pos2] X.env)).all (fun x=>!x.1) && (backToKw cpos (keywordEach [] X.env)).all (fun x=>x.1.isSome)
  && decide (([.Call (.Name "reversed" p2) [e] [] pos2]:List Expr).length+([]:List Keyword).length+(if ([]:List Keyword).isEmpty then 0 else 1) < 30))=true:=by rfl)
 (hline:(apos.endLine == cpos.line)=true:=by rfl)
 (h1:starEach [.Call (.Name "reversed" p2) [e] [] pos2] X.env=[(false,eval (.Call (.Name "reversed" p2) [e] [] pos2) X.env)]:=by rfl) (h2:starEach [e] X.env=[(false,eval e X.env)]:=by rfl) :
 PE X (.Call (.Attribute o "join" apos) [.Call (.Name "reversed" p2) [e] [] pos2] [] cpos) (Gn K tx ta):=by subst h;exact Ja hc ZG hm2 hx ha hbase hfew hline h1 h2
end
section
variable {prog:Program}{w:World}{A:Around}{E:Value→Shared→Prop}{s:Shared}{d it i ep:Nat}{od:Obj}{es:Array DictEntry}
theorem Gq {Q:Value→Shared→Prop} (nd:(d == sysModules)=false) (g:s.heap.get? d=some od) (c:od.ExactDict) (dt:od.data=.dict es ep)
  (q:Q (.ref s.heap.objs.size) { s with heap:=s.heap.push { cls:=.type "dict_keyiterator",data:=.fields #[.ref d,.int 0 0,.int es.size 0,.int ep 0] } }):wpAny (model prog w) A (pyIter (.ref d)) Q E s:=by
 have ty:s.TypeIs (.ref d) "dict" := ⟨od,g,c.1⟩
 refine wpAny_pyIter_slot ty PySem.F.slot_dict_iter (wpAny_call_entry PySem.F.slot_dict_iter ty PySem.F.entry_dict_iter ?_ (PySem.F.args_dict_iter_1 _))
 unfold Builtin.«dict.__iter__»;refine wpAny_bind ?_
 unfold Builtin.Dict.dictSlotNone;refine wpAny_bind (wpAny_notOrdered_dict ty ?_)
 show wpAny _ _ (pure (Value.ref d)) _ _ _;refine wpAny_pure ?_
 show wpAny _ _ (Builtin.Dict.showsAll d >>= _) _ _ _
 unfold Builtin.Dict.showsAll;rw[if_neg (fun z=>by rw[nd] at z;cases z)];refine wpAny_bind (wpAny_pure ?_)
 refine wpAny_bind (wpAny_dictEntries g dt (wpAny_bind (wpAny_dictEpoch g dt ?_)))
 refine wpAny_bind (wpAny_newObj_type (wpAny_pure ⟨_,rfl, "dict_keyiterator",_,⟨_,Heap.get?_push_size _ rfl,rfl⟩,PySem.F.slot_dict_keyiterator_next.lookup,?_⟩))
 simpa [rawInt] using q
theorem Gr {Q:Option Value→Shared→Prop} (Im:s.heap.IsKeyIter it d i es.size ep) (g:s.heap.get? d=some od) (dt:od.data=.dict es ep) (hi:i < es.size)
  (q:∀ h',h'.IsKeyIter it d (i+1) es.size ep→Heap.SameBut it s.heap h'→Q (some es[i].key) { s with heap:=h' }):wpAny (model prog w) A (pyNext (.ref it)) Q E s:=by
 obtain⟨o,ho,hc,hd⟩:=id Im
 unfold pyNext;refine wpAny_bind (wpAny_attempt (wpAny_callSpecial?_slot (name:=Str.ofString "__next__") Im.typeIs PySem.F.slot_dict_keyiterator_next (wpAny_call_entry PySem.F.slot_dict_keyiterator_next Im.typeIs PySem.F.entry_dict_keyiterator_next ?_ (PySem.F.args_dict_keyiterator_next_1 _))))
 refine wpAny_bind (wpAny_pure (wpAny_bind (wpAny_bind ?_)))
 first | refine wpAny_bind (wpAny_typeNameOfWhole_keyiter Im.typeIs (wpAny_pure ?_)) | refine wpAny_bind (wpAny_typeNameOf_keyiter Im.typeIs (wpAny_pure ?_))
 refine wpAny_bind (wpAny_fieldsOf ho hd ?_);simp only[(show Builtin.Dict_items.ownsTuple "dict_keyiterator" = false by decide),Bool.false_eq_true,if_false]
 show wpAny _ _ (if (Value.ref d == Value.none)=true then _ else _) _ _ _;rw[if_neg (fun z:(Value.ref d == Value.none)=true=>nomatch z)]
 refine wpAny_bind (wpAny_pure (wpAny_bind (wpAny_dictEntries g dt ?_)))
 rw[if_neg (by simp)];refine wpAny_bind (wpAny_pure (wpAny_bind (wpAny_dictEpoch g dt ?_)))
 rw[if_neg (by simp)];refine wpAny_pure ?_
 simp only[show ¬((i:Int) < 0) by omega,if_false,Int.toNat_natCast,Array.getElem?_eq_getElem hi]
 refine wpAny_bind ?_
 first | refine wpAny_bind (wpAny_typeNameOfWhole_keyiter Im.typeIs (wpAny_pure ?_)) | refine wpAny_bind (wpAny_typeNameOf_keyiter Im.typeIs (wpAny_pure ?_))
 refine wpAny_bind (wpAny_isOneOf_keyiter Im.typeIs ?_);show wpAny _ _ (setField (.ref it) 1 (rawInt ((i:Int)+1)) >>= _) _ _ _
 refine wpAny_bind (wpAny_setField ho hd (by simp) ?_)
 have it1:(s.heap.update it (Obj.mapFields (·.setIfInBounds 1 (rawInt ((i:Int)+1))))).IsKeyIter it d (i+1) es.size ep:=⟨_,Heap.get?_update_self _ ho (Obj.isFreed_of_fields (Obj.data_mapFields hd _)),(Obj.cls_mapFields ..).trans hc,by rw[Obj.data_mapFields hd];simp[rawInt]⟩
 refine wpAny_bind (wpAny_holding (wpAny_bind (wpAny_isOneOf_keyiter (s:={ s with heap:=s.heap.update it (Obj.mapFields (·.setIfInBounds 1 (rawInt ((i:Int)+1)))) }) it1.typeIs ?_)))
 show wpAny _ _ (pure es[i].key) _ _ _;exact wpAny_pure (wpAny_pure ⟨_,rfl,wpAny_pure (q _ it1 (Heap.SameBut.update ..))⟩)
theorem Lm {Q:Option Value→Shared→Prop} (hh:A.handled=none) (Im:s.heap.IsKeyIter it d i es.size ep) (g:s.heap.get? d=some od) (dt:od.data=.dict es ep) (hi:es.size≤i)
  (q:∀ h',Heap.ExtBut it s.heap h'→Q none { s with heap:=h' }):wpAny (model prog w) A (pyNext (.ref it)) Q E s:=by
 obtain⟨o,ho,hc,hd⟩:=id Im
 unfold pyNext;refine wpAny_bind (wpAny_attempt (wpAny_callSpecial?_slot (name:=Str.ofString "__next__") Im.typeIs PySem.F.slot_dict_keyiterator_next (wpAny_call_entry PySem.F.slot_dict_keyiterator_next Im.typeIs PySem.F.entry_dict_keyiterator_next ?_ (PySem.F.args_dict_keyiterator_next_1 _))))
 refine wpAny_bind (wpAny_pure (wpAny_bind (wpAny_bind ?_)))
 first | refine wpAny_bind (wpAny_typeNameOfWhole_keyiter Im.typeIs (wpAny_pure ?_)) | refine wpAny_bind (wpAny_typeNameOf_keyiter Im.typeIs (wpAny_pure ?_))
 refine wpAny_bind (wpAny_fieldsOf ho hd ?_);simp only[(show Builtin.Dict_items.ownsTuple "dict_keyiterator" = false by decide),Bool.false_eq_true,if_false]
 show wpAny _ _ (if (Value.ref d == Value.none)=true then _ else _) _ _ _;rw[if_neg (fun z:(Value.ref d == Value.none)=true=>nomatch z)]
 refine wpAny_bind (wpAny_pure (wpAny_bind (wpAny_dictEntries g dt ?_)))
 rw[if_neg (by simp)];refine wpAny_bind (wpAny_pure (wpAny_bind (wpAny_dictEpoch g dt ?_)))
 rw[if_neg (by simp)];refine wpAny_pure ?_
 simp only[show ¬((i:Int) < 0) by omega,if_false,Int.toNat_natCast,Array.getElem?_eq_none hi]
 refine wpAny_bind ?_
 first | refine wpAny_bind (wpAny_typeNameOfWhole_keyiter Im.typeIs (wpAny_pure ?_)) | refine wpAny_bind (wpAny_typeNameOf_keyiter Im.typeIs (wpAny_pure ?_))
 show wpAny _ _ (setField (.ref it) 0 .none >>= _) _ _ _;refine wpAny_bind (wpAny_setField ho hd (by simp) ?_)
 show wpAny _ _ (newExc (.type "StopIteration") [] >>= _) _ _ _;refine wpAny_bind ?_
 simp only[newExc,newTuple];refine wpAny_bind (wpAny_newObj_type ?_ (by size_fits))
 refine wpAny_bind (m:=firstArgMember _ _) (wpAny_of_eq (a:=Value.none) (by first | rfl | (simp only[firstArgMember];rfl)) (wpAny_newObj_type ?_ (by size_fits)))
 simp only[raiseNew];refine wpAny_bind (wpAny_handled ?_)
 rw[show A.in1.handled=none from hh];refine wpAny_bind (wpAny_pure (wpAny_throw ?_))
 refine wpAny_bind (wpAny_isInstance (T := "StopIteration") (b:=true) ⟨_,Heap.get?_push_size _ rfl,rfl⟩ isSubtype_stop (wpAny_pure ?_))
 exact q _ (((Heap.SameBut.update ..).extBut.push _).push _)
end
theorem Dd {α β:Type}{F:α→β→Prop}:∀{xs:List α}{ys:List β},Paired F xs ys→∀(i:Nat) x,xs[i]? = some x→∃ y,ys[i]? = some y∧F x y
 | _,_,.nil,i,x,h=>by simp at h
 | _,_,.cons a r,0,x,h=>by cases h;exact⟨_,rfl,a⟩
 | _,_,.cons a r,i+1,x,h=>Dd r i x h
section
variable {P:Program}{w:World}{K:Type} [DecidableEq K]
def dX (Z:kP P w K) (hl:Z.dG+1≤8) (a:Addr) (kvs:List (N3 K)) (o:Obj):HO:=.ext fun h=>yK Z hl a kvs h∧h.get? a=some o
def ZH (Z:kP P w K) (hl:Z.dG+1≤8) (a:Addr) (kvs:List (N3 K)) (o:Obj):It :=
 ⟨fun i H=>H a=some (dX Z hl a kvs o)∧∃ e,kvs[i]? = some e,fun i H x H'=>H'=H∧∃ e,kvs[i]? = some e∧x=.ref e.2.1,fun i H=>H a=some (dX Z hl a kvs o)∧kvs.length≤i⟩
variable {Z:kP P w K}{hl:Z.dG+1≤8}
theorem Ln {X:Cx}{K:Type} [DecidableEq K] {Z:kP X.prog X.w K}{hl:Z.dG+1≤8}{pins:List (Addr×Obj)}{σ:St}{H:Hp}{s:Shared}{a:Addr}{kvs:List (N3 K)}{o:Obj} (I:Inv X pins σ H s) (d:H a=some (dX Z hl a kvs o)):yK Z hl a kvs s.heap∧s.heap.get? a=some o :=
 (show dS X.prog X.w H s.heap a (dX Z hl a kvs o) from I.hok a _ d).1
theorem pQ {h:Heap}{a:Addr}{kvs:List (N3 K)}{o:Obj}{es:Array DictEntry}{ep:Nat} (q:yK Z hl a kvs h) (g:h.get? a=some o) (dt:o.data=.dict es ep):es.size=kvs.length∧∀(i:Nat) (hi:i < es.size) (e:N3 K),kvs[i]? = some e→es[i].key=.ref e.2.1:=by
 obtain⟨_,_,xs,r,o',es',ep',g',_,dt',he,_⟩:=q
 rw[g] at g';cases g'
 rw[dt] at dt';cases dt'
 have e1:es.size=xs.length:=size_of_entries he
 refine⟨by rw[e1];exact(Paired.length r).symm,fun i hi e h1=>?_⟩
 obtain⟨x,hx,q⟩:=Dd r i e h1
 have e2:=entry_at he i
 rw[hx,Array.getElem?_eq_getElem hi] at e2
 have e3:es[i]=entryOfKey (tT Z hl) x:=Option.some.inj e2
 rw[e3,q.2.1]
 rfl
theorem RT {Fr:W.Frag}{tg:Expr} (a it:Addr) (kvs:List (N3 K)) (o:Obj) (es:Array DictEntry) (ep:Nat) (dt:o.data=.dict es ep):Turn P w Fr tg (ZH Z hl a kvs o) [it] it (fun i h=>h.IsKeyIter it a i es.size ep) where
 mem:=by simp
 obj:=fun i h st b hb=>by
  obtain rfl:b=it:=by simpa using hb
  obtain⟨x,e,c,d⟩:=st
  exact⟨x,e,fun v z=>by rw[d] at z;cases z⟩
 keep:=fun i h h' st k=>by
  obtain⟨x,e,c,d⟩:=st
  exact⟨x,k it (by simp) x e,c,d⟩
 item:=by
  intro X hP hw hK hc i pins s σ H E I hf st hg
  subst hP hw
  obtain⟨hd,e,he⟩:=hg
  obtain⟨nd,g⟩:=Ln I hd
  obtain⟨hsz,hkey⟩:=pQ nd g dt
  obtain⟨f0,f1,f2,f3,f4,f5⟩:=hf it (by simp)
  have hi:i < es.size:=by rw[hsz];exact(List.getElem?_eq_some_iff.mp he).1
  refine Gr st g dt hi fun h' st' sb=>?_
  have I1:Inv X pins σ H { s with heap:=h' }:=I.turned (t':=s.toks) (fun b o hb e=>(sb.2 b hb).trans e) f0 f1 f3 f4 f5
  obtain⟨x,ex,cx,dx⟩:=id st'
  refine⟨_,rfl,CV (s:={ s with heap:=h' }) ex cx dx (by decide) ⟨.ref e.2.1,H,I1,?_,⟨rfl,e,he,rfl⟩,st',fun b hb=>(hf b hb).1⟩⟩
  exact hkey i hi e he
 done:=by
  intro X hP hw hK hc i pins s σ H E I hf st hg
  subst hP hw
  obtain⟨hd,he⟩:=hg
  obtain⟨nd,g⟩:=Ln I hd
  obtain⟨hsz,hkey⟩:=pQ nd g dt
  obtain⟨f0,f1,f2,f3,f4,f5⟩:=hf it (by simp)
  exact Lm (I.ok.hd hc) st g dt (by omega) fun h' eb=>⟨rfl,I.turned (t':=s.toks) (fun b o hb e=>eb b o hb e) f0 f1 f3 f4 f5⟩
 self:=fun _ _ _ _ _ st h=>wpAny_pyIter_keyiter st h
end
section
variable {X:Cx}{K:Type} [DecidableEq K] {F:W.Frag}{Z:kP X.prog X.w K}
def T7 {P:Program}{w:World}{K:Type} [DecidableEq K] {F:W.Frag}{Z:kP P w K} (Y:pI F Z) (hl:Z.dG+1≤8) (td:TE):TI:=fun σ H R=>td σ H fun x H1=>∃ a kvs,x=.ref a∧Nd Y hl H1 a kvs∧∀ o,R (ZH Z hl a kvs o) (upd H1 a (dX Z hl a kvs o))
theorem RU {tg l:Expr}{td:TE} (Y:pI F Z) (hl:Z.dG+1≤8) (hF:X.K=F) (hp:PE X l td):PI X tg l (T7 Y hl td):=by
 intro pins s σ H R I h
 refine dj (hp pins s σ H _ I h) fun v s1 ⟨x,H1,I1,r1,a,kvs,e,d,q⟩=>?_
 subst e
 cases r1
 have nd:yK Z hl a kvs s1.heap:=(show dS X.prog X.w H1 s1.heap a (dN Z hl a kvs) from I1.hok a _ d.ob).1
 obtain⟨z,y,xs,r,o,es,ep,g,c,dt,rest⟩:=id nd
 refine Gq y g c dt ?_
 have ok:dS X.prog X.w (upd H1 a (dX Z hl a kvs o)) s1.heap a (dX Z hl a kvs o):=by
  refine⟨⟨nd,g⟩,⟨o,g⟩,fun g1 g2 q k=>?_⟩
  obtain⟨⟨z,y,xs,r,o',es,ep,h1,h2,h3,h4,h5⟩,h6⟩:=q
  exact⟨⟨z,y,xs,r,o',es,ep,k _ h1,h2,h3,h4,h5⟩,k _ h6⟩
 have I2:Inv X pins σ (upd H1 a (dX Z hl a kvs o)) { s1 with heap:=s1.heap,toks:=s1.toks }:=I1.write (x:=a) (e:=a) (by rw[d.ob];exact True.intro) (.inl rfl) (fun b u _ e=>e) ⟨o,g⟩ ok
 refine⟨s1.heap.objs.size,[s1.heap.objs.size],_,_,_,rfl,I2.kept (t':=s1.toks) fun b o e=>Heap.get?_push_of_some _ e,RT a _ kvs o es ep dt,⟨_,Heap.get?_push_size _ rfl,rfl,rfl⟩,fun b hb=>?_,q o⟩
 obtain rfl:b=s1.heap.objs.size:=by simpa using hb
 exact I2.uA (Nat.le_refl _) (I2.hok.fresh (Nat.le_refl _))
end
theorem O7 {X:Cx}{P:Program}{w:World}{K:Type} [DecidableEq K] {F:W.Frag}{Z:kP P w K}{tg l:Expr}{td:TE} (Y:pI F Z) (hl:Z.dG+1≤8) (hP:X.prog=P) (hw:X.w=w) (hF:X.K=F) (hp:PE X l td):PI X tg l (T7 Y hl td):=by
 subst hP hw;exact RU Y hl hF hp
section
variable {X:Cx}
end
open PySem
theorem rdT {A B:Prop}{b:Bool} (hb:b=true) (h:A):if b=true then A else B:=by rw[if_pos hb];exact h
theorem rdF {A B:Prop}{b:Bool} (hb:b=false) (h:B):if b=true then A else B:=by rw[if_neg (by rw[hb];decide)];exact h
theorem Rc {p A B:Prop} [Decidable p] (hp:p) (h:A):if decide p=true then A else B:=rdT (decide_eq_true hp) h
theorem oH {p A B:Prop} [Decidable p] (hp:¬p) (h:B):if decide p=true then A else B:=rdF (decide_eq_false hp) h
theorem Yl {p A B:Prop} [Decidable p] (hp:p) (h:B):if (!decide p)=true then A else B:=rdF (by rw[decide_eq_true hp];rfl) h
theorem ZI {p A B:Prop} [Decidable p] (hp:¬p) (h:A):if (!decide p)=true then A else B:=rdT (by rw[decide_eq_false hp];rfl) h
theorem rdJ {A B:Prop}{a b:Int} (hp:a=b) (h:B):if (!decide (V.int a=V.int b))=true then A else B:=Yl (by rw[hp]) h
theorem rd2 {p A B:Prop} [Decidable p] (h1:p→A) (h2:¬p→B):if decide p=true then A else B:=by
 by_cases h:p
 ·exact Rc h (h1 h)
 ·exact oH h (h2 h)
theorem Ax:Manifest.owners.lookup (String.ofList ['d','e','s','r','e','v','e','r'].reverse)=some Manifest.sig_reversed:=by kernel_rfl
theorem iQ:Slot "reversed" "__next__" "reversed.__next__" :=
 .of (owner := "reversed") (n := "__next__") (by rw[typeLookup_type,builtinLookup_eq_fast];kernel_rfl) (by decide +kernel) (by decide +kernel) (by decide +kernel)
  (by first | exact .inl (by decide +kernel) | exact .inr (by decide +kernel)) (by rw[isSubtype_type];kernel_rfl)
theorem tU:entryFor table "reversed.__next__" = some Builtin.«reversed.__next__» := entryFor_of_tree (by kernel_rfl)
theorem vD (a:Value):argsOk "reversed.__next__" ⟨[a],[]⟩:=by
 unfold argsOk;rw[signature?_of (id := "reversed.__next__") (n:=['_','_','t','x','e','n','_','_']) (o:=['d','e','s','r','e','v','e','r']) (by kernel_rfl) Ax];kernel_rfl
theorem vE:Slot "reversed" "__iter__" "reversed.__iter__" :=
 .of (owner := "reversed") (n := "__iter__") (by rw[typeLookup_type,builtinLookup_eq_fast];kernel_rfl) (by decide +kernel) (by decide +kernel) (by decide +kernel)
  (by first | exact .inl (by decide +kernel) | exact .inr (by decide +kernel)) (by rw[isSubtype_type];kernel_rfl)
theorem Ed (a:Value):argsOk "reversed.__iter__" ⟨[a],[]⟩:=by
 unfold argsOk;rw[signature?_of (id := "reversed.__iter__") (n:=['_','_','r','e','t','i','_','_']) (o:=['d','e','s','r','e','v','e','r']) (by kernel_rfl) Ax];kernel_rfl
theorem BY:entryFor table "reversed.__iter__" = some Builtin.«dict_keyiterator.__iter__» :=
 entryFor_alias (id' := "dict_keyiterator.__iter__") (by kernel_rfl) (by first | rfl | decide +kernel | (unfold String.splitOn;simp +decide [String.splitOnAux])) (by decide +kernel) (by kernel_rfl)
theorem pR:Slot "reversed" "__length_hint__" "reversed.__length_hint__" :=
 .of (owner := "reversed") (n := "__length_hint__") (by rw[typeLookup_type,builtinLookup_eq_fast];kernel_rfl) (by decide +kernel) (by decide +kernel) (by decide +kernel)
  (by first | exact .inl (by decide +kernel) | exact .inr (by decide +kernel)) (by rw[isSubtype_type];kernel_rfl)
theorem BZ:entryFor table "reversed.__length_hint__" = some Builtin.«reversed.__length_hint__» := entryFor_of_tree (by kernel_rfl)
theorem Ef (a:Value):argsOk "reversed.__length_hint__" ⟨[a],[]⟩:=by
 unfold argsOk;rw[signature?_of (id := "reversed.__length_hint__") (n:=['_','_','t','n','i','h','_','h','t','g','n','e','l','_','_']) (o:=['d','e','s','r','e','v','e','r']) (by kernel_rfl) Ax];kernel_rfl
theorem Eg:Slot "reversed" "__init__" "object.__init__" :=
 .of (owner := "object") (n := "__init__") (by rw[typeLookup_type,builtinLookup_eq_fast];kernel_rfl) (by decide +kernel) (by decide +kernel) (by decide +kernel)
  (by first | exact .inl (by decide +kernel) | exact .inr (by decide +kernel)) (by rw[isSubtype_type];kernel_rfl)
theorem Mf:TypeCalled "reversed" "reversed.__new__" "object.__init__" :=
 ⟨by decide +kernel,by decide +kernel,⟨_,_,F.mro_reversed⟩,F.made_reversed,by decide +kernel,by rw[isSubtype_type];kernel_rfl,Eg⟩
theorem Eh (a b:Value):argsOk "object.__init__" ⟨[a,b],[]⟩:=by
 unfold argsOk;rw[signature?_of (id := "object.__init__") (n:=['_','_','t','i','n','i','_','_']) (o:=['t','c','e','j','b','o']) (by kernel_rfl) F.owner_object];kernel_rfl
theorem Jb:typeLookup (.type "str") "__reversed__" = pure none:=by rw[typeLookup_type,builtinLookup_eq_fast];kernel_rfl
theorem Mg:typeLookup (.type "reversed") "__len__" = pure none:=by rw[typeLookup_type,builtinLookup_eq_fast];kernel_rfl
theorem Gs:isSubtype (.type "str") (.type "dict")=pure false:=by rw[isSubtype_type];kernel_rfl
def Ay (x:Str) (t:Tok) (i:Int):Obj:={ cls:=.type "reversed",data:=.fields #[.str x t,rawInt i] }
def iR (h:Heap) (a:Addr) (x:Str) (t:Tok) (i:Int):Prop:=∃ o,h.get? a=some o∧o.cls=.type "reversed"∧o.data=.fields #[.str x t,rawInt i]
section
variable {prog:Program}{w:World}{A:Around}{E:Value→Shared→Prop}{s:Shared}
theorem iR.typeIs {a:Addr}{x:Str}{t:Tok}{i:Int} (q:iR s.heap a x t i):s.TypeIs (.ref a) "reversed" := let ⟨o,ho,hc,_⟩:=q;⟨o,ho,hc⟩
theorem iR.at {h h':Heap}{a:Addr}{x:Str}{t:Tok}{i:Int} (q:iR h a x t i) (e:∀ o,h.get? a=some o→h'.get? a=some o):iR h' a x t i:=let ⟨o,ho,r⟩:=q;⟨o,e _ ho,r⟩
theorem Vo {x:Str}{t:Tok} (hfit:¬(x.length:Int)≥2 ^ 63):Meets (Builtin.«reversed.__new__» ⟨[.type "reversed",.str x t],[]⟩)
  (fun _ R s=>R (.ok (.ret (.ref s.heap.objs.size))) { s with heap:=s.heap.push (Ay x t ((x.length:Int) - 1)),toks:=s.toks+1+1 }):=by
 refine Meets.of_wp fun prog w A R s hs=>?_
 unfold Builtin.«reversed.__new__»
 refine wpAny_bind (wpAny_of_eq (newClass_reversed _) ?_)
 try dsimp only
 refine wpAny_bind (wpAny_of_eq (a:=()) (by first | rfl | kernel_rfl) ?_)
 refine wpAny_bind (wpAny_of_eq (a:=()) (by first | rfl | kernel_rfl) ?_)
 try dsimp only
 refine wpAny_bind (wpAny_specialOf (typeIs_str _ _ _) Jb ?_)
 try dsimp only
 refine wpAny_bind ?_
 wp_delta
 refine wpAny_bind (wpAny_isInstance (T := "str") (b:=false) (typeIs_str _ _ _) Gs ?_)
 rw[if_neg (by decide)]
 refine wpAny_bind (wpAny_specialOf (typeIs_str _ _ _) F.slot_str_getitem.lookup ?_)
 dsimp only
 rw[if_pos (by decide +kernel)]
 refine wpAny_pure ?_
 rw[if_neg (by decide)]
 refine wpAny_bind (P.len_str hfit ?_)
 refine wpAny_bind (wpAny_of_eq (a:=some (x.length:Int)) rfl ?_)
 dsimp only
 refine wpAny_bind ?_
 unfold Builtin.SmallTypes.newRecord
 refine wpAny_newObj_type ?_ (by size_fits)
 exact wpAny_pure ⟨_,rfl,hs⟩
theorem B0 {x:Str}{t:Tok}{Q:Value→Shared→Prop} (hfit:¬(x.length:Int)≥2 ^ 63)
  (h:Q (.ref s.heap.objs.size) { s with heap:=s.heap.push (Ay x t ((x.length:Int) - 1)),toks:=s.toks+1+1 }):wpAny (model prog w) A (call (.type "reversed") [.str x t]) Q E s :=
 callType_new Mf (by decide +kernel) (F.typeCall_reversed_1 _) (F.newCall_reversed_1 _) (fun o=>Eh o _) F.entry_reversed_new (Vo hfit) ⟨⟨_,Heap.get?_push_size _ rfl,rfl⟩,h⟩
theorem Ei {it:Addr}{x:Str}{t:Tok}{i:Nat}{c:Nat}{Q:Option Value→Shared→Prop} (hit:iR s.heap it x t (i:Int)) (hx:x.cps[i]? = some c) (hi:(i:Int) < 2 ^ 63)
  (hQ:∀ h' tok tk,iR h' it x t ((i:Int) - 1)→Heap.SameBut it s.heap h'→Q (some (.str ⟨#[c]⟩ tok)) { s with heap:=h',toks:=tk }):wpAny (model prog w) A (pyNext (.ref it)) Q E s:=by
 obtain⟨o,ho,hc,hd⟩:=id hit
 unfold pyNext
 refine wpAny_bind (wpAny_attempt (wpAny_callSpecial?_slot (name:=Str.ofString "__next__") hit.typeIs iQ
  (wpAny_call_entry iQ hit.typeIs tU ?_ (vD _))))
 unfold Builtin.«reversed.__next__»
 refine wpAny_bind (wpAny_of_eq (a:=(Value.ref it,[])) rfl ?_)
 try dsimp only
 refine wpAny_bind (wpAny_field ho hd (x:=.str x t) rfl ?_)
 refine wpAny_bind (wpAny_field ho hd (x:=rawInt (i:Int)) rfl ?_)
 show wpAny _ _ (if (i:Int) < 0 then _ else _) _ _ s
 rw[if_neg (by omega)]
 refine wpAny_bind (wpAny_specialOf (typeIs_str _ _ _) F.slot_str_getitem.lookup ?_)
 rw[if_neg (by decide)]
 refine wpAny_bind (wpAny_mkInt ?_)
 have hlt:i < x.length:=by
  have:=(Array.getElem?_eq_some_iff.mp hx).1
  exact this
 refine wpAny_bind (wpAny_attempt (P.getItem_str (c:=c) ?_ ?_ ?_))
 ·have h1:¬((i:Int) < -(2 ^ 63:Int)):=by omega
  have h2:¬((i:Int)≥2 ^ 63):=by omega
  rw[decide_eq_false h1,decide_eq_false h2];rfl
 ·have:seqIndex? (i:Int) x.length=some i:=by
   unfold seqIndex?
   have h0:¬(i:Int) < 0:=by omega
   simp[h0,hlt]
  rw[this];exact hx
 ·dsimp only
  refine wpAny_bind (wpAny_field ho hd (x:=rawInt (i:Int)) rfl ?_)
  show wpAny _ _ (setField (.ref it) 1 (rawInt ((i:Int) - 1)) >>= _) _ _ _
  refine wpAny_bind (wpAny_setField ho hd (by simp) ?_)
  refine wpAny_pure ⟨_,rfl,wpAny_pure (hQ _ _ _ ?_ (Heap.SameBut.update ..))⟩
  exact⟨_,Heap.get?_update_self _ ho (Obj.isFreed_of_fields (Obj.data_mapFields hd _)),(Obj.cls_mapFields ..).trans hc,by
   rw[Obj.data_mapFields hd];simp⟩
theorem Gu {it:Addr}{x:Str}{t:Tok}{Q:Option Value→Shared→Prop} (hh:A.handled=none) (hit:iR s.heap it x t (-1))
  (hQ:∀ h',Heap.ExtBut it s.heap h'→Q none { s with heap:=h' }):wpAny (model prog w) A (pyNext (.ref it)) Q E s:=by
 obtain⟨o,ho,hc,hd⟩:=id hit
 unfold pyNext
 refine wpAny_bind (wpAny_attempt (wpAny_callSpecial?_slot (name:=Str.ofString "__next__") hit.typeIs iQ
  (wpAny_call_entry iQ hit.typeIs tU ?_ (vD _))))
 unfold Builtin.«reversed.__next__»
 refine wpAny_bind (wpAny_of_eq (a:=(Value.ref it,[])) rfl ?_)
 try dsimp only
 refine wpAny_bind (wpAny_field ho hd (x:=.str x t) rfl ?_)
 refine wpAny_bind (wpAny_field ho hd (x:=rawInt (-1)) rfl ?_)
 show wpAny _ _ (if (-1:Int) < 0 then _ else _) _ _ s
 rw[if_pos (by decide)]
 refine wpAny_bind (wpAny_rule ?_)
 refine wpAny_bind ?_
 wp_delta
 refine wpAny_bind (wpAny_setField ho hd (by simp) ?_)
 have ho1:=Heap.get?_update_self (Obj.mapFields fun vs=>vs.setIfInBounds 1 (rawInt (-1))) ho (Obj.isFreed_of_fields (Obj.data_mapFields hd _))
 refine wpAny_setField ho1 (Obj.data_mapFields hd _) (by simp) ?_
 refine wpAny_bind ?_
 show wpAny _ _ (newExc (.type "StopIteration") [] >>= _) _ _ _
 refine wpAny_bind ?_
 simp only[newExc,newTuple]
 refine wpAny_bind (wpAny_newObj_type ?_ (by size_fits))
 refine wpAny_bind (m:=firstArgMember _ _) (wpAny_of_eq (a:=Value.none) (by first | rfl | (simp only[firstArgMember];rfl)) ?_)
 refine wpAny_newObj_type ?_ (by size_fits)
 simp only[raiseNew]
 refine wpAny_bind (wpAny_handled ?_)
 first | rw[show A.in1.handled=none from hh] | rw[hh]
 refine wpAny_bind (wpAny_pure (wpAny_throw ?_))
 refine wpAny_bind (wpAny_isInstance (T := "StopIteration") (b:=true) ⟨_,Heap.get?_push_size _ rfl,rfl⟩ isSubtype_stop ?_)
 refine wpAny_pure (hQ _ (Heap.ExtBut.push (Heap.ExtBut.push (fun b o hb e=>?_) _) _))
 exact(Heap.get?_update_other _ _ (Ne.symm hb)).trans ((Heap.get?_update_other _ _ (Ne.symm hb)).trans e)
theorem De {it:Addr}{x:Str}{t:Tok}{i:Int}{Q:Value→Shared→Prop} (hit:iR s.heap it x t i) (h:Q (.ref it) s):wpAny (model prog w) A (pyIter (.ref it)) Q E s:=by
 refine wpAny_pyIter_slot hit.typeIs vE (wpAny_call_entry vE hit.typeIs BY ?_ (Ed _))
 show wpAny _ _ (ret (.ref it)) _ _ s
 exact wpAny_pure ⟨_,rfl, "reversed",_,hit.typeIs,iQ.lookup,h⟩
theorem Jc {prog:Program}{w:World}{A:Around} (hh:A.handled=none) (I:Addr) (x:Str) (t:Tok) (hf:(x.length:Int) < 2 ^ 63) :
  Walks prog w A I [I] [I] x.length (fun i v=>∃ c tk,x.cps[x.length - 1 - i]? = some c∧v=.str ⟨#[c]⟩ tk) (fun i h=>i≤x.length∧iR h I x t ((x.length:Int) - 1 - (i:Int))) where
 sub:=fun b hb=>hb
 frame:=fun _ _ _ q hk=>⟨q.1,q.2.at fun o e=>hk I (by simp) o e⟩
 item:=fun i s Q E hi q hQ=>by
  have e:(x.length:Int) - 1 - (i:Int)=((x.length - 1 - i:Nat):Int):=by omega
  have hit:=q.2
  rw[e] at hit
  have hlt:x.length - 1 - i < x.cps.size:=by have:x.length=x.cps.size:=rfl;omega
  have hx:x.cps[x.length - 1 - i]? = some (x.cps[x.length - 1 - i]'hlt):=Array.getElem?_eq_getElem hlt
  refine Ei hit hx (by omega) fun h' tok tk Mh hs'=>?_
  have e2:((x.length - 1 - i:Nat):Int) - 1=(x.length:Int) - 1 - ((i+1:Nat):Int):=by omega
  rw[e2] at Mh
  exact hQ _ h' tk ⟨_,_,hx,rfl⟩ ⟨hi,Mh⟩ fun b o hb eo=>hs'.extBut b o (fun h=>hb (by simp[h])) eo
 done:=fun s Q E q hQ=>by
  have e:(x.length:Int) - 1 - (x.length:Int) = -1:=by omega
  have hit:=q.2
  rw[e] at hit
  exact Gu hh hit fun h' he'=>hQ h' s.toks fun b o hb eo=>he' b o (fun h=>hb (by simp[h])) eo
 self:=fun _ _ _ _ q hQ=>De q.2 hQ
theorem Mi {I:Addr}{x:Str}{t:Tok}{Q:Bool→Shared→Prop} (hz:x.length≤sizeLine) (hit:iR s.heap I x t ((x.length:Int) - 1)) (h:∀ b tk,Q b { s with toks:=tk }):wpAny (model prog w) A (Builtin.List.listLengthHint (.ref I)) Q E s:=by
 obtain⟨o,ho,hc,hd⟩:=id hit
 unfold Builtin.List.listLengthHint
 refine wpAny_bind (wpAny_specialOf hit.typeIs Mg ?_)
 show wpAny _ _ (specialOf (Value.ref I) ("__length_hint__":Str) >>= _) _ _ _
 refine wpAny_bind (wpAny_specialOf hit.typeIs pR.lookup ?_)
 generalize hid:("reversed.__length_hint__" : String)=Zo
 wp_delta
 rw[show splitId Zo=some ("reversed", "__length_hint__") from by subst hid;decide +kernel]
 subst hid
 refine wpAny_bind (wpAny_isInstance (T := "reversed") (b:=true) hit.typeIs (by rw[isSubtype_type];kernel_rfl) ?_)
 refine wpAny_ite_split (fun hab=>absurd hab (by decide)) (fun _=>?_)
 refine wpAny_ite_split (fun hab=>absurd hab (by decide +kernel)) (fun _=>?_)
 refine wpAny_bind (wpAny_rule ?_)
 refine wpAny_bind (wpAny_of_eq (pR.bind _) ?_)
 dsimp only
 refine wpAny_bind (wpAny_attempt (wpAny_call_entry pR hit.typeIs BZ ?_ (Ef _)))
 unfold Builtin.«reversed.__length_hint__»
 refine wpAny_bind (wpAny_of_eq (a:=Value.ref I) (by first | rfl | kernel_rfl) ?_)
 refine wpAny_bind (wpAny_field ho hd (x:=.str x t) rfl ?_)
 show wpAny _ _ (if (Value.str x t == Value.none)=true then _ else _) _ _ _
 rw[if_neg (show ¬((Value.str x t == Value.none)=true) from Bool.false_ne_true)]
 have hz2:sizeLine < 2 ^ 63:=by decide +kernel
 have hz':¬(x.length:Int)≥2 ^ 63:=by omega
 refine wpAny_bind (P.len_str hz' ?_)
 refine wpAny_bind (wpAny_of_eq (a:=some (x.length:Int)) rfl ?_)
 dsimp only
 refine wpAny_bind (wpAny_field ho hd (x:=rawInt ((x.length:Int) - 1)) rfl ?_)
 show wpAny _ _ (if (x.length:Int) < (x.length:Int) - 1+1 then _ else _) _ _ _
 rw[if_neg (by omega)]
 have e1:(x.length:Int) - 1+1=x.length:=by omega
 rw[e1]
 refine wpAny_bind (wpAny_mkInt ?_)
 refine wpAny_pure ⟨_,rfl,?_⟩
 show wpAny _ _ (asInt? (.int (x.length:Int) _) >>= _) _ _ _
 have ea:∀ tk,asInt? (Value.int (x.length:Int) tk)=pure (some (x.length:Int)):=fun _=>rfl
 refine wpAny_bind ?_
 rw[ea]
 refine wpAny_pure ?_
 show wpAny _ _ (if (!Builtin.List.listFitsIndex (x.length:Int))=true then _ else _) _ _ _
 have f1:Builtin.List.listFitsIndex (x.length:Int)=true:=by
  unfold Builtin.List.listFitsIndex;rw[Bool.and_eq_true];exact⟨decide_eq_true (by omega),decide_eq_true (by omega)⟩
 have f2:Builtin.List.listTooLong (x.length:Int).toNat=false:=by
  unfold Builtin.List.listTooLong;exact decide_eq_false (by rw[Int.toNat_natCast];omega)
 rw[f1,f2,if_neg (by decide),if_neg (by omega),if_neg (by decide)]
 have hb:=h ((x.length:Int) != 0) (s.toks+1+1+1)
 exact wpAny_pure hb
theorem ZJ {S:Addr}{c:Nat}{Q:Unit→Shared→Prop} (hS:s.heap.get? S=some { cls:=.type "list",dict:=none,data:=.seq #[] c,slots:=#[] })
  (h:∀ h' c',h'.get? S=some { cls:=.type "list",dict:=none,data:=.seq #[] c',slots:=#[] }→Heap.SameBut S s.heap h'→Q () { s with heap:=h' }):wpAny (model prog w) A (Builtin.List.listTouch (.ref S)) Q E s:=by
 unfold Builtin.List.listTouch
 show wpAny _ _ (updateSeq S (·.push .none) >>= fun _=>updateSeq S (·.pop)) _ _ s
 refine wpAny_bind (wpAny_updateSeq hS rfl ?_)
 have h1:=Heap.get?_update_self (Obj.mapSeq fun xs=>xs.push Value.none) hS rfl
 refine wpAny_updateSeq h1 rfl (h _ _ (Heap.get?_update_self _ h1 rfl) ?_)
 have a:=Heap.SameBut.update (h:=s.heap) (a:=S) (Obj.mapSeq fun xs=>xs.push Value.none)
 have b:=Heap.SameBut.update (h:=s.heap.update S (Obj.mapSeq fun xs=>xs.push Value.none)) (a:=S) (Obj.mapSeq fun xs=>xs.pop)
 exact⟨b.1.trans a.1,fun c hc=>(b.2 c hc).trans (a.2 c hc)⟩
theorem Gv {R:Result→Shared→Prop} (hh:A.handled=none) {I:Addr}{x:Str}{t:Tok} (hit:iR s.heap I x t ((x.length:Int) - 1)) (S:Addr) (res:Value) (c0:Nat) (hS:s.heap.get? S=some { cls:=.type "list",dict:=none,data:=.seq #[] c0,slots:=#[] })
  (hn:x.length≤sizeLine)
  (hR:∀ h' tk acc' c',(∀ b o,b≠S→b≠I→s.heap.get? b=some o→h'.get? b=some o)→h'.get? S=some { cls:=.type "list",dict:=none,data:=.seq acc' c',slots:=#[] } →
   ItemsOf (fun i v=>∃ c tk,x.cps[x.length - 1 - i]? = some c∧v=.str ⟨#[c]⟩ tk) acc' x.length→R (.ok (.ret res)) { s with heap:=h',toks:=tk }) :
  wpAny (model prog w) A.in1 (Builtin.List.listExtendWith (.ref S) (.ref I) res)
   (fun fin s'=>match fin with | .done f=>R (.ok f) s' | .again c'=>c'.quiet=true∧codeAny (model prog w) A c' R s') (fun e s'=>R (.error e) s') s:=by
 have hSI:S≠I:=fun e=>by
  subst e
  obtain⟨o,ho,hc,_⟩:=hit
  rw[hS] at ho;cases ho
  exact absurd (show Value.type "list" = Value.type "reversed" from hc) (by decide)
 have hSf:S∉[I]:=fun hm=>hSI (List.mem_singleton.mp hm)
 have hf:(x.length:Int) < 2 ^ 63:=by
  have:sizeLine < 2 ^ 63:=by decide +kernel
  omega
 unfold Builtin.List.listExtendWith
 refine wpAny_bind (wpAny_typeOf hit.typeIs ?_)
 have h1:Builtin.List.listSameRef (.ref S) (.ref I)=false:=by simp[Builtin.List.listSameRef,hSI]
 have h2:(Value.type "reversed" == Value.type "list")=false:=by decide
 have h3:(Value.type "reversed" == Value.type "tuple")=false:=by decide
 simp only[h1,h2,h3,Bool.or_false,Bool.false_eq_true,if_false]
 refine wpAny_bind (De hit ?_)
 refine wpAny_bind (wpAny_holding (Mi hn hit fun b tk=>?_))
 have go:∀(h':Heap) (tk:Nat) (c1:Nat),h'.get? S=some { cls:=.type "list",dict:=none,data:=.seq #[] c1,slots:=#[] }→(∀ b o,b≠S→s.heap.get? b=some o→h'.get? b=some o) →
   wpAny (model prog w) A.in1 (again (.builtin "list.extend.loop" ⟨[.ref S,.ref I,res],[]⟩))
    (fun fin s'=>match fin with | .done f=>R (.ok f) s' | .again c'=>c'.quiet=true∧codeAny (model prog w) A c' R s') (fun e s'=>R (.error e) s') { s with heap:=h',toks:=tk }:=fun h' tk c1 Vp hk=>by
  refine wpAny_pure ⟨plainId_quiet F.plain_extend_loop _,codeAny_extend_loopS (Jc (prog:=prog) (w:=w) (A:=A.in1) hh I x t hf).toS hn _ hSf _ x.length 0 _ _ _ rfl (Nat.zero_le _) ⟨Nat.zero_le _,?_⟩ Vp (ItemsOf.nil _) fun s' acc' c' hm hS' hacc=>?_⟩
  ·have e0:(x.length:Int) - 1 - ((0:Nat):Int)=(x.length:Int) - 1:=by omega
   rw[e0]
   exact hit.at fun o e=>hk _ o (Ne.symm hSI) e
  ·rw[Moved.eq_with hm]
   refine hR s'.heap s'.toks acc' c' (fun b ob hb hb2 e=>hm.heap b ob (fun hmem=>?_) (hk b ob hb e)) hS' hacc
   rcases List.mem_cons.mp hmem with e' | hmem
   ·exact hb e'
   ·exact hb2 (List.mem_singleton.mp hmem)
 refine wpAny_ite_split (fun _=>?_) (fun _=>?_)
 ·refine wpAny_bind (wpAny_rule ?_)
  exact wpAny_bind (ZJ hS fun h' c' Vp hs=>go h' tk c' Vp fun b o hb e=>(hs.2 b hb).trans e)
 ·exact go s.heap tk c0 hS fun _ _ _ e=>e
theorem Az {R:Result→Shared→Prop} (hh:A.handled=none) {I:Addr}{x:Str}{t:Tok} (hit:iR s.heap I x t ((x.length:Int) - 1)) (S:Addr) (hS:s.heap.get? S=some { cls:=.type "list",data:=.seq #[] })
  (hn:x.length≤sizeLine)
  (hR:∀ h' tk acc' c',(∀ b o,b≠S→b≠I→s.heap.get? b=some o→h'.get? b=some o)→h'.get? S=some { cls:=.type "list",dict:=none,data:=.seq acc' c',slots:=#[] } →
   ItemsOf (fun i v=>∃ c tk,x.cps[x.length - 1 - i]? = some c∧v=.str ⟨#[c]⟩ tk) acc' x.length→R (.ok (.ret .none)) { s with heap:=h',toks:=tk }) :
  wpAny (model prog w) A.in1 (Builtin.«list.__init__» ⟨[.ref S,.ref I],[]⟩)
   (fun fin s'=>match fin with | .done f=>R (.ok f) s' | .again c'=>c'.quiet=true∧codeAny (model prog w) A c' R s') (fun e s'=>R (.error e) s') s:=by
 have hSI:S≠I:=fun e=>by
  subst e
  obtain⟨o,ho,hc,_⟩:=hit
  rw[hS] at ho;cases ho
  exact absurd (show Value.type "list" = Value.type "reversed" from hc) (by decide)
 show wpAny _ _ (do let old ←Builtin.List.listItems (.ref S);Builtin.List.listUpdate (.ref S) (fun _=>#[]);letGo old.toList.reverse;Builtin.List.listExtendWith (.ref S) (.ref I) .none) _ _ s
 refine wpAny_bind ?_
 unfold Builtin.List.listItems
 refine wpAny_bind (wpAny_seqItems hS rfl (wpAny_pure ?_))
 show wpAny _ _ (updateSeq S (fun _=>#[]) >>= fun _=>letGo (#[]:Array Value).toList.reverse >>= fun _=>Builtin.List.listExtendWith (.ref S) (.ref I) .none) _ _ s
 refine wpAny_bind (wpAny_updateSeq hS rfl ?_)
 have Df:=Heap.get?_update_self (Obj.mapSeq (fun _=>(#[]:Array Value))) hS rfl
 have Ym:∀ b o,b≠S→s.heap.get? b=some o→(s.heap.update S (Obj.mapSeq (fun _=>(#[]:Array Value)))).get? b=some o :=
  fun b o hb e=>(Heap.get?_update_other _ _ (Ne.symm hb)).trans e
 refine wpAny_bind (wpAny_letGo ?_)
 refine Gv hh (hit.at fun o e=>Ym _ o (Ne.symm hSI) e) S .none _ Df hn fun h' tk acc' c' hk hS' hacc=>?_
 exact hR h' tk acc' c' (fun b o hb hb2 e=>hk b o hb hb2 (Ym b o hb e)) hS' hacc
theorem AA {Q:Value→Shared→Prop} (hh:A.handled=none) {I:Addr}{x:Str}{t:Tok} (hit:iR s.heap I x t ((x.length:Int) - 1)) (hn:x.length≤sizeLine)
  (hQ:∀ h' tk acc' c',(∀ b o,b≠I→s.heap.get? b=some o→h'.get? b=some o) →
   h'.get? s.heap.objs.size=some { cls:=.type "list",dict:=none,data:=.seq acc' c',slots:=#[] }→ItemsOf (fun i v=>∃ c tk,x.cps[x.length - 1 - i]? = some c∧v=.str ⟨#[c]⟩ tk) acc' x.length→Q (.ref s.heap.objs.size) { s with heap:=h',toks:=tk }) :
  wpAny (model prog w) A (call (.type "list") [.ref I]) Q E s:=by
 refine callType_codes (Q₁:=fun obj s₁=>obj=.ref s.heap.objs.size∧s₁={ s with heap:=s.heap.push { cls:=.type "list",data:=.seq #[] } }) F.called_list (F.typeCall_list_1 _) F.entry_list_init
  (code_list_new _ ⟨rfl,rfl⟩) fun obj s₁ h₁=>?_
 obtain⟨rfl,rfl⟩:=h₁
 have hS:(s.heap.push { cls:=.type "list",data:=.seq #[] }).get? s.heap.objs.size=some { cls:=.type "list",data:=.seq #[] }:=Heap.get?_push_size _ rfl
 refine⟨⟨_,hS,rfl⟩,F.args_list_init_2 _ _,Az (A:=A.in1) hh (hit.at fun o e=>Heap.get?_push_of_some _ e) _ hS hn fun h' tk acc' c' hk hS' hacc=>?_⟩
 exact⟨rfl,hQ h' tk acc' c' (fun b o hb e=>hk b o (Nat.ne_of_lt (Heap.lt_size e)) hb (Heap.get?_push_of_some _ e)) hS' hacc⟩
end
section
variable {X:Cx}{e:Expr}{te:TE}
theorem Jd {x:Str}{acc:Array Value} (h:ItemsOf (fun i v=>∃ c tk,x.cps[x.length - 1 - i]? = some c∧v=Value.str ⟨#[c]⟩ tk) acc x.length):Vals (x.cps.toList.reverse.map fun c=>V.str (sg c)) acc.toList:=by
 have key:∀(cs:List Nat) (us:List Value),us.length=cs.length→(∀(i:Nat) (u:Value),us[i]? = some u→∃(c:Nat) (tk:Tok),cs[i]? = some c∧u=Value.str ⟨#[c]⟩ tk)→Vals (cs.map fun c=>V.str (sg c)) us:=by
  intro cs
  induction cs with
  | nil=>intro us hl _;rw[List.length_eq_zero_iff.mp hl];exact .nil
  | cons c cs ih =>
   intro us hl hp
   cases us with
   | nil=>exact absurd hl (by simp)
   | cons u us =>
    obtain⟨c',tk,hc,hu⟩:=hp 0 u rfl
    cases hc
    exact .cons ⟨tk,hu⟩ (ih us (by simpa using hl) fun i u' hi=>hp (i+1) u' hi)
 have hz:=h.1
 have hx:x.length=x.cps.toList.length:=by rw[Array.length_toList];rfl
 refine key _ _ (by rw[Array.length_toList,hz,List.length_reverse,hx]) fun i u hu=>?_
 have RV:acc[i]? = some u:=by simpa using hu
 obtain⟨c,tk,hc,rfl⟩:=h.2 i u RV
 have hi:i < x.cps.toList.length:=by
  have:=(Array.getElem?_eq_some_iff.mp RV).1
  omega
 refine⟨c,tk,?_,rfl⟩
 rw[List.getElem?_reverse hi,←hx]
 simpa using hc
def Mj (ta:TA):TE:=fun σ H Q=>ta σ H fun vs H1=>∃ x:Str,vs=[.str x]∧x.length≤sizeLine∧∀ l,H1 l=none→Q (.ref l) (upd H1 l (.lst (x.cps.toList.reverse.map fun c=>V.str (sg c))))
theorem Gw {p1 p2 pos1 pos2:Pos}{ta:TA} (hc:X.calm=true) (hg:Gl X "list") (hm:X.mg "list" = none) (ZG:Gl X "reversed") (hm2:X.mg "reversed" = none) (ha:PA X [e] ta)
  (h1:starEach [.Call (.Name "reversed" p2) [e] [] pos2] X.env=[(false,eval (.Call (.Name "reversed" p2) [e] [] pos2) X.env)]:=by rfl) (h2:starEach [e] X.env=[(false,eval e X.env)]:=by rfl) :
  PE X (.Call (.Name "list" p1) [.Call (.Name "reversed" p2) [e] [] pos2] [] pos1) (Mj ta):=by
 intro pins s σ H Q I h
 refine wpAny_Call_Name_kw (nT I hg hm boot_list ?_ (by decide) (by decide))
 refine PyProof.Rows.callWith_type1 ?_ h1 rfl
 rw[h1]
 show wpAny _ _ (spliced [(false,eval (.Call (.Name "reversed" p2) [e] [] pos2) X.env)]) _ _ s
 refine Calls.spliced_cons ?_
 refine wpAny_Call_Name_kw (nT I ZG hm2 boot_reversed ?_ (by decide) (by decide))
 refine PyProof.Rows.callWith_type1 (dj (ha pos2 pins s σ H _ I h) fun us s1 ⟨vs,H1,I1,r1,q1⟩=>?_) h2 rfl
 obtain⟨x,rfl,hz,q⟩:=q1
 obtain⟨u,rfl,tu,rfl⟩:=vals1 r1
 have hfit:¬(x.length:Int)≥2 ^ 63:=by
  have:sizeLine < 2 ^ 63:=by decide +kernel
  omega
 refine B0 hfit ?_
 refine Calls.spliced_nil ?_
 have hnew:s1.heap.objs.size≤s1.heap.objs.size:=Nat.le_refl _
 have I2:Inv X pins σ H1 { s1 with heap:=s1.heap.push (Ay x tu ((x.length:Int) - 1)),toks:=s1.toks+1+1 }:=I1.kept (t':=s1.toks+1+1) fun b o e=>Heap.get?_push_of_some _ e
 have f0:=I1.uA hnew (I1.hok.fresh hnew)
 refine AA (I.ok.hd hc) ⟨_,Heap.get?_push_size _ rfl,rfl,rfl⟩ hz fun h' tk acc' c' hk hS hacc=>?_
 have af4:=Jd hacc
 have hDn:H1 (s1.heap.objs.size+1)=none:=I1.hok.fresh (Nat.le_succ _)
 have e1:(s1.heap.push (Ay x tu ((x.length:Int) - 1))).objs.size=s1.heap.objs.size+1:=Heap.size_push ..
 have hlen:(x.cps.toList.reverse.map fun c=>V.str (sg c)).length≤sizeLine:=by rw[List.length_map,List.length_reverse,Array.length_toList];exact hz
 have I3:=I2.laid (a:=(s1.heap.push (Ay x tu ((x.length:Int) - 1))).objs.size) (o:=.lst (x.cps.toList.reverse.map fun c=>V.str (sg c))) (t':=tk)
  (h':=(s1.heap.push (Ay x tu ((x.length:Int) - 1))).push { cls:=.type "list",dict:=none,data:=.seq acc' c',slots:=#[] }) (fun b o e=>Heap.get?_push_of_some _ e) (Nat.le_refl _)
  ⟨hlen,acc'.toList,c',af4,Heap.get?_push_size _ rfl⟩
 have f1:uz X pins (upd H1 (s1.heap.push (Ay x tu ((x.length:Int) - 1))).objs.size (.lst (x.cps.toList.reverse.map fun c=>V.str (sg c)))) s1.heap.objs.size:=I1.uA hnew (by rw[aC (by rw[e1];exact Nat.ne_of_lt (Nat.lt_succ_self _))];exact f0.1)
 have I4:=I3.turned (t':=tk) (h':=h') (it:=s1.heap.objs.size) (fun b o hb e=>?_) f1.1 f1.2.1 f1.2.2.2.1 f1.2.2.2.2.1 f1.2.2.2.2.2
 ·exact⟨.ref _,_,I4,rfl,q _ (by rw[e1];exact hDn)⟩
 ·rcases Heap.get?_push_cases e with ⟨z,z2⟩ | z
  ·rw[z,z2]
   exact hS
  ·exact hk b o hb z
end
section
variable {prog:Program}{w:World}{A:Around}{E:Value→Shared→Prop}{s:Shared}
end
def Ej (z:Str):Str:=⟨z.cps.toList.reverse.toArray⟩
def af5 (h₀:Heap) (H:Hp) (h:Heap) (e:Addr) (vs:Array Value):Option Value→Prop
 | none=>vs[1]? = some .none∧vs[2]? = some .none
 | some v=>∃ T oT ts,vs[1]? = some (.ref T)∧H T=none∧h₀.get? T=none∧T≠e∧h.get? T=some oT∧oT.data=.fields ts∧ts[3]? = some v∧vs[2]? = some .none
structure Exc (h₀:Heap) (H:Hp) (h:Heap) (e:Addr) (C:Value) (od:Option Addr) (fl:Option Value):Prop where
 fr:H e=none
 nw:h₀.get? e=none
 tr:∃ oe vs,h.get? e=some oe∧oe.cls=C∧oe.dict=od∧oe.data=.fields vs∧af5 h₀ H h e vs fl
section
variable {M:Model}{A:Around}{E:Value→Shared→Prop}{s:Shared}{base:Heap}{env:Env}{outer:List Env}{L e:Addr}{Q:Unit→Shared→Prop}
end
section
variable {M:Model}{A:Around}{E:Value→Shared→Prop}{s:Shared}{base h₀:Heap}{H:Hp}{env:Env}{outer:List Env}{L e:Addr}{C:Value}{od:Option Addr}{Q:Unit→Shared→Prop}
end
section
variable {X:Cx}{pins:List (Addr×Obj)}{σ σ':St}{H H':Hp}{s s1:Shared}
end
section
variable {P:Program}{w:World}{K:W.Frag}{mg:Str→Option Value}{base:Heap}{N:List Str}{qual:Str}{scope:Scope}{f:Addr}{cd:Value}{A:Around}{outer:List Env}{s:Shared}{H:Hp}{E:XK}
end
abbrev B9:List Value:=[.type "ValueError",.type "Exception",.type "BaseException",.type "object"]
structure ZK (K:W.Frag) (C N:Addr) (bm:List Value) (ini:Option Value):Prop where
 ob:∃ nm q bs hdct sn sub ab col dd k0 k1 k2 k3 k5,K.lookup C=some (excClassObj nm q C N bs bm hdct sn sub ab col dd k0 k1 k2 k3 k5 "ValueError.__new__")
 ns:∃ oc od es n sl,K.lookup N=some ⟨oc,od,.dict es n,sl⟩∧(es.toList.all fun e=>match e.key with | .str _ _=>true | _=>false)=true
 ini:W.nsIn K N "__init__" = some ini
section
variable {K:W.Frag}{h:Heap}{C N:Addr}{bm:List Value}{ini:Option Value}
end
section
variable {P:Program}{w:World}{K:W.Frag}{mg:Str→Option Value}{base:Heap}{N0:List Str}{qual:Str}{scope:Scope}{f:Addr}{cd:Value}{A:Around}{outer:List Env}{s0:Shared}{H0:Hp}{E:XK}
end
section
def XP (X:Cx) (pins:List (Addr×Obj)) (σ:St) (Ex:XK) (e:Value) (s':Shared):Prop :=
 ∃ ea C od H' s2 H2,e=.ref ea∧Inv X pins σ H2 s2∧Inv X pins σ H' s'∧(∀ b o,s2.heap.get? b=some o→∃ o',s'.heap.get? b=some o')∧Exc s2.heap H' s'.heap ea C od (some .none)∧Ex C od H'
variable {X:Cx}{k:Nat}{f C:Addr}{fd:FuncData}{ps:List Str}{sp:Sp}{BS:List V}{ds:List Value}{x m:Str}{p pos apos:Pos}{e o:Expr}{es:List Expr}{ta:TE}{t:TA}{te:TEx}
end
section
variable {X:Cx}{pins:List (Addr×Obj)}{σ σ':St}{H H':Hp}{s s1:Shared}
end
section
variable {M:Model}{A:Around}{E:Value→Shared→Prop}{K:W.Frag}{s:Shared}{C D N N' ea:Addr}{bm bm':List Value}{ini ajy:Option Value}{Q:Bool→Shared→Prop}
end
section
variable {X:Cx}{pins:List (Addr×Obj)}{σ:St}{H:Hp}{s:Shared}{ea:Addr}
end
end L2
set_option maxHeartbeats 1000000
namespace L2
open PySem PySem.Spec PyProof.Rows PySem.Builtin PySem.Builtin.ObjectAttr
structure XAt (K:W.Frag) (C:Addr) (f:Str):Prop where
 no:W.findIn K (.ref C) f=some none
 sa:W.findIn K (.ref C) "__setattr__" = some (some (.builtin "object.__setattr__"))
 ga:W.findIn K (.ref C) "__getattribute__" = some (some (.builtin "BaseException.__getattribute__"))
 gx:W.findIn K (.ref C) "__getattr__" = some none
 hd:W.hasDictIn K C=true
section
variable {P:Program}{w:World}{A:Around}{E:Value→Shared→Prop}{s:Shared}{K:W.Frag}{C N x:Addr}{bm:List Value}{ini:Option Value}{f:Str}{v:Value}{ox:Obj}{vs:Array Value}
end
section
variable {P:Program}{w:World}{A:Around}{E:Value→Shared→Prop}{K:W.Frag}{C N fI:Addr}{bm:List Value}{us:List Value}
end
section
variable {X:Cx}{pins:List (Addr×Obj)}{σ:St}{H:Hp}{s:Shared}{a:Addr}{φ:Heap→Prop}
end
section
variable {X:Cx}{e:Expr}{te:TE}{pos:Pos}
end
section
variable {X:Cx}{C N D fI:Addr}{bm:List Value}{ini:Option Value}{x f:Str}{np ap pos cpos pos':Pos}{e o value a1 a2:Expr}{es:List Expr}{t:TA}{ta tv te:TE}
structure XIn (K:W.Frag) (D:Addr):Prop where
 sp:W.specialIn K (.ref D) "__getattribute__" = some (some (.builtin "type.__getattribute__"))
 rd:W.readsIn K D (.type "type")=true
 fc:W.findCls K (.ref D) (.type "type") "__init__" = some (.val (.builtin "ValueError.__init__"))
end
section
variable {P:Program}{w:World}{K:W.Frag}{mg:Str→Option Value}{base:Heap}{N0:List Str}{qual:Str}{scope:Scope}{f:Addr}{cd:Value}{A:Around}{outer:List Env}{s0:Shared}{H0:Hp}{E:XK}
end
open PySem PySem.Spec PyProof.Rows
section
variable {P:Program}{w:World}{K:W.Frag}{mg:Str→Option Value}{base:Heap}
end
section
variable {X:Cx}{k:Nat}{f:Addr}{fd:FuncData}{ps:List Str}{sp:Sp}{x:Str}{p pos:Pos}{e:Expr}{es:List Expr}{t:TA}
end
end L2
set_option maxHeartbeats 4000000
namespace L2
open PySem PySem.Spec PyProof.Rows
section
variable {prog:Program}{w:World}{A:Around}{E:Value→Shared→Prop}{s:Shared}
theorem Je {it t:Addr}{i:Nat}{items:Array Value}{x:Value}{Q:Value→Shared→Prop} (hit:s.heap.IsTupleIter it t i) (ht:s.heap.IsTuple t items) (hx:items[i]? = some x)
  (hQ:∀ h',h'.IsTupleIter it t (i+1)→Heap.SameBut it s.heap h'→Q x { s with heap:=h' }):wpAny (model prog w) A (Builtin.SmallTypes.nextOf (.ref it)) Q E s:=by
 obtain⟨o,ho,hc,hd⟩:=id hit
 obtain⟨ol,Vq,_,nl,hdl⟩:=id ht
 unfold Builtin.SmallTypes.nextOf;refine wpAny_bind (wpAny_callSpecial?_slot (name:=Str.ofString "__next__") hit.typeIs F.slot_tuple_iterator_next (wpAny_call_entry F.slot_tuple_iterator_next hit.typeIs F.entry_tuple_iterator_next ?_ (F.args_tuple_iterator_next_1 _)))
 show wpAny _ _ (field (.ref it) 0 >>= _) _ _ _;refine wpAny_bind (wpAny_field ho hd (x:=.ref t) rfl ?_)
 show wpAny _ _ (if (Value.ref t == Value.none)=true then _ else _) _ _ _;rw[if_neg (fun q:(Value.ref t == Value.none)=true=>nomatch q)]
 show wpAny _ _ (field (.ref it) 1 >>= _) _ _ _;refine wpAny_bind (wpAny_field ho hd (x:=.int i 0) rfl ?_)
 show wpAny _ _ (seqItems? (.ref t) >>= _) _ _ _;refine wpAny_bind (wpAny_seqItems Vq hdl ?_)
 simp only[Int.toNat_natCast,hx]
 refine wpAny_bind (wpAny_setField ho hd (by simp) (wpAny_pure ⟨x,rfl,wpAny_pure (hQ _ ⟨_,Heap.get?_update_self _ ho (Obj.isFreed_of_fields (Obj.data_mapFields hd _)),(Obj.cls_mapFields ..).trans hc,by rw[Obj.data_mapFields hd];simp[rawInt]⟩ (Heap.SameBut.update ..))⟩))
theorem Ml {it t:Addr}{i:Nat}{items:Array Value}{Q:Value→Shared→Prop} (hh:A.handled=none) (hit:s.heap.IsTupleIter it t i) (ht:s.heap.IsTuple t items) (hx:items[i]? = none)
  (hE:∀ h' e,Heap.ExtBut it s.heap h'→(∃ o,h'.get? e=some o∧o.cls=.type "StopIteration")→E (.ref e) { s with heap:=h' }):wpAny (model prog w) A (Builtin.SmallTypes.nextOf (.ref it)) Q E s:=by
 obtain⟨o,ho,hc,hd⟩:=id hit
 obtain⟨ol,Vq,_,nl,hdl⟩:=id ht
 unfold Builtin.SmallTypes.nextOf;refine wpAny_bind (wpAny_callSpecial?_slot (name:=Str.ofString "__next__") hit.typeIs F.slot_tuple_iterator_next (wpAny_call_entry F.slot_tuple_iterator_next hit.typeIs F.entry_tuple_iterator_next ?_ (F.args_tuple_iterator_next_1 _)))
 show wpAny _ _ (field (.ref it) 0 >>= _) _ _ _;refine wpAny_bind (wpAny_field ho hd (x:=.ref t) rfl ?_)
 show wpAny _ _ (if (Value.ref t == Value.none)=true then _ else _) _ _ _;rw[if_neg (fun q:(Value.ref t == Value.none)=true=>nomatch q)]
 show wpAny _ _ (field (.ref it) 1 >>= _) _ _ _;refine wpAny_bind (wpAny_field ho hd (x:=.int i 0) rfl ?_)
 show wpAny _ _ (seqItems? (.ref t) >>= _) _ _ _;refine wpAny_bind (wpAny_seqItems Vq hdl ?_)
 simp only[Int.toNat_natCast,hx]
 refine wpAny_bind (wpAny_rule (wpAny_bind (wpAny_setField ho hd (by simp) ?_)));   show wpAny _ _ (newExc (.type "StopIteration") [] >>= _) _ _ _;refine wpAny_bind ?_
 simp only[newExc,newTuple];refine wpAny_bind (wpAny_newObj_type ?_ (by size_fits))
 refine wpAny_bind (m:=firstArgMember _ _) (wpAny_of_eq (a:=Value.none) (by first | rfl | (simp only[firstArgMember];rfl)) (wpAny_newObj_type ?_ (by size_fits)))
 simp only[raiseNew];refine wpAny_bind (wpAny_handled ?_)
 first | rw[show A.in1.handled=none from hh];refine wpAny_bind (wpAny_pure (wpAny_throw ?_)) | rw[hh];refine wpAny_bind (wpAny_pure (wpAny_throw ?_))
 exact hE _ _ (((Heap.SameBut.update ..).extBut.push _).push _) ⟨_,Heap.get?_push_size _ rfl,rfl⟩
theorem O8 (hh:A.handled=none) (it l:Addr) (hne:l≠it) (items:Array Value):Draws prog w A it [it,l] items.size (fun i v=>items[i]? = some v) (fun i h=>h.IsTupleIter it l i∧h.IsTuple l items) where
 live:=fun _ _ st=>let ⟨o,ho,_⟩:=st.1;⟨o,ho⟩
 frame:=fun _ _ _ st hk=>⟨let ⟨o,ho,r⟩:=st.1;⟨o,hk it (by simp) o ho,r⟩,let ⟨o,ho,r⟩:=st.2;⟨o,hk l (by simp) o ho,r⟩⟩
 item:=fun i s Q E hi st hQ=>Je st.1 st.2 (x:=items[i]) (by simp[hi]) fun h' Mh hs'=>hQ _ h' s.toks (by simp[hi]) ⟨Mh,st.2.extBut hs'.extBut hne⟩ hs'
 done:=fun s Q E st hE=>Ml hh st.1 st.2 (by simp) hE
theorem O9 {z TI TO i1 i2 l1 l2:Addr}{n1 n2 k:Nat}{P1 P2:Nat→Value→Prop}{S1 S2:Nat→Heap→Prop}{a b:Value}{Q:Value→Shared→Prop} (D:ZipApart z TI TO i1 i2 l1 l2)
  (G1:Draws prog w A i1 [i1,l1] n1 P1 S1) (G2:Draws prog w A i2 [i2,l2] n2 P2 S2) (hz:IsZip s.heap z TI TO .none) (hTI:IsPair s.heap TI (.ref i1) (.ref i2)) (hTO:IsPair s.heap TO a b)
  (g1:S1 k s.heap) (g2:S2 k s.heap) (k1:k < n1) (k2:k < n2)
  (hQ:∀ h' tk x y,P1 k x→P2 k y→IsZip h' z TI TO (rawInt s.heap.objs.size)→IsPair h' TO x y→S1 (k+1) h'→S2 (k+1) h'→IsPair h' s.heap.objs.size x y →
   (∀ c o,c≠z→c≠TO→c≠i1→c≠i2→s.heap.get? c=some o→h'.get? c=some o)→Q (.ref s.heap.objs.size) { s with heap:=h',toks:=tk }) :
  wpAny (model prog w) A (Builtin.«zip.__next__» ⟨[.ref z],[]⟩) (fun fin s'=>∃ v,fin=.done (.ret v)∧Q v s') E s:=by
 have e1:∀{i:Nat}{h h':Heap}{c:Addr},Heap.SameBut c h h'→i1≠c→l1≠c→S1 i h→S1 i h':=fun hs hn hl g=>G1.frame _ _ _ g fun b hb o e=>by
  rcases List.mem_cons.mp hb with q | q
  ·rw[q] at e ⊢;exact hs.extBut _ _ hn e
  ·rw[List.mem_singleton.mp q] at e ⊢;exact hs.extBut _ _ hl e
 have e2:∀{i:Nat}{h h':Heap}{c:Addr},Heap.SameBut c h h'→i2≠c→l2≠c→S2 i h→S2 i h':=fun hs hn hl g=>G2.frame _ _ _ g fun b hb o e=>by
  rcases List.mem_cons.mp hb with q | q
  ·rw[q] at e ⊢;exact hs.extBut _ _ hn e
  ·rw[List.mem_singleton.mp q] at e ⊢;exact hs.extBut _ _ hl e
 show wpAny _ _ (field (.ref z) 2 >>= _) _ _ _
 refine wpAny_bind (wpAny_field hz rfl (x:=.bool false) rfl ?_)
 show wpAny _ _ (field (.ref z) 3 >>= _) _ _ _
 refine wpAny_bind (wpAny_field hz rfl (x:=.ref TI) rfl (wpAny_bind (wpAny_seqItems hTI rfl ?_)))
 show wpAny _ _ (Builtin.SmallTypes.ownedTupleIsFree (.ref z) >>= _) _ _ _
 refine wpAny_bind ?_
 unfold Builtin.SmallTypes.ownedTupleIsFree
 refine wpAny_bind (wpAny_field hz rfl (x:=.none) rfl (wpAny_pure ?_))
 simp only[if_true]
 refine wpAny_bind (wpAny_rule (wpAny_bind (wpAny_field hz rfl (x:=.ref TO) rfl (wpAny_bind (wpAny_setField_rec hz (by simp) fun A1 z1 q1=>?_)))))
 replace z1:IsZip A1 z TI TO .ellipsis:=z1
 refine wpAny_bind ?_
 simp only[List.zipIdx_cons,List.zipIdx_nil,List.forIn_cons,List.forIn_nil]
 refine wpAny_bind (wpAny_bind (wpAny_onRaise ?_))
 show wpAny _ _ (Builtin.SmallTypes.nextOf (.ref i1) >>= _) _ _ _
 refine wpAny_bind (G1.item k _ _ _ k1 (e1 q1 D.i1z D.l1z g1) fun x A2 tk px Zv q2=>wpAny_pure ?_)
 have o2:IsPair A2 TO a b:=q2.extBut _ _ D.TOi1 (q1.extBut _ _ D.TOz hTO)
 refine wpAny_bind (wpAny_seqItems o2 rfl (wpAny_bind (wpAny_updateSeq_pair o2 fun A3 o3 q3=>?_)))
 replace o3:IsPair A3 TO x b:=o3
 refine wpAny_bind (wpAny_letGo (wpAny_pure (wpAny_bind (wpAny_bind (wpAny_onRaise ?_)))))
 show wpAny _ _ (Builtin.SmallTypes.nextOf (.ref i2) >>= _) _ _ _
 refine wpAny_bind (G2.item k _ _ _ k2 (e2 q3 D.TOi2.symm D.l2TO (e2 q2 D.i12.symm D.l2i1 (e2 q1 D.i2z D.l2z g2))) fun y A4 tk2 py g2' q4=>wpAny_pure ?_)
 have o4:IsPair A4 TO x b:=q4.extBut _ _ D.TOi2 o3
 refine wpAny_bind (wpAny_seqItems o4 rfl (wpAny_bind (wpAny_updateSeq_pair o4 fun A5 o5 q5=>?_)))
 replace o5:IsPair A5 TO x y:=o5
 refine wpAny_bind (wpAny_letGo (wpAny_pure (wpAny_pure (wpAny_bind (wpAny_seqItems o5 rfl (wpAny_bind (wpAny_newTuple ?_)))))))
 have sz:A5.objs.size=s.heap.objs.size:=by rw[q5.1,q4.1,q3.1,q2.1,q1.1]
 have z5:IsZip A5 z TI TO .ellipsis:=q5.extBut _ _ D.TOz.symm (q4.extBut _ _ D.i2z.symm (q3.extBut _ _ D.TOz.symm (q2.extBut _ _ D.i1z.symm z1)))
 have w1:S1 (k+1) A5:=e1 q5 D.TOi1.symm D.l1TO (e1 q4 D.i12 D.l1i2 (e1 q3 D.TOi1.symm D.l1TO Zv))
 have w2:S2 (k+1) A5:=e2 q5 D.TOi2.symm D.l2TO g2'
 have kp:∀ c o,c≠z→c≠TO→c≠i1→c≠i2→s.heap.get? c=some o→A5.get? c=some o:=fun c o c1 c2 c3 c4 e=>q5.extBut _ _ c2 (q4.extBut _ _ c4 (q3.extBut _ _ c2 (q2.extBut _ _ c3 (q1.extBut _ _ c1 e))))
 have lz:z < A5.objs.size:=Heap.lt_size z5
 have z6:IsZip (A5.push { cls:=.type "tuple",data:=.seq #[x,y] }) z TI TO .ellipsis:=Heap.get?_push_of_some _ z5
 show wpAny _ _ (Builtin.SmallTypes.ownedTupleHandOut (.ref z) (.ref A5.objs.size) >>= _) _ _ _
 refine wpAny_bind ?_
 unfold Builtin.SmallTypes.ownedTupleHandOut
 refine wpAny_bind (wpAny_setField_rec z6 (by simp) fun A7 z7 q7=>?_)
 replace z7:IsZip A7 z TI TO (rawInt A5.objs.size):=z7
 refine wpAny_setField_rec z7 (by simp) fun A8 z8 q8=>?_
 replace z8:IsZip A8 z TI TO (rawInt A5.objs.size):=z8
 have up:∀ c o,c≠z→A5.get? c=some o→A8.get? c=some o:=fun c o c1 e=>q8.extBut _ _ c1 (q7.extBut _ _ c1 (Heap.get?_push_of_some _ e))
 have t8:IsPair A8 A5.objs.size x y:=q8.extBut _ _ (Nat.ne_of_gt lz) (q7.extBut _ _ (Nat.ne_of_gt lz) (Heap.get?_push_size _ rfl))
 have v1:S1 (k+1) A8:=G1.frame _ _ _ w1 fun b hb o e=>by
  rcases List.mem_cons.mp hb with q | q
  ·rw[q] at e ⊢;exact up _ o D.i1z e
  ·rw[List.mem_singleton.mp q] at e ⊢;exact up _ o D.l1z e
 have v2:S2 (k+1) A8:=G2.frame _ _ _ w2 fun b hb o e=>by
  rcases List.mem_cons.mp hb with q | q
  ·rw[q] at e ⊢;exact up _ o D.i2z e
  ·rw[List.mem_singleton.mp q] at e ⊢;exact up _ o D.l2z e
 rw[sz] at z8 t8
 refine wpAny_pure ⟨_,rfl,?_⟩
 show Q (.ref A5.objs.size) _
 rw[sz]
 exact hQ A8 _ x y px py z8 (up _ _ D.TOz o5) v1 v2 t8 fun c o c1 c2 c3 c4 e=>up c o c1 (kp c o c1 c2 c3 c4 e)
theorem RW {z TI TO i1 i2 l1 l2:Addr}{n1 n2 k:Nat}{P1 P2:Nat→Value→Prop}{S1 S2:Nat→Heap→Prop}{a b:Value}{Q:Fin→Shared→Prop} (D:ZipApart z TI TO i1 i2 l1 l2)
  (G1:Draws prog w A i1 [i1,l1] n1 P1 S1) (G2:Draws prog w A i2 [i2,l2] n2 P2 S2) (hz:IsZip s.heap z TI TO .none) (hTI:IsPair s.heap TI (.ref i1) (.ref i2)) (hTO:IsPair s.heap TO a b)
  (g1:S1 k s.heap) (g2:S2 k s.heap) (hk:k=n1∨(k < n1∧k=n2))
  (hE:∀ h' tk e,(∀ c o,c≠z→c≠TO→c≠i1→c≠i2→s.heap.get? c=some o→h'.get? c=some o)→(∃ o,h'.get? e=some o∧o.cls=.type "StopIteration")→E (.ref e) { s with heap:=h',toks:=tk }) :
  wpAny (model prog w) A (Builtin.«zip.__next__» ⟨[.ref z],[]⟩) Q E s:=by
 have e1:∀{i:Nat}{h h':Heap}{c:Addr},Heap.SameBut c h h'→i1≠c→l1≠c→S1 i h→S1 i h':=fun hs hn hl g=>G1.frame _ _ _ g fun b hb o e=>by
  rcases List.mem_cons.mp hb with q | q
  ·rw[q] at e ⊢;exact hs.extBut _ _ hn e
  ·rw[List.mem_singleton.mp q] at e ⊢;exact hs.extBut _ _ hl e
 have e2:∀{i:Nat}{h h':Heap}{c:Addr},Heap.SameBut c h h'→i2≠c→l2≠c→S2 i h→S2 i h':=fun hs hn hl g=>G2.frame _ _ _ g fun b hb o e=>by
  rcases List.mem_cons.mp hb with q | q
  ·rw[q] at e ⊢;exact hs.extBut _ _ hn e
  ·rw[List.mem_singleton.mp q] at e ⊢;exact hs.extBut _ _ hl e
 show wpAny _ _ (field (.ref z) 2 >>= _) _ _ _
 refine wpAny_bind (wpAny_field hz rfl (x:=.bool false) rfl ?_)
 show wpAny _ _ (field (.ref z) 3 >>= _) _ _ _
 refine wpAny_bind (wpAny_field hz rfl (x:=.ref TI) rfl (wpAny_bind (wpAny_seqItems hTI rfl ?_)))
 show wpAny _ _ (Builtin.SmallTypes.ownedTupleIsFree (.ref z) >>= _) _ _ _
 refine wpAny_bind ?_
 unfold Builtin.SmallTypes.ownedTupleIsFree
 refine wpAny_bind (wpAny_field hz rfl (x:=.none) rfl (wpAny_pure ?_))
 simp only[if_true]
 refine wpAny_bind (wpAny_rule (wpAny_bind (wpAny_field hz rfl (x:=.ref TO) rfl (wpAny_bind (wpAny_setField_rec hz (by simp) fun A1 z1 q1=>?_)))))
 replace z1:IsZip A1 z TI TO .ellipsis:=z1
 refine wpAny_bind ?_
 simp only[List.zipIdx_cons,List.zipIdx_nil,List.forIn_cons,List.forIn_nil]
 refine wpAny_bind (wpAny_bind (wpAny_onRaise ?_))
 show wpAny _ _ (Builtin.SmallTypes.nextOf (.ref i1) >>= _) _ _ _
 rcases hk with rfl | ⟨k1,rfl⟩
 ·refine wpAny_bind (G1.done _ _ _ (e1 q1 D.i1z D.l1z g1) fun A2 e q2 he=>?_)
  obtain⟨oe,IX,hce⟩:=he
  have z2:IsZip A2 z TI TO .ellipsis:=q2 _ _ D.i1z.symm z1
  have ez:e≠z:=fun q=>by rw[q,z2] at IX;cases IX;exact absurd (show Value.type "zip" = Value.type "StopIteration" from hce) (by decide)
  exact wpAny_setField_rec z2 (by simp) fun A3 _ q3=>hE A3 _ e (fun c o c1 _ c3 _ p=>q3.extBut _ _ c1 (q2 _ _ c3 (q1.extBut _ _ c1 p))) ⟨oe,q3.extBut _ _ ez IX,hce⟩
 ·refine wpAny_bind (G1.item k _ _ _ k1 (e1 q1 D.i1z D.l1z g1) fun x A2 tk px Zv q2=>wpAny_pure ?_)
  have o2:IsPair A2 TO a b:=q2.extBut _ _ D.TOi1 (q1.extBut _ _ D.TOz hTO)
  refine wpAny_bind (wpAny_seqItems o2 rfl (wpAny_bind (wpAny_updateSeq_pair o2 fun A3 o3 q3=>?_)))
  refine wpAny_bind (wpAny_letGo (wpAny_pure (wpAny_bind (wpAny_bind (wpAny_onRaise ?_)))))
  show wpAny _ _ (Builtin.SmallTypes.nextOf (.ref i2) >>= _) _ _ _
  refine wpAny_bind (G2.done _ _ _ (e2 q3 D.TOi2.symm D.l2TO (e2 q2 D.i12.symm D.l2i1 (e2 q1 D.i2z D.l2z g2))) fun A4 e q4 he=>?_)
  obtain⟨oe,IX,hce⟩:=he
  have z4:IsZip A4 z TI TO .ellipsis:=q4 _ _ D.i2z.symm (q3.extBut _ _ D.TOz.symm (q2.extBut _ _ D.i1z.symm z1))
  have ez:e≠z:=fun q=>by rw[q,z4] at IX;cases IX;exact absurd (show Value.type "zip" = Value.type "StopIteration" from hce) (by decide)
  exact wpAny_setField_rec z4 (by simp) fun A5 _ q5=>hE A5 _ e (fun c o c1 c2 c3 c4 p=>q5.extBut _ _ c1 (q4 _ _ c4 (q3.extBut _ _ c2 (q2.extBut _ _ c3 (q1.extBut _ _ c1 p))))) ⟨oe,q5.extBut _ _ ez IX,hce⟩
theorem Gx (hh:A.handled=none) (z TI TO i1 i2 l1 l2:Addr) (D:ZipApart z TI TO i1 i2 l1 l2) (xs ys:Array Value) :
  WalksT prog w A z [z,TI,TO,i1,i2,l1,l2] [z,TO,i1,i2] (min xs.size ys.size)
   (fun i vals=>∃ x y,xs[i]? = some x∧ys[i]? = some y∧vals = #[x,y])
   (fun i h=>IsZip h z TI TO .none∧IsPair h TI (.ref i1) (.ref i2)∧(∃ a b,IsPair h TO a b)∧h.IsListIter i1 l1 i∧h.IsList l1 xs∧h.IsTupleIter i2 l2 i∧h.IsTuple l2 ys)
   (fun i T h=>IsZip h z TI TO (rawInt T)∧IsPair h TI (.ref i1) (.ref i2)∧(∃ a b,IsPair h TO a b)∧h.IsListIter i1 l1 (i+1)∧h.IsList l1 xs∧h.IsTupleIter i2 l2 (i+1)∧h.IsTuple l2 ys∧T≠z∧T≠TO∧T≠i1∧T≠i2) where
 sub:=fun c hc=>by
  simp only[List.mem_cons,List.mem_nil_iff,or_false] at hc ⊢
  rcases hc with q | q | q | q <;> simp[q]
 frame:=fun i h h' st hk=>by
  obtain⟨p1,p2,⟨a,b,p3⟩,p4,p5,p6,p7⟩:=st
  exact⟨hk z (by simp) _ p1,hk TI (by simp) _ p2,⟨a,b,hk TO (by simp) _ p3⟩,p4.at fun o e=>hk i1 (by simp) o e,p5.at fun o e=>hk l1 (by simp) o e,(let ⟨o,ho,r⟩:=p6;⟨o,hk i2 (by simp) o ho,r⟩),(let ⟨o,ho,r⟩:=p7;⟨o,hk l2 (by simp) o ho,r⟩)⟩
 item:=fun i s Q E hi st hQ=>by
  obtain⟨p1,p2,⟨a,b,p3⟩,p4,p5,p6,p7⟩:=st
  have hT:s.TypeIs (.ref z) "zip" := ⟨_,p1,rfl⟩
  unfold pyNext
  refine wpAny_bind (wpAny_attempt (wpAny_callSpecial?_slot (name:=Str.ofString "__next__") hT F.slot_zip_next (wpAny_call_entry F.slot_zip_next hT F.entry_zip_next ?_ (F.args_zip_next_1 _))))
  refine O9 (S1:=fun i h=>h.IsListIter i1 l1 i∧h.IsList l1 xs) (S2:=fun i h=>h.IsTupleIter i2 l2 i∧h.IsTuple l2 ys) D (Draws.list (A:=A.in1) hh i1 l1 D.l1i1 xs) (O8 (A:=A.in1) hh i2 l2 D.l2i2 ys) p1 p2 p3 ⟨p4,p5⟩ ⟨p6,p7⟩ (Nat.lt_of_lt_of_le hi (Nat.min_le_left ..)) (Nat.lt_of_lt_of_le hi (Nat.min_le_right ..)) fun h' tk u y pu py r1 r2 r3 r4 r5 kp=>?_
  have lt:∀{c o},s.heap.get? c=some o→s.heap.objs.size≠c:=fun e=>Nat.ne_of_gt (Heap.lt_size e)
  refine wpAny_pure (hQ s.heap.objs.size #[u,y] h' tk ⟨u,y,pu,py,rfl⟩ (Nat.le_refl _) ⟨_,r5,rfl,_,rfl⟩ ⟨r1,kp _ _ D.TIz D.TITO D.TIi1 D.TIi2 p2,⟨_,_,r2⟩,r3.1,r3.2,r4.1,r4.2,lt p1,lt p3,?_,?_⟩ fun c o hc e=>kp c o (fun q=>hc (by simp[q])) (fun q=>hc (by simp[q])) (fun q=>hc (by simp[q])) (fun q=>hc (by simp[q])) e)
  ·obtain⟨o,ho,_⟩:=p4;exact lt ho
  ·obtain⟨o,ho,_⟩:=p6;exact lt ho
 go:=fun elts k pos i T s Q E hm hQ=>by
  obtain⟨p1,p2,⟨a,b,p3⟩,p4,p5,p6,p7,_⟩:=hm
  refine wpAny_letOwnedTupleGo_zip p1 fun h' z' q=>hQ h' ⟨z',q.extBut _ _ D.TIz p2,⟨a,b,q.extBut _ _ D.TOz p3⟩,p4.extBut q.extBut D.i1z,p5.extBut q.extBut D.l1z,p6.extBut q.extBut D.i2z,p7.extBut q.extBut D.l2z⟩ fun c o hc e=>q.extBut _ _ (fun y=>hc (by simp[y])) e
 apart:=fun i T h hm hT=>by
  obtain⟨_,_,_,_,_,_,_,t1,t2,t3,t4⟩:=hm
  simp only[List.mem_cons,List.mem_nil_iff,or_false] at hT
  rcases hT with q | q | q | q
  ·exact t1 q
  ·exact t2 q
  ·exact t3 q
  ·exact t4 q
 done:=fun s Q E st hQ=>by
  obtain⟨p1,p2,⟨a,b,p3⟩,p4,p5,p6,p7⟩:=st
  have hT:s.TypeIs (.ref z) "zip" := ⟨_,p1,rfl⟩
  unfold pyNext
  refine wpAny_bind (wpAny_attempt (wpAny_callSpecial?_slot (name:=Str.ofString "__next__") hT F.slot_zip_next (wpAny_call_entry F.slot_zip_next hT F.entry_zip_next ?_ (F.args_zip_next_1 _))))
  refine RW (S1:=fun i h=>h.IsListIter i1 l1 i∧h.IsList l1 xs) (S2:=fun i h=>h.IsTupleIter i2 l2 i∧h.IsTuple l2 ys) D (Draws.list (A:=A.in1) hh i1 l1 D.l1i1 xs) (O8 (A:=A.in1) hh i2 l2 D.l2i2 ys) p1 p2 p3 ⟨p4,p5⟩ ⟨p6,p7⟩ ?_ fun h' tk e kp he=>?_
  ·by_cases q:xs.size≤ys.size
   ·exact .inl (Nat.min_eq_left q)
   ·exact .inr ⟨by omega,Nat.min_eq_right (by omega)⟩
  ·obtain⟨o,ho,hc⟩:=he
   refine wpAny_bind (wpAny_isInstance (T := "StopIteration") (b:=true) ⟨o,ho,hc⟩ isSubtype_stop (wpAny_pure (hQ _ _ fun c o hc e=>kp c o (fun q=>hc (by simp[q])) (fun q=>hc (by simp[q])) (fun q=>hc (by simp[q])) (fun q=>hc (by simp[q])) e)))
 self:=fun i s Q E st hQ=>wpAny_pyIter_zip st.1 hQ
end
def RX (K:W.Frag) (a b:Addr):It :=
 ⟨fun i H=>∃ xs ys x y,aU K H a xs∧aV K H b ys∧xs[i]? = some x∧ys[i]? = some y,
  fun i H v H'=>∃ t x y,H t=none∧v=.ref t∧H'=upd H t (.tup [x,y])∧(∀ xs,aU K H a xs→xs[i]? = some x)∧(∀ ys,aV K H b ys→ys[i]? = some y),
  fun i H=>∃ xs ys,aU K H a xs∧aV K H b ys∧min xs.length ys.length=i⟩
theorem Jf {P:Program}{w:World}{K:W.Frag}{elts:List Expr}{k:Nat}{pos:Pos}{z TI TO i1 i2 l1 l2:Addr} (D:ZipApart z TI TO i1 i2 l1 l2) :
  Turn P w K (.Tuple elts k pos) (RX K l1 l2) [z,TI,TO,i1,i2] z (fun i h=>IsZip h z TI TO .none∧IsPair h TI (.ref i1) (.ref i2)∧(∃ a b,IsPair h TO a b)∧h.IsListIter i1 l1 i∧h.IsTupleIter i2 l2 i) where
 mem:=by simp
 obj:=fun i h st b hb=>by
  obtain⟨p1,p2,⟨a,c,p3⟩,⟨o1,e1,c1,d1⟩,⟨o2,e2,c2,d2⟩⟩:=st
  simp only[List.mem_cons,List.mem_nil_iff,or_false] at hb
  rcases hb with rfl | rfl | rfl | rfl | rfl
  ·exact⟨_,p1,fun v q=>by cases q⟩
  ·exact⟨_,p2,fun v q=>by cases q⟩
  ·exact⟨_,p3,fun v q=>by cases q⟩
  ·exact⟨_,e1,fun v q=>by rw[d1] at q;cases q⟩
  ·exact⟨_,e2,fun v q=>by rw[d2] at q;cases q⟩
 keep:=fun i h h' st k=>by
  obtain⟨p1,p2,⟨a,c,p3⟩,p4,p5⟩:=st
  exact⟨k z (by simp) _ p1,k TI (by simp) _ p2,⟨a,c,k TO (by simp) _ p3⟩,p4.at fun o e=>k i1 (by simp) o e,(let ⟨o,ho,r⟩:=p5;⟨o,k i2 (by simp) o ho,r⟩)⟩
 item:=by
  intro X hP hw hK hc i pins s σ H E I hf st hg
  subst hP hw hK
  obtain⟨xs,ys,x,y,hx,hy,ex,ey⟩:=hg
  obtain⟨Jg,rv1,Yn,hz1⟩:=I.list hx
  obtain⟨u1,hu1,ru1⟩:=rv1.get ex
  obtain⟨its,rv,p,hz⟩:=I.tuple hy
  obtain⟨u,hu,ru⟩:=rv.get ey
  obtain⟨p1,p2,p3,p4,p5⟩:=id st
  have W:=Gx (prog:=X.prog) (w:=X.w) (A:=X.A) (I.ok.hd hc) z TI TO i1 i2 l1 l2 D Jg.toArray its.toArray
  have hsub:∀ b∈[z,TO,i1,i2],b∈[z,TI,TO,i1,i2]:=by
   intro b hb
   simp only[List.mem_cons,List.mem_nil_iff,or_false] at hb ⊢
   rcases hb with q | q | q | q <;> simp[q]
  refine xA (J:=RX X.K l1 l2) (tn:=fun i h=>IsZip h z TI TO .none∧IsPair h TI (.ref i1) (.ref i2)∧(∃ a b,IsPair h TO a b)∧h.IsListIter i1 l1 i∧h.IsTupleIter i2 l2 i) W I hf hsub ?_ ?_ ?_ ?_ ?_
  ·intro b hb
   obtain⟨a',b',p3⟩:=p3
   obtain⟨o1,e1,_⟩:=p4
   obtain⟨o2,e2,_⟩:=p5
   simp only[List.mem_cons,List.mem_nil_iff,or_false] at hb
   rcases hb with rfl | rfl | rfl | rfl | rfl
   ·exact Heap.lt_size p1
   ·exact Heap.lt_size p2
   ·exact Heap.lt_size p3
   ·exact Heap.lt_size e1
   ·exact Heap.lt_size e2
  ·have h1:=(List.getElem?_eq_some_iff.mp hu1).1
   have h2:=(List.getElem?_eq_some_iff.mp hu).1
   simp only[List.size_toArray]
   omega
  ·exact⟨p1,p2,p3,p4,Yn.isList,p5,p⟩
  ·rintro vals ⟨v1,v2,q1,q2,rfl⟩
   have q1:Jg[i]? = some v1:=by simpa using q1
   rw[hu1] at q1;cases q1
   have q2:its[i]? = some v2:=by simpa using q2
   rw[hu] at q2;cases q2
   exact⟨[x,y],(by show 2≤sizeLine;decide),.cons ru1 (.cons ru .nil),fun T hT=>⟨T,x,y,hT,rfl,rfl,fun zs hz=>by rw[I.vm hz hx];exact ex,fun zs hz=>by rw[I.xo hz hy];exact ey⟩⟩
  ·exact fun h q=>⟨q.1,q.2.1,q.2.2.1,q.2.2.2.1,q.2.2.2.2.2.1⟩
 done:=by
  intro X hP hw hK hc i pins s σ H E I hf st hg
  subst hP hw hK
  obtain⟨xs,ys,hx,hy,hmin⟩:=hg
  obtain⟨Jg,rv1,Yn,hz1⟩:=I.list hx
  obtain⟨its,rv,p,hz⟩:=I.tuple hy
  obtain⟨p1,p2,p3,p4,p5⟩:=id st
  have e2:its.toArray.size=ys.length:=by rw[rv.length];exact List.size_toArray ..
  have e1:Jg.toArray.size=xs.length:=by rw[rv1.length];exact List.size_toArray ..
  have e:i=min Jg.toArray.size its.toArray.size:=by rw[e1,e2,hmin]
  subst e
  have W:=Gx (prog:=X.prog) (w:=X.w) (A:=X.A) (I.ok.hd hc) z TI TO i1 i2 l1 l2 D Jg.toArray its.toArray
  have hsub:∀ b∈[z,TO,i1,i2],b∈[z,TI,TO,i1,i2]:=by
   intro b hb
   simp only[List.mem_cons,List.mem_nil_iff,or_false] at hb ⊢
   rcases hb with q | q | q | q <;> simp[q]
  exact xB W I hf hsub ⟨p1,p2,p3,p4,Yn.isList,p5,p⟩
 self:=fun _ _ _ _ _ st h=>wpAny_pyIter_zip st.1 h
abbrev ZL (h:Heap) (a:Addr):Heap:=h.push { cls:=.type "list_iterator",data:=.fields #[.ref a,.int 0 0] }
abbrev zl2 (h:Heap) (a l:Addr):Heap:=(ZL h a).push { cls:=.type "tuple_iterator",data:=.fields #[.ref l,.int 0 0] }
abbrev zl3 (h:Heap) (a l:Addr):Heap:=(zl2 h a l).push { cls:=.type "tuple",data:=.seq #[.ref h.objs.size,.ref (ZL h a).objs.size] }
abbrev zl4 (h:Heap) (a l:Addr):Heap:=(zl3 h a l).push { cls:=.type "tuple",data:=.seq #[.none,.none] }
abbrev Yo (h:Heap) (a l:Addr):Heap:=(zl4 h a l).push { cls:=.type "zip",data:=.fields #[.none,.bool false,.bool false,.ref (zl2 h a l).objs.size,.ref (zl3 h a l).objs.size] }
theorem Pa (a l:Addr) (xs ys:Array Value):Meets (Builtin.«zip.__new__» ⟨[.type "zip",.ref a,.ref l],[]⟩) (fun _ R s=>(s.heap.IsList a xs∧s.heap.IsTuple l ys)∧R (.ok (.ret (.ref (zl4 s.heap a l).objs.size))) { s with heap:=Yo s.heap a l }) :=
 .of_wp fun prog w A R s h=>by
  obtain⟨hp,g,d,tk,os⟩:=s
  obtain⟨⟨hl1,hl⟩,h⟩:=h
  have hsub:=sub_zip
  have hL:Heap.IsTuple (Shared.heap ⟨ZL hp a,g,d,tk,os⟩) l ys:=Heap.IsTuple.push hl _
  wp_walk using wpAny_pyIter_list hl1,wpAny_pyIter_tuple hL
  exact⟨_,rfl,h⟩
section
variable {prog:Program}{w:World}{A:Around}{E:Value→Shared→Prop}{s:Shared}
theorem Jh {a l:Addr}{xs ys:Array Value}{Q:Value→Shared→Prop} (hl1:s.heap.IsList a xs) (hl:s.heap.IsTuple l ys)
  (h:∀ h',IsZip h' (s.heap.objs.size+4) (s.heap.objs.size+2) (s.heap.objs.size+3) .none→IsPair h' (s.heap.objs.size+2) (.ref s.heap.objs.size) (.ref (s.heap.objs.size+1))→IsPair h' (s.heap.objs.size+3) .none .none →
   h'.IsListIter s.heap.objs.size a 0→h'.IsTupleIter (s.heap.objs.size+1) l 0→(∀ c o,s.heap.get? c=some o→h'.get? c=some o)→Q (.ref (s.heap.objs.size+4)) { s with heap:=h' }) :
  wpAny (model prog w) A (call (.type "zip") [.ref a,.ref l]) Q E s:=by
 refine callType_new F.called_zip (by decide) (F.typeCall_zip_2 _ _) (F.newCall_zip_2 _ _) (fun obj=>F.args_object_init_3 obj _ _) F.entry_zip_new (Pa a l xs ys) ⟨⟨hl1,hl⟩,?_⟩
 have n1:(ZL s.heap a).objs.size=s.heap.objs.size+1:=Heap.size_push ..
 have n2:(zl2 s.heap a l).objs.size=s.heap.objs.size+2:=by rw[Heap.size_push,n1]
 have n3:(zl3 s.heap a l).objs.size=s.heap.objs.size+3:=by rw[Heap.size_push,n2]
 have n4:(zl4 s.heap a l).objs.size=s.heap.objs.size+4:=by rw[Heap.size_push,n3]
 have up:∀{h:Heap}{c:Addr}{u o:Obj},h.get? c=some o→(h.push u).get? c=some o:=fun e=>Heap.get?_push_of_some _ e
 have r5:(Yo s.heap a l).get? (zl4 s.heap a l).objs.size=some _:=Heap.get?_push_size _ rfl
 have r4:(Yo s.heap a l).get? (zl3 s.heap a l).objs.size=some _:=up (Heap.get?_push_size _ rfl)
 have r3:(Yo s.heap a l).get? (zl2 s.heap a l).objs.size=some _:=up (up (Heap.get?_push_size _ rfl))
 have r2:(Yo s.heap a l).get? (ZL s.heap a).objs.size=some _:=up (up (up (Heap.get?_push_size _ rfl)))
 have r1:(Yo s.heap a l).get? s.heap.objs.size=some _:=up (up (up (up (Heap.get?_push_size _ rfl))))
 show _∧_
 rw[n2,n3,n4] at r5
 rw[n1,n2] at r3
 rw[n3] at r4
 rw[n1] at r2
 rw[n4]
 exact⟨⟨_,r5,rfl⟩,h _ r5 r3 r4 ⟨_,r1,rfl,rfl⟩ ⟨_,r2,rfl,rfl⟩ fun c o q=>up (up (up (up (up q))))⟩
end
def Vr (K:W.Frag) (ta:TA):TI:=fun σ H R=>ta σ H fun vs H1=>∃ a b,vs=[.ref a,.ref b]∧(∃ xs,aU K H1 a xs)∧(∃ ys,aV K H1 b ys)∧R (RX K a b) H1
theorem xF {X:Cx}{elts:List Expr}{k:Nat}{tpos:Pos}{a b:Expr}{ta:TA}{p pos:Pos} (K:W.Frag) (hK:X.K=K) (hg:Gl X "zip") (hm:X.mg "zip" = none) (ha:PA X [a,b] ta) (hs:starEach [a,b] X.env=[(false,eval a X.env),(false,eval b X.env)]:=by rfl) (hs2:starEach [b] X.env=[(false,eval b X.env)]:=by rfl) :
  PI X (.Tuple elts k tpos) (.Call (.Name "zip" p) [a,b] [] pos) (Vr K ta):=by
 subst hK
 intro pins s σ H R I h
 refine Call_ (nT I hg hm (u:=.type "zip") (by decide +kernel) (PyProof.Rows.callWith_type1 (dj (ha pos pins s σ H _ I h) fun us s1 ⟨vs,H1,I1,r1,q1⟩=>?_) (by rw[hs,hs2]) (by rw[hs2];rfl)))
 obtain⟨l1,l,e,⟨xs,hx⟩,⟨ys,hy⟩,q⟩:=q1
 subst e
 cases r1 with
 | cons r rr =>
  cases rr with
  | cons r' rr =>
   cases rr
   cases r;cases r'
   obtain⟨Jg,rv1,Yn,hz1⟩:=I1.list hx
   obtain⟨its,rv,pl,hz⟩:=I1.tuple hy
   have af6:l1 < s1.heap.objs.size:=by obtain⟨o,ho,_⟩:=Yn.isList;exact Heap.lt_size ho
   have hlt:l < s1.heap.objs.size:=by obtain⟨o,ho,_⟩:=pl;exact Heap.lt_size ho
   refine Jh Yn.isList pl fun h' hz' hTI hTO hi1 hi2 hk=>?_
   refine wpAny_pyIter_zip hz' ?_
   have I2:Inv X pins σ H1 { s1 with heap:=h' }:=I1.kept (t':=s1.toks) fun b o e=>hk b o e
   refine⟨s1.heap.objs.size+4,_,_,_,H1,rfl,I2,Jf (ON s1.heap.objs.size l1 l af6 hlt),⟨hz',hTI,⟨_,_,hTO⟩,hi1,hi2⟩,fun b hb=>?_,q⟩
   have hb':s1.heap.objs.size≤b:=by
    simp only[List.mem_cons,List.mem_nil_iff,or_false] at hb
    rcases hb with rfl | rfl | rfl | rfl | rfl
    ·exact Nat.le_add_right _ _
    ·exact Nat.le_add_right _ _
    ·exact Nat.le_add_right _ _
    ·exact Nat.le_refl _
    ·exact Nat.le_add_right _ _
   exact I1.uA hb' (I1.hok.fresh hb')
theorem uG {K:W.Frag}{a b:Addr}{xs ys:List V}{g:TG}{tt:TT}{te:TE}{Q:VK}{D:Addr}{τ:St}{H:Hp} (Pv:Nat→List V→St→Hp→Prop) (h0:Pv 0 [] τ (upd H D (.lst [])))
  (hl:∀ i ws τ H,i≤min xs.length ys.length→Pv i ws τ H→aU K H a xs∧aV K H b ys∧H D=some (.lst ws))
  (hs:∀ i x y t ws τ H,xs[i]? = some x→ys[i]? = some y→H t=none→Pv i ws τ H→g (.ref t) τ (upd H t (.tup [x,y])) fun τ2 H2=>tt τ2 H2 fun b H3=>if b=true then te τ2 H3 fun v H4=>H4 D=some (.lst ws)∧ws.length < sizeLine∧Pv (i+1) (ws++[v]) τ2 (upd H4 D (.lst (ws++[v]))) else Pv (i+1) ws τ2 H3)
  (hd:∀ ws τ H,Pv (min xs.length ys.length) ws τ H→Q (.ref D) H):FQ (RX K a b) g tt te Q D τ H:=by
 refine⟨fun i m ws τ H=>m=min xs.length ys.length - i∧i≤min xs.length ys.length∧Pv i ws τ H,⟨min xs.length ys.length,by simp,Nat.zero_le _,h0⟩,?_⟩
 rintro i m ws τ H ⟨rfl,hi,p⟩
 obtain⟨q1,q2,hD⟩:=hl i ws τ H hi p
 refine⟨hD,?_⟩
 by_cases hlt:i < min xs.length ys.length
 ·have k1:i < xs.length:=by omega
  have k2:i < ys.length:=by omega
  refine .inr ⟨⟨xs,ys,xs[i],ys[i],q1,q2,by simp[k1],by simp[k2]⟩,Pv (i+1),fun zs σ' H' p'=>⟨min xs.length ys.length - (i+1),by omega,rfl,hlt,p'⟩,fun v H' y=>?_⟩
  obtain⟨t,x,y,ht,e1,e2,ex,ey⟩:=y
  subst e1 e2
  exact hs i x y t ws τ _ (ex xs q1) (ey ys q2) ht p
 ·have e:i=min xs.length ys.length:=by omega
  subst e
  exact .inl ⟨⟨xs,ys,q1,q2,rfl⟩,hd ws τ H p⟩
end L2
set_option synthInstance.maxSize 100000
set_option synthInstance.maxHeartbeats 400000
namespace L2
open PySem PySem.Spec PyProof.Rows
section
variable {X:Cx}{K:Type} [DecidableEq K] {F:W.Frag}{Z:kP X.prog X.w K}
def af7 {P:Program}{w:World}{K:Type} [DecidableEq K] {F:W.Frag}{Z:kP P w K} (Y:pI F Z):R2:=fun x y H Q=>∃ b' ks',y=.ref b'∧sI Y H ks' b'∧((x=.non∧Q (.bl false) H)∨∃ b ks,x=.ref b∧sI Y H ks b∧Q (.bl (decide (ks=ks'))) H)
theorem Vs (Y:pI F Z) (hF:X.K=F) (hu:X.A.units+(Z.dG+1) < cLine):lT X (compareOp .Eq) (af7 Y):=by
 intro pins s σ H x y v u Q I rx ry h
 obtain⟨b',ks',rfl,e2,h⟩:=h
 rcases h with ⟨rfl,q⟩ | ⟨b,ks,rfl,e1,q⟩
 ·cases rx;cases ry
  obtain⟨o',items',n',OW,h2',h3',Yk⟩:=e2.is hF I
  show wpAny _ _ (richCompare .Eq .none (.ref b')) _ _ _
  exact SeqAt.RcAt.none_tuple ⟨o',OW,h2',n',h3'⟩ (by omega) _ _ _ _ ⟨.bl false,H,I,rfl,q⟩
 ·exact O4 Y hF hu pins s σ H _ _ v u Q I rx ry ⟨b,b',ks,ks',rfl,rfl,e1,e2,q⟩
end
abbrev ZP (P:Program) (w:World):=stepK (stepK (ZM P w))
abbrev YP (P:Program) (w:World) (F:W.Frag):pI F (ZP P w):=Ge (Ge (YM P w F))
theorem aY (P:Program) (w:World):(ZP P w).dG+1≤8:=by show 4≤8;decide
theorem hp1 {A:Around}{P:Program}{w:World} (h:A.units+64 < cLine):A.units+((ZP P w).dG+1) < cLine:=by show A.units+4 < cLine;omega
theorem hp2 {A:Around}{P:Program}{w:World} (h:A.units+64 < cLine):A.units+1+((ZP P w).dG+1) < cLine:=by show A.units+1+4 < cLine;omega
abbrev RY:=(Str×Str)×Nat
abbrev cP:=RY×List (Option RY)
def Ji:Option RY→Lf ⊕ List (Lf ⊕ List Lf)
 | none=>.inl none
 | some m=>.inr (vB m)
theorem Pb {a b:Option RY} (h:Ji a=Ji b):a=b:=by
 cases a with
 | none=>cases b with
  | none=>rfl
  | some y=>exact nomatch h
 | some x=>cases b with
  | none=>exact nomatch h
  | some y=>injection h with h;rw[Dc.mp h]
theorem Dg:∀{a b:List (Option RY)},a.map Ji=b.map Ji→a=b
 | [],[],_=>rfl
 | [],_ :: _,h=>nomatch h
 | _ :: _,[],h=>nomatch h
 | x :: a,y :: b,h=>by injection h with h1 h2;rw[Pb h1,Dg h2]
def bw (m:cP):List (Lf ⊕ List (Lf ⊕ List (Lf ⊕ List Lf))):=[.inr [.inl (some (.inr m.1.1.1)),.inl (some (.inr m.1.1.2))],.inl (some (.inl m.1.2)),.inr (m.2.map Ji)]
theorem uH {m m':cP}:bw m=bw m'↔m=m':=by
 constructor
 ·obtain⟨⟨⟨a,b⟩,n⟩,l⟩:=m
  obtain⟨⟨⟨a',b'⟩,n'⟩,l'⟩:=m'
  intro h
  unfold bw at h
  injection h with h1 h2
  injection h2 with h2 h3
  injection h3 with h3 _
  injection h3 with h3
  injection h1 with h1;injection h1 with h1 h4;injection h4 with h4 _
  injection h1 with h1;injection h1 with h1;injection h1 with h1
  injection h4 with h4;injection h4 with h4;injection h4 with h4
  injection h2 with h2;injection h2 with h2;injection h2 with h2
  have h2:n=n':=Int.ofNat.inj h2
  have h3:=Dg h3
  have h1:a=a':=h1
  have h4:b=b':=h4
  have h3:l=l':=h3
  rw[h1,h4,h2,h3]
 ·rintro rfl;rfl
section
variable {P:Program}{w:World}{F:W.Frag}{H:Hp}
def f7 (F:W.Frag) (H:Hp):Option RY→V→Prop
 | none,v=>v=.non
 | some m,v=>∃ b s,v=.ref b∧aV F H b [.ref s,.int m.2]∧aV F H s [.str m.1.1,.str m.1.2]
def dH (F:W.Frag) (H:Hp) (m:cP) (v:V):Prop:=∃ b s u vs,v=.ref b∧aV F H b [.ref s,.int m.1.2,.ref u]∧aV F H s [.str m.1.1.1,.str m.1.1.2]∧aV F H u vs∧Paired (f7 F H) m.2 vs
theorem dH.keep {H':Hp}{m:cP}{v:V} (t:∀ b xs,aV F H b xs→aV F H' b xs) (h:dH F H m v):dH F H' m v:=by
 obtain⟨b,s,u,vs,e1,e2,e3,e4,e5⟩:=h
 have key:∀{os:List (Option RY)}{vs:List V},Paired (f7 F H) os vs→Paired (f7 F H') os vs:=by
  intro os vs h
  induction h with
  | nil=>exact .nil
  | cons h _ ih =>
   refine .cons ?_ ih
   rename_i o v _ _ _
   cases o with
   | none=>exact h
   | some m=>obtain⟨b,s,e1,e2,e3⟩:=h;exact⟨b,s,e1,t _ _ e2,t _ _ e3⟩
 exact⟨b,s,u,vs,e1,t _ _ e2,t _ _ e3,t _ _ e4,key e5⟩
theorem Vt {o:Option RY}{v:V} (h:f7 F H o v):(Ge (YM P w F)).on H (Ji o) v:=by
 cases o with
 | none=>have h:v=.non:=h;subst h;rfl
 | some m =>
  obtain⟨b,s,rfl,h1,h2⟩:=h
  exact⟨b,rfl,Ec h1 h2⟩
theorem Lo:∀{os:List (Option RY)}{vs:List V},Paired (f7 F H) os vs→Paired (fun k v=>(Ge (YM P w F)).on H k v) (os.map Ji) vs
 | _,_,.nil=>.nil
 | _,_,.cons a r=>.cons (Vt a) (Lo r)
theorem Pc {m:cP}{b s u:Addr}{vs:List V} (h:aV F H b [.ref s,.int m.1.2,.ref u]) (h2:aV F H s [.str m.1.1.1,.str m.1.1.2]) (h3:aV F H u vs) (h4:Paired (f7 F H) m.2 vs):sI (YP P w F) H (bw m) b :=
 ⟨_,h,.cons ⟨s,rfl,_,h2,.cons rfl (.cons rfl .nil)⟩ (.cons rfl (.cons ⟨u,rfl,vs,h3,Lo h4⟩ .nil))⟩
end
section
variable {prog:Program}{w:World}{A:Around}{E:Value→Shared→Prop}{s:Shared}{d ep:Nat}{od:Obj}{es:Array DictEntry}
theorem Ca (hd:(d == sysModules)=false):MeetsIn prog w (Builtin.«dict.__len__» ⟨[.ref d],[]⟩) (fun _ R s=>∃(o:Obj) (es:Array DictEntry) (ep:Nat),s.heap.get? d=some o∧o.data=.dict es ep∧R (.ok (.ret (.int es.size s.toks))) { s with toks:=s.toks+1 }) :=
 .of_wp fun A R s ⟨o,es,ep,ho,hdat,h⟩=>by
  show wpAny _ _ (dictSize d >>= _) _ _ s
  unfold dictSize
  refine wpAny_bind (wpAny_bind (wpAny_dictEntries ho hdat (wpAny_pure ?_)))
  show wpAny _ _ (Builtin.Dict.pendingCount d >>= _) _ _ s
  refine wpAny_bind (wpAny_pendingCount_other hd ?_)
  refine wpAny_ret_mkInt ?_
  rw[Nat.add_zero];exact h
theorem RZ {Q:Value→Shared→Prop} (hd:(d == sysModules)=false) (g:s.heap.get? d=some od) (c:od.ExactDict) (dt:od.data=.dict es ep) (hfit:(es.size:Int) < 2 ^ 63)
  (h:Q (.int es.size (s.toks+1)) { s with toks:=s.toks+1+1 }):wpAny (model prog w) A (call (.builtin "len") [.ref d]) Q E s:=by
 have ty:s.TypeIs (.ref d) "dict" := ⟨od,g,c.1⟩
 refine Calls.call_function_entry kind_len plain_len entry_len (args_len1 _) ?_
 unfold Builtin.«len»
 refine wpAny_bind (m:=oneArg "len" _) (wpAny_pure ?_)
 refine wpAny_bind (m:=callSpecial? (.ref d) ("__len__":Str)) (wpAny_callSpecial?_slot (name:=Str.ofString "__len__") ty PySem.F.slot_dict_len
  (call_meetsIn PySem.F.slot_dict_len ty PySem.F.entry_dict_len (PySem.F.args_dict_len_1 _) (Ca hd) ⟨od,es,ep,g,dt,?_⟩))
 show wpAny _ _ _ _ _ { s with toks:=s.toks+1 }
 refine wpAny_bind (wpAny_holding (wpAny_pure ?_))
 refine wpAny_bind (wpAny_letGo ?_)
 show wpAny _ _ (if ((es.size:Nat):Int) < 0 then _ else _) _ _ _
 rw[if_neg (by omega)]
 show wpAny _ _ (if ((es.size:Nat):Int)≥2 ^ 63 then _ else _) _ _ _
 rw[if_neg (by omega)]
 exact wpAny_bind (wpAny_mkInt (wpAny_pure ⟨_,rfl,h⟩))
end
section
variable {X:Cx}{P:Program}{w:World}{K:Type} [DecidableEq K] {F:W.Frag}{Z:kP P w K}
def ZN {P:Program}{w:World}{K:Type} [DecidableEq K] {F:W.Frag}{Z:kP P w K} (Y:pI F Z) (hl:Z.dG+1≤8):List V→Hp→VK→Prop:=fun xs H Q=>∃ a kvs,xs=[.ref a]∧Nd Y hl H a kvs∧Q (.int kvs.length) H
theorem Dh (Y:pI F Z) (hl:Z.dG+1≤8) (hP:X.prog=P) (hw:X.w=w) (hF:X.K=F):cY X (.builtin "len") (ZN Y hl):=by
 subst hP;subst hw
 intro pins s σ H xs vs Q I rx h
 obtain⟨a,kvs,rfl,nd,q⟩:=h
 obtain⟨z,y,ys,r,dd⟩:=Nd.of hF I nd
 obtain⟨o,es,ep,g,c,dt,he,_⟩:=dd
 cases rx with
 | cons r1 r2 =>
 cases r1;cases r2
 have e1:es.size=ys.length:=size_of_entries he
 have e2:=Paired.length r
 have e3:es.size=kvs.length:=by omega
 refine RZ y g c dt (by rw[e3];have:sizeLine=2 ^ 24:=rfl;omega) ⟨.int kvs.length,H,I.tok _,⟨_,by rw[e3]⟩,q⟩
end
section
variable {prog:Program}{w:World}{A:Around}{E:Value→Shared→Prop}{s:Shared}{d ep:Nat}{od:Obj}{es:Array DictEntry}
def Gy (es:Array DictEntry) (i:Nat) (v:Value):Prop:=∃ h:i < es.size,v=es[i].key
theorem Mm (hh:A.handled=none) (I d:Addr) (hne:d≠I) (dt:od.data=.dict es ep):Walks prog w A I [I,d] [I] es.size (Gy es) (fun i h=>h.IsKeyIter I d i es.size ep∧h.get? d=some od) where
 sub:=fun b hb=>by simp at hb;simp[hb]
 frame:=fun _ _ _ st hk=>⟨st.1.at fun o e=>hk I (by simp) o e,hk d (by simp) _ st.2⟩
 item:=fun i s Q E hi st hQ=>by
  refine Gr st.1 st.2 dt hi fun h' Mh hs'=>?_
  exact hQ _ h' s.toks ⟨hi,rfl⟩ ⟨Mh,(hs'.2 d hne).trans st.2⟩ fun b o hb e=>(hs'.2 b (fun h=>hb (by simp[h]))).trans e
 done:=fun s Q E st hQ=>Lm hh st.1 st.2 dt (Nat.le_refl _) fun h' he'=>hQ h' s.toks fun b o hb e=>he' b o (fun h=>hb (by simp[h])) e
 self:=fun _ _ _ _ st hQ=>wpAny_pyIter_keyiter st.1 hQ
theorem Pd {Q:Bool→Shared→Prop} (g:s.heap.get? d=some od) (c:od.ExactDict) (h:Q false s):wpAny (model prog w) A (Builtin.List.listLengthHint (.ref d)) Q E s:=by
 have ty:s.TypeIs (.ref d) "dict" := ⟨od,g,c.1⟩
 unfold Builtin.List.listLengthHint
 refine wpAny_bind (wpAny_specialOf ty PySem.F.slot_dict_len.lookup ?_)
 generalize hid:("dict.__len__" : String)=Zo
 wp_delta
 rw[show splitId Zo=some ("dict", "__len__") from by subst hid;decide +kernel]
 subst hid
 refine wpAny_bind (wpAny_isInstance (T := "dict") (b:=true) ty (by rw[isSubtype_type];kernel_rfl) ?_)
 refine wpAny_ite_split (fun hab=>absurd hab (by decide)) (fun _=>?_)
 refine wpAny_ite_split (fun _=>?_) (fun hab=>absurd (by decide +kernel) hab)
 show wpAny _ _ (typeOf (Value.ref d) >>= _) _ _ _
 refine wpAny_bind (wpAny_typeOf ty ?_)
 exact wpAny_pure h
theorem Jj {R:Result→Shared→Prop} (hh:A.handled=none) (nd:(d == sysModules)=false) (g:s.heap.get? d=some od) (c:od.ExactDict) (dt:od.data=.dict es ep) (hlen:es.size≤2 ^ 24)
  (S:Addr) (res:Value) (c₀:Nat) (hS:s.heap.get? S=some { cls:=.type "list",data:=.seq #[] c₀ })
  (hR:∀ h' tk acc' c',(∀ b o,b≠S→s.heap.get? b=some o→h'.get? b=some o)→h'.get? S=some { cls:=.type "list",dict:=none,data:=.seq acc' c',slots:=#[] }→ItemsOf (Gy es) acc' es.size→R (.ok (.ret res)) { s with heap:=h',toks:=tk }) :
  wpAny (model prog w) A.in1 (Builtin.List.listExtendWith (.ref S) (.ref d) res)
   (fun fin s'=>match fin with | .done f=>R (.ok f) s' | .again c'=>c'.quiet=true∧codeAny (model prog w) A c' R s') (fun e s'=>R (.error e) s') s:=by
 have hSd:S≠d:=fun e=>by rw[e,g] at hS;cases hS;cases dt
 have af8:S < s.heap.objs.size:=Heap.lt_size hS
 have hSI:S≠s.heap.objs.size:=Nat.ne_of_lt af8
 have hdI:d≠s.heap.objs.size:=Nat.ne_of_lt (Heap.lt_size g)
 have hSf:S∉[s.heap.objs.size,d]:=fun hm=>by
  rcases List.mem_cons.mp hm with q | q
  ·exact hSI q
  ·exact hSd (List.mem_singleton.mp q)
 have W:=(Mm (prog:=prog) (w:=w) (A:=A.in1) hh s.heap.objs.size d hdI dt).toS
 have key:∀(h:Heap) (c₁ tk:Nat),h.IsKeyIter s.heap.objs.size d 0 es.size ep→h.get? d=some od→(∀ b o,b≠S→s.heap.get? b=some o→h.get? b=some o) →
   h.get? S=some { cls:=.type "list",data:=.seq #[] c₁ }→codeAny (model prog w) A (.builtin "list.extend.loop" ⟨[.ref S,.ref s.heap.objs.size,res],[]⟩) R { s with heap:=h,toks:=tk }:=by
  intro h c₁ tk hit hd' hk Gz
  refine codeAny_extend_loopS W (by rw[sizeLine_eq];omega) S hSf res es.size 0 _ #[] c₁ rfl (Nat.zero_le _) ⟨hit,hd'⟩ Gz (ItemsOf.nil _) fun s' acc' c' hm hS' hacc=>?_
  rw[Moved.eq_with hm]
  refine hR s'.heap s'.toks acc' c' (fun b o hb e=>hm.heap b o (fun hmem=>?_) (hk b o hb e)) hS' hacc
  rcases List.mem_cons.mp hmem with e' | hmem
  ·exact hb e'
  ·exact absurd (Heap.lt_size e) (by rw[List.mem_singleton.mp hmem];exact Nat.lt_irrefl _)
 have ty:s.TypeIs (.ref d) "dict" := ⟨od,g,c.1⟩
 unfold Builtin.List.listExtendWith
 refine wpAny_bind (wpAny_typeOf (T := "dict") ty ?_)
 have h1:Builtin.List.listSameRef (.ref S) (.ref d)=false:=by simp[Builtin.List.listSameRef,hSd]
 have h2:(Value.type "dict" == Value.type "list")=false:=by decide
 have h3:(Value.type "dict" == Value.type "tuple")=false:=by decide
 simp only[h1,h2,h3,Bool.or_false,Bool.false_eq_true,if_false]
 refine wpAny_bind (Gq nd g c dt ?_)
 refine wpAny_bind (wpAny_holding (Pd (Heap.get?_push_of_some _ g) c ?_))
 have xG:(s.heap.push { cls:=.type "dict_keyiterator",data:=.fields #[.ref d,.int 0 0,.int es.size 0,.int ep 0] }).IsKeyIter s.heap.objs.size d 0 es.size ep:=⟨_,Heap.get?_push_size _ rfl,rfl,rfl⟩
 have Gz:=Heap.get?_push_of_some { cls:=.type "dict_keyiterator",data:=.fields #[.ref d,.int 0 0,.int es.size 0,.int ep 0] } hS
 have g₁:=Heap.get?_push_of_some { cls:=.type "dict_keyiterator",data:=.fields #[.ref d,.int 0 0,.int es.size 0,.int ep 0] } g
 refine wpAny_ite_split (fun _=>?_) (fun _=>wpAny_pure ⟨plainId_quiet PySem.F.plain_extend_loop _,key _ c₀ _ xG g₁ (fun b o _ e=>Heap.get?_push_of_some _ e) Gz⟩)
 refine wpAny_bind (wpAny_rule ?_)
 refine wpAny_bind ?_
 show wpAny _ _ (updateSeq S (·.push .none) >>= fun _=>updateSeq S (·.pop)) _ _ _
 refine wpAny_bind (wpAny_updateSeq Gz rfl ?_)
 have Df:=Heap.get?_update_self (Obj.mapSeq (·.push Value.none)) Gz rfl
 refine wpAny_updateSeq (hz:=by seq_fits) Df rfl ?_
 have ZO:=Heap.get?_update_self (Obj.mapSeq (·.pop)) Df rfl
 refine wpAny_pure ⟨plainId_quiet PySem.F.plain_extend_loop _,key _ _ _ ?_ ?_ (fun b o hb e=>?_) ZO⟩
 ·exact xG.at fun o e=>(Heap.get?_update_other _ _ hSI).trans ((Heap.get?_update_other _ _ hSI).trans e)
 ·exact(Heap.get?_update_other _ _ hSd).trans ((Heap.get?_update_other _ _ hSd).trans g₁)
 ·exact(Heap.get?_update_other _ _ (Ne.symm hb)).trans ((Heap.get?_update_other _ _ (Ne.symm hb)).trans (Heap.get?_push_of_some _ e))
theorem Pe {R:Result→Shared→Prop} (hh:A.handled=none) (nd:(d == sysModules)=false) (g:s.heap.get? d=some od) (c:od.ExactDict) (dt:od.data=.dict es ep) (hlen:es.size≤2 ^ 24)
  (S:Addr) (hS:s.heap.get? S=some { cls:=.type "list",data:=.seq #[] })
  (hR:∀ h' tk acc' c',(∀ b o,b≠S→s.heap.get? b=some o→h'.get? b=some o)→h'.get? S=some { cls:=.type "list",dict:=none,data:=.seq acc' c',slots:=#[] }→ItemsOf (Gy es) acc' es.size→R (.ok (.ret .none)) { s with heap:=h',toks:=tk }) :
  wpAny (model prog w) A.in1 (Builtin.«list.__init__» ⟨[.ref S,.ref d],[]⟩)
   (fun fin s'=>match fin with | .done f=>R (.ok f) s' | .again c'=>c'.quiet=true∧codeAny (model prog w) A c' R s') (fun e s'=>R (.error e) s') s:=by
 have hSd:S≠d:=fun e=>by rw[e,g] at hS;cases hS;cases dt
 show wpAny _ _ (do let old ←Builtin.List.listItems (.ref S);Builtin.List.listUpdate (.ref S) (fun _=>#[]);letGo old.toList.reverse;Builtin.List.listExtendWith (.ref S) (.ref d) .none) _ _ s
 refine wpAny_bind ?_
 unfold Builtin.List.listItems
 refine wpAny_bind (wpAny_seqItems hS rfl (wpAny_pure ?_))
 show wpAny _ _ (updateSeq S (fun _=>#[]) >>= fun _=>letGo (#[]:Array Value).toList.reverse >>= fun _=>Builtin.List.listExtendWith (.ref S) (.ref d) .none) _ _ s
 refine wpAny_bind (wpAny_updateSeq hS rfl ?_)
 have Df:=Heap.get?_update_self (Obj.mapSeq (fun _=>(#[]:Array Value))) hS rfl
 have Ym:∀ b o,b≠S→s.heap.get? b=some o→(s.heap.update S (Obj.mapSeq (fun _=>(#[]:Array Value)))).get? b=some o :=
  fun b o hb e=>(Heap.get?_update_other _ _ (Ne.symm hb)).trans e
 refine wpAny_bind (wpAny_letGo ?_)
 refine Jj hh nd (Ym d _ (Ne.symm hSd) g) c dt hlen S .none _ Df fun h' tk acc' c' hk hS' hacc=>?_
 exact hR h' tk acc' c' (fun b o hb e=>hk b o hb (Ym b o hb e)) hS' hacc
end
section
variable {prog:Program}{w:World}{A:Around}{E:Value→Shared→Prop}{s:Shared}{d ep:Nat}{od:Obj}{es:Array DictEntry}
theorem Pf {Q:Value→Shared→Prop} (hh:A.handled=none) (nd:(d == sysModules)=false) (g:s.heap.get? d=some od) (c:od.ExactDict) (dt:od.data=.dict es ep) (hlen:es.size≤2 ^ 24)
  (hQ:∀ h' tk acc' c',(∀ b o,s.heap.get? b=some o→h'.get? b=some o) →
   h'.get? s.heap.objs.size=some { cls:=.type "list",dict:=none,data:=.seq acc' c',slots:=#[] }→ItemsOf (Gy es) acc' es.size→Q (.ref s.heap.objs.size) { s with heap:=h',toks:=tk }) :
  wpAny (model prog w) A (call (.type "list") [.ref d]) Q E s:=by
 refine callType_codes (Q₁:=fun obj s₁=>obj=.ref s.heap.objs.size∧s₁={ s with heap:=s.heap.push { cls:=.type "list",data:=.seq #[] } }) PySem.F.called_list (PySem.F.typeCall_list_1 _) PySem.F.entry_list_init
  (code_list_new _ ⟨rfl,rfl⟩) fun obj s₁ h₁=>?_
 obtain⟨rfl,rfl⟩:=h₁
 have hS:(s.heap.push { cls:=.type "list",data:=.seq #[] }).get? s.heap.objs.size=some { cls:=.type "list",data:=.seq #[] }:=Heap.get?_push_size _ rfl
 refine⟨⟨_,hS,rfl⟩,PySem.F.args_list_init_2 _ _,Pe (A:=A.in1) hh nd (Heap.get?_push_of_some _ g) c dt hlen _ hS fun h' tk acc' c' hk hS' hacc=>?_⟩
 exact⟨rfl,hQ h' tk acc' c' (fun b o e=>hk b o (Nat.ne_of_lt (Heap.lt_size e)) (Heap.get?_push_of_some _ e)) hS' hacc⟩
end
section
variable {X:Cx}{P:Program}{w:World}{K:Type} [DecidableEq K] {F:W.Frag}{Z:kP P w K}
theorem Mp {Z:kP P w K}{hl:Z.dG+1≤8}{h:Heap}{a:Addr}{kvs:List (N3 K)}{o:Obj}{es:Array DictEntry}{ep:Nat} (q:yK Z hl a kvs h) (g:h.get? a=some o) (dt:o.data=.dict es ep) {acc:Array Value} (hacc:ItemsOf (Gy es) acc es.size):Vals (kvs.map fun (e:N3 K)=>V.ref e.2.1) acc.toList:=by
 obtain⟨hsz,hkey⟩:=pQ q g dt
 have xj:acc.toList.length=kvs.length:=by rw[Array.length_toList,hacc.1,hsz]
 have hat:∀ j v,acc.toList[j]? = some v→∃ e:N3 K,kvs[j]? = some e∧v=Value.ref e.2.1:=fun j v hv=>by
  rw[Array.getElem?_toList] at hv
  obtain⟨hj,rfl⟩:=hacc.2 j v hv
  have hj':j < kvs.length:=by omega
  exact⟨kvs[j],List.getElem?_eq_getElem hj',hkey j hj _ (List.getElem?_eq_getElem hj')⟩
 clear hacc hkey hsz q g dt
 generalize acc.toList=us at xj hat
 induction kvs generalizing us with
 | nil=>cases us with
  | nil=>exact .nil
  | cons u us=>cases xj
 | cons e kvs ih=>cases us with
  | nil=>cases xj
  | cons u us =>
   obtain⟨e',h1,h2⟩:=hat 0 u rfl
   have h1:some e=some e':=h1
   cases h1
   subst h2
   exact .cons rfl (ih us (Nat.succ.inj xj) fun j v hv=>hat (j+1) v hv)
def Vu {P:Program}{w:World}{K:Type} [DecidableEq K] {F:W.Frag}{Z:kP P w K} (Y:pI F Z) (hl:Z.dG+1≤8):List V→Hp→VK→Prop:=fun xs H Q=>∃(a:Addr) (kvs:List (N3 K)),xs=[.ref a]∧Nd Y hl H a kvs∧∀ l,H l=none→Q (.ref l) (upd H l (.lst (kvs.map fun (e:N3 K)=>V.ref e.2.1)))
theorem Jk (Y:pI F Z) (hl:Z.dG+1≤8) (hc:X.calm=true) (hP:X.prog=P) (hw:X.w=w) (hF:X.K=F):cY X (.type "list") (Vu Y hl):=by
 subst hP;subst hw
 intro pins s σ H xs vs Q I rx h
 obtain⟨a,kvs,rfl,nd,q⟩:=h
 have nn:yK Z hl a kvs s.heap:=(show dS X.prog X.w H s.heap a (dN Z hl a kvs) from I.hok a _ nd.ob).1
 obtain⟨z,y,ys,r,o,es,ep,g,c,dt,rest⟩:=id nn
 cases rx with
 | cons r1 r2 =>
 cases r1;cases r2
 obtain⟨hsz,_⟩:=pQ nn g dt
 refine Pf (I.ok.hd hc) y g c dt (by rw[hsz];exact z) fun h' tk acc' c' hk hS hacc=>?_
 refine⟨.ref _,_,I.laid (t':=tk) (o:=.lst (kvs.map fun e=>V.ref e.2.1)) (fun b u e=>hk b u e) (Nat.le_refl _) ⟨?_,acc'.toList,c',Mp nn g dt hacc,?_⟩,rfl,q _ (I.hok.fresh (Nat.le_refl _))⟩
 ·rw[List.length_map];exact z
 ·rw[hS]
end
section
variable {X:Cx}{K:Type} [DecidableEq K] {F:W.Frag}{Z:kP X.prog X.w K}
end
section
variable {P:Program}{w:World}{K:Type} [DecidableEq K]
def Back (Z:kP P w K) (hl:Z.dG+1≤8) (G G':Hp):Prop:=G'=G∨∃ a kvs o,G a=some (dX Z hl a kvs o)∧G'=upd G a (dN Z hl a kvs)
def T8 (Z:kP P w K) (hl:Z.dG+1≤8) (t:TS):TS:=fun D σ H=>t ⟨fun σ' G=>∃ G',Back Z hl G G'∧D.nx σ' G',fun v G=>∃ G',Back Z hl G G'∧D.rt v G',fun σ' G=>∃ G',Back Z hl G G'∧D.bk σ' G',fun σ' G=>∃ G',Back Z hl G G'∧D.ct σ' G'⟩ σ H
end
section
variable {X:Cx}{K:Type} [DecidableEq K] {Z:kP X.prog X.w K}{hl:Z.dG+1≤8}
theorem Inv.back {pins:List (Addr×Obj)}{σ:St}{G G':Hp}{s:Shared} (I:Inv X pins σ G s) (b:Back Z hl G G'):Inv X pins σ G' s:=by
 rcases b with rfl | ⟨a,kvs,o,d,rfl⟩
 ·exact I
 ·obtain⟨nd,g⟩:=Ln I d
  have ok:dS X.prog X.w (upd G a (dN Z hl a kvs)) s.heap a (dN Z hl a kvs):=by
   refine⟨nd,⟨o,g⟩,fun g1 g2 q k=>?_⟩
   obtain⟨z,y,xs,r,o',es,ep,h1,h2,h3,h4,h5⟩:=q
   exact⟨z,y,xs,r,o',es,ep,k _ h1,h2,h3,h4,h5⟩
  exact I.write (x:=a) (e:=a) (t':=s.toks) (h':=s.heap) (by rw[d];exact True.intro) (.inl rfl) (fun b u _ e=>e) ⟨o,g⟩ ok
theorem Pg {st:Stmt}{t:TS} (h:PS X st t):PS X st (T8 Z hl t):=by
 intro pins s σ H D I q
 refine dj (h pins s σ H _ I q) fun f s' r=>?_
 cases f with
 | next=>obtain⟨σ',H',I',G',b,z⟩:=r;exact⟨σ',G',I'.back b,z⟩
 | brk=>obtain⟨σ',H',I',G',b,z⟩:=r;exact⟨σ',G',I'.back b,z⟩
 | cont=>obtain⟨σ',H',I',G',b,z⟩:=r;exact⟨σ',G',I'.back b,z⟩
 | ret u=>obtain⟨v,σ',H',I',rv,G',b,z⟩:=r;exact⟨v,σ',G',I'.back b,rv,z⟩
end
theorem R1 {X:Cx}{P:Program}{w:World}{K:Type} [DecidableEq K] (Z:kP P w K) (hl:Z.dG+1≤8) (hP:X.prog=P) (hw:X.w=w) {st:Stmt}{t:TS} (h:PS X st t):PS X st (T8 Z hl t):=by
 subst hP hw;exact Pg h
theorem Ph {P:Program}{w:World}{K:Type} [DecidableEq K] {Z:kP P w K}{hl:Z.dG+1≤8}{a:Addr}{kvs:List (N3 K)}{o:Obj}{g:TG}{tb:TS}{D:Ends}{σ:St}{H:Hp} (Pv:Nat→St→Hp→Prop) (h0:Pv 0 σ H) (hl':∀ i σ H,i≤kvs.length→Pv i σ H→H a=some (dX Z hl a kvs o))
  (hs:∀ i e σ H,kvs[i]? = some e→Pv i σ H→g (.ref e.2.1) σ H fun σ2 H2=>tb { D with nx:=Pv (i+1),ct:=Pv (i+1),bk:=D.nx } σ2 H2) (hd:∀ σ H,Pv kvs.length σ H→D.nx σ H) :
  ∃ W:Nat→Nat→St→Hp→Prop,(∃ m,W 0 m σ H)∧∀ i m σ H,W i m σ H →
   ((ZH Z hl a kvs o).stop i H∧D.nx σ H)∨((ZH Z hl a kvs o).go i H∧∃ N:St→Hp→Prop,(∀ σ' H',N σ' H'→∃ m',m' < m∧W (i+1) m' σ' H')∧∀ x H',(ZH Z hl a kvs o).NQ i H x H'→g x σ H' fun σ2 H2=>tb { D with nx:=N,ct:=N,bk:=D.nx } σ2 H2):=by
 refine⟨fun i m σ H=>m=kvs.length - i∧i≤kvs.length∧Pv i σ H,⟨kvs.length,by simp,Nat.zero_le _,h0⟩,?_⟩
 rintro i m σ H ⟨rfl,hi,p⟩
 have q:=hl' i σ H hi p
 by_cases hlt:i < kvs.length
 ·refine .inr ⟨⟨q,kvs[i],List.getElem?_eq_getElem hlt⟩,Pv (i+1),fun σ' H' p'=>⟨kvs.length - (i+1),by omega,rfl,hlt,p'⟩,fun x H' y=>?_⟩
  obtain⟨e,e1,h1,h2⟩:=y
  subst e h2
  exact hs i e1 σ _ h1 p
 ·have e:i=kvs.length:=by omega
  subst e
  exact .inl ⟨⟨q,Nat.le_refl _⟩,hd σ H p⟩
inductive TyX (K:W.Frag) (H:Hp):V→Value→Prop where
 | of {x:V}{t:Value} (h:uB K H x t):TyX K H x t
 | ZQ {a:Addr}{xs:List V} (h:aV K H a xs):TyX K H (.ref a) (.type "tuple")
 | sql {a:Addr}{xs:List V} (h:aU K H a xs):TyX K H (.ref a) (.type "list")
section
variable {X:Cx}
def af9 (K:W.Frag):List V→Hp→VK→Prop:=fun xs H Q=>∃ x n t b,xs=[x,.ty n]∧TyX K H x t∧W.kitOne K t (.type n)=some b∧Q (.bl b) H
theorem kZ (K:W.Frag) (h:X.K=K):cY X (.builtin "isinstance") (af9 K):=by
 subst h
 intro pins s σ H xs vs Q I rx q
 obtain⟨x,n,t,b,rfl,ty,e,q⟩:=q
 cases ty with
 | of ty=>exact cE X.K rfl pins s σ H _ vs Q I rx ⟨x,_,t,b,rfl,ty,.inl ⟨n,rfl,e⟩,q⟩
 | @ZQ a xs ha =>
  obtain⟨its,r,⟨o,h1,h2,_⟩,_⟩:=I.tuple ha
  cases rx with
  | cons r1 r2 =>
  cases r2 with
  | cons r2 r3 =>
  cases r1;cases r2;cases r3
  exact W.kia_one W.kitx_tuple I.vj ⟨o,h1,h2⟩ e (fun z=>nomatch z) fun tk=>⟨.bl b,H,I.tok _,rfl,q⟩
 | @sql a xs ha =>
  obtain⟨its,r,p,_⟩:=I.list ha
  cases rx with
  | cons r1 r2 =>
  cases r2 with
  | cons r2 r3 =>
  cases r1;cases r2;cases r3
  obtain⟨o,h1,h2⟩:∃ o,s.heap.get? a=some o∧o.cls=.type "list" := by
   obtain⟨o,h1,h2,_⟩:=p.isList
   exact⟨o,h1,h2⟩
  exact W.kia_one W.kitx_list I.vj ⟨o,h1,h2⟩ e (fun z=>nomatch z) fun tk=>⟨.bl b,H,I.tok _,rfl,q⟩
end
section
variable {P:Program}{w:World}{K:Type} [DecidableEq K] {F:W.Frag}{Z:kP P w K}
structure Ndx (Y:pI F Z) (hl:Z.dG+1≤8) (H:Hp) (a:Addr) (kvs:List (N3 K)):Prop where
 ob:H a=some (dN Z hl a kvs)∨∃ o,H a=some (dX Z hl a kvs o)
 keys:∀ e∈kvs,sI Y H e.1 e.2.1
def T9 (Z:kP P w K) (hl:Z.dG+1≤8):TE:=fun _ H Q=>∀ p,H p=none→Q (.ref p) (upd H p (dN Z hl p []))
def ZR (neg:Bool) (Y:pI F Z) (hl:Z.dG+1≤8) (ty td:TE):TE:=fun σ H Q=>ty σ H fun y H1=>td σ H1 fun x H2=>∃ a kvs k b,x=.ref a∧y=.ref b∧Ndx Y hl H2 a kvs∧sI Y H2 k b∧Q (.bl (if neg then !(valN kvs k).isSome else (valN kvs k).isSome)) H2
end
section
variable {X:Cx}{K:Type} [DecidableEq K] {F:W.Frag}{Z:kP X.prog X.w K}{Y:pI F Z}{hl:Z.dG+1≤8}{i o:Expr}{ty td:TE}{pos:Pos}
theorem Ndx.of {H:Hp}{a:Addr}{kvs:List (N3 K)}{pins:List (Addr×Obj)}{σ:St}{s:Shared} (hF:X.K=F) (I:Inv X pins σ H s) (d:Ndx Y hl H a kvs):kvs.length≤sizeLine∧(a == sysModules)=false∧∃ xs,xE kvs xs∧s.heap.DictOfH (tT Z hl) a xs:=by
 have nd:yK Z hl a kvs s.heap:=by
  rcases d.ob with q | ⟨ob,q⟩
  ·exact(show dS X.prog X.w H s.heap a (dN Z hl a kvs) from I.hok a _ q).1
  ·exact(Ln I q).1
 obtain⟨z,y,xs,r,o,es,ep,h1,h2,h3,h4,h5⟩:=nd
 refine⟨z,y,xs,r,o,es,ep,h1,h2,h3,h4,fun x hx=>?_,h5⟩
 obtain⟨p,hp,e1,e2⟩:=Gf r x hx
 have:=(d.keys p hp).is hF I
 rw[e1,e2] at this
 exact this
theorem R4:PE X (.Dict [] [] pos) (T9 Z hl):=fun pins s σ H Q I h=>by
 have hn:=I.hok.fresh (Nat.le_refl s.heap.objs.size)
 have y0:(s.heap.objs.size == sysModules)=false:=beq_eq_false_iff_ne.mpr (Ne.symm (Nat.ne_of_lt I.big))
 have I1:=I.laid (a:=s.heap.objs.size) (o:=dN Z hl s.heap.objs.size []) (h':=s.heap.push { cls:=.type "dict",data:=.dict #[] }) (t':=s.toks) (fun _ _ q=>Heap.get?_push_of_some _ q) (Nat.le_refl _) (Lk (xs:=[]) (Nat.zero_le _) y0 .nil (Heap.DictOfH.new s.heap))
 exact wpAny_Dict_empty ⟨.ref s.heap.objs.size,_,I1,rfl,h _ hn⟩
theorem Vv (Y:pI F Z) (hl:Z.dG+1≤8) (hF:X.K=F) (hu:X.A.units+1+(Z.dG+1) < cLine) (hi:PE X i ty) (ho:PE X o td):PC X .In i o (ZR false Y hl ty td):=by
 intro pins s σ H Q I h
 refine dj (hi pins s σ H _ I h) fun iv s1 ⟨y,H1,I1,ry,q1⟩=>dj (ho pins s1 σ H1 _ I1 q1) fun u s2 ⟨x,H2,I2,rx,a,kvs,k,b,ex,ey,d,e,q2⟩=>?_
 subst ex ey
 obtain rfl:u=Value.ref a:=rx
 obtain rfl:iv=Value.ref b:=ry
 obtain⟨z,y,xs,rel,dd⟩:=d.of hF I2
 refine wpAny_in_heap (knd:=tT Z hl) hu (e.is hF I2) y dd ?_
 have q:=(qX (k:=k) rel).xD
 rw[Option.isSome_map] at q
 rw[←q]
 exact⟨.bl (valN kvs k).isSome,H2,I2.tok _,rfl,q2⟩
end
section
variable {X:Cx}{P:Program}{w:World}{K:Type} [DecidableEq K] {F:W.Frag}{Z:kP P w K}{i o:Expr}{ty td:TE}{pos:Pos}
theorem Pj (Z:kP P w K) (hl:Z.dG+1≤8) (hP:X.prog=P) (hw:X.w=w):PE X (.Dict [] [] pos) (T9 Z hl):=by subst hP hw;exact R4
theorem R5 (Y:pI F Z) (hl:Z.dG+1≤8) (hP:X.prog=P) (hw:X.w=w) (hF:X.K=F) (hu:X.A.units+1+(Z.dG+1) < cLine) (hi:PE X i ty) (ho:PE X o td):PC X .In i o (ZR false Y hl ty td):=by
 subst hP hw;exact Vv Y hl hF hu hi ho
end
section
variable {prog:Program}{w:World}{A:Around}{E:Value→Shared→Prop}{s:Shared}
theorem GA {it t:Addr}{items:Array Value} (hne:t≠it):∀(n i:Nat) (s:Shared) (Q:List Value→Shared→Prop),s.heap.IsListIter it t i→s.heap.IsList t items→i+n≤items.size →
  (∀ h',h'.IsListIter it t (i+n)→Heap.SameBut it s.heap h'→Q ((items.toList.drop i).take n) { s with heap:=h' })→wpAny (model prog w) A (draw (.ref it) n) Q E s
 | 0,i,s,Q,hit,_,_,hQ=>by
  show wpAny _ _ (pure []) Q E s
  exact wpAny_pure (by simpa using hQ s.heap hit (Heap.SameBut.refl ..))
 | n+1,i,s,Q,hit,ht,hle,hQ=>by
  have hlt:i < items.size:=by omega
  show wpAny _ _ (pyNext (.ref it) >>= _) Q E s
  refine wpAny_bind (wpAny_pyNext_list_item hit ht (x:=items[i]) (by simp[hlt]) fun h₁ xG hs₁=>?_)
  refine wpAny_bind (wpAny_holding (GA hne n (i+1) _ _ xG (ht.extBut hs₁.extBut hne) (by omega) fun h₂ Vw hs₂=>wpAny_pure ?_))
  have hd:items.toList.drop i=items[i] :: items.toList.drop (i+1):=by simp[List.drop_eq_getElem_cons,hlt]
  have:=hQ h₂ (by rw[show i+(n+1)=i+1+n by omega];exact Vw) (hs₁.trans hs₂)
  rw[hd,List.take_succ_cons] at this
  exact this
theorem zh {t:Addr}{items:Array Value}{Q:List Value→Shared→Prop} (hh:A.handled=none) (ht:s.heap.IsList t items)
  (hQ:∀ h',Heap.ExtBut s.heap.objs.size s.heap h'→Q items.toList { s with heap:=h' }):wpAny (model prog w) A (unpackItems (.ref t) items.size none) Q E s:=by
 have hlt:t≠s.heap.objs.size:=by obtain⟨o,ho,_⟩:=ht;exact Nat.ne_of_lt (Heap.lt_size ho)
 unfold unpackItems
 refine wpAny_bind ?_
 ·unfold notIterableAtAll
  refine wpAny_bind (wpAny_specialOf ht.typeIs slot_list_iter.lookup ?_)
  refine wpAny_pure ?_
  simp only[Bool.false_eq_true,if_false]
  refine wpAny_bind (wpAny_holding (wpAny_pyIter_list ht ?_))
  refine wpAny_bind (wpAny_holding (GA hlt items.size 0 _ _ ⟨_,Heap.get?_push_size _ rfl,rfl,rfl⟩ (ht.push _) (by omega) fun h₁ xG hs₁=>?_))
  have hall:List.take items.size (List.drop 0 items.toList)=items.toList:=by
   rw[List.drop_zero];exact List.take_of_length_le (by simp)
  rw[hall]
  rw[if_neg (by simp)]
  have ht₁:h₁.IsList t items:=(ht.push _).extBut hs₁.extBut hlt
  refine wpAny_bind (wpAny_holding (wpAny_pyNext_list_end hh xG ht₁ (by simp) fun h₂ ZS=>?_))
  simp only[Option.isSome_none,Bool.false_eq_true,if_false]
  refine wpAny_pure (hQ h₂ fun b o hb e=>ZS b o hb (hs₁.extBut b o hb (Heap.get?_push_of_some _ e)))
end
section
variable {X:Cx}
def aga (K:W.Frag) (n:Nat) (t:Ra):TG:=fun v σ H Q=>∃ a xs,v=.ref a∧aU K H a xs∧xs.length=n∧t xs σ H Q
theorem R6 (K:W.Frag) (hK:X.K=K) (n:Nat) {es:List Expr}{k:Nat}{pos:Pos}{t:Ra} (hc:X.calm=true) (h:X6 X es t)
  (hn:(assignEach es X.env).length=n:=by rfl) (hst:(assignEach es X.env).findIdx? (·.1)=none:=by rfl):PG X (.Tuple es k pos) (aga K n t):=by
 subst hK
 intro pins s σ H v u Q I r hw
 obtain⟨a,xs,e1,hq,hl,hw⟩:=hw
 subst e1
 cases r
 obtain⟨its,rv,ht,hz⟩:=I.list hq
 rw[assign_Tuple]
 refine wpAny_bind (wpAny_standAt ?_)
 unfold unpack
 have hsz:(assignEach es X.env).length=its.toArray.size:=by simp[hn,←hl,rv.length]
 rw[hsz,hst]
 refine wpAny_bind (wpAny_holding (zh (I.ok.hd hc) ht.isList fun h' hx=>?_))
 have I1:Inv X pins σ H { s with heap:=h' }:=I.kept (t':=s.toks) fun b o e=>hx b o (Nat.ne_of_lt (Heap.lt_size e)) e
 exact h pins _ σ H xs _ Q I1 (by simpa using rv) hw
end
theorem NS {x:Str}:[x].Nodup:=.cons (fun y hy=>nomatch hy) .nil
section
variable {X:Cx}
theorem jY (i:Nat) {x:Str}{pos:Pos} (hN:X.N.Nodup) (hi:X.N[i]? = some x:=by rfl) (hx:Loc X.env.scope x:=by first | exact .inl rfl | exact .inr rfl) (hf:X.fn x=true∨X.env.scope.names.lookup x=some .local:=by first | exact .inl rfl | exact .inr rfl | assumption):PG X (.Name x pos) (bK i):=Rm hN hi hx hf
theorem dW (i:Nat) {x:Str}{e:Expr}{te:TE}{pos pos':Pos} (hN:X.N.Nodup) (he:PE X e te) (hi:X.N[i]? = some x:=by rfl) (hx:Loc X.env.scope x:=by first | exact .inl rfl | exact .inr rfl) (hs:swapsWith e (some (.Name x pos')) pos.line X.env=pure false:=by rfl) (hf:X.fn x=true∨X.env.scope.names.lookup x=some .local:=by first | exact .inl rfl | exact .inr rfl | assumption) :
 PS X (.Assign [.Name x pos'] e pos) (Rn te (bK i)):=UN hN hi hx he hs hf
theorem Di {XN:List Str}{Yd:Scope}{N:List Str}{nv:Nat}{js:List Nat}{scope:Scope} (kind:scope.kind=.function:=by rfl) (cell:∀ y∈scope.names,y.2≠.cell:=by decide +kernel) (loc:∀ y∈scope.names,y.2=.local→scope.names.lookup y.1=some .local:=by decide +kernel)
 (free:∀ y∈scope.names,y.2=.free→(Yd.names.lookup y.1=some .cell∨Yd.names.lookup y.1=some .free):=by decide +kernel) (nd:N.Nodup:=by decide +kernel) (len:N.length=nv+js.length:=by rfl) (pl:js.map (fun j=>XN[j]?)=(N.drop nv).map some:=by rfl)
 (fr:∀ x∈N.drop nv,scope.names.lookup x=some .free:=by decide +kernel):bg XN Yd N nv js scope:=⟨kind,cell,loc,free,nd,len,pl,fr⟩
theorem iS {id:String}{r:List V→Hp→VK→Prop}{x:Str}{e:Expr}{es:List Expr}{t:TA}{p pos:Pos} (hc:cY X (.builtin id) r) (hm:X.mg x=none) (ha:PA X (e :: es) t) (hg:Gl X x:=by rfl) (hv:bootBuiltins x=some (.builtin id):=by decide +kernel) (hn:x ≠ "__name__" := by decide) (hdb:(x == ("__debug__" : Str))=false:=by decide)
 (he:starEach (e :: es) X.env=(false,eval e X.env) :: starEach es X.env:=by rfl) (hpl:(backTo pos (starEach es X.env)).any (·.1)=false:=by rfl):PE X (.Call (.Name x p) (e :: es) [] pos) (tCB r t):=Oi hc hg hm hv ha hn hdb he hpl
theorem Yp {T:String}{r:List V→Hp→VK→Prop}{x:Str}{e:Expr}{es:List Expr}{t:TA}{p pos:Pos} (hc:cY X (.type T) r) (hm:X.mg x=none) (ha:PA X (e :: es) t) (hg:Gl X x:=by rfl) (hv:bootBuiltins x=some (.type T):=by decide +kernel) (hn:x ≠ "__name__" := by decide) (hdb:(x == ("__debug__" : Str))=false:=by decide)
 (he:starEach (e :: es) X.env=(false,eval e X.env) :: starEach es X.env:=by rfl) (hpl:(backTo pos (starEach es X.env)).any (·.1)=false:=by rfl):PE X (.Call (.Name x p) (e :: es) [] pos) (tCB r t):=LW hc hg hm hv ha hn hdb he hpl
theorem Io (n:String) {x:Str}{pos:Pos} (hm:X.mg x=none) (hg:Gl X x:=by rfl) (hv:bootBuiltins x=some (.type n):=by decide +kernel) (hn:x ≠ "__name__" := by decide) (hd:(x == ("__debug__" : Str))=false:=by decide):PE X (.Name x pos) (tC (.ty n)):=Va n hg hm hv hn hd
theorem dY {k kk:Nat}{f:Addr}{fd:FuncData}{ps:List Str}{sp:Sp}{x:Str}{e:Expr}{es:List Expr}{t:TA}{p pos:Pos} (F:aG X.prog X.w X.K X.mg X.base bu k f fd ps sp) (hr:iO kk X.A) (hm:X.mg x=some (.ref f)) (hk:W.keepIn X.K (.ref f)=true) (hb:Binds X.K fd ps []) (ha:PA X (e :: es) t) (hkk:k≤kk:=by decide) (hg:Gl X x:=by rfl)
 (hdb:(x == ("__debug__" : Str))=false:=by decide) (he:starEach (e :: es) X.env=(false,eval e X.env) :: starEach es X.env:=by rfl) (hpl:(backTo pos (starEach es X.env)).any (·.1)=false:=by rfl):PE X (.Call (.Name x p) (e :: es) [] pos) (TU sp [] E0 t):=Ru F (hr.mono hkk) hg hm hk hb .nil gh ha hdb he hpl
theorem f9 (K:W.Frag) {a b:Expr}{ta tb:TE}{pos:Pos} (ha:PE X a ta) (hb:PE X b tb) (hs:D7 b:=by exact fun _ _=>rfl) (h:X.K=K:=by rfl):PE X (.Subscript a b pos) (TN (U1 K) ta tb):=Lb (RG K h) ha hb hs
theorem Jl (K:W.Frag) {a b:Expr}{ta tb:TE}{pos:Pos} (ha:PE X a ta) (hb:PE X b tb) (hs:D7 b:=by exact fun _ _=>rfl) (h:X.K=K:=by rfl):PE X (.Subscript a b pos) (TN (U0 K) ta tb):=Lb (OD K h) ha hb hs
theorem fJ {op:CmpOp}{r:R2}{a b:Expr}{ta tb:TE}{pos:Pos} (ho:lT X (compareOp op) r) (ha:PE X a ta) (hb:PE X b tb) (h:op≠.In:=by decide) (h2:op≠.NotIn:=by decide):PT X (.Compare a [op] [b] pos) (TR (TN r ta tb)):=ic ho ha hb (Oc b h h2)
theorem Cb {op:CmpOp}{r:R2}{a b:Expr}{ta tb:TE}{pos:Pos} (ho:lT X (compareOp op) r) (ha:PE X a ta) (hb:PE X b tb) (h:op≠.In:=by decide) (h2:op≠.NotIn:=by decide):PE X (.Compare a [op] [b] pos) (TN r ta tb):=D0 ho ha hb (Oc b h h2)
end
theorem bR {a b:TS}{D:Ends}{σ:St}{H:Hp} (h:∀ R:TS,(∀ D σ H,b D σ H→R D σ H)→Rl a R D σ H):Rl a b D σ H:=h b fun _ _ _ z=>z
abbrev FO (n q:Str) (s:Stmt) (d oc:Value) (od:Option Addr) (kV dc pm:Value) (an:Option Addr) (cd ct:Value) (sl:Array (Option Value)):Option Obj:=some ⟨oc,od,.func (W.fnOf n q (d7 s) (di s) (au s) d kV dc pm an cd ct),sl⟩
abbrev FN (n q:Str) (s:Stmt) (d kV dc pm:Value) (an:Option Addr) (cd ct:Value):FuncData:=W.fnOf n q (d7 s) (di s) (au s) d kV dc pm an cd ct
abbrev RF (a:Addr):Option (Option Value):=some (some (.ref a))
theorem fH.m7 {K:W.Frag}{x qual:Str}{st:Stmt}{f:Addr}{fd:FuncData}{ps:List Str} (F:fH K x qual st f fd) (hp:ps.length=1:=by rfl)
  (h:∀(kV doc pm:Value) (an:Option Addr) (cdv ct a0:Value),bindArgs (W.fnOf x qual (d7 st) (di st) (au st) .none kV doc pm an cdv ct) ⟨[a0],[]⟩=pure (ps.zip [a0]):=by intros;rfl):Binds K fd ps [] :=
 F.binds fun kV doc pm an cdv ct us hl=>by
  rw[hp] at hl
  match us,hl with
  | [a0],_=>exact h kV doc pm an cdv ct a0
theorem fH.oJ {K:W.Frag}{x qual:Str}{st:Stmt}{f:Addr}{fd:FuncData}{ps:List Str} (F:fH K x qual st f fd) (hp:ps.length=2:=by rfl)
  (h:∀(kV doc pm:Value) (an:Option Addr) (cdv ct a0 a1:Value),bindArgs (W.fnOf x qual (d7 st) (di st) (au st) .none kV doc pm an cdv ct) ⟨[a0,a1],[]⟩=pure (ps.zip [a0,a1]):=by intros;rfl):Binds K fd ps [] :=
 F.binds fun kV doc pm an cdv ct us hl=>by
  rw[hp] at hl
  match us,hl with
  | [a0,a1],_=>exact h kV doc pm an cdv ct a0 a1
theorem fH.uI {K:W.Frag}{x qual:Str}{st:Stmt}{f:Addr}{fd:FuncData}{ps:List Str} (F:fH K x qual st f fd) (hp:ps.length=3:=by rfl)
  (h:∀(kV doc pm:Value) (an:Option Addr) (cdv ct a0 a1 a2:Value),bindArgs (W.fnOf x qual (d7 st) (di st) (au st) .none kV doc pm an cdv ct) ⟨[a0,a1,a2],[]⟩=pure (ps.zip [a0,a1,a2]):=by intros;rfl):Binds K fd ps [] :=
 F.binds fun kV doc pm an cdv ct us hl=>by
  rw[hp] at hl
  match us,hl with
  | [a0,a1,a2],_=>exact h kV doc pm an cdv ct a0 a1 a2
theorem fH.GB {K:W.Frag}{x qual:Str}{st:Stmt}{f:Addr}{fd:FuncData}{ps:List Str} (F:fH K x qual st f fd) (hp:ps.length=4:=by rfl)
  (h:∀(kV doc pm:Value) (an:Option Addr) (cdv ct a0 a1 a2 a3:Value),bindArgs (W.fnOf x qual (d7 st) (di st) (au st) .none kV doc pm an cdv ct) ⟨[a0,a1,a2,a3],[]⟩=pure (ps.zip [a0,a1,a2,a3]):=by intros;rfl):Binds K fd ps [] :=
 F.binds fun kV doc pm an cdv ct us hl=>by
  rw[hp] at hl
  match us,hl with
  | [a0,a1,a2,a3],_=>exact h kV doc pm an cdv ct a0 a1 a2 a3
end L2
namespace My
open PySem L2
def top (i:Nat):Stmt:=PySem.Challenge.pw_dialecthall_k79_whole_more_others.main.body.getD i (.Pass ⟨0,0,0,0⟩)
abbrev eG:Stmt:=top 14
abbrev cD:Stmt:=top 35
abbrev bC:Stmt:=inClass (top 36) 0
abbrev gj:Stmt:=inClass (top 36) 1
abbrev iT:Stmt:=top 37
abbrev fL:Stmt:=inClass (top 45) 0
abbrev dI:Stmt:=inClass (top 47) 0
abbrev dB:Stmt:=top 30
abbrev cM:Stmt:=top 15
abbrev oK:Stmt:=top 17
abbrev oM:Stmt:=top 18
abbrev eH:Stmt:=top 19
abbrev iB:Stmt:=top 20
abbrev gS:Stmt:=top 31
abbrev jZ:Stmt:=top 32
abbrev AB:Stmt:=top 21
abbrev dJ:Stmt:=inClass (top 36) 2
abbrev bO:Stmt:=top 50
abbrev cN:Stmt:=inClass (top 51) 0
abbrev fz:Stmt:=inClass (top 6) 0
abbrev mh:Stmt:=top 13
abbrev oN:Stmt:=top 16
abbrev j0:Stmt:=top 24
abbrev oO:Stmt:=top 25
abbrev fM:Stmt:=top 26
abbrev gk:Stmt:=top 33
abbrev cQ:Stmt:=top 39
abbrev fN:Stmt:=top 40
abbrev gT:Stmt:=top 41
abbrev gU:Stmt:=top 42
abbrev fO:Stmt:=top 43
abbrev iU:Stmt:=top 44
abbrev j7:Stmt:=inClass (top 45) 1
abbrev eN:Stmt:=inClass (top 45) 2
abbrev cF:Stmt:=inClass (top 47) 1
abbrev cz:Stmt:=inClass (top 47) 2
abbrev fX:Stmt:=top 49
abbrev eO:Stmt:=inClass (top 51) 1
abbrev cW:Stmt:=inClass (top 51) 2
abbrev j8:Stmt:=top 53
abbrev oQ:Stmt:=top 54
abbrev gW:Stmt:=top 59
abbrev AD:Stmt:=top 60
abbrev iV:Stmt:=top 62
abbrev AE:Stmt:=top 63
abbrev qY:Stmt:=top 64
abbrev mj:Stmt:=top 65
abbrev iW:Stmt:=top 66
abbrev oR:Stmt:=top 68
abbrev iL:Stmt:=top 69
abbrev mq:Stmt:=top 70
abbrev jC:Stmt:=top 71
abbrev lO:Stmt:=top 72
abbrev gn:Stmt:=top 74
abbrev iX:Stmt:=top 75
abbrev gX:Stmt:=top 76
abbrev j9:Stmt:=top 77
abbrev iY:Stmt:=top 78
abbrev kc:Stmt:=top 79
abbrev kg:Stmt:=top 80
abbrev kh:Stmt:=top 81
abbrev gY:Stmt:=top 82
abbrev fB:Stmt:=top 83
abbrev iZ:Stmt:=top 84
abbrev eV:Stmt:=top 85
abbrev i0:Stmt:=top 86
abbrev vF:Stmt:=top 87
theorem aq {H:Hp}{l:Addr}{o:HO} (h:H l=none):aE H (upd H l o):=fun b u e=>by rw[aC (bq e h)];exact e
theorem aI {H H2:Hp}{l:Addr}{o:HO} (h:H l=none) (s:aE H H2):aE H (upd H2 l o):=fun b u e=>by rw[aC (bq e h)];exact s b u e
theorem qZ {i:Nat}{x:V}{σ:St}{H:Hp}{A B:St→Hp→Prop} (h:A (σ.set i (some x)) H):bK i x σ H (fun τ2 H2=>Ow τ2 H2 fun b H3=>if b=true then A τ2 H3 else B τ2 H3):=by
 show(if true=true then A (σ.set i (some x)) H else B (σ.set i (some x)) H)
 exact lU h
theorem Pk {p A B:Prop} [Decidable p] (hp:¬p) (h:B):if decide p=true then A else B:=by rw[if_neg (by simpa using hp)];exact h
theorem Po {A B:Prop}{b:Bool} (hb:b=true) (h:B):if (!b)=true then A else B:=by rw[hb];exact dF h
theorem Jm {α:Type}{xs:List α}{i:Int} (h0:0≤i) (h:i < xs.length):∃ c,LX xs i=some c∧c∈xs:=by
 obtain⟨j,rfl⟩:∃ j:Nat,i=j:=⟨i.toNat,by omega⟩
 have hj:j < xs.length:=by omega
 exact⟨xs[j],Ab (by simp[hj]),List.getElem_mem hj⟩
theorem take_snoc {l:List Nat}{i c:Nat} (h:l[i]? = some c):l.take (i+1)=l.take i++[c]:=by
 rw[List.take_succ,h];rfl
def Pn (c:Nat):Prop:=32≤c∧c≤126∧c≠37
instance (c:Nat):Decidable (Pn c):=by unfold Pn;exact inferInstance
structure Sg (z:Str):Prop where
 nd:z.cps.toList.Nodup
 pr:∀ c∈z.cps.toList,Pn c
def Mn (z:Str):Prop:=0 < z.length∧z.length≤100∧∀ c∈z.cps.toList,Pn c
instance (z:Str):Decidable (Mn z):=by unfold Mn;exact inferInstance
structure Gd (p q f:Str):Prop where
 gp:Sg p
 gq:Sg q
 gf:Sg f
 p1:1≤p.length
 p3:p.length≤3
 q2:q.length≤2
 f2:f.length≤2
def vG (p q f:Str) (b1 b2 b3 b4:Bool):List V:=[.str p,.str q,.str f,.bl b1,.bl b2,.bl b3,.bl b4]
def AF (p q f:Str) (b1 b2 b3 b4:Bool):List (Str×V):=[("parts",.str p),("quotes",.str q),("frees",.str f),("twin",.bl b1),("wide",.bl b2),("thin",.bl b3),("stray",.bl b4)]
def away (t:Str) (c:Nat):Bool:=!(!(Builtin.Str.occurrences t (sg c) 0 t.length 1).isEmpty)
theorem mw (t:Str) (c:Nat):away t c=true↔c∉t.cps.toList:=by
 unfold away
 have e:(!(Builtin.Str.occurrences t (sg c) 0 t.length 1).isEmpty)=decide (c∈t.cps.toList):=StrLaws.found_one t c
 rw[e]
 simp
theorem Vx {z:Str}{c:Nat} (h:Sg z) (hc:Pn c) (ha:away z c=true):Sg (z++sg c):=by
 have e:(z++sg c).cps.toList=z.cps.toList++[c]:=by
  show(z.cps ++ #[c]).toList=_
  simp
 have hn:=(mw z c).mp ha
 refine⟨?_,?_⟩
 ·rw[e,List.nodup_append]
  refine⟨h.nd,by simp,fun a ha b hb=>?_⟩
  rw[List.mem_singleton.mp hb]
  intro q;exact hn (q ▸ ha)
 ·rw[e]
  intro d hd
  rcases List.mem_append.mp hd with z' | z'
  ·exact h.pr d z'
  ·rw[List.mem_singleton.mp z'];exact hc
theorem Vy:Sg ("":Str):=by
 have e:("":Str).cps.toList=[]:=by decide +kernel
 refine⟨?_,?_⟩
 ·rw[e];exact List.nodup_nil
 ·rw[e];intro c hc;cases hc
theorem cg (a b:Str):(a++b).length=a.length+b.length:=by
 show(a.cps++b.cps).size=_
 rw[Array.size_append];rfl
theorem aF {K:W.Frag}{H H':Hp}{a:Addr}{xs:List V} (e:aE H H') (h:aV K H a xs):aV K H' a xs:=by
 rcases h with (h | ⟨o,h⟩) | h
 ·exact .inl (.inl (e _ _ h))
 ·exact .inl (.inr ⟨o,e _ _ h⟩)
 ·exact .inr h
theorem Ua {A B:Prop}{b:Bool} (hb:b=false) (h:A):if (!b)=true then A else B:=by rw[hb];exact lU h
theorem tV {A B:Prop}{b:Bool} (hb:b=true) (h:A):if b=true then A else B:=by rw[hb];exact lU h
theorem rj {A B:Prop}{b:Bool} (hb:b=false) (h:B):if b=true then A else B:=by rw[hb];exact dF h
def pJ (c:Nat) (z:Str):Bool:=!(Builtin.Str.occurrences z (sg c) 0 z.length 1).isEmpty
def bz (a b:Str):Bool:=decide (V.str a=V.str b)
theorem pS {a b:Str} (h:bz a b=true):a=b:=by have:=of_decide_eq_true h;cases this;rfl
theorem bh (a:Str):bz a a=true:=decide_eq_true rfl
inductive Res where
 | go (k w u:Str)
 | pL (w:Str)
def Cc (K:W.Frag) (H:Hp) (v:V):Res→Prop
 | .go k w u=>bz k ("fault":Str)=false∧∃ a b,v=.ref a∧aV K H a [.str k,.ref b]∧aV K H b [.str w,.str u]
 | .pL w=>∃ a,v=.ref a∧aV K H a [.str ("fault":Str),.str w]
theorem gZ {K:W.Frag}{H:Hp}{Q:VK}{k w u:Str}{r:Res} (e:r=.go k w u) (hk:bz k ("fault":Str)=false) (h:∀ v H',aE H H'→Cc K H' v r→Q v H') :
  [V.str w,V.str u].length≤sizeLine∧∀ b,H b=none→([V.str k,V.ref b].length≤sizeLine∧∀ a,(upd H b (.tup [.str w,.str u])) a=none→Q (.ref a) (upd (upd H b (.tup [.str w,.str u])) a (.tup [.str k,.ref b]))):=by
 refine⟨(by show 2≤sizeLine;decide),fun b hb=>⟨(by show 2≤sizeLine;decide),fun a ha=>?_⟩⟩
 have s1:=aq (o:=HO.tup [.str w,.str u]) hb
 have s2:=aq (o:=HO.tup [.str k,.ref b]) ha
 refine h _ _ (s1.trans s2) ?_
 rw[e]
 exact⟨hk,a,b,rfl,aV.of aj,aF s2 (aV.of aj)⟩
theorem Ek {K:W.Frag}{H H0:Hp}{Q:VK}{k w u:Str}{r:Res}{b:Addr} (e:r=.go k w u) (hk:bz k ("fault":Str)=false) (s0:aE H0 H) (hb:aV K H b [.str w,.str u]) (h:∀ v H',aE H0 H'→Cc K H' v r→Q v H') :
  [V.str k,V.ref b].length≤sizeLine∧∀ a,H a=none→Q (.ref a) (upd H a (.tup [.str k,.ref b])):=by
 refine⟨(by show 2≤sizeLine;decide),fun a ha=>?_⟩
 have s2:=aq (o:=HO.tup [.str k,.ref b]) ha
 refine h _ _ (s0.trans s2) ?_
 rw[e]
 exact⟨hk,a,b,rfl,aV.of aj,aF s2 hb⟩
theorem AG {K:W.Frag}{H:Hp}{Q:VK}{w:Str}{r:Res} (e:r=.pL w) (h:∀ v H',aE H H'→Cc K H' v r→Q v H') :
  [V.str ("fault":Str),V.str w].length≤sizeLine∧∀ a,H a=none→Q (.ref a) (upd H a (.tup [.str ("fault":Str),.str w])):=by
 refine⟨(by show 2≤sizeLine;decide),fun a ha=>?_⟩
 have s2:=aq (o:=HO.tup [.str ("fault":Str),.str w]) ha
 refine h _ _ s2 ?_
 rw[e]
 exact⟨a,rfl,aV.of aj⟩
theorem ni:bz ("skip":Str) ("fault":Str)=false:=by decide +kernel
theorem Jo:bz ("end":Str) ("fault":Str)=false:=by decide +kernel
theorem El:bz ("part":Str) ("fault":Str)=false:=by decide +kernel
theorem mC:bz ("put":Str) ("fault":Str)=false:=by decide +kernel
def i7 (p q f:Str) (b3:Bool) (w u:Str) (c:Nat):Res :=
 if pJ c f=true then .go ("skip":Str) ("freed":Str) ("":Str) else
 if bz (sg c) (Str.ofString "\n")=true then .go ("end":Str) ("row":Str) ("":Str) else
 if pJ c q=true then .go ("skip":Str) ("within":Str) (sg c) else
 if pJ c p=true then .go ("part":Str) ("cell":Str) ("":Str) else
 if bz (sg c) (" ":Str)=true then (if b3=true then .go ("skip":Str) w u else .go ("put":Str) ("plain":Str) ("":Str)) else
 .go ("put":Str) ("plain":Str) ("":Str)
def i8 (p q f:Str) (b4:Bool) (c:Nat):Res :=
 if pJ c f=true then .go ("skip":Str) ("freed":Str) ("":Str) else
 if bz (sg c) (Str.ofString "\n")=true then .go ("end":Str) ("row":Str) ("":Str) else
 if pJ c p=true then .go ("part":Str) ("cell":Str) ("":Str) else
 if pJ c q=true then (if (!b4)=true then .pL ("quote":Str) else .go ("put":Str) ("plain":Str) ("":Str)) else
 .go ("put":Str) ("plain":Str) ("":Str)
def d8 (f:Str) (b1 b2:Bool) (u:Str) (c:Nat):Res :=
 if pJ c f=true then .go ("skip":Str) ("freed":Str) u else
 if bz (sg c) u=true then (if b1=true then .go ("skip":Str) ("doubt":Str) u else .go ("skip":Str) ("behind":Str) ("":Str)) else
 if bz (sg c) (Str.ofString "\n")=true then (if (!b2)=true then .pL ("line":Str) else .go ("put":Str) ("within":Str) u) else
 .go ("put":Str) ("within":Str) u
def cT (p:Str) (b3:Bool) (c:Nat):Res :=
 if bz (sg c) (Str.ofString "\n")=true then .go ("end":Str) ("row":Str) ("":Str) else
 if pJ c p=true then .go ("part":Str) ("cell":Str) ("":Str) else
 if bz (sg c) (" ":Str)=true then (if b3=true then .go ("skip":Str) ("behind":Str) ("":Str) else .pL ("behind":Str)) else
 .pL ("behind":Str)
def mD (p:Str) (b3:Bool) (u:Str) (c:Nat):Res:=if bz (sg c) u=true then .go ("put":Str) ("within":Str) u else cT p b3 c
def fD (u:Str):Res:=if bz u ("":Str)=true then .go ("put":Str) ("plain":Str) ("":Str) else .go ("put":Str) ("within":Str) u
def gK (b2:Bool) (u:Str) (c:Nat):Res :=
 if bz (sg c) (Str.ofString "\n")=true then (if (!b2)=true then .pL ("line":Str) else fD u) else fD u
def qv (p q f:Str) (b3 b4:Bool) (w u:Str) (c:Nat):Res:=if bz w ("plain":Str)=true then i8 p q f b4 c else i7 p q f b3 w u c
def bE (p q f:Str) (b1 b2 b3 b4:Bool) (w u:Str) (c:Nat):Res :=
 if bz w ("within":Str)=true then d8 f b1 b2 u c else
 if bz w ("freed":Str)=true then gK b2 u c else
 if bz w ("doubt":Str)=true then mD p b3 u c else
 if bz w ("behind":Str)=true then cT p b3 c else
 qv p q f b3 b4 w u c
theorem ns {a b:String} (h:bz (Str.ofString a) (Str.ofString b)=false):¬bz (Str.ofString a) (Str.ofString b)=true:=by rw[h];decide
theorem Pp {p q f:Str}{b1 b2 b3 b4:Bool}{w u:Str}{c:Nat} (h:bz w ("plain":Str)=true):bE p q f b1 b2 b3 b4 w u c=i8 p q f b4 c:=by
 cases pS h
 unfold bE qv
 rw[if_neg (ns (by decide +kernel)),if_neg (ns (by decide +kernel)),if_neg (ns (by decide +kernel)),if_neg (ns (by decide +kernel)),if_pos (bh _)]
theorem xH {p q f:Str}{b1 b2 b3 b4:Bool}{w u:Str}{c:Nat} (h:bz w ("within":Str)=true):bE p q f b1 b2 b3 b4 w u c=d8 f b1 b2 u c:=by
 unfold bE
 rw[if_pos h]
theorem GC {p q f:Str}{b1 b2 b3 b4:Bool}{w u:Str}{c:Nat} (h:bz w ("doubt":Str)=true):bE p q f b1 b2 b3 b4 w u c=mD p b3 u c:=by
 cases pS h
 unfold bE
 rw[if_neg (ns (by decide +kernel)),if_neg (ns (by decide +kernel)),if_pos (bh _)]
theorem Dj {p q f:Str}{b1 b2 b3 b4:Bool}{w u:Str}{c:Nat} (h:bz w ("behind":Str)=true):bE p q f b1 b2 b3 b4 w u c=cT p b3 c:=by
 cases pS h
 unfold bE
 rw[if_neg (ns (by decide +kernel)),if_neg (ns (by decide +kernel)),if_neg (ns (by decide +kernel)),if_pos (bh _)]
theorem vH {p q f:Str}{b1 b2 b3 b4:Bool}{w u:Str}{c:Nat} (h:bz w ("freed":Str)=true):bE p q f b1 b2 b3 b4 w u c=gK b2 u c:=by
 cases pS h
 unfold bE
 rw[if_neg (ns (by decide +kernel)),if_pos (bh _)]
theorem Lp {p q f:Str}{b1 b2 b3 b4:Bool}{w u:Str}{c:Nat} (h1:bz w ("within":Str)=false) (h2:bz w ("freed":Str)=false) (h3:bz w ("doubt":Str)=false) (h4:bz w ("behind":Str)=false):bE p q f b1 b2 b3 b4 w u c=qv p q f b3 b4 w u c:=by
 unfold bE
 rw[h1,h2,h3,h4]
 rfl
theorem vI {b:Bool} (h:¬b=true):b=false:=by cases b <;> simp_all
def ZT (d:Addr):List (Str×V):=[("dialect",.ref d)]
structure Tn (C CT:Addr) (H:Hp) (y:Addr) (p q f:Str) (b1 b2 b3 b4:Bool):Prop where
 ok:∃ dy d dd,H y=some (.ins CT dy (ZT d))∧H d=some (.ins C dd (AF p q f b1 b2 b3 b4))
theorem Tn.mono {C CT:Addr}{H H':Hp}{y:Addr}{p q f:Str}{b1 b2 b3 b4:Bool} (s:aE H H') (h:Tn C CT H y p q f b1 b2 b3 b4):Tn C CT H' y p q f b1 b2 b3 b4:=by
 obtain⟨dy,d,dd,e1,e2⟩:=h.ok
 exact⟨dy,d,dd,s _ _ e1,s _ _ e2⟩
theorem lP {H H':Hp}{y dy:Addr}{o:HO} (hy:H y=none) (R7:H dy=none) (kp:∀ b o',upd (upd H dy (.own y)) y o b=some o'→b≠y→H' b=some o'):aE H H':=fun b o' e=>kp b o' (by rw[aC (bq e hy),aC (bq e R7)];exact e) (bq e hy)
theorem fP {H:Hp}{y dy b:Addr}{o o':HO} (hy:H y=none) (R7:H dy=none) (e:H b=some o'):upd (upd H dy (.own y)) y o b=some o':=by rw[aC (bq e hy),aC (bq e R7)];exact e
def gc (K:W.Frag) (H:Hp) (x:V) (w:Str×Str):Prop:=∃ a,x=.ref a∧aV K H a [.str w.1,.str w.2]
theorem gc.mono {K:W.Frag}{H H':Hp}{x:V}{w:Str×Str} (e:aE H H') (h:gc K H x w):gc K H' x w:=let ⟨a,e1,e2⟩:=h;⟨a,e1,aF e e2⟩
theorem gc.but {K:W.Frag}{H:Hp}{x:V}{w:Str×Str}{l:Addr}{ys:List V}{o:HO} (hl:H l=some (.lst ys)) (h:gc K H x w):gc K (upd H l o) x w:=by
 obtain⟨a,e1,e2⟩:=h
 refine⟨a,e1,?_⟩
 rcases e2 with (h | ⟨ob,h⟩) | h
 ·exact .inl (.inl ((aC (f6 h hl (by intro z;cases z))).trans h))
 ·exact .inl (.inr ⟨ob,(aC (f6 h hl (by intro z;cases z))).trans h⟩)
 ·exact .inr h
theorem aH {α β:Type}{F G:α→β→Prop} (h:∀ a b,F a b→G a b):∀{xs:List α}{ys:List β},Paired F xs ys→Paired G xs ys
 | _,_,.nil=>.nil
 | _,_,.cons q r=>.cons (h _ _ q) (aH h r)
theorem cj {α β:Type}{F:α→β→Prop}:∀{xs xs':List α}{ys ys':List β},Paired F xs ys→Paired F xs' ys'→Paired F (xs++xs') (ys++ys')
 | _,_,_,_,.nil,r=>r
 | _,_,_,_,.cons q t,r=>.cons q (cj t r)
theorem aQ {α β:Type}{F:α→β→Prop}:∀{xs:List α}{ys:List β},Paired F xs ys→∀(j:Nat) x,xs[j]? = some x→∃ y,ys[j]? = some y∧F x y
 | _,_,.nil,j,x,h=>by simp at h
 | _,_,.cons q t,0,x,h=>by simp at h;subst h;exact⟨_,rfl,q⟩
 | _,_,.cons q t,j+1,x,h=>by
  obtain⟨y,h1,h2⟩:=aQ t j x (by simpa using h)
  exact⟨y,by simpa using h1,h2⟩
def c5:List (Str×Str):=[(Str.ofString "row",Str.ofString ""),(Str.ofString "cell",Str.ofString ""),(Str.ofString "plain",Str.ofString ""),(Str.ofString "behind",Str.ofString ""),(Str.ofString "freed",Str.ofString "")]
def c3 (c:Nat):List (Str×Str):=[(Str.ofString "within",sg c),(Str.ofString "doubt",sg c),(Str.ofString "freed",sg c)]
def cont (l:List Nat):List (Str×Str):=c5++l.flatMap c3
theorem Mq (l:List Nat) (c:Nat):cont (l++[c])=cont l++c3 c:=by
 unfold cont;rw[List.flatMap_append,←List.append_assoc];simp
theorem Pq (l:List Nat):(cont l).length=5+3 * l.length:=by
 unfold cont
 rw[List.length_append]
 have e:(l.flatMap c3).length=3 * l.length:=by
  induction l with
  | nil=>rfl
  | cons c l ih=>rw[List.flatMap_cons,List.length_append,ih,List.length_cons];show 3+_=_;omega
 rw[e];rfl
theorem ZU {K:W.Frag}{H:Hp}{t0 t1 t2 t3 t4:Addr} (q0:aV K H t0 [.str ("row":Str),.str ("":Str)]) (q1:aV K H t1 [.str ("cell":Str),.str ("":Str)]) (q2:aV K H t2 [.str ("plain":Str),.str ("":Str)])
  (q3:aV K H t3 [.str ("behind":Str),.str ("":Str)]) (q4:aV K H t4 [.str ("freed":Str),.str ("":Str)]):Paired (gc K H) [.ref t0,.ref t1,.ref t2,.ref t3,.ref t4] (cont []):=by
 show Paired (gc K H) _ c5
 unfold c5
 exact .cons ⟨_,rfl,q0⟩ (.cons ⟨_,rfl,q1⟩ (.cons ⟨_,rfl,q2⟩ (.cons ⟨_,rfl,q3⟩ (.cons ⟨_,rfl,q4⟩ .nil))))
theorem ZV {K:W.Frag}{H:Hp}{u1 u2 u3:Addr}{c:Nat} (q1:aV K H u1 [.str ("within":Str),.str (sg c)]) (q2:aV K H u2 [.str ("doubt":Str),.str (sg c)]) (q3:aV K H u3 [.str ("freed":Str),.str (sg c)]):Paired (gc K H) [.ref u1,.ref u2,.ref u3] (c3 c):=by
 unfold c3
 exact .cons ⟨_,rfl,q1⟩ (.cons ⟨_,rfl,q2⟩ (.cons ⟨_,rfl,q3⟩ .nil))
def nin (u f:Str):Bool:=!(!(Builtin.Str.occurrences f u 0 f.length 1).isEmpty)
def fQ (f w u:Str):Bool:=if bz u ("":Str)=true then true else if bz w ("doubt":Str)=true then true else nin u f
def yL (w u:Str):Bool:=qJ [.str w,.str u] [.str ("row":Str),.str ("":Str)]
theorem Em (c:Nat) (z:Str):pJ c z=decide (c∈z.cps.toList):=StrLaws.found_one z c
theorem En {c:Nat}{z:Str} (h:c∉z.cps.toList):¬pJ c z=true:=by rw[Em];simpa using h
theorem l10 {z:Str} (g:Sg z):¬pJ 10 z=true:=En fun h=>by have:=(g.pr 10 h).1;omega
theorem Jp {c d:Nat} (h:c≠d):¬bz (sg c) (sg d)=true:=fun e=>by
 have:=pS e
 unfold sg at this
 injection this with e2
 exact h (by simpa using e2)
theorem AH:∀ c:Nat,¬bz (sg c) ("":Str)=true:=fun c e=>by
 have:=congrArg Str.length (pS e)
 have e0:("":Str).length=0:=by decide +kernel
 rw[e0] at this
 exact absurd this (by show ¬(1=0);decide)
theorem la:Str.ofString "a" = sg 97:=by decide +kernel
theorem app_list (a b:Str):(a++b).cps.toList=a.cps.toList++b.cps.toList:=by
 show(a.cps++b.cps).toList=_
 simp
theorem pT:("":Str).cps.toList=[]:=by decide +kernel
def pU (q w u:Str):Prop:=(u=Str.ofString ""∧(w=Str.ofString "row"∨w=Str.ofString "cell"∨w=Str.ofString "plain"∨w=Str.ofString "behind"∨w=Str.ofString "freed"))∨∃ c,c∈q.cps.toList∧u=sg c∧(w=Str.ofString "within"∨w=Str.ofString "doubt"∨w=Str.ofString "freed")
theorem xJ {p q f:Str}{b1 b2 b3 b4:Bool}{u:Str}{c:Nat} (a:String) (h1:bz (Str.ofString a) ("within":Str)=false) (h2:bz (Str.ofString a) ("freed":Str)=false) (h3:bz (Str.ofString a) ("doubt":Str)=false) (h4:bz (Str.ofString a) ("behind":Str)=false):bE p q f b1 b2 b3 b4 (Str.ofString a) u c=qv p q f b3 b4 (Str.ofString a) u c:=Lp h1 h2 h3 h4
theorem lg {K:W.Frag}{H:Hp}{a l:Addr}{xs ys:List V}{o:HO} (hl:H l=some (.lst ys)) (e2:aV K H a xs):aV K (upd H l o) a xs:=by
 rcases e2 with (h | ⟨ob,h⟩) | h
 ·exact .inl (.inl ((aC (f6 h hl (by intro z;cases z))).trans h))
 ·exact .inl (.inr ⟨ob,(aC (f6 h hl (by intro z;cases z))).trans h⟩)
 ·exact .inr h
theorem aS {α:Type}{l:List α}{i:Nat}{c:α} (h:l[i]? = some c):l.take (i+1)=l.take i++[c]:=by
 rw[List.take_succ,h];rfl
def bU (z:Str):Prop:=∀ k∈z.cps.toList,k=10∨Pn k
theorem sgL {c:Nat}{z:Str} (e:z=Str.ofString "\n") (h:¬decide (V.str (sg c)=V.str z)=true):c≠10:=fun e2=>h (by
 have:Str.ofString "\n" = sg 10:=by decide +kernel
 rw[e,e2,this];exact decide_eq_true rfl)
theorem jD {t u:TS}{D:Ends}{σ:St}{H:Hp} (N:St→Hp→Prop) (hu:∀ σ' H',N σ' H'→u D σ' H') (ht:(∀ σ' H',N σ' H'→u D σ' H')→t { D with nx:=u D } σ H):Rl t u D σ H:=ht hu
theorem Jq:bU ("":Str):=by
 have e:("":Str).cps.toList=[]:=by decide +kernel
 intro k hk;rw[e] at hk;cases hk
theorem nX:("":Str).length=0:=by decide +kernel
def runM (p q f:Str) (b1 b2 b3 b4:Bool):Str→Str→List Nat→List Str×Str×Str×Option Str
 | w,u,[]=>([],w,u,none)
 | w,u,c :: cs=>match bE p q f b1 b2 b3 b4 w u c with
  | .pL e=>([],w,u,some e)
  | .go k w' u'=>(k :: (runM p q f b1 b2 b3 b4 w' u' cs).1,(runM p q f b1 b2 b3 b4 w' u' cs).2)
def Jr (ks:List Str) (r:List Str×Str×Str×Option Str):List Str×Str×Str×Option Str:=(ks++r.1,r.2)
theorem Vz {p q f:Str}{b1 b2 b3 b4:Bool}{w u k w' u':Str}{c:Nat}{cs:List Nat}{ks:List Str} (h:bE p q f b1 b2 b3 b4 w u c=.go k w' u'):Jr ks (runM p q f b1 b2 b3 b4 w u (c :: cs))=Jr (ks++[k]) (runM p q f b1 b2 b3 b4 w' u' cs):=by
 have e:runM p q f b1 b2 b3 b4 w u (c :: cs)=(k :: (runM p q f b1 b2 b3 b4 w' u' cs).1,(runM p q f b1 b2 b3 b4 w' u' cs).2):=by
  show(match bE p q f b1 b2 b3 b4 w u c with | .pL e=>([],w,u,some e) | .go k w' u'=>(k :: (runM p q f b1 b2 b3 b4 w' u' cs).1,(runM p q f b1 b2 b3 b4 w' u' cs).2))=_
  rw[h]
 rw[e]
 unfold Jr
 rw[List.append_assoc]
 rfl
theorem R8 {p q f:Str}{b1 b2 b3 b4:Bool}{w u e:Str}{c:Nat}{cs:List Nat}{ks:List Str} (h:bE p q f b1 b2 b3 b4 w u c=.pL e):Jr ks (runM p q f b1 b2 b3 b4 w u (c :: cs))=(ks,w,u,some e):=by
 have e2:runM p q f b1 b2 b3 b4 w u (c :: cs)=([],w,u,some e):=by
  show(match bE p q f b1 b2 b3 b4 w u c with | .pL e=>([],w,u,some e) | .go k w' u'=>(k :: (runM p q f b1 b2 b3 b4 w' u' cs).1,(runM p q f b1 b2 b3 b4 w' u' cs).2))=_
  rw[h]
 rw[e2]
 unfold Jr
 rw[List.append_nil]
theorem R9 {p q f:Str}{b1 b2 b3 b4:Bool}{w u:Str}{ks:List Str}:Jr ks (runM p q f b1 b2 b3 b4 w u [])=(ks,w,u,none):=by
 show(ks++[],w,u,none)=_
 rw[List.append_nil]
def Pr:Option Str→V
 | none=>.non
 | some e=>.str e
def Eo (r:List Str×Str×Str×Option Str):Str:=match r.2.2.2 with
 | some e=>e
 | none=>if yL r.2.1 r.2.2.1=true then Str.ofString "" else Str.ofString "cut"
theorem Tn.but {C CT:Addr}{H:Hp}{y:Addr}{p q f:Str}{b1 b2 b3 b4:Bool}{l:Addr}{ys:List V}{o:HO} (hl:H l=some (.lst ys)) (h:Tn C CT H y p q f b1 b2 b3 b4):Tn C CT (upd H l o) y p q f b1 b2 b3 b4:=by
 obtain⟨dy,d,dd,e1,e2⟩:=h.ok
 exact⟨dy,d,dd,(aC (f6 e1 hl (by intro z;cases z))).trans e1,(aC (f6 e2 hl (by intro z;cases z))).trans e2⟩
theorem drop_cons {l:List Nat}{i c:Nat} (h:l[i]? = some c):l.drop i=c :: l.drop (i+1):=by
 obtain⟨h1,h2⟩:=List.getElem?_eq_some_iff.mp h
 rw[List.drop_eq_getElem_cons h1,h2]
def agb (ks:List Str):Nat:=(ks.map V.str).countP fun z=>Ac z (.str ("end":Str))
theorem Dk (ks:List Str):(ks.map V.str).all fk=true:=by rw[List.all_map,List.all_eq_true];intro _ _;rfl
theorem Pu {p q f:Str}{b1 b2 b3 b4:Bool}{w u e:Str}{c:Nat} (h:bE p q f b1 b2 b3 b4 w u c=.pL e):e=Str.ofString "line"∨e=Str.ofString "quote"∨e=Str.ofString "behind" := by
 have hb:∀{p:Str}{b3:Bool},cT p b3 c=.pL e→e=Str.ofString "line"∨e=Str.ofString "quote"∨e=Str.ofString "behind" := by
  intro p b3 h
  unfold cT at h
  split at h
  ·cases h
  split at h
  ·cases h
  split at h
  ·split at h
   ·cases h
   ·cases h;exact .inr (.inr rfl)
  ·cases h;exact .inr (.inr rfl)
 unfold bE at h
 split at h
 ·unfold d8 at h
  split at h
  ·cases h
  split at h
  ·split at h <;> cases h
  split at h
  ·split at h
   ·cases h;exact .inl rfl
   ·cases h
  ·cases h
 split at h
 ·unfold gK fD at h
  split at h
  ·split at h
   ·cases h;exact .inl rfl
   ·split at h <;> cases h
  ·split at h <;> cases h
 split at h
 ·unfold mD at h
  split at h
  ·cases h
  ·exact hb h
 split at h
 ·exact hb h
 unfold qv at h
 split at h
 ·unfold i8 at h
  split at h
  ·cases h
  split at h
  ·cases h
  split at h
  ·cases h
  split at h
  ·split at h
   ·cases h;exact .inr (.inl rfl)
   ·cases h
  ·cases h
 ·unfold i7 at h
  split at h
  ·cases h
  split at h
  ·cases h
  split at h
  ·cases h
  split at h
  ·cases h
  split at h
  ·split at h <;> cases h
  ·cases h
theorem nj {p q f:Str}{b1 b2 b3 b4:Bool}{w u k w' u':Str}{c:Nat}{cs:List Nat} (h:bE p q f b1 b2 b3 b4 w u c=.go k w' u'):runM p q f b1 b2 b3 b4 w u (c :: cs)=(k :: (runM p q f b1 b2 b3 b4 w' u' cs).1,(runM p q f b1 b2 b3 b4 w' u' cs).2):=by
 show(match bE p q f b1 b2 b3 b4 w u c with | .pL e=>([],w,u,some e) | .go k w' u'=>(k :: (runM p q f b1 b2 b3 b4 w' u' cs).1,(runM p q f b1 b2 b3 b4 w' u' cs).2))=_
 rw[h]
theorem vJ {p q f:Str}{b1 b2 b3 b4:Bool}{w u e:Str}{c:Nat}{cs:List Nat} (h:bE p q f b1 b2 b3 b4 w u c=.pL e):runM p q f b1 b2 b3 b4 w u (c :: cs)=([],w,u,some e):=by
 show(match bE p q f b1 b2 b3 b4 w u c with | .pL e=>([],w,u,some e) | .go k w' u'=>(k :: (runM p q f b1 b2 b3 b4 w' u' cs).1,(runM p q f b1 b2 b3 b4 w' u' cs).2))=_
 rw[h]
theorem GD {p q f:Str}{b1 b2 b3 b4:Bool}{w u e:Str}{cs:List Nat} (h:(runM p q f b1 b2 b3 b4 w u cs).2.2.2=some e):e≠Str.ofString ""∧e≠Str.ofString "cut" := by
 induction cs generalizing w u with
 | nil=>cases h
 | cons c cs ih =>
  cases hs:bE p q f b1 b2 b3 b4 w u c with
  | go k w' u' =>
   rw[nj hs] at h
   exact ih h
  | pL e2 =>
   rw[vJ hs] at h
   cases h
   rcases Pu hs with rfl | rfl | rfl
   ·exact⟨fun z=>absurd (congrArg (fun z=>bz z ("line":Str)) z) (by decide +kernel),fun z=>absurd (congrArg (fun z=>bz z ("line":Str)) z) (by decide +kernel)⟩
   ·exact⟨fun z=>absurd (congrArg (fun z=>bz z ("quote":Str)) z) (by decide +kernel),fun z=>absurd (congrArg (fun z=>bz z ("quote":Str)) z) (by decide +kernel)⟩
   ·exact⟨fun z=>absurd (congrArg (fun z=>bz z ("behind":Str)) z) (by decide +kernel),fun z=>absurd (congrArg (fun z=>bz z ("behind":Str)) z) (by decide +kernel)⟩
theorem ZW {q:Str}{c:Nat} (h:pJ c q=true):c∈q.cps.toList:=by rw[Em] at h;exact of_decide_eq_true h
theorem sM {p q f:Str}{b1 b2 b3 b4:Bool}{w u k w' u':Str}{c:Nat} (h:pU q w u) (hs:bE p q f b1 b2 b3 b4 w u c=.go k w' u'):pU q w' u':=by
 have Pw:∀{w u:Str},pU q w u→qv p q f b3 b4 w u c=.go k w' u'→pU q w' u':=by
  intro w u h hs
  unfold qv i8 i7 at hs
  repeat' split at hs
  all_goals first
   | (cases hs;exact .inl ⟨rfl,.inl rfl⟩)
   | (cases hs;exact .inl ⟨rfl,.inr (.inl rfl)⟩)
   | (cases hs;exact .inl ⟨rfl,.inr (.inr (.inl rfl))⟩)
   | (cases hs;exact .inl ⟨rfl,.inr (.inr (.inr (.inr rfl)))⟩)
   | (cases hs;rename_i hq _ _;exact .inr ⟨c,ZW (by assumption),rfl,.inl rfl⟩)
   | (cases hs;exact .inr ⟨c,ZW (by assumption),rfl,.inl rfl⟩)
   | (cases hs;exact h)
   | cases hs
 have ZX:cT p b3 c=.go k w' u'→pU q w' u':=by
  intro hs
  unfold cT at hs
  repeat' split at hs
  all_goals first
   | (cases hs;exact .inl ⟨rfl,.inl rfl⟩)
   | (cases hs;exact .inl ⟨rfl,.inr (.inl rfl)⟩)
   | (cases hs;exact .inl ⟨rfl,.inr (.inr (.inr (.inl rfl)))⟩)
   | cases hs
 rcases h with ⟨rfl,rfl | rfl | rfl | rfl | rfl⟩ | ⟨d,hd,rfl,rfl | rfl | rfl⟩
 ·rw[xJ "row" (by decide +kernel) (by decide +kernel) (by decide +kernel) (by decide +kernel)] at hs
  exact Pw (.inl ⟨rfl,.inl rfl⟩) hs
 ·rw[xJ "cell" (by decide +kernel) (by decide +kernel) (by decide +kernel) (by decide +kernel)] at hs
  exact Pw (.inl ⟨rfl,.inr (.inl rfl)⟩) hs
 ·rw[xJ "plain" (by decide +kernel) (by decide +kernel) (by decide +kernel) (by decide +kernel)] at hs
  exact Pw (.inl ⟨rfl,.inr (.inr (.inl rfl))⟩) hs
 ·rw[Dj (bh _)] at hs
  exact ZX hs
 ·rw[vH (bh _)] at hs
  unfold gK fD at hs
  rw[if_pos (bh _)] at hs
  repeat' split at hs
  all_goals first
   | (cases hs;exact .inl ⟨rfl,.inr (.inr (.inl rfl))⟩)
   | cases hs
 ·rw[xH (bh _)] at hs
  unfold d8 at hs
  repeat' split at hs
  all_goals first
   | (cases hs;exact .inr ⟨d,hd,rfl,.inr (.inr rfl)⟩)
   | (cases hs;exact .inr ⟨d,hd,rfl,.inr (.inl rfl)⟩)
   | (cases hs;exact .inr ⟨d,hd,rfl,.inl rfl⟩)
   | (cases hs;exact .inl ⟨rfl,.inr (.inr (.inr (.inl rfl)))⟩)
   | cases hs
 ·rw[GC (bh _)] at hs
  unfold mD at hs
  split at hs
  ·cases hs;exact .inr ⟨d,hd,rfl,.inl rfl⟩
  ·exact ZX hs
 ·rw[vH (bh _)] at hs
  unfold gK fD at hs
  rw[if_neg (AH d)] at hs
  repeat' split at hs
  all_goals first
   | (cases hs;exact .inr ⟨d,hd,rfl,.inl rfl⟩)
   | cases hs
theorem VA {p q f:Str}{b1 b2 b3 b4:Bool}{w u:Str}{cs:List Nat} (h:pU q w u):pU q (runM p q f b1 b2 b3 b4 w u cs).2.1 (runM p q f b1 b2 b3 b4 w u cs).2.2.1:=by
 induction cs generalizing w u with
 | nil=>exact h
 | cons c cs ih =>
  cases hs:bE p q f b1 b2 b3 b4 w u c with
  | go k w' u' =>
   rw[nj hs]
   exact ih (sM h hs)
  | pL e2 =>
   rw[vJ hs]
   exact h
structure Ep where
 rows:List (List Str)
 row:List Str
 cell:Str
def GF (g:Ep) (c:Nat) (k:Str):Ep :=
 if bz k ("put":Str)=true then ⟨g.rows,g.row,g.cell++sg c⟩
 else if bz k ("part":Str)=true then ⟨g.rows,g.row++[g.cell],Str.ofString ""⟩
 else if bz k ("end":Str)=true then ⟨g.rows++[g.row++[g.cell]],[],Str.ofString ""⟩
 else g
def rm:Ep→List Nat→List Str→Ep
 | g,c :: cs,k :: ks=>rm (GF g c k) cs ks
 | g,_,_=>g
def GG:Ep:=⟨[],[],Str.ofString ""⟩
def GH (z:Str) (ks:List Str):List (List Str):=(rm GG z.cps.toList ks).rows
theorem Dm:∀(g:Ep) (cs:List Nat) (ks:List Str) (i:Nat) (c:Nat) (k:Str),cs[i]? = some c→ks[i]? = some k→rm g (cs.take (i+1)) (ks.take (i+1))=GF (rm g (cs.take i) (ks.take i)) c k
 | g,[],_,i,c,k,h,_=>by simp at h
 | g,_ :: _,[],i,c,k,_,h=>by simp at h
 | g,d :: cs,j :: ks,0,c,k,h1,h2=>by cases h1;cases h2;rfl
 | g,d :: cs,j :: ks,i+1,c,k,h1,h2=>by
  show rm (GF g d j) (cs.take (i+1)) (ks.take (i+1))=GF (rm (GF g d j) (cs.take i) (ks.take i)) c k
  exact Dm _ cs ks i c k h1 h2
theorem GI:∀(g:Ep) (cs:List Nat) (ks:List Str),rm g (cs.take (min cs.length ks.length)) (ks.take (min cs.length ks.length))=rm g cs ks
 | g,[],ks=>by simp[rm]
 | g,_ :: _,[]=>by simp[rm]
 | g,d :: cs,j :: ks=>by
  have e:min (d :: cs).length (j :: ks).length=min cs.length ks.length+1:=by rw[List.length_cons,List.length_cons];omega
  rw[e]
  exact GI (GF g d j) cs ks
theorem Er {l:List Str}{i:Nat}{e:V} (h:(l.map V.str)[i]? = some e):∃ z,l[i]? = some z∧e=.str z:=by
 rw[List.getElem?_map] at h
 cases hz:l[i]? with
 | none=>rw[hz] at h;cases h
 | some z=>rw[hz] at h;exact⟨z,rfl,(Option.some.inj h).symm⟩
abbrev pV (H0 H:Hp):List V→List (List Str)→Prop:=Paired fun e r=>∃ a,e=V.ref a∧H0 a=none∧H a=some (.lst (r.map V.str))
theorem pV.mono {H0 H H':Hp} (s:aE H H'):∀{es:List V}{rs:List (List Str)},pV H0 H es rs→pV H0 H' es rs
 | _,_,.nil=>.nil
 | _,_,.cons ⟨a,e,n,h⟩ r=>.cons ⟨a,e,n,s _ _ h⟩ (pV.mono s r)
theorem pV.but {H0 H:Hp}{l:Addr}{o:HO}:∀{es:List V}{rs:List (List Str)},(V.ref l∉es)→pV H0 H es rs→pV H0 (upd H l o) es rs
 | _,_,_,.nil=>.nil
 | _,_,hn,.cons ⟨a,e,n,h⟩ r=>by
  subst e
  have:a≠l:=fun q=>hn (by rw[q];exact List.mem_cons_self ..)
  exact .cons ⟨a,rfl,n,(aC this).trans h⟩ (pV.but (fun q=>hn (List.mem_cons_of_mem _ q)) r)
theorem pV.app {H0 H:Hp}:∀{es es':List V}{rs rs':List (List Str)},pV H0 H es rs→pV H0 H es' rs'→pV H0 H (es++es') (rs++rs')
 | _,_,_,_,.nil,h=>h
 | _,_,_,_,.cons r t,h=>.cons r (pV.app t h)
theorem pV.has {H0 H:Hp}:∀{es:List V}{rs:List (List Str)},pV H0 H es rs→∀{a:Addr},V.ref a∈es→H0 a=none∧∃ ys,H a=some (.lst ys)
 | _,_,.nil,_,h=>by cases h
 | _,_,.cons ⟨b,e,n,h⟩ r,a,ha=>by
  rcases List.mem_cons.mp ha with q | q
  ·subst e;cases q;exact⟨n,_,h⟩
  ·exact pV.has r q
def Ym:List Nat:=("a7ZbXq9KwM":Str).cps.toList
theorem oU {a b:Str} (h1:bU a) (h2:bU b):bU (a++b):=fun c hc=>by
 rw[app_list] at hc
 rcases List.mem_append.mp hc with q | q
 ·exact h1 c q
 ·exact h2 c q
theorem nY {a b:String} (h:bz (Str.ofString a) (Str.ofString b)=false):Str.ofString a≠Str.ofString b:=fun e=>by rw[e,bh] at h;cases h
theorem Px {p q f:Str}{b1 b2 b3 b4:Bool}{w u k w' u':Str}{c:Nat} (h:bE p q f b1 b2 b3 b4 w u c=.go k w' u') :
  (k=Str.ofString "end"∧w'=Str.ofString "row"∧u'=Str.ofString "")∨(k≠Str.ofString "end"∧(w'=Str.ofString "row"→k=Str.ofString "skip"∧w=Str.ofString "row")):=by
 have n1:Str.ofString "skip"≠Str.ofString "end" := nY (by decide +kernel)
 have n2:Str.ofString "put"≠Str.ofString "end" := nY (by decide +kernel)
 have n3:Str.ofString "part"≠Str.ofString "end" := nY (by decide +kernel)
 have m1:Str.ofString "freed"≠Str.ofString "row" := nY (by decide +kernel)
 have m2:Str.ofString "within"≠Str.ofString "row" := nY (by decide +kernel)
 have m3:Str.ofString "cell"≠Str.ofString "row" := nY (by decide +kernel)
 have m4:Str.ofString "plain"≠Str.ofString "row" := nY (by decide +kernel)
 have m5:Str.ofString "behind"≠Str.ofString "row" := nY (by decide +kernel)
 have m6:Str.ofString "doubt"≠Str.ofString "row" := nY (by decide +kernel)
 have hB:cT p b3 c=.go k w' u'→(k=Str.ofString "end"∧w'=Str.ofString "row"∧u'=Str.ofString "")∨(k≠Str.ofString "end"∧(w'=Str.ofString "row"→k=Str.ofString "skip"∧w=Str.ofString "row")):=by
  intro h
  unfold cT at h
  repeat' split at h
  all_goals first
   | (cases h;done)
   | (cases h;exact .inl ⟨rfl,rfl,rfl⟩)
   | (cases h;exact .inr ⟨by assumption,fun z=>absurd z (by assumption)⟩)
   | (cases h;exact .inr ⟨by assumption,fun z=>⟨rfl,z⟩⟩)
 unfold bE at h
 split at h
 ·unfold d8 at h
  repeat' split at h
  all_goals first
   | (cases h;done)
   | (cases h;exact .inl ⟨rfl,rfl,rfl⟩)
   | (cases h;exact .inr ⟨by assumption,fun z=>absurd z (by assumption)⟩)
   | (cases h;exact .inr ⟨by assumption,fun z=>⟨rfl,z⟩⟩)
 split at h
 ·unfold gK fD at h
  repeat' split at h
  all_goals first
   | (cases h;done)
   | (cases h;exact .inl ⟨rfl,rfl,rfl⟩)
   | (cases h;exact .inr ⟨by assumption,fun z=>absurd z (by assumption)⟩)
   | (cases h;exact .inr ⟨by assumption,fun z=>⟨rfl,z⟩⟩)
 split at h
 ·unfold mD at h
  split at h
  ·cases h;exact .inr ⟨n2,fun z=>absurd z m2⟩
  ·exact hB h
 split at h
 ·exact hB h
 unfold qv at h
 split at h
 ·unfold i8 at h
  repeat' split at h
  all_goals first
   | (cases h;done)
   | (cases h;exact .inl ⟨rfl,rfl,rfl⟩)
   | (cases h;exact .inr ⟨by assumption,fun z=>absurd z (by assumption)⟩)
   | (cases h;exact .inr ⟨by assumption,fun z=>⟨rfl,z⟩⟩)
 ·unfold i7 at h
  repeat' split at h
  all_goals first
   | (cases h;done)
   | (cases h;exact .inl ⟨rfl,rfl,rfl⟩)
   | (cases h;exact .inr ⟨by assumption,fun z=>absurd z (by assumption)⟩)
   | (cases h;exact .inr ⟨by assumption,fun z=>⟨rfl,z⟩⟩)
theorem Sa (g:Ep) (c:Nat):GF g c ("end":Str)=⟨g.rows++[g.row++[g.cell]],[],Str.ofString ""⟩:=by
 unfold GF
 rw[if_neg (ns (by decide +kernel)),if_neg (ns (by decide +kernel)),if_pos (bh _)]
theorem Py (g:Ep) (c:Nat):GF g c ("skip":Str)=g:=by
 unfold GF
 rw[if_neg (ns (by decide +kernel)),if_neg (ns (by decide +kernel)),if_neg (ns (by decide +kernel))]
theorem Dn {p q f:Str}{b1 b2 b3 b4:Bool}:∀{cs:List Nat}{w u:Str}{g:Ep},(w=Str.ofString "row"→g.row=[]∧g.cell=Str.ofString "")→(runM p q f b1 b2 b3 b4 w u cs).2.2.2=none→(runM p q f b1 b2 b3 b4 w u cs).2.1=Str.ofString "row"→(rm g cs (runM p q f b1 b2 b3 b4 w u cs).1).row=[]∧(rm g cs (runM p q f b1 b2 b3 b4 w u cs).1).cell=Str.ofString ""
 | [],w,u,g,hg,_,hr=>hg hr
 | c :: cs,w,u,g,hg,hn,hr=>by
  cases hs:bE p q f b1 b2 b3 b4 w u c with
  | go k w' u' =>
   rw[nj hs] at hn hr ⊢
   show(rm (GF g c k) cs _).row=[]∧(rm (GF g c k) cs _).cell=_
   refine Dn (cs:=cs) (w:=w') (u:=u') (fun hw=>?_) hn hr
   rcases Px hs with ⟨rfl,_,_⟩ | ⟨_,h2⟩
   ·rw[Sa];exact⟨rfl,rfl⟩
   ·obtain⟨rfl,hw0⟩:=h2 hw
    rw[Py];exact hg hw0
  | pL e=>rw[vJ hs] at hn;cases hn
theorem VB {w u:Str} (h:yL w u=true):w=Str.ofString "row"∧u=Str.ofString "" := by
 unfold yL qJ qJ qJ at h
 simp[Ac] at h
 exact h
theorem VC {p q f:Str}{b1 b2 b3 b4:Bool}{w u:Str}{cs:List Nat} (h:Eo (runM p q f b1 b2 b3 b4 w u cs)=Str.ofString ""):(runM p q f b1 b2 b3 b4 w u cs).2.2.2=none∧(runM p q f b1 b2 b3 b4 w u cs).2.1=Str.ofString "row"∧(runM p q f b1 b2 b3 b4 w u cs).2.2.1=Str.ofString "" := by
 unfold Eo at h
 cases he:(runM p q f b1 b2 b3 b4 w u cs).2.2.2 with
 | some e=>rw[he] at h;exact absurd h (GD he).1
 | none =>
  rw[he] at h
  dsimp only at h
  split at h
  ·rename_i hh;exact⟨rfl,VB hh⟩
  ·exact absurd h (nY (by decide +kernel))
abbrev Sb (p q f:Str) (b1 b2 b3 b4:Bool) (z:Str):=runM p q f b1 b2 b3 b4 ("row":Str) ("":Str) z.cps.toList
theorem Sd {r:List Str×Str×Str×Option Str} (h:r.2=(Str.ofString "row",Str.ofString "",none)):Eo r=Str.ofString "" := by
 unfold Eo
 rw[h]
 exact if_pos (by decide +kernel)
def Lq (c:Nat):Bool:=decide (c=10∨Pn c)
def textOk (z:Str):Bool:=z.cps.toList.all Lq
theorem Se {z:Str} (h:bU z):textOk z=true:=by
 unfold textOk
 rw[List.all_eq_true]
 exact fun c hc=>decide_eq_true (h c hc)
def Mr:V→Bool
 | .str z=>decide (z.length≤2000) && textOk z
 | _=>false
theorem Lr {z:Str} (h:bU z):Mr (.str z)=decide ((z.length:Int)≤2000):=by
 show(decide (z.length≤2000) && textOk z)=_
 rw[Se h,Bool.and_true]
 by_cases c:z.length≤2000
 ·rw[decide_eq_true c,decide_eq_true (show(z.length:Int)≤2000 by omega)]
 ·rw[decide_eq_false c,decide_eq_false (show ¬(z.length:Int)≤2000 by omega)]
inductive Sf (H:Hp):V→Prop where
 | str (z:Str):Sf H (.str z)
 | non:Sf H .non
 | bl (b:Bool):Sf H (.bl b)
 | int (n:Int):Sf H (.int n)
 | lst {a:Addr}{xs:List V}:H a=some (.lst xs)→xs.all fk=true→Sf H (.ref a)
 | tup {a:Addr}{xs:List V}:H a=some (.tup xs)→xs.all fk=true→Sf H (.ref a)
 | dic {a:Addr}{xs:List (Key×V)}:H a=some (.dK xs)→True→Sf H (.ref a)
theorem Sh {v:V} (h:Mr v=true):∃ z,v=.str z∧bU z∧z.length≤2000:=by
 cases v with
 | str z =>
  have h:(decide (z.length≤2000) && textOk z)=true:=h
  rw[Bool.and_eq_true] at h
  refine⟨z,rfl,fun c hc=>?_,of_decide_eq_true h.1⟩
  exact of_decide_eq_true (List.all_eq_true.mp h.2 c hc)
 | _=>cases h
theorem join_list (zs:List Str):(Txt.join ("":Str) zs).cps.toList=zs.flatMap (fun z=>z.cps.toList):=by
 have ee:("":Str).cps.toList=[]:=by decide +kernel
 show(Builtin.Str.glued ("":Str) zs).cps.toList=_
 rw[StrLaws.glued_eq_join]
 induction zs with
 | nil=>exact ee
 | cons c cs ih =>
  cases cs with
  | nil =>
   show c.cps.toList=_
   simp
  | cons d cs =>
   show(c++("":Str)++Str.join ("":Str) (d :: cs)).cps.toList=_
   rw[app_list,app_list,ee,List.append_nil,ih]
   simp[List.flatMap_cons]
theorem vK {a b:Str} (h:a.cps.toList=b.cps.toList):a=b:=by
 cases a;cases b
 congr 1
 exact Array.toList_inj.mp h
theorem Pz {a b:Int} (h:decide (V.int a=V.int b)=true):a=b:=by have:=of_decide_eq_true h;cases this;rfl
theorem PB {α:Type} [DecidableEq α] {r r':List α} (h:r.length=r'.length):((List.range r.length).all fun j=>decide (r[j]? = r'[j]?))=decide (r=r'):=by
 rw[Bool.eq_iff_iff,List.all_eq_true,decide_eq_true_iff]
 constructor
 ·intro q
  refine List.ext_getElem? fun i=>?_
  by_cases hi:i < r.length
  ·exact of_decide_eq_true (q i (List.mem_range.mpr hi))
  ·rw[List.getElem?_eq_none (by omega),List.getElem?_eq_none (by omega)]
 ·rintro rfl i _
  exact decide_eq_true rfl
theorem Si (z z':Str):Ac (.str z) (.str z')=decide (z=z'):=by
 show(z == z')=_
 rw[Bool.eq_iff_iff,beq_iff_eq,decide_eq_true_iff]
theorem Sj {K:W.Frag}{H:Hp}{a b:Addr}{r r':List Str} (ha:H a=some (.lst (r.map V.str))) (hb:H b=some (.lst (r'.map V.str))):xC K H 1 (.ref a) (.ref b) (decide (r=r')):=by
 by_cases hne:a=b
 ·subst hne
  rw[ha] at hb
  have e:r=r':=by
   have:=HO.lst.inj (Option.some.inj hb)
   exact(List.map_inj_right (fun x y h=>V.str.inj h)).mp this
  rw[decide_eq_true e]
  exact .same
 by_cases hl:r.length=r'.length
 ·rw[←PB hl]
  have e:r.length=(r.map V.str).length:=(List.length_map _).symm
  rw[e]
  refine xC.lst hne (aU.of ha) (aU.of hb) (by rw[List.length_map,List.length_map,hl]) fun j x y ex ey=>?_
  obtain⟨z,hz,rfl⟩:=Er ex
  obtain⟨z',hz',rfl⟩:=Er ey
  have e2:decide (r[j]? = r'[j]?)=Ac (.str z) (.str z'):=by
   rw[hz,hz',Si,Bool.eq_iff_iff,decide_eq_true_iff,decide_eq_true_iff]
   exact⟨fun q=>Option.some.inj q,fun q=>by rw[q]⟩
  rw[e2]
  exact .flat rfl rfl
 ·rw[decide_eq_false (fun q=>hl (by rw[q]))]
  exact xC.len hne (aU.of ha) (aU.of hb) (by rw[List.length_map,List.length_map];exact hl)
theorem Ls {K:W.Frag}{A B H:Hp}{la lb:Addr}{es ds:List V}{T T':List (List Str)} (ha:H la=some (.lst es)) (hb:H lb=some (.lst ds)) (h1:pV A H es T) (h2:pV B H ds T'):TopC K H (.ref la) (.ref lb) (decide (T=T')):=by
 have l1:=h1.length
 have l2:=h2.length
 by_cases hl:T.length=T'.length
 ·rw[←PB hl,←l1]
  refine TopC.lst (n:=1) (by decide) (aU.of ha) (aU.of hb) (by omega) fun j x y ex ey=>?_
  obtain⟨r,hr,a,rfl,_,ha⟩:=aQ h1 j x ex
  obtain⟨r',hr',b,rfl,_,hb⟩:=aQ h2 j y ey
  have e2:decide (T[j]? = T'[j]?)=decide (r=r'):=by
   rw[hr,hr',Bool.eq_iff_iff,decide_eq_true_iff,decide_eq_true_iff]
   exact⟨fun q=>Option.some.inj q,fun q=>by rw[q]⟩
  rw[e2]
  exact Sj ha hb
 ·rw[decide_eq_false (fun q=>hl (by rw[q]))]
  exact TopC.len (aU.of ha) (aU.of hb) (by omega)
def PD (r:List Str×Str×Str×Option Str) (z:Str):Option (List (List Str)):=if Eo r=Str.ofString "" then some (GH z r.1) else none
def Yq (A H:Hp) (v:V):Option (List (List Str))→Prop
 | none=>v=.non
 | some T=>∃ l es,v=.ref l∧A l=none∧H l=some (.lst es)∧pV A H es T
theorem ZY {K:W.Frag}{A B H:Hp}{v w:V}{o o':Option (List (List Str))}{Q:VK} (h1:Yq A H v o) (h2:Yq B H w o') (q:Q (.bl (!decide (o=o'))) H):rNe v w H Q∨(Zz K v w H Q∨ZE K v w H Q):=by
 cases o with
 | none =>
  cases h1
  cases o' with
  | none=>cases h2;rw[decide_eq_true rfl] at q;exact .inl ⟨rfl,by rw[decide_eq_true rfl];exact q⟩
  | some T =>
   obtain⟨l,es,rfl,_,e3,_⟩:=h2
   rw[decide_eq_false (by intro z;cases z)] at q
   exact .inr (.inr ⟨.inl ⟨rfl,l,_,rfl,aU.of e3⟩,q⟩)
 | some T =>
  obtain⟨l,es,rfl,_,e3,e4⟩:=h1
  cases o' with
  | none =>
   cases h2
   rw[decide_eq_false (by intro z;cases z)] at q
   exact .inr (.inr ⟨.inr ⟨rfl,l,_,rfl,aU.of e3⟩,q⟩)
  | some T' =>
   obtain⟨l',es',rfl,_,e3',e4'⟩:=h2
   have e:decide (some T=some T')=decide (T=T'):=by
    by_cases h:T=T'
    ·rw[h,decide_eq_true rfl,decide_eq_true rfl]
    ·rw[decide_eq_false h,decide_eq_false fun z=>h (Option.some.inj z)]
   rw[e] at q
   exact .inr (.inl ⟨_,Ls e3 e3' e4 e4',q⟩)
def oS (c:Nat) (k:Str):List Str:=if bz k ("put":Str)=true then [sg c] else if bz k ("skip":Str)=true then [] else [k]
structure B4 where
 a:Bool
 b:Bool
 c:Bool
 d:Bool
abbrev bI:=Str×Str×Str×B4
def uJ (x:bI):List V:=vG x.1 x.2.1 x.2.2.1 x.2.2.2.a x.2.2.2.b x.2.2.2.c x.2.2.2.d
def Cd (x:bI):List (Str×V):=AF x.1 x.2.1 x.2.2.1 x.2.2.2.a x.2.2.2.b x.2.2.2.c x.2.2.2.d
abbrev nk (x:bI):Prop:=Gd x.1 x.2.1 x.2.2.1
abbrev Es (H:Hp):List V→List bI→Prop:=Paired fun e x=>∃ t,e=V.ref t∧H t=some (.tup (uJ x))
theorem Es.mono {H H':Hp} (s:aE H H'):∀{es:List V}{xs:List bI},Es H es xs→Es H' es xs
 | _,_,.nil=>.nil
 | _,_,.cons ⟨t,e,h⟩ r=>.cons ⟨t,e,s _ _ h⟩ (Es.mono s r)
abbrev xm (C:Addr) (H:Hp):List V→List bI→Prop:=Paired fun e x=>∃ y dy,e=V.ref y∧H y=some (.ins C dy (Cd x))
theorem xm.mono {C:Addr}{H H':Hp} (s:aE H H'):∀{es:List V}{xs:List bI},xm C H es xs→xm C H' es xs
 | _,_,.nil=>.nil
 | _,_,.cons ⟨y,dy,e,h⟩ r=>.cons ⟨y,dy,e,s _ _ h⟩ (xm.mono s r)
def runC (x:bI) (z:Str):List Str×Str×Str×Option Str:=runM x.1 x.2.1 x.2.2.1 x.2.2.2.a x.2.2.2.b x.2.2.2.c x.2.2.2.d ("row":Str) ("":Str) z.cps.toList
theorem VD {z:Str} (g:Sg z):Sg (Ej z):=by
 have e:(Ej z).cps.toList=z.cps.toList.reverse:=by unfold Ej;simp
 exact⟨by rw[e];exact List.pairwise_reverse.mpr (List.Pairwise.imp (fun h=>Ne.symm h) g.nd),fun c hc=>g.pr c (by rw[e] at hc;exact List.mem_reverse.mp hc)⟩
theorem Sk (z:Str):(Ej z).length=z.length:=by
 have e:(Ej z).cps.toList=z.cps.toList.reverse:=by unfold Ej;simp
 have:=congrArg List.length e
 rw[List.length_reverse,Array.length_toList,Array.length_toList] at this
 exact this
theorem xm.but {C:Addr}{H:Hp}{l:Addr}{o:HO}{ws:List V} (hl:H l=some (.lst ws)):∀{es:List V}{xs:List bI},xm C H es xs→xm C (upd H l o) es xs
 | _,_,.nil=>.nil
 | _,_,.cons ⟨y,dy,e,h⟩ r=>.cons ⟨y,dy,e,(aC (f6 h hl (by intro z;cases z))).trans h⟩ (xm.but hl r)
theorem Es.Sl {H:Hp}{l:Addr}{o:HO}{ws:List V} (hl:H l=some (.lst ws)):∀{es:List V}{xs:List bI},Es H es xs→Es (upd H l o) es xs
 | _,_,.nil=>.nil
 | _,_,.cons ⟨y,e,h⟩ r=>.cons ⟨y,e,(aC (f6 h hl (by intro z;cases z))).trans h⟩ (Es.Sl hl r)
def ck:List Str→Str
 | []=>Str.ofString ""
 | z :: r=>z++ck r
theorem PF (z:Str):Str.ofString "" ++ z=z:=vK (by rw[app_list,pT];rfl)
theorem PJ (z:Str):z++Str.ofString "" = z:=vK (by rw[app_list,pT,List.append_nil])
def lens (r:List Str):List Nat:=r.map fun z=>z.length
def total (t:List (List Str)):Nat:=(t.map fun r=>(lens r).sum).sum
structure AI (r:List Str):Prop where
 lo:1≤r.length
 hi:r.length≤20
 ok:∀ c∈r,bU c
structure TabOk (t:List (List Str)):Prop where
 n:t.length≤60
 rows:∀ r∈t,AI r
 sum:total t≤400
theorem Lu {ns:List Nat}{n:Nat} (h:n∈ns):n≤ns.sum:=by
 induction ns with
 | nil=>cases h
 | cons m ns ih =>
  rw[List.sum_cons]
  rcases List.mem_cons.mp h with rfl | h
  ·omega
  ·have:=ih h;omega
theorem vL {t:List (List Str)}{r:List Str} (h:r∈t):(lens r).sum≤total t:=Lu (List.mem_map_of_mem h)
theorem AJ {r:List Str}{c:Str} (h:c∈r):c.length≤(lens r).sum:=Lu (List.mem_map_of_mem (f:=fun z:Str=>z.length) h)
def bP (H:Hp) (v:V) (r:List Str):Prop:=∃ a,v=.ref a∧H a=some (.lst (r.map V.str))
theorem bP.mono {H H':Hp}{v:V}{r:List Str} (s:aE H H') (h:bP H v r):bP H' v r:=let ⟨a,e1,e2⟩:=h;⟨a,e1,s _ _ e2⟩
def uK (z:Str):List (Str×Str):=z.cps.toList.map fun k=>(Str.ofString "put",sg k)
def rq:Str×Str:=(Str.ofString "part",Str.ofString "")
def PK:Str×Str:=(Str.ofString "end",Str.ofString "")
def m8:List Str→Nat→List (Str×Str)
 | _,0=>[]
 | r,n+1=>m8 r n++((if n=0 then [] else [rq])++uK (r.getD n ("":Str)))
def pW (r:List Str):List (Str×Str):=m8 r r.length++[PK]
def aB (t:List (List Str)):List (Str×Str):=t.flatMap pW
theorem lQ {r:List Str}{n:Nat}{z:Str} (h:r[n]? = some z):m8 r (n+1)=m8 r n++((if n=0 then [] else [rq])++uK z):=by
 show m8 r n++((if n=0 then [] else [rq])++uK (r.getD n ("":Str)))=_
 rw[List.getD_eq_getElem?_getD,h];rfl
theorem PL (z:Str):(uK z).length=z.length:=by unfold uK;rw[List.length_map,Array.length_toList];rfl
theorem AK (r:List Str):∀ n,n≤r.length→(m8 r n).length+(if n=0 then 0 else 1)=n+(lens (r.take n)).sum
 | 0,_=>by simp[m8,lens]
 | n+1,h=>by
  have hn:n < r.length:=by omega
  rw[lQ (z:=r[n]) (by simp[hn]),List.length_append,List.length_append,PL,aS (c:=r[n]) (by simp[hn])]
  have ih:=AK r n (by omega)
  unfold lens at ih ⊢
  rw[List.map_append,List.sum_append]
  simp only[List.map_cons,List.map_nil,List.sum_cons,List.sum_nil]
  by_cases h0:n=0
  ·subst h0;simp[m8];omega
  ·simp[h0] at ih ⊢;omega
theorem Js {r:List Str} (h:1≤r.length):(pW r).length=r.length+(lens r).sum:=by
 unfold pW
 have:=AK r r.length (Nat.le_refl _)
 rw[List.take_of_length_le (Nat.le_refl _),if_neg (by omega)] at this
 rw[List.length_append];show _+1=_;omega
theorem AL {t:List (List Str)} (h:∀ r∈t,AI r):(aB t).length=(t.map fun r=>r.length+(lens r).sum).sum:=by
 unfold aB
 induction t with
 | nil=>rfl
 | cons r t ih =>
  rw[List.flatMap_cons,List.length_append,ih (fun r' h'=>h r' (List.mem_cons_of_mem _ h')),Js (h r (List.mem_cons_self ..)).lo,List.map_cons,List.sum_cons]
theorem Ms {t:List (List Str)} (h:∀ r∈t,AI r):(t.map fun r=>r.length+(lens r).sum).sum≤20 * t.length+total t:=by
 unfold total
 induction t with
 | nil=>exact Nat.le_refl _
 | cons r t ih =>
  have h1:=(h r (List.mem_cons_self ..)).hi
  have h2:=ih fun r' h'=>h r' (List.mem_cons_of_mem _ h')
  rw[List.map_cons,List.sum_cons,List.map_cons,List.sum_cons,List.length_cons]
  omega
theorem GJ {t:List (List Str)} (h:TabOk t) (i:Nat):(aB (t.take i)).length≤1600:=by
 have hr:∀ r∈t.take i,AI r:=fun r hr=>h.rows r (List.mem_of_mem_take hr)
 rw[AL hr]
 have h1:=Ms hr
 have h2:(t.take i).length≤60:=by rw[List.length_take];have:=h.n;omega
 have h3:total (t.take i)≤total t:=by
  unfold total
  have e:=congrArg (fun l=>(l.map fun r=>(lens r).sum).sum) (List.take_append_drop i t)
  simp only[List.map_append,List.sum_append] at e
  omega
 have:=h.sum
 omega
theorem rz (t:List (List Str)) (r:List Str):aB (t++[r])=aB t++pW r:=by unfold aB;rw[List.flatMap_append];simp
theorem rC {α β:Type}{F:α→β→Prop}{xs:List α}{ys:List β}{x:α}{y:β} (h:Paired F xs ys) (q:F x y):Paired F (xs++[x]) (ys++[y]):=cj h (.cons q .nil)
theorem Jt (t:List (List Str)) (r:List Str):total (t++[r])=total t+(lens r).sum:=by unfold total;rw[List.map_append,List.sum_append];simp
theorem Mt (r:List Str) (z:Str):(lens (r++[z])).sum=(lens r).sum+z.length:=by unfold lens;rw[List.map_append,List.sum_append];simp
def gu (acc:List Nat) (c:Nat):List Nat:=if away ⟨acc.toArray⟩ c=true then acc++[c] else acc
def cZ (l:List Nat):List Nat:=l.foldl gu []
theorem mE (l:List Nat) (c:Nat):cZ (l++[c])=gu (cZ l) c:=by unfold cZ;rw[List.foldl_append];rfl
theorem Dp (l:List Nat):(cZ l).length≤l.length:=by
 have key:∀(l acc:List Nat),(l.foldl gu acc).length≤acc.length+l.length:=by
  intro l
  induction l with
  | nil=>intro acc;exact Nat.le_refl _
  | cons c l ih =>
   intro acc
   rw[List.foldl_cons,List.length_cons]
   have h1:=ih (gu acc c)
   have h2:(gu acc c).length≤acc.length+1:=by
    unfold gu
    split
    ·rw[List.length_append];exact Nat.le_refl _
    ·omega
   omega
 have:=key l []
 simpa [cZ] using this
def rD (z:Str):Str:=⟨(cZ z.cps.toList).toArray⟩
theorem Dq (z:Str):(rD z).length≤z.length:=by
 show(cZ z.cps.toList).toArray.size≤_
 rw[List.size_toArray]
 refine Nat.le_trans (Dp _) ?_
 rw[Array.length_toList];exact Nat.le_refl _
def oV (p q f:Str) (b1 b2 b3 b4:Bool) (w u:Str) (c:Nat):Option (Str×Str×Str):=match bE p q f b1 b2 b3 b4 w u c with
 | .go k w' u'=>if fQ f w' u'=true then some (k,w',u') else none
 | .pL _=>none
def lvV (K:W.Frag) (x:Option (Str×Str×Str)) (H:Hp) (v:V):Prop:=match x with
 | none=>v=.non
 | some (k,w,u)=>∃ a b,v=.ref a∧aV K H a [.str k,.ref b]∧aV K H b [.str w,.str u]
def uL (ts:List (Str×Str)) (n:Nat) (k s:Str):Option Nat:=if bz k ("skip":Str)=true then some n else if ts[n]? = some (k,if bz k ("put":Str)=true then s else Str.ofString "") then some (n+1) else none
def agc (x:Option Nat):V:=match x with
 | none=>.non
 | some n=>.int n
abbrev d9:=(Str×Str)×Nat
def Dr (K:W.Frag) (H:Hp) (m:d9) (v:V):Prop:=∃ b s,v=.ref b∧aV K H b [.ref s,.int m.2]∧aV K H s [.str m.1.1,.str m.1.2]
def nZ (p q f:Str) (b1 b2 b3 b4:Bool) (ts:List (Str×Str)) (m:d9) (c:Nat):Option d9:=match oV p q f b1 b2 b3 b4 m.1.1 m.1.2 c with
 | none=>none
 | some (k,w,u)=>(match uL ts m.2 k (sg c) with
  | none=>none
  | some n=>some ((w,u),n))
def Et (K:W.Frag) (x:Option d9) (H:Hp) (v:V):Prop:=match x with
 | none=>v=.non
 | some m=>Dr K H m v
def VE (y l:Addr):List (Str×V):=[("turn",.ref y),("tokens",.ref l)]
structure tG (K:W.Frag) (C CT CM:Addr) (H:Hp) (m:Addr) (p q f:Str) (b1 b2 b3 b4:Bool) (ts:List (Str×Str)):Prop where
 ok:∃ dm y l ys,H m=some (.ins CM dm (VE y l))∧Tn C CT H y p q f b1 b2 b3 b4∧H l=some (.lst ys)∧Paired (gc K H) ys ts
theorem jE {K:W.Frag}{H H':Hp} (s:aE H H'):∀{ys:List V}{ts:List (Str×Str)},Paired (gc K H) ys ts→Paired (gc K H') ys ts
 | _,_,.nil=>.nil
 | _,_,.cons a r=>.cons (a.mono s) (jE s r)
theorem tG.mono {K:W.Frag}{C CT CM:Addr}{H H':Hp}{m:Addr}{p q f:Str}{b1 b2 b3 b4:Bool}{ts:List (Str×Str)} (s:aE H H') (h:tG K C CT CM H m p q f b1 b2 b3 b4 ts):tG K C CT CM H' m p q f b1 b2 b3 b4 ts:=by
 obtain⟨dm,y,l,ys,e1,e2,e3,e4⟩:=h.ok
 exact⟨dm,y,l,ys,s _ _ e1,e2.mono s,s _ _ e3,jE s e4⟩
theorem Sm {K:W.Frag}{H:Hp}{m a C dm:Addr}{fs:List (Str×V)}{xs:List V}{o:HO} (hm:H m=some (.ins C dm fs)) (h:aV K H a xs):aV K (upd H m o) a xs:=by
 rcases h with (h | ⟨ob,h⟩) | h
 ·exact .inl (.inl ((aC (f6 h hm (by intro z;cases z))).trans h))
 ·exact .inl (.inr ⟨ob,(aC (f6 h hm (by intro z;cases z))).trans h⟩)
 ·exact .inr h
theorem rE {K:W.Frag}{H:Hp}{m C dm:Addr}{fs:List (Str×V)}{o:HO} (hm:H m=some (.ins C dm fs)):∀{ys:List V}{ts:List (Str×Str)},Paired (gc K H) ys ts→Paired (gc K (upd H m o)) ys ts
 | _,_,.nil=>.nil
 | _,_,.cons ⟨a,e1,e2⟩ r=>.cons ⟨a,e1,Sm hm e2⟩ (rE hm r)
theorem Tn.off {C CT:Addr}{H:Hp}{y m:Addr}{p q f:Str}{b1 b2 b3 b4:Bool}{o o':HO} (hm:H m=some o') (n1:∀ d fs,o'≠.ins CT d (ZT fs)) (n2:∀ d,o'≠.ins C d (AF p q f b1 b2 b3 b4)) (h:Tn C CT H y p q f b1 b2 b3 b4):Tn C CT (upd H m o) y p q f b1 b2 b3 b4:=by
 obtain⟨dy,d,dd,e1,e2⟩:=h.ok
 exact⟨dy,d,dd,(aC (fun q=>by rw[q,hm] at e1;exact n1 _ _ (Option.some.inj e1))).trans e1,(aC (fun q=>by rw[q,hm] at e2;exact n2 _ (Option.some.inj e2))).trans e2⟩
theorem tG.off {K:W.Frag}{C CT CM CW:Addr}{H:Hp}{m z dz:Addr}{fs:List (Str×V)}{p q f:Str}{b1 b2 b3 b4:Bool}{ts:List (Str×Str)}{o:HO} (hz:H z=some (.ins CW dz fs)) (n0:∀ y l,fs≠VE y l) (n1:∀ d,fs≠ZT d) (n2:fs≠AF p q f b1 b2 b3 b4) (h:tG K C CT CM H m p q f b1 b2 b3 b4 ts):tG K C CT CM (upd H z o) m p q f b1 b2 b3 b4 ts:=by
 obtain⟨dm,y,l,ys,e1,e2,e3,e4⟩:=h.ok
 refine⟨dm,y,l,ys,(aC (fun q=>?_)).trans e1,Tn.off hz (fun d fs q=>?_) (fun d q=>?_) e2,(aC (fun q=>by rw[q,hz] at e3;cases e3)).trans e3,rE hz e4⟩
 ·rw[q,hz] at e1;injection e1 with e1;injection e1 with a b c;exact n0 _ _ c
 ·injection q with a b c;exact n1 _ c
 ·injection q with a b c;exact n2 c
theorem lR {H:Hp}{x dx:Addr}{o:HO} (hx:H x=none) (hdx:H dx=none):aE H (upd (upd H dx (.own x)) x o):=fun b o' e=>by
 rw[aC (bq e hx),aC (bq e hdx)];exact e
theorem Dr.but {K:W.Frag}{H:Hp}{m:d9}{v:V}{l:Addr}{ws:List V}{o:HO} (hl:H l=some (.lst ws)) (h:Dr K H m v):Dr K (upd H l o) m v:=by
 obtain⟨b,s,e1,e2,e3⟩:=h
 exact⟨b,s,e1,lg hl e2,lg hl e3⟩
theorem Et.but {K:W.Frag}{x:Option d9}{H:Hp}{v:V}{l:Addr}{ws:List V}{o:HO} (hl:H l=some (.lst ws)) (h:Et K x H v):Et K x (upd H l o) v:=by
 cases x with
 | none=>exact h
 | some m=>exact Dr.but hl h
abbrev Cm:=List (d9×Option (d9×Nat))
def Sn (cm:Cm) (m:d9):Bool:=cm.any fun e=>decide (e.1=m)
def m0:d9:=((Str.ofString "row",Str.ofString ""),0)
def ZZ (cm:Cm) (m:d9):Option (Option (d9×Nat)):=(cm.find? fun e=>decide (e.1=m)).map (·.2)
inductive Lv (cm:Cm):Option (d9×Nat)→List Nat→Prop where
 | nil:Lv cm none []
 | cons {m:d9}{c:Nat}{x:Option (d9×Nat)}{r:List Nat}:ZZ cm m=some x→Lv cm x r→Lv cm (some (m,c)) (c :: r)
theorem Eu:∀(xs:List Nat),((xs.map sg).map (·.length)).sum=xs.length
 | []=>rfl
 | x :: xs=>by rw[List.map_cons,List.map_cons,List.sum_cons,Eu xs,U8,List.length_cons];omega
inductive Lw (led:d9→List (Nat×d9)) (a:d9):List Nat→d9→Prop where
 | nil:Lw led a [] a
 | snoc {xs:List Nat}{p q:d9}{c:Nat}:Lw led a xs p→(c,q)∈led p→Lw led a (xs++[c]) q
def Ub (led:d9→List (Nat×d9)) (a:d9) (cm:Cm) (m:d9) (n:Nat):Prop:=∃ x xs,ZZ cm m=some x∧Lv cm x xs∧Lw led a xs.reverse m∧xs.length=n
section
variable {good:d9→Bool}{led:d9→List (Nat×d9)}{a:d9}
structure Mid (led:d9→List (Nat×d9)) (a:d9) (cm:Cm) (k:Nat) (acc:Cm×List d9):Prop where
 pre:∃ l,acc.1=cm++l
 told:∀ m,Sn acc.1 m=true→∃ n,n≤k+1∧Ub led a acc.1 m n
 new:∀ m∈acc.2,Ub led a acc.1 m (k+1)∧Sn acc.1 m=true
 old:∀ m,Sn acc.1 m=true→Sn cm m=true∨m∈acc.2
end
def Shp (p q f u:Str) (c:Nat) (k w' u':Str):Prop :=
 (k=Str.ofString "skip"∧(pJ c f=true∨pJ c q=true∨bz (sg c) u=true∨bz (sg c) (" ":Str)=true))∨(k=Str.ofString "end"∧bz (sg c) (Str.ofString "\n")=true∧w'=Str.ofString "row"∧u'=Str.ofString "")∨(k=Str.ofString "part"∧pJ c p=true)∨k=Str.ofString "put"
theorem PM {p q f:Str}{b1 b2 b3 b4:Bool}{w u k w' u':Str}{c:Nat} (h:bE p q f b1 b2 b3 b4 w u c=.go k w' u'):Shp p q f u c k w' u':=by
 have hB:cT p b3 c=.go k w' u'→Shp p q f u c k w' u':=by
  intro h
  unfold cT at h
  repeat' split at h
  all_goals first
   | (cases h;done)
   | (cases h;exact .inr (.inl ⟨rfl,by assumption,rfl,rfl⟩))
   | (cases h;exact .inr (.inr (.inl ⟨rfl,by assumption⟩)))
   | (cases h;exact .inl ⟨rfl,.inr (.inr (.inr (by assumption)))⟩)
 unfold bE at h
 split at h
 ·unfold d8 at h
  repeat' split at h
  all_goals first
   | (cases h;done)
   | (cases h;exact .inr (.inr (.inr rfl)))
   | (cases h;exact .inl ⟨rfl,.inl (by assumption)⟩)
   | (cases h;exact .inl ⟨rfl,.inr (.inr (.inl (by assumption)))⟩)
 split at h
 ·unfold gK fD at h
  repeat' split at h
  all_goals first
   | (cases h;done)
   | (cases h;exact .inr (.inr (.inr rfl)))
 split at h
 ·unfold mD at h
  split at h
  ·cases h;exact .inr (.inr (.inr rfl))
  ·exact hB h
 split at h
 ·exact hB h
 unfold qv at h
 split at h
 ·unfold i8 at h
  repeat' split at h
  all_goals first
   | (cases h;done)
   | (cases h;exact .inr (.inr (.inr rfl)))
   | (cases h;exact .inr (.inl ⟨rfl,by assumption,rfl,rfl⟩))
   | (cases h;exact .inr (.inr (.inl ⟨rfl,by assumption⟩)))
   | (cases h;exact .inl ⟨rfl,.inl (by assumption)⟩)
 ·unfold i7 at h
  repeat' split at h
  all_goals first
   | (cases h;done)
   | (cases h;exact .inr (.inr (.inr rfl)))
   | (cases h;exact .inr (.inl ⟨rfl,by assumption,rfl,rfl⟩))
   | (cases h;exact .inr (.inr (.inl ⟨rfl,by assumption⟩)))
   | (cases h;exact .inl ⟨rfl,.inl (by assumption)⟩)
   | (cases h;exact .inl ⟨rfl,.inr (.inl (by assumption))⟩)
   | (cases h;exact .inl ⟨rfl,.inr (.inr (.inr (by assumption)))⟩)
theorem Lx {a b:Nat} (h:sg a=sg b):a=b:=by
 have e:(sg a).cps.toList=(sg b).cps.toList:=by rw[h]
 exact(List.cons.inj e).1
theorem xK {c:Nat}:∀(l:List Nat) (acc:List Nat),c∈l.foldl gu acc↔c∈acc∨c∈l
 | [],acc=>by simp
 | a :: l,acc=>by
  rw[List.foldl_cons,xK l]
  unfold gu
  by_cases h:away ⟨acc.toArray⟩ a=true
  ·rw[if_pos h,List.mem_append,List.mem_singleton,List.mem_cons,or_assoc]
  ·rw[if_neg h]
   have ha:a∈acc:=by
    by_cases z:a∈acc
    ·exact z
    ·exact absurd ((mw _ _).mpr (by simpa using z)) h
   rw[List.mem_cons]
   constructor
   ·rintro(z | z)
    ·exact .inl z
    ·exact .inr (.inr z)
   ·rintro(z | z | z)
    ·exact .inl z
    ·subst z;exact .inl ha
    ·exact .inr z
def So:List Str→List Nat→List (Str×Str)
 | k :: ks,c :: cs=>(if bz k ("skip":Str)=true then [] else [(k,if bz k ("put":Str)=true then sg c else Str.ofString "")])++So ks cs
 | _,_=>[]
theorem ajp {c:Nat} (h:bz (sg c) (" ":Str)=true):c=32:=Lx ((pS h).trans (by decide +kernel))
theorem Mu {p q f:Str}{b1 b2 b3 b4:Bool}{w u k w' u':Str}{c:Nat} (h:pU q w u) (hl:fQ f w u=false) (hs:bE p q f b1 b2 b3 b4 w u c=.go k w' u'):fQ f w' u'=false:=by
 have key:∀{d:Nat}{w:Str},(w=Str.ofString "within"∨w=Str.ofString "freed")→pJ d f=true→fQ f w (sg d)=false:=by
  intro d w hw hd
  unfold fQ
  have e:nin (sg d) f=!(pJ d f):=rfl
  rcases hw with rfl | rfl
  ·rw[if_neg (AH d),if_neg (ns (by decide +kernel)),e,hd];rfl
  ·rw[if_neg (AH d),if_neg (ns (by decide +kernel)),e,hd];rfl
 have hdf:∀{d:Nat}{w:Str},fQ f w (sg d)=false→pJ d f=true:=by
  intro d w hl
  unfold fQ at hl
  rw[if_neg (AH d)] at hl
  split at hl
  ·cases hl
  ·have e:nin (sg d) f=!(pJ d f):=rfl
   rw[e] at hl
   cases hx:pJ d f with
   | true=>rfl
   | false=>rw[hx] at hl;cases hl
 rcases h with ⟨rfl,_⟩ | ⟨d,hd,rfl,rfl | rfl | rfl⟩
 ·unfold fQ at hl;rw[if_pos (bh _)] at hl;cases hl
 ·have hf:=hdf hl
  rw[xH (bh _)] at hs
  unfold d8 at hs
  by_cases hcf:pJ c f=true
  ·rw[if_pos hcf] at hs;cases hs;exact key (.inr rfl) hf
  ·rw[if_neg hcf] at hs
   have hcd:¬bz (sg c) (sg d)=true:=fun z=>by rw[Lx (pS z)] at hcf;exact hcf hf
   rw[if_neg hcd] at hs
   repeat' split at hs
   all_goals first
    | (cases hs;done)
    | (cases hs;exact key (.inl rfl) hf)
 ·unfold fQ at hl;rw[if_neg (AH d),if_pos (bh _)] at hl;cases hl
 ·have hf:=hdf hl
  rw[vH (bh _)] at hs
  unfold gK fD at hs
  rw[if_neg (AH d)] at hs
  repeat' split at hs
  all_goals first
   | (cases hs;done)
   | (cases hs;exact key (.inl rfl) hf)
theorem GK (f:Str):fQ f ("row":Str) ("":Str)=true:=by unfold fQ;rw[if_pos (bh _)]
section
variable {p q f:Str}{b1 b2 b3 b4:Bool}
def Rd0 (p q f:Str) (b1 b2 b3 b4:Bool) (w u:Str) (ts:List (Str×Str)) (cs:List Nat):Prop:=(runM p q f b1 b2 b3 b4 w u cs).2=(Str.ofString "row",Str.ofString "",none)∧So (runM p q f b1 b2 b3 b4 w u cs).1 cs=ts
abbrev RdT (p q f:Str) (b1 b2 b3 b4:Bool) (ts:List (Str×Str)) (cs:List Nat):Prop:=Rd0 p q f b1 b2 b3 b4 ("row":Str) ("":Str) ts cs
end
def lu (g:Ep) (t:Str×Str):Ep :=
 if bz t.1 ("put":Str)=true then ⟨g.rows,g.row,g.cell++t.2⟩
 else if bz t.1 ("part":Str)=true then ⟨g.rows,g.row++[g.cell],Str.ofString ""⟩
 else if bz t.1 ("end":Str)=true then ⟨g.rows++[g.row++[g.cell]],[],Str.ofString ""⟩
 else g
theorem Sq {g:Ep}{c:Nat}{k:Str}:GF g c k=(if bz k ("skip":Str)=true then [] else [(k,if bz k ("put":Str)=true then sg c else Str.ofString "")]).foldl lu g:=by
 by_cases hk:bz k ("skip":Str)=true
 ·rw[if_pos hk,pS hk]
  unfold GF
  rw[if_neg (ns (by decide +kernel)),if_neg (ns (by decide +kernel)),if_neg (ns (by decide +kernel))]
  rfl
 ·rw[if_neg hk]
  show _=lu g _
  unfold GF lu
  dsimp only
  by_cases hp:bz k ("put":Str)=true
  ·rw[if_pos hp,if_pos hp,if_pos hp]
  ·rw[if_neg hp,if_neg hp]
theorem AM:∀{cs:List Nat}{ks:List Str}{g:Ep},rm g cs ks=(So ks cs).foldl lu g
 | [],[],_=>rfl
 | [],_ :: _,_=>rfl
 | _ :: _,[],_=>rfl
 | c :: cs,k :: ks,g=>by
  show rm (GF g c k) cs ks=((if _ then _ else _)++So ks cs).foldl lu g
  rw[List.foldl_append,←Sq,AM]
theorem Mv (z:Str) (c:Nat):uK (z++sg c)=uK z++[(Str.ofString "put",sg c)]:=by
 unfold uK
 rw[app_list,List.map_append]
 rfl
theorem GL {r s:List Str}:∀{n:Nat},n≤r.length→m8 (r++s) n=m8 r n
 | 0,_=>rfl
 | n+1,h=>by
  show m8 (r++s) n++(_++uK ((r++s).getD n _))=m8 r n++(_++uK (r.getD n _))
  rw[GL (Nat.le_of_succ_le h),List.getD_eq_getElem?_getD,List.getD_eq_getElem?_getD,List.getElem?_append_left h]
theorem oW {r:List Str}{z:Str}:m8 (r++[z]) (r.length+1)=m8 r r.length++((if r.length=0 then [] else [rq])++uK z):=by
 rw[lQ (z:=z) (by simp),GL (Nat.le_refl _)]
def Ew (g:Ep):List (Str×Str):=aB g.rows++m8 (g.row++[g.cell]) (g.row.length+1)
def VF (t:Str×Str):Prop:=(∃ c,t=(Str.ofString "put",sg c))∨t=rq∨t=PK
theorem Ey:uK ("":Str)=[]:=by decide +kernel
theorem Mw {g:Ep}{t:Str×Str} (h:VF t):Ew (lu g t)=Ew g++[t]:=by
 rcases h with ⟨c,rfl⟩ | rfl | rfl
 ·unfold lu Ew
  dsimp only
  rw[if_pos (bh _)]
  dsimp only
  rw[oW,oW,Mv]
  simp only[List.append_assoc]
 ·unfold lu Ew
  rw[show rq.1=Str.ofString "part" from rfl,if_neg (ns (by decide +kernel)),if_pos (bh _)]
  dsimp only
  rw[oW (r:=g.row++[g.cell]),Ey,if_neg (by simp),List.length_append]
  simp only[List.append_assoc,List.append_nil]
  rfl
 ·unfold lu Ew
  rw[show PK.1=Str.ofString "end" from rfl,if_neg (ns (by decide +kernel)),if_neg (ns (by decide +kernel)),if_pos (bh _)]
  dsimp only
  rw[rz]
  unfold pW
  rw[List.length_append]
  have e:m8 ([]++[Str.ofString ""]) (([]:List Str).length+1)=[]:=by rw[oW,Ey];rfl
  rw[e,List.append_nil,List.append_assoc]
  rfl
theorem AO:∀{ts:List (Str×Str)}{g:Ep},(∀ t∈ts,VF t)→Ew (ts.foldl lu g)=Ew g++ts
 | [],_,_=>(List.append_nil _).symm
 | t :: ts,g,h=>by
  rw[List.foldl_cons,AO fun t z=>h t (List.mem_cons_of_mem _ z),Mw (h t (List.mem_cons_self ..)),List.append_assoc]
  rfl
theorem PN {p q f:Str}{b1 b2 b3 b4:Bool}:∀{cs:List Nat}{w u:Str},∀ t∈So (runM p q f b1 b2 b3 b4 w u cs).1 cs,VF t
 | [],w,u,t,h=>nomatch h
 | c :: cs,w,u,t,h=>by
  unfold runM at h
  cases hs:bE p q f b1 b2 b3 b4 w u c with
  | pL e=>rw[hs] at h;cases h
  | go k w' u' =>
   rw[hs] at h
   dsimp only at h
   unfold So at h
   rcases List.mem_append.mp h with z | z
   ·by_cases hk:bz k ("skip":Str)=true
    ·rw[if_pos hk] at z;cases z
    ·rw[if_neg hk] at z
     have z:=List.mem_singleton.mp z
     rcases PM hs with ⟨e,_⟩ | ⟨e,_⟩ | ⟨e,_⟩ | e
     ·rw[e,bh] at hk;exact absurd rfl hk
     ·subst e;rw[if_neg (ns (by decide +kernel))] at z;exact .inr (.inr z)
     ·subst e;rw[if_neg (ns (by decide +kernel))] at z;exact .inr (.inl z)
     ·subst e;rw[if_pos (bh _)] at z;exact .inl ⟨c,z⟩
   ·exact PN t z
theorem PU {p q f:Str}{b1 b2 b3 b4:Bool}{z:Str} (h:(runM p q f b1 b2 b3 b4 ("row":Str) ("":Str) z.cps.toList).2=(Str.ofString "row",Str.ofString "",none)):RdT p q f b1 b2 b3 b4 (aB (GH z (runM p q f b1 b2 b3 b4 ("row":Str) ("":Str) z.cps.toList).1)) z.cps.toList:=by
 refine⟨h,?_⟩
 have h1:(runM p q f b1 b2 b3 b4 ("row":Str) ("":Str) z.cps.toList).2.2.2=none:=by rw[h]
 have h2:(runM p q f b1 b2 b3 b4 ("row":Str) ("":Str) z.cps.toList).2.1=Str.ofString "row" := by rw[h]
 obtain⟨c1,c2⟩:=Dn (g:=GG) (fun _=>⟨rfl,rfl⟩) h1 h2
 have e:=AO (g:=GG) (PN (p:=p) (q:=q) (f:=f) (b1:=b1) (b2:=b2) (b3:=b3) (b4:=b4) (cs:=z.cps.toList) (w:=Str.ofString "row") (u:=Str.ofString ""))
 rw[←AM] at e
 have e0:m8 ([]++[Str.ofString ""]) (([]:List Str).length+1)=[]:=by rw[oW,Ey];rfl
 have g0:Ew GG=[]:=e0
 rw[g0,List.nil_append] at e
 rw[←e]
 unfold Ew
 rw[c1,c2,e0,List.append_nil]
 rfl
theorem PV {p q f:Str}{b1 b2 b3 b4:Bool}{z:Str}{ts:List (Str×Str)} (h:RdT p q f b1 b2 b3 b4 ts z.cps.toList):GH z (runM p q f b1 b2 b3 b4 ("row":Str) ("":Str) z.cps.toList).1=(ts.foldl lu GG).rows:=by
 unfold GH
 rw[AM,h.2]
theorem mF (cs:List Nat):(Txt.join ("":Str) (cs.map sg)).cps.toList=cs:=by
 have ee:("":Str).cps.toList=[]:=by decide +kernel
 show(Builtin.Str.glued ("":Str) (cs.map sg)).cps.toList=_
 rw[StrLaws.glued_eq_join]
 induction cs with
 | nil=>exact ee
 | cons c cs ih =>
  cases cs with
  | nil=>rfl
  | cons d cs =>
   show(sg c++("":Str)++Str.join ("":Str) ((d :: cs).map sg)).cps.toList=_
   rw[app_list,app_list,ee,List.append_nil,ih]
   rfl
def Ez (r:List Str):Bool:=decide (1≤r.length∧r.length≤20)
def AQ (t:List (List Str)):Bool:=decide (t.length≤60) && t.all Ez
theorem PX {r:List Str} (h1:1≤r.length) (h2:r.length≤20):Ez r=true:=decide_eq_true ⟨h1,h2⟩
theorem PY {r:List Str} (h:¬(1≤r.length∧r.length≤20)):Ez r=false:=decide_eq_false h
structure VG (t:List (List Str)):Prop where
 n:t.length≤1000
 rl:∀ r∈t,r.length≤1000
 ok:∀ r∈t,∀ c∈r,bU c
 sum:total t≤400
theorem Ss {t:List (List Str)} (g:VG t) (h:AQ t=true):TabOk t:=by
 unfold AQ at h
 rw[Bool.and_eq_true,List.all_eq_true] at h
 refine⟨of_decide_eq_true h.1,fun r hr=>?_,g.sum⟩
 obtain⟨a,b⟩:=of_decide_eq_true (h.2 r hr)
 exact⟨a,b,g.ok r hr⟩
theorem Su {t:List (List Str)} (h:TabOk t):AQ t=true:=by
 unfold AQ
 rw[Bool.and_eq_true,List.all_eq_true]
 exact⟨decide_eq_true h.n,fun r hr=>PX (h.rows r hr).lo (h.rows r hr).hi⟩
theorem TabOk.s {t:List (List Str)} (h:TabOk t):VG t:=⟨by have:=h.n;omega,fun r hr=>by have:=(h.rows r hr).hi;omega,fun r hr=>(h.rows r hr).ok,h.sum⟩
theorem Sv {A H:Hp}{es:List V}{R:List (List Str)} (h:pV A H es R):Paired (bP H) es R:=aH (fun _ _ ⟨a,e1,_,e3⟩=>⟨a,e1,e3⟩) h
section
variable {good:d9→Bool}{led:d9→List (Nat×d9)}{a:d9}
end
section
variable {p q f:Str}{b1 b2 b3 b4:Bool}
theorem GN:∀{cs:List Nat}{w u w' u':Str},pU q w u→fQ f w u=false→(runM p q f b1 b2 b3 b4 w u cs).2=(w',u',none)→fQ f w' u'=false
 | [],w,u,w',u',_,hl,e=>by
  have e:(w,u,(none:Option Str))=(w',u',none):=e
  injection e with e1 e2
  injection e2 with e2 _
  rw[←e1,←e2];exact hl
 | c :: cs,w,u,w',u',h,hl,e=>by
  unfold runM at e
  cases hs:bE p q f b1 b2 b3 b4 w u c with
  | pL e'=>rw[hs] at e;dsimp only at e;injection e with _ z;injection z with _ z;cases z
  | go k w2 u2=>rw[hs] at e;exact GN (sM h hs) (Mu h hl hs) e
def PR (p q f:Str) (b1 b2 b3 b4:Bool) (w u:Str) (ts:List (Str×Str)) (cs:List Nat) (w' u':Str):Prop:=(runM p q f b1 b2 b3 b4 w u cs).2=(w',u',none)∧So (runM p q f b1 b2 b3 b4 w u cs).1 cs=ts
end
def cells (t:List (List Str)):Nat:=(t.map List.length).sum
theorem Ju (t:List (List Str)) (r:List Str):cells (t++[r])=cells t+r.length:=by
 unfold cells;rw[List.map_append,List.sum_append];simp
theorem Ds:∀(t:List (List Str)),(t.map fun r=>r.length+(lens r).sum).sum=cells t+total t
 | []=>rfl
 | r :: t=>by
  have ih:=Ds t
  unfold cells total at ih ⊢
  rw[List.map_cons,List.map_cons,List.map_cons,List.sum_cons,List.sum_cons,List.sum_cons,ih]
  omega
theorem Sw {t:List (List Str)} (h:∀ r∈t,AI r):(aB t).length=cells t+total t:=by rw[AL h,Ds]
theorem GO:∀{t:List (List Str)},(∀ r∈t,AI r)→t.length≤cells t
 | [],_=>Nat.le_refl _
 | r :: t,h=>by
  have ih:=GO (t:=t) fun r' h'=>h r' (List.mem_cons_of_mem _ h')
  have h1:=(h r (List.mem_cons_self ..)).lo
  unfold cells at ih ⊢
  rw[List.map_cons,List.sum_cons,List.length_cons]
  omega
theorem Dt (R:List (List Str)) (row:List Str):∀(y z:Str),(uK y).foldl lu ⟨R,row,z⟩=⟨R,row,z++y⟩:=by
 intro y
 have key:∀(cs:List Nat) (z:Str),(cs.map fun k=>(Str.ofString "put",sg k)).foldl lu ⟨R,row,z⟩=⟨R,row,z++⟨cs.toArray⟩⟩:=by
  intro cs
  induction cs with
  | nil=>intro z;show(⟨R,row,z⟩:Ep)=_;rw[show z++(⟨[].toArray⟩:Str)=z from vK (by rw[app_list];simp)]
  | cons c cs ih =>
   intro z
   rw[List.map_cons,List.foldl_cons]
   have e:lu ⟨R,row,z⟩ (Str.ofString "put",sg c)=⟨R,row,z++sg c⟩:=by unfold lu;dsimp only;rw[if_pos (bh _)]
   rw[e,ih]
   congr 1
   refine vK ?_
   rw[app_list,app_list,app_list]
   simp[sg]
 intro z
 have:=key y.cps.toList z
 rw[show(⟨y.cps.toList.toArray⟩:Str)=y from vK (by simp)] at this
 exact this
theorem Du (R:List (List Str)) (r:List Str):∀(n:Nat) (c:Str),r[n]? = some c→(m8 r (n+1)).foldl lu ⟨R,[],Str.ofString ""⟩=⟨R,r.take n,c⟩
 | 0,c,h=>by
  rw[lQ h]
  show(([]:List (Str×Str))++((if 0=0 then [] else [rq])++uK c)).foldl lu _=_
  rw[if_pos rfl,List.nil_append,List.nil_append,Dt,PF]
  rfl
 | n+1,c,h=>by
  obtain⟨d,hd⟩:∃ d,r[n]? = some d:=⟨_,List.getElem?_eq_getElem (by have:=(List.getElem?_eq_some_iff.mp h).1;omega)⟩
  rw[lQ h,List.foldl_append,Du R r n d hd,if_neg (by omega),List.foldl_append]
  have e:[rq].foldl lu ⟨R,r.take n,d⟩=⟨R,r.take n++[d],Str.ofString ""⟩:=by
   show lu _ rq=_
   unfold lu
   rw[show rq.1=Str.ofString "part" from rfl,if_neg (ns (by decide +kernel)),if_pos (bh _)]
  rw[e,Dt,PF,←aS hd]
theorem GP:∀(t R:List (List Str)),(∀ r∈t,1≤r.length)→(aB t).foldl lu ⟨R,[],Str.ofString ""⟩=⟨R++t,[],Str.ofString ""⟩
 | [],R,_=>by show(⟨R,[],_⟩:Ep)=_;rw[List.append_nil]
 | r :: t,R,h=>by
  have e:aB (r :: t)=pW r++aB t:=rfl
  have h1:=h r (List.mem_cons_self ..)
  obtain⟨n,hn⟩:∃ n,r.length=n+1:=⟨r.length - 1,by omega⟩
  obtain⟨c,hc⟩:∃ c,r[n]? = some c:=⟨_,List.getElem?_eq_getElem (by omega)⟩
  have e2:(pW r).foldl lu ⟨R,[],Str.ofString ""⟩=⟨R++[r],[],Str.ofString ""⟩:=by
   unfold pW
   rw[hn,List.foldl_append,Du R r n c hc]
   show lu _ PK=_
   unfold lu
   rw[show PK.1=Str.ofString "end" from rfl,if_neg (ns (by decide +kernel)),if_neg (ns (by decide +kernel)),if_pos (bh _)]
   dsimp only
   rw[←aS hc,List.take_of_length_le (by omega)]
  rw[e,List.foldl_append,e2,GP t (R++[r]) fun r' h'=>h r' (List.mem_cons_of_mem _ h'),List.append_assoc]
  rfl
theorem tab_of {p q f:Str}{b1 b2 b3 b4:Bool}{F:Str}{t:List (List Str)} (ht:∀ r∈t,1≤r.length) (h:RdT p q f b1 b2 b3 b4 (aB t) F.cps.toList):GH F (runM p q f b1 b2 b3 b4 ("row":Str) ("":Str) F.cps.toList).1=t:=by
 rw[PV h,show GG=⟨[],[],Str.ofString ""⟩ from rfl,GP t [] ht]
 rfl
theorem PR.un {p q f:Str}{b1 b2 b3 b4:Bool}{w u wE uE:Str}{c:Nat}{cs:List Nat}{ts:List (Str×Str)} (h:PR p q f b1 b2 b3 b4 w u ts (c :: cs) wE uE):∃ k w' u' ts',bE p q f b1 b2 b3 b4 w u c=.go k w' u'∧ts=(if bz k ("skip":Str)=true then [] else [(k,if bz k ("put":Str)=true then sg c else Str.ofString "")])++ts'∧PR p q f b1 b2 b3 b4 w' u' ts' cs wE uE:=by
 obtain⟨h1,h2⟩:=h
 cases hs:bE p q f b1 b2 b3 b4 w u c with
 | pL e=>rw[vJ hs] at h1;injection h1 with _ z;injection z with _ z;cases z
 | go k w' u'=>rw[nj hs] at h1 h2;exact⟨k,w',u',_,rfl,h2.symm,h1,rfl⟩
theorem oX:∀(fs:List Str),(fs.map (·.length)).sum=(ck fs).length
 | []=>nX.symm
 | F :: fs=>by rw[List.map_cons,List.sum_cons,oX fs];show _=(F++ck fs).length;rw[cg]
theorem pX:∀(fs:List Str),Txt.join ("":Str) fs=ck fs:=by
 intro fs
 show Builtin.Str.glued ("":Str) fs=_
 rw[StrLaws.glued_eq_join]
 induction fs with
 | nil=>rfl
 | cons F fs ih =>
  cases fs with
  | nil=>show F=F++Str.ofString "";rw[PJ]
  | cons G fs =>
   show F++Str.ofString "" ++ Str.join ("":Str) (G :: fs)=F++ck (G :: fs)
   rw[ih,PJ]
def Ce (x:bI) (t:List (List Str)) (z:Str):Bool:=decide (PD (runC x z) z=some t)
def AR (x:bI) (cs:List bI) (t:List (List Str)) (z:Str):Bool:=Ce x t z && !(cs.any fun y=>Ce y t z)
def Ly (x:bI) (cs:List bI) (t:List (List Str)):V→Bool
 | .str z=>Mr (.str z) && AR x cs t z
 | _=>false
theorem Sx {x:bI}{cs:List bI}{t:List (List Str)}{v:V} (h:Mr v=false):Ly x cs t v=false:=by
 cases v with
 | str z=>show(Mr (.str z) && _)=false;rw[h];rfl
 | _=>rfl
theorem Z0 {K:W.Frag}{A B H:Hp}{v w:V}{o o':Option (List (List Str))}{Q:VK} (h1:Yq A H v o) (h2:Yq B H w o') (q:Q (.bl (decide (o=o'))) H):rEq v w H Q∨(Zy K v w H Q∨ZF K v w H Q):=by
 cases o with
 | none =>
  cases h1
  cases o' with
  | none=>cases h2;rw[decide_eq_true rfl] at q;exact .inl ⟨rfl,by rw[decide_eq_true rfl];exact q⟩
  | some T =>
   obtain⟨l,es,rfl,_,e3,_⟩:=h2
   rw[decide_eq_false (by intro z;cases z)] at q
   exact .inr (.inr ⟨.inl ⟨rfl,l,_,rfl,aU.of e3⟩,q⟩)
 | some T =>
  obtain⟨l,es,rfl,_,e3,e4⟩:=h1
  cases o' with
  | none =>
   cases h2
   rw[decide_eq_false (by intro z;cases z)] at q
   exact .inr (.inr ⟨.inr ⟨rfl,l,_,rfl,aU.of e3⟩,q⟩)
  | some T' =>
   obtain⟨l',es',rfl,_,e3',e4'⟩:=h2
   have e:decide (some T=some T')=decide (T=T'):=by
    by_cases h:T=T'
    ·rw[h,decide_eq_true rfl,decide_eq_true rfl]
    ·rw[decide_eq_false h,decide_eq_false fun z=>h (Option.some.inj z)]
   rw[e] at q
   exact .inr (.inl ⟨_,Ls e3 e3' e4 e4',q⟩)
theorem Sy {H:Hp}{es:List V}{R:List (List Str)} (h:Paired (bP H) es R):pV (fun _=>none) H es R:=aH (fun _ _ ⟨a,e1,e3⟩=>⟨a,e1,rfl,e3⟩) h
theorem Lz {H:Hp}{a:Addr}{es:List V}{R:List (List Str)} (ha:H a=some (.lst es)) (h:Paired (bP H) es R):Yq (fun _=>none) H (.ref a) (some R):=⟨a,es,rfl,rfl,ha,Sy h⟩
def Uc (p q f:Str) (b1 b2 b3 b4:Bool) (ts:List (Str×Str)) (m:d9):List Nat→Option d9
 | []=>some m
 | c :: cs=>(nZ p q f b1 b2 b3 b4 ts m c).bind fun m'=>Uc p q f b1 b2 b3 b4 ts m' cs
section
variable {p q f:Str}{b1 b2 b3 b4:Bool}{ts:List (Str×Str)}
theorem GQ {c:Nat}:∀{cs:List Nat}{m:d9},Uc p q f b1 b2 b3 b4 ts m (cs++[c])=(Uc p q f b1 b2 b3 b4 ts m cs).bind fun m'=>nZ p q f b1 b2 b3 b4 ts m' c
 | [],m=>by show(nZ p q f b1 b2 b3 b4 ts m c).bind (fun m'=>some m')=nZ p q f b1 b2 b3 b4 ts m c;cases nZ p q f b1 b2 b3 b4 ts m c <;> rfl
 | d :: cs,m=>by
  show(nZ p q f b1 b2 b3 b4 ts m d).bind _=((nZ p q f b1 b2 b3 b4 ts m d).bind _).bind _
  cases h:nZ p q f b1 b2 b3 b4 ts m d with
  | none=>rfl
  | some m'=>exact GQ
theorem EA {m m':d9}{c:Nat} (h:nZ p q f b1 b2 b3 b4 ts m c=some m'):∃ k,bE p q f b1 b2 b3 b4 m.1.1 m.1.2 c=.go k m'.1.1 m'.1.2∧fQ f m'.1.1 m'.1.2=true∧uL ts m.2 k (sg c)=some m'.2:=by
 unfold nZ oV at h
 cases hs:bE p q f b1 b2 b3 b4 m.1.1 m.1.2 c with
 | pL e=>rw[hs] at h;cases h
 | go k w u =>
  rw[hs] at h
  dsimp only at h
  by_cases hl:fQ f w u=true
  ·rw[if_pos hl] at h
   dsimp only at h
   cases hc:uL ts m.2 k (sg c) with
   | none=>rw[hc] at h;cases h
   | some n=>rw[hc] at h;cases h;exact⟨k,rfl,hl,hc⟩
  ·rw[if_neg hl] at h;cases h
theorem PZ {m:d9}{c n:Nat}{k w u:Str} (hs:bE p q f b1 b2 b3 b4 m.1.1 m.1.2 c=.go k w u) (hl:fQ f w u=true) (hc:uL ts m.2 k (sg c)=some n):nZ p q f b1 b2 b3 b4 ts m c=some ((w,u),n):=by
 unfold nZ oV
 rw[hs]
 dsimp only
 rw[if_pos hl]
 dsimp only
 rw[hc]
theorem EB:∀{cs:List Nat}{m m':d9},m.2≤ts.length→Uc p q f b1 b2 b3 b4 ts m cs=some m'→m.2≤m'.2∧m'.2≤ts.length∧PR p q f b1 b2 b3 b4 m.1.1 m.1.2 ((ts.take m'.2).drop m.2) cs m'.1.1 m'.1.2
 | [],m,m',hm,h=>by
  cases h
  refine⟨Nat.le_refl _,hm,rfl,?_⟩
  show []=_
  rw[List.drop_eq_nil_of_le (by rw[List.length_take];omega)]
 | c :: cs,m,m',hm,h=>by
  have h:(nZ p q f b1 b2 b3 b4 ts m c).bind _=some m':=h
  cases hM:nZ p q f b1 b2 b3 b4 ts m c with
  | none=>rw[hM] at h;cases h
  | some m1 =>
   rw[hM] at h
   obtain⟨k,hs,hl,hc⟩:=EA hM
   unfold uL at hc
   by_cases hk:bz k ("skip":Str)=true
   ·rw[if_pos hk] at hc
    have e:m.2=m1.2:=Option.some.inj hc
    obtain⟨i1,i2,i3,i4⟩:=EB (by omega) h
    refine⟨by omega,i2,by rw[nj hs];exact i3,?_⟩
    rw[nj hs]
    unfold So
    rw[if_pos hk,List.nil_append,i4,e]
   ·rw[if_neg hk] at hc
    by_cases ht:ts[m.2]? = some (k,if bz k ("put":Str)=true then sg c else Str.ofString "")
    ·rw[if_pos ht] at hc
     have e:m.2+1=m1.2:=Option.some.inj hc
     have hlt:=(List.getElem?_eq_some_iff.mp ht).1
     obtain⟨i1,i2,i3,i4⟩:=EB (by omega) h
     refine⟨by omega,i2,by rw[nj hs];exact i3,?_⟩
     rw[nj hs]
     unfold So
     rw[if_neg hk,i4,←e]
     have hx:(ts.take m'.2)[m.2]? = some (k,if bz k ("put":Str)=true then sg c else Str.ofString ""):=by rw[List.getElem?_take,if_pos (by omega)];exact ht
     obtain⟨h1,h2⟩:=List.getElem?_eq_some_iff.mp hx
     rw[List.drop_eq_getElem_cons h1,h2]
     rfl
    ·rw[if_neg ht] at hc;cases hc
theorem Jv:∀{cs:List Nat}{m:d9}{w u:Str}{n:Nat},pU q m.1.1 m.1.2→fQ f w u=true→m.2≤n→n≤ts.length→PR p q f b1 b2 b3 b4 m.1.1 m.1.2 ((ts.take n).drop m.2) cs w u→Uc p q f b1 b2 b3 b4 ts m cs=some ((w,u),n)
 | [],m,w,u,n,_,_,hmn,hn,h=>by
  obtain⟨h1,h2⟩:=h
  have e:(m.1.1,m.1.2,(none:Option Str))=(w,u,none):=h1
  injection e with e1 e2
  injection e2 with e2 _
  have hl:((ts.take n).drop m.2).length=0:=by rw[←h2];rfl
  rw[List.length_drop,List.length_take] at hl
  show some m=_
  rw[←e1,←e2,show n=m.2 by omega]
 | c :: cs,m,w,u,n,hq,Ud,hmn,hn,h=>by
  obtain⟨k,w',u',ts',hs,e,h'⟩:=h.un
  have hl:fQ f w' u'=true:=by
   cases z:fQ f w' u' with
   | true=>rfl
   | false=>rw[GN (sM hq hs) z h'.1] at Ud;cases Ud
  show(nZ p q f b1 b2 b3 b4 ts m c).bind _=_
  by_cases hk:bz k ("skip":Str)=true
  ·rw[if_pos hk,List.nil_append] at e
   have hc:uL ts m.2 k (sg c)=some m.2:=by unfold uL;rw[if_pos hk]
   rw[PZ hs hl hc]
   refine Jv (m:=((w',u'),m.2)) (sM hq hs) Ud hmn hn ?_
   show PR _ _ _ _ _ _ _ w' u' ((ts.take n).drop m.2) cs w u
   rw[e];exact h'
  ·rw[if_neg hk] at e
   have hx:(ts.take n)[m.2]? = some (k,if bz k ("put":Str)=true then sg c else Str.ofString ""):=by
    have:=congrArg List.head? e
    rw[List.head?_drop] at this
    exact this
   have hin:m.2 < n:=by
    have:=(List.getElem?_eq_some_iff.mp hx).1
    rw[List.length_take] at this
    omega
   rw[List.getElem?_take,if_pos hin] at hx
   have hd:(ts.take n).drop (m.2+1)=ts':=by
    have:=congrArg List.tail e
    rw[List.tail_drop] at this
    exact this
   have hc:uL ts m.2 k (sg c)=some (m.2+1):=by unfold uL;rw[if_neg hk,if_pos hx]
   rw[PZ hs hl hc]
   refine Jv (m:=((w',u'),m.2+1)) (sM hq hs) Ud hin hn ?_
   show PR _ _ _ _ _ _ _ w' u' ((ts.take n).drop (m.2+1)) cs w u
   rw[hd];exact h'
theorem VH {cs:List Nat}:Uc p q f b1 b2 b3 b4 ts m0 cs=some ((Str.ofString "row",Str.ofString ""),ts.length)↔RdT p q f b1 b2 b3 b4 ts cs:=by
 constructor
 ·intro h
  obtain⟨_,_,h3⟩:=EB (Nat.zero_le _) h
  rw[List.take_length] at h3
  exact h3
 ·intro h
  refine Jv (.inl ⟨rfl,.inl rfl⟩) (GK f) (Nat.zero_le _) (Nat.le_refl _) ?_
  rw[List.take_length]
  exact h
end
theorem Ue {x:bI}{t:List (List Str)}{z:Str} (ht:∀ r∈t,1≤r.length):Ce x t z=decide (Uc x.1 x.2.1 x.2.2.1 x.2.2.2.a x.2.2.2.b x.2.2.2.c x.2.2.2.d (aB t) m0 z.cps.toList=some ((Str.ofString "row",Str.ofString ""),(aB t).length)):=by
 unfold Ce
 rw[Bool.eq_iff_iff,decide_eq_true_iff,decide_eq_true_iff,VH]
 unfold PD runC
 constructor
 ·intro h
  split at h
  ·rename_i hW
   obtain⟨e1,e2,e3⟩:=VC hW
   have Mx:(runM x.1 x.2.1 x.2.2.1 x.2.2.2.a x.2.2.2.b x.2.2.2.c x.2.2.2.d ("row":Str) ("":Str) z.cps.toList).2=(Str.ofString "row",Str.ofString "",none):=Prod.ext e2 (Prod.ext e3 e1)
   have:=PU Mx
   rw[Option.some.inj h] at this
   exact this
  ·cases h
 ·intro h
  rw[if_pos (Sd h.1),tab_of ht h]
theorem Ug:Sg ("":Str):=⟨by rw[pT];exact List.nodup_nil,fun c hc=>by rw[pT] at hc;cases hc⟩
theorem Ae:∀{r:List Str},(∀ c∈r,bU c)→bU (ck r)
 | [],_=>fun d hd=>by rw[show(ck []).cps.toList=[] from pT] at hd;cases hd
 | z :: r,h=>fun d hd=>by
  have hd:d∈(z++ck r).cps.toList:=hd
  rw[app_list] at hd
  rcases List.mem_append.mp hd with q | q
  ·exact h z (List.mem_cons_self ..) d q
  ·exact Ae (fun c hc=>h c (List.mem_cons_of_mem _ hc)) d q
theorem LA:∀{r:List Str}{m:Nat},(∀ c∈r,c.length≤m)→(ck r).length≤r.length * m
 | [],m,_=>by rw[show(ck []).length=0 from nX];exact Nat.zero_le _
 | z :: r,m,h=>by
  show(z++ck r).length≤(r.length+1) * m
  have h1:=h z (List.mem_cons_self ..)
  have h2:=LA (r:=r) (m:=m) fun c hc=>h c (List.mem_cons_of_mem _ hc)
  rw[cg,Nat.succ_mul]
  omega
theorem GR (r:List Str):(ck r).length=(lens r).sum:=(oX r).symm
theorem Dv:∀(t:List (List Str)),(ck (t.map ck)).length=total t
 | []=>nX
 | r :: t=>by
  show(ck r++ck (t.map ck)).length=_
  rw[cg,Dv t,GR]
  unfold total
  rw[List.map_cons,List.sum_cons]
theorem LB {z:Str} (h:bU z) (hl:z.length≤2000):Mr (.str z)=true:=by rw[Lr h,decide_eq_true (show(z.length:Int)≤2000 by omega)]
section
variable {good:d9→Bool}{led:d9→List (Nat×d9)}{a:d9}
end
section
variable {p q f:Str}{b1 b2 b3 b4:Bool}
end
theorem vM {K:W.Frag}{H H':Hp}{o:Option d9}{v:V} (s:aE H H') (h:f7 K H o v):f7 K H' o v:=by
 cases o with
 | none=>exact h
 | some m=>obtain⟨b,t,rfl,h1,h2⟩:=h;exact⟨b,t,rfl,aF s h1,aF s h2⟩
theorem jF {K:W.Frag}{H H':Hp} (s:aE H H'):∀{os:List (Option d9)}{vs:List V},Paired (f7 K H) os vs→Paired (f7 K H') os vs
 | _,_,.nil=>.nil
 | _,_,.cons a r=>.cons (vM s a) (jF s r)
theorem cG {K:W.Frag}{H H':Hp}{m:cP}{v:V} (s:aE H H') (h:dH K H m v):dH K H' m v:=by
 obtain⟨b,t,u,vs,rfl,h1,h2,h3,h4⟩:=h
 exact⟨b,t,u,vs,rfl,aF s h1,aF s h2,aF s h3,jF s h4⟩
theorem LC {K:W.Frag}{H:Hp}{o:Option d9}{v:V} (h:Et K o H v):f7 K H o v:=by
 cases o with
 | none=>exact h
 | some m=>exact h
def agd (p q f:Str) (b1 b2 b3 b4:Bool) (ts:List (Str×Str)) (o:Option d9) (c:Nat):Option d9:=o.bind fun m=>nZ p q f b1 b2 b3 b4 ts m c
def tH (x:bI) (ts:List (Str×Str)) (m:d9) (c:Nat):Option d9:=nZ x.1 x.2.1 x.2.2.1 x.2.2.2.a x.2.2.2.b x.2.2.2.c x.2.2.2.d ts m c
def GS (x:bI) (ts:List (Str×Str)) (o:Option d9) (c:Nat):Option d9:=o.bind fun m=>tH x ts m c
def GU (K:W.Frag) (C CT CM:Addr) (H:Hp) (m:Addr) (x:bI) (ts:List (Str×Str)):Prop:=tG K C CT CM H m x.1 x.2.1 x.2.2.1 x.2.2.2.a x.2.2.2.b x.2.2.2.c x.2.2.2.d ts
abbrev P0 (K:W.Frag) (C CT CM:Addr) (ts:List (Str×Str)) (H:Hp):List V→List bI→Prop:=Paired fun v x=>∃ m,v=.ref m∧GU K C CT CM H m x ts
theorem P0.mono {K:W.Frag}{C CT CM:Addr}{ts:List (Str×Str)}{H H':Hp} (s:aE H H') {vs:List V}{cs:List bI} (h:P0 K C CT CM ts H vs cs):P0 K C CT CM ts H' vs cs:=aH (fun _ _ ⟨m,e,q⟩=>⟨m,e,tG.mono s q⟩) h
theorem Sz {K:W.Frag}{H:Hp}{o:Option d9}{v:V} (h:f7 K H o v):Et K o H v:=by
 cases o with
 | none=>exact h
 | some m=>exact h
theorem SA {K:W.Frag}{H:Hp}{l:Addr}{ws:List V}{x:HO}{o:Option d9}{v:V} (hl:H l=some (.lst ws)) (h:f7 K H o v):f7 K (upd H l x) o v:=LC (Et.but hl (Sz h))
theorem oY {K:W.Frag}{H:Hp}{l:Addr}{ws:List V}{x:HO} (hl:H l=some (.lst ws)):∀{os:List (Option d9)}{vs:List V},Paired (f7 K H) os vs→Paired (f7 K (upd H l x)) os vs
 | _,_,.nil=>.nil
 | _,_,.cons a r=>.cons (SA hl a) (oY hl r)
def stM:d9:=((Str.ofString "row",Str.ofString ""),0)
def bV (n:Nat):cP:=(stM,List.replicate n (some stM))
def pfl (m lm:Addr) (z:Str):List (Str×V):=[("marker",.ref m),("markers",.ref lm),("signs",.str z)]
structure AS (K:W.Frag) (C CT CM CP:Addr) (H:Hp) (y:Addr) (x:bI) (cs:List bI) (ts:List (Str×Str)) (z:Str):Prop where
 ok:∃ dy m lm ms,H y=some (.ins CP dy (pfl m lm z))∧GU K C CT CM H m x ts∧H lm=some (.lst ms)∧P0 K C CT CM ts H ms cs
theorem AS.mono {K:W.Frag}{C CT CM CP:Addr}{H H':Hp}{y:Addr}{x:bI}{cs:List bI}{ts:List (Str×Str)}{z:Str} (s:aE H H') (h:AS K C CT CM CP H y x cs ts z):AS K C CT CM CP H' y x cs ts z:=by
 obtain⟨dy,m,lm,ms,e1,e2,e3,e4⟩:=h.ok
 exact⟨dy,m,lm,ms,s _ _ e1,tG.mono s e2,s _ _ e3,P0.mono s e4⟩
theorem ki {α β:Type}{F:α→β→Prop}:∀{xs:List α}{ys:List β},Paired F xs ys→∀(i:Nat) (y:β),ys[i]? = some y→∃ x,xs[i]? = some x∧F x y
 | _,_,.nil,_,_,h=>nomatch h
 | x :: _,_,.cons a r,0,y,h=>⟨x,rfl,by have h:some _=some y:=h;cases h;exact a⟩
 | _ :: _,_,.cons a r,i+1,y,h=>ki r i y h
def AU (ts:List (Str×Str)):d9:=((Str.ofString "row",Str.ofString ""),ts.length)
def cA (ts:List (Str×Str)) (m:cP):Bool:=decide (m.1=AU ts) && !(m.2.any fun o=>decide (o=some (AU ts)))
def iC (cs:List bI) (ts:List (Str×Str)) (os:List (Option d9)) (c:Nat):List (Option d9):=(cs.zip os).map fun p=>GS p.1 ts p.2 c
def cH (x:bI) (cs:List bI) (ts:List (Str×Str)) (z:Str) (m:cP):List (Nat×cP):=z.cps.toList.filterMap fun c=>(tH x ts m.1 c).map fun m'=>(c,(m',iC cs ts m.2 c))
abbrev zj (K:W.Frag) (H:Hp):List V→List (Nat×cP)→Prop:=Paired fun v e=>∃ t w,v=.ref t∧H t=some (.tup [.str (sg e.1),w])∧dH K H e.2 w
theorem vN {K:W.Frag}{H:Hp}{l a:Addr}{ws xs:List V}{o:HO} (hl:H l=some (.lst ws)) (h:aV K H a xs):aV K (upd H l o) a xs:=by
 rcases h with (h | ⟨ob,h⟩) | h
 ·exact .inl (.inl ((aC (f6 h hl (by intro z;cases z))).trans h))
 ·exact .inl (.inr ⟨ob,(aC (f6 h hl (by intro z;cases z))).trans h⟩)
 ·exact .inr h
theorem EC {K:W.Frag}{H:Hp}{l:Addr}{ws:List V}{o:HO}{m:cP}{v:V} (hl:H l=some (.lst ws)) (h:dH K H m v):dH K (upd H l o) m v:=by
 obtain⟨b,t,u,vs,rfl,h1,h2,h3,h4⟩:=h
 exact⟨b,t,u,vs,rfl,vN hl h1,vN hl h2,vN hl h3,oY hl h4⟩
theorem sN {K:W.Frag}{H H':Hp} (s:aE H H'):∀{vs:List V}{es:List (Nat×cP)},zj K H vs es→zj K H' vs es
 | _,_,.nil=>.nil
 | _,_,.cons ⟨t,w,e,h,q⟩ r=>.cons ⟨t,w,e,s _ _ h,cG s q⟩ (sN s r)
theorem vO {K:W.Frag}{H:Hp}{l:Addr}{ws:List V}{o:HO} (hl:H l=some (.lst ws)):∀{vs:List V}{es:List (Nat×cP)},zj K H vs es→zj K (upd H l o) vs es
 | _,_,.nil=>.nil
 | _,_,.cons ⟨t,w,e,h,q⟩ r=>.cons ⟨t,w,e,(aC (f6 h hl (by intro z;cases z))).trans h,EC hl q⟩ (vO hl r)
def zk (x:bI):Str:=rD ((x.1++x.2.1)++x.2.2.1)
def fZ (cs:List bI) (t:List (List Str)):Str:=rD (((Txt.join ("":Str) (cs.map zk)++Str.ofString "\n")++Str.ofString " ")++Txt.join ("":Str) (t.map (Txt.join ("":Str))))
theorem oZ (fs:List Str):(Txt.join ("":Str) fs).length=(fs.map (·.length)).sum:=by rw[pX,oX]
theorem SD {c:bI} (g:nk c):(zk c).length≤7:=by
 have h:=Dq ((c.1++c.2.1)++c.2.2.1)
 have a1:=cg c.1 c.2.1
 have a2:=cg (c.1++c.2.1) c.2.2.1
 have g1:c.1.length≤3:=Gd.p3 g
 have g2:c.2.1.length≤2:=Gd.q2 g
 have g3:c.2.2.1.length≤2:=Gd.f2 g
 unfold zk
 omega
theorem ED:∀{cs:List bI},(∀ c∈cs,nk c)→((cs.map zk).map (·.length)).sum≤7 * cs.length
 | [],_=>Nat.le_refl _
 | c :: cs,h=>by
  have h1:=SD (h c (List.mem_cons_self ..))
  have h2:=ED fun d hd=>h d (List.mem_cons_of_mem _ hd)
  rw[List.map_cons,List.map_cons,List.sum_cons,List.length_cons]
  omega
theorem xM:∀(t:List (List Str)),((t.map (Txt.join ("":Str))).map (·.length)).sum=total t
 | []=>rfl
 | r :: t=>by
  rw[List.map_cons,List.map_cons,List.sum_cons,xM t,oZ]
  unfold total lens
  rw[List.map_cons,List.sum_cons]
theorem tG.Sl {K:W.Frag}{C CT CM:Addr}{H:Hp}{m l D:Addr}{vs:List V}{p q f:Str}{b1 b2 b3 b4:Bool}{ts:List (Str×Str)}{o:HO} (hD:H D=some (.lst vs)) (hl:l≠D) (hm:∃ dm y,H m=some (.ins CM dm (VE y l))) (h:tG K C CT CM H m p q f b1 b2 b3 b4 ts):tG K C CT CM (upd H D o) m p q f b1 b2 b3 b4 ts:=by
 obtain⟨dm,y,l',ys,e1,e2,e3,e4⟩:=h.ok
 obtain⟨dm',y',e0⟩:=hm
 rw[e1] at e0
 injection e0 with e0
 injection e0 with i1 i2 i3
 injection i3 with j1 j2
 injection j2 with j3 j4
 injection j3 with j5 j6
 injection j6 with j6
 subst j6
 refine⟨dm,y,l',ys,(aC (f6 e1 hD (by intro z;cases z))).trans e1,Tn.off hD (fun d fs q=>by cases q) (fun d q=>by cases q) e2,(aC hl).trans e3,aH (fun v t h=>?_) e4⟩
 obtain⟨a,q1,q2⟩:=h
 exact⟨a,q1,vN hD q2⟩
abbrev rF (K:W.Frag) (C CT CM:Addr) (ts:List (Str×Str)) (l:Addr) (H:Hp):List V→List bI→Prop:=Paired fun v x=>∃ m,v=.ref m∧GU K C CT CM H m x ts∧∃ dm y,H m=some (.ins CM dm (VE y l))
theorem rF.mono {K:W.Frag}{C CT CM l:Addr}{ts:List (Str×Str)}{H H':Hp} (s:aE H H') {vs:List V}{cs:List bI} (h:rF K C CT CM ts l H vs cs):rF K C CT CM ts l H' vs cs:=aH (fun _ _ ⟨m,e,q,dm,y,z⟩=>⟨m,e,tG.mono s q,dm,y,s _ _ z⟩) h
theorem rF.but {K:W.Frag}{C CT CM l D:Addr}{ts:List (Str×Str)}{H:Hp}{ws:List V}{o:HO} (hD:H D=some (.lst ws)) (hl:l≠D) {vs:List V}{cs:List bI} (h:rF K C CT CM ts l H vs cs):rF K C CT CM ts l (upd H D o) vs cs:=aH (fun _ _ ⟨m,e,q,dm,y,z⟩=>⟨m,e,tG.Sl hD hl ⟨dm,y,z⟩ q,dm,y,(aC (f6 z hD (by intro z;cases z))).trans z⟩) h
theorem rF.off {K:W.Frag}{C CT CM CP l q dq:Addr}{fs:List (Str×V)}{ts:List (Str×Str)}{H:Hp}{o:HO} (hq:H q=some (.ins CP dq fs)) (n0:∀ y l,fs≠VE y l) (n1:∀ d,fs≠ZT d) (n2:∀ p q f b1 b2 b3 b4,fs≠AF p q f b1 b2 b3 b4) {vs:List V}{cs:List bI} (h:rF K C CT CM ts l H vs cs):rF K C CT CM ts l (upd H q o) vs cs:=aH (fun _ _ ⟨m,e,r,dm,y,z⟩=>⟨m,e,tG.off hq n0 n1 (n2 _ _ _ _ _ _ _) r,dm,y,(aC (fun t=>by rw[t,hq] at z;injection z with z;injection z with z1 z2 z3;exact n0 _ _ z3)).trans z⟩) h
theorem P4 {n:Str}{v:V}{r:List (Str×V)} (h:n = "marker"):(∀ y l,(n,v) :: r≠VE y l)∧(∀ d,(n,v) :: r≠ZT d)∧(∀ p q f b1 b2 b3 b4,(n,v) :: r≠AF p q f b1 b2 b3 b4):=by
 subst h
 refine⟨fun y l q=>?_,fun d q=>?_,fun p q f b1 b2 b3 b4 q=>?_⟩
 ·injection q with q1 q2;injection q1 with q3 q4;exact absurd q3 (by decide +kernel)
 ·injection q with q1 q2;injection q1 with q3 q4;exact absurd q3 (by decide +kernel)
 ·injection q with q1 q2;injection q1 with q3 q4;exact absurd q3 (by decide +kernel)
section
variable {M:Type} [DecidableEq M]
variable {good:M→Bool}{led:M→List (Nat×M)}{a:M}
abbrev fK (M:Type):=List (M×Option (M×Nat))
def cX (cm:fK M) (m:M):Bool:=cm.any fun e=>decide (e.1=m)
def iD (p:M) (acc:fK M×List M) (e:Nat×M):fK M×List M:=if cX acc.1 e.2=true then acc else (acc.1++[(e.2,some (p,e.1))],acc.2++[e.2])
def m9 (led:M→List (Nat×M)) (acc:fK M×List M) (p:M):fK M×List M:=(led p).foldl (iD p) acc
def dM (led:M→List (Nat×M)) (cm:fK M) (aW:List M):fK M×List M:=aW.foldl (m9 led) (cm,[])
theorem eX {cm:fK M}{m:M}:cX cm m=true↔m∈cm.map (·.1):=by
 unfold cX
 rw[List.any_eq_true,List.mem_map]
 constructor
 ·rintro⟨e,he,q⟩;exact⟨e,he,of_decide_eq_true q⟩
 ·rintro⟨e,he,q⟩;exact⟨e,he,decide_eq_true q⟩
theorem P5 (p:M) (acc:fK M×List M) (e:Nat×M):(iD p acc e).1.length+acc.2.length=acc.1.length+(iD p acc e).2.length:=by
 unfold iD
 split
 ·rfl
 ·rw[List.length_append,List.length_append];show acc.1.length+1+_=_+(_+1);omega
theorem P6 {α:Type}{f:α→Bool}{l:List α}{i:Nat}{m:α} (hi:l[i]? = some m) (hg:f m=true) (hb:∀ m'∈l.take i,f m'=false):l.find? f=some m:=by
 have e:l=l.take i++m :: l.drop (i+1):=by
  obtain⟨h1,h2⟩:=List.getElem?_eq_some_iff.mp hi
  rw[←h2,←List.drop_eq_getElem_cons h1,List.take_append_drop]
 rw[e,List.find?_append,List.find?_eq_none.mpr (fun x hx=>by rw[hb x hx];decide),List.find?_cons,hg]
 rfl
theorem P7 {α:Type}{f:α→Bool}{l:List α} (hb:∀ m'∈l,f m'=false):l.find? f=none:=List.find?_eq_none.mpr fun x hx=>by rw[hb x hx];decide
theorem xN {p:M}:∀(es:List (Nat×M)) (acc:fK M×List M),(es.foldl (iD p) acc).1.length+acc.2.length=acc.1.length+(es.foldl (iD p) acc).2.length
 | [],_=>rfl
 | e :: es,acc=>by
  have h1:=P5 p acc e
  have h2:=xN (p:=p) es (iD p acc e)
  rw[List.foldl_cons];omega
theorem jG {led:M→List (Nat×M)}:∀(ms:List M) (acc:fK M×List M),(ms.foldl (m9 led) acc).1.length+acc.2.length=acc.1.length+(ms.foldl (m9 led) acc).2.length
 | [],_=>rfl
 | m :: ms,acc=>by
  have h1:=xN (p:=m) (led m) acc
  have h2:=jG (led:=led) ms (m9 led acc m)
  rw[List.foldl_cons]
  unfold m9 at h2 ⊢
  omega
def AV (cm:fK M) (m:M):Option (Option (M×Nat)):=(cm.find? fun e=>decide (e.1=m)).map (·.2)
inductive vP (cm:fK M):Option (M×Nat)→List Nat→Prop where
 | nil:vP cm none []
 | cons {m:M}{c:Nat}{x:Option (M×Nat)}{r:List Nat}:AV cm m=some x→vP cm x r→vP cm (some (m,c)) (c :: r)
inductive WalkG (led:M→List (Nat×M)) (a:M):List Nat→M→Prop where
 | nil:WalkG led a [] a
 | snoc {xs:List Nat}{p q:M}{c:Nat}:WalkG led a xs p→(c,q)∈led p→WalkG led a (xs++[c]) q
theorem AW {cm l:fK M}{m:M}{x:Option (M×Nat)} (h:AV cm m=some x):AV (cm++l) m=some x:=by
 unfold AV at h ⊢
 rw[List.find?_append]
 cases e:cm.find? fun e=>decide (e.1=m) with
 | none=>rw[e] at h;cases h
 | some y=>rw[e] at h;exact h
theorem P8 {cm:fK M}{m:M}{x:Option (M×Nat)} (h:cX cm m=false):AV (cm++[(m,x)]) m=some x:=by
 unfold AV
 rw[List.find?_append,List.find?_eq_none.mpr,List.find?_cons,decide_eq_true rfl]
 ·rfl
 ·intro e he q
  have z:cX cm m=true:=List.any_eq_true.mpr ⟨e,he,q⟩
  rw[h] at z;cases z
theorem vP.app {cm l:fK M}{x:Option (M×Nat)}{xs:List Nat} (h:vP cm x xs):vP (cm++l) x xs:=by
 induction h with
 | nil=>exact .nil
 | cons e _ ih=>exact .cons (AW e) ih
theorem rG {cm l:fK M}{m:M}:cX (cm++l) m=(cX cm m || cX l m):=List.any_append ..
theorem mG {m q:M}{x:Option (M×Nat)}:cX [(q,x)] m=true↔m=q:=by
 unfold cX
 rw[List.any_cons,List.any_nil,Bool.or_false]
 exact⟨fun h=>(of_decide_eq_true h).symm,fun h=>decide_eq_true h.symm⟩
def o6 (led:M→List (Nat×M)) (a:M) (cm:fK M) (m:M) (n:Nat):Prop:=∃ x xs,AV cm m=some x∧vP cm x xs∧WalkG led a xs.reverse m∧xs.length=n
theorem o6.app {led:M→List (Nat×M)}{a m:M}{cm l:fK M}{n:Nat} (h:o6 led a cm m n):o6 led a (cm++l) m n:=by
 obtain⟨x,xs,h1,h2,h3,h4⟩:=h
 exact⟨x,xs,AW h1,h2.app,h3,h4⟩
structure xO (led:M→List (Nat×M)) (a:M) (cm:fK M) (k:Nat) (acc:fK M×List M):Prop where
 pre:∃ l,acc.1=cm++l
 told:∀ m,cX acc.1 m=true→∃ n,n≤k+1∧o6 led a acc.1 m n
 new:∀ m∈acc.2,o6 led a acc.1 m (k+1)∧cX acc.1 m=true
 old:∀ m,cX acc.1 m=true→cX cm m=true∨m∈acc.2
theorem xO.vis {cm:fK M}{k:Nat}{acc:fK M×List M}{p:M}{e:Nat×M} (h:xO led a cm k acc) (hp:o6 led a acc.1 p k) (he:e∈led p):xO led a cm k (iD p acc e)∧cX (iD p acc e).1 e.2=true∧(∃ l,(iD p acc e).1=acc.1++l):=by
 unfold iD
 cases hh:cX acc.1 e.2 with
 | true=>rw[if_pos rfl];exact⟨h,hh,[],(List.append_nil _).symm⟩
 | false =>
  rw[if_neg (by decide)]
  obtain⟨x,xs,h1,h2,h3,h4⟩:=hp
  have hnew:o6 led a (acc.1++[(e.2,some (p,e.1))]) e.2 (k+1):=by
   refine⟨some (p,e.1),e.1 :: xs,P8 hh,.cons (AW h1) h2.app,?_,by rw[List.length_cons,h4]⟩
   rw[List.reverse_cons]
   exact .snoc h3 he
  have hhas:cX (acc.1++[(e.2,some (p,e.1))]) e.2=true:=by rw[rG,mG.mpr rfl,Bool.or_true]
  refine⟨⟨?_,fun m hm=>?_,fun m hm=>?_,fun m hm=>?_⟩,hhas,_,rfl⟩
  ·obtain⟨l,q⟩:=h.pre
   exact⟨l++[(e.2,some (p,e.1))],by show acc.1++_=_;rw[q,List.append_assoc]⟩
  ·have hm:cX (acc.1++[(e.2,some (p,e.1))]) m=true:=hm
   rw[rG,Bool.or_eq_true] at hm
   rcases hm with z | z
   ·obtain⟨n,hn,t⟩:=h.told m z
    exact⟨n,hn,t.app⟩
   ·rw[mG] at z;subst z
    exact⟨_,Nat.le_refl _,hnew⟩
  ·rcases List.mem_append.mp hm with z | z
   ·obtain⟨t,u⟩:=h.new m z
    exact⟨t.app,by show cX (acc.1++_) m=true;rw[rG,u];rfl⟩
   ·rw[List.mem_singleton.mp z];exact⟨hnew,hhas⟩
  ·have hm:cX (acc.1++[(e.2,some (p,e.1))]) m=true:=hm
   rw[rG,Bool.or_eq_true] at hm
   rcases hm with z | z
   ·rcases h.old m z with y | y
    ·exact .inl y
    ·exact .inr (List.mem_append_left _ y)
   ·rw[mG] at z;subst z
    exact .inr (List.mem_append_right _ (List.mem_singleton.mpr rfl))
theorem vQ {cm l:fK M}{m:M} (h:cX cm m=true):cX (cm++l) m=true:=by rw[rG,h];rfl
theorem xO.Z1 {cm:fK M}{k:Nat}{p:M}:∀{es:List (Nat×M)}{acc:fK M×List M},xO led a cm k acc→o6 led a acc.1 p k→(∀ e∈es,e∈led p) →
  xO led a cm k (es.foldl (iD p) acc)∧(∀ e∈es,cX (es.foldl (iD p) acc).1 e.2=true)∧∃ l,(es.foldl (iD p) acc).1=acc.1++l
 | [],acc,h,_,_=>⟨h,(fun _ z=>nomatch z),[],(List.append_nil _).symm⟩
 | e :: es,acc,h,hp,he=>by
  obtain⟨h1,h2,l,h3⟩:=h.vis hp (he e (List.mem_cons_self ..))
  have hp1:o6 led a (iD p acc e).1 p k:=by rw[h3];exact hp.app
  obtain⟨g1,g2,l',g3⟩:=xO.Z1 h1 hp1 fun e' z=>he e' (List.mem_cons_of_mem _ z)
  rw[List.foldl_cons]
  refine⟨g1,fun e' z=>?_,l++l',by rw[g3,h3,List.append_assoc]⟩
  rcases List.mem_cons.mp z with y | y
  ·subst y;rw[g3];exact vQ h2
  ·exact g2 e' y
theorem xO.Z2 {cm:fK M}{k:Nat}:∀{ms:List M}{acc:fK M×List M},xO led a cm k acc→(∀ p∈ms,o6 led a acc.1 p k) →
  xO led a cm k (ms.foldl (m9 led) acc)∧(∀ p∈ms,∀ e∈led p,cX (ms.foldl (m9 led) acc).1 e.2=true)∧∃ l,(ms.foldl (m9 led) acc).1=acc.1++l
 | [],acc,h,_=>⟨h,(fun _ z=>nomatch z),[],(List.append_nil _).symm⟩
 | p :: ms,acc,h,hp=>by
  obtain⟨h1,h2,l,h3⟩:=h.Z1 (p:=p) (es:=led p) (hp p (List.mem_cons_self ..)) fun e z=>z
  have h1:xO led a cm k (m9 led acc p):=h1
  have h3:(m9 led acc p).1=acc.1++l:=h3
  have h2:∀ e∈led p,cX (m9 led acc p).1 e.2=true:=h2
  obtain⟨g1,g2,l',g3⟩:=xO.Z2 h1 fun p' z=>by rw[h3];exact(hp p' (List.mem_cons_of_mem _ z)).app
  rw[List.foldl_cons]
  refine⟨g1,fun p' z e' ze=>?_,l++l',by rw[g3,h3,List.append_assoc]⟩
  rcases List.mem_cons.mp z with y | y
  ·subst y;rw[g3];exact vQ (h2 e' ze)
  ·exact g2 p' y e' ze
structure n6 (good:M→Bool) (led:M→List (Nat×M)) (a:M) (cm:fK M) (aW:List M) (k:Nat):Prop where
 told:∀ m,cX cm m=true→∃ n,n≤k∧o6 led a cm m n
 edg:∀ m∈aW,o6 led a cm m k∧cX cm m=true
 all:∀ ys m,WalkG led a ys m→ys.length≤k→cX cm m=true
 shut:∀ p,cX cm p=true→p∉aW→∀ e∈led p,cX cm e.2=true
 bad:∀ p,cX cm p=true→p∉aW→good p=false
 less:∀ ys m,WalkG led a ys m→ys.length < k→good m=false
theorem n6.go {cm:fK M}{aW:List M}{k:Nat} (h:n6 good led a cm aW k) (hf:aW.find? good=none):n6 good led a (dM led cm aW).1 (dM led cm aW).2 (k+1):=by
 have hm:xO led a cm k (cm,[]):=⟨⟨[],(List.append_nil _).symm⟩,fun m hm=>by obtain⟨n,hn,t⟩:=h.told m hm;exact⟨n,by omega,t⟩,(fun _ z=>nomatch z),fun m hm=>.inl hm⟩
 obtain⟨g1,g2,l,g3⟩:=hm.Z2 (ms:=aW) fun p hp=>(h.edg p hp).1
 have hno:∀ m∈aW,good m=false:=fun m hm=>by
  have:=List.find?_eq_none.mp hf m hm
  cases e:good m with
  | true=>exact absurd e this
  | false=>rfl
 have hbad:∀ p,cX cm p=true→good p=false:=fun p hp=>by
  by_cases q:p∈aW
  ·exact hno p q
  ·exact h.bad p hp q
 have Uh:∀ p,cX cm p=true→∀ e∈led p,cX (dM led cm aW).1 e.2=true:=fun p hp e he=>by
  by_cases q:p∈aW
  ·exact g2 p q e he
  ·unfold dM;rw[g3];exact vQ (h.shut p hp q e he)
 refine⟨g1.told,g1.new,fun ys m hw hl=>?_,fun p hp hq e he=>?_,fun p hp hq=>?_,fun ys m hw hl=>?_⟩
 ·cases hw with
  | nil=>unfold dM;rw[g3];exact vQ (h.all [] a .nil (Nat.zero_le _))
  | @snoc xs p q c hw1 he =>
   rw[List.length_append] at hl
   exact Uh p (h.all xs p hw1 (by simpa using hl)) _ he
 ·rcases g1.old p hp with z | z
  ·exact Uh p z e he
  ·exact absurd z hq
 ·rcases g1.old p hp with z | z
  ·exact hbad p z
  ·exact absurd z hq
 ·exact hbad m (h.all ys m hw (by omega))
theorem n6.zero:n6 good led a [(a,none)] [a] 0:=by
 have hv:o6 led a [(a,none)] a 0:=⟨none,[],by unfold AV;rw[List.find?_cons,decide_eq_true rfl];rfl,.nil,.nil,rfl⟩
 have ha:cX [(a,none)] a=true:=mG.mpr rfl
 refine⟨fun m hm=>?_,fun m hm=>?_,fun ys m hw hl=>?_,fun p hp hq=>?_,fun p hp hq=>?_,fun ys m hw hl=>absurd hl (Nat.not_lt_zero _)⟩
 ·rw[mG.mp hm];exact⟨0,Nat.le_refl _,hv⟩
 ·rw[List.mem_singleton.mp hm];exact⟨hv,ha⟩
 ·cases hw with
  | nil=>exact ha
  | snoc _ _=>rw[List.length_append] at hl;simp at hl
 ·exact absurd (List.mem_singleton.mpr (mG.mp hp)) hq
 ·exact absurd (List.mem_singleton.mpr (mG.mp hp)) hq
end
section
variable {M:Type} [DecidableEq M] {good:M→Bool}{led:M→List (Nat×M)}{most:Option Nat}{a:M}
theorem SE {p:M}{acc:fK M×List M}{e:Nat×M} (h:(acc.1.map (·.1)).Nodup):((iD p acc e).1.map (·.1)).Nodup:=by
 unfold iD
 by_cases q:cX acc.1 e.2=true
 ·rw[if_pos q];exact h
 ·rw[if_neg q,List.map_append,List.nodup_append]
  refine⟨h,by simp,fun x hx y hy z=>q (eX.mpr ?_)⟩
  rw[List.mem_singleton.mp hy] at z
  have z:x=e.2:=z
  rw[←z];exact hx
theorem GV {p:M}:∀{es:List (Nat×M)}{acc:fK M×List M},(acc.1.map (·.1)).Nodup→((es.foldl (iD p) acc).1.map (·.1)).Nodup
 | [],_,h=>h
 | e :: es,acc,h=>by rw[List.foldl_cons];exact GV (SE h)
theorem vR:∀{ms:List M}{acc:fK M×List M},(acc.1.map (·.1)).Nodup→((ms.foldl (m9 led) acc).1.map (·.1)).Nodup
 | [],_,h=>h
 | m :: ms,acc,h=>by rw[List.foldl_cons];exact vR (GV h)
inductive vS (good:M→Bool) (led:M→List (Nat×M)) (most:Option Nat):fK M→List M→Option M→fK M→Prop where
 | stop {cm:fK M}:vS good led most cm [] none cm
 | found {cm:fK M}{aW:List M}{m:M}:aW.find? good=some m→vS good led most cm aW (some m) cm
 | over {cm:fK M}{aW:List M}{n:Nat}:most=some n→aW≠[]→aW.find? good=none→n < cm.length→vS good led most cm aW none cm
 | go {cm LD:fK M}{aW:List M}{r:Option M}:aW≠[]→aW.find? good=none→(∀ n,most=some n→cm.length≤n)→vS good led most (dM led cm aW).1 (dM led cm aW).2 r LD→vS good led most cm aW r LD
structure SG (good:M→Bool) (led:M→List (Nat×M)) (most:Option Nat) (a:M) (r:Option M) (cm:fK M) (aW:List M) (k:Nat):Prop where
 dG:n6 good led a cm aW k
 nd:(cm.map (·.1)).Nodup
 res:r=aW.find? good
 why:r=none→aW=[]∨∃ n,most=some n∧n < cm.length
 len:aW≠[]→k≤cm.length
 few:aW.length≤cm.length
end
theorem jN {P:Program}{w:World}{K:W.Frag}{H:Hp}{m:cP}{b:Addr} (h:dH K H m (.ref b)):sI (YP P w K) H (bw m) b:=by
 obtain⟨b',s,u,vs,e1,e2,e3,e4,e5⟩:=h
 cases e1
 exact Pc e2 e3 e4 e5
def vU (K:W.Frag) (x:Option (cP×Nat)) (H:Hp) (v:V):Prop:=match x with
 | none=>v=.non
 | some (m,c)=>∃ t w,v=.ref t∧aV K H t [w,.str (sg c)]∧dH K H m w
abbrev tW (K:W.Frag) (H:Hp):List (N3 (Lf ⊕ List (Lf ⊕ List (Lf ⊕ List Lf))))→(fK cP)→Prop:=Paired fun e p=>e.1=bw p.1∧dH K H p.1 (.ref e.2.1)∧vU K p.2 H e.2.2
structure i9 (P:Program) (w:World) (K:W.Frag) (H:Hp) (a:Addr) (cm:(fK cP)):Prop where
 ok:∃ kvs,Nd (YP P w K) (aY P w) H a kvs∧tW K H kvs cm
theorem vU.keep {K:W.Frag}{H H':Hp}{x:Option (cP×Nat)}{v:V} (t:∀ b xs,aV K H b xs→aV K H' b xs) (h:vU K x H v):vU K x H' v:=by
 cases x with
 | none=>exact h
 | some mc=>obtain⟨t1,w1,e1,e2,e3⟩:=h;exact⟨t1,w1,e1,t _ _ e2,e3.keep t⟩
theorem tW.keep {K:W.Frag}{H H':Hp} (t:∀ b xs,aV K H b xs→aV K H' b xs):∀{kvs:List (N3 (Lf ⊕ List (Lf ⊕ List (Lf ⊕ List Lf))))}{cm:(fK cP)},tW K H kvs cm→tW K H' kvs cm
 | _,_,.nil=>.nil
 | _,_,.cons a r=>.cons ⟨a.1,a.2.1.keep t,a.2.2.keep t⟩ (tW.keep t r)
theorem i9.mono {P:Program}{w:World}{K:W.Frag}{H H':Hp}{a:Addr}{cm:(fK cP)} (s:aE H H') (h:i9 P w K H a cm):i9 P w K H' a cm:=by
 obtain⟨kvs,d,r⟩:=h.ok
 exact⟨kvs,d.mono s,r.keep fun b xs q=>aF s q⟩
theorem i9.but {P:Program}{w:World}{K:W.Frag}{H:Hp}{a l:Addr}{cm:(fK cP)}{ws:List V}{o:HO} (hl:H l=some (.lst ws)) (h:i9 P w K H a cm):i9 P w K (upd H l o) a cm:=by
 obtain⟨kvs,d,r⟩:=h.ok
 have t:∀ b xs,aV K H b xs→aV K (upd H l o) b xs:=fun b xs q=>lg hl q
 exact⟨kvs,⟨(aC (f6 d.ob hl (fun q=>nomatch q))).trans d.ob,fun e he=>(d.keys e he).keep t⟩,r.keep t⟩
theorem xP {K:W.Frag}{H:Hp}{m:cP}:∀{kvs:List (N3 (Lf ⊕ List (Lf ⊕ List (Lf ⊕ List Lf))))}{cm:(fK cP)},tW K H kvs cm→(valN kvs (bw m)).isSome=cX cm m
 | _,_,.nil=>rfl
 | e :: kvs,p :: cm,.cons a r=>by
  have ih:=xP (m:=m) r
  unfold valN cX at ih ⊢
  rw[List.find?_cons,List.any_cons,a.1]
  by_cases q:p.1=m
  ·rw[decide_eq_true q,decide_eq_true (by rw[q])];rfl
  ·rw[decide_eq_false q,decide_eq_false (fun z=>q (uH.mp z)),Bool.false_or];exact ih
theorem xQ {K:W.Frag}{H:Hp}{kvs:List (N3 (Lf ⊕ List (Lf ⊕ List (Lf ⊕ List Lf))))}{cm:(fK cP)} (h:tW K H kvs cm):kvs.length=cm.length:=Paired.length h
theorem Nd.age {P:Program}{w:World}{K:W.Frag}{H:Hp}{a b:Addr}{k:List (Lf ⊕ List (Lf ⊕ List (Lf ⊕ List Lf)))}{v:V} (h:H a=some (dN (ZP P w) (aY P w) a [])) (e:sI (YP P w K) H k b):Nd (YP P w K) (aY P w) (upd H a (dN (ZP P w) (aY P w) a [(k,b,v)])) a [(k,b,v)]:=by
 refine⟨aj,fun p hp=>?_⟩
 rw[List.mem_singleton.mp hp]
 exact e.keep (uF h)
theorem i9.one {P:Program}{w:World}{K:W.Frag}{H:Hp}{a b:Addr}{m:cP} (h:H a=some (dN (ZP P w) (aY P w) a [])) (hm:dH K H m (.ref b)):i9 P w K (upd H a (dN (ZP P w) (aY P w) a [(bw m,b,.non)])) a [(m,none)]:=by
 have e2:=jN (P:=P) (w:=w) hm
 have t:=uF (F:=K) h (o:=dN (ZP P w) (aY P w) a [(bw m,b,.non)])
 exact⟨_,Nd.age h (e2),.cons ⟨rfl,hm.keep t,rfl⟩ .nil⟩
theorem i9.put {P:Program}{w:World}{K:W.Frag}{H:Hp}{a b:Addr}{m:cP}{cm:(fK cP)}{kvs:List (N3 (Lf ⊕ List (Lf ⊕ List (Lf ⊕ List Lf))))}{x:Option (cP×Nat)}{v:V} (d:Nd (YP P w K) (aY P w) H a kvs) (r:tW K H kvs cm) (hm:dH K H m (.ref b)) (hn:cX cm m=false) (hv:vU K x H v) :
  i9 P w K (upd H a (dN (ZP P w) (aY P w) a (putN kvs (bw m) b v))) a (cm++[(m,x)]):=by
 have e2:=jN (P:=P) (w:=w) hm
 have t:=uF (F:=K) d.ob (o:=dN (ZP P w) (aY P w) a (putN kvs (bw m) b v))
 refine⟨_,d.put (e2),?_⟩
 have q:=xP (m:=m) r
 rw[hn] at q
 have hv0:valN kvs (bw m)=none:=by
  cases z:valN kvs (bw m) with
  | none=>rfl
  | some y=>rw[z] at q;cases q
 rw[vA hv0]
 rw[vA hv0] at t
 exact cj (r.keep t) (.cons ⟨rfl,hm.keep t,hv.keep t⟩ .nil)
theorem zj.keep {K:W.Frag}{H H':Hp} (t1:∀ b xs,H b=some (.tup xs)→H' b=some (.tup xs)) (t:∀ b xs,aV K H b xs→aV K H' b xs):∀{vs:List V}{es:List (Nat×cP)},zj K H vs es→zj K H' vs es
 | _,_,.nil=>.nil
 | _,_,.cons ⟨x,w,e,h,q⟩ r=>.cons ⟨x,w,e,t1 _ _ h,q.keep t⟩ (zj.keep t1 t r)
abbrev vV (K:W.Frag) (H:Hp):List V→List cP→Prop:=Paired fun v m=>dH K H m v
theorem vV.keep {K:W.Frag}{H H':Hp} (t:∀ b xs,aV K H b xs→aV K H' b xs):∀{vs:List V}{ms:List cP},vV K H vs ms→vV K H' vs ms
 | _,_,.nil=>.nil
 | _,_,.cons a r=>.cons (a.keep t) (vV.keep t r)
theorem xR {K:W.Frag}{H:Hp}{m:cP}{x:Option (cP×Nat)}:∀{kvs:List (N3 (Lf ⊕ List (Lf ⊕ List (Lf ⊕ List Lf))))}{cm:(fK cP)},tW K H kvs cm→AV cm m=some x→∃ v,valN kvs (bw m)=some v∧vU K x H v
 | _,_,.nil,h=>by cases h
 | e :: kvs,p :: cm,.cons a r,h=>by
  unfold AV at h
  unfold valN
  rw[List.find?_cons] at h ⊢
  rw[a.1]
  by_cases q:p.1=m
  ·rw[decide_eq_true q] at h
   rw[decide_eq_true (by rw[q])]
   cases h
   exact⟨_,rfl,a.2.2⟩
  ·rw[decide_eq_false q] at h
   rw[decide_eq_false (fun z=>q (uH.mp z))]
   exact xR r h
def agf (K:W.Frag) (x:Option cP) (H:Hp) (v:V):Prop:=match x with
 | none=>v=.non
 | some m=>dH K H m v
theorem P9 {x:bI}{cs:List bI}{ts:List (Str×Str)}{z:Str}{m:cP} (hm:m.2.length=cs.length) {e:Nat×cP} (he:e∈cH x cs ts z m):e.2.2.length=cs.length:=by
 obtain⟨c,_,hc⟩:=List.mem_filterMap.mp he
 cases h:tH x ts m.1 c with
 | none=>rw[h] at hc;cases hc
 | some m'=>rw[h] at hc;cases hc;show(iC cs ts m.2 c).length=_;unfold iC;rw[List.length_map,List.length_zip,hm,Nat.min_self]
theorem Dw {x:bI}{cs:List bI}{ts:List (Str×Str)}{z:Str}{m:cP}:(cH x cs ts z m).length≤z.length:=by
 unfold cH
 refine Nat.le_trans (List.length_filterMap_le ..) ?_
 rw[Array.length_toList];exact Nat.le_refl _
theorem jO {K:W.Frag}{H:Hp}{m:cP}{v:V} (h:dH K H m v):∃ b,v=.ref b:=let ⟨b,_,_,_,e,_⟩:=h;⟨b,e⟩
theorem AX {K:W.Frag}{H:Hp}:∀{kvs:List (N3 (Lf ⊕ List (Lf ⊕ List (Lf ⊕ List Lf))))}{cm:fK cP},tW K H kvs cm→vV K H (kvs.map fun e=>V.ref e.2.1) (cm.map (·.1))
 | _,_,.nil=>.nil
 | _,_,.cons a r=>.cons a.2.1 (AX r)
section
variable {M:Type} [DecidableEq M] {good:M→Bool}{led:M→List (Nat×M)}{n:Nat}{a:M}
theorem Qa {cm LD:fK M}{aW:List M}{r:Option M} (h:vS good led (some n) cm aW r LD):∀{k:Nat},n6 good led a cm aW k→(cm.map (·.1)).Nodup→(aW≠[]→k≤cm.length)→aW.length≤cm.length→k≤n+1→∃ LF k',SG good led (some n) a r LD LF k'∧(LF≠[]→k'≤n+1):=by
 generalize hmo:some n=most at h
 induction h with
 | stop=>intro k L nd hk hf hk2;exact⟨_,k,⟨L,nd,rfl,(fun _=>.inl rfl),hk,hf⟩,fun _=>hk2⟩
 | found hF=>intro k L nd hk hf hk2;exact⟨_,k,⟨L,nd,hF.symm,(fun z=>nomatch z),hk,hf⟩,fun _=>hk2⟩
 | @over cm aW n' hn _ hF hlt=>intro k L nd hk hf hk2;exact⟨_,k,⟨L,nd,hF.symm,(fun _=>.inr ⟨n',hn,hlt⟩),hk,hf⟩,fun _=>hk2⟩
 | @go cm LD aW r hne hF hm hR ih =>
  intro k L nd hk hf hk2
  have q:=jG (led:=led) aW (cm,[])
  simp only[List.length_nil,Nat.add_zero] at q
  have h1:=hm n hmo.symm
  have h2:=hk hne
  refine ih (L.go hF) (vR nd) (fun z=>?_) (by unfold dM;omega) (by omega)
  have:=List.length_pos_iff.mpr z
  unfold dM at *
  omega
theorem Qc {cm:fK M}{r:Option M} (h:vS good led (some n) [(a,none)] [a] r cm):∃ aW k,SG good led (some n) a r cm aW k∧(aW≠[]→k≤n+1):=Qa h n6.zero (by simp) (fun _=>Nat.zero_le _) (by simp) (Nat.zero_le _)
end
def Z3 (K:W.Frag) (led:cP→List (Nat×cP)) (p0:cP) (n:Nat) (r:Option cP) (cm:fK cP) (k:Nat) (H0 H:Hp) (t:Addr):Prop:=match r with
 | some m=>∃ xs,H t=some (.tup [.str ("text":Str),.str (Txt.join ("":Str) (xs.map sg))])∧WalkG led p0 xs m∧xs.length=k∧k≤n+1
 | none=>(n < cm.length∧H t=some (.tup [.str ("open":Str)]))∨(cm.length≤n∧∃ l vs,H t=some (.tup [.str ("none":Str),.ref l])∧H0 l=none∧H l=some (.lst vs)∧vV K H vs (cm.map (·.1)))
theorem GW {cs:List bI}{t:List (List Str)} (gs:∀ c∈cs,nk c) (tok:TabOk t):(fZ cs t).length≤7 * cs.length+402:=by
 have n1:(Str.ofString "\n").length=1:=by decide +kernel
 have n2:(" ":Str).length=1:=by decide +kernel
 have a0:=ED gs
 have j1:=oZ (cs.map zk)
 have j2:=oZ (t.map (Txt.join ("":Str)))
 have c1:=xM t
 have ts:=tok.sum
 unfold fZ
 generalize Txt.join ("":Str) (cs.map zk)=S1 at j1 ⊢
 generalize Txt.join ("":Str) (t.map (Txt.join ("":Str)))=S2 at j2 ⊢
 have a1:=cg S1 (Str.ofString "\n")
 have a2:=cg (S1++Str.ofString "\n") (" ":Str)
 have a3:=cg ((S1++Str.ofString "\n")++Str.ofString " ") S2
 have m1:=Dq (((S1++Str.ofString "\n")++Str.ofString " ")++S2)
 omega
def Yr (x:bI) (ts:List (Str×Str)) (m:d9):Prop:=pU x.2.1 m.1.1 m.1.2∧m.2≤ts.length
def SH (x:bI) (cs:List bI) (ts:List (Str×Str)) (m:cP) (c:Nat):Option cP:=(tH x ts m.1 c).map fun m'=>(m',iC cs ts m.2 c)
theorem Ui (l:List Nat) (c:Nat):away ⟨l.toArray⟩ c=true↔c∉l:=by
 rw[mw]
theorem Dy {acc:List Nat}{c:Nat} (h:c∈acc):gu acc c=acc:=by
 unfold gu
 rw[if_neg]
 rw[Ui]
 exact fun z=>z h
theorem Mz (l:List Nat):∀ acc:List Nat,(cZ l).foldl gu acc=l.foldl gu acc:=by
 suffices h:∀(r:List Nat) (acc:List Nat),(cZ r.reverse).foldl gu acc=r.reverse.foldl gu acc by
  intro acc;have:=h l.reverse acc;rwa [List.reverse_reverse] at this
 intro r
 induction r with
 | nil=>intro acc;rfl
 | cons c r ih =>
  intro acc
  rw[List.reverse_cons,mE,List.foldl_append]
  show _=gu (r.reverse.foldl gu acc) c
  by_cases hc:c∈cZ r.reverse
  ·rw[Dy hc,ih,Dy]
   rw[←ih]
   exact(xK _ _).mpr (.inr hc)
  ·have e:gu (cZ r.reverse) c=cZ r.reverse++[c]:=by
    unfold gu
    rw[if_pos]
    rw[Ui]
    exact hc
   rw[e,List.foldl_append,ih]
   rfl
theorem Qd (a b c:List Nat):cZ (a++cZ b++c)=cZ (a++b++c):=by
 unfold cZ
 rw[List.foldl_append,List.foldl_append,List.foldl_append,List.foldl_append]
 have:=Mz b (a.foldl gu [])
 unfold cZ at this
 rw[this]
theorem Dz:∀(xs:List (List Nat)) (a c:List Nat),cZ (a++(xs.map cZ).flatten++c)=cZ (a++xs.flatten++c)
 | [],_,_=>rfl
 | x :: xs,a,c=>by
  rw[List.map_cons,List.flatten_cons,List.flatten_cons,←List.append_assoc,List.append_assoc (a++cZ x),Qd a x,←List.append_assoc,Dz xs (a++x) c,List.append_assoc a x]
def Uj (x:bI):Str:=(x.1++x.2.1)++x.2.2.1
theorem DA:∀(r:List Str),(ck r).cps.toList=(r.map fun z=>z.cps.toList).flatten
 | []=>pT
 | z :: r=>by show(z++ck r).cps.toList=_;rw[app_list,DA r];rfl
theorem LG (cs:List bI) (t:List (List Str)):rD ((ck (cs.map Uj)++Str.ofString "\n ")++ck (t.map ck))=fZ cs t:=by
 unfold fZ rD
 rw[pX,pX]
 have e2:t.map (Txt.join ("":Str))=t.map ck:=List.map_congr_left fun r _=>pX r
 rw[e2]
 have en:(Str.ofString "\n ").cps.toList=(Str.ofString "\n").cps.toList++(" ":Str).cps.toList:=by decide +kernel
 simp only[app_list,DA,en]
 have h:=Dz (cs.map fun c=>(Uj c).cps.toList) [] (((Str.ofString "\n").cps.toList++(" ":Str).cps.toList)++(List.map (fun z=>z.cps.toList) (List.map ck t)).flatten)
 rw[List.nil_append,List.nil_append] at h
 have e3:(cs.map fun c=>(Uj c).cps.toList).map cZ=(cs.map zk).map fun z=>z.cps.toList:=by
  rw[List.map_map,List.map_map];exact List.map_congr_left fun c _=>rfl
 rw[e3] at h
 congr 2
 simp only[List.append_assoc,List.map_map] at h ⊢
 exact h.symm
section
variable {p q f:Str}{b1 b2 b3 b4:Bool}{ts:List (Str×Str)}
theorem Qe {m m':d9}{c:Nat} (h:pU q m.1.1 m.1.2) (hn:m.2≤ts.length) (e:nZ p q f b1 b2 b3 b4 ts m c=some m'):pU q m'.1.1 m'.1.2∧m'.2≤ts.length:=by
 obtain⟨k,hs,hl,hc⟩:=EA e
 refine⟨sM h hs,?_⟩
 unfold uL at hc
 by_cases hk:bz k ("skip":Str)=true
 ·rw[if_pos hk] at hc
  have e:m.2=m'.2:=Option.some.inj hc
  omega
 ·rw[if_neg hk] at hc
  by_cases ht:ts[m.2]? = some (k,if bz k ("put":Str)=true then sg c else Str.ofString "")
  ·rw[if_pos ht] at hc
   have e:m.2+1=m'.2:=Option.some.inj hc
   have hlt:=(List.getElem?_eq_some_iff.mp ht).1
   omega
  ·rw[if_neg ht] at hc;cases hc
end
theorem Yr.step {x:bI}{ts:List (Str×Str)}{m m':d9}{c:Nat} (h:Yr x ts m) (e:tH x ts m c=some m'):Yr x ts m':=Qe h.1 h.2 e
theorem Z4 (x:bI) (ts:List (Str×Str)):Yr x ts stM:=⟨.inl ⟨rfl,.inl rfl⟩,Nat.zero_le _⟩
abbrev tX (K:W.Frag) (H:Hp):List (N3 (Lf ⊕ List (Lf ⊕ List (Lf ⊕ List Lf))))→fK cP→Prop:=Paired fun e p=>e.1=bw p.1∧dH K H p.1 (.ref e.2.1)
structure GX (P:Program) (w:World) (K:W.Frag) (H:Hp) (a:Addr) (cm:fK cP):Prop where
 ok:∃ kvs,Nd (YP P w K) (aY P w) H a kvs∧tX K H kvs cm
theorem tX.keep {K:W.Frag}{H H':Hp} (t:∀ b xs,aV K H b xs→aV K H' b xs):∀{kvs:List (N3 (Lf ⊕ List (Lf ⊕ List (Lf ⊕ List Lf))))}{cm:fK cP},tX K H kvs cm→tX K H' kvs cm
 | _,_,.nil=>.nil
 | _,_,.cons a r=>.cons ⟨a.1,a.2.keep t⟩ (tX.keep t r)
theorem GX.mono {P:Program}{w:World}{K:W.Frag}{H H':Hp}{a:Addr}{cm:fK cP} (s:aE H H') (h:GX P w K H a cm):GX P w K H' a cm:=by
 obtain⟨kvs,d,r⟩:=h.ok
 exact⟨kvs,d.mono s,tX.keep (fun b xs q=>aF s q) r⟩
theorem sO {K:W.Frag}{H:Hp}{m:cP}:∀{kvs:List (N3 (Lf ⊕ List (Lf ⊕ List (Lf ⊕ List Lf))))}{cm:fK cP},tX K H kvs cm→(valN kvs (bw m)).isSome=cX cm m
 | _,_,.nil=>rfl
 | e :: kvs,p :: cm,.cons a r=>by
  have ih:=sO (m:=m) r
  unfold valN cX at ih ⊢
  rw[List.find?_cons,List.any_cons,a.1]
  by_cases q:p.1=m
  ·rw[decide_eq_true q,decide_eq_true (by rw[q])];rfl
  ·rw[decide_eq_false q,decide_eq_false (fun z=>q (uH.mp z)),Bool.false_or];exact ih
theorem GX.put {P:Program}{w:World}{K:W.Frag}{H:Hp}{a b:Addr}{m:cP}{cm:fK cP}{kvs:List (N3 (Lf ⊕ List (Lf ⊕ List (Lf ⊕ List Lf))))}{x:Option (cP×Nat)}{v:V} (d:Nd (YP P w K) (aY P w) H a kvs) (r:tX K H kvs cm) (hm:dH K H m (.ref b)) (hn:cX cm m=false) :
  GX P w K (upd H a (dN (ZP P w) (aY P w) a (putN kvs (bw m) b v))) a (cm++[(m,x)]):=by
 have e2:=jN (P:=P) (w:=w) hm
 have t:=uF (F:=K) d.ob (o:=dN (ZP P w) (aY P w) a (putN kvs (bw m) b v))
 refine⟨_,d.put (e2),?_⟩
 have q:=sO (m:=m) r
 rw[hn] at q
 have hv0:valN kvs (bw m)=none:=by
  cases z:valN kvs (bw m) with
  | none=>rfl
  | some y=>rw[z] at q;cases q
 rw[vA hv0]
 rw[vA hv0] at t
 exact cj (tX.keep t r) (.cons ⟨rfl,hm.keep t⟩ .nil)
theorem GY {x:bI}{cs:List bI}{ts:List (Str×Str)}{z:Str}{m:cP}{e:Nat×cP} (h:e∈cH x cs ts z m):SH x cs ts m e.1=some e.2:=by
 obtain⟨c,_,hc⟩:=List.mem_filterMap.mp h
 unfold SH
 cases hM:tH x ts m.1 c with
 | none=>rw[hM] at hc;cases hc
 | some m'=>rw[hM] at hc;cases hc;rw[hM];rfl
theorem xS {ts:List (Str×Str)}{c:Nat}{g:bI→Option d9}:∀(cs:List bI),iC cs ts (cs.map g) c=cs.map fun y=>GS y ts (g y) c
 | []=>rfl
 | y :: cs=>by
  have ih:=xS (ts:=ts) (c:=c) (g:=g) cs
  unfold iC at ih ⊢
  rw[List.map_cons,List.zip_cons_cons,List.map_cons,List.map_cons,ih]
def rH (y:bI) (ts:List (Str×Str)) (xs:List Nat):Option d9:=Uc y.1 y.2.1 y.2.2.1 y.2.2.2.a y.2.2.2.b y.2.2.2.c y.2.2.2.d ts m0 xs
theorem sP {y:bI}{ts:List (Str×Str)}{xs:List Nat}{c:Nat}:rH y ts (xs++[c])=GS y ts (rH y ts xs) c:=by unfold rH;rw[GQ];rfl
theorem Uk {x:bI}{cs:List bI}{ts:List (Str×Str)}{z:Str}{xs:List Nat}{m:cP} (h:WalkG (cH x cs ts z) (bV cs.length) xs m):rH x ts xs=some m.1∧m.2=cs.map fun y=>rH y ts xs:=by
 induction h with
 | nil =>
  refine⟨rfl,?_⟩
  show List.replicate cs.length (some stM)=_
  have e:(cs.map fun y=>rH y ts [])=cs.map fun _=>some stM:=List.map_congr_left fun y _=>rfl
  rw[e,List.map_const']
 | @snoc xs p q c _ he ih =>
  have hb:=GY he
  unfold SH at hb
  rw[sP,ih.1]
  cases hM:tH x ts p.1 c with
  | none=>rw[hM] at hb;cases hb
  | some m' =>
   rw[hM] at hb
   have hb:some (m',iC cs ts p.2 c)=some q:=hb
   cases hb
   refine⟨hM,?_⟩
   show iC cs ts p.2 c=_
   rw[ih.2,xS]
   exact List.map_congr_left fun y _=>sP.symm
theorem MA {x:bI}{cs:List bI}{t:List (List Str)}{z:Str}{xs:List Nat}{m:cP} (tok:TabOk t) (h:WalkG (cH x cs (aB t) z) (bV cs.length) xs m) (hg:cA (aB t) m=true):AR x cs t (Txt.join ("":Str) (xs.map sg))=true:=by
 obtain⟨h1,h2⟩:=Uk h
 have hlo:∀ r∈t,1≤r.length:=fun r hr=>(tok.rows r hr).lo
 unfold cA at hg
 rw[Bool.and_eq_true] at hg
 have g1:=of_decide_eq_true hg.1
 unfold AR
 rw[Bool.and_eq_true]
 refine⟨?_,?_⟩
 ·rw[Ue hlo,mF]
  refine decide_eq_true ?_
  show rH x (aB t) xs=_
  rw[h1,g1];rfl
 ·have g2:=hg.2
  rw[h2,List.any_map] at g2
  rw[←g2]
  congr 2
  funext y
  rw[Ue hlo,mF]
  rfl
theorem Z5 {t:List (List Str)} (h:TabOk t) (hl:cells t+total t≤18):(aB t).length≤24:=by rw[Sw h.rows];omega
theorem SI {q w u:Str} (h:pU q w u):(w,u)∈cont q.cps.toList:=by
 unfold cont
 rcases h with ⟨rfl,h⟩ | ⟨c,hc,rfl,h⟩
 ·refine List.mem_append_left _ ?_
  unfold c5
  rcases h with rfl | rfl | rfl | rfl | rfl <;> simp
 ·refine List.mem_append_right _ (List.mem_flatMap.mpr ⟨c,hc,?_⟩)
  unfold c3
  rcases h with rfl | rfl | rfl <;> simp
def Ys (x:bI) (ts:List (Str×Str)) (m:d9):Prop:=Yr x ts m∧fQ x.2.2.1 m.1.1 m.1.2=true
def Qf (cs:List bI) (ts:List (Str×Str)) (os:List (Option d9)):Prop:=Paired (fun x o=>∀ m,o=some m→Ys x ts m) cs os
def VI (x:bI) (cs:List bI) (ts:List (Str×Str)) (m:cP):Prop:=Ys x ts m.1∧Qf cs ts m.2
theorem GZ {x:bI}{ts:List (Str×Str)}{m m':d9}{c:Nat} (h:Ys x ts m) (e:tH x ts m c=some m'):Ys x ts m':=⟨Yr.step h.1 e,(EA e).choose_spec.2.1⟩
theorem DB {ts:List (Str×Str)}{c:Nat}:∀{cs:List bI}{os:List (Option d9)},Qf cs ts os→Qf cs ts (iC cs ts os c)
 | _,_,.nil=>.nil
 | x :: cs,o :: os,.cons a r=>by
  refine .cons (fun m' e=>?_) (DB r)
  cases o with
  | none=>cases e
  | some m=>exact GZ (a m rfl) e
theorem Qg (x:bI) (ts:List (Str×Str)):Ys x ts stM:=⟨Z4 x ts,GK x.2.2.1⟩
theorem AY {ts:List (Str×Str)}:∀(cs:List bI),Qf cs ts (List.replicate cs.length (some stM))
 | []=>.nil
 | x :: cs=>.cons (fun m e=>by cases e;exact Qg x ts) (AY cs)
theorem Qh {x:bI}{cs:List bI}{ts:List (Str×Str)}{z:Str}{xs:List Nat}{m:cP} (h:WalkG (cH x cs ts z) (bV cs.length) xs m):VI x cs ts m:=by
 induction h with
 | nil=>exact⟨Qg x ts,AY cs⟩
 | @snoc xs p q c _ he ih =>
  have hb:=GY he
  unfold SH at hb
  cases hM:tH x ts p.1 c with
  | none=>rw[hM] at hb;cases hb
  | some m' =>
   rw[hM] at hb
   have hb:some (m',iC cs ts p.2 c)=some q:=hb
   cases hb
   exact⟨GZ ih.1 hM,DB ih.2⟩
def Qi (ms:List cP):fK cP:=ms.map fun m=>(m,none)
theorem EE {ms:List cP}{m:cP}:cX (Qi ms) m=true↔m∈ms:=by
 rw[eX]
 unfold Qi
 rw[List.map_map]
 show m∈ms.map (fun m=>m)↔_
 rw[List.map_id']
theorem Qj (ms:List cP) (m:cP):Qi (ms++[m])=Qi ms++[(m,none)]:=by unfold Qi;rw[List.map_append];rfl
theorem Qk {α:Type}{l:List α} (h:l.Nodup) {i:Nat}{x:α} (hx:l[i]? = some x):x∉l.take i:=by
 intro hm
 have e:l=l.take i++x :: l.drop (i+1):=by
  obtain⟨h1,h2⟩:=List.getElem?_eq_some_iff.mp hx
  rw[←h2,←List.drop_eq_getElem_cons h1,List.take_append_drop]
 rw[e,List.nodup_append] at h
 exact h.2.2 x hm x (List.mem_cons_self ..) rfl
theorem tG.ext {K:W.Frag}{C CT CM:Addr}{H:Hp}{m D:Addr}{p q f:Str}{b1 b2 b3 b4:Bool}{ts:List (Str×Str)}{E:Heap→Prop}{o:HO} (hD:H D=some (.ext E)) (tq:∀ b xs,aV K H b xs→aV K (upd H D o) b xs) (h:tG K C CT CM H m p q f b1 b2 b3 b4 ts):tG K C CT CM (upd H D o) m p q f b1 b2 b3 b4 ts:=by
 obtain⟨dm,y,l,ys,e1,e2,e3,e4⟩:=h.ok
 refine⟨dm,y,l,ys,(aC (f6 e1 hD (fun z=>nomatch z))).trans e1,Tn.off hD (fun d fs z=>nomatch z) (fun d z=>nomatch z) e2,(aC (f6 e3 hD (fun z=>nomatch z))).trans e3,aH (fun v t h=>?_) e4⟩
 obtain⟨a,q1,q2⟩:=h
 exact⟨a,q1,tq _ _ q2⟩
theorem AS.ext {K:W.Frag}{C CT CM CP:Addr}{H:Hp}{y D:Addr}{x:bI}{cs:List bI}{ts:List (Str×Str)}{z:Str}{E:Heap→Prop}{o:HO} (hD:H D=some (.ext E)) (tq:∀ b xs,aV K H b xs→aV K (upd H D o) b xs) (h:AS K C CT CM CP H y x cs ts z):AS K C CT CM CP (upd H D o) y x cs ts z:=by
 obtain⟨dy,m,lm,ms,e1,e2,e3,e4⟩:=h.ok
 exact⟨dy,m,lm,ms,(aC (f6 e1 hD (fun z=>nomatch z))).trans e1,tG.ext hD tq e2,(aC (f6 e3 hD (fun z=>nomatch z))).trans e3,aH (fun v x ⟨m,q1,q2⟩=>⟨m,q1,tG.ext hD tq q2⟩) e4⟩
def Ql (w u:Str):Res :=
 if bz w ("within":Str)=true then .go ("put":Str) ("within":Str) u else
 if bz w ("freed":Str)=true then fD u else
 if bz w ("doubt":Str)=true then .pL ("behind":Str) else
 if bz w ("behind":Str)=true then .pL ("behind":Str) else .go ("put":Str) ("plain":Str) ("":Str)
structure Off (p q f:Str) (c:Nat):Prop where
 p:¬pJ c p=true
 q:¬pJ c q=true
 f:¬pJ c f=true
 l:¬bz (sg c) (Str.ofString "\n")=true
 b:¬bz (sg c) (" ":Str)=true
theorem Qm {p q f:Str}{b1 b2 b3 b4:Bool}{w u:Str}{c:Nat} (o:Off p q f c) (h:pU q w u):bE p q f b1 b2 b3 b4 w u c=Ql w u:=by
 have hu:¬bz (sg c) u=true:=by
  rcases h with ⟨rfl,_⟩ | ⟨d,hd,rfl,_⟩
  ·exact AH c
  ·refine Jp fun e=>o.q ?_
   rw[e,Em]
   exact decide_eq_true hd
 have e1:d8 f b1 b2 u c=.go ("put":Str) ("within":Str) u:=by unfold d8;rw[if_neg o.f,if_neg hu,if_neg o.l]
 have e2:gK b2 u c=fD u:=by unfold gK;rw[if_neg o.l]
 have e4:cT p b3 c=.pL ("behind":Str):=by unfold cT;rw[if_neg o.l,if_neg o.p,if_neg o.b]
 have e3:mD p b3 u c=.pL ("behind":Str):=by unfold mD;rw[if_neg hu];exact e4
 have e5:qv p q f b3 b4 w u c=.go ("put":Str) ("plain":Str) ("":Str):=by
  unfold qv i8 i7
  rw[if_neg o.f,if_neg o.f,if_neg o.l,if_neg o.l,if_neg o.p,if_neg o.q,if_neg o.q,if_neg o.p,if_neg o.b]
  split <;> rfl
 unfold bE Ql
 rw[e1,e2,e3,e4,e5]
theorem MB (w u:Str):(∃ w' u',Ql w u=.go ("put":Str) w' u')∨∃ w',Ql w u=.pL w':=by
 unfold Ql fD
 split
 ·exact .inl ⟨_,_,rfl⟩
 split
 ·split
  ·exact .inl ⟨_,_,rfl⟩
  ·exact .inl ⟨_,_,rfl⟩
 split
 ·exact .inr ⟨_,rfl⟩
 split
 ·exact .inr ⟨_,rfl⟩
 ·exact .inl ⟨_,_,rfl⟩
theorem c10 {c:Nat} (h:c≠10):¬bz (sg c) (Str.ofString "\n")=true:=by
 have e:Str.ofString "\n" = sg 10:=by decide +kernel
 rw[e];exact Jp h
theorem c32 {c:Nat} (h:c≠32):¬bz (sg c) (" ":Str)=true:=by
 have e:Str.ofString " " = sg 32:=by decide +kernel
 rw[e];exact Jp h
theorem VJ {p q f:Str}{c:Nat} (h1:c≠10) (h2:c≠32) (h:away ((p++q)++f) c=true):Off p q f c:=by
 have hn:=(mw _ _).mp h
 have e:((p++q)++f).cps.toList=(p.cps.toList++q.cps.toList)++f.cps.toList:=by
  show((p.cps++q.cps)++f.cps).toList=_
  simp
 rw[e,List.mem_append,List.mem_append] at hn
 exact⟨En fun z=>hn (.inl (.inl z)),En fun z=>hn (.inl (.inr z)),En fun z=>hn (.inr z),c10 h1,c32 h2⟩
theorem LH {cs:List bI}{t:List (List Str)}{c:Nat}:c∈(fZ cs t).cps.toList↔c∈(ck (cs.map Uj)).cps.toList∨c=10∨c=32∨c∈(ck (t.map ck)).cps.toList:=by
 rw[←LG]
 unfold rD
 show c∈cZ _↔_
 unfold cZ
 rw[xK,app_list,app_list,List.mem_append,List.mem_append]
 have en:(Str.ofString "\n ").cps.toList=[10,32]:=by decide +kernel
 rw[en]
 simp only[List.not_mem_nil,false_or,List.mem_cons,or_false]
 constructor
 ·rintro((h | h | h) | h)
  ·exact .inl h
  ·exact .inr (.inl h)
  ·exact .inr (.inr (.inl h))
  ·exact .inr (.inr (.inr h))
 ·rintro(h | h | h | h)
  ·exact .inl (.inl h)
  ·exact .inl (.inr (.inl h))
  ·exact .inl (.inr (.inr h))
  ·exact .inr h
theorem Af {c:Nat}:∀{r:List Str}{z:Str},z∈r→c∈z.cps.toList→c∈(ck r).cps.toList
 | y :: r,z,hz,hc=>by
  show c∈(y++ck r).cps.toList
  rw[app_list,List.mem_append]
  rcases List.mem_cons.mp hz with q | q
  ·rw[←q];exact .inl hc
  ·exact .inr (Af q hc)
theorem Ag {c:Nat}:∀{r:List Str},c∈(ck r).cps.toList→∃ z∈r,c∈z.cps.toList
 | [],h=>by rw[show(ck []).cps.toList=[] from pT] at h;cases h
 | y :: r,h=>by
  have h:c∈(y++ck r).cps.toList:=h
  rw[app_list,List.mem_append] at h
  rcases h with q | q
  ·exact⟨y,List.mem_cons_self ..,q⟩
  ·obtain⟨z,h1,h2⟩:=Ag q;exact⟨z,List.mem_cons_of_mem _ h1,h2⟩
theorem VL {c d:Nat} (h:sg c=sg d):c=d:=by
 have:=congrArg (fun z:Str=>z.cps.toList) h
 have:[c]=[d]:=this
 exact(List.cons.inj this).1
theorem Ul {c:Nat}{r:List Str}:∀ n,n≤r.length→(Str.ofString "put",sg c)∈m8 r n→∃ z∈r,c∈z.cps.toList
 | 0,_,h=>nomatch h
 | n+1,hn,h=>by
  obtain⟨z,hz⟩:∃ z,r[n]? = some z:=⟨_,List.getElem?_eq_getElem (by omega)⟩
  rw[lQ hz] at h
  rcases List.mem_append.mp h with q | q
  ·exact Ul n (by omega) q
  ·rcases List.mem_append.mp q with q | q
   ·exfalso
    split at q
    ·cases q
    ·have e:=congrArg (fun x:Str×Str=>x.1) (List.mem_singleton.mp q)
     exact absurd (show Str.ofString "put" = Str.ofString "part" from e) (by decide +kernel)
   ·unfold uK at q
    obtain⟨d,hd,e⟩:=List.mem_map.mp q
    have e2:sg d=sg c:=congrArg (fun x:Str×Str=>x.2) e
    rw[←VL e2]
    exact⟨z,List.mem_of_getElem? hz,hd⟩
theorem SJ {c:Nat}{t:List (List Str)} (h:(Str.ofString "put",sg c)∈aB t):c∈(ck (t.map ck)).cps.toList:=by
 obtain⟨r,hr,h⟩:=List.mem_flatMap.mp h
 rcases List.mem_append.mp h with q | q
 ·obtain⟨z,hz,hc⟩:=Ul r.length (Nat.le_refl _) q
  exact Af (List.mem_map.mpr ⟨r,hr,rfl⟩) (Af hz hc)
 ·exfalso
  have e:=congrArg (fun x:Str×Str=>x.1) (List.mem_singleton.mp q)
  exact absurd (show Str.ofString "put" = Str.ofString "end" from e) (by decide +kernel)
theorem Qn {x:bI}{cs:List bI}{t:List (List Str)}{m m':d9}{c:Nat} (hq:pU x.2.1 m.1.1 m.1.2) (hx:x∈cs) (e:tH x (aB t) m c=some m'):c∈(fZ cs t).cps.toList:=by
 rw[LH]
 by_cases h1:c=10
 ·exact .inr (.inl h1)
 by_cases h2:c=32
 ·exact .inr (.inr (.inl h2))
 by_cases h3:c∈(Uj x).cps.toList
 ·exact .inl (Af (List.mem_map.mpr ⟨x,hx,rfl⟩) h3)
 have off:Off x.1 x.2.1 x.2.2.1 c:=VJ h1 h2 ((mw _ _).mpr h3)
 obtain⟨k,hs,hl,hc⟩:=EA (show nZ x.1 x.2.1 x.2.2.1 x.2.2.2.a x.2.2.2.b x.2.2.2.c x.2.2.2.d (aB t) m c=some m' from e)
 rw[Qm off hq] at hs
 rcases MB m.1.1 m.1.2 with ⟨w',u',q⟩ | ⟨w',q⟩
 ·rw[q] at hs
  injection hs with e1 e2 e3
  subst e1
  unfold uL at hc
  rw[if_neg (by decide +kernel),if_pos (bh _)] at hc
  by_cases ht:(aB t)[m.2]? = some (Str.ofString "put",sg c)
  ·exact .inr (.inr (.inr (SJ (List.mem_of_getElem? ht))))
  ·rw[if_neg ht] at hc;cases hc
 ·rw[q] at hs;cases hs
theorem SK {x:bI}{ts:List (Str×Str)}{xs:List Nat}{m:d9} (h:rH x ts xs=some m):pU x.2.1 m.1.1 m.1.2:=by
 obtain⟨_,_,hpr⟩:=EB (Nat.zero_le _) h
 have:=VA (p:=x.1) (q:=x.2.1) (f:=x.2.2.1) (b1:=x.2.2.2.a) (b2:=x.2.2.2.b) (b3:=x.2.2.2.c) (b4:=x.2.2.2.d) (cs:=xs) (show pU x.2.1 ("row":Str) ("":Str) from .inl ⟨rfl,.inl rfl⟩)
 rw[show(runM x.1 x.2.1 x.2.2.1 x.2.2.2.a x.2.2.2.b x.2.2.2.c x.2.2.2.d ("row":Str) ("":Str) xs).2=(m.1.1,m.1.2,none) from hpr.1] at this
 exact this
theorem g8 {x:bI}{cs:List bI}{t:List (List Str)}{xs:List Nat}{m:cP}:WalkG (cH x cs (aB t) (fZ (x :: cs) t)) (bV cs.length) xs m↔rH x (aB t) xs=some m.1∧m.2=cs.map fun y=>rH y (aB t) xs:=by
 refine⟨Uk,?_⟩
 suffices H:∀(r:List Nat) (m:cP),rH x (aB t) r.reverse=some m.1∧(m.2=cs.map fun y=>rH y (aB t) r.reverse)→WalkG (cH x cs (aB t) (fZ (x :: cs) t)) (bV cs.length) r.reverse m by
  intro h
  have:=H xs.reverse m
  rw[List.reverse_reverse] at this
  exact this h
 intro r
 induction r with
 | nil =>
  rintro⟨m1,m2⟩ ⟨h1,h2⟩
  have e1:stM=m1:=Option.some.inj h1
  have e2:m2=List.replicate cs.length (some stM):=by
   have h2:m2=cs.map fun _=>some stM:=h2
   rw[h2,List.map_const']
  rw[←e1,e2]
  exact .nil
 | cons c r ih =>
  rintro⟨m1,m2⟩ ⟨h1,h2⟩
  rw[List.reverse_cons] at h1 h2 ⊢
  rw[sP] at h1
  cases hM:rH x (aB t) r.reverse with
  | none=>rw[hM] at h1;cases h1
  | some p1 =>
   rw[hM] at h1
   have h1:tH x (aB t) p1 c=some m1:=h1
   refine .snoc (p:=(p1,cs.map fun y=>rH y (aB t) r.reverse)) (ih _ ⟨hM,rfl⟩) ?_
   refine List.mem_filterMap.mpr ⟨c,Qn (SK hM) (List.mem_cons_self ..) h1,?_⟩
   show(tH x (aB t) p1 c).map _=_
   rw[h1]
   show some (c,(m1,iC cs (aB t) _ c))=_
   rw[xS]
   have h2:m2=cs.map fun y=>GS y (aB t) (rH y (aB t) r.reverse) c:=by
    rw[show m2=_ from h2]
    exact List.map_congr_left fun y _=>sP
   rw[h2]
theorem AZ {α:Type} [DecidableEq α]:∀{l l':List α},l.Nodup→(∀ x∈l,x∈l')→l.length≤l'.length
 | [],_,_,_=>Nat.zero_le _
 | x :: l,l',h,hs=>by
  obtain⟨h1,h2⟩:=List.nodup_cons.mp h
  have hx:=hs x (List.mem_cons_self ..)
  have:=AZ (l':=l'.erase x) h2 fun y hy=>(List.mem_erase_of_ne (fun e=>h1 (by rw[←e];exact hy))).mpr (hs y (List.mem_cons_of_mem _ hy))
  rw[List.length_erase_of_mem hx] at this
  have:=List.length_pos_of_mem hx
  rw[List.length_cons];omega
section
variable {M N:Type} [DecidableEq M] [DecidableEq N] {gA:M→Bool}{lA:M→List (Nat×M)}{a:M}{gB:N→Bool}{lB:N→List (Nat×N)}{b:N}{f:M→N}{most:Option Nat}
structure Um (gA:M→Bool) (lA:M→List (Nat×M)) (a:M) (gB:N→Bool) (lB:N→List (Nat×N)) (b:N) (f:M→N):Prop where
 to:∀ xs m,WalkG lA a xs m→WalkG lB b xs (f m)
 back:∀ xs n,WalkG lB b xs n→∃ m,f m=n∧WalkG lA a xs m
 inj:∀ xs ys m m',WalkG lA a xs m→WalkG lA a ys m'→f m=f m'→m=m'
 good:∀ xs m,WalkG lA a xs m→gB (f m)=gA m
theorem o7 {cm:fK M}{aW:List M}{k:Nat} (h:n6 gA lA a cm aW k) {m:M} (hm:cX cm m=true):∃ xs,WalkG lA a xs m∧xs.length≤k:=by
 obtain⟨n,hn,_,xs,_,_,hw,hl⟩:=h.told m hm
 exact⟨_,hw,by rw[List.length_reverse];omega⟩
theorem vW (I:Um gA lA a gB lB b f) {Ip:fK M}{Fw:fK N}{eA:List M}{eB:List N}{k:Nat} (hA:n6 gA lA a Ip eA k) (hB:n6 gB lB b Fw eB k) (nA:(Ip.map (·.1)).Nodup) (nB:(Fw.map (·.1)).Nodup):Ip.length=Fw.length:=by
 have key:((Ip.map (·.1)).map f).Nodup:=by
  rw[List.Nodup,List.pairwise_map]
  refine List.Pairwise.imp_of_mem (fun {m m'} hm hm' hne=>?_) nA
  intro e
  obtain⟨xs,hw,_⟩:=o7 hA (eX.mpr hm)
  obtain⟨ys,Z6,_⟩:=o7 hA (eX.mpr hm')
  exact hne (I.inj xs ys m m' hw Z6 e)
 have l1:=AZ key (l':=Fw.map (·.1)) fun n hn=>by
  obtain⟨m,hm,rfl⟩:=List.mem_map.mp hn
  obtain⟨xs,hw,hl⟩:=o7 hA (eX.mpr hm)
  exact eX.mp (hB.all xs _ (I.to xs m hw) hl)
 have l2:=AZ nB (l':=(Ip.map (·.1)).map f) fun n hn=>by
  obtain⟨xs,hw,hl⟩:=o7 hB (eX.mpr hn)
  obtain⟨m,e,Z6⟩:=I.back xs n hw
  exact List.mem_map.mpr ⟨m,eX.mp (hA.all xs m Z6 hl),e⟩
 simp only[List.length_map] at l1 l2
 omega
theorem MC (I:Um gA lA a gB lB b f) {Ip:fK M}{Fw:fK N}{eA:List M}{eB:List N}{k:Nat} (hA:n6 gA lA a Ip eA k) (hB:n6 gB lB b Fw eB k) {m:M} (h:eA.find? gA=some m):eB.find? gB≠none:=by
 have hm:=List.mem_of_find?_eq_some h
 have hg:=List.find?_some h
 obtain⟨⟨_,xs,_,_,hw,hl⟩,_⟩:=hA.edg m hm
 have hwB:=I.to _ _ hw
 have hgB:=I.good _ _ hw
 have hin:=hB.all _ _ hwB (by rw[List.length_reverse];omega)
 intro hn
 by_cases q:f m∈eB
 ·have:=List.find?_eq_none.mp hn _ q
  rw[hgB,hg] at this;exact this rfl
 ·have:=hB.bad _ hin q
  rw[hgB,hg] at this;cases this
theorem A0 (I:Um gA lA a gB lB b f) {Ip:fK M}{Fw:fK N}{eA:List M}{eB:List N}{k:Nat} (hA:n6 gA lA a Ip eA k) (hB:n6 gB lB b Fw eB k) {n:N} (h:eB.find? gB=some n):eA.find? gA≠none:=by
 have hm:=List.mem_of_find?_eq_some h
 have hg:=List.find?_some h
 obtain⟨⟨_,xs,_,_,hw,hl⟩,_⟩:=hB.edg n hm
 obtain⟨m,e,hwA⟩:=I.back _ _ hw
 have hgA:=I.good _ _ hwA
 rw[e] at hgA
 have hin:=hA.all _ _ hwA (by rw[List.length_reverse];omega)
 intro hn
 by_cases q:m∈eA
 ·have:=List.find?_eq_none.mp hn _ q
  rw[←hgA,hg] at this;exact this rfl
 ·have:=hA.bad _ hin q
  rw[←hgA,hg] at this;cases this
theorem SM (I:Um gA lA a gB lB b f) {Ip VM:fK M}{eA:List M}{rA:Option M} (hR:vS gA lA most Ip eA rA VM):∀{k:Nat}{Fw MD:fK N}{eB:List N}{rB:Option N},n6 gA lA a Ip eA k→n6 gB lB b Fw eB k→(Ip.map (·.1)).Nodup→(Fw.map (·.1)).Nodup→eA.length=eB.length→vS gB lB most Fw eB rB MD→rA.isSome=rB.isSome∧VM.length=MD.length:=by
 induction hR with
 | stop =>
  intro k Fw MD eB rB hA hB nA nB hl VN
  have e0:eB=[]:=List.length_eq_zero_iff.mp hl.symm
  subst e0
  cases VN with
  | stop=>exact⟨rfl,vW I hA hB nA nB⟩
  | found h=>cases h
  | over _ h _ _=>exact absurd rfl h
  | go h _ _ _=>exact absurd rfl h
 | found hF =>
  intro k Fw MD eB rB hA hB nA nB hl VN
  have hn:=MC I hA hB hF
  cases VN with
  | stop=>exact absurd rfl hn
  | found h=>exact⟨rfl,vW I hA hB nA nB⟩
  | over _ _ h _=>exact absurd h hn
  | go _ h _ _=>exact absurd h hn
 | over hmo hne hF hlt =>
  intro k Fw MD eB rB hA hB nA nB hl VN
  have hle:=vW I hA hB nA nB
  cases VN with
  | stop=>exact absurd (List.length_eq_zero_iff.mp hl) hne
  | found h=>exact absurd hF (A0 I hA hB h)
  | over _ _ _ _=>exact⟨rfl,hle⟩
  | go _ _ h _=>have:=h _ hmo;omega
 | @go Ip VM eA rA hne hF hmo _ ih =>
  intro k Fw MD eB rB hA hB nA nB hl VN
  have hle:=vW I hA hB nA nB
  cases VN with
  | stop=>exact absurd (List.length_eq_zero_iff.mp hl) hne
  | found h=>exact absurd hF (A0 I hA hB h)
  | over h _ _ h2=>have:=hmo _ h;omega
  | go _ hF2 _ hR3 =>
   have hA':=hA.go hF
   have hB':=hB.go hF2
   have nA':(((dM lA Ip eA).1).map (·.1)).Nodup:=vR nA
   have nB':(((dM lB Fw eB).1).map (·.1)).Nodup:=vR nB
   have hle':=vW I hA' hB' nA' nB'
   have q1:=jG (led:=lA) eA (Ip,[])
   have q2:=jG (led:=lB) eB (Fw,[])
   simp only[List.length_nil,Nat.add_zero] at q1 q2
   refine ih hA' hB' nA' nB' ?_ hR3
   unfold dM at *
   omega
end
theorem VO {cs:List bI}{t:List (List Str)} (gs:∀ c∈cs,nk c) (tok:TabOk t):bU (fZ cs t):=by
 intro c hc
 rcases LH.mp hc with h | h | h | h
 ·obtain⟨z,hz,hc⟩:=Ag h
  obtain⟨x,hx,rfl⟩:=List.mem_map.mp hz
  have g:=gs x hx
  unfold Uj at hc
  rw[app_list,app_list,List.mem_append,List.mem_append] at hc
  rcases hc with (q | q) | q
  ·exact .inr (g.gp.pr c q)
  ·exact .inr (g.gq.pr c q)
  ·exact .inr (g.gf.pr c q)
 ·exact .inl h
 ·rw[h];exact .inr (by decide)
 ·obtain⟨z,hz,hc⟩:=Ag h
  obtain⟨r,hr,rfl⟩:=List.mem_map.mp hz
  obtain⟨y,hy,hc⟩:=Ag hc
  exact(tok.rows r hr).ok y hy c hc
theorem Jw {x:bI}{cs:List bI}{ts:List (Str×Str)}{z:Str}{a m:cP}{xs:List Nat} (h:WalkG (cH x cs ts z) a xs m):∀ c∈xs,c∈z.cps.toList:=by
 induction h with
 | nil=>intro c hc;cases hc
 | @snoc xs p q c _ he ih =>
  intro d hd
  rcases List.mem_append.mp hd with z1 | z1
  ·exact ih d z1
  ·rw[List.mem_singleton.mp z1]
   obtain⟨c',hc',e⟩:=List.mem_filterMap.mp he
   cases hM:tH x ts p.1 c' with
   | none=>rw[hM] at e;cases e
   | some m' =>
    rw[hM] at e
    have e:some (c',(m',iC cs ts p.2 c'))=some (c,q):=e
    injection e with e
    injection e with e1 e2
    rw[←e1];exact hc'
theorem Qo {x:bI}{cs:List bI}{t:List (List Str)}{a m:cP}{xs:List Nat} (gs:∀ c∈x :: cs,nk c) (tok:TabOk t) (h:WalkG (cH x cs (aB t) (fZ (x :: cs) t)) a xs m) (hl:xs.length≤2000):Mr (.str (Txt.join ("":Str) (xs.map sg)))=true:=by
 have ez:(Txt.join ("":Str) (xs.map sg)).length=xs.length:=by
  have:=congrArg List.length (mF xs)
  rw[Array.length_toList] at this
  exact this
 refine LB (fun c hc=>?_) (by omega)
 rw[mF] at hc
 exact VO gs tok c (Jw h c hc)
theorem Qp {x:bI}{cs ds:List bI}{t:List (List Str)} (F:List (Option d9)→List (Option d9)) (hF:∀ g:bI→Option d9,F (cs.map g)=ds.map g) (hi:∀ g g':bI→Option d9,F (cs.map g)=F (cs.map g')→cs.map g=cs.map g') (ha:∀(g:bI→Option d9) (p:Option d9→Bool),(ds.map g).any p=(cs.map g).any p) :
  Um (cA (aB t)) (cH x cs (aB t) (fZ (x :: cs) t)) (bV cs.length) (cA (aB t)) (cH x ds (aB t) (fZ (x :: ds) t)) (bV ds.length) (fun m=>(m.1,F m.2)):=by
 refine⟨fun xs m h=>?_,fun xs n h=>?_,fun xs ys m m' h h' e=>?_,fun xs m h=>?_⟩
 ·obtain⟨h1,h2⟩:=g8.mp h
  exact g8.mpr ⟨h1,by show F m.2=_;rw[h2,hF]⟩
 ·obtain⟨h1,h2⟩:=g8.mp h
  exact⟨(n.1,cs.map fun y=>rH y (aB t) xs),by show(n.1,F _)=n;rw[hF,←h2],g8.mpr ⟨h1,rfl⟩⟩
 ·obtain⟨h1,h2⟩:=g8.mp h
  obtain⟨OW,h2'⟩:=g8.mp h'
  have e:(m.1,F m.2)=(m'.1,F m'.2):=e
  injection e with e1 e2
  rw[h2,h2'] at e2
  have e3:=hi _ _ e2
  rw[←h2,←h2'] at e3
  exact Prod.ext e1 e3
 ·obtain⟨h1,h2⟩:=g8.mp h
  unfold cA
  show(decide (m.1=_) && !((F m.2).any _))=_
  rw[h2,hF,ha]
theorem Qq {x y z:bI}{t:List (List Str)}:Um (cA (aB t)) (cH x [y,z] (aB t) (fZ (x :: [y,z]) t)) (bV 2) (cA (aB t)) (cH x [z,y] (aB t) (fZ (x :: [z,y]) t)) (bV 2) (fun m=>(m.1,m.2.reverse)) :=
 Qp (cs:=[y,z]) (ds:=[z,y]) List.reverse (fun g=>rfl) (fun g g' e=>by have:=congrArg List.reverse e;rwa [List.reverse_reverse,List.reverse_reverse] at this) (fun g p=>by simp only[List.map_cons,List.map_nil,List.any_cons,List.any_nil,Bool.or_false];rw[Bool.or_comm])
theorem ME {x y:bI}{t:List (List Str)}:Um (cA (aB t)) (cH x [y] (aB t) (fZ (x :: [y]) t)) (bV 1) (cA (aB t)) (cH x [y,y] (aB t) (fZ (x :: [y,y]) t)) (bV 2) (fun m=>(m.1,m.2++m.2)) :=
 Qp (cs:=[y]) (ds:=[y,y]) (fun l=>l++l) (fun g=>rfl) (fun g g' e=>by have e1:g y=g' y:=(List.cons.inj e).1;show [g y]=[g' y];rw[e1]) (fun g p=>by simp only[List.map_cons,List.map_nil,List.any_cons,List.any_nil,Bool.or_false,Bool.or_self])
def Z7 (H:Hp) (t1 t2:Addr):Prop :=
 (H t1=some (.tup [.str ("open":Str)])∧H t2=some (.tup [.str ("open":Str)])) ∨
 (∃ z1 z2,H t1=some (.tup [.str ("text":Str),.str z1])∧H t2=some (.tup [.str ("text":Str),.str z2])∧z1.length=z2.length∧z1.length≤10000) ∨
 (∃ l1 l2 v1 v2,H t1=some (.tup [.str ("none":Str),.ref l1])∧H t2=some (.tup [.str ("none":Str),.ref l2])∧H l1=some (.lst v1)∧H l2=some (.lst v2)∧v1.length=v2.length)
structure Jx (K:W.Frag) (x:bI) (cs:List bI) (t:List (List Str)) (n:Nat) (H:Hp) (tt:Addr) (r:Option cP) (cm:fK cP) (aW:List cP) (k:Nat):Prop where
 run:vS (cA (aB t)) (cH x cs (aB t) (fZ (x :: cs) t)) (some n) [(bV cs.length,none)] [bV cs.length] r cm
 en:SG (cA (aB t)) (cH x cs (aB t) (fZ (x :: cs) t)) (some n) (bV cs.length) r cm aW k
 sv:∃ H0,Z3 K (cH x cs (aB t) (fZ (x :: cs) t)) (bV cs.length) n r cm k H0 H tt
theorem Jx.mono {K:W.Frag}{x:bI}{cs:List bI}{t:List (List Str)}{n:Nat}{H H':Hp}{tt:Addr}{r:Option cP}{cm:fK cP}{aW:List cP}{k:Nat} (s:aE H H') (h:Jx K x cs t n H tt r cm aW k):Jx K x cs t n H' tt r cm aW k:=by
 obtain⟨H0,sv⟩:=h.sv
 refine⟨h.run,h.en,H0,?_⟩
 cases r with
 | some m=>obtain⟨xs,h1,h2⟩:=sv;exact⟨xs,s _ _ h1,h2⟩
 | none =>
  rcases sv with ⟨h1,h2⟩ | ⟨h1,l,vs,h2,h3,h4,h5⟩
  ·exact .inl ⟨h1,s _ _ h2⟩
  ·exact .inr ⟨h1,l,vs,s _ _ h2,h3,s _ _ h4,h5.keep fun b xs q=>aF s q⟩
theorem Qs {K:W.Frag}{x:bI}{cs ds:List bI}{t:List (List Str)}{n:Nat}{H:Hp}{t1 t2:Addr}{r r':Option cP}{cm LD:fK cP}{aW LF:List cP}{k k':Nat}{f:cP→cP} (hn:n≤4000) (I:Um (cA (aB t)) (cH x cs (aB t) (fZ (x :: cs) t)) (bV cs.length) (cA (aB t)) (cH x ds (aB t) (fZ (x :: ds) t)) (bV ds.length) f)
  (h1:Jx K x cs t n H t1 r cm aW k) (h2:Jx K x ds t n H t2 r' LD LF k'):Z7 H t1 t2:=by
 obtain⟨e1,e2⟩:=SM I h1.run (k:=0) n6.zero n6.zero (by simp) (by simp) rfl h2.run
 obtain⟨H1,s1⟩:=h1.sv
 obtain⟨H2,s2⟩:=h2.sv
 have ez:∀ xs:List Nat,(Txt.join ("":Str) (xs.map sg)).length=xs.length:=fun xs=>by
  have:=congrArg List.length (mF xs)
  rw[Array.length_toList] at this
  exact this
 cases r with
 | some m =>
  cases r' with
  | none=>cases e1
  | some m' =>
   obtain⟨xs,a1,a2,a3,a4⟩:=s1
   obtain⟨ys,b1,b2,b3,b4⟩:=s2
   have gm:cA (aB t) m=true:=List.find?_some h1.en.res.symm
   have gm':cA (aB t) m'=true:=List.find?_some h2.en.res.symm
   have ek:k=k':=by
    rcases Nat.lt_trichotomy k k' with q | q | q
    ·have w:=I.to _ _ a2
     have:=h2.en.dG.less _ _ w (by omega)
     rw[I.good _ _ a2,gm] at this;cases this
    ·exact q
    ·obtain⟨m0',e,w⟩:=I.back _ _ b2
     have:=h1.en.dG.less _ _ w (by omega)
     rw[←I.good _ _ w,e,gm'] at this;cases this
   exact .inr (.inl ⟨_,_,a1,b1,by rw[ez,ez];omega,by rw[ez];omega⟩)
 | none =>
  cases r' with
  | some m'=>cases e1
  | none =>
   rcases s1 with ⟨a1,a2⟩ | ⟨a1,l,vs,a2,a3,a4,a5⟩
   ·rcases s2 with ⟨b1,b2⟩ | ⟨b1,l',vs',b2,b3,b4,b5⟩
    ·exact .inl ⟨a2,b2⟩
    ·omega
   ·rcases s2 with ⟨b1,b2⟩ | ⟨b1,l',vs',b2,b3,b4,b5⟩
    ·omega
    ·have q1:=a5.length
     have q2:=b5.length
     rw[List.length_map] at q1 q2
     exact .inr (.inr ⟨l,l',vs,vs',a2,b2,a4,b4,by omega⟩)
theorem yM {x y z:bI}{t:List (List Str)}{xs:List Nat}{m:cP} (h:WalkG (cH x [y,z] (aB t) (fZ (x :: [y,z]) t)) (bV 2) xs m) (hg:cA (aB t) m=true):∃ m',WalkG (cH x [y] (aB t) (fZ (x :: [y]) t)) (bV 1) xs m'∧cA (aB t) m'=true:=by
 obtain⟨h1,h2⟩:=g8 (cs:=[y,z]).mp h
 refine⟨(m.1,[rH y (aB t) xs]),g8 (cs:=[y]).mpr ⟨h1,rfl⟩,?_⟩
 unfold cA at hg ⊢
 rw[h2] at hg
 simp only[List.map_cons,List.map_nil,List.any_cons,List.any_nil,Bool.or_false,Bool.and_eq_true,Bool.not_eq_true',Bool.or_eq_false_iff] at hg ⊢
 exact⟨hg.1,hg.2.1⟩
theorem G9 {x:bI}{t:List (List Str)}{xs:List Nat}{m:cP} (h:WalkG (cH x [x] (aB t) (fZ (x :: [x]) t)) (bV 1) xs m):cA (aB t) m=false:=by
 obtain⟨h1,h2⟩:=g8 (cs:=[x]).mp h
 unfold cA
 rw[h2]
 simp only[List.map_cons,List.map_nil,List.any_cons,List.any_nil,Bool.or_false]
 rw[h1]
 by_cases e:m.1=AU (aB t)
 ·rw[e,decide_eq_true rfl,decide_eq_true rfl];rfl
 ·rw[decide_eq_false e];rfl
theorem MF {M:Type} [DecidableEq M] {good:M→Bool}{led:M→List (Nat×M)}{a:M}{cm:fK M}{k:Nat} (h:n6 good led a cm [] k) {ys:List Nat}{m:M} (hw:WalkG led a ys m):cX cm m=true:=by
 induction hw with
 | nil=>exact h.all [] a .nil (Nat.zero_le _)
 | snoc _ he ih=>exact h.shut _ ih (fun z=>nomatch z) _ he
theorem Qt {M:Type} [DecidableEq M] {good:M→Bool}{led:M→List (Nat×M)}{a:M}{cm:fK M}{k:Nat} (h:n6 good led a cm [] k) {ys:List Nat}{m:M} (hw:WalkG led a ys m):good m=false:=h.bad m (MF h hw) (fun z=>nomatch z)
theorem Jx.shut {K:W.Frag}{x:bI}{cs:List bI}{t:List (List Str)}{n:Nat}{H:Hp}{tt:Addr}{cm:fK cP}{aW:List cP}{k:Nat} (h:Jx K x cs t n H tt none cm aW k) (hl:cm.length≤n) {ys:List Nat}{m:cP} (hw:WalkG (cH x cs (aB t) (fZ (x :: cs) t)) (bV cs.length) ys m):cA (aB t) m=false:=by
 have he:aW=[]:=by
  rcases h.en.why rfl with q | ⟨n',e,q⟩
  ·exact q
  ·cases e;omega
 subst he
 exact Qt h.en.dG hw
theorem Jx.good {K:W.Frag}{x:bI}{cs:List bI}{t:List (List Str)}{n:Nat}{H:Hp}{tt:Addr}{m:cP}{cm:fK cP}{aW:List cP}{k:Nat} (h:Jx K x cs t n H tt (some m) cm aW k):cA (aB t) m=true:=List.find?_some h.en.res.symm
theorem qw:aD ["sign", "number"] ["sign"] (au eG):=⟨rfl,rfl,rfl,by decide +kernel,rfl,by decide +kernel,by decide +kernel⟩
theorem tK:aD ["thing", "least", "most"] ["thing", "least", "most"] (au cD):=⟨rfl,rfl,rfl,by decide +kernel,rfl,by decide +kernel,by decide +kernel⟩
theorem kQ:aD ["self", "parts", "quotes", "frees", "twin", "wide", "thin", "stray", "truth"] ["self", "parts", "quotes", "frees", "twin", "wide", "thin", "stray"] (au bC):=⟨rfl,rfl,rfl,by decide +kernel,rfl,by decide +kernel,by decide +kernel⟩
theorem zl:aD ["self"] ["self"] (au gj):=⟨rfl,rfl,rfl,by decide +kernel,rfl,by decide +kernel,by decide +kernel⟩
theorem Cf:aD ["told"] ["told"] (au iT):=⟨rfl,rfl,rfl,by decide +kernel,rfl,by decide +kernel,by decide +kernel⟩
theorem xT:aD ["self", "dialect"] ["self", "dialect"] (au fL):=⟨rfl,rfl,rfl,by decide +kernel,rfl,by decide +kernel,by decide +kernel⟩
theorem uM:aD ["self", "dialect", "tokens"] ["self", "dialect", "tokens"] (au dI):=⟨rfl,rfl,rfl,by decide +kernel,rfl,by decide +kernel,by decide +kernel⟩
theorem gF:aD ["row", "tokens", "place", "cell"] ["row"] (au dB):=⟨rfl,rfl,rfl,by decide +kernel,rfl,by decide +kernel,by decide +kernel⟩
theorem uN:aD ["text"] ["text"] (au cM):=⟨rfl,rfl,rfl,by decide +kernel,rfl,by decide +kernel,by decide +kernel⟩
theorem Jy:aD ["thing"] ["thing"] (au oK):=⟨rfl,rfl,rfl,by decide +kernel,rfl,by decide +kernel,by decide +kernel⟩
theorem MG:aD ["thing"] ["thing"] (au oM):=⟨rfl,rfl,rfl,by decide +kernel,rfl,by decide +kernel,by decide +kernel⟩
theorem zm:aD ["row"] ["row"] (au eH):=⟨rfl,rfl,rfl,by decide +kernel,rfl,by decide +kernel,by decide +kernel⟩
theorem Hf:aD ["thing"] ["thing"] (au iB):=⟨rfl,rfl,rfl,by decide +kernel,rfl,by decide +kernel,by decide +kernel⟩
theorem A6:aD ["thing"] ["thing"] (au gS):=⟨rfl,rfl,rfl,by decide +kernel,rfl,by decide +kernel,by decide +kernel⟩
theorem pY:aD ["table", "tokens", "row"] ["table"] (au jZ):=⟨rfl,rfl,rfl,by decide +kernel,rfl,by decide +kernel,by decide +kernel⟩
theorem Ah:aD ["text", "found", "sign"] ["text"] (au AB):=⟨rfl,rfl,rfl,by decide +kernel,rfl,by decide +kernel,by decide +kernel⟩
theorem uO:aD ["self"] ["self"] (au dJ):=⟨rfl,rfl,rfl,by decide +kernel,rfl,by decide +kernel,by decide +kernel⟩
theorem gM:aD ["dialect", "table", "others", "special", "cells"] ["dialect", "table", "others"] (au bO):=⟨rfl,rfl,rfl,by decide +kernel,rfl,by decide +kernel,by decide +kernel⟩
theorem mH:aD ["self", "dialect", "table", "others", "tokens"] ["self", "dialect", "table", "others"] (au cN):=⟨rfl,rfl,rfl,by decide +kernel,rfl,by decide +kernel,by decide +kernel⟩
theorem Hg:aD ["thing", "least", "most"] ["thing", "least", "most"] (au mh):=⟨rfl,rfl,rfl,by decide +kernel,rfl,by decide +kernel,by decide +kernel⟩
theorem Jz:aD ["thing"] ["thing"] (au oN):=⟨rfl,rfl,rfl,by decide +kernel,rfl,by decide +kernel,by decide +kernel⟩
theorem pZ:aD ["dialect", "states", "quote"] ["dialect"] (au j0):=⟨rfl,rfl,rfl,by decide +kernel,rfl,by decide +kernel,by decide +kernel⟩
theorem JA:aD ["dialect", "state"] ["dialect", "state"] (au oO):=⟨rfl,rfl,rfl,by decide +kernel,rfl,by decide +kernel,by decide +kernel⟩
theorem xU:aD ["dialect", "thing"] ["dialect", "thing"] (au fM):=⟨rfl,rfl,rfl,by decide +kernel,rfl,by decide +kernel,by decide +kernel⟩
theorem qx:aD ["tokens", "count", "kind", "sign", "token"] ["tokens", "count", "kind", "sign"] (au gk):=⟨rfl,rfl,rfl,by decide +kernel,rfl,by decide +kernel,by decide +kernel⟩
theorem rJ:aD ["dialect", "state", "sign"] ["dialect", "state", "sign"] (au cQ):=⟨rfl,rfl,rfl,by decide +kernel,rfl,by decide +kernel,by decide +kernel⟩
theorem xV:aD ["dialect", "sign"] ["dialect", "sign"] (au fN):=⟨rfl,rfl,rfl,by decide +kernel,rfl,by decide +kernel,by decide +kernel⟩
theorem A9:aD ["dialect", "quote", "sign"] ["dialect", "quote", "sign"] (au gT):=⟨rfl,rfl,rfl,by decide +kernel,rfl,by decide +kernel,by decide +kernel⟩
theorem Ba:aD ["dialect", "sign"] ["dialect", "sign"] (au gU):=⟨rfl,rfl,rfl,by decide +kernel,rfl,by decide +kernel,by decide +kernel⟩
theorem xW:aD ["dialect", "quote", "sign"] ["dialect", "quote", "sign"] (au fO):=⟨rfl,rfl,rfl,by decide +kernel,rfl,by decide +kernel,by decide +kernel⟩
theorem Cg:aD ["dialect", "quote", "sign"] ["dialect", "quote", "sign"] (au iU):=⟨rfl,rfl,rfl,by decide +kernel,rfl,by decide +kernel,by decide +kernel⟩
theorem p8:aD ["self", "state", "sign", "word", "quote"] ["self", "state", "sign"] (au j7):=⟨rfl,rfl,rfl,by decide +kernel,rfl,by decide +kernel,by decide +kernel⟩
theorem nq:aD ["self", "state", "sign", "step"] ["self", "state", "sign"] (au eN):=⟨rfl,rfl,rfl,by decide +kernel,rfl,by decide +kernel,by decide +kernel⟩
theorem cB:aD ["self", "mark", "sign", "step", "count"] ["self", "mark", "sign"] (au cF):=⟨rfl,rfl,rfl,by decide +kernel,rfl,by decide +kernel,by decide +kernel⟩
theorem p9:aD ["self", "mark"] ["self", "mark"] (au cz):=⟨rfl,rfl,rfl,by decide +kernel,rfl,by decide +kernel,by decide +kernel⟩
theorem Bb:aD ["others"] ["others"] (au fX):=⟨rfl,rfl,rfl,by decide +kernel,rfl,by decide +kernel,by decide +kernel⟩
theorem fR:aD ["self", "place", "found", "sign", "mark", "marks"] ["self", "place"] (au eO):=⟨rfl,rfl,rfl,by decide +kernel,rfl,by decide +kernel,by decide +kernel⟩
theorem vX:aD ["self", "place"] ["self", "place"] (au cW):=⟨rfl,rfl,rfl,by decide +kernel,rfl,by decide +kernel,by decide +kernel⟩
theorem iM:aD ["first", "searched", "most", "came", "edge", "place", "farther", "lead"] ["first", "searched", "most"] (au j8):=⟨rfl,rfl,rfl,by decide +kernel,rfl,by decide +kernel,by decide +kernel⟩
theorem qb:aD ["came", "place", "signs", "link"] ["came", "place"] (au oQ):=⟨rfl,rfl,rfl,by decide +kernel,rfl,by decide +kernel,by decide +kernel⟩
theorem Bc:aD ["table", "others", "most"] ["table", "others", "most"] (au gW):=⟨rfl,rfl,rfl,by decide +kernel,rfl,by decide +kernel,by decide +kernel⟩
theorem EF:aD ["dialect", "table", "others", "most", "found", "came"] ["dialect", "table", "others", "most"] (au AD):=⟨rfl,rfl,rfl,by decide +kernel,rfl,by decide +kernel,by decide +kernel⟩
theorem Ci:aD ["thing"] ["thing"] (au iV):=⟨rfl,rfl,rfl,by decide +kernel,rfl,by decide +kernel,by decide +kernel⟩
theorem qc:aD ["dialect", "text", "turn", "kinds", "state", "sign", "step"] ["dialect", "text"] (au AE):=⟨rfl,rfl,rfl,by decide +kernel,rfl,by decide +kernel,by decide +kernel⟩
theorem xX:aD ["walked", "kinds", "word"] ["walked"] (au qY):=⟨rfl,rfl,rfl,by decide +kernel,rfl,by decide +kernel,by decide +kernel⟩
theorem cV:aD ["text", "kinds", "table", "row", "cell", "sign", "kind"] ["text", "kinds"] (au mj):=⟨rfl,rfl,rfl,by decide +kernel,rfl,by decide +kernel,by decide +kernel⟩
theorem tY:aD ["dialect", "text", "walked"] ["dialect", "text"] (au iW):=⟨rfl,rfl,rfl,by decide +kernel,rfl,by decide +kernel,by decide +kernel⟩
theorem JB:aD ["dialect", "most", "thing"] ["dialect", "most", "thing"] (au oR):=⟨rfl,rfl,rfl,by decide +kernel,rfl,by decide +kernel,by decide +kernel⟩
theorem EG:aD ["others", "most", "thing"] ["others", "most", "thing"] (au iL):=⟨rfl,rfl,rfl,by decide +kernel,rfl,by decide +kernel,by decide +kernel⟩
theorem Hh:aD ["dialect", "others", "most", "thing"] ["dialect", "others", "most", "thing"] (au mq):=⟨rfl,rfl,rfl,by decide +kernel,rfl,by decide +kernel,by decide +kernel⟩
theorem jH:aD ["dialect", "table", "others", "places", "most", "known", "place", "searched"] ["dialect", "table", "others", "places"] (au jC):=⟨rfl,rfl,rfl,by decide +kernel,rfl,by decide +kernel,by decide +kernel⟩
theorem JC:aD ["dialect", "table", "others", "text"] ["dialect", "table", "others", "text"] (au lO):=⟨rfl,rfl,rfl,by decide +kernel,rfl,by decide +kernel,by decide +kernel⟩
theorem zo:aD ["_law_script", "_law_k"] ["_law_script", "_law_k"] (au gn):=⟨rfl,rfl,rfl,by decide +kernel,rfl,by decide +kernel,by decide +kernel⟩
theorem n8:aD ["_law_number_here", "_law_salt", "_law_one", "_law_two"] ["_law_number_here", "_law_salt"] (au iX):=⟨rfl,rfl,rfl,by decide +kernel,rfl,by decide +kernel,by decide +kernel⟩
theorem mJ:aD ["_law_cell", "_law_salt", "_law_number_here", "_law_high"] ["_law_cell", "_law_salt"] (au gX):=⟨rfl,rfl,rfl,by decide +kernel,rfl,by decide +kernel,by decide +kernel⟩
theorem gG:aD ["_law_number_here", "_law_many", "_law_menu", "_law_found", "_law_k", "_law_sign"] ["_law_number_here", "_law_many", "_law_menu"] (au j9):=⟨rfl,rfl,rfl,by decide +kernel,rfl,by decide +kernel,by decide +kernel⟩
theorem tZ:aD ["_law_way", "_law_every"] ["_law_way"] (au iY):=⟨rfl,rfl,rfl,by decide +kernel,rfl,by decide +kernel,by decide +kernel⟩
theorem bM:aD ["_law_cell", "_law_number_here", "_law_flags", "_law_sizes", "_law_menus_here", "_law_parts", "_law_quotes", "_law_frees", "_law_truths"] ["_law_cell"] (au kc):=⟨rfl,rfl,rfl,by decide +kernel,rfl,by decide +kernel,by decide +kernel⟩
theorem EH:aD ["_law_told_here"] ["_law_told_here"] (au kg):=⟨rfl,rfl,rfl,by decide +kernel,rfl,by decide +kernel,by decide +kernel⟩
theorem qd:aD ["_law_told_here", "_law_number_here", "_law_some_here", "_law_way"] ["_law_told_here", "_law_number_here"] (au kh):=⟨rfl,rfl,rfl,by decide +kernel,rfl,by decide +kernel,by decide +kernel⟩
theorem ja:aD ["_law_script", "_law_told_here", "_law_first", "_law_many", "_law_found", "_law_k", "_law_number_here"] ["_law_script", "_law_told_here", "_law_first", "_law_many"] (au gY):=⟨rfl,rfl,rfl,by decide +kernel,rfl,by decide +kernel,by decide +kernel⟩
theorem g9:aD ["_law_tolds", "_law_table_here", "_law_some_here", "_law_found", "_law_sign"] ["_law_tolds", "_law_table_here"] (au fB):=⟨rfl,rfl,rfl,by decide +kernel,rfl,by decide +kernel,by decide +kernel⟩
theorem aZ:aD ["_law_cell", "_law_tolds", "_law_number_here", "_law_signs_here", "_law_rows", "_law_cells", "_law_table_here", "_law_r", "_law_row", "_law_c", "_law_size", "_law_text", "_law_k"] ["_law_cell", "_law_tolds"] (au iZ):=⟨rfl,rfl,rfl,by decide +kernel,rfl,by decide +kernel,by decide +kernel⟩
theorem vY:aD ["_law_one", "_law_table_here", "_law_beside", "_law_found"] ["_law_one", "_law_table_here", "_law_beside", "_law_found"] (au eV):=⟨rfl,rfl,rfl,by decide +kernel,rfl,by decide +kernel,by decide +kernel⟩
theorem Cj:aD ["_law_found", "_law_other"] ["_law_found", "_law_other"] (au i0):=⟨rfl,rfl,rfl,by decide +kernel,rfl,by decide +kernel,by decide +kernel⟩
theorem mK:aD ["_law_script", "_law_told_here", "_law_tolds", "_law_table_here", "_law_most", "_law_one", "_law_two", "_law_three", "_law_first", "_law_both", "_law_itself"] ["_law_script"] (au vF):=⟨rfl,rfl,rfl,by decide +kernel,rfl,by decide +kernel,by decide +kernel⟩
structure Txt (K:W.Frag) (mg:Str→Option Value) (av:Nat→Addr) (aJ:Nat→FuncData) (BU:Nat→Str):Prop where
 mL:fH K "is_printable" "is_printable" eG (av 0) (aJ 0)
 rK:Binds K (aJ 0) ["sign"] []
 rL:mg "is_printable" = some (.ref (av 0))
 fE:fH K "are_unlike_signs" "are_unlike_signs" cD (av 1) (aJ 1)
 iE:Binds K (aJ 1) ["thing", "least", "most"] []
 iF:mg "are_unlike_signs" = some (.ref (av 1))
 uP:OG K "__init__" "Dialect.__init__" bC (av 2) (aJ 2) (.ref (av 84))
 mO:Binds K (aJ 2) ["self", "parts", "quotes", "frees", "twin", "wide", "thin", "stray"] []
 Bd:fH K "told" "Dialect.told" gj (av 3) (aJ 3)
 Be:Binds K (aJ 3) ["self"] []
 Bf:Meth K (av 67) "told" (av 3)
 vZ:fH K "dialect_of" "dialect_of" iT (av 4) (aJ 4)
 EI:Binds K (aJ 4) ["told"] []
 EJ:mg "dialect_of" = some (.ref (av 4))
 zp:fH K "__init__" "Turn.__init__" fL (av 5) (aJ 5)
 qy:Binds K (aJ 5) ["self", "dialect"] []
 v9:fH K "__init__" "Marker.__init__" dI (av 6) (aJ 6)
 nt:Binds K (aJ 6) ["self", "dialect", "tokens"] []
 qz:fH K "tokens_of_row" "tokens_of_row" dB (av 7) (aJ 7)
 zq:Binds K (aJ 7) ["row"] []
 zu:mg "tokens_of_row" = some (.ref (av 7))
 jb:fH K "has_signs_alone" "has_signs_alone" cM (av 8) (aJ 8)
 nu:Binds K (aJ 8) ["text"] []
 nC:mg "has_signs_alone" = some (.ref (av 8))
 DC:fH K "is_cell" "is_cell" oK (av 9) (aJ 9)
 MH:Binds K (aJ 9) ["thing"] []
 MI:mg "is_cell" = some (.ref (av 9))
 Hi:fH K "is_row" "is_row" oM (av 10) (aJ 10)
 Qu:Binds K (aJ 10) ["thing"] []
 Qv:mg "is_row" = some (.ref (av 10))
 rM:fH K "signs_in_row" "signs_in_row" eH (av 11) (aJ 11)
 Bg:Binds K (aJ 11) ["row"] []
 Bh:mg "signs_in_row" = some (.ref (av 11))
 Bj:fH K "is_table" "is_table" iB (av 12) (aJ 12)
 JD:Binds K (aJ 12) ["thing"] []
 JE:mg "is_table" = some (.ref (av 12))
 t6:fH K "check_table" "check_table" gS (av 13) (aJ 13)
 Ck:Binds K (aJ 13) ["thing"] []
 Cn:mg "check_table" = some (.ref (av 13))
 nD:fH K "tokens_of" "tokens_of" jZ (av 14) (aJ 14)
 rN:Binds K (aJ 14) ["table"] []
 rO:mg "tokens_of" = some (.ref (av 14))
 JF:fH K "once" "once" AB (av 15) (aJ 15)
 Qw:Binds K (aJ 15) ["text"] []
 Qx:mg "once" = some (.ref (av 15))
 wc:fH K "special" "Dialect.special" dJ (av 16) (aJ 16)
 wg:Binds K (aJ 16) ["self"] []
 wj:Meth K (av 67) "special" (av 16)
 mP:fH K "signs_that_count" "signs_that_count" bO (av 17) (aJ 17)
 uQ:Binds K (aJ 17) ["dialect", "table", "others"] []
 uR:mg "signs_that_count" = some (.ref (av 17))
 wk:fH K "__init__" "Places.__init__" cN (av 18) (aJ 18)
 nE:Binds K (aJ 18) ["self", "dialect", "table", "others"] []
 JG:fH K "__init__" "TooMany.__init__" fz (av 19) (aJ 19)
 JH:Binds K (aJ 19) ["self", "most"] []
 uS:fH K "is_whole" "is_whole" mh (av 20) (aJ 20)
 Bk:Binds K (aJ 20) ["thing", "least", "most"] []
 Bl:mg "is_whole" = some (.ref (av 20))
 xY:fH K "is_text" "is_text" oN (av 21) (aJ 21)
 DE:Binds K (aJ 21) ["thing"] []
 DF:mg "is_text" = some (.ref (av 21))
 yN:fH K "states_of" "states_of" j0 (av 22) (aJ 22)
 Hj:Binds K (aJ 22) ["dialect"] []
 Hl:mg "states_of" = some (.ref (av 22))
 xZ:fH K "is_live" "is_live" oO (av 23) (aJ 23)
 DG:Binds K (aJ 23) ["dialect", "state"] []
 DH:mg "is_live" = some (.ref (av 23))
 qA:fH K "is_live_state" "is_live_state" fM (av 24) (aJ 24)
 zv:Binds K (aJ 24) ["dialect", "thing"] []
 zw:mg "is_live_state" = some (.ref (av 24))
 mQ:fH K "count_behind" "count_behind" gk (av 25) (aJ 25)
 rP:Binds K (aJ 25) ["tokens", "count", "kind", "sign"] []
 rQ:mg "count_behind" = some (.ref (av 25))
 kR:fH K "step_at_beginning" "step_at_beginning" cQ (av 26) (aJ 26)
 tL:Binds K (aJ 26) ["dialect", "state", "sign"] []
 tM:mg "step_at_beginning" = some (.ref (av 26))
 qB:fH K "step_in_plain" "step_in_plain" fN (av 27) (aJ 27)
 zx:Binds K (aJ 27) ["dialect", "sign"] []
 zy:mg "step_in_plain" = some (.ref (av 27))
 t7:fH K "step_within" "step_within" gT (av 28) (aJ 28)
 Co:Binds K (aJ 28) ["dialect", "quote", "sign"] []
 Cp:mg "step_within" = some (.ref (av 28))
 oh:fH K "step_behind" "step_behind" gU (av 29) (aJ 29)
 t9:Binds K (aJ 29) ["dialect", "sign"] []
 ua:mg "step_behind" = some (.ref (av 29))
 qC:fH K "step_in_doubt" "step_in_doubt" fO (av 30) (aJ 30)
 zB:Binds K (aJ 30) ["dialect", "quote", "sign"] []
 zC:mg "step_in_doubt" = some (.ref (av 30))
 wm:fH K "step_freed" "step_freed" iU (av 31) (aJ 31)
 EK:Binds K (aJ 31) ["dialect", "quote", "sign"] []
 EL:mg "step_freed" = some (.ref (av 31))
 Ho:fH K "step" "Turn.step" j7 (av 32) (aJ 32)
 yO:Binds K (aJ 32) ["self", "state", "sign"] []
 yP:Meth K (av 68) "step" (av 32)
 ya:fH K "live_step" "Turn.live_step" eN (av 33) (aJ 33)
 o8:Binds K (aJ 33) ["self", "state", "sign"] []
 o9:Meth K (av 68) "live_step" (av 33)
 rR:fH K "mark_behind" "Marker.mark_behind" cF (av 34) (aJ 34)
 kj:Binds K (aJ 34) ["self", "mark", "sign"] []
 ko:Meth K (av 69) "mark_behind" (av 34)
 qK:fH K "has_read_all" "Marker.has_read_all" cz (av 35) (aJ 35)
 jv:Binds K (aJ 35) ["self", "mark"] []
 jw:Meth K (av 69) "has_read_all" (av 35)
 oi:fH K "first_place" "first_place" fX (av 36) (aJ 36)
 uc:Binds K (aJ 36) ["others"] []
 ud:mg "first_place" = some (.ref (av 36))
 Bm:fH K "leads" "Places.leads" eO (av 37) (aJ 37)
 rS:Binds K (aJ 37) ["self", "place"] []
 rT:Meth K (av 70) "leads" (av 37)
 yb:fH K "is_good" "Places.is_good" cW (av 38) (aJ 38)
 pe:Binds K (aJ 38) ["self", "place"] []
 pq:Meth K (av 70) "is_good" (av 38)
 Hq:OG K "search" "search" j8 (av 39) (aJ 39) (.ref (av 85))
 Qy:Binds K (aJ 39) ["first", "searched", "most"] []
 Qz:mg "search" = some (.ref (av 39))
 DI:fH K "text_to" "text_to" oQ (av 40) (aJ 40)
 MJ:Binds K (aJ 40) ["came", "place"] []
 MK:mg "text_to" = some (.ref (av 40))
 uf:fH K "check_asked" "check_asked" gW (av 41) (aJ 41)
 Cq:Binds K (aJ 41) ["table", "others", "most"] []
 Cr:mg "check_asked" = some (.ref (av 41))
 yc:fH K "sole" "sole" AD (av 42) (aJ 42)
 Bo:Binds K (aJ 42) ["dialect", "table", "others", "most"] []
 Bp:mg "sole" = some (.ref (av 42))
 wo:fH K "check_text" "check_text" iV (av 43) (aJ 43)
 EM:Binds K (aJ 43) ["thing"] []
 EN:mg "check_text" = some (.ref (av 43))
 QA:fH K "walk" "walk" AE (av 44) (aJ 44)
 VP:Binds K (aJ 44) ["dialect", "text"] []
 VQ:mg "walk" = some (.ref (av 44))
 Hr:fH K "end_of" "end_of" qY (av 45) (aJ 45)
 QB:Binds K (aJ 45) ["walked"] []
 QC:mg "end_of" = some (.ref (av 45))
 Bq:fH K "table_of" "table_of" mj (av 46) (aJ 46)
 JI:Binds K (aJ 46) ["text", "kinds"] []
 JJ:mg "table_of" = some (.ref (av 46))
 qe:fH K "reading_of" "reading_of" iW (av 47) (aJ 47)
 wu:Binds K (aJ 47) ["dialect", "text"] []
 wz:mg "reading_of" = some (.ref (av 47))
 yd:fH K "is_mark" "is_mark" oR (av 48) (aJ 48)
 DJ:Binds K (aJ 48) ["dialect", "most", "thing"] []
 DK:mg "is_mark" = some (.ref (av 48))
 yQ:fH K "are_marks" "are_marks" iL (av 49) (aJ 49)
 Hs:Binds K (aJ 49) ["others", "most", "thing"] []
 Ht:mg "are_marks" = some (.ref (av 49))
 Br:fH K "is_place" "is_place" mq (av 50) (aJ 50)
 JK:Binds K (aJ 50) ["dialect", "others", "most", "thing"] []
 JL:mg "is_place" = some (.ref (av 50))
 DL:fH K "is_none" "is_none" jC (av 51) (aJ 51)
 ML:Binds K (aJ 51) ["dialect", "table", "others", "places"] []
 MN:mg "is_none" = some (.ref (av 51))
 DM:fH K "is_sole" "is_sole" lO (av 52) (aJ 52)
 MO:Binds K (aJ 52) ["dialect", "table", "others", "text"] []
 MP:mg "is_sole" = some (.ref (av 52))
 gv:fH K "_law_cell_at" "_law_cell_at" gn (av 53) (aJ 53)
 jc:Binds K (aJ 53) ["_law_script", "_law_k"] []
 jd:mg "_law_cell_at" = some (.ref (av 53))
 ly:fH K "_law_mixed" "_law_mixed" iX (av 54) (aJ 54)
 qf:Binds K (aJ 54) ["_law_number_here", "_law_salt"] []
 qg:mg "_law_mixed" = some (.ref (av 54))
 jP:fH K "_law_number" "_law_number" gX (av 55) (aJ 55)
 oj:Binds K (aJ 55) ["_law_cell", "_law_salt"] []
 oq:mg "_law_number" = some (.ref (av 55))
 nF:fH K "_law_some" "_law_some" j9 (av 56) (aJ 56)
 rU:Binds K (aJ 56) ["_law_number_here", "_law_many", "_law_menu"] []
 rV:mg "_law_some" = some (.ref (av 56))
 wA:fH K "_law_menus" "_law_menus" iY (av 57) (aJ 57)
 EO:Binds K (aJ 57) ["_law_way"] []
 ER:mg "_law_menus" = some (.ref (av 57))
 rW:fH K "_law_told" "_law_told" kc (av 58) (aJ 58)
 yR:Binds K (aJ 58) ["_law_cell"] []
 yS:mg "_law_told" = some (.ref (av 58))
 yT:fH K "_law_made" "_law_made" kg (av 59) (aJ 59)
 Hu:Binds K (aJ 59) ["_law_told_here"] []
 Hv:mg "_law_made" = some (.ref (av 59))
 yU:fH K "_law_near" "_law_near" kh (av 60) (aJ 60)
 Hw:Binds K (aJ 60) ["_law_told_here", "_law_number_here"] []
 Hx:mg "_law_near" = some (.ref (av 60))
 ug:fH K "_law_others" "_law_others" gY (av 61) (aJ 61)
 Cs:Binds K (aJ 61) ["_law_script", "_law_told_here", "_law_first", "_law_many"] []
 Ct:mg "_law_others" = some (.ref (av 61))
 wB:fH K "_law_signs" "_law_signs" fB (av 62) (aJ 62)
 ES:Binds K (aJ 62) ["_law_tolds", "_law_table_here"] []
 ET:mg "_law_signs" = some (.ref (av 62))
 wC:fH K "_law_table" "_law_table" iZ (av 63) (aJ 63)
 EU:Binds K (aJ 63) ["_law_cell", "_law_tolds"] []
 EV:mg "_law_table" = some (.ref (av 63))
 gH:fH K "_law_looked_at" "_law_looked_at" eV (av 64) (aJ 64)
 jI:Binds K (aJ 64) ["_law_one", "_law_table_here", "_law_beside", "_law_found"] []
 jJ:mg "_law_looked_at" = some (.ref (av 64))
 qh:fH K "_law_alike" "_law_alike" i0 (av 65) (aJ 65)
 wD:Binds K (aJ 65) ["_law_found", "_law_other"] []
 wF:mg "_law_alike" = some (.ref (av 65))
 Z8:fH K "law" "law" vF (av 66) (aJ 66)
 ajq:Binds K (aJ 66) ["_law_script"] []
 ajr:mg "law" = some (.ref (av 66))
 aK:K7 K (av 67)
 DN:mg "Dialect" = some (.ref (av 67))
 DO:Mk K (av 67) (av 2)
 cy:fu K (av 67) "parts"
 bS:fu K (av 67) "quotes"
 bN:fu K (av 67) "frees"
 gw:fu K (av 67) "twin"
 eY:fu K (av 67) "wide"
 eZ:fu K (av 67) "thin"
 fS:fu K (av 67) "stray"
 ig:K7 K (av 68)
 QD:mg "Turn" = some (.ref (av 68))
 QE:Mk K (av 68) (av 5)
 bL:fu K (av 68) "dialect"
 gI:K7 K (av 69)
 Hy:mg "Marker" = some (.ref (av 69))
 Hz:Mk K (av 69) (av 6)
 jQ:fu K (av 69) "turn"
 fT:fu K (av 69) "tokens"
 dD:K7 K (av 70)
 HA:mg "Places" = some (.ref (av 70))
 HB:Mk K (av 70) (av 18)
 fV:fu K (av 70) "marker"
 e9:fu K (av 70) "markers"
 je:fu K (av 70) "signs"
 QF:mg "DialectError" = some (.ref (av 71))
 QG:ZK K (av 71) (av 72) B9 none
 NT:XIn K (av 71)
 Z9:mg "NoText" = some (.ref (av 73))
 aac:ZK K (av 73) (av 74) (.ref (av 71) :: B9) none
 Yt:mg "NoTable" = some (.ref (av 75))
 Yu:ZK K (av 75) (av 76) (.ref (av 71) :: B9) none
 aad:mg "NoMost" = some (.ref (av 77))
 aae:ZK K (av 77) (av 78) (.ref (av 71) :: B9) none
 Yv:mg "TooMany" = some (.ref (av 79))
 Yw:ZK K (av 79) (av 80) (.ref (av 71) :: B9) (some (.ref (av 19)))
 Uo:W.keepIn K (.ref (av 79))=true
 VR:∃ oI:Obj,K.lookup (av 19)=some oI∧oI.cls=.type "function"
 NU:XAt K (av 79) "most"
 uT:mg "all" = none
 QH:mg "any" = none
 LI:mg "bool" = none
 EW:mg "enumerate" = none
 QI:mg "int" = none
 bf:mg "isinstance" = none
 bQ:mg "len" = none
 sQ:mg "list" = none
 VS:mg "ord" = none
 rX:mg "range" = none
 yV:mg "reversed" = none
 Bs:mg "str" = none
 QJ:mg "sum" = none
 kr:mg "tuple" = none
 EX:mg "zip" = none
 qi:∃ t,mg "LINE" = some (.str (BU 0) t)
 nG:(BU 0)=Str.ofString "\n"
 Cu:∃ t,mg "MOST_SIGNS" = some (.int 2000 t)
 EY:∃ t,mg "MOST_ROWS" = some (.int 60 t)
 Cv:∃ t,mg "MOST_CELLS" = some (.int 20 t)
 jf:∃ t,mg "MOST_SIGNS_IN_CELLS" = some (.int 400 t)
 Bt:∃ t,mg "MOST_TOKENS" = some (.int 24 t)
 Bu:∃ t,mg "MOST_OTHERS" = some (.int 3 t)
 Bv:∃ t,mg "MOST_PLACES" = some (.int 4000 t)
 jg:mg "START" = some (.ref (av 81))
 jh:∃(o:Obj) (its:Array Value) (n:Nat),K.lookup (av 81)=some o∧o.cls=.type "tuple"∧o.data=.seq its n∧its.size≤sizeLine∧Vals [.str ("row":Str),.str ("":Str)] its.toList
 SN:mg "PART" = some (.ref (av 82))
 SO:∃(o:Obj) (its:Array Value) (n:Nat),K.lookup (av 82)=some o∧o.cls=.type "tuple"∧o.data=.seq its n∧its.size≤sizeLine∧Vals [.str ("part":Str),.str ("":Str)] its.toList
 VT:mg "END" = some (.ref (av 83))
 VU:∃(o:Obj) (its:Array Value) (n:Nat),K.lookup (av 83)=some o∧o.cls=.type "tuple"∧o.data=.seq its n∧its.size≤sizeLine∧Vals [.str ("end":Str),.str ("":Str)] its.toList
section
variable {P:Program}{w:World}{K:W.Frag}{mg:Str→Option Value}{base:Heap}{av:Nat→Addr}{aJ:Nat→FuncData}{BU:Nat→Str}
def kG:Sp:=fun vs H Q _=>∃ c:Nat,vs=[.str (sg c)]∧Q (.bl (decide (Pn c))) H
section
variable (T:Txt K mg av aJ BU)
include T
theorem qD:aG P w K mg base bu 1 (av 0) (aJ 0) ["sign"] kG:=by
 refine T.mL.ok qw (fun vs H Q E h=>?_) (fun cdv A outer s H vs Q E hr h=>?_)
 ·obtain⟨c,rfl,_⟩:=h;rfl
 ·have hu:=aX hr
  have gi:=hr.aN
  obtain⟨c,rfl,k⟩:=h
  refine⟨_,(ai (dW 1 qw.nd (iS Od T.VS (af (pv 0) ah)))
   (ak (ay (uy (Cb Ob (pv 1) ao) (uy (Cb Oa (pv 1) ao) (nU (Cb yG (pv 1) ao))))))),?_⟩
  refine⟨_,rfl,_,rfl,rfl,?_⟩
  refine⟨_,rfl,_,_,rfl,rfl,_,rfl,bW (fun h1=>?_) (fun h1=>?_)⟩
  ·have h1:(32:Int)≤((c:Nat):Int):=of_decide_eq_true h1
   refine⟨_,rfl,_,_,rfl,rfl,_,rfl,bW (fun h2=>?_) (fun h2=>?_)⟩
   ·have h2:((c:Nat):Int)≤126:=of_decide_eq_true h2
    refine⟨_,rfl,rfl,?_⟩
    have e:(!decide (V.int ((c:Nat):Int)=V.int 37))=decide (Pn c):=by
     by_cases h3:c=37
     ·subst h3;decide
     ·have n1:¬(V.int ((c:Nat):Int)=V.int 37):=fun z=>h3 (by injection z with z;omega)
      rw[decide_eq_false n1,decide_eq_true (show Pn c from ⟨by omega,by omega,h3⟩)];rfl
    show Q (.bl (!decide (V.int ((c:Nat):Int)=V.int 37))) H
    rw[e];exact k
   ·have e:decide (((c:Nat):Int)≤126)=decide (Pn c):=by
     have n1:¬((c:Nat):Int)≤126:=fun z=>h2 (decide_eq_true z)
     rw[decide_eq_false n1,decide_eq_false (fun z:Pn c=>n1 (by have:=z.2.1;omega))]
    rw[←e,show decide (((c:Nat):Int)≤126)=false from Bool.eq_false_iff.mpr h2] at k
    exact k
  ·have e:decide ((32:Int)≤((c:Nat):Int))=decide (Pn c):=by
    have n1:¬(32:Int)≤((c:Nat):Int):=fun z=>h1 (decide_eq_true z)
    rw[decide_eq_false n1,decide_eq_false (fun z:Pn c=>n1 (by have:=z.1;omega))]
   rw[←e,show decide ((32:Int)≤((c:Nat):Int))=false from Bool.eq_false_iff.mpr h1] at k
   exact k
def kT:Sp:=fun vs H Q _=>∃(z:Str) (lo hi:Int),vs=[.str z,.int lo,.int hi]∧Sg z∧lo≤z.length∧(z.length:Int)≤hi∧z.length≤1000∧∀ H',aE H H'→Q (.bl true) H'
theorem tN:aG P w K mg base bu 2 (av 1) (aJ 1) ["thing", "least", "most"] kT:=by
 have mR:aG P w K mg base bu 1 (av 0) (aJ 0) ["sign"] kG:=qD T
 refine T.fE.ok tK (fun vs H Q E h=>?_) (fun cdv A outer s H vs Q E hr h=>?_)
 ·obtain⟨z,lo,hi,rfl,_⟩:=h;rfl
 ·have hu:=aX hr
  have gi:=hr.aN
  obtain⟨z,lo,hi,rfl,g,hlo,hhi,hz,k⟩:=h
  have DP:z.length≤sizeLine:=Nat.le_trans hz (by decide)
  refine⟨_,(ai (aM (PW.pt (gP (bF (br (iS (cE K rfl) T.bf (af (pv 0) (af (Io "str" T.Bs) ah))))) (gP (fJ Aj (iS bH T.bQ (af (pv 0) ah)) (pv 1)) (fm (fJ tR (iS bH T.bQ (af (pv 0) ah)) (pv 2)))))) (ak (ay dU)) aA)
   (ak (ay (iS (jB K rfl rfl) T.uT (af (cS rfl (show bg ["thing", "least", "most"] (au cD) ["sign", "thing"] 1 [0] _ from Di) (qT (pv 0)) (fun _ _ _ _=>(jY 0 (show(["sign", "thing"]:List Str).Nodup by decide +kernel))) (fun _ _ _ _=>cK) (fun _ _ _ _=>(uy (dY mR hr T.rL T.mL.kp T.rK (af (pv 0) ah)) (nU (Cb bA (cO K rfl PySem.F.plainAttrs_str PySem.F.slot_str_count PySem.F.type_str_count OI (pv 1) (af (pv 0) ah)) ao))))) ah))))),?_⟩
  refine⟨_,rfl,_,_,_,true,rfl,.str _,.inl ⟨_,rfl,rfl⟩,true,rfl,dF ?_⟩
  refine⟨_,rfl,z,rfl,DP,_,rfl,_,_,rfl,rfl,_,rfl,Pk (by omega) ?_⟩
  refine⟨_,rfl,z,rfl,DP,_,rfl,_,_,rfl,rfl,_,rfl,Pk (by omega) ?_⟩
  refine⟨_,rfl,z,rfl,fun D hD=>?_⟩
  have hsz:z.cps.toList.length=z.length:=by rw[Array.length_toList];rfl
  refine Ao (fun i ys τ H2=>(∃ v,τ=[v,some (.str z)])∧aE H H2∧H2 D=some (.lst ys)∧ys=(List.replicate i true).map V.bl) ⟨⟨_,rfl⟩,aq hD,aj,rfl⟩ (fun i ys τ H2 _ p=>p.2.2.1) ?_ ?_
  ·rintro i c ys τ H2 hi ⟨⟨v,rfl⟩,s2,hl,rfl⟩
   have hc:c∈z.cps.toList:=List.mem_of_getElem? hi
   have hil:i < z.cps.toList.length:=(List.getElem?_eq_some_iff.mp hi).1
   refine qZ ?_
   refine⟨_,rfl,c,rfl,_,rfl,tV (decide_eq_true (g.pr c hc)) ?_⟩
   refine⟨_,rfl,rfl,_,rfl,z,c,rfl,rfl,rfl,?_⟩
   have e:decide (V.int (PyProof.Rows.cnt c z.cps.toList)=V.int 1)=true:=by rw[Lh g.nd hc];exact decide_eq_true rfl
   rw[e]
   refine⟨hl,?_,⟨_,rfl⟩,aI hD s2,aj,?_⟩
   ·rw[List.length_map,List.length_replicate]
    exact Nat.lt_of_lt_of_le (show i < 1001 by omega) (by decide)
   ·rw[List.replicate_succ',List.map_append];rfl
  ·rintro ys τ H2 ⟨⟨v,rfl⟩,s2,hl,rfl⟩
   refine⟨D,List.replicate _ true,rfl,aU.of hl,?_⟩
   have e:(List.replicate z.cps.toList.length true).all id=true:=by
    rw[List.all_eq_true]
    intro b hb
    exact(List.mem_replicate.mp hb).2
   rw[e]
   exact k H2 s2
def gO (C:Addr):Sp:=fun vs H Q _=>∃(x dx:Addr) (p q f:Str) (b1 b2 b3 b4:Bool),vs=.ref x :: vG p q f b1 b2 b3 b4∧H x=some (.ins C dx [])∧Gd p q f∧∀ H',H' x=some (.ins C dx (AF p q f b1 b2 b3 b4))→(∀ b o,H b=some o→b≠x→H' b=some o)→Q .non H'
theorem kU:aG P w K mg base bu 3 (av 2) (aJ 2) ["self", "parts", "quotes", "frees", "twin", "wide", "thin", "stray"] (gO (av 67)):=by
 have iG:aG P w K mg base bu 2 (av 1) (aJ 1) ["thing", "least", "most"] kT:=tN T
 refine T.uP.ok kQ (fun vs H Q E h=>?_) (fun cdv A outer s H vs Q E hr h=>?_)
 ·obtain⟨x,dx,p,q,f,b1,b2,b3,b4,rfl,_⟩:=h;rfl
 ·have hu:=aX hr
  have gi:=hr.aN
  obtain⟨x,dx,p,q,f,b1,b2,b3,b4,rfl,hx,g,k⟩:=h
  have hp1:=g.p1;have hp3:=g.p3;have hq2:=g.q2;have hf2:=g.f2
  refine⟨_,(ai (aM (bF (br (dY iG hr T.iF T.fE.kp T.iE (af (pv 1) (af ao (af ao ah)))))) (ak gQ) aA)
   (ai (aM (bF (br (dY iG hr T.iF T.fE.kp T.iE (af (pv 2) (af ao (af ao ah)))))) (ak gQ) aA)
   (ai (aM (bF (br (dY iG hr T.iF T.fE.kp T.iE (af (pv 3) (af ao (af ao ah)))))) (ak gQ) aA)
   (ai (fq PassesOwn.never rfl (RI K rfl (aL (af (pv 4) (af (pv 5) (af (pv 6) (af (pv 7) ah)))))) (jY 8 kQ.nd)
   (ak (aM (bF (br (iS (cE K rfl) T.bf (af (pv 8) (af (Io "bool" T.LI) ah))))) (ak gQ) aA)))
   (ai (jz (pv 0) (pv 1) rfl)
   (ai (jz (pv 0) (pv 2) rfl)
   (ai (jz (pv 0) (pv 3) rfl)
   (ai (jz (pv 0) (pv 4) rfl)
   (ai (jz (pv 0) (pv 5) rfl)
   (ai (jz (pv 0) (pv 6) rfl)
   (ak (jz (pv 0) (pv 7) rfl)))))))))))),?_⟩
  refine⟨_,rfl,p,1,3,rfl,g.gp,by omega,by omega,by omega,fun H1 s1=>⟨true,rfl,dF ?_⟩⟩
  refine⟨_,rfl,q,0,2,rfl,g.gq,by omega,by omega,by omega,fun H2 s2=>⟨true,rfl,dF ?_⟩⟩
  refine⟨_,rfl,f,0,2,rfl,g.gf,by omega,by omega,by omega,fun H3 s3=>⟨true,rfl,dF ?_⟩⟩
  refine⟨_,rfl,_,rfl,_,rfl,_,rfl,(by show 4≤sizeLine;decide),fun t ht=>⟨t,rfl,⟨_,aV.of aj⟩,?_⟩⟩
  have s03:aE H (upd H3 t (.tup [.bl b1,.bl b2,.bl b3,.bl b4])):=((s1.trans s2).trans s3).trans (aq ht)
  have Bw:(upd H3 t (.tup [.bl b1,.bl b2,.bl b3,.bl b4])) t=some (.tup [.bl b1,.bl b2,.bl b3,.bl b4]):=aj
  generalize upd H3 t (.tup [.bl b1,.bl b2,.bl b3,.bl b4])=H4 at s03 Bw ⊢
  refine Rp (K:=K) (a:=t) (xs:=[.bl b1,.bl b2,.bl b3,.bl b4]) (fun i σ H5=>H5=H4∧∃ v,σ=[some (.ref x),some (.str p),some (.str q),some (.str f),some (.bl b1),some (.bl b2),some (.bl b3),some (.bl b4),v]) ⟨rfl,_,rfl⟩ (fun i σ H5 _ q=>by rw[q.1];exact aV.of Bw) ?_ ?_
  ·rintro i y σ H5 hi ⟨rfl,v,rfl⟩
   obtain⟨b,rfl⟩:∃ b,y=V.bl b:=by
    have hi4:i < 4:=(List.getElem?_eq_some_iff.mp hi).1
    match i,hi4,hi with
    | 0,_,hi=>exact⟨_,(Option.some.inj hi).symm⟩
    | 1,_,hi=>exact⟨_,(Option.some.inj hi).symm⟩
    | 2,_,hi=>exact⟨_,(Option.some.inj hi).symm⟩
    | 3,_,hi=>exact⟨_,(Option.some.inj hi).symm⟩
   refine⟨_,rfl,_,_,_,true,rfl,.bl _,.inl ⟨_,rfl,rfl⟩,true,rfl,dF ?_⟩
   exact⟨rfl,_,rfl⟩
  ·rintro σ H5 ⟨rfl,v,rfl⟩
   have hx5:=s03 _ _ hx
   refine⟨_,rfl,_,rfl,x,(av 67),dx,_,rfl,hx5,T.aK,T.cy,(by show 0 < 1000;decide),_,rfl,_,rfl,x,(av 67),dx,_,rfl,aj,T.aK,T.bS,(by show 1 < 1000;decide),_,rfl,_,rfl,x,(av 67),dx,_,rfl,aj,T.aK,T.bN,(by show 2 < 1000;decide),_,rfl,_,rfl,x,(av 67),dx,_,rfl,aj,T.aK,T.gw,(by show 3 < 1000;decide),
    _,rfl,_,rfl,x,(av 67),dx,_,rfl,aj,T.aK,T.eY,(by show 4 < 1000;decide),_,rfl,_,rfl,x,(av 67),dx,_,rfl,aj,T.aK,T.eZ,(by show 5 < 1000;decide),_,rfl,_,rfl,x,(av 67),dx,_,rfl,aj,T.aK,T.fS,(by show 6 < 1000;decide),?_⟩
   refine k _ aj fun b o e hb=>?_
   rw[aC hb,aC hb,aC hb,aC hb,aC hb,aC hb,aC hb]
   exact s03 _ _ e
def qE (C:Addr):Sp:=fun vs H Q _=>∃(x dx:Addr) (p q f:Str) (b1 b2 b3 b4:Bool),vs=[.ref x]∧H x=some (.ins C dx (AF p q f b1 b2 b3 b4))∧∀ t,H t=none→Q (.ref t) (upd H t (.tup (vG p q f b1 b2 b3 b4)))
theorem zD:aG P w K mg base bu 1 (av 3) (aJ 3) ["self"] (qE (av 67)):=by
 refine T.Bd.ok zl (fun vs H Q E h=>?_) (fun cdv A outer s H vs Q E hr h=>?_)
 ·obtain⟨x,dx,p,q,f,b1,b2,b3,b4,rfl,_⟩:=h;rfl
 ·have hu:=aX hr
  have gi:=hr.aN
  obtain⟨x,dx,p,q,f,b1,b2,b3,b4,rfl,hx,k⟩:=h
  refine⟨_,(ak (ay (aL (af (aR K rfl (pv 0) rfl) (af (aR K rfl (pv 0) rfl) (af (aR K rfl (pv 0) rfl) (af (aR K rfl (pv 0) rfl) (af (aR K rfl (pv 0) rfl) (af (aR K rfl (pv 0) rfl) (af (aR K rfl (pv 0) rfl) ah)))))))))),?_⟩
  refine⟨_,rfl,x,(av 67),dx,_,_,rfl,hx,T.aK,T.cy,rfl,_,rfl,x,(av 67),dx,_,_,rfl,hx,T.aK,T.bS,rfl,_,rfl,x,(av 67),dx,_,_,rfl,hx,T.aK,T.bN,rfl,_,rfl,x,(av 67),dx,_,_,rfl,hx,T.aK,T.gw,rfl,_,rfl,x,(av 67),dx,_,_,rfl,hx,T.aK,T.eY,rfl,_,rfl,x,(av 67),dx,_,_,rfl,hx,T.aK,T.eZ,rfl,_,rfl,x,(av 67),dx,_,_,rfl,hx,T.aK,T.fS,rfl,(by show 7≤sizeLine;decide),fun t ht=>?_⟩
  exact k t ht
def uh (C:Addr):Sp:=fun vs H Q _=>∃(t:Addr) (p q f:Str) (b1 b2 b3 b4:Bool),vs=[.ref t]∧H t=some (.tup (vG p q f b1 b2 b3 b4))∧Gd p q f∧∀(x dx:Addr) (H':Hp),H x=none→H' x=some (.ins C dx (AF p q f b1 b2 b3 b4))→aE H H'→Q (.ref x) H'
theorem Cw:aG P w K mg base bu 5 (av 4) (aJ 4) ["told"] (uh (av 67)):=by
 have iH:aG P w K mg base bu 3 (av 2) (aJ 2) ["self", "parts", "quotes", "frees", "twin", "wide", "thin", "stray"] (gO (av 67)):=kU T
 refine T.vZ.ok Cf (fun vs H Q E h=>?_) (fun cdv A outer s H vs Q E hr h=>?_)
 ·obtain⟨t,p,q,f,b1,b2,b3,b4,rfl,_⟩:=h;rfl
 ·have hu:=aX hr
  have gi:=hr.aN
  obtain⟨t,p,q,f,b1,b2,b3,b4,rfl,ht,g,k⟩:=h
  have hS:aV K H t (vG p q f b1 b2 b3 b4):=aV.of ht
  refine⟨_,(ai (aM (PW.pt (gP (bF (br (iS (qV K rfl) T.bf (af (pv 0) (af (Io "tuple" T.kr) ah))))) (fm (fJ yG (iS (aT K rfl) T.bQ (af (pv 0) ah)) ao)))) (ak gQ) aA)
   (ak (ay (nc (k:=3) T.DO iH (hr.mono (by decide)) rfl T.DN T.mO .nil gh (af (f9 K (pv 0) ao) (af (f9 K (pv 0) ao) (af (f9 K (pv 0) ao) (af (f9 K (pv 0) ao) (af (f9 K (pv 0) ao) (af (f9 K (pv 0) ao) (af (f9 K (pv 0) ao) ah))))))))))),?_⟩
  refine⟨_,rfl,t,_,_,true,rfl,.inl ⟨hS,rfl⟩,true,rfl,dF ?_⟩
  refine⟨_,rfl,t,_,rfl,.inr hS,rfl,_,rfl,Zm rfl ?_⟩
  refine⟨_,rfl,t,_,_,_,rfl,rfl,hS,rfl,_,rfl,t,_,_,_,rfl,rfl,hS,rfl,_,rfl,t,_,_,_,rfl,rfl,hS,rfl,_,rfl,t,_,_,_,rfl,rfl,hS,rfl,_,rfl,t,_,_,_,rfl,rfl,hS,rfl,_,rfl,t,_,_,_,rfl,rfl,hS,rfl,_,rfl,t,_,_,_,rfl,rfl,hS,rfl,fun x dx hx hdx ne=>?_⟩
  refine⟨x,dx,p,q,f,b1,b2,b3,b4,rfl,aj,g,fun H2 h2 kp=>⟨rfl,k x dx H2 hx h2 fun b o e=>kp b o ?_ (bq e hx)⟩⟩
  rw[aC (bq e hx),aC (bq e hdx)]
  exact e
def jK (C CT:Addr):Sp:=fun vs H Q _=>∃(y dy x dx:Addr) (p q f:Str) (b1 b2 b3 b4:Bool),vs=[.ref y,.ref x]∧H y=some (.ins CT dy [])∧H x=some (.ins C dx (AF p q f b1 b2 b3 b4))∧Gd p q f∧∀ H',Tn C CT H' y p q f b1 b2 b3 b4→(∀ b o,H b=some o→b≠y→H' b=some o)→Q .non H'
theorem pA:aG P w K mg base bu 6 (av 5) (aJ 5) ["self", "dialect"] (jK (av 67) (av 68)):=by
 have Bx:aG P w K mg base bu 1 (av 3) (aJ 3) ["self"] (qE (av 67)):=zD T
 have EZ:aG P w K mg base bu 5 (av 4) (aJ 4) ["told"] (uh (av 67)):=Cw T
 refine T.zp.ok xT (fun vs H Q E h=>?_) (fun cdv A outer s H vs Q E hr h=>?_)
 ·obtain⟨y,dy,x,dx,p,q,f,b1,b2,b3,b4,rfl,_⟩:=h;rfl
 ·have hu:=aX hr
  have gi:=hr.aN
  obtain⟨y,dy,x,dx,p,q,f,b1,b2,b3,b4,rfl,hy,hx,g,k⟩:=h
  refine⟨_,(ak (jz (pv 0) (dY EZ hr T.EJ T.vZ.kp T.EI (af (FH (k:=1) (pv 1) T.aK T.Bf Bx (hr.mono (by decide)) T.Be .nil gh) ah)) rfl)),?_⟩
  refine⟨_,rfl,x,dx,_,rfl,hx,rfl,x,dx,p,q,f,b1,b2,b3,b4,rfl,hx,fun t ht=>?_⟩
  have s1:=aq (o:=HO.tup (vG p q f b1 b2 b3 b4)) ht
  refine⟨t,p,q,f,b1,b2,b3,b4,rfl,aj,g,fun d dd H2 hd h2 s2=>?_⟩
  have s12:=s1.trans s2
  have nyd:d≠y:=fun e=>by subst e;rw[s1 _ _ hy] at hd;cases hd
  refine⟨_,rfl,y,(av 68),dy,_,rfl,s12 _ _ hy,T.ig,T.bL,(by show 0 < 1000;decide),?_⟩
  refine k _ ⟨⟨dy,d,dd,aj,(aC nyd).trans h2⟩⟩ fun b o e hb=>(aC hb).trans (s12 _ _ e)
def mS (K:W.Frag) (C CT CM:Addr):Sp:=fun vs H Q _=>∃(m dm x dx l:Addr) (ys:List V) (ts:List (Str×Str)) (p q f:Str) (b1 b2 b3 b4:Bool),vs=[.ref m,.ref x,.ref l]∧H m=some (.ins CM dm [])∧H x=some (.ins C dx (AF p q f b1 b2 b3 b4))∧Gd p q f∧H l=some (.lst ys)∧Paired (gc K H) ys ts∧∀ H',tG K C CT CM H' m p q f b1 b2 b3 b4 ts→(∀ b o,H b=some o→b≠m→H' b=some o)→(∃ dm y,H' m=some (.ins CM dm (VE y l)))→Q .non H'
theorem uU:aG P w K mg base bu 8 (av 6) (aJ 6) ["self", "dialect", "tokens"] (mS K (av 67) (av 68) (av 69)):=by
 have kH:aG P w K mg base bu 6 (av 5) (aJ 5) ["self", "dialect"] (jK (av 67) (av 68)):=pA T
 refine T.v9.ok uM (fun vs H Q E h=>?_) (fun cdv A outer s H vs Q E hr h=>?_)
 ·obtain⟨m,dm,x,dx,l,ys,ts,p,q,f,b1,b2,b3,b4,rfl,_⟩:=h;rfl
 ·have hu:=aX hr
  have gi:=hr.aN
  obtain⟨m,dm,x,dx,l,ys,ts,p,q,f,b1,b2,b3,b4,rfl,hm,hx,g,hl,tp,k⟩:=h
  refine⟨_,(ai (jz (pv 0) (nc (k:=6) T.QE kH (hr.mono (by decide)) rfl T.QD T.qy .nil gh (af (pv 1) ah)) rfl)
   (ak (jz (pv 0) (pv 2) rfl))),?_⟩
  refine⟨_,rfl,fun y dy hy R7 ne=>⟨y,dy,x,dx,p,q,f,b1,b2,b3,b4,rfl,aj,fP hy R7 hx,g,fun H2 hT kp=>⟨rfl,?_⟩⟩⟩
  have s2:=lP hy R7 kp
  have hm2:=s2 _ _ hm
  refine⟨_,rfl,m,(av 69),dm,_,rfl,hm2,T.gI,T.jQ,(by show 0 < 1000;decide),?_⟩
  refine⟨_,rfl,_,rfl,m,(av 69),dm,_,rfl,aj,T.gI,T.fT,(by show 1 < 1000;decide),?_⟩
  have nlm:l≠m:=fun q=>by rw[q,hm] at hl;cases hl
  refine k _ ⟨dm,y,l,ys,aj,?_,(aC nlm).trans ((aC nlm).trans (s2 _ _ hl)),rE aj (rE hm2 (jE s2 tp))⟩ (fun b o e hb=>(aC hb).trans ((aC hb).trans (s2 _ _ e))) ⟨dm,y,aj⟩
  refine Tn.off aj ?_ ?_ (Tn.off hm2 ?_ ?_ hT)
  ·intro d fs q;injection q with q1 q2 q3;injection q3 with q4 q5;injection q4 with q6 q7;exact absurd q6 (by decide +kernel)
  ·intro d q;injection q with q1 q2 q3;injection q3 with q4 q5;injection q4 with q6 q7;exact absurd q6 (by decide +kernel)
  ·intro d fs q;injection q with q1 q2 q3;cases q3
  ·intro d q;injection q with q1 q2 q3;cases q3
def pB (K:W.Frag):Sp:=fun vs H Q _=>∃(a:Addr) (r:List Str),vs=[.ref a]∧H a=some (.lst (r.map V.str))∧r.length≤20∧(lens r).sum≤400∧∀(l:Addr) (ys:List V) H',H l=none→H' l=some (.lst ys)→Paired (gc K H') ys (pW r)→aE H H'→Q (.ref l) H'
theorem ye:aG P w K mg base bu 1 (av 7) (aJ 7) ["row"] (pB K):=by
 refine T.qz.ok gF (fun vs H Q E h=>?_) (fun cdv A outer s H vs Q E hr h=>?_)
 ·obtain⟨a,r,rfl,_⟩:=h;rfl
 ·have hu:=aX hr
  have gi:=hr.aN
  obtain⟨a,r,rfl,ha,hr,hs,k⟩:=h
  refine⟨_,(ai (dW 1 gF.nd (bB ah))
   (ai (fq PassesOwn.never rfl (OO K rfl rfl T.EW (af (pv 0) ah)) (ng K rfl 2 rfl (bX (jY 2 gF.nd) (bX (jY 3 gF.nd) kX)))
   (ai (aM (fJ tR (pv 2) ao) (ak (cR (cO K rfl PySem.F.plainAttrs_list PySem.F.slot_list_append PySem.F.type_list_append cJ (pv 1) (af (iP rfl T.SN) ah)))) aA)
   (ak (cR (cO K rfl PySem.F.plainAttrs_list PySem.F.slot_list_extend PySem.F.type_list_extend xw (pv 1) (af (cS rfl (show bg ["row", "tokens", "place", "cell"] (au dB) ["sign"] 1 [] _ from Di) (qT (pv 3)) (fun _ _ _ _=>(jY 0 NS)) (fun _ _ _ _=>cK) (fun _ _ _ _=>(aL (af az (af (pv 0) ah))))) ah))))))
   (ai (cR (cO K rfl PySem.F.plainAttrs_list PySem.F.slot_list_append PySem.F.type_list_append cJ (pv 1) (af (iP rfl T.VT) ah)))
   (ak (ay (pv 1)))))),?_⟩
  refine⟨by decide,fun l hl=>?_⟩
  have s0:=aq (o:=HO.lst []) hl
  have aaf:∀ n,n≤r.length→(m8 r n).length≤420:=fun n hn=>by
   have:=AK r n hn
   have h2:(lens (r.take n)).sum≤(lens r).sum:=by
    unfold lens;rw[List.map_take];exact qW _ _
   omega
  refine⟨_,rfl,a,rfl,⟨_,aU.of (s0 _ _ ha)⟩,?_⟩
  refine OP (K:=K) (a:=a) (xs:=r.map V.str) (fun i σ H2=>(∃ v1 v2,σ=[some (.ref a),some (.ref l),v1,v2])∧aE H H2∧∃ ys,H2 l=some (.lst ys)∧Paired (gc K H2) ys (m8 r i)) ⟨⟨_,_,rfl⟩,s0,[],aj,.nil⟩ (fun i σ H2 _ q=>aU.of (q.2.1 _ _ ha)) ?_ ?_
  ·rintro i e t σ H2 hi ht ⟨⟨v1,v2,rfl⟩,s2,ys,hy,hp⟩
   have hil:i < r.length:=by
    have:=(List.getElem?_eq_some_iff.mp hi).1
    rwa [List.length_map] at this
   rw[List.getElem?_map] at hi
   cases hz:r[i]? with
   | none=>rw[hz] at hi;cases hi
   | some z =>
    rw[hz] at hi
    cases hi
    have hz4:z.length≤400:=Nat.le_trans (AJ (List.mem_of_getElem? hz)) hs
    have st:=aq (o:=HO.tup [.int (i:Int),.str z]) ht
    have hb:=aaf i (by omega)
    have hyl:=hp.length
    refine⟨t,_,rfl,aV.of aj,rfl,_,_,rfl,_,_,rfl,rfl,?_⟩
    have hy1:=st _ _ hy
    have hp1:=aH (fun a b h=>gc.mono st h) hp
    have s21:=s2.trans st
    generalize upd H2 t (HO.tup [.int (i:Int),.str z])=H3 at st hy1 hp1 s21 ⊢
    clear hp hy s2 st
    refine jD (t:=FF _ _ _) (fun σ' H'=>σ'=[some (.ref a),some (.ref l),some (.int (i:Int)),some (.str z)]∧aE H H'∧∃ ws,H' l=some (.lst ws)∧Paired (gc K H') ws (m8 r i++(if i=0 then [] else [rq]))) ?_ (fun go=>?_)
    rotate_left
    ·refine⟨_,rfl,_,_,rfl,rfl,_,rfl,bW (fun h=>?_) (fun h=>?_)⟩
     ·have h0:(0:Int) < i:=of_decide_eq_true h
      refine⟨_,rfl,.inl ⟨rfl,_,aU.of hy1⟩,l,ys,_,rfl,rfl,hy1,Nat.lt_of_le_of_lt (show ys.length≤420 by omega) (by decide),go _ _ ⟨rfl,aI hl s21,_,aj,?_⟩⟩
      rw[if_neg (by omega)]
      exact aH (fun a b h=>gc.but hy1 h) (rC hp1 ⟨(av 82),rfl,.inr T.SO⟩)
     ·have h0:i=0:=by
       have:¬(0:Int) < i:=fun q=>h (decide_eq_true q)
       omega
      refine go _ _ ⟨rfl,s21,ys,hy1,?_⟩
      rw[if_pos h0,List.append_nil]
      exact hp1
    clear hy1 hp1 s21 hyl
    rintro σ' H4 ⟨rfl,s4,ws,hw,hpw⟩
    have hwl:=hpw.length
    have ajz:ws.length≤421:=by
     rw[hwl,List.length_append]
     split
     ·simp;omega
     ·show _+1≤421;omega
    refine⟨_,rfl,.inl ⟨rfl,_,aU.of hw⟩,_,rfl,z,rfl,fun D hD=>?_⟩
    refine Ao (fun j zs τ H5=>(∃ v,τ=[v])∧aE H4 H5∧H5 D=some (.lst zs)∧Paired (gc K H5) zs ((z.cps.toList.take j).map fun c=>(Str.ofString "put",sg c))) ⟨⟨_,rfl⟩,aq hD,aj,.nil⟩ (fun j zs τ H5 _ p=>p.2.2.1) ?_ ?_
    ·rintro j c zs τ H5 hj ⟨⟨v,rfl⟩,s5,h5,Yx⟩
     have hjl:j < z.cps.toList.length:=(List.getElem?_eq_some_iff.mp hj).1
     rw[Array.length_toList] at hjl
     have hjl:j < z.length:=hjl
     have DP:=Yx.length
     rw[List.length_map,List.length_take] at DP
     refine qZ ?_
     refine⟨_,rfl,(by show 2≤sizeLine;decide),fun u hu5=>?_⟩
     have s6:=aq (o:=HO.tup [.str ("put":Str),.str (sg c)]) hu5
     refine⟨s6 _ _ h5,Nat.lt_of_le_of_lt (show zs.length≤400 by omega) (by decide),⟨_,rfl⟩,aI hD (s5.trans s6),aj,?_⟩
     rw[aS hj,List.map_append]
     exact aH (fun a b h=>gc.but (s6 _ _ h5) h) (rC (aH (fun a b h=>gc.mono s6 h) Yx) ⟨u,rfl,aV.of aj⟩)
    ·rintro zs τ H5 ⟨⟨v,rfl⟩,s5,h5,Yx⟩
     rw[List.take_of_length_le (Nat.le_refl _)] at Yx
     have DP:=Yx.length
     rw[List.length_map,Array.length_toList] at DP
     have DP:zs.length=z.length:=DP
     have hw5:=s5 _ _ hw
     refine⟨l,D,ws,zs,rfl,rfl,hw5,h5,Nat.le_trans (show ws.length+zs.length≤1000 by omega) (by decide),⟨_,_,rfl⟩,aI hl (s4.trans s5),_,aj,?_⟩
     rw[lQ hz,←List.append_assoc]
     exact aH (fun a b h=>gc.but hw5 h) (cj (aH (fun a b h=>gc.mono s5 h) hpw) Yx)
  ·rintro σ H2 ⟨⟨v1,v2,rfl⟩,s2,ys,hy,hp⟩
   rw[List.length_map] at hp
   have hb:=aaf r.length (Nat.le_refl _)
   have hyl:=hp.length
   refine⟨_,rfl,.inl ⟨rfl,_,aU.of hy⟩,l,ys,_,rfl,rfl,hy,Nat.lt_of_le_of_lt (show ys.length≤420 by omega) (by decide),?_⟩
   refine⟨_,rfl,k l _ _ hl aj ?_ (aI hl s2)⟩
   exact aH (fun a b h=>gc.but hy h) (rC hp ⟨(av 83),rfl,.inr T.VU⟩)
def iI:Sp:=fun vs H Q _=>∃ z:Str,vs=[.str z]∧z.length≤2000∧∀ H',aE H H'→Q (.bl (textOk z)) H'
theorem mT:aG P w K mg base bu 2 (av 8) (aJ 8) ["text"] iI:=by
 have mR:aG P w K mg base bu 1 (av 0) (aJ 0) ["sign"] kG:=qD T
 refine T.jb.ok uN (fun vs H Q E h=>?_) (fun cdv A outer s H vs Q E hr h=>?_)
 ·obtain⟨z,rfl,_⟩:=h;rfl
 ·have hu:=aX hr
  have gi:=hr.aN
  obtain⟨z,rfl,hz,k⟩:=h
  refine⟨_,(ak (ay (iS (jB K rfl rfl) T.uT (af (cS rfl (show bg ["text"] (au cM) ["sign"] 1 [] _ from Di) (qT (pv 0)) (fun _ _ _ _=>(jY 0 NS)) (fun _ _ _ _=>cK) (fun _ _ _ _=>(K3 (Cb bA (pv 0) (pP rfl T.qi.choose_spec)) (nU (dY mR hr T.rL T.mL.kp T.rK (af (pv 0) ah)))))) ah)))),?_⟩
  refine⟨_,rfl,z,rfl,fun D hD=>?_⟩
  have hsz:z.cps.toList.length=z.length:=by rw[Array.length_toList];rfl
  refine Ao (fun i ys τ H2=>(∃ v,τ=[v])∧aE H H2∧H2 D=some (.lst ys)∧ys=((z.cps.toList.take i).map Lq).map V.bl) ⟨⟨_,rfl⟩,aq hD,aj,rfl⟩ (fun i ys τ H2 _ p=>p.2.2.1) ?_ ?_
  ·rintro i c ys τ H2 hi ⟨⟨v,rfl⟩,s2,hl,rfl⟩
   have hil:i < z.cps.toList.length:=(List.getElem?_eq_some_iff.mp hi).1
   have hlen:(((z.cps.toList.take i).map Lq).map V.bl).length < sizeLine:=by
    rw[List.length_map,List.length_map,List.length_take]
    exact Nat.lt_of_le_of_lt (show min i z.cps.toList.length≤2000 by omega) (by decide)
   have fin:∀ b,b=Lq c→H2 D=some (.lst (((z.cps.toList.take i).map Lq).map V.bl))∧(((z.cps.toList.take i).map Lq).map V.bl).length < sizeLine∧(∃ v,[some (V.str (sg c))]=[v])∧aE H (upd H2 D (.lst (((z.cps.toList.take i).map Lq).map V.bl++[.bl b])))∧(upd H2 D (.lst (((z.cps.toList.take i).map Lq).map V.bl++[.bl b]))) D=some (.lst (((z.cps.toList.take i).map Lq).map V.bl++[.bl b]))∧((z.cps.toList.take i).map Lq).map V.bl++[.bl b]=((z.cps.toList.take (i+1)).map Lq).map V.bl:=fun b hb=>by
    refine⟨hl,hlen,⟨_,rfl⟩,aI hD s2,aj,?_⟩
    rw[aS hi,List.map_append,List.map_append,hb];rfl
   refine qZ ?_
   refine⟨_,rfl,rfl,_,rfl,bW (fun h=>?_) (fun h=>?_)⟩
   ·have h:decide (V.str (sg c)=V.str (BU 0))=true:=h
    have hc:c=10:=by
     have e:=of_decide_eq_true h
     rw[T.nG] at e
     have e2:sg c=sg 10:=(V.str.inj e).trans (by decide +kernel)
     have:=congrArg (fun z:Str=>z.cps.toList) e2
     exact(List.cons.inj (show [c]=[10] from this)).1
    exact fin true (by rw[hc];exact(decide_eq_true (.inl rfl)).symm)
   ·have hc:c≠10:=sgL T.nG h
    refine⟨_,rfl,c,rfl,fin _ ?_⟩
    unfold Lq
    by_cases hp:Pn c
    ·rw[decide_eq_true hp,decide_eq_true (.inr hp)]
    ·rw[decide_eq_false hp,decide_eq_false (fun z=>z.elim hc hp)]
  ·rintro ys τ H2 ⟨⟨v,rfl⟩,s2,hl,rfl⟩
   refine⟨D,(z.cps.toList.take z.cps.toList.length).map Lq,rfl,aU.of hl,?_⟩
   have e:((z.cps.toList.take z.cps.toList.length).map Lq).all id=textOk z:=by
    rw[List.take_of_length_le (Nat.le_refl _),List.all_map];rfl
   rw[e]
   exact k H2 s2
def By:Sp:=fun vs H Q _=>∃ z:Str,vs=[.str z]∧bU z∧z.length≤400∧∀ H',aE H H'→Q (.bl true) H'
theorem JM:aG P w K mg base bu 3 (av 9) (aJ 9) ["thing"] By:=by
 have ji:aG P w K mg base bu 2 (av 8) (aJ 8) ["text"] iI:=mT T
 refine T.DC.ok Jy (fun vs H Q E h=>?_) (fun cdv A outer s H vs Q E hr h=>?_)
 ·obtain⟨z,rfl,_⟩:=h;rfl
 ·have hu:=aX hr
  have gi:=hr.aN
  obtain⟨z,rfl,g,hz,k⟩:=h
  refine⟨_,(ai (aM (PW.pt (gP (bF (br (iS (cE K rfl) T.bf (af (pv 0) (af (Io "str" T.Bs) ah))))) (fm (fJ tR (iS bH T.bQ (af (pv 0) ah)) (nh rfl T.jf.choose_spec))))) (ak (ay dU)) aA)
   (ak (ay (dY ji hr T.nC T.jb.kp T.nu (af (pv 0) ah))))),?_⟩
  refine⟨_,rfl,_,_,_,true,rfl,.str _,.inl ⟨_,rfl,rfl⟩,true,rfl,dF ?_⟩
  refine⟨_,rfl,z,rfl,Nat.le_trans hz (by decide),_,_,rfl,rfl,_,rfl,Pk (by omega) ?_⟩
  refine⟨_,rfl,z,rfl,by omega,?_⟩
  have e:textOk z=true:=by
   have:=LB g (show z.length≤2000 by omega)
   have this:(decide (z.length≤2000) && textOk z)=true:=this
   rw[Bool.and_eq_true] at this
   exact this.2
  rw[e]
  exact k
def DQ (K:W.Frag):Sp:=fun vs H Q _=>∃(a:Addr) (r:List Str),vs=[.ref a]∧H a=some (.lst (r.map V.str))∧(∀ c∈r,bU c)∧(lens r).sum≤400∧r.length≤1000∧∀ H',aE H H'→Q (.bl (Ez r)) H'
theorem MQ:aG P w K mg base bu 4 (av 10) (aJ 10) ["thing"] (DQ K):=by
 have MR:aG P w K mg base bu 3 (av 9) (aJ 9) ["thing"] By:=JM T
 refine T.Hi.ok MG (fun vs H Q E h=>?_) (fun cdv A outer s H vs Q E hr h=>?_)
 ·obtain⟨a,r,rfl,_⟩:=h;rfl
 ·have hu:=aX hr
  have gi:=hr.aN
  obtain⟨a,r,rfl,ha,g,hs,hrl,k⟩:=h
  have hml:(r.map V.str).length=r.length:=List.length_map ..
  refine⟨_,(ai (aM (PW.pt (gP (bF (br (iS (qV K rfl) T.bf (af (pv 0) (af (Io "list" T.sQ) ah))))) (gP (fJ Aj (iS (aT K rfl) T.bQ (af (pv 0) ah)) ao) (fm (fJ tR (iS (aT K rfl) T.bQ (af (pv 0) ah)) (nh rfl T.Cv.choose_spec)))))) (ak (ay dU)) aA)
   (ak (ay (iS (jB K rfl rfl) T.uT (af (cS rfl (show bg ["thing"] (au oM) ["cell"] 1 [] _ from Di) (bZ K rfl (pv 0)) (fun _ _ _ _=>(jY 0 NS)) (fun _ _ _ _=>cK) (fun _ _ _ _=>(dY MR hr T.MI T.DC.kp T.MH (af (pv 0) ah)))) ah))))),?_⟩
  refine⟨_,rfl,a,_,_,true,rfl,.inr ⟨aU.of ha,rfl⟩,true,rfl,dF ?_⟩
  refine⟨_,rfl,a,_,rfl,.inl (aU.of ha),_,_,rfl,rfl,_,rfl,rd2 (fun h1=>?_) (fun h1=>?_)⟩
  ·rw[PY (by omega)] at k
   exact lU (k H (aE.refl _))
  refine⟨_,rfl,a,_,rfl,.inl (aU.of ha),_,_,rfl,rfl,_,rfl,rd2 (fun h2=>?_) (fun h2=>?_)⟩
  ·rw[PY (by omega)] at k
   exact k H (aE.refl _)
  rw[PX (by omega) (by omega)] at k
  refine⟨_,rfl,a,rfl,⟨_,aU.of ha⟩,fun D hD=>?_⟩
  refine cL (K:=K) (a:=a) (xs:=r.map V.str) (fun i ys τ H2=>(∃ v,τ=[v])∧aE H H2∧H2 D=some (.lst ys)∧ys=(List.replicate i true).map V.bl) ⟨⟨_,rfl⟩,aq hD,aj,rfl⟩ (fun i ys τ H2 _ p=>⟨aU.of (p.2.1 _ _ ha),p.2.2.1⟩) ?_ ?_
  ·rintro i e ys τ H2 hi ⟨⟨v,rfl⟩,s2,hl,rfl⟩
   have hil:i < (r.map V.str).length:=(List.getElem?_eq_some_iff.mp hi).1
   obtain⟨z,hz,rfl⟩:∃ z∈r,e=V.str z:=by
    obtain⟨z,hz,e2⟩:=List.mem_map.mp (List.mem_of_getElem? hi)
    exact⟨z,hz,e2.symm⟩
   refine qZ ?_
   refine⟨_,rfl,z,rfl,g z hz,Nat.le_trans (AJ hz) hs,fun H3 s3=>⟨s3 _ _ hl,?_,⟨_,rfl⟩,aI hD (s2.trans s3),aj,?_⟩⟩
   ·rw[List.length_map,List.length_replicate]
    exact Nat.lt_of_lt_of_le (show i < 1001 by (rw[List.length_map] at hil;omega)) (by decide)
   ·rw[List.replicate_succ',List.map_append];rfl
  ·rintro ys τ H2 ⟨⟨v,rfl⟩,s2,hl,rfl⟩
   refine⟨D,List.replicate _ true,rfl,aU.of hl,?_⟩
   have e:(List.replicate (r.map V.str).length true).all id=true:=by
    rw[List.all_eq_true]
    intro b hb
    exact(List.mem_replicate.mp hb).2
   rw[e]
   exact k H2 s2
def qF (K:W.Frag):Sp:=fun vs H Q _=>∃(a:Addr) (r:List Str),vs=[.ref a]∧H a=some (.lst (r.map V.str))∧r.length≤20∧(lens r).sum≤400∧∀ H',aE H H'→Q (.int ((lens r).sum:Nat)) H'
theorem zE:aG P w K mg base bu 1 (av 11) (aJ 11) ["row"] (qF K):=by
 refine T.rM.ok zm (fun vs H Q E h=>?_) (fun cdv A outer s H vs Q E hr h=>?_)
 ·obtain⟨a,r,rfl,_⟩:=h;rfl
 ·have hu:=aX hr
  have gi:=hr.aN
  obtain⟨a,r,rfl,ha,hr,hs,k⟩:=h
  refine⟨_,(ak (ay (iS (C7 K rfl rfl) T.QJ (af (cS rfl (show bg ["row"] (au eH) ["cell"] 1 [] _ from Di) (bZ K rfl (pv 0)) (fun _ _ _ _=>(jY 0 NS)) (fun _ _ _ _=>cK) (fun _ _ _ _=>(iS bH T.bQ (af (pv 0) ah)))) ah)))),?_⟩
  refine⟨_,rfl,a,rfl,⟨_,aU.of ha⟩,fun D hD=>?_⟩
  refine cL (K:=K) (a:=a) (xs:=r.map V.str) (fun i ys τ H2=>(∃ v,τ=[v])∧aE H H2∧H2 D=some (.lst ys)∧ys=((lens r).take i).map fun n:Nat=>V.int n) ⟨⟨_,rfl⟩,aq hD,aj,rfl⟩ (fun i ys τ H2 _ p=>⟨aU.of (p.2.1 _ _ ha),p.2.2.1⟩) ?_ ?_
  ·rintro i e ys τ H2 hi ⟨⟨v,rfl⟩,s2,hl,rfl⟩
   rw[List.getElem?_map] at hi
   cases hz:r[i]? with
   | none=>rw[hz] at hi;cases hi
   | some z =>
    rw[hz] at hi
    cases hi
    have hzr:=List.mem_of_getElem? hz
    have hz4:=Nat.le_trans (AJ hzr) hs
    refine qZ ?_
    refine⟨_,rfl,z,rfl,Nat.le_trans hz4 (by decide),hl,?_,⟨_,rfl⟩,aI hD s2,aj,?_⟩
    ·rw[List.length_map,List.length_take]
     unfold lens;rw[List.length_map]
     exact Nat.lt_of_le_of_lt (show _≤20 by omega) (by decide)
    ·rw[aS (l:=lens r) (c:=z.length) (by unfold lens;rw[List.getElem?_map,hz];rfl),List.map_append];rfl
  ·rintro ys τ H2 ⟨⟨v,rfl⟩,s2,hl,rfl⟩
   refine⟨D,lens r,rfl,?_,by omega,k H2 s2⟩
   have e:(lens r).take (r.map V.str).length=lens r:=List.take_of_length_le (by unfold lens;rw[List.length_map,List.length_map];exact Nat.le_refl _)
   rw[e] at hl
   exact aU.of hl
def yW (K:W.Frag):Sp:=fun vs H Q _=>∃(a:Addr) (xs:List V) (t:List (List Str)),vs=[.ref a]∧H a=some (.lst xs)∧Paired (bP H) xs t∧VG t∧∀ H',aE H H'→Q (.bl (AQ t)) H'
theorem HC:aG P w K mg base bu 5 (av 12) (aJ 12) ["thing"] (yW K):=by
 have QK:aG P w K mg base bu 4 (av 10) (aJ 10) ["thing"] (DQ K):=MQ T
 have BA:aG P w K mg base bu 1 (av 11) (aJ 11) ["row"] (qF K):=zE T
 refine T.Bj.ok Hf (fun vs H Q E h=>?_) (fun cdv A outer s H vs Q E hr h=>?_)
 ·obtain⟨a,xs,t,rfl,_⟩:=h;rfl
 ·have hu:=aX hr
  have gi:=hr.aN
  obtain⟨a,xs,t,rfl,ha,tr,g,k⟩:=h
  have hn:=g.n
  have hlx:=tr.length
  refine⟨_,(ai (aM (PW.pt (gP (bF (br (iS (qV K rfl) T.bf (af (pv 0) (af (Io "list" T.sQ) ah))))) (fm (fJ tR (iS (aT K rfl) T.bQ (af (pv 0) ah)) (nh rfl T.EY.choose_spec))))) (ak (ay dU)) aA)
   (ai (aM (bF (br (iS (jB K rfl rfl) T.uT (af (cS rfl (show bg ["thing"] (au iB) ["row"] 1 [] _ from Di) (bZ K rfl (pv 0)) (fun _ _ _ _=>(jY 0 NS)) (fun _ _ _ _=>cK) (fun _ _ _ _=>(dY QK hr T.Qv T.Hi.kp T.Qu (af (pv 0) ah)))) ah)))) (ak (ay dU)) aA)
   (ak (ay (Cb Oa (iS (C7 K rfl rfl) T.QJ (af (cS rfl (show bg ["thing"] (au iB) ["row"] 1 [] _ from Di) (bZ K rfl (pv 0)) (fun _ _ _ _=>(jY 0 NS)) (fun _ _ _ _=>cK) (fun _ _ _ _=>(dY BA hr T.Bh T.rM.kp T.Bg (af (pv 0) ah)))) ah)) (nh rfl T.jf.choose_spec)))))),?_⟩
  refine⟨_,rfl,a,_,_,true,rfl,.inr ⟨aU.of ha,rfl⟩,true,rfl,dF ?_⟩
  refine⟨_,rfl,a,_,rfl,.inl (aU.of ha),_,_,rfl,rfl,_,rfl,rd2 (fun h1=>?_) (fun h1=>?_)⟩
  ·have e:AQ t=false:=by unfold AQ;rw[decide_eq_false (by omega)];rfl
   rw[e] at k
   exact k H (aE.refl _)
  refine⟨_,rfl,a,rfl,⟨_,aU.of ha⟩,fun D hD=>?_⟩
  refine cL (K:=K) (a:=a) (xs:=xs) (fun i ys τ H2=>(∃ v,τ=[v])∧aE H H2∧H2 D=some (.lst ys)∧ys=((t.take i).map Ez).map V.bl) ⟨⟨_,rfl⟩,aq hD,aj,rfl⟩ (fun i ys τ H2 _ p=>⟨aU.of (p.2.1 _ _ ha),p.2.2.1⟩) ?_ ?_
  ·rintro i e ys τ H2 hi ⟨⟨v,rfl⟩,s2,hl,rfl⟩
   have hil:i < xs.length:=(List.getElem?_eq_some_iff.mp hi).1
   obtain⟨r,hr,b,rfl,hb⟩:=aQ tr i e hi
   have QL:=List.mem_of_getElem? hr
   refine qZ ?_
   refine⟨_,rfl,b,r,rfl,s2 _ _ hb,g.ok r QL,Nat.le_trans (vL QL) g.sum,g.rl r QL,fun H3 s3=>⟨s3 _ _ hl,?_,⟨_,rfl⟩,aI hD (s2.trans s3),aj,?_⟩⟩
   ·rw[List.length_map,List.length_map,List.length_take]
    exact Nat.lt_of_le_of_lt (show _≤1000 by omega) (by decide)
   ·rw[aS hr,List.map_append,List.map_append];rfl
  ·rintro ys τ H2 ⟨⟨v,rfl⟩,s2,hl,rfl⟩
   rw[hlx,List.take_of_length_le (Nat.le_refl _)] at hl
   refine⟨D,t.map Ez,rfl,aU.of hl,?_⟩
   have ea:(t.map Ez).all id=t.all Ez:=by rw[List.all_map];rfl
   rw[ea]
   cases hA:t.all Ez with
   | false =>
    have e:AQ t=false:=by unfold AQ;rw[hA,Bool.and_false]
    rw[e] at k
    exact⟨_,rfl,lU (k H2 s2)⟩
   | true =>
    have hB:AQ t=true:=by unfold AQ;rw[hA,decide_eq_true (by omega)];rfl
    have gok:=Ss g hB
    rw[hB] at k
    refine⟨true,rfl,dF ?_⟩
    clear hl
    have ha2:=s2 _ _ ha
    refine⟨_,rfl,a,rfl,⟨_,aU.of ha2⟩,fun E hE=>?_⟩
    refine cL (K:=K) (a:=a) (xs:=xs) (fun i ys τ H3=>(∃ v,τ=[v])∧aE H2 H3∧H3 E=some (.lst ys)∧ys=((t.map fun r=>(lens r).sum).take i).map fun n:Nat=>V.int n) ⟨⟨_,rfl⟩,aq hE,aj,rfl⟩ (fun i ys τ H3 _ p=>⟨aU.of (p.2.1 _ _ ha2),p.2.2.1⟩) ?_ ?_
    ·rintro i e ys τ H3 hi ⟨⟨v,rfl⟩,s3,hl,rfl⟩
     obtain⟨r,hr,b,rfl,hb⟩:=aQ tr i e hi
     have QL:=List.mem_of_getElem? hr
     have hil:i < xs.length:=(List.getElem?_eq_some_iff.mp hi).1
     refine qZ ?_
     refine⟨_,rfl,b,r,rfl,s3 _ _ (s2 _ _ hb),(gok.rows r QL).hi,Nat.le_trans (vL QL) gok.sum,fun H4 s4=>⟨s4 _ _ hl,?_,⟨_,rfl⟩,aI hE (s3.trans s4),aj,?_⟩⟩
     ·rw[List.length_map,List.length_take,List.length_map]
      exact Nat.lt_of_le_of_lt (show _≤60 by omega) (by decide)
     ·rw[aS (l:=t.map fun r=>(lens r).sum) (c:=(lens r).sum) (by rw[List.getElem?_map,hr];rfl),List.map_append];rfl
    ·rintro ys τ H3 ⟨⟨v,rfl⟩,s3,hl,rfl⟩
     have e:(t.map fun r=>(lens r).sum).take xs.length=t.map fun r=>(lens r).sum:=List.take_of_length_le (by rw[List.length_map,hlx];exact Nat.le_refl _)
     rw[e] at hl
     have hsum:=gok.sum
     refine⟨E,t.map fun r=>(lens r).sum,rfl,aU.of hl,by unfold total at hsum;omega,_,_,rfl,rfl,?_⟩
     have e2:decide ((((t.map fun r=>(lens r).sum).sum:Nat):Int)≤400)=true:=decide_eq_true (by unfold total at hsum;omega)
     have q:=k H3 (s2.trans s3)
     rw[←e2] at q
     exact q
def rY (K:W.Frag):Sp:=fun vs H Q _=>∃(a:Addr) (xs:List V) (t:List (List Str)),vs=[.ref a]∧H a=some (.lst xs)∧Paired (bP H) xs t∧TabOk t∧∀ H',aE H H'→Q .non H'
theorem BB:aG P w K mg base bu 6 (av 13) (aJ 13) ["thing"] (rY K):=by
 have JN:aG P w K mg base bu 5 (av 12) (aJ 12) ["thing"] (yW K):=HC T
 refine T.t6.ok A6 (fun vs H Q E h=>?_) (fun cdv A outer s H vs Q E hr h=>?_)
 ·obtain⟨a,xs,t,rfl,_⟩:=h;rfl
 ·have hu:=aX hr
  have gi:=hr.aN
  obtain⟨a,xs,t,rfl,ha,tr,g,k⟩:=h
  refine⟨_,(ak (aM (bF (br (dY JN hr T.JE T.Bj.kp T.JD (af (pv 0) ah)))) (ak gQ) aA)),?_⟩
  exact⟨_,rfl,a,xs,t,rfl,ha,tr,g.s,fun H1 s1=>⟨_,rfl,Po (Su g) (k _ s1)⟩⟩
def lC (K:W.Frag):Sp:=fun vs H Q _=>∃(a:Addr) (xs:List V) (t:List (List Str)),vs=[.ref a]∧H a=some (.lst xs)∧Paired (bP H) xs t∧TabOk t∧∀(l:Addr) (ys:List V) H',H l=none→H' l=some (.lst ys)→Paired (gc K H') ys (aB t)→aE H H'→Q (.ref l) H'
theorem qj:aG P w K mg base bu 7 (av 14) (aJ 14) ["table"] (lC K):=by
 have Cy:aG P w K mg base bu 6 (av 13) (aJ 13) ["thing"] (rY K):=BB T
 have zF:aG P w K mg base bu 1 (av 7) (aJ 7) ["row"] (pB K):=ye T
 refine T.nD.ok pY (fun vs H Q E h=>?_) (fun cdv A outer s H vs Q E hr h=>?_)
 ·obtain⟨a,xs,t,rfl,_⟩:=h;rfl
 ·have hu:=aX hr
  have gi:=hr.aN
  obtain⟨a,xs,t,rfl,ha,tr,g,k⟩:=h
  have hlx:=tr.length
  refine⟨_,(ai (cR (dY Cy hr T.Cn T.t6.kp T.Ck (af (pv 0) ah)))
   (ai (dW 1 pY.nd (bB ah))
   (ai (fq PassesOwn.never rfl (bZ K rfl (pv 0)) (jY 2 pY.nd)
   (ak (cR (cO K rfl PySem.F.plainAttrs_list PySem.F.slot_list_extend PySem.F.type_list_extend xw (pv 1) (af (dY zF hr T.zu T.qz.kp T.zq (af (pv 2) ah)) ah)))))
   (ak (ay (pv 1)))))),?_⟩
  refine⟨_,rfl,a,xs,t,rfl,ha,tr,g,fun H1 s1=>?_⟩
  refine⟨by decide,fun l hl=>?_⟩
  have s0:=s1.trans (aq (o:=HO.lst []) hl)
  have xj:H l=none:=s1.free hl
  refine⟨_,rfl,a,rfl,⟨_,aU.of (s0 _ _ ha)⟩,?_⟩
  refine qQ (K:=K) (a:=a) (xs:=xs) (fun i σ H2=>(∃ v,σ=[some (.ref a),some (.ref l),v])∧aE H H2∧∃ ys,H2 l=some (.lst ys)∧Paired (gc K H2) ys (aB (t.take i))) ⟨⟨_,rfl⟩,s0,[],aj,.nil⟩ (fun i σ H2 _ q=>aU.of (q.2.1 _ _ ha)) ?_ ?_
  ·rintro i e σ H2 hi ⟨⟨v,rfl⟩,s2,ys,hy,hp⟩
   obtain⟨r,hr,b,rfl,hb⟩:=aQ tr i e hi
   have QL:=List.mem_of_getElem? hr
   have b1:=GJ g i
   have b2:=GJ g (i+1)
   rw[aS hr,rz,List.length_append] at b2
   have hyl:=hp.length
   refine⟨_,rfl,.inl ⟨rfl,_,aU.of hy⟩,_,rfl,b,r,rfl,s2 _ _ hb,(g.rows r QL).hi,Nat.le_trans (vL QL) g.sum,fun m zs H3 hm h3 hp3 s3=>?_⟩
   have DP:=hp3.length
   have Yy:=s3 _ _ hy
   refine⟨l,m,ys,zs,rfl,rfl,Yy,h3,Nat.le_trans (show ys.length+zs.length≤1600 by omega) (by decide),⟨_,rfl⟩,aI xj (s2.trans s3),_,aj,?_⟩
   rw[aS hr,rz]
   exact aH (fun a b h=>gc.but Yy h) (cj (aH (fun a b h=>gc.mono s3 h) hp) hp3)
  ·rintro σ H2 ⟨⟨v,rfl⟩,s2,ys,hy,hp⟩
   rw[hlx,List.take_of_length_le (Nat.le_refl _)] at hp
   exact⟨_,rfl,k l ys H2 xj hy hp s2⟩
def E1:Sp:=fun vs H Q _=>∃ z:Str,vs=[.str z]∧z.length≤4000∧Q (.str (rD z)) H
theorem LJ:aG P w K mg base bu 1 (av 15) (aJ 15) ["text"] E1:=by
 refine T.JF.ok Ah (fun vs H Q E h=>?_) (fun cdv A outer s H vs Q E hr h=>?_)
 ·obtain⟨z,rfl,_⟩:=h;rfl
 ·have hu:=aX hr
  have gi:=hr.aN
  obtain⟨z,rfl,hz4,k⟩:=h
  have e0:Str.ofString "" = ⟨(cZ []).toArray⟩:=by decide +kernel
  have e0:([some (V.str z),some (V.str ("":Str)),none]:St)=[some (.str z),some (.str ⟨(cZ []).toArray⟩),none]:=by rw[e0]
  refine⟨_,(ai (dW 1 Ah.nd az)
   (ai (fq PassesOwn.never rfl (qT (pv 0)) (jY 2 Ah.nd)
   (ak (aM (ic kY (pv 2) (pv 1) rfl) (ak (dW 1 Ah.nd (aO bY (pv 1) (pv 2)))) aA)))
   (ak (ay (pv 1))))),?_⟩
  refine⟨_,rfl,_,rfl,?_⟩
  unfold rD at k
  refine vt (fun i σ H2=>H2=H∧∃ v,σ=[some (.str z),some (.str ⟨(cZ (z.cps.toList.take i)).toArray⟩),v]) ⟨rfl,none,by rw[List.take_zero];exact e0⟩ ?_ ?_
  ·rintro i c σ H2 hi ⟨rfl,v,rfl⟩
   have hl:(cZ (z.cps.toList.take i)).length≤4000:=by
    refine Nat.le_trans (Dp _) ?_
    rw[List.length_take,Array.length_toList]
    have:z.cps.size≤4000:=hz4
    omega
   refine⟨_,rfl,_,rfl,_,_,rfl,rfl,_,rfl,?_⟩
   refine bW (fun ha=>?_) (fun ha=>?_)
   ·have ha':away ⟨(cZ (z.cps.toList.take i)).toArray⟩ c=true:=ha
    refine⟨_,rfl,_,rfl,_,_,rfl,rfl,?_,rfl,some (.str (sg c)),?_⟩
    ·refine Nat.le_trans (show _≤4001 from ?_) (by decide)
     show Array.size _+1≤4001
     rw[List.size_toArray];omega
    ·rw[take_snoc hi,mE]
     unfold gu
     rw[if_pos ha',←Le]
     rfl
   ·have ha':¬away ⟨(cZ (z.cps.toList.take i)).toArray⟩ c=true:=ha
    refine⟨rfl,some (.str (sg c)),?_⟩
    rw[take_snoc hi,mE]
    unfold gu
    rw[if_neg ha']
    rfl
  ·rintro σ H2 ⟨rfl,v,rfl⟩
   refine⟨_,rfl,?_⟩
   rw[List.take_of_length_le (Nat.le_refl _)]
   exact k
def mU (C:Addr):Sp:=fun vs H Q _=>∃(x dx:Addr) (p q f:Str) (b1 b2 b3 b4:Bool),vs=[.ref x]∧H x=some (.ins C dx (AF p q f b1 b2 b3 b4))∧Gd p q f∧Q (.str (rD ((p++q)++f))) H
theorem uV:aG P w K mg base bu 2 (av 16) (aJ 16) ["self"] (mU (av 67)):=by
 have JO:aG P w K mg base bu 1 (av 15) (aJ 15) ["text"] E1:=LJ T
 refine T.wc.ok uO (fun vs H Q E h=>?_) (fun cdv A outer s H vs Q E hr h=>?_)
 ·obtain⟨x,dx,p,q,f,b1,b2,b3,b4,rfl,_⟩:=h;rfl
 ·have hu:=aX hr
  have gi:=hr.aN
  obtain⟨x,dx,p,q,f,b1,b2,b3,b4,rfl,hx,g,k⟩:=h
  have hp3:=g.p3;have hq2:=g.q2;have hf2:=g.f2
  refine⟨_,(ak (ay (dY JO hr T.Qx T.JF.kp T.Qw (af (aO bY (aO bY (aR K rfl (pv 0) rfl) (aR K rfl (pv 0) rfl)) (aR K rfl (pv 0) rfl)) ah)))),?_⟩
  refine⟨_,rfl,x,(av 67),dx,_,_,rfl,hx,T.aK,T.cy,rfl,_,rfl,x,(av 67),dx,_,_,rfl,hx,T.aK,T.bS,rfl,_,_,rfl,rfl,Nat.le_trans (show p.length+q.length≤5 by omega) (by decide),_,rfl,x,(av 67),dx,_,_,rfl,hx,T.aK,T.bN,rfl,_,_,rfl,rfl,?_,_,rfl,?_,k⟩
  ·rw[cg];exact Nat.le_trans (show p.length+q.length+f.length≤7 by omega) (by decide)
  ·rw[cg,cg];omega
def kW (K:W.Frag) (C:Addr):Sp:=fun vs H Q _=>∃(y dy a o:Addr) (xs os:List V) (t:List (List Str)) (x:bI) (cs:List bI),vs=[.ref y,.ref a,.ref o]∧H y=some (.ins C dy (Cd x))∧nk x∧H a=some (.lst xs)∧Paired (bP H) xs t∧TabOk t∧H o=some (.lst os)∧xm C H os cs∧(∀ c∈cs,nk c)∧cs.length≤20∧∀ H',aE H H'→Q (.str (fZ (x :: cs) t)) H'
theorem tO:aG P w K mg base bu 3 (av 17) (aJ 17) ["dialect", "table", "others"] (kW K (av 67)):=by
 have wG:aG P w K mg base bu 2 (av 16) (aJ 16) ["self"] (mU (av 67)):=uV T
 have JO:aG P w K mg base bu 1 (av 15) (aJ 15) ["text"] E1:=LJ T
 refine T.mP.ok gM (fun vs H Q E h=>?_) (fun cdv A outer s H vs Q E hr h=>?_)
 ·obtain⟨y,dy,a,o,xs,os,t,x,cs,rfl,_⟩:=h;rfl
 ·have hu:=aX hr
  have gi:=hr.aN
  obtain⟨y,dy,a,o,xs,os,t,x,cs,rfl,hy,gx,ha,pr,tok,ho,mk,gs,hcl,k⟩:=h
  have szb:10000≤sizeLine:=by decide
  refine⟨_,(ai (dW 3 gM.nd (cO K rfl PySem.F.plainAttrs_str PySem.F.slot_str_join PySem.F.type_str_join (lX K rfl) az (af (cS rfl (show bg ["dialect", "table", "others", "special", "cells"] (au bO) ["each"] 1 [] _ from Di) (bZ K rfl (aO Ot (bB (af (pv 0) ah)) (pv 2))) (fun _ _ _ _=>(jY 0 NS)) (fun _ _ _ _=>cK) (fun _ _ _ _=>(FH (k:=2) (pv 0) T.aK T.wj wG (hr.mono (by decide)) T.wg .nil gh))) ah)))
   (ai (dW 4 gM.nd (cO K rfl PySem.F.plainAttrs_str PySem.F.slot_str_join PySem.F.type_str_join (lX K rfl) az (af (cS rfl (show bg ["dialect", "table", "others", "special", "cells"] (au bO) ["row"] 1 [] _ from Di) (bZ K rfl (pv 1)) (fun _ _ _ _=>(jY 0 NS)) (fun _ _ _ _=>cK) (fun _ _ _ _=>(cO K rfl PySem.F.plainAttrs_str PySem.F.slot_str_join PySem.F.type_str_join (lX K rfl) az (af (pv 0) ah)))) ah)))
   (ak (ay (dY JO hr T.Qx T.JF.kp T.Qw (af (aO bY (aO bY (aO bY (pv 3) (pP rfl T.qi.choose_spec)) az) (pv 4)) ah)))))),?_⟩
  have mkl:=mk.length
  refine⟨rfl,_,rfl,(by show(1:Nat)≤sizeLine;decide),fun l0 xj=>⟨_,rfl,l0,o,_,_,rfl,rfl,aj,aq xj _ _ ho,(by show 1+os.length≤sizeLine;omega),fun L hL=>⟨L,rfl,⟨_,aU.of aj⟩,fun D hD=>?_⟩⟩⟩
  have f1:=(aq (o:=HO.lst [.ref y]) xj).trans (aq (o:=HO.lst ([V.ref y]++os)) hL)
  have w1:=aj (H:=upd H l0 (HO.lst [.ref y])) (a:=L) (o:=HO.lst ([V.ref y]++os))
  generalize upd (upd H l0 (HO.lst [.ref y])) L (HO.lst ([V.ref y]++os))=H2 at f1 w1 hD ⊢
  have mk2:xm (av 67) H2 ([V.ref y]++os) (x :: cs):=.cons ⟨y,dy,rfl,f1 _ _ hy⟩ (xm.mono f1 mk)
  have Up:∀ c∈x :: cs,nk c:=fun c hc=>by
   rcases List.mem_cons.mp hc with q | q
   ·rw[q];exact gx
   ·exact gs c q
  refine cL (K:=K) (a:=L) (xs:=[V.ref y]++os) (fun i vs τ J=>(∃ v,τ=[v])∧aE H2 J∧J D=some (.lst vs)∧vs=((x :: cs).take i).map fun c=>V.str (zk c)) ⟨⟨_,rfl⟩,aq hD,aj,rfl⟩ (fun i vs τ J _ p=>⟨aU.of (p.2.1 _ _ w1),p.2.2.1⟩) ?_ ?_
  ·rintro i e vs τ J hi ⟨⟨v,rfl⟩,sJ,hJ,hvs⟩
   obtain⟨x',hx',y',SQ,rfl,hy'⟩:=aQ mk2 i e hi
   have hvl:vs.length≤i:=by rw[hvs,List.length_map,List.length_take];omega
   have hil:i < ([V.ref y]++os).length:=(List.getElem?_eq_some_iff.mp hi).1
   rw[List.length_append] at hil
   have hil:i < 1+os.length:=hil
   refine qZ ⟨_,rfl,_,_,_,rfl,sJ _ _ hy',rfl,y',SQ,_,_,_,_,_,_,_,rfl,sJ _ _ hy',Up x' (List.mem_of_getElem? hx'),?_⟩
   refine⟨hJ,Nat.lt_of_le_of_lt (show vs.length≤100 by omega) (by decide),⟨_,rfl⟩,aI hD sJ,aj,?_⟩
   rw[aS hx',List.map_append,←hvs]
   rfl
  rintro vs τ J ⟨⟨v,rfl⟩,sJ,hJ,hvs⟩
  rw[List.take_of_length_le (by rw[List.length_append,List.length_cons];show cs.length+1≤1+os.length;omega)] at hvs
  subst hvs
  have hjl:=ED Up
  rw[List.length_cons] at hjl
  have e0:("":Str).length=0:=by decide +kernel
  have s3:=f1.trans sJ
  refine⟨_,D,(x :: cs).map zk,rfl,rfl,(by rw[List.map_map];exact aU.of hJ),(by rw[e0];omega),?_⟩
  have jl:=oZ ((x :: cs).map zk)
  have kk:∀ H',aE H H'→Q (.str (rD (((Txt.join ("":Str) ((x :: cs).map zk)++Str.ofString "\n")++Str.ofString " ")++Txt.join ("":Str) (t.map (Txt.join ("":Str)))))) H':=k
  clear k
  generalize Txt.join ("":Str) ((x :: cs).map zk)=S1 at jl kk ⊢
  dsimp only[bK]
  have tl:=pr.length
  have tn:=tok.n
  have ajA:=tok.sum
  refine⟨rfl,_,rfl,_,rfl,⟨_,aU.of (s3 _ _ ha)⟩,fun D2 hD2=>?_⟩
  refine cL (K:=K) (a:=a) (xs:=xs) (fun i vs τ G=>(∃ v,τ=[v])∧aE J G∧G D2=some (.lst vs)∧vs=(t.take i).map fun r=>V.str (Txt.join ("":Str) r)) ⟨⟨_,rfl⟩,aq hD2,aj,rfl⟩ (fun i vs τ G _ p=>⟨aU.of (p.2.1 _ _ (s3 _ _ ha)),p.2.2.1⟩) ?_ ?_
  ·rintro i e vs τ G hi ⟨⟨v,rfl⟩,sG,hG,hvs⟩
   obtain⟨r,hr',ra,rfl,hra⟩:=aQ pr i e hi
   have hvl:vs.length≤i:=by rw[hvs,List.length_map,List.length_take];omega
   have hil:i < xs.length:=(List.getElem?_eq_some_iff.mp hi).1
   have rs:=vL (List.mem_of_getElem? hr')
   refine qZ ⟨rfl,_,rfl,_,ra,r,rfl,rfl,aU.of (sG _ _ (s3 _ _ hra)),(by rw[e0];show(lens r).sum+_≤_;omega),?_⟩
   refine⟨hG,Nat.lt_of_le_of_lt (show vs.length≤100 by omega) (by decide),⟨_,rfl⟩,aI hD2 sG,aj,?_⟩
   rw[aS hr',List.map_append,←hvs]
   rfl
  rintro vs τ G ⟨⟨v,rfl⟩,sG,hG,hvs⟩
  rw[List.take_of_length_le (by omega)] at hvs
  subst hvs
  have ajB:=xM t
  have jl2:=oZ (t.map (Txt.join ("":Str)))
  refine⟨_,D2,t.map (Txt.join ("":Str)),rfl,rfl,(by rw[List.map_map];exact aU.of hG),(by rw[e0];omega),?_⟩
  generalize Txt.join ("":Str) (t.map (Txt.join ("":Str)))=S2 at jl2 kk ⊢
  dsimp only[bK]
  have n1:(Str.ofString "\n").length=1:=by decide +kernel
  have n2:(" ":Str).length=1:=by decide +kernel
  have a1:=cg S1 (Str.ofString "\n")
  have a2:=cg (S1++Str.ofString "\n") (" ":Str)
  have a3:=cg ((S1++Str.ofString "\n")++Str.ofString " ") S2
  have kq:=kk G (s3.trans sG)
  have eL:(BU 0)=Str.ofString "\n" := T.nG
  rw[←eL] at a1 a2 a3 n1 kq
  exact⟨_,rfl,_,_,rfl,rfl,by omega,_,_,rfl,rfl,by omega,_,rfl,_,_,rfl,rfl,by omega,_,rfl,by omega,kq⟩
def iJ (K:W.Frag) (C CT CM CP:Addr):Sp:=fun vs H Q _=>∃(q dq:Addr) (y dy a o:Addr) (xs os:List V) (t:List (List Str)) (x:bI) (cs:List bI),vs=[.ref q,.ref y,.ref a,.ref o]∧H q=some (.ins CP dq [])∧H y=some (.ins C dy (Cd x))∧nk x∧H a=some (.lst xs)∧Paired (bP H) xs t∧TabOk t∧H o=some (.lst os)∧xm C H os cs∧(∀ c∈cs,nk c)∧cs.length≤20∧∀ H',AS K C CT CM CP H' q x cs (aB t) (fZ (x :: cs) t)→(∀ b o,H b=some o→b≠q→H' b=some o)→Q .non H'
theorem mV:aG P w K mg base bu 10 (av 18) (aJ 18) ["self", "dialect", "table", "others"] (iJ K (av 67) (av 68) (av 69) (av 70)):=by
 have nH:aG P w K mg base bu 8 (av 6) (aJ 6) ["self", "dialect", "tokens"] (mS K (av 67) (av 68) (av 69)):=uU T
 have uW:aG P w K mg base bu 3 (av 17) (aJ 17) ["dialect", "table", "others"] (kW K (av 67)):=tO T
 have ku:aG P w K mg base bu 7 (av 14) (aJ 14) ["table"] (lC K):=qj T
 refine T.wk.ok mH (fun vs H Q E h=>?_) (fun cdv A outer s H vs Q E hr h=>?_)
 ·obtain⟨q,dq,y,dy,a,o,xs,os,t,x,cs,rfl,_⟩:=h;rfl
 ·have hu:=aX hr
  have gi:=hr.aN
  obtain⟨q,dq,y,dy,a,o,xs,os,t,x,cs,rfl,hq,hy,gx,ha,pr,tok,ho,mk,gs,hcl,k⟩:=h
  have mkl:=mk.length
  have ny:y≠q:=fun e=>by rw[e,hq] at hy;injection hy with hy;injection hy with h1 h2 h3;cases h3
  have na:a≠q:=fun e=>by rw[e,hq] at ha;cases ha
  have no:o≠q:=fun e=>by rw[e,hq] at ho;cases ho
  refine⟨_,(ai (dW 4 mH.nd (dY ku hr T.rO T.nD.kp T.rN (af (pv 2) ah)))
   (ai (jz (pv 0) (nc (k:=8) T.Hz nH (hr.mono (by decide)) rfl T.Hy T.nt .nil gh (af (pv 1) (af (pv 4) ah))) rfl)
   (ai (jz (pv 0) (cS rfl (show bg ["self", "dialect", "table", "others", "tokens"] (au cN) ["other", "tokens"] 1 [4] _ from Di) (bZ K rfl (pv 3)) (fun _ _ _ _=>(jY 0 (show(["other", "tokens"]:List Str).Nodup by decide +kernel))) (fun _ _ _ _=>cK) (fun _ _ _ _=>(nc (k:=8) T.Hz nH (hr.mono (by decide)) rfl T.Hy T.nt .nil gh (af (pv 0) (af (pv 1) ah))))) rfl)
   (ak (jz (pv 0) (dY uW hr T.uR T.mP.kp T.uQ (af (pv 1) (af (pv 2) (af (pv 3) ah)))) rfl))))),?_⟩
  refine⟨_,rfl,a,xs,t,rfl,ha,pr,tok,fun l ys H1 xj hl tp s1=>?_⟩
  dsimp only[bK]
  refine⟨_,rfl,_,rfl,fun m dm hm hdm ne=>⟨m,dm,y,dy,l,ys,aB t,_,_,_,_,_,_,_,rfl,aj,fP hm hdm (s1 _ _ hy),gx,fP hm hdm hl,jE (lR hm hdm) tp,fun H2 hM kp hml=>⟨rfl,?_⟩⟩⟩
  have s2:=lP hm hdm kp
  have s12:=s1.trans s2
  have hq2:=s12 _ _ hq
  refine⟨_,rfl,q,(av 70),dq,_,rfl,hq2,T.dD,T.fV,(by show 0 < 1000;decide),?_⟩
  have b3:∀ b o',H b=some o'→b≠q→(upd H2 q (HO.ins (av 70) dq [("marker",V.ref m)])) b=some o':=fun b o' e hb=>(aC hb).trans (s12 _ _ e)
  have w3:(upd H2 q (HO.ins (av 70) dq [("marker",V.ref m)])) q=some (HO.ins (av 70) dq [("marker",V.ref m)]):=aj
  have nlq:l≠q:=fun e=>by rw[e,hq] at xj;cases xj
  have hl3:(upd H2 q (HO.ins (av 70) dq [("marker",V.ref m)])) l=some (.lst ys):=(aC nlq).trans (s2 _ _ hl)
  have Yz:Paired (gc K (upd H2 q (HO.ins (av 70) dq [("marker",V.ref m)]))) ys (aB t):=rE hq2 (jE s2 tp)
  have hM3:GU K (av 67) (av 68) (av 69) (upd H2 q (HO.ins (av 70) dq [("marker",V.ref m)])) m x (aB t):=tG.off hq2 (fun y l e=>by cases e) (fun d e=>by cases e) (fun e=>by cases e) hM
  rw[show pN ("marker":Str) (V.ref m) []=([(("marker" : Str),V.ref m)]:List (Str×V)) from rfl]
  generalize upd H2 q (HO.ins (av 70) dq [("marker",V.ref m)])=H3 at b3 w3 hl3 Yz hM3 ⊢
  have ho3:=b3 _ _ ho no
  have mk3:xm (av 67) H3 os cs:=aH (fun e x' ⟨y',SQ,e1,e2⟩=>⟨y',SQ,e1,b3 _ _ e2 (fun z=>by rw[z,hq] at e2;injection e2 with e2;injection e2 with h1 h2 h3;cases h3)⟩) mk
  refine⟨_,rfl,_,rfl,⟨_,aU.of ho3⟩,fun D hD=>?_⟩
  have nlD:l≠D:=fun e=>by rw[e,hD] at hl3;cases hl3
  refine cL (K:=K) (a:=o) (xs:=os) (fun i vs τ J=>(∃ v,τ=[v,some (.ref l)])∧aE H3 J∧J D=some (.lst vs)∧rF K (av 67) (av 68) (av 69) (aB t) l J vs (cs.take i)) ⟨⟨_,rfl⟩,aq hD,aj,.nil⟩ (fun i vs τ J _ p=>⟨aU.of (p.2.1 _ _ ho3),p.2.2.1⟩) ?_ ?_
  ·rintro i e vs τ J hi ⟨⟨v,rfl⟩,sJ,hJ,ml⟩
   obtain⟨x',hx',y',SQ,rfl,hy'⟩:=aQ mk3 i e hi
   have hvl:=ml.length
   rw[List.length_take] at hvl
   have hil:i < os.length:=(List.getElem?_eq_some_iff.mp hi).1
   refine qZ ⟨_,rfl,_,rfl,fun m' dm' hm' SR ne'=>⟨m',dm',y',SQ,l,ys,aB t,_,_,_,_,_,_,_,rfl,aj,fP hm' SR (sJ _ _ hy'),gs x' (List.mem_of_getElem? hx'),fP hm' SR (sJ _ _ hl3),jE ((sJ.trans (lR hm' SR))) Yz,fun J2 hM' kp' agg=>⟨rfl,?_⟩⟩⟩
   have s2':=lP hm' SR kp'
   have Uq:=s2' _ _ hJ
   refine⟨Uq,Nat.lt_of_le_of_lt (show vs.length≤1000 by omega) (by decide),⟨_,rfl⟩,aI hD (sJ.trans s2'),aj,?_⟩
   rw[aS hx']
   exact cj (rF.but Uq nlD (rF.mono s2' ml)) (rF.but Uq nlD (.cons ⟨m',rfl,hM',agg⟩ .nil))
  rintro vs τ J ⟨⟨v,rfl⟩,sJ,hJ,ml⟩
  rw[List.take_of_length_le (by omega)] at ml
  have n3:=P4 (v:=V.ref m) (r:=[]) (n := "marker") rfl
  have n5:=P4 (v:=V.ref m) (r:=[("markers",V.ref D)]) (n := "marker") rfl
  have hqJ:=sJ _ _ w3
  refine⟨_,rfl,q,(av 70),dq,_,rfl,hqJ,T.dD,T.e9,(by show 1 < 1000;decide),?_⟩
  rw[show pN ("markers":Str) (V.ref D) ([(("marker" : Str),V.ref m)]:List (Str×V))=([(("marker" : Str),V.ref m),(("markers" : Str),V.ref D)]:List (Str×V)) from rfl]
  have b5:∀ b o',H b=some o'→b≠q→(upd J q (HO.ins (av 70) dq [("marker",V.ref m),("markers",V.ref D)])) b=some o':=fun b o' e hb=>(aC hb).trans (sJ _ _ (b3 _ _ e hb))
  have w5:(upd J q (HO.ins (av 70) dq [("marker",V.ref m),("markers",V.ref D)])) q=some (HO.ins (av 70) dq [("marker",V.ref m),("markers",V.ref D)]):=aj
  have nDq:D≠q:=fun e=>by rw[e,w3] at hD;cases hD
  have hD5:(upd J q (HO.ins (av 70) dq [("marker",V.ref m),("markers",V.ref D)])) D=some (.lst vs):=(aC nDq).trans hJ
  have ml5:rF K (av 67) (av 68) (av 69) (aB t) l (upd J q (HO.ins (av 70) dq [("marker",V.ref m),("markers",V.ref D)])) vs cs:=rF.off hqJ n3.1 n3.2.1 n3.2.2 ml
  have hM5:GU K (av 67) (av 68) (av 69) (upd J q (HO.ins (av 70) dq [("marker",V.ref m),("markers",V.ref D)])) m x (aB t):=tG.off hqJ n3.1 n3.2.1 (n3.2.2 _ _ _ _ _ _ _) (tG.mono sJ hM3)
  generalize upd J q (HO.ins (av 70) dq [("marker",V.ref m),("markers",V.ref D)])=H5 at b5 w5 hD5 ml5 hM5 ⊢
  have pr5:Paired (bP H5) xs t:=aH (fun v r ⟨ra,e1,e2⟩=>⟨ra,e1,b5 _ _ e2 (fun z=>by rw[z,hq] at e2;cases e2)⟩) pr
  have mk5:xm (av 67) H5 os cs:=aH (fun e x' ⟨y',SQ,e1,e2⟩=>⟨y',SQ,e1,b5 _ _ e2 (fun z=>by rw[z,hq] at e2;injection e2 with e2;injection e2 with h1 h2 h3;cases h3)⟩) mk
  refine⟨_,rfl,_,rfl,_,rfl,y,dy,a,o,xs,os,t,x,cs,rfl,b5 _ _ hy ny,gx,b5 _ _ ha na,pr5,tok,b5 _ _ ho no,mk5,gs,hcl,fun H6 s6=>?_⟩
  refine⟨_,rfl,q,(av 70),dq,_,rfl,s6 _ _ w5,T.dD,T.je,(by show 2 < 1000;decide),k _ ?_ fun b o' e hb=>(aC hb).trans (s6 _ _ (b5 _ _ e hb))⟩
  have ml7:=rF.off (o:=HO.ins (av 70) dq (pN ("signs":Str) (V.str (fZ (x :: cs) t)) [("marker",V.ref m),("markers",V.ref D)])) (s6 _ _ w5) n5.1 n5.2.1 n5.2.2 (rF.mono s6 ml5)
  exact⟨dq,m,D,vs,aj,tG.off (s6 _ _ w5) n5.1 n5.2.1 (n5.2.2 _ _ _ _ _ _ _) (tG.mono s6 hM5),(aC nDq).trans (s6 _ _ hD5),aH (fun v x' ⟨m',e1,e2,_⟩=>⟨m',e1,e2⟩) ml7⟩
def rZ:Sp:=fun vs H Q _=>∃(n a b:Int),vs=[.int n,.int a,.int b]∧Q (.bl (decide (a≤n∧n≤b))) H
theorem yX:aG P w K mg base bu 1 (av 20) (aJ 20) ["thing", "least", "most"] rZ:=by
 refine T.uS.ok Hg (fun vs H Q E h=>?_) (fun cdv A outer s H vs Q E hr h=>?_)
 ·obtain⟨n,a,b,rfl,_⟩:=h;rfl
 ·have hu:=aX hr
  have gi:=hr.aN
  obtain⟨n,a,b,rfl,k⟩:=h
  refine⟨_,(ai (aM (PW.pt (gP (bF (br (iS (cE K rfl) T.bf (af (pv 0) (af (Io "int" T.QI) ah))))) (fm (br (iS (cE K rfl) T.bf (af (pv 0) (af (Io "bool" T.LI) ah))))))) (ak (ay dU)) aA)
   (ak (ay (uy (Cb Ob (pv 0) (pv 1)) (nU (Cb Oa (pv 0) (pv 2))))))),?_⟩
  refine⟨_,rfl,_,_,_,_,rfl,.int _,.inl ⟨_,⟨rfl,rfl⟩⟩,_,rfl,dF (⟨_,rfl,_,_,_,_,rfl,.int _,.inl ⟨_,⟨rfl,rfl⟩⟩,_,rfl,dF (⟨_,rfl,_,rfl,_,_,rfl,rfl,_,rfl,?_⟩)⟩)⟩
  by_cases h1:a≤n
  ·rw[if_pos (decide_eq_true h1)]
   refine⟨_,rfl,_,rfl,_,_,rfl,rfl,?_⟩
   show Q (.bl (decide (n≤b))) H
   rw[show decide (n≤b)=decide (a≤n∧n≤b) by rw[Bool.eq_iff_iff,decide_eq_true_iff,decide_eq_true_iff];exact⟨fun z=>⟨h1,z⟩,fun z=>z.2⟩]
   exact k
  ·rw[if_neg (by rw[decide_eq_false h1];decide)]
   rw[show decide (a≤n∧n≤b)=false from decide_eq_false fun z=>h1 z.1] at k
   exact k
def uX (K:W.Frag):Sp:=fun vs H Q _=>∃ v:V,vs=[v]∧Sf H v∧(∀ z,v=.str z→z.length≤10000)∧∀ H',aE H H'→Q (.bl (Mr v)) H'
theorem BC:aG P w K mg base bu 3 (av 21) (aJ 21) ["thing"] (uX K):=by
 have ji:aG P w K mg base bu 2 (av 8) (aJ 8) ["text"] iI:=mT T
 refine T.xY.ok Jz (fun vs H Q E h=>?_) (fun cdv A outer s H vs Q E hr h=>?_)
 ·obtain⟨v,rfl,_⟩:=h;rfl
 ·have hu:=aX hr
  have gi:=hr.aN
  obtain⟨v,rfl,hk,hb,k⟩:=h
  refine⟨_,(ai (aM (PW.pt (gP (bF (br (iS (cE K rfl) T.bf (af (pv 0) (af (Io "str" T.Bs) ah))))) (fm (fJ tR (iS bH T.bQ (af (pv 0) ah)) (nh rfl T.Cu.choose_spec))))) (ak (ay dU)) aA)
   (ak (ay (dY ji hr T.nC T.jb.kp T.nu (af (pv 0) ah))))),?_⟩
  cases hk with
  | str z =>
   have hb:=hb z rfl
   refine⟨_,rfl,_,_,_,true,rfl,.str _,.inl ⟨_,rfl,rfl⟩,true,rfl,dF ⟨_,rfl,z,rfl,Nat.le_trans hb (by decide),_,_,rfl,rfl,_,rfl,bW (fun h1=>?_) (fun h1=>?_)⟩⟩
   ·have e:Mr (.str z)=false:=by
     have n1:¬z.length≤2000:=fun h2=>by have:=of_decide_eq_true h1;omega
     show(decide (z.length≤2000) && textOk z)=false
     rw[decide_eq_false n1];rfl
    have kk:=k H (aE.refl H)
    rw[e] at kk
    exact kk
   ·have n1:z.length≤2000:=by
     rcases Nat.lt_or_ge 2000 z.length with h2 | h2
     ·exact absurd (decide_eq_true (show(2000:Int) < (z.length:Int) by omega)) h1
     ·exact h2
    have e:Mr (.str z)=textOk z:=by
     show(decide (z.length≤2000) && textOk z)=_
     rw[decide_eq_true n1];rfl
    rw[e] at k
    exact⟨_,rfl,z,rfl,n1,k⟩
  | non=>exact⟨_,rfl,_,_,_,false,rfl,.non,.inl ⟨_,rfl,rfl⟩,false,rfl,lU (k H (aE.refl H))⟩
  | bl b=>exact⟨_,rfl,_,_,_,false,rfl,.bl _,.inl ⟨_,rfl,rfl⟩,false,rfl,lU (k H (aE.refl H))⟩
  | int n=>exact⟨_,rfl,_,_,_,false,rfl,.int _,.inl ⟨_,rfl,rfl⟩,false,rfl,lU (k H (aE.refl H))⟩
  | lst e f=>exact⟨_,rfl,_,_,_,false,rfl,.lst e,.inl ⟨_,rfl,rfl⟩,false,rfl,lU (k H (aE.refl H))⟩
  | tup e f=>exact⟨_,rfl,_,_,_,false,rfl,.tup e,.inl ⟨_,rfl,rfl⟩,false,rfl,lU (k H (aE.refl H))⟩
  | dic e f=>exact⟨_,rfl,_,_,_,false,rfl,.dK e,.inl ⟨_,rfl,rfl⟩,false,rfl,lU (k H (aE.refl H))⟩
def wH (K:W.Frag) (C:Addr):Sp:=fun vs H Q _=>∃(x dx:Addr) (p q f:Str) (b1 b2 b3 b4:Bool),vs=[.ref x]∧H x=some (.ins C dx (AF p q f b1 b2 b3 b4))∧q.length≤2∧∀(l:Addr) (xs:List V) (H':Hp),H l=none→H' l=some (.lst xs)→Paired (gc K H') xs (cont q.cps.toList)→aE H H'→Q (.ref l) H'
theorem E2:aG P w K mg base bu 1 (av 22) (aJ 22) ["dialect"] (wH K (av 67)):=by
 refine T.yN.ok pZ (fun vs H Q E h=>?_) (fun cdv A outer s H vs Q E hr h=>?_)
 ·obtain⟨x,dx,p,q,f,b1,b2,b3,b4,rfl,_⟩:=h;rfl
 ·have hu:=aX hr
  have gi:=hr.aN
  obtain⟨x,dx,p,q,f,b1,b2,b3,b4,rfl,hx,hq2,k⟩:=h
  refine⟨_,(ai (dW 1 pZ.nd (bB (af (iP rfl T.jg) (af (aL (af az (af az ah))) (af (aL (af az (af az ah))) (af (aL (af az (af az ah))) (af (aL (af az (af az ah))) ah)))))))
   (ai (fq PassesOwn.never rfl (qT (aR K rfl (pv 0) rfl)) (jY 2 pZ.nd)
   (ak (cR (cO K rfl PySem.F.plainAttrs_list PySem.F.slot_list_extend PySem.F.type_list_extend xw (pv 1) (af (bB (af (aL (af az (af (pv 2) ah))) (af (aL (af az (af (pv 2) ah))) (af (aL (af az (af (pv 2) ah))) ah)))) ah)))))
   (ak (ay (pv 1))))),?_⟩
  refine⟨by decide,fun t1 h1=>⟨by decide,fun t2 h2=>⟨by decide,fun t3 h3=>⟨by decide,fun t4 h4=>⟨(by show 5≤sizeLine;decide),fun l hl=>?_⟩⟩⟩⟩⟩
  have s1:=aq (o:=HO.tup [.str ("cell":Str),.str ("":Str)]) h1
  have s2:=aq (o:=HO.tup [.str ("plain":Str),.str ("":Str)]) h2
  have s3:=aq (o:=HO.tup [.str ("behind":Str),.str ("":Str)]) h3
  have s4:=aq (o:=HO.tup [.str ("freed":Str),.str ("":Str)]) h4
  have s5:=aq (o:=HO.lst [.ref (av 81),.ref t1,.ref t2,.ref t3,.ref t4]) hl
  have p0:Paired (gc K (upd (upd (upd (upd (upd H t1 (.tup [.str ("cell":Str),.str ("":Str)])) t2 (.tup [.str ("plain":Str),.str ("":Str)])) t3 (.tup [.str ("behind":Str),.str ("":Str)])) t4 (.tup [.str ("freed":Str),.str ("":Str)])) l (.lst [.ref (av 81),.ref t1,.ref t2,.ref t3,.ref t4]))) [.ref (av 81),.ref t1,.ref t2,.ref t3,.ref t4] (cont []) :=
   ZU (.inr T.jh) (aF (((s2.trans s3).trans s4).trans s5) (aV.of aj)) (aF ((s3.trans s4).trans s5) (aV.of aj)) (aF (s4.trans s5) (aV.of aj)) (aF s5 (aV.of aj))
  have sH:=(((s1.trans s2).trans s3).trans s4).trans s5
  have Ur:(upd (upd (upd (upd (upd H t1 (.tup [.str ("cell":Str),.str ("":Str)])) t2 (.tup [.str ("plain":Str),.str ("":Str)])) t3 (.tup [.str ("behind":Str),.str ("":Str)])) t4 (.tup [.str ("freed":Str),.str ("":Str)])) l (.lst [.ref (av 81),.ref t1,.ref t2,.ref t3,.ref t4])) l=some (.lst [.ref (av 81),.ref t1,.ref t2,.ref t3,.ref t4]):=aj
  have xj:H l=none:=(((s1.trans s2).trans s3).trans s4).free hl
  generalize upd (upd (upd (upd (upd H t1 (.tup [.str ("cell":Str),.str ("":Str)])) t2 (.tup [.str ("plain":Str),.str ("":Str)])) t3 (.tup [.str ("behind":Str),.str ("":Str)])) t4 (.tup [.str ("freed":Str),.str ("":Str)])) l (.lst [.ref (av 81),.ref t1,.ref t2,.ref t3,.ref t4])=H5 at p0 sH Ur ⊢
  refine⟨_,rfl,x,(av 67),dx,_,_,rfl,sH _ _ hx,T.aK,T.bS,rfl,q,rfl,?_⟩
  refine vt (fun i σ H2=>(∃ v,σ=[some (.ref x),some (.ref l),v])∧aE H H2∧∃ xs,H2 l=some (.lst xs)∧Paired (gc K H2) xs (cont (q.cps.toList.take i))) ⟨⟨_,rfl⟩,sH,_,Ur,p0⟩ ?_ ?_
  ·rintro i c σ H2 hi ⟨⟨v,rfl⟩,s2,xs,hxs,hp⟩
   have hi2:i < 2:=by
    have:=(List.getElem?_eq_some_iff.mp hi).1
    rw[Array.length_toList] at this
    exact Nat.lt_of_lt_of_le this hq2
   refine⟨_,rfl,.inl ⟨rfl,_,aU.of hxs⟩,_,rfl,(by show 2≤sizeLine;decide),fun u1 g1=>⟨_,rfl,(by show 2≤sizeLine;decide),fun u2 g2=>⟨_,rfl,(by show 2≤sizeLine;decide),fun u3 g3=>⟨(by show 3≤sizeLine;decide),fun m hm=>?_⟩⟩⟩⟩
   have z1:=aq (o:=HO.tup [.str ("within":Str),.str (sg c)]) g1
   have z2:=aq (o:=HO.tup [.str ("doubt":Str),.str (sg c)]) g2
   have z3:=aq (o:=HO.tup [.str ("freed":Str),.str (sg c)]) g3
   have z4:=aq (o:=HO.lst [.ref u1,.ref u2,.ref u3]) hm
   have zz:=((z1.trans z2).trans z3).trans z4
   have hlen:xs.length≤20:=by
    rw[hp.length,Pq,List.length_take];omega
   refine⟨l,m,xs,_,rfl,rfl,zz _ _ hxs,aj,?_,⟨_,rfl⟩,?_,_,aj,?_⟩
   ·exact Nat.le_trans (show xs.length+3≤23 by omega) (by decide)
   ·exact aI xj (s2.trans zz)
   ·rw[take_snoc hi,Mq]
    refine aH (fun a b h=>gc.but (zz _ _ hxs) h) (cj (aH (fun a b h=>h.mono zz) hp) ?_)
    exact ZV (aF ((z2.trans z3).trans z4) (aV.of aj)) (aF (z3.trans z4) (aV.of aj)) (aF z4 (aV.of aj))
  ·rintro σ H2 ⟨⟨v,rfl⟩,s2,xs,hxs,hp⟩
   rw[List.take_of_length_le (Nat.le_refl _)] at hp
   exact⟨_,rfl,k l xs H2 xj hxs hp s2⟩
def uY (K:W.Frag) (C:Addr):Sp:=fun vs H Q _=>∃(x dx s:Addr) (w u:Str) (p q f:Str) (b1 b2 b3 b4:Bool),vs=[.ref x,.ref s]∧H x=some (.ins C dx (AF p q f b1 b2 b3 b4))∧aV K H s [.str w,.str u]∧Q (.bl (fQ f w u)) H
theorem BD:aG P w K mg base bu 1 (av 23) (aJ 23) ["dialect", "state"] (uY K (av 67)):=by
 refine T.xZ.ok JA (fun vs H Q E h=>?_) (fun cdv A outer s H vs Q E hr h=>?_)
 ·obtain⟨x,dx,s,w,u,p,q,f,b1,b2,b3,b4,rfl,_⟩:=h;rfl
 ·have hu:=aX hr
  have gi:=hr.aN
  obtain⟨x,dx,s,w,u,p,q,f,b1,b2,b3,b4,rfl,hx,hs,k⟩:=h
  unfold fQ at k
  refine⟨_,(ai (aM (PW.pt (gP (fJ bA (f9 K (pv 1) ao) az) (fm (fJ bA (f9 K (pv 1) ao) az)))) (ak (ay dU)) aA)
   (ak (ay (D0 kY (f9 K (pv 1) ao) (aR K rfl (pv 0) rfl) rfl)))),?_⟩
  refine⟨_,rfl,s,_,_,_,rfl,rfl,hs,rfl,rfl,_,rfl,bW (fun (h1:bz u ("":Str)=true)=>lU ?_) (fun (h1:¬bz u ("":Str)=true)=>?_)⟩
  ·rw[if_pos h1] at k
   exact k
  rw[if_neg h1] at k
  refine⟨_,rfl,s,_,_,_,rfl,rfl,hs,rfl,rfl,_,rfl,bW (fun (h2:bz w ("doubt":Str)=true)=>?_) (fun (h2:¬bz w ("doubt":Str)=true)=>?_)⟩
  ·rw[if_pos h2] at k
   exact k
  rw[if_neg h2] at k
  exact⟨_,rfl,s,_,_,_,rfl,rfl,hs,rfl,_,rfl,x,(av 67),dx,_,_,rfl,hx,T.aK,T.bN,rfl,_,_,rfl,rfl,k⟩
def pC (K:W.Frag) (C:Addr):Sp:=fun vs H Q _=>∃(y dy s:Addr) (w u:Str) (x:bI),vs=[.ref y,.ref s]∧H y=some (.ins C dy (Cd x))∧nk x∧aV K H s [.str w,.str u]∧pU x.2.1 w u∧fQ x.2.2.1 w u=true∧∀ H',aE H H'→Q (.bl true) H'
theorem yf:aG P w K mg base bu 2 (av 24) (aJ 24) ["dialect", "thing"] (pC K (av 67)):=by
 have yg:aG P w K mg base bu 1 (av 23) (aJ 23) ["dialect", "state"] (uY K (av 67)):=BD T
 have HD:aG P w K mg base bu 1 (av 22) (aJ 22) ["dialect"] (wH K (av 67)):=E2 T
 refine T.qA.ok xU (fun vs H Q E h=>?_) (fun cdv A outer s H vs Q E hr h=>?_)
 ·obtain⟨y,dy,s,w,u,x,rfl,_⟩:=h;rfl
 ·have hu:=aX hr
  have gi:=hr.aN
  obtain⟨y,dy,s,w,u,x,rfl,hy,g,hs,hst,Ud,k⟩:=h
  have ou:=hr.units
  have hq2:=g.q2
  refine⟨_,(ai (aM (PW.pt (gP (bF (br (iS (kZ K rfl) T.bf (af (pv 1) (af (Io "tuple" T.kr) ah))))) (fm (fJ yG (iS (aT K rfl) T.bQ (af (pv 1) ah)) ao)))) (ak (ay dU)) aA)
   (ai (aM (PW.pt (gP (bF (br (iS (cE K rfl) T.bf (af (f9 K (pv 1) ao) (af (Io "str" T.Bs) ah))))) (fm (bF (br (iS (cE K rfl) T.bf (af (f9 K (pv 1) ao) (af (Io "str" T.Bs) ah)))))))) (ak (ay dU)) aA)
   (ak (ay (uy (D0 (Ve K rfl ou) (pv 1) (dY HD hr T.Hl T.yN.kp T.Hj (af (pv 0) ah)) rfl) (nU (dY yg hr T.DH T.xZ.kp T.DG (af (pv 0) (af (pv 1) ah))))))))),?_⟩
  refine⟨_,rfl,_,_,_,_,rfl,.ZQ hs,rfl,_,rfl,dF ?_⟩
  refine⟨_,rfl,_,_,rfl,.inr hs,rfl,_,rfl,rdJ (by simp) (⟨_,rfl,_,_,_,_,rfl,rfl,hs,rfl,_,_,_,_,rfl,.str _,.inl ⟨_,⟨rfl,rfl⟩⟩,_,rfl,dF (⟨_,rfl,_,_,_,_,rfl,rfl,hs,rfl,_,_,_,_,rfl,.str _,.inl ⟨_,⟨rfl,rfl⟩⟩,_,rfl,dF (⟨_,rfl,_,rfl,_,_,_,_,_,_,_,_,_,rfl,hy,(by omega),fun l xs H1 xj hl prs s1=>?_⟩)⟩)⟩)⟩
  obtain⟨i,hi⟩:=List.getElem?_of_mem (SI hst)
  obtain⟨e,he,a,rfl,ha⟩:=ki prs i _ hi
  refine⟨s,l,_,xs,rfl,rfl,aF s1 hs,rfl,aU.of hl,fun w' Z6=>?_,fun r hr'=>?_⟩
  ·obtain⟨j,hj⟩:=List.getElem?_of_mem Z6
   obtain⟨⟨k1,k2⟩,_,a',rfl,ha'⟩:=aQ prs j w' hj
   exact⟨a',_,rfl,ha',rfl⟩
  have QL:r=true:=hr'.mpr ⟨_,List.mem_of_getElem? he,a,_,rfl,ha,by show(Ac (.str w) (.str w) && (Ac (.str u) (.str u) && true))=true;rw[Aq rfl,Aq rfl];rfl⟩
  subst QL
  refine⟨_,rfl,lU ⟨_,rfl,_,rfl,y,dy,s,w,u,_,_,_,_,_,_,_,rfl,s1 _ _ hy,aF s1 hs,?_⟩⟩
  rw[Ud]
  exact k _ s1
def qG (K:W.Frag):Sp:=fun vs H Q _=>∃(l:Addr) (ys:List V) (ts:List (Str×Str)) (n:Nat) (kd s:Str),vs=[.ref l,.int n,.str kd,.str s]∧H l=some (.lst ys)∧Paired (gc K H) ys ts∧∀ H',aE H H'→Q (agc (uL ts n kd s)) H'
theorem zG:aG P w K mg base bu 1 (av 25) (aJ 25) ["tokens", "count", "kind", "sign"] (qG K):=by
 refine T.mQ.ok qx (fun vs H Q E h=>?_) (fun cdv A outer s H vs Q E hr h=>?_)
 ·obtain⟨l,ys,ts,n,kd,s,rfl,_⟩:=h;rfl
 ·have hu:=aX hr
  have gi:=hr.aN
  obtain⟨l,ys,ts,n,kd,s,rfl,hl,tp,k⟩:=h
  have ou:=hr.units
  refine⟨_,(ai (aM (fJ bA (pv 2) az) (ak (ay (pv 1))) aA)
   (ai (dW 4 qx.nd (aL (af (pv 2) (af (oA (fJ bA (pv 2) az) (pv 3) az) ah))))
   (ai (aM (PW.pt (kE (fJ Aj (pv 1) (iS (aT K rfl) T.bQ (af (pv 0) ah))) (iN (fJ (O4 (YL _ _ K) rfl (hn0 ou)) (Jl K (pv 0) (pv 1)) (pv 4))))) (ak (ay (aO gg (pv 1) ao))) aA)
   (ak (ay bT))))),?_⟩
  unfold uL at k
  have tl:=tp.length
  refine⟨_,rfl,rfl,_,rfl,bW (fun (h1:bz kd ("skip":Str)=true)=>?_) (fun (h1:¬bz kd ("skip":Str)=true)=>?_)⟩
  ·rw[if_pos h1] at k
   exact⟨_,rfl,k H (aE.refl _)⟩
  rw[if_neg h1] at k
  refine⟨_,rfl,_,rfl,rfl,_,rfl,bW (fun (h2:bz kd ("put":Str)=true)=>?_) (fun (h2:¬bz kd ("put":Str)=true)=>?_)⟩
  ·rw[if_pos h2] at k
   refine⟨_,rfl,(by show 2≤sizeLine;decide),fun t ht=>?_⟩
   (have s1:=aq (o:=HO.tup [V.str kd,V.str s]) ht;have g1:=aj (H:=H) (a:=t) (o:=HO.tup [V.str kd,V.str s]);generalize upd H t (HO.tup [V.str kd,V.str s])=H1 at s1 g1 ⊢)
   have hl1:=s1 _ _ hl
   dsimp only[bK]
   refine⟨_,rfl,_,rfl,l,_,rfl,.inl (aU.of hl1),_,_,rfl,rfl,_,rfl,bW (fun h3=>?_) (fun h3=>?_)⟩
   ·have h3:=of_decide_eq_true h3
    have hn:n < ys.length:=by omega
    obtain⟨y,hy⟩:∃ y,ys[n]? = some y:=⟨_,List.getElem?_eq_getElem hn⟩
    obtain⟨⟨k1,s2⟩,ht1,a,rfl,ha⟩:=aQ tp n y hy
    have hat:LX ys (n:Int)=some (.ref a):=Ab hy
    refine⟨_,rfl,_,rfl,l,_,_,.ref a,rfl,rfl,aU.of hl1,hat,_,rfl,a,t,_,_,rfl,rfl,vC (aF s1 ha),vC (aV.of g1),_,rfl,bW (fun h4=>?_) (fun h4=>?_)⟩
    ·have h4:=oG.mp (of_decide_eq_true h4)
     rw[ht1,if_pos (by rw[h4])] at k
     have kk:=k H1 s1
     exact⟨_,rfl,_,_,rfl,rfl,kk⟩
    ·have h4:¬(k1,s2)=(kd,s):=fun q=>h4 (decide_eq_true (oG.mpr q))
     rw[ht1,if_neg (fun q=>h4 (Option.some.inj q))] at k
     exact k H1 s1
   ·have h3:=of_decide_eq_false (Bool.eq_false_iff.mpr h3)
    have hn:ts[n]? = none:=List.getElem?_eq_none (by omega)
    rw[hn,if_neg (fun q=>nomatch q)] at k
    exact k H1 s1
  ·rw[if_neg h2] at k
   refine⟨(by show 2≤sizeLine;decide),fun t ht=>?_⟩
   (have s1:=aq (o:=HO.tup [V.str kd,V.str ("":Str)]) ht;have g1:=aj (H:=H) (a:=t) (o:=HO.tup [V.str kd,V.str ("":Str)]);generalize upd H t (HO.tup [V.str kd,V.str ("":Str)])=H1 at s1 g1 ⊢)
   have hl1:=s1 _ _ hl
   dsimp only[bK]
   refine⟨_,rfl,_,rfl,l,_,rfl,.inl (aU.of hl1),_,_,rfl,rfl,_,rfl,bW (fun h3=>?_) (fun h3=>?_)⟩
   ·have h3:=of_decide_eq_true h3
    have hn:n < ys.length:=by omega
    obtain⟨y,hy⟩:∃ y,ys[n]? = some y:=⟨_,List.getElem?_eq_getElem hn⟩
    obtain⟨⟨k1,s2⟩,ht1,a,rfl,ha⟩:=aQ tp n y hy
    have hat:LX ys (n:Int)=some (.ref a):=Ab hy
    refine⟨_,rfl,_,rfl,l,_,_,.ref a,rfl,rfl,aU.of hl1,hat,_,rfl,a,t,_,_,rfl,rfl,vC (aF s1 ha),vC (aV.of g1),_,rfl,bW (fun h4=>?_) (fun h4=>?_)⟩
    ·have h4:=oG.mp (of_decide_eq_true h4)
     rw[ht1,if_pos (by rw[h4])] at k
     have kk:=k H1 s1
     exact⟨_,rfl,_,_,rfl,rfl,kk⟩
    ·have h4:¬(k1,s2)=(kd,Str.ofString ""):=fun q=>h4 (decide_eq_true (oG.mpr q))
     rw[ht1,if_neg (fun q=>h4 (Option.some.inj q))] at k
     exact k H1 s1
   ·have h3:=of_decide_eq_false (Bool.eq_false_iff.mpr h3)
    have hn:ts[n]? = none:=List.getElem?_eq_none (by omega)
    rw[hn,if_neg (fun q=>nomatch q)] at k
    exact k H1 s1
def kB (K:W.Frag) (C:Addr):Sp:=fun vs H Q _=>∃(x dx:Addr) (p q f:Str) (b1 b2 b3 b4:Bool) (s:Addr) (w u:Str) (c:Nat),vs=[.ref x,.ref s,.str (sg c)]∧H x=some (.ins C dx (AF p q f b1 b2 b3 b4))∧aV K H s [.str w,.str u]∧∀ v H',aE H H'→Cc K H' v (i7 p q f b3 w u c)→Q v H'
theorem r8:aG P w K mg base bu 1 (av 26) (aJ 26) ["dialect", "state", "sign"] (kB K (av 67)):=by
 refine T.kR.ok rJ (fun vs H Q E h=>?_) (fun cdv A outer s H vs Q E hr h=>?_)
 ·obtain⟨x,dx,p,q,f,b1,b2,b3,b4,s,w,u,c,rfl,_⟩:=h;rfl
 ·have hu:=aX hr
  have gi:=hr.aN
  obtain⟨x,dx,p,q,f,b1,b2,b3,b4,s,w,u,c,rfl,hx,hs,k⟩:=h
  refine'⟨_,?aa,?bb⟩
  case aa =>
   refine' ai ?s0 ?r0
   case s0 =>
    refine' aM ?c1 ?b1 ?e1
    case c1=>exact(ic iK (pv 2) (aR K rfl (pv 0) rfl) rfl)
    case b1 =>
     refine' ak ?s2
     case s2 =>
      refine' ay ?v3
      case v3 =>
       refine' aL ?a4
       case a4 =>
        refine' af ?x5 ?y5 ?z5
        case z5=>exact rfl
        case x5 =>
         exact az
        case y5 =>
         refine' af ?x6 ?y6 ?z6
         case z6=>exact rfl
         case x6 =>
          refine' aL ?a7
          case a7 =>
           refine' af ?x8 ?y8 ?z8
           case z8=>exact rfl
           case x8 =>
            exact az
           case y8 =>
            refine' af ?x9 ?y9 ?z9
            case z9=>exact rfl
            case x9 =>
             exact az
            case y9 =>
             exact ah
         case y6 =>
          exact ah
    case e1 =>
     exact aA
   case r0 =>
    refine' ai ?Ye ?r10
    case Ye =>
     refine' aM ?VV ?VW ?e11
     case VV=>exact(fJ bA (pv 2) (pP rfl T.qi.choose_spec))
     case VW =>
      refine' ak ?s12
      case s12 =>
       refine' ay ?v13
       case v13 =>
        refine' aL ?SS
        case SS =>
         refine' af ?VX ?VY ?VZ
         case VZ=>exact rfl
         case VX =>
          exact az
         case VY =>
          refine' af ?V0 ?V1 ?V2
          case V2=>exact rfl
          case V0 =>
           exact(iP rfl T.jg)
          case V1 =>
           exact ah
     case e11 =>
      exact aA
    case r10 =>
     refine' ai ?V3 ?V4
     case V3 =>
      refine' aM ?SV ?SW ?V5
      case SV=>exact(ic iK (pv 2) (aR K rfl (pv 0) rfl) rfl)
      case SW =>
       refine' ak ?V6
       case V6 =>
        refine' ay ?v20
        case v20 =>
         refine' aL ?SX
         case SX =>
          refine' af ?V7 ?V8 ?V9
          case V9=>exact rfl
          case V7 =>
           exact az
          case V8 =>
           refine' af ?Wa ?Wb ?Wc
           case Wc=>exact rfl
           case Wa =>
            refine' aL ?Wd
            case Wd =>
             refine' af ?x25 ?y25 ?z25
             case z25=>exact rfl
             case x25 =>
              exact az
             case y25 =>
              refine' af ?x26 ?y26 ?z26
              case z26=>exact rfl
              case x26 =>
               exact(pv 2)
              case y26 =>
               exact ah
           case Wb =>
            exact ah
      case V5 =>
       exact aA
     case V4 =>
      refine' ai ?s27 ?r27
      case s27 =>
       refine' aM ?c28 ?b28 ?e28
       case c28=>exact(ic iK (pv 2) (aR K rfl (pv 0) rfl) rfl)
       case b28 =>
        refine' ak ?s29
        case s29 =>
         refine' ay ?v30
         case v30 =>
          refine' aL ?a31
          case a31 =>
           refine' af ?x32 ?y32 ?z32
           case z32=>exact rfl
           case x32 =>
            exact az
           case y32 =>
            refine' af ?x33 ?y33 ?z33
            case z33=>exact rfl
            case x33 =>
             refine' aL ?a34
             case a34 =>
              refine' af ?x35 ?y35 ?z35
              case z35=>exact rfl
              case x35 =>
               exact az
              case y35 =>
               refine' af ?x36 ?y36 ?z36
               case z36=>exact rfl
               case x36 =>
                exact az
               case y36 =>
                exact ah
            case y33 =>
             exact ah
       case e28 =>
        exact aA
      case r27 =>
       refine' ai ?s37 ?r37
       case s37 =>
        refine' aM ?c38 ?b38 ?e38
        case c38=>exact(PW.pt (kE (fJ bA (pv 2) az) (iN (br (aR K rfl (pv 0) rfl)))))
        case b38 =>
         refine' ak ?s39
         case s39 =>
          refine' ay ?v40
          case v40 =>
           refine' aL ?a41
           case a41 =>
            refine' af ?x42 ?y42 ?z42
            case z42=>exact rfl
            case x42 =>
             exact az
            case y42 =>
             refine' af ?x43 ?y43 ?z43
             case z43=>exact rfl
             case x43 =>
              exact(pv 1)
             case y43 =>
              exact ah
        case e38 =>
         exact aA
       case r37 =>
        refine' ak ?s44
        case s44 =>
         refine' ay ?v45
         case v45 =>
          refine' aL ?a46
          case a46 =>
           refine' af ?x47 ?y47 ?z47
           case z47=>exact rfl
           case x47 =>
            exact az
           case y47 =>
            refine' af ?x48 ?y48 ?z48
            case z48=>exact rfl
            case x48 =>
             refine' aL ?a49
             case a49 =>
              refine' af ?x50 ?y50 ?z50
              case z50=>exact rfl
              case x50 =>
               exact az
              case y50 =>
               refine' af ?x51 ?y51 ?z51
               case z51=>exact rfl
               case x51 =>
                exact az
               case y51 =>
                exact ah
            case y48 =>
             exact ah
  have e2:bz (sg c) (BU 0)=bz (sg c) (Str.ofString "\n"):=by rw[T.nG]
  refine⟨_,rfl,_,rfl,x,(av 67),dx,_,_,rfl,hx,T.aK,T.bN,rfl,_,_,rfl,rfl,_,rfl,bW (fun (h1:pJ c f=true)=>?_) (fun (h1:¬pJ c f=true)=>?_)⟩
  ·exact gZ (by unfold i7;rw[if_pos h1]) ni k
  refine⟨_,rfl,rfl,_,rfl,bW (fun (h2:bz (sg c) (BU 0)=true)=>?_) (fun (h2:¬bz (sg c) (BU 0)=true)=>?_)⟩
  ·rw[e2] at h2
   exact Ek (by unfold i7;rw[if_neg h1,if_pos h2]) Jo (aE.refl _) (.inr T.jh) k
  rw[e2] at h2
  refine⟨_,rfl,_,rfl,x,(av 67),dx,_,_,rfl,hx,T.aK,T.bS,rfl,_,_,rfl,rfl,_,rfl,bW (fun (h3:pJ c q=true)=>?_) (fun (h3:¬pJ c q=true)=>?_)⟩
  ·exact⟨_,rfl,gZ (by unfold i7;rw[if_neg h1,if_neg h2,if_pos h3]) ni k⟩
  refine⟨_,rfl,_,rfl,x,(av 67),dx,_,_,rfl,hx,T.aK,T.cy,rfl,_,_,rfl,rfl,_,rfl,bW (fun (h4:pJ c p=true)=>?_) (fun (h4:¬pJ c p=true)=>?_)⟩
  ·exact gZ (by unfold i7;rw[if_neg h1,if_neg h2,if_neg h3,if_pos h4]) El k
  refine⟨_,rfl,rfl,_,rfl,bW (fun (h5:bz (sg c) (" ":Str)=true)=>?_) (fun (h5:¬bz (sg c) (" ":Str)=true)=>?_)⟩
  ·refine⟨_,rfl,x,(av 67),dx,_,_,rfl,hx,T.aK,T.eZ,rfl,_,rfl,bW (fun (h6:b3=true)=>?_) (fun (h6:¬b3=true)=>?_)⟩
   ·exact⟨_,rfl,Ek (by unfold i7;rw[if_neg h1,if_neg h2,if_neg h3,if_neg h4,if_pos h5,if_pos h6]) ni (aE.refl _) hs k⟩
   exact gZ (by unfold i7;rw[if_neg h1,if_neg h2,if_neg h3,if_neg h4,if_pos h5,if_neg h6]) mC k
  refine dF ?_
  exact gZ (by unfold i7;rw[if_neg h1,if_neg h2,if_neg h3,if_neg h4,if_neg h5]) mC k
def pD (K:W.Frag) (C:Addr):Sp:=fun vs H Q _=>∃(x dx:Addr) (p q f:Str) (b1 b2 b3 b4:Bool) (c:Nat),vs=[.ref x,.str (sg c)]∧H x=some (.ins C dx (AF p q f b1 b2 b3 b4))∧∀ v H',aE H H'→Cc K H' v (i8 p q f b4 c)→Q v H'
theorem yh:aG P w K mg base bu 1 (av 27) (aJ 27) ["dialect", "sign"] (pD K (av 67)):=by
 refine T.qB.ok xV (fun vs H Q E h=>?_) (fun cdv A outer s H vs Q E hr h=>?_)
 ·obtain⟨x,dx,p,q,f,b1,b2,b3,b4,c,rfl,_⟩:=h;rfl
 ·have hu:=aX hr
  have gi:=hr.aN
  obtain⟨x,dx,p,q,f,b1,b2,b3,b4,c,rfl,hx,k⟩:=h
  refine'⟨_,?aa,?bb⟩
  case aa =>
   refine' ai ?s0 ?r0
   case s0 =>
    refine' aM ?c1 ?b1 ?e1
    case c1=>exact(ic iK (pv 1) (aR K rfl (pv 0) rfl) rfl)
    case b1 =>
     refine' ak ?s2
     case s2 =>
      refine' ay ?v3
      case v3 =>
       refine' aL ?a4
       case a4 =>
        refine' af ?x5 ?y5 ?z5
        case z5=>exact rfl
        case x5 =>
         exact az
        case y5 =>
         refine' af ?x6 ?y6 ?z6
         case z6=>exact rfl
         case x6 =>
          refine' aL ?a7
          case a7 =>
           refine' af ?x8 ?y8 ?z8
           case z8=>exact rfl
           case x8 =>
            exact az
           case y8 =>
            refine' af ?x9 ?y9 ?z9
            case z9=>exact rfl
            case x9 =>
             exact az
            case y9 =>
             exact ah
         case y6 =>
          exact ah
    case e1 =>
     exact aA
   case r0 =>
    refine' ai ?Ye ?r10
    case Ye =>
     refine' aM ?VV ?VW ?e11
     case VV=>exact(fJ bA (pv 1) (pP rfl T.qi.choose_spec))
     case VW =>
      refine' ak ?s12
      case s12 =>
       refine' ay ?v13
       case v13 =>
        refine' aL ?SS
        case SS =>
         refine' af ?VX ?VY ?VZ
         case VZ=>exact rfl
         case VX =>
          exact az
         case VY =>
          refine' af ?V0 ?V1 ?V2
          case V2=>exact rfl
          case V0 =>
           exact(iP rfl T.jg)
          case V1 =>
           exact ah
     case e11 =>
      exact aA
    case r10 =>
     refine' ai ?V3 ?V4
     case V3 =>
      refine' aM ?SV ?SW ?V5
      case SV=>exact(ic iK (pv 1) (aR K rfl (pv 0) rfl) rfl)
      case SW =>
       refine' ak ?V6
       case V6 =>
        refine' ay ?v20
        case v20 =>
         refine' aL ?SX
         case SX =>
          refine' af ?V7 ?V8 ?V9
          case V9=>exact rfl
          case V7 =>
           exact az
          case V8 =>
           refine' af ?Wa ?Wb ?Wc
           case Wc=>exact rfl
           case Wa =>
            refine' aL ?Wd
            case Wd =>
             refine' af ?x25 ?y25 ?z25
             case z25=>exact rfl
             case x25 =>
              exact az
             case y25 =>
              refine' af ?x26 ?y26 ?z26
              case z26=>exact rfl
              case x26 =>
               exact az
              case y26 =>
               exact ah
           case Wb =>
            exact ah
      case V5 =>
       exact aA
     case V4 =>
      refine' ai ?s27 ?r27
      case s27 =>
       refine' aM ?c28 ?b28 ?e28
       case c28=>exact(PW.pt (kE (ic iK (pv 1) (aR K rfl (pv 0) rfl) rfl) (iN (bF (br (aR K rfl (pv 0) rfl))))))
       case b28 =>
        refine' ak ?s29
        case s29 =>
         refine' ay ?v30
         case v30 =>
          refine' aL ?a31
          case a31 =>
           refine' af ?x32 ?y32 ?z32
           case z32=>exact rfl
           case x32 =>
            exact az
           case y32 =>
            refine' af ?x33 ?y33 ?z33
            case z33=>exact rfl
            case x33 =>
             exact az
            case y33 =>
             exact ah
       case e28 =>
        exact aA
      case r27 =>
       refine' ak ?s34
       case s34 =>
        refine' ay ?v35
        case v35 =>
         refine' aL ?a36
         case a36 =>
          refine' af ?x37 ?y37 ?z37
          case z37=>exact rfl
          case x37 =>
           exact az
          case y37 =>
           refine' af ?x38 ?y38 ?z38
           case z38=>exact rfl
           case x38 =>
            refine' aL ?a39
            case a39 =>
             refine' af ?x40 ?y40 ?z40
             case z40=>exact rfl
             case x40 =>
              exact az
             case y40 =>
              refine' af ?x41 ?y41 ?z41
              case z41=>exact rfl
              case x41 =>
               exact az
              case y41 =>
               exact ah
           case y38 =>
            exact ah
  have e2:bz (sg c) (BU 0)=bz (sg c) (Str.ofString "\n"):=by rw[T.nG]
  refine⟨_,rfl,_,rfl,x,(av 67),dx,_,_,rfl,hx,T.aK,T.bN,rfl,_,_,rfl,rfl,_,rfl,bW (fun (h1:pJ c f=true)=>?_) (fun (h1:¬pJ c f=true)=>?_)⟩
  ·exact gZ (by unfold i8;rw[if_pos h1]) ni k
  refine⟨_,rfl,rfl,_,rfl,bW (fun (h2:bz (sg c) (BU 0)=true)=>?_) (fun (h2:¬bz (sg c) (BU 0)=true)=>?_)⟩
  ·rw[e2] at h2
   exact Ek (by unfold i8;rw[if_neg h1,if_pos h2]) Jo (aE.refl _) (.inr T.jh) k
  rw[e2] at h2
  refine⟨_,rfl,_,rfl,x,(av 67),dx,_,_,rfl,hx,T.aK,T.cy,rfl,_,_,rfl,rfl,_,rfl,bW (fun (h3:pJ c p=true)=>?_) (fun (h3:¬pJ c p=true)=>?_)⟩
  ·exact gZ (by unfold i8;rw[if_neg h1,if_neg h2,if_pos h3]) El k
  refine⟨_,rfl,_,rfl,x,(av 67),dx,_,_,rfl,hx,T.aK,T.bS,rfl,_,_,rfl,rfl,_,rfl,bW (fun (h4:pJ c q=true)=>?_) (fun (h4:¬pJ c q=true)=>?_)⟩
  ·refine⟨_,rfl,x,(av 67),dx,_,_,rfl,hx,T.aK,T.fS,rfl,_,rfl,bW (fun (h5:(!b4)=true)=>?_) (fun (h5:¬(!b4)=true)=>?_)⟩
   ·exact AG (by unfold i8;rw[if_neg h1,if_neg h2,if_neg h3,if_pos h4,if_pos h5]) k
   exact gZ (by unfold i8;rw[if_neg h1,if_neg h2,if_neg h3,if_pos h4,if_neg h5]) mC k
  refine dF ?_
  exact gZ (by unfold i8;rw[if_neg h1,if_neg h2,if_neg h3,if_neg h4]) mC k
def sd (K:W.Frag) (C:Addr):Sp:=fun vs H Q _=>∃(x dx:Addr) (p q f:Str) (b1 b2 b3 b4:Bool) (u:Str) (c:Nat),vs=[.ref x,.str u,.str (sg c)]∧H x=some (.ins C dx (AF p q f b1 b2 b3 b4))∧∀ v H',aE H H'→Cc K H' v (d8 f b1 b2 u c)→Q v H'
theorem BE:aG P w K mg base bu 1 (av 28) (aJ 28) ["dialect", "quote", "sign"] (sd K (av 67)):=by
 refine T.t7.ok A9 (fun vs H Q E h=>?_) (fun cdv A outer s H vs Q E hr h=>?_)
 ·obtain⟨x,dx,p,q,f,b1,b2,b3,b4,u,c,rfl,_⟩:=h;rfl
 ·have hu:=aX hr
  have gi:=hr.aN
  obtain⟨x,dx,p,q,f,b1,b2,b3,b4,u,c,rfl,hx,k⟩:=h
  refine'⟨_,?aa,?bb⟩
  case aa =>
   refine' ai ?s0 ?r0
   case s0 =>
    refine' aM ?c1 ?b1 ?e1
    case c1=>exact(ic iK (pv 2) (aR K rfl (pv 0) rfl) rfl)
    case b1 =>
     refine' ak ?s2
     case s2 =>
      refine' ay ?v3
      case v3 =>
       refine' aL ?a4
       case a4 =>
        refine' af ?x5 ?y5 ?z5
        case z5=>exact rfl
        case x5 =>
         exact az
        case y5 =>
         refine' af ?x6 ?y6 ?z6
         case z6=>exact rfl
         case x6 =>
          refine' aL ?a7
          case a7 =>
           refine' af ?x8 ?y8 ?z8
           case z8=>exact rfl
           case x8 =>
            exact az
           case y8 =>
            refine' af ?x9 ?y9 ?z9
            case z9=>exact rfl
            case x9 =>
             exact(pv 1)
            case y9 =>
             exact ah
         case y6 =>
          exact ah
    case e1 =>
     exact aA
   case r0 =>
    refine' ai ?Ye ?r10
    case Ye =>
     refine' aM ?VV ?VW ?e11
     case VV=>exact(fJ bA (pv 2) (pv 1))
     case VW =>
      refine' ak ?s12
      case s12 =>
       refine' ay ?v13
       case v13 =>
        refine' aL ?SS
        case SS =>
         refine' af ?VX ?VY ?VZ
         case VZ=>exact rfl
         case VX =>
          exact az
         case VY =>
          refine' af ?V0 ?V1 ?V2
          case V2=>exact rfl
          case V0 =>
           exact(oA (br (aR K rfl (pv 0) rfl)) (aL (af az (af (pv 1) ah))) (aL (af az (af az ah))))
          case V1 =>
           exact ah
     case e11 =>
      exact aA
    case r10 =>
     refine' ai ?V3 ?V4
     case V3 =>
      refine' aM ?SV ?SW ?V5
      case SV=>exact(PW.pt (kE (fJ bA (pv 2) (pP rfl T.qi.choose_spec)) (iN (bF (br (aR K rfl (pv 0) rfl))))))
      case SW =>
       refine' ak ?V6
       case V6 =>
        refine' ay ?v20
        case v20 =>
         refine' aL ?SX
         case SX =>
          refine' af ?V7 ?V8 ?V9
          case V9=>exact rfl
          case V7 =>
           exact az
          case V8 =>
           refine' af ?Wa ?Wb ?Wc
           case Wc=>exact rfl
           case Wa =>
            exact az
           case Wb =>
            exact ah
      case V5 =>
       exact aA
     case V4 =>
      refine' ak ?s24
      case s24 =>
       refine' ay ?v25
       case v25 =>
        refine' aL ?a26
        case a26 =>
         refine' af ?x27 ?y27 ?z27
         case z27=>exact rfl
         case x27 =>
          exact az
         case y27 =>
          refine' af ?x28 ?y28 ?z28
          case z28=>exact rfl
          case x28 =>
           refine' aL ?a29
           case a29 =>
            refine' af ?x30 ?y30 ?z30
            case z30=>exact rfl
            case x30 =>
             exact az
            case y30 =>
             refine' af ?x31 ?y31 ?z31
             case z31=>exact rfl
             case x31 =>
              exact(pv 1)
             case y31 =>
              exact ah
          case y28 =>
           exact ah
  have e2:bz (sg c) (BU 0)=bz (sg c) (Str.ofString "\n"):=by rw[T.nG]
  refine⟨_,rfl,_,rfl,x,(av 67),dx,_,_,rfl,hx,T.aK,T.bN,rfl,_,_,rfl,rfl,_,rfl,bW (fun (h1:pJ c f=true)=>?_) (fun (h1:¬pJ c f=true)=>?_)⟩
  ·exact⟨_,rfl,gZ (by unfold d8;rw[if_pos h1]) ni k⟩
  refine⟨_,rfl,_,rfl,rfl,_,rfl,bW (fun (h2:bz (sg c) u=true)=>?_) (fun (h2:¬bz (sg c) u=true)=>?_)⟩
  ·refine⟨_,rfl,x,(av 67),dx,_,_,rfl,hx,T.aK,T.gw,rfl,_,rfl,bW (fun (h3:b1=true)=>?_) (fun (h3:¬b1=true)=>?_)⟩
   ·exact⟨_,rfl,gZ (by unfold d8;rw[if_neg h1,if_pos h2,if_pos h3]) ni k⟩
   exact gZ (by unfold d8;rw[if_neg h1,if_pos h2,if_neg h3]) ni k
  refine⟨_,rfl,rfl,_,rfl,bW (fun (h3:bz (sg c) (BU 0)=true)=>?_) (fun (h3:¬bz (sg c) (BU 0)=true)=>?_)⟩
  ·rw[e2] at h3
   refine⟨_,rfl,x,(av 67),dx,_,_,rfl,hx,T.aK,T.eY,rfl,_,rfl,bW (fun (h4:(!b2)=true)=>?_) (fun (h4:¬(!b2)=true)=>?_)⟩
   ·exact AG (by unfold d8;rw[if_neg h1,if_neg h2,if_pos h3,if_pos h4]) k
   exact⟨_,rfl,gZ (by unfold d8;rw[if_neg h1,if_neg h2,if_pos h3,if_neg h4]) mC k⟩
  rw[e2] at h3
  refine dF ?_
  exact⟨_,rfl,gZ (by unfold d8;rw[if_neg h1,if_neg h2,if_neg h3]) mC k⟩
def mW (K:W.Frag) (C:Addr):Sp:=fun vs H Q _=>∃(x dx:Addr) (p q f:Str) (b1 b2 b3 b4:Bool) (c:Nat),vs=[.ref x,.str (sg c)]∧H x=some (.ins C dx (AF p q f b1 b2 b3 b4))∧∀ v H',aE H H'→Cc K H' v (cT p b3 c)→Q v H'
theorem sj:aG P w K mg base bu 1 (av 29) (aJ 29) ["dialect", "sign"] (mW K (av 67)):=by
 refine T.oh.ok Ba (fun vs H Q E h=>?_) (fun cdv A outer s H vs Q E hr h=>?_)
 ·obtain⟨x,dx,p,q,f,b1,b2,b3,b4,c,rfl,_⟩:=h;rfl
 ·have hu:=aX hr
  have gi:=hr.aN
  obtain⟨x,dx,p,q,f,b1,b2,b3,b4,c,rfl,hx,k⟩:=h
  refine'⟨_,?aa,?bb⟩
  case aa =>
   refine' ai ?s0 ?r0
   case s0 =>
    refine' aM ?c1 ?b1 ?e1
    case c1=>exact(fJ bA (pv 1) (pP rfl T.qi.choose_spec))
    case b1 =>
     refine' ak ?s2
     case s2 =>
      refine' ay ?v3
      case v3 =>
       refine' aL ?a4
       case a4 =>
        refine' af ?x5 ?y5 ?z5
        case z5=>exact rfl
        case x5 =>
         exact az
        case y5 =>
         refine' af ?x6 ?y6 ?z6
         case z6=>exact rfl
         case x6 =>
          exact(iP rfl T.jg)
         case y6 =>
          exact ah
    case e1 =>
     exact aA
   case r0 =>
    refine' ai ?s7 ?r7
    case s7 =>
     refine' aM ?c8 ?b8 ?e8
     case c8=>exact(ic iK (pv 1) (aR K rfl (pv 0) rfl) rfl)
     case b8 =>
      refine' ak ?s9
      case s9 =>
       refine' ay ?v10
       case v10 =>
        refine' aL ?a11
        case a11 =>
         refine' af ?x12 ?y12 ?z12
         case z12=>exact rfl
         case x12 =>
          exact az
         case y12 =>
          refine' af ?x13 ?y13 ?z13
          case z13=>exact rfl
          case x13 =>
           refine' aL ?SS
           case SS =>
            refine' af ?VX ?VY ?VZ
            case VZ=>exact rfl
            case VX =>
             exact az
            case VY =>
             refine' af ?V0 ?V1 ?V2
             case V2=>exact rfl
             case V0 =>
              exact az
             case V1 =>
              exact ah
          case y13 =>
           exact ah
     case e8 =>
      exact aA
    case r7 =>
     refine' ai ?V3 ?V4
     case V3 =>
      refine' aM ?SV ?SW ?V5
      case SV=>exact(PW.pt (kE (fJ bA (pv 1) az) (iN (br (aR K rfl (pv 0) rfl)))))
      case SW =>
       refine' ak ?V6
       case V6 =>
        refine' ay ?v20
        case v20 =>
         refine' aL ?SX
         case SX =>
          refine' af ?V7 ?V8 ?V9
          case V9=>exact rfl
          case V7 =>
           exact az
          case V8 =>
           refine' af ?Wa ?Wb ?Wc
           case Wc=>exact rfl
           case Wa =>
            refine' aL ?Wd
            case Wd =>
             refine' af ?x25 ?y25 ?z25
             case z25=>exact rfl
             case x25 =>
              exact az
             case y25 =>
              refine' af ?x26 ?y26 ?z26
              case z26=>exact rfl
              case x26 =>
               exact az
              case y26 =>
               exact ah
           case Wb =>
            exact ah
      case V5 =>
       exact aA
     case V4 =>
      refine' ak ?s27
      case s27 =>
       refine' ay ?v28
       case v28 =>
        refine' aL ?a29
        case a29 =>
         refine' af ?x30 ?y30 ?z30
         case z30=>exact rfl
         case x30 =>
          exact az
         case y30 =>
          refine' af ?x31 ?y31 ?z31
          case z31=>exact rfl
          case x31 =>
           exact az
          case y31 =>
           exact ah
  have e2:bz (sg c) (BU 0)=bz (sg c) (Str.ofString "\n"):=by rw[T.nG]
  refine⟨_,rfl,rfl,_,rfl,bW (fun (h1:bz (sg c) (BU 0)=true)=>?_) (fun (h1:¬bz (sg c) (BU 0)=true)=>?_)⟩
  ·rw[e2] at h1
   exact Ek (by unfold cT;rw[if_pos h1]) Jo (aE.refl _) (.inr T.jh) k
  rw[e2] at h1
  refine⟨_,rfl,_,rfl,x,(av 67),dx,_,_,rfl,hx,T.aK,T.cy,rfl,_,_,rfl,rfl,_,rfl,bW (fun (h2:pJ c p=true)=>?_) (fun (h2:¬pJ c p=true)=>?_)⟩
  ·exact gZ (by unfold cT;rw[if_neg h1,if_pos h2]) El k
  refine⟨_,rfl,rfl,_,rfl,bW (fun (h3:bz (sg c) (" ":Str)=true)=>?_) (fun (h3:¬bz (sg c) (" ":Str)=true)=>?_)⟩
  ·refine⟨_,rfl,x,(av 67),dx,_,_,rfl,hx,T.aK,T.eZ,rfl,_,rfl,bW (fun (h4:b3=true)=>?_) (fun (h4:¬b3=true)=>?_)⟩
   ·exact gZ (by unfold cT;rw[if_neg h1,if_neg h2,if_pos h3,if_pos h4]) ni k
   exact AG (by unfold cT;rw[if_neg h1,if_neg h2,if_pos h3,if_neg h4]) k
  refine dF ?_
  exact AG (by unfold cT;rw[if_neg h1,if_neg h2,if_neg h3]) k
def pF (K:W.Frag) (C:Addr):Sp:=fun vs H Q _=>∃(x dx:Addr) (p q f:Str) (b1 b2 b3 b4:Bool) (u:Str) (c:Nat),vs=[.ref x,.str u,.str (sg c)]∧H x=some (.ins C dx (AF p q f b1 b2 b3 b4))∧∀ v H',aE H H'→Cc K H' v (mD p b3 u c)→Q v H'
theorem yi:aG P w K mg base bu 2 (av 30) (aJ 30) ["dialect", "quote", "sign"] (pF K (av 67)):=by
 have ow:aG P w K mg base bu 1 (av 29) (aJ 29) ["dialect", "sign"] (mW K (av 67)):=sj T
 refine T.qC.ok xW (fun vs H Q E h=>?_) (fun cdv A outer s H vs Q E hr h=>?_)
 ·obtain⟨x,dx,p,q,f,b1,b2,b3,b4,u,c,rfl,_⟩:=h;rfl
 ·have hu:=aX hr
  have gi:=hr.aN
  obtain⟨x,dx,p,q,f,b1,b2,b3,b4,u,c,rfl,hx,k⟩:=h
  refine⟨_,(ai (aM (fJ bA (pv 2) (pv 1)) (ak (ay (aL (af az (af (aL (af az (af (pv 1) ah))) ah))))) aA)
   (ak (ay (dY ow hr T.ua T.oh.kp T.t9 (af (pv 0) (af (pv 2) ah)))))),?_⟩
  refine⟨_,rfl,_,rfl,rfl,_,rfl,bW (fun (h1:bz (sg c) u=true)=>?_) (fun (h1:¬bz (sg c) u=true)=>?_)⟩
  ·exact⟨_,rfl,gZ (by unfold mD;rw[if_pos h1]) mC k⟩
  refine⟨_,rfl,_,rfl,x,dx,p,q,f,b1,b2,b3,b4,c,rfl,hx,fun v H2 s2 r=>k v H2 s2 ?_⟩
  unfold mD
  rw[if_neg h1]
  exact r
def um (K:W.Frag) (C:Addr):Sp:=fun vs H Q _=>∃(x dx:Addr) (p q f:Str) (b1 b2 b3 b4:Bool) (u:Str) (c:Nat),vs=[.ref x,.str u,.str (sg c)]∧H x=some (.ins C dx (AF p q f b1 b2 b3 b4))∧∀ v H',aE H H'→Cc K H' v (gK b2 u c)→Q v H'
theorem Cz:aG P w K mg base bu 1 (av 31) (aJ 31) ["dialect", "quote", "sign"] (um K (av 67)):=by
 refine T.wm.ok Cg (fun vs H Q E h=>?_) (fun cdv A outer s H vs Q E hr h=>?_)
 ·obtain⟨x,dx,p,q,f,b1,b2,b3,b4,u,c,rfl,_⟩:=h;rfl
 ·have hu:=aX hr
  have gi:=hr.aN
  obtain⟨x,dx,p,q,f,b1,b2,b3,b4,u,c,rfl,hx,k⟩:=h
  refine'⟨_,?aa,?bb⟩
  case aa =>
   refine' ai ?s0 ?r0
   case s0 =>
    refine' aM ?c1 ?b1 ?e1
    case c1=>exact(PW.pt (kE (fJ bA (pv 2) (pP rfl T.qi.choose_spec)) (iN (bF (br (aR K rfl (pv 0) rfl))))))
    case b1 =>
     refine' ak ?s2
     case s2 =>
      refine' ay ?v3
      case v3 =>
       refine' aL ?a4
       case a4 =>
        refine' af ?x5 ?y5 ?z5
        case z5=>exact rfl
        case x5 =>
         exact az
        case y5 =>
         refine' af ?x6 ?y6 ?z6
         case z6=>exact rfl
         case x6 =>
          exact az
         case y6 =>
          exact ah
    case e1 =>
     exact aA
   case r0 =>
    refine' ak ?s7
    case s7 =>
     refine' ay ?v8
     case v8 =>
      refine' aL ?a9
      case a9 =>
       refine' af ?x10 ?y10 ?z10
       case z10=>exact rfl
       case x10 =>
        exact az
       case y10 =>
        refine' af ?x11 ?y11 ?z11
        case z11=>exact rfl
        case x11 =>
         exact(oA (fJ bA (pv 1) az) (aL (af az (af az ah))) (aL (af az (af (pv 1) ah))))
        case y11 =>
         exact ah
  have e2:bz (sg c) (BU 0)=bz (sg c) (Str.ofString "\n"):=by rw[T.nG]
  refine⟨_,rfl,rfl,_,rfl,bW (fun (h1:bz (sg c) (BU 0)=true)=>?_) (fun (h1:¬bz (sg c) (BU 0)=true)=>?_)⟩
  ·rw[e2] at h1
   refine⟨_,rfl,x,(av 67),dx,_,_,rfl,hx,T.aK,T.eY,rfl,_,rfl,bW (fun (h2:(!b2)=true)=>?_) (fun (h2:¬(!b2)=true)=>?_)⟩
   ·exact AG (by unfold gK;rw[if_pos h1,if_pos h2]) k
   refine⟨_,rfl,rfl,_,rfl,bW (fun (h9:bz u ("":Str)=true)=>?_) (fun (h9:¬bz u ("":Str)=true)=>?_)⟩
   ·exact gZ (by unfold gK fD;rw[if_pos h1,if_neg h2,if_pos h9]) mC k
   exact⟨_,rfl,gZ (by unfold gK fD;rw[if_pos h1,if_neg h2,if_neg h9]) mC k⟩
  rw[e2] at h1
  refine dF ?_
  refine⟨_,rfl,rfl,_,rfl,bW (fun (h9:bz u ("":Str)=true)=>?_) (fun (h9:¬bz u ("":Str)=true)=>?_)⟩
  ·exact gZ (by unfold gK fD;rw[if_neg h1,if_pos h9]) mC k
  exact⟨_,rfl,gZ (by unfold gK fD;rw[if_neg h1,if_neg h9]) mC k⟩
def qk (K:W.Frag) (C CT:Addr):Sp:=fun vs H Q _=>∃(y s:Addr) (w u:Str) (c:Nat) (p q f:Str) (b1 b2 b3 b4:Bool),vs=[.ref y,.ref s,.str (sg c)]∧Tn C CT H y p q f b1 b2 b3 b4∧aV K H s [.str w,.str u]∧∀ v H',aE H H'→Cc K H' v (bE p q f b1 b2 b3 b4 w u c)→Q v H'
theorem wI:aG P w K mg base bu 3 (av 32) (aJ 32) ["self", "state", "sign"] (qk K (av 67) (av 68)):=by
 have tP:aG P w K mg base bu 1 (av 26) (aJ 26) ["dialect", "state", "sign"] (kB K (av 67)):=r8 T
 have ow:aG P w K mg base bu 1 (av 29) (aJ 29) ["dialect", "sign"] (mW K (av 67)):=sj T
 have E3:aG P w K mg base bu 1 (av 31) (aJ 31) ["dialect", "quote", "sign"] (um K (av 67)):=Cz T
 have zH:aG P w K mg base bu 2 (av 30) (aJ 30) ["dialect", "quote", "sign"] (pF K (av 67)):=yi T
 have zI:aG P w K mg base bu 1 (av 27) (aJ 27) ["dialect", "sign"] (pD K (av 67)):=yh T
 have CA:aG P w K mg base bu 1 (av 28) (aJ 28) ["dialect", "quote", "sign"] (sd K (av 67)):=BE T
 refine T.Ho.ok p8 (fun vs H Q E h=>?_) (fun cdv A outer s H vs Q E hr h=>?_)
 ·obtain⟨y,s,w,u,c,p,q,f,b1,b2,b3,b4,rfl,_⟩:=h;rfl
 ·have hu:=aX hr
  have gi:=hr.aN
  obtain⟨y,s,w,u,c,p,q,f,b1,b2,b3,b4,rfl,hT,hs,k⟩:=h
  obtain⟨dy,d,dd,hy,hd⟩:=hT.ok
  refine⟨_,(ai (dW 3 p8.nd (f9 K (pv 1) ao))
   (ai (dW 4 p8.nd (f9 K (pv 1) ao))
   (ai (aM (fJ bA (pv 3) az) (ak (ay (dY zI hr T.zy T.qB.kp T.zx (af (aR K rfl (pv 0) rfl) (af (pv 2) ah))))) aA)
   (ai (aM (fJ bA (pv 3) az) (ak (ay (dY CA hr T.Cp T.t7.kp T.Co (af (aR K rfl (pv 0) rfl) (af (pv 4) (af (pv 2) ah)))))) aA)
   (ai (aM (fJ bA (pv 3) az) (ak (ay (dY zH hr T.zC T.qC.kp T.zB (af (aR K rfl (pv 0) rfl) (af (pv 4) (af (pv 2) ah)))))) aA)
   (ai (aM (fJ bA (pv 3) az) (ak (ay (dY ow hr T.ua T.oh.kp T.t9 (af (aR K rfl (pv 0) rfl) (af (pv 2) ah))))) aA)
   (ai (aM (fJ bA (pv 3) az) (ak (ay (dY E3 hr T.EL T.wm.kp T.EK (af (aR K rfl (pv 0) rfl) (af (pv 4) (af (pv 2) ah)))))) aA)
   (ak (ay (dY tP hr T.tM T.kR.kp T.tL (af (aR K rfl (pv 0) rfl) (af (pv 1) (af (pv 2) ah))))))))))))),?_⟩
  refine⟨_,rfl,s,_,_,_,rfl,rfl,hs,rfl,_,rfl,s,_,_,_,rfl,rfl,hs,rfl,?_⟩
  refine⟨_,rfl,rfl,_,rfl,bW (fun (h1:bz w ("plain":Str)=true)=>?_) (fun (h1:¬bz w ("plain":Str)=true)=>?_)⟩
  ·refine⟨_,rfl,y,(av 68),dy,_,_,rfl,hy,T.ig,T.bL,rfl,_,rfl,d,dd,p,q,f,b1,b2,b3,b4,c,rfl,hd,fun v H2 s2 r=>k v H2 s2 ?_⟩
   rw[Pp h1]
   exact r
  refine⟨_,rfl,rfl,_,rfl,bW (fun (h2:bz w ("within":Str)=true)=>?_) (fun (h2:¬bz w ("within":Str)=true)=>?_)⟩
  ·refine⟨_,rfl,y,(av 68),dy,_,_,rfl,hy,T.ig,T.bL,rfl,_,rfl,_,rfl,d,dd,p,q,f,b1,b2,b3,b4,u,c,rfl,hd,fun v H2 s2 r=>k v H2 s2 ?_⟩
   rw[xH h2]
   exact r
  refine⟨_,rfl,rfl,_,rfl,bW (fun (h3:bz w ("doubt":Str)=true)=>?_) (fun (h3:¬bz w ("doubt":Str)=true)=>?_)⟩
  ·refine⟨_,rfl,y,(av 68),dy,_,_,rfl,hy,T.ig,T.bL,rfl,_,rfl,_,rfl,d,dd,p,q,f,b1,b2,b3,b4,u,c,rfl,hd,fun v H2 s2 r=>k v H2 s2 ?_⟩
   rw[GC h3]
   exact r
  refine⟨_,rfl,rfl,_,rfl,bW (fun (h4:bz w ("behind":Str)=true)=>?_) (fun (h4:¬bz w ("behind":Str)=true)=>?_)⟩
  ·refine⟨_,rfl,y,(av 68),dy,_,_,rfl,hy,T.ig,T.bL,rfl,_,rfl,d,dd,p,q,f,b1,b2,b3,b4,c,rfl,hd,fun v H2 s2 r=>k v H2 s2 ?_⟩
   rw[Dj h4]
   exact r
  refine⟨_,rfl,rfl,_,rfl,bW (fun (h5:bz w ("freed":Str)=true)=>?_) (fun (h5:¬bz w ("freed":Str)=true)=>?_)⟩
  ·refine⟨_,rfl,y,(av 68),dy,_,_,rfl,hy,T.ig,T.bL,rfl,_,rfl,_,rfl,d,dd,p,q,f,b1,b2,b3,b4,u,c,rfl,hd,fun v H2 s2 r=>k v H2 s2 ?_⟩
   rw[vH h5]
   exact r
  refine⟨_,rfl,y,(av 68),dy,_,_,rfl,hy,T.ig,T.bL,rfl,_,rfl,_,rfl,d,dd,p,q,f,b1,b2,b3,b4,s,w,u,c,rfl,hd,hs,fun v H2 s2 r=>k v H2 s2 ?_⟩
  rw[Lp (vI h2) (vI h5) (vI h3) (vI h4)]
  unfold qv
  rw[if_neg h1]
  exact r
def nI (K:W.Frag) (C CT:Addr):Sp:=fun vs H Q _=>∃(y s:Addr) (w u:Str) (c:Nat) (p q f:Str) (b1 b2 b3 b4:Bool),vs=[.ref y,.ref s,.str (sg c)]∧Tn C CT H y p q f b1 b2 b3 b4∧aV K H s [.str w,.str u]∧∀ v H',aE H H'→lvV K (oV p q f b1 b2 b3 b4 w u c) H' v→Q v H'
theorem wJ:aG P w K mg base bu 4 (av 33) (aJ 33) ["self", "state", "sign"] (nI K (av 67) (av 68)):=by
 have sq:aG P w K mg base bu 3 (av 32) (aJ 32) ["self", "state", "sign"] (qk K (av 67) (av 68)):=wI T
 have yg:aG P w K mg base bu 1 (av 23) (aJ 23) ["dialect", "state"] (uY K (av 67)):=BD T
 refine T.ya.ok nq (fun vs H Q E h=>?_) (fun cdv A outer s H vs Q E hr h=>?_)
 ·obtain⟨y,s,w,u,c,p,q,f,b1,b2,b3,b4,rfl,_⟩:=h;rfl
 ·have hu:=aX hr
  have gi:=hr.aN
  obtain⟨y,s,w,u,c,p,q,f,b1,b2,b3,b4,rfl,hT,hs,k⟩:=h
  unfold oV at k
  refine⟨_,(ai (aM (fJ nV (pv 1) bT) (ak (ay bT)) aA)
   (ai (dW 3 nq.nd (ie (k:=3) (pv 0) T.ig T.yP sq (hr.mono (by decide)) T.yO .nil gh (af (pv 1) (af (pv 2) ah))))
   (ai (aM (PW.pt (gP (fJ bA (f9 K (pv 3) ao) az) (fm (bF (br (dY yg hr T.DH T.xZ.kp T.DG (af (aR K rfl (pv 0) rfl) (af (f9 K (pv 3) ao) ah)))))))) (ak (ay bT)) aA)
   (ak (ay (pv 3)))))),?_⟩
  obtain⟨dy,d,dd,ey,ed⟩:=hT.ok
  refine⟨_,rfl,rfl,_,rfl,oH (fun z=>nomatch z) ⟨_,rfl,y,dy,_,rfl,ey,rfl,_,rfl,_,rfl,y,s,w,u,c,p,q,f,b1,b2,b3,b4,rfl,hT,hs,fun v H5 s5 r=>?_⟩⟩
  cases We:bE p q f b1 b2 b3 b4 w u c with
  | go kd w3 u3 =>
   rw[We] at r k
   obtain⟨hk,a,b,rfl,ha,hb⟩:=r
   have ey5:=s5 _ _ ey
   have ed5:=s5 _ _ ed
   have k:∀ v H',aE H H'→lvV K (if fQ f w3 u3=true then some (kd,w3,u3) else none) H' v→Q v H':=k
   refine⟨_,rfl,a,_,_,_,rfl,rfl,ha,rfl,rfl,_,rfl,rj hk ?_⟩
   refine⟨_,rfl,y,_,_,_,_,rfl,ey5,T.ig,T.bL,rfl,_,rfl,a,_,_,_,rfl,rfl,ha,rfl,d,dd,b,w3,u3,p,q,f,b1,b2,b3,b4,rfl,ed5,hb,_,rfl,?_⟩
   by_cases hL:fQ f w3 u3=true
   ·rw[if_pos hL] at k
    exact Po hL ⟨_,rfl,k _ _ s5 ⟨a,b,rfl,ha,hb⟩⟩
   ·rw[if_neg hL] at k
    exact Ua (vI hL) (k _ _ s5 rfl)
  | pL e =>
   rw[We] at r k
   obtain⟨a,rfl,ha⟩:=r
   have k:∀ v H',aE H H'→lvV K none H' v→Q v H':=k
   exact⟨_,rfl,a,_,_,_,rfl,rfl,ha,rfl,rfl,_,rfl,tV (bh _) (lU (k _ _ s5 rfl))⟩
def jx (K:W.Frag) (C CT CM:Addr):Sp:=fun vs H Q _=>∃(m:Addr) (v:V) (o:Option d9) (c:Nat) (ts:List (Str×Str)) (p q f:Str) (b1 b2 b3 b4:Bool),vs=[.ref m,v,.str (sg c)]∧tG K C CT CM H m p q f b1 b2 b3 b4 ts∧f7 K H o v∧∀ v' H',aE H H'→f7 K H' (agd p q f b1 b2 b3 b4 ts o c) v'→Q v' H'
theorem qM:aG P w K mg base bu 5 (av 34) (aJ 34) ["self", "mark", "sign"] (jx K (av 67) (av 68) (av 69)):=by
 have pG:aG P w K mg base bu 4 (av 33) (aJ 33) ["self", "state", "sign"] (nI K (av 67) (av 68)):=wJ T
 have su:aG P w K mg base bu 1 (av 25) (aJ 25) ["tokens", "count", "kind", "sign"] (qG K):=zG T
 refine T.rR.ok cB (fun vs H Q E h=>?_) (fun cdv A outer s H vs Q E hr h=>?_)
 ·obtain⟨m,v,o,c,ts,p,q,f,b1,b2,b3,b4,rfl,_⟩:=h;rfl
 ·have hu:=aX hr
  have gi:=hr.aN
  obtain⟨m,v,o,c,ts,p,q,f,b1,b2,b3,b4,rfl,hM,hv,k⟩:=h
  obtain⟨dm,y,l,ys,em,eT,el,tp⟩:=hM.ok
  cases o with
  | none =>
   have hv:v=.non:=hv
   subst hv
   refine⟨_,(ai (aM (fJ nV (pv 1) bT) (ak (ay bT)) aA)
   (ai (dW 3 cB.nd (ie (k:=4) (aR K rfl (pv 0) rfl) T.ig T.o9 pG (hr.mono (by decide)) T.o8 .nil gh (af (f9 K (pv 1) ao) (af (pv 2) ah))))
   (ai (aM (fJ nV (pv 3) bT) (ak (ay bT)) aA)
   (ai (dW 4 cB.nd (dY su hr T.rQ T.mQ.kp T.rP (af (aR K rfl (pv 0) rfl) (af (f9 K (pv 1) ao) (af (f9 K (pv 3) ao) (af (pv 2) ah))))))
   (ak (ay (oA (fJ nV (pv 4) bT) bT (aL (af (f9 K (pv 3) ao) (af (pv 4) ah)))))))))),?_⟩
   exact⟨_,rfl,rfl,_,rfl,Rc rfl (k _ _ (aE.refl _) rfl)⟩
  | some mk =>
  have k:∀ v' H',aE H H'→Et K (nZ p q f b1 b2 b3 b4 ts mk c) H' v'→Q v' H':=fun v' H' s' q'=>k v' H' s' (LC q')
  obtain⟨b,s,rfl,hb,hs⟩:=hv
  obtain⟨dy,d,dd,ey,ed⟩:=eT.ok
  refine⟨_,(ai (aM (fJ nV (pv 1) bT) (ak (ay bT)) aA)
   (ai (dW 3 cB.nd (ie (k:=4) (aR K rfl (pv 0) rfl) T.ig T.o9 pG (hr.mono (by decide)) T.o8 .nil gh (af (f9 K (pv 1) ao) (af (pv 2) ah))))
   (ai (aM (fJ nV (pv 3) bT) (ak (ay bT)) aA)
   (ai (dW 4 cB.nd (dY su hr T.rQ T.mQ.kp T.rP (af (aR K rfl (pv 0) rfl) (af (f9 K (pv 1) ao) (af (f9 K (pv 3) ao) (af (pv 2) ah))))))
   (ak (ay (oA (fJ nV (pv 4) bT) bT (aL (af (f9 K (pv 3) ao) (af (pv 4) ah)))))))))),?_⟩
  unfold nZ at k
  refine⟨_,rfl,rfl,_,rfl,oH (fun z=>nomatch z) (⟨_,rfl,_,_,_,_,_,rfl,em,T.gI,T.jQ,rfl,_,_,_,rfl,ey,rfl,_,rfl,_,_,_,_,rfl,rfl,hb,rfl,_,rfl,_,_,_,_,_,_,_,_,_,_,_,_,rfl,eT,hs,fun v5 H5 s5 r=>?_⟩)⟩
  cases hL:oV p q f b1 b2 b3 b4 mk.1.1 mk.1.2 c with
  | none =>
   rw[hL] at r k
   have r:v5=.non:=r
   subst r
   have k:∀ v' H',aE H H'→Et K none H' v'→Q v' H':=k
   exact⟨_,rfl,rfl,_,rfl,Rc rfl (k _ _ s5 rfl)⟩
  | some kwu =>
   obtain⟨kd,w3,u3⟩:=kwu
   rw[hL] at r k
   obtain⟨a,b2,rfl,ha,hb2⟩:=r
   have k:∀ v' H',aE H H'→Et K (match uL ts mk.2 kd (sg c) with | none=>none | some n=>some ((w3,u3),n)) H' v'→Q v' H':=k
   have em5:=s5 _ _ em
   have el5:=s5 _ _ el
   have tp5:=jE s5 tp
   have hb5:=aF s5 hb
   refine⟨_,rfl,rfl,_,rfl,oH (fun z=>nomatch z) ?_⟩
   refine⟨_,rfl,_,_,_,_,_,rfl,em5,T.gI,T.fT,rfl,_,rfl,_,_,_,_,rfl,rfl,hb5,rfl,_,rfl,_,_,_,_,rfl,rfl,ha,rfl,_,rfl,l,ys,ts,mk.2,kd,sg c,rfl,el5,tp5,fun H6 s6=>?_⟩
   have s56:=s5.trans s6
   cases hC:uL ts mk.2 kd (sg c) with
   | none =>
    rw[hC] at k
    exact⟨_,rfl,rfl,_,rfl,Rc rfl (k _ _ s56 rfl)⟩
   | some n =>
    rw[hC] at k
    refine⟨_,rfl,rfl,_,rfl,oH (fun z=>nomatch z) ⟨_,rfl,_,_,_,_,rfl,rfl,aF s6 ha,rfl,_,rfl,(by show 2≤sizeLine;decide),fun t ht=>?_⟩⟩
    exact k _ _ (s56.trans (aq ht)) ⟨t,b2,rfl,aV.of aj,aF (s6.trans (aq ht)) hb2⟩
def jj (K:W.Frag) (C CT CM:Addr):Sp:=fun vs H Q _=>∃(m:Addr) (v:V) (o:Option d9) (ts:List (Str×Str)) (p q f:Str) (b1 b2 b3 b4:Bool),vs=[.ref m,v]∧tG K C CT CM H m p q f b1 b2 b3 b4 ts∧f7 K H o v∧∀ H',aE H H'→Q (.bl (decide (o=some ((Str.ofString "row",Str.ofString ""),ts.length)))) H'
theorem ql:aG P w K mg base bu 1 (av 35) (aJ 35) ["self", "mark"] (jj K (av 67) (av 68) (av 69)):=by
 refine T.qK.ok p9 (fun vs H Q E h=>?_) (fun cdv A outer s H vs Q E hr h=>?_)
 ·obtain⟨m,v,o,ts,p,q,f,b1,b2,b3,b4,rfl,_⟩:=h;rfl
 ·have hu:=aX hr
  have gi:=hr.aN
  obtain⟨m,v,o,ts,p,q,f,b1,b2,b3,b4,rfl,hM,hv,k⟩:=h
  have ou:=hr.units
  obtain⟨dm,y,l,ys,em,eT,el,tp⟩:=hM.ok
  have tl:=tp.length
  refine⟨_,(ak (ay (Cb (Vs (YM _ _ K) rfl (hn1 ou)) (pv 1) (aL (af (iP rfl T.jg) (af (iS (aT K rfl) T.bQ (af (aR K rfl (pv 0) rfl) ah)) ah)))))),?_⟩
  refine⟨_,rfl,_,rfl,_,_,_,_,_,rfl,em,T.gI,T.fT,rfl,_,_,rfl,.inl (aU.of el),(by show(2:Nat)≤sizeLine;decide),fun t ht=>?_⟩
  (have st:=aq (o:=HO.tup [V.ref (av 81),V.int ↑ys.length]) ht;have g1:=aj (H:=H) (a:=t) (o:=HO.tup [V.ref (av 81),V.int ↑ys.length]);generalize upd H t (HO.tup [V.ref (av 81),V.int ↑ys.length])=H1 at st g1 ⊢)
  have e2:sI (YM _ _ K) H1 (vB ((Str.ofString "row",Str.ofString ""),ts.length)) t:=Ec (P:=P) (w:=w) (m:=((Str.ofString "row",Str.ofString ""),ts.length)) (by rw[←tl];exact aV.of g1) (.inr T.jh)
  refine⟨t,_,rfl,e2,?_⟩
  cases o with
  | none =>
   have hv:v=.non:=hv
   subst hv
   exact .inl ⟨rfl,k _ st⟩
  | some mk =>
   obtain⟨b,s,rfl,hb,hs⟩:=hv
   have e1:sI (YM _ _ K) H1 (vB mk) b:=Ec (P:=P) (w:=w) (aF st hb) (aF st hs)
   refine .inr ⟨b,_,rfl,e1,?_⟩
   have ed:decide (vB mk=vB ((Str.ofString "row",Str.ofString ""),ts.length))=decide (some mk=some ((Str.ofString "row",Str.ofString ""),ts.length)):=by rw[Bool.eq_iff_iff,decide_eq_true_iff,decide_eq_true_iff,Option.some_inj];exact Dc
   rw[ed]
   exact k _ st
def mX (K:W.Frag):Sp:=fun vs H Q _=>∃(l:Addr) (os:List V),vs=[.ref l]∧H l=some (.lst os)∧os.length≤1000∧∀ v H',aE H H'→dH K H' (bV os.length) v→Q v H'
theorem sy:aG P w K mg base bu 1 (av 36) (aJ 36) ["others"] (mX K):=by
 refine T.oi.ok Bb (fun vs H Q E h=>?_) (fun cdv A outer s H vs Q E hr h=>?_)
 ·obtain⟨l,os,rfl,_⟩:=h;rfl
 ·have hu:=aX hr
  have gi:=hr.aN
  obtain⟨l,os,rfl,hl,hn,k⟩:=h
  refine⟨_,(ak (ay (aL (af (iP rfl T.jg) (af ao (af (Yp (lY K rfl) T.kr (af (cS rfl (show bg ["others"] (au fX) ["other"] 1 [] _ from Di) (bZ K rfl (pv 0)) (fun _ _ _ _=>(jY 0 NS)) (fun _ _ _ _=>cK) (fun _ _ _ _=>(aL (af (iP rfl T.jg) (af ao ah))))) ah)) ah)))))),?_⟩
  refine⟨_,rfl,_,rfl,⟨_,aU.of hl⟩,fun D hD=>?_⟩
  refine cL (K:=K) (a:=l) (xs:=os) (fun i vs τ J=>(∃ v,τ=[v])∧aE H J∧J D=some (.lst vs)∧vs.length=i∧Paired (f7 K J) (List.replicate i (some stM)) vs) ⟨⟨_,rfl⟩,aq hD,aj,rfl,.nil⟩ (fun i vs τ J _ p=>⟨aU.of (p.2.1 _ _ hl),p.2.2.1⟩) ?_ ?_
  ·rintro i e vs τ J hi ⟨⟨v,rfl⟩,sJ,hJ,hvl,pr⟩
   have hil:i < os.length:=(List.getElem?_eq_some_iff.mp hi).1
   refine qZ ⟨(by show 2≤sizeLine;decide),fun t ht=>?_⟩
   have st:=aq (o:=HO.tup [.ref (av 81),.int 0]) ht
   have Wf:=st _ _ hJ
   refine⟨Wf,Nat.lt_of_le_of_lt (show vs.length≤1000 by omega) (by decide),⟨_,rfl⟩,aI hD (sJ.trans st),aj,(by rw[List.length_append];show vs.length+1=_;omega),?_⟩
   rw[List.replicate_succ']
   exact cj (oY Wf (jF st pr)) (oY Wf (.cons ⟨t,(av 81),rfl,aV.of aj,.inr T.jh⟩ .nil))
  rintro vs τ J ⟨⟨v,rfl⟩,sJ,hJ,hvl,pr⟩
  refine⟨D,vs,rfl,.inl ⟨aU.of hJ,fun u hu=>⟨(by show 3≤sizeLine;decide),fun t ht=>?_⟩⟩⟩
  have s1:=aq (o:=HO.tup vs) hu
  have s2:=aq (o:=HO.tup [.ref (av 81),.int 0,.ref u]) ht
  exact k _ _ (sJ.trans (s1.trans s2)) ⟨t,(av 81),u,vs,rfl,aV.of aj,.inr T.jh,aV.of (s2 _ _ aj),jF (s1.trans s2) pr⟩
def kI (K:W.Frag) (C CT CM CP:Addr):Sp:=fun vs H Q _=>∃(y:Addr) (v:V) (m:cP) (x:bI) (cs:List bI) (ts:List (Str×Str)) (z:Str),vs=[.ref y,v]∧AS K C CT CM CP H y x cs ts z∧dH K H m v∧cs.length=m.2.length∧cs.length≤1000∧z.length≤1000∧∀ l vs H',H l=none→H' l=some (.lst vs)→zj K H' vs (cH x cs ts z m)→aE H H'→Q (.ref l) H'
theorem qH:aG P w K mg base bu 6 (av 37) (aJ 37) ["self", "place"] (kI K (av 67) (av 68) (av 69) (av 70)):=by
 have kC:aG P w K mg base bu 5 (av 34) (aJ 34) ["self", "mark", "sign"] (jx K (av 67) (av 68) (av 69)):=qM T
 refine T.Bm.ok fR (fun vs H Q E h=>?_) (fun cdv A outer s H vs Q E hr h=>?_)
 ·obtain⟨y,v,m,x,cs,ts,z,rfl,_⟩:=h;rfl
 ·have hu:=aX hr
  have gi:=hr.aN
  obtain⟨y,v,m,x,cs,ts,z,rfl,hP,hv,hcl,hcn,DP,k⟩:=h
  obtain⟨dy,mm,lm,ms,ey,eM,elm,eMs⟩:=hP.ok
  obtain⟨b,s,u,vs,rfl,hb,hs,hu,ho⟩:=hv
  refine⟨_,(ai (dW 2 fR.nd (bB ah))
   (ai (fq PassesOwn.never rfl (qT (aR K rfl (pv 0) rfl)) (jY 3 fR.nd)
   (ai (dW 4 fR.nd (ie (k:=5) (aR K rfl (pv 0) rfl) T.gI T.ko kC (hr.mono (by decide)) T.kj .nil gh (af (Am (Eb K rfl) (pv 1) D3 (D4 ao)) (af (pv 3) ah))))
   (ak (aM (fJ vp (pv 4) bT) (ai (RD (i:=5) rfl fR.nd rfl rfl (show bg ["self", "place", "found", "sign", "mark", "marks"] (au eO) ["marker", "other", "sign"] 2 [3] _ from Di) (xF K rfl rfl T.EX (af (aR K rfl (pv 0) rfl) (af (f9 K (pv 1) ao) ah))) (fun _ _ _ _=>(ng K rfl 2 rfl (bX (jY 0 (show(["marker", "other", "sign"]:List Str).Nodup by decide +kernel)) (bX (jY 1 (show(["marker", "other", "sign"]:List Str).Nodup by decide +kernel)) kX)))) (fun _ _ _ _=>cK) (fun _ _ _ _=>(ie (k:=5) (pv 0) T.gI T.ko kC (hr.mono (by decide)) T.kj .nil gh (af (pv 1) (af (pv 2) ah)))))
   (ak (cR (cO K rfl PySem.F.plainAttrs_list PySem.F.slot_list_append PySem.F.type_list_append cJ (pv 2) (af (aL (af (pv 3) (af (aO (OE K rfl) (pv 4) (aL (af (Yp (lY K rfl) T.kr (af (pv 5) ah)) ah))) ah))) ah))))) aA))))
   (ak (ay (pv 2))))),?_⟩
  have Vq:=ho.length
  have hml:=eMs.length
  refine⟨(by decide),fun l hl=>⟨_,rfl,_,_,_,_,_,rfl,aq hl _ _ ey,T.dD,T.je,rfl,_,rfl,?_⟩⟩
  refine vt (fun i σ J=>∃ us v1 v2 v3,σ=[some (.ref y),some (.ref b),some (.ref l),v1,v2,v3]∧aE H J∧J l=some (.lst us)∧us.length≤i∧zj K J us ((z.cps.toList.take i).filterMap fun c=>(tH x ts m.1 c).map fun m'=>(c,(m',iC cs ts m.2 c)))) ⟨[],none,none,none,rfl,aq hl,aj,Nat.le_refl _,.nil⟩ ?_ ?_
  ·rintro i c σ J hi ⟨us,v1,v2,v3,rfl,sJ,hJ,hul,ld⟩
   rw[aS hi,List.filterMap_append]
   have hil:i < z.cps.toList.length:=(List.getElem?_eq_some_iff.mp hi).1
   rw[Array.length_toList] at hil
   have hil:i < z.length:=hil
   have eMJ:GU K (av 67) (av 68) (av 69) J mm x ts:=tG.mono sJ eM
   obtain⟨dm,yt,lt,yts,em,eT,el,tp⟩:=eMJ.ok
   refine⟨_,rfl,_,_,_,_,_,rfl,sJ _ _ ey,T.dD,T.fV,rfl,_,_,_,rfl,em,rfl,_,rfl,_,rfl,_,_,rfl,aF sJ hb,(by show ¬(_∧(2:Nat)=3);omega),fun pa hpa=>?_⟩
   have s1:=aq (o:=HO.tup [.ref s,.int (m.1.2:Int)]) hpa
   have q1:=aj (H:=J) (a:=pa) (o:=HO.tup [.ref s,.int (m.1.2:Int)])
   rw[show IL [V.ref s,.int (m.1.2:Int),.ref u] none (some 2)=[.ref s,.int (m.1.2:Int)] from rfl]
   generalize upd J pa (HO.tup [.ref s,.int (m.1.2:Int)])=J1 at s1 q1 ⊢
   refine⟨_,rfl,mm,.ref pa,some m.1,c,ts,_,_,_,_,_,_,_,rfl,tG.mono s1 eMJ,⟨pa,s,rfl,aV.of q1,aF (sJ.trans s1) hs⟩,fun v' J2 s2 hv'=>?_⟩
   have hv':f7 K J2 (tH x ts m.1 c) v':=hv'
   have Iq:=sJ.trans (s1.trans s2)
   have Uq:=s2 _ _ (s1 _ _ hJ)
   cases hM:tH x ts m.1 c with
   | none =>
    rw[hM] at hv'
    have hv':v'=.non:=hv'
    subst hv'
    refine⟨_,rfl,rfl,_,rfl,Yl rfl ⟨us,_,_,_,rfl,Iq,Uq,by omega,?_⟩⟩
    rw[List.filterMap_cons,hM]
    simpa using sN (s1.trans s2) ld
   | some m' =>
    rw[hM] at hv'
    obtain⟨b3,s3,rfl,q3,q4⟩:=hv'
    refine⟨_,rfl,rfl,_,rfl,ZI (fun z=>nomatch z) ?_⟩
    refine⟨_,rfl,_,_,_,_,_,rfl,Iq _ _ ey,T.dD,T.e9,rfl,_,rfl,_,_,_,_,rfl,rfl,aF Iq hb,rfl,lm,u,rfl,⟨_,aU.of (Iq _ _ elm)⟩,⟨_,aF Iq hu⟩,fun D hD=>?_⟩
    refine uG (K:=K) (a:=lm) (b:=u) (xs:=ms) (ys:=vs) (fun j ws τ G=>(∃ v w,τ=[v,w,some (.str (sg c))])∧aE J2 G∧G D=some (.lst ws)∧Paired (f7 K G) (((cs.zip m.2).take j).map fun p=>GS p.1 ts p.2 c) ws) ⟨⟨_,_,rfl⟩,aq hD,aj,.nil⟩ (fun j ws τ G _ p=>⟨aU.of (p.2.1 _ _ (Iq _ _ elm)),aF (Iq.trans p.2.1) hu,p.2.2.1⟩) ?_ ?_
    ·rintro j e w' t ws τ G hj hw ht ⟨⟨u1,u2,rfl⟩,sG,hG,pr⟩
     obtain⟨x',hx',ma,rfl,hma⟩:=aQ eMs j e hj
     obtain⟨o,hoi,hoa⟩:=ki ho j w' hw
     have st:=aq (o:=HO.tup [.ref ma,w']) ht
     have sT:=(Iq.trans sG).trans st
     have QM:GU K (av 67) (av 68) (av 69) _ ma x' ts:=tG.mono sT hma
     obtain⟨dm',y',l',ys',SY,_⟩:=QM.ok
     refine⟨t,_,rfl,aV.of aj,rfl,_,_,rfl,_,_,rfl,rfl,?_⟩
     dsimp only[Ow]
     rw[if_pos rfl]
     refine⟨_,rfl,_,_,_,rfl,SY,rfl,_,rfl,_,rfl,ma,w',o,c,ts,_,_,_,_,_,_,_,rfl,QM,vM sT hoa,fun v2 G2 s2' hv2=>?_⟩
     have hG2:=s2' _ _ (st _ _ hG)
     have hjl:j < ms.length:=(List.getElem?_eq_some_iff.mp hj).1
     have hpl:=pr.length
     rw[List.length_map,List.length_take] at hpl
     refine⟨hG2,Nat.lt_of_le_of_lt (show ws.length≤1000 by omega) (by decide),⟨_,_,rfl⟩,aI hD (sG.trans (st.trans s2')),aj,?_⟩
     have hz:(cs.zip m.2)[j]? = some (x',o):=by rw[List.getElem?_zip_eq_some];exact⟨hx',hoi⟩
     rw[aS hz,List.map_append]
     exact cj (oY hG2 (jF (st.trans s2') pr)) (oY hG2 (.cons hv2 .nil))
    rintro ws τ G ⟨⟨u1,u2,rfl⟩,sG,hG,pr⟩
    rw[List.take_of_length_le (by rw[List.length_zip];omega)] at pr
    have pr:Paired (f7 K G) (iC cs ts m.2 c) ws:=pr
    have hJG:=sG _ _ Uq
    have q3G:=aF sG q3
    dsimp only[bK]
    refine⟨_,rfl,.inl ⟨rfl,⟨_,aU.of hJG⟩⟩,_,rfl,_,rfl,_,rfl,_,_,rfl,.inl (⟨aU.of hG,fun tu htu=>⟨(by show 1≤sizeLine;decide),fun t1 ht1=>?_⟩⟩)⟩
    have f1:=aq (o:=HO.tup ws) htu
    have f2:=aq (o:=HO.tup [.ref tu]) ht1
    have w1:=f2 _ _ (aj (H:=G) (a:=tu) (o:=HO.tup ws))
    have w2:=aj (H:=upd G tu (HO.tup ws)) (a:=t1) (o:=HO.tup [.ref tu])
    have f12:=f1.trans f2
    generalize upd (upd G tu (HO.tup ws)) t1 (HO.tup [.ref tu])=G1 at w1 w2 f12 ⊢
    refine⟨b3,t1,_,_,rfl,rfl,aF f12 q3G,aV.of w2,(by simp),(by show 3≤sizeLine;decide),(fun z=>by cases z),fun _ p3 hp3=>⟨(by show 2≤sizeLine;decide),fun p4 hp4=>?_⟩⟩
    have f3:=aq (o:=HO.tup [.ref s3,.int (m'.2:Int),.ref tu]) hp3
    have f4:=aq (o:=HO.tup [.str (sg c),.ref p3]) hp4
    have w3:=f4 _ _ (aj (H:=G1) (a:=p3) (o:=HO.tup [.ref s3,.int (m'.2:Int),.ref tu]))
    have w4:=aj (H:=upd G1 p3 (HO.tup [.ref s3,.int (m'.2:Int),.ref tu])) (a:=p4) (o:=HO.tup [.str (sg c),.ref p3])
    have f14:=f12.trans (f3.trans f4)
    have w14:=(f3.trans f4) _ _ w1
    have hl4:=f14 _ _ hJG
    have hpl:dH K (upd (upd G1 p3 (HO.tup [.ref s3,.int (m'.2:Int),.ref tu])) p4 (HO.tup [.str (sg c),.ref p3])) (m',iC cs ts m.2 c) (.ref p3):=⟨p3,s3,tu,ws,rfl,aV.of w3,aF (sG.trans f14) q4,aV.of w14,jF f14 pr⟩
    refine⟨l,us,_,rfl,rfl,hl4,(Nat.lt_of_le_of_lt (show us.length≤1000 by omega) (by decide)),_,_,_,_,rfl,aI hl (Iq.trans (sG.trans f14)),aj,(by rw[List.length_append];show us.length+1≤_;omega),?_⟩
    rw[List.filterMap_cons,hM]
    exact cj (vO hl4 (sN (s1.trans (s2.trans (sG.trans f14))) ld)) (vO hl4 (.cons ⟨p4,.ref p3,rfl,w4,hpl⟩ .nil))
  ·rintro σ J ⟨us,v1,v2,v3,rfl,sJ,hJ,hul,ld⟩
   rw[List.take_of_length_le (Nat.le_refl _)] at ld
   exact⟨_,rfl,k l us J hl hJ ld sJ⟩
def jk (K:W.Frag) (C CT CM CP:Addr):Sp:=fun vs H Q _=>∃(y:Addr) (v:V) (m:cP) (x:bI) (cs:List bI) (ts:List (Str×Str)) (z:Str),vs=[.ref y,v]∧AS K C CT CM CP H y x cs ts z∧dH K H m v∧cs.length=m.2.length∧cs.length≤1000∧∀ H',aE H H'→Q (.bl (cA ts m)) H'
theorem nJ:aG P w K mg base bu 2 (av 38) (aJ 38) ["self", "place"] (jk K (av 67) (av 68) (av 69) (av 70)):=by
 have jy:aG P w K mg base bu 1 (av 35) (aJ 35) ["self", "mark"] (jj K (av 67) (av 68) (av 69)):=ql T
 refine T.yb.ok vX (fun vs H Q E h=>?_) (fun cdv A outer s H vs Q E hr h=>?_)
 ·obtain⟨y,v,m,x,cs,ts,z,rfl,_⟩:=h;rfl
 ·have hu:=aX hr
  have gi:=hr.aN
  obtain⟨y,v,m,x,cs,ts,z,rfl,hP,hv,hcl,hcn,k⟩:=h
  obtain⟨dy,mm,lm,ms,ey,eM,elm,eMs⟩:=hP.ok
  obtain⟨b,s,u,vs,rfl,hb,hs,hu,ho⟩:=hv
  obtain⟨dm,yt,lt,yts,em,eT,el,tp⟩:=eM.ok
  refine⟨_,(ai (aM (bF (br (ie (k:=1) (aR K rfl (pv 0) rfl) T.gI T.jw jy (hr.mono (by decide)) T.jv .nil gh (af (Am (Eb K rfl) (pv 1) D3 (D4 ao)) ah)))) (ak (ay dU)) aA)
   (ak (ay (Ir (iS (C8 K rfl rfl) T.QH (af (cS rfl (show bg ["self", "place"] (au cW) ["marker", "mark"] 2 [] _ from Di) (xF K rfl rfl T.EX (af (aR K rfl (pv 0) rfl) (af (f9 K (pv 1) ao) ah))) (fun _ _ _ _=>(ng K rfl 2 rfl (bX (jY 0 (show(["marker", "mark"]:List Str).Nodup by decide +kernel)) (bX (jY 1 (show(["marker", "mark"]:List Str).Nodup by decide +kernel)) kX)))) (fun _ _ _ _=>cK) (fun _ _ _ _=>(ie (k:=1) (pv 0) T.gI T.jw jy (hr.mono (by decide)) T.jv .nil gh (af (pv 1) ah)))) ah)))))),?_⟩
  refine⟨_,rfl,_,_,_,_,_,rfl,ey,T.dD,T.fV,rfl,_,_,_,rfl,em,rfl,_,rfl,_,rfl,_,_,rfl,hb,(by show ¬(_∧(2:Nat)=3);omega),fun pa hpa=>?_⟩
  have s1:=aq (o:=HO.tup [.ref s,.int (m.1.2:Int)]) hpa
  have q1:=aj (H:=H) (a:=pa) (o:=HO.tup [.ref s,.int (m.1.2:Int)])
  rw[show IL [V.ref s,.int (m.1.2:Int),.ref u] none (some 2)=[.ref s,.int (m.1.2:Int)] from rfl]
  generalize upd H pa (HO.tup [.ref s,.int (m.1.2:Int)])=H1 at s1 q1 ⊢
  refine⟨mm,.ref pa,some m.1,ts,_,_,_,_,_,_,_,rfl,tG.mono s1 eM,⟨pa,s,rfl,aV.of q1,aF s1 hs⟩,fun H2 s2=>?_⟩
  have s12:=s1.trans s2
  by_cases hd:m.1=AU ts
  rotate_left
  ·rw[show decide (some m.1=some ((Str.ofString "row",Str.ofString ""),ts.length))=false from decide_eq_false fun z=>hd (Option.some.inj z)]
   refine⟨_,rfl,lU ?_⟩
   rw[show cA ts m=false by unfold cA;rw[decide_eq_false hd];rfl] at k
   exact k _ s12
  rw[show decide (some m.1=some ((Str.ofString "row",Str.ofString ""),ts.length))=true from decide_eq_true (congrArg some hd)]
  refine⟨_,rfl,dF ?_⟩
  have Vq:=ho.length
  have hml:=eMs.length
  refine⟨_,rfl,_,_,_,_,_,rfl,s12 _ _ ey,T.dD,T.e9,rfl,_,rfl,_,_,_,_,rfl,rfl,aF s12 hb,rfl,lm,u,rfl,⟨_,aU.of (s12 _ _ elm)⟩,⟨_,aF s12 hu⟩,fun D hD=>?_⟩
  refine uG (K:=K) (a:=lm) (b:=u) (xs:=ms) (ys:=vs) (fun i us τ J=>(∃ v w,τ=[v,w])∧aE H2 J∧J D=some (.lst us)∧us=(m.2.take i).map fun o=>V.bl (decide (o=some (AU ts)))) ⟨⟨_,_,rfl⟩,aq hD,aj,rfl⟩ (fun i us τ J _ p=>⟨aU.of (p.2.1 _ _ (s12 _ _ elm)),aF (s12.trans p.2.1) hu,p.2.2.1⟩) ?_ ?_
  ·rintro i e w' t us τ J hi hw ht ⟨⟨v1,v2,rfl⟩,sJ,hJ,hus⟩
   obtain⟨x',hx',ma,rfl,hma⟩:=aQ eMs i e hi
   obtain⟨o,hoi,hoa⟩:=ki ho i w' hw
   have st:=aq (o:=HO.tup [.ref ma,w']) ht
   have sT:=(s12.trans sJ).trans st
   have QM:GU K (av 67) (av 68) (av 69) _ ma x' ts:=tG.mono sT hma
   obtain⟨dm',y',l',ys',SY,_⟩:=QM.ok
   refine⟨t,_,rfl,aV.of aj,rfl,_,_,rfl,_,_,rfl,rfl,?_⟩
   dsimp only[Ow]
   rw[if_pos rfl]
   refine⟨_,rfl,_,_,_,rfl,SY,rfl,_,rfl,ma,w',o,ts,_,_,_,_,_,_,_,rfl,QM,vM sT hoa,fun J2 s2=>?_⟩
   have Uq:=s2 _ _ (st _ _ hJ)
   have hil:i < ms.length:=(List.getElem?_eq_some_iff.mp hi).1
   have hul:us.length≤i:=by rw[hus,List.length_map,List.length_take];omega
   refine⟨Uq,Nat.lt_of_le_of_lt (show us.length≤1000 by omega) (by decide),⟨_,_,rfl⟩,aI hD (sJ.trans (st.trans s2)),aj,?_⟩
   rw[aS hoi,List.map_append,←hus]
   rfl
  rintro us τ J ⟨⟨v1,v2,rfl⟩,sJ,hJ,hus⟩
  rw[List.take_of_length_le (by omega)] at hus
  refine⟨D,m.2.map (fun o=>decide (o=some (AU ts))),rfl,?_,_,rfl,?_⟩
  ·rw[List.map_map]
   rw[hus] at hJ
   exact aU.of hJ
  have hg:(!(m.2.map (fun o=>decide (o=some (AU ts)))).any id)=cA ts m:=by unfold cA;rw[decide_eq_true hd,List.any_map];rfl
  rw[hg]
  exact k _ (s12.trans sJ)
def DR (P:Program) (w:World) (K:W.Frag) (C CT CM CP:Addr):Sp:=fun vs H Q _=>∃(qa:Addr) (v:V) (n:Nat) (p0:cP) (x:bI) (cs:List bI) (ts:List (Str×Str)) (z:Str),vs=[v,.ref qa,.int n]∧AS K C CT CM CP H qa x cs ts z∧dH K H p0 v∧p0.2.length=cs.length∧cs.length≤1000∧z.length≤1000∧n≤4000∧∀ t rv r a cm H',H a=none→H' t=some (.tup [rv,.ref a])→agf K r H' rv→i9 P w K H' a cm→vS (cA ts) (cH x cs ts z) (some n) [(p0,none)] [p0] r cm→aE H H'→Q (.ref t) H'
theorem MS:aG P w K mg base bu 7 (av 39) (aJ 39) ["first", "searched", "most"] (DR P w K (av 67) (av 68) (av 69) (av 70)):=by
 have jL:aG P w K mg base bu 2 (av 38) (aJ 38) ["self", "place"] (jk K (av 67) (av 68) (av 69) (av 70)):=nJ T
 have mY:aG P w K mg base bu 6 (av 37) (aJ 37) ["self", "place"] (kI K (av 67) (av 68) (av 69) (av 70)):=qH T
 refine T.Hq.ok iM (fun vs H Q E h=>?_) (fun cdv A outer s H vs Q E hr h=>?_)
 ·obtain⟨qa,v,n,p0,x,cs,ts,z,rfl,_⟩:=h;rfl
 ·have hu:=aX hr
  have gi:=hr.aN
  obtain⟨qa,v,n,p0,x,cs,ts,z,rfl,hW,hv,hp0,hcl,DP,hn4,k⟩:=h
  have ou:=hr.units
  obtain⟨b,rfl⟩:=jO hv
  refine⟨_,(ai (dW 3 iM.nd (Me (YP P w K) (aY P w) rfl rfl rfl (hp1 ou) (pv 0) bT))
   (ai (dW 4 iM.nd (bB (af (pv 0) ah)))
   (ai (FG PassesOwn.never (fJ (RH K rfl gi) (pv 4) (bB ah))
   (ai (fq PassesOwn.never rfl (bZ K rfl (pv 4)) (jY 5 iM.nd)
   (ak (aM (br (ie (k:=2) (pv 1) T.dD T.pq jL (hr.mono (by decide)) T.pe .nil gh (af (pv 5) ah))) (ak (ay (aL (af (pv 5) (af (pv 3) ah))))) aA)))
   (ai (aM (PW.pt (kE (fJ vp (pv 2) bT) (iN (fJ tR (iS (Dh (YP P w K) (aY P w) rfl rfl rfl) T.bQ (af (pv 3) ah)) (pv 2))))) (ak (ay (aL (af bT (af (pv 3) ah))))) aA)
   (ai (dW 6 iM.nd (bB ah))
   (ai (fq PassesOwn.never rfl (bZ K rfl (pv 4)) (jY 5 iM.nd)
   (ak (fq PassesOwn.never rfl (bZ K rfl (ie (k:=6) (pv 1) T.dD T.rT mY (hr.mono (by decide)) T.rS .nil gh (af (pv 5) ah))) (jY 7 iM.nd)
   (ak (aM (N7 (Av (YP P w K) (aY P w) rfl rfl rfl (hp2 ou) (f9 K (pv 7) ao) (pv 3))) (ai (Gk (YP P w K) (aY P w) rfl rfl rfl (hp2 ou) (pv 3) (f9 K (pv 7) ao) (aL (af (pv 5) (af (f9 K (pv 7) ao) ah))) rfl)
   (ak (cR (cO K rfl PySem.F.plainAttrs_list PySem.F.slot_list_append PySem.F.type_list_append cJ (pv 6) (af (f9 K (pv 7) ao) ah))))) aA)))))
   (ak (dW 4 iM.nd (pv 6))))))))
   (ak (ay (aL (af bT (af (pv 3) ah)))))))),?_⟩
  refine bR fun Rk hk=>?_
  refine fun a ha=>?_
  have sA:=aq (o:=dN (ZP P w) (aY P w) a []) ha
  refine⟨_,rfl,bw p0,b,rfl,aj,jN (cG sA hv),?_⟩
  have c1:i9 P w K (upd (upd H a (dN (ZP P w) (aY P w) a [])) a (dN (ZP P w) (aY P w) a [(bw p0,b,.non)])) a [(p0,none)]:=i9.one aj (cG sA hv)
  have s1:aE H (upd (upd H a (dN (ZP P w) (aY P w) a [])) a (dN (ZP P w) (aY P w) a [(bw p0,b,.non)])):=aI ha sA
  generalize upd (upd H a (dN (ZP P w) (aY P w) a [])) a (dN (ZP P w) (aY P w) a [(bw p0,b,.non)])=H1 at c1 s1 ⊢
  refine hk _ _ _ (bR fun Rk hk=>?_)
  refine⟨_,rfl,(by show 1≤sizeLine;decide),fun l0 xj=>?_⟩
  have s2:=aq (o:=HO.lst [.ref b]) xj
  have g2:=aj (H:=H1) (a:=l0) (o:=HO.lst [.ref b])
  generalize upd H1 l0 (.lst [.ref b])=H2 at s2 g2 ⊢
  have s12:=s1.trans s2
  dsimp only[bK]
  refine hk _ _ _ (bR fun Rk hk=>?_)
  refine⟨fun nn σ J=>∃ l vs aW cm v5 v6 v7,σ=[some (.ref b),some (.ref qa),some (.int n),some (.ref a),some (.ref l),v5,v6,v7]∧aE H J∧J l=some (.lst vs)∧vV K J vs aW∧i9 P w K J a cm∧aW.length≤cm.length∧(∀ m∈aW,m.2.length=cs.length)∧(∀ r LD,vS (cA ts) (cH x cs ts z) (some n) cm aW r LD→vS (cA ts) (cH x cs ts z) (some n) [(p0,none)] [p0] r LD)∧nn=2 * (n+1 - cm.length)+(if aW=[] then 0 else 1),⟨_,l0,_,[p0],_,_,_,_,rfl,s12,g2,.cons (cG s12 hv) .nil,c1.mono s2,(by simp),(fun m hm=>by rw[List.mem_singleton.mp hm];exact hp0),fun r LD q=>q,rfl⟩,?_⟩
  rintro nn σ J ⟨l,vs,aW,cm,v5,v6,v7,rfl,sJ,hl,em,ca,iu,eU,hR,hn⟩
  refine⟨_,rfl,(by decide),fun e he=>⟨_,_,_,rfl,rfl,aU.of (aq he _ _ hl),aU.of aj,_,rfl,?_⟩⟩
  have se:=aq (o:=HO.lst []) he
  replace sJ:=sJ.trans se
  replace hl:=se _ _ hl
  replace em:=em.keep fun b xs q=>aF se q
  replace ca:=ca.mono se
  generalize upd J e (.lst [])=J1 at sJ hl em ca ⊢
  clear se he
  cases em with
  | nil =>
   refine dF (hk _ _ _ ⟨_,rfl,(by show 2≤sizeLine;decide),fun t ht=>?_⟩)
   exact k t .non none a cm _ ha aj rfl (ca.mono (aq ht)) (hR _ _ .stop) (sJ.trans (aq ht))
  | @cons v1 e1 vs aW h1 em =>
  have em:vV K J1 (v1 :: vs) (e1 :: aW):=.cons h1 em
  have hne:e1 :: aW≠[]:=fun q=>nomatch q
  refine lU ?_
  generalize e1 :: aW=aW at em hne hn hR eU iu
  generalize v1 :: vs=vs at em hl
  rw[if_neg hne] at hn
  refine⟨fun σ G=>∃ l vs v5 v6 v7,σ=[some (.ref b),some (.ref qa),some (.int n),some (.ref a),some (.ref l),v5,v6,v7]∧aW.find? (cA ts)=none∧cm.length≤n∧aE H G∧G l=some (.lst vs)∧vV K G vs (dM (cH x cs ts z) cm aW).2∧i9 P w K G a (dM (cH x cs ts z) cm aW).1∧∀ m∈(dM (cH x cs ts z) cm aW).2,m.2.length=cs.length,?_,?_⟩
  ·rintro σ G ⟨l,vs,v5,v6,v7,rfl,hf,hmo,sG,hl,em,ca,eU'⟩
   refine⟨_,?_,l,vs,_,_,v5,v6,v7,rfl,sG,hl,em,ca,(by have q:=jG (led:=cH x cs ts z) aW (cm,[]);simp only[List.length_nil,Nat.add_zero] at q;unfold dM;omega),eU',fun r LD q=>hR r LD (.go hne hf (fun n' e=>by cases e;exact hmo) q),rfl⟩
   have e1:=jG (led:=cH x cs ts z) aW (cm,[])
   unfold dM
   rw[hn]
   simp only[List.length_nil,Nat.add_zero] at e1
   by_cases q:(aW.foldl (m9 (cH x cs ts z)) (cm,[])).2=[]
   ·rw[if_pos q];rw[q,List.length_nil] at e1;omega
   ·rw[if_neg q]
    have:=List.length_pos_iff.mpr q
    omega
  refine bR fun R2 hk2=>?_
  refine⟨_,rfl,l,rfl,⟨_,aU.of hl⟩,?_⟩
  refine qQ (K:=K) (a:=l) (xs:=vs) (fun i σ G=>aE J1 G∧(∀ m∈aW.take i,cA ts m=false)∧∃ v5,σ=[some (.ref b),some (.ref qa),some (.int n),some (.ref a),some (.ref l),v5,v6,v7]) ⟨aE.refl _,(fun m hm=>nomatch hm),_,rfl⟩ (fun i σ G _ q=>aU.of (q.1 _ _ hl)) ?_ ?_
  ·rintro i e2 σ G hi ⟨sG,hno,v5',rfl⟩
   obtain⟨m,hm,hv⟩:=aQ em i e2 hi
   have QN:=cG sG hv
   have hWG:=hW.mono (sJ.trans sG)
   obtain⟨dx,mm,ll,ys,ex,eM,el,tp⟩:=hWG.ok
   obtain⟨bx,rfl⟩:=jO QN
   dsimp only[bK]
   refine⟨_,rfl,_,_,_,rfl,ex,rfl,_,rfl,qa,.ref bx,m,x,cs,ts,z,rfl,hWG,QN,(eU m (List.mem_of_getElem? hm)).symm,hcl,fun G2 s2=>⟨_,rfl,?_⟩⟩
   by_cases hg:cA ts m=true
   ·refine tV hg ⟨_,rfl,_,rfl,(by show 2≤sizeLine;decide),fun t ht=>?_⟩
    have st:=(sG.trans s2).trans (aq (o:=HO.tup [.ref bx,.ref a]) ht)
    exact k t _ (some m) a cm _ ha aj (cG st hv) (ca.mono st) (hR _ _ (.found (P6 hm hg hno))) (sJ.trans st)
   ·refine rj (vI hg) ⟨sG.trans s2,fun m' hm'=>?_,_,rfl⟩
    rw[aS hm] at hm'
    rcases List.mem_append.mp hm' with z | z
    ·exact hno m' z
    ·rw[List.mem_singleton.mp z];exact vI hg
  rintro σ G ⟨sG,hno,v5',rfl⟩
  rw[em.length,List.take_of_length_le (Nat.le_refl _)] at hno
  have hf:=P7 hno
  replace sJ:=sJ.trans sG
  replace hl:=sG _ _ hl
  replace em:=em.keep fun b xs q=>aF sG q
  replace ca:=ca.mono sG
  clear sG
  dsimp only[bK]
  obtain⟨aag,nd0,cr0⟩:=ca.ok
  have kl0:=xQ cr0
  refine hk2 _ _ _ (bR fun R2 hk2=>?_)
  refine⟨_,rfl,rfl,_,rfl,ZI (fun z=>nomatch z) (⟨_,rfl,_,_,rfl,nd0,_,rfl,_,_,rfl,rfl,_,rfl,?_⟩)⟩
  by_cases hmo:cm.length≤n
  rotate_left
  ·refine tV (decide_eq_true (show(n:Int) < (aag.length:Int) by omega)) ⟨_,rfl,(by show 2≤sizeLine;decide),fun t ht=>?_⟩
   exact k t .non none a cm _ ha aj rfl (ca.mono (aq ht)) (hR _ _ (.over rfl hne hf (by omega))) (sJ.trans (aq ht))
  refine rj (decide_eq_false (show ¬(n:Int) < (aag.length:Int) by omega)) (hk2 _ _ _ (bR fun R2 hk2=>⟨(by decide),fun lf YA=>hk2 _ _ _ (bR fun R2 hk2=>⟨_,rfl,l,rfl,⟨_,aU.of (aq YA _ _ hl)⟩,?_⟩)⟩))
  have sf:=aq (o:=HO.lst []) YA
  have aah:=aj (H:=G) (a:=lf) (o:=HO.lst [])
  have nlf:lf≠l:=fun q=>by rw[q,hl] at YA;cases YA
  have flf:H lf=none:=sJ.free YA
  replace sJ:=sJ.trans sf
  replace hl:=sf _ _ hl
  replace em:=em.keep fun b xs q=>aF sf q
  replace ca:=ca.mono sf
  generalize upd G lf (.lst [])=G1 at sJ hl em ca aah ⊢
  clear sf YA
  refine qQ (K:=K) (a:=l) (xs:=vs) (fun i σ J=>aE H J∧J l=some (.lst vs)∧vV K J vs aW∧∃ fv v5 v7,σ=[some (.ref b),some (.ref qa),some (.int n),some (.ref a),some (.ref l),v5,some (.ref lf),v7]∧J lf=some (.lst fv)∧vV K J fv ((aW.take i).foldl (m9 (cH x cs ts z)) (cm,[])).2∧i9 P w K J a ((aW.take i).foldl (m9 (cH x cs ts z)) (cm,[])).1∧((aW.take i).foldl (m9 (cH x cs ts z)) (cm,[])).1.length≤cm.length+i * 1000∧∀ m∈((aW.take i).foldl (m9 (cH x cs ts z)) (cm,[])).2,m.2.length=cs.length) ⟨sJ,hl,em,[],_,_,rfl,aah,.nil,ca,(by show cm.length≤cm.length+0 * 1000;omega),fun m hm=>nomatch hm⟩ (fun i σ J _ q=>aU.of q.2.1) ?_ ?_
  ·rintro i e2 σ J hi ⟨MT,hl',SY,fv,v5',v7',rfl,hfv,mf,ca',iu',fU⟩
   obtain⟨m,hm,hv⟩:=aQ SY i e2 hi
   have hmU:=eU m (List.mem_of_getElem? hm)
   have hil:=(List.getElem?_eq_some_iff.mp hm).1
   have Us:∀ e∈cH x cs ts z m,e.2.2.length=cs.length:=fun e he=>P9 hmU he
   have Ut:=Dw (x:=x) (cs:=cs) (ts:=ts) (z:=z) (m:=m)
   have ef:(aW.take (i+1)).foldl (m9 (cH x cs ts z)) (cm,[])=(cH x cs ts z m).foldl (iD m) ((aW.take i).foldl (m9 (cH x cs ts z)) (cm,[])):=by rw[aS hm,List.foldl_append];rfl
   rw[ef]
   have hal:((aW.take i).foldl (m9 (cH x cs ts z)) (cm,[])).2.length≤((aW.take i).foldl (m9 (cH x cs ts z)) (cm,[])).1.length:=by
    have q:=jG (led:=cH x cs ts z) (aW.take i) (cm,[])
    simp only[List.length_nil,Nat.add_zero] at q
    omega
   generalize (aW.take i).foldl (m9 (cH x cs ts z)) (cm,[])=acc at mf ca' iu' fU hal ⊢
   have hWG:=hW.mono MT
   obtain⟨dx,mm,ll0,ys,ex,eM,el,tp⟩:=hWG.ok
   obtain⟨bx,rfl⟩:=jO hv
   dsimp only[bK]
   refine⟨_,rfl,_,_,_,rfl,ex,rfl,_,rfl,qa,.ref bx,m,x,cs,ts,z,rfl,hWG,hv,hmU.symm,hcl,DP,fun ll us J2 Wg Ur ld s2=>?_⟩
   have nll:ll≠lf:=fun q=>by rw[q,hfv] at Wg;cases Wg
   have ca2:=ca'.mono s2
   refine⟨ll,rfl,⟨_,aU.of Ur⟩,?_⟩
   generalize hes:cH x cs ts z m=es at ld Us Ut ⊢
   refine qQ (K:=K) (a:=ll) (xs:=us) (fun j σ G=>aE H G∧G ll=some (.lst us)∧zj K G us es∧G l=some (.lst vs)∧vV K G vs aW∧dH K G m (.ref bx)∧∃ fv v7,σ=[some (.ref b),some (.ref qa),some (.int n),some (.ref a),some (.ref l),some (.ref bx),some (.ref lf),v7]∧G lf=some (.lst fv)∧vV K G fv ((es.take j).foldl (iD m) acc).2∧i9 P w K G a ((es.take j).foldl (iD m) acc).1∧((es.take j).foldl (iD m) acc).1.length≤cm.length+i * 1000+j∧∀ m'∈((es.take j).foldl (iD m) acc).2,m'.2.length=cs.length) ⟨MT.trans s2,Ur,ld,s2 _ _ hl',SY.keep (fun b xs q=>aF s2 q),cG s2 hv,fv,_,rfl,s2 _ _ hfv,mf.keep (fun b xs q=>aF s2 q),ca2,iu',fU⟩ (fun j σ G _ q=>aU.of q.2.1) ?_ ?_
   ·rintro j e3 σ G hj ⟨sG,Wh,ldG,hlG,emG,QN,fv,v7',rfl,hfG,YB,YC,iuG,YD⟩
    obtain⟨⟨c,m'⟩,S0,t3,w3,rfl,h3,Wi⟩:=aQ ldG j e3 hj
    have agh:=Us _ (List.mem_of_getElem? S0)
    have ev:(es.take (j+1)).foldl (iD m) acc=iD m ((es.take j).foldl (iD m) acc) (c,m'):=by rw[aS S0,List.foldl_append];rfl
    rw[ev]
    have agi:((es.take j).foldl (iD m) acc).2.length≤((es.take j).foldl (iD m) acc).1.length:=by
     have q:=xN (p:=m) (es.take j) acc
     omega
    generalize (es.take j).foldl (iD m) acc=ac at YB YC iuG YD agi ⊢
    have hjl:=(List.getElem?_eq_some_iff.mp S0).1
    obtain⟨kvs,d,cr⟩:=YC.ok
    have kl:=xQ cr
    obtain⟨b3,rfl⟩:=jO Wi
    have ka:sI (YP P w K) G (bw m') b3:=jN Wi
    dsimp only[bK]
    refine⟨_,rfl,t3,_,_,_,rfl,rfl,aV.of h3,rfl,_,rfl,a,kvs,bw m',b3,rfl,rfl,d,ka,_,rfl,?_⟩
    rw[xP cr]
    cases hh:cX ac.1 m' with
    | true =>
     have e4:iD m ac (c,m')=ac:=if_pos hh
     rw[e4]
     exact dF ⟨sG,Wh,ldG,hlG,emG,QN,fv,_,rfl,hfG,YB,YC,by omega,YD⟩
    | false =>
     have e4:iD m ac (c,m')=(ac.1++[(m',some (m,c))],ac.2++[m']):=if_neg (by rw[hh];decide)
     rw[e4]
     refine lU ?_
     refine⟨_,rfl,_,rfl,t3,_,_,_,rfl,rfl,aV.of h3,rfl,(by show 2≤sizeLine;decide),fun t4 ht4=>?_⟩
     have s4:=aq (o:=HO.tup [.ref bx,.str (sg c)]) ht4
     have g4:=aj (H:=G) (a:=t4) (o:=HO.tup [.ref bx,.str (sg c)])
     generalize upd G t4 (.tup [.ref bx,.str (sg c)])=G4 at s4 g4 ⊢
     have d4:=d.mono s4
     have cr4:=cr.keep fun b xs q=>aF s4 q
     have hm4:=cG s4 Wi
     have lk4:vU K (some (m,c)) G4 (.ref t4):=⟨t4,.ref bx,rfl,aV.of g4,cG s4 QN⟩
     have c5:=i9.put d4 cr4 hm4 hh lk4
     have hkl:kvs.length < sizeLine:=Nat.lt_of_le_of_lt (show kvs.length≤5000000 by omega) (by decide)
     refine⟨_,rfl,_,rfl,t3,_,_,_,rfl,rfl,aV.of (s4 _ _ h3),rfl,a,kvs,bw m',b3,rfl,rfl,d4,sI.mono s4 ka,hkl,?_⟩
     have tq:=uF (F:=K) d4.ob (o:=dN (ZP P w) (aY P w) a (putN kvs (bw m') b3 (.ref t4)))
     have t1:∀ b' xs,G4 b'=some (.tup xs)→(upd G4 a (dN (ZP P w) (aY P w) a (putN kvs (bw m') b3 (.ref t4)))) b'=some (.tup xs):=fun b' xs e=>(aC (f6 e d4.ob (fun q=>nomatch q))).trans e
     have tl:∀ b' xs,G4 b'=some (.lst xs)→(upd G4 a (dN (ZP P w) (aY P w) a (putN kvs (bw m') b3 (.ref t4)))) b'=some (.lst xs):=fun b' xs e=>(aC (f6 e d4.ob (fun q=>nomatch q))).trans e
     have s5:aE H (upd G4 a (dN (ZP P w) (aY P w) a (putN kvs (bw m') b3 (.ref t4)))):=aI ha (sG.trans s4)
     have ll5:=tl _ _ (s4 _ _ Wh)
     have l5:=tl _ _ (s4 _ _ hlG)
     have S3:=tl _ _ (s4 _ _ hfG)
     have ld5:=zj.keep t1 tq (sN s4 ldG)
     have em5:=(emG.keep fun b xs q=>aF s4 q).keep tq
     have mf5:=(YB.keep fun b xs q=>aF s4 q).keep tq
     have hv5:=dH.keep tq (cG s4 QN)
     have hm5:=hm4.keep tq
     have h35:=t1 _ _ (s4 _ _ h3)
     generalize upd G4 a (dN (ZP P w) (aY P w) a (putN kvs (bw m') b3 (.ref t4)))=G5 at c5 s5 ll5 l5 S3 ld5 em5 mf5 hv5 hm5 h35 ⊢
     have fvl:=mf5.length
     refine⟨_,rfl,.inl ⟨rfl,_,aU.of S3⟩,_,rfl,t3,_,_,_,rfl,rfl,aV.of h35,rfl,lf,_,_,rfl,rfl,S3,?_,?_⟩
     ·exact Nat.lt_of_le_of_lt (show fv.length≤5000000 by rw[fvl];omega) (by decide)
     refine⟨aI flf s5,(aC nll).trans ll5,vO S3 ld5,(aC (Ne.symm nlf)).trans l5,em5.keep (fun b xs q=>lg S3 q),EC S3 hv5,fv++[.ref b3],_,rfl,aj,cj (mf5.keep fun b xs q=>lg S3 q) (.cons (EC S3 hm5) .nil),c5.but S3,(by rw[List.length_append];show ac.1.length+1≤_;omega),fun m1 hm1=>?_⟩
     rcases List.mem_append.mp hm1 with z | z
     ·exact YD m1 z
     ·rw[List.mem_singleton.mp z];exact agh
   ·rintro σ G ⟨sG,Wh,ldG,hlG,emG,QN,fv,v7',rfl,hfG,YB,YC,iuG,YD⟩
    rw[ld.length,List.take_of_length_le (Nat.le_refl _)] at YB YC iuG YD
    exact⟨sG,hlG,emG,fv,_,_,rfl,hfG,YB,YC,by omega,YD⟩
  ·rintro σ J ⟨MT,hl',SY,fv,v5',v7',rfl,hfv,mf,ca',iu',fU⟩
   rw[em.length,List.take_of_length_le (Nat.le_refl _)] at mf ca' iu' fU
   exact hk2 _ _ _ ⟨_,rfl,lf,fv,_,_,_,rfl,hf,hmo,MT,hfv,mf,ca',fU⟩
def BF (P:Program) (w:World) (K:W.Frag):Sp:=fun vs H Q _=>∃(a:Addr) (v:V) (cm:(fK cP)) (m:cP) (x:Option (cP×Nat)) (xs:List Nat),vs=[.ref a,v]∧i9 P w K H a cm∧dH K H m v∧AV cm m=some x∧vP cm x xs∧xs.length≤100000∧∀ H',aE H H'→Q (.str (Txt.join ("":Str) (xs.map sg).reverse)) H'
theorem JP:aG P w K mg base bu 1 (av 40) (aJ 40) ["came", "place"] (BF P w K):=by
 refine T.DI.ok qb (fun vs H Q E h=>?_) (fun cdv A outer s H vs Q E hr h=>?_)
 ·obtain⟨a,v,cm,m,x,xs,rfl,_⟩:=h;rfl
 ·have hu:=aX hr
  have gi:=hr.aN
  obtain⟨a,v,cm,m,x,xs,rfl,hC,hm,hx,hp,hxl,k⟩:=h
  have ou:=hr.units
  obtain⟨b,rfl⟩:=jO hm
  refine⟨_,(ai (dW 2 qb.nd (bB ah))
   (ai (dW 3 qb.nd (Gj (YP P w K) (aY P w) rfl rfl rfl (hp2 ou) (pv 0) (pv 1) (fun _ _=>rfl)))
   (ai (FG PassesOwn.never (fJ vp (pv 3) bT)
   (ai (cR (cO K rfl PySem.F.plainAttrs_list PySem.F.slot_list_append PySem.F.type_list_append cJ (pv 2) (af (f9 K (pv 3) ao) ah)))
   (ak (dW 3 qb.nd (Gj (YP P w K) (aY P w) rfl rfl rfl (hp2 ou) (pv 0) (f9 K (pv 3) ao) (fun _ _=>rfl))))))
   (ak (ay (Gp K rfl rfl rfl T.yV az (af (pv 2) ah))))))),?_⟩
  refine⟨(by decide),fun l hl=>⟨_,rfl,_,rfl,?_⟩⟩
  have s1:=aq (o:=HO.lst []) hl
  have hl1:=aj (H:=H) (a:=l) (o:=HO.lst [])
  generalize upd H l (.lst [])=H1 at s1 hl1 ⊢
  obtain⟨kvs,d,cr⟩:=(hC.mono s1).ok
  obtain⟨v,hv,lv⟩:=xR cr hx
  refine⟨a,kvs,bw m,b,v,rfl,rfl,d,jN (cG s1 hm),hv,?_⟩
  dsimp only[bK]
  refine⟨fun n σ J=>∃ done rest x v,σ=[some (.ref a),some (.ref b),some (.ref l),some v]∧aE H J∧J l=some (.lst ((done.map sg).map V.str))∧vU K x J v∧vP cm x rest∧xs=done++rest∧n=rest.length,⟨_,[],xs,x,v,rfl,s1,hl1,lv,hp,rfl,rfl⟩,?_⟩
  rintro n σ J ⟨done,rest,x,v,rfl,sJ,YE,lv,hp,hxs,hn⟩
  cases hp with
  | nil =>
   have lv:v=.non:=lv
   subst lv
   rw[List.append_nil] at hxs
   subst hxs
   refine⟨_,rfl,rfl,_,rfl,rj rfl ?_⟩
   refine⟨_,rfl,_,rfl,l,xs.map sg,rfl,aU.of YE,?_,k J sJ⟩
   rw[Eu,List.length_map]
   show xs.length+xs.length * 0≤_
   omega
  | @cons m1 c1 x1 r1 hx1 hp1 =>
   obtain⟨t,w1,rfl,ht,hw⟩:=lv
   refine⟨_,rfl,rfl,_,rfl,tV rfl ?_⟩
   refine⟨fun σ J=>∃ v,σ=[some (.ref a),some (.ref b),some (.ref l),some v]∧aE H J∧J l=some (.lst (((done++[c1]).map sg).map V.str))∧vU K x1 J v,?_,?_⟩
   ·rintro σ J' ⟨v,rfl,MT,hl',lv'⟩
    exact⟨_,by rw[hn];exact Nat.lt_succ_self _,_,_,_,_,rfl,MT,hl',lv',hp1,by rw[hxs,List.append_assoc];rfl,rfl⟩
   have hdl:done.length≤100000:=by rw[hxs,List.length_append] at hxl;omega
   refine⟨_,rfl,.inl ⟨rfl,_,aU.of YE⟩,_,rfl,t,_,_,_,rfl,rfl,ht,rfl,l,_,_,rfl,rfl,YE,?_,?_⟩
   ·exact Nat.lt_of_le_of_lt (show((done.map sg).map V.str).length≤100000 by rw[List.length_map,List.length_map];exact hdl) (by decide)
   have QO:=lg (o:=HO.lst ((done.map sg).map V.str++[.str (sg c1)])) YE ht
   obtain⟨kvs,d,cr⟩:=((hC.mono sJ).but (o:=HO.lst ((done.map sg).map V.str++[.str (sg c1)])) YE).ok
   obtain⟨v,hv,lv⟩:=xR cr hx1
   have hw2:=dH.keep (fun b xs q=>lg (o:=HO.lst ((done.map sg).map V.str++[.str (sg c1)])) YE q) hw
   obtain⟨b1,rfl⟩:=jO hw2
   refine⟨_,rfl,_,rfl,t,_,_,_,rfl,rfl,QO,rfl,a,kvs,bw m1,b1,v,rfl,rfl,d,jN hw2,hv,?_⟩
   exact⟨v,rfl,aI hl sJ,by rw[List.map_append,List.map_append];exact aj,lv⟩
def sC (K:W.Frag):Sp:=fun vs H Q _=>∃(a o:Addr) (xs os:List V) (t:List (List Str)) (n:Nat),vs=[.ref a,.ref o,.int n]∧H a=some (.lst xs)∧Paired (bP H) xs t∧TabOk t∧(aB t).length≤24∧H o=some (.lst os)∧os.length≤3∧1≤n∧n≤4000∧∀ H',aE H H'→Q .non H'
theorem BG:aG P w K mg base bu 8 (av 41) (aJ 41) ["table", "others", "most"] (sC K):=by
 have uZ:aG P w K mg base bu 1 (av 20) (aJ 20) ["thing", "least", "most"] rZ:=yX T
 have ku:aG P w K mg base bu 7 (av 14) (aJ 14) ["table"] (lC K):=qj T
 refine T.uf.ok Bc (fun vs H Q E h=>?_) (fun cdv A outer s H vs Q E hr h=>?_)
 ·obtain⟨a,o,xs,os,t,n,rfl,_⟩:=h;rfl
 ·have hu:=aX hr
  have gi:=hr.aN
  obtain⟨a,o,xs,os,t,n,rfl,ha,pr,tok,t24,ho,o3,n1,n4,k⟩:=h
  refine⟨_,(ai (aM (fJ tR (iS (aT K rfl) T.bQ (af (dY ku hr T.rO T.nD.kp T.rN (af (pv 0) ah)) ah)) (nh rfl T.Bt.choose_spec)) (ak gQ) aA)
   (ai (aM (fJ tR (iS (aT K rfl) T.bQ (af (pv 1) ah)) (nh rfl T.Bu.choose_spec)) (ak gQ) aA)
   (ak (aM (bF (br (dY uZ hr T.Bl T.uS.kp T.Bk (af (pv 2) (af ao (af (nh rfl T.Bv.choose_spec) ah)))))) (ak gQ) aA)))),?_⟩
  refine⟨_,rfl,a,xs,t,rfl,ha,pr,tok,fun l ys H1 xj hl tp s1=>?_⟩
  have tl:=tp.length
  refine⟨_,_,rfl,.inl (aU.of hl),_,_,rfl,rfl,_,rfl,oH (by omega) (⟨_,rfl,_,_,rfl,.inl (aU.of (s1 _ _ ho)),_,_,rfl,rfl,_,rfl,oH (by omega) (⟨_,rfl,_,_,_,rfl,_,rfl,Yl (by omega) (k _ s1)⟩)⟩)⟩
def LK (P:Program) (w:World) (K:W.Frag) (C CT CM CP:Addr):Sp:=fun vs H Q _=>∃(y dy a o:Addr) (xs os:List V) (t:List (List Str)) (x:bI) (cs:List bI) (n:Nat),vs=[.ref y,.ref a,.ref o,.int n]∧H y=some (.ins C dy (Cd x))∧nk x∧H a=some (.lst xs)∧Paired (bP H) xs t∧TabOk t∧H o=some (.lst os)∧xm C H os cs∧(∀ c∈cs,nk c)∧cs.length≤20∧(aB t).length≤24∧cs.length≤3∧1≤n∧n≤4000∧∀ tt r cm aW k H',aE H H'→H tt=none→vS (cA (aB t)) (cH x cs (aB t) (fZ (x :: cs) t)) (some n) [(bV cs.length,none)] [bV cs.length] r cm→SG (cA (aB t)) (cH x cs (aB t) (fZ (x :: cs) t)) (some n) (bV cs.length) r cm aW k→Z3 K (cH x cs (aB t) (fZ (x :: cs) t)) (bV cs.length) n r cm k H H' tt→Q (.ref tt) H'
theorem S4:aG P w K mg base bu 12 (av 42) (aJ 42) ["dialect", "table", "others", "most"] (LK P w K (av 67) (av 68) (av 69) (av 70)):=by
 have jm:aG P w K mg base bu 10 (av 18) (aJ 18) ["self", "dialect", "table", "others"] (iJ K (av 67) (av 68) (av 69) (av 70)):=mV T
 have CB:aG P w K mg base bu 8 (av 41) (aJ 41) ["table", "others", "most"] (sC K):=BG T
 have oz:aG P w K mg base bu 1 (av 36) (aJ 36) ["others"] (mX K):=sy T
 have QS:aG P w K mg base bu 7 (av 39) (aJ 39) ["first", "searched", "most"] (DR P w K (av 67) (av 68) (av 69) (av 70)):=MS T
 have MU:aG P w K mg base bu 1 (av 40) (aJ 40) ["came", "place"] (BF P w K):=JP T
 refine T.yc.ok EF (fun vs H Q E h=>?_) (fun cdv A outer s H vs Q E hr h=>?_)
 ·obtain⟨y,dy,a,o,xs,os,t,x,cs,n,rfl,_⟩:=h;rfl
 ·have hu:=aX hr
  have gi:=hr.aN
  obtain⟨y,dy,a,o,xs,os,t,x,cs,n,rfl,hy,gx,ha,pr,tok,ho,mk,gs,hcl,t24,c3,n1,n4,k⟩:=h
  have ou:=hr.units
  have mkl:=mk.length
  refine⟨_,(ai (cR (dY CB hr T.Cr T.uf.kp T.Cq (af (pv 1) (af (pv 2) (af (pv 3) ah)))))
   (ai (dW 4 EF.nd (dY QS hr T.Qz T.Hq.kp T.Qy (af (dY oz hr T.ud T.oi.kp T.uc (af (pv 2) ah)) (af (nc (k:=10) T.HB jm (hr.mono (by decide)) rfl T.HA T.nE .nil gh (af (pv 0) (af (pv 1) (af (pv 2) ah)))) (af (pv 3) ah)))))
   (ai (dW 5 EF.nd (f9 K (pv 4) ao))
   (ai (aM (fJ vp (f9 K (pv 4) ao) bT) (ak (ay (aL (af az (af (dY MU hr T.MK T.DI.kp T.MJ (af (pv 5) (af (f9 K (pv 4) ao) ah))) ah))))) aA)
   (ai (aM (fJ tR (iS (Dh (YP P w K) (aY P w) rfl rfl rfl) T.bQ (af (pv 5) ah)) (pv 3)) (ak (ay (aL (af az ah)))) aA)
   (ak (ay (aL (af az (af (Yp (Jk (YP P w K) (aY P w) rfl rfl rfl rfl) T.sQ (af (pv 5) ah)) ah)))))))))),?_⟩
  refine⟨_,rfl,_,rfl,_,rfl,a,o,xs,os,t,n,rfl,ha,pr,tok,t24,ho,by omega,n1,n4,fun H1 s1=>?_⟩
  dsimp only[bK]
  refine⟨_,rfl,o,os,rfl,s1 _ _ ho,by omega,fun v0 H2 s2 hv0=>?_⟩
  have s12:=s1.trans s2
  rw[mkl] at hv0
  refine⟨_,rfl,_,rfl,_,rfl,fun q dq hq MV ne=>⟨q,dq,y,dy,a,o,xs,os,t,x,cs,rfl,aj,fP hq MV (s12 _ _ hy),gx,fP hq MV (s12 _ _ ha),aH (fun a b h=>bP.mono (s12.trans (lR hq MV)) h) pr,tok,fP hq MV (s12 _ _ ho),xm.mono (s12.trans (lR hq MV)) mk,gs,hcl,fun H3 hP kp=>⟨rfl,?_⟩⟩⟩
  have s3:=lP hq MV kp
  have s13:=s12.trans s3
  have Up:∀ c∈x :: cs,nk c:=fun c hc=>by
   rcases List.mem_cons.mp hc with q | q
   ·rw[q];exact gx
   ·exact gs c q
  have DP:=GW Up tok
  rw[List.length_cons] at DP
  have hp0:(bV cs.length).2.length=cs.length:=List.length_replicate
  refine⟨_,rfl,q,v0,n,bV cs.length,x,cs,aB t,fZ (x :: cs) t,rfl,hP,cG s3 hv0,hp0,by omega,by omega,n4,fun tf rv r a2 cm H4 _ htf Wj S0 Mx s4=>?_⟩
  have NV:=s13.trans s4
  dsimp only[bK]
  refine⟨_,rfl,tf,_,_,_,rfl,rfl,aV.of htf,rfl,?_⟩
  dsimp only[bK]
  obtain⟨aW,kk,hE,hkk⟩:=Qc Mx
  cases r with
  | none =>
   have Wj:rv=.non:=Wj
   subst Wj
   obtain⟨kvs,nd0,cr0⟩:=S0.ok
   have kl:=xQ cr0
   refine⟨_,rfl,tf,_,_,_,rfl,rfl,aV.of htf,rfl,rfl,_,rfl,rj rfl ?_⟩
   refine⟨_,rfl,a2,kvs,rfl,nd0,_,rfl,_,_,rfl,rfl,_,rfl,?_⟩
   by_cases hmo:n < cm.length
   ·refine tV (decide_eq_true (show(n:Int) < (kvs.length:Int) by omega)) ⟨(by show 1≤sizeLine;decide),fun tt Bw=>?_⟩
    exact k tt none cm aW kk _ (NV.trans (aq Bw)) (NV.free Bw) Mx hE (.inl ⟨hmo,aj⟩)
   ·refine rj (decide_eq_false (show ¬(n:Int) < (kvs.length:Int) by omega)) ?_
    refine⟨_,rfl,a2,kvs,rfl,nd0,fun l hl=>⟨(by show 2≤sizeLine;decide),fun tt Bw=>?_⟩⟩
    have f1:=aq (o:=HO.lst (kvs.map fun e=>V.ref e.2.1)) hl
    have f2:=aq (o:=HO.tup [.str ("none":Str),.ref l]) Bw
    exact k tt none cm aW kk _ (NV.trans (f1.trans f2)) ((NV.trans f1).free Bw) Mx hE (.inr ⟨by omega,l,_,aj,NV.free hl,f2 _ _ aj,(AX cr0).keep fun b xs q=>aF (f1.trans f2) q⟩)
  | some m1 =>
   have Wj:dH K H4 m1 rv:=Wj
   obtain⟨b1,rfl⟩:=jO Wj
   have hmem:=List.mem_of_find?_eq_some hE.res.symm
   obtain⟨⟨x1,DS,v1,l1,w1,e1⟩,_⟩:=hE.dG.edg m1 hmem
   have hk1:=hkk (List.ne_nil_of_mem hmem)
   refine⟨_,rfl,tf,_,_,_,rfl,rfl,aV.of htf,rfl,rfl,_,rfl,tV rfl ?_⟩
   refine⟨_,rfl,_,rfl,tf,_,_,_,rfl,rfl,aV.of htf,rfl,a2,.ref b1,cm,m1,x1,DS,rfl,S0,Wj,v1,l1,by omega,fun H5 s5=>⟨(by show 2≤sizeLine;decide),fun tt Bw=>?_⟩⟩
   refine k tt (some m1) cm aW kk _ (NV.trans (s5.trans (aq Bw))) ((NV.trans s5).free Bw) Mx hE ⟨DS.reverse,?_,w1,by rw[List.length_reverse];exact e1,hk1⟩
   rw[List.map_reverse]
   exact aj
def uo:Sp:=fun vs H Q _=>∃ z:Str,vs=[.str z]∧bU z∧z.length≤2000∧∀ H',aE H H'→Q .non H'
theorem CC:aG P w K mg base bu 4 (av 43) (aJ 43) ["thing"] uo:=by
 have yj:aG P w K mg base bu 3 (av 21) (aJ 21) ["thing"] (uX K):=BC T
 refine T.wo.ok Ci (fun vs H Q E h=>?_) (fun cdv A outer s H vs Q E hr h=>?_)
 ·obtain⟨z,rfl,_⟩:=h;rfl
 ·have hu:=aX hr
  have gi:=hr.aN
  obtain⟨z,rfl,g,hz,k⟩:=h
  refine⟨_,(ak (aM (bF (br (dY yj hr T.DF T.xY.kp T.DE (af (pv 0) ah)))) (ak gQ) aA)),?_⟩
  refine⟨_,rfl,.str z,rfl,.str z,fun z' e=>(by cases e;omega),fun H1 s1=>?_⟩
  rw[Lr g,decide_eq_true (show(z.length:Int)≤2000 by omega)]
  exact⟨true,rfl,dF (k H1 s1)⟩
def LL (K:W.Frag) (C:Addr):Sp:=fun vs H Q _=>∃(x dx:Addr) (z:Str) (p q f:Str) (b1 b2 b3 b4:Bool),vs=[.ref x,.str z]∧H x=some (.ins C dx (AF p q f b1 b2 b3 b4))∧Gd p q f∧bU z∧z.length≤2000∧∀(tw lk s:Addr) H',H' tw=some (.tup [.ref lk,.ref s,Pr (runM p q f b1 b2 b3 b4 ("row":Str) ("":Str) z.cps.toList).2.2.2])→H lk=none→H' lk=some (.lst ((runM p q f b1 b2 b3 b4 ("row":Str) ("":Str) z.cps.toList).1.map V.str))→aV K H' s [.str (runM p q f b1 b2 b3 b4 ("row":Str) ("":Str) z.cps.toList).2.1,.str (runM p q f b1 b2 b3 b4 ("row":Str) ("":Str) z.cps.toList).2.2.1]→aE H H'→Q (.ref tw) H'
theorem S5:aG P w K mg base bu 8 (av 44) (aJ 44) ["dialect", "text"] (LL K (av 67)):=by
 have kH:aG P w K mg base bu 6 (av 5) (aJ 5) ["self", "dialect"] (jK (av 67) (av 68)):=pA T
 have sq:aG P w K mg base bu 3 (av 32) (aJ 32) ["self", "state", "sign"] (qk K (av 67) (av 68)):=wI T
 have E4:aG P w K mg base bu 4 (av 43) (aJ 43) ["thing"] uo:=CC T
 refine T.QA.ok qc (fun vs H Q E h=>?_) (fun cdv A outer s H vs Q E hr h=>?_)
 ·obtain⟨x,dx,z,p,q,f,b1,b2,b3,b4,rfl,_⟩:=h;rfl
 ·have hu:=aX hr
  have gi:=hr.aN
  obtain⟨x,dx,z,p,q,f,b1,b2,b3,b4,rfl,hx,g,hz,hz2,k⟩:=h
  refine'⟨_,?aa,?bb⟩
  case aa =>
   refine' ai ?s0 ?r0
   case s0 =>
    exact(cR (dY E4 hr T.EN T.wo.kp T.EM (af (pv 1) ah)))
   case r0 =>
    refine' ai ?s1 ?r1
    case s1 =>
     exact(dW 2 qc.nd (nc (k:=6) T.QE kH (hr.mono (by decide)) rfl T.QD T.qy .nil gh (af (pv 0) ah)))
    case r1 =>
     refine' ai ?s2 ?r2
     case s2 =>
      refine' dW 3 qc.nd ?v3
      case v3 =>
       refine' bB ?a4
       case a4 =>
        exact ah
     case r2 =>
      refine' ai ?s5 ?r5
      case s5 =>
       exact(dW 4 qc.nd (iP rfl T.jg))
      case r5 =>
       refine' ai ?s6 ?r6
       case s6 =>
        exact(fq PassesOwn.never rfl (qT (pv 1)) (jY 5 qc.nd)
     (ai (dW 6 qc.nd (ie (k:=3) (pv 2) T.ig T.yP sq (hr.mono (by decide)) T.yO .nil gh (af (pv 4) (af (pv 5) ah))))
     (ai (aM (fJ bA (f9 K (pv 6) ao) az) (ak (ay (aL (af (pv 3) (af (pv 4) (af (f9 K (pv 6) ao) ah)))))) aA)
     (ai (cR (cO K rfl PySem.F.plainAttrs_list PySem.F.slot_list_append PySem.F.type_list_append cJ (pv 3) (af (f9 K (pv 6) ao) ah)))
     (ak (dW 4 qc.nd (f9 K (pv 6) ao)))))))
       case r6 =>
        refine' ak ?s7
        case s7 =>
         refine' ay ?v8
         case v8 =>
          refine' aL ?a9
          case a9 =>
           refine' af ?x10 ?y10 ?z10
           case z10=>exact rfl
           case x10 =>
            exact(pv 3)
           case y10 =>
            refine' af ?x11 ?y11 ?z11
            case z11=>exact rfl
            case x11 =>
             exact(pv 4)
            case y11 =>
             refine' af ?x12 ?y12 ?z12
             case z12=>exact rfl
             case x12 =>
              exact bT
             case y12 =>
              exact ah
  refine⟨_,rfl,z,rfl,hz,hz2,fun H1 s1=>?_⟩
  refine⟨_,rfl,fun y dy hy R7 ne=>⟨y,dy,x,dx,p,q,f,b1,b2,b3,b4,rfl,aj,fP hy R7 (s1 _ _ hx),g,fun H2 hT kp=>⟨rfl,?_⟩⟩⟩
  have s2:=s1.trans (lP hy R7 kp)
  refine⟨by decide,fun lk hlk=>?_⟩
  have s3:=aq (o:=HO.lst []) hlk
  have xj:H lk=none:=s2.free hlk
  refine⟨_,rfl,z,rfl,?_⟩
  refine vt (fun i σ H4=>aE H H4∧∃(w u:Str) (s:Addr) (ks:List Str) (v1 v2:Option V),σ=[some (.ref x),some (.str z),some (.ref y),some (.ref lk),some (.ref s),v1,v2]∧Tn (av 67) (av 68) H4 y p q f b1 b2 b3 b4∧H4 lk=some (.lst (ks.map V.str))∧aV K H4 s [.str w,.str u]∧ks.length=i∧runM p q f b1 b2 b3 b4 ("row":Str) ("":Str) z.cps.toList=Jr ks (runM p q f b1 b2 b3 b4 w u (z.cps.toList.drop i))) ⟨s2.trans s3,_,_,(av 81),[],_,_,rfl,hT.mono s3,aj,.inr T.jh,rfl,rfl⟩ ?_ ?_
  ·rintro i c σ H4 hi ⟨s4,w,u,s,ks,v1,v2,rfl,hT4,h4,hs,hkl,er⟩
   rw[drop_cons hi] at er
   have hil:=(List.getElem?_eq_some_iff.mp hi).1
   rw[Array.length_toList] at hil
   have hil:i < z.length:=hil
   obtain⟨dy4,d4,dd4,ey4,ed4⟩:=hT4.ok
   refine⟨_,rfl,y,dy4,_,rfl,ey4,rfl,_,rfl,_,rfl,y,s,w,u,c,p,q,f,b1,b2,b3,b4,rfl,hT4,hs,fun v H5 s5 r=>?_⟩
   have h5:=s5 _ _ h4
   cases We:bE p q f b1 b2 b3 b4 w u c with
   | go kd w3 u3 =>
    rw[We] at r
    obtain⟨hk,a,b,rfl,ha,hb⟩:=r
    refine⟨_,rfl,a,_,_,_,rfl,rfl,ha,rfl,rfl,_,rfl,rj hk ?_⟩
    refine⟨_,rfl,.inl ⟨rfl,_,aU.of h5⟩,_,rfl,a,_,_,_,rfl,rfl,ha,rfl,lk,_,_,rfl,rfl,h5,?_,?_⟩
    ·rw[List.length_map];exact Nat.lt_of_le_of_lt (show ks.length≤2000 by omega) (by decide)
    refine⟨_,rfl,a,_,_,_,rfl,rfl,lg h5 ha,rfl,aI xj (s4.trans s5),w3,u3,b,ks++[kd],_,_,rfl,Tn.but h5 (hT4.mono s5),?_,lg h5 hb,by rw[List.length_append,hkl];rfl,er.trans (Vz We)⟩
    rw[List.map_append];exact aj
   | pL e =>
    rw[We] at r
    obtain⟨a,rfl,ha⟩:=r
    refine⟨_,rfl,a,_,_,_,rfl,rfl,ha,rfl,rfl,_,rfl,tV (bh _) ?_⟩
    refine⟨_,rfl,_,rfl,_,rfl,a,_,_,_,rfl,rfl,ha,rfl,(by show 3≤sizeLine;decide),fun t ht=>?_⟩
    have st:=aq (o:=HO.tup [.ref lk,.ref s,.str e]) ht
    rw[R8 We] at er
    refine k t lk s _ ?_ xj ?_ ?_ ((s4.trans s5).trans st)
    ·rw[er];exact aj
    ·rw[er];exact st _ _ h5
    ·rw[er];exact aF (s5.trans st) hs
  ·rintro σ H4 ⟨s4,w,u,s,ks,v1,v2,rfl,hT4,h4,hs,hkl,er⟩
   rw[List.drop_length,R9] at er
   refine⟨_,rfl,_,rfl,(by show 3≤sizeLine;decide),fun t ht=>?_⟩
   have st:=aq (o:=HO.tup [.ref lk,.ref s,.non]) ht
   refine k t lk s _ ?_ xj ?_ ?_ (s4.trans st)
   ·rw[er];exact aj
   ·rw[er];exact st _ _ h4
   ·rw[er];exact aF st hs
def DT (K:W.Frag):Sp:=fun vs H Q _=>∃(tw lk s:Addr) (ks:List Str) (w u:Str) (o:Option Str),vs=[.ref tw]∧H tw=some (.tup [.ref lk,.ref s,Pr o])∧H lk=some (.lst (ks.map V.str))∧aV K H s [.str w,.str u]∧(o=none→yL w u=true→Q .non H)∧((o=none→yL w u=false)→∀ t,H t=none→Q (.ref t) (upd H t (.tup [.int ks.length,.int (agb ks),.str (o.getD ("cut":Str))])))
theorem MW:aG P w K mg base bu 1 (av 45) (aJ 45) ["walked"] (DT K):=by
 refine T.Hr.ok xX (fun vs H Q E h=>?_) (fun cdv A outer s H vs Q E hr h=>?_)
 ·obtain⟨tw,lk,s,ks,w,u,o,rfl,_⟩:=h;rfl
 ·have hu:=aX hr
  have gi:=hr.aN
  obtain⟨tw,lk,s,ks,w,u,o,rfl,ht,hk,hs,k1,k2⟩:=h
  have hT:aV K H tw [.ref lk,.ref s,Pr o]:=aV.of ht
  refine⟨_,(ai (dW 1 xX.nd (f9 K (pv 0) ao))
   (ai (dW 2 xX.nd (f9 K (pv 0) ao))
   (ai (aM (PW.pt (kE (fJ nV (pv 2) bT) (iN (fJ (Vc K rfl gi) (f9 K (pv 0) ao) (iP rfl T.jg))))) (ak (ay bT)) aA)
   (ak (ay (aL (af (iS (aT K rfl) T.bQ (af (pv 1) ah)) (af (cO K rfl PySem.F.plainAttrs_list PySem.F.slot_list_count PySem.F.type_list_count (IW K rfl) (pv 1) (af az ah)) (af (oA (fJ nV (pv 2) bT) az (pv 2)) ah))))))))),?_⟩
  refine⟨_,rfl,tw,_,_,_,rfl,rfl,hT,rfl,_,rfl,tw,_,_,_,rfl,rfl,hT,rfl,?_⟩
  cases o with
  | none =>
   refine⟨_,rfl,rfl,_,rfl,tV (decide_eq_true rfl) ?_⟩
   refine⟨_,rfl,tw,_,_,_,rfl,rfl,hT,rfl,s,(av 81),_,_,rfl,rfl,hs,.inr T.jh,rfl,rfl,_,rfl,bW (fun (h1:yL w u=true)=>?_) (fun (h1:¬yL w u=true)=>?_)⟩
   ·exact k1 rfl h1
   ·refine⟨_,rfl,lk,_,rfl,.inl (aU.of hk),_,rfl,.inl ⟨rfl,_,aU.of hk⟩,lk,_,_,rfl,rfl,aU.of hk,rfl,Dk ks,_,rfl,rfl,_,rfl,tV (decide_eq_true rfl) ?_⟩
    rw[List.length_map]
    exact⟨(by show 3≤sizeLine;decide),fun t ht=>k2 (fun _=>vI h1) t ht⟩
  | some e =>
   refine⟨_,rfl,rfl,_,rfl,rj (decide_eq_false (by intro z;cases z)) (dF ?_)⟩
   refine⟨_,rfl,lk,_,rfl,.inl (aU.of hk),_,rfl,.inl ⟨rfl,_,aU.of hk⟩,lk,_,_,rfl,rfl,aU.of hk,rfl,Dk ks,_,rfl,rfl,_,rfl,rj (decide_eq_false (by intro z;cases z)) ?_⟩
   rw[List.length_map]
   exact⟨_,rfl,(by show 3≤sizeLine;decide),fun t ht=>k2 (fun z=>by cases z) t ht⟩
def yY (K:W.Frag):Sp:=fun vs H Q _=>∃(z:Str) (lk:Addr) (ks:List Str),vs=[.str z,.ref lk]∧H lk=some (.lst (ks.map V.str))∧z.length≤2000∧∀(l:Addr) (es:List V) (H':Hp),H l=none→H' l=some (.lst es)→V.ref l∉es→es.Nodup→pV H H' es (GH z ks)→aE H H'→Q (.ref l) H'
theorem HE:aG P w K mg base bu 1 (av 46) (aJ 46) ["text", "kinds"] (yY K):=by
 refine T.Bq.ok cV (fun vs H Q E h=>?_) (fun cdv A outer s H vs Q E hr h=>?_)
 ·obtain⟨z,lk,ks,rfl,_⟩:=h;rfl
 ·have hu:=aX hr
  have gi:=hr.aN
  obtain⟨z,lk,ks,rfl,hk,hz,k⟩:=h
  refine⟨_,(ai (dW 2 cV.nd (bB ah))
   (ai (dW 3 cV.nd (bB ah))
   (ai (dW 4 cV.nd az)
   (ai (fq PassesOwn.never rfl (OS K rfl rfl T.EX (af (pv 0) (af (pv 1) ah))) (ng K rfl 2 rfl (bX (jY 5 cV.nd) (bX (jY 6 cV.nd) kX)))
   (ak (aM (fJ bA (pv 6) az) (ak (dW 4 cV.nd (aO bY (pv 4) (pv 5)))) (ak (aM (fJ bA (pv 6) az) (ai (cR (cO K rfl PySem.F.plainAttrs_list PySem.F.slot_list_append PySem.F.type_list_append cJ (pv 3) (af (pv 4) ah)))
   (ak (dW 4 cV.nd az))) (ak (aM (fJ bA (pv 6) az) (ai (cR (cO K rfl PySem.F.plainAttrs_list PySem.F.slot_list_append PySem.F.type_list_append cJ (pv 3) (af (pv 4) ah)))
   (ai (cR (cO K rfl PySem.F.plainAttrs_list PySem.F.slot_list_append PySem.F.type_list_append cJ (pv 2) (af (pv 3) ah)))
   (ai (dW 3 cV.nd (bB ah))
   (ak (dW 4 cV.nd az))))) aA)))))))
   (ak (ay (pv 2))))))),?_⟩
  refine⟨by decide,fun lt hlt=>?_⟩
  have s1:=aq (o:=HO.lst []) hlt
  refine⟨by decide,fun r0 hr0=>?_⟩
  have s2:=aq (o:=HO.lst []) hr0
  have a1:(upd (upd H lt (.lst [])) r0 (.lst [])) lt=some (.lst []):=s2 _ _ aj
  have a2:(upd (upd H lt (.lst [])) r0 (.lst [])) r0=some (.lst []):=aj
  have n0:r0≠lt:=fun q=>by rw[q,aj] at hr0;cases hr0
  have fr:=s1.free hr0
  have s12:=s1.trans s2
  generalize upd (upd H lt (.lst [])) r0 (.lst [])=H1 at a1 a2 s12 ⊢
  refine⟨_,rfl,_,rfl,z,lk,rfl,⟨_,aU.of (s12 _ _ hk)⟩,?_⟩
  have hz':z.cps.size≤2000:=hz
  have e0:("":Str).length=0:=by decide +kernel
  refine OT (K:=K) (z:=z) (b:=lk) (ys:=ks.map V.str) (fun i σ H2=>aE H H2∧∃ rr es row cell v5 v6,σ=[some (.str z),some (.ref lk),some (.ref lt),some (.ref rr),some (.str cell),v5,v6]∧H rr=none∧H2 lt=some (.lst es)∧H2 rr=some (.lst (row.map V.str))∧rr≠lt∧V.ref lt∉es∧V.ref rr∉es∧es.Nodup∧∃ rows,pV H H2 es rows∧rm GG (z.cps.toList.take i) (ks.take i)=⟨rows,row,cell⟩∧cell.length≤i∧row.length≤i∧es.length≤i) ⟨s12,r0,[],[],_,_,_,rfl,fr,a1,a2,n0,by simp,by simp,List.nodup_nil,[],.nil,rfl,by rw[e0];exact Nat.le_refl _,Nat.le_refl _,Nat.le_refl _⟩ (fun i σ H2 _ q=>aU.of (q.1 _ _ hk)) ?_ ?_
  ·rintro i c y t σ H2 hc hy ht ⟨s3,rr,es,row,cell,v5,v6,rfl,Wk,b1,b2,nr,n1,n2,nd,rows,rw',hg,l1,l2,l3⟩
   obtain⟨kd,hkd,rfl⟩:=Er hy
   have hil:=(Array.getElem?_eq_some_iff.mp hc).1
   have hc':z.cps.toList[i]? = some c:=by simpa using hc
   have NW:=Dm GG z.cps.toList ks i c kd hc' hkd
   rw[hg] at NW
   have st:=aq (o:=HO.tup [.str (sg c),.str kd]) ht
   refine⟨t,_,rfl,aV.of aj,rfl,_,_,rfl,_,_,rfl,rfl,?_⟩
   have s4:=s3.trans st
   replace b1:=st _ _ b1
   replace b2:=st _ _ b2
   replace rw':=pV.mono st rw'
   generalize upd H2 t (.tup [.str (sg c),.str kd])=H3 at s4 b1 b2 rw' ⊢
   clear st ht s3
   unfold GF at NW
   refine⟨_,rfl,rfl,_,rfl,bW (fun h1=>?_) (fun h1=>?_)⟩
   ·have h1:bz kd ("put":Str)=true:=h1
    rw[if_pos h1] at NW
    refine⟨_,rfl,_,rfl,_,_,rfl,rfl,Nat.le_trans (show cell.length+1≤2001 by omega) (by decide),?_⟩
    exact⟨s4,rr,es,row,_,_,_,rfl,Wk,b1,b2,nr,n1,n2,nd,rows,rw',NW,by rw[cg];show cell.length+1≤_;omega,by omega,by omega⟩
   have h1:¬bz kd ("put":Str)=true:=h1
   rw[if_neg h1] at NW
   refine⟨_,rfl,rfl,_,rfl,bW (fun h2=>?_) (fun h2=>?_)⟩
   ·have h2:bz kd ("part":Str)=true:=h2
    rw[if_pos h2] at NW
    refine⟨_,rfl,.inl ⟨rfl,_,aU.of b2⟩,_,rfl,rr,_,_,rfl,rfl,b2,by rw[List.length_map];exact Nat.lt_of_le_of_lt l2 (Nat.lt_of_lt_of_le (show i < 2001 by omega) (by decide)),?_⟩
    refine⟨aI Wk s4,rr,es,row++[cell],_,_,_,rfl,Wk,(aC (Ne.symm nr)).trans b1,by rw[aj,List.map_append];rfl,nr,n1,n2,nd,rows,pV.but n2 rw',NW,by rw[e0];omega,by rw[List.length_append];show row.length+1≤_;omega,by omega⟩
   have h2:¬bz kd ("part":Str)=true:=h2
   rw[if_neg h2] at NW
   refine⟨_,rfl,rfl,_,rfl,bW (fun h3=>?_) (fun h3=>?_)⟩
   ·have h3:bz kd ("end":Str)=true:=h3
    rw[if_pos h3] at NW
    refine⟨_,rfl,.inl ⟨rfl,_,aU.of b2⟩,_,rfl,rr,_,_,rfl,rfl,b2,by rw[List.length_map];exact Nat.lt_of_le_of_lt l2 (Nat.lt_of_lt_of_le (show i < 2001 by omega) (by decide)),?_⟩
    have c1:(upd H3 rr (.lst (row.map V.str++[.str cell]))) lt=some (.lst es):=(aC (Ne.symm nr)).trans b1
    refine⟨_,rfl,.inl ⟨rfl,_,aU.of c1⟩,_,rfl,lt,es,_,rfl,rfl,c1,Nat.lt_of_le_of_lt l3 (Nat.lt_of_lt_of_le (show i < 2001 by omega) (by decide)),?_⟩
    have s5:aE H (upd (upd H3 rr (.lst (row.map V.str++[.str cell]))) lt (.lst (es++[.ref rr]))):=aI hlt (aI Wk s4)
    have d1:(upd (upd H3 rr (.lst (row.map V.str++[.str cell]))) lt (.lst (es++[.ref rr]))) lt=some (.lst (es++[.ref rr])):=aj
    have d2:(upd (upd H3 rr (.lst (row.map V.str++[.str cell]))) lt (.lst (es++[.ref rr]))) rr=some (.lst ((row++[cell]).map V.str)):=by rw[aC nr,aj,List.map_append];rfl
    have nl:V.ref lt∉es++[V.ref rr]:=fun q=>by
     rcases List.mem_append.mp q with q | q
     ·exact n1 q
     ·exact nr (V.ref.inj (List.mem_singleton.mp q)).symm
    have YF:pV H (upd (upd H3 rr (.lst (row.map V.str++[.str cell]))) lt (.lst (es++[.ref rr]))) (es++[.ref rr]) (rows++[row++[cell]]):=pV.app (pV.but n1 (pV.but n2 rw')) (.cons ⟨rr,rfl,Wk,d2⟩ .nil)
    have nd5:(es++[V.ref rr]).Nodup:=List.nodup_append.mpr ⟨nd,by simp,fun x hx y hy e=>n2 (by rw[List.mem_singleton.mp hy] at e;exact e ▸ hx)⟩
    generalize upd (upd H3 rr (.lst (row.map V.str++[.str cell]))) lt (.lst (es++[.ref rr]))=H5 at s5 d1 d2 YF ⊢
    refine⟨by decide,fun r2 hr2=>?_⟩
    have sn:=aq (o:=HO.lst []) hr2
    have nr2:r2≠lt:=fun q=>by rw[q,d1] at hr2;cases hr2
    refine⟨s5.trans sn,r2,es++[.ref rr],[],_,_,_,rfl,s5.free hr2,sn _ _ d1,aj,nr2,nl,fun q=>?_,nd5,_,pV.mono sn YF,NW,by rw[e0];omega,Nat.zero_le _,by rw[List.length_append];show es.length+1≤_;omega⟩
    obtain⟨_,ys,hys⟩:=YF.has q
    rw[hys] at hr2;cases hr2
   have h3:¬bz kd ("end":Str)=true:=h3
   rw[if_neg h3] at NW
   exact⟨s4,rr,es,row,cell,_,_,rfl,Wk,b1,b2,nr,n1,n2,nd,rows,rw',NW,by omega,by omega,by omega⟩
  ·rintro σ H2 ⟨s3,rr,es,row,cell,v5,v6,rfl,Wk,b1,b2,nr,n1,n2,nd,rows,rw',hg,l1,l2,l3⟩
   refine⟨_,rfl,k lt es H2 hlt b1 n1 nd ?_ s3⟩
   have e:min z.cps.size (ks.map V.str).length=min z.cps.toList.length ks.length:=by
    have ez:z.cps.toList.length=z.cps.size:=Array.length_toList
    rw[List.length_map,ez]
   rw[e,GI] at hg
   have:GH z ks=rows:=by unfold GH;rw[hg]
   rw[this]
   exact rw'
def uq (K:W.Frag) (C:Addr):Sp:=fun vs H Q _=>∃(x dx:Addr) (z:Str) (p q f:Str) (b1 b2 b3 b4:Bool),vs=[.ref x,.str z]∧H x=some (.ins C dx (AF p q f b1 b2 b3 b4))∧Gd p q f∧bU z∧z.length≤2000∧∀ v H',Yq H H' v (PD (Sb p q f b1 b2 b3 b4 z) z)→aE H H'→Q v H'
theorem CD:aG P w K mg base bu 9 (av 47) (aJ 47) ["dialect", "text"] (uq K (av 67)):=by
 have QT:aG P w K mg base bu 1 (av 45) (aJ 45) ["walked"] (DT K):=MW T
 have JQ:aG P w K mg base bu 1 (av 46) (aJ 46) ["text", "kinds"] (yY K):=HE T
 have Wl:aG P w K mg base bu 8 (av 44) (aJ 44) ["dialect", "text"] (LL K (av 67)):=S5 T
 refine T.qe.ok tY (fun vs H Q E h=>?_) (fun cdv A outer s H vs Q E hr h=>?_)
 ·obtain⟨x,dx,z,p,q,f,b1,b2,b3,b4,rfl,_⟩:=h;rfl
 ·have hu:=aX hr
  have gi:=hr.aN
  obtain⟨x,dx,z,p,q,f,b1,b2,b3,b4,rfl,hx,g,hz,hz2,k⟩:=h
  have hw:=fun e=>GD (p:=p) (q:=q) (f:=f) (b1:=b1) (b2:=b2) (b3:=b3) (b4:=b4) (w:=Str.ofString "row") (u:=Str.ofString "") (cs:=z.cps.toList) (e:=e)
  refine⟨_,(ai (dW 2 tY.nd (dY Wl hr T.VQ T.QA.kp T.VP (af (pv 0) (af (pv 1) ah))))
   (ai (aM (fJ vp (dY QT hr T.QC T.Hr.kp T.QB (af (pv 2) ah)) bT) (ak (ay bT)) aA)
   (ak (ay (dY JQ hr T.JJ T.Bq.kp T.JI (af (pv 1) (af (f9 K (pv 2) ao) ah))))))),?_⟩
  refine⟨_,rfl,_,rfl,x,dx,z,p,q,f,b1,b2,b3,b4,rfl,hx,g,hz,hz2,fun tw lk s H1 ht xj hk hs s1=>?_⟩
  unfold Sb at k
  generalize runM p q f b1 b2 b3 b4 ("row":Str) ("":Str) z.cps.toList=r at ht hk hs hw k
  refine⟨_,rfl,tw,lk,s,r.1,r.2.1,r.2.2.1,r.2.2.2,rfl,ht,hk,hs,fun h1 h2=>?_,fun h1 t ht5=>?_⟩
  ·refine⟨rfl,_,rfl,Po (decide_eq_true rfl) ?_⟩
   have hW:Eo r=Str.ofString "" := by unfold Eo;rw[h1];exact if_pos h2
   refine⟨_,rfl,_,rfl,tw,_,_,_,rfl,rfl,aV.of ht,rfl,z,lk,r.1,rfl,hk,hz2,fun l es H2 hl hl2 nl nd rw2 s2=>?_⟩
   refine k (.ref l) H2 ?_ (s1.trans s2)
   unfold PD
   rw[if_pos hW]
   exact⟨l,es,rfl,s1.free hl,hl2,aH (fun a b ⟨c,e1,e2,e3⟩=>⟨c,e1,s1.free e2,e3⟩) rw2⟩
  have hW:Eo r≠Str.ofString "" := by
   unfold Eo
   cases ho:r.2.2.2 with
   | some e=>exact(hw e ho).1
   | none =>
    show(if yL r.2.1 r.2.2.1=true then Str.ofString "" else Str.ofString "cut")≠_
    rw[if_neg (by rw[h1 ho];decide)]
    exact fun q=>absurd (congrArg (fun z=>bz z ("":Str)) q) (by decide +kernel)
  refine⟨rfl,_,rfl,Ua (decide_eq_false (by intro z;cases z)) ?_⟩
  refine k .non _ ?_ (s1.trans (aq ht5))
  unfold PD
  rw[if_neg hW]
  rfl
def u0 (K:W.Frag) (C:Addr):Sp:=fun vs H Q _=>∃(y dy:Addr) (v:V) (n:Nat) (x:bI) (m:d9) (ts:List (Str×Str)),vs=[.ref y,.int n,v]∧H y=some (.ins C dy (Cd x))∧nk x∧Dr K H m v∧Ys x ts m∧ts.length=n∧∀ H',aE H H'→Q (.bl true) H'
theorem BH:aG P w K mg base bu 3 (av 48) (aJ 48) ["dialect", "most", "thing"] (u0 K (av 67)):=by
 have zJ:aG P w K mg base bu 2 (av 24) (aJ 24) ["dialect", "thing"] (pC K (av 67)):=yf T
 have uZ:aG P w K mg base bu 1 (av 20) (aJ 20) ["thing", "least", "most"] rZ:=yX T
 refine T.yd.ok JB (fun vs H Q E h=>?_) (fun cdv A outer s H vs Q E hr h=>?_)
 ·obtain⟨y,dy,v,n,x,m,ts,rfl,_⟩:=h;rfl
 ·have hu:=aX hr
  have gi:=hr.aN
  obtain⟨y,dy,v,n,x,m,ts,rfl,hy,g,hv,NX,hn,k⟩:=h
  obtain⟨b,s,rfl,hb,hs⟩:=hv
  have hst:=NX.1.1
  have hmn:=NX.1.2
  have Ud:=NX.2
  refine⟨_,(ai (aM (PW.pt (gP (bF (br (iS (kZ K rfl) T.bf (af (pv 2) (af (Io "tuple" T.kr) ah))))) (fm (fJ yG (iS (aT K rfl) T.bQ (af (pv 2) ah)) ao)))) (ak (ay dU)) aA)
   (ak (ay (uy (dY zJ hr T.zw T.qA.kp T.zv (af (pv 0) (af (f9 K (pv 2) ao) ah))) (nU (dY uZ hr T.Bl T.uS.kp T.Bk (af (f9 K (pv 2) ao) (af ao (af (pv 1) ah))))))))),?_⟩
  refine⟨_,rfl,_,_,_,_,rfl,.ZQ hb,rfl,_,rfl,dF ?_⟩
  refine⟨_,rfl,_,_,rfl,.inr hb,rfl,_,rfl,rdJ (by simp) (⟨_,rfl,_,rfl,_,_,_,_,rfl,rfl,hb,rfl,_,_,_,_,_,_,rfl,hy,g,hs,hst,Ud,fun H1 s1=>⟨_,rfl,lU (⟨_,rfl,?_⟩)⟩⟩)⟩
  refine⟨b,_,_,_,rfl,rfl,aF s1 hb,rfl,_,rfl,_,_,_,rfl,?_⟩
  rw[decide_eq_true (show(0:Int)≤(m.2:Int)∧(m.2:Int)≤(n:Int) from ⟨by omega,by omega⟩)]
  exact k _ s1
def wK (K:W.Frag) (C:Addr):Sp:=fun vs H Q _=>∃(o u:Addr) (n:Nat) (os us:List V) (cs:List bI) (ms:List (Option d9)) (ts:List (Str×Str)),vs=[.ref o,.int n,.ref u]∧H o=some (.lst os)∧xm C H os cs∧(∀ c∈cs,nk c)∧cs.length≤20∧aV K H u us∧Paired (f7 K H) ms us∧Qf cs ts ms∧ts.length=n∧∀ H',aE H H'→Q (.bl true) H'
theorem E5:aG P w K mg base bu 4 (av 49) (aJ 49) ["others", "most", "thing"] (wK K (av 67)):=by
 have yk:aG P w K mg base bu 3 (av 48) (aJ 48) ["dialect", "most", "thing"] (u0 K (av 67)):=BH T
 refine T.yQ.ok EG (fun vs H Q E h=>?_) (fun cdv A outer s H vs Q E hr h=>?_)
 ·obtain⟨o,u,n,os,us,cs,ms,ts,rfl,_⟩:=h;rfl
 ·have hu:=aX hr
  have gi:=hr.aN
  obtain⟨o,u,n,os,us,cs,ms,ts,rfl,ho,mk,gs,hcl,RV,om,okl,hn,k⟩:=h
  have l1:=mk.length
  have l2:=om.length
  have l3:=okl.length
  refine⟨_,(ai (aM (PW.pt (gP (bF (br (iS (kZ K rfl) T.bf (af (pv 2) (af (Io "tuple" T.kr) ah))))) (fm (fJ yG (iS (aT K rfl) T.bQ (af (pv 2) ah)) (iS (aT K rfl) T.bQ (af (pv 0) ah)))))) (ak (ay dU)) aA)
   (ak (ay (iS (jB K rfl rfl) T.uT (af (cS rfl (show bg ["others", "most", "thing"] (au iL) ["other", "mark", "most"] 2 [1] _ from Di) (xF K rfl rfl T.EX (af (pv 0) (af (pv 2) ah))) (fun _ _ _ _=>(ng K rfl 2 rfl (bX (jY 0 (show(["other", "mark", "most"]:List Str).Nodup by decide +kernel)) (bX (jY 1 (show(["other", "mark", "most"]:List Str).Nodup by decide +kernel)) kX)))) (fun _ _ _ _=>cK) (fun _ _ _ _=>(K3 (Cb nV (pv 1) bT) (nU (dY yk hr T.DK T.yd.kp T.DJ (af (pv 0) (af (pv 2) (af (pv 1) ah)))))))) ah))))),?_⟩
  refine⟨_,rfl,_,_,_,_,rfl,.ZQ RV,rfl,_,rfl,dF ⟨_,rfl,_,_,rfl,.inr RV,_,rfl,_,_,rfl,.inl (aU.of ho),rfl,_,rfl,rdJ (by show(us.length:Int)=(os.length:Int);omega) ?_⟩⟩
  dsimp only[vn]
  refine⟨_,rfl,_,rfl,o,u,rfl,⟨_,aU.of ho⟩,⟨_,RV⟩,fun D hD=>?_⟩
  refine uG (K:=K) (a:=o) (b:=u) (xs:=os) (ys:=us) (fun i ws τ J=>(∃ v w,τ=[v,w,some (.int n)])∧aE H J∧J D=some (.lst ws)∧ws=(List.replicate i true).map V.bl) ⟨⟨_,_,rfl⟩,aq hD,aj,rfl⟩ (fun i ws τ J _ p=>⟨aU.of (p.2.1 _ _ ho),aF p.2.1 RV,p.2.2.1⟩) ?_ ?_
  ·rintro i e w' t ws τ J hi hw ht ⟨⟨v1,v2,rfl⟩,sJ,hJ,hws⟩
   obtain⟨x',hx',y',SQ,rfl,hy'⟩:=aQ mk i e hi
   obtain⟨m,hm,hoa⟩:=ki om i w' hw
   obtain⟨m',hm',NX⟩:=aQ okl i x' hx'
   rw[hm] at hm';cases hm'
   have hil:i < os.length:=(List.getElem?_eq_some_iff.mp hi).1
   have hwl:ws.length=i:=by rw[hws,List.length_map,List.length_replicate]
   have st:=aq (o:=HO.tup [.ref y',w']) ht
   have sT:=sJ.trans st
   have hJ1:=st _ _ hJ
   refine⟨t,_,rfl,aV.of aj,rfl,_,_,rfl,_,_,rfl,rfl,?_⟩
   dsimp only[Ow]
   rw[if_pos rfl]
   generalize upd J t (HO.tup [.ref y',w'])=J1 at sT hJ1 ⊢
   have fin:∀ J2,aE J1 J2→J2 D=some (.lst ws)∧ws.length < sizeLine∧aE H (upd J2 D (.lst (ws++[.bl true])))∧ws++[V.bl true]=(List.replicate (i+1) true).map V.bl:=fun J2 s2=>⟨s2 _ _ hJ1,Nat.lt_of_le_of_lt (show ws.length≤100 by omega) (by decide),aI hD (sT.trans s2),by rw[hws,List.replicate_succ',List.map_append];rfl⟩
   cases m with
   | none =>
    have hoa:w'=.non:=hoa
    subst hoa
    obtain⟨f1,f2,f3,f4⟩:=fin J1 (aE.refl _)
    exact⟨_,rfl,rfl,_,rfl,lU ⟨f1,f2,⟨_,_,rfl⟩,f3,aj,f4⟩⟩
   | some mk1 =>
    obtain⟨b1,s1,rfl,q1,q2⟩:=vM sT hoa
    refine⟨_,rfl,rfl,_,rfl,dF ⟨_,rfl,_,rfl,_,rfl,y',SQ,.ref b1,n,x',mk1,ts,rfl,sT _ _ hy',gs x' (List.mem_of_getElem? hx'),⟨b1,s1,rfl,q1,q2⟩,NX mk1 rfl,hn,fun J2 s2=>?_⟩⟩
    obtain⟨f1,f2,f3,f4⟩:=fin J2 s2
    exact⟨f1,f2,⟨_,_,rfl⟩,f3,aj,f4⟩
  rintro ws τ J ⟨⟨v1,v2,rfl⟩,sJ,hJ,rfl⟩
  refine⟨D,_,rfl,aU.of hJ,?_⟩
  rw[show(List.replicate (min os.length us.length) true).all id=true from List.all_eq_true.mpr fun b hb=>(List.mem_replicate.mp hb).2]
  exact k _ sJ
def yZ (K:W.Frag) (C:Addr):Sp:=fun vs H Q _=>∃(y dy o:Addr) (v:V) (n:Nat) (os:List V) (x:bI) (cs:List bI) (m:cP) (ts:List (Str×Str)),vs=[.ref y,.ref o,.int n,v]∧H y=some (.ins C dy (Cd x))∧nk x∧H o=some (.lst os)∧xm C H os cs∧(∀ c∈cs,nk c)∧cs.length≤20∧dH K H m v∧VI x cs ts m∧ts.length=n∧∀ H',aE H H'→Q (.bl true) H'
theorem HF:aG P w K mg base bu 5 (av 50) (aJ 50) ["dialect", "others", "most", "thing"] (yZ K (av 67)):=by
 have HG:aG P w K mg base bu 4 (av 49) (aJ 49) ["others", "most", "thing"] (wK K (av 67)):=E5 T
 have yk:aG P w K mg base bu 3 (av 48) (aJ 48) ["dialect", "most", "thing"] (u0 K (av 67)):=BH T
 refine T.Br.ok Hh (fun vs H Q E h=>?_) (fun cdv A outer s H vs Q E hr h=>?_)
 ·obtain⟨y,dy,o,v,n,os,x,cs,m,ts,rfl,_⟩:=h;rfl
 ·have hu:=aX hr
  have gi:=hr.aN
  obtain⟨y,dy,o,v,n,os,x,cs,m,ts,rfl,hy,g,ho,mk,gs,hcl,hv,NX,hn,k⟩:=h
  obtain⟨b,s,u,us,rfl,hb,hs,RV,om⟩:=hv
  refine⟨_,(ai (aM (PW.pt (gP (bF (br (iS (kZ K rfl) T.bf (af (pv 3) (af (Io "tuple" T.kr) ah))))) (fm (fJ yG (iS (aT K rfl) T.bQ (af (pv 3) ah)) ao)))) (ak (ay dU)) aA)
   (ak (ay (uy (dY yk hr T.DK T.yd.kp T.DJ (af (pv 0) (af (pv 2) (af (Am (Eb K rfl) (pv 3) D3 (D4 ao)) ah)))) (nU (dY HG hr T.Ht T.yQ.kp T.Hs (af (pv 1) (af (pv 2) (af (f9 K (pv 3) ao) ah))))))))),?_⟩
  refine⟨_,rfl,_,_,_,_,rfl,.ZQ hb,rfl,_,rfl,dF ⟨_,rfl,_,_,rfl,.inr hb,rfl,_,rfl,rdJ (by simp) ?_⟩⟩
  dsimp only[vn]
  refine⟨_,rfl,_,rfl,_,rfl,_,rfl,_,_,rfl,hb,(by show ¬(_∧(2:Nat)=3);omega),fun pa hpa=>?_⟩
  have s1:=aq (o:=HO.tup [.ref s,.int (m.1.2:Int)]) hpa
  have q1:=aj (H:=H) (a:=pa) (o:=HO.tup [.ref s,.int (m.1.2:Int)])
  rw[show IL [V.ref s,.int (m.1.2:Int),.ref u] none (some 2)=[.ref s,.int (m.1.2:Int)] from rfl]
  generalize upd H pa (HO.tup [.ref s,.int (m.1.2:Int)])=H1 at s1 q1 ⊢
  refine⟨y,dy,.ref pa,n,x,m.1,ts,rfl,s1 _ _ hy,g,⟨pa,s,rfl,aV.of q1,aF s1 hs⟩,NX.1,hn,fun H2 s2=>⟨_,rfl,lU ?_⟩⟩
  have s12:=s1.trans s2
  exact⟨_,rfl,_,rfl,_,rfl,b,_,_,_,rfl,rfl,aF s12 hb,rfl,o,u,n,os,us,cs,m.2,ts,rfl,s12 _ _ ho,xm.mono s12 mk,gs,hcl,aF s12 RV,jF s12 om,NX.2,hn,fun H3 s3=>k _ (s12.trans s3)⟩
def BI (P:Program) (w:World) (K:W.Frag) (C CT CM CP:Addr):Sp:=fun vs H Q _=>∃(y dy a o:Addr) (xs os:List V) (t:List (List Str)) (x:bI) (cs:List bI) (lp:Addr) (vs':List V) (ms:List cP),vs=[.ref y,.ref a,.ref o,.ref lp]∧H y=some (.ins C dy (Cd x))∧nk x∧H a=some (.lst xs)∧Paired (bP H) xs t∧TabOk t∧H o=some (.lst os)∧xm C H os cs∧(∀ c∈cs,nk c)∧cs.length≤20∧H lp=some (.lst vs')∧vV K H vs' ms∧ms.Nodup∧ms.length≤5000000∧(∀ m∈ms,VI x cs (aB t) m)∧bV cs.length∈ms∧(∀ m∈ms,cA (aB t) m=false)∧(∀ m∈ms,∀ e∈cH x cs (aB t) (fZ (x :: cs) t) m,e.2∈ms)∧∀ H',aE H H'→Q (.bl true) H'
theorem JR:aG P w K mg base bu 12 (av 51) (aJ 51) ["dialect", "table", "others", "places"] (BI P w K (av 67) (av 68) (av 69) (av 70)):=by
 have jm:aG P w K mg base bu 10 (av 18) (aJ 18) ["self", "dialect", "table", "others"] (iJ K (av 67) (av 68) (av 69) (av 70)):=mV T
 have jL:aG P w K mg base bu 2 (av 38) (aJ 38) ["self", "place"] (jk K (av 67) (av 68) (av 69) (av 70)):=nJ T
 have mY:aG P w K mg base bu 6 (av 37) (aJ 37) ["self", "place"] (kI K (av 67) (av 68) (av 69) (av 70)):=qH T
 have oz:aG P w K mg base bu 1 (av 36) (aJ 36) ["others"] (mX K):=sy T
 have JS:aG P w K mg base bu 5 (av 50) (aJ 50) ["dialect", "others", "most", "thing"] (yZ K (av 67)):=HF T
 have ku:aG P w K mg base bu 7 (av 14) (aJ 14) ["table"] (lC K):=qj T
 refine T.DL.ok jH (fun vs H Q E h=>?_) (fun cdv A outer s H vs Q E hr h=>?_)
 ·obtain⟨y,dy,a,o,xs,os,t,x,cs,lp,vs',ms,rfl,_⟩:=h;rfl
 ·have hu:=aX hr
  have gi:=hr.aN
  obtain⟨y,dy,a,o,xs,os,t,x,cs,lp,vs',ms,rfl,hy,gx,ha,pr,tok,ho,mk,gs,hcl,hlp,em,nd,hbig,NX,hst,hgd,aai,k⟩:=h
  have ou:=hr.units
  have mkl:=mk.length
  have eml:=em.length
  refine⟨_,(ai (dW 4 jH.nd (iS (aT K rfl) T.bQ (af (dY ku hr T.rO T.nD.kp T.rN (af (pv 1) ah)) ah)))
   (ai (aM (PW.pt (gP (bF (br (iS (cE K rfl) T.bf (af (pv 3) (af (Io "list" T.sQ) ah))))) (fm (bF (br (iS (jB K rfl rfl) T.uT (af (cS rfl (show bg ["dialect", "table", "others", "places", "most", "known", "place", "searched"] (au jC) ["place", "dialect", "others", "most"] 1 [0,2,4] _ from Di) (bZ K rfl (pv 3)) (fun _ _ _ _=>(jY 0 (show(["place", "dialect", "others", "most"]:List Str).Nodup by decide +kernel))) (fun _ _ _ _=>cK) (fun _ _ _ _=>(dY JS hr T.JL T.Br.kp T.JK (af (pv 1) (af (pv 2) (af (pv 3) (af (pv 0) ah))))))) ah))))))) (ak (ay dU)) aA)
   (ai (dW 5 jH.nd (Pj (ZP P w) (aY P w) rfl rfl))
   (ai (fq PassesOwn.never rfl (bZ K rfl (pv 3)) (jY 6 jH.nd)
   (ak (Gk (YP P w K) (aY P w) rfl rfl rfl (hp2 ou) (pv 5) (pv 6) dU rfl)))
   (ai (aM (N7 (Av (YP P w K) (aY P w) rfl rfl rfl (hp2 ou) (dY oz hr T.ud T.oi.kp T.uc (af (pv 2) ah)) (pv 5))) (ak (ay dU)) aA)
   (ai (dW 7 jH.nd (nc (k:=10) T.HB jm (hr.mono (by decide)) rfl T.HA T.nE .nil gh (af (pv 0) (af (pv 1) (af (pv 2) ah)))))
   (ai (R1 (ZP P w) (aY P w) rfl rfl (fq PassesOwn.never rfl (O7 (YP P w K) (aY P w) rfl rfl rfl (pv 5)) (jY 6 jH.nd)
   (ak (aM (PW.pt (gP (br (ie (k:=2) (pv 7) T.dD T.pq jL (hr.mono (by decide)) T.pe .nil gh (af (pv 6) ah))) (fm (bF (br (iS (jB K rfl rfl) T.uT (af (cS rfl (show bg ["dialect", "table", "others", "places", "most", "known", "place", "searched"] (au jC) ["lead", "known"] 1 [5] _ from Di) (bZ K rfl (ie (k:=6) (pv 7) T.dD T.rT mY (hr.mono (by decide)) T.rS .nil gh (af (pv 6) ah))) (fun _ _ _ _=>(jY 0 (show(["lead", "known"]:List Str).Nodup by decide +kernel))) (fun _ _ _ _=>cK) (fun _ _ _ _=>(UJ (R5 (YP P w K) (aY P w) rfl rfl rfl (hp2 ou) (f9 K (pv 0) ao) (pv 1))))) ah))))))) (ak (ay dU)) aA))))
   (ak (ay dU))))))))),?_⟩
  refine⟨_,rfl,a,xs,t,rfl,ha,pr,tok,fun l1 ys H1 ajC hl1 tp s1=>?_⟩
  have tl:=tp.length
  refine⟨_,_,rfl,.inl (aU.of hl1),?_⟩
  dsimp only[bK]
  obtain⟨n,en⟩:∃ n:Nat,n=ys.length:=⟨_,rfl⟩
  rw[←en] at tl ⊢
  generalize hts:aB t=ts at tp tl NX hgd aai
  have Wm:=s1 _ _ hlp
  refine⟨_,rfl,_,_,_,_,rfl,.lst Wm,.inl ⟨_,⟨rfl,rfl⟩⟩,_,rfl,dF ⟨_,rfl,lp,rfl,⟨_,aU.of Wm⟩,fun D hD=>?_⟩⟩
  refine cL (K:=K) (a:=lp) (xs:=vs') (fun i ws τ J=>(∃ v,τ=[v,some (.ref y),some (.ref o),some (.int n)])∧aE H1 J∧J D=some (.lst ws)∧ws=(List.replicate i true).map V.bl) ⟨⟨_,rfl⟩,aq hD,aj,rfl⟩ (fun i ws τ J _ p=>⟨aU.of (p.2.1 _ _ Wm),p.2.2.1⟩) ?_ ?_
  ·rintro i e ws τ J hi ⟨⟨v,rfl⟩,sJ,hJ,hws⟩
   obtain⟨m,hm,hv⟩:=aQ em i e hi
   have hil:=(List.getElem?_eq_some_iff.mp hi).1
   have S6:=s1.trans sJ
   have hwl:ws.length=i:=by rw[hws,List.length_map,List.length_replicate]
   refine qZ ?_
   refine⟨_,rfl,_,rfl,_,rfl,_,rfl,y,dy,o,e,n,os,x,cs,m,ts,rfl,S6 _ _ hy,gx,S6 _ _ ho,xm.mono S6 mk,gs,hcl,cG S6 hv,NX m (List.mem_of_getElem? hm),tl.symm,fun J2 s2=>?_⟩
   exact⟨s2 _ _ hJ,Nat.lt_of_le_of_lt (show ws.length≤5000000 by omega) (by decide),⟨_,rfl⟩,aI hD (sJ.trans s2),aj,by rw[hws,List.replicate_succ',List.map_append];rfl⟩
  rintro ws τ J ⟨⟨v,rfl⟩,sJ,hJ,rfl⟩
  refine⟨D,_,rfl,aU.of hJ,?_⟩
  rw[show(List.replicate vs'.length true).all id=true from List.all_eq_true.mpr fun b hb=>(List.mem_replicate.mp hb).2]
  refine⟨_,rfl,dF ?_⟩
  dsimp only[vn]
  have S6:=s1.trans sJ
  refine fun kn hkn=>?_
  have sK:=aq (o:=dN (ZP P w) (aY P w) kn []) hkn
  have c0:GX P w K (upd J kn (dN (ZP P w) (aY P w) kn [])) kn (Qi (ms.take 0)):=⟨[],⟨aj,fun e he=>nomatch he⟩,.nil⟩
  have aaj:H kn=none:=S6.free hkn
  generalize upd J kn (dN (ZP P w) (aY P w) kn [])=J0 at sK c0 ⊢
  dsimp only[bK]
  have aak:=S6 _ _ hlp
  refine⟨_,rfl,lp,rfl,⟨_,aU.of (sK _ _ aak)⟩,?_⟩
  refine qQ (K:=K) (a:=lp) (xs:=vs') (fun i σ G=>aE J G∧GX P w K G kn (Qi (ms.take i))∧∃ v6 v7,σ=[some (.ref y),some (.ref a),some (.ref o),some (.ref lp),some (.int n),some (.ref kn),v6,v7]) ⟨sK,c0,_,_,rfl⟩ (fun i σ G _ q=>aU.of (q.1 _ _ aak)) ?_ ?_
  ·rintro i e σ G hi ⟨sG,ca,v6,v7,rfl⟩
   obtain⟨m,hm,hv⟩:=aQ em i e hi
   have hil:=(List.getElem?_eq_some_iff.mp hi).1
   have QN:=cG (S6.trans sG) hv
   obtain⟨b,rfl⟩:=jO QN
   obtain⟨kvs,d,cr⟩:=ca.ok
   have kl:=Paired.length cr
   have kl2:(Qi (ms.take i)).length≤5000000:=by unfold Qi;rw[List.length_map,List.length_take];omega
   have hno:cX (Qi (ms.take i)) m=false:=by
    cases q:cX (Qi (ms.take i)) m with
    | false=>rfl
    | true=>exact absurd (EE.mp q) (Qk nd hm)
   dsimp only[bK]
   refine⟨_,rfl,_,rfl,kn,kvs,bw m,b,rfl,rfl,d,jN QN,Nat.lt_of_le_of_lt (show kvs.length≤5000000 by omega) (by decide),aI hkn sG,?_,_,_,rfl⟩
   rw[aS hm,Qj]
   exact GX.put d cr QN hno
  rintro σ G ⟨sG,ca,v6,v7,rfl⟩
  rw[eml,List.take_of_length_le (Nat.le_refl _)] at ca
  have s0G:=S6.trans sG
  refine⟨_,rfl,o,os,rfl,s0G _ _ ho,by omega,fun v0 H2 s2 hv0=>?_⟩
  rw[mkl] at hv0
  obtain⟨b0,rfl⟩:=jO hv0
  have ca2:=ca.mono s2
  obtain⟨kvs,d,cr⟩:=ca2.ok
  refine⟨_,rfl,kn,kvs,bw (bV cs.length),b0,rfl,rfl,d,jN hv0,_,rfl,?_⟩
  rw[sO cr,EE.mpr hst]
  refine dF ?_
  have Iq:=s0G.trans s2
  dsimp only[vn]
  refine⟨_,rfl,_,rfl,_,rfl,fun q dq hq MV ne=>⟨q,dq,y,dy,a,o,xs,os,t,x,cs,rfl,aj,fP hq MV (Iq _ _ hy),gx,fP hq MV (Iq _ _ ha),aH (fun a b h=>bP.mono (Iq.trans (lR hq MV)) h) pr,tok,fP hq MV (Iq _ _ ho),xm.mono (Iq.trans (lR hq MV)) mk,gs,hcl,fun H3 hP kp=>⟨rfl,?_⟩⟩⟩
  rw[hts] at hP
  have s3:=lP hq MV kp
  have s03:=Iq.trans s3
  have ca3:=ca2.mono s3
  clear d cr kvs
  obtain⟨kvs,d,cr⟩:=ca3.ok
  dsimp only[bK]
  refine⟨_,rfl,kn,kvs,rfl,d,fun ob=>?_⟩
  have tq:=uF (F:=K) d.ob (o:=dX (ZP P w) (aY P w) kn kvs ob)
  have hx:=aj (H:=H3) (a:=kn) (o:=dX (ZP P w) (aY P w) kn kvs ob)
  have hP2:=AS.ext (o:=dX (ZP P w) (aY P w) kn kvs ob) d.ob tq hP
  have cr2:=tX.keep tq cr
  have dk2:∀ e∈kvs,sI (YP P w K) (upd H3 kn (dX (ZP P w) (aY P w) kn kvs ob)) e.1 e.2.1:=fun e he=>(d.keys e he).keep tq
  have sX:aE H (upd H3 kn (dX (ZP P w) (aY P w) kn kvs ob)):=aI aaj s03
  generalize upd H3 kn (dX (ZP P w) (aY P w) kn kvs ob)=G0 at hx hP2 cr2 dk2 sX ⊢
  have DP:(fZ (x :: cs) t).length≤1000:=by
   have Up:∀ c∈x :: cs,nk c:=fun c hc=>by
    rcases List.mem_cons.mp hc with q | q
    ·rw[q];exact gx
    ·exact gs c q
   have:=GW Up tok
   rw[List.length_cons] at this
   omega
  refine Ph (fun i σ G'=>aE G0 G'∧∃ v6,σ=[some (.ref y),some (.ref a),some (.ref o),some (.ref lp),some (.int n),some (.ref kn),v6,some (.ref q)]) ⟨aE.refl _,_,rfl⟩ (fun i σ G' _ q=>q.1 _ _ hx) ?_ ?_
  ·rintro i e σ G' hi ⟨YG,v6',rfl⟩
   obtain⟨pm,hpm,hke,hv⟩:=aQ cr2 i e hi
   obtain⟨m,hm,SY⟩:∃ m∈ms,pm=(m,none):=by
    obtain⟨m,h1,h2⟩:=List.mem_map.mp (List.mem_of_getElem? hpm)
    exact⟨m,h1,h2.symm⟩
   subst SY
   have hP':=hP2.mono YG
   obtain⟨dyq,mm,lm,msq,exq,_⟩:=hP'.ok
   have hlm:cs.length=m.2.length:=(NX m hm).2.length
   dsimp only[bK]
   refine⟨_,rfl,_,_,_,rfl,exq,rfl,_,rfl,q,.ref e.2.1,m,x,cs,ts,_,rfl,hP',cG YG hv,hlm,by omega,fun G2 s2=>⟨_,rfl,?_⟩⟩
   rw[hgd m hm]
   refine dF ?_
   have sG2:=YG.trans s2
   have hPG:=hP2.mono sG2
   obtain⟨dyq,mm,lm,msq,exq,_⟩:=hPG.ok
   refine⟨_,rfl,_,_,_,rfl,exq,rfl,_,rfl,q,.ref e.2.1,m,x,cs,ts,_,rfl,hPG,cG sG2 hv,hlm,by omega,DP,fun ll us G3 Wg Ur ld sG3=>?_⟩
   have s3':=sG2.trans sG3
   refine⟨ll,rfl,⟨_,aU.of Ur⟩,fun D2 hD2=>?_⟩
   refine cL (K:=K) (a:=ll) (xs:=us) (fun j ws τ J=>(∃ v,τ=[v,some (.ref kn)])∧aE G3 J∧J D2=some (.lst ws)∧ws=(List.replicate j true).map V.bl) ⟨⟨_,rfl⟩,aq hD2,aj,rfl⟩ (fun j ws τ J _ p=>⟨aU.of (p.2.1 _ _ Ur),p.2.2.1⟩) ?_ ?_
   ·rintro j e3 ws τ J hj ⟨⟨v,rfl⟩,MT,hJ',hws⟩
    obtain⟨⟨c,m'⟩,S0,t3,w3,rfl,h3,Wi⟩:=aQ ld j e3 hj
    have aal:=cG MT Wi
    obtain⟨b3,rfl⟩:=jO aal
    have sJJ:=s3'.trans MT
    have hwl:ws.length=j:=by rw[hws,List.length_map,List.length_replicate]
    have hjl:=(List.getElem?_eq_some_iff.mp S0).1
    have Ut:=Dw (x:=x) (cs:=cs) (ts:=ts) (z:=fZ (x :: cs) t) (m:=m)
    refine qZ ?_
    refine⟨_,rfl,t3,_,_,_,rfl,rfl,aV.of (MT _ _ h3),rfl,_,rfl,kn,kvs,bw m',b3,rfl,rfl,⟨.inr ⟨ob,sJJ _ _ hx⟩,fun e he=>(dk2 e he).mono sJJ⟩,jN aal,?_⟩
    rw[if_neg (by decide),sO cr2,EE.mpr (aai m hm _ (List.mem_of_getElem? S0))]
    exact⟨hJ',Nat.lt_of_le_of_lt (show ws.length≤5000000 by omega) (by decide),⟨_,rfl⟩,aI hD2 MT,aj,by rw[hws,List.replicate_succ',List.map_append];rfl⟩
   rintro ws τ J ⟨⟨v,rfl⟩,MT,hJ',rfl⟩
   refine⟨D2,_,rfl,aU.of hJ',?_⟩
   rw[show(List.replicate us.length true).all id=true from List.all_eq_true.mpr fun b hb=>(List.mem_replicate.mp hb).2]
   exact⟨_,rfl,dF ⟨s3'.trans MT,_,rfl⟩⟩
  ·rintro σ G' ⟨YG,v6',rfl⟩
   exact⟨_,.inr ⟨kn,kvs,ob,YG _ _ hx,rfl⟩,k _ (aI aaj (sX.trans YG))⟩
def BJ (K:W.Frag) (C:Addr):Sp:=fun vs H Q _=>∃(y dy a o:Addr) (xs os:List V) (t:List (List Str)) (x:bI) (cs:List bI) (v:V),vs=[.ref y,.ref a,.ref o,v]∧H y=some (.ins C dy (Cd x))∧nk x∧H a=some (.lst xs)∧Paired (bP H) xs t∧H o=some (.lst os)∧xm C H os cs∧(∀ c∈cs,nk c)∧cs.length≤20∧Sf H v∧(∀ z,v=.str z→z.length≤10000)∧∀ H',aE H H'→Q (.bl (Ly x cs t v)) H'
theorem JT:aG P w K mg base bu 10 (av 52) (aJ 52) ["dialect", "table", "others", "text"] (BJ K (av 67)):=by
 have yj:aG P w K mg base bu 3 (av 21) (aJ 21) ["thing"] (uX K):=BC T
 have wL:aG P w K mg base bu 9 (av 47) (aJ 47) ["dialect", "text"] (uq K (av 67)):=CD T
 refine T.DM.ok JC (fun vs H Q E h=>?_) (fun cdv A outer s H vs Q E hr h=>?_)
 ·obtain⟨y,dy,a,o,xs,os,t,x,cs,v,rfl,_⟩:=h;rfl
 ·have hu:=aX hr
  have gi:=hr.aN
  obtain⟨y,dy,a,o,xs,os,t,x,cs,v,rfl,hy,g,ha,pr,ho,mk,gs,hcl,hk,hb,k⟩:=h
  have ou:=hr.units
  have Vq:=mk.length
  refine⟨_,(ai (aM (PW.pt (gP (bF (br (dY yj hr T.DF T.xY.kp T.DE (af (pv 3) ah)))) (fm (fJ (lT.orR yG (lT.orR (Vi K rfl ou) (Vm K rfl gi))) (dY wL hr T.wz T.qe.kp T.wu (af (pv 0) (af (pv 3) ah))) (pv 1))))) (ak (ay dU)) aA)
   (ak (ay (Ir (iS (C8 K rfl rfl) T.QH (af (cS rfl (show bg ["dialect", "table", "others", "text"] (au lO) ["other", "table", "text"] 1 [1,3] _ from Di) (bZ K rfl (pv 2)) (fun _ _ _ _=>(jY 0 (show(["other", "table", "text"]:List Str).Nodup by decide +kernel))) (fun _ _ _ _=>cK) (fun _ _ _ _=>(Cb (lT.orR bA (lT.orR (Vh K rfl ou) (Vn K rfl gi))) (dY wL hr T.wz T.qe.kp T.wu (af (pv 0) (af (pv 2) ah))) (pv 1)))) ah)))))),?_⟩
  refine⟨_,rfl,v,rfl,hk,hb,fun H1 s1=>⟨_,rfl,?_⟩⟩
  cases hT:Mr v with
  | false =>
   have kk:=k H1 s1
   rw[Sx hT] at kk
   exact lU (lU kk)
  | true =>
   obtain⟨z,rfl,hz,hz2⟩:=Sh hT
   have eS:Ly x cs t (.str z)=AR x cs t z:=by show(Mr (.str z) && _)=_;rw[hT];rfl
   rw[eS] at k
   refine dF ?_
   refine⟨_,rfl,_,rfl,y,dy,z,x.1,x.2.1,x.2.2.1,x.2.2.2.a,x.2.2.2.b,x.2.2.2.c,x.2.2.2.d,rfl,s1 _ _ hy,g,hz,hz2,fun v1 H2 r1 s2=>?_⟩
   have s12:=s1.trans s2
   refine⟨_,rfl,ZY r1 (Lz (s12 _ _ ha) (aH (fun a b h=>bP.mono s12 h) pr)) ?_⟩
   by_cases h1:Ce x t z=true
   ·have OW:PD (runC x z) z=some t:=of_decide_eq_true h1
    rw[show PD (Sb x.1 x.2.1 x.2.2.1 x.2.2.2.a x.2.2.2.b x.2.2.2.c x.2.2.2.d z) z=PD (runC x z) z from rfl,OW,decide_eq_true rfl]
    refine⟨_,rfl,dF ?_⟩
    dsimp only[vn]
    refine⟨_,rfl,o,rfl,⟨_,aU.of (s12 _ _ ho)⟩,fun D hD=>?_⟩
    refine cL (K:=K) (a:=o) (xs:=os) (fun i ys τ J=>(∃ v,τ=[v,some (.ref a),some (.str z)])∧aE H2 J∧J D=some (.lst ys)∧ys=((cs.take i).map fun y=>Ce y t z).map V.bl) ⟨⟨_,rfl⟩,aq hD,aj,rfl⟩ (fun i ys τ J _ p=>⟨aU.of (p.2.1 _ _ (s12 _ _ ho)),p.2.2.1⟩) ?_ ?_
    ·rintro i e ys τ J hi ⟨⟨w,rfl⟩,sJ,hJ,rfl⟩
     have hil:=(List.getElem?_eq_some_iff.mp hi).1
     obtain⟨x2,hx2,y2,dy2,rfl,S7⟩:=aQ mk i e hi
     have s3:=s12.trans sJ
     refine qZ ?_
     refine⟨_,rfl,_,rfl,y2,dy2,z,x2.1,x2.2.1,x2.2.2.1,x2.2.2.2.a,x2.2.2.2.b,x2.2.2.2.c,x2.2.2.2.d,rfl,s3 _ _ S7,gs x2 (List.mem_of_getElem? hx2),hz,hz2,fun v3 J3 r3 sJ3=>?_⟩
     have s33:=s3.trans sJ3
     refine⟨_,rfl,Z0 r3 (Lz (s33 _ _ ha) (aH (fun a b h=>bP.mono s33 h) pr)) ?_⟩
     refine⟨sJ3 _ _ hJ,?_,⟨_,rfl⟩,aI hD (sJ.trans sJ3),aj,?_⟩
     ·rw[List.length_map,List.length_map,List.length_take]
      exact Nat.lt_of_le_of_lt (show _≤20 by omega) (by decide)
     ·rw[aS hx2,List.map_append,List.map_append];rfl
    ·rintro ys τ J ⟨⟨w,rfl⟩,sJ,hJ,rfl⟩
     rw[Vq,List.take_of_length_le (Nat.le_refl _)] at hJ
     refine⟨D,cs.map fun y=>Ce y t z,rfl,aU.of hJ,?_⟩
     have kk:=k J (s12.trans sJ)
     unfold AR at kk
     rw[h1,Bool.true_and] at kk
     have e:(cs.map fun y=>Ce y t z).any id=cs.any fun y=>Ce y t z:=by rw[List.any_map];rfl
     rw[e]
     exact⟨_,rfl,kk⟩
   ·have OW:Ce x t z=false:=vI h1
    have h2:decide (PD (runC x z) z=some t)=false:=OW
    rw[show PD (Sb x.1 x.2.1 x.2.2.1 x.2.2.2.a x.2.2.2.b x.2.2.2.c x.2.2.2.d z) z=PD (runC x z) z from rfl,h2]
    have kk:=k H2 s12
    unfold AR at kk
    rw[OW,Bool.false_and] at kk
    exact⟨_,rfl,lU kk⟩
def kJ (K:W.Frag):Sp:=fun vs H Q _=>∃(a:Addr) (ns:List Int) (i:Int),vs=[.ref a,.int i]∧aU K H a (ns.map V.int)∧0≤i∧∀ r:Int,Q (.int r) H
theorem qI:aG P w K mg base bu 1 (av 53) (aJ 53) ["_law_script", "_law_k"] (kJ K):=by
 refine T.gv.ok zo (fun vs H Q E h=>?_) (fun cdv A outer s H vs Q E hr h=>?_)
 ·obtain⟨a,ns,i,rfl,_⟩:=h;rfl
 ·have hu:=aX hr
  have gi:=hr.aN
  obtain⟨a,ns,i,rfl,hS,hi,k⟩:=h
  refine⟨_,(ai (aM (fJ Aj (pv 1) (iS (aT K rfl) T.bQ (af (pv 0) ah))) (ak (ay (Jl K (pv 0) (pv 1)))) aA)
   (ak (ay ao))),?_⟩
  refine⟨_,rfl,_,rfl,a,_,rfl,.inl hS,_,_,rfl,rfl,_,rfl,?_⟩
  refine bW (fun hc=>?_) (fun _=>?_)
  ·have hlt:=of_decide_eq_true hc
   obtain⟨v,ev,hv⟩:=Jm hi hlt
   obtain⟨r,_,rfl⟩:=List.mem_map.mp hv
   exact⟨_,rfl,_,rfl,a,_,_,_,rfl,rfl,hS,ev,k r⟩
  ·exact k 0
def ur:Sp:=fun vs H Q _=>∃ a b:Int,vs=[.int a,.int b]∧0≤a∧a < 4294967296∧0≤b∧b < 65536∧∀ r:Int,0≤r→r < 49979687→Q (.int r) H
theorem CF:aG P w K mg base bu 1 (av 54) (aJ 54) ["_law_number_here", "_law_salt"] ur:=by
 refine T.ly.ok n8 (fun vs H Q E h=>?_) (fun cdv A outer s H vs Q E hr h=>?_)
 ·obtain⟨a,b,rfl,_⟩:=h;rfl
 ·have hu:=aX hr
  have gi:=hr.aN
  obtain⟨a,b,rfl,ha,ha',hb,hb',k⟩:=h
  refine⟨_,(ai (dW 2 n8.nd (aO dw (aO gg (aO kF (pv 0) (aO gg ao (aO kF ao (pv 1)))) (aO kF ao (pv 1))) ao))
   (ai (dW 3 n8.nd (aO dw (aO gg (aO kF (pv 2) (pv 2)) (pv 1)) ao))
   (ak (ay (aO dw (aO gg (aO kF (pv 3) (pv 3)) (pv 2)) ao))))),?_⟩
  refine⟨_,rfl,_,rfl,_,_,rfl,rfl,.inl ⟨by decide,by decide⟩,_,_,rfl,rfl,_,_,rfl,rfl,.inl ⟨by omega,by omega⟩,_,rfl,_,_,rfl,rfl,.inl ⟨by decide,by decide⟩,_,_,rfl,rfl,_,_,rfl,rfl,(by show(0:Int) < 15485863;decide),?_⟩
  have h1:=Int.emod_nonneg (a * (1299709+210 * b)+7919 * b) (show(15485863:Int)≠0 by decide)
  have h2:=Int.emod_lt_of_pos (a * (1299709+210 * b)+7919 * b) (show(0:Int) < 15485863 by decide)
  refine⟨_,rfl,_,rfl,_,_,rfl,rfl,.inl ⟨by omega,by omega⟩,_,rfl,_,_,rfl,rfl,_,_,rfl,rfl,(by show(0:Int) < 32452843;decide),?_⟩
  refine⟨_,rfl,_,rfl,_,_,rfl,rfl,.inl ⟨?_,?_⟩,_,rfl,_,_,rfl,rfl,_,_,rfl,rfl,(by show(0:Int) < 49979687;decide),?_⟩
  ·exact Int.lt_of_lt_of_le (by decide) (Int.emod_nonneg _ (by decide))
  ·exact Int.lt_trans (Int.emod_lt_of_pos _ (by decide)) (by decide)
  ·exact k _ (Int.emod_nonneg _ (by decide)) (Int.emod_lt_of_pos _ (by decide))
def jn:Sp:=fun vs H Q _=>∃ c s:Int,vs=[.int c,.int s]∧0≤s∧s < 60000∧∀ r:Int,Q (.int r) H
theorem mZ:aG P w K mg base bu 2 (av 55) (aJ 55) ["_law_cell", "_law_salt"] jn:=by
 have qm:aG P w K mg base bu 1 (av 54) (aJ 54) ["_law_number_here", "_law_salt"] ur:=CF T
 refine T.jP.ok mJ (fun vs H Q E h=>?_) (fun cdv A outer s H vs Q E hr h=>?_)
 ·obtain⟨c,s,rfl,_⟩:=h;rfl
 ·have hu:=aX hr
  have gi:=hr.aN
  obtain⟨c,sa,rfl,hs,hs',k⟩:=h
  refine⟨_,(ai (aM (PW.pt (kE (fJ bA (aO dw (pv 0) ao) ao) (iN (fJ Ob (pv 0) (aO kF ao (aO Iz ao ao)))))) (ak (ay (aO US (aO dZ (pv 0) ao) (aO Iz ao ao)))) aA)
   (ai (dW 2 mJ.nd (aO dw (pv 0) ao))
   (ai (dW 3 mJ.nd (aO gg (aO kF (dY qm hr T.qg T.ly.kp T.qf (af (pv 2) (af (pv 1) ah))) ao) (dY qm hr T.qg T.ly.kp T.qf (af (pv 2) (af (aO gg (pv 1) ao) ah)))))
   (ak (ay (aO gg (aO kF (pv 3) ao) (dY qm hr T.qg T.ly.kp T.qf (af (pv 2) (af (aO gg (pv 1) ao) ah))))))))),?_⟩
  have p18:Y6 10 18:=⟨by decide,by decide,by decide⟩
  have n0:0≤c % 1000000007:=Int.emod_nonneg _ (by decide)
  have n1:c % 1000000007 < 4294967296:=Int.lt_trans (Int.emod_lt_of_pos _ (by decide)) (by decide)
  refine⟨_,rfl,_,_,rfl,rfl,(by show(0:Int) < 2;decide),rfl,_,rfl,?_⟩
  refine bW (fun _=>?_) (fun _=>?_)
  ·refine⟨_,rfl,_,_,rfl,rfl,p18,_,_,rfl,rfl,.inl ⟨by decide,by decide⟩,_,_,rfl,rfl,_,rfl,?_⟩
   refine bW (fun _=>?_) (fun _=>?_)
   ·exact⟨_,rfl,_,_,rfl,rfl,⟨by decide,by decide⟩,_,_,rfl,rfl,p18,_,_,rfl,rfl,k _⟩
   ·refine⟨_,rfl,_,_,rfl,rfl,(by show(0:Int) < 1000000007;decide),?_⟩
    refine⟨_,rfl,_,rfl,_,_,rfl,n0,n1,by omega,by omega,fun r1 _ _=>?_⟩
    refine⟨_,_,rfl,rfl,.inr ⟨by decide,by decide⟩,_,rfl,_,rfl,_,_,rfl,rfl,_,_,rfl,n0,n1,by omega,by omega,fun r2 _ _=>⟨_,_,rfl,rfl,?_⟩⟩
    refine⟨_,rfl,_,_,rfl,rfl,.inr ⟨by decide,by decide⟩,_,rfl,_,rfl,_,_,rfl,rfl,_,_,rfl,n0,n1,by omega,by omega,fun r3 _ _=>⟨_,_,rfl,rfl,k _⟩⟩
  ·refine⟨_,rfl,_,_,rfl,rfl,(by show(0:Int) < 1000000007;decide),?_⟩
   refine⟨_,rfl,_,rfl,_,_,rfl,n0,n1,by omega,by omega,fun r1 _ _=>?_⟩
   refine⟨_,_,rfl,rfl,.inr ⟨by decide,by decide⟩,_,rfl,_,rfl,_,_,rfl,rfl,_,_,rfl,n0,n1,by omega,by omega,fun r2 _ _=>⟨_,_,rfl,rfl,?_⟩⟩
   refine⟨_,rfl,_,_,rfl,rfl,.inr ⟨by decide,by decide⟩,_,rfl,_,rfl,_,_,rfl,rfl,_,_,rfl,n0,n1,by omega,by omega,fun r3 _ _=>⟨_,_,rfl,rfl,k _⟩⟩
def wM:Sp:=fun vs H Q _=>∃(n m:Int) (me:Str),vs=[.int n,.int m,.str me]∧Mn me∧0≤m∧m≤3∧∀(t:Addr) (z:Str) (r:Int),Sg z→(z.length:Int)≤m→(1≤m→1≤z.length)→H t=none→Q (.ref t) (upd H t (.tup [.str z,.int r]))
theorem E6:aG P w K mg base bu 1 (av 56) (aJ 56) ["_law_number_here", "_law_many", "_law_menu"] wM:=by
 refine T.nF.ok gG (fun vs H Q E h=>?_) (fun cdv A outer s H vs Q E hr h=>?_)
 ·obtain⟨n,m,me,rfl,_⟩:=h;rfl
 ·have hu:=aX hr
  have gi:=hr.aN
  obtain⟨n,m,me,rfl,⟨hm1,hm2,Wi⟩,h0,h3,k⟩:=h
  have hml:me.length≤sizeLine:=Nat.le_trans hm2 (by decide)
  refine⟨_,(ai (dW 3 gG.nd az)
   (ai (fq PassesOwn.never rfl (oB rfl T.rX (af (pv 1) ah)) (jY 4 gG.nd)
   (ai (dW 5 gG.nd (Lb Ol (pv 2) (aO dw (pv 0) (iS bH T.bQ (af (pv 2) ah))) (fun _ _=>rfl)))
   (ai (dW 0 gG.nd (aO dZ (pv 0) (iS bH T.bQ (af (pv 2) ah))))
   (ak (aM (ic kY (pv 5) (pv 3) rfl) (ak (dW 3 gG.nd (aO bY (pv 3) (pv 5)))) aA)))))
   (ak (ay (aL (af (pv 3) (af (pv 0) ah))))))),?_⟩
  refine⟨_,rfl,m,rfl,by omega,by omega,?_⟩
  refine oE (fun i σ H2=>H2=H∧∃(r:Int) (z:Str) (v1 v2:Option V),σ=[some (.int r),some (.int m),some (.str me),some (.str z),v1,v2]∧Sg z∧z.length≤i∧(1≤i→1≤z.length)) ⟨rfl,n,_,_,_,rfl,Vy,by decide,fun z=>absurd z (by decide)⟩ ?_ ?_
  ·rintro i σ H2 hi ⟨rfl,r,z,v1,v2,rfl,g,hz,hz1⟩
   have hlen:me.cps.toList.length=me.length:=by rw[Array.length_toList];rfl
   obtain⟨c,ec,hc⟩:=Jm (xs:=me.cps.toList) (Int.emod_nonneg r (show(me.length:Int)≠0 by omega)) (by rw[hlen];exact Int.emod_lt_of_pos r (by omega))
   refine⟨_,rfl,_,rfl,_,rfl,me,rfl,hml,_,_,rfl,rfl,(by show(0:Int) < me.length;omega),me,_,c,rfl,rfl,hml,ec,?_⟩
   refine⟨_,rfl,_,rfl,me,rfl,hml,_,_,rfl,rfl,⟨by show(0:Int) < me.length;omega,by show(me.length:Int) < 1073741824;omega⟩,?_⟩
   refine⟨_,rfl,_,rfl,_,_,rfl,rfl,_,rfl,?_⟩
   refine bW (fun ha=>?_) (fun ha=>?_)
   ·have e1:(z++(⟨#[c]⟩:Str)).length=z.length+1:=cg _ _
    refine⟨_,rfl,_,rfl,_,_,rfl,rfl,?_,rfl,_,_,_,_,rfl,Vx g (Wi c hc) ha,by rw[e1];omega,fun _=>by rw[e1];omega⟩
    exact Nat.le_trans (show z.length+1≤5 by omega) (by decide)
   ·refine⟨rfl,_,_,_,_,rfl,g,by omega,fun _=>?_⟩
    have hin:c∈z.cps.toList:=Classical.byContradiction fun q=>ha ((mw z c).mpr q)
    have:=List.length_pos_of_mem hin
    rw[Array.length_toList] at this
    exact this
  ·rintro σ H2 ⟨rfl,r,z,v1,v2,rfl,g,hz,hz1⟩
   exact⟨_,rfl,_,rfl,(by show 2≤sizeLine;decide),fun t ht=>k t z r g (by omega) (fun q=>hz1 (by omega)) ht⟩
def uu:Sp:=fun vs H Q _=>∃ n:Int,vs=[.int n]∧∀(l:Addr) (m1 m2 m3:Str),Mn m1→Mn m2→Mn m3→(n≠0→n≠1→m1.length=94)→H l=none→Q (.ref l) (upd H l (.lst [.str m1,.str m2,.str m3]))
theorem CG:aG P w K mg base bu 1 (av 57) (aJ 57) ["_law_way"] uu:=by
 refine T.wA.ok tZ (fun vs H Q E h=>?_) (fun cdv A outer s H vs Q E hr h=>?_)
 ·obtain⟨n,rfl,_⟩:=h;rfl
 ·have hu:=aX hr
  have gi:=hr.aN
  obtain⟨n,rfl,k⟩:=h
  refine⟨_,(ai (dW 1 tZ.nd az)
   (ai (aM (fJ bA (pv 0) ao) (ak (ay (bB (af az (af az (af az ah)))))) aA)
   (ai (aM (fJ bA (pv 0) ao) (ak (ay (bB (af az (af az (af az ah)))))) aA)
   (ak (ay (bB (af (pv 1) (af (pv 1) (af (pv 1) ah))))))))),?_⟩
  refine⟨_,rfl,rfl,_,rfl,?_⟩
  refine bW (fun h0=>?_) (fun _=>?_)
  ·exact⟨by decide,fun l hl=>k l _ _ _ (by decide +kernel) (by decide +kernel) (by decide +kernel) (fun q _=>absurd (Pz h0) q) hl⟩
  ·refine⟨_,rfl,rfl,_,rfl,?_⟩
   refine bW (fun h1=>?_) (fun _=>?_)
   ·exact⟨by decide,fun l hl=>k l _ _ _ (by decide +kernel) (by decide +kernel) (by decide +kernel) (fun _ q=>absurd (Pz h1) q) hl⟩
   ·exact⟨_,rfl,_,rfl,_,rfl,by decide,fun l hl=>k l _ _ _ (by decide +kernel) (by decide +kernel) (by decide +kernel) (fun _ _=>by decide +kernel) hl⟩
def qo:Sp:=fun vs H Q _=>∃ c:Int,vs=[.int c]∧∀(t:Addr) (p q f:Str) (b1 b2 b3 b4:Bool) (H':Hp),Gd p q f→H t=none→H' t=some (.tup (vG p q f b1 b2 b3 b4))→aE H H'→Q (.ref t) H'
theorem wN:aG P w K mg base bu 3 (av 58) (aJ 58) ["_law_cell"] qo:=by
 have E7:aG P w K mg base bu 1 (av 57) (aJ 57) ["_law_way"] uu:=CG T
 have ia:aG P w K mg base bu 2 (av 55) (aJ 55) ["_law_cell", "_law_salt"] jn:=mZ T
 have sD:aG P w K mg base bu 1 (av 56) (aJ 56) ["_law_number_here", "_law_many", "_law_menu"] wM:=E6 T
 refine T.rW.ok bM (fun vs H Q E h=>?_) (fun cdv A outer s H vs Q E hr h=>?_)
 ·obtain⟨c,rfl,_⟩:=h;rfl
 ·have hu:=aX hr
  have gi:=hr.aN
  obtain⟨c,rfl,k⟩:=h
  refine⟨_,(ai (dW 1 bM.nd (dY ia hr T.oq T.jP.kp T.oj (af (pv 0) (af ao ah))))
   (ai (dW 2 bM.nd (aO dw (pv 1) ao))
   (ai (dW 3 bM.nd (bB (af (aO gg ao (aO dw (aO dZ (pv 1) ao) ao)) (af (aO dw (aO dZ (pv 1) ao) ao) (af (aO dw (aO dZ (pv 1) ao) ao) ah)))))
   (ai (dW 4 bM.nd (dY E7 hr T.ER T.wA.kp T.EO (af (aO dw (aO dZ (pv 1) ao) ao) ah)))
   (ai (qP (dY sD hr T.rV T.nF.kp T.rU (af (aO dZ (pv 1) ao) (af (Jl K (pv 3) ao) (af (Jl K (pv 4) ao) ah)))) (ng K rfl 2 rfl (bX (jY 5 bM.nd) (bX (jY 1 bM.nd) kX))))
   (ai (qP (dY sD hr T.rV T.nF.kp T.rU (af (pv 1) (af (Jl K (pv 3) ao) (af (Jl K (pv 4) ao) ah)))) (ng K rfl 2 rfl (bX (jY 6 bM.nd) (bX (jY 1 bM.nd) kX))))
   (ai (qP (dY sD hr T.rV T.nF.kp T.rU (af (pv 1) (af (Jl K (pv 3) ao) (af (Jl K (pv 4) ao) ah)))) (ng K rfl 2 rfl (bX (jY 7 bM.nd) (bX (jY 1 bM.nd) kX))))
   (ai (dW 8 bM.nd (bB (af (Cb bA (aO dw (pv 2) ao) ao) (af (Cb bA (aO dw (aO dZ (pv 2) ao) ao) ao) (af (Cb bA (aO dw (aO dZ (pv 2) ao) ao) ao) (af (Cb bA (aO dw (aO dZ (pv 2) ao) ao) ao) ah))))))
   (ak (ay (aL (af (pv 5) (af (pv 6) (af (pv 7) (af (Jl K (pv 8) ao) (af (Jl K (pv 8) ao) (af (Jl K (pv 8) ao) (af (Jl K (pv 8) ao) ah)))))))))))))))))),?_⟩
  refine⟨_,rfl,_,_,rfl,by decide,by decide,fun n=>?_⟩
  refine⟨_,rfl,_,_,rfl,rfl,(by show(0:Int) < 16;decide),?_⟩
  refine⟨_,rfl,_,_,rfl,rfl,⟨by decide,by decide⟩,_,_,rfl,rfl,(by show(0:Int) < 3;decide),_,_,rfl,rfl,_,rfl,_,_,rfl,rfl,⟨by decide,by decide⟩,_,_,rfl,rfl,(by show(0:Int) < 3;decide),_,rfl,_,_,rfl,rfl,⟨by decide,by decide⟩,_,_,rfl,rfl,(by show(0:Int) < 3;decide),(by show 3≤sizeLine;decide),fun l hl=>?_⟩
  have m1:=Int.emod_nonneg (n / 16) (show(3:Int)≠0 by decide)
  have m1':=Int.emod_lt_of_pos (n / 16) (show(0:Int) < 3 by decide)
  have m2:=Int.emod_nonneg (n / 48) (show(3:Int)≠0 by decide)
  have m2':=Int.emod_lt_of_pos (n / 48) (show(0:Int) < 3 by decide)
  have m3:=Int.emod_nonneg (n / 144) (show(3:Int)≠0 by decide)
  have m3':=Int.emod_lt_of_pos (n / 144) (show(0:Int) < 3 by decide)
  have h1:(upd H l (.lst [.int (1+n / 16 % 3),.int (n / 48 % 3),.int (n / 144 % 3)])) l=some (.lst [.int (1+n / 16 % 3),.int (n / 48 % 3),.int (n / 144 % 3)]):=aj
  have s1:aE H (upd H l (.lst [.int (1+n / 16 % 3),.int (n / 48 % 3),.int (n / 144 % 3)])):=aq hl
  generalize upd H l (.lst [.int (1+n / 16 % 3),.int (n / 48 % 3),.int (n / 144 % 3)])=H1 at h1 s1 ⊢
  refine⟨_,rfl,_,_,rfl,rfl,⟨by decide,by decide⟩,_,_,rfl,rfl,(by show(0:Int) < 3;decide),_,rfl,fun l2 e1 e2 e3 g1 g2 g3 _ hl2=>?_⟩
  have h2:(upd H1 l2 (.lst [.str e1,.str e2,.str e3])) l2=some (.lst [.str e1,.str e2,.str e3]):=aj
  have s2:aE H1 (upd H1 l2 (.lst [.str e1,.str e2,.str e3])):=aq hl2
  generalize upd H1 l2 (.lst [.str e1,.str e2,.str e3])=H2 at h2 s2 ⊢
  have h12:=s2 _ _ h1
  refine⟨_,rfl,_,_,rfl,rfl,⟨by decide,by decide⟩,_,rfl,l,_,_,_,rfl,rfl,aU.of h12,rfl,_,rfl,l2,_,_,_,rfl,rfl,aU.of h2,rfl,_,_,_,rfl,g1,by omega,by omega,fun t1 p r1 gp lp lp1 ht1=>?_⟩
  refine⟨t1,_,rfl,aV.of aj,rfl,_,_,rfl,_,_,rfl,rfl,?_⟩
  have s3:aE H2 (upd H2 t1 (.tup [.str p,.int r1])):=aq ht1
  generalize upd H2 t1 (.tup [.str p,.int r1])=H3 at s3 ⊢
  refine⟨_,rfl,_,rfl,l,_,_,_,rfl,rfl,aU.of (s3 _ _ h12),rfl,_,rfl,l2,_,_,_,rfl,rfl,aU.of (s3 _ _ h2),rfl,_,_,_,rfl,g2,by omega,by omega,fun t2 q r2 gq lq lq1 QO=>?_⟩
  refine⟨t2,_,rfl,aV.of aj,rfl,_,_,rfl,_,_,rfl,rfl,?_⟩
  have s4:aE H3 (upd H3 t2 (.tup [.str q,.int r2])):=aq QO
  generalize upd H3 t2 (.tup [.str q,.int r2])=H4 at s4 ⊢
  refine⟨_,rfl,_,rfl,l,_,_,_,rfl,rfl,aU.of (s4 _ _ (s3 _ _ h12)),rfl,_,rfl,l2,_,_,_,rfl,rfl,aU.of (s4 _ _ (s3 _ _ h2)),rfl,_,_,_,rfl,g3,by omega,by omega,fun t3 f r3 gf lf lf1 ht3=>?_⟩
  refine⟨t3,_,rfl,aV.of aj,rfl,_,_,rfl,_,_,rfl,rfl,?_⟩
  have s5:aE H4 (upd H4 t3 (.tup [.str f,.int r3])):=aq ht3
  generalize upd H4 t3 (.tup [.str f,.int r3])=H5 at s5 ⊢
  refine⟨_,rfl,_,_,rfl,rfl,(by show(0:Int) < 2;decide),rfl,_,rfl,_,_,rfl,rfl,⟨by decide,by decide⟩,_,_,rfl,rfl,(by show(0:Int) < 2;decide),rfl,_,rfl,_,_,rfl,rfl,⟨by decide,by decide⟩,_,_,rfl,rfl,(by show(0:Int) < 2;decide),rfl,_,rfl,_,_,rfl,rfl,⟨by decide,by decide⟩,_,_,rfl,rfl,(by show(0:Int) < 2;decide),rfl,(by show 4≤sizeLine;decide),fun l6 hl6=>?_⟩
  have s6:=aq (o:=HO.lst [.bl (decide (V.int (n % 16 % 2)=V.int 1)),.bl (decide (V.int (n % 16 / 2 % 2)=V.int 1)),.bl (decide (V.int (n % 16 / 4 % 2)=V.int 1)),.bl (decide (V.int (n % 16 / 8 % 2)=V.int 1))]) hl6
  refine⟨_,rfl,_,rfl,_,rfl,_,rfl,l6,_,_,_,rfl,rfl,aU.of aj,rfl,_,rfl,l6,_,_,_,rfl,rfl,aU.of aj,rfl,_,rfl,l6,_,_,_,rfl,rfl,aU.of aj,rfl,_,rfl,l6,_,_,_,rfl,rfl,aU.of aj,rfl,(by show 7≤sizeLine;decide),fun t ht=>?_⟩
  have aam:=((((s1.trans s2).trans s3).trans s4).trans s5).trans s6
  exact k t p q f _ _ _ _ _ ⟨gp,gq,gf,lp1 (by omega),by omega,by omega,by omega⟩ (aam.free ht) aj (aam.trans (aq ht))
def wO (C:Addr):Sp:=fun vs H Q _=>∃(t:Addr) (p q f:Str) (b1 b2 b3 b4:Bool),vs=[.ref t]∧H t=some (.tup (vG p q f b1 b2 b3 b4))∧Gd p q f∧∀(x dx:Addr) (H':Hp),H x=none→H' x=some (.ins C dx (AF p q f b1 b2 b3 b4))→aE H H'→Q (.ref x) H'
theorem E8:aG P w K mg base bu 5 (av 59) (aJ 59) ["_law_told_here"] (wO (av 67)):=by
 have iH:aG P w K mg base bu 3 (av 2) (aJ 2) ["self", "parts", "quotes", "frees", "twin", "wide", "thin", "stray"] (gO (av 67)):=kU T
 refine T.yT.ok EH (fun vs H Q E h=>?_) (fun cdv A outer s H vs Q E hr h=>?_)
 ·obtain⟨t,p,q,f,b1,b2,b3,b4,rfl,_⟩:=h;rfl
 ·have hu:=aX hr
  have gi:=hr.aN
  obtain⟨t,p,q,f,b1,b2,b3,b4,rfl,ht,g,k⟩:=h
  have hS:aV K H t (vG p q f b1 b2 b3 b4):=aV.of ht
  refine⟨_,(ak (ay (nc (k:=3) T.DO iH (hr.mono (by decide)) rfl T.DN T.mO .nil gh (af (f9 K (pv 0) ao) (af (f9 K (pv 0) ao) (af (f9 K (pv 0) ao) (af (f9 K (pv 0) ao) (af (f9 K (pv 0) ao) (af (f9 K (pv 0) ao) (af (f9 K (pv 0) ao) ah)))))))))),?_⟩
  refine⟨_,rfl,t,_,_,_,rfl,rfl,hS,rfl,_,rfl,t,_,_,_,rfl,rfl,hS,rfl,_,rfl,t,_,_,_,rfl,rfl,hS,rfl,_,rfl,t,_,_,_,rfl,rfl,hS,rfl,_,rfl,t,_,_,_,rfl,rfl,hS,rfl,_,rfl,t,_,_,_,rfl,rfl,hS,rfl,_,rfl,t,_,_,_,rfl,rfl,hS,rfl,fun x dx hx hdx ne=>?_⟩
  refine⟨x,dx,p,q,f,b1,b2,b3,b4,rfl,aj,g,fun H2 h2 kp=>⟨rfl,k x dx H2 hx h2 fun b o e=>kp b o ?_ (bq e hx)⟩⟩
  rw[aC (bq e hx),aC (bq e hdx)]
  exact e
def wQ (K:W.Frag):Sp:=fun vs H Q _=>∃(t:Addr) (n:Int) (x:bI),vs=[.ref t,.int n]∧H t=some (.tup (uJ x))∧nk x∧∀ t2 (y:bI) H',nk y→H' t2=some (.tup (uJ y))→aE H H'→Q (.ref t2) H'
theorem E9:aG P w K mg base bu 1 (av 60) (aJ 60) ["_law_told_here", "_law_number_here"] (wQ K):=by
 refine T.yU.ok qd (fun vs H Q E h=>?_) (fun cdv A outer s H vs Q E hr h=>?_)
 ·obtain⟨t,n,x,rfl,_⟩:=h;rfl
 ·have hu:=aX hr
  have gi:=hr.aN
  obtain⟨t,n,x,rfl,ht,g,k⟩:=h
  refine⟨_,(ai (dW 2 qd.nd (Yp (BX K rfl) T.sQ (af (pv 0) ah)))
   (ai (dW 3 qd.nd (aO dw (pv 1) ao))
   (ai (aM (fJ Aj (pv 3) ao) (ak (qP (Ir (Jl K (pv 2) (aO gg ao (pv 3)))) (DZ (pv 2) (aO gg ao (pv 3)) set_list))) aA)
   (ai (aM (fJ bA (pv 3) ao) (ak (qP (cO K rfl PySem.F.plainAttrs_str PySem.F.slot_str_join PySem.F.type_str_join (lX K rfl) az (af (Gw rfl rfl T.sQ rfl T.yV (af (f9 K (pv 0) ao) ah)) ah)) (DZ (pv 2) ao set_list))) aA)
   (ai (aM (fJ bA (pv 3) ao) (ak (qP az (DZ (pv 2) ao set_list))) aA)
   (ai (aM (fJ bA (pv 3) ao) (ak (qP az (DZ (pv 2) ao set_list))) aA)
   (ak (ay (Yp (lY K rfl) T.kr (af (pv 2) ah)))))))))),?_⟩
  refine⟨_,rfl,t,_,rfl,.inr (aV.of ht),fun l hl=>?_⟩
  have s1:=aq (o:=HO.lst (uJ x)) hl
  have h1:(upd H l (.lst (uJ x))) l=some (.lst (uJ x)):=aj
  generalize upd H l (.lst (uJ x))=H1 at s1 h1 ⊢
  refine⟨_,rfl,_,_,rfl,rfl,(by show(0:Int) < 7;decide),?_⟩
  have w0:=Int.emod_nonneg n (show(7:Int)≠0 by decide)
  have w1:=Int.emod_lt_of_pos n (show(0:Int) < 7 by decide)
  dsimp only[bK]
  generalize n % 7=w at w0 w1 ⊢
  refine jD (t:=FF _ _ _) (fun σ' H'=>aE H H'∧σ'=[some (.ref t),some (.int n),some (.ref l),some (.int w)]∧∃ y:bI,nk y∧H' l=some (.lst (uJ y))) ?_ (fun go=>?_)
  rotate_left
  ·refine⟨_,rfl,_,_,rfl,rfl,_,rfl,bW (fun h4=>?_) (fun _=>go _ _ ⟨s1,rfl,x,g,h1⟩)⟩
   have h4:w < 4:=of_decide_eq_true h4
   rcases(by omega:w=0∨w=1∨w=2∨w=3) with rfl | rfl | rfl | rfl
   ·exact⟨_,rfl,_,rfl,_,_,rfl,rfl,l,_,_,_,rfl,rfl,aU.of h1,rfl,x.2.2.2.a,rfl,_,rfl,_,rfl,_,_,rfl,rfl,l,_,_,3,rfl,rfl,h1,rfl,go _ _ ⟨aI hl s1,rfl,(x.1,x.2.1,x.2.2.1,⟨!x.2.2.2.a,x.2.2.2.b,x.2.2.2.c,x.2.2.2.d⟩),g,aj⟩⟩
   ·exact⟨_,rfl,_,rfl,_,_,rfl,rfl,l,_,_,_,rfl,rfl,aU.of h1,rfl,x.2.2.2.b,rfl,_,rfl,_,rfl,_,_,rfl,rfl,l,_,_,4,rfl,rfl,h1,rfl,go _ _ ⟨aI hl s1,rfl,(x.1,x.2.1,x.2.2.1,⟨x.2.2.2.a,!x.2.2.2.b,x.2.2.2.c,x.2.2.2.d⟩),g,aj⟩⟩
   ·exact⟨_,rfl,_,rfl,_,_,rfl,rfl,l,_,_,_,rfl,rfl,aU.of h1,rfl,x.2.2.2.c,rfl,_,rfl,_,rfl,_,_,rfl,rfl,l,_,_,5,rfl,rfl,h1,rfl,go _ _ ⟨aI hl s1,rfl,(x.1,x.2.1,x.2.2.1,⟨x.2.2.2.a,x.2.2.2.b,!x.2.2.2.c,x.2.2.2.d⟩),g,aj⟩⟩
   ·exact⟨_,rfl,_,rfl,_,_,rfl,rfl,l,_,_,_,rfl,rfl,aU.of h1,rfl,x.2.2.2.d,rfl,_,rfl,_,rfl,_,_,rfl,rfl,l,_,_,6,rfl,rfl,h1,rfl,go _ _ ⟨aI hl s1,rfl,(x.1,x.2.1,x.2.2.1,⟨x.2.2.2.a,x.2.2.2.b,x.2.2.2.c,!x.2.2.2.d⟩),g,aj⟩⟩
  rintro σ' H2 ⟨s2,rfl,x2,g2,h2⟩
  have a1:=g2.p1;have a2:=g2.p3;have a3:=g2.q2;have a4:=g2.f2
  have c1:=g.p1;have c2:=g.p3
  refine jD (t:=FF _ _ _) (fun σ' H'=>aE H H'∧σ'=[some (.ref t),some (.int n),some (.ref l),some (.int w)]∧∃ y:bI,nk y∧H' l=some (.lst (uJ y))) ?_ (fun go=>?_)
  rotate_left
  ·refine⟨_,rfl,rfl,_,rfl,bW (fun _=>?_) (fun _=>go _ _ ⟨s2,rfl,x2,g2,h2⟩)⟩
   have QO:=s2 _ _ ht
   have r1:=Sk x.1
   refine⟨rfl,_,rfl,t,_,_,_,rfl,rfl,aV.of QO,rfl,_,rfl,Nat.le_trans c2 (by decide),fun l2 hl2=>?_⟩
   have z2:=aq (o:=HO.lst (x.1.cps.toList.reverse.map fun c=>V.str (sg c))) hl2
   have q2:(upd H2 l2 (HO.lst (x.1.cps.toList.reverse.map fun c=>V.str (sg c)))) l2=some (.lst ((x.1.cps.toList.reverse.map sg).map V.str)):=by rw[List.map_map];exact aj
   have h3:=z2 _ _ h2
   generalize upd H2 l2 (HO.lst (x.1.cps.toList.reverse.map fun c=>V.str (sg c)))=H3 at z2 q2 h3 ⊢
   refine⟨_,l2,x.1.cps.toList.reverse.map sg,rfl,rfl,aU.of q2,?_,?_⟩
   ·rw[Eu,nX,List.length_reverse,Array.length_toList]
    show x.1.length+_ * 0≤_
    omega
   rw[IV]
   exact⟨_,rfl,l,_,_,0,rfl,rfl,h3,rfl,go _ _ ⟨aI hl (s2.trans z2),rfl,(Ej x.1,x2.2),⟨VD g.gp,g2.gq,g2.gf,by show 1≤(Ej x.1).length;omega,by show(Ej x.1).length≤3;omega,a3,a4⟩,aj⟩⟩
  rintro σ' H5 ⟨s5,rfl,x5,g5,h5⟩
  have d1:=g5.p1;have d2:=g5.p3;have d3:=g5.q2;have d4:=g5.f2
  refine jD (t:=FF _ _ _) (fun σ' H'=>aE H H'∧σ'=[some (.ref t),some (.int n),some (.ref l),some (.int w)]∧∃ y:bI,nk y∧H' l=some (.lst (uJ y))) ?_ (fun go=>?_)
  rotate_left
  ·refine⟨_,rfl,rfl,_,rfl,bW (fun _=>?_) (fun _=>go _ _ ⟨s5,rfl,x5,g5,h5⟩)⟩
   exact⟨_,rfl,l,_,_,1,rfl,rfl,h5,rfl,go _ _ ⟨aI hl s5,rfl,(x5.1,Str.ofString "",x5.2.2),⟨g5.gp,Ug,g5.gf,d1,d2,by show("":Str).length≤2;rw[nX];omega,d4⟩,aj⟩⟩
  rintro σ' H6 ⟨s6,rfl,x6,g6,h6⟩
  have e1:=g6.p1;have e2:=g6.p3;have e3:=g6.q2;have e4:=g6.f2
  refine jD (t:=FF _ _ _) (fun σ' H'=>aE H H'∧σ'=[some (.ref t),some (.int n),some (.ref l),some (.int w)]∧∃ y:bI,nk y∧H' l=some (.lst (uJ y))) ?_ (fun go=>?_)
  rotate_left
  ·refine⟨_,rfl,rfl,_,rfl,bW (fun _=>?_) (fun _=>go _ _ ⟨s6,rfl,x6,g6,h6⟩)⟩
   exact⟨_,rfl,l,_,_,2,rfl,rfl,h6,rfl,go _ _ ⟨aI hl s6,rfl,(x6.1,x6.2.1,Str.ofString "",x6.2.2.2),⟨g6.gp,g6.gq,Ug,e1,e2,e3,by show("":Str).length≤2;rw[nX];omega⟩,aj⟩⟩
  rintro σ' H7 ⟨s7,rfl,x7,g7,h7⟩
  exact⟨_,rfl,l,_,rfl,.inl ⟨aU.of h7,fun t2 QO=>k t2 x7 _ g7 aj (s7.trans (aq QO))⟩⟩
def sE (K:W.Frag):Sp:=fun vs H Q _=>∃(a t:Addr) (ns:List Int) (n0 m:Int) (x:bI),vs=[.ref a,.ref t,.int n0,.int m]∧aU K H a (ns.map V.int)∧ns.length≤63∧H t=some (.tup (uJ x))∧nk x∧0≤n0∧n0≤100∧0≤m∧m≤10∧∀ l xs cs H',H l=none→H' l=some (.lst xs)→Es H' xs cs→(∀ c∈cs,nk c)→(cs.length:Int)=m→aE H H'→Q (.ref l) H'
theorem BK:aG P w K mg base bu 4 (av 61) (aJ 61) ["_law_script", "_law_told_here", "_law_first", "_law_many"] (sE K):=by
 have gC:aG P w K mg base bu 1 (av 53) (aJ 53) ["_law_script", "_law_k"] (kJ K):=qI T
 have HH:aG P w K mg base bu 1 (av 60) (aJ 60) ["_law_told_here", "_law_number_here"] (wQ K):=E9 T
 have ia:aG P w K mg base bu 2 (av 55) (aJ 55) ["_law_cell", "_law_salt"] jn:=mZ T
 have sF:aG P w K mg base bu 3 (av 58) (aJ 58) ["_law_cell"] qo:=wN T
 refine T.ug.ok ja (fun vs H Q E h=>?_) (fun cdv A outer s H vs Q E hr h=>?_)
 ·obtain⟨a,t,ns,n0,m,x,rfl,_⟩:=h;rfl
 ·have hu:=aX hr
  have gi:=hr.aN
  obtain⟨a,t,ns,n0,m,x,rfl,hS,hns,ht,g,hn0,hn1,hm0,hm1,k⟩:=h
  refine⟨_,(ai (dW 4 ja.nd (bB ah))
   (ai (fq PassesOwn.never rfl (oB rfl T.rX (af (pv 3) ah)) (jY 5 ja.nd)
   (ai (dW 6 ja.nd (dY ia hr T.oq T.jP.kp T.oj (af (dY gC hr T.jd T.gv.kp T.jc (af (pv 0) (af (aO gg (pv 2) (pv 5)) ah))) (af (aO gg ao (aO kF ao (pv 5))) ah))))
   (ak (aM (fJ bA (aO dw (pv 6) ao) ao) (ak (cR (cO K rfl PySem.F.plainAttrs_list PySem.F.slot_list_append PySem.F.type_list_append cJ (pv 4) (af (dY sF hr T.yS T.rW.kp T.yR (af (aO gg (aO kF ao (aO Iz ao ao)) (aO kF ao (aO dZ (pv 6) ao))) ah)) ah)))) (ak (cR (cO K rfl PySem.F.plainAttrs_list PySem.F.slot_list_append PySem.F.type_list_append cJ (pv 4) (af (dY HH hr T.Hx T.yU.kp T.Hw (af (pv 1) (af (aO dZ (pv 6) ao) ah))) ah))))))))
   (ak (ay (pv 4))))),?_⟩
  refine⟨(by show 0≤sizeLine;decide),fun l hl=>?_⟩
  have s0:=aq (o:=HO.lst []) hl
  have q0:=aj (H:=H) (a:=l) (o:=HO.lst [])
  generalize upd H l (HO.lst [])=H0 at s0 q0 ⊢
  refine⟨_,rfl,m,rfl,by omega,by omega,?_⟩
  refine oE (fun i σ J=>aE H J∧∃(xs:List V) (cs:List bI) (v1 v2:Option V),σ=[some (.ref a),some (.ref t),some (.int n0),some (.int m),some (.ref l),v1,v2]∧J l=some (.lst xs)∧Es J xs cs∧(∀ c∈cs,nk c)∧cs.length=i) ⟨s0,[],[],none,none,rfl,q0,.nil,(fun _ z=>nomatch z),rfl⟩ ?_ ?_
  ·rintro i σ J hi ⟨sJ,xs,cs,v1,v2,rfl,hx,tp,gs,hcl⟩
   have hxl:=tp.length
   have hil:i < 10:=by omega
   have fin:∀(tt:Addr) (y:bI) (J2:Hp),aE J J2→J2 tt=some (.tup (uJ y))→nk y→J2 l=some (.lst xs)∧xs.length < sizeLine∧aE H (upd J2 l (.lst (xs++[.ref tt])))∧Es (upd J2 l (.lst (xs++[.ref tt]))) (xs++[.ref tt]) (cs++[y])∧(∀ c∈cs++[y],nk c)∧(cs++[y]).length=i+1:=fun tt y J2 s2 hy gy=>by
    have hx2:=s2 _ _ hx
    refine⟨hx2,Nat.lt_of_le_of_lt (show xs.length≤100 by omega) (by decide),aI hl (sJ.trans s2),Es.Sl hx2 (cj (Es.mono s2 tp) (.cons ⟨tt,rfl,hy⟩ .nil)),fun c hc=>?_,by rw[List.length_append];show _+1=_;omega⟩
    rcases List.mem_append.mp hc with z | z
    ·exact gs c z
    ·rw[List.mem_singleton.mp z];exact gy
   dsimp only[bK]
   refine⟨_,rfl,_,rfl,_,rfl,_,_,rfl,rfl,_,_,_,rfl,sJ.seq hS,(by omega),fun zz=>⟨_,rfl,_,_,rfl,rfl,.inl ⟨(by omega),(by omega)⟩,_,_,rfl,rfl,_,_,rfl,(by omega),(by omega),fun n=>?_⟩⟩
   dsimp only[bK]
   refine⟨_,rfl,_,_,rfl,rfl,(by show(0:Int) < 3;decide),rfl,_,rfl,bW (fun _=>?_) (fun _=>?_)⟩
   ·refine⟨_,rfl,.inl ⟨rfl,⟨_,aU.of hx⟩⟩,_,_,rfl,rfl,⟨(by omega),⟨(by omega),(by omega)⟩⟩,_,_,rfl,rfl,.inl ⟨(by omega),(by omega)⟩,_,rfl,_,_,rfl,rfl,⟨(by omega),(by omega)⟩,_,_,rfl,rfl,.inl ⟨(by omega),(by omega)⟩,_,_,rfl,rfl,_,rfl,fun t2 p' q' f' c1 c2 c3 c4 J2 g2 QO h2 s2=>⟨_,_,_,rfl,rfl,(s2 _ _ hx),?_,(aI hl (sJ.trans s2)),?_⟩⟩
    ·exact(fin t2 (p',q',f',⟨c1,c2,c3,c4⟩) J2 s2 h2 g2).2.1
    obtain⟨_,_,_,z1,z2,z3⟩:=fin t2 (p',q',f',⟨c1,c2,c3,c4⟩) J2 s2 h2 g2
    exact⟨_,_,_,_,rfl,aj,z1,z2,z3⟩
   ·refine⟨_,rfl,.inl ⟨rfl,⟨_,aU.of hx⟩⟩,_,rfl,_,rfl,_,_,rfl,rfl,⟨(by omega),(by omega)⟩,_,_,_,rfl,(sJ _ _ ht),g,fun t2 y J2 g2 h2 s2=>⟨_,_,_,rfl,rfl,(s2 _ _ hx),?_,(aI hl (sJ.trans s2)),?_⟩⟩
    ·exact(fin t2 y J2 s2 h2 g2).2.1
    obtain⟨_,_,_,z1,z2,z3⟩:=fin t2 y J2 s2 h2 g2
    exact⟨_,_,_,_,rfl,aj,z1,z2,z3⟩
  ·rintro σ J ⟨sJ,xs,cs,v1,v2,rfl,hx,tp,gs,hcl⟩
   exact⟨_,rfl,k l xs cs J hl hx tp gs (by omega) sJ⟩
def uv (K:W.Frag):Sp:=fun vs H Q _=>∃(l a:Addr) (ls xs:List V) (cs:List bI) (t:List (List Str)),vs=[.ref l,.ref a]∧H l=some (.lst ls)∧Es H ls cs∧(∀ c∈cs,nk c)∧cs.length≤20∧H a=some (.lst xs)∧Paired (bP H) xs t∧TabOk t∧∀(F:Str) H',F=fZ cs t→bU F→1≤F.length→F.length≤1000→aE H H'→Q (.str F) H'
theorem CH:aG P w K mg base bu 1 (av 62) (aJ 62) ["_law_tolds", "_law_table_here"] (uv K):=by
 refine T.wB.ok g9 (fun vs H Q E h=>?_) (fun cdv A outer s H vs Q E hr h=>?_)
 ·obtain⟨l,a,ls,xs,cs,t,rfl,_⟩:=h;rfl
 ·have hu:=aX hr
  have gi:=hr.aN
  obtain⟨l,a,ls,xs,cs,t,rfl,hl,tp,gs,hcl,ha,pr,tok,k⟩:=h
  have tl:=tp.length
  have pl:=pr.length
  have hn:=tok.n
  have hsum:=tok.sum
  refine⟨_,(ai (dW 2 g9.nd (aO bY (aO bY (cO K rfl PySem.F.plainAttrs_str PySem.F.slot_str_join PySem.F.type_str_join (lX K rfl) az (af (cS rfl (show bg ["_law_tolds", "_law_table_here", "_law_some_here", "_law_found", "_law_sign"] (au fB) ["_law_told_here"] 1 [] _ from Di) (bZ K rfl (pv 0)) (fun _ _ _ _=>(jY 0 NS)) (fun _ _ _ _=>cK) (fun _ _ _ _=>(aO bY (aO bY (f9 K (pv 0) ao) (f9 K (pv 0) ao)) (f9 K (pv 0) ao)))) ah)) az) (cO K rfl PySem.F.plainAttrs_str PySem.F.slot_str_join PySem.F.type_str_join (lX K rfl) az (af (cS rfl (show bg ["_law_tolds", "_law_table_here", "_law_some_here", "_law_found", "_law_sign"] (au fB) ["_law_row"] 1 [] _ from Di) (bZ K rfl (pv 1)) (fun _ _ _ _=>(jY 0 NS)) (fun _ _ _ _=>cK) (fun _ _ _ _=>(cO K rfl PySem.F.plainAttrs_str PySem.F.slot_str_join PySem.F.type_str_join (lX K rfl) az (af (pv 0) ah)))) ah))))
   (ai (dW 3 g9.nd az)
   (ai (fq PassesOwn.never rfl (qT (pv 2)) (jY 4 g9.nd)
   (ak (aM (ic kY (pv 4) (pv 3) rfl) (ak (dW 3 g9.nd (aO bY (pv 3) (pv 4)))) aA)))
   (ak (ay (pv 3)))))),?_⟩
  refine⟨rfl,_,rfl,l,rfl,⟨_,aU.of hl⟩,fun D hD=>?_⟩
  refine cL (K:=K) (a:=l) (xs:=ls) (fun i ws τ J=>(∃ v,τ=[v])∧aE H J∧J D=some (.lst ws)∧∃ zs:List Str,ws=zs.map V.str∧zs.length=i∧zs=(cs.take i).map Uj∧∀ z∈zs,bU z∧z.length≤7) ⟨⟨_,rfl⟩,aq hD,aj,[],rfl,rfl,rfl,fun z q=>nomatch q⟩ (fun i ws τ J _ p=>⟨aU.of (p.2.1 _ _ hl),p.2.2.1⟩) ?_ ?_
  ·rintro i e ws τ J hi ⟨⟨v,rfl⟩,sJ,hJ,zs,rfl,DP,hze,hzs⟩
   have hil:=(List.getElem?_eq_some_iff.mp hi).1
   obtain⟨x,hx,tt,rfl,Bw⟩:=aQ tp i e hi
   have g:=gs x (List.mem_of_getElem? hx)
   have hp3:=g.p3;have hq2:=g.q2;have hf2:=g.f2
   have hS:aV K J tt (uJ x):=aV.of (sJ _ _ Bw)
   have e7:((x.1++x.2.1)++x.2.2.1).length≤7:=by rw[cg,cg];omega
   have co:bU ((x.1++x.2.1)++x.2.2.1):=oU (oU (fun c h=>.inr (g.gp.pr c h)) (fun c h=>.inr (g.gq.pr c h))) (fun c h=>.inr (g.gf.pr c h))
   refine qZ ?_
   refine⟨_,rfl,tt,_,_,_,rfl,rfl,hS,rfl,_,rfl,tt,_,_,_,rfl,rfl,hS,rfl,_,_,rfl,rfl,Nat.le_trans (show x.1.length+x.2.1.length≤5 by omega) (by decide),_,rfl,tt,_,_,_,rfl,rfl,hS,rfl,_,_,rfl,rfl,?_,hJ,?_,⟨_,rfl⟩,aI hD sJ,aj,zs++[(x.1++x.2.1)++x.2.2.1],?_,?_,by rw[aS hx,List.map_append,hze];rfl,?_⟩
   ·rw[cg];exact Nat.le_trans (show x.1.length+x.2.1.length+x.2.2.1.length≤7 by omega) (by decide)
   ·rw[List.length_map];exact Nat.lt_of_le_of_lt (show zs.length≤20 by omega) (by decide)
   ·rw[List.map_append];rfl
   ·rw[List.length_append,DP];rfl
   ·intro z hz
    rcases List.mem_append.mp hz with h | h
    ·exact hzs z h
    ·rw[List.mem_singleton.mp h];exact⟨co,e7⟩
  rintro ws τ J ⟨⟨v,rfl⟩,sJ,hJ,zs,rfl,DP,hze,hzs⟩
  have j1:=LA (r:=zs) (m:=7) fun z hz=>(hzs z hz).2
  have j2:bU (ck zs):=Ae fun z hz=>(hzs z hz).1
  have j3:=oX zs
  have szb:100000≤sizeLine:=by decide
  have nl2:(Str.ofString "\n ").length=2:=by decide +kernel
  have nlo:bU (Str.ofString "\n "):=by show ∀ c∈_,_;decide +kernel
  have j4:=cg (ck zs) (Str.ofString "\n ")
  refine⟨_,D,zs,rfl,rfl,aU.of hJ,by rw[nX];omega,?_⟩
  rw[pX]
  refine⟨_,_,rfl,rfl,by omega,?_⟩
  have A1:bU (ck zs++Str.ofString "\n "):=oU j2 nlo
  have A2:(ck zs++Str.ofString "\n ").length≤142∧2≤(ck zs++Str.ofString "\n ").length:=by omega
  rw[tl,List.take_of_length_le (Nat.le_refl _)] at hze
  have hzA:ck zs++Str.ofString "\n " = ck (cs.map Uj)++Str.ofString "\n " := by rw[hze]
  generalize ck zs++Str.ofString "\n " = zA at A1 A2 hzA ⊢
  have haJ:=sJ _ _ ha
  refine⟨rfl,_,rfl,a,rfl,⟨_,aU.of haJ⟩,fun E hE=>?_⟩
  refine cL (K:=K) (a:=a) (xs:=xs) (fun i ws τ G=>(∃ v,τ=[v])∧aE J G∧G E=some (.lst ws)∧ws=((t.take i).map ck).map V.str) ⟨⟨_,rfl⟩,aq hE,aj,rfl⟩ (fun i ws τ G _ p=>⟨aU.of (p.2.1 _ _ haJ),p.2.2.1⟩) ?_ ?_
  ·rintro i e ws τ G hi ⟨⟨v,rfl⟩,sG,hG,rfl⟩
   have hil:=(List.getElem?_eq_some_iff.mp hi).1
   obtain⟨r,hr,b,rfl,hb⟩:=aQ pr i e hi
   have hrs:=vL (List.mem_of_getElem? hr)
   have hrl:=(tok.rows r (List.mem_of_getElem? hr)).hi
   have hes:=oX r
   have hcs:=GR r
   refine qZ ?_
   refine⟨rfl,_,rfl,_,b,r,rfl,rfl,aU.of ((sJ.trans sG) _ _ hb),by rw[nX];omega,hG,?_,⟨_,rfl⟩,aI hE sG,aj,?_⟩
   ·rw[List.length_map,List.length_map,List.length_take]
    exact Nat.lt_of_le_of_lt (show _≤100 by omega) (by decide)
   ·rw[pX,aS hr,List.map_append,List.map_append];rfl
  rintro ws τ G ⟨⟨v,rfl⟩,sG,hG,rfl⟩
  rw[pl,List.take_of_length_le (Nat.le_refl _)] at hG
  have k1:=Dv t
  have k2:=oX (t.map ck)
  have k3:bU (ck (t.map ck)):=Ae fun c hc=>by
   obtain⟨r,hr,rfl⟩:=List.mem_map.mp hc
   exact Ae (tok.rows r hr).ok
  refine⟨_,E,t.map ck,rfl,rfl,aU.of hG,by rw[nX,List.length_map];omega,?_⟩
  rw[pX]
  have j6:=cg zA (ck (t.map ck))
  refine⟨_,_,rfl,rfl,by omega,?_⟩
  have B1:bU (zA++ck (t.map ck)):=oU A1 k3
  have B2:2≤(zA++ck (t.map ck)).length∧(zA++ck (t.map ck)).length≤600:=by omega
  have aan:rD (zA++ck (t.map ck))=fZ cs t:=by rw[hzA];exact LG cs t
  generalize zA++ck (t.map ck)=z at B1 B2 aan ⊢
  refine⟨_,rfl,_,rfl,?_⟩
  have DP:z.cps.toList.length=z.length:=by rw[Array.length_toList];rfl
  refine vt (fun i σ J2=>J2=G∧∃(F:Str) (v:Option V),σ=[some (.ref l),some (.ref a),some (.str z),some (.str F),v]∧F=⟨(cZ (z.cps.toList.take i)).toArray⟩∧bU F∧F.length≤i∧(1≤i→1≤F.length)) ⟨rfl,_,none,rfl,(by rw[List.take_zero];decide +kernel),(by show ∀ c∈_,_;decide +kernel),by decide,fun q=>absurd q (by decide)⟩ ?_ ?_
  ·rintro i c σ J2 hi ⟨rfl,F,v,rfl,eF,oF,hF,h1⟩
   have hil:=(List.getElem?_eq_some_iff.mp hi).1
   have e1:(F++(⟨#[c]⟩:Str)).length=F.length+1:=cg _ _
   refine⟨_,rfl,_,rfl,_,_,rfl,rfl,_,rfl,bW (fun hA=>?_) (fun hA=>?_)⟩
   ·refine⟨_,rfl,_,rfl,_,_,rfl,rfl,?_,rfl,_,_,rfl,?_,?_,?_,fun _=>?_⟩
    ·exact Nat.le_trans (show F.length+1≤1000 by omega) (by decide)
    ·rw[aS hi,mE]
     unfold gu
     rw[if_pos (by rw[←eF];exact hA),←Le,←eF]
     rfl
    ·exact oU oF (fun d hd=>by rw[List.mem_singleton.mp (show d∈[c] from hd)];exact B1 c (List.mem_of_getElem? hi))
    ·show(F++(⟨#[c]⟩:Str)).length≤_;rw[e1];omega
    ·show 1≤(F++(⟨#[c]⟩:Str)).length;rw[e1];omega
   ·refine⟨rfl,F,_,rfl,?_,oF,by omega,fun _=>?_⟩
    ·rw[aS hi,mE]
     unfold gu
     rw[if_neg (by rw[←eF];exact hA)]
     exact eF
    by_cases h0:1≤F.length
    ·exact h0
    ·exfalso
     refine hA ((mw F c).mpr fun hm=>?_)
     have:0 < F.cps.toList.length:=List.length_pos_of_mem hm
     rw[Array.length_toList] at this
     exact h0 this
  ·rintro σ J2 ⟨rfl,F,v,rfl,eF,oF,hF,h1⟩
   rw[List.take_of_length_le (Nat.le_refl _)] at eF
   exact⟨_,rfl,k F _ (by rw[eF];exact aan) oF (h1 (by omega)) (by omega) (sJ.trans sG)⟩
def uw (K:W.Frag):Sp:=fun vs H Q _=>∃(c:Int) (l:Addr) (ls:List V) (cs:List bI),vs=[.int c,.ref l]∧H l=some (.lst ls)∧Es H ls cs∧(∀ c∈cs,nk c)∧cs.length≤20∧∀ L es t H',H L=none→H' L=some (.lst es)→pV H H' es t→TabOk t→cells t+total t≤18→aE H H'→Q (.ref L) H'
theorem CI:aG P w K mg base bu 3 (av 63) (aJ 63) ["_law_cell", "_law_tolds"] (uw K):=by
 have ia:aG P w K mg base bu 2 (av 55) (aJ 55) ["_law_cell", "_law_salt"] jn:=mZ T
 have Fb:aG P w K mg base bu 1 (av 62) (aJ 62) ["_law_tolds", "_law_table_here"] (uv K):=CH T
 refine T.wC.ok aZ (fun vs H Q E h=>?_) (fun cdv A outer s H vs Q E hr h=>?_)
 ·obtain⟨c,l,ls,cs,rfl,_⟩:=h;rfl
 ·have hu:=aX hr
  have gi:=hr.aN
  obtain⟨c,l,ls,cs,rfl,hl,tp,gs,hcl,k⟩:=h
  refine⟨_,(ai (dW 2 aZ.nd (dY ia hr T.oq T.jP.kp T.oj (af (pv 0) (af ao ah))))
   (ai (dW 3 aZ.nd (dY Fb hr T.ET T.wB.kp T.ES (af (pv 1) (af (bB (af (bB (af az ah)) ah)) ah))))
   (ai (dW 4 aZ.nd (Jl K (bB (af ao (af ao (af ao (af ao (af ao (af ao ah))))))) (aO dw (pv 2) ao)))
   (ai (dW 5 aZ.nd (aO gg ao (aO kF (aO dw (aO dZ (pv 2) ao) ao) (Yp LR T.QI (af (Cb Aj (pv 4) ao) ah)))))
   (ai (dW 2 aZ.nd (aO dZ (pv 2) ao))
   (ai (dW 6 aZ.nd (bB ah))
   (ai (fq PassesOwn.never rfl (oB rfl T.rX (af (pv 4) ah)) (jY 7 aZ.nd)
   (ai (dW 8 aZ.nd (bB ah))
   (ai (fq PassesOwn.never rfl (oB rfl T.rX (af (pv 5) ah)) (jY 9 aZ.nd)
   (ai (dW 10 aZ.nd (aO dw (pv 2) (Jl K (bB (af ao (af ao (af ao (af ao ah))))) (pv 4))))
   (ai (dW 2 aZ.nd (aO dZ (pv 2) ao))
   (ai (dW 11 aZ.nd az)
   (ai (fq PassesOwn.never rfl (oB rfl T.rX (af (pv 10) ah)) (jY 12 aZ.nd)
   (ai (dW 11 aZ.nd (aO bY (pv 11) (Lb Ol (pv 3) (aO dw (pv 2) (iS bH T.bQ (af (pv 3) ah))) (fun _ _=>rfl))))
   (ak (dW 2 aZ.nd (aO dZ (pv 2) (iS bH T.bQ (af (pv 3) ah)))))))
   (ak (cR (cO K rfl PySem.F.plainAttrs_list PySem.F.slot_list_append PySem.F.type_list_append cJ (pv 8) (af (pv 11) ah)))))))))
   (ak (cR (cO K rfl PySem.F.plainAttrs_list PySem.F.slot_list_append PySem.F.type_list_append cJ (pv 6) (af (pv 8) ah)))))))
   (ak (ay (pv 6)))))))))),?_⟩
  refine⟨_,rfl,_,_,rfl,by decide,by decide,fun n=>?_⟩
  dsimp only[bK]
  refine⟨_,rfl,(by decide),fun r1 hr1=>⟨(by show(1:Nat)≤sizeLine;decide),fun a1 ha1=>?_⟩⟩
  have f1:=aq (o:=HO.lst [.str ("a":Str)]) hr1
  have f2:=aq (o:=HO.lst [.ref r1]) ha1
  have w1:=f2 _ _ (aj (H:=H) (a:=r1) (o:=HO.lst [.str ("a":Str)]))
  have w2:=aj (H:=upd H r1 (HO.lst [.str ("a":Str)])) (a:=a1) (o:=HO.lst [.ref r1])
  have s1:=f1.trans f2
  generalize upd (upd H r1 (HO.lst [.str ("a":Str)])) a1 (HO.lst [.ref r1])=H1 at w1 w2 s1 ⊢
  have aok:bU ("a":Str):=by show ∀ c∈_,_;decide +kernel
  have al:("a":Str).length=1:=by decide +kernel
  have tok:TabOk [[Str.ofString "a"]]:=⟨by show 1≤60;omega,fun r hr=>by rw[List.mem_singleton.mp hr];exact⟨by show 1≤1;omega,by show 1≤20;omega,fun c hc=>by rw[List.mem_singleton.mp hc];exact aok⟩,by show("a":Str).length+0+0≤400;omega⟩
  refine⟨l,a1,ls,_,cs,[[Str.ofString "a"]],rfl,s1 _ _ hl,Es.mono s1 tp,gs,hcl,w2,.cons ⟨r1,rfl,w1⟩ .nil,tok,fun S H2 _ oS Vp hS2 s2=>?_⟩
  have s12:=s1.trans s2
  dsimp only[bK]
  refine⟨(by decide),fun l3 hl3=>?_⟩
  have s3:=aq (o:=HO.lst [.int 1,.int 1,.int 2,.int 1,.int 0,.int 3]) hl3
  have b0:=Int.emod_nonneg n (show(6:Int)≠0 by decide)
  have b1:=Int.emod_lt_of_pos n (show(0:Int) < 6 by decide)
  obtain⟨R,hR,R0,R3⟩:∃ R:Int,LX [V.int 1,.int 1,.int 2,.int 1,.int 0,.int 3] (n % 6)=some (.int R)∧0≤R∧R≤3:=by
   rcases(show n % 6=0∨n % 6=1∨n % 6=2∨n % 6=3∨n % 6=4∨n % 6=5 by omega) with q | q | q | q | q | q <;> rw[q] <;> exact⟨_,rfl,by decide,by decide⟩
  refine⟨_,rfl,_,_,rfl,rfl,(by show(0:Int) < 6;decide),l3,_,_,_,rfl,rfl,aU.of aj,hR,?_⟩
  generalize upd H2 l3 (HO.lst [.int 1,.int 1,.int 2,.int 1,.int 0,.int 3])=H3 at s3 ⊢
  dsimp only[bK]
  have s13:=s12.trans s3
  refine⟨_,rfl,_,_,rfl,rfl,⟨(by omega),(by omega)⟩,_,_,rfl,rfl,(by omega),_,rfl,_,_,rfl,rfl,.inr (⟨_,rfl,_,_,rfl,rfl,.inl ⟨(by omega),(by omega)⟩,_,_,rfl,rfl,_,rfl,_,_,rfl,rfl,⟨(by omega),(by omega)⟩,(by decide),fun L hL=>?_⟩)⟩
  have sL:=aq (o:=HO.lst []) hL
  have qL:=aj (H:=H3) (a:=L) (o:=HO.lst [])
  have hL0:H L=none:=s13.free hL
  generalize upd H3 L (HO.lst [])=H4 at sL qL ⊢
  have NV:=s13.trans sL
  dsimp only[bK]
  obtain⟨C,eC,C1,C2⟩:∃ C:Int,C=1+n / 6 % 2 * (if decide (R < 2)=true then 1 else 0)∧1≤C∧C≤2:=by
   refine⟨_,rfl,?_,?_⟩ <;> split <;> omega
  rw[←eC]
  obtain⟨m,em⟩:∃ m:Int,m=n / 12:=⟨_,rfl⟩
  rw[←em]
  clear eC em
  obtain⟨d,hd,hd2⟩:∃ d:Int,LX [V.int 3,.int 3,.int 3,.int 2] R=some (.int d)∧(d=3∨d=2):=by
   rcases(show R=0∨R=1∨R=2∨R=3 by omega) with rfl | rfl | rfl | rfl
   ·exact⟨_,rfl,.inl rfl⟩
   ·exact⟨_,rfl,.inl rfl⟩
   ·exact⟨_,rfl,.inl rfl⟩
   ·exact⟨_,rfl,.inr rfl⟩
  refine⟨_,rfl,R,rfl,by omega,by omega,?_⟩
  refine oE (fun i σ J=>aE H J∧∃(m:Int) (es:List V) (T:List (List Str)) (v1 v2 v3 v4 v5 v6:Option V),σ=[some (.int c),some (.ref l),some (.int m),some (.str S),some (.int R),some (.int C),some (.ref L),v1,v2,v3,v4,v5,v6]∧J L=some (.lst es)∧V.ref L∉es∧pV H J es T∧(∀ r∈T,AI r)∧cells T+total T≤6 * i∧T.length≤i) ⟨NV,m,[],[],none,none,none,none,none,none,rfl,qL,(fun z=>nomatch z),.nil,(fun _ z=>nomatch z),Nat.le_refl _,Nat.le_refl _⟩ ?_ ?_
  ·rintro i σ J hi ⟨sJ,m,es,T,v1,v2,v3,v4,v5,v6,rfl,hLJ,nL,Wn,okT,agj,hTl⟩
   have hel:=Wn.length
   refine⟨(by decide),fun Rw hRw=>?_⟩
   have sr:=aq (o:=HO.lst []) hRw
   have qR:=aj (H:=J) (a:=Rw) (o:=HO.lst [])
   have hR0:H Rw=none:=sJ.free hRw
   have nRL:Rw≠L:=fun q=>by rw[q,hLJ] at hRw;cases hRw
   have nRe:V.ref Rw∉es:=fun q=>by
    obtain⟨_,ys,hy⟩:=pV.has Wn q
    rw[hRw] at hy;cases hy
   have hL4:=sr _ _ hLJ
   have rw4:=pV.mono sr Wn
   have sJ4:=sJ.trans sr
   generalize upd J Rw (HO.lst [])=J4 at qR hL4 rw4 sJ4 ⊢
   dsimp only[bK]
   refine⟨_,rfl,C,rfl,by omega,by omega,?_⟩
   refine oE (fun j σ G=>aE H G∧∃(m:Int) (r:List Str) (v1 v3 v4 v5 v6:Option V),σ=[some (.int c),some (.ref l),some (.int m),some (.str S),some (.int R),some (.int C),some (.ref L),v1,some (.ref Rw),v3,v4,v5,v6]∧G L=some (.lst es)∧G Rw=some (.lst (r.map V.str))∧pV H G es T∧(∀ c∈r,bU c)∧r.length=j∧r.length+(lens r).sum≤3 * j) ⟨sJ4,m,[],_,v3,v4,v5,v6,rfl,hL4,qR,rw4,(fun _ z=>nomatch z),rfl,Nat.le_refl _⟩ ?_ ?_
   ·rintro j σ G hj ⟨sG,m,r,v1,v3,v4,v5,v6,rfl,hLG,hRG,rwG,okr,hrl,hrc⟩
    refine⟨_,rfl,(by decide),fun l5 hl5=>?_⟩
    have s5:=aq (o:=HO.lst [.int 3,.int 3,.int 3,.int 2]) hl5
    have q5:=aj (H:=G) (a:=l5) (o:=HO.lst [.int 3,.int 3,.int 3,.int 2])
    have sG5:=sG.trans s5
    have hL5:=s5 _ _ hLG;have hR5:=s5 _ _ hRG;have YF:=pV.mono s5 rwG
    generalize upd G l5 (HO.lst [.int 3,.int 3,.int 3,.int 2])=G5 at sG5 q5 hL5 hR5 YF ⊢
    refine⟨_,rfl,l5,_,_,_,rfl,rfl,aU.of q5,hd,_,_,rfl,rfl,(by omega),?_⟩
    dsimp only[bK]
    have c0:=Int.emod_nonneg m (show d≠0 by omega)
    have c1:=Int.emod_lt_of_pos m (show(0:Int) < d by omega)
    generalize m % d=z at c0 c1 ⊢
    refine⟨_,rfl,_,_,rfl,rfl,⟨by decide,by decide⟩,?_⟩
    refine⟨_,rfl,z,rfl,by omega,by omega,?_⟩
    refine oE (fun i2 σ G2=>G2=G5∧∃(m:Int) (F:Str) (v1 v3 v6:Option V),σ=[some (.int c),some (.ref l),some (.int m),some (.str S),some (.int R),some (.int C),some (.ref L),v1,some (.ref Rw),v3,some (.int z),some (.str F),v6]∧bU F∧F.length≤i2) ⟨rfl,_,_,_,_,v6,rfl,Jq,by rw[nX];exact Nat.le_refl _⟩ ?_ ?_
    ·rintro i2 σ G2 hi2 ⟨rfl,m,F,v1,v3,v6,rfl,oF,hF⟩
     have hml:S.length≤sizeLine:=Nat.le_trans hS2 (by decide)
     have hlen:S.cps.toList.length=S.length:=by rw[Array.length_toList];rfl
     obtain⟨dd,ed,hdd⟩:=Jm (xs:=S.cps.toList) (Int.emod_nonneg m (show(S.length:Int)≠0 by omega)) (by rw[hlen];exact Int.emod_lt_of_pos m (by omega))
     have e1:(F++(⟨#[dd]⟩:Str)).length=F.length+1:=cg _ _
     refine⟨_,rfl,_,rfl,_,rfl,_,rfl,_,rfl,(by omega),_,_,rfl,rfl,(by omega),_,_,_,rfl,rfl,(by omega),ed,_,_,rfl,rfl,?_,_,rfl,_,rfl,_,rfl,(by omega),_,_,rfl,rfl,⟨(by omega),(by omega)⟩,rfl,_,_,_,_,_,rfl,?_,?_⟩
     ·exact Nat.le_trans (show F.length+1≤100 by omega) (by decide)
     ·exact oU oF (fun b hb=>by rw[List.mem_singleton.mp (show b∈[dd] from hb)];exact oS dd hdd)
     ·rw[e1];omega
    ·rintro σ G2 ⟨rfl,m,F,v1,v3,v6,rfl,oF,hF⟩
     refine⟨_,rfl,.inl ⟨rfl,_,aU.of hR5⟩,_,rfl,Rw,_,_,rfl,rfl,hR5,?_,?_⟩
     ·rw[List.length_map];exact Nat.lt_of_le_of_lt (show r.length≤100 by omega) (by decide)
     refine⟨aI hR0 sG5,m,r++[F],_,_,_,_,_,rfl,(aC (Ne.symm nRL)).trans hL5,by rw[List.map_append];exact aj,pV.but nRe YF,fun c hc=>?_,by rw[List.length_append,hrl];rfl,?_⟩
     ·rcases List.mem_append.mp hc with q | q
      ·exact okr c q
      ·rw[List.mem_singleton.mp q];exact oF
     ·rw[Mt,List.length_append,List.length_singleton];omega
   ·rintro σ G ⟨sG,m,r,v1,v3,v4,v5,v6,rfl,hLG,hRG,rwG,okr,hrl,hrc⟩
    refine⟨_,rfl,.inl ⟨rfl,_,aU.of hLG⟩,_,rfl,L,_,_,rfl,rfl,hLG,?_,?_⟩
    ·exact Nat.lt_of_le_of_lt (show es.length≤100 by omega) (by decide)
    have nL2:V.ref L∉es++[.ref Rw]:=fun q=>by
     rcases List.mem_append.mp q with q | q
     ·exact nL q
     ·have:=List.mem_singleton.mp q;cases this;exact nRL rfl
    refine⟨aI hL0 sG,m,es++[.ref Rw],T++[r],_,_,_,_,_,_,rfl,aj,nL2,pV.but nL2 (pV.app rwG (.cons ⟨Rw,rfl,hR0,hRG⟩ .nil)),fun r' hr'=>?_,?_,?_⟩
    ·rcases List.mem_append.mp hr' with q | q
     ·exact okT r' q
     ·rw[List.mem_singleton.mp q];exact⟨by omega,by omega,okr⟩
    ·rw[Jt,Ju];omega
    ·rw[List.length_append,List.length_singleton];omega
  ·rintro σ J ⟨sJ,m,es,T,v1,v2,v3,v4,v5,v6,rfl,hLJ,nL,Wn,okT,agj,hTl⟩
   have hcg:=GO okT
   exact⟨_,rfl,k L es T J hL0 hLJ Wn ⟨by omega,okT,by omega⟩ (by omega) sJ⟩
def nK (P:Program) (w:World) (K:W.Frag) (C CT CM CP:Addr):Sp:=fun vs H Q _=>∃(y dy a o:Addr) (xs os:List V) (t:List (List Str)) (x:bI) (cs:List bI) (tt:Addr) (n:Nat) (r:Option cP) (cm:fK cP) (aW:List cP) (k:Nat),vs=[.ref y,.ref a,.ref o,.ref tt]∧H y=some (.ins C dy (Cd x))∧nk x∧H a=some (.lst xs)∧Paired (bP H) xs t∧TabOk t∧H o=some (.lst os)∧xm C H os cs∧(∀ c∈cs,nk c)∧cs.length≤20∧n≤1000∧Jx K x cs t n H tt r cm aW k∧∀ H',aE H H'→Q (.bl true) H'
theorem wR:aG P w K mg base bu 13 (av 64) (aJ 64) ["_law_one", "_law_table_here", "_law_beside", "_law_found"] (nK P w K (av 67) (av 68) (av 69) (av 70)):=by
 have MX:aG P w K mg base bu 12 (av 51) (aJ 51) ["dialect", "table", "others", "places"] (BI P w K (av 67) (av 68) (av 69) (av 70)):=JR T
 have MY:aG P w K mg base bu 10 (av 52) (aJ 52) ["dialect", "table", "others", "text"] (BJ K (av 67)):=JT T
 refine T.gH.ok vY (fun vs H Q E h=>?_) (fun cdv A outer s H vs Q E hr h=>?_)
 ·obtain⟨y,dy,a,o,xs,os,t,x,cs,tt,n,r,cm,aW,k,rfl,_⟩:=h;rfl
 ·have hu:=aX hr
  have gi:=hr.aN
  obtain⟨y,dy,a,o,xs,os,t,x,cs,tt,n,r,cm,aW,kk,rfl,hy,gx,ha,pr,tok,ho,mk,gs,hcl,hn,hT,k⟩:=h
  have Up:∀ c∈x :: cs,nk c:=fun c hc=>by
   rcases List.mem_cons.mp hc with q | q
   ·rw[q];exact gx
   ·exact gs c q
  obtain⟨H0,sv⟩:=hT.sv
  refine⟨_,(ai (aM (fJ bA (f9 K (pv 3) ao) az) (ak (ay (Cb O5 (dY MX hr T.MN T.DL.kp T.ML (af (pv 0) (af (pv 1) (af (pv 2) (af (f9 K (pv 3) ao) ah))))) dU))) aA)
   (ak (ay (K3 (Cb bA (f9 K (pv 3) ao) az) (nU (Cb O5 (dY MY hr T.MP T.DM.kp T.MO (af (pv 0) (af (pv 1) (af (pv 2) (af (f9 K (pv 3) ao) ah))))) dU)))))),?_⟩
  cases r with
  | some m =>
   obtain⟨DS,Bw,hw,hl,hk⟩:=sv
   have hg:cA (aB t) m=true:=List.find?_some hT.en.res.symm
   have ez:(Txt.join ("":Str) (DS.map sg)).length=DS.length:=by
    have:=congrArg List.length (mF DS)
    rw[Array.length_toList] at this
    exact this
   have hS:Ly x cs t (.str (Txt.join ("":Str) (DS.map sg)))=true:=by
    show(Mr (.str _) && AR x cs t _)=true
    rw[Qo Up tok hw (by omega),MA tok hw hg];rfl
   refine⟨_,rfl,_,_,_,_,rfl,rfl,aV.of Bw,rfl,rfl,_,rfl,oH (by decide +kernel) (⟨_,rfl,_,_,_,_,rfl,rfl,aV.of Bw,rfl,rfl,_,rfl,oH (by decide +kernel) (⟨_,rfl,_,rfl,_,rfl,_,rfl,_,_,_,_,rfl,rfl,aV.of Bw,rfl,_,_,_,_,_,_,_,_,_,_,rfl,hy,gx,ha,pr,ho,mk,gs,(by omega),?_,?_,fun H1=>?_⟩)⟩)⟩
   ·exact .str _
   ·intro z' e;cases e;omega
   ·intro s1
    rw[hS]
    exact⟨_,_,rfl,rfl,k _ s1⟩
  | none =>
   rcases sv with ⟨s1,Bw⟩ | ⟨s1,l,vs',Bw,xj,hl,em⟩
   ·refine⟨_,rfl,_,_,_,_,rfl,rfl,aV.of Bw,rfl,rfl,_,rfl,oH (by decide +kernel) (⟨_,rfl,_,_,_,_,rfl,rfl,aV.of Bw,rfl,rfl,_,rfl,Rc rfl (k _ (aE.refl _))⟩)⟩
   ·have he:aW=[]:=by
     rcases hT.en.why rfl with q | ⟨n',e,q⟩
     ·exact q
     ·cases e;omega
    subst he
    refine⟨_,rfl,_,_,_,_,rfl,rfl,aV.of Bw,rfl,rfl,_,rfl,Rc rfl (⟨_,rfl,_,rfl,_,rfl,_,rfl,_,_,_,_,rfl,rfl,aV.of Bw,rfl,_,_,_,_,_,_,_,_,_,_,_,_,rfl,hy,gx,ha,pr,tok,ho,mk,gs,(by omega),hl,em,?_,?_,?_,?_,?_,?_,fun H1=>?_⟩)⟩
    ·exact hT.en.nd
    ·rw[List.length_map];omega
    ·intro m hm
     obtain⟨DS,hw,_⟩:=o7 hT.en.dG (eX.mpr hm)
     exact Qh hw
    ·exact eX.mp (hT.en.dG.all [] _ .nil (Nat.zero_le _))
    ·exact fun m hm=>hT.en.dG.bad m (eX.mpr hm) (fun q=>nomatch q)
    ·exact fun m hm e he=>eX.mp (hT.en.dG.shut m (eX.mpr hm) (fun q=>nomatch q) e he)
    ·intro s2
     exact⟨_,_,rfl,rfl,k _ s2⟩
def ux (K:W.Frag):Sp:=fun vs H Q _=>∃(t1 t2:Addr),vs=[.ref t1,.ref t2]∧Z7 H t1 t2∧Q (.bl true) H
theorem CJ:aG P w K mg base bu 1 (av 65) (aJ 65) ["_law_found", "_law_other"] (ux K):=by
 refine T.qh.ok Cj (fun vs H Q E h=>?_) (fun cdv A outer s H vs Q E hr h=>?_)
 ·obtain⟨t1,t2,rfl,_⟩:=h;rfl
 ·have hu:=aX hr
  have gi:=hr.aN
  obtain⟨t1,t2,rfl,hA,k⟩:=h
  refine⟨_,(ai (aM (fJ yG (f9 K (pv 0) ao) (f9 K (pv 1) ao)) (ak (ay dU)) aA)
   (ak (ay (K3 (Cb bA (f9 K (pv 0) ao) az) (nU (Cb bA (iS (cY.or (aT K rfl) bH) T.bQ (af (f9 K (pv 0) ao) ah)) (iS (cY.or (aT K rfl) bH) T.bQ (af (f9 K (pv 1) ao) ah)))))))),?_⟩
  rcases hA with ⟨h1,h2⟩ | ⟨z1,z2,h1,h2,hz,hb⟩ | ⟨l1,l2,v1,v2,h1,h2,h3,h4,hl⟩
  ·refine⟨_,rfl,_,_,_,_,rfl,rfl,aV.of h1,rfl,_,rfl,_,_,_,_,rfl,rfl,aV.of h2,rfl,rfl,_,rfl,Yl rfl (⟨_,rfl,_,_,_,_,rfl,rfl,aV.of h1,rfl,rfl,_,rfl,Rc rfl (k)⟩)⟩
  ·have b1:z1.length≤sizeLine:=Nat.le_trans hb (by decide)
   have b2:z2.length≤sizeLine:=by rw[←hz];exact b1
   refine⟨_,rfl,_,_,_,_,rfl,rfl,aV.of h1,rfl,_,rfl,_,_,_,_,rfl,rfl,aV.of h2,rfl,rfl,_,rfl,Yl rfl (⟨_,rfl,_,_,_,_,rfl,rfl,aV.of h1,rfl,rfl,_,rfl,oH (by decide +kernel) (⟨_,rfl,_,_,_,_,rfl,rfl,aV.of h1,rfl,.inr (⟨_,rfl,(by omega),_,rfl,_,_,_,_,rfl,rfl,aV.of h2,rfl,.inr (⟨_,rfl,(by omega),rfl,?_⟩)⟩)⟩)⟩)⟩
   show Q (.bl (decide (V.int (z1.length:Int)=V.int (z2.length:Int)))) H
   rw[decide_eq_true (p:=V.int (z1.length:Int)=V.int (z2.length:Int)) (by rw[hz])]
   exact k
  ·refine⟨_,rfl,_,_,_,_,rfl,rfl,aV.of h1,rfl,_,rfl,_,_,_,_,rfl,rfl,aV.of h2,rfl,rfl,_,rfl,Yl rfl (⟨_,rfl,_,_,_,_,rfl,rfl,aV.of h1,rfl,rfl,_,rfl,oH (by decide +kernel) (⟨_,rfl,_,_,_,_,rfl,rfl,aV.of h1,rfl,.inl (⟨_,_,rfl,.inl (aU.of h3),_,rfl,_,_,_,_,rfl,rfl,aV.of h2,rfl,.inl (⟨_,_,rfl,.inl (aU.of h4),rfl,?_⟩)⟩)⟩)⟩)⟩
   show Q (.bl (decide (V.int (v1.length:Int)=V.int (v2.length:Int)))) H
   rw[decide_eq_true (p:=V.int (v1.length:Int)=V.int (v2.length:Int)) (by rw[hl])]
   exact k
def Fc (K:W.Frag):Sp:=fun vs H Q _=>∃(a:Addr) (ns:List Int),vs=[.ref a]∧aU K H a (ns.map V.int)∧ns.length≤63∧∀ H',Q (.bl true) H'
theorem Wo:aG P w K mg base bu 14 (av 66) (aJ 66) ["_law_script"] (Fc K):=by
 have wU:aG P w K mg base bu 1 (av 65) (aJ 65) ["_law_found", "_law_other"] (ux K):=CJ T
 have gC:aG P w K mg base bu 1 (av 53) (aJ 53) ["_law_script", "_law_k"] (kJ K):=qI T
 have jM:aG P w K mg base bu 13 (av 64) (aJ 64) ["_law_one", "_law_table_here", "_law_beside", "_law_found"] (nK P w K (av 67) (av 68) (av 69) (av 70)):=wR T
 have HJ:aG P w K mg base bu 5 (av 59) (aJ 59) ["_law_told_here"] (wO (av 67)):=E8 T
 have CK:aG P w K mg base bu 4 (av 61) (aJ 61) ["_law_script", "_law_told_here", "_law_first", "_law_many"] (sE K):=BK T
 have Fd:aG P w K mg base bu 3 (av 63) (aJ 63) ["_law_cell", "_law_tolds"] (uw K):=CI T
 have sF:aG P w K mg base bu 3 (av 58) (aJ 58) ["_law_cell"] qo:=wN T
 have BL:aG P w K mg base bu 12 (av 42) (aJ 42) ["dialect", "table", "others", "most"] (LK P w K (av 67) (av 68) (av 69) (av 70)):=S4 T
 refine T.Z8.ok mK (fun vs H Q E h=>?_) (fun cdv A outer s H vs Q E hr h=>?_)
 ·obtain⟨a,ns,rfl,_⟩:=h;rfl
 ·have hu:=aX hr
  have gi:=hr.aN
  obtain⟨a,ns,rfl,hS,hlen,k⟩:=h
  have ou:=hr.units
  refine⟨_,(ai (dW 1 mK.nd (dY sF hr T.yS T.rW.kp T.yR (af (dY gC hr T.jd T.gv.kp T.jc (af (pv 0) (af ao ah))) ah)))
   (ai (dW 2 mK.nd (aO Ot (bB (af (pv 1) ah)) (dY CK hr T.Ct T.ug.kp T.Cs (af (pv 0) (af (pv 1) (af ao (af ao ah)))))))
   (ai (dW 3 mK.nd (dY Fd hr T.EV T.wC.kp T.EU (af (dY gC hr T.jd T.gv.kp T.jc (af (pv 0) (af ao ah))) (af (pv 2) ah))))
   (ai (dW 4 mK.nd (aO gg ao (aO dw (dY gC hr T.jd T.gv.kp T.jc (af (pv 0) (af ao ah))) ao)))
   (ai (qP (cS rfl (show bg ["_law_script", "_law_told_here", "_law_tolds", "_law_table_here", "_law_most", "_law_one", "_law_two", "_law_three", "_law_first", "_law_both", "_law_itself"] (au vF) ["_law_some_here"] 1 [] _ from Di) (bZ K rfl (pv 2)) (fun _ _ _ _=>(jY 0 NS)) (fun _ _ _ _=>cK) (fun _ _ _ _=>(dY HJ hr T.Hv T.yT.kp T.Hu (af (pv 0) ah)))) (R6 K rfl 3 rfl (bX (jY 5 mK.nd) (bX (jY 6 mK.nd) (bX (jY 7 mK.nd) kX)))))
   (ai (dW 8 mK.nd (dY BL hr T.Bp T.yc.kp T.Bo (af (pv 5) (af (pv 3) (af (bB (af (pv 6) ah)) (af (pv 4) ah))))))
   (ai (dW 9 mK.nd (dY BL hr T.Bp T.yc.kp T.Bo (af (pv 5) (af (pv 3) (af (bB (af (pv 6) (af (pv 7) ah))) (af (pv 4) ah))))))
   (ai (aM (PW.pt (gP (bF (br (dY jM hr T.jJ T.gH.kp T.jI (af (pv 5) (af (pv 3) (af (bB (af (pv 6) ah)) (af (pv 8) ah))))))) (fm (bF (br (dY jM hr T.jJ T.gH.kp T.jI (af (pv 5) (af (pv 3) (af (bB (af (pv 6) (af (pv 7) ah))) (af (pv 9) ah)))))))))) (ak (ay dU)) aA)
   (ai (aM (PW.pt (kE (fJ bA (f9 K (pv 8) ao) az) (iN (fJ bA (f9 K (pv 9) ao) az)))) (ak (ay dU)) aA)
   (ai (aM (PW.pt (kE (fJ bA (f9 K (pv 8) ao) az) (kE (fJ bA (f9 K (pv 9) ao) az) (iN (fJ Aj (iS bH T.bQ (af (f9 K (pv 9) ao) ah)) (iS bH T.bQ (af (f9 K (pv 8) ao) ah))))))) (ak (ay dU)) aA)
   (ai (aM (bF (br (dY wU hr T.wF T.qh.kp T.wD (af (pv 9) (af (dY BL hr T.Bp T.yc.kp T.Bo (af (pv 5) (af (pv 3) (af (bB (af (pv 7) (af (pv 6) ah))) (af (pv 4) ah))))) ah))))) (ak (ay dU)) aA)
   (ai (dW 10 mK.nd (dY BL hr T.Bp T.yc.kp T.Bo (af (pv 5) (af (pv 3) (af (bB (af (pv 5) ah)) (af (pv 4) ah))))))
   (ai (aM (PW.pt (gP (fJ bA (f9 K (pv 10) ao) az) (fm (bF (br (dY jM hr T.jJ T.gH.kp T.jI (af (pv 5) (af (pv 3) (af (bB (af (pv 5) ah)) (af (pv 10) ah)))))))))) (ak (ay dU)) aA)
   (ak (ay (dY wU hr T.wF T.qh.kp T.wD (af (pv 8) (af (dY BL hr T.Bp T.yc.kp T.Bo (af (pv 5) (af (pv 3) (af (bB (af (pv 6) (af (pv 6) ah))) (af (pv 4) ah))))) ah)))))))))))))))))),?_⟩
  refine bR fun R hR=>?_
  refine⟨_,rfl,a,_,_,rfl,hS,by decide,fun c0=>⟨c0,rfl,fun t p q f b1 b2 b3 b4 H1 g ht h1 s1=>?_⟩⟩
  obtain⟨x,ex⟩:∃ x:bI,x=(p,q,f,⟨b1,b2,b3,b4⟩):=⟨_,rfl⟩
  have g:nk x:=by rw[ex];exact g
  have h1:H1 t=some (.tup (uJ x)):=by rw[ex];exact h1
  clear ex
  dsimp only[bK]
  have Vp:=s1.seq hS
  refine hR _ _ _ (bR fun R hR=>?_)
  refine⟨_,rfl,(by show(1:Nat)≤sizeLine;decide),fun l0 xj=>?_⟩
  (have s2:=aq (o:=HO.lst [V.ref t]) xj;have q2:=aj (H:=H1) (a:=l0) (o:=HO.lst [V.ref t]);generalize upd H1 l0 (HO.lst [V.ref t])=H2 at s2 q2 ⊢)
  have hS2:=s2.seq Vp
  have QO:=s2 _ _ h1
  refine⟨_,rfl,_,rfl,_,_,_,_,_,_,rfl,(aE.refl _).seq hS2,(by omega),QO,g,(by omega),(by omega),(by omega),(by omega),fun l1 DS Uu H3 hl1 h3 Yz gs3 ajD s3=>⟨_,_,_,_,rfl,rfl,(s3 _ _ q2),h3,?_,?_⟩⟩
  ·exact Nat.le_trans (show 1+DS.length≤100 by have:=Yz.length;omega) (by decide)
  intro L hL
  have s4:=aq (o:=HO.lst ([V.ref t]++DS)) hL
  have q4:=aj (H:=H3) (a:=L) (o:=HO.lst ([V.ref t]++DS))
  generalize upd H3 L (HO.lst ([V.ref t]++DS))=H4 at s4 q4 ⊢
  have NV:=s2.trans (s3.trans s4)
  have tp4:Es H4 (.ref t :: DS) (x :: Uu):=.cons ⟨t,rfl,NV _ _ h1⟩ (Es.mono s4 Yz)
  have gs4:∀ c∈x :: Uu,nk c:=fun c hc=>by
   rcases List.mem_cons.mp hc with q | q
   ·rw[q];exact g
   ·exact gs3 c q
  have agk:(x :: Uu).length≤20:=by rw[List.length_cons];omega
  have hc3:Uu.length≤3:=by omega
  have hS4:=NV.seq Vp
  clear Yz h3 q2 s2 s3 s4 hS2 QO
  dsimp only[bK]
  refine hR _ _ _ (bR fun R hR=>?_)
  refine⟨_,rfl,a,_,_,rfl,hS4,by decide,fun c1=>⟨_,rfl,c1,L,_,x :: Uu,rfl,q4,tp4,gs4,agk,fun lt es T H5 ajE hlt Wn Fe agl s5=>?_⟩⟩
  dsimp only[bK]
  have pr5:=Sv Wn
  have q5:=s5 _ _ q4
  have tp5:=Es.mono s5 tp4
  have hS5:=s5.seq hS4
  have h24:=Z5 Fe agl
  clear q4 tp4 hS4
  refine hR _ _ _ (bR fun R hR=>?_)
  refine⟨_,rfl,a,_,_,rfl,hS5,by decide,fun c2=>?_⟩
  have m0':=Int.emod_nonneg c2 (show(301:Int)≠0 by decide)
  have m1':=Int.emod_lt_of_pos c2 (show(0:Int) < 301 by decide)
  obtain⟨n,en,n1,n4⟩:∃ n:Nat,(n:Int)=100+c2 % 301∧1≤n∧n≤400:=⟨(100+c2 % 301).toNat,Int.toNat_of_nonneg (by omega),by omega,by omega⟩
  refine⟨_,_,rfl,rfl,(by show(0:Int) < 301;decide),_,_,rfl,rfl,?_⟩
  dsimp only[bK]
  rw[←en]
  clear en
  refine hR _ _ _ (bR fun R hR=>?_)
  obtain⟨c2,c3,rfl⟩:∃ c2 c3,Uu=[c2,c3]:=by
   match Uu,(show Uu.length=2 by omega) with
   | [u,v],_=>exact⟨u,v,rfl⟩
  have tl5:=tp5.length
  refine⟨_,rfl,L,rfl,⟨_,aU.of q5⟩,fun M hM=>?_⟩
  refine cL (K:=K) (a:=L) (xs:=.ref t :: DS) (fun i ys τ J=>(∃ v,τ=[v])∧aE H5 J∧J M=some (.lst ys)∧xm (av 67) J ys ((x :: [c2,c3]).take i)) ⟨⟨_,rfl⟩,aq hM,aj,.nil⟩ (fun i ys τ J _ p=>⟨aU.of (p.2.1 _ _ q5),p.2.2.1⟩) ?_ ?_
  ·rintro i e ys τ J hi ⟨⟨v,rfl⟩,sJ,hJ,mkJ⟩
   obtain⟨y,hy,ty,rfl,hty⟩:=aQ tp5 i e hi
   have hil:i < (x :: [c2,c3]).length:=(List.getElem?_eq_some_iff.mp hy).1
   have hyl:=mkJ.length
   rw[List.length_take] at hyl
   refine qZ ?_
   refine⟨_,rfl,ty,y.1,y.2.1,y.2.2.1,y.2.2.2.a,y.2.2.2.b,y.2.2.2.c,y.2.2.2.d,rfl,sJ _ _ hty,gs4 y (List.mem_of_getElem? hy),fun m dm J3 hm0 hm s3=>?_⟩
   have Wf:=s3 _ _ hJ
   refine⟨Wf,Nat.lt_of_le_of_lt (show ys.length≤100 by omega) (by decide),⟨_,rfl⟩,aI hM (sJ.trans s3),aj,?_⟩
   rw[aS hy]
   exact cj (xm.but Wf (xm.mono s3 mkJ)) (xm.but Wf (.cons ⟨m,dm,rfl,hm⟩ .nil))
  rintro ms τ H7 ⟨⟨v,rfl⟩,s7,hM7,Uv⟩
  rw[tl5,List.take_of_length_le (Nat.le_refl _)] at Uv
  cases Uv with
  | @cons _ _ ms _ h0 Uv =>
  obtain⟨y1,d1,rfl,hy1⟩:=h0
  cases Uv with
  | @cons _ _ ms _ h0 Uv =>
  obtain⟨y2,d2,rfl,S7⟩:=h0
  cases Uv with
  | @cons _ _ ms _ h0 Uv =>
  obtain⟨y3,d3,rfl,Yy⟩:=h0
  cases Uv
  have gx:nk x:=gs4 x (List.mem_cons_self ..)
  have g2:nk c2:=gs4 c2 (List.mem_cons_of_mem _ (List.mem_cons_self ..))
  have g3:nk c3:=gs4 c3 (List.mem_cons_of_mem _ (List.mem_cons_of_mem _ (List.mem_cons_self ..)))
  have HK:=s7 _ _ hlt
  have Uw:=aH (fun a b h=>bP.mono s7 h) pr5
  refine⟨M,_,rfl,aU.of hM7,rfl,_,_,rfl,_,_,rfl,_,_,rfl,rfl,?_⟩
  dsimp only[bK]
  refine hR _ _ _ (bR fun R hR=>?_)
  have s77:=aE.refl H7
  refine⟨_,rfl,_,rfl,_,rfl,(by show(1:Nat)≤sizeLine;decide),fun B1 hB1=>?_⟩
  have sB1:=aq (o:=HO.lst [V.ref y2]) hB1
  have qB1:=aj (H:=H7) (a:=B1) (o:=HO.lst [V.ref y2])
  refine⟨_,rfl,y1,d1,lt,B1,es,[V.ref y2],T,x,[c2],n,rfl,(s77.trans sB1) _ _ hy1,gx,(s77.trans sB1) _ _ HK,aH (fun a b h=>bP.mono (s77.trans sB1) h) Uw,Fe,qB1,(.cons ⟨_,d2,rfl,(s77.trans sB1) _ _ S7⟩ .nil),(fun c hc=>by simp only[List.mem_cons,List.not_mem_nil,or_false] at hc;rw[hc];assumption),by show 1≤20;omega,h24,by show 1≤3;omega,n1,by omega,fun F1 Wq aao agm agn G1 aap ajs Wr aaq aar=>?_⟩
  have MZ:=(s77.trans sB1).trans aap
  have aas:Jx K x [c2] T n G1 F1 Wq aao agm agn:=⟨Wr,aaq,_,aar⟩
  dsimp only[bK]
  refine hR _ _ _ (bR fun R hR=>?_)
  refine⟨_,rfl,_,rfl,_,rfl,_,rfl,(by show(2:Nat)≤sizeLine;decide),fun B2 hB2=>?_⟩
  have Ws:=aq (o:=HO.lst [V.ref y2,V.ref y3]) hB2
  have qB2:=aj (H:=G1) (a:=B2) (o:=HO.lst [V.ref y2,V.ref y3])
  refine⟨_,rfl,y1,d1,lt,B2,es,[V.ref y2,V.ref y3],T,x,[c2,c3],n,rfl,(MZ.trans Ws) _ _ hy1,gx,(MZ.trans Ws) _ _ HK,aH (fun a b h=>bP.mono (MZ.trans Ws) h) Uw,Fe,qB2,(.cons ⟨_,d2,rfl,(MZ.trans Ws) _ _ S7⟩ (.cons ⟨_,d3,rfl,(MZ.trans Ws) _ _ Yy⟩ .nil)),(fun c hc=>by simp only[List.mem_cons,List.not_mem_nil,or_false] at hc;rcases hc with rfl | rfl <;> assumption),by show 2≤20;omega,h24,by show 2≤3;omega,n1,by omega,fun F2 Wt aat ago agp G2 Ux ajt Wu aau aav=>?_⟩
  have QU:=(MZ.trans Ws).trans Ux
  have aaw:Jx K x [c2,c3] T n G2 F2 Wt aat ago agp:=⟨Wu,aau,_,aav⟩
  dsimp only[bK]
  refine hR _ _ _ (bR fun R hR=>?_)
  have Wv:=aas.mono (Ws.trans Ux)
  refine⟨_,rfl,_,rfl,_,rfl,(by show(1:Nat)≤sizeLine;decide),fun B3 hB3=>?_⟩
  have Uy:=aq (o:=HO.lst [V.ref y2]) hB3
  have qB3:=aj (H:=G2) (a:=B3) (o:=HO.lst [V.ref y2])
  refine⟨_,rfl,y1,d1,lt,B3,es,[V.ref y2],T,x,[c2],F1,n,_,_,_,_,rfl,(QU.trans Uy) _ _ hy1,gx,(QU.trans Uy) _ _ HK,aH (fun a b h=>bP.mono (QU.trans Uy) h) Uw,Fe,qB3,(.cons ⟨_,d2,rfl,(QU.trans Uy) _ _ S7⟩ .nil),(fun c hc=>by simp only[List.mem_cons,List.not_mem_nil,or_false] at hc;rw[hc];assumption),by show 1≤20;omega,by omega,Wv.mono Uy,fun G3 QV=>?_⟩
  have M0:=(QU.trans Uy).trans QV
  refine⟨_,rfl,dF ?_⟩
  have Ww:=aaw.mono (Uy.trans QV)
  have aax:=Wv.mono (Uy.trans QV)
  refine⟨_,rfl,_,rfl,_,rfl,_,rfl,(by show(2:Nat)≤sizeLine;decide),fun B4 hB4=>?_⟩
  have S8:=aq (o:=HO.lst [V.ref y2,V.ref y3]) hB4
  have qB4:=aj (H:=G3) (a:=B4) (o:=HO.lst [V.ref y2,V.ref y3])
  refine⟨_,rfl,y1,d1,lt,B4,es,[V.ref y2,V.ref y3],T,x,[c2,c3],F2,n,_,_,_,_,rfl,(M0.trans S8) _ _ hy1,gx,(M0.trans S8) _ _ HK,aH (fun a b h=>bP.mono (M0.trans S8) h) Uw,Fe,qB4,(.cons ⟨_,d2,rfl,(M0.trans S8) _ _ S7⟩ (.cons ⟨_,d3,rfl,(M0.trans S8) _ _ Yy⟩ .nil)),(fun c hc=>by simp only[List.mem_cons,List.not_mem_nil,or_false] at hc;rcases hc with rfl | rfl <;> assumption),by show 2≤20;omega,by omega,Ww.mono S8,fun G4 QW=>?_⟩
  have M1:=(M0.trans S8).trans QW
  refine⟨_,rfl,dF ?_⟩
  have S9:=Ww.mono (S8.trans QW)
  have Tc:=aax.mono (S8.trans QW)
  clear Wv aax Ww aas aaw
  dsimp only[vn]
  obtain⟨H01,QX⟩:=id Tc.sv
  obtain⟨H02,QY⟩:=id S9.sv
  have ez:∀ xs:List Nat,(Txt.join ("":Str) (xs.map sg)).length=xs.length:=fun xs=>by
   have:=congrArg List.length (mF xs)
   rw[Array.length_toList] at this
   exact this
  refine hR _ _ _ (bR fun R hR=>?_)
  refine jD (t:=FF _ _ _) (fun σ' H'=>H'=G4∧σ'=[some (.ref a),some (.ref t),some (.ref L),some (.ref lt),some (.int n),some (.ref y1),some (.ref y2),some (.ref y3),some (.ref F1),some (.ref F2),none]) ?_ (fun go=>?_)
  rotate_left
  ·cases Wq with
   | some m1 =>
    obtain⟨DS,e1,w1,l1,b1⟩:=QX
    refine⟨_,rfl,F1,_,_,_,rfl,rfl,aV.of e1,rfl,rfl,_,rfl,oH (by decide +kernel) (go _ _ ⟨rfl,rfl⟩)⟩
   | none =>
    rcases QX with ⟨b1,e1⟩ | ⟨b1,l1,vs1,e1,_⟩
    ·refine⟨_,rfl,F1,_,_,_,rfl,rfl,aV.of e1,rfl,rfl,_,rfl,oH (by decide +kernel) (go _ _ ⟨rfl,rfl⟩)⟩
    ·refine⟨_,rfl,F1,_,_,_,rfl,rfl,aV.of e1,rfl,rfl,_,rfl,Rc rfl ?_⟩
     cases Wt with
     | some m2 =>
      obtain⟨xs2,e2,w2,l2,b2⟩:=QY
      obtain⟨m',w',g'⟩:=yM w2 S9.good
      have:=Tc.shut b1 w'
      rw[g'] at this;cases this
     | none =>
      rcases QY with ⟨b2,e2⟩ | ⟨b2,l2,vs2,e2,_⟩
      ·refine⟨_,rfl,F2,_,_,_,rfl,rfl,aV.of e2,rfl,rfl,_,rfl,oH (by decide +kernel) (go _ _ ⟨rfl,rfl⟩)⟩
      ·refine⟨_,rfl,F2,_,_,_,rfl,rfl,aV.of e2,rfl,rfl,_,rfl,oH (by decide +kernel) (go _ _ ⟨rfl,rfl⟩)⟩
  rintro σ' G' ⟨rfl,rfl⟩
  refine hR _ _ _ (bR fun R hR=>?_)
  refine jD (t:=FF _ _ _) (fun σ' H'=>H'=G'∧σ'=[some (.ref a),some (.ref t),some (.ref L),some (.ref lt),some (.int n),some (.ref y1),some (.ref y2),some (.ref y3),some (.ref F1),some (.ref F2),none]) ?_ (fun go=>?_)
  rotate_left
  ·cases Wq with
   | some m1 =>
    obtain⟨DS,e1,w1,l1,b1⟩:=QX
    refine⟨_,rfl,F1,_,_,_,rfl,rfl,aV.of e1,rfl,rfl,_,rfl,Rc rfl ?_⟩
    cases Wt with
    | some m2 =>
     obtain⟨xs2,e2,w2,l2,b2⟩:=QY
     have z1:=ez DS
     have z2:=ez xs2
     have zb1:(Txt.join ("":Str) (DS.map sg)).length≤sizeLine:=Nat.le_trans (show _≤1000 by omega) (by decide)
     have zb2:(Txt.join ("":Str) (xs2.map sg)).length≤sizeLine:=Nat.le_trans (show _≤1000 by omega) (by decide)
     refine⟨_,rfl,F2,_,_,_,rfl,rfl,aV.of e2,rfl,rfl,_,rfl,Rc rfl ?_⟩
     refine⟨_,rfl,F2,_,_,_,rfl,rfl,aV.of e2,rfl,_,rfl,zb2,_,rfl,F1,_,_,_,rfl,rfl,aV.of e1,rfl,_,rfl,zb1,_,_,rfl,rfl,_,rfl,?_⟩
     refine rj (decide_eq_false fun (q:((Txt.join ("":Str) (xs2.map sg)).length:Int) < ((Txt.join ("":Str) (DS.map sg)).length:Int))=>?_) (go _ _ ⟨rfl,rfl⟩)
     obtain⟨m',w',g'⟩:=yM w2 S9.good
     have:=Tc.en.dG.less _ _ w' (by omega)
     rw[g'] at this;cases this
    | none =>
     rcases QY with ⟨b2,e2⟩ | ⟨b2,l2,vs2,e2,_⟩
     ·refine⟨_,rfl,F2,_,_,_,rfl,rfl,aV.of e2,rfl,rfl,_,rfl,oH (by decide +kernel) (go _ _ ⟨rfl,rfl⟩)⟩
     ·refine⟨_,rfl,F2,_,_,_,rfl,rfl,aV.of e2,rfl,rfl,_,rfl,oH (by decide +kernel) (go _ _ ⟨rfl,rfl⟩)⟩
   | none =>
    rcases QX with ⟨b1,e1⟩ | ⟨b1,l1,vs1,e1,_⟩
    ·refine⟨_,rfl,F1,_,_,_,rfl,rfl,aV.of e1,rfl,rfl,_,rfl,oH (by decide +kernel) (go _ _ ⟨rfl,rfl⟩)⟩
    ·refine⟨_,rfl,F1,_,_,_,rfl,rfl,aV.of e1,rfl,rfl,_,rfl,oH (by decide +kernel) (go _ _ ⟨rfl,rfl⟩)⟩
  rintro σ' G' ⟨rfl,rfl⟩
  clear QX QY
  refine hR _ _ _ (bR fun R hR=>?_)
  refine⟨_,rfl,_,rfl,_,rfl,_,rfl,_,rfl,(by show(2:Nat)≤sizeLine;decide),fun B5 hB5=>?_⟩
  have Uz:=aq (o:=HO.lst [V.ref y3,V.ref y2]) hB5
  have qB5:=aj (H:=G') (a:=B5) (o:=HO.lst [V.ref y3,V.ref y2])
  refine⟨_,rfl,y1,d1,lt,B5,es,[V.ref y3,V.ref y2],T,x,[c3,c2],n,rfl,(M1.trans Uz) _ _ hy1,gx,(M1.trans Uz) _ _ HK,aH (fun a b h=>bP.mono (M1.trans Uz) h) Uw,Fe,qB5,(.cons ⟨_,d3,rfl,(M1.trans Uz) _ _ Yy⟩ (.cons ⟨_,d2,rfl,(M1.trans Uz) _ _ S7⟩ .nil)),(fun c hc=>by simp only[List.mem_cons,List.not_mem_nil,or_false] at hc;rcases hc with rfl | rfl <;> assumption),by show 2≤20;omega,h24,by show 2≤3;omega,n1,by omega,fun F3 agq aay agr ags G5 QZ aju Wx aaz aaA=>?_⟩
  have Q0:=(M1.trans Uz).trans QZ
  have agt:Jx K x [c3,c2] T n G5 F3 agq aay agr ags:=⟨Wx,aaz,_,aaA⟩
  refine⟨F2,F3,rfl,Qs (by omega) Qq (S9.mono (Uz.trans QZ)) agt,_,rfl,dF ?_⟩
  dsimp only[vn]
  refine hR _ _ _ (bR fun R hR=>?_)
  refine⟨_,rfl,_,rfl,_,rfl,(by show(1:Nat)≤sizeLine;decide),fun B6 hB6=>?_⟩
  have YH:=aq (o:=HO.lst [V.ref y1]) hB6
  have qB6:=aj (H:=G5) (a:=B6) (o:=HO.lst [V.ref y1])
  refine⟨_,rfl,y1,d1,lt,B6,es,[V.ref y1],T,x,[x],n,rfl,(Q0.trans YH) _ _ hy1,gx,(Q0.trans YH) _ _ HK,aH (fun a b h=>bP.mono (Q0.trans YH) h) Uw,Fe,qB6,(.cons ⟨_,d1,rfl,(Q0.trans YH) _ _ hy1⟩ .nil),(fun c hc=>by simp only[List.mem_cons,List.not_mem_nil,or_false] at hc;rw[hc];assumption),by show 1≤20;omega,h24,by show 1≤3;omega,n1,by omega,fun F4 aaB aaC agu agv G6 UA ajv Wy aaD Q2=>?_⟩
  have Q3:=(Q0.trans YH).trans UA
  have aaE:Jx K x [x] T n G6 F4 aaB aaC agu agv:=⟨Wy,aaD,_,Q2⟩
  dsimp only[bK]
  refine hR _ _ _ (bR fun R hR=>?_)
  cases aaB with
  | some m4 =>
   obtain⟨xs4,e4,w4,l4,b4⟩:=Q2
   have:=G9 w4
   rw[aaE.good] at this;cases this
  | none =>
  have e4:∃ wd rest,G6 F4=some (.tup (.str wd :: rest))∧bz wd ("text":Str)=false:=by
   rcases Q2 with ⟨b4,e4⟩ | ⟨b4,l4,vs4,e4,_⟩
   ·exact⟨_,_,e4,by decide +kernel⟩
   ·exact⟨_,_,e4,by decide +kernel⟩
  obtain⟨wd,rest,e4,hwd⟩:=e4
  have agw:LX (V.str wd :: rest) ((0:Nat):Int)=some (.str wd):=Ab rfl
  refine⟨_,rfl,F4,_,_,_,rfl,rfl,aV.of e4,agw,rfl,_,rfl,rj hwd ?_⟩
  refine⟨_,rfl,_,rfl,_,rfl,(by show(1:Nat)≤sizeLine;decide),fun B7 hB7=>?_⟩
  have Wz:=aq (o:=HO.lst [V.ref y1]) hB7
  have qB7:=aj (H:=G6) (a:=B7) (o:=HO.lst [V.ref y1])
  refine⟨_,rfl,y1,d1,lt,B7,es,[V.ref y1],T,x,[x],F4,n,_,_,_,_,rfl,(Q3.trans Wz) _ _ hy1,gx,(Q3.trans Wz) _ _ HK,aH (fun a b h=>bP.mono (Q3.trans Wz) h) Uw,Fe,qB7,(.cons ⟨_,d1,rfl,(Q3.trans Wz) _ _ hy1⟩ .nil),(fun c hc=>by simp only[List.mem_cons,List.not_mem_nil,or_false] at hc;rw[hc];assumption),by show 1≤20;omega,by omega,aaE.mono Wz,fun G7 UB=>?_⟩
  have M3:=(Q3.trans Wz).trans UB
  refine⟨_,rfl,dF ?_⟩
  dsimp only[vn]
  refine hR _ _ _ ?_
  have agx:=Tc.mono ((Uz.trans QZ).trans ((YH.trans UA).trans (Wz.trans UB)))
  refine⟨_,rfl,_,rfl,_,rfl,_,rfl,_,rfl,(by show(2:Nat)≤sizeLine;decide),fun B8 hB8=>?_⟩
  have WA:=aq (o:=HO.lst [V.ref y2,V.ref y2]) hB8
  have qB8:=aj (H:=G7) (a:=B8) (o:=HO.lst [V.ref y2,V.ref y2])
  refine⟨_,rfl,y1,d1,lt,B8,es,[V.ref y2,V.ref y2],T,x,[c2,c2],n,rfl,(M3.trans WA) _ _ hy1,gx,(M3.trans WA) _ _ HK,aH (fun a b h=>bP.mono (M3.trans WA) h) Uw,Fe,qB8,(.cons ⟨_,d2,rfl,(M3.trans WA) _ _ S7⟩ (.cons ⟨_,d2,rfl,(M3.trans WA) _ _ S7⟩ .nil)),(fun c hc=>by simp only[List.mem_cons,List.not_mem_nil,or_false] at hc;rcases hc with rfl | rfl <;> assumption),by show 2≤20;omega,h24,by show 2≤3;omega,n1,by omega,fun F5 agy aaF agz agA G8 UC ajw WB aaG aaH=>?_⟩
  have ajF:=(M3.trans WA).trans UC
  have agB:Jx K x [c2,c2] T n G8 F5 agy aaF agz agA:=⟨WB,aaG,_,aaH⟩
  exact⟨F1,F5,rfl,Qs (by omega) ME (agx.mono (WA.trans UC)) agB,k _⟩
end
end
theorem all_mk {l:W.OpenLaw}{w:World}{K:W.Frag}{h:Heap}{mg:Str→Option Value}{fa jo fF dg gD lD fW dO iw gb sR wV jq qp jR nM Ff dP fG dQ dh qq sS nN sU iy jr eg iz jS jT iA lE kD ff cI cC jU gE fh wW sV jV Fg lF Fi wX qs lG sW nO qt sY sZ jt lH jW nP lI nQ nR nS jX lJ lK gJ lM Q4 bJ kK fj dR bD ju wY wZ tD tE w6 xg fY tF Fj JU Q5:Addr}{od0 an0 od1 an1 od2 an2 od3 an3 od4 an4 od5 an5 od6 an6 od7 an7 od8 an8 od9 an9 agC aaI agD aaJ agE aaK agF aaL agG aaM agH aaN agI aaO agJ aaP agK aaQ agL aaR agM aaS agN aaT agO aaU agP aaV agQ aaW agR aaX agS aaY agT aaZ agU aa0 agV aa1 agW aa2 agX aa3 agY aa4 agZ aa5 ag0 aa6 ag1 aa7 ag2 aa8 ag3 aa9 ag4 abb ag5 WC ag6 abd ag7 abe ag8 abf ag9 abg aha abh ahb abi ahc abj ahd abk ahe abl ahf abm ahg abn ahh abo ahi abp ahj abq ahk abr ahl abt ahm abu ahn abv aho abw ahp abx ahq aby ahr abz ahs abA aht abB ahu abC ahv abD ahw WD:Option Addr}{sl0 sl1 sl2 sl3 sl4 sl5 sl6 sl7 sl8 sl9 ahx ahy ahz ahA ahB ahC ahD ahE ahF ahG ahH ahI ahJ ahK ahL ahM ahN ahO ahP ahQ ahR ahS ahT ahU ahV ahW ahX ahY ahZ ah0 ah1 ah2 ah3 ah4 ah5 ah6 ah7 ah8 ah9 aia aib aic aid aie aif aih aii aij aik ail aim ain aio aip aiq air ais:Array (Option Value)}{oc0 kV0 dc0 pm0 cd0 ct0 oc1 kV1 dc1 pm1 cd1 ct1 oc2 kV2 dc2 pm2 cd2 ct2 oc3 kV3 dc3 pm3 cd3 ct3 oc4 kV4 dc4 pm4 cd4 ct4 oc5 kV5 dc5 pm5 cd5 ct5 oc6 kV6 dc6 pm6 cd6 ct6 oc7 kV7 dc7 pm7 cd7 ct7 oc8 kV8 dc8 pm8 cd8 ct8 oc9 kV9 dc9 pm9 cd9 ct9 ait abE abF abG WE abH aiu abI abJ abK WG abL aiv abM abN abO WH abP aiw abQ abR abS WI abT aix abU abV abW WJ abX aiy abY abZ ab0 WK ab1 aiz ab2 ab3 ab4 WL ab5 aiA ab6 ab7 ab8 WM ab9 aiB acd ace acf WN acg aiC ach aci acj WO ack aiD acm acn aco WQ acp aiE acq acr acs WR acu aiF acv acw acy WS acz aiG acA acB acC WT acD aiH acE acF acG WU acH aiI acI acJ acK WV acL aiJ acM acN acO WW acP aiK acQ acR acS WX acT aiL acU acV acW WY acX aiM acY acZ ac0 WZ ac1 aiN ac2 ac3 ac4 W0 ac5 aiO ac6 ac7 ac8 W2 ac9 aiP ada adb ade W3 adf aiQ adg adh adi W4 adj aiR adk adl adn W5 ado aiS adp adq ads W6 adt aiT adu adv adw W7 adx aiU ady adz adA W8 adB aiV adC adD adE W9 adF aiW Xa Xb Xc Td Xd aiX adG adH adI Xe adJ aiY adK adL adM Xf adN aiZ adO adP adQ Xg adR ai0 adS adT adU Xh adV ai1 adW adX adY Xi adZ ai2 ad0 ad1 ad2 Xj ad3 ai3 ad4 ad5 ad6 Xk ad7 ai4 ad8 ad9 aea Xl aeb ai5 aec aed aee Xm aef ai6 aeg aeh aei Xn aej ai7 aek ael aem Xo aen ai8 aeo aep aeq Xp aer ai9 aes aeu aev Xq aew aja aex aey aez Xr aeA ajb aeB aeC aeD Xs aeE ajc aeF aeG aeH Xu aeI ajd aeJ aeK aeL Xv aeM aje aeN aeO aeP Xw aeQ ajf aeR aeS aeT Xx aeU ajg aeV aeW aeX Xy aeY ajh aeZ ae0 ae1 Xz ae2 aji ae3 ae4 ae5 XA ae6 ajj ae7 ae8 ae9 XC afa ajk afb afc afd XD afe ajl afg afh afi XE afj ajm afk afl afm XF afn ajn XG XH XI Te XJ:Value}{JV:Str}{cu lS:Addr} (X:K.In h) (G:h.Ns mainGlobals mg) (hfa:mg "law" = some (.ref fa))
  (JW:W.nsIn K mainGlobals "Dialect" = some (some (.ref bJ)))
  (Tf:W.nsIn K mainGlobals "Turn" = some (some (.ref kK)))
  (M4:W.nsIn K mainGlobals "Marker" = some (some (.ref fj)))
  (M5:W.nsIn K mainGlobals "Places" = some (some (.ref dR)))
  (kL:W.nsIn K mainGlobals "DialectError" = some (some (.ref bD)))
  (yl:W.nsIn K mainGlobals "NoText" = some (some (.ref wY)))
  (u5:W.nsIn K mainGlobals "NoTable" = some (some (.ref tD)))
  (ym:W.nsIn K mainGlobals "NoMost" = some (some (.ref w6)))
  (u6:W.nsIn K mainGlobals "TooMany" = some (some (.ref fY)))
  (a0:W.nsIn K mainGlobals "is_printable" = RF jo)
  (l0:K.lookup jo=FO "is_printable" "is_printable" eG .none oc0 od0 kV0 dc0 pm0 an0 cd0 ct0 sl0) (c0:W.codeIn K cd0 "is_printable" = true) (k0:W.keepIn K (.ref jo)=true)
  (a1:W.nsIn K mainGlobals "are_unlike_signs" = RF fF)
  (l1:K.lookup fF=FO "are_unlike_signs" "are_unlike_signs" cD .none oc1 od1 kV1 dc1 pm1 an1 cd1 ct1 sl1) (c1:W.codeIn K cd1 "are_unlike_signs" = true) (k1:W.keepIn K (.ref fF)=true)
  (a2:W.findIn K (.ref bJ) "__init__" = some (some (.ref dg))) (i2:W.isFn K (.ref dg)=true)
  (l2:K.lookup dg=FO "__init__" "Dialect.__init__" bC (.ref cu) oc2 od2 kV2 dc2 pm2 an2 cd2 ct2 sl2) (c2:W.codeIn K cd2 "Dialect.__init__" = true) (k2:W.keepIn K (.ref dg)=true)
  {afo:Option Addr}{ajo:Nat}{afp:Array (Option Value)}{afq afr:Tok} (d2:K.lookup cu=some ⟨.type "tuple",afo,.seq #[.str ("":Str) afq,.str ("":Str) afr,.bool false,.bool false,.bool false,.bool false] ajo,afp⟩)
  (a3:W.findIn K (.ref bJ) "told" = some (some (.ref gD))) (i3:W.isFn K (.ref gD)=true)
  (l3:K.lookup gD=FO "told" "Dialect.told" gj .none oc3 od3 kV3 dc3 pm3 an3 cd3 ct3 sl3) (c3:W.codeIn K cd3 "Dialect.told" = true) (k3:W.keepIn K (.ref gD)=true)
  (a4:W.nsIn K mainGlobals "dialect_of" = RF lD)
  (l4:K.lookup lD=FO "dialect_of" "dialect_of" iT .none oc4 od4 kV4 dc4 pm4 an4 cd4 ct4 sl4) (c4:W.codeIn K cd4 "dialect_of" = true) (k4:W.keepIn K (.ref lD)=true)
  (a5:W.findIn K (.ref kK) "__init__" = some (some (.ref fW))) (i5:W.isFn K (.ref fW)=true)
  (l5:K.lookup fW=FO "__init__" "Turn.__init__" fL .none oc5 od5 kV5 dc5 pm5 an5 cd5 ct5 sl5) (c5:W.codeIn K cd5 "Turn.__init__" = true) (k5:W.keepIn K (.ref fW)=true)
  (a6:W.findIn K (.ref fj) "__init__" = some (some (.ref dO))) (i6:W.isFn K (.ref dO)=true)
  (l6:K.lookup dO=FO "__init__" "Marker.__init__" dI .none oc6 od6 kV6 dc6 pm6 an6 cd6 ct6 sl6) (c6:W.codeIn K cd6 "Marker.__init__" = true) (k6:W.keepIn K (.ref dO)=true)
  (a7:W.nsIn K mainGlobals "tokens_of_row" = RF iw)
  (l7:K.lookup iw=FO "tokens_of_row" "tokens_of_row" dB .none oc7 od7 kV7 dc7 pm7 an7 cd7 ct7 sl7) (c7:W.codeIn K cd7 "tokens_of_row" = true) (k7:W.keepIn K (.ref iw)=true)
  (a8:W.nsIn K mainGlobals "has_signs_alone" = RF gb)
  (l8:K.lookup gb=FO "has_signs_alone" "has_signs_alone" cM .none oc8 od8 kV8 dc8 pm8 an8 cd8 ct8 sl8) (c8:W.codeIn K cd8 "has_signs_alone" = true) (k8:W.keepIn K (.ref gb)=true)
  (a9:W.nsIn K mainGlobals "is_cell" = RF sR)
  (l9:K.lookup sR=FO "is_cell" "is_cell" oK .none oc9 od9 kV9 dc9 pm9 an9 cd9 ct9 sl9) (c9:W.codeIn K cd9 "is_cell" = true) (k9:W.keepIn K (.ref sR)=true)
  (a10:W.nsIn K mainGlobals "is_row" = RF wV)
  (l10:K.lookup wV=FO "is_row" "is_row" oM .none ait agC abE abF abG aaI WE abH ahx) (c10:W.codeIn K WE "is_row" = true) (k10:W.keepIn K (.ref wV)=true)
  (a11:W.nsIn K mainGlobals "signs_in_row" = RF jq)
  (l11:K.lookup jq=FO "signs_in_row" "signs_in_row" eH .none aiu agD abI abJ abK aaJ WG abL ahy) (VV:W.codeIn K WG "signs_in_row" = true) (k11:W.keepIn K (.ref jq)=true)
  (a12:W.nsIn K mainGlobals "is_table" = RF qp)
  (l12:K.lookup qp=FO "is_table" "is_table" iB .none aiv agE abM abN abO aaK WH abP ahz) (c12:W.codeIn K WH "is_table" = true) (k12:W.keepIn K (.ref qp)=true)
  (a13:W.nsIn K mainGlobals "check_table" = RF jR)
  (l13:K.lookup jR=FO "check_table" "check_table" gS .none aiw agF abQ abR abS aaL WI abT ahA) (c13:W.codeIn K WI "check_table" = true) (k13:W.keepIn K (.ref jR)=true)
  (SS:W.nsIn K mainGlobals "tokens_of" = RF nM)
  (l14:K.lookup nM=FO "tokens_of" "tokens_of" jZ .none aix agG abU abV abW aaM WJ abX ahB) (c14:W.codeIn K WJ "tokens_of" = true) (k14:W.keepIn K (.ref nM)=true)
  (a15:W.nsIn K mainGlobals "once" = RF Ff)
  (l15:K.lookup Ff=FO "once" "once" AB .none aiy agH abY abZ ab0 aaN WK ab1 ahC) (c15:W.codeIn K WK "once" = true) (k15:W.keepIn K (.ref Ff)=true)
  (a16:W.findIn K (.ref bJ) "special" = some (some (.ref dP))) (i16:W.isFn K (.ref dP)=true)
  (l16:K.lookup dP=FO "special" "Dialect.special" dJ .none aiz agI ab2 ab3 ab4 aaO WL ab5 ahD) (c16:W.codeIn K WL "Dialect.special" = true) (k16:W.keepIn K (.ref dP)=true)
  (a17:W.nsIn K mainGlobals "signs_that_count" = RF fG)
  (l17:K.lookup fG=FO "signs_that_count" "signs_that_count" bO .none aiA agJ ab6 ab7 ab8 aaP WM ab9 ahE) (c17:W.codeIn K WM "signs_that_count" = true) (k17:W.keepIn K (.ref fG)=true)
  (a18:W.findIn K (.ref dR) "__init__" = some (some (.ref dQ))) (i18:W.isFn K (.ref dQ)=true)
  (l18:K.lookup dQ=FO "__init__" "Places.__init__" cN .none aiB agK acd ace acf aaQ WN acg ahF) (SV:W.codeIn K WN "Places.__init__" = true) (k18:W.keepIn K (.ref dQ)=true)
  (l19:K.lookup dh=FO "__init__" "TooMany.__init__" fz .none aiC agL ach aci acj aaR WO ack ahG) (c19:W.codeIn K WO "TooMany.__init__" = true) (k19:W.keepIn K (.ref dh)=true)
  (a20:W.nsIn K mainGlobals "is_whole" = RF qq)
  (l20:K.lookup qq=FO "is_whole" "is_whole" mh .none aiD agM acm acn aco aaS WQ acp ahH) (c20:W.codeIn K WQ "is_whole" = true) (k20:W.keepIn K (.ref qq)=true)
  (SX:W.nsIn K mainGlobals "is_text" = RF sS)
  (l21:K.lookup sS=FO "is_text" "is_text" oN .none aiE agN acq acr acs aaT WR acu ahI) (c21:W.codeIn K WR "is_text" = true) (k21:W.keepIn K (.ref sS)=true)
  (a22:W.nsIn K mainGlobals "states_of" = RF nN)
  (l22:K.lookup nN=FO "states_of" "states_of" j0 .none aiF agO acv acw acy aaU WS acz ahJ) (c22:W.codeIn K WS "states_of" = true) (k22:W.keepIn K (.ref nN)=true)
  (a23:W.nsIn K mainGlobals "is_live" = RF sU)
  (l23:K.lookup sU=FO "is_live" "is_live" oO .none aiG agP acA acB acC aaV WT acD ahK) (c23:W.codeIn K WT "is_live" = true) (k23:W.keepIn K (.ref sU)=true)
  (Wd:W.nsIn K mainGlobals "is_live_state" = RF iy)
  (l24:K.lookup iy=FO "is_live_state" "is_live_state" fM .none aiH agQ acE acF acG aaW WU acH ahL) (c24:W.codeIn K WU "is_live_state" = true) (k24:W.keepIn K (.ref iy)=true)
  (a25:W.nsIn K mainGlobals "count_behind" = RF jr)
  (l25:K.lookup jr=FO "count_behind" "count_behind" gk .none aiI agR acI acJ acK aaX WV acL ahM) (c25:W.codeIn K WV "count_behind" = true) (k25:W.keepIn K (.ref jr)=true)
  (a26:W.nsIn K mainGlobals "step_at_beginning" = RF eg)
  (l26:K.lookup eg=FO "step_at_beginning" "step_at_beginning" cQ .none aiJ agS acM acN acO aaY WW acP ahN) (c26:W.codeIn K WW "step_at_beginning" = true) (k26:W.keepIn K (.ref eg)=true)
  (a27:W.nsIn K mainGlobals "step_in_plain" = RF iz)
  (l27:K.lookup iz=FO "step_in_plain" "step_in_plain" fN .none aiK agT acQ acR acS aaZ WX acT ahO) (c27:W.codeIn K WX "step_in_plain" = true) (k27:W.keepIn K (.ref iz)=true)
  (a28:W.nsIn K mainGlobals "step_within" = RF jS)
  (l28:K.lookup jS=FO "step_within" "step_within" gT .none aiL agU acU acV acW aa0 WY acX ahP) (c28:W.codeIn K WY "step_within" = true) (k28:W.keepIn K (.ref jS)=true)
  (a29:W.nsIn K mainGlobals "step_behind" = RF jT)
  (l29:K.lookup jT=FO "step_behind" "step_behind" gU .none aiM agV acY acZ ac0 aa1 WZ ac1 ahQ) (c29:W.codeIn K WZ "step_behind" = true) (k29:W.keepIn K (.ref jT)=true)
  (a30:W.nsIn K mainGlobals "step_in_doubt" = RF iA)
  (l30:K.lookup iA=FO "step_in_doubt" "step_in_doubt" fO .none aiN agW ac2 ac3 ac4 aa2 W0 ac5 ahR) (c30:W.codeIn K W0 "step_in_doubt" = true) (k30:W.keepIn K (.ref iA)=true)
  (a31:W.nsIn K mainGlobals "step_freed" = RF lE)
  (l31:K.lookup lE=FO "step_freed" "step_freed" iU .none aiO agX ac6 ac7 ac8 aa3 W2 ac9 ahS) (c31:W.codeIn K W2 "step_freed" = true) (k31:W.keepIn K (.ref lE)=true)
  (a32:W.findIn K (.ref kK) "step" = some (some (.ref kD))) (i32:W.isFn K (.ref kD)=true)
  (l32:K.lookup kD=FO "step" "Turn.step" j7 .none aiP agY ada adb ade aa4 W3 adf ahT) (c32:W.codeIn K W3 "Turn.step" = true) (k32:W.keepIn K (.ref kD)=true)
  (a33:W.findIn K (.ref kK) "live_step" = some (some (.ref ff))) (i33:W.isFn K (.ref ff)=true)
  (l33:K.lookup ff=FO "live_step" "Turn.live_step" eN .none aiQ agZ adg adh adi aa5 W4 adj ahU) (c33:W.codeIn K W4 "Turn.live_step" = true) (k33:W.keepIn K (.ref ff)=true)
  (a34:W.findIn K (.ref fj) "mark_behind" = some (some (.ref cI))) (i34:W.isFn K (.ref cI)=true)
  (l34:K.lookup cI=FO "mark_behind" "Marker.mark_behind" cF .none aiR ag0 adk adl adn aa6 W5 ado ahV) (c34:W.codeIn K W5 "Marker.mark_behind" = true) (k34:W.keepIn K (.ref cI)=true)
  (a35:W.findIn K (.ref fj) "has_read_all" = some (some (.ref cC))) (i35:W.isFn K (.ref cC)=true)
  (l35:K.lookup cC=FO "has_read_all" "Marker.has_read_all" cz .none aiS ag1 adp adq ads aa7 W6 adt ahW) (c35:W.codeIn K W6 "Marker.has_read_all" = true) (k35:W.keepIn K (.ref cC)=true)
  (a36:W.nsIn K mainGlobals "first_place" = RF jU)
  (l36:K.lookup jU=FO "first_place" "first_place" fX .none aiT ag2 adu adv adw aa8 W7 adx ahX) (c36:W.codeIn K W7 "first_place" = true) (k36:W.keepIn K (.ref jU)=true)
  (a37:W.findIn K (.ref dR) "leads" = some (some (.ref gE))) (i37:W.isFn K (.ref gE)=true)
  (l37:K.lookup gE=FO "leads" "Places.leads" eO .none aiU ag3 ady adz adA aa9 W8 adB ahY) (c37:W.codeIn K W8 "Places.leads" = true) (k37:W.keepIn K (.ref gE)=true)
  (a38:W.findIn K (.ref dR) "is_good" = some (some (.ref fh))) (i38:W.isFn K (.ref fh)=true)
  (l38:K.lookup fh=FO "is_good" "Places.is_good" cW .none aiV ag4 adC adD adE abb W9 adF ahZ) (c38:W.codeIn K W9 "Places.is_good" = true) (k38:W.keepIn K (.ref fh)=true)
  (a39:W.nsIn K mainGlobals "search" = RF wW)
  (l39:K.lookup wW=FO "search" "search" j8 (.ref lS) aiW ag5 Xa Xb Xc WC Td Xd ah0) (c39:W.codeIn K Td "search" = true) (k39:W.keepIn K (.ref wW)=true)
  {XM:Option Addr}{afs:Nat}{XO:Array (Option Value)} (d39:K.lookup lS=some ⟨.type "tuple",XM,.seq #[.none] afs,XO⟩)
  (a40:W.nsIn K mainGlobals "text_to" = RF sV)
  (l40:K.lookup sV=FO "text_to" "text_to" oQ .none aiX ag6 adG adH adI abd Xe adJ ah1) (c40:W.codeIn K Xe "text_to" = true) (k40:W.keepIn K (.ref sV)=true)
  (a41:W.nsIn K mainGlobals "check_asked" = RF jV)
  (l41:K.lookup jV=FO "check_asked" "check_asked" gW .none aiY ag7 adK adL adM abe Xf adN ah2) (c41:W.codeIn K Xf "check_asked" = true) (k41:W.keepIn K (.ref jV)=true)
  (a42:W.nsIn K mainGlobals "sole" = RF Fg)
  (l42:K.lookup Fg=FO "sole" "sole" AD .none aiZ ag8 adO adP adQ abf Xg adR ah3) (c42:W.codeIn K Xg "sole" = true) (k42:W.keepIn K (.ref Fg)=true)
  (a43:W.nsIn K mainGlobals "check_text" = RF lF)
  (l43:K.lookup lF=FO "check_text" "check_text" iV .none ai0 ag9 adS adT adU abg Xh adV ah4) (c43:W.codeIn K Xh "check_text" = true) (k43:W.keepIn K (.ref lF)=true)
  (a44:W.nsIn K mainGlobals "walk" = RF Fi)
  (l44:K.lookup Fi=FO "walk" "walk" AE .none ai1 aha adW adX adY abh Xi adZ ah5) (c44:W.codeIn K Xi "walk" = true) (k44:W.keepIn K (.ref Fi)=true)
  (a45:W.nsIn K mainGlobals "end_of" = RF wX)
  (l45:K.lookup wX=FO "end_of" "end_of" qY .none ai2 ahb ad0 ad1 ad2 abi Xj ad3 ah6) (c45:W.codeIn K Xj "end_of" = true) (k45:W.keepIn K (.ref wX)=true)
  (a46:W.nsIn K mainGlobals "table_of" = RF qs)
  (l46:K.lookup qs=FO "table_of" "table_of" mj .none ai3 ahc ad4 ad5 ad6 abj Xk ad7 ah7) (c46:W.codeIn K Xk "table_of" = true) (k46:W.keepIn K (.ref qs)=true)
  (a47:W.nsIn K mainGlobals "reading_of" = RF lG)
  (l47:K.lookup lG=FO "reading_of" "reading_of" iW .none ai4 ahd ad8 ad9 aea abk Xl aeb ah8) (c47:W.codeIn K Xl "reading_of" = true) (k47:W.keepIn K (.ref lG)=true)
  (a48:W.nsIn K mainGlobals "is_mark" = RF sW)
  (l48:K.lookup sW=FO "is_mark" "is_mark" oR .none ai5 ahe aec aed aee abl Xm aef ah9) (c48:W.codeIn K Xm "is_mark" = true) (k48:W.keepIn K (.ref sW)=true)
  (a49:W.nsIn K mainGlobals "are_marks" = RF nO)
  (l49:K.lookup nO=FO "are_marks" "are_marks" iL .none ai6 ahf aeg aeh aei abm Xn aej aia) (c49:W.codeIn K Xn "are_marks" = true) (k49:W.keepIn K (.ref nO)=true)
  (a50:W.nsIn K mainGlobals "is_place" = RF qt)
  (l50:K.lookup qt=FO "is_place" "is_place" mq .none ai7 ahg aek ael aem abn Xo aen aib) (c50:W.codeIn K Xo "is_place" = true) (k50:W.keepIn K (.ref qt)=true)
  (a51:W.nsIn K mainGlobals "is_none" = RF sY)
  (l51:K.lookup sY=FO "is_none" "is_none" jC .none ai8 ahh aeo aep aeq abo Xp aer aic) (c51:W.codeIn K Xp "is_none" = true) (k51:W.keepIn K (.ref sY)=true)
  (a52:W.nsIn K mainGlobals "is_sole" = RF sZ)
  (l52:K.lookup sZ=FO "is_sole" "is_sole" lO .none ai9 ahi aes aeu aev abp Xq aew aid) (c52:W.codeIn K Xq "is_sole" = true) (k52:W.keepIn K (.ref sZ)=true)
  (a53:W.nsIn K mainGlobals "_law_cell_at" = RF jt)
  (l53:K.lookup jt=FO "_law_cell_at" "_law_cell_at" gn .none aja ahj aex aey aez abq Xr aeA aie) (c53:W.codeIn K Xr "_law_cell_at" = true) (k53:W.keepIn K (.ref jt)=true)
  (a54:W.nsIn K mainGlobals "_law_mixed" = RF lH)
  (l54:K.lookup lH=FO "_law_mixed" "_law_mixed" iX .none ajb ahk aeB aeC aeD abr Xs aeE aif) (c54:W.codeIn K Xs "_law_mixed" = true) (k54:W.keepIn K (.ref lH)=true)
  (a55:W.nsIn K mainGlobals "_law_number" = RF jW)
  (l55:K.lookup jW=FO "_law_number" "_law_number" gX .none ajc ahl aeF aeG aeH abt Xu aeI aih) (c55:W.codeIn K Xu "_law_number" = true) (k55:W.keepIn K (.ref jW)=true)
  (a56:W.nsIn K mainGlobals "_law_some" = RF nP)
  (l56:K.lookup nP=FO "_law_some" "_law_some" j9 .none ajd ahm aeJ aeK aeL abu Xv aeM aii) (c56:W.codeIn K Xv "_law_some" = true) (k56:W.keepIn K (.ref nP)=true)
  (a57:W.nsIn K mainGlobals "_law_menus" = RF lI)
  (l57:K.lookup lI=FO "_law_menus" "_law_menus" iY .none aje ahn aeN aeO aeP abv Xw aeQ aij) (c57:W.codeIn K Xw "_law_menus" = true) (k57:W.keepIn K (.ref lI)=true)
  (a58:W.nsIn K mainGlobals "_law_told" = RF nQ)
  (l58:K.lookup nQ=FO "_law_told" "_law_told" kc .none ajf aho aeR aeS aeT abw Xx aeU aik) (c58:W.codeIn K Xx "_law_told" = true) (k58:W.keepIn K (.ref nQ)=true)
  (a59:W.nsIn K mainGlobals "_law_made" = RF nR)
  (l59:K.lookup nR=FO "_law_made" "_law_made" kg .none ajg ahp aeV aeW aeX abx Xy aeY ail) (c59:W.codeIn K Xy "_law_made" = true) (k59:W.keepIn K (.ref nR)=true)
  (a60:W.nsIn K mainGlobals "_law_near" = RF nS)
  (l60:K.lookup nS=FO "_law_near" "_law_near" kh .none ajh ahq aeZ ae0 ae1 aby Xz ae2 aim) (c60:W.codeIn K Xz "_law_near" = true) (k60:W.keepIn K (.ref nS)=true)
  (a61:W.nsIn K mainGlobals "_law_others" = RF jX)
  (l61:K.lookup jX=FO "_law_others" "_law_others" gY .none aji ahr ae3 ae4 ae5 abz XA ae6 ain) (c61:W.codeIn K XA "_law_others" = true) (k61:W.keepIn K (.ref jX)=true)
  (a62:W.nsIn K mainGlobals "_law_signs" = RF lJ)
  (l62:K.lookup lJ=FO "_law_signs" "_law_signs" fB .none ajj ahs ae7 ae8 ae9 abA XC afa aio) (c62:W.codeIn K XC "_law_signs" = true) (k62:W.keepIn K (.ref lJ)=true)
  (a63:W.nsIn K mainGlobals "_law_table" = RF lK)
  (l63:K.lookup lK=FO "_law_table" "_law_table" iZ .none ajk aht afb afc afd abB XD afe aip) (c63:W.codeIn K XD "_law_table" = true) (k63:W.keepIn K (.ref lK)=true)
  (a64:W.nsIn K mainGlobals "_law_looked_at" = RF gJ)
  (l64:K.lookup gJ=FO "_law_looked_at" "_law_looked_at" eV .none ajl ahu afg afh afi abC XE afj aiq) (c64:W.codeIn K XE "_law_looked_at" = true) (k64:W.keepIn K (.ref gJ)=true)
  (a65:W.nsIn K mainGlobals "_law_alike" = RF lM)
  (l65:K.lookup lM=FO "_law_alike" "_law_alike" i0 .none ajm ahv afk afl afm abD XF afn air) (c65:W.codeIn K XF "_law_alike" = true) (k65:W.keepIn K (.ref lM)=true)
  (a66:W.nsIn K mainGlobals "law" = RF Q4)
  (l66:K.lookup Q4=FO "law" "law" vF .none ajn ahw XG XH XI WD Te XJ ais) (c66:W.codeIn K Te "law" = true) (k66:W.keepIn K (.ref Q4)=true)
  (JX:W.plainGet K bJ Str.empty=true) (JY:W.hasDictIn K bJ=true) (JZ:W.plainOver K bJ=true) (J5:W.findIn K (.ref bJ) "__setattr__" = some (some (.builtin "object.__setattr__"))) (J6:W.makesIn K bJ=true) (J7:W.keepIn K (.ref bJ)=true)
  (cy:W.findIn K (.ref bJ) "parts" = some none)
  (bS:W.findIn K (.ref bJ) "quotes" = some none)
  (bN:W.findIn K (.ref bJ) "frees" = some none)
  (gw:W.findIn K (.ref bJ) "twin" = some none)
  (eY:W.findIn K (.ref bJ) "wide" = some none)
  (eZ:W.findIn K (.ref bJ) "thin" = some none)
  (fS:W.findIn K (.ref bJ) "stray" = some none)
  (Tg:W.plainGet K kK Str.empty=true) (Th:W.hasDictIn K kK=true) (Ti:W.plainOver K kK=true) (Tj:W.findIn K (.ref kK) "__setattr__" = some (some (.builtin "object.__setattr__"))) (To:W.makesIn K kK=true) (Tp:W.keepIn K (.ref kK)=true)
  (bL:W.findIn K (.ref kK) "dialect" = some none)
  (M6:W.plainGet K fj Str.empty=true) (M7:W.hasDictIn K fj=true) (M8:W.plainOver K fj=true) (M9:W.findIn K (.ref fj) "__setattr__" = some (some (.builtin "object.__setattr__"))) (Na:W.makesIn K fj=true) (Nb:W.keepIn K (.ref fj)=true)
  (jQ:W.findIn K (.ref fj) "turn" = some none)
  (fT:W.findIn K (.ref fj) "tokens" = some none)
  (Nc:W.plainGet K dR Str.empty=true) (Nf:W.hasDictIn K dR=true) (Ng:W.plainOver K dR=true) (Nh:W.findIn K (.ref dR) "__setattr__" = some (some (.builtin "object.__setattr__"))) (Ni:W.makesIn K dR=true) (Nj:W.keepIn K (.ref dR)=true)
  (fV:W.findIn K (.ref dR) "marker" = some none)
  (e9:W.findIn K (.ref dR) "markers" = some none)
  (je:W.findIn K (.ref dR) "signs" = some none)
  {zK zL:Str}{zM yo:List Value}{yp zN:Bool}{zO:List Str}{yq:Option Bool}{zP yr:Option Addr}{zQ zR zS zT zU:Option Value}{yu:Value}{pH:Array DictEntry}{zV:Nat}{yw:Array (Option Value)}
  (kM:K.lookup bD=some (excClassObj zK zL bD ju zM B9 yp zO yo zN yq zP zQ zR zS zT zU "ValueError.__new__"))
  (kN:K.lookup ju=some ⟨yu,yr,.dict pH zV,yw⟩) (xh:(pH.toList.all fun e=>match e.key with | .str _ _=>true | _=>false)=true) (kO:W.nsIn K ju "__init__" = some none)
  (zW:W.specialIn K (.ref bD) "__getattribute__" = some (some (.builtin "type.__getattribute__"))) (zX:W.readsIn K bD (.type "type")=true) (zY:W.findCls K (.ref bD) (.type "type") "__init__" = some (.val (.builtin "ValueError.__init__")))
  {Nk Nl:Str}{Nm J8:List Value}{J9 Np:Bool}{Nq:List Str}{Ka:Option Bool}{Nr Kc:Option Addr}{Nt Nu Nv Nx Ny:Option Value}{Kd:Value}{BN:Array DictEntry}{Nz:Nat}{Ke:Array (Option Value)}
  (yx:K.lookup wY=some (excClassObj Nk Nl wY wZ Nm (.ref bD :: B9) J9 Nq J8 Np Ka Nr Nt Nu Nv Nx Ny "ValueError.__new__"))
  (yy:K.lookup wZ=some ⟨Kd,Kc,.dict BN Nz,Ke⟩) (HL:(BN.toList.all fun e=>match e.key with | .str _ _=>true | _=>false)=true) (yz:W.nsIn K wZ "__init__" = some none)
  {Kf Kg:Str}{Kh HM:List Value}{HN Kl:Bool}{Km:List Str}{HP:Option Bool}{Kn HQ:Option Addr}{Ko Kp Kq Kr Ks:Option Value}{HR:Value}{za:Array DictEntry}{Ku:Nat}{HS:Array (Option Value)}
  (u7:K.lookup tD=some (excClassObj Kf Kg tD tE Kh (.ref bD :: B9) HN Km HM Kl HP Kn Ko Kp Kq Kr Ks "ValueError.__new__"))
  (u9:K.lookup tE=some ⟨HR,HQ,.dict za Ku,HS⟩) (Fl:(za.toList.all fun e=>match e.key with | .str _ _=>true | _=>false)=true) (vd:W.nsIn K tE "__init__" = some none)
  {NB NC:Str}{ND Kv:List Value}{Kw NF:Bool}{NG:List Str}{Ky:Option Bool}{NH Kz:Option Addr}{NI NJ NK NL NN:Option Value}{KA:Value}{BO:Array DictEntry}{NO:Nat}{KC:Array (Option Value)}
  (yC:K.lookup w6=some (excClassObj NB NC w6 xg ND (.ref bD :: B9) Kw NG Kv NF Ky NH NI NJ NK NL NN "ValueError.__new__"))
  (yD:K.lookup xg=some ⟨KA,Kz,.dict BO NO,KC⟩) (HU:(BO.toList.all fun e=>match e.key with | .str _ _=>true | _=>false)=true) (yE:W.nsIn K xg "__init__" = some none)
  {KD KG:Str}{KH HV:List Value}{HW KI:Bool}{KJ:List Str}{HX:Option Bool}{KL HY:Option Addr}{KN KO KP KQ KR:Option Value}{HZ:Value}{zb:Array DictEntry}{KS:Nat}{Ia:Array (Option Value)}
  (ve:K.lookup fY=some (excClassObj KD KG fY tF KH (.ref bD :: B9) HW KJ HV KI HX KL KN KO KP KQ KR "ValueError.__new__"))
  (vf:K.lookup tF=some ⟨HZ,HY,.dict zb KS,Ia⟩) (Fo:(zb.toList.all fun e=>match e.key with | .str _ _=>true | _=>false)=true) (vg:W.nsIn K tF "__init__" = some (some (.ref dh)))
  {Ib:Option Addr}{Ic:Data}{Ie:Array (Option Value)} (KU:W.keepIn K (.ref fY)=true) (KW:K.lookup dh=some ⟨.type "function",Ib,Ic,Ie⟩) (Ig:W.findIn K (.ref fY) "__setattr__" = some (some (.builtin "object.__setattr__"))) (Ih:W.findIn K (.ref fY) "__getattribute__" = some (some (.builtin "BaseException.__getattribute__"))) (Ii:W.findIn K (.ref fY) "__getattr__" = some none) (Ij:W.hasDictIn K fY=true)
  (zZ:W.findIn K (.ref fY) "most" = some none)
  (aft:W.nsIn K mainGlobals "all" = some none)
  (afu:W.nsIn K mainGlobals "any" = some none)
  (XQ:W.nsIn K mainGlobals "bool" = some none)
  (Ik:W.nsIn K mainGlobals "enumerate" = some none)
  (afv:W.nsIn K mainGlobals "int" = some none)
  (Fp:W.nsIn K mainGlobals "isinstance" = some none)
  (afw:W.nsIn K mainGlobals "len" = some none)
  (XR:W.nsIn K mainGlobals "list" = some none)
  (z_ord:W.nsIn K mainGlobals "ord" = some none)
  (Tq:W.nsIn K mainGlobals "range" = some none)
  (KY:W.nsIn K mainGlobals "reversed" = some none)
  (afx:W.nsIn K mainGlobals "str" = some none)
  (afy:W.nsIn K mainGlobals "sum" = some none)
  (Tr:W.nsIn K mainGlobals "tuple" = some none)
  (afz:W.nsIn K mainGlobals "zip" = some none)
  {Tt:Tok} (XS:W.nsIn K mainGlobals "LINE" = some (some (.str JV Tt))) (XT:JV=Str.ofString "\n")
  {CL:Tok} (Fq:W.nsIn K mainGlobals "MOST_SIGNS" = some (some (.int 2000 CL)))
  {Ft:Tok} (Il:W.nsIn K mainGlobals "MOST_ROWS" = some (some (.int 60 Ft)))
  {CN:Tok} (Fv:W.nsIn K mainGlobals "MOST_CELLS" = some (some (.int 20 CN)))
  {qu:Tok} (qN:W.nsIn K mainGlobals "MOST_SIGNS_IN_CELLS" = some (some (.int 400 qu)))
  {BP:Tok} (CO:W.nsIn K mainGlobals "MOST_TOKENS" = some (some (.int 24 BP)))
  {BQ:Tok} (CQ:W.nsIn K mainGlobals "MOST_OTHERS" = some (some (.int 3 BQ)))
  {BR:Tok} (CS:W.nsIn K mainGlobals "MOST_PLACES" = some (some (.int 4000 BR)))
  (Tu:W.nsIn K mainGlobals "START" = some (some (.ref Fj)))
  {Q6:Option Addr}{Tv:Nat}{Q7:Array (Option Value)}{Q8 Q9:Tok} (Tw:K.lookup Fj=some ⟨.type "tuple",Q6,.seq #[.str ("row":Str) Q8,.str ("":Str) Q9] Tv,Q7⟩)
  (XU:W.nsIn K mainGlobals "PART" = some (some (.ref JU)))
  {Tz:Option Addr}{XW:Nat}{TF:Array (Option Value)}{TH TJ:Tok} (XX:K.lookup JU=some ⟨.type "tuple",Tz,.seq #[.str ("part":Str) TH,.str ("":Str) TJ] XW,TF⟩)
  (afA:W.nsIn K mainGlobals "END" = some (some (.ref Q5)))
  {XY:Option Addr}{afB:Nat}{XZ:Array (Option Value)}{X0 X3:Tok} (afC:K.lookup Q5=some ⟨.type "tuple",XY,.seq #[.str ("end":Str) X0,.str ("":Str) X3] afB,XZ⟩) :
  ∃ fd:FuncData,(∀(s:Shared) (v:Value),BindsTo s fd ⟨[v],[]⟩ [("_law_script",v)])∧∀ base:Heap,K.In base→base.Ns mainGlobals mg→aG l.prog w K mg base bu 14 fa fd ["_law_script"] (Fc K):=by
 have e:=hfa.symm.trans (W.mg_of X G a66)
 cases e
 have mo:∀{n:Str}{v:Value},W.nsIn K mainGlobals n=some (some v)→mg n=some v:=fun e=>W.mg_of X G e
 have mz:∀{n:Str},W.nsIn K mainGlobals n=some none→mg n=none:=fun e=>W.mg_none_of X G e
 have F0:=aP (st:=eG) l0 c0 k0
 have b0:=F0.m7 (ps:=["sign"])
 have F1:=aP (st:=cD) l1 c1 k1
 have b1:=F1.uI (ps:=["thing", "least", "most"])
 have F2:=Lg (st:=bC) l2 c2 k2
 have b2:Binds K (W.fnOf "__init__" "Dialect.__init__" (d7 bC) (di bC) (au bC) (.ref cu) kV2 dc2 pm2 an2 cd2 ct2) ["self", "parts", "quotes", "frees", "twin", "wide", "thin", "stray"] []:=fun s us hK hl=>match us,hl with | [_,_,_,_,_,_,_,_],_=>BindsTo.of_defaults (T:=cu) rfl (hK _ _ d2) rfl rfl rfl
 have F3:=aP (st:=gj) l3 c3 k3
 have b3:=F3.m7 (ps:=["self"])
 have F4:=aP (st:=iT) l4 c4 k4
 have b4:=F4.m7 (ps:=["told"])
 have F5:=aP (st:=fL) l5 c5 k5
 have b5:=F5.oJ (ps:=["self", "dialect"])
 have F6:=aP (st:=dI) l6 c6 k6
 have b6:=F6.uI (ps:=["self", "dialect", "tokens"])
 have F7:=aP (st:=dB) l7 c7 k7
 have b7:=F7.m7 (ps:=["row"])
 have F8:=aP (st:=cM) l8 c8 k8
 have b8:=F8.m7 (ps:=["text"])
 have F9:=aP (st:=oK) l9 c9 k9
 have b9:=F9.m7 (ps:=["thing"])
 have F10:=aP (st:=oM) l10 c10 k10
 have b10:=F10.m7 (ps:=["thing"])
 have F11:=aP (st:=eH) l11 VV k11
 have VW:=F11.m7 (ps:=["row"])
 have F12:=aP (st:=iB) l12 c12 k12
 have b12:=F12.m7 (ps:=["thing"])
 have F13:=aP (st:=gS) l13 c13 k13
 have b13:=F13.m7 (ps:=["thing"])
 have F14:=aP (st:=jZ) l14 c14 k14
 have b14:=F14.m7 (ps:=["table"])
 have F15:=aP (st:=AB) l15 c15 k15
 have b15:=F15.m7 (ps:=["text"])
 have F16:=aP (st:=dJ) l16 c16 k16
 have b16:=F16.m7 (ps:=["self"])
 have F17:=aP (st:=bO) l17 c17 k17
 have b17:=F17.uI (ps:=["dialect", "table", "others"])
 have F18:=aP (st:=cN) l18 SV k18
 have SW:=F18.GB (ps:=["self", "dialect", "table", "others"])
 have F19:=aP (st:=fz) l19 c19 k19
 have b19:=F19.oJ (ps:=["self", "most"])
 have F20:=aP (st:=mh) l20 c20 k20
 have b20:=F20.uI (ps:=["thing", "least", "most"])
 have F21:=aP (st:=oN) l21 c21 k21
 have b21:=F21.m7 (ps:=["thing"])
 have F22:=aP (st:=j0) l22 c22 k22
 have b22:=F22.m7 (ps:=["dialect"])
 have F23:=aP (st:=oO) l23 c23 k23
 have b23:=F23.oJ (ps:=["dialect", "state"])
 have F24:=aP (st:=fM) l24 c24 k24
 have b24:=F24.oJ (ps:=["dialect", "thing"])
 have F25:=aP (st:=gk) l25 c25 k25
 have b25:=F25.GB (ps:=["tokens", "count", "kind", "sign"])
 have F26:=aP (st:=cQ) l26 c26 k26
 have b26:=F26.uI (ps:=["dialect", "state", "sign"])
 have F27:=aP (st:=fN) l27 c27 k27
 have b27:=F27.oJ (ps:=["dialect", "sign"])
 have F28:=aP (st:=gT) l28 c28 k28
 have b28:=F28.uI (ps:=["dialect", "quote", "sign"])
 have F29:=aP (st:=gU) l29 c29 k29
 have b29:=F29.oJ (ps:=["dialect", "sign"])
 have F30:=aP (st:=fO) l30 c30 k30
 have b30:=F30.uI (ps:=["dialect", "quote", "sign"])
 have F31:=aP (st:=iU) l31 c31 k31
 have b31:=F31.uI (ps:=["dialect", "quote", "sign"])
 have F32:=aP (st:=j7) l32 c32 k32
 have b32:=F32.uI (ps:=["self", "state", "sign"])
 have F33:=aP (st:=eN) l33 c33 k33
 have b33:=F33.uI (ps:=["self", "state", "sign"])
 have F34:=aP (st:=cF) l34 c34 k34
 have b34:=F34.uI (ps:=["self", "mark", "sign"])
 have F35:=aP (st:=cz) l35 c35 k35
 have b35:=F35.oJ (ps:=["self", "mark"])
 have F36:=aP (st:=fX) l36 c36 k36
 have b36:=F36.m7 (ps:=["others"])
 have F37:=aP (st:=eO) l37 c37 k37
 have b37:=F37.oJ (ps:=["self", "place"])
 have F38:=aP (st:=cW) l38 c38 k38
 have b38:=F38.oJ (ps:=["self", "place"])
 have F39:=Lg (st:=j8) l39 c39 k39
 have b39:Binds K (W.fnOf "search" "search" (d7 j8) (di j8) (au j8) (.ref lS) Xa Xb Xc WC Td Xd) ["first", "searched", "most"] []:=fun s us hK hl=>match us,hl with | [_,_,_],_=>BindsTo.of_defaults (T:=lS) rfl (hK _ _ d39) rfl rfl rfl
 have F40:=aP (st:=oQ) l40 c40 k40
 have b40:=F40.oJ (ps:=["came", "place"])
 have F41:=aP (st:=gW) l41 c41 k41
 have b41:=F41.uI (ps:=["table", "others", "most"])
 have F42:=aP (st:=AD) l42 c42 k42
 have b42:=F42.GB (ps:=["dialect", "table", "others", "most"])
 have F43:=aP (st:=iV) l43 c43 k43
 have b43:=F43.m7 (ps:=["thing"])
 have F44:=aP (st:=AE) l44 c44 k44
 have b44:=F44.oJ (ps:=["dialect", "text"])
 have F45:=aP (st:=qY) l45 c45 k45
 have b45:=F45.m7 (ps:=["walked"])
 have F46:=aP (st:=mj) l46 c46 k46
 have b46:=F46.oJ (ps:=["text", "kinds"])
 have F47:=aP (st:=iW) l47 c47 k47
 have b47:=F47.oJ (ps:=["dialect", "text"])
 have F48:=aP (st:=oR) l48 c48 k48
 have b48:=F48.uI (ps:=["dialect", "most", "thing"])
 have F49:=aP (st:=iL) l49 c49 k49
 have b49:=F49.uI (ps:=["others", "most", "thing"])
 have F50:=aP (st:=mq) l50 c50 k50
 have b50:=F50.GB (ps:=["dialect", "others", "most", "thing"])
 have F51:=aP (st:=jC) l51 c51 k51
 have b51:=F51.GB (ps:=["dialect", "table", "others", "places"])
 have F52:=aP (st:=lO) l52 c52 k52
 have b52:=F52.GB (ps:=["dialect", "table", "others", "text"])
 have F53:=aP (st:=gn) l53 c53 k53
 have b53:=F53.oJ (ps:=["_law_script", "_law_k"])
 have F54:=aP (st:=iX) l54 c54 k54
 have b54:=F54.oJ (ps:=["_law_number_here", "_law_salt"])
 have F55:=aP (st:=gX) l55 c55 k55
 have b55:=F55.oJ (ps:=["_law_cell", "_law_salt"])
 have F56:=aP (st:=j9) l56 c56 k56
 have b56:=F56.uI (ps:=["_law_number_here", "_law_many", "_law_menu"])
 have F57:=aP (st:=iY) l57 c57 k57
 have b57:=F57.m7 (ps:=["_law_way"])
 have F58:=aP (st:=kc) l58 c58 k58
 have b58:=F58.m7 (ps:=["_law_cell"])
 have F59:=aP (st:=kg) l59 c59 k59
 have b59:=F59.m7 (ps:=["_law_told_here"])
 have F60:=aP (st:=kh) l60 c60 k60
 have b60:=F60.oJ (ps:=["_law_told_here", "_law_number_here"])
 have F61:=aP (st:=gY) l61 c61 k61
 have b61:=F61.GB (ps:=["_law_script", "_law_told_here", "_law_first", "_law_many"])
 have F62:=aP (st:=fB) l62 c62 k62
 have b62:=F62.oJ (ps:=["_law_tolds", "_law_table_here"])
 have F63:=aP (st:=iZ) l63 c63 k63
 have b63:=F63.oJ (ps:=["_law_cell", "_law_tolds"])
 have F64:=aP (st:=eV) l64 c64 k64
 have b64:=F64.GB (ps:=["_law_one", "_law_table_here", "_law_beside", "_law_found"])
 have F65:=aP (st:=i0) l65 c65 k65
 have b65:=F65.oJ (ps:=["_law_found", "_law_other"])
 have F66:=aP (st:=vF) l66 c66 k66
 have b66:=F66.m7 (ps:=["_law_script"])
 exact⟨W.fnOf "law" "law" (d7 vF) (di vF) (au vF) .none XG XH XI WD Te XJ,fun s v=>.of_eq rfl,fun base _ _=>Wo (av:=fun i=>[jo,fF,dg,gD,lD,fW,dO,iw,gb,sR,wV,jq,qp,jR,nM,Ff,dP,fG,dQ,dh,qq,sS,nN,sU,iy,jr,eg,iz,jS,jT,iA,lE,kD,ff,cI,cC,jU,gE,fh,wW,sV,jV,Fg,lF,Fi,wX,qs,lG,sW,nO,qt,sY,sZ,jt,lH,jW,nP,lI,nQ,nR,nS,jX,lJ,lK,gJ,lM,fa,bJ,kK,fj,dR,bD,ju,wY,wZ,tD,tE,w6,xg,fY,tF,Fj,JU,Q5,cu,lS].getD i fa) (aJ:=fun i=>[FN "is_printable" "is_printable" eG .none kV0 dc0 pm0 an0 cd0 ct0,FN "are_unlike_signs" "are_unlike_signs" cD .none kV1 dc1 pm1 an1 cd1 ct1,FN "__init__" "Dialect.__init__" bC (.ref cu) kV2 dc2 pm2 an2 cd2 ct2,FN "told" "Dialect.told" gj .none kV3 dc3 pm3 an3 cd3 ct3,FN "dialect_of" "dialect_of" iT .none kV4 dc4 pm4 an4 cd4 ct4,FN "__init__" "Turn.__init__" fL .none kV5 dc5 pm5 an5 cd5 ct5,FN "__init__" "Marker.__init__" dI .none kV6 dc6 pm6 an6 cd6 ct6,FN "tokens_of_row" "tokens_of_row" dB .none kV7 dc7 pm7 an7 cd7 ct7,FN "has_signs_alone" "has_signs_alone" cM .none kV8 dc8 pm8 an8 cd8 ct8,FN "is_cell" "is_cell" oK .none kV9 dc9 pm9 an9 cd9 ct9,FN "is_row" "is_row" oM .none abE abF abG aaI WE abH,FN "signs_in_row" "signs_in_row" eH .none abI abJ abK aaJ WG abL,FN "is_table" "is_table" iB .none abM abN abO aaK WH abP,FN "check_table" "check_table" gS .none abQ abR abS aaL WI abT,FN "tokens_of" "tokens_of" jZ .none abU abV abW aaM WJ abX,FN "once" "once" AB .none abY abZ ab0 aaN WK ab1,FN "special" "Dialect.special" dJ .none ab2 ab3 ab4 aaO WL ab5,FN "signs_that_count" "signs_that_count" bO .none ab6 ab7 ab8 aaP WM ab9,FN "__init__" "Places.__init__" cN .none acd ace acf aaQ WN acg,FN "__init__" "TooMany.__init__" fz .none ach aci acj aaR WO ack,FN "is_whole" "is_whole" mh .none acm acn aco aaS WQ acp,FN "is_text" "is_text" oN .none acq acr acs aaT WR acu,FN "states_of" "states_of" j0 .none acv acw acy aaU WS acz,FN "is_live" "is_live" oO .none acA acB acC aaV WT acD,FN "is_live_state" "is_live_state" fM .none acE acF acG aaW WU acH,FN "count_behind" "count_behind" gk .none acI acJ acK aaX WV acL,FN "step_at_beginning" "step_at_beginning" cQ .none acM acN acO aaY WW acP,FN "step_in_plain" "step_in_plain" fN .none acQ acR acS aaZ WX acT,FN "step_within" "step_within" gT .none acU acV acW aa0 WY acX,FN "step_behind" "step_behind" gU .none acY acZ ac0 aa1 WZ ac1,FN "step_in_doubt" "step_in_doubt" fO .none ac2 ac3 ac4 aa2 W0 ac5,FN "step_freed" "step_freed" iU .none ac6 ac7 ac8 aa3 W2 ac9,FN "step" "Turn.step" j7 .none ada adb ade aa4 W3 adf,FN "live_step" "Turn.live_step" eN .none adg adh adi aa5 W4 adj,FN "mark_behind" "Marker.mark_behind" cF .none adk adl adn aa6 W5 ado,FN "has_read_all" "Marker.has_read_all" cz .none adp adq ads aa7 W6 adt,FN "first_place" "first_place" fX .none adu adv adw aa8 W7 adx,FN "leads" "Places.leads" eO .none ady adz adA aa9 W8 adB,FN "is_good" "Places.is_good" cW .none adC adD adE abb W9 adF,FN "search" "search" j8 (.ref lS) Xa Xb Xc WC Td Xd,FN "text_to" "text_to" oQ .none adG adH adI abd Xe adJ,FN "check_asked" "check_asked" gW .none adK adL adM abe Xf adN,FN "sole" "sole" AD .none adO adP adQ abf Xg adR,FN "check_text" "check_text" iV .none adS adT adU abg Xh adV,FN "walk" "walk" AE .none adW adX adY abh Xi adZ,FN "end_of" "end_of" qY .none ad0 ad1 ad2 abi Xj ad3,FN "table_of" "table_of" mj .none ad4 ad5 ad6 abj Xk ad7,FN "reading_of" "reading_of" iW .none ad8 ad9 aea abk Xl aeb,FN "is_mark" "is_mark" oR .none aec aed aee abl Xm aef,FN "are_marks" "are_marks" iL .none aeg aeh aei abm Xn aej,FN "is_place" "is_place" mq .none aek ael aem abn Xo aen,FN "is_none" "is_none" jC .none aeo aep aeq abo Xp aer,FN "is_sole" "is_sole" lO .none aes aeu aev abp Xq aew,FN "_law_cell_at" "_law_cell_at" gn .none aex aey aez abq Xr aeA,FN "_law_mixed" "_law_mixed" iX .none aeB aeC aeD abr Xs aeE,FN "_law_number" "_law_number" gX .none aeF aeG aeH abt Xu aeI,FN "_law_some" "_law_some" j9 .none aeJ aeK aeL abu Xv aeM,FN "_law_menus" "_law_menus" iY .none aeN aeO aeP abv Xw aeQ,FN "_law_told" "_law_told" kc .none aeR aeS aeT abw Xx aeU,FN "_law_made" "_law_made" kg .none aeV aeW aeX abx Xy aeY,FN "_law_near" "_law_near" kh .none aeZ ae0 ae1 aby Xz ae2,FN "_law_others" "_law_others" gY .none ae3 ae4 ae5 abz XA ae6,FN "_law_signs" "_law_signs" fB .none ae7 ae8 ae9 abA XC afa,FN "_law_table" "_law_table" iZ .none afb afc afd abB XD afe,FN "_law_looked_at" "_law_looked_at" eV .none afg afh afi abC XE afj,FN "_law_alike" "_law_alike" i0 .none afk afl afm abD XF afn,FN "law" "law" vF .none XG XH XI WD Te XJ].getD i (FN "is_printable" "is_printable" eG .none kV0 dc0 pm0 an0 cd0 ct0)) (BU:=fun i=>[JV].getD i "") ⟨F0,b0,mo a0,
  F1,b1,mo a1,
  F2,b2,
  F3,b3,⟨a3,i3,k3⟩,
  F4,b4,mo a4,
  F5,b5,
  F6,b6,
  F7,b7,mo a7,
  F8,b8,mo a8,
  F9,b9,mo a9,
  F10,b10,mo a10,
  F11,VW,mo a11,
  F12,b12,mo a12,
  F13,b13,mo a13,
  F14,b14,mo SS,
  F15,b15,mo a15,
  F16,b16,⟨a16,i16,k16⟩,
  F17,b17,mo a17,
  F18,SW,
  F19,b19,
  F20,b20,mo a20,
  F21,b21,mo SX,
  F22,b22,mo a22,
  F23,b23,mo a23,
  F24,b24,mo Wd,
  F25,b25,mo a25,
  F26,b26,mo a26,
  F27,b27,mo a27,
  F28,b28,mo a28,
  F29,b29,mo a29,
  F30,b30,mo a30,
  F31,b31,mo a31,
  F32,b32,⟨a32,i32,k32⟩,
  F33,b33,⟨a33,i33,k33⟩,
  F34,b34,⟨a34,i34,k34⟩,
  F35,b35,⟨a35,i35,k35⟩,
  F36,b36,mo a36,
  F37,b37,⟨a37,i37,k37⟩,
  F38,b38,⟨a38,i38,k38⟩,
  F39,b39,mo a39,
  F40,b40,mo a40,
  F41,b41,mo a41,
  F42,b42,mo a42,
  F43,b43,mo a43,
  F44,b44,mo a44,
  F45,b45,mo a45,
  F46,b46,mo a46,
  F47,b47,mo a47,
  F48,b48,mo a48,
  F49,b49,mo a49,
  F50,b50,mo a50,
  F51,b51,mo a51,
  F52,b52,mo a52,
  F53,b53,mo a53,
  F54,b54,mo a54,
  F55,b55,mo a55,
  F56,b56,mo a56,
  F57,b57,mo a57,
  F58,b58,mo a58,
  F59,b59,mo a59,
  F60,b60,mo a60,
  F61,b61,mo a61,
  F62,b62,mo a62,
  F63,b63,mo a63,
  F64,b64,mo a64,
  F65,b65,mo a65,
  F66,b66,mo a66,
  ⟨JX,JY,JZ,J5⟩,mo JW,⟨J6,a2,i2,J7⟩,
  cy,
  bS,
  bN,
  gw,
  eY,
  eZ,
  fS,
  ⟨Tg,Th,Ti,Tj⟩,mo Tf,⟨To,a5,i5,Tp⟩,
  bL,
  ⟨M6,M7,M8,M9⟩,mo M4,⟨Na,a6,i6,Nb⟩,
  jQ,
  fT,
  ⟨Nc,Nf,Ng,Nh⟩,mo M5,⟨Ni,a18,i18,Nj⟩,
  fV,
  e9,
  je,
  mo kL,⟨⟨_,_,_,_,_,_,_,_,_,_,_,_,_,_,kM⟩,⟨_,_,_,_,_,kN,xh⟩,kO⟩,
  ⟨zW,zX,zY⟩,
  mo yl,⟨⟨_,_,_,_,_,_,_,_,_,_,_,_,_,_,yx⟩,⟨_,_,_,_,_,yy,HL⟩,yz⟩,
  mo u5,⟨⟨_,_,_,_,_,_,_,_,_,_,_,_,_,_,u7⟩,⟨_,_,_,_,_,u9,Fl⟩,vd⟩,
  mo ym,⟨⟨_,_,_,_,_,_,_,_,_,_,_,_,_,_,yC⟩,⟨_,_,_,_,_,yD,HU⟩,yE⟩,
  mo u6,⟨⟨_,_,_,_,_,_,_,_,_,_,_,_,_,_,ve⟩,⟨_,_,_,_,_,vf,Fo⟩,vg⟩,
  KU,⟨_,KW,rfl⟩,
  ⟨zZ,Ig,Ih,Ii,Ij⟩,
  mz aft,
  mz afu,
  mz XQ,
  mz Ik,
  mz afv,
  mz Fp,
  mz afw,
  mz XR,
  mz z_ord,
  mz Tq,
  mz KY,
  mz afx,
  mz afy,
  mz Tr,
  mz afz,
  ⟨_,mo XS⟩,XT,
  ⟨_,mo Fq⟩,
  ⟨_,mo Il⟩,
  ⟨_,mo Fv⟩,
  ⟨_,mo qN⟩,
  ⟨_,mo CO⟩,
  ⟨_,mo CQ⟩,
  ⟨_,mo CS⟩,
  mo Tu,⟨_,_,_,Tw,rfl,rfl,(by show 2≤sizeLine;decide),(.cons ⟨_,rfl⟩ (.cons ⟨_,rfl⟩ .nil))⟩,
  mo XU,⟨_,_,_,XX,rfl,rfl,(by show 2≤sizeLine;decide),(.cons ⟨_,rfl⟩ (.cons ⟨_,rfl⟩ .nil))⟩,
  mo afA,⟨_,_,_,afC,rfl,rfl,(by show 2≤sizeLine;decide),(.cons ⟨_,rfl⟩ (.cons ⟨_,rfl⟩ .nil))⟩⟩⟩
theorem walk {l:W.OpenLaw}{q:Program}{loose:List Str}{XP:(Str→Option Value)→Heap→Prop}{YP:World→Heap→Prop}{d:DefRec}{K:Params→W.Frag} (hn:l.most=some 63) (hdf:d.params.defaults=[])
  (hY:∀(w:World) (h:Heap),YP w h→(K w.params).In h)
  (F:∀(w:World) (mg:Str→Option Value) (fa:Addr) (h:Heap),(K w.params).In h→h.Ns mainGlobals mg→mg d.name=some (.ref fa) →
   ∃ fd:FuncData,(∀(s:Shared) (u:Value),BindsTo s fd ⟨[u],[]⟩ [("_law_script",u)])∧∀ base:Heap,(K w.params).In base→base.Ns mainGlobals mg→aG l.prog w (K w.params) mg base bu 14 fa fd ["_law_script"] (Fc (K w.params))) :
  W.WalkO q loose XP YP l.row.toRowW d [] (fun f vs=>PySem.call f vs) :=
 L2.RC (n:=63) (k:=14) (x := "_law_script") (CX:=fun _=>bu) (sp:=fun w=>Fc (K w.params)) hn (by decide) hdf ⟨rfl,by decide,by decide⟩ hY F (fun _ _ a ns hl _ hS=>⟨a,ns,rfl,hS,hl,fun _=>rfl⟩) fun _ _ _ _ _ z=>z
end My
def PySem.W.Fast.tw17722940375113762895:Unit:=()
def PySem.W.Fast.tw15657517534577021074:Unit:=()
def PySem.W.Fast.tw12328686793156332970:Unit:=()
def PySem.W.Fast.tw17111903811046009195:Unit:=()
def PySem.W.Fast.tw8600655194222100957:Unit:=()
def PySem.W.Fast.tw16315464790296759476:Unit:=()
def PySem.W.Fast.tw2677228191562890547:Unit:=()
def PySem.W.Fast.tw17881749484770642223:Unit:=()
def PySem.W.Fast.tw12007473729564638800:Unit:=()
def PySem.W.Fast.tw11840148922906616883:Unit:=()
def PySem.W.Fast.tw11294562101115113970:Unit:=()
def PySem.W.Fast.tw932280074104891960:Unit:=()
def PySem.W.Fast.tw15216952050314615215:Unit:=()
def PySem.W.Fast.tw7366399577380596611:Unit:=()
def PySem.W.Fast.tw12445675632358656687:Unit:=()
def PySem.W.Fast.tw10574201298813478572:Unit:=()
def PySem.W.Fast.tw17657149189572429356:Unit:=()
def PySem.W.Fast.tw17468666469367897512:Unit:=()
def PySem.W.Fast.tw9399157762071846459:Unit:=()
def PySem.W.Fast.tw17644480861002714180:Unit:=()
def PySem.W.Fast.tw3924507501858476573:Unit:=()
def PySem.W.Fast.tw2123355355885958280:Unit:=()
def PySem.W.Fast.tw14689484809405220694:Unit:=()
def PySem.W.Fast.tw8845519324547523281:Unit:=()
def PySem.W.Fast.tw15948429137676654779:Unit:=()
def PySem.W.Fast.tw6747919491983822242:Unit:=()
def PySem.W.Fast.tw1917622726117332387:Unit:=()
def PySem.W.Fast.tw1673693692644989634:Unit:=()
def PySem.W.Fast.tw12972697700794052383:Unit:=()
def PySem.W.Fast.tw15541836363408364846:Unit:=()
def PySem.W.Fast.tw5656946599615768021:Unit:=()
def PySem.W.Fast.tw6677100073497390670:Unit:=()
def PySem.W.Fast.tw4641013268483729951:Unit:=()
def PySem.W.Fast.tw4009349160127100664:Unit:=()
def PySem.W.Fast.tw616382851256378996:Unit:=()
def PySem.W.Fast.tw3827008873771079556:Unit:=()
def PySem.W.Fast.tw6703848792491973996:Unit:=()
def PySem.W.Fast.tw7174460058845273233:Unit:=()
def PySem.W.Fast.tw3360715937069678444:Unit:=()
def PySem.W.Fast.tw1397109140414565134:Unit:=()
def PySem.W.Fast.tw8716044460083632154:Unit:=()
def PySem.W.Fast.tw11454268614005471815:Unit:=()
def PySem.W.Fast.tw12293087065193539887:Unit:=()
def PySem.W.Fast.tw1261824638446744809:Unit:=()
def PySem.W.Fast.tw16463460112982902778:Unit:=()
def PySem.W.Fast.tw11166529510158414106:Unit:=()
def PySem.W.Fast.tw13422785278389808928:Unit:=()
def PySem.W.Fast.tw4194271568100312659:Unit:=()
def PySem.W.Fast.tw9411364202253814482:Unit:=()
def PySem.W.Fast.tw3061573330426506830:Unit:=()
def PySem.W.Fast.tw5952820658091340404:Unit:=()
def PySem.W.Fast.tw16678347084460123981:Unit:=()
def PySem.W.Fast.tw678981839990717262:Unit:=()
def PySem.W.Fast.tw18171781060368628605:Unit:=()
def PySem.W.Fast.tw9423821291191683679:Unit:=()
def PySem.W.Fast.tw9328621552931610429:Unit:=()
def PySem.W.Fast.tw17753932346895551244:Unit:=()
def PySem.W.Fast.tw9074705011162219705:Unit:=()
def PySem.W.Fast.tw14082462328502989407:Unit:=()
def PySem.W.Fast.tw12726032924542110236:Unit:=()
def PySem.W.Fast.tw2957575707302930743:Unit:=()
def PySem.W.Fast.tw10242592023717687539:Unit:=()
def PySem.W.Fast.tw16400372314550855935:Unit:=()
def PySem.W.Fast.tw4270731638459753058:Unit:=()
def PySem.W.Fast.tw9602799843304096826:Unit:=()
def PySem.W.Fast.tw6674776187455362521:Unit:=()
def PySem.W.Fast.tw13771490200108137001:Unit:=()
def PySem.W.Fast.tw11057691919021177411:Unit:=()
def PySem.W.Fast.tw12612327185822106006:Unit:=()
def PySem.W.Fast.tw2307776980681429113:Unit:=()
def PySem.W.Fast.tw16464796479712085050:Unit:=()
def PySem.W.Fast.tw966364570405995836:Unit:=()
def PySem.W.Fast.tw7288709656609512212:Unit:=()
def PySem.W.Fast.tw10007531379347042508:Unit:=()
def PySem.W.Fast.tw16680228217286899185:Unit:=()
def PySem.W.Fast.tw8284183349719545748:Unit:=()
def PySem.W.Fast.tw13282710111089593088:Unit:=()
def PySem.W.Fast.tw6462681616777453652:Unit:=()
def PySem.W.Fast.tw8520597350339715979:Unit:=()
def PySem.W.Fast.tw1636210756584117269:Unit:=()
def PySem.W.Fast.tw16475008475858603646:Unit:=()
def PySem.W.Fast.tw10540418829698069833:Unit:=()
def PySem.W.Fast.tw1295350229533520911:Unit:=()
def PySem.W.Fast.tw11112268614605596309:Unit:=()
def PySem.W.Fast.tw5108674696163060806:Unit:=()
def PySem.W.Fast.tw14574633407759218722:Unit:=()
def PySem.W.Fast.tw8818333602999875375:Unit:=()
def PySem.W.Fast.tw200034651656627887:Unit:=()
def PySem.W.Fast.tw11766159367215301775:Unit:=()
def PySem.W.Fast.tw1292809360069330736:Unit:=()
def PySem.W.Fast.tw2254064656942851065:Unit:=()
def PySem.W.Fast.tw11071979171353103691:Unit:=()
def PySem.W.Fast.tw5305222899526207242:Unit:=()
def PySem.W.Fast.tw17696836196969386335:Unit:=()
def PySem.W.Fast.tw1337136563229542370:Unit:=()
def PySem.W.Fast.tw18172124839817172579:Unit:=()
def PySem.W.Fast.tw16049490301256675636:Unit:=()
def PySem.W.Fast.tw8696349091992701495:Unit:=()
def PySem.W.Fast.tw2155772845376540452:Unit:=()
def PySem.W.Fast.tw10318109962401353730:Unit:=()
def PySem.W.Fast.tw6393134635492362515:Unit:=()
def PySem.W.Fast.tw16293111456496151342:Unit:=()
def PySem.W.Fast.tw13050198730903406664:Unit:=()
def PySem.W.Fast.tw3351756485664144191:Unit:=()
def PySem.W.Fast.tw4477586525964104422:Unit:=()
def PySem.W.Fast.tw12076251002163337056:Unit:=()
def PySem.W.Fast.tw13587466805220977322:Unit:=()
def PySem.W.Fast.tw14306850297912811269:Unit:=()
def PySem.W.Fast.tw4179771678031414161:Unit:=()
def PySem.W.Fast.tw8731735040050838034:Unit:=()
def PySem.W.Fast.tw3201350368490068941:Unit:=()
def PySem.W.Fast.tw4478415642286576359:Unit:=()
def PySem.W.Fast.tw1072263413934990232:Unit:=()
def PySem.W.Fast.tw8768639847546625957:Unit:=()
def PySem.W.Fast.tw14600165327600915598:Unit:=()
def PySem.W.Fast.tw12962786511548627674:Unit:=()
def PySem.W.Fast.tw8363454816567200851:Unit:=()
def PySem.W.Fast.tw3645408050306041783:Unit:=()
def PySem.W.Fast.tw1461430357507056957:Unit:=()
def PySem.W.Fast.tw4049498172489235708:Unit:=()
def PySem.W.Fast.tw13044576351173973704:Unit:=()
def PySem.W.Fast.tw6813600838732925876:Unit:=()
def PySem.W.Fast.tw9764071786436574139:Unit:=()
def PySem.W.Fast.tw11936986138455596860:Unit:=()
def PySem.W.Fast.tw8641636356405830168:Unit:=()
def PySem.W.Fast.tw9890275743055004275:Unit:=()
def PySem.W.Fast.tw6679963813706314985:Unit:=()
def PySem.W.Fast.tw10257646271160992444:Unit:=()
def PySem.W.Fast.tw10087411688316081131:Unit:=()
def PySem.W.Fast.tw9797967596874019468:Unit:=()
def PySem.W.Fast.tw17416572211729559755:Unit:=()
def PySem.W.Fast.tw16156820425682377499:Unit:=()
def PySem.W.Fast.tw17397403397686852526:Unit:=()
def PySem.W.Fast.tw13812605913547589272:Unit:=()
def PySem.W.Fast.tw4546475032744985717:Unit:=()
def PySem.W.Fast.tw10396395710607959576:Unit:=()
def PySem.W.Fast.tw326834168889300634:Unit:=()
def PySem.W.Fast.tw6302499109455336685:Unit:=()
def PySem.W.Fast.tw9720260764208333564:Unit:=()
def PySem.W.Fast.tw17363839467976381438:Unit:=()
def PySem.W.Fast.tw5428282555277539442:Unit:=()
def PySem.W.Fast.tw10599270613663504901:Unit:=()
def PySem.W.Fast.tw15129221984810973413:Unit:=()
def PySem.W.Fast.tw8975887961206739172:Unit:=()
def PySem.W.Fast.tw9084339196357648398:Unit:=()
def PySem.W.Fast.tw16643784395467953264:Unit:=()
def PySem.W.Fast.tw12374740029458362314:Unit:=()
def PySem.W.Fast.tw9519322547274228551:Unit:=()
def PySem.W.Fast.tw9267686127309111555:Unit:=()
def PySem.W.Fast.tw11800158860044968009:Unit:=()
def PySem.W.Fast.tw5259304584743940172:Unit:=()
def PySem.W.Fast.tw15806604895810408754:Unit:=()
def PySem.W.Fast.tw940761517829576625:Unit:=()
def PySem.W.Fast.tw10164632649101384830:Unit:=()
def PySem.W.Fast.tw5811905317202540936:Unit:=()
def PySem.W.Fast.tw11587409111339176796:Unit:=()
def PySem.W.Fast.tw4795878704647960645:Unit:=()
def PySem.W.Fast.tw10673033560255327142:Unit:=()
def PySem.W.Fast.tw18177524373574311564:Unit:=()
def PySem.W.Fast.tw5905702722142236008:Unit:=()
def PySem.W.Fast.tw10416207629478156090:Unit:=()
def PySem.W.Fast.tw5837605965723481774:Unit:=()
def PySem.W.Fast.tw11314091335516271792:Unit:=()
def PySem.W.Fast.tw3660353744411236359:Unit:=()
def PySem.W.Fast.tw10490137977446245815:Unit:=()
def PySem.W.Fast.tw9907681436490421526:Unit:=()
def PySem.W.Fast.tw16305541443463118707:Unit:=()
def PySem.W.Fast.tw9060391690742144866:Unit:=()
def PySem.W.Fast.tw15346704779635630818:Unit:=()
def PySem.W.Fast.tw17162793671898620711:Unit:=()
def PySem.W.Fast.tw17873107614226283494:Unit:=()
def PySem.W.Fast.tw6762169921602962800:Unit:=()
def PySem.W.Fast.tw2422364933668933429:Unit:=()
def PySem.W.Fast.tw65997909088754867:Unit:=()
def PySem.W.Fast.tw14340792565628670542:Unit:=()
def PySem.W.Fast.tw9729558577816342087:Unit:=()
def PySem.W.Fast.tw12763692491132444887:Unit:=()
def PySem.W.Fast.tw7534095839858958435:Unit:=()
def PySem.W.Fast.tw7926556616012911391:Unit:=()
def PySem.W.Fast.tw3089306238068312346:Unit:=()
open PySem PySem.W PyProof.Rows
set_option maxRecDepth 100000 in
set_option maxHeartbeats 0 in
theorem PySem.Challenge.cw_dialecthall_k79_whole_more_others_holds : PySem.Challenge.rw_dialecthall_k79_whole_more_others.Holds := by
 w_on;o_law;k_head;(case hw=>w_witness2)
 k_fill
 refine My.walk (l:=PySem.Challenge.rw_dialecthall_k79_whole_more_others) rfl rfl (fun w h Y=>W.kIn_of Y) ?F
 case F =>
  intro w mg fa h KX G hmg
  refine' My.all_mk KX G hmg ?_ ?_ ?_ ?_ ?kL ?yl ?u5 ?ym ?u6 ?_ ?_ ?_ ?_ ?_ ?_ ?_ ?_ ?_ ?_ ?_ ?_ ?_ ?_ ?_ ?_ ?_ ?_ ?_ ?_ ?_ ?_ ?_ ?_ ?_ ?_ ?_ ?_ ?_ ?_ ?_ ?_ ?_ ?_ ?_ ?_ ?_ ?_ ?_ ?_ ?_ ?_ ?_ ?_ ?_ ?_ ?_ ?_ ?_ ?_ ?_ ?_ ?_ ?_ ?_ ?_ ?_ ?_ ?_ ?_ ?_ ?_ ?_ ?_ ?_ ?_ ?_ ?_ ?_ ?_ ?_ ?_ ?_ ?_ ?_ ?_ ?_ ?_ ?_ ?_ ?_ ?_ ?_ ?_ ?_ ?_ ?_ ?_ ?_ ?_ ?_ ?_ ?_ ?_ ?_ ?_ ?_ ?_ ?_ ?_ ?_ ?_ ?_ ?_ ?_ ?_ ?_ ?_ ?_ ?_ ?_ ?_ ?_ ?_ ?_ ?_ ?_ ?_ ?_ ?_ ?_ ?_ ?_ ?_ ?_ ?_ ?_ ?_ ?_ ?_ ?_ ?_ ?_ ?_ ?_ ?_ ?_ ?_ ?_ ?_ ?_ ?_ ?_ ?_ ?_ ?_ ?_ ?_ ?_ ?_ ?_ ?_ ?_ ?_ ?_ ?_ ?_ ?_ ?_ ?_ ?_ ?_ ?_ ?_ ?_ ?_ ?_ ?_ ?_ ?_ ?_ ?_ ?_ ?_ ?_ ?_ ?_ ?_ ?_ ?_ ?_ ?_ ?_ ?_ ?_ ?_ ?_ ?_ ?_ ?_ ?_ ?_ ?_ ?_ ?_ ?_ ?_ ?_ ?_ ?_ ?_ ?_ ?_ ?_ ?_ ?_ ?_ ?_ ?_ ?_ ?_ ?_ ?_ ?_ ?_ ?_ ?_ ?_ ?_ ?_ ?_ ?_ ?_ ?_ ?_ ?_ ?_ ?_ ?_ ?_ ?_ ?_ ?_ ?_ ?_ ?_ ?_ ?_ ?_ ?_ ?_ ?_ ?_ ?_ ?_ ?_ ?_ ?_ ?_ ?_ ?_ ?_ ?_ ?_ ?_ ?_ ?_ ?_ ?_ ?_ ?_ ?_ ?_ ?_ ?_ ?_ ?_ ?_ ?_ ?_ ?_ ?_ ?_ ?_ ?_ ?_ ?_ ?_ ?_ ?_ ?_ ?_ ?_ ?_ ?_ ?_ ?_ ?_ ?_ ?_ ?_ ?_ ?_ ?_ ?_ ?_ ?_ ?_ ?_ ?_ ?_ ?_ ?_ ?_ ?_ ?_ ?_ ?_ ?_ ?_ ?_ ?_ ?_ ?_ ?_ ?_ ?_ ?_ ?kM ?kN ?_ ?kO ?_ ?_ ?_ ?yx ?yy ?_ ?yz ?u7 ?u9 ?_ ?vd ?yC ?yD ?_ ?yE ?ve ?vf ?_ ?vg ?_ ?_ ?_ ?_ ?_ ?_ ?_ ?_ ?_ ?_ ?_ ?_ ?_ ?_ ?_ ?_ ?_ ?_ ?_ ?_ ?_ ?_ ?_ ?_ ?_ ?_ ?_ ?_ ?_ ?_ ?_ ?_ ?_ ?_ ?_ ?_ ?_
  (case kL=>k_is)
  (case yl=>k_is)
  (case u5=>k_is)
  (case ym=>k_is)
  (case u6=>k_is)
  (case kM=>k_is)
  (case kN=>k_is)
  (case kO=>k_is)
  (case yx=>k_is)
  (case yy=>k_is)
  (case yz=>k_is)
  (case u7=>k_is)
  (case u9=>k_is)
  (case vd=>k_is)
  (case yC=>k_is)
  (case yD=>k_is)
  (case yE=>k_is)
  (case ve=>k_is)
  (case vf=>k_is)
  (case vg=>k_is)
  all_goals try first | k_is | rfl
