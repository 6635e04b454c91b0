import PyProof.Rows.All
import Wide.All
import OpenK.AllK
import Wide.FinOn
import Lean
import PyProof.EqAt
import PyProof.EqKinds
import PyProof.TupleCall
import PyProof.InstEq
import PySem.Challenge.RW_dialecthall_k16_nothing_told
set_option Elab.async false
set_option linter.all false
set_option maxRecDepth 100000
namespace L2
open PySem PySem.Spec PyProof.Rows
abbrev Key:=Sum Int Str
def jM:Key→Value→Bool
 | .inl k,v=>Value.isInt k v
 | .inr x,v=>Value.isStrOf x v
def Di (w:World):Key→Int
 | .inl k=>hashInt k
 | .inr x=>hashStr w x
theorem aW:∀{k:Key}{v:Value},jM k v=true→(∃ i t,k=Sum.inl i∧v=Value.int i t)∨(∃ x t,k=Sum.inr x∧v=Value.str x t)
 | .inl i,v,h=>by
  obtain⟨t,e⟩:=Value.isInt_shape (k:=i) (v:=v) h
  exact .inl ⟨i,t,rfl,e⟩
 | .inr x,v,h=>by
  obtain⟨t,e⟩:=Value.isStrOf_shape (x:=x) (v:=v) h
  exact .inr ⟨x,t,rfl,e⟩
theorem xE (i:Int) (t:Tok):jM (.inl i) (.int i t)=true:=by simp[jM,Value.isInt]
theorem xF (x:Str) (t:Tok):jM (.inr x) (.str x t)=true:=by simp[jM,Value.isStrOf]
theorem zQ (a b:Int):decide ((Sum.inl a:Key)=Sum.inl b)=(a == b):=by
 by_cases e:a=b
 ·subst e;simp
 ·have h:¬(Sum.inl a:Key)=Sum.inl b:=fun q=>e (Sum.inl.inj q)
  rw[decide_eq_false h]
  exact(beq_eq_false_iff_ne.mpr e).symm
theorem zR (a b:Str):decide ((Sum.inr a:Key)=Sum.inr b)=decide (a=b):=by
 by_cases e:a=b
 ·subst e;simp
 ·have h:¬(Sum.inr a:Key)=Sum.inr b:=fun q=>e (Sum.inr.inj q)
  rw[decide_eq_false h,decide_eq_false e]
theorem zS (a:Int) (b:Str):decide ((Sum.inl a:Key)=Sum.inr b)=false:=decide_eq_false (fun q=>nomatch q)
theorem zU (a:Str) (b:Int):decide ((Sum.inr a:Key)=Sum.inl b)=false:=decide_eq_false (fun q=>nomatch q)
def fJ (prog:Program) (w:World):PySem.KeyKind prog w Key where
 is:=jM
 hash:=Di w
 inj:=fun v a b ha hb=>by
  rcases aW ha with ⟨i,t,rfl,rfl⟩ | ⟨x,t,rfl,rfl⟩
  ·rcases aW hb with ⟨j,u,rfl,e⟩ | ⟨y,u,rfl,e⟩
   ·injection e with e1 _;rw[e1]
   ·exact nomatch e
  ·rcases aW hb with ⟨j,u,rfl,e⟩ | ⟨y,u,rfl,e⟩
   ·exact nomatch e
   ·injection e with e1 _;rw[e1]
 byValue:=fun k v h=>by
  rcases aW h with ⟨i,t,rfl,rfl⟩ | ⟨x,t,rfl,rfl⟩ <;> rfl
 pyHash:=fun hv h=>by
  rcases aW hv with ⟨i,t,rfl,rfl⟩ | ⟨x,t,rfl,rfl⟩
  ·exact wpAny_pyHash_int h
  ·exact wpAny_pyHash_str h
 eqBool:=fun hu hv h=>by
  rcases aW hu with ⟨i,t,rfl,rfl⟩ | ⟨x,t,rfl,rfl⟩
  ·rcases aW hv with ⟨j,u,rfl,rfl⟩ | ⟨y,u,rfl,rfl⟩
   ·rw[zQ] at h;exact wpAny_eqBool_int h
   ·rw[zS] at h;exact SeqAt.EqAt.int_str i t y u _ _ _ _ h
  ·rcases aW hv with ⟨j,u,rfl,rfl⟩ | ⟨y,u,rfl,rfl⟩
   ·rw[zU] at h;exact SeqAt.EqAt.str_int x t j u _ _ _ _ h
   ·rw[zR] at h;exact wpAny_eqBool_str h
 «strs» := fun k x t v h=>by
  rcases aW h with ⟨i,u,rfl,e⟩ | ⟨y,u,rfl,e⟩
  ·exact nomatch e
  ·injection e with e1 _
   subst e1
   cases v <;> rfl
theorem rK (prog:Program) (w:World) (i:Int) (t:Tok):(fJ prog w).is (.inl i) (.int i t)=true:=xE i t
theorem rL (prog:Program) (w:World) (x:Str) (t:Tok):(fJ prog w).is (.inr x) (.str x t)=true:=xF x t
inductive V where
 | non | bl (b:Bool) | int (i:Int) | str (x:Str) | zK (b:Array UInt8) | BN (b:UInt64) | ref (a:Addr) | ty (n:String)
 deriving DecidableEq
def RelV:V→Value→Prop
 | .non,u=>u=Value.none
 | .bl b,u=>u=Value.bool b
 | .int i,u=>∃ t,u=Value.int i t
 | .str x,u=>∃ t,u=Value.str x t
 | .zK b,u=>∃ t,u=Value.bytes b t
 | .BN b,u=>∃ t,u=Value.float b t
 | .ref a,u=>u=Value.ref a
 | .ty n,u=>u=Value.type n
abbrev Vals:List V→List Value→Prop:=Paired RelV
theorem Vals.length {xs:List V}{us:List Value} (r:Vals xs us):xs.length=us.length:=Paired.length r
theorem Vals.get:∀{xs:List V}{us:List Value}{i:Nat}{x:V},Vals xs us→xs[i]? = some x→∃ u,us[i]? = some u∧RelV x u
 | _,_,_,_,.nil,e=>by simp at e
 | _,_,0,_,.cons r _,e=>by simp at e;subst e;exact⟨_,rfl,r⟩
 | _,_,i+1,x,.cons _ t,e=>by
  obtain⟨u,h1,h2⟩:=Vals.get (i:=i) (x:=x) t (by simpa using e)
  exact⟨u,by simpa using h1,h2⟩
theorem Vals.append:∀{xs ys:List V}{us ws:List Value},Vals xs us→Vals ys ws→Vals (xs++ys) (us++ws)
 | _,_,_,_,.nil,s=>s
 | _,_,_,_,.cons r t,s=>.cons r (Vals.append t s)
theorem Vals.take:∀{xs:List V}{us:List Value} (n:Nat),Vals xs us→Vals (xs.take n) (us.take n)
 | _,_,0,_=>.nil
 | _,_,_+1,.nil=>.nil
 | _,_,n+1,.cons r t=>.cons r (Vals.take n t)
theorem Vals.drop:∀{xs:List V}{us:List Value} (n:Nat),Vals xs us→Vals (xs.drop n) (us.drop n)
 | _,_,0,r=>r
 | _,_,_+1,.nil=>.nil
 | _,_,n+1,.cons _ t=>Vals.drop n t
def mS:Option V→Option Value→Prop
 | some v,some u=>RelV v u
 | none,none=>True
 | _,_=>False
def KV {κ:Type}:List (κ×V)→List (κ×Value)→Prop:=Paired fun (p:κ×V) (q:κ×Value)=>p.1=q.1∧RelV p.2 q.2
def kV:Key→V
 | .inl i=>.int i
 | .inr x=>.str x
inductive HO where
 | lst (xs:List V)
 | tup (xs:List V)
 | dK (kvs:List (Key×V)) | dT (kvs:List (List Key×V))
 | set (S:Int→Bool) (n:Nat)
 | ins (C dx:Addr) (fs:List (Str×V))
 | own (x:Addr)
 | xd (fs:List (Str×V))
 | met (f x:Addr)
 | HN (lo hi:Int)
 | rG (o:Obj) (u:HO)
 | CT (ps:Array Value)
 | ext (φ:Heap→Prop)
abbrev Hp:=Addr→Option HO
def upd (H:Hp) (a:Addr) (o:HO):Hp:=fun b=>if b=a then some o else H b
theorem ai {H:Hp}{a:Addr}{o:HO}:upd H a o a=some o:=by unfold upd;rw[if_pos rfl]
theorem aH {H:Hp}{a b:Addr}{o:HO} (h:b≠a):upd H a o b=H b:=by unfold upd;rw[if_neg h]
theorem aO {H:Hp}{a b:Addr}{o:HO} (h:H a=some o) (h':H b=none):a≠b:=by
 intro e;subst e;rw[h] at h';cases h'
section
variable (P:Program) (w:World)
def bG (H:Hp) (h:Heap) (a:Addr):HO→Prop
 | .lst xs=>xs.length≤sizeLine∧∃(its:List Value) (n:Nat),Vals xs its∧h.get? a=some { cls:=.type "list",data:=.seq its.toArray n }
 | .tup xs=>xs.length≤sizeLine∧∃ its:List Value,Vals xs its∧IsTup h a its.toArray
 | .dK kvs=>kvs.length≤sizeLine∧(a == sysModules)=false∧∃ vs,KV kvs vs∧h.DictOf (fJ P w) a vs
 | .dT kvs=>kvs.length≤sizeLine∧(a == sysModules)=false∧∃ xs:List (List Key×Addr×Value),
   Paired (fun (p:List Key×V) (q:List Key×Addr×Value)=>p.1=q.1∧H q.2.1=some (.tup (p.1.map kV))∧RelV p.2 q.2.2) kvs xs ∧
   ∃ o es ep,h.get? a=some o∧o.ExactDict∧o.data=.dict es ep∧es.toList=xs.map (entryOfKey (tupleKind (fJ P w)))∧(xs.map (·.1)).Nodup
 | .set S n=>h.SetOf (intKind P w) a S n
 | .ins C dx fs=>H dx=some (.own a)∧fs.length≤1000∧dx≠a∧h.get? a=some (W.instObj C dx) ∧
   ∃ mA,h.Ns1 dx mA∧(∀ f,mS (fs.lookup f) (mA f))∧PySem.Within mA (fs.map (·.1))
 | .own _=>∃ o,h.get? a=some o
 | .xd fs=>∃ mA,h.Ns1 a mA∧∀ f,mS (fs.lookup f) (mA f)
 | .HN lo hi=>∃ t u v,h.get? a=some { cls:=.type "range",data:=.fields #[.int lo t,.int hi u,.int 1 v] }
 | .rG o u=>h.get? a=some o∧bG H h a u
 | .CT ps=>h.get? a=some { cls:=.none,data:=.fields ps }
 | .met f x=>h.get? a=some (W.methodObj (.ref f) (.ref x))
 | .ext φ=>φ h∧(∃ o,h.get? a=some o)∧∀ h1 h2:Heap,φ h1→(∀ o,h1.get? a=some o→h2.get? a=some o)→φ h2
def kD (H:Hp) (h:Heap):Prop:=∀ a o,H a=some o→bG P w H h a o
end
section
variable {P:Program}{w:World}{H H':Hp}{h h':Heap}{a:Addr}{o:HO}
theorem bG.lt (x:bG P w H h a o):a < h.objs.size:=by
 cases o with
 | lst xs=>obtain⟨_,_,_,_,e⟩:=x;exact Heap.lt_size e
 | tup xs=>obtain⟨_,_,_,p⟩:=x;exact p.lt
 | dK kvs=>obtain⟨_,_,_,_,o,_,_,e,_⟩:=x;exact Heap.lt_size e
 | dT kvs=>obtain⟨_,_,_,_,o,_,_,e,_⟩:=x;exact Heap.lt_size e
 | set S n=>obtain⟨o,_,_,_,e,_⟩:=x;exact Heap.lt_size e
 | ins C dx fs=>obtain⟨_,_,_,e,_⟩:=x;exact Heap.lt_size e
 | own y=>obtain⟨_,e⟩:=x;exact Heap.lt_size e
 | xd fs=>obtain⟨_,⟨_,_,_,e,_⟩,_⟩:=x;exact Heap.lt_size e
 | HN lo hi=>obtain⟨_,_,_,e⟩:=x;exact Heap.lt_size e
 | rG ob u=>obtain⟨e,_⟩:=x;exact Heap.lt_size e
 | CT ps=>exact Heap.lt_size (show h.get? a=some _ from x)
 | met f y=>exact Heap.lt_size (show h.get? a=some _ from x)
 | ext φ=>obtain⟨_,⟨_,e⟩,_⟩:=x;exact Heap.lt_size e
theorem Paired.zV {α β:Type}{F G:α→β→Prop}:∀{l₁:List α}{l₂:List β},Paired F l₁ l₂→(∀ a b,F a b→G a b)→Paired G l₁ l₂
 | _,_,.nil,_=>.nil
 | _,_,.cons r t,f=>.cons (f _ _ r) (Paired.zV t f)
theorem bG.stay (x:bG P w H h a o) (k:∀ b u,(b=a∨H b=some (.own a))→h.get? b=some u→h'.get? b=some u)
  (ho:∀ b,H b=some (.own a)→H' b=some (.own a)) (ht:∀ b xs,H b=some (.tup xs)→H' b=some (.tup xs)):bG P w H' h' a o:=by
 induction o with
 | lst xs=>obtain⟨z,its,n,r,e⟩:=x;exact⟨z,its,n,r,k _ _ (.inl rfl) e⟩
 | tup xs=>obtain⟨z,its,r,ob,e,c⟩:=x;exact⟨z,its,r,ob,k _ _ (.inl rfl) e,c⟩
 | dK kvs=>obtain⟨z,y,vs,r,ob,es,ep,e,c⟩:=x;exact⟨z,y,vs,r,ob,es,ep,k _ _ (.inl rfl) e,c⟩
 | dT kvs =>
  obtain⟨z,y,xs,r,ob,es,ep,e,c⟩:=x
  exact⟨z,y,xs,Paired.zV r fun p q z=>⟨z.1,ht _ _ z.2.1,z.2.2⟩,ob,es,ep,k _ _ (.inl rfl) e,c⟩
 | set S n=>obtain⟨ob,es,ep,t,e,c⟩:=x;exact⟨ob,es,ep,t,k _ _ (.inl rfl) e,c⟩
 | ins C dx fs =>
  obtain⟨d,z,ne,e,mA,⟨od,es,ep,e2,c⟩,r⟩:=x
  exact⟨ho _ d,z,ne,k _ _ (.inl rfl) e,mA,⟨od,es,ep,k _ _ (.inr d) e2,c⟩,r⟩
 | own y=>obtain⟨ob,e⟩:=x;exact⟨ob,k _ _ (.inl rfl) e⟩
 | xd fs=>obtain⟨mA,⟨od,es,ep,e,c⟩,r⟩:=x;exact⟨mA,⟨od,es,ep,k _ _ (.inl rfl) e,c⟩,r⟩
 | HN lo hi=>obtain⟨t,u,v,e⟩:=x;exact⟨t,u,v,k _ _ (.inl rfl) e⟩
 | rG ob u ih=>obtain⟨e,q⟩:=x;exact⟨k _ _ (.inl rfl) e,ih q⟩
 | CT ps =>
  have e:h.get? a=some { cls:=.none,data:=.fields ps }:=x
  show h'.get? a=some { cls:=.none,data:=.fields ps }
  exact k a _ (.inl rfl) e
 | met f y =>
  have e:h.get? a=some (W.methodObj (.ref f) (.ref y)):=x
  show h'.get? a=some (W.methodObj (.ref f) (.ref y))
  exact k a _ (.inl rfl) e
 | ext φ=>obtain⟨p,⟨o,e⟩,st⟩:=x;exact⟨st _ _ p fun o q=>k _ _ (.inl rfl) q,⟨o,k _ _ (.inl rfl) e⟩,st⟩
theorem kD.lt (x:kD P w H h) (e:H a=some o):a < h.objs.size:=(x a o e).lt
theorem kD.fresh (x:kD P w H h) (e:h.objs.size≤a):H a=none:=by
 cases q:H a with
 | none=>rfl
 | some u=>exact absurd (Nat.lt_of_lt_of_le (x.lt q) e) (Nat.lt_irrefl _)
theorem kD.kept (x:kD P w H h) (k:∀ b u,h.get? b=some u→h'.get? b=some u):kD P w H h':=fun a o e =>
 (x a o e).stay (fun b u _ q=>k b u q) (fun _ q=>q) fun _ _ q=>q
theorem kD.laid (x:kD P w H h) (k:∀ b u,h.get? b=some u→h'.get? b=some u) (hp:h.objs.size≤a) (new:bG P w (upd H a o) h' a o):kD P w (upd H a o) h':=fun b u e=>by
 have hn:=x.fresh hp
 by_cases hb:b=a
 ·subst hb;rw[ai] at e;cases e;exact new
 ·rw[aH hb] at e
  exact(x b u e).stay (fun c v _ q=>k c v q) (fun c q=>by rw[aH (aO q hn)];exact q) fun c xs q=>by rw[aH (aO q hn)];exact q
end
def Rd (H:Hp) (a:Addr) (u:HO):Prop:=H a=some u∨∃ o,H a=some (.rG o u)
theorem Rd.ok {P:Program}{w:World}{H:Hp}{h:Heap}{a:Addr}{u:HO} (r:Rd H a u) (x:kD P w H h):bG P w H h a u:=by
 rcases r with r | ⟨o,r⟩
 ·exact x a u r
 ·obtain⟨_,q⟩:=x a _ r
  exact q
def HP:Option HO→Prop
 | some (.lst _)=>True
 | some (.dK _)=>True
 | some (.dT _)=>True
 | some (.set _ _)=>True
 | some (.ins _ _ _)=>True
 | some (.ext _)=>True
 | _=>False
section
variable {P:Program}{w:World}{H:Hp}{h h':Heap}{x e:Addr}{o':HO}
theorem kD.write (ok:kD P w H h) (mu:HP (H x)) (he:e=x∨H e=some (.own x)) (k:∀ b u,b≠e→h.get? b=some u→h'.get? b=some u) (EN:∃ u,h'.get? e=some u)
  (new:bG P w (upd H x o') h' x o'):kD P w (upd H x o') h':=fun b u q=>by
 have E1:∀ c y,H c=some (.own y)→c≠x:=fun c y r z=>by subst z;rw[r] at mu;exact mu
 have Im:∀ c xs,H c=some (.tup xs)→c≠x:=fun c xs r z=>by subst z;rw[r] at mu;exact mu
 by_cases hb:b=x
 ·subst hb;rw[ai] at q;cases q;exact new
 ·rw[aH hb] at q
  by_cases Dj:b=e
  ·have q':H b=some (.own x):=by
    rcases he with z | z
    ·exact absurd (Dj.trans z) hb
    ·rw[Dj];exact z
   rw[q] at q';cases q'
   obtain⟨v,hv⟩:=EN
   exact⟨v,by rw[Dj];exact hv⟩
  ·refine(ok b u q).stay (fun c v hc r=>k c v ?_ r) (fun c r=>by rw[aH (E1 c b r)];exact r) fun c xs r=>by rw[aH (Im c xs r)];exact r
   rcases hc with rfl | hc
   ·exact Dj
   ·rintro rfl
    rcases he with z | z
    ·exact E1 c b hc z
    ·rw[hc] at z;cases z;exact hb rfl
end
structure Un (fs ex:List Addr) (H H':Hp) (h h':Heap):Prop where
 keep:∀ b o,h.get? b=some o→H b=none→b∉fs→b∉ex→h'.get? b=some o
 slot:∀ b o,h.get? b=some o→H b=none→b∈fs→b∉ex→∃ sl,h'.get? b=some { o with slots:=sl }
 free:∀ b o,h.get? b=some o→H b=none→b∉ex→H' b=none
 there:∀ b o,h.get? b=some o→b∉ex→∃ o',h'.get? b=some o'
 tups:∀ b xs,H b=some (.tup xs)→H' b=some (.tup xs)
 lN:∀ b o u,H b=some (.rG o u)→H' b=some (.rG o u)
 mT:∀ b ps,H b=some (.CT ps)→∃ more,H' b=some (.CT (ps++more))
section
variable {fs fs' ex ex':List Addr}{H H1 H2:Hp}{h h1 h2 h':Heap}{a x e:Addr}{o:HO}
theorem Un.any (u:Un fs ex H H1 h h1) {b:Addr}{ob:Obj} (q:h.get? b=some ob) (n:H b=none) (hx:b∉ex):∃ sl,h1.get? b=some { ob with slots:=sl }:=by
 by_cases hb:b∈fs
 ·exact u.slot b ob q n hb hx
 ·exact⟨ob.slots,u.keep b ob q n hb hx⟩
theorem Un.kept (k:∀ b u,h.get? b=some u→h'.get? b=some u):Un fs ex H H h h' :=
 ⟨fun b ob q _ _ _=>k b ob q,fun b ob q _ _ _=>⟨ob.slots,k b ob q⟩,fun _ _ _ n _=>n,fun b ob q _=>⟨ob,k b ob q⟩,fun _ _ q=>q,fun _ _ _ q=>q,fun _ ps q=>⟨#[],by rw[q];simp⟩⟩
theorem Un.refl:Un fs ex H H h h:=Un.kept fun _ _ q=>q
theorem Un.laid (k:∀ b u,h.get? b=some u→h'.get? b=some u) (hp:h.objs.size≤a) (hn:H a=none):Un fs ex H (upd H a o) h h' where
 keep:=fun b u q _ _ _=>k b u q
 slot:=fun b u q _ _ _=>⟨u.slots,k b u q⟩
 free:=fun b u q n _=>by rw[aH (Nat.ne_of_lt (Nat.lt_of_lt_of_le (Heap.lt_size q) hp))];exact n
 there:=fun b u q _=>⟨u,k b u q⟩
 tups:=fun b xs q=>by rw[aH (aO q hn)];exact q
 lN:=fun b u xs q=>by rw[aH (aO q hn)];exact q
 mT:=fun b ps q=>⟨#[],by rw[aH (aO q hn),q];simp⟩
theorem Un.write (mu:HP (H x)) (he:e=x∨H e=some (.own x)) (k:∀ b u,b≠e→h.get? b=some u→h'.get? b=some u) (EN:∃ u,h'.get? e=some u):Un fs ex H (upd H x o) h h':=by
 have hx:∀ b,H b=none→b≠x:=fun b n z=>by subst z;rw[n] at mu;exact mu
 have hb:∀ b,H b=none→b≠e:=fun b n z=>by
  subst z
  rcases he with r | r
  ·exact hx b n r
  ·rw[n] at r;cases r
 have hm:∀ b u,H b=some u→¬HP (some u)→b≠x:=fun b u q nm z=>by subst z;rw[q] at mu;exact nm mu
 refine⟨fun b u q n _ _=>k b u (hb b n) q,fun b u q n _ _=>⟨u.slots,k b u (hb b n) q⟩,fun b u q n _=>by rw[aH (hx b n)];exact n,fun b u q _=>?_,
  fun b xs q=>by rw[aH (hm b _ q fun z=>z)];exact q,fun b u xs q=>by rw[aH (hm b _ q fun z=>z)];exact q,fun b ps q=>⟨#[],by rw[aH (hm b _ q fun z=>z),q];simp⟩⟩
 by_cases Dj:b=e
 ·subst Dj;exact EN
 ·exact⟨u,k b u Dj q⟩
end
def HQ (h:Heap) (H:Hp):List Addr:=(List.range h.objs.size).filter fun a=>(H a).isSome
def pR (h:Heap) (H:Hp):Heap:=W.hideAll h (HQ h H)
theorem xG (h:Heap) (H:Hp):(pR h H).objs.size=h.objs.size:=W.hideAll_size _ _
theorem zW {h:Heap}{H:Hp}{b:Addr}{o:Obj} (e:h.get? b=some o) (n:H b=none):(pR h H).get? b=some o :=
 W.hideAll_get _ e fun hm=>by
  have q:(H b).isSome=true:=(List.mem_filter.mp hm).2
  rw[n] at q;simp at q
theorem BO {h:Heap}{H:Hp}{b:Addr}{o:Obj} (e:(pR h H).get? b=some o):h.get? b=some o∧H b=none:=by
 have e':h.get? b=some o:=W.of_hideAll (HQ h H) e
 refine⟨e',?_⟩
 cases q:H b with
 | none=>rfl
 | some x =>
  have hm:b∈HQ h H:=List.mem_filter.mpr ⟨List.mem_range.mpr (Heap.lt_size e'),by simp[q]⟩
  have z:(pR h H).get? b=none:=W.hideAll_none (HQ h H) hm
  rw[z] at e;cases e
def BP (g h:Heap) (L:Addr):List (Addr×Obj):=(List.range h.objs.size).filterMap fun a=>if a=L∨(g.get? a).isSome=true then none else (h.get? a).map fun o=>(a,o)
def rest (g h:Heap) (L d:Addr):List (Addr×Obj):=(BP g h L).filter fun p=>decide (p.1≠d)
structure Mod (K:W.Frag) (mg:Str→Option Value) (base:Heap):Prop where
 kG:K.In base
 glob:base.Ns mainGlobals mg
 blt:∃ mb,base.Ns builtinsNs mb∧∀ x:Str,x ≠ "__name__"→mb x=bootBuiltins x
 nolimit:base.NoLimit
structure Cx where
 prog:Program
 w:World
 K:W.Frag
 mg:Str→Option Value
 base:Heap
 A:Around
 N:List Str
 s₀:Shared
 H₀:Hp
 env:Env
 outer:List Env
 stack:List Env
 ex:List Addr
 fn:Str→Bool
 calm:Bool
 pn:List (Addr×Obj)
 xe:Value→Shared→Prop
def frs (l:List Env):List Addr:=l.filterMap (·.frame)
abbrev Cx.fs (X:Cx):List Addr:=frs X.outer
def Io (sc:Scope) (x:Str):Prop:=sc.names.lookup x=some .local∨sc.names.lookup x=some .cell∨sc.names.lookup x=some .free
def Loc (sc:Scope) (x:Str):Prop:=sc.names.lookup x=some .local∨sc.names.lookup x=some .cell
def Look (env:Env) (h:Heap) (m:Str→Option Value) (x:Str) (u:Value):Prop :=
 (env.kindOf x=some .local∧m x=some u)∨((env.kindOf x=some .cell∨env.kindOf x=some .free)∧∃ c,env.cells.lookup x=some c∧h.IsCell c (some u))
structure Cx.Ok (X:Cx):Prop where
 mod:Mod X.K X.mg X.base
 kind:X.env.scope.kind=.function
 glob:X.env.globals=mainGlobals
 blt:X.env.builtins=builtinsNs
 above:X.s₀.heap.objs.size≤X.env.locals
 inj:∀ x y c,X.env.cells.lookup x=some c→X.env.cells.lookup y=some c→x=y
 has:∀ x,(X.env.kindOf x=some .cell∨X.env.kindOf x=some .free)→∃ c,X.env.cells.lookup x=some c
 Dk:∀ x c,X.fn x=true→X.env.cells.lookup x=some c→X.s₀.heap.objs.size≤c
 hd:X.calm=true→X.A.handled=none
 frames:X.A.frames=some X.stack
 stk:X.stack=X.outer∨(X.stack=X.env :: X.outer∧X.env.frame=some X.env.locals)
 HR:∀ b∈X.ex,b≠X.env.locals∧∀ x c,X.env.cells.lookup x=some c→c≠b
 bs:∀ b o,X.base.get? b=some o→X.s₀.heap.get? b=some o∧X.H₀ b=none
 zL:X.base.objs.size≤X.s₀.heap.objs.size
 tY:∀ b o,X.base.get? b=some o→b∉X.ex
 xH:∀ b∈X.ex,b∉X.fs
 ju:X.s₀.heap.FunFrames X.base X.outer
 BC:∀ b∈X.fs,X.H₀ b=none
structure Inv (X:Cx) (pins:List (Addr×Obj)) (σ:List (Option V)) (H:Hp) (s:Shared):Prop where
 ok:X.Ok
 os:s.os=X.s₀.os
 bare:AllBare s.gens
 base:Un X.fs X.ex X.H₀ H X.s₀.heap s.heap
 loc:∃ m,s.heap.Ns X.env.locals m∧∀(i:Nat) (x:Str) (v:V),X.N[i]? = some x→σ[i]? = some (some v)→Io X.env.scope x→∃ u,RelV v u∧Look X.env s.heap m x u
 cell:∀ x c,X.env.cells.lookup x=some c→∃ v,s.heap.IsCell c v
 free:H X.env.locals=none
 eG:∀ x c,X.env.cells.lookup x=some c→H c=none
 pin:∀ p∈X.pn++pins,s.heap.get? p.1=some p.2∧H p.1=none∧p.1≠X.env.locals∧p.1∉X.fs∧∀ v,p.2.data≠.cell v
 hok:kD X.prog X.w H s.heap
 len:σ.length=X.N.length
section
variable {X:Cx}{pins:List (Addr×Obj)}{σ:List (Option V)}{H H':Hp}{s:Shared}{h':Heap}
theorem Cx.Ok.Ip (ok:X.Ok) {b:Addr}{o:Obj} (e:X.base.get? b=some o):b∉X.fs:=fun hb=>by
 have:=(ok.ju.mem hb).1
 rw[e] at this;cases this
theorem Inv.bs (I:Inv X pins σ H s):∀ b o,X.base.get? b=some o→s.heap.get? b=some o∧H b=none:=fun b o e =>
 ⟨I.base.keep b o (I.ok.bs b o e).1 (I.ok.bs b o e).2 (I.ok.Ip e) (I.ok.tY b o e),I.base.free b o (I.ok.bs b o e).1 (I.ok.bs b o e).2 (I.ok.tY b o e)⟩
theorem Inv.bk (I:Inv X pins σ H s):∀ b o,X.base.get? b=some o→s.heap.get? b=some o:=fun b o e=>(I.bs b o e).1
theorem Inv.mod (I:Inv X pins σ H s):Mod X.K X.mg X.base:=I.ok.mod
theorem Inv.iJ (I:Inv X pins σ H s):X.K.In s.heap:=I.ok.mod.kG.keeps I.bk
theorem Inv.lt (I:Inv X pins σ H s):X.env.locals < s.heap.objs.size:=let ⟨_,hn,_⟩:=I.loc;hn.lt
theorem Inv.sz (I:Inv X pins σ H s):X.s₀.heap.objs.size≤s.heap.objs.size:=Nat.le_trans I.ok.above (Nat.le_of_lt I.lt)
theorem Inv.Iq (I:Inv X pins σ H s) {a:Addr} (h:s.heap.objs.size≤a):a∉X.fs:=fun hb=>by
 obtain⟨_,o,ho,_⟩:=I.ok.ju.mem hb
 exact absurd (Nat.lt_of_lt_of_le (Heap.lt_size ho) (Nat.le_trans I.sz h)) (Nat.lt_irrefl _)
theorem Inv.BQ (I:Inv X pins σ H s):∀ x c,X.env.cells.lookup x=some c→c≠X.env.locals:=fun x c e z=>by
 obtain⟨v,o,ho,hd⟩:=I.cell x c e
 obtain⟨m,⟨o',es,ep,ho',hd',_⟩,_⟩:=I.loc
 rw[z,ho'] at ho;cases ho;rw[hd'] at hd;cases hd
theorem Inv.ju (I:Inv X pins σ H s):s.heap.FunFrames X.base X.outer:=by
 have all:∀(l:List Env),(∀ b∈frs l,b∈X.fs)→X.s₀.heap.FunFrames X.base l→s.heap.FunFrames X.base l:=by
  intro l
  induction l with
  | nil=>intro _ _;trivial
  | cons env r ih =>
   intro hs hl
   obtain⟨hk,⟨L,o,hf,hn,ho,hd⟩,hr⟩:=hl
   have hL:L∈X.fs:=hs L (by unfold frs;rw[List.filterMap_cons,hf];exact List.mem_cons_self)
   obtain⟨sl,e⟩:=I.base.slot L o ho (I.ok.BC L hL) hL fun z=>I.ok.xH L z hL
   exact⟨hk,⟨L,_,hf,hn,e,hd⟩,ih (fun b hb=>hs b (by unfold frs;rw[List.filterMap_cons,hf];exact List.mem_cons_of_mem _ hb)) hr⟩
 exact all X.outer (fun _ hb=>hb) I.ok.ju
theorem Inv.stack (I:Inv X pins σ H s):s.heap.FunFrames X.base X.stack:=by
 rcases I.ok.stk with e | ⟨e,hf⟩
 ·rw[e];exact I.ju
 ·rw[e]
  obtain⟨m,hn,_⟩:=I.loc
  refine .cons (by rw[I.ok.kind];decide) hf hn ?_ I.ju
  exact Heap.get?_none_of_le (Nat.le_trans I.ok.zL I.ok.above)
theorem Inv.kH (I:Inv X pins σ H s):∀ b∈frs X.stack,b∈X.env.locals :: X.fs:=fun b hb=>by
 rcases I.ok.stk with e | ⟨e,hf⟩
 ·rw[e] at hb;exact List.mem_cons_of_mem _ hb
 ·rw[e] at hb
  unfold frs at hb
  rw[List.filterMap_cons,hf] at hb
  exact hb
theorem Inv.pS (I:Inv X pins σ H s):∀ b∈frs X.stack,H b=none:=fun b hb=>by
 rcases List.mem_cons.mp (I.kH b hb) with e | hb
 ·rw[e];exact I.free
 ·obtain⟨_,o,ho,_⟩:=I.ok.ju.mem hb
  exact I.base.free b o ho (I.ok.BC b hb) fun z=>I.ok.xH b z hb
theorem Inv.step {g':Array GenState}{t':Nat}{d':Drawn}{ch:List Addr} (I:Inv X pins σ H s)
  (hch:∀ b∈ch,(b∈X.ex∨X.s₀.heap.objs.size≤b)∧b≠X.env.locals∧(∀ x c,X.env.cells.lookup x=some c→c≠b)∧∀ p∈X.pn++pins,p.1≠b)
  (keep:∀ b o,b≠X.env.locals→b∉X.fs→b∉ch→s.heap.get? b=some o→H b=none→h'.get? b=some o)
  (slot:∀ b o,b≠X.env.locals→b∈X.fs→b∉ch→s.heap.get? b=some o→H b=none→∃ sl,h'.get? b=some { o with slots:=sl }) (free:∀ b o,b∉ch→s.heap.get? b=some o→H b=none→H' b=none)
  (there:∀ b o,b∉ch→s.heap.get? b=some o→∃ o',h'.get? b=some o')
  (tups:∀ b xs,H b=some (.tup xs)→H' b=some (.tup xs)) (lN:∀ b o u,H b=some (.rG o u)→H' b=some (.rG o u)) (mT:∀ b ps,H b=some (.CT ps)→∃ more,H' b=some (.CT (ps++more)))
  (ns:∀ m,s.heap.Ns X.env.locals m→h'.Ns X.env.locals m) (hok:kD X.prog X.w H' h') (hg:AllBare g') :
  Inv X pins σ H' { s with heap:=h',gens:=g',drawn:=d',toks:=t' }:=by
 have HS:∀ b o,X.s₀.heap.get? b=some o→b≠X.env.locals:=fun b o e=>Nat.ne_of_lt (Nat.lt_of_lt_of_le (Heap.lt_size e) I.ok.above)
 have HU:∀ b o,X.s₀.heap.get? b=some o→b∉X.ex→b∉ch:=fun b o e hx hb=>by
  rcases(hch b hb).1 with z | z
  ·exact hx z
  ·exact absurd (Nat.lt_of_lt_of_le (Heap.lt_size e) z) (Nat.lt_irrefl _)
 have cellK:∀ x c,X.env.cells.lookup x=some c→∀ v,s.heap.IsCell c v→h'.IsCell c v:=fun x c e v ⟨o,ho,hd⟩=>by
  have BD:c∉ch:=fun z=>(hch c z).2.2.1 x c e rfl
  by_cases hc:c∈X.fs
  ·obtain⟨sl,q⟩:=slot c o (I.BQ x c e) hc BD ho (I.eG x c e)
   exact⟨_,q,hd⟩
  ·exact⟨o,keep c o (I.BQ x c e) hc BD ho (I.eG x c e),hd⟩
 refine⟨I.ok,I.os,hg,⟨fun b o e n hb hx=>?_,fun b o e n hb hx=>?_,fun b o e n hx=>?_,fun b o e hx=>?_,fun b xs e=>tups b xs (I.base.tups b xs e),fun b o xs e=>lN b o xs (I.base.lN b o xs e),fun b ps e=>?_⟩,?_,fun x c e=>?_,?_,fun x c e=>?_,fun p hp=>?_,hok,I.len⟩
 ·exact keep b o (HS b o e) hb (HU b o e hx) (I.base.keep b o e n hb hx) (I.base.free b o e n hx)
 ·obtain⟨sl,e1⟩:=I.base.slot b o e n hb hx
  obtain⟨Ms,e2⟩:=slot b _ (HS b o e) hb (HU b o e hx) e1 (I.base.free b o e n hx)
  exact⟨Ms,e2⟩
 ·obtain⟨o',e1⟩:=I.base.there b o e hx
  exact free b o' (HU b o e hx) e1 (I.base.free b o e n hx)
 ·obtain⟨o',e1⟩:=I.base.there b o e hx
  exact there b o' (HU b o e hx) e1
 ·obtain⟨m1,e1⟩:=I.base.mT b ps e
  obtain⟨m2,e2⟩:=mT b _ e1
  exact⟨m1++m2,by rw[e2,Array.append_assoc]⟩
 ·obtain⟨m,hn,hl⟩:=I.loc
  refine⟨m,ns m hn,fun i x v e1 e2 e3=>?_⟩
  obtain⟨u,r,l⟩:=hl i x v e1 e2 e3
  refine⟨u,r,?_⟩
  rcases l with l | ⟨k,c,e,z⟩
  ·exact .inl l
  ·exact .inr ⟨k,c,e,cellK x c e _ z⟩
 ·obtain⟨v,z⟩:=I.cell x c e
  exact⟨v,cellK x c e v z⟩
 ·obtain⟨m,⟨o,_,_,ho,_⟩,_⟩:=I.loc
  exact free _ o (fun z=>(hch _ z).2.1 rfl) ho I.free
 ·obtain⟨v,o,ho,hd⟩:=I.cell x c e
  exact free c o (fun z=>(hch c z).2.2.1 x c e rfl) ho (I.eG x c e)
 ·obtain⟨e,n,ne,nf,d⟩:=I.pin p hp
  have BD:p.1∉ch:=fun z=>(hch p.1 z).2.2.2 p hp rfl
  exact⟨keep p.1 p.2 ne nf BD e n,free p.1 p.2 BD e n,ne,nf,d⟩
theorem Inv.un {t':Nat} (I:Inv X pins σ H s) (u:Un X.fs [] H H' s.heap h') (hok:kD X.prog X.w H' h'):Inv X pins σ H' { s with heap:=h',toks:=t' }:=by
 obtain⟨m,⟨o,es,ep,ho,r⟩,_⟩:=id I.loc
 obtain⟨sl,hL⟩:=u.any ho I.free (by simp)
 exact I.step (g':=s.gens) (d':=s.drawn) (ch:=[]) (fun _ z=>nomatch z) (fun b o _ hb _ e n=>u.keep b o e n hb (by simp)) (fun b o _ hb _ e n=>u.slot b o e n hb (by simp)) (fun b o _ e n=>u.free b o e n (by simp)) (fun b o _ e=>u.there b o e (by simp)) u.tups u.lN u.mT (fun m' hm=>by
  obtain⟨o',es',Ir,ho',r'⟩:=hm
  rw[ho] at ho';cases ho'
  exact⟨_,es',Ir,hL,r'⟩) hok I.bare
theorem Inv.call {g':Array GenState}{t':Nat}{d':Drawn}{ch:List Addr} (I:Inv X pins σ H s) (u:Un (frs X.stack) ch H H' s.heap h') (hok:kD X.prog X.w H' h') (hg:AllBare g')
  (hch:∀ b∈ch,(b∈X.ex∨X.s₀.heap.objs.size≤b)∧b≠X.env.locals∧(∀ x c,X.env.cells.lookup x=some c→c≠b)∧∀ p∈X.pn++pins,p.1≠b) :
  Inv X pins σ H' { s with heap:=h',gens:=g',drawn:=d',toks:=t' }:=by
 obtain⟨m,⟨o,es,ep,ho,r⟩,_⟩:=id I.loc
 obtain⟨sl,hL⟩:=u.any ho I.free fun z=>(hch _ z).2.1 rfl
 exact I.step (ch:=ch) hch (fun b o hL hb hc e n=>u.keep b o e n (fun z=>(List.mem_cons.mp (I.kH b z)).elim hL hb) hc) (fun b o _ _ hc e n=>u.any e n hc) (fun b o hc e n=>u.free b o e n hc) (fun b o hc e=>u.there b o e hc) u.tups u.lN u.mT (fun m' hm=>by
  obtain⟨o',es',Ir,ho',r'⟩:=hm
  rw[ho] at ho';cases ho'
  exact⟨_,es',Ir,hL,r'⟩) hok hg
theorem Inv.turned {t':Nat}{it:Addr} (I:Inv X pins σ H s) (k:∀ b o,b≠it→s.heap.get? b=some o→h'.get? b=some o) (hn:H it=none) (hL:it≠X.env.locals)
  (h1:it∈X.ex∨X.s₀.heap.objs.size≤it) (h2:∀ x c,X.env.cells.lookup x=some c→c≠it) (h3:∀ p∈X.pn++pins,p.1≠it):Inv X pins σ H { s with heap:=h',toks:=t' }:=by
 have KS:∀ b u,H b=some u→b≠it:=fun b u e z=>by rw[z,hn] at e;cases e
 refine I.step (g':=s.gens) (d':=s.drawn) (ch:=[it]) (fun b hb=>?_) (fun b o _ _ hc e _=>k b o (fun z=>hc (by simp[z])) e) (fun b o _ _ hc e _=>⟨o.slots,k b o (fun z=>hc (by simp[z])) e⟩) (fun _ _ _ _ n=>n)
  (fun b o hc e=>⟨o,k b o (fun z=>hc (by simp[z])) e⟩) (fun _ _ e=>e) (fun _ _ _ e=>e) (fun b ps e=>⟨#[],by rw[e];simp⟩) (fun m hm=>?_) (fun b u e=>?_) I.bare
 ·have e:b=it:=by simpa using hb
  subst e
  exact⟨h1,hL,h2,h3⟩
 ·obtain⟨o,es,ep,ho,r⟩:=hm
  exact⟨o,es,ep,k _ o (Ne.symm hL) ho,r⟩
 ·refine(I.hok b u e).stay (fun c v hc q=>k c v ?_ q) (fun _ q=>q) fun _ _ q=>q
  rcases hc with z | z
  ·rw[z];exact KS b u e
  ·exact KS c _ z
theorem Inv.tok (I:Inv X pins σ H s) (t:Nat):Inv X pins σ H { s with toks:=t }:=I.un (h':=s.heap) (t':=t) Un.refl I.hok
theorem Inv.kept {t':Nat} (I:Inv X pins σ H s) (k:∀ b u,s.heap.get? b=some u→h'.get? b=some u):Inv X pins σ H { s with heap:=h',toks:=t' }:=I.un (Un.kept k) (I.hok.kept k)
theorem Inv.laid {a:Addr}{o:HO}{t':Nat} (I:Inv X pins σ H s) (k:∀ b u,s.heap.get? b=some u→h'.get? b=some u) (hp:s.heap.objs.size≤a) (new:bG X.prog X.w (upd H a o) h' a o) :
 Inv X pins σ (upd H a o) { s with heap:=h',toks:=t' }:=I.un (Un.laid k hp (I.hok.fresh hp)) (I.hok.laid k hp new)
theorem Inv.write {x e:Addr}{o:HO}{t':Nat} (I:Inv X pins σ H s) (mu:HP (H x)) (he:e=x∨H e=some (.own x)) (k:∀ b u,b≠e→s.heap.get? b=some u→h'.get? b=some u) (EN:∃ u,h'.get? e=some u)
 (new:bG X.prog X.w (upd H x o) h' x o):Inv X pins σ (upd H x o) { s with heap:=h',toks:=t' }:=I.un (Un.write mu he k EN) (I.hok.write mu he k EN new)
theorem Inv.wO {CU:List (Addr×Obj)} (I:Inv X pins σ H s) (h:∀ p∈CU,s.heap.get? p.1=some p.2∧H p.1=none∧p.1≠X.env.locals∧p.1∉X.fs∧∀ v,p.2.data≠.cell v):Inv X CU σ H s :=
 ⟨I.ok,I.os,I.bare,I.base,I.loc,I.cell,I.free,I.eG,fun p hp=>(List.mem_append.mp hp).elim (fun z=>I.pin p (List.mem_append_left _ z)) (h p),I.hok,I.len⟩
theorem mU {N:List Str} (hN:N.Nodup) {i j:Nat}{x:Str} (a:N[i]? = some x) (b:N[j]? = some x):i=j:=by
 obtain⟨h1,e1⟩:=List.getElem?_eq_some_iff.mp a
 obtain⟨h2,e2⟩:=List.getElem?_eq_some_iff.mp b
 exact(List.getElem_inj hN).mp (e1.trans e2.symm)
theorem xJ {M:Model}{A:Around}{E:Value→Shared→Prop}{i:Nat}{x:Str}{v:V}{u:Value}{Q:Unit→Shared→Prop} (I:Inv X pins σ H s) (hN:X.N.Nodup) (hi:X.N[i]? = some x) (hx:Loc X.env.scope x) (r:RelV v u)
  (h:∀ s',Inv X pins (σ.set i (some v)) H s'→(∃ a,Heap.SameBut a s.heap s'.heap∧(a=X.env.locals∨X.env.cells.lookup x=some a))→Q () s') (hf:X.fn x=true∨X.env.scope.names.lookup x=some .local:=by first | exact .inl rfl | exact .inr rfl | assumption):wpAny M A (storeName X.env x u) Q E s:=by
 obtain⟨m,hn,hl⟩:=id I.loc
 have hcls:(X.env.scope.kind == .class || (X.env.scope.kind == .module && X.env.locals != X.env.globals))=false:=by rw[I.ok.kind];rfl
 have E2:i < σ.length:=by rw[I.len];exact(List.getElem?_eq_some_iff.mp hi).1
 have BQ:=I.BQ
 have tracked:∀{a:Addr}{h':Heap},(∃ o,s.heap.get? a=some o∧H a=none)→Heap.SameBut a s.heap h'→kD X.prog X.w H h':=fun {a h'} ha hs b ob e=>by
  obtain⟨_,_,hfree⟩:=ha
  refine(I.hok b ob e).stay (fun c w' hc q=>(hs.2 c ?_).trans q) (fun _ q=>q) fun _ _ q=>q
  rintro rfl
  rcases hc with rfl | hc
  ·rw[hfree] at e;cases e
  ·rw[hfree] at hc;cases hc
 rcases hx with hk | hk
 ·refine wpAny_storeName_local hk hn (fun h' hn' hs=>?_) hcls
  obtain⟨oL,_,_,Mt,_⟩:=id hn
  refine h _ ⟨I.ok,I.os,I.bare,⟨fun b o e n hb hx=>?_,fun b o e n hb hx=>?_,I.base.free,fun b o e hx=>?_,I.base.tups,I.base.lN,I.base.mT⟩,⟨_,hn',fun j y v' e1 e2 e3=>?_⟩,fun y c e=>?_,I.free,I.eG,fun p hp=>?_,tracked ⟨oL,Mt,I.free⟩ hs,by simpa using I.len⟩ ⟨_,hs,.inl rfl⟩
  ·exact(hs.2 b (Nat.ne_of_lt (Nat.lt_of_lt_of_le (Heap.lt_size e) I.ok.above))).trans (I.base.keep b o e n hb hx)
  ·obtain⟨sl,e1⟩:=I.base.slot b o e n hb hx
   exact⟨sl,(hs.2 b (Nat.ne_of_lt (Nat.lt_of_lt_of_le (Heap.lt_size e) I.ok.above))).trans e1⟩
  ·obtain⟨o',e1⟩:=I.base.there b o e hx
   exact⟨o',(hs.2 b (Nat.ne_of_lt (Nat.lt_of_lt_of_le (Heap.lt_size e) I.ok.above))).trans e1⟩
  ·by_cases hj:j=i
   ·subst hj
    rw[hi] at e1;cases e1
    rw[List.getElem?_set_self E2] at e2
    cases e2
    exact⟨u,r,.inl ⟨hk,by simp⟩⟩
   ·rw[List.getElem?_set_ne (Ne.symm hj)] at e2
    obtain⟨u',r',q⟩:=hl j y v' e1 e2 e3
    refine⟨u',r',?_⟩
    rcases q with ⟨k,e⟩ | ⟨k,c,e,z⟩
    ·refine .inl ⟨k,?_⟩
     have:y≠x:=fun e=>hj (mU hN e1 (e ▸ hi))
     simp[this,e]
    ·exact .inr ⟨k,c,e,z.sameBut hs (BQ y c e)⟩
  ·obtain⟨w',z⟩:=I.cell y c e
   exact⟨w',z.sameBut hs (BQ y c e)⟩
  ·obtain⟨e,n,ne,nf,d⟩:=I.pin p hp
   exact⟨(hs.2 p.1 ne).trans e,n,ne,nf,d⟩
 ·have hfn:X.fn x=true:=by
   rcases hf with z | z
   ·exact z
   ·rw[z] at hk;cases hk
  obtain⟨c,hc⟩:=I.ok.has x (.inl hk)
  obtain⟨w',z⟩:=I.cell x c hc
  refine wpAny_storeName_cell I.ok.kind hk hc z (fun h' hc' hs=>?_)
  obtain⟨oc,hoc,Iu⟩:=id z
  refine h { s with heap:=h' } ⟨I.ok,I.os,I.bare,⟨fun b o e n hb hx=>?_,fun b o e n hb hx=>?_,I.base.free,fun b o e hx=>?_,I.base.tups,I.base.lN,I.base.mT⟩,⟨m,hn.sameBut hs (Ne.symm (BQ x c hc)),fun j y v' e1 e2 e3=>?_⟩,fun y c' e=>?_,I.free,I.eG,fun p hp=>?_,tracked ⟨oc,hoc,I.eG x c hc⟩ hs,by simpa using I.len⟩ ⟨c,hs,.inr hc⟩
  ·exact(hs.2 b (Nat.ne_of_lt (Nat.lt_of_lt_of_le (Heap.lt_size e) (I.ok.Dk x c hfn hc)))).trans (I.base.keep b o e n hb hx)
  ·obtain⟨sl,e1⟩:=I.base.slot b o e n hb hx
   exact⟨sl,(hs.2 b (Nat.ne_of_lt (Nat.lt_of_lt_of_le (Heap.lt_size e) (I.ok.Dk x c hfn hc)))).trans e1⟩
  ·obtain⟨o',e1⟩:=I.base.there b o e hx
   exact⟨o',(hs.2 b (Nat.ne_of_lt (Nat.lt_of_lt_of_le (Heap.lt_size e) (I.ok.Dk x c hfn hc)))).trans e1⟩
  ·by_cases hj:j=i
   ·subst hj
    rw[hi] at e1;cases e1
    rw[List.getElem?_set_self E2] at e2
    cases e2
    exact⟨u,r,.inr ⟨.inl hk,c,hc,hc'⟩⟩
   ·rw[List.getElem?_set_ne (Ne.symm hj)] at e2
    obtain⟨u',r',q⟩:=hl j y v' e1 e2 e3
    refine⟨u',r',?_⟩
    rcases q with q | ⟨k,c',e,z'⟩
    ·exact .inl q
    ·refine .inr ⟨k,c',e,z'.sameBut hs ?_⟩
     rintro rfl
     exact hj (mU hN e1 (I.ok.inj _ _ _ e hc ▸ hi))
  ·by_cases hcc:c'=c
   ·subst hcc;exact⟨_,hc'⟩
   ·obtain⟨w2,z2⟩:=I.cell y c' e
    exact⟨w2,z2.sameBut hs hcc⟩
  ·obtain⟨e,n,ne,nf,d⟩:=I.pin p hp
   refine⟨(hs.2 p.1 ?_).trans e,n,ne,nf,d⟩
   intro q
   rw[q,hoc] at e
   have q':oc=p.2:=Option.some.inj e
   exact d w' (by rw[←q'];exact Iu)
theorem mV {M:Model}{A:Around}{E:Value→Shared→Prop}{i:Nat}{x:Str}{v:V}{u:Value}{Q:Unit→Shared→Prop} (I:Inv X pins σ H s) (hN:X.N.Nodup) (hi:X.N[i]? = some x) (hx:Loc X.env.scope x) (r:RelV v u)
  (h:∀ s',Inv X pins (σ.set i (some v)) H s'→Q () s') (hf:X.fn x=true∨X.env.scope.names.lookup x=some .local:=by first | exact .inl rfl | exact .inr rfl | assumption):wpAny M A (storeName X.env x u) Q E s :=
 xJ I hN hi hx r (fun s' I' _=>h s' I') hf
theorem Inv.wQ {s':Shared}{ch:List Addr} (I:Inv X pins σ H s) (ho:s'.os=s.os) (u:Un (frs X.stack) ch H H' s.heap s'.heap) (hok:kD X.prog X.w H' s'.heap) (hg:AllBare s'.gens)
  (hch:∀ b∈ch,(b∈X.ex∨X.s₀.heap.objs.size≤b)∧b≠X.env.locals∧(∀ x c,X.env.cells.lookup x=some c→c≠b)∧∀ p∈X.pn++pins,p.1≠b):Inv X pins σ H' s':=by
 obtain⟨h',g',d',t',o'⟩:=s'
 have e:o'=s.os:=ho
 subst e
 exact I.call (g':=g') (t':=t') (d':=d') u hok hg hch
end
abbrev XK:=Value→Option Addr→Hp→Prop
abbrev St:=List (Option V)
abbrev VK:=V→Hp→Prop
abbrev TE:=St→Hp→VK→Prop
abbrev TT:=St→Hp→(Bool→Hp→Prop)→Prop
abbrev TA:=St→Hp→(List V→Hp→Prop)→Prop
structure Ends where
 nx:St→Hp→Prop
 rt:VK
 bk:St→Hp→Prop:=fun _ _=>False
 ct:St→Hp→Prop:=fun _ _=>False
abbrev TS:=Ends→St→Hp→Prop
def EP (X:Cx) (pins:List (Addr×Obj)) (σ:St) (Q:VK) (u:Value) (s':Shared):Prop:=∃ v H',Inv X pins σ H' s'∧RelV v u∧Q v H'
def TP (X:Cx) (pins:List (Addr×Obj)) (σ:St) (Q:Bool→Hp→Prop) (b:Bool) (s':Shared):Prop:=∃ H',Inv X pins σ H' s'∧Q b H'
def AP (X:Cx) (pins:List (Addr×Obj)) (σ:St) (Q:List V→Hp→Prop) (us:List Value) (s':Shared):Prop:=∃ vs H',Inv X pins σ H' s'∧Vals vs us∧Q vs H'
def SP (X:Cx) (pins:List (Addr×Obj)) (D:Ends) (f:Flow) (s':Shared):Prop :=
 match f with
 | .next=>∃ σ' H',Inv X pins σ' H' s'∧D.nx σ' H'
 | .brk=>∃ σ' H',Inv X pins σ' H' s'∧D.bk σ' H'
 | .cont=>∃ σ' H',Inv X pins σ' H' s'∧D.ct σ' H'
 | .ret u=>∃ v σ' H',Inv X pins σ' H' s'∧RelV v u∧D.rt v H'
def PE (X:Cx) (e:Expr) (t:TE):Prop :=
 ∀(pins:List (Addr×Obj)) (s:Shared) (σ:St) (H:Hp) (Q:VK),Inv X pins σ H s→t σ H Q→wpAny (model X.prog X.w) X.A (eval e X.env) (EP X pins σ Q) X.xe s
def PT (X:Cx) (e:Expr) (t:TT):Prop :=
 ∀(pins:List (Addr×Obj)) (s:Shared) (σ:St) (H:Hp) (Q:Bool→Hp→Prop),Inv X pins σ H s→t σ H Q→wpAny (model X.prog X.w) X.A (isTrue e X.env (eval e X.env)) (TP X pins σ Q) X.xe s
def PW (X:Cx) (e:Expr) (t:TT):Prop :=
 ∀(whole:Sem Value) (pins:List (Addr×Obj)) (s:Shared) (σ:St) (H:Hp) (Q:Bool→Hp→Prop),Inv X pins σ H s→t σ H Q→wpAny (model X.prog X.w) X.A (isTrue e X.env whole) (TP X pins σ Q) X.xe s
theorem PW.pt {X:Cx}{e:Expr}{t:TT} (h:PW X e t):PT X e t:=h _
def PA (X:Cx) (es:List Expr) (t:TA):Prop :=
 ∀(pos:Pos) (pins:List (Addr×Obj)) (s:Shared) (σ:St) (H:Hp) (Q:List V→Hp→Prop),Inv X pins σ H s→t σ H Q→wpAny (model X.prog X.w) X.A (spliced (backTo pos (starEach es X.env))) (AP X pins σ Q) X.xe s
def PS (X:Cx) (st:Stmt) (t:TS):Prop :=
 ∀(pins:List (Addr×Obj)) (s:Shared) (σ:St) (H:Hp) (D:Ends),Inv X pins σ H s→t D σ H→wpAny (model X.prog X.w) X.A (exec st X.env) (SP X pins D) X.xe s
def rM (X:Cx) (st:List Stmt) (t:TS):Prop :=
 ∀(pins:List (Addr×Obj)) (s:Shared) (σ:St) (H:Hp) (D:Ends),Inv X pins σ H s→t D σ H→wpAny (model X.prog X.w) X.A (execs st X.env) (SP X pins D) X.xe s
theorem cg {α:Type}{t:Sem α}{Q Q':α→Shared→Prop}{M:Model}{A:Around}{E:Value→Shared→Prop}{s:Shared} (h:wpAny M A t Q E s) (hQ:∀ a s,Q a s→Q' a s):wpAny M A t Q' E s:=wpAny_mono h hQ fun _ _ x=>x
section
variable {X:Cx}
def BR (i:Nat):TE:=fun σ H Q=>∃ v,σ[i]? = some (some v)∧Q v H
def tC (v:V):TE:=fun _ H Q=>Q v H
theorem Dl {i:Nat}{x:Str}{pos:Pos} (hN:X.N[i]? = some x) (hv:Io X.env.scope x) (hd:(x == ("__debug__" : Str))=false:=by decide) (hcd:(x == ("__classdict__" : Str))=false:=by decide):PE X (.Name x pos) (BR i):=by
 intro pins s σ H Q I h
 obtain⟨v,e,h⟩:=h
 obtain⟨m,hn,hl⟩:=I.loc
 obtain⟨u,r,l⟩:=hl i x v hN e hv
 have fin:EP X pins σ Q u s:=⟨v,H,I,r,h⟩
 rcases l with ⟨hk,hm⟩ | ⟨hk,c,hc,hcell⟩
 ·exact wpAny_Name (wpAny_loadName_local I.ok.kind hk hn hm fin) hd
 ·rcases hk with hk | hk
  ·exact wpAny_Name (wpAny_loadName_cell I.ok.kind hk hc hcell fin) hd
  ·exact wpAny_Name (wpAny_loadName_free I.ok.kind hk hc hcell fin hcd) hd
theorem ah {i j pos}:PE X (.Constant (.int i) j pos) (tC (.int i)):=fun _ _ _ H _ I h=>wpAny_Constant_int ⟨.int i,H,I.tok _,⟨_,rfl⟩,h⟩
theorem jN {b j pos}:PE X (.Constant (.bool b) j pos) (tC (.bl b)):=fun _ _ _ H _ I h=>Constant_bool ⟨.bl b,H,I,rfl,h⟩
theorem Dm {j pos}:PE X (.Constant .none j pos) (tC .non):=fun _ _ _ H _ I h=>Constant_none ⟨.non,H,I,rfl,h⟩
theorem dw {x j pos}:PE X (.Constant (.str x) j pos) (tC (.str x)):=fun _ _ _ H _ I h=>Calls.Constant_str ⟨.str x,H,I.tok _,⟨_,rfl⟩,h⟩
def Gl (X:Cx) (x:Str):Prop:=X.env.kindOf x=some .globalImplicit
theorem gn {E:Value→Shared→Prop}{pins:List (Addr×Obj)}{s:Shared}{σ:St}{H:Hp}{x:Str}{u:Value}{pos:Pos}{Q:Value→Shared→Prop} (I:Inv X pins σ H s) (hg:Gl X x) (hm:X.mg x=some u) (h:Q u s)
  (hd:(x == ("__debug__" : Str))=false:=by decide):wpAny (model X.prog X.w) X.A (eval (.Name x pos) X.env) Q E s :=
 Calls.Name_function_global I.ok.kind hg (Calls.loadGlobal_global (by rw[I.ok.glob];exact I.mod.glob.keeps I.bk) hm h) hd
theorem mW {E:Value→Shared→Prop}{pins:List (Addr×Obj)}{s:Shared}{σ:St}{H:Hp}{x:Str}{u:Value}{pos:Pos}{Q:Value→Shared→Prop} (I:Inv X pins σ H s) (hg:Gl X x) (hm:X.mg x=none) (hv:bootBuiltins x=some u) (h:Q u s)
  (hn:x ≠ "__name__" := by decide) (hd:(x == ("__debug__" : Str))=false:=by decide):wpAny (model X.prog X.w) X.A (eval (.Name x pos) X.env) Q E s:=by
 obtain⟨mb,h1,h2⟩:=I.mod.blt
 exact Calls.Name_function_global I.ok.kind hg (Calls.loadGlobal_builtin (by rw[I.ok.glob];exact I.mod.glob.keeps I.bk) hm (by rw[I.ok.blt];exact h1.keeps I.bk) ((h2 x hn).trans hv) h) hd
theorem BS {x:Str}{v:V}{u:Value}{pos:Pos} (hg:Gl X x) (hm:X.mg x=some u) (r:RelV v u) (hd:(x == ("__debug__" : Str))=false:=by decide):PE X (.Name x pos) (tC v) :=
 fun _ _ _ H _ I h=>gn I hg hm ⟨v,H,I,r,h⟩ hd
theorem BU {x:Str}{v:V}{u:Value}{pos:Pos} (hg:Gl X x) (hm:X.mg x=none) (hv:bootBuiltins x=some u) (r:RelV v u) (hn:x ≠ "__name__" := by decide) (hd:(x == ("__debug__" : Str))=false:=by decide):PE X (.Name x pos) (tC v) :=
 fun _ _ _ H _ I h=>mW I hg hm hv ⟨v,H,I,r,h⟩ hn hd
variable {a b:Expr}{ta tb:TE}{pos:Pos}
def tB (t:TE):TT:=fun σ H Q=>t σ H fun x H1=>∃ c,x=.bl c∧Q c H1
theorem ia {e:Expr}{t:TE} (h:PE X e t) (he:∀ whole,isTrue e X.env whole=(do let v ←whole;standAt e.pos;holding [v] (truthy v)):=by intro _;rfl):PT X e (tB t):=by
 intro pins s σ H Q I hw
 refine isTrue_plain (cg (h pins s σ H _ I hw) fun v s1 ⟨x,H1,I1,r1,q1⟩=>?_) (he _)
 obtain⟨d,rfl,q⟩:=q1
 cases r1
 exact wpAny_truthy_bool ⟨H1,I1,q⟩
variable {tA HV:TT}{rest:List Expr}
def Iv (t u:TT):TT:=fun σ H Q=>t σ H fun c H1=>if c=true then u σ H1 Q else Q false H1
def Mu (t u:TT):TT:=fun σ H Q=>t σ H fun c H1=>if c=true then Q true H1 else u σ H1 Q
def Iw (t:TT):TT:=fun σ H Q=>t σ H fun c H1=>Q (!c) H1
theorem BV (ha:PT X a tA):PW X (.BoolOp .And [a] pos) tA:=by
 intro wh pins s σ H Q I h
 refine isTrue_and (cg (ha pins s σ H Q I h) fun c s1 e=>?_)
 cases c with
 | true=>exact isTrue_and_nil e
 | false=>exact e
theorem pT (ha:PT X a tA):PW X (.BoolOp .Or [a] pos) tA:=by
 intro wh pins s σ H Q I h
 refine isTrue_or (cg (ha pins s σ H Q I h) fun c s1 e=>?_)
 cases c with
 | false=>exact isTrue_or_nil e
 | true=>exact e
theorem Dn (ha:PT X a tA) (hb:PW X (.BoolOp .And (b :: rest) pos) HV):PW X (.BoolOp .And (a :: b :: rest) pos) (Iv tA HV):=by
 intro wh pins s σ H Q I h
 refine isTrue_and (cg (ha pins s σ H _ I h) fun c s1 ⟨H1,I1,q1⟩=>?_)
 cases c with
 | true=>exact hb wh pins s1 σ H1 Q I1 q1
 | false=>exact⟨H1,I1,q1⟩
theorem o9 (ha:PT X a tA) (hb:PW X (.BoolOp .Or (b :: rest) pos) HV):PW X (.BoolOp .Or (a :: b :: rest) pos) (Mu tA HV):=by
 intro wh pins s σ H Q I h
 refine isTrue_or (cg (ha pins s σ H _ I h) fun c s1 ⟨H1,I1,q1⟩=>?_)
 cases c with
 | true=>exact⟨H1,I1,q1⟩
 | false=>exact hb wh pins s1 σ H1 Q I1 q1
theorem jv (ha:PT X a tA):PT X (.UnaryOp .Not a pos) (Iw tA):=by
 intro pins s σ H Q I h
 exact isTrue_not (ha pins s σ H (fun c H1=>Q (!c) H1) I h)
def E3 (ta tb:TE):TE:=fun σ H Q=>ta σ H fun x H1=>∃ c,x=.bl c∧if c=true then tb σ H1 Q else Q (.bl false) H1
theorem tZ {op}{t:TE} (h:PE X a t):PE X (.BoolOp op [a] pos) t:=fun pins s σ H Q I hw=>BoolOp_one (h pins s σ H Q I hw)
theorem mX (ha:PE X a ta) (hb:PE X (.BoolOp .And (b :: rest) pos) tb):PE X (.BoolOp .And (a :: b :: rest) pos) (E3 ta tb):=by
 intro pins s σ H Q I h
 refine BoolOp_and (cg (ha pins s σ H _ I h) fun v s1 ⟨x,H1,I1,r1,q1⟩=>?_)
 obtain⟨c,rfl,q1⟩:=q1
 cases r1
 refine wpAny_truthy_bool ?_
 cases c with
 | true=>exact hb pins s1 σ H1 Q I1 q1
 | false=>exact⟨.bl false,H1,I1,rfl,q1⟩
end
def dz (K:W.Frag) (H:Hp) (a:Addr) (xs:List V):Prop :=
 Rd H a (.lst xs) ∨
  ∃(o:Obj) (its:Array Value) (n:Nat),K.lookup a=some o∧o.cls=.type "list"∧o.dict=none∧o.data=.seq its n∧its.size≤sizeLine∧Vals xs its.toList
def dB (K:W.Frag) (H:Hp) (a:Addr) (xs:List V):Prop :=
 Rd H a (.tup xs) ∨
  ∃(o:Obj) (its:Array Value) (n:Nat),K.lookup a=some o∧o.cls=.type "tuple"∧o.data=.seq its n∧its.size≤sizeLine∧Vals xs its.toList
def Iz:Value→Option V
 | .none=>some .non
 | .bool b=>some (.bl b)
 | .int i _=>some (.int i)
 | .str x _=>some (.str x)
 | .bytes b _=>some (.zK b)
 | .float b _=>some (.BN b)
 | .ref a=>some (.ref a)
 | .type n=>some (.ty n)
 | _=>none
theorem RelV.abs {x:V}{u:Value} (r:RelV x u):Iz u=some x:=by
 cases x with
 | non=>cases r;rfl
 | bl _=>cases r;rfl
 | int _=>obtain⟨t,rfl⟩:=r;rfl
 | str _=>obtain⟨t,rfl⟩:=r;rfl
 | zK _=>obtain⟨t,rfl⟩:=r;rfl
 | BN _=>obtain⟨t,rfl⟩:=r;rfl
 | ref _=>cases r;rfl
 | ty _=>cases r;rfl
theorem RelV.inj {x y:V}{u:Value} (r:RelV x u) (q:RelV y u):x=y:=Option.some.inj (r.abs.symm.trans q.abs)
theorem Vals.inj:∀{xs ys:List V}{us:List Value},Vals xs us→Vals ys us→xs=ys
 | _,_,_,.nil,.nil=>rfl
 | _,_,_,.cons r t,.cons r' t'=>by rw[r.inj r',Vals.inj t t']
section
variable {X:Cx}{pins:List (Addr×Obj)}{σ:St}{H:Hp}{s:Shared}{a:Addr}{xs ys:List V}
theorem dz.of {K:W.Frag} (h:H a=some (.lst xs)):dz K H a xs:=.inl (.inl h)
theorem dB.of {K:W.Frag} (h:H a=some (.tup xs)):dB K H a xs:=.inl (.inl h)
theorem Inv.list (I:Inv X pins σ H s) (h:dz X.K H a xs):∃ its:List Value,Vals xs its∧PlainL s.heap a its.toArray∧xs.length≤sizeLine:=by
 rcases h with h | ⟨o,its,n,hk,hc,hd,hs,hz,r⟩
 ·obtain⟨z,its,n,r,e⟩:=h.ok I.hok
  exact⟨its,r,⟨_,n,e,rfl,rfl,rfl⟩,z⟩
 ·refine⟨its.toList,r,⟨o,n,I.iJ a o hk,hc,hd,by simpa using hs⟩,?_⟩
  have e:=r.length
  simp only[Array.length_toList] at e
  omega
theorem Inv.tuple (I:Inv X pins σ H s) (h:dB X.K H a xs):∃ its:List Value,Vals xs its∧IsTup s.heap a its.toArray∧xs.length≤sizeLine:=by
 rcases h with h | ⟨o,its,n,hk,hc,hs,hz,r⟩
 ·obtain⟨z,its,r,p⟩:=h.ok I.hok
  exact⟨its,r,p,z⟩
 ·refine⟨its.toList,r,⟨o,I.iJ a o hk,hc,n,by simpa using hs⟩,?_⟩
  have e:=r.length
  simp only[Array.length_toList] at e
  omega
theorem Inv.zX (I:Inv X pins σ H s) (h:dz X.K H a xs) (h':dz X.K H a ys):xs=ys:=by
 obtain⟨its,r,⟨o,n,e,_,_,d⟩,_⟩:=I.list h
 obtain⟨its',r',⟨o',n',e',_,_,d'⟩,_⟩:=I.list h'
 rw[e] at e';cases e'
 rw[d] at d'
 injection d' with d1 _
 have:its=its':=by simpa using congrArg Array.toList d1
 subst this
 exact r.inj r'
theorem Inv.xK (I:Inv X pins σ H s) (h:dB X.K H a xs) (h':dB X.K H a ys):xs=ys:=by
 obtain⟨its,r,⟨o,e,_,n,d⟩,_⟩:=I.tuple h
 obtain⟨its',r',⟨o',e',_,n',d'⟩,_⟩:=I.tuple h'
 rw[e] at e';cases e'
 rw[d] at d'
 injection d' with d1 _
 have:its=its':=by simpa using congrArg Array.toList d1
 subst this
 exact r.inj r'
end
abbrev Cx.mY (X:Cx) (E:Value→Shared→Prop):Cx:={ X with xe:=E }
abbrev Cx.E4 (X:Cx):Cx:=X.mY fun _ _=>False
theorem Cx.Ok.mY {X:Cx} (ok:X.Ok) (E:Value→Shared→Prop):(X.mY E).Ok :=
 ⟨ok.mod,ok.kind,ok.glob,ok.blt,ok.above,ok.inj,ok.has,ok.Dk,ok.hd,ok.frames,ok.stk,ok.HR,ok.bs,ok.zL,ok.tY,ok.xH,ok.ju,ok.BC⟩
theorem Cx.Ok.fU {X:Cx}{E:Value→Shared→Prop} (ok:(X.mY E).Ok):X.Ok :=
 ⟨ok.mod,ok.kind,ok.glob,ok.blt,ok.above,ok.inj,ok.has,ok.Dk,ok.hd,ok.frames,ok.stk,ok.HR,ok.bs,ok.zL,ok.tY,ok.xH,ok.ju,ok.BC⟩
section
variable {X:Cx}{pins:List (Addr×Obj)}{σ:St}{H:Hp}{s:Shared}{E:Value→Shared→Prop}
theorem Inv.mY (I:Inv X pins σ H s) (E:Value→Shared→Prop):Inv (X.mY E) pins σ H s:=⟨I.ok.mY E,I.os,I.bare,I.base,I.loc,I.cell,I.free,I.eG,I.pin,I.hok,I.len⟩
theorem Inv.fU (I:Inv (X.mY E) pins σ H s):Inv X pins σ H s:=⟨I.ok.fU,I.os,I.bare,I.base,I.loc,I.cell,I.free,I.eG,I.pin,I.hok,I.len⟩
theorem SP.fU {D:Ends}{f:Flow}{s':Shared} (h:SP (X.mY E) pins D f s'):SP X pins D f s':=by
 cases f with
 | next=>obtain⟨σ',H',I,q⟩:=h;exact⟨σ',H',I.fU,q⟩
 | brk=>obtain⟨σ',H',I,q⟩:=h;exact⟨σ',H',I.fU,q⟩
 | cont=>obtain⟨σ',H',I,q⟩:=h;exact⟨σ',H',I.fU,q⟩
 | ret u=>obtain⟨v,σ',H',I,r,q⟩:=h;exact⟨v,σ',H',I.fU,r,q⟩
theorem rM.E4 {st:List Stmt}{t:TS} (h:rM X.E4 st t):rM X st t:=fun pins s σ H D I hw =>
 wpAny_mono (h pins s σ H D (I.mY _) hw) (fun _ _ q=>q.fU) fun _ _ z=>False.elim z
end
section
variable {X:Cx}{st:Stmt}{rest:List Stmt}{t u:TS}{e:Expr}{te:TE}{pos:Pos}
def E5:TS:=fun D σ H=>D.nx σ H
def E6 (t u:TS):TS:=fun D σ H=>t { D with nx:=u D } σ H
theorem bA:rM X [] E5:=fun _ _ σ H _ I h=>wpAny_execs_nil ⟨σ,H,I,h⟩
theorem ao (h1:PS X st t) (h2:rM X rest u):rM X (st :: rest) (E6 t u):=by
 intro pins s σ H D I h
 refine wpAny_execs_cons (cg (h1 pins s σ H { D with nx:=u D } I h) fun f s1 q=>?_)
 cases f with
 | next =>
  obtain⟨σ',H',I',q⟩:=q
  exact h2 pins s1 σ' H' D I' q
 | ret v=>exact q
 | brk=>exact q
 | cont=>exact q
theorem aE (h1:PS X st t):rM X [st] t:=by
 intro pins s σ H D I h
 refine wpAny_execs_cons (cg (h1 pins s σ H D I h) fun f s1 q=>?_)
 cases f with
 | next=>exact wpAny_execs_nil q
 | ret v=>exact q
 | brk=>exact q
 | cont=>exact q
theorem Inv.quiet {pins:List (Addr×Obj)}{σ:St}{H:Hp}{s:Shared} (I:Inv X pins σ H s):interactive X.env=false:=by simp[interactive,I.ok.kind]
def E7 (te:TE):TS:=fun D σ H=>te σ H fun _ H1=>D.nx σ H1
theorem wR (he:PE X e te) (hs:swapsWith e none pos.line X.env=pure false:=by rfl):PS X (.Expr e pos) (E7 te):=by
 intro pins s σ H D I h
 exact wpAny_Expr_any (cg (he pins s σ H _ I h) fun v s1 ⟨x,H1,I1,r1,q1⟩=>⟨σ,H1,I1,q1⟩) I.quiet hs
def IA (te:TE):TS:=fun D σ H=>te σ H D.rt
theorem aZ (he:PE X e te):PS X (.Return (some e) pos) (IA te):=by
 intro pins s σ H D I h
 exact wpAny_Return_some (cg (he pins s σ H _ I h) fun v s1 ⟨x,H1,I1,r1,q1⟩=>⟨x,σ,H1,I1,r1,q1⟩)
def E8 (c:TT) (t u:TS):TS:=fun D σ H=>c σ H fun b H1=>if b=true then t D σ H1 else u D σ H1
theorem fB {c:Expr}{a b:List Stmt}{tc:TT} (hc:PT X c tc) (ha:rM X a t) (hb:rM X b u):PS X (.If c a b pos) (E8 tc t u):=by
 intro pins s σ H D I h
 refine wpAny_If (cg (hc pins s σ H _ I h) fun d s1 ⟨H1,I1,q1⟩=>?_)
 cases d with
 | true=>exact ha pins s1 σ H1 D I1 q1
 | false=>exact hb pins s1 σ H1 D I1 q1
end
abbrev TG:=V→St→Hp→(St→Hp→Prop)→Prop
abbrev CV:=List V→St→Hp→(St→Hp→Prop)→Prop
def PG (X:Cx) (target:Expr) (t:TG):Prop :=
 ∀(pins:List (Addr×Obj)) (s:Shared) (σ:St) (H:Hp) (v:V) (u:Value) (Q:St→Hp→Prop),Inv X pins σ H s→RelV v u→t v σ H Q →
  wpAny (model X.prog X.w) X.A (assign target X.env u) (fun _ s'=>∃ σ' H',Inv X pins σ' H' s'∧Q σ' H') X.xe s
def E9 (X:Cx) (ts:List Expr) (t:CV):Prop :=
 ∀(pins:List (Addr×Obj)) (s:Shared) (σ:St) (H:Hp) (vs:List V) (us:List Value) (Q:St→Hp→Prop),Inv X pins σ H s→Vals vs us→t vs σ H Q →
  wpAny (model X.prog X.w) X.A (assignInOrder ((assignEach ts X.env).map (·.2)) us) (fun _ s'=>∃ σ' H',Inv X pins σ' H' s'∧Q σ' H') X.xe s
section
variable {X:Cx}{pos:Pos}
def mZ (i:Nat):TG:=fun v σ H Q=>Q (σ.set i (some v)) H
theorem BW {i:Nat}{x:Str} (hN:X.N.Nodup) (hi:X.N[i]? = some x) (hx:Loc X.env.scope x) (hf:X.fn x=true∨X.env.scope.names.lookup x=some .local:=by first | exact .inl rfl | exact .inr rfl | assumption):PG X (.Name x pos) (mZ i):=by
 intro pins s σ H v u Q I r h
 exact wpAny_assign_Name (mV I hN hi hx r (fun s' I'=>⟨_,H,I',h⟩) hf)
def IB:CV:=fun vs σ H Q=>vs=[]∧Q σ H
def Fb (t:TG) (u:CV):CV:=fun vs σ H Q=>∃ v r,vs=v :: r∧t v σ H fun σ' H'=>u r σ' H' Q
theorem pU:E9 X [] IB:=by
 intro pins s σ H vs us Q I r h
 obtain⟨e,h⟩:=h
 subst e
 cases r
 exact assignInOrder_nil ⟨σ,H,I,h⟩
theorem gi {e:Expr}{es:List Expr}{t:TG}{u:CV} (h1:PG X e t) (h2:E9 X es u)
  (hs:(assignEach (e :: es) X.env).map (·.2)=assign e X.env :: (assignEach es X.env).map (·.2):=by rfl):E9 X (e :: es) (Fb t u):=by
 intro pins s σ H vs us Q I r h
 obtain⟨v,vr,e1,h⟩:=h
 subst e1
 cases r with
 | cons r rr =>
  rw[hs]
  refine assignInOrder_cons (cg (h1 pins s σ H _ _ _ I r h) fun _ s1 ⟨σ1,H1,I1,q1⟩=>?_)
  exact h2 pins s1 σ1 H1 _ _ Q I1 rr q1
def Fc (K:W.Frag) (n:Nat) (t:CV):TG:=fun v σ H Q=>∃ a xs,v=.ref a∧dB K H a xs∧xs.length=n∧t xs σ H Q
theorem Dp {es:List Expr}{k:Nat}{t:CV}{n:Nat} (hc:X.calm=true) (h:E9 X es t)
  (hn:(assignEach es X.env).length=n:=by rfl) (hst:(assignEach es X.env).findIdx? (·.1)=none:=by rfl):PG X (.Tuple es k pos) (Fc X.K n t):=by
 intro pins s σ H v u Q I r hw
 obtain⟨a,xs,e1,hq,hl,hw⟩:=hw
 subst e1
 cases r
 obtain⟨its,rv,ht,hz⟩:=I.tuple hq
 refine assign_Tuple_tuple (I.ok.hd hc) ht (by simp[hn,←hl,rv.length]) hst fun h' hx=>?_
 have I1:Inv X pins σ H { s with heap:=h' }:=I.kept (t':=s.toks) fun b o e=>hx b o (Nat.ne_of_lt (Heap.lt_size e)) e
 exact h pins _ σ H xs _ Q I1 (by simpa using rv) hw
def Dq (te:TE) (g:TG):TS:=fun D σ H=>te σ H fun x H1=>g x σ H1 D.nx
theorem t6 {tg e:Expr}{te:TE}{g:TG} (he:PE X e te) (hg:PG X tg g) (hs:swapsWithSole [tg] e pos.line X.env=pure false:=by rfl) (hw:swappedStores [tg] e X.env=pure none:=by rfl)
  (h1:(assignEach [tg] X.env).map (·.2)=[assign tg X.env]:=by rfl):PS X (.Assign [tg] e pos) (Dq te g):=by
 intro pins s σ H D I h
 refine wpAny_Assign_stores (cg (he pins s σ H _ I h) fun v s1 ⟨x,H1,I1,r1,q1⟩=>?_) hs hw
 rw[h1]
 exact cg (hg pins s1 σ H1 x v _ I1 r1 q1) fun _ s2 q=>q
theorem t7 {i:Nat}{x:Str}{e:Expr}{te:TE}{pos':Pos} (hN:X.N.Nodup) (hi:X.N[i]? = some x) (hx:Loc X.env.scope x) (he:PE X e te) (hs:swapsWith e (some (.Name x pos')) pos.line X.env=pure false:=by rfl) (hf:X.fn x=true∨X.env.scope.names.lookup x=some .local:=by first | exact .inl rfl | exact .inr rfl | assumption) :
  PS X (.Assign [.Name x pos'] e pos) (Dq te (mZ i)):=by
 intro pins s σ H D I h
 refine wpAny_Assign_Name (cg (he pins s σ H _ I h) fun v s1 ⟨y,H1,I1,r1,q1⟩=>?_) hs
 exact mV I1 hN hi hx r1 (fun s2 I2=>⟨_,H1,I2,q1⟩) hf
end
section
variable {X:Cx}{pos:Pos}
end
structure It where
 go:Nat→Hp→Prop
 Dr:Nat→Hp→V→Hp→Prop
 stop:Nat→Hp→Prop
def g5 (X:Cx) (pins:List (Addr×Obj)) (H:Hp) (b:Addr):Prop :=
 H b=none∧b≠X.env.locals∧b∉X.fs∧(b∈X.ex∨X.s₀.heap.objs.size≤b)∧(∀ x c,X.env.cells.lookup x=some c→c≠b)∧∀ p∈X.pn++pins,p.1≠b
theorem Inv.rN {X:Cx}{pins:List (Addr×Obj)}{σ:St}{H H':Hp}{s:Shared}{b:Addr} (I:Inv X pins σ H s) (hb:s.heap.objs.size≤b) (hn:H' b=none):g5 X pins H' b:=by
 refine⟨hn,Nat.ne_of_gt (Nat.lt_of_lt_of_le I.lt hb),I.Iq hb,.inr (Nat.le_trans I.sz hb),fun x c e z=>?_,fun p hp z=>?_⟩
 ·obtain⟨v,q⟩:=I.cell x c e
  exact absurd (Nat.lt_of_lt_of_le q.lt (by rw[z];exact hb)) (Nat.lt_irrefl _)
 ·exact absurd (Nat.lt_of_lt_of_le (Heap.lt_size (I.pin p hp).1) (by rw[z];exact hb)) (Nat.lt_irrefl _)
structure Turn (P:Program) (w:World) (K:W.Frag) (tg:Expr) (J:It) (fp:List Addr) (it:Addr) (tn:Nat→Heap→Prop):Prop where
 mem:it∈fp
 obj:∀ i h,tn i h→∀ b∈fp,∃ o,h.get? b=some o∧∀ v,o.data≠.cell v
 keep:∀ i h h',tn i h→(∀ b∈fp,∀ o,h.get? b=some o→h'.get? b=some o)→tn i h'
 item:∀(X:Cx),X.prog=P→X.w=w→X.K=K→X.calm=true→∀(i:Nat) (pins:List (Addr×Obj)) (s:Shared) (σ:St) (H:Hp) (E:Value→Shared→Prop),Inv X pins σ H s→(∀ b∈fp,g5 X pins H b)→tn i s.heap→J.go i H →
  wpAny (model P w) X.A (pyNext (.ref it)) (fun r s1=>∃ u,r=some u ∧
   wpAny (model P w) X.A (letOwnedTupleGo tg (.ref it) u) (fun _ s2=>∃ x H',Inv X pins σ H' s2∧RelV x u∧J.Dr i H x H'∧tn (i+1) s2.heap∧∀ b∈fp,H' b=none) E s1) E s
 done:∀(X:Cx),X.prog=P→X.w=w→X.K=K→X.calm=true→∀(i:Nat) (pins:List (Addr×Obj)) (s:Shared) (σ:St) (H:Hp) (E:Value→Shared→Prop),Inv X pins σ H s→(∀ b∈fp,g5 X pins H b)→tn i s.heap→J.stop i H →
  wpAny (model P w) X.A (pyNext (.ref it)) (fun r s1=>r=none∧Inv X pins σ H s1) E s
 self:∀(A:Around) (i:Nat) (s:Shared) (Q:Value→Shared→Prop) (E:Value→Shared→Prop),tn i s.heap→Q (.ref it) s→wpAny (model P w) A (pyIter (.ref it)) Q E s
abbrev TI:=St→Hp→(It→Hp→Prop)→Prop
def KU (X:Cx) (pins:List (Addr×Obj)) (σ:St) (tg:Expr) (R:It→Hp→Prop) (itv:Value) (s2:Shared):Prop :=
 ∃(it:Addr) (fp:List Addr) (tn:Nat→Heap→Prop) (J:It) (H':Hp),itv=.ref it∧Inv X pins σ H' s2∧Turn X.prog X.w X.K tg J fp it tn∧tn 0 s2.heap∧(∀ b∈fp,g5 X pins H' b)∧R J H'
def PI (X:Cx) (tg iter:Expr) (wi:TI):Prop :=
 ∀(pins:List (Addr×Obj)) (s:Shared) (σ:St) (H:Hp) (R:It→Hp→Prop),Inv X pins σ H s→wi σ H R →
  wpAny (model X.prog X.w) X.A (eval iter X.env) (fun v s1=>wpAny (model X.prog X.w) X.A (pyIter v) (KU X pins σ tg R) X.xe s1) X.xe s
theorem pe {M:Model}{A:Around}{E:Value→Shared→Prop}{s:Shared}{tg:Expr}{it:Addr}{u:Value}{o:Obj}{n:String}{vs:Array Value}{Q:Unit→Shared→Prop} (ho:s.heap.get? it=some o) (hc:o.cls=.type n) (hd:o.data=.fields vs)
   (hn:["enumerate", "zip", "dict_itemiterator", "dict_reverseitemiterator", "odict_iterator", "itertools.zip_longest", "itertools.pairwise"].contains n=false) (hQ:Q () s):wpAny M A (letOwnedTupleGo tg (.ref it) u) Q E s:=by
 unfold letOwnedTupleGo
 cases tg <;> first
   | exact wpAny_pure hQ
   | (cases u <;> first
       | exact wpAny_pure hQ
       | (refine wpAny_bind (wpAny_load ho ?_)
          rw[hc,hd]
          show wpAny M A (if (["enumerate", "zip", "dict_itemiterator", "dict_reverseitemiterator", "odict_iterator", "itertools.zip_longest", "itertools.pairwise"].contains n && vs[0]? == some (rawInt _))=true then _ else _) Q E s
          rw[if_neg (by intro h;rw[hn,Bool.false_and] at h;cases h)]
          exact wpAny_pure hQ))
def Fd (K:W.Frag) (a:Addr):It :=
 ⟨fun i H=>∃ xs x,dz K H a xs∧xs[i]? = some x,fun i H x H'=>H'=H∧∀ xs,dz K H a xs→xs[i]? = some x,fun i H=>∃ xs,dz K H a xs∧xs.length≤i⟩
def Fe (K:W.Frag) (a:Addr):It :=
 ⟨fun i H=>∃ xs x,dB K H a xs∧xs[i]? = some x,fun i H x H'=>H'=H∧∀ xs,dB K H a xs→xs[i]? = some x,fun i H=>∃ xs,dB K H a xs∧xs.length≤i⟩
def CW (lo:Int) (n:Nat):It:=⟨fun i _=>i < n,fun i H x H'=>H'=H∧x=.int (lo+i),fun i _=>n≤i⟩
theorem xM {P:Program}{w:World}{K:W.Frag}{tg:Expr} (a it:Addr):Turn P w K tg (Fd K a) [it] it (fun i h=>h.IsListIter it a i) where
 mem:=by simp
 obj:=fun i h st b hb=>by
  have e:b=it:=by simpa using hb
  subst e
  obtain⟨o,e,c,d⟩:=st
  exact⟨o,e,fun v z=>by rw[d] at z;cases z⟩
 keep:=fun i h h' st k=>st.at fun o e=>k it (by simp) o e
 item:=by
  intro X hP hw hK hc i pins s σ H E I hf st hg
  subst hP hw hK
  obtain⟨xs,x,hq,hx⟩:=hg
  obtain⟨its,rv,p,hz⟩:=I.list hq
  obtain⟨u,hu,ru⟩:=rv.get hx
  obtain⟨f0,f1,f2,f3,f4,f5⟩:=hf it (by simp)
  refine wpAny_pyNext_list_item st p.isList (x:=u) (by simpa using hu) fun h' st' sb=>?_
  have I1:Inv X pins σ H { s with heap:=h' }:=I.turned (t':=s.toks) (fun b o hb e=>(sb.2 b hb).trans e) f0 f1 f3 f4 f5
  obtain⟨o,e,c,d⟩:=id st'
  exact⟨u,rfl,pe (s:={ s with heap:=h' }) e c d (by decide) ⟨x,H,I1,ru,⟨rfl,fun ys hy=>by rw[I.zX hy hq];exact hx⟩,st',fun b hb=>(hf b hb).1⟩⟩
 done:=by
  intro X hP hw hK hc i pins s σ H E I hf st hg
  subst hP hw hK
  obtain⟨xs,hq,hx⟩:=hg
  obtain⟨its,rv,p,hz⟩:=I.list hq
  obtain⟨f0,f1,f2,f3,f4,f5⟩:=hf it (by simp)
  have hl:=rv.length
  exact wpAny_pyNext_list_end (I.ok.hd hc) st p.isList (by simp;omega) fun h' eb=>⟨rfl,I.turned (t':=s.toks) (fun b o hb e=>eb b o hb e) f0 f1 f3 f4 f5⟩
 self:=fun _ _ _ _ _ st h=>wpAny_pyIter_listiter st h
theorem t8 {P:Program}{w:World}{K:W.Frag}{tg:Expr} (a it:Addr):Turn P w K tg (Fe K a) [it] it (fun i h=>h.IsTupleIter it a i) where
 mem:=by simp
 obj:=fun i h st b hb=>by
  have e:b=it:=by simpa using hb
  subst e
  obtain⟨o,e,c,d⟩:=st
  exact⟨o,e,fun v z=>by rw[d] at z;cases z⟩
 keep:=fun i h h' st k=>st.at fun o e=>k it (by simp) o e
 item:=by
  intro X hP hw hK hc i pins s σ H E I hf st hg
  subst hP hw hK
  obtain⟨xs,x,hq,hx⟩:=hg
  obtain⟨its,rv,p,hz⟩:=I.tuple hq
  obtain⟨u,hu,ru⟩:=rv.get hx
  obtain⟨f0,f1,f2,f3,f4,f5⟩:=hf it (by simp)
  refine wpAny_pyNext_tuple_item st (show s.heap.IsTuple a its.toArray from p) (x:=u) (by simpa using hu) fun h' st' sb=>?_
  have I1:Inv X pins σ H { s with heap:=h' }:=I.turned (t':=s.toks) (fun b o hb e=>(sb.2 b hb).trans e) f0 f1 f3 f4 f5
  obtain⟨o,e,c,d⟩:=id st'
  exact⟨u,rfl,pe (s:={ s with heap:=h' }) e c d (by decide) ⟨x,H,I1,ru,⟨rfl,fun ys hy=>by rw[I.xK hy hq];exact hx⟩,st',fun b hb=>(hf b hb).1⟩⟩
 done:=by
  intro X hP hw hK hc i pins s σ H E I hf st hg
  subst hP hw hK
  obtain⟨xs,hq,hx⟩:=hg
  obtain⟨its,rv,p,hz⟩:=I.tuple hq
  obtain⟨f0,f1,f2,f3,f4,f5⟩:=hf it (by simp)
  have hl:=rv.length
  exact wpAny_pyNext_tuple_end (I.ok.hd hc) st (show s.heap.IsTuple a its.toArray from p) (by simp;omega) fun h' eb=>⟨rfl,I.turned (t':=s.toks) (fun b o hb e=>eb b o hb e) f0 f1 f3 f4 f5⟩
 self:=fun _ _ _ _ _ st h=>wpAny_pyIter_tupleiter st h
theorem ua {P:Program}{w:World}{K:W.Frag}{tg:Expr} (it:Addr) (lo:Int) (n:Nat):Turn P w K tg (CW lo n) [it] it (fun i h=>IsRangeIter h it (lo+(i:Nat) * 1) ((n:Int) - (i:Nat)) 1) where
 mem:=by simp
 obj:=fun i h st b hb=>by
  have e:b=it:=by simpa using hb
  subst e
  exact⟨_,st,fun v z=>by
   have z':Data.fields _=Data.cell v:=z
   cases z'⟩
 keep:=fun i h h' st k=>k it (by simp) _ st
 item:=by
  intro X hP hw hK hc i pins s σ H E I hf st hg
  subst hP hw hK
  obtain⟨f0,f1,f2,f3,f4,f5⟩:=hf it (by simp)
  have W:=Walks.range (prog:=X.prog) (w:=X.w) (I.ok.hd hc) it lo 1 n
  refine W.item i s _ _ hg st fun v h' tk hv st' kk=>?_
  obtain⟨t,rfl⟩:=hv
  have I1:Inv X pins σ H { s with heap:=h',toks:=tk }:=I.turned (fun b o hb e=>kk b o (by simpa using hb) e) f0 f1 f3 f4 f5
  refine⟨_,rfl,pe (s:={ s with heap:=h',toks:=tk }) (n := "range_iterator") st' rfl rfl (by decide) ⟨.int (lo+i),H,I1,⟨t,?_⟩,⟨rfl,rfl⟩,st',fun b hb=>(hf b hb).1⟩⟩
  rw[Int.mul_one]
 done:=by
  intro X hP hw hK hc i pins s σ H E I hf st hg
  subst hP hw hK
  obtain⟨f0,f1,f2,f3,f4,f5⟩:=hf it (by simp)
  exact wpAny_pyNext_range_end (I.ok.hd hc) st (by have:n≤i:=hg;omega) fun h' eb=>⟨rfl,I.turned (t':=s.toks) (fun b o hb e=>eb b o hb e) f0 f1 f3 f4 f5⟩
 self:=fun _ _ _ _ _ st h=>wpAny_pyIter_rangeiter st h
section
variable {X:Cx}{tg:Expr}
def CY (K:W.Frag) (tl:TE):TI:=fun σ H R=>tl σ H fun x H1=>∃ a,x=.ref a∧(∃ xs,dz K H1 a xs)∧R (Fd K a) H1
def Ff (K:W.Frag) (tl:TE):TI:=fun σ H R=>tl σ H fun x H1=>∃ a,x=.ref a∧(∃ xs,dB K H1 a xs)∧R (Fe K a) H1
theorem BX {l:Expr}{tl:TE} (hl:PE X l tl):PI X tg l (CY X.K tl):=by
 intro pins s σ H R I h
 refine cg (hl pins s σ H _ I h) fun v s1 ⟨x,H1,I1,r1,q1⟩=>?_
 obtain⟨a,e,⟨xs,hq⟩,q⟩:=q1
 subst e
 cases r1
 obtain⟨its,rv,p,hz⟩:=I1.list hq
 refine wpAny_pyIter_list p.isList ?_
 refine⟨s1.heap.objs.size,[s1.heap.objs.size],_,_,H1,rfl,I1.kept (t':=s1.toks) fun b o e=>Heap.get?_push_of_some _ e,xM a _,⟨_,Heap.get?_push_size _ rfl,rfl,rfl⟩,fun b hb=>?_,q⟩
 have e:b=s1.heap.objs.size:=by simpa using hb
 subst e
 exact I1.rN (Nat.le_refl _) (I1.hok.fresh (Nat.le_refl _))
theorem Dt {l:Expr}{tl:TE} (hl:PE X l tl):PI X tg l (Ff X.K tl):=by
 intro pins s σ H R I h
 refine cg (hl pins s σ H _ I h) fun v s1 ⟨x,H1,I1,r1,q1⟩=>?_
 obtain⟨a,e,⟨xs,hq⟩,q⟩:=q1
 subst e
 cases r1
 obtain⟨its,rv,p,hz⟩:=I1.tuple hq
 refine wpAny_pyIter_tuple (show s1.heap.IsTuple a its.toArray from p) ?_
 refine⟨s1.heap.objs.size,[s1.heap.objs.size],_,_,H1,rfl,I1.kept (t':=s1.toks) fun b o e=>Heap.get?_push_of_some _ e,t8 a _,⟨_,Heap.get?_push_size _ rfl,rfl,rfl⟩,fun b hb=>?_,q⟩
 have e:b=s1.heap.objs.size:=by simpa using hb
 subst e
 exact I1.rN (Nat.le_refl _) (I1.hok.fresh (Nat.le_refl _))
theorem zY {pins:List (Addr×Obj)}{σ:St}{H:Hp}{s:Shared}{R:It→Hp→Prop}{E:Value→Shared→Prop}{lo hi:Int}{t u v:Tok}{tk:Nat} (I:Inv X pins σ H s) (h1 : -(2 ^ 62)≤lo) (h2:lo < 2 ^ 62) (h3 : -(2 ^ 62)≤hi) (h4:hi < 2 ^ 62)
  (q:R (CW lo (hi - lo).toNat) H):wpAny (model X.prog X.w) X.A (pyIter (.ref s.heap.objs.size)) (KU X pins σ tg R) E { s with heap:=s.heap.push { cls:=.type "range",data:=.fields #[.int lo t,.int hi u,.int 1 v] },toks:=tk }:=by
 refine wpAny_pyIter_range (IsRange.new ..) (small_one h1 h2 h3 h4) ?_
 have I1:Inv X pins σ H { s with heap:=s.heap.push { cls:=.type "range",data:=.fields #[.int lo t,.int hi u,.int 1 v] },toks:=tk }:=I.kept fun b o e=>Heap.get?_push_of_some _ e
 refine⟨(s.heap.push { cls:=.type "range",data:=.fields #[.int lo t,.int hi u,.int 1 v] }).objs.size,[(s.heap.push { cls:=.type "range",data:=.fields #[.int lo t,.int hi u,.int 1 v] }).objs.size],_,_,H,rfl,
  I1.kept (t':=tk) fun b o e=>Heap.get?_push_of_some _ e,ua _ lo (hi - lo).toNat,?_,fun b hb=>?_,q⟩
 ·have e1:lo+((0:Nat):Int) * 1=lo:=by simp
  have e2:(((hi - lo).toNat:Nat):Int) - ((0:Nat):Int)=Builtin.Range.rangeSize lo hi 1:=by rw[rangeSize_one];split <;> omega
  show IsRangeIter _ _ (lo+((0:Nat):Int) * 1) ((((hi - lo).toNat:Nat):Int) - ((0:Nat):Int)) 1
  rw[e1,e2]
  exact Heap.get?_push_size _ rfl
 ·have e:b=(s.heap.push { cls:=.type "range",data:=.fields #[.int lo t,.int hi u,.int 1 v] }).objs.size:=by simpa using hb
  subst e
  exact I1.rN (Nat.le_refl _) (I1.hok.fresh (Nat.le_refl _))
def Fg (ta:TA):TI:=fun σ H R=>ta σ H fun vs H1=>∃ j:Int,vs=[.int j]∧-(2 ^ 62)≤j∧j < 2 ^ 62∧R (CW 0 j.toNat) H1
theorem kI {a:Expr}{ta:TA}{p pos:Pos} (hg:Gl X "range") (hm:X.mg "range" = none) (ha:PA X [a] ta) (hs:starEach [a] X.env=[(false,eval a X.env)]:=by rfl):PI X tg (.Call (.Name "range" p) [a] [] pos) (Fg ta):=by
 intro pins s σ H R I h
 refine Call_ (mW I hg hm boot_range (PyProof.Rows.callWith_type1 (cg (ha pos pins s σ H _ I h) fun us s1 ⟨vs,H1,I1,r1,q1⟩=>?_) hs rfl))
 obtain⟨j,e,q1,q2,q⟩:=q1
 subst e
 cases r1 with
 | cons r rr =>
  cases rr
  obtain⟨t,rfl⟩:=r
  exact call_range_1 (zY I1 (by omega) (by omega) q1 q2 (by simpa using q))
def IC (wi:TI) (g:TG) (tb:TS):TS:=fun D σ H=>wi σ H fun J H1=>∃ W:Nat→Nat→St→Hp→Prop,(∃ m,W 0 m σ H1)∧∀ i m σ H,W i m σ H →
 (J.stop i H∧D.nx σ H)∨(J.go i H∧∃ N:St→Hp→Prop,(∀ σ' H',N σ' H'→∃ m',m' < m∧W (i+1) m' σ' H')∧∀ x H',J.Dr i H x H'→g x σ H' fun σ2 H2=>tb { D with nx:=N,ct:=N,bk:=D.nx } σ2 H2)
def kJ (fp:List Addr) (h:Heap):List (Addr×Obj):=fp.filterMap fun b=>(h.get? b).map fun o=>(b,o)
theorem d8 {fp:List Addr}{h:Heap}{b:Addr}{o:Obj} (hb:b∈fp) (e:h.get? b=some o):(b,o)∈kJ fp h:=List.mem_filterMap.mpr ⟨b,hb,by rw[e];rfl⟩
theorem xN {fp:List Addr}{h:Heap}{p:Addr×Obj} (hp:p∈kJ fp h):p.1∈fp∧h.get? p.1=some p.2:=by
 obtain⟨b,hb,e⟩:=List.mem_filterMap.mp hp
 cases q:h.get? b with
 | none=>rw[q] at e;cases e
 | some o =>
  rw[q] at e
  have e':(b,o)=p:=Option.some.inj e
  subst e'
  exact⟨hb,q⟩
theorem Inv.pinned {pins:List (Addr×Obj)}{σ:St}{H:Hp}{s:Shared}{fp:List Addr} (I:Inv X pins σ H s) (hf:∀ b∈fp,g5 X pins H b) (ho:∀ b∈fp,∃ o,s.heap.get? b=some o∧∀ v,o.data≠.cell v):Inv X (pins++kJ fp s.heap) σ H s :=
 I.wO fun p hp=>(List.mem_append.mp hp).elim (fun z=>I.pin p (List.mem_append_right _ z)) fun z=>by
  obtain⟨hb,e⟩:=xN z
  obtain⟨f0,f1,f2,_⟩:=hf p.1 hb
  obtain⟨o,e',d⟩:=ho p.1 hb
  rw[e] at e';cases e'
  exact⟨e,f0,f1,f2,d⟩
theorem Inv.ic {pins pl:List (Addr×Obj)}{σ:St}{H:Hp}{s:Shared} (I:Inv X (pins++pl) σ H s):Inv X pins σ H s:=I.wO fun p hp=>I.pin p (List.mem_append_right _ (List.mem_append_left _ hp))
theorem m5 {iter:Expr}{body:List Stmt}{wi:TI}{g:TG}{tb:TS}{pos:Pos} (hp:PassesOwn (model X.prog X.w) X.A X.env X.xe) (hc:X.calm=true) (hi:PI X tg iter wi) (hg:PG X tg g) (hb:rM X body tb)
  (hs:∀ x,foldedSetIterable iter X.env x=pure x:=by intro _;rfl):PS X (.For tg iter body [] pos) (IC wi g tb):=by
 intro pins s σ H D I h
 refine wpAny_For (cg (hi pins s σ H _ I h) fun v s1 h1=>cg h1 fun itv s2 h2=>?_) hs
 obtain⟨it,fp,tn,J,H2,e,I2,T,st2,f2,W,⟨m0,w0⟩,turn⟩:=h2
 subst e
 have m6:∀{H':Hp},(∀ b∈fp,H' b=none)→∀ b∈fp,g5 X pins H' b:=fun hn b hb=>⟨hn b hb,(f2 b hb).2⟩
 refine codeAny_forLoop_any (fun n s'=>∃ i σ' H',Inv X pins σ' H' s'∧tn i s'.heap∧(∀ b∈fp,H' b=none)∧W i n σ' H') ?_ m0 ⟨0,σ,H2,I2,st2,fun b hb=>(f2 b hb).1,w0⟩
 rintro n s3 ⟨i,σ3,H3,I3,st3,KW,w3⟩
 rcases turn i n σ3 H3 w3 with ⟨stop,qn⟩ | ⟨go,N,hN,step⟩
 ·refine wpAny_passesOwn hp (cg (T.done X rfl rfl rfl hc i pins s3 σ3 H3 X.xe I3 (m6 KW) st3 stop) fun r s4 ⟨hr,I4⟩=>?_)
  subst hr
  exact wpAny_execs_nil ⟨σ3,H3,I4,qn⟩
 ·refine wpAny_passesOwn hp (cg (T.item X rfl rfl rfl hc i pins s3 σ3 H3 X.xe I3 (m6 KW) st3 go) fun r s4 ⟨u,hr,h4⟩=>?_)
  subst hr
  refine wpAny_passesOwn hp (cg h4 fun _ s5 ⟨x,H5,I5,r5,y5,ID,Mw⟩=>?_)
  have Mx:=I5.pinned (m6 Mw) (T.obj _ _ ID)
  refine wpAny_passesOwn hp (cg (hg _ s5 σ3 H5 x u _ Mx r5 (step x H5 y5)) fun _ s6 ⟨σ6,H6,I6,q6⟩=>?_)
  refine wpAny_passesOwn hp (cg (hb _ s6 σ6 H6 _ I6 q6) fun f s7 q7=>?_)
  have again:∀{σ7:St}{H7:Hp},Inv X (pins++kJ fp s5.heap) σ7 H7 s7→N σ7 H7→∃ m,m < n∧∃ i σ' H',Inv X pins σ' H' s7∧tn i s7.heap∧(∀ b∈fp,H' b=none)∧W i m σ' H':=fun {σ7 H7} I7 n7=>by
   obtain⟨m',hm,w7⟩:=hN σ7 H7 n7
   refine⟨m',hm,i+1,σ7,H7,I7.ic,T.keep _ _ _ ID fun b hb o e=>(I7.pin (b,o) (List.mem_append_right _ (List.mem_append_right _ (d8 hb e)))).1,fun b hb=>?_,w7⟩
   obtain⟨o,e,d⟩:=T.obj _ _ ID b hb
   exact(I7.pin (b,o) (List.mem_append_right _ (List.mem_append_right _ (d8 hb e)))).2.1
  cases f with
  | next=>obtain⟨σ7,H7,I7,n7⟩:=q7;exact again I7 n7
  | cont=>obtain⟨σ7,H7,I7,n7⟩:=q7;exact again I7 n7
  | brk=>obtain⟨σ7,H7,I7,q7⟩:=q7;exact⟨σ7,H7,I7.ic,q7⟩
  | ret v=>obtain⟨x7,σ7,H7,I7,r7,q7⟩:=q7;exact⟨x7,σ7,H7,I7.ic,r7,q7⟩
end
theorem rO {K:W.Frag}{a:Addr}{xs:List V}{g:TG}{tb:TS}{D:Ends}{σ:St}{H:Hp} (Pv:Nat→St→Hp→Prop) (h0:Pv 0 σ H) (hl:∀ i σ H,i≤xs.length→Pv i σ H→dz K H a xs)
  (hs:∀ i x σ H,xs[i]? = some x→Pv i σ H→g x σ H fun σ2 H2=>tb { D with nx:=Pv (i+1),ct:=Pv (i+1),bk:=D.nx } σ2 H2) (hd:∀ σ H,Pv xs.length σ H→D.nx σ H) :
  ∃ W:Nat→Nat→St→Hp→Prop,(∃ m,W 0 m σ H)∧∀ i m σ H,W i m σ H →
   ((Fd K a).stop i H∧D.nx σ H)∨((Fd K a).go i H∧∃ N:St→Hp→Prop,(∀ σ' H',N σ' H'→∃ m',m' < m∧W (i+1) m' σ' H')∧∀ x H',(Fd K a).Dr i H x H'→g x σ H' fun σ2 H2=>tb { D with nx:=N,ct:=N,bk:=D.nx } σ2 H2):=by
 refine⟨fun i m σ H=>m=xs.length - i∧i≤xs.length∧Pv i σ H,⟨xs.length,by simp,Nat.zero_le _,h0⟩,?_⟩
 rintro i m σ H ⟨rfl,hi,p⟩
 have q:=hl i σ H hi p
 by_cases hlt:i < xs.length
 ·refine .inr ⟨⟨xs,xs[i],q,by simp[hlt]⟩,Pv (i+1),fun σ' H' p'=>⟨xs.length - (i+1),by omega,rfl,hlt,p'⟩,fun x H' y=>?_⟩
  obtain⟨e,y⟩:=y
  subst e
  exact hs i x σ _ (y xs q) p
 ·have e:i=xs.length:=by omega
  subst e
  exact .inl ⟨⟨xs,q,Nat.le_refl _⟩,hd σ H p⟩
theorem BY {K:W.Frag}{a:Addr}{xs:List V}{g:TG}{tb:TS}{D:Ends}{σ:St}{H:Hp} (Pv:Nat→St→Hp→Prop) (h0:Pv 0 σ H) (hl:∀ i σ H,i≤xs.length→Pv i σ H→dB K H a xs)
  (hs:∀ i x σ H,xs[i]? = some x→Pv i σ H→g x σ H fun σ2 H2=>tb { D with nx:=Pv (i+1),ct:=Pv (i+1),bk:=D.nx } σ2 H2) (hd:∀ σ H,Pv xs.length σ H→D.nx σ H) :
  ∃ W:Nat→Nat→St→Hp→Prop,(∃ m,W 0 m σ H)∧∀ i m σ H,W i m σ H →
   ((Fe K a).stop i H∧D.nx σ H)∨((Fe K a).go i H∧∃ N:St→Hp→Prop,(∀ σ' H',N σ' H'→∃ m',m' < m∧W (i+1) m' σ' H')∧∀ x H',(Fe K a).Dr i H x H'→g x σ H' fun σ2 H2=>tb { D with nx:=N,ct:=N,bk:=D.nx } σ2 H2):=by
 refine⟨fun i m σ H=>m=xs.length - i∧i≤xs.length∧Pv i σ H,⟨xs.length,by simp,Nat.zero_le _,h0⟩,?_⟩
 rintro i m σ H ⟨rfl,hi,p⟩
 have q:=hl i σ H hi p
 by_cases hlt:i < xs.length
 ·refine .inr ⟨⟨xs,xs[i],q,by simp[hlt]⟩,Pv (i+1),fun σ' H' p'=>⟨xs.length - (i+1),by omega,rfl,hlt,p'⟩,fun x H' y=>?_⟩
  obtain⟨e,y⟩:=y
  subst e
  exact hs i x σ _ (y xs q) p
 ·have e:i=xs.length:=by omega
  subst e
  exact .inl ⟨⟨xs,q,Nat.le_refl _⟩,hd σ H p⟩
theorem pq {lo:Int}{n:Nat}{g:TG}{tb:TS}{D:Ends}{σ:St}{H:Hp} (Pv:Nat→St→Hp→Prop) (h0:Pv 0 σ H)
  (hs:∀ i σ H,i < n→Pv i σ H→g (.int (lo+i)) σ H fun σ2 H2=>tb { D with nx:=Pv (i+1),ct:=Pv (i+1),bk:=D.nx } σ2 H2) (hd:∀ σ H,Pv n σ H→D.nx σ H) :
  ∃ W:Nat→Nat→St→Hp→Prop,(∃ m,W 0 m σ H)∧∀ i m σ H,W i m σ H →
   ((CW lo n).stop i H∧D.nx σ H)∨((CW lo n).go i H∧∃ N:St→Hp→Prop,(∀ σ' H',N σ' H'→∃ m',m' < m∧W (i+1) m' σ' H')∧∀ x H',(CW lo n).Dr i H x H'→g x σ H' fun σ2 H2=>tb { D with nx:=N,ct:=N,bk:=D.nx } σ2 H2):=by
 refine⟨fun i m σ H=>m=n - i∧i≤n∧Pv i σ H,⟨n,by simp,Nat.zero_le _,h0⟩,?_⟩
 rintro i m σ H ⟨rfl,hi,p⟩
 by_cases hlt:i < n
 ·refine .inr ⟨hlt,Pv (i+1),fun σ' H' p'=>⟨n - (i+1),by omega,rfl,hlt,p'⟩,fun x H' y=>?_⟩
  obtain⟨e,y⟩:=y
  subst e y
  exact hs i σ _ hlt p
 ·have e:i=n:=by omega
  subst e
  exact .inl ⟨Nat.le_refl _,hd σ H p⟩
abbrev R2:=V→V→Hp→VK→Prop
def g8 (X:Cx) (f:Value→Value→Sem Value) (r:R2):Prop :=
 ∀(pins:List (Addr×Obj)) (s:Shared) (σ:St) (H:Hp) (x y:V) (v u:Value) (Q:VK),Inv X pins σ H s→RelV x v→RelV y u→r x y H Q →
  wpAny (model X.prog X.w) X.A (f v u) (EP X pins σ Q) X.xe s
def eH (X:Cx) (f:Value) (r:List V→Hp→VK→Prop):Prop :=
 ∀(pins:List (Addr×Obj)) (s:Shared) (σ:St) (H:Hp) (xs:List V) (us:List Value) (Q:VK),Inv X pins σ H s→Vals xs us→r xs H Q →
  wpAny (model X.prog X.w) X.A (call f us) (EP X pins σ Q) X.xe s
def BE (r:R2) (ta tb:TE):TE:=fun σ H Q=>ta σ H fun x H1=>tb σ H1 fun y H2=>r x y H2 Q
def rI (C:Int→Int→Prop) (g:Int→Int→V):R2:=fun x y H Q=>∃ i j,x=.int i∧y=.int j∧C i j∧Q (g i j) H
def BZ (g:Int→Int→V):R2:=fun x y H Q=>∃ i j,x=.int i∧y=.int j∧Q (g i j) H
section
variable {X:Cx}{a b c:Expr}{ta tb tc:TE}{pos:Pos}
theorem Du (ha:PE X a ta) (hb:PE X b tb) {pins:List (Addr×Obj)}{s:Shared}{σ:St}{H:Hp}{R:V→V→Hp→Prop} (I:Inv X pins σ H s)
  (h:ta σ H fun x H1=>tb σ H1 fun y H2=>R x y H2) {Q:Value→Shared→Prop}{f:Value→Value→Sem Value}
  (hf:∀ v u s2 x y H2,Inv X pins σ H2 s2→RelV x v→RelV y u→R x y H2→wpAny (model X.prog X.w) X.A (f v u) Q X.xe s2) :
  wpAny (model X.prog X.w) X.A (eval a X.env) (fun v s₁=>wpAny (model X.prog X.w) X.A (eval b X.env) (fun u s₂=>wpAny (model X.prog X.w) X.A (f v u) Q X.xe s₂) X.xe s₁) X.xe s:=by
 refine cg (ha pins s σ H _ I h) fun v s1 ⟨x,H1,I1,r1,q1⟩=>?_
 refine cg (hb pins s1 σ H1 _ I1 q1) fun u s2 ⟨y,H2,I2,r2,q2⟩=>?_
 exact hf v u s2 x y H2 I2 r1 r2 q2
theorem aC {op:Operator}{r:R2} (ho:g8 X (binaryOp op) r) (ha:PE X a ta) (hb:PE X b tb):PE X (.BinOp a op b pos) (BE r ta tb):=by
 intro pins s σ H Q I h
 exact wpAny_BinOp (Du ha hb I h fun v u s2 x y H2 I2 rx ry q=>ho pins s2 σ H2 x y v u Q I2 rx ry q)
theorem HW {f:Value→Value→Sem Value}{C:Int→Int→Prop}{g:Int→Int→Int}
  (rule:∀(i j:Int) (t u:Tok) (s:Shared) (Q:Value→Shared→Prop) (E:Value→Shared→Prop),C i j→Q (.int (g i j) s.toks) { s with toks:=s.toks+1 }→wpAny (model X.prog X.w) X.A (f (.int i t) (.int j u)) Q E s) :
  g8 X f (rI C fun i j=>.int (g i j)):=by
 intro pins s σ H x y v u Q I rx ry h
 obtain⟨i,j,rfl,rfl,hc,q⟩:=h
 obtain⟨t,rfl⟩:=rx
 obtain⟨t',rfl⟩:=ry
 exact rule i j t t' s _ _ hc ⟨.int (g i j),H,I.tok _,⟨_,rfl⟩,q⟩
theorem Fi {f:Value→Value→Sem Value}{g:Int→Int→Int}
  (rule:∀(i j:Int) (t u:Tok) (s:Shared) (Q:Value→Shared→Prop) (E:Value→Shared→Prop),Q (.int (g i j) s.toks) { s with toks:=s.toks+1 }→wpAny (model X.prog X.w) X.A (f (.int i t) (.int j u)) Q E s) :
  g8 X f (BZ fun i j=>.int (g i j)):=by
 intro pins s σ H x y v u Q I rx ry h
 obtain⟨i,j,rfl,rfl,q⟩:=h
 obtain⟨t,rfl⟩:=rx
 obtain⟨t',rfl⟩:=ry
 exact rule i j t t' s _ _ ⟨.int (g i j),H,I.tok _,⟨_,rfl⟩,q⟩
theorem B0 {f:Value→Value→Sem Value}{g:Int→Int→Bool}
  (rule:∀(i j:Int) (t u:Tok) (s:Shared) (Q:Value→Shared→Prop) (E:Value→Shared→Prop),Q (.bool (g i j)) s→wpAny (model X.prog X.w) X.A (f (.int i t) (.int j u)) Q E s) :
  g8 X f (BZ fun i j=>.bl (g i j)):=by
 intro pins s σ H x y v u Q I rx ry h
 obtain⟨i,j,rfl,rfl,q⟩:=h
 obtain⟨t,rfl⟩:=rx
 obtain⟨t',rfl⟩:=ry
 exact rule i j t t' s _ _ ⟨.bl (g i j),H,I,rfl,q⟩
def IE (i j:Int):Prop:=0 < j∧j < 1073741824
def Fj (i j:Int):Prop:=0≤j∧j≤1000000∧i.natAbs < 2 ^ 64
def B3 (i j:Int):Prop:=(-(2 ^ 64) < i∧i < 2 ^ 64)∨(-(2 ^ 64) < j∧j < 2 ^ 64)
theorem B3.ok {i j:Int} (h:B3 i j):IntMulOk i j:=by
 rcases h with ⟨h1,h2⟩ | ⟨h1,h2⟩
 ·exact .of_left (intBits_le_64 h1 h2)
 ·exact .of_right (intBits_le_64 h1 h2)
theorem fV:g8 X (binaryOp .Add) (BZ fun i j=>.int (i+j)):=Fi fun _ _ _ _ _ _ _ q=>add_int q
theorem zZ:g8 X (binaryOp .Sub) (BZ fun i j=>.int (i - j)):=Fi fun _ _ _ _ _ _ _ q=>sub_int q
theorem fW:g8 X (binaryOp .Mult) (rI B3 fun i j=>.int (i * j)):=HW fun _ _ _ _ _ _ _ hc q=>mul_int q hc.ok
theorem cH:g8 X (binaryOp .FloorDiv) (rI IE fun i j=>.int (i / j)):=HW fun i j _ _ _ _ _ hc q=>by
 have h1:(0:Int) < j:=hc.1
 have h2:j < 1073741824:=hc.2
 exact floordiv_int (by omega) (by rw[Int.fdiv_eq_ediv_of_nonneg i (by omega)];exact q) (.inl (PyProof.noPylong_small (by omega)))
theorem bB:g8 X (binaryOp .Mod) (rI (fun _ j=>0 < j) fun i j=>.int (i % j)):=HW fun i j _ _ _ _ _ hc q=>by
 have h1:(0:Int) < j:=hc
 exact mod_int' (by omega) (by rw[Int.fmod_eq_emod_of_nonneg i (by omega)];exact q)
theorem pV:g8 X (binaryOp .Pow) (rI Fj fun i j=>.int (i ^ j.toNat)):=HW fun _ _ _ _ _ _ _ hc q=>pow_int_small hc.1 hc.2.1 hc.2.2 q
end
def Dv:V→V→Bool
 | .non,.non=>true | .non,.int _=>true | .int _,.non=>true | .non,.bl _=>true | .bl _,.non=>true | .non,.str _=>true | .str _,.non=>true
 | .int _,.int _=>true | .bl _,.bl _=>true | .str _,.str _=>true | .zK _,.zK _=>true
 | .int _,.str _=>true | .str _,.int _=>true | .bl _,.str _=>true | .str _,.bl _=>true
 | _,_=>false
def KY:R2:=fun x y H Q=>Dv x y=true∧Q (.bl (decide (x=y))) H
def Mz:R2:=fun x y H Q=>Dv x y=true∧Q (.bl (!decide (x=y))) H
theorem wU {i j:Int}:decide (V.int i=V.int j)=(i == j):=by
 rw[Bool.eq_iff_iff]
 simp
theorem z0 {i j:Bool}:decide (V.bl i=V.bl j)=(i == j):=by
 rw[Bool.eq_iff_iff]
 simp
theorem wV {i j:Str}:decide (V.str i=V.str j)=(i == j):=by
 rw[Bool.eq_iff_iff]
 simp
theorem wW {i j:Array UInt8}:decide (V.zK i=V.zK j)=(i.toList == j.toList):=by
 rw[Bool.eq_iff_iff]
 cases i
 cases j
 simp
section
variable {X:Cx}{a b c:Expr}{ta tb tc:TE}{pos:Pos}
theorem aQ {pins:List (Addr×Obj)}{σ:St}{H:Hp}{s:Shared}{Q:VK}{k k':Bool} (I:Inv X pins σ H s) (q:Q (.bl k) H) (e:k=k'):EP X pins σ Q (.bool k') s:=by
 subst e
 exact⟨.bl k,H,I,rfl,q⟩
theorem ie:g8 X (compareOp .Eq) KY:=by
 intro pins s σ H x y v u Q I rx ry h
 obtain⟨hs,q⟩:=h
 cases x with
 | non =>
  cases rx
  cases y with
  | non=>cases ry;exact PySem.EqNone.eq_none_none (aQ I q (by simp))
  | bl j=>cases ry;exact PySem.EqNone.eq_none_bool (aQ I q (by simp))
  | int j=>obtain⟨t',rfl⟩:=ry;exact PySem.EqNone.eq_none_int (aQ I q (by simp))
  | str j=>obtain⟨t',rfl⟩:=ry;exact PySem.EqNone.eq_none_str (aQ I q (by simp))
  | _=>exact absurd (show false=true from hs) Bool.false_ne_true
 | bl i =>
  cases rx
  cases y with
  | non=>cases ry;exact PySem.EqNone.eq_bool_none (aQ I q (by simp))
  | bl j=>cases ry;exact eq_bool (aQ I q z0)
  | str j=>obtain⟨t',rfl⟩:=ry;exact PySem.EqMixed.eq_bool_str (aQ I q (by simp))
  | _=>exact absurd (show false=true from hs) Bool.false_ne_true
 | int i =>
  obtain⟨t,rfl⟩:=rx
  cases y with
  | non=>cases ry;exact PySem.EqNone.eq_int_none (aQ I q (by simp))
  | int j=>obtain⟨t',rfl⟩:=ry;exact eq_int (aQ I q wU)
  | str j=>obtain⟨t',rfl⟩:=ry;exact PySem.EqMixed.eq_int_str (aQ I q (by simp))
  | _=>exact absurd (show false=true from hs) Bool.false_ne_true
 | str i =>
  obtain⟨t,rfl⟩:=rx
  cases y with
  | non=>cases ry;exact PySem.EqNone.eq_str_none (aQ I q (by simp))
  | bl j=>cases ry;exact PySem.EqMixed.eq_str_bool (aQ I q (by simp))
  | int j=>obtain⟨t',rfl⟩:=ry;exact PySem.EqMixed.eq_str_int (aQ I q (by simp))
  | str j=>obtain⟨t',rfl⟩:=ry;exact eq_str (aQ I q wV)
  | _=>exact absurd (show false=true from hs) Bool.false_ne_true
 | zK i =>
  obtain⟨t,rfl⟩:=rx
  cases y with
  | zK j=>obtain⟨t',rfl⟩:=ry;exact W.eq_bytes (aQ I q wW)
  | _=>exact absurd (show false=true from hs) Bool.false_ne_true
 | _=>cases y <;> exact absurd (show false=true from hs) Bool.false_ne_true
theorem wX:g8 X (compareOp .NotEq) Mz:=by
 intro pins s σ H x y v u Q I rx ry h
 obtain⟨hs,q⟩:=h
 cases x with
 | non =>
  cases rx
  cases y with
  | non=>cases ry;exact PySem.EqNone.ne_none_none (aQ I q (by simp))
  | bl j=>cases ry;exact PySem.EqNone.ne_none_bool (aQ I q (by simp))
  | int j=>obtain⟨t',rfl⟩:=ry;exact PySem.EqNone.ne_none_int (aQ I q (by simp))
  | str j=>obtain⟨t',rfl⟩:=ry;exact PySem.EqNone.ne_none_str (aQ I q (by simp))
  | _=>exact absurd (show false=true from hs) Bool.false_ne_true
 | bl i =>
  cases rx
  cases y with
  | non=>cases ry;exact PySem.EqNone.ne_bool_none (aQ I q (by simp))
  | bl j=>cases ry;exact ne_bool (aQ I q (congrArg not z0))
  | str j=>obtain⟨t',rfl⟩:=ry;exact PySem.EqMixed.ne_bool_str (aQ I q (by simp))
  | _=>exact absurd (show false=true from hs) Bool.false_ne_true
 | int i =>
  obtain⟨t,rfl⟩:=rx
  cases y with
  | non=>cases ry;exact PySem.EqNone.ne_int_none (aQ I q (by simp))
  | int j=>obtain⟨t',rfl⟩:=ry;exact ne_int (aQ I q (congrArg not wU))
  | str j=>obtain⟨t',rfl⟩:=ry;exact PySem.EqMixed.ne_int_str (aQ I q (by simp))
  | _=>exact absurd (show false=true from hs) Bool.false_ne_true
 | str i =>
  obtain⟨t,rfl⟩:=rx
  cases y with
  | non=>cases ry;exact PySem.EqNone.ne_str_none (aQ I q (by simp))
  | bl j=>cases ry;exact PySem.EqMixed.ne_str_bool (aQ I q (by simp))
  | int j=>obtain⟨t',rfl⟩:=ry;exact PySem.EqMixed.ne_str_int (aQ I q (by simp))
  | str j=>obtain⟨t',rfl⟩:=ry;exact ne_str (aQ I q (congrArg not wV))
  | _=>exact absurd (show false=true from hs) Bool.false_ne_true
 | zK i =>
  obtain⟨t,rfl⟩:=rx
  cases y with
  | zK j=>obtain⟨t',rfl⟩:=ry;exact W.ne_bytes (aQ I q (congrArg not wW))
  | _=>exact absurd (show false=true from hs) Bool.false_ne_true
 | _=>cases y <;> exact absurd (show false=true from hs) Bool.false_ne_true
theorem z8:g8 X (compareOp .Lt) (BZ fun i j=>.bl (decide (i < j))):=B0 fun _ _ _ _ _ _ _ q=>lt_int q
theorem Fl:g8 X (compareOp .LtE) (BZ fun i j=>.bl (decide (i≤j))):=B0 fun _ _ _ _ _ _ _ q=>le_int q
theorem Fo:g8 X (compareOp .Gt) (BZ fun i j=>.bl (decide (j < i))):=B0 fun _ _ _ _ _ _ _ q=>gt_int q
theorem CZ:g8 X (compareOp .GtE) (BZ fun i j=>.bl (decide (j≤i))):=B0 fun _ _ _ _ _ _ _ q=>ge_int q
theorem Aa (b:Expr) {op:CmpOp} (h:op≠.In:=by decide) (h2:op≠.NotIn:=by decide):behindInMarks op b=false:=by
 have e1:(op == CmpOp.In)=false:=by cases op <;> first | rfl | exact absurd rfl h
 have e2:(op == CmpOp.NotIn)=false:=by cases op <;> first | rfl | exact absurd rfl h2
 cases b <;> simp[behindInMarks,e1,e2]
theorem B4 {op:CmpOp}{r:R2} (ho:g8 X (compareOp op) r) (ha:PE X a ta) (hb:PE X b tb) (hm:behindInMarks op b=false):PE X (.Compare a [op] [b] pos) (BE r ta tb):=by
 intro pins s σ H Q I h
 exact wpAny_Compare1 (Du ha hb I h fun v u s2 x y H2 I2 rx ry q=>ho pins s2 σ H2 x y v u Q I2 rx ry q) hm
def C0 (t:TE):TT:=fun σ H Q=>t σ H fun x H'=>∃ k,x=.bl k∧Q k H'
theorem wY {op:CmpOp}{r:R2} (ho:g8 X (compareOp op) r) (ha:PE X a ta) (hb:PE X b tb) (hm:behindInMarks op b=false):PT X (.Compare a [op] [b] pos) (C0 (BE r ta tb)):=by
 intro pins s σ H Q I h
 refine wpAny_isTrue_Compare1 (cg (ha pins s σ H _ I h) fun v s1 ⟨x,H1,I1,r1,q1⟩=>cg (hb pins s1 σ H1 _ I1 q1) fun u s2 ⟨y,H2,I2,r2,q2⟩ =>
  cg (ho pins s2 σ H2 x y v u _ I2 r1 r2 q2) fun c s3 ⟨z,H3,I3,r3,k,e,q3⟩=>?_) hm
 subst e
 cases r3
 exact wpAny_truthy_bool ⟨H3,I3,q3⟩
theorem m7:(sizeLine:Nat) < 2 ^ 63:=by rw[sizeLine_eq];decide
theorem uc:g8 X (binaryOp .Add) (fun x y H Q=>∃ i j,x=.str i∧y=.str j∧i.length+j.length≤sizeLine∧Q (.str (i++j)) H):=by
 intro pins s σ H x y v u Q I rx ry h
 obtain⟨i,j,rfl,rfl,hz,q⟩:=h
 obtain⟨t,rfl⟩:=rx
 obtain⟨t',rfl⟩:=ry
 exact add_str (fun t' tk=>⟨.str (i++j),H,I.tok _,⟨_,rfl⟩,q⟩) hz
theorem vals1 {x:V}{us:List Value} (r:Vals [x] us):∃ u,us=[u]∧RelV x u:=by
 cases r with
 | cons r1 r2=>cases r2;exact⟨_,rfl,r1⟩
theorem vals2 {x y:V}{us:List Value} (r:Vals [x,y] us):∃ u w',us=[u,w']∧RelV x u∧RelV y w':=by
 cases r with
 | cons r1 r2 =>
  cases r2 with
  | cons r3 r4=>cases r4;exact⟨_,_,rfl,r1,r3⟩
theorem Ab:eH X (.builtin "ord") (fun xs H Q=>∃ x,xs=[.str x]∧x.length=1∧Q (.int (x.cps.getD 0 0:Nat)) H):=by
 intro pins s σ H xs us Q I r h
 obtain⟨x,rfl,hz,q⟩:=h
 obtain⟨u,rfl,t,rfl⟩:=vals1 r
 exact ord_of_one hz ⟨.int _,H,I.tok _,⟨_,rfl⟩,q⟩
end
structure ud (h:Heap) (x dx C:Addr) (mA:Str→Option Value):Prop where
 obj:h.get? x=some (W.instObj C dx)
 ns:h.Ns1 dx mA
 ne:dx≠x
theorem xO {h:Heap}{dx:Addr}{mA:Str→Option Value} (n:h.Ns1 dx mA):∃ od,h.get? dx=some od∧∀ name,W.lookIn name od=some (mA name):=by
 obtain⟨o,es,ep,ho,hd,hk,_,hm⟩:=n
 refine⟨o,ho,fun name=>?_⟩
 have e:=hm name
 unfold nsFind findBy at e
 rw[←Array.find?_toList] at e
 unfold W.lookIn
 rw[hd]
 dsimp only
 split
 ·rename_i y q
  rw[q] at e
  exact congrArg some e
 ·rename_i q
  rw[q] at e
  have a:es.toList.any (·.refKey)=false:=by
   rw[List.any_eq_false]
   intro y hy
   obtain⟨z,t,hkey⟩:=hk y (Array.mem_toList_iff.mp hy)
   simp[DictEntry.refKey,hkey]
  have a':¬es.toList.any (·.refKey)=true:=by rw[a];exact Bool.false_ne_true
  rw[if_neg a']
  exact congrArg some e
theorem ud.look {h:Heap}{x dx C:Addr}{mA:Str→Option Value} (I:ud h x dx C mA):∃ od,W.InstAt h x (W.instObj C dx) C (some od)∧∀ name,W.lookIn name od=some (mA name) :=
 let ⟨od,ho,hl⟩:=xO I.ns
 ⟨od,⟨I.obj,rfl,rfl,ho⟩,hl⟩
section
variable {prog:Program}{w:World}{A:Around}{E:Value→Shared→Prop}{s:Shared}{K:W.Frag}{x dx C f:Addr}{mA:Str→Option Value}{name:Str}{v:Value}
theorem get_map {expr:Bool}{Q:Value→Shared→Prop} (X:K.In s.heap) (I:ud s.heap x dx C mA) (hg:W.plainGet K C name=true) (hh:W.hasDictIn K C=true)
  (ha:W.findIn K (.ref C) name=some none) (hv:mA name=some v) (hv':W.handedIn v=true) (h:Q v { s with toks:=s.toks+1 }) :
  wpAny (model prog w) A (getAttr (.ref x) name expr) Q E s:=by
 obtain⟨od,J,hl⟩:=I.look
 exact W.get_value X J (W.plainGet_of hg).1 (W.findObj_own hh ha rfl (by rw[hl,hv])) hv' h
theorem Ac {pl:Sem Bool}{Q:Value×List Value→Shared→Prop} (X:K.In s.heap) (I:ud s.heap x dx C mA) (hg:W.plainGet K C name=true)
  (hf:W.findIn K (.ref C) name=some (some (.ref f))) (ht:W.isFn K (.ref f)=true) (hv:mA name=none) (h:Q (.ref f,[.ref x]) s) :
  wpAny (model prog w) A (getMethod (.ref x) name pl) Q E s:=by
 obtain⟨od,J,hl⟩:=I.look
 exact W.method_fn X J (W.plainGet_of hg).1 (W.plainGet_of hg).2 hf (beq_iff_eq.mp ht) (by show(W.lookIn name od).map (·.isSome)=some false;rw[hl,hv];rfl) h
theorem B5 {ns:List Str}{Q:Unit→Shared→Prop} (X:K.In s.heap) (I:ud s.heap x dx C mA)
  (hs:W.findIn K (.ref C) "__setattr__" = some (some (.builtin "object.__setattr__"))) (hp:W.plainOver K C=true) (ht:W.takerIn K C name=some none) (hh:W.hasDictIn K C=true)
  (hw:PySem.Within mA ns) (hsz:ns.length≤sizeLine)
  (h:∀ h',ud h' x dx C (fun y=>if y=name then some v else mA y)→Heap.SameBut dx s.heap h'→Q () { s with heap:=h',toks:=s.toks+2 }) :
  wpAny (model prog w) A (setAttr (.ref x) name v) Q E s:=by
 obtain⟨od,J,hl⟩:=I.look
 refine W.set_plain X J hs (W.osa_open (s:={ s with toks:=s.toks+1 }) (r:=none) X J hp ht fun b=>?_)
 obtain⟨cd,hc,hd'⟩:=W.any_some hh
 have hx:s.heap.get? x=some ⟨.ref C,some dx,.plain,#[]⟩:=I.obj
 refine wpAny_bind (wpAny_pure (wpAny_bind (wpAny_bind (wpAny_loadPart hx (wpAny_bind (W.Looks.here (s:={ s with toks:=s.toks+1 }) (W.looks_clsIn X hc) ?_))))))
 rw[hd']
 refine wpAny_pure (a:=some dx) (wpAny_bind (wpAny_pure (wpAny_bind ?_)))
 refine wpAny_nsSet1 (s:={ s with toks:=s.toks+1 }) I.ns fun h' hn2 hs2=>?_
 obtain⟨oD,esD,Qc,MA,MB,MC⟩:=hn2.count (PySem.Within.cons name v hw)
 refine wpAny_bind (wpAny_lookBehind MA (by rw[MB];exact pastItsLine_dict (Nat.le_trans MC (by rw[List.length_cons];omega))) ?_)
 exact wpAny_pure (h _ ⟨(hs2.2 _ (Ne.symm I.ne)).trans I.obj,hn2,I.ne⟩ hs2)
theorem Ad {R:Result→Shared→Prop}{vs:List Value}{kw:List (Str×Value)} (X:K.In s.heap) (hm:W.makesIn K C=true)
  (hi:W.findIn K (.ref C) "__init__" = some (some (.ref f))) (hf:W.typeIn K (.ref f)=some (.type "function"))
  (h:codeAny (model prog w) (A.under (.builtin "type.__call__" ⟨.ref C :: vs,kw⟩)) (.call (.ref f) ⟨.ref (s.heap.objs.size+1) :: vs,kw⟩) (W.InitBack (s.heap.objs.size+1) R)
   { s with heap:=(s.heap.push W.emptyDict).push (W.instObj C s.heap.objs.size) }) :
  codeAny (model prog w) A (.call (.ref C) ⟨vs,kw⟩) R s:=by
 obtain⟨hh,g,d,t,os⟩:=s
 exact W.make_core (W.makes_of X hm) (W.looks_findIn X hi) (fun self=>W.bind_fn X self hf) (.inl rfl) h
end
def i0 (f:Str) (v:V):List (Str×V)→List (Str×V)
 | []=>[(f,v)]
 | (g,x) :: r=>if g=f then (g,v) :: r else (g,x) :: i0 f v r
theorem lu (f g:Str) (v:V):∀ fs:List (Str×V),(i0 f v fs).lookup g=if g=f then some v else fs.lookup g
 | []=>by
  show List.lookup g [(f,v)]=_
  by_cases h:g=f
  ·have hb:(g == f)=true:=beq_iff_eq.mpr h
   simp only[List.lookup,hb,if_pos h]
  ·have hb:(g == f)=false:=beq_eq_false_iff_ne.mpr h
   simp only[List.lookup,hb,if_neg h]
 | (k,x) :: r=>by
  have ih:=lu f g v r
  rw[show i0 f v ((k,x) :: r)=(if k=f then (k,v) :: r else (k,x) :: i0 f v r) from rfl]
  by_cases hk:k=f
  ·rw[if_pos hk]
   by_cases h:g=k
   ·have hb:(g == k)=true:=beq_iff_eq.mpr h
    simp only[List.lookup,hb,if_pos (h.trans hk)]
   ·have hb:(g == k)=false:=beq_eq_false_iff_ne.mpr h
    simp only[List.lookup,hb,if_neg (fun e:g=f=>h (e.trans hk.symm))]
  ·rw[if_neg hk]
   by_cases h:g=k
   ·have hb:(g == k)=true:=beq_iff_eq.mpr h
    simp only[List.lookup,hb,if_neg (fun e:g=f=>hk (h.symm.trans e))]
   ·have hb:(g == k)=false:=beq_eq_false_iff_ne.mpr h
    simp only[List.lookup,hb]
    exact ih
theorem kK (f:Str) (v:V):∀ fs:List (Str×V),f∈(i0 f v fs).map (·.1)∧∀ g,g∈fs.map (·.1)→g∈(i0 f v fs).map (·.1)
 | []=>⟨by simp[i0],fun g h=>by simp at h⟩
 | (k,x) :: r=>by
  obtain⟨i1,i2⟩:=kK f v r
  rw[show i0 f v ((k,x) :: r)=(if k=f then (k,v) :: r else (k,x) :: i0 f v r) from rfl]
  by_cases hk:k=f
  ·rw[if_pos hk]
   subst hk
   exact⟨by simp,fun g h=>by simpa using h⟩
  ·rw[if_neg hk]
   refine⟨?_,fun g h=>?_⟩
   ·rw[List.map_cons]
    exact List.mem_cons_of_mem _ i1
   ·rw[List.map_cons] at h ⊢
    rcases List.mem_cons.mp h with e | e
    ·exact List.mem_cons.mpr (.inl e)
    ·exact List.mem_cons_of_mem _ (i2 g e)
theorem ly (f:Str) (v:V):∀ fs:List (Str×V),(i0 f v fs).length≤fs.length+1
 | []=>by simp[i0]
 | (k,x) :: r=>by
  have ih:=ly f v r
  rw[show i0 f v ((k,x) :: r)=(if k=f then (k,v) :: r else (k,x) :: i0 f v r) from rfl]
  by_cases hk:k=f
  ·rw[if_pos hk,List.length_cons,List.length_cons];omega
  ·rw[if_neg hk,List.length_cons,List.length_cons];omega
theorem mS.some_of {v:V}{o:Option Value} (r:mS (some v) o):∃ u,o=some u∧RelV v u:=by
 cases o with
 | none=>exact(show False from r).elim
 | some u=>exact⟨u,rfl,r⟩
theorem mS.none_of {o:Option Value} (r:mS none o):o=none:=by
 cases o with
 | none=>rfl
 | some u=>exact(show False from r).elim
theorem xP {v:V}{u:Value} (r:RelV v u):W.handedIn u=true:=by
 cases v with
 | non=>cases(show u=Value.none from r);rfl
 | bl b=>cases(show u=Value.bool b from r);rfl
 | int i=>obtain⟨t,e⟩:=(show ∃ t,u=Value.int i t from r);cases e;rfl
 | str x=>obtain⟨t,e⟩:=(show ∃ t,u=Value.str x t from r);cases e;rfl
 | zK b=>obtain⟨t,e⟩:=(show ∃ t,u=Value.bytes b t from r);cases e;rfl
 | BN b=>obtain⟨t,e⟩:=(show ∃ t,u=Value.float b t from r);cases e;rfl
 | ref a=>cases(show u=Value.ref a from r);rfl
 | ty n=>cases(show u=Value.type n from r);rfl
section
variable {P:Program}{w:World}{H H':Hp}{h h':Heap}{a C dx:Addr}{fs fs':List (Str×V)}
theorem jO (hok:kD P w H h) (e:H a=some (.ins C dx fs)):∃ mA,ud h a dx C mA∧(∀ f,mS (fs.lookup f) (mA f))∧PySem.Within mA (fs.map (·.1))∧fs.length≤1000∧H dx=some (.own a):=by
 obtain⟨d,z,ne,ob,mA,n,r,q⟩:=(show bG P w H h a (.ins C dx fs) from hok a _ e)
 exact⟨mA,⟨ob,n,ne⟩,r,q,z,d⟩
end
structure BF (K:W.Frag) (C:Addr):Prop where
 pg:W.plainGet K C Str.empty=true
 hd:W.hasDictIn K C=true
 po:W.plainOver K C=true
 sa:W.findIn K (.ref C) "__setattr__" = some (some (.builtin "object.__setattr__"))
theorem BF.get {K:W.Frag}{C:Addr} (c:BF K C) (f:Str):W.plainGet K C f=true:=c.pg
def d9 (K:W.Frag) (C:Addr) (f:Str):Prop:=W.findIn K (.ref C) f=some none
theorem d9.Fp {K:W.Frag}{C:Addr}{f:Str} (n:d9 K C f):W.takerIn K C f=some none:=by
 unfold W.takerIn
 rw[show W.findIn K (.ref C) f=some none from n]
 rfl
structure Meth (K:W.Frag) (C:Addr) (m:Str) (f:Addr):Prop where
 at_:W.findIn K (.ref C) m=some (some (.ref f))
 fn:W.isFn K (.ref f)=true
 kp:W.keepIn K (.ref f)=true
section
variable {X:Cx}{pins:List (Addr×Obj)}{σ:St}{H:Hp}{s:Shared}{a C dx:Addr}{fs:List (Str×V)}{f:Str}{v:V}{A:Around}{E:Value→Shared→Prop}
theorem uf {b:Bool}{Q:Value→Shared→Prop} (I:Inv X pins σ H s) (e:H a=some (.ins C dx fs)) (c:BF X.K C) (n:d9 X.K C f) (l:fs.lookup f=some v)
  (h:∀ u s',Inv X pins σ H s'→RelV v u→Q u s'):wpAny (model X.prog X.w) A (getAttr (.ref a) f b) Q E s:=by
 obtain⟨mA,O,r,_,_,_⟩:=jO I.hok e
 obtain⟨u,hu,ru⟩:=mS.some_of (v:=v) (o:=mA f) (by rw[←l];exact r f)
 exact get_map I.iJ O (c.get f) c.hd n hu (xP ru) (h u _ (I.tok _) ru)
theorem ug {m:Str}{g:Addr}{pl:Sem Bool}{Q:Value×List Value→Shared→Prop} (I:Inv X pins σ H s) (e:H a=some (.ins C dx fs)) (c:BF X.K C) (k:Meth X.K C m g) (l:fs.lookup m=none)
  (h:Q (.ref g,[.ref a]) s):wpAny (model X.prog X.w) A (getMethod (.ref a) m pl) Q E s:=by
 obtain⟨mA,O,r,_,_,_⟩:=jO I.hok e
 have hn:mA m=none:=mS.none_of (by rw[←l];exact r m)
 exact Ac I.iJ O (c.get m) k.at_ k.fn hn h
theorem uh {y:V}{u:Value}{Q:Unit→Shared→Prop} (I:Inv X pins σ H s) (e:H a=some (.ins C dx fs)) (c:BF X.K C) (n:d9 X.K C f) (hl:fs.length < 1000) (ry:RelV y u)
  (h:∀ s',Inv X pins σ (upd H a (.ins C dx (i0 f y fs))) s'→Q () s'):wpAny (model X.prog X.w) A (setAttr (.ref a) f u) Q E s:=by
 obtain⟨mA,O,r,wi,_,ho⟩:=jO I.hok e
 have hz:(fs.map (·.1)).length≤sizeLine:=by rw[List.length_map,sizeLine_eq];omega
 refine B5 I.iJ O c.sa c.po n.Fp c.hd wi hz fun h' O' sb=>h _ ?_
 have hd:∃ o,h'.get? dx=some o:=let ⟨o,_,_,e',_⟩:=O'.ns;⟨o,e'⟩
 refine I.write (x:=a) (e:=dx) (by rw[e];exact True.intro) (.inr ho) (fun b q hb z=>(sb.2 b hb).trans z) hd ?_
 refine⟨by rw[aH O.ne];exact ho,?_,O.ne,O'.obj,_,O'.ns,fun g=>?_,fun g hg=>?_⟩
 ·have:=ly f y fs;omega
 ·show mS ((i0 f y fs).lookup g) (if g=f then some u else mA g)
  rw[lu]
  by_cases q:g=f
  ·rw[if_pos q,if_pos q];exact ry
  ·rw[if_neg q,if_neg q];exact r g
 ·by_cases q:g=f
  ·rw[q];exact(kK f y fs).1
  ·refine(kK f y fs).2 g (wi g fun z=>hg ?_)
   show(if g=f then some u else mA g)=none
   rw[if_neg q];exact z
theorem Inv.made (I:Inv X pins σ H s):Inv X pins σ (upd (upd H s.heap.objs.size (.own (s.heap.objs.size+1))) (s.heap.objs.size+1) (.ins C s.heap.objs.size []))
  { s with heap:=(s.heap.push W.emptyDict).push (W.instObj C s.heap.objs.size) }:=by
 have e1:(s.heap.push W.emptyDict).get? s.heap.objs.size=some W.emptyDict:=Heap.get?_push_size s.heap rfl
 have e2:((s.heap.push W.emptyDict).push (W.instObj C s.heap.objs.size)).get? (s.heap.objs.size+1)=some (W.instObj C s.heap.objs.size):=by
  have:=Heap.get?_push_size (s.heap.push W.emptyDict) (o:=W.instObj C s.heap.objs.size) rfl
  rwa [Heap.size_push] at this
 have e3:(s.heap.push W.emptyDict).Ns s.heap.objs.size (fun _=>none):=⟨W.emptyDict,#[],_,e1,rfl,(fun e he=>absurd he (by simp)),fun _=>rfl⟩
 have I1:=I.laid (a:=s.heap.objs.size) (o:=.own (s.heap.objs.size+1)) (h':=s.heap.push W.emptyDict) (t':=s.toks) (fun b u q=>Heap.get?_push_of_some _ q) (Nat.le_refl _) ⟨_,e1⟩
 refine I1.laid (a:=s.heap.objs.size+1) (o:=.ins C s.heap.objs.size []) (t':=s.toks) (fun b u q=>Heap.get?_push_of_some _ q) (Nat.le_of_eq (Heap.size_push _ _)) ?_
 have ne:s.heap.objs.size≠s.heap.objs.size+1:=Nat.ne_of_lt (Nat.lt_succ_self _)
 refine⟨by rw[aH ne,ai],Nat.zero_le _,ne,e2,fun _=>none,(Heap.Ns1.of_empty e3).at fun o q=>Heap.get?_push_of_some _ q,fun _=>True.intro,fun y hy=>absurd rfl hy⟩
theorem B6 {prog:Program}{w:World}{env:Env}{e:Expr}{f:Str}{pos:Pos}{s:Shared}{Q:Value→Shared→Prop} (hb:attributeBase e f env (eval e env)=eval e env)
  (h:wpAny (model prog w) A (eval e env) (fun o s₁=>wpAny (model prog w) A (getAttr o f true) Q E s₁) E s):wpAny (model prog w) A (eval (.Attribute e f pos) env) Q E s :=
 Attribute_any_ h (by rw[arm_eval_Attribute,hb])
end
def Fq (K:W.Frag) (ta:TE) (f:Str):TE:=fun σ H Q=>ta σ H fun x H1=>∃ a C dx fs v,x=.ref a∧H1 a=some (.ins C dx fs)∧BF K C∧d9 K C f∧fs.lookup f=some v∧Q v H1
def IF (K:W.Frag) (ta tv:TE) (f:Str):TS:=fun D σ H=>tv σ H fun y H1=>ta σ H1 fun x H2=>∃ a C dx fs,x=.ref a∧H2 a=some (.ins C dx fs)∧BF K C∧d9 K C f∧fs.length < 1000 ∧
 D.nx σ (upd H2 a (.ins C dx (i0 f y fs)))
section
variable {X:Cx}{o e value:Expr}{f:Str}{pos pos' tpos:Pos}{ta tv:TE}
theorem Dw (he:PE X e ta) (hb:attributeBase e f X.env (eval e X.env)=eval e X.env):PE X (.Attribute e f pos) (Fq X.K ta f):=by
 intro pins s σ H Q I h
 refine B6 hb (cg (he pins s σ H _ I h) fun u s1 ⟨x,H1,I1,rx,a,C,dx,fs,v,ex,ea,c,n,l,q⟩=>?_)
 subst ex
 obtain rfl:u=Value.ref a:=rx
 exact uf I1 ea c n l fun u' s2 I2 ru=>⟨v,H1,I2,ru,q⟩
theorem jw (ha:PE X o ta) (hv:PE X value tv) (hs:swapsWith value (some (.Attribute o f pos')) pos.line X.env=pure false):PS X (.Assign [.Attribute o f pos'] value pos) (IF X.K ta tv f):=by
 intro pins s σ H D I h
 refine plainObj_wpAny_Assign_Attribute (cg (hv pins s σ H _ I h) fun u s1 ⟨y,H1,I1,ry,q⟩=>cg (ha pins s1 σ H1 _ I1 q) fun ov s2 ⟨x,H2,I2,rx,a,C,dx,fs,ex,ea,c,n,l,q2⟩=>?_) hs
 subst ex
 obtain rfl:ov=Value.ref a:=rx
 exact uh I2 ea c n l ry fun s3 I3=>⟨σ,_,I3,q2⟩
end
section
variable {X:Cx}{pins:List (Addr×Obj)}{σ:St}{H:Hp}{s:Shared}{A:Around}{E:Value→Shared→Prop}{Q:Value→Shared→Prop}{c:Value}{b:Bool}
inductive fX (K:W.Frag) (H:Hp):V→Value→Prop where
 | non:fX K H .non (.type "NoneType")
 | bl (x:Bool):fX K H (.bl x) (.type "bool")
 | int (i:Int):fX K H (.int i) (.type "int")
 | str (x:Str):fX K H (.str x) (.type "str")
 | BN (x:UInt64):fX K H (.BN x) (.type "float")
 | lst {a:Addr}{xs:List V} (e:H a=some (.lst xs)):fX K H (.ref a) (.type "list")
 | rG {a:Addr}{o:Obj}{xs:List V} (e:H a=some (.rG o (.lst xs))):fX K H (.ref a) (.type "list")
 | tup {a:Addr}{xs:List V} (e:H a=some (.tup xs)):fX K H (.ref a) (.type "tuple")
 | dK {a:Addr}{kvs:List (Key×V)} (e:H a=some (.dK kvs)):fX K H (.ref a) (.type "dict")
 | dT {a:Addr}{kvs:List (List Key×V)} (e:H a=some (.dT kvs)):fX K H (.ref a) (.type "dict")
 | ins {a C dx:Addr}{fs:List (Str×V)} (e:H a=some (.ins C dx fs)) (cl:BF K C) (ha:W.findIn K (.ref C) "__class__" = some (some (.builtin "object.__class__")))
   (hn:W.specialIn K (.builtin "object.__class__") "__get__" = some (some (.builtin "getset_descriptor.__get__"))) (htk:W.takesIn K (.builtin "object.__class__")=some true)
   (hm:W.mroIn K C (.type "object")=some true):fX K H (.ref a) (.ref C)
theorem pA {x:V}{u t:Value} (I:Inv X pins σ H s) (rx:RelV x u) (ty:fX X.K H x t) (e:W.kitOne X.K t c=some b) (h:∀ tk,Q (.bool b) { s with toks:=tk }) :
  wpAny (model X.prog X.w) A (call (.builtin "isinstance") [u,c]) Q E s:=by
 cases ty with
 | non=>cases(show u=Value.none from rx);exact W.kia_one W.kitx_none I.iJ True.intro e (fun z=>nomatch z) h
 | bl y=>cases(show u=Value.bool y from rx);exact W.kia_one W.kitx_bool I.iJ True.intro e (fun z=>nomatch z) h
 | int i=>obtain⟨t,q⟩:=(show ∃ t,u=Value.int i t from rx);cases q;exact W.kia_one W.kitx_int I.iJ True.intro e (fun z=>nomatch z) h
 | str y=>obtain⟨t,q⟩:=(show ∃ t,u=Value.str y t from rx);cases q;exact W.kia_one W.kitx_str I.iJ True.intro e (fun z=>nomatch z) h
 | BN y=>obtain⟨t,q⟩:=(show ∃ t,u=Value.float y t from rx);cases q;exact W.kia_one W.kitx_float I.iJ True.intro e (fun z=>nomatch z) h
 | @lst a xs ea =>
  cases(show u=Value.ref a from rx)
  obtain⟨_,_,n,_,h1⟩:=(show bG X.prog X.w H s.heap a (.lst xs) from I.hok a _ ea)
  exact W.kia_one W.kitx_list I.iJ ⟨_,h1,rfl⟩ e (fun z=>nomatch z) h
 | @rG a ob xs ea =>
  cases(show u=Value.ref a from rx)
  obtain⟨_,_,_,n,_,h1⟩:=(show bG X.prog X.w H s.heap a (.rG ob (.lst xs)) from I.hok a _ ea)
  exact W.kia_one W.kitx_list I.iJ ⟨_,h1,rfl⟩ e (fun z=>nomatch z) h
 | @tup a xs ea =>
  cases(show u=Value.ref a from rx)
  obtain⟨_,_,_,p⟩:=(show bG X.prog X.w H s.heap a (.tup xs) from I.hok a _ ea)
  obtain⟨o,h1,h2,_⟩:=p
  exact W.kia_one W.kitx_tuple I.iJ ⟨o,h1,h2⟩ e (fun z=>nomatch z) h
 | @dK a kvs ea =>
  cases(show u=Value.ref a from rx)
  obtain⟨_,_,vs,_,p⟩:=(show bG X.prog X.w H s.heap a (.dK kvs) from I.hok a _ ea)
  obtain⟨o,es,ep,h1,h2,_⟩:=p
  exact W.kia_one W.kitx_dict I.iJ ⟨o,h1,h2.1⟩ e (fun z=>nomatch z) h
 | @dT a kvs ea =>
  cases(show u=Value.ref a from rx)
  obtain⟨_,_,xs,_,o,es,ep,h1,h2,_⟩:=(show bG X.prog X.w H s.heap a (.dT kvs) from I.hok a _ ea)
  exact W.kia_one W.kitx_dict I.iJ ⟨o,h1,h2.1⟩ e (fun z=>nomatch z) h
 | @ins a C dx fs ea cl ha hn htk hm =>
  cases(show u=Value.ref a from rx)
  obtain⟨mA,O,_⟩:=jO I.hok ea
  obtain⟨od,J,_⟩:=O.look
  exact W.kia_one (W.kitx_own (cl.get _) cl.hd ha hn htk hm) I.iJ J e (fun z=>nomatch z) h
end
structure cM (k:Nat) (A:Around):Prop where
 hd:A.handled=none
 dp:A.depth+3 * k+5 < recursionLimit
 un:A.units+16 * k+200 < cLine
theorem cM.mono {j k:Nat}{A:Around} (r:cM k A) (h:j≤k):cM j A:=⟨r.hd,by have:=r.dp;omega,by have:=r.un;omega⟩
theorem cM.deeper {k:Nat}{A:Around} (r:cM (k+1) A) (env:Env):cM k (A.deeper env) :=
 ⟨r.hd,by have:=r.dp;show A.depth+1+3 * k+5 < _;omega,by have:=r.un;show A.units+3+16 * k+200 < _;omega⟩
theorem um {A:Around}{C:Addr}{us:List Value}{kw:List (Str×Value)}:(A.under (.builtin "type.__call__" ⟨.ref C :: us,kw⟩)).depth=A.depth+1:=by
 first | rfl | simp[Around.under,Code.weight,Code.isCreation,Code.isGuard,Code.isCaller,Code.frames,Code.isFrame,guardIds]
theorem uo {A:Around}{C:Addr}{us:List Value}{kw:List (Str×Value)}:(A.under (.builtin "type.__call__" ⟨.ref C :: us,kw⟩)).units=A.units+1:=by
 first | rfl | simp[Around.under,Code.cUnits,Code.frames,Code.isFrame]
theorem cM.make {k:Nat}{A:Around} (r:cM (k+1) A) (C:Addr) (us:List Value) (kw:List (Str×Value)):cM k (A.under (.builtin "type.__call__" ⟨.ref C :: us,kw⟩)) :=
 ⟨r.hd,by have:=r.dp;rw[um];omega,by have:=r.un;rw[uo];omega⟩
theorem cM.depth {k:Nat}{A:Around} (r:cM k A):A.depth < recursionLimit:=by have:=r.dp;omega
theorem cM.units {k:Nat}{A:Around} (r:cM k A):A.units+64 < cLine:=by have:=r.un;omega
theorem cM.cy {k:Nat}{A:Around} (r:cM k A):A.units < cLine:=by have:=r.un;omega
def Dy:TA:=fun _ H Q=>Q [] H
def Ae (ta:TE) (tr:TA):TA:=fun σ H Q=>ta σ H fun x H1=>tr σ H1 fun xs H2=>Q (x :: xs) H2
section
variable {X:Cx}{e:Expr}{es:List Expr}{te:TE}{t:TA}{pos:Pos}
theorem ak:PA X [] Dy:=fun _ _ _ _ H Q I h=>Calls.spliced_nil ⟨[],H,I,.nil,h⟩
theorem af (ha:PE X e te) (hr:PA X es t) (hs:starEach (e :: es) X.env=(false,eval e X.env) :: starEach es X.env:=by rfl):PA X (e :: es) (Ae te t):=by
 intro pos pins s σ H Q I h
 rw[hs]
 show wpAny _ _ (spliced ((false,eval e X.env) :: backTo pos (starEach es X.env))) _ _ s
 refine Calls.spliced_cons (cg (ha pins s σ H _ I h) fun u s1 ⟨x,H1,I1,r1,q1⟩=>?_)
 exact cg (hr pos pins s1 σ H1 _ I1 q1) fun us s2 ⟨xs,H2,I2,r2,q2⟩=>⟨x :: xs,H2,I2,.cons r1 r2,q2⟩
def IG (t:TA):TE:=fun σ H Q=>t σ H fun xs H1=>xs.length≤sizeLine∧∀ p,H1 p=none→Q (.ref p) (upd H1 p (.tup xs))
def II (t:TA):TE:=fun σ H Q=>t σ H fun xs H1=>xs.length≤sizeLine∧∀ p,H1 p=none→Q (.ref p) (upd H1 p (.lst xs))
theorem ig {x1} (h:PA X es t):PE X (.Tuple es x1 pos) (IG t):=by
 intro pins s σ H Q I hq
 refine wpAny_Tuple_spliced (cg (h pos pins s σ H _ I hq) fun us s1 ⟨xs,H1,I1,r,z,q⟩=>⟨by rw[←r.length];exact z,?_⟩)
 have hf:H1 s1.heap.objs.size=none:=I1.hok.fresh (Nat.le_refl _)
 refine⟨.ref s1.heap.objs.size,upd H1 s1.heap.objs.size (.tup xs),I1.laid (t':=s1.toks) (fun b u e=>Heap.get?_push_of_some _ e) (Nat.le_refl _) ?_,rfl,q _ hf⟩
 exact⟨z,us,r,⟨_,Heap.get?_push_size _ rfl,rfl,_,rfl⟩⟩
theorem cX (h:PA X es t):PE X (.List es pos) (II t):=by
 intro pins s σ H Q I hq
 refine wpAny_List_spliced (cg (h pos pins s σ H _ I hq) fun us s1 ⟨xs,H1,I1,r,z,q⟩=>⟨by rw[←r.length];exact z,?_⟩)
 have hf:H1 s1.heap.objs.size=none:=I1.hok.fresh (Nat.le_refl _)
 refine⟨.ref s1.heap.objs.size,upd H1 s1.heap.objs.size (.lst xs),I1.laid (t':=s1.toks) (fun b u e=>Heap.get?_push_of_some _ e) (Nat.le_refl _) ?_,rfl,q _ hf⟩
 exact⟨z,us,0,r,Heap.get?_push_size _ rfl⟩
end
abbrev Sp:=List V→Hp→VK→XK→Prop
abbrev xQ:=List Env→Hp→Shared→XK→Value→Shared→Prop
structure pW (P:Program) (w:World) (K:W.Frag) (mg:Str→Option Value) (base:Heap) (A:Around) (outer:List Env) (s:Shared) (H:Hp):Prop where
 frames:A.frames=some outer
 mod:Mod K mg base
 bs:∀ b o,base.get? b=some o→s.heap.get? b=some o∧H b=none
 zL:base.objs.size≤s.heap.objs.size
 ju:s.heap.FunFrames base outer
 BC:∀ b∈frs outer,H b=none
 hok:kD P w H s.heap
 bare:AllBare s.gens
def CE (outer:List Env) (P:Program) (w:World) (H:Hp) (s:Shared) (Q:VK) (u:Value) (s':Shared):Prop :=
 ∃ v H',s'.os=s.os∧AllBare s'.gens∧Un (frs outer) [] H H' s.heap s'.heap∧kD P w H' s'.heap∧RelV v u∧Q v H'
def CR (CX:xQ) (outer:List Env) (P:Program) (w:World) (H:Hp) (s:Shared) (Q:VK) (E:XK) (r:Result) (s':Shared):Prop :=
 match r with
 | .ok (.ret u)=>CE outer P w H s Q u s'
 | .ok _=>False
 | .error e=>CX outer H s E e s'
structure bg (P:Program) (w:World) (K:W.Frag) (mg:Str→Option Value) (base:Heap) (CX:xQ) (k:Nat) (f:Addr) (fd:FuncData) (ps:List Str) (sp:Sp):Prop where
 len:∀ vs H Q E,sp vs H Q E→vs.length=ps.length
 run:∀(A:Around) (outer:List Env) (s:Shared) (H:Hp) (args:Args) (us:List Value) (vs:List V) (Q:VK) (E:XK),cM k A→pW P w K mg base A outer s H→BindsTo s fd args (ps.zip us)→Vals vs us→sp vs H Q E →
  codeAny (model P w) A (.call (.ref f) args) (CR CX outer P w H s Q E) s
theorem pW.make {P:Program}{w:World}{K:W.Frag}{mg:Str→Option Value}{base:Heap}{A:Around}{outer:List Env}{s:Shared}{H:Hp} (e:pW P w K mg base A outer s H) (C:Addr) (us:List Value) (kw:List (Str×Value)) :
 pW P w K mg base (A.under (.builtin "type.__call__" ⟨.ref C :: us,kw⟩)) outer s H:=⟨by first | exact e.frames | (simpa [Around.under,Code.envs,Code.isFrame,pushEnvs] using e.frames),e.mod,e.bs,e.zL,e.ju,e.BC,e.hok,e.bare⟩
section
variable {X:Cx}{pins:List (Addr×Obj)}{σ:St}{H:Hp}{s s':Shared}
theorem Inv.B7 (I:Inv X pins σ H s):pW X.prog X.w X.K X.mg X.base X.A X.stack s H :=
 ⟨I.ok.frames,I.ok.mod,I.bs,Nat.le_trans I.ok.zL I.sz,I.stack,I.pS,I.hok,I.bare⟩
theorem Inv.after {Q:VK}{u:Value} (I:Inv X pins σ H s) (h:CE X.stack X.prog X.w H s Q u s'):EP X pins σ Q u s':=by
 obtain⟨v,H',os,bare,un,hok,r,q⟩:=h
 obtain⟨hh,g,d,t,os'⟩:=s'
 obtain rfl:os'=s.os:=os
 exact⟨v,H',I.call (h':=hh) (g':=g) (d':=d) (t':=t) (ch:=[]) un hok bare (fun b z=>absurd z (by simp)),r,q⟩
end
def wZ (sp:Sp) (kF:List V) (E:XK) (t:TA):TE:=fun σ H Q=>t σ H fun vs H1=>sp (vs++kF) H1 Q E
def Ft (C:Addr) (m:Str) (sp:Sp) (kF:List V) (E:XK) (ta:TE) (t:TA):TE:=fun σ H Q=>ta σ H fun x H1=>∃ a dx fs,x=.ref a∧H1 a=some (.ins C dx fs)∧fs.lookup m=none ∧
 t σ H1 fun vs H2=>sp (x :: (vs++kF)) H2 Q E
def Fv (C:Addr) (sp:Sp) (kF:List V) (E:XK) (t:TA):TE:=fun σ H Q=>t σ H fun vs H1=>∀ x dx,H1 x=none→H1 dx=none→dx≠x →
 sp (.ref x :: (vs++kF)) (upd (upd H1 dx (.own x)) x (.ins C dx [])) (fun v H2=>v=.non∧Q (.ref x) H2) E
def Binds (K:W.Frag) (fd:FuncData) (ps:List Str) (ds:List Value):Prop :=
 ∀(s:Shared) (us:List Value),K.In s.heap→(us++ds).length=ps.length→BindsTo s fd ⟨us,[]⟩ (ps.zip (us++ds))
theorem Binds.all {K:W.Frag}{fd:FuncData}{ps:List Str} (h:∀ us:List Value,us.length=ps.length→bindArgs fd ⟨us,[]⟩=pure (ps.zip us)):Binds K fd ps []:=fun s us _ hl=>by
 rw[List.append_nil] at hl ⊢
 exact .of_eq (h us hl)
def Passes (CX:xQ) (X:Cx) (E:XK):Prop:=∀(pins:List (Addr×Obj)) (σ:St) (H:Hp) (s:Shared) (e:Value) (s':Shared),Inv X pins σ H s→CX X.stack H s E e s'→X.xe e s'
section
variable {X:Cx}{CX:xQ}{k:Nat}{f C:Addr}{fd:FuncData}{ps:List Str}{sp:Sp}{kF:List V}{ds:List Value}{E:XK}{x m:Str}{p pos apos:Pos}{e o:Expr}{es:List Expr}{ta:TE}{t:TA}
theorem Af {pins:List (Addr×Obj)}{σ:St}{H:Hp}{s:Shared}{Q:VK}{us:List Value}{vs:List V} (F:bg X.prog X.w X.K X.mg X.base CX k f fd ps sp) (hr:cM k X.A) (hb:Binds X.K fd ps ds) (hd:Vals kF ds) (hx:Passes CX X E)
  (I:Inv X pins σ H s) (r:Vals vs us) (h:sp (vs++kF) H Q E):wpAny (model X.prog X.w) X.A (call (.ref f) us) (EP X pins σ Q) X.xe s:=by
 have r2:Vals (vs++kF) (us++ds):=r.append hd
 have hl:(us++ds).length=ps.length:=by rw[←r2.length];exact F.len _ _ _ _ h
 refine wpAny_call (codeAny_mono (F.run X.A X.stack s H ⟨us,[]⟩ (us++ds) (vs++kF) Q E hr I.B7 (hb s us I.iJ hl) r2 h) fun r s' hq=>?_)
 cases r with
 | error e=>exact hx pins σ H s e s' I hq
 | ok fl =>
  cases fl with
  | ret u=>exact I.after hq
  | next=>exact False.elim hq
  | brk=>exact False.elim hq
  | cont=>exact False.elim hq
theorem pX (F:bg X.prog X.w X.K X.mg X.base CX k f fd ps sp) (hr:cM k X.A) (hg:Gl X x) (hm:X.mg x=some (.ref f)) (hk:W.keepIn X.K (.ref f)=true) (hb:Binds X.K fd ps ds) (hd:Vals kF ds) (hx:Passes CX X E)
  (ha:PA X (e :: es) t) (hdb:(x == ("__debug__" : Str))=false:=by decide) (he:starEach (e :: es) X.env=(false,eval e X.env) :: starEach es X.env:=by rfl) (hpl:(backTo pos (starEach es X.env)).any (·.1)=false:=by rfl) :
  PE X (.Call (.Name x p) (e :: es) [] pos) (wZ sp kF E t):=by
 intro pins s σ H Q I h
 refine wpAny_Call_Name_kw (gn I hg hm ?_ hdb)
 refine W.callWith_K (h₀:=X.base) I.ok.mod.kG hk (cg (ha pos pins s σ H _ I h) fun us s1 ⟨vs,H1,I1,r,q⟩=>⟨I1.iJ,?_⟩) he hpl
 exact Af F hr hb hd hx I1 r q
theorem Ag {pl:Sem Bool} (he:PE X o ta) (c:BF X.K C) (hm:Meth X.K C m f) (F:bg X.prog X.w X.K X.mg X.base CX k f fd ps sp) (hr:cM k X.A) (hb:Binds X.K fd ps ds) (hd:Vals kF ds) (hx:Passes CX X E)
  (ht:eval (.Call (.Attribute o m apos) [] [] pos) X.env=(do
   let ov ←eval o X.env
   standAt apos.atName
   let (f,first) ←holding [ov] (getMethod ov m pl)
   callWith pos f first (backTo pos (starEach [] X.env)) (backToKw pos (keywordEach [] X.env))):=by rfl) :
  PE X (.Call (.Attribute o m apos) [] [] pos) (Ft C m sp kF E ta Dy):=by
 intro pins s σ H Q I h
 refine W.methodCall_KW (pl:=pl) (cg (he pins s σ H _ I h) fun u s1 ⟨x,H1,I1,rx,a,dx,fs,ex,ea,l,q⟩=>?_) ht
 subst ex
 obtain rfl:u=Value.ref a:=rx
 refine ug I1 ea c hm l ?_
 exact W.callWith_K0 (first:=[.ref a]) I1.iJ hm.kp (Af (us:=[.ref a]) (vs:=[.ref a]) F hr hb hd hx I1 (.cons rfl .nil) q)
structure Mk (K:W.Frag) (C f:Addr):Prop where
 makes:W.makesIn K C=true
 init:W.findIn K (.ref C) "__init__" = some (some (.ref f))
 fn:W.isFn K (.ref f)=true
 kp:W.keepIn K (.ref C)=true
theorem Ah {pins:List (Addr×Obj)}{σ:St}{H:Hp}{s:Shared}{Q:VK}{us:List Value}{vs:List V} (M:Mk X.K C f) (F:bg X.prog X.w X.K X.mg X.base CX k f fd ps sp) (hr:cM (k+1) X.A) (hb:Binds X.K fd ps ds) (hd:Vals kF ds)
  (hx:Passes CX X E) (I:Inv X pins σ H s) (r:Vals vs us)
  (h:∀ x dx,H x=none→H dx=none→dx≠x→sp (.ref x :: (vs++kF)) (upd (upd H dx (.own x)) x (.ins C dx [])) (fun v H2=>v=.non∧Q (.ref x) H2) E) :
  wpAny (model X.prog X.w) X.A (call (.ref C) us) (EP X pins σ Q) X.xe s:=by
 have hq:=h (s.heap.objs.size+1) s.heap.objs.size (I.hok.fresh (Nat.le_succ _)) (I.hok.fresh (Nat.le_refl _)) (Nat.ne_of_lt (Nat.lt_succ_self _))
 have I2:=Inv.made (C:=C) I
 have r2:Vals (V.ref (s.heap.objs.size+1) :: (vs++kF)) (Value.ref (s.heap.objs.size+1) :: (us++ds)):=.cons rfl (r.append hd)
 have hl:(Value.ref (s.heap.objs.size+1) :: us++ds).length=ps.length:=by
  have e:=r2.length
  rw[F.len _ _ _ _ hq] at e
  exact e.symm
 refine wpAny_call (Ad (f:=f) I.iJ M.makes M.init (beq_iff_eq.mp M.fn) (codeAny_mono (F.run _ X.stack _ _ ⟨Value.ref (s.heap.objs.size+1) :: us,[]⟩ (Value.ref (s.heap.objs.size+1) :: (us++ds)) _ _ E (hr.make C us [])
  (I2.B7.make C us []) (hb _ (Value.ref (s.heap.objs.size+1) :: us) I2.iJ hl) r2 hq) fun r s' hq'=>?_))
 cases r with
 | error e=>exact hx pins σ _ _ e s' I2 hq'
 | ok fl =>
  cases fl with
  | ret u =>
   obtain⟨v,H',I3,rv,ev,q3⟩:=I2.after hq'
   subst ev
   exact⟨rv,⟨V.ref (s.heap.objs.size+1),H',I3,rfl,q3⟩⟩
  | next=>exact False.elim hq'
  | brk=>exact False.elim hq'
  | cont=>exact False.elim hq'
theorem B8 (M:Mk X.K C f) (F:bg X.prog X.w X.K X.mg X.base CX k f fd ps sp) (hr:cM (k+1) X.A) (hg:Gl X x) (hm:X.mg x=some (.ref C)) (hb:Binds X.K fd ps ds) (hd:Vals kF ds) (hx:Passes CX X E)
  (ha:PA X (e :: es) t) (hdb:(x == ("__debug__" : Str))=false:=by decide) (he:starEach (e :: es) X.env=(false,eval e X.env) :: starEach es X.env:=by rfl) (hpl:(backTo pos (starEach es X.env)).any (·.1)=false:=by rfl) :
  PE X (.Call (.Name x p) (e :: es) [] pos) (Fv C sp kF E t):=by
 intro pins s σ H Q I h
 refine wpAny_Call_Name_kw (gn I hg hm ?_ hdb)
 refine W.callWith_K (h₀:=X.base) I.ok.mod.kG M.kp (cg (ha pos pins s σ H _ I h) fun us s1 ⟨vs,H1,I1,r,q⟩=>⟨I1.iJ,?_⟩) he hpl
 exact Ah M F hr hb hd hx I1 r q
end
section
variable {X:Cx}{CX:xQ}{k:Nat}{f C:Addr}{fd:FuncData}{ps ks:List Str}{sp:Sp}{E:XK}{x m:Str}{p pos apos kpos:Pos}{e o:Expr}{es:List Expr}{kws:List Keyword}{te ta:TE}{t tk:TA}{nm:Option Str}
variable {g:List Value→List Value→List Value}{gV:List V→List V→List V}
end
structure aU (N P:List Str) (sc:Scope):Prop where
 kind:sc.kind=.function
 co:sc.isCoroutine=false
 gen:sc.isGenerator=false
 nd:N.Nodup
 pre:N.take P.length=P
 par:∀ x∈P,sc.names.lookup x=some .local∨sc.names.lookup x=some .cell
 Dz:∀ y∈sc.names,y.2≠.free
theorem pB {kindOf:Str→Option NameKind}{x:Str}:∀{binds:List (Str×Value)}{m:Str→Option Value},(∀ v,(x,v)∉binds)→bindL kindOf binds m x=m x
 | [],_,_=>rfl
 | (n,v) :: r,m,h=>by
  unfold bindL
  rw[pB fun w hw=>h w (List.mem_cons_of_mem _ hw)]
  split
  ·have:x≠n:=by rintro rfl;exact h v List.mem_cons_self
   simp[this]
  ·rfl
theorem pC {kindOf:Str→Option NameKind}{x:Str}:∀{binds:List (Str×Value)}{m:Str→Option Value},(∀ v,(x,v)∉binds)→bindC kindOf binds m x=m x
 | [],_,_=>rfl
 | (n,v) :: r,m,h=>by
  unfold bindC
  rw[pC fun w hw=>h w (List.mem_cons_of_mem _ hw)]
  split
  ·rfl
  ·have:x≠n:=by rintro rfl;exact h v List.mem_cons_self
   simp[this]
theorem pD {kindOf:Str→Option NameKind}{x:Str}{v:Value}:∀{P:List Str}{vs:List Value}{i:Nat}{m:Str→Option Value},P.Nodup→P[i]? = some x→vs[i]? = some v→kindOf x=some .local →
  bindL kindOf (P.zip vs) m x=some v
 | [],_,_,_,_,h,_,_=>by simp at h
 | _ :: _,[],_,_,_,_,h,_=>by simp at h
 | p :: P,w :: vs,0,m,nd,h1,h2,hk=>by
  simp at h1 h2;subst h1;subst h2
  show bindL kindOf ((p,w) :: P.zip vs) m p=_
  unfold bindL
  rw[pB fun v hv=>(List.nodup_cons.mp nd).1 (List.of_mem_zip hv).1,if_pos hk]
  simp
 | p :: P,w :: vs,i+1,m,nd,h1,h2,hk=>by
  show bindL kindOf ((p,w) :: P.zip vs) m x=_
  unfold bindL
  exact pD (i:=i) (List.nodup_cons.mp nd).2 (by simpa using h1) (by simpa using h2) hk
theorem pF {kindOf:Str→Option NameKind}{x:Str}{v:Value}:∀{P:List Str}{vs:List Value}{i:Nat}{m:Str→Option Value},P.Nodup→P[i]? = some x→vs[i]? = some v→kindOf x≠some .local →
  bindC kindOf (P.zip vs) m x=some v
 | [],_,_,_,_,h,_,_=>by simp at h
 | _ :: _,[],_,_,_,_,h,_=>by simp at h
 | p :: P,w :: vs,0,m,nd,h1,h2,hk=>by
  simp at h1 h2;subst h1;subst h2
  show bindC kindOf ((p,w) :: P.zip vs) m p=_
  unfold bindC
  rw[pC fun v hv=>(List.nodup_cons.mp nd).1 (List.of_mem_zip hv).1,if_neg hk]
  simp
 | p :: P,w :: vs,i+1,m,nd,h1,h2,hk=>by
  show bindC kindOf ((p,w) :: P.zip vs) m x=_
  unfold bindC
  exact pF (i:=i) (List.nodup_cons.mp nd).2 (by simpa using h1) (by simpa using h2) hk
def start (N:List Str) (vs:List V):St:=vs.map some++List.replicate (N.length - vs.length) none
def jx (CX:xQ) (P:Program) (w:World) (K:W.Frag) (mg:Str→Option Value) (base:Heap) (N:List Str) (qual:Str) (scope:Scope) (f:Addr) (cd:Value) (A:Around) (outer:List Env) (s:Shared) (H:Hp) (E:XK):Cx where
 prog:=P
 w:=w
 K:=K
 mg:=mg
 base:=base
 A:=A.deeper (envOfC qual scope s.heap.objs.size f cd)
 N:=N
 s₀:=s
 H₀:=H
 env:=envOfC qual scope s.heap.objs.size f cd
 outer:=outer
 stack:=envOfC qual scope s.heap.objs.size f cd :: outer
 ex:=[]
 calm:=true
 fn:=fun _=>true
 pn:=[]
 xe:=fun e s'=>wpAny (model P w) (A.deeper (envOfC qual scope s.heap.objs.size f cd)) (leaving (envOfC qual scope s.heap.objs.size f cd) e) (fun _ s''=>CX outer H s E e s'') (fun e' s''=>CX outer H s E e' s'') s'
theorem rP {sc:Scope}{n:Nat}{x:Str} (h:sc.names.lookup x=some .cell):∃ c,(cellsFrom n sc.names []).lookup x=some c:=by
 have q:=W.cellsFrom_some sc.names n [] (.inl h)
 exact Option.isSome_iff_exists.mp q
theorem pG {CX:xQ}{P:Program}{w:World}{K:W.Frag}{mg:Str→Option Value}{base:Heap}{N ps:List Str}{qual:Str}{scope:Scope}{f:Addr}{cd:Value}{A:Around}{outer:List Env}{s s1:Shared}{H:Hp}{E:XK}{us:List Value}{vs:List V}
  (S:aU N ps scope) (hd:A.handled=none) (e0:pW P w K mg base A outer s H) (hl:vs.length=ps.length) (r:Vals vs us)
  (x:InCallC s s.heap.objs.size (bindL (envOfC qual scope s.heap.objs.size f cd).kindOf (ps.zip us) fun _=>none) (cellsFrom (s.heap.objs.size+1) scope.names []) (bindC (envOfC qual scope s.heap.objs.size f cd).kindOf (ps.zip us) fun _=>none) s1) :
  Inv (jx CX P w K mg base N qual scope f cd A outer s H E) [] (start N vs) H s1:=by
 have hpl:ps.length≤N.length:=by have:=congrArg List.length S.pre;rw[List.length_take] at this;omega
 obtain⟨h1,tk,rfl,hk⟩:=x.done
 have Fw:∀ b:Addr,b∉(jx CX P w K mg base N qual scope f cd A outer s H E).ex:=fun b z=>absurd (show b∈([]:List Addr) from z) (by simp)
 refine⟨⟨e0.mod,S.kind,rfl,rfl,Nat.le_refl _,fun y z c h1 h2=>?_,fun y hy=>?_,fun y c _ h=>?_,fun _=>hd,Around.frames_deeper e0.frames,.inr ⟨rfl,rfl⟩,fun b z=>absurd z (Fw b),e0.bs,e0.zL,fun b _ _=>Fw b,fun b z=>absurd z (Fw b),e0.ju,e0.BC⟩,
  rfl,e0.bare,Un.kept hk,⟨_,x.toInCall.ns,fun i y v h1 h2 h3=>?_⟩,fun y c h=>⟨_,x.cell y c h⟩,e0.hok.fresh (Nat.le_refl _),fun y c h=>?_,fun p hp=>absurd (show p∈([]:List (Addr×Obj)) from hp) (by simp),e0.hok.kept hk,?_⟩
 ·exact name_of_addr x.apart (PySem.mem_of_lookup h1) (PySem.mem_of_lookup h2)
 ·have hy:scope.names.lookup y=some .cell∨scope.names.lookup y=some .free:=hy
  rcases hy with hy | hy
  ·exact rP hy
  ·exact absurd rfl (S.Dz _ (PySem.mem_of_lookup hy))
 ·exact Nat.le_of_lt (x.above y c (PySem.mem_of_lookup h))
 ·have hi:i < vs.length:=by
   unfold start at h2
   by_cases hi:i < vs.length
   ·exact hi
   ·rw[List.getElem?_append_right (by simpa using hi)] at h2
    rw[List.getElem?_replicate] at h2
    split at h2 <;> cases h2
  have ha:vs[i]? = some v:=by
   unfold start at h2
   rw[List.getElem?_append_left (by simpa using hi),List.getElem?_map] at h2
   cases e:vs[i]? with
   | none=>rw[e] at h2;cases h2
   | some a=>rw[e] at h2;cases h2;rfl
  obtain⟨u,hu,rv⟩:=r.get ha
  have hp:ps[i]? = some y:=by
   rw[←S.pre,List.getElem?_take_of_lt (by omega)];exact h1
  have KZ:ps.Nodup:=by rw[←S.pre];exact S.nd.sublist (List.take_sublist _ _)
  refine⟨u,rv,?_⟩
  rcases S.par y (List.mem_of_getElem? hp) with k | k
  ·exact .inl ⟨k,pD KZ hp hu k⟩
  ·obtain⟨c,e⟩:=rP (n:=s.heap.objs.size+1) k
   refine .inr ⟨.inl k,c,e,?_⟩
   have q:=x.cell y c e
   rw[pF KZ hp hu (by show scope.names.lookup y≠_;rw[k];decide)] at q
   exact q
 ·exact e0.hok.fresh (Nat.le_of_lt (x.above y c (PySem.mem_of_lookup h)))
 ·unfold start
  show _=N.length
  rw[List.length_append,List.length_map,List.length_replicate]
  omega
theorem Ai {CX:xQ}{P:Program}{w:World}{K:W.Frag}{mg:Str→Option Value}{base:Heap}{k:Nat}{f:Addr}{name qual:Str}{params:Arguments}{body:List Stmt}{scope:Scope}{dV kV doc pm cdv ct oc:Value}{an od:Option Addr}
  {osl:Array (Option Value)}{N ps:List Str}{sp:Sp} (lk:K.lookup f=some ⟨oc,od,.func (W.fnOf name qual params body scope dV kV doc pm an cdv ct),osl⟩) (hcd:W.codeIn K cdv qual=true) (S:aU N ps scope)
  (len:∀ vs H Q E,sp vs H Q E→vs.length=ps.length)
  (hbody:∀(A:Around) (outer:List Env) (s:Shared) (H:Hp) (vs:List V) (Q:VK) (E:XK),cM k (A.deeper (envOfC qual scope s.heap.objs.size f cdv))→sp vs H Q E →
   ∃ t,rM (jx CX P w K mg base N qual scope f cdv A outer s H E) body t∧t { nx:=fun _ H'=>Q .non H',rt:=Q } (start N vs) H) :
  bg P w K mg base CX (k+1) f (W.fnOf name qual params body scope dV kV doc pm an cdv ct) ps sp:=by
 refine⟨len,fun A outer s H args us vs Q E hr e0 hb r uq=>?_⟩
 have hl:=len _ _ _ _ uq
 have KX:K.In s.heap:=e0.mod.kG.keeps fun b o e=>(e0.bs b o e).1
 have lim:s.heap.NoLimit:=e0.mod.nolimit.keeps fun b o e=>(e0.bs b o e).1
 have hkind:∀ y∈ps.zip us,scope.names.lookup y.1=some .local∨(scope.names.lookup y.1=some .cell∧((cellsFrom (s.heap.objs.size+1) scope.names []).lookup y.1).isSome=true):=fun ⟨n,v⟩ hy=>by
  rcases S.par n (List.of_mem_zip hy).1 with q | q
  ·exact .inl q
  ·exact .inr ⟨q,W.cellsFrom_some _ _ _ (.inl q)⟩
 refine codeAny_call_function hr.depth (KX _ _ lk) rfl S.co S.gen rfl (W.codeRec_of KX hcd) (hb _ _ _ _ ?_)
 refine wpAny_newFunctionEnv_cells S.kind hkind fun env he s1 x=>?_
 subst he
 refine⟨lim.keeps x.toInCall.keep,codeAny_func ?_⟩
 obtain⟨t,ht,hq⟩:=hbody A outer s H vs Q E (hr.deeper _) uq
 have I:Inv (jx CX P w K mg base N qual scope f cdv A outer s H E) [] (start N vs) H s1:=pG S hr.hd e0 hl r x
 refine wpAny_mono (ht [] s1 (start N vs) H _ I hq) (fun fl s' hs=>?_) fun e s' hs=>hs
 have fin:∀{σ':St}{H':Hp}{v:V}{u:Value},Inv (jx CX P w K mg base N qual scope f cdv A outer s H E) [] σ' H' s'→RelV v u→Q v H'→CE outer P w H s Q u s' :=
  fun {σ' H' v u} J rv q=>⟨v,H',J.os,J.bare,J.base,J.hok,rv,q⟩
 cases fl with
 | ret u =>
  obtain⟨v,σ',H',J,rv,q⟩:=hs
  exact fin J rv q
 | next =>
  obtain⟨σ',H',J,q⟩:=hs
  exact fin (v:=V.non) (u:=Value.none) J rfl q
 | brk =>
  obtain⟨_,_,_,q⟩:=hs
  exact False.elim q
 | cont =>
  obtain⟨_,_,_,q⟩:=hs
  exact False.elim q
section
variable {X:Cx}{x:Str}{p pos:Pos}{e:Expr}{es:List Expr}{t:TA}{id T:String}{r:List V→Hp→VK→Prop}
def HX (r:List V→Hp→VK→Prop) (t:TA):TE:=fun σ H Q=>t σ H fun vs H1=>r vs H1 Q
theorem Aj (hc:eH X (.builtin id) r) (hg:Gl X x) (hm:X.mg x=none) (hv:bootBuiltins x=some (.builtin id)) (ha:PA X (e :: es) t) (hn:x ≠ "__name__" := by decide) (hdb:(x == ("__debug__" : Str))=false:=by decide)
  (he:starEach (e :: es) X.env=(false,eval e X.env) :: starEach es X.env:=by rfl) (hpl:(backTo pos (starEach es X.env)).any (·.1)=false:=by rfl):PE X (.Call (.Name x p) (e :: es) [] pos) (HX r t):=by
 intro pins s σ H Q I h
 refine wpAny_Call_Name_kw (mW I hg hm hv ?_ hn hdb)
 exact PyProof.Rows.callWith_builtin1 (cg (ha pos pins s σ H _ I h) fun us s1 ⟨vs,H1,I1,r1,q1⟩=>hc pins s1 σ H1 vs us Q I1 r1 q1) he hpl
theorem xR (hc:eH X (.type T) r) (hg:Gl X x) (hm:X.mg x=none) (hv:bootBuiltins x=some (.type T)) (ha:PA X (e :: es) t) (hn:x ≠ "__name__" := by decide) (hdb:(x == ("__debug__" : Str))=false:=by decide)
  (he:starEach (e :: es) X.env=(false,eval e X.env) :: starEach es X.env:=by rfl) (hpl:(backTo pos (starEach es X.env)).any (·.1)=false:=by rfl):PE X (.Call (.Name x p) (e :: es) [] pos) (HX r t):=by
 intro pins s σ H Q I h
 refine wpAny_Call_Name_kw (mW I hg hm hv ?_ hn hdb)
 exact PyProof.Rows.callWith_type1 (cg (ha pos pins s σ H _ I h) fun us s1 ⟨vs,H1,I1,r1,q1⟩=>hc pins s1 σ H1 vs us Q I1 r1 q1) he hpl
end
end L2
namespace HT
open PySem PyProof.Rows
section
open PySem.SeqAt
open PySem.AutoSeq1 (wpAny_loadPart')
open PySem.MeetsSeq PySem.MeetsSeq2 PySem.MeetsSeq3
end
section
variable {prog:Program}{w:World}{A:Around}{E:Value→Shared→Prop}{s:Shared}
theorem B9 {t b:Addr}{vs ws:List Value}{Q:Value→Shared→Prop} (ht:IsTup s.heap t vs.toArray) (hb:IsTup s.heap b ws.toArray) (hv:vs≠[])
  (h1:ws=[]→Q (.ref t) s) (h2:ws≠[]→Q (.ref s.heap.objs.size) { s with heap:=s.heap.push { cls:=.type "tuple",data:=.seq (vs++ws).toArray } })
  (hsz:vs.length+ws.length≤sizeLine):wpAny (model prog w) A (binaryOp .Add (.ref t) (.ref b)) Q E s:=by
 obtain⟨⟨cls,dd,data,sl⟩,ho,hc,n,hd⟩:=id ht
 obtain⟨⟨MD,dd2,data2,sl2⟩,ho2,hc2,n2,hd2⟩:=id hb
 simp only at hc hd hc2 hd2
 subst hc hd hc2 hd2
 have e:vs.toArray++ws.toArray=(vs++ws).toArray:=by simp
 by_cases hw:ws=[]
 ·exact concat_meets ⟨_,ho,rfl⟩ ⟨_,ho2,rfl⟩ noFill_tuple_add seq_tuple_add PySem.F.slot_tuple_add PySem.F.entry_tuple_add (PySem.F.args_tuple_add_2 _ _)
   (tuple_addW1 t b vs.toArray ws.toArray n n2 dd dd2 sl sl2 (by simpa using hv) (by simp[hw])) ⟨ho,ho2,h1 hw⟩
 ·refine concat_meets ⟨_,ho,rfl⟩ ⟨_,ho2,rfl⟩ noFill_tuple_add seq_tuple_add PySem.F.slot_tuple_add PySem.F.entry_tuple_add (PySem.F.args_tuple_add_2 _ _)
   (tuple_addW2 t b vs.toArray ws.toArray n n2 dd dd2 sl sl2 (by simpa using hv) (by simpa using hw) (by rw[List.size_toArray,List.size_toArray];exact hsz)) ⟨ho,ho2,?_⟩
  rw[e]
  exact h2 hw
def dm (n d:Nat):Option Int→Nat
 | none=>d
 | some v=>if v < 0 then (v+(n:Int)).toNat else min v.toNat n
theorem DA (n d:Nat) (hd:d≤n) (o:Option Int):dm n d o≤n:=by
 cases o with
 | none=>exact hd
 | some v =>
  show(if v < 0 then (v+(n:Int)).toNat else min v.toNat n)≤n
  by_cases hv:v < 0
  ·rw[if_pos hv];omega
  ·rw[if_neg hv];exact Nat.min_le_right _ _
theorem w5 (v:Int) (n d:Nat):(if v < 0 then max (v+(n:Int)) 0 else min v (n:Int))=((dm n d (some v):Nat):Int):=by
 show(if v < 0 then max (v+(n:Int)) 0 else min v (n:Int))=(((if v < 0 then (v+(n:Int)).toNat else min v.toNat n):Nat):Int)
 by_cases hv:v < 0
 ·simp only[if_pos hv];omega
 ·simp only[if_neg hv];omega
theorem ur (lo hi:Option Int) (n:Nat):Builtin.Slice.sliceAdjust lo hi 1 (n:Int)=(((dm n 0 lo:Nat):Int),((dm n n hi:Nat):Int)):=by
 have h1:¬((1:Int) < 0):=by omega
 unfold Builtin.Slice.sliceAdjust
 simp only[h1,if_false]
 refine Prod.ext ?_ ?_
 ·cases lo with
  | none=>rfl
  | some v=>exact w5 v n 0
 ·cases hi with
  | none=>rfl
  | some v=>exact w5 v n n
theorem uu (i j:Nat):Builtin.Slice.slicePlaces (i:Int) (j:Int) 1=j - i:=by
 unfold Builtin.Slice.slicePlaces
 have h1:(1:Int) > 0:=by omega
 simp only[h1,if_true,Int.ediv_one]
 split <;> omega
theorem m8 {v:Value}{o:Option Int}{Q:Option Int→Shared→Prop} (p:IsPart v o) (h:Q o s):wpAny (model prog w) A (Builtin.Slice.slicePartIndex v) Q E s:=by
 cases p with
 | none=>exact slicePart_none h
 | int i t=>exact slicePart_int h
theorem kL {sl:Addr}{vl vu:Value}{lo hi:Option Int}{n:Nat}{Q:Int×Int×Nat→Shared→Prop} (hs:s.heap.IsSliceOf sl vl vu .none) (pl:IsPart vl lo) (pu:IsPart vu hi)
  (h:Q (((dm n 0 lo:Nat):Int),1,dm n n hi - dm n 0 lo) s):wpAny (model prog w) A (Builtin.Slice.sliceApplied (.ref sl) (pure (n:Int))) Q E s:=by
 obtain⟨os,hos,hcs,hds⟩:=id hs
 unfold Builtin.Slice.sliceApplied Builtin.Slice.sliceFields
 refine wpAny_bind (wpAny_bind (wpAny_field hos hds (x:=vl) rfl (wpAny_bind (wpAny_field hos hds (x:=vu) rfl (wpAny_bind (wpAny_field hos hds (x:=.none) rfl (wpAny_pure ?_)))))))
 refine wpAny_bind (slicePart_none ?_)
 show wpAny _ _ (if ((1:Int) == 0)=true then _ else _) _ _ s
 rw[if_neg (by decide)]
 refine wpAny_bind (m8 pl (wpAny_bind (m8 pu (wpAny_bind (wpAny_pure ?_)))))
 show wpAny _ _ (match Builtin.Slice.sliceAdjust lo hi 1 (n:Int) with | (lo,hi)=>pure (lo,(1:Int),Builtin.Slice.slicePlaces lo hi 1)) _ _ s
 rw[ur lo hi n]
 show wpAny _ _ (pure (((dm n 0 lo:Nat):Int),(1:Int),Builtin.Slice.slicePlaces ((dm n 0 lo:Nat):Int) ((dm n n hi:Nat):Int) 1)) _ _ s
 rw[uu]
 exact wpAny_pure h
theorem Ak (xs:Array Value) (i k:Nat):((List.range k).filterMap fun (m:Nat)=>xs[((i:Int)+(m:Int) * 1).toNat]?).toArray=((xs.toList.drop i).take k).toArray:=by
 have e:(fun (m:Nat)=>xs[((i:Int)+(m:Int) * 1).toNat]?)=fun m=>xs[i+m]? := by
  funext m
  have:((i:Int)+(m:Int) * 1).toNat=i+m:=by omega
  rw[this]
 rw[e]
 have:=pick_run xs i k
 rw[List.filterMap_map] at this
 have e2:((fun x=>xs[x]?) ∘ fun x=>i+x)=fun m=>xs[i+m]? := rfl
 rw[e2] at this
 rw[this]
theorem jP {t sl:Addr}{items:Array Value}{vl vu:Value}{lo hi:Option Int}{Q:Value→Shared→Prop} (ht:IsTup s.heap t items) (hs:s.heap.IsSliceOf sl vl vu .none) (pl:IsPart vl lo) (pu:IsPart vu hi)
  (hw:¬(dm items.size 0 lo=0∧dm items.size items.size hi=items.size))
  (h:Q (.ref s.heap.objs.size) { s with heap:=s.heap.push { cls:=.type "tuple",data:=.seq ((items.toList.drop (dm items.size 0 lo)).take (dm items.size items.size hi - dm items.size 0 lo)).toArray } })
  (hsz:items.size≤sizeLine):wpAny (model prog w) A (getItem (.ref t) (.ref sl)) Q E s:=by
 have w6:sizeOk (.seq ((items.toList.drop (dm items.size 0 lo)).take (dm items.size items.size hi - dm items.size 0 lo)).toArray):=by
  show((items.toList.drop (dm items.size 0 lo)).take (dm items.size items.size hi - dm items.size 0 lo)).toArray.size≤sizeLine
  rw[List.size_toArray,List.length_take,List.length_drop,Array.length_toList]
  omega
 have hj:dm items.size items.size hi≤items.size:=DA _ _ (Nat.le_refl _) hi
 obtain⟨os,hos,hcs,hds⟩:=id hs
 have ME:s.TypeIs (.ref sl) "slice" := ⟨os,hos,hcs⟩
 unfold getItem
 try with_reducible refine wpAny_holding ?_
 first | refine wpAny_bind (wpAny_pure ?_) | skip
 refine wpAny_bind (wpAny_sequenceKey ht.typeIs (by decide) ?_)
 refine wpAny_bind (wpAny_callSpecial?_slot (name:=Str.ofString "__getitem__") ht.typeIs PyProof.Rows.slot_tuple_getitem
  (wpAny_call_entry PyProof.Rows.slot_tuple_getitem ht.typeIs entry_tuple_getitem ?_ (args_tuple_getitem _ _)))
 show wpAny _ _ (Builtin.Tuple.tupleItemsOf (.ref t) >>= _) _ _ s
 refine wpAny_bind (tupleItemsOf_ ht ?_)
 refine wpAny_bind (wpAny_typeOf ME ?_)
 rw[if_pos (by decide)]
 refine wpAny_bind (kL hs pl pu ?_)
 have hno:¬((((dm items.size 0 lo:Nat):Int) == 0 && (1:Int) == 1 && (dm items.size items.size hi - dm items.size 0 lo) == items.size)=true):=by
  intro q
  rw[Bool.and_eq_true,Bool.and_eq_true] at q
  have q1:((dm items.size 0 lo:Nat):Int)=0:=eq_of_beq q.1.1
  have q2:dm items.size items.size hi - dm items.size 0 lo=items.size:=eq_of_beq q.2
  exact hw ⟨by omega,by omega⟩
 show wpAny _ _ (if (((dm items.size 0 lo:Nat):Int) == 0 && (1:Int) == 1 && (dm items.size items.size hi - dm items.size 0 lo) == items.size)=true then _ else _) _ _ s
 rw[if_neg hno,Ak]
 first
  | exact wpAny_bind (m:=Builtin.Tuple.tupleExact _) (wpAny_newObj_type (wpAny_pure ⟨_,rfl,wpAny_pure h⟩) w6)
  | exact wpAny_bind (m:=Builtin.Tuple.tupleExact _) (wpAny_newObj_type (wpAny_bind (wpAny_pure (wpAny_pure ⟨_,rfl,wpAny_pure h⟩))) w6)
  | exact wpAny_bind (wpAny_bind (m:=Builtin.Tuple.tupleExact _) (wpAny_newObj_type (wpAny_pure (wpAny_pure ⟨_,rfl,wpAny_pure h⟩)) w6))
  | exact wpAny_bind (wpAny_bind (m:=Builtin.Tuple.tupleExact _) (wpAny_newObj_type (wpAny_pure ⟨_,rfl,wpAny_pure h⟩) w6))
end
end HT
namespace L2
open PySem PySem.Spec PyProof.Rows
abbrev TO:=St→Hp→(Option Int→Hp→Prop)→Prop
def PO (X:Cx) (e:Option Expr) (t:TO):Prop :=
 ∀(pins:List (Addr×Obj)) (s:Shared) (σ:St) (H:Hp) (Q:Option Int→Hp→Prop),Inv X pins σ H s→t σ H Q →
  wpAny (model X.prog X.w) X.A (evalPart e X.env) (fun u s'=>∃ o H',Inv X pins σ H' s'∧IsPart u o∧Q o H') X.xe s
def Ca:TO:=fun _ H Q=>Q none H
def Fx (t:TE):TO:=fun σ H Q=>t σ H fun x H1=>∃ i,x=.int i∧Q (some i) H1
section
variable {X:Cx}{e:Expr}{te:TE}{lo hi:Option Expr}{tl th:TO}{pos p2:Pos}
theorem gu:PO X none Ca:=by
 intro pins s σ H Q I h
 rw[evalPart_none]
 exact wpAny_pure ⟨none,H,I,.none,h⟩
theorem gv (h:PE X e te):PO X (some e) (Fx te):=by
 intro pins s σ H Q I hw
 rw[evalPart_some]
 refine cg (h pins s σ H _ I hw) fun u s1 ⟨x,H1,I1,r1,q1⟩=>?_
 obtain⟨i,rfl,q⟩:=q1
 obtain⟨t,rfl⟩:=r1
 exact⟨some i,H1,I1,.int i t,q⟩
def Fy (X:Cx) (r:V→Option Int→Option Int→Hp→VK→Prop):Prop :=
 ∀(pins:List (Addr×Obj)) (s:Shared) (σ:St) (H:Hp) (x:V) (v vl vu:Value) (lo hi:Option Int) (sl:Addr) (Q:VK),Inv X pins σ H s→RelV x v→s.heap.IsSliceOf sl vl vu .none→IsPart vl lo→IsPart vu hi→r x lo hi H Q →
  ∃ T id,typeLookup (.type T) "__getitem__" = pure (some (.builtin id))∧s.TypeIs v T∧wpAny (model X.prog X.w) X.A (getItem v (.ref sl)) (EP X pins σ Q) X.xe s
def MF (r:V→Option Int→Option Int→Hp→VK→Prop) (te:TE) (tl th:TO):TE:=fun σ H Q=>te σ H fun x H1=>tl σ H1 fun l H2=>th σ H2 fun u H3=>r x l u H3 Q
theorem fD {r:V→Option Int→Option Int→Hp→VK→Prop} (hr:Fy X r) (he:PE X e te) (hl:PO X lo tl) (hu:PO X hi th):PE X (.Subscript e (.Slice lo hi none p2) pos) (MF r te tl th):=by
 intro pins s σ H Q I h
 refine Subscript_ (cg (he pins s σ H _ I h) fun v s1 ⟨x,H1,I1,r1,q1⟩=>?_)
 refine wpAny_Slice (cg (hl pins s1 σ H1 _ I1 q1) fun vl s2 ⟨l,H2,I2,pl,q2⟩=>cg (hu pins s2 σ H2 _ I2 q2) fun vu s3 ⟨u,H3,I3,pu,q3⟩=>?_)
 rw[evalPart_none]
 refine wpAny_pure ?_
 have I4:Inv X pins σ H3 { s3 with heap:=s3.heap.push { cls:=.type "slice",data:=.fields #[vl,vu,.none] } }:=I3.kept (t':=s3.toks) fun b ob q=>Heap.get?_push_of_some _ q
 obtain⟨T,id,hT,ht,hg⟩:=hr pins { s3 with heap:=s3.heap.push { cls:=.type "slice",data:=.fields #[vl,vu,.none] } } σ H3 x v vl vu l u s3.heap.objs.size Q I4 r1 (Heap.IsSliceOf.new ..) pl pu q3
 show wpAny (model X.prog X.w) X.A (subscriptTail e (.Slice lo hi none p2) v (.ref s3.heap.objs.size)) (EP X pins σ Q) X.xe { s3 with heap:=s3.heap.push { cls:=.type "slice",data:=.fields #[vl,vu,.none] } }
 exact tail_any (ops:=[.ref s3.heap.objs.size,v]) ht hT hg (by with_unfolding_all rfl)
def bY (xs:List V) (lo hi:Option Int):List V:=(xs.drop (HT.dm xs.length 0 lo)).take (HT.dm xs.length xs.length hi - HT.dm xs.length 0 lo)
theorem lz (xs:List V) (lo hi:Option Int):(bY xs lo hi).length≤xs.length:=by
 unfold bY
 rw[List.length_take,List.length_drop]
 omega
def Fz (K:W.Frag):V→Option Int→Option Int→Hp→VK→Prop:=fun x lo hi H Q=>∃ a xs,x=.ref a∧dB K H a xs ∧
 ¬(HT.dm xs.length 0 lo=0∧HT.dm xs.length xs.length hi=xs.length)∧∀ p,H p=none→Q (.ref p) (upd H p (.tup (bY xs lo hi)))
theorem DB:Fy X (Fz X.K):=by
 intro pins s σ H x v vl vu lo hi sl Q I rx hs pl pu h
 obtain⟨a,xs,rfl,hx,hw,q⟩:=h
 cases rx
 obtain⟨its,r,ht,hz⟩:=I.tuple hx
 have hlen:its.toArray.size=xs.length:=by rw[List.size_toArray];exact r.length.symm
 refine⟨"tuple",_,PyProof.Rows.slot_tuple_getitem.lookup,ht.typeIs,?_⟩
 refine HT.jP ht hs pl pu (by rw[hlen];exact hw) ?_ (by rw[hlen];exact hz)
 rw[hlen]
 refine⟨.ref s.heap.objs.size,_,I.laid (t':=s.toks) (o:=.tup (bY xs lo hi)) (fun b ob q=>Heap.get?_push_of_some _ q) (Nat.le_refl _) ?_,rfl,q _ (I.hok.fresh (Nat.le_refl _))⟩
 exact⟨Nat.le_trans (lz xs lo hi) hz,_,(r.drop (HT.dm xs.length 0 lo)).take (HT.dm xs.length xs.length hi - HT.dm xs.length 0 lo),IsTup.new _ _⟩
def C1 (K:W.Frag):R2:=fun x y H Q=>∃ a b xs ys,x=.ref a∧y=.ref b∧dB K H a xs∧dB K H b ys∧xs≠[]∧xs.length+ys.length≤sizeLine ∧
 (ys=[]→Q (.ref a) H)∧(ys≠[]→∀ p,H p=none→Q (.ref p) (upd H p (.tup (xs++ys))))
theorem Vals.pY {xs:List V}{us:List Value} (r:Vals xs us):us=[]↔xs=[]:=by
 cases r with
 | nil=>simp
 | cons _ _=>simp
theorem Cb:g8 X (binaryOp .Add) (C1 X.K):=by
 intro pins s σ H x y v u Q I rx ry h
 obtain⟨a,b,xs,ys,rfl,rfl,ha,hb,hx,hz,q1,q2⟩:=h
 cases rx
 cases ry
 obtain⟨its,r1,p1,_⟩:=I.tuple ha
 obtain⟨its2,r2,p2,_⟩:=I.tuple hb
 refine HT.B9 p1 p2 (fun z=>hx (r1.pY.mp z)) (fun z=>⟨.ref a,H,I,rfl,q1 (r2.pY.mp z)⟩) (fun z=>?_) (by rw[←r1.length,←r2.length];exact hz)
 refine⟨.ref s.heap.objs.size,_,I.laid (t':=s.toks) (o:=.tup (xs++ys)) (fun b ob q=>Heap.get?_push_of_some _ q) (Nat.le_refl _) ?_,rfl,q2 (fun w=>z (r2.pY.mpr w)) _ (I.hok.fresh (Nat.le_refl _))⟩
 exact⟨by rw[List.length_append];exact hz,_,r1.append r2,IsTup.new _ _⟩
end
def EO (n:Nat) (i:Int):Option Nat:=if 0≤i then (if i < n then some i.toNat else none) else if -(n:Int)≤i then some (i+n).toNat else none
def C2 {α:Type} (xs:List α) (i:Int):Option α:=(EO xs.length i).bind fun j=>xs[j]?
theorem Cd {n:Nat}{i:Int}{j:Nat} (h:EO n i=some j):seqIndex? i n=some j∧j < n∧-(n:Int)≤i∧i < n:=by
 unfold EO at h
 by_cases h0:0≤i
 ·rw[if_pos h0] at h
  by_cases h1:i < n
  ·rw[if_pos h1] at h
   have e:i.toNat=j:=Option.some.inj h
   exact⟨by rw[seqIndex_of h0 h1,e],by omega,by omega,h1⟩
  ·rw[if_neg h1] at h;cases h
 ·rw[if_neg h0] at h
  by_cases h1 : -(n:Int)≤i
  ·rw[if_pos h1] at h
   have e:(i+n).toNat=j:=Option.some.inj h
   exact⟨by rw[seqIndex_neg (by omega) h1,e],by omega,h1,by omega⟩
  ·rw[if_neg h1] at h;cases h
theorem pZ {α:Type}{xs:List α}{i:Int}{v:α} (h:C2 xs i=some v):∃ j,seqIndex? i xs.length=some j∧xs[j]? = some v∧j < xs.length∧-(xs.length:Int)≤i∧i < xs.length:=by
 unfold C2 at h
 cases e:EO xs.length i with
 | none=>rw[e] at h;cases h
 | some j =>
  rw[e] at h
  obtain⟨h1,h2,h3,h4⟩:=Cd e
  exact⟨j,h1,h,h2,h3,h4⟩
theorem Ce {α:Type}{xs:List α}{j:Nat}{v:α} (h:xs[j]? = some v):C2 xs (j:Int)=some v:=by
 have hj:j < xs.length:=(List.getElem?_eq_some_iff.mp h).1
 have e:EO xs.length (j:Int)=some j:=by
  unfold EO
  rw[if_pos (by omega),if_pos (by omega)];simp
 unfold C2;rw[e];exact h
def p5 (b:Expr):Prop:=∀ o i,subscripted b false o i=operate [o,i] (getItem o i)
def ER (X:Cx) (r:R2):Prop :=
 ∀(value slice:Expr) (pins:List (Addr×Obj)) (s:Shared) (σ:St) (H:Hp) (x y:V) (v u:Value) (Q:VK),Inv X pins σ H s→RelV x v→RelV y u→r x y H Q →
  subscripted slice false v u=operate [v,u] (getItem v u)→wpAny (model X.prog X.w) X.A (subscriptTail value slice v u) (EP X pins σ Q) X.xe s
def IJ (X:Cx) (id:String) (r:V→List V→Hp→VK→Prop):Prop :=
 ∀(pins:List (Addr×Obj)) (s:Shared) (σ:St) (H:Hp) (x:V) (xs:List V) (v:Value) (us:List Value) (Q:VK),Inv X pins σ H s→RelV x v→Vals xs us→r x xs H Q →
  wpAny (model X.prog X.w) X.A (call (.builtin id) (v :: us)) (EP X pins σ Q) X.xe s
section
variable {X:Cx}{a b:Expr}{ta tb:TE}{pos:Pos}
theorem Al {r:R2} (hr:ER X r) (ha:PE X a ta) (hb:PE X b tb) (hs:p5 b):PE X (.Subscript a b pos) (BE r ta tb):=by
 intro pins s σ H Q I h
 exact Subscript_ (Du ha hb I h fun v u s2 x y H2 I2 rx ry q=>hr a b pins s2 σ H2 x y v u Q I2 rx ry q (hs _ _))
def DC (K:W.Frag):R2:=fun x y H Q=>∃ p xs i v,x=.ref p∧y=.int i∧dz K H p xs∧C2 xs i=some v∧Q v H
def DE (K:W.Frag):R2:=fun x y H Q=>∃ p xs i v,x=.ref p∧y=.int i∧dB K H p xs∧C2 xs i=some v∧Q v H
def IK:R2:=fun x y H Q=>∃ z i c,x=.str z∧y=.int i∧z.length≤sizeLine∧C2 z.cps.toList i=some c∧Q (.str ⟨#[c]⟩) H
theorem Cf:ER X (DC X.K):=by
 intro value slice pins s σ H x y v u Q I rx ry h hs
 obtain⟨p,xs,i,z,rfl,rfl,hq,he,q⟩:=h
 cases rx
 obtain⟨t,rfl⟩:=ry
 obtain⟨its,r,pl,hz⟩:=I.list hq
 obtain⟨j,h1,h2,h3,h4,h5⟩:=pZ he
 obtain⟨w,ew,rw'⟩:=r.get h2
 have hl:=r.length
 have hn:=m7
 have fin:EP X pins σ Q w s:=⟨z,H,I,rw',q⟩
 by_cases h0:0≤i
 ·have hj:i.toNat=j:=by
   rw[seqIndex_of h0 h5] at h1
   exact Option.some.inj h1
  exact item_listR pl.isList h0 (by omega) (by rw[hj];simpa using ew) fin hs
 ·have hj:(i+(its.toArray.size:Int)).toNat=j:=by
   rw[seqIndex_neg (by omega) h4] at h1
   rw[List.size_toArray,←hl]
   exact Option.some.inj h1
  exact subscriptTail_builtinR (x:=w) pl.isList.typeIs slot_list_getitem.lookup
   (wpAny_getItem_list_neg (Q:=fun r s'=>r=w∧EP X pins σ Q r s') pl.isList (by omega) (by rw[List.size_toArray] <;> omega) (by omega) (by rw[hj];simpa using ew) ⟨rfl,fin⟩) hs
theorem DF:ER X (DE X.K):=by
 intro value slice pins s σ H x y v u Q I rx ry h hs
 obtain⟨p,xs,i,z,rfl,rfl,hq,he,q⟩:=h
 cases rx
 obtain⟨t,rfl⟩:=ry
 obtain⟨its,r,pl,hz⟩:=I.tuple hq
 obtain⟨j,h1,h2,h3,h4,h5⟩:=pZ he
 obtain⟨w,ew,rw'⟩:=r.get h2
 have hl:=r.length
 have hn:=m7
 have fin:EP X pins σ Q w s:=⟨z,H,I,rw',q⟩
 exact subscriptTail_builtinR (x:=w) pl.typeIs slot_tuple_getitem.lookup
  (getItem_tuple (j:=j) (Q:=fun r s'=>r=w∧EP X pins σ Q r s') pl (by omega) (by omega) (by rw[List.size_toArray,←hl];exact h1) (by simpa using ew) ⟨rfl,fin⟩) hs
theorem DG:ER X IK:=by
 intro value slice pins s σ H x y v u Q I rx ry h hs
 obtain⟨z,i,c,rfl,rfl,hz,he,q⟩:=h
 obtain⟨t,rfl⟩:=rx
 obtain⟨t',rfl⟩:=ry
 obtain⟨j,h1,h2,h3,h4,h5⟩:=pZ he
 have hl:z.cps.toList.length=z.length:=by simp[Str.length]
 rw[hl] at h1 h4 h5
 have hn:=m7
 exact tail_any (typeIs_str s z t) slot_str_getitem.lookup (getItem_str (c:=c) (by
  have e1:decide (i < -(2 ^ 63:Int))=false:=decide_eq_false (by omega)
  have e2:decide (i≥2 ^ 63)=false:=decide_eq_false (by omega)
  rw[e1,e2,Bool.or_false]) (by rw[h1];simpa using h2) ⟨.str ⟨#[c]⟩,H,I.tok _,⟨_,rfl⟩,q⟩) hs
theorem p6 (lo hi:Option Int) (n:Nat):(sliceBounds lo hi none n).1=((HT.dm n 0 lo:Nat):Int)∧(sliceBounds lo hi none n).2.1=((HT.dm n n hi:Nat):Int)∧(sliceBounds lo hi none n).2.2=1:=by
 refine⟨?_,?_,rfl⟩
 ·cases lo with
  | none=>simp[sliceBounds,HT.dm]
  | some i =>
   simp only[sliceBounds,HT.dm,Option.getD_none,show(1:Int) > 0 by decide,if_true]
   by_cases h:i < 0
   ·simp only[h,if_true] <;> omega
   ·simp only[h,if_false] <;> omega
 ·cases hi with
  | none=>simp[sliceBounds,HT.dm]
  | some i =>
   simp only[sliceBounds,HT.dm,Option.getD_none,show(1:Int) > 0 by decide,if_true]
   by_cases h:i < 0
   ·simp only[h,if_true] <;> omega
   ·simp only[h,if_false] <;> omega
theorem n5 (its:List Value) (lo hi:Option Int):slicePick its.toArray lo hi none=((its.drop (HT.dm its.length 0 lo)).take (HT.dm its.length its.length hi - HT.dm its.length 0 lo)).toArray:=by
 obtain⟨h1,h2,h3⟩:=p6 lo hi its.toArray.size
 unfold slicePick
 rw[h1,h2,h3]
 simp only[sliceRange_one,pick_run,List.size_toArray] <;> rfl
def FA (K:W.Frag):V→Option Int→Option Int→Hp→VK→Prop:=fun x lo hi H Q=>∃ a xs,x=.ref a∧dz K H a xs∧∀ p,H p=none→Q (.ref p) (upd H p (.lst (bY xs lo hi)))
theorem Cg:Fy X (FA X.K):=by
 intro pins s σ H x v vl vu lo hi sl Q I rx hs pl pu h
 obtain⟨a,xs,rfl,hx,q⟩:=h
 cases rx
 obtain⟨its,r,ht,hz⟩:=I.list hx
 have hlen:=r.length
 refine⟨"list",_,slot_list_getitem.lookup,ht.isList.typeIs,?_⟩
 refine wpAny_getItem_list_slice ht.isList hs pl pu .none (by simp) ?_ (by rw[List.size_toArray] <;> omega)
 rw[n5,←hlen]
 refine⟨.ref s.heap.objs.size,_,I.laid (t':=s.toks) (o:=.lst (bY xs lo hi)) (fun b ob q=>Heap.get?_push_of_some _ q) (Nat.le_refl _) ?_,rfl,q _ (I.hok.fresh (Nat.le_refl _))⟩
 exact⟨Nat.le_trans (lz xs lo hi) hz,_,0,(r.drop (HT.dm xs.length 0 lo)).take (HT.dm xs.length xs.length hi - HT.dm xs.length 0 lo),Heap.get?_push_size _ rfl⟩
def eN:V→Bool
 | .non=>true
 | .bl _=>true
 | .int _=>true
 | .str _=>true
 | _=>false
def BG:V→V→Bool
 | .non,.non=>true
 | .bl a,.bl b=>a == b
 | .bl a,.int b=>(if a then 1 else 0) == b
 | .int a,.bl b=>a == (if b then 1 else 0)
 | .int a,.int b=>a == b
 | .str a,.str b=>a == b
 | _,_=>false
theorem Am {A:Around}{s:Shared}{y x:V}{u v:Value} (ry:RelV y u) (rx:RelV x v) (fy:eN y=true) (fx:eN x=true):SeqAt.EqAt A s u v (BG y x):=by
 cases y with
 | non =>
  cases ry
  cases x with
  | non=>cases rx;exact SeqAt.EqAt.same _
  | bl b=>cases rx;exact SeqAt.EqAt.none_bool b
  | int b=>obtain⟨t,rfl⟩:=rx;exact SeqAt.EqAt.none_int b t
  | str b=>obtain⟨t,rfl⟩:=rx;exact SeqAt.EqAt.none_str b t
  | _=>exact absurd (show false=true from fx) Bool.false_ne_true
 | bl a =>
  cases ry
  cases x with
  | non=>cases rx;exact SeqAt.EqAt.bool_none a
  | bl b=>cases rx;exact SeqAt.EqAt.bool_bool a b
  | int b=>obtain⟨t,rfl⟩:=rx;exact SeqAt.EqAt.bool_int a b t
  | str b=>obtain⟨t,rfl⟩:=rx;exact SeqAt.EqAt.bool_str a b t
  | _=>exact absurd (show false=true from fx) Bool.false_ne_true
 | int a =>
  obtain⟨t',rfl⟩:=ry
  cases x with
  | non=>cases rx;exact SeqAt.EqAt.int_none a t'
  | bl b=>cases rx;exact SeqAt.EqAt.int_bool a t' b
  | int b=>obtain⟨t,rfl⟩:=rx;exact SeqAt.EqAt.int_int a t' b t
  | str b=>obtain⟨t,rfl⟩:=rx;exact SeqAt.EqAt.int_str a t' b t
  | _=>exact absurd (show false=true from fx) Bool.false_ne_true
 | str a =>
  obtain⟨t',rfl⟩:=ry
  cases x with
  | non=>cases rx;exact SeqAt.EqAt.str_none a t'
  | bl b=>cases rx;exact SeqAt.EqAt.str_bool a t' b
  | int b=>obtain⟨t,rfl⟩:=rx;exact SeqAt.EqAt.str_int a t' b t
  | str b=>obtain⟨t,rfl⟩:=rx;exact SeqAt.EqAt.str_str a t' b t
  | _=>exact absurd (show false=true from fx) Bool.false_ne_true
 | _=>exact absurd (show false=true from fy) Bool.false_ne_true
theorem p7:g8 X (compareOp .NotIn) (fun x y H Q=>∃ i j,x=.str i∧y=.str j∧Q (.bl (!(!(Builtin.Str.occurrences j i 0 j.length 1).isEmpty))) H):=by
 intro pins s σ H x y v u Q I rx ry h
 obtain⟨i,j,rfl,rfl,q⟩:=h
 obtain⟨t,rfl⟩:=rx
 obtain⟨t',rfl⟩:=ry
 exact notIn_str ⟨.bl _,H,I,rfl,q⟩
theorem p8:eH X (.builtin "len") (fun xs H Q=>∃ p ys,xs=[.ref p]∧(dz X.K H p ys∨dB X.K H p ys)∧Q (.int ys.length) H):=by
 intro pins s σ H xs us Q I r h
 obtain⟨p,ys,rfl,hq,q⟩:=h
 obtain⟨u,rfl,rx⟩:=vals1 r
 cases rx
 have hn:=m7
 rcases hq with hq | hq
 ·obtain⟨its,r',pl,hz⟩:=I.list hq
  have hlen:=r'.length
  exact Calls.call_len_list pl.isList (by simp only[List.size_toArray] <;> omega) ⟨.int ys.length,H,I.tok _,⟨s.toks+1,by rw[List.size_toArray,hlen]⟩,q⟩
 ·obtain⟨its,r',pl,hz⟩:=I.tuple hq
  have hlen:=r'.length
  exact len_tuple pl (by simp only[List.size_toArray] <;> omega) ⟨.int ys.length,H,I.tok _,⟨s.toks+1,by rw[List.size_toArray,hlen]⟩,q⟩
theorem eV:eH X (.builtin "len") (fun xs H Q=>∃ z,xs=[.str z]∧z.length≤sizeLine∧Q (.int z.length) H):=by
 intro pins s σ H xs us Q I r h
 obtain⟨z,rfl,hz,q⟩:=h
 obtain⟨u,rfl,t,rfl⟩:=vals1 r
 have hn:=m7
 exact len_str (by omega) ⟨.int z.length,H,I.tok _,⟨_,rfl⟩,q⟩
theorem p9:eH X (.type "list") (fun xs H Q=>∃ p ys,xs=[.ref p]∧(dz X.K H p ys∨dB X.K H p ys)∧∀ l,H l=none→Q (.ref l) (upd H l (.lst ys))):=by
 intro pins s σ H xs us Q I r h
 obtain⟨p,ys,rfl,hq,q⟩:=h
 obtain⟨u,rfl,rx⟩:=vals1 r
 cases rx
 have fin:∀(its:List Value),Vals ys its→ys.length≤sizeLine→∀(h':Heap) (c':Nat),(∀ b o',s.heap.get? b=some o'→h'.get? b=some o') →
   h'.get? s.heap.objs.size=some { cls:=.type "list",dict:=none,data:=.seq its.toArray c',slots:=#[] }→EP X pins σ Q (.ref s.heap.objs.size) { s with heap:=h' }:=fun its r' hz h' c' kp e =>
  ⟨.ref s.heap.objs.size,_,I.laid (t':=s.toks) kp (Nat.le_refl _) (show bG X.prog X.w _ h' _ (.lst ys) from ⟨hz,its,c',r',e⟩),rfl,q _ (I.hok.fresh (Nat.le_refl _))⟩
 rcases hq with hq | hq
 ·obtain⟨its,r',pl,hz⟩:=I.list hq
  have hlen:=r'.length
  obtain⟨o,ho,hc,n,hd⟩:=pl.isList
  exact call_list_seq p (.inl rfl) ho hc hd (fun h' c' kp e=>fin its r' hz h' c' kp e) (by simp only[List.size_toArray] <;> omega)
 ·obtain⟨its,r',pl,hz⟩:=I.tuple hq
  have hlen:=r'.length
  obtain⟨o,ho,hc,n,hd⟩:=pl
  exact call_list_seq p (.inr rfl) ho hc hd (fun h' c' kp e=>fin its r' hz h' c' kp e) (by simp only[List.size_toArray] <;> omega)
def K0 (K:W.Frag) (T:String) (x:V) (H:Hp):Prop:=match x with
 | .str _=>T = "str"
 | .int _=>T = "int"
 | .ref p=>(T = "list"∧∃ xs,dz K H p xs)∨(T = "tuple"∧∃ o,K.lookup p=some o∧o.cls=.type "tuple"∧o.dict=none) ∨
   (T = "dict"∧((∃ kvs,H p=some (.dK kvs))∨∃ kvs,H p=some (.dT kvs)))∨(T = "set"∧∃ S n,H p=some (.set S n))
 | _=>False
theorem DH {pins:List (Addr×Obj)}{σ:St}{H:Hp}{s:Shared}{T:String}{x:V}{v:Value} (I:Inv X pins σ H s) (r:RelV x v) (ty:K0 X.K T x H) :
  s.TypeIs v T∧∀ a,v=.ref a→∃ ob,s.heap.get? a=some ob∧ob.dict=none:=by
 cases x with
 | str z =>
  obtain⟨t,rfl⟩:=r
  cases(show T = "str" from ty)
  exact⟨typeIs_str s z t,fun _ e=>nomatch e⟩
 | int i =>
  obtain⟨t,rfl⟩:=r
  cases(show T = "int" from ty)
  exact⟨typeIs_int s i t,fun _ e=>nomatch e⟩
 | ref p =>
  cases r
  rcases ty with ⟨rfl,xs,hq⟩ | ⟨rfl,o,hk,hc,hd⟩ | ⟨rfl,hk⟩ | ⟨rfl,S,n,hk⟩
  ·obtain⟨its,_,pl,_⟩:=I.list hq
   refine⟨pl.isList.typeIs,fun a e=>?_⟩
   cases e
   obtain⟨o,n,e,c,hd,_⟩:=pl
   exact⟨o,e,hd⟩
  ·refine⟨⟨o,I.iJ p o hk,hc⟩,fun a e=>?_⟩
   cases e
   exact⟨o,I.iJ _ o hk,hd⟩
  ·have z:∃ o,s.heap.get? p=some o∧o.ExactDict:=by
    rcases hk with ⟨kvs,hk⟩ | ⟨kvs,hk⟩
    ·obtain⟨_,_,_,_,o,_,_,e,ex,_⟩:=I.hok p _ hk
     exact⟨o,e,ex⟩
    ·obtain⟨_,_,_,_,o,_,_,e,ex,_⟩:=I.hok p _ hk
     exact⟨o,e,ex⟩
   obtain⟨o,e,ex⟩:=z
   refine⟨⟨o,e,ex.1⟩,fun a e2=>?_⟩
   cases e2
   exact⟨o,e,ex.2.1⟩
  ·obtain⟨o,_,_,_,e,ex,_⟩:=I.hok p _ hk
   refine⟨⟨o,e,ex.1⟩,fun a e2=>?_⟩
   cases e2
   exact⟨o,e,ex.2.1⟩
 | _=>exact False.elim ty
def K2 (K:W.Frag) (T:String) (r:V→List V→Hp→VK→Prop) (to:TE) (t:TA):TE:=fun σ H Q=>to σ H fun x H1=>K0 K T x H1∧t σ H1 fun xs H2=>r x xs H2 Q
variable {o e:Expr}{es:List Expr}{to:TE}{t:TA}{name:Str}{apos cpos:Pos}{T id:String}{r:V→List V→Hp→VK→Prop}
theorem FD (pa:PlainAttrs T) (slot:Slot T name id) (hty:typeOf (.builtin id)=pure (.type "method_descriptor")) (hm:IJ X id r) (ho:PE X o to) (ha:PA X (e :: es) t)
  (hbase:attributeBase o name X.env (eval o X.env)=eval o X.env:=by rfl)
  (hfew:((backTo cpos (starEach (e :: es) X.env)).all (fun x=>!x.1) && (backToKw cpos (keywordEach [] X.env)).all (fun x=>x.1.isSome)
   && decide ((e :: es).length+([]:List Keyword).length+(if ([]:List Keyword).isEmpty then 0 else 1) < 30))=true:=by rfl)
  (hline:(apos.endLine == cpos.line)=true:=by rfl) (hs:starEach (e :: es) X.env=(false,eval e X.env) :: starEach es X.env:=by rfl) (hplain:(backTo cpos (starEach es X.env)).any (·.1)=false:=by rfl) :
  PE X (.Call (.Attribute o name apos) (e :: es) [] cpos) (K2 X.K T r to t):=by
 intro pins s σ H Q I h
 refine wpAny_Call_method_late hbase hfew hline rfl (cg (ho pins s σ H _ I h) fun v s1 ⟨x,H1,I1,r1,ty,q1⟩=>?_)
 obtain⟨h1,h2⟩:=DH I1 r1 ty
 refine⟨T,id,pa,slot,hty,h1,h2,?_⟩
 have hA:=ha cpos pins s1 σ H1 _ I1 q1
 rw[hs] at hA ⊢
 refine Calls.callWith_builtin (by show(false || (backTo cpos (starEach es X.env)).any (·.1))=false;rw[hplain] <;> rfl) (Calls.evalArgs_plain ?_)
 exact cg hA fun us s2 ⟨vs,H2,I2,r2,q2⟩=>hm pins s2 σ H2 x vs v us Q I2 r1 r2 q2
end
def MG (X:Cx) (id:String) (r:V→List V→Hp→VK→Prop):Prop :=
 ∀(pins:List (Addr×Obj)) (s:Shared) (σ:St) (H:Hp) (x:V) (xs:List V) (v:Value) (us:List Value) (Q:VK),Inv X pins σ H s→RelV x v→Vals xs us→r x xs H Q →
  wpAny (model X.prog X.w) X.A (call (.builtin id) (v :: us)) (EP X pins σ Q) X.xe s
theorem Vals.one:∀{x:V}{us:List Value},Vals [x] us→∃ u,us=[u]∧RelV x u
 | _,_,.cons r .nil=>⟨_,rfl,r⟩
section
variable {X:Cx}{pins:List (Addr×Obj)}{σ:St}{H:Hp}{s:Shared}{l b:Addr}{xs ys zs:List V}
theorem Inv.IL {its its':List Value}{n:Nat}{f:Array Value→Array Value}{t':Nat} (I:Inv X pins σ H s) (hH:H l=some (.lst xs))
  (e:s.heap.get? l=some { cls:=.type "list",data:=.seq its.toArray n }) (hf:f its.toArray=its'.toArray) (hv:Vals ys its') (hz:ys.length≤sizeLine) :
  Inv X pins σ (upd H l (.lst ys)) { s with heap:=s.heap.update l (Obj.mapSeq f),toks:=t' }:=by
 have q:=PySem.IsL.update e f
 rw[hf] at q
 refine I.write (x:=l) (e:=l) (by rw[hH];exact trivial) (.inl rfl) (fun b' u hb hu=>(Heap.get?_update_other s.heap (Obj.mapSeq f) (Ne.symm hb)).trans hu) ⟨_,q⟩ ?_
 exact⟨hz,its',_,hv,q⟩
theorem Inv.DI {its:List Value}{t':Nat} (I:Inv X pins σ H s) (hv:Vals ys its) (hz:ys.length≤sizeLine) :
  Inv X pins σ (upd H s.heap.objs.size (.lst ys)) { s with heap:=s.heap.push { cls:=.type "list",data:=.seq its.toArray },toks:=t' } :=
 I.laid (fun _ _ q=>Heap.get?_push_of_some _ q) (Nat.le_refl _) ⟨hz,its,0,hv,Heap.get?_push_size _ rfl⟩
theorem Inv.fresh (I:Inv X pins σ H s):H s.heap.objs.size=none:=I.hok.fresh (Nat.le_refl _)
theorem Inv.DJ (I:Inv X pins σ H s) (hH:H l=some (.lst xs)):xs.length≤sizeLine∧∃(its:List Value) (n:Nat),Vals xs its∧xs.length=its.length∧s.heap.get? l=some { cls:=.type "list",data:=.seq its.toArray n }:=by
 obtain⟨z,its,n,r,e⟩:=I.hok l _ hH
 exact⟨z,its,n,r,r.length,e⟩
end
section
variable {X:Cx}
def Ci:V→List V→Hp→VK→Prop:=fun x vs H Q=>∃ l xs y,x=.ref l∧vs=[y]∧H l=some (.lst xs)∧xs.length < sizeLine∧Q .non (upd H l (.lst (xs++[y])))
theorem iK:MG X "list.append" Ci:=by
 intro pins s σ H x vs v us Q I rx rv h
 obtain⟨l,xs,y,rfl,rfl,hH,hz,q⟩:=h
 cases rx
 obtain⟨u,rfl,ru⟩:=rv.one
 obtain⟨z,its,n,r,hl,e⟩:=I.DJ hH
 refine call_meets F.slot_list_append ⟨_,e,rfl⟩ F.entry_list_append (F.args_list_append_2 _ _) (PySem.list_append l its.toArray n u (by rw[List.size_toArray];omega)) ⟨e,?_⟩
 refine⟨.non,_,I.IL (its':=its++[u]) hH e (by simp) (r.append (.cons ru .nil)) ?_,rfl,q⟩
 rw[List.length_append,List.length_singleton]
 omega
def IM:R2:=fun x y H Q=>∃ l b xs zs,x=.ref l∧y=.ref b∧H l=some (.lst xs)∧H b=some (.lst zs)∧xs.length+zs.length≤sizeLine∧∀ p,H p=none→Q (.ref p) (upd H p (.lst (xs++zs)))
theorem qa:g8 X (binaryOp .Add) IM:=by
 intro pins s σ H x y v u Q I rx ry h
 obtain⟨l,b,xs,zs,rfl,rfl,hH,hB,hz,q⟩:=h
 cases rx
 cases ry
 obtain⟨z,its,n,r,hl,e⟩:=I.DJ hH
 obtain⟨z2,its2,n2,r2,hl2,e2⟩:=I.DJ hB
 refine PySem.P.add_list e e2 ?_ (by rw[List.size_toArray,List.size_toArray];omega)
 have ea:its.toArray++its2.toArray=(its++its2).toArray:=by simp
 rw[ea]
 exact⟨.ref _,_,I.DI (t':=s.toks) (r.append r2) (by rw[List.length_append];omega),rfl,q _ I.fresh⟩
end
section
variable {prog:Program}{w:World}{A:Around}{E:Value→Shared→Prop}{s:Shared}
set_option maxRecDepth 100000 in
end
section
variable {X:Cx}
end
end L2
namespace Att
open PySem PySem.W PySem.Calls PyProof.Rows
theorem lO {P:Params}{h:Heap}:∀(ns:List Int) (vs:List Value),WellAll P h vs (ns.map WData.int)→IntsAre vs ns:=by
 intro ns
 induction ns with
 | nil =>
  intro vs w
  rw[List.map_nil] at w
  cases w
  exact .nil
 | cons n ns ih =>
  intro vs w
  rw[List.map_cons] at w
  cases w with
  | cons a b =>
   cases a
   exact .cons _ _ (ih _ b)
theorem xS {l:OpenLaw}{n:Nat} (hn:l.most=some n) {P:Params}{h:Heap}{args:List WData}{vals:List Value}
  (hpre:l.row.toRowW.claim.pre args=true) (hwl:WellAll P h vals args) :
  ∃ a vs ns,vals=[Value.ref a]∧args=[WData.list (ns.map WData.int)]∧h.get? a=some { cls:=.type "list",data:=.seq vs.toArray }∧IntsAre vs ns∧ns.length≤n:=by
 have hsh:WShape.hasAll [] args [.list .int]=true:=(pre_splitW hpre).1
 have hc:l.pre.holds [] { args:=args }=true:=(pre_splitW hpre).2
 obtain⟨d,r,rfl,h1,h2⟩:=hasAllW_cons hsh
 obtain rfl:=hasAllW_nil h2
 obtain⟨xs,rfl,h3⟩:=hasW_list h1
 obtain⟨ns,rfl⟩:=items_int h3
 have hlen:ns.length≤n:=by
  unfold OpenLaw.pre at hc
  have h4:(WTm.not (.lt (.lit (.int (n:Int))) (.len (.arg 0)))).holds [] { args:=[.list (ns.map .int)] }=true:=by
   have h4:=(holds_andW hc).1
   rw[hn] at h4
   exact h4
  have h5:=condW_of h4 (w_not (w_lt w_lit (w_len_list (w_arg rfl))))
  rw[List.length_map] at h5
  refine Nat.le_of_not_lt fun q=>?_
  have q':(n:Int) < ((ns.length:Nat):Int):=by omega
  first
   | (rw[decide_eq_true q'] at h5;exact absurd h5 (by decide))
   | (simp at h5;omega)
 cases hwl with
 | cons w1 w2 =>
  cases w2
  cases w1 with
  | list ho hall=>exact⟨_,_,ns,rfl,rfl,ho,lO ns _ hall,hlen⟩
theorem xT (l:OpenLaw) (args:List WData):l.row.toRowW.claim.post args (.bool true) args=true :=
 postW_of (r:=l.row.toRowW) (X:=(true == true))
  (show WShape.has [] (.bool true) .bool=true by first | rfl | decide | simp[WShape.has,WShape.arms,WShape.armsAll])
  (show(WTm.eq .res (.lit (.bool true))).value [] { args:=args,res:=some (.bool true),after:=args }=some (.bool (true == true)) from w_eq_bool (w_res rfl) w_lit) rfl
theorem rQ {l:OpenLaw}{n:Nat}{q:Program}{loose:List Str}{XP:(Str→Option Value)→Heap→Prop}{YP:World→Heap→Prop}{d:DefRec}
  (hn:l.most=some n) (hdf:d.params.defaults=[])
  (call:∀(w:World) (s₀ s₁:Shared) (mg mb:Str→Option Value) (fa:Addr) (o:Obj) (pm cd doc:Value) (a:Addr) (vs:List Value) (ns:List Int),
   Ground q loose [] XP w s₀ mg mb s₁.heap→YP w s₁.heap →
   s₁.heap.get? fa=some o→o.data=.func (docDef d.name d.params d.body d.scope pm cd doc)→s₁.heap.CodeRec cd d.name→mg d.name=some (.ref fa) →
   s₁.heap.get? a=some { cls:=.type "list",data:=.seq vs.toArray }→IntsAre vs ns→ns.length≤n→s₁.gens = #[] →
   codeAny (model l.prog w) callerA (.call (.ref fa) ⟨[.ref a],[]⟩) (fun r s'=>r=.ok (.ret (.bool true))∧OldK s₁.heap s'.heap∧s'.os=s₁.os∧AllBare s'.gens) s₁) :
  WalkO q loose XP YP l.row.toRowW d [] (fun f vs=>PySem.call f vs):=by
 intro w s₀ s₁ mg mb G Y fa o pm cd doc dV kV ho hd hcd hD hmg hg args vals as hpre hlay hrd hwl hlo
 obtain rfl:dV=.none:=Dflts.none hD hdf
 obtain rfl:kV=.none:=Dflts.noKw hD
 obtain⟨a,vs,ns,rfl,rfl,hobj,hints,hlen⟩:=xS hn hpre hwl
 refine enter_call (codeAny_mono (call w s₀ s₁ mg mb fa o pm cd doc a vs ns G Y ho (fd_plain hd) hcd hmg hobj hints hlen hg) fun r s' hq=>?_)
 obtain⟨rfl,h2,h3,h4⟩:=hq
 exact⟨.inl ⟨.bool true,.bool true,[],rfl,fun _=>rfl,.bool true,xT l _,fun _=>⟨List.Pairwise.nil,fun _ hm=>(nomatch hm)⟩⟩,h2,h3,h4⟩
section
variable {prog:Program}{w:World}{A:Around}{E:Value→Shared→Prop}{s:Shared}{K:Frag}
end
end Att
namespace L2
open PySem PySem.Spec PyProof.Rows
theorem pH:∀{vs:List Value}{ns:List Int},IntsAre vs ns→Vals (ns.map V.int) vs
 | _,_,.nil=>.nil
 | _,_,.cons n t h=>.cons ⟨t,rfl⟩ (pH h)
def DK (H:Hp):Prop:=∀ b,H b=none∨∃ o xs,H b=some (.rG o (.lst xs))
theorem An {P:Program}{w:World}{K:W.Frag}{mg mb:Str→Option Value}{CX:xQ}{k:Nat}{fa a:Addr}{fd:FuncData}{x:Str}{sp:Sp}{s₁:Shared}{vs:List Value}{ns:List Int}
  (KX:K.In s₁.heap) (hns:s₁.heap.Ns mainGlobals mg) (hb:s₁.heap.Ns builtinsNs mb) (MH:∀ x:Str,x ≠ "__name__"→mb x=bootBuiltins x) (hlim:s₁.heap.NoLimit) (hg:s₁.gens = #[])
  (ha:s₁.heap.get? a=some { cls:=.type "list",data:=.seq vs.toArray }) (hi:IntsAre vs ns) (hl:ns.length≤sizeLine) (hr:cM k callerA)
  (F:∀ base:Heap,K.In base→base.Ns mainGlobals mg→bg P w K mg base CX k fa fd [x] sp) (hbind:∀(s:Shared) (u:Value),BindsTo s fd ⟨[u],[]⟩ [(x,u)])
  (uq:∀ H:Hp,DK H→dz K H a (ns.map V.int)→sp [.ref a] H (fun v _=>v=.bl true) fun _ _ _=>False)
  (IP:∀ H e s',CX [] H s₁ (fun _ _ _=>False) e s'→False) :
  codeAny (model P w) callerA (.call (.ref fa) ⟨[.ref a],[]⟩) (fun r s'=>r=.ok (.ret (.bool true))∧OldK s₁.heap s'.heap∧s'.os=s₁.os∧AllBare s'.gens) s₁:=by
 have rv:=pH hi
 have IQ:=hi.length
 have core:∀ H:Hp,DK H→dz K H a (ns.map V.int)→kD P w H s₁.heap→(∀ b,H b≠none→b=a)→(H a≠none→K.lookup a=none) →
   codeAny (model P w) callerA (.call (.ref fa) ⟨[.ref a],[]⟩) (fun r s'=>r=.ok (.ret (.bool true))∧OldK s₁.heap s'.heap∧s'.os=s₁.os∧AllBare s'.gens) s₁:=by
  intro H hO hS hok hA hK
  have xg:∀{b:Addr}{o:Obj},s₁.heap.get? b=some o→H b=none→(pR s₁.heap H).get? b=some o:=fun e n=>zW e n
  have Fw:∀{b:Addr}{o:Obj}{es:Array DictEntry}{ep:Nat},s₁.heap.get? b=some o→o.data=.dict es ep→H b=none:=fun {b o es ep} e d=>by
   cases q:H b with
   | none=>rfl
   | some u =>
    have e':b=a:=hA b (by rw[q];simp)
    subst e'
    rw[ha] at e;cases e
    have d':Data.seq vs.toArray _=Data.dict es ep:=d
    cases d'
  have HY:∀{b:Addr}{m:Str→Option Value},s₁.heap.Ns b m→(pR s₁.heap H).Ns b m:=fun {b m} ⟨o,es,ep,e,d,r⟩=>⟨o,es,ep,xg e (Fw e d),d,r⟩
  have K3:K.In (pR s₁.heap H):=fun b o e=>xg (KX b o e) (by
   cases q:H b with
   | none=>rfl
   | some u =>
    have e':b=a:=hA b (by rw[q];simp)
    subst e'
    rw[hK (by rw[q];simp)] at e;cases e)
  have hM:Mod K mg (pR s₁.heap H):=⟨K3,HY hns,⟨mb,HY hb,MH⟩,let ⟨mc,h1,h2⟩:=hlim;⟨mc,HY h1,h2⟩⟩
  have e0:pW P w K mg (pR s₁.heap H) callerA [] s₁ H:=⟨rfl,hM,fun b o e=>BO e,Nat.le_of_eq (xG _ _),trivial,fun b hb=>absurd (show b∈([]:List Addr) from hb) (by simp),hok,.of_eq hg⟩
  refine codeAny_mono ((F _ K3 (HY hns)).run callerA [] s₁ H ⟨[.ref a],[]⟩ [.ref a] [.ref a] _ _ hr e0 (hbind s₁ (.ref a)) (.cons rfl .nil) (uq H hO hS)) fun r s' h=>?_
  cases r with
  | error e=>exact(IP H e s' h).elim
  | ok fl =>
   cases fl with
   | next=>exact False.elim h
   | brk=>exact False.elim h
   | cont=>exact False.elim h
   | ret u =>
    obtain⟨v,H',os,bare,un,IS,r',q⟩:=h
    have q':v=.bl true:=q
    subst q'
    obtain rfl:u=Value.bool true:=r'
    refine⟨rfl,OldK.of_keep fun b o e=>?_,os,bare⟩
    cases q:H b with
    | none=>exact un.keep b o e q (by intro z;exact absurd (show b∈([]:List Addr) from z) (by simp)) (by simp)
    | some u =>
     rcases hO b with z | ⟨ob,xs,z⟩
     ·rw[q] at z;cases z
     ·have z2:=un.lN b ob _ z
      obtain⟨e1,_⟩:=hok b _ z
      obtain⟨e2,_⟩:=IS b _ z2
      rw[e] at e1;cases e1
      exact e2
 cases hk:K.lookup a with
 | some o =>
  have e:=KX a o hk
  rw[ha] at e
  cases e
  refine core (fun _=>none) (fun _=>.inl rfl) (.inr ⟨_,vs.toArray,_,hk,rfl,rfl,rfl,by rw[List.size_toArray,IQ];exact hl,by simpa using rv⟩) (fun b u z=>by have z':(none:Option HO)=some u:=z;cases z') (fun b z=>absurd rfl z) fun z=>absurd rfl z
 | none =>
  refine core (fun b=>if b=a then some (.rG { cls:=.type "list",data:=.seq vs.toArray } (.lst (ns.map V.int))) else none) (fun b=>?_) (.inl (.inr ⟨{ cls:=.type "list",data:=.seq vs.toArray },if_pos rfl⟩)) (fun b u z=>?_) (fun b z=>?_) fun _=>hk
  ·by_cases hb:b=a
   ·exact .inr ⟨_,_,if_pos hb⟩
   ·exact .inl (if_neg hb)
  ·by_cases hb:b=a
   ·have z':=(if_pos hb).symm.trans z
    cases z'
    subst hb
    exact⟨ha,by rw[List.length_map];exact hl,vs,_,rv,ha⟩
   ·have z':=(if_neg hb).symm.trans z
    cases z'
  ·by_cases hb:b=a
   ·exact hb
   ·exact absurd (if_neg hb) z
theorem Cj {l:W.OpenLaw}{n k:Nat}{q:Program}{loose:List Str}{XP:(Str→Option Value)→Heap→Prop}{YP:World→Heap→Prop}{d:DefRec}{K:Params→W.Frag}{CX:World→xQ}{sp:World→Sp}{x:Str}
  (hn:l.most=some n) (hn2:n≤sizeLine) (hdf:d.params.defaults=[]) (hr:cM k callerA)
  (hY:∀(w:World) (h:Heap),YP w h→(K w.params).In h)
  (F:∀(w:World) (mg:Str→Option Value) (fa:Addr) (h:Heap),(K w.params).In h→h.Ns mainGlobals mg→mg d.name=some (.ref fa) →
   ∃ fd:FuncData,(∀(s:Shared) (u:Value),BindsTo s fd ⟨[u],[]⟩ [(x,u)]) ∧
    ∀ base:Heap,(K w.params).In base→base.Ns mainGlobals mg→bg l.prog w (K w.params) mg base (CX w) k fa fd [x] (sp w))
  (uq:∀(w:World) (H:Hp) (a:Addr) (ns:List Int),ns.length≤n→DK H→dz (K w.params) H a (ns.map V.int)→sp w [.ref a] H (fun v _=>v=.bl true) fun _ _ _=>False)
  (IP:∀(w:World) (H:Hp) (s:Shared) (e:Value) (s':Shared),CX w [] H s (fun _ _ _=>False) e s'→False) :
  W.WalkO q loose XP YP l.row.toRowW d [] (fun f vs=>PySem.call f vs):=by
 refine Att.rQ hn hdf fun w s₀ s₁ mg mb fa o pm cd doc a vs ns G Y ho hd hcd hmg hobj hints hlen hg=>?_
 have KX:=hY w _ Y
 obtain⟨fd,hb,hF⟩:=F w mg fa _ KX G.T.g hmg
 exact An KX G.T.g G.T.b G.T.builtins G.T.nolimit hg hobj hints (Nat.le_trans hlen hn2) hr hF hb (fun H hO hS=>uq w H a ns hlen hO hS) fun H e s'=>IP w H s₁ e s'
def inClass (s:Stmt) (j:Nat):Stmt:=match s with
 | .ClassDef _ _ _ body _ _ _ _ _ _ _=>body.getD j (.Pass ⟨0,0,0,0⟩)
 | _=>.Pass ⟨0,0,0,0⟩
def bI (s:Stmt):Arguments:=match s with
 | .FunctionDef _ a _ _ _ _ _ _ _ _=>a
 | _=>{ posonlyargs:=[],args:=[],vararg:=none,kwonlyargs:=[],kw_defaults:=[],kwarg:=none,defaults:=[] }
def bf (s:Stmt):List Stmt:=match s with
 | .FunctionDef _ _ b _ _ _ _ _ _ _=>b
 | _=>[]
def aq (s:Stmt):Scope:=match s with
 | .FunctionDef _ _ _ _ _ _ sc _ _ _=>sc
 | _=>{ kind:=.function,names:=[],isGenerator:=false,isCoroutine:=false }
abbrev gS:xQ:=fun _ _ _ _ _ _=>False
abbrev E0:XK:=fun _ _ _=>False
theorem C3 {X:Cx}:Passes gS X E0:=fun _ _ _ _ _ _ _ h=>h.elim
structure g9 (K:W.Frag) (x qual:Str) (st:Stmt) (f:Addr) (fd:FuncData):Prop where
 ex:∃(oc:Value) (od:Option Addr) (kV doc pm:Value) (an:Option Addr) (cdv ct:Value) (osl:Array (Option Value)),
  fd=W.fnOf x qual (bI st) (bf st) (aq st) .none kV doc pm an cdv ct∧K.lookup f=some ⟨oc,od,.func fd,osl⟩∧W.codeIn K cdv qual=true
 kp:W.keepIn K (.ref f)=true
section
variable {P:Program}{w:World}{K:W.Frag}{mg:Str→Option Value}{base:Heap}
theorem g9.ok {x qual:Str}{st:Stmt}{f:Addr}{fd:FuncData}{N ps:List Str}{k:Nat}{sp:Sp} (F:g9 K x qual st f fd) (S:aU N ps (aq st)) (len:∀ vs H Q E,sp vs H Q E→vs.length=ps.length)
  (hbody:∀(cdv:Value) (A:Around) (outer:List Env) (s:Shared) (H:Hp) (vs:List V) (Q:VK) (E:XK),cM k (A.deeper (envOfC qual (aq st) s.heap.objs.size f cdv))→sp vs H Q E →
   ∃ t,rM (jx gS P w K mg base N qual (aq st) f cdv A outer s H E).E4 (bf st) t∧t { nx:=fun _ H'=>Q .non H',rt:=Q } (start N vs) H):bg P w K mg base gS (k+1) f fd ps sp:=by
 obtain⟨oc,od,kV,doc,pm,an,cdv,ct,osl,rfl,lk,hcd⟩:=F.ex
 refine Ai lk hcd S len fun A outer s H vs Q E hr uq=>?_
 obtain⟨t,h,q⟩:=hbody cdv A outer s H vs Q E hr uq
 exact⟨t,h.E4,q⟩
theorem g9.binds {x qual:Str}{st:Stmt}{f:Addr}{fd:FuncData}{ps:List Str} (F:g9 K x qual st f fd)
  (h:∀(kV doc pm:Value) (an:Option Addr) (cdv ct:Value) (us:List Value),us.length=ps.length→bindArgs (W.fnOf x qual (bI st) (bf st) (aq st) .none kV doc pm an cdv ct) ⟨us,[]⟩=pure (ps.zip us)):Binds K fd ps []:=by
 obtain⟨oc,od,kV,doc,pm,an,cdv,ct,osl,rfl,lk,hcd⟩:=F.ex
 exact .all (h kV doc pm an cdv ct)
theorem bJ {x qual:Str}{st:Stmt}{f:Addr}{oc:Value}{od an:Option Addr}{osl:Array (Option Value)}{kV doc pm cdv ct:Value} (l:K.lookup f=some ⟨oc,od,.func (W.fnOf x qual (bI st) (bf st) (aq st) .none kV doc pm an cdv ct),osl⟩)
 (c:W.codeIn K cdv qual=true) (k:W.keepIn K (.ref f)=true):g9 K x qual st f (W.fnOf x qual (bI st) (bf st) (aq st) .none kV doc pm an cdv ct):=⟨⟨oc,od,kV,doc,pm,an,cdv,ct,osl,rfl,l,c⟩,k⟩
end
theorem fE {A:Around}{k:Nat} (hr:cM k A):A.units+1 < cLine:=Nat.lt_of_le_of_lt (Nat.add_le_add_left (by decide:1≤64) _) hr.units
section
variable {X:Cx}
theorem pv (i:Nat) {x:Str}{pos:Pos} (hN:X.N[i]? = some x:=by rfl) (hv:Io X.env.scope x:=by first | exact Or.inl rfl | exact Or.inr (Or.inl rfl) | exact Or.inr (Or.inr rfl)) (hd:(x == ("__debug__" : Str))=false:=by decide)
 (hcd:(x == ("__classdict__" : Str))=false:=by decide):PE X (.Name x pos) (BR i):=Dl hN hv hd hcd
end
theorem uv {A B:Prop} (h:B):if false=true then A else B:=by
 rw[if_neg Bool.false_ne_true]
 exact h
theorem lP {A B:Prop} (h:A):if true=true then A else B:=by
 rw[if_pos rfl]
 exact h
theorem kM {c A B:Prop} [Decidable c] (h1:c→A) (h2:¬c→B):if c then A else B:=by
 by_cases h:c
 ·rw[if_pos h]
  exact h1 h
 ·rw[if_neg h]
  exact h2 h
def aT (H H':Hp):Prop:=∀ b o,H b=some o→H' b=some o
theorem aT.refl (H:Hp):aT H H:=fun _ _ h=>h
theorem aT.trans {H H1 H2:Hp} (a:aT H H1) (b:aT H1 H2):aT H H2:=fun c o h=>b c o (a c o h)
theorem aT.free {H H':Hp} (e:aT H H') {l:Addr} (h:H' l=Option.none):H l=Option.none:=by
 cases q:H l with
 | none=>rfl
 | some o =>
  rw[e l o q] at h
  cases h
theorem aT.seq {K:W.Frag}{H H':Hp}{a:Addr}{xs:List V} (e:aT H H') (h:dz K H a xs):dz K H' a xs:=by
 rcases h with (h | ⟨o,h⟩) | h
 ·exact .inl (.inl (e _ _ h))
 ·exact .inl (.inr ⟨o,e _ _ h⟩)
 ·exact .inr h
end L2
set_option maxHeartbeats 4000000
namespace L2
open PySem PySem.Spec PyProof.Rows
def cz (env:Env):List (Str×NameKind)→List (Str×Addr)→List (Str×Addr)
 | [],cs=>cs
 | (n,k) :: r,cs=>cz env r (if k == .free then (n,(env.cells.lookup n).getD 0) :: cs else cs)
theorem jb {scope:Scope}{env:Env} (h:∀ n,(n,NameKind.free)∈scope.names→∃ c,env.cells.lookup n=some c) :
  closureFor scope env=pure (cz env scope.names []):=by
 simp only[closureFor]
 have key:∀(l:List (Str×NameKind)) (cs:List (Str×Addr)),(∀ n,(n,NameKind.free)∈l→∃ c,env.cells.lookup n=some c) →
   (forIn l cs (fun x r=>if (x.2 == NameKind.free)=true then (cellOf env x.1 >>= fun a=>pure (ForInStep.yield ((x.1,a) :: r))) else pure (ForInStep.yield r)):Sem (List (Str×Addr)))=pure (cz env l cs):=by
  intro l
  induction l with
  | nil=>intro cs _;rfl
  | cons x l ih =>
   intro cs hl
   obtain⟨n,k⟩:=x
   have hl':∀ n,(n,NameKind.free)∈l→∃ c,env.cells.lookup n=some c:=fun n hn=>hl n (List.mem_cons_of_mem _ hn)
   rw[List.forIn_cons]
   by_cases hk:k=.free
   ·subst hk
    obtain⟨c,hc⟩:=hl n List.mem_cons_self
    have e1:cellOf env n=pure c:=by unfold cellOf;rw[hc]
    simp only[beq_self_eq_true,if_true,e1,pure_bind]
    rw[ih _ hl']
    simp only[cz,beq_self_eq_true,if_true,hc,Option.getD_some]
   ·have hb:(k == NameKind.free)=false:=by simpa using hk
    simp only[hb,Bool.false_eq_true,if_false,pure_bind]
    rw[ih _ hl']
    simp only[cz,hb,Bool.false_eq_true,if_false]
 exact(congrArg (fun z=>z >>= fun r=>pure r) (key scope.names [] h)).trans rfl
theorem gw {env:Env}:∀(l:List (Str×NameKind)) (cs:List (Str×Addr)),(∀ n,(n,NameKind.free)∈l→∃ c,env.cells.lookup n=some c)→(∀ x c,cs.lookup x=some c→env.cells.lookup x=some c) →
  ∀ x c,(cz env l cs).lookup x=some c→env.cells.lookup x=some c
 | [],cs,_,h,x,c,e=>h x c e
 | (n,k) :: r,cs,hl,h,x,c,e=>by
  refine gw r _ (fun n hn=>hl n (List.mem_cons_of_mem _ hn)) ?_ x c e
  intro y d hy
  by_cases hk:(k == NameKind.free)=true
  ·rw[if_pos hk] at hy
   have hk':k=.free:=by simpa using hk
   subst hk'
   obtain⟨c',hc'⟩:=hl n List.mem_cons_self
   rw[hc',Option.getD_some,List.lookup_cons] at hy
   cases IT:y == n with
   | true =>
    rw[IT] at hy
    have:y=n:=by simpa using IT
    subst this
    rw[hc'];exact hy
   | false=>rw[IT] at hy;exact h y d hy
  ·rw[if_neg hk] at hy;exact h y d hy
theorem iu {env:Env}:∀(l:List (Str×NameKind)) (cs:List (Str×Addr)) (x:Str),((x,NameKind.free)∈l∨∃ c,cs.lookup x=some c)→∃ c,(cz env l cs).lookup x=some c
 | [],cs,x,h=>by
  rcases h with h | h
  ·cases h
  ·exact h
 | (n,k) :: r,cs,x,h=>by
  refine iu r _ x ?_
  rcases h with h | ⟨c,h⟩
  ·rcases List.mem_cons.mp h with e | h
   ·cases e
    refine .inr ⟨(env.cells.lookup n).getD 0,?_⟩
    simp[List.lookup_cons]
   ·exact .inl h
  ·right
   by_cases hk:(k == NameKind.free)=true
   ·rw[if_pos hk,List.lookup_cons]
    cases x == n with
    | true=>exact⟨_,rfl⟩
    | false=>exact⟨c,h⟩
   ·rw[if_neg hk];exact⟨c,h⟩
theorem fF {env:Env} (x:Str):∀(names:List (Str×NameKind)),
  (names.map fun (n,k)=>if (k == NameKind.free && env.scope.kind == .function && env.kindOf n == some .cell) then (n,NameKind.cell) else (n,k)).lookup x =
   (names.lookup x).map fun k=>if (k == NameKind.free && env.scope.kind == .function && env.kindOf x == some .cell) then NameKind.cell else k
 | []=>rfl
 | (n,k) :: r=>by
  have ih:=fF (env:=env) x r
  show List.lookup x ((if (k == NameKind.free && env.scope.kind == .function && env.kindOf n == some .cell)=true then (n,NameKind.cell) else (n,k)) :: _)=_
  cases hx:x == n with
  | true =>
   have e:x=n:=by simpa using hx
   subst e
   by_cases hc:(k == NameKind.free && env.scope.kind == .function && env.kindOf x == some .cell)=true
   ·rw[if_pos hc];simp only[List.lookup_cons,beq_self_eq_true,Option.map_some,if_pos hc]
   ·rw[if_neg hc];simp only[List.lookup_cons,beq_self_eq_true,Option.map_some,if_neg hc]
  | false =>
   by_cases hc:(k == NameKind.free && env.scope.kind == .function && env.kindOf n == some .cell)=true
   ·rw[if_pos hc];simp only[List.lookup_cons,hx];exact ih
   ·rw[if_neg hc];simp only[List.lookup_cons,hx];exact ih
structure cI (XN:List Str) (ES:Scope) (N:List Str) (nv:Nat) (js:List Nat) (scope:Scope):Prop where
 kind:scope.kind=.function
 cell:∀ y∈scope.names,y.2≠.cell
 loc:∀ y∈scope.names,y.2=.local→scope.names.lookup y.1=some .local
 free:∀ y∈scope.names,y.2=.free→(ES.names.lookup y.1=some .cell∨ES.names.lookup y.1=some .free)
 nd:N.Nodup
 len:N.length=nv+js.length
 pl:js.map (fun j=>XN[j]?)=(N.drop nv).map some
 fr:∀ x∈N.drop nv,scope.names.lookup x=some .free
abbrev cA (X:Cx) (N:List Str) (scope:Scope) (C:Addr) (s:Shared) (H:Hp) (fp:List Addr):Cx where
 prog:=X.prog
 w:=X.w
 K:=X.K
 mg:=X.mg
 base:=X.base
 A:=X.A
 N:=N
 s₀:=s
 H₀:=H
 env:=compEnvC scope (cz X.env scope.names []) C X.env
 outer:=X.stack
 stack:=X.stack
 ex:=fp
 fn:=fun _=>false
 calm:=X.calm
 pn:=[]
 xe:=fun _ _=>False
def jy (nv:Nat) (js:List Nat) (σ:St):St:=List.replicate nv none++js.map fun j=>(σ[j]?).getD none
section
variable {X:Cx}{pins:List (Addr×Obj)}{σ:St}{H:Hp}{s:Shared}
theorem m9 {N:List Str}{nv:Nat}{js:List Nat}{scope:Scope}{fp:List Addr}{h1:Heap}{tk:Nat} (I:Inv X pins σ H s) (S:cI X.N X.env.scope N nv js scope) (hf:∀ b∈fp,g5 X pins H b) (hfl:∀ b∈fp,b < s.heap.objs.size)
  (keep:∀ b o,s.heap.get? b=some o→h1.get? b=some o) (ns:h1.Ns s.heap.objs.size fun _=>none) :
  Inv (cA X N scope s.heap.objs.size s H fp) [] (jy nv js σ) H { s with heap:=h1,toks:=tk }:=by
 have hfr:∀ n,(n,NameKind.free)∈scope.names→∃ c,X.env.cells.lookup n=some c:=fun n hn=>I.ok.has n (S.free _ hn rfl)
 have sub:∀ x c,(cz X.env scope.names []).lookup x=some c→X.env.cells.lookup x=some c:=gw scope.names [] hfr (fun x c z=>by cases z)
 have DL:∀ x,scope.names.lookup x≠some .cell:=fun x z=>S.cell _ (PySem.mem_of_lookup z) rfl
 have IU:∀ x,(relabel scope X.env).names.lookup x=some .cell∨(relabel scope X.env).names.lookup x=some .free→scope.names.lookup x=some .free:=by
  intro x hx
  have e:=fF (env:=X.env) x scope.names
  have hx':(relabel scope X.env).names.lookup x=_:=e
  rw[hx'] at hx
  cases q:scope.names.lookup x with
  | none=>rw[q] at hx;rcases hx with hx | hx <;> cases hx
  | some k =>
   rw[q,Option.map_some] at hx
   cases k <;> first | rfl | (exact absurd q (DL x)) | (exfalso;rcases hx with hx | hx <;> simp at hx)
 refine⟨⟨I.ok.mod,S.kind,I.ok.glob,I.ok.blt,Nat.le_refl _,fun x y c h1 h2=>I.ok.inj x y c (sub _ _ h1) (sub _ _ h2),fun x hx=>?_,fun x c z=>(by cases z),I.ok.hd,I.ok.frames,.inl rfl,fun b hb=>?_,fun b o e=>?_,?_,fun b o e hb=>?_,fun b hb z=>?_,I.stack,I.pS⟩,
  rfl,I.bare,Un.kept keep,⟨_,ns,fun i x v e1 e2 e3=>?_⟩,fun x c e=>?_,I.hok.fresh (Nat.le_refl _),fun x c e=>I.eG x c (sub _ _ e),fun p hp=>absurd (show p∈([]:List (Addr×Obj)) from hp) (by simp),I.hok.kept keep,?_⟩
 ·exact iu _ _ _ (.inl (PySem.mem_of_lookup (IU x hx)))
 ·obtain⟨f0,f1,f2,f3,f4,f5⟩:=hf b hb
  exact⟨Nat.ne_of_lt (hfl b hb),fun x c e=>f4 x c (sub x c e)⟩
 ·exact I.bs b o e
 ·exact Nat.le_trans I.ok.zL I.sz
 ·obtain⟨f0,f1,f2,f3,f4,f5⟩:=hf b hb
  rcases f3 with z | z
  ·exact I.ok.tY b o e z
  ·exact absurd (Nat.lt_of_lt_of_le (Heap.lt_size e) (Nat.le_trans I.ok.zL z)) (Nat.lt_irrefl _)
 ·obtain⟨f0,f1,f2,f3,f4,f5⟩:=hf b hb
  rcases List.mem_cons.mp (I.kH b z) with q | q
  ·exact f1 q
  ·exact f2 q
 ·
  have hi:¬i < nv:=fun hlt=>by
   unfold jy at e2
   rw[List.getElem?_append_left (by simpa using hlt),List.getElem?_replicate,if_pos hlt] at e2
   cases e2
  obtain⟨k,rfl⟩:∃ k,i=nv+k:=⟨i - nv,by omega⟩
  unfold jy at e2
  rw[List.getElem?_append_right (by simp),List.length_replicate,Nat.add_sub_cancel_left,List.getElem?_map] at e2
  cases hj:js[k]? with
  | none=>rw[hj] at e2;cases e2
  | some j =>
   rw[hj,Option.map_some] at e2
   have Ck:(σ[j]?).getD none=some v:=Option.some.inj e2
   have hσ:σ[j]? = some (some v):=by
    cases q:σ[j]? with
    | none=>rw[q] at Ck;cases Ck
    | some z=>rw[q] at Ck;exact congrArg some Ck
   have hd:(N.drop nv)[k]? = some x:=by rw[List.getElem?_drop];exact e1
   have hX:X.N[j]? = some x:=by
    have q:=congrArg (fun l=>l[k]?) S.pl
    simp only[List.getElem?_map,hj,hd,Option.map_some] at q
    exact Option.some.inj q
   have hfx:=S.fr x (List.mem_of_getElem? hd)
   have kx:=S.free _ (PySem.mem_of_lookup hfx) rfl
   obtain⟨m,_,hl⟩:=I.loc
   obtain⟨u,r,l⟩:=hl j x v hX hσ (.inr kx)
   refine⟨u,r,?_⟩
   rcases l with ⟨k1,_⟩ | ⟨_,c,hc,hcell⟩
   ·exfalso
    have K4:X.env.scope.names.lookup x=some .local:=k1
    rcases kx with z | z <;> (rw[K4] at z;cases z)
   ·obtain⟨c',hc'⟩:=iu (env:=X.env) scope.names [] x (.inl (PySem.mem_of_lookup hfx))
    have e:=sub _ _ hc'
    rw[hc] at e;cases e
    refine .inr ⟨?_,c,hc',hcell.keeps keep⟩
    have e:=fF (env:=X.env) x scope.names
    have e':(relabel scope X.env).names.lookup x=_:=e
    rw[hfx,Option.map_some] at e'
    show(relabel scope X.env).names.lookup x=some .cell∨(relabel scope X.env).names.lookup x=some .free
    rw[e']
    split
    ·exact .inl rfl
    ·exact .inr rfl
 ·obtain⟨v,q⟩:=I.cell x c (sub _ _ e)
  exact⟨v,q.keeps keep⟩
 ·unfold jy
  show _=N.length
  rw[List.length_append,List.length_replicate,List.length_map,S.len]
end
def uw (X:Cx) (ifs:List Expr) (t:TT):Prop :=
 ∀(pins:List (Addr×Obj)) (s:Shared) (σ:St) (H:Hp) (Q:Bool→Hp→Prop),Inv X pins σ H s→t σ H Q →
  wpAny (model X.prog X.w) X.A (forIn ifs true fun c r=>if r=true then do let ok ←isTrue c X.env (eval c X.env);pure (ForInStep.yield ok) else pure (ForInStep.yield r)) (TP X pins σ Q) X.xe s
def DM:TT:=fun _ H Q=>Q true H
theorem qb {X:Cx}:uw X [] DM:=fun _ _ _ H _ I h=>wpAny_tests_nil ⟨H,I,h⟩
def nc (J:It) (g:TG) (tt:TT) (te:TE) (Q:VK) (D:Addr) (τ:St) (H:Hp):Prop :=
 ∃ W:Nat→Nat→List V→St→Hp→Prop,(∃ m,W 0 m [] τ (upd H D (.lst [])))∧∀ i m ys τ H,W i m ys τ H→H D=some (.lst ys) ∧
  ((J.stop i H∧Q (.ref D) H)∨(J.go i H∧∃ N:List V→St→Hp→Prop,(∀ zs σ' H',N zs σ' H'→∃ m',m' < m∧W (i+1) m' zs σ' H')∧∀ x H',J.Dr i H x H'→g x τ H' fun τ2 H2=>tt τ2 H2 fun b H3 =>
   if b=true then te τ2 H3 fun y H4=>H4 D=some (.lst ys)∧ys.length < sizeLine∧N (ys++[y]) τ2 (upd H4 D (.lst (ys++[y])))
   else N ys τ2 H3))
def C4 (wi:TI) (g:TG) (tt:TT) (te:TE) (nv:Nat) (js:List Nat):TE:=fun σ H Q=>wi σ H fun J H1=>∀ D,H1 D=none→nc J g tt te Q D (jy nv js σ) H1
theorem ng {prog:Program}{w:World}{A:Around}{R:Result→Shared→Prop}{s:Shared}{elt target iter:Expr}{ifs:List Expr}{scope:Scope}{pos:Pos}{it acc:Value}{env:Env} (I:Nat→Shared→Prop)
  (turn:∀ n s,I n s→wpAny (model prog w) A (pyNext it) (fun r s₁=>match r with
   | none=>R (.ok .next) s₁
   | some v=>wpAny (model prog w) A (letOwnedTupleGo target it v) (fun _ s₁'=>wpAny (model prog w) A (assign target env v) (fun _ s₂ =>
     wpAny (model prog w) A (forIn ifs true fun c r=>if r=true then do let ok ←isTrue c env (eval c env);pure (ForInStep.yield ok) else pure (ForInStep.yield r)) (fun ok s₃ =>
      if ok=true then wpAny (model prog w) A (eval elt env) (fun x s₄ =>
       wpAny (model prog w) A (call (.builtin "list.append") [acc,x]) (fun _ s₅=>∃ m,m < n∧I m s₅) (fun _ _=>False) s₄) (fun _ _=>False) s₃
      else ∃ m,m < n∧I m s₃) (fun _ _=>False) s₂) (fun _ _=>False) s₁') (fun _ _=>False) s₁) (fun _ _=>False) s)
  (n:Nat) (h:I n s) :
  codeAny (model prog w) A (.compLoop (.ListComp elt [⟨target,iter,ifs,0⟩] scope pos) 0 it acc env) R s:=by
 refine codeAny_loop rfl I (fun n s hI=>?_) n h
 show wpAny _ A ((compTurn (.ListComp elt [⟨target,iter,ifs,0⟩] scope pos) 0 it acc env).onRaise (fun x=>do noteFrame x env;theTreesLotGoes x)) _ _ s
 refine wpAny_noted (wpAny_mono (E:=fun _ _=>False) ?_ (fun _ _ q=>q) fun _ _ q=>q.elim)
 rw[compTurn_list]
 refine wpAny_bind (wpAny_standAt (wpAny_bind (wpAny_mono (turn n s hI) (fun r s₁ h₁=>?_) fun _ _ h'=>h')))
 cases r with
 | none=>exact wpAny_pure h₁
 | some v =>
  refine wpAny_bind (wpAny_mono h₁ (fun _ s₁' h₁'=>?_) fun _ _ h'=>h')
  refine wpAny_bind (wpAny_mono h₁' (fun _ s₂ h₂=>wpAny_bind (wpAny_mono h₂ (fun ok s₃ h₃=>?_) fun _ _ h'=>h')) fun _ _ h'=>h')
  cases ok with
  | false=>exact wpAny_pure ⟨rfl,h₃⟩
  | true =>
   exact wpAny_bind (wpAny_bind (wpAny_mono h₃ (fun x s₄ h₄=>wpAny_bind (wpAny_mono h₄ (fun _ s₅ h₅=>wpAny_pure (wpAny_pure ⟨rfl,h₅⟩)) fun _ _ h'=>h')) fun _ _ h'=>h'))
section
variable {X:Cx}{elt tg iter:Expr}{ifs:List Expr}{scope:Scope}{pos:Pos}{N:List Str}{nv:Nat}{js:List Nat}{wi:TI}{g:TG}{tt:TT}{te:TE}
theorem ux {pins:List (Addr×Obj)}{σ:St}{H:Hp}{s:Shared}{Q:VK}{it:Addr}{fp:List Addr}{tn:Nat→Heap→Prop}{J:It}{E:Value→Shared→Prop}{RR:Value→Addr→Result→Shared→Prop} (hc:X.calm=true)
  (S:cI X.N X.env.scope N nv js scope) (hg:∀ C s H fp,PG (cA X N scope C s H fp) tg g) (ht:∀ C s H fp,uw (cA X N scope C s H fp) ifs tt) (he:∀ C s H fp,PE (cA X N scope C s H fp) elt te)
  (I:Inv X pins σ H s) (T:Turn X.prog X.w X.K tg J fp it tn) (st:tn 0 s.heap) (hf:∀ b∈fp,g5 X pins H b) (hR:∀ D,H D=none→nc J g tt te Q D (jy nv js σ) H)
  (hRR:∀ D C H' s' m,Inv X pins σ H' s'→g5 X pins H' C→s'.heap.Ns C m→Q (.ref D) H'→RR (.ref D) C (.ok .next) s') :
  wpAny (model X.prog X.w) X.A (newList []) (fun acc s₃=>wpAny (model X.prog X.w) X.A (newFunctionEnv scope X.env.globals (cz X.env scope.names []) [] X.env.qual none .none (some X.env)) (fun cenv s₄ =>
   codeAny (model X.prog X.w) X.A (.compStart (.ListComp elt [⟨tg,iter,ifs,0⟩] scope pos) 0 (.ref it) acc { cenv with scope:=relabel scope X.env }) (RR acc cenv.locals) s₄) E s₃) E s:=by
 refine wpAny_newObj_type (wpAny_newFunctionEnv S.cell (by intro y hy;simp at hy) (fun h₁ nh ni=>?_) S.kind)
 have I3:Inv X pins σ (upd H s.heap.objs.size (.lst [])) { s with heap:=s.heap.push { cls:=.type "list",data:=.seq ([]:List Value).toArray } }:=I.DI (t':=s.toks) (its:=[]) .nil (Nat.zero_le _)
 have hD:=I.fresh
 obtain⟨W,⟨m0,w0⟩,turn⟩:=hR s.heap.objs.size hD
 have ho:=T.obj 0 s.heap st
 have Ao:∀ b∈fp,b < s.heap.objs.size:=fun b hb=>let ⟨o,e,_⟩:=ho b hb;Heap.lt_size e
 have uy:∀ b∈fp,g5 X pins (upd H s.heap.objs.size (.lst [])) b:=fun b hb=>⟨by rw[aH (Nat.ne_of_lt (Ao b hb))];exact(hf b hb).1,(hf b hb).2⟩
 generalize FE:({ s with heap:=s.heap.push { cls:=.type "list",data:=.seq ([]:List Value).toArray } }:Shared)=s3 at I3 nh ni
 have e3:s3.heap=s.heap.push { cls:=.type "list",data:=.seq ([]:List Value).toArray }:=by rw[←FE]
 have hfl:∀ b∈fp,b < s3.heap.objs.size:=fun b hb=>by rw[e3,Heap.size_push];exact Nat.lt_succ_of_lt (Ao b hb)
 have keep:∀ b o,s3.heap.get? b=some o→h₁.get? b=some o:=fun b o e=>ni.extBut b o (Nat.ne_of_lt (Heap.lt_size e)) (Heap.get?_push_of_some _ e)
 have J0:=m9 (tk:=s3.toks+([]:List (Str×Value)).length) I3 S uy hfl keep nh
 have st1:tn 0 h₁:=T.keep 0 s.heap h₁ st fun b hb o e=>keep b o (by rw[e3];exact Heap.get?_push_of_some _ e)
 generalize MI:upd H s.heap.objs.size (.lst [])=H3 at *
 generalize hY:cA X N scope s3.heap.objs.size s3 H3 fp=Y at *
 have sub:∀ x c,(cz X.env scope.names []).lookup x=some c→X.env.cells.lookup x=some c :=
  gw scope.names [] (fun n hn=>I.ok.has n (S.free _ hn rfl)) (fun x c z=>by cases z)
 have m6:∀{H':Hp},(∀ b∈fp,H' b=none)→∀ b∈fp,g5 Y [] H' b:=fun {H'} hn b hb=>by
  subst hY
  obtain⟨f0,f1,f2,f3,f4,f5⟩:=uy b hb
  refine⟨hn b hb,Nat.ne_of_lt (hfl b hb),fun z=>?_,.inl hb,fun x c e=>f4 x c (sub x c e),fun p hp=>absurd (show p∈([]:List (Addr×Obj)) from hp) (by simp)⟩
  rcases List.mem_cons.mp (I3.kH b z) with q | q
  ·exact f1 q
  ·exact f2 q
 have eA:Y.A=X.A:=by subst hY;rfl
 have eP:Y.prog=X.prog:=by subst hY;rfl
 have eW:Y.w=X.w:=by subst hY;rfl
 have eK:Y.K=X.K:=by subst hY;rfl
 have eC:Y.calm=true:=by subst hY;exact hc
 have eE:Y.env=compEnvC scope (cz X.env scope.names []) s3.heap.objs.size X.env:=by subst hY;rfl
 have Cm:Y.xe=fun _ _=>False:=by subst hY;rfl
 have IV:PG Y tg g:=by subst hY;exact hg _ _ _ _
 have IW:uw Y ifs tt:=by subst hY;exact ht _ _ _ _
 have IX:PE Y elt te:=by subst hY;exact he _ _ _ _
 have loop:codeAny (model X.prog X.w) X.A (.compLoop (.ListComp elt [⟨tg,iter,ifs,0⟩] scope pos) 0 (.ref it) (.ref s.heap.objs.size) (compEnvC scope (cz X.env scope.names []) s3.heap.objs.size X.env))
   (RR (.ref s.heap.objs.size) s3.heap.objs.size) { s3 with heap:=h₁,toks:=s3.toks+([]:List (Str×Value)).length }:=by
  refine ng (fun n s'=>∃ i ys τ H',Inv Y [] τ H' s'∧tn i s'.heap∧(∀ b∈fp,H' b=none)∧W i n ys τ H') ?_ m0 ⟨0,[],_,H3,J0,st1,fun b hb=>(uy b hb).1,w0⟩
  rintro n s4 ⟨i,ys,τ,H4,I4,FF,FG,w4⟩
  obtain⟨MJ,tr⟩:=turn i n ys τ H4 w4
  rcases tr with ⟨stop,qn⟩ | ⟨go,Nn,FH,step⟩
  ·have d:=T.done Y eP eW eK eC i [] s4 τ H4 (fun _ _=>False) I4 (m6 FG) FF stop
   rw[eA] at d
   refine cg d fun r s5 ⟨hr,I5⟩=>?_
   subst hr
   have u:Inv X pins σ H4 s5:=by
    subst hY
    exact I3.wQ (ch:=fp) I5.os I5.base I5.hok I5.bare fun b hb=>⟨(uy b hb).2.2.2.1,(uy b hb).2.1,(uy b hb).2.2.2.2.1,(uy b hb).2.2.2.2.2⟩
   have hC:H4 s3.heap.objs.size=none:=by have z:=I5.free;rw[eE] at z;exact z
   obtain⟨m,hn,_⟩:=I5.loc
   rw[eE] at hn
   exact hRR _ _ H4 s5 m u (I3.rN (Nat.le_refl _) hC) hn qn
  ·have d:=T.item Y eP eW eK eC i [] s4 τ H4 (fun _ _=>False) I4 (m6 FG) FF go
   rw[eA] at d
   refine cg d fun r s5 ⟨u,hr,h5⟩=>?_
   subst hr
   refine cg h5 fun _ s6 ⟨x,H6,I6,r6,y6,DN,IY⟩=>?_
   have IZ:=I6.pinned (m6 IY) (T.obj _ _ DN)
   have q6:=IV _ s6 τ H6 x u _ IZ r6 (step x H6 y6)
   rw[eP,eW,eA,eE,Cm] at q6
   refine cg q6 fun _ s7 ⟨σ7,H7,I7,q7⟩=>?_
   have q8:=IW _ s7 σ7 H7 _ I7 q7
   rw[eP,eW,eA,eE,Cm] at q8
   refine cg q8 fun ok s8 ⟨H8,I8,q8⟩=>?_
   have again:∀{σ9:St}{H9:Hp}{s9:Shared}{zs:List V},Inv Y ([]++kJ fp s6.heap) σ9 H9 s9→(∃ m',m' < n∧W (i+1) m' zs σ9 H9)→∃ m,m < n∧∃ i ys τ H',Inv Y [] τ H' s9∧tn i s9.heap∧(∀ b∈fp,H' b=none)∧W i m ys τ H':=fun {σ9 H9 s9 zs} I9 n9=>by
    obtain⟨m',hm,w9⟩:=n9
    refine⟨m',hm,i+1,zs,σ9,H9,I9.ic,T.keep _ _ _ DN fun b hb o e=>(I9.pin (b,o) (List.mem_append_right _ (List.mem_append_right _ (d8 hb e)))).1,fun b hb=>?_,w9⟩
    obtain⟨o,e,d⟩:=T.obj _ _ DN b hb
    exact(I9.pin (b,o) (List.mem_append_right _ (List.mem_append_right _ (d8 hb e)))).2.1
   cases ok with
   | false =>
    rw[if_neg Bool.false_ne_true]
    rw[if_neg Bool.false_ne_true] at q8
    exact again I8 (FH _ _ _ q8)
   | true =>
    rw[if_pos rfl]
    rw[if_pos rfl] at q8
    have q9:=IX _ s8 σ7 H8 _ I8 q8
    rw[eP,eW,eA,eE,Cm] at q9
    refine cg q9 fun y s9 ⟨yv,H9,I9,r9,I0,Ja,q9⟩=>?_
    have ap:=iK (X:=Y) _ s9 σ7 H9 (.ref s.heap.objs.size) [yv] (.ref s.heap.objs.size) [y] (fun _ FI=>Nn (ys++[yv]) σ7 FI) I9 rfl (.cons r9 .nil) ⟨_,ys,yv,rfl,rfl,I0,Ja,q9⟩
    rw[eP,eW,eA,Cm] at ap
    exact cg ap fun _ MK ⟨_,FI,Jb,_,Jc⟩=>again Jb (FH _ _ _ Jc)
 subst FE
 exact codeAny_compStart_list loop (T.self _ 0 _ _ _ st1 loop)
theorem xh (hc:X.calm=true) (S:cI X.N X.env.scope N nv js scope) (hi:PI X tg iter wi) (hg:∀ C s H fp,PG (cA X N scope C s H fp) tg g) (ht:∀ C s H fp,uw (cA X N scope C s H fp) ifs tt)
  (he:∀ C s H fp,PE (cA X N scope C s H fp) elt te) (hs:∀ x,foldedSetIterable iter X.env x=pure x:=by intro _;rfl) :
  PE X (.ListComp elt [⟨tg,iter,ifs,0⟩] scope pos) (C4 wi g tt te nv js):=by
 intro pins s σ H Q I h
 rw[eval_ListComp]
 refine wpAny_comprehension_free (use:=none) rfl hs (jb fun n hn=>I.ok.has n (S.free _ hn rfl)) S.kind S.loc (cg (hi pins s σ H _ I h) fun v s1 h1=>cg h1 fun itv s2 h2=>?_)
 obtain⟨it,fp,tn,J,H2,e,I2,T,st2,f2,hR⟩:=h2
 subst e
 refine ux (RR:=fun acc C=>compPost (model X.prog X.w) X.A X.xe none (EP X pins σ Q) acc C) hc S hg ht he I2 T st2 f2 hR ?_
 intro D C H' s' m I' fC hn q
 refine⟨m,hn,fun h' sb=>⟨.ref D,H',?_,rfl,q⟩⟩
 exact I'.turned (t':=s'.toks) (fun b o hb e=>(sb.2 b hb).trans e) fC.1 fC.2.1 fC.2.2.2.1 fC.2.2.2.2.1 fC.2.2.2.2.2
end
section
variable {prog:Program}{w:World}{A:Around}{E:Value→Shared→Prop}{s:Shared}
end
section
variable {X:Cx}{e:Expr}{te:TE}
end
def sg (c:Nat):Str:=⟨#[c]⟩
def Jd (z:Str):It:=⟨fun i _=>i < z.cps.size,fun i H x H'=>H'=H∧∃ c,z.cps[i]? = some c∧x=.str (sg c),fun i _=>z.cps.size≤i⟩
theorem Aq {P:Program}{w:World}{K:W.Frag}{tg:Expr} (it:Addr) (z:Str) (t:Tok):Turn P w K tg (Jd z) [it] it (fun i h=>h.IsStrIter it (strIterType z) z t i) where
 mem:=by simp
 obj:=fun i h st b hb=>by
  have e:b=it:=by simpa using hb
  subst e
  obtain⟨o,e,c,d⟩:=st
  exact⟨o,e,fun v z=>by rw[d] at z;cases z⟩
 keep:=fun i h h' st k=>by
  obtain⟨o,e,r⟩:=st
  exact⟨o,k it (by simp) o e,r⟩
 item:=by
  intro X hP hw hK hc i pins s σ H E I hf st hg
  subst hP hw hK
  obtain⟨f0,f1,f2,f3,f4,f5⟩:=hf it (by simp)
  have hi:i < z.cps.size:=hg
  have hx:z.cps[i]? = some z.cps[i]:=by simp[hi]
  cases ha:z.cps.all (· < 128) with
  | true =>
   have et:strIterType z = "str_ascii_iterator" := by simp only[strIterType,ha,if_true]
   rw[et] at st ⊢
   refine wpAny_pyNext_ascii_item st hx fun h' st' sb=>?_
   have I1:Inv X pins σ H { s with heap:=h',toks:=s.toks+1 }:=I.turned (fun b o hb e=>(sb.2 b hb).trans e) f0 f1 f3 f4 f5
   obtain⟨o,e,c,d⟩:=id st'
   exact⟨_,rfl,pe (s:={ s with heap:=h',toks:=s.toks+1 }) e c d (by decide) ⟨.str (sg z.cps[i]),H,I1,⟨_,rfl⟩,⟨rfl,_,hx,rfl⟩,st',fun b hb=>(hf b hb).1⟩⟩
  | false =>
   have et:strIterType z = "str_iterator" := by simp only[strIterType,ha,Bool.false_eq_true,if_false]
   rw[et] at st ⊢
   refine wpAny_pyNext_wide_item st hx fun h' st' sb=>?_
   have I1:Inv X pins σ H { s with heap:=h',toks:=s.toks+1 }:=I.turned (fun b o hb e=>(sb.2 b hb).trans e) f0 f1 f3 f4 f5
   obtain⟨o,e,c,d⟩:=id st'
   exact⟨_,rfl,pe (s:={ s with heap:=h',toks:=s.toks+1 }) e c d (by decide) ⟨.str (sg z.cps[i]),H,I1,⟨_,rfl⟩,⟨rfl,_,hx,rfl⟩,st',fun b hb=>(hf b hb).1⟩⟩
 done:=by
  intro X hP hw hK hc i pins s σ H E I hf st hg
  subst hP hw hK
  obtain⟨f0,f1,f2,f3,f4,f5⟩:=hf it (by simp)
  have hi:z.cps.size≤i:=hg
  have hx:z.cps[i]? = none:=by simp[hi]
  cases ha:z.cps.all (· < 128) with
  | true =>
   have et:strIterType z = "str_ascii_iterator" := by simp only[strIterType,ha,if_true]
   rw[et] at st
   exact wpAny_pyNext_ascii_end (I.ok.hd hc) st hx fun h' eb=>⟨rfl,I.turned (t':=s.toks) (fun b o hb e=>eb b o hb e) f0 f1 f3 f4 f5⟩
  | false =>
   have et:strIterType z = "str_iterator" := by simp only[strIterType,ha,Bool.false_eq_true,if_false]
   rw[et] at st
   exact wpAny_pyNext_wide_end (I.ok.hd hc) st hx fun h' eb=>⟨rfl,I.turned (t':=s.toks) (fun b o hb e=>eb b o hb e) f0 f1 f3 f4 f5⟩
 self:=by
  intro A i s Q E st h
  cases ha:z.cps.all (· < 128) with
  | true =>
   have et:strIterType z = "str_ascii_iterator" := by simp only[strIterType,ha,if_true]
   rw[et] at st
   exact wpAny_pyIter_striter_ascii st h
  | false =>
   have et:strIterType z = "str_iterator" := by simp only[strIterType,ha,Bool.false_eq_true,if_false]
   rw[et] at st
   exact wpAny_pyIter_striter_wide st h
section
variable {X:Cx}{tg:Expr}
def Je (tl:TE):TI:=fun σ H R=>tl σ H fun x H1=>∃ z,x=.str z∧R (Jd z) H1
theorem DO {l:Expr}{tl:TE} (hl:PE X l tl):PI X tg l (Je tl):=by
 intro pins s σ H R I h
 refine cg (hl pins s σ H _ I h) fun v s1 ⟨x,H1,I1,r1,q1⟩=>?_
 obtain⟨z,e,q⟩:=q1
 subst e
 obtain⟨t,rfl⟩:=r1
 refine wpAny_pyIter_strU ?_
 refine⟨s1.heap.objs.size,[s1.heap.objs.size],_,_,H1,rfl,I1.kept (t':=s1.toks) fun b o e=>Heap.get?_push_of_some _ e,Aq _ z t,⟨_,Heap.get?_push_size _ rfl,rfl,rfl⟩,fun b hb=>?_,q⟩
 have e:b=s1.heap.objs.size:=by simpa using hb
 subst e
 exact I1.rN (Nat.le_refl _) (I1.hok.fresh (Nat.le_refl _))
end
theorem Ar {z:Str}{g:TG}{tt:TT}{te:TE}{Q:VK}{D:Addr}{τ:St}{H:Hp} (Pv:Nat→List V→St→Hp→Prop) (h0:Pv 0 [] τ (upd H D (.lst [])))
  (hl:∀ i ys τ H,i≤z.cps.toList.length→Pv i ys τ H→H D=some (.lst ys))
  (hs:∀ i c ys τ H,z.cps.toList[i]? = some c→Pv i ys τ H→g (.str (sg c)) τ H fun τ2 H2=>tt τ2 H2 fun b H3=>if b=true then te τ2 H3 fun y H4=>H4 D=some (.lst ys)∧ys.length < sizeLine∧Pv (i+1) (ys++[y]) τ2 (upd H4 D (.lst (ys++[y]))) else Pv (i+1) ys τ2 H3)
  (hd:∀ ys τ H,Pv z.cps.toList.length ys τ H→Q (.ref D) H) :
  nc (Jd z) g tt te Q D τ H:=by
 have hz:z.cps.toList.length=z.cps.size:=by simp
 refine⟨fun i m ys τ H=>m=z.cps.size - i∧i≤z.cps.size∧Pv i ys τ H,⟨z.cps.size,by simp,Nat.zero_le _,h0⟩,?_⟩
 rintro i m ys τ H ⟨rfl,hi,p⟩
 refine⟨hl i ys τ H (by omega) p,?_⟩
 by_cases hlt:i < z.cps.size
 ·refine .inr ⟨hlt,Pv (i+1),fun zs σ' H' p'=>⟨z.cps.size - (i+1),by omega,rfl,hlt,p'⟩,fun x H' y=>?_⟩
  obtain⟨e,c,hc,ex⟩:=y
  subst e ex
  exact hs i c ys τ _ (by simpa using hc) p
 ·have e:i=z.cps.size:=by omega
  subst e
  exact .inl ⟨Nat.le_refl _,hd ys τ H (by rw[hz];exact p)⟩
theorem uz {lo:Int}{n:Nat}{g:TG}{tt:TT}{te:TE}{Q:VK}{D:Addr}{τ:St}{H:Hp} (Pv:Nat→List V→St→Hp→Prop) (h0:Pv 0 [] τ (upd H D (.lst [])))
  (hl:∀ i ys τ H,i≤n→Pv i ys τ H→H D=some (.lst ys))
  (hs:∀ i ys τ H,i < n→Pv i ys τ H→g (.int (lo+i)) τ H fun τ2 H2=>tt τ2 H2 fun b H3=>if b=true then te τ2 H3 fun y H4=>H4 D=some (.lst ys)∧ys.length < sizeLine∧Pv (i+1) (ys++[y]) τ2 (upd H4 D (.lst (ys++[y]))) else Pv (i+1) ys τ2 H3)
  (hd:∀ ys τ H,Pv n ys τ H→Q (.ref D) H) :
  nc (CW lo n) g tt te Q D τ H:=by
 refine⟨fun i m ys τ H=>m=n - i∧i≤n∧Pv i ys τ H,⟨n,by simp,Nat.zero_le _,h0⟩,?_⟩
 rintro i m ys τ H ⟨rfl,hi,p⟩
 refine⟨hl i ys τ H hi p,?_⟩
 by_cases hlt:i < n
 ·refine .inr ⟨hlt,Pv (i+1),fun zs σ' H' p'=>⟨n - (i+1),by omega,rfl,hlt,p'⟩,fun x H' y=>?_⟩
  obtain⟨e,y⟩:=y
  subst e y
  exact hs i ys τ _ hlt p
 ·have e:i=n:=by omega
  subst e
  exact .inl ⟨Nat.le_refl _,hd ys τ H p⟩
section
variable {X:Cx}
theorem rR:eH X (.builtin "isinstance") (fun xs H Q=>∃ x c t b,xs=[x,c]∧fX X.K H x t∧((∃ n,c=.ty n∧W.kitOne X.K t (.type n)=some b)∨(∃ a,c=.ref a∧W.kitOne X.K t (.ref a)=some b))∧Q (.bl b) H):=by
 intro pins s σ H xs us Q I r h
 obtain⟨x,c,t,b,rfl,ty,hc,q⟩:=h
 obtain⟨u,w',rfl,ru,rw'⟩:=vals2 r
 rcases hc with ⟨n,rfl,e⟩ | ⟨a,rfl,e⟩
 ·cases rw'
  exact pA I ru ty e fun tk=>⟨.bl b,H,I.tok tk,rfl,q⟩
 ·cases rw'
  exact pA I ru ty e fun tk=>⟨.bl b,H,I.tok tk,rfl,q⟩
end
section
variable {X:Cx}
end
section
variable {X:Cx} (K:W.Frag) (h:X.K=K)
include h
theorem As:ER X (DC K):=by subst h;exact Cf
theorem Cn:ER X (DE K):=by subst h;exact DF
theorem Au:Fy X (FA K):=by subst h;exact Cg
theorem iL:Fy X (Fz K):=by subst h;exact DB
theorem fY:eH X (.builtin "len") (fun xs H Q=>∃ p ys,xs=[.ref p]∧(dz K H p ys∨dB K H p ys)∧Q (.int ys.length) H):=by subst h;exact p8
theorem gy:eH X (.builtin "isinstance") (fun xs H Q=>∃ x c t b,xs=[x,c]∧fX K H x t∧((∃ n,c=.ty n∧W.kitOne K t (.type n)=some b)∨(∃ a,c=.ref a∧W.kitOne K t (.ref a)=some b))∧Q (.bl b) H):=by subst h;exact rR
theorem jc:eH X (.type "list") (fun xs H Q=>∃ p ys,xs=[.ref p]∧(dz K H p ys∨dB K H p ys)∧∀ l,H l=none→Q (.ref l) (upd H l (.lst ys))):=by subst h;exact p9
theorem jQ:g8 X (binaryOp .Add) (C1 K):=by subst h;exact Cb
theorem rS {tg l:Expr}{tl:TE} (hl:PE X l tl):PI X tg l (CY K tl):=by subst h;exact BX hl
theorem Co {tg l:Expr}{tl:TE} (hl:PE X l tl):PI X tg l (Ff K tl):=by subst h;exact Dt hl
theorem qc {es:List Expr}{k:Nat}{pos:Pos}{t:CV} (n:Nat) (hc:X.calm=true) (hh:E9 X es t)
 (hn:(assignEach es X.env).length=n:=by rfl) (hst:(assignEach es X.env).findIdx? (·.1)=none:=by rfl):PG X (.Tuple es k pos) (Fc K n t):=by subst h;exact Dp hc hh hn hst
theorem eX {e:Expr}{ta:TE}{f:Str}{pos:Pos} (he:PE X e ta) (hb:attributeBase e f X.env (eval e X.env)=eval e X.env):PE X (.Attribute e f pos) (Fq K ta f):=by subst h;exact Dw he hb
theorem uA {o e:Expr}{es:List Expr}{to:TE}{t:TA}{name:Str}{apos cpos:Pos}{T id:String}{r:V→List V→Hp→VK→Prop} (pa:PlainAttrs T) (slot:Slot T name id) (hty:typeOf (.builtin id)=pure (.type "method_descriptor")) (hm:IJ X id r) (ho:PE X o to) (ha:PA X (e :: es) t)
 (hbase:attributeBase o name X.env (eval o X.env)=eval o X.env:=by rfl)
 (hfew:((backTo cpos (starEach (e :: es) X.env)).all (fun x=>!x.1) && (backToKw cpos (keywordEach [] X.env)).all (fun x=>x.1.isSome)
  && decide ((e :: es).length+([]:List Keyword).length+(if ([]:List Keyword).isEmpty then 0 else 1) < 30))=true:=by rfl)
 (hline:(apos.endLine == cpos.line)=true:=by rfl) (hs:starEach (e :: es) X.env=(false,eval e X.env) :: starEach es X.env:=by rfl) (hplain:(backTo cpos (starEach es X.env)).any (·.1)=false:=by rfl) :
 PE X (.Call (.Attribute o name apos) (e :: es) [] cpos) (K2 K T r to t):=by subst h;exact FD pa slot hty hm ho ha hbase hfew hline hs hplain
end
section
variable {X:Cx}
theorem dD {x:Str}{a:Addr}{pos:Pos} (hg:Gl X x) (hm:X.mg x=some (.ref a)) (hd:(x == ("__debug__" : Str))=false:=by decide):PE X (.Name x pos) (tC (.ref a)):=BS hg hm rfl hd
theorem DP (n:String) {x:Str}{pos:Pos} (hg:Gl X x) (hm:X.mg x=none) (hv:bootBuiltins x=some (.type n)) (hn:x ≠ "__name__" := by decide) (hd:(x == ("__debug__" : Str))=false:=by decide):PE X (.Name x pos) (tC (.ty n)):=BU hg hm hv rfl hn hd
end
structure Cp (K:W.Frag) (x qual:Str) (st:Stmt) (f:Addr) (fd:FuncData) (dV:Value):Prop where
 ex:∃(oc:Value) (od:Option Addr) (kV doc pm:Value) (an:Option Addr) (cdv ct:Value) (osl:Array (Option Value)),
  fd=W.fnOf x qual (bI st) (bf st) (aq st) dV kV doc pm an cdv ct∧K.lookup f=some ⟨oc,od,.func fd,osl⟩∧W.codeIn K cdv qual=true
 kp:W.keepIn K (.ref f)=true
section
variable {P:Program}{w:World}{K:W.Frag}{mg:Str→Option Value}{base:Heap}
theorem Cq {x qual:Str}{st:Stmt}{f:Addr}{oc dV:Value}{od an:Option Addr}{osl:Array (Option Value)}{kV doc pm cdv ct:Value} (l:K.lookup f=some ⟨oc,od,.func (W.fnOf x qual (bI st) (bf st) (aq st) dV kV doc pm an cdv ct),osl⟩)
 (c:W.codeIn K cdv qual=true) (k:W.keepIn K (.ref f)=true):Cp K x qual st f (W.fnOf x qual (bI st) (bf st) (aq st) dV kV doc pm an cdv ct) dV:=⟨⟨oc,od,kV,doc,pm,an,cdv,ct,osl,rfl,l,c⟩,k⟩
end
section
variable {X:Cx}
theorem lA:∀{bs:List Bool}{us:List Value}{i:Nat}{u:Value},Vals (bs.map V.bl) us→us[i]? = some u→u=.bool (bs.getD i true)
 | [],_,_,_,r,e=>by cases r;simp at e
 | b :: bs,_,i,u,r,e=>by
  cases r with
  | cons r1 r2 =>
   cases i with
   | zero=>simp at e;subst e;exact r1
   | succ i=>simp at e;simpa using lA r2 e
theorem all_range (bs:List Bool):((List.range bs.length).all fun i=>bs.getD i true)=bs.all id:=by
 rw[Bool.eq_iff_iff,List.all_eq_true,List.all_eq_true]
 constructor
 ·intro h b hb
  obtain⟨i,hi,rfl⟩:=List.mem_iff_getElem.mp hb
  have:=h i (by simpa using hi)
  simpa [List.getD,hi] using this
 ·intro h i hi
  have hi':i < bs.length:=by simpa using hi
  have:=h bs[i] (List.getElem_mem hi')
  simpa [List.getD,hi'] using this
def FJ (K:W.Frag):List V→Hp→VK→Prop:=fun xs H Q=>∃(p:Addr) (bs:List Bool),xs=[.ref p]∧dz K H p (bs.map V.bl)∧Q (.bl (bs.all id)) H
theorem Av (hc:X.calm=true):eH X (.builtin "all") (FJ X.K):=by
 intro pins s σ H xs us Q I r h
 obtain⟨p,bs,rfl,hq,q⟩:=h
 obtain⟨u,rfl,ru⟩:=vals1 r
 cases ru
 obtain⟨its,rv,pl,hz⟩:=I.list hq
 have hlen:=rv.length
 rw[List.length_map] at hlen
 have hpl:p < s.heap.objs.size:=by obtain⟨o,ho,_⟩:=pl.isList;exact Heap.lt_size ho
 refine call_all_walk (wpAny_pyIter_list pl.isList ⟨s.heap.objs.size,_,_,_,_,_,fun i=>bs.getD i true,rfl,Walks.list (A:=X.A.in1) (show X.A.in1.handled=none from I.ok.hd hc) s.heap.objs.size p (Nat.ne_of_lt hpl) its.toArray,⟨⟨_,Heap.get?_push_size _ rfl,rfl,rfl⟩,pl.isList.at fun o e=>Heap.get?_push_of_some _ e⟩,?_,?_⟩)
 ·intro i v s' Q' E' hv hq'
  have e:its[i]? = some v:=by simpa using hv
  rw[lA rv e]
  exact wpAny_truthy_bool hq'
 ·intro h' tk hk
  have f0:=I.rN (Nat.le_refl s.heap.objs.size) (I.hok.fresh (Nat.le_refl _))
  have I2:Inv X pins σ H { s with heap:=s.heap.push { cls:=.type "list_iterator",data:=.fields #[.ref p,rawInt 0] } }:=I.kept (t':=s.toks) fun b o e=>Heap.get?_push_of_some _ e
  have I3:=I2.turned (h':=h') (t':=tk) (it:=s.heap.objs.size) (fun b o hb e=>hk b o (by simpa using hb) e) f0.1 f0.2.1 f0.2.2.2.1 f0.2.2.2.2.1 f0.2.2.2.2.2
  refine⟨.bl (bs.all id),H,I3,?_,q⟩
  show Value.bool _=Value.bool _
  rw[List.size_toArray,←hlen,all_range]
theorem xU (K:W.Frag) (h:X.K=K) (hc:X.calm=true):eH X (.builtin "all") (FJ K):=by subst h;exact Av hc
def DQ:V→List V→Hp→VK→Prop:=fun x vs H Q=>∃(z:Str) (c:Nat),x=.str z∧vs=[.str (sg c)]∧Q (.int (PyProof.Rows.cnt c z.cps.toList)) H
theorem Aw:IJ X "str.count" DQ:=by
 intro pins s σ H x vs v us Q I rx rv h
 obtain⟨z,c,rfl,rfl,q⟩:=h
 obtain⟨t,rfl⟩:=rx
 obtain⟨u,rfl,ru⟩:=rv.one
 obtain⟨t',rfl⟩:=ru
 exact SC.count ⟨.int _,H,I.tok _,⟨_,rfl⟩,by
  have e:Txt.count z (sg c)=PyProof.Rows.cnt c z.cps.toList:=PyProof.Rows.count_is z c
  rw[e];exact q⟩
theorem xj:∀{l:List Nat}{c:Nat},l.Nodup→c∈l→PyProof.Rows.cnt c l=1
 | [],_,_,h=>by cases h
 | n :: r,c,nd,h=>by
  rw[PyProof.Rows.cnt_cons]
  obtain⟨n1,n2⟩:=List.nodup_cons.mp nd
  by_cases e:n=c
  ·subst e
   rw[if_pos rfl,PyProof.Rows.cnt_none _ _ n1];rfl
  ·rw[if_neg e,xj n2 ((List.mem_cons.mp h).resolve_left (Ne.symm e))];rfl
def rT:List V→List V→Bool
 | [],[]=>true
 | x :: xs,y :: ys=>BG x y && rT xs ys
 | _,_=>false
theorem rU:∀{x:V},eN x=true→BG x x=true
 | .non,_=>rfl
 | .bl b,_=>by cases b <;> rfl
 | .int i,_=>by simp[BG]
 | .str z,_=>by simp[BG]
theorem pI:∀{xs:List V},xs.all eN=true→rT xs xs=true
 | [],_=>rfl
 | x :: xs,h=>by
  rw[List.all_cons,Bool.and_eq_true] at h
  unfold rT
  rw[rU h.1,pI h.2];rfl
def C5 (xs ys:List V) (j:Nat):Bool:=match xs[j]?,ys[j]? with
 | some x,some y=>BG x y
 | _,_=>true
theorem nj:∀(xs ys:List V),((List.range (min xs.length ys.length)).all (C5 xs ys) && xs.length == ys.length)=rT xs ys
 | [],[]=>rfl
 | [],_ :: _=>by simp[rT]
 | _ :: _,[]=>by simp[rT]
 | x :: xs,y :: ys=>by
  have ih:=nj xs ys
  have e:min (x :: xs).length (y :: ys).length=min xs.length ys.length+1:=by rw[List.length_cons,List.length_cons];omega
  rw[e,List.range_succ_eq_map,List.all_cons,List.all_map]
  have e2:(C5 (x :: xs) (y :: ys) ∘ Nat.succ)=C5 xs ys:=by funext j;simp[C5]
  rw[e2]
  unfold rT
  rw[←ih]
  have e3:((x :: xs).length == (y :: ys).length)=(xs.length == ys.length):=by simp
  rw[e3]
  show(BG x y && _ && _)=_
  rw[Bool.and_assoc]
def Jf (K:W.Frag):R2:=fun x y H Q=>∃ a b xs ys,x=.ref a∧y=.ref b∧dB K H a xs∧dB K H b ys∧xs.all eN=true∧ys.all eN=true∧Q (.bl (!rT xs ys)) H
theorem items_eqAt {A:Around}{s:Shared}{xs ys:List V}{us ws:List Value} (r1:Vals xs us) (r2:Vals ys ws) (f1:xs.all eN=true) (f2:ys.all eN=true) (j:Nat) (h1:j < us.toArray.size) (h2:j < ws.toArray.size) :
  SeqAt.EqAt A s us.toArray[j] ws.toArray[j] (C5 xs ys j):=by
 have hl1:=r1.length
 have hl2:=r2.length
 have hj1:j < xs.length:=by rw[hl1];simpa using h1
 have hj2:j < ys.length:=by rw[hl2];simpa using h2
 obtain⟨u,eu,ru⟩:=r1.get (i:=j) (x:=xs[j]) (by simp[hj1])
 obtain⟨w,ew,rw'⟩:=r2.get (i:=j) (x:=ys[j]) (by simp[hj2])
 have e1:us.toArray[j]=u:=by
  have:=List.getElem?_eq_some_iff.mp eu
  obtain⟨_,q⟩:=this
  simpa using q
 have e2:ws.toArray[j]=w:=by
  have:=List.getElem?_eq_some_iff.mp ew
  obtain⟨_,q⟩:=this
  simpa using q
 rw[e1,e2]
 have e3:C5 xs ys j=BG xs[j] ys[j]:=by simp[C5,hj1,hj2]
 rw[e3]
 exact Am ru rw' (List.all_eq_true.mp f1 _ (List.getElem_mem hj1)) (List.all_eq_true.mp f2 _ (List.getElem_mem hj2))
theorem DR (K:W.Frag) (hK:X.K=K) (hu:X.A.units < cLine):g8 X (compareOp .NotEq) (Jf K):=by
 subst hK
 intro pins s σ H x y v u Q I rx ry h
 obtain⟨a,b,xs,ys,rfl,rfl,ha,hb,f1,f2,q⟩:=h
 cases rx
 cases ry
 obtain⟨its,r1,p1,_⟩:=I.tuple ha
 obtain⟨its2,r2,p2,_⟩:=I.tuple hb
 show wpAny _ _ (richCompare .NotEq (.ref a) (.ref b)) _ _ _
 refine SeqAt.RcNeAt.tuples (e:=C5 xs ys) p1 p2 hu (fun j h1 h2=>items_eqAt r1 r2 f1 f2 j h1 h2) _ _ _ _ ⟨.bl _,H,I,?_,q⟩
 show Value.bool _=Value.bool _
 rw[List.size_toArray,List.size_toArray,←r1.length,←r2.length,nj]
end
inductive jd (K:W.Frag) (H:Hp):Nat→V→V→Prop where
 | flat {n:Nat}{x y:V}:eN x=true→eN y=true→BG x y=true→jd K H n x y
 | ref {n:Nat}{a:Addr}:jd K H n (.ref a) (.ref a)
 | tup {n:Nat}{a b:Addr}{xs ys:List V}:dB K H a xs→dB K H b ys→xs.length=ys.length→(∀(j:Nat) x y,xs[j]? = some x→ys[j]? = some y→jd K H n x y)→jd K H (n+1) (.ref a) (.ref b)
 | lst {n:Nat}{a b:Addr}{xs ys:List V}:dz K H a xs→dz K H b ys→xs.length=ys.length→(∀(j:Nat) x y,xs[j]? = some x→ys[j]? = some y→jd K H n x y)→jd K H (n+1) (.ref a) (.ref b)
theorem all_true (n:Nat):(List.range n).all (fun _=>true)=true:=by rw[List.all_eq_true];intro _ _;rfl
section
variable {X:Cx}{pins:List (Addr×Obj)}{σ:St}{H:Hp}{s:Shared}
theorem gA {A:Around}{R:V→V→Prop}{xs ys:List V}{us ws:List Value} (r1:Vals xs us) (r2:Vals ys ws) (h:∀(j:Nat) x y u w,xs[j]? = some x→ys[j]? = some y→RelV x u→RelV y w→SeqAt.EqAt A s u w true) (j:Nat) (h1:j < us.toArray.size) (h2:j < ws.toArray.size) :
  SeqAt.EqAt A s us.toArray[j] ws.toArray[j] true:=by
 have hl1:=r1.length
 have hl2:=r2.length
 have hj1:j < xs.length:=by rw[hl1];simpa using h1
 have hj2:j < ys.length:=by rw[hl2];simpa using h2
 obtain⟨u,eu,ru⟩:=r1.get (i:=j) (x:=xs[j]) (by simp[hj1])
 obtain⟨w,ew,rw'⟩:=r2.get (i:=j) (x:=ys[j]) (by simp[hj2])
 have e1:us.toArray[j]=u:=by
  obtain⟨_,q⟩:=List.getElem?_eq_some_iff.mp eu
  simpa using q
 have e2:ws.toArray[j]=w:=by
  obtain⟨_,q⟩:=List.getElem?_eq_some_iff.mp ew
  simpa using q
 rw[e1,e2]
 exact h j _ _ u w (by simp[hj1]) (by simp[hj2]) ru rw'
theorem pJ (I:Inv X pins σ H s) {n:Nat}{x y:V} (h:jd X.K H n x y):∀{A:Around}{u v:Value},A.units+n < cLine→RelV x u→RelV y v→SeqAt.EqAt A s u v true:=by
 induction h with
 | flat f1 f2 e=>intro A u v _ ru rv;rw[←e];exact Am ru rv f1 f2
 | ref=>intro A u v _ ru rv;cases ru;cases rv;exact SeqAt.EqAt.same _
 | @tup n a b xs ys ha hb hl _ ih =>
  intro A u v hu ru rv
  cases ru;cases rv
  by_cases e:a=b
  ·subst e;exact SeqAt.EqAt.same _
  ·obtain⟨its,r1,p1,_⟩:=I.tuple ha
   obtain⟨its2,r2,p2,_⟩:=I.tuple hb
   refine SeqAt.EqAt.of_refs e ?_
   have q:=SeqAt.RcAt.tuples (A:=A) (e:=fun _=>true) p1 p2 (by omega) fun j h1 h2=>gA (R:=fun _ _=>True) r1 r2 (fun j x y u w ex ey ru rw'=>ih j x y ex ey (by show A.units+1+n < cLine;omega) ru rw') j h1 h2
   have e2:((List.range (min its.toArray.size its2.toArray.size)).all (fun _=>true) && its.toArray.size == its2.toArray.size)=true:=by
    rw[all_true,List.size_toArray,List.size_toArray,←r1.length,←r2.length,hl];simp
   rw[e2] at q
   exact q
 | @lst n a b xs ys ha hb hl _ ih =>
  intro A u v hu ru rv
  cases ru;cases rv
  by_cases e:a=b
  ·subst e;exact SeqAt.EqAt.same _
  ·obtain⟨its,r1,p1,_⟩:=I.list ha
   obtain⟨its2,r2,p2,_⟩:=I.list hb
   refine SeqAt.EqAt.of_refs e ?_
   have q:=SeqAt.RcAt.lists (A:=A) (e:=fun _=>true) p1.isList p2.isList (by rw[List.size_toArray,List.size_toArray,←r1.length,←r2.length,hl]) (by omega) fun j h1 h2=>gA (R:=fun _ _=>True) r1 r2 (fun j x y u w ex ey ru rw'=>ih j x y ex ey (by show A.units+1+n < cLine;omega) ru rw') j h1 h2
   rw[all_true] at q
   exact q
end
section
variable {X:Cx}
def TopD (K:W.Frag) (H:Hp) (x y:V):Prop:=∃(n:Nat) (a b:Addr) (xs ys:List V),x=.ref a∧y=.ref b∧n≤50∧xs.length=ys.length∧((dB K H a xs∧dB K H b ys)∨(dz K H a xs∧dz K H b ys))∧∀(j:Nat) x y,xs[j]? = some x→ys[j]? = some y→jd K H n x y
def FL (K:W.Frag):R2:=fun x y H Q=>TopD K H x y∧Q (.bl true) H
theorem Ax (K:W.Frag) (hK:X.K=K) (hu:X.A.units+64 < cLine):g8 X (compareOp .Eq) (FL K):=by
 subst hK
 intro pins s σ H x y v u Q I rx ry h
 obtain⟨⟨n,a,b,xs,ys,rfl,rfl,hn,hl,hk,hs⟩,q⟩:=h
 cases rx;cases ry
 rcases hk with ⟨ha,hb⟩ | ⟨ha,hb⟩
 ·obtain⟨its,r1,p1,_⟩:=I.tuple ha
  obtain⟨its2,r2,p2,_⟩:=I.tuple hb
  refine SeqAt.eq_tupleAt (e:=fun _=>true) p1 p2 (by omega) (fun j h1 h2=>gA (R:=fun _ _=>True) r1 r2 (fun j x y u w ex ey ru rw'=>pJ I (hs j x y ex ey) (by show X.A.units+1+n < cLine;omega) ru rw') j h1 h2) ⟨.bl true,H,I,?_,q⟩
  show Value.bool _=Value.bool _
  rw[all_true,List.size_toArray,List.size_toArray,←r1.length,←r2.length,hl];simp
 ·obtain⟨its,r1,p1,_⟩:=I.list ha
  obtain⟨its2,r2,p2,_⟩:=I.list hb
  refine SeqAt.eq_listAt (e:=fun _=>true) p1.isList p2.isList (by rw[List.size_toArray,List.size_toArray,←r1.length,←r2.length,hl]) (by omega) (fun j h1 h2=>gA (R:=fun _ _=>True) r1 r2 (fun j x y u w ex ey ru rw'=>pJ I (hs j x y ex ey) (by show X.A.units+1+n < cLine;omega) ru rw') j h1 h2) ⟨.bl true,H,I,?_,q⟩
  show Value.bool _=Value.bool _
  rw[all_true]
end
section
variable {X:Cx}
end
section
variable {X:Cx}{CX:xQ}{k:Nat}{f C:Addr}{fd:FuncData}{ps ks:List Str}{sp:Sp}{E:XK}{x m:Str}{p pos apos kpos:Pos}{e o:Expr}{es:List Expr}{kws:List Keyword}{te ta:TE}{t tk:TA}{nm:Option Str}
 {g:List Value→List Value→List Value}{gV:List V→List V→List V}
end
theorem Ay {K:W.Frag}{C:Addr}:W.kitOne K (.ref C) (.ref C)=some true:=by
 unfold W.kitOne
 rw[if_pos (by simp)]
section
variable {X:Cx}{pins:List (Addr×Obj)}{σ:St}{H:Hp}{s:Shared}
end
section
variable {X:Cx}
end
section
variable {X:Cx}{pins:List (Addr×Obj)}{σ:St}{H:Hp}{s:Shared}{h':Heap}
end
section
variable {X:Cx}
theorem g8.Jg {f:Value→Value→Sem Value}{r r':R2} (h:g8 X f r) (h':g8 X f r'):g8 X f (fun x y H Q=>r x y H Q∨r' x y H Q):=by
 intro pins s σ H x y v u Q I rx ry q
 rcases q with q | q
 ·exact h pins s σ H x y v u Q I rx ry q
 ·exact h' pins s σ H x y v u Q I rx ry q
end
section
variable {X:Cx}
end
section
variable {prog:Program}{w:World}{A:Around}{E:Value→Shared→Prop}{s:Shared}
end
section
variable {prog:Program}{w:World}{A:Around}{E:Value→Shared→Prop}{s:Shared}
end
section
variable {prog:Program}{w:World}{A:Around}{E:Value→Shared→Prop}{s:Shared}
end
section
variable {X:Cx}
end
section
variable {X:Cx}{pins:List (Addr×Obj)}{σ:St}{H:Hp}{s:Shared}
end
section
variable {X:Cx}
end
section
variable {prog:Program}{w:World}{A:Around}{E:Value→Shared→Prop}{s:Shared}
end
section
variable {X:Cx}{e:Expr}{te:TE}
end
section
variable {prog:Program}{w:World}{A:Around}{E:Value→Shared→Prop}{s:Shared}
end
def DS (h₀:Heap) (H:Hp) (h:Heap) (e:Addr) (vs:Array Value):Option Value→Prop
 | none=>vs[1]? = some .none∧vs[2]? = some .none
 | some v=>∃ T oT ts,vs[1]? = some (.ref T)∧H T=none∧h₀.get? T=none∧T≠e∧h.get? T=some oT∧oT.data=.fields ts∧ts[3]? = some v∧vs[2]? = some .none
theorem DS.cx {h₀:Heap}{H:Hp}{h:Heap}{e:Addr}{vs:Array Value}{fl:Option Value} (x:DS h₀ H h e vs fl):vs[2]? = some .none:=by
 cases fl with
 | none=>exact x.2
 | some v=>obtain⟨_,_,_,_,_,_,_,_,_,_,z⟩:=x;exact z
structure Exc (h₀:Heap) (H:Hp) (h:Heap) (e:Addr) (C:Value) (od:Option Addr) (fl:Option Value):Prop where
 fr:H e=none
 nw:h₀.get? e=none
 tr:∃ oe vs,h.get? e=some oe∧oe.cls=C∧oe.dict=od∧oe.data=.fields vs∧DS h₀ H h e vs fl
structure Mv (fs ch:List Addr) (h h':Heap):Prop where
 keep:∀ b o,b∉ch→b∉fs→h.get? b=some o→h'.get? b=some o
 slot:∀ b o,b∉ch→h.get? b=some o→∃ sl,h'.get? b=some { o with slots:=sl }
 there:∀ b o,h.get? b=some o→∃ o',h'.get? b=some o'
theorem Mv.trans {fs ch:List Addr}{h h1 h2:Heap} (a:Mv fs ch h h1) (b:Mv fs ch h1 h2):Mv fs ch h h2 :=
 ⟨fun c o n1 n2 q=>b.keep c o n1 n2 (a.keep c o n1 n2 q),fun c o n q=>let ⟨sl,q1⟩:=a.slot c o n q;let ⟨sl2,q2⟩:=b.slot c _ n q1;⟨sl2,q2⟩,fun c o q=>let ⟨o1,q1⟩:=a.there c o q;b.there c o1 q1⟩
theorem Mv.mono {fs fs' ch ch':List Addr}{h h':Heap} (a:Mv fs ch h h') (hf:∀ b∈fs,b∈fs') (hc:∀ b∈ch,b∈ch'):Mv fs' ch' h h' :=
 ⟨fun c o n1 n2 q=>a.keep c o (fun z=>n1 (hc c z)) (fun z=>n2 (hf c z)) q,fun c o n q=>a.slot c o (fun z=>n (hc c z)) q,a.there⟩
theorem Mv.refl {fs ch:List Addr}{h:Heap}:Mv fs ch h h:=⟨fun _ _ _ _ q=>q,fun _ o _ q=>⟨o.slots,q⟩,fun _ o q=>⟨o,q⟩⟩
theorem Mv.of_slots {fs ch:List Addr}{h h':Heap} (x:Heap.SlotsOnly fs h h'):Mv fs ch h h' :=
 ⟨fun b o _ n q=>(x.2.1 b n).trans q,fun b o _ q=>x.2.2 b o q,fun b o q=>let ⟨sl,e⟩:=x.2.2 b o q;⟨_,e⟩⟩
theorem Mv.push {fs ch:List Addr}{h:Heap} (o:Obj):Mv fs ch h (h.push o) :=
 ⟨fun b u _ _ q=>Heap.get?_push_of_some _ q,fun b u _ q=>⟨u.slots,Heap.get?_push_of_some _ q⟩,fun b u q=>⟨u,Heap.get?_push_of_some _ q⟩⟩
theorem Mv.upd {fs ch:List Addr}{h:Heap}{a:Addr}{f:Obj→Obj}{o:Obj} (ha:a∈ch) (q:h.get? a=some o) (hf:(f o).isFreed=false):Mv fs ch h (h.update a f):=by
 have ne:∀ b,b∉ch→a≠b:=fun b n z=>n (z ▸ ha)
 refine⟨fun b u n _ e=>(Heap.get?_update_other _ _ (ne b n)).trans e,fun b u n e=>⟨u.slots,(Heap.get?_update_other _ _ (ne b n)).trans e⟩,fun b u e=>?_⟩
 by_cases hb:a=b
 ·subst hb;exact⟨_,Heap.get?_update_self _ q hf⟩
 ·exact⟨u,(Heap.get?_update_other _ _ hb).trans e⟩
theorem Mv.frames {fs ch:List Addr}{h h' base:Heap} (x:Mv fs ch h h') {l:List Env} (hl:h.FunFrames base l) (hc:∀ b∈ch,∀ o,h.get? b=some o→∃ vs,o.data=.fields vs):h'.FunFrames base l :=
 hl.of_keeps fun b o q nf=>by
  have n:b∉ch:=fun z=>let ⟨vs,e⟩:=hc b z o q;nf vs e
  obtain⟨sl,e⟩:=x.slot b o n q
  exact⟨_,e,rfl⟩
section
variable {M:Model}{A:Around}{E:Value→Shared→Prop}{s:Shared}{base:Heap}{env:Env}{outer:List Env}{L e:Addr}{Q:Unit→Shared→Prop}
theorem pK {oe:Obj}{vs:Array Value}{head:Value}{hn:Bool} (hfr:A.frames=some (env :: outer)) (hl:s.heap.FunFrames base (env :: outer)) (hf:env.frame=some L)
  (he:s.heap.get? e=some oe) (hd:oe.data=.fields vs) (hsz:1 < vs.size)
  (k:∀ h' T oT ts,Mv (frs (env :: outer)) [e] s.heap h'→s.heap.objs.size≤T→T≠e→h'.get? e=some (oe.mapFields (·.setIfInBounds 1 (.ref T)))→h'.get? T=some oT→oT.data=.fields ts→ts[3]? = some (rawInt L)→Q () { s with heap:=h' }) :
  wpAny M A (do let a ←frameOf env;let pl ←entryPlaceOf L hn;let b ←EntryCells.newEntry head a .none (rawInt L) .none pl;setField (.ref e) 1 b) Q E s:=by
 have hnf:e∉(env :: outer).filterMap (·.frame):=fun z=>by
  obtain⟨_,o,ho,nf⟩:=hl.mem z
  rw[he] at ho
  cases ho
  exact nf vs hd
 refine wpAny_bind (wpAny_frameOf_fun hfr hl hf fun h1 s1=>wpAny_bind (wpAny_entryPlaceOf fun pl hpl=>?_))
 unfold EntryCells.newEntry newFields
 refine wpAny_bind (wpAny_newObj_type ?_ (hpl.sizeOk5 _ _ _ _ _))
 have e1:h1.get? e=some oe:=(s1.2.1 e hnf).trans he
 have e2:=fun o=>Heap.get?_push_of_some (h:=h1) o e1
 refine wpAny_setField (e2 _) hd hsz ?_
 have hne:h1.objs.size≠e:=Nat.ne_of_gt (Heap.lt_size e1)
 have fd:=Obj.data_mapFields hd (·.setIfInBounds 1 (Value.ref h1.objs.size))
 have m1:Mv (frs (env :: outer)) [e] s.heap h1:=Mv.of_slots s1
 refine k _ h1.objs.size _ _ ((m1.trans (Mv.push _)).trans (Mv.upd (List.mem_singleton.mpr rfl) (e2 _) (Obj.isFreed_of_fields fd))) ?_ hne (Heap.get?_update_self _ (e2 _) (Obj.isFreed_of_fields fd)) ((Heap.get?_update_other _ _ (Ne.symm hne)).trans (Heap.get?_push_size h1 rfl)) rfl ?_
 ·rw[s1.1];exact Nat.le_refl _
 ·first | (simp;done) | (rcases hpl with rfl | ⟨_,_,_,_,_,_,_,rfl⟩ <;> simp)
end
section
variable {M:Model}{A:Around}{E:Value→Shared→Prop}{s:Shared}{base h₀:Heap}{H:Hp}{env:Env}{outer:List Env}{L e:Addr}{C:Value}{od:Option Addr}{Q:Unit→Shared→Prop}
def DT (h₀:Heap) (H:Hp) (ch:List Addr):Prop:=∀ b∈ch,H b=none∧h₀.get? b=none
theorem rV (oe:Obj) (f:Array Value→Array Value):(oe.mapFields f).cls=oe.cls:=Obj.cls_mapFields _ _
theorem pL (oe:Obj) (f:Array Value→Array Value):(oe.mapFields f).dict=oe.dict:=by
 obtain⟨c,d,dt,sl⟩:=oe
 cases dt <;> rfl
theorem rW {fl:Option Value} (hfr:A.frames=some (env :: outer)) (hl:s.heap.FunFrames base (env :: outer)) (hf:env.frame=some L)
  (x:Exc h₀ H s.heap e C od fl) (hfl:fl=none∨fl=some .none∨fl=some (rawInt L))
  (ht:∀ b o,h₀.get? b=some o→∃ o',s.heap.get? b=some o') (hH:∀ b,s.heap.objs.size≤b→H b=none)
  (k:∀ h' ch,DT h₀ H ch→Mv (frs (env :: outer)) ch s.heap h'→Exc h₀ H h' e C od (some (rawInt L))→Q () { s with heap:=h' }) :
  wpAny M A (noteFrame (.ref e) env) Q E s:=by
 obtain⟨fr,nw,oe,vs,he,hc,hdi,hd,fa⟩:=x
 have FP:∀ T,s.heap.get? T=none→h₀.get? T=none:=fun T hT=>by
  cases q:h₀.get? T with
  | none=>rfl
  | some o=>obtain⟨o',z⟩:=ht T o q;rw[hT] at z;cases z
 unfold noteFrame
 simp only[hf]
 rcases hfl with rfl | rfl | rfl
 ·obtain⟨h1,DU⟩:=fa
  refine wpAny_bind (wpAny_field he hd h1 ?_)
  rw[if_neg (by decide)]
  have hsz:=(Array.getElem?_eq_some_iff.mp h1).1
  refine pK hfr hl hf he hd hsz fun h' T oT ts m zT hne e1 eT dT t3=>?_
  have nT:s.heap.get? T=none:=Heap.get?_none_of_le zT
  have hT:H T=none:=hH T zT
  refine k h' [e] (fun b hb=>?_) m ⟨fr,nw,_,_,e1,(rV _ _).trans hc,(pL _ _).trans hdi,Obj.data_mapFields hd _,T,oT,ts,by simp[hsz],hT,FP T nT,hne,eT,dT,t3,by rw[Array.getElem?_setIfInBounds_ne (by decide)];exact DU⟩
  rw[List.mem_singleton.mp hb]
  exact⟨fr,nw⟩
 ·obtain⟨T0,o0,t0,h1,n0,w0,C6,q0,d0,z3,DU⟩:=fa
  refine wpAny_bind (wpAny_field he hd h1 ?_)
  rw[if_pos (show(Value.ref T0 != Value.none)=true from by simp)]
  refine wpAny_bind (wpAny_field q0 d0 z3 ?_)
  rw[if_neg (show ¬((Value.none == rawInt L)=true) from by simp[rawInt])]
  have ML:=(Array.getElem?_eq_some_iff.mp z3).1
  refine wpAny_bind (wpAny_setField q0 d0 ML ?_)
  have hsz:=(Array.getElem?_eq_some_iff.mp h1).1
  have m0:Mv (frs (env :: outer)) [e,T0] s.heap (s.heap.update T0 (Obj.mapFields (·.setIfInBounds 3 Value.none))) :=
   Mv.upd (List.mem_cons_of_mem _ (List.mem_singleton.mpr rfl)) q0 (Obj.isFreed_of_fields (Obj.data_mapFields d0 _))
  have FQ:(s.heap.update T0 (Obj.mapFields (·.setIfInBounds 3 Value.none))).get? e=some oe:=(Heap.get?_update_other _ _ C6).trans he
  have hl1:(s.heap.update T0 (Obj.mapFields (·.setIfInBounds 3 Value.none))).FunFrames base (env :: outer):=m0.frames hl fun b hb o q=>by
   rcases List.mem_cons.mp hb with rfl | hb
   ·rw[he] at q;cases q;exact⟨vs,hd⟩
   ·rw[List.mem_singleton.mp hb,q0] at q;cases q;exact⟨t0,d0⟩
  have zs:(s.heap.update T0 (Obj.mapFields (·.setIfInBounds 3 Value.none))).objs.size=s.heap.objs.size:=Heap.size_after_update ..
  refine pK (s:={ s with heap:=s.heap.update T0 (Obj.mapFields (·.setIfInBounds 3 Value.none)) }) hfr hl1 hf FQ hd hsz fun h' T oT ts m zT hne e1 eT dT t3=>?_
  have zT:s.heap.objs.size≤T:=by rw[←zs];exact zT
  have nT:s.heap.get? T=none:=Heap.get?_none_of_le zT
  refine k h' [e,T0] (fun b hb=>?_) (m0.trans (m.mono (fun _ z=>z) fun b z=>by rw[List.mem_singleton.mp z];exact List.mem_cons_self)) ⟨fr,nw,_,_,e1,(rV _ _).trans hc,(pL _ _).trans hdi,Obj.data_mapFields hd _,T,oT,ts,by simp[hsz],hH T zT,FP T nT,hne,eT,dT,t3,by rw[Array.getElem?_setIfInBounds_ne (by decide)];exact DU⟩
  rcases List.mem_cons.mp hb with rfl | hb
  ·exact⟨fr,nw⟩
  ·rw[List.mem_singleton.mp hb];exact⟨n0,w0⟩
 ·obtain⟨T0,o0,t0,h1,n0,w0,C6,q0,d0,z3,DU⟩:=fa
  refine wpAny_bind (wpAny_field he hd h1 ?_)
  rw[if_pos (show(Value.ref T0 != Value.none)=true from by simp)]
  refine wpAny_bind (wpAny_field q0 d0 z3 ?_)
  rw[if_pos (show(rawInt L == rawInt L)=true from by simp)]
  refine wpAny_pure ?_
  exact k s.heap [] (fun b hb=>nomatch hb) Mv.refl ⟨fr,nw,oe,vs,he,hc,hdi,hd,T0,o0,t0,h1,n0,w0,C6,q0,d0,z3,DU⟩
theorem nk {v:Value} (x:Exc h₀ H s.heap e C od (some v)) (k:∀ h' ch,DT h₀ H ch→Mv [] ch s.heap h'→Exc h₀ H h' e C od (some .none)→Q () { s with heap:=h' }) :
  wpAny M A (setFlight (.ref e) none) Q E s:=by
 obtain⟨fr,nw,oe,vs,he,hc,hdi,hd,T,oT,ts,h1,n0,w0,C6,q0,d0,z3,DU⟩:=x
 have hsz:=(Array.getElem?_eq_some_iff.mp z3).1
 refine wpAny_setFlight_none he hd h1 q0 d0 hsz (k _ [T] (fun b hb=>?_) (Mv.upd (List.mem_singleton.mpr rfl) q0 (Obj.isFreed_of_fields (Obj.data_mapFields d0 _))) ⟨fr,nw,oe,vs,(Heap.get?_update_other _ _ C6).trans he,hc,hdi,hd,T,_,_,h1,n0,w0,C6,Heap.get?_update_self _ q0 (Obj.isFreed_of_fields (Obj.data_mapFields d0 _)),Obj.data_mapFields d0 _,by simp[hsz],DU⟩)
 rw[List.mem_singleton.mp hb]
 exact⟨n0,w0⟩
theorem xV {fl:Option Value} (hfr:A.frames=some (env :: outer)) (hl:s.heap.FunFrames base (env :: outer)) (hf:env.frame=some L)
  (x:Exc h₀ H s.heap e C od fl) (hfl:fl=none∨fl=some .none∨fl=some (rawInt L))
  (ht:∀ b o,h₀.get? b=some o→∃ o',s.heap.get? b=some o') (hH:∀ b,s.heap.objs.size≤b→H b=none)
  (k:∀ h' ch,DT h₀ H ch→Mv (frs (env :: outer)) ch s.heap h'→Exc h₀ H h' e C od (some .none)→Q () { s with heap:=h' }) :
  wpAny M A (leaving env (.ref e)) Q E s:=by
 unfold leaving
 refine wpAny_bind (rW hfr hl hf x hfl ht hH fun h1 c1 k1 m1 x1=>?_)
 refine nk x1 fun h2 c2 k2 m2 x2=>?_
 refine k h2 (c1++c2) (fun b hb=>(List.mem_append.mp hb).elim (k1 b) (k2 b)) ((m1.mono (fun _ z=>z) fun b z=>List.mem_append_left _ z).trans (m2.mono (fun b z=>nomatch z) fun b z=>List.mem_append_right _ z)) x2
end
section
variable {X:Cx}{pins:List (Addr×Obj)}{σ σ':St}{H H':Hp}{s s1:Shared}
theorem Inv.mv {h':Heap}{ch:List Addr} (I:Inv X pins σ H s) (J:Inv X pins σ' H' s1) (m:Mv (frs X.stack) ch s1.heap h') (hc:∀ b∈ch,H' b=none∧s.heap.get? b=none):Inv X pins σ' H' { s1 with heap:=h' }:=by
 have BD:∀ b o,s.heap.get? b=some o→b∉ch:=fun b o e z=>by rw[(hc b z).2] at e;cases e
 have n0:∀ b o,X.s₀.heap.get? b=some o→b∉X.ex→b∉ch:=fun b o e hx=>let ⟨o',e'⟩:=I.base.there b o e hx;BD b o' e'
 have HS:∀ b o,X.s₀.heap.get? b=some o→b≠X.env.locals:=fun b o e=>Nat.ne_of_lt (Nat.lt_of_lt_of_le (Heap.lt_size e) I.ok.above)
 have K5:∀ b,b≠X.env.locals→b∉X.fs→b∉frs X.stack:=fun b h1 h2 z=>(List.mem_cons.mp (I.kH b z)).elim h1 h2
 have cellK:∀ x c,X.env.cells.lookup x=some c→∀ v,s1.heap.IsCell c v→Heap.IsCell h' c v:=fun x c e v ⟨o,ho,hd⟩=>by
  obtain⟨v0,o0,e0,_⟩:=I.cell x c e
  obtain⟨sl,q⟩:=m.slot c o (BD c o0 e0) ho
  exact⟨_,q,hd⟩
 have Jh:∃ o,s.heap.get? X.env.locals=some o:=let ⟨m',⟨o,_,_,ho,_⟩,_⟩:=I.loc;⟨o,ho⟩
 obtain⟨oL,eL⟩:=Jh
 refine⟨J.ok,J.os,J.bare,⟨fun b o e n hb hx=>m.keep b o (n0 b o e hx) (K5 b (HS b o e) hb) (J.base.keep b o e n hb hx),fun b o e n hb hx=>?_,J.base.free,fun b o e hx=>?_,J.base.tups,J.base.lN,J.base.mT⟩,?_,fun x c e=>?_,J.free,J.eG,fun p hp=>?_,fun a o e=>?_,J.len⟩
 ·obtain⟨sl,e1⟩:=J.base.slot b o e n hb hx
  obtain⟨sl2,e2⟩:=m.slot b _ (n0 b o e hx) e1
  exact⟨sl2,e2⟩
 ·obtain⟨o',e1⟩:=J.base.there b o e hx
  exact m.there b o' e1
 ·obtain⟨mm,⟨o,es,ep,ho,r⟩,hl⟩:=J.loc
  obtain⟨sl,q⟩:=m.slot _ o (BD _ oL eL) ho
  refine⟨mm,⟨_,es,ep,q,r⟩,fun i x v e1 e2 e3=>?_⟩
  obtain⟨u,r1,l⟩:=hl i x v e1 e2 e3
  refine⟨u,r1,?_⟩
  rcases l with l | ⟨k,c,e,z⟩
  ·exact .inl l
  ·exact .inr ⟨k,c,e,cellK x c e _ z⟩
 ·obtain⟨v,z⟩:=J.cell x c e
  exact⟨v,cellK x c e v z⟩
 ·obtain⟨e0,_,_,_,_⟩:=I.pin p hp
  obtain⟨e,n,ne,nf,d⟩:=J.pin p hp
  exact⟨m.keep p.1 p.2 (BD _ _ e0) (K5 _ ne nf) e,n,ne,nf,d⟩
 ·refine(J.hok a o e).stay (fun b u hb q=>m.keep b u (fun z=>?_) (fun z=>?_) q) (fun _ q=>q) fun _ _ q=>q
  ·have:=(hc b z).1
   rcases hb with rfl | hb
   ·rw[this] at e;cases e
   ·rw[this] at hb;cases hb
  ·have:=J.pS b z
   rcases hb with rfl | hb
   ·rw[this] at e;cases e
   ·rw[this] at hb;cases hb
def pM (P:Program) (w:World):xQ:=fun outer H s E e s'=>∃ ea C od H',e=.ref ea∧s'.os=s.os∧AllBare s'.gens∧Un (frs outer) [] H H' s.heap s'.heap∧kD P w H' s'.heap∧Exc s.heap H' s'.heap ea C od (some .none)∧E C od H'
theorem Exc.older {h₀ h1 h:Heap}{H:Hp}{e:Addr}{C:Value}{od:Option Addr}{fl:Option Value} (x:Exc h1 H h e C od fl) (ht:∀ b,h1.get? b=none→h₀.get? b=none):Exc h₀ H h e C od fl:=by
 obtain⟨fr,nw,oe,vs,he,hc,hdi,hd,fa⟩:=x
 refine⟨fr,ht _ nw,oe,vs,he,hc,hdi,hd,?_⟩
 cases fl with
 | none=>exact fa
 | some v=>obtain⟨T,oT,ts,h1,n0,w0,r⟩:=fa;exact⟨T,oT,ts,h1,n0,ht _ w0,r⟩
theorem leaveX {E:XK}{E':Value→Shared→Prop}{ea:Addr}{C:Value}{od:Option Addr}{fl:Option Value} (hst:X.stack=X.env :: X.outer) (hfm:X.env.frame=some X.env.locals) (hex:X.ex=[])
  (I:Inv X pins σ H s) (J:Inv X pins σ' H' s1) (ht:∀ b o,s.heap.get? b=some o→∃ o',s1.heap.get? b=some o') (x:Exc s.heap H' s1.heap ea C od fl) (hfl:fl=none∨fl=some .none∨fl=some (rawInt X.env.locals)) (hE:E C od H') :
  wpAny (model X.prog X.w) X.A (leaving X.env (.ref ea)) (fun _ s''=>pM X.prog X.w X.outer X.H₀ X.s₀ E (.ref ea) s'') E' s1:=by
 have hl:=J.stack
 rw[hst] at hl
 refine xV (J.ok.frames.trans (by rw[hst])) hl hfm x hfl ht (fun b hb=>J.hok.fresh hb) fun h' ch hc m x'=>?_
 have K:=I.mv J (h':=h') (by rw[hst];exact m) hc
 have old:∀ b,s.heap.get? b=none→X.s₀.heap.get? b=none:=fun b hb=>by
  cases q:X.s₀.heap.get? b with
  | none=>rfl
  | some o=>obtain⟨o',z⟩:=I.base.there b o q (by rw[hex];simp);rw[hb] at z;cases z
 have U:=K.base
 rw[hex] at U
 exact⟨ea,C,od,H',rfl,J.os,J.bare,U,K.hok,x'.older old,hE⟩
end
section
variable {P:Program}{w:World}{K:W.Frag}{mg:Str→Option Value}{base:Heap}{N:List Str}{qual:Str}{scope:Scope}{f:Addr}{cd:Value}{A:Around}{outer:List Env}{s:Shared}{H:Hp}{E:XK}
theorem FT:Passes (pM P w) (jx (pM P w) P w K mg base N qual scope f cd A outer s H E) E:=by
 rintro pins σ H1 s1 e s' I ⟨ea,C,od,H',rfl,os,bare,un,hok,x,hE⟩
 have J:=I.wQ os un hok bare (fun b z=>nomatch z)
 exact leaveX (X:=jx (pM P w) P w K mg base N qual scope f cd A outer s H E) rfl rfl rfl I J (fun b o q=>un.there b o q (by simp)) x (.inr (.inl rfl)) hE
theorem g9.Ji {x:Str}{st:Stmt}{fd:FuncData}{ps:List Str}{k:Nat}{sp:Sp} (F:g9 K x qual st f fd) (S:aU N ps (aq st)) (len:∀ vs H Q E,sp vs H Q E→vs.length=ps.length)
  (hbody:∀(cdv:Value) (A:Around) (outer:List Env) (s:Shared) (H:Hp) (vs:List V) (Q:VK) (E:XK),cM k (A.deeper (envOfC qual (aq st) s.heap.objs.size f cdv))→sp vs H Q E →
   ∃ t,rM (jx (pM P w) P w K mg base N qual (aq st) f cdv A outer s H E) (bf st) t∧t { nx:=fun _ H'=>Q .non H',rt:=Q } (start N vs) H):bg P w K mg base (pM P w) (k+1) f fd ps sp:=by
 obtain⟨oc,od,kV,doc,pm,an,cdv,ct,osl,rfl,lk,hcd⟩:=F.ex
 exact Ai lk hcd S len fun A outer s H vs Q E hr uq=>hbody cdv A outer s H vs Q E hr uq
end
theorem bG.ex {P:Program}{w:World}{H:Hp}{h:Heap}{a:Addr}{o:HO} (x:bG P w H h a o):∃ u,h.get? a=some u:=by
 cases o with
 | lst xs=>obtain⟨_,_,_,_,e⟩:=x;exact⟨_,e⟩
 | tup xs=>obtain⟨_,_,_,ob,e,_⟩:=x;exact⟨_,e⟩
 | dK kvs=>obtain⟨_,_,_,_,o,_,_,e,_⟩:=x;exact⟨_,e⟩
 | dT kvs=>obtain⟨_,_,_,_,o,_,_,e,_⟩:=x;exact⟨_,e⟩
 | set S n=>obtain⟨o,_,_,_,e,_⟩:=x;exact⟨_,e⟩
 | ins C dx fs=>obtain⟨_,_,_,e,_⟩:=x;exact⟨_,e⟩
 | own y=>exact x
 | xd fs=>obtain⟨_,⟨_,_,_,e,_⟩,_⟩:=x;exact⟨_,e⟩
 | HN lo hi=>obtain⟨_,_,_,e⟩:=x;exact⟨_,e⟩
 | rG ob u=>obtain⟨e,_⟩:=x;exact⟨_,e⟩
 | CT ps=>exact⟨_,x⟩
 | met f y=>exact⟨_,x⟩
 | ext φ=>exact x.2.1
theorem kD.none {P:Program}{w:World}{H:Hp}{h:Heap}{a:Addr} (x:kD P w H h) (e:h.get? a=Option.none):H a=Option.none:=by
 cases q:H a with
 | none=>rfl
 | some u=>obtain⟨o,z⟩:=(x a u q).ex;rw[e] at z;cases z
abbrev d7:List Value:=[.type "ValueError",.type "Exception",.type "BaseException",.type "object"]
structure dZ (K:W.Frag) (C N:Addr) (bm:List Value) (ini:Option Value):Prop where
 ob:∃ nm q bs hdct sn sub ab col dd k0 k1 k2 k3 k5,K.lookup C=some (excClassObj nm q C N bs bm hdct sn sub ab col dd k0 k1 k2 k3 k5 "ValueError.__new__")
 ns:∃ oc od es n sl,K.lookup N=some ⟨oc,od,.dict es n,sl⟩∧(es.toList.all fun e=>match e.key with | .str _ _=>true | _=>false)=true
 ini:W.nsIn K N "__init__" = some ini
def Az (K:W.Frag) (bm:List Value):Prop:=bm=d7∨∃ D ND,bm=.ref D :: d7∧dZ K D ND d7 none
section
variable {K:W.Frag}{h:Heap}{C N:Addr}{bm:List Value}{ini:Option Value}
theorem dZ.names (x:dZ K C N bm ini):∃ m:Str→Option Value,m "__init__" = ini∧∀ h,K.In h→h.Ns N m:=by
 obtain⟨oc,od,es,n,sl,lk,al⟩:=x.ns
 have sk:StrKeys es:=fun e he=>by
  have z:=List.all_eq_true.mp al e (by simpa using he)
  revert z
  cases e.key <;> intro z <;> first | exact⟨_,_,rfl⟩ | cases z
 refine⟨nsFind es,?_,fun h kG=>⟨_,es,n,kG _ _ lk,rfl,sk,fun _=>rfl⟩⟩
 have e:=x.ini
 unfold W.nsIn at e
 rw[lk] at e
 dsimp only at e
 unfold nsFind findBy
 rw[←Array.find?_toList]
 cases q:es.toList.find? (·.key.isStr "__init__") with
 | some en =>
  rw[q] at e
  exact Option.some.inj e
 | none =>
  rw[q] at e
  dsimp only at e
  split at e
  ·cases e
  ·exact Option.some.inj e
theorem dZ.obj (x:dZ K C N bm ini) (kG:K.In h):∃ nm q bs hdct sn sub ab col dd k0 k1 k2 k3 k5,h.get? C=some (excClassObj nm q C N bs bm hdct sn sub ab col dd k0 k1 k2 k3 k5 "ValueError.__new__"):=by
 obtain⟨nm,q,bs,hdct,sn,sub,ab,col,dd,k0,k1,k2,k3,k5,e⟩:=x.ob
 exact⟨nm,q,bs,hdct,sn,sub,ab,col,dd,k0,k1,k2,k3,k5,kG _ _ e⟩
theorem Az.tail (x:Az K bm) (kG:K.In h):OwnTail h d7 bm:=by
 rcases x with rfl | ⟨D,ND,rfl,d⟩
 ·exact .base
 ·obtain⟨nm,q,bs,hdct,sn,sub,ab,col,dd,k0,k1,k2,k3,k5,e⟩:=d.obj kG
  obtain⟨m,mi,mn⟩:=d.names
  exact .own e (mn h kG) mi .base
theorem Az.base (x:Az K bm):bm.contains (.type "BaseException")=true:=by
 rcases x with rfl | ⟨D,ND,rfl,d⟩
 ·decide
 ·rw[List.contains_cons];rfl
end
section
variable {P:Program}{w:World}{K:W.Frag}{mg:Str→Option Value}{base:Heap}{N0:List Str}{qual:Str}{scope:Scope}{f:Addr}{cd:Value}{A:Around}{outer:List Env}{s0:Shared}{H0:Hp}{E:XK}
def DV (E:XK) (C:Addr) (t:TA):TS:=fun _ σ H=>t σ H fun vs H1=>vs.length≤sizeLine∧E (.ref C) none H1
theorem iw {X:Cx} (hX:X=jx (pM P w) P w K mg base N0 qual scope f cd A outer s0 H0 E) {C N:Addr}{bm:List Value}{x:Str}{np cpos pos:Pos}{e:Expr}{es:List Expr}{t:TA} (c:dZ K C N bm none) (tl:Az K bm)
  (hg:Gl X x) (hm:mg x=some (.ref C)) (ha:PA X (e :: es) t) (hdb:(x == ("__debug__" : Str))=false:=by decide) (he:starEach (e :: es) X.env=(false,eval e X.env) :: starEach es X.env:=by rfl)
  (hpl:(backTo cpos (starEach es X.env)).any (·.1)=false:=by rfl):PS X (.Raise (some (.Call (.Name x np) (e :: es) [] cpos)) none pos) (DV E C t):=by
 intro pins s σ H D I h
 obtain⟨nm,q,bs,hdct,sn,sub,ab,col,dd,k0,k1,k2,k3,k5,lk⟩:=c.ob
 obtain⟨m,mi,mn⟩:=c.names
 have hx:X.xe=fun (e:Value) (s':Shared)=>wpAny (model X.prog X.w) X.A (leaving X.env e) (fun _ s''=>pM X.prog X.w X.outer X.H₀ X.s₀ E e s'') (fun e' s''=>pM X.prog X.w X.outer X.H₀ X.s₀ E e' s'') s':=by subst hX;rfl
 have Jj:(backTo cpos (starEach (e :: es) X.env)).any (·.1)=false:=by rw[he];exact hpl
 have hst:X.stack=X.env :: X.outer:=by subst hX;rfl
 have hfm:X.env.frame=some X.env.locals:=by subst hX;rfl
 have hex:X.ex=[]:=by subst hX;rfl
 have hmg:X.mg x=some (.ref C):=by subst hX;exact hm
 have MN:X.calm=true:=by subst hX;rfl
 have hK:X.K=K:=by subst hX;rfl
 refine wpAny_Raise_call_subU (C:=C) (nm:=nm) (q:=q) (N:=N) (bs:=bs) (bm:=bm) (hdct:=hdct) (sn:=sn) (sub:=sub) (ab:=ab) (col:=col) (dd:=dd) (k0:=k0) (k1:=k1) (k2:=k2) (k3:=k3) (k5:=k5) (newId := "ValueError.__new__")
  PySem.F.excBase_ValueError (by decide) PySem.F.excBase_ValueError (mN:=m) tl.base (I.ok.hd MN) Jj mi (gn I hg hmg ⟨rfl,?_⟩ hdb)
 have z:=ha cpos pins s σ H _ I h
 rw[he] at z ⊢
 refine Calls.evalArgs_plain (cg z fun us s1 ⟨vs,H1,I1,r,hl,hE⟩=>?_)
 have kG:K.In s1.heap:=by rw[←hK];exact I1.iJ
 refine⟨rfl,by show us.length≤sizeLine;rw[←r.length];exact hl,kG _ _ lk,mn _ kG,tl.tail kG,fun h' ea md=>?_⟩
 obtain⟨ta,q1,_,_⟩:=md.there
 rw[hx]
 exact leaveX (fl:=none) hst hfm hex I1 (I1.kept (t':=s1.toks) md.keeps) (fun b o q=>⟨o,md.keeps b o q⟩) ⟨I1.hok.none md.new,md.new,_,_,q1,rfl,rfl,rfl,rfl,rfl⟩ (.inl rfl) hE
end
section
abbrev Jk:=St→Hp→VK→XK→Prop
abbrev FU:=Ends→XK→St→Hp→Prop
def XP (X:Cx) (pins:List (Addr×Obj)) (σ:St) (Ex:XK) (e:Value) (s':Shared):Prop :=
 ∃ ea C od H' s2 H2,e=.ref ea∧Inv X pins σ H2 s2∧Inv X pins σ H' s'∧(∀ b o,s2.heap.get? b=some o→∃ o',s'.heap.get? b=some o')∧Exc s2.heap H' s'.heap ea C od (some .none)∧Ex C od H'
def K6 (X:Cx) (e:Expr) (t:Jk):Prop :=
 ∀(pins:List (Addr×Obj)) (s:Shared) (σ:St) (H:Hp) (Q:VK) (Ex:XK),Inv X pins σ H s→t σ H Q Ex→wpAny (model X.prog X.w) X.A (eval e X.env) (EP X pins σ Q) (XP X pins σ Ex) s
def K7 (X:Cx) (st:Stmt) (t:FU):Prop :=
 ∀(pins:List (Addr×Obj)) (s:Shared) (σ:St) (H:Hp) (D:Ends) (Ex:XK),Inv X pins σ H s→t D Ex σ H→wpAny (model X.prog X.w) X.A (exec st X.env) (SP X pins D) (XP X pins σ Ex) s
def FW (X:Cx) (st:List Stmt) (t:FU):Prop :=
 ∀(pins:List (Addr×Obj)) (s:Shared) (σ:St) (H:Hp) (D:Ends) (Ex:XK),Inv X pins σ H s→t D Ex σ H→wpAny (model X.prog X.w) X.A (execs st X.env) (SP X pins D) (XP X pins σ Ex) s
variable {X:Cx}{k:Nat}{f C:Addr}{fd:FuncData}{ps:List Str}{sp:Sp}{kF:List V}{ds:List Value}{x m:Str}{p pos apos:Pos}{e o:Expr}{es:List Expr}{ta:TE}{t:TA}{te:Jk}
theorem Jl {α:Type}{u:Sem α}{Q Q':α→Shared→Prop}{M:Model}{A:Around}{E:Value→Shared→Prop}{s:Shared} (h:wpAny M A u Q (fun _ _=>False) s) (hQ:∀ a s,Q a s→Q' a s):wpAny M A u Q' E s:=wpAny_mono h hQ fun _ _ z=>z.elim
theorem Cr {pins:List (Addr×Obj)}{σ:St}{H:Hp}{s:Shared}{Q:VK}{Ex:XK}{us:List Value}{vs:List V} (F:bg X.prog X.w X.K X.mg X.base (pM X.prog X.w) k f fd ps sp) (hr:cM k X.A) (hb:Binds X.K fd ps ds) (hd:Vals kF ds)
  (I:Inv X pins σ H s) (r:Vals vs us) (h:sp (vs++kF) H Q Ex):wpAny (model X.prog X.w) X.A (call (.ref f) us) (EP X pins σ Q) (XP X pins σ Ex) s:=by
 have r2:Vals (vs++kF) (us++ds):=r.append hd
 have hl:(us++ds).length=ps.length:=by rw[←r2.length];exact F.len _ _ _ _ h
 refine wpAny_call (codeAny_mono (F.run X.A X.stack s H ⟨us,[]⟩ (us++ds) (vs++kF) Q Ex hr I.B7 (hb s us I.iJ hl) r2 h) fun r s' hq=>?_)
 cases r with
 | error e =>
  obtain⟨ea,C,od,H',rfl,os,bare,un,hok,y,hE⟩:=hq
  exact⟨ea,C,od,H',s,H,rfl,I,I.wQ os un hok bare (fun b z=>nomatch z),fun b o q=>un.there b o q (by simp),y,hE⟩
 | ok fl =>
  cases fl with
  | ret u=>exact I.after hq
  | next=>exact False.elim hq
  | brk=>exact False.elim hq
  | cont=>exact False.elim hq
def DW (sp:Sp) (kF:List V) (t:TA):Jk:=fun σ H Q Ex=>t σ H fun vs H1=>sp (vs++kF) H1 Q Ex
theorem AA (F:bg X.prog X.w X.K X.mg X.base (pM X.prog X.w) k f fd ps sp) (hr:cM k X.A) (hg:Gl X x) (hm:X.mg x=some (.ref f)) (hk:W.keepIn X.K (.ref f)=true) (hb:Binds X.K fd ps ds) (hd:Vals kF ds)
  (ha:PA X.E4 (e :: es) t) (hdb:(x == ("__debug__" : Str))=false:=by decide) (he:starEach (e :: es) X.env=(false,eval e X.env) :: starEach es X.env:=by rfl) (hpl:(backTo pos (starEach es X.env)).any (·.1)=false:=by rfl) :
  K6 X (.Call (.Name x p) (e :: es) [] pos) (DW sp kF t):=by
 intro pins s σ H Q Ex I h
 refine wpAny_Call_Name_kw (gn I hg hm ?_ hdb)
 refine W.callWith_K (h₀:=X.base) I.ok.mod.kG hk (Jl (ha pos pins s σ H _ (I.mY _) h) fun us s1 ⟨vs,H1,I1,r,q⟩=>⟨I1.fU.iJ,?_⟩) he hpl
 exact Cr F hr hb hd I1.fU r q
theorem AB (he:K6 X e te) (hs:swapsWith e none pos.line X.env=pure false:=by rfl):K7 X (.Expr e pos) (fun D Ex σ H=>te σ H (fun _ H1=>D.nx σ H1) Ex):=by
 intro pins s σ H D Ex I h
 exact wpAny_Expr_any (cg (he pins s σ H _ _ I h) fun v s1 ⟨x,H1,I1,r1,q1⟩=>⟨σ,H1,I1,q1⟩) I.quiet hs
theorem AD {st:Stmt}{ts:FU} (h1:K7 X st ts):FW X [st] ts:=by
 intro pins s σ H D Ex I h
 refine wpAny_execs_cons (cg (h1 pins s σ H D Ex I h) fun f s1 q=>?_)
 cases f with
 | next=>exact wpAny_execs_nil q
 | ret v=>exact q
 | brk=>exact q
 | cont=>exact q
end
def BH (e:Addr) (C:Value) (od:Option Addr):HO:=.ext fun h=>∃ o vs,h.get? e=some o∧o.cls=C∧o.dict=od∧o.data=.fields vs∧vs[2]? = some .none
theorem xW {e:Addr}{C:Value}{od:Option Addr}:∀ h1 h2:Heap,(∃ o vs,h1.get? e=some o∧o.cls=C∧o.dict=od∧o.data=.fields vs∧vs[2]? = some .none)→(∀ o,h1.get? e=some o→h2.get? e=some o)→∃ o vs,h2.get? e=some o∧o.cls=C∧o.dict=od∧o.data=.fields vs∧vs[2]? = some .none :=
 fun _ _ ⟨o,vs,q,r⟩ k=>⟨o,vs,k o q,r⟩
theorem FY {P:Program}{w:World}{H:Hp}{h:Heap}{e:Addr}{C:Value}{od:Option Addr} (x:∃ o vs,h.get? e=some o∧o.cls=C∧o.dict=od∧o.data=.fields vs∧vs[2]? = some .none):bG P w H h e (BH e C od) :=
 ⟨x,(let ⟨o,_,q,_⟩:=x;⟨o,q⟩),xW⟩
section
variable {X:Cx}{pins:List (Addr×Obj)}{σ σ':St}{H H':Hp}{s s1:Shared}
theorem Inv.FZ {a:Addr}{o:HO} (I:Inv X pins σ H s) (J:Inv X pins σ' H' s1) (hex:X.ex=[]) (hn:H' a=none) (hw:s.heap.get? a=none) (new:bG X.prog X.w (upd H' a o) s1.heap a o):Inv X pins σ' (upd H' a o) s1:=by
 have ne:∀ b u,s.heap.get? b=some u→b≠a:=fun b u e z=>by rw[z,hw] at e;cases e
 have C6:∀ b u,X.s₀.heap.get? b=some u→b≠a:=fun b u e=>let ⟨o',e'⟩:=I.base.there b u e (by rw[hex];simp);ne b o' e'
 refine⟨J.ok,J.os,J.bare,⟨J.base.keep,J.base.slot,fun b u e n hx=>?_,J.base.there,fun b xs e=>?_,fun b u v e=>?_,fun b ps e=>?_⟩,J.loc,J.cell,?_,fun x c e=>?_,fun p hp=>?_,fun b u e=>?_,J.len⟩
 ·rw[aH (C6 b u e)];exact J.base.free b u e n hx
 ·have z:=J.base.tups b xs e
  rw[aH (aO z hn)];exact z
 ·have z:=J.base.lN b u v e
  rw[aH (aO z hn)];exact z
 ·obtain⟨more,z⟩:=J.base.mT b ps e
  exact⟨more,by rw[aH (aO z hn)];exact z⟩
 ·obtain⟨m,⟨oL,_,_,eL,_⟩,_⟩:=I.loc
  rw[aH (ne _ _ eL)];exact J.free
 ·obtain⟨v,oc,ec,_⟩:=I.cell x c e
  rw[aH (ne _ _ ec)];exact J.eG x c e
 ·obtain⟨e0,_⟩:=I.pin p hp
  obtain⟨e1,n1,r⟩:=J.pin p hp
  exact⟨e1,by rw[aH (ne _ _ e0)];exact n1,r⟩
 ·by_cases hb:b=a
  ·subst hb;rw[ai] at e;cases e;exact new
  ·rw[aH hb] at e
   exact(J.hok b u e).stay (fun c v _ q=>q) (fun c q=>by rw[aH (aO q hn)];exact q) fun c xs q=>by rw[aH (aO q hn)];exact q
theorem Inv.gone {i:Nat}{n:Str}{h':Heap}{v:Option Value}{tk:Nat}{m:Str→Option Value} (I:Inv X pins σ H s) (hN:X.N.Nodup) (hi:X.N[i]? = some n)
  (hm:s.heap.Ns X.env.locals m) (hn:h'.Ns X.env.locals (fun x=>if x=n then v else m x)) (hs:Heap.SameBut X.env.locals s.heap h'):Inv X pins (σ.set i none) H { s with heap:=h',toks:=tk }:=by
 obtain⟨m0,hn0,hl⟩:=I.loc
 have em:m0=m:=by
  obtain⟨o1,es1,Qd,q1,d1,_,f1⟩:=hn0
  obtain⟨o2,Qe,Qf,q2,d2,_,f2⟩:=hm
  rw[q1] at q2
  cases q2
  rw[d1] at d2
  cases d2
  funext x
  rw[←f1,←f2]
 subst em
 have hil:i < σ.length:=by rw[I.len];exact(List.getElem?_eq_some_iff.mp hi).1
 have ab:∀ b o,X.s₀.heap.get? b=some o→b≠X.env.locals:=fun b o e=>Nat.ne_of_lt (Nat.lt_of_lt_of_le (Heap.lt_size e) I.ok.above)
 have hk:kD X.prog X.w H h':=fun b ob e=>by
  refine(I.hok b ob e).stay (fun c w' hc q=>(hs.2 c ?_).trans q) (fun _ q=>q) fun _ _ q=>q
  rintro rfl
  rcases hc with rfl | hc
  ·rw[I.free] at e;cases e
  ·rw[I.free] at hc;cases hc
 refine⟨I.ok,I.os,I.bare,⟨fun b o e n hb hx=>(hs.2 b (ab b o e)).trans (I.base.keep b o e n hb hx),fun b o e n hb hx=>?_,I.base.free,fun b o e hx=>?_,I.base.tups,I.base.lN,I.base.mT⟩,⟨_,hn,fun j y u e1 e2 e3=>?_⟩,fun y c e=>?_,I.free,I.eG,fun p hp=>?_,hk,by simpa using I.len⟩
 ·obtain⟨sl,e1⟩:=I.base.slot b o e n hb hx
  exact⟨sl,(hs.2 b (ab b o e)).trans e1⟩
 ·obtain⟨o',e1⟩:=I.base.there b o e hx
  exact⟨o',(hs.2 b (ab b o e)).trans e1⟩
 ·by_cases hj:j=i
  ·subst hj
   rw[List.getElem?_set_self hil] at e2
   cases e2
  ·rw[List.getElem?_set_ne (Ne.symm hj)] at e2
   obtain⟨u',r',q⟩:=hl j y u e1 e2 e3
   refine⟨u',r',?_⟩
   have hne:y≠n:=fun z=>hj (mU hN e1 (z ▸ hi))
   rcases q with ⟨k,e⟩ | ⟨k,c,e,z⟩
   ·exact .inl ⟨k,by simp[hne,e]⟩
   ·exact .inr ⟨k,c,e,z.sameBut hs (I.BQ y c e)⟩
 ·obtain⟨w',z⟩:=I.cell y c e
  exact⟨w',z.sameBut hs (I.BQ y c e)⟩
 ·obtain⟨e,n,ne,nf,d⟩:=I.pin p hp
  exact⟨(hs.2 p.1 ne).trans e,n,ne,nf,d⟩
end
section
variable {M:Model}{A:Around}{E:Value→Shared→Prop}{K:W.Frag}{s:Shared}{C D N N' ea:Addr}{bm bm':List Value}{ini DX:Option Value}{Q:Bool→Shared→Prop}
theorem rX {oe:Obj} (kG:K.In s.heap) (c:dZ K C N bm ini) (d:dZ K D N' bm' DX) (td:Az K bm') (he:s.heap.get? ea=some oe) (hc:oe.cls=.ref C) (h:Q ((Value.ref C :: bm).contains (.ref D)) s) :
  wpAny M A (excMatches (.ref ea) (.ref D)) Q E s:=by
 obtain⟨nm,q,bs,hdct,sn,sub,ab,col,dd,k0,k1,k2,k3,k5,lc⟩:=c.obj kG
 obtain⟨Qg,q',bs',K8,sn',sub',Qh,col',Jm,Qi,K4,Qj,Qk,Ql,ld⟩:=d.obj kG
 have hB:(Value.ref D :: bm').contains (.type "BaseException")=true:=by rw[List.contains_cons,td.base];rfl
 have f:=tc_notTuple
 obtain⟨hp,g,dr,tk,os⟩:=s
 unfold excMatches
 repeat (first | (with_reducible refine wpAny_loadPart_at he ?_;rw[hc]) | with_reducible refine wpAny_loadPart_at ld ?_ | (with_reducible refine wpAny_isSubtype_exc ld ?_;rw[hB]) | with_reducible refine wpAny_isSubtype_exc lc ?_ | wp_step)
 cases hb:(Value.ref C :: bm).contains (.ref D) <;> (rw[hb] at h;wp_walk;exact h)
end
abbrev Cx.han (X:Cx) (ea:Addr):Cx:={ X with A:=X.A.mark (some (.ref ea)),calm:=false,xe:=fun _ _=>False }
section
variable {X:Cx}{pins:List (Addr×Obj)}{σ:St}{H:Hp}{s:Shared}{ea:Addr}
theorem Cx.Ok.han (ok:X.Ok) (ea:Addr):(X.han ea).Ok :=
 ⟨ok.mod,ok.kind,ok.glob,ok.blt,ok.above,ok.inj,ok.has,ok.Dk,(fun z=>nomatch (show false=true from z)),ok.frames,ok.stk,ok.HR,ok.bs,ok.zL,ok.tY,ok.xH,ok.ju,ok.BC⟩
theorem Inv.han (I:Inv X pins σ H s) (ea:Addr):Inv (X.han ea) pins σ H s:=⟨I.ok.han ea,I.os,I.bare,I.base,I.loc,I.cell,I.free,I.eG,I.pin,I.hok,I.len⟩
theorem Inv.Ga (ok:X.Ok) (I:Inv (X.han ea) pins σ H s):Inv X pins σ H s:=⟨ok,I.os,I.bare,I.base,I.loc,I.cell,I.free,I.eG,I.pin,I.hok,I.len⟩
abbrev TH:=Addr→Value→Option Addr→TS
def HZ (X:Cx) (hs:List ExceptHandler) (t:TH):Prop :=
 ∀(pins:List (Addr×Obj)) (s:Shared) (σ:St) (H:Hp) (D:Ends) (ea:Addr) (C:Value) (od:Option Addr) (s2:Shared) (H2:Hp),Inv X pins σ H2 s2→Inv X pins σ H s→(∀ b o,s2.heap.get? b=some o→∃ o',s.heap.get? b=some o') →
  Exc s2.heap H s.heap ea C od (some .none)→t ea C od D σ H→wpAny (model X.prog X.w) X.A (handleBy (.ref ea) X.env hs) (SP X pins D) X.xe s
theorem DY:HZ X [] (fun _ _ _ _ _ _=>False):=fun _ _ _ _ _ _ _ _ _ _ _ _ _ _ h=>h.elim
def Gb (K:W.Frag) (Dc:Addr) (i:Nat) (tb:Addr→TS) (tr:TH):TH:=fun ea C od D σ H=>∃ Cc N bm ini,C=.ref Cc∧dZ K Cc N bm ini ∧
 if (Value.ref Cc :: bm).contains (.ref Dc)=true then tb ea { nx:=fun σ' H'=>D.nx (σ'.set i none) H',rt:=D.rt,bk:=fun σ' H'=>D.bk (σ'.set i none) H',ct:=fun σ' H'=>D.ct (σ'.set i none) H' } (σ.set i (some (.ref ea))) (upd H ea (BH ea C od)) else tr ea C od D σ H
theorem Ge {i:Nat}{x n:Str}{np hpos:Pos}{b₀:Stmt}{suite:List Stmt}{rest:List ExceptHandler}{Dc ND:Addr}{K9:List Value}{Jo:Option Value}{tb:Addr→TS}{tr:TH} (hex:X.ex=[]) (hg:Gl X x) (hm:X.mg x=some (.ref Dc))
  (d:dZ X.K Dc ND K9 Jo) (td:Az X.K K9) (hN:X.N.Nodup) (hi:X.N[i]? = some n) (hl:X.env.scope.names.lookup n=some .local) (hb:∀ ea,rM (X.han ea) (b₀ :: suite) (tb ea)) (hr:HZ X rest tr)
  (hdb:(x == ("__debug__" : Str))=false:=by decide):HZ X (.ExceptHandler (some (.Name x np)) (some n) (b₀ :: suite) hpos :: rest) (Gb X.K Dc i tb tr):=by
 rintro pins s σ H D ea C od s2 H2 I2 J ht y ⟨Cc,N,bm,ini,rfl,c,q⟩
 obtain⟨fr,nw,oe,vs,he,hc,hdi,hd,fa⟩:=id y
 refine wpAny_handleBy_cons (codeAny_handlers_test (gn (X:=X.han ea) (J.han ea) hg hm ?_ hdb)) (by intro z;cases z)
 refine rX J.iJ c d td he hc ?_
 cases hb2:(Value.ref Cc :: bm).contains (.ref Dc) with
 | false =>
  rw[hb2,if_neg Bool.false_ne_true] at q
  exact hr pins s σ H D ea _ od s2 H2 I2 J ht y q
 | true =>
  rw[hb2,if_pos rfl] at q
  refine codeAny_handlers_suite_as ?_
  refine nk y fun h1 ch hch mv y1=>?_
  have J1:=I2.mv J (mv.mono (fun b z=>nomatch z) fun b z=>z) hch
  obtain⟨MO,MP,MQ,MR,FQ,hc1,Jp,hd1,MS⟩:=id y1
  have J2:=I2.FZ J1 (o:=BH ea (.ref Cc) od) hex MO MP (FY ⟨MQ,MR,FQ,hc1,Jp,hd1,MS.cx⟩)
  refine mV J2 hN hi (.inl hl) (show RelV (.ref ea) (.ref ea) from rfl) (fun s3 J3=>?_) (.inr hl)
  refine wpAny_mono (hb ea pins s3 _ _ _ (J3.han ea) q) (fun f s4 r=>?_) fun _ _ z=>z.elim
  have hp:(X.env.scope.kind == .class || (X.env.scope.kind == .module && X.env.locals != X.env.globals))=false:=by rw[J.ok.kind];rfl
  have go:∀{σ':St}{H':Hp}{Q:Unit→Shared→Prop},Inv (X.han ea) pins σ' H' s4→(∀ s5,Inv X pins (σ'.set i none) H' s5→Q () s5)→wpAny (model X.prog X.w) X.A (do bindName X.env n .none;unbindBehindTheSuite X.env n hpos) Q X.xe s4:=fun {σ' H' Q} I4 k=>by
   have I5:=I4.Ga J.ok
   obtain⟨m,hn,_⟩:=id I5.loc
   exact wpAny_nameGoes_keeps hl hn hp fun h' v hn' hs=>k _ (I5.gone hN hi hn hn' hs)
  cases f with
  | next=>obtain⟨σ',H',I4,q4⟩:=r;exact go I4 fun s5 I5=>⟨_,H',I5,q4⟩
  | brk=>obtain⟨σ',H',I4,q4⟩:=r;exact go I4 fun s5 I5=>⟨_,H',I5,q4⟩
  | cont=>obtain⟨σ',H',I4,q4⟩:=r;exact go I4 fun s5 I5=>⟨_,H',I5,q4⟩
  | ret u=>obtain⟨v,σ',H',I4,rv,q4⟩:=r;exact go I4 fun s5 I5=>⟨v,_,H',I5,rv,q4⟩
def Gf (tb:FU) (th:TH) (to:TS):TS:=fun D σ H=>tb { D with nx:=fun σ1 H1=>to D σ1 H1 } (fun C od H'=>∀ ea,H' ea=none→th ea C od D σ H') σ H
theorem Cs {body orelse:List Stmt}{h₀:ExceptHandler}{hs:List ExceptHandler}{pos:Pos}{tb:FU}{th:TH}{to:TS} (hst:X.stack=X.env :: X.outer) (hfm:X.env.frame=some X.env.locals) (hb:FW X body tb) (hh:HZ X (h₀ :: hs) th) (ho:rM X orelse to) :
  PS X (.Try body (h₀ :: hs) orelse [] pos) (Gf tb th to):=by
 intro pins s σ H D I h
 refine wpAny_Try_except (wpAny_mono (hb pins s σ H _ _ I h) (fun f s1 q=>?_) fun e s1 q=>?_)
 ·cases f with
  | next=>obtain⟨σ1,H1,I1,q1⟩:=q;exact ho pins s1 σ1 H1 D I1 q1
  | ret u=>exact q
  | brk=>exact q
  | cont=>exact q
 ·obtain⟨ea,C,od,H',s2,H2,rfl,I2,J,ht,y,hE⟩:=q
  have hl:=J.stack
  rw[hst] at hl
  refine rW (J.ok.frames.trans (by rw[hst])) hl hfm y (.inr (.inl rfl)) ht (fun b hb=>J.hok.fresh hb) fun h1 ch hc m y1=>?_
  have J1:=I2.mv J (h':=h1) (by rw[hst];exact m) hc
  have ht1:∀ b o,s2.heap.get? b=some o→∃ o',h1.get? b=some o':=fun b o q=>let ⟨o',q'⟩:=ht b o q;m.there b o' q'
  refine nk y1 fun h2 Qm hc2 m2 y2=>?_
  have J2:=I2.mv J1 (h':=h2) (m2.mono (fun b z=>nomatch z) fun b z=>z) hc2
  exact hh pins _ σ H' D ea C od s2 H2 I2 J2 (fun b o q=>let ⟨o',q'⟩:=ht1 b o q;m2.there b o' q') y2 (hE ea y2.fr)
end
end L2
set_option maxHeartbeats 1000000
namespace L2
open PySem PySem.Spec PyProof.Rows PySem.Builtin PySem.Builtin.ObjectAttr
structure DZ (K:W.Frag) (C:Addr) (f:Str):Prop where
 no:W.findIn K (.ref C) f=some none
 sa:W.findIn K (.ref C) "__setattr__" = some (some (.builtin "object.__setattr__"))
 ga:W.findIn K (.ref C) "__getattribute__" = some (some (.builtin "BaseException.__getattribute__"))
 gx:W.findIn K (.ref C) "__getattr__" = some none
 hd:W.hasDictIn K C=true
section
variable {P:Program}{w:World}{A:Around}{E:Value→Shared→Prop}{s:Shared}{K:W.Frag}{C N x:Addr}{bm:List Value}{ini:Option Value}{f:Str}{v:Value}{ox:Obj}{vs:Array Value}
theorem dZ.cls (c:dZ K C N bm ini) (h:W.hasDictIn K C=true):∃ cd,W.clsIn K C=some cd∧cd.mro=.ref C :: bm∧cd.hasDict=true:=by
 obtain⟨nm,q,bs,hdct,sn,sub,ab,col,dd,k0,k1,k2,k3,k5,lk⟩:=c.ob
 obtain⟨cd,hc,hd⟩:=W.any_some h
 refine⟨cd,hc,?_,hd⟩
 unfold W.clsIn at hc
 rw[lk] at hc
 cases hc
 rfl
end
section
variable {P:Program}{w:World}{A:Around}{E:Value→Shared→Prop}{K:W.Frag}{C N fI:Addr}{bm:List Value}{us:List Value}
end
def MT (e:Addr) (C:Value) (od:Option Addr):HO:=.ext fun h=>∃ o vs,h.get? e=some o∧o.cls=C∧o.dict=od∧o.data=.fields vs∧vs[1]? = some .none∧vs[2]? = some .none
def MU (d:Addr) (fs:List (Str×V)):HO:=.ext fun h=>∃ mA,h.Ns1 d mA∧(∀ g,mS (fs.lookup g) (mA g))∧PySem.Within mA (fs.map (·.1))
section
variable {X:Cx}{pins:List (Addr×Obj)}{σ:St}{H:Hp}{s:Shared}{a:Addr}{φ:Heap→Prop}
end
section
variable {X:Cx}{e:Expr}{te:TE}{pos:Pos}
end
section
variable {X:Cx}{C N D fI:Addr}{bm:List Value}{ini:Option Value}{x f:Str}{np ap pos cpos pos':Pos}{e o value a1 a2:Expr}{es:List Expr}{t:TA}{ta tv te:TE}
structure MV (K:W.Frag) (D:Addr):Prop where
 sp:W.specialIn K (.ref D) "__getattribute__" = some (some (.builtin "type.__getattribute__"))
 rd:W.readsIn K D (.type "type")=true
 fc:W.findCls K (.ref D) (.type "type") "__init__" = some (.val (.builtin "ValueError.__init__"))
end
section
variable {P:Program}{w:World}{K:W.Frag}{mg:Str→Option Value}{base:Heap}{N0:List Str}{qual:Str}{scope:Scope}{f:Addr}{cd:Value}{A:Around}{outer:List Env}{s0:Shared}{H0:Hp}{E:XK}
end
open PySem PySem.Spec PyProof.Rows
structure fK (k:Nat) (A:Around):Prop where
 dp:A.depth+3 * k+5 < recursionLimit
 un:A.units+16 * k+200 < cLine
theorem cM.m {k:Nat}{A:Around} (r:cM k A):fK k A:=⟨r.dp,r.un⟩
theorem fK.mark {k:Nat}{A:Around} (r:fK k A) (h:Option Value):fK k (A.mark h):=⟨r.dp,r.un⟩
theorem fK.deeper {k:Nat}{A:Around} (r:fK (k+1) A) (env:Env):fK k (A.deeper env) :=
 ⟨by have:=r.dp;show A.depth+1+3 * k+5 < _;omega,by have:=r.un;show A.units+3+16 * k+200 < _;omega⟩
theorem fK.cy {k:Nat}{A:Around} (r:fK k A):A.units < cLine:=by have:=r.un;omega
theorem fK.hu {k:Nat}{A:Around} (r:fK k A):A.units+1 < cLine:=by have:=r.un;omega
structure xm (P:Program) (w:World) (K:W.Frag) (mg:Str→Option Value) (base:Heap) (k:Nat) (f:Addr) (fd:FuncData) (ps:List Str) (sp:Sp):Prop where
 len:∀ vs H Q E,sp vs H Q E→vs.length=ps.length
 run:∀(A:Around) (outer:List Env) (s:Shared) (H:Hp) (args:Args) (us:List Value) (vs:List V) (Q:VK) (E:XK),fK k A→pW P w K mg base A outer s H→BindsTo s fd args (ps.zip us)→Vals vs us→sp vs H Q E →
  codeAny (model P w) A (.call (.ref f) args) (CR gS outer P w H s Q E) s
abbrev Cx.D0 (X:Cx):Cx:={ X with calm:=false,xe:=fun _ _=>False }
section
variable {P:Program}{w:World}{K:W.Frag}{mg:Str→Option Value}{base:Heap}
theorem g9.MW {x qual:Str}{st:Stmt}{f:Addr}{fd:FuncData}{N ps:List Str}{k:Nat}{sp:Sp} (F:g9 K x qual st f fd) (S:aU N ps (aq st)) (len:∀ vs H Q E,sp vs H Q E→vs.length=ps.length)
  (hbody:∀(cdv:Value) (A:Around) (outer:List Env) (s:Shared) (H:Hp) (vs:List V) (Q:VK) (E:XK),fK k (A.deeper (envOfC qual (aq st) s.heap.objs.size f cdv))→sp vs H Q E →
   ∃ t,rM (jx gS P w K mg base N qual (aq st) f cdv A outer s H E).D0 (bf st) t∧t { nx:=fun _ H'=>Q .non H',rt:=Q } (start N vs) H):xm P w K mg base (k+1) f fd ps sp:=by
 obtain⟨oc,od,kV,doc,pm,an,cdv,ct,osl,rfl,lk,hcd⟩:=F.ex
 refine⟨len,fun A outer s H args us vs Q E hr e0 hb r uq=>?_⟩
 have hl:=len _ _ _ _ uq
 have KX:K.In s.heap:=e0.mod.kG.keeps fun b o e=>(e0.bs b o e).1
 have lim:s.heap.NoLimit:=e0.mod.nolimit.keeps fun b o e=>(e0.bs b o e).1
 have hkind:∀ y∈ps.zip us,(aq st).names.lookup y.1=some .local∨((aq st).names.lookup y.1=some .cell∧((cellsFrom (s.heap.objs.size+1) (aq st).names []).lookup y.1).isSome=true):=fun ⟨n,v⟩ hy=>by
  rcases S.par n (List.of_mem_zip hy).1 with q | q
  ·exact .inl q
  ·exact .inr ⟨q,W.cellsFrom_some _ _ _ (.inl q)⟩
 refine codeAny_call_function (show A.depth < recursionLimit by have:=hr.dp;omega) (KX _ _ lk) rfl S.co S.gen rfl (W.codeRec_of KX hcd) (hb _ _ _ _ ?_)
 refine wpAny_newFunctionEnv_cells S.kind hkind fun env he s1 x=>?_
 subst he
 refine⟨lim.keeps x.toInCall.keep,codeAny_func ?_⟩
 obtain⟨t,ht,hq⟩:=hbody cdv A outer s H vs Q E (hr.deeper _) uq
 have e1:pW P w K mg base ({ A with handled:=none }:Around) outer s H:=⟨e0.frames,e0.mod,e0.bs,e0.zL,e0.ju,e0.BC,e0.hok,e0.bare⟩
 have I1:Inv (jx gS P w K mg base N qual (aq st) f cdv ({ A with handled:=none }:Around) outer s H E) [] (start N vs) H s1:=pG S rfl e1 hl r x
 have I:Inv (jx gS P w K mg base N qual (aq st) f cdv A outer s H E).D0 [] (start N vs) H s1 :=
  ⟨⟨I1.ok.mod,I1.ok.kind,I1.ok.glob,I1.ok.blt,I1.ok.above,I1.ok.inj,I1.ok.has,I1.ok.Dk,(fun z=>nomatch (show false=true from z)),Around.frames_deeper e0.frames,I1.ok.stk,I1.ok.HR,I1.ok.bs,I1.ok.zL,I1.ok.tY,I1.ok.xH,I1.ok.ju,I1.ok.BC⟩,
   I1.os,I1.bare,I1.base,I1.loc,I1.cell,I1.free,I1.eG,I1.pin,I1.hok,I1.len⟩
 refine wpAny_mono (ht [] s1 (start N vs) H _ I hq) (fun fl s' hs=>?_) fun e s' hs=>hs.elim
 have fin:∀{σ':St}{H':Hp}{v:V}{u:Value},Inv (jx gS P w K mg base N qual (aq st) f cdv A outer s H E).D0 [] σ' H' s'→RelV v u→Q v H'→CE outer P w H s Q u s' :=
  fun {σ' H' v u} J rv q=>⟨v,H',J.os,J.bare,J.base,J.hok,rv,q⟩
 cases fl with
 | ret u =>
  obtain⟨v,σ',H',J,rv,q⟩:=hs
  exact fin J rv q
 | next =>
  obtain⟨σ',H',J,q⟩:=hs
  exact fin (v:=V.non) (u:=Value.none) J rfl q
 | brk =>
  obtain⟨_,_,_,q⟩:=hs
  exact False.elim q
 | cont =>
  obtain⟨_,_,_,q⟩:=hs
  exact False.elim q
theorem Cp.Ji {x qual:Str}{st:Stmt}{f:Addr}{fd:FuncData}{dV:Value}{N ps:List Str}{k:Nat}{sp:Sp} (F:Cp K x qual st f fd dV) (S:aU N ps (aq st)) (len:∀ vs H Q E,sp vs H Q E→vs.length=ps.length)
  (hbody:∀(cdv:Value) (A:Around) (outer:List Env) (s:Shared) (H:Hp) (vs:List V) (Q:VK) (E:XK),cM k (A.deeper (envOfC qual (aq st) s.heap.objs.size f cdv))→sp vs H Q E →
   ∃ t,rM (jx (pM P w) P w K mg base N qual (aq st) f cdv A outer s H E) (bf st) t∧t { nx:=fun _ H'=>Q .non H',rt:=Q } (start N vs) H):bg P w K mg base (pM P w) (k+1) f fd ps sp:=by
 obtain⟨oc,od,kV,doc,pm,an,cdv,ct,osl,rfl,lk,hcd⟩:=F.ex
 exact Ai lk hcd S len fun A outer s H vs Q E hr uq=>hbody cdv A outer s H vs Q E hr uq
end
section
variable {X:Cx}{k:Nat}{f:Addr}{fd:FuncData}{ps:List Str}{sp:Sp}{x:Str}{p pos:Pos}{e:Expr}{es:List Expr}{t:TA}
theorem AE (F:xm X.prog X.w X.K X.mg X.base k f fd ps sp) (hr:fK k X.A) (hg:Gl X x) (hm:X.mg x=some (.ref f)) (hk:W.keepIn X.K (.ref f)=true) (hb:Binds X.K fd ps [])
  (ha:PA X (e :: es) t) (hdb:(x == ("__debug__" : Str))=false:=by decide) (he:starEach (e :: es) X.env=(false,eval e X.env) :: starEach es X.env:=by rfl) (hpl:(backTo pos (starEach es X.env)).any (·.1)=false:=by rfl) :
  PE X (.Call (.Name x p) (e :: es) [] pos) (wZ sp [] E0 t):=by
 intro pins s σ H Q I h
 refine wpAny_Call_Name_kw (gn I hg hm ?_ hdb)
 refine W.callWith_K (h₀:=X.base) I.ok.mod.kG hk (cg (ha pos pins s σ H _ I h) fun us s1 ⟨vs,H1,I1,r,q⟩=>⟨I1.iJ,?_⟩) he hpl
 have q:sp (vs++[]) H1 Q E0:=q
 rw[List.append_nil] at q
 have hl:us.length=ps.length:=by rw[←r.length];exact F.len _ _ _ _ q
 have hb':=hb s1 us I1.iJ (by rw[List.append_nil];exact hl)
 rw[List.append_nil] at hb'
 refine wpAny_call (codeAny_mono (F.run X.A X.stack s1 H1 ⟨us,[]⟩ us vs Q E0 hr I1.B7 hb' r q) fun rr s' hq=>?_)
 cases rr with
 | error e=>exact hq.elim
 | ok fl =>
  cases fl with
  | ret u=>exact I1.after hq
  | next=>exact False.elim hq
  | brk=>exact False.elim hq
  | cont=>exact False.elim hq
end
structure Gg (K:W.Frag) (C:Addr):Prop where
 ga:W.findIn K (.ref C) "__getattribute__" = some (some (.builtin "BaseException.__getattribute__"))
 gx:W.findIn K (.ref C) "__getattr__" = some none
 hd:W.hasDictIn K C=true
 ha:W.findIn K (.ref C) "__class__" = some (some (.builtin "object.__class__"))
 hn:W.specialIn K (.builtin "object.__class__") "__get__" = some (some (.builtin "getset_descriptor.__get__"))
 tk:W.takesIn K (.builtin "object.__class__")=some true
 hm:W.mroIn K C (.type "object")=some true
section
variable {P:Program}{w:World}{A:Around}{E:Value→Shared→Prop}{s:Shared}{K:W.Frag}{C N x:Addr}{bm:List Value}{ini:Option Value}{f:Str}{v:Value}{ox:Obj}{vs:Array Value}
theorem xX {a g:Value}{odo:Option Obj} (hc:(W.clsIn K C).isSome=true) (ha:W.findIn K (.ref C) f=some (some a)) (hg:W.specialIn K a "__get__" = some (some g)) (ht:W.takesIn K a=some true):W.findObj K C odo f=some (.bind g a):=by
 obtain⟨cd,hc⟩:=Option.isSome_iff_exists.mp hc
 unfold W.findObj
 rw[hc,Option.bind_some,ha,Option.bind_some]
 simp[hg,ht]
theorem AF {tk:Tok}{Q:Fin→Shared→Prop}{tp g a:Value} (L0:W.Looks (model P w) s.heap (typeOf (.ref x)) tp) (L1:W.Looks (model P w) s.heap (find (.ref x) tp f) (.bind g a))
  (h:wpAny (model P w) A (call g [a,.ref x,tp]) (fun v s'=>Q (.done (.ret v)) s') E s) :
  wpAny (model P w) A (Builtin.«object.__getattribute__» ⟨[.ref x,.str f tk],[]⟩) Q E s:=by
 unfold Builtin.«object.__getattribute__»
 refine wpAny_bind (m:=slotArgs _ _ _) ?_
 refine wpAny_pure (a:=(Value.ref x,[Value.str f tk])) ?_
 refine wpAny_bind (m:=attrName _) ?_
 refine wpAny_pure (a:=f) ?_
 refine wpAny_bind (L0.here ?_)
 refine wpAny_bind (L1.here ?_)
 first
  | exact wpAny_bind (wpAny_holding (wpAny_mono h (fun v s' z=>wpAny_pure z) fun _ _ z=>z))
  | exact wpAny_bind (wpAny_mono h (fun v s' z=>wpAny_pure z) fun _ _ z=>z)
theorem xY {od:Option Obj}{Q:Option Value→Shared→Prop} (kG:K.In s.heap) (c:dZ K C N bm ini) (tl:Az K bm) (k:Gg K C) (J:W.InstAt s.heap x ox C od)
  (h:Q (some (.ref C)) { s with toks:=s.toks+1 }):wpAny (model P w) A (getAttr? (.ref x) "__class__") Q E s:=by
 obtain⟨cd,hcd,hm,Gh⟩:=c.cls k.hd
 have FO:W.findObj K C od "__class__" = some (.bind (.builtin "getset_descriptor.__get__") (.builtin "object.__class__")):=xX (by rw[hcd];rfl) k.ha k.hn k.tk
 have hob:(cd.mro.contains (.type "BaseException"))=true:=by rw[hm,List.contains_cons,tl.base];rfl
 have ne:cd.mro.isEmpty=false:=by rw[hm];rfl
 have sub:W.Looks (model P w) s.heap (isInstance (.ref x) (.type "BaseException")) true :=
  J.type.andThen (W.looks_mroIn kG (by unfold W.mroIn;rw[hcd,Option.bind_some,if_neg (by rw[ne];decide),hob]))
 have hk:W.Looks (model P w) s.heap (hookBefore (.ref C)) none:=W.looks_hook kG (by show(if onTheHeap (.ref C) then _ else _)=_;exact k.gx)
 have L1:=W.looks_find (M:=model P w) kG J FO
 unfold getAttr? getAttrBy? getAttrBy
 refine wpAny_bind (wpAny_mkText (wpAny_bind (wpAny_attempt (wpAny_holding (wpAny_bind (J.type _ _ _ _ (fun _ _ e=>e) (wpAny_bind (W.looks_findIn kG k.ga _ _ _ _ (fun _ _ e=>e) ?_))))))))
 dsimp only
 rw[show(onTheHeap (Value.ref C) && Value.builtin "BaseException.__getattribute__" == Value.builtin "object.__getattribute__")=false from by rw[show(Value.builtin "BaseException.__getattribute__" == Value.builtin "object.__getattribute__")=false from by decide +kernel];exact Bool.and_false _,if_neg (by decide)]
 refine wpAny_bind (hk _ _ _ _ (fun _ _ e=>e) (wpAny_bind (wpAny_attempt (wpAny_holding ?_))))
 unfold callGetattribute
 rw[show(false && onTheHeap (Value.builtin "BaseException.__getattribute__"))=false from Bool.false_and _,if_neg (by decide)]
 unfold boundAndCalled
 rw[PySem.F.attr_ValueError.ga.bind]
 refine wpAny_bind (wpAny_pure ?_)
 show wpAny _ _ (call (.builtin "BaseException.__getattribute__") [.ref x,.str "__class__" s.toks]) _ _ _
 refine wpAny_call (codeAny_call_builtin PySem.F.attr_ValueError.ga.plain PySem.F.entry_bexc_ga (W.check_slot (M:=model P w) (s:={ s with toks:=s.toks+1 }) (i := "BaseException.__getattribute__") (owner := "BaseException") (n := "__getattribute__") (self:=.ref x) (rest:=[.str "__class__" s.toks]) (kw:=[]) (by decide +kernel) (by decide +kernel) sub (PySem.F.args_bexc_ga (.ref x) (.str "__class__" s.toks)) ?_))
 refine AF (s:={ s with toks:=s.toks+1 }) J.type L1 (wpAny_call (W.class_get (s:={ s with toks:=s.toks+1 }) (ox:=ox) (od:=od) kG J k.hm ?_))
 show wpAny _ _ (handedOut (.ref C)) _ _ _
 rw[W.handedOut_of rfl]
 exact wpAny_pure (wpAny_pure h)
theorem rY {x:Addr}{ox:Obj}{od:Option Obj} (c:dZ K C N bm ini) (tl:Az K bm) (k:Gg K C):W.KitX K (.ref x) (.ref C) (fun h=>W.InstAt h x ox C od) where
 ty:=fun _ _ _ I=>I.type
 it:=fun _ _ X _=>by
  obtain⟨nm,q,bs,hdct,sn,sub,ab,col,dd,k0,k1,k2,k3,k5,lc⟩:=c.ob
  intro A' Q' E' s' k q
  unfold isType loadHead
  exact wpAny_bind (wpAny_loadPart (k _ _ (X _ _ lc)) (wpAny_pure q))
 ne:=fun h tp dd its n sl X htp=>by
  obtain⟨nm,q,bs,hdct,sn,sub,ab,col,dd,k0,k1,k2,k3,k5,lc⟩:=c.ob
  refine Bool.eq_false_iff.mpr fun q=>?_
  have e:C=tp:=Value.ref.inj (beq_iff_eq.mp q)
  subst e
  have z:=congrArg Obj.cls (Option.some.inj ((X _ _ lc).symm.trans htp))
  have z:Value.type "type" = Value.type "tuple" := z
  injection z with z
  exact absurd z (by decide)
 ca:=fun X I q=>xY X c tl k I q
end
section
variable {X:Cx}{K:W.Frag}
def C7 (H:Hp) (ea C:Addr):Prop:=∃ od,(H ea=some (MT ea (.ref C) od)∨H ea=some (BH ea (.ref C) od))∧(od=none∨∃ d fs,od=some d∧H d=some (MU d fs))
theorem C7.at {pins:List (Addr×Obj)}{σ:St}{H:Hp}{s:Shared}{ea C:Addr} (I:Inv X pins σ H s) (h:C7 H ea C):∃ o od,W.InstAt s.heap ea o C od:=by
 obtain⟨od,e,d⟩:=h
 obtain⟨o,vs,q1,q2,q3,q4⟩:∃ o vs,s.heap.get? ea=some o∧o.cls=.ref C∧o.dict=od∧o.data=.fields vs:=by
  rcases e with e | e
  ·obtain⟨⟨o,vs,q1,q2,q3,q4,_⟩,_⟩:=I.hok ea _ e
   exact⟨o,vs,q1,q2,q3,q4⟩
  ·obtain⟨⟨o,vs,q1,q2,q3,q4,_⟩,_⟩:=I.hok ea _ e
   exact⟨o,vs,q1,q2,q3,q4⟩
 have no:∀{P:Prop},P→P:=id
 rcases d with rfl | ⟨d,fs,rfl,e2⟩
 ·exact⟨o,none,q1,q2,by obtain⟨oc,MX,MY,osl⟩:=o;cases q4;rfl,by rw[q3];exact True.intro⟩
 ·obtain⟨⟨mA,⟨od,es,n,ho,_⟩,_⟩,_⟩:=I.hok d _ e2
  exact⟨o,some od,q1,q2,by obtain⟨oc,MX,MY,osl⟩:=o;cases q4;rfl,by rw[q3];exact ho⟩
theorem C7.mono {H H':Hp}{ea C:Addr} (s:aT H H') (h:C7 H ea C):C7 H' ea C:=by
 obtain⟨od,e,d⟩:=h
 refine⟨od,e.imp (s _ _) (s _ _),d.imp id fun ⟨d,fs,e1,e2⟩=>⟨d,fs,e1,s _ _ e2⟩⟩
def Jq (K:W.Frag):List V→Hp→VK→Prop:=fun xs H Q=>∃ ea C N bm ini c b,xs=[.ref ea,c]∧C7 H ea C∧dZ K C N bm ini∧Az K bm∧Gg K C∧((∃ n,c=.ty n∧W.kitOne K (.ref C) (.type n)=some b)∨(∃ a,c=.ref a∧W.kitOne K (.ref C) (.ref a)=some b))∧Q (.bl b) H
theorem bS (h:X.K=K):eH X (.builtin "isinstance") (Jq K):=by
 subst h
 intro pins s σ H xs us Q I r h
 obtain⟨ea,C,N,bm,ini,c,b,rfl,xo,xc,tl,k,hc,q⟩:=h
 obtain⟨u,w',rfl,ru,rw'⟩:=vals2 r
 obtain⟨o,od,J⟩:=xo.at I
 cases(show u=Value.ref ea from ru)
 rcases hc with ⟨n,rfl,e⟩ | ⟨a,rfl,e⟩
 ·cases rw'
  exact W.kia_one (rY xc tl k) I.iJ J e (fun z=>nomatch z) fun tk=>⟨.bl b,H,I.tok tk,rfl,q⟩
 ·cases rw'
  exact W.kia_one (rY xc tl k) I.iJ J e (fun z=>nomatch z) fun tk=>⟨.bl b,H,I.tok tk,rfl,q⟩
end
section
variable {X:Cx}{C N fI:Addr}{bm:List Value}{x:Str}{np cpos:Pos}{e:Expr}{es:List Expr}{t:TA}
end
section
variable {K:W.Frag}{C D N N':Addr}{bm bm':List Value}{ini DX:Option Value}{b:Bool}
theorem dZ.kind (c:dZ K C N bm ini):(W.clsIn K C).isSome=true∧W.typeIn K (.ref C)=some (.type "type"):=by
 obtain⟨nm,q,bs,hdct,sn,sub,ab,col,dd,k0,k1,k2,k3,k5,lc⟩:=c.ob
 constructor
 ·unfold W.clsIn;rw[lc];rfl
 ·show(K.lookup C).map (·.cls)=_;rw[lc];rfl
theorem dZ.self (c:dZ K C N bm ini):W.mroIn K C (.ref C)=some true:=by
 obtain⟨nm,q,bs,hdct,sn,sub,ab,col,dd,k0,k1,k2,k3,k5,lc⟩:=c.ob
 unfold W.mroIn W.clsIn
 rw[lc]
 show(if (Value.ref C :: bm).isEmpty=true then none else some ((Value.ref C :: bm).contains (.ref C)))=some true
 simp
theorem gT (c:dZ K C N bm ini) (d:dZ K D N' bm' DX) (m:W.mroIn K C (.ref D)=some b):W.kitOne K (.ref C) (.ref D)=some b:=by
 unfold W.kitOne
 by_cases e:C=D
 ·subst e
  rw[c.self] at m
  rw[if_pos (by simp)];exact m
 ·rw[if_neg (by simp;exact e)]
  unfold W.kitCls
  dsimp only
  rw[d.kind.1,d.kind.2,if_pos (by decide)]
  exact m
theorem Gi (m:W.mroIn K C (.type "ValueError")=some b):W.kitOne K (.ref C) (.type "ValueError")=some b:=by
 unfold W.kitOne
 rw[if_neg (by simp)]
 unfold W.kitCls
 dsimp only
 rw[if_pos (by decide +kernel)]
 exact m
end
open PySem PySem.Spec PyProof.Rows PySem.Builtin
theorem n6:entryFor table "proto.unchain" = some Builtin.«proto.unchain» := entryFor_of_fast (by kernel_rfl)
section
variable {prog:Program}{w:World}{A:Around}{E:Value→Shared→Prop}{s:Shared}{α:Type}
theorem rZ {e ea:Addr}{o oe:Obj}{vs ws:Array Value}{Q:α→Shared→Prop} (hh:A.handled=some (.ref ea)) (he:s.heap.get? ea=some o) (hd:o.data=.fields vs) (h2:vs[2]? = some .none) (hne:ea≠e)
  (hx:s.heap.get? e=some oe) (hxd:oe.data=.fields ws) (hz:2 < ws.size) (h:E (.ref e) { s with heap:=s.heap.update e (Obj.mapFields (·.setIfInBounds 2 (.ref ea))) }):wpAny (model prog w) A (raiseNew (.ref e):Sem α) Q E s:=by
 unfold raiseNew
 refine wpAny_bind (wpAny_handled ?_)
 rw[hh]
 dsimp only
 rw[if_pos (show(Value.ref ea != Value.ref e)=true from by simp[hne])]
 refine wpAny_bind (wpAny_holding (wpAny_runValue (codeAny_builtin n6 ?_)))
 show wpAny _ _ (field (.ref ea) 2 >>= _) _ _ s
 refine wpAny_bind (wpAny_field he hd h2 ?_)
 rw[if_pos (by decide)]
 refine wpAny_pure ?_
 show wpAny _ _ (setField (.ref e) 2 (.ref ea) >>= fun _=>throw (.ref e)) _ _ s
 exact wpAny_bind (wpAny_setField hx hxd hz (wpAny_throw h))
theorem qd {it ea:Addr}{o:Obj}{vs:Array Value}{x left step:Int}{Q:Option Value→Shared→Prop} (hh:A.handled=some (.ref ea)) (he:s.heap.get? ea=some o) (hd:o.data=.fields vs) (h2:vs[2]? = some .none)
  (hit:IsRangeIter s.heap it x left step) (hleft:left≤0)
  (hQ:∀ h',Heap.ExtBut it s.heap h'→Q none { s with heap:=h' }):wpAny (model prog w) A (pyNext (.ref it)) Q E s:=by
 have hT:s.TypeIs (.ref it) "range_iterator" := ⟨_,hit,rfl⟩
 unfold pyNext
 refine wpAny_bind (wpAny_attempt (wpAny_callSpecial?_slot (name:=Str.ofString "__next__") hT F.slot_range_iterator_next
  (wpAny_call_entry F.slot_range_iterator_next hT F.entry_range_iterator_next ?_ (F.args_range_iterator_next_1 _))))
 show wpAny _ _ (field (.ref it) 0 >>= _) _ _ s
 refine wpAny_bind (wpAny_field hit rfl (x:=rawInt x) rfl ?_)
 show wpAny _ _ (field (.ref it) 1 >>= _) _ _ s
 refine wpAny_bind (wpAny_field hit rfl (x:=rawInt left) rfl ?_)
 show wpAny _ _ (field (.ref it) 2 >>= _) _ _ s
 refine wpAny_bind (wpAny_field hit rfl (x:=rawInt step) rfl ?_)
 show wpAny _ _ (if left≤0 then _ else _) _ _ s
 rw[if_pos hleft]
 refine wpAny_bind (wpAny_rule ?_)
 refine wpAny_bind ?_
 show wpAny _ _ (newExc (.type "StopIteration") [] >>= _) _ _ _
 refine wpAny_bind ?_
 simp only[newExc,newTuple]
 refine wpAny_bind (wpAny_newObj_type ?_ (by size_fits))
 refine wpAny_bind (m:=firstArgMember _ _) (wpAny_of_eq (a:=Value.none) (by first | rfl | (simp only[firstArgMember];rfl)) ?_)
 refine wpAny_newObj_type ?_ (by size_fits)
 have up:∀(a b:Obj),((s.heap.push a).push b).get? ea=some o:=fun a b=>Heap.get?_push_of_some _ (Heap.get?_push_of_some _ he)
 have ne:∀(a:Obj),ea≠(s.heap.push a).objs.size:=fun a z=>by have l:=Heap.lt_size he;rw[Heap.size_push] at z;exact absurd z (Nat.ne_of_lt (Nat.lt_succ_of_lt l))
 refine rZ (A:=A.in1) hh (up _ _) hd h2 (ne _) (Heap.get?_push_size _ rfl) rfl (by rw[Array.size_append];show 2 < 6+_;omega) ?_
 refine wpAny_bind (wpAny_isInstance (T := "StopIteration") (b:=true) ⟨_,Heap.get?_update_self _ (Heap.get?_push_size _ rfl) rfl,rfl⟩ isSubtype_stop ?_)
 rw[if_pos rfl]
 refine wpAny_pure (hQ _ fun b q hb e=>?_)
 refine(Heap.get?_update_other _ _ (fun z=>?_)).trans (Heap.get?_push_of_some _ (Heap.get?_push_of_some _ e))
 have l:=Heap.lt_size e
 rw[←z] at l
 have l2:(s.heap.push _).objs.size < s.heap.objs.size:=l
 rw[Heap.size_push] at l2
 omega
end
end L2
set_option maxHeartbeats 4000000
namespace L2
open PySem PySem.Spec PyProof.Rows
structure AG (G:Cx→Prop) (P:Program) (w:World) (K:W.Frag) (tg:Expr) (J:It) (fp:List Addr) (it:Addr) (tn:Nat→Heap→Prop):Prop where
 mem:it∈fp
 obj:∀ i h,tn i h→∀ b∈fp,∃ o,h.get? b=some o∧∀ v,o.data≠.cell v
 keep:∀ i h h',tn i h→(∀ b∈fp,∀ o,h.get? b=some o→h'.get? b=some o)→tn i h'
 item:∀(X:Cx),X.prog=P→X.w=w→X.K=K→G X→∀(i:Nat) (pins:List (Addr×Obj)) (s:Shared) (σ:St) (H:Hp) (E:Value→Shared→Prop),Inv X pins σ H s→(∀ b∈fp,g5 X pins H b)→tn i s.heap→J.go i H →
  wpAny (model P w) X.A (pyNext (.ref it)) (fun r s1=>∃ u,r=some u ∧
   wpAny (model P w) X.A (letOwnedTupleGo tg (.ref it) u) (fun _ s2=>∃ x H',Inv X pins σ H' s2∧RelV x u∧J.Dr i H x H'∧tn (i+1) s2.heap∧∀ b∈fp,H' b=none) E s1) E s
 done:∀(X:Cx),X.prog=P→X.w=w→X.K=K→G X→∀(i:Nat) (pins:List (Addr×Obj)) (s:Shared) (σ:St) (H:Hp) (E:Value→Shared→Prop),Inv X pins σ H s→(∀ b∈fp,g5 X pins H b)→tn i s.heap→J.stop i H →
  wpAny (model P w) X.A (pyNext (.ref it)) (fun r s1=>r=none∧Inv X pins σ H s1) E s
 self:∀(A:Around) (i:Nat) (s:Shared) (Q:Value→Shared→Prop) (E:Value→Shared→Prop),tn i s.heap→Q (.ref it) s→wpAny (model P w) A (pyIter (.ref it)) Q E s
def Gj (G:Cx→Prop) (X:Cx) (pins:List (Addr×Obj)) (σ:St) (tg:Expr) (R:It→Hp→Prop) (itv:Value) (s2:Shared):Prop :=
 ∃(it:Addr) (fp:List Addr) (tn:Nat→Heap→Prop) (J:It) (H':Hp),itv=.ref it∧Inv X pins σ H' s2∧AG G X.prog X.w X.K tg J fp it tn∧tn 0 s2.heap∧(∀ b∈fp,g5 X pins H' b)∧R J H'
def La (G:Cx→Prop) (X:Cx) (tg iter:Expr) (wi:TI):Prop :=
 ∀(pins:List (Addr×Obj)) (s:Shared) (σ:St) (H:Hp) (R:It→Hp→Prop),Inv X pins σ H s→wi σ H R →
  wpAny (model X.prog X.w) X.A (eval iter X.env) (fun v s1=>wpAny (model X.prog X.w) X.A (pyIter v) (Gj G X pins σ tg R) X.xe s1) X.xe s
def Ct (ea:Addr) (lo:Int) (n:Nat):It:=⟨fun i _=>i < n,fun i H x H'=>H'=H∧x=.int (lo+i),fun i H=>n≤i∧∃ C od,H ea=some (BH ea C od)⟩
def Hd (ea:Addr) (X:Cx):Prop:=X.A.handled=some (.ref ea)
theorem r8 {P:Program}{w:World}{K:W.Frag}{tg:Expr} (ea it:Addr) (lo:Int) (n:Nat):AG (Hd ea) P w K tg (Ct ea lo n) [it] it (fun i h=>IsRangeIter h it (lo+(i:Nat) * 1) ((n:Int) - (i:Nat)) 1) where
 mem:=by simp
 obj:=fun i h st b hb=>by
  have e:b=it:=by simpa using hb
  subst e
  exact⟨_,st,fun v z=>by
   have z':Data.fields _=Data.cell v:=z
   cases z'⟩
 keep:=fun i h h' st k=>k it (by simp) _ st
 item:=by
  intro X hP hw hK hc i pins s σ H E I hf st hg
  subst hP hw hK
  obtain⟨f0,f1,f2,f3,f4,f5⟩:=hf it (by simp)
  have hg:i < n:=hg
  refine wpAny_pyNext_range_item st (by omega) fun h' st' sb=>?_
  have I1:Inv X pins σ H { s with heap:=h',toks:=s.toks+1 }:=I.turned (fun b o hb e=>(sb.2 b hb).trans e) f0 f1 f3 f4 f5
  have st2:IsRangeIter h' it (lo+((i+1:Nat):Int) * 1) ((n:Int) - ((i+1:Nat):Int)) 1:=by
   have e1:lo+((i+1:Nat):Int) * 1=lo+(i:Nat) * 1+1:=by omega
   have e2:(n:Int) - ((i+1:Nat):Int)=(n:Int) - (i:Nat) - 1:=by omega
   rw[e1,e2];exact st'
  refine⟨_,rfl,pe (s:={ s with heap:=h',toks:=s.toks+1 }) (n := "range_iterator") st' rfl rfl (by decide) ⟨.int (lo+i),H,I1,⟨s.toks,?_⟩,⟨rfl,rfl⟩,st2,fun b hb=>(hf b hb).1⟩⟩
  rw[Int.mul_one]
 done:=by
  intro X hP hw hK hc i pins s σ H E I hf st hg
  subst hP hw hK
  obtain⟨f0,f1,f2,f3,f4,f5⟩:=hf it (by simp)
  obtain⟨hn,C,od,Jr⟩:=hg
  obtain⟨⟨o,vs,q1,q2,q3,q4,q5⟩,_⟩:=I.hok ea _ Jr
  exact qd hc q1 q4 q5 st (by omega) fun h' eb=>⟨rfl,I.turned (t':=s.toks) (fun b o hb e=>eb b o hb e) f0 f1 f3 f4 f5⟩
 self:=fun _ _ _ _ _ st h=>wpAny_pyIter_rangeiter st h
section
variable {X:Cx}{tg:Expr}{ea:Addr}
theorem xZ {pins:List (Addr×Obj)}{σ:St}{H:Hp}{s:Shared}{R:It→Hp→Prop}{E:Value→Shared→Prop}{lo hi:Int}{t u v:Tok}{tk:Nat} (I:Inv X pins σ H s) (h1 : -(2 ^ 62)≤lo) (h2:lo < 2 ^ 62) (h3 : -(2 ^ 62)≤hi) (h4:hi < 2 ^ 62)
  (q:R (Ct ea lo (hi - lo).toNat) H):wpAny (model X.prog X.w) X.A (pyIter (.ref s.heap.objs.size)) (Gj (Hd ea) X pins σ tg R) E { s with heap:=s.heap.push { cls:=.type "range",data:=.fields #[.int lo t,.int hi u,.int 1 v] },toks:=tk }:=by
 refine wpAny_pyIter_range (IsRange.new ..) (small_one h1 h2 h3 h4) ?_
 have I1:Inv X pins σ H { s with heap:=s.heap.push { cls:=.type "range",data:=.fields #[.int lo t,.int hi u,.int 1 v] },toks:=tk }:=I.kept fun b o e=>Heap.get?_push_of_some _ e
 refine⟨(s.heap.push { cls:=.type "range",data:=.fields #[.int lo t,.int hi u,.int 1 v] }).objs.size,[(s.heap.push { cls:=.type "range",data:=.fields #[.int lo t,.int hi u,.int 1 v] }).objs.size],_,_,H,rfl,
  I1.kept (t':=tk) fun b o e=>Heap.get?_push_of_some _ e,r8 ea _ lo (hi - lo).toNat,?_,fun b hb=>?_,q⟩
 ·have e1:lo+((0:Nat):Int) * 1=lo:=by simp
  have e2:(((hi - lo).toNat:Nat):Int) - ((0:Nat):Int)=Builtin.Range.rangeSize lo hi 1:=by rw[rangeSize_one];split <;> omega
  show IsRangeIter _ _ (lo+((0:Nat):Int) * 1) ((((hi - lo).toNat:Nat):Int) - ((0:Nat):Int)) 1
  rw[e1,e2]
  exact Heap.get?_push_size _ rfl
 ·have e:b=(s.heap.push { cls:=.type "range",data:=.fields #[.int lo t,.int hi u,.int 1 v] }).objs.size:=by simpa using hb
  subst e
  exact I1.rN (Nat.le_refl _) (I1.hok.fresh (Nat.le_refl _))
def Gk (ea:Addr) (ta:TA):TI:=fun σ H R=>ta σ H fun vs H1=>∃ j:Int,vs=[.int j]∧-(2 ^ 62)≤j∧j < 2 ^ 62∧R (Ct ea 0 j.toNat) H1
theorem x8 {a:Expr}{ta:TA}{p pos:Pos} (hg:Gl X "range") (hm:X.mg "range" = none) (ha:PA X [a] ta) (hs:starEach [a] X.env=[(false,eval a X.env)]:=by rfl):La (Hd ea) X tg (.Call (.Name "range" p) [a] [] pos) (Gk ea ta):=by
 intro pins s σ H R I h
 refine Call_ (mW I hg hm boot_range (PyProof.Rows.callWith_type1 (cg (ha pos pins s σ H _ I h) fun us s1 ⟨vs,H1,I1,r1,q1⟩=>?_) hs rfl))
 obtain⟨j,e,q1,q2,q⟩:=q1
 subst e
 cases r1 with
 | cons r rr =>
  cases rr
  obtain⟨t,rfl⟩:=r
  exact call_range_1 (xZ I1 (by omega) (by omega) q1 q2 (by simpa using q))
end
section
variable {X:Cx}{elt tg iter:Expr}{ifs:List Expr}{scope:Scope}{pos:Pos}{N:List Str}{nv:Nat}{js:List Nat}{wi:TI}{g:TG}{tt:TT}{te:TE}
theorem sd {G:Cx→Prop}{pins:List (Addr×Obj)}{σ:St}{H:Hp}{s:Shared}{Q:VK}{it:Addr}{fp:List Addr}{tn:Nat→Heap→Prop}{J:It}{E:Value→Shared→Prop}{RR:Value→Addr→Result→Shared→Prop} (hc:∀ C s H fp,G (cA X N scope C s H fp))
  (S:cI X.N X.env.scope N nv js scope) (hg:∀ C s H fp,PG (cA X N scope C s H fp) tg g) (ht:∀ C s H fp,uw (cA X N scope C s H fp) ifs tt) (he:∀ C s H fp,PE (cA X N scope C s H fp) elt te)
  (I:Inv X pins σ H s) (T:AG G X.prog X.w X.K tg J fp it tn) (st:tn 0 s.heap) (hf:∀ b∈fp,g5 X pins H b) (hR:∀ D,H D=none→nc J g tt te Q D (jy nv js σ) H)
  (hRR:∀ D C H' s' m,Inv X pins σ H' s'→g5 X pins H' C→s'.heap.Ns C m→Q (.ref D) H'→RR (.ref D) C (.ok .next) s') :
  wpAny (model X.prog X.w) X.A (newList []) (fun acc s₃=>wpAny (model X.prog X.w) X.A (newFunctionEnv scope X.env.globals (cz X.env scope.names []) [] X.env.qual none .none (some X.env)) (fun cenv s₄ =>
   codeAny (model X.prog X.w) X.A (.compStart (.ListComp elt [⟨tg,iter,ifs,0⟩] scope pos) 0 (.ref it) acc { cenv with scope:=relabel scope X.env }) (RR acc cenv.locals) s₄) E s₃) E s:=by
 refine wpAny_newObj_type (wpAny_newFunctionEnv S.cell (by intro y hy;simp at hy) (fun h₁ nh ni=>?_) S.kind)
 have I3:Inv X pins σ (upd H s.heap.objs.size (.lst [])) { s with heap:=s.heap.push { cls:=.type "list",data:=.seq ([]:List Value).toArray } }:=I.DI (t':=s.toks) (its:=[]) .nil (Nat.zero_le _)
 have hD:=I.fresh
 obtain⟨W,⟨m0,w0⟩,turn⟩:=hR s.heap.objs.size hD
 have ho:=T.obj 0 s.heap st
 have Ao:∀ b∈fp,b < s.heap.objs.size:=fun b hb=>let ⟨o,e,_⟩:=ho b hb;Heap.lt_size e
 have uy:∀ b∈fp,g5 X pins (upd H s.heap.objs.size (.lst [])) b:=fun b hb=>⟨by rw[aH (Nat.ne_of_lt (Ao b hb))];exact(hf b hb).1,(hf b hb).2⟩
 generalize FE:({ s with heap:=s.heap.push { cls:=.type "list",data:=.seq ([]:List Value).toArray } }:Shared)=s3 at I3 nh ni
 have e3:s3.heap=s.heap.push { cls:=.type "list",data:=.seq ([]:List Value).toArray }:=by rw[←FE]
 have hfl:∀ b∈fp,b < s3.heap.objs.size:=fun b hb=>by rw[e3,Heap.size_push];exact Nat.lt_succ_of_lt (Ao b hb)
 have keep:∀ b o,s3.heap.get? b=some o→h₁.get? b=some o:=fun b o e=>ni.extBut b o (Nat.ne_of_lt (Heap.lt_size e)) (Heap.get?_push_of_some _ e)
 have J0:=m9 (tk:=s3.toks+([]:List (Str×Value)).length) I3 S uy hfl keep nh
 have st1:tn 0 h₁:=T.keep 0 s.heap h₁ st fun b hb o e=>keep b o (by rw[e3];exact Heap.get?_push_of_some _ e)
 generalize MI:upd H s.heap.objs.size (.lst [])=H3 at *
 generalize hY:cA X N scope s3.heap.objs.size s3 H3 fp=Y at *
 have sub:∀ x c,(cz X.env scope.names []).lookup x=some c→X.env.cells.lookup x=some c :=
  gw scope.names [] (fun n hn=>I.ok.has n (S.free _ hn rfl)) (fun x c z=>by cases z)
 have m6:∀{H':Hp},(∀ b∈fp,H' b=none)→∀ b∈fp,g5 Y [] H' b:=fun {H'} hn b hb=>by
  subst hY
  obtain⟨f0,f1,f2,f3,f4,f5⟩:=uy b hb
  refine⟨hn b hb,Nat.ne_of_lt (hfl b hb),fun z=>?_,.inl hb,fun x c e=>f4 x c (sub x c e),fun p hp=>absurd (show p∈([]:List (Addr×Obj)) from hp) (by simp)⟩
  rcases List.mem_cons.mp (I3.kH b z) with q | q
  ·exact f1 q
  ·exact f2 q
 have eA:Y.A=X.A:=by subst hY;rfl
 have eP:Y.prog=X.prog:=by subst hY;rfl
 have eW:Y.w=X.w:=by subst hY;rfl
 have eK:Y.K=X.K:=by subst hY;rfl
 have eC:G Y:=by subst hY;exact hc _ _ _ _
 have eE:Y.env=compEnvC scope (cz X.env scope.names []) s3.heap.objs.size X.env:=by subst hY;rfl
 have Cm:Y.xe=fun _ _=>False:=by subst hY;rfl
 have IV:PG Y tg g:=by subst hY;exact hg _ _ _ _
 have IW:uw Y ifs tt:=by subst hY;exact ht _ _ _ _
 have IX:PE Y elt te:=by subst hY;exact he _ _ _ _
 have loop:codeAny (model X.prog X.w) X.A (.compLoop (.ListComp elt [⟨tg,iter,ifs,0⟩] scope pos) 0 (.ref it) (.ref s.heap.objs.size) (compEnvC scope (cz X.env scope.names []) s3.heap.objs.size X.env))
   (RR (.ref s.heap.objs.size) s3.heap.objs.size) { s3 with heap:=h₁,toks:=s3.toks+([]:List (Str×Value)).length }:=by
  refine ng (fun n s'=>∃ i ys τ H',Inv Y [] τ H' s'∧tn i s'.heap∧(∀ b∈fp,H' b=none)∧W i n ys τ H') ?_ m0 ⟨0,[],_,H3,J0,st1,fun b hb=>(uy b hb).1,w0⟩
  rintro n s4 ⟨i,ys,τ,H4,I4,FF,FG,w4⟩
  obtain⟨MJ,tr⟩:=turn i n ys τ H4 w4
  rcases tr with ⟨stop,qn⟩ | ⟨go,Nn,FH,step⟩
  ·have d:=T.done Y eP eW eK eC i [] s4 τ H4 (fun _ _=>False) I4 (m6 FG) FF stop
   rw[eA] at d
   refine cg d fun r s5 ⟨hr,I5⟩=>?_
   subst hr
   have u:Inv X pins σ H4 s5:=by
    subst hY
    exact I3.wQ (ch:=fp) I5.os I5.base I5.hok I5.bare fun b hb=>⟨(uy b hb).2.2.2.1,(uy b hb).2.1,(uy b hb).2.2.2.2.1,(uy b hb).2.2.2.2.2⟩
   have hC:H4 s3.heap.objs.size=none:=by have z:=I5.free;rw[eE] at z;exact z
   obtain⟨m,hn,_⟩:=I5.loc
   rw[eE] at hn
   exact hRR _ _ H4 s5 m u (I3.rN (Nat.le_refl _) hC) hn qn
  ·have d:=T.item Y eP eW eK eC i [] s4 τ H4 (fun _ _=>False) I4 (m6 FG) FF go
   rw[eA] at d
   refine cg d fun r s5 ⟨u,hr,h5⟩=>?_
   subst hr
   refine cg h5 fun _ s6 ⟨x,H6,I6,r6,y6,DN,IY⟩=>?_
   have IZ:=I6.pinned (m6 IY) (T.obj _ _ DN)
   have q6:=IV _ s6 τ H6 x u _ IZ r6 (step x H6 y6)
   rw[eP,eW,eA,eE,Cm] at q6
   refine cg q6 fun _ s7 ⟨σ7,H7,I7,q7⟩=>?_
   have q8:=IW _ s7 σ7 H7 _ I7 q7
   rw[eP,eW,eA,eE,Cm] at q8
   refine cg q8 fun ok s8 ⟨H8,I8,q8⟩=>?_
   have again:∀{σ9:St}{H9:Hp}{s9:Shared}{zs:List V},Inv Y ([]++kJ fp s6.heap) σ9 H9 s9→(∃ m',m' < n∧W (i+1) m' zs σ9 H9)→∃ m,m < n∧∃ i ys τ H',Inv Y [] τ H' s9∧tn i s9.heap∧(∀ b∈fp,H' b=none)∧W i m ys τ H':=fun {σ9 H9 s9 zs} I9 n9=>by
    obtain⟨m',hm,w9⟩:=n9
    refine⟨m',hm,i+1,zs,σ9,H9,I9.ic,T.keep _ _ _ DN fun b hb o e=>(I9.pin (b,o) (List.mem_append_right _ (List.mem_append_right _ (d8 hb e)))).1,fun b hb=>?_,w9⟩
    obtain⟨o,e,d⟩:=T.obj _ _ DN b hb
    exact(I9.pin (b,o) (List.mem_append_right _ (List.mem_append_right _ (d8 hb e)))).2.1
   cases ok with
   | false =>
    rw[if_neg Bool.false_ne_true]
    rw[if_neg Bool.false_ne_true] at q8
    exact again I8 (FH _ _ _ q8)
   | true =>
    rw[if_pos rfl]
    rw[if_pos rfl] at q8
    have q9:=IX _ s8 σ7 H8 _ I8 q8
    rw[eP,eW,eA,eE,Cm] at q9
    refine cg q9 fun y s9 ⟨yv,H9,I9,r9,I0,Ja,q9⟩=>?_
    have ap:=iK (X:=Y) _ s9 σ7 H9 (.ref s.heap.objs.size) [yv] (.ref s.heap.objs.size) [y] (fun _ FI=>Nn (ys++[yv]) σ7 FI) I9 rfl (.cons r9 .nil) ⟨_,ys,yv,rfl,rfl,I0,Ja,q9⟩
    rw[eP,eW,eA,Cm] at ap
    exact cg ap fun _ MK ⟨_,FI,Jb,_,Jc⟩=>again Jb (FH _ _ _ Jc)
 subst FE
 exact codeAny_compStart_list loop (T.self _ 0 _ _ _ st1 loop)
theorem AH {G:Cx→Prop} (hc:∀ C s H fp,G (cA X N scope C s H fp)) (S:cI X.N X.env.scope N nv js scope) (hi:La G X tg iter wi) (hg:∀ C s H fp,PG (cA X N scope C s H fp) tg g) (ht:∀ C s H fp,uw (cA X N scope C s H fp) ifs tt)
  (he:∀ C s H fp,PE (cA X N scope C s H fp) elt te) (hs:∀ x,foldedSetIterable iter X.env x=pure x:=by intro _;rfl) :
  PE X (.ListComp elt [⟨tg,iter,ifs,0⟩] scope pos) (C4 wi g tt te nv js):=by
 intro pins s σ H Q I h
 rw[eval_ListComp]
 refine wpAny_comprehension_free (use:=none) rfl hs (jb fun n hn=>I.ok.has n (S.free _ hn rfl)) S.kind S.loc (cg (hi pins s σ H _ I h) fun v s1 h1=>cg h1 fun itv s2 h2=>?_)
 obtain⟨it,fp,tn,J,H2,e,I2,T,st2,f2,hR⟩:=h2
 subst e
 refine sd (RR:=fun acc C=>compPost (model X.prog X.w) X.A X.xe none (EP X pins σ Q) acc C) hc S hg ht he I2 T st2 f2 hR ?_
 intro D C H' s' m I' fC hn q
 refine⟨m,hn,fun h' sb=>⟨.ref D,H',?_,rfl,q⟩⟩
 exact I'.turned (t':=s'.toks) (fun b o hb e=>(sb.2 b hb).trans e) fC.1 fC.2.1 fC.2.2.2.1 fC.2.2.2.2.1 fC.2.2.2.2.2
end
theorem se {ea:Addr}{lo:Int}{n:Nat}{g:TG}{tt:TT}{te:TE}{Q:VK}{D:Addr}{τ:St}{H:Hp} (Pv:Nat→List V→St→Hp→Prop) (h0:Pv 0 [] τ (upd H D (.lst [])))
  (hl:∀ i ys τ H,i≤n→Pv i ys τ H→H D=some (.lst ys))
  (hs:∀ i ys τ H,i < n→Pv i ys τ H→g (.int (lo+i)) τ H fun τ2 H2=>tt τ2 H2 fun b H3=>if b=true then te τ2 H3 fun y H4=>H4 D=some (.lst ys)∧ys.length < sizeLine∧Pv (i+1) (ys++[y]) τ2 (upd H4 D (.lst (ys++[y]))) else Pv (i+1) ys τ2 H3)
  (hd:∀ ys τ H,Pv n ys τ H→(∃ C od,H ea=some (BH ea C od))∧Q (.ref D) H) :
  nc (Ct ea lo n) g tt te Q D τ H:=by
 refine⟨fun i m ys τ H=>m=n - i∧i≤n∧Pv i ys τ H,⟨n,by simp,Nat.zero_le _,h0⟩,?_⟩
 rintro i m ys τ H ⟨rfl,hi,p⟩
 refine⟨hl i ys τ H hi p,?_⟩
 by_cases hlt:i < n
 ·refine .inr ⟨hlt,Pv (i+1),fun zs σ' H' p'=>⟨n - (i+1),by omega,rfl,hlt,p'⟩,fun x H' y=>?_⟩
  obtain⟨e,y⟩:=y
  subst e y
  exact hs i ys τ _ hlt p
 ·have e:i=n:=by omega
  subst e
  exact .inl ⟨⟨Nat.le_refl _,(hd ys τ H p).1⟩,(hd ys τ H p).2⟩
theorem C8 {P:Program}{w:World}{X:Cx}:Passes (pM P w) X E0:=fun _ _ _ _ _ _ _ h=>by
 obtain⟨_,_,_,_,_,_,_,_,_,_,h⟩:=h
 exact h.elim
section
variable {X:Cx}
end
open PySem
theorem MZ {A B:Prop}{b:Bool} (hb:b=false) (h:B):if b=true then A else B:=by rw[if_neg (by rw[hb];decide)];exact h
theorem Lb {p A B:Prop} [Decidable p] (hp:p) (h:B):if (!decide p)=true then A else B:=MZ (by rw[decide_eq_true hp];rfl) h
section
variable {X:Cx}
theorem bT {a o b p}{tt:Option Expr}{ll:Nat}{env:Env}:swapsWith (.BinOp a o b p) tt ll env=pure false:=rfl
theorem gB {f a k p}{tt:Option Expr}{ll:Nat}{env:Env}:swapsWith (.Call f a k p) tt ll env=pure false:=rfl
theorem lB {v k p}{tt:Option Expr}{ll:Nat}{env:Env}:swapsWith (.Constant v k p) tt ll env=pure false:=rfl
theorem qe {v s p}{tt:Option Expr}{ll:Nat}{env:Env}:swapsWith (.Subscript v s p) tt ll env=pure false:=rfl
theorem Cu {i p}{tt:Option Expr}{ll:Nat}{env:Env}:swapsWith (.Name i p) tt ll env=pure false:=rfl
theorem jR {e p}{tt:Option Expr}{ll:Nat}{env:Env}:swapsWith (.List e p) tt ll env=pure false:=rfl
theorem bu {a o b p es}{env:Env}:starEach (.BinOp a o b p :: es) env=(false,eval (.BinOp a o b p) env) :: starEach es env:=rfl
theorem Cv {k v p es}{env:Env}:starEach (.Dict k v p :: es) env=(false,eval (.Dict k v p) env) :: starEach es env:=rfl
theorem gC {l o c p es}{env:Env}:starEach (.Compare l o c p :: es) env=(false,eval (.Compare l o c p) env) :: starEach es env:=rfl
theorem bK {f a k p es}{env:Env}:starEach (.Call f a k p :: es) env=(false,eval (.Call f a k p) env) :: starEach es env:=rfl
theorem az {v k p es}{env:Env}:starEach (.Constant v k p :: es) env=(false,eval (.Constant v k p) env) :: starEach es env:=rfl
theorem bL {v a p es}{env:Env}:starEach (.Attribute v a p :: es) env=(false,eval (.Attribute v a p) env) :: starEach es env:=rfl
theorem ay {v s p es}{env:Env}:starEach (.Subscript v s p :: es) env=(false,eval (.Subscript v s p) env) :: starEach es env:=rfl
theorem aj {i p es}{env:Env}:starEach (.Name i p :: es) env=(false,eval (.Name i p) env) :: starEach es env:=rfl
theorem xr {e p es}{env:Env}:starEach (.List e p :: es) env=(false,eval (.List e p) env) :: starEach es env:=rfl
theorem sf {e k p es}{env:Env}:starEach (.Tuple e k p :: es) env=(false,eval (.Tuple e k p) env) :: starEach es env:=rfl
theorem sj {e g s p es}{env:Env}:starEach (.ListComp e g s p :: es) env=(false,eval (.ListComp e g s p) env) :: starEach es env:=rfl
end
structure n8 (prog:Program) (w:World) (K:Type) [DecidableEq K] where
 is:Heap→K→Value→Prop
 hash:K→Int
 draws:K→Nat
 g6:Nat
 inj:∀{h:Heap}{v:Value}{x y:K},is h x v→is h y v→x=y
 keeps:∀{h h':Heap}{k:K}{v:Value}{d:Addr}{o:Obj}{es ep},is h k v→h.get? d=some o→o.data=.dict es ep→Heap.SameBut d h h'→is h' k v
 pyHash:∀{A:Around}{E:Value→Shared→Prop}{s:Shared}{k:K}{v:Value}{Q:Int→Shared→Prop},A.units+g6 < cLine→is s.heap k v→Q (hash k) { s with toks:=s.toks+draws k }→wpAny (model prog w) A (PySem.pyHash v) Q E s
 eq:∀{A:Around}{s:Shared}{x y:K}{u v:Value},A.units+g6 < cLine→is s.heap x u→is s.heap y v→SeqAt.EqAt A s u v (decide (x=y))
 quiet:∀{A:Around}{E:Value→Shared→Prop}{s:Shared}{k:K}{v:Value}{Q:Bool→Shared→Prop}{n:Nat},g6≤n→is s.heap k v→Q true s→wpAny (model prog w) A (eqIsQuiet n v) Q E s
section
variable {prog:Program}{w:World}{K:Type} [DecidableEq K] (V:n8 prog w K)
def TupIs (h:Heap) (ks:List K) (a:Addr):Prop:=∃ o items n,h.get? a=some o∧o.cls=.type "tuple"∧o.data=.seq items n∧Paired (fun k v=>V.is h k v) ks items.toList
def mP (ks:List K):Int:=reduceHash (Builtin.Tuple.tupleHashOf (ks.map V.hash))
variable {V}
theorem TupIs.ty {s:Shared}{ks:List K}{a:Addr} (x:TupIs V s.heap ks a):s.TypeIs (.ref a) "tuple" := by obtain⟨o,_,_,ho,hc,_⟩:=x;exact⟨o,ho,hc⟩
theorem nq {h:Heap}:∀{x y:List K}{vs:List Value},Paired (fun k v=>V.is h k v) x vs→Paired (fun k v=>V.is h k v) y vs→x=y
 | _,_,_,.nil,.nil=>rfl
 | _,_,_,.cons a r,.cons b q=>by rw[V.inj a b,nq r q]
theorem TupIs.inj {h:Heap}{a:Addr}{x y:List K} (hx:TupIs V h x a) (hy:TupIs V h y a):x=y:=by
 obtain⟨o,items,n,ho,_,hd,hi⟩:=hx
 obtain⟨o',items',n',ho',_,hd',hi'⟩:=hy
 rw[ho] at ho'
 cases ho'
 rw[hd] at hd'
 cases hd'
 exact nq hi hi'
theorem TupIs.keeps {h h':Heap}{ks:List K}{a d:Addr}{o:Obj}{es ep} (x:TupIs V h ks a) (ho:h.get? d=some o) (hd:o.data=.dict es ep) (hs:Heap.SameBut d h h'):TupIs V h' ks a:=by
 obtain⟨o',items,n,e1,e2,e3,e4⟩:=x
 have hne:a≠d:=fun e=>by
  subst e
  rw[e1] at ho
  cases ho
  rw[hd] at e3;cases e3
 exact⟨o',items,n,(hs.2 a hne).trans e1,e2,e3,Paired.zV e4 fun k v q=>V.keeps q ho hd hs⟩
variable {A:Around}{E:Value→Shared→Prop}{s:Shared}
theorem sq {ks:List K}{a:Addr}{Q:Int→Shared→Prop} (hu:A.units+(V.g6+1) < cLine) (hk:TupIs V s.heap ks a) (h:Q (mP V ks) { s with toks:=s.toks+((ks.map V.draws).sum+1) }) :
  wpAny (model prog w) A (pyHash (.ref a)) Q E s:=by
 have hT:=hk.ty
 have qf:A.units < cLine:=by omega
 obtain⟨o,items,n,ho,_,hd,hi⟩:=hk
 unfold pyHash
 first | unfold pyHashByItsType | skip
 first | refine wpAny_bind (wpAny_cRoomFor_or (.inr qf) ?_) | skip
 refine wpAny_bind (wpAny_specialOf hT F.slot_tuple_hash.lookup ?_);show wpAny _ _ (if (some (Value.builtin "tuple.__hash__") == some Value.none)=true then _ else _) Q E s
 rw[if_neg (by rw[beq_builtin_none];exact Bool.false_ne_true)];refine wpAny_bind (wpAny_specialOf hT F.slot_tuple_hash.lookup ?_)
 show wpAny _ _ (callSpecialIfBoundUnlessNone? (.ref a) "__hash__" _ >>= _) Q E s;refine wpAny_bind (wpAny_callSpecialIfBoundUnlessNone?_slot hT F.slot_tuple_hash (wpAny_call_entry F.slot_tuple_hash hT F.entry_tuple_hash ?_ (F.args_tuple_hash_1 _)))
 have hu1:A.in1.units+V.g6 < cLine:=by show A.units+1+V.g6 < cLine;omega
 show wpAny _ _ (Builtin.Tuple.tupleItemsOf (.ref a) >>= _) _ _ s
 refine wpAny_bind (wpAny_tupleItemsOf ho hd (wpAny_bind ?_))
 rw[←Array.forIn_toList]
 refine wpAny_forIn_list _ (fun rest (b:Array Int) s'=>∃ done left,ks=done++left∧Paired (fun k v=>V.is s.heap k v) left rest∧b.toList=done.map V.hash∧s'={ s with toks:=s.toks+(done.map V.draws).sum }) _ ?_ ?_ _ _ ⟨[],ks,rfl,hi,rfl,rfl⟩
 ·rintro x rest b s' ⟨done,left,rfl,hl,hb,rfl⟩
  cases hl with
  | @cons k _ ks' _ h1 hl' =>
   have fin:∃ d l,done++k :: ks'=d++l∧Paired (fun k v=>V.is s.heap k v) l rest∧(b.push (V.hash k)).toList=d.map V.hash∧({ s with toks:=s.toks+(done.map V.draws).sum+V.draws k }:Shared)={ s with toks:=s.toks+(d.map V.draws).sum }:=⟨done++[k],ks',by simp,hl',by simp[hb],by simp[Nat.add_assoc]⟩
   refine wpAny_bind (V.pyHash hu1 h1 ?_)
   first
    | exact wpAny_pure fin
    | exact wpAny_bind (wpAny_pure (wpAny_pure fin))
 ·rintro b s' ⟨done,left,rfl,hl,hb,rfl⟩
  cases hl
  rw[List.append_nil] at h
  show wpAny _ _ (retInt (Builtin.Tuple.tupleHashOf b.toList)) _ _ _
  rw[hb]
  refine wpAny_ret_mkInt ?_
  generalize hz:Builtin.Tuple.tupleHashOf (done.map V.hash)=z
  unfold mP reduceHash at h
  rw[hz] at h
  show wpAny _ _ (if (decide (-(2:Int) ^ 63≤z) && decide (z < 2 ^ 63))=true then _ else _) Q E _
  by_cases hr:(decide (-(2:Int) ^ 63≤z) && decide (z < 2 ^ 63))=true
  ·rw[if_pos hr] at h ⊢
   exact wpAny_pure (by simpa [Nat.add_assoc] using h)
  ·rw[if_neg hr] at h ⊢
   exact wpAny_bind (wpAny_rule (wpAny_pure (by simpa [Nat.add_assoc] using h)))
theorem uC {x y:List K}:((List.range (min x.length y.length)).all (fun j=>decide (x[j]? = y[j]?)) && x.length == y.length)=decide (x=y):=by
 rw[Bool.eq_iff_iff,Bool.and_eq_true,List.all_eq_true,decide_eq_true_iff,beq_iff_eq]
 constructor
 ·rintro⟨q,hl⟩
  refine List.ext_getElem? fun i=>?_
  by_cases hi:i < x.length
  ·exact of_decide_eq_true (q i (List.mem_range.mpr (by omega)))
  ·rw[List.getElem?_eq_none (by omega),List.getElem?_eq_none (by omega)]
 ·rintro rfl
  exact⟨fun i _=>decide_eq_true rfl,rfl⟩
theorem jz {F:K→Value→Prop}:∀{ks:List K}{vs:List Value},Paired F ks vs→∀(j:Nat) v,vs[j]? = some v→∃ k,ks[j]? = some k∧F k v
 | _,_,.nil,j,v,h=>by simp at h
 | _,_,.cons a r,0,v,h=>by cases h;exact⟨_,rfl,a⟩
 | _,_,.cons a r,j+1,v,h=>by
  rw[List.getElem?_cons_succ] at h
  obtain⟨k,e,q⟩:=jz r j v h
  exact⟨k,by rw[List.getElem?_cons_succ];exact e,q⟩
theorem AI {x y:List K}{a b:Addr} (hu:A.units+(V.g6+1) < cLine) (hx:TupIs V s.heap x a) (hy:TupIs V s.heap y b):SeqAt.EqAt A s (.ref a) (.ref b) (decide (x=y)):=by
 by_cases e:a=b
 ·subst e
  rw[decide_eq_true (hx.inj hy)]
  exact SeqAt.EqAt.same _
 ·obtain⟨o,items,n,h1,h2,h3,h4⟩:=hx
  obtain⟨o',items',n',M0,h2',h3',Lc⟩:=hy
  have l1:x.length=items.size:=by rw[Paired.length h4,Array.length_toList]
  have l2:y.length=items'.size:=by rw[Paired.length Lc,Array.length_toList]
  refine SeqAt.EqAt.of_refs e ?_
  rw[←uC,l1,l2]
  refine SeqAt.RcAt.tuples ⟨o,h1,h2,n,h3⟩ ⟨o',M0,h2',n',h3'⟩ (by omega) fun j j1 j2=>?_
  obtain⟨k,ek,hk⟩:=jz h4 j items[j] (by simp[j1])
  obtain⟨k',Na,hk'⟩:=jz Lc j items'[j] (by simp[j2])
  rw[ek,Na,show decide (some k=some k')=decide (k=k') by simp]
  exact V.eq (by show A.units+1+V.g6 < cLine;omega) hk hk'
theorem pN {ks:List K}{a:Addr}{Q:Bool→Shared→Prop}{n:Nat} (hn:V.g6+1≤n) (hk:TupIs V s.heap ks a) (h:Q true s):wpAny (model prog w) A (eqIsQuiet n (.ref a)) Q E s:=by
 have hT:=hk.ty
 obtain⟨o,items,m,ho,_,hd,hi⟩:=hk
 obtain⟨n,rfl⟩:∃ n',n=n'+1:=⟨n - 1,by omega⟩
 unfold eqIsQuiet
 refine wpAny_bind (wpAny_specialOf hT F.slot_tuple_eq.lookup ?_);show wpAny _ _ (isInstance (.ref a) (.type "tuple") >>= _) _ _ s
 refine wpAny_bind (wpAny_isInstance hT isSubtype_tuple_tuple ?_)
 simp only[Bool.not_true,Bool.false_eq_true,if_false]
 refine wpAny_bind (wpAny_seqItems ho hd (wpAny_bind ?_))
 show wpAny _ _ (forIn items _ _) _ _ s
 rw[←Array.forIn_toList]
 refine wpAny_forIn_list _ (fun rest r s'=>r.1=none∧s'=s∧∃ l,Paired (fun k v=>V.is s.heap k v) l rest) _ ?_ ?_ _ _ ⟨rfl,rfl,ks,hi⟩
 ·rintro v rest r s' ⟨hr,rfl,l,hl⟩
  cases hl with
  | @cons k _ ks' _ h1 hl' =>
   refine wpAny_bind (V.quiet (by omega) h1 ?_)
   simp only[Bool.not_true,Bool.false_eq_true,if_false]
   exact wpAny_pure ⟨rfl,rfl,ks',hl'⟩
 ·rintro⟨r1,r2⟩ s' ⟨hr,rfl,_⟩
  simp only at hr
  subst hr
  exact wpAny_pure h
end
abbrev Lf:=Option Key
def sr:Lf→Value→Prop
 | none,v=>v=.none
 | some k,v=>jM k v=true
section
variable {prog:Program}{w:World}{A:Around}{E:Value→Shared→Prop}{s:Shared}
theorem ya {Q:Int→Shared→Prop} (hu:A.units < cLine) (h:Q 4238894112 { s with toks:=s.toks+1 }):wpAny (model prog w) A (pyHash .none) Q E s:=by
 have hT:s.TypeIs .none "NoneType" := rfl
 unfold pyHash
 first | unfold pyHashByItsType | skip
 first | refine wpAny_bind (wpAny_cRoomFor_or (.inr hu) ?_) | skip
 refine wpAny_bind (wpAny_specialOf hT F.slot_NoneType_hash.lookup ?_)
 show wpAny _ _ (if (some (Value.builtin "NoneType.__hash__") == some Value.none)=true then _ else _) Q E s
 rw[if_neg (by rw[beq_builtin_none];exact Bool.false_ne_true)];refine wpAny_bind (wpAny_specialOf hT F.slot_NoneType_hash.lookup ?_)
 show wpAny _ _ (callSpecialIfBoundUnlessNone? .none "__hash__" _ >>= _) Q E s
 refine wpAny_bind (wpAny_callSpecialIfBoundUnlessNone?_slot hT F.slot_NoneType_hash (wpAny_call_entry F.slot_NoneType_hash hT F.entry_NoneType_hash ?_ (F.args_NoneType_hash_1 _)))
 show wpAny _ _ (retInt 4238894112) _ _ _
 refine wpAny_ret_mkInt ?_
 show wpAny _ _ (if (decide (-(2:Int) ^ 63≤4238894112) && decide ((4238894112:Int) < 2 ^ 63))=true then _ else _) Q E _
 rw[if_pos (by decide)]
 exact wpAny_pure h
theorem fZ {k:Key}{v:Value} (h:jM k v=true):(∃ i t,k=.inl i∧v=.int i t)∨∃ z t,k=.inr z∧v=.str z t:=aW h
theorem AJ (prog:Program) (w:World) {v:Value}{x y:Lf} (hx:sr x v) (hy:sr y v):x=y:=by
 cases x with
 | none =>
  cases y with
  | none=>rfl
  | some k=>rcases fZ hy with ⟨i,t,rfl,e⟩ | ⟨z,t,rfl,e⟩ <;> (rw[show v=.none from hx] at e;cases e)
 | some k =>
  cases y with
  | none=>rcases fZ hx with ⟨i,t,rfl,e⟩ | ⟨z,t,rfl,e⟩ <;> (rw[show v=.none from hy] at e;cases e)
  | some k'=>rw[(fJ prog w).inj v k k' hx hy]
theorem C9 {x y:Lf}{u v:Value} (hx:sr x u) (hy:sr y v):SeqAt.EqAt A s u v (decide (x=y)):=by
 cases x with
 | none =>
  have hx:u=.none:=hx
  subst hx
  cases y with
  | none =>
   have hy:v=.none:=hy
   subst hy
   rw[decide_eq_true rfl];exact SeqAt.EqAt.same _
  | some k =>
   rw[decide_eq_false (by simp)]
   rcases fZ hy with ⟨i,t,rfl,rfl⟩ | ⟨z,t,rfl,rfl⟩
   ·exact SeqAt.EqAt.none_int _ _
   ·exact SeqAt.EqAt.none_str _ _
 | some k =>
  cases y with
  | none =>
   have hy:v=.none:=hy
   subst hy
   rw[decide_eq_false (by simp)]
   rcases fZ hx with ⟨i,t,rfl,rfl⟩ | ⟨z,t,rfl,rfl⟩
   ·exact SeqAt.EqAt.int_none _ _
   ·exact SeqAt.EqAt.str_none _ _
  | some k' =>
   rw[show decide (some k=some k')=decide (k=k') by simp]
   rcases fZ hx with ⟨i,t,rfl,rfl⟩ | ⟨z,t,rfl,rfl⟩ <;> rcases fZ hy with ⟨i',t',rfl,rfl⟩ | ⟨z',t',rfl,rfl⟩
   ·rw[zQ];exact SeqAt.EqAt.int_int _ _ _ _
   ·rw[zS];exact SeqAt.EqAt.int_str _ _ _ _
   ·rw[zU];exact SeqAt.EqAt.str_int _ _ _ _
   ·rw[zR,show decide (z=z')=(z == z') by rw[Bool.eq_iff_iff,decide_eq_true_iff,beq_iff_eq]];exact SeqAt.EqAt.str_str _ _ _ _
theorem uD {x:Lf}{v:Value} (h:sr x v):carriedByValue v=true:=by
 cases x with
 | none=>rw[show v=.none from h];rfl
 | some k=>rcases fZ h with ⟨i,t,rfl,rfl⟩ | ⟨z,t,rfl,rfl⟩ <;> rfl
end
def AK (w:World):Lf→Int
 | none=>4238894112
 | some k=>Di w k
def xu (prog:Program) (w:World):n8 prog w Lf where
 is:=fun _ k v=>sr k v
 hash:=AK w
 draws:=fun _=>1
 g6:=0
 inj:=fun hx hy=>AJ prog w hx hy
 keeps:=fun h _ _ _=>h
 pyHash:=fun {A E s k v Q} hu h q=>by
  cases k with
  | none =>
   have h:v=.none:=h
   subst h
   exact ya hu q
  | some k=>exact(fJ prog w).pyHash h q
 eq:=fun _ hx hy=>C9 hx hy
 quiet:=fun {A E s k v Q n} _ h q=>by rw[eqIsQuiet_byValue n (uD h)];exact wpAny_pure q
section
variable {prog:Program}{w:World}{K:Type} [DecidableEq K] (V:n8 prog w K)
def D3 (h:Heap):Lf ⊕ List K→Value→Prop
 | .inl k,v=>sr k v
 | .inr ks,v=>∃ a,v=.ref a∧TupIs V h ks a
def D4:Lf ⊕ List K→Int
 | .inl k=>AK w k
 | .inr ks=>mP V ks
def Cw:Lf ⊕ List K→Nat
 | .inl _=>1
 | .inr ks=>(ks.map V.draws).sum+1
variable {V}
theorem AL {k:Lf}{a:Addr} (h:sr k (.ref a)):False:=by
 cases k with
 | none=>cases(show Value.ref a=.none from h)
 | some k=>rcases fZ h with ⟨i,t,rfl,e⟩ | ⟨z,t,rfl,e⟩ <;> cases e
theorem Gm {A:Around}{s:Shared}{x y:Lf ⊕ List K}{u v:Value} (hu:A.units+(V.g6+1) < cLine) (hx:D3 V s.heap x u) (hy:D3 V s.heap y v):SeqAt.EqAt A s u v (decide (x=y)):=by
 cases x with
 | inl k =>
  cases y with
  | inl k' =>
   rw[show decide ((Sum.inl k:Lf ⊕ List K)=.inl k')=decide (k=k') by simp]
   exact C9 hx hy
  | inr ks =>
   obtain⟨a,rfl,o,items,n,h1,h2,h3,h4⟩:=hy
   rw[decide_eq_false (fun q=>nomatch q)]
   cases k with
   | none =>
    have hx:u=.none:=hx
    subst hx
    exact SeqAt.EqAt.none_tuple ⟨o,h1,h2,n,h3⟩ (by omega)
   | some k =>
    rcases fZ hx with ⟨i,t,rfl,rfl⟩ | ⟨z,t,rfl,rfl⟩
    ·exact SeqAt.EqAt.int_tuple _ _ ⟨o,h1,h2,n,h3⟩ (by omega)
    ·exact SeqAt.EqAt.str_tuple _ _ ⟨o,h1,h2,n,h3⟩ (by omega)
 | inr ks =>
  obtain⟨a,rfl,hxa⟩:=hx
  cases y with
  | inl k' =>
   obtain⟨o,items,n,h1,h2,h3,h4⟩:=hxa
   rw[decide_eq_false (fun q=>nomatch q)]
   cases k' with
   | none =>
    have hy:v=.none:=hy
    subst hy
    exact SeqAt.EqAt.tuple_none ⟨o,h1,h2,n,h3⟩ (by omega)
   | some k =>
    rcases fZ hy with ⟨i,t,rfl,rfl⟩ | ⟨z,t,rfl,rfl⟩
    ·exact SeqAt.EqAt.tuple_int _ _ ⟨o,h1,h2,n,h3⟩ (by omega)
    ·exact SeqAt.EqAt.tuple_str _ _ ⟨o,h1,h2,n,h3⟩ (by omega)
  | inr ks' =>
   obtain⟨b,rfl,Js⟩:=hy
   rw[show decide ((Sum.inr ks:Lf ⊕ List K)=.inr ks')=decide (ks=ks') by simp]
   exact AI hu hxa Js
def stepK (V:n8 prog w K):n8 prog w (Lf ⊕ List K) where
 is:=D3 V
 hash:=D4 V
 draws:=Cw V
 g6:=V.g6+1
 inj:=fun {h v x y} hx hy=>by
  cases x with
  | inl k =>
   cases y with
   | inl k'=>rw[AJ prog w hx hy]
   | inr ks=>obtain⟨a,rfl,_⟩:=hy;exact(AL hx).elim
  | inr ks =>
   obtain⟨a,rfl,hxa⟩:=hx
   cases y with
   | inl k'=>exact(AL hy).elim
   | inr ks'=>obtain⟨b,e,Js⟩:=hy;cases e;rw[hxa.inj Js]
 keeps:=fun {h h' k v d o es ep} hx ho hd hs=>by
  cases k with
  | inl k=>exact hx
  | inr ks=>obtain⟨a,rfl,hxa⟩:=hx;exact⟨a,rfl,hxa.keeps ho hd hs⟩
 pyHash:=fun {A E s k v Q} hu hx q=>by
  cases k with
  | inl k=>exact(xu prog w).pyHash (by show A.units+0 < cLine;omega) hx q
  | inr ks=>obtain⟨a,rfl,hxa⟩:=hx;exact sq hu hxa q
 eq:=fun hu hx hy=>Gm hu hx hy
 quiet:=fun {A E s k v Q n} hn hx q=>by
  cases k with
  | inl k=>exact(xu prog w).quiet (Nat.zero_le _) hx q
  | inr ks=>obtain⟨a,rfl,hxa⟩:=hx;exact pN hn hxa q
def su (V:n8 prog w K) (hl:V.g6+1≤8):HeapKind prog w (List K) where
 is:=TupIs V
 hash:=mP V
 draws:=fun ks=>(ks.map V.draws).sum+1
 room:=fun A=>A.units+(V.g6+1) < cLine
 inj:=fun hx hy=>hx.inj hy
 keeps:=fun x ho hd hs=>x.keeps ho hd hs
 pyHash:=fun hu hk h=>sq hu hk h
 eqBool:=fun hu hx hy h=>AI hu hx hy prog w _ _ h
 quiet:=fun hk h=>pN hl hk h
end
section
variable {κ:Type} [DecidableEq κ]
end
theorem Gn {P:Program}{w:World}{k:Key}{u:Value} (r:RelV (kV k) u):(fJ P w).is k u=true:=by
 cases k with
 | inl i=>obtain⟨t,e⟩:=(show ∃ t,u=Value.int i t from r);subst e;exact rK P w i t
 | inr x=>obtain⟨t,e⟩:=(show ∃ t,u=Value.str x t from r);subst e;exact rL P w x t
section
variable {P:Program}{w:World}{H:Hp}{h:Heap}{a:Addr}
end
section
variable {X:Cx}{pins:List (Addr×Obj)}{σ:St}{H:Hp}{s:Shared}{a:Addr}{y v:V}{u r:Value}{o:Option V}{A:Around}{E:Value→Shared→Prop}
theorem Inv.big (I:Inv X pins σ H s):sysModules < s.heap.objs.size:=by
 have h:mainGlobals < s.heap.objs.size:=(I.mod.glob.keeps I.bk).lt
 exact Nat.lt_trans (by decide) h
end
section
variable {X:Cx}{pins:List (Addr×Obj)}{σ:St}{H:Hp}{s:Shared}{a:Addr}{kvs:List (Key×V)}{k:Key}{u:Value}{A:Around}{E:Value→Shared→Prop}
end
section
variable {X:Cx}{o i e value:Expr}{pos pos' tpos:Pos}{td ty tv:TE}
end
section
variable {X:Cx}{pos:Pos}
end
structure M1 (X:Cx) (o:Expr) (m:Str) (apos:Pos) (e:Expr) (cpos:Pos):Prop where
 base:attributeBase o m X.env (eval o X.env)=eval o X.env
 few:((backTo cpos (starEach [e] X.env)).all (fun x=>!x.1) && (backToKw cpos (keywordEach [] X.env)).all (fun x=>x.1.isSome)
  && decide (([e]:List Expr).length+([]:List Keyword).length+(if ([]:List Keyword).isEmpty then 0 else 1) < 30))=true
 line:(apos.endLine == cpos.line)=true
 trees:backTo cpos (starEach [e] X.env)=[(false,eval e X.env)]
structure M2 (X:Cx) (o:Expr) (m:Str) (apos:Pos) (e f:Expr) (cpos:Pos):Prop where
 base:attributeBase o m X.env (eval o X.env)=eval o X.env
 few:((backTo cpos (starEach [e,f] X.env)).all (fun x=>!x.1) && (backToKw cpos (keywordEach [] X.env)).all (fun x=>x.1.isSome)
  && decide (([e,f]:List Expr).length+([]:List Keyword).length+(if ([]:List Keyword).isEmpty then 0 else 1) < 30))=true
 line:(apos.endLine == cpos.line)=true
 trees:backTo cpos (starEach [e,f] X.env)=[(false,eval e X.env),(false,eval f X.env)]
section
variable {X:Cx}{pins:List (Addr×Obj)}{σ:St}{H:Hp}{s:Shared}{a:Addr}{y d:V}{u r:Value}{o:Option V}{A:Around}{E:Value→Shared→Prop}
end
section
variable {X:Cx}{o e f:Expr}{apos cpos:Pos}{td ty tx:TE}
end
section
variable {X:Cx}{pins:List (Addr×Obj)}{σ:St}{H:Hp}{s:Shared}{a:Addr}{kvs:List (Key×V)}{A:Around}{E:Value→Shared→Prop}
end
section
variable {X:Cx}{pins:List (Addr×Obj)}{σ:St}{H:Hp}{s:Shared}{a:Addr}{y:V}{u:Value}{A:Around}{E:Value→Shared→Prop}
end
theorem lC {α β γ:Type}{F:α→β→Prop}{G:β→γ→Prop}:∀{xs:List α}{ys:List β}{zs:List γ},Paired F xs ys→Paired G ys zs→Paired (fun a c=>∃ b,F a b∧G b c) xs zs
 | _,_,_,.nil,.nil=>.nil
 | _,_,_,.cons a r,.cons b q=>.cons ⟨_,a,b⟩ (lC r q)
section
variable {P:Program}{w:World}{K:Type} [DecidableEq K]
structure zM (F:W.Frag) (Z:n8 P w K) where
 on:Hp→K→V→Prop
 ok:∀{X:Cx}{pins:List (Addr×Obj)}{σ:St}{H:Hp}{s:Shared}{k:K}{v:V}{u:Value},X.K=F→Inv X pins σ H s→RelV v u→on H k v→Z.is s.heap k u
 keep:∀{H H':Hp}{k:K}{v:V},(∀ b xs,dB F H b xs→dB F H' b xs)→on H k v→on H' k v
def AM {F:W.Frag}{Z:n8 P w K} (Y:zM F Z) (H:Hp) (ks:List K) (b:Addr):Prop:=∃ vs,dB F H b vs∧Paired (fun k v=>Y.on H k v) ks vs
variable {F:W.Frag}{Z:n8 P w K}{Y:zM F Z}{H H':Hp}{ks:List K}{b:Addr}
theorem AM.is {X:Cx}{pins:List (Addr×Obj)}{σ:St}{s:Shared} (hF:X.K=F) (I:Inv X pins σ H s) (e:AM Y H ks b):TupIs Z s.heap ks b:=by
 obtain⟨vs,e,r⟩:=e
 obtain⟨its,rv,⟨o,h1,h2,n,h3⟩,_⟩:=I.tuple (by rw[hF];exact e)
 exact⟨o,its.toArray,n,h1,h2,h3,by simpa using Paired.zV (lC r rv) (fun k u ⟨v,a,c⟩=>Y.ok hF I c a)⟩
theorem AM.keep (t:∀ b xs,dB F H b xs→dB F H' b xs) (e:AM Y H ks b):AM Y H' ks b:=by
 obtain⟨vs,e,r⟩:=e
 exact⟨vs,t _ _ e,Paired.zV r fun k v q=>Y.keep t q⟩
theorem AM.mono (s:∀ a o,H a=some o→H' a=some o) (e:AM Y H ks b):AM Y H' ks b:=e.keep fun b xs q=>by
 rcases q with (q | ⟨o,q⟩) | q
 ·exact .inl (.inl (s _ _ q))
 ·exact .inl (.inr ⟨o,s _ _ q⟩)
 ·exact .inr q
end
section
variable {P:Program}{w:World}{K:Type} [DecidableEq K]
abbrev N3 (K:Type):=List K×Addr×V
abbrev Cy:List (N3 K)→List (List K×Addr×Value)→Prop:=Paired fun p q=>p.1=q.1∧p.2.1=q.2.1∧RelV p.2.2 q.2.2
def Gp (Z:n8 P w K) (hl:Z.g6+1≤8) (a:Addr) (kvs:List (N3 K)) (h:Heap):Prop :=
 kvs.length≤sizeLine∧(a == sysModules)=false∧∃ xs,Cy kvs xs∧∃ o es ep,h.get? a=some o∧o.ExactDict∧o.data=.dict es ep∧es.toList=xs.map (entryOfKey (su Z hl))∧(xs.map (·.1)).Nodup
def dN (Z:n8 P w K) (hl:Z.g6+1≤8) (a:Addr) (kvs:List (N3 K)):HO:=.ext (Gp Z hl a kvs)
structure Nd {F:W.Frag}{Z:n8 P w K} (Y:zM F Z) (hl:Z.g6+1≤8) (H:Hp) (a:Addr) (kvs:List (N3 K)):Prop where
 ob:H a=some (dN Z hl a kvs)
 keys:∀ e∈kvs,AM Y H e.1 e.2.1
variable {F:W.Frag}{Z:n8 P w K}{Y:zM F Z}{hl:Z.g6+1≤8}{H H':Hp}{h:Heap}{a b:Addr}{kvs:List (N3 K)}
theorem Nd.mono (s:∀ a o,H a=some o→H' a=some o) (d:Nd Y hl H a kvs):Nd Y hl H' a kvs:=⟨s _ _ d.ob,fun e he=>(d.keys e he).mono s⟩
theorem AO {xs:List (List K×Addr×Value)}:∀{kvs:List (N3 K)},Cy kvs xs→∀ q∈xs,∃ p∈kvs,p.1=q.1∧p.2.1=q.2.1:=by
 intro kvs r
 induction r with
 | nil=>intro q hq;cases hq
 | cons a r ih =>
  intro q hq
  rcases List.mem_cons.mp hq with rfl | hq
  ·exact⟨_,List.mem_cons_self ..,a.1,a.2.1⟩
  ·obtain⟨p,hp,e⟩:=ih q hq
   exact⟨p,List.mem_cons_of_mem _ hp,e⟩
theorem Nd.of {X:Cx}{K:Type} [DecidableEq K] {F:W.Frag}{Z:n8 X.prog X.w K}{Y:zM F Z}{hl:Z.g6+1≤8}{H:Hp}{a:Addr}{kvs:List (N3 K)}{pins:List (Addr×Obj)}{σ:St}{s:Shared} (hF:X.K=F) (I:Inv X pins σ H s) (d:Nd Y hl H a kvs):kvs.length≤sizeLine∧(a == sysModules)=false∧∃ xs,Cy kvs xs∧s.heap.DictOfH (su Z hl) a xs:=by
 obtain⟨⟨z,y,xs,r,o,es,ep,h1,h2,h3,h4,h5⟩,_⟩:=(show bG X.prog X.w H s.heap a (dN Z hl a kvs) from I.hok a _ d.ob)
 refine⟨z,y,xs,r,o,es,ep,h1,h2,h3,h4,fun x hx=>?_,h5⟩
 obtain⟨p,hp,e1,e2⟩:=AO r x hx
 have:=(d.keys p hp).is hF I
 rw[e1,e2] at this
 exact this
theorem Dd {h':Heap}{xs:List (List K×Addr×Value)} (z:kvs.length≤sizeLine) (y:(a == sysModules)=false) (r:Cy kvs xs) (dd:h'.DictOfH (su Z hl) a xs):bG P w H h' a (dN Z hl a kvs):=by
 obtain⟨o,es,ep,h1,h2,h3,h4,_,h5⟩:=dd
 refine⟨⟨z,y,xs,r,o,es,ep,h1,h2,h3,h4,h5⟩,⟨o,h1⟩,fun g1 g2 q k=>?_⟩
 obtain⟨z,y,xs,r,o,es,ep,h1,h2,h3,h4,h5⟩:=q
 exact⟨z,y,xs,r,o,es,ep,k _ h1,h2,h3,h4,h5⟩
end
section
variable {X:Cx}{K:Type} [DecidableEq K] {F:W.Frag}{Z:n8 X.prog X.w K}{Y:zM F Z}{hl:Z.g6+1≤8}{pins:List (Addr×Obj)}{σ:St}{H:Hp}{s:Shared}{a b:Addr}{kvs:List (N3 K)}{k:List K}{v:V}{r:Value}{A:Around}{E:Value→Shared→Prop}
variable {o i value kx:Expr}{pos pos':Pos}{td ty tv:TE}
def De {P:Program}{w:World}{K:Type} [DecidableEq K] {F:W.Frag}{Z:n8 P w K} (Y:zM F Z) (hl:Z.g6+1≤8) (tk tv:TE):TE:=fun σ H Q=>∀ p,H p=none→tk σ (upd H p (dN Z hl p [])) fun y H1=>tv σ H1 fun v H2=>∃ k b,y=.ref b∧H2 p=some (dN Z hl p [])∧AM Y H2 k b∧Q (.ref p) (upd H2 p (dN Z hl p [(k,b,v)]))
theorem AQ (Y:zM F Z) (hl:Z.g6+1≤8) (hF:X.K=F) (hu:X.A.units+(Z.g6+1) < cLine) {tk:TE} (hk:PE X kx tk) (hv:PE X value tv):PE X (.Dict [some kx] [value] pos) (De Y hl tk tv):=by
 intro pins s σ H Q I q
 have hn:=I.hok.fresh (Nat.le_refl s.heap.objs.size)
 have y0:(s.heap.objs.size == sysModules)=false:=beq_eq_false_iff_ne.mpr (Ne.symm (Nat.ne_of_lt I.big))
 have I1:=I.laid (a:=s.heap.objs.size) (o:=dN Z hl s.heap.objs.size []) (h':=s.heap.push { cls:=.type "dict",data:=.dict #[] }) (t':=s.toks) (fun _ _ q=>Heap.get?_push_of_some _ q) (Nat.le_refl _) (Dd (xs:=[]) (Nat.zero_le _) y0 .nil (Heap.DictOfH.new s.heap))
 refine wpAny_Dict_any rfl rfl (fun z=>nomatch z) (by show 1≤15;decide) (pairTrees_cons_walk (cg (hk pins _ σ _ _ I1 (q _ hn)) fun u s1 ⟨x,H1,Nb,rx,q1⟩=>cg (hv pins s1 σ H1 _ Nb q1) fun vu s2 ⟨v,H2,I2,rv,k,b,ex,e,ek,q2⟩=>pairTrees_nil_walk ?_))
 subst ex
 obtain rfl:u=Value.ref b:=rx
 have d0:Nd Y hl H2 s.heap.objs.size []:=⟨e,fun x hx=>nomatch hx⟩
 obtain⟨z,y,xs,rel,dd⟩:=d0.of hF I2
 cases rel
 unfold storeAll
 refine wpAny_forIn_list _ (fun rest _ s'=>(rest=[(Value.ref b,vu)]∧s'=s2)∨(rest=[]∧EP X pins σ Q (Value.ref s.heap.objs.size) s')) _ ?_ ?_ _ _ (.inl ⟨rfl,rfl⟩)
 ·rintro x rest u s' (⟨e1,rfl⟩ | ⟨e1,_⟩)
  ·cases e1
   refine wpAny_bind (wpAny_dictSet_heap (knd:=su Z hl) (hsz:=Nat.zero_le _) hu (ek.is hF I2) dd fun h' Jm hs=>wpAny_pure (.inr ⟨rfl,.ref s.heap.objs.size,_,?_,rfl,q2⟩))
   have he:∃ q,h'.get? s.heap.objs.size=some q:=let ⟨q,_,_,hq,_⟩:=Jm;⟨q,hq⟩
   exact I2.write (x:=s.heap.objs.size) (e:=s.heap.objs.size) (by rw[e];exact True.intro) (.inl rfl) (fun c q hc z=>(hs.2 c hc).trans z) he (Dd (by show 1≤sizeLine;decide) y (.cons ⟨rfl,rfl,rv⟩ .nil) Jm)
  ·cases e1
 ·rintro u s' (⟨e1,_⟩ | ⟨_,q⟩)
  ·cases e1
  ·exact q
end
section
variable {X:Cx}{K:Type} [DecidableEq K] {F:W.Frag}{Z:n8 X.prog X.w K}
end
abbrev ZM (P:Program) (w:World):=stepK (xu P w)
theorem hn0 {A:Around}{P:Program}{w:World} (h:A.units+64 < cLine):A.units+((xu P w).g6+1) < cLine:=by show A.units+1 < cLine;omega
theorem hn2 {A:Around}{P:Program}{w:World} (h:A.units+64 < cLine):A.units+1+((ZM P w).g6+1) < cLine:=by show A.units+1+2 < cLine;omega
section
variable {P:Program}{w:World}{F:W.Frag}{H:Hp}
end
section
variable {X:Cx}{P:Program}{w:World}{K:Type} [DecidableEq K] {F:W.Frag}{Z:n8 P w K}{o i value kx:Expr}{pos pos':Pos}{td ty tv tk:TE}
theorem yb (Y:zM F Z) (hl:Z.g6+1≤8) (hP:X.prog=P) (hw:X.w=w) (hF:X.K=F) (hu:X.A.units+(Z.g6+1) < cLine) (hk:PE X kx tk) (hv:PE X value tv):PE X (.Dict [some kx] [value] pos) (De Y hl tk tv):=by
 subst hP hw;exact AQ Y hl hF hu hk hv
end
end L2
set_option maxHeartbeats 1000000
namespace L2
open PySem PySem.Spec PyProof.Rows
section
variable {X:Cx}
def Gq (K:W.Frag):R2:=fun x y H Q=>∃ a C dx fs,x=.ref a∧y=.ref a∧H a=some (.ins C dx fs)∧W.findIn K (.ref C) "__eq__" = some (some (.builtin "object.__eq__"))∧W.mroIn K C (.type "object")=some true∧Q (.bl true) H
theorem sy {M:Model}{A:Around}{E:Value→Shared→Prop}{s:Shared}{K:W.Frag}{x C:Addr}{ox:Obj}{od:Option Obj}{name:Str}{id:String}{args:List Value}{Q:Option Value→Shared→Prop} (Y:K.In s.heap) (J:W.InstAt s.heap x ox C od) (hs:W.findIn K (.ref C) name=some (some (.builtin id)))
  (hb:∀ self,bindSpecial (.builtin id) self=pure (.builtin id,[self])) (h:wpAny M A (call (.builtin id) (.ref x :: args)) (fun v=>Q (some v)) E s):wpAny M A (callSpecialIfBound? (.ref x) name args) Q E s:=by
 simp only[callSpecialIfBound?,bindSpecialIfBound?]
 refine wpAny_holding (wpAny_bind (wpAny_bind (wpAny_bind (J.type.here ((W.looks_findIn Y hs).here ?_)))))
 refine wpAny_bind (wpAny_askSetting (wpAny_ite ?_))
 have fin:wpAny M A (call (.builtin id) ([.ref x]++args) >>= fun v=>pure (some v)) Q E s:=wpAny_bind (wpAny_mono h (fun v s' h'=>wpAny_pure h') fun _ _ h'=>h')
 simp only[hb]
 split
 ·exact wpAny_bind (wpAny_pure (wpAny_pure fin))
 ·exact wpAny_tryCatch (wpAny_bind (wpAny_pure (wpAny_pure fin)))
theorem D5 (K:W.Frag) (hK:X.K=K) (hu:X.A.units < cLine):g8 X (compareOp .Eq) (Gq K):=by
 subst hK
 intro pins s σ H x y v u Q I rx ry h
 obtain⟨a,C,dx,fs,rfl,rfl,ha,he,hm,q⟩:=h
 cases rx;cases ry
 obtain⟨mA,O,_⟩:=jO I.hok ha
 obtain⟨od,J,_⟩:=O.look
 have Y:=I.iJ
 show wpAny _ _ (richCompare .Eq (.ref a) (.ref a)) _ _ s
 unfold richCompare
 refine wpAny_holding (wpAny_bind (wpAny_cRoomFor hu ?_))
 simp only[cmpInfo_Eq,oneThing_ref]
 refine wpAny_bind (J.type.here (wpAny_bind (J.type.here ?_)))
 rw[if_neg (by simp)]
 refine wpAny_bind (wpAny_pure ?_)
 simp only[Bool.false_eq_true,if_false]
 refine wpAny_bind (m:=tryCompare _ _ _) ?_
 unfold tryCompare
 refine wpAny_bind (sy Y J he PySem.F.cmp_object.eq.bind (wpAny_call (codeAny_call_builtin PySem.F.cmp_object.eq.plain PySem.F.cmpEntry_eq (W.check_slot PySem.F.cmpKind_eq PySem.F.cmpSplit_eq (J.type.andThen (W.looks_mroIn Y hm)) (PySem.F.cmpArgs_eq _ _) (objEq_entry_same ?_)))))
 exact wpAny_pure (wpAny_pure ⟨.bl true,H,I,rfl,q⟩)
end
abbrev Sb:=Str ⊕ Bool
def uE:Sb→Value→Prop
 | .inl z,v=>jM (.inr z) v=true
 | .inr b,v=>v=.bool b
section
variable {prog:Program}{w:World}{A:Around}{E:Value→Shared→Prop}{s:Shared}
theorem jA {z:Str}{v:Value} (h:uE (.inl z) v):∃ t,v=.str z t:=by
 rcases aW h with ⟨i,t,e,_⟩ | ⟨x,t,e,e2⟩
 ·cases e
 ·cases e;exact⟨t,e2⟩
theorem yc {b:Bool}{Q:Int→Shared→Prop} (hu:A.units < cLine) (h:Q (if b then 1 else 0) { s with toks:=s.toks+1 }):wpAny (model prog w) A (pyHash (.bool b)) Q E s:=by
 have hT:s.TypeIs (.bool b) "bool" := rfl
 unfold pyHash
 first | unfold pyHashByItsType | skip
 first | refine wpAny_bind (wpAny_cRoomFor_or (.inr hu) ?_) | skip
 refine wpAny_bind (wpAny_specialOf hT F.slot_bool_hash.lookup ?_)
 show wpAny _ _ (if (some (Value.builtin "int.__hash__") == some Value.none)=true then _ else _) Q E s
 rw[if_neg (by rw[beq_builtin_none];exact Bool.false_ne_true)];refine wpAny_bind (wpAny_specialOf hT F.slot_bool_hash.lookup ?_)
 show wpAny _ _ (callSpecialIfBoundUnlessNone? (.bool b) "__hash__" _ >>= _) Q E s
 refine wpAny_bind (wpAny_callSpecialIfBoundUnlessNone?_slot hT F.slot_bool_hash (wpAny_call_entry F.slot_bool_hash hT entry_int_hash ?_ (args_int_hash _)))
 cases b
 ·show wpAny _ _ (retInt 0) _ _ _
  refine wpAny_ret_mkInt ?_
  show wpAny _ _ (if (decide (-(2:Int) ^ 63≤0) && decide ((0:Int) < 2 ^ 63))=true then _ else _) Q E _
  rw[if_pos (by decide)]
  exact wpAny_pure h
 ·show wpAny _ _ (retInt 1) _ _ _
  refine wpAny_ret_mkInt ?_
  show wpAny _ _ (if (decide (-(2:Int) ^ 63≤1) && decide ((1:Int) < 2 ^ 63))=true then _ else _) Q E _
  rw[if_pos (by decide)]
  exact wpAny_pure h
theorem D6 {v:Value}{x y:Sb} (hx:uE x v) (hy:uE y v):x=y:=by
 cases x with
 | inl z =>
  obtain⟨t,rfl⟩:=jA hx
  cases y with
  | inl z'=>obtain⟨t',e⟩:=jA hy;cases e;rfl
  | inr b=>cases(show Value.str z t=.bool b from hy)
 | inr b =>
  have hx:v=.bool b:=hx
  subst hx
  cases y with
  | inl z'=>obtain⟨t',e⟩:=jA hy;cases e
  | inr b'=>cases(show Value.bool b=.bool b' from hy);rfl
theorem Gr {x y:Sb}{u v:Value} (hx:uE x u) (hy:uE y v):SeqAt.EqAt A s u v (decide (x=y)):=by
 cases x with
 | inl z =>
  obtain⟨t,rfl⟩:=jA hx
  cases y with
  | inl z' =>
   obtain⟨t',rfl⟩:=jA hy
   rw[show decide ((Sum.inl z:Sb)=.inl z')=(z == z') by rw[Bool.eq_iff_iff,decide_eq_true_iff,beq_iff_eq];exact⟨fun e=>by cases e;rfl,fun e=>by rw[e]⟩]
   exact SeqAt.EqAt.str_str _ _ _ _
  | inr b =>
   have hy:v=.bool b:=hy
   subst hy
   rw[decide_eq_false (by simp)]
   exact SeqAt.EqAt.str_bool _ _ _
 | inr b =>
  have hx:u=.bool b:=hx
  subst hx
  cases y with
  | inl z' =>
   obtain⟨t',rfl⟩:=jA hy
   rw[decide_eq_false (by simp)]
   exact SeqAt.EqAt.bool_str _ _ _
  | inr b' =>
   have hy:v=.bool b':=hy
   subst hy
   rw[show decide ((Sum.inr b:Sb)=.inr b')=(b == b') by rw[Bool.eq_iff_iff,decide_eq_true_iff,beq_iff_eq];exact⟨fun e=>by cases e;rfl,fun e=>by rw[e]⟩]
   exact SeqAt.EqAt.bool_bool _ _
theorem uF {x:Sb}{v:Value} (h:uE x v):carriedByValue v=true:=by
 cases x with
 | inl z=>obtain⟨t,rfl⟩:=jA h;rfl
 | inr b=>rw[show v=.bool b from h];rfl
end
def D7 (w:World):Sb→Int
 | .inl z=>Di w (.inr z)
 | .inr b=>if b then 1 else 0
def AR (prog:Program) (w:World):n8 prog w Sb where
 is:=fun _ k v=>uE k v
 hash:=D7 w
 draws:=fun _=>1
 g6:=0
 inj:=fun hx hy=>D6 hx hy
 keeps:=fun h _ _ _=>h
 pyHash:=fun {A E s k v Q} hu h q=>by
  cases k with
  | inl z=>exact(fJ prog w).pyHash (k:=.inr z) h q
  | inr b =>
   have h:v=.bool b:=h
   subst h
   exact yc hu q
 eq:=fun _ hx hy=>Gr hx hy
 quiet:=fun {A E s k v Q n} _ h q=>by rw[eqIsQuiet_byValue n (uF h)];exact wpAny_pure q
def Nc:Sb→V
 | .inl z=>.str z
 | .inr b=>.bl b
def D8 (P:Program) (w:World) (F:W.Frag):zM F (AR P w) where
 on:=fun _ k v=>v=Nc k
 ok:=fun {X pins σ H s k v u} _ _ r e=>by
  subst e
  cases k with
  | inl z=>exact Gn (P:=P) (w:=w) (k:=.inr z) r
  | inr b=>exact r
 keep:=fun _ e=>e
theorem ef (P:Program) (w:World):(AR P w).g6+1≤8:=by show 1≤8;decide
theorem Gs {A:Around}{P:Program}{w:World} (h:A.units+64 < cLine):A.units+((AR P w).g6+1) < cLine:=by show A.units+1 < cLine;omega
section
variable {prog:Program}{w:World}{K:Type} [DecidableEq K] {knd:HeapKind prog w K}{A:Around}{E:Value→Shared→Prop}{s:Shared}
theorem AS {nm:String}{a b:Addr}{k:K}{v:Value}{Q:Bool→Shared→Prop} (hu:knd.room A) (ha:(a == sysModules)=false) (d:s.heap.DictOfH knd a [(k,b,v)]) (h:Q true s):wpAny (model prog w) A (Builtin.Dict.samePairs nm a a) Q E s:=by
 obtain⟨o,es,ep,ho,_,hd,he,hi,hn⟩:=d
 have hsz:es.size=1:=size_of_entries he
 have h0:es[0]? = some (entryOfKey knd (k,b,v)):=by rw[entry_at he];rfl
 unfold Builtin.Dict.samePairs Builtin.Dict.showsAll
 rw[if_neg (show ¬(a == sysModules)=true by rw[ha];exact Bool.false_ne_true)]
 refine wpAny_bind (wpAny_pure (wpAny_bind (wpAny_pure ?_)))
 refine wpAny_bind (wpAny_dictEntries ho hd ?_)
 dsimp only
 refine wpAny_bind (wpAny_dictEntries ho hd ?_)
 rw[if_neg (by simp)]
 refine wpAny_bind (wpAny_dictEpoch ho hd ?_)
 refine wpAny_bind ?_
 rw[Std.Legacy.Range.forIn_eq_forIn_range']
 simp only[Std.Legacy.Range.size,Nat.sub_zero,Nat.add_sub_cancel,Nat.div_one,hsz]
 refine wpAny_forIn_list _ (fun rest q s'=>s'=s∧q=(none,())∧(rest=[0]∨rest=[])) _ ?_ ?_ _ _ ⟨rfl,rfl,.inl rfl⟩
 ·rintro x rest q s' ⟨rfl,rfl,hr | hr⟩
  ·cases hr
   refine wpAny_bind (wpAny_dictEntries ho hd ?_)
   rw[h0]
   refine wpAny_bind (wpAny_holding (wpAny_bind ?_))
   refine wpAny_dictFind_heap hu (hi _ (List.mem_singleton.mpr rfl)) ho hd he hi hn (fun q=>absurd rfl (q 0 (b,v))) fun j p hj=>?_
   have j0:j=0:=by
    cases j with
    | zero=>rfl
    | succ j=>cases hj
   subst j0
   refine wpAny_bind (wpAny_dictEntries ho hd ?_)
   rw[h0]
   refine wpAny_holding (SeqAt.EqAt.same (A:=A) (s:=s') _ prog w _ _ ?_)
   show wpAny _ _ (if (!true)=true then _ else _) _ _ _
   rw[if_neg (by decide)]
   refine wpAny_bind (wpAny_dictEpoch ho hd ?_)
   rw[if_neg (by simp)]
   exact wpAny_pure ⟨rfl,rfl,.inr rfl⟩
  ·cases hr
 ·rintro q s' ⟨rfl,rfl,_⟩
  exact wpAny_pure h
theorem D9 {a b:Addr}{k:K}{v:Value}{Q:Value→Shared→Prop} (hr:knd.room A.in1) (hu:A.units < cLine) (ha:(a == sysModules)=false) (d:s.heap.DictOfH knd a [(k,b,v)]) (h:Q (.bool true) s):wpAny (model prog w) A (compareOp .Eq (.ref a) (.ref a)) Q E s:=by
 refine wpAny_richCompare_same_room (op:=.Eq) d.typeIs d.typeIs PySem.F.slot_dict_eq (wpAny_call_entry PySem.F.slot_dict_eq d.typeIs PySem.F.entry_dict_eq ?_ (PySem.F.args_dict_eq_2 _ _)) hu
 show wpAny _ _ (Builtin.Dict.dictSlotArgs "__eq__" ⟨[.ref a,.ref a],[]⟩ >>= _) _ _ s
 refine wpAny_bind ?_
 unfold Builtin.Dict.dictSlotArgs
 refine wpAny_bind (wpAny_notOrdered_dict d.typeIs ?_)
 show wpAny _ _ (pure (Value.ref a,Value.ref a)) _ _ s
 refine wpAny_pure ?_
 refine wpAny_bind (wpAny_isInstance (T := "dict") d.typeIs PySem.F.sub_dict_dict ?_)
 simp only[Bool.not_true,Bool.false_eq_true,if_false]
 refine wpAny_bind (wpAny_pure (wpAny_bind (wpAny_pure ?_)))
 refine wpAny_bind (AS hr ha d ?_)
 exact wpAny_pure ⟨_,rfl,(fun x=>nomatch x),h⟩
end
section
variable {X:Cx}{P:Program}{w:World}{K:Type} [DecidableEq K] {F:W.Frag}{Z:n8 P w K}
def Df (Y:zM F Z) (hl:Z.g6+1≤8):R2:=fun x y H Q=>∃ a k b v,x=.ref a∧y=.ref a∧Nd Y hl H a [(k,b,v)]∧Q (.bl true) H
theorem Cz (Y:zM F Z) (hl:Z.g6+1≤8) (hP:X.prog=P) (hw:X.w=w) (hF:X.K=F) (hu:X.A.units+1+(Z.g6+1) < cLine):g8 X (compareOp .Eq) (Df Y hl):=by
 subst hP hw
 intro pins s σ H x y v u Q I rx ry h
 obtain⟨a,k,b,e,rfl,rfl,d,q⟩:=h
 cases rx;cases ry
 obtain⟨z,hd,xs,r,dd⟩:=d.of hF I
 cases r with
 | @cons p q1 ps qs hr ht =>
  cases ht
  obtain⟨k',b',v'⟩:=q1
  exact D9 (knd:=su Z hl) (by show X.A.units+1+(Z.g6+1) < cLine;exact hu) (by omega) hd dd ⟨.bl true,H,I,rfl,q⟩
inductive Gu (K:W.Frag) (H:Hp):V→Value→Prop where
 | of {x:V}{t:Value} (h:fX K H x t):Gu K H x t
 | dn {P:Program}{w:World}{L:Type} [DecidableEq L] {Z:n8 P w L}{hl:Z.g6+1≤8}{a:Addr}{kvs:List (N3 L)} (h:H a=some (dN Z hl a kvs)):Gu K H (.ref a) (.type "dict")
def Jt (K:W.Frag):List V→Hp→VK→Prop:=fun xs H Q=>∃ x n t b,xs=[x,.ty n]∧Gu K H x t∧W.kitOne K t (.type n)=some b∧Q (.bl b) H
theorem jS (K:W.Frag) (h:X.K=K):eH X (.builtin "isinstance") (Jt K):=by
 subst h
 intro pins s σ H xs vs Q I rx q
 obtain⟨x,n,t,b,rfl,ty,e,q⟩:=q
 cases ty with
 | of ty=>exact gy X.K rfl pins s σ H _ vs Q I rx ⟨x,_,t,b,rfl,ty,.inl ⟨n,rfl,e⟩,q⟩
 | @dn P w L _ Z hl a kvs ha =>
  obtain⟨⟨_,_,_,_,o,es,ep,h1,h2,_⟩,_⟩:=(show bG X.prog X.w H s.heap a (dN Z hl a kvs) from I.hok a _ ha)
  cases rx with
  | cons r1 r2 =>
  cases r2 with
  | cons r2 r3 =>
  cases r1;cases r2;cases r3
  exact W.kia_one W.kitx_dict I.iJ ⟨o,h1,h2.1⟩ e (fun z=>nomatch z) fun tk=>⟨.bl b,H,I.tok _,rfl,q⟩
end
theorem kit_tuple {K:W.Frag}{C:Addr}{b:Bool} (m:W.mroIn K C (.type "tuple")=some b):W.kitOne K (.ref C) (.type "tuple")=some b:=by
 unfold W.kitOne
 rw[if_neg (by simp)]
 unfold W.kitCls
 dsimp only
 rw[if_pos (by decide +kernel)]
 exact m
theorem AU {K:W.Frag}{C:Addr}{b:Bool} (m:W.mroIn K C (.type "list")=some b):W.kitOne K (.ref C) (.type "list")=some b:=by
 unfold W.kitOne
 rw[if_neg (by simp)]
 unfold W.kitCls
 dsimp only
 rw[if_pos (by decide +kernel)]
 exact m
end L2
set_option maxHeartbeats 4000000
namespace L2
open PySem PySem.Spec PyProof.Rows
theorem Nf {x:Str}:[x].Nodup:=.cons (fun y hy=>nomatch hy) .nil
section
variable {X:Cx}
theorem xw (i:Nat) {x:Str}{pos:Pos} (hN:X.N.Nodup) (hi:X.N[i]? = some x:=by rfl) (hx:Loc X.env.scope x:=by first | exact .inl rfl | exact .inr rfl) (hf:X.fn x=true∨X.env.scope.names.lookup x=some .local:=by first | exact .inl rfl | exact .inr rfl | assumption):PG X (.Name x pos) (mZ i):=BW hN hi hx hf
theorem lD (i:Nat) {x:Str}{e:Expr}{te:TE}{pos pos':Pos} (hN:X.N.Nodup) (he:PE X e te) (hi:X.N[i]? = some x:=by rfl) (hx:Loc X.env.scope x:=by first | exact .inl rfl | exact .inr rfl) (hs:swapsWith e (some (.Name x pos')) pos.line X.env=pure false:=by rfl) (hf:X.fn x=true∨X.env.scope.names.lookup x=some .local:=by first | exact .inl rfl | exact .inr rfl | assumption) :
 PS X (.Assign [.Name x pos'] e pos) (Dq te (mZ i)):=t7 hN hi hx he hs hf
theorem Ju {XN:List Str}{ES:Scope}{N:List Str}{nv:Nat}{js:List Nat}{scope:Scope} (kind:scope.kind=.function:=by rfl) (cell:∀ y∈scope.names,y.2≠.cell:=by decide +kernel) (loc:∀ y∈scope.names,y.2=.local→scope.names.lookup y.1=some .local:=by decide +kernel)
 (free:∀ y∈scope.names,y.2=.free→(ES.names.lookup y.1=some .cell∨ES.names.lookup y.1=some .free):=by decide +kernel) (nd:N.Nodup:=by decide +kernel) (len:N.length=nv+js.length:=by rfl) (pl:js.map (fun j=>XN[j]?)=(N.drop nv).map some:=by rfl)
 (fr:∀ x∈N.drop nv,scope.names.lookup x=some .free:=by decide +kernel):cI XN ES N nv js scope:=⟨kind,cell,loc,free,nd,len,pl,fr⟩
theorem lQ {id:String}{r:List V→Hp→VK→Prop}{x:Str}{e:Expr}{es:List Expr}{t:TA}{p pos:Pos} (hc:eH X (.builtin id) r) (hm:X.mg x=none) (ha:PA X (e :: es) t) (hg:Gl X x:=by rfl) (hv:bootBuiltins x=some (.builtin id):=by decide +kernel) (hn:x ≠ "__name__" := by decide) (hdb:(x == ("__debug__" : Str))=false:=by decide)
 (he:starEach (e :: es) X.env=(false,eval e X.env) :: starEach es X.env:=by rfl) (hpl:(backTo pos (starEach es X.env)).any (·.1)=false:=by rfl):PE X (.Call (.Name x p) (e :: es) [] pos) (HX r t):=Aj hc hg hm hv ha hn hdb he hpl
theorem Ld {T:String}{r:List V→Hp→VK→Prop}{x:Str}{e:Expr}{es:List Expr}{t:TA}{p pos:Pos} (hc:eH X (.type T) r) (hm:X.mg x=none) (ha:PA X (e :: es) t) (hg:Gl X x:=by rfl) (hv:bootBuiltins x=some (.type T):=by decide +kernel) (hn:x ≠ "__name__" := by decide) (hdb:(x == ("__debug__" : Str))=false:=by decide)
 (he:starEach (e :: es) X.env=(false,eval e X.env) :: starEach es X.env:=by rfl) (hpl:(backTo pos (starEach es X.env)).any (·.1)=false:=by rfl):PE X (.Call (.Name x p) (e :: es) [] pos) (HX r t):=xR hc hg hm hv ha hn hdb he hpl
theorem Gv (n:String) {x:Str}{pos:Pos} (hm:X.mg x=none) (hg:Gl X x:=by rfl) (hv:bootBuiltins x=some (.type n):=by decide +kernel) (hn:x ≠ "__name__" := by decide) (hd:(x == ("__debug__" : Str))=false:=by decide):PE X (.Name x pos) (tC (.ty n)):=DP n hg hm hv hn hd
theorem rH {k kk:Nat}{f:Addr}{fd:FuncData}{ps:List Str}{sp:Sp}{x:Str}{e:Expr}{es:List Expr}{t:TA}{p pos:Pos} (F:bg X.prog X.w X.K X.mg X.base gS k f fd ps sp) (hr:cM kk X.A) (hm:X.mg x=some (.ref f)) (hk:W.keepIn X.K (.ref f)=true) (hb:Binds X.K fd ps []) (ha:PA X (e :: es) t) (hkk:k≤kk:=by decide) (hg:Gl X x:=by rfl)
 (hdb:(x == ("__debug__" : Str))=false:=by decide) (he:starEach (e :: es) X.env=(false,eval e X.env) :: starEach es X.env:=by rfl) (hpl:(backTo pos (starEach es X.env)).any (·.1)=false:=by rfl):PE X (.Call (.Name x p) (e :: es) [] pos) (wZ sp [] E0 t):=pX F (hr.mono hkk) hg hm hk hb .nil C3 ha hdb he hpl
theorem BI (K:W.Frag) {a b:Expr}{ta tb:TE}{pos:Pos} (ha:PE X a ta) (hb:PE X b tb) (hs:p5 b:=by exact fun _ _=>rfl) (h:X.K=K:=by rfl):PE X (.Subscript a b pos) (BE (DE K) ta tb):=Al (Cn K h) ha hb hs
theorem rJ (K:W.Frag) {a b:Expr}{ta tb:TE}{pos:Pos} (ha:PE X a ta) (hb:PE X b tb) (hs:p5 b:=by exact fun _ _=>rfl) (h:X.K=K:=by rfl):PE X (.Subscript a b pos) (BE (DC K) ta tb):=Al (As K h) ha hb hs
theorem yd {op:CmpOp}{r:R2}{a b:Expr}{ta tb:TE}{pos:Pos} (ho:g8 X (compareOp op) r) (ha:PE X a ta) (hb:PE X b tb) (h:op≠.In:=by decide) (h2:op≠.NotIn:=by decide):PT X (.Compare a [op] [b] pos) (C0 (BE r ta tb)):=wY ho ha hb (Aa b h h2)
theorem AV {op:CmpOp}{r:R2}{a b:Expr}{ta tb:TE}{pos:Pos} (ho:g8 X (compareOp op) r) (ha:PE X a ta) (hb:PE X b tb) (h:op≠.In:=by decide) (h2:op≠.NotIn:=by decide):PE X (.Compare a [op] [b] pos) (BE r ta tb):=B4 ho ha hb (Aa b h h2)
end
abbrev FO (n q:Str) (s:Stmt) (d oc:Value) (od:Option Addr) (kV dc pm:Value) (an:Option Addr) (cd ct:Value) (sl:Array (Option Value)):Option Obj:=some ⟨oc,od,.func (W.fnOf n q (bI s) (bf s) (aq s) d kV dc pm an cd ct),sl⟩
abbrev FN (n q:Str) (s:Stmt) (d kV dc pm:Value) (an:Option Addr) (cd ct:Value):FuncData:=W.fnOf n q (bI s) (bf s) (aq s) d kV dc pm an cd ct
abbrev RF (a:Addr):Option (Option Value):=some (some (.ref a))
theorem g9.sC {K:W.Frag}{x qual:Str}{st:Stmt}{f:Addr}{fd:FuncData}{ps:List Str} (F:g9 K x qual st f fd) (hp:ps.length=1:=by rfl)
  (h:∀(kV doc pm:Value) (an:Option Addr) (cdv ct a0:Value),bindArgs (W.fnOf x qual (bI st) (bf st) (aq st) .none kV doc pm an cdv ct) ⟨[a0],[]⟩=pure (ps.zip [a0]):=by intros;rfl):Binds K fd ps [] :=
 F.binds fun kV doc pm an cdv ct us hl=>by
  rw[hp] at hl
  match us,hl with
  | [a0],_=>exact h kV doc pm an cdv ct a0
theorem g9.ye {K:W.Frag}{x qual:Str}{st:Stmt}{f:Addr}{fd:FuncData}{ps:List Str} (F:g9 K x qual st f fd) (hp:ps.length=2:=by rfl)
  (h:∀(kV doc pm:Value) (an:Option Addr) (cdv ct a0 a1:Value),bindArgs (W.fnOf x qual (bI st) (bf st) (aq st) .none kV doc pm an cdv ct) ⟨[a0,a1],[]⟩=pure (ps.zip [a0,a1]):=by intros;rfl):Binds K fd ps [] :=
 F.binds fun kV doc pm an cdv ct us hl=>by
  rw[hp] at hl
  match us,hl with
  | [a0,a1],_=>exact h kV doc pm an cdv ct a0 a1
theorem g9.CA {K:W.Frag}{x qual:Str}{st:Stmt}{f:Addr}{fd:FuncData}{ps:List Str} (F:g9 K x qual st f fd) (hp:ps.length=3:=by rfl)
  (h:∀(kV doc pm:Value) (an:Option Addr) (cdv ct a0 a1 a2:Value),bindArgs (W.fnOf x qual (bI st) (bf st) (aq st) .none kV doc pm an cdv ct) ⟨[a0,a1,a2],[]⟩=pure (ps.zip [a0,a1,a2]):=by intros;rfl):Binds K fd ps [] :=
 F.binds fun kV doc pm an cdv ct us hl=>by
  rw[hp] at hl
  match us,hl with
  | [a0,a1,a2],_=>exact h kV doc pm an cdv ct a0 a1 a2
theorem g9.Jv {K:W.Frag}{x qual:Str}{st:Stmt}{f:Addr}{fd:FuncData}{ps:List Str} (F:g9 K x qual st f fd) (hp:ps.length=4:=by rfl)
  (h:∀(kV doc pm:Value) (an:Option Addr) (cdv ct a0 a1 a2 a3:Value),bindArgs (W.fnOf x qual (bI st) (bf st) (aq st) .none kV doc pm an cdv ct) ⟨[a0,a1,a2,a3],[]⟩=pure (ps.zip [a0,a1,a2,a3]):=by intros;rfl):Binds K fd ps [] :=
 F.binds fun kV doc pm an cdv ct us hl=>by
  rw[hp] at hl
  match us,hl with
  | [a0,a1,a2,a3],_=>exact h kV doc pm an cdv ct a0 a1 a2 a3
end L2
namespace My
open PySem L2
def top (i:Nat):Stmt:=PySem.Challenge.pw_dialecthall_k16_nothing_told.main.body.getD i (.Pass ⟨0,0,0,0⟩)
abbrev bC:Stmt:=top 15
abbrev aV:Stmt:=top 17
abbrev aN:Stmt:=inClass (top 18) 0
abbrev bw:Stmt:=inClass (top 13) 0
abbrev cj:Stmt:=inClass (top 12) 0
abbrev bM:Stmt:=inClass (top 11) 0
abbrev cu:Stmt:=inClass (top 10) 0
abbrev cB:Stmt:=inClass (top 18) 1
abbrev dF:Stmt:=top 19
abbrev cC:Stmt:=top 21
abbrev dG:Stmt:=top 22
abbrev cR:Stmt:=top 23
abbrev ez:Stmt:=top 24
abbrev dH:Stmt:=top 25
abbrev eB:Stmt:=top 26
abbrev cJ:Stmt:=top 27
abbrev dI:Stmt:=top 28
abbrev dJ:Stmt:=top 29
abbrev bD:Stmt:=top 30
abbrev lE:Stmt:=top 31
theorem av {H:Hp}{l:Addr}{o:HO} (h:H l=none):aT H (upd H l o):=fun b u e=>by rw[aH (aO e h)];exact e
theorem gj {H H2:Hp}{l:Addr}{o:HO} (h:H l=none) (s:aT H H2):aT H (upd H2 l o):=fun b u e=>by rw[aH (aO e h)];exact s b u e
theorem Ea {i:Nat}{x:V}{σ:St}{H:Hp}{A B:St→Hp→Prop} (h:A (σ.set i (some x)) H):mZ i x σ H (fun τ2 H2=>DM τ2 H2 fun b H3=>if b=true then A τ2 H3 else B τ2 H3):=by
 show(if true=true then A (σ.set i (some x)) H else B (σ.set i (some x)) H)
 exact lP h
theorem nt {A B:Prop}{b:Bool} (hb:b=true) (h:B):if (!b)=true then A else B:=by rw[hb];exact uv h
theorem uG {α:Type}{xs:List α}{i:Int} (h0:0≤i) (h:i < xs.length):∃ c,C2 xs i=some c∧c∈xs:=by
 obtain⟨j,rfl⟩:∃ j:Nat,i=j:=⟨i.toNat,by omega⟩
 have hj:j < xs.length:=by omega
 exact⟨xs[j],Ce (by simp[hj]),List.getElem_mem hj⟩
theorem CB {α:Type} (f:α→V) (cs:List α) (lo hi:Option Int):∃ Le:List α,bY (cs.map f) lo hi=Le.map f∧Le.length≤cs.length:=by
 unfold bY
 refine⟨(cs.drop (HT.dm (cs.map f).length 0 lo)).take (HT.dm (cs.map f).length (cs.map f).length hi - HT.dm (cs.map f).length 0 lo),?_,?_⟩
 ·rw[List.map_take,List.map_drop]
 ·rw[List.length_take,List.length_drop];omega
def Pn (c:Nat):Prop:=32≤c∧c≤126∧c≠37
instance (c:Nat):Decidable (Pn c):=by unfold Pn;exact inferInstance
structure Sg (z:Str):Prop where
 nd:z.cps.toList.Nodup
 pr:∀ c∈z.cps.toList,Pn c
def Mn (z:Str):Prop:=0 < z.length∧z.length≤100∧∀ c∈z.cps.toList,Pn c
instance (z:Str):Decidable (Mn z):=by unfold Mn;exact inferInstance
structure Gd (p q f:Str):Prop where
 gp:Sg p
 gq:Sg q
 gf:Sg f
 p1:1≤p.length
 p3:p.length≤3
 q2:q.length≤2
 f2:f.length≤2
def aD (p q f:Str) (b1 b2 b3 b4:Bool):List V:=[.str p,.str q,.str f,.bl b1,.bl b2,.bl b3,.bl b4]
def Jw (p q f:Str) (b1 b2 b3 b4:Bool):List (Str×V):=[("parts",.str p),("quotes",.str q),("frees",.str f),("twin",.bl b1),("wide",.bl b2),("thin",.bl b3),("stray",.bl b4)]
def away (t:Str) (c:Nat):Bool:=!(!(Builtin.Str.occurrences t (sg c) 0 t.length 1).isEmpty)
theorem sD (t:Str) (c:Nat):away t c=true↔c∉t.cps.toList:=by
 unfold away
 have e:(!(Builtin.Str.occurrences t (sg c) 0 t.length 1).isEmpty)=decide (c∈t.cps.toList):=StrLaws.found_one t c
 rw[e]
 simp
theorem Eb {z:Str}{c:Nat} (h:Sg z) (hc:Pn c) (ha:away z c=true):Sg (z++sg c):=by
 have e:(z++sg c).cps.toList=z.cps.toList++[c]:=by
  show(z.cps ++ #[c]).toList=_
  simp
 have hn:=(sD z c).mp ha
 refine⟨?_,?_⟩
 ·rw[e,List.nodup_append]
  refine⟨h.nd,by simp,fun a ha b hb=>?_⟩
  rw[List.mem_singleton.mp hb]
  intro q;exact hn (q ▸ ha)
 ·rw[e]
  intro d hd
  rcases List.mem_append.mp hd with z' | z'
  ·exact h.pr d z'
  ·rw[List.mem_singleton.mp z'];exact hc
theorem Ec:Sg ("":Str):=by
 have e:("":Str).cps.toList=[]:=by decide +kernel
 refine⟨?_,?_⟩
 ·rw[e];exact List.nodup_nil
 ·rw[e];intro c hc;cases hc
theorem CC (a b:Str):(a++b).length=a.length+b.length:=by
 show(a.cps++b.cps).size=_
 rw[Array.size_append];rfl
theorem sE {A B:Prop}{b:Bool} (hb:b=false) (h:A):if (!b)=true then A else B:=by rw[hb];exact lP h
theorem Gw {A B:Prop}{b:Bool} (hb:b=true) (h:A):if b=true then A else B:=by rw[hb];exact lP h
def Jx (c:Nat) (z:Str):Bool:=!(Builtin.Str.occurrences z (sg c) 0 z.length 1).isEmpty
def Lg (a b:Str):Bool:=decide (V.str a=V.str b)
theorem ns {a b:String} (h:Lg (Str.ofString a) (Str.ofString b)=false):¬Lg (Str.ofString a) (Str.ofString b)=true:=by rw[h];decide
theorem nu {b:Bool} (h:¬b=true):b=false:=by cases b <;> simp_all
def c5:List (Str×Str):=[(Str.ofString "row",Str.ofString ""),(Str.ofString "cell",Str.ofString ""),(Str.ofString "plain",Str.ofString ""),(Str.ofString "behind",Str.ofString ""),(Str.ofString "freed",Str.ofString "")]
def c3 (c:Nat):List (Str×Str):=[(Str.ofString "within",sg c),(Str.ofString "doubt",sg c),(Str.ofString "freed",sg c)]
def cont (l:List Nat):List (Str×Str):=c5++l.flatMap c3
theorem CD (c:Nat) (z:Str):Jx c z=decide (c∈z.cps.toList):=StrLaws.found_one z c
theorem Ed {c:Nat}{z:Str} (h:c∉z.cps.toList):¬Jx c z=true:=by rw[CD];simpa using h
theorem Lh {z:Str} (g:Sg z):¬Jx 10 z=true:=Ed fun h=>by have:=(g.pr 10 h).1;omega
theorem la:Str.ofString "a" = sg 97:=by decide +kernel
theorem uH {α:Type}{l:List α}{i:Nat}{c:α} (h:l[i]? = some c):l.take (i+1)=l.take i++[c]:=by
 rw[List.take_succ,h];rfl
theorem yf {t u:TS}{D:Ends}{σ:St}{H:Hp} (N:St→Hp→Prop) (hu:∀ σ' H',N σ' H'→u D σ' H') (ht:(∀ σ' H',N σ' H'→u D σ' H')→t { D with nx:=u D } σ H):E6 t u D σ H:=ht hu
theorem same_self {K:W.Frag}{H:Hp}{xs:List V} (h:xs.all eN=true):∀(j:Nat) x y,xs[j]? = some x→xs[j]? = some y→jd K H 1 x y:=fun j x y ex ey=>by
 rw[ex] at ey;cases ey
 have:=List.all_eq_true.mp h x (List.mem_of_getElem? ex)
 exact .flat this this (rU this)
def Ask (K:W.Frag) (C:Addr) (Ds:List Addr) (f:Nat→Bool):Prop:=∀(j:Nat) (D:Addr),Ds[j]? = some D→W.kitOne K (.ref C) (.ref D)=some (f j)
structure Li (K:W.Frag) (C B:Addr) (Ds:List Addr) (f:Nat→Bool):Prop where
 cl:∃ N bm ini,dZ K C N bm ini∧Az K bm
 xk:Gg K C
 ask:Ask K C Ds f
 ba:W.kitOne K (.ref C) (.ref B)=some true
 ve:W.kitOne K (.ref C) (.type "ValueError")=some true
def K1 (K:W.Frag) (H:Hp) (v:V):Prop:=(∃ z:Str,v=.str z∧z.length≤10000)∨∃ n,fX K H v (.type n)∧n∈["NoneType", "bool", "int", "list", "tuple", "dict"]
theorem yg {K:W.Frag}{H H':Hp}{v:V}{t:Value} (s:aT H H') (h:fX K H v t):fX K H' v t:=by
 cases h with
 | non=>exact .non
 | bl b=>exact .bl b
 | int n=>exact .int n
 | str z=>exact .str z
 | BN z=>exact .BN z
 | lst e=>exact .lst (s _ _ e)
 | rG e=>exact .rG (s _ _ e)
 | tup e=>exact .tup (s _ _ e)
 | dK e=>exact .dK (s _ _ e)
 | dT e=>exact .dT (s _ _ e)
 | ins e a b c d f=>exact .ins (s _ _ e) a b c d f
theorem K1.mono {K:W.Frag}{H H':Hp}{v:V} (s:aT H H') (h:K1 K H v):K1 K H' v:=by
 rcases h with h | ⟨n,h,hn⟩
 ·exact .inl h
 ·exact .inr ⟨n,yg s h,hn⟩
theorem K1.str {K:W.Frag}{H:Hp}{z:Str} (h:z.length≤10000):K1 K H (.str z):=.inl ⟨z,rfl,h⟩
theorem K1.non {K:W.Frag}{H:Hp}:K1 K H .non:=.inr ⟨_,.non,by decide⟩
theorem K1.bl {K:W.Frag}{H:Hp}{b:Bool}:K1 K H (.bl b):=.inr ⟨_,.bl b,by decide⟩
theorem K1.tup {K:W.Frag}{H:Hp}{a:Addr}{xs:List V} (e:H a=some (.tup xs)):K1 K H (.ref a):=.inr ⟨_,.tup e,by decide⟩
theorem Ef {K:W.Frag}{n:String} (h:n∈["NoneType", "bool", "int", "list", "tuple", "dict"]):W.kitOne K (.type n) (.type "str")=some false:=by
 simp only[List.mem_cons,List.not_mem_nil,or_false] at h
 rcases h with rfl | rfl | rfl | rfl | rfl | rfl <;> rfl
theorem AW {K:W.Frag}{n:String} (h:n∈["NoneType", "bool", "int", "list", "tuple", "dict"]):W.kitOne K (.type n) (.type "bool")=some (decide (n = "bool")):=by
 simp only[List.mem_cons,List.not_mem_nil,or_false] at h
 rcases h with rfl | rfl | rfl | rfl | rfl | rfl <;> rfl
theorem CF {K:W.Frag}{n:String} (h:n∈["NoneType", "bool", "int", "list", "tuple", "dict"]):W.kitOne K (.type n) (.type "tuple")=some (decide (n = "tuple")):=by
 simp only[List.mem_cons,List.not_mem_nil,or_false] at h
 rcases h with rfl | rfl | rfl | rfl | rfl | rfl <;> rfl
theorem Eg {K:W.Frag}{H:Hp}{v:V}{n:String} (h:fX K H v (.type n)) (e:n = "tuple"):∃ t ys,v=.ref t∧H t=some (.tup ys):=by
 cases h <;> first | exact⟨_,_,rfl,by assumption⟩ | exact absurd e (by decide)
def CG:V→Bool
 | .bl _=>true
 | _=>false
theorem qg {v:V} (h:CG v=true):∃ b,v=.bl b:=by cases v <;> first | exact⟨_,rfl⟩ | cases h
theorem Eh {K:W.Frag}{H:Hp}{v:V}{n:String} (h:fX K H v (.type n)):CG v=decide (n = "bool"):=by
 cases h <;> first | rfl | (show _=decide _;rfl)
def yh:V→Nat→Nat→Bool
 | .str z,lo,hi=>decide (lo≤z.length∧z.length≤hi∧z.cps.toList.Nodup∧∀ c∈z.cps.toList,Pn c)
 | _,_,_=>false
theorem qh {v:V}{lo hi:Nat} (h:yh v lo hi=true):∃ z,v=.str z∧Sg z∧lo≤z.length∧z.length≤hi:=by
 cases v with
 | str z=>have h:=of_decide_eq_true h;exact⟨z,rfl,⟨h.2.2.1,h.2.2.2⟩,h.1,h.2.1⟩
 | _=>cases h
theorem AX {z:Str}{lo hi:Nat} (g:Sg z) (h1:lo≤z.length) (h2:z.length≤hi):yh (.str z) lo hi=true:=decide_eq_true ⟨h1,h2,g.nd,g.pr⟩
theorem Ei {K:W.Frag}{H:Hp}{v:V}{n:String}{lo hi:Nat} (h:fX K H v (.type n)) (hn:n∈["NoneType", "bool", "int", "list", "tuple", "dict"]):yh v lo hi=false:=by
 cases h with
 | str z=>exact absurd hn (by decide)
 | _=>rfl
def G7 (ys:List V):Prop:=∃ p q f b1 b2 b3 b4,ys=aD p q f b1 b2 b3 b4∧Gd p q f
theorem jT {v1 v2 v3 v4 v5 v6 v7:V} (h:G7 [v1,v2,v3,v4,v5,v6,v7]):yh v1 1 3=true∧yh v2 0 2=true∧yh v3 0 2=true∧CG v4=true∧CG v5=true∧CG v6=true∧CG v7=true:=by
 obtain⟨p,q,f,b1,b2,b3,b4,e,g⟩:=h
 cases e
 exact⟨AX g.gp g.p1 g.p3,AX g.gq (Nat.zero_le _) g.q2,AX g.gf (Nat.zero_le _) g.f2,rfl,rfl,rfl,rfl⟩
theorem xx {c:Nat}:∀{l:List Nat},c∈l→1≤PyProof.Rows.cnt c l
 | n :: r,h=>by
  rw[PyProof.Rows.cnt_cons]
  have nn:∀ l:List Nat,0≤PyProof.Rows.cnt c l:=fun l=>by
   induction l with
   | nil=>exact Int.le_refl _
   | cons m l ih=>rw[PyProof.Rows.cnt_cons];split <;> omega
  have:=nn r
  by_cases e:n=c
  ·rw[if_pos e];omega
  ·rw[if_neg e]
   have:=xx ((List.mem_cons.mp h).resolve_left (Ne.symm e))
   omega
theorem pO:∀{l:List Nat},(∀ c∈l,PyProof.Rows.cnt c l=1)→l.Nodup
 | [],_=>List.nodup_nil
 | n :: r,h=>by
  have hn:n∉r:=fun hm=>by
   have h1:=h n (List.mem_cons_self ..)
   rw[PyProof.Rows.cnt_cons,if_pos rfl] at h1
   have:=xx hm
   omega
  refine List.nodup_cons.mpr ⟨hn,pO fun c hc=>?_⟩
  have h1:=h c (List.mem_cons_of_mem _ hc)
  rw[PyProof.Rows.cnt_cons,if_neg (fun e:n=c=>hn (by rw[e];exact hc))] at h1
  omega
theorem CH {a b:Int}:decide (V.int a=V.int b)=decide (a=b):=by
 by_cases h:a=b
 ·rw[h,decide_eq_true rfl,decide_eq_true rfl]
 ·rw[decide_eq_false h,decide_eq_false fun e=>h (by injection e)]
def qi (z:Str) (c:Nat):Bool:=decide (Pn c) && decide (PyProof.Rows.cnt c z.cps.toList=1)
theorem CI {z:Str}{lo hi:Nat} (h1:lo≤z.length) (h2:z.length≤hi):z.cps.toList.all (qi z)=yh (.str z) lo hi:=by
 show _=decide _
 by_cases h:z.cps.toList.all (qi z)=true
 ·rw[h]
  have h':=List.all_eq_true.mp h
  refine(decide_eq_true ⟨h1,h2,pO fun c hc=>?_,fun c hc=>?_⟩).symm
  ·have:=h' c hc;unfold qi at this;rw[Bool.and_eq_true] at this;exact of_decide_eq_true this.2
  ·have:=h' c hc;unfold qi at this;rw[Bool.and_eq_true] at this;exact of_decide_eq_true this.1
 ·rw[nu h]
  refine(decide_eq_false fun ⟨_,_,nd,pr⟩=>h (List.all_eq_true.mpr fun c hc=>?_)).symm
  unfold qi
  rw[decide_eq_true (pr c hc),decide_eq_true (xj nd hc)];rfl
theorem AY {ys:List V} (h:ys.length=7):∃ v1 v2 v3 v4 v5 v6 v7,ys=[v1,v2,v3,v4,v5,v6,v7]:=by
 match ys,h with
 | [v1,v2,v3,v4,v5,v6,v7],_=>exact⟨_,_,_,_,_,_,_,rfl⟩
theorem gD {ys:List V} (h:G7 ys):ys.length=7:=by obtain⟨p,q,f,b1,b2,b3,b4,e,g⟩:=h;rw[e];rfl
theorem AZ {H:Hp}{x dx C:Addr} (hx:H x=none) (hdx:H dx=none):aT H (upd (upd H dx (.own x)) x (.ins C dx [])):=fun b o e=>by
 rw[aH (aO e hx),aH (aO e hdx)];exact e
theorem yi {p q f:Str}{b1 b2 b3 b4:Bool}{p' q' f':Str}{Ia Ib Ic Ie:Bool} (h:aD p q f b1 b2 b3 b4=aD p' q' f' Ia Ib Ic Ie):p=p'∧q=q'∧f=f'∧b1=Ia∧b2=Ib∧b3=Ic∧b4=Ie:=by
 unfold aD at h
 injection h with h1 h
 injection h with h2 h
 injection h with h3 h
 injection h with h4 h
 injection h with h5 h
 injection h with h6 h
 injection h with h7 h
 injection h1;injection h2;injection h3;injection h4;injection h5;injection h6;injection h7
 exact⟨by assumption,by assumption,by assumption,by assumption,by assumption,by assumption,by assumption⟩
theorem A0 {x:V}{xs:List V}{lo hi:Option Int} (h:x∈bY xs lo hi):x∈xs:=List.mem_of_mem_drop (List.mem_of_mem_take h)
theorem Ej {A:Around}{P:Program}{w:World} (h:A.units+64 < cLine):A.units+1+((AR P w).g6+1) < cLine:=by show A.units+1+1 < cLine;omega
def Jy (v:V):Prop:=eN v=true∨∃ a,v=.ref a
theorem sF {K:W.Frag}{H:Hp}{v:V}{n:Nat} (h:Jy v):jd K H n v v:=by
 rcases h with h | ⟨a,rfl⟩
 ·refine .flat h h ?_
  cases v <;> first | rfl | (simp[BG];done) | cases h
 ·exact .ref
theorem A1 {K:W.Frag}{H:Hp}{v:V} (h:K1 K H v):Jy v:=by
 rcases h with ⟨z,rfl,_⟩ | ⟨n,ty,hn⟩
 ·exact .inl rfl
 ·cases ty <;> first | exact .inl rfl | exact .inr ⟨_,rfl⟩ | simp at hn
theorem Gx {K:W.Frag}{H:Hp}{v:V} (h:eN v=true):∃ ty,Gu K H v ty∧W.kitOne K ty (.type "list")=some false:=by
 cases v with
 | non=>exact⟨_,.of .non,rfl⟩
 | bl b=>exact⟨_,.of (.bl b),rfl⟩
 | int i=>exact⟨_,.of (.int i),rfl⟩
 | str z=>exact⟨_,.of (.str z),rfl⟩
 | _=>cases h
theorem CJ {v:V} (h:eN v=true):Dv v v=true:=by
 cases v <;> first | rfl | cases h
def Wr (P:Program) (w:World) (K:W.Frag) (C:Addr) (H:Hp) (v:V):Prop:=(eN v=true∧K1 K H v)∨(∃ a xs,v=.ref a∧H a=some (.lst xs)∧∀ x∈xs,Jy x)∨(∃ a ys,v=.ref a∧H a=some (.tup ys)∧¬G7 ys∧∀ y∈ys,K1 K H y)∨(∃ a k b c,v=.ref a∧Nd (D8 P w K) (ef P w) H a [(k,b,c)])∨(∃ a dx fs,v=.ref a∧H a=some (.ins C dx fs))
theorem Wr.mono {P:Program}{w:World}{K:W.Frag}{C:Addr}{H H':Hp}{v:V} (s:aT H H') (h:Wr P w K C H v):Wr P w K C H' v:=by
 rcases h with ⟨h1,h2⟩ | ⟨a,xs,e,h1,h2⟩ | ⟨a,ys,e,h1,h2,h3⟩ | ⟨a,k,b,c,e,h⟩ | ⟨a,dx,fs,e,h⟩
 ·exact .inl ⟨h1,h2.mono s⟩
 ·exact .inr (.inl ⟨a,xs,e,s _ _ h1,h2⟩)
 ·exact .inr (.inr (.inl ⟨a,ys,e,s _ _ h1,h2,fun y hy=>(h3 y hy).mono s⟩))
 ·exact .inr (.inr (.inr (.inl ⟨a,k,b,c,e,h.mono s⟩)))
 ·exact .inr (.inr (.inr (.inr ⟨a,dx,fs,e,s _ _ h⟩)))
theorem Wr.bad {P:Program}{w:World}{K:W.Frag}{C:Addr}{H:Hp}{v:V} (h:Wr P w K C H v):∀ t xs,v=.ref t→H t=some (.tup xs)→¬G7 xs:=by
 intro t xs e1 e2
 subst e1
 rcases h with ⟨h1,h2⟩ | ⟨a,xs,e,h1,h2⟩ | ⟨a,ys,e,h1,h2,h3⟩ | ⟨a,k,b,c,e,h⟩ | ⟨a,dx,fs,e,h⟩
 ·cases h1
 ·cases e;rw[h1] at e2;cases e2
 ·cases e;rw[h1] at e2;cases e2;exact h2
 ·cases e;rw[h.ob] at e2;cases e2
 ·cases e;rw[h] at e2;cases e2
theorem gU:aU ["sign", "number"] ["sign"] (aq bC):=⟨rfl,rfl,rfl,by decide +kernel,rfl,by decide +kernel,by decide +kernel⟩
theorem i8:aU ["thing", "least", "most"] ["thing", "least", "most"] (aq aV):=⟨rfl,rfl,rfl,by decide +kernel,rfl,by decide +kernel,by decide +kernel⟩
theorem eO:aU ["self", "parts", "quotes", "frees", "twin", "wide", "thin", "stray", "truth"] ["self", "parts", "quotes", "frees", "twin", "wide", "thin", "stray"] (aq aN):=⟨rfl,rfl,rfl,by decide +kernel,rfl,by decide +kernel,by decide +kernel⟩
theorem lR:aU ["self"] ["self"] (aq cB):=⟨rfl,rfl,rfl,by decide +kernel,rfl,by decide +kernel,by decide +kernel⟩
theorem oh:aU ["told"] ["told"] (aq dF):=⟨rfl,rfl,rfl,by decide +kernel,rfl,by decide +kernel,by decide +kernel⟩
theorem lS:aU ["_law_script", "_law_k"] ["_law_script", "_law_k"] (aq cC):=⟨rfl,rfl,rfl,by decide +kernel,rfl,by decide +kernel,by decide +kernel⟩
theorem gb:aU ["_law_number_here", "_law_salt", "_law_one", "_law_two"] ["_law_number_here", "_law_salt"] (aq dG):=⟨rfl,rfl,rfl,by decide +kernel,rfl,by decide +kernel,by decide +kernel⟩
theorem fG:aU ["_law_cell", "_law_salt", "_law_number_here", "_law_high"] ["_law_cell", "_law_salt"] (aq cR):=⟨rfl,rfl,rfl,by decide +kernel,rfl,by decide +kernel,by decide +kernel⟩
theorem cK:aU ["_law_number_here", "_law_many", "_law_menu", "_law_found", "_law_k", "_law_sign"] ["_law_number_here", "_law_many", "_law_menu"] (aq ez):=⟨rfl,rfl,rfl,by decide +kernel,rfl,by decide +kernel,by decide +kernel⟩
theorem je:aU ["_law_way", "_law_every"] ["_law_way"] (aq dH):=⟨rfl,rfl,rfl,by decide +kernel,rfl,by decide +kernel,by decide +kernel⟩
theorem aP:aU ["_law_cell", "_law_number_here", "_law_flags_here", "_law_sizes", "_law_menus_here", "_law_parts", "_law_quotes", "_law_frees", "_law_truths"] ["_law_cell"] (aq eB):=⟨rfl,rfl,rfl,by decide +kernel,rfl,by decide +kernel,by decide +kernel⟩
theorem bX:aU ["_law_cell", "_law_many", "_law_number_here", "_law_found", "_law_k"] ["_law_cell", "_law_many"] (aq cJ):=⟨rfl,rfl,rfl,by decide +kernel,rfl,by decide +kernel,by decide +kernel⟩
theorem gc:aU ["_law_e", "_law_flags_here"] ["_law_e"] (aq dI):=⟨rfl,rfl,rfl,by decide +kernel,rfl,by decide +kernel,by decide +kernel⟩
theorem gg:aU ["_law_told_here", "_law_xs", "_law_cell", "_law_some_here"] ["_law_told_here", "_law_xs", "_law_cell"] (aq dJ):=⟨rfl,rfl,rfl,by decide +kernel,rfl,by decide +kernel,by decide +kernel⟩
theorem cS:aU ["_law_thing", "_law_kept", "_law_e"] ["_law_thing"] (aq bD):=⟨rfl,rfl,rfl,by decide +kernel,rfl,by decide +kernel,by decide +kernel⟩
theorem kN:aU ["_law_script", "_law_cell", "_law_told_here", "_law_xs", "_law_x", "_law_found"] ["_law_script"] (aq lE):=⟨rfl,rfl,rfl,by decide +kernel,rfl,by decide +kernel,by decide +kernel⟩
structure Txt (K:W.Frag) (mg:Str→Option Value) (au:Nat→Addr) (bU:Nat→FuncData) (Jz:Nat→Str):Prop where
 iy:g9 K "is_printable" "is_printable" bC (au 0) (bU 0)
 ny:Binds K (bU 0) ["sign"] []
 nA:mg "is_printable" = some (.ref (au 0))
 bN:g9 K "are_unlike_signs" "are_unlike_signs" aV (au 1) (bU 1)
 cY:Binds K (bU 1) ["thing", "least", "most"] []
 cZ:mg "are_unlike_signs" = some (.ref (au 1))
 jB:Cp K "__init__" "Dialect.__init__" aN (au 2) (bU 2) (.ref (au 45))
 jC:Binds K (bU 2) ["self", "parts", "quotes", "frees", "twin", "wide", "thin", "stray"] []
 sH:g9 K "__init__" "NoWriting.__init__" bw (au 3) (bU 3)
 sI:Binds K (bU 3) ["self", "row", "cell"] []
 xy:g9 K "__init__" "Broken.__init__" cj (au 4) (bU 4)
 xA:Binds K (bU 4) ["self", "row", "place", "word"] []
 uI:g9 K "__init__" "TooMany.__init__" bM (au 5) (bU 5)
 uJ:Binds K (bU 5) ["self", "most"] []
 xB:g9 K "__init__" "NoName.__init__" cu (au 6) (bU 6)
 xC:Binds K (bU 6) ["self", "name"] []
 nB:g9 K "told" "Dialect.told" cB (au 7) (bU 7)
 nC:Binds K (bU 7) ["self"] []
 nD:Meth K (au 20) "told" (au 7)
 eY:g9 K "dialect_of" "dialect_of" dF (au 8) (bU 8)
 gE:Binds K (bU 8) ["told"] []
 gF:mg "dialect_of" = some (.ref (au 8))
 iz:g9 K "_law_cell_at" "_law_cell_at" cC (au 9) (bU 9)
 nE:Binds K (bU 9) ["_law_script", "_law_k"] []
 nF:mg "_law_cell_at" = some (.ref (au 9))
 dM:g9 K "_law_mixed" "_law_mixed" dG (au 10) (bU 10)
 eZ:Binds K (bU 10) ["_law_number_here", "_law_salt"] []
 e7:mg "_law_mixed" = some (.ref (au 10))
 jf:g9 K "_law_number" "_law_number" cR (au 11) (bU 11)
 oi:Binds K (bU 11) ["_law_cell", "_law_salt"] []
 oj:mg "_law_number" = some (.ref (au 11))
 fL:g9 K "_law_some" "_law_some" ez (au 12) (bU 12)
 iA:Binds K (bU 12) ["_law_number_here", "_law_many", "_law_menu"] []
 iB:mg "_law_some" = some (.ref (au 12))
 jU:g9 K "_law_menus" "_law_menus" dH (au 13) (bU 13)
 qj:Binds K (bU 13) ["_law_way"] []
 qk:mg "_law_menus" = some (.ref (au 13))
 lF:g9 K "_law_told" "_law_told" eB (au 14) (bU 14)
 sJ:Binds K (bU 14) ["_law_cell"] []
 sL:mg "_law_told" = some (.ref (au 14))
 jV:g9 K "_law_drawn" "_law_drawn" cJ (au 15) (bU 15)
 ql:Binds K (bU 15) ["_law_cell", "_law_many"] []
 qm:mg "_law_drawn" = some (.ref (au 15))
 jW:g9 K "_law_flags" "_law_flags" dI (au 16) (bU 16)
 qo:Binds K (bU 16) ["_law_e"] []
 qp:mg "_law_flags" = some (.ref (au 16))
 jX:g9 K "_law_wrong" "_law_wrong" dJ (au 17) (bU 17)
 qq:Binds K (bU 17) ["_law_told_here", "_law_xs", "_law_cell"] []
 qt:mg "_law_wrong" = some (.ref (au 17))
 iC:g9 K "_law_refused" "_law_refused" bD (au 18) (bU 18)
 nG:Binds K (bU 18) ["_law_thing"] []
 nH:mg "_law_refused" = some (.ref (au 18))
 Gy:g9 K "law" "law" lE (au 19) (bU 19)
 Lj:Binds K (bU 19) ["_law_script"] []
 Lk:mg "law" = some (.ref (au 19))
 aM:BF K (au 20)
 yj:mg "Dialect" = some (.ref (au 20))
 yk:Mk K (au 20) (au 2)
 bV:d9 K (au 20) "parts"
 cL:d9 K (au 20) "quotes"
 cT:d9 K (au 20) "frees"
 dO:d9 K (au 20) "twin"
 dP:d9 K (au 20) "wide"
 dQ:d9 K (au 20) "thin"
 bW:d9 K (au 20) "stray"
 nI:mg "DialectError" = some (.ref (au 21))
 aX:dZ K (au 21) (au 22) d7 none
 zN:MV K (au 21)
 A2:mg "NoText" = some (.ref (au 23))
 Gz:dZ K (au 23) (au 24) (.ref (au 21) :: d7) none
 yl:mg "NoTable" = some (.ref (au 25))
 ET:dZ K (au 25) (au 26) (.ref (au 21) :: d7) none
 dj:mg "NoDialect" = some (.ref (au 27))
 bH:dZ K (au 27) (au 28) (.ref (au 21) :: d7) none
 uK:mg "NoFamily" = some (.ref (au 29))
 Ek:dZ K (au 29) (au 30) (.ref (au 21) :: d7) none
 A3:mg "NoMost" = some (.ref (au 31))
 GA:dZ K (au 31) (au 32) (.ref (au 21) :: d7) none
 CK:mg "NoAsk" = some (.ref (au 33))
 Ig:dZ K (au 33) (au 34) (.ref (au 21) :: d7) none
 CL:mg "NoRow" = some (.ref (au 35))
 Ih:dZ K (au 35) (au 36) (.ref (au 21) :: d7) none
 A4:mg "NoName" = some (.ref (au 37))
 GB:dZ K (au 37) (au 38) (.ref (au 21) :: d7) (some (.ref (au 6)))
 El:W.keepIn K (.ref (au 37))=true
 EU:∃ oI:Obj,K.lookup (au 6)=some oI∧oI.cls=.type "function"
 A5:DZ K (au 37) "name"
 ym:mg "TooMany" = some (.ref (au 39))
 EV:dZ K (au 39) (au 40) (.ref (au 21) :: d7) (some (.ref (au 5)))
 Dg:W.keepIn K (.ref (au 39))=true
 Em:∃ oI:Obj,K.lookup (au 5)=some oI∧oI.cls=.type "function"
 zO:DZ K (au 39) "most"
 A6:mg "Broken" = some (.ref (au 41))
 GC:dZ K (au 41) (au 42) (.ref (au 21) :: d7) (some (.ref (au 4)))
 En:W.keepIn K (.ref (au 41))=true
 EW:∃ oI:Obj,K.lookup (au 4)=some oI∧oI.cls=.type "function"
 BJ:DZ K (au 41) "row"
 zP:DZ K (au 41) "place"
 A7:DZ K (au 41) "word"
 sN:mg "NoWriting" = some (.ref (au 43))
 Dh:dZ K (au 43) (au 44) (.ref (au 21) :: d7) (some (.ref (au 3)))
 BK:W.keepIn K (.ref (au 43))=true
 CM:∃ oI:Obj,K.lookup (au 3)=some oI∧oI.cls=.type "function"
 yo:DZ K (au 43) "row"
 xD:DZ K (au 43) "cell"
 jY:Gg K (au 27)
 BL:W.keepIn K (.ref (au 27))=true
 e8:W.kitOne K (.ref (au 27)) (.type "ValueError")=some true
 br:W.kitOne K (.ref (au 27)) (.ref (au 21))=some true
 cN:W.kitOne K (.ref (au 27)) (.ref (au 23))=some false
 cD:W.kitOne K (.ref (au 27)) (.ref (au 25))=some false
 bO:W.kitOne K (.ref (au 27)) (.ref (au 27))=some true
 bZ:W.kitOne K (.ref (au 27)) (.ref (au 29))=some false
 cO:W.kitOne K (.ref (au 27)) (.ref (au 31))=some false
 dg:W.kitOne K (.ref (au 27)) (.ref (au 33))=some false
 dh:W.kitOne K (.ref (au 27)) (.ref (au 35))=some false
 cP:W.kitOne K (.ref (au 27)) (.ref (au 37))=some false
 cE:W.kitOne K (.ref (au 27)) (.ref (au 39))=some false
 cQ:W.kitOne K (.ref (au 27)) (.ref (au 41))=some false
 bP:W.kitOne K (.ref (au 27)) (.ref (au 43))=some false
 bQ:(W.findIn K (.ref (au 20)) "__class__" = some (some (.builtin "object.__class__")))∧(W.specialIn K (.builtin "object.__class__") "__get__" = some (some (.builtin "getset_descriptor.__get__")))∧(W.takesIn K (.builtin "object.__class__")=some true)∧(W.mroIn K (au 20) (.type "object")=some true)∧W.kitOne K (.ref (au 20)) (.ref (au 20))=some true
 jD:(W.findIn K (.ref (au 20)) "__eq__" = some (some (.builtin "object.__eq__")))∧W.kitOne K (.ref (au 20)) (.type "tuple")=some false∧W.kitOne K (.ref (au 20)) (.type "list")=some false
 om:mg "ValueError" = none
 Eo:mg "all" = none
 CO:mg "bool" = none
 aF:mg "isinstance" = none
 jE:mg "len" = none
 qu:mg "list" = none
 Ep:mg "ord" = none
 jZ:mg "range" = none
 Er:mg "str" = none
 A8:mg "tuple" = none
section
variable {P:Program}{w:World}{K:W.Frag}{mg:Str→Option Value}{base:Heap}{au:Nat→Addr}{bU:Nat→FuncData}{Jz:Nat→Str}
def gW:Sp:=fun vs H Q _=>∃ c:Nat,vs=[.str (sg c)]∧Q (.bl (decide (Pn c))) H
section
variable (T:Txt K mg au bU Jz)
include T
theorem lT:bg P w K mg base gS 1 (au 0) (bU 0) ["sign"] gW:=by
 refine T.iy.ok gU (fun vs H Q E h=>?_) (fun cdv A outer s H vs Q E hr h=>?_)
 ·obtain⟨c,rfl,_⟩:=h;rfl
 ·have hu:=fE hr
  have qf:=hr.cy
  obtain⟨c,rfl,k⟩:=h
  refine⟨_,(ao (lD 1 gU.nd (lQ Ab T.Ep (af (pv 0) ak aj)) (hs:=gB))
   (aE (aZ (mX (AV CZ (pv 1) ah) (mX (AV Fl (pv 1) ah) (tZ (AV wX (pv 1) ah))))))),?_⟩
  refine⟨_,rfl,_,rfl,rfl,?_⟩
  refine⟨_,rfl,_,_,rfl,rfl,_,rfl,kM (fun h1=>?_) (fun h1=>?_)⟩
  ·have h1:(32:Int)≤((c:Nat):Int):=of_decide_eq_true h1
   refine⟨_,rfl,_,_,rfl,rfl,_,rfl,kM (fun h2=>?_) (fun h2=>?_)⟩
   ·have h2:((c:Nat):Int)≤126:=of_decide_eq_true h2
    refine⟨_,rfl,rfl,?_⟩
    have e:(!decide (V.int ((c:Nat):Int)=V.int 37))=decide (Pn c):=by
     by_cases h3:c=37
     ·subst h3;decide
     ·have n1:¬(V.int ((c:Nat):Int)=V.int 37):=fun z=>h3 (by injection z with z;omega)
      rw[decide_eq_false n1,decide_eq_true (show Pn c from ⟨by omega,by omega,h3⟩)];rfl
    show Q (.bl (!decide (V.int ((c:Nat):Int)=V.int 37))) H
    rw[e];exact k
   ·have e:decide (((c:Nat):Int)≤126)=decide (Pn c):=by
     have n1:¬((c:Nat):Int)≤126:=fun z=>h2 (decide_eq_true z)
     rw[decide_eq_false n1,decide_eq_false (fun z:Pn c=>n1 (by have:=z.2.1;omega))]
    rw[←e,show decide (((c:Nat):Int)≤126)=false from Bool.eq_false_iff.mpr h2] at k
    exact k
  ·have e:decide ((32:Int)≤((c:Nat):Int))=decide (Pn c):=by
    have n1:¬(32:Int)≤((c:Nat):Int):=fun z=>h1 (decide_eq_true z)
    rw[decide_eq_false n1,decide_eq_false (fun z:Pn c=>n1 (by have:=z.1;omega))]
   rw[←e,show decide ((32:Int)≤((c:Nat):Int))=false from Bool.eq_false_iff.mpr h1] at k
   exact k
def eS (K:W.Frag):Sp:=fun vs H Q _=>∃(v:V) (lo hi:Nat),vs=[v,.int lo,.int hi]∧K1 K H v∧hi≤100∧∀ H',aT H H'→Q (.bl (yh v lo hi)) H'
theorem i9:bg P w K mg base gS 2 (au 1) (bU 1) ["thing", "least", "most"] (eS K):=by
 have nJ:bg P w K mg base gS 1 (au 0) (bU 0) ["sign"] gW:=lT T
 refine T.bN.ok i8 (fun vs H Q E h=>?_) (fun cdv A outer s H vs Q E hr h=>?_)
 ·obtain⟨v,lo,hi,rfl,_⟩:=h;rfl
 ·have hu:=fE hr
  have qf:=hr.cy
  obtain⟨v,lo,hi,rfl,hk,hh,k⟩:=h
  refine⟨_,(ao (fB (PW.pt (o9 (jv (ia (lQ (gy K rfl) T.aF (af (pv 0) (af (Gv "str" T.Er) ak aj) aj)))) (o9 (yd z8 (lQ eV T.jE (af (pv 0) ak aj)) (pv 1)) (pT (yd Fo (lQ eV T.jE (af (pv 0) ak aj)) (pv 2)))))) (aE (aZ jN)) bA)
   (aE (aZ (lQ (xU K rfl rfl) T.Eo (af (xh rfl (show cI ["thing", "least", "most"] (aq aV) ["sign", "thing"] 1 [0] _ from Ju) (DO (pv 0)) (fun _ _ _ _=>(xw 0 (show(["sign", "thing"]:List Str).Nodup by decide +kernel))) (fun _ _ _ _=>qb) (fun _ _ _ _=>(mX (rH nJ hr T.nA T.iy.kp T.ny (af (pv 0) ak aj)) (tZ (AV ie (uA K rfl PySem.F.plainAttrs_str PySem.F.slot_str_count PySem.F.type_str_count Aw (pv 1) (af (pv 0) ak aj)) ah))))) ak sj))))),?_⟩
  rcases hk with ⟨z,rfl,hz⟩ | ⟨n,ty,hn⟩
  rotate_left
  ·have kk:=k H (aT.refl H)
   rw[Ei ty hn] at kk
   exact⟨_,rfl,_,_,_,false,rfl,ty,.inl ⟨_,rfl,Ef hn⟩,false,rfl,lP kk⟩
  have Ll:z.length≤sizeLine:=Nat.le_trans hz (by decide)
  refine⟨_,rfl,_,_,_,true,rfl,.str _,.inl ⟨_,rfl,rfl⟩,true,rfl,uv ?_⟩
  have bad:¬(lo≤z.length∧z.length≤hi)→Q (.bl false) H:=fun h=>by
   have kk:=k H (aT.refl H)
   rw[show yh (.str z) lo hi=false from decide_eq_false fun q=>h ⟨q.1,q.2.1⟩] at kk
   exact kk
  refine⟨_,rfl,z,rfl,Ll,_,rfl,_,_,rfl,rfl,_,rfl,kM (fun h1=>?_) (fun h1=>?_)⟩
  ·have h1:=of_decide_eq_true h1
   exact bad fun q=>by omega
  have h1:lo≤z.length:=by
   rcases Nat.lt_or_ge z.length lo with q | q
   ·exact absurd (decide_eq_true (show(z.length:Int) < (lo:Int) by omega)) h1
   ·exact q
  refine⟨_,rfl,z,rfl,Ll,_,rfl,_,_,rfl,rfl,_,rfl,kM (fun h2=>?_) (fun h2=>?_)⟩
  ·have h2:=of_decide_eq_true h2
   exact bad fun q=>by omega
  have h2:z.length≤hi:=by
   rcases Nat.lt_or_ge hi z.length with q | q
   ·exact absurd (decide_eq_true (show(hi:Int) < (z.length:Int) by omega)) h2
   ·exact q
  refine⟨_,rfl,z,rfl,fun D hD=>?_⟩
  have hsz:z.cps.toList.length=z.length:=by rw[Array.length_toList];rfl
  refine Ar (fun i ys τ H2=>(∃ v,τ=[v,some (.str z)])∧aT H H2∧H2 D=some (.lst ys)∧ys=((z.cps.toList.take i).map (qi z)).map V.bl) ⟨⟨_,rfl⟩,av hD,ai,rfl⟩ (fun i ys τ H2 _ p=>p.2.2.1) ?_ ?_
  ·rintro i c ys τ H2 hi' ⟨⟨v,rfl⟩,s2,hl,rfl⟩
   have hil:i < z.cps.toList.length:=(List.getElem?_eq_some_iff.mp hi').1
   have hlen:(((z.cps.toList.take i).map (qi z)).map V.bl).length < sizeLine:=by
    rw[List.length_map,List.length_map,List.length_take]
    exact Nat.lt_of_le_of_lt (show min i z.cps.toList.length≤2000 by omega) (by decide)
   have fin:∀ b,b=qi z c→H2 D=some (.lst (((z.cps.toList.take i).map (qi z)).map V.bl))∧(((z.cps.toList.take i).map (qi z)).map V.bl).length < sizeLine∧(∃ v,[some (V.str (sg c)),some (V.str z)]=[v,some (.str z)])∧aT H (upd H2 D (.lst (((z.cps.toList.take i).map (qi z)).map V.bl++[.bl b])))∧(upd H2 D (.lst (((z.cps.toList.take i).map (qi z)).map V.bl++[.bl b]))) D=some (.lst (((z.cps.toList.take i).map (qi z)).map V.bl++[.bl b]))∧((z.cps.toList.take i).map (qi z)).map V.bl++[.bl b]=((z.cps.toList.take (i+1)).map (qi z)).map V.bl:=fun b hb=>by
    refine⟨hl,hlen,⟨_,rfl⟩,gj hD s2,ai,?_⟩
    rw[uH hi',List.map_append,List.map_append,hb];rfl
   refine Ea ?_
   refine⟨_,rfl,c,rfl,_,rfl,kM (fun hp=>?_) (fun hp=>fin false ?_)⟩
   ·refine⟨_,rfl,rfl,_,rfl,z,c,rfl,rfl,rfl,fin _ ?_⟩
    unfold qi
    rw[hp,Bool.true_and]
    by_cases hc:PyProof.Rows.cnt c z.cps.toList=1
    ·rw[decide_eq_true hc,hc];exact decide_eq_true rfl
    ·rw[decide_eq_false hc];exact decide_eq_false fun e=>hc (by injection e)
   ·unfold qi;rw[nu hp,Bool.false_and]
  ·rintro ys τ H2 ⟨⟨v,rfl⟩,s2,hl,rfl⟩
   refine⟨D,(z.cps.toList.take z.cps.toList.length).map (qi z),rfl,dz.of hl,?_⟩
   have e:((z.cps.toList.take z.cps.toList.length).map (qi z)).all id=yh (.str z) lo hi:=by
    rw[List.take_of_length_le (Nat.le_refl _),List.all_map];exact CI h1 h2
   rw[e]
   exact k H2 s2
def eU (K:W.Frag) (C CN:Addr):Sp:=fun vs H Q E=>∃(x dx:Addr) (v1 v2 v3 v4 v5 v6 v7:V),vs=[.ref x,v1,v2,v3,v4,v5,v6,v7]∧H x=some (.ins C dx [])∧(∀ y∈[v1,v2,v3,v4,v5,v6,v7],K1 K H y)∧(∀ p q f b1 b2 b3 b4,[v1,v2,v3,v4,v5,v6,v7]=aD p q f b1 b2 b3 b4→Gd p q f→∀ H',H' x=some (.ins C dx (Jw p q f b1 b2 b3 b4))→(∀ b o,H b=some o→b≠x→H' b=some o)→Q .non H')∧(¬G7 [v1,v2,v3,v4,v5,v6,v7]→∀ H',aT H H'→E (.ref CN) none H')
theorem ja:bg P w K mg base (pM P w) 3 (au 2) (bU 2) ["self", "parts", "quotes", "frees", "twin", "wide", "thin", "stray"] (eU K (au 20) (au 27)):=by
 have di:bg P w K mg base gS 2 (au 1) (bU 1) ["thing", "least", "most"] (eS K):=i9 T
 refine T.jB.Ji eO (fun vs H Q E h=>?_) (fun cdv A outer s H vs Q E hr h=>?_)
 ·obtain⟨x,dx,v1,v2,v3,v4,v5,v6,v7,rfl,_⟩:=h;rfl
 ·have hu:=fE hr
  have qf:=hr.cy
  obtain⟨x,dx,v1,v2,v3,v4,v5,v6,v7,rfl,hx,hk,k,kE⟩:=h
  refine⟨_,(ao (fB (jv (ia (rH di hr T.cZ T.bN.kp T.cY (af (pv 1) (af ah (af ah ak az) az) aj)))) (aE (iw rfl T.bH (.inr ⟨_,_,rfl,T.aX⟩) rfl T.dj (af dw ak az))) bA)
   (ao (fB (jv (ia (rH di hr T.cZ T.bN.kp T.cY (af (pv 2) (af ah (af ah ak az) az) aj)))) (aE (iw rfl T.bH (.inr ⟨_,_,rfl,T.aX⟩) rfl T.dj (af dw ak az))) bA)
   (ao (fB (jv (ia (rH di hr T.cZ T.bN.kp T.cY (af (pv 3) (af ah (af ah ak az) az) aj)))) (aE (iw rfl T.bH (.inr ⟨_,_,rfl,T.aX⟩) rfl T.dj (af dw ak az))) bA)
   (ao (m5 PassesOwn.leaving rfl (Co K rfl (ig (af (pv 4) (af (pv 5) (af (pv 6) (af (pv 7) ak aj) aj) aj) aj))) (xw 8 eO.nd)
   (aE (fB (jv (ia (lQ (gy K rfl) T.aF (af (pv 8) (af (Gv "bool" T.CO) ak aj) aj)))) (aE (iw rfl T.bH (.inr ⟨_,_,rfl,T.aX⟩) rfl T.dj (af dw ak az))) bA)))
   (ao (jw (pv 0) (pv 1) rfl)
   (ao (jw (pv 0) (pv 2) rfl)
   (ao (jw (pv 0) (pv 3) rfl)
   (ao (jw (pv 0) (pv 4) rfl)
   (ao (jw (pv 0) (pv 5) rfl)
   (ao (jw (pv 0) (pv 6) rfl)
   (aE (jw (pv 0) (pv 7) rfl)))))))))))),?_⟩
  refine⟨_,rfl,v1,1,3,rfl,hk _ (by simp),by decide,fun H1 s1=>⟨_,rfl,?_⟩⟩
  by_cases g1:yh v1 1 3=true
  rotate_left
  ·exact sE (nu g1) ⟨by decide,kE (fun q=>g1 (jT q).1) _ s1⟩
  refine nt g1 ?_
  refine⟨_,rfl,v2,0,2,rfl,(hk _ (by simp)).mono s1,by decide,fun H2 s2=>⟨_,rfl,?_⟩⟩
  have s12:=s1.trans s2
  by_cases g2:yh v2 0 2=true
  rotate_left
  ·exact sE (nu g2) ⟨by decide,kE (fun q=>g2 (jT q).2.1) _ s12⟩
  refine nt g2 ?_
  refine⟨_,rfl,v3,0,2,rfl,(hk _ (by simp)).mono s12,by decide,fun H3 s3=>⟨_,rfl,?_⟩⟩
  have Lm:=s12.trans s3
  by_cases g3:yh v3 0 2=true
  rotate_left
  ·exact sE (nu g3) ⟨by decide,kE (fun q=>g3 (jT q).2.2.1) _ Lm⟩
  refine nt g3 ?_
  refine⟨_,rfl,_,rfl,_,rfl,_,rfl,(by show 4≤sizeLine;decide),fun t ht=>⟨t,rfl,⟨_,dB.of ai⟩,?_⟩⟩
  have EX:aT H (upd H3 t (.tup [v4,v5,v6,v7])):=Lm.trans (av ht)
  have Ln:(upd H3 t (.tup [v4,v5,v6,v7])) t=some (.tup [v4,v5,v6,v7]):=ai
  generalize upd H3 t (.tup [v4,v5,v6,v7])=H4 at EX Ln ⊢
  refine BY (K:=K) (a:=t) (xs:=[v4,v5,v6,v7]) (fun i σ H5=>H5=H4∧(∀(j:Nat) y,j < i→[v4,v5,v6,v7][j]? = some y→CG y=true)∧∃ v,σ=[some (.ref x),some v1,some v2,some v3,some v4,some v5,some v6,some v7,v]) ⟨rfl,(fun j y hj=>absurd hj (Nat.not_lt_zero _)),_,rfl⟩ (fun i σ H5 _ q=>by rw[q.1];exact dB.of Ln) ?_ ?_
  ·rintro i y σ H5 hi ⟨rfl,hb,v,rfl⟩
   have JA:y∈[v4,v5,v6,v7]:=List.mem_of_getElem? hi
   have ky:=(hk y (List.mem_cons_of_mem _ (List.mem_cons_of_mem _ (List.mem_cons_of_mem _ JA)))).mono EX
   have hno:CG y=false→¬G7 [v1,v2,v3,v4,v5,v6,v7]:=fun h q=>by
    have q:=(jT q).2.2.2
    simp only[List.mem_cons,List.not_mem_nil,or_false] at JA
    rcases JA with rfl | rfl | rfl | rfl
    ·rw[q.1] at h;cases h
    ·rw[q.2.1] at h;cases h
    ·rw[q.2.2.1] at h;cases h
    ·rw[q.2.2.2] at h;cases h
   rcases ky with ⟨z,rfl,hz⟩ | ⟨n,ty,hn⟩
   ·exact⟨_,rfl,_,_,_,false,rfl,.str _,.inl ⟨_,rfl,rfl⟩,false,rfl,lP ⟨by decide,kE (hno rfl) _ EX⟩⟩
   have eb:=Eh ty
   refine⟨_,rfl,_,_,_,_,rfl,ty,.inl ⟨_,rfl,AW hn⟩,_,rfl,?_⟩
   rw[←eb]
   by_cases hB:CG y=true
   ·refine nt hB ⟨rfl,fun j y' hj hy'=>?_,_,rfl⟩
    rcases Nat.lt_or_ge j i with h | h
    ·exact hb j y' h hy'
    ·obtain rfl:j=i:=by omega
     rw[hi] at hy'
     obtain rfl:=Option.some.inj hy'
     exact hB
   ·exact sE (nu hB) ⟨by decide,kE (hno (nu hB)) _ EX⟩
  ·rintro σ H5 ⟨rfl,hb,v,rfl⟩
   obtain⟨p,rfl,gp,JB,Ng⟩:=qh g1
   obtain⟨q,rfl,gq,_,Nh⟩:=qh g2
   obtain⟨f,rfl,gf,_,Ni⟩:=qh g3
   obtain⟨b1,rfl⟩:=qg (hb 0 v4 (by show 0 < 4;decide) rfl)
   obtain⟨b2,rfl⟩:=qg (hb 1 v5 (by show 1 < 4;decide) rfl)
   obtain⟨b3,rfl⟩:=qg (hb 2 v6 (by show 2 < 4;decide) rfl)
   obtain⟨b4,rfl⟩:=qg (hb 3 v7 (by show 3 < 4;decide) rfl)
   have Nj:=EX _ _ hx
   refine⟨_,rfl,_,rfl,x,(au 20),dx,_,rfl,Nj,T.aM,T.bV,(by show 0 < 1000;decide),_,rfl,_,rfl,x,(au 20),dx,_,rfl,ai,T.aM,T.cL,(by show 1 < 1000;decide),_,rfl,_,rfl,x,(au 20),dx,_,rfl,ai,T.aM,T.cT,(by show 2 < 1000;decide),_,rfl,_,rfl,x,(au 20),dx,_,rfl,ai,T.aM,T.dO,(by show 3 < 1000;decide),_,rfl,_,rfl,x,(au 20),dx,_,rfl,ai,T.aM,T.dP,(by show 4 < 1000;decide),_,rfl,_,rfl,x,(au 20),dx,_,rfl,ai,T.aM,T.dQ,(by show 5 < 1000;decide),_,rfl,_,rfl,x,(au 20),dx,_,rfl,ai,T.aM,T.bW,(by show 6 < 1000;decide),?_⟩
   refine k p q f b1 b2 b3 b4 rfl ⟨gp,gq,gf,JB,Ng,Nh,Ni⟩ _ ai fun b o e hb=>?_
   rw[aH hb,aH hb,aH hb,aH hb,aH hb,aH hb,aH hb]
   exact EX _ _ e
def gX (C:Addr):Sp:=fun vs H Q _=>∃(x dx:Addr) (p q f:Str) (b1 b2 b3 b4:Bool),vs=[.ref x]∧H x=some (.ins C dx (Jw p q f b1 b2 b3 b4))∧∀ t,H t=none→Q (.ref t) (upd H t (.tup (aD p q f b1 b2 b3 b4)))
theorem lU:bg P w K mg base gS 1 (au 7) (bU 7) ["self"] (gX (au 20)):=by
 refine T.nB.ok lR (fun vs H Q E h=>?_) (fun cdv A outer s H vs Q E hr h=>?_)
 ·obtain⟨x,dx,p,q,f,b1,b2,b3,b4,rfl,_⟩:=h;rfl
 ·have hu:=fE hr
  have qf:=hr.cy
  obtain⟨x,dx,p,q,f,b1,b2,b3,b4,rfl,hx,k⟩:=h
  refine⟨_,(aE (aZ (ig (af (eX K rfl (pv 0) rfl) (af (eX K rfl (pv 0) rfl) (af (eX K rfl (pv 0) rfl) (af (eX K rfl (pv 0) rfl) (af (eX K rfl (pv 0) rfl) (af (eX K rfl (pv 0) rfl) (af (eX K rfl (pv 0) rfl) ak bL) bL) bL) bL) bL) bL) bL)))),?_⟩
  refine⟨_,rfl,x,(au 20),dx,_,_,rfl,hx,T.aM,T.bV,rfl,_,rfl,x,(au 20),dx,_,_,rfl,hx,T.aM,T.cL,rfl,_,rfl,x,(au 20),dx,_,_,rfl,hx,T.aM,T.cT,rfl,_,rfl,x,(au 20),dx,_,_,rfl,hx,T.aM,T.dO,rfl,_,rfl,x,(au 20),dx,_,_,rfl,hx,T.aM,T.dP,rfl,_,rfl,x,(au 20),dx,_,_,rfl,hx,T.aM,T.dQ,rfl,_,rfl,x,(au 20),dx,_,_,rfl,hx,T.aM,T.bW,rfl,(by show 7≤sizeLine;decide),fun t ht=>?_⟩
  exact k t ht
def eg (K:W.Frag) (C CN:Addr):Sp:=fun vs H Q E=>∃(v:V),vs=[v]∧((K1 K H v∧(∀ t ys,v=.ref t→H t=some (.tup ys)→∀ y∈ys,K1 K H y))∨(∃ ty,Gu K H v ty∧W.kitOne K ty (.type "tuple")=some false∧∀ t ys,v=.ref t→H t≠some (.tup ys)))∧(∀ t p q f b1 b2 b3 b4,v=.ref t→H t=some (.tup (aD p q f b1 b2 b3 b4))→Gd p q f→∀(x dx:Addr) (H':Hp),H x=none→H' x=some (.ins C dx (Jw p q f b1 b2 b3 b4))→aT H H'→Q (.ref x) H')∧((∀ t xs,v=.ref t→H t=some (.tup xs)→¬G7 xs)→∀ H',aT H H'→E (.ref CN) none H')
theorem gh:bg P w K mg base (pM P w) 5 (au 8) (bU 8) ["told"] (eg K (au 20) (au 27)):=by
 have jF:bg P w K mg base (pM P w) 3 (au 2) (bU 2) ["self", "parts", "quotes", "frees", "twin", "wide", "thin", "stray"] (eU K (au 20) (au 27)):=ja T
 refine T.eY.Ji oh (fun vs H Q E h=>?_) (fun cdv A outer s H vs Q E hr h=>?_)
 ·obtain⟨v,rfl,_⟩:=h;rfl
 ·have hu:=fE hr
  have qf:=hr.cy
  obtain⟨v,rfl,hv,k,kE⟩:=h
  refine⟨_,(ao (fB (PW.pt (o9 (jv (ia (lQ (jS K rfl) T.aF (af (pv 0) (af (Gv "tuple" T.A8) ak aj) aj)))) (pT (yd wX (lQ (fY K rfl) T.jE (af (pv 0) ak aj)) ah)))) (aE (iw rfl T.bH (.inr ⟨_,_,rfl,T.aX⟩) rfl T.dj (af dw ak az))) bA)
   (aE (aZ (B8 (k:=3) T.yk jF (hr.mono (by decide)) rfl T.yj T.jC .nil FT (af (BI K (pv 0) ah) (af (BI K (pv 0) ah) (af (BI K (pv 0) ah) (af (BI K (pv 0) ah) (af (BI K (pv 0) ah) (af (BI K (pv 0) ah) (af (BI K (pv 0) ah) ak ay) ay) ay) ay) ay) ay) ay))))),?_⟩
  rcases hv with ⟨hv,hk⟩ | ⟨ty,hty,hno,hnt⟩
  rotate_left
  ·exact⟨_,rfl,_,_,_,false,rfl,hty,hno,false,rfl,lP ⟨by decide,kE (fun t xs e1 e2=>absurd e2 (hnt t xs e1)) _ (aT.refl H)⟩⟩
  rcases hv with ⟨z,rfl,hz⟩ | ⟨n,ty,hn⟩
  ·exact⟨_,rfl,_,_,_,false,rfl,.of (.str _),rfl,false,rfl,lP ⟨by decide,kE (fun t xs e=>by cases e) _ (aT.refl H)⟩⟩
  refine⟨_,rfl,_,_,_,_,rfl,.of ty,CF hn,_,rfl,?_⟩
  by_cases hT:n = "tuple"
  rotate_left
  ·rw[decide_eq_false hT]
   refine lP ⟨by decide,kE (fun t xs e1 e2=>?_) _ (aT.refl H)⟩
   exfalso
   subst e1
   cases ty with
   | tup e=>exact hT rfl
   | lst e=>rw[e] at e2;cases e2
   | rG e=>rw[e] at e2;cases e2
   | dK e=>rw[e] at e2;cases e2
   | dT e=>rw[e] at e2;cases e2
  obtain⟨t,ys,rfl,ht⟩:=Eg ty hT
  subst hT
  have hS:=dB.of (K:=K) ht
  have hk:=hk t ys rfl ht
  refine nt (decide_eq_true rfl) ?_
  refine⟨_,rfl,t,_,rfl,.inr hS,rfl,_,rfl,?_⟩
  by_cases hl:ys.length=7
  rotate_left
  ·refine sE (decide_eq_false fun e=>hl (by injection e with e;omega)) ⟨by decide,kE (fun t' xs e1 e2=>?_) _ (aT.refl H)⟩
   cases e1;rw[ht] at e2;cases e2;exact fun q=>hl (gD q)
  refine nt (decide_eq_true (by rw[hl];rfl)) ?_
  obtain⟨v1,v2,v3,v4,v5,v6,v7,rfl⟩:=AY hl
  refine⟨_,rfl,t,_,_,_,rfl,rfl,hS,rfl,_,rfl,t,_,_,_,rfl,rfl,hS,rfl,_,rfl,t,_,_,_,rfl,rfl,hS,rfl,_,rfl,t,_,_,_,rfl,rfl,hS,rfl,_,rfl,t,_,_,_,rfl,rfl,hS,rfl,_,rfl,t,_,_,_,rfl,rfl,hS,rfl,_,rfl,t,_,_,_,rfl,rfl,hS,rfl,fun x dx hx hdx ne=>?_⟩
  have sm:=AZ (C:=(au 20)) hx hdx
  refine⟨x,dx,v1,v2,v3,v4,v5,v6,v7,rfl,ai,fun y hy=>(hk y hy).mono sm,fun p q f b1 b2 b3 b4 e g H2 h2 kp=>⟨rfl,k t p q f b1 b2 b3 b4 rfl (by rw[←e];exact ht) g x dx H2 hx h2 fun b o eb=>kp b o (sm _ _ eb) (aO eb hx)⟩,fun hn H2 s2=>kE ?_ _ (sm.trans s2)⟩
  exact fun t' xs e1 e2=>by cases e1;rw[ht] at e2;cases e2;exact hn
def gY (K:W.Frag):Sp:=fun vs H Q _=>∃(a:Addr) (ns:List Int) (i:Int),vs=[.ref a,.int i]∧dz K H a (ns.map V.int)∧0≤i∧∀ r:Int,Q (.int r) H
theorem lV:bg P w K mg base gS 1 (au 9) (bU 9) ["_law_script", "_law_k"] (gY K):=by
 refine T.iz.ok lS (fun vs H Q E h=>?_) (fun cdv A outer s H vs Q E hr h=>?_)
 ·obtain⟨a,ns,i,rfl,_⟩:=h;rfl
 ·have hu:=fE hr
  have qf:=hr.cy
  obtain⟨a,ns,i,rfl,hS,hi,k⟩:=h
  refine⟨_,(ao (fB (yd z8 (pv 1) (lQ (fY K rfl) T.jE (af (pv 0) ak aj))) (aE (aZ (rJ K (pv 0) (pv 1)))) bA)
   (aE (aZ ah))),?_⟩
  refine⟨_,rfl,_,rfl,a,_,rfl,.inl hS,_,_,rfl,rfl,_,rfl,?_⟩
  refine kM (fun hc=>?_) (fun _=>?_)
  ·have hlt:=of_decide_eq_true hc
   obtain⟨v,ev,hv⟩:=uG hi hlt
   obtain⟨r,_,rfl⟩:=List.mem_map.mp hv
   exact⟨_,rfl,_,rfl,a,_,_,_,rfl,rfl,hS,ev,k r⟩
  ·exact k 0
def eo:Sp:=fun vs H Q _=>∃ a b:Int,vs=[.int a,.int b]∧0≤a∧a < 4294967296∧0≤b∧b < 65536∧∀ r:Int,0≤r→r < 49979687→Q (.int r) H
theorem jg:bg P w K mg base gS 1 (au 10) (bU 10) ["_law_number_here", "_law_salt"] eo:=by
 refine T.dM.ok gb (fun vs H Q E h=>?_) (fun cdv A outer s H vs Q E hr h=>?_)
 ·obtain⟨a,b,rfl,_⟩:=h;rfl
 ·have hu:=fE hr
  have qf:=hr.cy
  obtain⟨a,b,rfl,ha,ha',hb,hb',k⟩:=h
  refine⟨_,(ao (lD 2 gb.nd (aC bB (aC fV (aC fW (pv 0) (aC fV ah (aC fW ah (pv 1)))) (aC fW ah (pv 1))) ah) (hs:=bT))
   (ao (lD 3 gb.nd (aC bB (aC fV (aC fW (pv 2) (pv 2)) (pv 1)) ah) (hs:=bT))
   (aE (aZ (aC bB (aC fV (aC fW (pv 3) (pv 3)) (pv 2)) ah))))),?_⟩
  refine⟨_,rfl,_,rfl,_,_,rfl,rfl,.inl ⟨by decide,by decide⟩,_,_,rfl,rfl,_,_,rfl,rfl,.inl ⟨by omega,by omega⟩,_,rfl,_,_,rfl,rfl,.inl ⟨by decide,by decide⟩,_,_,rfl,rfl,_,_,rfl,rfl,(by show(0:Int) < 15485863;decide),?_⟩
  have h1:=Int.emod_nonneg (a * (1299709+210 * b)+7919 * b) (show(15485863:Int)≠0 by decide)
  have h2:=Int.emod_lt_of_pos (a * (1299709+210 * b)+7919 * b) (show(0:Int) < 15485863 by decide)
  refine⟨_,rfl,_,rfl,_,_,rfl,rfl,.inl ⟨by omega,by omega⟩,_,rfl,_,_,rfl,rfl,_,_,rfl,rfl,(by show(0:Int) < 32452843;decide),?_⟩
  refine⟨_,rfl,_,rfl,_,_,rfl,rfl,.inl ⟨?_,?_⟩,_,rfl,_,_,rfl,rfl,_,_,rfl,rfl,(by show(0:Int) < 49979687;decide),?_⟩
  ·exact Int.lt_of_lt_of_le (by decide) (Int.emod_nonneg _ (by decide))
  ·exact Int.lt_trans (Int.emod_lt_of_pos _ (by decide)) (by decide)
  ·exact k _ (Int.emod_nonneg _ (by decide)) (Int.emod_lt_of_pos _ (by decide))
def iD:Sp:=fun vs H Q _=>∃ c s:Int,vs=[.int c,.int s]∧0≤s∧s < 60000∧∀ r:Int,Q (.int r) H
theorem nK:bg P w K mg base gS 2 (au 11) (bU 11) ["_law_cell", "_law_salt"] iD:=by
 have dR:bg P w K mg base gS 1 (au 10) (bU 10) ["_law_number_here", "_law_salt"] eo:=jg T
 refine T.jf.ok fG (fun vs H Q E h=>?_) (fun cdv A outer s H vs Q E hr h=>?_)
 ·obtain⟨c,s,rfl,_⟩:=h;rfl
 ·have hu:=fE hr
  have qf:=hr.cy
  obtain⟨c,sa,rfl,hs,hs',k⟩:=h
  refine⟨_,(ao (fB (PW.pt (Dn (yd ie (aC bB (pv 0) ah) ah) (BV (yd CZ (pv 0) (aC fW ah (aC pV ah ah)))))) (aE (aZ (aC zZ (aC cH (pv 0) ah) (aC pV ah ah)))) bA)
   (ao (lD 2 fG.nd (aC bB (pv 0) ah) (hs:=bT))
   (ao (lD 3 fG.nd (aC fV (aC fW (rH dR hr T.e7 T.dM.kp T.eZ (af (pv 2) (af (pv 1) ak aj) aj)) ah) (rH dR hr T.e7 T.dM.kp T.eZ (af (pv 2) (af (aC fV (pv 1) ah) ak bu) aj))) (hs:=bT))
   (aE (aZ (aC fV (aC fW (pv 3) ah) (rH dR hr T.e7 T.dM.kp T.eZ (af (pv 2) (af (aC fV (pv 1) ah) ak bu) aj)))))))),?_⟩
  have Lo:Fj 10 18:=⟨by decide,by decide,by decide⟩
  have n0:0≤c % 1000000007:=Int.emod_nonneg _ (by decide)
  have n1:c % 1000000007 < 4294967296:=Int.lt_trans (Int.emod_lt_of_pos _ (by decide)) (by decide)
  refine⟨_,rfl,_,_,rfl,rfl,(by show(0:Int) < 2;decide),rfl,_,rfl,?_⟩
  refine kM (fun _=>?_) (fun _=>?_)
  ·refine⟨_,rfl,_,_,rfl,rfl,Lo,_,_,rfl,rfl,.inl ⟨by decide,by decide⟩,_,_,rfl,rfl,_,rfl,?_⟩
   refine kM (fun _=>?_) (fun _=>?_)
   ·exact⟨_,rfl,_,_,rfl,rfl,⟨by decide,by decide⟩,_,_,rfl,rfl,Lo,_,_,rfl,rfl,k _⟩
   ·refine⟨_,rfl,_,_,rfl,rfl,(by show(0:Int) < 1000000007;decide),?_⟩
    refine⟨_,rfl,_,rfl,_,_,rfl,n0,n1,by omega,by omega,fun r1 _ _=>?_⟩
    refine⟨_,_,rfl,rfl,.inr ⟨by decide,by decide⟩,_,rfl,_,rfl,_,_,rfl,rfl,_,_,rfl,n0,n1,by omega,by omega,fun r2 _ _=>⟨_,_,rfl,rfl,?_⟩⟩
    refine⟨_,rfl,_,_,rfl,rfl,.inr ⟨by decide,by decide⟩,_,rfl,_,rfl,_,_,rfl,rfl,_,_,rfl,n0,n1,by omega,by omega,fun r3 _ _=>⟨_,_,rfl,rfl,k _⟩⟩
  ·refine⟨_,rfl,_,_,rfl,rfl,(by show(0:Int) < 1000000007;decide),?_⟩
   refine⟨_,rfl,_,rfl,_,_,rfl,n0,n1,by omega,by omega,fun r1 _ _=>?_⟩
   refine⟨_,_,rfl,rfl,.inr ⟨by decide,by decide⟩,_,rfl,_,rfl,_,_,rfl,rfl,_,_,rfl,n0,n1,by omega,by omega,fun r2 _ _=>⟨_,_,rfl,rfl,?_⟩⟩
   refine⟨_,rfl,_,_,rfl,rfl,.inr ⟨by decide,by decide⟩,_,rfl,_,rfl,_,_,rfl,rfl,_,_,rfl,n0,n1,by omega,by omega,fun r3 _ _=>⟨_,_,rfl,rfl,k _⟩⟩
def j3:Sp:=fun vs H Q _=>∃(n m:Int) (me:Str),vs=[.int n,.int m,.str me]∧Mn me∧0≤m∧m≤3∧∀(t:Addr) (z:Str) (r:Int),Sg z→(z.length:Int)≤m→(1≤m→1≤z.length)→H t=none→Q (.ref t) (upd H t (.tup [.str z,.int r]))
theorem qv:bg P w K mg base gS 1 (au 12) (bU 12) ["_law_number_here", "_law_many", "_law_menu"] j3:=by
 refine T.fL.ok cK (fun vs H Q E h=>?_) (fun cdv A outer s H vs Q E hr h=>?_)
 ·obtain⟨n,m,me,rfl,_⟩:=h;rfl
 ·have hu:=fE hr
  have qf:=hr.cy
  obtain⟨n,m,me,rfl,⟨hm1,hm2,Nk⟩,h0,h3,k⟩:=h
  have hml:me.length≤sizeLine:=Nat.le_trans hm2 (by decide)
  refine⟨_,(ao (lD 3 cK.nd dw (hs:=lB))
   (ao (m5 PassesOwn.never rfl (kI rfl T.jZ (af (pv 1) ak aj)) (xw 4 cK.nd)
   (ao (lD 5 cK.nd (Al DG (pv 2) (aC bB (pv 0) (lQ eV T.jE (af (pv 2) ak aj))) (fun _ _=>rfl)) (hs:=qe))
   (ao (lD 0 cK.nd (aC cH (pv 0) (lQ eV T.jE (af (pv 2) ak aj))) (hs:=bT))
   (aE (fB (wY p7 (pv 5) (pv 3) rfl) (aE (lD 3 cK.nd (aC uc (pv 3) (pv 5)) (hs:=bT))) bA)))))
   (aE (aZ (ig (af (pv 3) (af (pv 0) ak aj) aj)))))),?_⟩
  refine⟨_,rfl,m,rfl,by omega,by omega,?_⟩
  refine pq (fun i σ H2=>H2=H∧∃(r:Int) (z:Str) (v1 v2:Option V),σ=[some (.int r),some (.int m),some (.str me),some (.str z),v1,v2]∧Sg z∧z.length≤i∧(1≤i→1≤z.length)) ⟨rfl,n,_,_,_,rfl,Ec,by decide,fun z=>absurd z (by decide)⟩ ?_ ?_
  ·rintro i σ H2 hi ⟨rfl,r,z,v1,v2,rfl,g,hz,hz1⟩
   have hlen:me.cps.toList.length=me.length:=by rw[Array.length_toList];rfl
   obtain⟨c,ec,hc⟩:=uG (xs:=me.cps.toList) (Int.emod_nonneg r (show(me.length:Int)≠0 by omega)) (by rw[hlen];exact Int.emod_lt_of_pos r (by omega))
   refine⟨_,rfl,_,rfl,_,rfl,me,rfl,hml,_,_,rfl,rfl,(by show(0:Int) < me.length;omega),me,_,c,rfl,rfl,hml,ec,?_⟩
   refine⟨_,rfl,_,rfl,me,rfl,hml,_,_,rfl,rfl,⟨by show(0:Int) < me.length;omega,by show(me.length:Int) < 1073741824;omega⟩,?_⟩
   refine⟨_,rfl,_,rfl,_,_,rfl,rfl,_,rfl,?_⟩
   refine kM (fun ha=>?_) (fun ha=>?_)
   ·have e1:(z++(⟨#[c]⟩:Str)).length=z.length+1:=CC _ _
    refine⟨_,rfl,_,rfl,_,_,rfl,rfl,?_,rfl,_,_,_,_,rfl,Eb g (Nk c hc) ha,by rw[e1];omega,fun _=>by rw[e1];omega⟩
    exact Nat.le_trans (show z.length+1≤5 by omega) (by decide)
   ·refine⟨rfl,_,_,_,_,rfl,g,by omega,fun _=>?_⟩
    have hin:c∈z.cps.toList:=Classical.byContradiction fun q=>ha ((sD z c).mpr q)
    have:=List.length_pos_of_mem hin
    rw[Array.length_toList] at this
    exact this
  ·rintro σ H2 ⟨rfl,r,z,v1,v2,rfl,g,hz,hz1⟩
   exact⟨_,rfl,_,rfl,(by show 2≤sizeLine;decide),fun t ht=>k t z r g (by omega) (fun q=>hz1 (by omega)) ht⟩
def jh:Sp:=fun vs H Q _=>∃ n:Int,vs=[.int n]∧∀(l:Addr) (m1 m2 m3:Str),Mn m1→Mn m2→Mn m3→H l=none→Q (.ref l) (upd H l (.lst [.str m1,.str m2,.str m3]))
theorem oq:bg P w K mg base gS 1 (au 13) (bU 13) ["_law_way"] jh:=by
 refine T.jU.ok je (fun vs H Q E h=>?_) (fun cdv A outer s H vs Q E hr h=>?_)
 ·obtain⟨n,rfl,_⟩:=h;rfl
 ·have hu:=fE hr
  have qf:=hr.cy
  obtain⟨n,rfl,k⟩:=h
  refine⟨_,(ao (lD 1 je.nd dw (hs:=lB))
   (ao (fB (yd ie (pv 0) ah) (aE (aZ (cX (af dw (af dw (af dw ak az) az) az)))) bA)
   (ao (fB (yd ie (pv 0) ah) (aE (aZ (cX (af dw (af dw (af dw ak az) az) az)))) bA)
   (aE (aZ (cX (af (pv 1) (af (pv 1) (af (pv 1) ak aj) aj) aj))))))),?_⟩
  refine⟨_,rfl,rfl,_,rfl,?_⟩
  refine kM (fun _=>?_) (fun _=>?_)
  ·exact⟨by decide,fun l hl=>k l _ _ _ (by decide +kernel) (by decide +kernel) (by decide +kernel) hl⟩
  ·refine⟨_,rfl,rfl,_,rfl,?_⟩
   refine kM (fun _=>?_) (fun _=>?_)
   ·exact⟨by decide,fun l hl=>k l _ _ _ (by decide +kernel) (by decide +kernel) (by decide +kernel) hl⟩
   ·exact⟨_,rfl,_,rfl,_,rfl,by decide,fun l hl=>k l _ _ _ (by decide +kernel) (by decide +kernel) (by decide +kernel) hl⟩
def j4:Sp:=fun vs H Q _=>∃ c:Int,vs=[.int c]∧∀(t:Addr) (p q f:Str) (b1 b2 b3 b4:Bool) (H':Hp),Gd p q f→H t=none→H' t=some (.tup (aD p q f b1 b2 b3 b4))→aT H H'→Q (.ref t) H'
theorem qw:bg P w K mg base gS 3 (au 14) (bU 14) ["_law_cell"] j4:=by
 have qx:bg P w K mg base gS 1 (au 13) (bU 13) ["_law_way"] jh:=oq T
 have ou:bg P w K mg base gS 2 (au 11) (bU 11) ["_law_cell", "_law_salt"] iD:=nK T
 have iE:bg P w K mg base gS 1 (au 12) (bU 12) ["_law_number_here", "_law_many", "_law_menu"] j3:=qv T
 refine T.lF.ok aP (fun vs H Q E h=>?_) (fun cdv A outer s H vs Q E hr h=>?_)
 ·obtain⟨c,rfl,_⟩:=h;rfl
 ·have hu:=fE hr
  have qf:=hr.cy
  obtain⟨c,rfl,k⟩:=h
  refine⟨_,(ao (lD 1 aP.nd (rH ou hr T.oj T.jf.kp T.oi (af (pv 0) (af ah ak az) aj)) (hs:=gB))
   (ao (lD 2 aP.nd (aC bB (pv 1) ah) (hs:=bT))
   (ao (lD 3 aP.nd (cX (af (aC fV ah (aC bB (aC cH (pv 1) ah) ah)) (af (aC bB (aC cH (pv 1) ah) ah) (af (aC bB (aC cH (pv 1) ah) ah) ak bu) bu) bu)) (hs:=jR))
   (ao (lD 4 aP.nd (rH qx hr T.qk T.jU.kp T.qj (af (aC bB (aC cH (pv 1) ah) ah) ak bu)) (hs:=gB))
   (ao (t6 (rH iE hr T.iB T.fL.kp T.iA (af (aC cH (pv 1) ah) (af (rJ K (pv 3) ah) (af (rJ K (pv 4) ah) ak ay) ay) bu)) (qc K rfl 2 rfl (gi (xw 5 aP.nd) (gi (xw 1 aP.nd) pU))))
   (ao (t6 (rH iE hr T.iB T.fL.kp T.iA (af (pv 1) (af (rJ K (pv 3) ah) (af (rJ K (pv 4) ah) ak ay) ay) aj)) (qc K rfl 2 rfl (gi (xw 6 aP.nd) (gi (xw 1 aP.nd) pU))))
   (ao (t6 (rH iE hr T.iB T.fL.kp T.iA (af (pv 1) (af (rJ K (pv 3) ah) (af (rJ K (pv 4) ah) ak ay) ay) aj)) (qc K rfl 2 rfl (gi (xw 7 aP.nd) (gi (xw 1 aP.nd) pU))))
   (ao (lD 8 aP.nd (cX (af (AV ie (aC bB (pv 2) ah) ah) (af (AV ie (aC bB (aC cH (pv 2) ah) ah) ah) (af (AV ie (aC bB (aC cH (pv 2) ah) ah) ah) (af (AV ie (aC bB (aC cH (pv 2) ah) ah) ah) ak gC) gC) gC) gC)) (hs:=jR))
   (aE (aZ (ig (af (pv 5) (af (pv 6) (af (pv 7) (af (rJ K (pv 8) ah) (af (rJ K (pv 8) ah) (af (rJ K (pv 8) ah) (af (rJ K (pv 8) ah) ak ay) ay) ay) ay) aj) aj) aj)))))))))))),?_⟩
  refine⟨_,rfl,_,_,rfl,by decide,by decide,fun n=>?_⟩
  refine⟨_,rfl,_,_,rfl,rfl,(by show(0:Int) < 16;decide),?_⟩
  refine⟨_,rfl,_,_,rfl,rfl,⟨by decide,by decide⟩,_,_,rfl,rfl,(by show(0:Int) < 3;decide),_,_,rfl,rfl,_,rfl,_,_,rfl,rfl,⟨by decide,by decide⟩,_,_,rfl,rfl,(by show(0:Int) < 3;decide),_,rfl,_,_,rfl,rfl,⟨by decide,by decide⟩,_,_,rfl,rfl,(by show(0:Int) < 3;decide),(by show 3≤sizeLine;decide),fun l hl=>?_⟩
  have m1:=Int.emod_nonneg (n / 16) (show(3:Int)≠0 by decide)
  have Qn:=Int.emod_lt_of_pos (n / 16) (show(0:Int) < 3 by decide)
  have m2:=Int.emod_nonneg (n / 48) (show(3:Int)≠0 by decide)
  have Qo:=Int.emod_lt_of_pos (n / 48) (show(0:Int) < 3 by decide)
  have m3:=Int.emod_nonneg (n / 144) (show(3:Int)≠0 by decide)
  have Qp:=Int.emod_lt_of_pos (n / 144) (show(0:Int) < 3 by decide)
  have h1:(upd H l (.lst [.int (1+n / 16 % 3),.int (n / 48 % 3),.int (n / 144 % 3)])) l=some (.lst [.int (1+n / 16 % 3),.int (n / 48 % 3),.int (n / 144 % 3)]):=ai
  have s1:aT H (upd H l (.lst [.int (1+n / 16 % 3),.int (n / 48 % 3),.int (n / 144 % 3)])):=av hl
  generalize upd H l (.lst [.int (1+n / 16 % 3),.int (n / 48 % 3),.int (n / 144 % 3)])=H1 at h1 s1 ⊢
  refine⟨_,rfl,_,_,rfl,rfl,⟨by decide,by decide⟩,_,_,rfl,rfl,(by show(0:Int) < 3;decide),_,rfl,fun l2 e1 e2 e3 g1 g2 g3 hl2=>?_⟩
  have h2:(upd H1 l2 (.lst [.str e1,.str e2,.str e3])) l2=some (.lst [.str e1,.str e2,.str e3]):=ai
  have s2:aT H1 (upd H1 l2 (.lst [.str e1,.str e2,.str e3])):=av hl2
  generalize upd H1 l2 (.lst [.str e1,.str e2,.str e3])=H2 at h2 s2 ⊢
  have h12:=s2 _ _ h1
  refine⟨_,rfl,_,_,rfl,rfl,⟨by decide,by decide⟩,_,rfl,l,_,_,_,rfl,rfl,dz.of h12,rfl,_,rfl,l2,_,_,_,rfl,rfl,dz.of h2,rfl,_,_,_,rfl,g1,by omega,by omega,fun t1 p r1 gp lp JB ht1=>?_⟩
  refine⟨t1,_,rfl,dB.of ai,rfl,_,_,rfl,_,_,rfl,rfl,?_⟩
  have s3:aT H2 (upd H2 t1 (.tup [.str p,.int r1])):=av ht1
  generalize upd H2 t1 (.tup [.str p,.int r1])=H3 at s3 ⊢
  refine⟨_,rfl,_,rfl,l,_,_,_,rfl,rfl,dz.of (s3 _ _ h12),rfl,_,rfl,l2,_,_,_,rfl,rfl,dz.of (s3 _ _ h2),rfl,_,_,_,rfl,g2,by omega,by omega,fun t2 q r2 gq lq Qq Es=>?_⟩
  refine⟨t2,_,rfl,dB.of ai,rfl,_,_,rfl,_,_,rfl,rfl,?_⟩
  have s4:aT H3 (upd H3 t2 (.tup [.str q,.int r2])):=av Es
  generalize upd H3 t2 (.tup [.str q,.int r2])=H4 at s4 ⊢
  refine⟨_,rfl,_,rfl,l,_,_,_,rfl,rfl,dz.of (s4 _ _ (s3 _ _ h12)),rfl,_,rfl,l2,_,_,_,rfl,rfl,dz.of (s4 _ _ (s3 _ _ h2)),rfl,_,_,_,rfl,g3,by omega,by omega,fun t3 f r3 gf lf Qs Et=>?_⟩
  refine⟨t3,_,rfl,dB.of ai,rfl,_,_,rfl,_,_,rfl,rfl,?_⟩
  have s5:aT H4 (upd H4 t3 (.tup [.str f,.int r3])):=av Et
  generalize upd H4 t3 (.tup [.str f,.int r3])=H5 at s5 ⊢
  refine⟨_,rfl,_,_,rfl,rfl,(by show(0:Int) < 2;decide),rfl,_,rfl,_,_,rfl,rfl,⟨by decide,by decide⟩,_,_,rfl,rfl,(by show(0:Int) < 2;decide),rfl,_,rfl,_,_,rfl,rfl,⟨by decide,by decide⟩,_,_,rfl,rfl,(by show(0:Int) < 2;decide),rfl,_,rfl,_,_,rfl,rfl,⟨by decide,by decide⟩,_,_,rfl,rfl,(by show(0:Int) < 2;decide),rfl,(by show 4≤sizeLine;decide),fun l6 Nl=>?_⟩
  have s6:=av (o:=HO.lst [.bl (decide (V.int (n % 16 % 2)=V.int 1)),.bl (decide (V.int (n % 16 / 2 % 2)=V.int 1)),.bl (decide (V.int (n % 16 / 4 % 2)=V.int 1)),.bl (decide (V.int (n % 16 / 8 % 2)=V.int 1))]) Nl
  refine⟨_,rfl,_,rfl,_,rfl,_,rfl,l6,_,_,_,rfl,rfl,dz.of ai,rfl,_,rfl,l6,_,_,_,rfl,rfl,dz.of ai,rfl,_,rfl,l6,_,_,_,rfl,rfl,dz.of ai,rfl,_,rfl,l6,_,_,_,rfl,rfl,dz.of ai,rfl,(by show 7≤sizeLine;decide),fun t ht=>?_⟩
  have GD:=((((s1.trans s2).trans s3).trans s4).trans s5).trans s6
  exact k t p q f _ _ _ _ _ ⟨gp,gq,gf,JB (by omega),by omega,by omega,by omega⟩ (GD.free ht) ai (GD.trans (av ht))
def ji:Sp:=fun vs H Q _=>∃(c m:Int),vs=[.int c,.int m]∧0≤m∧m≤1000∧∀(l:Addr) (ns:List Int) (H':Hp),ns.length=m.toNat→(∀ n∈ns,0≤n)→H l=none→H' l=some (.lst (ns.map V.int))→aT H H'→Q (.ref l) H'
theorem ow:bg P w K mg base gS 2 (au 15) (bU 15) ["_law_cell", "_law_many"] ji:=by
 have dR:bg P w K mg base gS 1 (au 10) (bU 10) ["_law_number_here", "_law_salt"] eo:=jg T
 refine T.jV.ok bX (fun vs H Q E h=>?_) (fun cdv A outer s H vs Q E hr h=>?_)
 ·obtain⟨c,m,rfl,_⟩:=h;rfl
 ·have hu:=fE hr
  have qf:=hr.cy
  obtain⟨c,m,rfl,hm,hm',k⟩:=h
  refine⟨_,(ao (fB (PW.pt (o9 (yd ie (aC bB (pv 0) ah) ah) (pT (yd z8 (pv 0) (aC fW ah (aC pV ah ah)))))) (ao (lD 2 bX.nd (aC bB (pv 0) ah) (hs:=bT))
   (aE (aZ (xh rfl (show cI ["_law_cell", "_law_many", "_law_number_here", "_law_found", "_law_k"] (aq cJ) ["_law_k", "_law_number_here"] 1 [2] _ from Ju) (kI rfl T.jZ (af (pv 1) ak aj)) (fun _ _ _ _=>(xw 0 (show(["_law_k", "_law_number_here"]:List Str).Nodup by decide +kernel))) (fun _ _ _ _=>qb) (fun _ _ _ _=>(rH dR hr T.e7 T.dM.kp T.eZ (af (pv 1) (af (aC fV ah (aC fW ah (pv 0))) ak bu) aj))))))) bA)
   (ao (lD 3 bX.nd (cX ak) (hs:=jR))
   (ao (lD 2 bX.nd (aC zZ (aC cH (pv 0) ah) (aC pV ah ah)) (hs:=bT))
   (ao (m5 PassesOwn.never rfl (kI rfl T.jZ (af (pv 1) ak aj)) (xw 4 bX.nd)
   (ao (wR (uA K rfl PySem.F.plainAttrs_list PySem.F.slot_list_append PySem.F.type_list_append iK (pv 3) (af (aC bB (pv 2) ah) ak bu)))
   (aE (lD 2 bX.nd (aC cH (pv 2) ah) (hs:=bT)))))
   (aE (aZ (pv 3))))))),?_⟩
  refine⟨_,rfl,_,_,rfl,rfl,(by show(0:Int) < 2;decide),rfl,_,rfl,?_⟩
  have GF:∀{D:Addr}{v:Option V},H D=none→nc (CW 0 m.toNat) (mZ 0) DM (wZ eo [] E0 (Ae (BR 1) (Ae (BE (BZ fun i j=>.int (i+j)) (tC (.int 71)) (BE (rI B3 fun i j=>.int (i * j)) (tC (.int 2)) (BR 0))) Dy))) Q D [none,some (.int (c % 1000000007))] H:=by
   intro D v hD
   refine uz (fun i ys τ H2=>(∃ v,τ=[v,some (.int (c % 1000000007))])∧aT H H2∧H2 D=some (.lst ys)∧∃ ns:List Int,ys=ns.map V.int∧ns.length=i∧∀ n∈ns,0≤n) ⟨⟨_,rfl⟩,av hD,ai,[],rfl,rfl,fun _ z=>nomatch z⟩ (fun i ys τ H2 _ p=>p.2.2.1) ?_ ?_
   ·rintro i ys τ H2 hi ⟨⟨v,rfl⟩,s2,hl,ns,rfl,hn,hp⟩
    refine Ea ?_
    refine⟨_,rfl,_,rfl,_,_,rfl,rfl,.inl ⟨by decide,by decide⟩,_,_,rfl,rfl,_,_,rfl,Int.emod_nonneg _ (by decide),Int.lt_trans (Int.emod_lt_of_pos _ (by decide)) (by decide),by omega,by omega,fun r hr0 _=>?_⟩
    refine⟨hl,?_,⟨_,rfl⟩,gj hD s2,ai,ns++[r],by rw[List.map_append];rfl,by rw[List.length_append,hn];rfl,fun n hn'=>?_⟩
    ·rw[List.length_map,hn]
     exact Nat.lt_of_lt_of_le (show i < 1000 by omega) (by decide)
    ·rcases List.mem_append.mp hn' with z | z
     ·exact hp n z
     ·rw[List.mem_singleton.mp z];exact hr0
   ·rintro ys τ H2 ⟨⟨v,rfl⟩,s2,hl,ns,rfl,hn,hp⟩
    exact k D ns H2 hn hp hD hl s2
  refine kM (fun _=>?_) (fun _=>?_)
  ·refine lP ?_
   refine⟨_,rfl,_,_,rfl,rfl,(by show(0:Int) < 1000000007;decide),?_⟩
   exact⟨_,rfl,m,rfl,by omega,by omega,fun D hD=>GF (v:=none) hD⟩
  ·refine⟨_,rfl,_,_,rfl,rfl,⟨by decide,by decide,by decide⟩,_,_,rfl,rfl,.inl ⟨by decide,by decide⟩,_,_,rfl,rfl,_,rfl,?_⟩
   refine kM (fun _=>?_) (fun _=>?_)
   ·refine⟨_,rfl,_,_,rfl,rfl,(by show(0:Int) < 1000000007;decide),?_⟩
    exact⟨_,rfl,m,rfl,by omega,by omega,fun D hD=>GF (v:=none) hD⟩
   ·refine⟨by decide,fun l hl=>?_⟩
    refine⟨_,rfl,_,_,rfl,rfl,⟨by decide,by decide⟩,_,_,rfl,rfl,⟨by decide,by decide,by decide⟩,_,_,rfl,rfl,?_⟩
    refine⟨_,rfl,m,rfl,by omega,by omega,?_⟩
    refine pq (fun i σ H2=>aT H H2∧∃(x:Int) (v:Option V) (ns:List Int),σ=[some (.int c),some (.int m),some (.int x),some (.ref l),v]∧H2 l=some (.lst (ns.map V.int))∧ns.length=i∧∀ n∈ns,0≤n) ⟨av hl,_,_,[],rfl,ai,rfl,fun _ z=>nomatch z⟩ ?_ ?_
    ·rintro i σ H2 hi ⟨s2,x,v,ns,rfl,hq,hn,hp⟩
     refine⟨_,rfl,.inl ⟨rfl,_,dz.of hq⟩,_,rfl,_,_,rfl,rfl,(by show(0:Int) < 4096;decide),l,_,_,rfl,rfl,hq,?_,?_⟩
     ·rw[List.length_map,hn]
      exact Nat.lt_of_lt_of_le (show i < 1000 by omega) (by decide)
     ·refine⟨_,rfl,_,_,rfl,rfl,⟨by decide,by decide⟩,?_⟩
      refine⟨gj hl s2,_,_,ns++[x % 4096],rfl,?_,by rw[List.length_append,hn];rfl,fun n hn'=>?_⟩
      ·rw[ai,List.map_append];rfl
      ·rcases List.mem_append.mp hn' with z | z
       ·exact hp n z
       ·rw[List.mem_singleton.mp z];exact Int.emod_nonneg _ (by decide)
    ·rintro σ H2 ⟨s2,x,v,ns,rfl,hq,hn,hp⟩
     exact⟨_,rfl,k l ns H2 hn hp hl hq s2⟩
def jj (K:W.Frag) (Ds:List Addr):Sp:=fun vs H Q _=>∃(ea C B:Addr) (f:Nat→Bool),vs=[.ref ea]∧C7 H ea C∧Li K C B Ds f∧∀ l H',aT H H'→H' l=some (.lst ((List.range 11).map fun j=>.bl (f j)))→Q (.ref l) H'
theorem oz:xm P w K mg base 1 (au 16) (bU 16) ["_law_e"] (jj K [(au 23),(au 25),(au 27),(au 29),(au 31),(au 33),(au 35),(au 37),(au 39),(au 41),(au 43)]):=by
 refine T.jW.MW gc (fun vs H Q E h=>?_) (fun cdv A outer s H vs Q E hr h=>?_)
 ·obtain⟨ea,C,B,f,rfl,_⟩:=h;rfl
 ·have hu:=hr.hu
  have qf:=hr.cy
  obtain⟨ea,C,B,f,rfl,xo,x1,k⟩:=h
  obtain⟨⟨N,bm,ini,xc,tl⟩,xk,ask,_,_⟩:=x1
  refine⟨_,(ao (lD 1 gc.nd (cX (af (lQ (bS rfl) T.aF (af (pv 0) (af (dD rfl T.A2) ak aj) aj)) (af (lQ (bS rfl) T.aF (af (pv 0) (af (dD rfl T.yl) ak aj) aj)) (af (lQ (bS rfl) T.aF (af (pv 0) (af (dD rfl T.dj) ak aj) aj)) (af (lQ (bS rfl) T.aF (af (pv 0) (af (dD rfl T.uK) ak aj) aj)) ak bK) bK) bK) bK)) (hs:=jR))
   (ao (lD 1 gc.nd (aC qa (pv 1) (cX (af (lQ (bS rfl) T.aF (af (pv 0) (af (dD rfl T.A3) ak aj) aj)) (af (lQ (bS rfl) T.aF (af (pv 0) (af (dD rfl T.CK) ak aj) aj)) (af (lQ (bS rfl) T.aF (af (pv 0) (af (dD rfl T.CL) ak aj) aj)) (af (lQ (bS rfl) T.aF (af (pv 0) (af (dD rfl T.A4) ak aj) aj)) ak bK) bK) bK) bK))) (hs:=bT))
   (aE (aZ (aC qa (pv 1) (cX (af (lQ (bS rfl) T.aF (af (pv 0) (af (dD rfl T.ym) ak aj) aj)) (af (lQ (bS rfl) T.aF (af (pv 0) (af (dD rfl T.A6) ak aj) aj)) (af (lQ (bS rfl) T.aF (af (pv 0) (af (dD rfl T.sN) ak aj) aj)) ak bK) bK) bK))))))),?_⟩
  refine⟨_,rfl,ea,C,N,bm,ini,_,f 0,rfl,xo,xc,tl,xk,.inr ⟨_,rfl,ask 0 _ rfl⟩,_,rfl,ea,C,N,bm,ini,_,f 1,rfl,xo,xc,tl,xk,.inr ⟨_,rfl,ask 1 _ rfl⟩,_,rfl,ea,C,N,bm,ini,_,f 2,rfl,xo,xc,tl,xk,.inr ⟨_,rfl,ask 2 _ rfl⟩,_,rfl,ea,C,N,bm,ini,_,f 3,rfl,xo,xc,tl,xk,.inr ⟨_,rfl,ask 3 _ rfl⟩,(by show(4:Nat)≤sizeLine;decide),fun l1 h1=>?_⟩
  have e1:(upd H l1 (.lst [.bl (f 0),.bl (f 1),.bl (f 2),.bl (f 3)])) l1=some (.lst [.bl (f 0),.bl (f 1),.bl (f 2),.bl (f 3)]):=ai
  have s1:=av (o:=HO.lst [.bl (f 0),.bl (f 1),.bl (f 2),.bl (f 3)]) h1
  generalize upd H l1 (.lst [.bl (f 0),.bl (f 1),.bl (f 2),.bl (f 3)])=H1 at e1 s1 ⊢
  have GG:=xo.mono s1
  refine⟨_,rfl,_,rfl,ea,C,N,bm,ini,_,f 4,rfl,GG,xc,tl,xk,.inr ⟨_,rfl,ask 4 _ rfl⟩,_,rfl,ea,C,N,bm,ini,_,f 5,rfl,GG,xc,tl,xk,.inr ⟨_,rfl,ask 5 _ rfl⟩,_,rfl,ea,C,N,bm,ini,_,f 6,rfl,GG,xc,tl,xk,.inr ⟨_,rfl,ask 6 _ rfl⟩,_,rfl,ea,C,N,bm,ini,_,f 7,rfl,GG,xc,tl,xk,.inr ⟨_,rfl,ask 7 _ rfl⟩,(by show(4:Nat)≤sizeLine;decide),fun l2 h2=>?_⟩
  have e2:(upd H1 l2 (.lst [.bl (f 4),.bl (f 5),.bl (f 6),.bl (f 7)])) l2=some (.lst [.bl (f 4),.bl (f 5),.bl (f 6),.bl (f 7)]):=ai
  have s2:=av (o:=HO.lst [.bl (f 4),.bl (f 5),.bl (f 6),.bl (f 7)]) h2
  generalize upd H1 l2 (.lst [.bl (f 4),.bl (f 5),.bl (f 6),.bl (f 7)])=H2 at e2 s2 ⊢
  refine⟨l1,l2,_,_,rfl,rfl,s2 _ _ e1,e2,(by show(8:Nat)≤sizeLine;decide),fun l3 h3=>?_⟩
  have e3:(upd H2 l3 (.lst ([.bl (f 0),.bl (f 1),.bl (f 2),.bl (f 3)]++[.bl (f 4),.bl (f 5),.bl (f 6),.bl (f 7)]))) l3=some (.lst ([.bl (f 0),.bl (f 1),.bl (f 2),.bl (f 3)]++[.bl (f 4),.bl (f 5),.bl (f 6),.bl (f 7)])):=ai
  have s3:=av (o:=HO.lst ([.bl (f 0),.bl (f 1),.bl (f 2),.bl (f 3)]++[.bl (f 4),.bl (f 5),.bl (f 6),.bl (f 7)])) h3
  generalize upd H2 l3 (.lst ([.bl (f 0),.bl (f 1),.bl (f 2),.bl (f 3)]++[.bl (f 4),.bl (f 5),.bl (f 6),.bl (f 7)]))=H3 at e3 s3 ⊢
  have JC:=(GG.mono s2).mono s3
  refine⟨_,rfl,_,rfl,ea,C,N,bm,ini,_,f 8,rfl,JC,xc,tl,xk,.inr ⟨_,rfl,ask 8 _ rfl⟩,_,rfl,ea,C,N,bm,ini,_,f 9,rfl,JC,xc,tl,xk,.inr ⟨_,rfl,ask 9 _ rfl⟩,_,rfl,ea,C,N,bm,ini,_,f 10,rfl,JC,xc,tl,xk,.inr ⟨_,rfl,ask 10 _ rfl⟩,(by show(3:Nat)≤sizeLine;decide),fun l4 h4=>?_⟩
  have e4:(upd H3 l4 (.lst [.bl (f 8),.bl (f 9),.bl (f 10)])) l4=some (.lst [.bl (f 8),.bl (f 9),.bl (f 10)]):=ai
  have s4:=av (o:=HO.lst [.bl (f 8),.bl (f 9),.bl (f 10)]) h4
  generalize upd H3 l4 (.lst [.bl (f 8),.bl (f 9),.bl (f 10)])=H4 at e4 s4 ⊢
  refine⟨l3,l4,_,_,rfl,rfl,s4 _ _ e3,e4,(by show(11:Nat)≤sizeLine;decide),fun l5 h5=>?_⟩
  exact k l5 _ ((((s1.trans s2).trans s3).trans s4).trans (av h5)) ai
def jk (P:Program) (w:World) (K:W.Frag) (C:Addr):Sp:=fun vs H Q _=>∃(t a:Addr) (p q f:Str) (b1 b2 b3 b4:Bool) (n0 n1 c:Int),vs=[.ref t,.ref a,.int c]∧H t=some (.tup (aD p q f b1 b2 b3 b4))∧Gd p q f∧H a=some (.lst [.int n0,.int n1])∧∀ v H',aT H H'→Wr P w K C H' v→Q v H'
theorem oA:bg P w K mg base gS 6 (au 17) (bU 17) ["_law_told_here", "_law_xs", "_law_cell"] (jk P w K (au 20)):=by
 have dS:bg P w K mg base (pM P w) 5 (au 8) (bU 8) ["told"] (eg K (au 20) (au 27)):=gh T
 refine T.jX.ok gg (fun vs H Q E h=>?_) (fun cdv A outer s H vs Q E hr h=>?_)
 ·obtain⟨t,a,p,q,f,b1,b2,b3,b4,n0,n1,c,rfl,_⟩:=h;rfl
 ·have hu:=fE hr
  have qf:=hr.cy
  obtain⟨t,a,p,q,f,b1,b2,b3,b4,n0,n1,c,rfl,ht,gd,ha,k⟩:=h
  have A9:=hr.units
  refine'⟨_,?aa,?bb⟩
  case aa =>
   refine' ao ?s0 ?r0
   case s0 =>
    refine' t7 (i:=3) ?ha1 ?hb1 ?hc1 ?v1 ?hd1 ?FQ
    case ha1=>exact gg.nd
    case hb1=>rfl
    case hc1=>exact(by first | exact Or.inl rfl | exact Or.inr rfl)
    case hd1=>exact jR
    case FQ=>first | exact .inl rfl | exact .inr rfl | assumption
    case v1 =>
     refine' cX ?a2
     case a2 =>
      refine' af ?x3 ?y3 ?z3
      case z3=>exact bK
      case x3 =>
       exact(Ld (jc K rfl) T.qu (af (pv 0) ak aj))
      case y3 =>
       refine' af ?x4 ?y4 ?z4
       case z4=>exact ay
       case x4 =>
        exact(fD (iL K rfl) (pv 0) gu (gv ah))
       case y4 =>
        refine' af ?x5 ?y5 ?z5
        case z5=>exact bu
        case x5 =>
         exact(aC (jQ K rfl) (pv 0) (ig (af jN ak az)))
        case y5 =>
         refine' af ?x6 ?y6 ?z6
         case z6=>exact bu
         case x6 =>
          exact(aC (jQ K rfl) (fD (iL K rfl) (pv 0) (gv ah) gu) (fD (iL K rfl) (pv 0) gu (gv ah)))
         case y6 =>
          refine' af ?x7 ?y7 ?z7
          case z7=>exact sf
          case x7 =>
           refine' ig ?a8
           case a8 =>
            refine' af ?x9 ?y9 ?z9
            case z9=>exact aj
            case x9 =>
             exact(pv 0)
            case y9 =>
             exact ak
          case y7 =>
           refine' af ?Nm ?Np ?Nq
           case Nq=>exact ay
           case Nm =>
            exact(BI K (pv 0) ah)
           case Np =>
            refine' af ?Nr ?Nt ?Nu
            case Nu=>exact az
            case Nr =>
             exact Dm
            case Nt =>
             refine' af ?Nv ?Nx ?Ny
             case Ny=>exact az
             case Nv =>
              exact jN
             case Nx =>
              refine' af ?Nz ?NB ?NC
              case NC=>exact aj
              case Nz =>
               exact(pv 2)
              case NB =>
               exact ak
   case r0 =>
    refine' ao ?NF ?NG
    case NF =>
     exact(wR (uA K rfl PySem.F.plainAttrs_list PySem.F.slot_list_append PySem.F.type_list_append iK (pv 3) (af (yb (D8 P w K) (ef P w) rfl rfl rfl (Gs A9) (pv 0) (pv 0)) ak Cv)))
    case NG =>
     refine' ao ?NH ?NI
     case NH =>
      refine' t7 (i:=3) ?JD ?JE ?JF ?NJ ?JG ?JH
      case JD=>exact gg.nd
      case JE=>rfl
      case JF=>exact(by first | exact Or.inl rfl | exact Or.inr rfl)
      case JG=>exact bT
      case JH=>first | exact .inl rfl | exact .inr rfl | assumption
      case NJ =>
       refine' aC qa ?JI ?JJ
       case JI =>
        exact(pv 3)
       case JJ =>
        refine' cX ?JK
        case JK =>
         refine' af ?NK ?NL ?NN
         case NN=>exact sf
         case NK =>
          refine' ig ?NO
          case NO =>
           exact ak
         case NL =>
          refine' af ?NP ?NQ ?NR
          case NR=>exact xr
          case NP =>
           refine' cX ?NS
           case NS =>
            exact ak
          case NQ =>
           refine' af ?NT ?NU ?NV
           case NV=>exact az
           case NT =>
            exact dw
           case NU =>
            refine' af ?NW ?NX ?NY
            case NY=>exact ay
            case NW =>
             exact(fD (iL K rfl) (pv 0) gu (gv ah))
            case NX =>
             refine' af ?NZ ?N4 ?N5
             case N5=>exact ay
             case NZ =>
              exact(fD (iL K rfl) (pv 0) gu (gv (aC bB (rJ K (pv 1) ah) ah)))
             case N4 =>
              refine' af ?N6 ?N7 ?N8
              case N8=>exact bu
              case N6 =>
               exact(aC (jQ K rfl) (pv 0) (pv 0))
              case N7 =>
               refine' af ?N9 ?Oa ?Ob
               case Ob=>exact bK
               case N9 =>
                exact(pX (k:=5) dS (hr.mono (by decide)) rfl T.gF T.eY.kp T.gE .nil C8 (af (pv 0) ak aj))
               case Oa =>
                refine' af ?Oc ?Od ?Oe
                case Oe=>exact bu
                case Oc =>
                 exact(aC (jQ K rfl) (fD (iL K rfl) (pv 0) (gv ah) gu) (ig (af jN (af jN ak az) az)))
                case Od =>
                 exact ak
     case NI =>
      refine' aE ?Og
      case Og =>
       exact(aZ (rJ K (pv 3) (aC bB (rJ K (pv 1) ah) (lQ (fY K rfl) T.jE (af (pv 3) ak aj)))))
  refine⟨_,rfl,t,_,rfl,.inr (dB.of ht),fun l0 h0=>?_⟩
  (have s0:=av (o:=HO.lst (aD p q f b1 b2 b3 b4)) h0;have u0:=ai (H:=H) (a:=l0) (o:=HO.lst (aD p q f b1 b2 b3 b4));generalize upd H l0 (HO.lst (aD p q f b1 b2 b3 b4))=H0 at s0 u0 ⊢)
  have ht0:=s0 _ _ ht
  have nf:∀{lo hi:Option Int},(HT.dm 7 0 lo,HT.dm 7 7 hi)≠(0,7)→¬(HT.dm (aD p q f b1 b2 b3 b4).length 0 lo=0∧HT.dm (aD p q f b1 b2 b3 b4).length (aD p q f b1 b2 b3 b4).length hi=(aD p q f b1 b2 b3 b4).length):=fun h e=>h (by have e1:HT.dm 7 0 _=0:=e.1;have e2:HT.dm 7 7 _=7:=e.2;rw[e1,e2])
  refine⟨_,rfl,_,rfl,_,_,rfl,dB.of ht0,nf (by decide),fun a1 g1=>?_⟩
  (have s1:=av (o:=HO.tup (bY (aD p q f b1 b2 b3 b4) none (some 6))) g1;have u1:=ai (H:=H0) (a:=a1) (o:=HO.tup (bY (aD p q f b1 b2 b3 b4) none (some 6)));generalize upd H0 a1 (HO.tup (bY (aD p q f b1 b2 b3 b4) none (some 6)))=H1 at s1 u1 ⊢)
  have ht1:=s1 _ _ ht0
  refine⟨_,rfl,(by decide),fun x1 y1=>?_⟩
  (have s2:=av (o:=HO.tup [V.bl false]) y1;have u2:=ai (H:=H1) (a:=x1) (o:=HO.tup [V.bl false]);generalize upd H1 x1 (HO.tup [V.bl false])=H2 at s2 u2 ⊢)
  have Es:=s2 _ _ ht1
  refine⟨t,x1,_,_,rfl,rfl,dB.of Es,dB.of u2,(fun q=>nomatch q),(by show 7+1≤sizeLine;decide),(fun q=>nomatch q),fun _ a2 g2=>?_⟩
  (have s3:=av (o:=HO.tup (aD p q f b1 b2 b3 b4++[V.bl false])) g2;have u3:=ai (H:=H2) (a:=a2) (o:=HO.tup (aD p q f b1 b2 b3 b4++[V.bl false]));generalize upd H2 a2 (HO.tup (aD p q f b1 b2 b3 b4++[V.bl false]))=H3 at s3 u3 ⊢)
  have Et:=s3 _ _ Es
  refine⟨_,rfl,_,rfl,_,_,rfl,dB.of Et,nf (by decide),fun x2 y2=>?_⟩
  (have s4:=av (o:=HO.tup (bY (aD p q f b1 b2 b3 b4) (some 3) none)) y2;have u4:=ai (H:=H3) (a:=x2) (o:=HO.tup (bY (aD p q f b1 b2 b3 b4) (some 3) none));generalize upd H3 x2 (HO.tup (bY (aD p q f b1 b2 b3 b4) (some 3) none))=H4 at s4 u4 ⊢)
  have EY:=s4 _ _ Et
  refine⟨_,rfl,_,rfl,_,_,rfl,dB.of EY,nf (by decide),fun x3 y3=>?_⟩
  (have s5:=av (o:=HO.tup (bY (aD p q f b1 b2 b3 b4) none (some 3))) y3;have u5:=ai (H:=H4) (a:=x3) (o:=HO.tup (bY (aD p q f b1 b2 b3 b4) none (some 3)));generalize upd H4 x3 (HO.tup (bY (aD p q f b1 b2 b3 b4) none (some 3)))=H5 at s5 u5 ⊢)
  have EZ:=s5 _ _ EY
  refine⟨x2,x3,_,_,rfl,rfl,dB.of (s5 _ _ u4),dB.of u5,(fun q=>nomatch q),(by show 4+3≤sizeLine;decide),(fun q=>nomatch q),fun _ a3 g3=>?_⟩
  (have s6:=av (o:=HO.tup (bY (aD p q f b1 b2 b3 b4) (some 3) none++bY (aD p q f b1 b2 b3 b4) none (some 3))) g3;have u6:=ai (H:=H5) (a:=a3) (o:=HO.tup (bY (aD p q f b1 b2 b3 b4) (some 3) none++bY (aD p q f b1 b2 b3 b4) none (some 3)));generalize upd H5 a3 (HO.tup (bY (aD p q f b1 b2 b3 b4) (some 3) none++bY (aD p q f b1 b2 b3 b4) none (some 3)))=H6 at s6 u6 ⊢)
  have JL:=s6 _ _ EZ
  refine⟨_,rfl,(by show(1:Nat)≤sizeLine;decide),fun a4 g4=>?_⟩
  (have s7:=av (o:=HO.tup [V.ref t]) g4;have u7:=ai (H:=H6) (a:=a4) (o:=HO.tup [V.ref t]);generalize upd H6 a4 (HO.tup [V.ref t])=H7 at s7 u7 ⊢)
  have JM:=s7 _ _ JL
  refine⟨_,rfl,t,_,_,_,rfl,rfl,dB.of JM,rfl,?_⟩
  refine⟨_,rfl,(by show 9≤sizeLine;decide),fun L hL=>?_⟩
  have Oh:H L=none:=(s0.trans (s1.trans (s2.trans (s3.trans (s4.trans (s5.trans (s6.trans s7))))))).free hL
  (have s8:=av (o:=HO.lst [V.ref l0,V.ref a1,V.ref a2,V.ref a3,V.ref a4,V.str p,V.non,V.bl true,V.int c]) hL;have u8:=ai (H:=H7) (a:=L) (o:=HO.lst [V.ref l0,V.ref a1,V.ref a2,V.ref a3,V.ref a4,V.str p,V.non,V.bl true,V.int c]);generalize upd H7 L (HO.lst [V.ref l0,V.ref a1,V.ref a2,V.ref a3,V.ref a4,V.str p,V.non,V.bl true,V.int c])=H8 at s8 u8 ⊢)
  have Lp:=s8 _ _ JM
  have Oi:=s0.trans (s1.trans (s2.trans (s3.trans (s4.trans (s5.trans (s6.trans (s7.trans s8)))))))
  refine⟨_,rfl,.inl ⟨rfl,⟨_,dz.of u8⟩⟩,fun dd Gh=>?_⟩
  have JN:∀{G:Hp},G t=some (.tup (aD p q f b1 b2 b3 b4))→AM (D8 P w K) G [.inl p,.inl q,.inl f,.inr b1,.inr b2,.inr b3,.inr b4] t:=fun h=>⟨_,dB.of h,.cons rfl (.cons rfl (.cons rfl (.cons rfl (.cons rfl (.cons rfl (.cons rfl .nil))))))⟩
  have t9:=av (o:=dN (AR P w) (ef P w) dd []) Gh
  refine⟨_,rfl,_,rfl,[.inl p,.inl q,.inl f,.inr b1,.inr b2,.inr b3,.inr b4],t,rfl,ai,JN (t9 _ _ Lp),?_⟩
  have s9:aT H8 (upd (upd H8 dd (dN (AR P w) (ef P w) dd [])) dd (dN (AR P w) (ef P w) dd [([.inl p,.inl q,.inl f,.inr b1,.inr b2,.inr b3,.inr b4],t,.ref t)])):=gj Gh t9
  have u9:Nd (D8 P w K) (ef P w) (upd (upd H8 dd (dN (AR P w) (ef P w) dd [])) dd (dN (AR P w) (ef P w) dd [([.inl p,.inl q,.inl f,.inr b1,.inr b2,.inr b3,.inr b4],t,.ref t)])) dd [([.inl p,.inl q,.inl f,.inr b1,.inr b2,.inr b3,.inr b4],t,.ref t)]:=⟨ai,fun e he=>by rw[List.mem_singleton.mp he];exact JN (s9 _ _ Lp)⟩
  generalize upd (upd H8 dd (dN (AR P w) (ef P w) dd [])) dd (dN (AR P w) (ef P w) dd [([.inl p,.inl q,.inl f,.inr b1,.inr b2,.inr b3,.inr b4],t,.ref t)])=H9 at s9 u9 ⊢
  have Oj:=s9 _ _ u8
  refine⟨L,_,_,rfl,rfl,Oj,(by show 9 < sizeLine;decide),?_⟩
  have nL:∀{x:Addr}{o:HO},H7 x=some o→x≠L:=fun h e=>by rw[e,hL] at h;cases h
  have mm:∀{x:Addr}{o z:HO},H7 x=some o→(upd H9 L z) x=some o:=fun h=>(aH (nL h)).trans ((s8.trans s9) _ _ h)
  have Ol:dd≠L:=fun e=>by rw[e,u8] at Gh;cases Gh
  have e6:=s7
  have e5:=s6.trans e6
  have e4:=s5.trans e5
  have e3:=s4.trans e4
  have e2:=s3.trans e3
  have e1:=s2.trans e2
  have e0:=s1.trans e1
  have w0:=mm (z:=.lst ([V.ref l0,.ref a1,.ref a2,.ref a3,.ref a4,.str p,.non,.bl true,.int c]++[.ref dd])) (e0 _ _ u0)
  have w1:=mm (z:=.lst ([V.ref l0,.ref a1,.ref a2,.ref a3,.ref a4,.str p,.non,.bl true,.int c]++[.ref dd])) (e1 _ _ u1)
  have w2:=mm (z:=.lst ([V.ref l0,.ref a1,.ref a2,.ref a3,.ref a4,.str p,.non,.bl true,.int c]++[.ref dd])) (e3 _ _ u3)
  have w3:=mm (z:=.lst ([V.ref l0,.ref a1,.ref a2,.ref a3,.ref a4,.str p,.non,.bl true,.int c]++[.ref dd])) (e6 _ _ u6)
  have w4:=mm (z:=.lst ([V.ref l0,.ref a1,.ref a2,.ref a3,.ref a4,.str p,.non,.bl true,.int c]++[.ref dd])) u7
  have Ii:=mm (z:=.lst ([V.ref l0,.ref a1,.ref a2,.ref a3,.ref a4,.str p,.non,.bl true,.int c]++[.ref dd])) JM
  have wd:Nd (D8 P w K) (ef P w) (upd H9 L (.lst ([V.ref l0,.ref a1,.ref a2,.ref a3,.ref a4,.str p,.non,.bl true,.int c]++[.ref dd]))) dd [([.inl p,.inl q,.inl f,.inr b1,.inr b2,.inr b3,.inr b4],t,.ref t)]:=⟨(aH Ol).trans u9.ob,fun e he=>by rw[List.mem_singleton.mp he];exact JN Ii⟩
  have sM:aT H (upd H9 L (.lst ([V.ref l0,.ref a1,.ref a2,.ref a3,.ref a4,.str p,.non,.bl true,.int c]++[.ref dd]))):=gj Oh (Oi.trans s9)
  have uM:(upd H9 L (.lst ([V.ref l0,.ref a1,.ref a2,.ref a3,.ref a4,.str p,.non,.bl true,.int c]++[.ref dd]))) L=some (.lst ([V.ref l0,.ref a1,.ref a2,.ref a3,.ref a4,.str p,.non,.bl true,.int c]++[.ref dd])):=ai
  generalize upd H9 L (.lst ([V.ref l0,.ref a1,.ref a2,.ref a3,.ref a4,.str p,.non,.bl true,.int c]++[.ref dd]))=M at w0 w1 w2 w3 w4 Ii wd sM uM ⊢
  clear s0 s1 s2 s3 s4 s5 s6 s7 s8 s9 e0 e1 e2 e3 e4 e5 e6 u0 u1 u2 u3 u4 u5 u6 u7 u8 u9 mm nL t9
  have Lq:=sM _ _ ha
  have kk:∀{Hx:Hp},∀ y∈aD p q f b1 b2 b3 b4,K1 K Hx y:=fun {Hx} y hy=>by
   have a1:=gd.p3;have a2:=gd.q2;have a3:=gd.f2
   simp only[aD,List.mem_cons,List.not_mem_nil,or_false] at hy
   rcases hy with rfl | rfl | rfl | rfl | rfl | rfl | rfl
   ·exact .str (by omega)
   ·exact .str (by omega)
   ·exact .str (by omega)
   ·exact .bl
   ·exact .bl
   ·exact .bl
   ·exact .bl
  have g7:G7 (aD p q f b1 b2 b3 b4):=⟨_,_,_,_,_,_,_,rfl,gd⟩
  refine⟨_,rfl,(by decide),fun c1 i1=>?_⟩
  (have s1:=av (o:=HO.tup []) i1;have u1:=ai (H:=M) (a:=c1) (o:=HO.tup []);generalize upd M c1 (HO.tup [])=M1 at s1 u1 ⊢)
  refine⟨(by decide),fun c2 i2=>?_⟩
  (have s2:=av (o:=HO.lst []) i2;have u2:=ai (H:=M1) (a:=c2) (o:=HO.lst []);generalize upd M1 c2 (HO.lst [])=M2 at s2 u2 ⊢)
  have Es:=s2 _ _ (s1 _ _ Ii)
  refine⟨_,rfl,_,rfl,_,_,rfl,dB.of Es,nf (by decide),fun c3 i3=>?_⟩
  (have s3:=av (o:=HO.tup (bY (aD p q f b1 b2 b3 b4) none (some 3))) i3;have u3:=ai (H:=M2) (a:=c3) (o:=HO.tup (bY (aD p q f b1 b2 b3 b4) none (some 3)));generalize upd M2 c3 (HO.tup (bY (aD p q f b1 b2 b3 b4) none (some 3)))=M3 at s3 u3 ⊢)
  have Et:=s3 _ _ Es
  have Om:=s3 _ _ (s2 _ _ (s1 _ _ Lq))
  have r0:=Int.emod_nonneg n1 (show(7:Int)≠0 by decide)
  have r1:=Int.emod_lt_of_pos n1 (show(0:Int) < 7 by decide)
  refine⟨_,rfl,_,rfl,a,_,_,_,rfl,rfl,dz.of Om,rfl,_,_,rfl,rfl,(by omega),_,rfl,_,_,rfl,dB.of Et,?_,fun c4 i4=>?_⟩
  ·generalize n1 % 7=r at r0 r1
   rcases(show r=0∨r=1∨r=2∨r=3∨r=4∨r=5∨r=6 by omega) with rfl | rfl | rfl | rfl | rfl | rfl | rfl <;> exact nf (by decide)
  (have s4:=av (o:=HO.tup (bY (aD p q f b1 b2 b3 b4) none (some (n1 % 7)))) i4;have u4:=ai (H:=M3) (a:=c4) (o:=HO.tup (bY (aD p q f b1 b2 b3 b4) none (some (n1 % 7))));generalize upd M3 c4 (HO.tup (bY (aD p q f b1 b2 b3 b4) none (some (n1 % 7))))=M4 at s4 u4 ⊢)
  have EY:=s4 _ _ Et
  refine⟨_,rfl,_,rfl,t,t,_,_,rfl,rfl,dB.of EY,dB.of EY,(fun q=>nomatch q),(by show 7+7≤sizeLine;decide),(fun q=>nomatch q),fun _ c5 i5=>?_⟩
  (have s5:=av (o:=HO.tup (aD p q f b1 b2 b3 b4++aD p q f b1 b2 b3 b4)) i5;have u5:=ai (H:=M4) (a:=c5) (o:=HO.tup (aD p q f b1 b2 b3 b4++aD p q f b1 b2 b3 b4));generalize upd M4 c5 (HO.tup (aD p q f b1 b2 b3 b4++aD p q f b1 b2 b3 b4))=M5 at s5 u5 ⊢)
  have EZ:=s5 _ _ EY
  refine⟨_,rfl,.ref t,rfl,.inl ⟨K1.tup EZ,fun t' ys e1 e2=>by cases e1;rw[EZ] at e2;cases e2;exact kk⟩,fun t' p' q' f' Ia Ib Ic Ie e1 Ck g' x dx M6 Oo hx s6=>?_,(fun hn=>absurd g7 (hn t _ rfl EZ))⟩
  clear e1 Ck g'
  have JL:=s6 _ _ EZ
  refine⟨_,rfl,_,rfl,_,_,rfl,dB.of JL,nf (by decide),fun x6 y6=>?_⟩
  (have s7:=av (o:=HO.tup (bY (aD p q f b1 b2 b3 b4) (some 1) none)) y6;have u7:=ai (H:=M6) (a:=x6) (o:=HO.tup (bY (aD p q f b1 b2 b3 b4) (some 1) none));generalize upd M6 x6 (HO.tup (bY (aD p q f b1 b2 b3 b4) (some 1) none))=M7 at s7 u7 ⊢)
  refine⟨(by decide),fun x7 y7=>?_⟩
  (have s8:=av (o:=HO.tup [V.bl false,V.bl true]) y7;have u8:=ai (H:=M7) (a:=x7) (o:=HO.tup [V.bl false,V.bl true]);generalize upd M7 x7 (HO.tup [V.bl false,V.bl true])=M8 at s8 u8 ⊢)
  refine⟨x6,x7,_,_,rfl,rfl,dB.of (s8 _ _ u7),dB.of u8,(fun q=>nomatch q),(by show 6+2≤sizeLine;decide),(fun q=>nomatch q),fun _ c6 i6=>?_⟩
  (have s9:=av (o:=HO.tup (bY (aD p q f b1 b2 b3 b4) (some 1) none++[V.bl false,V.bl true])) i6;have u9:=ai (H:=M8) (a:=c6) (o:=HO.tup (bY (aD p q f b1 b2 b3 b4) (some 1) none++[V.bl false,V.bl true]));generalize upd M8 c6 (HO.tup (bY (aD p q f b1 b2 b3 b4) (some 1) none++[V.bl false,V.bl true]))=M9 at s9 u9 ⊢)
  refine⟨(by show 8≤sizeLine;decide),fun E hE=>?_⟩
  (have z1:=av (o:=HO.lst [V.ref c1,V.ref c2,V.str ("":Str),V.ref c3,V.ref c4,V.ref c5,V.ref x,V.ref c6]) hE;have v1:=ai (H:=M9) (a:=E) (o:=HO.lst [V.ref c1,V.ref c2,V.str ("":Str),V.ref c3,V.ref c4,V.ref c5,V.ref x,V.ref c6]);generalize upd M9 E (HO.lst [V.ref c1,V.ref c2,V.str ("":Str),V.ref c3,V.ref c4,V.ref c5,V.ref x,V.ref c6])=N1 at z1 v1 ⊢)
  have f9:=z1
  have f8:=s9.trans f9
  have f7:=s8.trans f8
  have f6:=s7.trans f7
  have f5:=s6.trans f6
  have f4:=s5.trans f5
  have f3:=s4.trans f4
  have f2:=s3.trans f3
  have f1:=s2.trans f2
  have f0:=s1.trans f1
  have uN:=f0 _ _ uM
  refine⟨L,E,_,_,rfl,rfl,uN,v1,(by show 10+8≤sizeLine;decide),fun B hB=>?_⟩
  (have z2:=av (o:=HO.lst ([V.ref l0,V.ref a1,V.ref a2,V.ref a3,V.ref a4,V.str p,V.non,V.bl true,V.int c]++[V.ref dd]++[V.ref c1,V.ref c2,V.str ("":Str),V.ref c3,V.ref c4,V.ref c5,V.ref x,V.ref c6])) hB;have v2:=ai (H:=N1) (a:=B) (o:=HO.lst ([V.ref l0,V.ref a1,V.ref a2,V.ref a3,V.ref a4,V.str p,V.non,V.bl true,V.int c]++[V.ref dd]++[V.ref c1,V.ref c2,V.str ("":Str),V.ref c3,V.ref c4,V.ref c5,V.ref x,V.ref c6]));generalize upd N1 B (HO.lst ([V.ref l0,V.ref a1,V.ref a2,V.ref a3,V.ref a4,V.str p,V.non,V.bl true,V.int c]++[V.ref dd]++[V.ref c1,V.ref c2,V.str ("":Str),V.ref c3,V.ref c4,V.ref c5,V.ref x,V.ref c6]))=N2 at z2 v2 ⊢)
  have gM:=f0.trans z2
  have Oq:=gM _ _ Lq
  have j0:=Int.emod_nonneg n0 (show(18:Int)≠0 by decide)
  have j1:=Int.emod_lt_of_pos n0 (show(0:Int) < 18 by decide)
  obtain⟨v,ev,hv⟩:=uG (xs:=([V.ref l0,.ref a1,.ref a2,.ref a3,.ref a4,.str p,.non,.bl true,.int c]++[V.ref dd])++[V.ref c1,.ref c2,.str ("":Str),.ref c3,.ref c4,.ref c5,.ref x,.ref c6]) (i:=n0 % 18) j0 j1
  refine⟨_,rfl,_,rfl,a,_,_,_,rfl,rfl,dz.of Oq,rfl,_,rfl,B,_,rfl,.inl (dz.of v2),_,_,rfl,rfl,(by show(0:Int) < 18;decide),B,_,_,v,rfl,rfl,dz.of v2,ev,?_⟩
  refine k v N2 (sM.trans gM) ?_
  have m0:=gM _ _ w0
  have m1:=gM _ _ w1
  have m2:=gM _ _ w2
  have m3:=gM _ _ w3
  have m4:=gM _ _ w4
  have md:=wd.mono gM
  have o1:=(f1.trans z2) _ _ u1
  have o2:=(f2.trans z2) _ _ u2
  have o3:=(f3.trans z2) _ _ u3
  have o4:=(f4.trans z2) _ _ u4
  have o5:=(f5.trans z2) _ _ u5
  have ox:=(f6.trans z2) _ _ hx
  have o6:=(f9.trans z2) _ _ u9
  have Ot:=gM _ _ Ii
  have tp:∀{x:Addr}{ys:List V},N2 x=some (.tup ys)→¬G7 ys→(∀ y∈ys,K1 K N2 y)→Wr P w K (au 20) N2 (.ref x):=fun h1 h2 h3=>.inr (.inr (.inl ⟨_,_,rfl,h1,h2,h3⟩))
  have ck:∀{lo hi:Option Int},∀ y∈bY (aD p q f b1 b2 b3 b4) lo hi,K1 K N2 y:=fun y hy=>kk y (A0 hy)
  rw[List.mem_append,List.mem_append,List.mem_singleton] at hv
  simp only[List.mem_cons,List.not_mem_nil,or_false] at hv
  rcases hv with ((rfl | rfl | rfl | rfl | rfl | rfl | rfl | rfl | rfl) | rfl) | (rfl | rfl | rfl | rfl | rfl | rfl | rfl | rfl)
  ·exact .inr (.inl ⟨l0,_,rfl,m0,fun x hx=>A1 (kk (Hx:=N2) x hx)⟩)
  ·exact tp m1 (fun h=>absurd (gD h) (by show ¬(6:Nat)=7;decide)) ck
  ·refine tp m2 (fun h=>absurd (gD h) (by show ¬(8:Nat)=7;decide)) fun y hy=>?_
   rcases List.mem_append.mp hy with z | z
   ·exact kk y z
   ·rw[List.mem_singleton.mp z];exact .bl
  ·refine tp m3 (fun h=>?_) fun y hy=>?_
   ·obtain⟨p',q',f',_,_,_,_,e,_⟩:=h
    have e:[V.bl b1,.bl b2,.bl b3,.bl b4,.str p,.str q,.str f]=_:=e
    cases e
   ·rcases List.mem_append.mp hy with z | z <;> exact ck y z
  ·exact tp m4 (fun h=>absurd (gD h) (by show ¬(1:Nat)=7;decide)) fun y hy=>by rw[List.mem_singleton.mp hy];exact K1.tup Ot
  ·exact .inl ⟨rfl,.str (by have:=gd.p3;omega)⟩
  ·exact .inl ⟨rfl,.non⟩
  ·exact .inl ⟨rfl,.bl⟩
  ·exact .inl ⟨rfl,.inr ⟨_,.int c,by decide⟩⟩
  ·exact .inr (.inr (.inr (.inl ⟨dd,_,_,_,rfl,md⟩)))
  ·exact tp o1 (fun h=>absurd (gD h) (by show ¬(0:Nat)=7;decide)) fun _ z=>nomatch z
  ·exact .inr (.inl ⟨c2,_,rfl,o2,fun _ z=>nomatch z⟩)
  ·exact .inl ⟨rfl,.str (by decide)⟩
  ·exact tp o3 (fun h=>absurd (gD h) (by show ¬(3:Nat)=7;decide)) ck
  ·refine tp o4 (fun h=>?_) ck
   have h:=gD h
   generalize n1 % 7=r at r0 r1 h
   rcases(show r=0∨r=1∨r=2∨r=3∨r=4∨r=5∨r=6 by omega) with rfl | rfl | rfl | rfl | rfl | rfl | rfl <;> first | exact absurd (show(0:Nat)=7 from h) (by decide) | exact absurd (show(1:Nat)=7 from h) (by decide) | exact absurd (show(2:Nat)=7 from h) (by decide) | exact absurd (show(3:Nat)=7 from h) (by decide) | exact absurd (show(4:Nat)=7 from h) (by decide) | exact absurd (show(5:Nat)=7 from h) (by decide) | exact absurd (show(6:Nat)=7 from h) (by decide)
  ·refine tp o5 (fun h=>absurd (gD h) (by show ¬(14:Nat)=7;decide)) fun y hy=>?_
   rcases List.mem_append.mp hy with z | z <;> exact kk y z
  ·exact .inr (.inr (.inr (.inr ⟨x,_,_,rfl,ox⟩)))
  ·refine tp o6 (fun h=>absurd (gD h) (by show ¬(8:Nat)=7;decide)) fun y hy=>?_
   rcases List.mem_append.mp hy with z | z
   ·exact ck y z
   ·simp only[List.mem_cons,List.not_mem_nil,or_false] at z
    rcases z with rfl | rfl <;> exact .bl
def gZ (P:Program) (w:World) (K:W.Frag) (C:Addr):Sp:=fun vs H Q _=>∃(v:V),vs=[v]∧Wr P w K C H v∧∀ H',aT H H'→Q (.bl true) H'
theorem lW:bg P w K mg base gS 6 (au 18) (bU 18) ["_law_thing"] (gZ P w K (au 20)):=by
 have qy:xm P w K mg base 1 (au 16) (bU 16) ["_law_e"] (jj K [(au 23),(au 25),(au 27),(au 29),(au 31),(au 33),(au 35),(au 37),(au 39),(au 41),(au 43)]):=oz T
 have dS:bg P w K mg base (pM P w) 5 (au 8) (bU 8) ["told"] (eg K (au 20) (au 27)):=gh T
 refine T.iC.ok cS (fun vs H Q E h=>?_) (fun cdv A outer s H vs Q E hr h=>?_)
 ·obtain⟨v,rfl,_⟩:=h;rfl
 ·have hu:=fE hr
  have qf:=hr.cy
  obtain⟨v,rfl,hv,k⟩:=h
  have A9:=hr.units
  have xq:Li K (au 27) (au 21) [(au 23),(au 25),(au 27),(au 29),(au 31),(au 33),(au 35),(au 37),(au 39),(au 41),(au 43)] (fun j=>decide ((j:Int)=2)):=⟨⟨_,_,_,T.bH,(.inr ⟨_,_,rfl,T.aX⟩)⟩,T.jY,(fun j D hj=>match j,hj with | 0,hj=>by obtain rfl:(au 23)=D:=Option.some.inj hj;exact T.cN | 1,hj=>by obtain rfl:(au 25)=D:=Option.some.inj hj;exact T.cD | 2,hj=>by obtain rfl:(au 27)=D:=Option.some.inj hj;exact T.bO | 3,hj=>by obtain rfl:(au 29)=D:=Option.some.inj hj;exact T.bZ | 4,hj=>by obtain rfl:(au 31)=D:=Option.some.inj hj;exact T.cO | 5,hj=>by obtain rfl:(au 33)=D:=Option.some.inj hj;exact T.dg | 6,hj=>by obtain rfl:(au 35)=D:=Option.some.inj hj;exact T.dh | 7,hj=>by obtain rfl:(au 37)=D:=Option.some.inj hj;exact T.cP | 8,hj=>by obtain rfl:(au 39)=D:=Option.some.inj hj;exact T.cE | 9,hj=>by obtain rfl:(au 41)=D:=Option.some.inj hj;exact T.cQ | 10,hj=>by obtain rfl:(au 43)=D:=Option.some.inj hj;exact T.bP | (j+11),hj=>by simp at hj),T.br,T.e8⟩
  refine⟨_,(ao (lD 1 cS.nd (pv 0) (hs:=Cu))
   (ao (fB (ia (lQ (jS K rfl) T.aF (af (pv 0) (af (Gv "list" T.qu) ak aj) aj))) (aE (lD 1 cS.nd (Ld (jc K rfl) T.qu (af (pv 0) ak aj)) (hs:=gB))) bA)
   (ao (Cs rfl rfl (AD (AB (AA (k:=5) dS (hr.mono (by decide)) rfl T.gF T.eY.kp T.gE .nil (af (pv 0) ak aj)))) (Ge (i:=2) rfl rfl T.nI T.aX (.inl rfl) cS.nd rfl rfl (fun ea=>(aE (aZ (mX (AV (g8.Jg ie (g8.Jg (Ax K rfl A9) (g8.Jg (Cz (D8 P w K) (ef P w) rfl rfl rfl (Ej A9)) (D5 K rfl qf)))) (pv 0) (pv 1)) (mX (lQ (bS rfl) T.aF (af (pv 2) (af (Gv "ValueError" T.om) ak aj) aj)) (tZ (AV (Ax K rfl A9) (AE (k:=1) qy ((hr.mono (by decide)).m.mark _) rfl T.qp T.jW.kp T.qo (af (pv 2) ak aj)) (AH (G:=Hd ea) (fun _ _ _ _=>rfl) (show cI ["_law_thing", "_law_kept", "_law_e"] (aq bD) ["_law_k"] 1 [] _ from Ju) (x8 (ea:=ea) rfl T.jZ (af ah ak az)) (fun _ _ _ _=>(xw 0 Nf)) (fun _ _ _ _=>qb) (fun _ _ _ _=>(AV ie (pv 0) ah)))))))))) DY) bA)
   (aE (aZ jN))))),?_⟩
  refine⟨_,rfl,?_⟩
  dsimp only[mZ]
  refine yf (t:=E8 _ _ _) (fun σ' G=>aT H G∧∃ u,σ'=[some v,some u,none]∧∀ G',aT G G'→∀ Q':V→Hp→Prop,Q' (.bl true) G'→(KY v u G' Q'∨FL K v u G' Q'∨Df (D8 P w K) (ef P w) v u G' Q'∨Gq K v u G' Q')) ?_ (fun go=>?_)
  rotate_left
  ·rcases hv with ⟨h1,h2⟩ | ⟨a,xs,rfl,h1,h2⟩ | ⟨a,ys,rfl,h1,h2,h3⟩ | ⟨a,k',b,c,rfl,h1⟩ | ⟨a,dx,fs,rfl,h1⟩
   ·obtain⟨ty,t1,t2⟩:=Gx (K:=K) (H:=H) h1
    refine⟨_,rfl,_,_,_,false,rfl,t1,t2,false,rfl,uv (go _ _ ⟨aT.refl _,v,rfl,fun G' _ Q' q=>.inl ⟨CJ h1,?_⟩⟩)⟩
    rw[decide_eq_true rfl];exact q
   ·refine⟨_,rfl,_,_,_,true,rfl,.of (.lst h1),rfl,true,rfl,lP ⟨_,rfl,a,xs,rfl,.inl (dz.of h1),fun l hl=>?_⟩⟩
    have s1:=av (o:=HO.lst xs) hl
    have e1:(upd H l (.lst xs)) l=some (.lst xs):=ai
    generalize upd H l (.lst xs)=H1 at s1 e1 ⊢
    refine go _ _ ⟨s1,.ref l,rfl,fun G' s' Q' q=>.inr (.inl ⟨⟨1,a,l,xs,xs,rfl,rfl,by decide,rfl,.inr ⟨dz.of (s' _ _ (s1 _ _ h1)),dz.of (s' _ _ e1)⟩,fun j x y ex ey=>?_⟩,q⟩)⟩
    rw[ex] at ey;cases ey
    exact sF (h2 x (List.mem_of_getElem? ex))
   ·refine⟨_,rfl,_,_,_,false,rfl,.of (.tup h1),rfl,false,rfl,uv (go _ _ ⟨aT.refl _,_,rfl,fun G' s' Q' q=>.inr (.inl ⟨⟨1,a,a,ys,ys,rfl,rfl,by decide,rfl,.inl ⟨dB.of (s' _ _ h1),dB.of (s' _ _ h1)⟩,fun j x y ex ey=>?_⟩,q⟩)⟩)⟩
    rw[ex] at ey;cases ey
    exact sF (A1 (h3 x (List.mem_of_getElem? ex)))
   ·exact⟨_,rfl,_,_,_,false,rfl,.dn h1.ob,rfl,false,rfl,uv (go _ _ ⟨aT.refl _,_,rfl,fun G' s' Q' q=>.inr (.inr (.inl ⟨a,k',b,c,rfl,rfl,h1.mono s',q⟩))⟩)⟩
   ·exact⟨_,rfl,_,_,_,false,rfl,.of (.ins h1 T.aM T.bQ.1 T.bQ.2.1 T.bQ.2.2.1 T.bQ.2.2.2.1),T.jD.2.2,false,rfl,uv (go _ _ ⟨aT.refl _,_,rfl,fun G' s' Q' q=>.inr (.inr (.inr ⟨a,_,_,_,rfl,rfl,s' _ _ h1,T.jD.1,T.bQ.2.2.2.1,q⟩))⟩)⟩
  rintro σ' G ⟨sG,u,rfl,Ou⟩
  have k:∀ H',aT G H'→Q (.bl true) H':=fun H' s'=>k H' (sG.trans s')
  have hv:=hv.mono sG
  have bad:=hv.bad
  refine⟨_,rfl,v,rfl,?_,(fun t' p q f b1 b2 b3 b4 e1 e2 g=>absurd ⟨_,_,_,_,_,_,_,rfl,g⟩ (bad t' _ e1 e2)),fun _ H1 s1 ea Jr=>?_⟩
  ·rcases hv with ⟨h1,h2⟩ | ⟨a,xs,rfl,h1,h2⟩ | ⟨a,ys,rfl,h1,h2,h3⟩ | ⟨a,k',b,c,rfl,h1⟩ | ⟨a,dx,fs,rfl,h1⟩
   ·exact .inl ⟨h2,fun t ys e=>by subst e;cases h1⟩
   ·exact .inl ⟨.inr ⟨_,.lst h1,by decide⟩,fun t ys e e2=>by cases e;rw[h1] at e2;cases e2⟩
   ·exact .inl ⟨K1.tup h1,fun t ys' e e2=>by cases e;rw[h1] at e2;cases e2;exact h3⟩
   ·exact .inr ⟨_,.dn h1.ob,rfl,fun t ys e e2=>by cases e;rw[h1.ob] at e2;cases e2⟩
   ·exact .inr ⟨_,.of (.ins h1 T.aM T.bQ.1 T.bQ.2.1 T.bQ.2.2.1 T.bQ.2.2.2.1),T.jD.2.1,fun t ys e e2=>by cases e;rw[h1] at e2;cases e2⟩
  refine⟨(au 27),(au 28),_,_,rfl,T.bH,Gw (by simp) ?_⟩
  have he:(upd H1 ea (BH ea (.ref (au 27)) none)) ea=some (BH ea (.ref (au 27)) none):=ai
  have s2:=av (o:=BH ea (.ref (au 27)) none) Jr
  generalize upd H1 ea (BH ea (.ref (au 27)) none)=H2 at he s2 ⊢
  have xo:C7 H2 ea (au 27):=⟨none,.inr he,.inl rfl⟩
  refine⟨_,rfl,_,rfl,Ou H2 (s1.trans s2) _ ⟨true,rfl,lP ?_⟩⟩
  refine⟨_,rfl,ea,(au 27),_,_,_,_,true,rfl,xo,T.bH,(.inr ⟨_,_,rfl,T.aX⟩),T.jY,.inl ⟨_,rfl,T.e8⟩,true,rfl,lP ?_⟩
  refine⟨_,rfl,ea,(au 27),(au 21),_,rfl,xo,xq,fun l H3 s3 hl=>?_⟩
  refine⟨_,rfl,by decide,by decide,fun D hD=>?_⟩
  refine se (fun i ys τ H4=>(∃ v,τ=[v])∧aT H3 H4∧H4 D=some (.lst ys)∧ys=(List.range i).map fun j:Nat=>V.bl (decide ((j:Int)=2))) ⟨⟨_,rfl⟩,av hD,ai,rfl⟩ (fun i ys τ H4 _ p=>p.2.2.1) ?_ ?_
  ·rintro i ys τ H4 hi ⟨⟨v,rfl⟩,s4,JO,rfl⟩
   have hi:i < 11:=hi
   refine Ea ?_
   refine⟨_,rfl,rfl,JO,?_,⟨_,rfl⟩,gj hD s4,ai,?_⟩
   ·rw[List.length_map,List.length_range];exact Nat.lt_of_lt_of_le hi (by decide)
   rw[List.range_succ,List.map_append]
   show _++[V.bl (decide (V.int (0+(i:Int))=V.int 2))]=_++[V.bl (decide ((i:Int)=2))]
   rw[Int.zero_add,CH]
  ·rintro ys τ H4 ⟨_,s4,JO,rfl⟩
   refine⟨⟨_,_,(s3.trans s4) _ _ he⟩,⟨1,l,D,_,_,rfl,rfl,by decide,rfl,.inr ⟨dz.of (s4 _ _ hl),dz.of JO⟩,same_self ?_⟩,k _ (s1.trans (s2.trans (s3.trans s4)))⟩
   rw[List.all_map,List.all_eq_true];exact fun _ _=>rfl
def qz (K:W.Frag):Sp:=fun vs H Q _=>∃(a:Addr) (ns:List Int),vs=[.ref a]∧dz K H a (ns.map V.int)∧ns.length≤63∧∀ H',Q (.bl true) H'
theorem Eu:bg P w K mg base gS 7 (au 19) (bU 19) ["_law_script"] (qz K):=by
 have nM:bg P w K mg base gS 1 (au 7) (bU 7) ["self"] (gX (au 20)):=lU T
 have nN:bg P w K mg base gS 1 (au 9) (bU 9) ["_law_script", "_law_k"] (gY K):=lV T
 have qA:bg P w K mg base gS 2 (au 15) (bU 15) ["_law_cell", "_law_many"] ji:=ow T
 have nO:bg P w K mg base gS 6 (au 18) (bU 18) ["_law_thing"] (gZ P w K (au 20)):=lW T
 have sO:bg P w K mg base gS 3 (au 14) (bU 14) ["_law_cell"] j4:=qw T
 have qB:bg P w K mg base gS 6 (au 17) (bU 17) ["_law_told_here", "_law_xs", "_law_cell"] (jk P w K (au 20)):=oA T
 have dS:bg P w K mg base (pM P w) 5 (au 8) (bU 8) ["told"] (eg K (au 20) (au 27)):=gh T
 refine T.Gy.ok kN (fun vs H Q E h=>?_) (fun cdv A outer s H vs Q E hr h=>?_)
 ·obtain⟨a,ns,rfl,_⟩:=h;rfl
 ·have hu:=fE hr
  have qf:=hr.cy
  obtain⟨a,ns,rfl,Lr,hlen,k⟩:=h
  refine⟨_,(ao (m5 PassesOwn.never rfl (rS K rfl (aC qa (cX (af (rH nN hr T.nF T.iz.kp T.nE (af (pv 0) (af ah ak az) aj)) ak bK)) (fD (Au K rfl) (pv 0) gu (gv ah)))) (xw 1 kN.nd)
   (ao (lD 2 kN.nd (rH sO hr T.sL T.lF.kp T.sJ (af (pv 1) ak aj)) (hs:=gB))
   (ao (lD 3 kN.nd (rH qA hr T.qm T.jV.kp T.ql (af (aC cH (pv 1) ah) (af ah ak az) bu)) (hs:=gB))
   (aE (m5 PassesOwn.never rfl (rS K rfl (cX (af (rJ K (pv 3) ah) (af (rJ K (pv 3) ah) (af (rJ K (pv 3) ah) ak ay) ay) ay))) (xw 4 kN.nd)
   (ao (fB (jv (ia (rH nO hr T.nH T.iC.kp T.nG (af (rH qB hr T.qt T.jX.kp T.qq (af (pv 2) (af (cX (af (pv 4) (af (rJ K (pv 3) ah) ak ay) aj)) (af (pv 1) ak aj) xr) aj)) ak bK)))) (aE (aZ jN)) bA)
   (ao (lD 5 kN.nd (pX (k:=5) dS (hr.mono (by decide)) rfl T.gF T.eY.kp T.gE .nil C8 (af (pv 2) ak aj)) (hs:=gB))
   (aE (fB (PW.pt (o9 (yd (DR K rfl qf) (Ag (k:=1) (pv 5) T.aM T.nD nM (hr.mono (by decide)) T.nC .nil C3) (pv 2)) (o9 (yd wX (eX K rfl (pv 5) rfl) (BI K (pv 2) ah)) (pT (yd wX (eX K rfl (pv 5) rfl) (BI K (pv 2) ah)))))) (aE (aZ jN)) bA)))))))))
   (aE (aZ jN))),?_⟩
  refine⟨_,rfl,a,_,_,rfl,Lr,by decide,fun c0=>⟨(by show 1≤sizeLine;decide),fun l1 h1=>?_⟩⟩
  have s1:=av (o:=HO.lst [.int c0]) h1
  refine⟨_,rfl,_,rfl,a,_,rfl,s1.seq Lr,fun l2 h2=>?_⟩
  obtain⟨ms,em,lm⟩:=CB V.int ns none (some 10)
  rw[em]
  have Ov:l1≠l2:=aO ai h2
  refine⟨l1,l2,_,_,rfl,rfl,(aH Ov).trans ai,ai,?_,fun pp hpp=>?_⟩
  ·rw[List.length_map];exact Nat.le_trans (show 1+ms.length≤64 by omega) (by decide)
  have Ow:[V.int c0]++ms.map V.int=(c0 :: ms).map V.int:=rfl
  rw[Ow]
  have ep:(upd (upd (upd H l1 (.lst [.int c0])) l2 (.lst (ms.map V.int))) pp (.lst ((c0 :: ms).map V.int))) pp=some (.lst ((c0 :: ms).map V.int)):=ai
  generalize upd (upd (upd H l1 (.lst [.int c0])) l2 (.lst (ms.map V.int))) pp (.lst ((c0 :: ms).map V.int))=Hb at ep ⊢
  generalize c0 :: ms=cs at ep ⊢
  refine⟨pp,rfl,⟨_,dz.of ep⟩,?_⟩
  refine rO (K:=K) (a:=pp) (xs:=cs.map V.int) (fun i σ H2=>aT Hb H2∧∃ v1 v2 v3 v4 v5,σ=[some (.ref a),v1,v2,v3,v4,v5]) ⟨aT.refl _,_,_,_,_,_,rfl⟩ (fun i σ H2 _ q=>dz.of (q.1 _ _ ep)) ?_ ?_
  rotate_left
  ·rintro σ H2 ⟨s2,v1,v2,v3,v4,v5,rfl⟩
   exact k _
  rintro i e σ H2 hi ⟨s2,v1,v2,v3,v4,v5,rfl⟩
  obtain⟨c,rfl⟩:∃ c,e=V.int c:=by
   rw[List.getElem?_map] at hi
   cases e:cs[i]? with
   | none=>rw[e] at hi;cases hi
   | some z=>rw[e] at hi;exact⟨z,(Option.some.inj hi).symm⟩
  refine⟨_,rfl,c,rfl,fun t p q f b1 b2 b3 b4 H3 g ht h3 s3=>?_⟩
  refine⟨_,rfl,_,_,rfl,rfl,⟨by decide,by decide⟩,_,_,rfl,(by decide),(by decide),fun xl xs H4 xn x0 xf Ij s4=>?_⟩
  obtain⟨n0,n1,n2,rfl⟩:∃ n0 n1 n2,xs=[n0,n1,n2]:=by
   match xs,xn with
   | [n0,n1,n2],_=>exact⟨_,_,_,rfl⟩
  have h4:=s4 _ _ h3
  refine⟨_,rfl,xl,_,_,_,rfl,rfl,dz.of Ij,rfl,_,rfl,xl,_,_,_,rfl,rfl,dz.of Ij,rfl,_,rfl,xl,_,_,_,rfl,rfl,dz.of Ij,rfl,(by show 3≤sizeLine;decide),fun lw Ox=>?_⟩
  have s5:=av (o:=HO.lst [.int n0,.int n2,.int n0]) Ox
  have ew:(upd H4 lw (.lst [.int n0,.int n2,.int n0])) lw=some (.lst [.int n0,.int n2,.int n0]):=ai
  generalize upd H4 lw (.lst [.int n0,.int n2,.int n0])=H5 at s5 ew ⊢
  refine⟨lw,rfl,⟨_,dz.of ew⟩,?_⟩
  have Oz:=s2.trans (s3.trans (s4.trans s5))
  refine rO (K:=K) (a:=lw) (xs:=[.int n0,.int n2,.int n0]) (fun i σ H6=>aT H5 H6∧∃ v4 v5,σ=[some (.ref a),some (.int c),some (.ref t),some (.ref xl),v4,v5]) ⟨aT.refl _,_,_,rfl⟩ (fun i σ H6 _ q=>dz.of (q.1 _ _ ew)) ?_ ?_
  rotate_left
  ·rintro σ H6 ⟨s6,v4,v5,rfl⟩
   exact⟨Oz.trans s6,_,_,_,_,_,rfl⟩
  rintro i' e σ H6 hi' ⟨s6,v4,v5,rfl⟩
  obtain⟨n,rfl⟩:∃ n,e=V.int n:=by
   have hm:=List.mem_of_getElem? hi'
   simp only[List.mem_cons,List.not_mem_nil,or_false] at hm
   rcases hm with rfl | rfl | rfl <;> exact⟨_,rfl⟩
  have h6:=s6 _ _ (s5 _ _ h4)
  have OA:=s6 _ _ (s5 _ _ Ij)
  refine⟨_,rfl,_,rfl,_,rfl,xl,_,_,_,rfl,rfl,dz.of OA,rfl,(by show 2≤sizeLine;decide),fun la hla=>?_⟩
  have s7:=av (o:=HO.lst [.int n,.int n1]) hla
  have ea:(upd H6 la (.lst [.int n,.int n1])) la=some (.lst [.int n,.int n1]):=ai
  generalize upd H6 la (.lst [.int n,.int n1])=H7 at s7 ea ⊢
  have h7:=s7 _ _ h6
  refine⟨_,rfl,t,la,p,q,f,b1,b2,b3,b4,n,n1,c,rfl,h7,g,ea,fun v H8 s8 wr=>?_⟩
  refine⟨v,rfl,wr,fun H9 s9=>⟨true,rfl,uv ?_⟩⟩
  have h9:=(s8.trans s9) _ _ h7
  have kk:∀{Hx:Hp},∀ y∈aD p q f b1 b2 b3 b4,K1 K Hx y:=fun {Hx} y hy=>by
   have a1:=g.p3;have a2:=g.q2;have a3:=g.f2
   simp only[aD,List.mem_cons,List.not_mem_nil,or_false] at hy
   rcases hy with rfl | rfl | rfl | rfl | rfl | rfl | rfl
   ·exact .str (by omega)
   ·exact .str (by omega)
   ·exact .str (by omega)
   ·exact .bl
   ·exact .bl
   ·exact .bl
   ·exact .bl
  have g7:G7 (aD p q f b1 b2 b3 b4):=⟨_,_,_,_,_,_,_,rfl,g⟩
  have fl:(aD p q f b1 b2 b3 b4).all eN=true:=rfl
  refine⟨_,rfl,.ref t,rfl,.inl ⟨K1.tup h9,fun t' ys e1 e2=>by cases e1;rw[h9] at e2;cases e2;exact kk⟩,fun t' p' q' f' Ia Ib Ic Ie e1 Ck g' x dx HA Oo hx sA=>?_,(fun hn=>absurd g7 (hn t _ rfl h9))⟩
  cases e1
  rw[h9] at Ck
  obtain⟨rfl,rfl,rfl,rfl,rfl,rfl,rfl⟩:=yi (HO.tup.inj (Option.some.inj Ck))
  refine⟨_,rfl,x,dx,_,rfl,hx,rfl,x,dx,p,q,f,b1,b2,b3,b4,rfl,hx,fun u hu1=>?_⟩
  have hA:=sA _ _ h9
  have sB:=av (o:=HO.tup (aD p q f b1 b2 b3 b4)) hu1
  have hB:=sB _ _ hA
  have JP:=sB _ _ hx
  have uB:(upd HA u (HO.tup (aD p q f b1 b2 b3 b4))) u=some (.tup (aD p q f b1 b2 b3 b4)):=ai
  generalize upd HA u (HO.tup (aD p q f b1 b2 b3 b4))=HB at sB hB JP uB ⊢
  refine⟨_,rfl,u,t,_,_,rfl,rfl,dB.of uB,dB.of hB,fl,fl,_,rfl,nt (pI fl) ?_⟩
  refine⟨_,rfl,_,_,_,_,_,rfl,JP,?_,?_,rfl,_,rfl,_,_,_,_,rfl,rfl,dB.of hB,rfl,rfl,_,rfl,Lb rfl (⟨_,rfl,_,_,_,_,_,rfl,JP,?_,?_,rfl,_,rfl,_,_,_,_,rfl,rfl,dB.of hB,rfl,rfl,_,rfl,Lb rfl (⟨(((((s6.trans s7).trans s8).trans s9).trans sA).trans sB),_,_,rfl⟩)⟩)⟩
  ·exact T.aM
  ·exact T.bV
  ·exact T.aM
  ·exact T.bW
end
end
theorem all_mk {l:W.OpenLaw}{w:World}{K:W.Frag}{h:Heap}{mg:Str→Option Value}{fa dU bR bh aY bx bq bz cF e9 dW ff er fM fh fN fj fk fm dX Ba aL aA dY iF j5 gk iM aB fO fH gG iG j6 j7 mQ j8 mR cG j9 bE iN bF kc aS fP:Addr}{OB JQ OC Ls OD JR OE Lu OG Lv OH Lw OI Lx OJ Ly OL Lz OM LA JS GH JT GI JU GJ JV GK JW GL JX GN JY GO JZ GP J4 GQ J5 Ew:Option Addr}{ON OO sl2 OP OQ OR OS OT OU OV J6 J7 J8 J9 Ka Kc Kd Ke Kf Kg:Array (Option Value)}{OW Kh Kl Km Ik Kn OX LB LC LD Ko LF OY Kp Kq Kr Il Ks OZ LG LH LI Ku LJ O0 LK LL LM Kv LN O1 LO LP LQ Kw LR O2 LS LU LV Ky LW O3 LX LY LZ Kz L3 O4 L4 L5 L6 KA L7 O5 L8 Ma Mb KC Mc KD GR GS GU Ey GV KG GW GX GY Ez GZ KH G0 G1 G2 EA G3 KI G4 G5 G6 EB G8 KJ G9 Hf Hg EC Hh KL Hi Hj Hl ED Ho KN Hq Hr Hs EE Ht KO Hu Hv Hw EF Hy KP Hz HC HD EG HE KQ EH EI EJ CP EK:Value}{aR:Addr} (X:K.In h) (G:h.Ns mainGlobals mg) (O6:mg "law" = some (.ref fa))
  (uL:W.nsIn K mainGlobals "Dialect" = some (some (.ref aL)))
  (eF:W.nsIn K mainGlobals "DialectError" = some (some (.ref aA)))
  (kO:W.nsIn K mainGlobals "NoText" = some (some (.ref iF)))
  (jG:W.nsIn K mainGlobals "NoTable" = some (some (.ref gk)))
  (gH:W.nsIn K mainGlobals "NoDialect" = some (some (.ref aB)))
  (iH:W.nsIn K mainGlobals "NoFamily" = some (some (.ref fH)))
  (kP:W.nsIn K mainGlobals "NoMost" = some (some (.ref iG)))
  (nP:W.nsIn K mainGlobals "NoAsk" = some (some (.ref j7)))
  (nQ:W.nsIn K mainGlobals "NoRow" = some (some (.ref j8)))
  (kQ:W.nsIn K mainGlobals "NoName" = some (some (.ref cG)))
  (jH:W.nsIn K mainGlobals "TooMany" = some (some (.ref bE)))
  (kR:W.nsIn K mainGlobals "Broken" = some (some (.ref bF)))
  (gI:W.nsIn K mainGlobals "NoWriting" = some (some (.ref aS)))
  (a0:W.nsIn K mainGlobals "is_printable" = RF dU)
  (l0:K.lookup dU=FO "is_printable" "is_printable" bC .none OW OB Kh Kl Km JQ Ik Kn ON) (c0:W.codeIn K Ik "is_printable" = true) (k0:W.keepIn K (.ref dU)=true)
  (a1:W.nsIn K mainGlobals "are_unlike_signs" = RF bR)
  (l1:K.lookup bR=FO "are_unlike_signs" "are_unlike_signs" aV .none OX OC LB LC LD Ls Ko LF OO) (c1:W.codeIn K Ko "are_unlike_signs" = true) (k1:W.keepIn K (.ref bR)=true)
  (a2:W.findIn K (.ref aL) "__init__" = some (some (.ref bh))) (i2:W.isFn K (.ref bh)=true)
  (l2:K.lookup bh=FO "__init__" "Dialect.__init__" aN (.ref aR) OY OD Kp Kq Kr JR Il Ks sl2) (c2:W.codeIn K Il "Dialect.__init__" = true) (k2:W.keepIn K (.ref bh)=true)
  {HF:Option Addr}{KR:Nat}{HG:Array (Option Value)}{HH HJ:Tok} (d2:K.lookup aR=some ⟨.type "tuple",HF,.seq #[.str ("":Str) HH,.str ("":Str) HJ,.bool false,.bool false,.bool false,.bool false] KR,HG⟩)
  (l3:K.lookup aY=FO "__init__" "NoWriting.__init__" bw .none OZ OE LG LH LI Lu Ku LJ OP) (c3:W.codeIn K Ku "NoWriting.__init__" = true) (k3:W.keepIn K (.ref aY)=true)
  (l4:K.lookup bx=FO "__init__" "Broken.__init__" cj .none O0 OG LK LL LM Lv Kv LN OQ) (c4:W.codeIn K Kv "Broken.__init__" = true) (k4:W.keepIn K (.ref bx)=true)
  (l5:K.lookup bq=FO "__init__" "TooMany.__init__" bM .none O1 OH LO LP LQ Lw Kw LR OR) (c5:W.codeIn K Kw "TooMany.__init__" = true) (k5:W.keepIn K (.ref bq)=true)
  (l6:K.lookup bz=FO "__init__" "NoName.__init__" cu .none O2 OI LS LU LV Lx Ky LW OS) (c6:W.codeIn K Ky "NoName.__init__" = true) (k6:W.keepIn K (.ref bz)=true)
  (a7:W.findIn K (.ref aL) "told" = some (some (.ref cF))) (i7:W.isFn K (.ref cF)=true)
  (l7:K.lookup cF=FO "told" "Dialect.told" cB .none O3 OJ LX LY LZ Ly Kz L3 OT) (c7:W.codeIn K Kz "Dialect.told" = true) (k7:W.keepIn K (.ref cF)=true)
  (a8:W.nsIn K mainGlobals "dialect_of" = RF e9)
  (l8:K.lookup e9=FO "dialect_of" "dialect_of" dF .none O4 OL L4 L5 L6 Lz KA L7 OU) (c8:W.codeIn K KA "dialect_of" = true) (k8:W.keepIn K (.ref e9)=true)
  (a9:W.nsIn K mainGlobals "_law_cell_at" = RF dW)
  (l9:K.lookup dW=FO "_law_cell_at" "_law_cell_at" cC .none O5 OM L8 Ma Mb LA KC Mc OV) (c9:W.codeIn K KC "_law_cell_at" = true) (k9:W.keepIn K (.ref dW)=true)
  (O7:W.nsIn K mainGlobals "_law_mixed" = RF ff)
  (Lh:K.lookup ff=FO "_law_mixed" "_law_mixed" dG .none KD JS GR GS GU GH Ey GV J6) (O8:W.codeIn K Ey "_law_mixed" = true) (O9:W.keepIn K (.ref ff)=true)
  (Pa:W.nsIn K mainGlobals "_law_number" = RF er)
  (Pb:K.lookup er=FO "_law_number" "_law_number" cR .none KG JT GW GX GY GI Ez GZ J7) (Pc:W.codeIn K Ez "_law_number" = true) (Pd:W.keepIn K (.ref er)=true)
  (Pe:W.nsIn K mainGlobals "_law_some" = RF fM)
  (Pf:K.lookup fM=FO "_law_some" "_law_some" ez .none KH JU G0 G1 G2 GJ EA G3 J8) (c12:W.codeIn K EA "_law_some" = true) (Pg:W.keepIn K (.ref fM)=true)
  (Ph:W.nsIn K mainGlobals "_law_menus" = RF fh)
  (Pj:K.lookup fh=FO "_law_menus" "_law_menus" dH .none KI JV G4 G5 G6 GK EB G8 J9) (Pk:W.codeIn K EB "_law_menus" = true) (Po:W.keepIn K (.ref fh)=true)
  (Pp:W.nsIn K mainGlobals "_law_told" = RF fN)
  (Pq:K.lookup fN=FO "_law_told" "_law_told" eB .none KJ JW G9 Hf Hg GL EC Hh Ka) (Pr:W.codeIn K EC "_law_told" = true) (Pu:W.keepIn K (.ref fN)=true)
  (Pw:W.nsIn K mainGlobals "_law_drawn" = RF fj)
  (Px:K.lookup fj=FO "_law_drawn" "_law_drawn" cJ .none KL JX Hi Hj Hl GN ED Ho Kc) (Py:W.codeIn K ED "_law_drawn" = true) (Pz:W.keepIn K (.ref fj)=true)
  (PB:W.nsIn K mainGlobals "_law_flags" = RF fk)
  (PC:K.lookup fk=FO "_law_flags" "_law_flags" dI .none KN JY Hq Hr Hs GO EE Ht Kd) (PD:W.codeIn K EE "_law_flags" = true) (PF:W.keepIn K (.ref fk)=true)
  (JI:W.nsIn K mainGlobals "_law_wrong" = RF fm)
  (PJ:K.lookup fm=FO "_law_wrong" "_law_wrong" dJ .none KO JZ Hu Hv Hw GP EF Hy Ke) (PK:W.codeIn K EF "_law_wrong" = true) (PL:W.keepIn K (.ref fm)=true)
  (JK:W.nsIn K mainGlobals "_law_refused" = RF dX)
  (PM:K.lookup dX=FO "_law_refused" "_law_refused" bD .none KP J4 Hz HC HD GQ EG HE Kf) (PN:W.codeIn K EG "_law_refused" = true) (PR:W.keepIn K (.ref dX)=true)
  (Me:W.nsIn K mainGlobals "law" = RF Ba)
  (PU:K.lookup Ba=FO "law" "law" lE .none KQ J5 EH EI EJ Ew CP EK Kg) (PV:W.codeIn K CP "law" = true) (PX:W.keepIn K (.ref Ba)=true)
  (uO:W.plainGet K aL Str.empty=true) (uP:W.hasDictIn K aL=true) (uQ:W.plainOver K aL=true) (uR:W.findIn K (.ref aL) "__setattr__" = some (some (.builtin "object.__setattr__"))) (uS:W.makesIn K aL=true) (uT:W.keepIn K (.ref aL)=true)
  (bV:W.findIn K (.ref aL) "parts" = some none)
  (cL:W.findIn K (.ref aL) "quotes" = some none)
  (cT:W.findIn K (.ref aL) "frees" = some none)
  (dO:W.findIn K (.ref aL) "twin" = some none)
  (dP:W.findIn K (.ref aL) "wide" = some none)
  (dQ:W.findIn K (.ref aL) "thin" = some none)
  (bW:W.findIn K (.ref aL) "stray" = some none)
  {lX lY:Str}{lZ kT:List Value}{kU mh:Bool}{mj:List Str}{kW:Option Bool}{mq kX:Option Addr}{mw mC mD mE mF:Option Value}{kY:Value}{gm:Array DictEntry}{mG:Nat}{kZ:Array (Option Value)}
  (cU:K.lookup aA=some (excClassObj lX lY aA dY lZ d7 kU mj kT mh kW mq mw mC mD mE mF "ValueError.__new__"))
  (cV:K.lookup dY=some ⟨kY,kX,.dict gm mG,kZ⟩) (fQ:(gm.toList.all fun e=>match e.key with | .str _ _=>true | _=>false)=true) (cW:W.nsIn K dY "__init__" = some none)
  (mH:W.specialIn K (.ref aA) "__getattribute__" = some (some (.builtin "type.__getattribute__"))) (mJ:W.readsIn K aA (.type "type")=true) (mK:W.findCls K (.ref aA) (.type "type") "__init__" = some (.val (.builtin "ValueError.__init__")))
  {yp yq:Str}{yr uU:List Value}{uV yt:Bool}{yu:List Str}{uW:Option Bool}{yw uX:Option Addr}{yx yy yz yC yD:Option Value}{uY:Value}{nR:Array DictEntry}{yE:Nat}{uZ:Array (Option Value)}
  (iO:K.lookup iF=some (excClassObj yp yq iF j5 yr (.ref aA :: d7) uV yu uU yt uW yw yx yy yz yC yD "ValueError.__new__"))
  (iP:K.lookup j5=some ⟨uY,uX,.dict nR yE,uZ⟩) (lG:(nR.toList.all fun e=>match e.key with | .str _ _=>true | _=>false)=true) (iQ:W.nsIn K j5 "__init__" = some none)
  {vd vf:Str}{vg sP:List Value}{sQ vh:Bool}{vj:List Str}{sR:Option Bool}{vm sS:Option Addr}{vn vo vp vq vt:Option Value}{sU:Value}{lH:Array DictEntry}{vv:Nat}{sV:Array (Option Value)}
  (gJ:K.lookup gk=some (excClassObj vd vf gk iM vg (.ref aA :: d7) sQ vj sP vh sR vm vn vo vp vq vt "ValueError.__new__"))
  (gK:K.lookup iM=some ⟨sU,sS,.dict lH vv,sV⟩) (kg:(lH.toList.all fun e=>match e.key with | .str _ _=>true | _=>false)=true) (gO:W.nsIn K iM "__init__" = some none)
  {qC qD:Str}{qE oB:List Value}{oE qF:Bool}{qG:List Str}{oF:Option Bool}{qH oG:Option Addr}{qI qJ qK qL qM:Option Value}{oH:Value}{jl:Array DictEntry}{qN:Nat}{oJ:Array (Option Value)}
  (aI:K.lookup aB=some (excClassObj qC qD aB fO qE (.ref aA :: d7) oE qG oB qF oF qH qI qJ qK qL qM "ValueError.__new__"))
  (aJ:K.lookup fO=some ⟨oH,oG,.dict jl qN,oJ⟩) (aG:(jl.toList.all fun e=>match e.key with | .str _ _=>true | _=>false)=true) (aK:W.nsIn K fO "__init__" = some none)
  {sW sX:Str}{sY qO:List Value}{qP sZ:Bool}{tu:List Str}{qQ:Option Bool}{tw qR:Option Addr}{tD tE tF tG tH:Option Value}{qS:Value}{kh:Array DictEntry}{tK:Nat}{qT:Array (Option Value)}
  (fR:K.lookup fH=some (excClassObj sW sX fH gG sY (.ref aA :: d7) qP tu qO sZ qQ tw tD tE tF tG tH "ValueError.__new__"))
  (fS:K.lookup gG=some ⟨qS,qR,.dict kh tK,qT⟩) (jm:(kh.toList.all fun e=>match e.key with | .str _ _=>true | _=>false)=true) (fT:W.nsIn K gG "__init__" = some none)
  {yF yG:Str}{yH vz:List Value}{vA yI:Bool}{yJ:List Str}{vB:Option Bool}{yK vC:Option Addr}{yL yM yN yO yP:Option Value}{vD:Value}{nS:Array DictEntry}{yQ:Nat}{vE:Array (Option Value)}
  (iR:K.lookup iG=some (excClassObj yF yG iG j6 yH (.ref aA :: d7) vA yJ vz yI vB yK yL yM yN yO yP "ValueError.__new__"))
  (iS:K.lookup j6=some ⟨vD,vC,.dict nS yQ,vE⟩) (lI:(nS.toList.all fun e=>match e.key with | .str _ _=>true | _=>false)=true) (iT:W.nsIn K j6 "__init__" = some none)
  {Bb Bc:Str}{Bd yR:List Value}{yS Be:Bool}{Bf:List Str}{yT:Option Bool}{Bg yU:Option Addr}{Bh Bj Bk Bl Bm:Option Value}{yV:Value}{pP:Array DictEntry}{Bo:Nat}{yW:Array (Option Value)}
  (ki:K.lookup j7=some (excClassObj Bb Bc j7 mQ Bd (.ref aA :: d7) yS Bf yR Be yT Bg Bh Bj Bk Bl Bm "ValueError.__new__"))
  (kj:K.lookup mQ=some ⟨yV,yU,.dict pP Bo,yW⟩) (nU:(pP.toList.all fun e=>match e.key with | .str _ _=>true | _=>false)=true) (ko:W.nsIn K mQ "__init__" = some none)
  {Bp Bq:Str}{Br yX:List Value}{yY Bs:Bool}{Bt:List Str}{yZ:Option Bool}{Bu za:Option Addr}{Bv Bw Bx By BA:Option Value}{zb:Value}{pQ:Array DictEntry}{BB:Nat}{zc:Array (Option Value)}
  (kq:K.lookup j8=some (excClassObj Bp Bq j8 mR Br (.ref aA :: d7) yY Bt yX Bs yZ Bu Bv Bw Bx By BA "ValueError.__new__"))
  (kr:K.lookup mR=some ⟨zb,za,.dict pQ BB,zc⟩) (nV:(pQ.toList.all fun e=>match e.key with | .str _ _=>true | _=>false)=true) (ku:W.nsIn K mR "__init__" = some none)
  {zd ze:Str}{zf vF:List Value}{vG zg:Bool}{zh:List Str}{vH:Option Bool}{zj vI:Option Addr}{zk zl zm zo zp:Option Value}{vJ:Value}{nW:Array DictEntry}{zq:Nat}{vK:Array (Option Value)}
  (iU:K.lookup cG=some (excClassObj zd ze cG j9 zf (.ref aA :: d7) vG zh vF zg vH zj zk zl zm zo zp "ValueError.__new__"))
  (iV:K.lookup j9=some ⟨vJ,vI,.dict nW zq,vK⟩) (lJ:(nW.toList.all fun e=>match e.key with | .str _ _=>true | _=>false)=true) (iW:W.nsIn K j9 "__init__" = some (some (.ref bz)))
  {vL:Option Addr}{vM:Data}{vN:Array (Option Value)} (zu:W.keepIn K (.ref cG)=true) (zv:K.lookup bz=some ⟨.type "function",vL,vM,vN⟩) (vO:W.findIn K (.ref cG) "__setattr__" = some (some (.builtin "object.__setattr__"))) (vP:W.findIn K (.ref cG) "__getattribute__" = some (some (.builtin "BaseException.__getattribute__"))) (vQ:W.findIn K (.ref cG) "__getattr__" = some none) (vR:W.hasDictIn K cG=true)
  (nX:W.findIn K (.ref cG) "name" = some none)
  {vS vU:Str}{vV tL:List Value}{tM vW:Bool}{vX:List Str}{tN:Option Bool}{vY tO:Option Addr}{vZ v8 v9 wc wg:Option Value}{tP:Value}{lK:Array DictEntry}{wj:Nat}{tQ:Array (Option Value)}
  (gP:K.lookup bE=some (excClassObj vS vU bE iN vV (.ref aA :: d7) tM vX tL vW tN vY vZ v8 v9 wc wg "ValueError.__new__"))
  (gQ:K.lookup iN=some ⟨tP,tO,.dict lK wj,tQ⟩) (kB:(lK.toList.all fun e=>match e.key with | .str _ _=>true | _=>false)=true) (gR:W.nsIn K iN "__init__" = some (some (.ref bq)))
  {tR:Option Addr}{tS:Data}{tT:Array (Option Value)} (wk:W.keepIn K (.ref bE)=true) (wm:K.lookup bq=some ⟨.type "function",tR,tS,tT⟩) (tU:W.findIn K (.ref bE) "__setattr__" = some (some (.builtin "object.__setattr__"))) (tV:W.findIn K (.ref bE) "__getattribute__" = some (some (.builtin "BaseException.__getattribute__"))) (tW:W.findIn K (.ref bE) "__getattr__" = some none) (tX:W.hasDictIn K bE=true)
  (mL:W.findIn K (.ref bE) "most" = some none)
  {zw zx:Str}{zy wo:List Value}{wu zz:Bool}{zA:List Str}{wz:Option Bool}{zB wA:Option Addr}{zC zD zE zF zG:Option Value}{wB:Value}{nY:Array DictEntry}{zH:Nat}{wC:Array (Option Value)}
  (iX:K.lookup bF=some (excClassObj zw zx bF kc zy (.ref aA :: d7) wu zA wo zz wz zB zC zD zE zF zG "ValueError.__new__"))
  (iY:K.lookup kc=some ⟨wB,wA,.dict nY zH,wC⟩) (lM:(nY.toList.all fun e=>match e.key with | .str _ _=>true | _=>false)=true) (iZ:W.nsIn K kc "__init__" = some (some (.ref bx)))
  {wD:Option Addr}{wF:Data}{wG:Array (Option Value)} (zI:W.keepIn K (.ref bF)=true) (zJ:K.lookup bx=some ⟨.type "function",wD,wF,wG⟩) (jI:W.findIn K (.ref bF) "__setattr__" = some (some (.builtin "object.__setattr__"))) (jJ:W.findIn K (.ref bF) "__getattribute__" = some (some (.builtin "BaseException.__getattribute__"))) (jK:W.findIn K (.ref bF) "__getattr__" = some none) (jL:W.hasDictIn K bF=true)
  (oK:W.findIn K (.ref bF) "row" = some none)
  (mO:W.findIn K (.ref bF) "place" = some none)
  (nZ:W.findIn K (.ref bF) "word" = some none)
  {qU qV:Str}{qW oM:List Value}{oN qX:Bool}{qY:List Str}{oO:Option Bool}{qZ oQ:Option Addr}{ri rj rm rq rz:Option Value}{oR:Value}{jn:Array DictEntry}{rA:Nat}{oS:Array (Option Value)}
  (fq:K.lookup aS=some (excClassObj qU qV aS fP qW (.ref aA :: d7) oN qY oM qX oO qZ ri rj rm rq rz "ValueError.__new__"))
  (fu:K.lookup fP=some ⟨oR,oQ,.dict jn rA,oS⟩) (iI:(jn.toList.all fun e=>match e.key with | .str _ _=>true | _=>false)=true) (fz:W.nsIn K fP "__init__" = some (some (.ref aY)))
  {oU:Option Addr}{oV:Data}{oW:Array (Option Value)} (rB:W.keepIn K (.ref aS)=true) (rC:K.lookup aY=some ⟨.type "function",oU,oV,oW⟩) (jo:W.findIn K (.ref aS) "__setattr__" = some (some (.builtin "object.__setattr__"))) (jq:W.findIn K (.ref aS) "__getattribute__" = some (some (.builtin "BaseException.__getattribute__"))) (jr:W.findIn K (.ref aS) "__getattr__" = some none) (jt:W.hasDictIn K aS=true)
  (lg:W.findIn K (.ref aS) "row" = some none)
  (kC:W.findIn K (.ref aS) "cell" = some none)
  (PY:W.specialIn K (.builtin "object.__class__") "__get__" = some (some (.builtin "getset_descriptor.__get__"))) (PZ:W.takesIn K (.builtin "object.__class__")=some true)
  (oX:W.findIn K (.ref aB) "__getattribute__" = some (some (.builtin "BaseException.__getattribute__"))) (oY:W.findIn K (.ref aB) "__getattr__" = some none) (oZ:W.hasDictIn K aB=true) (rD:W.keepIn K (.ref aB)=true)
  (o7:W.findIn K (.ref aB) "__class__" = some (some (.builtin "object.__class__"))) (o8:W.mroIn K aB (.type "object")=some true) (e8:W.mroIn K aB (.type "ValueError")=some true)
  (br:W.mroIn K aB (.ref aA)=some true)
  (cN:W.mroIn K aB (.ref iF)=some false)
  (cD:W.mroIn K aB (.ref gk)=some false)
  (bO:W.mroIn K aB (.ref aB)=some true)
  (bZ:W.mroIn K aB (.ref fH)=some false)
  (cO:W.mroIn K aB (.ref iG)=some false)
  (dg:W.mroIn K aB (.ref j7)=some false)
  (dh:W.mroIn K aB (.ref j8)=some false)
  (cP:W.mroIn K aB (.ref cG)=some false)
  (cE:W.mroIn K aB (.ref bE)=some false)
  (cQ:W.mroIn K aB (.ref bF)=some false)
  (bP:W.mroIn K aB (.ref aS)=some false)
  (wH:W.findIn K (.ref aL) "__class__" = some (some (.builtin "object.__class__"))) (wI:W.specialIn K (.builtin "object.__class__") "__get__" = some (some (.builtin "getset_descriptor.__get__"))) (wJ:W.takesIn K (.builtin "object.__class__")=some true) (wK:W.mroIn K aL (.type "object")=some true)
  (wL:W.findIn K (.ref aL) "__eq__" = some (some (.builtin "object.__eq__"))) (wM:W.mroIn K aL (.type "tuple")=some false) (wN:W.mroIn K aL (.type "list")=some false)
  (rE:W.nsIn K mainGlobals "ValueError" = some none)
  (HK:W.nsIn K mainGlobals "all" = some none)
  (EL:W.nsIn K mainGlobals "bool" = some none)
  (rF:W.nsIn K mainGlobals "isinstance" = some none)
  (HL:W.nsIn K mainGlobals "len" = some none)
  (EM:W.nsIn K mainGlobals "list" = some none)
  (z_ord:W.nsIn K mainGlobals "ord" = some none)
  (CQ:W.nsIn K mainGlobals "range" = some none)
  (HM:W.nsIn K mainGlobals "str" = some none)
  (CS:W.nsIn K mainGlobals "tuple" = some none) :
  ∃ fd:FuncData,(∀(s:Shared) (v:Value),BindsTo s fd ⟨[v],[]⟩ [("_law_script",v)])∧∀ base:Heap,K.In base→base.Ns mainGlobals mg→bg l.prog w K mg base gS 7 fa fd ["_law_script"] (qz K):=by
 have e:=O6.symm.trans (W.mg_of X G Me)
 cases e
 have mo:∀{n:Str}{v:Value},W.nsIn K mainGlobals n=some (some v)→mg n=some v:=fun e=>W.mg_of X G e
 have mz:∀{n:Str},W.nsIn K mainGlobals n=some none→mg n=none:=fun e=>W.mg_none_of X G e
 have F0:=bJ (st:=bC) l0 c0 k0
 have b0:=F0.sC (ps:=["sign"])
 have F1:=bJ (st:=aV) l1 c1 k1
 have b1:=F1.CA (ps:=["thing", "least", "most"])
 have F2:=Cq (st:=aN) l2 c2 k2
 have b2:Binds K (W.fnOf "__init__" "Dialect.__init__" (bI aN) (bf aN) (aq aN) (.ref aR) Kp Kq Kr JR Il Ks) ["self", "parts", "quotes", "frees", "twin", "wide", "thin", "stray"] []:=fun s us hK hl=>match us,hl with | [_,_,_,_,_,_,_,_],_=>BindsTo.of_defaults (T:=aR) rfl (hK _ _ d2) rfl rfl rfl
 have F3:=bJ (st:=bw) l3 c3 k3
 have b3:=F3.CA (ps:=["self", "row", "cell"])
 have F4:=bJ (st:=cj) l4 c4 k4
 have b4:=F4.Jv (ps:=["self", "row", "place", "word"])
 have F5:=bJ (st:=bM) l5 c5 k5
 have b5:=F5.ye (ps:=["self", "most"])
 have F6:=bJ (st:=cu) l6 c6 k6
 have b6:=F6.ye (ps:=["self", "name"])
 have F7:=bJ (st:=cB) l7 c7 k7
 have b7:=F7.sC (ps:=["self"])
 have F8:=bJ (st:=dF) l8 c8 k8
 have b8:=F8.sC (ps:=["told"])
 have F9:=bJ (st:=cC) l9 c9 k9
 have b9:=F9.ye (ps:=["_law_script", "_law_k"])
 have Mf:=bJ (st:=dG) Lh O8 O9
 have P0:=Mf.ye (ps:=["_law_number_here", "_law_salt"])
 have Mg:=bJ (st:=cR) Pb Pc Pd
 have P1:=Mg.ye (ps:=["_law_cell", "_law_salt"])
 have Mh:=bJ (st:=ez) Pf c12 Pg
 have P4:=Mh.CA (ps:=["_law_number_here", "_law_many", "_law_menu"])
 have Mi:=bJ (st:=dH) Pj Pk Po
 have P5:=Mi.sC (ps:=["_law_way"])
 have Mj:=bJ (st:=eB) Pq Pr Pu
 have P6:=Mj.sC (ps:=["_law_cell"])
 have Ml:=bJ (st:=cJ) Px Py Pz
 have P7:=Ml.ye (ps:=["_law_cell", "_law_many"])
 have Mm:=bJ (st:=dI) PC PD PF
 have P8:=Mm.sC (ps:=["_law_e"])
 have Mp:=bJ (st:=dJ) PJ PK PL
 have JJ:=Mp.CA (ps:=["_law_told_here", "_law_xs", "_law_cell"])
 have Mq:=bJ (st:=bD) PM PN PR
 have P9:=Mq.sC (ps:=["_law_thing"])
 have Mr:=bJ (st:=lE) PU PV PX
 have Qa:=Mr.sC (ps:=["_law_script"])
 exact⟨W.fnOf "law" "law" (bI lE) (bf lE) (aq lE) .none EH EI EJ Ew CP EK,fun s v=>.of_eq rfl,fun base _ _=>Eu (au:=fun i=>[dU,bR,bh,aY,bx,bq,bz,cF,e9,dW,ff,er,fM,fh,fN,fj,fk,fm,dX,fa,aL,aA,dY,iF,j5,gk,iM,aB,fO,fH,gG,iG,j6,j7,mQ,j8,mR,cG,j9,bE,iN,bF,kc,aS,fP,aR].getD i fa) (bU:=fun i=>[FN "is_printable" "is_printable" bC .none Kh Kl Km JQ Ik Kn,FN "are_unlike_signs" "are_unlike_signs" aV .none LB LC LD Ls Ko LF,FN "__init__" "Dialect.__init__" aN (.ref aR) Kp Kq Kr JR Il Ks,FN "__init__" "NoWriting.__init__" bw .none LG LH LI Lu Ku LJ,FN "__init__" "Broken.__init__" cj .none LK LL LM Lv Kv LN,FN "__init__" "TooMany.__init__" bM .none LO LP LQ Lw Kw LR,FN "__init__" "NoName.__init__" cu .none LS LU LV Lx Ky LW,FN "told" "Dialect.told" cB .none LX LY LZ Ly Kz L3,FN "dialect_of" "dialect_of" dF .none L4 L5 L6 Lz KA L7,FN "_law_cell_at" "_law_cell_at" cC .none L8 Ma Mb LA KC Mc,FN "_law_mixed" "_law_mixed" dG .none GR GS GU GH Ey GV,FN "_law_number" "_law_number" cR .none GW GX GY GI Ez GZ,FN "_law_some" "_law_some" ez .none G0 G1 G2 GJ EA G3,FN "_law_menus" "_law_menus" dH .none G4 G5 G6 GK EB G8,FN "_law_told" "_law_told" eB .none G9 Hf Hg GL EC Hh,FN "_law_drawn" "_law_drawn" cJ .none Hi Hj Hl GN ED Ho,FN "_law_flags" "_law_flags" dI .none Hq Hr Hs GO EE Ht,FN "_law_wrong" "_law_wrong" dJ .none Hu Hv Hw GP EF Hy,FN "_law_refused" "_law_refused" bD .none Hz HC HD GQ EG HE,FN "law" "law" lE .none EH EI EJ Ew CP EK].getD i (FN "is_printable" "is_printable" bC .none Kh Kl Km JQ Ik Kn)) (Jz:=fun i=>[].getD i "") ⟨F0,b0,mo a0,
  F1,b1,mo a1,
  F2,b2,
  F3,b3,
  F4,b4,
  F5,b5,
  F6,b6,
  F7,b7,⟨a7,i7,k7⟩,
  F8,b8,mo a8,
  F9,b9,mo a9,
  Mf,P0,mo O7,
  Mg,P1,mo Pa,
  Mh,P4,mo Pe,
  Mi,P5,mo Ph,
  Mj,P6,mo Pp,
  Ml,P7,mo Pw,
  Mm,P8,mo PB,
  Mp,JJ,mo JI,
  Mq,P9,mo JK,
  Mr,Qa,mo Me,
  ⟨uO,uP,uQ,uR⟩,mo uL,⟨uS,a2,i2,uT⟩,
  bV,
  cL,
  cT,
  dO,
  dP,
  dQ,
  bW,
  mo eF,⟨⟨_,_,_,_,_,_,_,_,_,_,_,_,_,_,cU⟩,⟨_,_,_,_,_,cV,fQ⟩,cW⟩,
  ⟨mH,mJ,mK⟩,
  mo kO,⟨⟨_,_,_,_,_,_,_,_,_,_,_,_,_,_,iO⟩,⟨_,_,_,_,_,iP,lG⟩,iQ⟩,
  mo jG,⟨⟨_,_,_,_,_,_,_,_,_,_,_,_,_,_,gJ⟩,⟨_,_,_,_,_,gK,kg⟩,gO⟩,
  mo gH,⟨⟨_,_,_,_,_,_,_,_,_,_,_,_,_,_,aI⟩,⟨_,_,_,_,_,aJ,aG⟩,aK⟩,
  mo iH,⟨⟨_,_,_,_,_,_,_,_,_,_,_,_,_,_,fR⟩,⟨_,_,_,_,_,fS,jm⟩,fT⟩,
  mo kP,⟨⟨_,_,_,_,_,_,_,_,_,_,_,_,_,_,iR⟩,⟨_,_,_,_,_,iS,lI⟩,iT⟩,
  mo nP,⟨⟨_,_,_,_,_,_,_,_,_,_,_,_,_,_,ki⟩,⟨_,_,_,_,_,kj,nU⟩,ko⟩,
  mo nQ,⟨⟨_,_,_,_,_,_,_,_,_,_,_,_,_,_,kq⟩,⟨_,_,_,_,_,kr,nV⟩,ku⟩,
  mo kQ,⟨⟨_,_,_,_,_,_,_,_,_,_,_,_,_,_,iU⟩,⟨_,_,_,_,_,iV,lJ⟩,iW⟩,
  zu,⟨_,zv,rfl⟩,
  ⟨nX,vO,vP,vQ,vR⟩,
  mo jH,⟨⟨_,_,_,_,_,_,_,_,_,_,_,_,_,_,gP⟩,⟨_,_,_,_,_,gQ,kB⟩,gR⟩,
  wk,⟨_,wm,rfl⟩,
  ⟨mL,tU,tV,tW,tX⟩,
  mo kR,⟨⟨_,_,_,_,_,_,_,_,_,_,_,_,_,_,iX⟩,⟨_,_,_,_,_,iY,lM⟩,iZ⟩,
  zI,⟨_,zJ,rfl⟩,
  ⟨oK,jI,jJ,jK,jL⟩,
  ⟨mO,jI,jJ,jK,jL⟩,
  ⟨nZ,jI,jJ,jK,jL⟩,
  mo gI,⟨⟨_,_,_,_,_,_,_,_,_,_,_,_,_,_,fq⟩,⟨_,_,_,_,_,fu,iI⟩,fz⟩,
  rB,⟨_,rC,rfl⟩,
  ⟨lg,jo,jq,jr,jt⟩,
  ⟨kC,jo,jq,jr,jt⟩,
  ⟨oX,oY,oZ,o7,PY,PZ,o8⟩,
  rD,
  Gi e8,
  gT (dZ.mk ⟨_,_,_,_,_,_,_,_,_,_,_,_,_,_,aI⟩ ⟨_,_,_,_,_,aJ,aG⟩ aK) (dZ.mk ⟨_,_,_,_,_,_,_,_,_,_,_,_,_,_,cU⟩ ⟨_,_,_,_,_,cV,fQ⟩ cW) br,
  gT (dZ.mk ⟨_,_,_,_,_,_,_,_,_,_,_,_,_,_,aI⟩ ⟨_,_,_,_,_,aJ,aG⟩ aK) (dZ.mk ⟨_,_,_,_,_,_,_,_,_,_,_,_,_,_,iO⟩ ⟨_,_,_,_,_,iP,lG⟩ iQ) cN,
  gT (dZ.mk ⟨_,_,_,_,_,_,_,_,_,_,_,_,_,_,aI⟩ ⟨_,_,_,_,_,aJ,aG⟩ aK) (dZ.mk ⟨_,_,_,_,_,_,_,_,_,_,_,_,_,_,gJ⟩ ⟨_,_,_,_,_,gK,kg⟩ gO) cD,
  gT (dZ.mk ⟨_,_,_,_,_,_,_,_,_,_,_,_,_,_,aI⟩ ⟨_,_,_,_,_,aJ,aG⟩ aK) (dZ.mk ⟨_,_,_,_,_,_,_,_,_,_,_,_,_,_,aI⟩ ⟨_,_,_,_,_,aJ,aG⟩ aK) bO,
  gT (dZ.mk ⟨_,_,_,_,_,_,_,_,_,_,_,_,_,_,aI⟩ ⟨_,_,_,_,_,aJ,aG⟩ aK) (dZ.mk ⟨_,_,_,_,_,_,_,_,_,_,_,_,_,_,fR⟩ ⟨_,_,_,_,_,fS,jm⟩ fT) bZ,
  gT (dZ.mk ⟨_,_,_,_,_,_,_,_,_,_,_,_,_,_,aI⟩ ⟨_,_,_,_,_,aJ,aG⟩ aK) (dZ.mk ⟨_,_,_,_,_,_,_,_,_,_,_,_,_,_,iR⟩ ⟨_,_,_,_,_,iS,lI⟩ iT) cO,
  gT (dZ.mk ⟨_,_,_,_,_,_,_,_,_,_,_,_,_,_,aI⟩ ⟨_,_,_,_,_,aJ,aG⟩ aK) (dZ.mk ⟨_,_,_,_,_,_,_,_,_,_,_,_,_,_,ki⟩ ⟨_,_,_,_,_,kj,nU⟩ ko) dg,
  gT (dZ.mk ⟨_,_,_,_,_,_,_,_,_,_,_,_,_,_,aI⟩ ⟨_,_,_,_,_,aJ,aG⟩ aK) (dZ.mk ⟨_,_,_,_,_,_,_,_,_,_,_,_,_,_,kq⟩ ⟨_,_,_,_,_,kr,nV⟩ ku) dh,
  gT (dZ.mk ⟨_,_,_,_,_,_,_,_,_,_,_,_,_,_,aI⟩ ⟨_,_,_,_,_,aJ,aG⟩ aK) (dZ.mk ⟨_,_,_,_,_,_,_,_,_,_,_,_,_,_,iU⟩ ⟨_,_,_,_,_,iV,lJ⟩ iW) cP,
  gT (dZ.mk ⟨_,_,_,_,_,_,_,_,_,_,_,_,_,_,aI⟩ ⟨_,_,_,_,_,aJ,aG⟩ aK) (dZ.mk ⟨_,_,_,_,_,_,_,_,_,_,_,_,_,_,gP⟩ ⟨_,_,_,_,_,gQ,kB⟩ gR) cE,
  gT (dZ.mk ⟨_,_,_,_,_,_,_,_,_,_,_,_,_,_,aI⟩ ⟨_,_,_,_,_,aJ,aG⟩ aK) (dZ.mk ⟨_,_,_,_,_,_,_,_,_,_,_,_,_,_,iX⟩ ⟨_,_,_,_,_,iY,lM⟩ iZ) cQ,
  gT (dZ.mk ⟨_,_,_,_,_,_,_,_,_,_,_,_,_,_,aI⟩ ⟨_,_,_,_,_,aJ,aG⟩ aK) (dZ.mk ⟨_,_,_,_,_,_,_,_,_,_,_,_,_,_,fq⟩ ⟨_,_,_,_,_,fu,iI⟩ fz) bP,
  ⟨wH,wI,wJ,wK,Ay⟩,
  ⟨wL,kit_tuple wM,AU wN⟩,
  mz rE,
  mz HK,
  mz EL,
  mz rF,
  mz HL,
  mz EM,
  mz z_ord,
  mz CQ,
  mz HM,
  mz CS⟩⟩
theorem walk {l:W.OpenLaw}{q:Program}{loose:List Str}{XP:(Str→Option Value)→Heap→Prop}{YP:World→Heap→Prop}{d:DefRec}{K:Params→W.Frag} (hn:l.most=some 63) (hdf:d.params.defaults=[])
  (hY:∀(w:World) (h:Heap),YP w h→(K w.params).In h)
  (F:∀(w:World) (mg:Str→Option Value) (fa:Addr) (h:Heap),(K w.params).In h→h.Ns mainGlobals mg→mg d.name=some (.ref fa) →
   ∃ fd:FuncData,(∀(s:Shared) (u:Value),BindsTo s fd ⟨[u],[]⟩ [("_law_script",u)])∧∀ base:Heap,(K w.params).In base→base.Ns mainGlobals mg→bg l.prog w (K w.params) mg base gS 7 fa fd ["_law_script"] (qz (K w.params))) :
  W.WalkO q loose XP YP l.row.toRowW d [] (fun f vs=>PySem.call f vs) :=
 L2.Cj (n:=63) (k:=7) (x := "_law_script") (CX:=fun _=>gS) (sp:=fun w=>qz (K w.params)) hn (by decide) hdf ⟨rfl,by decide,by decide⟩ hY F (fun _ _ a ns hl _ hS=>⟨a,ns,rfl,hS,hl,fun _=>rfl⟩) fun _ _ _ _ _ z=>z
end My
def PySem.W.Fast.tw9131068811784299724:Unit:=()
def PySem.W.Fast.tw3589529905472137405:Unit:=()
def PySem.W.Fast.tw7406871794987055754:Unit:=()
def PySem.W.Fast.tw8476457970235775394:Unit:=()
def PySem.W.Fast.tw10327920926948241554:Unit:=()
def PySem.W.Fast.tw7275867532289373984:Unit:=()
def PySem.W.Fast.tw9614195689582464505:Unit:=()
def PySem.W.Fast.tw2334034892035714334:Unit:=()
def PySem.W.Fast.tw11507153216979872554:Unit:=()
def PySem.W.Fast.tw15531746938446725528:Unit:=()
def PySem.W.Fast.tw12139840825429377419:Unit:=()
def PySem.W.Fast.tw2339524273674403705:Unit:=()
def PySem.W.Fast.tw8787544906195779138:Unit:=()
def PySem.W.Fast.tw6723028743894688827:Unit:=()
def PySem.W.Fast.tw4107811382984004043:Unit:=()
def PySem.W.Fast.tw6916103703786048438:Unit:=()
def PySem.W.Fast.tw5700508704038143864:Unit:=()
def PySem.W.Fast.tw1995580754777914395:Unit:=()
def PySem.W.Fast.tw8579623276919657566:Unit:=()
def PySem.W.Fast.tw9770919800648877847:Unit:=()
def PySem.W.Fast.tw5227851395735323750:Unit:=()
def PySem.W.Fast.tw7789161106047653435:Unit:=()
def PySem.W.Fast.tw5848528738474920937:Unit:=()
def PySem.W.Fast.tw5279211885612921632:Unit:=()
def PySem.W.Fast.tw10704182310279965130:Unit:=()
def PySem.W.Fast.tw11029641615156633015:Unit:=()
def PySem.W.Fast.tw5701035987004671719:Unit:=()
def PySem.W.Fast.tw1121452603035103919:Unit:=()
def PySem.W.Fast.tw11936977635329222077:Unit:=()
def PySem.W.Fast.tw14317410236539200955:Unit:=()
def PySem.W.Fast.tw2507297251675207851:Unit:=()
def PySem.W.Fast.tw5137902744419202664:Unit:=()
def PySem.W.Fast.tw9154113612056847804:Unit:=()
def PySem.W.Fast.tw17644093024793816013:Unit:=()
def PySem.W.Fast.tw11942762288886667468:Unit:=()
def PySem.W.Fast.tw9072345580368951139:Unit:=()
def PySem.W.Fast.tw6571931153737689470:Unit:=()
def PySem.W.Fast.tw1481975511472130150:Unit:=()
def PySem.W.Fast.tw17671503133825498668:Unit:=()
def PySem.W.Fast.tw6343713952681962145:Unit:=()
def PySem.W.Fast.tw13266407979037020037:Unit:=()
def PySem.W.Fast.tw12405340798053181428:Unit:=()
def PySem.W.Fast.tw14835115542130933469:Unit:=()
def PySem.W.Fast.tw5994299390956036177:Unit:=()
def PySem.W.Fast.tw16960018766365148517:Unit:=()
def PySem.W.Fast.tw13876083010727307614:Unit:=()
def PySem.W.Fast.tw16486096766870568121:Unit:=()
def PySem.W.Fast.tw13009703714167955125:Unit:=()
def PySem.W.Fast.tw331217692906471397:Unit:=()
def PySem.W.Fast.tw17751261389061457077:Unit:=()
open PySem PySem.W PyProof.Rows
set_option maxRecDepth 100000 in
set_option maxHeartbeats 0 in
theorem PySem.Challenge.cw_dialecthall_k16_nothing_told_holds : PySem.Challenge.rw_dialecthall_k16_nothing_told.Holds := by
 w_on;o_law;k_head;(case hw=>w_witness2)
 k_fill
 refine My.walk (l:=PySem.Challenge.rw_dialecthall_k16_nothing_told) rfl rfl (fun w h Y=>W.kIn_of Y) ?F
 case F =>
  intro w mg fa h KX G hmg
  refine' My.all_mk KX G hmg ?_ ?eF ?kO ?jG ?gH ?iH ?kP ?nP ?nQ ?kQ ?jH ?kR ?gI ?_ ?_ ?_ ?_ ?_ ?_ ?_ ?_ ?_ ?_ ?_ ?_ ?_ ?_ ?_ ?_ ?_ ?_ ?_ ?_ ?_ ?_ ?_ ?_ ?_ ?_ ?_ ?_ ?_ ?_ ?_ ?_ ?_ ?_ ?_ ?_ ?_ ?_ ?_ ?_ ?_ ?_ ?_ ?_ ?_ ?_ ?_ ?_ ?_ ?_ ?_ ?_ ?_ ?_ ?_ ?_ ?_ ?_ ?_ ?_ ?_ ?_ ?_ ?_ ?_ ?_ ?_ ?_ ?_ ?_ ?_ ?_ ?_ ?_ ?_ ?_ ?_ ?_ ?_ ?_ ?_ ?_ ?_ ?_ ?_ ?_ ?_ ?_ ?_ ?_ ?_ ?_ ?cU ?cV ?_ ?cW ?_ ?_ ?_ ?iO ?iP ?_ ?iQ ?gJ ?gK ?_ ?gO ?aI ?aJ ?_ ?aK ?fR ?fS ?_ ?fT ?iR ?iS ?_ ?iT ?ki ?kj ?_ ?ko ?kq ?kr ?_ ?ku ?iU ?iV ?_ ?iW ?_ ?_ ?_ ?_ ?_ ?_ ?_ ?gP ?gQ ?_ ?gR ?_ ?_ ?_ ?_ ?_ ?_ ?_ ?iX ?iY ?_ ?iZ ?_ ?_ ?_ ?_ ?_ ?_ ?_ ?_ ?_ ?fq ?fu ?_ ?fz ?_ ?_ ?_ ?_ ?_ ?_ ?_ ?_ ?_ ?_ ?_ ?_ ?_ ?_ ?_ ?_ ?_ ?_ ?_ ?_ ?_ ?_ ?_ ?_ ?_ ?_ ?_ ?_ ?_ ?_ ?_ ?_ ?_ ?_ ?_ ?_ ?_ ?_ ?_ ?_ ?_ ?_ ?_ ?_ ?_ ?_
  (case eF=>k_is)
  (case kO=>k_is)
  (case jG=>k_is)
  (case gH=>k_is)
  (case iH=>k_is)
  (case kP=>k_is)
  (case nP=>k_is)
  (case nQ=>k_is)
  (case kQ=>k_is)
  (case jH=>k_is)
  (case kR=>k_is)
  (case gI=>k_is)
  (case cU=>k_is)
  (case cV=>k_is)
  (case cW=>k_is)
  (case iO=>k_is)
  (case iP=>k_is)
  (case iQ=>k_is)
  (case gJ=>k_is)
  (case gK=>k_is)
  (case gO=>k_is)
  (case aI=>k_is)
  (case aJ=>k_is)
  (case aK=>k_is)
  (case fR=>k_is)
  (case fS=>k_is)
  (case fT=>k_is)
  (case iR=>k_is)
  (case iS=>k_is)
  (case iT=>k_is)
  (case ki=>k_is)
  (case kj=>k_is)
  (case ko=>k_is)
  (case kq=>k_is)
  (case kr=>k_is)
  (case ku=>k_is)
  (case iU=>k_is)
  (case iV=>k_is)
  (case iW=>k_is)
  (case gP=>k_is)
  (case gQ=>k_is)
  (case gR=>k_is)
  (case iX=>k_is)
  (case iY=>k_is)
  (case iZ=>k_is)
  (case fq=>k_is)
  (case fu=>k_is)
  (case fz=>k_is)
  all_goals try first | k_is | rfl
