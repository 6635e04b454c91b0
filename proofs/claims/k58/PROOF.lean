import PyProof.Rows.All
import Wide.All
import OpenK.AllK
import Wide.FinOn
import Lean
import PyProof.EqAt
import PyProof.EqKinds
import PyProof.TupleCall
import PyProof.JoinWalk
import PyProof.DictIter
import PyProof.SeqI3
import PyProof.WalkInts
import PyProof.DictTruth
import PyProof.ListRange
import PyProof.DictWalks
import PyProof.Rows.SortWalk
import KE.KSortTup
import PySem.Challenge.RW_dialecthall_k58_whole_farther_on
set_option Elab.async false
set_option linter.all false
set_option maxRecDepth 100000
namespace L2
open PySem PySem.Spec PyProof.Rows
abbrev Key:=Sum Int Str
def nO:Key→Value→Bool
 | .inl k,v=>Value.isInt k v
 | .inr x,v=>Value.isStrOf x v
def Kn (w:World):Key→Int
 | .inl k=>hashInt k
 | .inr x=>hashStr w x
theorem bH:∀{k:Key}{v:Value},nO k v=true→(∃ i t,k=Sum.inl i∧v=Value.int i t)∨(∃ x t,k=Sum.inr x∧v=Value.str x t)
 | .inl i,v,h=>by
  obtain⟨t,e⟩:=Value.isInt_shape (k:=i) (v:=v) h
  exact .inl ⟨i,t,rfl,e⟩
 | .inr x,v,h=>by
  obtain⟨t,e⟩:=Value.isStrOf_shape (x:=x) (v:=v) h
  exact .inr ⟨x,t,rfl,e⟩
theorem AO (i:Int) (t:Tok):nO (.inl i) (.int i t)=true:=by simp[nO,Value.isInt]
theorem AQ (x:Str) (t:Tok):nO (.inr x) (.str x t)=true:=by simp[nO,Value.isStrOf]
theorem B0 (a b:Int):decide ((Sum.inl a:Key)=Sum.inl b)=(a == b):=by
 by_cases e:a=b
 ·subst e;simp
 ·have h:¬(Sum.inl a:Key)=Sum.inl b:=fun q=>e (Sum.inl.inj q)
  rw[decide_eq_false h]
  exact(beq_eq_false_iff_ne.mpr e).symm
theorem B3 (a b:Str):decide ((Sum.inr a:Key)=Sum.inr b)=decide (a=b):=by
 by_cases e:a=b
 ·subst e;simp
 ·have h:¬(Sum.inr a:Key)=Sum.inr b:=fun q=>e (Sum.inr.inj q)
  rw[decide_eq_false h,decide_eq_false e]
theorem B5 (a:Int) (b:Str):decide ((Sum.inl a:Key)=Sum.inr b)=false:=decide_eq_false (fun q=>nomatch q)
theorem B6 (a:Str) (b:Int):decide ((Sum.inr a:Key)=Sum.inl b)=false:=decide_eq_false (fun q=>nomatch q)
def bV (prog:Program) (w:World):PySem.KeyKind prog w Key where
 is:=nO
 hash:=Kn w
 inj:=fun v a b ha hb=>by
  rcases bH ha with ⟨i,t,rfl,rfl⟩ | ⟨x,t,rfl,rfl⟩
  ·rcases bH hb with ⟨j,u,rfl,e⟩ | ⟨y,u,rfl,e⟩
   ·injection e with e1 _;rw[e1]
   ·exact nomatch e
  ·rcases bH hb with ⟨j,u,rfl,e⟩ | ⟨y,u,rfl,e⟩
   ·exact nomatch e
   ·injection e with e1 _;rw[e1]
 byValue:=fun k v h=>by
  rcases bH h with ⟨i,t,rfl,rfl⟩ | ⟨x,t,rfl,rfl⟩ <;> rfl
 pyHash:=fun hv h=>by
  rcases bH hv with ⟨i,t,rfl,rfl⟩ | ⟨x,t,rfl,rfl⟩
  ·exact wpAny_pyHash_int h
  ·exact wpAny_pyHash_str h
 eqBool:=fun hu hv h=>by
  rcases bH hu with ⟨i,t,rfl,rfl⟩ | ⟨x,t,rfl,rfl⟩
  ·rcases bH hv with ⟨j,u,rfl,rfl⟩ | ⟨y,u,rfl,rfl⟩
   ·rw[B0] at h;exact wpAny_eqBool_int h
   ·rw[B5] at h;exact SeqAt.EqAt.int_str i t y u _ _ _ _ h
  ·rcases bH hv with ⟨j,u,rfl,rfl⟩ | ⟨y,u,rfl,rfl⟩
   ·rw[B6] at h;exact SeqAt.EqAt.str_int x t j u _ _ _ _ h
   ·rw[B3] at h;exact wpAny_eqBool_str h
 «strs» := fun k x t v h=>by
  rcases bH h with ⟨i,u,rfl,e⟩ | ⟨y,u,rfl,e⟩
  ·exact nomatch e
  ·injection e with e1 _
   subst e1
   cases v <;> rfl
theorem xg (prog:Program) (w:World) (i:Int) (t:Tok):(bV prog w).is (.inl i) (.int i t)=true:=AO i t
theorem xh (prog:Program) (w:World) (x:Str) (t:Tok):(bV prog w).is (.inr x) (.str x t)=true:=AQ x t
inductive V where
 | non | bl (b:Bool) | int (i:Int) | str (x:Str) | BV (b:Array UInt8) | nL (b:UInt64) | ref (a:Addr) | ty (n:String)
 deriving DecidableEq
def RelV:V→Value→Prop
 | .non,u=>u=Value.none
 | .bl b,u=>u=Value.bool b
 | .int i,u=>∃ t,u=Value.int i t
 | .str x,u=>∃ t,u=Value.str x t
 | .BV b,u=>∃ t,u=Value.bytes b t
 | .nL b,u=>∃ t,u=Value.float b t
 | .ref a,u=>u=Value.ref a
 | .ty n,u=>u=Value.type n
abbrev Vals:List V→List Value→Prop:=Paired RelV
theorem Vals.length {xs:List V}{us:List Value} (r:Vals xs us):xs.length=us.length:=Paired.length r
theorem Vals.get:∀{xs:List V}{us:List Value}{i:Nat}{x:V},Vals xs us→xs[i]? = some x→∃ u,us[i]? = some u∧RelV x u
 | _,_,_,_,.nil,e=>by simp at e
 | _,_,0,_,.cons r _,e=>by simp at e;subst e;exact⟨_,rfl,r⟩
 | _,_,i+1,x,.cons _ t,e=>by
  obtain⟨u,h1,h2⟩:=Vals.get (i:=i) (x:=x) t (by simpa using e)
  exact⟨u,by simpa using h1,h2⟩
theorem Vals.set {x:V}{u:Value} (r:RelV x u):∀{xs:List V}{us:List Value} (i:Nat),Vals xs us→Vals (xs.set i x) (us.set i u)
 | _,_,_,.nil=>.nil
 | _,_,0,.cons _ t=>.cons r t
 | _,_,i+1,.cons q t=>.cons q (Vals.set r i t)
theorem Vals.append:∀{xs ys:List V}{us ws:List Value},Vals xs us→Vals ys ws→Vals (xs++ys) (us++ws)
 | _,_,_,_,.nil,s=>s
 | _,_,_,_,.cons r t,s=>.cons r (Vals.append t s)
theorem Vals.take:∀{xs:List V}{us:List Value} (n:Nat),Vals xs us→Vals (xs.take n) (us.take n)
 | _,_,0,_=>.nil
 | _,_,_+1,.nil=>.nil
 | _,_,n+1,.cons r t=>.cons r (Vals.take n t)
theorem Vals.drop:∀{xs:List V}{us:List Value} (n:Nat),Vals xs us→Vals (xs.drop n) (us.drop n)
 | _,_,0,r=>r
 | _,_,_+1,.nil=>.nil
 | _,_,n+1,.cons _ t=>Vals.drop n t
def ki:Option V→Option Value→Prop
 | some v,some u=>RelV v u
 | none,none=>True
 | _,_=>False
def KV {κ:Type}:List (κ×V)→List (κ×Value)→Prop:=Paired fun (p:κ×V) (q:κ×Value)=>p.1=q.1∧RelV p.2 q.2
def kV:Key→V
 | .inl i=>.int i
 | .inr x=>.str x
inductive HO where
 | lst (xs:List V)
 | tup (xs:List V)
 | dK (kvs:List (Key×V)) | dT (kvs:List (List Key×V))
 | set (S:Int→Bool) (n:Nat)
 | ins (C dx:Addr) (fs:List (Str×V))
 | own (x:Addr)
 | xd (fs:List (Str×V))
 | met (f x:Addr)
 | O8 (lo hi:Int)
 | m8 (o:Obj) (u:HO)
 | Gj (ps:Array Value)
 | ext (φ:Heap→Prop)
abbrev Hp:=Addr→Option HO
def upd (H:Hp) (a:Addr) (o:HO):Hp:=fun b=>if b=a then some o else H b
theorem aj {H:Hp}{a:Addr}{o:HO}:upd H a o a=some o:=by unfold upd;rw[if_pos rfl]
theorem aC {H:Hp}{a b:Addr}{o:HO} (h:b≠a):upd H a o b=H b:=by unfold upd;rw[if_neg h]
theorem qU {H:Hp}{a b:Addr}{o u:HO} (h:H a=some o) (h':H b=some u) (d:o≠u):a≠b:=by
 intro e;subst e;rw[h] at h';exact d (Option.some.inj h')
theorem aZ {H:Hp}{a b:Addr}{o:HO} (h:H a=some o) (h':H b=none):a≠b:=by
 intro e;subst e;rw[h] at h';cases h'
section
variable (P:Program) (w:World)
def bD (H:Hp) (h:Heap) (a:Addr):HO→Prop
 | .lst xs=>xs.length≤sizeLine∧∃(its:List Value) (n:Nat),Vals xs its∧h.get? a=some { cls:=.type "list",data:=.seq its.toArray n }
 | .tup xs=>xs.length≤sizeLine∧∃ its:List Value,Vals xs its∧IsTup h a its.toArray
 | .dK kvs=>kvs.length≤sizeLine∧(a == sysModules)=false∧∃ vs,KV kvs vs∧h.DictOf (bV P w) a vs
 | .dT kvs=>kvs.length≤sizeLine∧(a == sysModules)=false∧∃ xs:List (List Key×Addr×Value),
   Paired (fun (p:List Key×V) (q:List Key×Addr×Value)=>p.1=q.1∧H q.2.1=some (.tup (p.1.map kV))∧RelV p.2 q.2.2) kvs xs ∧
   ∃ o es ep,h.get? a=some o∧o.ExactDict∧o.data=.dict es ep∧es.toList=xs.map (entryOfKey (tupleKind (bV P w)))∧(xs.map (·.1)).Nodup
 | .set S n=>h.SetOf (intKind P w) a S n
 | .ins C dx fs=>H dx=some (.own a)∧fs.length≤1000∧dx≠a∧h.get? a=some (W.instObj C dx) ∧
   ∃ mA,h.Ns1 dx mA∧(∀ f,ki (fs.lookup f) (mA f))∧PySem.Within mA (fs.map (·.1))
 | .own _=>∃ o,h.get? a=some o
 | .xd fs=>∃ mA,h.Ns1 a mA∧∀ f,ki (fs.lookup f) (mA f)
 | .O8 lo hi=>∃ t u v,h.get? a=some { cls:=.type "range",data:=.fields #[.int lo t,.int hi u,.int 1 v] }
 | .m8 o u=>h.get? a=some o∧bD H h a u
 | .Gj ps=>h.get? a=some { cls:=.none,data:=.fields ps }
 | .met f x=>h.get? a=some (W.methodObj (.ref f) (.ref x))
 | .ext φ=>φ h∧(∃ o,h.get? a=some o)∧∀ h1 h2:Heap,φ h1→(∀ o,h1.get? a=some o→h2.get? a=some o)→φ h2
def nM (H:Hp) (h:Heap):Prop:=∀ a o,H a=some o→bD P w H h a o
end
section
variable {P:Program}{w:World}{H H':Hp}{h h':Heap}{a:Addr}{o:HO}
theorem bD.lt (x:bD P w H h a o):a < h.objs.size:=by
 cases o with
 | lst xs=>obtain⟨_,_,_,_,e⟩:=x;exact Heap.lt_size e
 | tup xs=>obtain⟨_,_,_,p⟩:=x;exact p.lt
 | dK kvs=>obtain⟨_,_,_,_,o,_,_,e,_⟩:=x;exact Heap.lt_size e
 | dT kvs=>obtain⟨_,_,_,_,o,_,_,e,_⟩:=x;exact Heap.lt_size e
 | set S n=>obtain⟨o,_,_,_,e,_⟩:=x;exact Heap.lt_size e
 | ins C dx fs=>obtain⟨_,_,_,e,_⟩:=x;exact Heap.lt_size e
 | own y=>obtain⟨_,e⟩:=x;exact Heap.lt_size e
 | xd fs=>obtain⟨_,⟨_,_,_,e,_⟩,_⟩:=x;exact Heap.lt_size e
 | O8 lo hi=>obtain⟨_,_,_,e⟩:=x;exact Heap.lt_size e
 | m8 ob u=>obtain⟨e,_⟩:=x;exact Heap.lt_size e
 | Gj ps=>exact Heap.lt_size (show h.get? a=some _ from x)
 | met f y=>exact Heap.lt_size (show h.get? a=some _ from x)
 | ext φ=>obtain⟨_,⟨_,e⟩,_⟩:=x;exact Heap.lt_size e
theorem Paired.AR {α β:Type}{F G:α→β→Prop}:∀{l₁:List α}{l₂:List β},Paired F l₁ l₂→(∀ a b,F a b→G a b)→Paired G l₁ l₂
 | _,_,.nil,_=>.nil
 | _,_,.cons r t,f=>.cons (f _ _ r) (Paired.AR t f)
theorem bD.stay (x:bD P w H h a o) (k:∀ b u,(b=a∨H b=some (.own a))→h.get? b=some u→h'.get? b=some u)
  (ho:∀ b,H b=some (.own a)→H' b=some (.own a)) (ht:∀ b xs,H b=some (.tup xs)→H' b=some (.tup xs)):bD P w H' h' a o:=by
 induction o with
 | lst xs=>obtain⟨z,its,n,r,e⟩:=x;exact⟨z,its,n,r,k _ _ (.inl rfl) e⟩
 | tup xs=>obtain⟨z,its,r,ob,e,c⟩:=x;exact⟨z,its,r,ob,k _ _ (.inl rfl) e,c⟩
 | dK kvs=>obtain⟨z,y,vs,r,ob,es,ep,e,c⟩:=x;exact⟨z,y,vs,r,ob,es,ep,k _ _ (.inl rfl) e,c⟩
 | dT kvs =>
  obtain⟨z,y,xs,r,ob,es,ep,e,c⟩:=x
  exact⟨z,y,xs,Paired.AR r fun p q z=>⟨z.1,ht _ _ z.2.1,z.2.2⟩,ob,es,ep,k _ _ (.inl rfl) e,c⟩
 | set S n=>obtain⟨ob,es,ep,t,e,c⟩:=x;exact⟨ob,es,ep,t,k _ _ (.inl rfl) e,c⟩
 | ins C dx fs =>
  obtain⟨d,z,ne,e,mA,⟨od,es,ep,e2,c⟩,r⟩:=x
  exact⟨ho _ d,z,ne,k _ _ (.inl rfl) e,mA,⟨od,es,ep,k _ _ (.inr d) e2,c⟩,r⟩
 | own y=>obtain⟨ob,e⟩:=x;exact⟨ob,k _ _ (.inl rfl) e⟩
 | xd fs=>obtain⟨mA,⟨od,es,ep,e,c⟩,r⟩:=x;exact⟨mA,⟨od,es,ep,k _ _ (.inl rfl) e,c⟩,r⟩
 | O8 lo hi=>obtain⟨t,u,v,e⟩:=x;exact⟨t,u,v,k _ _ (.inl rfl) e⟩
 | m8 ob u ih=>obtain⟨e,q⟩:=x;exact⟨k _ _ (.inl rfl) e,ih q⟩
 | Gj ps =>
  have e:h.get? a=some { cls:=.none,data:=.fields ps }:=x
  show h'.get? a=some { cls:=.none,data:=.fields ps }
  exact k a _ (.inl rfl) e
 | met f y =>
  have e:h.get? a=some (W.methodObj (.ref f) (.ref y)):=x
  show h'.get? a=some (W.methodObj (.ref f) (.ref y))
  exact k a _ (.inl rfl) e
 | ext φ=>obtain⟨p,⟨o,e⟩,st⟩:=x;exact⟨st _ _ p fun o q=>k _ _ (.inl rfl) q,⟨o,k _ _ (.inl rfl) e⟩,st⟩
theorem nM.lt (x:nM P w H h) (e:H a=some o):a < h.objs.size:=(x a o e).lt
theorem nM.fresh (x:nM P w H h) (e:h.objs.size≤a):H a=none:=by
 cases q:H a with
 | none=>rfl
 | some u=>exact absurd (Nat.lt_of_lt_of_le (x.lt q) e) (Nat.lt_irrefl _)
theorem nM.kept (x:nM P w H h) (k:∀ b u,h.get? b=some u→h'.get? b=some u):nM P w H h':=fun a o e =>
 (x a o e).stay (fun b u _ q=>k b u q) (fun _ q=>q) fun _ _ q=>q
theorem nM.laid (x:nM P w H h) (k:∀ b u,h.get? b=some u→h'.get? b=some u) (hp:h.objs.size≤a) (new:bD P w (upd H a o) h' a o):nM P w (upd H a o) h':=fun b u e=>by
 have hn:=x.fresh hp
 by_cases hb:b=a
 ·subst hb;rw[aj] at e;cases e;exact new
 ·rw[aC hb] at e
  exact(x b u e).stay (fun c v _ q=>k c v q) (fun c q=>by rw[aC (aZ q hn)];exact q) fun c xs q=>by rw[aC (aZ q hn)];exact q
end
def Rd (H:Hp) (a:Addr) (u:HO):Prop:=H a=some u∨∃ o,H a=some (.m8 o u)
theorem Rd.ok {P:Program}{w:World}{H:Hp}{h:Heap}{a:Addr}{u:HO} (r:Rd H a u) (x:nM P w H h):bD P w H h a u:=by
 rcases r with r | ⟨o,r⟩
 ·exact x a u r
 ·obtain⟨_,q⟩:=x a _ r
  exact q
def Ko:Option HO→Prop
 | some (.lst _)=>True
 | some (.dK _)=>True
 | some (.dT _)=>True
 | some (.set _ _)=>True
 | some (.ins _ _ _)=>True
 | some (.ext _)=>True
 | _=>False
section
variable {P:Program}{w:World}{H:Hp}{h h':Heap}{x e:Addr}{o':HO}
theorem nM.write (ok:nM P w H h) (mu:Ko (H x)) (he:e=x∨H e=some (.own x)) (k:∀ b u,b≠e→h.get? b=some u→h'.get? b=some u) (JX:∃ u,h'.get? e=some u)
  (new:bD P w (upd H x o') h' x o'):nM P w (upd H x o') h':=fun b u q=>by
 have Kq:∀ c y,H c=some (.own y)→c≠x:=fun c y r z=>by subst z;rw[r] at mu;exact mu
 have P7:∀ c xs,H c=some (.tup xs)→c≠x:=fun c xs r z=>by subst z;rw[r] at mu;exact mu
 by_cases hb:b=x
 ·subst hb;rw[aj] at q;cases q;exact new
 ·rw[aC hb] at q
  by_cases GK:b=e
  ·have q':H b=some (.own x):=by
    rcases he with z | z
    ·exact absurd (GK.trans z) hb
    ·rw[GK];exact z
   rw[q] at q';cases q'
   obtain⟨v,hv⟩:=JX
   exact⟨v,by rw[GK];exact hv⟩
  ·refine(ok b u q).stay (fun c v hc r=>k c v ?_ r) (fun c r=>by rw[aC (Kq c b r)];exact r) fun c xs r=>by rw[aC (P7 c xs r)];exact r
   rcases hc with rfl | hc
   ·exact GK
   ·rintro rfl
    rcases he with z | z
    ·exact Kq c b hc z
    ·rw[hc] at z;cases z;exact hb rfl
end
structure Un (fs ex:List Addr) (H H':Hp) (h h':Heap):Prop where
 keep:∀ b o,h.get? b=some o→H b=none→b∉fs→b∉ex→h'.get? b=some o
 slot:∀ b o,h.get? b=some o→H b=none→b∈fs→b∉ex→∃ sl,h'.get? b=some { o with slots:=sl }
 free:∀ b o,h.get? b=some o→H b=none→b∉ex→H' b=none
 there:∀ b o,h.get? b=some o→b∉ex→∃ o',h'.get? b=some o'
 tups:∀ b xs,H b=some (.tup xs)→H' b=some (.tup xs)
 qx:∀ b o u,H b=some (.m8 o u)→H' b=some (.m8 o u)
 qV:∀ b ps,H b=some (.Gj ps)→∃ more,H' b=some (.Gj (ps++more))
section
variable {fs fs' ex ex':List Addr}{H H1 H2:Hp}{h h1 h2 h':Heap}{a x e:Addr}{o:HO}
theorem Un.any (u:Un fs ex H H1 h h1) {b:Addr}{ob:Obj} (q:h.get? b=some ob) (n:H b=none) (hx:b∉ex):∃ sl,h1.get? b=some { ob with slots:=sl }:=by
 by_cases hb:b∈fs
 ·exact u.slot b ob q n hb hx
 ·exact⟨ob.slots,u.keep b ob q n hb hx⟩
theorem Un.trans (a:Un fs ex H H1 h h1) (b:Un fs ex H1 H2 h1 h2):Un fs ex H H2 h h2 where
 keep:=fun c ob q n hc hx=>b.keep c ob (a.keep c ob q n hc hx) (a.free c ob q n hx) hc hx
 slot:=fun c ob q n hc hx=>by
  obtain⟨sl,e1⟩:=a.slot c ob q n hc hx
  obtain⟨P8,e2⟩:=b.slot c _ e1 (a.free c ob q n hx) hc hx
  exact⟨P8,e2⟩
 free:=fun c ob q n hx=>by
  obtain⟨o',e1⟩:=a.there c ob q hx
  exact b.free c o' e1 (a.free c ob q n hx) hx
 there:=fun c ob q hx=>by
  obtain⟨o',e1⟩:=a.there c ob q hx
  exact b.there c o' e1 hx
 tups:=fun c xs q=>b.tups c xs (a.tups c xs q)
 qx:=fun c ob xs q=>b.qx c ob xs (a.qx c ob xs q)
 qV:=fun c ps q=>by
  obtain⟨m1,e1⟩:=a.qV c ps q
  obtain⟨m2,e2⟩:=b.qV c _ e1
  exact⟨m1++m2,by rw[e2,Array.append_assoc]⟩
theorem Un.kept (k:∀ b u,h.get? b=some u→h'.get? b=some u):Un fs ex H H h h' :=
 ⟨fun b ob q _ _ _=>k b ob q,fun b ob q _ _ _=>⟨ob.slots,k b ob q⟩,fun _ _ _ n _=>n,fun b ob q _=>⟨ob,k b ob q⟩,fun _ _ q=>q,fun _ _ _ q=>q,fun _ ps q=>⟨#[],by rw[q];simp⟩⟩
theorem Un.refl:Un fs ex H H h h:=Un.kept fun _ _ q=>q
theorem Un.laid (k:∀ b u,h.get? b=some u→h'.get? b=some u) (hp:h.objs.size≤a) (hn:H a=none):Un fs ex H (upd H a o) h h' where
 keep:=fun b u q _ _ _=>k b u q
 slot:=fun b u q _ _ _=>⟨u.slots,k b u q⟩
 free:=fun b u q n _=>by rw[aC (Nat.ne_of_lt (Nat.lt_of_lt_of_le (Heap.lt_size q) hp))];exact n
 there:=fun b u q _=>⟨u,k b u q⟩
 tups:=fun b xs q=>by rw[aC (aZ q hn)];exact q
 qx:=fun b u xs q=>by rw[aC (aZ q hn)];exact q
 qV:=fun b ps q=>⟨#[],by rw[aC (aZ q hn),q];simp⟩
theorem Un.write (mu:Ko (H x)) (he:e=x∨H e=some (.own x)) (k:∀ b u,b≠e→h.get? b=some u→h'.get? b=some u) (JX:∃ u,h'.get? e=some u):Un fs ex H (upd H x o) h h':=by
 have hx:∀ b,H b=none→b≠x:=fun b n z=>by subst z;rw[n] at mu;exact mu
 have hb:∀ b,H b=none→b≠e:=fun b n z=>by
  subst z
  rcases he with r | r
  ·exact hx b n r
  ·rw[n] at r;cases r
 have hm:∀ b u,H b=some u→¬Ko (some u)→b≠x:=fun b u q nm z=>by subst z;rw[q] at mu;exact nm mu
 refine⟨fun b u q n _ _=>k b u (hb b n) q,fun b u q n _ _=>⟨u.slots,k b u (hb b n) q⟩,fun b u q n _=>by rw[aC (hx b n)];exact n,fun b u q _=>?_,
  fun b xs q=>by rw[aC (hm b _ q fun z=>z)];exact q,fun b u xs q=>by rw[aC (hm b _ q fun z=>z)];exact q,fun b ps q=>⟨#[],by rw[aC (hm b _ q fun z=>z),q];simp⟩⟩
 by_cases GK:b=e
 ·subst GK;exact JX
 ·exact⟨u,k b u GK q⟩
end
def O9 (h:Heap) (H:Hp):List Addr:=(List.range h.objs.size).filter fun a=>(H a).isSome
def vh (h:Heap) (H:Hp):Heap:=W.hideAll h (O9 h H)
theorem AS (h:Heap) (H:Hp):(vh h H).objs.size=h.objs.size:=W.hideAll_size _ _
theorem B7 {h:Heap}{H:Hp}{b:Addr}{o:Obj} (e:h.get? b=some o) (n:H b=none):(vh h H).get? b=some o :=
 W.hideAll_get _ e fun hm=>by
  have q:(H b).isSome=true:=(List.mem_filter.mp hm).2
  rw[n] at q;simp at q
theorem Eb {h:Heap}{H:Hp}{b:Addr}{o:Obj} (e:(vh h H).get? b=some o):h.get? b=some o∧H b=none:=by
 have e':h.get? b=some o:=W.of_hideAll (O9 h H) e
 refine⟨e',?_⟩
 cases q:H b with
 | none=>rfl
 | some x =>
  have hm:b∈O9 h H:=List.mem_filter.mpr ⟨List.mem_range.mpr (Heap.lt_size e'),by simp[q]⟩
  have z:(vh h H).get? b=none:=W.hideAll_none (O9 h H) hm
  rw[z] at e;cases e
def qO (g h:Heap) (L:Addr):List (Addr×Obj):=(List.range h.objs.size).filterMap fun a=>if a=L∨(g.get? a).isSome=true then none else (h.get? a).map fun o=>(a,o)
theorem kr {g h:Heap}{L a:Addr}{o:Obj} (h1:a≠L) (h2:g.get? a=none) (h3:h.get? a=some o):(a,o)∈qO g h L :=
 List.mem_filterMap.mpr ⟨a,List.mem_range.mpr (Heap.lt_size h3),by simp[h1,h2,h3]⟩
theorem qW {g h:Heap}{L:Addr}{p:Addr×Obj} (hp:p∈qO g h L):p.1≠L∧g.get? p.1=none∧h.get? p.1=some p.2:=by
 obtain⟨b,_,e⟩:=List.mem_filterMap.mp hp
 split at e
 ·cases e
 ·rename_i hn
  cases q:h.get? b with
  | none=>rw[q] at e;simp at e
  | some u =>
   rw[q] at e
   simp only[Option.map_some,Option.some.injEq] at e
   subst e
   refine⟨fun z=>hn (.inl z),?_,q⟩
   show g.get? b=none
   cases r:g.get? b with
   | none=>rfl
   | some v=>exact(hn (.inr (by simp[r]))).elim
def rest (g h:Heap) (L d:Addr):List (Addr×Obj):=(qO g h L).filter fun p=>decide (p.1≠d)
theorem B8 {g h:Heap}{L:Addr}:News g L h (qO g h L):=fun p hp=>let ⟨a,b,c⟩:=qW hp;⟨c,a,b⟩
structure Mod (K:W.Frag) (mg:Str→Option Value) (base:Heap):Prop where
 Kr:K.In base
 glob:base.Ns mainGlobals mg
 blt:∃ mb,base.Ns builtinsNs mb∧∀ x:Str,x ≠ "__name__"→mb x=bootBuiltins x
 nolimit:base.NoLimit
structure Cx where
 prog:Program
 w:World
 K:W.Frag
 mg:Str→Option Value
 base:Heap
 A:Around
 N:List Str
 s₀:Shared
 H₀:Hp
 env:Env
 outer:List Env
 stack:List Env
 ex:List Addr
 fn:Str→Bool
 calm:Bool
 pn:List (Addr×Obj)
 xe:Value→Shared→Prop
def frs (l:List Env):List Addr:=l.filterMap (·.frame)
abbrev Cx.fs (X:Cx):List Addr:=frs X.outer
def P9 (sc:Scope) (x:Str):Prop:=sc.names.lookup x=some .local∨sc.names.lookup x=some .cell∨sc.names.lookup x=some .free
def Loc (sc:Scope) (x:Str):Prop:=sc.names.lookup x=some .local∨sc.names.lookup x=some .cell
def Look (env:Env) (h:Heap) (m:Str→Option Value) (x:Str) (u:Value):Prop :=
 (env.kindOf x=some .local∧m x=some u)∨((env.kindOf x=some .cell∨env.kindOf x=some .free)∧∃ c,env.cells.lookup x=some c∧h.IsCell c (some u))
structure Cx.Ok (X:Cx):Prop where
 mod:Mod X.K X.mg X.base
 kind:X.env.scope.kind=.function
 glob:X.env.globals=mainGlobals
 blt:X.env.builtins=builtinsNs
 above:X.s₀.heap.objs.size≤X.env.locals
 inj:∀ x y c,X.env.cells.lookup x=some c→X.env.cells.lookup y=some c→x=y
 has:∀ x,(X.env.kindOf x=some .cell∨X.env.kindOf x=some .free)→∃ c,X.env.cells.lookup x=some c
 Ks:∀ x c,X.fn x=true→X.env.cells.lookup x=some c→X.s₀.heap.objs.size≤c
 hd:X.calm=true→X.A.handled=none
 frames:X.A.frames=some X.stack
 stk:X.stack=X.outer∨(X.stack=X.env :: X.outer∧X.env.frame=some X.env.locals)
 UI:∀ b∈X.ex,b≠X.env.locals∧∀ x c,X.env.cells.lookup x=some c→c≠b
 bs:∀ b o,X.base.get? b=some o→X.s₀.heap.get? b=some o∧X.H₀ b=none
 B9:X.base.objs.size≤X.s₀.heap.objs.size
 Ca:∀ b o,X.base.get? b=some o→b∉X.ex
 Ec:∀ b∈X.ex,b∉X.fs
 pq:X.s₀.heap.FunFrames X.base X.outer
 Gk:∀ b∈X.fs,X.H₀ b=none
structure Inv (X:Cx) (pins:List (Addr×Obj)) (σ:List (Option V)) (H:Hp) (s:Shared):Prop where
 ok:X.Ok
 os:s.os=X.s₀.os
 bare:AllBare s.gens
 base:Un X.fs X.ex X.H₀ H X.s₀.heap s.heap
 loc:∃ m,s.heap.Ns X.env.locals m∧∀(i:Nat) (x:Str) (v:V),X.N[i]? = some x→σ[i]? = some (some v)→P9 X.env.scope x→∃ u,RelV v u∧Look X.env s.heap m x u
 cell:∀ x c,X.env.cells.lookup x=some c→∃ v,s.heap.IsCell c v
 free:H X.env.locals=none
 mK:∀ x c,X.env.cells.lookup x=some c→H c=none
 pin:∀ p∈X.pn++pins,s.heap.get? p.1=some p.2∧H p.1=none∧p.1≠X.env.locals∧p.1∉X.fs∧∀ v,p.2.data≠.cell v
 hok:nM X.prog X.w H s.heap
 len:σ.length=X.N.length
section
variable {X:Cx}{pins:List (Addr×Obj)}{σ:List (Option V)}{H H':Hp}{s:Shared}{h':Heap}
theorem Cx.Ok.Qa (ok:X.Ok) {b:Addr}{o:Obj} (e:X.base.get? b=some o):b∉X.fs:=fun hb=>by
 have:=(ok.pq.mem hb).1
 rw[e] at this;cases this
theorem Inv.bs (I:Inv X pins σ H s):∀ b o,X.base.get? b=some o→s.heap.get? b=some o∧H b=none:=fun b o e =>
 ⟨I.base.keep b o (I.ok.bs b o e).1 (I.ok.bs b o e).2 (I.ok.Qa e) (I.ok.Ca b o e),I.base.free b o (I.ok.bs b o e).1 (I.ok.bs b o e).2 (I.ok.Ca b o e)⟩
theorem Inv.bk (I:Inv X pins σ H s):∀ b o,X.base.get? b=some o→s.heap.get? b=some o:=fun b o e=>(I.bs b o e).1
theorem Inv.mod (I:Inv X pins σ H s):Mod X.K X.mg X.base:=I.ok.mod
theorem Inv.pA (I:Inv X pins σ H s):X.K.In s.heap:=I.ok.mod.Kr.keeps I.bk
theorem Inv.fr (I:Inv X pins σ H s):∃ m,Fr X.base X.env.locals s.heap m :=
 let ⟨m,hn,_⟩:=I.loc
 ⟨m,hn,I.bk,Nat.le_trans I.ok.B9 I.ok.above⟩
theorem Inv.lt (I:Inv X pins σ H s):X.env.locals < s.heap.objs.size:=let ⟨_,hn,_⟩:=I.loc;hn.lt
theorem Inv.sz (I:Inv X pins σ H s):X.s₀.heap.objs.size≤s.heap.objs.size:=Nat.le_trans I.ok.above (Nat.le_of_lt I.lt)
theorem Inv.Qc (I:Inv X pins σ H s) {a:Addr} (h:s.heap.objs.size≤a):a∉X.fs:=fun hb=>by
 obtain⟨_,o,ho,_⟩:=I.ok.pq.mem hb
 exact absurd (Nat.lt_of_lt_of_le (Heap.lt_size ho) (Nat.le_trans I.sz h)) (Nat.lt_irrefl _)
theorem Inv.GL (I:Inv X pins σ H s):∀ x c,X.env.cells.lookup x=some c→c≠X.env.locals:=fun x c e z=>by
 obtain⟨v,o,ho,hd⟩:=I.cell x c e
 obtain⟨m,⟨o',es,ep,ho',hd',_⟩,_⟩:=I.loc
 rw[z,ho'] at ho;cases ho;rw[hd'] at hd;cases hd
theorem Inv.pq (I:Inv X pins σ H s):s.heap.FunFrames X.base X.outer:=by
 have all:∀(l:List Env),(∀ b∈frs l,b∈X.fs)→X.s₀.heap.FunFrames X.base l→s.heap.FunFrames X.base l:=by
  intro l
  induction l with
  | nil=>intro _ _;trivial
  | cons env r ih =>
   intro hs hl
   obtain⟨hk,⟨L,o,hf,hn,ho,hd⟩,hr⟩:=hl
   have hL:L∈X.fs:=hs L (by unfold frs;rw[List.filterMap_cons,hf];exact List.mem_cons_self)
   obtain⟨sl,e⟩:=I.base.slot L o ho (I.ok.Gk L hL) hL fun z=>I.ok.Ec L z hL
   exact⟨hk,⟨L,_,hf,hn,e,hd⟩,ih (fun b hb=>hs b (by unfold frs;rw[List.filterMap_cons,hf];exact List.mem_cons_of_mem _ hb)) hr⟩
 exact all X.outer (fun _ hb=>hb) I.ok.pq
theorem Inv.stack (I:Inv X pins σ H s):s.heap.FunFrames X.base X.stack:=by
 rcases I.ok.stk with e | ⟨e,hf⟩
 ·rw[e];exact I.pq
 ·rw[e]
  obtain⟨m,hn,_⟩:=I.loc
  refine .cons (by rw[I.ok.kind];decide) hf hn ?_ I.pq
  exact Heap.get?_none_of_le (Nat.le_trans I.ok.B9 I.ok.above)
theorem Inv.vj (I:Inv X pins σ H s):∀ b∈frs X.stack,b∈X.env.locals :: X.fs:=fun b hb=>by
 rcases I.ok.stk with e | ⟨e,hf⟩
 ·rw[e] at hb;exact List.mem_cons_of_mem _ hb
 ·rw[e] at hb
  unfold frs at hb
  rw[List.filterMap_cons,hf] at hb
  exact hb
theorem Inv.z0 (I:Inv X pins σ H s):∀ b∈frs X.stack,H b=none:=fun b hb=>by
 rcases List.mem_cons.mp (I.vj b hb) with e | hb
 ·rw[e];exact I.free
 ·obtain⟨_,o,ho,_⟩:=I.ok.pq.mem hb
  exact I.base.free b o ho (I.ok.Gk b hb) fun z=>I.ok.Ec b z hb
theorem Inv.step {g':Array GenState}{t':Nat}{d':Drawn}{ch:List Addr} (I:Inv X pins σ H s)
  (hch:∀ b∈ch,(b∈X.ex∨X.s₀.heap.objs.size≤b)∧b≠X.env.locals∧(∀ x c,X.env.cells.lookup x=some c→c≠b)∧∀ p∈X.pn++pins,p.1≠b)
  (keep:∀ b o,b≠X.env.locals→b∉X.fs→b∉ch→s.heap.get? b=some o→H b=none→h'.get? b=some o)
  (slot:∀ b o,b≠X.env.locals→b∈X.fs→b∉ch→s.heap.get? b=some o→H b=none→∃ sl,h'.get? b=some { o with slots:=sl }) (free:∀ b o,b∉ch→s.heap.get? b=some o→H b=none→H' b=none)
  (there:∀ b o,b∉ch→s.heap.get? b=some o→∃ o',h'.get? b=some o')
  (tups:∀ b xs,H b=some (.tup xs)→H' b=some (.tup xs)) (qx:∀ b o u,H b=some (.m8 o u)→H' b=some (.m8 o u)) (qV:∀ b ps,H b=some (.Gj ps)→∃ more,H' b=some (.Gj (ps++more)))
  (ns:∀ m,s.heap.Ns X.env.locals m→h'.Ns X.env.locals m) (hok:nM X.prog X.w H' h') (hg:AllBare g') :
  Inv X pins σ H' { s with heap:=h',gens:=g',drawn:=d',toks:=t' }:=by
 have GN:∀ b o,X.s₀.heap.get? b=some o→b≠X.env.locals:=fun b o e=>Nat.ne_of_lt (Nat.lt_of_lt_of_le (Heap.lt_size e) I.ok.above)
 have Pa:∀ b o,X.s₀.heap.get? b=some o→b∉X.ex→b∉ch:=fun b o e hx hb=>by
  rcases(hch b hb).1 with z | z
  ·exact hx z
  ·exact absurd (Nat.lt_of_lt_of_le (Heap.lt_size e) z) (Nat.lt_irrefl _)
 have cellK:∀ x c,X.env.cells.lookup x=some c→∀ v,s.heap.IsCell c v→h'.IsCell c v:=fun x c e v ⟨o,ho,hd⟩=>by
  have Ku:c∉ch:=fun z=>(hch c z).2.2.1 x c e rfl
  by_cases hc:c∈X.fs
  ·obtain⟨sl,q⟩:=slot c o (I.GL x c e) hc Ku ho (I.mK x c e)
   exact⟨_,q,hd⟩
  ·exact⟨o,keep c o (I.GL x c e) hc Ku ho (I.mK x c e),hd⟩
 refine⟨I.ok,I.os,hg,⟨fun b o e n hb hx=>?_,fun b o e n hb hx=>?_,fun b o e n hx=>?_,fun b o e hx=>?_,fun b xs e=>tups b xs (I.base.tups b xs e),fun b o xs e=>qx b o xs (I.base.qx b o xs e),fun b ps e=>?_⟩,?_,fun x c e=>?_,?_,fun x c e=>?_,fun p hp=>?_,hok,I.len⟩
 ·exact keep b o (GN b o e) hb (Pa b o e hx) (I.base.keep b o e n hb hx) (I.base.free b o e n hx)
 ·obtain⟨sl,e1⟩:=I.base.slot b o e n hb hx
  obtain⟨P8,e2⟩:=slot b _ (GN b o e) hb (Pa b o e hx) e1 (I.base.free b o e n hx)
  exact⟨P8,e2⟩
 ·obtain⟨o',e1⟩:=I.base.there b o e hx
  exact free b o' (Pa b o e hx) e1 (I.base.free b o e n hx)
 ·obtain⟨o',e1⟩:=I.base.there b o e hx
  exact there b o' (Pa b o e hx) e1
 ·obtain⟨m1,e1⟩:=I.base.qV b ps e
  obtain⟨m2,e2⟩:=qV b _ e1
  exact⟨m1++m2,by rw[e2,Array.append_assoc]⟩
 ·obtain⟨m,hn,hl⟩:=I.loc
  refine⟨m,ns m hn,fun i x v e1 e2 e3=>?_⟩
  obtain⟨u,r,l⟩:=hl i x v e1 e2 e3
  refine⟨u,r,?_⟩
  rcases l with l | ⟨k,c,e,z⟩
  ·exact .inl l
  ·exact .inr ⟨k,c,e,cellK x c e _ z⟩
 ·obtain⟨v,z⟩:=I.cell x c e
  exact⟨v,cellK x c e v z⟩
 ·obtain⟨m,⟨o,_,_,ho,_⟩,_⟩:=I.loc
  exact free _ o (fun z=>(hch _ z).2.1 rfl) ho I.free
 ·obtain⟨v,o,ho,hd⟩:=I.cell x c e
  exact free c o (fun z=>(hch c z).2.2.1 x c e rfl) ho (I.mK x c e)
 ·obtain⟨e,n,ne,nf,d⟩:=I.pin p hp
  have Ku:p.1∉ch:=fun z=>(hch p.1 z).2.2.2 p hp rfl
  exact⟨keep p.1 p.2 ne nf Ku e n,free p.1 p.2 Ku e n,ne,nf,d⟩
theorem Inv.un {t':Nat} (I:Inv X pins σ H s) (u:Un X.fs [] H H' s.heap h') (hok:nM X.prog X.w H' h'):Inv X pins σ H' { s with heap:=h',toks:=t' }:=by
 obtain⟨m,⟨o,es,ep,ho,r⟩,_⟩:=id I.loc
 obtain⟨sl,hL⟩:=u.any ho I.free (by simp)
 exact I.step (g':=s.gens) (d':=s.drawn) (ch:=[]) (fun _ z=>nomatch z) (fun b o _ hb _ e n=>u.keep b o e n hb (by simp)) (fun b o _ hb _ e n=>u.slot b o e n hb (by simp)) (fun b o _ e n=>u.free b o e n (by simp)) (fun b o _ e=>u.there b o e (by simp)) u.tups u.qx u.qV (fun m' hm=>by
  obtain⟨o',es',Pb,ho',r'⟩:=hm
  rw[ho] at ho';cases ho'
  exact⟨_,es',Pb,hL,r'⟩) hok I.bare
theorem Inv.call {g':Array GenState}{t':Nat}{d':Drawn}{ch:List Addr} (I:Inv X pins σ H s) (u:Un (frs X.stack) ch H H' s.heap h') (hok:nM X.prog X.w H' h') (hg:AllBare g')
  (hch:∀ b∈ch,(b∈X.ex∨X.s₀.heap.objs.size≤b)∧b≠X.env.locals∧(∀ x c,X.env.cells.lookup x=some c→c≠b)∧∀ p∈X.pn++pins,p.1≠b) :
  Inv X pins σ H' { s with heap:=h',gens:=g',drawn:=d',toks:=t' }:=by
 obtain⟨m,⟨o,es,ep,ho,r⟩,_⟩:=id I.loc
 obtain⟨sl,hL⟩:=u.any ho I.free fun z=>(hch _ z).2.1 rfl
 exact I.step (ch:=ch) hch (fun b o hL hb hc e n=>u.keep b o e n (fun z=>(List.mem_cons.mp (I.vj b z)).elim hL hb) hc) (fun b o _ _ hc e n=>u.any e n hc) (fun b o hc e n=>u.free b o e n hc) (fun b o hc e=>u.there b o e hc) u.tups u.qx u.qV (fun m' hm=>by
  obtain⟨o',es',Pb,ho',r'⟩:=hm
  rw[ho] at ho';cases ho'
  exact⟨_,es',Pb,hL,r'⟩) hok hg
theorem Inv.turned {t':Nat}{it:Addr} (I:Inv X pins σ H s) (k:∀ b o,b≠it→s.heap.get? b=some o→h'.get? b=some o) (hn:H it=none) (hL:it≠X.env.locals)
  (h1:it∈X.ex∨X.s₀.heap.objs.size≤it) (h2:∀ x c,X.env.cells.lookup x=some c→c≠it) (h3:∀ p∈X.pn++pins,p.1≠it):Inv X pins σ H { s with heap:=h',toks:=t' }:=by
 have Kv:∀ b u,H b=some u→b≠it:=fun b u e z=>by rw[z,hn] at e;cases e
 refine I.step (g':=s.gens) (d':=s.drawn) (ch:=[it]) (fun b hb=>?_) (fun b o _ _ hc e _=>k b o (fun z=>hc (by simp[z])) e) (fun b o _ _ hc e _=>⟨o.slots,k b o (fun z=>hc (by simp[z])) e⟩) (fun _ _ _ _ n=>n)
  (fun b o hc e=>⟨o,k b o (fun z=>hc (by simp[z])) e⟩) (fun _ _ e=>e) (fun _ _ _ e=>e) (fun b ps e=>⟨#[],by rw[e];simp⟩) (fun m hm=>?_) (fun b u e=>?_) I.bare
 ·have e:b=it:=by simpa using hb
  subst e
  exact⟨h1,hL,h2,h3⟩
 ·obtain⟨o,es,ep,ho,r⟩:=hm
  exact⟨o,es,ep,k _ o (Ne.symm hL) ho,r⟩
 ·refine(I.hok b u e).stay (fun c v hc q=>k c v ?_ q) (fun _ q=>q) fun _ _ q=>q
  rcases hc with z | z
  ·rw[z];exact Kv b u e
  ·exact Kv c _ z
theorem Inv.tok (I:Inv X pins σ H s) (t:Nat):Inv X pins σ H { s with toks:=t }:=I.un (h':=s.heap) (t':=t) Un.refl I.hok
theorem Inv.kept {t':Nat} (I:Inv X pins σ H s) (k:∀ b u,s.heap.get? b=some u→h'.get? b=some u):Inv X pins σ H { s with heap:=h',toks:=t' }:=I.un (Un.kept k) (I.hok.kept k)
theorem Inv.laid {a:Addr}{o:HO}{t':Nat} (I:Inv X pins σ H s) (k:∀ b u,s.heap.get? b=some u→h'.get? b=some u) (hp:s.heap.objs.size≤a) (new:bD X.prog X.w (upd H a o) h' a o) :
 Inv X pins σ (upd H a o) { s with heap:=h',toks:=t' }:=I.un (Un.laid k hp (I.hok.fresh hp)) (I.hok.laid k hp new)
theorem Inv.write {x e:Addr}{o:HO}{t':Nat} (I:Inv X pins σ H s) (mu:Ko (H x)) (he:e=x∨H e=some (.own x)) (k:∀ b u,b≠e→s.heap.get? b=some u→h'.get? b=some u) (JX:∃ u,h'.get? e=some u)
 (new:bD X.prog X.w (upd H x o) h' x o):Inv X pins σ (upd H x o) { s with heap:=h',toks:=t' }:=I.un (Un.write mu he k JX) (I.hok.write mu he k JX new)
theorem Inv.Aa {Gm:List (Addr×Obj)} (I:Inv X pins σ H s) (h:∀ p∈Gm,s.heap.get? p.1=some p.2∧H p.1=none∧p.1≠X.env.locals∧p.1∉X.fs∧∀ v,p.2.data≠.cell v):Inv X Gm σ H s :=
 ⟨I.ok,I.os,I.bare,I.base,I.loc,I.cell,I.free,I.mK,fun p hp=>(List.mem_append.mp hp).elim (fun z=>I.pin p (List.mem_append_left _ z)) (h p),I.hok,I.len⟩
theorem xj {N:List Str} (hN:N.Nodup) {i j:Nat}{x:Str} (a:N[i]? = some x) (b:N[j]? = some x):i=j:=by
 obtain⟨h1,e1⟩:=List.getElem?_eq_some_iff.mp a
 obtain⟨h2,e2⟩:=List.getElem?_eq_some_iff.mp b
 exact(List.getElem_inj hN).mp (e1.trans e2.symm)
theorem uw {M:Model}{A:Around}{E:Value→Shared→Prop}{i:Nat}{x:Str}{v:V}{u:Value}{Q:Unit→Shared→Prop} (I:Inv X pins σ H s) (hN:X.N.Nodup) (hi:X.N[i]? = some x) (hx:Loc X.env.scope x) (r:RelV v u)
  (h:∀ s',Inv X pins (σ.set i (some v)) H s'→(∃ a,Heap.SameBut a s.heap s'.heap∧(a=X.env.locals∨X.env.cells.lookup x=some a))→Q () s') (hf:X.fn x=true∨X.env.scope.names.lookup x=some .local:=by first | exact .inl rfl | exact .inr rfl | assumption):wpAny M A (storeName X.env x u) Q E s:=by
 obtain⟨m,hn,hl⟩:=id I.loc
 have hcls:(X.env.scope.kind == .class || (X.env.scope.kind == .module && X.env.locals != X.env.globals))=false:=by rw[I.ok.kind];rfl
 have Kw:i < σ.length:=by rw[I.len];exact(List.getElem?_eq_some_iff.mp hi).1
 have GL:=I.GL
 have tracked:∀{a:Addr}{h':Heap},(∃ o,s.heap.get? a=some o∧H a=none)→Heap.SameBut a s.heap h'→nM X.prog X.w H h':=fun {a h'} ha hs b ob e=>by
  obtain⟨_,_,hfree⟩:=ha
  refine(I.hok b ob e).stay (fun c w' hc q=>(hs.2 c ?_).trans q) (fun _ q=>q) fun _ _ q=>q
  rintro rfl
  rcases hc with rfl | hc
  ·rw[hfree] at e;cases e
  ·rw[hfree] at hc;cases hc
 rcases hx with hk | hk
 ·refine wpAny_storeName_local hk hn (fun h' hn' hs=>?_) hcls
  obtain⟨oL,_,_,Ky,_⟩:=id hn
  refine h _ ⟨I.ok,I.os,I.bare,⟨fun b o e n hb hx=>?_,fun b o e n hb hx=>?_,I.base.free,fun b o e hx=>?_,I.base.tups,I.base.qx,I.base.qV⟩,⟨_,hn',fun j y v' e1 e2 e3=>?_⟩,fun y c e=>?_,I.free,I.mK,fun p hp=>?_,tracked ⟨oL,Ky,I.free⟩ hs,by simpa using I.len⟩ ⟨_,hs,.inl rfl⟩
  ·exact(hs.2 b (Nat.ne_of_lt (Nat.lt_of_lt_of_le (Heap.lt_size e) I.ok.above))).trans (I.base.keep b o e n hb hx)
  ·obtain⟨sl,e1⟩:=I.base.slot b o e n hb hx
   exact⟨sl,(hs.2 b (Nat.ne_of_lt (Nat.lt_of_lt_of_le (Heap.lt_size e) I.ok.above))).trans e1⟩
  ·obtain⟨o',e1⟩:=I.base.there b o e hx
   exact⟨o',(hs.2 b (Nat.ne_of_lt (Nat.lt_of_lt_of_le (Heap.lt_size e) I.ok.above))).trans e1⟩
  ·by_cases hj:j=i
   ·subst hj
    rw[hi] at e1;cases e1
    rw[List.getElem?_set_self Kw] at e2
    cases e2
    exact⟨u,r,.inl ⟨hk,by simp⟩⟩
   ·rw[List.getElem?_set_ne (Ne.symm hj)] at e2
    obtain⟨u',r',q⟩:=hl j y v' e1 e2 e3
    refine⟨u',r',?_⟩
    rcases q with ⟨k,e⟩ | ⟨k,c,e,z⟩
    ·refine .inl ⟨k,?_⟩
     have:y≠x:=fun e=>hj (xj hN e1 (e ▸ hi))
     simp[this,e]
    ·exact .inr ⟨k,c,e,z.sameBut hs (GL y c e)⟩
  ·obtain⟨w',z⟩:=I.cell y c e
   exact⟨w',z.sameBut hs (GL y c e)⟩
  ·obtain⟨e,n,ne,nf,d⟩:=I.pin p hp
   exact⟨(hs.2 p.1 ne).trans e,n,ne,nf,d⟩
 ·have hfn:X.fn x=true:=by
   rcases hf with z | z
   ·exact z
   ·rw[z] at hk;cases hk
  obtain⟨c,hc⟩:=I.ok.has x (.inl hk)
  obtain⟨w',z⟩:=I.cell x c hc
  refine wpAny_storeName_cell I.ok.kind hk hc z (fun h' hc' hs=>?_)
  obtain⟨oc,hoc,Qd⟩:=id z
  refine h { s with heap:=h' } ⟨I.ok,I.os,I.bare,⟨fun b o e n hb hx=>?_,fun b o e n hb hx=>?_,I.base.free,fun b o e hx=>?_,I.base.tups,I.base.qx,I.base.qV⟩,⟨m,hn.sameBut hs (Ne.symm (GL x c hc)),fun j y v' e1 e2 e3=>?_⟩,fun y c' e=>?_,I.free,I.mK,fun p hp=>?_,tracked ⟨oc,hoc,I.mK x c hc⟩ hs,by simpa using I.len⟩ ⟨c,hs,.inr hc⟩
  ·exact(hs.2 b (Nat.ne_of_lt (Nat.lt_of_lt_of_le (Heap.lt_size e) (I.ok.Ks x c hfn hc)))).trans (I.base.keep b o e n hb hx)
  ·obtain⟨sl,e1⟩:=I.base.slot b o e n hb hx
   exact⟨sl,(hs.2 b (Nat.ne_of_lt (Nat.lt_of_lt_of_le (Heap.lt_size e) (I.ok.Ks x c hfn hc)))).trans e1⟩
  ·obtain⟨o',e1⟩:=I.base.there b o e hx
   exact⟨o',(hs.2 b (Nat.ne_of_lt (Nat.lt_of_lt_of_le (Heap.lt_size e) (I.ok.Ks x c hfn hc)))).trans e1⟩
  ·by_cases hj:j=i
   ·subst hj
    rw[hi] at e1;cases e1
    rw[List.getElem?_set_self Kw] at e2
    cases e2
    exact⟨u,r,.inr ⟨.inl hk,c,hc,hc'⟩⟩
   ·rw[List.getElem?_set_ne (Ne.symm hj)] at e2
    obtain⟨u',r',q⟩:=hl j y v' e1 e2 e3
    refine⟨u',r',?_⟩
    rcases q with q | ⟨k,c',e,z'⟩
    ·exact .inl q
    ·refine .inr ⟨k,c',e,z'.sameBut hs ?_⟩
     rintro rfl
     exact hj (xj hN e1 (I.ok.inj _ _ _ e hc ▸ hi))
  ·by_cases hcc:c'=c
   ·subst hcc;exact⟨_,hc'⟩
   ·obtain⟨w2,z2⟩:=I.cell y c' e
    exact⟨w2,z2.sameBut hs hcc⟩
  ·obtain⟨e,n,ne,nf,d⟩:=I.pin p hp
   refine⟨(hs.2 p.1 ?_).trans e,n,ne,nf,d⟩
   intro q
   rw[q,hoc] at e
   have q':oc=p.2:=Option.some.inj e
   exact d w' (by rw[←q'];exact Qd)
theorem xm {M:Model}{A:Around}{E:Value→Shared→Prop}{i:Nat}{x:Str}{v:V}{u:Value}{Q:Unit→Shared→Prop} (I:Inv X pins σ H s) (hN:X.N.Nodup) (hi:X.N[i]? = some x) (hx:Loc X.env.scope x) (r:RelV v u)
  (h:∀ s',Inv X pins (σ.set i (some v)) H s'→Q () s') (hf:X.fn x=true∨X.env.scope.names.lookup x=some .local:=by first | exact .inl rfl | exact .inr rfl | assumption):wpAny M A (storeName X.env x u) Q E s :=
 uw I hN hi hx r (fun s' I' _=>h s' I') hf
theorem Inv.Kz {s':Shared}{ch:List Addr} (I:Inv X pins σ H s) (ho:s'.os=s.os) (u:Un (frs X.stack) ch H H' s.heap s'.heap) (hok:nM X.prog X.w H' s'.heap) (hg:AllBare s'.gens)
  (hch:∀ b∈ch,(b∈X.ex∨X.s₀.heap.objs.size≤b)∧b≠X.env.locals∧(∀ x c,X.env.cells.lookup x=some c→c≠b)∧∀ p∈X.pn++pins,p.1≠b):Inv X pins σ H' s':=by
 obtain⟨h',g',d',t',o'⟩:=s'
 have e:o'=s.os:=ho
 subst e
 exact I.call (g':=g') (t':=t') (d':=d') u hok hg hch
end
abbrev XK:=Value→Option Addr→Hp→Prop
abbrev St:=List (Option V)
abbrev VK:=V→Hp→Prop
abbrev TE:=St→Hp→VK→Prop
abbrev TT:=St→Hp→(Bool→Hp→Prop)→Prop
abbrev TA:=St→Hp→(List V→Hp→Prop)→Prop
structure Ends where
 nx:St→Hp→Prop
 rt:VK
 bk:St→Hp→Prop:=fun _ _=>False
 ct:St→Hp→Prop:=fun _ _=>False
abbrev TS:=Ends→St→Hp→Prop
def EP (X:Cx) (pins:List (Addr×Obj)) (σ:St) (Q:VK) (u:Value) (s':Shared):Prop:=∃ v H',Inv X pins σ H' s'∧RelV v u∧Q v H'
def TP (X:Cx) (pins:List (Addr×Obj)) (σ:St) (Q:Bool→Hp→Prop) (b:Bool) (s':Shared):Prop:=∃ H',Inv X pins σ H' s'∧Q b H'
def AP (X:Cx) (pins:List (Addr×Obj)) (σ:St) (Q:List V→Hp→Prop) (us:List Value) (s':Shared):Prop:=∃ vs H',Inv X pins σ H' s'∧Vals vs us∧Q vs H'
def SP (X:Cx) (pins:List (Addr×Obj)) (D:Ends) (f:Flow) (s':Shared):Prop :=
 match f with
 | .next=>∃ σ' H',Inv X pins σ' H' s'∧D.nx σ' H'
 | .brk=>∃ σ' H',Inv X pins σ' H' s'∧D.bk σ' H'
 | .cont=>∃ σ' H',Inv X pins σ' H' s'∧D.ct σ' H'
 | .ret u=>∃ v σ' H',Inv X pins σ' H' s'∧RelV v u∧D.rt v H'
def PE (X:Cx) (e:Expr) (t:TE):Prop :=
 ∀(pins:List (Addr×Obj)) (s:Shared) (σ:St) (H:Hp) (Q:VK),Inv X pins σ H s→t σ H Q→wpAny (model X.prog X.w) X.A (eval e X.env) (EP X pins σ Q) X.xe s
def PT (X:Cx) (e:Expr) (t:TT):Prop :=
 ∀(pins:List (Addr×Obj)) (s:Shared) (σ:St) (H:Hp) (Q:Bool→Hp→Prop),Inv X pins σ H s→t σ H Q→wpAny (model X.prog X.w) X.A (isTrue e X.env (eval e X.env)) (TP X pins σ Q) X.xe s
def PW (X:Cx) (e:Expr) (t:TT):Prop :=
 ∀(whole:Sem Value) (pins:List (Addr×Obj)) (s:Shared) (σ:St) (H:Hp) (Q:Bool→Hp→Prop),Inv X pins σ H s→t σ H Q→wpAny (model X.prog X.w) X.A (isTrue e X.env whole) (TP X pins σ Q) X.xe s
theorem PW.pt {X:Cx}{e:Expr}{t:TT} (h:PW X e t):PT X e t:=h _
def PA (X:Cx) (es:List Expr) (t:TA):Prop :=
 ∀(pos:Pos) (pins:List (Addr×Obj)) (s:Shared) (σ:St) (H:Hp) (Q:List V→Hp→Prop),Inv X pins σ H s→t σ H Q→wpAny (model X.prog X.w) X.A (spliced (backTo pos (starEach es X.env))) (AP X pins σ Q) X.xe s
def PS (X:Cx) (st:Stmt) (t:TS):Prop :=
 ∀(pins:List (Addr×Obj)) (s:Shared) (σ:St) (H:Hp) (D:Ends),Inv X pins σ H s→t D σ H→wpAny (model X.prog X.w) X.A (exec st X.env) (SP X pins D) X.xe s
def AU (X:Cx) (st:List Stmt) (t:TS):Prop :=
 ∀(pins:List (Addr×Obj)) (s:Shared) (σ:St) (H:Hp) (D:Ends),Inv X pins σ H s→t D σ H→wpAny (model X.prog X.w) X.A (execs st X.env) (SP X pins D) X.xe s
theorem bY {α:Type}{t:Sem α}{Q Q':α→Shared→Prop}{M:Model}{A:Around}{E:Value→Shared→Prop}{s:Shared} (h:wpAny M A t Q E s) (hQ:∀ a s,Q a s→Q' a s):wpAny M A t Q' E s:=wpAny_mono h hQ fun _ _ x=>x
section
variable {X:Cx}
def Ed (i:Nat):TE:=fun σ H Q=>∃ v,σ[i]? = some (some v)∧Q v H
def tC (v:V):TE:=fun _ H Q=>Q v H
theorem GO {i:Nat}{x:Str}{pos:Pos} (hN:X.N[i]? = some x) (hv:P9 X.env.scope x) (hd:(x == ("__debug__" : Str))=false:=by decide) (hcd:(x == ("__classdict__" : Str))=false:=by decide):PE X (.Name x pos) (Ed i):=by
 intro pins s σ H Q I h
 obtain⟨v,e,h⟩:=h
 obtain⟨m,hn,hl⟩:=I.loc
 obtain⟨u,r,l⟩:=hl i x v hN e hv
 have fin:EP X pins σ Q u s:=⟨v,H,I,r,h⟩
 rcases l with ⟨hk,hm⟩ | ⟨hk,c,hc,hcell⟩
 ·exact wpAny_Name (wpAny_loadName_local I.ok.kind hk hn hm fin) hd
 ·rcases hk with hk | hk
  ·exact wpAny_Name (wpAny_loadName_cell I.ok.kind hk hc hcell fin) hd
  ·exact wpAny_Name (wpAny_loadName_free I.ok.kind hk hc hcell fin hcd) hd
theorem ak {i j pos}:PE X (.Constant (.int i) j pos) (tC (.int i)):=fun _ _ _ H _ I h=>wpAny_Constant_int ⟨.int i,H,I.tok _,⟨_,rfl⟩,h⟩
theorem jm {b j pos}:PE X (.Constant (.bool b) j pos) (tC (.bl b)):=fun _ _ _ H _ I h=>Constant_bool ⟨.bl b,H,I,rfl,h⟩
theorem gj {j pos}:PE X (.Constant .none j pos) (tC .non):=fun _ _ _ H _ I h=>Constant_none ⟨.non,H,I,rfl,h⟩
theorem av {x j pos}:PE X (.Constant (.str x) j pos) (tC (.str x)):=fun _ _ _ H _ I h=>Calls.Constant_str ⟨.str x,H,I.tok _,⟨_,rfl⟩,h⟩
def Gl (X:Cx) (x:Str):Prop:=X.env.kindOf x=some .globalImplicit
theorem vm {E:Value→Shared→Prop}{pins:List (Addr×Obj)}{s:Shared}{σ:St}{H:Hp}{x:Str}{u:Value}{pos:Pos}{Q:Value→Shared→Prop} (I:Inv X pins σ H s) (hg:Gl X x) (hm:X.mg x=some u) (h:Q u s)
  (hd:(x == ("__debug__" : Str))=false:=by decide):wpAny (model X.prog X.w) X.A (eval (.Name x pos) X.env) Q E s :=
 Calls.Name_function_global I.ok.kind hg (Calls.loadGlobal_global (by rw[I.ok.glob];exact I.mod.glob.keeps I.bk) hm h) hd
theorem ku {E:Value→Shared→Prop}{pins:List (Addr×Obj)}{s:Shared}{σ:St}{H:Hp}{x:Str}{u:Value}{pos:Pos}{Q:Value→Shared→Prop} (I:Inv X pins σ H s) (hg:Gl X x) (hm:X.mg x=none) (hv:bootBuiltins x=some u) (h:Q u s)
  (hn:x ≠ "__name__" := by decide) (hd:(x == ("__debug__" : Str))=false:=by decide):wpAny (model X.prog X.w) X.A (eval (.Name x pos) X.env) Q E s:=by
 obtain⟨mb,h1,h2⟩:=I.mod.blt
 exact Calls.Name_function_global I.ok.kind hg (Calls.loadGlobal_builtin (by rw[I.ok.glob];exact I.mod.glob.keeps I.bk) hm (by rw[I.ok.blt];exact h1.keeps I.bk) ((h2 x hn).trans hv) h) hd
theorem vo {x:Str}{v:V}{u:Value}{pos:Pos} (hg:Gl X x) (hm:X.mg x=some u) (r:RelV v u) (hd:(x == ("__debug__" : Str))=false:=by decide):PE X (.Name x pos) (tC v) :=
 fun _ _ _ H _ I h=>vm I hg hm ⟨v,H,I,r,h⟩ hd
theorem Ef {x:Str}{v:V}{u:Value}{pos:Pos} (hg:Gl X x) (hm:X.mg x=none) (hv:bootBuiltins x=some u) (r:RelV v u) (hn:x ≠ "__name__" := by decide) (hd:(x == ("__debug__" : Str))=false:=by decide):PE X (.Name x pos) (tC v) :=
 fun _ _ _ H _ I h=>ku I hg hm hv ⟨v,H,I,r,h⟩ hn hd
variable {a b:Expr}{ta tb:TE}{pos:Pos}
def PC (X:Cx) (op:CmpOp) (a b:Expr) (t:TE):Prop :=
 ∀(pins:List (Addr×Obj)) (s:Shared) (σ:St) (H:Hp) (Q:VK),Inv X pins σ H s→t σ H Q →
  wpAny (model X.prog X.w) X.A (eval a X.env) (fun v s₁=>wpAny (model X.prog X.w) X.A (eval b X.env) (fun u s₂=>wpAny (model X.prog X.w) X.A (compareOp op v u) (EP X pins σ Q) X.xe s₂) X.xe s₁) X.xe s
theorem Cb (b:Expr) {op:CmpOp} (h:op≠.In) (h2:op≠.NotIn):behindInMarks op b=false:=by
 have e1:(op == CmpOp.In)=false:=by cases op <;> first | rfl | exact absurd rfl h
 have e2:(op == CmpOp.NotIn)=false:=by cases op <;> first | rfl | exact absurd rfl h2
 cases b <;> simp[behindInMarks,e1,e2]
def tB (t:TE):TT:=fun σ H Q=>t σ H fun x H1=>∃ c,x=.bl c∧Q c H1
theorem GP {op:CmpOp}{t:TE} (h:PC X op a b t) (h1:behindInMarks op b=false:=by first | exact Cb _ (by decide) (by decide) | rfl):PT X (.Compare a [op] [b] pos) (tB t):=by
 intro pins s σ H Q I hw
 refine wpAny_isTrue_Compare1 (bY (h pins s σ H _ I hw) fun v s1 h1=>bY h1 fun u s2 h2=>bY h2 fun c s3 ⟨x,H1,I1,r1,q1⟩=>?_) h1
 obtain⟨d,rfl,q⟩:=q1
 cases r1
 exact wpAny_truthy_bool ⟨H1,I1,q⟩
theorem cV {e:Expr}{t:TE} (h:PE X e t) (he:∀ whole,isTrue e X.env whole=(do let v ←whole;standAt e.pos;holding [v] (truthy v)):=by intro _;rfl):PT X e (tB t):=by
 intro pins s σ H Q I hw
 refine isTrue_plain (bY (h pins s σ H _ I hw) fun v s1 ⟨x,H1,I1,r1,q1⟩=>?_) (he _)
 obtain⟨d,rfl,q⟩:=q1
 cases r1
 exact wpAny_truthy_bool ⟨H1,I1,q⟩
variable {tA Pc:TT}{rest:List Expr}
def Qe (t u:TT):TT:=fun σ H Q=>t σ H fun c H1=>if c=true then u σ H1 Q else Q false H1
def WS (t u:TT):TT:=fun σ H Q=>t σ H fun c H1=>if c=true then Q true H1 else u σ H1 Q
def Qf (t:TT):TT:=fun σ H Q=>t σ H fun c H1=>Q (!c) H1
theorem iI (ha:PT X a tA):PW X (.BoolOp .And [a] pos) tA:=by
 intro wh pins s σ H Q I h
 refine isTrue_and (bY (ha pins s σ H Q I h) fun c s1 e=>?_)
 cases c with
 | true=>exact isTrue_and_nil e
 | false=>exact e
theorem qX (ha:PT X a tA):PW X (.BoolOp .Or [a] pos) tA:=by
 intro wh pins s σ H Q I h
 refine isTrue_or (bY (ha pins s σ H Q I h) fun c s1 e=>?_)
 cases c with
 | false=>exact isTrue_or_nil e
 | true=>exact e
theorem kB (ha:PT X a tA) (hb:PW X (.BoolOp .And (b :: rest) pos) Pc):PW X (.BoolOp .And (a :: b :: rest) pos) (Qe tA Pc):=by
 intro wh pins s σ H Q I h
 refine isTrue_and (bY (ha pins s σ H _ I h) fun c s1 ⟨H1,I1,q1⟩=>?_)
 cases c with
 | true=>exact hb wh pins s1 σ H1 Q I1 q1
 | false=>exact⟨H1,I1,q1⟩
theorem ux (ha:PT X a tA) (hb:PW X (.BoolOp .Or (b :: rest) pos) Pc):PW X (.BoolOp .Or (a :: b :: rest) pos) (WS tA Pc):=by
 intro wh pins s σ H Q I h
 refine isTrue_or (bY (ha pins s σ H _ I h) fun c s1 ⟨H1,I1,q1⟩=>?_)
 cases c with
 | true=>exact⟨H1,I1,q1⟩
 | false=>exact hb wh pins s1 σ H1 Q I1 q1
theorem fM (ha:PT X a tA):PT X (.UnaryOp .Not a pos) (Qf tA):=by
 intro pins s σ H Q I h
 exact isTrue_not (ha pins s σ H (fun c H1=>Q (!c) H1) I h)
def KA (ta tb:TE):TE:=fun σ H Q=>ta σ H fun x H1=>∃ c,x=.bl c∧if c=true then tb σ H1 Q else Q (.bl false) H1
def Qg (ta tb:TE):TE:=fun σ H Q=>ta σ H fun x H1=>∃ c,x=.bl c∧if c=true then Q (.bl true) H1 else tb σ H1 Q
def KC (ta:TE):TE:=fun σ H Q=>ta σ H fun x H1=>∃ c,x=.bl c∧Q (.bl (!c)) H1
theorem yQ {op}{t:TE} (h:PE X a t):PE X (.BoolOp op [a] pos) t:=fun pins s σ H Q I hw=>BoolOp_one (h pins s σ H Q I hw)
theorem yR (ha:PE X a ta) (hb:PE X (.BoolOp .And (b :: rest) pos) tb):PE X (.BoolOp .And (a :: b :: rest) pos) (KA ta tb):=by
 intro pins s σ H Q I h
 refine BoolOp_and (bY (ha pins s σ H _ I h) fun v s1 ⟨x,H1,I1,r1,q1⟩=>?_)
 obtain⟨c,rfl,q1⟩:=q1
 cases r1
 refine wpAny_truthy_bool ?_
 cases c with
 | true=>exact hb pins s1 σ H1 Q I1 q1
 | false=>exact⟨.bl false,H1,I1,rfl,q1⟩
theorem KD (ha:PE X a ta) (hb:PE X (.BoolOp .Or (b :: rest) pos) tb):PE X (.BoolOp .Or (a :: b :: rest) pos) (Qg ta tb):=by
 intro pins s σ H Q I h
 refine BoolOp_or (bY (ha pins s σ H _ I h) fun v s1 ⟨x,H1,I1,r1,q1⟩=>?_)
 obtain⟨c,rfl,q1⟩:=q1
 cases r1
 refine wpAny_truthy_bool ?_
 cases c with
 | false=>exact hb pins s1 σ H1 Q I1 q1
 | true=>exact⟨.bl true,H1,I1,rfl,q1⟩
theorem GQ (ha:PE X a ta):PE X (.UnaryOp .Not a pos) (KC ta):=by
 intro pins s σ H Q I h
 refine UnaryOp_ (bY (ha pins s σ H _ I h) fun v s1 ⟨x,H1,I1,r1,q1⟩=>?_)
 obtain⟨c,rfl,q1⟩:=q1
 cases r1
 exact not_of (wpAny_truthy_bool ⟨.bl (!c),H1,I1,rfl,q1⟩)
def WT (t:TT) (ta tb:TE):TE:=fun σ H Q=>t σ H fun c H1=>if c=true then ta σ H1 Q else tb σ H1 Q
theorem kC {c:Expr} (hc:PT X c tA) (ha:PE X a ta) (hb:PE X b tb):PE X (.IfExp c a b pos) (WT tA ta tb):=by
 intro pins s σ H Q I h
 refine wpAny_IfExp (bY (hc pins s σ H _ I h) fun d s1 ⟨H1,I1,q1⟩=>?_)
 cases d with
 | true=>exact ha pins s1 σ H1 Q I1 q1
 | false=>exact hb pins s1 σ H1 Q I1 q1
end
def aP (K:W.Frag) (H:Hp) (a:Addr) (xs:List V):Prop :=
 Rd H a (.lst xs) ∨
  ∃(o:Obj) (its:Array Value) (n:Nat),K.lookup a=some o∧o.cls=.type "list"∧o.dict=none∧o.data=.seq its n∧its.size≤sizeLine∧Vals xs its.toList
def bh (K:W.Frag) (H:Hp) (a:Addr) (xs:List V):Prop :=
 Rd H a (.tup xs) ∨
  ∃(o:Obj) (its:Array Value) (n:Nat),K.lookup a=some o∧o.cls=.type "tuple"∧o.data=.seq its n∧its.size≤sizeLine∧Vals xs its.toList
def Qh:Value→Option V
 | .none=>some .non
 | .bool b=>some (.bl b)
 | .int i _=>some (.int i)
 | .str x _=>some (.str x)
 | .bytes b _=>some (.BV b)
 | .float b _=>some (.nL b)
 | .ref a=>some (.ref a)
 | .type n=>some (.ty n)
 | _=>none
theorem RelV.abs {x:V}{u:Value} (r:RelV x u):Qh u=some x:=by
 cases x with
 | non=>cases r;rfl
 | bl _=>cases r;rfl
 | int _=>obtain⟨t,rfl⟩:=r;rfl
 | str _=>obtain⟨t,rfl⟩:=r;rfl
 | BV _=>obtain⟨t,rfl⟩:=r;rfl
 | nL _=>obtain⟨t,rfl⟩:=r;rfl
 | ref _=>cases r;rfl
 | ty _=>cases r;rfl
theorem RelV.inj {x y:V}{u:Value} (r:RelV x u) (q:RelV y u):x=y:=Option.some.inj (r.abs.symm.trans q.abs)
theorem Vals.inj:∀{xs ys:List V}{us:List Value},Vals xs us→Vals ys us→xs=ys
 | _,_,_,.nil,.nil=>rfl
 | _,_,_,.cons r t,.cons r' t'=>by rw[r.inj r',Vals.inj t t']
section
variable {X:Cx}{pins:List (Addr×Obj)}{σ:St}{H:Hp}{s:Shared}{a:Addr}{xs ys:List V}
theorem aP.of {K:W.Frag} (h:H a=some (.lst xs)):aP K H a xs:=.inl (.inl h)
theorem bh.of {K:W.Frag} (h:H a=some (.tup xs)):bh K H a xs:=.inl (.inl h)
theorem Inv.list (I:Inv X pins σ H s) (h:aP X.K H a xs):∃ its:List Value,Vals xs its∧PlainL s.heap a its.toArray∧xs.length≤sizeLine:=by
 rcases h with h | ⟨o,its,n,hk,hc,hd,hs,hz,r⟩
 ·obtain⟨z,its,n,r,e⟩:=h.ok I.hok
  exact⟨its,r,⟨_,n,e,rfl,rfl,rfl⟩,z⟩
 ·refine⟨its.toList,r,⟨o,n,I.pA a o hk,hc,hd,by simpa using hs⟩,?_⟩
  have e:=r.length
  simp only[Array.length_toList] at e
  omega
theorem Inv.tuple (I:Inv X pins σ H s) (h:bh X.K H a xs):∃ its:List Value,Vals xs its∧IsTup s.heap a its.toArray∧xs.length≤sizeLine:=by
 rcases h with h | ⟨o,its,n,hk,hc,hs,hz,r⟩
 ·obtain⟨z,its,r,p⟩:=h.ok I.hok
  exact⟨its,r,p,z⟩
 ·refine⟨its.toList,r,⟨o,I.pA a o hk,hc,n,by simpa using hs⟩,?_⟩
  have e:=r.length
  simp only[Array.length_toList] at e
  omega
theorem Inv.qY (I:Inv X pins σ H s) (h:aP X.K H a xs) (h':aP X.K H a ys):xs=ys:=by
 obtain⟨its,r,⟨o,n,e,_,_,d⟩,_⟩:=I.list h
 obtain⟨its',r',⟨o',n',e',_,_,d'⟩,_⟩:=I.list h'
 rw[e] at e';cases e'
 rw[d] at d'
 injection d' with d1 _
 have:its=its':=by simpa using congrArg Array.toList d1
 subst this
 exact r.inj r'
theorem Inv.uy (I:Inv X pins σ H s) (h:bh X.K H a xs) (h':bh X.K H a ys):xs=ys:=by
 obtain⟨its,r,⟨o,e,_,n,d⟩,_⟩:=I.tuple h
 obtain⟨its',r',⟨o',e',_,n',d'⟩,_⟩:=I.tuple h'
 rw[e] at e';cases e'
 rw[d] at d'
 injection d' with d1 _
 have:its=its':=by simpa using congrArg Array.toList d1
 subst this
 exact r.inj r'
end
abbrev Cx.tM (X:Cx) (E:Value→Shared→Prop):Cx:={ X with xe:=E }
abbrev Cx.JY (X:Cx):Cx:=X.tM fun _ _=>False
theorem Cx.Ok.tM {X:Cx} (ok:X.Ok) (E:Value→Shared→Prop):(X.tM E).Ok :=
 ⟨ok.mod,ok.kind,ok.glob,ok.blt,ok.above,ok.inj,ok.has,ok.Ks,ok.hd,ok.frames,ok.stk,ok.UI,ok.bs,ok.B9,ok.Ca,ok.Ec,ok.pq,ok.Gk⟩
theorem Cx.Ok.kD {X:Cx}{E:Value→Shared→Prop} (ok:(X.tM E).Ok):X.Ok :=
 ⟨ok.mod,ok.kind,ok.glob,ok.blt,ok.above,ok.inj,ok.has,ok.Ks,ok.hd,ok.frames,ok.stk,ok.UI,ok.bs,ok.B9,ok.Ca,ok.Ec,ok.pq,ok.Gk⟩
section
variable {X:Cx}{pins:List (Addr×Obj)}{σ:St}{H:Hp}{s:Shared}{E:Value→Shared→Prop}
theorem Inv.tM (I:Inv X pins σ H s) (E:Value→Shared→Prop):Inv (X.tM E) pins σ H s:=⟨I.ok.tM E,I.os,I.bare,I.base,I.loc,I.cell,I.free,I.mK,I.pin,I.hok,I.len⟩
theorem Inv.kD (I:Inv (X.tM E) pins σ H s):Inv X pins σ H s:=⟨I.ok.kD,I.os,I.bare,I.base,I.loc,I.cell,I.free,I.mK,I.pin,I.hok,I.len⟩
theorem SP.kD {D:Ends}{f:Flow}{s':Shared} (h:SP (X.tM E) pins D f s'):SP X pins D f s':=by
 cases f with
 | next=>obtain⟨σ',H',I,q⟩:=h;exact⟨σ',H',I.kD,q⟩
 | brk=>obtain⟨σ',H',I,q⟩:=h;exact⟨σ',H',I.kD,q⟩
 | cont=>obtain⟨σ',H',I,q⟩:=h;exact⟨σ',H',I.kD,q⟩
 | ret u=>obtain⟨v,σ',H',I,r,q⟩:=h;exact⟨v,σ',H',I.kD,r,q⟩
theorem AU.JY {st:List Stmt}{t:TS} (h:AU X.JY st t):AU X st t:=fun pins s σ H D I hw =>
 wpAny_mono (h pins s σ H D (I.tM _) hw) (fun _ _ q=>q.kD) fun _ _ z=>False.elim z
end
section
variable {X:Cx}{st:Stmt}{rest:List Stmt}{t u:TS}{e:Expr}{te:TE}{pos:Pos}
def Cc:TS:=fun D σ H=>D.nx σ H
def GR (t u:TS):TS:=fun D σ H=>t { D with nx:=u D } σ H
theorem aA:AU X [] Cc:=fun _ _ σ H _ I h=>wpAny_execs_nil ⟨σ,H,I,h⟩
theorem ah (h1:PS X st t) (h2:AU X rest u):AU X (st :: rest) (GR t u):=by
 intro pins s σ H D I h
 refine wpAny_execs_cons (bY (h1 pins s σ H { D with nx:=u D } I h) fun f s1 q=>?_)
 cases f with
 | next =>
  obtain⟨σ',H',I',q⟩:=q
  exact h2 pins s1 σ' H' D I' q
 | ret v=>exact q
 | brk=>exact q
 | cont=>exact q
theorem ao (h1:PS X st t):AU X [st] t:=by
 intro pins s σ H D I h
 refine wpAny_execs_cons (bY (h1 pins s σ H D I h) fun f s1 q=>?_)
 cases f with
 | next=>exact wpAny_execs_nil q
 | ret v=>exact q
 | brk=>exact q
 | cont=>exact q
theorem Inv.quiet {pins:List (Addr×Obj)}{σ:St}{H:Hp}{s:Shared} (I:Inv X pins σ H s):interactive X.env=false:=by simp[interactive,I.ok.kind]
def KG (te:TE):TS:=fun D σ H=>te σ H fun _ H1=>D.nx σ H1
theorem dD (he:PE X e te) (hs:swapsWith e none pos.line X.env=pure false:=by rfl):PS X (.Expr e pos) (KG te):=by
 intro pins s σ H D I h
 exact wpAny_Expr_any (bY (he pins s σ H _ I h) fun v s1 ⟨x,H1,I1,r1,q1⟩=>⟨σ,H1,I1,q1⟩) I.quiet hs
def Qi (te:TE):TS:=fun D σ H=>te σ H D.rt
theorem ay (he:PE X e te):PS X (.Return (some e) pos) (Qi te):=by
 intro pins s σ H D I h
 exact wpAny_Return_some (bY (he pins s σ H _ I h) fun v s1 ⟨x,H1,I1,r1,q1⟩=>⟨x,σ,H1,I1,r1,q1⟩)
def Cd (c:TT) (t u:TS):TS:=fun D σ H=>c σ H fun b H1=>if b=true then t D σ H1 else u D σ H1
theorem aL {c:Expr}{a b:List Stmt}{tc:TT} (hc:PT X c tc) (ha:AU X a t) (hb:AU X b u):PS X (.If c a b pos) (Cd tc t u):=by
 intro pins s σ H D I h
 refine wpAny_If (bY (hc pins s σ H _ I h) fun d s1 ⟨H1,I1,q1⟩=>?_)
 cases d with
 | true=>exact ha pins s1 σ H1 D I1 q1
 | false=>exact hb pins s1 σ H1 D I1 q1
def GS:TS:=fun _ _ _=>False
theorem gZ:PS X st GS:=fun _ _ _ _ _ _ h=>h.elim
end
abbrev TG:=V→St→Hp→(St→Hp→Prop)→Prop
abbrev Gn:=List V→St→Hp→(St→Hp→Prop)→Prop
def PG (X:Cx) (target:Expr) (t:TG):Prop :=
 ∀(pins:List (Addr×Obj)) (s:Shared) (σ:St) (H:Hp) (v:V) (u:Value) (Q:St→Hp→Prop),Inv X pins σ H s→RelV v u→t v σ H Q →
  wpAny (model X.prog X.w) X.A (assign target X.env u) (fun _ s'=>∃ σ' H',Inv X pins σ' H' s'∧Q σ' H') X.xe s
def KH (X:Cx) (ts:List Expr) (t:Gn):Prop :=
 ∀(pins:List (Addr×Obj)) (s:Shared) (σ:St) (H:Hp) (vs:List V) (us:List Value) (Q:St→Hp→Prop),Inv X pins σ H s→Vals vs us→t vs σ H Q →
  wpAny (model X.prog X.w) X.A (assignInOrder ((assignEach ts X.env).map (·.2)) us) (fun _ s'=>∃ σ' H',Inv X pins σ' H' s'∧Q σ' H') X.xe s
abbrev GU:=V→V→V→Hp→(Hp→Prop)→Prop
def KI (X:Cx) (t:GU):Prop :=
 ∀(pins:List (Addr×Obj)) (s:Shared) (σ:St) (H:Hp) (o i v:V) (ov iv u:Value) (Q:Hp→Prop),Inv X pins σ H s→RelV o ov→RelV i iv→RelV v u→t o i v H Q →
  wpAny (model X.prog X.w) X.A (setItem ov iv u) (fun _ s'=>∃ H',Inv X pins σ H' s'∧Q H') X.xe s
section
variable {X:Cx}{pos:Pos}
def gv (i:Nat):TG:=fun v σ H Q=>Q (σ.set i (some v)) H
theorem Eg {i:Nat}{x:Str} (hN:X.N.Nodup) (hi:X.N[i]? = some x) (hx:Loc X.env.scope x) (hf:X.fn x=true∨X.env.scope.names.lookup x=some .local:=by first | exact .inl rfl | exact .inr rfl | assumption):PG X (.Name x pos) (gv i):=by
 intro pins s σ H v u Q I r h
 exact wpAny_assign_Name (xm I hN hi hx r (fun s' I'=>⟨_,H,I',h⟩) hf)
def Qj:Gn:=fun vs σ H Q=>vs=[]∧Q σ H
def KJ (t:TG) (u:Gn):Gn:=fun vs σ H Q=>∃ v r,vs=v :: r∧t v σ H fun σ' H'=>u r σ' H' Q
theorem dF:KH X [] Qj:=by
 intro pins s σ H vs us Q I r h
 obtain⟨e,h⟩:=h
 subst e
 cases r
 exact assignInOrder_nil ⟨σ,H,I,h⟩
theorem aM {e:Expr}{es:List Expr}{t:TG}{u:Gn} (h1:PG X e t) (h2:KH X es u)
  (hs:(assignEach (e :: es) X.env).map (·.2)=assign e X.env :: (assignEach es X.env).map (·.2):=by rfl):KH X (e :: es) (KJ t u):=by
 intro pins s σ H vs us Q I r h
 obtain⟨v,vr,e1,h⟩:=h
 subst e1
 cases r with
 | cons r rr =>
  rw[hs]
  refine assignInOrder_cons (bY (h1 pins s σ H _ _ _ I r h) fun _ s1 ⟨σ1,H1,I1,q1⟩=>?_)
  exact h2 pins s1 σ1 H1 _ _ Q I1 rr q1
def KL (K:W.Frag) (n:Nat) (t:Gn):TG:=fun v σ H Q=>∃ a xs,v=.ref a∧bh K H a xs∧xs.length=n∧t xs σ H Q
theorem GV {es:List Expr}{k:Nat}{t:Gn}{n:Nat} (hc:X.calm=true) (h:KH X es t)
  (hn:(assignEach es X.env).length=n:=by rfl) (hst:(assignEach es X.env).findIdx? (·.1)=none:=by rfl):PG X (.Tuple es k pos) (KL X.K n t):=by
 intro pins s σ H v u Q I r hw
 obtain⟨a,xs,e1,hq,hl,hw⟩:=hw
 subst e1
 cases r
 obtain⟨its,rv,ht,hz⟩:=I.tuple hq
 refine assign_Tuple_tuple (I.ok.hd hc) ht (by simp[hn,←hl,rv.length]) hst fun h' hx=>?_
 have I1:Inv X pins σ H { s with heap:=h' }:=I.kept (t':=s.toks) fun b o e=>hx b o (Nat.ne_of_lt (Heap.lt_size e)) e
 exact h pins _ σ H xs _ Q I1 (by simpa using rv) hw
def Qk (to ti:TE) (t:GU):TG:=fun v σ H Q=>to σ H fun o H1=>ti σ H1 fun i H2=>t o i v H2 fun H3=>Q σ H3
theorem qZ {o i:Expr}{to ti:TE}{t:GU} (ho:PE X o to) (hi:PE X i ti) (hs:KI X t)
  (ha:∀ v,assign (.Subscript o i pos) X.env v=(do
   let ov ←holding [v] (eval o X.env)
   let iv ←holding [v,ov] (eval i X.env)
   standAt pos
   holding [v,ov,iv] (setItem ov iv v)
   release [v,ov,iv] []):=by intro _;rfl):PG X (.Subscript o i pos) (Qk to ti t):=by
 intro pins s σ H v u Q I r h
 rw[ha]
 refine wpAny_bind (wpAny_holding (bY (ho pins s σ H _ I h) fun ov s1 ⟨x,H1,I1,r1,q1⟩=>?_))
 refine wpAny_bind (wpAny_holding (bY (hi pins s1 σ H1 _ I1 q1) fun iv s2 ⟨y,H2,I2,r2,q2⟩=>?_))
 refine wpAny_bind (wpAny_standAt (wpAny_bind (wpAny_holding (bY (hs pins s2 σ H2 x y v ov iv u _ I2 r1 r2 r q2) fun _ s3 ⟨H3,I3,q3⟩=>?_))))
 exact wpAny_release ⟨σ,H3,I3,q3⟩
def Eh (te:TE) (g:TG):TS:=fun D σ H=>te σ H fun x H1=>g x σ H1 D.nx
theorem jJ {tg e:Expr}{te:TE}{g:TG} (he:PE X e te) (hg:PG X tg g) (hs:swapsWithSole [tg] e pos.line X.env=pure false:=by rfl) (hw:swappedStores [tg] e X.env=pure none:=by rfl)
  (h1:(assignEach [tg] X.env).map (·.2)=[assign tg X.env]:=by rfl):PS X (.Assign [tg] e pos) (Eh te g):=by
 intro pins s σ H D I h
 refine wpAny_Assign_stores (bY (he pins s σ H _ I h) fun v s1 ⟨x,H1,I1,r1,q1⟩=>?_) hs hw
 rw[h1]
 exact bY (hg pins s1 σ H1 x v _ I1 r1 q1) fun _ s2 q=>q
theorem GW {i:Nat}{x:Str}{e:Expr}{te:TE}{pos':Pos} (hN:X.N.Nodup) (hi:X.N[i]? = some x) (hx:Loc X.env.scope x) (he:PE X e te) (hs:swapsWith e (some (.Name x pos')) pos.line X.env=pure false:=by rfl) (hf:X.fn x=true∨X.env.scope.names.lookup x=some .local:=by first | exact .inl rfl | exact .inr rfl | assumption) :
  PS X (.Assign [.Name x pos'] e pos) (Eh te (gv i)):=by
 intro pins s σ H D I h
 refine wpAny_Assign_Name (bY (he pins s σ H _ I h) fun v s1 ⟨y,H1,I1,r1,q1⟩=>?_) hs
 exact xm I1 hN hi hx r1 (fun s2 I2=>⟨_,H1,I2,q1⟩) hf
end
section
variable {X:Cx}{pos:Pos}
end
structure It where
 go:Nat→Hp→Prop
 Ce:Nat→Hp→V→Hp→Prop
 stop:Nat→Hp→Prop
def nP (X:Cx) (pins:List (Addr×Obj)) (H:Hp) (b:Addr):Prop :=
 H b=none∧b≠X.env.locals∧b∉X.fs∧(b∈X.ex∨X.s₀.heap.objs.size≤b)∧(∀ x c,X.env.cells.lookup x=some c→c≠b)∧∀ p∈X.pn++pins,p.1≠b
theorem Inv.nQ {X:Cx}{pins:List (Addr×Obj)}{σ:St}{H H':Hp}{s:Shared}{b:Addr} (I:Inv X pins σ H s) (hb:s.heap.objs.size≤b) (hn:H' b=none):nP X pins H' b:=by
 refine⟨hn,Nat.ne_of_gt (Nat.lt_of_lt_of_le I.lt hb),I.Qc hb,.inr (Nat.le_trans I.sz hb),fun x c e z=>?_,fun p hp z=>?_⟩
 ·obtain⟨v,q⟩:=I.cell x c e
  exact absurd (Nat.lt_of_lt_of_le q.lt (by rw[z];exact hb)) (Nat.lt_irrefl _)
 ·exact absurd (Nat.lt_of_lt_of_le (Heap.lt_size (I.pin p hp).1) (by rw[z];exact hb)) (Nat.lt_irrefl _)
structure Turn (P:Program) (w:World) (K:W.Frag) (tg:Expr) (J:It) (fp:List Addr) (it:Addr) (tn:Nat→Heap→Prop):Prop where
 mem:it∈fp
 obj:∀ i h,tn i h→∀ b∈fp,∃ o,h.get? b=some o∧∀ v,o.data≠.cell v
 keep:∀ i h h',tn i h→(∀ b∈fp,∀ o,h.get? b=some o→h'.get? b=some o)→tn i h'
 item:∀(X:Cx),X.prog=P→X.w=w→X.K=K→X.calm=true→∀(i:Nat) (pins:List (Addr×Obj)) (s:Shared) (σ:St) (H:Hp) (E:Value→Shared→Prop),Inv X pins σ H s→(∀ b∈fp,nP X pins H b)→tn i s.heap→J.go i H →
  wpAny (model P w) X.A (pyNext (.ref it)) (fun r s1=>∃ u,r=some u ∧
   wpAny (model P w) X.A (letOwnedTupleGo tg (.ref it) u) (fun _ s2=>∃ x H',Inv X pins σ H' s2∧RelV x u∧J.Ce i H x H'∧tn (i+1) s2.heap∧∀ b∈fp,H' b=none) E s1) E s
 done:∀(X:Cx),X.prog=P→X.w=w→X.K=K→X.calm=true→∀(i:Nat) (pins:List (Addr×Obj)) (s:Shared) (σ:St) (H:Hp) (E:Value→Shared→Prop),Inv X pins σ H s→(∀ b∈fp,nP X pins H b)→tn i s.heap→J.stop i H →
  wpAny (model P w) X.A (pyNext (.ref it)) (fun r s1=>r=none∧Inv X pins σ H s1) E s
 self:∀(A:Around) (i:Nat) (s:Shared) (Q:Value→Shared→Prop) (E:Value→Shared→Prop),tn i s.heap→Q (.ref it) s→wpAny (model P w) A (pyIter (.ref it)) Q E s
abbrev TI:=St→Hp→(It→Hp→Prop)→Prop
def UJ (X:Cx) (pins:List (Addr×Obj)) (σ:St) (tg:Expr) (R:It→Hp→Prop) (itv:Value) (s2:Shared):Prop :=
 ∃(it:Addr) (fp:List Addr) (tn:Nat→Heap→Prop) (J:It) (H':Hp),itv=.ref it∧Inv X pins σ H' s2∧Turn X.prog X.w X.K tg J fp it tn∧tn 0 s2.heap∧(∀ b∈fp,nP X pins H' b)∧R J H'
def PI (X:Cx) (tg iter:Expr) (wi:TI):Prop :=
 ∀(pins:List (Addr×Obj)) (s:Shared) (σ:St) (H:Hp) (R:It→Hp→Prop),Inv X pins σ H s→wi σ H R →
  wpAny (model X.prog X.w) X.A (eval iter X.env) (fun v s1=>wpAny (model X.prog X.w) X.A (pyIter v) (UJ X pins σ tg R) X.xe s1) X.xe s
theorem uz {M:Model}{A:Around}{E:Value→Shared→Prop}{s:Shared}{tg:Expr}{it:Addr}{u:Value}{o:Obj}{n:String}{vs:Array Value}{Q:Unit→Shared→Prop} (ho:s.heap.get? it=some o) (hc:o.cls=.type n) (hd:o.data=.fields vs)
   (hn:["enumerate", "zip", "dict_itemiterator", "dict_reverseitemiterator", "odict_iterator", "itertools.zip_longest", "itertools.pairwise"].contains n=false) (hQ:Q () s):wpAny M A (letOwnedTupleGo tg (.ref it) u) Q E s:=by
 unfold letOwnedTupleGo
 cases tg <;> first
   | exact wpAny_pure hQ
   | (cases u <;> first
       | exact wpAny_pure hQ
       | (refine wpAny_bind (wpAny_load ho ?_)
          rw[hc,hd]
          show wpAny M A (if (["enumerate", "zip", "dict_itemiterator", "dict_reverseitemiterator", "odict_iterator", "itertools.zip_longest", "itertools.pairwise"].contains n && vs[0]? == some (rawInt _))=true then _ else _) Q E s
          rw[if_neg (by intro h;rw[hn,Bool.false_and] at h;cases h)]
          exact wpAny_pure hQ))
def GX (K:W.Frag) (a:Addr):It :=
 ⟨fun i H=>∃ xs x,aP K H a xs∧xs[i]? = some x,fun i H x H'=>H'=H∧∀ xs,aP K H a xs→xs[i]? = some x,fun i H=>∃ xs,aP K H a xs∧xs.length≤i⟩
def GY (K:W.Frag) (a:Addr):It :=
 ⟨fun i H=>∃ xs x,bh K H a xs∧xs[i]? = some x,fun i H x H'=>H'=H∧∀ xs,bh K H a xs→xs[i]? = some x,fun i H=>∃ xs,bh K H a xs∧xs.length≤i⟩
def Gp (lo:Int) (n:Nat):It:=⟨fun i _=>i < n,fun i H x H'=>H'=H∧x=.int (lo+i),fun i _=>n≤i⟩
theorem uA {P:Program}{w:World}{K:W.Frag}{tg:Expr} (a it:Addr):Turn P w K tg (GX K a) [it] it (fun i h=>h.IsListIter it a i) where
 mem:=by simp
 obj:=fun i h st b hb=>by
  have e:b=it:=by simpa using hb
  subst e
  obtain⟨o,e,c,d⟩:=st
  exact⟨o,e,fun v z=>by rw[d] at z;cases z⟩
 keep:=fun i h h' st k=>st.at fun o e=>k it (by simp) o e
 item:=by
  intro X hP hw hK hc i pins s σ H E I hf st hg
  subst hP hw hK
  obtain⟨xs,x,hq,hx⟩:=hg
  obtain⟨its,rv,p,hz⟩:=I.list hq
  obtain⟨u,hu,ru⟩:=rv.get hx
  obtain⟨f0,f1,f2,f3,f4,f5⟩:=hf it (by simp)
  refine wpAny_pyNext_list_item st p.isList (x:=u) (by simpa using hu) fun h' st' sb=>?_
  have I1:Inv X pins σ H { s with heap:=h' }:=I.turned (t':=s.toks) (fun b o hb e=>(sb.2 b hb).trans e) f0 f1 f3 f4 f5
  obtain⟨o,e,c,d⟩:=id st'
  exact⟨u,rfl,uz (s:={ s with heap:=h' }) e c d (by decide) ⟨x,H,I1,ru,⟨rfl,fun ys hy=>by rw[I.qY hy hq];exact hx⟩,st',fun b hb=>(hf b hb).1⟩⟩
 done:=by
  intro X hP hw hK hc i pins s σ H E I hf st hg
  subst hP hw hK
  obtain⟨xs,hq,hx⟩:=hg
  obtain⟨its,rv,p,hz⟩:=I.list hq
  obtain⟨f0,f1,f2,f3,f4,f5⟩:=hf it (by simp)
  have hl:=rv.length
  exact wpAny_pyNext_list_end (I.ok.hd hc) st p.isList (by simp;omega) fun h' eb=>⟨rfl,I.turned (t':=s.toks) (fun b o hb e=>eb b o hb e) f0 f1 f3 f4 f5⟩
 self:=fun _ _ _ _ _ st h=>wpAny_pyIter_listiter st h
theorem rj {P:Program}{w:World}{K:W.Frag}{tg:Expr} (a it:Addr):Turn P w K tg (GY K a) [it] it (fun i h=>h.IsTupleIter it a i) where
 mem:=by simp
 obj:=fun i h st b hb=>by
  have e:b=it:=by simpa using hb
  subst e
  obtain⟨o,e,c,d⟩:=st
  exact⟨o,e,fun v z=>by rw[d] at z;cases z⟩
 keep:=fun i h h' st k=>st.at fun o e=>k it (by simp) o e
 item:=by
  intro X hP hw hK hc i pins s σ H E I hf st hg
  subst hP hw hK
  obtain⟨xs,x,hq,hx⟩:=hg
  obtain⟨its,rv,p,hz⟩:=I.tuple hq
  obtain⟨u,hu,ru⟩:=rv.get hx
  obtain⟨f0,f1,f2,f3,f4,f5⟩:=hf it (by simp)
  refine wpAny_pyNext_tuple_item st (show s.heap.IsTuple a its.toArray from p) (x:=u) (by simpa using hu) fun h' st' sb=>?_
  have I1:Inv X pins σ H { s with heap:=h' }:=I.turned (t':=s.toks) (fun b o hb e=>(sb.2 b hb).trans e) f0 f1 f3 f4 f5
  obtain⟨o,e,c,d⟩:=id st'
  exact⟨u,rfl,uz (s:={ s with heap:=h' }) e c d (by decide) ⟨x,H,I1,ru,⟨rfl,fun ys hy=>by rw[I.uy hy hq];exact hx⟩,st',fun b hb=>(hf b hb).1⟩⟩
 done:=by
  intro X hP hw hK hc i pins s σ H E I hf st hg
  subst hP hw hK
  obtain⟨xs,hq,hx⟩:=hg
  obtain⟨its,rv,p,hz⟩:=I.tuple hq
  obtain⟨f0,f1,f2,f3,f4,f5⟩:=hf it (by simp)
  have hl:=rv.length
  exact wpAny_pyNext_tuple_end (I.ok.hd hc) st (show s.heap.IsTuple a its.toArray from p) (by simp;omega) fun h' eb=>⟨rfl,I.turned (t':=s.toks) (fun b o hb e=>eb b o hb e) f0 f1 f3 f4 f5⟩
 self:=fun _ _ _ _ _ st h=>wpAny_pyIter_tupleiter st h
theorem yS {P:Program}{w:World}{K:W.Frag}{tg:Expr} (it:Addr) (lo:Int) (n:Nat):Turn P w K tg (Gp lo n) [it] it (fun i h=>IsRangeIter h it (lo+(i:Nat) * 1) ((n:Int) - (i:Nat)) 1) where
 mem:=by simp
 obj:=fun i h st b hb=>by
  have e:b=it:=by simpa using hb
  subst e
  exact⟨_,st,fun v z=>by
   have z':Data.fields _=Data.cell v:=z
   cases z'⟩
 keep:=fun i h h' st k=>k it (by simp) _ st
 item:=by
  intro X hP hw hK hc i pins s σ H E I hf st hg
  subst hP hw hK
  obtain⟨f0,f1,f2,f3,f4,f5⟩:=hf it (by simp)
  have W:=Walks.range (prog:=X.prog) (w:=X.w) (I.ok.hd hc) it lo 1 n
  refine W.item i s _ _ hg st fun v h' tk hv st' kk=>?_
  obtain⟨t,rfl⟩:=hv
  have I1:Inv X pins σ H { s with heap:=h',toks:=tk }:=I.turned (fun b o hb e=>kk b o (by simpa using hb) e) f0 f1 f3 f4 f5
  refine⟨_,rfl,uz (s:={ s with heap:=h',toks:=tk }) (n := "range_iterator") st' rfl rfl (by decide) ⟨.int (lo+i),H,I1,⟨t,?_⟩,⟨rfl,rfl⟩,st',fun b hb=>(hf b hb).1⟩⟩
  rw[Int.mul_one]
 done:=by
  intro X hP hw hK hc i pins s σ H E I hf st hg
  subst hP hw hK
  obtain⟨f0,f1,f2,f3,f4,f5⟩:=hf it (by simp)
  exact wpAny_pyNext_range_end (I.ok.hd hc) st (by have:n≤i:=hg;omega) fun h' eb=>⟨rfl,I.turned (t':=s.toks) (fun b o hb e=>eb b o hb e) f0 f1 f3 f4 f5⟩
 self:=fun _ _ _ _ _ st h=>wpAny_pyIter_rangeiter st h
section
variable {X:Cx}{tg:Expr}
def Ab (K:W.Frag) (tl:TE):TI:=fun σ H R=>tl σ H fun x H1=>∃ a,x=.ref a∧(∃ xs,aP K H1 a xs)∧R (GX K a) H1
def KN (K:W.Frag) (tl:TE):TI:=fun σ H R=>tl σ H fun x H1=>∃ a,x=.ref a∧(∃ xs,bh K H1 a xs)∧R (GY K a) H1
theorem Ei {l:Expr}{tl:TE} (hl:PE X l tl):PI X tg l (Ab X.K tl):=by
 intro pins s σ H R I h
 refine bY (hl pins s σ H _ I h) fun v s1 ⟨x,H1,I1,r1,q1⟩=>?_
 obtain⟨a,e,⟨xs,hq⟩,q⟩:=q1
 subst e
 cases r1
 obtain⟨its,rv,p,hz⟩:=I1.list hq
 refine wpAny_pyIter_list p.isList ?_
 refine⟨s1.heap.objs.size,[s1.heap.objs.size],_,_,H1,rfl,I1.kept (t':=s1.toks) fun b o e=>Heap.get?_push_of_some _ e,uA a _,⟨_,Heap.get?_push_size _ rfl,rfl,rfl⟩,fun b hb=>?_,q⟩
 have e:b=s1.heap.objs.size:=by simpa using hb
 subst e
 exact I1.nQ (Nat.le_refl _) (I1.hok.fresh (Nat.le_refl _))
theorem GZ {l:Expr}{tl:TE} (hl:PE X l tl):PI X tg l (KN X.K tl):=by
 intro pins s σ H R I h
 refine bY (hl pins s σ H _ I h) fun v s1 ⟨x,H1,I1,r1,q1⟩=>?_
 obtain⟨a,e,⟨xs,hq⟩,q⟩:=q1
 subst e
 cases r1
 obtain⟨its,rv,p,hz⟩:=I1.tuple hq
 refine wpAny_pyIter_tuple (show s1.heap.IsTuple a its.toArray from p) ?_
 refine⟨s1.heap.objs.size,[s1.heap.objs.size],_,_,H1,rfl,I1.kept (t':=s1.toks) fun b o e=>Heap.get?_push_of_some _ e,rj a _,⟨_,Heap.get?_push_size _ rfl,rfl,rfl⟩,fun b hb=>?_,q⟩
 have e:b=s1.heap.objs.size:=by simpa using hb
 subst e
 exact I1.nQ (Nat.le_refl _) (I1.hok.fresh (Nat.le_refl _))
theorem Cf {pins:List (Addr×Obj)}{σ:St}{H:Hp}{s:Shared}{R:It→Hp→Prop}{E:Value→Shared→Prop}{lo hi:Int}{t u v:Tok}{tk:Nat} (I:Inv X pins σ H s) (h1 : -(2 ^ 62)≤lo) (h2:lo < 2 ^ 62) (h3 : -(2 ^ 62)≤hi) (h4:hi < 2 ^ 62)
  (q:R (Gp lo (hi - lo).toNat) H):wpAny (model X.prog X.w) X.A (pyIter (.ref s.heap.objs.size)) (UJ X pins σ tg R) E { s with heap:=s.heap.push { cls:=.type "range",data:=.fields #[.int lo t,.int hi u,.int 1 v] },toks:=tk }:=by
 refine wpAny_pyIter_range (IsRange.new ..) (small_one h1 h2 h3 h4) ?_
 have I1:Inv X pins σ H { s with heap:=s.heap.push { cls:=.type "range",data:=.fields #[.int lo t,.int hi u,.int 1 v] },toks:=tk }:=I.kept fun b o e=>Heap.get?_push_of_some _ e
 refine⟨(s.heap.push { cls:=.type "range",data:=.fields #[.int lo t,.int hi u,.int 1 v] }).objs.size,[(s.heap.push { cls:=.type "range",data:=.fields #[.int lo t,.int hi u,.int 1 v] }).objs.size],_,_,H,rfl,
  I1.kept (t':=tk) fun b o e=>Heap.get?_push_of_some _ e,yS _ lo (hi - lo).toNat,?_,fun b hb=>?_,q⟩
 ·have e1:lo+((0:Nat):Int) * 1=lo:=by simp
  have e2:(((hi - lo).toNat:Nat):Int) - ((0:Nat):Int)=Builtin.Range.rangeSize lo hi 1:=by rw[rangeSize_one];split <;> omega
  show IsRangeIter _ _ (lo+((0:Nat):Int) * 1) ((((hi - lo).toNat:Nat):Int) - ((0:Nat):Int)) 1
  rw[e1,e2]
  exact Heap.get?_push_size _ rfl
 ·have e:b=(s.heap.push { cls:=.type "range",data:=.fields #[.int lo t,.int hi u,.int 1 v] }).objs.size:=by simpa using hb
  subst e
  exact I1.nQ (Nat.le_refl _) (I1.hok.fresh (Nat.le_refl _))
def KO (ta:TA):TI:=fun σ H R=>ta σ H fun vs H1=>∃ j:Int,vs=[.int j]∧-(2 ^ 62)≤j∧j < 2 ^ 62∧R (Gp 0 j.toNat) H1
theorem jq {a:Expr}{ta:TA}{p pos:Pos} (hg:Gl X "range") (hm:X.mg "range" = none) (ha:PA X [a] ta) (hs:starEach [a] X.env=[(false,eval a X.env)]:=by rfl):PI X tg (.Call (.Name "range" p) [a] [] pos) (KO ta):=by
 intro pins s σ H R I h
 refine Call_ (ku I hg hm boot_range (PyProof.Rows.callWith_type1 (bY (ha pos pins s σ H _ I h) fun us s1 ⟨vs,H1,I1,r1,q1⟩=>?_) hs rfl))
 obtain⟨j,e,q1,q2,q⟩:=q1
 subst e
 cases r1 with
 | cons r rr =>
  cases rr
  obtain⟨t,rfl⟩:=r
  exact call_range_1 (Cf I1 (by omega) (by omega) q1 q2 (by simpa using q))
def G0 (wi:TI) (g:TG) (tb:TS):TS:=fun D σ H=>wi σ H fun J H1=>∃ W:Nat→Nat→St→Hp→Prop,(∃ m,W 0 m σ H1)∧∀ i m σ H,W i m σ H →
 (J.stop i H∧D.nx σ H)∨(J.go i H∧∃ N:St→Hp→Prop,(∀ σ' H',N σ' H'→∃ m',m' < m∧W (i+1) m' σ' H')∧∀ x H',J.Ce i H x H'→g x σ H' fun σ2 H2=>tb { D with nx:=N,ct:=N,bk:=D.nx } σ2 H2)
def rm (fp:List Addr) (h:Heap):List (Addr×Obj):=fp.filterMap fun b=>(h.get? b).map fun o=>(b,o)
theorem jK {fp:List Addr}{h:Heap}{b:Addr}{o:Obj} (hb:b∈fp) (e:h.get? b=some o):(b,o)∈rm fp h:=List.mem_filterMap.mpr ⟨b,hb,by rw[e];rfl⟩
theorem AV {fp:List Addr}{h:Heap}{p:Addr×Obj} (hp:p∈rm fp h):p.1∈fp∧h.get? p.1=some p.2:=by
 obtain⟨b,hb,e⟩:=List.mem_filterMap.mp hp
 cases q:h.get? b with
 | none=>rw[q] at e;cases e
 | some o =>
  rw[q] at e
  have e':(b,o)=p:=Option.some.inj e
  subst e'
  exact⟨hb,q⟩
theorem Inv.pinned {pins:List (Addr×Obj)}{σ:St}{H:Hp}{s:Shared}{fp:List Addr} (I:Inv X pins σ H s) (hf:∀ b∈fp,nP X pins H b) (ho:∀ b∈fp,∃ o,s.heap.get? b=some o∧∀ v,o.data≠.cell v):Inv X (pins++rm fp s.heap) σ H s :=
 I.Aa fun p hp=>(List.mem_append.mp hp).elim (fun z=>I.pin p (List.mem_append_right _ z)) fun z=>by
  obtain⟨hb,e⟩:=AV z
  obtain⟨f0,f1,f2,_⟩:=hf p.1 hb
  obtain⟨o,e',d⟩:=ho p.1 hb
  rw[e] at e';cases e'
  exact⟨e,f0,f1,f2,d⟩
theorem Inv.nR {pins pl:List (Addr×Obj)}{σ:St}{H:Hp}{s:Shared} (I:Inv X (pins++pl) σ H s):Inv X pins σ H s:=I.Aa fun p hp=>I.pin p (List.mem_append_right _ (List.mem_append_left _ hp))
theorem cj {iter:Expr}{body:List Stmt}{wi:TI}{g:TG}{tb:TS}{pos:Pos} (hp:PassesOwn (model X.prog X.w) X.A X.env X.xe) (hc:X.calm=true) (hi:PI X tg iter wi) (hg:PG X tg g) (hb:AU X body tb)
  (hs:∀ x,foldedSetIterable iter X.env x=pure x:=by intro _;rfl):PS X (.For tg iter body [] pos) (G0 wi g tb):=by
 intro pins s σ H D I h
 refine wpAny_For (bY (hi pins s σ H _ I h) fun v s1 h1=>bY h1 fun itv s2 h2=>?_) hs
 obtain⟨it,fp,tn,J,H2,e,I2,T,st2,f2,W,⟨m0,w0⟩,turn⟩:=h2
 subst e
 have yT:∀{H':Hp},(∀ b∈fp,H' b=none)→∀ b∈fp,nP X pins H' b:=fun hn b hb=>⟨hn b hb,(f2 b hb).2⟩
 refine codeAny_forLoop_any (fun n s'=>∃ i σ' H',Inv X pins σ' H' s'∧tn i s'.heap∧(∀ b∈fp,H' b=none)∧W i n σ' H') ?_ m0 ⟨0,σ,H2,I2,st2,fun b hb=>(f2 b hb).1,w0⟩
 rintro n s3 ⟨i,σ3,H3,I3,st3,UK,w3⟩
 rcases turn i n σ3 H3 w3 with ⟨stop,qn⟩ | ⟨go,N,hN,step⟩
 ·refine wpAny_passesOwn hp (bY (T.done X rfl rfl rfl hc i pins s3 σ3 H3 X.xe I3 (yT UK) st3 stop) fun r s4 ⟨hr,I4⟩=>?_)
  subst hr
  exact wpAny_execs_nil ⟨σ3,H3,I4,qn⟩
 ·refine wpAny_passesOwn hp (bY (T.item X rfl rfl rfl hc i pins s3 σ3 H3 X.xe I3 (yT UK) st3 go) fun r s4 ⟨u,hr,h4⟩=>?_)
  subst hr
  refine wpAny_passesOwn hp (bY h4 fun _ s5 ⟨x,H5,I5,r5,y5,Ql,WU⟩=>?_)
  have WV:=I5.pinned (yT WU) (T.obj _ _ Ql)
  refine wpAny_passesOwn hp (bY (hg _ s5 σ3 H5 x u _ WV r5 (step x H5 y5)) fun _ s6 ⟨σ6,H6,I6,q6⟩=>?_)
  refine wpAny_passesOwn hp (bY (hb _ s6 σ6 H6 _ I6 q6) fun f s7 q7=>?_)
  have again:∀{σ7:St}{H7:Hp},Inv X (pins++rm fp s5.heap) σ7 H7 s7→N σ7 H7→∃ m,m < n∧∃ i σ' H',Inv X pins σ' H' s7∧tn i s7.heap∧(∀ b∈fp,H' b=none)∧W i m σ' H':=fun {σ7 H7} I7 n7=>by
   obtain⟨m',hm,w7⟩:=hN σ7 H7 n7
   refine⟨m',hm,i+1,σ7,H7,I7.nR,T.keep _ _ _ Ql fun b hb o e=>(I7.pin (b,o) (List.mem_append_right _ (List.mem_append_right _ (jK hb e)))).1,fun b hb=>?_,w7⟩
   obtain⟨o,e,d⟩:=T.obj _ _ Ql b hb
   exact(I7.pin (b,o) (List.mem_append_right _ (List.mem_append_right _ (jK hb e)))).2.1
  cases f with
  | next=>obtain⟨σ7,H7,I7,n7⟩:=q7;exact again I7 n7
  | cont=>obtain⟨σ7,H7,I7,n7⟩:=q7;exact again I7 n7
  | brk=>obtain⟨σ7,H7,I7,q7⟩:=q7;exact⟨σ7,H7,I7.nR,q7⟩
  | ret v=>obtain⟨x7,σ7,H7,I7,r7,q7⟩:=q7;exact⟨x7,σ7,H7,I7.nR,r7,q7⟩
end
theorem eZ {K:W.Frag}{a:Addr}{xs:List V}{g:TG}{tb:TS}{D:Ends}{σ:St}{H:Hp} (Pv:Nat→St→Hp→Prop) (h0:Pv 0 σ H) (hl:∀ i σ H,i≤xs.length→Pv i σ H→aP K H a xs)
  (hs:∀ i x σ H,xs[i]? = some x→Pv i σ H→g x σ H fun σ2 H2=>tb { D with nx:=Pv (i+1),ct:=Pv (i+1),bk:=D.nx } σ2 H2) (hd:∀ σ H,Pv xs.length σ H→D.nx σ H) :
  ∃ W:Nat→Nat→St→Hp→Prop,(∃ m,W 0 m σ H)∧∀ i m σ H,W i m σ H →
   ((GX K a).stop i H∧D.nx σ H)∨((GX K a).go i H∧∃ N:St→Hp→Prop,(∀ σ' H',N σ' H'→∃ m',m' < m∧W (i+1) m' σ' H')∧∀ x H',(GX K a).Ce i H x H'→g x σ H' fun σ2 H2=>tb { D with nx:=N,ct:=N,bk:=D.nx } σ2 H2):=by
 refine⟨fun i m σ H=>m=xs.length - i∧i≤xs.length∧Pv i σ H,⟨xs.length,by simp,Nat.zero_le _,h0⟩,?_⟩
 rintro i m σ H ⟨rfl,hi,p⟩
 have q:=hl i σ H hi p
 by_cases hlt:i < xs.length
 ·refine .inr ⟨⟨xs,xs[i],q,by simp[hlt]⟩,Pv (i+1),fun σ' H' p'=>⟨xs.length - (i+1),by omega,rfl,hlt,p'⟩,fun x H' y=>?_⟩
  obtain⟨e,y⟩:=y
  subst e
  exact hs i x σ _ (y xs q) p
 ·have e:i=xs.length:=by omega
  subst e
  exact .inl ⟨⟨xs,q,Nat.le_refl _⟩,hd σ H p⟩
theorem Ej {K:W.Frag}{a:Addr}{xs:List V}{g:TG}{tb:TS}{D:Ends}{σ:St}{H:Hp} (Pv:Nat→St→Hp→Prop) (h0:Pv 0 σ H) (hl:∀ i σ H,i≤xs.length→Pv i σ H→bh K H a xs)
  (hs:∀ i x σ H,xs[i]? = some x→Pv i σ H→g x σ H fun σ2 H2=>tb { D with nx:=Pv (i+1),ct:=Pv (i+1),bk:=D.nx } σ2 H2) (hd:∀ σ H,Pv xs.length σ H→D.nx σ H) :
  ∃ W:Nat→Nat→St→Hp→Prop,(∃ m,W 0 m σ H)∧∀ i m σ H,W i m σ H →
   ((GY K a).stop i H∧D.nx σ H)∨((GY K a).go i H∧∃ N:St→Hp→Prop,(∀ σ' H',N σ' H'→∃ m',m' < m∧W (i+1) m' σ' H')∧∀ x H',(GY K a).Ce i H x H'→g x σ H' fun σ2 H2=>tb { D with nx:=N,ct:=N,bk:=D.nx } σ2 H2):=by
 refine⟨fun i m σ H=>m=xs.length - i∧i≤xs.length∧Pv i σ H,⟨xs.length,by simp,Nat.zero_le _,h0⟩,?_⟩
 rintro i m σ H ⟨rfl,hi,p⟩
 have q:=hl i σ H hi p
 by_cases hlt:i < xs.length
 ·refine .inr ⟨⟨xs,xs[i],q,by simp[hlt]⟩,Pv (i+1),fun σ' H' p'=>⟨xs.length - (i+1),by omega,rfl,hlt,p'⟩,fun x H' y=>?_⟩
  obtain⟨e,y⟩:=y
  subst e
  exact hs i x σ _ (y xs q) p
 ·have e:i=xs.length:=by omega
  subst e
  exact .inl ⟨⟨xs,q,Nat.le_refl _⟩,hd σ H p⟩
theorem lJ {lo:Int}{n:Nat}{g:TG}{tb:TS}{D:Ends}{σ:St}{H:Hp} (Pv:Nat→St→Hp→Prop) (h0:Pv 0 σ H)
  (hs:∀ i σ H,i < n→Pv i σ H→g (.int (lo+i)) σ H fun σ2 H2=>tb { D with nx:=Pv (i+1),ct:=Pv (i+1),bk:=D.nx } σ2 H2) (hd:∀ σ H,Pv n σ H→D.nx σ H) :
  ∃ W:Nat→Nat→St→Hp→Prop,(∃ m,W 0 m σ H)∧∀ i m σ H,W i m σ H →
   ((Gp lo n).stop i H∧D.nx σ H)∨((Gp lo n).go i H∧∃ N:St→Hp→Prop,(∀ σ' H',N σ' H'→∃ m',m' < m∧W (i+1) m' σ' H')∧∀ x H',(Gp lo n).Ce i H x H'→g x σ H' fun σ2 H2=>tb { D with nx:=N,ct:=N,bk:=D.nx } σ2 H2):=by
 refine⟨fun i m σ H=>m=n - i∧i≤n∧Pv i σ H,⟨n,by simp,Nat.zero_le _,h0⟩,?_⟩
 rintro i m σ H ⟨rfl,hi,p⟩
 by_cases hlt:i < n
 ·refine .inr ⟨hlt,Pv (i+1),fun σ' H' p'=>⟨n - (i+1),by omega,rfl,hlt,p'⟩,fun x H' y=>?_⟩
  obtain⟨e,y⟩:=y
  subst e y
  exact hs i σ _ hlt p
 ·have e:i=n:=by omega
  subst e
  exact .inl ⟨Nat.le_refl _,hd σ H p⟩
abbrev R2:=V→V→Hp→VK→Prop
def jL (X:Cx) (f:Value→Value→Sem Value) (r:R2):Prop :=
 ∀(pins:List (Addr×Obj)) (s:Shared) (σ:St) (H:Hp) (x y:V) (v u:Value) (Q:VK),Inv X pins σ H s→RelV x v→RelV y u→r x y H Q →
  wpAny (model X.prog X.w) X.A (f v u) (EP X pins σ Q) X.xe s
def Qm (X:Cx) (f:Value→Sem Value) (r:V→Hp→VK→Prop):Prop :=
 ∀(pins:List (Addr×Obj)) (s:Shared) (σ:St) (H:Hp) (x:V) (v:Value) (Q:VK),Inv X pins σ H s→RelV x v→r x H Q →
  wpAny (model X.prog X.w) X.A (f v) (EP X pins σ Q) X.xe s
def cD (X:Cx) (f:Value) (r:List V→Hp→VK→Prop):Prop :=
 ∀(pins:List (Addr×Obj)) (s:Shared) (σ:St) (H:Hp) (xs:List V) (us:List Value) (Q:VK),Inv X pins σ H s→Vals xs us→r xs H Q →
  wpAny (model X.prog X.w) X.A (call f us) (EP X pins σ Q) X.xe s
def D4 (r:R2) (ta tb:TE):TE:=fun σ H Q=>ta σ H fun x H1=>tb σ H1 fun y H2=>r x y H2 Q
def WW (r:V→Hp→VK→Prop) (ta:TE):TE:=fun σ H Q=>ta σ H fun x H1=>r x H1 Q
def rI (C:Int→Int→Prop) (g:Int→Int→V):R2:=fun x y H Q=>∃ i j,x=.int i∧y=.int j∧C i j∧Q (g i j) H
def Ek (g:Int→Int→V):R2:=fun x y H Q=>∃ i j,x=.int i∧y=.int j∧Q (g i j) H
def rU (g:Int→V):V→Hp→VK→Prop:=fun x H Q=>∃ i,x=.int i∧Q (g i) H
section
variable {X:Cx}{a b c:Expr}{ta tb tc:TE}{pos:Pos}
theorem G9 (ha:PE X a ta) (hb:PE X b tb) {pins:List (Addr×Obj)}{s:Shared}{σ:St}{H:Hp}{R:V→V→Hp→Prop} (I:Inv X pins σ H s)
  (h:ta σ H fun x H1=>tb σ H1 fun y H2=>R x y H2) {Q:Value→Shared→Prop}{f:Value→Value→Sem Value}
  (hf:∀ v u s2 x y H2,Inv X pins σ H2 s2→RelV x v→RelV y u→R x y H2→wpAny (model X.prog X.w) X.A (f v u) Q X.xe s2) :
  wpAny (model X.prog X.w) X.A (eval a X.env) (fun v s₁=>wpAny (model X.prog X.w) X.A (eval b X.env) (fun u s₂=>wpAny (model X.prog X.w) X.A (f v u) Q X.xe s₂) X.xe s₁) X.xe s:=by
 refine bY (ha pins s σ H _ I h) fun v s1 ⟨x,H1,I1,r1,q1⟩=>?_
 refine bY (hb pins s1 σ H1 _ I1 q1) fun u s2 ⟨y,H2,I2,r2,q2⟩=>?_
 exact hf v u s2 x y H2 I2 r1 r2 q2
theorem aB {op:Operator}{r:R2} (ho:jL X (binaryOp op) r) (ha:PE X a ta) (hb:PE X b tb):PE X (.BinOp a op b pos) (D4 r ta tb):=by
 intro pins s σ H Q I h
 exact wpAny_BinOp (G9 ha hb I h fun v u s2 x y H2 I2 rx ry q=>ho pins s2 σ H2 x y v u Q I2 rx ry q)
theorem Cg {op:UnaryOp}{r:V→Hp→VK→Prop} (ho:Qm X (unaryOp op) r) (ha:PE X a ta):PE X (.UnaryOp op a pos) (WW r ta):=by
 intro pins s σ H Q I h
 exact UnaryOp_ (bY (ha pins s σ H _ I h) fun v s1 ⟨x,H1,I1,r1,q1⟩=>ho pins s1 σ H1 x v Q I1 r1 q1)
theorem Pd {f:Value→Value→Sem Value}{C:Int→Int→Prop}{g:Int→Int→Int}
  (rule:∀(i j:Int) (t u:Tok) (s:Shared) (Q:Value→Shared→Prop) (E:Value→Shared→Prop),C i j→Q (.int (g i j) s.toks) { s with toks:=s.toks+1 }→wpAny (model X.prog X.w) X.A (f (.int i t) (.int j u)) Q E s) :
  jL X f (rI C fun i j=>.int (g i j)):=by
 intro pins s σ H x y v u Q I rx ry h
 obtain⟨i,j,rfl,rfl,hc,q⟩:=h
 obtain⟨t,rfl⟩:=rx
 obtain⟨t',rfl⟩:=ry
 exact rule i j t t' s _ _ hc ⟨.int (g i j),H,I.tok _,⟨_,rfl⟩,q⟩
theorem KP {f:Value→Value→Sem Value}{g:Int→Int→Int}
  (rule:∀(i j:Int) (t u:Tok) (s:Shared) (Q:Value→Shared→Prop) (E:Value→Shared→Prop),Q (.int (g i j) s.toks) { s with toks:=s.toks+1 }→wpAny (model X.prog X.w) X.A (f (.int i t) (.int j u)) Q E s) :
  jL X f (Ek fun i j=>.int (g i j)):=by
 intro pins s σ H x y v u Q I rx ry h
 obtain⟨i,j,rfl,rfl,q⟩:=h
 obtain⟨t,rfl⟩:=rx
 obtain⟨t',rfl⟩:=ry
 exact rule i j t t' s _ _ ⟨.int (g i j),H,I.tok _,⟨_,rfl⟩,q⟩
theorem El {f:Value→Value→Sem Value}{g:Int→Int→Bool}
  (rule:∀(i j:Int) (t u:Tok) (s:Shared) (Q:Value→Shared→Prop) (E:Value→Shared→Prop),Q (.bool (g i j)) s→wpAny (model X.prog X.w) X.A (f (.int i t) (.int j u)) Q E s) :
  jL X f (Ek fun i j=>.bl (g i j)):=by
 intro pins s σ H x y v u Q I rx ry h
 obtain⟨i,j,rfl,rfl,q⟩:=h
 obtain⟨t,rfl⟩:=rx
 obtain⟨t',rfl⟩:=ry
 exact rule i j t t' s _ _ ⟨.bl (g i j),H,I,rfl,q⟩
def Qn (i j:Int):Prop:=0 < j∧j < 1073741824
def KQ (i j:Int):Prop:=0≤j∧j≤1000000∧i.natAbs < 2 ^ 64
def Em (i j:Int):Prop:=(-(2 ^ 64) < i∧i < 2 ^ 64)∨(-(2 ^ 64) < j∧j < 2 ^ 64)
theorem Em.ok {i j:Int} (h:Em i j):IntMulOk i j:=by
 rcases h with ⟨h1,h2⟩ | ⟨h1,h2⟩
 ·exact .of_left (intBits_le_64 h1 h2)
 ·exact .of_right (intBits_le_64 h1 h2)
theorem bU:jL X (binaryOp .Add) (Ek fun i j=>.int (i+j)):=KP fun _ _ _ _ _ _ _ q=>add_int q
theorem Ci:jL X (binaryOp .Sub) (Ek fun i j=>.int (i - j)):=KP fun _ _ _ _ _ _ _ q=>sub_int q
theorem g4:jL X (binaryOp .Mult) (rI Em fun i j=>.int (i * j)):=Pd fun _ _ _ _ _ _ _ hc q=>mul_int q hc.ok
theorem cF:jL X (binaryOp .FloorDiv) (rI Qn fun i j=>.int (i / j)):=Pd fun i j _ _ _ _ _ hc q=>by
 have h1:(0:Int) < j:=hc.1
 have h2:j < 1073741824:=hc.2
 exact floordiv_int (by omega) (by rw[Int.fdiv_eq_ediv_of_nonneg i (by omega)];exact q) (.inl (PyProof.noPylong_small (by omega)))
theorem bI:jL X (binaryOp .Mod) (rI (fun _ j=>0 < j) fun i j=>.int (i % j)):=Pd fun i j _ _ _ _ _ hc q=>by
 have h1:(0:Int) < j:=hc
 exact mod_int' (by omega) (by rw[Int.fmod_eq_emod_of_nonneg i (by omega)];exact q)
theorem vp:jL X (binaryOp .Pow) (rI KQ fun i j=>.int (i ^ j.toNat)):=Pd fun _ _ _ _ _ _ _ hc q=>pow_int_small hc.1 hc.2.1 hc.2.2 q
theorem WX {f:Value→Sem Value}{g:Int→Int}
  (rule:∀(i:Int) (t:Tok) (s:Shared) (Q:Value→Shared→Prop) (E:Value→Shared→Prop),Q (.int (g i) s.toks) { s with toks:=s.toks+1 }→wpAny (model X.prog X.w) X.A (f (.int i t)) Q E s) :
  Qm X f (rU fun i=>.int (g i)):=by
 intro pins s σ H x v Q I rx h
 obtain⟨i,rfl,q⟩:=h
 obtain⟨t,rfl⟩:=rx
 exact rule i t s _ _ ⟨.int (g i),H,I.tok _,⟨_,rfl⟩,q⟩
theorem yU:Qm X (unaryOp .USub) (rU fun i=>.int (-i)):=WX fun _ _ _ _ _ q=>neg_int q
end
def KR:V→V→Bool
 | .non,.non=>true | .non,.int _=>true | .int _,.non=>true | .non,.bl _=>true | .bl _,.non=>true | .non,.str _=>true | .str _,.non=>true
 | .int _,.int _=>true | .bl _,.bl _=>true | .str _,.str _=>true | .BV _,.BV _=>true
 | .int _,.str _=>true | .str _,.int _=>true | .bl _,.str _=>true | .str _,.bl _=>true
 | _,_=>false
def WY:R2:=fun x y H Q=>KR x y=true∧Q (.bl (decide (x=y))) H
def WZ:R2:=fun x y H Q=>KR x y=true∧Q (.bl (!decide (x=y))) H
theorem Ac {i j:Int}:decide (V.int i=V.int j)=(i == j):=by
 rw[Bool.eq_iff_iff]
 simp
theorem Cj {i j:Bool}:decide (V.bl i=V.bl j)=(i == j):=by
 rw[Bool.eq_iff_iff]
 simp
theorem Ad {i j:Str}:decide (V.str i=V.str j)=(i == j):=by
 rw[Bool.eq_iff_iff]
 simp
theorem Ae {i j:Array UInt8}:decide (V.BV i=V.BV j)=(i.toList == j.toList):=by
 rw[Bool.eq_iff_iff]
 cases i
 cases j
 simp
section
variable {X:Cx}{a b c:Expr}{ta tb tc:TE}{pos:Pos}
theorem aV {pins:List (Addr×Obj)}{σ:St}{H:Hp}{s:Shared}{Q:VK}{k k':Bool} (I:Inv X pins σ H s) (q:Q (.bl k) H) (e:k=k'):EP X pins σ Q (.bool k') s:=by
 subst e
 exact⟨.bl k,H,I,rfl,q⟩
theorem br:jL X (compareOp .Eq) WY:=by
 intro pins s σ H x y v u Q I rx ry h
 obtain⟨hs,q⟩:=h
 cases x with
 | non =>
  cases rx
  cases y with
  | non=>cases ry;exact PySem.EqNone.eq_none_none (aV I q (by simp))
  | bl j=>cases ry;exact PySem.EqNone.eq_none_bool (aV I q (by simp))
  | int j=>obtain⟨t',rfl⟩:=ry;exact PySem.EqNone.eq_none_int (aV I q (by simp))
  | str j=>obtain⟨t',rfl⟩:=ry;exact PySem.EqNone.eq_none_str (aV I q (by simp))
  | _=>exact absurd (show false=true from hs) Bool.false_ne_true
 | bl i =>
  cases rx
  cases y with
  | non=>cases ry;exact PySem.EqNone.eq_bool_none (aV I q (by simp))
  | bl j=>cases ry;exact eq_bool (aV I q Cj)
  | str j=>obtain⟨t',rfl⟩:=ry;exact PySem.EqMixed.eq_bool_str (aV I q (by simp))
  | _=>exact absurd (show false=true from hs) Bool.false_ne_true
 | int i =>
  obtain⟨t,rfl⟩:=rx
  cases y with
  | non=>cases ry;exact PySem.EqNone.eq_int_none (aV I q (by simp))
  | int j=>obtain⟨t',rfl⟩:=ry;exact eq_int (aV I q Ac)
  | str j=>obtain⟨t',rfl⟩:=ry;exact PySem.EqMixed.eq_int_str (aV I q (by simp))
  | _=>exact absurd (show false=true from hs) Bool.false_ne_true
 | str i =>
  obtain⟨t,rfl⟩:=rx
  cases y with
  | non=>cases ry;exact PySem.EqNone.eq_str_none (aV I q (by simp))
  | bl j=>cases ry;exact PySem.EqMixed.eq_str_bool (aV I q (by simp))
  | int j=>obtain⟨t',rfl⟩:=ry;exact PySem.EqMixed.eq_str_int (aV I q (by simp))
  | str j=>obtain⟨t',rfl⟩:=ry;exact eq_str (aV I q Ad)
  | _=>exact absurd (show false=true from hs) Bool.false_ne_true
 | BV i =>
  obtain⟨t,rfl⟩:=rx
  cases y with
  | BV j=>obtain⟨t',rfl⟩:=ry;exact W.eq_bytes (aV I q Ae)
  | _=>exact absurd (show false=true from hs) Bool.false_ne_true
 | _=>cases y <;> exact absurd (show false=true from hs) Bool.false_ne_true
theorem xo:jL X (compareOp .NotEq) WZ:=by
 intro pins s σ H x y v u Q I rx ry h
 obtain⟨hs,q⟩:=h
 cases x with
 | non =>
  cases rx
  cases y with
  | non=>cases ry;exact PySem.EqNone.ne_none_none (aV I q (by simp))
  | bl j=>cases ry;exact PySem.EqNone.ne_none_bool (aV I q (by simp))
  | int j=>obtain⟨t',rfl⟩:=ry;exact PySem.EqNone.ne_none_int (aV I q (by simp))
  | str j=>obtain⟨t',rfl⟩:=ry;exact PySem.EqNone.ne_none_str (aV I q (by simp))
  | _=>exact absurd (show false=true from hs) Bool.false_ne_true
 | bl i =>
  cases rx
  cases y with
  | non=>cases ry;exact PySem.EqNone.ne_bool_none (aV I q (by simp))
  | bl j=>cases ry;exact ne_bool (aV I q (congrArg not Cj))
  | str j=>obtain⟨t',rfl⟩:=ry;exact PySem.EqMixed.ne_bool_str (aV I q (by simp))
  | _=>exact absurd (show false=true from hs) Bool.false_ne_true
 | int i =>
  obtain⟨t,rfl⟩:=rx
  cases y with
  | non=>cases ry;exact PySem.EqNone.ne_int_none (aV I q (by simp))
  | int j=>obtain⟨t',rfl⟩:=ry;exact ne_int (aV I q (congrArg not Ac))
  | str j=>obtain⟨t',rfl⟩:=ry;exact PySem.EqMixed.ne_int_str (aV I q (by simp))
  | _=>exact absurd (show false=true from hs) Bool.false_ne_true
 | str i =>
  obtain⟨t,rfl⟩:=rx
  cases y with
  | non=>cases ry;exact PySem.EqNone.ne_str_none (aV I q (by simp))
  | bl j=>cases ry;exact PySem.EqMixed.ne_str_bool (aV I q (by simp))
  | int j=>obtain⟨t',rfl⟩:=ry;exact PySem.EqMixed.ne_str_int (aV I q (by simp))
  | str j=>obtain⟨t',rfl⟩:=ry;exact ne_str (aV I q (congrArg not Ad))
  | _=>exact absurd (show false=true from hs) Bool.false_ne_true
 | BV i =>
  obtain⟨t,rfl⟩:=rx
  cases y with
  | BV j=>obtain⟨t',rfl⟩:=ry;exact W.ne_bytes (aV I q (congrArg not Ae))
  | _=>exact absurd (show false=true from hs) Bool.false_ne_true
 | _=>cases y <;> exact absurd (show false=true from hs) Bool.false_ne_true
theorem xq:jL X (compareOp .Lt) (Ek fun i j=>.bl (decide (i < j))):=El fun _ _ _ _ _ _ _ q=>lt_int q
theorem KS:jL X (compareOp .LtE) (Ek fun i j=>.bl (decide (i≤j))):=El fun _ _ _ _ _ _ _ q=>le_int q
theorem Ck:jL X (compareOp .Gt) (Ek fun i j=>.bl (decide (j < i))):=El fun _ _ _ _ _ _ _ q=>gt_int q
theorem Gq:jL X (compareOp .GtE) (Ek fun i j=>.bl (decide (j≤i))):=El fun _ _ _ _ _ _ _ q=>ge_int q
theorem eU:jL X (compareOp .In) (fun x y H Q=>∃ i j,x=.str i∧y=.str j∧Q (.bl (!(Builtin.Str.occurrences j i 0 j.length 1).isEmpty)) H):=by
 intro pins s σ H x y v u Q I rx ry h
 obtain⟨i,j,rfl,rfl,q⟩:=h
 obtain⟨t,rfl⟩:=rx
 obtain⟨t',rfl⟩:=ry
 exact in_str (aV I q rfl)
theorem vq:jL X (compareOp .Is) (fun x y H Q=>y=.non∧Q (.bl (decide (x=.non))) H):=by
 intro pins s σ H x y v u Q I rx ry h
 obtain⟨rfl,q⟩:=h
 cases ry
 refine is_none_gen (aV I q ?_)
 cases x <;> first
  | (cases rx;rfl)
  | (obtain⟨t,rfl⟩:=rx;rfl)
theorem vt:jL X (compareOp .IsNot) (fun x y H Q=>y=.non∧Q (.bl (!decide (x=.non))) H):=by
 intro pins s σ H x y v u Q I rx ry h
 obtain⟨rfl,q⟩:=h
 cases ry
 refine isnot_none_gen (aV I q ?_)
 cases x <;> first
  | (cases rx;rfl)
  | (obtain⟨t,rfl⟩:=rx;rfl)
theorem Cm (b:Expr) {op:CmpOp} (h:op≠.In:=by decide) (h2:op≠.NotIn:=by decide):behindInMarks op b=false:=by
 have e1:(op == CmpOp.In)=false:=by cases op <;> first | rfl | exact absurd rfl h
 have e2:(op == CmpOp.NotIn)=false:=by cases op <;> first | rfl | exact absurd rfl h2
 cases b <;> simp[behindInMarks,e1,e2]
theorem En {op:CmpOp}{r:R2} (ho:jL X (compareOp op) r) (ha:PE X a ta) (hb:PE X b tb) (hm:behindInMarks op b=false):PE X (.Compare a [op] [b] pos) (D4 r ta tb):=by
 intro pins s σ H Q I h
 exact wpAny_Compare1 (G9 ha hb I h fun v u s2 x y H2 I2 rx ry q=>ho pins s2 σ H2 x y v u Q I2 rx ry q) hm
def Gr (t:TE):TT:=fun σ H Q=>t σ H fun x H'=>∃ k,x=.bl k∧Q k H'
theorem d8 {op:CmpOp}{r:R2} (ho:jL X (compareOp op) r) (ha:PE X a ta) (hb:PE X b tb) (hm:behindInMarks op b=false):PT X (.Compare a [op] [b] pos) (Gr (D4 r ta tb)):=by
 intro pins s σ H Q I h
 refine wpAny_isTrue_Compare1 (bY (ha pins s σ H _ I h) fun v s1 ⟨x,H1,I1,r1,q1⟩=>bY (hb pins s1 σ H1 _ I1 q1) fun u s2 ⟨y,H2,I2,r2,q2⟩ =>
  bY (ho pins s2 σ H2 x y v u _ I2 r1 r2 q2) fun c s3 ⟨z,H3,I3,r3,k,e,q3⟩=>?_) hm
 subst e
 cases r3
 exact wpAny_truthy_bool ⟨H3,I3,q3⟩
theorem pB:(sizeLine:Nat) < 2 ^ 63:=by rw[sizeLine_eq];decide
theorem cG:jL X (binaryOp .Add) (fun x y H Q=>∃ i j,x=.str i∧y=.str j∧i.length+j.length≤sizeLine∧Q (.str (i++j)) H):=by
 intro pins s σ H x y v u Q I rx ry h
 obtain⟨i,j,rfl,rfl,hz,q⟩:=h
 obtain⟨t,rfl⟩:=rx
 obtain⟨t',rfl⟩:=ry
 exact add_str (fun t' tk=>⟨.str (i++j),H,I.tok _,⟨_,rfl⟩,q⟩) hz
theorem vals1 {x:V}{us:List Value} (r:Vals [x] us):∃ u,us=[u]∧RelV x u:=by
 cases r with
 | cons r1 r2=>cases r2;exact⟨_,rfl,r1⟩
theorem vals2 {x y:V}{us:List Value} (r:Vals [x,y] us):∃ u w',us=[u,w']∧RelV x u∧RelV y w':=by
 cases r with
 | cons r1 r2 =>
  cases r2 with
  | cons r3 r4=>cases r4;exact⟨_,_,rfl,r1,r3⟩
theorem AW (hc:X.calm=true):cD X (.builtin "max") (fun xs H Q=>∃ i j,xs=[.int i,.int j]∧Q (.int (if j > i then j else i)) H):=by
 intro pins s σ H xs us Q I r h
 obtain⟨i,j,rfl,q⟩:=h
 obtain⟨u,w',rfl,⟨t,rfl⟩,⟨t',rfl⟩⟩:=vals2 r
 refine max_two_ints (I.ok.hd hc) fun h' tk k=>⟨_,H,I.kept k,?_,q⟩
 by_cases hj:j > i
 ·rw[if_pos hj,if_pos hj];exact⟨_,rfl⟩
 ·rw[if_neg hj,if_neg hj];exact⟨_,rfl⟩
theorem Cn:cD X (.builtin "ord") (fun xs H Q=>∃ x,xs=[.str x]∧x.length=1∧Q (.int (x.cps.getD 0 0:Nat)) H):=by
 intro pins s σ H xs us Q I r h
 obtain⟨x,rfl,hz,q⟩:=h
 obtain⟨u,rfl,t,rfl⟩:=vals1 r
 exact ord_of_one hz ⟨.int _,H,I.tok _,⟨_,rfl⟩,q⟩
end
structure yV (h:Heap) (x dx C:Addr) (mA:Str→Option Value):Prop where
 obj:h.get? x=some (W.instObj C dx)
 ns:h.Ns1 dx mA
 ne:dx≠x
theorem AX {h:Heap}{dx:Addr}{mA:Str→Option Value} (n:h.Ns1 dx mA):∃ od,h.get? dx=some od∧∀ name,W.lookIn name od=some (mA name):=by
 obtain⟨o,es,ep,ho,hd,hk,_,hm⟩:=n
 refine⟨o,ho,fun name=>?_⟩
 have e:=hm name
 unfold nsFind findBy at e
 rw[←Array.find?_toList] at e
 unfold W.lookIn
 rw[hd]
 dsimp only
 split
 ·rename_i y q
  rw[q] at e
  exact congrArg some e
 ·rename_i q
  rw[q] at e
  have a:es.toList.any (·.refKey)=false:=by
   rw[List.any_eq_false]
   intro y hy
   obtain⟨z,t,hkey⟩:=hk y (Array.mem_toList_iff.mp hy)
   simp[DictEntry.refKey,hkey]
  have a':¬es.toList.any (·.refKey)=true:=by rw[a];exact Bool.false_ne_true
  rw[if_neg a']
  exact congrArg some e
theorem yV.look {h:Heap}{x dx C:Addr}{mA:Str→Option Value} (I:yV h x dx C mA):∃ od,W.InstAt h x (W.instObj C dx) C (some od)∧∀ name,W.lookIn name od=some (mA name) :=
 let ⟨od,ho,hl⟩:=AX I.ns
 ⟨od,⟨I.obj,rfl,rfl,ho⟩,hl⟩
section
variable {prog:Program}{w:World}{A:Around}{E:Value→Shared→Prop}{s:Shared}{K:W.Frag}{x dx C f:Addr}{mA:Str→Option Value}{name:Str}{v:Value}
theorem get_map {expr:Bool}{Q:Value→Shared→Prop} (X:K.In s.heap) (I:yV s.heap x dx C mA) (hg:W.plainGet K C name=true) (hh:W.hasDictIn K C=true)
  (ha:W.findIn K (.ref C) name=some none) (hv:mA name=some v) (hv':W.handedIn v=true) (h:Q v { s with toks:=s.toks+1 }) :
  wpAny (model prog w) A (getAttr (.ref x) name expr) Q E s:=by
 obtain⟨od,J,hl⟩:=I.look
 exact W.get_value X J (W.plainGet_of hg).1 (W.findObj_own hh ha rfl (by rw[hl,hv])) hv' h
theorem Co {pl:Sem Bool}{Q:Value×List Value→Shared→Prop} (X:K.In s.heap) (I:yV s.heap x dx C mA) (hg:W.plainGet K C name=true)
  (hf:W.findIn K (.ref C) name=some (some (.ref f))) (ht:W.isFn K (.ref f)=true) (hv:mA name=none) (h:Q (.ref f,[.ref x]) s) :
  wpAny (model prog w) A (getMethod (.ref x) name pl) Q E s:=by
 obtain⟨od,J,hl⟩:=I.look
 exact W.method_fn X J (W.plainGet_of hg).1 (W.plainGet_of hg).2 hf (beq_iff_eq.mp ht) (by show(W.lookIn name od).map (·.isSome)=some false;rw[hl,hv];rfl) h
theorem Eo {ns:List Str}{Q:Unit→Shared→Prop} (X:K.In s.heap) (I:yV s.heap x dx C mA)
  (hs:W.findIn K (.ref C) "__setattr__" = some (some (.builtin "object.__setattr__"))) (hp:W.plainOver K C=true) (ht:W.takerIn K C name=some none) (hh:W.hasDictIn K C=true)
  (hw:PySem.Within mA ns) (hsz:ns.length≤sizeLine)
  (h:∀ h',yV h' x dx C (fun y=>if y=name then some v else mA y)→Heap.SameBut dx s.heap h'→Q () { s with heap:=h',toks:=s.toks+2 }) :
  wpAny (model prog w) A (setAttr (.ref x) name v) Q E s:=by
 obtain⟨od,J,hl⟩:=I.look
 refine W.set_plain X J hs (W.osa_open (s:={ s with toks:=s.toks+1 }) (r:=none) X J hp ht fun b=>?_)
 obtain⟨cd,hc,hd'⟩:=W.any_some hh
 have hx:s.heap.get? x=some ⟨.ref C,some dx,.plain,#[]⟩:=I.obj
 refine wpAny_bind (wpAny_pure (wpAny_bind (wpAny_bind (wpAny_loadPart hx (wpAny_bind (W.Looks.here (s:={ s with toks:=s.toks+1 }) (W.looks_clsIn X hc) ?_))))))
 rw[hd']
 refine wpAny_pure (a:=some dx) (wpAny_bind (wpAny_pure (wpAny_bind ?_)))
 refine wpAny_nsSet1 (s:={ s with toks:=s.toks+1 }) I.ns fun h' hn2 hs2=>?_
 obtain⟨oD,esD,epD,W0,W2,W3⟩:=hn2.count (PySem.Within.cons name v hw)
 refine wpAny_bind (wpAny_lookBehind W0 (by rw[W2];exact pastItsLine_dict (Nat.le_trans W3 (by rw[List.length_cons];omega))) ?_)
 exact wpAny_pure (h _ ⟨(hs2.2 _ (Ne.symm I.ne)).trans I.obj,hn2,I.ne⟩ hs2)
theorem Cp {R:Result→Shared→Prop}{vs:List Value}{kw:List (Str×Value)} (X:K.In s.heap) (hm:W.makesIn K C=true)
  (hi:W.findIn K (.ref C) "__init__" = some (some (.ref f))) (hf:W.typeIn K (.ref f)=some (.type "function"))
  (h:codeAny (model prog w) (A.under (.builtin "type.__call__" ⟨.ref C :: vs,kw⟩)) (.call (.ref f) ⟨.ref (s.heap.objs.size+1) :: vs,kw⟩) (W.InitBack (s.heap.objs.size+1) R)
   { s with heap:=(s.heap.push W.emptyDict).push (W.instObj C s.heap.objs.size) }) :
  codeAny (model prog w) A (.call (.ref C) ⟨vs,kw⟩) R s:=by
 obtain⟨hh,g,d,t,os⟩:=s
 exact W.make_core (W.makes_of X hm) (W.looks_findIn X hi) (fun self=>W.bind_fn X self hf) (.inl rfl) h
end
def mq (f:Str) (v:V):List (Str×V)→List (Str×V)
 | []=>[(f,v)]
 | (g,x) :: r=>if g=f then (g,v) :: r else (g,x) :: mq f v r
theorem p9 (f g:Str) (v:V):∀ fs:List (Str×V),(mq f v fs).lookup g=if g=f then some v else fs.lookup g
 | []=>by
  show List.lookup g [(f,v)]=_
  by_cases h:g=f
  ·have hb:(g == f)=true:=beq_iff_eq.mpr h
   simp only[List.lookup,hb,if_pos h]
  ·have hb:(g == f)=false:=beq_eq_false_iff_ne.mpr h
   simp only[List.lookup,hb,if_neg h]
 | (k,x) :: r=>by
  have ih:=p9 f g v r
  rw[show mq f v ((k,x) :: r)=(if k=f then (k,v) :: r else (k,x) :: mq f v r) from rfl]
  by_cases hk:k=f
  ·rw[if_pos hk]
   by_cases h:g=k
   ·have hb:(g == k)=true:=beq_iff_eq.mpr h
    simp only[List.lookup,hb,if_pos (h.trans hk)]
   ·have hb:(g == k)=false:=beq_eq_false_iff_ne.mpr h
    simp only[List.lookup,hb,if_neg (fun e:g=f=>h (e.trans hk.symm))]
  ·rw[if_neg hk]
   by_cases h:g=k
   ·have hb:(g == k)=true:=beq_iff_eq.mpr h
    simp only[List.lookup,hb,if_neg (fun e:g=f=>hk (h.symm.trans e))]
   ·have hb:(g == k)=false:=beq_eq_false_iff_ne.mpr h
    simp only[List.lookup,hb]
    exact ih
theorem pC (f:Str) (v:V):∀ fs:List (Str×V),f∈(mq f v fs).map (·.1)∧∀ g,g∈fs.map (·.1)→g∈(mq f v fs).map (·.1)
 | []=>⟨by simp[mq],fun g h=>by simp at h⟩
 | (k,x) :: r=>by
  obtain⟨i1,i2⟩:=pC f v r
  rw[show mq f v ((k,x) :: r)=(if k=f then (k,v) :: r else (k,x) :: mq f v r) from rfl]
  by_cases hk:k=f
  ·rw[if_pos hk]
   subst hk
   exact⟨by simp,fun g h=>by simpa using h⟩
  ·rw[if_neg hk]
   refine⟨?_,fun g h=>?_⟩
   ·rw[List.map_cons]
    exact List.mem_cons_of_mem _ i1
   ·rw[List.map_cons] at h ⊢
    rcases List.mem_cons.mp h with e | e
    ·exact List.mem_cons.mpr (.inl e)
    ·exact List.mem_cons_of_mem _ (i2 g e)
theorem qa (f:Str) (v:V):∀ fs:List (Str×V),(mq f v fs).length≤fs.length+1
 | []=>by simp[mq]
 | (k,x) :: r=>by
  have ih:=qa f v r
  rw[show mq f v ((k,x) :: r)=(if k=f then (k,v) :: r else (k,x) :: mq f v r) from rfl]
  by_cases hk:k=f
  ·rw[if_pos hk,List.length_cons,List.length_cons];omega
  ·rw[if_neg hk,List.length_cons,List.length_cons];omega
theorem ki.some_of {v:V}{o:Option Value} (r:ki (some v) o):∃ u,o=some u∧RelV v u:=by
 cases o with
 | none=>exact(show False from r).elim
 | some u=>exact⟨u,rfl,r⟩
theorem ki.none_of {o:Option Value} (r:ki none o):o=none:=by
 cases o with
 | none=>rfl
 | some u=>exact(show False from r).elim
theorem AY {v:V}{u:Value} (r:RelV v u):W.handedIn u=true:=by
 cases v with
 | non=>cases(show u=Value.none from r);rfl
 | bl b=>cases(show u=Value.bool b from r);rfl
 | int i=>obtain⟨t,e⟩:=(show ∃ t,u=Value.int i t from r);cases e;rfl
 | str x=>obtain⟨t,e⟩:=(show ∃ t,u=Value.str x t from r);cases e;rfl
 | BV b=>obtain⟨t,e⟩:=(show ∃ t,u=Value.bytes b t from r);cases e;rfl
 | nL b=>obtain⟨t,e⟩:=(show ∃ t,u=Value.float b t from r);cases e;rfl
 | ref a=>cases(show u=Value.ref a from r);rfl
 | ty n=>cases(show u=Value.type n from r);rfl
section
variable {P:Program}{w:World}{H H':Hp}{h h':Heap}{a C dx:Addr}{fs fs':List (Str×V)}
theorem qP (hok:nM P w H h) (e:H a=some (.ins C dx fs)):∃ mA,yV h a dx C mA∧(∀ f,ki (fs.lookup f) (mA f))∧PySem.Within mA (fs.map (·.1))∧fs.length≤1000∧H dx=some (.own a):=by
 obtain⟨d,z,ne,ob,mA,n,r,q⟩:=(show bD P w H h a (.ins C dx fs) from hok a _ e)
 exact⟨mA,⟨ob,n,ne⟩,r,q,z,d⟩
end
structure BW (K:W.Frag) (C:Addr):Prop where
 pg:W.plainGet K C Str.empty=true
 hd:W.hasDictIn K C=true
 po:W.plainOver K C=true
 sa:W.findIn K (.ref C) "__setattr__" = some (some (.builtin "object.__setattr__"))
theorem BW.get {K:W.Frag}{C:Addr} (c:BW K C) (f:Str):W.plainGet K C f=true:=c.pg
def e7 (K:W.Frag) (C:Addr) (f:Str):Prop:=W.findIn K (.ref C) f=some none
theorem e7.KU {K:W.Frag}{C:Addr}{f:Str} (n:e7 K C f):W.takerIn K C f=some none:=by
 unfold W.takerIn
 rw[show W.findIn K (.ref C) f=some none from n]
 rfl
structure Meth (K:W.Frag) (C:Addr) (m:Str) (f:Addr):Prop where
 at_:W.findIn K (.ref C) m=some (some (.ref f))
 fn:W.isFn K (.ref f)=true
 kp:W.keepIn K (.ref f)=true
section
variable {X:Cx}{pins:List (Addr×Obj)}{σ:St}{H:Hp}{s:Shared}{a C dx:Addr}{fs:List (Str×V)}{f:Str}{v:V}{A:Around}{E:Value→Shared→Prop}
theorem yW {b:Bool}{Q:Value→Shared→Prop} (I:Inv X pins σ H s) (e:H a=some (.ins C dx fs)) (c:BW X.K C) (n:e7 X.K C f) (l:fs.lookup f=some v)
  (h:∀ u s',Inv X pins σ H s'→RelV v u→Q u s'):wpAny (model X.prog X.w) A (getAttr (.ref a) f b) Q E s:=by
 obtain⟨mA,O,r,_,_,_⟩:=qP I.hok e
 obtain⟨u,hu,ru⟩:=ki.some_of (v:=v) (o:=mA f) (by rw[←l];exact r f)
 exact get_map I.pA O (c.get f) c.hd n hu (AY ru) (h u _ (I.tok _) ru)
theorem rq {m:Str}{g:Addr}{pl:Sem Bool}{Q:Value×List Value→Shared→Prop} (I:Inv X pins σ H s) (e:H a=some (.ins C dx fs)) (c:BW X.K C) (k:Meth X.K C m g) (l:fs.lookup m=none)
  (h:Q (.ref g,[.ref a]) s):wpAny (model X.prog X.w) A (getMethod (.ref a) m pl) Q E s:=by
 obtain⟨mA,O,r,_,_,_⟩:=qP I.hok e
 have hn:mA m=none:=ki.none_of (by rw[←l];exact r m)
 exact Co I.pA O (c.get m) k.at_ k.fn hn h
theorem yX {y:V}{u:Value}{Q:Unit→Shared→Prop} (I:Inv X pins σ H s) (e:H a=some (.ins C dx fs)) (c:BW X.K C) (n:e7 X.K C f) (hl:fs.length < 1000) (ry:RelV y u)
  (h:∀ s',Inv X pins σ (upd H a (.ins C dx (mq f y fs))) s'→Q () s'):wpAny (model X.prog X.w) A (setAttr (.ref a) f u) Q E s:=by
 obtain⟨mA,O,r,wi,_,ho⟩:=qP I.hok e
 have hz:(fs.map (·.1)).length≤sizeLine:=by rw[List.length_map,sizeLine_eq];omega
 refine Eo I.pA O c.sa c.po n.KU c.hd wi hz fun h' O' sb=>h _ ?_
 have hd:∃ o,h'.get? dx=some o:=let ⟨o,_,_,e',_⟩:=O'.ns;⟨o,e'⟩
 refine I.write (x:=a) (e:=dx) (by rw[e];exact True.intro) (.inr ho) (fun b q hb z=>(sb.2 b hb).trans z) hd ?_
 refine⟨by rw[aC O.ne];exact ho,?_,O.ne,O'.obj,_,O'.ns,fun g=>?_,fun g hg=>?_⟩
 ·have:=qa f y fs;omega
 ·show ki ((mq f y fs).lookup g) (if g=f then some u else mA g)
  rw[p9]
  by_cases q:g=f
  ·rw[if_pos q,if_pos q];exact ry
  ·rw[if_neg q,if_neg q];exact r g
 ·by_cases q:g=f
  ·rw[q];exact(pC f y fs).1
  ·refine(pC f y fs).2 g (wi g fun z=>hg ?_)
   show(if g=f then some u else mA g)=none
   rw[if_neg q];exact z
theorem Inv.made (I:Inv X pins σ H s):Inv X pins σ (upd (upd H s.heap.objs.size (.own (s.heap.objs.size+1))) (s.heap.objs.size+1) (.ins C s.heap.objs.size []))
  { s with heap:=(s.heap.push W.emptyDict).push (W.instObj C s.heap.objs.size) }:=by
 have e1:(s.heap.push W.emptyDict).get? s.heap.objs.size=some W.emptyDict:=Heap.get?_push_size s.heap rfl
 have e2:((s.heap.push W.emptyDict).push (W.instObj C s.heap.objs.size)).get? (s.heap.objs.size+1)=some (W.instObj C s.heap.objs.size):=by
  have:=Heap.get?_push_size (s.heap.push W.emptyDict) (o:=W.instObj C s.heap.objs.size) rfl
  rwa [Heap.size_push] at this
 have e3:(s.heap.push W.emptyDict).Ns s.heap.objs.size (fun _=>none):=⟨W.emptyDict,#[],_,e1,rfl,(fun e he=>absurd he (by simp)),fun _=>rfl⟩
 have I1:=I.laid (a:=s.heap.objs.size) (o:=.own (s.heap.objs.size+1)) (h':=s.heap.push W.emptyDict) (t':=s.toks) (fun b u q=>Heap.get?_push_of_some _ q) (Nat.le_refl _) ⟨_,e1⟩
 refine I1.laid (a:=s.heap.objs.size+1) (o:=.ins C s.heap.objs.size []) (t':=s.toks) (fun b u q=>Heap.get?_push_of_some _ q) (Nat.le_of_eq (Heap.size_push _ _)) ?_
 have ne:s.heap.objs.size≠s.heap.objs.size+1:=Nat.ne_of_lt (Nat.lt_succ_self _)
 refine⟨by rw[aC ne,aj],Nat.zero_le _,ne,e2,fun _=>none,(Heap.Ns1.of_empty e3).at fun o q=>Heap.get?_push_of_some _ q,fun _=>True.intro,fun y hy=>absurd rfl hy⟩
theorem Ep {prog:Program}{w:World}{env:Env}{e:Expr}{f:Str}{pos:Pos}{s:Shared}{Q:Value→Shared→Prop} (hb:attributeBase e f env (eval e env)=eval e env)
  (h:wpAny (model prog w) A (eval e env) (fun o s₁=>wpAny (model prog w) A (getAttr o f true) Q E s₁) E s):wpAny (model prog w) A (eval (.Attribute e f pos) env) Q E s :=
 Attribute_any_ h (by rw[arm_eval_Attribute,hb])
end
def KW (K:W.Frag) (ta:TE) (f:Str):TE:=fun σ H Q=>ta σ H fun x H1=>∃ a C dx fs v,x=.ref a∧H1 a=some (.ins C dx fs)∧BW K C∧e7 K C f∧fs.lookup f=some v∧Q v H1
def Qo (K:W.Frag) (ta tv:TE) (f:Str):TS:=fun D σ H=>tv σ H fun y H1=>ta σ H1 fun x H2=>∃ a C dx fs,x=.ref a∧H2 a=some (.ins C dx fs)∧BW K C∧e7 K C f∧fs.length < 1000 ∧
 D.nx σ (upd H2 a (.ins C dx (mq f y fs)))
section
variable {X:Cx}{o e value:Expr}{f:Str}{pos pos' tpos:Pos}{ta tv:TE}
theorem Hf (he:PE X e ta) (hb:attributeBase e f X.env (eval e X.env)=eval e X.env):PE X (.Attribute e f pos) (KW X.K ta f):=by
 intro pins s σ H Q I h
 refine Ep hb (bY (he pins s σ H _ I h) fun u s1 ⟨x,H1,I1,rx,a,C,dx,fs,v,ex,ea,c,n,l,q⟩=>?_)
 subst ex
 obtain rfl:u=Value.ref a:=rx
 exact yW I1 ea c n l fun u' s2 I2 ru=>⟨v,H1,I2,ru,q⟩
theorem kE (ha:PE X o ta) (hv:PE X value tv) (hs:swapsWith value (some (.Attribute o f pos')) pos.line X.env=pure false):PS X (.Assign [.Attribute o f pos'] value pos) (Qo X.K ta tv f):=by
 intro pins s σ H D I h
 refine plainObj_wpAny_Assign_Attribute (bY (hv pins s σ H _ I h) fun u s1 ⟨y,H1,I1,ry,q⟩=>bY (ha pins s1 σ H1 _ I1 q) fun ov s2 ⟨x,H2,I2,rx,a,C,dx,fs,ex,ea,c,n,l,q2⟩=>?_) hs
 subst ex
 obtain rfl:ov=Value.ref a:=rx
 exact yX I2 ea c n l ry fun s3 I3=>⟨σ,_,I3,q2⟩
end
section
variable {X:Cx}{pins:List (Addr×Obj)}{σ:St}{H:Hp}{s:Shared}{A:Around}{E:Value→Shared→Prop}{Q:Value→Shared→Prop}{c:Value}{b:Bool}
inductive nS (K:W.Frag) (H:Hp):V→Value→Prop where
 | non:nS K H .non (.type "NoneType")
 | bl (x:Bool):nS K H (.bl x) (.type "bool")
 | int (i:Int):nS K H (.int i) (.type "int")
 | str (x:Str):nS K H (.str x) (.type "str")
 | nL (x:UInt64):nS K H (.nL x) (.type "float")
 | lst {a:Addr}{xs:List V} (e:H a=some (.lst xs)):nS K H (.ref a) (.type "list")
 | m8 {a:Addr}{o:Obj}{xs:List V} (e:H a=some (.m8 o (.lst xs))):nS K H (.ref a) (.type "list")
 | tup {a:Addr}{xs:List V} (e:H a=some (.tup xs)):nS K H (.ref a) (.type "tuple")
 | dK {a:Addr}{kvs:List (Key×V)} (e:H a=some (.dK kvs)):nS K H (.ref a) (.type "dict")
 | dT {a:Addr}{kvs:List (List Key×V)} (e:H a=some (.dT kvs)):nS K H (.ref a) (.type "dict")
 | ins {a C dx:Addr}{fs:List (Str×V)} (e:H a=some (.ins C dx fs)) (cl:BW K C) (ha:W.findIn K (.ref C) "__class__" = some (some (.builtin "object.__class__")))
   (hn:W.specialIn K (.builtin "object.__class__") "__get__" = some (some (.builtin "getset_descriptor.__get__"))) (htk:W.takesIn K (.builtin "object.__class__")=some true)
   (hm:W.mroIn K C (.type "object")=some true):nS K H (.ref a) (.ref C)
theorem uB {x:V}{u t:Value} (I:Inv X pins σ H s) (rx:RelV x u) (ty:nS X.K H x t) (e:W.kitOne X.K t c=some b) (h:∀ tk,Q (.bool b) { s with toks:=tk }) :
  wpAny (model X.prog X.w) A (call (.builtin "isinstance") [u,c]) Q E s:=by
 cases ty with
 | non=>cases(show u=Value.none from rx);exact W.kia_one W.kitx_none I.pA True.intro e (fun z=>nomatch z) h
 | bl y=>cases(show u=Value.bool y from rx);exact W.kia_one W.kitx_bool I.pA True.intro e (fun z=>nomatch z) h
 | int i=>obtain⟨t,q⟩:=(show ∃ t,u=Value.int i t from rx);cases q;exact W.kia_one W.kitx_int I.pA True.intro e (fun z=>nomatch z) h
 | str y=>obtain⟨t,q⟩:=(show ∃ t,u=Value.str y t from rx);cases q;exact W.kia_one W.kitx_str I.pA True.intro e (fun z=>nomatch z) h
 | nL y=>obtain⟨t,q⟩:=(show ∃ t,u=Value.float y t from rx);cases q;exact W.kia_one W.kitx_float I.pA True.intro e (fun z=>nomatch z) h
 | @lst a xs ea =>
  cases(show u=Value.ref a from rx)
  obtain⟨_,_,n,_,h1⟩:=(show bD X.prog X.w H s.heap a (.lst xs) from I.hok a _ ea)
  exact W.kia_one W.kitx_list I.pA ⟨_,h1,rfl⟩ e (fun z=>nomatch z) h
 | @m8 a ob xs ea =>
  cases(show u=Value.ref a from rx)
  obtain⟨_,_,_,n,_,h1⟩:=(show bD X.prog X.w H s.heap a (.m8 ob (.lst xs)) from I.hok a _ ea)
  exact W.kia_one W.kitx_list I.pA ⟨_,h1,rfl⟩ e (fun z=>nomatch z) h
 | @tup a xs ea =>
  cases(show u=Value.ref a from rx)
  obtain⟨_,_,_,p⟩:=(show bD X.prog X.w H s.heap a (.tup xs) from I.hok a _ ea)
  obtain⟨o,h1,h2,_⟩:=p
  exact W.kia_one W.kitx_tuple I.pA ⟨o,h1,h2⟩ e (fun z=>nomatch z) h
 | @dK a kvs ea =>
  cases(show u=Value.ref a from rx)
  obtain⟨_,_,vs,_,p⟩:=(show bD X.prog X.w H s.heap a (.dK kvs) from I.hok a _ ea)
  obtain⟨o,es,ep,h1,h2,_⟩:=p
  exact W.kia_one W.kitx_dict I.pA ⟨o,h1,h2.1⟩ e (fun z=>nomatch z) h
 | @dT a kvs ea =>
  cases(show u=Value.ref a from rx)
  obtain⟨_,_,xs,_,o,es,ep,h1,h2,_⟩:=(show bD X.prog X.w H s.heap a (.dT kvs) from I.hok a _ ea)
  exact W.kia_one W.kitx_dict I.pA ⟨o,h1,h2.1⟩ e (fun z=>nomatch z) h
 | @ins a C dx fs ea cl ha hn htk hm =>
  cases(show u=Value.ref a from rx)
  obtain⟨mA,O,_⟩:=qP I.hok ea
  obtain⟨od,J,_⟩:=O.look
  exact W.kia_one (W.kitx_own (cl.get _) cl.hd ha hn htk hm) I.pA J e (fun z=>nomatch z) h
end
structure dR (k:Nat) (A:Around):Prop where
 hd:A.handled=none
 dp:A.depth+3 * k+5 < recursionLimit
 un:A.units+16 * k+200 < cLine
theorem dR.mono {j k:Nat}{A:Around} (r:dR k A) (h:j≤k):dR j A:=⟨r.hd,by have:=r.dp;omega,by have:=r.un;omega⟩
theorem dR.deeper {k:Nat}{A:Around} (r:dR (k+1) A) (env:Env):dR k (A.deeper env) :=
 ⟨r.hd,by have:=r.dp;show A.depth+1+3 * k+5 < _;omega,by have:=r.un;show A.units+3+16 * k+200 < _;omega⟩
theorem dR.in1 {k:Nat}{A:Around} (r:dR (k+1) A):dR k A.in1 :=
 ⟨r.hd,by have:=r.dp;show A.depth+3 * k+5 < _;omega,by have:=r.un;show A.units+1+16 * k+200 < _;omega⟩
theorem yY {A:Around}{C:Addr}{us:List Value}{kw:List (Str×Value)}:(A.under (.builtin "type.__call__" ⟨.ref C :: us,kw⟩)).depth=A.depth+1:=by
 first | rfl | simp[Around.under,Code.weight,Code.isCreation,Code.isGuard,Code.isCaller,Code.frames,Code.isFrame,guardIds]
theorem yZ {A:Around}{C:Addr}{us:List Value}{kw:List (Str×Value)}:(A.under (.builtin "type.__call__" ⟨.ref C :: us,kw⟩)).units=A.units+1:=by
 first | rfl | simp[Around.under,Code.cUnits,Code.frames,Code.isFrame]
theorem dR.make {k:Nat}{A:Around} (r:dR (k+1) A) (C:Addr) (us:List Value) (kw:List (Str×Value)):dR k (A.under (.builtin "type.__call__" ⟨.ref C :: us,kw⟩)) :=
 ⟨r.hd,by have:=r.dp;rw[yY];omega,by have:=r.un;rw[yZ];omega⟩
theorem dR.depth {k:Nat}{A:Around} (r:dR k A):A.depth < recursionLimit:=by have:=r.dp;omega
theorem dR.units {k:Nat}{A:Around} (r:dR k A):A.units+64 < cLine:=by have:=r.un;omega
theorem dR.aQ {k:Nat}{A:Around} (r:dR k A):A.units < cLine:=by have:=r.un;omega
def Hg:TA:=fun _ H Q=>Q [] H
def Cq (ta:TE) (tr:TA):TA:=fun σ H Q=>ta σ H fun x H1=>tr σ H1 fun xs H2=>Q (x :: xs) H2
section
variable {X:Cx}{e:Expr}{es:List Expr}{te:TE}{t:TA}{pos:Pos}
theorem ai:PA X [] Hg:=fun _ _ _ _ H Q I h=>Calls.spliced_nil ⟨[],H,I,.nil,h⟩
theorem af (ha:PE X e te) (hr:PA X es t) (hs:starEach (e :: es) X.env=(false,eval e X.env) :: starEach es X.env:=by rfl):PA X (e :: es) (Cq te t):=by
 intro pos pins s σ H Q I h
 rw[hs]
 show wpAny _ _ (spliced ((false,eval e X.env) :: backTo pos (starEach es X.env))) _ _ s
 refine Calls.spliced_cons (bY (ha pins s σ H _ I h) fun u s1 ⟨x,H1,I1,r1,q1⟩=>?_)
 exact bY (hr pos pins s1 σ H1 _ I1 q1) fun us s2 ⟨xs,H2,I2,r2,q2⟩=>⟨x :: xs,H2,I2,.cons r1 r2,q2⟩
def Qp (t:TA):TE:=fun σ H Q=>t σ H fun xs H1=>xs.length≤sizeLine∧∀ p,H1 p=none→Q (.ref p) (upd H1 p (.tup xs))
def Qq (t:TA):TE:=fun σ H Q=>t σ H fun xs H1=>xs.length≤sizeLine∧∀ p,H1 p=none→Q (.ref p) (upd H1 p (.lst xs))
theorem aF {x1} (h:PA X es t):PE X (.Tuple es x1 pos) (Qp t):=by
 intro pins s σ H Q I hq
 refine wpAny_Tuple_spliced (bY (h pos pins s σ H _ I hq) fun us s1 ⟨xs,H1,I1,r,z,q⟩=>⟨by rw[←r.length];exact z,?_⟩)
 have hf:H1 s1.heap.objs.size=none:=I1.hok.fresh (Nat.le_refl _)
 refine⟨.ref s1.heap.objs.size,upd H1 s1.heap.objs.size (.tup xs),I1.laid (t':=s1.toks) (fun b u e=>Heap.get?_push_of_some _ e) (Nat.le_refl _) ?_,rfl,q _ hf⟩
 exact⟨z,us,r,⟨_,Heap.get?_push_size _ rfl,rfl,_,rfl⟩⟩
theorem cH (h:PA X es t):PE X (.List es pos) (Qq t):=by
 intro pins s σ H Q I hq
 refine wpAny_List_spliced (bY (h pos pins s σ H _ I hq) fun us s1 ⟨xs,H1,I1,r,z,q⟩=>⟨by rw[←r.length];exact z,?_⟩)
 have hf:H1 s1.heap.objs.size=none:=I1.hok.fresh (Nat.le_refl _)
 refine⟨.ref s1.heap.objs.size,upd H1 s1.heap.objs.size (.lst xs),I1.laid (t':=s1.toks) (fun b u e=>Heap.get?_push_of_some _ e) (Nat.le_refl _) ?_,rfl,q _ hf⟩
 exact⟨z,us,0,r,Heap.get?_push_size _ rfl⟩
end
abbrev Sp:=List V→Hp→VK→XK→Prop
abbrev BX:=List Env→Hp→Shared→XK→Value→Shared→Prop
structure tN (P:Program) (w:World) (K:W.Frag) (mg:Str→Option Value) (base:Heap) (A:Around) (outer:List Env) (s:Shared) (H:Hp):Prop where
 frames:A.frames=some outer
 mod:Mod K mg base
 bs:∀ b o,base.get? b=some o→s.heap.get? b=some o∧H b=none
 B9:base.objs.size≤s.heap.objs.size
 pq:s.heap.FunFrames base outer
 Gk:∀ b∈frs outer,H b=none
 hok:nM P w H s.heap
 bare:AllBare s.gens
def CE (outer:List Env) (P:Program) (w:World) (H:Hp) (s:Shared) (Q:VK) (u:Value) (s':Shared):Prop :=
 ∃ v H',s'.os=s.os∧AllBare s'.gens∧Un (frs outer) [] H H' s.heap s'.heap∧nM P w H' s'.heap∧RelV v u∧Q v H'
def CR (CX:BX) (outer:List Env) (P:Program) (w:World) (H:Hp) (s:Shared) (Q:VK) (E:XK) (r:Result) (s':Shared):Prop :=
 match r with
 | .ok (.ret u)=>CE outer P w H s Q u s'
 | .ok _=>False
 | .error e=>CX outer H s E e s'
structure aE (P:Program) (w:World) (K:W.Frag) (mg:Str→Option Value) (base:Heap) (CX:BX) (k:Nat) (f:Addr) (fd:FuncData) (ps:List Str) (sp:Sp):Prop where
 len:∀ vs H Q E,sp vs H Q E→vs.length=ps.length
 run:∀(A:Around) (outer:List Env) (s:Shared) (H:Hp) (args:Args) (us:List Value) (vs:List V) (Q:VK) (E:XK),dR k A→tN P w K mg base A outer s H→BindsTo s fd args (ps.zip us)→Vals vs us→sp vs H Q E →
  codeAny (model P w) A (.call (.ref f) args) (CR CX outer P w H s Q E) s
theorem tN.make {P:Program}{w:World}{K:W.Frag}{mg:Str→Option Value}{base:Heap}{A:Around}{outer:List Env}{s:Shared}{H:Hp} (e:tN P w K mg base A outer s H) (C:Addr) (us:List Value) (kw:List (Str×Value)) :
 tN P w K mg base (A.under (.builtin "type.__call__" ⟨.ref C :: us,kw⟩)) outer s H:=⟨by first | exact e.frames | (simpa [Around.under,Code.envs,Code.isFrame,pushEnvs] using e.frames),e.mod,e.bs,e.B9,e.pq,e.Gk,e.hok,e.bare⟩
theorem tN.in1 {P:Program}{w:World}{K:W.Frag}{mg:Str→Option Value}{base:Heap}{A:Around}{outer:List Env}{s:Shared}{H:Hp} (e:tN P w K mg base A outer s H) :
 tN P w K mg base A.in1 outer s H:=⟨e.frames,e.mod,e.bs,e.B9,e.pq,e.Gk,e.hok,e.bare⟩
section
variable {X:Cx}{pins:List (Addr×Obj)}{σ:St}{H:Hp}{s s':Shared}
theorem Inv.KY (I:Inv X pins σ H s):tN X.prog X.w X.K X.mg X.base X.A X.stack s H :=
 ⟨I.ok.frames,I.ok.mod,I.bs,Nat.le_trans I.ok.B9 I.sz,I.stack,I.z0,I.hok,I.bare⟩
theorem Inv.after {Q:VK}{u:Value} (I:Inv X pins σ H s) (h:CE X.stack X.prog X.w H s Q u s'):EP X pins σ Q u s':=by
 obtain⟨v,H',os,bare,un,hok,r,q⟩:=h
 obtain⟨hh,g,d,t,os'⟩:=s'
 obtain rfl:os'=s.os:=os
 exact⟨v,H',I.call (h':=hh) (g':=g) (d':=d) (t':=t) (ch:=[]) un hok bare (fun b z=>absurd z (by simp)),r,q⟩
end
def Cr (sp:Sp) (tO:List V) (E:XK) (t:TA):TE:=fun σ H Q=>t σ H fun vs H1=>sp (vs++tO) H1 Q E
def Gs (C:Addr) (m:Str) (sp:Sp) (tO:List V) (E:XK) (ta:TE) (t:TA):TE:=fun σ H Q=>ta σ H fun x H1=>∃ a dx fs,x=.ref a∧H1 a=some (.ins C dx fs)∧fs.lookup m=none ∧
 t σ H1 fun vs H2=>sp (x :: (vs++tO)) H2 Q E
def KZ (C:Addr) (sp:Sp) (tO:List V) (E:XK) (t:TA):TE:=fun σ H Q=>t σ H fun vs H1=>∀ x dx,H1 x=none→H1 dx=none→dx≠x →
 sp (.ref x :: (vs++tO)) (upd (upd H1 dx (.own x)) x (.ins C dx [])) (fun v H2=>v=.non∧Q (.ref x) H2) E
def Binds (K:W.Frag) (fd:FuncData) (ps:List Str) (ds:List Value):Prop :=
 ∀(s:Shared) (us:List Value),K.In s.heap→(us++ds).length=ps.length→BindsTo s fd ⟨us,[]⟩ (ps.zip (us++ds))
theorem Binds.all {K:W.Frag}{fd:FuncData}{ps:List Str} (h:∀ us:List Value,us.length=ps.length→bindArgs fd ⟨us,[]⟩=pure (ps.zip us)):Binds K fd ps []:=fun s us _ hl=>by
 rw[List.append_nil] at hl ⊢
 exact .of_eq (h us hl)
def Passes (CX:BX) (X:Cx) (E:XK):Prop:=∀(pins:List (Addr×Obj)) (σ:St) (H:Hp) (s:Shared) (e:Value) (s':Shared),Inv X pins σ H s→CX X.stack H s E e s'→X.xe e s'
section
variable {X:Cx}{CX:BX}{k:Nat}{f C:Addr}{fd:FuncData}{ps:List Str}{sp:Sp}{tO:List V}{ds:List Value}{E:XK}{x m:Str}{p pos apos:Pos}{e o:Expr}{es:List Expr}{ta:TE}{t:TA}
theorem za {pins:List (Addr×Obj)}{σ:St}{H:Hp}{s:Shared}{Q:VK}{us:List Value}{vs:List V} (F:aE X.prog X.w X.K X.mg X.base CX k f fd ps sp) (hr:dR k X.A) (hb:Binds X.K fd ps ds) (hd:Vals tO ds) (hx:Passes CX X E)
  (I:Inv X pins σ H s) (r:Vals vs us) (h:sp (vs++tO) H Q E):wpAny (model X.prog X.w) X.A (call (.ref f) us) (EP X pins σ Q) X.xe s:=by
 have r2:Vals (vs++tO) (us++ds):=r.append hd
 have hl:(us++ds).length=ps.length:=by rw[←r2.length];exact F.len _ _ _ _ h
 refine wpAny_call (codeAny_mono (F.run X.A X.stack s H ⟨us,[]⟩ (us++ds) (vs++tO) Q E hr I.KY (hb s us I.pA hl) r2 h) fun r s' hq=>?_)
 cases r with
 | error e=>exact hx pins σ H s e s' I hq
 | ok fl =>
  cases fl with
  | ret u=>exact I.after hq
  | next=>exact False.elim hq
  | brk=>exact False.elim hq
  | cont=>exact False.elim hq
theorem gF (F:aE X.prog X.w X.K X.mg X.base CX k f fd ps sp) (hr:dR k X.A) (hg:Gl X x) (hm:X.mg x=some (.ref f)) (hk:W.keepIn X.K (.ref f)=true) (hb:Binds X.K fd ps ds) (hd:Vals tO ds) (hx:Passes CX X E)
  (ha:PA X (e :: es) t) (hdb:(x == ("__debug__" : Str))=false:=by decide) (he:starEach (e :: es) X.env=(false,eval e X.env) :: starEach es X.env:=by rfl) (hpl:(backTo pos (starEach es X.env)).any (·.1)=false:=by rfl) :
  PE X (.Call (.Name x p) (e :: es) [] pos) (Cr sp tO E t):=by
 intro pins s σ H Q I h
 refine wpAny_Call_Name_kw (vm I hg hm ?_ hdb)
 refine W.callWith_K (h₀:=X.base) I.ok.mod.Kr hk (bY (ha pos pins s σ H _ I h) fun us s1 ⟨vs,H1,I1,r,q⟩=>⟨I1.pA,?_⟩) he hpl
 exact za F hr hb hd hx I1 r q
theorem Er {pl:Sem Bool} (he:PE X o ta) (c:BW X.K C) (hm:Meth X.K C m f) (F:aE X.prog X.w X.K X.mg X.base CX k f fd ps sp) (hr:dR k X.A) (hb:Binds X.K fd ps ds) (hd:Vals tO ds) (hx:Passes CX X E) (ha:PA X (e :: es) t)
  (hst:starEach (e :: es) X.env=(false,eval e X.env) :: starEach es X.env:=by rfl) (hpl:(backTo pos (starEach es X.env)).any (·.1)=false:=by rfl)
  (ht:eval (.Call (.Attribute o m apos) (e :: es) [] pos) X.env=(do
   let ov ←eval o X.env
   standAt apos.atName
   let (f,first) ←holding [ov] (getMethod ov m pl)
   callWith pos f first (backTo pos (starEach (e :: es) X.env)) (backToKw pos (keywordEach [] X.env))):=by rfl) :
  PE X (.Call (.Attribute o m apos) (e :: es) [] pos) (Gs C m sp tO E ta t):=by
 intro pins s σ H Q I h
 refine W.methodCall_KW (pl:=pl) (bY (he pins s σ H _ I h) fun u s1 ⟨x,H1,I1,rx,a,dx,fs,ex,ea,l,q⟩=>?_) ht
 subst ex
 obtain rfl:u=Value.ref a:=rx
 refine rq I1 ea c hm l ?_
 refine W.callWith_K (first:=[.ref a]) (h₀:=X.base) I.ok.mod.Kr hm.kp (bY (ha pos pins s1 σ H1 _ I1 q) fun us s2 ⟨vs,H2,I2,r,q2⟩=>⟨I2.pA,?_⟩) hst hpl
 exact za (us:=.ref a :: us) (vs:=.ref a :: vs) F hr hb hd hx I2 (.cons rfl r) q2
theorem Cs {pl:Sem Bool} (he:PE X o ta) (c:BW X.K C) (hm:Meth X.K C m f) (F:aE X.prog X.w X.K X.mg X.base CX k f fd ps sp) (hr:dR k X.A) (hb:Binds X.K fd ps ds) (hd:Vals tO ds) (hx:Passes CX X E)
  (ht:eval (.Call (.Attribute o m apos) [] [] pos) X.env=(do
   let ov ←eval o X.env
   standAt apos.atName
   let (f,first) ←holding [ov] (getMethod ov m pl)
   callWith pos f first (backTo pos (starEach [] X.env)) (backToKw pos (keywordEach [] X.env))):=by rfl) :
  PE X (.Call (.Attribute o m apos) [] [] pos) (Gs C m sp tO E ta Hg):=by
 intro pins s σ H Q I h
 refine W.methodCall_KW (pl:=pl) (bY (he pins s σ H _ I h) fun u s1 ⟨x,H1,I1,rx,a,dx,fs,ex,ea,l,q⟩=>?_) ht
 subst ex
 obtain rfl:u=Value.ref a:=rx
 refine rq I1 ea c hm l ?_
 exact W.callWith_K0 (first:=[.ref a]) I1.pA hm.kp (za (us:=[.ref a]) (vs:=[.ref a]) F hr hb hd hx I1 (.cons rfl .nil) q)
structure Mk (K:W.Frag) (C f:Addr):Prop where
 makes:W.makesIn K C=true
 init:W.findIn K (.ref C) "__init__" = some (some (.ref f))
 fn:W.isFn K (.ref f)=true
 kp:W.keepIn K (.ref C)=true
theorem Ct {pins:List (Addr×Obj)}{σ:St}{H:Hp}{s:Shared}{Q:VK}{us:List Value}{vs:List V} (M:Mk X.K C f) (F:aE X.prog X.w X.K X.mg X.base CX k f fd ps sp) (hr:dR (k+1) X.A) (hb:Binds X.K fd ps ds) (hd:Vals tO ds)
  (hx:Passes CX X E) (I:Inv X pins σ H s) (r:Vals vs us)
  (h:∀ x dx,H x=none→H dx=none→dx≠x→sp (.ref x :: (vs++tO)) (upd (upd H dx (.own x)) x (.ins C dx [])) (fun v H2=>v=.non∧Q (.ref x) H2) E) :
  wpAny (model X.prog X.w) X.A (call (.ref C) us) (EP X pins σ Q) X.xe s:=by
 have hq:=h (s.heap.objs.size+1) s.heap.objs.size (I.hok.fresh (Nat.le_succ _)) (I.hok.fresh (Nat.le_refl _)) (Nat.ne_of_lt (Nat.lt_succ_self _))
 have I2:=Inv.made (C:=C) I
 have r2:Vals (V.ref (s.heap.objs.size+1) :: (vs++tO)) (Value.ref (s.heap.objs.size+1) :: (us++ds)):=.cons rfl (r.append hd)
 have hl:(Value.ref (s.heap.objs.size+1) :: us++ds).length=ps.length:=by
  have e:=r2.length
  rw[F.len _ _ _ _ hq] at e
  exact e.symm
 refine wpAny_call (Cp (f:=f) I.pA M.makes M.init (beq_iff_eq.mp M.fn) (codeAny_mono (F.run _ X.stack _ _ ⟨Value.ref (s.heap.objs.size+1) :: us,[]⟩ (Value.ref (s.heap.objs.size+1) :: (us++ds)) _ _ E (hr.make C us [])
  (I2.KY.make C us []) (hb _ (Value.ref (s.heap.objs.size+1) :: us) I2.pA hl) r2 hq) fun r s' hq'=>?_))
 cases r with
 | error e=>exact hx pins σ _ _ e s' I2 hq'
 | ok fl =>
  cases fl with
  | ret u =>
   obtain⟨v,H',I3,rv,ev,q3⟩:=I2.after hq'
   subst ev
   exact⟨rv,⟨V.ref (s.heap.objs.size+1),H',I3,rfl,q3⟩⟩
  | next=>exact False.elim hq'
  | brk=>exact False.elim hq'
  | cont=>exact False.elim hq'
theorem Af (M:Mk X.K C f) (F:aE X.prog X.w X.K X.mg X.base CX k f fd ps sp) (hr:dR (k+1) X.A) (hg:Gl X x) (hm:X.mg x=some (.ref C)) (hb:Binds X.K fd ps ds) (hd:Vals tO ds) (hx:Passes CX X E)
  (ha:PA X (e :: es) t) (hdb:(x == ("__debug__" : Str))=false:=by decide) (he:starEach (e :: es) X.env=(false,eval e X.env) :: starEach es X.env:=by rfl) (hpl:(backTo pos (starEach es X.env)).any (·.1)=false:=by rfl) :
  PE X (.Call (.Name x p) (e :: es) [] pos) (KZ C sp tO E t):=by
 intro pins s σ H Q I h
 refine wpAny_Call_Name_kw (vm I hg hm ?_ hdb)
 refine W.callWith_K (h₀:=X.base) I.ok.mod.Kr M.kp (bY (ha pos pins s σ H _ I h) fun us s1 ⟨vs,H1,I1,r,q⟩=>⟨I1.pA,?_⟩) he hpl
 exact Ct M F hr hb hd hx I1 r q
end
section
variable {X:Cx}{CX:BX}{k:Nat}{f C:Addr}{fd:FuncData}{ps ks:List Str}{sp:Sp}{E:XK}{x m:Str}{p pos apos kpos:Pos}{e o:Expr}{es:List Expr}{kws:List Keyword}{te ta:TE}{t tk:TA}{nm:Option Str}
variable {g:List Value→List Value→List Value}{gV:List V→List V→List V}
end
structure aH (N P:List Str) (sc:Scope):Prop where
 kind:sc.kind=.function
 co:sc.isCoroutine=false
 gen:sc.isGenerator=false
 nd:N.Nodup
 pre:N.take P.length=P
 par:∀ x∈P,sc.names.lookup x=some .local∨sc.names.lookup x=some .cell
 Hh:∀ y∈sc.names,y.2≠.free
theorem uC {kindOf:Str→Option NameKind}{x:Str}:∀{binds:List (Str×Value)}{m:Str→Option Value},(∀ v,(x,v)∉binds)→bindL kindOf binds m x=m x
 | [],_,_=>rfl
 | (n,v) :: r,m,h=>by
  unfold bindL
  rw[uC fun w hw=>h w (List.mem_cons_of_mem _ hw)]
  split
  ·have:x≠n:=by rintro rfl;exact h v List.mem_cons_self
   simp[this]
  ·rfl
theorem uD {kindOf:Str→Option NameKind}{x:Str}:∀{binds:List (Str×Value)}{m:Str→Option Value},(∀ v,(x,v)∉binds)→bindC kindOf binds m x=m x
 | [],_,_=>rfl
 | (n,v) :: r,m,h=>by
  unfold bindC
  rw[uD fun w hw=>h w (List.mem_cons_of_mem _ hw)]
  split
  ·rfl
  ·have:x≠n:=by rintro rfl;exact h v List.mem_cons_self
   simp[this]
theorem uE {kindOf:Str→Option NameKind}{x:Str}{v:Value}:∀{P:List Str}{vs:List Value}{i:Nat}{m:Str→Option Value},P.Nodup→P[i]? = some x→vs[i]? = some v→kindOf x=some .local →
  bindL kindOf (P.zip vs) m x=some v
 | [],_,_,_,_,h,_,_=>by simp at h
 | _ :: _,[],_,_,_,_,h,_=>by simp at h
 | p :: P,w :: vs,0,m,nd,h1,h2,hk=>by
  simp at h1 h2;subst h1;subst h2
  show bindL kindOf ((p,w) :: P.zip vs) m p=_
  unfold bindL
  rw[uC fun v hv=>(List.nodup_cons.mp nd).1 (List.of_mem_zip hv).1,if_pos hk]
  simp
 | p :: P,w :: vs,i+1,m,nd,h1,h2,hk=>by
  show bindL kindOf ((p,w) :: P.zip vs) m x=_
  unfold bindL
  exact uE (i:=i) (List.nodup_cons.mp nd).2 (by simpa using h1) (by simpa using h2) hk
theorem uF {kindOf:Str→Option NameKind}{x:Str}{v:Value}:∀{P:List Str}{vs:List Value}{i:Nat}{m:Str→Option Value},P.Nodup→P[i]? = some x→vs[i]? = some v→kindOf x≠some .local →
  bindC kindOf (P.zip vs) m x=some v
 | [],_,_,_,_,h,_,_=>by simp at h
 | _ :: _,[],_,_,_,_,h,_=>by simp at h
 | p :: P,w :: vs,0,m,nd,h1,h2,hk=>by
  simp at h1 h2;subst h1;subst h2
  show bindC kindOf ((p,w) :: P.zip vs) m p=_
  unfold bindC
  rw[uD fun v hv=>(List.nodup_cons.mp nd).1 (List.of_mem_zip hv).1,if_neg hk]
  simp
 | p :: P,w :: vs,i+1,m,nd,h1,h2,hk=>by
  show bindC kindOf ((p,w) :: P.zip vs) m x=_
  unfold bindC
  exact uF (i:=i) (List.nodup_cons.mp nd).2 (by simpa using h1) (by simpa using h2) hk
def start (N:List Str) (vs:List V):St:=vs.map some++List.replicate (N.length - vs.length) none
def zb (CX:BX) (P:Program) (w:World) (K:W.Frag) (mg:Str→Option Value) (base:Heap) (N:List Str) (qual:Str) (scope:Scope) (f:Addr) (cd:Value) (A:Around) (outer:List Env) (s:Shared) (H:Hp) (E:XK):Cx where
 prog:=P
 w:=w
 K:=K
 mg:=mg
 base:=base
 A:=A.deeper (envOfC qual scope s.heap.objs.size f cd)
 N:=N
 s₀:=s
 H₀:=H
 env:=envOfC qual scope s.heap.objs.size f cd
 outer:=outer
 stack:=envOfC qual scope s.heap.objs.size f cd :: outer
 ex:=[]
 calm:=true
 fn:=fun _=>true
 pn:=[]
 xe:=fun e s'=>wpAny (model P w) (A.deeper (envOfC qual scope s.heap.objs.size f cd)) (leaving (envOfC qual scope s.heap.objs.size f cd) e) (fun _ s''=>CX outer H s E e s'') (fun e' s''=>CX outer H s E e' s'') s'
theorem xr {sc:Scope}{n:Nat}{x:Str} (h:sc.names.lookup x=some .cell):∃ c,(cellsFrom n sc.names []).lookup x=some c:=by
 have q:=W.cellsFrom_some sc.names n [] (.inl h)
 exact Option.isSome_iff_exists.mp q
theorem AZ {CX:BX}{P:Program}{w:World}{K:W.Frag}{mg:Str→Option Value}{base:Heap}{N ps:List Str}{qual:Str}{scope:Scope}{f:Addr}{cd:Value}{A:Around}{outer:List Env}{s s1:Shared}{H:Hp}{E:XK}{us:List Value}{vs:List V}
  (S:aH N ps scope) (hd:A.handled=none) (e0:tN P w K mg base A outer s H) (hl:vs.length=ps.length) (r:Vals vs us)
  (x:InCallC s s.heap.objs.size (bindL (envOfC qual scope s.heap.objs.size f cd).kindOf (ps.zip us) fun _=>none) (cellsFrom (s.heap.objs.size+1) scope.names []) (bindC (envOfC qual scope s.heap.objs.size f cd).kindOf (ps.zip us) fun _=>none) s1) :
  Inv (zb CX P w K mg base N qual scope f cd A outer s H E) [] (start N vs) H s1:=by
 have hpl:ps.length≤N.length:=by have:=congrArg List.length S.pre;rw[List.length_take] at this;omega
 obtain⟨h1,tk,rfl,hk⟩:=x.done
 have K0:∀ b:Addr,b∉(zb CX P w K mg base N qual scope f cd A outer s H E).ex:=fun b z=>absurd (show b∈([]:List Addr) from z) (by simp)
 refine⟨⟨e0.mod,S.kind,rfl,rfl,Nat.le_refl _,fun y z c h1 h2=>?_,fun y hy=>?_,fun y c _ h=>?_,fun _=>hd,Around.frames_deeper e0.frames,.inr ⟨rfl,rfl⟩,fun b z=>absurd z (K0 b),e0.bs,e0.B9,fun b _ _=>K0 b,fun b z=>absurd z (K0 b),e0.pq,e0.Gk⟩,
  rfl,e0.bare,Un.kept hk,⟨_,x.toInCall.ns,fun i y v h1 h2 h3=>?_⟩,fun y c h=>⟨_,x.cell y c h⟩,e0.hok.fresh (Nat.le_refl _),fun y c h=>?_,fun p hp=>absurd (show p∈([]:List (Addr×Obj)) from hp) (by simp),e0.hok.kept hk,?_⟩
 ·exact name_of_addr x.apart (PySem.mem_of_lookup h1) (PySem.mem_of_lookup h2)
 ·have hy:scope.names.lookup y=some .cell∨scope.names.lookup y=some .free:=hy
  rcases hy with hy | hy
  ·exact xr hy
  ·exact absurd rfl (S.Hh _ (PySem.mem_of_lookup hy))
 ·exact Nat.le_of_lt (x.above y c (PySem.mem_of_lookup h))
 ·have hi:i < vs.length:=by
   unfold start at h2
   by_cases hi:i < vs.length
   ·exact hi
   ·rw[List.getElem?_append_right (by simpa using hi)] at h2
    rw[List.getElem?_replicate] at h2
    split at h2 <;> cases h2
  have ha:vs[i]? = some v:=by
   unfold start at h2
   rw[List.getElem?_append_left (by simpa using hi),List.getElem?_map] at h2
   cases e:vs[i]? with
   | none=>rw[e] at h2;cases h2
   | some a=>rw[e] at h2;cases h2;rfl
  obtain⟨u,hu,rv⟩:=r.get ha
  have hp:ps[i]? = some y:=by
   rw[←S.pre,List.getElem?_take_of_lt (by omega)];exact h1
  have UL:ps.Nodup:=by rw[←S.pre];exact S.nd.sublist (List.take_sublist _ _)
  refine⟨u,rv,?_⟩
  rcases S.par y (List.mem_of_getElem? hp) with k | k
  ·exact .inl ⟨k,uE UL hp hu k⟩
  ·obtain⟨c,e⟩:=xr (n:=s.heap.objs.size+1) k
   refine .inr ⟨.inl k,c,e,?_⟩
   have q:=x.cell y c e
   rw[uF UL hp hu (by show scope.names.lookup y≠_;rw[k];decide)] at q
   exact q
 ·exact e0.hok.fresh (Nat.le_of_lt (x.above y c (PySem.mem_of_lookup h)))
 ·unfold start
  show _=N.length
  rw[List.length_append,List.length_map,List.length_replicate]
  omega
theorem Gu {CX:BX}{P:Program}{w:World}{K:W.Frag}{mg:Str→Option Value}{base:Heap}{k:Nat}{f:Addr}{name qual:Str}{params:Arguments}{body:List Stmt}{scope:Scope}{dV kV doc pm cdv ct oc:Value}{an od:Option Addr}
  {osl:Array (Option Value)}{N ps:List Str}{sp:Sp} (lk:K.lookup f=some ⟨oc,od,.func (W.fnOf name qual params body scope dV kV doc pm an cdv ct),osl⟩) (hcd:W.codeIn K cdv qual=true) (S:aH N ps scope)
  (len:∀ vs H Q E,sp vs H Q E→vs.length=ps.length)
  (hbody:∀(A:Around) (outer:List Env) (s:Shared) (H:Hp) (vs:List V) (Q:VK) (E:XK),dR k (A.deeper (envOfC qual scope s.heap.objs.size f cdv))→sp vs H Q E →
   ∃ t,AU (zb CX P w K mg base N qual scope f cdv A outer s H E) body t∧t { nx:=fun _ H'=>Q .non H',rt:=Q } (start N vs) H) :
  aE P w K mg base CX (k+1) f (W.fnOf name qual params body scope dV kV doc pm an cdv ct) ps sp:=by
 refine⟨len,fun A outer s H args us vs Q E hr e0 hb r D5=>?_⟩
 have hl:=len _ _ _ _ D5
 have KX:K.In s.heap:=e0.mod.Kr.keeps fun b o e=>(e0.bs b o e).1
 have lim:s.heap.NoLimit:=e0.mod.nolimit.keeps fun b o e=>(e0.bs b o e).1
 have hkind:∀ y∈ps.zip us,scope.names.lookup y.1=some .local∨(scope.names.lookup y.1=some .cell∧((cellsFrom (s.heap.objs.size+1) scope.names []).lookup y.1).isSome=true):=fun ⟨n,v⟩ hy=>by
  rcases S.par n (List.of_mem_zip hy).1 with q | q
  ·exact .inl q
  ·exact .inr ⟨q,W.cellsFrom_some _ _ _ (.inl q)⟩
 refine codeAny_call_function hr.depth (KX _ _ lk) rfl S.co S.gen rfl (W.codeRec_of KX hcd) (hb _ _ _ _ ?_)
 refine wpAny_newFunctionEnv_cells S.kind hkind fun env he s1 x=>?_
 subst he
 refine⟨lim.keeps x.toInCall.keep,codeAny_func ?_⟩
 obtain⟨t,ht,hq⟩:=hbody A outer s H vs Q E (hr.deeper _) D5
 have I:Inv (zb CX P w K mg base N qual scope f cdv A outer s H E) [] (start N vs) H s1:=AZ S hr.hd e0 hl r x
 refine wpAny_mono (ht [] s1 (start N vs) H _ I hq) (fun fl s' hs=>?_) fun e s' hs=>hs
 have fin:∀{σ':St}{H':Hp}{v:V}{u:Value},Inv (zb CX P w K mg base N qual scope f cdv A outer s H E) [] σ' H' s'→RelV v u→Q v H'→CE outer P w H s Q u s' :=
  fun {σ' H' v u} J rv q=>⟨v,H',J.os,J.bare,J.base,J.hok,rv,q⟩
 cases fl with
 | ret u =>
  obtain⟨v,σ',H',J,rv,q⟩:=hs
  exact fin J rv q
 | next =>
  obtain⟨σ',H',J,q⟩:=hs
  exact fin (v:=V.non) (u:=Value.none) J rfl q
 | brk =>
  obtain⟨_,_,_,q⟩:=hs
  exact False.elim q
 | cont =>
  obtain⟨_,_,_,q⟩:=hs
  exact False.elim q
section
variable {X:Cx}{x:Str}{p pos:Pos}{e:Expr}{es:List Expr}{t:TA}{id T:String}{r:List V→Hp→VK→Prop}
def Pe (r:List V→Hp→VK→Prop) (t:TA):TE:=fun σ H Q=>t σ H fun vs H1=>r vs H1 Q
theorem Cu (hc:cD X (.builtin id) r) (hg:Gl X x) (hm:X.mg x=none) (hv:bootBuiltins x=some (.builtin id)) (ha:PA X (e :: es) t) (hn:x ≠ "__name__" := by decide) (hdb:(x == ("__debug__" : Str))=false:=by decide)
  (he:starEach (e :: es) X.env=(false,eval e X.env) :: starEach es X.env:=by rfl) (hpl:(backTo pos (starEach es X.env)).any (·.1)=false:=by rfl):PE X (.Call (.Name x p) (e :: es) [] pos) (Pe r t):=by
 intro pins s σ H Q I h
 refine wpAny_Call_Name_kw (ku I hg hm hv ?_ hn hdb)
 exact PyProof.Rows.callWith_builtin1 (bY (ha pos pins s σ H _ I h) fun us s1 ⟨vs,H1,I1,r1,q1⟩=>hc pins s1 σ H1 vs us Q I1 r1 q1) he hpl
theorem A0 (hc:cD X (.type T) r) (hg:Gl X x) (hm:X.mg x=none) (hv:bootBuiltins x=some (.type T)) (ha:PA X (e :: es) t) (hn:x ≠ "__name__" := by decide) (hdb:(x == ("__debug__" : Str))=false:=by decide)
  (he:starEach (e :: es) X.env=(false,eval e X.env) :: starEach es X.env:=by rfl) (hpl:(backTo pos (starEach es X.env)).any (·.1)=false:=by rfl):PE X (.Call (.Name x p) (e :: es) [] pos) (Pe r t):=by
 intro pins s σ H Q I h
 refine wpAny_Call_Name_kw (ku I hg hm hv ?_ hn hdb)
 exact PyProof.Rows.callWith_type1 (bY (ha pos pins s σ H _ I h) fun us s1 ⟨vs,H1,I1,r1,q1⟩=>hc pins s1 σ H1 vs us Q I1 r1 q1) he hpl
end
end L2
namespace HT
open PySem PyProof.Rows
section
open PySem.SeqAt
open PySem.AutoSeq1 (wpAny_loadPart')
open PySem.MeetsSeq PySem.MeetsSeq2 PySem.MeetsSeq3
end
section
variable {prog:Program}{w:World}{A:Around}{E:Value→Shared→Prop}{s:Shared}
def wX (n d:Nat):Option Int→Nat
 | none=>d
 | some v=>if v < 0 then (v+(n:Int)).toNat else min v.toNat n
end
end HT
namespace L2
open PySem PySem.Spec PyProof.Rows
abbrev TO:=St→Hp→(Option Int→Hp→Prop)→Prop
def PO (X:Cx) (e:Option Expr) (t:TO):Prop :=
 ∀(pins:List (Addr×Obj)) (s:Shared) (σ:St) (H:Hp) (Q:Option Int→Hp→Prop),Inv X pins σ H s→t σ H Q →
  wpAny (model X.prog X.w) X.A (evalPart e X.env) (fun u s'=>∃ o H',Inv X pins σ H' s'∧IsPart u o∧Q o H') X.xe s
def Es:TO:=fun _ H Q=>Q none H
def K1 (t:TE):TO:=fun σ H Q=>t σ H fun x H1=>∃ i,x=.int i∧Q (some i) H1
theorem intsAre_of {ns:List Int}:∀{us:List Value},Vals (ns.map V.int) us→IntsAre us ns:=by
 induction ns with
 | nil=>intro us r;rw[List.map_nil] at r;cases r;exact .nil
 | cons n ns ih =>
  intro us r
  rw[List.map_cons] at r
  cases r with
  | cons r1 r2 =>
   obtain⟨t,e⟩:=r1
   subst e
   exact .cons n t (ih r2)
section
variable {X:Cx}{e:Expr}{te:TE}{lo hi:Option Expr}{tl th:TO}{pos p2:Pos}
theorem Ag:PO X none Es:=by
 intro pins s σ H Q I h
 rw[evalPart_none]
 exact wpAny_pure ⟨none,H,I,.none,h⟩
theorem iJ (h:PE X e te):PO X (some e) (K1 te):=by
 intro pins s σ H Q I hw
 rw[evalPart_some]
 refine bY (h pins s σ H _ I hw) fun u s1 ⟨x,H1,I1,r1,q1⟩=>?_
 obtain⟨i,rfl,q⟩:=q1
 obtain⟨t,rfl⟩:=r1
 exact⟨some i,H1,I1,.int i t,q⟩
def Pf (X:Cx) (r:V→Option Int→Option Int→Hp→VK→Prop):Prop :=
 ∀(pins:List (Addr×Obj)) (s:Shared) (σ:St) (H:Hp) (x:V) (v vl vu:Value) (lo hi:Option Int) (sl:Addr) (Q:VK),Inv X pins σ H s→RelV x v→s.heap.IsSliceOf sl vl vu .none→IsPart vl lo→IsPart vu hi→r x lo hi H Q →
  ∃ T id,typeLookup (.type T) "__getitem__" = pure (some (.builtin id))∧s.TypeIs v T∧wpAny (model X.prog X.w) X.A (getItem v (.ref sl)) (EP X pins σ Q) X.xe s
def W4 (r:V→Option Int→Option Int→Hp→VK→Prop) (te:TE) (tl th:TO):TE:=fun σ H Q=>te σ H fun x H1=>tl σ H1 fun l H2=>th σ H2 fun u H3=>r x l u H3 Q
theorem kF {r:V→Option Int→Option Int→Hp→VK→Prop} (hr:Pf X r) (he:PE X e te) (hl:PO X lo tl) (hu:PO X hi th):PE X (.Subscript e (.Slice lo hi none p2) pos) (W4 r te tl th):=by
 intro pins s σ H Q I h
 refine Subscript_ (bY (he pins s σ H _ I h) fun v s1 ⟨x,H1,I1,r1,q1⟩=>?_)
 refine wpAny_Slice (bY (hl pins s1 σ H1 _ I1 q1) fun vl s2 ⟨l,H2,I2,pl,q2⟩=>bY (hu pins s2 σ H2 _ I2 q2) fun vu s3 ⟨u,H3,I3,pu,q3⟩=>?_)
 rw[evalPart_none]
 refine wpAny_pure ?_
 have I4:Inv X pins σ H3 { s3 with heap:=s3.heap.push { cls:=.type "slice",data:=.fields #[vl,vu,.none] } }:=I3.kept (t':=s3.toks) fun b ob q=>Heap.get?_push_of_some _ q
 obtain⟨T,id,hT,ht,hg⟩:=hr pins { s3 with heap:=s3.heap.push { cls:=.type "slice",data:=.fields #[vl,vu,.none] } } σ H3 x v vl vu l u s3.heap.objs.size Q I4 r1 (Heap.IsSliceOf.new ..) pl pu q3
 show wpAny (model X.prog X.w) X.A (subscriptTail e (.Slice lo hi none p2) v (.ref s3.heap.objs.size)) (EP X pins σ Q) X.xe { s3 with heap:=s3.heap.push { cls:=.type "slice",data:=.fields #[vl,vu,.none] } }
 exact tail_any (ops:=[.ref s3.heap.objs.size,v]) ht hT hg (by with_unfolding_all rfl)
def zc (xs:List V) (lo hi:Option Int):List V:=(xs.drop (HT.wX xs.length 0 lo)).take (HT.wX xs.length xs.length hi - HT.wX xs.length 0 lo)
theorem qc (xs:List V) (lo hi:Option Int):(zc xs lo hi).length≤xs.length:=by
 unfold zc
 rw[List.length_take,List.length_drop]
 omega
end
def Gv (n:Nat) (i:Int):Option Nat:=if 0≤i then (if i < n then some i.toNat else none) else if -(n:Int)≤i then some (i+n).toNat else none
def vv {α:Type} (xs:List α) (i:Int):Option α:=(Gv xs.length i).bind fun j=>xs[j]?
theorem Ah {n:Nat}{i:Int}{j:Nat} (h:Gv n i=some j):seqIndex? i n=some j∧j < n∧-(n:Int)≤i∧i < n:=by
 unfold Gv at h
 by_cases h0:0≤i
 ·rw[if_pos h0] at h
  by_cases h1:i < n
  ·rw[if_pos h1] at h
   have e:i.toNat=j:=Option.some.inj h
   exact⟨by rw[seqIndex_of h0 h1,e],by omega,by omega,h1⟩
  ·rw[if_neg h1] at h;cases h
 ·rw[if_neg h0] at h
  by_cases h1 : -(n:Int)≤i
  ·rw[if_pos h1] at h
   have e:(i+n).toNat=j:=Option.some.inj h
   exact⟨by rw[seqIndex_neg (by omega) h1,e],by omega,h1,by omega⟩
  ·rw[if_neg h1] at h;cases h
theorem vz {α:Type}{xs:List α}{i:Int}{v:α} (h:vv xs i=some v):∃ j,seqIndex? i xs.length=some j∧xs[j]? = some v∧j < xs.length∧-(xs.length:Int)≤i∧i < xs.length:=by
 unfold vv at h
 cases e:Gv xs.length i with
 | none=>rw[e] at h;cases h
 | some j =>
  rw[e] at h
  obtain⟨h1,h2,h3,h4⟩:=Ah e
  exact⟨j,h1,h,h2,h3,h4⟩
theorem iK {α:Type}{xs:List α}{j:Nat}{v:α} (h:xs[j]? = some v):vv xs (j:Int)=some v:=by
 have hj:j < xs.length:=(List.getElem?_eq_some_iff.mp h).1
 have e:Gv xs.length (j:Int)=some j:=by
  unfold Gv
  rw[if_pos (by omega),if_pos (by omega)];simp
 unfold vv;rw[e];exact h
def vA (b:Expr):Prop:=∀ o i,subscripted b false o i=operate [o,i] (getItem o i)
def JZ (X:Cx) (r:R2):Prop :=
 ∀(value slice:Expr) (pins:List (Addr×Obj)) (s:Shared) (σ:St) (H:Hp) (x y:V) (v u:Value) (Q:VK),Inv X pins σ H s→RelV x v→RelV y u→r x y H Q →
  subscripted slice false v u=operate [v,u] (getItem v u)→wpAny (model X.prog X.w) X.A (subscriptTail value slice v u) (EP X pins σ Q) X.xe s
def Hi (X:Cx) (id:String) (r:V→List V→Hp→VK→Prop):Prop :=
 ∀(pins:List (Addr×Obj)) (s:Shared) (σ:St) (H:Hp) (x:V) (xs:List V) (v:Value) (us:List Value) (Q:VK),Inv X pins σ H s→RelV x v→Vals xs us→r x xs H Q →
  wpAny (model X.prog X.w) X.A (call (.builtin id) (v :: us)) (EP X pins σ Q) X.xe s
section
variable {X:Cx}{a b:Expr}{ta tb:TE}{pos:Pos}
theorem Ai {r:R2} (hr:JZ X r) (ha:PE X a ta) (hb:PE X b tb) (hs:vA b):PE X (.Subscript a b pos) (D4 r ta tb):=by
 intro pins s σ H Q I h
 exact Subscript_ (G9 ha hb I h fun v u s2 x y H2 I2 rx ry q=>hr a b pins s2 σ H2 x y v u Q I2 rx ry q (hs _ _))
def Hj (K:W.Frag):R2:=fun x y H Q=>∃ p xs i v,x=.ref p∧y=.int i∧aP K H p xs∧vv xs i=some v∧Q v H
def Hl (K:W.Frag):R2:=fun x y H Q=>∃ p xs i v,x=.ref p∧y=.int i∧bh K H p xs∧vv xs i=some v∧Q v H
def Qs:R2:=fun x y H Q=>∃ z i c,x=.str z∧y=.int i∧z.length≤sizeLine∧vv z.cps.toList i=some c∧Q (.str ⟨#[c]⟩) H
theorem Et:JZ X (Hj X.K):=by
 intro value slice pins s σ H x y v u Q I rx ry h hs
 obtain⟨p,xs,i,z,rfl,rfl,hq,he,q⟩:=h
 cases rx
 obtain⟨t,rfl⟩:=ry
 obtain⟨its,r,pl,hz⟩:=I.list hq
 obtain⟨j,h1,h2,h3,h4,h5⟩:=vz he
 obtain⟨w,ew,rw'⟩:=r.get h2
 have hl:=r.length
 have hn:=pB
 have fin:EP X pins σ Q w s:=⟨z,H,I,rw',q⟩
 by_cases h0:0≤i
 ·have hj:i.toNat=j:=by
   rw[seqIndex_of h0 h5] at h1
   exact Option.some.inj h1
  exact item_listR pl.isList h0 (by omega) (by rw[hj];simpa using ew) fin hs
 ·have hj:(i+(its.toArray.size:Int)).toNat=j:=by
   rw[seqIndex_neg (by omega) h4] at h1
   rw[List.size_toArray,←hl]
   exact Option.some.inj h1
  exact subscriptTail_builtinR (x:=w) pl.isList.typeIs slot_list_getitem.lookup
   (wpAny_getItem_list_neg (Q:=fun r s'=>r=w∧EP X pins σ Q r s') pl.isList (by omega) (by rw[List.size_toArray] <;> omega) (by omega) (by rw[hj];simpa using ew) ⟨rfl,fin⟩) hs
theorem Ho:JZ X (Hl X.K):=by
 intro value slice pins s σ H x y v u Q I rx ry h hs
 obtain⟨p,xs,i,z,rfl,rfl,hq,he,q⟩:=h
 cases rx
 obtain⟨t,rfl⟩:=ry
 obtain⟨its,r,pl,hz⟩:=I.tuple hq
 obtain⟨j,h1,h2,h3,h4,h5⟩:=vz he
 obtain⟨w,ew,rw'⟩:=r.get h2
 have hl:=r.length
 have hn:=pB
 have fin:EP X pins σ Q w s:=⟨z,H,I,rw',q⟩
 exact subscriptTail_builtinR (x:=w) pl.typeIs slot_tuple_getitem.lookup
  (getItem_tuple (j:=j) (Q:=fun r s'=>r=w∧EP X pins σ Q r s') pl (by omega) (by omega) (by rw[List.size_toArray,←hl];exact h1) (by simpa using ew) ⟨rfl,fin⟩) hs
theorem Cv:JZ X Qs:=by
 intro value slice pins s σ H x y v u Q I rx ry h hs
 obtain⟨z,i,c,rfl,rfl,hz,he,q⟩:=h
 obtain⟨t,rfl⟩:=rx
 obtain⟨t',rfl⟩:=ry
 obtain⟨j,h1,h2,h3,h4,h5⟩:=vz he
 have hl:z.cps.toList.length=z.length:=by simp[Str.length]
 rw[hl] at h1 h4 h5
 have hn:=pB
 exact tail_any (typeIs_str s z t) slot_str_getitem.lookup (getItem_str (c:=c) (by
  have e1:decide (i < -(2 ^ 63:Int))=false:=decide_eq_false (by omega)
  have e2:decide (i≥2 ^ 63)=false:=decide_eq_false (by omega)
  rw[e1,e2,Bool.or_false]) (by rw[h1];simpa using h2) ⟨.str ⟨#[c]⟩,H,I.tok _,⟨_,rfl⟩,q⟩) hs
theorem zd (its:List Value) (n j:Nat) (u:Value):Obj.mapSeq (·.setIfInBounds j u) { cls:=.type "list",data:=.seq its.toArray n }={ cls:=.type "list",data:=.seq (its.set j u).toArray n }:=by
 simp[Obj.mapSeq]
theorem Inv.lst {pins:List (Addr×Obj)}{σ:St}{H:Hp}{s:Shared}{p:Addr}{xs:List V} (I:Inv X pins σ H s) (h:H p=some (.lst xs)) :
  ∃(its:List Value) (n:Nat),Vals xs its∧s.heap.get? p=some { cls:=.type "list",data:=.seq its.toArray n }∧xs.length≤sizeLine:=by
 obtain⟨z,its,n,r,e⟩:=I.hok p _ h
 exact⟨its,n,r,e,z⟩
theorem Inv.Hq {pins:List (Addr×Obj)}{σ:St}{H:Hp}{s:Shared}{p:Addr}{xs ys:List V}{its its':List Value}{n n':Nat}{f:Obj→Obj} (I:Inv X pins σ H s) (h:H p=some (.lst xs))
  (ho:s.heap.get? p=some { cls:=.type "list",data:=.seq its.toArray n }) (hf:f { cls:=.type "list",data:=.seq its.toArray n }={ cls:=.type "list",data:=.seq its'.toArray n' }) (r:Vals ys its') (hz:ys.length≤sizeLine) (t:Nat) :
  Inv X pins σ (upd H p (.lst ys)) { s with heap:=s.heap.update p f,toks:=t }:=by
 have e:(s.heap.update p f).get? p=some { cls:=.type "list",data:=.seq its'.toArray n' }:=by
  rw[Heap.get?_update_self f ho (by rw[hf] <;> rfl),hf]
 refine I.write (x:=p) (e:=p) (by rw[h];trivial) (.inl rfl) (fun b u hb q=>(Heap.get?_update_other _ _ (Ne.symm hb)).trans q) ⟨_,e⟩ ?_
 exact⟨hz,its',n',r,e⟩
def K2:V→V→V→Hp→(Hp→Prop)→Prop:=fun o i v H Q=>∃ p xs k j,o=.ref p∧i=.int k∧H p=some (.lst xs)∧Gv xs.length k=some j∧Q (upd H p (.lst (xs.set j v)))
theorem set_list:KI X K2:=by
 intro pins s σ H o i v ov iv u Q I ro ri rv h
 obtain⟨p,xs,k,j,rfl,rfl,hp,hj,q⟩:=h
 cases ro
 obtain⟨t,rfl⟩:=ri
 obtain⟨its,n,r,ho,hz⟩:=I.lst hp
 obtain⟨h1,h2,h3,h4⟩:=Ah hj
 have hl:=r.length
 have hn:=pB
 have I':Inv X pins σ (upd H p (.lst (xs.set j v))) { s with heap:=s.heap.update p (Obj.mapSeq (·.setIfInBounds j u)) } :=
  I.Hq hp ho (zd its n j u) (r.set rv j) (by rw[List.length_set];exact hz) s.toks
 by_cases h0:0≤k
 ·have hk:k.toNat=j:=by
   rw[seqIndex_of h0 h4] at h1
   exact Option.some.inj h1
  exact W.ki_setAt ho h0 (by omega) (by rw[List.size_toArray,←hl];exact h4) (by rw[hk];exact⟨_,I',q⟩)
 ·have hk:(k+(its.toArray.size:Int)).toNat=j:=by
   rw[seqIndex_neg (by omega) h3] at h1
   rw[List.size_toArray,←hl]
   exact Option.some.inj h1
  exact W.ki_setBack ho (by omega) (by rw[List.size_toArray,←hl];exact h3) (by omega) (by rw[hk];exact⟨_,I',q⟩)
theorem vB (lo hi:Option Int) (n:Nat):(sliceBounds lo hi none n).1=((HT.wX n 0 lo:Nat):Int)∧(sliceBounds lo hi none n).2.1=((HT.wX n n hi:Nat):Int)∧(sliceBounds lo hi none n).2.2=1:=by
 refine⟨?_,?_,rfl⟩
 ·cases lo with
  | none=>simp[sliceBounds,HT.wX]
  | some i =>
   simp only[sliceBounds,HT.wX,Option.getD_none,show(1:Int) > 0 by decide,if_true]
   by_cases h:i < 0
   ·simp only[h,if_true] <;> omega
   ·simp only[h,if_false] <;> omega
 ·cases hi with
  | none=>simp[sliceBounds,HT.wX]
  | some i =>
   simp only[sliceBounds,HT.wX,Option.getD_none,show(1:Int) > 0 by decide,if_true]
   by_cases h:i < 0
   ·simp only[h,if_true] <;> omega
   ·simp only[h,if_false] <;> omega
theorem tP (its:List Value) (lo hi:Option Int):slicePick its.toArray lo hi none=((its.drop (HT.wX its.length 0 lo)).take (HT.wX its.length its.length hi - HT.wX its.length 0 lo)).toArray:=by
 obtain⟨h1,h2,h3⟩:=vB lo hi its.toArray.size
 unfold slicePick
 rw[h1,h2,h3]
 simp only[sliceRange_one,pick_run,List.size_toArray] <;> rfl
def K3 (K:W.Frag):V→Option Int→Option Int→Hp→VK→Prop:=fun x lo hi H Q=>∃ a xs,x=.ref a∧aP K H a xs∧∀ p,H p=none→Q (.ref p) (upd H p (.lst (zc xs lo hi)))
theorem Eu:Pf X (K3 X.K):=by
 intro pins s σ H x v vl vu lo hi sl Q I rx hs pl pu h
 obtain⟨a,xs,rfl,hx,q⟩:=h
 cases rx
 obtain⟨its,r,ht,hz⟩:=I.list hx
 have hlen:=r.length
 refine⟨"list",_,slot_list_getitem.lookup,ht.isList.typeIs,?_⟩
 refine wpAny_getItem_list_slice ht.isList hs pl pu .none (by simp) ?_ (by rw[List.size_toArray] <;> omega)
 rw[tP,←hlen]
 refine⟨.ref s.heap.objs.size,_,I.laid (t':=s.toks) (o:=.lst (zc xs lo hi)) (fun b ob q=>Heap.get?_push_of_some _ q) (Nat.le_refl _) ?_,rfl,q _ (I.hok.fresh (Nat.le_refl _))⟩
 exact⟨Nat.le_trans (qc xs lo hi) hz,_,0,(r.drop (HT.wX xs.length 0 lo)).take (HT.wX xs.length xs.length hi - HT.wX xs.length 0 lo),Heap.get?_push_size _ rfl⟩
def bW:V→Bool
 | .non=>true
 | .bl _=>true
 | .int _=>true
 | .str _=>true
 | _=>false
def qd:V→V→Bool
 | .non,.non=>true
 | .bl a,.bl b=>a == b
 | .bl a,.int b=>(if a then 1 else 0) == b
 | .int a,.bl b=>a == (if b then 1 else 0)
 | .int a,.int b=>a == b
 | .str a,.str b=>a == b
 | _,_=>false
theorem rz {A:Around}{s:Shared}{y x:V}{u v:Value} (ry:RelV y u) (rx:RelV x v) (fy:bW y=true) (fx:bW x=true):SeqAt.EqAt A s u v (qd y x):=by
 cases y with
 | non =>
  cases ry
  cases x with
  | non=>cases rx;exact SeqAt.EqAt.same _
  | bl b=>cases rx;exact SeqAt.EqAt.none_bool b
  | int b=>obtain⟨t,rfl⟩:=rx;exact SeqAt.EqAt.none_int b t
  | str b=>obtain⟨t,rfl⟩:=rx;exact SeqAt.EqAt.none_str b t
  | _=>exact absurd (show false=true from fx) Bool.false_ne_true
 | bl a =>
  cases ry
  cases x with
  | non=>cases rx;exact SeqAt.EqAt.bool_none a
  | bl b=>cases rx;exact SeqAt.EqAt.bool_bool a b
  | int b=>obtain⟨t,rfl⟩:=rx;exact SeqAt.EqAt.bool_int a b t
  | str b=>obtain⟨t,rfl⟩:=rx;exact SeqAt.EqAt.bool_str a b t
  | _=>exact absurd (show false=true from fx) Bool.false_ne_true
 | int a =>
  obtain⟨t',rfl⟩:=ry
  cases x with
  | non=>cases rx;exact SeqAt.EqAt.int_none a t'
  | bl b=>cases rx;exact SeqAt.EqAt.int_bool a t' b
  | int b=>obtain⟨t,rfl⟩:=rx;exact SeqAt.EqAt.int_int a t' b t
  | str b=>obtain⟨t,rfl⟩:=rx;exact SeqAt.EqAt.int_str a t' b t
  | _=>exact absurd (show false=true from fx) Bool.false_ne_true
 | str a =>
  obtain⟨t',rfl⟩:=ry
  cases x with
  | non=>cases rx;exact SeqAt.EqAt.str_none a t'
  | bl b=>cases rx;exact SeqAt.EqAt.str_bool a t' b
  | int b=>obtain⟨t,rfl⟩:=rx;exact SeqAt.EqAt.str_int a t' b t
  | str b=>obtain⟨t,rfl⟩:=rx;exact SeqAt.EqAt.str_str a t' b t
  | _=>exact absurd (show false=true from fx) Bool.false_ne_true
 | _=>exact absurd (show false=true from fy) Bool.false_ne_true
def J4 (x:V) (u:Value):Bool:=match u with
 | .none=>qd .non x
 | .bool b=>qd (.bl b) x
 | .int i _=>qd (.int i) x
 | .str z _=>qd (.str z) x
 | _=>false
theorem vC {x y:V}{u:Value} (r:RelV y u) (f:bW y=true):J4 x u=qd y x:=by
 cases y with
 | non=>cases r;rfl
 | bl b=>cases r;rfl
 | int i=>obtain⟨t,rfl⟩:=r;rfl
 | str z=>obtain⟨t,rfl⟩:=r;rfl
 | _=>exact absurd (show false=true from f) Bool.false_ne_true
theorem xw {A:Around}{s:Shared}{x:V}{v:Value} (rx:RelV x v) (fx:bW x=true):∀{xs:List V}{us:List Value},Vals xs us→xs.all bW=true→∀ u∈us,SeqAt.EqAt A s u v (J4 x u)
 | _,_,.nil,_=>fun u hu=>by cases hu
 | y :: xs,u :: us,.cons r t,f=>fun u' hu=>by
  rw[List.all_cons,Bool.and_eq_true] at f
  rcases List.mem_cons.mp hu with rfl | hu
  ·rw[vC r f.1];exact rz r rx f.1 fx
  ·exact xw rx fx t f.2 u' hu
theorem vD:jL X (compareOp .NotIn) (fun x y H Q=>∃ i j,x=.str i∧y=.str j∧Q (.bl (!(!(Builtin.Str.occurrences j i 0 j.length 1).isEmpty))) H):=by
 intro pins s σ H x y v u Q I rx ry h
 obtain⟨i,j,rfl,rfl,q⟩:=h
 obtain⟨t,rfl⟩:=rx
 obtain⟨t',rfl⟩:=ry
 exact notIn_str ⟨.bl _,H,I,rfl,q⟩
theorem vE:cD X (.builtin "len") (fun xs H Q=>∃ p ys,xs=[.ref p]∧(aP X.K H p ys∨bh X.K H p ys)∧Q (.int ys.length) H):=by
 intro pins s σ H xs us Q I r h
 obtain⟨p,ys,rfl,hq,q⟩:=h
 obtain⟨u,rfl,rx⟩:=vals1 r
 cases rx
 have hn:=pB
 rcases hq with hq | hq
 ·obtain⟨its,r',pl,hz⟩:=I.list hq
  have hlen:=r'.length
  exact Calls.call_len_list pl.isList (by simp only[List.size_toArray] <;> omega) ⟨.int ys.length,H,I.tok _,⟨s.toks+1,by rw[List.size_toArray,hlen]⟩,q⟩
 ·obtain⟨its,r',pl,hz⟩:=I.tuple hq
  have hlen:=r'.length
  exact len_tuple pl (by simp only[List.size_toArray] <;> omega) ⟨.int ys.length,H,I.tok _,⟨s.toks+1,by rw[List.size_toArray,hlen]⟩,q⟩
theorem cJ:cD X (.builtin "len") (fun xs H Q=>∃ z,xs=[.str z]∧z.length≤sizeLine∧Q (.int z.length) H):=by
 intro pins s σ H xs us Q I r h
 obtain⟨z,rfl,hz,q⟩:=h
 obtain⟨u,rfl,t,rfl⟩:=vals1 r
 have hn:=pB
 exact len_str (by omega) ⟨.int z.length,H,I.tok _,⟨_,rfl⟩,q⟩
theorem vF:cD X (.type "list") (fun xs H Q=>∃ p ys,xs=[.ref p]∧(aP X.K H p ys∨bh X.K H p ys)∧∀ l,H l=none→Q (.ref l) (upd H l (.lst ys))):=by
 intro pins s σ H xs us Q I r h
 obtain⟨p,ys,rfl,hq,q⟩:=h
 obtain⟨u,rfl,rx⟩:=vals1 r
 cases rx
 have fin:∀(its:List Value),Vals ys its→ys.length≤sizeLine→∀(h':Heap) (c':Nat),(∀ b o',s.heap.get? b=some o'→h'.get? b=some o') →
   h'.get? s.heap.objs.size=some { cls:=.type "list",dict:=none,data:=.seq its.toArray c',slots:=#[] }→EP X pins σ Q (.ref s.heap.objs.size) { s with heap:=h' }:=fun its r' hz h' c' kp e =>
  ⟨.ref s.heap.objs.size,_,I.laid (t':=s.toks) kp (Nat.le_refl _) (show bD X.prog X.w _ h' _ (.lst ys) from ⟨hz,its,c',r',e⟩),rfl,q _ (I.hok.fresh (Nat.le_refl _))⟩
 rcases hq with hq | hq
 ·obtain⟨its,r',pl,hz⟩:=I.list hq
  have hlen:=r'.length
  obtain⟨o,ho,hc,n,hd⟩:=pl.isList
  exact call_list_seq p (.inl rfl) ho hc hd (fun h' c' kp e=>fin its r' hz h' c' kp e) (by simp only[List.size_toArray] <;> omega)
 ·obtain⟨its,r',pl,hz⟩:=I.tuple hq
  have hlen:=r'.length
  obtain⟨o,ho,hc,n,hd⟩:=pl
  exact call_list_seq p (.inr rfl) ho hc hd (fun h' c' kp e=>fin its r' hz h' c' kp e) (by simp only[List.size_toArray] <;> omega)
theorem tQ:cD X (.type "tuple") (fun xs H Q=>∃ p ys,xs=[.ref p]∧((aP X.K H p ys∧∀ l,H l=none→Q (.ref l) (upd H l (.tup ys)))∨(bh X.K H p ys∧Q (.ref p) H))):=by
 intro pins s σ H xs us Q I r h
 obtain⟨p,ys,rfl,h⟩:=h
 obtain⟨u,rfl,rx⟩:=vals1 r
 cases rx
 rcases h with ⟨hq,q⟩ | ⟨hq,q⟩
 ·obtain⟨its,r',pl,hz⟩:=I.list hq
  have hlen:=r'.length
  refine call_tuple_list pl.isList (fun h' kp=>?_) (by simp only[List.size_toArray] <;> omega)
  have I1:Inv X pins σ H { s with heap:=h' }:=I.kept (t':=s.toks) kp
  have I2:Inv X pins σ (upd H h'.objs.size (.tup ys)) { s with heap:=h'.push { cls:=.type "tuple",data:=.seq its.toArray } } :=
   I1.laid (t':=s.toks) (fun b o e=>Heap.get?_push_of_some _ e) (Nat.le_refl _) (show bD X.prog X.w _ _ _ (.tup ys) from ⟨hz,its,r',IsTup.new _ _⟩)
  exact⟨.ref h'.objs.size,_,I2,rfl,q _ (I1.hok.fresh (Nat.le_refl _))⟩
 ·obtain⟨its,r',pl,hz⟩:=I.tuple hq
  exact call_tuple_same pl ⟨.ref p,H,I,rfl,q⟩
def UM (K:W.Frag) (T:String) (x:V) (H:Hp):Prop:=match x with
 | .str _=>T = "str"
 | .int _=>T = "int"
 | .ref p=>(T = "list"∧∃ xs,aP K H p xs)∨(T = "tuple"∧∃ o,K.lookup p=some o∧o.cls=.type "tuple"∧o.dict=none) ∨
   (T = "dict"∧((∃ kvs,H p=some (.dK kvs))∨∃ kvs,H p=some (.dT kvs)))∨(T = "set"∧∃ S n,H p=some (.set S n))
 | _=>False
theorem Hr {pins:List (Addr×Obj)}{σ:St}{H:Hp}{s:Shared}{T:String}{x:V}{v:Value} (I:Inv X pins σ H s) (r:RelV x v) (ty:UM X.K T x H) :
  s.TypeIs v T∧∀ a,v=.ref a→∃ ob,s.heap.get? a=some ob∧ob.dict=none:=by
 cases x with
 | str z =>
  obtain⟨t,rfl⟩:=r
  cases(show T = "str" from ty)
  exact⟨typeIs_str s z t,fun _ e=>nomatch e⟩
 | int i =>
  obtain⟨t,rfl⟩:=r
  cases(show T = "int" from ty)
  exact⟨typeIs_int s i t,fun _ e=>nomatch e⟩
 | ref p =>
  cases r
  rcases ty with ⟨rfl,xs,hq⟩ | ⟨rfl,o,hk,hc,hd⟩ | ⟨rfl,hk⟩ | ⟨rfl,S,n,hk⟩
  ·obtain⟨its,_,pl,_⟩:=I.list hq
   refine⟨pl.isList.typeIs,fun a e=>?_⟩
   cases e
   obtain⟨o,n,e,c,hd,_⟩:=pl
   exact⟨o,e,hd⟩
  ·refine⟨⟨o,I.pA p o hk,hc⟩,fun a e=>?_⟩
   cases e
   exact⟨o,I.pA _ o hk,hd⟩
  ·have z:∃ o,s.heap.get? p=some o∧o.ExactDict:=by
    rcases hk with ⟨kvs,hk⟩ | ⟨kvs,hk⟩
    ·obtain⟨_,_,_,_,o,_,_,e,ex,_⟩:=I.hok p _ hk
     exact⟨o,e,ex⟩
    ·obtain⟨_,_,_,_,o,_,_,e,ex,_⟩:=I.hok p _ hk
     exact⟨o,e,ex⟩
   obtain⟨o,e,ex⟩:=z
   refine⟨⟨o,e,ex.1⟩,fun a e2=>?_⟩
   cases e2
   exact⟨o,e,ex.2.1⟩
  ·obtain⟨o,_,_,_,e,ex,_⟩:=I.hok p _ hk
   refine⟨⟨o,e,ex.1⟩,fun a e2=>?_⟩
   cases e2
   exact⟨o,e,ex.2.1⟩
 | _=>exact False.elim ty
def UN (K:W.Frag) (T:String) (r:V→List V→Hp→VK→Prop) (to:TE) (t:TA):TE:=fun σ H Q=>to σ H fun x H1=>UM K T x H1∧t σ H1 fun xs H2=>r x xs H2 Q
variable {o e:Expr}{es:List Expr}{to:TE}{t:TA}{name:Str}{apos cpos:Pos}{T id:String}{r:V→List V→Hp→VK→Prop}
theorem K4 (pa:PlainAttrs T) (slot:Slot T name id) (hty:typeOf (.builtin id)=pure (.type "method_descriptor")) (hm:Hi X id r) (ho:PE X o to) (ha:PA X (e :: es) t)
  (hbase:attributeBase o name X.env (eval o X.env)=eval o X.env:=by rfl)
  (hfew:((backTo cpos (starEach (e :: es) X.env)).all (fun x=>!x.1) && (backToKw cpos (keywordEach [] X.env)).all (fun x=>x.1.isSome)
   && decide ((e :: es).length+([]:List Keyword).length+(if ([]:List Keyword).isEmpty then 0 else 1) < 30))=true:=by rfl)
  (hline:(apos.endLine == cpos.line)=true:=by rfl) (hs:starEach (e :: es) X.env=(false,eval e X.env) :: starEach es X.env:=by rfl) (hplain:(backTo cpos (starEach es X.env)).any (·.1)=false:=by rfl) :
  PE X (.Call (.Attribute o name apos) (e :: es) [] cpos) (UN X.K T r to t):=by
 intro pins s σ H Q I h
 refine wpAny_Call_method_late hbase hfew hline rfl (bY (ho pins s σ H _ I h) fun v s1 ⟨x,H1,I1,r1,ty,q1⟩=>?_)
 obtain⟨h1,h2⟩:=Hr I1 r1 ty
 refine⟨T,id,pa,slot,hty,h1,h2,?_⟩
 have hA:=ha cpos pins s1 σ H1 _ I1 q1
 rw[hs] at hA ⊢
 refine Calls.callWith_builtin (by show(false || (backTo cpos (starEach es X.env)).any (·.1))=false;rw[hplain] <;> rfl) (Calls.evalArgs_plain ?_)
 exact bY hA fun us s2 ⟨vs,H2,I2,r2,q2⟩=>hm pins s2 σ H2 x vs v us Q I2 r1 r2 q2
end
def W5 (X:Cx) (id:String) (r:V→List V→Hp→VK→Prop):Prop :=
 ∀(pins:List (Addr×Obj)) (s:Shared) (σ:St) (H:Hp) (x:V) (xs:List V) (v:Value) (us:List Value) (Q:VK),Inv X pins σ H s→RelV x v→Vals xs us→r x xs H Q →
  wpAny (model X.prog X.w) X.A (call (.builtin id) (v :: us)) (EP X pins σ Q) X.xe s
theorem Vals.one:∀{x:V}{us:List Value},Vals [x] us→∃ u,us=[u]∧RelV x u
 | _,_,.cons r .nil=>⟨_,rfl,r⟩
section
variable {X:Cx}{pins:List (Addr×Obj)}{σ:St}{H:Hp}{s:Shared}{l b:Addr}{xs ys zs:List V}
theorem Inv.Qt {its its':List Value}{n:Nat}{f:Array Value→Array Value}{t':Nat} (I:Inv X pins σ H s) (hH:H l=some (.lst xs))
  (e:s.heap.get? l=some { cls:=.type "list",data:=.seq its.toArray n }) (hf:f its.toArray=its'.toArray) (hv:Vals ys its') (hz:ys.length≤sizeLine) :
  Inv X pins σ (upd H l (.lst ys)) { s with heap:=s.heap.update l (Obj.mapSeq f),toks:=t' }:=by
 have q:=PySem.IsL.update e f
 rw[hf] at q
 refine I.write (x:=l) (e:=l) (by rw[hH];exact trivial) (.inl rfl) (fun b' u hb hu=>(Heap.get?_update_other s.heap (Obj.mapSeq f) (Ne.symm hb)).trans hu) ⟨_,q⟩ ?_
 exact⟨hz,its',_,hv,q⟩
theorem Inv.K5 {its:List Value}{t':Nat} (I:Inv X pins σ H s) (hv:Vals ys its) (hz:ys.length≤sizeLine) :
  Inv X pins σ (upd H s.heap.objs.size (.lst ys)) { s with heap:=s.heap.push { cls:=.type "list",data:=.seq its.toArray },toks:=t' } :=
 I.laid (fun _ _ q=>Heap.get?_push_of_some _ q) (Nat.le_refl _) ⟨hz,its,0,hv,Heap.get?_push_size _ rfl⟩
theorem Inv.fresh (I:Inv X pins σ H s):H s.heap.objs.size=none:=I.hok.fresh (Nat.le_refl _)
theorem Inv.Hs (I:Inv X pins σ H s) (hH:H l=some (.lst xs)):xs.length≤sizeLine∧∃(its:List Value) (n:Nat),Vals xs its∧xs.length=its.length∧s.heap.get? l=some { cls:=.type "list",data:=.seq its.toArray n }:=by
 obtain⟨z,its,n,r,e⟩:=I.hok l _ hH
 exact⟨z,its,n,r,r.length,e⟩
end
section
variable {X:Cx}
def Ew:V→List V→Hp→VK→Prop:=fun x vs H Q=>∃ l xs y,x=.ref l∧vs=[y]∧H l=some (.lst xs)∧xs.length < sizeLine∧Q .non (upd H l (.lst (xs++[y])))
theorem cT:W5 X "list.append" Ew:=by
 intro pins s σ H x vs v us Q I rx rv h
 obtain⟨l,xs,y,rfl,rfl,hH,hz,q⟩:=h
 cases rx
 obtain⟨u,rfl,ru⟩:=rv.one
 obtain⟨z,its,n,r,hl,e⟩:=I.Hs hH
 refine call_meets F.slot_list_append ⟨_,e,rfl⟩ F.entry_list_append (F.args_list_append_2 _ _) (PySem.list_append l its.toArray n u (by rw[List.size_toArray];omega)) ⟨e,?_⟩
 refine⟨.non,_,I.Qt (its':=its++[u]) hH e (by simp) (r.append (.cons ru .nil)) ?_,rfl,q⟩
 rw[List.length_append,List.length_singleton]
 omega
def Qu:R2:=fun x y H Q=>∃ l b xs zs,x=.ref l∧y=.ref b∧H l=some (.lst xs)∧H b=some (.lst zs)∧xs.length+zs.length≤sizeLine∧∀ p,H p=none→Q (.ref p) (upd H p (.lst (xs++zs)))
theorem Cw:jL X (binaryOp .Add) Qu:=by
 intro pins s σ H x y v u Q I rx ry h
 obtain⟨l,b,xs,zs,rfl,rfl,hH,hB,hz,q⟩:=h
 cases rx
 cases ry
 obtain⟨z,its,n,r,hl,e⟩:=I.Hs hH
 obtain⟨z2,its2,n2,r2,hl2,e2⟩:=I.Hs hB
 refine PySem.P.add_list e e2 ?_ (by rw[List.size_toArray,List.size_toArray];omega)
 have ea:its.toArray++its2.toArray=(its++its2).toArray:=by simp
 rw[ea]
 exact⟨.ref _,_,I.K5 (t':=s.toks) (r.append r2) (by rw[List.length_append];omega),rfl,q _ I.fresh⟩
end
section
variable {prog:Program}{w:World}{A:Around}{E:Value→Shared→Prop}{s:Shared}
set_option maxRecDepth 100000 in
end
section
variable {X:Cx}
end
end L2
namespace Att
open PySem PySem.W PySem.Calls PyProof.Rows
theorem qy {P:Params}{h:Heap}:∀(ns:List Int) (vs:List Value),WellAll P h vs (ns.map WData.int)→IntsAre vs ns:=by
 intro ns
 induction ns with
 | nil =>
  intro vs w
  rw[List.map_nil] at w
  cases w
  exact .nil
 | cons n ns ih =>
  intro vs w
  rw[List.map_cons] at w
  cases w with
  | cons a b =>
   cases a
   exact .cons _ _ (ih _ b)
theorem A6 {l:OpenLaw}{n:Nat} (hn:l.most=some n) {P:Params}{h:Heap}{args:List WData}{vals:List Value}
  (hpre:l.row.toRowW.claim.pre args=true) (hwl:WellAll P h vals args) :
  ∃ a vs ns,vals=[Value.ref a]∧args=[WData.list (ns.map WData.int)]∧h.get? a=some { cls:=.type "list",data:=.seq vs.toArray }∧IntsAre vs ns∧ns.length≤n:=by
 have hsh:WShape.hasAll [] args [.list .int]=true:=(pre_splitW hpre).1
 have hc:l.pre.holds [] { args:=args }=true:=(pre_splitW hpre).2
 obtain⟨d,r,rfl,h1,h2⟩:=hasAllW_cons hsh
 obtain rfl:=hasAllW_nil h2
 obtain⟨xs,rfl,h3⟩:=hasW_list h1
 obtain⟨ns,rfl⟩:=items_int h3
 have hlen:ns.length≤n:=by
  unfold OpenLaw.pre at hc
  have h4:(WTm.not (.lt (.lit (.int (n:Int))) (.len (.arg 0)))).holds [] { args:=[.list (ns.map .int)] }=true:=by
   have h4:=(holds_andW hc).1
   rw[hn] at h4
   exact h4
  have h5:=condW_of h4 (w_not (w_lt w_lit (w_len_list (w_arg rfl))))
  rw[List.length_map] at h5
  refine Nat.le_of_not_lt fun q=>?_
  have q':(n:Int) < ((ns.length:Nat):Int):=by omega
  first
   | (rw[decide_eq_true q'] at h5;exact absurd h5 (by decide))
   | (simp at h5;omega)
 cases hwl with
 | cons w1 w2 =>
  cases w2
  cases w1 with
  | list ho hall=>exact⟨_,_,ns,rfl,rfl,ho,qy ns _ hall,hlen⟩
theorem A9 (l:OpenLaw) (args:List WData):l.row.toRowW.claim.post args (.bool true) args=true :=
 postW_of (r:=l.row.toRowW) (X:=(true == true))
  (show WShape.has [] (.bool true) .bool=true by first | rfl | decide | simp[WShape.has,WShape.arms,WShape.armsAll])
  (show(WTm.eq .res (.lit (.bool true))).value [] { args:=args,res:=some (.bool true),after:=args }=some (.bool (true == true)) from w_eq_bool (w_res rfl) w_lit) rfl
theorem xx {l:OpenLaw}{n:Nat}{q:Program}{loose:List Str}{XP:(Str→Option Value)→Heap→Prop}{YP:World→Heap→Prop}{d:DefRec}
  (hn:l.most=some n) (hdf:d.params.defaults=[])
  (call:∀(w:World) (s₀ s₁:Shared) (mg mb:Str→Option Value) (fa:Addr) (o:Obj) (pm cd doc:Value) (a:Addr) (vs:List Value) (ns:List Int),
   Ground q loose [] XP w s₀ mg mb s₁.heap→YP w s₁.heap →
   s₁.heap.get? fa=some o→o.data=.func (docDef d.name d.params d.body d.scope pm cd doc)→s₁.heap.CodeRec cd d.name→mg d.name=some (.ref fa) →
   s₁.heap.get? a=some { cls:=.type "list",data:=.seq vs.toArray }→IntsAre vs ns→ns.length≤n→s₁.gens = #[] →
   codeAny (model l.prog w) callerA (.call (.ref fa) ⟨[.ref a],[]⟩) (fun r s'=>r=.ok (.ret (.bool true))∧OldK s₁.heap s'.heap∧s'.os=s₁.os∧AllBare s'.gens) s₁) :
  WalkO q loose XP YP l.row.toRowW d [] (fun f vs=>PySem.call f vs):=by
 intro w s₀ s₁ mg mb G Y fa o pm cd doc dV kV ho hd hcd hD hmg hg args vals as hpre hlay hrd hwl hlo
 obtain rfl:dV=.none:=Dflts.none hD hdf
 obtain rfl:kV=.none:=Dflts.noKw hD
 obtain⟨a,vs,ns,rfl,rfl,hobj,hints,hlen⟩:=A6 hn hpre hwl
 refine enter_call (codeAny_mono (call w s₀ s₁ mg mb fa o pm cd doc a vs ns G Y ho (fd_plain hd) hcd hmg hobj hints hlen hg) fun r s' hq=>?_)
 obtain⟨rfl,h2,h3,h4⟩:=hq
 exact⟨.inl ⟨.bool true,.bool true,[],rfl,fun _=>rfl,.bool true,A9 l _,fun _=>⟨List.Pairwise.nil,fun _ hm=>(nomatch hm)⟩⟩,h2,h3,h4⟩
section
variable {prog:Program}{w:World}{A:Around}{E:Value→Shared→Prop}{s:Shared}{K:Frag}
end
end Att
namespace L2
open PySem PySem.Spec PyProof.Rows
theorem uG:∀{vs:List Value}{ns:List Int},IntsAre vs ns→Vals (ns.map V.int) vs
 | _,_,.nil=>.nil
 | _,_,.cons n t h=>.cons ⟨t,rfl⟩ (uG h)
def Ht (H:Hp):Prop:=∀ b,H b=none∨∃ o xs,H b=some (.m8 o (.lst xs))
theorem Cy {P:Program}{w:World}{K:W.Frag}{mg mb:Str→Option Value}{CX:BX}{k:Nat}{fa a:Addr}{fd:FuncData}{x:Str}{sp:Sp}{s₁:Shared}{vs:List Value}{ns:List Int}
  (KX:K.In s₁.heap) (hns:s₁.heap.Ns mainGlobals mg) (hb:s₁.heap.Ns builtinsNs mb) (W6:∀ x:Str,x ≠ "__name__"→mb x=bootBuiltins x) (hlim:s₁.heap.NoLimit) (hg:s₁.gens = #[])
  (ha:s₁.heap.get? a=some { cls:=.type "list",data:=.seq vs.toArray }) (hi:IntsAre vs ns) (hl:ns.length≤sizeLine) (hr:dR k callerA)
  (F:∀ base:Heap,K.In base→base.Ns mainGlobals mg→aE P w K mg base CX k fa fd [x] sp) (hbind:∀(s:Shared) (u:Value),BindsTo s fd ⟨[u],[]⟩ [(x,u)])
  (D5:∀ H:Hp,Ht H→aP K H a (ns.map V.int)→sp [.ref a] H (fun v _=>v=.bl true) fun _ _ _=>False)
  (Qv:∀ H e s',CX [] H s₁ (fun _ _ _=>False) e s'→False) :
  codeAny (model P w) callerA (.call (.ref fa) ⟨[.ref a],[]⟩) (fun r s'=>r=.ok (.ret (.bool true))∧OldK s₁.heap s'.heap∧s'.os=s₁.os∧AllBare s'.gens) s₁:=by
 have rv:=uG hi
 have Qw:=hi.length
 have core:∀ H:Hp,Ht H→aP K H a (ns.map V.int)→nM P w H s₁.heap→(∀ b,H b≠none→b=a)→(H a≠none→K.lookup a=none) →
   codeAny (model P w) callerA (.call (.ref fa) ⟨[.ref a],[]⟩) (fun r s'=>r=.ok (.ret (.bool true))∧OldK s₁.heap s'.heap∧s'.os=s₁.os∧AllBare s'.gens) s₁:=by
  intro H hO hS hok hA hK
  have Aj:∀{b:Addr}{o:Obj},s₁.heap.get? b=some o→H b=none→(vh s₁.heap H).get? b=some o:=fun e n=>B7 e n
  have K0:∀{b:Addr}{o:Obj}{es:Array DictEntry}{ep:Nat},s₁.heap.get? b=some o→o.data=.dict es ep→H b=none:=fun {b o es ep} e d=>by
   cases q:H b with
   | none=>rfl
   | some u =>
    have e':b=a:=hA b (by rw[q];simp)
    subst e'
    rw[ha] at e;cases e
    have d':Data.seq vs.toArray _=Data.dict es ep:=d
    cases d'
  have Pg:∀{b:Addr}{m:Str→Option Value},s₁.heap.Ns b m→(vh s₁.heap H).Ns b m:=fun {b m} ⟨o,es,ep,e,d,r⟩=>⟨o,es,ep,Aj e (K0 e d),d,r⟩
  have UO:K.In (vh s₁.heap H):=fun b o e=>Aj (KX b o e) (by
   cases q:H b with
   | none=>rfl
   | some u =>
    have e':b=a:=hA b (by rw[q];simp)
    subst e'
    rw[hK (by rw[q];simp)] at e;cases e)
  have hM:Mod K mg (vh s₁.heap H):=⟨UO,Pg hns,⟨mb,Pg hb,W6⟩,let ⟨mc,h1,h2⟩:=hlim;⟨mc,Pg h1,h2⟩⟩
  have e0:tN P w K mg (vh s₁.heap H) callerA [] s₁ H:=⟨rfl,hM,fun b o e=>Eb e,Nat.le_of_eq (AS _ _),trivial,fun b hb=>absurd (show b∈([]:List Addr) from hb) (by simp),hok,.of_eq hg⟩
  refine codeAny_mono ((F _ UO (Pg hns)).run callerA [] s₁ H ⟨[.ref a],[]⟩ [.ref a] [.ref a] _ _ hr e0 (hbind s₁ (.ref a)) (.cons rfl .nil) (D5 H hO hS)) fun r s' h=>?_
  cases r with
  | error e=>exact(Qv H e s' h).elim
  | ok fl =>
   cases fl with
   | next=>exact False.elim h
   | brk=>exact False.elim h
   | cont=>exact False.elim h
   | ret u =>
    obtain⟨v,H',os,bare,un,Qx,r',q⟩:=h
    have q':v=.bl true:=q
    subst q'
    obtain rfl:u=Value.bool true:=r'
    refine⟨rfl,OldK.of_keep fun b o e=>?_,os,bare⟩
    cases q:H b with
    | none=>exact un.keep b o e q (by intro z;exact absurd (show b∈([]:List Addr) from z) (by simp)) (by simp)
    | some u =>
     rcases hO b with z | ⟨ob,xs,z⟩
     ·rw[q] at z;cases z
     ·have z2:=un.qx b ob _ z
      obtain⟨e1,_⟩:=hok b _ z
      obtain⟨e2,_⟩:=Qx b _ z2
      rw[e] at e1;cases e1
      exact e2
 cases hk:K.lookup a with
 | some o =>
  have e:=KX a o hk
  rw[ha] at e
  cases e
  refine core (fun _=>none) (fun _=>.inl rfl) (.inr ⟨_,vs.toArray,_,hk,rfl,rfl,rfl,by rw[List.size_toArray,Qw];exact hl,by simpa using rv⟩) (fun b u z=>by have z':(none:Option HO)=some u:=z;cases z') (fun b z=>absurd rfl z) fun z=>absurd rfl z
 | none =>
  refine core (fun b=>if b=a then some (.m8 { cls:=.type "list",data:=.seq vs.toArray } (.lst (ns.map V.int))) else none) (fun b=>?_) (.inl (.inr ⟨{ cls:=.type "list",data:=.seq vs.toArray },if_pos rfl⟩)) (fun b u z=>?_) (fun b z=>?_) fun _=>hk
  ·by_cases hb:b=a
   ·exact .inr ⟨_,_,if_pos hb⟩
   ·exact .inl (if_neg hb)
  ·by_cases hb:b=a
   ·have z':=(if_pos hb).symm.trans z
    cases z'
    subst hb
    exact⟨ha,by rw[List.length_map];exact hl,vs,_,rv,ha⟩
   ·have z':=(if_neg hb).symm.trans z
    cases z'
  ·by_cases hb:b=a
   ·exact hb
   ·exact absurd (if_neg hb) z
theorem Ex {l:W.OpenLaw}{n k:Nat}{q:Program}{loose:List Str}{XP:(Str→Option Value)→Heap→Prop}{YP:World→Heap→Prop}{d:DefRec}{K:Params→W.Frag}{CX:World→BX}{sp:World→Sp}{x:Str}
  (hn:l.most=some n) (hn2:n≤sizeLine) (hdf:d.params.defaults=[]) (hr:dR k callerA)
  (hY:∀(w:World) (h:Heap),YP w h→(K w.params).In h)
  (F:∀(w:World) (mg:Str→Option Value) (fa:Addr) (h:Heap),(K w.params).In h→h.Ns mainGlobals mg→mg d.name=some (.ref fa) →
   ∃ fd:FuncData,(∀(s:Shared) (u:Value),BindsTo s fd ⟨[u],[]⟩ [(x,u)]) ∧
    ∀ base:Heap,(K w.params).In base→base.Ns mainGlobals mg→aE l.prog w (K w.params) mg base (CX w) k fa fd [x] (sp w))
  (D5:∀(w:World) (H:Hp) (a:Addr) (ns:List Int),ns.length≤n→Ht H→aP (K w.params) H a (ns.map V.int)→sp w [.ref a] H (fun v _=>v=.bl true) fun _ _ _=>False)
  (Qv:∀(w:World) (H:Hp) (s:Shared) (e:Value) (s':Shared),CX w [] H s (fun _ _ _=>False) e s'→False) :
  W.WalkO q loose XP YP l.row.toRowW d [] (fun f vs=>PySem.call f vs):=by
 refine Att.xx hn hdf fun w s₀ s₁ mg mb fa o pm cd doc a vs ns G Y ho hd hcd hmg hobj hints hlen hg=>?_
 have KX:=hY w _ Y
 obtain⟨fd,hb,hF⟩:=F w mg fa _ KX G.T.g hmg
 exact Cy KX G.T.g G.T.b G.T.builtins G.T.nolimit hg hobj hints (Nat.le_trans hlen hn2) hr hF hb (fun H hO hS=>D5 w H a ns hlen hO hS) fun H e s'=>Qv w H s₁ e s'
def inClass (s:Stmt) (j:Nat):Stmt:=match s with
 | .ClassDef _ _ _ body _ _ _ _ _ _ _=>body.getD j (.Pass ⟨0,0,0,0⟩)
 | _=>.Pass ⟨0,0,0,0⟩
def bJ (s:Stmt):Arguments:=match s with
 | .FunctionDef _ a _ _ _ _ _ _ _ _=>a
 | _=>{ posonlyargs:=[],args:=[],vararg:=none,kwonlyargs:=[],kw_defaults:=[],kwarg:=none,defaults:=[] }
def bC (s:Stmt):List Stmt:=match s with
 | .FunctionDef _ _ b _ _ _ _ _ _ _=>b
 | _=>[]
def au (s:Stmt):Scope:=match s with
 | .FunctionDef _ _ _ _ _ _ sc _ _ _=>sc
 | _=>{ kind:=.function,names:=[],isGenerator:=false,isCoroutine:=false }
abbrev bz:BX:=fun _ _ _ _ _ _=>False
abbrev E0:XK:=fun _ _ _=>False
theorem jr {X:Cx}:Passes bz X E0:=fun _ _ _ _ _ _ _ h=>h.elim
structure gw (K:W.Frag) (x qual:Str) (st:Stmt) (f:Addr) (fd:FuncData):Prop where
 ex:∃(oc:Value) (od:Option Addr) (kV doc pm:Value) (an:Option Addr) (cdv ct:Value) (osl:Array (Option Value)),
  fd=W.fnOf x qual (bJ st) (bC st) (au st) .none kV doc pm an cdv ct∧K.lookup f=some ⟨oc,od,.func fd,osl⟩∧W.codeIn K cdv qual=true
 kp:W.keepIn K (.ref f)=true
section
variable {P:Program}{w:World}{K:W.Frag}{mg:Str→Option Value}{base:Heap}
theorem gw.ok {x qual:Str}{st:Stmt}{f:Addr}{fd:FuncData}{N ps:List Str}{k:Nat}{sp:Sp} (F:gw K x qual st f fd) (S:aH N ps (au st)) (len:∀ vs H Q E,sp vs H Q E→vs.length=ps.length)
  (hbody:∀(cdv:Value) (A:Around) (outer:List Env) (s:Shared) (H:Hp) (vs:List V) (Q:VK) (E:XK),dR k (A.deeper (envOfC qual (au st) s.heap.objs.size f cdv))→sp vs H Q E →
   ∃ t,AU (zb bz P w K mg base N qual (au st) f cdv A outer s H E).JY (bC st) t∧t { nx:=fun _ H'=>Q .non H',rt:=Q } (start N vs) H):aE P w K mg base bz (k+1) f fd ps sp:=by
 obtain⟨oc,od,kV,doc,pm,an,cdv,ct,osl,rfl,lk,hcd⟩:=F.ex
 refine Gu lk hcd S len fun A outer s H vs Q E hr D5=>?_
 obtain⟨t,h,q⟩:=hbody cdv A outer s H vs Q E hr D5
 exact⟨t,h.JY,q⟩
theorem gw.binds {x qual:Str}{st:Stmt}{f:Addr}{fd:FuncData}{ps:List Str} (F:gw K x qual st f fd)
  (h:∀(kV doc pm:Value) (an:Option Addr) (cdv ct:Value) (us:List Value),us.length=ps.length→bindArgs (W.fnOf x qual (bJ st) (bC st) (au st) .none kV doc pm an cdv ct) ⟨us,[]⟩=pure (ps.zip us)):Binds K fd ps []:=by
 obtain⟨oc,od,kV,doc,pm,an,cdv,ct,osl,rfl,lk,hcd⟩:=F.ex
 exact .all (h kV doc pm an cdv ct)
theorem aR {x qual:Str}{st:Stmt}{f:Addr}{oc:Value}{od an:Option Addr}{osl:Array (Option Value)}{kV doc pm cdv ct:Value} (l:K.lookup f=some ⟨oc,od,.func (W.fnOf x qual (bJ st) (bC st) (au st) .none kV doc pm an cdv ct),osl⟩)
 (c:W.codeIn K cdv qual=true) (k:W.keepIn K (.ref f)=true):gw K x qual st f (W.fnOf x qual (bJ st) (bC st) (au st) .none kV doc pm an cdv ct):=⟨⟨oc,od,kV,doc,pm,an,cdv,ct,osl,rfl,l,c⟩,k⟩
end
theorem aX {A:Around}{k:Nat} (hr:dR k A):A.units+1 < cLine:=Nat.lt_of_le_of_lt (Nat.add_le_add_left (by decide:1≤64) _) hr.units
section
variable {X:Cx}
theorem pv (i:Nat) {x:Str}{pos:Pos} (hN:X.N[i]? = some x:=by rfl) (hv:P9 X.env.scope x:=by first | exact Or.inl rfl | exact Or.inr (Or.inl rfl) | exact Or.inr (Or.inr rfl)) (hd:(x == ("__debug__" : Str))=false:=by decide)
 (hcd:(x == ("__classdict__" : Str))=false:=by decide):PE X (.Name x pos) (Ed i):=GO hN hv hd hcd
end
theorem fL {A B:Prop} (h:B):if false=true then A else B:=by
 rw[if_neg Bool.false_ne_true]
 exact h
theorem rA {A B:Prop} (h:A):if true=true then A else B:=by
 rw[if_pos rfl]
 exact h
theorem bB {c A B:Prop} [Decidable c] (h1:c→A) (h2:¬c→B):if c then A else B:=by
 by_cases h:c
 ·rw[if_pos h]
  exact h1 h
 ·rw[if_neg h]
  exact h2 h
theorem K6 {c A B:Prop} [Decidable c] (hc:c) (h:B):if (!decide c)=true then A else B:=by
 rw[decide_eq_true hc]
 exact fL h
def aD (H H':Hp):Prop:=∀ b o,H b=some o→H' b=some o
theorem aD.refl (H:Hp):aD H H:=fun _ _ h=>h
theorem aD.trans {H H1 H2:Hp} (a:aD H H1) (b:aD H1 H2):aD H H2:=fun c o h=>b c o (a c o h)
theorem aD.free {H H':Hp} (e:aD H H') {l:Addr} (h:H' l=Option.none):H l=Option.none:=by
 cases q:H l with
 | none=>rfl
 | some o =>
  rw[e l o q] at h
  cases h
theorem aD.seq {K:W.Frag}{H H':Hp}{a:Addr}{xs:List V} (e:aD H H') (h:aP K H a xs):aP K H' a xs:=by
 rcases h with (h | ⟨o,h⟩) | h
 ·exact .inl (.inl (e _ _ h))
 ·exact .inl (.inr ⟨o,e _ _ h⟩)
 ·exact .inr h
end L2
set_option maxHeartbeats 4000000
namespace L2
open PySem PySem.Spec PyProof.Rows
def fN (env:Env):List (Str×NameKind)→List (Str×Addr)→List (Str×Addr)
 | [],cs=>cs
 | (n,k) :: r,cs=>fN env r (if k == .free then (n,(env.cells.lookup n).getD 0) :: cs else cs)
theorem mL {scope:Scope}{env:Env} (h:∀ n,(n,NameKind.free)∈scope.names→∃ c,env.cells.lookup n=some c) :
  closureFor scope env=pure (fN env scope.names []):=by
 simp only[closureFor]
 have key:∀(l:List (Str×NameKind)) (cs:List (Str×Addr)),(∀ n,(n,NameKind.free)∈l→∃ c,env.cells.lookup n=some c) →
   (forIn l cs (fun x r=>if (x.2 == NameKind.free)=true then (cellOf env x.1 >>= fun a=>pure (ForInStep.yield ((x.1,a) :: r))) else pure (ForInStep.yield r)):Sem (List (Str×Addr)))=pure (fN env l cs):=by
  intro l
  induction l with
  | nil=>intro cs _;rfl
  | cons x l ih =>
   intro cs hl
   obtain⟨n,k⟩:=x
   have hl':∀ n,(n,NameKind.free)∈l→∃ c,env.cells.lookup n=some c:=fun n hn=>hl n (List.mem_cons_of_mem _ hn)
   rw[List.forIn_cons]
   by_cases hk:k=.free
   ·subst hk
    obtain⟨c,hc⟩:=hl n List.mem_cons_self
    have e1:cellOf env n=pure c:=by unfold cellOf;rw[hc]
    simp only[beq_self_eq_true,if_true,e1,pure_bind]
    rw[ih _ hl']
    simp only[fN,beq_self_eq_true,if_true,hc,Option.getD_some]
   ·have hb:(k == NameKind.free)=false:=by simpa using hk
    simp only[hb,Bool.false_eq_true,if_false,pure_bind]
    rw[ih _ hl']
    simp only[fN,hb,Bool.false_eq_true,if_false]
 exact(congrArg (fun z=>z >>= fun r=>pure r) (key scope.names [] h)).trans rfl
theorem m9 {env:Env}:∀(l:List (Str×NameKind)) (cs:List (Str×Addr)),(∀ n,(n,NameKind.free)∈l→∃ c,env.cells.lookup n=some c)→(∀ x c,cs.lookup x=some c→env.cells.lookup x=some c) →
  ∀ x c,(fN env l cs).lookup x=some c→env.cells.lookup x=some c
 | [],cs,_,h,x,c,e=>h x c e
 | (n,k) :: r,cs,hl,h,x,c,e=>by
  refine m9 r _ (fun n hn=>hl n (List.mem_cons_of_mem _ hn)) ?_ x c e
  intro y d hy
  by_cases hk:(k == NameKind.free)=true
  ·rw[if_pos hk] at hy
   have hk':k=.free:=by simpa using hk
   subst hk'
   obtain⟨c',hc'⟩:=hl n List.mem_cons_self
   rw[hc',Option.getD_some,List.lookup_cons] at hy
   cases Qy:y == n with
   | true =>
    rw[Qy] at hy
    have:y=n:=by simpa using Qy
    subst this
    rw[hc'];exact hy
   | false=>rw[Qy] at hy;exact h y d hy
  ·rw[if_neg hk] at hy;exact h y d hy
theorem kG {env:Env}:∀(l:List (Str×NameKind)) (cs:List (Str×Addr)) (x:Str),((x,NameKind.free)∈l∨∃ c,cs.lookup x=some c)→∃ c,(fN env l cs).lookup x=some c
 | [],cs,x,h=>by
  rcases h with h | h
  ·cases h
  ·exact h
 | (n,k) :: r,cs,x,h=>by
  refine kG r _ x ?_
  rcases h with h | ⟨c,h⟩
  ·rcases List.mem_cons.mp h with e | h
   ·cases e
    refine .inr ⟨(env.cells.lookup n).getD 0,?_⟩
    simp[List.lookup_cons]
   ·exact .inl h
  ·right
   by_cases hk:(k == NameKind.free)=true
   ·rw[if_pos hk,List.lookup_cons]
    cases x == n with
    | true=>exact⟨_,rfl⟩
    | false=>exact⟨c,h⟩
   ·rw[if_neg hk];exact⟨c,h⟩
theorem g7 {env:Env} (x:Str):∀(names:List (Str×NameKind)),
  (names.map fun (n,k)=>if (k == NameKind.free && env.scope.kind == .function && env.kindOf n == some .cell) then (n,NameKind.cell) else (n,k)).lookup x =
   (names.lookup x).map fun k=>if (k == NameKind.free && env.scope.kind == .function && env.kindOf x == some .cell) then NameKind.cell else k
 | []=>rfl
 | (n,k) :: r=>by
  have ih:=g7 (env:=env) x r
  show List.lookup x ((if (k == NameKind.free && env.scope.kind == .function && env.kindOf n == some .cell)=true then (n,NameKind.cell) else (n,k)) :: _)=_
  cases hx:x == n with
  | true =>
   have e:x=n:=by simpa using hx
   subst e
   by_cases hc:(k == NameKind.free && env.scope.kind == .function && env.kindOf x == some .cell)=true
   ·rw[if_pos hc];simp only[List.lookup_cons,beq_self_eq_true,Option.map_some,if_pos hc]
   ·rw[if_neg hc];simp only[List.lookup_cons,beq_self_eq_true,Option.map_some,if_neg hc]
  | false =>
   by_cases hc:(k == NameKind.free && env.scope.kind == .function && env.kindOf n == some .cell)=true
   ·rw[if_pos hc];simp only[List.lookup_cons,hx];exact ih
   ·rw[if_neg hc];simp only[List.lookup_cons,hx];exact ih
structure bw (XN:List Str) (J5:Scope) (N:List Str) (nv:Nat) (js:List Nat) (scope:Scope):Prop where
 kind:scope.kind=.function
 cell:∀ y∈scope.names,y.2≠.cell
 loc:∀ y∈scope.names,y.2=.local→scope.names.lookup y.1=some .local
 free:∀ y∈scope.names,y.2=.free→(J5.names.lookup y.1=some .cell∨J5.names.lookup y.1=some .free)
 nd:N.Nodup
 len:N.length=nv+js.length
 pl:js.map (fun j=>XN[j]?)=(N.drop nv).map some
 fr:∀ x∈N.drop nv,scope.names.lookup x=some .free
abbrev g8 (X:Cx) (N:List Str) (scope:Scope) (C:Addr) (s:Shared) (H:Hp) (fp:List Addr):Cx where
 prog:=X.prog
 w:=X.w
 K:=X.K
 mg:=X.mg
 base:=X.base
 A:=X.A
 N:=N
 s₀:=s
 H₀:=H
 env:=compEnvC scope (fN X.env scope.names []) C X.env
 outer:=X.stack
 stack:=X.stack
 ex:=fp
 fn:=fun _=>false
 calm:=X.calm
 pn:=[]
 xe:=fun _ _=>False
def pD (nv:Nat) (js:List Nat) (σ:St):St:=List.replicate nv none++js.map fun j=>(σ[j]?).getD none
section
variable {X:Cx}{pins:List (Addr×Obj)}{σ:St}{H:Hp}{s:Shared}
theorem ze {N:List Str}{nv:Nat}{js:List Nat}{scope:Scope}{fp:List Addr}{h1:Heap}{tk:Nat} (I:Inv X pins σ H s) (S:bw X.N X.env.scope N nv js scope) (hf:∀ b∈fp,nP X pins H b) (hfl:∀ b∈fp,b < s.heap.objs.size)
  (keep:∀ b o,s.heap.get? b=some o→h1.get? b=some o) (ns:h1.Ns s.heap.objs.size fun _=>none) :
  Inv (g8 X N scope s.heap.objs.size s H fp) [] (pD nv js σ) H { s with heap:=h1,toks:=tk }:=by
 have hfr:∀ n,(n,NameKind.free)∈scope.names→∃ c,X.env.cells.lookup n=some c:=fun n hn=>I.ok.has n (S.free _ hn rfl)
 have sub:∀ x c,(fN X.env scope.names []).lookup x=some c→X.env.cells.lookup x=some c:=m9 scope.names [] hfr (fun x c z=>by cases z)
 have Hu:∀ x,scope.names.lookup x≠some .cell:=fun x z=>S.cell _ (PySem.mem_of_lookup z) rfl
 have Qz:∀ x,(relabel scope X.env).names.lookup x=some .cell∨(relabel scope X.env).names.lookup x=some .free→scope.names.lookup x=some .free:=by
  intro x hx
  have e:=g7 (env:=X.env) x scope.names
  have hx':(relabel scope X.env).names.lookup x=_:=e
  rw[hx'] at hx
  cases q:scope.names.lookup x with
  | none=>rw[q] at hx;rcases hx with hx | hx <;> cases hx
  | some k =>
   rw[q,Option.map_some] at hx
   cases k <;> first | rfl | (exact absurd q (Hu x)) | (exfalso;rcases hx with hx | hx <;> simp at hx)
 refine⟨⟨I.ok.mod,S.kind,I.ok.glob,I.ok.blt,Nat.le_refl _,fun x y c h1 h2=>I.ok.inj x y c (sub _ _ h1) (sub _ _ h2),fun x hx=>?_,fun x c z=>(by cases z),I.ok.hd,I.ok.frames,.inl rfl,fun b hb=>?_,fun b o e=>?_,?_,fun b o e hb=>?_,fun b hb z=>?_,I.stack,I.z0⟩,
  rfl,I.bare,Un.kept keep,⟨_,ns,fun i x v e1 e2 e3=>?_⟩,fun x c e=>?_,I.hok.fresh (Nat.le_refl _),fun x c e=>I.mK x c (sub _ _ e),fun p hp=>absurd (show p∈([]:List (Addr×Obj)) from hp) (by simp),I.hok.kept keep,?_⟩
 ·exact kG _ _ _ (.inl (PySem.mem_of_lookup (Qz x hx)))
 ·obtain⟨f0,f1,f2,f3,f4,f5⟩:=hf b hb
  exact⟨Nat.ne_of_lt (hfl b hb),fun x c e=>f4 x c (sub x c e)⟩
 ·exact I.bs b o e
 ·exact Nat.le_trans I.ok.B9 I.sz
 ·obtain⟨f0,f1,f2,f3,f4,f5⟩:=hf b hb
  rcases f3 with z | z
  ·exact I.ok.Ca b o e z
  ·exact absurd (Nat.lt_of_lt_of_le (Heap.lt_size e) (Nat.le_trans I.ok.B9 z)) (Nat.lt_irrefl _)
 ·obtain⟨f0,f1,f2,f3,f4,f5⟩:=hf b hb
  rcases List.mem_cons.mp (I.vj b z) with q | q
  ·exact f1 q
  ·exact f2 q
 ·
  have hi:¬i < nv:=fun hlt=>by
   unfold pD at e2
   rw[List.getElem?_append_left (by simpa using hlt),List.getElem?_replicate,if_pos hlt] at e2
   cases e2
  obtain⟨k,rfl⟩:∃ k,i=nv+k:=⟨i - nv,by omega⟩
  unfold pD at e2
  rw[List.getElem?_append_right (by simp),List.length_replicate,Nat.add_sub_cancel_left,List.getElem?_map] at e2
  cases hj:js[k]? with
  | none=>rw[hj] at e2;cases e2
  | some j =>
   rw[hj,Option.map_some] at e2
   have Ph:(σ[j]?).getD none=some v:=Option.some.inj e2
   have hσ:σ[j]? = some (some v):=by
    cases q:σ[j]? with
    | none=>rw[q] at Ph;cases Ph
    | some z=>rw[q] at Ph;exact congrArg some Ph
   have hd:(N.drop nv)[k]? = some x:=by rw[List.getElem?_drop];exact e1
   have hX:X.N[j]? = some x:=by
    have q:=congrArg (fun l=>l[k]?) S.pl
    simp only[List.getElem?_map,hj,hd,Option.map_some] at q
    exact Option.some.inj q
   have hfx:=S.fr x (List.mem_of_getElem? hd)
   have kx:=S.free _ (PySem.mem_of_lookup hfx) rfl
   obtain⟨m,_,hl⟩:=I.loc
   obtain⟨u,r,l⟩:=hl j x v hX hσ (.inr kx)
   refine⟨u,r,?_⟩
   rcases l with ⟨k1,_⟩ | ⟨_,c,hc,hcell⟩
   ·exfalso
    have W7:X.env.scope.names.lookup x=some .local:=k1
    rcases kx with z | z <;> (rw[W7] at z;cases z)
   ·obtain⟨c',hc'⟩:=kG (env:=X.env) scope.names [] x (.inl (PySem.mem_of_lookup hfx))
    have e:=sub _ _ hc'
    rw[hc] at e;cases e
    refine .inr ⟨?_,c,hc',hcell.keeps keep⟩
    have e:=g7 (env:=X.env) x scope.names
    have e':(relabel scope X.env).names.lookup x=_:=e
    rw[hfx,Option.map_some] at e'
    show(relabel scope X.env).names.lookup x=some .cell∨(relabel scope X.env).names.lookup x=some .free
    rw[e']
    split
    ·exact .inl rfl
    ·exact .inr rfl
 ·obtain⟨v,q⟩:=I.cell x c (sub _ _ e)
  exact⟨v,q.keeps keep⟩
 ·unfold pD
  show _=N.length
  rw[List.length_append,List.length_replicate,List.length_map,S.len]
end
def Ba (X:Cx) (ifs:List Expr) (t:TT):Prop :=
 ∀(pins:List (Addr×Obj)) (s:Shared) (σ:St) (H:Hp) (Q:Bool→Hp→Prop),Inv X pins σ H s→t σ H Q →
  wpAny (model X.prog X.w) X.A (forIn ifs true fun c r=>if r=true then do let ok ←isTrue c X.env (eval c X.env);pure (ForInStep.yield ok) else pure (ForInStep.yield r)) (TP X pins σ Q) X.xe s
def Hv:TT:=fun _ H Q=>Q true H
theorem jM {X:Cx}:Ba X [] Hv:=fun _ _ _ H _ I h=>wpAny_tests_nil ⟨H,I,h⟩
theorem qQ {X:Cx}{c:Expr}{t:TT} (h:PT X c t):Ba X [c] t:=fun pins s σ H Q I q=>wpAny_tests_one (h pins s σ H Q I q)
def nT (J:It) (g:TG) (tt:TT) (te:TE) (Q:VK) (D:Addr) (τ:St) (H:Hp):Prop :=
 ∃ W:Nat→Nat→List V→St→Hp→Prop,(∃ m,W 0 m [] τ (upd H D (.lst [])))∧∀ i m ys τ H,W i m ys τ H→H D=some (.lst ys) ∧
  ((J.stop i H∧Q (.ref D) H)∨(J.go i H∧∃ N:List V→St→Hp→Prop,(∀ zs σ' H',N zs σ' H'→∃ m',m' < m∧W (i+1) m' zs σ' H')∧∀ x H',J.Ce i H x H'→g x τ H' fun τ2 H2=>tt τ2 H2 fun b H3 =>
   if b=true then te τ2 H3 fun y H4=>H4 D=some (.lst ys)∧ys.length < sizeLine∧N (ys++[y]) τ2 (upd H4 D (.lst (ys++[y])))
   else N ys τ2 H3))
def Gw (wi:TI) (g:TG) (tt:TT) (te:TE) (nv:Nat) (js:List Nat):TE:=fun σ H Q=>wi σ H fun J H1=>∀ D,H1 D=none→nT J g tt te Q D (pD nv js σ) H1
theorem zf {prog:Program}{w:World}{A:Around}{R:Result→Shared→Prop}{s:Shared}{elt target iter:Expr}{ifs:List Expr}{scope:Scope}{pos:Pos}{it acc:Value}{env:Env} (I:Nat→Shared→Prop)
  (turn:∀ n s,I n s→wpAny (model prog w) A (pyNext it) (fun r s₁=>match r with
   | none=>R (.ok .next) s₁
   | some v=>wpAny (model prog w) A (letOwnedTupleGo target it v) (fun _ s₁'=>wpAny (model prog w) A (assign target env v) (fun _ s₂ =>
     wpAny (model prog w) A (forIn ifs true fun c r=>if r=true then do let ok ←isTrue c env (eval c env);pure (ForInStep.yield ok) else pure (ForInStep.yield r)) (fun ok s₃ =>
      if ok=true then wpAny (model prog w) A (eval elt env) (fun x s₄ =>
       wpAny (model prog w) A (call (.builtin "list.append") [acc,x]) (fun _ s₅=>∃ m,m < n∧I m s₅) (fun _ _=>False) s₄) (fun _ _=>False) s₃
      else ∃ m,m < n∧I m s₃) (fun _ _=>False) s₂) (fun _ _=>False) s₁') (fun _ _=>False) s₁) (fun _ _=>False) s)
  (n:Nat) (h:I n s) :
  codeAny (model prog w) A (.compLoop (.ListComp elt [⟨target,iter,ifs,0⟩] scope pos) 0 it acc env) R s:=by
 refine codeAny_loop rfl I (fun n s hI=>?_) n h
 show wpAny _ A ((compTurn (.ListComp elt [⟨target,iter,ifs,0⟩] scope pos) 0 it acc env).onRaise (fun x=>do noteFrame x env;theTreesLotGoes x)) _ _ s
 refine wpAny_noted (wpAny_mono (E:=fun _ _=>False) ?_ (fun _ _ q=>q) fun _ _ q=>q.elim)
 rw[compTurn_list]
 refine wpAny_bind (wpAny_standAt (wpAny_bind (wpAny_mono (turn n s hI) (fun r s₁ h₁=>?_) fun _ _ h'=>h')))
 cases r with
 | none=>exact wpAny_pure h₁
 | some v =>
  refine wpAny_bind (wpAny_mono h₁ (fun _ s₁' h₁'=>?_) fun _ _ h'=>h')
  refine wpAny_bind (wpAny_mono h₁' (fun _ s₂ h₂=>wpAny_bind (wpAny_mono h₂ (fun ok s₃ h₃=>?_) fun _ _ h'=>h')) fun _ _ h'=>h')
  cases ok with
  | false=>exact wpAny_pure ⟨rfl,h₃⟩
  | true =>
   exact wpAny_bind (wpAny_bind (wpAny_mono h₃ (fun x s₄ h₄=>wpAny_bind (wpAny_mono h₄ (fun _ s₅ h₅=>wpAny_pure (wpAny_pure ⟨rfl,h₅⟩)) fun _ _ h'=>h')) fun _ _ h'=>h'))
section
variable {X:Cx}{elt tg iter:Expr}{ifs:List Expr}{scope:Scope}{pos:Pos}{N:List Str}{nv:Nat}{js:List Nat}{wi:TI}{g:TG}{tt:TT}{te:TE}
theorem rB {pins:List (Addr×Obj)}{σ:St}{H:Hp}{s:Shared}{Q:VK}{it:Addr}{fp:List Addr}{tn:Nat→Heap→Prop}{J:It}{E:Value→Shared→Prop}{RR:Value→Addr→Result→Shared→Prop} (hc:X.calm=true)
  (S:bw X.N X.env.scope N nv js scope) (hg:∀ C s H fp,PG (g8 X N scope C s H fp) tg g) (ht:∀ C s H fp,Ba (g8 X N scope C s H fp) ifs tt) (he:∀ C s H fp,PE (g8 X N scope C s H fp) elt te)
  (I:Inv X pins σ H s) (T:Turn X.prog X.w X.K tg J fp it tn) (st:tn 0 s.heap) (hf:∀ b∈fp,nP X pins H b) (hR:∀ D,H D=none→nT J g tt te Q D (pD nv js σ) H)
  (hRR:∀ D C H' s' m,Inv X pins σ H' s'→nP X pins H' C→s'.heap.Ns C m→Q (.ref D) H'→RR (.ref D) C (.ok .next) s') :
  wpAny (model X.prog X.w) X.A (newList []) (fun acc s₃=>wpAny (model X.prog X.w) X.A (newFunctionEnv scope X.env.globals (fN X.env scope.names []) [] X.env.qual none .none (some X.env)) (fun cenv s₄ =>
   codeAny (model X.prog X.w) X.A (.compStart (.ListComp elt [⟨tg,iter,ifs,0⟩] scope pos) 0 (.ref it) acc { cenv with scope:=relabel scope X.env }) (RR acc cenv.locals) s₄) E s₃) E s:=by
 refine wpAny_newObj_type (wpAny_newFunctionEnv S.cell (by intro y hy;simp at hy) (fun h₁ Cz CA=>?_) S.kind)
 have I3:Inv X pins σ (upd H s.heap.objs.size (.lst [])) { s with heap:=s.heap.push { cls:=.type "list",data:=.seq ([]:List Value).toArray } }:=I.K5 (t':=s.toks) (its:=[]) .nil (Nat.zero_le _)
 have hD:=I.fresh
 obtain⟨W,⟨m0,w0⟩,turn⟩:=hR s.heap.objs.size hD
 have ho:=T.obj 0 s.heap st
 have K7:∀ b∈fp,b < s.heap.objs.size:=fun b hb=>let ⟨o,e,_⟩:=ho b hb;Heap.lt_size e
 have Hw:∀ b∈fp,nP X pins (upd H s.heap.objs.size (.lst [])) b:=fun b hb=>⟨by rw[aC (Nat.ne_of_lt (K7 b hb))];exact(hf b hb).1,(hf b hb).2⟩
 generalize UP:({ s with heap:=s.heap.push { cls:=.type "list",data:=.seq ([]:List Value).toArray } }:Shared)=s3 at I3 Cz CA
 have e3:s3.heap=s.heap.push { cls:=.type "list",data:=.seq ([]:List Value).toArray }:=by rw[←UP]
 have hfl:∀ b∈fp,b < s3.heap.objs.size:=fun b hb=>by rw[e3,Heap.size_push];exact Nat.lt_succ_of_lt (K7 b hb)
 have keep:∀ b o,s3.heap.get? b=some o→h₁.get? b=some o:=fun b o e=>CA.extBut b o (Nat.ne_of_lt (Heap.lt_size e)) (Heap.get?_push_of_some _ e)
 have J0:=ze (tk:=s3.toks+([]:List (Str×Value)).length) I3 S Hw hfl keep Cz
 have st1:tn 0 h₁:=T.keep 0 s.heap h₁ st fun b hb o e=>keep b o (by rw[e3];exact Heap.get?_push_of_some _ e)
 generalize hH3:upd H s.heap.objs.size (.lst [])=H3 at *
 generalize hY:g8 X N scope s3.heap.objs.size s3 H3 fp=Y at *
 have sub:∀ x c,(fN X.env scope.names []).lookup x=some c→X.env.cells.lookup x=some c :=
  m9 scope.names [] (fun n hn=>I.ok.has n (S.free _ hn rfl)) (fun x c z=>by cases z)
 have yT:∀{H':Hp},(∀ b∈fp,H' b=none)→∀ b∈fp,nP Y [] H' b:=fun {H'} hn b hb=>by
  subst hY
  obtain⟨f0,f1,f2,f3,f4,f5⟩:=Hw b hb
  refine⟨hn b hb,Nat.ne_of_lt (hfl b hb),fun z=>?_,.inl hb,fun x c e=>f4 x c (sub x c e),fun p hp=>absurd (show p∈([]:List (Addr×Obj)) from hp) (by simp)⟩
  rcases List.mem_cons.mp (I3.vj b z) with q | q
  ·exact f1 q
  ·exact f2 q
 have eA:Y.A=X.A:=by subst hY;rfl
 have eP:Y.prog=X.prog:=by subst hY;rfl
 have eW:Y.w=X.w:=by subst hY;rfl
 have eK:Y.K=X.K:=by subst hY;rfl
 have eC:Y.calm=true:=by subst hY;exact hc
 have eE:Y.env=compEnvC scope (fN X.env scope.names []) s3.heap.objs.size X.env:=by subst hY;rfl
 have Pj:Y.xe=fun _ _=>False:=by subst hY;rfl
 have W8:PG Y tg g:=by subst hY;exact hg _ _ _ _
 have W9:Ba Y ifs tt:=by subst hY;exact ht _ _ _ _
 have Xa:PE Y elt te:=by subst hY;exact he _ _ _ _
 have loop:codeAny (model X.prog X.w) X.A (.compLoop (.ListComp elt [⟨tg,iter,ifs,0⟩] scope pos) 0 (.ref it) (.ref s.heap.objs.size) (compEnvC scope (fN X.env scope.names []) s3.heap.objs.size X.env))
   (RR (.ref s.heap.objs.size) s3.heap.objs.size) { s3 with heap:=h₁,toks:=s3.toks+([]:List (Str×Value)).length }:=by
  refine zf (fun n s'=>∃ i ys τ H',Inv Y [] τ H' s'∧tn i s'.heap∧(∀ b∈fp,H' b=none)∧W i n ys τ H') ?_ m0 ⟨0,[],_,H3,J0,st1,fun b hb=>(Hw b hb).1,w0⟩
  rintro n s4 ⟨i,ys,τ,H4,I4,UQ,UR,w4⟩
  obtain⟨hDl,tr⟩:=turn i n ys τ H4 w4
  rcases tr with ⟨stop,qn⟩ | ⟨go,Nn,US,step⟩
  ·have d:=T.done Y eP eW eK eC i [] s4 τ H4 (fun _ _=>False) I4 (yT UR) UQ stop
   rw[eA] at d
   refine bY d fun r s5 ⟨hr,I5⟩=>?_
   subst hr
   have u:Inv X pins σ H4 s5:=by
    subst hY
    exact I3.Kz (ch:=fp) I5.os I5.base I5.hok I5.bare fun b hb=>⟨(Hw b hb).2.2.2.1,(Hw b hb).2.1,(Hw b hb).2.2.2.2.1,(Hw b hb).2.2.2.2.2⟩
   have hC:H4 s3.heap.objs.size=none:=by have z:=I5.free;rw[eE] at z;exact z
   obtain⟨m,hn,_⟩:=I5.loc
   rw[eE] at hn
   exact hRR _ _ H4 s5 m u (I3.nQ (Nat.le_refl _) hC) hn qn
  ·have d:=T.item Y eP eW eK eC i [] s4 τ H4 (fun _ _=>False) I4 (yT UR) UQ go
   rw[eA] at d
   refine bY d fun r s5 ⟨u,hr,h5⟩=>?_
   subst hr
   refine bY h5 fun _ s6 ⟨x,H6,I6,r6,y6,QA,Xb⟩=>?_
   have Xc:=I6.pinned (yT Xb) (T.obj _ _ QA)
   have q6:=W8 _ s6 τ H6 x u _ Xc r6 (step x H6 y6)
   rw[eP,eW,eA,eE,Pj] at q6
   refine bY q6 fun _ s7 ⟨σ7,H7,I7,q7⟩=>?_
   have q8:=W9 _ s7 σ7 H7 _ I7 q7
   rw[eP,eW,eA,eE,Pj] at q8
   refine bY q8 fun ok s8 ⟨H8,I8,q8⟩=>?_
   have again:∀{σ9:St}{H9:Hp}{s9:Shared}{zs:List V},Inv Y ([]++rm fp s6.heap) σ9 H9 s9→(∃ m',m' < n∧W (i+1) m' zs σ9 H9)→∃ m,m < n∧∃ i ys τ H',Inv Y [] τ H' s9∧tn i s9.heap∧(∀ b∈fp,H' b=none)∧W i m ys τ H':=fun {σ9 H9 s9 zs} I9 n9=>by
    obtain⟨m',hm,w9⟩:=n9
    refine⟨m',hm,i+1,zs,σ9,H9,I9.nR,T.keep _ _ _ QA fun b hb o e=>(I9.pin (b,o) (List.mem_append_right _ (List.mem_append_right _ (jK hb e)))).1,fun b hb=>?_,w9⟩
    obtain⟨o,e,d⟩:=T.obj _ _ QA b hb
    exact(I9.pin (b,o) (List.mem_append_right _ (List.mem_append_right _ (jK hb e)))).2.1
   cases ok with
   | false =>
    rw[if_neg Bool.false_ne_true]
    rw[if_neg Bool.false_ne_true] at q8
    exact again I8 (US _ _ _ q8)
   | true =>
    rw[if_pos rfl]
    rw[if_pos rfl] at q8
    have q9:=Xa _ s8 σ7 H8 _ I8 q8
    rw[eP,eW,eA,eE,Pj] at q9
    refine bY q9 fun y s9 ⟨yv,H9,I9,r9,Xd,Xe,q9⟩=>?_
    have ap:=cT (X:=Y) _ s9 σ7 H9 (.ref s.heap.objs.size) [yv] (.ref s.heap.objs.size) [y] (fun _ UT=>Nn (ys++[yv]) σ7 UT) I9 rfl (.cons r9 .nil) ⟨_,ys,yv,rfl,rfl,Xd,Xe,q9⟩
    rw[eP,eW,eA,Pj] at ap
    exact bY ap fun _ J6 ⟨_,UT,Xf,_,Xg⟩=>again Xf (US _ _ _ Xg)
 subst UP
 exact codeAny_compStart_list loop (T.self _ 0 _ _ _ st1 loop)
theorem fS (hc:X.calm=true) (S:bw X.N X.env.scope N nv js scope) (hi:PI X tg iter wi) (hg:∀ C s H fp,PG (g8 X N scope C s H fp) tg g) (ht:∀ C s H fp,Ba (g8 X N scope C s H fp) ifs tt)
  (he:∀ C s H fp,PE (g8 X N scope C s H fp) elt te) (hs:∀ x,foldedSetIterable iter X.env x=pure x:=by intro _;rfl) :
  PE X (.ListComp elt [⟨tg,iter,ifs,0⟩] scope pos) (Gw wi g tt te nv js):=by
 intro pins s σ H Q I h
 rw[eval_ListComp]
 refine wpAny_comprehension_free (use:=none) rfl hs (mL fun n hn=>I.ok.has n (S.free _ hn rfl)) S.kind S.loc (bY (hi pins s σ H _ I h) fun v s1 h1=>bY h1 fun itv s2 h2=>?_)
 obtain⟨it,fp,tn,J,H2,e,I2,T,st2,f2,hR⟩:=h2
 subst e
 refine rB (RR:=fun acc C=>compPost (model X.prog X.w) X.A X.xe none (EP X pins σ Q) acc C) hc S hg ht he I2 T st2 f2 hR ?_
 intro D C H' s' m I' fC hn q
 refine⟨m,hn,fun h' sb=>⟨.ref D,H',?_,rfl,q⟩⟩
 exact I'.turned (t':=s'.toks) (fun b o hb e=>(sb.2 b hb).trans e) fC.1 fC.2.1 fC.2.2.2.1 fC.2.2.2.2.1 fC.2.2.2.2.2
theorem Ey {i:Nat}{x:Str}{pos' spos:Pos} (hc:X.calm=true) (hN:X.N.Nodup) (hi':X.N[i]? = some x) (hx:X.env.scope.names.lookup x=some .local) (S:bw X.N X.env.scope N nv js scope) (hi:PI X tg iter wi) (hg:∀ C s H fp,PG (g8 X N scope C s H fp) tg g) (ht:∀ C s H fp,Ba (g8 X N scope C s H fp) ifs tt)
  (he:∀ C s H fp,PE (g8 X N scope C s H fp) elt te) (hsw:swapsWith (.ListComp elt [⟨tg,iter,ifs,0⟩] scope pos) (some (.Name x pos')) spos.line X.env=pure true:=by rfl) (hs:∀ x,foldedSetIterable iter X.env x=pure x:=by intro _;rfl) :
  PS X (.Assign [.Name x pos'] (.ListComp elt [⟨tg,iter,ifs,0⟩] scope pos) spos) (Eh (Gw wi g tt te nv js) (gv i)):=by
 intro pins s σ H D I h
 rw[exec_Assign_Name_used _ _ _ _ hsw]
 refine wpAny_bind (wpAny_standAt (wpAny_bind ?_))
 show wpAny _ X.A (do let _ ←comprehension (.ListComp elt [⟨tg,iter,ifs,0⟩] scope pos) scope X.env _ (newList []) false (eval iter X.env) (some (assign (.Name x pos') X.env))) _ _ s
 refine wpAny_bind (wpAny_mono (wpAny_comprehension_free (use:=some (assign (.Name x pos') X.env)) (Q:=fun _ s'=>SP X pins D .next s') rfl hs (mL fun n hn=>I.ok.has n (S.free _ hn rfl)) S.kind S.loc
  (bY (hi pins s σ H _ I h) fun v s1 h1=>bY h1 fun itv s2 h2=>?_)) (fun _ s' hq=>wpAny_pure (wpAny_pure hq)) fun _ _ e=>e)
 obtain⟨it,fp,tn,J,H2,e,I2,T,st2,f2,hR⟩:=h2
 subst e
 refine rB (RR:=fun acc C=>compPost (model X.prog X.w) X.A X.xe (some (assign (.Name x pos') X.env)) (fun _ s'=>SP X pins D .next s') acc C) hc S hg ht he I2 T st2 f2 hR ?_
 intro Dl C H' s' m I' fC hn q
 show wpAny _ X.A (assign (.Name x pos') X.env (.ref Dl)) _ _ _
 refine wpAny_assign_Name (uw I' hN hi' (.inl hx) (v:=.ref Dl) rfl (fun s2 I3 ch=>?_) (.inr hx))
 obtain⟨a,sb,ha⟩:=ch
 have Xh:C≠a:=by
  rcases ha with rfl | ha
  ·exact fC.2.1
  ·exact(fC.2.2.2.2.1 x a ha).symm
 refine⟨m,hn.sameBut sb Xh,fun h' sb'=>⟨_,H',?_,q⟩⟩
 exact I3.turned (t':=s2.toks) (fun b o hb e=>(sb'.2 b hb).trans e) fC.1 fC.2.1 fC.2.2.2.1 fC.2.2.2.2.1 fC.2.2.2.2.2
end
section
variable {prog:Program}{w:World}{A:Around}{E:Value→Shared→Prop}{s:Shared}
end
section
variable {X:Cx}{e:Expr}{te:TE}
end
def sg (c:Nat):Str:=⟨#[c]⟩
def J7 (z:Str):It:=⟨fun i _=>i < z.cps.size,fun i H x H'=>H'=H∧∃ c,z.cps[i]? = some c∧x=.str (sg c),fun i _=>z.cps.size≤i⟩
theorem CB {P:Program}{w:World}{K:W.Frag}{tg:Expr} (it:Addr) (z:Str) (t:Tok):Turn P w K tg (J7 z) [it] it (fun i h=>h.IsStrIter it (strIterType z) z t i) where
 mem:=by simp
 obj:=fun i h st b hb=>by
  have e:b=it:=by simpa using hb
  subst e
  obtain⟨o,e,c,d⟩:=st
  exact⟨o,e,fun v z=>by rw[d] at z;cases z⟩
 keep:=fun i h h' st k=>by
  obtain⟨o,e,r⟩:=st
  exact⟨o,k it (by simp) o e,r⟩
 item:=by
  intro X hP hw hK hc i pins s σ H E I hf st hg
  subst hP hw hK
  obtain⟨f0,f1,f2,f3,f4,f5⟩:=hf it (by simp)
  have hi:i < z.cps.size:=hg
  have hx:z.cps[i]? = some z.cps[i]:=by simp[hi]
  cases ha:z.cps.all (· < 128) with
  | true =>
   have et:strIterType z = "str_ascii_iterator" := by simp only[strIterType,ha,if_true]
   rw[et] at st ⊢
   refine wpAny_pyNext_ascii_item st hx fun h' st' sb=>?_
   have I1:Inv X pins σ H { s with heap:=h',toks:=s.toks+1 }:=I.turned (fun b o hb e=>(sb.2 b hb).trans e) f0 f1 f3 f4 f5
   obtain⟨o,e,c,d⟩:=id st'
   exact⟨_,rfl,uz (s:={ s with heap:=h',toks:=s.toks+1 }) e c d (by decide) ⟨.str (sg z.cps[i]),H,I1,⟨_,rfl⟩,⟨rfl,_,hx,rfl⟩,st',fun b hb=>(hf b hb).1⟩⟩
  | false =>
   have et:strIterType z = "str_iterator" := by simp only[strIterType,ha,Bool.false_eq_true,if_false]
   rw[et] at st ⊢
   refine wpAny_pyNext_wide_item st hx fun h' st' sb=>?_
   have I1:Inv X pins σ H { s with heap:=h',toks:=s.toks+1 }:=I.turned (fun b o hb e=>(sb.2 b hb).trans e) f0 f1 f3 f4 f5
   obtain⟨o,e,c,d⟩:=id st'
   exact⟨_,rfl,uz (s:={ s with heap:=h',toks:=s.toks+1 }) e c d (by decide) ⟨.str (sg z.cps[i]),H,I1,⟨_,rfl⟩,⟨rfl,_,hx,rfl⟩,st',fun b hb=>(hf b hb).1⟩⟩
 done:=by
  intro X hP hw hK hc i pins s σ H E I hf st hg
  subst hP hw hK
  obtain⟨f0,f1,f2,f3,f4,f5⟩:=hf it (by simp)
  have hi:z.cps.size≤i:=hg
  have hx:z.cps[i]? = none:=by simp[hi]
  cases ha:z.cps.all (· < 128) with
  | true =>
   have et:strIterType z = "str_ascii_iterator" := by simp only[strIterType,ha,if_true]
   rw[et] at st
   exact wpAny_pyNext_ascii_end (I.ok.hd hc) st hx fun h' eb=>⟨rfl,I.turned (t':=s.toks) (fun b o hb e=>eb b o hb e) f0 f1 f3 f4 f5⟩
  | false =>
   have et:strIterType z = "str_iterator" := by simp only[strIterType,ha,Bool.false_eq_true,if_false]
   rw[et] at st
   exact wpAny_pyNext_wide_end (I.ok.hd hc) st hx fun h' eb=>⟨rfl,I.turned (t':=s.toks) (fun b o hb e=>eb b o hb e) f0 f1 f3 f4 f5⟩
 self:=by
  intro A i s Q E st h
  cases ha:z.cps.all (· < 128) with
  | true =>
   have et:strIterType z = "str_ascii_iterator" := by simp only[strIterType,ha,if_true]
   rw[et] at st
   exact wpAny_pyIter_striter_ascii st h
  | false =>
   have et:strIterType z = "str_iterator" := by simp only[strIterType,ha,Bool.false_eq_true,if_false]
   rw[et] at st
   exact wpAny_pyIter_striter_wide st h
section
variable {X:Cx}{tg:Expr}
def QB (tl:TE):TI:=fun σ H R=>tl σ H fun x H1=>∃ z,x=.str z∧R (J7 z) H1
theorem vG {l:Expr}{tl:TE} (hl:PE X l tl):PI X tg l (QB tl):=by
 intro pins s σ H R I h
 refine bY (hl pins s σ H _ I h) fun v s1 ⟨x,H1,I1,r1,q1⟩=>?_
 obtain⟨z,e,q⟩:=q1
 subst e
 obtain⟨t,rfl⟩:=r1
 refine wpAny_pyIter_strU ?_
 refine⟨s1.heap.objs.size,[s1.heap.objs.size],_,_,H1,rfl,I1.kept (t':=s1.toks) fun b o e=>Heap.get?_push_of_some _ e,CB _ z t,⟨_,Heap.get?_push_size _ rfl,rfl,rfl⟩,fun b hb=>?_,q⟩
 have e:b=s1.heap.objs.size:=by simpa using hb
 subst e
 exact I1.nQ (Nat.le_refl _) (I1.hok.fresh (Nat.le_refl _))
end
theorem Ak {z:Str}{g:TG}{tb:TS}{D:Ends}{σ:St}{H:Hp} (Pv:Nat→St→Hp→Prop) (h0:Pv 0 σ H)
  (hs:∀ i c σ H,z.cps.toList[i]? = some c→Pv i σ H→g (.str (sg c)) σ H fun σ2 H2=>tb { D with nx:=Pv (i+1),ct:=Pv (i+1),bk:=D.nx } σ2 H2) (hd:∀ σ H,Pv z.cps.toList.length σ H→D.nx σ H) :
  ∃ W:Nat→Nat→St→Hp→Prop,(∃ m,W 0 m σ H)∧∀ i m σ H,W i m σ H →
   ((J7 z).stop i H∧D.nx σ H)∨((J7 z).go i H∧∃ N:St→Hp→Prop,(∀ σ' H',N σ' H'→∃ m',m' < m∧W (i+1) m' σ' H')∧∀ x H',(J7 z).Ce i H x H'→g x σ H' fun σ2 H2=>tb { D with nx:=N,ct:=N,bk:=D.nx } σ2 H2):=by
 refine⟨fun i m σ H=>m=z.cps.size - i∧i≤z.cps.size∧Pv i σ H,⟨z.cps.size,by simp,Nat.zero_le _,h0⟩,?_⟩
 rintro i m σ H ⟨rfl,hi,p⟩
 by_cases hlt:i < z.cps.size
 ·refine .inr ⟨hlt,Pv (i+1),fun σ' H' p'=>⟨z.cps.size - (i+1),by omega,rfl,hlt,p'⟩,fun x H' y=>?_⟩
  obtain⟨e,c,hc,ex⟩:=y
  subst e ex
  exact hs i c σ _ (by simpa using hc) p
 ·have e:i=z.cps.size:=by omega
  subst e
  exact .inl ⟨Nat.le_refl _,hd σ H (by simpa using p)⟩
theorem jt {K:W.Frag}{a:Addr}{xs:List V}{g:TG}{tt:TT}{te:TE}{Q:VK}{D:Addr}{τ:St}{H:Hp} (Pv:Nat→List V→St→Hp→Prop) (h0:Pv 0 [] τ (upd H D (.lst [])))
  (hl:∀ i ys τ H,i≤xs.length→Pv i ys τ H→aP K H a xs∧H D=some (.lst ys))
  (hs:∀ i x ys τ H,xs[i]? = some x→Pv i ys τ H→g x τ H fun τ2 H2=>tt τ2 H2 fun b H3=>if b=true then te τ2 H3 fun y H4=>H4 D=some (.lst ys)∧ys.length < sizeLine∧Pv (i+1) (ys++[y]) τ2 (upd H4 D (.lst (ys++[y]))) else Pv (i+1) ys τ2 H3)
  (hd:∀ ys τ H,Pv xs.length ys τ H→Q (.ref D) H) :
  nT (GX K a) g tt te Q D τ H:=by
 refine⟨fun i m ys τ H=>m=xs.length - i∧i≤xs.length∧Pv i ys τ H,⟨xs.length,by simp,Nat.zero_le _,h0⟩,?_⟩
 rintro i m ys τ H ⟨rfl,hi,p⟩
 obtain⟨q,hD⟩:=hl i ys τ H hi p
 refine⟨hD,?_⟩
 by_cases hlt:i < xs.length
 ·refine .inr ⟨⟨xs,xs[i],q,by simp[hlt]⟩,Pv (i+1),fun zs σ' H' p'=>⟨xs.length - (i+1),by omega,rfl,hlt,p'⟩,fun x H' y=>?_⟩
  obtain⟨e,y⟩:=y
  subst e
  exact hs i x ys τ _ (y xs q) p
 ·have e:i=xs.length:=by omega
  subst e
  exact .inl ⟨⟨xs,q,Nat.le_refl _⟩,hd ys τ H p⟩
theorem xy {z:Str}{g:TG}{tt:TT}{te:TE}{Q:VK}{D:Addr}{τ:St}{H:Hp} (Pv:Nat→List V→St→Hp→Prop) (h0:Pv 0 [] τ (upd H D (.lst [])))
  (hl:∀ i ys τ H,i≤z.cps.toList.length→Pv i ys τ H→H D=some (.lst ys))
  (hs:∀ i c ys τ H,z.cps.toList[i]? = some c→Pv i ys τ H→g (.str (sg c)) τ H fun τ2 H2=>tt τ2 H2 fun b H3=>if b=true then te τ2 H3 fun y H4=>H4 D=some (.lst ys)∧ys.length < sizeLine∧Pv (i+1) (ys++[y]) τ2 (upd H4 D (.lst (ys++[y]))) else Pv (i+1) ys τ2 H3)
  (hd:∀ ys τ H,Pv z.cps.toList.length ys τ H→Q (.ref D) H) :
  nT (J7 z) g tt te Q D τ H:=by
 have hz:z.cps.toList.length=z.cps.size:=by simp
 refine⟨fun i m ys τ H=>m=z.cps.size - i∧i≤z.cps.size∧Pv i ys τ H,⟨z.cps.size,by simp,Nat.zero_le _,h0⟩,?_⟩
 rintro i m ys τ H ⟨rfl,hi,p⟩
 refine⟨hl i ys τ H (by omega) p,?_⟩
 by_cases hlt:i < z.cps.size
 ·refine .inr ⟨hlt,Pv (i+1),fun zs σ' H' p'=>⟨z.cps.size - (i+1),by omega,rfl,hlt,p'⟩,fun x H' y=>?_⟩
  obtain⟨e,c,hc,ex⟩:=y
  subst e ex
  exact hs i c ys τ _ (by simpa using hc) p
 ·have e:i=z.cps.size:=by omega
  subst e
  exact .inl ⟨Nat.le_refl _,hd ys τ H (by rw[hz];exact p)⟩
theorem zg {lo:Int}{n:Nat}{g:TG}{tt:TT}{te:TE}{Q:VK}{D:Addr}{τ:St}{H:Hp} (Pv:Nat→List V→St→Hp→Prop) (h0:Pv 0 [] τ (upd H D (.lst [])))
  (hl:∀ i ys τ H,i≤n→Pv i ys τ H→H D=some (.lst ys))
  (hs:∀ i ys τ H,i < n→Pv i ys τ H→g (.int (lo+i)) τ H fun τ2 H2=>tt τ2 H2 fun b H3=>if b=true then te τ2 H3 fun y H4=>H4 D=some (.lst ys)∧ys.length < sizeLine∧Pv (i+1) (ys++[y]) τ2 (upd H4 D (.lst (ys++[y]))) else Pv (i+1) ys τ2 H3)
  (hd:∀ ys τ H,Pv n ys τ H→Q (.ref D) H) :
  nT (Gp lo n) g tt te Q D τ H:=by
 refine⟨fun i m ys τ H=>m=n - i∧i≤n∧Pv i ys τ H,⟨n,by simp,Nat.zero_le _,h0⟩,?_⟩
 rintro i m ys τ H ⟨rfl,hi,p⟩
 refine⟨hl i ys τ H hi p,?_⟩
 by_cases hlt:i < n
 ·refine .inr ⟨hlt,Pv (i+1),fun zs σ' H' p'=>⟨n - (i+1),by omega,rfl,hlt,p'⟩,fun x H' y=>?_⟩
  obtain⟨e,y⟩:=y
  subst e y
  exact hs i ys τ _ hlt p
 ·have e:i=n:=by omega
  subst e
  exact .inl ⟨Nat.le_refl _,hd ys τ H p⟩
theorem Al:∀{zs:List Str}{us:List Value},Vals (zs.map V.str) us→StrsAre us zs
 | [],_,r=>by cases r;exact .nil
 | z :: zs,_,r=>by
  cases r with
  | cons r1 r2 =>
   obtain⟨t,e⟩:=r1
   subst e
   exact .cons z t (Al r2)
section
variable {X:Cx}
def rJoin (K:W.Frag):V→List V→Hp→VK→Prop:=fun x vs H Q=>∃ z p zs,x=.str z∧vs=[.ref p]∧aP K H p (zs.map V.str)∧(zs.map (·.length)).sum+zs.length * z.length≤16777216∧Q (.str (Txt.join z zs)) H
theorem Ez:Hi X "str.join" (rJoin X.K):=by
 intro pins s σ H x vs v us Q I rx rv h
 obtain⟨z,p,zs,rfl,rfl,hq,hz,q⟩:=h
 obtain⟨t,rfl⟩:=rx
 obtain⟨u,rfl,ru⟩:=rv.one
 cases ru
 obtain⟨its,r,pl,_⟩:=I.list hq
 exact join_list pl.isList (by simpa using Al r) hz fun t' k=>⟨.str _,H,I.tok k,⟨t',rfl⟩,q⟩
theorem xA:cD X (.builtin "isinstance") (fun xs H Q=>∃ x c t b,xs=[x,c]∧nS X.K H x t∧((∃ n,c=.ty n∧W.kitOne X.K t (.type n)=some b)∨(∃ a,c=.ref a∧W.kitOne X.K t (.ref a)=some b))∧Q (.bl b) H):=by
 intro pins s σ H xs us Q I r h
 obtain⟨x,c,t,b,rfl,ty,hc,q⟩:=h
 obtain⟨u,w',rfl,ru,rw'⟩:=vals2 r
 rcases hc with ⟨n,rfl,e⟩ | ⟨a,rfl,e⟩
 ·cases rw'
  exact uB I ru ty e fun tk=>⟨.bl b,H,I.tok tk,rfl,q⟩
 ·cases rw'
  exact uB I ru ty e fun tk=>⟨.bl b,H,I.tok tk,rfl,q⟩
end
section
variable {X:Cx}
def K8 (K:W.Frag):R2:=fun x y H Q=>∃ a b xs,x=.ref a∧y=.ref b∧aP K H a xs∧aP K H b []∧Q (.bl (!xs.isEmpty)) H
theorem Hx (hu:X.A.units < cLine):jL X (compareOp .NotEq) (K8 X.K):=by
 intro pins s σ H x y v u Q I rx ry h
 obtain⟨a,b,xs,rfl,rfl,ha,hb,q⟩:=h
 cases rx
 cases ry
 obtain⟨its,r1,p1,_⟩:=I.list ha
 obtain⟨its2,r2,p2,_⟩:=I.list hb
 cases r2
 show wpAny _ _ (richCompare .NotEq (.ref a) (.ref b)) _ _ _
 cases xs with
 | nil =>
  cases r1
  refine SeqAt.RcNeAt.lists (e:=fun _=>true) p1.isList p2.isList rfl hu (fun j h1 _=>absurd h1 (by simp)) _ _ _ _ ⟨.bl false,H,I,?_,q⟩
  simp[RelV]
 | cons x xs =>
  cases r1 with
  | cons r rr =>
   exact SeqAt.RcNeAt.lists_lengths p1.isList p2.isList (by simp) hu _ _ _ _ ⟨.bl true,H,I,rfl,q⟩
end
section
variable {X:Cx} (K:W.Frag) (h:X.K=K)
include h
theorem CC:JZ X (Hj K):=by subst h;exact Et
theorem EA:JZ X (Hl K):=by subst h;exact Ho
theorem rC:Pf X (K3 K):=by subst h;exact Eu
theorem CD:Hi X "str.join" (rJoin K):=by subst h;exact Ez
theorem bO:cD X (.builtin "len") (fun xs H Q=>∃ p ys,xs=[.ref p]∧(aP K H p ys∨bh K H p ys)∧Q (.int ys.length) H):=by subst h;exact vE
theorem jN:cD X (.builtin "isinstance") (fun xs H Q=>∃ x c t b,xs=[x,c]∧nS K H x t∧((∃ n,c=.ty n∧W.kitOne K t (.type n)=some b)∨(∃ a,c=.ref a∧W.kitOne K t (.ref a)=some b))∧Q (.bl b) H):=by subst h;exact xA
theorem tR:cD X (.type "list") (fun xs H Q=>∃ p ys,xs=[.ref p]∧(aP K H p ys∨bh K H p ys)∧∀ l,H l=none→Q (.ref l) (upd H l (.lst ys))):=by subst h;exact vF
theorem rD:cD X (.type "tuple") (fun xs H Q=>∃ p ys,xs=[.ref p]∧((aP K H p ys∧∀ l,H l=none→Q (.ref l) (upd H l (.tup ys)))∨(bh K H p ys∧Q (.ref p) H))):=by subst h;exact tQ
theorem EB (hu:X.A.units < cLine):jL X (compareOp .NotEq) (K8 K):=by subst h;exact Hx hu
theorem ck {tg l:Expr}{tl:TE} (hl:PE X l tl):PI X tg l (Ab K tl):=by subst h;exact Ei hl
theorem EC {tg l:Expr}{tl:TE} (hl:PE X l tl):PI X tg l (KN K tl):=by subst h;exact GZ hl
theorem dG {es:List Expr}{k:Nat}{pos:Pos}{t:Gn} (n:Nat) (hc:X.calm=true) (hh:KH X es t)
 (hn:(assignEach es X.env).length=n:=by rfl) (hst:(assignEach es X.env).findIdx? (·.1)=none:=by rfl):PG X (.Tuple es k pos) (KL K n t):=by subst h;exact GV hc hh hn hst
theorem aU {e:Expr}{ta:TE}{f:Str}{pos:Pos} (he:PE X e ta) (hb:attributeBase e f X.env (eval e X.env)=eval e X.env):PE X (.Attribute e f pos) (KW K ta f):=by subst h;exact Hf he hb
theorem fO {o e:Expr}{es:List Expr}{to:TE}{t:TA}{name:Str}{apos cpos:Pos}{T id:String}{r:V→List V→Hp→VK→Prop} (pa:PlainAttrs T) (slot:Slot T name id) (hty:typeOf (.builtin id)=pure (.type "method_descriptor")) (hm:Hi X id r) (ho:PE X o to) (ha:PA X (e :: es) t)
 (hbase:attributeBase o name X.env (eval o X.env)=eval o X.env:=by rfl)
 (hfew:((backTo cpos (starEach (e :: es) X.env)).all (fun x=>!x.1) && (backToKw cpos (keywordEach [] X.env)).all (fun x=>x.1.isSome)
  && decide ((e :: es).length+([]:List Keyword).length+(if ([]:List Keyword).isEmpty then 0 else 1) < 30))=true:=by rfl)
 (hline:(apos.endLine == cpos.line)=true:=by rfl) (hs:starEach (e :: es) X.env=(false,eval e X.env) :: starEach es X.env:=by rfl) (hplain:(backTo cpos (starEach es X.env)).any (·.1)=false:=by rfl) :
 PE X (.Call (.Attribute o name apos) (e :: es) [] cpos) (UN K T r to t):=by subst h;exact K4 pa slot hty hm ho ha hbase hfew hline hs hplain
end
section
variable {X:Cx}
theorem lK {x:Str}{z:Str}{t:Tok}{pos:Pos} (hg:Gl X x) (hm:X.mg x=some (.str z t)) (hd:(x == ("__debug__" : Str))=false:=by decide):PE X (.Name x pos) (tC (.str z)):=vo hg hm ⟨t,rfl⟩ hd
theorem nU {x:Str}{a:Addr}{pos:Pos} (hg:Gl X x) (hm:X.mg x=some (.ref a)) (hd:(x == ("__debug__" : Str))=false:=by decide):PE X (.Name x pos) (tC (.ref a)):=vo hg hm rfl hd
theorem Hy (n:String) {x:Str}{pos:Pos} (hg:Gl X x) (hm:X.mg x=none) (hv:bootBuiltins x=some (.type n)) (hn:x ≠ "__name__" := by decide) (hd:(x == ("__debug__" : Str))=false:=by decide):PE X (.Name x pos) (tC (.ty n)):=Ef hg hm hv rfl hn hd
end
structure zh (K:W.Frag) (x qual:Str) (st:Stmt) (f:Addr) (fd:FuncData) (dV:Value):Prop where
 ex:∃(oc:Value) (od:Option Addr) (kV doc pm:Value) (an:Option Addr) (cdv ct:Value) (osl:Array (Option Value)),
  fd=W.fnOf x qual (bJ st) (bC st) (au st) dV kV doc pm an cdv ct∧K.lookup f=some ⟨oc,od,.func fd,osl⟩∧W.codeIn K cdv qual=true
 kp:W.keepIn K (.ref f)=true
section
variable {P:Program}{w:World}{K:W.Frag}{mg:Str→Option Value}{base:Heap}
theorem zh.ok {x qual:Str}{st:Stmt}{f:Addr}{fd:FuncData}{dV:Value}{N ps:List Str}{k:Nat}{sp:Sp} (F:zh K x qual st f fd dV) (S:aH N ps (au st)) (len:∀ vs H Q E,sp vs H Q E→vs.length=ps.length)
  (hbody:∀(cdv:Value) (A:Around) (outer:List Env) (s:Shared) (H:Hp) (vs:List V) (Q:VK) (E:XK),dR k (A.deeper (envOfC qual (au st) s.heap.objs.size f cdv))→sp vs H Q E →
   ∃ t,AU (zb bz P w K mg base N qual (au st) f cdv A outer s H E).JY (bC st) t∧t { nx:=fun _ H'=>Q .non H',rt:=Q } (start N vs) H):aE P w K mg base bz (k+1) f fd ps sp:=by
 obtain⟨oc,od,kV,doc,pm,an,cdv,ct,osl,rfl,lk,hcd⟩:=F.ex
 refine Gu lk hcd S len fun A outer s H vs Q E hr D5=>?_
 obtain⟨t,h,q⟩:=hbody cdv A outer s H vs Q E hr D5
 exact⟨t,h.JY,q⟩
theorem qR {x qual:Str}{st:Stmt}{f:Addr}{oc dV:Value}{od an:Option Addr}{osl:Array (Option Value)}{kV doc pm cdv ct:Value} (l:K.lookup f=some ⟨oc,od,.func (W.fnOf x qual (bJ st) (bC st) (au st) dV kV doc pm an cdv ct),osl⟩)
 (c:W.codeIn K cdv qual=true) (k:W.keepIn K (.ref f)=true):zh K x qual st f (W.fnOf x qual (bJ st) (bC st) (au st) dV kV doc pm an cdv ct) dV:=⟨⟨oc,od,kV,doc,pm,an,cdv,ct,osl,rfl,l,c⟩,k⟩
end
section
variable {X:Cx}
theorem qe:∀{bs:List Bool}{us:List Value}{i:Nat}{u:Value},Vals (bs.map V.bl) us→us[i]? = some u→u=.bool (bs.getD i true)
 | [],_,_,_,r,e=>by cases r;simp at e
 | b :: bs,_,i,u,r,e=>by
  cases r with
  | cons r1 r2 =>
   cases i with
   | zero=>simp at e;subst e;exact r1
   | succ i=>simp at e;simpa using qe r2 e
theorem all_range (bs:List Bool):((List.range bs.length).all fun i=>bs.getD i true)=bs.all id:=by
 rw[Bool.eq_iff_iff,List.all_eq_true,List.all_eq_true]
 constructor
 ·intro h b hb
  obtain⟨i,hi,rfl⟩:=List.mem_iff_getElem.mp hb
  have:=h i (by simpa using hi)
  simpa [List.getD,hi] using this
 ·intro h i hi
  have hi':i < bs.length:=by simpa using hi
  have:=h bs[i] (List.getElem_mem hi')
  simpa [List.getD,hi'] using this
def K9 (K:W.Frag):List V→Hp→VK→Prop:=fun xs H Q=>∃(p:Addr) (bs:List Bool),xs=[.ref p]∧aP K H p (bs.map V.bl)∧Q (.bl (bs.all id)) H
theorem CF (hc:X.calm=true):cD X (.builtin "all") (K9 X.K):=by
 intro pins s σ H xs us Q I r h
 obtain⟨p,bs,rfl,hq,q⟩:=h
 obtain⟨u,rfl,ru⟩:=vals1 r
 cases ru
 obtain⟨its,rv,pl,hz⟩:=I.list hq
 have hlen:=rv.length
 rw[List.length_map] at hlen
 have hpl:p < s.heap.objs.size:=by obtain⟨o,ho,_⟩:=pl.isList;exact Heap.lt_size ho
 refine call_all_walk (wpAny_pyIter_list pl.isList ⟨s.heap.objs.size,_,_,_,_,_,fun i=>bs.getD i true,rfl,Walks.list (A:=X.A.in1) (show X.A.in1.handled=none from I.ok.hd hc) s.heap.objs.size p (Nat.ne_of_lt hpl) its.toArray,⟨⟨_,Heap.get?_push_size _ rfl,rfl,rfl⟩,pl.isList.at fun o e=>Heap.get?_push_of_some _ e⟩,?_,?_⟩)
 ·intro i v s' Q' E' hv hq'
  have e:its[i]? = some v:=by simpa using hv
  rw[qe rv e]
  exact wpAny_truthy_bool hq'
 ·intro h' tk hk
  have f0:=I.nQ (Nat.le_refl s.heap.objs.size) (I.hok.fresh (Nat.le_refl _))
  have I2:Inv X pins σ H { s with heap:=s.heap.push { cls:=.type "list_iterator",data:=.fields #[.ref p,rawInt 0] } }:=I.kept (t':=s.toks) fun b o e=>Heap.get?_push_of_some _ e
  have I3:=I2.turned (h':=h') (t':=tk) (it:=s.heap.objs.size) (fun b o hb e=>hk b o (by simpa using hb) e) f0.1 f0.2.1 f0.2.2.2.1 f0.2.2.2.2.1 f0.2.2.2.2.2
  refine⟨.bl (bs.all id),H,I3,?_,q⟩
  show Value.bool _=Value.bool _
  rw[List.size_toArray,←hlen,all_range]
theorem uH (K:W.Frag) (h:X.K=K) (hc:X.calm=true):cD X (.builtin "all") (K9 K):=by subst h;exact CF hc
def Hz:V→List V→Hp→VK→Prop:=fun x vs H Q=>∃(z:Str) (c:Nat),x=.str z∧vs=[.str (sg c)]∧Q (.int (PyProof.Rows.cnt c z.cps.toList)) H
theorem xB:Hi X "str.count" Hz:=by
 intro pins s σ H x vs v us Q I rx rv h
 obtain⟨z,c,rfl,rfl,q⟩:=h
 obtain⟨t,rfl⟩:=rx
 obtain⟨u,rfl,ru⟩:=rv.one
 obtain⟨t',rfl⟩:=ru
 exact SC.count ⟨.int _,H,I.tok _,⟨_,rfl⟩,by
  have e:Txt.count z (sg c)=PyProof.Rows.cnt c z.cps.toList:=PyProof.Rows.count_is z c
  rw[e];exact q⟩
theorem Am:∀{l:List Nat}{c:Nat},l.Nodup→c∈l→PyProof.Rows.cnt c l=1
 | [],_,_,h=>by cases h
 | n :: r,c,nd,h=>by
  rw[PyProof.Rows.cnt_cons]
  obtain⟨n1,n2⟩:=List.nodup_cons.mp nd
  by_cases e:n=c
  ·subst e
   rw[if_pos rfl,PyProof.Rows.cnt_none _ _ n1];rfl
  ·rw[if_neg e,Am n2 ((List.mem_cons.mp h).resolve_left (Ne.symm e))];rfl
def i7:List V→List V→Bool
 | [],[]=>true
 | x :: xs,y :: ys=>qd x y && i7 xs ys
 | _,_=>false
theorem ju:∀{x:V},bW x=true→qd x x=true
 | .non,_=>rfl
 | .bl b,_=>by cases b <;> rfl
 | .int i,_=>by simp[qd]
 | .str z,_=>by simp[qd]
theorem pF:∀{xs:List V},xs.all bW=true→i7 xs xs=true
 | [],_=>rfl
 | x :: xs,h=>by
  rw[List.all_cons,Bool.and_eq_true] at h
  unfold i7
  rw[ju h.1,pF h.2];rfl
def D6 (xs ys:List V) (j:Nat):Bool:=match xs[j]?,ys[j]? with
 | some x,some y=>qd x y
 | _,_=>true
theorem jO:∀(xs ys:List V),((List.range (min xs.length ys.length)).all (D6 xs ys) && xs.length == ys.length)=i7 xs ys
 | [],[]=>rfl
 | [],_ :: _=>by simp[i7]
 | _ :: _,[]=>by simp[i7]
 | x :: xs,y :: ys=>by
  have ih:=jO xs ys
  have e:min (x :: xs).length (y :: ys).length=min xs.length ys.length+1:=by rw[List.length_cons,List.length_cons];omega
  rw[e,List.range_succ_eq_map,List.all_cons,List.all_map]
  have e2:(D6 (x :: xs) (y :: ys) ∘ Nat.succ)=D6 xs ys:=by funext j;simp[D6]
  rw[e2]
  unfold i7
  rw[←ih]
  have e3:((x :: xs).length == (y :: ys).length)=(xs.length == ys.length):=by simp
  rw[e3]
  show(qd x y && _ && _)=_
  rw[Bool.and_assoc]
def QC (K:W.Frag):R2:=fun x y H Q=>∃ a b xs ys,x=.ref a∧y=.ref b∧bh K H a xs∧bh K H b ys∧xs.all bW=true∧ys.all bW=true∧Q (.bl (!i7 xs ys)) H
def QD (K:W.Frag):R2:=fun x y H Q=>∃ a b xs ys,x=.ref a∧y=.ref b∧bh K H a xs∧bh K H b ys∧xs.all bW=true∧ys.all bW=true∧Q (.bl (i7 xs ys)) H
theorem items_eqAt {A:Around}{s:Shared}{xs ys:List V}{us ws:List Value} (r1:Vals xs us) (r2:Vals ys ws) (f1:xs.all bW=true) (f2:ys.all bW=true) (j:Nat) (h1:j < us.toArray.size) (h2:j < ws.toArray.size) :
  SeqAt.EqAt A s us.toArray[j] ws.toArray[j] (D6 xs ys j):=by
 have hl1:=r1.length
 have hl2:=r2.length
 have hj1:j < xs.length:=by rw[hl1];simpa using h1
 have hj2:j < ys.length:=by rw[hl2];simpa using h2
 obtain⟨u,eu,ru⟩:=r1.get (i:=j) (x:=xs[j]) (by simp[hj1])
 obtain⟨w,ew,rw'⟩:=r2.get (i:=j) (x:=ys[j]) (by simp[hj2])
 have e1:us.toArray[j]=u:=by
  have:=List.getElem?_eq_some_iff.mp eu
  obtain⟨_,q⟩:=this
  simpa using q
 have e2:ws.toArray[j]=w:=by
  have:=List.getElem?_eq_some_iff.mp ew
  obtain⟨_,q⟩:=this
  simpa using q
 rw[e1,e2]
 have e3:D6 xs ys j=qd xs[j] ys[j]:=by simp[D6,hj1,hj2]
 rw[e3]
 exact rz ru rw' (List.all_eq_true.mp f1 _ (List.getElem_mem hj1)) (List.all_eq_true.mp f2 _ (List.getElem_mem hj2))
theorem HA (K:W.Frag) (hK:X.K=K) (hu:X.A.units < cLine):jL X (compareOp .NotEq) (QC K):=by
 subst hK
 intro pins s σ H x y v u Q I rx ry h
 obtain⟨a,b,xs,ys,rfl,rfl,ha,hb,f1,f2,q⟩:=h
 cases rx
 cases ry
 obtain⟨its,r1,p1,_⟩:=I.tuple ha
 obtain⟨its2,r2,p2,_⟩:=I.tuple hb
 show wpAny _ _ (richCompare .NotEq (.ref a) (.ref b)) _ _ _
 refine SeqAt.RcNeAt.tuples (e:=D6 xs ys) p1 p2 hu (fun j h1 h2=>items_eqAt r1 r2 f1 f2 j h1 h2) _ _ _ _ ⟨.bl _,H,I,?_,q⟩
 show Value.bool _=Value.bool _
 rw[List.size_toArray,List.size_toArray,←r1.length,←r2.length,jO]
theorem HB (K:W.Frag) (hK:X.K=K) (hu:X.A.units < cLine):jL X (compareOp .Eq) (QD K):=by
 subst hK
 intro pins s σ H x y v u Q I rx ry h
 obtain⟨a,b,xs,ys,rfl,rfl,ha,hb,f1,f2,q⟩:=h
 cases rx
 cases ry
 obtain⟨its,r1,p1,_⟩:=I.tuple ha
 obtain⟨its2,r2,p2,_⟩:=I.tuple hb
 refine SeqAt.eq_tupleAt (e:=D6 xs ys) p1 p2 hu (fun j h1 h2=>items_eqAt r1 r2 f1 f2 j h1 h2) ⟨.bl _,H,I,?_,q⟩
 show Value.bool _=Value.bool _
 rw[List.size_toArray,List.size_toArray,←r1.length,←r2.length,jO]
end
inductive g9 (K:W.Frag) (H:Hp):Nat→V→V→Prop where
 | flat {n:Nat}{x y:V}:bW x=true→bW y=true→qd x y=true→g9 K H n x y
 | ref {n:Nat}{a:Addr}:g9 K H n (.ref a) (.ref a)
 | tup {n:Nat}{a b:Addr}{xs ys:List V}:bh K H a xs→bh K H b ys→xs.length=ys.length→(∀(j:Nat) x y,xs[j]? = some x→ys[j]? = some y→g9 K H n x y)→g9 K H (n+1) (.ref a) (.ref b)
 | lst {n:Nat}{a b:Addr}{xs ys:List V}:aP K H a xs→aP K H b ys→xs.length=ys.length→(∀(j:Nat) x y,xs[j]? = some x→ys[j]? = some y→g9 K H n x y)→g9 K H (n+1) (.ref a) (.ref b)
theorem all_true (n:Nat):(List.range n).all (fun _=>true)=true:=by rw[List.all_eq_true];intro _ _;rfl
section
variable {X:Cx}{pins:List (Addr×Obj)}{σ:St}{H:Hp}{s:Shared}
theorem fP {A:Around}{R:V→V→Prop}{xs ys:List V}{us ws:List Value} (r1:Vals xs us) (r2:Vals ys ws) (h:∀(j:Nat) x y u w,xs[j]? = some x→ys[j]? = some y→RelV x u→RelV y w→SeqAt.EqAt A s u w true) (j:Nat) (h1:j < us.toArray.size) (h2:j < ws.toArray.size) :
  SeqAt.EqAt A s us.toArray[j] ws.toArray[j] true:=by
 have hl1:=r1.length
 have hl2:=r2.length
 have hj1:j < xs.length:=by rw[hl1];simpa using h1
 have hj2:j < ys.length:=by rw[hl2];simpa using h2
 obtain⟨u,eu,ru⟩:=r1.get (i:=j) (x:=xs[j]) (by simp[hj1])
 obtain⟨w,ew,rw'⟩:=r2.get (i:=j) (x:=ys[j]) (by simp[hj2])
 have e1:us.toArray[j]=u:=by
  obtain⟨_,q⟩:=List.getElem?_eq_some_iff.mp eu
  simpa using q
 have e2:ws.toArray[j]=w:=by
  obtain⟨_,q⟩:=List.getElem?_eq_some_iff.mp ew
  simpa using q
 rw[e1,e2]
 exact h j _ _ u w (by simp[hj1]) (by simp[hj2]) ru rw'
theorem lM (I:Inv X pins σ H s) {n:Nat}{x y:V} (h:g9 X.K H n x y):∀{A:Around}{u v:Value},A.units+n < cLine→RelV x u→RelV y v→SeqAt.EqAt A s u v true:=by
 induction h with
 | flat f1 f2 e=>intro A u v _ ru rv;rw[←e];exact rz ru rv f1 f2
 | ref=>intro A u v _ ru rv;cases ru;cases rv;exact SeqAt.EqAt.same _
 | @tup n a b xs ys ha hb hl _ ih =>
  intro A u v hu ru rv
  cases ru;cases rv
  by_cases e:a=b
  ·subst e;exact SeqAt.EqAt.same _
  ·obtain⟨its,r1,p1,_⟩:=I.tuple ha
   obtain⟨its2,r2,p2,_⟩:=I.tuple hb
   refine SeqAt.EqAt.of_refs e ?_
   have q:=SeqAt.RcAt.tuples (A:=A) (e:=fun _=>true) p1 p2 (by omega) fun j h1 h2=>fP (R:=fun _ _=>True) r1 r2 (fun j x y u w ex ey ru rw'=>ih j x y ex ey (by show A.units+1+n < cLine;omega) ru rw') j h1 h2
   have e2:((List.range (min its.toArray.size its2.toArray.size)).all (fun _=>true) && its.toArray.size == its2.toArray.size)=true:=by
    rw[all_true,List.size_toArray,List.size_toArray,←r1.length,←r2.length,hl];simp
   rw[e2] at q
   exact q
 | @lst n a b xs ys ha hb hl _ ih =>
  intro A u v hu ru rv
  cases ru;cases rv
  by_cases e:a=b
  ·subst e;exact SeqAt.EqAt.same _
  ·obtain⟨its,r1,p1,_⟩:=I.list ha
   obtain⟨its2,r2,p2,_⟩:=I.list hb
   refine SeqAt.EqAt.of_refs e ?_
   have q:=SeqAt.RcAt.lists (A:=A) (e:=fun _=>true) p1.isList p2.isList (by rw[List.size_toArray,List.size_toArray,←r1.length,←r2.length,hl]) (by omega) fun j h1 h2=>fP (R:=fun _ _=>True) r1 r2 (fun j x y u w ex ey ru rw'=>ih j x y ex ey (by show A.units+1+n < cLine;omega) ru rw') j h1 h2
   rw[all_true] at q
   exact q
end
section
variable {X:Cx}
def TopD (K:W.Frag) (H:Hp) (x y:V):Prop:=∃(n:Nat) (a b:Addr) (xs ys:List V),x=.ref a∧y=.ref b∧n≤50∧xs.length=ys.length∧((bh K H a xs∧bh K H b ys)∨(aP K H a xs∧aP K H b ys))∧∀(j:Nat) x y,xs[j]? = some x→ys[j]? = some y→g9 K H n x y
def QE (K:W.Frag):R2:=fun x y H Q=>TopD K H x y∧Q (.bl true) H
def QF (K:W.Frag):R2:=fun x y H Q=>TopD K H x y∧Q (.bl false) H
theorem CG (K:W.Frag) (hK:X.K=K) (hu:X.A.units+64 < cLine):jL X (compareOp .Eq) (QE K):=by
 subst hK
 intro pins s σ H x y v u Q I rx ry h
 obtain⟨⟨n,a,b,xs,ys,rfl,rfl,hn,hl,hk,hs⟩,q⟩:=h
 cases rx;cases ry
 rcases hk with ⟨ha,hb⟩ | ⟨ha,hb⟩
 ·obtain⟨its,r1,p1,_⟩:=I.tuple ha
  obtain⟨its2,r2,p2,_⟩:=I.tuple hb
  refine SeqAt.eq_tupleAt (e:=fun _=>true) p1 p2 (by omega) (fun j h1 h2=>fP (R:=fun _ _=>True) r1 r2 (fun j x y u w ex ey ru rw'=>lM I (hs j x y ex ey) (by show X.A.units+1+n < cLine;omega) ru rw') j h1 h2) ⟨.bl true,H,I,?_,q⟩
  show Value.bool _=Value.bool _
  rw[all_true,List.size_toArray,List.size_toArray,←r1.length,←r2.length,hl];simp
 ·obtain⟨its,r1,p1,_⟩:=I.list ha
  obtain⟨its2,r2,p2,_⟩:=I.list hb
  refine SeqAt.eq_listAt (e:=fun _=>true) p1.isList p2.isList (by rw[List.size_toArray,List.size_toArray,←r1.length,←r2.length,hl]) (by omega) (fun j h1 h2=>fP (R:=fun _ _=>True) r1 r2 (fun j x y u w ex ey ru rw'=>lM I (hs j x y ex ey) (by show X.A.units+1+n < cLine;omega) ru rw') j h1 h2) ⟨.bl true,H,I,?_,q⟩
  show Value.bool _=Value.bool _
  rw[all_true]
theorem CH (K:W.Frag) (hK:X.K=K) (hu:X.A.units+64 < cLine):jL X (compareOp .NotEq) (QF K):=by
 subst hK
 intro pins s σ H x y v u Q I rx ry h
 obtain⟨⟨n,a,b,xs,ys,rfl,rfl,hn,hl,hk,hs⟩,q⟩:=h
 cases rx;cases ry
 show wpAny _ _ (richCompare .NotEq (.ref a) (.ref b)) _ _ _
 rcases hk with ⟨ha,hb⟩ | ⟨ha,hb⟩
 ·obtain⟨its,r1,p1,_⟩:=I.tuple ha
  obtain⟨its2,r2,p2,_⟩:=I.tuple hb
  refine SeqAt.RcNeAt.tuples (e:=fun _=>true) p1 p2 (by omega) (fun j h1 h2=>fP (R:=fun _ _=>True) r1 r2 (fun j x y u w ex ey ru rw'=>lM I (hs j x y ex ey) (by show X.A.units+1+n < cLine;omega) ru rw') j h1 h2) _ _ _ _ ⟨.bl false,H,I,?_,q⟩
  show Value.bool _=Value.bool _
  rw[all_true,List.size_toArray,List.size_toArray,←r1.length,←r2.length,hl];simp
 ·obtain⟨its,r1,p1,_⟩:=I.list ha
  obtain⟨its2,r2,p2,_⟩:=I.list hb
  refine SeqAt.RcNeAt.lists (e:=fun _=>true) p1.isList p2.isList (by rw[List.size_toArray,List.size_toArray,←r1.length,←r2.length,hl]) (by omega) (fun j h1 h2=>fP (R:=fun _ _=>True) r1 r2 (fun j x y u w ex ey ru rw'=>lM I (hs j x y ex ey) (by show X.A.units+1+n < cLine;omega) ru rw') j h1 h2) _ _ _ _ ⟨.bl false,H,I,?_,q⟩
  show Value.bool _=Value.bool _
  rw[all_true];rfl
def HC (K:W.Frag):List V→Hp→VK→Prop:=fun xs H Q=>∃(a:Addr) (c:String) (ys:List V) (b:Bool),xs=[.ref a,.ty c]∧((bh K H a ys∧W.kitOne K (.type "tuple") (.type c)=some b)∨(aP K H a ys∧W.kitOne K (.type "list") (.type c)=some b))∧Q (.bl b) H
theorem xC (K:W.Frag) (hK:X.K=K):cD X (.builtin "isinstance") (HC K):=by
 subst hK
 intro pins s σ H xs us Q I r h
 obtain⟨a,c,ys,b,rfl,hk,q⟩:=h
 obtain⟨u,w',rfl,ru,rw'⟩:=vals2 r
 cases ru;cases rw'
 have fin:∀ tk,EP X pins σ Q (.bool b) { s with toks:=tk }:=fun tk=>⟨.bl b,H,I.tok tk,rfl,q⟩
 rcases hk with ⟨ha,e⟩ | ⟨ha,e⟩
 ·obtain⟨its,r1,p1,_⟩:=I.tuple ha
  obtain⟨o,h1,h2,_⟩:=p1
  exact W.kia_one W.kitx_tuple I.pA ⟨o,h1,h2⟩ e (fun z=>nomatch z) fin
 ·obtain⟨its,r1,p1,_⟩:=I.list ha
  obtain⟨o,h1,h2,_⟩:=p1.isList
  exact W.kia_one W.kitx_list I.pA ⟨o,h1,h2⟩ e (fun z=>nomatch z) fin
end
section
variable {X:Cx}
theorem ED {x:Str}{z:Int}{t:Tok}{pos:Pos} (hg:Gl X x) (hm:X.mg x=some (.int z t)) (hd:(x == ("__debug__" : Str))=false:=by decide):PE X (.Name x pos) (tC (.int z)):=vo hg hm ⟨t,rfl⟩ hd
end
section
variable {X:Cx}{CX:BX}{k:Nat}{f C:Addr}{fd:FuncData}{ps ks:List Str}{sp:Sp}{E:XK}{x m:Str}{p pos apos kpos:Pos}{e o:Expr}{es:List Expr}{kws:List Keyword}{te ta:TE}{t tk:TA}{nm:Option Str}
 {g:List Value→List Value→List Value}{gV:List V→List V→List V}
end
theorem uI:∀{xs ys:List V}{us:List Value},Vals xs us→Vals ys us→xs.all bW=true→ys.all bW=true→i7 ys xs=true
 | _,_,_,.nil,.nil,_,_=>rfl
 | x :: xs,y :: ys,u :: us,.cons r1 t1,.cons r2 t2,f1,f2=>by
  rw[List.all_cons,Bool.and_eq_true] at f1 f2
  unfold i7
  have e1:J4 x u=qd y x:=vC r2 f2.1
  have e2:J4 x u=qd x x:=vC r1 f1.1
  rw[←e1,e2,ju f1.1,uI t1 t2 f1.2 f2.2]
  rfl
section
variable {X:Cx}{pins:List (Addr×Obj)}{σ:St}{H:Hp}{s:Shared}
theorem CI (I:Inv X pins σ H s) {a b:Addr}{xs ys:List V} (ha:bh X.K H a xs) (hb:bh X.K H b ys) (f1:xs.all bW=true) (f2:ys.all bW=true) {A:Around} (hu:A.units < cLine):SeqAt.EqAt A s (.ref b) (.ref a) (i7 ys xs):=by
 obtain⟨its,r1,p1,_⟩:=I.tuple ha
 obtain⟨its2,r2,p2,_⟩:=I.tuple hb
 by_cases e:b=a
 ·subst e
  have ei:its2=its:=by
   obtain⟨o,ho,_,n,hd⟩:=id p1
   obtain⟨o2,ho2,_,n2,hd2⟩:=id p2
   rw[ho] at ho2;cases ho2
   rw[hd] at hd2
   injection hd2 with h1 h2
   have:=congrArg Array.toList h1
   simpa using this.symm
  subst ei
  rw[uI r1 r2 f1 f2]
  exact SeqAt.EqAt.same _
 ·refine SeqAt.EqAt.of_refs e ?_
  have q:=SeqAt.RcAt.tuples (A:=A) (e:=D6 ys xs) p2 p1 hu fun j h1 h2=>items_eqAt r2 r1 f2 f1 j h1 h2
  rw[List.size_toArray,List.size_toArray,←r1.length,←r2.length,jO] at q
  exact q
end
theorem pG:∀{xs:List V}{us:List Value},Vals xs us→∀ u∈us,∃ x∈xs,RelV x u
 | _,_,.nil=>fun u hu=>by cases hu
 | x :: xs,v :: us,.cons r t=>fun u hu=>by
  rcases List.mem_cons.mp hu with rfl | hu
  ·exact⟨x,List.mem_cons_self ..,r⟩
  ·obtain⟨y,h1,h2⟩:=pG t u hu
   exact⟨y,List.mem_cons_of_mem _ h1,h2⟩
section
variable {X:Cx}
end
theorem CJ {X:Cx}:Pf X (fun x lo hi H Q=>∃ z,x=.str z∧z.length≤sizeLine∧Q (.str (Txt.slice z lo hi)) H):=by
 intro pins s σ H x v vl vu lo hi sl Q I rx hs pl pu h
 obtain⟨z,rfl,hz,q⟩:=h
 obtain⟨t,rfl⟩:=rx
 refine⟨"str",_,F.slot_str_getitem.lookup,typeIs_str _ _ _,?_⟩
 cases pl with
 | none =>
  cases pu with
  | none=>exact wpAny_getItem_str_slice (l:=none) (u:=none) (st:=none) hs rfl (post_val_or_str ⟨Nat.le_trans (Txt.slice_le z _ _) hz,fun t' k=>⟨.str _,H,I.tok _,⟨_,rfl⟩,q⟩⟩)
  | int j uj=>exact wpAny_getItem_str_slice (l:=none) (u:=some (j,uj)) (st:=none) hs rfl (post_val_or_str ⟨Nat.le_trans (Txt.slice_le z _ _) hz,fun t' k=>⟨.str _,H,I.tok _,⟨_,rfl⟩,q⟩⟩)
 | int i ui =>
  cases pu with
  | none=>exact wpAny_getItem_str_slice (l:=some (i,ui)) (u:=none) (st:=none) hs rfl (post_val_or_str ⟨Nat.le_trans (Txt.slice_le z _ _) hz,fun t' k=>⟨.str _,H,I.tok _,⟨_,rfl⟩,q⟩⟩)
  | int j uj=>exact wpAny_getItem_str_slice (l:=some (i,ui)) (u:=some (j,uj)) (st:=none) hs rfl (post_val_or_str ⟨Nat.le_trans (Txt.slice_le z _ _) hz,fun t' k=>⟨.str _,H,I.tok _,⟨_,rfl⟩,q⟩⟩)
section
variable {X:Cx}{pins:List (Addr×Obj)}{σ:St}{H:Hp}{s:Shared}{h':Heap}
theorem Inv.An {t':Nat}{wr:List Addr} (I:Inv X pins σ H s) (k:∀ b o,b∉wr→s.heap.get? b=some o→h'.get? b=some o) (hf:∀ it∈wr,nP X pins H it):Inv X pins σ H { s with heap:=h',toks:=t' }:=by
 have Kv:∀ b u,H b=some u→b∉wr:=fun b u e z=>by rw[(hf b z).1] at e;cases e
 have hL:X.env.locals∉wr:=fun z=>(hf _ z).2.1 rfl
 refine I.step (g':=s.gens) (d':=s.drawn) (ch:=wr) (fun b hb=>?_) (fun b o _ _ hc e _=>k b o hc e) (fun b o _ _ hc e _=>⟨o.slots,k b o hc e⟩) (fun _ _ _ _ n=>n)
  (fun b o hc e=>⟨o,k b o hc e⟩) (fun _ _ e=>e) (fun _ _ _ e=>e) (fun b ps e=>⟨#[],by rw[e];simp⟩) (fun m hm=>?_) (fun b u e=>?_) I.bare
 ·obtain⟨f0,f1,f2,f3,f4,f5⟩:=hf b hb
  exact⟨f3,f1,f4,f5⟩
 ·obtain⟨o,es,ep,ho,r⟩:=hm
  exact⟨o,es,ep,k _ o hL ho,r⟩
 ·refine(I.hok b u e).stay (fun c v hc q=>k c v ?_ q) (fun _ q=>q) fun _ _ q=>q
  rcases hc with z | z
  ·rw[z];exact Kv b u e
  ·exact Kv c _ z
end
def hmid (h h2:Heap):Heap:=⟨h.objs++(h2.objs.toList.drop h.objs.size).toArray,h2.life⟩
theorem CK {h h2:Heap}{a:Addr} (ha:a < h.objs.size):(hmid h h2).get? a=h.get? a:=by
 have e:(hmid h h2).objs[a]? = h.objs[a]? := Array.getElem?_append_left ha
 unfold Heap.get?
 rw[e]
theorem CL {h h2:Heap}{a:Addr} (ha:h.objs.size≤a):(hmid h h2).get? a=h2.get? a:=by
 have e:(hmid h h2).objs[a]? = h2.objs[a]? := by
  show(h.objs++(h2.objs.toList.drop h.objs.size).toArray)[a]? = _
  rw[Array.getElem?_append_right ha,List.getElem?_toArray,List.getElem?_drop,Array.getElem?_toList]
  congr 1
  omega
 unfold Heap.get?
 rw[e]
theorem uJ {X:Cx}{pins:List (Addr×Obj)}{σ:St}{H:Hp}{s:Shared}{E:Value→Shared→Prop}{it:Addr}{QG wr fp:List Addr}{n:Nat}{Pt:Nat→Array Value→Prop}{J8:Nat→Heap→Prop}{Mid:Nat→Addr→Heap→Prop}{elts:List Expr}{k:Nat}{pos:Pos}{J:It}{tn:Nat→Heap→Prop}{i:Nat}
  (W:WalksT X.prog X.w X.A it QG wr n Pt J8 Mid) (I:Inv X pins σ H s) (hfp:∀ b∈fp,nP X pins H b) (hwr:∀ b∈wr,b∈fp) (hsz:∀ b∈fp,b < s.heap.objs.size) (hi:i < n) (hst:J8 i s.heap)
  (hv:∀ vals,Pt i vals→∃ vs:List V,vs.length≤sizeLine∧Vals vs vals.toList∧∀ T,H T=none→J.Ce i H (.ref T) (upd H T (.tup vs))) (Xi:∀ h,J8 (i+1) h→tn (i+1) h) :
  wpAny (model X.prog X.w) X.A (pyNext (.ref it)) (fun r s1=>∃ u,r=some u ∧
   wpAny (model X.prog X.w) X.A (letOwnedTupleGo (.Tuple elts k pos) (.ref it) u) (fun _ s2=>∃ x H',Inv X pins σ H' s2∧RelV x u∧J.Ce i H x H'∧tn (i+1) s2.heap∧∀ b∈fp,H' b=none) E s1) E s:=by
 refine W.item i s _ E hi hst fun T vals h1 tk Xj hT QH La hk=>⟨.ref T,rfl,?_⟩
 have hap:=W.apart i T h1 La
 refine W.go elts k pos i T _ _ E La fun h2 hSt hk2=>?_
 obtain⟨vs,hlen,Lb,hy⟩:=hv vals Xj
 have Xk:H T=none:=I.hok.fresh hT
 obtain⟨o,ho,hoc,m,hod⟩:=QH
 have ho2:h2.get? T=some o:=hk2 T o hap ho
 have I1:Inv X pins σ (upd H T (.tup vs)) { s with heap:=hmid s.heap h2,toks:=tk }:=by
  refine I.laid (fun b u e=>(CK (Heap.lt_size e)).trans e) hT ?_
  refine⟨hlen,vals.toList,Lb,⟨o,(CL hT).trans ho2,hoc,m,?_⟩⟩
  rw[hod]
 have hne:∀ b∈fp,b≠T:=fun b hb e=>by
  have:=hsz b hb
  rw[e] at this
  exact absurd this (Nat.not_lt.mpr hT)
 have I2:=I1.An (h':=h2) (t':=tk) (wr:=wr) (fun b ob hb e=>?_) (fun b hb=>?_)
 ·exact⟨.ref T,_,I2,rfl,hy T Xk,Xi _ hSt,fun b hb=>(aC (hne b hb)).trans (hfp b hb).1⟩
 ·by_cases hlt:b < s.heap.objs.size
  ·have e:s.heap.get? b=some ob:=(CK hlt).symm.trans e
   exact hk2 b ob hb (hk b ob hb e)
  ·exact(CL (Nat.le_of_not_lt hlt)).symm.trans e
 ·have f:=hfp b (hwr b hb)
  exact⟨(aC (hne b (hwr b hb))).trans f.1,f.2⟩
theorem uK {X:Cx}{pins:List (Addr×Obj)}{σ:St}{H:Hp}{s:Shared}{E:Value→Shared→Prop}{it:Addr}{QG wr fp:List Addr}{n:Nat}{Pt:Nat→Array Value→Prop}{J8:Nat→Heap→Prop}{Mid:Nat→Addr→Heap→Prop}
  (W:WalksT X.prog X.w X.A it QG wr n Pt J8 Mid) (I:Inv X pins σ H s) (hfp:∀ b∈fp,nP X pins H b) (hwr:∀ b∈wr,b∈fp) (hst:J8 n s.heap) :
  wpAny (model X.prog X.w) X.A (pyNext (.ref it)) (fun r s1=>r=none∧Inv X pins σ H s1) E s :=
 W.done s _ E hst fun h1 tk hk=>⟨rfl,I.An (h':=h1) (t':=tk) (wr:=wr) hk fun b hb=>hfp b (hwr b hb)⟩
theorem HE (I l1 l2:Nat) (h1:@LT.lt Nat _ l1 I) (h2:@LT.lt Nat _ l2 I):ZipApart (I+4) (I+2) (I+3) I (I+1) l1 l2:=by
 constructor <;> (intro e;have e':=@id (@Eq Nat _ _) e;omega)
def HF (K:W.Frag) (a:Addr):It :=
 ⟨fun i H=>∃ xs x,aP K H a xs∧xs[i]? = some x,
  fun i H v H'=>∃ t x,H t=none∧v=.ref t∧H'=upd H t (.tup [.int i,x])∧∀ xs,aP K H a xs→xs[i]? = some x,
  fun i H=>∃ xs,aP K H a xs∧xs.length=i⟩
theorem Bb {P:Program}{w:World}{K:W.Frag}{elts:List Expr}{k:Nat}{pos:Pos}{e it l:Addr} (hei:e≠it) (hle:l≠e) (hli:l≠it) :
  Turn P w K (.Tuple elts k pos) (HF K l) [e,it] e (fun i h=>(∃ old,IsEnum h e it i old)∧h.IsListIter it l i) where
 mem:=by simp
 obj:=fun i h st b hb=>by
  obtain⟨⟨old,he⟩,⟨o1,e1,c1,d1⟩⟩:=st
  simp only[List.mem_cons,List.mem_nil_iff,or_false] at hb
  rcases hb with rfl | rfl
  ·exact⟨_,he,fun v q=>by cases q⟩
  ·exact⟨_,e1,fun v q=>by rw[d1] at q;cases q⟩
 keep:=fun i h h' st k=>by
  obtain⟨⟨old,he⟩,q1⟩:=st
  exact⟨⟨old,k e (by simp) _ he⟩,q1.at fun o x=>k it (by simp) o x⟩
 item:=by
  intro X hP hw hK hc i pins s σ H E I hf st hg
  subst hP hw hK
  obtain⟨xs,x,hx,ex⟩:=hg
  obtain⟨its,rv,p,hz⟩:=I.list hx
  obtain⟨u,hu,ru⟩:=rv.get ex
  obtain⟨s1,s2⟩:=id st
  have W:=WalksT.enumerate (prog:=X.prog) (w:=X.w) (A:=X.A) (I.ok.hd hc) e it l hei hle hli its.toArray
  refine uJ (J:=HF X.K l) (tn:=fun i h=>(∃ old,IsEnum h e it i old)∧h.IsListIter it l i) W I hf (fun b hb=>hb) ?_ ?_ ?_ ?_ ?_
  ·intro b hb
   simp only[List.mem_cons,List.mem_nil_iff,or_false] at hb
   obtain⟨old,s1⟩:=s1
   obtain⟨o1,e1,_⟩:=s2
   rcases hb with rfl | rfl
   ·exact Heap.lt_size s1
   ·exact Heap.lt_size e1
  ·have h1:=(List.getElem?_eq_some_iff.mp hu).1
   simpa using h1
  ·exact⟨s1,s2,p.isList⟩
  ·intro vals hp
   obtain⟨t,v1,e1,rfl⟩:=hp
   have e1:its[i]? = some v1:=by simpa using e1
   rw[hu] at e1;cases e1
   exact⟨[.int i,x],(by show 2≤sizeLine;decide),.cons ⟨_,rfl⟩ (.cons ru .nil),fun T hT=>⟨T,x,hT,rfl,rfl,fun zs hz=>by rw[I.qY hz hx];exact ex⟩⟩
  ·exact fun h q=>⟨q.1,q.2.1⟩
 done:=by
  intro X hP hw hK hc i pins s σ H E I hf st hg
  subst hP hw hK
  obtain⟨xs,hx,hlen⟩:=hg
  obtain⟨its,rv,p,hz⟩:=I.list hx
  obtain⟨s1,s2⟩:=id st
  have e':i=its.toArray.size:=by rw[List.size_toArray,←rv.length,hlen]
  subst e'
  have W:=WalksT.enumerate (prog:=X.prog) (w:=X.w) (A:=X.A) (I.ok.hd hc) e it l hei hle hli its.toArray
  exact uK W I hf (fun b hb=>hb) ⟨s1,s2,p.isList⟩
 self:=fun _ _ _ _ _ st h=>by
  obtain⟨⟨old,he⟩,_⟩:=st
  exact wpAny_pyIter_enum he h
def Lc (K:W.Frag) (ta:TA):TI:=fun σ H R=>ta σ H fun vs H1=>∃ a,vs=[.ref a]∧(∃ xs,aP K H1 a xs)∧R (HF K a) H1
theorem nV {X:Cx}{elts:List Expr}{k:Nat}{tpos:Pos}{a:Expr}{ta:TA}{p pos:Pos} (K:W.Frag) (hK:X.K=K) (hg:Gl X "enumerate") (hm:X.mg "enumerate" = none) (ha:PA X [a] ta) (hs:starEach [a] X.env=[(false,eval a X.env)]:=by rfl) :
  PI X (.Tuple elts k tpos) (.Call (.Name "enumerate" p) [a] [] pos) (Lc K ta):=by
 subst hK
 intro pins s σ H R I h
 refine Call_ (ku I hg hm (u:=.type "enumerate") (by decide +kernel) (PyProof.Rows.callWith_type1 (bY (ha pos pins s σ H _ I h) fun us s1 ⟨vs,H1,I1,r1,q1⟩=>?_) hs rfl))
 obtain⟨l,e,⟨xs,hx⟩,q⟩:=q1
 subst e
 cases r1 with
 | cons r rr =>
  cases rr
  cases r
  obtain⟨its,rv,pl,hz⟩:=I1.list hx
  have hlt:l < s1.heap.objs.size:=by obtain⟨o,ho,_⟩:=pl.isList;exact Heap.lt_size ho
  refine call_enumerate_list pl.isList fun h' hE hI hsz hk=>?_
  refine wpAny_pyIter_enum hE ?_
  have I2:Inv X pins σ H1 { s1 with heap:=h' }:=I1.kept (t':=s1.toks) fun b o e=>hk b o e
  refine⟨s1.heap.objs.size+1,_,_,_,H1,rfl,I2,Bb (Nat.succ_ne_self _) (Nat.ne_of_lt (Nat.lt_succ_of_lt hlt)) (Nat.ne_of_lt hlt),⟨⟨_,hE⟩,hI⟩,fun b hb=>?_,q⟩
  have hb':s1.heap.objs.size≤b:=by
   simp only[List.mem_cons,List.mem_nil_iff,or_false] at hb
   rcases hb with rfl | rfl
   ·exact Nat.le_add_right _ _
   ·exact Nat.le_refl _
  exact I1.nQ hb' (I1.hok.fresh hb')
theorem rE {K:W.Frag}{a:Addr}{xs:List V}{g:TG}{tb:TS}{D:Ends}{σ:St}{H:Hp} (Pv:Nat→St→Hp→Prop) (h0:Pv 0 σ H) (hl:∀ i σ H,i≤xs.length→Pv i σ H→aP K H a xs)
  (hs:∀ i x t σ H,xs[i]? = some x→H t=none→Pv i σ H→g (.ref t) σ (upd H t (.tup [.int i,x])) fun σ2 H2=>tb { D with nx:=Pv (i+1),ct:=Pv (i+1),bk:=D.nx } σ2 H2) (hd:∀ σ H,Pv xs.length σ H→D.nx σ H) :
  ∃ W:Nat→Nat→St→Hp→Prop,(∃ m,W 0 m σ H)∧∀ i m σ H,W i m σ H →
   ((HF K a).stop i H∧D.nx σ H)∨((HF K a).go i H∧∃ N:St→Hp→Prop,(∀ σ' H',N σ' H'→∃ m',m' < m∧W (i+1) m' σ' H')∧∀ x H',(HF K a).Ce i H x H'→g x σ H' fun σ2 H2=>tb { D with nx:=N,ct:=N,bk:=D.nx } σ2 H2):=by
 refine⟨fun i m σ H=>m=xs.length - i∧i≤xs.length∧Pv i σ H,⟨xs.length,by simp,Nat.zero_le _,h0⟩,?_⟩
 rintro i m σ H ⟨rfl,hi,p⟩
 have q:=hl i σ H hi p
 by_cases hlt:i < xs.length
 ·refine .inr ⟨⟨xs,xs[i],q,by simp[hlt]⟩,Pv (i+1),fun σ' H' p'=>⟨xs.length - (i+1),by omega,rfl,hlt,p'⟩,fun v H' y=>?_⟩
  obtain⟨t,x,ht,e1,e2,ex⟩:=y
  subst e1 e2
  exact hs i x t σ _ (ex xs q) ht p
 ·have e:i=xs.length:=by omega
  subst e
  exact .inl ⟨⟨xs,q,rfl⟩,hd σ H p⟩
theorem e9:∀{ns:List Nat}{us:List Value}{i:Nat}{v:Value},Vals (ns.map fun n:Nat=>V.int n) us→us[i]? = some v→∃ t,v=.int (ns.getD i 0:Nat) t
 | [],_,i,v,r,e=>by cases r;simp at e
 | n :: ns,_,0,v,r,e=>by
  cases r with
  | cons r1 r2 =>
   simp at e
   subst e
   obtain⟨t,e⟩:=r1
   exact⟨t,by simpa using e⟩
 | n :: ns,_,i+1,v,r,e=>by
  cases r with
  | cons r1 r2 =>
   obtain⟨t,e2⟩:=e9 r2 (i:=i) (v:=v) (by simpa using e)
   exact⟨t,by simpa using e2⟩
theorem rF {y:V}:∀{xs:List V}{us:List Value},Vals xs us→xs.all bW=true→us.countP (J4 y)=xs.countP (fun z=>qd z y)
 | _,_,.nil,_=>rfl
 | x :: xs,u :: us,.cons r t,f=>by
  rw[List.all_cons,Bool.and_eq_true] at f
  rw[List.countP_cons,List.countP_cons,rF t f.2,vC r f.1]
section
variable {X:Cx}
def Ao (K:W.Frag):V→List V→Hp→VK→Prop:=fun x vs H Q=>∃(p:Addr) (xs:List V) (y:V),x=.ref p∧vs=[y]∧aP K H p xs∧bW y=true∧xs.all bW=true∧Q (.int (xs.countP fun z=>qd z y:Nat)) H
theorem Bc:Hi X "list.count" (Ao X.K):=by
 intro pins s σ H x vs v us Q I rx rv h
 obtain⟨p,xs,y,rfl,rfl,hq,fy,fs,q⟩:=h
 cases rx
 obtain⟨u,rfl,ru⟩:=rv.one
 obtain⟨its,r,pl,_⟩:=I.list hq
 obtain⟨⟨cls,dd,data,sl⟩,ho,hc,n,hd⟩:=pl.isList
 simp only at hc hd
 subst hc hd
 refine call_meets F.slot_list_count ⟨_,ho,rfl⟩ F.entry_list_count (F.args_list_count_2 _ _) (SeqAt.list_countAt p its.toArray n dd sl u (J4 y)) ⟨ho,fun w hw=>xw ru fy r fs w (by simpa using hw),?_⟩
 refine⟨.int _,H,I.tok _,⟨_,rfl⟩,?_⟩
 rw[show its.toArray.toList=its from rfl,rF r fs]
 exact q
theorem zj (K:W.Frag) (h:X.K=K):Hi X "list.count" (Ao K):=by subst h;exact Bc
def QI (K:W.Frag):R2:=fun x y H Q=>∃ a b xs,x=.ref a∧y=.ref b∧aP K H a xs∧aP K H b []∧Q (.bl xs.isEmpty) H
theorem zk (K:W.Frag) (hK:X.K=K) (hu:X.A.units < cLine):jL X (compareOp .Eq) (QI K):=by
 subst hK
 intro pins s σ H x y v u Q I rx ry h
 obtain⟨a,b,xs,rfl,rfl,ha,hb,q⟩:=h
 cases rx
 cases ry
 obtain⟨its,r1,p1,_⟩:=I.list ha
 obtain⟨its2,r2,p2,_⟩:=I.list hb
 cases r2
 show wpAny _ _ (richCompare .Eq (.ref a) (.ref b)) _ _ _
 cases xs with
 | nil =>
  cases r1
  refine SeqAt.RcAt.lists (e:=fun _=>true) p1.isList p2.isList rfl hu (fun j h1 _=>absurd h1 (by simp)) _ _ _ _ ⟨.bl true,H,I,?_,q⟩
  simp[RelV]
 | cons x xs =>
  cases r1 with
  | cons r rr =>
   exact SeqAt.RcAt.lists_lengths p1.isList p2.isList (by simp) hu _ _ _ _ ⟨.bl false,H,I,rfl,q⟩
theorem jL.Xl {f:Value→Value→Sem Value}{r r':R2} (h:jL X f r) (h':jL X f r'):jL X f (fun x y H Q=>r x y H Q∨r' x y H Q):=by
 intro pins s σ H x y v u Q I rx ry q
 rcases q with q | q
 ·exact h pins s σ H x y v u Q I rx ry q
 ·exact h' pins s σ H x y v u Q I rx ry q
end
def tS (i:Int) (n:Nat):List V:=(List.range n).map fun (k:Nat)=>V.int (i+k)
theorem Bd {a:Int}{n:Nat}{acc:Array Value} (h:ItemsOf (fun i v=>∃ t,v=.int (a+i * 1) t) acc n):Vals (tS a n) acc.toList:=by
 have key:∀(m:Nat),m≤n→Vals ((List.range m).map fun (k:Nat)=>V.int (a+k)) (acc.toList.take m):=by
  intro m
  induction m with
  | zero=>intro _;exact .nil
  | succ m ih =>
   intro hm
   have hsz:m < acc.size:=by rw[h.1];omega
   have hx:acc.toList[m]? = some acc[m]:=by simp[hsz]
   obtain⟨t,et⟩:=h.2 m acc[m] (by simp[hsz])
   rw[List.range_succ,List.map_append,List.take_succ,hx]
   refine(ih (by omega)).append (.cons ⟨t,?_⟩ .nil)
   rw[et,Int.mul_one]
 have:=key n (Nat.le_refl _)
 rw[List.take_of_length_le (by rw[Array.length_toList,h.1];exact Nat.le_refl _)] at this
 exact this
def isIn (K:W.Frag) (H:Hp) (ws xs:List V):Prop:=∃ w∈ws,∃ b ys,w=V.ref b∧bh K H b ys∧i7 ys xs=true
def QJ (K:W.Frag) (neg:Bool):R2:=fun x y H Q=>∃ a p xs ws,x=.ref a∧y=.ref p∧bh K H a xs∧xs.all bW=true∧aP K H p ws∧(∀ w∈ws,∃ b ys,w=V.ref b∧bh K H b ys∧ys.all bW=true)∧∀ r:Bool,(r=true↔isIn K H ws xs)→Q (.bl (if neg then !r else r)) H
theorem xD:∀{xs:List V}{us:List Value},Vals xs us→∀ x∈xs,∃ u∈us,RelV x u
 | _,_,.nil=>fun x hx=>by cases hx
 | y :: xs,v :: us,.cons r t=>fun x hx=>by
  rcases List.mem_cons.mp hx with rfl | hx
  ·exact⟨v,List.mem_cons_self ..,r⟩
  ·obtain⟨u,h1,h2⟩:=xD t x hx
   exact⟨u,List.mem_cons_of_mem _ h1,h2⟩
section
variable {X:Cx}
theorem EE {pins:List (Addr×Obj)}{σ:St}{H:Hp}{s:Shared} (I:Inv X pins σ H s) {a p:Addr}{xs ws:List V}{its:List Value} (ha:bh X.K H a xs) (fa:xs.all bW=true) (r:Vals ws its)
  (hw:∀ w∈ws,∃ b ys,w=V.ref b∧bh X.K H b ys∧ys.all bW=true) (hu:X.A.units+64 < cLine) :
  ∃ e:Value→Bool,(∀ v∈its,SeqAt.EqAt X.A.in1 s v (.ref a) (e v))∧(its.any e=true↔isIn X.K H ws xs):=by
 refine⟨fun v=>@decide (∃ b ys,v=Value.ref b∧bh X.K H b ys∧i7 ys xs=true) (Classical.propDecidable _),fun v hv=>?_,?_⟩
 ·obtain⟨y,hy,ry⟩:=pG r v hv
  obtain⟨b,ys,rfl,hb,fb⟩:=hw y hy
  cases ry
  have q:=CI (A:=X.A.in1) I ha hb fa fb (show X.A.units+1 < cLine by omega)
  cases he:i7 ys xs with
  | true =>
   rw[he] at q
   have e:@decide (∃ b' ys',Value.ref b=Value.ref b'∧bh X.K H b' ys'∧i7 ys' xs=true) (Classical.propDecidable _)=true:=@decide_eq_true _ (Classical.propDecidable _) ⟨b,ys,rfl,hb,he⟩
   dsimp only
   rw[e];exact q
  | false =>
   rw[he] at q
   have e:@decide (∃ b' ys',Value.ref b=Value.ref b'∧bh X.K H b' ys'∧i7 ys' xs=true) (Classical.propDecidable _)=false:=@decide_eq_false _ (Classical.propDecidable _) (by
    rintro⟨b',ys',e1,e2,e3⟩
    cases e1
    rw[I.uy hb e2] at he
    rw[he] at e3;cases e3)
   dsimp only
   rw[e];exact q
 ·rw[List.any_eq_true]
  constructor
  ·rintro⟨v,hv,e⟩
   obtain⟨b,ys,rfl,hb,he⟩:=@of_decide_eq_true _ (Classical.propDecidable _) e
   obtain⟨y,hy,ry⟩:=pG r _ hv
   obtain⟨b',ys',rfl,hb',_⟩:=hw y hy
   cases ry
   exact⟨_,hy,_,ys,rfl,hb,he⟩
  ·rintro⟨w,QK,b,ys,rfl,hb,he⟩
   obtain⟨u,QL,ru⟩:=xD r _ QK
   cases ru
   exact⟨_,QL,@decide_eq_true _ (Classical.propDecidable _) ⟨b,ys,rfl,hb,he⟩⟩
theorem uL (K:W.Frag) (hK:X.K=K) (hu:X.A.units+64 < cLine):jL X (compareOp .NotIn) (QJ K true):=by
 subst hK
 intro pins s σ H x y v u Q I rx ry h
 obtain⟨a,p,xs,ws,rfl,rfl,ha,fa,hp,hw,q⟩:=h
 cases rx;cases ry
 obtain⟨its,r,pl,hz⟩:=I.list hp
 obtain⟨e,h1,h2⟩:=EE (p:=p) I ha fa r hw hu
 refine SeqAt.notIn_listAt e pl.isList (fun w QK=>h1 w (by simpa using QK)) ⟨.bl _,H,I,rfl,?_⟩
 exact q (its.toArray.any e) (by rw[show its.toArray.any e=its.any e by simp];exact h2)
end
section
variable {prog:Program}{w:World}{A:Around}{E:Value→Shared→Prop}{s:Shared}
theorem EF {z TI TO i1 i2 l:Addr}{n1 n2 k:Nat}{P1 P2:Nat→Value→Prop}{S1 S2:Nat→Heap→Prop}{a b:Value}{Q:Value→Shared→Prop} (D:ZipApart z TI TO i1 i2 l l)
  (G1:Draws prog w A i1 [i1] n1 P1 S1) (G2:Draws prog w A i2 [i2,l] n2 P2 S2) (hz:IsZip s.heap z TI TO .none) (hTI:IsPair s.heap TI (.ref i1) (.ref i2)) (hTO:IsPair s.heap TO a b)
  (g1:S1 k s.heap) (g2:S2 k s.heap) (k1:k < n1) (k2:k < n2)
  (hQ:∀ h' tk x y,P1 k x→P2 k y→IsZip h' z TI TO (rawInt s.heap.objs.size)→IsPair h' TO x y→S1 (k+1) h'→S2 (k+1) h'→IsPair h' s.heap.objs.size x y →
   (∀ c o,c≠z→c≠TO→c≠i1→c≠i2→s.heap.get? c=some o→h'.get? c=some o)→Q (.ref s.heap.objs.size) { s with heap:=h',toks:=tk }) :
  wpAny (model prog w) A (Builtin.«zip.__next__» ⟨[.ref z],[]⟩) (fun fin s'=>∃ v,fin=.done (.ret v)∧Q v s') E s:=by
 have e1:∀{i:Nat}{h h':Heap}{c:Addr},Heap.SameBut c h h'→i1≠c→S1 i h→S1 i h':=fun hs hn g=>G1.frame _ _ _ g fun b hb o e=>by
  rw[List.mem_singleton.mp hb] at e ⊢;exact hs.extBut _ _ hn e
 have e2:∀{i:Nat}{h h':Heap}{c:Addr},Heap.SameBut c h h'→i2≠c→l≠c→S2 i h→S2 i h':=fun hs hn hl g=>G2.frame _ _ _ g fun b hb o e=>by
  rcases List.mem_cons.mp hb with q | q
  ·rw[q] at e ⊢;exact hs.extBut _ _ hn e
  ·rw[List.mem_singleton.mp q] at e ⊢;exact hs.extBut _ _ hl e
 show wpAny _ _ (field (.ref z) 2 >>= _) _ _ _
 refine wpAny_bind (wpAny_field hz rfl (x:=.bool false) rfl ?_)
 show wpAny _ _ (field (.ref z) 3 >>= _) _ _ _
 refine wpAny_bind (wpAny_field hz rfl (x:=.ref TI) rfl (wpAny_bind (wpAny_seqItems hTI rfl ?_)))
 show wpAny _ _ (Builtin.SmallTypes.ownedTupleIsFree (.ref z) >>= _) _ _ _
 refine wpAny_bind ?_
 unfold Builtin.SmallTypes.ownedTupleIsFree
 refine wpAny_bind (wpAny_field hz rfl (x:=.none) rfl (wpAny_pure ?_))
 simp only[if_true]
 refine wpAny_bind (wpAny_rule (wpAny_bind (wpAny_field hz rfl (x:=.ref TO) rfl (wpAny_bind (wpAny_setField_rec hz (by simp) fun A1 z1 q1=>?_)))))
 replace z1:IsZip A1 z TI TO .ellipsis:=z1
 refine wpAny_bind ?_
 simp only[List.zipIdx_cons,List.zipIdx_nil,List.forIn_cons,List.forIn_nil]
 refine wpAny_bind (wpAny_bind (wpAny_onRaise ?_))
 show wpAny _ _ (Builtin.SmallTypes.nextOf (.ref i1) >>= _) _ _ _
 refine wpAny_bind (G1.item k _ _ _ k1 (e1 q1 D.i1z g1) fun x A2 tk px UU q2=>wpAny_pure ?_)
 have o2:IsPair A2 TO a b:=q2.extBut _ _ D.TOi1 (q1.extBut _ _ D.TOz hTO)
 refine wpAny_bind (wpAny_seqItems o2 rfl (wpAny_bind (wpAny_updateSeq_pair o2 fun A3 o3 q3=>?_)))
 replace o3:IsPair A3 TO x b:=o3
 refine wpAny_bind (wpAny_letGo (wpAny_pure (wpAny_bind (wpAny_bind (wpAny_onRaise ?_)))))
 show wpAny _ _ (Builtin.SmallTypes.nextOf (.ref i2) >>= _) _ _ _
 refine wpAny_bind (G2.item k _ _ _ k2 (e2 q3 D.TOi2.symm D.l2TO (e2 q2 D.i12.symm D.l2i1 (e2 q1 D.i2z D.l2z g2))) fun y A4 tk2 py Xm q4=>wpAny_pure ?_)
 have o4:IsPair A4 TO x b:=q4.extBut _ _ D.TOi2 o3
 refine wpAny_bind (wpAny_seqItems o4 rfl (wpAny_bind (wpAny_updateSeq_pair o4 fun A5 o5 q5=>?_)))
 replace o5:IsPair A5 TO x y:=o5
 refine wpAny_bind (wpAny_letGo (wpAny_pure (wpAny_pure (wpAny_bind (wpAny_seqItems o5 rfl (wpAny_bind (wpAny_newTuple ?_)))))))
 have sz:A5.objs.size=s.heap.objs.size:=by rw[q5.1,q4.1,q3.1,q2.1,q1.1]
 have z5:IsZip A5 z TI TO .ellipsis:=q5.extBut _ _ D.TOz.symm (q4.extBut _ _ D.i2z.symm (q3.extBut _ _ D.TOz.symm (q2.extBut _ _ D.i1z.symm z1)))
 have w1:S1 (k+1) A5:=e1 q5 D.TOi1.symm (e1 q4 D.i12 (e1 q3 D.TOi1.symm UU))
 have w2:S2 (k+1) A5:=e2 q5 D.TOi2.symm D.l2TO Xm
 have kp:∀ c o,c≠z→c≠TO→c≠i1→c≠i2→s.heap.get? c=some o→A5.get? c=some o:=fun c o c1 c2 c3 c4 e=>q5.extBut _ _ c2 (q4.extBut _ _ c4 (q3.extBut _ _ c2 (q2.extBut _ _ c3 (q1.extBut _ _ c1 e))))
 have lz:z < A5.objs.size:=Heap.lt_size z5
 have z6:IsZip (A5.push { cls:=.type "tuple",data:=.seq #[x,y] }) z TI TO .ellipsis:=Heap.get?_push_of_some _ z5
 show wpAny _ _ (Builtin.SmallTypes.ownedTupleHandOut (.ref z) (.ref A5.objs.size) >>= _) _ _ _
 refine wpAny_bind ?_
 unfold Builtin.SmallTypes.ownedTupleHandOut
 refine wpAny_bind (wpAny_setField_rec z6 (by simp) fun A7 z7 q7=>?_)
 replace z7:IsZip A7 z TI TO (rawInt A5.objs.size):=z7
 refine wpAny_setField_rec z7 (by simp) fun A8 z8 q8=>?_
 replace z8:IsZip A8 z TI TO (rawInt A5.objs.size):=z8
 have up:∀ c o,c≠z→A5.get? c=some o→A8.get? c=some o:=fun c o c1 e=>q8.extBut _ _ c1 (q7.extBut _ _ c1 (Heap.get?_push_of_some _ e))
 have t8:IsPair A8 A5.objs.size x y:=q8.extBut _ _ (Nat.ne_of_gt lz) (q7.extBut _ _ (Nat.ne_of_gt lz) (Heap.get?_push_size _ rfl))
 have v1:S1 (k+1) A8:=G1.frame _ _ _ w1 fun b hb o e=>by
  rw[List.mem_singleton.mp hb] at e ⊢;exact up _ o D.i1z e
 have v2:S2 (k+1) A8:=G2.frame _ _ _ w2 fun b hb o e=>by
  rcases List.mem_cons.mp hb with q | q
  ·rw[q] at e ⊢;exact up _ o D.i2z e
  ·rw[List.mem_singleton.mp q] at e ⊢;exact up _ o D.l2z e
 rw[sz] at z8 t8
 refine wpAny_pure ⟨_,rfl,?_⟩
 show Q (.ref A5.objs.size) _
 rw[sz]
 exact hQ A8 _ x y px py z8 (up _ _ D.TOz o5) v1 v2 t8 fun c o c1 c2 c3 c4 e=>up c o c1 (kp c o c1 c2 c3 c4 e)
theorem HG {z TI TO i1 i2 l:Addr}{n1 n2 k:Nat}{P1 P2:Nat→Value→Prop}{S1 S2:Nat→Heap→Prop}{a b:Value}{Q:Fin→Shared→Prop} (D:ZipApart z TI TO i1 i2 l l)
  (G1:Draws prog w A i1 [i1] n1 P1 S1) (G2:Draws prog w A i2 [i2,l] n2 P2 S2) (hz:IsZip s.heap z TI TO .none) (hTI:IsPair s.heap TI (.ref i1) (.ref i2)) (hTO:IsPair s.heap TO a b)
  (g1:S1 k s.heap) (g2:S2 k s.heap) (hk:k=n1∨(k < n1∧k=n2))
  (hE:∀ h' tk e,(∀ c o,c≠z→c≠TO→c≠i1→c≠i2→s.heap.get? c=some o→h'.get? c=some o)→(∃ o,h'.get? e=some o∧o.cls=.type "StopIteration")→E (.ref e) { s with heap:=h',toks:=tk }) :
  wpAny (model prog w) A (Builtin.«zip.__next__» ⟨[.ref z],[]⟩) Q E s:=by
 have e1:∀{i:Nat}{h h':Heap}{c:Addr},Heap.SameBut c h h'→i1≠c→S1 i h→S1 i h':=fun hs hn g=>G1.frame _ _ _ g fun b hb o e=>by
  rw[List.mem_singleton.mp hb] at e ⊢;exact hs.extBut _ _ hn e
 have e2:∀{i:Nat}{h h':Heap}{c:Addr},Heap.SameBut c h h'→i2≠c→l≠c→S2 i h→S2 i h':=fun hs hn hl g=>G2.frame _ _ _ g fun b hb o e=>by
  rcases List.mem_cons.mp hb with q | q
  ·rw[q] at e ⊢;exact hs.extBut _ _ hn e
  ·rw[List.mem_singleton.mp q] at e ⊢;exact hs.extBut _ _ hl e
 show wpAny _ _ (field (.ref z) 2 >>= _) _ _ _
 refine wpAny_bind (wpAny_field hz rfl (x:=.bool false) rfl ?_)
 show wpAny _ _ (field (.ref z) 3 >>= _) _ _ _
 refine wpAny_bind (wpAny_field hz rfl (x:=.ref TI) rfl (wpAny_bind (wpAny_seqItems hTI rfl ?_)))
 show wpAny _ _ (Builtin.SmallTypes.ownedTupleIsFree (.ref z) >>= _) _ _ _
 refine wpAny_bind ?_
 unfold Builtin.SmallTypes.ownedTupleIsFree
 refine wpAny_bind (wpAny_field hz rfl (x:=.none) rfl (wpAny_pure ?_))
 simp only[if_true]
 refine wpAny_bind (wpAny_rule (wpAny_bind (wpAny_field hz rfl (x:=.ref TO) rfl (wpAny_bind (wpAny_setField_rec hz (by simp) fun A1 z1 q1=>?_)))))
 replace z1:IsZip A1 z TI TO .ellipsis:=z1
 refine wpAny_bind ?_
 simp only[List.zipIdx_cons,List.zipIdx_nil,List.forIn_cons,List.forIn_nil]
 refine wpAny_bind (wpAny_bind (wpAny_onRaise ?_))
 show wpAny _ _ (Builtin.SmallTypes.nextOf (.ref i1) >>= _) _ _ _
 rcases hk with rfl | ⟨k1,rfl⟩
 ·refine wpAny_bind (G1.done _ _ _ (e1 q1 D.i1z g1) fun A2 e q2 he=>?_)
  obtain⟨oe,HH,hce⟩:=he
  have z2:IsZip A2 z TI TO .ellipsis:=q2 _ _ D.i1z.symm z1
  have ez:e≠z:=fun q=>by rw[q,z2] at HH;cases HH;exact absurd (show Value.type "zip" = Value.type "StopIteration" from hce) (by decide)
  exact wpAny_setField_rec z2 (by simp) fun A3 _ q3=>hE A3 _ e (fun c o c1 _ c3 _ p=>q3.extBut _ _ c1 (q2 _ _ c3 (q1.extBut _ _ c1 p))) ⟨oe,q3.extBut _ _ ez HH,hce⟩
 ·refine wpAny_bind (G1.item k _ _ _ k1 (e1 q1 D.i1z g1) fun x A2 tk px UU q2=>wpAny_pure ?_)
  have o2:IsPair A2 TO a b:=q2.extBut _ _ D.TOi1 (q1.extBut _ _ D.TOz hTO)
  refine wpAny_bind (wpAny_seqItems o2 rfl (wpAny_bind (wpAny_updateSeq_pair o2 fun A3 o3 q3=>?_)))
  refine wpAny_bind (wpAny_letGo (wpAny_pure (wpAny_bind (wpAny_bind (wpAny_onRaise ?_)))))
  show wpAny _ _ (Builtin.SmallTypes.nextOf (.ref i2) >>= _) _ _ _
  refine wpAny_bind (G2.done _ _ _ (e2 q3 D.TOi2.symm D.l2TO (e2 q2 D.i12.symm D.l2i1 (e2 q1 D.i2z D.l2z g2))) fun A4 e q4 he=>?_)
  obtain⟨oe,HH,hce⟩:=he
  have z4:IsZip A4 z TI TO .ellipsis:=q4 _ _ D.i2z.symm (q3.extBut _ _ D.TOz.symm (q2.extBut _ _ D.i1z.symm z1))
  have ez:e≠z:=fun q=>by rw[q,z4] at HH;cases HH;exact absurd (show Value.type "zip" = Value.type "StopIteration" from hce) (by decide)
  exact wpAny_setField_rec z4 (by simp) fun A5 _ q5=>hE A5 _ e (fun c o c1 c2 c3 c4 p=>q5.extBut _ _ c1 (q4 _ _ c4 (q3.extBut _ _ c2 (q2.extBut _ _ c3 (q1.extBut _ _ c1 p))))) ⟨oe,q5.extBut _ _ ez HH,hce⟩
def qz (h:Heap) (it:Addr) (x:Str) (t:Tok) (i:Nat):Prop:=h.IsStrIter it "str_ascii_iterator" x t i∨h.IsStrIter it "str_iterator" x t i
theorem xE (hh:A.handled=none) (it:Addr) (x:Str) (t:Tok):Draws prog w A it [it] x.cps.size (fun i v=>∃ c u,x.cps[i]? = some c∧v=.str ⟨#[c]⟩ u) (fun i h=>qz h it x t i) where
 live:=fun i h st=>by
  rcases st with st | st
  ·exact(Draws.strAscii (prog:=prog) (w:=w) hh it x t).live i h st
  ·exact(Draws.strWide (prog:=prog) (w:=w) hh it x t).live i h st
 frame:=fun i h h' st hk=>by
  rcases st with st | st
  ·exact .inl ((Draws.strAscii (prog:=prog) (w:=w) hh it x t).frame i h h' st hk)
  ·exact .inr ((Draws.strWide (prog:=prog) (w:=w) hh it x t).frame i h h' st hk)
 item:=fun i s Q E hi st hQ=>by
  rcases st with st | st
  ·exact(Draws.strAscii (prog:=prog) (w:=w) hh it x t).item i s Q E hi st fun v h' tk p q r=>hQ v h' tk p (.inl q) r
  ·exact(Draws.strWide (prog:=prog) (w:=w) hh it x t).item i s Q E hi st fun v h' tk p q r=>hQ v h' tk p (.inr q) r
 done:=fun s Q E st hE=>by
  rcases st with st | st
  ·exact(Draws.strAscii (prog:=prog) (w:=w) hh it x t).done s Q E st hE
  ·exact(Draws.strWide (prog:=prog) (w:=w) hh it x t).done s Q E st hE
theorem CM {h h':Heap}{it:Addr}{x:Str}{t:Tok}{i:Nat} (q:qz h it x t i) (e:∀ o,h.get? it=some o→h'.get? it=some o):qz h' it x t i:=by
 rcases q with ⟨o,ho,r⟩ | ⟨o,ho,r⟩
 ·exact .inl ⟨o,e _ ho,r⟩
 ·exact .inr ⟨o,e _ ho,r⟩
theorem zm {h:Heap}{it:Addr}{x:Str}{t:Tok}{i:Nat} (q:qz h it x t i):∃ o,h.get? it=some o∧∃ vs,o.data=.fields vs:=by
 rcases q with ⟨o,ho,_,r⟩ | ⟨o,ho,_,r⟩
 ·exact⟨o,ho,_,r⟩
 ·exact⟨o,ho,_,r⟩
theorem xF (hh:A.handled=none) (z TI TO i1 i2 l:Addr) (D:ZipApart z TI TO i1 i2 l l) (x:Str) (t:Tok) (ys:Array Value) :
  WalksT prog w A z [z,TI,TO,i1,i2,l] [z,TO,i1,i2] (min x.cps.size ys.size)
   (fun i vals=>∃ c u y,x.cps[i]? = some c∧ys[i]? = some y∧vals = #[.str ⟨#[c]⟩ u,y])
   (fun i h=>IsZip h z TI TO .none∧IsPair h TI (.ref i1) (.ref i2)∧(∃ a b,IsPair h TO a b)∧qz h i1 x t i∧h.IsListIter i2 l i∧h.IsList l ys)
   (fun i T h=>IsZip h z TI TO (rawInt T)∧IsPair h TI (.ref i1) (.ref i2)∧(∃ a b,IsPair h TO a b)∧qz h i1 x t (i+1)∧h.IsListIter i2 l (i+1)∧h.IsList l ys∧T≠z∧T≠TO∧T≠i1∧T≠i2) where
 sub:=fun c hc=>by
  simp only[List.mem_cons,List.mem_nil_iff,or_false] at hc ⊢
  rcases hc with q | q | q | q <;> simp[q]
 frame:=fun i h h' st hk=>by
  obtain⟨p1,p2,⟨a,b,p3⟩,p4,p5,p6⟩:=st
  exact⟨hk z (by simp) _ p1,hk TI (by simp) _ p2,⟨a,b,hk TO (by simp) _ p3⟩,CM p4 fun o e=>hk i1 (by simp) o e,p5.at fun o e=>hk i2 (by simp) o e,p6.at fun o e=>hk l (by simp) o e⟩
 item:=fun i s Q E hi st hQ=>by
  obtain⟨p1,p2,⟨a,b,p3⟩,p4,p5,p6⟩:=st
  have hT:s.TypeIs (.ref z) "zip" := ⟨_,p1,rfl⟩
  unfold pyNext
  refine wpAny_bind (wpAny_attempt (wpAny_callSpecial?_slot (name:=Str.ofString "__next__") hT F.slot_zip_next (wpAny_call_entry F.slot_zip_next hT F.entry_zip_next ?_ (F.args_zip_next_1 _))))
  refine EF (S1:=fun i h=>qz h i1 x t i) (S2:=fun i h=>h.IsListIter i2 l i∧h.IsList l ys) D (xE (A:=A.in1) hh i1 x t) (Draws.list (A:=A.in1) hh i2 l D.l2i2 ys) p1 p2 p3 p4 ⟨p5,p6⟩ (Nat.lt_of_lt_of_le hi (Nat.min_le_left ..)) (Nat.lt_of_lt_of_le hi (Nat.min_le_right ..)) fun h' tk u y pu py r1 r2 r3 r4 r5 kp=>?_
  obtain⟨c,tu,hc,rfl⟩:=pu
  have lt:∀{c o},s.heap.get? c=some o→s.heap.objs.size≠c:=fun e=>Nat.ne_of_gt (Heap.lt_size e)
  refine wpAny_pure (hQ s.heap.objs.size #[.str ⟨#[c]⟩ tu,y] h' tk ⟨c,tu,y,hc,py,rfl⟩ (Nat.le_refl _) ⟨_,r5,rfl,_,rfl⟩ ⟨r1,kp _ _ D.TIz D.TITO D.TIi1 D.TIi2 p2,⟨_,_,r2⟩,r3,r4.1,r4.2,lt p1,lt p3,?_,?_⟩ fun c o hc e=>kp c o (fun q=>hc (by simp[q])) (fun q=>hc (by simp[q])) (fun q=>hc (by simp[q])) (fun q=>hc (by simp[q])) e)
  ·obtain⟨o,ho,_⟩:=zm p4;exact lt ho
  ·obtain⟨o,ho,_⟩:=p5;exact lt ho
 go:=fun elts k pos i T s Q E hm hQ=>by
  obtain⟨p1,p2,⟨a,b,p3⟩,p4,p5,p6,_⟩:=hm
  refine wpAny_letOwnedTupleGo_zip p1 fun h' z' q=>hQ h' ⟨z',q.extBut _ _ D.TIz p2,⟨a,b,q.extBut _ _ D.TOz p3⟩,CM p4 fun o e=>q.extBut _ _ D.i1z e,p5.extBut q.extBut D.i2z,p6.extBut q.extBut D.l2z⟩ fun c o hc e=>q.extBut _ _ (fun y=>hc (by simp[y])) e
 apart:=fun i T h hm hT=>by
  obtain⟨_,_,_,_,_,_,t1,t2,t3,t4⟩:=hm
  simp only[List.mem_cons,List.mem_nil_iff,or_false] at hT
  rcases hT with q | q | q | q
  ·exact t1 q
  ·exact t2 q
  ·exact t3 q
  ·exact t4 q
 done:=fun s Q E st hQ=>by
  obtain⟨p1,p2,⟨a,b,p3⟩,p4,p5,p6⟩:=st
  have hT:s.TypeIs (.ref z) "zip" := ⟨_,p1,rfl⟩
  unfold pyNext
  refine wpAny_bind (wpAny_attempt (wpAny_callSpecial?_slot (name:=Str.ofString "__next__") hT F.slot_zip_next (wpAny_call_entry F.slot_zip_next hT F.entry_zip_next ?_ (F.args_zip_next_1 _))))
  refine HG (S1:=fun i h=>qz h i1 x t i) (S2:=fun i h=>h.IsListIter i2 l i∧h.IsList l ys) D (xE (A:=A.in1) hh i1 x t) (Draws.list (A:=A.in1) hh i2 l D.l2i2 ys) p1 p2 p3 p4 ⟨p5,p6⟩ ?_ fun h' tk e kp he=>?_
  ·by_cases q:x.cps.size≤ys.size
   ·exact .inl (Nat.min_eq_left q)
   ·exact .inr ⟨by omega,Nat.min_eq_right (by omega)⟩
  ·obtain⟨o,ho,hc⟩:=he
   refine wpAny_bind (wpAny_isInstance (T := "StopIteration") (b:=true) ⟨o,ho,hc⟩ isSubtype_stop (wpAny_pure (hQ _ _ fun c o hc e=>kp c o (fun q=>hc (by simp[q])) (fun q=>hc (by simp[q])) (fun q=>hc (by simp[q])) (fun q=>hc (by simp[q])) e)))
 self:=fun i s Q E st hQ=>wpAny_pyIter_zip st.1 hQ
end
def Be (K:W.Frag) (z:Str) (b:Addr):It :=
 ⟨fun i H=>∃ ys c y,aP K H b ys∧z.cps[i]? = some c∧ys[i]? = some y,
  fun i H v H'=>∃ t c y,H t=none∧v=.ref t∧H'=upd H t (.tup [.str (sg c),y])∧z.cps[i]? = some c∧(∀ ys,aP K H b ys→ys[i]? = some y),
  fun i H=>∃ ys,aP K H b ys∧min z.cps.size ys.length=i⟩
theorem Bf {P:Program}{w:World}{K:W.Frag}{elts:List Expr}{k:Nat}{pos:Pos}{z TI TO i1 i2 l:Addr}{x:Str}{t:Tok} (D:ZipApart z TI TO i1 i2 l l) :
  Turn P w K (.Tuple elts k pos) (Be K x l) [z,TI,TO,i1,i2] z (fun i h=>IsZip h z TI TO .none∧IsPair h TI (.ref i1) (.ref i2)∧(∃ a b,IsPair h TO a b)∧qz h i1 x t i∧h.IsListIter i2 l i) where
 mem:=by simp
 obj:=fun i h st b hb=>by
  obtain⟨p1,p2,⟨a,c,p3⟩,p4,⟨o2,e2,c2,d2⟩⟩:=st
  simp only[List.mem_cons,List.mem_nil_iff,or_false] at hb
  rcases hb with rfl | rfl | rfl | rfl | rfl
  ·exact⟨_,p1,fun v q=>by cases q⟩
  ·exact⟨_,p2,fun v q=>by cases q⟩
  ·exact⟨_,p3,fun v q=>by cases q⟩
  ·obtain⟨o,ho,vs,hv⟩:=zm p4;exact⟨o,ho,fun v q=>by rw[hv] at q;cases q⟩
  ·exact⟨_,e2,fun v q=>by rw[d2] at q;cases q⟩
 keep:=fun i h h' st k=>by
  obtain⟨p1,p2,⟨a,c,p3⟩,p4,p5⟩:=st
  exact⟨k z (by simp) _ p1,k TI (by simp) _ p2,⟨a,c,k TO (by simp) _ p3⟩,CM p4 fun o e=>k i1 (by simp) o e,p5.at fun o e=>k i2 (by simp) o e⟩
 item:=by
  intro X hP hw hK hc i pins s σ H E I hf st hg
  subst hP hw hK
  obtain⟨ys,c,y,hy,ec,ey⟩:=hg
  obtain⟨its,rv,p,hz⟩:=I.list hy
  obtain⟨u,hu,ru⟩:=rv.get ey
  obtain⟨p1,p2,p3,p4,p5⟩:=id st
  have W:=xF (prog:=X.prog) (w:=X.w) (A:=X.A) (I.ok.hd hc) z TI TO i1 i2 l D x t its.toArray
  have hsub:∀ b∈[z,TO,i1,i2],b∈[z,TI,TO,i1,i2]:=by
   intro b hb
   simp only[List.mem_cons,List.mem_nil_iff,or_false] at hb ⊢
   rcases hb with q | q | q | q <;> simp[q]
  refine uJ (J:=Be X.K x l) (tn:=fun i h=>IsZip h z TI TO .none∧IsPair h TI (.ref i1) (.ref i2)∧(∃ a b,IsPair h TO a b)∧qz h i1 x t i∧h.IsListIter i2 l i) W I hf hsub ?_ ?_ ?_ ?_ ?_
  ·intro b hb
   obtain⟨a',b',p3⟩:=p3
   obtain⟨o1,e1,_⟩:=zm p4
   obtain⟨o2,e2,_⟩:=p5
   simp only[List.mem_cons,List.mem_nil_iff,or_false] at hb
   rcases hb with rfl | rfl | rfl | rfl | rfl
   ·exact Heap.lt_size p1
   ·exact Heap.lt_size p2
   ·exact Heap.lt_size p3
   ·exact Heap.lt_size e1
   ·exact Heap.lt_size e2
  ·have h1:=(Array.getElem?_eq_some_iff.mp ec).1
   have h2:=(List.getElem?_eq_some_iff.mp hu).1
   simp only[List.size_toArray]
   omega
  ·exact⟨p1,p2,p3,p4,p5,p.isList⟩
  ·rintro vals ⟨c',tu,v2,q1,q2,rfl⟩
   rw[ec] at q1;cases q1
   have q2:its[i]? = some v2:=by simpa using q2
   rw[hu] at q2;cases q2
   exact⟨[.str (sg c),y],(by show 2≤sizeLine;decide),.cons ⟨tu,rfl⟩ (.cons ru .nil),fun T hT=>⟨T,c,y,hT,rfl,rfl,ec,fun zs hz=>by rw[I.qY hz hy];exact ey⟩⟩
  ·exact fun h q=>⟨q.1,q.2.1,q.2.2.1,q.2.2.2.1,q.2.2.2.2.1⟩
 done:=by
  intro X hP hw hK hc i pins s σ H E I hf st hg
  subst hP hw hK
  obtain⟨ys,hy,hmin⟩:=hg
  obtain⟨its,rv,p,hz⟩:=I.list hy
  obtain⟨p1,p2,p3,p4,p5⟩:=id st
  have e2:its.toArray.size=ys.length:=by rw[rv.length];exact List.size_toArray ..
  have e:i=min x.cps.size its.toArray.size:=by rw[e2,hmin]
  subst e
  have W:=xF (prog:=X.prog) (w:=X.w) (A:=X.A) (I.ok.hd hc) z TI TO i1 i2 l D x t its.toArray
  have hsub:∀ b∈[z,TO,i1,i2],b∈[z,TI,TO,i1,i2]:=by
   intro b hb
   simp only[List.mem_cons,List.mem_nil_iff,or_false] at hb ⊢
   rcases hb with q | q | q | q <;> simp[q]
  exact uK W I hf hsub ⟨p1,p2,p3,p4,p5,p.isList⟩
 self:=fun _ _ _ _ _ st h=>wpAny_pyIter_zip st.1 h
def dS (x:Str) (t:Tok):Obj:={ cls:=.type (if x.cps.all (· < 128)=true then "str_ascii_iterator" else "str_iterator"),data:=.fields #[.str x t,.int 0 0] }
theorem HJ {h:Heap}{it:Addr}{x:Str}{t:Tok} (e:h.get? it=some (dS x t)):qz h it x t 0:=by
 unfold dS at e
 cases ha:x.cps.all (· < 128)
 ·rw[ha,if_neg (by decide)] at e;exact .inr ⟨_,e,rfl,rfl⟩
 ·rw[ha,if_pos rfl] at e;exact .inl ⟨_,e,rfl,rfl⟩
section
variable {prog:Program}{w:World}{A:Around}{E:Value→Shared→Prop}{s:Shared}
theorem EG {x:Str}{t:Tok}{Q:Value→Shared→Prop} (hQ:Q (.ref s.heap.objs.size) { s with heap:=s.heap.push (dS x t) }):wpAny (model prog w) A (pyIter (.str x t)) Q E s:=by
 unfold dS at hQ
 cases ha:x.cps.all (· < 128)
 ·rw[ha,if_neg (by decide)] at hQ;exact wpAny_pyIter_wide ha hQ
 ·rw[ha,if_pos rfl] at hQ;exact wpAny_pyIter_ascii ha hQ
end
abbrev Pk (h:Heap) (o:Obj):Heap:=h.push o
abbrev zs2 (h:Heap) (o:Obj) (l:Addr):Heap:=(Pk h o).push { cls:=.type "list_iterator",data:=.fields #[.ref l,.int 0 0] }
abbrev Po (h:Heap) (o:Obj) (l:Addr):Heap:=(zs2 h o l).push { cls:=.type "tuple",data:=.seq #[.ref h.objs.size,.ref (Pk h o).objs.size] }
abbrev Pp (h:Heap) (o:Obj) (l:Addr):Heap:=(Po h o l).push { cls:=.type "tuple",data:=.seq #[.none,.none] }
abbrev J9 (h:Heap) (o:Obj) (l:Addr):Heap:=(Pp h o l).push { cls:=.type "zip",data:=.fields #[.none,.bool false,.bool false,.ref (zs2 h o l).objs.size,.ref (Po h o l).objs.size] }
theorem CN (x:Str) (t:Tok) (l:Addr) (ys:Array Value):Meets (Builtin.«zip.__new__» ⟨[.type "zip",.str x t,.ref l],[]⟩) (fun _ R s=>s.heap.IsList l ys∧R (.ok (.ret (.ref (Pp s.heap (dS x t) l).objs.size))) { s with heap:=J9 s.heap (dS x t) l }) :=
 .of_wp fun prog w A R s h=>by
  obtain⟨hp,g,d,tk,os⟩:=s
  obtain⟨hl,h⟩:=h
  have hsub:=sub_zip
  have hL:Heap.IsList (Shared.heap ⟨hp.push (dS x t),g,d,tk,os⟩) l ys:=Heap.IsList.push hl _
  wp_walk using EG,wpAny_pyIter_list hL
  exact⟨_,rfl,h⟩
section
variable {prog:Program}{w:World}{A:Around}{E:Value→Shared→Prop}{s:Shared}
theorem Bg {x:Str}{t:Tok}{l:Addr}{ys:Array Value}{Q:Value→Shared→Prop} (hl:s.heap.IsList l ys)
  (h:∀ h',IsZip h' (s.heap.objs.size+4) (s.heap.objs.size+2) (s.heap.objs.size+3) .none→IsPair h' (s.heap.objs.size+2) (.ref s.heap.objs.size) (.ref (s.heap.objs.size+1))→IsPair h' (s.heap.objs.size+3) .none .none →
   qz h' s.heap.objs.size x t 0→h'.IsListIter (s.heap.objs.size+1) l 0→(∀ c o,s.heap.get? c=some o→h'.get? c=some o)→Q (.ref (s.heap.objs.size+4)) { s with heap:=h' }) :
  wpAny (model prog w) A (call (.type "zip") [.str x t,.ref l]) Q E s:=by
 refine callType_new F.called_zip (by decide) (F.typeCall_zip_2 _ _) (F.newCall_zip_2 _ _) (fun obj=>F.args_object_init_3 obj _ _) F.entry_zip_new (CN x t l ys) ⟨hl,?_⟩
 have n1:(Pk s.heap (dS x t)).objs.size=s.heap.objs.size+1:=Heap.size_push ..
 have n2:(zs2 s.heap (dS x t) l).objs.size=s.heap.objs.size+2:=by rw[Heap.size_push,n1]
 have n3:(Po s.heap (dS x t) l).objs.size=s.heap.objs.size+3:=by rw[Heap.size_push,n2]
 have n4:(Pp s.heap (dS x t) l).objs.size=s.heap.objs.size+4:=by rw[Heap.size_push,n3]
 have up:∀{h:Heap}{c:Addr}{u o:Obj},h.get? c=some o→(h.push u).get? c=some o:=fun e=>Heap.get?_push_of_some _ e
 have r5:(J9 s.heap (dS x t) l).get? (Pp s.heap (dS x t) l).objs.size=some _:=Heap.get?_push_size _ rfl
 have r4:(J9 s.heap (dS x t) l).get? (Po s.heap (dS x t) l).objs.size=some _:=up (Heap.get?_push_size _ rfl)
 have r3:(J9 s.heap (dS x t) l).get? (zs2 s.heap (dS x t) l).objs.size=some _:=up (up (Heap.get?_push_size _ rfl))
 have r2:(J9 s.heap (dS x t) l).get? (Pk s.heap (dS x t)).objs.size=some _:=up (up (up (Heap.get?_push_size _ rfl)))
 have r1:(J9 s.heap (dS x t) l).get? s.heap.objs.size=some (dS x t):=up (up (up (up (Heap.get?_push_size _ rfl))))
 show _∧_
 rw[n2,n3,n4] at r5
 rw[n1,n2] at r3
 rw[n3] at r4
 rw[n1] at r2
 rw[n4]
 exact⟨⟨_,r5,rfl⟩,h _ r5 r3 r4 (HJ r1) ⟨_,r2,rfl,rfl⟩ fun c o q=>up (up (up (up (up q))))⟩
end
def Ld (K:W.Frag) (ta:TA):TI:=fun σ H R=>ta σ H fun vs H1=>∃ z b,vs=[.str z,.ref b]∧(∃ ys,aP K H1 b ys)∧R (Be K z b) H1
theorem CO {X:Cx}{elts:List Expr}{k:Nat}{tpos:Pos}{a b:Expr}{ta:TA}{p pos:Pos} (K:W.Frag) (hK:X.K=K) (hg:Gl X "zip") (hm:X.mg "zip" = none) (ha:PA X [a,b] ta) (hs:starEach [a,b] X.env=[(false,eval a X.env),(false,eval b X.env)]:=by rfl) (hs2:starEach [b] X.env=[(false,eval b X.env)]:=by rfl) :
  PI X (.Tuple elts k tpos) (.Call (.Name "zip" p) [a,b] [] pos) (Ld K ta):=by
 subst hK
 intro pins s σ H R I h
 refine Call_ (ku I hg hm (u:=.type "zip") (by decide +kernel) (PyProof.Rows.callWith_type1 (bY (ha pos pins s σ H _ I h) fun us s1 ⟨vs,H1,I1,r1,q1⟩=>?_) (by rw[hs,hs2]) (by rw[hs2];rfl)))
 obtain⟨z,l,e,⟨ys,hy⟩,q⟩:=q1
 subst e
 cases r1 with
 | cons r rr =>
  cases rr with
  | cons r' rr =>
   cases rr
   obtain⟨t,rfl⟩:=r
   cases r'
   obtain⟨its,rv,pl,hz⟩:=I1.list hy
   have hlt:l < s1.heap.objs.size:=by obtain⟨o,ho,_⟩:=pl.isList;exact Heap.lt_size ho
   refine Bg pl.isList fun h' hz' hTI hTO hi1 hi2 hk=>?_
   refine wpAny_pyIter_zip hz' ?_
   have I2:Inv X pins σ H1 { s1 with heap:=h' }:=I1.kept (t':=s1.toks) fun b o e=>hk b o e
   refine⟨s1.heap.objs.size+4,_,_,_,H1,rfl,I2,Bf (x:=z) (t:=t) (HE s1.heap.objs.size l l hlt hlt),⟨hz',hTI,⟨_,_,hTO⟩,hi1,hi2⟩,fun b hb=>?_,q⟩
   have hb':s1.heap.objs.size≤b:=by
    simp only[List.mem_cons,List.mem_nil_iff,or_false] at hb
    rcases hb with rfl | rfl | rfl | rfl | rfl
    ·exact Nat.le_add_right _ _
    ·exact Nat.le_add_right _ _
    ·exact Nat.le_add_right _ _
    ·exact Nat.le_refl _
    ·exact Nat.le_add_right _ _
   exact I1.nQ hb' (I1.hok.fresh hb')
theorem CP {K:W.Frag}{z:Str}{b:Addr}{ys:List V}{g:TG}{tb:TS}{D:Ends}{σ:St}{H:Hp} (Pv:Nat→St→Hp→Prop) (h0:Pv 0 σ H) (hl:∀ i σ H,i≤min z.cps.size ys.length→Pv i σ H→aP K H b ys)
  (hs:∀ i c y t σ H,z.cps[i]? = some c→ys[i]? = some y→H t=none→Pv i σ H→g (.ref t) σ (upd H t (.tup [.str (sg c),y])) fun σ2 H2=>tb { D with nx:=Pv (i+1),ct:=Pv (i+1),bk:=D.nx } σ2 H2) (hd:∀ σ H,Pv (min z.cps.size ys.length) σ H→D.nx σ H) :
  ∃ W:Nat→Nat→St→Hp→Prop,(∃ m,W 0 m σ H)∧∀ i m σ H,W i m σ H →
   ((Be K z b).stop i H∧D.nx σ H)∨((Be K z b).go i H∧∃ N:St→Hp→Prop,(∀ σ' H',N σ' H'→∃ m',m' < m∧W (i+1) m' σ' H')∧∀ x H',(Be K z b).Ce i H x H'→g x σ H' fun σ2 H2=>tb { D with nx:=N,ct:=N,bk:=D.nx } σ2 H2):=by
 refine⟨fun i m σ H=>m=min z.cps.size ys.length - i∧i≤min z.cps.size ys.length∧Pv i σ H,⟨_,rfl,Nat.zero_le _,h0⟩,?_⟩
 rintro i m σ H ⟨rfl,hi,p⟩
 have q:=hl i σ H hi p
 by_cases hlt:i < min z.cps.size ys.length
 ·have h1:i < z.cps.size:=by omega
  have h2:i < ys.length:=by omega
  refine .inr ⟨⟨ys,z.cps[i],ys[i],q,by simp[h1],by simp[h2]⟩,Pv (i+1),fun σ' H' p'=>⟨_,(by omega:min z.cps.size ys.length - (i+1) < _),rfl,hlt,p'⟩,fun v H' y=>?_⟩
  obtain⟨t,c,y,ht,e1,e2,ec,ey⟩:=y
  subst e1 e2
  exact hs i c y t σ _ ec (ey ys q) ht p
 ·have e:i=min z.cps.size ys.length:=by omega
  subst e
  exact .inl ⟨⟨ys,q,rfl⟩,hd σ H p⟩
section
variable {prog:Program}{w:World}{A:Around}{E:Value→Shared→Prop}{s:Shared}
end
section
variable {prog:Program}{w:World}{A:Around}{E:Value→Shared→Prop}{s:Shared}
end
section
variable {X:Cx}
end
theorem Bh {K:W.Frag}{a:Addr}{xs:List V}{g:TG}{tt:TT}{te:TE}{Q:VK}{D:Addr}{τ:St}{H:Hp} (Pv:Nat→List V→St→Hp→Prop) (h0:Pv 0 [] τ (upd H D (.lst [])))
  (hl:∀ i ys τ H,i≤xs.length→Pv i ys τ H→aP K H a xs∧H D=some (.lst ys))
  (hs:∀ i x t ys τ H,xs[i]? = some x→H t=none→Pv i ys τ H→g (.ref t) τ (upd H t (.tup [.int i,x])) fun τ2 H2=>tt τ2 H2 fun b H3=>if b=true then te τ2 H3 fun y H4=>H4 D=some (.lst ys)∧ys.length < sizeLine∧Pv (i+1) (ys++[y]) τ2 (upd H4 D (.lst (ys++[y]))) else Pv (i+1) ys τ2 H3)
  (hd:∀ ys τ H,Pv xs.length ys τ H→Q (.ref D) H) :
  nT (HF K a) g tt te Q D τ H:=by
 refine⟨fun i m ys τ H=>m=xs.length - i∧i≤xs.length∧Pv i ys τ H,⟨xs.length,by simp,Nat.zero_le _,h0⟩,?_⟩
 rintro i m ys τ H ⟨rfl,hi,p⟩
 obtain⟨q,hD⟩:=hl i ys τ H hi p
 refine⟨hD,?_⟩
 by_cases hlt:i < xs.length
 ·refine .inr ⟨⟨xs,xs[i],q,by simp[hlt]⟩,Pv (i+1),fun zs σ' H' p'=>⟨xs.length - (i+1),by omega,rfl,hlt,p'⟩,fun v H' y=>?_⟩
  obtain⟨t,x,ht,e1,e2,ex⟩:=y
  subst e1 e2
  exact hs i x t ys τ _ (ex xs q) ht p
 ·have e:i=xs.length:=by omega
  subst e
  exact .inl ⟨⟨xs,q,rfl⟩,hd ys τ H p⟩
section
variable {X:Cx}{pins:List (Addr×Obj)}{σ:St}{H:Hp}{s:Shared}
end
section
variable {X:Cx}
end
structure uM (prog:Program) (w:World) (K:Type) [DecidableEq K] where
 is:Heap→K→Value→Prop
 hash:K→Int
 draws:K→Nat
 vH:Nat
 inj:∀{h:Heap}{v:Value}{x y:K},is h x v→is h y v→x=y
 keeps:∀{h h':Heap}{k:K}{v:Value}{d:Addr}{o:Obj}{es ep},is h k v→h.get? d=some o→o.data=.dict es ep→Heap.SameBut d h h'→is h' k v
 pyHash:∀{A:Around}{E:Value→Shared→Prop}{s:Shared}{k:K}{v:Value}{Q:Int→Shared→Prop},A.units+vH < cLine→is s.heap k v→Q (hash k) { s with toks:=s.toks+draws k }→wpAny (model prog w) A (PySem.pyHash v) Q E s
 eq:∀{A:Around}{s:Shared}{x y:K}{u v:Value},A.units+vH < cLine→is s.heap x u→is s.heap y v→SeqAt.EqAt A s u v (decide (x=y))
 quiet:∀{A:Around}{E:Value→Shared→Prop}{s:Shared}{k:K}{v:Value}{Q:Bool→Shared→Prop}{n:Nat},vH≤n→is s.heap k v→Q true s→wpAny (model prog w) A (eqIsQuiet n v) Q E s
section
variable {prog:Program}{w:World}{K:Type} [DecidableEq K] (V:uM prog w K)
def TupIs (h:Heap) (ks:List K) (a:Addr):Prop:=∃ o items n,h.get? a=some o∧o.cls=.type "tuple"∧o.data=.seq items n∧Paired (fun k v=>V.is h k v) ks items.toList
def vI (ks:List K):Int:=reduceHash (Builtin.Tuple.tupleHashOf (ks.map V.hash))
variable {V}
theorem TupIs.ty {s:Shared}{ks:List K}{a:Addr} (x:TupIs V s.heap ks a):s.TypeIs (.ref a) "tuple" := by obtain⟨o,_,_,ho,hc,_⟩:=x;exact⟨o,ho,hc⟩
theorem rG {h:Heap}:∀{x y:List K}{vs:List Value},Paired (fun k v=>V.is h k v) x vs→Paired (fun k v=>V.is h k v) y vs→x=y
 | _,_,_,.nil,.nil=>rfl
 | _,_,_,.cons a r,.cons b q=>by rw[V.inj a b,rG r q]
theorem TupIs.inj {h:Heap}{a:Addr}{x y:List K} (hx:TupIs V h x a) (hy:TupIs V h y a):x=y:=by
 obtain⟨o,items,n,ho,_,hd,hi⟩:=hx
 obtain⟨o',items',n',ho',_,hd',hi'⟩:=hy
 rw[ho] at ho'
 cases ho'
 rw[hd] at hd'
 cases hd'
 exact rG hi hi'
theorem TupIs.keeps {h h':Heap}{ks:List K}{a d:Addr}{o:Obj}{es ep} (x:TupIs V h ks a) (ho:h.get? d=some o) (hd:o.data=.dict es ep) (hs:Heap.SameBut d h h'):TupIs V h' ks a:=by
 obtain⟨o',items,n,e1,e2,e3,e4⟩:=x
 have hne:a≠d:=fun e=>by
  subst e
  rw[e1] at ho
  cases ho
  rw[hd] at e3;cases e3
 exact⟨o',items,n,(hs.2 a hne).trans e1,e2,e3,Paired.AR e4 fun k v q=>V.keeps q ho hd hs⟩
variable {A:Around}{E:Value→Shared→Prop}{s:Shared}
theorem CQ {ks:List K}{a:Addr}{Q:Int→Shared→Prop} (hu:A.units+(V.vH+1) < cLine) (hk:TupIs V s.heap ks a) (h:Q (vI V ks) { s with toks:=s.toks+((ks.map V.draws).sum+1) }) :
  wpAny (model prog w) A (pyHash (.ref a)) Q E s:=by
 have hT:=hk.ty
 have gA:A.units < cLine:=by omega
 obtain⟨o,items,n,ho,_,hd,hi⟩:=hk
 unfold pyHash
 first | unfold pyHashByItsType | skip
 first | refine wpAny_bind (wpAny_cRoomFor_or (.inr gA) ?_) | skip
 refine wpAny_bind (wpAny_specialOf hT F.slot_tuple_hash.lookup ?_);show wpAny _ _ (if (some (Value.builtin "tuple.__hash__") == some Value.none)=true then _ else _) Q E s
 rw[if_neg (by rw[beq_builtin_none];exact Bool.false_ne_true)];refine wpAny_bind (wpAny_specialOf hT F.slot_tuple_hash.lookup ?_)
 show wpAny _ _ (callSpecialIfBoundUnlessNone? (.ref a) "__hash__" _ >>= _) Q E s;refine wpAny_bind (wpAny_callSpecialIfBoundUnlessNone?_slot hT F.slot_tuple_hash (wpAny_call_entry F.slot_tuple_hash hT F.entry_tuple_hash ?_ (F.args_tuple_hash_1 _)))
 have hu1:A.in1.units+V.vH < cLine:=by show A.units+1+V.vH < cLine;omega
 show wpAny _ _ (Builtin.Tuple.tupleItemsOf (.ref a) >>= _) _ _ s
 refine wpAny_bind (wpAny_tupleItemsOf ho hd (wpAny_bind ?_))
 rw[←Array.forIn_toList]
 refine wpAny_forIn_list _ (fun rest (b:Array Int) s'=>∃ done left,ks=done++left∧Paired (fun k v=>V.is s.heap k v) left rest∧b.toList=done.map V.hash∧s'={ s with toks:=s.toks+(done.map V.draws).sum }) _ ?_ ?_ _ _ ⟨[],ks,rfl,hi,rfl,rfl⟩
 ·rintro x rest b s' ⟨done,left,rfl,hl,hb,rfl⟩
  cases hl with
  | @cons k _ ks' _ h1 hl' =>
   have fin:∃ d l,done++k :: ks'=d++l∧Paired (fun k v=>V.is s.heap k v) l rest∧(b.push (V.hash k)).toList=d.map V.hash∧({ s with toks:=s.toks+(done.map V.draws).sum+V.draws k }:Shared)={ s with toks:=s.toks+(d.map V.draws).sum }:=⟨done++[k],ks',by simp,hl',by simp[hb],by simp[Nat.add_assoc]⟩
   refine wpAny_bind (V.pyHash hu1 h1 ?_)
   first
    | exact wpAny_pure fin
    | exact wpAny_bind (wpAny_pure (wpAny_pure fin))
 ·rintro b s' ⟨done,left,rfl,hl,hb,rfl⟩
  cases hl
  rw[List.append_nil] at h
  show wpAny _ _ (retInt (Builtin.Tuple.tupleHashOf b.toList)) _ _ _
  rw[hb]
  refine wpAny_ret_mkInt ?_
  generalize hz:Builtin.Tuple.tupleHashOf (done.map V.hash)=z
  unfold vI reduceHash at h
  rw[hz] at h
  show wpAny _ _ (if (decide (-(2:Int) ^ 63≤z) && decide (z < 2 ^ 63))=true then _ else _) Q E _
  by_cases hr:(decide (-(2:Int) ^ 63≤z) && decide (z < 2 ^ 63))=true
  ·rw[if_pos hr] at h ⊢
   exact wpAny_pure (by simpa [Nat.add_assoc] using h)
  ·rw[if_neg hr] at h ⊢
   exact wpAny_bind (wpAny_rule (wpAny_pure (by simpa [Nat.add_assoc] using h)))
theorem zo {x y:List K}:((List.range (min x.length y.length)).all (fun j=>decide (x[j]? = y[j]?)) && x.length == y.length)=decide (x=y):=by
 rw[Bool.eq_iff_iff,Bool.and_eq_true,List.all_eq_true,decide_eq_true_iff,beq_iff_eq]
 constructor
 ·rintro⟨q,hl⟩
  refine List.ext_getElem? fun i=>?_
  by_cases hi:i < x.length
  ·exact of_decide_eq_true (q i (List.mem_range.mpr (by omega)))
  ·rw[List.getElem?_eq_none (by omega),List.getElem?_eq_none (by omega)]
 ·rintro rfl
  exact⟨fun i _=>decide_eq_true rfl,rfl⟩
theorem nc {F:K→Value→Prop}:∀{ks:List K}{vs:List Value},Paired F ks vs→∀(j:Nat) v,vs[j]? = some v→∃ k,ks[j]? = some k∧F k v
 | _,_,.nil,j,v,h=>by simp at h
 | _,_,.cons a r,0,v,h=>by cases h;exact⟨_,rfl,a⟩
 | _,_,.cons a r,j+1,v,h=>by
  rw[List.getElem?_cons_succ] at h
  obtain⟨k,e,q⟩:=nc r j v h
  exact⟨k,by rw[List.getElem?_cons_succ];exact e,q⟩
theorem HK {x y:List K}{a b:Addr} (hu:A.units+(V.vH+1) < cLine) (hx:TupIs V s.heap x a) (hy:TupIs V s.heap y b):SeqAt.EqAt A s (.ref a) (.ref b) (decide (x=y)):=by
 by_cases e:a=b
 ·subst e
  rw[decide_eq_true (hx.inj hy)]
  exact SeqAt.EqAt.same _
 ·obtain⟨o,items,n,h1,h2,h3,h4⟩:=hx
  obtain⟨o',items',n',Pq,h2',h3',UW⟩:=hy
  have l1:x.length=items.size:=by rw[Paired.length h4,Array.length_toList]
  have l2:y.length=items'.size:=by rw[Paired.length UW,Array.length_toList]
  refine SeqAt.EqAt.of_refs e ?_
  rw[←zo,l1,l2]
  refine SeqAt.RcAt.tuples ⟨o,h1,h2,n,h3⟩ ⟨o',Pq,h2',n',h3'⟩ (by omega) fun j j1 j2=>?_
  obtain⟨k,ek,hk⟩:=nc h4 j items[j] (by simp[j1])
  obtain⟨k',Xn,hk'⟩:=nc UW j items'[j] (by simp[j2])
  rw[ek,Xn,show decide (some k=some k')=decide (k=k') by simp]
  exact V.eq (by show A.units+1+V.vH < cLine;omega) hk hk'
theorem Bj {ks:List K}{a:Addr}{Q:Bool→Shared→Prop}{n:Nat} (hn:V.vH+1≤n) (hk:TupIs V s.heap ks a) (h:Q true s):wpAny (model prog w) A (eqIsQuiet n (.ref a)) Q E s:=by
 have hT:=hk.ty
 obtain⟨o,items,m,ho,_,hd,hi⟩:=hk
 obtain⟨n,rfl⟩:∃ n',n=n'+1:=⟨n - 1,by omega⟩
 unfold eqIsQuiet
 refine wpAny_bind (wpAny_specialOf hT F.slot_tuple_eq.lookup ?_);show wpAny _ _ (isInstance (.ref a) (.type "tuple") >>= _) _ _ s
 refine wpAny_bind (wpAny_isInstance hT isSubtype_tuple_tuple ?_)
 simp only[Bool.not_true,Bool.false_eq_true,if_false]
 refine wpAny_bind (wpAny_seqItems ho hd (wpAny_bind ?_))
 show wpAny _ _ (forIn items _ _) _ _ s
 rw[←Array.forIn_toList]
 refine wpAny_forIn_list _ (fun rest r s'=>r.1=none∧s'=s∧∃ l,Paired (fun k v=>V.is s.heap k v) l rest) _ ?_ ?_ _ _ ⟨rfl,rfl,ks,hi⟩
 ·rintro v rest r s' ⟨hr,rfl,l,hl⟩
  cases hl with
  | @cons k _ ks' _ h1 hl' =>
   refine wpAny_bind (V.quiet (by omega) h1 ?_)
   simp only[Bool.not_true,Bool.false_eq_true,if_false]
   exact wpAny_pure ⟨rfl,rfl,ks',hl'⟩
 ·rintro⟨r1,r2⟩ s' ⟨hr,rfl,_⟩
  simp only at hr
  subst hr
  exact wpAny_pure h
end
abbrev Lf:=Option Key
def xG:Lf→Value→Prop
 | none,v=>v=.none
 | some k,v=>nO k v=true
section
variable {prog:Program}{w:World}{A:Around}{E:Value→Shared→Prop}{s:Shared}
theorem Bk {Q:Int→Shared→Prop} (hu:A.units < cLine) (h:Q 4238894112 { s with toks:=s.toks+1 }):wpAny (model prog w) A (pyHash .none) Q E s:=by
 have hT:s.TypeIs .none "NoneType" := rfl
 unfold pyHash
 first | unfold pyHashByItsType | skip
 first | refine wpAny_bind (wpAny_cRoomFor_or (.inr hu) ?_) | skip
 refine wpAny_bind (wpAny_specialOf hT F.slot_NoneType_hash.lookup ?_)
 show wpAny _ _ (if (some (Value.builtin "NoneType.__hash__") == some Value.none)=true then _ else _) Q E s
 rw[if_neg (by rw[beq_builtin_none];exact Bool.false_ne_true)];refine wpAny_bind (wpAny_specialOf hT F.slot_NoneType_hash.lookup ?_)
 show wpAny _ _ (callSpecialIfBoundUnlessNone? .none "__hash__" _ >>= _) Q E s
 refine wpAny_bind (wpAny_callSpecialIfBoundUnlessNone?_slot hT F.slot_NoneType_hash (wpAny_call_entry F.slot_NoneType_hash hT F.entry_NoneType_hash ?_ (F.args_NoneType_hash_1 _)))
 show wpAny _ _ (retInt 4238894112) _ _ _
 refine wpAny_ret_mkInt ?_
 show wpAny _ _ (if (decide (-(2:Int) ^ 63≤4238894112) && decide ((4238894112:Int) < 2 ^ 63))=true then _ else _) Q E _
 rw[if_pos (by decide)]
 exact wpAny_pure h
theorem i8 {k:Key}{v:Value} (h:nO k v=true):(∃ i t,k=.inl i∧v=.int i t)∨∃ z t,k=.inr z∧v=.str z t:=bH h
theorem CS (prog:Program) (w:World) {v:Value}{x y:Lf} (hx:xG x v) (hy:xG y v):x=y:=by
 cases x with
 | none =>
  cases y with
  | none=>rfl
  | some k=>rcases i8 hy with ⟨i,t,rfl,e⟩ | ⟨z,t,rfl,e⟩ <;> (rw[show v=.none from hx] at e;cases e)
 | some k =>
  cases y with
  | none=>rcases i8 hx with ⟨i,t,rfl,e⟩ | ⟨z,t,rfl,e⟩ <;> (rw[show v=.none from hy] at e;cases e)
  | some k'=>rw[(bV prog w).inj v k k' hx hy]
theorem Gx {x y:Lf}{u v:Value} (hx:xG x u) (hy:xG y v):SeqAt.EqAt A s u v (decide (x=y)):=by
 cases x with
 | none =>
  have hx:u=.none:=hx
  subst hx
  cases y with
  | none =>
   have hy:v=.none:=hy
   subst hy
   rw[decide_eq_true rfl];exact SeqAt.EqAt.same _
  | some k =>
   rw[decide_eq_false (by simp)]
   rcases i8 hy with ⟨i,t,rfl,rfl⟩ | ⟨z,t,rfl,rfl⟩
   ·exact SeqAt.EqAt.none_int _ _
   ·exact SeqAt.EqAt.none_str _ _
 | some k =>
  cases y with
  | none =>
   have hy:v=.none:=hy
   subst hy
   rw[decide_eq_false (by simp)]
   rcases i8 hx with ⟨i,t,rfl,rfl⟩ | ⟨z,t,rfl,rfl⟩
   ·exact SeqAt.EqAt.int_none _ _
   ·exact SeqAt.EqAt.str_none _ _
  | some k' =>
   rw[show decide (some k=some k')=decide (k=k') by simp]
   rcases i8 hx with ⟨i,t,rfl,rfl⟩ | ⟨z,t,rfl,rfl⟩ <;> rcases i8 hy with ⟨i',t',rfl,rfl⟩ | ⟨z',t',rfl,rfl⟩
   ·rw[B0];exact SeqAt.EqAt.int_int _ _ _ _
   ·rw[B5];exact SeqAt.EqAt.int_str _ _ _ _
   ·rw[B6];exact SeqAt.EqAt.str_int _ _ _ _
   ·rw[B3,show decide (z=z')=(z == z') by rw[Bool.eq_iff_iff,decide_eq_true_iff,beq_iff_eq]];exact SeqAt.EqAt.str_str _ _ _ _
theorem zp {x:Lf}{v:Value} (h:xG x v):carriedByValue v=true:=by
 cases x with
 | none=>rw[show v=.none from h];rfl
 | some k=>rcases i8 h with ⟨i,t,rfl,rfl⟩ | ⟨z,t,rfl,rfl⟩ <;> rfl
end
def CU (w:World):Lf→Int
 | none=>4238894112
 | some k=>Kn w k
def Aq (prog:Program) (w:World):uM prog w Lf where
 is:=fun _ k v=>xG k v
 hash:=CU w
 draws:=fun _=>1
 vH:=0
 inj:=fun hx hy=>CS prog w hx hy
 keeps:=fun h _ _ _=>h
 pyHash:=fun {A E s k v Q} hu h q=>by
  cases k with
  | none =>
   have h:v=.none:=h
   subst h
   exact Bk hu q
  | some k=>exact(bV prog w).pyHash h q
 eq:=fun _ hx hy=>Gx hx hy
 quiet:=fun {A E s k v Q n} _ h q=>by rw[eqIsQuiet_byValue n (zp h)];exact wpAny_pure q
section
variable {prog:Program}{w:World}{K:Type} [DecidableEq K] (V:uM prog w K)
def HL (h:Heap):Lf ⊕ List K→Value→Prop
 | .inl k,v=>xG k v
 | .inr ks,v=>∃ a,v=.ref a∧TupIs V h ks a
def HM:Lf ⊕ List K→Int
 | .inl k=>CU w k
 | .inr ks=>vI V ks
def EH:Lf ⊕ List K→Nat
 | .inl _=>1
 | .inr ks=>(ks.map V.draws).sum+1
variable {V}
theorem CV {k:Lf}{a:Addr} (h:xG k (.ref a)):False:=by
 cases k with
 | none=>cases(show Value.ref a=.none from h)
 | some k=>rcases i8 h with ⟨i,t,rfl,e⟩ | ⟨z,t,rfl,e⟩ <;> cases e
theorem Le {A:Around}{s:Shared}{x y:Lf ⊕ List K}{u v:Value} (hu:A.units+(V.vH+1) < cLine) (hx:HL V s.heap x u) (hy:HL V s.heap y v):SeqAt.EqAt A s u v (decide (x=y)):=by
 cases x with
 | inl k =>
  cases y with
  | inl k' =>
   rw[show decide ((Sum.inl k:Lf ⊕ List K)=.inl k')=decide (k=k') by simp]
   exact Gx hx hy
  | inr ks =>
   obtain⟨a,rfl,o,items,n,h1,h2,h3,h4⟩:=hy
   rw[decide_eq_false (fun q=>nomatch q)]
   cases k with
   | none =>
    have hx:u=.none:=hx
    subst hx
    exact SeqAt.EqAt.none_tuple ⟨o,h1,h2,n,h3⟩ (by omega)
   | some k =>
    rcases i8 hx with ⟨i,t,rfl,rfl⟩ | ⟨z,t,rfl,rfl⟩
    ·exact SeqAt.EqAt.int_tuple _ _ ⟨o,h1,h2,n,h3⟩ (by omega)
    ·exact SeqAt.EqAt.str_tuple _ _ ⟨o,h1,h2,n,h3⟩ (by omega)
 | inr ks =>
  obtain⟨a,rfl,hxa⟩:=hx
  cases y with
  | inl k' =>
   obtain⟨o,items,n,h1,h2,h3,h4⟩:=hxa
   rw[decide_eq_false (fun q=>nomatch q)]
   cases k' with
   | none =>
    have hy:v=.none:=hy
    subst hy
    exact SeqAt.EqAt.tuple_none ⟨o,h1,h2,n,h3⟩ (by omega)
   | some k =>
    rcases i8 hy with ⟨i,t,rfl,rfl⟩ | ⟨z,t,rfl,rfl⟩
    ·exact SeqAt.EqAt.tuple_int _ _ ⟨o,h1,h2,n,h3⟩ (by omega)
    ·exact SeqAt.EqAt.tuple_str _ _ ⟨o,h1,h2,n,h3⟩ (by omega)
  | inr ks' =>
   obtain⟨b,rfl,QM⟩:=hy
   rw[show decide ((Sum.inr ks:Lf ⊕ List K)=.inr ks')=decide (ks=ks') by simp]
   exact HK hu hxa QM
def stepK (V:uM prog w K):uM prog w (Lf ⊕ List K) where
 is:=HL V
 hash:=HM V
 draws:=EH V
 vH:=V.vH+1
 inj:=fun {h v x y} hx hy=>by
  cases x with
  | inl k =>
   cases y with
   | inl k'=>rw[CS prog w hx hy]
   | inr ks=>obtain⟨a,rfl,_⟩:=hy;exact(CV hx).elim
  | inr ks =>
   obtain⟨a,rfl,hxa⟩:=hx
   cases y with
   | inl k'=>exact(CV hy).elim
   | inr ks'=>obtain⟨b,e,QM⟩:=hy;cases e;rw[hxa.inj QM]
 keeps:=fun {h h' k v d o es ep} hx ho hd hs=>by
  cases k with
  | inl k=>exact hx
  | inr ks=>obtain⟨a,rfl,hxa⟩:=hx;exact⟨a,rfl,hxa.keeps ho hd hs⟩
 pyHash:=fun {A E s k v Q} hu hx q=>by
  cases k with
  | inl k=>exact(Aq prog w).pyHash (by show A.units+0 < cLine;omega) hx q
  | inr ks=>obtain⟨a,rfl,hxa⟩:=hx;exact CQ hu hxa q
 eq:=fun hu hx hy=>Le hu hx hy
 quiet:=fun {A E s k v Q n} hn hx q=>by
  cases k with
  | inl k=>exact(Aq prog w).quiet (Nat.zero_le _) hx q
  | inr ks=>obtain⟨a,rfl,hxa⟩:=hx;exact Bj hn hxa q
end
section
variable {κ:Type} [DecidableEq κ]
def i9 (kvs:List (κ×V)) (k:κ):Option V:=(kvs.find? fun kv=>decide (kv.1=k)).map (·.2)
def putK (kvs:List (κ×V)) (k:κ) (v:V):List (κ×V) :=
 if (kvs.any fun kv=>decide (kv.1=k))=true then kvs.map (fun kv=>if kv.1=k then (kv.1,v) else kv) else kvs++[(k,v)]
theorem nW {p:κ×V}{r:List (κ×V)}{k:κ} (e:p.1=k):i9 (p :: r) k=some p.2:=by simp[i9,List.find?_cons,e]
theorem nX {p:κ×V}{r:List (κ×V)}{k:κ} (e:¬p.1=k):i9 (p :: r) k=i9 r k:=by simp[i9,List.find?_cons,e]
theorem rH (k:κ):∀ kvs:List (κ×V),(kvs.any fun kv=>decide (kv.1=k))=(i9 kvs k).isSome
 | []=>rfl
 | p :: r=>by
  rw[List.any_cons]
  by_cases e:p.1=k
  ·simp only[nW e,decide_eq_true e,Bool.true_or,Option.isSome_some]
  ·rw[nX e,decide_eq_false e,Bool.false_or];exact rH k r
theorem qf (kvs:List (κ×V)) (k:κ) (v:V):(putK kvs k v).length≤kvs.length+1:=by
 unfold putK
 split
 ·rw[List.length_map];omega
 ·rw[List.length_append,List.length_cons,List.length_nil];omega
theorem xH {kvs:List (κ×V)}{k:κ} (v:V) (h:i9 kvs k=none):putK kvs k v=kvs++[(k,v)]:=by
 unfold putK
 rw[rH,h]
 exact if_neg (by decide)
theorem ki.pH {o:Option V}{u:Option Value} (r:ki o u):o.isSome=u.isSome:=by
 cases o with
 | none=>cases u with
  | none=>rfl
  | some _=>exact(show False from r).elim
 | some _=>cases u with
  | none=>exact(show False from r).elim
  | some _=>rfl
theorem ki.getD {o:Option V}{u:Option Value}{d:V}{d':Value} (r:ki o u) (rd:RelV d d'):RelV (o.getD d) (u.getD d'):=by
 cases o with
 | none=>cases u with
  | none=>exact rd
  | some _=>exact(show False from r).elim
 | some _=>cases u with
  | none=>exact(show False from r).elim
  | some _=>exact r
theorem KV.val {kvs:List (κ×V)}{vs:List (κ×Value)} (r:KV kvs vs) (k:κ):ki (i9 kvs k) (valueAt vs k):=by
 unfold KV at r
 induction r with
 | nil=>exact True.intro
 | @cons p q ps qs h t ih =>
  obtain⟨h1,h2⟩:=h
  by_cases e:p.1=k
  ·have e':q.1=k:=h1.symm.trans e
   have b:valueAt (q :: qs) k=some q.2:=by simp[valueAt,List.find?_cons,e']
   rw[nW e,b];exact h2
  ·have e':¬q.1=k:=fun z=>e (h1.trans z)
   have b:valueAt (q :: qs) k=valueAt qs k:=by simp[valueAt,List.find?_cons,e']
   rw[nX e,b];exact ih
theorem KV.any {kvs:List (κ×V)}{vs:List (κ×Value)} (r:KV kvs vs) (k:κ):(kvs.any fun kv=>decide (kv.1=k))=vs.any fun kv=>decide (kv.1=k):=by
 unfold KV at r
 induction r with
 | nil=>rfl
 | cons h t ih=>rw[List.any_cons,List.any_cons,ih,h.1]
theorem KV.repl {kvs:List (κ×V)}{vs:List (κ×Value)} (r:KV kvs vs) (k:κ) {y:V}{u:Value} (ry:RelV y u) :
  KV (kvs.map fun kv=>if kv.1=k then (kv.1,y) else kv) (vs.map fun kv=>if kv.1=k then (kv.1,u) else kv):=by
 unfold KV at r ⊢
 induction r with
 | nil=>exact .nil
 | @cons p q ps qs h t ih =>
  rw[List.map_cons,List.map_cons]
  refine .cons ?_ ih
  obtain⟨h1,h2⟩:=h
  by_cases e:p.1=k
  ·rw[if_pos e,if_pos (h1.symm.trans e)];exact⟨h1,ry⟩
  ·rw[if_neg e,if_neg (fun z=>e (h1.trans z))];exact⟨h1,h2⟩
theorem KV.put {kvs:List (κ×V)}{vs:List (κ×Value)} (r:KV kvs vs) (k:κ) {y:V}{u:Value} (ry:RelV y u):KV (putK kvs k y) (stored vs k u):=by
 unfold putK stored
 rw[r.any k]
 by_cases e:(vs.any fun kv=>decide (kv.1=k))=true
 ·rw[if_pos e,if_pos e];exact r.repl k ry
 ·rw[if_neg e,if_neg e];exact Paired.snoc r ⟨rfl,ry⟩
theorem KV.length {kvs:List (κ×V)}{vs:List (κ×Value)} (r:KV kvs vs):kvs.length=vs.length:=Paired.length r
end
theorem uN {P:Program}{w:World}{k:Key}{u:Value} (r:RelV (kV k) u):(bV P w).is k u=true:=by
 cases k with
 | inl i=>obtain⟨t,e⟩:=(show ∃ t,u=Value.int i t from r);subst e;exact xg P w i t
 | inr x=>obtain⟨t,e⟩:=(show ∃ t,u=Value.str x t from r);subst e;exact xh P w x t
theorem uO {P:Program}{w:World}:∀{ks:List Key}{us:List Value},Vals (ks.map kV) us→ItemsAre (bV P w) ks us
 | [],_,r=>by rw[List.map_nil] at r;cases r;exact .nil
 | k :: ks,_,r=>by
  rw[List.map_cons] at r
  cases r with
  | cons h t=>exact .cons (uN h) (uO t)
abbrev KT (H:Hp):List (List Key×V)→List (List Key×Addr×Value)→Prop:=Paired fun p q=>p.1=q.1∧H q.2.1=some (.tup (p.1.map kV))∧RelV p.2 q.2.2
theorem KT.val {H:Hp}{kvs:List (List Key×V)}{xs:List (List Key×Addr×Value)} (r:KT H kvs xs) (k:List Key):ki (i9 kvs k) ((atKey xs k).map (·.2)):=by
 induction r with
 | nil=>exact True.intro
 | @cons p q ps qs h t ih =>
  obtain⟨h1,_,h2⟩:=h
  by_cases e:p.1=k
  ·have e':q.1=k:=h1.symm.trans e
   have b:atKey (q :: qs) k=some q.2:=by simp[atKey,List.find?_cons,e']
   rw[nW e,b];exact h2
  ·have e':¬q.1=k:=fun z=>e (h1.trans z)
   have b:atKey (q :: qs) k=atKey qs k:=by simp[atKey,List.find?_cons,e']
   rw[nX e,b];exact ih
theorem KT.repl {H:Hp}{kvs:List (List Key×V)}{xs:List (List Key×Addr×Value)} (r:KT H kvs xs) (k:List Key) {y:V}{u:Value} (ry:RelV y u) :
  KT H (kvs.map fun kv=>if kv.1=k then (kv.1,y) else kv) (xs.map (putAt k u)):=by
 induction r with
 | nil=>exact .nil
 | @cons p q ps qs h t ih =>
  rw[List.map_cons,List.map_cons]
  refine .cons ?_ ih
  obtain⟨h1,h2,h3⟩:=h
  unfold putAt
  by_cases e:p.1=k
  ·rw[if_pos e,if_pos (h1.symm.trans e)];exact⟨h1,h2,ry⟩
  ·rw[if_neg e,if_neg (fun z=>e (h1.trans z))];exact⟨h1,h2,h3⟩
theorem KT.put {H:Hp}{kvs:List (List Key×V)}{xs:List (List Key×Addr×Value)} (r:KT H kvs xs) (k:List Key) {b:Addr}{y:V}{u:Value} (hb:H b=some (.tup (k.map kV))) (ry:RelV y u) :
  KT H (putK kvs k y) (storedH xs k b u):=by
 have e:(kvs.any fun kv=>decide (kv.1=k))=(atKey xs k).isSome:=by
  rw[rH,(r.val k).pH,Option.isSome_map]
 unfold putK storedH
 rw[e]
 by_cases q:(atKey xs k).isSome=true
 ·rw[if_pos q,if_pos q];exact r.repl k ry
 ·rw[if_neg q,if_neg q];exact Paired.snoc r ⟨rfl,hb,ry⟩
theorem KT.keeps {H H':Hp}{kvs:List (List Key×V)}{xs:List (List Key×Addr×Value)} (r:KT H kvs xs) (ht:∀ b ys,H b=some (.tup ys)→H' b=some (.tup ys)):KT H' kvs xs :=
 Paired.AR r fun _ _ z=>⟨z.1,ht _ _ z.2.1,z.2.2⟩
section
variable {P:Program}{w:World}{H:Hp}{h:Heap}{a:Addr}
theorem Gy {u:HO} (ok:nM P w H h) (e:Rd H a u):bD P w H h a u:=e.ok ok
theorem uP {kvs:List (Key×V)} (ok:nM P w H h) (e:Rd H a (.dK kvs)):kvs.length≤sizeLine∧(a == sysModules)=false∧∃ vs,KV kvs vs∧h.DictOf (bV P w) a vs :=
 show bD P w H h a (.dK kvs) from Gy ok e
theorem Lg {kvs:List (Key×V)} (ok:nM P w H h) (e:H a=some (.dK kvs)):kvs.length≤sizeLine∧(a == sysModules)=false∧∃ vs,KV kvs vs∧h.DictOf (bV P w) a vs:=uP ok (.inl e)
theorem rJ {ks:List Key} (ok:nM P w H h) (e:H a=some (.tup (ks.map kV))):(tupleKind (bV P w)).is h ks a:=by
 obtain⟨_,its,r,o,h1,h2,n,h3⟩:=(show bD P w H h a (.tup (ks.map kV)) from ok a _ e)
 exact⟨o,its.toArray,n,h1,h2,h3,by simpa using uO r⟩
theorem uQ {kvs:List (List Key×V)} (ok:nM P w H h) (e:Rd H a (.dT kvs)):kvs.length≤sizeLine∧(a == sysModules)=false ∧
  ∃ xs,KT H kvs xs∧h.DictOfH (tupleKind (bV P w)) a xs:=by
 obtain⟨z,y,xs,r,o,es,ep,h1,h2,h3,h4,h5⟩:=(show bD P w H h a (.dT kvs) from Gy ok e)
 refine⟨z,y,xs,r,o,es,ep,h1,h2,h3,h4,fun x hx=>?_,h5⟩
 have all:∀{l:List (List Key×V)}{m:List (List Key×Addr×Value)},KT H l m→∀ x∈m,(tupleKind (bV P w)).is h x.1 x.2.1:=by
  intro l m q
  induction q with
  | nil=>intro x hx;exact nomatch hx
  | @cons p q ps qs hq t ih =>
   intro x hx
   rcases List.mem_cons.mp hx with e | hx
   ·subst e
    exact rJ ok (by rw[←hq.1];exact hq.2.1)
   ·exact ih x hx
 exact all r x hx
theorem Lh {kvs:List (List Key×V)} (ok:nM P w H h) (e:H a=some (.dT kvs)):kvs.length≤sizeLine∧(a == sysModules)=false ∧
 ∃ xs,KT H kvs xs∧h.DictOfH (tupleKind (bV P w)) a xs:=uQ ok (.inl e)
end
def mw (H:Hp) (a:Addr) (y:V) (r:Option V):Prop :=
 (∃ kvs k,Rd H a (.dK kvs)∧y=kV k∧r=i9 kvs k)∨∃ kvs k b,Rd H a (.dT kvs)∧y=.ref b∧H b=some (.tup (k.map kV))∧r=i9 kvs k
def xJ (H:Hp) (a:Addr) (y v:V) (H':Hp):Prop :=
 (∃ kvs k,H a=some (.dK kvs)∧y=kV k∧kvs.length < sizeLine∧H'=upd H a (.dK (putK kvs k v))) ∨
 ∃ kvs k b,H a=some (.dT kvs)∧y=.ref b∧H b=some (.tup (k.map kV))∧kvs.length < sizeLine∧H'=upd H a (.dT (putK kvs k v))
theorem mw.k {H:Hp}{a:Addr}{kvs:List (Key×V)}{k:Key} (e:H a=some (.dK kvs)):mw H a (kV k) (i9 kvs k):=.inl ⟨kvs,k,.inl e,rfl,rfl⟩
theorem mw.t {H:Hp}{a b:Addr}{kvs:List (List Key×V)}{k:List Key} (e:H a=some (.dT kvs)) (eb:H b=some (.tup (k.map kV))):mw H a (.ref b) (i9 kvs k):=.inr ⟨kvs,k,b,.inl e,rfl,eb,rfl⟩
theorem xJ.k {H:Hp}{a:Addr}{kvs:List (Key×V)}{k:Key}{v:V} (e:H a=some (.dK kvs)) (hl:kvs.length < sizeLine):xJ H a (kV k) v (upd H a (.dK (putK kvs k v))):=.inl ⟨kvs,k,e,rfl,hl,rfl⟩
theorem xJ.t {H:Hp}{a b:Addr}{kvs:List (List Key×V)}{k:List Key}{v:V} (e:H a=some (.dT kvs)) (eb:H b=some (.tup (k.map kV))) (hl:kvs.length < sizeLine) :
 xJ H a (.ref b) v (upd H a (.dT (putK kvs k v))):=.inr ⟨kvs,k,b,e,rfl,eb,hl,rfl⟩
section
variable {X:Cx}{pins:List (Addr×Obj)}{σ:St}{H:Hp}{s:Shared}{a:Addr}{y v:V}{u r:Value}{o:Option V}{A:Around}{E:Value→Shared→Prop}
theorem Inv.big (I:Inv X pins σ H s):sysModules < s.heap.objs.size:=by
 have h:mainGlobals < s.heap.objs.size:=(I.mod.glob.keeps I.bk).lt
 exact Nat.lt_trans (by decide) h
theorem Bl {Q:Value→Shared→Prop} (hu:A.units+1 < cLine) (I:Inv X pins σ H s) (g:mw H a y (some v)) (ry:RelV y u) (h:∀ w' s',Inv X pins σ H s'→RelV v w'→Q w' s') :
  wpAny (model X.prog X.w) A (getItem (.ref a) u) Q E s:=by
 rcases g with ⟨kvs,k,e,ey,l⟩ | ⟨kvs,k,b,e,ey,eb,l⟩
 ·subst ey
  obtain⟨z,hd,vs,rel,dd⟩:=uP I.hok e
  obtain⟨w',hw,rw'⟩:=ki.some_of (v:=v) (o:=valueAt vs k) (by rw[l];exact rel.val k)
  exact wpAny_getItem_of (uN ry) dd.mapOf hw (h w' _ (I.tok _) rw')
 ·subst ey
  cases(show u=Value.ref b from ry)
  obtain⟨z,hd,xs,rel,dd⟩:=uQ I.hok e
  obtain⟨w',hw,rw'⟩:=ki.some_of (v:=v) (o:=(atKey xs k).map (·.2)) (by rw[l];exact rel.val k)
  obtain⟨p,hp,hp2⟩:=Option.map_eq_some_iff.mp hw
  refine wpAny_getItem_heap (tupleKind_room_in1 hu) (rJ I.hok eb) dd hp ?_
  rw[hp2]
  exact h w' _ (I.tok _) rw'
theorem QN {Q:Value→Shared→Prop} (hu:A.units+1 < cLine) (I:Inv X pins σ H s) (g:mw H a y o) (ry:RelV y u) (h:∀ s',Inv X pins σ H s'→Q (.bool o.isSome) s') :
  wpAny (model X.prog X.w) A (compareOp .In u (.ref a)) Q E s:=by
 rcases g with ⟨kvs,k,e,ey,l⟩ | ⟨kvs,k,b,e,ey,eb,l⟩
 ·subst ey
  obtain⟨z,hd,vs,rel,dd⟩:=uP I.hok e
  refine wpAny_in_of (uN ry) hd dd.mapOf ?_
  rw[←(rel.val k).pH,←l]
  exact h _ (I.tok _)
 ·subst ey
  cases(show u=Value.ref b from ry)
  obtain⟨z,hd,xs,rel,dd⟩:=uQ I.hok e
  refine wpAny_in_heap (tupleKind_room_in1 hu) (rJ I.hok eb) hd dd ?_
  have q:=(rel.val k).pH
  rw[Option.isSome_map] at q
  rw[←q,←l]
  exact h _ (I.tok _)
theorem Ar {h':Heap}{t':Nat}{ob:HO} (I:Inv X pins σ H s) (mu:Ko (H a)) (hs:Heap.SameBut a s.heap h') (he:∃ q,h'.get? a=some q) (new:bD X.prog X.w (upd H a ob) h' a ob) :
  Inv X pins σ (upd H a ob) { s with heap:=h',toks:=t' } :=
 I.write (x:=a) (e:=a) mu (.inl rfl) (fun b q hb z=>(hs.2 b hb).trans z) he new
theorem HN {P:Program}{w:World}{H':Hp}{h':Heap}{kvs:List (Key×V)}{vs:List (Key×Value)} (z:kvs.length≤sizeLine) (hd:(a == sysModules)=false) (rel:KV kvs vs) (dd:h'.DictOf (bV P w) a vs) :
 bD P w H' h' a (.dK kvs):=⟨z,hd,vs,rel,dd⟩
theorem Bm {H':Hp}{Q:Unit→Shared→Prop} (hu:A.units+1 < cLine) (I:Inv X pins σ H s) (g:xJ H a y v H') (ry:RelV y u) (rv:RelV v r) (h:∀ s',Inv X pins σ H' s'→Q () s') :
  wpAny (model X.prog X.w) A (setItem (.ref a) u r) Q E s:=by
 rcases g with ⟨kvs,k,e,ey,l,eH⟩ | ⟨kvs,k,b,e,ey,eb,l,eH⟩
 ·subst ey eH
  obtain⟨z,hd,vs,rel,dd⟩:=Lg I.hok e
  have hz:vs.length≤sizeLine:=by rw[←rel.length];exact z
  have hl:(putK kvs k v).length≤sizeLine:=by have:=qf kvs k v;omega
  refine wpAny_setItem_pairs (hsz:=hz) (uN ry) dd fun h' Pr hs=>h _ ?_
  have he:∃ q,h'.get? a=some q:=let ⟨q,_,_,hq,_⟩:=Pr;⟨q,hq⟩
  exact Ar I (by rw[e];exact True.intro) hs he (HN hl hd (rel.put k rv) Pr)
 ·subst ey eH
  cases(show u=Value.ref b from ry)
  obtain⟨z,hd,xs,rel,dd⟩:=Lh I.hok e
  have hz:xs.length≤sizeLine:=by rw[←Paired.length rel];exact z
  have hl:(putK kvs k v).length≤sizeLine:=by have:=qf kvs k v;omega
  refine wpAny_setItem_heap (hsz:=hz) (tupleKind_room_in1 hu) (rJ I.hok eb) dd fun h' Pr hs=>h _ ?_
  obtain⟨q,es,ep,hq,h2,h3,h4,_,h5⟩:=Pr
  refine Ar I (by rw[e];exact True.intro) hs ⟨q,hq⟩ ⟨hl,hd,_,(rel.put k eb rv).keeps fun c ys ec=>?_,q,es,ep,hq,h2,h3,h4,h5⟩
  rw[aC (qU ec e (fun z=>nomatch z))]
  exact ec
end
section
variable {X:Cx}{pins:List (Addr×Obj)}{σ:St}{H:Hp}{s:Shared}{a:Addr}{kvs:List (Key×V)}{k:Key}{u:Value}{A:Around}{E:Value→Shared→Prop}
end
def Li (i:Expr):Prop:=∀ ov iv,subscripted i false ov iv=operate [ov,iv] (getItem ov iv)
theorem EI {prog:Program}{w:World}{A:Around}{E:Value→Shared→Prop}{s:Shared}{env:Env}{value slice:Expr}{pos:Pos}{T id:String}{Q:Value→Shared→Prop}
  (hl:typeLookup (.type T) "__getitem__" = pure (some (.builtin id))) (hs:Li slice)
  (h:wpAny (model prog w) A (eval value env) (fun o s₁=>wpAny (model prog w) A (eval slice env) (fun i s₂=>s₂.TypeIs o T∧wpAny (model prog w) A (getItem o i) Q E s₂) E s₁) E s) :
  wpAny (model prog w) A (eval (.Subscript value slice pos) env) Q E s:=by
 refine Subscript_ (wpAny_mono h (fun o s₁ h₁=>wpAny_mono h₁ (fun i s₂ h₂=>?_) fun _ _ x=>x) fun _ _ x=>x)
 obtain⟨hT,h₂⟩:=h₂
 unfold subscriptTail
 refine wpAny_bind ?_
 rw[getitemInPython_of_ne hT.not_modules]
 refine wpAny_bind (wpAny_specialOf hT hl ?_)
 have fin:wpAny (model prog w) A (subscripted slice false o i) (fun r s₃=>wpAny (model prog w) A (letTemporaryGo value o r >>= fun _=>pure r) Q E s₃) E s₂:=by
  rw[hs o i]
  exact wpAny_operating (wpAny_mono h₂ (fun r s₃ h₃=>wpAny_bind (wpAny_letTemporaryGo (wpAny_pure h₃))) fun _ _ x=>x)
 first
  | exact wpAny_pure (wpAny_bind fin)
  | exact wpAny_bind (wpAny_pure (wpAny_bind fin))
  | exact wpAny_bind fin
theorem xK {X:Cx}{pins:List (Addr×Obj)}{σ:St}{H:Hp}{s:Shared}{a:Addr}{y:V}{o:Option V} (I:Inv X pins σ H s) (g:mw H a y o):s.TypeIs (.ref a) "dict" := by
 rcases g with ⟨kvs,k,e,_,_⟩ | ⟨kvs,k,b,e,_,_,_⟩
 ·obtain⟨_,_,vs,_,dd⟩:=uP I.hok e
  exact dd.typeIs
 ·obtain⟨_,_,xs,_,dd⟩:=uQ I.hok e
  exact dd.typeIs
def Lj (td ty:TE):TE:=fun σ H Q=>td σ H fun x H1=>ty σ H1 fun y H2=>∃ a v,x=.ref a∧mw H2 a y (some v)∧Q v H2
def QO (ty td:TE):TE:=fun σ H Q=>ty σ H fun y H1=>td σ H1 fun x H2=>∃ a o,x=.ref a∧mw H2 a y o∧Q (.bl o.isSome) H2
def Lk (td ty tv:TE):TS:=fun D σ H=>tv σ H fun v H1=>td σ H1 fun x H2=>ty σ H2 fun y H3=>∃ a H4,x=.ref a∧xJ H3 a y v H4∧D.nx σ H4
section
variable {X:Cx}{o i e value:Expr}{pos pos' tpos:Pos}{td ty tv:TE}
theorem nY (hu:X.A.units+1 < cLine) (ho:PE X o td) (hi:PE X i ty) (hs:Li i):PE X (.Subscript o i pos) (Lj td ty):=by
 intro pins s σ H Q I h
 refine EI PySem.F.slot_dict_getitem.lookup hs (bY (ho pins s σ H _ I h) fun u s1 ⟨x,H1,I1,rx,q1⟩=>bY (hi pins s1 σ H1 _ I1 q1) fun iv s2 ⟨y,H2,I2,ry,a,v,ex,g,q2⟩=>?_)
 subst ex
 obtain rfl:u=Value.ref a:=rx
 exact⟨xK I2 g,Bl hu I2 g ry fun w' s3 I3 rw'=>⟨v,H2,I3,rw',q2⟩⟩
theorem HP (hu:X.A.units+1 < cLine) (hi:PE X i ty) (ho:PE X o td):PC X .In i o (QO ty td):=by
 intro pins s σ H Q I h
 refine bY (hi pins s σ H _ I h) fun iv s1 ⟨y,H1,I1,ry,q1⟩=>bY (ho pins s1 σ H1 _ I1 q1) fun u s2 ⟨x,H2,I2,rx,a,ov,ex,g,q2⟩=>?_
 subst ex
 obtain rfl:u=Value.ref a:=rx
 exact QN hu I2 g ry fun s3 I3=>⟨.bl ov.isSome,H2,I3,rfl,q2⟩
theorem As (hu:X.A.units+1 < cLine) (ho:PE X o td) (hi:PE X i ty) (hv:PE X value tv) (hs:swapsWith value (some (.Subscript o i pos')) pos.line X.env=pure false) :
  PS X (.Assign [.Subscript o i pos'] value pos) (Lk td ty tv):=by
 intro pins s σ H D I h
 refine wpAny_Assign_Subscript (bY (hv pins s σ H _ I h) fun r s1 ⟨v,H1,I1,rv,q1⟩=>bY (ho pins s1 σ H1 _ I1 q1) fun u s2 ⟨x,H2,I2,rx,q2⟩=>bY (hi pins s2 σ H2 _ I2 q2) fun iv s3 ⟨y,H3,I3,ry,a,H4,ex,g,q3⟩=>?_) hs
 subst ex
 obtain rfl:u=Value.ref a:=rx
 exact Bm hu I3 g ry rv fun s4 I4=>⟨σ,H4,I4,q3⟩
end
theorem CW {P:Program}{w:World}{H:Hp} (h:Heap) (hb:sysModules < h.objs.size):bD P w H (h.push { cls:=.type "dict",data:=.dict #[] }) h.objs.size (.dK []) :=
 ⟨Nat.zero_le _,beq_eq_false_iff_ne.mpr (Ne.symm (Nat.ne_of_lt hb)),[],.nil,Heap.DictOf.new h⟩
def HQ:TE:=fun _ H Q=>∀ p,H p=none→Q (.ref p) (upd H p (.dK []))
section
variable {X:Cx}{pos:Pos}
theorem xM:PE X (.Dict [] [] pos) HQ:=fun pins s σ H Q I h =>
 wpAny_Dict_empty ⟨.ref s.heap.objs.size,_,I.laid (a:=s.heap.objs.size) (o:=.dK []) (t':=s.toks) (fun _ _ q=>Heap.get?_push_of_some _ q) (Nat.le_refl _) (CW s.heap I.big),rfl,h _ (I.hok.fresh (Nat.le_refl _))⟩
end
structure M1 (X:Cx) (o:Expr) (m:Str) (apos:Pos) (e:Expr) (cpos:Pos):Prop where
 base:attributeBase o m X.env (eval o X.env)=eval o X.env
 few:((backTo cpos (starEach [e] X.env)).all (fun x=>!x.1) && (backToKw cpos (keywordEach [] X.env)).all (fun x=>x.1.isSome)
  && decide (([e]:List Expr).length+([]:List Keyword).length+(if ([]:List Keyword).isEmpty then 0 else 1) < 30))=true
 line:(apos.endLine == cpos.line)=true
 trees:backTo cpos (starEach [e] X.env)=[(false,eval e X.env)]
def UX (H:Hp) (a:Addr):Prop:=(∃ kvs,Rd H a (.dK kvs))∨∃ kvs,Rd H a (.dT kvs)
theorem HR {X:Cx}{pins:List (Addr×Obj)}{σ:St}{H:Hp}{s:Shared}{a:Addr} (I:Inv X pins σ H s) (d:UX H a) :
  s.TypeIs (.ref a) "dict"∧(∀ b,Value.ref a=.ref b→∃ ob,s.heap.get? b=some ob∧ob.dict=none)∧(a == sysModules)=false:=by
 rcases d with ⟨kvs,e⟩ | ⟨kvs,e⟩
 ·obtain⟨_,hd,vs,_,dd⟩:=uP I.hok e
  refine⟨dd.typeIs,fun b q=>?_,hd⟩
  cases q
  obtain⟨ob,_,_,h1,h2,_⟩:=dd
  exact⟨ob,h1,h2.2.1⟩
 ·obtain⟨_,hd,xs,_,dd⟩:=uQ I.hok e
  refine⟨dd.typeIs,fun b q=>?_,hd⟩
  cases q
  obtain⟨ob,_,_,h1,h2,_⟩:=dd
  exact⟨ob,h1,h2.2.1⟩
section
variable {X:Cx}{pins:List (Addr×Obj)}{σ:St}{H:Hp}{s:Shared}{a:Addr}{y d:V}{u r:Value}{o:Option V}{A:Around}{E:Value→Shared→Prop}
theorem HS {Q:Value→Shared→Prop} (hu:A.units+1 < cLine) (I:Inv X pins σ H s) (g:mw H a y o) (ry:RelV y u) (h:∀ w' s',Inv X pins σ H s'→RelV (o.getD .non) w'→Q w' s') :
  wpAny (model X.prog X.w) A (call (.builtin "dict.get") [.ref a,u]) Q E s:=by
 rcases g with ⟨kvs,k,e,ey,l⟩ | ⟨kvs,k,b,e,ey,eb,l⟩
 ·subst ey
  obtain⟨z,hd,vs,rel,dd⟩:=uP I.hok e
  refine call_meetsIn PySem.F.slot_dict_get dd.typeIs PySem.F.entry_dict_get (PySem.F.args_dict_get_2 _ _) (meets_dict_get (bV X.prog X.w) a (uN ry) hd) ⟨_,dd.mapOf,h _ _ (I.tok _) ?_⟩
  rw[l]
  exact(rel.val k).getD rfl
 ·subst ey
  cases(show u=Value.ref b from ry)
  obtain⟨z,hd,xs,rel,dd⟩:=uQ I.hok e
  refine call_meetsIn PySem.F.slot_dict_get dd.typeIs PySem.F.entry_dict_get (PySem.F.args_dict_get_2 _ _) (meetsH_dict_get (tupleKind (bV X.prog X.w)) a b hd) ⟨tupleKind_room_in1 hu,k,xs,rJ I.hok eb,dd,h _ _ (I.tok _) ?_⟩
  rw[l]
  exact(rel.val k).getD rfl
end
def HU (td ty:TE):TE:=fun σ H Q=>td σ H fun x H1=>∃ a,x=.ref a∧UX H1 a∧ty σ H1 fun y H2=>∃ o,mw H2 a y o∧Q (o.getD .non) H2
section
variable {X:Cx}{o e f:Expr}{apos cpos:Pos}{td ty tx:TE}
theorem CY (hu:X.A.units+1 < cLine) (ho:PE X o td) (he:PE X e ty) (m:M1 X o "get" apos e cpos):PE X (.Call (.Attribute o "get" apos) [e] [] cpos) (HU td ty):=by
 intro pins s σ H Q I h
 refine wpAny_Call_method m.base m.few m.line PySem.F.plainAttrs_dict PySem.F.slot_dict_get PySem.F.type_dict_get (bY (ho pins s σ H _ I h) fun u s1 ⟨x,H1,I1,rx,a,ex,d,q1⟩=>?_)
 subst ex
 obtain rfl:u=Value.ref a:=rx
 obtain⟨t1,t2,_⟩:=HR I1 d
 refine⟨t1,t2,?_⟩
 rw[m.trees]
 refine Calls.callWith_builtin rfl (Calls.evalArgs_plain (Calls.spliced_cons (bY (he pins s1 σ H1 _ I1 q1) fun iv s2 ⟨y,H2,I2,ry,ov,g,q2⟩=>Calls.spliced_nil ?_)))
 exact HS hu I2 g ry fun w' s3 I3 rw'=>⟨_,H2,I3,rw',q2⟩
end
section
variable {X:Cx}{pins:List (Addr×Obj)}{σ:St}{H:Hp}{s:Shared}{a:Addr}{kvs:List (Key×V)}{A:Around}{E:Value→Shared→Prop}
end
section
variable {X:Cx}{pins:List (Addr×Obj)}{σ:St}{H:Hp}{s:Shared}{a:Addr}{y:V}{u:Value}{A:Around}{E:Value→Shared→Prop}
end
def UY:Lf→V
 | none=>.non
 | some k=>kV k
theorem qg {α β γ:Type}{F:α→β→Prop}{G:β→γ→Prop}:∀{xs:List α}{ys:List β}{zs:List γ},Paired F xs ys→Paired G ys zs→Paired (fun a c=>∃ b,F a b∧G b c) xs zs
 | _,_,_,.nil,.nil=>.nil
 | _,_,_,.cons a r,.cons b q=>.cons ⟨_,a,b⟩ (qg r q)
section
variable {P:Program}{w:World}{K:Type} [DecidableEq K]
structure D7 (F:W.Frag) (Z:uM P w K) where
 on:Hp→K→V→Prop
 ok:∀{X:Cx}{pins:List (Addr×Obj)}{σ:St}{H:Hp}{s:Shared}{k:K}{v:V}{u:Value},X.K=F→Inv X pins σ H s→RelV v u→on H k v→Z.is s.heap k u
 keep:∀{H H':Hp}{k:K}{v:V},(∀ b xs,bh F H b xs→bh F H' b xs)→on H k v→on H' k v
def Ka {F:W.Frag}{Z:uM P w K} (Y:D7 F Z) (H:Hp) (ks:List K) (b:Addr):Prop:=∃ vs,bh F H b vs∧Paired (fun k v=>Y.on H k v) ks vs
variable {F:W.Frag}{Z:uM P w K}{Y:D7 F Z}{H H':Hp}{ks:List K}{b:Addr}
theorem Ka.is {X:Cx}{pins:List (Addr×Obj)}{σ:St}{s:Shared} (hF:X.K=F) (I:Inv X pins σ H s) (e:Ka Y H ks b):TupIs Z s.heap ks b:=by
 obtain⟨vs,e,r⟩:=e
 obtain⟨its,rv,⟨o,h1,h2,n,h3⟩,_⟩:=I.tuple (by rw[hF];exact e)
 exact⟨o,its.toArray,n,h1,h2,h3,by simpa using Paired.AR (qg r rv) (fun k u ⟨v,a,c⟩=>Y.ok hF I c a)⟩
theorem Ka.keep (t:∀ b xs,bh F H b xs→bh F H' b xs) (e:Ka Y H ks b):Ka Y H' ks b:=by
 obtain⟨vs,e,r⟩:=e
 exact⟨vs,t _ _ e,Paired.AR r fun k v q=>Y.keep t q⟩
end
def Gz (P:Program) (w:World) (F:W.Frag):D7 F (Aq P w) where
 on:=fun _ k v=>v=UY k
 ok:=fun {X pins σ H s k v u} _ _ r e=>by
  subst e
  cases k with
  | none=>cases r;rfl
  | some k=>exact uN (P:=P) (w:=w) r
 keep:=fun _ e=>e
section
variable {P:Program}{w:World}{K:Type} [DecidableEq K]
def QS {F:W.Frag}{Z:uM P w K} (Y:D7 F Z) (H:Hp):Lf ⊕ List K→V→Prop
 | .inl k,v=>v=UY k
 | .inr ks,v=>∃ b,v=.ref b∧Ka Y H ks b
def CZ {F:W.Frag}{Z:uM P w K} (Y:D7 F Z):D7 F (stepK Z) where
 on:=QS Y
 ok:=fun {X pins σ H s k v u} hF I r e=>by
  cases k with
  | inl k=>exact(Gz P w F).ok hF I r e
  | inr ks =>
   obtain⟨b,rfl,e⟩:=e
   cases r
   exact⟨b,rfl,e.is hF I⟩
 keep:=fun {H H' k v} t e=>by
  cases k with
  | inl k=>exact e
  | inr ks=>obtain⟨b,rfl,e⟩:=e;exact⟨b,rfl,e.keep t⟩
abbrev N3 (K:Type):=List K×Addr×V
variable {F:W.Frag}{Z:uM P w K}{Y:D7 F Z}{hl:Z.vH+1≤8}{H H':Hp}{h:Heap}{a b:Addr}{kvs:List (N3 K)}
end
section
variable {X:Cx}{K:Type} [DecidableEq K] {F:W.Frag}{Z:uM X.prog X.w K}{Y:D7 F Z}{hl:Z.vH+1≤8}{pins:List (Addr×Obj)}{σ:St}{H:Hp}{s:Shared}{a b:Addr}{kvs:List (N3 K)}{k:List K}{v:V}{r:Value}{A:Around}{E:Value→Shared→Prop}
variable {o i value kx:Expr}{pos pos':Pos}{td ty tv:TE}
end
section
variable {X:Cx}{K:Type} [DecidableEq K] {F:W.Frag}{Z:uM X.prog X.w K}
end
abbrev ZM (P:Program) (w:World):=stepK (Aq P w)
abbrev YM (P:Program) (w:World) (F:W.Frag):D7 F (ZM P w):=CZ (Gz P w F)
theorem hn2 {A:Around}{P:Program}{w:World} (h:A.units+64 < cLine):A.units+1+((ZM P w).vH+1) < cLine:=by show A.units+1+2 < cLine;omega
section
variable {P:Program}{w:World}{F:W.Frag}{H:Hp}
end
section
variable {X:Cx}{P:Program}{w:World}{K:Type} [DecidableEq K] {F:W.Frag}{Z:uM P w K}{o i value kx:Expr}{pos pos':Pos}{td ty tv tk:TE}
end
section
variable {X:Cx}
end
section
variable {X:Cx}
end
section
variable {X:Cx}{K:Type} [DecidableEq K] {F:W.Frag}{Z:uM X.prog X.w K}
end
section
variable {prog:Program}{w:World}{A:Around}{E:Value→Shared→Prop}{s:Shared}
end
section
variable {X:Cx}{e:Expr}
end
section
variable {prog:Program}{w:World}{A:Around}{E:Value→Shared→Prop}{s:Shared}{d it i ep:Nat}{od:Obj}{es:Array DictEntry}
theorem rK {Q:Value→Shared→Prop} (nd:(d == sysModules)=false) (g:s.heap.get? d=some od) (c:od.ExactDict) (dt:od.data=.dict es ep)
  (q:Q (.ref s.heap.objs.size) { s with heap:=s.heap.push { cls:=.type "dict_keyiterator",data:=.fields #[.ref d,.int 0 0,.int es.size 0,.int ep 0] } }):wpAny (model prog w) A (pyIter (.ref d)) Q E s:=by
 have ty:s.TypeIs (.ref d) "dict" := ⟨od,g,c.1⟩
 refine wpAny_pyIter_slot ty PySem.F.slot_dict_iter (wpAny_call_entry PySem.F.slot_dict_iter ty PySem.F.entry_dict_iter ?_ (PySem.F.args_dict_iter_1 _))
 unfold Builtin.«dict.__iter__»;refine wpAny_bind ?_
 unfold Builtin.Dict.dictSlotNone;refine wpAny_bind (wpAny_notOrdered_dict ty ?_)
 show wpAny _ _ (pure (Value.ref d)) _ _ _;refine wpAny_pure ?_
 show wpAny _ _ (Builtin.Dict.showsAll d >>= _) _ _ _
 unfold Builtin.Dict.showsAll;rw[if_neg (fun z=>by rw[nd] at z;cases z)];refine wpAny_bind (wpAny_pure ?_)
 refine wpAny_bind (wpAny_dictEntries g dt (wpAny_bind (wpAny_dictEpoch g dt ?_)))
 refine wpAny_bind (wpAny_newObj_type (wpAny_pure ⟨_,rfl, "dict_keyiterator",_,⟨_,Heap.get?_push_size _ rfl,rfl⟩,PySem.F.slot_dict_keyiterator_next.lookup,?_⟩))
 simpa [rawInt] using q
theorem xN {Q:Option Value→Shared→Prop} (yN:s.heap.IsKeyIter it d i es.size ep) (g:s.heap.get? d=some od) (dt:od.data=.dict es ep) (hi:i < es.size)
  (q:∀ h',h'.IsKeyIter it d (i+1) es.size ep→Heap.SameBut it s.heap h'→Q (some es[i].key) { s with heap:=h' }):wpAny (model prog w) A (pyNext (.ref it)) Q E s:=by
 obtain⟨o,ho,hc,hd⟩:=id yN
 unfold pyNext;refine wpAny_bind (wpAny_attempt (wpAny_callSpecial?_slot (name:=Str.ofString "__next__") yN.typeIs PySem.F.slot_dict_keyiterator_next (wpAny_call_entry PySem.F.slot_dict_keyiterator_next yN.typeIs PySem.F.entry_dict_keyiterator_next ?_ (PySem.F.args_dict_keyiterator_next_1 _))))
 refine wpAny_bind (wpAny_pure (wpAny_bind (wpAny_bind ?_)))
 first | refine wpAny_bind (wpAny_typeNameOfWhole_keyiter yN.typeIs (wpAny_pure ?_)) | refine wpAny_bind (wpAny_typeNameOf_keyiter yN.typeIs (wpAny_pure ?_))
 refine wpAny_bind (wpAny_fieldsOf ho hd ?_);simp only[(show Builtin.Dict_items.ownsTuple "dict_keyiterator" = false by decide),Bool.false_eq_true,if_false]
 show wpAny _ _ (if (Value.ref d == Value.none)=true then _ else _) _ _ _;rw[if_neg (fun z:(Value.ref d == Value.none)=true=>nomatch z)]
 refine wpAny_bind (wpAny_pure (wpAny_bind (wpAny_dictEntries g dt ?_)))
 rw[if_neg (by simp)];refine wpAny_bind (wpAny_pure (wpAny_bind (wpAny_dictEpoch g dt ?_)))
 rw[if_neg (by simp)];refine wpAny_pure ?_
 simp only[show ¬((i:Int) < 0) by omega,if_false,Int.toNat_natCast,Array.getElem?_eq_getElem hi]
 refine wpAny_bind ?_
 first | refine wpAny_bind (wpAny_typeNameOfWhole_keyiter yN.typeIs (wpAny_pure ?_)) | refine wpAny_bind (wpAny_typeNameOf_keyiter yN.typeIs (wpAny_pure ?_))
 refine wpAny_bind (wpAny_isOneOf_keyiter yN.typeIs ?_);show wpAny _ _ (setField (.ref it) 1 (rawInt ((i:Int)+1)) >>= _) _ _ _
 refine wpAny_bind (wpAny_setField ho hd (by simp) ?_)
 have UZ:(s.heap.update it (Obj.mapFields (·.setIfInBounds 1 (rawInt ((i:Int)+1))))).IsKeyIter it d (i+1) es.size ep:=⟨_,Heap.get?_update_self _ ho (Obj.isFreed_of_fields (Obj.data_mapFields hd _)),(Obj.cls_mapFields ..).trans hc,by rw[Obj.data_mapFields hd];simp[rawInt]⟩
 refine wpAny_bind (wpAny_holding (wpAny_bind (wpAny_isOneOf_keyiter (s:={ s with heap:=s.heap.update it (Obj.mapFields (·.setIfInBounds 1 (rawInt ((i:Int)+1)))) }) UZ.typeIs ?_)))
 show wpAny _ _ (pure es[i].key) _ _ _;exact wpAny_pure (wpAny_pure ⟨_,rfl,wpAny_pure (q _ UZ (Heap.SameBut.update ..))⟩)
theorem Au {Q:Option Value→Shared→Prop} (hh:A.handled=none) (yN:s.heap.IsKeyIter it d i es.size ep) (g:s.heap.get? d=some od) (dt:od.data=.dict es ep) (hi:es.size≤i)
  (q:∀ h',Heap.ExtBut it s.heap h'→Q none { s with heap:=h' }):wpAny (model prog w) A (pyNext (.ref it)) Q E s:=by
 obtain⟨o,ho,hc,hd⟩:=id yN
 unfold pyNext;refine wpAny_bind (wpAny_attempt (wpAny_callSpecial?_slot (name:=Str.ofString "__next__") yN.typeIs PySem.F.slot_dict_keyiterator_next (wpAny_call_entry PySem.F.slot_dict_keyiterator_next yN.typeIs PySem.F.entry_dict_keyiterator_next ?_ (PySem.F.args_dict_keyiterator_next_1 _))))
 refine wpAny_bind (wpAny_pure (wpAny_bind (wpAny_bind ?_)))
 first | refine wpAny_bind (wpAny_typeNameOfWhole_keyiter yN.typeIs (wpAny_pure ?_)) | refine wpAny_bind (wpAny_typeNameOf_keyiter yN.typeIs (wpAny_pure ?_))
 refine wpAny_bind (wpAny_fieldsOf ho hd ?_);simp only[(show Builtin.Dict_items.ownsTuple "dict_keyiterator" = false by decide),Bool.false_eq_true,if_false]
 show wpAny _ _ (if (Value.ref d == Value.none)=true then _ else _) _ _ _;rw[if_neg (fun z:(Value.ref d == Value.none)=true=>nomatch z)]
 refine wpAny_bind (wpAny_pure (wpAny_bind (wpAny_dictEntries g dt ?_)))
 rw[if_neg (by simp)];refine wpAny_bind (wpAny_pure (wpAny_bind (wpAny_dictEpoch g dt ?_)))
 rw[if_neg (by simp)];refine wpAny_pure ?_
 simp only[show ¬((i:Int) < 0) by omega,if_false,Int.toNat_natCast,Array.getElem?_eq_none hi]
 refine wpAny_bind ?_
 first | refine wpAny_bind (wpAny_typeNameOfWhole_keyiter yN.typeIs (wpAny_pure ?_)) | refine wpAny_bind (wpAny_typeNameOf_keyiter yN.typeIs (wpAny_pure ?_))
 show wpAny _ _ (setField (.ref it) 0 .none >>= _) _ _ _;refine wpAny_bind (wpAny_setField ho hd (by simp) ?_)
 show wpAny _ _ (newExc (.type "StopIteration") [] >>= _) _ _ _;refine wpAny_bind ?_
 simp only[newExc,newTuple];refine wpAny_bind (wpAny_newObj_type ?_ (by size_fits))
 refine wpAny_bind (m:=firstArgMember _ _) (wpAny_of_eq (a:=Value.none) (by first | rfl | (simp only[firstArgMember];rfl)) (wpAny_newObj_type ?_ (by size_fits)))
 simp only[raiseNew];refine wpAny_bind (wpAny_handled ?_)
 rw[show A.in1.handled=none from hh];refine wpAny_bind (wpAny_pure (wpAny_throw ?_))
 refine wpAny_bind (wpAny_isInstance (T := "StopIteration") (b:=true) ⟨_,Heap.get?_push_size _ rfl,rfl⟩ isSubtype_stop (wpAny_pure ?_))
 exact q _ (((Heap.SameBut.update ..).extBut.push _).push _)
end
theorem uR {α β:Type}{F:α→β→Prop}:∀{xs:List α}{ys:List β},Paired F xs ys→∀(i:Nat) x,xs[i]? = some x→∃ y,ys[i]? = some y∧F x y
 | _,_,.nil,i,x,h=>by simp at h
 | _,_,.cons a r,0,x,h=>by cases h;exact⟨_,rfl,a⟩
 | _,_,.cons a r,i+1,x,h=>uR r i x h
section
variable {P:Program}{w:World}{K:Type} [DecidableEq K]
variable {Z:uM P w K}{hl:Z.vH+1≤8}
end
section
variable {X:Cx}{K:Type} [DecidableEq K] {F:W.Frag}{Z:uM X.prog X.w K}
end
def Ll (K:W.Frag):List V→Hp→VK→Prop:=fun xs H Q=>∃(p:Addr) (ns:List Nat),xs=[.ref p]∧aP K H p (ns.map fun n:Nat=>V.int n)∧ns≠[]∧∀ n:Nat,n∈ns→(∀ m∈ns,m≤n)→Q (.int n) H
theorem Bo {X:Cx} (hc:X.calm=true):cD X (.builtin "max") (Ll X.K):=by
 intro pins s σ H xs us Q I r h
 obtain⟨p,ns,rfl,hq,hne,q⟩:=h
 obtain⟨u,rfl,ru⟩:=vals1 r
 cases ru
 obtain⟨its,rv,pl,hz⟩:=I.list hq
 have hlen:=rv.length
 rw[List.length_map] at hlen
 have hpl:p < s.heap.objs.size:=by obtain⟨o,ho,_⟩:=pl.isList;exact Heap.lt_size ho
 have hpos:=List.length_pos_iff.mpr hne
 refine call_max_walk (wpAny_pyIter_list pl.isList ⟨s.heap.objs.size,_,_,_,_,_,fun i j=>decide (((ns.getD i 0:Nat):Int) > ((ns.getD j 0:Nat):Int)),rfl,Walks.list (A:=X.A.in1) (show X.A.in1.handled=none from I.ok.hd hc) s.heap.objs.size p (Nat.ne_of_lt hpl) its.toArray,⟨⟨_,Heap.get?_push_size _ rfl,rfl,rfl⟩,pl.isList.at fun o e=>Heap.get?_push_of_some _ e⟩,?_,?_,?_,?_⟩)
 ·intro b hb
  have e:b=s.heap.objs.size∨b=p:=by simpa using hb
  show b < (s.heap.push _).objs.size
  rw[Heap.size_push]
  rcases e with rfl | rfl
  ·exact Nat.lt_succ_self _
  ·exact Nat.lt_succ_of_lt hpl
 ·simp;omega
 ·exact CmpOf.ints_gt (fun i=>((ns.getD i 0:Nat):Int)) fun i v hv=>e9 rv (by simpa using hv)
 ·intro v h' tk hv hk
  have f0:=I.nQ (Nat.le_refl s.heap.objs.size) (I.hok.fresh (Nat.le_refl _))
  have I2:Inv X pins σ H { s with heap:=s.heap.push { cls:=.type "list_iterator",data:=.fields #[.ref p,rawInt 0] } }:=I.kept (t':=s.toks) fun b o e=>Heap.get?_push_of_some _ e
  have I3:=I2.turned (h':=h') (t':=tk) (it:=s.heap.objs.size) (fun b o hb e=>hk b o (by simpa using hb) e) f0.1 f0.2.1 f0.2.2.2.1 f0.2.2.2.2.1 f0.2.2.2.2.2
  obtain⟨h1,h2⟩:=argBest_gt (fun i=>((ns.getD i 0:Nat):Int)) (its.toArray.size - 1)
  rw[List.size_toArray] at h1 h2
  rw[List.size_toArray] at hv
  generalize argBest (fun i j=>decide (((ns.getD i 0:Nat):Int) > ((ns.getD j 0:Nat):Int))) (its.length - 1)=b at h1 h2 hv
  obtain⟨t,rfl⟩:=e9 rv (i:=b) (by rw[←hv];simp)
  have hb:b < ns.length:=by omega
  refine⟨.int (ns.getD b 0:Nat),H,I3,⟨t,rfl⟩,q _ ?_ fun m hm=>?_⟩
  ·rw[List.getD_eq_getElem?_getD,List.getElem?_eq_getElem hb];exact List.getElem_mem hb
  ·obtain⟨j,hj,rfl⟩:=List.getElem_of_mem hm
   have:=h2 j (by omega)
   have e:ns.getD j 0=ns[j]:=by rw[List.getD_eq_getElem?_getD,List.getElem?_eq_getElem hj];rfl
   rw[e] at this
   omega
theorem Bp {X:Cx} (K:W.Frag) (h:X.K=K) (hc:X.calm=true):cD X (.builtin "max") (Ll K):=by subst h;exact Bo hc
end L2
set_option synthInstance.maxSize 100000
set_option synthInstance.maxHeartbeats 400000
namespace L2
open PySem PySem.Spec PyProof.Rows
section
variable {X:Cx}{K:Type} [DecidableEq K] {F:W.Frag}{Z:uM X.prog X.w K}
end
abbrev ZP (P:Program) (w:World):=stepK (stepK (ZM P w))
abbrev YP (P:Program) (w:World) (F:W.Frag):D7 F (ZP P w):=CZ (CZ (YM P w F))
theorem hp1 {A:Around}{P:Program}{w:World} (h:A.units+64 < cLine):A.units+((ZP P w).vH+1) < cLine:=by show A.units+4 < cLine;omega
theorem hp2 {A:Around}{P:Program}{w:World} (h:A.units+64 < cLine):A.units+1+((ZP P w).vH+1) < cLine:=by show A.units+1+4 < cLine;omega
section
variable {P:Program}{w:World}{F:W.Frag}{H:Hp}
end
section
variable {prog:Program}{w:World}{A:Around}{E:Value→Shared→Prop}{s:Shared}{d ep:Nat}{od:Obj}{es:Array DictEntry}
end
section
variable {X:Cx}{P:Program}{w:World}{K:Type} [DecidableEq K] {F:W.Frag}{Z:uM P w K}
end
section
variable {prog:Program}{w:World}{A:Around}{E:Value→Shared→Prop}{s:Shared}{d ep:Nat}{od:Obj}{es:Array DictEntry}
def xO (es:Array DictEntry) (i:Nat) (v:Value):Prop:=∃ h:i < es.size,v=es[i].key
theorem Bq (hh:A.handled=none) (I d:Addr) (hne:d≠I) (dt:od.data=.dict es ep):Walks prog w A I [I,d] [I] es.size (xO es) (fun i h=>h.IsKeyIter I d i es.size ep∧h.get? d=some od) where
 sub:=fun b hb=>by simp at hb;simp[hb]
 frame:=fun _ _ _ st hk=>⟨st.1.at fun o e=>hk I (by simp) o e,hk d (by simp) _ st.2⟩
 item:=fun i s Q E hi st hQ=>by
  refine xN st.1 st.2 dt hi fun h' QT hs'=>?_
  exact hQ _ h' s.toks ⟨hi,rfl⟩ ⟨QT,(hs'.2 d hne).trans st.2⟩ fun b o hb e=>(hs'.2 b (fun h=>hb (by simp[h]))).trans e
 done:=fun s Q E st hQ=>Au hh st.1 st.2 dt (Nat.le_refl _) fun h' he'=>hQ h' s.toks fun b o hb e=>he' b o (fun h=>hb (by simp[h])) e
 self:=fun _ _ _ _ st hQ=>wpAny_pyIter_keyiter st.1 hQ
theorem C0 {Q:Bool→Shared→Prop} (g:s.heap.get? d=some od) (c:od.ExactDict) (h:Q false s):wpAny (model prog w) A (Builtin.List.listLengthHint (.ref d)) Q E s:=by
 have ty:s.TypeIs (.ref d) "dict" := ⟨od,g,c.1⟩
 unfold Builtin.List.listLengthHint
 refine wpAny_bind (wpAny_specialOf ty PySem.F.slot_dict_len.lookup ?_)
 generalize hid:("dict.__len__" : String)=Xo
 wp_delta
 rw[show splitId Xo=some ("dict", "__len__") from by subst hid;decide +kernel]
 subst hid
 refine wpAny_bind (wpAny_isInstance (T := "dict") (b:=true) ty (by rw[isSubtype_type];kernel_rfl) ?_)
 refine wpAny_ite_split (fun hab=>absurd hab (by decide)) (fun _=>?_)
 refine wpAny_ite_split (fun _=>?_) (fun hab=>absurd (by decide +kernel) hab)
 show wpAny _ _ (typeOf (Value.ref d) >>= _) _ _ _
 refine wpAny_bind (wpAny_typeOf ty ?_)
 exact wpAny_pure h
theorem zq {R:Result→Shared→Prop} (hh:A.handled=none) (nd:(d == sysModules)=false) (g:s.heap.get? d=some od) (c:od.ExactDict) (dt:od.data=.dict es ep) (hlen:es.size≤2 ^ 24)
  (S:Addr) (res:Value) (c₀:Nat) (hS:s.heap.get? S=some { cls:=.type "list",data:=.seq #[] c₀ })
  (hR:∀ h' tk acc' c',(∀ b o,b≠S→s.heap.get? b=some o→h'.get? b=some o)→h'.get? S=some { cls:=.type "list",dict:=none,data:=.seq acc' c',slots:=#[] }→ItemsOf (xO es) acc' es.size→R (.ok (.ret res)) { s with heap:=h',toks:=tk }) :
  wpAny (model prog w) A.in1 (Builtin.List.listExtendWith (.ref S) (.ref d) res)
   (fun fin s'=>match fin with | .done f=>R (.ok f) s' | .again c'=>c'.quiet=true∧codeAny (model prog w) A c' R s') (fun e s'=>R (.error e) s') s:=by
 have hSd:S≠d:=fun e=>by rw[e,g] at hS;cases hS;cases dt
 have QU:S < s.heap.objs.size:=Heap.lt_size hS
 have hSI:S≠s.heap.objs.size:=Nat.ne_of_lt QU
 have Xp:d≠s.heap.objs.size:=Nat.ne_of_lt (Heap.lt_size g)
 have hSf:S∉[s.heap.objs.size,d]:=fun hm=>by
  rcases List.mem_cons.mp hm with q | q
  ·exact hSI q
  ·exact hSd (List.mem_singleton.mp q)
 have W:=(Bq (prog:=prog) (w:=w) (A:=A.in1) hh s.heap.objs.size d Xp dt).toS
 have key:∀(h:Heap) (c₁ tk:Nat),h.IsKeyIter s.heap.objs.size d 0 es.size ep→h.get? d=some od→(∀ b o,b≠S→s.heap.get? b=some o→h.get? b=some o) →
   h.get? S=some { cls:=.type "list",data:=.seq #[] c₁ }→codeAny (model prog w) A (.builtin "list.extend.loop" ⟨[.ref S,.ref s.heap.objs.size,res],[]⟩) R { s with heap:=h,toks:=tk }:=by
  intro h c₁ tk hit hd' hk xP
  refine codeAny_extend_loopS W (by rw[sizeLine_eq];omega) S hSf res es.size 0 _ #[] c₁ rfl (Nat.zero_le _) ⟨hit,hd'⟩ xP (ItemsOf.nil _) fun s' acc' c' hm hS' hacc=>?_
  rw[Moved.eq_with hm]
  refine hR s'.heap s'.toks acc' c' (fun b o hb e=>hm.heap b o (fun hmem=>?_) (hk b o hb e)) hS' hacc
  rcases List.mem_cons.mp hmem with e' | hmem
  ·exact hb e'
  ·exact absurd (Heap.lt_size e) (by rw[List.mem_singleton.mp hmem];exact Nat.lt_irrefl _)
 have ty:s.TypeIs (.ref d) "dict" := ⟨od,g,c.1⟩
 unfold Builtin.List.listExtendWith
 refine wpAny_bind (wpAny_typeOf (T := "dict") ty ?_)
 have h1:Builtin.List.listSameRef (.ref S) (.ref d)=false:=by simp[Builtin.List.listSameRef,hSd]
 have h2:(Value.type "dict" == Value.type "list")=false:=by decide
 have h3:(Value.type "dict" == Value.type "tuple")=false:=by decide
 simp only[h1,h2,h3,Bool.or_false,Bool.false_eq_true,if_false]
 refine wpAny_bind (rK nd g c dt ?_)
 refine wpAny_bind (wpAny_holding (C0 (Heap.get?_push_of_some _ g) c ?_))
 have C1:(s.heap.push { cls:=.type "dict_keyiterator",data:=.fields #[.ref d,.int 0 0,.int es.size 0,.int ep 0] }).IsKeyIter s.heap.objs.size d 0 es.size ep:=⟨_,Heap.get?_push_size _ rfl,rfl,rfl⟩
 have xP:=Heap.get?_push_of_some { cls:=.type "dict_keyiterator",data:=.fields #[.ref d,.int 0 0,.int es.size 0,.int ep 0] } hS
 have g₁:=Heap.get?_push_of_some { cls:=.type "dict_keyiterator",data:=.fields #[.ref d,.int 0 0,.int es.size 0,.int ep 0] } g
 refine wpAny_ite_split (fun _=>?_) (fun _=>wpAny_pure ⟨plainId_quiet PySem.F.plain_extend_loop _,key _ c₀ _ C1 g₁ (fun b o _ e=>Heap.get?_push_of_some _ e) xP⟩)
 refine wpAny_bind (wpAny_rule ?_)
 refine wpAny_bind ?_
 show wpAny _ _ (updateSeq S (·.push .none) >>= fun _=>updateSeq S (·.pop)) _ _ _
 refine wpAny_bind (wpAny_updateSeq xP rfl ?_)
 have Av:=Heap.get?_update_self (Obj.mapSeq (·.push Value.none)) xP rfl
 refine wpAny_updateSeq (hz:=by seq_fits) Av rfl ?_
 have Lm:=Heap.get?_update_self (Obj.mapSeq (·.pop)) Av rfl
 refine wpAny_pure ⟨plainId_quiet PySem.F.plain_extend_loop _,key _ _ _ ?_ ?_ (fun b o hb e=>?_) Lm⟩
 ·exact C1.at fun o e=>(Heap.get?_update_other _ _ hSI).trans ((Heap.get?_update_other _ _ hSI).trans e)
 ·exact(Heap.get?_update_other _ _ hSd).trans ((Heap.get?_update_other _ _ hSd).trans g₁)
 ·exact(Heap.get?_update_other _ _ (Ne.symm hb)).trans ((Heap.get?_update_other _ _ (Ne.symm hb)).trans (Heap.get?_push_of_some _ e))
theorem C2 {R:Result→Shared→Prop} (hh:A.handled=none) (nd:(d == sysModules)=false) (g:s.heap.get? d=some od) (c:od.ExactDict) (dt:od.data=.dict es ep) (hlen:es.size≤2 ^ 24)
  (S:Addr) (hS:s.heap.get? S=some { cls:=.type "list",data:=.seq #[] })
  (hR:∀ h' tk acc' c',(∀ b o,b≠S→s.heap.get? b=some o→h'.get? b=some o)→h'.get? S=some { cls:=.type "list",dict:=none,data:=.seq acc' c',slots:=#[] }→ItemsOf (xO es) acc' es.size→R (.ok (.ret .none)) { s with heap:=h',toks:=tk }) :
  wpAny (model prog w) A.in1 (Builtin.«list.__init__» ⟨[.ref S,.ref d],[]⟩)
   (fun fin s'=>match fin with | .done f=>R (.ok f) s' | .again c'=>c'.quiet=true∧codeAny (model prog w) A c' R s') (fun e s'=>R (.error e) s') s:=by
 have hSd:S≠d:=fun e=>by rw[e,g] at hS;cases hS;cases dt
 show wpAny _ _ (do let old ←Builtin.List.listItems (.ref S);Builtin.List.listUpdate (.ref S) (fun _=>#[]);letGo old.toList.reverse;Builtin.List.listExtendWith (.ref S) (.ref d) .none) _ _ s
 refine wpAny_bind ?_
 unfold Builtin.List.listItems
 refine wpAny_bind (wpAny_seqItems hS rfl (wpAny_pure ?_))
 show wpAny _ _ (updateSeq S (fun _=>#[]) >>= fun _=>letGo (#[]:Array Value).toList.reverse >>= fun _=>Builtin.List.listExtendWith (.ref S) (.ref d) .none) _ _ s
 refine wpAny_bind (wpAny_updateSeq hS rfl ?_)
 have Av:=Heap.get?_update_self (Obj.mapSeq (fun _=>(#[]:Array Value))) hS rfl
 have U0:∀ b o,b≠S→s.heap.get? b=some o→(s.heap.update S (Obj.mapSeq (fun _=>(#[]:Array Value)))).get? b=some o :=
  fun b o hb e=>(Heap.get?_update_other _ _ (Ne.symm hb)).trans e
 refine wpAny_bind (wpAny_letGo ?_)
 refine zq hh nd (U0 d _ (Ne.symm hSd) g) c dt hlen S .none _ Av fun h' tk acc' c' hk hS' hacc=>?_
 exact hR h' tk acc' c' (fun b o hb e=>hk b o hb (U0 b o hb e)) hS' hacc
end
section
variable {prog:Program}{w:World}{A:Around}{E:Value→Shared→Prop}{s:Shared}{d ep:Nat}{od:Obj}{es:Array DictEntry}
theorem C3 {Q:Value→Shared→Prop} (hh:A.handled=none) (nd:(d == sysModules)=false) (g:s.heap.get? d=some od) (c:od.ExactDict) (dt:od.data=.dict es ep) (hlen:es.size≤2 ^ 24)
  (hQ:∀ h' tk acc' c',(∀ b o,s.heap.get? b=some o→h'.get? b=some o) →
   h'.get? s.heap.objs.size=some { cls:=.type "list",dict:=none,data:=.seq acc' c',slots:=#[] }→ItemsOf (xO es) acc' es.size→Q (.ref s.heap.objs.size) { s with heap:=h',toks:=tk }) :
  wpAny (model prog w) A (call (.type "list") [.ref d]) Q E s:=by
 refine callType_codes (Q₁:=fun obj s₁=>obj=.ref s.heap.objs.size∧s₁={ s with heap:=s.heap.push { cls:=.type "list",data:=.seq #[] } }) PySem.F.called_list (PySem.F.typeCall_list_1 _) PySem.F.entry_list_init
  (code_list_new _ ⟨rfl,rfl⟩) fun obj s₁ h₁=>?_
 obtain⟨rfl,rfl⟩:=h₁
 have hS:(s.heap.push { cls:=.type "list",data:=.seq #[] }).get? s.heap.objs.size=some { cls:=.type "list",data:=.seq #[] }:=Heap.get?_push_size _ rfl
 refine⟨⟨_,hS,rfl⟩,PySem.F.args_list_init_2 _ _,C2 (A:=A.in1) hh nd (Heap.get?_push_of_some _ g) c dt hlen _ hS fun h' tk acc' c' hk hS' hacc=>?_⟩
 exact⟨rfl,hQ h' tk acc' c' (fun b o e=>hk b o (Nat.ne_of_lt (Heap.lt_size e)) (Heap.get?_push_of_some _ e)) hS' hacc⟩
end
section
variable {X:Cx}{P:Program}{w:World}{K:Type} [DecidableEq K] {F:W.Frag}{Z:uM P w K}
end
theorem qh:∀{us:List Value}{ns:List Int},IntsAre us ns→Vals (ns.map V.int) us
 | _,_,.nil=>.nil
 | _,_,.cons x t h=>.cons ⟨_,rfl⟩ (qh h)
def HV (K:W.Frag):List V→Hp→VK→Prop:=fun xs H Q=>∃(l:Addr) (ns:List Int),xs=[.ref l]∧aP K H l (ns.map V.int)∧ns.length < 64∧∀ ns':List Int,ns'.Perm ns→ns'.Pairwise (·≤·)→∀ m,H m=none→Q (.ref m) (upd H m (.lst (ns'.map V.int)))
theorem vJ {X:Cx} (K:W.Frag) (hK:X.K=K):cD X (.builtin "sorted") (HV K):=by
 subst hK
 intro pins s σ H xs us Q I r h
 obtain⟨l,ns,rfl,hq,h64,q⟩:=h
 obtain⟨u,rfl,ru⟩:=vals1 r
 cases(show u=Value.ref l from ru)
 obtain⟨its,r1,pl,_⟩:=I.list hq
 have hl:its.length=ns.length:=by rw[←r1.length,List.length_map]
 refine sorted_ints pl.isList (intsAre_of r1) (by omega) fun out ns' h1 h2 h3=>?_
 obtain⟨e,he⟩:=sortedAll_at s.heap its out
 have hz:(ns'.map V.int).length≤sizeLine:=by
  rw[List.length_map,h2.length_eq]
  exact Nat.le_trans (Nat.le_of_lt h64) (by decide)
 exact⟨.ref (s.heap.objs.size+1),_,I.laid (t':=s.toks) (o:=.lst (ns'.map V.int)) (fun b o e=>sortedAll_old e) (Nat.le_succ _) ⟨hz,out.toList,e,qh h1,he⟩,rfl,q ns' h2 h3 _ (I.hok.fresh (Nat.le_succ _))⟩
def Ln (K:W.Frag):List V→Hp→VK→Prop:=fun xs H Q=>∃(p:Addr) (ns:List Nat),xs=[.ref p]∧aP K H p (ns.map fun n:Nat=>V.int n)∧ns≠[]∧∀ n:Nat,n∈ns→(∀ m∈ns,n≤m)→Q (.int n) H
theorem Br {X:Cx} (hc:X.calm=true):cD X (.builtin "min") (Ln X.K):=by
 intro pins s σ H xs us Q I r h
 obtain⟨p,ns,rfl,hq,hne,q⟩:=h
 obtain⟨u,rfl,ru⟩:=vals1 r
 cases ru
 obtain⟨its,rv,pl,hz⟩:=I.list hq
 have hlen:=rv.length
 rw[List.length_map] at hlen
 have hpl:p < s.heap.objs.size:=by obtain⟨o,ho,_⟩:=pl.isList;exact Heap.lt_size ho
 have hpos:=List.length_pos_iff.mpr hne
 refine call_min_walk (wpAny_pyIter_list pl.isList ⟨s.heap.objs.size,_,_,_,_,_,fun i j=>decide (((ns.getD i 0:Nat):Int) < ((ns.getD j 0:Nat):Int)),rfl,Walks.list (A:=X.A.in1) (show X.A.in1.handled=none from I.ok.hd hc) s.heap.objs.size p (Nat.ne_of_lt hpl) its.toArray,⟨⟨_,Heap.get?_push_size _ rfl,rfl,rfl⟩,pl.isList.at fun o e=>Heap.get?_push_of_some _ e⟩,?_,?_,?_,?_⟩)
 ·intro b hb
  have e:b=s.heap.objs.size∨b=p:=by simpa using hb
  show b < (s.heap.push _).objs.size
  rw[Heap.size_push]
  rcases e with rfl | rfl
  ·exact Nat.lt_succ_self _
  ·exact Nat.lt_succ_of_lt hpl
 ·simp;omega
 ·exact CmpOf.ints_lt (fun i=>((ns.getD i 0:Nat):Int)) fun i v hv=>e9 rv (by simpa using hv)
 ·intro v h' tk hv hk
  have f0:=I.nQ (Nat.le_refl s.heap.objs.size) (I.hok.fresh (Nat.le_refl _))
  have I2:Inv X pins σ H { s with heap:=s.heap.push { cls:=.type "list_iterator",data:=.fields #[.ref p,rawInt 0] } }:=I.kept (t':=s.toks) fun b o e=>Heap.get?_push_of_some _ e
  have I3:=I2.turned (h':=h') (t':=tk) (it:=s.heap.objs.size) (fun b o hb e=>hk b o (by simpa using hb) e) f0.1 f0.2.1 f0.2.2.2.1 f0.2.2.2.2.1 f0.2.2.2.2.2
  obtain⟨h1,h2⟩:=argBest_lt (fun i=>((ns.getD i 0:Nat):Int)) (its.toArray.size - 1)
  rw[List.size_toArray] at h1 h2
  rw[List.size_toArray] at hv
  generalize argBest (fun i j=>decide (((ns.getD i 0:Nat):Int) < ((ns.getD j 0:Nat):Int))) (its.length - 1)=b at h1 h2 hv
  obtain⟨t,rfl⟩:=e9 rv (i:=b) (by rw[←hv];simp)
  have hb:b < ns.length:=by omega
  refine⟨.int (ns.getD b 0:Nat),H,I3,⟨t,rfl⟩,q _ ?_ fun m hm=>?_⟩
  ·rw[List.getD_eq_getElem?_getD,List.getElem?_eq_getElem hb];exact List.getElem_mem hb
  ·obtain⟨j,hj,rfl⟩:=List.getElem_of_mem hm
   have:=h2 j (by omega)
   have e:ns.getD j 0=ns[j]:=by rw[List.getD_eq_getElem?_getD,List.getElem?_eq_getElem hj];rfl
   rw[e] at this
   omega
theorem Bs {X:Cx} (K:W.Frag) (h:X.K=K) (hc:X.calm=true):cD X (.builtin "min") (Ln K):=by subst h;exact Br hc
theorem EJ {k:Key}{v:Value} (h:nO k v=true):RelV (kV k) v:=by
 rcases bH h with ⟨i,t,rfl,rfl⟩ | ⟨z,t,rfl,rfl⟩
 ·exact⟨t,rfl⟩
 ·exact⟨t,rfl⟩
theorem jP {P:Program}{w:World}{H:Hp}{h:Heap}{a:Addr}{kvs:List (Key×V)}{o:Obj}{es:Array DictEntry}{ep:Nat} (q:bD P w H h a (.dK kvs)) (g:h.get? a=some o) (dt:o.data=.dict es ep):es.size=kvs.length∧∀(i:Nat) (hi:i < es.size) (e:Key×V),kvs[i]? = some e→RelV (kV e.1) es[i].key:=by
 obtain⟨_,_,vs,r,o',es',Pb,g',_,U1,hk,hp,_⟩:=q
 rw[g] at g';cases g'
 rw[dt] at U1;cases U1
 have e1:es.size=vs.length:=by rw[←hp.length];exact Array.length_toList.symm
 refine⟨by rw[e1];exact(Paired.length r).symm,fun i hi e h1=>?_⟩
 obtain⟨x,hx,q⟩:=uR r i e h1
 obtain⟨k,v⟩:=x
 obtain⟨hkey,_⟩:=hp.get? (i:=i) (e:=es[i]) (k:=k) (v:=v) (by rw[Array.getElem?_toList];exact Array.getElem?_eq_getElem hi) hx
 rw[show e.1=k from q.1]
 exact EJ hkey
def Pu (a:Addr) (kvs:List (Key×V)) (o:Obj):It :=
 ⟨fun i H=>H a=some (.m8 o (.dK kvs))∧∃ e,kvs[i]? = some e,fun i H x H'=>H'=H∧∃ e,kvs[i]? = some e∧x=kV e.1,fun i H=>H a=some (.m8 o (.dK kvs))∧kvs.length≤i⟩
theorem Aw {P:Program}{w:World}{Fr:W.Frag}{tg:Expr} (a it:Addr) (kvs:List (Key×V)) (o:Obj) (es:Array DictEntry) (ep:Nat) (dt:o.data=.dict es ep):Turn P w Fr tg (Pu a kvs o) [it] it (fun i h=>h.IsKeyIter it a i es.size ep) where
 mem:=by simp
 obj:=fun i h st b hb=>by
  obtain rfl:b=it:=by simpa using hb
  obtain⟨x,e,c,d⟩:=st
  exact⟨x,e,fun v z=>by rw[d] at z;cases z⟩
 keep:=fun i h h' st k=>by
  obtain⟨x,e,c,d⟩:=st
  exact⟨x,k it (by simp) x e,c,d⟩
 item:=by
  intro X hP hw hK hc i pins s σ H E I hf st hg
  obtain⟨hd,e,he⟩:=hg
  obtain⟨g,ok⟩:=(show bD X.prog X.w H s.heap a (.m8 o (.dK kvs)) from I.hok a _ hd)
  obtain⟨hsz,hkey⟩:=jP ok g dt
  obtain⟨f0,f1,f2,f3,f4,f5⟩:=hf it (by simp)
  have hi:i < es.size:=by rw[hsz];exact(List.getElem?_eq_some_iff.mp he).1
  refine xN st g dt hi fun h' st' sb=>?_
  have I1:Inv X pins σ H { s with heap:=h' }:=I.turned (t':=s.toks) (fun b o hb e=>(sb.2 b hb).trans e) f0 f1 f3 f4 f5
  obtain⟨x,ex,cx,dx⟩:=id st'
  refine⟨_,rfl,uz (s:={ s with heap:=h' }) ex cx dx (by decide) ⟨kV e.1,H,I1,?_,⟨rfl,e,he,rfl⟩,st',fun b hb=>(hf b hb).1⟩⟩
  exact hkey i hi e he
 done:=by
  intro X hP hw hK hc i pins s σ H E I hf st hg
  obtain⟨hd,he⟩:=hg
  obtain⟨g,ok⟩:=(show bD X.prog X.w H s.heap a (.m8 o (.dK kvs)) from I.hok a _ hd)
  obtain⟨hsz,hkey⟩:=jP ok g dt
  obtain⟨f0,f1,f2,f3,f4,f5⟩:=hf it (by simp)
  exact Au (I.ok.hd hc) st g dt (by omega) fun h' eb=>⟨rfl,I.turned (t':=s.toks) (fun b o hb e=>eb b o hb e) f0 f1 f3 f4 f5⟩
 self:=fun _ _ _ _ _ st h=>wpAny_pyIter_keyiter st h
def Xq (td:TE):TI:=fun σ H R=>td σ H fun x H1=>∃ a kvs,x=.ref a∧((H1 a=some (.dK kvs)∧∀ o,R (Pu a kvs o) (upd H1 a (.m8 o (.dK kvs))))∨∃ o,H1 a=some (.m8 o (.dK kvs))∧R (Pu a kvs o) H1)
theorem GA {X:Cx}{tg l:Expr}{td:TE} (hp:PE X l td):PI X tg l (Xq td):=by
 intro pins s σ H R I h
 refine bY (hp pins s σ H _ I h) fun v s1 ⟨x,H1,I1,r1,a,kvs,e,q⟩=>?_
 subst e
 cases r1
 rcases q with ⟨d,q⟩ | ⟨o,d,q⟩
 ·have ok:=(show bD X.prog X.w H1 s1.heap a (.dK kvs) from I1.hok a _ d)
  obtain⟨z,y,vs,r,o,es,ep,g,c,dt,rest⟩:=id ok
  refine rK y g c dt ?_
  have I2:Inv X pins σ (upd H1 a (.m8 o (.dK kvs))) { s1 with heap:=s1.heap,toks:=s1.toks }:=I1.write (x:=a) (e:=a) (by rw[d];exact True.intro) (.inl rfl) (fun b u _ e=>e) ⟨o,g⟩ ⟨g,z,y,vs,r,o,es,ep,g,c,dt,rest⟩
  refine⟨s1.heap.objs.size,[s1.heap.objs.size],_,_,_,rfl,I2.kept (t':=s1.toks) fun b o e=>Heap.get?_push_of_some _ e,Aw a _ kvs o es ep dt,⟨_,Heap.get?_push_size _ rfl,rfl,rfl⟩,fun b hb=>?_,q o⟩
  obtain rfl:b=s1.heap.objs.size:=by simpa using hb
  exact I2.nQ (Nat.le_refl _) (I2.hok.fresh (Nat.le_refl _))
 ·obtain⟨g0,ok⟩:=(show bD X.prog X.w H1 s1.heap a (.m8 o (.dK kvs)) from I1.hok a _ d)
  obtain⟨z,y,vs,r,o',es,ep,g,c,dt,rest⟩:=id ok
  obtain rfl:o=o':=Option.some.inj (g0.symm.trans g)
  refine rK y g c dt ?_
  refine⟨s1.heap.objs.size,[s1.heap.objs.size],_,_,_,rfl,I1.kept (t':=s1.toks) fun b o e=>Heap.get?_push_of_some _ e,Aw a _ kvs o es ep dt,⟨_,Heap.get?_push_size _ rfl,rfl,rfl⟩,fun b hb=>?_,q⟩
  obtain rfl:b=s1.heap.objs.size:=by simpa using hb
  exact I1.nQ (Nat.le_refl _) (I1.hok.fresh (Nat.le_refl _))
theorem Ax {a:Addr}{kvs:List (Key×V)}{o:Obj}{g:TG}{tt:TT}{te:TE}{Q:VK}{D:Addr}{τ:St}{H:Hp} (Pv:Nat→List V→St→Hp→Prop) (h0:Pv 0 [] τ (upd H D (.lst [])))
  (hl':∀ i ys τ H,i≤kvs.length→Pv i ys τ H→H a=some (.m8 o (.dK kvs))∧H D=some (.lst ys))
  (hs:∀ i e ys τ H,kvs[i]? = some e→Pv i ys τ H→g (kV e.1) τ H fun τ2 H2=>tt τ2 H2 fun b H3=>if b=true then te τ2 H3 fun y H4=>H4 D=some (.lst ys)∧ys.length < sizeLine∧Pv (i+1) (ys++[y]) τ2 (upd H4 D (.lst (ys++[y]))) else Pv (i+1) ys τ2 H3)
  (hd:∀ ys τ H,Pv kvs.length ys τ H→Q (.ref D) H):nT (Pu a kvs o) g tt te Q D τ H:=by
 refine⟨fun i m ys τ H=>m=kvs.length - i∧i≤kvs.length∧Pv i ys τ H,⟨kvs.length,by simp,Nat.zero_le _,h0⟩,?_⟩
 rintro i m ys τ H ⟨rfl,hi,p⟩
 obtain⟨q,hD⟩:=hl' i ys τ H hi p
 refine⟨hD,?_⟩
 by_cases hlt:i < kvs.length
 ·refine .inr ⟨⟨q,kvs[i],List.getElem?_eq_getElem hlt⟩,Pv (i+1),fun zs σ' H' p'=>⟨kvs.length - (i+1),by omega,rfl,hlt,p'⟩,fun x H' y=>?_⟩
  obtain⟨e,e1,h1,h2⟩:=y
  subst e h2
  exact hs i e1 ys τ _ h1 p
 ·have e:i=kvs.length:=by omega
  subst e
  exact .inl ⟨⟨q,Nat.le_refl _⟩,hd ys τ H p⟩
theorem zu {P:Program}{w:World}{H:Hp}{h:Heap}{a:Addr}{kvs:List (Key×V)}{o:Obj}{es:Array DictEntry}{ep:Nat} (q:bD P w H h a (.dK kvs)) (g:h.get? a=some o) (dt:o.data=.dict es ep) {acc:Array Value} (hacc:ItemsOf (xO es) acc es.size):Vals (kvs.map fun e=>kV e.1) acc.toList:=by
 obtain⟨hsz,hkey⟩:=jP q g dt
 have wY:acc.toList.length=kvs.length:=by rw[Array.length_toList,hacc.1,hsz]
 have hat:∀ j v,acc.toList[j]? = some v→∃ e:Key×V,kvs[j]? = some e∧RelV (kV e.1) v:=fun j v hv=>by
  rw[Array.getElem?_toList] at hv
  obtain⟨hj,rfl⟩:=hacc.2 j v hv
  have hj':j < kvs.length:=by omega
  exact⟨kvs[j],List.getElem?_eq_getElem hj',hkey j hj _ (List.getElem?_eq_getElem hj')⟩
 clear hacc hkey hsz q g dt
 generalize acc.toList=us at wY hat
 induction kvs generalizing us with
 | nil=>cases us with
  | nil=>exact .nil
  | cons u us=>cases wY
 | cons e kvs ih=>cases us with
  | nil=>cases wY
  | cons u us =>
   obtain⟨e',h1,h2⟩:=hat 0 u rfl
   have h1:some e=some e':=h1
   cases h1
   exact .cons h2 (ih us (Nat.succ.inj wY) fun j v hv=>hat (j+1) v hv)
def HW:List V→Hp→VK→Prop:=fun xs H Q=>∃(a:Addr) (kvs:List (Key×V)),xs=[.ref a]∧Rd H a (.dK kvs)∧∀ l,H l=none→Q (.ref l) (upd H l (.lst (kvs.map fun e=>kV e.1)))
theorem zv {X:Cx} (hc:X.calm=true):cD X (.type "list") HW:=by
 intro pins s σ H xs vs Q I rx h
 obtain⟨a,kvs,rfl,rd,q⟩:=h
 have ok:=rd.ok I.hok
 obtain⟨z,y,ws,r,o,es,ep,g,c,dt,rest⟩:=id ok
 cases rx with
 | cons r1 r2 =>
 cases r1;cases r2
 obtain⟨hsz,_⟩:=jP ok g dt
 refine C3 (I.ok.hd hc) y g c dt (by rw[hsz];exact z) fun h' tk acc' c' hk hS hacc=>?_
 refine⟨.ref _,_,I.laid (t':=tk) (o:=.lst (kvs.map fun e=>kV e.1)) (fun b u e=>hk b u e) (Nat.le_refl _) ⟨?_,acc'.toList,c',zu ok g dt hacc,?_⟩,rfl,q _ (I.hok.fresh (Nat.le_refl _))⟩
 ·rw[List.length_map];exact z
 ·rw[hS]
def Bt (ta:TA):TE:=fun σ H Q=>ta σ H fun vs H1=>∃ j:Int,vs=[.int j]∧0≤j∧j≤100000∧∀ l,H1 l=none→Q (.ref l) (upd H1 l (.lst (tS 0 j.toNat)))
theorem xQ {X:Cx}{b:Expr}{p1 p2 pos1 pos2:Pos}{ta:TA} (hc:X.calm=true) (hg:Gl X "list") (hm:X.mg "list" = none) (Xr:Gl X "range") (hm2:X.mg "range" = none) (ha:PA X [b] ta)
  (h1:starEach [.Call (.Name "range" p2) [b] [] pos2] X.env=[(false,eval (.Call (.Name "range" p2) [b] [] pos2) X.env)]:=by rfl) (hs2:starEach [b] X.env=[(false,eval b X.env)]:=by rfl) :
  PE X (.Call (.Name "list" p1) [.Call (.Name "range" p2) [b] [] pos2] [] pos1) (Bt ta):=by
 intro pins s σ H Q I h
 refine wpAny_Call_Name_kw (ku I hg hm boot_list ?_ (by decide) (by decide))
 refine PyProof.Rows.callWith_type1 ?_ h1 rfl
 rw[h1]
 show wpAny _ _ (spliced [(false,eval (.Call (.Name "range" p2) [b] [] pos2) X.env)]) _ _ s
 refine Calls.spliced_cons ?_
 refine Call_ (ku I Xr hm2 boot_range (PyProof.Rows.callWith_type1 (bY (ha pos2 pins s σ H _ I h) fun us s1 ⟨vs,H1,I1,r1,q1⟩=>?_) hs2 rfl))
 obtain⟨j,rfl,b1,b2,q⟩:=q1
 obtain⟨u1,rfl,rr⟩:=vals1 r1
 obtain⟨t2,e⟩:=(show ∃ t,u1=Value.int j t from rr)
 subst e
 refine call_range_1 ?_
 refine Calls.spliced_nil ?_
 have hn:Builtin.Range.rangeSize 0 j 1=(j.toNat:Nat):=by rw[rangeSize_one];split <;> omega
 refine call_list_range (n:=j.toNat) (I.ok.hd hc) (IsRange.new ..) (small_one (by decide) (by decide) (by omega) (by omega)) hn (Nat.le_trans (show j.toNat≤100000 by omega) (by decide)) fun h' tk acc' c' hk hS hacc=>?_
 have hv:=Bd hacc
 have hle:s1.heap.objs.size≤(s1.heap.push { cls:=.type "range",data:=.fields #[.int 0 s1.toks,.int j t2,.int 1 (s1.toks+1)] }).objs.size:=by rw[Heap.size_push];exact Nat.le_succ _
 refine⟨.ref _,_,I1.laid (t':=tk) (o:=.lst (tS 0 j.toNat)) (fun b u e=>hk b u (Heap.get?_push_of_some _ e)) hle ⟨?_,acc'.toList,c',hv,?_⟩,rfl,q _ (I1.hok.fresh hle)⟩
 ·unfold tS
  rw[List.length_map,List.length_range]
  exact Nat.le_trans (show j.toNat≤100000 by omega) (by decide)
 ·rw[hS]
def Xs (K:W.Frag) (tl:TE):TI:=fun σ H R=>tl σ H fun x H1=>∃ a,x=.ref a∧(((∃ xs,aP K H1 a xs)∧R (GX K a) H1)∨((∃ xs,bh K H1 a xs)∧R (GY K a) H1))
theorem HX {X:Cx}{tg l:Expr}{tl:TE} (K:W.Frag) (hK:X.K=K) (hl:PE X l tl):PI X tg l (Xs K tl):=by
 subst hK
 intro pins s σ H R I h
 refine bY (hl pins s σ H _ I h) fun v s1 ⟨x,H1,I1,r1,a,e,q1⟩=>?_
 subst e
 cases r1
 rcases q1 with ⟨⟨xs,hq⟩,q⟩ | ⟨⟨xs,hq⟩,q⟩
 ·obtain⟨its,rv,p,hz⟩:=I1.list hq
  refine wpAny_pyIter_list p.isList ?_
  refine⟨s1.heap.objs.size,[s1.heap.objs.size],_,_,H1,rfl,I1.kept (t':=s1.toks) fun b o e=>Heap.get?_push_of_some _ e,uA a _,⟨_,Heap.get?_push_size _ rfl,rfl,rfl⟩,fun b hb=>?_,q⟩
  have e:b=s1.heap.objs.size:=by simpa using hb
  subst e
  exact I1.nQ (Nat.le_refl _) (I1.hok.fresh (Nat.le_refl _))
 ·obtain⟨its,rv,p,hz⟩:=I1.tuple hq
  refine wpAny_pyIter_tuple (show s1.heap.IsTuple a its.toArray from p) ?_
  refine⟨s1.heap.objs.size,[s1.heap.objs.size],_,_,H1,rfl,I1.kept (t':=s1.toks) fun b o e=>Heap.get?_push_of_some _ e,rj a _,⟨_,Heap.get?_push_size _ rfl,rfl,rfl⟩,fun b hb=>?_,q⟩
  have e:b=s1.heap.objs.size:=by simpa using hb
  subst e
  exact I1.nQ (Nat.le_refl _) (I1.hok.fresh (Nat.le_refl _))
open PySem PySem.Spec PyProof.Rows PySem.W
def runK {α:Type} (lt:Nat→Nat→Bool):KasT α→α
 | .ret a=>a
 | .ask i j k=>runK lt (k (lt i j))
theorem gX {α β:Type} (lt:Nat→Nat→Bool) (f:α→KasT β):∀ t:KasT α,runK lt (t.bind f)=runK lt (f (runK lt t))
 | .ret _=>rfl
 | .ask i j k=>gX lt f (k (lt i j))
section
variable (key:Nat→Int)
def gk (p:Array Nat) (i:Nat):Int:=key (p.getD i 0)
abbrev iL:Nat→Nat→Bool:=fun i j=>decide (key i < key j)
def Ay (p:Array Nat) (m:Nat):Prop:=∀ i j,i < j→j < m→gk key p i < gk key p j
def Inj (p:Array Nat):Prop:=(p.toList.map key).Nodup
theorem Az {p:Array Nat}{i:Nat} (h:i < p.size):gk key p i=key p[i]:=by
 unfold gk
 rw[Array.getD_eq_getD_getElem?,Array.getElem?_eq_getElem h];rfl
theorem zw {p:Array Nat} (h:Inj key p) {i j:Nat} (hij:i < j) (hj:j < p.size):gk key p i≠gk key p j:=by
 have hi:i < p.size:=by omega
 have q:=List.pairwise_iff_getElem.mp h i j (by simpa using hi) (by simpa using hj) hij
 rw[Az key hi,Az key hj]
 simpa using q
theorem rL {p q:Array Nat} (hp:q.Perm p) (hI:Inj key p):Inj key q:=((Array.perm_iff_toList_perm.mp hp).map key).nodup_iff.mpr hI
theorem kH {p q:Array Nat}{i j:Nat} (h:p[i]? = q[j]?):gk key p i=gk key q j:=by
 unfold gk
 rw[Array.getD_eq_getD_getElem?,Array.getD_eq_getD_getElem?,h]
theorem HY {p:Array Nat}{m:Nat} (h:∀ i,i+1 < m→gk key p i < gk key p (i+1)):Ay key p m:=by
 intro i j hij hj
 obtain⟨d,rfl⟩:∃ d,j=i+1+d:=⟨j - (i+1),by omega⟩
 induction d with
 | zero=>exact h i hj
 | succ d ih=>exact Int.lt_trans (ih (by omega) (by omega)) (h (i+1+d) (by omega))
theorem vK {p:Array Nat} (hI:Inj key p):∀(f n:Nat),1≤n→n+f≤p.size→Ay key p n→Ay key p (runK (iL key) (kas_asc p f n))∧n≤runK (iL key) (kas_asc p f n)∧runK (iL key) (kas_asc p f n)≤n+f∧(runK (iL key) (kas_asc p f n) < n+f→gk key p (runK (iL key) (kas_asc p f n)) < gk key p (runK (iL key) (kas_asc p f n) - 1))
 | 0,n,_,_,h=>⟨h,Nat.le_refl _,Nat.le_refl _,fun q=>absurd q (Nat.lt_irrefl _)⟩
 | f+1,n,h1,hs,h=>by
  show Ay key p (runK (iL key) (if iL key (p.getD n 0) (p.getD (n - 1) 0)=true then .ret n else kas_asc p f (n+1)))∧_
  have e:runK (iL key) (kas_asc p (f+1) n)=runK (iL key) (if iL key (p.getD n 0) (p.getD (n - 1) 0)=true then .ret n else kas_asc p f (n+1)):=rfl
  rw[e]
  by_cases hc:gk key p n < gk key p (n - 1)
  have hT:iL key (p.getD n 0) (p.getD (n - 1) 0)=true:=decide_eq_true hc
  rotate_left
  have hF:¬iL key (p.getD n 0) (p.getD (n - 1) 0)=true:=fun q=>hc (of_decide_eq_true q)
  rotate_left
  ·rw[if_pos hT]
   exact⟨h,Nat.le_refl _,by show n≤n+(f+1);omega,fun _=>hc⟩
  ·rw[if_neg hF]
   have h2:Ay key p (n+1):=by
    refine HY key fun i hi=>?_
    by_cases hin:i+1 < n
    ·exact h i (i+1) (by omega) hin
    ·obtain rfl:i=n - 1:=by omega
     rw[show n - 1+1=n from by omega]
     rcases Int.lt_or_lt_of_ne (zw key hI (show n - 1 < n by omega) (by omega)) with q | q
     ·exact q
     ·exact absurd q hc
   obtain⟨a,b,c,d⟩:=vK hI f (n+1) (by omega) (by omega) h2
   exact⟨a,by omega,by omega,fun q=>d (by omega)⟩
def Lo (p:Array Nat) (m:Nat):Prop:=∀ i j,i < j→j < m→gk key p j < gk key p i
theorem xR {p:Array Nat} (hI:Inj key p):∀(f n:Nat),1≤n→n+f≤p.size→Lo key p n→∃ m,runK (iL key) (kas_desc f p n 0)=(p,m,0)∧Lo key p m∧n≤m∧m≤n+f
 | 0,n,_,_,h=>⟨n,rfl,h,Nat.le_refl _,Nat.le_refl _⟩
 | f+1,n,h1,hs,h=>by
  have e:runK (iL key) (kas_desc (f+1) p n 0)=runK (iL key) (if iL key (p.getD n 0) (p.getD (n - 1) 0)=true then (if 0 > 0 then kas_desc f (kas_rev p (n - (0+1)) n) (n+1) 0 else kas_desc f p (n+1) 0) else .ask (p.getD (n - 1) 0) (p.getD n 0) fun d=>if d=true then .ret (p,n,0) else kas_desc f p (n+1) (0+1)):=rfl
  by_cases hc:gk key p n < gk key p (n - 1)
  have hT:iL key (p.getD n 0) (p.getD (n - 1) 0)=true:=decide_eq_true hc
  rotate_left
  have hF:¬iL key (p.getD n 0) (p.getD (n - 1) 0)=true:=fun q=>hc (of_decide_eq_true q)
  rotate_left
  ·rw[e,if_pos hT,if_neg (by decide)]
   have h2:Lo key p (n+1):=by
    intro i j hij hj
    by_cases hjn:j < n
    ·exact h i j hij hjn
    ·obtain rfl:j=n:=by omega
     by_cases hi:i=j - 1
     ·rw[hi];exact hc
     ·exact Int.lt_trans hc (h i (j - 1) (by omega) (by omega))
   obtain⟨m,a,b,c,d⟩:=xR hI f (n+1) (by omega) (by omega) h2
   exact⟨m,a,b,by omega,by omega⟩
  ·rw[e,if_neg hF]
   refine⟨n,?_,h,Nat.le_refl _,by omega⟩
   show runK (iL key) (if iL key (p.getD (n - 1) 0) (p.getD n 0)=true then .ret (p,n,0) else kas_desc f p (n+1) (0+1))=_
   rw[if_pos]
   ·rfl
   ·refine decide_eq_true ?_
    rcases Int.lt_or_lt_of_ne (zw key hI (show n - 1 < n by omega) (by omega)) with q | q
    ·exact q
    ·exact absurd q hc
theorem C4 {p:Array Nat}{m:Nat} (hm:m≤p.size) (i:Nat):gk key (kas_rev p 0 m) i=if i < m then gk key p (m - 1 - i) else gk key p i:=by
 have e:=getElem?_mirror_all (i:=0) hm i
 by_cases h:i < m
 ·rw[if_pos h]
  rw[if_pos ⟨Nat.zero_le _,h⟩] at e
  exact kH key (by rw[show m - 1 - i=0+m - 1 - i from by omega];exact e)
 ·rw[if_neg h]
  rw[if_neg (fun q=>h q.2)] at e
  exact kH key e
theorem Bu {p:Array Nat} (hI:Inj key p) {m:Nat} (h1:1≤m) (hm:m≤p.size) (hD:Lo key p m):∃ k q,runK (iL key) (kas_tail3 m p.size p)=(k,q)∧q.Perm p∧Ay key q k∧1≤k∧k≤p.size:=by
 have hp:(kas_rev p 0 m).Perm p:=mirror_perm _ _ _ _
 have hs:(kas_rev p 0 m).size=p.size:=mirror_size _ _ _ _
 have hA:Ay key (kas_rev p 0 m) m:=by
  intro i j hij hj
  rw[C4 key hm,C4 key hm,if_pos (by omega),if_pos hj]
  exact hD _ _ (by omega) (by omega)
 obtain⟨a,b,c,_⟩:=vK key (rL key hp hI) (p.size - m) m h1 (by rw[hs];omega) hA
 refine⟨_,_,?_,hp,a,by omega,by omega⟩
 show runK (iL key) ((kas_asc (kas_rev p 0 m) (p.size - m) m).bind fun m'=>.ret (m',kas_rev p 0 m))=_
 rw[gX]
 rfl
theorem Bv {p:Array Nat} (hI:Inj key p) (h2:2≤p.size):∃ k q,runK (iL key) (kas_count p.size p)=(k,q)∧q.Perm p∧Ay key q k∧1≤k∧k≤p.size:=by
 have Xu:Ay key p 1:=fun i j hij hj=>by omega
 obtain⟨a,b,c,d⟩:=vK key hI (p.size - 1) 1 (Nat.le_refl _) (by omega) Xu
 unfold kas_count
 rw[gX]
 generalize runK (iL key) (kas_asc p (p.size - 1) 1)=n at a b c d
 by_cases e1:n=p.size
 ·rw[if_pos (by rw[e1];exact beq_self_eq_true _)]
  exact⟨n,p,rfl,Array.Perm.refl _,a,b,by omega⟩
 rw[if_neg (fun q=>e1 (by simpa using q))]
 by_cases e2:n > 1
 ·rw[if_pos e2]
  have hT:iL key (p.getD 0 0) (p.getD (n - 1) 0)=true:=decide_eq_true (a 0 (n - 1) (by omega) (by omega))
  show ∃ k q,runK (iL key) (if iL key (p.getD 0 0) (p.getD (n - 1) 0)=true then .ret (n,p) else kas_descPart n p.size (kas_rev p 0 n))=(k,q)∧_
  rw[if_pos hT]
  exact⟨n,p,rfl,Array.Perm.refl _,a,b,by omega⟩
 rw[if_neg e2]
 obtain rfl:n=1:=by omega
 have hd:=d (by omega)
 have C5:Lo key p 2:=fun i j hij hj=>by
  obtain rfl:i=0:=by omega
  obtain rfl:j=1:=by omega
  exact hd
 obtain⟨m,e,Xv,h3,h4⟩:=xR key hI (p.size - (1+1)) (1+1) (by omega) (by omega) C5
 unfold kas_descPart
 rw[gX,e]
 show ∃ k q,runK (iL key) (if 0 > 0 then _ else kas_tail3 m p.size p)=(k,q)∧_
 rw[if_neg (by decide)]
 exact Bu key hI (by omega) (by omega) Xv
theorem pI {p:Array Nat} (hI:Inj key p) {k:Nat} (hk:k < p.size) (hA:Ay key p k):∀(f l r:Nat),r - l≤f→l≤r→r≤k→(∀ i,i < l→gk key p i < gk key p k)→(∀ i,r≤i→i < k→gk key p k < gk key p i) →
  runK (iL key) (kas_place p k f l r)≤k∧(∀ i,i < runK (iL key) (kas_place p k f l r)→gk key p i < gk key p k)∧(∀ i,runK (iL key) (kas_place p k f l r)≤i→i < k→gk key p k < gk key p i)
 | 0,l,r,hf,hlr,hr,h1,h2=>by
  obtain rfl:l=r:=by omega
  exact⟨hr,h1,h2⟩
 | f+1,l,r,hf,hlr,hr,h1,h2=>by
  have e:kas_place p k (f+1) l r=if l≥r then .ret l else .ask (p.getD k 0) (p.getD ((l+r) / 2) 0) fun c=>if c=true then kas_place p k f l ((l+r) / 2) else kas_place p k f ((l+r) / 2+1) r:=rfl
  rw[e]
  by_cases hle:l≥r
  ·rw[if_pos hle]
   obtain rfl:l=r:=by omega
   exact⟨hr,h1,h2⟩
  rw[if_neg hle]
  have hm:(l+r) / 2 < r:=by omega
  have hm2:l≤(l+r) / 2:=by omega
  generalize (l+r) / 2=mid at hm hm2
  show _≤_∧_
  have e2:runK (iL key) (KasT.ask (p.getD k 0) (p.getD mid 0) fun c=>if c=true then kas_place p k f l mid else kas_place p k f (mid+1) r)=runK (iL key) (if iL key (p.getD k 0) (p.getD mid 0)=true then kas_place p k f l mid else kas_place p k f (mid+1) r):=rfl
  rw[e2]
  by_cases hc:gk key p k < gk key p mid
  ·rw[if_pos (show iL key (p.getD k 0) (p.getD mid 0)=true from decide_eq_true hc)]
   refine pI hI hk hA f l mid (by omega) hm2 (by omega) h1 fun i hi hik=>?_
   by_cases QV:i=mid
   ·rw[QV];exact hc
   ·exact Int.lt_trans hc (hA mid i (by omega) hik)
  ·rw[if_neg (show ¬iL key (p.getD k 0) (p.getD mid 0)=true from fun q=>hc (of_decide_eq_true q))]
   have hc2:gk key p mid < gk key p k:=by
    rcases Int.lt_or_lt_of_ne (zw key hI (show mid < k by omega) hk) with q | q
    ·exact q
    ·exact absurd q hc
   refine pI hI hk hA f (mid+1) r (by omega) (by omega) hr (fun i hi=>?_) h2
   by_cases QV:i=mid
   ·rw[QV];exact hc2
   ·exact Int.lt_trans (hA i mid (by omega) (by omega)) hc2
theorem Bw {p:Array Nat}{k l:Nat} (hk:k < p.size) (hl:l≤k) (i:Nat):gk key (bubble p k (k - l)) i=if i=l then gk key p k else if l < i∧i≤k then gk key p (i - 1) else gk key p i:=by
 have e:=getElem?_bubble hk (k - l) (by omega) i
 rw[show k - (k - l)=l from by omega] at e
 by_cases h1:i=l
 ·rw[if_pos h1] at e ⊢;exact kH key e
 ·rw[if_neg h1] at e ⊢
  by_cases h2:l < i∧i≤k
  ·rw[if_pos h2] at e ⊢;exact kH key e
  ·rw[if_neg h2] at e ⊢;exact kH key e
theorem AA:∀(f:Nat) {p:Array Nat}{k:Nat},Inj key p→k+f=p.size→Ay key p k→∃ q,runK (iL key) (kas_bin f p k)=q∧q.Perm p∧Ay key q p.size
 | 0,p,k,hI,hk,hA=>⟨p,rfl,Array.Perm.refl _,by rw[←hk];exact hA⟩
 | f+1,p,k,hI,hk,hA=>by
  obtain⟨h1,h2,h3⟩:=pI key hI (show k < p.size by omega) hA k 0 k (by omega) (Nat.zero_le _) (Nat.le_refl _) (fun i hi=>by omega) (fun i hi hik=>by omega)
  show ∃ q,runK (iL key) ((kas_place p k k 0 k).bind fun l=>kas_bin f (bubble p k (k - l)) (k+1))=q∧_
  rw[gX]
  generalize runK (iL key) (kas_place p k k 0 k)=l at h1 h2 h3
  have hp:(bubble p k (k - l)).Perm p:=bubble_perm _ _ _
  have hs:(bubble p k (k - l)).size=p.size:=bubble_size _ _ _
  have Xw:Ay key (bubble p k (k - l)) (k+1):=by
   intro i j hij hj
   have g:=fun i=>Bw key (show k < p.size by omega) h1 i
   rw[g i,g j]
   by_cases a1:i=l
   ·rw[if_pos a1,if_neg (by omega),if_pos ⟨by omega,by omega⟩]
    exact h3 _ (by omega) (by omega)
   ·rw[if_neg a1]
    by_cases a2:l < i∧i≤k
    ·rw[if_pos a2,if_neg (by omega),if_pos ⟨by omega,by omega⟩]
     exact hA _ _ (by omega) (by omega)
    ·rw[if_neg a2]
     have hil:i < l:=by omega
     by_cases b1:j=l
     ·rw[if_pos b1];exact h2 i hil
     ·rw[if_neg b1]
      by_cases b2:l < j∧j≤k
      ·rw[if_pos b2];exact hA _ _ (by omega) (by omega)
      ·rw[if_neg b2];exact hA _ _ hij (by omega)
  obtain⟨q,e,hq,Lp⟩:=AA f (rL key hp hI) (by rw[hs];omega) Xw
  exact⟨q,e,hq.trans hp,by rw[←hs];exact Lp⟩
theorem C6 {n:Nat} (h2:2≤n) (hI:((List.range n).map key).Nodup):∃ q:Array Nat,runK (iL key) (kas_sort n)=q∧q.toList.Perm (List.range n)∧(q.toList.map key).Pairwise (· < ·):=by
 have hI0:Inj key (List.toArray (List.range n)):=by unfold Inj;simpa using hI
 have hz:(List.toArray (List.range n)).size=n:=by simp
 obtain⟨k,p,e,hp,hA,h1,hk⟩:=Bv key hI0 (by rw[hz];exact h2)
 have hs:p.size=n:=by rw[hp.size_eq,hz]
 have fin:∀ q:Array Nat,q.Perm p→Ay key q n→q.toList.Perm (List.range n)∧(q.toList.map key).Pairwise (· < ·):=fun q hq Lp=>by
  have hqs:q.size=n:=by rw[hq.size_eq,hs]
  refine⟨?_,?_⟩
  ·have:=Array.perm_iff_toList_perm.mp (hq.trans hp)
   simpa using this
  ·refine List.pairwise_iff_getElem.mpr fun i j hi hj hij=>?_
   have hi':i < q.size:=by simpa using hi
   have hj':j < q.size:=by simpa using hj
   have:=Lp i j hij (by omega)
   rw[Az key hi',Az key hj'] at this
   simpa using this
 unfold kas_sort
 rw[gX]
 rw[hz] at e hk
 rw[e]
 show ∃ q,runK (iL key) (if k < n then kas_bin (n - max k 1) p (max k 1) else .ret p)=q∧_
 by_cases hkn:k < n
 ·rw[if_pos hkn,show max k 1=k from by omega]
  obtain⟨q,e2,hq,Lp⟩:=AA key (n - k) (rL key hp hI0) (show k+(n - k)=p.size by omega) hA
  exact⟨q,e2,fin q hq (by rw[←hs];exact Lp)⟩
 ·rw[if_neg hkn]
  obtain rfl:k=n:=by omega
  exact⟨p,rfl,fin p (Array.Perm.refl _) hA⟩
end
def tL {α:Type} (n:Nat) (R:α→Prop):KasT α→Prop
 | .ret a=>R a
 | .ask i j k=>i < n∧j < n∧∀ b,tL n R (k b)
theorem jv {α β:Type}{n:Nat}{R:α→Prop}{R':β→Prop}{f:α→KasT β}:∀{t:KasT α},tL n R t→(∀ a,R a→tL n R' (f a))→tL n R' (t.bind f)
 | .ret a,h,hf=>hf a h
 | .ask _ _ _,⟨h1,h2,h3⟩,hf=>⟨h1,h2,fun b=>jv (h3 b) hf⟩
def AB (n:Nat) (p:Array Nat):Prop:=∀ x∈p.toList,x < n
theorem ja {n:Nat} (h0:0 < n) {p:Array Nat} (h:AB n p) (i:Nat):p.getD i 0 < n:=by
 rw[Array.getD_eq_getD_getElem?]
 cases e:p[i]? with
 | none=>exact h0
 | some x=>exact h x (by rw[←Array.getElem?_toList] at e;exact List.mem_of_getElem? e)
theorem jw {n:Nat}{p q:Array Nat} (hp:q.Perm p) (h:AB n p):AB n q:=fun x hx=>h x ((Array.perm_iff_toList_perm.mp hp).mem_iff.mp hx)
theorem zx {n:Nat} (h0:0 < n) {p:Array Nat} (h:AB n p):∀ f m,tL n (fun _=>True) (kas_asc p f m)
 | 0,m=>trivial
 | f+1,m=>⟨ja h0 h _,ja h0 h _,fun b=>by
  show tL n _ (if b=true then .ret m else kas_asc p f (m+1))
  split
  ·exact trivial
  ·exact zx h0 h f (m+1)⟩
theorem qS {n:Nat} (h0:0 < n):∀ f {p:Array Nat} (m q:Nat),AB n p→tL n (fun r=>AB n r.1) (kas_desc f p m q)
 | 0,p,m,q,h=>h
 | f+1,p,m,q,h=>⟨ja h0 h _,ja h0 h _,fun b=>by
  show tL n _ (if b=true then (if q > 0 then kas_desc f (kas_rev p (m - (q+1)) m) (m+1) 0 else kas_desc f p (m+1) 0) else .ask (p.getD (m - 1) 0) (p.getD m 0) fun d=>if d=true then .ret (p,m,q) else kas_desc f p (m+1) (q+1))
  split
  ·split
   ·exact qS h0 f _ _ (jw (mirror_perm _ _ _ _) h)
   ·exact qS h0 f _ _ h
  ·refine⟨ja h0 h _,ja h0 h _,fun d=>?_⟩
   show tL n _ (if d=true then .ret (p,m,q) else kas_desc f p (m+1) (q+1))
   split
   ·exact h
   ·exact qS h0 f _ _ h⟩
theorem xS {n:Nat} (h0:0 < n) {p:Array Nat} (h:AB n p) (m k:Nat):tL n (fun r=>AB n r.2) (kas_tail3 m k p) :=
 jv (zx h0 (jw (mirror_perm _ _ _ _) h) _ _) fun a _=>jw (mirror_perm _ _ _ _) h
theorem qi {n:Nat} (h0:0 < n) {p:Array Nat} (h:AB n p) (m k:Nat):tL n (fun r=>AB n r.2) (kas_descPart m k p) :=
 jv (qS h0 _ _ _ h) fun r hr=>by
  show tL n _ (if r.2.2 > 0 then kas_tail3 r.2.1 k (kas_rev r.1 (r.2.1 - (r.2.2+1)) r.2.1) else kas_tail3 r.2.1 k r.1)
  split
  ·exact xS h0 (jw (mirror_perm _ _ _ _) hr) _ _
  ·exact xS h0 hr _ _
theorem C7 {n:Nat} (h0:0 < n) {p:Array Nat} (h:AB n p) (k:Nat):tL n (fun r=>AB n r.2) (kas_count k p) :=
 jv (zx h0 h _ _) fun m _=>by
  show tL n _ (if (m == k)=true then .ret (m,p) else if m > 1 then .ask (p.getD 0 0) (p.getD (m - 1) 0) fun c=>if c=true then .ret (m,p) else kas_descPart m k (kas_rev p 0 m) else kas_descPart m k p)
  split
  ·exact h
  ·split
   ·refine⟨ja h0 h _,ja h0 h _,fun c=>?_⟩
    show tL n _ (if c=true then .ret (m,p) else kas_descPart m k (kas_rev p 0 m))
    split
    ·exact h
    ·exact qi h0 (jw (mirror_perm _ _ _ _) h) _ _
   ·exact qi h0 h _ _
theorem rM {n:Nat} (h0:0 < n) {p:Array Nat} (h:AB n p) (k:Nat):∀ f l r,tL n (fun _=>True) (kas_place p k f l r)
 | 0,l,r=>trivial
 | f+1,l,r=>by
  show tL n _ (if l≥r then .ret l else .ask (p.getD k 0) (p.getD ((l+r) / 2) 0) fun c=>if c=true then kas_place p k f l ((l+r) / 2) else kas_place p k f ((l+r) / 2+1) r)
  split
  ·exact trivial
  ·refine⟨ja h0 h _,ja h0 h _,fun c=>?_⟩
   show tL n _ (if c=true then kas_place p k f l ((l+r) / 2) else kas_place p k f ((l+r) / 2+1) r)
   split
   ·exact rM h0 h k f _ _
   ·exact rM h0 h k f _ _
theorem C8 {n:Nat} (h0:0 < n):∀ f {p:Array Nat} (k:Nat),AB n p→tL n (fun _=>True) (kas_bin f p k)
 | 0,p,k,h=>trivial
 | f+1,p,k,h=>jv (rM h0 h k _ _ _) fun l _=>C8 h0 f _ (jw (bubble_perm _ _ _) h)
theorem EK {n:Nat} (h0:0 < n):tL n (fun _=>True) (kas_sort n) :=
 jv (C7 h0 (fun x hx=>by simpa using hx) _) fun r hr=>by
  show tL n _ (if r.1 < n then kas_bin (n - max r.1 1) r.2 (max r.1 1) else .ret r.2)
  split
  ·exact C8 h0 _ _ hr
  ·exact trivial
theorem uS {α:Type}{n:Nat}{R:α→Prop}{cmp:Nat→Nat→(Bool→Shared→Prop)→Shared→Prop}{lt:Nat→Nat→Bool}{s:Shared} (hc:∀ i j (C:Bool→Shared→Prop),i < n→j < n→C (lt i j) s→cmp i j C s) {Q:α→Shared→Prop}:∀(t:KasT α),tL n R t→Q (runK lt t) s→t.kasWp cmp Q s
 | .ret _,_,h=>h
 | .ask i j k,⟨h1,h2,h3⟩,h=>hc i j _ h1 h2 (uS hc (k (lt i j)) (h3 _) h)
section
variable {prog:Program}{w:World}{A:Around}{s:Shared}{Q:Bool→Shared→Prop}{fin:Bool}
theorem lex_lt {a1 a2 b1 b2:Int}{t1 t2 u1 u2:Tok}{r:List (Value×Value)} (hne:a2≠b2) (h:Q (decide (a1 < b1∨(a1=b1∧a2 < b2))) s) :
  KatLex prog w A true fin Q ((.int a1 t1,.int b1 u1) :: (.int a2 t2,.int b2 u2) :: r) 0 s:=by
 refine kat_cons ?_
 refine(rz (A:=A) (s:=s) (y:=.int a1) (x:=.int b1) ⟨_,rfl⟩ ⟨_,rfl⟩ rfl rfl) prog w _ _ ?_
 by_cases e:a1=b1
 ·have e1:qd (.int a1) (.int b1)=true:=by rw[e];exact ju rfl
  rw[e1]
  refine kat_yes (kat_cons ?_)
  refine(rz (A:=A) (s:=s) (y:=.int a2) (x:=.int b2) ⟨_,rfl⟩ ⟨_,rfl⟩ rfl rfl) prog w _ _ ?_
  have e2:qd (.int a2) (.int b2)=false:=by
   show decide _=false
   exact decide_eq_false hne
  rw[e2]
  refine kat_no (kat_one _ _ (lt_int ?_))
  show Q (decide (a2 < b2)) s
  rw[show decide (a1 < b1∨(a1=b1∧a2 < b2))=decide (a2 < b2) from by congr 1;exact propext ⟨fun h=>by omega,fun h=>.inr ⟨e,h⟩⟩] at h
  exact h
 ·have e1:qd (.int a1) (.int b1)=false:=by
   show decide _=false
   exact decide_eq_false e
  rw[e1]
  refine kat_no (oneLt_int ?_)
  rw[show decide (a1 < b1∨(a1=b1∧a2 < b2))=decide (a1 < b1) from by congr 1;exact propext ⟨fun h=>by omega,fun h=>.inl h⟩] at h
  exact h
theorem xT:∀{xs:List Value}{i:Nat},Q fin s→KatLex prog w A true fin Q (xs.zip xs) i s
 | [],_,h=>h
 | x :: xs,i,h=>kat_cons (SeqAt.EqAt.same x prog w _ _ (kat_yes (xT h)))
end
theorem bD.ex {P:Program}{w:World}{H:Hp}{h:Heap}{a:Addr}{o:HO} (x:bD P w H h a o):∃ ob,h.get? a=some ob:=by
 cases o with
 | lst xs=>obtain⟨_,_,_,_,e⟩:=x;exact⟨_,e⟩
 | tup xs=>obtain⟨_,_,_,o,e,_⟩:=x;exact⟨_,e⟩
 | dK kvs=>obtain⟨_,_,_,_,o,_,_,e,_⟩:=x;exact⟨_,e⟩
 | dT kvs=>obtain⟨_,_,_,_,o,_,_,e,_⟩:=x;exact⟨_,e⟩
 | set S n=>obtain⟨o,_,_,_,e,_⟩:=x;exact⟨_,e⟩
 | ins C dx fs=>obtain⟨_,_,_,e,_⟩:=x;exact⟨_,e⟩
 | own y=>obtain⟨_,e⟩:=x;exact⟨_,e⟩
 | xd fs=>obtain⟨_,⟨_,_,_,e,_⟩,_⟩:=x;exact⟨_,e⟩
 | O8 lo hi=>obtain⟨_,_,_,e⟩:=x;exact⟨_,e⟩
 | m8 ob u=>obtain⟨e,_⟩:=x;exact⟨_,e⟩
 | Gj ps=>exact⟨_,(show h.get? a=some _ from x)⟩
 | met f y=>exact⟨_,(show h.get? a=some _ from x)⟩
 | ext φ=>obtain⟨_,⟨_,e⟩,_⟩:=x;exact⟨_,e⟩
theorem Inv.Lq {X:Cx}{pins:List (Addr×Obj)}{σ:St}{H:Hp}{s:Shared}{h':Heap}{D:Addr}{xs:List V}{m:Str→Option Value} (I:Inv X pins σ H s) (hn:s.heap.Ns X.env.locals m) (hn':h'.Ns X.env.locals m) (kept:∀ b o,b≠X.env.locals→s.heap.get? b=some o→h'.get? b=some o) (hD:s.heap.get? D=none) (new:bD X.prog X.w (upd H D (.lst xs)) h' D (.lst xs)):H D=none∧Inv X pins σ (upd H D (.lst xs)) { s with heap:=h' }:=by
 have HD:H D=none:=by
  cases q:H D with
  | none=>rfl
  | some u =>
   obtain⟨ob,e⟩:=(I.hok D u q).ex
   rw[e] at hD;cases hD
 have GN:∀ b o,H b=some o→b≠X.env.locals:=fun b o e z=>by rw[z,I.free] at e;cases e
 have ne:∀ b o,H b=some o→b≠D:=fun b o e z=>by rw[z,HD] at e;cases e
 refine⟨HD,?_⟩
 refine I.step (g':=s.gens) (d':=s.drawn) (t':=s.toks) (ch:=[]) (fun b hb=>by cases hb) (fun b o h1 _ _ e _=>kept b o h1 e) (fun b o h1 _ _ e _=>⟨o.slots,kept b o h1 e⟩) (fun b o _ e n=>?_) (fun b o _ e=>?_) (fun b ys e=>by rw[aC (ne _ _ e)];exact e) (fun b ob u e=>by rw[aC (ne _ _ e)];exact e) (fun b ps e=>⟨#[],by rw[aC (ne _ _ e),e];simp⟩) (fun m' hm'=>?_) (fun b u e=>?_) I.bare
 ·rw[aC (fun z=>by rw[z,hD] at e;cases e)];exact n
 ·by_cases hb:b=X.env.locals
  ·obtain⟨o',_,_,e',_⟩:=hn'
   exact⟨o',by rw[hb];exact e'⟩
  ·exact⟨o,kept b o hb e⟩
 ·obtain⟨o1,es1,ep1,g1,d1,_,f1⟩:=hn
  obtain⟨o2,GB,ep2,g2,d2,_,f2⟩:=hm'
  rw[g1] at g2
  cases g2
  rw[d1] at d2
  cases d2
  have em:m'=m:=funext fun x=>(f2 x).symm.trans (f1 x)
  rw[em];exact hn'
 ·by_cases hb:b=D
  ·subst hb
   rw[aj] at e
   cases e
   exact new
  ·rw[aC hb] at e
   refine(I.hok b u e).stay (fun c v hc q=>kept c v ?_ q) (fun c q=>by rw[aC (ne _ _ q)];exact q) (fun c ys q=>by rw[aC (ne _ _ q)];exact q)
   rcases hc with z | z
   ·rw[z];exact GN b u e
   ·exact GN c _ z
abbrev T3:=Addr×Int×Int
def enc (t:T3):Int:=t.2.1 * 1000000+t.2.2
def HZ (K:W.Frag):List V→Hp→VK→Prop:=fun xs H Q=>∃(l:Addr) (ts:List T3),xs=[.ref l]∧aP K H l (ts.map fun t=>V.ref t.1)∧2≤ts.length∧ts.length < 64∧(∀ t∈ts,0≤t.2.2∧t.2.2 < 1000000∧∃ r,H t.1=some (.tup (.int t.2.1 :: .int t.2.2 :: r)))∧(ts.map fun t=>t.2.2).Nodup ∧
 ∀ us:List T3,us.Perm ts→us.Pairwise (fun x y=>enc x < enc y)→∀ l',H l'=none→Q (.ref l') (upd H l' (.lst (us.map fun t=>V.ref t.1)))
theorem vL:∀{ts:List T3}{us:List Value},Vals (ts.map fun t=>V.ref t.1) us→us=ts.map fun t=>Value.ref t.1
 | [],_,.nil=>rfl
 | t :: ts,_,.cons r q=>by cases(show _=Value.ref t.1 from r);rw[vL q];rfl
theorem ng:∀(ts:List T3),Vals (ts.map fun t=>V.ref t.1) (ts.map fun t=>Value.ref t.1)
 | []=>.nil
 | t :: ts=>.cons rfl (ng ts)
theorem AD {h:Heap}:∀{ts:List T3},(∀ t∈ts,∃(its:List Value) (t1 t2:Tok),IsTup h t.1 (Value.int t.2.1 t1 :: Value.int t.2.2 t2 :: its).toArray)→∃ fs,KatTups h (ts.map fun t=>Value.ref t.1) fs∧fs.length=ts.length∧∀ v∈fs,∃ n t,v=Value.int n t
 | [],_=>⟨[],.nil,rfl,fun v hv=>by cases hv⟩
 | t :: ts,hh=>by
  obtain⟨fs,k,hl,hv⟩:=AD (ts:=ts) fun t ht=>hh t (List.mem_cons_of_mem _ ht)
  obtain⟨its,t1,t2,o,ho,hc,n,hd⟩:=hh t (List.mem_cons_self ..)
  refine⟨.int t.2.1 t1 :: fs,.cons ho hc hd (by simp) k,by simp[hl],fun v hv'=>?_⟩
  rcases List.mem_cons.mp hv' with rfl | hv'
  ·exact⟨_,_,rfl⟩
  ·exact hv v hv'
theorem vM {X:Cx} (K:W.Frag) (hK:X.K=K):cD X (.builtin "sorted") (HZ K):=by
 subst hK
 intro pins s σ H xs us Q I r h
 obtain⟨l,ts,rfl,hq,h2,h64,ht,hnd,q⟩:=h
 obtain⟨u,rfl,ru⟩:=vals1 r
 cases(show u=Value.ref l from ru)
 obtain⟨its,r1,pl,_⟩:=I.list hq
 obtain rfl:=vL r1
 obtain⟨m,F⟩:=I.fr
 have N:=B8 (g:=X.base) (h:=s.heap) (L:=X.env.locals)
 have hlen:(ts.map fun t=>Value.ref t.1).length=ts.length:=List.length_map _
 refine kat_sorted F N pl.isList (by rw[hlen];exact h2) (by rw[hlen];exact h64) fun D e1 h' F' N' hD=>?_
 have kept:∀ b o,b≠X.env.locals→s.heap.get? b=some o→h'.get? b=some o:=fun b o hb e=>by
  cases qb:X.base.get? b with
  | some v =>
   have:=I.bk b v qb
   rw[e] at this;cases this
   exact F'.keep b _ qb
  | none=>exact(N' (b,o) (List.mem_cons_of_mem _ (kr hb qb e))).1
 have GN:∀ b o,H b=some o→b≠X.env.locals:=fun b o e z=>by rw[z,I.free] at e;cases e
 have tup:∀ t∈ts,∃(its:List Value) (t1 t2:Tok),IsTup h' t.1 (Value.int t.2.1 t1 :: Value.int t.2.2 t2 :: its).toArray:=fun t hm=>by
  obtain⟨_,_,rr,hH⟩:=ht t hm
  obtain⟨_,vs,rv,o,ho,hc,n,hd⟩:=(show bD X.prog X.w H s.heap t.1 (.tup _) from I.hok t.1 _ hH)
  cases rv with
  | cons ra rv =>
   cases rv with
   | cons rb rv =>
    obtain⟨t1,rfl⟩:=ra
    obtain⟨t2,rfl⟩:=rb
    exact⟨_,t1,t2,o,kept _ _ (GN _ _ hH) ho,hc,n,hd⟩
 obtain⟨fs,kt,hfl,Xx⟩:=AD tup
 refine kat_kind (T:=.type "int") kt (by omega) (fun v hv=>?_) rfl ?_
 ·obtain⟨n,t,rfl⟩:=Xx v hv
  exact Looks.of_pure rfl
 rw[show(Value.type "int" != Value.type "tuple")=true from rfl]
 have gd:∀ i,i < ts.length→(ts.map fun t=>Value.ref t.1).getD i Value.none=.ref (ts.getD i (0,0,0)).1:=fun i hi=>by
  rw[List.getD_eq_getElem?_getD,List.getD_eq_getElem?_getD,List.getElem?_map,List.getElem?_eq_getElem hi];rfl
 have gm:∀ i,i < ts.length→ts.getD i (0,0,0)∈ts:=fun i hi=>by
  rw[List.getD_eq_getElem?_getD,List.getElem?_eq_getElem hi];exact List.getElem_mem hi
 have sec:∀ i j,i < ts.length→j < ts.length→i≠j→(ts.getD i (0,0,0)).2.2≠(ts.getD j (0,0,0)).2.2:=fun i j hi hj hij=>by
  have Lr:∀ i j,i < j→j < ts.length→(ts.getD i (0,0,0)).2.2≠(ts.getD j (0,0,0)).2.2:=fun i j hij hj=>by
   have hi:i < ts.length:=by omega
   have:=List.pairwise_iff_getElem.mp hnd i j (by simpa using hi) (by simpa using hj) hij
   rw[List.getD_eq_getElem?_getD,List.getD_eq_getElem?_getD,List.getElem?_eq_getElem hi,List.getElem?_eq_getElem hj]
   simpa using this
  rcases Nat.lt_or_gt_of_ne hij with z | z
  ·exact Lr i j z hj
  ·exact Ne.symm (Lr j i z hi)
 have Ia:∀ i j,i < ts.length→j < ts.length→i≠j→(decide (enc (ts.getD i (0,0,0)) < enc (ts.getD j (0,0,0))))=decide ((ts.getD i (0,0,0)).2.1 < (ts.getD j (0,0,0)).2.1∨((ts.getD i (0,0,0)).2.1=(ts.getD j (0,0,0)).2.1∧(ts.getD i (0,0,0)).2.2 < (ts.getD j (0,0,0)).2.2)):=fun i j hi hj hij=>by
  obtain⟨a1,a2,_⟩:=ht _ (gm i hi)
  obtain⟨b1,b2,_⟩:=ht _ (gm j hj)
  congr 1
  unfold enc
  exact propext ⟨fun h=>by omega,fun h=>by omega⟩
 have hkn:((List.range ts.length).map fun i=>enc (ts.getD i (0,0,0))).Nodup:=by
  refine List.pairwise_iff_getElem.mpr fun i j hi hj hij=>?_
  have hi':i < ts.length:=by simpa using hi
  have hj':j < ts.length:=by simpa using hj
  have hs:=sec i j hi' hj' (by omega)
  obtain⟨a1,a2,_⟩:=ht _ (gm i hi')
  obtain⟨b1,b2,_⟩:=ht _ (gm j hj')
  rw[List.getElem_map,List.getElem_map,List.getElem_range,List.getElem_range]
  unfold enc
  omega
 obtain⟨p,ep,hp,AE⟩:=C6 (fun i=>enc (ts.getD i (0,0,0))) h2 hkn
 rw[hlen]
 refine uS (n:=ts.length) (R:=fun _=>True) (lt:=iL fun i=>enc (ts.getD i (0,0,0))) (fun i j C hi hj hC=>?_) _ (EK (by omega)) ?_
 ·show wpAny _ _ (keyLt' _ ((ts.map fun t=>Value.ref t.1).getD i Value.none) ((ts.map fun t=>Value.ref t.1).getD j Value.none)) C _ _
  rw[gd i hi,gd j hj]
  obtain⟨iti,t1,t2,oi,QW,U3,ni,hdi⟩:=tup _ (gm i hi)
  by_cases hij:i=j
  ·subst hij
   refine kat_lt QW hdi QW hdi (xT ?_)
   have e0:iL (fun i=>enc (ts.getD i (0,0,0))) i i=false:=decide_eq_false (Int.lt_irrefl _)
   rw[e0] at hC
   rw[decide_eq_false (Nat.lt_irrefl _)]
   exact hC
  ·obtain⟨itj,u1,u2,oj,Xy,hcj,nj,Xz⟩:=tup _ (gm j hj)
   refine kat_lt QW hdi Xy Xz (lex_lt (sec i j hi hj hij) ?_)
   have hC:C (decide (enc (ts.getD i (0,0,0)) < enc (ts.getD j (0,0,0)))) _:=hC
   rw[Ia i j hi hj hij] at hC
   exact hC
 rw[ep]
 have XA:∀ i∈p.toList,i < ts.length:=fun i hi=>List.mem_range.mp (hp.mem_iff.mp hi)
 have out:(p.toList.map fun i=>(ts.map fun t=>Value.ref t.1).getD i Value.none)=(p.toList.map fun i=>ts.getD i (0,0,0)).map fun t=>Value.ref t.1:=by
  rw[List.map_map]
  exact List.map_congr_left fun i hi=>gd i (XA i hi)
 rw[out]
 have Ls:(p.toList.map fun i=>ts.getD i (0,0,0)).Perm ts:=by
  have e:(List.range ts.length).map (fun i=>ts.getD i (0,0,0))=ts:=by
   refine List.ext_getElem (by simp) fun i h1 h2=>?_
   rw[List.getElem_map,List.getElem_range,List.getD_eq_getElem?_getD,List.getElem?_eq_getElem h2];rfl
  have:=hp.map fun i=>ts.getD i (0,0,0)
  rw[e] at this
  exact this
 have Lu:(p.toList.map fun i=>ts.getD i (0,0,0)).Pairwise fun x y=>enc x < enc y:=by
  rw[List.pairwise_map] at AE ⊢
  exact AE
 have GC:=Ls.length_eq
 generalize (p.toList.map fun i=>ts.getD i (0,0,0))=us at Ls Lu GC
 refine KasFin.intro F' N' (.head fun q hq=>Nat.ne_of_lt (hD q hq)) fun h3 c F3 N3=>?_
 have Lv:∀ b o,b≠X.env.locals→s.heap.get? b=some o→h3.get? b=some o:=fun b o hb e=>by
  cases qb:X.base.get? b with
  | some v =>
   have:=I.bk b v qb
   rw[e] at this;cases this
   exact F3.keep b _ qb
  | none=>exact(N3 (b,o) (List.mem_cons_of_mem _ (kr hb qb e))).1
 have XC:=(N3 (D,_) (List.mem_cons_self ..)).1
 have XD:s.heap.get? D=none:=by
  cases e:s.heap.get? D with
  | none=>rfl
  | some o =>
   have z:=N' (D,_) (List.mem_cons_self ..)
   exact absurd (hD (D,o) (kr z.2.1 z.2.2 e)) (Nat.lt_irrefl _)
 obtain⟨HD,I3⟩:=I.Lq (xs:=us.map fun t=>V.ref t.1) F.ns F3.ns Lv XD ⟨by rw[List.length_map,GC];exact Nat.le_trans (Nat.le_of_lt h64) (by decide),us.map fun t=>Value.ref t.1,c,ng us,XC⟩
 exact⟨.ref D,_,I3,rfl,q us Ls Lu D HD⟩
section
variable {prog:Program}{w:World}{A:Around}{E:Value→Shared→Prop}{s:Shared}
theorem C9 {a:Addr}{vs:List Value}{n:Nat}{P:PySem.Fin→Shared→Prop} (ho:s.heap.get? a=some (seqObj "list" vs.toArray n)) (h2:vs.length < 2)
  (h:P (.done (.ret .none)) { s with heap:=sortedHeap s.heap a vs vs.toArray }):wpAny (model prog w) A (Builtin.«list.sort» ⟨[.ref a],[]⟩) P E s:=by
 have ha:a < s.heap.objs.size:=Heap.lt_size ho
 obtain⟨e1,U4⟩:∃ e1,(s.heap.update a (Obj.mapSeq fun _=>(#[]:Array Value))).get? a=some (seqObj "list" #[] e1):=⟨_,get?_update_seq ho fun _=>#[]⟩
 rw[list_sort_plain]
 refine wpAny_bind (listItems_at ho rfl ?_)
 refine wpAny_bind (listUpdate_at ho rfl ?_ (by rw[List.size_toArray,sizeLine_eq];omega) (Nat.zero_le _))
 refine wpAny_bind (seqEpoch_at U4 rfl ?_)
 refine wpAny_bind (wpAny_newTuple ?_ (by show vs.length≤_;rw[sizeLine_eq];omega))
 refine wpAny_bind (wpAny_newList ?_ (Nat.zero_le _))
 refine wpAny_holding ?_
 have ho6:(((s.heap.update a (Obj.mapSeq fun _=>(#[]:Array Value))).push (seqObj "tuple" vs.toArray 0)).push (seqObj "list" #[] 0)).get? a=some (seqObj "list" #[] e1):=by
  rw[Heap.get?_push_ne _ _ _ (by rw[size_push',Heap.size_update];exact Nat.ne_of_lt (Nat.lt_succ_of_lt ha)),Heap.get?_push_ne _ _ _ (by rw[Heap.size_update];exact Nat.ne_of_lt ha)]
  exact U4
 show wpAny (model prog w) A _ P E { s with heap:=((s.heap.update a (Obj.mapSeq fun _=>(#[]:Array Value))).push (seqObj "tuple" vs.toArray 0)).push (seqObj "list" #[] 0) }
 dsimp only
 have hn2:vs.toArray.size < 2:=by rw[List.size_toArray];exact h2
 rw[if_pos hn2,if_pos hn2]
 refine wpAny_bind (wpAny_pure ?_)
 refine wpAny_bind (wpAny_pure ?_)
 dsimp only
 have hout:(arrOf (SortSt.mk' general' (vs.toArray.zip vs.toArray) #[] 7 none)).map (·.2)=vs.toArray:=by
  show(vs.toArray.zip vs.toArray).map (·.2)=vs.toArray
  apply Array.ext
  ·simp
  ·intro i h1 h2;simp
 rw[hout]
 refine wpAny_bind (seqEpoch_at ho6 rfl ?_)
 refine wpAny_bind (listUpdate_at ho6 rfl ?_ (Nat.zero_le _) (by rw[List.size_toArray,sizeLine_eq];omega))
 simp only[bne_self_eq_false,Bool.false_eq_true,if_false]
 exact wpAny_pure h
theorem zy {l:Addr}{vs:List Value}{Q:Value→Shared→Prop} (hl:s.heap.IsList l vs.toArray) (h2:vs.length < 2)
  (h:∀(h1 h':Heap) (e:Nat),(∀ b o,s.heap.get? b=some o→h1.get? b=some o)→(∀ b o,h1.get? b=some o→h'.get? b=some o)→h'.get? h1.objs.size=some (seqObj "list" vs.toArray e)→Q (.ref h1.objs.size) { s with heap:=h' }) :
  wpAny (model prog w) A (call (.builtin "sorted") [.ref l]) Q E s:=by
 refine Calls.call_function_entry kind_sorted plain_sorted entry_sorted (args_sorted1 _) ?_
 unfold Builtin.«sorted»
 refine wpAny_bind (m:=checkCount "sorted" 1 1 _) (wpAny_pure ?_)
 refine wpAny_bind (collect_list hl ?_ (by rw[sizeLine_eq];omega))
 refine wpAny_bind (wpAny_newList ?_ (by rw[sizeLine_eq];omega))
 have hsz:((s.heap.push (seqObj "list" #[] 0)).update s.heap.objs.size (Obj.mapSeq (· ++ vs.toArray))).objs.size=s.heap.objs.size+1:=by
  rw[Heap.size_update,size_push']
 have Ky:(((s.heap.push (seqObj "list" #[] 0)).update s.heap.objs.size (Obj.mapSeq (· ++ vs.toArray))).push (seqObj "list" vs.toArray 0)).get? (s.heap.objs.size+1)=some (seqObj "list" vs.toArray 0):=by
  rw[←hsz];exact Heap.get?_push_size _ rfl
 have keep:∀ b o,s.heap.get? b=some o→((s.heap.push (seqObj "list" #[] 0)).update s.heap.objs.size (Obj.mapSeq (· ++ vs.toArray))).get? b=some o:=fun b o q=>by
  have hlt:b < s.heap.objs.size:=Heap.lt_size q
  rw[Heap.get?_update_ne _ _ _ _ (Nat.ne_of_lt hlt),Heap.get?_push_ne _ _ _ (Nat.ne_of_lt hlt)]
  exact q
 show wpAny _ _ _ _ _ { s with heap:=((s.heap.push (seqObj "list" #[] 0)).update s.heap.objs.size (Obj.mapSeq (· ++ vs.toArray))).push (seqObj "list" vs.toArray 0) }
 rw[hsz]
 refine wpAny_bind (wpAny_holding (wpAny_call_entry slot_list_sort ⟨_,Ky,rfl⟩ entry_list_sort ?body (args_list_sort _)))
 case body =>
  refine C9 Ky h2 ?_
  obtain⟨e,he⟩:=sortedHeap_at (out:=vs.toArray) Ky
  refine⟨_,rfl,wpAny_pure ⟨_,rfl,?_⟩⟩
  have k:=h ((s.heap.push (seqObj "list" #[] 0)).update s.heap.objs.size (Obj.mapSeq (· ++ vs.toArray))) (sortedHeap (((s.heap.push (seqObj "list" #[] 0)).update s.heap.objs.size (Obj.mapSeq (· ++ vs.toArray))).push (seqObj "list" vs.toArray 0)) (s.heap.objs.size+1) vs vs.toArray) e keep (fun b o q=>?_) (by rw[hsz];exact he)
  ·rw[hsz] at k;exact k
  ·have hlt:b < s.heap.objs.size+1:=by rw[←hsz];exact Heap.lt_size q
   rw[sortedHeap_old (Nat.ne_of_lt hlt) (by rw[size_push',hsz];exact Nat.lt_succ_of_lt hlt)]
   exact Heap.get?_push_of_some _ q
end
def EL (K:W.Frag):List V→Hp→VK→Prop:=fun xs H Q=>∃(l:Addr) (ts:List T3),xs=[.ref l]∧aP K H l (ts.map fun t=>V.ref t.1)∧ts.length < 64∧(∀ t∈ts,0≤t.2.2∧t.2.2 < 1000000∧∃ r,H t.1=some (.tup (.int t.2.1 :: .int t.2.2 :: r)))∧(ts.map fun t=>t.2.2).Nodup ∧
 ∀ us:List T3,us.Perm ts→us.Pairwise (fun x y=>enc x < enc y)→∀ l',H l'=none→Q (.ref l') (upd H l' (.lst (us.map fun t=>V.ref t.1)))
theorem tT {X:Cx} (K:W.Frag) (hK:X.K=K):cD X (.builtin "sorted") (EL K):=by
 intro pins s σ H xs us Q I r h
 obtain⟨l,ts,rfl,hq,h64,ht,hnd,q⟩:=h
 by_cases h2:2≤ts.length
 ·exact vM K hK pins s σ H _ us Q I r ⟨l,ts,rfl,hq,h2,h64,ht,hnd,q⟩
 subst hK
 obtain⟨u,rfl,ru⟩:=vals1 r
 cases(show u=Value.ref l from ru)
 obtain⟨its,r1,pl,_⟩:=I.list hq
 obtain rfl:=vL r1
 refine zy pl.isList (by rw[List.length_map];omega) fun h1 h' e k1 k2 he=>?_
 have I1:Inv X pins σ H { s with heap:=h1,toks:=s.toks }:=I.kept (t':=s.toks) k1
 have AE:ts.Pairwise fun x y=>enc x < enc y:=by
  match ts,h2 with
  | [],_=>exact List.Pairwise.nil
  | [t],_=>exact List.pairwise_singleton _ _
  | _ :: _ :: _,h2=>exact absurd (by simp) h2
 exact⟨.ref h1.objs.size,_,I1.laid (t':=s.toks) (o:=.lst (ts.map fun t=>V.ref t.1)) k2 (Nat.le_refl _) ⟨by rw[List.length_map];exact Nat.le_trans (Nat.le_of_lt h64) (by decide),ts.map fun t=>Value.ref t.1,e,ng ts,he⟩,rfl,q ts (List.Perm.refl _) AE _ (I1.hok.fresh (Nat.le_refl _))⟩
open PySem
theorem U5 {A B:Prop}{b:Bool} (hb:b=true) (h:A):if b=true then A else B:=by rw[if_pos hb];exact h
theorem QX {A B:Prop}{b:Bool} (hb:b=false) (h:B):if b=true then A else B:=by rw[if_neg (by rw[hb];decide)];exact h
theorem Pw {p A B:Prop} [Decidable p] (hp:p) (h:A):if decide p=true then A else B:=U5 (decide_eq_true hp) h
theorem Ib {p A B:Prop} [Decidable p] (hp:¬p) (h:B):if decide p=true then A else B:=QX (decide_eq_false hp) h
theorem U6 {p A B:Prop} [Decidable p] (hp:p) (h:B):if (!decide p)=true then A else B:=QX (by rw[decide_eq_true hp];rfl) h
theorem Lw {p A B:Prop} [Decidable p] (hp:¬p) (h:A):if (!decide p)=true then A else B:=U5 (by rw[decide_eq_false hp];rfl) h
theorem XE {A B:Prop}{a b:Int} (hp:a=b) (h:A):if decide (V.int a=V.int b)=true then A else B:=Pw (by rw[hp]) h
theorem QY {A B:Prop}{a b:Int} (hp:¬a=b) (h:B):if decide (V.int a=V.int b)=true then A else B:=Ib (fun e=>hp (V.int.inj e)) h
theorem XF {A B:Prop}{a b:Int} (hp:a=b) (h:B):if (!decide (V.int a=V.int b))=true then A else B:=U6 (by rw[hp]) h
theorem QZ {A B:Prop}{a b:Int} (hp:¬a=b) (h:A):if (!decide (V.int a=V.int b))=true then A else B:=Lw (fun e=>hp (V.int.inj e)) h
theorem Ic {A B:Prop}{a b:Int} (h1:a=b→A) (h2:¬a=b→B):if decide (V.int a=V.int b)=true then A else B:=by
 by_cases h:a=b
 ·exact XE h (h1 h)
 ·exact QY h (h2 h)
theorem Lx {A B:Prop}{a b:Int} (h1:¬a=b→A) (h2:a=b→B):if (!decide (V.int a=V.int b))=true then A else B:=by
 by_cases h:a=b
 ·exact XF h (h2 h)
 ·exact QZ h (h1 h)
section
variable {prog:Program}{w:World}{A:Around}{E:Value→Shared→Prop}{s:Shared}
end
section
variable {X:Cx}{e:Expr}{te:TE}
end
section
variable {prog:Program}{w:World}{A:Around}{E:Value→Shared→Prop}{s:Shared}
end
theorem rN (x:Str) (t:Tok):slicePicked x none none (some (-1,t))=(List.range x.length).map fun k=>x.length - 1 - k:=by
 show Builtin.Str.strSliceIndices none none (-1) x.length=_
 unfold Builtin.Str.strSliceIndices
 exact W.krv_sliceRange x.length
theorem vN (x:Str) (t u:Tok):sliceMade x t none none (some (-1,u))=.str ⟨x.cps.toList.reverse.toArray⟩:=by
 unfold sliceMade
 have e:((Option.map (fun x:Int×Tok=>x.fst) (some (-1,u))).getD 1 == 1)=false:=rfl
 rw[e,Bool.false_and,if_neg (by decide),rN,W.krv_range]
 rw[List.filterMap_reverse]
 have:=W.krv_all x.cps
 rw[show x.length=x.cps.size from rfl,this]
def kj (z:Str):Str:=⟨z.cps.toList.reverse.toArray⟩
def EM (te Px:TE):TE:=fun σ H Q=>te σ H fun x H1=>Px σ H1 fun y H2=>∃ z,y=.int (-1)∧x=.str z∧z.length≤sizeLine∧Q (.str (kj z)) H2
theorem uT {X:Cx}{e st:Expr}{te Px:TE}{p2 pos:Pos} (he:PE X e te) (hst:PE X st Px):PE X (.Subscript e (.Slice none none (some st) p2) pos) (EM te Px):=by
 intro pins s σ H Q I h
 refine Subscript_ (bY (he pins s σ H _ I h) fun v s1 ⟨x,H1,I1,r1,q1⟩=>?_)
 refine wpAny_Slice ?_
 rw[evalPart_none]
 refine wpAny_pure ?_
 refine wpAny_pure ?_
 rw[evalPart_some]
 refine bY (hst pins s1 σ H1 _ I1 q1) fun vs s3 ⟨y,H3,I3,r3,q3⟩=>?_
 obtain⟨z,rfl,rfl,hz,q⟩:=q3
 obtain⟨tz,rfl⟩:=r1
 obtain⟨t,rfl⟩:=r3
 have I4:Inv X pins σ H3 { s3 with heap:=s3.heap.push { cls:=.type "slice",data:=.fields #[.none,.none,.int (-1) t] } }:=I3.kept (t':=s3.toks) fun b ob q=>Heap.get?_push_of_some _ q
 show wpAny (model X.prog X.w) X.A (subscriptTail e (.Slice none none (some st) p2) (.str z tz) (.ref s3.heap.objs.size)) (EP X pins σ Q) X.xe { s3 with heap:=s3.heap.push { cls:=.type "slice",data:=.fields #[.none,.none,.int (-1) t] } }
 refine tail_any (ops:=[.str z tz,.ref s3.heap.objs.size]) (typeIs_str _ _ _) F.slot_str_getitem.lookup ?_ (by with_unfolding_all rfl)
 refine wpAny_getItem_str_slice (l:=none) (u:=none) (st:=some (-1,t)) ⟨_,Heap.get?_push_size _ rfl,rfl,rfl⟩ rfl ?_
 rw[vN]
 exact⟨by show z.cps.toList.reverse.toArray.size≤sizeLine;rw[List.size_toArray,List.length_reverse,Array.length_toList];exact hz,.str _,H3,I4.tok _,⟨_,rfl⟩,q⟩
theorem Dc {K:W.Frag}{a:Addr}{xs:List V}{g:TG}{tt:TT}{te:TE}{Q:VK}{D:Addr}{τ:St}{H:Hp} (Pv:Nat→List V→St→Hp→Prop) (h0:Pv 0 [] τ (upd H D (.lst [])))
  (hl:∀ i ys τ H,i≤xs.length→Pv i ys τ H→bh K H a xs∧H D=some (.lst ys))
  (hs:∀ i x ys τ H,xs[i]? = some x→Pv i ys τ H→g x τ H fun τ2 H2=>tt τ2 H2 fun b H3=>if b=true then te τ2 H3 fun y H4=>H4 D=some (.lst ys)∧ys.length < sizeLine∧Pv (i+1) (ys++[y]) τ2 (upd H4 D (.lst (ys++[y]))) else Pv (i+1) ys τ2 H3)
  (hd:∀ ys τ H,Pv xs.length ys τ H→Q (.ref D) H) :
  nT (GY K a) g tt te Q D τ H:=by
 refine⟨fun i m ys τ H=>m=xs.length - i∧i≤xs.length∧Pv i ys τ H,⟨xs.length,by simp,Nat.zero_le _,h0⟩,?_⟩
 rintro i m ys τ H ⟨rfl,hi,p⟩
 obtain⟨q,hD⟩:=hl i ys τ H hi p
 refine⟨hD,?_⟩
 by_cases hlt:i < xs.length
 ·refine .inr ⟨⟨xs,xs[i],q,by simp[hlt]⟩,Pv (i+1),fun zs σ' H' p'=>⟨xs.length - (i+1),by omega,rfl,hlt,p'⟩,fun x H' y=>?_⟩
  obtain⟨e,y⟩:=y
  subst e
  exact hs i x ys τ _ (y xs q) p
 ·have e:i=xs.length:=by omega
  subst e
  exact .inl ⟨⟨xs,q,Nat.le_refl _⟩,hd ys τ H p⟩
theorem U7 {x:Str}:[x].Nodup:=.cons (fun y hy=>nomatch hy) .nil
section
variable {X:Cx}
theorem fQ (i:Nat) {x:Str}{pos:Pos} (hN:X.N.Nodup) (hi:X.N[i]? = some x:=by rfl) (hx:Loc X.env.scope x:=by first | exact .inl rfl | exact .inr rfl) (hf:X.fn x=true∨X.env.scope.names.lookup x=some .local:=by first | exact .inl rfl | exact .inr rfl | assumption):PG X (.Name x pos) (gv i):=Eg hN hi hx hf
theorem cY (i:Nat) {x:Str}{e:Expr}{te:TE}{pos pos':Pos} (hN:X.N.Nodup) (he:PE X e te) (hi:X.N[i]? = some x:=by rfl) (hx:Loc X.env.scope x:=by first | exact .inl rfl | exact .inr rfl) (hs:swapsWith e (some (.Name x pos')) pos.line X.env=pure false:=by rfl) (hf:X.fn x=true∨X.env.scope.names.lookup x=some .local:=by first | exact .inl rfl | exact .inr rfl | assumption) :
 PS X (.Assign [.Name x pos'] e pos) (Eh te (gv i)):=GW hN hi hx he hs hf
theorem De {XN:List Str}{J5:Scope}{N:List Str}{nv:Nat}{js:List Nat}{scope:Scope} (kind:scope.kind=.function:=by rfl) (cell:∀ y∈scope.names,y.2≠.cell:=by decide +kernel) (loc:∀ y∈scope.names,y.2=.local→scope.names.lookup y.1=some .local:=by decide +kernel)
 (free:∀ y∈scope.names,y.2=.free→(J5.names.lookup y.1=some .cell∨J5.names.lookup y.1=some .free):=by decide +kernel) (nd:N.Nodup:=by decide +kernel) (len:N.length=nv+js.length:=by rfl) (pl:js.map (fun j=>XN[j]?)=(N.drop nv).map some:=by rfl)
 (fr:∀ x∈N.drop nv,scope.names.lookup x=some .free:=by decide +kernel):bw XN J5 N nv js scope:=⟨kind,cell,loc,free,nd,len,pl,fr⟩
theorem pJ {id:String}{r:List V→Hp→VK→Prop}{x:Str}{e:Expr}{es:List Expr}{t:TA}{p pos:Pos} (hc:cD X (.builtin id) r) (hm:X.mg x=none) (ha:PA X (e :: es) t) (hg:Gl X x:=by rfl) (hv:bootBuiltins x=some (.builtin id):=by decide +kernel) (hn:x ≠ "__name__" := by decide) (hdb:(x == ("__debug__" : Str))=false:=by decide)
 (he:starEach (e :: es) X.env=(false,eval e X.env) :: starEach es X.env:=by rfl) (hpl:(backTo pos (starEach es X.env)).any (·.1)=false:=by rfl):PE X (.Call (.Name x p) (e :: es) [] pos) (Pe r t):=Cu hc hg hm hv ha hn hdb he hpl
theorem Q2 {T:String}{r:List V→Hp→VK→Prop}{x:Str}{e:Expr}{es:List Expr}{t:TA}{p pos:Pos} (hc:cD X (.type T) r) (hm:X.mg x=none) (ha:PA X (e :: es) t) (hg:Gl X x:=by rfl) (hv:bootBuiltins x=some (.type T):=by decide +kernel) (hn:x ≠ "__name__" := by decide) (hdb:(x == ("__debug__" : Str))=false:=by decide)
 (he:starEach (e :: es) X.env=(false,eval e X.env) :: starEach es X.env:=by rfl) (hpl:(backTo pos (starEach es X.env)).any (·.1)=false:=by rfl):PE X (.Call (.Name x p) (e :: es) [] pos) (Pe r t):=A0 hc hg hm hv ha hn hdb he hpl
theorem Py (n:String) {x:Str}{pos:Pos} (hm:X.mg x=none) (hg:Gl X x:=by rfl) (hv:bootBuiltins x=some (.type n):=by decide +kernel) (hn:x ≠ "__name__" := by decide) (hd:(x == ("__debug__" : Str))=false:=by decide):PE X (.Name x pos) (tC (.ty n)):=Hy n hg hm hv hn hd
theorem eB {k kk:Nat}{f:Addr}{fd:FuncData}{ps:List Str}{sp:Sp}{x:Str}{e:Expr}{es:List Expr}{t:TA}{p pos:Pos} (F:aE X.prog X.w X.K X.mg X.base bz k f fd ps sp) (hr:dR kk X.A) (hm:X.mg x=some (.ref f)) (hk:W.keepIn X.K (.ref f)=true) (hb:Binds X.K fd ps []) (ha:PA X (e :: es) t) (hkk:k≤kk:=by decide) (hg:Gl X x:=by rfl)
 (hdb:(x == ("__debug__" : Str))=false:=by decide) (he:starEach (e :: es) X.env=(false,eval e X.env) :: starEach es X.env:=by rfl) (hpl:(backTo pos (starEach es X.env)).any (·.1)=false:=by rfl):PE X (.Call (.Name x p) (e :: es) [] pos) (Cr sp [] E0 t):=gF F (hr.mono hkk) hg hm hk hb .nil jr ha hdb he hpl
theorem ko (K:W.Frag) {a b:Expr}{ta tb:TE}{pos:Pos} (ha:PE X a ta) (hb:PE X b tb) (hs:vA b:=by exact fun _ _=>rfl) (h:X.K=K:=by rfl):PE X (.Subscript a b pos) (D4 (Hl K) ta tb):=Ai (EA K h) ha hb hs
theorem o9 (K:W.Frag) {a b:Expr}{ta tb:TE}{pos:Pos} (ha:PE X a ta) (hb:PE X b tb) (hs:vA b:=by exact fun _ _=>rfl) (h:X.K=K:=by rfl):PE X (.Subscript a b pos) (D4 (Hj K) ta tb):=Ai (CC K h) ha hb hs
theorem eY {op:CmpOp}{r:R2}{a b:Expr}{ta tb:TE}{pos:Pos} (ho:jL X (compareOp op) r) (ha:PE X a ta) (hb:PE X b tb) (h:op≠.In:=by decide) (h2:op≠.NotIn:=by decide):PT X (.Compare a [op] [b] pos) (Gr (D4 r ta tb)):=d8 ho ha hb (Cm b h h2)
theorem Df {op:CmpOp}{r:R2}{a b:Expr}{ta tb:TE}{pos:Pos} (ho:jL X (compareOp op) r) (ha:PE X a ta) (hb:PE X b tb) (h:op≠.In:=by decide) (h2:op≠.NotIn:=by decide):PE X (.Compare a [op] [b] pos) (D4 r ta tb):=En ho ha hb (Cm b h h2)
end
abbrev FO (n q:Str) (s:Stmt) (d oc:Value) (od:Option Addr) (kV dc pm:Value) (an:Option Addr) (cd ct:Value) (sl:Array (Option Value)):Option Obj:=some ⟨oc,od,.func (W.fnOf n q (bJ s) (bC s) (au s) d kV dc pm an cd ct),sl⟩
abbrev FN (n q:Str) (s:Stmt) (d kV dc pm:Value) (an:Option Addr) (cd ct:Value):FuncData:=W.fnOf n q (bJ s) (bC s) (au s) d kV dc pm an cd ct
abbrev RF (a:Addr):Option (Option Value):=some (some (.ref a))
theorem gw.pK {K:W.Frag}{x qual:Str}{st:Stmt}{f:Addr}{fd:FuncData}{ps:List Str} (F:gw K x qual st f fd) (hp:ps.length=1:=by rfl)
  (h:∀(kV doc pm:Value) (an:Option Addr) (cdv ct a0:Value),bindArgs (W.fnOf x qual (bJ st) (bC st) (au st) .none kV doc pm an cdv ct) ⟨[a0],[]⟩=pure (ps.zip [a0]):=by intros;rfl):Binds K fd ps [] :=
 F.binds fun kV doc pm an cdv ct us hl=>by
  rw[hp] at hl
  match us,hl with
  | [a0],_=>exact h kV doc pm an cdv ct a0
theorem gw.nh {K:W.Frag}{x qual:Str}{st:Stmt}{f:Addr}{fd:FuncData}{ps:List Str} (F:gw K x qual st f fd) (hp:ps.length=2:=by rfl)
  (h:∀(kV doc pm:Value) (an:Option Addr) (cdv ct a0 a1:Value),bindArgs (W.fnOf x qual (bJ st) (bC st) (au st) .none kV doc pm an cdv ct) ⟨[a0,a1],[]⟩=pure (ps.zip [a0,a1]):=by intros;rfl):Binds K fd ps [] :=
 F.binds fun kV doc pm an cdv ct us hl=>by
  rw[hp] at hl
  match us,hl with
  | [a0,a1],_=>exact h kV doc pm an cdv ct a0 a1
theorem gw.rO {K:W.Frag}{x qual:Str}{st:Stmt}{f:Addr}{fd:FuncData}{ps:List Str} (F:gw K x qual st f fd) (hp:ps.length=3:=by rfl)
  (h:∀(kV doc pm:Value) (an:Option Addr) (cdv ct a0 a1 a2:Value),bindArgs (W.fnOf x qual (bJ st) (bC st) (au st) .none kV doc pm an cdv ct) ⟨[a0,a1,a2],[]⟩=pure (ps.zip [a0,a1,a2]):=by intros;rfl):Binds K fd ps [] :=
 F.binds fun kV doc pm an cdv ct us hl=>by
  rw[hp] at hl
  match us,hl with
  | [a0,a1,a2],_=>exact h kV doc pm an cdv ct a0 a1 a2
end L2
namespace My
open PySem L2
def top (i:Nat):Stmt:=PySem.Challenge.pw_dialecthall_k58_whole_farther_on.main.body.getD i (.Pass ⟨0,0,0,0⟩)
abbrev cu:Stmt:=top 9
abbrev bK:Stmt:=top 10
abbrev jx:Stmt:=top 11
abbrev bE:Stmt:=top 14
abbrev aT:Stmt:=inClass (top 15) 0
abbrev dh:Stmt:=inClass (top 15) 1
abbrev fc:Stmt:=top 16
abbrev bN:Stmt:=top 18
abbrev cO:Stmt:=top 19
abbrev dU:Stmt:=top 20
abbrev dW:Stmt:=top 21
abbrev cP:Stmt:=top 22
abbrev ff:Stmt:=top 23
abbrev cQ:Stmt:=inClass (top 24) 0
abbrev fZ:Stmt:=inClass (top 24) 1
abbrev fh:Stmt:=top 26
abbrev rP:Stmt:=top 27
abbrev kI:Stmt:=top 28
abbrev ia:Stmt:=top 30
abbrev rQ:Stmt:=top 29
abbrev ic:Stmt:=top 31
abbrev fj:Stmt:=top 33
abbrev jy:Stmt:=top 34
abbrev di:Stmt:=top 35
abbrev kJ:Stmt:=top 36
abbrev gY:Stmt:=top 37
abbrev cy:Stmt:=top 38
abbrev f6:Stmt:=top 39
abbrev bA:Stmt:=top 40
abbrev dj:Stmt:=top 42
abbrev fk:Stmt:=top 43
abbrev dX:Stmt:=top 44
abbrev f7:Stmt:=top 45
abbrev fq:Stmt:=top 46
abbrev f9:Stmt:=top 47
abbrev dH:Stmt:=top 48
abbrev gb:Stmt:=top 49
abbrev fu:Stmt:=top 50
abbrev gc:Stmt:=top 51
abbrev eV:Stmt:=top 52
abbrev aW:Stmt:=top 53
abbrev cz:Stmt:=top 54
abbrev nZ:Stmt:=top 55
theorem aq {H:Hp}{l:Addr}{o:HO} (h:H l=none):aD H (upd H l o):=fun b u e=>by rw[aC (aZ e h)];exact e
theorem aK {H H2:Hp}{l:Addr}{o:HO} (h:H l=none) (s:aD H H2):aD H (upd H2 l o):=fun b u e=>by rw[aC (aZ e h)];exact s b u e
theorem zz {i:Nat}{x:V}{σ:St}{H:Hp}{A B:St→Hp→Prop} (h:A (σ.set i (some x)) H):gv i x σ H (fun τ2 H2=>Hv τ2 H2 fun b H3=>if b=true then A τ2 H3 else B τ2 H3):=by
 show(if true=true then A (σ.set i (some x)) H else B (σ.set i (some x)) H)
 exact rA h
theorem Ly {p A B:Prop} [Decidable p] (hp:p) (h:A):if decide p=true then A else B:=by rw[if_pos (decide_eq_true hp)];exact h
theorem Dg {p A B:Prop} [Decidable p] (hp:¬p) (h:B):if decide p=true then A else B:=by rw[if_neg (by simpa using hp)];exact h
theorem Dh {A B:Prop}{b:Bool} (hb:b=true) (h:B):if (!b)=true then A else B:=by rw[hb];exact fL h
theorem zA {α:Type}{xs:List α}{i:Int} (h0:0≤i) (h:i < xs.length):∃ c,vv xs i=some c∧c∈xs:=by
 obtain⟨j,rfl⟩:∃ j:Nat,i=j:=⟨i.toNat,by omega⟩
 have hj:j < xs.length:=by omega
 exact⟨xs[j],iK (by simp[hj]),List.getElem_mem hj⟩
def Pn (c:Nat):Prop:=32≤c∧c≤126∧c≠37
instance (c:Nat):Decidable (Pn c):=by unfold Pn;exact inferInstance
structure Sg (z:Str):Prop where
 nd:z.cps.toList.Nodup
 pr:∀ c∈z.cps.toList,Pn c
def Mn (z:Str):Prop:=0 < z.length∧z.length≤100∧∀ c∈z.cps.toList,Pn c
instance (z:Str):Decidable (Mn z):=by unfold Mn;exact inferInstance
structure Gd (p q f:Str):Prop where
 gp:Sg p
 gq:Sg q
 gf:Sg f
 p1:1≤p.length
 p3:p.length≤3
 q2:q.length≤2
 f2:f.length≤2
def rR (p q f:Str) (b1 b2 b3 b4:Bool):List V:=[.str p,.str q,.str f,.bl b1,.bl b2,.bl b3,.bl b4]
def zB (p q f:Str) (b1 b2 b3 b4:Bool):List (Str×V):=[("parts",.str p),("quotes",.str q),("frees",.str f),("twin",.bl b1),("wide",.bl b2),("thin",.bl b3),("stray",.bl b4)]
def away (t:Str) (c:Nat):Bool:=!(!(Builtin.Str.occurrences t (sg c) 0 t.length 1).isEmpty)
theorem xU (t:Str) (c:Nat):away t c=true↔c∉t.cps.toList:=by
 unfold away
 have e:(!(Builtin.Str.occurrences t (sg c) 0 t.length 1).isEmpty)=decide (c∈t.cps.toList):=StrLaws.found_one t c
 rw[e]
 simp
theorem Ie {z:Str}{c:Nat} (h:Sg z) (hc:Pn c) (ha:away z c=true):Sg (z++sg c):=by
 have e:(z++sg c).cps.toList=z.cps.toList++[c]:=by
  show(z.cps ++ #[c]).toList=_
  simp
 have hn:=(xU z c).mp ha
 refine⟨?_,?_⟩
 ·rw[e,List.nodup_append]
  refine⟨h.nd,by simp,fun a ha b hb=>?_⟩
  rw[List.mem_singleton.mp hb]
  intro q;exact hn (q ▸ ha)
 ·rw[e]
  intro d hd
  rcases List.mem_append.mp hd with z' | z'
  ·exact h.pr d z'
  ·rw[List.mem_singleton.mp z'];exact hc
theorem Ig:Sg ("":Str):=by
 have e:("":Str).cps.toList=[]:=by decide +kernel
 refine⟨?_,?_⟩
 ·rw[e];exact List.nodup_nil
 ·rw[e];intro c hc;cases hc
theorem jQ (a b:Str):(a++b).length=a.length+b.length:=by
 show(a.cps++b.cps).size=_
 rw[Array.size_append];rfl
theorem kK {K:W.Frag}{H H':Hp}{a:Addr}{xs:List V} (e:aD H H') (h:bh K H a xs):bh K H' a xs:=by
 rcases h with (h | ⟨o,h⟩) | h
 ·exact .inl (.inl (e _ _ h))
 ·exact .inl (.inr ⟨o,e _ _ h⟩)
 ·exact .inr h
theorem Lz {A B:Prop}{b:Bool} (hb:b=false) (h:A):if (!b)=true then A else B:=by rw[hb];exact rA h
theorem Di {A B:Prop}{b:Bool} (hb:b=true) (h:A):if b=true then A else B:=by rw[hb];exact rA h
theorem Dj {A B:Prop}{b:Bool} (hb:b=false) (h:B):if b=true then A else B:=by rw[hb];exact fL h
def pL (c:Nat) (z:Str):Bool:=!(Builtin.Str.occurrences z (sg c) 0 z.length 1).isEmpty
def bf (a b:Str):Bool:=decide (V.str a=V.str b)
theorem jb {a b:Str} (h:bf a b=true):a=b:=by have:=of_decide_eq_true h;cases this;rfl
theorem dm (a:Str):bf a a=true:=decide_eq_true rfl
inductive Res where
 | go (k w u:Str)
 | nL (w:Str)
def tU (K:W.Frag) (H:Hp) (v:V):Res→Prop
 | .go k w u=>bf k ("fault":Str)=false∧∃ a b,v=.ref a∧bh K H a [.str k,.ref b]∧bh K H b [.str w,.str u]
 | .nL w=>∃ a,v=.ref a∧bh K H a [.str ("fault":Str),.str w]
theorem dY {K:W.Frag}{H:Hp}{Q:VK}{k w u:Str}{r:Res} (e:r=.go k w u) (hk:bf k ("fault":Str)=false) (h:∀ v H',aD H H'→tU K H' v r→Q v H') :
  [V.str w,V.str u].length≤sizeLine∧∀ b,H b=none→([V.str k,V.ref b].length≤sizeLine∧∀ a,(upd H b (.tup [.str w,.str u])) a=none→Q (.ref a) (upd (upd H b (.tup [.str w,.str u])) a (.tup [.str k,.ref b]))):=by
 refine⟨(by show 2≤sizeLine;decide),fun b hb=>⟨(by show 2≤sizeLine;decide),fun a ha=>?_⟩⟩
 have s1:=aq (o:=HO.tup [.str w,.str u]) hb
 have s2:=aq (o:=HO.tup [.str k,.ref b]) ha
 refine h _ _ (s1.trans s2) ?_
 rw[e]
 exact⟨hk,a,b,rfl,bh.of aj,kK s2 (bh.of aj)⟩
theorem vO {K:W.Frag}{H H0:Hp}{Q:VK}{k w u:Str}{r:Res}{b:Addr} (e:r=.go k w u) (hk:bf k ("fault":Str)=false) (s0:aD H0 H) (hb:bh K H b [.str w,.str u]) (h:∀ v H',aD H0 H'→tU K H' v r→Q v H') :
  [V.str k,V.ref b].length≤sizeLine∧∀ a,H a=none→Q (.ref a) (upd H a (.tup [.str k,.ref b])):=by
 refine⟨(by show 2≤sizeLine;decide),fun a ha=>?_⟩
 have s2:=aq (o:=HO.tup [.str k,.ref b]) ha
 refine h _ _ (s0.trans s2) ?_
 rw[e]
 exact⟨hk,a,b,rfl,bh.of aj,kK s2 hb⟩
theorem rS {K:W.Frag}{H:Hp}{Q:VK}{w:Str}{r:Res} (e:r=.nL w) (h:∀ v H',aD H H'→tU K H' v r→Q v H') :
  [V.str ("fault":Str),V.str w].length≤sizeLine∧∀ a,H a=none→Q (.ref a) (upd H a (.tup [.str ("fault":Str),.str w])):=by
 refine⟨(by show 2≤sizeLine;decide),fun a ha=>?_⟩
 have s2:=aq (o:=HO.tup [.str ("fault":Str),.str w]) ha
 refine h _ _ s2 ?_
 rw[e]
 exact⟨a,rfl,bh.of aj⟩
theorem iM:bf ("skip":Str) ("fault":Str)=false:=by decide +kernel
theorem zC:bf ("end":Str) ("fault":Str)=false:=by decide +kernel
theorem vP:bf ("part":Str) ("fault":Str)=false:=by decide +kernel
theorem ie:bf ("put":Str) ("fault":Str)=false:=by decide +kernel
def ig (p q f:Str) (b3:Bool) (w u:Str) (c:Nat):Res :=
 if pL c f=true then .go ("skip":Str) ("freed":Str) ("":Str) else
 if bf (sg c) (Str.ofString "\n")=true then .go ("end":Str) ("row":Str) ("":Str) else
 if pL c q=true then .go ("skip":Str) ("within":Str) (sg c) else
 if pL c p=true then .go ("part":Str) ("cell":Str) ("":Str) else
 if bf (sg c) (" ":Str)=true then (if b3=true then .go ("skip":Str) w u else .go ("put":Str) ("plain":Str) ("":Str)) else
 .go ("put":Str) ("plain":Str) ("":Str)
def iu (p q f:Str) (b4:Bool) (c:Nat):Res :=
 if pL c f=true then .go ("skip":Str) ("freed":Str) ("":Str) else
 if bf (sg c) (Str.ofString "\n")=true then .go ("end":Str) ("row":Str) ("":Str) else
 if pL c p=true then .go ("part":Str) ("cell":Str) ("":Str) else
 if pL c q=true then (if (!b4)=true then .nL ("quote":Str) else .go ("put":Str) ("plain":Str) ("":Str)) else
 .go ("put":Str) ("plain":Str) ("":Str)
def fz (f:Str) (b1 b2:Bool) (u:Str) (c:Nat):Res :=
 if pL c f=true then .go ("skip":Str) ("freed":Str) u else
 if bf (sg c) u=true then (if b1=true then .go ("skip":Str) ("doubt":Str) u else .go ("skip":Str) ("behind":Str) ("":Str)) else
 if bf (sg c) (Str.ofString "\n")=true then (if (!b2)=true then .nL ("line":Str) else .go ("put":Str) ("within":Str) u) else
 .go ("put":Str) ("within":Str) u
def dI (p:Str) (b3:Bool) (c:Nat):Res :=
 if bf (sg c) (Str.ofString "\n")=true then .go ("end":Str) ("row":Str) ("":Str) else
 if pL c p=true then .go ("part":Str) ("cell":Str) ("":Str) else
 if bf (sg c) (" ":Str)=true then (if b3=true then .go ("skip":Str) ("behind":Str) ("":Str) else .nL ("behind":Str)) else
 .nL ("behind":Str)
def nk (p:Str) (b3:Bool) (u:Str) (c:Nat):Res:=if bf (sg c) u=true then .go ("put":Str) ("within":Str) u else dI p b3 c
def iN (u:Str):Res:=if bf u ("":Str)=true then .go ("put":Str) ("plain":Str) ("":Str) else .go ("put":Str) ("within":Str) u
def jc (b2:Bool) (u:Str) (c:Nat):Res :=
 if bf (sg c) (Str.ofString "\n")=true then (if (!b2)=true then .nL ("line":Str) else iN u) else iN u
def uU (p q f:Str) (b3 b4:Bool) (w u:Str) (c:Nat):Res:=if bf w ("plain":Str)=true then iu p q f b4 c else ig p q f b3 w u c
def bP (p q f:Str) (b1 b2 b3 b4:Bool) (w u:Str) (c:Nat):Res :=
 if bf w ("within":Str)=true then fz f b1 b2 u c else
 if bf w ("freed":Str)=true then jc b2 u c else
 if bf w ("doubt":Str)=true then nk p b3 u c else
 if bf w ("behind":Str)=true then dI p b3 c else
 uU p q f b3 b4 w u c
theorem ns {a b:String} (h:bf (Str.ofString a) (Str.ofString b)=false):¬bf (Str.ofString a) (Str.ofString b)=true:=by rw[h];decide
theorem Dk {p q f:Str}{b1 b2 b3 b4:Bool}{w u:Str}{c:Nat} (h:bf w ("plain":Str)=true):bP p q f b1 b2 b3 b4 w u c=iu p q f b4 c:=by
 cases jb h
 unfold bP uU
 rw[if_neg (ns (by decide +kernel)),if_neg (ns (by decide +kernel)),if_neg (ns (by decide +kernel)),if_neg (ns (by decide +kernel)),if_pos (dm _)]
theorem Bx {p q f:Str}{b1 b2 b3 b4:Bool}{w u:Str}{c:Nat} (h:bf w ("within":Str)=true):bP p q f b1 b2 b3 b4 w u c=fz f b1 b2 u c:=by
 unfold bP
 rw[if_pos h]
theorem Dm {p q f:Str}{b1 b2 b3 b4:Bool}{w u:Str}{c:Nat} (h:bf w ("doubt":Str)=true):bP p q f b1 b2 b3 b4 w u c=nk p b3 u c:=by
 cases jb h
 unfold bP
 rw[if_neg (ns (by decide +kernel)),if_neg (ns (by decide +kernel)),if_pos (dm _)]
theorem By {p q f:Str}{b1 b2 b3 b4:Bool}{w u:Str}{c:Nat} (h:bf w ("behind":Str)=true):bP p q f b1 b2 b3 b4 w u c=dI p b3 c:=by
 cases jb h
 unfold bP
 rw[if_neg (ns (by decide +kernel)),if_neg (ns (by decide +kernel)),if_neg (ns (by decide +kernel)),if_pos (dm _)]
theorem Dn {p q f:Str}{b1 b2 b3 b4:Bool}{w u:Str}{c:Nat} (h:bf w ("freed":Str)=true):bP p q f b1 b2 b3 b4 w u c=jc b2 u c:=by
 cases jb h
 unfold bP
 rw[if_neg (ns (by decide +kernel)),if_pos (dm _)]
theorem EN {p q f:Str}{b1 b2 b3 b4:Bool}{w u:Str}{c:Nat} (h1:bf w ("within":Str)=false) (h2:bf w ("freed":Str)=false) (h3:bf w ("doubt":Str)=false) (h4:bf w ("behind":Str)=false):bP p q f b1 b2 b3 b4 w u c=uU p q f b3 b4 w u c:=by
 unfold bP
 rw[h1,h2,h3,h4]
 rfl
theorem xV {b:Bool} (h:¬b=true):b=false:=by cases b <;> simp_all
def XG (d:Addr):List (Str×V):=[("dialect",.ref d)]
structure Tn (C CT:Addr) (H:Hp) (y:Addr) (p q f:Str) (b1 b2 b3 b4:Bool):Prop where
 ok:∃ dy d dd,H y=some (.ins CT dy (XG d))∧H d=some (.ins C dd (zB p q f b1 b2 b3 b4))
theorem Tn.mono {C CT:Addr}{H H':Hp}{y:Addr}{p q f:Str}{b1 b2 b3 b4:Bool} (s:aD H H') (h:Tn C CT H y p q f b1 b2 b3 b4):Tn C CT H' y p q f b1 b2 b3 b4:=by
 obtain⟨dy,d,dd,e1,e2⟩:=h.ok
 exact⟨dy,d,dd,s _ _ e1,s _ _ e2⟩
theorem BA {H H':Hp}{y dy:Addr}{o:HO} (hy:H y=none) (Kc:H dy=none) (kp:∀ b o',upd (upd H dy (.own y)) y o b=some o'→b≠y→H' b=some o'):aD H H':=fun b o' e=>kp b o' (by rw[aC (aZ e hy),aC (aZ e Kc)];exact e) (aZ e hy)
theorem Dp {H:Hp}{y dy b:Addr}{o o':HO} (hy:H y=none) (Kc:H dy=none) (e:H b=some o'):upd (upd H dy (.own y)) y o b=some o':=by rw[aC (aZ e hy),aC (aZ e Kc)];exact e
theorem eF {α β:Type}{F G:α→β→Prop} (h:∀ a b,F a b→G a b):∀{xs:List α}{ys:List β},Paired F xs ys→Paired G xs ys
 | _,_,.nil=>.nil
 | _,_,.cons q r=>.cons (h _ _ q) (eF h r)
theorem eG {α β:Type}{F:α→β→Prop}:∀{xs xs':List α}{ys ys':List β},Paired F xs ys→Paired F xs' ys'→Paired F (xs++xs') (ys++ys')
 | _,_,_,_,.nil,r=>r
 | _,_,_,_,.cons q t,r=>.cons q (eG t r)
theorem aS {α β:Type}{F:α→β→Prop}:∀{xs:List α}{ys:List β},Paired F xs ys→∀(j:Nat) x,xs[j]? = some x→∃ y,ys[j]? = some y∧F x y
 | _,_,.nil,j,x,h=>by simp at h
 | _,_,.cons q t,0,x,h=>by simp at h;subst h;exact⟨_,rfl,q⟩
 | _,_,.cons q t,j+1,x,h=>by
  obtain⟨y,h1,h2⟩:=aS t j x (by simpa using h)
  exact⟨y,by simpa using h1,h2⟩
def c5:List (Str×Str):=[(Str.ofString "row",Str.ofString ""),(Str.ofString "cell",Str.ofString ""),(Str.ofString "plain",Str.ofString ""),(Str.ofString "behind",Str.ofString ""),(Str.ofString "freed",Str.ofString "")]
def c3 (c:Nat):List (Str×Str):=[(Str.ofString "within",sg c),(Str.ofString "doubt",sg c),(Str.ofString "freed",sg c)]
def cont (l:List Nat):List (Str×Str):=c5++l.flatMap c3
def n5 (w u:Str):Bool:=i7 [.str w,.str u] [.str ("row":Str),.str ("":Str)]
theorem EO (c:Nat) (z:Str):pL c z=decide (c∈z.cps.toList):=StrLaws.found_one z c
theorem Ih {c:Nat}{z:Str} (h:c∉z.cps.toList):¬pL c z=true:=by rw[EO];simpa using h
theorem U8 {z:Str} (g:Sg z):¬pL 10 z=true:=Ih fun h=>by have:=(g.pr 10 h).1;omega
theorem XH:Str.ofString "\n" = sg 10:=by decide +kernel
theorem la:Str.ofString "a" = sg 97:=by decide +kernel
theorem app_list (a b:Str):(a++b).cps.toList=a.cps.toList++b.cps.toList:=by
 show(a.cps++b.cps).toList=_
 simp
def wf:List V:=[.str ("within":Str),.str ("freed":Str)]
theorem AF {K:W.Frag}{H:Hp}{a l:Addr}{xs ys:List V}{o:HO} (hl:H l=some (.lst ys)) (e2:bh K H a xs):bh K (upd H l o) a xs:=by
 rcases e2 with (h | ⟨ob,h⟩) | h
 ·exact .inl (.inl ((aC (qU h hl (by intro z;cases z))).trans h))
 ·exact .inl (.inr ⟨ob,(aC (qU h hl (by intro z;cases z))).trans h⟩)
 ·exact .inr h
theorem cK {α:Type}{l:List α}{i:Nat}{c:α} (h:l[i]? = some c):l.take (i+1)=l.take i++[c]:=by
 rw[List.take_succ,h];rfl
def bF (z:Str):Prop:=∀ k∈z.cps.toList,k=10∨Pn k
theorem XI {c:Nat}{z:Str} (e:z=Str.ofString "\n") (h:¬decide (V.str (sg c)=V.str z)=true):c≠10:=fun e2=>h (by
 have:Str.ofString "\n" = sg 10:=by decide +kernel
 rw[e,e2,this];exact decide_eq_true rfl)
theorem lN {t u:TS}{D:Ends}{σ:St}{H:Hp} (N:St→Hp→Prop) (hu:∀ σ' H',N σ' H'→u D σ' H') (ht:(∀ σ' H',N σ' H'→u D σ' H')→t { D with nx:=u D } σ H):GR t u D σ H:=ht hu
def runM (p q f:Str) (b1 b2 b3 b4:Bool):Str→Str→List Nat→List Str×Str×Str×Option Str
 | w,u,[]=>([],w,u,none)
 | w,u,c :: cs=>match bP p q f b1 b2 b3 b4 w u c with
  | .nL e=>([],w,u,some e)
  | .go k w' u'=>(k :: (runM p q f b1 b2 b3 b4 w' u' cs).1,(runM p q f b1 b2 b3 b4 w' u' cs).2)
def rT (ks:List Str) (r:List Str×Str×Str×Option Str):List Str×Str×Str×Option Str:=(ks++r.1,r.2)
theorem Ii {p q f:Str}{b1 b2 b3 b4:Bool}{w u k w' u':Str}{c:Nat}{cs:List Nat}{ks:List Str} (h:bP p q f b1 b2 b3 b4 w u c=.go k w' u'):rT ks (runM p q f b1 b2 b3 b4 w u (c :: cs))=rT (ks++[k]) (runM p q f b1 b2 b3 b4 w' u' cs):=by
 have e:runM p q f b1 b2 b3 b4 w u (c :: cs)=(k :: (runM p q f b1 b2 b3 b4 w' u' cs).1,(runM p q f b1 b2 b3 b4 w' u' cs).2):=by
  show(match bP p q f b1 b2 b3 b4 w u c with | .nL e=>([],w,u,some e) | .go k w' u'=>(k :: (runM p q f b1 b2 b3 b4 w' u' cs).1,(runM p q f b1 b2 b3 b4 w' u' cs).2))=_
  rw[h]
 rw[e]
 unfold rT
 rw[List.append_assoc]
 rfl
theorem ER {p q f:Str}{b1 b2 b3 b4:Bool}{w u e:Str}{c:Nat}{cs:List Nat}{ks:List Str} (h:bP p q f b1 b2 b3 b4 w u c=.nL e):rT ks (runM p q f b1 b2 b3 b4 w u (c :: cs))=(ks,w,u,some e):=by
 have e2:runM p q f b1 b2 b3 b4 w u (c :: cs)=([],w,u,some e):=by
  show(match bP p q f b1 b2 b3 b4 w u c with | .nL e=>([],w,u,some e) | .go k w' u'=>(k :: (runM p q f b1 b2 b3 b4 w' u' cs).1,(runM p q f b1 b2 b3 b4 w' u' cs).2))=_
  rw[h]
 rw[e2]
 unfold rT
 rw[List.append_nil]
theorem ES {p q f:Str}{b1 b2 b3 b4:Bool}{w u:Str}{ks:List Str}:rT ks (runM p q f b1 b2 b3 b4 w u [])=(ks,w,u,none):=by
 show(ks++[],w,u,none)=_
 rw[List.append_nil]
def AG:Option Str→V
 | none=>.non
 | some e=>.str e
def dJ (r:List Str×Str×Str×Option Str):Str:=match r.2.2.2 with
 | some e=>e
 | none=>if n5 r.2.1 r.2.2.1=true then Str.ofString "" else Str.ofString "cut"
theorem Tn.but {C CT:Addr}{H:Hp}{y:Addr}{p q f:Str}{b1 b2 b3 b4:Bool}{l:Addr}{ys:List V}{o:HO} (hl:H l=some (.lst ys)) (h:Tn C CT H y p q f b1 b2 b3 b4):Tn C CT (upd H l o) y p q f b1 b2 b3 b4:=by
 obtain⟨dy,d,dd,e1,e2⟩:=h.ok
 exact⟨dy,d,dd,(aC (qU e1 hl (by intro z;cases z))).trans e1,(aC (qU e2 hl (by intro z;cases z))).trans e2⟩
theorem drop_cons {l:List Nat}{i c:Nat} (h:l[i]? = some c):l.drop i=c :: l.drop (i+1):=by
 obtain⟨h1,h2⟩:=List.getElem?_eq_some_iff.mp h
 rw[List.drop_eq_getElem_cons h1,h2]
def mC (ks:List Str):Nat:=(ks.map V.str).countP fun z=>qd z (.str ("end":Str))
theorem pM (ks:List Str):(ks.map V.str).all bW=true:=by rw[List.all_map,List.all_eq_true];intro _ _;rfl
theorem Dq {p q f:Str}{b1 b2 b3 b4:Bool}{w u e:Str}{c:Nat} (h:bP p q f b1 b2 b3 b4 w u c=.nL e):e=Str.ofString "line"∨e=Str.ofString "quote"∨e=Str.ofString "behind" := by
 have hb:∀{p:Str}{b3:Bool},dI p b3 c=.nL e→e=Str.ofString "line"∨e=Str.ofString "quote"∨e=Str.ofString "behind" := by
  intro p b3 h
  unfold dI at h
  split at h
  ·cases h
  split at h
  ·cases h
  split at h
  ·split at h
   ·cases h
   ·cases h;exact .inr (.inr rfl)
  ·cases h;exact .inr (.inr rfl)
 unfold bP at h
 split at h
 ·unfold fz at h
  split at h
  ·cases h
  split at h
  ·split at h <;> cases h
  split at h
  ·split at h
   ·cases h;exact .inl rfl
   ·cases h
  ·cases h
 split at h
 ·unfold jc iN at h
  split at h
  ·split at h
   ·cases h;exact .inl rfl
   ·split at h <;> cases h
  ·split at h <;> cases h
 split at h
 ·unfold nk at h
  split at h
  ·cases h
  ·exact hb h
 split at h
 ·exact hb h
 unfold uU at h
 split at h
 ·unfold iu at h
  split at h
  ·cases h
  split at h
  ·cases h
  split at h
  ·cases h
  split at h
  ·split at h
   ·cases h;exact .inr (.inl rfl)
   ·cases h
  ·cases h
 ·unfold ig at h
  split at h
  ·cases h
  split at h
  ·cases h
  split at h
  ·cases h
  split at h
  ·cases h
  split at h
  ·split at h <;> cases h
  ·cases h
theorem gG {p q f:Str}{b1 b2 b3 b4:Bool}{w u k w' u':Str}{c:Nat}{cs:List Nat} (h:bP p q f b1 b2 b3 b4 w u c=.go k w' u'):runM p q f b1 b2 b3 b4 w u (c :: cs)=(k :: (runM p q f b1 b2 b3 b4 w' u' cs).1,(runM p q f b1 b2 b3 b4 w' u' cs).2):=by
 show(match bP p q f b1 b2 b3 b4 w u c with | .nL e=>([],w,u,some e) | .go k w' u'=>(k :: (runM p q f b1 b2 b3 b4 w' u' cs).1,(runM p q f b1 b2 b3 b4 w' u' cs).2))=_
 rw[h]
theorem jz {p q f:Str}{b1 b2 b3 b4:Bool}{w u e:Str}{c:Nat}{cs:List Nat} (h:bP p q f b1 b2 b3 b4 w u c=.nL e):runM p q f b1 b2 b3 b4 w u (c :: cs)=([],w,u,some e):=by
 show(match bP p q f b1 b2 b3 b4 w u c with | .nL e=>([],w,u,some e) | .go k w' u'=>(k :: (runM p q f b1 b2 b3 b4 w' u' cs).1,(runM p q f b1 b2 b3 b4 w' u' cs).2))=_
 rw[h]
theorem kL {p q f:Str}{b1 b2 b3 b4:Bool}{w u e:Str}{cs:List Nat} (h:(runM p q f b1 b2 b3 b4 w u cs).2.2.2=some e):e≠Str.ofString ""∧e≠Str.ofString "cut" := by
 induction cs generalizing w u with
 | nil=>cases h
 | cons c cs ih =>
  cases hs:bP p q f b1 b2 b3 b4 w u c with
  | go k w' u' =>
   rw[gG hs] at h
   exact ih h
  | nL e2 =>
   rw[jz hs] at h
   cases h
   rcases Dq hs with rfl | rfl | rfl
   ·exact⟨fun z=>absurd (congrArg (fun z=>bf z ("line":Str)) z) (by decide +kernel),fun z=>absurd (congrArg (fun z=>bf z ("line":Str)) z) (by decide +kernel)⟩
   ·exact⟨fun z=>absurd (congrArg (fun z=>bf z ("quote":Str)) z) (by decide +kernel),fun z=>absurd (congrArg (fun z=>bf z ("quote":Str)) z) (by decide +kernel)⟩
   ·exact⟨fun z=>absurd (congrArg (fun z=>bf z ("behind":Str)) z) (by decide +kernel),fun z=>absurd (congrArg (fun z=>bf z ("behind":Str)) z) (by decide +kernel)⟩
structure B4 where
 a:Bool
 b:Bool
 c:Bool
 d:Bool
def B4.vs (b:B4):List V:=[.bl b.a,.bl b.b,.bl b.c,.bl b.d]
abbrev dO:=Str×Str×Str×B4
def jR (x:dO):List V:=rR x.1 x.2.1 x.2.2.1 x.2.2.2.a x.2.2.2.b x.2.2.2.c x.2.2.2.d
def ET (x:dO):List (Str×V):=zB x.1 x.2.1 x.2.2.1 x.2.2.2.a x.2.2.2.b x.2.2.2.c x.2.2.2.d
theorem qT {l:List Str}{i:Nat}{e:V} (h:(l.map V.str)[i]? = some e):∃ z,l[i]? = some z∧e=.str z:=by
 rw[List.getElem?_map] at h
 cases hz:l[i]? with
 | none=>rw[hz] at h;cases h
 | some z=>rw[hz] at h;exact⟨z,rfl,(Option.some.inj h).symm⟩
abbrev vQ (x:dO):Prop:=Gd x.1 x.2.1 x.2.2.1
abbrev vR (H:Hp):List V→List dO→Prop:=Paired fun e x=>∃ t,e=V.ref t∧H t=some (.tup (jR x))
theorem vR.mono {H H':Hp} (s:aD H H'):∀{es:List V}{xs:List dO},vR H es xs→vR H' es xs
 | _,_,.nil=>.nil
 | _,_,.cons ⟨t,e,h⟩ r=>.cons ⟨t,e,s _ _ h⟩ (vR.mono s r)
abbrev nN (C:Addr) (H:Hp):List V→List dO→Prop:=Paired fun e x=>∃ y dy,e=V.ref y∧H y=some (.ins C dy (ET x))
theorem nN.mono {C:Addr}{H H':Hp} (s:aD H H'):∀{es:List V}{xs:List dO},nN C H es xs→nN C H' es xs
 | _,_,.nil=>.nil
 | _,_,.cons ⟨y,dy,e,h⟩ r=>.cons ⟨y,dy,e,s _ _ h⟩ (nN.mono s r)
def Dr (fi ro ce:Nat):List Str→Bool
 | []=>true
 | k :: ks=>if bf k ("part":Str)=true then Dr fi ro (ce+1) ks
  else if bf k ("end":Str)=true then (if ro=0 then Dr ce 1 1 ks else if ce=fi then Dr fi (ro+1) 1 ks else false)
  else Dr fi ro ce ks
theorem Ds (fi ro ce:Nat) (k:Str) (ks:List Str):Dr fi ro ce (k :: ks)=if bf k ("part":Str)=true then Dr fi ro (ce+1) ks
 else if bf k ("end":Str)=true then (if ro=0 then Dr ce 1 1 ks else if ce=fi then Dr fi (ro+1) 1 ks else false)
 else Dr fi ro ce ks:=rfl
theorem LA {α:Type}{l:List α}{i:Nat}{c:α} (h:l[i]? = some c):l.drop i=c :: l.drop (i+1):=by
 obtain⟨h1,h2⟩:=List.getElem?_eq_some_iff.mp h
 rw[List.drop_eq_getElem_cons h1,h2]
def uV (ev:Bool) (r:List Str×Str×Str×Option Str):Bool:=(!ev || Dr 0 0 1 r.1) && bf (dJ r) ("":Str)
def runC (x:dO) (z:Str):List Str×Str×Str×Option Str:=runM x.1 x.2.1 x.2.2.1 x.2.2.2.a x.2.2.2.b x.2.2.2.c x.2.2.2.d ("row":Str) ("":Str) z.cps.toList
def EU (ev:Bool) (zs:List Str) (x:dO):Bool:=zs.all fun z=>uV ev (runC x z)
def kM (ev:Bool) (zs:List Str) (cs:List dO) (i:Nat):Bool:=match cs[i]? with
 | some x=>EU ev zs x
 | none=>false
def pN (ev:Bool) (zs:List Str) (cs:List dO) (n:Nat):List V:=((List.range n).filter (kM ev zs cs)).map fun i:Nat=>V.int i
theorem uW {ev:Bool}{zs:List Str}{cs:List dO}{n:Nat}{x:dO} (h:cs[n]? = some x):pN ev zs cs (n+1)=if EU ev zs x=true then pN ev zs cs n++[.int n] else pN ev zs cs n:=by
 have e:kM ev zs cs n=EU ev zs x:=by unfold kM;rw[h]
 unfold pN
 rw[List.range_succ,List.filter_append,List.filter_cons,e]
 split
 ·rw[List.map_append];rfl
 ·rw[List.filter_nil,List.append_nil]
theorem Dt {ev:Bool}{zs:List Str}{cs:List dO}{n:Nat}:(pN ev zs cs n).length≤n:=by
 unfold pN
 rw[List.length_map]
 exact Nat.le_trans (List.length_filter_le _ _) (by rw[List.length_range];exact Nat.le_refl _)
theorem BB {z:Str}{lo hi:Option Int}{c:Nat} (h:c∈(Txt.slice z lo hi).cps.toList):c∈z.cps.toList:=by
 unfold Txt.slice at h
 split at h
 ·exact h
 ·have h:c∈List.filterMap (fun x=>z.cps[x]?) (Builtin.Str.strSliceIndices lo hi 1 z.length):=h
  obtain⟨k,_,hk⟩:=List.mem_filterMap.mp h
  exact Array.mem_toList_iff.mpr (Array.mem_of_getElem? hk)
theorem rV {z:Str}{n:Int} (h0:0≤n):((Txt.slice z none (some n)).length:Int)≤n:=by
 have key:((Builtin.Str.strSliceIndices none (some n) 1 z.length).length:Int)≤n:=by
  unfold Builtin.Str.strSliceIndices sliceRange
  simp only[show(1:Int) > 0 by decide,if_true,List.length_map,List.length_range]
  split <;> (try split) <;> (try simp only[Int.ediv_one]) <;> omega
 unfold Txt.slice
 split
 ·rename_i e
  have e2:(Builtin.Str.strSliceIndices none (some n) 1 z.length).length=z.length:=by simpa using e
  omega
 ·have:(List.filterMap (fun x=>z.cps[x]?) (Builtin.Str.strSliceIndices none (some n) 1 z.length)).toArray.size≤(Builtin.Str.strSliceIndices none (some n) 1 z.length).length:=by
   rw[List.size_toArray];exact List.length_filterMap_le _ _
  show(((List.filterMap (fun x=>z.cps[x]?) (Builtin.Str.strSliceIndices none (some n) 1 z.length)).toArray.size:Nat):Int)≤n
  omega
theorem xW {z:Str} (g:Sg z):Sg (Txt.slice z none (some 1)):=by
 have h:=rV (z:=z) (n:=1) (by decide)
 have e:(Txt.slice z none (some 1)).cps.toList.length=(Txt.slice z none (some 1)).length:=by rw[Array.length_toList];rfl
 refine⟨?_,fun c hc=>g.pr c (BB hc)⟩
 cases q:(Txt.slice z none (some 1)).cps.toList with
 | nil=>exact List.nodup_nil
 | cons a l =>
  cases l with
  | nil=>simp
  | cons b l=>rw[q] at e;simp only[List.length_cons] at e;omega
theorem Du {z:Str} (g:Sg z):Sg (kj z):=by
 have e:(kj z).cps.toList=z.cps.toList.reverse:=by unfold kj;simp
 exact⟨by rw[e];exact List.pairwise_reverse.mpr (List.Pairwise.imp (fun h=>Ne.symm h) g.nd),fun c hc=>g.pr c (by rw[e] at hc;exact List.mem_reverse.mp hc)⟩
theorem AH (z:Str):(kj z).length=z.length:=by
 have e:(kj z).cps.toList=z.cps.toList.reverse:=by unfold kj;simp
 have:=congrArg List.length e
 rw[List.length_reverse,Array.length_toList,Array.length_toList] at this
 exact this
theorem rW {H:Hp}{l:Addr}{o:HO}:∀{es:List V}{xs:List dO},(V.ref l∉es)→vR H es xs→vR (upd H l o) es xs
 | _,_,_,.nil=>.nil
 | _,_,hn,.cons ⟨a,e,h⟩ r=>by
  subst e
  have:a≠l:=fun q=>hn (by rw[q];exact List.mem_cons_self ..)
  exact .cons ⟨a,rfl,(aC this).trans h⟩ (rW (fun q=>hn (List.mem_cons_of_mem _ q)) r)
theorem join_list (zs:List Str):(Txt.join ("":Str) zs).cps.toList=zs.flatMap (fun z=>z.cps.toList):=by
 have ee:("":Str).cps.toList=[]:=by decide +kernel
 show(Builtin.Str.glued ("":Str) zs).cps.toList=_
 rw[StrLaws.glued_eq_join]
 induction zs with
 | nil=>exact ee
 | cons c cs ih =>
  cases cs with
  | nil =>
   show c.cps.toList=_
   simp
  | cons d cs =>
   show(c++("":Str)++Str.join ("":Str) (d :: cs)).cps.toList=_
   rw[app_list,app_list,ee,List.append_nil,ih]
   simp[List.flatMap_cons]
theorem EV {zs:List Str}{m:Nat} (h:∀ z∈zs,z.length≤m):(zs.map (·.length)).sum+zs.length * ("":Str).length≤m * zs.length:=by
 have e:("":Str).length=0:=by decide +kernel
 rw[e,Nat.mul_zero,Nat.add_zero]
 induction zs with
 | nil=>exact Nat.zero_le _
 | cons z zs ih =>
  have h1:=h z (List.mem_cons_self ..)
  have h2:=ih fun y hy=>h y (List.mem_cons_of_mem _ hy)
  rw[List.map_cons,List.sum_cons,List.length_cons,Nat.mul_succ]
  omega
theorem Ij {zs:List Str}{m:Nat} (h:∀ z∈zs,z.length≤m):(zs.flatMap (fun z=>z.cps.toList)).length≤m * zs.length:=by
 induction zs with
 | nil=>exact Nat.zero_le _
 | cons z zs ih =>
  have h1:=h z (List.mem_cons_self ..)
  have h2:=ih fun y hy=>h y (List.mem_cons_of_mem _ hy)
  rw[List.flatMap_cons,List.length_append,List.length_cons,Nat.mul_succ,Array.length_toList]
  have:z.cps.size≤m:=h1
  omega
theorem nq {K:W.Frag}{H:Hp}{n:Nat}{xs:List V} (h:xs.all bW=true):∀(j:Nat) x y,xs[j]? = some x→xs[j]? = some y→g9 K H n x y:=fun j x y ex ey=>by
 rw[ex] at ey;cases ey
 have:=List.all_eq_true.mp h x (List.mem_of_getElem? ex)
 exact .flat this this (ju this)
theorem xX {α:Type} (f:α→V) (xs:List α) (lo hi:Option Int):∃ ys:List α,zc (xs.map f) lo hi=ys.map f∧ys.length≤xs.length∧∀ y∈ys,y∈xs:=by
 refine⟨(xs.drop (HT.wX (xs.map f).length 0 lo)).take (HT.wX (xs.map f).length (xs.map f).length hi - HT.wX (xs.map f).length 0 lo),?_,?_,fun y hy=>List.mem_of_mem_drop (List.mem_of_mem_take hy)⟩
 ·unfold zc;rw[List.map_take,List.map_drop]
 ·rw[List.length_take,List.length_drop];omega
theorem xY {a b:Str} (h1:bF a) (h2:bF b):bF (a++b):=fun c hc=>by
 rw[app_list] at hc
 rcases List.mem_append.mp hc with q | q
 ·exact h1 c q
 ·exact h2 c q
theorem nN.but {C:Addr}{H:Hp}{l:Addr}{o:HO}{ws:List V} (hl:H l=some (.lst ws)):∀{es:List V}{xs:List dO},nN C H es xs→nN C (upd H l o) es xs
 | _,_,.nil=>.nil
 | _,_,.cons ⟨y,dy,e,h⟩ r=>.cons ⟨y,dy,e,(aC (qU h hl (by intro z;cases z))).trans h⟩ (nN.but hl r)
structure xZ where
 rows:List (List Str)
 row:List Str
 cell:Str
def pe (g:xZ) (c:Nat) (k:Str):xZ :=
 if bf k ("put":Str)=true then ⟨g.rows,g.row,g.cell++sg c⟩
 else if bf k ("part":Str)=true then ⟨g.rows,g.row++[g.cell],Str.ofString ""⟩
 else if bf k ("end":Str)=true then ⟨g.rows++[g.row++[g.cell]],[],Str.ofString ""⟩
 else g
def dP:xZ→List Nat→List Str→xZ
 | g,c :: cs,k :: ks=>dP (pe g c k) cs ks
 | g,_,_=>g
def n6:xZ:=⟨[],[],Str.ofString ""⟩
def cZ (z:Str) (ks:List Str):List (List Str):=(dP n6 z.cps.toList ks).rows
theorem uX:∀(g:xZ) (cs:List Nat) (ks:List Str) (i:Nat) (c:Nat) (k:Str),cs[i]? = some c→ks[i]? = some k→dP g (cs.take (i+1)) (ks.take (i+1))=pe (dP g (cs.take i) (ks.take i)) c k
 | g,[],_,i,c,k,h,_=>by simp at h
 | g,_ :: _,[],i,c,k,_,h=>by simp at h
 | g,d :: cs,j :: ks,0,c,k,h1,h2=>by cases h1;cases h2;rfl
 | g,d :: cs,j :: ks,i+1,c,k,h1,h2=>by
  show dP (pe g d j) (cs.take (i+1)) (ks.take (i+1))=pe (dP (pe g d j) (cs.take i) (ks.take i)) c k
  exact uX _ cs ks i c k h1 h2
theorem ya:∀(g:xZ) (cs:List Nat) (ks:List Str),dP g (cs.take (min cs.length ks.length)) (ks.take (min cs.length ks.length))=dP g cs ks
 | g,[],ks=>by simp[dP]
 | g,_ :: _,[]=>by simp[dP]
 | g,d :: cs,j :: ks=>by
  have e:min (d :: cs).length (j :: ks).length=min cs.length ks.length+1:=by rw[List.length_cons,List.length_cons];omega
  rw[e]
  exact ya (pe g d j) cs ks
abbrev gi (H0 H:Hp):List V→List (List Str)→Prop:=Paired fun e r=>∃ a,e=V.ref a∧H0 a=none∧H a=some (.lst (r.map V.str))
theorem gi.mono {H0 H H':Hp} (s:aD H H'):∀{es:List V}{rs:List (List Str)},gi H0 H es rs→gi H0 H' es rs
 | _,_,.nil=>.nil
 | _,_,.cons ⟨a,e,n,h⟩ r=>.cons ⟨a,e,n,s _ _ h⟩ (gi.mono s r)
theorem gi.but {H0 H:Hp}{l:Addr}{o:HO}:∀{es:List V}{rs:List (List Str)},(V.ref l∉es)→gi H0 H es rs→gi H0 (upd H l o) es rs
 | _,_,_,.nil=>.nil
 | _,_,hn,.cons ⟨a,e,n,h⟩ r=>by
  subst e
  have:a≠l:=fun q=>hn (by rw[q];exact List.mem_cons_self ..)
  exact .cons ⟨a,rfl,n,(aC this).trans h⟩ (gi.but (fun q=>hn (List.mem_cons_of_mem _ q)) r)
theorem gi.app {H0 H:Hp}:∀{es es':List V}{rs rs':List (List Str)},gi H0 H es rs→gi H0 H es' rs'→gi H0 H (es++es') (rs++rs')
 | _,_,_,_,.nil,h=>h
 | _,_,_,_,.cons r t,h=>.cons r (gi.app t h)
theorem gi.has {H0 H:Hp}:∀{es:List V}{rs:List (List Str)},gi H0 H es rs→∀{a:Addr},V.ref a∈es→H0 a=none∧∃ ys,H a=some (.lst ys)
 | _,_,.nil,_,h=>by cases h
 | _,_,.cons ⟨b,e,n,h⟩ r,a,ha=>by
  rcases List.mem_cons.mp ha with q | q
  ·subst e;cases q;exact⟨n,_,h⟩
  ·exact gi.has r q
theorem kN:∀(n:Nat) (cs:List Nat) (ks:List Str) (g:xZ),g.row.length+cs.length≤n→g.rows.length+cs.length≤n→(∀ r∈g.rows,r.length≤n)→(∀ r∈(dP g cs ks).rows,r.length≤n)∧(dP g cs ks).rows.length≤n
 | n,[],ks,g,h1,h2,h3=>by
  refine⟨?_,?_⟩
  ·show ∀ r∈g.rows,_;exact h3
  ·show g.rows.length≤n;omega
 | n,c :: cs,[],g,h1,h2,h3=>by
  refine⟨?_,?_⟩
  ·show ∀ r∈g.rows,_;exact h3
  ·show g.rows.length≤n;omega
 | n,c :: cs,k :: ks,g,h1,h2,h3=>by
  show(∀ r∈(dP (pe g c k) cs ks).rows,r.length≤n)∧(dP (pe g c k) cs ks).rows.length≤n
  rw[List.length_cons] at h1 h2
  unfold pe
  split
  ·exact kN n cs ks _ (show g.row.length+_≤_ by omega) (show g.rows.length+_≤_ by omega) h3
  split
  ·exact kN n cs ks _ (by show(g.row++[g.cell]).length+_≤_;rw[List.length_append];show g.row.length+1+_≤_;omega) (show g.rows.length+_≤_ by omega) h3
  split
  ·refine kN n cs ks _ (show([]:List Str).length+_≤_ by show 0+_≤_;omega) (by show(g.rows++[g.row++[g.cell]]).length+_≤_;rw[List.length_append];show g.rows.length+1+_≤_;omega) fun r hr=>?_
   rcases List.mem_append.mp hr with q | q
   ·exact h3 r q
   ·rw[List.mem_singleton.mp q,List.length_append];show g.row.length+1≤n;omega
  ·exact kN n cs ks _ (by omega) (by omega) h3
theorem EW {z:Str}{ks:List Str}:(∀ r∈cZ z ks,r.length≤z.length)∧(cZ z ks).length≤z.length:=by
 have hz:z.cps.toList.length=z.length:=by rw[Array.length_toList];rfl
 exact kN z.length z.cps.toList ks n6 (by show 0+_≤_;omega) (by show 0+_≤_;omega) (fun r hr=>nomatch hr)
def yO (fi ro ce vS:Nat):List Str→Option (Nat×Nat)
 | []=>none
 | k :: ks=>if bf k ("part":Str)=true then yO fi ro (ce+1) (vS+1) ks
  else if bf k ("end":Str)=true then (if ro=0 then yO ce 1 1 (vS+1) ks else if ce=fi then yO fi (ro+1) 1 (vS+1) ks else some (vS,ro))
  else yO fi ro ce (vS+1) ks
theorem yb (fi ro ce vS:Nat) (k:Str) (ks:List Str):yO fi ro ce vS (k :: ks)=if bf k ("part":Str)=true then yO fi ro (ce+1) (vS+1) ks
 else if bf k ("end":Str)=true then (if ro=0 then yO ce 1 1 (vS+1) ks else if ce=fi then yO fi (ro+1) 1 (vS+1) ks else some (vS,ro))
 else yO fi ro ce (vS+1) ks:=rfl
def bS (r:List Str×Str×Str×Option Str):Option (Nat×Nat×Str):=if bf (dJ r) ("":Str)=true then none else some (r.1.length,mC r.1,dJ r)
def cA (ev:Bool) (r:List Str×Str×Str×Option Str):Option (Nat×Nat×Str):=match (if ev=true then yO 0 0 1 0 r.1 else none) with
 | some (a,b)=>some (a,b,Str.ofString "uneven")
 | none=>bS r
def uY (x:Option (Nat×Nat×Str)) (H':Hp) (v:V):Prop:=match x with
 | none=>v=.non
 | some (a,b,w)=>∃ t,v=.ref t∧H' t=some (.tup [.int a,.int b,.str w])
theorem Dv {ks:List Str}{w u:Str}{o:Option Str}{H':Hp} (h2:o=none) (h3:n5 w u=true):uY (bS (ks,w,u,o)) H' .non:=by
 subst h2
 have e:dJ (ks,w,u,none)=Str.ofString "" := if_pos h3
 unfold bS
 rw[e,if_pos (dm _)]
 rfl
theorem Dw {ks:List Str}{w u:Str}{o:Option Str}{H':Hp}{t:Addr} (h1:o=none→n5 w u=false) (h2:∀ e,o=some e→e≠Str.ofString "") (h:H' t=some (.tup [.int ks.length,.int (mC ks),.str (o.getD ("cut":Str))])):uY (bS (ks,w,u,o)) H' (.ref t):=by
 have ew:dJ (ks,w,u,o)=o.getD ("cut":Str):=by
  unfold dJ
  cases ho:o with
  | some e=>rfl
  | none=>exact if_neg (by rw[h1 ho];decide)
 have hn:¬bf (dJ (ks,w,u,o)) ("":Str)=true:=fun q=>by
  have q:=jb q
  rw[ew] at q
  cases ho:o with
  | some e=>rw[ho] at q;exact h2 e ho q
  | none=>rw[ho] at q;exact absurd (congrArg (fun z=>bf z ("":Str)) q) (by decide +kernel)
 unfold bS
 rw[if_neg hn,ew]
 exact⟨t,rfl,h⟩
abbrev F4:=Nat×Nat×Nat×Str
def qA (f:F4):List V:=[.int f.1,.int f.2.1,.int f.2.2.1,.str f.2.2.2]
def kq (f:F4):Int:=(f.1:Int) * 1000000+(f.2.1:Int)
abbrev pO (H:Hp):List V→List F4→Prop:=Paired fun v f=>∃ t,v=V.ref t∧H t=some (.tup (qA f))
theorem pO.mono {H H':Hp} (s:aD H H'):∀{ps:List V}{fs:List F4},pO H ps fs→pO H' ps fs
 | _,_,.nil=>.nil
 | _,_,.cons ⟨t,e,h⟩ r=>.cons ⟨t,e,s _ _ h⟩ (pO.mono s r)
def bZ (ev:Bool) (z:Str) (cs:List dO) (i:Nat):List F4:=match cs[i]? with
 | some x=>(match cA ev (runC x z) with
  | some (a,b,w)=>[(a,i,b,w)]
  | none=>[])
 | none=>[]
def dQ (ev:Bool) (z:Str) (cs:List dO) (n:Nat):List F4:=(List.range n).flatMap (bZ ev z cs)
theorem iw (ev:Bool) (z:Str) (cs:List dO) (n:Nat):dQ ev z cs (n+1)=dQ ev z cs n++bZ ev z cs n:=by
 unfold dQ
 rw[List.range_succ,List.flatMap_append]
 simp
theorem iO {ev:Bool}{z:Str}{cs:List dO}{n:Nat}:∀ f∈dQ ev z cs n,f.2.1 < n:=fun f hf=>by
 obtain⟨i,hi,h⟩:=List.mem_flatMap.mp hf
 have hi:=List.mem_range.mp hi
 unfold bZ at h
 split at h
 ·split at h
  ·rw[List.mem_singleton.mp h];exact hi
  ·cases h
 ·cases h
theorem iP (ev:Bool) (z:Str) (cs:List dO):∀ n,((dQ ev z cs n).map fun f=>(f.2.1:Int)).Nodup
 | 0=>List.nodup_nil
 | n+1=>by
  rw[iw,List.map_append,List.nodup_append]
  refine⟨iP ev z cs n,?_,fun a ha b hb=>?_⟩
  ·unfold bZ
   split
   ·split
    ·simp
    ·exact List.nodup_nil
   ·exact List.nodup_nil
  ·obtain⟨f,hf,rfl⟩:=List.mem_map.mp ha
   obtain⟨f',hf',rfl⟩:=List.mem_map.mp hb
   have h1:=iO f hf
   have h2:f'.2.1=n:=by
    unfold bZ at hf'
    split at hf'
    ·split at hf'
     ·rw[List.mem_singleton.mp hf']
     ·cases hf'
    ·cases hf'
   omega
theorem pO.put {H:Hp}{l:Addr}{qs:List V}{o:HO} (hl:H l=some (.lst qs)):∀{ps:List V}{fs:List F4},pO H ps fs→pO (upd H l o) ps fs
 | _,_,.nil=>.nil
 | _,_,.cons ⟨t,e,h⟩ r=>.cons ⟨t,e,(aC (fun q=>by rw[q,hl] at h;cases h)).trans h⟩ (pO.put hl r)
theorem rX {H:Hp}:∀{ps:List V}{fs:List F4},pO H ps fs→∃ gs:List (Addr×F4),ps=gs.map (fun g=>V.ref g.1)∧gs.map (·.2)=fs∧∀ g∈gs,H g.1=some (.tup (qA g.2))
 | _,_,.nil=>⟨[],rfl,rfl,fun g hg=>by cases hg⟩
 | _,f :: fs,.cons ⟨t,e,h⟩ r=>by
  obtain⟨gs,e1,e2,e3⟩:=rX r
  refine⟨(t,f) :: gs,by rw[e,e1];rfl,by rw[List.map_cons,e2],fun g hg=>?_⟩
  rcases List.mem_cons.mp hg with rfl | hg
  ·exact h
  ·exact e3 g hg
theorem Dy {H:Hp}:∀{gs:List (Addr×F4)},(∀ g∈gs,H g.1=some (.tup (qA g.2)))→pO H (gs.map fun g=>V.ref g.1) (gs.map (·.2))
 | [],_=>.nil
 | g :: gs,h=>.cons ⟨g.1,rfl,h g (List.mem_cons_self ..)⟩ (Dy fun g' hg=>h g' (List.mem_cons_of_mem _ hg))
theorem yc {α β:Type}{f:α→β}{us l:List β} (h:us.Perm l):∀ gs:List α,l=gs.map f→∃ gs':List α,us=gs'.map f∧gs'.Perm gs:=by
 induction h with
 | nil=>intro gs e;exact⟨[],rfl,by cases gs with | nil=>exact List.Perm.refl _ | cons _ _=>cases e⟩
 | cons x _ ih =>
  intro gs e
  cases gs with
  | nil=>cases e
  | cons g gs =>
   injection e with e1 e2
   obtain⟨gs',e3,e4⟩:=ih gs e2
   exact⟨g :: gs',by rw[e3,e1];rfl,e4.cons g⟩
 | swap x y l =>
  intro gs e
  match gs,e with
  | g1 :: g2 :: gs,e =>
   injection e with e1 e2
   injection e2 with e2 e3
   exact⟨g2 :: g1 :: gs,by rw[e1,e2,e3];rfl,List.Perm.swap _ _ _⟩
  | [g1],e=>injection e with e1 e2;cases e2
 | trans _ _ ih1 ih2 =>
  intro gs e
  obtain⟨g1,e1,p1⟩:=ih2 gs e
  obtain⟨g2,e2,p2⟩:=ih1 g1 e1
  exact⟨g2,e2,p2.trans p1⟩
def kO (gs:List (Addr×F4)) (z:Nat):List (Addr×F4):=gs.filter fun g=>decide (g.2.1=z)
def kP (fs:List F4):Option F4:=match fs.getLast? with
 | some z=>fs.find? fun f=>decide (f.1=z.1)
 | none=>none
structure jd where
 pl:Nat
 t:Addr
 l:Addr
 es:List V
 T:List (List Str)
def jd.ok (A H:Hp) (g:jd):Prop:=H g.t=some (.tup [.int g.pl,.ref g.l])∧A g.l=none∧H g.l=some (.lst g.es)∧gi A H g.es g.T
def jd.own (g:jd):List V:=V.ref g.l :: g.es
def jd.val (g:jd):Nat×List (List Str):=(g.pl,g.T)
theorem jd.ok.mono {A H H':Hp}{g:jd} (s:aD H H') (h:g.ok A H):g.ok A H':=⟨s _ _ h.1,h.2.1,s _ _ h.2.2.1,gi.mono s h.2.2.2⟩
theorem jd.ok.but {A H:Hp}{g:jd}{l:Addr}{o:HO}{ws:List V} (hl:H l=some (.lst ws)) (hn:V.ref l∉g.own) (h:g.ok A H):g.ok A (upd H l o):=by
 refine⟨(aC (qU h.1 hl (by intro z;cases z))).trans h.1,h.2.1,(aC (fun q=>hn ?_)).trans h.2.2.1,gi.but (fun q=>hn (List.mem_cons_of_mem _ q)) h.2.2.2⟩
 rw[←q];exact List.mem_cons_self ..
theorem jd.ok.has {A H:Hp}{g:jd} (h:g.ok A H) {a:Addr} (q:V.ref a∈g.own):A a=none∧∃ ys,H a=some (.lst ys):=by
 rcases List.mem_cons.mp q with e | e
 ·cases e;exact⟨h.2.1,_,h.2.2.1⟩
 ·exact h.2.2.2.has e
structure Tks (A H:Hp) (l:Addr) (gs:List jd) (ps:List (Nat×List (List Str))):Prop where
 ls:H l=some (.lst (gs.map fun g=>V.ref g.t))
 eq:gs.map jd.val=ps
 ok:∀ g∈gs,g.ok A H
 nd:(V.ref l :: gs.flatMap jd.own).Nodup
 fr:A l=none
theorem Tks.mono {A H H':Hp}{l:Addr}{gs:List jd}{ps:List (Nat×List (List Str))} (s:aD H H') (h:Tks A H l gs ps):Tks A H' l gs ps:=⟨s _ _ h.ls,h.eq,fun g hg=>(h.ok g hg).mono s,h.nd,h.fr⟩
theorem EX {A H:Hp}{g:jd} (h:g.ok A H) {v:V} (q:v∈g.own):∃ a,v=V.ref a∧A a=none∧∃ ys,H a=some (.lst ys):=by
 rcases List.mem_cons.mp q with e | e
 ·exact⟨_,e,h.2.1,_,h.2.2.1⟩
 ·obtain⟨i,hi⟩:=List.getElem?_of_mem e
  obtain⟨_,_,a,rfl,ha⟩:=aS h.2.2.2 i v hi
  exact⟨a,rfl,ha.1,_,ha.2⟩
theorem Tks.snoc {A H H7:Hp}{l:Addr}{gs:List jd}{ps:List (Nat×List (List Str))} (h:Tks A H l gs ps) (sA:aD A H) {lt u:Addr}{es:List V}{T:List (List Str)}{i:Nat} (hlt:H lt=none) (s7:aD H H7) (h7:H7 lt=some (.lst es)) (n1:V.ref lt∉es) (nd:es.Nodup) (rws:gi H H7 es T) (hu:H7 u=none) :
  Tks A (upd (upd H7 u (.tup [.int i,.ref lt])) l (.lst ((gs.map fun g=>V.ref g.t)++[V.ref u]))) l (gs++[⟨i,u,lt,es,T⟩]) (ps++[(i,T)]):=by
 have su:=aq (o:=HO.tup [.int i,.ref lt]) hu
 have s8:=s7.trans su
 have h8:=s8 _ _ h.ls
 have nul:u≠l:=fun q=>by rw[q,s7 _ _ h.ls] at hu;cases hu
 have hnl:∀ g∈gs,V.ref l∉g.own:=fun g hg q=>(List.nodup_cons.mp h.nd).1 (List.mem_flatMap.mpr ⟨g,hg,q⟩)
 have back:gi A H7 es T:=eF (fun _ _ ⟨a,e1,e2,e3⟩=>⟨a,e1,sA.free e2,e3⟩) rws
 have hnn:V.ref l∉jd.own ⟨i,u,lt,es,T⟩:=fun q=>by
  rcases List.mem_cons.mp q with e | e
  ·cases e;rw[h.ls] at hlt;cases hlt
  ·have:=(rws.has e).1;rw[h.ls] at this;cases this
 have okn:jd.ok A (upd H7 u (.tup [.int i,.ref lt])) ⟨i,u,lt,es,T⟩:=⟨aj,sA.free hlt,su _ _ h7,gi.mono su back⟩
 refine⟨?_,?_,fun g hg=>?_,?_,h.fr⟩
 ·rw[aj,List.map_append];rfl
 ·rw[List.map_append,h.eq];rfl
 ·rcases List.mem_append.mp hg with q | q
  ·exact((h.ok g q).mono s8).but h8 (hnl g q)
  ·rw[List.mem_singleton.mp q];exact okn.but h8 hnn
 ·have U9:=List.nodup_cons.mp h.nd
  rw[List.flatMap_append]
  refine List.nodup_cons.mpr ⟨fun q=>?_,List.nodup_append.mpr ⟨U9.2,?_,fun a ha b hb e=>?_⟩⟩
  ·rcases List.mem_append.mp q with q | q
   ·exact U9.1 q
   ·rw[List.flatMap_cons,List.flatMap_nil,List.append_nil] at q;exact hnn q
  ·rw[List.flatMap_cons,List.flatMap_nil,List.append_nil]
   exact List.nodup_cons.mpr ⟨n1,nd⟩
  ·rw[List.flatMap_cons,List.flatMap_nil,List.append_nil] at hb
   obtain⟨g,hg,ha⟩:=List.mem_flatMap.mp ha
   obtain⟨x,rfl,_,ys,hx⟩:=EX (h.ok g hg) ha
   subst e
   rcases List.mem_cons.mp hb with e | e
   ·cases e;rw[hx] at hlt;cases hlt
   ·have:=(rws.has e).1;rw[hx] at this;cases this
def mO (ev:Bool) (z:Str) (cs:List dO) (i:Nat):List (Nat×List (List Str)):=match cs[i]? with
 | some x=>(match cA ev (runC x z) with
  | some _=>[]
  | none=>[(i,cZ z (runC x z).1)])
 | none=>[]
def je (ev:Bool) (z:Str) (cs:List dO) (n:Nat):List (Nat×List (List Str)):=(List.range n).flatMap (mO ev z cs)
theorem rY (ev:Bool) (z:Str) (cs:List dO) (n:Nat):je ev z cs (n+1)=je ev z cs n++mO ev z cs n:=by
 unfold je
 rw[List.range_succ,List.flatMap_append]
 simp
theorem rZ {ev:Bool}{z:Str}{cs:List dO}{i:Nat}{x:dO} (hx:cs[i]? = some x) (e:cA ev (runC x z)=none):mO ev z cs i=[(i,cZ z (runC x z).1)]∧bZ ev z cs i=[]:=by
 unfold mO bZ
 rw[hx]
 show(match cA ev (runC x z) with | some _=>[] | none=>[(i,cZ z (runC x z).1)])=_∧(match cA ev (runC x z) with | some (a,b,w)=>[(a,i,b,w)] | none=>[])=_
 rw[e]
 exact⟨rfl,rfl⟩
theorem r8 {ev:Bool}{z:Str}{cs:List dO}{i:Nat}{x:dO}{a b:Nat}{w:Str} (hx:cs[i]? = some x) (e:cA ev (runC x z)=some (a,b,w)):mO ev z cs i=[]∧bZ ev z cs i=[(a,i,b,w)]:=by
 unfold mO bZ
 rw[hx]
 show(match cA ev (runC x z) with | some _=>[] | none=>[(i,cZ z (runC x z).1)])=_∧(match cA ev (runC x z) with | some (a,b,w)=>[(a,i,b,w)] | none=>[])=_
 rw[e]
 exact⟨rfl,rfl⟩
theorem yd {fs:List F4} (h:fs≠[]):∃ f,kP fs=some f∧f∈fs:=by
 cases e:fs.getLast? with
 | none=>exact absurd (List.getLast?_eq_none_iff.mp e) h
 | some z =>
  have hz:=List.mem_of_getLast? e
  cases q:fs.find? fun f=>decide (f.1=z.1) with
  | none=>exact absurd (List.find?_eq_none.mp q z hz) (by simp)
  | some f=>exact⟨f,by unfold kP;rw[e];exact q,List.mem_of_find?_eq_some q⟩
def uZ (f:F4):List V:=[.int f.2.1,.int f.2.2.1,.int f.1,.str f.2.2.2]
def Dz (o:Option F4) (H':Hp) (v:V):Prop:=match o with
 | none=>v=.non
 | some f=>∃ t,v=.ref t∧H' t=some (.tup (uZ f))
abbrev AI (fs:List F4) (H':Hp) (v:V):Prop:=Dz (kP fs) H' v
theorem EY {H':Hp}{fs:List F4} (h:fs=[]):AI fs H' .non:=by subst h;exact rfl
theorem EZ {H':Hp}{fs:List F4}{f:F4}{t:Addr} (h:kP fs=some f) (ht:H' t=some (.tup (uZ f))):AI fs H' (.ref t):=by
 unfold AI;rw[h];exact⟨t,rfl,ht⟩
def Q3 (ev:Bool) (z:Str) (cs:List dO) (H H':Hp) (w v:V):Prop:=(je ev z cs cs.length≠[]∧w=.str ("read":Str)∧∃ l gs,v=.ref l∧Tks H H' l gs (je ev z cs cs.length))∨(je ev z cs cs.length=[]∧w=.str ("none":Str)∧∃ fs,AI fs H' v∧fs.Perm (dQ ev z cs cs.length)∧fs.Pairwise (fun x y=>kq x < kq y))
theorem BC {A H:Hp}{l:Addr}{gs:List jd}{ps:List (Nat×List (List Str))} (h:Tks A H l gs ps) (e:gs.map (fun g=>V.ref g.t)=[]):ps=[]:=by
 have:gs=[]:=List.map_eq_nil_iff.mp e
 rw[←h.eq,this];rfl
theorem lO {ev:Bool}{z:Str}{cs:List dO}:∀ n,(dQ ev z cs n).length≤n
 | 0=>Nat.le_refl _
 | n+1=>by
  have:=lO (ev:=ev) (z:=z) (cs:=cs) n
  have h2:(bZ ev z cs n).length≤1:=by
   unfold bZ
   split
   ·split <;> simp
   ·simp
  rw[iw,List.length_append];omega
theorem vU {ev:Bool}{z:Str}{cs:List dO}:∀ n,(je ev z cs n).length≤n
 | 0=>Nat.le_refl _
 | n+1=>by
  have:=vU (ev:=ev) (z:=z) (cs:=cs) n
  have h2:(mO ev z cs n).length≤1:=by
   unfold mO
   split
   ·split <;> simp
   ·simp
  rw[rY,List.length_append];omega
def E1 (b:Option F4) (f:F4):Option F4:=match b with
 | none=>some f
 | some g=>if g.1 < f.1 then some f else some g
def GD (fs:List F4):Option F4:=fs.foldl E1 none
theorem lP:∀(l:List F4) (g:F4),(g :: l).Pairwise (fun x y=>x.2.1 < y.2.1)→∃ b,l.foldl E1 (some g)=some b∧b∈g :: l∧∀ h∈g :: l,h.1≤b.1∧(h.1=b.1→b.2.1≤h.2.1)
 | [],g,_=>⟨g,rfl,List.mem_cons_self ..,fun h hh=>by rw[List.mem_singleton.mp hh];exact⟨Nat.le_refl _,fun _=>Nat.le_refl _⟩⟩
 | f :: r,g,hp=>by
  have hp1:=List.pairwise_cons.mp hp
  have hp2:=List.pairwise_cons.mp hp1.2
  by_cases q:g.1 < f.1
  ·obtain⟨b,e1,e2,e3⟩:=lP r f hp1.2
   refine⟨b,?_,List.mem_cons_of_mem _ e2,fun h hh=>?_⟩
   ·rw[List.foldl_cons,show E1 (some g) f=some f from if_pos q];exact e1
   ·rcases List.mem_cons.mp hh with rfl | hh
    ·have:=(e3 f (List.mem_cons_self ..)).1
     exact⟨by omega,fun z=>by omega⟩
    ·exact e3 h hh
  ·have XJ:(g :: r).Pairwise (fun x y=>x.2.1 < y.2.1):=List.pairwise_cons.mpr ⟨fun x hx=>hp1.1 x (List.mem_cons_of_mem _ hx),hp2.2⟩
   obtain⟨b,e1,e2,e3⟩:=lP r g XJ
   refine⟨b,?_,?_,fun h hh=>?_⟩
   ·rw[List.foldl_cons,show E1 (some g) f=some g from if_neg q];exact e1
   ·rcases List.mem_cons.mp e2 with rfl | e
    ·exact List.mem_cons_self ..
    ·exact List.mem_cons_of_mem _ (List.mem_cons_of_mem _ e)
   ·have eg:=e3 g (List.mem_cons_self ..)
    rcases List.mem_cons.mp hh with rfl | hh
    ·exact eg
    rcases List.mem_cons.mp hh with rfl | hh
    ·have:=hp1.1 h (List.mem_cons_self ..)
     exact⟨by omega,fun z=>by have:=eg.2 (by omega);omega⟩
    ·exact e3 h (List.mem_cons_of_mem _ hh)
theorem sd (ev:Bool) (z:Str) (cs:List dO):∀ n,(dQ ev z cs n).Pairwise (fun x y=>x.2.1 < y.2.1)
 | 0=>.nil
 | n+1=>by
  rw[iw,List.pairwise_append]
  refine⟨sd ev z cs n,?_,fun a ha b hb=>?_⟩
  ·unfold bZ
   split
   ·split
    ·simp
    ·exact .nil
   ·exact .nil
  ·have h1:=iO a ha
   have h2:b.2.1=n:=by
    unfold bZ at hb
    split at hb
    ·split at hb
     ·rw[List.mem_singleton.mp hb]
     ·cases hb
    ·cases hb
   omega
theorem ye:∀{l:List F4},l.Pairwise (fun x y=>x.2.1 < y.2.1)→∀{x y:F4},x∈l→y∈l→x.2.1=y.2.1→x=y
 | a :: l,hp,x,y,hx,hy,e=>by
  have hp:=List.pairwise_cons.mp hp
  rcases List.mem_cons.mp hx with q | q <;> rcases List.mem_cons.mp hy with r | r
  ·rw[q,r]
  ·have:=hp.1 y r;rw[q] at e;omega
  ·have:=hp.1 x q;rw[r] at e;omega
  ·exact ye hp.2 q r e
theorem BD {fs fm:List F4} (hp:fs.Perm fm) (hs:fs.Pairwise (fun x y=>kq x < kq y)) (hr:fm.Pairwise (fun x y=>x.2.1 < y.2.1)) (hb:∀ f∈fm,f.2.1 < 1000000):kP fs=GD fm:=by
 cases fm with
 | nil=>rw[hp.eq_nil];rfl
 | cons g r =>
  obtain⟨b,e1,e2,e3⟩:=lP r g hr
  have hne:fs≠[]:=fun q=>by rw[q] at hp;have:=hp.length_eq;simp at this
  have e0:GD (g :: r)=some b:=e1
  rw[e0]
  cases ez:fs.getLast? with
  | none=>exact absurd (List.getLast?_eq_none_iff.mp ez) hne
  | some z =>
  have hz:=List.mem_of_getLast? ez
  have LB:∀ x∈fs,x=z∨kq x < kq z:=fun x hx=>by
   obtain⟨ys,hys⟩:=List.getLast?_eq_some_iff.mp ez
   rw[hys] at hx hs
   rcases List.mem_append.mp hx with q | q
   ·exact .inr ((List.pairwise_append.mp hs).2.2 x q z (List.mem_singleton.mpr rfl))
   ·exact .inl (List.mem_singleton.mp q)
  obtain⟨f,hf,hfm⟩:=yd hne
  have XM:fs.find? (fun f=>decide (f.1=z.1))=some f:=by unfold kP at hf;rw[ez] at hf;exact hf
  obtain⟨hpf,as,bs,XO,has⟩:=List.find?_eq_some_iff_append.mp XM
  have hpf:f.1=z.1:=of_decide_eq_true hpf
  have Q4:b∈fs:=hp.mem_iff.mpr e2
  have Va:f∈g :: r:=hp.mem_iff.mp hfm
  have hbz:b.1≤z.1:=by
   have hb1:=hb b e2
   have hb2:=hb z (hp.mem_iff.mp hz)
   rcases LB b Q4 with q | q
   ·rw[q];exact Nat.le_refl _
   ·unfold kq at q;omega
  have XQ:=(e3 f Va)
  have Ik:f.1=b.1:=by omega
  have h12:=XQ.2 Ik
  have h21:f.2.1≤b.2.1:=by
   rw[XO] at Q4 hs
   rcases List.mem_append.mp Q4 with q | q
   ·have:=has b q
    rw[decide_eq_true (by omega)] at this
    cases this
   ·rcases List.mem_cons.mp q with q | q
    ·rw[q];exact Nat.le_refl _
    ·have:=(List.pairwise_cons.mp (List.pairwise_append.mp hs).2.1).1 b q
     unfold kq at this;omega
  rw[hf,ye hr Va e2 (by omega)]
theorem DA {fs us fm:List F4} (h1:fs.Perm fm) (h2:us.Perm fm) (s1:fs.Pairwise (fun x y=>kq x < kq y)) (s2:us.Pairwise (fun x y=>kq x < kq y)):fs=us :=
 List.Perm.eq_of_pairwise (le:=fun x y=>kq x < kq y) (fun a b _ _ q1 q2=>by omega) s1 s2 (h1.trans h2.symm)
theorem DB {ev:Bool}{z:Str}{cs:List dO} (hc:cs.length≤60):∀ f∈dQ ev z cs cs.length,f.2.1 < 1000000:=fun f hf=>by have:=iO f hf;omega
theorem u0 {K:W.Frag}{A B H:Hp}{es es':List V}{T:List (List Str)}{n:Nat} (h1:gi A H es T) (h2:gi B H es' T):∀(j:Nat) x y,es[j]? = some x→es'[j]? = some y→g9 K H (n+1) x y:=fun j x y ex ey=>by
 obtain⟨r,hr,a,rfl,_,ha⟩:=aS h1 j x ex
 obtain⟨r',hr',b,rfl,_,hb⟩:=aS h2 j y ey
 rw[hr] at hr';cases hr'
 exact .lst (aP.of ha) (aP.of hb) rfl (nq (pM _))
theorem nu {K:W.Frag}{H:Hp}{n:Nat}{a b a' b':V} (h1:g9 K H n a a') (h2:g9 K H n b b'):∀(j:Nat) x y,[a,b][j]? = some x→[a',b'][j]? = some y→g9 K H n x y:=fun j x y ex ey=>by
 match j,ex,ey with
 | 0,ex,ey=>cases ex;cases ey;exact h1
 | 1,ex,ey=>cases ex;cases ey;exact h2
 | j+2,ex,_=>cases ex
theorem DC {K:W.Frag}{A B H:Hp}{g g':jd}{n:Nat} (h1:g.ok A H) (h2:g'.ok B H) (e:g.val=g'.val):∀(j:Nat) x y,[V.int g.pl,.ref g.l][j]? = some x→[V.int g'.pl,.ref g'.l][j]? = some y→g9 K H (n+2) x y:=by
 have e1:g.pl=g'.pl:=congrArg Prod.fst e
 have e2:g.T=g'.T:=congrArg Prod.snd e
 refine nu (.flat rfl rfl ?_) (.lst (aP.of h1.2.2.1) (aP.of h2.2.2.1) ?_ ?_)
 ·rw[e1];exact ju rfl
 ·rw[h1.2.2.2.length,h2.2.2.2.length,e2]
 ·have q:=h1.2.2.2
  rw[e2] at q
  exact u0 q h2.2.2.2
theorem DE {K:W.Frag}{A B H:Hp}{g g':jd}{n:Nat} (h1:g.ok A H) (h2:g'.ok B H) (e:g.val=g'.val):g9 K H (n+3) (.ref g.t) (.ref g'.t) :=
 .tup (bh.of h1.1) (bh.of h2.1) rfl (DC h1 h2 e)
def Kp (S:List V) (H H':Hp):Prop:=∀ b o,V.ref b∉S→H b=some o→H' b=some o
theorem Kp.trans {S R:List V}{H H1 H2:Hp} (h:Kp S H H1) (h2:Kp R H1 H2):Kp (S++R) H H2:=fun b o q e=>h2 b o (fun z=>q (List.mem_append_right _ z)) (h b o (fun z=>q (List.mem_append_left _ z)) e)
theorem Kp.same {S:List V}{A H H':Hp} (h:Kp S H H') (s:aD A H) (hf:∀ a,V.ref a∈S→A a=none):aD A H':=fun b o e=>h b o (fun q=>by rw[hf b q] at e;cases e) (s _ _ e)
theorem Kp.rws {S:List V}{A H H':Hp} (h:Kp S H H'):∀{es:List V}{T:List (List Str)},(∀ v∈es,v∉S)→gi A H es T→gi A H' es T
 | _,_,_,.nil=>.nil
 | _,_,q,.cons ⟨a,e,n,p⟩ r=>.cons ⟨a,e,n,h _ _ (by rw[←e];exact q _ (List.mem_cons_self ..)) p⟩ (Kp.rws h (fun v hv=>q v (List.mem_cons_of_mem _ hv)) r)
theorem Tks.fresh {A H:Hp}{l:Addr}{gs:List jd}{ps:List (Nat×List (List Str))} (h:Tks A H l gs ps) {i:Nat}{a:Addr} (q:V.ref a∈(gs.take i).flatMap jd.own):A a=none∧∃ ys,H a=some (.lst ys):=by
 obtain⟨g,hg,q⟩:=List.mem_flatMap.mp q
 exact(h.ok g (List.mem_of_mem_take hg)).has q
theorem Tks.free {A H:Hp}{l:Addr}{gs:List jd}{ps:List (Nat×List (List Str))} (h:Tks A H l gs ps) {a:Addr} (q:V.ref a∈V.ref l :: gs.flatMap jd.own):A a=none:=by
 rcases List.mem_cons.mp q with e | q
 ·cases e;exact h.fr
 ·obtain⟨g,hg,q⟩:=List.mem_flatMap.mp q
  exact((h.ok g hg).has q).1
theorem own_apart:∀{gs:List jd}{i:Nat}{g:jd},(gs.flatMap jd.own).Nodup→gs[i]? = some g→∀ v∈g.own,v∉(gs.take i).flatMap jd.own
 | [],i,g,_,h,_,_=>by simp at h
 | g0 :: gs,0,g,_,_,v,_=>by simp
 | g0 :: gs,i+1,g,nd,h,v,hv=>by
  rw[List.flatMap_cons,List.nodup_append] at nd
  rw[List.getElem?_cons_succ] at h
  rw[List.take_succ_cons,List.flatMap_cons]
  intro q
  rcases List.mem_append.mp q with q | q
  ·exact nd.2.2 v q v (List.mem_flatMap.mpr ⟨g,List.mem_of_getElem? h,hv⟩) rfl
  ·exact own_apart nd.2.1 h v hv q
theorem Tks.at {A H H':Hp}{l:Addr}{gs:List jd}{ps:List (Nat×List (List Str))}{i:Nat}{g:jd} (h:Tks A H l gs ps) (kp:Kp ((gs.take i).flatMap jd.own) H H') (hg:gs[i]? = some g):g.ok A H':=by
 have ok:=h.ok g (List.mem_of_getElem? hg)
 have ap:=own_apart (List.nodup_cons.mp h.nd).2 hg
 refine⟨kp _ _ (fun q=>?_) ok.1,ok.2.1,kp _ _ (ap _ (List.mem_cons_self ..)) ok.2.2.1,kp.rws (fun v hv=>ap v (List.mem_cons_of_mem _ hv)) ok.2.2.2⟩
 obtain⟨_,ys,e⟩:=h.fresh q
 rw[ok.1] at e;cases e
theorem E2 {ev:Bool}{z:Str}{cs:List dO}{n:Nat}{p:Nat×List (List Str)} (h:p∈je ev z cs n):(∀ r∈p.2,r.length≤z.length)∧p.2.length≤z.length:=by
 obtain⟨i,_,h⟩:=List.mem_flatMap.mp h
 unfold mO at h
 split at h
 ·split at h
  ·cases h
  ·rw[List.mem_singleton.mp h];exact EW
 ·cases h
theorem Kp.keep {S:List V}{H H':Hp}{b:Addr}{o:HO} (h:Kp S H H') (hb:H b=some o) (hS:∀ a,V.ref a∈S→∃ ys,H a=some (.lst ys)) (ho:∀ ys,o≠.lst ys):H' b=some o :=
 h b o (fun q=>by obtain⟨ys,e⟩:=hS b q;rw[hb] at e;exact ho ys (Option.some.inj e)) hb
theorem Tks.size {A H:Hp}{l:Addr}{gs:List jd}{ev:Bool}{z:Str}{cs:List dO}{n:Nat} (h:Tks A H l gs (je ev z cs n)) {g:jd} (hg:g∈gs):(∀ r∈g.T,r.length≤z.length)∧g.T.length≤z.length :=
 E2 (p:=g.val) (by rw[←h.eq];exact List.mem_map.mpr ⟨g,hg,rfl⟩)
theorem jf {a b:String} (h:bf (Str.ofString a) (Str.ofString b)=false):Str.ofString a≠Str.ofString b:=fun e=>by rw[e,dm] at h;cases h
theorem DF {p q f:Str}{b1 b2 b3 b4:Bool}{w u k w' u':Str}{c:Nat} (h:bP p q f b1 b2 b3 b4 w u c=.go k w' u') :
  (k=Str.ofString "end"∧w'=Str.ofString "row"∧u'=Str.ofString "")∨(k≠Str.ofString "end"∧(w'=Str.ofString "row"→k=Str.ofString "skip"∧w=Str.ofString "row")):=by
 have n1:Str.ofString "skip"≠Str.ofString "end" := jf (by decide +kernel)
 have n2:Str.ofString "put"≠Str.ofString "end" := jf (by decide +kernel)
 have n3:Str.ofString "part"≠Str.ofString "end" := jf (by decide +kernel)
 have m1:Str.ofString "freed"≠Str.ofString "row" := jf (by decide +kernel)
 have m2:Str.ofString "within"≠Str.ofString "row" := jf (by decide +kernel)
 have m3:Str.ofString "cell"≠Str.ofString "row" := jf (by decide +kernel)
 have m4:Str.ofString "plain"≠Str.ofString "row" := jf (by decide +kernel)
 have m5:Str.ofString "behind"≠Str.ofString "row" := jf (by decide +kernel)
 have m6:Str.ofString "doubt"≠Str.ofString "row" := jf (by decide +kernel)
 have hB:dI p b3 c=.go k w' u'→(k=Str.ofString "end"∧w'=Str.ofString "row"∧u'=Str.ofString "")∨(k≠Str.ofString "end"∧(w'=Str.ofString "row"→k=Str.ofString "skip"∧w=Str.ofString "row")):=by
  intro h
  unfold dI at h
  repeat' split at h
  all_goals first
   | (cases h;done)
   | (cases h;exact .inl ⟨rfl,rfl,rfl⟩)
   | (cases h;exact .inr ⟨by assumption,fun z=>absurd z (by assumption)⟩)
   | (cases h;exact .inr ⟨by assumption,fun z=>⟨rfl,z⟩⟩)
 unfold bP at h
 split at h
 ·unfold fz at h
  repeat' split at h
  all_goals first
   | (cases h;done)
   | (cases h;exact .inl ⟨rfl,rfl,rfl⟩)
   | (cases h;exact .inr ⟨by assumption,fun z=>absurd z (by assumption)⟩)
   | (cases h;exact .inr ⟨by assumption,fun z=>⟨rfl,z⟩⟩)
 split at h
 ·unfold jc iN at h
  repeat' split at h
  all_goals first
   | (cases h;done)
   | (cases h;exact .inl ⟨rfl,rfl,rfl⟩)
   | (cases h;exact .inr ⟨by assumption,fun z=>absurd z (by assumption)⟩)
   | (cases h;exact .inr ⟨by assumption,fun z=>⟨rfl,z⟩⟩)
 split at h
 ·unfold nk at h
  split at h
  ·cases h;exact .inr ⟨n2,fun z=>absurd z m2⟩
  ·exact hB h
 split at h
 ·exact hB h
 unfold uU at h
 split at h
 ·unfold iu at h
  repeat' split at h
  all_goals first
   | (cases h;done)
   | (cases h;exact .inl ⟨rfl,rfl,rfl⟩)
   | (cases h;exact .inr ⟨by assumption,fun z=>absurd z (by assumption)⟩)
   | (cases h;exact .inr ⟨by assumption,fun z=>⟨rfl,z⟩⟩)
 ·unfold ig at h
  repeat' split at h
  all_goals first
   | (cases h;done)
   | (cases h;exact .inl ⟨rfl,rfl,rfl⟩)
   | (cases h;exact .inr ⟨by assumption,fun z=>absurd z (by assumption)⟩)
   | (cases h;exact .inr ⟨by assumption,fun z=>⟨rfl,z⟩⟩)
theorem yf {p q f:Str}{b1 b2 b3 b4:Bool}{ds:List Nat}:∀{cs:List Nat}{w u:Str},(runM p q f b1 b2 b3 b4 w u cs).2.2.2=none→runM p q f b1 b2 b3 b4 w u (cs++ds)=rT (runM p q f b1 b2 b3 b4 w u cs).1 (runM p q f b1 b2 b3 b4 (runM p q f b1 b2 b3 b4 w u cs).2.1 (runM p q f b1 b2 b3 b4 w u cs).2.2.1 ds)
 | [],w,u,_=>by
  show runM p q f b1 b2 b3 b4 w u ds=([]++(runM p q f b1 b2 b3 b4 w u ds).1,(runM p q f b1 b2 b3 b4 w u ds).2)
  rw[List.nil_append]
 | c :: cs,w,u,h=>by
  show runM p q f b1 b2 b3 b4 w u (c :: (cs++ds))=_
  cases hs:bP p q f b1 b2 b3 b4 w u c with
  | go k w' u' =>
   rw[gG hs] at h
   have e:=yf (cs:=cs) (w:=w') (u:=u') (ds:=ds) h
   rw[gG hs,gG hs,e]
   rfl
  | nL e=>rw[jz hs] at h;cases h
theorem sf {p q f:Str}{b1 b2 b3 b4:Bool}:∀{cs:List Nat}{w u:Str},(runM p q f b1 b2 b3 b4 w u cs).2.2.2=none→(runM p q f b1 b2 b3 b4 w u cs).1.length=cs.length
 | [],w,u,_=>rfl
 | c :: cs,w,u,h=>by
  cases hs:bP p q f b1 b2 b3 b4 w u c with
  | go k w' u' =>
   rw[gG hs] at h ⊢
   have:=sf (cs:=cs) (w:=w') (u:=u') h
   show(_ :: _).length=(_ :: _).length
   rw[List.length_cons,List.length_cons,this]
  | nL e=>rw[jz hs] at h;cases h
theorem yg:∀(g:xZ) (cs ds:List Nat) (ks ls:List Str),cs.length=ks.length→dP g (cs++ds) (ks++ls)=dP (dP g cs ks) ds ls
 | g,[],ds,[],ls,_=>rfl
 | g,c :: cs,ds,k :: ks,ls,h=>yg (pe g c k) cs ds ks ls (by simpa using h)
 | g,[],ds,k :: ks,ls,h=>by simp at h
 | g,c :: cs,ds,[],ls,h=>by simp at h
theorem BE (R:List (List Str)) (g:xZ) (c:Nat) (k:Str):pe ⟨R++g.rows,g.row,g.cell⟩ c k=⟨R++(pe g c k).rows,(pe g c k).row,(pe g c k).cell⟩:=by
 unfold pe
 repeat' split
 all_goals first | rfl | (simp[List.append_assoc];done)
theorem sj (R:List (List Str)):∀(g:xZ) (cs:List Nat) (ks:List Str),dP ⟨R++g.rows,g.row,g.cell⟩ cs ks=⟨R++(dP g cs ks).rows,(dP g cs ks).row,(dP g cs ks).cell⟩
 | g,[],ks=>by cases ks <;> rfl
 | g,c :: cs,[]=>rfl
 | g,c :: cs,k :: ks=>by
  show dP (pe ⟨R++g.rows,g.row,g.cell⟩ c k) cs ks=_
  rw[BE]
  exact sj R (pe g c k) cs ks
theorem E3 (g:xZ) (c:Nat):pe g c ("end":Str)=⟨g.rows++[g.row++[g.cell]],[],Str.ofString ""⟩:=by
 unfold pe
 rw[if_neg (ns (by decide +kernel)),if_neg (ns (by decide +kernel)),if_pos (dm _)]
theorem DG (g:xZ) (c:Nat):pe g c ("skip":Str)=g:=by
 unfold pe
 rw[if_neg (ns (by decide +kernel)),if_neg (ns (by decide +kernel)),if_neg (ns (by decide +kernel))]
theorem u5 {p q f:Str}{b1 b2 b3 b4:Bool}:∀{cs:List Nat}{w u:Str}{g:xZ},(w=Str.ofString "row"→g.row=[]∧g.cell=Str.ofString "")→(runM p q f b1 b2 b3 b4 w u cs).2.2.2=none→(runM p q f b1 b2 b3 b4 w u cs).2.1=Str.ofString "row"→(dP g cs (runM p q f b1 b2 b3 b4 w u cs).1).row=[]∧(dP g cs (runM p q f b1 b2 b3 b4 w u cs).1).cell=Str.ofString ""
 | [],w,u,g,hg,_,hr=>hg hr
 | c :: cs,w,u,g,hg,hn,hr=>by
  cases hs:bP p q f b1 b2 b3 b4 w u c with
  | go k w' u' =>
   rw[gG hs] at hn hr ⊢
   show(dP (pe g c k) cs _).row=[]∧(dP (pe g c k) cs _).cell=_
   refine u5 (cs:=cs) (w:=w') (u:=u') (fun hw=>?_) hn hr
   rcases DF hs with ⟨rfl,_,_⟩ | ⟨_,h2⟩
   ·rw[E3];exact⟨rfl,rfl⟩
   ·obtain⟨rfl,hw0⟩:=h2 hw
    rw[DG];exact hg hw0
  | nL e=>rw[jz hs] at hn;cases hn
theorem Il {w u:Str} (h:n5 w u=true):w=Str.ofString "row"∧u=Str.ofString "" := by
 unfold n5 i7 i7 i7 at h
 simp[qd] at h
 exact h
theorem vV {p q f:Str}{b1 b2 b3 b4:Bool}{w u:Str}{cs:List Nat} (h:dJ (runM p q f b1 b2 b3 b4 w u cs)=Str.ofString ""):(runM p q f b1 b2 b3 b4 w u cs).2.2.2=none∧(runM p q f b1 b2 b3 b4 w u cs).2.1=Str.ofString "row"∧(runM p q f b1 b2 b3 b4 w u cs).2.2.1=Str.ofString "" := by
 unfold dJ at h
 cases he:(runM p q f b1 b2 b3 b4 w u cs).2.2.2 with
 | some e=>rw[he] at h;exact absurd h (kL he).1
 | none =>
  rw[he] at h
  dsimp only at h
  split at h
  ·rename_i hh;exact⟨rfl,Il hh⟩
  ·exact absurd h (jf (by decide +kernel))
abbrev sq (p q f:Str) (b1 b2 b3 b4:Bool) (z:Str):=runM p q f b1 b2 b3 b4 ("row":Str) ("":Str) z.cps.toList
theorem zD {p q f:Str}{b1 b2 b3 b4:Bool}{y z:Str} (h:dJ (sq p q f b1 b2 b3 b4 y)=Str.ofString ""):sq p q f b1 b2 b3 b4 (y++z)=rT (sq p q f b1 b2 b3 b4 y).1 (sq p q f b1 b2 b3 b4 z):=by
 obtain⟨h1,h2,h3⟩:=vV h
 unfold sq at *
 rw[app_list,yf h1,h2,h3]
theorem E4 {g:xZ} (h1:g.row=[]) (h2:g.cell=Str.ofString ""):g=⟨g.rows++n6.rows,n6.row,n6.cell⟩:=by
 obtain⟨a,b,c⟩:=g
 cases h1
 cases h2
 show _=(⟨a++[],[],_⟩:xZ)
 rw[List.append_nil]
 rfl
theorem zE {p q f:Str}{b1 b2 b3 b4:Bool}{y z:Str}{ls:List Str} (h:dJ (sq p q f b1 b2 b3 b4 y)=Str.ofString ""):cZ (y++z) ((sq p q f b1 b2 b3 b4 y).1++ls)=cZ y (sq p q f b1 b2 b3 b4 y).1++cZ z ls:=by
 obtain⟨h1,h2,h3⟩:=vV h
 have hf:=sf h1
 obtain⟨c1,c2⟩:=u5 (g:=n6) (fun _=>⟨rfl,rfl⟩) h1 h2
 unfold cZ
 rw[app_list,yg _ _ _ _ _ hf.symm]
 have e2:dP (dP n6 y.cps.toList (sq p q f b1 b2 b3 b4 y).1) z.cps.toList ls=dP ⟨(dP n6 y.cps.toList (sq p q f b1 b2 b3 b4 y).1).rows++n6.rows,n6.row,n6.cell⟩ z.cps.toList ls:=by rw[←E4 c1 c2]
 rw[e2,sj]
theorem E5 (a b:Str):qd (.str a) (.str b)=bf a b:=by
 unfold bf
 by_cases h:a=b
 ·subst h;rw[ju rfl];simp
 ·simp[qd,h]
theorem yh:∀(g:xZ) (cs:List Nat) (ks:List Str),ks.length≤cs.length→(dP g cs ks).rows.length=g.rows.length+mC ks
 | g,cs,[],_=>by cases cs <;> rfl
 | g,[],k :: ks,h=>by simp at h
 | g,c :: cs,k :: ks,h=>by
  have ih:=yh (pe g c k) cs ks (by simpa using h)
  show(dP (pe g c k) cs ks).rows.length=_
  rw[ih]
  unfold mC
  rw[List.map_cons,List.countP_cons,E5]
  have e1:(pe g c k).rows.length=g.rows.length+(if bf k ("end":Str)=true then 1 else 0):=by
   unfold pe
   split
   ·rename_i hk;rw[jb hk,if_neg (ns (by decide +kernel))];rfl
   split
   ·rename_i hk;rw[jb hk,if_neg (ns (by decide +kernel))];rfl
   split
   ·rename_i hk;first | (rw[if_pos hk];simp;done) | (simp;done)
   ·rename_i hk;first | (rw[if_neg hk];rfl) | rfl
  rw[e1]
  omega
theorem vW {z:Str}{ks:List Str} (h:ks.length≤z.length):(cZ z ks).length=mC ks:=by
 unfold cZ
 rw[yh n6 _ ks (by rw[Array.length_toList];exact h)]
 exact Nat.zero_add _
theorem E6 (a b:List Str):mC (a++b)=mC a+mC b:=by
 unfold mC
 rw[List.map_append,List.countP_append]
theorem E7 {ks:List Str}{r:List Str×Str×Str×Option Str}:dJ (rT ks r)=dJ r:=rfl
theorem gi.weak {A H:Hp}{es:List V}{R:List (List Str)} (h:gi A H es R):gi (fun _=>none) H es R:=eF (fun _ _ ⟨a,e1,_,e3⟩=>⟨a,e1,rfl,e3⟩) h
def E8 (f:F4):List V:=[.int f.1,.int f.2.2.1,.str f.2.2.2]
theorem fR {z:Str}{cs:List dO}{n:Nat}{f:F4}:f∈dQ false z cs n↔f.2.1 < n∧∃ x,cs[f.2.1]? = some x∧bS (runC x z)=some (f.1,f.2.2.1,f.2.2.2):=by
 unfold dQ
 rw[List.mem_flatMap]
 constructor
 ·rintro⟨i,hi,h⟩
  have hi:=List.mem_range.mp hi
  unfold bZ at h
  cases hx:cs[i]? with
  | none=>rw[hx] at h;cases h
  | some x =>
   rw[hx] at h
   have h:f∈(match bS (runC x z) with | some (a,b,w)=>[(a,i,b,w)] | none=>[]):=h
   cases he:bS (runC x z) with
   | none=>rw[he] at h;cases h
   | some y =>
    obtain⟨a,b,w⟩:=y
    rw[he] at h
    have h:f∈[(a,i,b,w)]:=h
    rw[List.mem_singleton.mp h]
    exact⟨hi,x,hx,he⟩
 ·rintro⟨hi,x,hx,he⟩
  refine⟨f.2.1,List.mem_range.mpr hi,?_⟩
  unfold bZ
  rw[hx]
  show f∈(match bS (runC x z) with | some (a,b,w)=>[(a,f.2.1,b,w)] | none=>[])
  rw[he]
  exact List.mem_singleton.mpr rfl
theorem DH {z:Str}{x:dO}:EU false [z] x=(bS (runC x z)).isNone:=by
 have he:(bS (runC x z)).isNone=bf (dJ (runC x z)) ("":Str):=by
  unfold bS
  cases q:bf (dJ (runC x z)) ("":Str) with
  | true=>rw[if_pos rfl];rfl
  | false=>rw[if_neg (by decide)];rfl
 rw[he]
 unfold EU uV
 simp
def cI (i:Nat):Int:=(i:Int)
def BF (f:F4):Int:=cI f.2.1
theorem yi {z:Str}{cs:List dO}:∀ n,n≤cs.length→(dQ false z cs n).map BF=((List.range n).filter (fun i=>!kM false [z] cs i)).map cI
 | 0,_=>rfl
 | n+1,h=>by
  rw[iw,List.map_append,List.range_succ,List.filter_append,List.map_append,yi n (by omega)]
  congr 1
  obtain⟨x,hx⟩:∃ x,cs[n]? = some x:=⟨_,List.getElem?_eq_getElem (by omega)⟩
  have et:kM false [z] cs n=(bS (runC x z)).isNone:=by unfold kM;rw[hx];exact DH
  have ef:bZ false z cs n=(match bS (runC x z) with | some (a,b,w)=>[(a,n,b,w)] | none=>[]):=by unfold bZ;rw[hx];rfl
  rw[ef,List.filter_cons,List.filter_nil,et]
  cases bS (runC x z) with
  | none=>rfl
  | some y=>rfl
theorem zF {z:Str}{cs:List dO}:∀ n,n≤cs.length→(je false z cs n).map (·.1)=(List.range n).filter (kM false [z] cs)
 | 0,_=>rfl
 | n+1,h=>by
  rw[rY,List.map_append,List.range_succ,List.filter_append,zF n (by omega)]
  congr 1
  obtain⟨x,hx⟩:∃ x,cs[n]? = some x:=⟨_,List.getElem?_eq_getElem (by omega)⟩
  have et:kM false [z] cs n=(bS (runC x z)).isNone:=by unfold kM;rw[hx];exact DH
  rw[List.filter_cons,List.filter_nil,et]
  cases e:bS (runC x z) with
  | none=>rw[(rZ hx (show cA false (runC x z)=none from e)).1];rfl
  | some y=>obtain⟨a,b,w⟩:=y;rw[(r8 hx (show cA false (runC x z)=some (a,b,w) from e)).1];rfl
theorem DI {z:Str}{cs:List dO}{n:Nat}{p:Nat×List (List Str)} (h:p∈je false z cs n):∃ x,cs[p.1]? = some x∧bS (runC x z)=none∧p.2=cZ z (runC x z).1∧p.1 < n:=by
 unfold je at h
 obtain⟨i,hi,h⟩:=List.mem_flatMap.mp h
 have hi:=List.mem_range.mp hi
 cases hx:cs[i]? with
 | none=>unfold mO at h;rw[hx] at h;cases h
 | some x =>
  cases e:bS (runC x z) with
  | none=>rw[(rZ hx (show cA false (runC x z)=none from e)).1] at h;rw[List.mem_singleton.mp h];exact⟨x,hx,e,rfl,hi⟩
  | some y=>obtain⟨a,b,w⟩:=y;rw[(r8 hx (show cA false (runC x z)=some (a,b,w) from e)).1] at h;cases h
theorem sr (p:Nat→Bool):∀ l:List Nat,(l.filter p++l.filter (fun i=>!p i)).Perm l
 | []=>List.Perm.refl _
 | a :: l=>by
  rw[List.filter_cons,List.filter_cons]
  cases q:p a with
  | true=>exact(sr p l).cons a
  | false=>exact(List.perm_middle).trans ((sr p l).cons a)
theorem DJ {z:Str}{cs:List dO}{fs:List F4} (hp:fs.Perm (dQ false z cs cs.length)):(((List.range cs.length).filter (kM false [z] cs)).map cI++fs.map BF).Perm ((List.range cs.length).map cI):=by
 have h1:=hp.map BF
 rw[yi cs.length (Nat.le_refl _)] at h1
 refine((List.Perm.refl _).append h1).trans ?_
 rw[←List.map_append]
 exact(sr _ _).map _
theorem E9 {n:Nat}{ns:List Int} (h:ns.Perm ((List.range n).map cI)) (hs:ns.Pairwise (·≤·)):ns=(List.range n).map cI:=by
 refine List.Perm.eq_of_pairwise (le:=fun a b=>a≤b) (fun a b _ _ q1 q2=>by omega) hs ?_ h
 rw[List.pairwise_map]
 exact List.pairwise_lt_range.imp fun q=>by unfold cI;omega
theorem Im (n:Nat):tS 0 n=((List.range n).map cI).map V.int:=by
 unfold tS
 rw[List.map_map]
 exact List.map_congr_left fun k _=>by show V.int (0+(k:Int))=V.int (k:Int);rw[Int.zero_add]
theorem n8 (z:Str) (cs:List dO) (n:Nat):pN false [z] cs n=(((List.range n).filter (kM false [z] cs)).map cI).map V.int:=by
 unfold pN;rw[List.map_map];rfl
abbrev tV (H:Hp):List (Key×V)→List F4→Prop:=Paired fun kv f=>kv.1=.inl (f.2.1:Int)∧∃ t,kv.2=V.ref t∧H t=some (.tup (E8 f))
def XR (f:F4):V:=.int (f.1:Nat)
def XS (f:F4):V:=.int (f.2.1:Nat)
theorem Io {fs fm:List F4} (hp:fs.Perm fm) (hs:fs.Pairwise (fun x y=>kq x < kq y)) (hr:fm.Pairwise (fun x y=>x.2.1 < y.2.1)) (hb:∀ f∈fm,f.2.1 < 1000000) (hne:fs≠[]):∃ b,kP fs=some b∧b∈fs∧∀ f∈fs,f.1≤b.1∧(f.1=b.1→b.2.1≤f.2.1):=by
 have e:=BD hp hs hr hb
 cases fm with
 | nil=>exact absurd hp.eq_nil hne
 | cons g r =>
  obtain⟨b,e1,e2,e3⟩:=lP r g hr
  exact⟨b,e.trans e1,hp.mem_iff.mpr e2,fun f hf=>e3 f (hp.mem_iff.mp hf)⟩
theorem AJ {H:Hp}:∀{kvs:List (Key×V)}{fs:List F4},tV H kvs fs→(kvs.map fun e=>kV e.1)=(fs.map BF).map V.int
 | _,_,.nil=>rfl
 | kv :: kvs,f :: fs,.cons ⟨e,_⟩ r=>by rw[List.map_cons,List.map_cons,List.map_cons,AJ r,e];rfl
theorem tV.mono {H H':Hp} (s:aD H H') {kvs:List (Key×V)}{fs:List F4} (h:tV H kvs fs):tV H' kvs fs:=eF (fun _ _ ⟨e,t,e1,e2⟩=>⟨e,t,e1,s _ _ e2⟩) h
theorem tV.put {H:Hp}{a:Addr}{o o':HO} (ha:H a=some o) (hn:∀ xs,o≠.tup xs) {kvs:List (Key×V)}{fs:List F4} (h:tV H kvs fs):tV (upd H a o') kvs fs:=eF (fun _ _ ⟨e,t,e1,e2⟩=>⟨e,t,e1,(aC (fun q=>by rw[q,ha] at e2;exact hn _ (Option.some.inj e2))).trans e2⟩) h
theorem pO.dk {H:Hp}{a:Addr}{kvs:List (Key×V)}{o:HO} (ha:H a=some (.dK kvs)) {ps:List V}{fs:List F4} (h:pO H ps fs):pO (upd H a o) ps fs:=eF (fun _ _ ⟨t,e1,e2⟩=>⟨t,e1,(aC (fun q=>by rw[q,ha] at e2;cases e2)).trans e2⟩) h
theorem sy {H:Hp} (i:Nat):∀{kvs:List (Key×V)}{fs:List F4},tV H kvs fs→(∃ f∈fs,f.2.1=i∧∃ t,i9 kvs (.inl (i:Int))=some (.ref t)∧H t=some (.tup (E8 f)))∨((∀ f∈fs,f.2.1≠i)∧i9 kvs (.inl (i:Int))=none)
 | _,_,.nil=>.inr ⟨fun _ z=>(nomatch z),rfl⟩
 | kv :: kvs,f :: fs,.cons ⟨e,t,e1,e2⟩ r=>by
  by_cases q:f.2.1=i
  ·refine .inl ⟨f,List.mem_cons_self ..,q,t,?_,e2⟩
   rw[nW (by rw[e,q]),e1]
  ·have hn:¬kv.1=.inl (i:Int):=fun z=>q (by rw[e] at z;injection z with z;omega)
   rw[nX hn]
   rcases sy i r with ⟨f',h1,h2⟩ | ⟨h1,h2⟩
   ·exact .inl ⟨f',List.mem_cons_of_mem _ h1,h2⟩
   ·refine .inr ⟨fun f' hf=>?_,h2⟩
    rcases List.mem_cons.mp hf with rfl | hf
    ·exact q
    ·exact h1 f' hf
theorem zG {H:Hp}{kvs:List (Key×V)}{fs:List F4} (h:tV H kvs fs) {i:Nat} (hn:∀ f∈fs,f.2.1≠i):i9 kvs (.inl (i:Int))=none:=by
 rcases sy i h with ⟨f,h1,h2,_⟩ | ⟨_,h2⟩
 ·exact absurd h2 (hn f h1)
 ·exact h2
theorem AK {fs:List F4} (h:(fs.map BF).Nodup) {i:Nat}{f:F4} (hi:fs[i]? = some f):∀ g∈fs.take i,g.2.1≠f.2.1:=fun g hg e=>by
 obtain⟨j,hj⟩:=List.getElem?_of_mem hg
 have hjl:j < (fs.take i).length:=(List.getElem?_eq_some_iff.mp hj).1
 rw[List.length_take] at hjl
 rw[List.getElem?_take_of_lt (by omega)] at hj
 obtain⟨hi1,hi2⟩:=List.getElem?_eq_some_iff.mp hi
 obtain⟨hj1,hj2⟩:=List.getElem?_eq_some_iff.mp hj
 have:=(List.pairwise_iff_getElem.mp h) j i (by rw[List.length_map];exact hj1) (by rw[List.length_map];exact hi1) (by omega)
 rw[List.getElem_map,List.getElem_map,hj2,hi2] at this
 exact this (by unfold BF;rw[e])
theorem yj:∀(ks:List Str) (fi ro ce vS:Nat),Dr fi ro ce ks=(yO fi ro ce vS ks).isNone
 | [],_,_,_,_=>rfl
 | k :: ks,fi,ro,ce,vS=>by
  rw[Ds,yb]
  by_cases h1:bf k ("part":Str)=true
  ·rw[if_pos h1,if_pos h1];exact yj ks _ _ _ _
  rw[if_neg h1,if_neg h1]
  by_cases h2:bf k ("end":Str)=true
  ·rw[if_pos h2,if_pos h2]
   by_cases h3:ro=0
   ·rw[if_pos h3,if_pos h3];exact yj ks _ _ _ _
   ·rw[if_neg h3,if_neg h3]
    by_cases h4:ce=fi
    ·rw[if_pos h4,if_pos h4];exact yj ks _ _ _ _
    ·rw[if_neg h4,if_neg h4];rfl
  ·rw[if_neg h2,if_neg h2];exact yj ks _ _ _ _
theorem Fb (ev:Bool) (r:List Str×Str×Str×Option Str):uV ev r=(cA ev r).isNone:=by
 have he:(bS r).isNone=bf (dJ r) ("":Str):=by
  unfold bS
  cases q:bf (dJ r) ("":Str) with
  | true=>rw[if_pos rfl];rfl
  | false=>rw[if_neg (by decide)];rfl
 unfold uV cA
 cases ev with
 | false=>rw[if_neg (by decide)];show _=(bS r).isNone;rw[he];simp
 | true =>
  rw[if_pos rfl,yj r.1 0 0 1 0]
  cases q:yO 0 0 1 0 r.1 with
  | none=>show _=(bS r).isNone;rw[he];simp
  | some ab=>simp
theorem BG {K:W.Frag}{tc:TE}{g:TG}{tb:TS}{D:Ends}{σ:St}{H:Hp} (N:Addr→Hp→Prop) (h2:∀ E H',N E H'→G0 (Ab K (fun _ H Q=>Q (.ref E) H)) g tb D σ H') (h1:∀ Q:VK,(∀ E H',N E H'→Q (.ref E) H')→tc σ H Q):G0 (Ab K tc) g tb D σ H:=h1 _ (fun E H' n=>h2 E H' n)
theorem Fc {z:Str}{cs:List dO}{fs:List F4} (h0:0 < cs.length) (ht:je false z cs cs.length=[]) (hp:fs.Perm (dQ false z cs cs.length)):fs≠[]:=fun q=>by
 have Fd:=zF (z:=z) (cs:=cs) cs.length (Nat.le_refl _)
 rw[ht] at Fd
 have ap:=(DJ hp).length_eq
 rw[←Fd,q] at ap
 rw[List.length_map,List.length_range] at ap
 have:0=cs.length:=ap
 omega
theorem qj {α β:Type}{R:α→β→Prop}:∀{xs:List α}{ys:List β},Paired R xs ys→∀(i:Nat) y,ys[i]? = some y→∃ x,xs[i]? = some x∧R x y
 | _,_,.nil,i,x,h=>by simp at h
 | _,_,.cons a r,0,x,h=>by cases h;exact⟨_,rfl,a⟩
 | _,_,.cons a r,i+1,x,h=>qj r i x h
theorem u6 {p q f:Str}{b1 b2 b3 b4:Bool}{ds:List Nat}{e:Str}:∀{cs:List Nat}{w u:Str},(runM p q f b1 b2 b3 b4 w u cs).2.2.2=some e→runM p q f b1 b2 b3 b4 w u (cs++ds)=runM p q f b1 b2 b3 b4 w u cs
 | [],w,u,h=>by cases h
 | c :: cs,w,u,h=>by
  show runM p q f b1 b2 b3 b4 w u (c :: (cs++ds))=_
  cases hs:bP p q f b1 b2 b3 b4 w u c with
  | go k w' u' =>
   rw[gG hs] at h
   have e:=u6 (cs:=cs) (w:=w') (u:=u') (ds:=ds) h
   rw[gG hs,gG hs,e]
  | nL e=>rw[jz hs,jz hs]
theorem BH {x:dO}{y z:Str}{a b:Nat}{w:Str} (h:bS (runC x y)=some (a,b,w)) (hw:¬bf w ("cut":Str)=true):bS (runC x (y++z))=some (a,b,w):=by
 have ho:∃ e,(runC x y).2.2.2=some e:=by
  cases q:(runC x y).2.2.2 with
  | some e=>exact⟨e,rfl⟩
  | none =>
   exfalso
   unfold bS at h
   split at h
   ·cases h
   ·rename_i hn
    injection h with h
    injection h with _ h
    injection h with _ h
    apply hw
    rw[←h]
    unfold dJ at hn ⊢
    rw[q] at hn ⊢
    dsimp only at hn ⊢
    split
    ·rename_i hr;rw[if_pos hr] at hn;exact absurd (dm _) hn
    ·exact dm _
 obtain⟨e,he⟩:=ho
 have:runC x (y++z)=runC x y:=by
  unfold runC at he ⊢
  rw[app_list]
  exact u6 he
 rw[this];exact h
theorem sC {x:dO}{y:Str} (h:bS (runC x y)=none):dJ (runC x y)=Str.ofString "" := by
 unfold bS at h
 by_cases q:bf (dJ (runC x y)) ("":Str)=true
 ·exact jb q
 ·rw[if_neg q] at h;cases h
theorem yk {x:dO}{y z:Str} (h:bS (runC x y)=none):runC x (y++z)=rT (runC x y).1 (runC x z):=zD (sC h)
theorem zH {x:dO}{y:Str} (h:bS (runC x y)=none):(runC x y).1.length=y.length:=by
 have:=sf (vV (show dJ (sq x.1 x.2.1 x.2.2.1 x.2.2.2.a x.2.2.2.b x.2.2.2.c x.2.2.2.d y)=_ from sC h)).1
 rw[show y.cps.toList.length=y.length from Array.length_toList] at this
 exact this
theorem AL {x:dO}{y z:Str} (h:bS (runC x y)=none):bS (runC x (y++z))=(bS (runC x z)).map (fun t=>(y.length+t.1,(cZ y (runC x y).1).length+t.2.1,t.2.2)):=by
 have hl:=zH h
 have hc:=vW (z:=y) (ks:=(runC x y).1) (by omega)
 rw[yk h,hc,←hl]
 unfold bS
 rw[E7]
 split
 ·rfl
 ·show some (((runC x y).1++(runC x z).1).length,mC ((runC x y).1++(runC x z).1),_)=some _
  rw[List.length_append,E6]
theorem Fe {x:dO}{y z:Str} (h:bS (runC x y)=none):cZ (y++z) (runC x (y++z)).1=cZ y (runC x y).1++cZ z (runC x z).1:=by
 rw[yk h]
 exact zE (sC h)
theorem j6:aH ["sign", "number"] ["sign"] (au cu):=⟨rfl,rfl,rfl,by decide +kernel,rfl,by decide +kernel,by decide +kernel⟩
theorem ny:aH ["text"] ["text"] (au bK):=⟨rfl,rfl,rfl,by decide +kernel,rfl,by decide +kernel,by decide +kernel⟩
theorem zI:aH ["thing"] ["thing"] (au jx):=⟨rfl,rfl,rfl,by decide +kernel,rfl,by decide +kernel,by decide +kernel⟩
theorem mD:aH ["thing", "least", "most"] ["thing", "least", "most"] (au bE):=⟨rfl,rfl,rfl,by decide +kernel,rfl,by decide +kernel,by decide +kernel⟩
theorem gB:aH ["self", "parts", "quotes", "frees", "twin", "wide", "thin", "stray", "truth"] ["self", "parts", "quotes", "frees", "twin", "wide", "thin", "stray"] (au aT):=⟨rfl,rfl,rfl,by decide +kernel,rfl,by decide +kernel,by decide +kernel⟩
theorem qB:aH ["self"] ["self"] (au dh):=⟨rfl,rfl,rfl,by decide +kernel,rfl,by decide +kernel,by decide +kernel⟩
theorem tW:aH ["told"] ["told"] (au fc):=⟨rfl,rfl,rfl,by decide +kernel,rfl,by decide +kernel,by decide +kernel⟩
theorem kQ:aH ["dialect", "state", "sign"] ["dialect", "state", "sign"] (au bN):=⟨rfl,rfl,rfl,by decide +kernel,rfl,by decide +kernel,by decide +kernel⟩
theorem pP:aH ["dialect", "sign"] ["dialect", "sign"] (au cO):=⟨rfl,rfl,rfl,by decide +kernel,rfl,by decide +kernel,by decide +kernel⟩
theorem sD:aH ["dialect", "quote", "sign"] ["dialect", "quote", "sign"] (au dU):=⟨rfl,rfl,rfl,by decide +kernel,rfl,by decide +kernel,by decide +kernel⟩
theorem sE:aH ["dialect", "sign"] ["dialect", "sign"] (au dW):=⟨rfl,rfl,rfl,by decide +kernel,rfl,by decide +kernel,by decide +kernel⟩
theorem pQ:aH ["dialect", "quote", "sign"] ["dialect", "quote", "sign"] (au cP):=⟨rfl,rfl,rfl,by decide +kernel,rfl,by decide +kernel,by decide +kernel⟩
theorem tX:aH ["dialect", "quote", "sign"] ["dialect", "quote", "sign"] (au ff):=⟨rfl,rfl,rfl,by decide +kernel,rfl,by decide +kernel,by decide +kernel⟩
theorem pR:aH ["self", "dialect"] ["self", "dialect"] (au cQ):=⟨rfl,rfl,rfl,by decide +kernel,rfl,by decide +kernel,by decide +kernel⟩
theorem jS:aH ["self", "state", "sign", "word", "quote"] ["self", "state", "sign"] (au fZ):=⟨rfl,rfl,rfl,by decide +kernel,rfl,by decide +kernel,by decide +kernel⟩
theorem tY:aH ["thing"] ["thing"] (au fh):=⟨rfl,rfl,rfl,by decide +kernel,rfl,by decide +kernel,by decide +kernel⟩
theorem jT:aH ["dialect", "text", "turn", "kinds", "state", "sign", "step"] ["dialect", "text"] (au rP):=⟨rfl,rfl,rfl,by decide +kernel,rfl,by decide +kernel,by decide +kernel⟩
theorem pS:aH ["walked", "kinds", "word"] ["walked"] (au kI):=⟨rfl,rfl,rfl,by decide +kernel,rfl,by decide +kernel,by decide +kernel⟩
theorem bQ:aH ["text", "kinds", "table", "row", "cell", "sign", "kind"] ["text", "kinds"] (au ia):=⟨rfl,rfl,rfl,by decide +kernel,rfl,by decide +kernel,by decide +kernel⟩
theorem vX:aH ["dialect", "text", "walked", "far"] ["dialect", "text"] (au rQ):=⟨rfl,rfl,rfl,by decide +kernel,rfl,by decide +kernel,by decide +kernel⟩
theorem yl:aH ["dialect", "text"] ["dialect", "text"] (au ic):=⟨rfl,rfl,rfl,by decide +kernel,rfl,by decide +kernel,by decide +kernel⟩
theorem bq:aH ["kinds", "first", "row", "cells", "at", "kind"] ["kinds"] (au fj):=⟨rfl,rfl,rfl,by decide +kernel,rfl,by decide +kernel,by decide +kernel⟩
theorem sH:aH ["walked", "even", "uneven"] ["walked", "even"] (au jy):=⟨rfl,rfl,rfl,by decide +kernel,rfl,by decide +kernel,by decide +kernel⟩
theorem jA:aH ["dialects", "text", "even", "falls", "place", "dialect", "fall"] ["dialects", "text", "even"] (au di):=⟨rfl,rfl,rfl,by decide +kernel,rfl,by decide +kernel,by decide +kernel⟩
theorem jB:aH ["dialects", "text", "even", "found", "place", "dialect", "walked"] ["dialects", "text", "even"] (au kJ):=⟨rfl,rfl,rfl,by decide +kernel,rfl,by decide +kernel,by decide +kernel⟩
theorem sI:aH ["falls", "farthest"] ["falls"] (au gY):=⟨rfl,rfl,rfl,by decide +kernel,rfl,by decide +kernel,by decide +kernel⟩
theorem sL:aH ["dialects", "text", "even", "found"] ["dialects", "text", "even"] (au cy):=⟨rfl,rfl,rfl,by decide +kernel,rfl,by decide +kernel,by decide +kernel⟩
theorem oh:aH ["dialect", "texts", "even", "text"] ["dialect", "texts", "even"] (au f6):=⟨rfl,rfl,rfl,by decide +kernel,rfl,by decide +kernel,by decide +kernel⟩
theorem om:aH ["dialects", "texts", "even", "text"] ["dialects", "texts", "even"] (au bA):=⟨rfl,rfl,rfl,by decide +kernel,rfl,by decide +kernel,by decide +kernel⟩
theorem qC:aH ["_law_script", "_law_k"] ["_law_script", "_law_k"] (au dj):=⟨rfl,rfl,rfl,by decide +kernel,rfl,by decide +kernel,by decide +kernel⟩
theorem jg:aH ["_law_number_here", "_law_salt", "_law_one", "_law_two"] ["_law_number_here", "_law_salt"] (au fk):=⟨rfl,rfl,rfl,by decide +kernel,rfl,by decide +kernel,by decide +kernel⟩
theorem iy:aH ["_law_cell", "_law_salt", "_law_number_here", "_law_high"] ["_law_cell", "_law_salt"] (au dX):=⟨rfl,rfl,rfl,by decide +kernel,rfl,by decide +kernel,by decide +kernel⟩
theorem dM:aH ["_law_number_here", "_law_many", "_law_menu_here", "_law_found", "_law_k", "_law_sign"] ["_law_number_here", "_law_many", "_law_menu_here"] (au f7):=⟨rfl,rfl,rfl,by decide +kernel,rfl,by decide +kernel,by decide +kernel⟩
theorem mP:aH ["_law_way", "_law_every"] ["_law_way"] (au fq):=⟨rfl,rfl,rfl,by decide +kernel,rfl,by decide +kernel,by decide +kernel⟩
theorem aY:aH ["_law_cell", "_law_number_here", "_law_flags", "_law_sizes", "_law_menus_here", "_law_parts", "_law_quotes", "_law_frees", "_law_truths"] ["_law_cell"] (au f9):=⟨rfl,rfl,rfl,by decide +kernel,rfl,by decide +kernel,by decide +kernel⟩
theorem cU:aH ["_law_cell", "_law_many", "_law_number_here", "_law_found", "_law_k"] ["_law_cell", "_law_many"] (au dH):=⟨rfl,rfl,rfl,by decide +kernel,rfl,by decide +kernel,by decide +kernel⟩
theorem jU:aH ["_law_told_here", "_law_x", "_law_way", "_law_some_here"] ["_law_told_here", "_law_x"] (au gb):=⟨rfl,rfl,rfl,by decide +kernel,rfl,by decide +kernel,by decide +kernel⟩
theorem dZ:aH ["_law_cells", "_law_many", "_law_tolds_here", "_law_k", "_law_cell", "_law_xs"] ["_law_cells", "_law_many"] (au fu):=⟨rfl,rfl,rfl,by decide +kernel,rfl,by decide +kernel,by decide +kernel⟩
theorem fB:aH ["_law_tolds_here", "_law_menu_here", "_law_told_here", "_law_sign"] ["_law_tolds_here"] (au gc):=⟨rfl,rfl,rfl,by decide +kernel,rfl,by decide +kernel,by decide +kernel⟩
theorem fD:aH ["_law_cell", "_law_tolds_here", "_law_most", "_law_xs", "_law_menu_here", "_law_text_here"] ["_law_cell", "_law_tolds_here", "_law_most"] (au eV):=⟨rfl,rfl,rfl,by decide +kernel,rfl,by decide +kernel,by decide +kernel⟩
theorem aO:aH ["_law_dialects", "_law_text_here", "_law_falls", "_law_at", "_law_place", "_law_row", "_law_word", "_law_taken", "_law_told_here"] ["_law_dialects", "_law_text_here"] (au aW):=⟨rfl,rfl,rfl,by decide +kernel,rfl,by decide +kernel,by decide +kernel⟩
theorem aJ:aH ["_law_dialects", "_law_one", "_law_other", "_law_both", "_law_ahead", "_law_at", "_law_place", "_law_row", "_law_word", "_law_behind", "_law_table"] ["_law_dialects", "_law_one", "_law_other"] (au cz):=⟨rfl,rfl,rfl,by decide +kernel,rfl,by decide +kernel,by decide +kernel⟩
theorem nA:aH ["_law_script", "_law_tolds_here", "_law_dialects", "_law_cell", "_law_one", "_law_other", "_law_text_here"] ["_law_script"] (au nZ):=⟨rfl,rfl,rfl,by decide +kernel,rfl,by decide +kernel,by decide +kernel⟩
structure Txt (K:W.Frag) (mg:Str→Option Value) (az:Nat→Addr) (aN:Nat→FuncData) (u7:Nat→Str):Prop where
 iz:gw K "is_printable" "is_printable" cu (az 0) (aN 0)
 kR:Binds K (aN 0) ["sign"] []
 kT:mg "is_printable" = some (.ref (az 0))
 iQ:gw K "has_signs_alone" "has_signs_alone" bK (az 1) (aN 1)
 oq:Binds K (aN 1) ["text"] []
 ou:mg "has_signs_alone" = some (.ref (az 1))
 u9:gw K "is_text" "is_text" jx (az 2) (aN 2)
 BI:Binds K (aN 2) ["thing"] []
 BJ:mg "is_text" = some (.ref (az 2))
 cL:gw K "are_unlike_signs" "are_unlike_signs" bE (az 3) (aN 3)
 eL:Binds K (aN 3) ["thing", "least", "most"] []
 eN:mg "are_unlike_signs" = some (.ref (az 3))
 nB:zh K "__init__" "Dialect.__init__" aT (az 4) (aN 4) (.ref (az 46))
 nC:Binds K (aN 4) ["self", "parts", "quotes", "frees", "twin", "wide", "thin", "stray"] []
 sM:gw K "told" "Dialect.told" dh (az 5) (aN 5)
 sN:Binds K (aN 5) ["self"] []
 sO:Meth K (az 43) "told" (az 5)
 jV:gw K "dialect_of" "dialect_of" fc (az 6) (aN 6)
 ow:Binds K (aN 6) ["told"] []
 oz:mg "dialect_of" = some (.ref (az 6))
 gC:gw K "step_at_beginning" "step_at_beginning" bN (az 7) (aN 7)
 mE:Binds K (aN 7) ["dialect", "state", "sign"] []
 mF:mg "step_at_beginning" = some (.ref (az 7))
 j7:gw K "step_in_plain" "step_in_plain" cO (az 8) (aN 8)
 qD:Binds K (aN 8) ["dialect", "sign"] []
 qE:mg "step_in_plain" = some (.ref (az 8))
 mQ:gw K "step_within" "step_within" dU (az 9) (aN 9)
 tZ:Binds K (aN 9) ["dialect", "quote", "sign"] []
 t9:mg "step_within" = some (.ref (az 9))
 jh:gw K "step_behind" "step_behind" dW (az 10) (aN 10)
 mR:Binds K (aN 10) ["dialect", "sign"] []
 mS:mg "step_behind" = some (.ref (az 10))
 j8:gw K "step_in_doubt" "step_in_doubt" cP (az 11) (aN 11)
 qF:Binds K (aN 11) ["dialect", "quote", "sign"] []
 qG:mg "step_in_doubt" = some (.ref (az 11))
 oA:gw K "step_freed" "step_freed" ff (az 12) (aN 12)
 vY:Binds K (aN 12) ["dialect", "quote", "sign"] []
 vZ:mg "step_freed" = some (.ref (az 12))
 qH:gw K "__init__" "Turn.__init__" cQ (az 13) (aN 13)
 qI:Binds K (aN 13) ["self", "dialect"] []
 ym:gw K "step" "Turn.step" fZ (az 14) (aN 14)
 yo:Binds K (aN 14) ["self", "state", "sign"] []
 yp:Meth K (az 44) "step" (az 14)
 fE:gw K "check_text" "check_text" fh (az 15) (aN 15)
 gH:Binds K (aN 15) ["thing"] []
 gI:mg "check_text" = some (.ref (az 15))
 pT:gw K "walk" "walk" rP (az 16) (aN 16)
 sP:Binds K (aN 16) ["dialect", "text"] []
 sQ:mg "walk" = some (.ref (az 16))
 oB:gw K "end_of" "end_of" kI (az 17) (aN 17)
 sR:Binds K (aN 17) ["walked"] []
 sS:mg "end_of" = some (.ref (az 17))
 nE:gw K "table_of" "table_of" ia (az 18) (aN 18)
 sU:Binds K (aN 18) ["text", "kinds"] []
 sV:mg "table_of" = some (.ref (az 18))
 v9:gw K "read" "read" rQ (az 19) (aN 19)
 zJ:Binds K (aN 19) ["dialect", "text"] []
 zK:mg "read" = some (.ref (az 19))
 sW:gw K "furthest" "furthest" ic (az 20) (aN 20)
 zL:Binds K (aN 20) ["dialect", "text"] []
 zM:mg "furthest" = some (.ref (az 20))
 oE:gw K "uneven_row" "uneven_row" fj (az 21) (aN 21)
 wc:Binds K (aN 21) ["kinds"] []
 wg:mg "uneven_row" = some (.ref (az 21))
 lQ:gw K "fall_of" "fall_of" jy (az 22) (aN 22)
 pU:Binds K (aN 22) ["walked", "even"] []
 pV:mg "fall_of" = some (.ref (az 22))
 jC:zh K "fallen" "fallen" di (az 23) (aN 23) (.ref (az 47))
 DK:Binds K (aN 23) ["dialects", "text", "even"] []
 kU:mg "fallen" = some (.ref (az 23))
 yq:gw K "takers" "takers" kJ (az 24) (aN 24)
 DL:Binds K (aN 24) ["dialects", "text", "even"] []
 DM:mg "takers" = some (.ref (az 24))
 vd:gw K "last_of" "last_of" gY (az 25) (aN 25)
 BK:Binds K (aN 25) ["falls"] []
 BL:mg "last_of" = some (.ref (az 25))
 lR:zh K "finding" "finding" cy (az 26) (aN 26) (.ref (az 48))
 Kd:Binds K (aN 26) ["dialects", "text", "even"] []
 pW:mg "finding" = some (.ref (az 26))
 qk:gw K "takes_all" "takes_all" f6 (az 27) (aN 27)
 yr:Binds K (aN 27) ["dialect", "texts", "even"] []
 yt:mg "takes_all" = some (.ref (az 27))
 ql:zh K "found_all" "found_all" bA (az 28) (aN 28) (.ref (az 49))
 GF:Binds K (aN 28) ["dialects", "texts", "even"] []
 yu:mg "found_all" = some (.ref (az 28))
 iA:gw K "_law_cell_at" "_law_cell_at" dj (az 29) (aN 29)
 kW:Binds K (aN 29) ["_law_script", "_law_k"] []
 kX:mg "_law_cell_at" = some (.ref (az 29))
 fF:gw K "_law_mixed" "_law_mixed" fk (az 30) (aN 30)
 gJ:Binds K (aN 30) ["_law_number_here", "_law_salt"] []
 gK:mg "_law_mixed" = some (.ref (az 30))
 mT:gw K "_law_number" "_law_number" dX (az 31) (aN 31)
 ua:Binds K (aN 31) ["_law_cell", "_law_salt"] []
 uc:mg "_law_number" = some (.ref (az 31))
 iR:gw K "_law_some" "_law_some" f7 (az 32) (aN 32)
 kY:Binds K (aN 32) ["_law_number_here", "_law_many", "_law_menu_here"] []
 kZ:mg "_law_some" = some (.ref (az 32))
 oF:gw K "_law_menus" "_law_menus" fq (az 33) (aN 33)
 wj:Binds K (aN 33) ["_law_way"] []
 wk:mg "_law_menus" = some (.ref (az 33))
 qm:gw K "_law_told" "_law_told" f9 (az 34) (aN 34)
 yw:Binds K (aN 34) ["_law_cell"] []
 yx:mg "_law_told" = some (.ref (az 34))
 jW:gw K "_law_drawn" "_law_drawn" dH (az 35) (aN 35)
 oG:Binds K (aN 35) ["_law_cell", "_law_many"] []
 oH:mg "_law_drawn" = some (.ref (az 35))
 qo:gw K "_law_near" "_law_near" gb (az 36) (aN 36)
 yy:Binds K (aN 36) ["_law_told_here", "_law_x"] []
 yz:mg "_law_near" = some (.ref (az 36))
 oJ:gw K "_law_tolds" "_law_tolds" fu (az 37) (aN 37)
 wm:Binds K (aN 37) ["_law_cells", "_law_many"] []
 wo:mg "_law_tolds" = some (.ref (az 37))
 qp:gw K "_law_menu" "_law_menu" gc (az 38) (aN 38)
 yC:Binds K (aN 38) ["_law_tolds_here"] []
 yD:mg "_law_menu" = some (.ref (az 38))
 lg:gw K "_law_text" "_law_text" eV (az 39) (aN 39)
 qq:Binds K (aN 39) ["_law_cell", "_law_tolds_here", "_law_most"] []
 qt:mg "_law_text" = some (.ref (az 39))
 iS:gw K "_law_is_reading" "_law_is_reading" aW (az 40) (aN 40)
 oK:Binds K (aN 40) ["_law_dialects", "_law_text_here"] []
 oM:mg "_law_is_reading" = some (.ref (az 40))
 lu:gw K "_law_goes_on" "_law_goes_on" cz (az 41) (aN 41)
 sX:Binds K (aN 41) ["_law_dialects", "_law_one", "_law_other"] []
 sY:mg "_law_goes_on" = some (.ref (az 41))
 LC:gw K "law" "law" nZ (az 42) (aN 42)
 Vb:Binds K (aN 42) ["_law_script"] []
 Vc:mg "law" = some (.ref (az 42))
 aI:BW K (az 43)
 BN:mg "Dialect" = some (.ref (az 43))
 BO:Mk K (az 43) (az 4)
 bL:e7 K (az 43) "parts"
 bR:e7 K (az 43) "quotes"
 bM:e7 K (az 43) "frees"
 dw:e7 K (az 43) "twin"
 cB:e7 K (az 43) "wide"
 cC:e7 K (az 43) "thin"
 cR:e7 K (az 43) "stray"
 iT:BW K (az 44)
 Ip:mg "Turn" = some (.ref (az 44))
 Iq:Mk K (az 44) (az 13)
 bu:e7 K (az 44) "dialect"
 cE:∃ ds,Vals [V.bl false] ds∧Binds K (aN 23) ["dialects", "text", "even"] ds
 ly:∃ ds,Vals [V.bl false] ds∧Binds K (aN 28) ["dialects", "texts", "even"] ds
 dN:∃ ds,Vals [V.bl false] ds∧Binds K (aN 26) ["dialects", "text", "even"] ds
 DN:mg "all" = none
 Ff:mg "bool" = none
 gM:mg "enumerate" = none
 fT:mg "isinstance" = none
 eO:mg "len" = none
 wu:mg "list" = none
 DO:mg "max" = none
 Ir:mg "min" = none
 Iu:mg "ord" = none
 jD:mg "range" = none
 ve:mg "sorted" = none
 DP:mg "str" = none
 yE:mg "tuple" = none
 Iv:mg "zip" = none
 lS:∃ t,mg "LINE" = some (.str (u7 0) t)
 lT:(u7 0)=Str.ofString "\n"
 ud:∃ t,mg "MOST_SIGNS" = some (.int 2000 t)
 lA:mg "START" = some (.ref (az 45))
 lB:∃(o:Obj) (its:Array Value) (n:Nat),K.lookup (az 45)=some o∧o.cls=.type "tuple"∧o.data=.seq its n∧its.size≤sizeLine∧Vals [.str ("row":Str),.str ("":Str)] its.toList
section
variable {P:Program}{w:World}{K:W.Frag}{mg:Str→Option Value}{base:Heap}{az:Nat→Addr}{aN:Nat→FuncData}{u7:Nat→Str}
def gn:Sp:=fun vs H Q _=>∃ c:Nat,vs=[.str (sg c)]∧Pn c∧Q (.bl true) H
section
variable (T:Txt K mg az aN u7)
include T
theorem j9:aE P w K mg base bz 1 (az 0) (aN 0) ["sign"] gn:=by
 refine T.iz.ok j6 (fun vs H Q E h=>?_) (fun cdv A outer s H vs Q E hr h=>?_)
 ·obtain⟨c,rfl,_⟩:=h;rfl
 ·have hu:=aX hr
  have gA:=hr.aQ
  obtain⟨c,rfl,⟨h1,h2,h3⟩,k⟩:=h
  refine⟨_,(ah (cY 1 j6.nd (pJ Cn T.Iu (af (pv 0) ai)))
   (ao (ay (yR (Df Gq (pv 1) ak) (yR (Df KS (pv 1) ak) (yQ (Df xo (pv 1) ak))))))),?_⟩
  refine⟨_,rfl,_,rfl,rfl,?_⟩
  refine⟨_,rfl,_,_,rfl,rfl,_,rfl,Ly (by show(32:Int)≤((c:Nat):Int);omega) ?_⟩
  refine⟨_,rfl,_,_,rfl,rfl,_,rfl,Ly (by show((c:Nat):Int)≤126;omega) ?_⟩
  refine⟨_,rfl,rfl,?_⟩
  have e:¬(V.int ((c:Nat):Int)=V.int 37):=fun z=>h3 (by injection z with z;omega)
  have e2:(!decide (V.int ((c:Nat):Int)=V.int 37))=true:=by rw[decide_eq_false e];rfl
  show Q (.bl (!decide (V.int ((c:Nat):Int)=V.int 37))) H
  rw[e2]
  exact k
def iB:Sp:=fun vs H Q _=>∃ z:Str,vs=[.str z]∧bF z∧z.length≤2000∧∀ H',aD H H'→Q (.bl true) H'
theorem nF:aE P w K mg base bz 2 (az 1) (aN 1) ["text"] iB:=by
 have iC:aE P w K mg base bz 1 (az 0) (aN 0) ["sign"] gn:=j9 T
 refine T.iQ.ok ny (fun vs H Q E h=>?_) (fun cdv A outer s H vs Q E hr h=>?_)
 ·obtain⟨z,rfl,_⟩:=h;rfl
 ·have hu:=aX hr
  have gA:=hr.aQ
  obtain⟨z,rfl,g,hz,k⟩:=h
  refine⟨_,(ao (ay (pJ (uH K rfl rfl) T.DN (af (fS rfl (show bw ["text"] (au bK) ["sign"] 1 [] _ from De) (vG (pv 0)) (fun _ _ _ _=>(fQ 0 U7)) (fun _ _ _ _=>jM) (fun _ _ _ _=>(KD (Df br (pv 0) (lK rfl T.lS.choose_spec)) (yQ (eB iC hr T.kT T.iz.kp T.kR (af (pv 0) ai)))))) ai)))),?_⟩
  refine⟨_,rfl,z,rfl,fun D hD=>?_⟩
  have hsz:z.cps.toList.length=z.length:=by rw[Array.length_toList];rfl
  refine xy (fun i ys τ H2=>(∃ v,τ=[v])∧aD H H2∧H2 D=some (.lst ys)∧ys=(List.replicate i true).map V.bl) ⟨⟨_,rfl⟩,aq hD,aj,rfl⟩ (fun i ys τ H2 _ p=>p.2.2.1) ?_ ?_
  ·rintro i c ys τ H2 hi ⟨⟨v,rfl⟩,s2,hl,rfl⟩
   have hc:c∈z.cps.toList:=List.mem_of_getElem? hi
   have hil:i < z.cps.toList.length:=(List.getElem?_eq_some_iff.mp hi).1
   refine zz ?_
   have fin:∀ B:Prop,B=B→H2 D=some (.lst ((List.replicate i true).map V.bl))∧((List.replicate i true).map V.bl).length < sizeLine∧(∃ v,[some (V.str (sg c))]=[v])∧aD H (upd H2 D (.lst ((List.replicate i true).map V.bl++[.bl true])))∧(upd H2 D (.lst ((List.replicate i true).map V.bl++[.bl true]))) D=some (.lst ((List.replicate i true).map V.bl++[.bl true]))∧(List.replicate i true).map V.bl++[.bl true]=(List.replicate (i+1) true).map V.bl:=fun _ _=>by
    refine⟨hl,?_,⟨_,rfl⟩,aK hD s2,aj,?_⟩
    ·rw[List.length_map,List.length_replicate]
     exact Nat.lt_of_lt_of_le (show i < 2001 by omega) (by decide)
    ·rw[List.replicate_succ',List.map_append];rfl
   refine⟨_,rfl,rfl,_,rfl,bB (fun _=>?_) (fun h=>?_)⟩
   ·exact fin True rfl
   ·have hp:Pn c:=(g c hc).resolve_left (XI T.lT h)
    exact⟨_,rfl,c,rfl,hp,fin True rfl⟩
  ·rintro ys τ H2 ⟨⟨v,rfl⟩,s2,hl,rfl⟩
   refine⟨D,List.replicate _ true,rfl,aP.of hl,?_⟩
   have e:(List.replicate z.cps.toList.length true).all id=true:=by
    rw[List.all_eq_true]
    intro b hb
    exact(List.mem_replicate.mp hb).2
   rw[e]
   exact k H2 s2
def sZ:Sp:=fun vs H Q _=>∃ z:Str,vs=[.str z]∧bF z∧z.length≤2000∧∀ H',aD H H'→Q (.bl true) H'
theorem zN:aE P w K mg base bz 3 (az 2) (aN 2) ["thing"] sZ:=by
 have oN:aE P w K mg base bz 2 (az 1) (aN 1) ["text"] iB:=nF T
 refine T.u9.ok zI (fun vs H Q E h=>?_) (fun cdv A outer s H vs Q E hr h=>?_)
 ·obtain⟨z,rfl,_⟩:=h;rfl
 ·have hu:=aX hr
  have gA:=hr.aQ
  obtain⟨z,rfl,g,hz,k⟩:=h
  refine⟨_,(ah (aL (PW.pt (ux (fM (cV (pJ (jN K rfl) T.fT (af (pv 0) (af (Py "str" T.DP) ai))))) (qX (eY Ck (pJ cJ T.eO (af (pv 0) ai)) (ED rfl T.ud.choose_spec))))) (ao (ay jm)) aA)
   (ao (ay (eB oN hr T.ou T.iQ.kp T.oq (af (pv 0) ai))))),?_⟩
  refine⟨_,rfl,_,_,_,true,rfl,.str _,.inl ⟨_,rfl,rfl⟩,true,rfl,fL ?_⟩
  refine⟨_,rfl,z,rfl,Nat.le_trans hz (by decide),_,_,rfl,rfl,_,rfl,Dg (by omega) ?_⟩
  exact⟨_,rfl,z,rfl,g,by omega,k⟩
def gD:Sp:=fun vs H Q _=>∃(z:Str) (lo hi:Int),vs=[.str z,.int lo,.int hi]∧Sg z∧lo≤z.length∧(z.length:Int)≤hi∧z.length≤1000∧∀ H',aD H H'→Q (.bl true) H'
theorem mG:aE P w K mg base bz 2 (az 3) (aN 3) ["thing", "least", "most"] gD:=by
 have iC:aE P w K mg base bz 1 (az 0) (aN 0) ["sign"] gn:=j9 T
 refine T.cL.ok mD (fun vs H Q E h=>?_) (fun cdv A outer s H vs Q E hr h=>?_)
 ·obtain⟨z,lo,hi,rfl,_⟩:=h;rfl
 ·have hu:=aX hr
  have gA:=hr.aQ
  obtain⟨z,lo,hi,rfl,g,hlo,hhi,hz,k⟩:=h
  have uf:z.length≤sizeLine:=Nat.le_trans hz (by decide)
  refine⟨_,(ah (aL (PW.pt (ux (fM (cV (pJ (jN K rfl) T.fT (af (pv 0) (af (Py "str" T.DP) ai))))) (ux (eY xq (pJ cJ T.eO (af (pv 0) ai)) (pv 1)) (qX (eY Ck (pJ cJ T.eO (af (pv 0) ai)) (pv 2)))))) (ao (ay jm)) aA)
   (ao (ay (pJ (uH K rfl rfl) T.DN (af (fS rfl (show bw ["thing", "least", "most"] (au bE) ["sign", "thing"] 1 [0] _ from De) (vG (pv 0)) (fun _ _ _ _=>(fQ 0 (show(["sign", "thing"]:List Str).Nodup by decide +kernel))) (fun _ _ _ _=>jM) (fun _ _ _ _=>(yR (eB iC hr T.kT T.iz.kp T.kR (af (pv 0) ai)) (yQ (Df br (fO K rfl PySem.F.plainAttrs_str PySem.F.slot_str_count PySem.F.type_str_count xB (pv 1) (af (pv 0) ai)) ak))))) ai))))),?_⟩
  refine⟨_,rfl,_,_,_,true,rfl,.str _,.inl ⟨_,rfl,rfl⟩,true,rfl,fL ?_⟩
  refine⟨_,rfl,z,rfl,uf,_,rfl,_,_,rfl,rfl,_,rfl,Dg (by omega) ?_⟩
  refine⟨_,rfl,z,rfl,uf,_,rfl,_,_,rfl,rfl,_,rfl,Dg (by omega) ?_⟩
  refine⟨_,rfl,z,rfl,fun D hD=>?_⟩
  have hsz:z.cps.toList.length=z.length:=by rw[Array.length_toList];rfl
  refine xy (fun i ys τ H2=>(∃ v,τ=[v,some (.str z)])∧aD H H2∧H2 D=some (.lst ys)∧ys=(List.replicate i true).map V.bl) ⟨⟨_,rfl⟩,aq hD,aj,rfl⟩ (fun i ys τ H2 _ p=>p.2.2.1) ?_ ?_
  ·rintro i c ys τ H2 hi ⟨⟨v,rfl⟩,s2,hl,rfl⟩
   have hc:c∈z.cps.toList:=List.mem_of_getElem? hi
   have hil:i < z.cps.toList.length:=(List.getElem?_eq_some_iff.mp hi).1
   refine zz ?_
   refine⟨_,rfl,c,rfl,g.pr c hc,true,rfl,rA ?_⟩
   refine⟨_,rfl,rfl,_,rfl,z,c,rfl,rfl,rfl,?_⟩
   have e:decide (V.int (PyProof.Rows.cnt c z.cps.toList)=V.int 1)=true:=by rw[Am g.nd hc];exact decide_eq_true rfl
   rw[e]
   refine⟨hl,?_,⟨_,rfl⟩,aK hD s2,aj,?_⟩
   ·rw[List.length_map,List.length_replicate]
    exact Nat.lt_of_lt_of_le (show i < 1001 by omega) (by decide)
   ·rw[List.replicate_succ',List.map_append];rfl
  ·rintro ys τ H2 ⟨⟨v,rfl⟩,s2,hl,rfl⟩
   refine⟨D,List.replicate _ true,rfl,aP.of hl,?_⟩
   have e:(List.replicate z.cps.toList.length true).all id=true:=by
    rw[List.all_eq_true]
    intro b hb
    exact(List.mem_replicate.mp hb).2
   rw[e]
   exact k H2 s2
def gE (C:Addr):Sp:=fun vs H Q _=>∃(x dx:Addr) (p q f:Str) (b1 b2 b3 b4:Bool),vs=.ref x :: rR p q f b1 b2 b3 b4∧H x=some (.ins C dx [])∧Gd p q f∧∀ H',H' x=some (.ins C dx (zB p q f b1 b2 b3 b4))→(∀ b o,H b=some o→b≠x→H' b=some o)→Q .non H'
theorem mH:aE P w K mg base bz 3 (az 4) (aN 4) ["self", "parts", "quotes", "frees", "twin", "wide", "thin", "stray"] (gE (az 43)):=by
 have eS:aE P w K mg base bz 2 (az 3) (aN 3) ["thing", "least", "most"] gD:=mG T
 refine T.nB.ok gB (fun vs H Q E h=>?_) (fun cdv A outer s H vs Q E hr h=>?_)
 ·obtain⟨x,dx,p,q,f,b1,b2,b3,b4,rfl,_⟩:=h;rfl
 ·have hu:=aX hr
  have gA:=hr.aQ
  obtain⟨x,dx,p,q,f,b1,b2,b3,b4,rfl,hx,g,k⟩:=h
  have hp1:=g.p1;have hp3:=g.p3;have hq2:=g.q2;have hf2:=g.f2
  refine⟨_,(ah (aL (fM (cV (eB eS hr T.eN T.cL.kp T.eL (af (pv 1) (af ak (af ak ai)))))) (ao gZ) aA)
   (ah (aL (fM (cV (eB eS hr T.eN T.cL.kp T.eL (af (pv 2) (af ak (af ak ai)))))) (ao gZ) aA)
   (ah (aL (fM (cV (eB eS hr T.eN T.cL.kp T.eL (af (pv 3) (af ak (af ak ai)))))) (ao gZ) aA)
   (ah (cj PassesOwn.never rfl (EC K rfl (aF (af (pv 4) (af (pv 5) (af (pv 6) (af (pv 7) ai)))))) (fQ 8 gB.nd)
   (ao (aL (fM (cV (pJ (jN K rfl) T.fT (af (pv 8) (af (Py "bool" T.Ff) ai))))) (ao gZ) aA)))
   (ah (kE (pv 0) (pv 1) rfl)
   (ah (kE (pv 0) (pv 2) rfl)
   (ah (kE (pv 0) (pv 3) rfl)
   (ah (kE (pv 0) (pv 4) rfl)
   (ah (kE (pv 0) (pv 5) rfl)
   (ah (kE (pv 0) (pv 6) rfl)
   (ao (kE (pv 0) (pv 7) rfl)))))))))))),?_⟩
  refine⟨_,rfl,p,1,3,rfl,g.gp,by omega,by omega,by omega,fun H1 s1=>⟨true,rfl,fL ?_⟩⟩
  refine⟨_,rfl,q,0,2,rfl,g.gq,by omega,by omega,by omega,fun H2 s2=>⟨true,rfl,fL ?_⟩⟩
  refine⟨_,rfl,f,0,2,rfl,g.gf,by omega,by omega,by omega,fun H3 s3=>⟨true,rfl,fL ?_⟩⟩
  refine⟨_,rfl,_,rfl,_,rfl,_,rfl,(by show 4≤sizeLine;decide),fun t ht=>⟨t,rfl,⟨_,bh.of aj⟩,?_⟩⟩
  have Q5:aD H (upd H3 t (.tup [.bl b1,.bl b2,.bl b3,.bl b4])):=((s1.trans s2).trans s3).trans (aq ht)
  have yP:(upd H3 t (.tup [.bl b1,.bl b2,.bl b3,.bl b4])) t=some (.tup [.bl b1,.bl b2,.bl b3,.bl b4]):=aj
  generalize upd H3 t (.tup [.bl b1,.bl b2,.bl b3,.bl b4])=H4 at Q5 yP ⊢
  refine Ej (K:=K) (a:=t) (xs:=[.bl b1,.bl b2,.bl b3,.bl b4]) (fun i σ H5=>H5=H4∧∃ v,σ=[some (.ref x),some (.str p),some (.str q),some (.str f),some (.bl b1),some (.bl b2),some (.bl b3),some (.bl b4),v]) ⟨rfl,_,rfl⟩ (fun i σ H5 _ q=>by rw[q.1];exact bh.of yP) ?_ ?_
  ·rintro i y σ H5 hi ⟨rfl,v,rfl⟩
   obtain⟨b,rfl⟩:∃ b,y=V.bl b:=by
    have XT:i < 4:=(List.getElem?_eq_some_iff.mp hi).1
    match i,XT,hi with
    | 0,_,hi=>exact⟨_,(Option.some.inj hi).symm⟩
    | 1,_,hi=>exact⟨_,(Option.some.inj hi).symm⟩
    | 2,_,hi=>exact⟨_,(Option.some.inj hi).symm⟩
    | 3,_,hi=>exact⟨_,(Option.some.inj hi).symm⟩
   refine⟨_,rfl,_,_,_,true,rfl,.bl _,.inl ⟨_,rfl,rfl⟩,true,rfl,fL ?_⟩
   exact⟨rfl,_,rfl⟩
  ·rintro σ H5 ⟨rfl,v,rfl⟩
   have XU:=Q5 _ _ hx
   refine⟨_,rfl,_,rfl,x,(az 43),dx,_,rfl,XU,T.aI,T.bL,(by show 0 < 1000;decide),_,rfl,_,rfl,x,(az 43),dx,_,rfl,aj,T.aI,T.bR,(by show 1 < 1000;decide),_,rfl,_,rfl,x,(az 43),dx,_,rfl,aj,T.aI,T.bM,(by show 2 < 1000;decide),_,rfl,_,rfl,x,(az 43),dx,_,rfl,aj,T.aI,T.dw,(by show 3 < 1000;decide),
    _,rfl,_,rfl,x,(az 43),dx,_,rfl,aj,T.aI,T.cB,(by show 4 < 1000;decide),_,rfl,_,rfl,x,(az 43),dx,_,rfl,aj,T.aI,T.cC,(by show 5 < 1000;decide),_,rfl,_,rfl,x,(az 43),dx,_,rfl,aj,T.aI,T.cR,(by show 6 < 1000;decide),?_⟩
   refine k _ aj fun b o e hb=>?_
   rw[aC hb,aC hb,aC hb,aC hb,aC hb,aC hb,aC hb]
   exact Q5 _ _ e
def kc (C:Addr):Sp:=fun vs H Q _=>∃(x dx:Addr) (p q f:Str) (b1 b2 b3 b4:Bool),vs=[.ref x]∧H x=some (.ins C dx (zB p q f b1 b2 b3 b4))∧∀ t,H t=none→Q (.ref t) (upd H t (.tup (rR p q f b1 b2 b3 b4)))
theorem qJ:aE P w K mg base bz 1 (az 5) (aN 5) ["self"] (kc (az 43)):=by
 refine T.sM.ok qB (fun vs H Q E h=>?_) (fun cdv A outer s H vs Q E hr h=>?_)
 ·obtain⟨x,dx,p,q,f,b1,b2,b3,b4,rfl,_⟩:=h;rfl
 ·have hu:=aX hr
  have gA:=hr.aQ
  obtain⟨x,dx,p,q,f,b1,b2,b3,b4,rfl,hx,k⟩:=h
  refine⟨_,(ao (ay (aF (af (aU K rfl (pv 0) rfl) (af (aU K rfl (pv 0) rfl) (af (aU K rfl (pv 0) rfl) (af (aU K rfl (pv 0) rfl) (af (aU K rfl (pv 0) rfl) (af (aU K rfl (pv 0) rfl) (af (aU K rfl (pv 0) rfl) ai)))))))))),?_⟩
  refine⟨_,rfl,x,(az 43),dx,_,_,rfl,hx,T.aI,T.bL,rfl,_,rfl,x,(az 43),dx,_,_,rfl,hx,T.aI,T.bR,rfl,_,rfl,x,(az 43),dx,_,_,rfl,hx,T.aI,T.bM,rfl,_,rfl,x,(az 43),dx,_,_,rfl,hx,T.aI,T.dw,rfl,_,rfl,x,(az 43),dx,_,_,rfl,hx,T.aI,T.cB,rfl,_,rfl,x,(az 43),dx,_,_,rfl,hx,T.aI,T.cC,rfl,_,rfl,x,(az 43),dx,_,_,rfl,hx,T.aI,T.cR,rfl,(by show 7≤sizeLine;decide),fun t ht=>?_⟩
  exact k t ht
def ji (C:Addr):Sp:=fun vs H Q _=>∃(t:Addr) (p q f:Str) (b1 b2 b3 b4:Bool),vs=[.ref t]∧H t=some (.tup (rR p q f b1 b2 b3 b4))∧Gd p q f∧∀(x dx:Addr) (H':Hp),H x=none→H' x=some (.ins C dx (zB p q f b1 b2 b3 b4))→aD H H'→Q (.ref x) H'
theorem mU:aE P w K mg base bz 5 (az 6) (aN 6) ["told"] (ji (az 43)):=by
 have nG:aE P w K mg base bz 3 (az 4) (aN 4) ["self", "parts", "quotes", "frees", "twin", "wide", "thin", "stray"] (gE (az 43)):=mH T
 refine T.jV.ok tW (fun vs H Q E h=>?_) (fun cdv A outer s H vs Q E hr h=>?_)
 ·obtain⟨t,p,q,f,b1,b2,b3,b4,rfl,_⟩:=h;rfl
 ·have hu:=aX hr
  have gA:=hr.aQ
  obtain⟨t,p,q,f,b1,b2,b3,b4,rfl,ht,g,k⟩:=h
  have hS:bh K H t (rR p q f b1 b2 b3 b4):=bh.of ht
  refine⟨_,(ah (aL (PW.pt (ux (fM (cV (pJ (xC K rfl) T.fT (af (pv 0) (af (Py "tuple" T.yE) ai))))) (qX (eY xo (pJ (bO K rfl) T.eO (af (pv 0) ai)) ak)))) (ao gZ) aA)
   (ao (ay (Af (k:=3) T.BO nG (hr.mono (by decide)) rfl T.BN T.nC .nil jr (af (ko K (pv 0) ak) (af (ko K (pv 0) ak) (af (ko K (pv 0) ak) (af (ko K (pv 0) ak) (af (ko K (pv 0) ak) (af (ko K (pv 0) ak) (af (ko K (pv 0) ak) ai))))))))))),?_⟩
  refine⟨_,rfl,t,_,_,true,rfl,.inl ⟨hS,rfl⟩,true,rfl,fL ?_⟩
  refine⟨_,rfl,t,_,rfl,.inr hS,rfl,_,rfl,K6 rfl ?_⟩
  refine⟨_,rfl,t,_,_,_,rfl,rfl,hS,rfl,_,rfl,t,_,_,_,rfl,rfl,hS,rfl,_,rfl,t,_,_,_,rfl,rfl,hS,rfl,_,rfl,t,_,_,_,rfl,rfl,hS,rfl,_,rfl,t,_,_,_,rfl,rfl,hS,rfl,_,rfl,t,_,_,_,rfl,rfl,hS,rfl,_,rfl,t,_,_,_,rfl,rfl,hS,rfl,fun x dx hx hdx ne=>?_⟩
  refine⟨x,dx,p,q,f,b1,b2,b3,b4,rfl,aj,g,fun H2 h2 kp=>⟨rfl,k x dx H2 hx h2 fun b o e=>kp b o ?_ (aZ e hx)⟩⟩
  rw[aC (aZ e hx),aC (aZ e hdx)]
  exact e
def gg (K:W.Frag) (C:Addr):Sp:=fun vs H Q _=>∃(x dx:Addr) (p q f:Str) (b1 b2 b3 b4:Bool) (s:Addr) (w u:Str) (c:Nat),vs=[.ref x,.ref s,.str (sg c)]∧H x=some (.ins C dx (zB p q f b1 b2 b3 b4))∧bh K H s [.str w,.str u]∧∀ v H',aD H H'→tU K H' v (ig p q f b3 w u c)→Q v H'
theorem lC:aE P w K mg base bz 1 (az 7) (aN 7) ["dialect", "state", "sign"] (gg K (az 43)):=by
 refine T.gC.ok kQ (fun vs H Q E h=>?_) (fun cdv A outer s H vs Q E hr h=>?_)
 ·obtain⟨x,dx,p,q,f,b1,b2,b3,b4,s,w,u,c,rfl,_⟩:=h;rfl
 ·have hu:=aX hr
  have gA:=hr.aQ
  obtain⟨x,dx,p,q,f,b1,b2,b3,b4,s,w,u,c,rfl,hx,hs,k⟩:=h
  refine'⟨_,?aa,?bb⟩
  case aa =>
   refine' ah ?s0 ?r0
   case s0 =>
    refine' aL ?c1 ?b1 ?e1
    case c1=>exact(d8 eU (pv 2) (aU K rfl (pv 0) rfl) rfl)
    case b1 =>
     refine' ao ?s2
     case s2 =>
      refine' ay ?v3
      case v3 =>
       refine' aF ?a4
       case a4 =>
        refine' af ?x5 ?y5 ?z5
        case z5=>exact rfl
        case x5 =>
         exact av
        case y5 =>
         refine' af ?x6 ?y6 ?z6
         case z6=>exact rfl
         case x6 =>
          refine' aF ?a7
          case a7 =>
           refine' af ?x8 ?y8 ?z8
           case z8=>exact rfl
           case x8 =>
            exact av
           case y8 =>
            refine' af ?x9 ?y9 ?z9
            case z9=>exact rfl
            case x9 =>
             exact av
            case y9 =>
             exact ai
         case y6 =>
          exact ai
    case e1 =>
     exact aA
   case r0 =>
    refine' ah ?J6 ?LD
    case J6 =>
     refine' aL ?Iw ?Iz ?Ik
     case Iw=>exact(eY br (pv 2) (lK rfl T.lS.choose_spec))
     case Iz =>
      refine' ao ?s12
      case s12 =>
       refine' ay ?LF
       case LF =>
        refine' aF ?Fg
        case Fg =>
         refine' af ?IA ?IB ?IC
         case IC=>exact rfl
         case IA =>
          exact av
         case IB =>
          refine' af ?ID ?IE ?IF
          case IF=>exact rfl
          case ID =>
           exact(nU rfl T.lA)
          case IE =>
           exact ai
     case Ik =>
      exact aA
    case LD =>
     refine' ah ?IG ?II
     case IG =>
      refine' aL ?Fi ?Fj ?IJ
      case Fi=>exact(d8 eU (pv 2) (aU K rfl (pv 0) rfl) rfl)
      case Fj =>
       refine' ao ?IK
       case IK =>
        refine' ay ?v20
        case v20 =>
         refine' aF ?Fl
         case Fl =>
          refine' af ?IL ?IM ?IP
          case IP=>exact rfl
          case IL =>
           exact av
          case IM =>
           refine' af ?IQ ?IS ?IT
           case IT=>exact rfl
           case IQ =>
            refine' aF ?IU
            case IU =>
             refine' af ?LG ?LH ?LI
             case LI=>exact rfl
             case LG =>
              exact av
             case LH =>
              refine' af ?LJ ?LK ?LL
              case LL=>exact rfl
              case LJ =>
               exact(pv 2)
              case LK =>
               exact ai
           case IS =>
            exact ai
      case IJ =>
       exact aA
     case II =>
      refine' ah ?LM ?Q6
      case LM =>
       refine' aL ?LN ?LO ?Q7
       case LN=>exact(d8 eU (pv 2) (aU K rfl (pv 0) rfl) rfl)
       case LO =>
        refine' ao ?Q8
        case Q8 =>
         refine' ay ?v30
         case v30 =>
          refine' aF ?LP
          case LP =>
           refine' af ?Q9 ?Ra ?Rb
           case Rb=>exact rfl
           case Q9 =>
            exact av
           case Ra =>
            refine' af ?Rc ?Rf ?Rg
            case Rg=>exact rfl
            case Rc =>
             refine' aF ?Rh
             case Rh =>
              refine' af ?XW ?XX ?XY
              case XY=>exact rfl
              case XW =>
               exact av
              case XX =>
               refine' af ?XZ ?X0 ?X3
               case X3=>exact rfl
               case XZ =>
                exact av
               case X0 =>
                exact ai
            case Rf =>
             exact ai
       case Q7 =>
        exact aA
      case Q6 =>
       refine' ah ?X4 ?X5
       case X4 =>
        refine' aL ?Ri ?Rj ?X6
        case Ri=>exact(PW.pt (kB (eY br (pv 2) av) (iI (cV (aU K rfl (pv 0) rfl)))))
        case Rj =>
         refine' ao ?X7
         case X7 =>
          refine' ay ?X8
          case X8 =>
           refine' aF ?Rk
           case Rk =>
            refine' af ?Yb ?Yc ?Yd
            case Yd=>exact rfl
            case Yb =>
             exact av
            case Yc =>
             refine' af ?Ye ?Yg ?Yh
             case Yh=>exact rfl
             case Ye =>
              exact(pv 1)
             case Yg =>
              exact ai
        case X6 =>
         exact aA
       case X5 =>
        refine' ao ?Yi
        case Yi =>
         refine' ay ?Yj
         case Yj =>
          refine' aF ?Yk
          case Yk =>
           refine' af ?Yl ?Ym ?Yn
           case Yn=>exact rfl
           case Yl =>
            exact av
           case Ym =>
            refine' af ?Yo ?Yp ?Yq
            case Yq=>exact rfl
            case Yo =>
             refine' aF ?Yr
             case Yr =>
              refine' af ?Ys ?Yt ?Yu
              case Yu=>exact rfl
              case Ys =>
               exact av
              case Yt =>
               refine' af ?Yv ?Yw ?Yx
               case Yx=>exact rfl
               case Yv =>
                exact av
               case Yw =>
                exact ai
            case Yp =>
             exact ai
  have e2:bf (sg c) (u7 0)=bf (sg c) (Str.ofString "\n"):=by rw[T.lT]
  refine⟨_,rfl,_,rfl,x,(az 43),dx,_,_,rfl,hx,T.aI,T.bM,rfl,_,_,rfl,rfl,_,rfl,bB (fun (h1:pL c f=true)=>?_) (fun (h1:¬pL c f=true)=>?_)⟩
  ·exact dY (by unfold ig;rw[if_pos h1]) iM k
  refine⟨_,rfl,rfl,_,rfl,bB (fun (h2:bf (sg c) (u7 0)=true)=>?_) (fun (h2:¬bf (sg c) (u7 0)=true)=>?_)⟩
  ·rw[e2] at h2
   exact vO (by unfold ig;rw[if_neg h1,if_pos h2]) zC (aD.refl _) (.inr T.lB) k
  rw[e2] at h2
  refine⟨_,rfl,_,rfl,x,(az 43),dx,_,_,rfl,hx,T.aI,T.bR,rfl,_,_,rfl,rfl,_,rfl,bB (fun (h3:pL c q=true)=>?_) (fun (h3:¬pL c q=true)=>?_)⟩
  ·exact⟨_,rfl,dY (by unfold ig;rw[if_neg h1,if_neg h2,if_pos h3]) iM k⟩
  refine⟨_,rfl,_,rfl,x,(az 43),dx,_,_,rfl,hx,T.aI,T.bL,rfl,_,_,rfl,rfl,_,rfl,bB (fun (h4:pL c p=true)=>?_) (fun (h4:¬pL c p=true)=>?_)⟩
  ·exact dY (by unfold ig;rw[if_neg h1,if_neg h2,if_neg h3,if_pos h4]) vP k
  refine⟨_,rfl,rfl,_,rfl,bB (fun (h5:bf (sg c) (" ":Str)=true)=>?_) (fun (h5:¬bf (sg c) (" ":Str)=true)=>?_)⟩
  ·refine⟨_,rfl,x,(az 43),dx,_,_,rfl,hx,T.aI,T.cC,rfl,_,rfl,bB (fun (h6:b3=true)=>?_) (fun (h6:¬b3=true)=>?_)⟩
   ·exact⟨_,rfl,vO (by unfold ig;rw[if_neg h1,if_neg h2,if_neg h3,if_neg h4,if_pos h5,if_pos h6]) iM (aD.refl _) hs k⟩
   exact dY (by unfold ig;rw[if_neg h1,if_neg h2,if_neg h3,if_neg h4,if_pos h5,if_neg h6]) ie k
  refine fL ?_
  exact dY (by unfold ig;rw[if_neg h1,if_neg h2,if_neg h3,if_neg h4,if_neg h5]) ie k
def jE (K:W.Frag) (C:Addr):Sp:=fun vs H Q _=>∃(x dx:Addr) (p q f:Str) (b1 b2 b3 b4:Bool) (c:Nat),vs=[.ref x,.str (sg c)]∧H x=some (.ins C dx (zB p q f b1 b2 b3 b4))∧∀ v H',aD H H'→tU K H' v (iu p q f b4 c)→Q v H'
theorem pX:aE P w K mg base bz 1 (az 8) (aN 8) ["dialect", "sign"] (jE K (az 43)):=by
 refine T.j7.ok pP (fun vs H Q E h=>?_) (fun cdv A outer s H vs Q E hr h=>?_)
 ·obtain⟨x,dx,p,q,f,b1,b2,b3,b4,c,rfl,_⟩:=h;rfl
 ·have hu:=aX hr
  have gA:=hr.aQ
  obtain⟨x,dx,p,q,f,b1,b2,b3,b4,c,rfl,hx,k⟩:=h
  refine'⟨_,?aa,?bb⟩
  case aa =>
   refine' ah ?s0 ?r0
   case s0 =>
    refine' aL ?c1 ?b1 ?e1
    case c1=>exact(d8 eU (pv 1) (aU K rfl (pv 0) rfl) rfl)
    case b1 =>
     refine' ao ?s2
     case s2 =>
      refine' ay ?v3
      case v3 =>
       refine' aF ?a4
       case a4 =>
        refine' af ?x5 ?y5 ?z5
        case z5=>exact rfl
        case x5 =>
         exact av
        case y5 =>
         refine' af ?x6 ?y6 ?z6
         case z6=>exact rfl
         case x6 =>
          refine' aF ?a7
          case a7 =>
           refine' af ?x8 ?y8 ?z8
           case z8=>exact rfl
           case x8 =>
            exact av
           case y8 =>
            refine' af ?x9 ?y9 ?z9
            case z9=>exact rfl
            case x9 =>
             exact av
            case y9 =>
             exact ai
         case y6 =>
          exact ai
    case e1 =>
     exact aA
   case r0 =>
    refine' ah ?J6 ?LD
    case J6 =>
     refine' aL ?Iw ?Iz ?Ik
     case Iw=>exact(eY br (pv 1) (lK rfl T.lS.choose_spec))
     case Iz =>
      refine' ao ?s12
      case s12 =>
       refine' ay ?LF
       case LF =>
        refine' aF ?Fg
        case Fg =>
         refine' af ?IA ?IB ?IC
         case IC=>exact rfl
         case IA =>
          exact av
         case IB =>
          refine' af ?ID ?IE ?IF
          case IF=>exact rfl
          case ID =>
           exact(nU rfl T.lA)
          case IE =>
           exact ai
     case Ik =>
      exact aA
    case LD =>
     refine' ah ?IG ?II
     case IG =>
      refine' aL ?Fi ?Fj ?IJ
      case Fi=>exact(d8 eU (pv 1) (aU K rfl (pv 0) rfl) rfl)
      case Fj =>
       refine' ao ?IK
       case IK =>
        refine' ay ?v20
        case v20 =>
         refine' aF ?Fl
         case Fl =>
          refine' af ?IL ?IM ?IP
          case IP=>exact rfl
          case IL =>
           exact av
          case IM =>
           refine' af ?IQ ?IS ?IT
           case IT=>exact rfl
           case IQ =>
            refine' aF ?IU
            case IU =>
             refine' af ?LG ?LH ?LI
             case LI=>exact rfl
             case LG =>
              exact av
             case LH =>
              refine' af ?LJ ?LK ?LL
              case LL=>exact rfl
              case LJ =>
               exact av
              case LK =>
               exact ai
           case IS =>
            exact ai
      case IJ =>
       exact aA
     case II =>
      refine' ah ?LM ?Q6
      case LM =>
       refine' aL ?LN ?LO ?Q7
       case LN=>exact(PW.pt (kB (d8 eU (pv 1) (aU K rfl (pv 0) rfl) rfl) (iI (fM (cV (aU K rfl (pv 0) rfl))))))
       case LO =>
        refine' ao ?Q8
        case Q8 =>
         refine' ay ?v30
         case v30 =>
          refine' aF ?LP
          case LP =>
           refine' af ?Q9 ?Ra ?Rb
           case Rb=>exact rfl
           case Q9 =>
            exact av
           case Ra =>
            refine' af ?Rc ?Rf ?Rg
            case Rg=>exact rfl
            case Rc =>
             exact av
            case Rf =>
             exact ai
       case Q7 =>
        exact aA
      case Q6 =>
       refine' ao ?Yy
       case Yy =>
        refine' ay ?Yz
        case Yz =>
         refine' aF ?Rl
         case Rl =>
          refine' af ?YA ?YB ?YC
          case YC=>exact rfl
          case YA =>
           exact av
          case YB =>
           refine' af ?YD ?YE ?YF
           case YF=>exact rfl
           case YD =>
            refine' aF ?Rm
            case Rm =>
             refine' af ?YG ?YH ?YI
             case YI=>exact rfl
             case YG =>
              exact av
             case YH =>
              refine' af ?YJ ?YK ?YL
              case YL=>exact rfl
              case YJ =>
               exact av
              case YK =>
               exact ai
           case YE =>
            exact ai
  have e2:bf (sg c) (u7 0)=bf (sg c) (Str.ofString "\n"):=by rw[T.lT]
  refine⟨_,rfl,_,rfl,x,(az 43),dx,_,_,rfl,hx,T.aI,T.bM,rfl,_,_,rfl,rfl,_,rfl,bB (fun (h1:pL c f=true)=>?_) (fun (h1:¬pL c f=true)=>?_)⟩
  ·exact dY (by unfold iu;rw[if_pos h1]) iM k
  refine⟨_,rfl,rfl,_,rfl,bB (fun (h2:bf (sg c) (u7 0)=true)=>?_) (fun (h2:¬bf (sg c) (u7 0)=true)=>?_)⟩
  ·rw[e2] at h2
   exact vO (by unfold iu;rw[if_neg h1,if_pos h2]) zC (aD.refl _) (.inr T.lB) k
  rw[e2] at h2
  refine⟨_,rfl,_,rfl,x,(az 43),dx,_,_,rfl,hx,T.aI,T.bL,rfl,_,_,rfl,rfl,_,rfl,bB (fun (h3:pL c p=true)=>?_) (fun (h3:¬pL c p=true)=>?_)⟩
  ·exact dY (by unfold iu;rw[if_neg h1,if_neg h2,if_pos h3]) vP k
  refine⟨_,rfl,_,rfl,x,(az 43),dx,_,_,rfl,hx,T.aI,T.bR,rfl,_,_,rfl,rfl,_,rfl,bB (fun (h4:pL c q=true)=>?_) (fun (h4:¬pL c q=true)=>?_)⟩
  ·refine⟨_,rfl,x,(az 43),dx,_,_,rfl,hx,T.aI,T.cR,rfl,_,rfl,bB (fun (h5:(!b4)=true)=>?_) (fun (h5:¬(!b4)=true)=>?_)⟩
   ·exact rS (by unfold iu;rw[if_neg h1,if_neg h2,if_neg h3,if_pos h4,if_pos h5]) k
   exact dY (by unfold iu;rw[if_neg h1,if_neg h2,if_neg h3,if_pos h4,if_neg h5]) ie k
  refine fL ?_
  exact dY (by unfold iu;rw[if_neg h1,if_neg h2,if_neg h3,if_neg h4]) ie k
def lD (K:W.Frag) (C:Addr):Sp:=fun vs H Q _=>∃(x dx:Addr) (p q f:Str) (b1 b2 b3 b4:Bool) (u:Str) (c:Nat),vs=[.ref x,.str u,.str (sg c)]∧H x=some (.ins C dx (zB p q f b1 b2 b3 b4))∧∀ v H',aD H H'→tU K H' v (fz f b1 b2 u c)→Q v H'
theorem tD:aE P w K mg base bz 1 (az 9) (aN 9) ["dialect", "quote", "sign"] (lD K (az 43)):=by
 refine T.mQ.ok sD (fun vs H Q E h=>?_) (fun cdv A outer s H vs Q E hr h=>?_)
 ·obtain⟨x,dx,p,q,f,b1,b2,b3,b4,u,c,rfl,_⟩:=h;rfl
 ·have hu:=aX hr
  have gA:=hr.aQ
  obtain⟨x,dx,p,q,f,b1,b2,b3,b4,u,c,rfl,hx,k⟩:=h
  refine'⟨_,?aa,?bb⟩
  case aa =>
   refine' ah ?s0 ?r0
   case s0 =>
    refine' aL ?c1 ?b1 ?e1
    case c1=>exact(d8 eU (pv 2) (aU K rfl (pv 0) rfl) rfl)
    case b1 =>
     refine' ao ?s2
     case s2 =>
      refine' ay ?v3
      case v3 =>
       refine' aF ?a4
       case a4 =>
        refine' af ?x5 ?y5 ?z5
        case z5=>exact rfl
        case x5 =>
         exact av
        case y5 =>
         refine' af ?x6 ?y6 ?z6
         case z6=>exact rfl
         case x6 =>
          refine' aF ?a7
          case a7 =>
           refine' af ?x8 ?y8 ?z8
           case z8=>exact rfl
           case x8 =>
            exact av
           case y8 =>
            refine' af ?x9 ?y9 ?z9
            case z9=>exact rfl
            case x9 =>
             exact(pv 1)
            case y9 =>
             exact ai
         case y6 =>
          exact ai
    case e1 =>
     exact aA
   case r0 =>
    refine' ah ?J6 ?LD
    case J6 =>
     refine' aL ?Iw ?Iz ?Ik
     case Iw=>exact(eY br (pv 2) (pv 1))
     case Iz =>
      refine' ao ?s12
      case s12 =>
       refine' ay ?LF
       case LF =>
        refine' aF ?Fg
        case Fg =>
         refine' af ?IA ?IB ?IC
         case IC=>exact rfl
         case IA =>
          exact av
         case IB =>
          refine' af ?ID ?IE ?IF
          case IF=>exact rfl
          case ID =>
           exact(kC (cV (aU K rfl (pv 0) rfl)) (aF (af av (af (pv 1) ai))) (aF (af av (af av ai))))
          case IE =>
           exact ai
     case Ik =>
      exact aA
    case LD =>
     refine' ah ?IG ?II
     case IG =>
      refine' aL ?Fi ?Fj ?IJ
      case Fi=>exact(PW.pt (kB (eY br (pv 2) (lK rfl T.lS.choose_spec)) (iI (fM (cV (aU K rfl (pv 0) rfl))))))
      case Fj =>
       refine' ao ?IK
       case IK =>
        refine' ay ?v20
        case v20 =>
         refine' aF ?Fl
         case Fl =>
          refine' af ?IL ?IM ?IP
          case IP=>exact rfl
          case IL =>
           exact av
          case IM =>
           refine' af ?IQ ?IS ?IT
           case IT=>exact rfl
           case IQ =>
            exact av
           case IS =>
            exact ai
      case IJ =>
       exact aA
     case II =>
      refine' ao ?Pz
      case Pz =>
       refine' ay ?YN
       case YN =>
        refine' aF ?Rn
        case Rn =>
         refine' af ?YO ?YQ ?YR
         case YR=>exact rfl
         case YO =>
          exact av
         case YQ =>
          refine' af ?YS ?YT ?YU
          case YU=>exact rfl
          case YS =>
           refine' aF ?LQ
           case LQ =>
            refine' af ?Ro ?Rp ?Rq
            case Rq=>exact rfl
            case Ro =>
             exact av
            case Rp =>
             refine' af ?Rr ?Rt ?Ru
             case Ru=>exact rfl
             case Rr =>
              exact(pv 1)
             case Rt =>
              exact ai
          case YT =>
           exact ai
  have e2:bf (sg c) (u7 0)=bf (sg c) (Str.ofString "\n"):=by rw[T.lT]
  refine⟨_,rfl,_,rfl,x,(az 43),dx,_,_,rfl,hx,T.aI,T.bM,rfl,_,_,rfl,rfl,_,rfl,bB (fun (h1:pL c f=true)=>?_) (fun (h1:¬pL c f=true)=>?_)⟩
  ·exact⟨_,rfl,dY (by unfold fz;rw[if_pos h1]) iM k⟩
  refine⟨_,rfl,_,rfl,rfl,_,rfl,bB (fun (h2:bf (sg c) u=true)=>?_) (fun (h2:¬bf (sg c) u=true)=>?_)⟩
  ·refine⟨_,rfl,x,(az 43),dx,_,_,rfl,hx,T.aI,T.dw,rfl,_,rfl,bB (fun (h3:b1=true)=>?_) (fun (h3:¬b1=true)=>?_)⟩
   ·exact⟨_,rfl,dY (by unfold fz;rw[if_neg h1,if_pos h2,if_pos h3]) iM k⟩
   exact dY (by unfold fz;rw[if_neg h1,if_pos h2,if_neg h3]) iM k
  refine⟨_,rfl,rfl,_,rfl,bB (fun (h3:bf (sg c) (u7 0)=true)=>?_) (fun (h3:¬bf (sg c) (u7 0)=true)=>?_)⟩
  ·rw[e2] at h3
   refine⟨_,rfl,x,(az 43),dx,_,_,rfl,hx,T.aI,T.cB,rfl,_,rfl,bB (fun (h4:(!b2)=true)=>?_) (fun (h4:¬(!b2)=true)=>?_)⟩
   ·exact rS (by unfold fz;rw[if_neg h1,if_neg h2,if_pos h3,if_pos h4]) k
   exact⟨_,rfl,dY (by unfold fz;rw[if_neg h1,if_neg h2,if_pos h3,if_neg h4]) ie k⟩
  rw[e2] at h3
  refine fL ?_
  exact⟨_,rfl,dY (by unfold fz;rw[if_neg h1,if_neg h2,if_neg h3]) ie k⟩
def iD (K:W.Frag) (C:Addr):Sp:=fun vs H Q _=>∃(x dx:Addr) (p q f:Str) (b1 b2 b3 b4:Bool) (c:Nat),vs=[.ref x,.str (sg c)]∧H x=some (.ins C dx (zB p q f b1 b2 b3 b4))∧∀ v H',aD H H'→tU K H' v (dI p b3 c)→Q v H'
theorem lE:aE P w K mg base bz 1 (az 10) (aN 10) ["dialect", "sign"] (iD K (az 43)):=by
 refine T.jh.ok sE (fun vs H Q E h=>?_) (fun cdv A outer s H vs Q E hr h=>?_)
 ·obtain⟨x,dx,p,q,f,b1,b2,b3,b4,c,rfl,_⟩:=h;rfl
 ·have hu:=aX hr
  have gA:=hr.aQ
  obtain⟨x,dx,p,q,f,b1,b2,b3,b4,c,rfl,hx,k⟩:=h
  refine'⟨_,?aa,?bb⟩
  case aa =>
   refine' ah ?s0 ?r0
   case s0 =>
    refine' aL ?c1 ?b1 ?e1
    case c1=>exact(eY br (pv 1) (lK rfl T.lS.choose_spec))
    case b1 =>
     refine' ao ?s2
     case s2 =>
      refine' ay ?v3
      case v3 =>
       refine' aF ?a4
       case a4 =>
        refine' af ?x5 ?y5 ?z5
        case z5=>exact rfl
        case x5 =>
         exact av
        case y5 =>
         refine' af ?x6 ?y6 ?z6
         case z6=>exact rfl
         case x6 =>
          exact(nU rfl T.lA)
         case y6 =>
          exact ai
    case e1 =>
     exact aA
   case r0 =>
    refine' ah ?s7 ?r7
    case s7 =>
     refine' aL ?c8 ?b8 ?e8
     case c8=>exact(d8 eU (pv 1) (aU K rfl (pv 0) rfl) rfl)
     case b8 =>
      refine' ao ?s9
      case s9 =>
       refine' ay ?v10
       case v10 =>
        refine' aF ?Rv
        case Rv =>
         refine' af ?Rw ?Rx ?Ry
         case Ry=>exact rfl
         case Rw =>
          exact av
         case Rx =>
          refine' af ?YV ?YW ?YX
          case YX=>exact rfl
          case YV =>
           refine' aF ?Fg
           case Fg =>
            refine' af ?IA ?IB ?IC
            case IC=>exact rfl
            case IA =>
             exact av
            case IB =>
             refine' af ?ID ?IE ?IF
             case IF=>exact rfl
             case ID =>
              exact av
             case IE =>
              exact ai
          case YW =>
           exact ai
     case e8 =>
      exact aA
    case r7 =>
     refine' ah ?IG ?II
     case IG =>
      refine' aL ?Fi ?Fj ?IJ
      case Fi=>exact(PW.pt (kB (eY br (pv 1) av) (iI (cV (aU K rfl (pv 0) rfl)))))
      case Fj =>
       refine' ao ?IK
       case IK =>
        refine' ay ?v20
        case v20 =>
         refine' aF ?Fl
         case Fl =>
          refine' af ?IL ?IM ?IP
          case IP=>exact rfl
          case IL =>
           exact av
          case IM =>
           refine' af ?IQ ?IS ?IT
           case IT=>exact rfl
           case IQ =>
            refine' aF ?IU
            case IU =>
             refine' af ?LG ?LH ?LI
             case LI=>exact rfl
             case LG =>
              exact av
             case LH =>
              refine' af ?LJ ?LK ?LL
              case LL=>exact rfl
              case LJ =>
               exact av
              case LK =>
               exact ai
           case IS =>
            exact ai
      case IJ =>
       exact aA
     case II =>
      refine' ao ?LM
      case LM =>
       refine' ay ?YY
       case YY =>
        refine' aF ?LQ
        case LQ =>
         refine' af ?Ro ?Rp ?Rq
         case Rq=>exact rfl
         case Ro =>
          exact av
         case Rp =>
          refine' af ?Rr ?Rt ?Ru
          case Ru=>exact rfl
          case Rr =>
           exact av
          case Rt =>
           exact ai
  have e2:bf (sg c) (u7 0)=bf (sg c) (Str.ofString "\n"):=by rw[T.lT]
  refine⟨_,rfl,rfl,_,rfl,bB (fun (h1:bf (sg c) (u7 0)=true)=>?_) (fun (h1:¬bf (sg c) (u7 0)=true)=>?_)⟩
  ·rw[e2] at h1
   exact vO (by unfold dI;rw[if_pos h1]) zC (aD.refl _) (.inr T.lB) k
  rw[e2] at h1
  refine⟨_,rfl,_,rfl,x,(az 43),dx,_,_,rfl,hx,T.aI,T.bL,rfl,_,_,rfl,rfl,_,rfl,bB (fun (h2:pL c p=true)=>?_) (fun (h2:¬pL c p=true)=>?_)⟩
  ·exact dY (by unfold dI;rw[if_neg h1,if_pos h2]) vP k
  refine⟨_,rfl,rfl,_,rfl,bB (fun (h3:bf (sg c) (" ":Str)=true)=>?_) (fun (h3:¬bf (sg c) (" ":Str)=true)=>?_)⟩
  ·refine⟨_,rfl,x,(az 43),dx,_,_,rfl,hx,T.aI,T.cC,rfl,_,rfl,bB (fun (h4:b3=true)=>?_) (fun (h4:¬b3=true)=>?_)⟩
   ·exact dY (by unfold dI;rw[if_neg h1,if_neg h2,if_pos h3,if_pos h4]) iM k
   exact rS (by unfold dI;rw[if_neg h1,if_neg h2,if_pos h3,if_neg h4]) k
  refine fL ?_
  exact rS (by unfold dI;rw[if_neg h1,if_neg h2,if_neg h3]) k
def jF (K:W.Frag) (C:Addr):Sp:=fun vs H Q _=>∃(x dx:Addr) (p q f:Str) (b1 b2 b3 b4:Bool) (u:Str) (c:Nat),vs=[.ref x,.str u,.str (sg c)]∧H x=some (.ins C dx (zB p q f b1 b2 b3 b4))∧∀ v H',aD H H'→tU K H' v (nk p b3 u c)→Q v H'
theorem pY:aE P w K mg base bz 2 (az 11) (aN 11) ["dialect", "quote", "sign"] (jF K (az 43)):=by
 have jj:aE P w K mg base bz 1 (az 10) (aN 10) ["dialect", "sign"] (iD K (az 43)):=lE T
 refine T.j8.ok pQ (fun vs H Q E h=>?_) (fun cdv A outer s H vs Q E hr h=>?_)
 ·obtain⟨x,dx,p,q,f,b1,b2,b3,b4,u,c,rfl,_⟩:=h;rfl
 ·have hu:=aX hr
  have gA:=hr.aQ
  obtain⟨x,dx,p,q,f,b1,b2,b3,b4,u,c,rfl,hx,k⟩:=h
  refine⟨_,(ah (aL (eY br (pv 2) (pv 1)) (ao (ay (aF (af av (af (aF (af av (af (pv 1) ai))) ai))))) aA)
   (ao (ay (eB jj hr T.mS T.jh.kp T.mR (af (pv 0) (af (pv 2) ai)))))),?_⟩
  refine⟨_,rfl,_,rfl,rfl,_,rfl,bB (fun (h1:bf (sg c) u=true)=>?_) (fun (h1:¬bf (sg c) u=true)=>?_)⟩
  ·exact⟨_,rfl,dY (by unfold nk;rw[if_pos h1]) ie k⟩
  refine⟨_,rfl,_,rfl,x,dx,p,q,f,b1,b2,b3,b4,c,rfl,hx,fun v H2 s2 r=>k v H2 s2 ?_⟩
  unfold nk
  rw[if_neg h1]
  exact r
def mV (K:W.Frag) (C:Addr):Sp:=fun vs H Q _=>∃(x dx:Addr) (p q f:Str) (b1 b2 b3 b4:Bool) (u:Str) (c:Nat),vs=[.ref x,.str u,.str (sg c)]∧H x=some (.ins C dx (zB p q f b1 b2 b3 b4))∧∀ v H',aD H H'→tU K H' v (jc b2 u c)→Q v H'
theorem ug:aE P w K mg base bz 1 (az 12) (aN 12) ["dialect", "quote", "sign"] (mV K (az 43)):=by
 refine T.oA.ok tX (fun vs H Q E h=>?_) (fun cdv A outer s H vs Q E hr h=>?_)
 ·obtain⟨x,dx,p,q,f,b1,b2,b3,b4,u,c,rfl,_⟩:=h;rfl
 ·have hu:=aX hr
  have gA:=hr.aQ
  obtain⟨x,dx,p,q,f,b1,b2,b3,b4,u,c,rfl,hx,k⟩:=h
  refine'⟨_,?aa,?bb⟩
  case aa =>
   refine' ah ?s0 ?r0
   case s0 =>
    refine' aL ?c1 ?b1 ?e1
    case c1=>exact(PW.pt (kB (eY br (pv 2) (lK rfl T.lS.choose_spec)) (iI (fM (cV (aU K rfl (pv 0) rfl))))))
    case b1 =>
     refine' ao ?s2
     case s2 =>
      refine' ay ?v3
      case v3 =>
       refine' aF ?a4
       case a4 =>
        refine' af ?x5 ?y5 ?z5
        case z5=>exact rfl
        case x5 =>
         exact av
        case y5 =>
         refine' af ?x6 ?y6 ?z6
         case z6=>exact rfl
         case x6 =>
          exact av
         case y6 =>
          exact ai
    case e1 =>
     exact aA
   case r0 =>
    refine' ao ?s7
    case s7 =>
     refine' ay ?v8
     case v8 =>
      refine' aF ?a9
      case a9 =>
       refine' af ?Rz ?RA ?RB
       case RB=>exact rfl
       case Rz =>
        exact av
       case RA =>
        refine' af ?RC ?RD ?RE
        case RE=>exact rfl
        case RC =>
         exact(kC (eY br (pv 1) av) (aF (af av (af av ai))) (aF (af av (af (pv 1) ai))))
        case RD =>
         exact ai
  have e2:bf (sg c) (u7 0)=bf (sg c) (Str.ofString "\n"):=by rw[T.lT]
  refine⟨_,rfl,rfl,_,rfl,bB (fun (h1:bf (sg c) (u7 0)=true)=>?_) (fun (h1:¬bf (sg c) (u7 0)=true)=>?_)⟩
  ·rw[e2] at h1
   refine⟨_,rfl,x,(az 43),dx,_,_,rfl,hx,T.aI,T.cB,rfl,_,rfl,bB (fun (h2:(!b2)=true)=>?_) (fun (h2:¬(!b2)=true)=>?_)⟩
   ·exact rS (by unfold jc;rw[if_pos h1,if_pos h2]) k
   refine⟨_,rfl,rfl,_,rfl,bB (fun (h9:bf u ("":Str)=true)=>?_) (fun (h9:¬bf u ("":Str)=true)=>?_)⟩
   ·exact dY (by unfold jc iN;rw[if_pos h1,if_neg h2,if_pos h9]) ie k
   exact⟨_,rfl,dY (by unfold jc iN;rw[if_pos h1,if_neg h2,if_neg h9]) ie k⟩
  rw[e2] at h1
  refine fL ?_
  refine⟨_,rfl,rfl,_,rfl,bB (fun (h9:bf u ("":Str)=true)=>?_) (fun (h9:¬bf u ("":Str)=true)=>?_)⟩
  ·exact dY (by unfold jc iN;rw[if_neg h1,if_pos h9]) ie k
  exact⟨_,rfl,dY (by unfold jc iN;rw[if_neg h1,if_neg h9]) ie k⟩
def jH (C CT:Addr):Sp:=fun vs H Q _=>∃(y dy x dx:Addr) (p q f:Str) (b1 b2 b3 b4:Bool),vs=[.ref y,.ref x]∧H y=some (.ins CT dy [])∧H x=some (.ins C dx (zB p q f b1 b2 b3 b4))∧Gd p q f∧∀ H',Tn C CT H' y p q f b1 b2 b3 b4→(∀ b o,H b=some o→b≠y→H' b=some o)→Q .non H'
theorem pZ:aE P w K mg base bz 6 (az 13) (aN 13) ["self", "dialect"] (jH (az 43) (az 44)):=by
 have tE:aE P w K mg base bz 1 (az 5) (aN 5) ["self"] (kc (az 43)):=qJ T
 have jX:aE P w K mg base bz 5 (az 6) (aN 6) ["told"] (ji (az 43)):=mU T
 refine T.qH.ok pR (fun vs H Q E h=>?_) (fun cdv A outer s H vs Q E hr h=>?_)
 ·obtain⟨y,dy,x,dx,p,q,f,b1,b2,b3,b4,rfl,_⟩:=h;rfl
 ·have hu:=aX hr
  have gA:=hr.aQ
  obtain⟨y,dy,x,dx,p,q,f,b1,b2,b3,b4,rfl,hy,hx,g,k⟩:=h
  refine⟨_,(ao (kE (pv 0) (eB jX hr T.oz T.jV.kp T.ow (af (Cs (k:=1) (pv 1) T.aI T.sO tE (hr.mono (by decide)) T.sN .nil jr) ai)) rfl)),?_⟩
  refine⟨_,rfl,x,dx,_,rfl,hx,rfl,x,dx,p,q,f,b1,b2,b3,b4,rfl,hx,fun t ht=>?_⟩
  have s1:=aq (o:=HO.tup (rR p q f b1 b2 b3 b4)) ht
  refine⟨t,p,q,f,b1,b2,b3,b4,rfl,aj,g,fun d dd H2 hd h2 s2=>?_⟩
  have s12:=s1.trans s2
  have YZ:d≠y:=fun e=>by subst e;rw[s1 _ _ hy] at hd;cases hd
  refine⟨_,rfl,y,(az 44),dy,_,rfl,s12 _ _ hy,T.iT,T.bu,(by show 0 < 1000;decide),?_⟩
  refine k _ ⟨⟨dy,d,dd,aj,(aC YZ).trans h2⟩⟩ fun b o e hb=>(aC hb).trans (s12 _ _ e)
def oO (K:W.Frag) (C CT:Addr):Sp:=fun vs H Q _=>∃(y s:Addr) (w u:Str) (c:Nat) (p q f:Str) (b1 b2 b3 b4:Bool),vs=[.ref y,.ref s,.str (sg c)]∧Tn C CT H y p q f b1 b2 b3 b4∧bh K H s [.str w,.str u]∧∀ v H',aD H H'→tU K H' v (bP p q f b1 b2 b3 b4 w u c)→Q v H'
theorem wz:aE P w K mg base bz 3 (az 14) (aN 14) ["self", "state", "sign"] (oO K (az 43) (az 44)):=by
 have mJ:aE P w K mg base bz 1 (az 7) (aN 7) ["dialect", "state", "sign"] (gg K (az 43)):=lC T
 have jj:aE P w K mg base bz 1 (az 10) (aN 10) ["dialect", "sign"] (iD K (az 43)):=lE T
 have wA:aE P w K mg base bz 1 (az 12) (aN 12) ["dialect", "quote", "sign"] (mV K (az 43)):=ug T
 have qK:aE P w K mg base bz 2 (az 11) (aN 11) ["dialect", "quote", "sign"] (jF K (az 43)):=pY T
 have qL:aE P w K mg base bz 1 (az 8) (aN 8) ["dialect", "sign"] (jE K (az 43)):=pX T
 have uh:aE P w K mg base bz 1 (az 9) (aN 9) ["dialect", "quote", "sign"] (lD K (az 43)):=tD T
 refine T.ym.ok jS (fun vs H Q E h=>?_) (fun cdv A outer s H vs Q E hr h=>?_)
 ·obtain⟨y,s,w,u,c,p,q,f,b1,b2,b3,b4,rfl,_⟩:=h;rfl
 ·have hu:=aX hr
  have gA:=hr.aQ
  obtain⟨y,s,w,u,c,p,q,f,b1,b2,b3,b4,rfl,hT,hs,k⟩:=h
  obtain⟨dy,d,dd,hy,hd⟩:=hT.ok
  refine⟨_,(ah (cY 3 jS.nd (ko K (pv 1) ak))
   (ah (cY 4 jS.nd (ko K (pv 1) ak))
   (ah (aL (eY br (pv 3) av) (ao (ay (eB qL hr T.qE T.j7.kp T.qD (af (aU K rfl (pv 0) rfl) (af (pv 2) ai))))) aA)
   (ah (aL (eY br (pv 3) av) (ao (ay (eB uh hr T.t9 T.mQ.kp T.tZ (af (aU K rfl (pv 0) rfl) (af (pv 4) (af (pv 2) ai)))))) aA)
   (ah (aL (eY br (pv 3) av) (ao (ay (eB qK hr T.qG T.j8.kp T.qF (af (aU K rfl (pv 0) rfl) (af (pv 4) (af (pv 2) ai)))))) aA)
   (ah (aL (eY br (pv 3) av) (ao (ay (eB jj hr T.mS T.jh.kp T.mR (af (aU K rfl (pv 0) rfl) (af (pv 2) ai))))) aA)
   (ah (aL (eY br (pv 3) av) (ao (ay (eB wA hr T.vZ T.oA.kp T.vY (af (aU K rfl (pv 0) rfl) (af (pv 4) (af (pv 2) ai)))))) aA)
   (ao (ay (eB mJ hr T.mF T.gC.kp T.mE (af (aU K rfl (pv 0) rfl) (af (pv 1) (af (pv 2) ai))))))))))))),?_⟩
  refine⟨_,rfl,s,_,_,_,rfl,rfl,hs,rfl,_,rfl,s,_,_,_,rfl,rfl,hs,rfl,?_⟩
  refine⟨_,rfl,rfl,_,rfl,bB (fun (h1:bf w ("plain":Str)=true)=>?_) (fun (h1:¬bf w ("plain":Str)=true)=>?_)⟩
  ·refine⟨_,rfl,y,(az 44),dy,_,_,rfl,hy,T.iT,T.bu,rfl,_,rfl,d,dd,p,q,f,b1,b2,b3,b4,c,rfl,hd,fun v H2 s2 r=>k v H2 s2 ?_⟩
   rw[Dk h1]
   exact r
  refine⟨_,rfl,rfl,_,rfl,bB (fun (h2:bf w ("within":Str)=true)=>?_) (fun (h2:¬bf w ("within":Str)=true)=>?_)⟩
  ·refine⟨_,rfl,y,(az 44),dy,_,_,rfl,hy,T.iT,T.bu,rfl,_,rfl,_,rfl,d,dd,p,q,f,b1,b2,b3,b4,u,c,rfl,hd,fun v H2 s2 r=>k v H2 s2 ?_⟩
   rw[Bx h2]
   exact r
  refine⟨_,rfl,rfl,_,rfl,bB (fun (h3:bf w ("doubt":Str)=true)=>?_) (fun (h3:¬bf w ("doubt":Str)=true)=>?_)⟩
  ·refine⟨_,rfl,y,(az 44),dy,_,_,rfl,hy,T.iT,T.bu,rfl,_,rfl,_,rfl,d,dd,p,q,f,b1,b2,b3,b4,u,c,rfl,hd,fun v H2 s2 r=>k v H2 s2 ?_⟩
   rw[Dm h3]
   exact r
  refine⟨_,rfl,rfl,_,rfl,bB (fun (h4:bf w ("behind":Str)=true)=>?_) (fun (h4:¬bf w ("behind":Str)=true)=>?_)⟩
  ·refine⟨_,rfl,y,(az 44),dy,_,_,rfl,hy,T.iT,T.bu,rfl,_,rfl,d,dd,p,q,f,b1,b2,b3,b4,c,rfl,hd,fun v H2 s2 r=>k v H2 s2 ?_⟩
   rw[By h4]
   exact r
  refine⟨_,rfl,rfl,_,rfl,bB (fun (h5:bf w ("freed":Str)=true)=>?_) (fun (h5:¬bf w ("freed":Str)=true)=>?_)⟩
  ·refine⟨_,rfl,y,(az 44),dy,_,_,rfl,hy,T.iT,T.bu,rfl,_,rfl,_,rfl,d,dd,p,q,f,b1,b2,b3,b4,u,c,rfl,hd,fun v H2 s2 r=>k v H2 s2 ?_⟩
   rw[Dn h5]
   exact r
  refine⟨_,rfl,y,(az 44),dy,_,_,rfl,hy,T.iT,T.bu,rfl,_,rfl,_,rfl,d,dd,p,q,f,b1,b2,b3,b4,s,w,u,c,rfl,hd,hs,fun v H2 s2 r=>k v H2 s2 ?_⟩
  rw[EN (xV h2) (xV h5) (xV h3) (xV h4)]
  unfold uU
  rw[if_neg h1]
  exact r
def d7:Sp:=fun vs H Q _=>∃ z:Str,vs=[.str z]∧bF z∧z.length≤2000∧∀ H',aD H H'→Q .non H'
theorem fU:aE P w K mg base bz 4 (az 15) (aN 15) ["thing"] d7:=by
 have BP:aE P w K mg base bz 3 (az 2) (aN 2) ["thing"] sZ:=zN T
 refine T.fE.ok tY (fun vs H Q E h=>?_) (fun cdv A outer s H vs Q E hr h=>?_)
 ·obtain⟨z,rfl,_⟩:=h;rfl
 ·have hu:=aX hr
  have gA:=hr.aQ
  obtain⟨z,rfl,g,hz,k⟩:=h
  refine⟨_,(ao (aL (fM (cV (eB BP hr T.BJ T.u9.kp T.BI (af (pv 0) ai)))) (ao gZ) aA)),?_⟩
  exact⟨_,rfl,z,rfl,g,hz,fun H1 s1=>⟨true,rfl,fL (k H1 s1)⟩⟩
def lU (K:W.Frag) (C:Addr):Sp:=fun vs H Q _=>∃(x dx:Addr) (z:Str) (p q f:Str) (b1 b2 b3 b4:Bool),vs=[.ref x,.str z]∧H x=some (.ins C dx (zB p q f b1 b2 b3 b4))∧Gd p q f∧bF z∧z.length≤2000∧∀(tw lk s:Addr) H',H' tw=some (.tup [.ref lk,.ref s,AG (runM p q f b1 b2 b3 b4 ("row":Str) ("":Str) z.cps.toList).2.2.2])→H lk=none→H' lk=some (.lst ((runM p q f b1 b2 b3 b4 ("row":Str) ("":Str) z.cps.toList).1.map V.str))→bh K H' s [.str (runM p q f b1 b2 b3 b4 ("row":Str) ("":Str) z.cps.toList).2.1,.str (runM p q f b1 b2 b3 b4 ("row":Str) ("":Str) z.cps.toList).2.2.1]→aD H H'→Q (.ref tw) H'
theorem oQ:aE P w K mg base bz 8 (az 16) (aN 16) ["dialect", "text"] (lU K (az 43)):=by
 have qM:aE P w K mg base bz 6 (az 13) (aN 13) ["self", "dialect"] (jH (az 43) (az 44)):=pZ T
 have yF:aE P w K mg base bz 3 (az 14) (aN 14) ["self", "state", "sign"] (oO K (az 43) (az 44)):=wz T
 have cM:aE P w K mg base bz 4 (az 15) (aN 15) ["thing"] d7:=fU T
 refine T.pT.ok jT (fun vs H Q E h=>?_) (fun cdv A outer s H vs Q E hr h=>?_)
 ·obtain⟨x,dx,z,p,q,f,b1,b2,b3,b4,rfl,_⟩:=h;rfl
 ·have hu:=aX hr
  have gA:=hr.aQ
  obtain⟨x,dx,z,p,q,f,b1,b2,b3,b4,rfl,hx,g,hz,hz2,k⟩:=h
  refine'⟨_,?aa,?bb⟩
  case aa =>
   refine' ah ?s0 ?r0
   case s0 =>
    exact(dD (eB cM hr T.gI T.fE.kp T.gH (af (pv 1) ai)))
   case r0 =>
    refine' ah ?s1 ?r1
    case s1 =>
     exact(cY 2 jT.nd (Af (k:=6) T.Iq qM (hr.mono (by decide)) rfl T.Ip T.qI .nil jr (af (pv 0) ai)))
    case r1 =>
     refine' ah ?s2 ?r2
     case s2 =>
      refine' cY 3 jT.nd ?v3
      case v3 =>
       refine' cH ?a4
       case a4 =>
        exact ai
     case r2 =>
      refine' ah ?s5 ?r5
      case s5 =>
       exact(cY 4 jT.nd (nU rfl T.lA))
      case r5 =>
       refine' ah ?s6 ?r6
       case s6 =>
        exact(cj PassesOwn.never rfl (vG (pv 1)) (fQ 5 jT.nd)
     (ah (cY 6 jT.nd (Er (k:=3) (pv 2) T.iT T.yp yF (hr.mono (by decide)) T.yo .nil jr (af (pv 4) (af (pv 5) ai))))
     (ah (aL (eY br (ko K (pv 6) ak) av) (ao (ay (aF (af (pv 3) (af (pv 4) (af (ko K (pv 6) ak) ai)))))) aA)
     (ah (dD (fO K rfl PySem.F.plainAttrs_list PySem.F.slot_list_append PySem.F.type_list_append cT (pv 3) (af (ko K (pv 6) ak) ai)))
     (ao (cY 4 jT.nd (ko K (pv 6) ak)))))))
       case r6 =>
        refine' ao ?s7
        case s7 =>
         refine' ay ?v8
         case v8 =>
          refine' aF ?a9
          case a9 =>
           refine' af ?Rz ?RA ?RB
           case RB=>exact rfl
           case Rz =>
            exact(pv 3)
           case RA =>
            refine' af ?RC ?RD ?RE
            case RE=>exact rfl
            case RC =>
             exact(pv 4)
            case RD =>
             refine' af ?Rw ?Rx ?Ry
             case Ry=>exact rfl
             case Rw =>
              exact gj
             case Rx =>
              exact ai
  refine⟨_,rfl,z,rfl,hz,hz2,fun H1 s1=>?_⟩
  refine⟨_,rfl,fun y dy hy Kc ne=>⟨y,dy,x,dx,p,q,f,b1,b2,b3,b4,rfl,aj,Dp hy Kc (s1 _ _ hx),g,fun H2 hT kp=>⟨rfl,?_⟩⟩⟩
  have s2:=s1.trans (BA hy Kc kp)
  refine⟨by decide,fun lk hlk=>?_⟩
  have s3:=aq (o:=HO.lst []) hlk
  have wY:H lk=none:=s2.free hlk
  refine⟨_,rfl,z,rfl,?_⟩
  refine Ak (fun i σ H4=>aD H H4∧∃(w u:Str) (s:Addr) (ks:List Str) (v1 v2:Option V),σ=[some (.ref x),some (.str z),some (.ref y),some (.ref lk),some (.ref s),v1,v2]∧Tn (az 43) (az 44) H4 y p q f b1 b2 b3 b4∧H4 lk=some (.lst (ks.map V.str))∧bh K H4 s [.str w,.str u]∧ks.length=i∧runM p q f b1 b2 b3 b4 ("row":Str) ("":Str) z.cps.toList=rT ks (runM p q f b1 b2 b3 b4 w u (z.cps.toList.drop i))) ⟨s2.trans s3,_,_,(az 45),[],_,_,rfl,hT.mono s3,aj,.inr T.lB,rfl,rfl⟩ ?_ ?_
  ·rintro i c σ H4 hi ⟨s4,w,u,s,ks,v1,v2,rfl,PB,h4,hs,Vd,er⟩
   rw[drop_cons hi] at er
   have hil:=(List.getElem?_eq_some_iff.mp hi).1
   rw[Array.length_toList] at hil
   have hil:i < z.length:=hil
   obtain⟨Y0,d4,dd4,Y3,ed4⟩:=PB.ok
   refine⟨_,rfl,y,Y0,_,rfl,Y3,rfl,_,rfl,_,rfl,y,s,w,u,c,p,q,f,b1,b2,b3,b4,rfl,PB,hs,fun v H5 s5 r=>?_⟩
   have h5:=s5 _ _ h4
   cases PD:bP p q f b1 b2 b3 b4 w u c with
   | go kd w3 u3 =>
    rw[PD] at r
    obtain⟨hk,a,b,rfl,ha,hb⟩:=r
    refine⟨_,rfl,a,_,_,_,rfl,rfl,ha,rfl,rfl,_,rfl,Dj hk ?_⟩
    refine⟨_,rfl,.inl ⟨rfl,_,aP.of h5⟩,_,rfl,a,_,_,_,rfl,rfl,ha,rfl,lk,_,_,rfl,rfl,h5,?_,?_⟩
    ·rw[List.length_map];exact Nat.lt_of_le_of_lt (show ks.length≤2000 by omega) (by decide)
    refine⟨_,rfl,a,_,_,_,rfl,rfl,AF h5 ha,rfl,aK wY (s4.trans s5),w3,u3,b,ks++[kd],_,_,rfl,Tn.but h5 (PB.mono s5),?_,AF h5 hb,by rw[List.length_append,Vd];rfl,er.trans (Ii PD)⟩
    rw[List.map_append];exact aj
   | nL e =>
    rw[PD] at r
    obtain⟨a,rfl,ha⟩:=r
    refine⟨_,rfl,a,_,_,_,rfl,rfl,ha,rfl,rfl,_,rfl,Di (dm _) ?_⟩
    refine⟨_,rfl,_,rfl,_,rfl,a,_,_,_,rfl,rfl,ha,rfl,(by show 3≤sizeLine;decide),fun t ht=>?_⟩
    have st:=aq (o:=HO.tup [.ref lk,.ref s,.str e]) ht
    rw[ER PD] at er
    refine k t lk s _ ?_ wY ?_ ?_ ((s4.trans s5).trans st)
    ·rw[er];exact aj
    ·rw[er];exact st _ _ h5
    ·rw[er];exact kK (s5.trans st) hs
  ·rintro σ H4 ⟨s4,w,u,s,ks,v1,v2,rfl,PB,h4,hs,Vd,er⟩
   rw[List.drop_length,ES] at er
   refine⟨_,rfl,_,rfl,(by show 3≤sizeLine;decide),fun t ht=>?_⟩
   have st:=aq (o:=HO.tup [.ref lk,.ref s,.non]) ht
   refine k t lk s _ ?_ wY ?_ ?_ (s4.trans st)
   ·rw[er];exact aj
   ·rw[er];exact st _ _ h4
   ·rw[er];exact kK st hs
def lV (K:W.Frag):Sp:=fun vs H Q _=>∃(tw lk s:Addr) (ks:List Str) (w u:Str) (o:Option Str),vs=[.ref tw]∧H tw=some (.tup [.ref lk,.ref s,AG o])∧H lk=some (.lst (ks.map V.str))∧bh K H s [.str w,.str u]∧(o=none→n5 w u=true→Q .non H)∧((o=none→n5 w u=false)→∀ t,H t=none→Q (.ref t) (upd H t (.tup [.int ks.length,.int (mC ks),.str (o.getD ("cut":Str))])))
theorem p7:aE P w K mg base bz 1 (az 17) (aN 17) ["walked"] (lV K):=by
 refine T.oB.ok pS (fun vs H Q E h=>?_) (fun cdv A outer s H vs Q E hr h=>?_)
 ·obtain⟨tw,lk,s,ks,w,u,o,rfl,_⟩:=h;rfl
 ·have hu:=aX hr
  have gA:=hr.aQ
  obtain⟨tw,lk,s,ks,w,u,o,rfl,ht,hk,hs,k1,k2⟩:=h
  have hT:bh K H tw [.ref lk,.ref s,AG o]:=bh.of ht
  refine⟨_,(ah (cY 1 pS.nd (ko K (pv 0) ak))
   (ah (cY 2 pS.nd (ko K (pv 0) ak))
   (ah (aL (PW.pt (kB (eY vq (pv 2) gj) (iI (eY (HB K rfl gA) (ko K (pv 0) ak) (nU rfl T.lA))))) (ao (ay gj)) aA)
   (ao (ay (aF (af (pJ (bO K rfl) T.eO (af (pv 1) ai)) (af (fO K rfl PySem.F.plainAttrs_list PySem.F.slot_list_count PySem.F.type_list_count (zj K rfl) (pv 1) (af av ai)) (af (kC (eY vq (pv 2) gj) av (pv 2)) ai))))))))),?_⟩
  refine⟨_,rfl,tw,_,_,_,rfl,rfl,hT,rfl,_,rfl,tw,_,_,_,rfl,rfl,hT,rfl,?_⟩
  cases o with
  | none =>
   refine⟨_,rfl,rfl,_,rfl,Di (decide_eq_true rfl) ?_⟩
   refine⟨_,rfl,tw,_,_,_,rfl,rfl,hT,rfl,s,(az 45),_,_,rfl,rfl,hs,.inr T.lB,rfl,rfl,_,rfl,bB (fun (h1:n5 w u=true)=>?_) (fun (h1:¬n5 w u=true)=>?_)⟩
   ·exact k1 rfl h1
   ·refine⟨_,rfl,lk,_,rfl,.inl (aP.of hk),_,rfl,.inl ⟨rfl,_,aP.of hk⟩,lk,_,_,rfl,rfl,aP.of hk,rfl,pM ks,_,rfl,rfl,_,rfl,Di (decide_eq_true rfl) ?_⟩
    rw[List.length_map]
    exact⟨(by show 3≤sizeLine;decide),fun t ht=>k2 (fun _=>xV h1) t ht⟩
  | some e =>
   refine⟨_,rfl,rfl,_,rfl,Dj (decide_eq_false (by intro z;cases z)) (fL ?_)⟩
   refine⟨_,rfl,lk,_,rfl,.inl (aP.of hk),_,rfl,.inl ⟨rfl,_,aP.of hk⟩,lk,_,_,rfl,rfl,aP.of hk,rfl,pM ks,_,rfl,rfl,_,rfl,Dj (decide_eq_false (by intro z;cases z)) ?_⟩
   rw[List.length_map]
   exact⟨_,rfl,(by show 3≤sizeLine;decide),fun t ht=>k2 (fun z=>by cases z) t ht⟩
def lF (K:W.Frag):Sp:=fun vs H Q _=>∃(z:Str) (lk:Addr) (ks:List Str),vs=[.str z,.ref lk]∧H lk=some (.lst (ks.map V.str))∧z.length≤2000∧∀(l:Addr) (es:List V) (H':Hp),H l=none→H' l=some (.lst es)→V.ref l∉es→es.Nodup→gi H H' es (cZ z ks)→aD H H'→Q (.ref l) H'
theorem qu:aE P w K mg base bz 1 (az 18) (aN 18) ["text", "kinds"] (lF K):=by
 refine T.nE.ok bQ (fun vs H Q E h=>?_) (fun cdv A outer s H vs Q E hr h=>?_)
 ·obtain⟨z,lk,ks,rfl,_⟩:=h;rfl
 ·have hu:=aX hr
  have gA:=hr.aQ
  obtain⟨z,lk,ks,rfl,hk,hz,k⟩:=h
  refine⟨_,(ah (cY 2 bQ.nd (cH ai))
   (ah (cY 3 bQ.nd (cH ai))
   (ah (cY 4 bQ.nd av)
   (ah (cj PassesOwn.never rfl (CO K rfl rfl T.Iv (af (pv 0) (af (pv 1) ai))) (dG K rfl 2 rfl (aM (fQ 5 bQ.nd) (aM (fQ 6 bQ.nd) dF)))
   (ao (aL (eY br (pv 6) av) (ao (cY 4 bQ.nd (aB cG (pv 4) (pv 5)))) (ao (aL (eY br (pv 6) av) (ah (dD (fO K rfl PySem.F.plainAttrs_list PySem.F.slot_list_append PySem.F.type_list_append cT (pv 3) (af (pv 4) ai)))
   (ao (cY 4 bQ.nd av))) (ao (aL (eY br (pv 6) av) (ah (dD (fO K rfl PySem.F.plainAttrs_list PySem.F.slot_list_append PySem.F.type_list_append cT (pv 3) (af (pv 4) ai)))
   (ah (dD (fO K rfl PySem.F.plainAttrs_list PySem.F.slot_list_append PySem.F.type_list_append cT (pv 2) (af (pv 3) ai)))
   (ah (cY 3 bQ.nd (cH ai))
   (ao (cY 4 bQ.nd av))))) aA)))))))
   (ao (ay (pv 2))))))),?_⟩
  refine⟨by decide,fun lt hlt=>?_⟩
  have s1:=aq (o:=HO.lst []) hlt
  refine⟨by decide,fun r0 hr0=>?_⟩
  have s2:=aq (o:=HO.lst []) hr0
  have a1:(upd (upd H lt (.lst [])) r0 (.lst [])) lt=some (.lst []):=s2 _ _ aj
  have a2:(upd (upd H lt (.lst [])) r0 (.lst [])) r0=some (.lst []):=aj
  have n0:r0≠lt:=fun q=>by rw[q,aj] at hr0;cases hr0
  have fr:=s1.free hr0
  have s12:=s1.trans s2
  generalize upd (upd H lt (.lst [])) r0 (.lst [])=H1 at a1 a2 s12 ⊢
  refine⟨_,rfl,_,rfl,z,lk,rfl,⟨_,aP.of (s12 _ _ hk)⟩,?_⟩
  have hz':z.cps.size≤2000:=hz
  have e0:("":Str).length=0:=by decide +kernel
  refine CP (K:=K) (z:=z) (b:=lk) (ys:=ks.map V.str) (fun i σ H2=>aD H H2∧∃ rr es row cell v5 v6,σ=[some (.str z),some (.ref lk),some (.ref lt),some (.ref rr),some (.str cell),v5,v6]∧H rr=none∧H2 lt=some (.lst es)∧H2 rr=some (.lst (row.map V.str))∧rr≠lt∧V.ref lt∉es∧V.ref rr∉es∧es.Nodup∧∃ rows,gi H H2 es rows∧dP n6 (z.cps.toList.take i) (ks.take i)=⟨rows,row,cell⟩∧cell.length≤i∧row.length≤i∧es.length≤i) ⟨s12,r0,[],[],_,_,_,rfl,fr,a1,a2,n0,by simp,by simp,List.nodup_nil,[],.nil,rfl,by rw[e0];exact Nat.le_refl _,Nat.le_refl _,Nat.le_refl _⟩ (fun i σ H2 _ q=>aP.of (q.1 _ _ hk)) ?_ ?_
  ·rintro i c y t σ H2 hc hy ht ⟨s3,rr,es,row,cell,v5,v6,rfl,IV,b1,b2,nr,n1,n2,nd,rows,rw',hg,l1,l2,l3⟩
   obtain⟨kd,hkd,rfl⟩:=qT hy
   have hil:=(Array.getElem?_eq_some_iff.mp hc).1
   have hc':z.cps.toList[i]? = some c:=by simpa using hc
   have BY:=uX n6 z.cps.toList ks i c kd hc' hkd
   rw[hg] at BY
   have st:=aq (o:=HO.tup [.str (sg c),.str kd]) ht
   refine⟨t,_,rfl,bh.of aj,rfl,_,_,rfl,_,_,rfl,rfl,?_⟩
   have s4:=s3.trans st
   replace b1:=st _ _ b1
   replace b2:=st _ _ b2
   replace rw':=gi.mono st rw'
   generalize upd H2 t (.tup [.str (sg c),.str kd])=H3 at s4 b1 b2 rw' ⊢
   clear st ht s3
   unfold pe at BY
   refine⟨_,rfl,rfl,_,rfl,bB (fun h1=>?_) (fun h1=>?_)⟩
   ·have h1:bf kd ("put":Str)=true:=h1
    rw[if_pos h1] at BY
    refine⟨_,rfl,_,rfl,_,_,rfl,rfl,Nat.le_trans (show cell.length+1≤2001 by omega) (by decide),?_⟩
    exact⟨s4,rr,es,row,_,_,_,rfl,IV,b1,b2,nr,n1,n2,nd,rows,rw',BY,by rw[jQ];show cell.length+1≤_;omega,by omega,by omega⟩
   have h1:¬bf kd ("put":Str)=true:=h1
   rw[if_neg h1] at BY
   refine⟨_,rfl,rfl,_,rfl,bB (fun h2=>?_) (fun h2=>?_)⟩
   ·have h2:bf kd ("part":Str)=true:=h2
    rw[if_pos h2] at BY
    refine⟨_,rfl,.inl ⟨rfl,_,aP.of b2⟩,_,rfl,rr,_,_,rfl,rfl,b2,by rw[List.length_map];exact Nat.lt_of_le_of_lt l2 (Nat.lt_of_lt_of_le (show i < 2001 by omega) (by decide)),?_⟩
    refine⟨aK IV s4,rr,es,row++[cell],_,_,_,rfl,IV,(aC (Ne.symm nr)).trans b1,by rw[aj,List.map_append];rfl,nr,n1,n2,nd,rows,gi.but n2 rw',BY,by rw[e0];omega,by rw[List.length_append];show row.length+1≤_;omega,by omega⟩
   have h2:¬bf kd ("part":Str)=true:=h2
   rw[if_neg h2] at BY
   refine⟨_,rfl,rfl,_,rfl,bB (fun h3=>?_) (fun h3=>?_)⟩
   ·have h3:bf kd ("end":Str)=true:=h3
    rw[if_pos h3] at BY
    refine⟨_,rfl,.inl ⟨rfl,_,aP.of b2⟩,_,rfl,rr,_,_,rfl,rfl,b2,by rw[List.length_map];exact Nat.lt_of_le_of_lt l2 (Nat.lt_of_lt_of_le (show i < 2001 by omega) (by decide)),?_⟩
    have c1:(upd H3 rr (.lst (row.map V.str++[.str cell]))) lt=some (.lst es):=(aC (Ne.symm nr)).trans b1
    refine⟨_,rfl,.inl ⟨rfl,_,aP.of c1⟩,_,rfl,lt,es,_,rfl,rfl,c1,Nat.lt_of_le_of_lt l3 (Nat.lt_of_lt_of_le (show i < 2001 by omega) (by decide)),?_⟩
    have s5:aD H (upd (upd H3 rr (.lst (row.map V.str++[.str cell]))) lt (.lst (es++[.ref rr]))):=aK hlt (aK IV s4)
    have d1:(upd (upd H3 rr (.lst (row.map V.str++[.str cell]))) lt (.lst (es++[.ref rr]))) lt=some (.lst (es++[.ref rr])):=aj
    have d2:(upd (upd H3 rr (.lst (row.map V.str++[.str cell]))) lt (.lst (es++[.ref rr]))) rr=some (.lst ((row++[cell]).map V.str)):=by rw[aC nr,aj,List.map_append];rfl
    have nl:V.ref lt∉es++[V.ref rr]:=fun q=>by
     rcases List.mem_append.mp q with q | q
     ·exact n1 q
     ·exact nr (V.ref.inj (List.mem_singleton.mp q)).symm
    have RG:gi H (upd (upd H3 rr (.lst (row.map V.str++[.str cell]))) lt (.lst (es++[.ref rr]))) (es++[.ref rr]) (rows++[row++[cell]]):=gi.app (gi.but n1 (gi.but n2 rw')) (.cons ⟨rr,rfl,IV,d2⟩ .nil)
    have Y4:(es++[V.ref rr]).Nodup:=List.nodup_append.mpr ⟨nd,by simp,fun x hx y hy e=>n2 (by rw[List.mem_singleton.mp hy] at e;exact e ▸ hx)⟩
    generalize upd (upd H3 rr (.lst (row.map V.str++[.str cell]))) lt (.lst (es++[.ref rr]))=H5 at s5 d1 d2 RG ⊢
    refine⟨by decide,fun r2 hr2=>?_⟩
    have sn:=aq (o:=HO.lst []) hr2
    have Y5:r2≠lt:=fun q=>by rw[q,d1] at hr2;cases hr2
    refine⟨s5.trans sn,r2,es++[.ref rr],[],_,_,_,rfl,s5.free hr2,sn _ _ d1,aj,Y5,nl,fun q=>?_,Y4,_,gi.mono sn RG,BY,by rw[e0];omega,Nat.zero_le _,by rw[List.length_append];show es.length+1≤_;omega⟩
    obtain⟨_,ys,hys⟩:=RG.has q
    rw[hys] at hr2;cases hr2
   have h3:¬bf kd ("end":Str)=true:=h3
   rw[if_neg h3] at BY
   exact⟨s4,rr,es,row,cell,_,_,rfl,IV,b1,b2,nr,n1,n2,nd,rows,rw',BY,by omega,by omega,by omega⟩
  ·rintro σ H2 ⟨s3,rr,es,row,cell,v5,v6,rfl,IV,b1,b2,nr,n1,n2,nd,rows,rw',hg,l1,l2,l3⟩
   refine⟨_,rfl,k lt es H2 hlt b1 n1 nd ?_ s3⟩
   have e:min z.cps.size (ks.map V.str).length=min z.cps.toList.length ks.length:=by
    have ez:z.cps.toList.length=z.cps.size:=Array.length_toList
    rw[List.length_map,ez]
   rw[e,ya] at hg
   have:cZ z ks=rows:=by unfold cZ;rw[hg]
   rw[this]
   exact rw'
def wB (K:W.Frag) (C:Addr):Sp:=fun vs H Q _=>∃(x dx:Addr) (z:Str) (p q f:Str) (b1 b2 b3 b4:Bool),vs=[.ref x,.str z]∧H x=some (.ins C dx (zB p q f b1 b2 b3 b4))∧Gd p q f∧bF z∧z.length≤2000∧dJ (runM p q f b1 b2 b3 b4 ("row":Str) ("":Str) z.cps.toList)=Str.ofString ""∧∀(l:Addr) (es:List V) (H':Hp),H l=none→H' l=some (.lst es)→V.ref l∉es→es.Nodup→gi H H' es (cZ z (runM p q f b1 b2 b3 b4 ("row":Str) ("":Str) z.cps.toList).1)→aD H H'→Q (.ref l) H'
theorem AM:aE P w K mg base bz 9 (az 19) (aN 19) ["dialect", "text"] (wB K (az 43)):=by
 have lG:aE P w K mg base bz 1 (az 17) (aN 17) ["walked"] (lV K):=p7 T
 have nH:aE P w K mg base bz 1 (az 18) (aN 18) ["text", "kinds"] (lF K):=qu T
 have jY:aE P w K mg base bz 8 (az 16) (aN 16) ["dialect", "text"] (lU K (az 43)):=oQ T
 refine T.v9.ok vX (fun vs H Q E h=>?_) (fun cdv A outer s H vs Q E hr h=>?_)
 ·obtain⟨x,dx,z,p,q,f,b1,b2,b3,b4,rfl,_⟩:=h;rfl
 ·have hu:=aX hr
  have gA:=hr.aQ
  obtain⟨x,dx,z,p,q,f,b1,b2,b3,b4,rfl,hx,g,hz,hz2,hw,k1⟩:=h
  have ok:=vV hw
  refine⟨_,(ah (cY 2 vX.nd (eB jY hr T.sQ T.pT.kp T.sP (af (pv 0) (af (pv 1) ai))))
   (ah (cY 3 vX.nd (eB lG hr T.sS T.oB.kp T.sR (af (pv 2) ai)))
   (ah (aL (eY vt (pv 3) gj) (ao gZ) aA)
   (ao (ay (eB nH hr T.sV T.nE.kp T.sU (af (pv 1) (af (ko K (pv 2) ak) ai)))))))),?_⟩
  refine⟨_,rfl,_,rfl,x,dx,z,p,q,f,b1,b2,b3,b4,rfl,hx,g,hz,hz2,fun tw lk s H1 ht wY hk hs s1=>?_⟩
  generalize runM p q f b1 b2 b3 b4 ("row":Str) ("":Str) z.cps.toList=r at ht hk hs k1 ok
  refine⟨_,rfl,tw,lk,s,r.1,r.2.1,r.2.2.1,r.2.2.2,rfl,ht,hk,hs,fun h1 h2=>?_,fun h1 t GG=>?_⟩
  ·refine⟨_,rfl,rfl,_,rfl,Dh (decide_eq_true rfl) ?_⟩
   refine⟨_,rfl,_,rfl,tw,_,_,_,rfl,rfl,bh.of ht,rfl,z,lk,r.1,rfl,hk,hz2,fun l es H2 hl hl2 nl nd Ke s2=>?_⟩
   exact k1 l es H2 (s1.free hl) hl2 nl nd (eF (fun a b ⟨c,e1,e2,e3⟩=>⟨c,e1,s1.free e2,e3⟩) Ke) (s1.trans s2)
  ·exfalso
   have:=h1 ok.1
   rw[ok.2.1,ok.2.2] at this
   exact absurd this (by decide +kernel)
def qv (K:W.Frag) (C:Addr):Sp:=fun vs H Q _=>∃(x dx:Addr) (z:Str) (p q f:Str) (b1 b2 b3 b4:Bool),vs=[.ref x,.str z]∧H x=some (.ins C dx (zB p q f b1 b2 b3 b4))∧Gd p q f∧bF z∧z.length≤2000∧(dJ (runM p q f b1 b2 b3 b4 ("row":Str) ("":Str) z.cps.toList)=Str.ofString ""→∀ H',aD H H'→Q .non H')∧(dJ (runM p q f b1 b2 b3 b4 ("row":Str) ("":Str) z.cps.toList)≠Str.ofString ""→∀ t H',H' t=some (.tup [.int ((runM p q f b1 b2 b3 b4 ("row":Str) ("":Str) z.cps.toList).1.length:Nat),.int (mC (runM p q f b1 b2 b3 b4 ("row":Str) ("":Str) z.cps.toList).1:Nat),.str (dJ (runM p q f b1 b2 b3 b4 ("row":Str) ("":Str) z.cps.toList))])→aD H H'→Q (.ref t) H')
theorem yG:aE P w K mg base bz 9 (az 20) (aN 20) ["dialect", "text"] (qv K (az 43)):=by
 have lG:aE P w K mg base bz 1 (az 17) (aN 17) ["walked"] (lV K):=p7 T
 have jY:aE P w K mg base bz 8 (az 16) (aN 16) ["dialect", "text"] (lU K (az 43)):=oQ T
 refine T.sW.ok yl (fun vs H Q E h=>?_) (fun cdv A outer s H vs Q E hr h=>?_)
 ·obtain⟨x,dx,z,p,q,f,b1,b2,b3,b4,rfl,_⟩:=h;rfl
 ·have hu:=aX hr
  have gA:=hr.aQ
  obtain⟨x,dx,z,p,q,f,b1,b2,b3,b4,rfl,hx,g,hz,hz2,k1,k2⟩:=h
  have hw:=fun e=>kL (p:=p) (q:=q) (f:=f) (b1:=b1) (b2:=b2) (b3:=b3) (b4:=b4) (w:=Str.ofString "row") (u:=Str.ofString "") (cs:=z.cps.toList) (e:=e)
  refine⟨_,(ao (ay (eB lG hr T.sS T.oB.kp T.sR (af (eB jY hr T.sQ T.pT.kp T.sP (af (pv 0) (af (pv 1) ai))) ai)))),?_⟩
  refine⟨_,rfl,_,rfl,x,dx,z,p,q,f,b1,b2,b3,b4,rfl,hx,g,hz,hz2,fun tw lk s H1 ht _ hk hs s1=>?_⟩
  generalize runM p q f b1 b2 b3 b4 ("row":Str) ("":Str) z.cps.toList=r at ht hk hs hw k1 k2
  refine⟨tw,lk,s,r.1,r.2.1,r.2.2.1,r.2.2.2,rfl,ht,hk,hs,fun h1 h2=>k1 (by unfold dJ;rw[h1];exact if_pos h2) H1 s1,fun h1 t GG=>?_⟩
  have st:=aq (o:=HO.tup [.int (r.1.length:Nat),.int (mC r.1:Nat),.str (r.2.2.2.getD ("cut":Str))]) GG
  have ew:dJ r=r.2.2.2.getD ("cut":Str):=by
   unfold dJ
   cases ho:r.2.2.2 with
   | some e=>rfl
   | none=>exact if_neg (by rw[h1 ho];decide)
  refine k2 ?_ t _ ?_ (s1.trans st)
  ·rw[ew]
   cases ho:r.2.2.2 with
   | some e=>exact fun q=>(hw e ho).1 q
   | none=>exact fun q=>absurd (congrArg (fun z=>bf z ("":Str)) q) (by decide +kernel)
  ·rw[ew];exact aj
def mW (K:W.Frag):Sp:=fun vs H Q _=>∃(lk:Addr) (ks:List Str),vs=[.ref lk]∧H lk=some (.lst (ks.map V.str))∧(yO 0 0 1 0 ks=none→∀ H',aD H H'→Q .non H')∧(∀ a b,yO 0 0 1 0 ks=some (a,b)→∀ t H',H' t=some (.tup [.int (a:Nat),.int (b:Nat),.str ("uneven":Str)])→aD H H'→Q (.ref t) H')
theorem um:aE P w K mg base bz 1 (az 21) (aN 21) ["kinds"] (mW K):=by
 refine T.oE.ok bq (fun vs H Q E h=>?_) (fun cdv A outer s H vs Q E hr h=>?_)
 ·obtain⟨lk,ks,rfl,_⟩:=h;rfl
 ·have hu:=aX hr
  have gA:=hr.aQ
  obtain⟨lk,ks,rfl,hk,k1,k2⟩:=h
  refine⟨_,(ah (cY 1 bq.nd ak)
   (ah (cY 2 bq.nd ak)
   (ah (cY 3 bq.nd ak)
   (ah (cj PassesOwn.never rfl (nV K rfl rfl T.gM (af (pv 0) ai)) (dG K rfl 2 rfl (aM (fQ 4 bq.nd) (aM (fQ 5 bq.nd) dF)))
   (ao (aL (eY br (pv 5) av) (ao (cY 3 bq.nd (aB bU (pv 3) ak))) (ao (aL (eY br (pv 5) av) (ah (aL (eY br (pv 2) ak) (ao (cY 1 bq.nd (pv 3))) (ao (aL (eY xo (pv 3) (pv 1)) (ao (ay (aF (af (pv 4) (af (pv 2) (af av ai)))))) aA)))
   (ah (cY 2 bq.nd (aB bU (pv 2) ak))
   (ao (cY 3 bq.nd ak)))) aA)))))
   (ao (ay gj)))))),?_⟩
  refine⟨_,rfl,lk,rfl,⟨_,aP.of hk⟩,?_⟩
  refine rE (K:=K) (a:=lk) (xs:=ks.map V.str) (fun i σ H2=>aD H H2∧∃(fi ro ce:Nat) (v4 v5:Option V),σ=[some (.ref lk),some (.int fi),some (.int ro),some (.int ce),v4,v5]∧yO 0 0 1 0 ks=yO fi ro ce i (ks.drop i)) ⟨aD.refl _,0,0,1,_,_,rfl,rfl⟩ (fun i σ H2 _ q=>aP.of (q.1 _ _ hk)) ?_ ?_
  ·rintro i x t σ H2 hx ht ⟨s2,fi,ro,ce,v4,v5,rfl,hu⟩
   obtain⟨kd,hkd,rfl⟩:=qT hx
   have st:=aq (o:=HO.tup [.int i,.str kd]) ht
   refine⟨t,_,rfl,bh.of aj,rfl,_,_,rfl,_,_,rfl,rfl,?_⟩
   have s3:=s2.trans st
   generalize upd H2 t (.tup [.int i,.str kd])=H3 at s3 ⊢
   rw[LA hkd,yb] at hu
   refine⟨_,rfl,rfl,_,rfl,bB (fun (h1:bf kd ("part":Str)=true)=>?_) (fun (h1:¬bf kd ("part":Str)=true)=>?_)⟩
   ·rw[if_pos h1] at hu
    exact⟨_,rfl,_,_,rfl,rfl,s3,fi,ro,ce+1,_,_,rfl,hu⟩
   rw[if_neg h1] at hu
   refine⟨_,rfl,rfl,_,rfl,bB (fun (h2:bf kd ("end":Str)=true)=>?_) (fun (h2:¬bf kd ("end":Str)=true)=>?_)⟩
   ·rw[if_pos h2] at hu
    refine⟨_,rfl,rfl,_,rfl,Ic (fun h3=>?_) (fun h3=>?_)⟩
    ·have h3:ro=0:=by omega
     rw[if_pos h3] at hu
     subst h3
     exact⟨_,rfl,_,rfl,_,_,rfl,rfl,s3,ce,1,1,_,_,rfl,hu⟩
    ·have h3:¬ro=0:=fun q=>h3 (by rw[q];rfl)
     rw[if_neg h3] at hu
     refine⟨_,rfl,_,rfl,rfl,_,rfl,Lx (fun h4=>?_) (fun h4=>?_)⟩
     ·have h4:¬ce=fi:=fun q=>h4 (by rw[q])
      rw[if_neg h4] at hu
      exact⟨_,rfl,_,rfl,(by show 3≤sizeLine;decide),fun u PF=>k2 _ _ hu u _ aj (s3.trans (aq PF))⟩
     ·have h4:ce=fi:=by omega
      rw[if_pos h4] at hu
      exact⟨_,rfl,_,_,rfl,rfl,s3,fi,ro+1,1,_,_,rfl,hu⟩
   ·rw[if_neg h2] at hu
    exact⟨s3,fi,ro,ce,_,_,rfl,hu⟩
  ·rintro σ H2 ⟨s2,fi,ro,ce,v4,v5,rfl,hu⟩
   rw[List.length_map,List.drop_eq_nil_of_le (Nat.le_refl _)] at hu
   exact k1 hu H2 s2
def jZ (K:W.Frag):Sp:=fun vs H Q _=>∃(tw lk s:Addr) (ev:Bool) (ks:List Str) (w u:Str) (o:Option Str),vs=[.ref tw,.bl ev]∧H tw=some (.tup [.ref lk,.ref s,AG o])∧H lk=some (.lst (ks.map V.str))∧bh K H s [.str w,.str u]∧(∀ e,o=some e→e≠Str.ofString "")∧∀ v H',uY (cA ev (ks,w,u,o)) H' v→aD H H'→Q v H'
theorem nI:aE P w K mg base bz 2 (az 22) (aN 22) ["walked", "even"] (jZ K):=by
 have lG:aE P w K mg base bz 1 (az 17) (aN 17) ["walked"] (lV K):=p7 T
 have wC:aE P w K mg base bz 1 (az 21) (aN 21) ["kinds"] (mW K):=um T
 refine T.lQ.ok sH (fun vs H Q E h=>?_) (fun cdv A outer s H vs Q E hr h=>?_)
 ·obtain⟨tw,lk,s,ev,ks,w,u,o,rfl,_⟩:=h;rfl
 ·have hu:=aX hr
  have gA:=hr.aQ
  obtain⟨tw,lk,s,ev,ks,w,u,o,rfl,ht,hk,hs,hne,k⟩:=h
  refine⟨_,(ah (cY 2 sH.nd (kC (cV (pv 1)) (eB wC hr T.wg T.oE.kp T.wc (af (ko K (pv 0) ak) ai)) gj))
   (ao (ay (kC (eY vq (pv 2) gj) (eB lG hr T.sS T.oB.kp T.sR (af (pv 0) ai)) (pv 2))))),?_⟩
  refine⟨_,rfl,ev,rfl,?_⟩
  cases ev with
  | false =>
   refine fL ?_
   refine⟨_,rfl,rfl,_,rfl,Pw rfl ⟨_,rfl,tw,lk,s,ks,w,u,o,rfl,ht,hk,hs,fun ho IW=>k _ _ (Dv ho IW) (aD.refl H),fun DQ t5 GG=>k _ _ (Dw DQ hne aj) (aq GG)⟩⟩
  | true =>
   refine rA ⟨_,rfl,tw,_,_,_,rfl,rfl,bh.of ht,rfl,lk,ks,rfl,hk,fun hu H1 s1=>?_,fun a b hu t H1 hh s1=>?_⟩
   ·have e:cA true (ks,w,u,o)=bS (ks,w,u,o):=by unfold cA;rw[if_pos rfl,hu]
    rw[e] at k
    refine⟨_,rfl,rfl,_,rfl,Pw rfl ⟨_,rfl,tw,lk,s,ks,w,u,o,rfl,s1 _ _ ht,s1 _ _ hk,kK s1 hs,fun ho IW=>k _ _ (Dv ho IW) s1,fun DQ t5 GG=>k _ _ (Dw DQ hne aj) (s1.trans (aq GG))⟩⟩
   ·have e:cA true (ks,w,u,o)=some (a,b,Str.ofString "uneven"):=by unfold cA;rw[if_pos rfl,hu]
    rw[e] at k
    exact⟨_,rfl,rfl,_,rfl,Ib (fun z=>nomatch z) ⟨_,rfl,k _ _ ⟨t,rfl,hh⟩ s1⟩⟩
def lW (K:W.Frag) (C:Addr):Sp:=fun vs H Q _=>∃(ld:Addr) (z:Str) (ev:Bool) (xs:List V) (cs:List dO),vs=[.ref ld,.str z,.bl ev]∧H ld=some (.lst xs)∧nN C H xs cs∧(∀ x∈cs,vQ x)∧cs.length≤60∧bF z∧z.length≤2000∧∀ l ps fs H',H l=none→H' l=some (.lst ps)→pO H' ps fs→fs.Perm (dQ ev z cs cs.length)→fs.Pairwise (fun x y=>kq x < kq y)→aD H H'→Q (.ref l) H'
theorem p8:aE P w K mg base bz 9 (az 23) (aN 23) ["dialects", "text", "even"] (lW K (az 43)):=by
 have cM:aE P w K mg base bz 4 (az 15) (aN 15) ["thing"] d7:=fU T
 have jI:aE P w K mg base bz 2 (az 22) (aN 22) ["walked", "even"] (jZ K):=nI T
 have jY:aE P w K mg base bz 8 (az 16) (aN 16) ["dialect", "text"] (lU K (az 43)):=oQ T
 refine T.jC.ok jA (fun vs H Q E h=>?_) (fun cdv A outer s H vs Q E hr h=>?_)
 ·obtain⟨ld,z,ev,xs,cs,rfl,_⟩:=h;rfl
 ·have hu:=aX hr
  have gA:=hr.aQ
  obtain⟨ld,z,ev,xs,cs,rfl,hd,mk,gd,hc,hz,uf,k⟩:=h
  have BZ:=mk.length
  refine⟨_,(ah (dD (eB cM hr T.gI T.fE.kp T.gH (af (pv 1) ai)))
   (ah (cY 3 jA.nd (cH ai))
   (ah (cj PassesOwn.never rfl (nV K rfl rfl T.gM (af (pv 0) ai)) (dG K rfl 2 rfl (aM (fQ 4 jA.nd) (aM (fQ 5 jA.nd) dF)))
   (ah (cY 6 jA.nd (eB jI hr T.pV T.lQ.kp T.pU (af (eB jY hr T.sQ T.pT.kp T.sP (af (pv 5) (af (pv 1) ai))) (af (pv 2) ai))))
   (ao (aL (eY vt (pv 6) gj) (ao (dD (fO K rfl PySem.F.plainAttrs_list PySem.F.slot_list_append PySem.F.type_list_append cT (pv 3) (af (aF (af (ko K (pv 6) ak) (af (pv 4) (af (ko K (pv 6) ak) (af (ko K (pv 6) ak) ai))))) ai)))) aA))))
   (ao (ay (pJ (tT K rfl) T.ve (af (pv 3) ai))))))),?_⟩
  refine⟨_,rfl,_,rfl,hz,(by omega),fun H1 s1=>⟨(by decide),fun l hl=>⟨_,rfl,_,rfl,⟨_,aP.of (aq hl _ _ (s1 _ _ hd))⟩,?_⟩⟩⟩
  (have sA:=aq (o:=HO.lst []) hl;have h2:=aj (H:=H1) (a:=l) (o:=HO.lst []);generalize upd H1 l (HO.lst [])=A at sA h2 ⊢)
  have s2:=s1.trans sA
  have wY:=s1.free hl
  refine rE (K:=K) (a:=ld) (xs:=xs) (fun i σ H3=>aD H H3∧∃(ps:List V) (v4 v5 v6:Option V),σ=[some (.ref ld),some (.str z),some (.bl ev),some (.ref l),v4,v5,v6]∧H3 l=some (.lst ps)∧pO H3 ps (dQ ev z cs i)∧ps.length≤i) ⟨s2,[],_,_,_,rfl,h2,.nil,Nat.le_refl _⟩ (fun i σ H3 _ q=>aP.of (q.1 _ _ hd)) ?_ ?_
  ·rintro i e t σ H3 hi ht ⟨s3,ps,v4,v5,v6,rfl,h3,fl,hpl⟩
   obtain⟨x,hx,y,dy,rfl,hy⟩:=aS mk i e hi
   have hil:i < cs.length:=(List.getElem?_eq_some_iff.mp hx).1
   refine⟨t,_,rfl,bh.of aj,rfl,_,_,rfl,_,_,rfl,rfl,?_⟩
   (have s4:=aq (o:=HO.tup [V.int ↑i,V.ref y]) ht;have q4:=aj (H:=H3) (a:=t) (o:=HO.tup [V.int ↑i,V.ref y]);generalize upd H3 t (HO.tup [V.int ↑i,V.ref y])=H4 at s4 q4 ⊢)
   have gx:=gd x (List.mem_of_getElem? hx)
   have hw:=fun e=>kL (p:=x.1) (q:=x.2.1) (f:=x.2.2.1) (b1:=x.2.2.2.a) (b2:=x.2.2.2.b) (b3:=x.2.2.2.c) (b4:=x.2.2.2.d) (w:=Str.ofString "row") (u:=Str.ofString "") (cs:=z.cps.toList) (e:=e)
   refine⟨_,rfl,_,rfl,y,dy,z,x.1,x.2.1,x.2.2.1,x.2.2.2.a,x.2.2.2.b,x.2.2.2.c,x.2.2.2.d,rfl,s4 _ _ (s3 _ _ hy),gx,hz,uf,fun tw lk s H5 h5 Y6 hk hs s5=>?_⟩
   refine⟨_,rfl,tw,lk,s,ev,_,_,_,_,rfl,h5,hk,hs,fun e he=>(hw e he).1,fun v H6 hv s6=>?_⟩
   have hv:uY (cA ev (runC x z)) H6 v:=hv
   have es:=iw ev z cs i
   have zO:=(s4.trans s5).trans s6
   cases ef:cA ev (runC x z) with
   | none =>
    rw[ef] at hv
    have hv:v=.non:=hv
    subst hv
    have ea:bZ ev z cs i=[]:=by unfold bZ;rw[hx];show(match cA ev (runC x z) with | some (a,b,w)=>[(a,i,b,w)] | none=>[])=[];rw[ef]
    rw[ea,List.append_nil] at es
    have Ve:=pO.mono zO fl
    rw[←es] at Ve
    dsimp only[gv]
    refine⟨_,rfl,rfl,_,rfl,U6 rfl (⟨(s3.trans zO),_,_,_,_,rfl,(zO _ _ h3),Ve,?_⟩)⟩
    omega
   | some LR =>
    obtain⟨fa,fb,fw⟩:=LR
    rw[ef] at hv
    obtain⟨t6,rfl,LS⟩:=hv
    have ea:bZ ev z cs i=[(fa,i,fb,fw)]:=by unfold bZ;rw[hx];show(match cA ev (runC x z) with | some (a,b,w)=>[(a,i,b,w)] | none=>[])=_;rw[ef]
    rw[ea] at es
    dsimp only[gv]
    have hb:ps.length < sizeLine:=Nat.lt_of_le_of_lt (show ps.length≤100 by omega) (by decide)
    refine⟨_,rfl,rfl,_,rfl,Lw (fun z=>nomatch z) (⟨_,rfl,.inl ⟨rfl,⟨_,aP.of (zO _ _ h3)⟩⟩,_,rfl,_,_,_,_,rfl,rfl,bh.of LS,rfl,_,rfl,_,rfl,_,_,_,_,rfl,rfl,bh.of LS,rfl,_,rfl,_,_,_,_,rfl,rfl,bh.of LS,rfl,(by show(4:Nat)≤sizeLine;decide),fun t7 Kf=>⟨_,_,_,rfl,rfl,(aq Kf _ _ (zO _ _ h3)),(by omega),(aK wY (aK ((s3.trans zO).free Kf) (s3.trans zO))),_,_,_,_,rfl,aj,?_,?_⟩⟩)⟩
    ·have n7:t7≠l:=fun q=>by rw[q,zO _ _ h3] at Kf;cases Kf
     rw[es]
     exact eG (pO.put (aq Kf _ _ (zO _ _ h3)) (pO.mono (aq Kf) (pO.mono zO fl))) (.cons ⟨t7,rfl,(aC n7).trans aj⟩ .nil)
    ·rw[List.length_append];show ps.length+1≤_;omega
  ·rintro σ H3 ⟨s3,ps,v4,v5,v6,rfl,h3,fl,hpl⟩
   rw[BZ] at fl hpl
   obtain⟨gs,rfl,hfs,hgs⟩:=rX fl
   have hnd:=iP ev z cs cs.length
   rw[←hfs] at hnd k
   refine⟨_,rfl,l,gs.map fun g=>(g.1,(g.2.1:Int),(g.2.2.1:Int)),rfl,aP.of (by rw[List.map_map];exact h3),by rw[List.length_map];rw[List.length_map] at hpl;omega,fun t ht=>?_,by rw[List.map_map];rw[List.map_map] at hnd;exact hnd,fun us Ls AE l' hl'=>?_⟩
   ·obtain⟨g,hg,rfl⟩:=List.mem_map.mp ht
    have hp:=iO g.2 (by rw[←hfs];exact List.mem_map.mpr ⟨g,hg,rfl⟩)
    exact⟨Int.natCast_nonneg _,by show(g.2.2.1:Int) < 1000000;omega,_,hgs g hg⟩
   ·obtain⟨gs',rfl,Kg⟩:=yc Ls gs rfl
    refine k l' _ (gs'.map (·.2)) _ (s3.free hl') aj ?_ (Kg.map _) ?_ (s3.trans (aq hl'))
    ·refine pO.mono (aq hl') ?_
     rw[List.map_map]
     exact Dy fun g hg=>hgs g (Kg.mem_iff.mp hg)
    ·rw[List.pairwise_map] at AE ⊢
     exact AE
def vg (K:W.Frag) (C:Addr):Sp:=fun vs H Q _=>∃(ld:Addr) (z:Str) (ev:Bool) (xs:List V) (cs:List dO),vs=[.ref ld,.str z,.bl ev]∧H ld=some (.lst xs)∧nN C H xs cs∧(∀ x∈cs,vQ x)∧cs.length≤60∧bF z∧z.length≤2000∧∀ l gs H',Tks H H' l gs (je ev z cs cs.length)→aD H H'→Q (.ref l) H'
theorem BQ:aE P w K mg base bz 9 (az 24) (aN 24) ["dialects", "text", "even"] (vg K (az 43)):=by
 have cM:aE P w K mg base bz 4 (az 15) (aN 15) ["thing"] d7:=fU T
 have jI:aE P w K mg base bz 2 (az 22) (aN 22) ["walked", "even"] (jZ K):=nI T
 have nH:aE P w K mg base bz 1 (az 18) (aN 18) ["text", "kinds"] (lF K):=qu T
 have jY:aE P w K mg base bz 8 (az 16) (aN 16) ["dialect", "text"] (lU K (az 43)):=oQ T
 refine T.yq.ok jB (fun vs H Q E h=>?_) (fun cdv A outer s H vs Q E hr h=>?_)
 ·obtain⟨ld,z,ev,xs,cs,rfl,_⟩:=h;rfl
 ·have hu:=aX hr
  have gA:=hr.aQ
  obtain⟨ld,z,ev,xs,cs,rfl,hd,mk,gd,hc,hz,uf,k⟩:=h
  have BZ:=mk.length
  refine⟨_,(ah (dD (eB cM hr T.gI T.fE.kp T.gH (af (pv 1) ai)))
   (ah (cY 3 jB.nd (cH ai))
   (ah (cj PassesOwn.never rfl (nV K rfl rfl T.gM (af (pv 0) ai)) (dG K rfl 2 rfl (aM (fQ 4 jB.nd) (aM (fQ 5 jB.nd) dF)))
   (ah (cY 6 jB.nd (eB jY hr T.sQ T.pT.kp T.sP (af (pv 5) (af (pv 1) ai))))
   (ao (aL (eY vq (eB jI hr T.pV T.lQ.kp T.pU (af (pv 6) (af (pv 2) ai))) gj) (ao (dD (fO K rfl PySem.F.plainAttrs_list PySem.F.slot_list_append PySem.F.type_list_append cT (pv 3) (af (aF (af (pv 4) (af (eB nH hr T.sV T.nE.kp T.sU (af (pv 1) (af (ko K (pv 6) ak) ai))) ai))) ai)))) aA))))
   (ao (ay (pv 3)))))),?_⟩
  refine⟨_,rfl,_,rfl,hz,(by omega),fun H1 s1=>⟨(by decide),fun l hl=>⟨_,rfl,_,rfl,⟨_,aP.of (aq hl _ _ (s1 _ _ hd))⟩,?_⟩⟩⟩
  (have sA:=aq (o:=HO.lst []) hl;have h2:=aj (H:=H1) (a:=l) (o:=HO.lst []);generalize upd H1 l (HO.lst [])=A at sA h2 ⊢)
  have s2:=s1.trans sA
  have wY:=s1.free hl
  refine rE (K:=K) (a:=ld) (xs:=xs) (fun i σ H3=>aD H H3∧∃(gs:List jd) (v4 v5 v6:Option V),σ=[some (.ref ld),some (.str z),some (.bl ev),some (.ref l),v4,v5,v6]∧Tks H H3 l gs (je ev z cs i)∧gs.length≤i) ⟨s2,[],_,_,_,rfl,⟨h2,rfl,(fun g hg=>by cases hg),by simp,wY⟩,Nat.le_refl _⟩ (fun i σ H3 _ q=>aP.of (q.1 _ _ hd)) ?_ ?_
  ·rintro i e t σ H3 hi ht ⟨s3,gs,v4,v5,v6,rfl,tk,D8⟩
   obtain⟨x,hx,y,dy,rfl,hy⟩:=aS mk i e hi
   have hil:i < cs.length:=(List.getElem?_eq_some_iff.mp hx).1
   refine⟨t,_,rfl,bh.of aj,rfl,_,_,rfl,_,_,rfl,rfl,?_⟩
   (have s4:=aq (o:=HO.tup [V.int ↑i,V.ref y]) ht;have q4:=aj (H:=H3) (a:=t) (o:=HO.tup [V.int ↑i,V.ref y]);generalize upd H3 t (HO.tup [V.int ↑i,V.ref y])=H4 at s4 q4 ⊢)
   have gx:=gd x (List.mem_of_getElem? hx)
   have hw:=fun e=>kL (p:=x.1) (q:=x.2.1) (f:=x.2.2.1) (b1:=x.2.2.2.a) (b2:=x.2.2.2.b) (b3:=x.2.2.2.c) (b4:=x.2.2.2.d) (w:=Str.ofString "row") (u:=Str.ofString "") (cs:=z.cps.toList) (e:=e)
   refine⟨_,rfl,_,rfl,y,dy,z,x.1,x.2.1,x.2.2.1,x.2.2.2.a,x.2.2.2.b,x.2.2.2.c,x.2.2.2.d,rfl,s4 _ _ (s3 _ _ hy),gx,hz,uf,fun tw lk s H5 h5 Y6 hk hs s5=>?_⟩
   refine⟨_,rfl,_,rfl,tw,lk,s,ev,_,_,_,_,rfl,h5,hk,hs,fun e he=>(hw e he).1,fun v H6 hv s6=>?_⟩
   have hv:uY (cA ev (runC x z)) H6 v:=hv
   have PJ:=rY ev z cs i
   have zO:=(s4.trans s5).trans s6
   have LU:=tk.mono zO
   cases ef:cA ev (runC x z) with
   | some LR =>
    obtain⟨fa,fb,fw⟩:=LR
    rw[ef] at hv
    obtain⟨t6,rfl,LS⟩:=hv
    rw[(r8 hx ef).1,List.append_nil] at PJ
    rw[←PJ] at LU
    refine⟨rfl,_,rfl,Ib (fun z=>nomatch z) ⟨s3.trans zO,gs,_,_,_,rfl,LU,by omega⟩⟩
   | none =>
    rw[ef] at hv
    have hv:v=.non:=hv
    subst hv
    rw[(rZ hx ef).1] at PJ
    refine⟨rfl,_,rfl,Pw rfl ?_⟩
    have gml:(gs.map fun g=>V.ref g.t).length=gs.length:=List.length_map _
    refine⟨_,rfl,.inl ⟨rfl,_,aP.of LU.ls⟩,_,rfl,_,rfl,_,rfl,tw,_,_,_,rfl,rfl,bh.of (s6 _ _ h5),rfl,z,lk,(runC x z).1,rfl,s6 _ _ hk,uf,fun lt es H7 hlt h7 n1 nd rws s7=>?_⟩
    refine⟨(by show 2≤sizeLine;decide),fun u PF=>?_⟩
    have su:=aq (o:=HO.tup [.int i,.ref lt]) PF
    refine⟨l,_,_,rfl,rfl,(s7.trans su) _ _ LU.ls,Nat.lt_of_le_of_lt (show(gs.map fun g=>V.ref g.t).length≤100 by omega) (by decide),?_⟩
    refine⟨aK wY ((s3.trans zO).trans (s7.trans su)),gs++[⟨i,u,lt,es,cZ z (runC x z).1⟩],_,_,_,rfl,?_,by rw[List.length_append];show gs.length+1≤_;omega⟩
    rw[PJ]
    exact LU.snoc (s3.trans zO) hlt s7 h7 n1 nd rws PF
  ·rintro σ H3 ⟨s3,gs,v4,v5,v6,rfl,tk,D8⟩
   rw[BZ] at tk
   exact⟨_,rfl,k l gs H3 tk s3⟩
def tF (K:W.Frag):Sp:=fun vs H Q _=>∃(l:Addr) (ps:List V) (fs:List F4),vs=[.ref l]∧H l=some (.lst ps)∧pO H ps fs∧fs.length≤100∧(fs=[]→∀ H',aD H H'→Q .non H')∧(∀ f,kP fs=some f→∀ t H',H' t=some (.tup [.int f.2.1,.int f.2.2.1,.int f.1,.str f.2.2.2])→aD H H'→Q (.ref t) H')
theorem zP:aE P w K mg base bz 1 (az 25) (aN 25) ["falls"] (tF K):=by
 refine T.vd.ok sI (fun vs H Q E h=>?_) (fun cdv A outer s H vs Q E hr h=>?_)
 ·obtain⟨l,ps,fs,rfl,_⟩:=h;rfl
 ·have hu:=aX hr
  have gA:=hr.aQ
  obtain⟨l,ps,fs,rfl,hl,fl,hf,k1,k2⟩:=h
  obtain⟨gs,rfl,rfl,hgs⟩:=rX fl
  rw[List.length_map] at hf
  refine⟨_,(ah (aL (eY (zk K rfl gA) (pv 0) (cH ai)) (ao (ay gj)) aA)
   (ah (cY 1 sI.nd (o9 K (fS rfl (show bw ["falls", "farthest"] (au gY) ["fall", "falls"] 1 [0] _ from De) (ck K rfl (pv 0)) (fun _ _ _ _=>(fQ 0 (show(["fall", "falls"]:List Str).Nodup by decide +kernel))) (fun _ _ _ _=>(qQ (eY br (ko K (pv 0) ak) (ko K (o9 K (pv 1) (Cg yU ak)) ak)))) (fun _ _ _ _=>(pv 0))) ak))
   (ao (ay (aF (af (ko K (pv 1) ak) (af (ko K (pv 1) ak) (af (ko K (pv 1) ak) (af (ko K (pv 1) ak) ai))))))))),?_⟩
  cases D8:gs.getLast? with
  | none =>
   have e0:gs=[]:=List.getLast?_eq_none_iff.mp D8
   subst e0
   refine⟨_,rfl,(by decide),fun p hp=>⟨_,_,_,rfl,rfl,aP.of (aq hp _ _ hl),aP.of aj,_,rfl,rA (k1 rfl _ (aK hp (aD.refl _)))⟩⟩
  | some zl =>
   have hne:gs≠[]:=fun e=>by rw[e] at D8;cases D8
   have LV:zl∈gs:=List.mem_of_getLast? D8
   have emp:(gs.map fun g=>V.ref g.1).isEmpty=false:=by cases gs with | nil=>exact absurd rfl hne | cons _ _=>rfl
   have RH:vv (gs.map fun g=>V.ref g.1) (-1)=some (.ref zl.1):=by
    have hlen:0 < gs.length:=List.length_pos_iff.mpr hne
    have e1:Gv (gs.map fun g=>V.ref g.1).length (-1)=some (gs.length - 1):=by
     rw[List.length_map]
     show(if (0:Int)≤-1 then _ else if -((gs.length:Nat):Int)≤-1 then some (-1+((gs.length:Nat):Int)).toNat else none)=_
     rw[if_neg (by decide),if_pos (by omega)]
     congr 1
     omega
    unfold vv
    rw[e1]
    show(gs.map fun g=>V.ref g.1)[gs.length - 1]? = _
    rw[List.getElem?_map,←List.getLast?_eq_getElem?,D8];rfl
   have hz1:=hgs zl LV
   refine⟨_,rfl,(by decide),fun p hp=>⟨_,_,_,rfl,rfl,aP.of (aq hp _ _ hl),aP.of aj,_,rfl,QX emp (⟨_,rfl,_,rfl,⟨_,aP.of (aq hp _ _ hl)⟩,fun D hD=>?_⟩)⟩⟩
   (have s1':=aq (o:=HO.lst []) hp;have q1:=aj (H:=H) (a:=p) (o:=HO.lst []);generalize upd H p (HO.lst [])=H1 at s1' q1 hD ⊢)
   have s1:=s1'
   refine jt (K:=K) (a:=l) (xs:=gs.map fun g=>V.ref g.1) (fun i ys τ J=>(∃ v,τ=[v,some (.ref l)])∧aD H1 J∧J D=some (.lst ys)∧ys=(kO (gs.take i) zl.2.1).map fun g=>V.ref g.1) ⟨⟨_,rfl⟩,aq hD,aj,rfl⟩ (fun i ys τ J _ q=>⟨aP.of (q.2.1 _ _ (s1 _ _ hl)),q.2.2.1⟩) ?_ ?_
   ·rintro i y ys τ J hi ⟨⟨v,rfl⟩,sJ,hl3,rfl⟩
    rw[List.getElem?_map] at hi
    obtain⟨g,hi2,rfl⟩:=Option.map_eq_some_iff.mp hi
    have hg:=hgs g (List.mem_of_getElem? hi2)
    have hts:gs.take (i+1)=gs.take i++[g]:=by rw[List.take_add_one,hi2];rfl
    have Y7:=sJ _ _ (s1 _ _ hl)
    dsimp only[gv]
    refine⟨_,rfl,_,_,_,_,rfl,rfl,bh.of (sJ _ _ (s1 _ _ hg)),rfl,_,rfl,_,rfl,_,_,_,_,rfl,rfl,aP.of Y7,RH,_,_,_,_,rfl,rfl,bh.of (sJ _ _ (s1 _ _ hz1)),rfl,rfl,_,rfl,?_⟩
    refine Ic (fun e=>?_) (fun e=>?_)
    ·have ef:kO (gs.take (i+1)) zl.2.1=kO (gs.take i) zl.2.1++[g]:=by
      rw[hts];unfold kO;rw[List.filter_append,List.filter_cons_of_pos (p:=fun g:Addr×F4=>decide (g.2.1=zl.2.1)) (decide_eq_true (by omega))];rfl
     refine⟨_,rfl,hl3,?_,⟨_,rfl⟩,(aK hD sJ),aj,?_⟩
     ·rw[List.length_map]
      exact Nat.lt_of_le_of_lt (Nat.le_trans (List.length_filter_le _ _) (Nat.le_trans (List.length_take_le' _ _) hf)) (by decide)
     ·rw[ef,List.map_append];rfl
    ·have ef:kO (gs.take (i+1)) zl.2.1=kO (gs.take i) zl.2.1:=by
      rw[hts];unfold kO;rw[List.filter_append,List.filter_cons_of_neg (p:=fun g:Addr×F4=>decide (g.2.1=zl.2.1)) (fun q=>e (by have:=of_decide_eq_true q;omega))];exact List.append_nil _
     refine⟨⟨_,rfl⟩,sJ,hl3,?_⟩
     rw[ef]
   ·rintro ys τ J ⟨⟨v,rfl⟩,sJ,hl3,rfl⟩
    rw[List.length_map,List.take_of_length_le (Nat.le_refl _)] at hl3
    cases eg:kO gs zl.2.1 with
    | nil =>
     have:zl∈kO gs zl.2.1:=List.mem_filter.mpr ⟨LV,decide_eq_true rfl⟩
     rw[eg] at this;cases this
    | cons g r =>
     rw[eg] at hl3
     have Y8:g∈gs:=(List.mem_filter.mp (show g∈kO gs zl.2.1 by rw[eg];exact List.mem_cons_self ..)).1
     have hg:=hgs g Y8
     have PK:=sJ _ _ (s1 _ _ hg)
     have wZ:gs.find? (fun g=>decide (g.2.1=zl.2.1))=some g:=by
      rw[←List.head?_filter]
      show(kO gs zl.2.1).head? = _
      rw[eg];rfl
     have Y9:kP (gs.map (·.2))=some g.2:=by
      unfold kP
      rw[List.getLast?_map,D8]
      show(gs.map (·.2)).find? (fun f=>decide (f.1=zl.2.1))=_
      rw[List.find?_map]
      show Option.map _ (gs.find? fun g=>decide (g.2.1=zl.2.1))=_
      rw[wZ];rfl
     refine⟨_,_,_,_,rfl,rfl,aP.of hl3,(show vv _ ((0:Nat):Int)=_ from iK rfl),_,rfl,_,_,_,_,rfl,rfl,bh.of PK,rfl,_,rfl,_,_,_,_,rfl,rfl,bh.of PK,rfl,_,rfl,_,_,_,_,rfl,rfl,bh.of PK,rfl,_,rfl,_,_,_,_,rfl,rfl,bh.of PK,rfl,(by show(4:Nat)≤sizeLine;decide),fun t5 GG=>k2 _ Y9 _ _ aj (aK ((s1.trans sJ).free GG) (s1.trans sJ))⟩
def nJ (K:W.Frag) (C:Addr):Sp:=fun vs H Q _=>∃(ld:Addr) (z:Str) (ev:Bool) (xs:List V) (cs:List dO),vs=[.ref ld,.str z,.bl ev]∧H ld=some (.lst xs)∧nN C H xs cs∧(∀ x∈cs,vQ x)∧cs.length≤60∧bF z∧z.length≤2000∧∀ t w v H',H' t=some (.tup [w,v])→Q3 ev z cs H H' w v→aD H H'→Q (.ref t) H'
theorem tG:aE P w K mg base bz 10 (az 26) (aN 26) ["dialects", "text", "even"] (nJ K (az 43)):=by
 have iE:aE P w K mg base bz 9 (az 23) (aN 23) ["dialects", "text", "even"] (lW K (az 43)):=p8 T
 have BR:aE P w K mg base bz 1 (az 25) (aN 25) ["falls"] (tF K):=zP T
 have DR:aE P w K mg base bz 9 (az 24) (aN 24) ["dialects", "text", "even"] (vg K (az 43)):=BQ T
 refine T.lR.ok sL (fun vs H Q E h=>?_) (fun cdv A outer s H vs Q E hr h=>?_)
 ·obtain⟨ld,z,ev,xs,cs,rfl,_⟩:=h;rfl
 ·have hu:=aX hr
  have gA:=hr.aQ
  obtain⟨ld,z,ev,xs,cs,rfl,hd,mk,gd,hc,hz,uf,k⟩:=h
  refine⟨_,(ah (cY 3 sL.nd (eB DR hr T.DM T.yq.kp T.DL (af (pv 0) (af (pv 1) (af (pv 2) ai)))))
   (ah (aL (eY (EB K rfl gA) (pv 3) (cH ai)) (ao (ay (aF (af av (af (pv 3) ai))))) aA)
   (ao (ay (aF (af av (af (eB BR hr T.BL T.vd.kp T.BK (af (eB iE hr T.kU T.jC.kp T.DK (af (pv 0) (af (pv 1) (af (pv 2) ai)))) ai)) ai))))))),?_⟩
  refine⟨_,rfl,_,rfl,_,rfl,ld,z,ev,xs,cs,rfl,hd,mk,gd,hc,hz,uf,fun l gs H1 tk s1=>?_⟩
  refine⟨_,rfl,by decide,fun e he=>?_⟩
  have se:=aq (o:=HO.lst []) he
  have RI:=tk.mono se
  refine⟨l,e,_,rfl,rfl,aP.of RI.ls,aP.of aj,?_⟩
  have s2:=s1.trans se
  generalize upd H1 e (.lst [])=H2 at s2 RI ⊢
  cases hgs:gs.map (fun g=>V.ref g.t) with
  | nil =>
   have he:=BC tk hgs
   refine⟨_,rfl,fL ?_⟩
   refine⟨_,rfl,_,rfl,_,rfl,ld,z,ev,xs,cs,rfl,s2 _ _ hd,nN.mono s2 mk,gd,hc,hz,uf,fun lf ps fs H3 _ h3 fl hp AE s3=>?_⟩
   have hfl:fs.length≤100:=by rw[hp.length_eq];have:=lO (ev:=ev) (z:=z) (cs:=cs) cs.length;omega
   refine⟨lf,ps,fs,rfl,h3,fl,hfl,fun e4 H4 s4=>⟨(by show 2≤sizeLine;decide),fun t ht=>?_⟩,fun f hf u H4 hu s4=>⟨(by show 2≤sizeLine;decide),fun t ht=>?_⟩⟩
   ·exact k t _ _ _ aj (.inr ⟨he,rfl,fs,EY e4,hp,AE⟩) (((s2.trans s3).trans s4).trans (aq ht))
   ·exact k t _ _ _ aj (.inr ⟨he,rfl,fs,EZ hf (aq ht _ _ hu),hp,AE⟩) (((s2.trans s3).trans s4).trans (aq ht))
  | cons g0 gr =>
   have hne:je ev z cs cs.length≠[]:=fun q=>by
    have:=tk.eq
    rw[q] at this
    rw[List.map_eq_nil_iff.mp this] at hgs
    cases hgs
   refine⟨_,rfl,rA ?_⟩
   refine⟨_,rfl,(by show 2≤sizeLine;decide),fun t ht=>?_⟩
   exact k t _ _ _ aj (.inl ⟨hne,rfl,l,gs,rfl,RI.mono (aq ht)⟩) (s2.trans (aq ht))
def oR (K:W.Frag) (C:Addr):Sp:=fun vs H Q _=>∃(y dy lt:Addr) (ev:Bool) (zs:List Str) (x:dO),vs=[.ref y,.ref lt,.bl ev]∧H y=some (.ins C dy (ET x))∧vQ x∧H lt=some (.lst (zs.map V.str))∧(∀ z∈zs,bF z∧z.length≤2000)∧∀ H',aD H H'→Q (.bl (EU ev zs x)) H'
theorem wD:aE P w K mg base bz 9 (az 27) (aN 27) ["dialect", "texts", "even"] (oR K (az 43)):=by
 have jI:aE P w K mg base bz 2 (az 22) (aN 22) ["walked", "even"] (jZ K):=nI T
 have jY:aE P w K mg base bz 8 (az 16) (aN 16) ["dialect", "text"] (lU K (az 43)):=oQ T
 refine T.qk.ok oh (fun vs H Q E h=>?_) (fun cdv A outer s H vs Q E hr h=>?_)
 ·obtain⟨y,dy,lt,ev,zs,x,rfl,_⟩:=h;rfl
 ·have hu:=aX hr
  have gA:=hr.aQ
  obtain⟨y,dy,lt,ev,zs,x,rfl,hy,g,hl,hz,k⟩:=h
  refine⟨_,(ah (cj PassesOwn.never rfl (ck K rfl (pv 1)) (fQ 3 oh.nd)
   (ao (aL (eY vt (eB jI hr T.pV T.lQ.kp T.pU (af (eB jY hr T.sQ T.pT.kp T.sP (af (pv 0) (af (pv 3) ai))) (af (pv 2) ai))) gj) (ao (ay jm)) aA)))
   (ao (ay jm))),?_⟩
  refine⟨_,rfl,lt,rfl,⟨_,aP.of hl⟩,?_⟩
  refine eZ (K:=K) (a:=lt) (xs:=zs.map V.str) (fun i σ H2=>aD H H2∧∃ v:Option V,σ=[some (.ref y),some (.ref lt),some (.bl ev),v]∧((zs.take i).all fun z=>uV ev (runC x z))=true) ⟨aD.refl _,_,rfl,rfl⟩ (fun i σ H2 _ q=>aP.of (q.1 _ _ hl)) ?_ ?_
  ·rintro i e σ H2 hi ⟨s2,v,rfl,hall⟩
   obtain⟨z,PL,rfl⟩:=qT hi
   have LV:=List.mem_of_getElem? PL
   obtain⟨z1,z2⟩:=hz z LV
   refine⟨_,rfl,_,rfl,y,dy,z,x.1,x.2.1,x.2.2.1,x.2.2.2.a,x.2.2.2.b,x.2.2.2.c,x.2.2.2.d,rfl,s2 _ _ hy,g,z1,z2,fun tw lk s H1 h1 wY hk hs s1=>?_⟩
   have hw:=fun e=>kL (p:=x.1) (q:=x.2.1) (f:=x.2.2.1) (b1:=x.2.2.2.a) (b2:=x.2.2.2.b) (b3:=x.2.2.2.c) (b4:=x.2.2.2.d) (w:=Str.ofString "row") (u:=Str.ofString "") (cs:=z.cps.toList) (e:=e)
   have s12:=s2.trans s1
   refine⟨_,rfl,tw,lk,s,ev,_,_,_,_,rfl,h1,hk,hs,fun e he=>(hw e he).1,fun v H3 hv s3=>?_⟩
   have hv:uY (cA ev (runC x z)) H3 v:=hv
   have hN:=Fb ev (runC x z)
   cases ef:cA ev (runC x z) with
   | none =>
    rw[ef] at hv hN
    have hv:v=.non:=hv
    subst hv
    refine⟨rfl,_,rfl,Dh (decide_eq_true rfl) ⟨s12.trans s3,_,rfl,?_⟩⟩
    rw[cK PL,List.all_append,hall,Bool.true_and,List.all_cons,List.all_nil,Bool.and_true]
    exact hN
   | some LR =>
    obtain⟨fa,fb,fw⟩:=LR
    rw[ef] at hv hN
    obtain⟨t6,rfl,LS⟩:=hv
    refine⟨rfl,_,rfl,Lz (decide_eq_false (by intro z;cases z)) ?_⟩
    have e:EU ev zs x=false:=by
     cases q:EU ev zs x with
     | false=>rfl
     | true =>
      have q2:uV ev (runC x z)=true:=List.all_eq_true.mp q z LV
      rw[hN] at q2;cases q2
    rw[e] at k
    exact k H3 (s12.trans s3)
  ·rintro σ H2 ⟨s2,v,rfl,hall⟩
   rw[List.take_of_length_le (by rw[List.length_map];exact Nat.le_refl _)] at hall
   have e:EU ev zs x=true:=hall
   rw[e] at k
   exact k H2 s2
def oS (K:W.Frag) (C:Addr):Sp:=fun vs H Q _=>∃(ld lt:Addr) (ev:Bool) (zs:List Str) (xs:List V) (cs:List dO),vs=[.ref ld,.ref lt,.bl ev]∧H ld=some (.lst xs)∧nN C H xs cs∧(∀ x∈cs,vQ x)∧cs.length≤100∧H lt=some (.lst (zs.map V.str))∧(∀ z∈zs,bF z∧z.length≤2000)∧∀ l H',H l=none→H' l=some (.lst (pN ev zs cs cs.length))→aD H H'→Q (.ref l) H'
theorem wF:aE P w K mg base bz 10 (az 28) (aN 28) ["dialects", "texts", "even"] (oS K (az 43)):=by
 have cM:aE P w K mg base bz 4 (az 15) (aN 15) ["thing"] d7:=fU T
 have yH:aE P w K mg base bz 9 (az 27) (aN 27) ["dialect", "texts", "even"] (oR K (az 43)):=wD T
 refine T.ql.ok om (fun vs H Q E h=>?_) (fun cdv A outer s H vs Q E hr h=>?_)
 ·obtain⟨ld,lt,ev,zs,xs,cs,rfl,_⟩:=h;rfl
 ·have hu:=aX hr
  have gA:=hr.aQ
  obtain⟨ld,lt,ev,zs,xs,cs,rfl,hd,mk,gd,hc,hl,hz,k⟩:=h
  have BZ:=mk.length
  refine⟨_,(ah (cj PassesOwn.never rfl (ck K rfl (pv 1)) (fQ 3 om.nd)
   (ao (dD (eB cM hr T.gI T.fE.kp T.gH (af (pv 3) ai)))))
   (ao (ay (fS rfl (show bw ["dialects", "texts", "even", "text"] (au bA) ["place", "dialect", "texts", "even"] 2 [1,2] _ from De) (nV K rfl rfl T.gM (af (pv 0) ai)) (fun _ _ _ _=>(dG K rfl 2 rfl (aM (fQ 0 (show(["place", "dialect", "texts", "even"]:List Str).Nodup by decide +kernel)) (aM (fQ 1 (show(["place", "dialect", "texts", "even"]:List Str).Nodup by decide +kernel)) dF)))) (fun _ _ _ _=>(qQ (cV (eB yH hr T.yt T.qk.kp T.yr (af (pv 1) (af (pv 2) (af (pv 3) ai))))))) (fun _ _ _ _=>(pv 0)))))),?_⟩
  refine⟨_,rfl,lt,rfl,⟨_,aP.of hl⟩,?_⟩
  refine eZ (K:=K) (a:=lt) (xs:=zs.map V.str) (fun i σ H2=>aD H H2∧∃ v:Option V,σ=[some (.ref ld),some (.ref lt),some (.bl ev),v]) ⟨aD.refl _,_,rfl⟩ (fun i σ H2 _ q=>aP.of (q.1 _ _ hl)) ?_ ?_
  ·rintro i e σ H2 hi ⟨s2,v,rfl⟩
   obtain⟨z,PL,rfl⟩:=qT hi
   obtain⟨z1,z2⟩:=hz z (List.mem_of_getElem? PL)
   exact⟨_,rfl,z,rfl,z1,z2,fun H3 s3=>⟨s2.trans s3,_,rfl⟩⟩
  rintro σ H2 ⟨s2,v,rfl⟩
  have hd2:=s2 _ _ hd
  refine⟨_,rfl,ld,rfl,⟨_,aP.of hd2⟩,fun D hD=>?_⟩
  refine Bh (K:=K) (a:=ld) (xs:=xs) (fun i ys τ H3=>(∃ v1 v2:Option V,τ=[v1,v2,some (.ref lt),some (.bl ev)])∧aD H2 H3∧H3 D=some (.lst ys)∧ys=pN ev zs cs i) ⟨⟨_,_,rfl⟩,aq hD,aj,rfl⟩ (fun i ys τ H3 _ p=>⟨aP.of (p.2.1 _ _ hd2),p.2.2.1⟩) ?_ ?_
  ·rintro i e t ys τ H3 hi ht ⟨⟨v1,v2,rfl⟩,s3,DS,rfl⟩
   obtain⟨x,hx,y,dy,rfl,hy⟩:=aS mk i e hi
   have hil:i < cs.length:=(List.getElem?_eq_some_iff.mp hx).1
   have st:=aq (o:=HO.tup [.int i,.ref y]) ht
   refine⟨t,_,rfl,bh.of aj,rfl,_,_,rfl,_,_,rfl,rfl,?_⟩
   have s4:=s3.trans st
   have RJ:=st _ _ DS
   generalize upd H3 t (.tup [.int i,.ref y])=H4 at s4 RJ ⊢
   have Pz:=s2.trans s4
   refine⟨_,rfl,_,rfl,_,rfl,y,dy,lt,ev,zs,x,rfl,Pz _ _ hy,gd x (List.mem_of_getElem? hx),Pz _ _ hl,hz,fun H5 s5=>⟨_,rfl,bB (fun h1=>?_) (fun h1=>?_)⟩⟩
   ·refine⟨_,rfl,s5 _ _ RJ,Nat.lt_of_le_of_lt (Nat.le_trans Dt (show i≤100 by omega)) (by decide),⟨_,_,rfl⟩,aK hD (s4.trans s5),aj,?_⟩
    rw[uW hx,if_pos h1]
   ·refine⟨⟨_,_,rfl⟩,s4.trans s5,s5 _ _ RJ,?_⟩
    rw[uW hx,if_neg h1]
  ·rintro ys τ H3 ⟨⟨v1,v2,rfl⟩,s3,DS,rfl⟩
   rw[BZ] at DS
   exact k D H3 (s2.free hD) DS (s2.trans s3)
def gu (K:W.Frag):Sp:=fun vs H Q _=>∃(a:Addr) (ns:List Int) (i:Int),vs=[.ref a,.int i]∧aP K H a (ns.map V.int)∧0≤i∧∀ r:Int,Q (.int r) H
theorem kg:aE P w K mg base bz 1 (az 29) (aN 29) ["_law_script", "_law_k"] (gu K):=by
 refine T.iA.ok qC (fun vs H Q E h=>?_) (fun cdv A outer s H vs Q E hr h=>?_)
 ·obtain⟨a,ns,i,rfl,_⟩:=h;rfl
 ·have hu:=aX hr
  have gA:=hr.aQ
  obtain⟨a,ns,i,rfl,hS,hi,k⟩:=h
  refine⟨_,(ah (aL (eY xq (pv 1) (pJ (bO K rfl) T.eO (af (pv 0) ai))) (ao (ay (o9 K (pv 0) (pv 1)))) aA)
   (ao (ay ak))),?_⟩
  refine⟨_,rfl,_,rfl,a,_,rfl,.inl hS,_,_,rfl,rfl,_,rfl,?_⟩
  refine bB (fun hc=>?_) (fun _=>?_)
  ·have hlt:=of_decide_eq_true hc
   obtain⟨v,ev,hv⟩:=zA hi hlt
   obtain⟨r,_,rfl⟩:=List.mem_map.mp hv
   exact⟨_,rfl,_,rfl,a,_,_,_,rfl,rfl,hS,ev,k r⟩
  ·exact k 0
def fV:Sp:=fun vs H Q _=>∃ a b:Int,vs=[.int a,.int b]∧0≤a∧a < 4294967296∧0≤b∧b < 65536∧∀ r:Int,0≤r→r < 49979687→Q (.int r) H
theorem mX:aE P w K mg base bz 1 (az 30) (aN 30) ["_law_number_here", "_law_salt"] fV:=by
 refine T.fF.ok jg (fun vs H Q E h=>?_) (fun cdv A outer s H vs Q E hr h=>?_)
 ·obtain⟨a,b,rfl,_⟩:=h;rfl
 ·have hu:=aX hr
  have gA:=hr.aQ
  obtain⟨a,b,rfl,ha,ha',hb,hb',k⟩:=h
  refine⟨_,(ah (cY 2 jg.nd (aB bI (aB bU (aB g4 (pv 0) (aB bU ak (aB g4 ak (pv 1)))) (aB g4 ak (pv 1))) ak))
   (ah (cY 3 jg.nd (aB bI (aB bU (aB g4 (pv 2) (pv 2)) (pv 1)) ak))
   (ao (ay (aB bI (aB bU (aB g4 (pv 3) (pv 3)) (pv 2)) ak))))),?_⟩
  refine⟨_,rfl,_,rfl,_,_,rfl,rfl,.inl ⟨by decide,by decide⟩,_,_,rfl,rfl,_,_,rfl,rfl,.inl ⟨by omega,by omega⟩,_,rfl,_,_,rfl,rfl,.inl ⟨by decide,by decide⟩,_,_,rfl,rfl,_,_,rfl,rfl,(by show(0:Int) < 15485863;decide),?_⟩
  have h1:=Int.emod_nonneg (a * (1299709+210 * b)+7919 * b) (show(15485863:Int)≠0 by decide)
  have h2:=Int.emod_lt_of_pos (a * (1299709+210 * b)+7919 * b) (show(0:Int) < 15485863 by decide)
  refine⟨_,rfl,_,rfl,_,_,rfl,rfl,.inl ⟨by omega,by omega⟩,_,rfl,_,_,rfl,rfl,_,_,rfl,rfl,(by show(0:Int) < 32452843;decide),?_⟩
  refine⟨_,rfl,_,rfl,_,_,rfl,rfl,.inl ⟨?_,?_⟩,_,rfl,_,_,rfl,rfl,_,_,rfl,rfl,(by show(0:Int) < 49979687;decide),?_⟩
  ·exact Int.lt_of_lt_of_le (by decide) (Int.emod_nonneg _ (by decide))
  ·exact Int.lt_trans (Int.emod_lt_of_pos _ (by decide)) (by decide)
  ·exact k _ (Int.emod_nonneg _ (by decide)) (Int.emod_lt_of_pos _ (by decide))
def lH:Sp:=fun vs H Q _=>∃ c s:Int,vs=[.int c,.int s]∧0≤s∧s < 60000∧∀ r:Int,Q (.int r) H
theorem tH:aE P w K mg base bz 2 (az 31) (aN 31) ["_law_cell", "_law_salt"] lH:=by
 have fG:aE P w K mg base bz 1 (az 30) (aN 30) ["_law_number_here", "_law_salt"] fV:=mX T
 refine T.mT.ok iy (fun vs H Q E h=>?_) (fun cdv A outer s H vs Q E hr h=>?_)
 ·obtain⟨c,s,rfl,_⟩:=h;rfl
 ·have hu:=aX hr
  have gA:=hr.aQ
  obtain⟨c,sa,rfl,hs,hs',k⟩:=h
  refine⟨_,(ah (aL (PW.pt (kB (eY br (aB bI (pv 0) ak) ak) (iI (eY Gq (pv 0) (aB g4 ak (aB vp ak ak)))))) (ao (ay (aB Ci (aB cF (pv 0) ak) (aB vp ak ak)))) aA)
   (ah (cY 2 iy.nd (aB bI (pv 0) ak))
   (ah (cY 3 iy.nd (aB bU (aB g4 (eB fG hr T.gK T.fF.kp T.gJ (af (pv 2) (af (pv 1) ai))) ak) (eB fG hr T.gK T.fF.kp T.gJ (af (pv 2) (af (aB bU (pv 1) ak) ai)))))
   (ao (ay (aB bU (aB g4 (pv 3) ak) (eB fG hr T.gK T.fF.kp T.gJ (af (pv 2) (af (aB bU (pv 1) ak) ai))))))))),?_⟩
  have Vf:KQ 10 18:=⟨by decide,by decide,by decide⟩
  have n0:0≤c % 1000000007:=Int.emod_nonneg _ (by decide)
  have n1:c % 1000000007 < 4294967296:=Int.lt_trans (Int.emod_lt_of_pos _ (by decide)) (by decide)
  refine⟨_,rfl,_,_,rfl,rfl,(by show(0:Int) < 2;decide),rfl,_,rfl,?_⟩
  refine bB (fun _=>?_) (fun _=>?_)
  ·refine⟨_,rfl,_,_,rfl,rfl,Vf,_,_,rfl,rfl,.inl ⟨by decide,by decide⟩,_,_,rfl,rfl,_,rfl,?_⟩
   refine bB (fun _=>?_) (fun _=>?_)
   ·exact⟨_,rfl,_,_,rfl,rfl,⟨by decide,by decide⟩,_,_,rfl,rfl,Vf,_,_,rfl,rfl,k _⟩
   ·refine⟨_,rfl,_,_,rfl,rfl,(by show(0:Int) < 1000000007;decide),?_⟩
    refine⟨_,rfl,_,rfl,_,_,rfl,n0,n1,by omega,by omega,fun r1 _ _=>?_⟩
    refine⟨_,_,rfl,rfl,.inr ⟨by decide,by decide⟩,_,rfl,_,rfl,_,_,rfl,rfl,_,_,rfl,n0,n1,by omega,by omega,fun r2 _ _=>⟨_,_,rfl,rfl,?_⟩⟩
    refine⟨_,rfl,_,_,rfl,rfl,.inr ⟨by decide,by decide⟩,_,rfl,_,rfl,_,_,rfl,rfl,_,_,rfl,n0,n1,by omega,by omega,fun r3 _ _=>⟨_,_,rfl,rfl,k _⟩⟩
  ·refine⟨_,rfl,_,_,rfl,rfl,(by show(0:Int) < 1000000007;decide),?_⟩
   refine⟨_,rfl,_,rfl,_,_,rfl,n0,n1,by omega,by omega,fun r1 _ _=>?_⟩
   refine⟨_,_,rfl,rfl,.inr ⟨by decide,by decide⟩,_,rfl,_,rfl,_,_,rfl,rfl,_,_,rfl,n0,n1,by omega,by omega,fun r2 _ _=>⟨_,_,rfl,rfl,?_⟩⟩
   refine⟨_,rfl,_,_,rfl,rfl,.inr ⟨by decide,by decide⟩,_,rfl,_,rfl,_,_,rfl,rfl,_,_,rfl,n0,n1,by omega,by omega,fun r3 _ _=>⟨_,_,rfl,rfl,k _⟩⟩
def oU:Sp:=fun vs H Q _=>∃(n m:Int) (me:Str),vs=[.int n,.int m,.str me]∧Mn me∧0≤m∧m≤3∧∀(t:Addr) (z:Str) (r:Int),Sg z→(z.length:Int)≤m→(1≤m→1≤z.length)→H t=none→Q (.ref t) (upd H t (.tup [.str z,.int r]))
theorem wG:aE P w K mg base bz 1 (az 32) (aN 32) ["_law_number_here", "_law_many", "_law_menu_here"] oU:=by
 refine T.iR.ok dM (fun vs H Q E h=>?_) (fun cdv A outer s H vs Q E hr h=>?_)
 ·obtain⟨n,m,me,rfl,_⟩:=h;rfl
 ·have hu:=aX hr
  have gA:=hr.aQ
  obtain⟨n,m,me,rfl,⟨hm1,hm2,Za⟩,h0,h3,k⟩:=h
  have hml:me.length≤sizeLine:=Nat.le_trans hm2 (by decide)
  refine⟨_,(ah (cY 3 dM.nd av)
   (ah (cj PassesOwn.never rfl (jq rfl T.jD (af (pv 1) ai)) (fQ 4 dM.nd)
   (ah (cY 5 dM.nd (Ai Cv (pv 2) (aB bI (pv 0) (pJ cJ T.eO (af (pv 2) ai))) (fun _ _=>rfl)))
   (ah (cY 0 dM.nd (aB cF (pv 0) (pJ cJ T.eO (af (pv 2) ai))))
   (ao (aL (d8 vD (pv 5) (pv 3) rfl) (ao (cY 3 dM.nd (aB cG (pv 3) (pv 5)))) aA)))))
   (ao (ay (aF (af (pv 3) (af (pv 0) ai))))))),?_⟩
  refine⟨_,rfl,m,rfl,by omega,by omega,?_⟩
  refine lJ (fun i σ H2=>H2=H∧∃(r:Int) (z:Str) (v1 v2:Option V),σ=[some (.int r),some (.int m),some (.str me),some (.str z),v1,v2]∧Sg z∧z.length≤i∧(1≤i→1≤z.length)) ⟨rfl,n,_,_,_,rfl,Ig,by decide,fun z=>absurd z (by decide)⟩ ?_ ?_
  ·rintro i σ H2 hi ⟨rfl,r,z,v1,v2,rfl,g,hz,hz1⟩
   have hlen:me.cps.toList.length=me.length:=by rw[Array.length_toList];rfl
   obtain⟨c,ec,hc⟩:=zA (xs:=me.cps.toList) (Int.emod_nonneg r (show(me.length:Int)≠0 by omega)) (by rw[hlen];exact Int.emod_lt_of_pos r (by omega))
   refine⟨_,rfl,_,rfl,_,rfl,me,rfl,hml,_,_,rfl,rfl,(by show(0:Int) < me.length;omega),me,_,c,rfl,rfl,hml,ec,?_⟩
   refine⟨_,rfl,_,rfl,me,rfl,hml,_,_,rfl,rfl,⟨by show(0:Int) < me.length;omega,by show(me.length:Int) < 1073741824;omega⟩,?_⟩
   refine⟨_,rfl,_,rfl,_,_,rfl,rfl,_,rfl,?_⟩
   refine bB (fun ha=>?_) (fun ha=>?_)
   ·have e1:(z++(⟨#[c]⟩:Str)).length=z.length+1:=jQ _ _
    refine⟨_,rfl,_,rfl,_,_,rfl,rfl,?_,rfl,_,_,_,_,rfl,Ie g (Za c hc) ha,by rw[e1];omega,fun _=>by rw[e1];omega⟩
    exact Nat.le_trans (show z.length+1≤5 by omega) (by decide)
   ·refine⟨rfl,_,_,_,_,rfl,g,by omega,fun _=>?_⟩
    have hin:c∈z.cps.toList:=Classical.byContradiction fun q=>ha ((xU z c).mpr q)
    have:=List.length_pos_of_mem hin
    rw[Array.length_toList] at this
    exact this
  ·rintro σ H2 ⟨rfl,r,z,v1,v2,rfl,g,hz,hz1⟩
   exact⟨_,rfl,_,rfl,(by show 2≤sizeLine;decide),fun t ht=>k t z r g (by omega) (fun q=>hz1 (by omega)) ht⟩
def mY:Sp:=fun vs H Q _=>∃ n:Int,vs=[.int n]∧∀(l:Addr) (m1 m2 m3:Str),Mn m1→Mn m2→Mn m3→H l=none→Q (.ref l) (upd H l (.lst [.str m1,.str m2,.str m3]))
theorem uo:aE P w K mg base bz 1 (az 33) (aN 33) ["_law_way"] mY:=by
 refine T.oF.ok mP (fun vs H Q E h=>?_) (fun cdv A outer s H vs Q E hr h=>?_)
 ·obtain⟨n,rfl,_⟩:=h;rfl
 ·have hu:=aX hr
  have gA:=hr.aQ
  obtain⟨n,rfl,k⟩:=h
  refine⟨_,(ah (cY 1 mP.nd av)
   (ah (aL (eY br (pv 0) ak) (ao (ay (cH (af av (af av (af av ai)))))) aA)
   (ah (aL (eY br (pv 0) ak) (ao (ay (cH (af av (af av (af av ai)))))) aA)
   (ao (ay (cH (af (pv 1) (af (pv 1) (af (pv 1) ai))))))))),?_⟩
  refine⟨_,rfl,rfl,_,rfl,?_⟩
  refine bB (fun _=>?_) (fun _=>?_)
  ·exact⟨by decide,fun l hl=>k l _ _ _ (by decide +kernel) (by decide +kernel) (by decide +kernel) hl⟩
  ·refine⟨_,rfl,rfl,_,rfl,?_⟩
   refine bB (fun _=>?_) (fun _=>?_)
   ·exact⟨by decide,fun l hl=>k l _ _ _ (by decide +kernel) (by decide +kernel) (by decide +kernel) hl⟩
   ·exact⟨_,rfl,_,rfl,_,rfl,by decide,fun l hl=>k l _ _ _ (by decide +kernel) (by decide +kernel) (by decide +kernel) hl⟩
def oV:Sp:=fun vs H Q _=>∃ c:Int,vs=[.int c]∧∀(t:Addr) (p q f:Str) (b1 b2 b3 b4:Bool) (H':Hp),Gd p q f→H t=none→H' t=some (.tup (rR p q f b1 b2 b3 b4))→aD H H'→Q (.ref t) H'
theorem wH:aE P w K mg base bz 3 (az 34) (aN 34) ["_law_cell"] oV:=by
 have wI:aE P w K mg base bz 1 (az 33) (aN 33) ["_law_way"] mY:=uo T
 have ur:aE P w K mg base bz 2 (az 31) (aN 31) ["_law_cell", "_law_salt"] lH:=tH T
 have lI:aE P w K mg base bz 1 (az 32) (aN 32) ["_law_number_here", "_law_many", "_law_menu_here"] oU:=wG T
 refine T.qm.ok aY (fun vs H Q E h=>?_) (fun cdv A outer s H vs Q E hr h=>?_)
 ·obtain⟨c,rfl,_⟩:=h;rfl
 ·have hu:=aX hr
  have gA:=hr.aQ
  obtain⟨c,rfl,k⟩:=h
  refine⟨_,(ah (cY 1 aY.nd (eB ur hr T.uc T.mT.kp T.ua (af (pv 0) (af ak ai))))
   (ah (cY 2 aY.nd (aB bI (pv 1) ak))
   (ah (cY 3 aY.nd (cH (af (aB bU ak (aB bI (aB cF (pv 1) ak) ak)) (af (aB bI (aB cF (pv 1) ak) ak) (af (aB bI (aB cF (pv 1) ak) ak) ai)))))
   (ah (cY 4 aY.nd (eB wI hr T.wk T.oF.kp T.wj (af (aB bI (aB cF (pv 1) ak) ak) ai)))
   (ah (jJ (eB lI hr T.kZ T.iR.kp T.kY (af (aB cF (pv 1) ak) (af (o9 K (pv 3) ak) (af (o9 K (pv 4) ak) ai)))) (dG K rfl 2 rfl (aM (fQ 5 aY.nd) (aM (fQ 1 aY.nd) dF))))
   (ah (jJ (eB lI hr T.kZ T.iR.kp T.kY (af (pv 1) (af (o9 K (pv 3) ak) (af (o9 K (pv 4) ak) ai)))) (dG K rfl 2 rfl (aM (fQ 6 aY.nd) (aM (fQ 1 aY.nd) dF))))
   (ah (jJ (eB lI hr T.kZ T.iR.kp T.kY (af (pv 1) (af (o9 K (pv 3) ak) (af (o9 K (pv 4) ak) ai)))) (dG K rfl 2 rfl (aM (fQ 7 aY.nd) (aM (fQ 1 aY.nd) dF))))
   (ah (cY 8 aY.nd (cH (af (Df br (aB bI (pv 2) ak) ak) (af (Df br (aB bI (aB cF (pv 2) ak) ak) ak) (af (Df br (aB bI (aB cF (pv 2) ak) ak) ak) (af (Df br (aB bI (aB cF (pv 2) ak) ak) ak) ai))))))
   (ao (ay (aF (af (pv 5) (af (pv 6) (af (pv 7) (af (o9 K (pv 8) ak) (af (o9 K (pv 8) ak) (af (o9 K (pv 8) ak) (af (o9 K (pv 8) ak) ai)))))))))))))))))),?_⟩
  refine⟨_,rfl,_,_,rfl,by decide,by decide,fun n=>?_⟩
  refine⟨_,rfl,_,_,rfl,rfl,(by show(0:Int) < 16;decide),?_⟩
  refine⟨_,rfl,_,_,rfl,rfl,⟨by decide,by decide⟩,_,_,rfl,rfl,(by show(0:Int) < 3;decide),_,_,rfl,rfl,_,rfl,_,_,rfl,rfl,⟨by decide,by decide⟩,_,_,rfl,rfl,(by show(0:Int) < 3;decide),_,rfl,_,_,rfl,rfl,⟨by decide,by decide⟩,_,_,rfl,rfl,(by show(0:Int) < 3;decide),(by show 3≤sizeLine;decide),fun l hl=>?_⟩
  have m1:=Int.emod_nonneg (n / 16) (show(3:Int)≠0 by decide)
  have m1':=Int.emod_lt_of_pos (n / 16) (show(0:Int) < 3 by decide)
  have m2:=Int.emod_nonneg (n / 48) (show(3:Int)≠0 by decide)
  have m2':=Int.emod_lt_of_pos (n / 48) (show(0:Int) < 3 by decide)
  have m3:=Int.emod_nonneg (n / 144) (show(3:Int)≠0 by decide)
  have m3':=Int.emod_lt_of_pos (n / 144) (show(0:Int) < 3 by decide)
  have h1:(upd H l (.lst [.int (1+n / 16 % 3),.int (n / 48 % 3),.int (n / 144 % 3)])) l=some (.lst [.int (1+n / 16 % 3),.int (n / 48 % 3),.int (n / 144 % 3)]):=aj
  have s1:aD H (upd H l (.lst [.int (1+n / 16 % 3),.int (n / 48 % 3),.int (n / 144 % 3)])):=aq hl
  generalize upd H l (.lst [.int (1+n / 16 % 3),.int (n / 48 % 3),.int (n / 144 % 3)])=H1 at h1 s1 ⊢
  refine⟨_,rfl,_,_,rfl,rfl,⟨by decide,by decide⟩,_,_,rfl,rfl,(by show(0:Int) < 3;decide),_,rfl,fun l2 e1 e2 e3 g1 g2 g3 hl2=>?_⟩
  have h2:(upd H1 l2 (.lst [.str e1,.str e2,.str e3])) l2=some (.lst [.str e1,.str e2,.str e3]):=aj
  have s2:aD H1 (upd H1 l2 (.lst [.str e1,.str e2,.str e3])):=aq hl2
  generalize upd H1 l2 (.lst [.str e1,.str e2,.str e3])=H2 at h2 s2 ⊢
  have h12:=s2 _ _ h1
  refine⟨_,rfl,_,_,rfl,rfl,⟨by decide,by decide⟩,_,rfl,l,_,_,_,rfl,rfl,aP.of h12,rfl,_,rfl,l2,_,_,_,rfl,rfl,aP.of h2,rfl,_,_,_,rfl,g1,by omega,by omega,fun t1 p r1 gp lp Zb ht1=>?_⟩
  refine⟨t1,_,rfl,bh.of aj,rfl,_,_,rfl,_,_,rfl,rfl,?_⟩
  have s3:aD H2 (upd H2 t1 (.tup [.str p,.int r1])):=aq ht1
  generalize upd H2 t1 (.tup [.str p,.int r1])=H3 at s3 ⊢
  refine⟨_,rfl,_,rfl,l,_,_,_,rfl,rfl,aP.of (s3 _ _ h12),rfl,_,rfl,l2,_,_,_,rfl,rfl,aP.of (s3 _ _ h2),rfl,_,_,_,rfl,g2,by omega,by omega,fun t2 q r2 gq lq lq1 Fo=>?_⟩
  refine⟨t2,_,rfl,bh.of aj,rfl,_,_,rfl,_,_,rfl,rfl,?_⟩
  have s4:aD H3 (upd H3 t2 (.tup [.str q,.int r2])):=aq Fo
  generalize upd H3 t2 (.tup [.str q,.int r2])=H4 at s4 ⊢
  refine⟨_,rfl,_,rfl,l,_,_,_,rfl,rfl,aP.of (s4 _ _ (s3 _ _ h12)),rfl,_,rfl,l2,_,_,_,rfl,rfl,aP.of (s4 _ _ (s3 _ _ h2)),rfl,_,_,_,rfl,g3,by omega,by omega,fun t3 f r3 gf lf lf1 Zc=>?_⟩
  refine⟨t3,_,rfl,bh.of aj,rfl,_,_,rfl,_,_,rfl,rfl,?_⟩
  have s5:aD H4 (upd H4 t3 (.tup [.str f,.int r3])):=aq Zc
  generalize upd H4 t3 (.tup [.str f,.int r3])=H5 at s5 ⊢
  refine⟨_,rfl,_,_,rfl,rfl,(by show(0:Int) < 2;decide),rfl,_,rfl,_,_,rfl,rfl,⟨by decide,by decide⟩,_,_,rfl,rfl,(by show(0:Int) < 2;decide),rfl,_,rfl,_,_,rfl,rfl,⟨by decide,by decide⟩,_,_,rfl,rfl,(by show(0:Int) < 2;decide),rfl,_,rfl,_,_,rfl,rfl,⟨by decide,by decide⟩,_,_,rfl,rfl,(by show(0:Int) < 2;decide),rfl,(by show 4≤sizeLine;decide),fun l6 Zd=>?_⟩
  have s6:=aq (o:=HO.lst [.bl (decide (V.int (n % 16 % 2)=V.int 1)),.bl (decide (V.int (n % 16 / 2 % 2)=V.int 1)),.bl (decide (V.int (n % 16 / 4 % 2)=V.int 1)),.bl (decide (V.int (n % 16 / 8 % 2)=V.int 1))]) Zd
  refine⟨_,rfl,_,rfl,_,rfl,_,rfl,l6,_,_,_,rfl,rfl,aP.of aj,rfl,_,rfl,l6,_,_,_,rfl,rfl,aP.of aj,rfl,_,rfl,l6,_,_,_,rfl,rfl,aP.of aj,rfl,_,rfl,l6,_,_,_,rfl,rfl,aP.of aj,rfl,(by show 7≤sizeLine;decide),fun t ht=>?_⟩
  have LW:=((((s1.trans s2).trans s3).trans s4).trans s5).trans s6
  exact k t p q f _ _ _ _ _ ⟨gp,gq,gf,Zb (by omega),by omega,by omega,by omega⟩ (LW.free ht) aj (LW.trans (aq ht))
def jk:Sp:=fun vs H Q _=>∃(c m:Int),vs=[.int c,.int m]∧0≤m∧m≤1000∧∀(l:Addr) (ns:List Int) (H':Hp),ns.length=m.toNat→(∀ n∈ns,0≤n)→H l=none→H' l=some (.lst (ns.map V.int))→aD H H'→Q (.ref l) H'
theorem mZ:aE P w K mg base bz 2 (az 35) (aN 35) ["_law_cell", "_law_many"] jk:=by
 have fG:aE P w K mg base bz 1 (az 30) (aN 30) ["_law_number_here", "_law_salt"] fV:=mX T
 refine T.jW.ok cU (fun vs H Q E h=>?_) (fun cdv A outer s H vs Q E hr h=>?_)
 ·obtain⟨c,m,rfl,_⟩:=h;rfl
 ·have hu:=aX hr
  have gA:=hr.aQ
  obtain⟨c,m,rfl,hm,hm',k⟩:=h
  refine⟨_,(ah (aL (PW.pt (ux (eY br (aB bI (pv 0) ak) ak) (qX (eY xq (pv 0) (aB g4 ak (aB vp ak ak)))))) (ah (cY 2 cU.nd (aB bI (pv 0) ak))
   (ao (ay (fS rfl (show bw ["_law_cell", "_law_many", "_law_number_here", "_law_found", "_law_k"] (au dH) ["_law_k", "_law_number_here"] 1 [2] _ from De) (jq rfl T.jD (af (pv 1) ai)) (fun _ _ _ _=>(fQ 0 (show(["_law_k", "_law_number_here"]:List Str).Nodup by decide +kernel))) (fun _ _ _ _=>jM) (fun _ _ _ _=>(eB fG hr T.gK T.fF.kp T.gJ (af (pv 1) (af (aB bU ak (aB g4 ak (pv 0))) ai)))))))) aA)
   (ah (cY 3 cU.nd (cH ai))
   (ah (cY 2 cU.nd (aB Ci (aB cF (pv 0) ak) (aB vp ak ak)))
   (ah (cj PassesOwn.never rfl (jq rfl T.jD (af (pv 1) ai)) (fQ 4 cU.nd)
   (ah (dD (fO K rfl PySem.F.plainAttrs_list PySem.F.slot_list_append PySem.F.type_list_append cT (pv 3) (af (aB bI (pv 2) ak) ai)))
   (ao (cY 2 cU.nd (aB cF (pv 2) ak)))))
   (ao (ay (pv 3))))))),?_⟩
  refine⟨_,rfl,_,_,rfl,rfl,(by show(0:Int) < 2;decide),rfl,_,rfl,?_⟩
  have LX:∀{D:Addr}{v:Option V},H D=none→nT (Gp 0 m.toNat) (gv 0) Hv (Cr fV [] E0 (Cq (Ed 1) (Cq (D4 (Ek fun i j=>.int (i+j)) (tC (.int 71)) (D4 (rI Em fun i j=>.int (i * j)) (tC (.int 2)) (Ed 0))) Hg))) Q D [none,some (.int (c % 1000000007))] H:=by
   intro D v hD
   refine zg (fun i ys τ H2=>(∃ v,τ=[v,some (.int (c % 1000000007))])∧aD H H2∧H2 D=some (.lst ys)∧∃ ns:List Int,ys=ns.map V.int∧ns.length=i∧∀ n∈ns,0≤n) ⟨⟨_,rfl⟩,aq hD,aj,[],rfl,rfl,fun _ z=>nomatch z⟩ (fun i ys τ H2 _ p=>p.2.2.1) ?_ ?_
   ·rintro i ys τ H2 hi ⟨⟨v,rfl⟩,s2,hl,ns,rfl,hn,hp⟩
    refine zz ?_
    refine⟨_,rfl,_,rfl,_,_,rfl,rfl,.inl ⟨by decide,by decide⟩,_,_,rfl,rfl,_,_,rfl,Int.emod_nonneg _ (by decide),Int.lt_trans (Int.emod_lt_of_pos _ (by decide)) (by decide),by omega,by omega,fun r hr0 _=>?_⟩
    refine⟨hl,?_,⟨_,rfl⟩,aK hD s2,aj,ns++[r],by rw[List.map_append];rfl,by rw[List.length_append,hn];rfl,fun n hn'=>?_⟩
    ·rw[List.length_map,hn]
     exact Nat.lt_of_lt_of_le (show i < 1000 by omega) (by decide)
    ·rcases List.mem_append.mp hn' with z | z
     ·exact hp n z
     ·rw[List.mem_singleton.mp z];exact hr0
   ·rintro ys τ H2 ⟨⟨v,rfl⟩,s2,hl,ns,rfl,hn,hp⟩
    exact k D ns H2 hn hp hD hl s2
  refine bB (fun _=>?_) (fun _=>?_)
  ·refine rA ?_
   refine⟨_,rfl,_,_,rfl,rfl,(by show(0:Int) < 1000000007;decide),?_⟩
   exact⟨_,rfl,m,rfl,by omega,by omega,fun D hD=>LX (v:=none) hD⟩
  ·refine⟨_,rfl,_,_,rfl,rfl,⟨by decide,by decide,by decide⟩,_,_,rfl,rfl,.inl ⟨by decide,by decide⟩,_,_,rfl,rfl,_,rfl,?_⟩
   refine bB (fun _=>?_) (fun _=>?_)
   ·refine⟨_,rfl,_,_,rfl,rfl,(by show(0:Int) < 1000000007;decide),?_⟩
    exact⟨_,rfl,m,rfl,by omega,by omega,fun D hD=>LX (v:=none) hD⟩
   ·refine⟨by decide,fun l hl=>?_⟩
    refine⟨_,rfl,_,_,rfl,rfl,⟨by decide,by decide⟩,_,_,rfl,rfl,⟨by decide,by decide,by decide⟩,_,_,rfl,rfl,?_⟩
    refine⟨_,rfl,m,rfl,by omega,by omega,?_⟩
    refine lJ (fun i σ H2=>aD H H2∧∃(x:Int) (v:Option V) (ns:List Int),σ=[some (.int c),some (.int m),some (.int x),some (.ref l),v]∧H2 l=some (.lst (ns.map V.int))∧ns.length=i∧∀ n∈ns,0≤n) ⟨aq hl,_,_,[],rfl,aj,rfl,fun _ z=>nomatch z⟩ ?_ ?_
    ·rintro i σ H2 hi ⟨s2,x,v,ns,rfl,hq,hn,hp⟩
     refine⟨_,rfl,.inl ⟨rfl,_,aP.of hq⟩,_,rfl,_,_,rfl,rfl,(by show(0:Int) < 4096;decide),l,_,_,rfl,rfl,hq,?_,?_⟩
     ·rw[List.length_map,hn]
      exact Nat.lt_of_lt_of_le (show i < 1000 by omega) (by decide)
     ·refine⟨_,rfl,_,_,rfl,rfl,⟨by decide,by decide⟩,?_⟩
      refine⟨aK hl s2,_,_,ns++[x % 4096],rfl,?_,by rw[List.length_append,hn];rfl,fun n hn'=>?_⟩
      ·rw[aj,List.map_append];rfl
      ·rcases List.mem_append.mp hn' with z | z
       ·exact hp n z
       ·rw[List.mem_singleton.mp z];exact Int.emod_nonneg _ (by decide)
    ·rintro σ H2 ⟨s2,x,v,ns,rfl,hq,hn,hp⟩
     exact⟨_,rfl,k l ns H2 hn hp hl hq s2⟩
def oW (K:W.Frag):Sp:=fun vs H Q _=>∃(t:Addr) (n:Int) (x:dO),vs=[.ref t,.int n]∧H t=some (.tup (jR x))∧vQ x∧∀ t2 (y:dO) H',vQ y→H' t2=some (.tup (jR y))→aD H H'→Q (.ref t2) H'
theorem wJ:aE P w K mg base bz 1 (az 36) (aN 36) ["_law_told_here", "_law_x"] (oW K):=by
 refine T.qo.ok jU (fun vs H Q E h=>?_) (fun cdv A outer s H vs Q E hr h=>?_)
 ·obtain⟨t,n,x,rfl,_⟩:=h;rfl
 ·have hu:=aX hr
  have gA:=hr.aQ
  obtain⟨t,n,x,rfl,ht,g,k⟩:=h
  refine⟨_,(ah (cY 2 jU.nd (aB bI (pv 1) ak))
   (ah (cY 3 jU.nd (Q2 (tR K rfl) T.wu (af (pv 0) ai)))
   (ah (aL (eY xq (pv 2) ak) (ao (jJ (GQ (o9 K (pv 3) (aB bU ak (pv 2)))) (qZ (pv 3) (aB bU ak (pv 2)) set_list))) aA)
   (ah (aL (eY br (pv 2) ak) (ao (jJ (kF CJ (o9 K (pv 3) ak) Ag (iJ ak)) (qZ (pv 3) ak set_list))) aA)
   (ah (aL (eY br (pv 2) ak) (ah (jJ (uT (o9 K (pv 3) ak) (Cg yU ak)) (qZ (pv 3) ak set_list))
   (ao (jJ (uT (o9 K (pv 3) ak) (Cg yU ak)) (qZ (pv 3) ak set_list)))) aA)
   (ah (aL (eY br (pv 2) ak) (ao (jJ (kF CJ (o9 K (pv 3) ak) Ag (iJ ak)) (qZ (pv 3) ak set_list))) aA)
   (ao (ay (Q2 (rD K rfl) T.yE (af (pv 3) ai)))))))))),?_⟩
  refine⟨_,rfl,_,_,rfl,rfl,(by show(0:Int) < 8;decide),?_⟩
  have w0:=Int.emod_nonneg n (show(8:Int)≠0 by decide)
  have w1:=Int.emod_lt_of_pos n (show(0:Int) < 8 by decide)
  dsimp only[gv]
  generalize n % 8=w at w0 w1 ⊢
  refine⟨_,rfl,t,_,rfl,.inr (bh.of ht),fun l hl=>?_⟩
  have s1:=aq (o:=HO.lst (jR x)) hl
  have h1:(upd H l (.lst (jR x))) l=some (.lst (jR x)):=aj
  generalize upd H l (.lst (jR x))=H1 at s1 h1 ⊢
  dsimp only[gv]
  refine lN (t:=Cd _ _ _) (fun σ' H'=>aD H H'∧σ'=[some (.ref t),some (.int n),some (.int w),some (.ref l)]∧∃ y:dO,vQ y∧H' l=some (.lst (jR y))) ?_ (fun go=>?_)
  rotate_left
  ·refine⟨_,rfl,_,_,rfl,rfl,_,rfl,bB (fun h4=>?_) (fun _=>go _ _ ⟨s1,rfl,x,g,h1⟩)⟩
   have h4:w < 4:=of_decide_eq_true h4
   rcases(by omega:w=0∨w=1∨w=2∨w=3) with rfl | rfl | rfl | rfl
   ·exact⟨_,rfl,_,rfl,_,_,rfl,rfl,l,_,_,_,rfl,rfl,aP.of h1,rfl,x.2.2.2.a,rfl,_,rfl,_,rfl,_,_,rfl,rfl,l,_,_,3,rfl,rfl,h1,rfl,go _ _ ⟨aK hl s1,rfl,(x.1,x.2.1,x.2.2.1,⟨!x.2.2.2.a,x.2.2.2.b,x.2.2.2.c,x.2.2.2.d⟩),g,aj⟩⟩
   ·exact⟨_,rfl,_,rfl,_,_,rfl,rfl,l,_,_,_,rfl,rfl,aP.of h1,rfl,x.2.2.2.b,rfl,_,rfl,_,rfl,_,_,rfl,rfl,l,_,_,4,rfl,rfl,h1,rfl,go _ _ ⟨aK hl s1,rfl,(x.1,x.2.1,x.2.2.1,⟨x.2.2.2.a,!x.2.2.2.b,x.2.2.2.c,x.2.2.2.d⟩),g,aj⟩⟩
   ·exact⟨_,rfl,_,rfl,_,_,rfl,rfl,l,_,_,_,rfl,rfl,aP.of h1,rfl,x.2.2.2.c,rfl,_,rfl,_,rfl,_,_,rfl,rfl,l,_,_,5,rfl,rfl,h1,rfl,go _ _ ⟨aK hl s1,rfl,(x.1,x.2.1,x.2.2.1,⟨x.2.2.2.a,x.2.2.2.b,!x.2.2.2.c,x.2.2.2.d⟩),g,aj⟩⟩
   ·exact⟨_,rfl,_,rfl,_,_,rfl,rfl,l,_,_,_,rfl,rfl,aP.of h1,rfl,x.2.2.2.d,rfl,_,rfl,_,rfl,_,_,rfl,rfl,l,_,_,6,rfl,rfl,h1,rfl,go _ _ ⟨aK hl s1,rfl,(x.1,x.2.1,x.2.2.1,⟨x.2.2.2.a,x.2.2.2.b,x.2.2.2.c,!x.2.2.2.d⟩),g,aj⟩⟩
  rintro σ' H2 ⟨s2,rfl,x2,g2,h2⟩
  have a1:=g2.p1;have a2:=g2.p3;have a3:=g2.q2;have a4:=g2.f2
  refine lN (t:=Cd _ _ _) (fun σ' H'=>aD H H'∧σ'=[some (.ref t),some (.int n),some (.int w),some (.ref l)]∧∃ y:dO,vQ y∧H' l=some (.lst (jR y))) ?_ (fun go=>?_)
  rotate_left
  ·refine⟨_,rfl,rfl,_,rfl,bB (fun _=>?_) (fun _=>go _ _ ⟨s2,rfl,x2,g2,h2⟩)⟩
   have c1:=rV (z:=x2.2.1) (n:=1) (by decide)
   exact⟨_,rfl,l,_,_,_,rfl,rfl,aP.of h2,rfl,_,rfl,_,rfl,Nat.le_trans a3 (by decide),_,rfl,l,_,_,2,rfl,rfl,h2,rfl,go _ _ ⟨aK hl s2,rfl,(x2.1,x2.2.1,Txt.slice x2.2.1 none (some 1),x2.2.2.2),⟨g2.gp,g2.gq,xW g2.gq,a1,a2,a3,by show(Txt.slice x2.2.1 none (some 1)).length≤2;omega⟩,aj⟩⟩
  rintro σ' H3 ⟨s3,rfl,x3,g3,h3⟩
  have b1:=g3.p1;have b2:=g3.p3;have b3:=g3.q2;have b4:=g3.f2
  refine lN (t:=Cd _ _ _) (fun σ' H'=>aD H H'∧σ'=[some (.ref t),some (.int n),some (.int w),some (.ref l)]∧∃ y:dO,vQ y∧H' l=some (.lst (jR y))) ?_ (fun go=>?_)
  rotate_left
  ·refine⟨_,rfl,rfl,_,rfl,bB (fun _=>?_) (fun _=>go _ _ ⟨s3,rfl,x3,g3,h3⟩)⟩
   have r1:=AH x3.1;have r2:=AH x3.2.1
   refine⟨_,rfl,l,_,_,_,rfl,rfl,aP.of h3,rfl,_,rfl,_,rfl,rfl,Nat.le_trans b2 (by decide),_,rfl,l,_,_,0,rfl,rfl,h3,rfl,?_⟩
   have s4:aD H (upd H3 l (.lst (jR (kj x3.1,x3.2)))):=aK hl s3
   have h4:(upd H3 l (.lst (jR (kj x3.1,x3.2)))) l=some (.lst (jR (kj x3.1,x3.2))):=aj
   rw[show(jR x3).set 0 (V.str (kj x3.1))=jR (kj x3.1,x3.2) from rfl]
   generalize upd H3 l (.lst (jR (kj x3.1,x3.2)))=H4 at s4 h4 ⊢
   exact⟨_,rfl,l,_,_,_,rfl,rfl,aP.of h4,rfl,_,rfl,_,rfl,rfl,Nat.le_trans b3 (by decide),_,rfl,l,_,_,1,rfl,rfl,h4,rfl,go _ _ ⟨aK hl s4,rfl,(kj x3.1,kj x3.2.1,x3.2.2),⟨Du g3.gp,Du g3.gq,g3.gf,by show 1≤(kj x3.1).length;omega,by show(kj x3.1).length≤3;omega,by show(kj x3.2.1).length≤2;omega,b4⟩,aj⟩⟩
  rintro σ' H5 ⟨s5,rfl,x5,g5,h5⟩
  have d1:=g5.p1;have d2:=g5.p3;have d3:=g5.q2;have d4:=g5.f2
  refine lN (t:=Cd _ _ _) (fun σ' H'=>aD H H'∧σ'=[some (.ref t),some (.int n),some (.int w),some (.ref l)]∧∃ y:dO,vQ y∧H' l=some (.lst (jR y))) ?_ (fun go=>?_)
  rotate_left
  ·refine⟨_,rfl,rfl,_,rfl,bB (fun _=>?_) (fun _=>go _ _ ⟨s5,rfl,x5,g5,h5⟩)⟩
   have c1:=rV (z:=x5.1) (n:=1) (by decide)
   exact⟨_,rfl,l,_,_,_,rfl,rfl,aP.of h5,rfl,_,rfl,_,rfl,Nat.le_trans d2 (by decide),_,rfl,l,_,_,1,rfl,rfl,h5,rfl,go _ _ ⟨aK hl s5,rfl,(x5.1,Txt.slice x5.1 none (some 1),x5.2.2),⟨g5.gp,xW g5.gp,g5.gf,d1,d2,by show(Txt.slice x5.1 none (some 1)).length≤2;omega,d4⟩,aj⟩⟩
  rintro σ' H6 ⟨s6,rfl,x6,g6,h6⟩
  exact⟨_,rfl,l,_,rfl,.inl ⟨aP.of h6,fun t2 Fo=>k t2 x6 _ g6 aj (s6.trans (aq Fo))⟩⟩
def m7 (K:W.Frag):Sp:=fun vs H Q _=>∃(a:Addr) (ns:List Int) (m:Int),vs=[.ref a,.int m]∧aP K H a (ns.map V.int)∧ns.length≤100∧0≤m∧m≤100∧∀(l:Addr) (xs:List V) (cs:List dO) H',H l=none→H' l=some (.lst xs)→vR H' xs cs→(∀ x∈cs,vQ x)→(cs.length:Int)=m→aD H H'→Q (.ref l) H'
theorem uu:aE P w K mg base bz 4 (az 37) (aN 37) ["_law_cells", "_law_many"] (m7 K):=by
 have iF:aE P w K mg base bz 1 (az 29) (aN 29) ["_law_script", "_law_k"] (gu K):=kg T
 have j3:aE P w K mg base bz 2 (az 35) (aN 35) ["_law_cell", "_law_many"] jk:=mZ T
 have yI:aE P w K mg base bz 1 (az 36) (aN 36) ["_law_told_here", "_law_x"] (oW K):=wJ T
 have yJ:aE P w K mg base bz 3 (az 34) (aN 34) ["_law_cell"] oV:=wH T
 refine T.oJ.ok dZ (fun vs H Q E h=>?_) (fun cdv A outer s H vs Q E hr h=>?_)
 ·obtain⟨a,ns,m,rfl,_⟩:=h;rfl
 ·have hu:=aX hr
  have gA:=hr.aQ
  obtain⟨a,ns,m,rfl,hS,hns,m0,m1,k⟩:=h
  refine⟨_,(ah (cY 2 dZ.nd (cH ai))
   (ah (cj PassesOwn.never rfl (jq rfl T.jD (af (pv 1) ai)) (fQ 3 dZ.nd)
   (ah (cY 4 dZ.nd (aB bU (eB iF hr T.kX T.iA.kp T.kW (af (pv 0) (af (aB bI (pv 3) (pJ (AW rfl) T.DO (af ak (af (pJ (bO K rfl) T.eO (af (pv 0) ai)) ai)))) ai))) (aB g4 ak (pv 3))))
   (ah (cY 5 dZ.nd (eB j3 hr T.oH T.jW.kp T.oG (af (pv 4) (af ak ai))))
   (ao (aL (PW.pt (ux (eY (zk K rfl gA) (pv 2) (cH ai)) (qX (eY br (aB bI (o9 K (pv 5) ak) ak) ak)))) (ao (dD (fO K rfl PySem.F.plainAttrs_list PySem.F.slot_list_append PySem.F.type_list_append cT (pv 2) (af (eB yJ hr T.yx T.qm.kp T.yw (af (aB cF (pv 4) ak) ai)) ai)))) (ao (dD (fO K rfl PySem.F.plainAttrs_list PySem.F.slot_list_append PySem.F.type_list_append cT (pv 2) (af (eB yI hr T.yz T.qo.kp T.yy (af (o9 K (pv 2) (aB bI (o9 K (pv 5) ak) (pJ (bO K rfl) T.eO (af (pv 2) ai)))) (af (aB cF (o9 K (pv 5) ak) ak) ai))) ai)))))))))
   (ao (ay (pv 2))))),?_⟩
  refine⟨by decide,fun l hl=>?_⟩
  have s1:=aq (o:=HO.lst []) hl
  refine⟨_,rfl,_,rfl,by omega,by omega,?_⟩
  refine lJ (fun i σ H2=>aD H H2∧∃(xs:List V) (cs:List dO) (v1 v2 v3:Option V),σ=[some (.ref a),some (.int m),some (.ref l),v1,v2,v3]∧H2 l=some (.lst xs)∧vR H2 xs cs∧(∀ x∈cs,vQ x)∧cs.length=i∧V.ref l∉xs) ⟨s1,[],[],_,_,_,rfl,aj,.nil,(fun x q=>nomatch q),rfl,by simp⟩ ?_ ?_
  ·rintro i σ H2 hi ⟨s2,xs,cs,v1,v2,v3,rfl,h2,tp,gd,hc,hn⟩
   have hi:(i:Int) < m:=by omega
   have Vg:=s2.seq hS
   refine⟨_,rfl,_,rfl,_,rfl,a,_,rfl,.inl Vg,_,_,rfl,_,_,rfl,rfl,?_,?_⟩
   ·show(0:Int) < (if ((ns.map V.int).length:Int) > 1 then ((ns.map V.int).length:Int) else 1)
    split <;> omega
   refine⟨a,ns,_,rfl,Vg,Int.emod_nonneg _ ?_,fun c=>?_⟩
   ·show(if ((ns.map V.int).length:Int) > 1 then ((ns.map V.int).length:Int) else 1)≠0
    split <;> omega
   refine⟨_,rfl,_,_,rfl,rfl,.inl ⟨by decide,by decide⟩,_,_,rfl,rfl,?_⟩
   refine⟨_,rfl,_,_,rfl,by decide,by decide,fun lx ds H3 hdl hd0 hlx h3 s3=>?_⟩
   have hdl:ds.length=2:=hdl
   obtain⟨e1,e2,rfl⟩:∃ e1 e2,ds=[e1,e2]:=by
    cases ds with
    | nil=>cases hdl
    | cons a l=>cases l with
     | nil=>cases hdl
     | cons b l=>cases l with
      | nil=>exact⟨a,b,rfl⟩
      | cons c l=>simp at hdl
   have h23:=s3 _ _ h2
   have Kh:=vR.mono s3 tp
   have BZ:=Kh.length
   have Ze:=s2.trans s3
   have room:xs.length < sizeLine:=Nat.lt_of_le_of_lt (show xs.length≤100 by omega) (by decide)
   have fin:∀(tt:Addr) (x:dO) (H4:Hp),aD H3 H4→H4 tt=some (.tup (jR x))→vQ x→∃ l' xs' y,V.ref l=.ref l'∧[V.ref tt]=[y]∧H4 l'=some (.lst xs')∧xs'.length < sizeLine∧(aD H (upd H4 l' (.lst (xs'++[y])))∧∃(xs:List V) (cs:List dO) (v1 v2 v3:Option V),[some (.ref a),some (.int m),some (.ref l),some (.int (0+(i:Int))),some (.int (c+97 * (0+(i:Int)))),some (.ref lx)]=[some (.ref a),some (.int m),some (.ref l),v1,v2,v3]∧(upd H4 l' (.lst (xs'++[y]))) l=some (.lst xs)∧vR (upd H4 l' (.lst (xs'++[y]))) xs cs∧(∀ x∈cs,vQ x)∧cs.length=i+1∧V.ref l∉xs):=by
    intro tt x H4 s4 ht gx
    have D9:=s4 _ _ h23
    have Vh:tt≠l:=fun q=>by rw[q,D9] at ht;cases ht
    refine⟨l,xs,.ref tt,rfl,rfl,D9,room,aK hl (Ze.trans s4),xs++[.ref tt],cs++[x],_,_,_,rfl,aj,?_,?_,?_,?_⟩
    ·refine eG (rW hn (vR.mono s4 Kh)) (.cons ⟨tt,rfl,(aC Vh).trans ht⟩ .nil)
    ·intro z hz
     rcases List.mem_append.mp hz with q | q
     ·exact gd z q
     ·rw[List.mem_singleton.mp q];exact gx
    ·rw[List.length_append];show cs.length+1=_;omega
    ·intro q
     rcases List.mem_append.mp q with q | q
     ·exact hn q
     ·exact Vh (V.ref.inj (List.mem_singleton.mp q)).symm
   refine⟨_,rfl,by decide,fun e he=>?_⟩
   have s4:=aq (o:=HO.lst []) he
   have D9:=s4 _ _ h23
   have PM:=s4 _ _ h3
   have Vi:=vR.mono s4 Kh
   refine⟨l,e,xs,rfl,rfl,aP.of D9,aP.of aj,?_⟩
   generalize upd H3 e (.lst [])=H4 at s4 D9 PM Vi ⊢
   refine⟨_,rfl,bB (fun _=>rA ?_) (fun hne=>?_)⟩
   ·exact⟨_,rfl,.inl ⟨rfl,_,aP.of D9⟩,_,rfl,_,_,rfl,rfl,⟨by decide,by decide⟩,_,rfl,fun t p q f b1 b2 b3 b4 H5 g ht h5 s5=>fin t (p,q,f,⟨b1,b2,b3,b4⟩) H5 (s4.trans s5) h5 g⟩
   refine⟨_,rfl,lx,_,_,_,rfl,rfl,aP.of PM,rfl,_,_,rfl,rfl,(by show(0:Int) < 3;decide),rfl,_,rfl,bB (fun _=>?_) (fun _=>?_)⟩
   ·exact⟨_,rfl,.inl ⟨rfl,_,aP.of D9⟩,_,rfl,_,_,rfl,rfl,⟨by decide,by decide⟩,_,rfl,fun t p q f b1 b2 b3 b4 H5 g ht h5 s5=>fin t (p,q,f,⟨b1,b2,b3,b4⟩) H5 (s4.trans s5) h5 g⟩
   ·have pos:(0:Int) < xs.length:=by
     cases xs with
     | nil=>exact absurd rfl hne
     | cons x xs=>rw[List.length_cons];omega
    have j0:=Int.emod_nonneg e2 (show(xs.length:Int)≠0 by omega)
    have j1:=Int.emod_lt_of_pos e2 pos
    obtain⟨j,ej⟩:=Int.eq_ofNat_of_zero_le j0
    have hjl:j < xs.length:=by omega
    obtain⟨x,hx,tt,Zf,yP⟩:=aS Vi j _ (List.getElem?_eq_getElem hjl)
    have hat:vv xs (e2 % (xs.length:Int))=some (.ref tt):=by
     rw[ej]
     exact iK (by rw[List.getElem?_eq_getElem hjl,Zf])
    exact⟨_,rfl,.inl ⟨rfl,_,aP.of D9⟩,_,rfl,_,rfl,lx,_,_,_,rfl,rfl,aP.of PM,rfl,_,rfl,l,_,rfl,.inl (aP.of D9),_,_,rfl,rfl,pos,l,_,_,.ref tt,rfl,rfl,aP.of D9,hat,_,rfl,lx,_,_,_,rfl,rfl,aP.of PM,rfl,_,_,rfl,rfl,⟨by decide,by decide⟩,tt,_,x,rfl,yP,gd x (List.mem_of_getElem? hx),fun t2 y H5 gy h5 s5=>fin t2 y H5 (s4.trans s5) h5 gy⟩
  ·rintro σ H2 ⟨s2,xs,cs,v1,v2,v3,rfl,h2,tp,gd,hc,hn⟩
   exact⟨_,rfl,k l xs cs H2 hl h2 tp gd (by omega) s2⟩
def oX (K:W.Frag):Sp:=fun vs H Q _=>∃(l:Addr) (xs:List V) (cs:List dO),vs=[.ref l]∧H l=some (.lst xs)∧vR H xs cs∧(∀ x∈cs,vQ x)∧cs.length≤101∧∀ z:Str,bF z→1≤z.length→z.length≤1000→Q (.str z) H
theorem wK:aE P w K mg base bz 1 (az 38) (aN 38) ["_law_tolds_here"] (oX K):=by
 refine T.qp.ok fB (fun vs H Q E h=>?_) (fun cdv A outer s H vs Q E hr h=>?_)
 ·obtain⟨l,xs,cs,rfl,_⟩:=h;rfl
 ·have hu:=aX hr
  have gA:=hr.aQ
  obtain⟨l,xs,cs,rfl,hl,tp,gd,hc,k⟩:=h
  have BZ:=tp.length
  refine⟨_,(ah (cY 1 fB.nd av)
   (ah (cj PassesOwn.never rfl (ck K rfl (pv 0)) (fQ 2 fB.nd)
   (ao (cj PassesOwn.never rfl (vG (aB cG (aB cG (ko K (pv 2) ak) (ko K (pv 2) ak)) (ko K (pv 2) ak))) (fQ 3 fB.nd)
   (ao (aL (eY xq (fO K rfl PySem.F.plainAttrs_str PySem.F.slot_str_count PySem.F.type_str_count xB (pv 1) (af (pv 3) ai)) ak) (ao (cY 1 fB.nd (aB cG (pv 1) (pv 3)))) aA)))))
   (ao (ay (pv 1))))),?_⟩
  refine⟨_,rfl,l,rfl,⟨_,aP.of hl⟩,?_⟩
  have m0:bF (Str.ofString "\n\nab \n"):=(by decide +kernel:∀ c∈(Str.ofString "\n\nab \n").cps.toList,c=10∨Pn c)
  have m1:(Str.ofString "\n\nab \n").length=6:=by decide +kernel
  refine eZ (K:=K) (a:=l) (xs:=xs) (fun i σ H2=>H2=H∧∃(z:Str) (v1 v2:Option V),σ=[some (.ref l),some (.str z),v1,v2]∧bF z∧1≤z.length∧z.length≤6+7 * i) ⟨rfl,_,_,_,rfl,m0,by omega,by omega⟩ (fun i σ H2 _ q=>by rw[q.1];exact aP.of hl) ?_ ?_
  ·rintro i e σ H2 hi ⟨rfl,z,v1,v2,rfl,z1,z2,z3⟩
   obtain⟨x,hx,t,rfl,ht⟩:=aS tp i e hi
   have hil:i < xs.length:=(List.getElem?_eq_some_iff.mp hi).1
   have g:=gd x (List.mem_of_getElem? hx)
   have hp3:=g.p3;have hq2:=g.q2;have hf2:=g.f2
   have hS:bh K H2 t (jR x):=bh.of ht
   have Vj:=jQ x.1 x.2.1
   have sl2:=jQ (x.1++x.2.1) x.2.2.1
   refine⟨_,rfl,t,_,_,_,rfl,rfl,hS,rfl,_,rfl,t,_,_,_,rfl,rfl,hS,rfl,_,_,rfl,rfl,Nat.le_trans (show x.1.length+x.2.1.length≤5 by omega) (by decide),_,rfl,t,_,_,_,rfl,rfl,hS,rfl,_,_,rfl,rfl,Nat.le_trans (show(x.1++x.2.1).length+x.2.2.1.length≤7 by omega) (by decide),_,rfl,?_⟩
   have szl:((x.1++x.2.1)++x.2.2.1).cps.toList.length≤7:=by
    rw[Array.length_toList];show((x.1++x.2.1)++x.2.2.1).length≤7;omega
   refine Ak (z:=(x.1++x.2.1)++x.2.2.1) (fun j σ H3=>H3=H2∧∃(z:Str) (v2:Option V),σ=[some (.ref l),some (.str z),some (.ref t),v2]∧bF z∧1≤z.length∧z.length≤6+7 * i+j) ⟨rfl,z,_,rfl,z1,z2,by omega⟩ ?_ ?_
   ·rintro j c σ H3 hj ⟨rfl,y,v3,rfl,y1,y2,y3⟩
    have hjl:=(List.getElem?_eq_some_iff.mp hj).1
    have hc:c=10∨Pn c:=by
     have hm:=List.mem_of_getElem? hj
     rw[app_list,app_list] at hm
     rcases List.mem_append.mp hm with hm | hm
     ·rcases List.mem_append.mp hm with hm | hm
      ·exact .inr (g.gp.pr c hm)
      ·exact .inr (g.gq.pr c hm)
     ·exact .inr (g.gf.pr c hm)
    refine⟨_,rfl,rfl,_,rfl,_,_,rfl,rfl,_,_,rfl,rfl,_,rfl,bB (fun _=>?_) (fun _=>⟨rfl,y,_,rfl,y1,y2,by omega⟩)⟩
    have al:=jQ y (sg c)
    have c1:(sg c).length=1:=rfl
    refine⟨_,rfl,_,rfl,_,_,rfl,rfl,Nat.le_trans (show y.length+(sg c).length≤1000 by omega) (by decide),rfl,y++sg c,_,rfl,?_,by omega,by omega⟩
    intro d hd
    rw[app_list] at hd
    rcases List.mem_append.mp hd with q | q
    ·exact y1 d q
    ·rw[List.mem_singleton.mp (show d∈[c] from q)];exact hc
   ·rintro σ H3 ⟨rfl,y,v3,rfl,y1,y2,y3⟩
    exact⟨rfl,y,_,_,rfl,y1,y2,by omega⟩
  ·rintro σ H2 ⟨rfl,z,v1,v2,rfl,z1,z2,z3⟩
   exact⟨_,rfl,k z z1 z2 (by omega)⟩
def oY (K:W.Frag):Sp:=fun vs H Q _=>∃(c m:Int) (l:Addr) (xs:List V) (cs:List dO),vs=[.int c,.ref l,.int m]∧H l=some (.lst xs)∧vR H xs cs∧(∀ x∈cs,vQ x)∧cs.length≤101∧0≤m∧m≤100∧∀(z:Str) H',bF z→z.length≤110→aD H H'→Q (.str z) H'
theorem wL:aE P w K mg base bz 3 (az 39) (aN 39) ["_law_cell", "_law_tolds_here", "_law_most"] (oY K):=by
 have j3:aE P w K mg base bz 2 (az 35) (aN 35) ["_law_cell", "_law_many"] jk:=mZ T
 have yK:aE P w K mg base bz 1 (az 38) (aN 38) ["_law_tolds_here"] (oX K):=wK T
 refine T.lg.ok fD (fun vs H Q E h=>?_) (fun cdv A outer s H vs Q E hr h=>?_)
 ·obtain⟨c,m,l,xs,cs,rfl,_⟩:=h;rfl
 ·have hu:=aX hr
  have gA:=hr.aQ
  obtain⟨c,m,l,xs,cs,rfl,hl,tp,gd,hc,m0,m1,k⟩:=h
  refine⟨_,(ah (cY 3 fD.nd (eB j3 hr T.oH T.jW.kp T.oG (af (pv 0) (af (aB bU (pv 2) ak) ai))))
   (ah (cY 4 fD.nd (eB yK hr T.yD T.qp.kp T.yC (af (pv 1) ai)))
   (ah (cY 5 fD.nd (fO K rfl PySem.F.plainAttrs_str PySem.F.slot_str_join PySem.F.type_str_join (CD K rfl) av (af (fS rfl (show bw ["_law_cell", "_law_tolds_here", "_law_most", "_law_xs", "_law_menu_here", "_law_text_here"] (au eV) ["_law_x", "_law_menu_here"] 1 [4] _ from De) (ck K rfl (kF (rC K rfl) (pv 3) (iJ ak) (iJ (aB bU ak (aB bI (o9 K (pv 3) ak) (aB bU (pv 2) ak)))))) (fun _ _ _ _=>(fQ 0 (show(["_law_x", "_law_menu_here"]:List Str).Nodup by decide +kernel))) (fun _ _ _ _=>jM) (fun _ _ _ _=>(Ai Cv (pv 1) (aB bI (pv 0) (pJ cJ T.eO (af (pv 1) ai))) (fun _ _=>rfl)))) ai)))
   (ah (aL (eY Ck (aB bI (o9 K (pv 3) ak) ak) ak) (ao (cY 5 fD.nd (aB cG (pv 5) av))) aA)
   (ao (ay (pv 5))))))),?_⟩
  refine⟨_,rfl,_,rfl,_,_,rfl,rfl,_,_,rfl,by omega,by omega,fun lx ds H1 hdl hd0 hlx h1 s1=>?_⟩
  refine⟨_,rfl,l,xs,cs,rfl,s1 _ _ hl,vR.mono s1 tp,gd,hc,fun mz y1 y2 y3=>?_⟩
  have hdl:ds.length=(m+2).toNat:=hdl
  obtain⟨e0,e1,ds',rfl⟩:∃ e0 e1 ds',ds=e0 :: e1 :: ds':=by
   cases ds with
   | nil=>simp at hdl;omega
   | cons a l=>cases l with
    | nil=>simp at hdl;omega
    | cons b l=>exact⟨a,b,l,rfl⟩
  have Zg:vv ((e0 :: e1 :: ds').map V.int) 0=some (.int e0):=(show vv _ ((0:Nat):Int)=_ from iK rfl)
  have vS:vv ((e0 :: e1 :: ds').map V.int) 1=some (.int e1):=(show vv _ ((1:Nat):Int)=_ from iK rfl)
  have hml:mz.length≤sizeLine:=Nat.le_trans y3 (by decide)
  refine⟨rfl,_,rfl,_,rfl,_,rfl,lx,_,_,_,rfl,rfl,aP.of h1,Zg,_,rfl,_,_,rfl,rfl,_,_,rfl,rfl,(by show 0 < m+1;omega),_,_,rfl,rfl,_,rfl,lx,_,rfl,aP.of h1,fun p hp=>?_⟩
  generalize Vk:zc ((e0 :: e1 :: ds').map V.int) (some 2) _=cv at hp ⊢
  have hcl:cv.length≤102:=by
   rw[←Vk]
   refine Nat.le_trans (qc _ _ _) ?_
   rw[List.length_map,hdl];omega
  have U3:∀ v∈cv,∃ n:Int,v=.int n:=fun v hv=>by
   rw[←Vk] at hv
   obtain⟨n,_,rfl⟩:=List.mem_map.mp (List.mem_of_mem_drop (List.mem_of_mem_take hv))
   exact⟨n,rfl⟩
  have s2:=aq (o:=HO.lst cv) hp
  have h2:(upd H1 p (.lst cv)) p=some (.lst cv):=aj
  have h12:=s2 _ _ h1
  have s12:=s1.trans s2
  generalize upd H1 p (.lst cv)=H2 at s2 h2 h12 s12 ⊢
  refine⟨p,rfl,⟨_,aP.of h2⟩,fun D hD=>?_⟩
  refine jt (K:=K) (a:=p) (xs:=cv) (fun i ys τ H3=>(∃ v,τ=[v,some (.str mz)])∧aD H2 H3∧H3 D=some (.lst ys)∧∃ zs:List Str,ys=zs.map V.str∧zs.length=i∧∀ z∈zs,bF z∧z.length≤1) ⟨⟨_,rfl⟩,aq hD,aj,[],rfl,rfl,fun z q=>nomatch q⟩ (fun i ys τ H3 _ q=>⟨aP.of (q.2.1 _ _ h2),q.2.2.1⟩) ?_ ?_
  ·rintro i e ys τ H3 hi ⟨⟨v,rfl⟩,s3,DS,zs,rfl,uf,hzs⟩
   have hil:i < cv.length:=(List.getElem?_eq_some_iff.mp hi).1
   obtain⟨n,rfl⟩:=U3 e (List.mem_of_getElem? hi)
   have hlen:mz.cps.toList.length=mz.length:=by rw[Array.length_toList];rfl
   obtain⟨d,ed,hd⟩:=zA (xs:=mz.cps.toList) (Int.emod_nonneg n (show(mz.length:Int)≠0 by omega)) (by rw[hlen];exact Int.emod_lt_of_pos n (by omega))
   refine zz ?_
   refine⟨_,rfl,_,rfl,_,rfl,mz,rfl,hml,_,_,rfl,rfl,(by show(0:Int) < (mz.length:Int);omega),mz,_,d,rfl,rfl,hml,ed,DS,?_,⟨_,rfl⟩,aK hD s3,aj,zs++[sg d],?_,?_,?_⟩
   ·rw[List.length_map];exact Nat.lt_of_le_of_lt (show zs.length≤102 by omega) (by decide)
   ·rw[List.map_append];rfl
   ·rw[List.length_append,uf];rfl
   ·intro z hz
    rcases List.mem_append.mp hz with q | q
    ·exact hzs z q
    ·rw[List.mem_singleton.mp q]
     exact⟨fun b hb=>by rw[List.mem_singleton.mp (show b∈[d] from hb)];exact y1 d hd,Nat.le_refl _⟩
  rintro ys τ H3 ⟨⟨v,rfl⟩,s3,DS,zs,rfl,uf,hzs⟩
  have sl:=EV (zs:=zs) (m:=1) fun z hz=>(hzs z hz).2
  have fl:=Ij (zs:=zs) (m:=1) fun z hz=>(hzs z hz).2
  have jl:=join_list zs
  have jn:(Txt.join ("":Str) zs).length≤102:=by
   have:=congrArg List.length jl
   rw[Array.length_toList] at this
   have:(Txt.join ("":Str) zs).length=_:=this
   omega
  have jo:bF (Txt.join ("":Str) zs):=fun b hb=>by
   rw[jl] at hb
   obtain⟨z,hz,hb⟩:=List.mem_flatMap.mp hb
   exact(hzs z hz).1 b hb
  refine⟨_,D,zs,rfl,rfl,aP.of DS,by omega,?_⟩
  have Zh:=s3 _ _ h12
  have Vl:=s12.trans s3
  refine⟨_,rfl,lx,_,_,_,rfl,rfl,aP.of Zh,vS,_,_,rfl,rfl,(by show(0:Int) < 3;decide),_,_,rfl,rfl,_,rfl,bB (fun _=>?_) (fun _=>⟨_,rfl,k _ H3 jo (by omega) Vl⟩)⟩
  have nl1:(Str.ofString "\n").length=1:=by decide +kernel
  have al:=jQ (Txt.join ("":Str) zs) (Str.ofString "\n")
  refine⟨_,rfl,_,_,rfl,rfl,Nat.le_trans (show(Txt.join ("":Str) zs).length+(Str.ofString "\n").length≤200 by omega) (by decide),_,rfl,k _ H3 (fun b hb=>?_) (by omega) Vl⟩
  rw[app_list] at hb
  rcases List.mem_append.mp hb with q | q
  ·exact jo b q
  ·rw[XH] at q;exact .inl (List.mem_singleton.mp q)
def iG (K:W.Frag) (C:Addr):Sp:=fun vs H Q _=>∃(ld:Addr) (z:Str) (xs:List V) (cs:List dO),vs=[.ref ld,.str z]∧H ld=some (.lst xs)∧nN C H xs cs∧(∀ x∈cs,vQ x)∧cs.length≤50∧0 < cs.length∧bF z∧z.length≤2000∧∀ H',aD H H'→Q (.bl true) H'
theorem nK:aE P w K mg base bz 11 (az 40) (aN 40) ["_law_dialects", "_law_text_here"] (iG K (az 43)):=by
 have iE:aE P w K mg base bz 9 (az 23) (aN 23) ["dialects", "text", "even"] (lW K (az 43)):=p8 T
 have lX:aE P w K mg base bz 10 (az 26) (aN 26) ["dialects", "text", "even"] (nJ K (az 43)):=tG T
 have yL:aE P w K mg base bz 10 (az 28) (aN 28) ["dialects", "texts", "even"] (oS K (az 43)):=wF T
 have zQ:aE P w K mg base bz 9 (az 20) (aN 20) ["dialect", "text"] (qv K (az 43)):=yG T
 have wM:aE P w K mg base bz 9 (az 19) (aN 19) ["dialect", "text"] (wB K (az 43)):=AM T
 refine T.iS.ok aO (fun vs H Q E h=>?_) (fun cdv A outer s H vs Q E hr h=>?_)
 ·obtain⟨ld,z,xs,cs,rfl,_⟩:=h;rfl
 ·have hu:=aX hr
  have gA:=hr.aQ
  obtain⟨ld,z,xs,cs,rfl,hd,mk,gd,hc,hc0,hz,uf,k⟩:=h
  have BZ:=mk.length
  have zR:=hr.units
  refine⟨_,(ah (cY 2 aO.nd xM)
   (ah (cj PassesOwn.never rfl (ck K rfl (gF (k:=9) iE (hr.mono (by decide)) rfl T.kU T.jC.kp T.cE.choose_spec.2 T.cE.choose_spec.1 jr (af (pv 0) (af (pv 1) ai)))) (dG K rfl 4 rfl (aM (fQ 3 aO.nd) (aM (fQ 4 aO.nd) (aM (fQ 5 aO.nd) (aM (fQ 6 aO.nd) dF)))))
   (ao (As hu (pv 2) (pv 4) (aF (af (pv 3) (af (pv 5) (af (pv 6) ai)))) rfl)))
   (ah (cj PassesOwn.never rfl (jq rfl T.jD (af (pJ (bO K rfl) T.eO (af (pv 0) ai)) ai)) (fQ 4 aO.nd)
   (ao (aL (eY (jL.Xl xo (HA K rfl gA)) (eB zQ hr T.zM T.sW.kp T.zL (af (o9 K (pv 0) (pv 4)) (af (pv 1) ai))) (CY hu (pv 2) (pv 4) ⟨rfl,rfl,rfl,rfl⟩)) (ao (ay jm)) aA)))
   (ah (cY 7 aO.nd (gF (k:=10) yL (hr.mono (by decide)) rfl T.yu T.ql.kp T.ly.choose_spec.2 T.ly.choose_spec.1 jr (af (pv 0) (af (cH (af (pv 1) ai)) ai))))
   (ah (aL (eY (CH K rfl zR) (pJ (vJ K rfl) T.ve (af (aB Cw (pv 7) (Q2 (zv rfl) T.wu (af (pv 2) ai))) ai)) (xQ rfl rfl T.wu rfl T.jD (af (pJ (bO K rfl) T.eO (af (pv 0) ai)) ai))) (ao (ay jm)) aA)
   (ah (cY 8 aO.nd (gF (k:=10) lX (hr.mono (by decide)) rfl T.pW T.lR.kp T.dN.choose_spec.2 T.dN.choose_spec.1 jr (af (pv 0) (af (pv 1) ai))))
   (ah (aL (eY (zk K rfl gA) (pv 7) (cH ai)) (ah (cY 3 aO.nd (pJ (Bp K rfl rfl) T.DO (af (fS rfl (show bw ["_law_dialects", "_law_text_here", "_law_falls", "_law_at", "_law_place", "_law_row", "_law_word", "_law_taken", "_law_told_here"] (au aW) ["_law_place", "_law_falls"] 1 [2] _ from De) (GA (pv 2)) (fun _ _ _ _=>(fQ 0 (show(["_law_place", "_law_falls"]:List Str).Nodup by decide +kernel))) (fun _ _ _ _=>jM) (fun _ _ _ _=>(ko K (nY hu (pv 1) (pv 0) (fun _ _=>rfl)) ak))) ai)))
   (ah (cY 4 aO.nd (pJ (Bs K rfl rfl) T.Ir (af (fS rfl (show bw ["_law_dialects", "_law_text_here", "_law_falls", "_law_at", "_law_place", "_law_row", "_law_word", "_law_taken", "_law_told_here"] (au aW) ["_law_place", "_law_at", "_law_falls"] 1 [3,2] _ from De) (GA (pv 2)) (fun _ _ _ _=>(fQ 0 (show(["_law_place", "_law_at", "_law_falls"]:List Str).Nodup by decide +kernel))) (fun _ _ _ _=>(qQ (eY br (ko K (nY hu (pv 2) (pv 0) (fun _ _=>rfl)) ak) (pv 1)))) (fun _ _ _ _=>(pv 0))) ai)))
   (ao (ay (Df (CG K rfl zR) (pv 8) (aF (af av (af (aF (af (pv 4) (af (ko K (nY hu (pv 2) (pv 4) (fun _ _=>rfl)) ak) (af (pv 3) (af (ko K (nY hu (pv 2) (pv 4) (fun _ _=>rfl)) ak) ai))))) ai)))))))) aA)
   (ao (ay (Df (CG K rfl zR) (pv 8) (aF (af av (af (fS rfl (show bw ["_law_dialects", "_law_text_here", "_law_falls", "_law_at", "_law_place", "_law_row", "_law_word", "_law_taken", "_law_told_here"] (au aW) ["_law_place", "_law_text_here", "_law_dialects"] 1 [1,0] _ from De) (ck K rfl (pv 7)) (fun _ _ _ _=>(fQ 0 (show(["_law_place", "_law_text_here", "_law_dialects"]:List Str).Nodup by decide +kernel))) (fun _ _ _ _=>jM) (fun _ _ _ _=>(aF (af (pv 0) (af (eB wM hr T.zK T.v9.kp T.zJ (af (o9 K (pv 2) (pv 0)) (af (pv 1) ai))) ai))))) ai))))))))))))),?_⟩
  refine fun Dd IX=>?_
  (have s1:=aq (o:=HO.dK []) IX;have u1:=aj (H:=H) (a:=Dd) (o:=HO.dK []);generalize upd H Dd (HO.dK [])=H1 at s1 u1 ⊢)
  refine⟨_,rfl,_,rfl,ld,z,false,xs,cs,rfl,s1 _ _ hd,nN.mono s1 mk,gd,by omega,hz,uf,fun lf ps fs H2 Zi hf fl hp AE s2=>⟨lf,rfl,⟨_,aP.of hf⟩,?_⟩⟩
  have hfl:=fl.length
  have RK:(fs.map BF).Nodup:=(hp.map _).nodup_iff.mpr (iP false z cs cs.length)
  have PN:∀ f∈fs,f.2.1 < cs.length∧∃ x,cs[f.2.1]? = some x∧bS (runC x z)=some (f.1,f.2.2.1,f.2.2.2):=fun f hf=>fR.mp (hp.mem_iff.mp hf)
  have RL:∀(i:Nat) x a b w,cs[i]? = some x→bS (runC x z)=some (a,b,w)→((a,i,b,w):F4)∈fs:=fun i x a b w hx he=>hp.mem_iff.mpr (fR.mpr ⟨(List.getElem?_eq_some_iff.mp hx).1,x,hx,he⟩)
  have Zj:fs.length≤50:=by
   have h1:=hp.length_eq
   have h2:=lO (ev:=false) (z:=z) (cs:=cs) cs.length
   omega
  refine eZ (K:=K) (a:=lf) (xs:=ps) (fun i σ J=>aD H J∧∃(kvs:List (Key×V)) (v3 v4 v5 v6:Option V),σ=[some (V.ref ld),some (V.str z),some (V.ref Dd),v3,v4,v5,v6,none,none]∧J lf=some (.lst ps)∧pO J ps fs∧J Dd=some (.dK kvs)∧tV J kvs (fs.take i)) ⟨s1.trans s2,[],none,none,none,none,rfl,hf,fl,s2 _ _ u1,.nil⟩ (fun i σ J _ p=>by obtain⟨_,_,_,_,_,_,_,h,_⟩:=p;exact aP.of h) ?_ ?_
  ·rintro i e σ J hi ⟨sJ,kvs,v3,v4,v5,v6,rfl,Fp,IY,BS,BU⟩
   obtain⟨f,wZ,t,rfl,ht⟩:=aS IY i e hi
   have hil:=(List.getElem?_eq_some_iff.mp wZ).1
   refine⟨t,_,rfl,bh.of ht,rfl,_,_,rfl,_,_,rfl,_,_,rfl,_,_,rfl,rfl,?_⟩
   refine⟨_,rfl,_,rfl,_,rfl,(by show 3≤sizeLine;decide),fun tt yP=>?_⟩
   (have t1:=aq (o:=HO.tup [V.int ↑f.fst,V.int ↑f.snd.snd.fst,V.str f.snd.snd.snd]) yP;have q1:=aj (H:=J) (a:=tt) (o:=HO.tup [V.int ↑f.fst,V.int ↑f.snd.snd.fst,V.str f.snd.snd.snd]);generalize upd J tt (HO.tup [V.int ↑f.fst,V.int ↑f.snd.snd.fst,V.str f.snd.snd.snd])=J1 at t1 q1 ⊢)
   have Ea:=t1 _ _ BS
   have LY:=tV.mono t1 BU
   have kl:kvs.length≤50:=by
    have:=BU.length
    rw[List.length_take] at this
    omega
   have vn:i9 kvs (.inl (f.2.1:Int))=none:=zG LY (AK RK wZ)
   refine⟨_,rfl,_,rfl,Dd,_,rfl,xJ.k (k:=.inl (f.2.1:Int)) Ea (Nat.lt_of_le_of_lt kl (by decide)),?_⟩
   rw[xH _ vn]
   have nl:lf≠Dd:=fun q=>by rw[q,BS] at Fp;cases Fp
   have nt:tt≠Dd:=fun q=>by rw[q,BS] at yP;cases yP
   refine⟨aK IX (sJ.trans t1),_,_,_,_,_,rfl,(aC nl).trans (t1 _ _ Fp),pO.dk Ea (pO.mono t1 IY),aj,?_⟩
   rw[cK wZ]
   exact eG (tV.put Ea (fun _ z=>nomatch z) LY) (.cons ⟨rfl,tt,rfl,(aC nt).trans q1⟩ .nil)
  rintro σ J ⟨sJ,kvs,v3,v4,v5,v6,rfl,Fp,IY,BS,BU⟩
  rw[hfl,List.take_of_length_le (Nat.le_refl _)] at BU
  have Zk:=sJ _ _ hd
  clear u1 hf fl
  refine⟨_,rfl,ld,_,rfl,.inl (aP.of Zk),_,rfl,(by omega),(by omega),?_⟩
  refine lJ (fun i σ G=>aD H G∧aD J G∧∃(v3 v4 v5 v6:Option V),σ=[some (V.ref ld),some (V.str z),some (V.ref Dd),v3,v4,v5,v6,none,none]) ⟨sJ,aD.refl _,_,_,_,_,rfl⟩ ?_ ?_
  ·rintro i σ G hi ⟨sG,jG,w3,w4,w5,w6,rfl⟩
   have hi:i < xs.length:=by simpa using hi
   obtain⟨e,he⟩:∃ e,xs[i]? = some e:=⟨_,List.getElem?_eq_getElem hi⟩
   obtain⟨x,hx,y,dy,rfl,hy⟩:=aS mk i e he
   have hat:vv xs (0+(i:Int))=some (.ref y):=by rw[Int.zero_add];exact iK he
   have gx:=gd x (List.mem_of_getElem? hx)
   have IZ:=sG _ _ hd
   have Zl:=sG _ _ hy
   have i0:(0+(i:Int))=(i:Int):=Int.zero_add _
   dsimp only[gv]
   refine⟨_,rfl,_,rfl,ld,_,_,_,rfl,rfl,aP.of IZ,hat,_,rfl,y,dy,z,x.1,x.2.1,x.2.2.1,x.2.2.2.a,x.2.2.2.b,x.2.2.2.c,x.2.2.2.d,rfl,Zl,gx,hz,uf,(fun hW G1 t1=>?_),(fun hW t G1 ht t1=>?_)⟩
   ·have hW:dJ (runC x z)=Str.ofString "" := hW
    have en:bS (runC x z)=none:=by unfold bS;rw[hW,if_pos (dm _)]
    have GH:=(jG.trans t1) _ _ BS
    have vn:i9 kvs (.inl (0+(i:Int)))=none:=by
     rw[i0]
     exact zG BU fun f hf q=>by
      obtain⟨_,x',h1,h2⟩:=PN f hf
      rw[q,hx] at h1;cases h1
      rw[en] at h2;cases h2
    refine⟨_,rfl,Dd,rfl,.inl ⟨kvs,.inl GH⟩,_,rfl,_,mw.k (k:=.inl (0+(i:Int))) GH,?_⟩
    rw[vn]
    exact .inl ⟨rfl,_,rfl,fL ⟨sG.trans t1,jG.trans t1,_,_,_,_,rfl⟩⟩
   ·have hW:dJ (runC x z)≠Str.ofString "" := hW
    have en:bS (runC x z)=some ((runC x z).1.length,mC (runC x z).1,dJ (runC x z)):=by unfold bS;rw[if_neg (fun q=>hW (jb q))]
    have GH:=(jG.trans t1) _ _ BS
    rcases sy i BU with ⟨f,hf,q,u,hu,QL⟩ | ⟨hn,_⟩
    rotate_left
    ·exact absurd rfl (hn _ (RL i x _ _ _ hx en))
    obtain⟨_,x',h1,h2⟩:=PN f hf
    rw[q,hx] at h1;cases h1
    rw[en] at h2
    injection h2 with h2
    have Vm:=(jG.trans t1) _ _ QL
    have et:E8 f=[.int ((runC x z).1.length:Nat),.int (mC (runC x z).1:Nat),.str (dJ (runC x z))]:=by
     obtain⟨fa,fp,fb,fw⟩:=f
     injection h2 with h2 h3
     injection h3 with h3 h4
     subst h2;subst h3;subst h4;rfl
    rw[et] at Vm
    refine⟨_,rfl,Dd,rfl,.inl ⟨kvs,.inl GH⟩,_,rfl,_,mw.k (k:=.inl (0+(i:Int))) GH,?_⟩
    rw[i0,hu]
    exact .inr ⟨t,u,_,_,rfl,rfl,bh.of ht,bh.of Vm,rfl,rfl,_,rfl,Dh (pF rfl) ⟨sG.trans t1,jG.trans t1,_,_,_,_,rfl⟩⟩
  rintro σ G ⟨sG,jG,w3,w4,w5,w6,rfl⟩
  have IZ:=sG _ _ hd
  have GH:=jG _ _ BS
  have Vn:=tV.mono jG BU
  refine⟨_,rfl,_,rfl,(by show 1≤sizeLine;decide),fun lz Zm=>?_⟩
  (have t1:=aq (o:=HO.lst [V.str z]) Zm;have q1:=aj (H:=G) (a:=lz) (o:=HO.lst [V.str z]);generalize upd G lz (HO.lst [V.str z])=G1 at t1 q1 ⊢)
  have hd1:=t1 _ _ IZ
  refine⟨ld,lz,false,[z],xs,cs,rfl,hd1,nN.mono (sG.trans t1) mk,gd,by omega,q1,(fun z' hz'=>by rw[List.mem_singleton.mp hz'];exact⟨hz,uf⟩),fun lp G2 fp hp2 t2=>?_⟩
  have C5:=(t1.trans t2) _ _ GH
  refine⟨_,rfl,_,rfl,Dd,kvs,rfl,.inl C5,fun lk hlk=>?_⟩
  (have t3:=aq (o:=HO.lst (List.map (fun e=>kV e.fst) kvs)) hlk;have q3:=aj (H:=G2) (a:=lk) (o:=HO.lst (List.map (fun e=>kV e.fst) kvs));generalize upd G2 lk (HO.lst (List.map (fun e=>kV e.fst) kvs))=G3 at t3 q3 ⊢)
  have Zn:G3 lk=some (.lst ((fs.map BF).map V.int)):=by rw[←AJ Vn];exact q3
  have hp3:=t3 _ _ hp2
  rw[n8] at hp3
  have l1:(((List.range cs.length).filter (kM false [z] cs)).map cI).length≤cs.length:=by
   rw[List.length_map]
   exact Nat.le_trans (List.length_filter_le _ _) (by rw[List.length_range];exact Nat.le_refl _)
  have ap:=DJ hp
  have PR:(((List.range cs.length).filter (kM false [z] cs)).map cI++fs.map BF).length=cs.length:=by rw[ap.length_eq,List.length_map,List.length_range]
  refine⟨lp,lk,_,_,rfl,rfl,hp3,Zn,?_,fun lc RM=>?_⟩
  ·have e:=PR
   simp only[List.length_append,List.length_map] at e ⊢
   exact Nat.le_trans (show _≤100 by omega) (by decide)
  (have t4:=aq (o:=HO.lst (List.map V.int (List.map cI (List.filter (kM false [z] cs) (List.range cs.length)))++List.map V.int (List.map BF fs))) RM;have q4:=aj (H:=G3) (a:=lc) (o:=HO.lst (List.map V.int (List.map cI (List.filter (kM false [z] cs) (List.range cs.length)))++List.map V.int (List.map BF fs)));generalize upd G3 lc (HO.lst (List.map V.int (List.map cI (List.filter (kM false [z] cs) (List.range cs.length)))++List.map V.int (List.map BF fs)))=G4 at t4 q4 ⊢)
  rw[←List.map_append] at q4
  refine⟨lc,_,rfl,aP.of q4,by rw[PR];omega,fun ns hns hso lm Zo=>?_⟩
  have ens:=E9 (hns.trans ap) hso
  subst ens
  (have t5:=aq (o:=HO.lst (List.map V.int (List.map cI (List.range cs.length)))) Zo;have q5:=aj (H:=G4) (a:=lm) (o:=HO.lst (List.map V.int (List.map cI (List.range cs.length))));generalize upd G4 lm (HO.lst (List.map V.int (List.map cI (List.range cs.length))))=G5 at t5 q5 ⊢)
  have s5:=sG.trans (t1.trans (t2.trans (t3.trans (t4.trans t5))))
  refine⟨_,rfl,ld,_,rfl,.inl (aP.of (s5 _ _ hd)),_,rfl,(by omega),(by omega),fun lr hlr=>?_⟩
  have t6:=aq (o:=HO.lst (tS 0 ((xs.length:Nat):Int).toNat)) hlr
  have q6:(upd G5 lr (HO.lst (tS 0 ((xs.length:Nat):Int).toNat))) lr=some (.lst (tS 0 ((xs.length:Nat):Int).toNat)):=aj
  generalize upd G5 lr (HO.lst (tS 0 ((xs.length:Nat):Int).toNat))=G6 at t6 q6 ⊢
  rw[BZ,show((cs.length:Int)).toNat=cs.length from Int.toNat_natCast _,Im] at q6
  refine⟨⟨1,lm,lr,_,_,rfl,rfl,by decide,rfl,.inr ⟨aP.of (t6 _ _ q5),aP.of q6⟩,nq (by rw[List.all_map];exact List.all_eq_true.mpr fun _ _=>rfl)⟩,_,rfl,fL ?_⟩
  have s6:=s5.trans t6
  have g6:=t1.trans (t2.trans (t3.trans (t4.trans (t5.trans t6))))
  have Zp:=(t3.trans (t4.trans (t5.trans t6))) _ _ hp2
  have Zq:=g6 _ _ GH
  have Zr:=tV.mono g6 Vn
  have Zs:=s6 _ _ hd
  dsimp only[Cc]
  refine⟨_,rfl,_,rfl,ld,z,false,xs,cs,rfl,Zs,nN.mono s6 mk,gd,by omega,hz,uf,fun tf wf vf G7 Zt PU t7=>?_⟩
  have Zu:=t7 _ _ Zp
  refine⟨_,rfl,(by decide),fun le hle=>?_⟩
  (have t8:=aq (o:=HO.lst []) hle;have q8:=aj (H:=G7) (a:=le) (o:=HO.lst []);generalize upd G7 le (HO.lst [])=G8 at t8 q8 ⊢)
  have RN:=t7.trans t8
  have RO:=t8 _ _ Zu
  refine⟨lp,le,_,rfl,rfl,aP.of RO,aP.of q8,_,rfl,?_⟩
  have Fd:=zF (z:=z) (cs:=cs) cs.length (Nat.le_refl _)
  have s8:=s6.trans RN
  have PV:=RN _ _ Zq
  have Zv:=tV.mono RN Zr
  have PX:=t8 _ _ Zt
  have uq:∀ f∈fs,∀ f'∈fs,f'.2.1=f.2.1→f'=f:=fun f hf f' hf' e=>by
   obtain⟨_,x,h1,h2⟩:=PN f hf
   obtain⟨_,x',Pq,h2'⟩:=PN f' hf'
   rw[e,h1] at Pq;cases Pq
   rw[h2] at h2'
   obtain⟨a,p,b,w⟩:=f
   obtain⟨a',p',b',w'⟩:=f'
   injection h2' with h3
   injection h3 with h3 h4
   injection h4 with h4 h5
   have e:p'=p:=e
   have h3:a=a':=h3
   subst e;subst h3;subst h4;subst h5;rfl
  refine bB (fun hE=>?_) (fun hE=>?_)
  ·have e0:(List.range cs.length).filter (kM false [z] cs)=[]:=by
    rw[n8] at hE
    have:=List.isEmpty_iff.mp hE
    rw[List.map_map] at this
    exact List.map_eq_nil_iff.mp this
   rw[e0] at Fd
   have tk0:je false z cs cs.length=[]:=List.map_eq_nil_iff.mp Fd
   have Vo:fs≠[]:=fun q=>by
    rw[e0,q] at PR
    have:0=cs.length:=PR
    omega
   obtain⟨b,hb1,hb2,Vp⟩:=Io hp AE (sd false z cs cs.length) (DB (by omega)) Vo
   rcases PU with ⟨q,_⟩ | ⟨_,rfl,fs',lv,Kg,LZ⟩
   ·exact absurd tk0 q
   obtain rfl:=DA Kg hp LZ AE
   have lv:Dz (some b) G7 vf:=by rw[←hb1];exact lv
   obtain⟨tb,rfl,htb⟩:=lv
   have I0:=t8 _ _ htb
   refine⟨_,rfl,Dd,kvs,rfl,.inl ⟨PV,fun o D hD=>?_⟩⟩
   have sF:aD H (upd G8 Dd (.m8 o (.dK kvs))):=aK IX s8
   have L0:tV (upd G8 Dd (.m8 o (.dK kvs))) kvs fs':=tV.put PV (fun _ z=>nomatch z) Zv
   have PY:(upd G8 Dd (.m8 o (.dK kvs))) Dd=some (.m8 o (.dK kvs)):=aj
   have Vq:(upd G8 Dd (.m8 o (.dK kvs))) tf=_:=(aC (fun q=>by rw[q,PV] at PX;cases PX)).trans PX
   have Vr:(upd G8 Dd (.m8 o (.dK kvs))) tb=_:=(aC (fun q=>by rw[q,PV] at I0;cases I0)).trans I0
   generalize upd G8 Dd (.m8 o (.dK kvs))=F0 at sF L0 PY Vq Vr hD ⊢
   have get:∀ f∈fs',∃ t,i9 kvs (.inl (f.2.1:Int))=some (.ref t)∧F0 t=some (.tup (E8 f)):=fun f hf=>by
    rcases sy f.2.1 L0 with ⟨f',hf',q,t,h1,h2⟩ | ⟨hn,_⟩
    ·rw[uq f hf f' hf' q] at h2;exact⟨t,h1,h2⟩
    ·exact absurd rfl (hn f hf)
   have dg:∀{J:Hp}{k:Key},aD F0 J→mw J Dd (kV k) (i9 kvs k):=fun sJ=>.inl ⟨kvs,_,.inr ⟨o,sJ _ _ PY⟩,rfl,rfl⟩
   have kl:=L0.length
   refine Ax (o:=o) (fun i ys τ J=>(∃ v,τ=[v,some (.ref Dd)])∧aD F0 J∧J D=some (.lst ys)∧ys=(fs'.take i).map XR) ⟨⟨_,rfl⟩,aq hD,aj,rfl⟩ (fun i ys τ J _ p=>⟨p.2.1 _ _ PY,p.2.2.1⟩) ?_ ?_
   ·rintro i e ys τ J hi ⟨⟨v,rfl⟩,sJ,hl,rfl⟩
    obtain⟨f,wZ,e1,t',e2,_⟩:=aS L0 i e hi
    obtain⟨t,h1,h2⟩:=get f (List.mem_of_getElem? wZ)
    have h2:=sJ _ _ h2
    have dd:=dg (k:=.inl (f.2.1:Int)) sJ
    rw[h1] at dd
    rw[e1]
    refine zz ?_
    refine⟨_,rfl,_,rfl,Dd,.ref t,rfl,dd,t,_,_,_,rfl,rfl,bh.of h2,rfl,hl,?_,⟨_,rfl⟩,aK hD sJ,aj,?_⟩
    ·rw[List.length_map,List.length_take];exact Nat.lt_of_le_of_lt (show _≤100 by omega) (by decide)
    ·rw[cK wZ,List.map_append];rfl
   rintro ys τ F1 ⟨⟨v,rfl⟩,s1',hl1,rfl⟩
   rw[kl,List.take_of_length_le (Nat.le_refl _)] at hl1
   refine⟨D,fs'.map (·.1),rfl,aP.of (by rw[List.map_map];exact hl1),(fun q=>Vo (List.map_eq_nil_iff.mp q)),fun vS RP RQ=>?_⟩
   have RH:vS=b.1:=by
    obtain⟨f,hf,rfl⟩:=List.mem_map.mp RP
    have h1:=(Vp f hf).1
    have h2:=RQ b.1 (List.mem_map.mpr ⟨b,hb2,rfl⟩)
    omega
   subst RH
   have Ea:=s1' _ _ PY
   refine⟨_,rfl,Dd,kvs,rfl,.inr ⟨o,Ea,fun E hE=>?_⟩⟩
   refine Ax (o:=o) (fun i ys τ J=>(∃ v,τ=[v,some (.int (b.1:Nat)),some (.ref Dd)])∧aD F1 J∧J E=some (.lst ys)∧ys=((fs'.take i).filter (fun f=>decide (f.1=b.1))).map XS) ⟨⟨_,rfl⟩,aq hE,aj,rfl⟩ (fun i ys τ J _ p=>⟨p.2.1 _ _ Ea,p.2.2.1⟩) ?_ ?_
   ·rintro i e ys τ J hi ⟨⟨v,rfl⟩,sJ,hl,rfl⟩
    obtain⟨f,wZ,e1,t',e2,_⟩:=aS L0 i e hi
    obtain⟨t,h1,h2⟩:=get f (List.mem_of_getElem? wZ)
    have L1:=s1'.trans sJ
    have h2:=L1 _ _ h2
    have dd:=dg (k:=.inl (f.2.1:Int)) L1
    rw[h1] at dd
    rw[e1]
    dsimp only[gv]
    refine⟨_,rfl,_,rfl,Dd,.ref t,rfl,dd,t,_,_,_,rfl,rfl,bh.of h2,rfl,_,rfl,rfl,_,rfl,Ic (fun q=>?_) (fun q=>?_)⟩
    ·have q:f.1=b.1:=by omega
     refine⟨_,rfl,hl,?_,⟨_,rfl⟩,aK hE sJ,aj,?_⟩
     ·rw[List.length_map]
      refine Nat.lt_of_le_of_lt (Nat.le_trans (List.length_filter_le _ _) ?_) (show 100 < sizeLine by decide)
      rw[List.length_take];omega
     ·rw[cK wZ,List.filter_append,List.filter_cons_of_pos (by exact decide_eq_true q),List.map_append];rfl
    ·have q:¬f.1=b.1:=fun z=>q (by rw[z])
     refine⟨⟨_,rfl⟩,sJ,hl,?_⟩
     rw[cK wZ,List.filter_append,List.filter_cons_of_neg (by rw[decide_eq_true_iff];exact q),List.filter_nil,List.append_nil]
   rintro ys τ F2 ⟨⟨v,rfl⟩,s2',hl2,rfl⟩
   rw[kl,List.take_of_length_le (Nat.le_refl _)] at hl2
   refine⟨E,(fs'.filter (fun f=>decide (f.1=b.1))).map (·.2.1),rfl,aP.of (by rw[List.map_map];exact hl2),(fun q=>?_),fun pl hpl hmin=>?_⟩
   ·have:b∈fs'.filter (fun f=>decide (f.1=b.1)):=List.mem_filter.mpr ⟨hb2,decide_eq_true rfl⟩
    rw[List.map_eq_nil_iff.mp q] at this;cases this
   have Zw:pl=b.2.1:=by
    obtain⟨f,hf,rfl⟩:=List.mem_map.mp hpl
    obtain⟨hf1,hf2⟩:=List.mem_filter.mp hf
    have h1:=(Vp f hf1).2 (of_decide_eq_true hf2)
    have h2:=hmin b.2.1 (List.mem_map.mpr ⟨b,List.mem_filter.mpr ⟨hb2,decide_eq_true rfl⟩,rfl⟩)
    omega
   subst Zw
   obtain⟨t,h1,h2⟩:=get b hb2
   have L3:=s1'.trans s2'
   have h2:=L3 _ _ h2
   have dd:=dg (k:=.inl (b.2.1:Int)) L3
   rw[h1] at dd
   refine⟨_,rfl,_,rfl,_,rfl,_,rfl,Dd,.ref t,rfl,dd,t,_,_,_,rfl,rfl,bh.of h2,rfl,_,rfl,_,rfl,_,rfl,Dd,.ref t,rfl,dd,t,_,_,_,rfl,rfl,bh.of h2,rfl,(by show 4≤sizeLine;decide),fun t1' ht1=>?_⟩
   have u1:=aq (o:=HO.tup (uZ b)) ht1
   have x1:(upd F2 t1' (HO.tup (uZ b))) t1'=some (.tup (uZ b)):=aj
   refine⟨(by show 2≤sizeLine;decide),fun PZ Fo=>?_⟩
   have u2:=aq (o:=HO.tup [V.str ("none":Str),.ref t1']) Fo
   refine⟨⟨3,tf,PZ,[V.str ("none":Str),.ref tb],[V.str ("none":Str),.ref t1'],rfl,rfl,by decide,rfl,.inl ⟨bh.of (u2 _ _ (u1 _ _ (L3 _ _ Vq))),bh.of aj⟩,nu (.flat rfl rfl rfl) (.tup (bh.of (u2 _ _ (u1 _ _ (L3 _ _ Vr)))) (bh.of (u2 _ _ x1)) rfl (nq rfl))⟩,?_⟩
   exact k _ (sF.trans (L3.trans (u1.trans u2)))
  dsimp only[Cc]
  rcases PU with ⟨P0,rfl,lt,gs,rfl,Ja⟩ | ⟨q,_⟩
  rotate_left
  ·exfalso
   rw[q] at Fd
   apply hE
   rw[n8,←Fd];rfl
  have RS:=Ja.mono t8
  refine⟨_,rfl,_,rfl,lp,rfl,⟨_,aP.of RO⟩,fun D hD=>?_⟩
  have tkl:=vU (ev:=false) (z:=z) (cs:=cs) cs.length
  have RT:∀(i:Nat) v,(pN false [z] cs cs.length)[i]? = some v→∃ p,(je false z cs cs.length)[i]? = some p∧v=.int (p.1:Nat):=fun i v hv=>by
   rw[n8,←Fd,List.map_map,List.map_map,List.getElem?_map] at hv
   obtain⟨p,hp1,rfl⟩:=Option.map_eq_some_iff.mp hv
   exact⟨p,hp1,rfl⟩
  have Zx:(pN false [z] cs cs.length).length=(je false z cs cs.length).length:=by rw[n8,←Fd,List.length_map,List.length_map,List.length_map]
  refine jt (K:=K) (a:=lp) (xs:=pN false [z] cs cs.length) (fun i ys τ J=>(∃ v,τ=[v,some (.str z),some (.ref ld)])∧aD G8 J∧J D=some (.lst ys)∧∃ gs':List jd,ys=gs'.map (fun g=>V.ref g.t)∧(∀ g∈gs',g.ok (fun _=>none) J∧V.ref D∉g.own)∧gs'.map jd.val=(je false z cs cs.length).take i) ⟨⟨_,rfl⟩,aq hD,aj,[],rfl,(fun _ q=>nomatch q),rfl⟩ (fun i ys τ J _ p=>⟨aP.of (p.2.1 _ _ RO),p.2.2.1⟩) ?_ ?_
  ·rintro i e ys τ J hi ⟨⟨v,rfl⟩,sJ,hl,gs',rfl,hgs,hval⟩
   obtain⟨pr,Vs,rfl⟩:=RT i e hi
   obtain⟨x,hx,en,Zy,L4⟩:=DI (List.mem_of_getElem? Vs)
   obtain⟨e',he',y,dy,rfl,hy⟩:∃ e',xs[pr.1]? = some e'∧∃ y dy,e'=V.ref y∧H y=some (.ins (az 43) dy (ET x)):=by
    obtain⟨e',he'⟩:∃ e',xs[pr.1]? = some e':=⟨_,List.getElem?_eq_getElem (by omega)⟩
    obtain⟨x',hx',y,dy,e1,e2⟩:=aS mk pr.1 e' he'
    rw[hx] at hx';cases hx'
    exact⟨e',he',y,dy,e1,e2⟩
   have hat:vv xs ((pr.1:Nat):Int)=some (.ref y):=iK he'
   have gx:=gd x (List.mem_of_getElem? hx)
   have L1:=s8.trans sJ
   have hW:dJ (runC x z)=Str.ofString "" := by
    unfold bS at en
    by_cases q:bf (dJ (runC x z)) ("":Str)=true
    ·exact jb q
    ·rw[if_neg q] at en;cases en
   refine zz ?_
   refine⟨_,rfl,_,rfl,_,rfl,ld,_,_,_,rfl,rfl,aP.of (L1 _ _ hd),hat,_,rfl,y,dy,z,x.1,x.2.1,x.2.2.1,x.2.2.2.a,x.2.2.2.b,x.2.2.2.c,x.2.2.2.d,rfl,L1 _ _ hy,gx,hz,uf,hW,fun l es J1 wY hl1 nl nd GI t1'=>?_⟩
   have GI:gi J J1 es (cZ z (runC x z).1):=GI
   refine⟨(by show 2≤sizeLine;decide),fun u hu=>?_⟩
   have su:=aq (o:=HO.tup [V.int (pr.1:Nat),.ref l]) hu
   have xu:(upd J1 u (HO.tup [V.int (pr.1:Nat),.ref l])) u=some (.tup [V.int (pr.1:Nat),.ref l]):=aj
   generalize upd J1 u (HO.tup [V.int (pr.1:Nat),.ref l])=J2 at su xu ⊢
   have s12:=t1'.trans su
   have C5:=s12 _ _ hl
   have gl:gs'.length≤cs.length:=by
    have:=congrArg List.length hval
    rw[List.length_map,List.length_take] at this
    omega
   have nD:V.ref D∉(V.ref l :: es):=fun q=>by
    rcases List.mem_cons.mp q with e | e
    ·cases e;rw[hl] at wY;cases wY
    ·have:=(GI.has e).1
     rw[hl] at this;cases this
   have nuD:u≠D:=fun q=>by rw[q,t1' _ _ hl] at hu;cases hu
   refine⟨C5,?_,⟨_,rfl⟩,aK hD (sJ.trans s12),aj,gs'++[⟨pr.1,u,l,es,cZ z (runC x z).1⟩],by rw[List.map_append];rfl,fun g hg=>?_,?_⟩
   ·rw[List.length_map];exact Nat.lt_of_le_of_lt (show gs'.length≤100 by omega) (by decide)
   ·rcases List.mem_append.mp hg with q | q
    ·obtain⟨h1,h2⟩:=hgs g q
     exact⟨(h1.mono s12).but C5 h2,h2⟩
    ·rw[List.mem_singleton.mp q]
     exact⟨jd.ok.but C5 nD ⟨xu,rfl,su _ _ hl1,gi.weak (gi.mono su GI)⟩,nD⟩
   ·rw[List.map_append,hval,cK Vs]
    show _++[(pr.1,cZ z (runC x z).1)]=_++[pr]
    rw[←Zy]
  rintro ys τ J ⟨⟨v,rfl⟩,sJ,hl,gs',rfl,hgs,hval⟩
  rw[Zx,List.take_of_length_le (Nat.le_refl _)] at hval
  refine⟨(by show 2≤sizeLine;decide),fun PZ Fo=>?_⟩
  have u2:=aq (o:=HO.tup [V.str ("read":Str),.ref D]) Fo
  have Fq:=(RS.mono sJ).mono u2
  have Zz:∀ g∈gs',g.ok (fun _=>none) (upd J PZ (HO.tup [V.str ("read":Str),.ref D])):=fun g hg=>(hgs g hg).1.mono u2
  refine⟨⟨5,tf,PZ,[V.str ("read":Str),.ref lt],[V.str ("read":Str),.ref D],rfl,rfl,by decide,rfl,.inl ⟨bh.of (u2 _ _ (sJ _ _ PX)),bh.of aj⟩,nu (.flat rfl rfl rfl) (.lst (aP.of Fq.ls) (aP.of (u2 _ _ hl)) ?_ fun j a b ea eb=>?_)⟩,?_⟩
  ·have:=congrArg List.length (Fq.eq.trans hval.symm)
   rw[List.length_map,List.length_map] at this ⊢
   exact this
  ·rw[List.getElem?_map] at ea eb
   obtain⟨g,hg,rfl⟩:=Option.map_eq_some_iff.mp ea
   obtain⟨g',hg',rfl⟩:=Option.map_eq_some_iff.mp eb
   refine DE (n:=1) (Fq.ok g (List.mem_of_getElem? hg)) (Zz g' (List.mem_of_getElem? hg')) ?_
   have q1:(gs.map jd.val)[j]? = some g.val:=by rw[List.getElem?_map,hg];rfl
   have q2:(gs'.map jd.val)[j]? = some g'.val:=by rw[List.getElem?_map,hg'];rfl
   rw[Fq.eq] at q1
   rw[hval,q1] at q2
   exact Option.some.inj q2
  ·exact k _ (s8.trans (sJ.trans u2))
def kh (K:W.Frag) (C:Addr):Sp:=fun vs H Q _=>∃(ld:Addr) (y z:Str) (xs:List V) (cs:List dO),vs=[.ref ld,.str y,.str z]∧H ld=some (.lst xs)∧nN C H xs cs∧(∀ x∈cs,vQ x)∧cs.length≤50∧0 < cs.length∧bF y∧y.length≤900∧bF z∧z.length≤900∧∀ H',aD H H'→Q (.bl true) H'
theorem qN:aE P w K mg base bz 11 (az 41) (aN 41) ["_law_dialects", "_law_one", "_law_other"] (kh K (az 43)):=by
 have iE:aE P w K mg base bz 9 (az 23) (aN 23) ["dialects", "text", "even"] (lW K (az 43)):=p8 T
 have lX:aE P w K mg base bz 10 (az 26) (aN 26) ["dialects", "text", "even"] (nJ K (az 43)):=tG T
 have wM:aE P w K mg base bz 9 (az 19) (aN 19) ["dialect", "text"] (wB K (az 43)):=AM T
 refine T.lu.ok aJ (fun vs H Q E h=>?_) (fun cdv A outer s H vs Q E hr h=>?_)
 ·obtain⟨ld,y,z,xs,cs,rfl,_⟩:=h;rfl
 ·have hu:=aX hr
  have gA:=hr.aQ
  obtain⟨ld,y,z,xs,cs,rfl,hd,mk,gd,hc,hc0,hy,hyl,hz,uf,k⟩:=h
  have BZ:=mk.length
  have zR:=hr.units
  have hyz:bF (y++z):=xY hy hz
  have ZA:(y++z).length=y.length+z.length:=by
   have h1:(y++z).length=(y++z).cps.toList.length:=Array.length_toList.symm
   rw[h1,app_list,List.length_append,Array.length_toList,Array.length_toList];rfl
  refine⟨_,(ah (cY 3 aJ.nd (gF (k:=9) iE (hr.mono (by decide)) rfl T.kU T.jC.kp T.cE.choose_spec.2 T.cE.choose_spec.1 jr (af (pv 0) (af (aB cG (pv 1) (pv 2)) ai))))
   (ah (cY 4 aJ.nd (gF (k:=9) iE (hr.mono (by decide)) rfl T.kU T.jC.kp T.cE.choose_spec.2 T.cE.choose_spec.1 jr (af (pv 0) (af (pv 1) ai))))
   (ah (cj PassesOwn.never rfl (ck K rfl (pv 4)) (dG K rfl 4 rfl (aM (fQ 5 aJ.nd) (aM (fQ 6 aJ.nd) (aM (fQ 7 aJ.nd) (aM (fQ 8 aJ.nd) dF)))))
   (ao (aL (PW.pt (kB (eY xo (pv 8) av) (iI (d8 (uL K rfl zR) (aF (af (pv 5) (af (pv 6) (af (pv 7) (af (pv 8) ai))))) (pv 3) rfl)))) (ao (ay jm)) aA)))
   (ah (cY 9 aJ.nd xM)
   (ah (cj PassesOwn.never rfl (ck K rfl (gF (k:=9) iE (hr.mono (by decide)) rfl T.kU T.jC.kp T.cE.choose_spec.2 T.cE.choose_spec.1 jr (af (pv 0) (af (pv 2) ai)))) (dG K rfl 4 rfl (aM (fQ 5 aJ.nd) (aM (fQ 6 aJ.nd) (aM (fQ 7 aJ.nd) (aM (fQ 8 aJ.nd) dF)))))
   (ao (As hu (pv 9) (pv 6) (aF (af (pv 5) (af (pv 7) (af (pv 8) ai)))) rfl)))
   (ah (cj PassesOwn.never rfl (ck K rfl (fS rfl (show bw ["_law_dialects", "_law_one", "_law_other", "_law_both", "_law_ahead", "_law_at", "_law_place", "_law_row", "_law_word", "_law_behind", "_law_table"] (au cz) ["_law_pair", "_law_dialects", "_law_one"] 1 [0,1] _ from De) (HX K rfl (ko K (gF (k:=10) lX (hr.mono (by decide)) rfl T.pW T.lR.kp T.dN.choose_spec.2 T.dN.choose_spec.1 jr (af (pv 0) (af (pv 1) ai))) ak)) (fun _ _ _ _=>(fQ 0 (show(["_law_pair", "_law_dialects", "_law_one"]:List Str).Nodup by decide +kernel))) (fun _ _ _ _=>(qQ (eY br (ko K (gF (k:=10) lX (hr.mono (by decide)) rfl T.pW T.lR.kp T.dN.choose_spec.2 T.dN.choose_spec.1 jr (af (pv 1) (af (pv 2) ai))) ak) av))) (fun _ _ _ _=>(pv 0)))) (dG K rfl 2 rfl (aM (fQ 6 aJ.nd) (aM (fQ 10 aJ.nd) dF)))
   (ao (aL (GP (HP hu (pv 6) (pv 9))) (ah (jJ (nY hu (pv 9) (pv 6) (fun _ _=>rfl)) (dG K rfl 3 rfl (aM (fQ 5 aJ.nd) (aM (fQ 7 aJ.nd) (aM (fQ 8 aJ.nd) dF)))))
   (ao (aL (d8 (uL K rfl zR) (aF (af (aB bU (pv 5) (pJ cJ T.eO (af (pv 1) ai))) (af (pv 6) (af (aB bU (pv 7) (pJ (bO K rfl) T.eO (af (pv 10) ai))) (af (pv 8) ai))))) (pv 3) rfl) (ao (ay jm)) aA))) (ao (aL (eY (CH K rfl zR) (eB wM hr T.zK T.v9.kp T.zJ (af (o9 K (pv 0) (pv 6)) (af (aB cG (pv 1) (pv 2)) ai))) (aB Cw (pv 10) (eB wM hr T.zK T.v9.kp T.zJ (af (o9 K (pv 0) (pv 6)) (af (pv 2) ai))))) (ao (ay jm)) aA)))))
   (ao (ay jm)))))))),?_⟩
  refine⟨_,rfl,_,rfl,_,rfl,_,_,rfl,rfl,Nat.le_trans (show y.length+z.length≤2000 by omega) (by decide),?_⟩
  refine⟨ld,y++z,false,xs,cs,rfl,hd,mk,gd,by omega,hyz,by omega,fun lb pb fb H1 lb0 hb flb Vt hsb s1=>?_⟩
  refine⟨_,rfl,_,rfl,ld,y,false,xs,cs,rfl,s1 _ _ hd,nN.mono s1 mk,gd,by omega,hy,by omega,fun la pa fa H2 la0 ha fla hpa hsa s2=>?_⟩
  have s12:=s1.trans s2
  have Vu:∀(J:Hp) (f:F4) (t:Addr),aD H2 J→f∈fb→J t=some (.tup (qA f))→∀ r:Bool,(r=true↔isIn K J pb (qA f))→r=true:=fun J f t sJ hf ht r hr=>hr.mpr (by
   obtain⟨j,hj⟩:=List.getElem?_of_mem hf
   obtain⟨v,hv,t',e1,e2⟩:=qj flb j f hj
   exact⟨v,List.mem_of_getElem? hv,t',_,e1,bh.of ((s2.trans sJ) _ _ e2),pF rfl⟩)
  have L5:∀(J:Hp),aD H2 J→∀ w∈pb,∃ b ys,w=V.ref b∧bh K J b ys∧ys.all bW=true:=fun J sJ w hw=>by
   obtain⟨j,hj⟩:=List.getElem?_of_mem hw
   obtain⟨f,_,t',e1,e2⟩:=aS flb j w hj
   exact⟨t',_,e1,bh.of ((s2.trans sJ) _ _ e2),rfl⟩
  refine⟨_,rfl,la,rfl,⟨_,aP.of ha⟩,?_⟩
  refine eZ (K:=K) (a:=la) (xs:=pa) (fun i σ J=>aD H2 J∧∃(v5 v6 v7 v8:Option V),σ=[some (V.ref ld),some (V.str y),some (V.str z),some (V.ref lb),some (V.ref la),v5,v6,v7,v8,none,none]) ⟨aD.refl _,none,none,none,none,rfl⟩ (fun i σ J _ p=>aP.of (p.1 _ _ ha)) ?_ ?_
  ·rintro i e σ J hi ⟨sJ,v5,v6,v7,v8,rfl⟩
   obtain⟨f,wZ,t,rfl,ht⟩:=aS fla i e hi
   refine⟨t,_,rfl,bh.of (sJ _ _ ht),rfl,_,_,rfl,_,_,rfl,_,_,rfl,_,_,rfl,rfl,?_⟩
   refine⟨_,rfl,rfl,_,rfl,bB (fun (hq:(!bf f.2.2.2 ("cut":Str))=true)=>?_) (fun _=>fL ⟨sJ,_,_,_,_,rfl⟩)⟩
   have hq:¬bf f.2.2.2 ("cut":Str)=true:=fun q=>by rw[q] at hq;cases hq
   obtain⟨hfp,x,hx,he⟩:=fR.mp (hpa.mem_iff.mp (List.mem_of_getElem? wZ))
   have RU:f∈fb:=Vt.mem_iff.mpr (fR.mpr ⟨hfp,x,hx,BH he hq⟩)
   refine⟨_,rfl,_,rfl,_,rfl,_,rfl,(by show 4≤sizeLine;decide),fun tt yP=>?_⟩
   have t1:=aq (o:=HO.tup (qA f)) yP
   have x1:(upd J tt (HO.tup (qA f))) tt=some (.tup (qA f)):=aj
   have t1':aD J (upd J tt (HO.tup [V.int (f.1:Nat),.int (f.2.1:Nat),.int (f.2.2.1:Nat),.str f.2.2.2])):=t1
   refine⟨_,rfl,tt,lb,qA f,pb,rfl,rfl,bh.of x1,rfl,aP.of ((s2.trans (sJ.trans t1)) _ _ hb),L5 _ (sJ.trans t1),fun r hr=>?_⟩
   have hr:=Vu _ f tt (sJ.trans t1) RU x1 r hr
   subst hr
   exact⟨_,rfl,fL ⟨sJ.trans t1,_,_,_,_,rfl⟩⟩
  rintro σ J ⟨sJ,v5,v6,v7,v8,rfl⟩
  refine fun Dd IX=>?_
  have RV:H Dd=none:=(s12.trans sJ).free IX
  (have s3:=aq (o:=HO.dK []) IX;have u3:=aj (H:=J) (a:=Dd) (o:=HO.dK []);generalize upd J Dd (HO.dK [])=H3 at s3 u3 ⊢)
  have RW:=s12.trans (sJ.trans s3)
  refine⟨_,rfl,_,rfl,ld,z,false,xs,cs,rfl,RW _ _ hd,nN.mono RW mk,gd,by omega,hz,by omega,fun lf ps fs H4 Zi hf fl hp AE s4=>⟨lf,rfl,⟨_,aP.of hf⟩,?_⟩⟩
  have hfl:=fl.length
  have RK:(fs.map BF).Nodup:=(hp.map _).nodup_iff.mpr (iP false z cs cs.length)
  have Zj:fs.length≤50:=by
   have h1:=hp.length_eq
   have h2:=lO (ev:=false) (z:=z) (cs:=cs) cs.length
   omega
  have ZC:=RW.trans s4
  have b4:=sJ.trans (s3.trans s4)
  refine eZ (K:=K) (a:=lf) (xs:=ps) (fun i σ G=>aD H G∧aD H2 G∧∃(kvs:List (Key×V)) (v5 v6 v7 v8:Option V),σ=[some (V.ref ld),some (V.str y),some (V.str z),some (V.ref lb),some (V.ref la),v5,v6,v7,v8,some (V.ref Dd),none]∧G lf=some (.lst ps)∧pO G ps fs∧G Dd=some (.dK kvs)∧tV G kvs (fs.take i)) ⟨ZC,b4,[],_,_,_,_,rfl,hf,fl,s4 _ _ u3,.nil⟩ (fun i σ J _ p=>by obtain⟨_,_,_,_,_,_,_,_,h,_⟩:=p;exact aP.of h) ?_ ?_
  ·rintro i e σ G hi ⟨sG,bG,kvs,v5,v6,v7,v8,rfl,Fp,IY,BS,BU⟩
   obtain⟨f,wZ,t,rfl,ht⟩:=aS IY i e hi
   have hil:=(List.getElem?_eq_some_iff.mp wZ).1
   refine⟨t,_,rfl,bh.of ht,rfl,_,_,rfl,_,_,rfl,_,_,rfl,_,_,rfl,rfl,?_⟩
   refine⟨_,rfl,_,rfl,_,rfl,(by show 3≤sizeLine;decide),fun tt yP=>?_⟩
   (have t1:=aq (o:=HO.tup [V.int ↑f.fst,V.int ↑f.snd.snd.fst,V.str f.snd.snd.snd]) yP;have q1:=aj (H:=G) (a:=tt) (o:=HO.tup [V.int ↑f.fst,V.int ↑f.snd.snd.fst,V.str f.snd.snd.snd]);generalize upd G tt (HO.tup [V.int ↑f.fst,V.int ↑f.snd.snd.fst,V.str f.snd.snd.snd])=J1 at t1 q1 ⊢)
   have Ea:=t1 _ _ BS
   have LY:=tV.mono t1 BU
   have kl:kvs.length≤50:=by
    have:=BU.length
    rw[List.length_take] at this
    omega
   have vn:i9 kvs (.inl (f.2.1:Int))=none:=zG LY (AK RK wZ)
   refine⟨_,rfl,_,rfl,Dd,_,rfl,xJ.k (k:=.inl (f.2.1:Int)) Ea (Nat.lt_of_le_of_lt kl (by decide)),?_⟩
   rw[xH _ vn]
   have nl:lf≠Dd:=fun q=>by rw[q,BS] at Fp;cases Fp
   have nt:tt≠Dd:=fun q=>by rw[q,BS] at yP;cases yP
   have C5:H2 Dd=none:=sJ.free IX
   refine⟨aK RV (sG.trans t1),aK C5 (bG.trans t1),_,_,_,_,_,rfl,(aC nl).trans (t1 _ _ Fp),pO.dk Ea (pO.mono t1 IY),aj,?_⟩
   rw[cK wZ]
   exact eG (tV.put Ea (fun _ z=>nomatch z) LY) (.cons ⟨rfl,tt,rfl,(aC nt).trans q1⟩ .nil)
  rintro σ G ⟨sG,bG,kvs,w5,w6,w7,w8,rfl,Fp,IY,BS,BU⟩
  rw[hfl,List.take_of_length_le (Nat.le_refl _)] at BU
  have IZ:=sG _ _ hd
  dsimp only
  unfold GR
  refine BG (fun E G5=>aD G G5∧∃(P4:List jd) (A:Hp),G5 E=some (.lst (P4.map fun g=>V.ref g.t))∧∀ g∈P4,g.ok A G5∧g.val∈je false y cs cs.length) ?_ (fun Q0 Vv=>?_)
  rotate_left
  ·refine⟨_,rfl,_,rfl,ld,y,false,xs,cs,rfl,IZ,nN.mono sG mk,gd,by omega,hy,by omega,fun tf wf vf G1 htf PU t1=>?_⟩
   refine⟨tf,_,_,vf,rfl,rfl,bh.of htf,rfl,?_⟩
   rcases PU with ⟨P0,rfl,l,gs,rfl,Ja⟩ | ⟨t0,rfl,fs',lv,Kg,LZ⟩
   ·refine⟨l,rfl,.inl ⟨⟨_,aP.of Ja.ls⟩,fun D hD=>?_⟩⟩
    have gl:gs.length≤50:=by
     have h1:=congrArg List.length Ja.eq
     have h2:=vU (ev:=false) (z:=y) (cs:=cs) cs.length
     rw[List.length_map] at h1
     omega
    refine jt (K:=K) (a:=l) (xs:=gs.map fun g=>V.ref g.t) (fun i ys τ J=>(∃ v,τ=[v,some (.ref ld),some (.str y)])∧aD G1 J∧J D=some (.lst ys)∧ys=(gs.take i).map fun g=>V.ref g.t) ⟨⟨_,rfl⟩,aq hD,aj,rfl⟩ (fun i ys τ J _ p=>⟨aP.of (p.2.1 _ _ Ja.ls),p.2.2.1⟩) ?_ ?_
    ·rintro i e ys τ J hi ⟨⟨v,rfl⟩,sJ,hl,rfl⟩
     rw[List.getElem?_map] at hi
     obtain⟨g,RX,rfl⟩:=Option.map_eq_some_iff.mp hi
     have L6:=t1.trans sJ
     dsimp only[gv]
     refine⟨_,rfl,_,rfl,ld,y,false,xs,cs,rfl,L6 _ _ IZ,nN.mono (sG.trans L6) mk,gd,by omega,hy,by omega,fun RY wf' ZD J1 Jb Jc t1'=>?_⟩
     rcases Jc with ⟨_,rfl,_⟩ | ⟨t0,_⟩
     rotate_left
     ·exact absurd t0 P0
     refine⟨RY,_,_,_,rfl,rfl,bh.of Jb,rfl,rfl,_,rfl,rA ⟨_,rfl,t1' _ _ hl,?_,⟨_,rfl⟩,aK hD (sJ.trans t1'),aj,?_⟩⟩
     ·rw[List.length_map,List.length_take];exact Nat.lt_of_le_of_lt (show _≤100 by omega) (by decide)
     ·rw[cK RX,List.map_append];rfl
    rintro ys τ J ⟨⟨v,rfl⟩,sJ,hl,rfl⟩
    rw[List.length_map,List.take_of_length_le (Nat.le_refl _)] at hl
    refine Vv D J ⟨t1.trans sJ,gs,G,hl,fun g hg=>⟨(Ja.ok g hg).mono sJ,?_⟩⟩
    rw[←Ja.eq];exact List.mem_map.mpr ⟨g,hg,rfl⟩
   ·obtain⟨b,hb1,_⟩:=yd (Fc hc0 t0 Kg)
    have lv:Dz (kP fs') G1 vf:=lv
    rw[hb1] at lv
    obtain⟨tb,rfl,htb⟩:=lv
    refine⟨tb,rfl,.inr ⟨⟨_,bh.of htb⟩,fun D hD=>?_⟩⟩
    refine Dc (K:=K) (a:=tb) (xs:=uZ b) (fun i ys τ J=>(∃ v,τ=[v,some (.ref ld),some (.str y)])∧aD G1 J∧J D=some (.lst ys)∧ys=[]) ⟨⟨_,rfl⟩,aq hD,aj,rfl⟩ (fun i ys τ J _ p=>⟨bh.of (p.2.1 _ _ htb),p.2.2.1⟩) ?_ ?_
    ·rintro i e ys τ J hi ⟨⟨v,rfl⟩,sJ,hl,rfl⟩
     have L6:=t1.trans sJ
     dsimp only[gv]
     refine⟨_,rfl,_,rfl,ld,y,false,xs,cs,rfl,L6 _ _ IZ,nN.mono (sG.trans L6) mk,gd,by omega,hy,by omega,fun RY wf' ZD J1 Jb Jc t1'=>?_⟩
     rcases Jc with ⟨P0,_⟩ | ⟨_,rfl,_⟩
     ·exact absurd t0 P0
     have en:¬decide (V.str ("none":Str)=V.str ("read":Str))=true:=by
      show ¬bf ("none":Str) ("read":Str)=true
      decide +kernel
     exact⟨RY,_,_,_,rfl,rfl,bh.of Jb,rfl,rfl,_,rfl,bB (fun h=>absurd h en) (fun _=>⟨⟨_,rfl⟩,sJ.trans t1',t1' _ _ hl,rfl⟩)⟩
    rintro ys τ J ⟨⟨v,rfl⟩,sJ,hl,rfl⟩
    exact Vv D J ⟨t1.trans sJ,[],G,hl,fun _ q=>nomatch q⟩
  rintro E G5 ⟨s5,P4,A,hE,hgs⟩
  have Vw:=sG.trans s5
  have b5:=bG.trans s5
  have ZE:=s5 _ _ BS
  have ZF:=tV.mono s5 BU
  refine⟨E,rfl,⟨_,aP.of hE⟩,?_⟩
  refine eZ (K:=K) (a:=E) (xs:=P4.map fun g=>V.ref g.t) (fun i σ J=>aD G5 J∧∃(v5 v6 v7 v8 v10:Option V),σ=[some (V.ref ld),some (V.str y),some (V.str z),some (V.ref lb),some (V.ref la),v5,v6,v7,v8,some (V.ref Dd),v10]) ⟨aD.refl _,_,_,_,_,_,rfl⟩ (fun i σ J _ p=>aP.of (p.1 _ _ hE)) ?_ ?_
  rotate_left
  ·rintro σ J ⟨sJ,v5,v6,v7,v8,v10,rfl⟩
   exact k _ (Vw.trans sJ)
  rintro i e σ J hi ⟨sJ,v5,v6,v7,v8,v10,rfl⟩
  rw[List.getElem?_map] at hi
  obtain⟨g,RX,rfl⟩:=Option.map_eq_some_iff.mp hi
  obtain⟨Kl,RZ⟩:=hgs g (List.mem_of_getElem? RX)
  have Kl:=Kl.mono sJ
  obtain⟨x,hx,en,eT,L4⟩:=DI RZ
  have hx:cs[g.pl]? = some x:=hx
  have eT:g.T=cZ y (runC x y).1:=eT
  have L4:g.pl < cs.length:=L4
  have Vx:=sJ _ _ ZE
  refine⟨g.t,_,rfl,bh.of Kl.1,rfl,_,_,rfl,_,_,rfl,rfl,?_⟩
  refine⟨_,rfl,_,rfl,Dd,_,rfl,mw.k (k:=.inl ((g.pl:Nat):Int)) Vx,_,rfl,?_⟩
  have Vy:=Kl.2.2.2.length
  rcases sy g.pl ZF with ⟨f,hf1,hf2,t,hv,ht⟩ | ⟨hn,hv⟩
  ·rw[hv]
   refine rA ?_
   have ZG:=sJ _ _ ht
   have dd:=mw.k (k:=.inl ((g.pl:Nat):Int)) Vx
   rw[hv] at dd
   refine⟨_,rfl,_,rfl,Dd,.ref t,rfl,dd,t,_,rfl,bh.of ZG,rfl,_,_,rfl,_,_,rfl,_,_,rfl,rfl,?_⟩
   have D8:=Kl.2.2.1
   refine⟨_,rfl,_,rfl,y,rfl,Nat.le_trans (show y.length≤2000 by omega) (by decide),_,_,rfl,rfl,_,rfl,_,rfl,_,rfl,g.l,_,rfl,.inl (aP.of D8),_,_,rfl,rfl,_,rfl,(by show 4≤sizeLine;decide),fun tt yP=>?_⟩
   obtain⟨_,x',h1,h2⟩:=fR.mp (hp.mem_iff.mp hf1)
   rw[hf2,hx] at h1;cases h1
   have e2:bS (runC x (y++z))=some (y.length+f.1,(cZ y (runC x y).1).length+f.2.2.1,f.2.2.2):=by rw[AL en,h2];rfl
   have RU:((y.length+f.1,g.pl,(cZ y (runC x y).1).length+f.2.2.1,f.2.2.2):F4)∈fb:=Vt.mem_iff.mpr (fR.mpr ⟨L4,x,hx,e2⟩)
   have et:[V.int ((f.1:Int)+(y.length:Int)),.int (g.pl:Nat),.int ((f.2.2.1:Int)+(g.es.length:Int)),.str f.2.2.2]=qA (y.length+f.1,g.pl,(cZ y (runC x y).1).length+f.2.2.1,f.2.2.2):=by
    unfold qA
    rw[Vy,eT]
    have a1:(f.1:Int)+(y.length:Int)=((y.length+f.1:Nat):Int):=by omega
    have a2:(f.2.2.1:Int)+((cZ y (runC x y).1).length:Int)=(((cZ y (runC x y).1).length+f.2.2.1:Nat):Int):=by omega
    rw[a1,a2]
   have t1:=aq (o:=HO.tup [V.int ((f.1:Int)+(y.length:Int)),.int (g.pl:Nat),.int ((f.2.2.1:Int)+(g.es.length:Int)),.str f.2.2.2]) yP
   have x1:(upd J tt (HO.tup [V.int ((f.1:Int)+(y.length:Int)),.int (g.pl:Nat),.int ((f.2.2.1:Int)+(g.es.length:Int)),.str f.2.2.2])) tt=some (.tup (qA (y.length+f.1,g.pl,(cZ y (runC x y).1).length+f.2.2.1,f.2.2.2))):=by rw[←et];exact aj
   have b6:=b5.trans (sJ.trans t1)
   refine⟨_,rfl,tt,lb,_,pb,rfl,rfl,bh.of x1,rfl,aP.of ((s2.trans b6) _ _ hb),L5 _ b6,fun r hr=>?_⟩
   have hr:=Vu _ _ tt b6 RU x1 r hr
   subst hr
   exact⟨_,rfl,fL ⟨sJ.trans t1,_,_,_,_,_,rfl⟩⟩
  rw[hv]
  refine fL ?_
  have ez:bS (runC x z)=none:=by
   cases q:bS (runC x z) with
   | none=>rfl
   | some w =>
    obtain⟨a,b,w⟩:=w
    exact absurd rfl (hn (a,g.pl,b,w) (hp.mem_iff.mpr (fR.mpr ⟨L4,x,hx,q⟩)))
  have ZH:bS (runC x (y++z))=none:=by rw[AL en,ez];rfl
  obtain⟨e',he',y',dy,rfl,hy'⟩:∃ e',xs[g.pl]? = some e'∧∃ y' dy,e'=V.ref y'∧H y'=some (.ins (az 43) dy (ET x)):=by
   obtain⟨e',he'⟩:∃ e',xs[g.pl]? = some e':=⟨_,List.getElem?_eq_getElem (by omega)⟩
   obtain⟨x',hx',y',dy,e1,e2⟩:=aS mk g.pl e' he'
   rw[hx] at hx';cases hx'
   exact⟨e',he',y',dy,e1,e2⟩
  have hat:vv xs ((g.pl:Nat):Int)=some (.ref y'):=iK he'
  have gx:=gd x (List.mem_of_getElem? hx)
  have R0:=Vw.trans sJ
  refine⟨_,rfl,_,rfl,ld,_,_,_,rfl,rfl,aP.of (R0 _ _ hd),hat,_,rfl,_,rfl,_,_,rfl,rfl,Nat.le_trans (show y.length+z.length≤2000 by omega) (by decide),y',dy,y++z,x.1,x.2.1,x.2.2.1,x.2.2.2.a,x.2.2.2.b,x.2.2.2.c,x.2.2.2.d,rfl,R0 _ _ hy',gx,hyz,by omega,sC ZH,fun l1 es1 J1 h10 h11 _ _ GI t1=>?_⟩
  have Vz:=R0.trans t1
  refine⟨_,rfl,_,rfl,_,rfl,ld,_,_,_,rfl,rfl,aP.of (Vz _ _ hd),hat,_,rfl,y',dy,z,x.1,x.2.1,x.2.2.1,x.2.2.2.a,x.2.2.2.b,x.2.2.2.c,x.2.2.2.d,rfl,Vz _ _ hy',gx,hz,by omega,sC ez,fun l2 GB J2 h20 h21 _ _ Ke t2=>?_⟩
  have GI:gi J J1 es1 (cZ (y++z) (runC x (y++z)).1):=GI
  have Ke:gi J1 J2 GB (cZ z (runC x z).1):=Ke
  have g2:=(Kl.mono t1).mono t2
  have cl:∀(ks:List Str),mC ks≤ks.length:=fun ks=>by
   have:=List.countP_le_length (p:=fun z=>qd z (.str ("end":Str))) (l:=ks.map V.str)
   rw[List.length_map] at this
   exact this
  have sz:g.es.length+GB.length≤2000:=by
   rw[Vy,eT,Ke.length]
   have f1:=zH en
   have f2:=zH ez
   rw[vW (by omega),vW (by omega)]
   have:=cl (runC x y).1
   have:=cl (runC x z).1
   omega
  refine⟨g.l,l2,_,_,rfl,rfl,g2.2.2.1,h21,Nat.le_trans sz (by decide),fun lc RM=>?_⟩
  (have t3:=aq (o:=HO.lst (g.es++GB)) RM;have q3:=aj (H:=J2) (a:=lc) (o:=HO.lst (g.es++GB));generalize upd J2 lc (HO.lst (g.es++GB))=J3 at t3 q3 ⊢)
  have R1:gi (fun _=>none) J3 es1 (g.T++cZ z (runC x z).1):=by
   rw[eT,←Fe en]
   exact gi.weak (gi.mono (t2.trans t3) GI)
  have R2:gi (fun _=>none) J3 (g.es++GB) (g.T++cZ z (runC x z).1):=eG (gi.weak (gi.mono t3 g2.2.2.2)) (gi.weak (gi.mono t3 Ke))
  refine⟨⟨2,l1,lc,es1,g.es++GB,rfl,rfl,by decide,by rw[R1.length,R2.length],.inr ⟨aP.of ((t2.trans t3) _ _ h11),aP.of q3⟩,u0 R1 R2⟩,_,rfl,fL ?_⟩
  exact⟨sJ.trans (t1.trans (t2.trans t3)),_,_,_,_,_,rfl⟩
def wN (K:W.Frag):Sp:=fun vs H Q _=>∃(a:Addr) (ns:List Int),vs=[.ref a]∧aP K H a (ns.map V.int)∧ns.length≤63∧∀ H',Q (.bl true) H'
theorem Jd:aE P w K mg base bz 12 (az 42) (aN 42) ["_law_script"] (wN K):=by
 have iF:aE P w K mg base bz 1 (az 29) (aN 29) ["_law_script", "_law_k"] (gu K):=kg T
 have tK:aE P w K mg base bz 11 (az 41) (aN 41) ["_law_dialects", "_law_one", "_law_other"] (kh K (az 43)):=qN T
 have oZ:aE P w K mg base bz 11 (az 40) (aN 40) ["_law_dialects", "_law_text_here"] (iG K (az 43)):=nK T
 have qw:aE P w K mg base bz 3 (az 39) (aN 39) ["_law_cell", "_law_tolds_here", "_law_most"] (oY K):=wL T
 have wO:aE P w K mg base bz 4 (az 37) (aN 37) ["_law_cells", "_law_many"] (m7 K):=uu T
 have jX:aE P w K mg base bz 5 (az 6) (aN 6) ["told"] (ji (az 43)):=mU T
 refine T.LC.ok nA (fun vs H Q E h=>?_) (fun cdv A outer s H vs Q E hr h=>?_)
 ·obtain⟨a,ns,rfl,_⟩:=h;rfl
 ·have hu:=aX hr
  have gA:=hr.aQ
  obtain⟨a,ns,rfl,hS,hlen,k⟩:=h
  refine⟨_,(ah (cY 1 nA.nd (eB wO hr T.wo T.oJ.kp T.wm (af (kF (rC K rfl) (pv 0) (iJ ak) (iJ ak)) (af (aB bU ak (aB bI (eB iF hr T.kX T.iA.kp T.kW (af (pv 0) (af ak ai))) ak)) ai))))
   (ah (Ey (i:=2) rfl nA.nd rfl rfl (show bw ["_law_script", "_law_tolds_here", "_law_dialects", "_law_cell", "_law_one", "_law_other", "_law_text_here"] (au nZ) ["_law_told_here"] 1 [] _ from De) (ck K rfl (pv 1)) (fun _ _ _ _=>(fQ 0 U7)) (fun _ _ _ _=>jM) (fun _ _ _ _=>(eB jX hr T.oz T.jV.kp T.ow (af (pv 0) ai))))
   (ah (cj PassesOwn.never rfl (ck K rfl (kF (rC K rfl) (pv 0) (iJ ak) (iJ ak))) (fQ 3 nA.nd)
   (ah (cY 4 nA.nd (eB qw hr T.qt T.lg.kp T.qq (af (pv 3) (af (pv 1) (af ak ai)))))
   (ah (cY 5 nA.nd (eB qw hr T.qt T.lg.kp T.qq (af (aB bU (aB cF (pv 3) ak) ak) (af (pv 1) (af ak ai)))))
   (ah (cj PassesOwn.never rfl (ck K rfl (cH (af (pv 4) (af (pv 5) (af (aB cG (pv 4) (pv 5)) ai))))) (fQ 6 nA.nd)
   (ao (aL (fM (cV (eB oZ hr T.oM T.iS.kp T.oK (af (pv 2) (af (pv 6) ai))))) (ao (ay jm)) aA)))
   (ao (aL (fM (cV (eB tK hr T.sY T.lu.kp T.sX (af (pv 2) (af (pv 4) (af (pv 5) ai)))))) (ao (ay jm)) aA))))))
   (ao (ay jm))))),?_⟩
  refine⟨_,rfl,_,rfl,_,rfl,a,_,rfl,hS,fun p0 hp0=>?_⟩
  obtain⟨n1,ZI,ln1,_⟩:=xX V.int ns (some 1) (some 5)
  rw[ZI]
  (have s0:=aq (o:=HO.lst (List.map V.int n1)) hp0;have h0:=aj (H:=H) (a:=p0) (o:=HO.lst (List.map V.int n1));generalize upd H p0 (HO.lst (List.map V.int n1))=H0 at s0 h0 ⊢)
  refine⟨_,rfl,a,_,_,rfl,s0.seq hS,by decide,fun c0=>⟨_,_,rfl,rfl,(by show(0:Int) < 5;decide),_,_,rfl,rfl,?_⟩⟩
  have w0:=Int.emod_nonneg c0 (show(5:Int)≠0 by decide)
  have w1:=Int.emod_lt_of_pos c0 (show(0:Int) < 5 by decide)
  refine⟨p0,n1,_,rfl,aP.of h0,by omega,by omega,by omega,fun Km R3 GJ H1 ZJ ht0 R4 L7 hc0 s1=>?_⟩
  refine⟨_,rfl,Km,rfl,⟨_,aP.of ht0⟩,fun D hD=>?_⟩
  refine jt (K:=K) (a:=Km) (xs:=R3) (fun i ys τ J=>(∃ v,τ=[v])∧aD H1 J∧J D=some (.lst ys)∧nN (az 43) J ys (GJ.take i)) ⟨⟨_,rfl⟩,aq hD,aj,.nil⟩ (fun i ys τ J _ p=>⟨aP.of (p.2.1 _ _ ht0),p.2.2.1⟩) ?_ ?_
  ·rintro i e ys τ J hi ⟨⟨v,rfl⟩,sJ,hJ,VA⟩
   obtain⟨x,hx,t,rfl,ht⟩:=aS R4 i e hi
   have hil:i < GJ.length:=(List.getElem?_eq_some_iff.mp hx).1
   have hyl:=VA.length
   rw[List.length_take] at hyl
   refine zz ?_
   refine⟨_,rfl,t,x.1,x.2.1,x.2.2.1,x.2.2.2.a,x.2.2.2.b,x.2.2.2.c,x.2.2.2.d,rfl,sJ _ _ ht,L7 x (List.mem_of_getElem? hx),fun y dy H3 hy0 hy s3=>?_⟩
   have R5:=s3 _ _ hJ
   refine⟨R5,Nat.lt_of_le_of_lt (show ys.length≤100 by omega) (by decide),⟨_,rfl⟩,aK hD (sJ.trans s3),aj,?_⟩
   rw[cK hx]
   exact eG (nN.but R5 (nN.mono s3 VA)) (nN.but R5 (.cons ⟨y,dy,rfl,hy⟩ .nil))
  rintro ys τ H2 ⟨⟨v,rfl⟩,s2,C5,mk2⟩
  have hyl:=R4.length
  rw[hyl,List.take_of_length_le (Nat.le_refl _)] at mk2
  have Fo:=s2 _ _ ht0
  have ZK:=vR.mono s2 R4
  have t2:=(s0.trans s1).trans s2
  have hcl:GJ.length≤5:=by omega
  have hcp:0 < GJ.length:=by omega
  refine⟨_,rfl,_,rfl,_,rfl,a,_,rfl,t2.seq hS,fun p3 hp3=>?_⟩
  obtain⟨ms,em,lm,_⟩:=xX V.int ns (some 2) (some 7)
  rw[em]
  (have s3:=aq (o:=HO.lst (List.map V.int ms)) hp3;have h3:=aj (H:=H2) (a:=p3) (o:=HO.lst (List.map V.int ms));generalize upd H2 p3 (HO.lst (List.map V.int ms))=H3 at s3 h3 ⊢)
  refine⟨p3,rfl,⟨_,aP.of h3⟩,?_⟩
  have t3:=t2.trans s3
  have hl3:=s3 _ _ Fo
  have Kh:=vR.mono s3 ZK
  have DS:=s3 _ _ C5
  have mk3:=nN.mono s3 mk2
  refine eZ (K:=K) (a:=p3) (xs:=ms.map V.int) (fun i σ J=>aD H3 J∧∃ v3 v4 v5 v6,σ=[some (.ref a),some (.ref Km),some (.ref D),v3,v4,v5,v6]) ⟨aD.refl _,_,_,_,_,rfl⟩ (fun i σ J _ q=>aP.of (q.1 _ _ h3)) ?_ ?_
  rotate_left
  ·rintro σ J ⟨sJ,v3,v4,v5,v6,rfl⟩
   exact k _
  rintro i e σ J hi ⟨sJ,v3,v4,v5,v6,rfl⟩
  obtain⟨c,rfl⟩:∃ c,e=V.int c:=by
   rw[List.getElem?_map] at hi
   cases e:ms[i]? with
   | none=>rw[e] at hi;cases hi
   | some z=>rw[e] at hi;exact⟨z,(Option.some.inj hi).symm⟩
  refine⟨_,rfl,_,rfl,c,8,Km,R3,GJ,rfl,sJ _ _ hl3,vR.mono sJ Kh,L7,by omega,by decide,by decide,fun y J1 hy ZL u1=>?_⟩
  have a1:=sJ.trans u1
  refine⟨_,rfl,_,_,rfl,rfl,⟨by decide,by decide⟩,_,_,rfl,rfl,_,rfl,_,8,Km,R3,GJ,rfl,a1 _ _ hl3,vR.mono a1 Kh,L7,by omega,by decide,by decide,fun z J2 hz uf u2=>?_⟩
  have a2:=a1.trans u2
  have ZA:=jQ y z
  have hyz:bF (y++z):=xY hy hz
  refine⟨_,rfl,_,rfl,_,rfl,_,rfl,_,_,rfl,rfl,Nat.le_trans (show y.length+z.length≤2000 by omega) (by decide),(by show 3≤sizeLine;decide),fun lx hlx=>?_⟩
  (have u3:=aq (o:=HO.lst [V.str y,V.str z,V.str (y++z)]) hlx;have h3':=aj (H:=J2) (a:=lx) (o:=HO.lst [V.str y,V.str z,V.str (y++z)]);generalize upd J2 lx (HO.lst [V.str y,V.str z,V.str (y++z)])=J3 at u3 h3' ⊢)
  have a3:=a2.trans u3
  refine⟨lx,rfl,⟨_,aP.of h3'⟩,?_⟩
  refine eZ (K:=K) (a:=lx) (xs:=[V.str y,.str z,.str (y++z)]) (fun i σ G=>aD J3 G∧∃ v6,σ=[some (.ref a),some (.ref Km),some (.ref D),some (.int c),some (.str y),some (.str z),v6]) ⟨aD.refl _,_,rfl⟩ (fun i σ G _ q=>aP.of (q.1 _ _ h3')) ?_ ?_
  ·rintro i' e' σ G hi' ⟨sG,v6,rfl⟩
   obtain⟨x,rfl,hx,BZ⟩:∃ x,e'=V.str x∧bF x∧x.length≤2000:=by
    have hm:=List.mem_of_getElem? hi'
    simp only[List.mem_cons,List.not_mem_nil,or_false] at hm
    rcases hm with rfl | rfl | rfl
    ·exact⟨_,rfl,hy,by omega⟩
    ·exact⟨_,rfl,hz,by omega⟩
    ·exact⟨_,rfl,hyz,by omega⟩
   have aG:=a3.trans sG
   exact⟨_,rfl,_,rfl,D,x,ys,GJ,rfl,aG _ _ DS,nN.mono aG mk3,L7,by omega,hcp,hx,BZ,fun G1 g1=>⟨true,rfl,fL ⟨sG.trans g1,_,rfl⟩⟩⟩
  rintro σ G ⟨sG,v6,rfl⟩
  have aG:=a3.trans sG
  exact⟨_,rfl,_,rfl,_,rfl,D,y,z,ys,GJ,rfl,aG _ _ DS,nN.mono aG mk3,L7,by omega,hcp,hy,by omega,hz,by omega,fun G1 g1=>⟨true,rfl,fL ⟨aG.trans g1,_,_,_,_,rfl⟩⟩⟩
end
end
theorem all_mk {l:W.OpenLaw}{w:World}{K:W.Frag}{h:Heap}{mg:Str→Option Value}{fa fH cW lY cN bT dz gO cg d9 fW fX eo gP cS gh gQ wQ o6 j4 wR j5 gR lZ o7 o8 mh mj iU iV fJ gS fY iW gT iX gU iY gW iZ i6 cX fK DT bg iH wU:Addr}{ZN R6 ZO VB ZQ VC ZR VD ZS R7 ZT VE ZU VF ZV VG ZW VH ZX VI R8 L8 R9 Ma Sa Mb Sb Mc Sd Me Se Mf Sf Mg Sh Mh Si Mi Sj Mj Sk Ml Sl Mm Sm Mp Sn Ft So Mq Sq Mr Ss Fv Su Ms Sv Fw Sw Mt Sx Mu Sy Mv Sz Mw SA Mx SD Mz SE MA SG MB SH MC SI MD SJ ME SK MF SM MG SN Je:Option Addr}{ZY Vj sl2 ZZ Z0 Z1 Z2 Z3 Z4 Z5 SO SQ SR SS SV SW SX SY S0 S3 S4 S5 S6 S7 S8 S9 Tc Td Te Tf Tg Th Ti Tj To Tp Tq Tr Tt Tu Tv Tw Tz:Array (Option Value)}{Z6 TF TH TJ P5 TL Z7 VJ VL VM TM VN Z8 VO VP VQ TN VR Z9 VS VT VU TQ VV oc4 TR TU TV P6 TX oc5 VW VX VY TY VZ oc6 V0 V1 V2 TZ V3 oc7 V4 V5 V6 T4 V7 oc8 V8 V9 Wa T5 Wb oc9 Wc Wd We T6 Wf T7 MH MI MJ Jf MK T8 ML MN MO Jg MP T9 MQ MR MS Jh MT Ua MU MV MW Ji MX Ub MY MZ M0 Jj M3 Uc M4 M5 M6 Jk M7 Ud M8 M9 Na Jl Nb Ue Nc Nd Nf Jm Ng Ug Nh Ni Nj Jo Nk Uh Nl Nm Np Jp Nq Ui Nr Nt Nu Jq Nv Uj Nx Ny Nz Jr NB Uk NC ND NF Js NG Ul Fx Fy Fz DU FA Um NH NI NJ Jt NK Uo NL NN NO Ju NP Up FD FE FF DV FG Uq NQ NR NS Jv NT Ur FH FI FJ DW FL Us NU NV NW Jw NX Ut NY NZ N1 Jx N2 Uu N4 N5 N6 Jy N7 Uv N8 N9 Oa Jz Ob Uw Oc Od Oe JA Og Ux Oh Oi Oj JB Ol Uy Om Oo Oq JC Ot Uz Ou Ov Ow JD Ox UA Oz OA OB JE OC UB OD OE OG JF OH UC OI OJ OL JG OM UD ON OO OP JH OQ UE OR OS OT JI OU UG JJ JK JL FP JM:Value}{zS:Str}{bx eX dB bX:Addr} (X:K.In h) (G:h.Ns mainGlobals mg) (hfa:mg "law" = some (.ref fa))
  (zT:W.nsIn K mainGlobals "Dialect" = some (some (.ref bg)))
  (FQ:W.nsIn K mainGlobals "Turn" = some (some (.ref iH)))
  (a0:W.nsIn K mainGlobals "is_printable" = RF fH)
  (l0:K.lookup fH=FO "is_printable" "is_printable" cu .none Z6 ZN TF TH TJ R6 P5 TL ZY) (c0:W.codeIn K P5 "is_printable" = true) (k0:W.keepIn K (.ref fH)=true)
  (a1:W.nsIn K mainGlobals "has_signs_alone" = RF cW)
  (l1:K.lookup cW=FO "has_signs_alone" "has_signs_alone" bK .none Z7 ZO VJ VL VM VB TM VN Vj) (c1:W.codeIn K TM "has_signs_alone" = true) (k1:W.keepIn K (.ref cW)=true)
  (a2:W.nsIn K mainGlobals "is_text" = RF lY)
  (l2:K.lookup lY=FO "is_text" "is_text" jx .none Z8 ZQ VO VP VQ VC TN VR sl2) (c2:W.codeIn K TN "is_text" = true) (k2:W.keepIn K (.ref lY)=true)
  (a3:W.nsIn K mainGlobals "are_unlike_signs" = RF cN)
  (l3:K.lookup cN=FO "are_unlike_signs" "are_unlike_signs" bE .none Z9 ZR VS VT VU VD TQ VV ZZ) (c3:W.codeIn K TQ "are_unlike_signs" = true) (k3:W.keepIn K (.ref cN)=true)
  (a4:W.findIn K (.ref bg) "__init__" = some (some (.ref bT))) (i4:W.isFn K (.ref bT)=true)
  (l4:K.lookup bT=FO "__init__" "Dialect.__init__" aT (.ref bx) oc4 ZS TR TU TV R7 P6 TX Z0) (c4:W.codeIn K P6 "Dialect.__init__" = true) (k4:W.keepIn K (.ref bT)=true)
  {OV:Option Addr}{UH:Nat}{OW:Array (Option Value)}{OX OY:Tok} (d4:K.lookup bx=some ⟨.type "tuple",OV,.seq #[.str ("":Str) OX,.str ("":Str) OY,.bool false,.bool false,.bool false,.bool false] UH,OW⟩)
  (a5:W.findIn K (.ref bg) "told" = some (some (.ref dz))) (i5:W.isFn K (.ref dz)=true)
  (l5:K.lookup dz=FO "told" "Dialect.told" dh .none oc5 ZT VW VX VY VE TY VZ Z1) (c5:W.codeIn K TY "Dialect.told" = true) (k5:W.keepIn K (.ref dz)=true)
  (a6:W.nsIn K mainGlobals "dialect_of" = RF gO)
  (l6:K.lookup gO=FO "dialect_of" "dialect_of" fc .none oc6 ZU V0 V1 V2 VF TZ V3 Z2) (c6:W.codeIn K TZ "dialect_of" = true) (k6:W.keepIn K (.ref gO)=true)
  (a7:W.nsIn K mainGlobals "step_at_beginning" = RF cg)
  (l7:K.lookup cg=FO "step_at_beginning" "step_at_beginning" bN .none oc7 ZV V4 V5 V6 VG T4 V7 Z3) (c7:W.codeIn K T4 "step_at_beginning" = true) (k7:W.keepIn K (.ref cg)=true)
  (a8:W.nsIn K mainGlobals "step_in_plain" = RF d9)
  (l8:K.lookup d9=FO "step_in_plain" "step_in_plain" cO .none oc8 ZW V8 V9 Wa VH T5 Wb Z4) (c8:W.codeIn K T5 "step_in_plain" = true) (k8:W.keepIn K (.ref d9)=true)
  (a9:W.nsIn K mainGlobals "step_within" = RF fW)
  (l9:K.lookup fW=FO "step_within" "step_within" dU .none oc9 ZX Wc Wd We VI T6 Wf Z5) (c9:W.codeIn K T6 "step_within" = true) (k9:W.keepIn K (.ref fW)=true)
  (a10:W.nsIn K mainGlobals "step_behind" = RF fX)
  (U8:K.lookup fX=FO "step_behind" "step_behind" dW .none T7 R8 MH MI MJ L8 Jf MK SO) (c10:W.codeIn K Jf "step_behind" = true) (k10:W.keepIn K (.ref fX)=true)
  (Rv:W.nsIn K mainGlobals "step_in_doubt" = RF eo)
  (l11:K.lookup eo=FO "step_in_doubt" "step_in_doubt" cP .none T8 R9 ML MN MO Ma Jg MP SQ) (Iw:W.codeIn K Jg "step_in_doubt" = true) (k11:W.keepIn K (.ref eo)=true)
  (a12:W.nsIn K mainGlobals "step_freed" = RF gP)
  (l12:K.lookup gP=FO "step_freed" "step_freed" ff .none T9 Sa MQ MR MS Mb Jh MT SR) (c12:W.codeIn K Jh "step_freed" = true) (k12:W.keepIn K (.ref gP)=true)
  (a13:W.findIn K (.ref iH) "__init__" = some (some (.ref cS))) (i13:W.isFn K (.ref cS)=true)
  (l13:K.lookup cS=FO "__init__" "Turn.__init__" cQ .none Ua Sb MU MV MW Mc Ji MX SS) (c13:W.codeIn K Ji "Turn.__init__" = true) (k13:W.keepIn K (.ref cS)=true)
  (Fg:W.findIn K (.ref iH) "step" = some (some (.ref gh))) (i14:W.isFn K (.ref gh)=true)
  (l14:K.lookup gh=FO "step" "Turn.step" fZ .none Ub Sd MY MZ M0 Me Jj M3 SV) (c14:W.codeIn K Jj "Turn.step" = true) (Wg:W.keepIn K (.ref gh)=true)
  (a15:W.nsIn K mainGlobals "check_text" = RF gQ)
  (l15:K.lookup gQ=FO "check_text" "check_text" fh .none Uc Se M4 M5 M6 Mf Jk M7 SW) (c15:W.codeIn K Jk "check_text" = true) (k15:W.keepIn K (.ref gQ)=true)
  (a16:W.nsIn K mainGlobals "walk" = RF wQ)
  (l16:K.lookup wQ=FO "walk" "walk" rP .none Ud Sf M8 M9 Na Mg Jl Nb SX) (c16:W.codeIn K Jl "walk" = true) (k16:W.keepIn K (.ref wQ)=true)
  (a17:W.nsIn K mainGlobals "end_of" = RF o6)
  (l17:K.lookup o6=FO "end_of" "end_of" kI .none Ue Sh Nc Nd Nf Mh Jm Ng SY) (c17:W.codeIn K Jm "end_of" = true) (k17:W.keepIn K (.ref o6)=true)
  (a18:W.nsIn K mainGlobals "table_of" = RF j4)
  (l18:K.lookup j4=FO "table_of" "table_of" ia .none Ug Si Nh Ni Nj Mi Jo Nk S0) (Fi:W.codeIn K Jo "table_of" = true) (k18:W.keepIn K (.ref j4)=true)
  (a19:W.nsIn K mainGlobals "read" = RF wR)
  (l19:K.lookup wR=FO "read" "read" rQ .none Uh Sj Nl Nm Np Mj Jp Nq S3) (c19:W.codeIn K Jp "read" = true) (k19:W.keepIn K (.ref wR)=true)
  (a20:W.nsIn K mainGlobals "furthest" = RF j5)
  (l20:K.lookup j5=FO "furthest" "furthest" ic .none Ui Sk Nr Nt Nu Ml Jq Nv S4) (c20:W.codeIn K Jq "furthest" = true) (k20:W.keepIn K (.ref j5)=true)
  (Fl:W.nsIn K mainGlobals "uneven_row" = RF gR)
  (l21:K.lookup gR=FO "uneven_row" "uneven_row" fj .none Uj Sl Nx Ny Nz Mm Jr NB S5) (c21:W.codeIn K Jr "uneven_row" = true) (k21:W.keepIn K (.ref gR)=true)
  (a22:W.nsIn K mainGlobals "fall_of" = RF lZ)
  (l22:K.lookup lZ=FO "fall_of" "fall_of" jy .none Uk Sm NC ND NF Mp Js NG S6) (c22:W.codeIn K Js "fall_of" = true) (k22:W.keepIn K (.ref lZ)=true)
  (a23:W.nsIn K mainGlobals "fallen" = RF o7)
  (l23:K.lookup o7=FO "fallen" "fallen" di (.ref eX) Ul Sn Fx Fy Fz Ft DU FA S7) (c23:W.codeIn K DU "fallen" = true) (k23:W.keepIn K (.ref o7)=true)
  {JN:Option Addr}{OZ:Nat}{JO:Array (Option Value)} (Wh:K.lookup eX=some ⟨.type "tuple",JN,.seq #[.bool false] OZ,JO⟩)
  (IU:W.nsIn K mainGlobals "takers" = RF o8)
  (l24:K.lookup o8=FO "takers" "takers" kJ .none Um So NH NI NJ Mq Jt NK S8) (c24:W.codeIn K Jt "takers" = true) (k24:W.keepIn K (.ref o8)=true)
  (a25:W.nsIn K mainGlobals "last_of" = RF mh)
  (l25:K.lookup mh=FO "last_of" "last_of" gY .none Uo Sq NL NN NO Mr Ju NP S9) (c25:W.codeIn K Ju "last_of" = true) (k25:W.keepIn K (.ref mh)=true)
  (Rn:W.nsIn K mainGlobals "finding" = RF mj)
  (l26:K.lookup mj=FO "finding" "finding" cy (.ref dB) Up Ss FD FE FF Fv DV FG Tc) (c26:W.codeIn K DV "finding" = true) (k26:W.keepIn K (.ref mj)=true)
  {JP:Option Addr}{O0:Nat}{JQ:Array (Option Value)} (Wi:K.lookup dB=some ⟨.type "tuple",JP,.seq #[.bool false] O0,JQ⟩)
  (a27:W.nsIn K mainGlobals "takes_all" = RF iU)
  (l27:K.lookup iU=FO "takes_all" "takes_all" f6 .none Uq Su NQ NR NS Ms Jv NT Td) (c27:W.codeIn K Jv "takes_all" = true) (k27:W.keepIn K (.ref iU)=true)
  (a28:W.nsIn K mainGlobals "found_all" = RF iV)
  (l28:K.lookup iV=FO "found_all" "found_all" bA (.ref bX) Ur Sv FH FI FJ Fw DW FL Te) (LN:W.codeIn K DW "found_all" = true) (k28:W.keepIn K (.ref iV)=true)
  {JR:Option Addr}{O1:Nat}{JS:Array (Option Value)} (Wj:K.lookup bX=some ⟨.type "tuple",JR,.seq #[.bool false] O1,JS⟩)
  (LQ:W.nsIn K mainGlobals "_law_cell_at" = RF fJ)
  (l29:K.lookup fJ=FO "_law_cell_at" "_law_cell_at" dj .none Us Sw NU NV NW Mt Jw NX Tf) (c29:W.codeIn K Jw "_law_cell_at" = true) (k29:W.keepIn K (.ref fJ)=true)
  (a30:W.nsIn K mainGlobals "_law_mixed" = RF gS)
  (l30:K.lookup gS=FO "_law_mixed" "_law_mixed" fk .none Ut Sx NY NZ N1 Mu Jx N2 Tg) (c30:W.codeIn K Jx "_law_mixed" = true) (k30:W.keepIn K (.ref gS)=true)
  (LP:W.nsIn K mainGlobals "_law_number" = RF fY)
  (l31:K.lookup fY=FO "_law_number" "_law_number" dX .none Uu Sy N4 N5 N6 Mv Jy N7 Th) (c31:W.codeIn K Jy "_law_number" = true) (k31:W.keepIn K (.ref fY)=true)
  (a32:W.nsIn K mainGlobals "_law_some" = RF iW)
  (l32:K.lookup iW=FO "_law_some" "_law_some" f7 .none Uv Sz N8 N9 Oa Mw Jz Ob Ti) (c32:W.codeIn K Jz "_law_some" = true) (k32:W.keepIn K (.ref iW)=true)
  (a33:W.nsIn K mainGlobals "_law_menus" = RF gT)
  (l33:K.lookup gT=FO "_law_menus" "_law_menus" fq .none Uw SA Oc Od Oe Mx JA Og Tj) (c33:W.codeIn K JA "_law_menus" = true) (k33:W.keepIn K (.ref gT)=true)
  (Rh:W.nsIn K mainGlobals "_law_told" = RF iX)
  (l34:K.lookup iX=FO "_law_told" "_law_told" f9 .none Ux SD Oh Oi Oj Mz JB Ol To) (c34:W.codeIn K JB "_law_told" = true) (k34:W.keepIn K (.ref iX)=true)
  (a35:W.nsIn K mainGlobals "_law_drawn" = RF gU)
  (l35:K.lookup gU=FO "_law_drawn" "_law_drawn" dH .none Uy SE Om Oo Oq MA JC Ot Tp) (c35:W.codeIn K JC "_law_drawn" = true) (k35:W.keepIn K (.ref gU)=true)
  (Rl:W.nsIn K mainGlobals "_law_near" = RF iY)
  (l36:K.lookup iY=FO "_law_near" "_law_near" gb .none Uz SG Ou Ov Ow MB JD Ox Tq) (c36:W.codeIn K JD "_law_near" = true) (k36:W.keepIn K (.ref iY)=true)
  (a37:W.nsIn K mainGlobals "_law_tolds" = RF gW)
  (l37:K.lookup gW=FO "_law_tolds" "_law_tolds" fu .none UA SH Oz OA OB MC JE OC Tr) (c37:W.codeIn K JE "_law_tolds" = true) (k37:W.keepIn K (.ref gW)=true)
  (a38:W.nsIn K mainGlobals "_law_menu" = RF iZ)
  (l38:K.lookup iZ=FO "_law_menu" "_law_menu" gc .none UB SI OD OE OG MD JF OH Tt) (Ri:W.codeIn K JF "_law_menu" = true) (k38:W.keepIn K (.ref iZ)=true)
  (Rm:W.nsIn K mainGlobals "_law_text" = RF i6)
  (l39:K.lookup i6=FO "_law_text" "_law_text" eV .none UC SJ OI OJ OL ME JG OM Tu) (c39:W.codeIn K JG "_law_text" = true) (k39:W.keepIn K (.ref i6)=true)
  (a40:W.nsIn K mainGlobals "_law_is_reading" = RF cX)
  (l40:K.lookup cX=FO "_law_is_reading" "_law_is_reading" aW .none UD SK ON OO OP MF JH OQ Tv) (c40:W.codeIn K JH "_law_is_reading" = true) (k40:W.keepIn K (.ref cX)=true)
  (Rk:W.nsIn K mainGlobals "_law_goes_on" = RF fK)
  (l41:K.lookup fK=FO "_law_goes_on" "_law_goes_on" cz .none UE SM OR OS OT MG JI OU Tw) (c41:W.codeIn K JI "_law_goes_on" = true) (k41:W.keepIn K (.ref fK)=true)
  (Wk:W.nsIn K mainGlobals "law" = RF DT)
  (l42:K.lookup DT=FO "law" "law" nZ .none UG SN JJ JK JL Je FP JM Tz) (c42:W.codeIn K FP "law" = true) (k42:W.keepIn K (.ref DT)=true)
  (zU:W.plainGet K bg Str.empty=true) (zV:W.hasDictIn K bg=true) (zW:W.plainOver K bg=true) (zX:W.findIn K (.ref bg) "__setattr__" = some (some (.builtin "object.__setattr__"))) (zY:W.makesIn K bg=true) (zZ:W.keepIn K (.ref bg)=true)
  (bL:W.findIn K (.ref bg) "parts" = some none)
  (bR:W.findIn K (.ref bg) "quotes" = some none)
  (bM:W.findIn K (.ref bg) "frees" = some none)
  (dw:W.findIn K (.ref bg) "twin" = some none)
  (cB:W.findIn K (.ref bg) "wide" = some none)
  (cC:W.findIn K (.ref bg) "thin" = some none)
  (cR:W.findIn K (.ref bg) "stray" = some none)
  (FT:W.plainGet K iH Str.empty=true) (FU:W.hasDictIn K iH=true) (FW:W.plainOver K iH=true) (FY:W.findIn K (.ref iH) "__setattr__" = some (some (.builtin "object.__setattr__"))) (FZ:W.makesIn K iH=true) (Ga:W.keepIn K (.ref iH)=true)
  (bu:W.findIn K (.ref iH) "dialect" = some none)
  (O2:W.nsIn K mainGlobals "all" = some none)
  (JT:W.nsIn K mainGlobals "bool" = some none)
  (yM:W.nsIn K mainGlobals "enumerate" = some none)
  (wV:W.nsIn K mainGlobals "isinstance" = some none)
  (O3:W.nsIn K mainGlobals "len" = some none)
  (JU:W.nsIn K mainGlobals "list" = some none)
  (O4:W.nsIn K mainGlobals "max" = some none)
  (O5:W.nsIn K mainGlobals "min" = some none)
  (z_ord:W.nsIn K mainGlobals "ord" = some none)
  (Gb:W.nsIn K mainGlobals "range" = some none)
  (DX:W.nsIn K mainGlobals "sorted" = some none)
  (O6:W.nsIn K mainGlobals "str" = some none)
  (Ge:W.nsIn K mainGlobals "tuple" = some none)
  (O7:W.nsIn K mainGlobals "zip" = some none)
  {Gf:Tok} (JV:W.nsIn K mainGlobals "LINE" = some (some (.str zS Gf))) (JW:zS=Str.ofString "\n")
  {uv:Tok} (wW:W.nsIn K mainGlobals "MOST_SIGNS" = some (some (.int 2000 uv)))
  (Gg:W.nsIn K mainGlobals "START" = some (some (.ref wU)))
  {DY:Option Addr}{Gh:Nat}{DZ:Array (Option Value)}{D0 D3:Tok} (Gi:K.lookup wU=some ⟨.type "tuple",DY,.seq #[.str ("row":Str) D0,.str ("":Str) D3] Gh,DZ⟩) :
  ∃ fd:FuncData,(∀(s:Shared) (v:Value),BindsTo s fd ⟨[v],[]⟩ [("_law_script",v)])∧∀ base:Heap,K.In base→base.Ns mainGlobals mg→aE l.prog w K mg base bz 12 fa fd ["_law_script"] (wN K):=by
 have e:=hfa.symm.trans (W.mg_of X G Wk)
 cases e
 have mo:∀{n:Str}{v:Value},W.nsIn K mainGlobals n=some (some v)→mg n=some v:=fun e=>W.mg_of X G e
 have mz:∀{n:Str},W.nsIn K mainGlobals n=some none→mg n=none:=fun e=>W.mg_none_of X G e
 have F0:=aR (st:=cu) l0 c0 k0
 have b0:=F0.pK (ps:=["sign"])
 have F1:=aR (st:=bK) l1 c1 k1
 have b1:=F1.pK (ps:=["text"])
 have F2:=aR (st:=jx) l2 c2 k2
 have b2:=F2.pK (ps:=["thing"])
 have F3:=aR (st:=bE) l3 c3 k3
 have b3:=F3.rO (ps:=["thing", "least", "most"])
 have F4:=qR (st:=aT) l4 c4 k4
 have b4:Binds K (W.fnOf "__init__" "Dialect.__init__" (bJ aT) (bC aT) (au aT) (.ref bx) TR TU TV R7 P6 TX) ["self", "parts", "quotes", "frees", "twin", "wide", "thin", "stray"] []:=fun s us hK hl=>match us,hl with | [_,_,_,_,_,_,_,_],_=>BindsTo.of_defaults (T:=bx) rfl (hK _ _ d4) rfl rfl rfl
 have F5:=aR (st:=dh) l5 c5 k5
 have b5:=F5.pK (ps:=["self"])
 have F6:=aR (st:=fc) l6 c6 k6
 have b6:=F6.pK (ps:=["told"])
 have F7:=aR (st:=bN) l7 c7 k7
 have b7:=F7.rO (ps:=["dialect", "state", "sign"])
 have F8:=aR (st:=cO) l8 c8 k8
 have b8:=F8.nh (ps:=["dialect", "sign"])
 have F9:=aR (st:=dU) l9 c9 k9
 have b9:=F9.rO (ps:=["dialect", "quote", "sign"])
 have Wl:=aR (st:=dW) U8 c10 k10
 have b10:=Wl.nh (ps:=["dialect", "sign"])
 have Wm:=aR (st:=cP) l11 Iw k11
 have Iz:=Wm.rO (ps:=["dialect", "quote", "sign"])
 have Wn:=aR (st:=ff) l12 c12 k12
 have b12:=Wn.rO (ps:=["dialect", "quote", "sign"])
 have Wo:=aR (st:=cQ) l13 c13 k13
 have b13:=Wo.nh (ps:=["self", "dialect"])
 have Wq:=aR (st:=fZ) l14 c14 Wg
 have b14:=Wq.rO (ps:=["self", "state", "sign"])
 have Wr:=aR (st:=fh) l15 c15 k15
 have b15:=Wr.pK (ps:=["thing"])
 have Ws:=aR (st:=rP) l16 c16 k16
 have b16:=Ws.nh (ps:=["dialect", "text"])
 have Wt:=aR (st:=kI) l17 c17 k17
 have b17:=Wt.pK (ps:=["walked"])
 have Wu:=aR (st:=ia) l18 Fi k18
 have Fj:=Wu.nh (ps:=["text", "kinds"])
 have Wv:=aR (st:=rQ) l19 c19 k19
 have b19:=Wv.nh (ps:=["dialect", "text"])
 have Ww:=aR (st:=ic) l20 c20 k20
 have b20:=Ww.nh (ps:=["dialect", "text"])
 have Wx:=aR (st:=fj) l21 c21 k21
 have b21:=Wx.pK (ps:=["kinds"])
 have Wy:=aR (st:=jy) l22 c22 k22
 have b22:=Wy.nh (ps:=["walked", "even"])
 have F23:=qR (st:=di) l23 c23 k23
 have b23:Binds K (W.fnOf "fallen" "fallen" (bJ di) (bC di) (au di) (.ref eX) Fx Fy Fz Ft DU FA) ["dialects", "text", "even"] []:=fun s us hK hl=>match us,hl with | [_,_,_],_=>BindsTo.of_defaults (T:=eX) rfl (hK _ _ Wh) rfl rfl rfl
 have Wz:=aR (st:=kJ) l24 c24 k24
 have b24:=Wz.rO (ps:=["dialects", "text", "even"])
 have WA:=aR (st:=gY) l25 c25 k25
 have b25:=WA.pK (ps:=["falls"])
 have F26:=qR (st:=cy) l26 c26 k26
 have b26:Binds K (W.fnOf "finding" "finding" (bJ cy) (bC cy) (au cy) (.ref dB) FD FE FF Fv DV FG) ["dialects", "text", "even"] []:=fun s us hK hl=>match us,hl with | [_,_,_],_=>BindsTo.of_defaults (T:=dB) rfl (hK _ _ Wi) rfl rfl rfl
 have WB:=aR (st:=f6) l27 c27 k27
 have b27:=WB.rO (ps:=["dialect", "texts", "even"])
 have F28:=qR (st:=bA) l28 LN k28
 have LO:Binds K (W.fnOf "found_all" "found_all" (bJ bA) (bC bA) (au bA) (.ref bX) FH FI FJ Fw DW FL) ["dialects", "texts", "even"] []:=fun s us hK hl=>match us,hl with | [_,_,_],_=>BindsTo.of_defaults (T:=bX) rfl (hK _ _ Wj) rfl rfl rfl
 have WC:=aR (st:=dj) l29 c29 k29
 have b29:=WC.nh (ps:=["_law_script", "_law_k"])
 have WD:=aR (st:=fk) l30 c30 k30
 have b30:=WD.nh (ps:=["_law_number_here", "_law_salt"])
 have WE:=aR (st:=dX) l31 c31 k31
 have b31:=WE.nh (ps:=["_law_cell", "_law_salt"])
 have WG:=aR (st:=f7) l32 c32 k32
 have b32:=WG.rO (ps:=["_law_number_here", "_law_many", "_law_menu_here"])
 have WH:=aR (st:=fq) l33 c33 k33
 have b33:=WH.pK (ps:=["_law_way"])
 have WI:=aR (st:=f9) l34 c34 k34
 have b34:=WI.pK (ps:=["_law_cell"])
 have WJ:=aR (st:=dH) l35 c35 k35
 have b35:=WJ.nh (ps:=["_law_cell", "_law_many"])
 have WK:=aR (st:=gb) l36 c36 k36
 have b36:=WK.nh (ps:=["_law_told_here", "_law_x"])
 have WL:=aR (st:=fu) l37 c37 k37
 have b37:=WL.nh (ps:=["_law_cells", "_law_many"])
 have WM:=aR (st:=gc) l38 Ri k38
 have Rj:=WM.pK (ps:=["_law_tolds_here"])
 have WN:=aR (st:=eV) l39 c39 k39
 have b39:=WN.rO (ps:=["_law_cell", "_law_tolds_here", "_law_most"])
 have WO:=aR (st:=aW) l40 c40 k40
 have b40:=WO.nh (ps:=["_law_dialects", "_law_text_here"])
 have WQ:=aR (st:=cz) l41 c41 k41
 have b41:=WQ.rO (ps:=["_law_dialects", "_law_one", "_law_other"])
 have WR:=aR (st:=nZ) l42 c42 k42
 have b42:=WR.pK (ps:=["_law_script"])
 have bf0:∃ ds,Vals [V.bl false] ds∧Binds K (W.fnOf "fallen" "fallen" (bJ di) (bC di) (au di) (.ref eX) Fx Fy Fz Ft DU FA) ["dialects", "text", "even"] ds:=⟨[.bool false],(.cons rfl .nil),fun s us hK hl=>by
  have hn:us.length=2:=by rw[List.length_append] at hl;simp only[List.length_cons,List.length_nil] at hl;omega
  exact match us,hn with | [_,_],_=>BindsTo.of_defaults (T:=eX) rfl (hK _ _ Wh) rfl rfl rfl⟩
 have bf1:∃ ds,Vals [V.bl false] ds∧Binds K (W.fnOf "found_all" "found_all" (bJ bA) (bC bA) (au bA) (.ref bX) FH FI FJ Fw DW FL) ["dialects", "texts", "even"] ds:=⟨[.bool false],(.cons rfl .nil),fun s us hK hl=>by
  have hn:us.length=2:=by rw[List.length_append] at hl;simp only[List.length_cons,List.length_nil] at hl;omega
  exact match us,hn with | [_,_],_=>BindsTo.of_defaults (T:=bX) rfl (hK _ _ Wj) rfl rfl rfl⟩
 have bf2:∃ ds,Vals [V.bl false] ds∧Binds K (W.fnOf "finding" "finding" (bJ cy) (bC cy) (au cy) (.ref dB) FD FE FF Fv DV FG) ["dialects", "text", "even"] ds:=⟨[.bool false],(.cons rfl .nil),fun s us hK hl=>by
  have hn:us.length=2:=by rw[List.length_append] at hl;simp only[List.length_cons,List.length_nil] at hl;omega
  exact match us,hn with | [_,_],_=>BindsTo.of_defaults (T:=dB) rfl (hK _ _ Wi) rfl rfl rfl⟩
 exact⟨W.fnOf "law" "law" (bJ nZ) (bC nZ) (au nZ) .none JJ JK JL Je FP JM,fun s v=>.of_eq rfl,fun base _ _=>Jd (az:=fun i=>[fH,cW,lY,cN,bT,dz,gO,cg,d9,fW,fX,eo,gP,cS,gh,gQ,wQ,o6,j4,wR,j5,gR,lZ,o7,o8,mh,mj,iU,iV,fJ,gS,fY,iW,gT,iX,gU,iY,gW,iZ,i6,cX,fK,fa,bg,iH,wU,bx,eX,dB,bX].getD i fa) (aN:=fun i=>[FN "is_printable" "is_printable" cu .none TF TH TJ R6 P5 TL,FN "has_signs_alone" "has_signs_alone" bK .none VJ VL VM VB TM VN,FN "is_text" "is_text" jx .none VO VP VQ VC TN VR,FN "are_unlike_signs" "are_unlike_signs" bE .none VS VT VU VD TQ VV,FN "__init__" "Dialect.__init__" aT (.ref bx) TR TU TV R7 P6 TX,FN "told" "Dialect.told" dh .none VW VX VY VE TY VZ,FN "dialect_of" "dialect_of" fc .none V0 V1 V2 VF TZ V3,FN "step_at_beginning" "step_at_beginning" bN .none V4 V5 V6 VG T4 V7,FN "step_in_plain" "step_in_plain" cO .none V8 V9 Wa VH T5 Wb,FN "step_within" "step_within" dU .none Wc Wd We VI T6 Wf,FN "step_behind" "step_behind" dW .none MH MI MJ L8 Jf MK,FN "step_in_doubt" "step_in_doubt" cP .none ML MN MO Ma Jg MP,FN "step_freed" "step_freed" ff .none MQ MR MS Mb Jh MT,FN "__init__" "Turn.__init__" cQ .none MU MV MW Mc Ji MX,FN "step" "Turn.step" fZ .none MY MZ M0 Me Jj M3,FN "check_text" "check_text" fh .none M4 M5 M6 Mf Jk M7,FN "walk" "walk" rP .none M8 M9 Na Mg Jl Nb,FN "end_of" "end_of" kI .none Nc Nd Nf Mh Jm Ng,FN "table_of" "table_of" ia .none Nh Ni Nj Mi Jo Nk,FN "read" "read" rQ .none Nl Nm Np Mj Jp Nq,FN "furthest" "furthest" ic .none Nr Nt Nu Ml Jq Nv,FN "uneven_row" "uneven_row" fj .none Nx Ny Nz Mm Jr NB,FN "fall_of" "fall_of" jy .none NC ND NF Mp Js NG,FN "fallen" "fallen" di (.ref eX) Fx Fy Fz Ft DU FA,FN "takers" "takers" kJ .none NH NI NJ Mq Jt NK,FN "last_of" "last_of" gY .none NL NN NO Mr Ju NP,FN "finding" "finding" cy (.ref dB) FD FE FF Fv DV FG,FN "takes_all" "takes_all" f6 .none NQ NR NS Ms Jv NT,FN "found_all" "found_all" bA (.ref bX) FH FI FJ Fw DW FL,FN "_law_cell_at" "_law_cell_at" dj .none NU NV NW Mt Jw NX,FN "_law_mixed" "_law_mixed" fk .none NY NZ N1 Mu Jx N2,FN "_law_number" "_law_number" dX .none N4 N5 N6 Mv Jy N7,FN "_law_some" "_law_some" f7 .none N8 N9 Oa Mw Jz Ob,FN "_law_menus" "_law_menus" fq .none Oc Od Oe Mx JA Og,FN "_law_told" "_law_told" f9 .none Oh Oi Oj Mz JB Ol,FN "_law_drawn" "_law_drawn" dH .none Om Oo Oq MA JC Ot,FN "_law_near" "_law_near" gb .none Ou Ov Ow MB JD Ox,FN "_law_tolds" "_law_tolds" fu .none Oz OA OB MC JE OC,FN "_law_menu" "_law_menu" gc .none OD OE OG MD JF OH,FN "_law_text" "_law_text" eV .none OI OJ OL ME JG OM,FN "_law_is_reading" "_law_is_reading" aW .none ON OO OP MF JH OQ,FN "_law_goes_on" "_law_goes_on" cz .none OR OS OT MG JI OU,FN "law" "law" nZ .none JJ JK JL Je FP JM].getD i (FN "is_printable" "is_printable" cu .none TF TH TJ R6 P5 TL)) (u7:=fun i=>[zS].getD i "") ⟨F0,b0,mo a0,
  F1,b1,mo a1,
  F2,b2,mo a2,
  F3,b3,mo a3,
  F4,b4,
  F5,b5,⟨a5,i5,k5⟩,
  F6,b6,mo a6,
  F7,b7,mo a7,
  F8,b8,mo a8,
  F9,b9,mo a9,
  Wl,b10,mo a10,
  Wm,Iz,mo Rv,
  Wn,b12,mo a12,
  Wo,b13,
  Wq,b14,⟨Fg,i14,Wg⟩,
  Wr,b15,mo a15,
  Ws,b16,mo a16,
  Wt,b17,mo a17,
  Wu,Fj,mo a18,
  Wv,b19,mo a19,
  Ww,b20,mo a20,
  Wx,b21,mo Fl,
  Wy,b22,mo a22,
  F23,b23,mo a23,
  Wz,b24,mo IU,
  WA,b25,mo a25,
  F26,b26,mo Rn,
  WB,b27,mo a27,
  F28,LO,mo a28,
  WC,b29,mo LQ,
  WD,b30,mo a30,
  WE,b31,mo LP,
  WG,b32,mo a32,
  WH,b33,mo a33,
  WI,b34,mo Rh,
  WJ,b35,mo a35,
  WK,b36,mo Rl,
  WL,b37,mo a37,
  WM,Rj,mo a38,
  WN,b39,mo Rm,
  WO,b40,mo a40,
  WQ,b41,mo Rk,
  WR,b42,mo Wk,
  ⟨zU,zV,zW,zX⟩,mo zT,⟨zY,a4,i4,zZ⟩,
  bL,
  bR,
  bM,
  dw,
  cB,
  cC,
  cR,
  ⟨FT,FU,FW,FY⟩,mo FQ,⟨FZ,a13,i13,Ga⟩,
  bu,
  bf0,
  bf1,
  bf2,
  mz O2,
  mz JT,
  mz yM,
  mz wV,
  mz O3,
  mz JU,
  mz O4,
  mz O5,
  mz z_ord,
  mz Gb,
  mz DX,
  mz O6,
  mz Ge,
  mz O7,
  ⟨_,mo JV⟩,JW,
  ⟨_,mo wW⟩,
  mo Gg,⟨_,_,_,Gi,rfl,rfl,(by show 2≤sizeLine;decide),(.cons ⟨_,rfl⟩ (.cons ⟨_,rfl⟩ .nil))⟩⟩⟩
theorem walk {l:W.OpenLaw}{q:Program}{loose:List Str}{XP:(Str→Option Value)→Heap→Prop}{YP:World→Heap→Prop}{d:DefRec}{K:Params→W.Frag} (hn:l.most=some 63) (hdf:d.params.defaults=[])
  (hY:∀(w:World) (h:Heap),YP w h→(K w.params).In h)
  (F:∀(w:World) (mg:Str→Option Value) (fa:Addr) (h:Heap),(K w.params).In h→h.Ns mainGlobals mg→mg d.name=some (.ref fa) →
   ∃ fd:FuncData,(∀(s:Shared) (u:Value),BindsTo s fd ⟨[u],[]⟩ [("_law_script",u)])∧∀ base:Heap,(K w.params).In base→base.Ns mainGlobals mg→aE l.prog w (K w.params) mg base bz 12 fa fd ["_law_script"] (wN (K w.params))) :
  W.WalkO q loose XP YP l.row.toRowW d [] (fun f vs=>PySem.call f vs) :=
 L2.Ex (n:=63) (k:=12) (x := "_law_script") (CX:=fun _=>bz) (sp:=fun w=>wN (K w.params)) hn (by decide) hdf ⟨rfl,by decide,by decide⟩ hY F (fun _ _ a ns hl _ hS=>⟨a,ns,rfl,hS,hl,fun _=>rfl⟩) fun _ _ _ _ _ z=>z
end My
def PySem.W.Fast.tw17646366652755172172:Unit:=()
def PySem.W.Fast.tw4209989368977362478:Unit:=()
def PySem.W.Fast.tw2767548495886628042:Unit:=()
def PySem.W.Fast.tw3577158095995494689:Unit:=()
def PySem.W.Fast.tw16104250269079600431:Unit:=()
def PySem.W.Fast.tw5770688935307994995:Unit:=()
def PySem.W.Fast.tw14519951587607984562:Unit:=()
def PySem.W.Fast.tw5893133297203620737:Unit:=()
def PySem.W.Fast.tw7939657175783723413:Unit:=()
def PySem.W.Fast.tw16606794707566314781:Unit:=()
def PySem.W.Fast.tw12085001915664277902:Unit:=()
def PySem.W.Fast.tw11759965172559368294:Unit:=()
def PySem.W.Fast.tw78369838252512839:Unit:=()
def PySem.W.Fast.tw16333962202244080858:Unit:=()
def PySem.W.Fast.tw17300435529170871534:Unit:=()
def PySem.W.Fast.tw12490012024056109197:Unit:=()
def PySem.W.Fast.tw16430113973158516736:Unit:=()
def PySem.W.Fast.tw15987919929968065124:Unit:=()
def PySem.W.Fast.tw8672828550481350041:Unit:=()
def PySem.W.Fast.tw11709696206667498678:Unit:=()
def PySem.W.Fast.tw12791289383300855213:Unit:=()
def PySem.W.Fast.tw7316279513066291937:Unit:=()
def PySem.W.Fast.tw12827079865989855399:Unit:=()
def PySem.W.Fast.tw11245108804913083698:Unit:=()
def PySem.W.Fast.tw17896041714248842300:Unit:=()
def PySem.W.Fast.tw5147113461364874727:Unit:=()
def PySem.W.Fast.tw7295745356259638563:Unit:=()
def PySem.W.Fast.tw3770433124840560052:Unit:=()
def PySem.W.Fast.tw18122380244743723753:Unit:=()
def PySem.W.Fast.tw8592216508557957845:Unit:=()
def PySem.W.Fast.tw13231037626964472077:Unit:=()
def PySem.W.Fast.tw3921585290669492335:Unit:=()
def PySem.W.Fast.tw2544482175082780250:Unit:=()
def PySem.W.Fast.tw12637170319952085704:Unit:=()
def PySem.W.Fast.tw10087109433862899746:Unit:=()
def PySem.W.Fast.tw2664170786836729786:Unit:=()
def PySem.W.Fast.tw9036945137637128670:Unit:=()
def PySem.W.Fast.tw1725299928826320244:Unit:=()
def PySem.W.Fast.tw7636224147402315953:Unit:=()
def PySem.W.Fast.tw11368423151871790131:Unit:=()
def PySem.W.Fast.tw13783725973989152397:Unit:=()
def PySem.W.Fast.tw18033643592966520647:Unit:=()
def PySem.W.Fast.tw9086637160308149910:Unit:=()
def PySem.W.Fast.tw5282148746635807470:Unit:=()
def PySem.W.Fast.tw11057026092585914631:Unit:=()
def PySem.W.Fast.tw17275531579133379425:Unit:=()
def PySem.W.Fast.tw3859008961729381423:Unit:=()
def PySem.W.Fast.tw14710409282393036855:Unit:=()
def PySem.W.Fast.tw10861376300746166456:Unit:=()
def PySem.W.Fast.tw9779935896203175958:Unit:=()
def PySem.W.Fast.tw12720151646956949499:Unit:=()
def PySem.W.Fast.tw177555363922563789:Unit:=()
def PySem.W.Fast.tw17408042743756741889:Unit:=()
def PySem.W.Fast.tw6131639746916259892:Unit:=()
def PySem.W.Fast.tw16912501972692847796:Unit:=()
def PySem.W.Fast.tw4502810117215533887:Unit:=()
def PySem.W.Fast.tw11743797725595046034:Unit:=()
def PySem.W.Fast.tw10508778158264384834:Unit:=()
def PySem.W.Fast.tw13695734160982503374:Unit:=()
def PySem.W.Fast.tw16830567104838765376:Unit:=()
def PySem.W.Fast.tw2343553242341308393:Unit:=()
def PySem.W.Fast.tw514842242729252171:Unit:=()
def PySem.W.Fast.tw16931669272689604701:Unit:=()
def PySem.W.Fast.tw3327388296902576870:Unit:=()
def PySem.W.Fast.tw14370359147107190250:Unit:=()
def PySem.W.Fast.tw3903758877617107994:Unit:=()
def PySem.W.Fast.tw1701460785276210736:Unit:=()
def PySem.W.Fast.tw2538242095697926868:Unit:=()
def PySem.W.Fast.tw3723330996852233:Unit:=()
def PySem.W.Fast.tw11425168871858148533:Unit:=()
def PySem.W.Fast.tw15757532010198061241:Unit:=()
def PySem.W.Fast.tw3733035703013462511:Unit:=()
open PySem PySem.W PyProof.Rows
set_option maxRecDepth 100000 in
set_option maxHeartbeats 0 in
theorem PySem.Challenge.cw_dialecthall_k58_whole_farther_on_holds : PySem.Challenge.rw_dialecthall_k58_whole_farther_on.Holds := by
 w_on;o_law;k_head;(case hw=>w_witness2)
 k_fill
 refine My.walk (l:=PySem.Challenge.rw_dialecthall_k58_whole_farther_on) rfl rfl (fun w h Y=>W.kIn_of Y) ?F
 case F =>
  intro w mg fa h KX G hmg
  refine' My.all_mk KX G hmg ?_ ?_ ?_ ?_ ?_ ?_ ?_ ?_ ?_ ?_ ?_ ?_ ?_ ?_ ?_ ?_ ?_ ?_ ?_ ?_ ?_ ?_ ?_ ?_ ?_ ?_ ?_ ?_ ?_ ?_ ?_ ?_ ?_ ?_ ?_ ?_ ?_ ?_ ?_ ?_ ?_ ?_ ?_ ?_ ?_ ?_ ?_ ?_ ?_ ?_ ?_ ?_ ?_ ?_ ?_ ?_ ?_ ?_ ?_ ?_ ?_ ?_ ?_ ?_ ?_ ?_ ?_ ?_ ?_ ?_ ?_ ?_ ?_ ?_ ?_ ?_ ?_ ?_ ?_ ?_ ?_ ?_ ?_ ?_ ?_ ?_ ?_ ?_ ?_ ?_ ?_ ?_ ?_ ?_ ?_ ?_ ?_ ?_ ?_ ?_ ?_ ?_ ?_ ?_ ?_ ?_ ?_ ?_ ?_ ?_ ?_ ?_ ?_ ?_ ?_ ?_ ?_ ?_ ?_ ?_ ?_ ?_ ?_ ?_ ?_ ?_ ?_ ?_ ?_ ?_ ?_ ?_ ?_ ?_ ?_ ?_ ?_ ?_ ?_ ?_ ?_ ?_ ?_ ?_ ?_ ?_ ?_ ?_ ?_ ?_ ?_ ?_ ?_ ?_ ?_ ?_ ?_ ?_ ?_ ?_ ?_ ?_ ?_ ?_ ?_ ?_ ?_ ?_ ?_ ?_ ?_ ?_ ?_ ?_ ?_ ?_ ?_ ?_ ?_ ?_ ?_ ?_ ?_ ?_ ?_ ?_ ?_ ?_ ?_ ?_ ?_ ?_ ?_ ?_ ?_ ?_ ?_ ?_ ?_ ?_ ?_ ?_ ?_ ?_ ?_ ?_ ?_ ?_ ?_ ?_ ?_ ?_ ?_ ?_ ?_ ?_ ?_ ?_ ?_ ?_ ?_
  all_goals try first | k_is | rfl
